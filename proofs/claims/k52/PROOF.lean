import PyProof.Rows.All
import Wide.All
import OpenK.AllK
import Wide.FinOn
import PyProof.EqAt
import PyProof.EqKinds
import PyProof.TupleCall
import PyProof.CompFree
import PyProof.EvalArms
import KE.BitLaws
import OpenK.KOwn
import KE.KIsAll
import PyProof.ExcArgsOwn
import PyProof.IsiH_list
import PyProof.NsDelKeeps
import PyProof.ExcAttrAll.ValueError
import PyProof.ExcBaseAll.ValueError
import PyProof.ZipIter
import PyProof.Rows.SumAny
import KE.LcSums
import PyProof.SetRoads
import PyProof.Rows.SetFrom
import KE.KSetDisp
import PyProof.DictIter
import PyProof.DictRoadsH
import PyProof.Rows.TupDisplay
import PyProof.FString
import PyProof.FactsAll.list_1
import PyProof.CollectWalk
import PyProof.StrWalks
import PyProof.StrLawsTight
import PyProof.StrLawsChain
import PyProof.StrLawsIn
import PyProof.StrCalls2
import PyProof.StrBlockG
import PyProof.SliceStr2
import KE.KIntText
import PyProof.CollectIter
import PyProof.Walks
import PyProof.SetKind
import PyProof.TupleKey
import PyProof.IsRules
import PyProof.SetNew
import PyProof.StrOps2
import PyProof.Rows.Range3
import PyProof.DictCompW
import KE.KDictSum
import PyProof.Rows.SeqMore
import PyProof.Rows.SortRuns
import KE.KSortAsk
import PyProof.DictItems
import KE.KPairComp
import PyProof.Rows.StrRules
import KE.KSortTup
import PyProof.NeKinds
import KE.KRevIter
import PyProof.FactsAll.range_2
import KE.KDictList
import PyProof.WalkInts
import PySem.Challenge.RW_turnline_k52_whole_finer_runs
abbrev aa:=@List.length_map
abbrev ae:=@PySem.wpAny_bind
abbrev af:=@List.getElem?_eq_some_iff
abbrev ag:=@List.getElem?_eq_getElem
abbrev ah:=@List.length_append
abbrev ai:=@List.mem_map
abbrev ak:=@List.getElem?_append_left
abbrev ao:=@List.getElem?_map
abbrev aq:=@PySem.wpAny_pure
abbrev au:=@Nat.le_refl
abbrev av:=@List.getElem?_append_right
abbrev aw:=@List.map_append
abbrev ax:=@List.mem_of_getElem?
abbrev ay:=@List.mem_append
abbrev az:=@List.mem_append_right
abbrev aA:=@List.length_singleton
abbrev aB:=@List.mem_cons_self
abbrev aC:=@List.mem_cons_of_mem
abbrev aD:=@PySem.Heap.get?_push_of_some
abbrev aE:=@PySem.Heap.lt_size
abbrev aF:=@Bool.false_ne_true
abbrev aG:=@List.mem_append_left
abbrev aH:=@if_neg
abbrev aI:=@List.size_toArray
abbrev aJ:=@List.getD_eq_getElem?_getD
abbrev aK:=@List.mem_cons
abbrev aL:=@PySem.F.plainAttrs_list
abbrev aM:=@if_pos
abbrev aN:=@List.map_cons
abbrev aO:=@List.length_cons
abbrev aP:=@Nat.zero_le
abbrev aQ:=@List.take_add_one
abbrev aR:=@List.mem_iff_getElem
abbrev aS:=@Nat.ne_of_lt
abbrev aT:=@PySem.Heap.get?_push_size
abbrev aU:=@Option.some.inj
abbrev aV:=@Nat.sub_self
abbrev aW:=@PySem.PassesOwn.never
abbrev aX:=@PySem.W.mg_none_of
abbrev aY:=@Nat.lt_of_lt_of_le
abbrev aZ:=@List.mem_singleton
abbrev bc:=@List.getLastD_eq_getLast?
abbrev bf:=@List.take_length
abbrev bg:=@List.length_take
abbrev bh:=@PySem.F.type_list_append
abbrev bj:=@PySem.F.slot_list_append
abbrev bo:=@decide_eq_false
abbrev bq:=@PySem.wpAny_mono
abbrev br:=@List.mem_filter
abbrev bu:=@List.nodup_cons
abbrev bx:=@List.nodup_append
abbrev bz:=@Int.min_eq_left
abbrev bA:=@Int.max_eq_left
abbrev bB:=@List.getElem?_eq_none
abbrev bC:=@Int.min_eq_right
abbrev bD:=@Int.max_eq_right
abbrev bE:=@Nat.le_trans
abbrev bF:=@Ne.symm
abbrev bG:=@decide_eq_true
abbrev bH:=@PySem.F.excBase_ValueError
abbrev bI:=@List.prefix_refl
abbrev bJ:=@List.map_map
abbrev bK:=@Bool.false_eq_true
abbrev bL:=@List.dropLast_concat_getLast
abbrev bM:=@List.lookup_cons
abbrev bN:=@List.length_filter_le
abbrev bO:=@Nat.le_of_lt
abbrev bP:=@Bool.eq_iff_iff
abbrev bQ:=@congrArg
abbrev bR:=@PySem.Paired.length
abbrev bS:=@List.length_drop
abbrev bT:=@PyProof.Rows.callWith_type1
abbrev bU:=@PySem.F.slot_dict_keyiterator_next
abbrev bV:=@Prod.mk.injEq
abbrev bW:=@PySem.wpAny_call_entry
abbrev bX:=@List.take_of_length_le
abbrev bY:=@List.pairwise_map
abbrev bZ:=@List.foldl_append
abbrev b8:=@List.find?_cons
abbrev b9:=@List.getLast?_eq_getElem?
abbrev cf:=@PySem.wpAny_newObj_type
abbrev cg:=@decide_eq_true_iff
abbrev cj:=@Nat.lt_of_le_of_lt
abbrev ck:=@Int.emod_lt_of_pos
abbrev cm:=@List.dropLast_concat
abbrev cq:=@List.getElem?_cons_succ
abbrev cu:=@List.append_assoc
abbrev cw:=@List.length_zip
abbrev cx:=@Int.emod_nonneg
abbrev cy:=@PySem.mem_of_lookup
abbrev cz:=@List.replicate_succ
abbrev cA:=@List.length_reverse
abbrev cB:=@PySem.F.slot_dict_itemiterator_next
abbrev cC:=@PySem.wpAny_truthy_bool
abbrev cD:=@if_false
abbrev cE:=@List.getElem?_drop
abbrev cF:=@PySem.wpAny_standAt
abbrev cG:=@List.forIn_cons
abbrev cH:=@of_decide_eq_true
abbrev cI:=@List.length_range
abbrev cJ:=@List.flatMap_cons
abbrev cK:=@Option.isSome_iff_exists
abbrev cL:=@Bool.not_true
abbrev cM:=@Array.length_toList
abbrev cN:=@PySem.boot_len
abbrev cO:=@Prod.ext
abbrev cP:=@List.not_mem_nil
abbrev cQ:=@List.mem_range
abbrev cR:=@List.getElem_inj
abbrev cS:=@PySem.wpAny_holding
abbrev cT:=@Nat.ne_of_gt
abbrev cU:=@List.prefix_append
abbrev cV:=@PySem.wpAny_typeNameOfWhole_itemiter
abbrev cW:=@PyProof.Rows.boot_isinstance
abbrev cX:=@List.length_nil
abbrev cY:=@List.append_nil
abbrev cZ:=@PySem.wpAny_typeNameOfWhole_keyiter
abbrev de:=@List.reverse_cons
abbrev dg:=@PySem.wpAny_passesOwn
abbrev dh:=@List.nodup_nil
abbrev di:=@List.mem_flatMap
abbrev dj:=@List.getElem_map
abbrev dq:=@PySem.wpAny_dictEntries
abbrev dt:=@PySem.PassesOwn.leaving
abbrev dy:=@List.getElem?_zip_eq_some
abbrev dz:=@Classical.byContradiction
abbrev dA:=@List.flatMap_append
abbrev dB:=@PySem.sizeLine_eq
abbrev dC:=@Nat.lt_succ_iff_lt_or_eq
abbrev dD:=@Nat.lt_irrefl
abbrev dE:=@List.Pairwise.imp_of_mem
abbrev dF:=@List.foldl_cons
abbrev dG:=@PySem.wpAny_typeNameOf_itemiter
abbrev dH:=@PySem.wpAny_typeNameOf_keyiter
abbrev dN:=@PySem.wpAny_comprehension_free
abbrev dO:=@Option.map_eq_some_iff
abbrev dQ:=@List.Pairwise.imp
abbrev dS:=@Int.toNat_natCast
abbrev dU:=@PySem.wpAny_dictEpoch
abbrev dW:=@PyProof.Rows.boot_tuple
abbrev dX:=@PySem.wpAny_setField_rec
abbrev dY:=@PySem.wpAny_callSpecial?_slot
abbrev dZ:=@List.take_append_drop
abbrev d8:=@Array.getElem?_toList
abbrev d9:=@List.cons_append
abbrev ed:=@List.any_eq_true
abbrev eg:=@List.length_dropLast
abbrev eh:=@List.getElem?_set_ne
abbrev en:=@Nat.not_lt_zero
abbrev eu:=@List.nil_append
abbrev ez:=@List.length_set
abbrev eA:=@beq_eq_false_iff_ne
abbrev eB:=@List.reverse_append
abbrev eC:=@List.mem_map_of_mem
abbrev eD:=@List.filterMap_cons
abbrev eE:=@PySem.wpAny_isInstance
abbrev eG:=@if_true
abbrev eI:=@PySem.call_meets
abbrev eJ:=@PySem.wpAny_specialOf
abbrev eK:=@PySem.wpAny_execs_nil
abbrev eL:=@PySem.F.slot_dict_getitem
abbrev eM:=@List.mem_of_find?_eq_some
abbrev eN:=@Array.getElem?_eq_getElem
abbrev eO:=@Option.isSome_map
abbrev eQ:=@List.flatten_cons
abbrev eR:=@PySem.F.slot_list_insert
abbrev eS:=@List.map_drop
abbrev eT:=@List.getElem?_take_of_lt
abbrev eU:=@PyProof.Rows.boot_list
abbrev eV:=@PySem.wpAny_Call_Name_kw
abbrev eW:=@Nat.le_add_right
abbrev eX:=@List.map_reverse
abbrev eY:=@Bool.and_eq_true
set_option Elab.async false
set_option linter.all false
set_option maxRecDepth 100000
namespace L2
open PySem PySem.Spec PyProof.Rows
abbrev Key:=Sum Int Str
def vS:Key->Value->Bool
 |.inl k,v=>Value.isInt k v
 |.inr x,v=>Value.isStrOf x v
def Na (w:World):Key->Int
 |.inl k=>hashInt k
 |.inr x=>hashStr w x
theorem iO:∀ {k:Key}{v:Value},vS k v=true->(∃ i t,k=Sum.inl i/\v=Value.int i t)\/(∃ x t,k=Sum.inr x/\v=Value.str x t)
 |.inl i,v,h=>by
  obtain⟨t,e⟩:=Value.isInt_shape (k:=i) (v:=v) h
  exact .inl ⟨i,t,rfl,e⟩
 |.inr x,v,h=>by
  obtain⟨t,e⟩:=Value.isStrOf_shape (x:=x) (v:=v) h
  exact .inr ⟨x,t,rfl,e⟩
theorem BG (i:Int)(t:Tok):vS (.inl i) (.int i t)=true:=by simp[vS,Value.isInt]
theorem BF (x:Str)(t:Tok):vS (.inr x) (.str x t)=true:=by simp[vS,Value.isStrOf]
theorem Hf (a b:Int):decide ((Sum.inl a:Key)=Sum.inl b)=(a==b):=by
 by_cases e:a=b
 ·subst e;simp
 ·have h:¬(Sum.inl a:Key)=Sum.inl b:=λq=>e (Sum.inl.inj q)
  rw[bo h]
  exact(eA.mpr e).symm
theorem Hc (a b:Str):decide ((Sum.inr a:Key)=Sum.inr b)=decide (a=b):=by
 by_cases e:a=b
 ·subst e;simp
 ·have h:¬(Sum.inr a:Key)=Sum.inr b:=λq=>e (Sum.inr.inj q)
  rw[bo h,bo e]
theorem He (a:Int)(b:Str):decide ((Sum.inl a:Key)=Sum.inr b)=false:=bo (λq=>nomatch q)
theorem Hd (a:Str)(b:Int):decide ((Sum.inr a:Key)=Sum.inl b)=false:=bo (λq=>nomatch q)
def gU (prog:Program)(w:World):PySem.KeyKind prog w Key where
 is:=vS
 hash:=Na w
 inj:=λv a b ha hb=>by
  rcases iO ha with⟨i,t,rfl,rfl⟩|⟨x,t,rfl,rfl⟩
  ·rcases iO hb with⟨j,u,rfl,e⟩|⟨y,u,rfl,e⟩
   ·injection e with e1 _;rw[e1]
   ·exact nomatch e
  ·rcases iO hb with⟨j,u,rfl,e⟩|⟨y,u,rfl,e⟩
   ·exact nomatch e
   ·injection e with e1 _;rw[e1]
 byValue:=λk v h=>by
  rcases iO h with⟨i,t,rfl,rfl⟩|⟨x,t,rfl,rfl⟩<;>rfl
 pyHash:=λhv h=>by
  rcases iO hv with⟨i,t,rfl,rfl⟩|⟨x,t,rfl,rfl⟩
  ·exact wpAny_pyHash_int h
  ·exact wpAny_pyHash_str h
 eqBool:=λhu hv h=>by
  rcases iO hu with⟨i,t,rfl,rfl⟩|⟨x,t,rfl,rfl⟩
  ·rcases iO hv with⟨j,u,rfl,rfl⟩|⟨y,u,rfl,rfl⟩
   ·rw[Hf]at h;exact wpAny_eqBool_int h
   ·rw[He]at h;exact SeqAt.EqAt.int_str i t y u _ _ _ _ h
  ·rcases iO hv with⟨j,u,rfl,rfl⟩|⟨y,u,rfl,rfl⟩
   ·rw[Hd]at h;exact SeqAt.EqAt.str_int x t j u _ _ _ _ h
   ·rw[Hc]at h;exact wpAny_eqBool_str h
 «strs» :=λk x t v h=>by
  rcases iO h with⟨i,u,rfl,e⟩|⟨y,u,rfl,e⟩
  ·exact nomatch e
  ·injection e with e1 _
   subst e1
   cases v<;>rfl
theorem yp (prog:Program)(w:World)(i:Int)(t:Tok):(gU prog w).is (.inl i) (.int i t)=true:=BG i t
theorem yo (prog:Program)(w:World)(x:Str)(t:Tok):(gU prog w).is (.inr x) (.str x t)=true:=BF x t
inductive V where
 |non |bl (b:Bool)|int (i:Int)|str (x:Str)|byt (b:Array UInt8)|flt (b:UInt64)|ref (a:Addr)|ty (n:String)
 deriving DecidableEq
def RelV:V->Value->Prop
 |.non,u=>u=Value.none
 |.bl b,u=>u=Value.bool b
 |.int i,u=>∃ t,u=Value.int i t
 |.str x,u=>∃ t,u=Value.str x t
 |.byt b,u=>∃ t,u=Value.bytes b t
 |.flt b,u=>∃ t,u=Value.float b t
 |.ref a,u=>u=Value.ref a
 |.ty n,u=>u=Value.type n
abbrev Vals:List V->List Value->Prop:=Paired RelV
variable {us:List Value}
theorem Vals.length {xs:List V}(r:Vals xs us):xs.length=us.length:=bR r
theorem Vals.get:∀ {xs:List V}{us:List Value}{i:Nat}{x:V},Vals xs us->xs[i]? = some x->∃ u,us[i]? = some u/\RelV x u
 |_,_,_,_,.nil,e=>by simp at e
 |_,_,0,_,.cons r _,e=>by simp at e;subst e;exact⟨_,rfl,r⟩
 |_,_,i+1,x,.cons _ t,e=>by
  obtain⟨u,h1,h2⟩:=Vals.get (i:=i) (x:=x) t (by simpa using e)
  exact⟨u,by simpa using h1,h2⟩
theorem Vals.set {x:V}{u:Value}(r:RelV x u):∀ {xs:List V}{us:List Value} (i:Nat),Vals xs us->Vals (xs.set i x) (us.set i u)
 |_,_,_,.nil=>.nil
 |_,_,0,.cons _ t=>.cons r t
 |_,_,i+1,.cons q t=>.cons q (Vals.set r i t)
theorem Vals.append:∀ {xs ys:List V}{us ws:List Value},Vals xs us->Vals ys ws->Vals (xs++ys) (us++ws)
 |_,_,_,_,.nil,s=>s
 |_,_,_,_,.cons r t,s=>.cons r (Vals.append t s)
theorem Vals.take:∀ {xs:List V}{us:List Value} (n:Nat),Vals xs us->Vals (xs.take n) (us.take n)
 |_,_,0,_=>.nil
 |_,_,_+1,.nil=>.nil
 |_,_,n+1,.cons r t=>.cons r (Vals.take n t)
theorem Vals.drop:∀ {xs:List V}{us:List Value} (n:Nat),Vals xs us->Vals (xs.drop n) (us.drop n)
 |_,_,0,r=>r
 |_,_,_+1,.nil=>.nil
 |_,_,n+1,.cons _ t=>Vals.drop n t
def si:Option V->Option Value->Prop
 |some v,some u=>RelV v u
 |none,none=>True
 |_,_=>False
def KV {κ:Type} :List (κ×V)->List (κ×Value)->Prop:=Paired λ(p:κ×V) (q:κ×Value)=>p.1=q.1/\RelV p.2 q.2
def kV:Key->V
 |.inl i=>.int i
 |.inr x=>.str x
inductive HO where
 /-- a list -/
 |lst (xs:List V)
 /-- a tuple (never changes) -/
 |tup (xs:List V)
 /-- a dict HV keys are ints and texts;one HV keys are tuples of ints and texts (the empty one is both) -/
 |dK (kvs:List (Key×V))|dT (kvs:List (List Key×V))
 /-- a set of ints:its members,its size -/
 |set (S:Int->Bool) (n:Nat)
 /-- an instance of the class at C,its dict at dx,its attributes -/
 |ins (C dx:Addr) (fs:List (Str×V))
 /-- the dict of the instance at x -/
 |own (x:Addr)
 /-- the dict of an exception -/
 |xd (fs:List (Str×V))
 /-- a bound method,f of x -/
 |met (f x:Addr)
 /-- a range object lo,lo+1,.. below hi -/
 |rng (lo hi:Int)
 /-- a Ic Ra is known to the object (the KS;a dict while a loop walks it):read,never written while it is so -/
 |frz (o:Obj) (u:HO)
 /-- a code IQ table -/
 |tbl (ps:Array Value)
 /-- any other Ic,by Q9 is true of its one object (a def of Q8 own:Q3 a S n:=HO.ext λh=>..) -/
 |ext (φ:Heap->Prop)
abbrev Hp:=Addr->Option HO
def upd (H:Hp)(a:Addr)(o:HO):Hp:=λb=>if b=a then some o else H b
variable {H:Hp}{a:Addr}{o:HO}
theorem fg:upd H a o a=some o:=by unfold upd;rw[aM rfl]
variable {b:Addr}
theorem fm (h:b≠a):upd H a o b=H b:=by unfold upd;rw[aH h]
theorem qh {u:HO} :upd (upd H a o) a u=upd H a u:=by
 funext b;unfold upd;split<;>rfl
theorem fU {u:HO}(h:H a=some o)(h':H b=some u)(d:o≠u):a≠b:=by
 intro e;subst e;rw[h]at h';exact d (aU h')
theorem fw (h:H a=some o)(h':H b=none):a≠b:=by
 intro e;subst e;rw[h]at h';cases h'
section
variable (P:Program)(w:World)
def iQ (H:Hp)(h:Heap)(a:Addr):HO->Prop
 |.lst xs=>xs.length<=sizeLine/\∃ (its:List Value) (n:Nat),Vals xs its/\h.get? a=some {cls:=.type "list",data:=.seq its.toArray n}
 |.tup xs=>xs.length<=sizeLine/\∃ its:List Value,Vals xs its/\IsTup h a its.toArray
 |.dK kvs=>kvs.length<=sizeLine/\(a==sysModules)=false/\∃ vs,KV kvs vs/\h.DictOf (gU P w) a vs
 |.dT kvs=>kvs.length<=sizeLine/\(a==sysModules)=false/\∃ xs:List (List Key×Addr×Value),
   Paired (λ(p:List Key×V) (q:List Key×Addr×Value)=>p.1=q.1/\H q.2.1=some (.tup (p.1.map kV))/\RelV p.2 q.2.2) kvs xs/\
   ∃ o es ep,h.get? a=some o/\o.ExactDict/\o.data = .dict es ep/\es.toList=xs.map (entryOfKey (tupleKind (gU P w)))/\(xs.map (·.1)).Nodup
 |.set S n=>h.SetOf (intKind P w) a S n
 |.ins C dx fs=>H dx=some (.own a)/\fs.length<=1000/\dx≠a/\h.get? a=some (PySem.W.instObj C dx)/\
   ∃ mA,h.Ns1 dx mA/\(∀ f,si (fs.lookup f) (mA f))/\PySem.Within mA (fs.map (·.1))
 |.own _=>∃ o,h.get? a=some o
 |.xd fs=>∃ mA,h.Ns1 a mA/\∀ f,si (fs.lookup f) (mA f)
 |.rng lo hi=>∃ t u v,h.get? a=some {cls:=.type "range",data:=.fields #[.int lo t,.int hi u,.int 1 v]}
 |.frz o u=>h.get? a=some o/\iQ H h a u
 |.tbl ps=>h.get? a=some {cls:=.none,data:=.fields ps}
 |.met f x=>h.get? a=some (PySem.W.methodObj (.ref f) (.ref x))
 |.ext φ=>φ h/\(∃ o,h.get? a=some o)/\∀ h1 h2:Heap,φ h1->(∀ o,h1.get? a=some o->h2.get? a=some o)->φ h2
def HOk (H:Hp)(h:Heap):Prop:=∀ a o,H a=some o->iQ P w H h a o
end
section
variable {P:Program}{w:World}{H H':Hp}{h h':Heap}{a:Addr}{o:HO}
theorem iQ.lt (x:iQ P w H h a o):a<h.objs.size:=by
 cases o with
 |lst xs=>obtain⟨_,_,_,_,e⟩:=x;exact aE e
 |tup xs=>obtain⟨_,_,_,p⟩:=x;exact p.lt
 |dK kvs=>obtain⟨_,_,_,_,o,_,_,e,_⟩:=x;exact aE e
 |dT kvs=>obtain⟨_,_,_,_,o,_,_,e,_⟩:=x;exact aE e
 |set S n=>obtain⟨o,_,_,_,e,_⟩:=x;exact aE e
 |ins C dx fs=>obtain⟨_,_,_,e,_⟩:=x;exact aE e
 |own y=>obtain⟨_,e⟩:=x;exact aE e
 |xd fs=>obtain⟨_,⟨_,_,_,e,_⟩,_⟩:=x;exact aE e
 |rng lo hi=>obtain⟨_,_,_,e⟩:=x;exact aE e
 |frz ob u=>obtain⟨e,_⟩:=x;exact aE e
 |tbl ps=>exact aE (show h.get? a=some _ from x)
 |met f y=>exact aE (show h.get? a=some _ from x)
 |ext φ=>obtain⟨_,⟨_,e⟩,_⟩:=x;exact aE e
theorem Paired.G0 {α β:Type}{F G:α->β->Prop} :∀ {l₁:List α}{l₂:List β},Paired F l₁ l₂->(∀ a b,F a b->G a b)->Paired G l₁ l₂
 |_,_,.nil,_=>.nil
 |_,_,.cons r t,f=>.cons (f _ _ r) (Paired.G0 t f)
theorem iQ.lD (x:iQ P w H h a o)(k:∀ b u,(b=a\/H b=some (.own a))->h.get? b=some u->h'.get? b=some u)
  (ho:∀ b,H b=some (.own a)->H' b=some (.own a)) (ht:∀ b xs,H b=some (.tup xs)->H' b=some (.tup xs)):iQ P w H' h' a o:=by
 induction o with
 |lst xs=>obtain⟨z,its,n,r,e⟩:=x;exact⟨z,its,n,r,k _ _ (.inl rfl) e⟩
 |tup xs=>obtain⟨z,its,r,ob,e,c⟩:=x;exact⟨z,its,r,ob,k _ _ (.inl rfl) e,c⟩
 |dK kvs=>obtain⟨z,y,vs,r,ob,es,ep,e,c⟩:=x;exact⟨z,y,vs,r,ob,es,ep,k _ _ (.inl rfl) e,c⟩
 |dT kvs=>
  obtain⟨z,y,xs,r,ob,es,ep,e,c⟩:=x
  exact⟨z,y,xs,Paired.G0 r λp q z=>⟨z.1,ht _ _ z.2.1,z.2.2⟩,ob,es,ep,k _ _ (.inl rfl) e,c⟩
 |set S n=>obtain⟨ob,es,ep,t,e,c⟩:=x;exact⟨ob,es,ep,t,k _ _ (.inl rfl) e,c⟩
 |ins C dx fs=>
  obtain⟨d,z,ne,e,mA,⟨od,es,ep,e2,c⟩,r⟩:=x
  exact⟨ho _ d,z,ne,k _ _ (.inl rfl) e,mA,⟨od,es,ep,k _ _ (.inr d) e2,c⟩,r⟩
 |own y=>obtain⟨ob,e⟩:=x;exact⟨ob,k _ _ (.inl rfl) e⟩
 |xd fs=>obtain⟨mA,⟨od,es,ep,e,c⟩,r⟩:=x;exact⟨mA,⟨od,es,ep,k _ _ (.inl rfl) e,c⟩,r⟩
 |rng lo hi=>obtain⟨t,u,v,e⟩:=x;exact⟨t,u,v,k _ _ (.inl rfl) e⟩
 |frz ob u ih=>obtain⟨e,q⟩:=x;exact⟨k _ _ (.inl rfl) e,ih q⟩
 |tbl ps=>
  have e:h.get? a=some {cls:=.none,data:=.fields ps} :=x
  show h'.get? a=some {cls:=.none,data:=.fields ps}
  exact k a _ (.inl rfl) e
 |met f y=>
  have e:h.get? a=some (PySem.W.methodObj (.ref f) (.ref y)):=x
  show h'.get? a=some (PySem.W.methodObj (.ref f) (.ref y))
  exact k a _ (.inl rfl) e
 |ext φ=>obtain⟨p,⟨o,e⟩,st⟩:=x;exact⟨st _ _ p λo q=>k _ _ (.inl rfl) q,⟨o,k _ _ (.inl rfl) e⟩,st⟩
theorem HOk.lt (x:HOk P w H h)(e:H a=some o):a<h.objs.size:=(x a o e).lt
theorem HOk.fresh (x:HOk P w H h)(e:h.objs.size<=a):H a=none:=by
 cases q:H a with
 |none=>rfl
 |some u=>exact absurd (aY (x.lt q) e) (dD _)
theorem HOk.kept (x:HOk P w H h)(k:∀ b u,h.get? b=some u->h'.get? b=some u):HOk P w H h':=λa o e=>
 (x a o e).lD (λb u _ q=>k b u q) (λ_ q=>q) λ_ _ q=>q
theorem HOk.laid (x:HOk P w H h)(k:∀ b u,h.get? b=some u->h'.get? b=some u)(hp:h.objs.size<=a)(new:iQ P w (upd H a o) h' a o):HOk P w (upd H a o) h':=λb u e=>by
 have hn:=x.fresh hp
 by_cases hb:b=a
 ·subst hb;rw[fg]at e;cases e;exact new
 ·rw[fm hb]at e
  exact(x b u e).lD (λc v _ q=>k c v q) (λc q=>by rw[fm (fw q hn)];exact q) λc xs q=>by rw[fm (fw q hn)];exact q
end
def Rd (H:Hp)(a:Addr)(u:HO):Prop:=H a=some u\/∃ o,H a=some (.frz o u)
variable {P:Program}{w:World}
theorem Rd.ok {h:Heap}{u:HO}(r:Rd H a u)(x:HOk P w H h):iQ P w H h a u:=by
 rcases r with r |⟨o,r⟩
 ·exact x a u r
 ·obtain⟨_,q⟩:=x a _ r
  exact q
def Mut:Option HO->Prop
 |some (.lst _)=>True
 |some (.dK _)=>True
 |some (.dT _)=>True
 |some (.set _ _)=>True
 |some (.ins _ _ _)=>True
 |some (.ext _)=>True
 |_=>False
section
variable {P:Program}{w:World}{H:Hp}{h h':Heap}{x e:Addr}{o':HO}
theorem HOk.write (ok:HOk P w H h)(mu:Mut (H x))(he:e=x\/H e=some (.own x))(k:∀ b u,b≠e->h.get? b=some u->h'.get? b=some u)(heo:∃ u,h'.get? e=some u)
  (new:iQ P w (upd H x o') h' x o'):HOk P w (upd H x o') h':=λb u q=>by
 have IS:∀ c y,H c=some (.own y)->c≠x:=λc y r z=>by subst z;rw[r]at mu;exact mu
 have MX:∀ c xs,H c=some (.tup xs)->c≠x:=λc xs r z=>by subst z;rw[r]at mu;exact mu
 by_cases hb:b=x
 ·subst hb;rw[fg]at q;cases q;exact new
 ·rw[fm hb]at q
  by_cases hbe:b=e
  ·have q':H b=some (.own x):=by
    rcases he with z |z
    ·exact absurd (hbe.trans z) hb
    ·rw[hbe];exact z
   rw[q]at q';cases q'
   obtain⟨v,hv⟩:=heo
   exact⟨v,by rw[hbe];exact hv⟩
  ·refine(ok b u q).lD (λc v hc r=>k c v ?_ r) (λc r=>by rw[fm (IS c b r)];exact r) λc xs r=>by rw[fm (MX c xs r)];exact r
   rcases hc with rfl |hc
   ·exact hbe
   ·rintro rfl
    rcases he with z |z
    ·exact IS c b hc z
    ·rw[hc]at z;cases z;exact hb rfl
end
structure Un (fs ex:List Addr)(H H':Hp)(h h':Heap):Prop where
 keep:∀ b o,h.get? b=some o->H b=none->b∉fs->b∉ex->h'.get? b=some o
 slot:∀ b o,h.get? b=some o->H b=none->b∈fs->b∉ex->∃ sl,h'.get? b=some {o with slots:=sl}
 free:∀ b o,h.get? b=some o->H b=none->b∉ex->H' b=none
 there:∀ b o,h.get? b=some o->b∉ex->∃ o',h'.get? b=some o'
 ky:∀ b xs,H b=some (.tup xs)->H' b=some (.tup xs)
 nX:∀ b o u,H b=some (.frz o u)->H' b=some (.frz o u)
 pT:∀ b ps,H b=some (.tbl ps)->∃ more,H' b=some (.tbl (ps++more))
section
variable {fs fs' ex ex':List Addr}{H H1 H2:Hp}{h h1 h2 h':Heap}{a x e:Addr}{o:HO}
theorem Un.any (u:Un fs ex H H1 h h1){ob:Obj}(q:h.get? b=some ob)(n:H b=none)(hx:b∉ex):∃ sl,h1.get? b=some {ob with slots:=sl} :=by
 by_cases hb:b∈fs
 ·exact u.slot b ob q n hb hx
 ·exact⟨ob.slots,u.keep b ob q n hb hx⟩
theorem Un.trans (a:Un fs ex H H1 h h1)(b:Un fs ex H1 H2 h1 h2):Un fs ex H H2 h h2 where
 keep:=λc ob q n hc hx=>b.keep c ob (a.keep c ob q n hc hx) (a.free c ob q n hx) hc hx
 slot:=λc ob q n hc hx=>by
  obtain⟨sl,e1⟩:=a.slot c ob q n hc hx
  obtain⟨sl',e2⟩:=b.slot c _ e1 (a.free c ob q n hx) hc hx
  exact⟨sl',e2⟩
 free:=λc ob q n hx=>by
  obtain⟨o',e1⟩:=a.there c ob q hx
  exact b.free c o' e1 (a.free c ob q n hx) hx
 there:=λc ob q hx=>by
  obtain⟨o',e1⟩:=a.there c ob q hx
  exact b.there c o' e1 hx
 ky:=λc xs q=>b.ky c xs (a.ky c xs q)
 nX:=λc ob xs q=>b.nX c ob xs (a.nX c ob xs q)
 pT:=λc ps q=>by
  obtain⟨m1,e1⟩:=a.pT c ps q
  obtain⟨m2,e2⟩:=b.pT c _ e1
  exact⟨m1++m2,by rw[e2,Array.append_assoc]⟩
theorem Un.kept (k:∀ b u,h.get? b=some u->h'.get? b=some u):Un fs ex H H h h':=
 ⟨λb ob q _ _ _=>k b ob q,λb ob q _ _ _=>⟨ob.slots,k b ob q⟩,λ_ _ _ n _=>n,λb ob q _=>⟨ob,k b ob q⟩,λ_ _ q=>q,λ_ _ _ q=>q,λ_ ps q=>⟨#[],by rw[q];simp⟩⟩
theorem Un.refl:Un fs ex H H h h:=Un.kept λ_ _ q=>q
theorem Un.laid (k:∀ b u,h.get? b=some u->h'.get? b=some u)(hp:h.objs.size<=a)(hn:H a=none):Un fs ex H (upd H a o) h h' where
 keep:=λb u q _ _ _=>k b u q
 slot:=λb u q _ _ _=>⟨u.slots,k b u q⟩
 free:=λb u q n _=>by rw[fm (aS (aY (aE q) hp))];exact n
 there:=λb u q _=>⟨u,k b u q⟩
 ky:=λb xs q=>by rw[fm (fw q hn)];exact q
 nX:=λb u xs q=>by rw[fm (fw q hn)];exact q
 pT:=λb ps q=>⟨#[],by rw[fm (fw q hn),q];simp⟩
theorem Un.write (mu:Mut (H x))(he:e=x\/H e=some (.own x))(k:∀ b u,b≠e->h.get? b=some u->h'.get? b=some u)(heo:∃ u,h'.get? e=some u):Un fs ex H (upd H x o) h h':=by
 have hx:∀ b,H b=none->b≠x:=λb n z=>by subst z;rw[n]at mu;exact mu
 have hb:∀ b,H b=none->b≠e:=λb n z=>by
  subst z
  rcases he with r |r
  ·exact hx b n r
  ·rw[n]at r;cases r
 have hm:∀ b u,H b=some u->¬Mut (some u)->b≠x:=λb u q nm z=>by subst z;rw[q]at mu;exact nm mu
 refine⟨λb u q n _ _=>k b u (hb b n) q,λb u q n _ _=>⟨u.slots,k b u (hb b n) q⟩,λb u q n _=>by rw[fm (hx b n)];exact n,λb u q _=>?_,
  λb xs q=>by rw[fm (hm b _ q λz=>z)];exact q,λb u xs q=>by rw[fm (hm b _ q λz=>z)];exact q,λb ps q=>⟨#[],by rw[fm (hm b _ q λz=>z),q];simp⟩⟩
 by_cases hbe:b=e
 ·subst hbe;exact heo
 ·exact⟨u,k b u hbe q⟩
end
def trk (h:Heap)(H:Hp):List Addr:=(List.range h.objs.size).filter λa=>(H a).isSome
def xf (h:Heap)(H:Hp):Heap:=PySem.W.hideAll h (trk h H)
theorem BO (h:Heap)(H:Hp):(xf h H).objs.size=h.objs.size:=PySem.W.hideAll_size _ _
theorem Dz {h:Heap}{o:Obj}(e:h.get? b=some o)(n:H b=none):(xf h H).get? b=some o:=
 PySem.W.hideAll_get _ e λhm=>by
  have q:(H b).isSome=true:=(br.mp hm).2
  rw[n]at q;simp at q
theorem EV {h:Heap}{o:Obj}(e:(xf h H).get? b=some o):h.get? b=some o/\H b=none:=by
 have e':h.get? b=some o:=PySem.W.of_hideAll (trk h H) e
 refine⟨e',?_⟩
 cases q:H b with
 |none=>rfl
 |some x=>
  have hm:b∈trk h H:=br.mpr ⟨cQ.mpr (aE e'),by simp[q]⟩
  have z:(xf h H).get? b=none:=PySem.W.hideAll_none (trk h H) hm
  rw[z]at e;cases e
structure Mod (K:PySem.W.Frag)(mg:Str->Option Value)(base:Heap):Prop where
 kin:K.In base
 glob:base.Ns mainGlobals mg
 blt:∃ mb,base.Ns builtinsNs mb/\∀ x:Str,x≠ "__name__" ->mb x=bootBuiltins x
 nolimit:base.NoLimit
structure Cx where
 prog:Program
 w:World
 K:PySem.W.Frag
 mg:Str->Option Value
 base:Heap
 A:Around
 N:List Str
 s₀:Shared
 H₀:Hp
 env:Env
 outer:List Env
 stack:List Env
 ex:List Addr
 fn:Str->Bool
 calm:Bool
 pn:List (Addr×Obj)
 xe:Value->Shared->Prop
def frs (l:List Env):List Addr:=l.filterMap (·.frame)
abbrev Cx.fs (X:Cx):List Addr:=frs X.outer
def Vis (sc:Scope)(x:Str):Prop:=sc.names.lookup x=some .local\/sc.names.lookup x=some .cell\/sc.names.lookup x=some .free
def Loc (sc:Scope)(x:Str):Prop:=sc.names.lookup x=some .local\/sc.names.lookup x=some .cell
def Look (env:Env)(h:Heap)(m:Str->Option Value)(x:Str)(u:Value):Prop:=
 (env.kindOf x=some .local/\m x=some u)\/((env.kindOf x=some .cell\/env.kindOf x=some .free)/\∃ c,env.cells.lookup x=some c/\h.IsCell c (some u))
structure Cx.Ok (X:Cx):Prop where
 mod:Mod X.K X.mg X.base
 kind:X.env.scope.kind = .function
 glob:X.env.globals=mainGlobals
 blt:X.env.builtins=builtinsNs
 above:X.s₀.heap.objs.size<=X.env.locals
 inj:∀ x y c,X.env.cells.lookup x=some c->X.env.cells.lookup y=some c->x=y
 has:∀ x,(X.env.kindOf x=some .cell\/X.env.kindOf x=some .free)->∃ c,X.env.cells.lookup x=some c
 cab:∀ x c,X.fn x=true->X.env.cells.lookup x=some c->X.s₀.heap.objs.size<=c
 hd:X.calm=true->X.A.handled=none
 frames:X.A.frames=some X.stack
 stk:X.stack=X.outer\/(X.stack=X.env::X.outer/\X.env.frame=some X.env.locals)
 exf:∀ b∈X.ex,b≠X.env.locals/\∀ x c,X.env.cells.lookup x=some c->c≠b
 bs:∀ b o,X.base.get? b=some o->X.s₀.heap.get? b=some o/\X.H₀ b=none
 bsz:X.base.objs.size<=X.s₀.heap.objs.size
 zG:∀ b o,X.base.get? b=some o->b∉X.ex
 BU:∀ b∈X.ex,b∉X.fs
 rf:X.s₀.heap.FunFrames X.base X.outer
 frf:∀ b∈X.fs,X.H₀ b=none
structure Inv (X:Cx)(pins:List (Addr×Obj))(σ:List (Option V))(H:Hp)(s:Shared):Prop where
 ok:X.Ok
 os:s.os=X.s₀.os
 bare:AllBare s.gens
 base:Un X.fs X.ex X.H₀ H X.s₀.heap s.heap
 loc:∃ m,s.heap.Ns X.env.locals m/\∀ (i:Nat) (x:Str) (v:V),X.N[i]? = some x->σ[i]? = some (some v)->Vis X.env.scope x->∃ u,RelV v u/\Look X.env s.heap m x u
 cell:∀ x c,X.env.cells.lookup x=some c->∃ v,s.heap.IsCell c v
 free:H X.env.locals=none
 kj:∀ x c,X.env.cells.lookup x=some c->H c=none
 pin:∀ p∈X.pn++pins,s.heap.get? p.1=some p.2/\H p.1=none/\p.1≠X.env.locals/\p.1∉X.fs/\∀ v,p.2.data≠ .cell v
 hok:HOk X.prog X.w H s.heap
 len:σ.length=X.N.length
variable {i:Nat}{x:Str}{u:Value}
section
variable {X:Cx}{pins:List (Addr×Obj)}{σ:List (Option V)}{H H':Hp}{s:Shared}{h':Heap}
theorem Cx.Ok.M3 (ok:X.Ok){o:Obj}(e:X.base.get? b=some o):b∉X.fs:=λhb=>by
 have:=(ok.rf.mem hb).1
 rw[e]at this;cases this
theorem Inv.bs (I:Inv X pins σ H s):∀ b o,X.base.get? b=some o->s.heap.get? b=some o/\H b=none:=λb o e=>
 ⟨I.base.keep b o (I.ok.bs b o e).1 (I.ok.bs b o e).2 (I.ok.M3 e) (I.ok.zG b o e),I.base.free b o (I.ok.bs b o e).1 (I.ok.bs b o e).2 (I.ok.zG b o e)⟩
theorem Inv.bk (I:Inv X pins σ H s):∀ b o,X.base.get? b=some o->s.heap.get? b=some o:=λb o e=>(I.bs b o e).1
theorem Inv.mod (I:Inv X pins σ H s):Mod X.K X.mg X.base:=I.ok.mod
theorem Inv.kIn (I:Inv X pins σ H s):X.K.In s.heap:=I.ok.mod.kin.keeps I.bk
theorem Inv.lt (I:Inv X pins σ H s):X.env.locals<s.heap.objs.size:=let ⟨_,hn,_⟩:=I.loc;hn.lt
theorem Inv.sz (I:Inv X pins σ H s):X.s₀.heap.objs.size<=s.heap.objs.size:=bE I.ok.above (bO I.lt)
theorem Inv.M0 (I:Inv X pins σ H s)(h:s.heap.objs.size<=a):a∉X.fs:=λhb=>by
 obtain⟨_,o,ho,_⟩:=I.ok.rf.mem hb
 exact absurd (aY (aE ho) (bE I.sz h)) (dD _)
theorem Inv.cne (I:Inv X pins σ H s):∀ x c,X.env.cells.lookup x=some c->c≠X.env.locals:=λx c e z=>by
 obtain⟨v,o,ho,hd⟩:=I.cell x c e
 obtain⟨m,⟨o',es,ep,ho',hd',_⟩,_⟩:=I.loc
 rw[z,ho']at ho;cases ho;rw[hd']at hd;cases hd
theorem Inv.rf (I:Inv X pins σ H s):s.heap.FunFrames X.base X.outer:=by
 have all:∀ (l:List Env),(∀ b∈frs l,b∈X.fs)->X.s₀.heap.FunFrames X.base l->s.heap.FunFrames X.base l:=by
  intro l
  induction l with
  |nil=>intro _ _;trivial
  |cons env r ih=>
   intro hs hl
   obtain⟨hk,⟨L,o,hf,hn,ho,hd⟩,hr⟩:=hl
   have hL:L∈X.fs:=hs L (by unfold frs;rw[eD,hf];exact aB)
   obtain⟨sl,e⟩:=I.base.slot L o ho (I.ok.frf L hL) hL λz=>I.ok.BU L z hL
   exact⟨hk,⟨L,_,hf,hn,e,hd⟩,ih (λb hb=>hs b (by unfold frs;rw[eD,hf];exact aC _ hb)) hr⟩
 exact all X.outer (λ_ hb=>hb) I.ok.rf
theorem Inv.stack (I:Inv X pins σ H s):s.heap.FunFrames X.base X.stack:=by
 rcases I.ok.stk with e |⟨e,hf⟩
 ·rw[e];exact I.rf
 ·rw[e]
  obtain⟨m,hn,_⟩:=I.loc
  refine .cons (by rw[I.ok.kind];decide) hf hn ?_ I.rf
  exact Heap.get?_none_of_le (bE I.ok.bsz I.ok.above)
theorem Inv.nZ (I:Inv X pins σ H s):∀ b∈frs X.stack,b∈X.env.locals::X.fs:=λb hb=>by
 rcases I.ok.stk with e |⟨e,hf⟩
 ·rw[e]at hb;exact aC _ hb
 ·rw[e]at hb
  unfold frs at hb
  rw[eD,hf]at hb
  exact hb
theorem Inv.v9 (I:Inv X pins σ H s):∀ b∈frs X.stack,H b=none:=λb hb=>by
 rcases aK.mp (I.nZ b hb)with e |hb
 ·rw[e];exact I.free
 ·obtain⟨_,o,ho,_⟩:=I.ok.rf.mem hb
  exact I.base.free b o ho (I.ok.frf b hb) λz=>I.ok.BU b z hb
theorem Inv.step {g':Array GenState}{t':Nat}{d':Drawn}{ch:List Addr}(I:Inv X pins σ H s)
  (hch:∀ b∈ch,(b∈X.ex\/X.s₀.heap.objs.size<=b)/\b≠X.env.locals/\(∀ x c,X.env.cells.lookup x=some c->c≠b)/\∀ p∈X.pn++pins,p.1≠b)
  (keep:∀ b o,b≠X.env.locals->b∉X.fs->b∉ch->s.heap.get? b=some o->H b=none->h'.get? b=some o)
  (slot:∀ b o,b≠X.env.locals->b∈X.fs->b∉ch->s.heap.get? b=some o->H b=none->∃ sl,h'.get? b=some {o with slots:=sl}) (free:∀ b o,b∉ch->s.heap.get? b=some o->H b=none->H' b=none)
  (there:∀ b o,b∉ch->s.heap.get? b=some o->∃ o',h'.get? b=some o')
  (ky:∀ b xs,H b=some (.tup xs)->H' b=some (.tup xs)) (nX:∀ b o u,H b=some (.frz o u)->H' b=some (.frz o u)) (pT:∀ b ps,H b=some (.tbl ps)->∃ more,H' b=some (.tbl (ps++more)))
  (ns:∀ m,s.heap.Ns X.env.locals m->h'.Ns X.env.locals m) (hok:HOk X.prog X.w H' h') (hg:AllBare g'):
  Inv X pins σ H' {s with heap:=h',gens:=g',drawn:=d',toks:=t'} :=by
 have neL:∀ b o,X.s₀.heap.get? b=some o->b≠X.env.locals:=λb o e=>aS (aY (aE e) I.ok.above)
 have neC:∀ b o,X.s₀.heap.get? b=some o->b∉X.ex->b∉ch:=λb o e hx hb=>by
  rcases(hch b hb).1 with z |z
  ·exact hx z
  ·exact absurd (aY (aE e) z) (dD _)
 have cellK:∀ x c,X.env.cells.lookup x=some c->∀ v,s.heap.IsCell c v->h'.IsCell c v:=λx c e v ⟨o,ho,hd⟩=>by
  have nch:c∉ch:=λz=>(hch c z).2.2.1 x c e rfl
  by_cases hc:c∈X.fs
  ·obtain⟨sl,q⟩:=slot c o (I.cne x c e) hc nch ho (I.kj x c e)
   exact⟨_,q,hd⟩
  ·exact⟨o,keep c o (I.cne x c e) hc nch ho (I.kj x c e),hd⟩
 refine⟨I.ok,I.os,hg,⟨λb o e n hb hx=>?_,λb o e n hb hx=>?_,λb o e n hx=>?_,λb o e hx=>?_,λb xs e=>ky b xs (I.base.ky b xs e),λb o xs e=>nX b o xs (I.base.nX b o xs e),λb ps e=>?_⟩,?_,λx c e=>?_,?_,λx c e=>?_,λp hp=>?_,hok,I.len⟩
 ·exact keep b o (neL b o e) hb (neC b o e hx) (I.base.keep b o e n hb hx) (I.base.free b o e n hx)
 ·obtain⟨sl,e1⟩:=I.base.slot b o e n hb hx
  obtain⟨sl',e2⟩:=slot b _ (neL b o e) hb (neC b o e hx) e1 (I.base.free b o e n hx)
  exact⟨sl',e2⟩
 ·obtain⟨o',e1⟩:=I.base.there b o e hx
  exact free b o' (neC b o e hx) e1 (I.base.free b o e n hx)
 ·obtain⟨o',e1⟩:=I.base.there b o e hx
  exact there b o' (neC b o e hx) e1
 ·obtain⟨m1,e1⟩:=I.base.pT b ps e
  obtain⟨m2,e2⟩:=pT b _ e1
  exact⟨m1++m2,by rw[e2,Array.append_assoc]⟩
 ·obtain⟨m,hn,hl⟩:=I.loc
  refine⟨m,ns m hn,λi x v e1 e2 e3=>?_⟩
  obtain⟨u,r,l⟩:=hl i x v e1 e2 e3
  refine⟨u,r,?_⟩
  rcases l with l |⟨k,c,e,z⟩
  ·exact .inl l
  ·exact .inr ⟨k,c,e,cellK x c e _ z⟩
 ·obtain⟨v,z⟩:=I.cell x c e
  exact⟨v,cellK x c e v z⟩
 ·obtain⟨m,⟨o,_,_,ho,_⟩,_⟩:=I.loc
  exact free _ o (λz=>(hch _ z).2.1 rfl) ho I.free
 ·obtain⟨v,o,ho,hd⟩:=I.cell x c e
  exact free c o (λz=>(hch c z).2.2.1 x c e rfl) ho (I.kj x c e)
 ·obtain⟨e,n,ne,nf,d⟩:=I.pin p hp
  have nch:p.1∉ch:=λz=>(hch p.1 z).2.2.2 p hp rfl
  exact⟨keep p.1 p.2 ne nf nch e n,free p.1 p.2 nch e n,ne,nf,d⟩
theorem Inv.un {t':Nat}(I:Inv X pins σ H s)(u:Un X.fs [] H H' s.heap h')(hok:HOk X.prog X.w H' h'):Inv X pins σ H' {s with heap:=h',toks:=t'} :=by
 obtain⟨m,⟨o,es,ep,ho,r⟩,_⟩:=id I.loc
 obtain⟨sl,hL⟩:=u.any ho I.free (by simp)
 exact I.step (g':=s.gens) (d':=s.drawn) (ch:=[]) (λ_ z=>nomatch z) (λb o _ hb _ e n=>u.keep b o e n hb (by simp)) (λb o _ hb _ e n=>u.slot b o e n hb (by simp)) (λb o _ e n=>u.free b o e n (by simp)) (λb o _ e=>u.there b o e (by simp)) u.ky u.nX u.pT (λm' hm=>by
  obtain⟨o',es',ep',ho',r'⟩:=hm
  rw[ho]at ho';cases ho'
  exact⟨_,es',ep',hL,r'⟩) hok I.bare
theorem Inv.call {g':Array GenState}{t':Nat}{d':Drawn}{ch:List Addr}(I:Inv X pins σ H s)(u:Un (frs X.stack) ch H H' s.heap h')(hok:HOk X.prog X.w H' h')(hg:AllBare g')
  (hch:∀ b∈ch,(b∈X.ex\/X.s₀.heap.objs.size<=b)/\b≠X.env.locals/\(∀ x c,X.env.cells.lookup x=some c->c≠b)/\∀ p∈X.pn++pins,p.1≠b):
  Inv X pins σ H' {s with heap:=h',gens:=g',drawn:=d',toks:=t'} :=by
 obtain⟨m,⟨o,es,ep,ho,r⟩,_⟩:=id I.loc
 obtain⟨sl,hL⟩:=u.any ho I.free λz=>(hch _ z).2.1 rfl
 exact I.step (ch:=ch) hch (λb o hL hb hc e n=>u.keep b o e n (λz=>(aK.mp (I.nZ b z)).elim hL hb) hc) (λb o _ _ hc e n=>u.any e n hc) (λb o hc e n=>u.free b o e n hc) (λb o hc e=>u.there b o e hc) u.ky u.nX u.pT (λm' hm=>by
  obtain⟨o',es',ep',ho',r'⟩:=hm
  rw[ho]at ho';cases ho'
  exact⟨_,es',ep',hL,r'⟩) hok hg
theorem Inv.turned {t':Nat}{it:Addr}(I:Inv X pins σ H s)(k:∀ b o,b≠it->s.heap.get? b=some o->h'.get? b=some o)(hn:H it=none)(hL:it≠X.env.locals)
  (h1:it∈X.ex\/X.s₀.heap.objs.size<=it) (h2:∀ x c,X.env.cells.lookup x=some c->c≠it) (h3:∀ p∈X.pn++pins,p.1≠it):Inv X pins σ H {s with heap:=h',toks:=t'} :=by
 have nit:∀ b u,H b=some u->b≠it:=λb u e z=>by rw[z,hn]at e;cases e
 refine I.step (g':=s.gens) (d':=s.drawn) (ch:=[it]) (λb hb=>?_) (λb o _ _ hc e _=>k b o (λz=>hc (by simp[z])) e) (λb o _ _ hc e _=>⟨o.slots,k b o (λz=>hc (by simp[z])) e⟩) (λ_ _ _ _ n=>n)
  (λb o hc e=>⟨o,k b o (λz=>hc (by simp[z])) e⟩) (λ_ _ e=>e) (λ_ _ _ e=>e) (λb ps e=>⟨#[],by rw[e];simp⟩) (λm hm=>?_) (λb u e=>?_) I.bare
 ·have e:b=it:=by simpa using hb
  subst e
  exact⟨h1,hL,h2,h3⟩
 ·obtain⟨o,es,ep,ho,r⟩:=hm
  exact⟨o,es,ep,k _ o (bF hL) ho,r⟩
 ·refine(I.hok b u e).lD (λc v hc q=>k c v ?_ q) (λ_ q=>q) λ_ _ q=>q
  rcases hc with z |z
  ·rw[z];exact nit b u e
  ·exact nit c _ z
theorem Inv.tok (I:Inv X pins σ H s)(t:Nat):Inv X pins σ H {s with toks:=t} :=I.un (h':=s.heap) (t':=t) Un.refl I.hok
theorem Inv.kept {t':Nat}(I:Inv X pins σ H s)(k:∀ b u,s.heap.get? b=some u->h'.get? b=some u):Inv X pins σ H {s with heap:=h',toks:=t'} :=I.un (Un.kept k) (I.hok.kept k)
theorem Inv.laid {t':Nat}(I:Inv X pins σ H s)(k:∀ b u,s.heap.get? b=some u->h'.get? b=some u)(hp:s.heap.objs.size<=a)(new:iQ X.prog X.w (upd H a o) h' a o):
  Inv X pins σ (upd H a o) {s with heap:=h',toks:=t'} :=I.un (Un.laid k hp (I.hok.fresh hp)) (I.hok.laid k hp new)
theorem Inv.write {x e:Addr}{t':Nat}(I:Inv X pins σ H s)(mu:Mut (H x))(he:e=x\/H e=some (.own x))(k:∀ b u,b≠e->s.heap.get? b=some u->h'.get? b=some u)(heo:∃ u,h'.get? e=some u)
  (new:iQ X.prog X.w (upd H x o) h' x o):Inv X pins σ (upd H x o) {s with heap:=h',toks:=t'} :=I.un (Un.write mu he k heo) (I.hok.write mu he k heo new)
theorem Inv.weak {σ':List (Option V)}(I:Inv X pins σ H s)(hl:σ'.length=σ.length)(w:∀ (i:Nat) v,σ'[i]? = some (some v)->σ[i]? = some (some v)):Inv X pins σ' H s:=
 ⟨I.ok,I.os,I.bare,I.base,let ⟨m,hn,hl'⟩:=I.loc;⟨m,hn,λi x v e1 e2 e3=>hl' i x v e1 (w i v e2) e3⟩,I.cell,I.free,I.kj,I.pin,I.hok,hl.trans I.len⟩
theorem Inv.Ay {tF:List (Addr×Obj)}(I:Inv X pins σ H s)(h:∀ p∈tF,s.heap.get? p.1=some p.2/\H p.1=none/\p.1≠X.env.locals/\p.1∉X.fs/\∀ v,p.2.data≠ .cell v):Inv X tF σ H s:=
 ⟨I.ok,I.os,I.bare,I.base,I.loc,I.cell,I.free,I.kj,λp hp=>(ay.mp hp).elim (λz=>I.pin p (aG _ z)) (h p),I.hok,I.len⟩
theorem tV {N:List Str}(hN:N.Nodup){j:Nat}(a:N[i]? = some x)(b:N[j]? = some x):i=j:=by
 obtain⟨h1,e1⟩:=af.mp a
 obtain⟨h2,e2⟩:=af.mp b
 exact(cR hN).mp (e1.trans e2.symm)
theorem qP {M:Model}{A:Around}{E:Value->Shared->Prop}{v:V}{Q:Unit->Shared->Prop}(I:Inv X pins σ H s)(hN:X.N.Nodup)(hi:X.N[i]? = some x)(hx:Loc X.env.scope x)(r:RelV v u)
  (h:∀ s',Inv X pins (σ.set i (some v)) H s'->(∃ a,Heap.SameBut a s.heap s'.heap/\(a=X.env.locals\/X.env.cells.lookup x=some a))->Q () s') (hf:X.fn x=true\/X.env.scope.names.lookup x=some .local:=by first |exact .inl rfl |exact .inr rfl |assumption):wpAny M A (storeName X.env x u) Q E s:=by
 obtain⟨m,hn,hl⟩:=id I.loc
 have Hw:(X.env.scope.kind == .class||(X.env.scope.kind == .module&&X.env.locals !=X.env.globals))=false:=by rw[I.ok.kind];rfl
 have hiσ:i<σ.length:=by rw[I.len];exact(af.mp hi).1
 have cne:=I.cne
 have tracked:∀ {a:Addr}{h':Heap},(∃ o,s.heap.get? a=some o/\H a=none)->Heap.SameBut a s.heap h'->HOk X.prog X.w H h':=λ{a h'} ha hs b ob e=>by
  obtain⟨_,_,pQ⟩:=ha
  refine(I.hok b ob e).lD (λc w' hc q=>(hs.2 c ?_).trans q) (λ_ q=>q) λ_ _ q=>q
  rintro rfl
  rcases hc with rfl |hc
  ·rw[pQ]at e;cases e
  ·rw[pQ]at hc;cases hc
 rcases hx with hk |hk
 ·refine wpAny_storeName_local hk hn (λh' hn' hs=>?_) Hw
  obtain⟨oL,_,_,hoL,_⟩:=id hn
  refine h _ ⟨I.ok,I.os,I.bare,⟨λb o e n hb hx=>?_,λb o e n hb hx=>?_,I.base.free,λb o e hx=>?_,I.base.ky,I.base.nX,I.base.pT⟩,⟨_,hn',λj y v' e1 e2 e3=>?_⟩,λy c e=>?_,I.free,I.kj,λp hp=>?_,tracked ⟨oL,hoL,I.free⟩ hs,by simpa using I.len⟩ ⟨_,hs,.inl rfl⟩
  ·exact(hs.2 b (aS (aY (aE e) I.ok.above))).trans (I.base.keep b o e n hb hx)
  ·obtain⟨sl,e1⟩:=I.base.slot b o e n hb hx
   exact⟨sl,(hs.2 b (aS (aY (aE e) I.ok.above))).trans e1⟩
  ·obtain⟨o',e1⟩:=I.base.there b o e hx
   exact⟨o',(hs.2 b (aS (aY (aE e) I.ok.above))).trans e1⟩
  ·by_cases hj:j=i
   ·subst hj
    rw[hi]at e1;cases e1
    rw[List.getElem?_set_self hiσ]at e2
    cases e2
    exact⟨u,r,.inl ⟨hk,by simp⟩⟩
   ·rw[eh (bF hj)]at e2
    obtain⟨u',r',q⟩:=hl j y v' e1 e2 e3
    refine⟨u',r',?_⟩
    rcases q with⟨k,e⟩|⟨k,c,e,z⟩
    ·refine .inl ⟨k,?_⟩
     have:y≠x:=λe=>hj (tV hN e1 (e ▸ hi))
     simp[this,e]
    ·exact .inr ⟨k,c,e,z.sameBut hs (cne y c e)⟩
  ·obtain⟨w',z⟩:=I.cell y c e
   exact⟨w',z.sameBut hs (cne y c e)⟩
  ·obtain⟨e,n,ne,nf,d⟩:=I.pin p hp
   exact⟨(hs.2 p.1 ne).trans e,n,ne,nf,d⟩
 ·have hfn:X.fn x=true:=by
   rcases hf with z |z
   ·exact z
   ·rw[z]at hk;cases hk
  obtain⟨c,hc⟩:=I.ok.has x (.inl hk)
  obtain⟨w',z⟩:=I.cell x c hc
  refine wpAny_storeName_cell I.ok.kind hk hc z (λh' hc' hs=>?_)
  obtain⟨oc,hoc,NV⟩:=id z
  refine h {s with heap:=h'} ⟨I.ok,I.os,I.bare,⟨λb o e n hb hx=>?_,λb o e n hb hx=>?_,I.base.free,λb o e hx=>?_,I.base.ky,I.base.nX,I.base.pT⟩,⟨m,hn.sameBut hs (bF (cne x c hc)),λj y v' e1 e2 e3=>?_⟩,λy c' e=>?_,I.free,I.kj,λp hp=>?_,tracked ⟨oc,hoc,I.kj x c hc⟩ hs,by simpa using I.len⟩ ⟨c,hs,.inr hc⟩
  ·exact(hs.2 b (aS (aY (aE e) (I.ok.cab x c hfn hc)))).trans (I.base.keep b o e n hb hx)
  ·obtain⟨sl,e1⟩:=I.base.slot b o e n hb hx
   exact⟨sl,(hs.2 b (aS (aY (aE e) (I.ok.cab x c hfn hc)))).trans e1⟩
  ·obtain⟨o',e1⟩:=I.base.there b o e hx
   exact⟨o',(hs.2 b (aS (aY (aE e) (I.ok.cab x c hfn hc)))).trans e1⟩
  ·by_cases hj:j=i
   ·subst hj
    rw[hi]at e1;cases e1
    rw[List.getElem?_set_self hiσ]at e2
    cases e2
    exact⟨u,r,.inr ⟨.inl hk,c,hc,hc'⟩⟩
   ·rw[eh (bF hj)]at e2
    obtain⟨u',r',q⟩:=hl j y v' e1 e2 e3
    refine⟨u',r',?_⟩
    rcases q with q |⟨k,c',e,z'⟩
    ·exact .inl q
    ·refine .inr ⟨k,c',e,z'.sameBut hs ?_⟩
     rintro rfl
     exact hj (tV hN e1 (I.ok.inj _ _ _ e hc ▸ hi))
  ·by_cases hcc:c'=c
   ·subst hcc;exact⟨_,hc'⟩
   ·obtain⟨w2,z2⟩:=I.cell y c' e
    exact⟨w2,z2.sameBut hs hcc⟩
  ·obtain⟨e,n,ne,nf,d⟩:=I.pin p hp
   refine⟨(hs.2 p.1 ?_).trans e,n,ne,nf,d⟩
   intro q
   rw[q,hoc]at e
   have q':oc=p.2:=aU e
   exact d w' (by rw[<-q'];exact NV)
theorem qj {M:Model}{A:Around}{E:Value->Shared->Prop}{v:V}{Q:Unit->Shared->Prop}(I:Inv X pins σ H s)(hN:X.N.Nodup)(hi:X.N[i]? = some x)(hx:Loc X.env.scope x)(r:RelV v u)
  (h:∀ s',Inv X pins (σ.set i (some v)) H s'->Q () s') (hf:X.fn x=true\/X.env.scope.names.lookup x=some .local:=by first |exact .inl rfl |exact .inr rfl |assumption):wpAny M A (storeName X.env x u) Q E s:=
 qP I hN hi hx r (λs' I' _=>h s' I') hf
theorem Inv.F9 {s':Shared}{ch:List Addr}(I:Inv X pins σ H s)(ho:s'.os=s.os)(u:Un (frs X.stack) ch H H' s.heap s'.heap)(hok:HOk X.prog X.w H' s'.heap)(hg:AllBare s'.gens)
  (hch:∀ b∈ch,(b∈X.ex\/X.s₀.heap.objs.size<=b)/\b≠X.env.locals/\(∀ x c,X.env.cells.lookup x=some c->c≠b)/\∀ p∈X.pn++pins,p.1≠b):Inv X pins σ H' s':=by
 obtain⟨h',g',d',t',o'⟩:=s'
 have e:o'=s.os:=ho
 subst e
 exact I.call (g':=g') (t':=t') (d':=d') u hok hg hch
end
abbrev XK:=Value->Option Addr->Hp->Prop
abbrev St:=List (Option V)
abbrev VK:=V->Hp->Prop
abbrev TE:=St->Hp->VK->Prop
abbrev TT:=St->Hp->(Bool->Hp->Prop)->Prop
abbrev TA:=St->Hp->(List V->Hp->Prop)->Prop
structure Ends where
 nx:St->Hp->Prop
 rt:VK
 bk:St->Hp->Prop:=λ_ _=>False
 ct:St->Hp->Prop:=λ_ _=>False
abbrev TS:=Ends->St->Hp->Prop
def EP (X:Cx)(pins:List (Addr×Obj))(σ:St)(Q:VK)(u:Value)(s':Shared):Prop:=∃ v H',Inv X pins σ H' s'/\RelV v u/\Q v H'
def TP (X:Cx)(pins:List (Addr×Obj))(σ:St)(Q:Bool->Hp->Prop)(b:Bool)(s':Shared):Prop:=∃ H',Inv X pins σ H' s'/\Q b H'
def AP (X:Cx)(pins:List (Addr×Obj))(σ:St)(Q:List V->Hp->Prop)(us:List Value)(s':Shared):Prop:=∃ vs H',Inv X pins σ H' s'/\Vals vs us/\Q vs H'
def SP (X:Cx)(pins:List (Addr×Obj))(D:Ends)(f:Flow)(s':Shared):Prop:=
 match f with
 |.next=>∃ σ' H',Inv X pins σ' H' s'/\D.nx σ' H'
 |.brk=>∃ σ' H',Inv X pins σ' H' s'/\D.bk σ' H'
 |.cont=>∃ σ' H',Inv X pins σ' H' s'/\D.ct σ' H'
 |.ret u=>∃ v σ' H',Inv X pins σ' H' s'/\RelV v u/\D.rt v H'
def PE (X:Cx)(e:Expr)(t:TE):Prop:=
 ∀ (pins:List (Addr×Obj)) (s:Shared) (σ:St) (H:Hp) (Q:VK),Inv X pins σ H s->t σ H Q->wpAny (model X.prog X.w) X.A (eval e X.env) (EP X pins σ Q) X.xe s
def PT (X:Cx)(e:Expr)(t:TT):Prop:=
 ∀ (pins:List (Addr×Obj)) (s:Shared) (σ:St) (H:Hp) (Q:Bool->Hp->Prop),Inv X pins σ H s->t σ H Q->wpAny (model X.prog X.w) X.A (isTrue e X.env (eval e X.env)) (TP X pins σ Q) X.xe s
def PW (X:Cx)(e:Expr)(t:TT):Prop:=
 ∀ (whole:Sem Value) (pins:List (Addr×Obj)) (s:Shared) (σ:St) (H:Hp) (Q:Bool->Hp->Prop),Inv X pins σ H s->t σ H Q->wpAny (model X.prog X.w) X.A (isTrue e X.env whole) (TP X pins σ Q) X.xe s
variable {e:Expr}
theorem PW.pt {X:Cx}{t:TT}(h:PW X e t):PT X e t:=h _
def PA (X:Cx)(es:List Expr)(t:TA):Prop:=
 ∀ (pos:Pos) (pins:List (Addr×Obj)) (s:Shared) (σ:St) (H:Hp) (Q:List V->Hp->Prop),Inv X pins σ H s->t σ H Q->wpAny (model X.prog X.w) X.A (spliced (backTo pos (starEach es X.env))) (AP X pins σ Q) X.xe s
def PS (X:Cx)(st:Stmt)(t:TS):Prop:=
 ∀ (pins:List (Addr×Obj)) (s:Shared) (σ:St) (H:Hp) (D:Ends),Inv X pins σ H s->t D σ H->wpAny (model X.prog X.w) X.A (exec st X.env) (SP X pins D) X.xe s
def PSs (X:Cx)(st:List Stmt)(t:TS):Prop:=
 ∀ (pins:List (Addr×Obj)) (s:Shared) (σ:St) (H:Hp) (D:Ends),Inv X pins σ H s->t D σ H->wpAny (model X.prog X.w) X.A (execs st X.env) (SP X pins D) X.xe s
variable {A:Around}{E:Value->Shared->Prop}{s:Shared}
theorem thn {α:Type}{t:Sem α}{Q Q':α->Shared->Prop}{M:Model}(h:wpAny M A t Q E s)(hQ:∀ a s,Q a s->Q' a s):wpAny M A t Q' E s:=bq h hQ λ_ _ x=>x
variable {pins:List (Addr×Obj)}{σ:St}{pos:Pos}{op:CmpOp}
section
variable {X:Cx}
theorem bin {a b:Expr}{ta tb:TE}(ha:PE X a ta)(hb:PE X b tb){R:V->V->Hp->Prop}(I:Inv X pins σ H s)(h:ta σ H λx H1=>tb σ H1 λy H2=>R x y H2)
  {α:Type}{Q:α->Shared->Prop}{f:Value->Value->Sem α}
  (hf:∀ v u s2 x y H2,Inv X pins σ H2 s2->RelV x v->RelV y u->R x y H2->wpAny (model X.prog X.w) X.A (f v u) Q X.xe s2):
  wpAny (model X.prog X.w) X.A (eval a X.env) (λv s₁=>wpAny (model X.prog X.w) X.A (eval b X.env) (λu s₂=>wpAny (model X.prog X.w) X.A (f v u) Q X.xe s₂) X.xe s₁) X.xe s:=by
 refine thn (ha pins s σ H _ I h) λv s1 ⟨x,H1,I1,r1,q1⟩=>?_
 refine thn (hb pins s1 σ H1 _ I1 q1) λu s2 ⟨y,H2,I2,r2,q2⟩=>?_
 exact hf v u s2 x y H2 I2 r1 r2 q2
def Ig (i:Nat):TE:=λσ H Q=>∃ v,σ[i]? = some (some v)/\Q v H
def tC (v:V):TE:=λ_ H Q=>Q v H
theorem GD (hN:X.N[i]? = some x)(hv:Vis X.env.scope x)(hd:(x==("__debug__" :Str))=false:=by decide)(hcd:(x==("__classdict__" :Str))=false:=by decide):PE X (.Name x pos) (Ig i):=by
 intro pins s σ H Q I h
 obtain⟨v,e,h⟩:=h
 obtain⟨m,hn,hl⟩:=I.loc
 obtain⟨u,r,l⟩:=hl i x v hN e hv
 have fin:EP X pins σ Q u s:=⟨v,H,I,r,h⟩
 rcases l with⟨hk,hm⟩|⟨hk,c,hc,AR⟩
 ·exact wpAny_Name (wpAny_loadName_local I.ok.kind hk hn hm fin) hd
 ·rcases hk with hk |hk
  ·exact wpAny_Name (wpAny_loadName_cell I.ok.kind hk hc AR fin) hd
  ·exact wpAny_Name (wpAny_loadName_free I.ok.kind hk hc AR fin hcd) hd
theorem fk {i j pos} :PE X (.Constant (.int i) j pos) (tC (.int i)):=λ_ _ _ H _ I h=>wpAny_Constant_int ⟨.int i,H,I.tok _,⟨_,rfl⟩,h⟩
theorem vK {b j pos} :PE X (.Constant (.bool b) j pos) (tC (.bl b)):=λ_ _ _ H _ I h=>Constant_bool ⟨.bl b,H,I,rfl,h⟩
theorem wK {j pos} :PE X (.Constant .none j pos) (tC .non):=λ_ _ _ H _ I h=>Constant_none ⟨.non,H,I,rfl,h⟩
theorem gm {x j pos} :PE X (.Constant (.str x) j pos) (tC (.str x)):=λ_ _ _ H _ I h=>Calls.Constant_str ⟨.str x,H,I.tok _,⟨_,rfl⟩,h⟩
def Gl (X:Cx)(x:Str):Prop:=X.env.kindOf x=some .globalImplicit
theorem pk {E:Value->Shared->Prop}{pos:Pos}{Q:Value->Shared->Prop}(I:Inv X pins σ H s)(hg:Gl X x)(hm:X.mg x=some u)(h:Q u s)
  (hd:(x==("__debug__" :Str))=false:=by decide):wpAny (model X.prog X.w) X.A (eval (.Name x pos) X.env) Q E s:=
 Calls.Name_function_global I.ok.kind hg (Calls.loadGlobal_global (by rw[I.ok.glob];exact I.mod.glob.keeps I.bk) hm h) hd
theorem oz {E:Value->Shared->Prop}{pos:Pos}{Q:Value->Shared->Prop}(I:Inv X pins σ H s)(hg:Gl X x)(hm:X.mg x=none)(hv:bootBuiltins x=some u)(h:Q u s)
  (hn:x≠ "__name__" :=by decide) (hd:(x==("__debug__" :Str))=false:=by decide):wpAny (model X.prog X.w) X.A (eval (.Name x pos) X.env) Q E s:=by
 obtain⟨mb,h1,h2⟩:=I.mod.blt
 exact Calls.Name_function_global I.ok.kind hg (Calls.loadGlobal_builtin (by rw[I.ok.glob];exact I.mod.glob.keeps I.bk) hm (by rw[I.ok.blt];exact h1.keeps I.bk) ((h2 x hn).trans hv) h) hd
theorem lI {v:V}(hg:Gl X x)(hm:X.mg x=some u)(r:RelV v u)(hd:(x==("__debug__" :Str))=false:=by decide):PE X (.Name x pos) (tC v):=
 λ_ _ _ H _ I h=>pk I hg hm ⟨v,H,I,r,h⟩ hd
theorem EL {v:V}(hg:Gl X x)(hm:X.mg x=none)(hv:bootBuiltins x=some u)(r:RelV v u)(hn:x≠ "__name__" :=by decide)(hd:(x==("__debug__" :Str))=false:=by decide):PE X (.Name x pos) (tC v):=
 λ_ _ _ H _ I h=>oz I hg hm hv ⟨v,H,I,r,h⟩ hn hd
def t2I (ta tb:TE)(k:Int->Int->Hp->Prop):St->Hp->Prop:=λσ H=>ta σ H λx H1=>tb σ H1 λy H2=>∃ i j,x = .int i/\y = .int j/\k i j H2
variable {a b:Expr}{ta tb:TE}{pos:Pos}
def PC (X:Cx)(op:CmpOp)(a b:Expr)(t:TE):Prop:=
 ∀ (pins:List (Addr×Obj)) (s:Shared) (σ:St) (H:Hp) (Q:VK),Inv X pins σ H s->t σ H Q->
  wpAny (model X.prog X.w) X.A (eval a X.env) (λv s₁=>wpAny (model X.prog X.w) X.A (eval b X.env) (λu s₂=>wpAny (model X.prog X.w) X.A (compareOp op v u) (EP X pins σ Q) X.xe s₂) X.xe s₁) X.xe s
theorem yn (b:Expr)(h:op≠ .In)(h2:op≠ .NotIn):behindInMarks op b=false:=by
 have e1:(op==CmpOp.In)=false:=by cases op<;>first |rfl |exact absurd rfl h
 have e2:(op==CmpOp.NotIn)=false:=by cases op<;>first |rfl |exact absurd rfl h2
 cases b<;>simp[behindInMarks,e1,e2]
def zl (p:Int->Int->Bool)(ta tb:TE):TE:=λσ H Q=>t2I ta tb (λi j H2=>Q (.bl (p i j)) H2) σ H
abbrev tLt:TE->TE->TE:=zl λi j=>decide (i<j)
abbrev tLe:TE->TE->TE:=zl λi j=>decide (i<=j)
abbrev tGt:TE->TE->TE:=zl λi j=>decide (j<i)
abbrev tGe:TE->TE->TE:=zl λi j=>decide (j<=i)
abbrev Ka:TE->TE->TE:=zl λi j=>decide (i=j)
abbrev J4:TE->TE->TE:=zl λi j=> !decide (i=j)
theorem qS {p:Int->Int->Bool}(ha:PE X a ta)(hb:PE X b tb)
  (rule:∀ (i j:Int) (t u:Tok) (Q:Value->Shared->Prop) (s:Shared),Q (.bool (p i j)) s->wpAny (model X.prog X.w) X.A (compareOp op (.int i t) (.int j u)) Q X.xe s):PC X op a b (zl p ta tb):=by
 intro pins s σ H Q I h
 refine bin ha hb I h λv u s2 x y H2 I2 rx ry q=>?_
 obtain⟨i,j,rfl,rfl,q⟩:=q
 obtain⟨t,rfl⟩:=rx
 obtain⟨t',rfl⟩:=ry
 exact rule i j t t' _ s2 ⟨.bl _,H2,I2,rfl,q⟩
theorem tJ (ha:PE X a ta)(hb:PE X b tb):PC X .Lt a b (tLt ta tb):=qS ha hb λ_ _ _ _ _ _ h=>lt_int h
theorem IG (ha:PE X a ta)(hb:PE X b tb):PC X .LtE a b (tLe ta tb):=qS ha hb λ_ _ _ _ _ _ h=>le_int h
theorem AA (ha:PE X a ta)(hb:PE X b tb):PC X .Gt a b (tGt ta tb):=qS ha hb λ_ _ _ _ _ _ h=>gt_int h
theorem FO (ha:PE X a ta)(hb:PE X b tb):PC X .GtE a b (tGe ta tb):=qS ha hb λ_ _ _ _ _ _ h=>ge_int h
theorem lZ (ha:PE X a ta)(hb:PE X b tb):PC X .Eq a b (Ka ta tb):=qS ha hb λ_ _ _ _ _ _ h=>eq_int (by rw[Bool.beq_eq_decide_eq];exact h)
theorem CQ (ha:PE X a ta)(hb:PE X b tb):PC X .NotEq a b (J4 ta tb):=qS ha hb λ_ _ _ _ _ _ h=>ne_int (by rw[bne,Bool.beq_eq_decide_eq];exact h)
def J6 (ta:TE):TE:=λσ H Q=>ta σ H λx H1=>Q (.bl (decide (x = .non))) H1
def Ij (ta:TE):TE:=λσ H Q=>ta σ H λx H1=>Q (.bl (!decide (x = .non))) H1
theorem RelV.ym {x:V}{v:Value}(r:RelV x v):(v==Value.none)=decide (x = .non):=by
 cases x with
 |non=>cases r;rfl
 |bl _=>cases r;rfl
 |int _=>obtain⟨t,rfl⟩:=r;rfl
 |str _=>obtain⟨t,rfl⟩:=r;rfl
 |byt _=>obtain⟨t,rfl⟩:=r;rfl
 |flt _=>obtain⟨t,rfl⟩:=r;rfl
 |ref _=>cases r;rfl
 |ty _=>cases r;rfl
theorem GI {j pos'}(ha:PE X a ta):PC X .Is a (.Constant .none j pos') (J6 ta):=by
 intro pins s σ H Q I h
 refine thn (ha pins s σ H _ I h) λv s1 ⟨x,H1,I1,r1,q1⟩=>?_
 exact Constant_none (is_none_gen ⟨.bl _,H1,I1,by rw[r1.ym];rfl,q1⟩)
theorem qt {j pos'}(ha:PE X a ta):PC X .IsNot a (.Constant .none j pos') (Ij ta):=by
 intro pins s σ H Q I h
 refine thn (ha pins s σ H _ I h) λv s1 ⟨x,H1,I1,r1,q1⟩=>?_
 exact Constant_none (isnot_none_gen ⟨.bl _,H1,I1,by rw[r1.ym];rfl,q1⟩)
def tB (t:TE):TT:=λσ H Q=>t σ H λx H1=>∃ c,x = .bl c/\Q c H1
theorem GG {t:TE}(h:PC X op a b t)(h1:behindInMarks op b=false:=by first |exact yn _ (by decide) (by decide)|rfl):PE X (.Compare a [op] [b] pos) t:=λpins s σ H Q I hw=>wpAny_Compare1 (h pins s σ H Q I hw) h1
theorem gz {t:TE}(h:PC X op a b t)(h1:behindInMarks op b=false:=by first |exact yn _ (by decide) (by decide)|rfl):PT X (.Compare a [op] [b] pos) (tB t):=by
 intro pins s σ H Q I hw
 refine wpAny_isTrue_Compare1 (thn (h pins s σ H _ I hw) λv s1 h1=>thn h1 λu s2 h2=>thn h2 λc s3 ⟨x,H1,I1,r1,q1⟩=>?_) h1
 obtain⟨d,rfl,q⟩:=q1
 cases r1
 exact cC ⟨H1,I1,q⟩
theorem CF {t:TE}(h:PE X e t)(he:∀ whole,isTrue e X.env whole=(do let v <-whole;standAt e.pos;holding [v] (truthy v)):=by intro _;rfl):PT X e (tB t):=by
 intro pins s σ H Q I hw
 refine isTrue_plain (thn (h pins s σ H _ I hw) λv s1 ⟨x,H1,I1,r1,q1⟩=>?_) (he _)
 obtain⟨d,rfl,q⟩:=q1
 cases r1
 exact cC ⟨H1,I1,q⟩
variable {tA tB':TT}{rest:List Expr}
def Ke (t u:TT):TT:=λσ H Q=>t σ H λc H1=>if c=true then u σ H1 Q else Q false H1
def tOr (t u:TT):TT:=λσ H Q=>t σ H λc H1=>if c=true then Q true H1 else u σ H1 Q
def JZ (t:TT):TT:=λσ H Q=>t σ H λc H1=>Q (!c) H1
theorem wF (ha:PT X a tA):PW X (.BoolOp .And [a] pos) tA:=by
 intro wh pins s σ H Q I h
 refine isTrue_and (thn (ha pins s σ H Q I h) λc s1 e=>?_)
 cases c with
 |true=>exact isTrue_and_nil e
 |false=>exact e
theorem zx (ha:PT X a tA):PW X (.BoolOp .Or [a] pos) tA:=by
 intro wh pins s σ H Q I h
 refine isTrue_or (thn (ha pins s σ H Q I h) λc s1 e=>?_)
 cases c with
 |false=>exact isTrue_or_nil e
 |true=>exact e
theorem wG (ha:PT X a tA)(hb:PW X (.BoolOp .And (b::rest) pos) tB'):PW X (.BoolOp .And (a::b::rest) pos) (Ke tA tB'):=by
 intro wh pins s σ H Q I h
 refine isTrue_and (thn (ha pins s σ H _ I h) λc s1 ⟨H1,I1,q1⟩=>?_)
 cases c with
 |true=>exact hb wh pins s1 σ H1 Q I1 q1
 |false=>exact⟨H1,I1,q1⟩
theorem ya (ha:PT X a tA)(hb:PW X (.BoolOp .Or (b::rest) pos) tB'):PW X (.BoolOp .Or (a::b::rest) pos) (tOr tA tB'):=by
 intro wh pins s σ H Q I h
 refine isTrue_or (thn (ha pins s σ H _ I h) λc s1 ⟨H1,I1,q1⟩=>?_)
 cases c with
 |true=>exact⟨H1,I1,q1⟩
 |false=>exact hb wh pins s1 σ H1 Q I1 q1
theorem zy (ha:PT X a tA):PT X (.UnaryOp .Not a pos) (JZ tA):=by
 intro pins s σ H Q I h
 exact isTrue_not (ha pins s σ H (λc H1=>Q (!c) H1) I h)
def Ir (ta tb:TE):TE:=λσ H Q=>ta σ H λx H1=>∃ c,x = .bl c/\if c=true then tb σ H1 Q else Q (.bl false) H1
theorem GF {op}{t:TE}(h:PE X a t):PE X (.BoolOp op [a] pos) t:=λpins s σ H Q I hw=>BoolOp_one (h pins s σ H Q I hw)
theorem GH (ha:PE X a ta)(hb:PE X (.BoolOp .And (b::rest) pos) tb):PE X (.BoolOp .And (a::b::rest) pos) (Ir ta tb):=by
 intro pins s σ H Q I h
 refine BoolOp_and (thn (ha pins s σ H _ I h) λv s1 ⟨x,H1,I1,r1,q1⟩=>?_)
 obtain⟨c,rfl,q1⟩:=q1
 cases r1
 refine cC ?_
 cases c with
 |true=>exact hb pins s1 σ H1 Q I1 q1
 |false=>exact⟨.bl false,H1,I1,rfl,q1⟩
def tIf (t:TT)(ta tb:TE):TE:=λσ H Q=>t σ H λc H1=>if c=true then ta σ H1 Q else tb σ H1 Q
theorem yf {c:Expr}(hc:PT X c tA)(ha:PE X a ta)(hb:PE X b tb):PE X (.IfExp c a b pos) (tIf tA ta tb):=by
 intro pins s σ H Q I h
 refine wpAny_IfExp (thn (hc pins s σ H _ I h) λd s1 ⟨H1,I1,q1⟩=>?_)
 cases d with
 |true=>exact ha pins s1 σ H1 Q I1 q1
 |false=>exact hb pins s1 σ H1 Q I1 q1
end
def SqL (K:PySem.W.Frag)(H:Hp)(a:Addr)(xs:List V):Prop:=
 Rd H a (.lst xs)\/
  ∃ (o:Obj) (its:Array Value) (n:Nat),K.lookup a=some o/\o.cls = .type "list" /\o.dict=none/\o.data = .seq its n/\its.size<=sizeLine/\Vals xs its.toList
def SqT (K:PySem.W.Frag)(H:Hp)(a:Addr)(xs:List V):Prop:=
 Rd H a (.tup xs)\/
  ∃ (o:Obj) (its:Array Value) (n:Nat),K.lookup a=some o/\o.cls = .type "tuple" /\o.data = .seq its n/\its.size<=sizeLine/\Vals xs its.toList
def Q0:Value->Option V
 |.none=>some .non
 |.bool b=>some (.bl b)
 |.int i _=>some (.int i)
 |.str x _=>some (.str x)
 |.bytes b _=>some (.byt b)
 |.float b _=>some (.flt b)
 |.ref a=>some (.ref a)
 |.type n=>some (.ty n)
 |_=>none
theorem RelV.abs {x:V}(r:RelV x u):Q0 u=some x:=by
 cases x with
 |non=>cases r;rfl
 |bl _=>cases r;rfl
 |int _=>obtain⟨t,rfl⟩:=r;rfl
 |str _=>obtain⟨t,rfl⟩:=r;rfl
 |byt _=>obtain⟨t,rfl⟩:=r;rfl
 |flt _=>obtain⟨t,rfl⟩:=r;rfl
 |ref _=>cases r;rfl
 |ty _=>cases r;rfl
theorem RelV.inj {x y:V}(r:RelV x u)(q:RelV y u):x=y:=aU (r.abs.symm.trans q.abs)
theorem Vals.inj:∀ {xs ys:List V}{us:List Value},Vals xs us->Vals ys us->xs=ys
 |_,_,_,.nil,.nil=>rfl
 |_,_,_,.cons r t,.cons r' t'=>by rw[r.inj r',Vals.inj t t']
variable {K:PySem.W.Frag}
section
variable {X:Cx}{pins:List (Addr×Obj)}{σ:St}{H:Hp}{s:Shared}{a:Addr}{xs ys:List V}
theorem SqL.of (h:H a=some (.lst xs)):SqL K H a xs:=.inl (.inl h)
theorem SqT.of (h:H a=some (.tup xs)):SqT K H a xs:=.inl (.inl h)
theorem Inv.list (I:Inv X pins σ H s)(h:SqL X.K H a xs):∃ its:List Value,Vals xs its/\PlainL s.heap a its.toArray/\xs.length<=sizeLine:=by
 rcases h with h |⟨o,its,n,hk,hc,hd,hs,hz,r⟩
 ·obtain⟨z,its,n,r,e⟩:=h.ok I.hok
  exact⟨its,r,⟨_,n,e,rfl,rfl,rfl⟩,z⟩
 ·refine⟨its.toList,r,⟨o,n,I.kIn a o hk,hc,hd,by simpa using hs⟩,?_⟩
  have e:=r.length
  simp only[cM]at e
  omega
theorem Inv.tuple (I:Inv X pins σ H s)(h:SqT X.K H a xs):∃ its:List Value,Vals xs its/\IsTup s.heap a its.toArray/\xs.length<=sizeLine:=by
 rcases h with h |⟨o,its,n,hk,hc,hs,hz,r⟩
 ·obtain⟨z,its,r,p⟩:=h.ok I.hok
  exact⟨its,r,p,z⟩
 ·refine⟨its.toList,r,⟨o,I.kIn a o hk,hc,n,by simpa using hs⟩,?_⟩
  have e:=r.length
  simp only[cM]at e
  omega
theorem Inv.m8 (I:Inv X pins σ H s)(h:SqL X.K H a xs)(h':SqL X.K H a ys):xs=ys:=by
 obtain⟨its,r,⟨o,n,e,_,_,d⟩,_⟩:=I.list h
 obtain⟨its',r',⟨o',n',e',_,_,d'⟩,_⟩:=I.list h'
 rw[e]at e';cases e'
 rw[d]at d'
 injection d' with d1 _
 have:its=its':=by simpa using bQ Array.toList d1
 subst this
 exact r.inj r'
end
abbrev Cx.sH (X:Cx)(E:Value->Shared->Prop):Cx:={X with xe:=E}
abbrev Cx.nox (X:Cx):Cx:=X.sH λ_ _=>False
theorem Cx.Ok.sH {X:Cx}(ok:X.Ok)(E:Value->Shared->Prop):(X.sH E).Ok:=
 ⟨ok.mod,ok.kind,ok.glob,ok.blt,ok.above,ok.inj,ok.has,ok.cab,ok.hd,ok.frames,ok.stk,ok.exf,ok.bs,ok.bsz,ok.zG,ok.BU,ok.rf,ok.frf⟩
theorem Cx.Ok.nY {X:Cx}(ok:(X.sH E).Ok):X.Ok:=
 ⟨ok.mod,ok.kind,ok.glob,ok.blt,ok.above,ok.inj,ok.has,ok.cab,ok.hd,ok.frames,ok.stk,ok.exf,ok.bs,ok.bsz,ok.zG,ok.BU,ok.rf,ok.frf⟩
section
variable {X:Cx}{pins:List (Addr×Obj)}{σ:St}{H:Hp}{s:Shared}{E:Value->Shared->Prop}
theorem Inv.sH (I:Inv X pins σ H s)(E:Value->Shared->Prop):Inv (X.sH E) pins σ H s:=⟨I.ok.sH E,I.os,I.bare,I.base,I.loc,I.cell,I.free,I.kj,I.pin,I.hok,I.len⟩
theorem Inv.nY (I:Inv (X.sH E) pins σ H s):Inv X pins σ H s:=⟨I.ok.nY,I.os,I.bare,I.base,I.loc,I.cell,I.free,I.kj,I.pin,I.hok,I.len⟩
theorem SP.nY {D:Ends}{f:Flow}{s':Shared}(h:SP (X.sH E) pins D f s'):SP X pins D f s':=by
 cases f with
 |next=>obtain⟨σ',H',I,q⟩:=h;exact⟨σ',H',I.nY,q⟩
 |brk=>obtain⟨σ',H',I,q⟩:=h;exact⟨σ',H',I.nY,q⟩
 |cont=>obtain⟨σ',H',I,q⟩:=h;exact⟨σ',H',I.nY,q⟩
 |ret u=>obtain⟨v,σ',H',I,r,q⟩:=h;exact⟨v,σ',H',I.nY,r,q⟩
theorem PSs.nox {st:List Stmt}{t:TS}(h:PSs X.nox st t):PSs X st t:=λpins s σ H D I hw=>
 bq (h pins s σ H D (I.sH _) hw) (λ_ _ q=>q.nY) λ_ _ z=>False.elim z
end
section
variable {X:Cx}{st:Stmt}{rest:List Stmt}{t u:TS}{e:Expr}{te:TE}{pos:Pos}
def Ik:TS:=λD σ H=>D.nx σ H
def qi (t u:TS):TS:=λD σ H=>t {D with nx:=u D} σ H
theorem fT:PSs X [] Ik:=λ_ _ σ H _ I h=>eK ⟨σ,H,I,h⟩
theorem fj (h1:PS X st t)(h2:PSs X rest u):PSs X (st::rest) (qi t u):=by
 intro pins s σ H D I h
 refine wpAny_execs_cons (thn (h1 pins s σ H {D with nx:=u D} I h) λf s1 q=>?_)
 cases f with
 |next=>
  obtain⟨σ',H',I',q⟩:=q
  exact h2 pins s1 σ' H' D I' q
 |ret v=>exact q
 |brk=>exact q
 |cont=>exact q
theorem fo (h1:PS X st t):PSs X [st] t:=by
 intro pins s σ H D I h
 refine wpAny_execs_cons (thn (h1 pins s σ H D I h) λf s1 q=>?_)
 cases f with
 |next=>exact eK q
 |ret v=>exact q
 |brk=>exact q
 |cont=>exact q
theorem Inv.quiet (I:Inv X pins σ H s):interactive X.env=false:=by simp[interactive,I.ok.kind]
def Im (te:TE):TS:=λD σ H=>te σ H λ_ H1=>D.nx σ H1
theorem g7 (he:PE X e te)(hs:swapsWith e none pos.line X.env=pure false:=by rfl):PS X (.Expr e pos) (Im te):=by
 intro pins s σ H D I h
 exact wpAny_Expr_any (thn (he pins s σ H _ I h) λv s1 ⟨x,H1,I1,r1,q1⟩=>⟨σ,H1,I1,q1⟩) I.quiet hs
def JY (te:TE):TS:=λD σ H=>te σ H D.rt
theorem fL (he:PE X e te):PS X (.Return (some e) pos) (JY te):=by
 intro pins s σ H D I h
 exact wpAny_Return_some (thn (he pins s σ H _ I h) λv s1 ⟨x,H1,I1,r1,q1⟩=>⟨x,σ,H1,I1,r1,q1⟩)
def J7 (c:TT)(t u:TS):TS:=λD σ H=>c σ H λb H1=>if b=true then t D σ H1 else u D σ H1
theorem hZ {c:Expr}{a b:List Stmt}{tc:TT}(hc:PT X c tc)(ha:PSs X a t)(hb:PSs X b u):PS X (.If c a b pos) (J7 tc t u):=by
 intro pins s σ H D I h
 refine wpAny_If (thn (hc pins s σ H _ I h) λd s1 ⟨H1,I1,q1⟩=>?_)
 cases d with
 |true=>exact ha pins s1 σ H1 D I1 q1
 |false=>exact hb pins s1 σ H1 D I1 q1
end
abbrev TG:=V->St->Hp->(St->Hp->Prop)->Prop
abbrev TGs:=List V->St->Hp->(St->Hp->Prop)->Prop
def PG (X:Cx)(target:Expr)(t:TG):Prop:=
 ∀ (pins:List (Addr×Obj)) (s:Shared) (σ:St) (H:Hp) (v:V) (u:Value) (Q:St->Hp->Prop),Inv X pins σ H s->RelV v u->t v σ H Q->
  wpAny (model X.prog X.w) X.A (assign target X.env u) (λ_ s'=>∃ σ' H',Inv X pins σ' H' s'/\Q σ' H') X.xe s
def PGs (X:Cx)(ts:List Expr)(t:TGs):Prop:=
 ∀ (pins:List (Addr×Obj)) (s:Shared) (σ:St) (H:Hp) (vs:List V) (us:List Value) (Q:St->Hp->Prop),Inv X pins σ H s->Vals vs us->t vs σ H Q->
  wpAny (model X.prog X.w) X.A (assignInOrder ((assignEach ts X.env).map (·.2)) us) (λ_ s'=>∃ σ' H',Inv X pins σ' H' s'/\Q σ' H') X.xe s
abbrev HN:=V->V->V->Hp->(Hp->Prop)->Prop
def JP (X:Cx)(t:HN):Prop:=
 ∀ (pins:List (Addr×Obj)) (s:Shared) (σ:St) (H:Hp) (o i v:V) (ov iv u:Value) (Q:Hp->Prop),Inv X pins σ H s->RelV o ov->RelV i iv->RelV v u->t o i v H Q->
  wpAny (model X.prog X.w) X.A (setItem ov iv u) (λ_ s'=>∃ H',Inv X pins σ H' s'/\Q H') X.xe s
abbrev TIp:=V->V->Hp->VK->Prop
def PIp (X:Cx)(op:Operator)(t:TIp):Prop:=
 ∀ (pins:List (Addr×Obj)) (s:Shared) (σ:St) (H:Hp) (x y:V) (v u:Value) (Q:VK),Inv X pins σ H s->RelV x v->RelV y u->t x y H Q->
  wpAny (model X.prog X.w) X.A (inplaceOp op v u) (EP X pins σ Q) X.xe s
section
variable {X:Cx}{pos:Pos}
def oC (i:Nat):TG:=λv σ H Q=>Q (σ.set i (some v)) H
theorem fy (hN:X.N.Nodup)(hi:X.N[i]? = some x)(hx:Loc X.env.scope x)(hf:X.fn x=true\/X.env.scope.names.lookup x=some .local:=by first |exact .inl rfl |exact .inr rfl |assumption):PG X (.Name x pos) (oC i):=by
 intro pins s σ H v u Q I r h
 exact wpAny_assign_Name (qj I hN hi hx r (λs' I'=>⟨_,H,I',h⟩) hf)
def Jx:TGs:=λvs σ H Q=>vs = []/\Q σ H
def FX (t:TG)(u:TGs):TGs:=λvs σ H Q=>∃ v r,vs=v::r/\t v σ H λσ' H'=>u r σ' H' Q
theorem gS:PGs X [] Jx:=by
 intro pins s σ H vs us Q I r h
 obtain⟨e,h⟩:=h
 subst e
 cases r
 exact assignInOrder_nil ⟨σ,H,I,h⟩
theorem fF {es:List Expr}{t:TG}{u:TGs}(h1:PG X e t)(h2:PGs X es u)
  (hs:(assignEach (e::es) X.env).map (·.2)=assign e X.env::(assignEach es X.env).map (·.2):=by rfl):PGs X (e::es) (FX t u):=by
 intro pins s σ H vs us Q I r h
 obtain⟨v,vr,e1,h⟩:=h
 subst e1
 cases r with
 |cons r rr=>
  rw[hs]
  refine assignInOrder_cons (thn (h1 pins s σ H _ _ _ I r h) λ_ s1 ⟨σ1,H1,I1,q1⟩=>?_)
  exact h2 pins s1 σ1 H1 _ _ Q I1 rr q1
def Jw (K:PySem.W.Frag)(n:Nat)(t:TGs):TG:=λv σ H Q=>∃ a xs,v = .ref a/\SqT K H a xs/\xs.length=n/\t xs σ H Q
theorem iz {es:List Expr}{k:Nat}{t:TGs}{n:Nat}(hc:X.calm=true)(h:PGs X es t)
  (hn:(assignEach es X.env).length=n:=by rfl) (hst:(assignEach es X.env).findIdx? (·.1)=none:=by rfl):PG X (.Tuple es k pos) (Jw X.K n t):=by
 intro pins s σ H v u Q I r hw
 obtain⟨a,xs,e1,hq,hl,hw⟩:=hw
 subst e1
 cases r
 obtain⟨its,rv,ht,hz⟩:=I.tuple hq
 refine assign_Tuple_tuple (I.ok.hd hc) ht (by simp[hn,<-hl,rv.length]) hst λh' hx=>?_
 have I1:Inv X pins σ H {s with heap:=h'} :=I.kept (t':=s.toks) λb o e=>hx b o (aS (aE e)) e
 exact h pins _ σ H xs _ Q I1 (by simpa using rv) hw
def Oe (to ti:TE)(t:HN):TG:=λv σ H Q=>to σ H λo H1=>ti σ H1 λi H2=>t o i v H2 λH3=>Q σ H3
theorem CK {o i:Expr}{to ti:TE}{t:HN}(ho:PE X o to)(hi:PE X i ti)(hs:JP X t)
  (ha:∀ v,assign (.Subscript o i pos) X.env v=(do
   let ov <-holding [v] (eval o X.env)
   let iv <-holding [v,ov] (eval i X.env)
   standAt pos
   holding [v,ov,iv] (setItem ov iv v)
   release [v,ov,iv] []):=by intro _;rfl):PG X (.Subscript o i pos) (Oe to ti t):=by
 intro pins s σ H v u Q I r h
 rw[ha]
 refine ae (cS (thn (ho pins s σ H _ I h) λov s1 ⟨x,H1,I1,r1,q1⟩=>?_))
 refine ae (cS (thn (hi pins s1 σ H1 _ I1 q1) λiv s2 ⟨y,H2,I2,r2,q2⟩=>?_))
 refine ae (cF (ae (cS (thn (hs pins s2 σ H2 x y v ov iv u _ I2 r1 r2 r q2) λ_ s3 ⟨H3,I3,q3⟩=>?_))))
 exact wpAny_release ⟨σ,H3,I3,q3⟩
def Ci (te:TE)(g:TG):TS:=λD σ H=>te σ H λx H1=>g x σ H1 D.nx
theorem ot {tg:Expr}{te:TE}{g:TG}(he:PE X e te)(hg:PG X tg g)(hs:swapsWithSole [tg] e pos.line X.env=pure false:=by rfl)(hw:swappedStores [tg] e X.env=pure none:=by rfl)
  (h1:(assignEach [tg] X.env).map (·.2) = [assign tg X.env]:=by rfl):PS X (.Assign [tg] e pos) (Ci te g):=by
 intro pins s σ H D I h
 refine wpAny_Assign_stores (thn (he pins s σ H _ I h) λv s1 ⟨x,H1,I1,r1,q1⟩=>?_) hs hw
 rw[h1]
 exact thn (hg pins s1 σ H1 x v _ I1 r1 q1) λ_ s2 q=>q
theorem fC {te:TE}{pos':Pos}(hN:X.N.Nodup)(hi:X.N[i]? = some x)(hx:Loc X.env.scope x)(he:PE X e te)(hs:swapsWith e (some (.Name x pos')) pos.line X.env=pure false:=by rfl)(hf:X.fn x=true\/X.env.scope.names.lookup x=some .local:=by first |exact .inl rfl |exact .inr rfl |assumption):
  PS X (.Assign [.Name x pos'] e pos) (Ci te (oC i)):=by
 intro pins s σ H D I h
 refine wpAny_Assign_Name (thn (he pins s σ H _ I h) λv s1 ⟨y,H1,I1,r1,q1⟩=>?_) hs
 exact qj I1 hN hi hx r1 (λs2 I2=>⟨_,H1,I2,q1⟩) hf
def Kd (i:Nat)(te:TE)(ti:TIp):TS:=λD σ H=>∃ x,σ[i]? = some (some x)/\te σ H λy H1=>ti x y H1 λz H2=>D.nx (σ.set i (some z)) H2
theorem wJ {te:TE}{op:Operator}{ti:TIp}{pos':Pos}(hN:X.N.Nodup)(hi:X.N[i]? = some x)(hx:Loc X.env.scope x)(he:PE X e te)(ho:PIp X op ti)(hf:X.fn x=true\/X.env.scope.names.lookup x=some .local:=by first |exact .inl rfl |exact .inr rfl |assumption):
  PS X (.AugAssign (.Name x pos') op e pos) (Kd i te ti):=by
 intro pins s σ H D I h
 obtain⟨v,e1,h⟩:=h
 obtain⟨m,hn,hl⟩:=I.loc
 have vis:Vis X.env.scope x:=by rcases hx with k |k;exact .inl k;exact .inr (.inl k)
 obtain⟨u,r,l⟩:=hl i x v hi e1 vis
 refine wpAny_AugAssign_Name ?_
 have go:wpAny (model X.prog X.w) X.A (eval e X.env) (λw s₂=>wpAny (model X.prog X.w) X.A (inplaceOp op u w) (λr s₃=>wpAny (model X.prog X.w) X.A (storeName X.env x r) (λ_=>SP X pins D .next) X.xe s₃) X.xe s₂) X.xe s:=by
  refine thn (he pins s σ H _ I h) λw s1 ⟨y,H1,I1,r1,q1⟩=>?_
  refine thn (ho pins s1 σ H1 v y u w _ I1 r r1 q1) λz s2 ⟨zv,H2,I2,r2,q2⟩=>?_
  exact qj I2 hN hi hx r2 (λs3 I3=>⟨_,H2,I3,q2⟩) hf
 rcases l with⟨hk,hm⟩|⟨hk,c,hc,AR⟩
 ·exact wpAny_loadName_local I.ok.kind hk hn hm go
 ·rcases hk with hk |hk
  ·exact wpAny_loadName_cell I.ok.kind hk hc AR go
  ·rcases hx with k |k
   ·have:X.env.scope.names.lookup x=some .free:=hk
    rw[k]at this;cases this
   ·have:X.env.scope.names.lookup x=some .free:=hk
    rw[k]at this;cases this
def ipI (f:Int->Int->Int):TIp:=λx y H Q=>∃ i j,x = .int i/\y = .int j/\Q (.int (f i j)) H
theorem zN:PIp X .Add (ipI λi j=>i+j):=by
 intro pins s σ H x y v u Q I r1 r2 h
 obtain⟨i,j,e1,e2,q⟩:=h
 subst e1;subst e2
 obtain⟨t,rfl⟩:=r1
 obtain⟨t',rfl⟩:=r2
 exact iadd_int ⟨.int _,H,I.tok _,⟨_,rfl⟩,q⟩
end
section
variable {X:Cx}{pos:Pos}
def sO (c:TT)(tb:TS):TS:=λD σ H=>∃ W:Nat->St->Hp->Prop,(∃ m,W m σ H)/\∀ m σ H,W m σ H->
 c σ H λb H1=>if b=true then ∃ N:St->Hp->Prop,(∀ σ' H',N σ' H'->∃ m',m'<m/\W m' σ' H')/\tb {D with nx:=N,ct:=N,bk:=D.nx} σ H1 else D.nx σ H1
theorem m3 {c:Expr}{body:List Stmt}{tc:TT}{tb:TS}(hp:PassesOwn (model X.prog X.w) X.A X.env X.xe)(hc:PT X c tc)(hb:PSs X body tb):PS X (.While c body [] pos) (sO tc tb):=by
 intro pins s σ H D I h
 obtain⟨W,⟨m0,w0⟩,turn⟩:=h
 refine wpAny_While (codeAny_whileLoop (λn s'=>∃ σ' H',Inv X pins σ' H' s'/\W n σ' H') ?_ m0 ⟨σ,H,I,w0⟩)
 rintro n s1 ⟨σ1,H1,I1,w1⟩
 refine dg hp (thn (hc pins s1 σ1 H1 _ I1 (turn n σ1 H1 w1)) λb s2 ⟨H2,I2,q2⟩=>?_)
 cases b with
 |true=>
  obtain⟨N,hN,q2⟩:=q2
  rw[aM rfl]
  refine dg hp (thn (hb pins s2 σ1 H2 _ I2 q2) λf s3 q3=>?_)
  cases f with
  |next=>
   obtain⟨σ3,H3,I3,n3⟩:=q3
   obtain⟨m',hm,w3⟩:=hN σ3 H3 n3
   exact⟨m',hm,σ3,H3,I3,w3⟩
  |cont=>
   obtain⟨σ3,H3,I3,n3⟩:=q3
   obtain⟨m',hm,w3⟩:=hN σ3 H3 n3
   exact⟨m',hm,σ3,H3,I3,w3⟩
  |brk=>exact q3
  |ret v=>exact q3
 |false=>
  rw[aH aF]
  exact eK ⟨σ1,H2,I2,q2⟩
end
structure It where
 go:Nat->Hp->Prop
 yld:Nat->Hp->V->Hp->Prop
 stop:Nat->Hp->Prop
def nT (X:Cx)(pins:List (Addr×Obj))(H:Hp)(b:Addr):Prop:=
 H b=none/\b≠X.env.locals/\b∉X.fs/\(b∈X.ex\/X.s₀.heap.objs.size<=b)/\(∀ x c,X.env.cells.lookup x=some c->c≠b)/\∀ p∈X.pn++pins,p.1≠b
theorem Inv.zW {X:Cx}{H':Hp}(I:Inv X pins σ H s)(hb:s.heap.objs.size<=b)(hn:H' b=none):nT X pins H' b:=by
 refine⟨hn,cT (aY I.lt hb),I.M0 hb,.inr (bE I.sz hb),λx c e z=>?_,λp hp z=>?_⟩
 ·obtain⟨v,q⟩:=I.cell x c e
  exact absurd (aY q.lt (by rw[z];exact hb)) (dD _)
 ·exact absurd (aY (aE (I.pin p hp).1) (by rw[z];exact hb)) (dD _)
structure Turn (P:Program)(w:World)(K:PySem.W.Frag)(tg:Expr)(J:It)(fp:List Addr)(it:Addr)(tn:Nat->Heap->Prop):Prop where
 mem:it∈fp
 obj:∀ i h,tn i h->∀ b∈fp,∃ o,h.get? b=some o/\∀ v,o.data≠ .cell v
 keep:∀ i h h',tn i h->(∀ b∈fp,∀ o,h.get? b=some o->h'.get? b=some o)->tn i h'
 item:∀ (X:Cx),X.prog=P->X.w=w->X.K=K->X.calm=true->∀ (i:Nat) (pins:List (Addr×Obj)) (s:Shared) (σ:St) (H:Hp) (E:Value->Shared->Prop),Inv X pins σ H s->(∀ b∈fp,nT X pins H b)->tn i s.heap->J.go i H->
  wpAny (model P w) X.A (pyNext (.ref it)) (λr s1=>∃ u,r=some u/\
   wpAny (model P w) X.A (letOwnedTupleGo tg (.ref it) u) (λ_ s2=>∃ x H',Inv X pins σ H' s2/\RelV x u/\J.yld i H x H'/\tn (i+1) s2.heap/\∀ b∈fp,H' b=none) E s1) E s
 done:∀ (X:Cx),X.prog=P->X.w=w->X.K=K->X.calm=true->∀ (i:Nat) (pins:List (Addr×Obj)) (s:Shared) (σ:St) (H:Hp) (E:Value->Shared->Prop),Inv X pins σ H s->(∀ b∈fp,nT X pins H b)->tn i s.heap->J.stop i H->
  wpAny (model P w) X.A (pyNext (.ref it)) (λr s1=>r=none/\Inv X pins σ H s1) E s
 self:∀ (A:Around) (i:Nat) (s:Shared) (Q:Value->Shared->Prop) (E:Value->Shared->Prop),tn i s.heap->Q (.ref it) s->wpAny (model P w) A (pyIter (.ref it)) Q E s
abbrev TI:=St->Hp->(It->Hp->Prop)->Prop
def PIE (X:Cx)(pins:List (Addr×Obj))(σ:St)(tg:Expr)(R:It->Hp->Prop)(itv:Value)(s2:Shared):Prop:=
 ∃ (it:Addr) (fp:List Addr) (tn:Nat->Heap->Prop) (J:It) (H':Hp),itv = .ref it/\Inv X pins σ H' s2/\Turn X.prog X.w X.K tg J fp it tn/\tn 0 s2.heap/\(∀ b∈fp,nT X pins H' b)/\R J H'
def PI (X:Cx)(tg iter:Expr)(wi:TI):Prop:=
 ∀ (pins:List (Addr×Obj)) (s:Shared) (σ:St) (H:Hp) (R:It->Hp->Prop),Inv X pins σ H s->wi σ H R->
  wpAny (model X.prog X.w) X.A (eval iter X.env) (λv s1=>wpAny (model X.prog X.w) X.A (pyIter v) (PIE X pins σ tg R) X.xe s1) X.xe s
theorem DA {M : Model} {A : Around} {E : Value → Shared → Prop} {s : Shared} {tg : Expr} {it : Addr} {u : Value} {o : Obj} {n : String} {vs : Array Value} {Q : Unit → Shared → Prop} (ho : s.heap.get? it = some o) (hc : o.cls = .type n) (hd : o.data = .fields vs)
    (hn : ["enumerate", "zip", "dict_itemiterator", "dict_reverseitemiterator", "odict_iterator", "itertools.zip_longest", "itertools.pairwise"].contains n = false) (hQ : Q () s) : wpAny M A (letOwnedTupleGo tg (.ref it) u) Q E s := by
  unfold letOwnedTupleGo
  cases tg <;> first
    | exact aq hQ
    | (cases u <;> first
        | exact aq hQ
        | (refine ae (wpAny_load ho ?_)
           rw [hc, hd]
           show wpAny M A (if (["enumerate", "zip", "dict_itemiterator", "dict_reverseitemiterator", "odict_iterator", "itertools.zip_longest", "itertools.pairwise"].contains n && vs[0]? == some (rawInt _)) = true then _ else _) Q E s
           rw [aH (by intro h; rw [hn, Bool.false_and] at h; cases h)]
           exact aq hQ))
def Itl (K:PySem.W.Frag)(a:Addr):It:=
 ⟨λi H=>∃ xs x,SqL K H a xs/\xs[i]? = some x,λi H x H'=>H'=H/\∀ xs,SqL K H a xs->xs[i]? = some x,λi H=>∃ xs,SqL K H a xs/\xs.length<=i⟩
def Itr (lo:Int)(n:Nat):It:=⟨λi _=>i<n,λi H x H'=>H'=H/\x = .int (lo+i),λi _=>n<=i⟩
theorem Bc {tg:Expr}(a it:Addr):Turn P w K tg (Itl K a) [it] it (λi h=>h.IsListIter it a i) where
 mem:=by simp
 obj:=λi h st b hb=>by
  have e:b=it:=by simpa using hb
  subst e
  obtain⟨o,e,c,d⟩:=st
  exact⟨o,e,λv z=>by rw[d]at z;cases z⟩
 keep:=λi h h' st k=>st.at λo e=>k it (by simp) o e
 item:=by
  intro X hP hw hK hc i pins s σ H E I hf st hg
  subst hP hw hK
  obtain⟨xs,x,hq,hx⟩:=hg
  obtain⟨its,rv,p,hz⟩:=I.list hq
  obtain⟨u,hu,ru⟩:=rv.get hx
  obtain⟨f0,f1,f2,f3,f4,f5⟩:=hf it (by simp)
  refine wpAny_pyNext_list_item st p.isList (x:=u) (by simpa using hu) λh' st' sb=>?_
  have I1:Inv X pins σ H {s with heap:=h'} :=I.turned (t':=s.toks) (λb o hb e=>(sb.2 b hb).trans e) f0 f1 f3 f4 f5
  obtain⟨o,e,c,d⟩:=id st'
  exact⟨u,rfl,DA (s:={s with heap:=h'}) e c d (by decide) ⟨x,H,I1,ru,⟨rfl,λys hy=>by rw[I.m8 hy hq];exact hx⟩,st',λb hb=>(hf b hb).1⟩⟩
 done:=by
  intro X hP hw hK hc i pins s σ H E I hf st hg
  subst hP hw hK
  obtain⟨xs,hq,hx⟩:=hg
  obtain⟨its,rv,p,hz⟩:=I.list hq
  obtain⟨f0,f1,f2,f3,f4,f5⟩:=hf it (by simp)
  have hl:=rv.length
  exact wpAny_pyNext_list_end (I.ok.hd hc) st p.isList (by simp;omega) λh' eb=>⟨rfl,I.turned (t':=s.toks) (λb o hb e=>eb b o hb e) f0 f1 f3 f4 f5⟩
 self:=λ_ _ _ _ _ st h=>wpAny_pyIter_listiter st h
theorem zg {tg:Expr}(it:Addr)(lo:Int)(n:Nat):Turn P w K tg (Itr lo n) [it] it (λi h=>IsRangeIter h it (lo+(i:Nat)*1) ((n:Int)-(i:Nat)) 1) where
 mem:=by simp
 obj:=λi h st b hb=>by
  have e:b=it:=by simpa using hb
  subst e
  exact⟨_,st,λv z=>by
   have z':Data.fields _=Data.cell v:=z
   cases z'⟩
 keep:=λi h h' st k=>k it (by simp) _ st
 item:=by
  intro X hP hw hK hc i pins s σ H E I hf st hg
  subst hP hw hK
  obtain⟨f0,f1,f2,f3,f4,f5⟩:=hf it (by simp)
  have W:=Walks.range (prog:=X.prog) (w:=X.w) (I.ok.hd hc) it lo 1 n
  refine W.item i s _ _ hg st λv h' tk hv st' kk=>?_
  obtain⟨t,rfl⟩:=hv
  have I1:Inv X pins σ H {s with heap:=h',toks:=tk} :=I.turned (λb o hb e=>kk b o (by simpa using hb) e) f0 f1 f3 f4 f5
  refine⟨_,rfl,DA (s:={s with heap:=h',toks:=tk}) (n:= "range_iterator") st' rfl rfl (by decide) ⟨.int (lo+i),H,I1,⟨t,?_⟩,⟨rfl,rfl⟩,st',λb hb=>(hf b hb).1⟩⟩
  rw[Int.mul_one]
 done:=by
  intro X hP hw hK hc i pins s σ H E I hf st hg
  subst hP hw hK
  obtain⟨f0,f1,f2,f3,f4,f5⟩:=hf it (by simp)
  exact wpAny_pyNext_range_end (I.ok.hd hc) st (by have:n<=i:=hg;omega) λh' eb=>⟨rfl,I.turned (t':=s.toks) (λb o hb e=>eb b o hb e) f0 f1 f3 f4 f5⟩
 self:=λ_ _ _ _ _ st h=>wpAny_pyIter_rangeiter st h
section
variable {X:Cx}{tg:Expr}
def Jb (K:PySem.W.Frag)(tl:TE):TI:=λσ H R=>tl σ H λx H1=>∃ a,x = .ref a/\(∃ xs,SqL K H1 a xs)/\R (Itl K a) H1
theorem gj {l:Expr}{tl:TE}(hl:PE X l tl):PI X tg l (Jb X.K tl):=by
 intro pins s σ H R I h
 refine thn (hl pins s σ H _ I h) λv s1 ⟨x,H1,I1,r1,q1⟩=>?_
 obtain⟨a,e,⟨xs,hq⟩,q⟩:=q1
 subst e
 cases r1
 obtain⟨its,rv,p,hz⟩:=I1.list hq
 refine wpAny_pyIter_list p.isList ?_
 refine⟨s1.heap.objs.size,[s1.heap.objs.size],_,_,H1,rfl,I1.kept (t':=s1.toks) λb o e=>aD _ e,Bc a _,⟨_,aT _ rfl,rfl,rfl⟩,λb hb=>?_,q⟩
 have e:b=s1.heap.objs.size:=by simpa using hb
 subst e
 exact I1.zW (au _) (I1.hok.fresh (au _))
theorem xY {R:It->Hp->Prop}{lo hi:Int}{t u v:Tok}{tk:Nat}(I:Inv X pins σ H s)(h1: -(2 ^ 62)<=lo)(h2:lo<2 ^ 62)(h3: -(2 ^ 62)<=hi)(h4:hi<2 ^ 62)
  (q:R (Itr lo (hi-lo).toNat) H):wpAny (model X.prog X.w) X.A (pyIter (.ref s.heap.objs.size)) (PIE X pins σ tg R) E {s with heap:=s.heap.push {cls:=.type "range",data:=.fields #[.int lo t,.int hi u,.int 1 v]},toks:=tk} :=by
 refine wpAny_pyIter_range (IsRange.new ..) (small_one h1 h2 h3 h4) ?_
 have I1:Inv X pins σ H {s with heap:=s.heap.push {cls:=.type "range",data:=.fields #[.int lo t,.int hi u,.int 1 v]},toks:=tk} :=I.kept λb o e=>aD _ e
 refine⟨(s.heap.push {cls:=.type "range",data:=.fields #[.int lo t,.int hi u,.int 1 v]}).objs.size,[(s.heap.push {cls:=.type "range",data:=.fields #[.int lo t,.int hi u,.int 1 v]}).objs.size],_,_,H,rfl,
  I1.kept (t':=tk) λb o e=>aD _ e,zg _ lo (hi-lo).toNat,?_,λb hb=>?_,q⟩
 ·have e1:lo+((0:Nat):Int)*1=lo:=by simp
  have e2:(((hi-lo).toNat:Nat):Int)-((0:Nat):Int)=Builtin.Range.rangeSize lo hi 1:=by rw[rangeSize_one];split<;>omega
  show IsRangeIter _ _ (lo+((0:Nat):Int)*1) ((((hi-lo).toNat:Nat):Int)-((0:Nat):Int)) 1
  rw[e1,e2]
  exact aT _ rfl
 ·have e:b=(s.heap.push {cls:=.type "range",data:=.fields #[.int lo t,.int hi u,.int 1 v]}).objs.size:=by simpa using hb
  subst e
  exact I1.zW (au _) (I1.hok.fresh (au _))
def Ja (ta:TA):TI:=λσ H R=>ta σ H λvs H1=>∃ j:Int,vs = [.int j]/\ -(2 ^ 62)<=j/\j<2 ^ 62/\R (Itr 0 j.toNat) H1
def I0 (ta:TA):TI:=λσ H R=>ta σ H λvs H1=>∃ i j:Int,vs = [.int i,.int j]/\(-(2 ^ 62)<=i/\i<2 ^ 62/\ -(2 ^ 62)<=j/\j<2 ^ 62)/\R (Itr i (j-i).toNat) H1
theorem kF {a:Expr}{ta:TA}{p:Pos}(hg:Gl X "range")(hm:X.mg "range" = none)(ha:PA X [a] ta)(hs:starEach [a] X.env = [(false,eval a X.env)]:=by rfl):PI X tg (.Call (.Name "range" p) [a] [] pos) (Ja ta):=by
 intro pins s σ H R I h
 refine Call_ (oz I hg hm boot_range (bT (thn (ha pos pins s σ H _ I h) λus s1 ⟨vs,H1,I1,r1,q1⟩=>?_) hs rfl))
 obtain⟨j,e,q1,q2,q⟩:=q1
 subst e
 cases r1 with
 |cons r rr=>
  cases rr
  obtain⟨t,rfl⟩:=r
  exact call_range_1 (xY I1 (by omega) (by omega) q1 q2 (by simpa using q))
theorem Bw {a b:Expr}{ta:TA}{p:Pos}(hg:Gl X "range")(hm:X.mg "range" = none)(ha:PA X [a,b] ta)(hs:starEach [a,b] X.env = [(false,eval a X.env),(false,eval b X.env)]:=by rfl)(hs2:starEach [b] X.env = [(false,eval b X.env)]:=by rfl):
  PI X tg (.Call (.Name "range" p) [a,b] [] pos) (I0 ta):=by
 intro pins s σ H R I h
 refine Call_ (oz I hg hm boot_range (bT (thn (ha pos pins s σ H _ I h) λus s1 ⟨vs,H1,I1,r1,q1⟩=>?_) (by rw[hs,hs2]) (by rw[hs2];rfl)))
 obtain⟨i,j,e,⟨q1,q2,q3,q4⟩,q⟩:=q1
 subst e
 cases r1 with
 |cons r rr=>
  cases rr with
  |cons r' rr=>
   cases rr
   obtain⟨t,rfl⟩:=r
   obtain⟨t',rfl⟩:=r'
   exact call_range_2 (xY I1 q1 q2 q3 q4 q)
def J9 (wi:TI)(g:TG)(tb:TS):TS:=λD σ H=>wi σ H λJ H1=>∃ W:Nat->Nat->St->Hp->Prop,(∃ m,W 0 m σ H1)/\∀ i m σ H,W i m σ H->
 (J.stop i H/\D.nx σ H)\/(J.go i H/\∃ N:St->Hp->Prop,(∀ σ' H',N σ' H'->∃ m',m'<m/\W (i+1) m' σ' H')/\∀ x H',J.yld i H x H'->g x σ H' λσ2 H2=>tb {D with nx:=N,ct:=N,bk:=D.nx} σ2 H2)
def pW (fp:List Addr)(h:Heap):List (Addr×Obj):=fp.filterMap λb=>(h.get? b).map λo=>(b,o)
theorem jx {fp:List Addr}{h:Heap}{o:Obj}(hb:b∈fp)(e:h.get? b=some o):(b,o)∈pW fp h:=List.mem_filterMap.mpr ⟨b,hb,by rw[e];rfl⟩
theorem BA {fp:List Addr}{h:Heap}{p:Addr×Obj}(hp:p∈pW fp h):p.1∈fp/\h.get? p.1=some p.2:=by
 obtain⟨b,hb,e⟩:=List.mem_filterMap.mp hp
 cases q:h.get? b with
 |none=>rw[q]at e;cases e
 |some o=>
  rw[q]at e
  have e':(b,o)=p:=aU e
  subst e'
  exact⟨hb,q⟩
theorem Inv.pinned {fp:List Addr}(I:Inv X pins σ H s)(hf:∀ b∈fp,nT X pins H b)(ho:∀ b∈fp,∃ o,s.heap.get? b=some o/\∀ v,o.data≠ .cell v):Inv X (pins++pW fp s.heap) σ H s:=
 I.Ay λp hp=>(ay.mp hp).elim (λz=>I.pin p (az _ z)) λz=>by
  obtain⟨hb,e⟩:=BA z
  obtain⟨f0,f1,f2,_⟩:=hf p.1 hb
  obtain⟨o,e',d⟩:=ho p.1 hb
  rw[e]at e';cases e'
  exact⟨e,f0,f1,f2,d⟩
theorem Inv.mR {pl:List (Addr×Obj)}(I:Inv X (pins++pl) σ H s):Inv X pins σ H s:=I.Ay λp hp=>I.pin p (az _ (aG _ hp))
theorem iy {iter:Expr}{body:List Stmt}{wi:TI}{g:TG}{tb:TS}{pos:Pos}(hp:PassesOwn (model X.prog X.w) X.A X.env X.xe)(hc:X.calm=true)(hi:PI X tg iter wi)(hg:PG X tg g)(hb:PSs X body tb)
  (hs:∀ x,foldedSetIterable iter X.env x=pure x:=by intro _;rfl):PS X (.For tg iter body [] pos) (J9 wi g tb):=by
 intro pins s σ H D I h
 refine wpAny_For (thn (hi pins s σ H _ I h) λv s1 h1=>thn h1 λitv s2 h2=>?_) hs
 obtain⟨it,fp,tn,J,H2,e,I2,T,st2,f2,W,⟨m0,w0⟩,turn⟩:=h2
 subst e
 have Gq:∀ {H':Hp},(∀ b∈fp,H' b=none)->∀ b∈fp,nT X pins H' b:=λhn b hb=>⟨hn b hb,(f2 b hb).2⟩
 refine codeAny_forLoop_any (λn s'=>∃ i σ' H',Inv X pins σ' H' s'/\tn i s'.heap/\(∀ b∈fp,H' b=none)/\W i n σ' H') ?_ m0 ⟨0,σ,H2,I2,st2,λb hb=>(f2 b hb).1,w0⟩
 rintro n s3 ⟨i,σ3,H3,I3,st3,fr3,w3⟩
 rcases turn i n σ3 H3 w3 with⟨stop,qn⟩|⟨go,N,hN,step⟩
 ·refine dg hp (thn (T.done X rfl rfl rfl hc i pins s3 σ3 H3 X.xe I3 (Gq fr3) st3 stop) λr s4 ⟨hr,I4⟩=>?_)
  subst hr
  exact eK ⟨σ3,H3,I4,qn⟩
 ·refine dg hp (thn (T.item X rfl rfl rfl hc i pins s3 σ3 H3 X.xe I3 (Gq fr3) st3 go) λr s4 ⟨u,hr,h4⟩=>?_)
  subst hr
  refine dg hp (thn h4 λ_ s5 ⟨x,H5,I5,r5,y5,st5,fr5⟩=>?_)
  have I5':=I5.pinned (Gq fr5) (T.obj _ _ st5)
  refine dg hp (thn (hg _ s5 σ3 H5 x u _ I5' r5 (step x H5 y5)) λ_ s6 ⟨σ6,H6,I6,q6⟩=>?_)
  refine dg hp (thn (hb _ s6 σ6 H6 _ I6 q6) λf s7 q7=>?_)
  have again:∀ {σ7:St}{H7:Hp},Inv X (pins++pW fp s5.heap) σ7 H7 s7->N σ7 H7->∃ m,m<n/\∃ i σ' H',Inv X pins σ' H' s7/\tn i s7.heap/\(∀ b∈fp,H' b=none)/\W i m σ' H':=λ{σ7 H7} I7 n7=>by
   obtain⟨m',hm,w7⟩:=hN σ7 H7 n7
   refine⟨m',hm,i+1,σ7,H7,I7.mR,T.keep _ _ _ st5 λb hb o e=>(I7.pin (b,o) (az _ (az _ (jx hb e)))).1,λb hb=>?_,w7⟩
   obtain⟨o,e,d⟩:=T.obj _ _ st5 b hb
   exact(I7.pin (b,o) (az _ (az _ (jx hb e)))).2.1
  cases f with
  |next=>obtain⟨σ7,H7,I7,n7⟩:=q7;exact again I7 n7
  |cont=>obtain⟨σ7,H7,I7,n7⟩:=q7;exact again I7 n7
  |brk=>obtain⟨σ7,H7,I7,q7⟩:=q7;exact⟨σ7,H7,I7.mR,q7⟩
  |ret v=>obtain⟨x7,σ7,H7,I7,r7,q7⟩:=q7;exact⟨x7,σ7,H7,I7.mR,r7,q7⟩
end
theorem ni {xs:List V}{g:TG}{tb:TS}{D:Ends}(Pv:Nat->St->Hp->Prop)(h0:Pv 0 σ H)(hl:∀ i σ H,i<=xs.length->Pv i σ H->SqL K H a xs)
  (hs:∀ i x σ H,xs[i]? = some x->Pv i σ H->g x σ H λσ2 H2=>tb {D with nx:=Pv (i+1),ct:=Pv (i+1),bk:=D.nx} σ2 H2) (hd:∀ σ H,Pv xs.length σ H->D.nx σ H):
  ∃ W:Nat->Nat->St->Hp->Prop,(∃ m,W 0 m σ H)/\∀ i m σ H,W i m σ H->
   ((Itl K a).stop i H/\D.nx σ H)\/((Itl K a).go i H/\∃ N:St->Hp->Prop,(∀ σ' H',N σ' H'->∃ m',m'<m/\W (i+1) m' σ' H')/\∀ x H',(Itl K a).yld i H x H'->g x σ H' λσ2 H2=>tb {D with nx:=N,ct:=N,bk:=D.nx} σ2 H2):=by
 refine⟨λi m σ H=>m=xs.length-i/\i<=xs.length/\Pv i σ H,⟨xs.length,by simp,aP _,h0⟩,?_⟩
 rintro i m σ H ⟨rfl,hi,p⟩
 have q:=hl i σ H hi p
 by_cases hlt:i<xs.length
 ·refine .inr ⟨⟨xs,xs[i],q,by simp[hlt]⟩,Pv (i+1),λσ' H' p'=>⟨xs.length-(i+1),by omega,rfl,hlt,p'⟩,λx H' y=>?_⟩
  obtain⟨e,y⟩:=y
  subst e
  exact hs i x σ _ (y xs q) p
 ·have e:i=xs.length:=by omega
  subst e
  exact .inl ⟨⟨xs,q,au _⟩,hd σ H p⟩
theorem pC {lo:Int}{n:Nat}{g:TG}{tb:TS}{D:Ends}(Pv:Nat->St->Hp->Prop)(h0:Pv 0 σ H)
  (hs:∀ i σ H,i<n->Pv i σ H->g (.int (lo+i)) σ H λσ2 H2=>tb {D with nx:=Pv (i+1),ct:=Pv (i+1),bk:=D.nx} σ2 H2) (hd:∀ σ H,Pv n σ H->D.nx σ H):
  ∃ W:Nat->Nat->St->Hp->Prop,(∃ m,W 0 m σ H)/\∀ i m σ H,W i m σ H->
   ((Itr lo n).stop i H/\D.nx σ H)\/((Itr lo n).go i H/\∃ N:St->Hp->Prop,(∀ σ' H',N σ' H'->∃ m',m'<m/\W (i+1) m' σ' H')/\∀ x H',(Itr lo n).yld i H x H'->g x σ H' λσ2 H2=>tb {D with nx:=N,ct:=N,bk:=D.nx} σ2 H2):=by
 refine⟨λi m σ H=>m=n-i/\i<=n/\Pv i σ H,⟨n,by simp,aP _,h0⟩,?_⟩
 rintro i m σ H ⟨rfl,hi,p⟩
 by_cases hlt:i<n
 ·refine .inr ⟨hlt,Pv (i+1),λσ' H' p'=>⟨n-(i+1),by omega,rfl,hlt,p'⟩,λx H' y=>?_⟩
  obtain⟨e,y⟩:=y
  subst e y
  exact hs i σ _ hlt p
 ·have e:i=n:=by omega
  subst e
  exact .inl ⟨au _,hd σ H p⟩
theorem Cb {c:TT}{tb:TS}{D:Ends}(Pv:St->Hp->Prop)(μ:St->Hp->Nat)(h0:Pv σ H)
  (hs:∀ σ H,Pv σ H->c σ H λb H1=>if b=true then tb {D with nx:=λσ' H'=>Pv σ' H'/\μ σ' H'<μ σ H,ct:=λσ' H'=>Pv σ' H'/\μ σ' H'<μ σ H,bk:=D.nx} σ H1 else D.nx σ H1)
  (mono:∀ σ H Q Q',(∀ b H1,Q b H1->Q' b H1)->c σ H Q->c σ H Q'):sO c tb D σ H:=by
 refine⟨λm σ H=>m=μ σ H/\Pv σ H,⟨_,rfl,h0⟩,?_⟩
 rintro m σ H ⟨rfl,p⟩
 refine mono σ H _ _ (λb H1 q=>?_) (hs σ H p)
 cases b with
 |true=>exact⟨_,λσ' H' ⟨p',l⟩=>⟨_,l,rfl,p'⟩,q⟩
 |false=>exact q
abbrev R2:=V->V->Hp->VK->Prop
def OpR (X:Cx)(f:Value->Value->Sem Value)(r:R2):Prop:=
 ∀ (pins:List (Addr×Obj)) (s:Shared) (σ:St) (H:Hp) (x y:V) (v u:Value) (Q:VK),Inv X pins σ H s->RelV x v->RelV y u->r x y H Q->
  wpAny (model X.prog X.w) X.A (f v u) (EP X pins σ Q) X.xe s
def UnR (X:Cx)(f:Value->Sem Value)(r:V->Hp->VK->Prop):Prop:=
 ∀ (pins:List (Addr×Obj)) (s:Shared) (σ:St) (H:Hp) (x:V) (v:Value) (Q:VK),Inv X pins σ H s->RelV x v->r x H Q->
  wpAny (model X.prog X.w) X.A (f v) (EP X pins σ Q) X.xe s
def mF (X:Cx)(f:Value)(r:List V->Hp->VK->Prop):Prop:=
 ∀ (pins:List (Addr×Obj)) (s:Shared) (σ:St) (H:Hp) (xs:List V) (us:List Value) (Q:VK),Inv X pins σ H s->Vals xs us->r xs H Q->
  wpAny (model X.prog X.w) X.A (call f us) (EP X pins σ Q) X.xe s
def Q2 (X:Cx)(r:V->Hp->(Bool->Hp->Prop)->Prop):Prop:=
 ∀ (pins:List (Addr×Obj)) (s:Shared) (σ:St) (H:Hp) (x:V) (v:Value) (Q:Bool->Hp->Prop),Inv X pins σ H s->RelV x v->r x H Q->
  wpAny (model X.prog X.w) X.A (truthy v) (TP X pins σ Q) X.xe s
def tOp (r:R2)(ta tb:TE):TE:=λσ H Q=>ta σ H λx H1=>tb σ H1 λy H2=>r x y H2 Q
def tUn (r:V->Hp->VK->Prop)(ta:TE):TE:=λσ H Q=>ta σ H λx H1=>r x H1 Q
def rI (C:Int->Int->Prop)(g:Int->Int->V):R2:=λx y H Q=>∃ i j,x = .int i/\y = .int j/\C i j/\Q (g i j) H
def rI0 (g:Int->Int->V):R2:=λx y H Q=>∃ i j,x = .int i/\y = .int j/\Q (g i j) H
def rU (g:Int->V):V->Hp->VK->Prop:=λx H Q=>∃ i,x = .int i/\Q (g i) H
section
variable {X:Cx}{a b c:Expr}{ta tb tc:TE}{pos:Pos}
theorem HL (ha:PE X a ta)(hb:PE X b tb){R:V->V->Hp->Prop}(I:Inv X pins σ H s)
  (h:ta σ H λx H1=>tb σ H1 λy H2=>R x y H2) {Q:Value->Shared->Prop}{f:Value->Value->Sem Value}
  (hf:∀ v u s2 x y H2,Inv X pins σ H2 s2->RelV x v->RelV y u->R x y H2->wpAny (model X.prog X.w) X.A (f v u) Q X.xe s2):
  wpAny (model X.prog X.w) X.A (eval a X.env) (λv s₁=>wpAny (model X.prog X.w) X.A (eval b X.env) (λu s₂=>wpAny (model X.prog X.w) X.A (f v u) Q X.xe s₂) X.xe s₁) X.xe s:=by
 refine thn (ha pins s σ H _ I h) λv s1 ⟨x,H1,I1,r1,q1⟩=>?_
 refine thn (hb pins s1 σ H1 _ I1 q1) λu s2 ⟨y,H2,I2,r2,q2⟩=>?_
 exact hf v u s2 x y H2 I2 r1 r2 q2
theorem fD {op:Operator}{r:R2}(ho:OpR X (binaryOp op) r)(ha:PE X a ta)(hb:PE X b tb):PE X (.BinOp a op b pos) (tOp r ta tb):=by
 intro pins s σ H Q I h
 exact wpAny_BinOp (HL ha hb I h λv u s2 x y H2 I2 rx ry q=>ho pins s2 σ H2 x y v u Q I2 rx ry q)
theorem tH {op:UnaryOp}{r:V->Hp->VK->Prop}(ho:UnR X (unaryOp op) r)(ha:PE X a ta):PE X (.UnaryOp op a pos) (tUn r ta):=by
 intro pins s σ H Q I h
 exact UnaryOp_ (thn (ha pins s σ H _ I h) λv s1 ⟨x,H1,I1,r1,q1⟩=>ho pins s1 σ H1 x v Q I1 r1 q1)
theorem opI {f:Value->Value->Sem Value}{C:Int->Int->Prop}{g:Int->Int->Int}
  (rule:∀ (i j:Int) (t u:Tok) (s:Shared) (Q:Value->Shared->Prop) (E:Value->Shared->Prop),C i j->Q (.int (g i j) s.toks) {s with toks:=s.toks+1} ->wpAny (model X.prog X.w) X.A (f (.int i t) (.int j u)) Q E s):
  OpR X f (rI C λi j=>.int (g i j)):=by
 intro pins s σ H x y v u Q I rx ry h
 obtain⟨i,j,rfl,rfl,hc,q⟩:=h
 obtain⟨t,rfl⟩:=rx
 obtain⟨t',rfl⟩:=ry
 exact rule i j t t' s _ _ hc ⟨.int (g i j),H,I.tok _,⟨_,rfl⟩,q⟩
theorem EO {f:Value->Value->Sem Value}{g:Int->Int->Int}
  (rule:∀ (i j:Int) (t u:Tok) (s:Shared) (Q:Value->Shared->Prop) (E:Value->Shared->Prop),Q (.int (g i j) s.toks) {s with toks:=s.toks+1} ->wpAny (model X.prog X.w) X.A (f (.int i t) (.int j u)) Q E s):
  OpR X f (rI0 λi j=>.int (g i j)):=by
 intro pins s σ H x y v u Q I rx ry h
 obtain⟨i,j,rfl,rfl,q⟩:=h
 obtain⟨t,rfl⟩:=rx
 obtain⟨t',rfl⟩:=ry
 exact rule i j t t' s _ _ ⟨.int (g i j),H,I.tok _,⟨_,rfl⟩,q⟩
theorem IL {f:Value->Value->Sem Value}{g:Int->Int->Bool}
  (rule:∀ (i j:Int) (t u:Tok) (s:Shared) (Q:Value->Shared->Prop) (E:Value->Shared->Prop),Q (.bool (g i j)) s->wpAny (model X.prog X.w) X.A (f (.int i t) (.int j u)) Q E s):
  OpR X f (rI0 λi j=>.bl (g i j)):=by
 intro pins s σ H x y v u Q I rx ry h
 obtain⟨i,j,rfl,rfl,q⟩:=h
 obtain⟨t,rfl⟩:=rx
 obtain⟨t',rfl⟩:=ry
 exact rule i j t t' s _ _ ⟨.bl (g i j),H,I,rfl,q⟩
def Q7 (i j:Int):Prop:=0<j/\j<1073741824
def Q6 (i j:Int):Prop:=0<=j/\j<=1000000/\i.natAbs<2 ^ 64
def HS (i j:Int):Prop:=(-(2 ^ 64)<i/\i<2 ^ 64)\/(-(2 ^ 64)<j/\j<2 ^ 64)
theorem HS.ok {i j:Int}(h:HS i j):IntMulOk i j:=by
 rcases h with⟨h1,h2⟩|⟨h1,h2⟩
 ·exact .of_left (intBits_le_64 h1 h2)
 ·exact .of_right (intBits_le_64 h1 h2)
theorem ig:OpR X (binaryOp .Add) (rI0 λi j=>.int (i+j)):=EO λ_ _ _ _ _ _ _ q=>add_int q
theorem zA:OpR X (binaryOp .Sub) (rI0 λi j=>.int (i-j)):=EO λ_ _ _ _ _ _ _ q=>sub_int q
theorem iH:OpR X (binaryOp .Mult) (rI HS λi j=>.int (i*j)):=opI λ_ _ _ _ _ _ _ hc q=>mul_int q hc.ok
theorem jm:OpR X (binaryOp .FloorDiv) (rI Q7 λi j=>.int (i/j)):=opI λi j _ _ _ _ _ hc q=>by
 have h1:(0:Int)<j:=hc.1
 have h2:j<1073741824:=hc.2
 exact floordiv_int (by omega) (by rw[Int.fdiv_eq_ediv_of_nonneg i (by omega)];exact q) (.inl (PyProof.noPylong_small (by omega)))
theorem ie:OpR X (binaryOp .Mod) (rI (λ_ j=>0<j) λi j=>.int (i%j)):=opI λi j _ _ _ _ _ hc q=>by
 have h1:(0:Int)<j:=hc
 exact mod_int' (by omega) (by rw[Int.fmod_eq_emod_of_nonneg i (by omega)];exact q)
theorem zB:OpR X (binaryOp .Pow) (rI Q6 λi j=>.int (i ^ j.toNat)):=opI λ_ _ _ _ _ _ _ hc q=>pow_int_small hc.1 hc.2.1 hc.2.2 q
theorem GP:OpR X (binaryOp .BitAnd) (rI0 λi j=>.int (Builtin.bitAnd i j)):=EO λ_ _ _ _ _ _ _ q=>and_int q
theorem GJ:OpR X (binaryOp .BitXor) (rI0 λi j=>.int (Builtin.bitXor i j)):=EO λ_ _ _ _ _ _ _ q=>xor_int q
theorem unI {f:Value->Sem Value}{g:Int->Int}
  (rule:∀ (i:Int) (t:Tok) (s:Shared) (Q:Value->Shared->Prop) (E:Value->Shared->Prop),Q (.int (g i) s.toks) {s with toks:=s.toks+1} ->wpAny (model X.prog X.w) X.A (f (.int i t)) Q E s):
  UnR X f (rU λi=>.int (g i)):=by
 intro pins s σ H x v Q I rx h
 obtain⟨i,rfl,q⟩:=h
 obtain⟨t,rfl⟩:=rx
 exact rule i t s _ _ ⟨.int (g i),H,I.tok _,⟨_,rfl⟩,q⟩
theorem pS:UnR X (unaryOp .USub) (rU λi=>.int (-i)):=unI λ_ _ _ _ _ q=>neg_int q
end
def Iw:V->V->Bool
 |.non,.non=>true |.non,.int _=>true |.int _,.non=>true |.non,.bl _=>true |.bl _,.non=>true |.non,.str _=>true |.str _,.non=>true
 |.int _,.int _=>true |.bl _,.bl _=>true |.str _,.str _=>true |.byt _,.byt _=>true
 |.int _,.str _=>true |.str _,.int _=>true |.bl _,.str _=>true |.str _,.bl _=>true
 |_,_=>false
def rEq:R2:=λx y H Q=>Iw x y=true/\Q (.bl (decide (x=y))) H
def rNe:R2:=λx y H Q=>Iw x y=true/\Q (.bl (!decide (x=y))) H
theorem A3 {i j:Int} :decide (V.int i=V.int j)=(i==j):=by
 rw[bP]
 simp
theorem DK {i j:Bool} :decide (V.bl i=V.bl j)=(i==j):=by
 rw[bP]
 simp
theorem A2 {i j:Str} :decide (V.str i=V.str j)=(i==j):=by
 rw[bP]
 simp
theorem A4 {i j:Array UInt8} :decide (V.byt i=V.byt j)=(i.toList==j.toList):=by
 rw[bP]
 cases i
 cases j
 simp
section
variable {X:Cx}{a b c:Expr}{ta tb tc:TE}{pos:Pos}
theorem gW {Q:VK}{k k':Bool}(I:Inv X pins σ H s)(q:Q (.bl k) H)(e:k=k'):EP X pins σ Q (.bool k') s:=by
 subst e
 exact⟨.bl k,H,I,rfl,q⟩
theorem AE:OpR X (compareOp .Eq) rEq:=by
 intro pins s σ H x y v u Q I rx ry h
 obtain⟨hs,q⟩:=h
 cases x with
 |non=>
  cases rx
  cases y with
  |non=>cases ry;exact PySem.EqNone.eq_none_none (gW I q (by simp))
  |bl j=>cases ry;exact PySem.EqNone.eq_none_bool (gW I q (by simp))
  |int j=>obtain⟨t',rfl⟩:=ry;exact PySem.EqNone.eq_none_int (gW I q (by simp))
  |str j=>obtain⟨t',rfl⟩:=ry;exact PySem.EqNone.eq_none_str (gW I q (by simp))
  |_=>exact absurd (show false=true from hs) aF
 |bl i=>
  cases rx
  cases y with
  |non=>cases ry;exact PySem.EqNone.eq_bool_none (gW I q (by simp))
  |bl j=>cases ry;exact eq_bool (gW I q DK)
  |str j=>obtain⟨t',rfl⟩:=ry;exact PySem.EqMixed.eq_bool_str (gW I q (by simp))
  |_=>exact absurd (show false=true from hs) aF
 |int i=>
  obtain⟨t,rfl⟩:=rx
  cases y with
  |non=>cases ry;exact PySem.EqNone.eq_int_none (gW I q (by simp))
  |int j=>obtain⟨t',rfl⟩:=ry;exact eq_int (gW I q A3)
  |str j=>obtain⟨t',rfl⟩:=ry;exact PySem.EqMixed.eq_int_str (gW I q (by simp))
  |_=>exact absurd (show false=true from hs) aF
 |str i=>
  obtain⟨t,rfl⟩:=rx
  cases y with
  |non=>cases ry;exact PySem.EqNone.eq_str_none (gW I q (by simp))
  |bl j=>cases ry;exact PySem.EqMixed.eq_str_bool (gW I q (by simp))
  |int j=>obtain⟨t',rfl⟩:=ry;exact PySem.EqMixed.eq_str_int (gW I q (by simp))
  |str j=>obtain⟨t',rfl⟩:=ry;exact eq_str (gW I q A2)
  |_=>exact absurd (show false=true from hs) aF
 |byt i=>
  obtain⟨t,rfl⟩:=rx
  cases y with
  |byt j=>obtain⟨t',rfl⟩:=ry;exact PySem.W.eq_bytes (gW I q A4)
  |_=>exact absurd (show false=true from hs) aF
 |_=>cases y<;>exact absurd (show false=true from hs) aF
theorem vM:OpR X (compareOp .NotEq) rNe:=by
 intro pins s σ H x y v u Q I rx ry h
 obtain⟨hs,q⟩:=h
 cases x with
 |non=>
  cases rx
  cases y with
  |non=>cases ry;exact PySem.EqNone.ne_none_none (gW I q (by simp))
  |bl j=>cases ry;exact PySem.EqNone.ne_none_bool (gW I q (by simp))
  |int j=>obtain⟨t',rfl⟩:=ry;exact PySem.EqNone.ne_none_int (gW I q (by simp))
  |str j=>obtain⟨t',rfl⟩:=ry;exact PySem.EqNone.ne_none_str (gW I q (by simp))
  |_=>exact absurd (show false=true from hs) aF
 |bl i=>
  cases rx
  cases y with
  |non=>cases ry;exact PySem.EqNone.ne_bool_none (gW I q (by simp))
  |bl j=>cases ry;exact ne_bool (gW I q (bQ not DK))
  |str j=>obtain⟨t',rfl⟩:=ry;exact PySem.EqMixed.ne_bool_str (gW I q (by simp))
  |_=>exact absurd (show false=true from hs) aF
 |int i=>
  obtain⟨t,rfl⟩:=rx
  cases y with
  |non=>cases ry;exact PySem.EqNone.ne_int_none (gW I q (by simp))
  |int j=>obtain⟨t',rfl⟩:=ry;exact ne_int (gW I q (bQ not A3))
  |str j=>obtain⟨t',rfl⟩:=ry;exact PySem.EqMixed.ne_int_str (gW I q (by simp))
  |_=>exact absurd (show false=true from hs) aF
 |str i=>
  obtain⟨t,rfl⟩:=rx
  cases y with
  |non=>cases ry;exact PySem.EqNone.ne_str_none (gW I q (by simp))
  |bl j=>cases ry;exact PySem.EqMixed.ne_str_bool (gW I q (by simp))
  |int j=>obtain⟨t',rfl⟩:=ry;exact PySem.EqMixed.ne_str_int (gW I q (by simp))
  |str j=>obtain⟨t',rfl⟩:=ry;exact ne_str (gW I q (bQ not A2))
  |_=>exact absurd (show false=true from hs) aF
 |byt i=>
  obtain⟨t,rfl⟩:=rx
  cases y with
  |byt j=>obtain⟨t',rfl⟩:=ry;exact PySem.W.ne_bytes (gW I q (bQ not A4))
  |_=>exact absurd (show false=true from hs) aF
 |_=>cases y<;>exact absurd (show false=true from hs) aF
theorem IJ:OpR X (compareOp .Lt) (rI0 λi j=>.bl (decide (i<j))):=IL λ_ _ _ _ _ _ _ q=>lt_int q
theorem IK:OpR X (compareOp .LtE) (rI0 λi j=>.bl (decide (i<=j))):=IL λ_ _ _ _ _ _ _ q=>le_int q
theorem kH (b:Expr)(h:op≠ .In:=by decide)(h2:op≠ .NotIn:=by decide):behindInMarks op b=false:=by
 have e1:(op==CmpOp.In)=false:=by cases op<;>first |rfl |exact absurd rfl h
 have e2:(op==CmpOp.NotIn)=false:=by cases op<;>first |rfl |exact absurd rfl h2
 cases b<;>simp[behindInMarks,e1,e2]
theorem wL {r:R2}(ho:OpR X (compareOp op) r)(ha:PE X a ta)(hb:PE X b tb)(hm:behindInMarks op b=false):PE X (.Compare a [op] [b] pos) (tOp r ta tb):=by
 intro pins s σ H Q I h
 exact wpAny_Compare1 (HL ha hb I h λv u s2 x y H2 I2 rx ry q=>ho pins s2 σ H2 x y v u Q I2 rx ry q) hm
def Ih (t:TE):TT:=λσ H Q=>t σ H λx H'=>∃ k,x = .bl k/\Q k H'
theorem iu {r:R2}(ho:OpR X (compareOp op) r)(ha:PE X a ta)(hb:PE X b tb)(hm:behindInMarks op b=false):PT X (.Compare a [op] [b] pos) (Ih (tOp r ta tb)):=by
 intro pins s σ H Q I h
 refine wpAny_isTrue_Compare1 (thn (ha pins s σ H _ I h) λv s1 ⟨x,H1,I1,r1,q1⟩=>thn (hb pins s1 σ H1 _ I1 q1) λu s2 ⟨y,H2,I2,r2,q2⟩=>
  thn (ho pins s2 σ H2 x y v u _ I2 r1 r2 q2) λc s3 ⟨z,H3,I3,r3,k,e,q3⟩=>?_) hm
 subst e
 cases r3
 exact cC ⟨H3,I3,q3⟩
def Gn (r r':R2)(ta tb tc:TE):TE:=λσ H Q=>ta σ H λx H1=>tb σ H1 λy H2=>r x y H2 λz H3=>∃ k,z = .bl k/\
 (if k=true then tc σ H3 λw' H4=>r' y w' H4 Q else Q (.bl false) H3)
theorem CO {op':CmpOp}{r r':R2}(ho:OpR X (compareOp op) r)(ho':OpR X (compareOp op') r')(ha:PE X a ta)(hb:PE X b tb)(hc:PE X c tc)
  (hm:lastMarks [op,op'] [b,c]=false:=by with_unfolding_all rfl):PE X (.Compare a [op,op'] [b,c] pos) (Gn r r' ta tb tc):=by
 intro pins s σ H Q I h
 refine Compare_chain (thn (ha pins s σ H _ I h) λv s1 ⟨x,H1,I1,r1,q1⟩=>chain_link (thn (hb pins s1 σ H1 _ I1 q1) λu s2 ⟨y,H2,I2,r2,q2⟩=>
  thn (ho pins s2 σ H2 x y v u _ I2 r1 r2 q2) λd s3 ⟨z,H3,I3,r3,k,e,q3⟩=>?_)) hm
 subst e
 cases r3
 refine cC ?_
 cases k with
 |false=>exact ite_ff ⟨.bl false,H3,I3,rfl,q3⟩
 |true=>exact ite_tt (chain_last (thn (hc pins s3 σ H3 _ I3 q3) λw' s4 ⟨z',H4,I4,r4,q4⟩=>ho' pins s4 σ H4 y z' u w' Q I4 r2 r4 q4))
def JO (K:PySem.W.Frag)(x:V)(H:Hp)(k:Bool):Prop:=
 match x with
 |.non=>k=false
 |.bl b=>k=b
 |.int i=>k=(i !=0)
 |.str y=>y.length<=sizeLine/\k=((y.length:Int) !=0)
 |.byt y=>y.size<=sizeLine/\k=((y.size:Int) !=0)
 |.ref p=>(∃ xs,SqL K H p xs/\k = !xs.isEmpty)\/(∃ xs,SqT K H p xs/\k = !xs.isEmpty)\/∃ kvs,H p=some (.dK kvs)/\k = !kvs.isEmpty
 |_=>False
theorem zM {κ:Type}{kvs:List (κ×V)}{vs:List (κ×Value)}(r:KV kvs vs):(!vs.isEmpty) = !kvs.isEmpty:=by
 cases r<;>rfl
theorem ue {xs:List V}{its:List Value}(r:Vals xs its):(!its.toArray.isEmpty) = !xs.isEmpty:=by
 cases r<;>simp
theorem tY:(sizeLine:Nat)<2 ^ 63:=by rw[dB];decide
theorem Gi:Q2 X (λx H Q=>∃ k,JO X.K x H k/\Q k H):=by
 intro pins s σ H x v Q I rx h
 obtain⟨k,e,q⟩:=h
 have hl:=tY
 have hs:sizeLine=16777216:=dB
 cases x with
 |non=>
  cases rx
  have e':k=false:=e
  subst e'
  exact truthy_none ⟨H,I,q⟩
 |bl b=>
  cases rx
  have e':k=b:=e
  subst e'
  exact cC ⟨H,I,q⟩
 |int i=>
  obtain⟨t,rfl⟩:=rx
  have e':k=(i !=0):=e
  subst e'
  exact PySem.P.truthy_int ⟨H,I,q⟩
 |str y=>
  obtain⟨t,rfl⟩:=rx
  obtain⟨hy,e'⟩:y.length<=sizeLine/\k=((y.length:Int) !=0):=e
  subst e'
  exact PySem.P.truthy_str (by omega) ⟨H,I.tok _,q⟩
 |byt y=>
  obtain⟨t,rfl⟩:=rx
  obtain⟨hy,e'⟩:y.size<=sizeLine/\k=((y.size:Int) !=0):=e
  subst e'
  exact PySem.W.truthy_bytes (by omega) ⟨H,I.tok _,q⟩
 |ref p=>
  cases rx
  have e':(∃ xs,SqL X.K H p xs/\k = !xs.isEmpty)\/(∃ xs,SqT X.K H p xs/\k = !xs.isEmpty)\/∃ kvs,H p=some (.dK kvs)/\k = !kvs.isEmpty:=e
  rcases e' with⟨xs,hx,e'⟩|⟨xs,hx,e'⟩|⟨kvs,hx,e'⟩
  ·subst e'
   obtain⟨its,r,pl,hz⟩:=I.list hx
   have hlen:=r.length
   exact wpAny_truthy_list pl.isList (by simp only[aI];omega) ⟨H,I.tok _,by rw[ue r];exact q⟩
  ·subst e'
   obtain⟨its,r,pl,hz⟩:=I.tuple hx
   have hlen:=r.length
   exact truthy_tuple pl (by simp only[aI];omega) ⟨H,I.tok _,by rw[ue r];exact q⟩
  ·subst e'
   obtain⟨hz,hS,vs,r,m⟩:kvs.length<=sizeLine/\(p==sysModules)=false/\∃ vs,KV kvs vs/\s.heap.DictOf (gU X.prog X.w) p vs:=I.hok p _ hx
   have hlen:kvs.length=vs.length:=bR r
   exact wpAny_truthy_dict hS m (by omega) ⟨H,I.tok _,by rw[zM r];exact q⟩
 |_=>exact(show False from e).elim
theorem yb (ha:PE X a ta)(he:∀ whole,isTrue a X.env whole=(do let v <-whole;standAt a.pos;holding [v] (truthy v))):
  PT X a (λσ H Q=>ta σ H λx H'=>∃ k,JO X.K x H' k/\Q k H'):=by
 intro pins s σ H Q I h
 exact isTrue_plain (thn (ha pins s σ H _ I h) λv s1 ⟨x,H1,I1,r1,q1⟩=>Gi pins s1 σ H1 x v Q I1 r1 q1) (he _)
theorem vals1 {x:V}(r:Vals [x] us):∃ u,us = [u]/\RelV x u:=by
 cases r with
 |cons r1 r2=>cases r2;exact⟨_,rfl,r1⟩
theorem vals2 {x y:V}(r:Vals [x,y] us):∃ u w',us = [u,w']/\RelV x u/\RelV y w':=by
 cases r with
 |cons r1 r2=>
  cases r2 with
  |cons r3 r4=>cases r4;exact⟨_,_,rfl,r1,r3⟩
theorem rB (hc:X.calm=true):mF X (.builtin "max") (λxs H Q=>∃ i j,xs = [.int i,.int j]/\Q (.int (if j>i then j else i)) H):=by
 intro pins s σ H xs us Q I r h
 obtain⟨i,j,rfl,q⟩:=h
 obtain⟨u,w',rfl,⟨t,rfl⟩,⟨t',rfl⟩⟩:=vals2 r
 refine max_two_ints (I.ok.hd hc) λh' tk k=>⟨_,H,I.kept k,?_,q⟩
 by_cases hj:j>i
 ·rw[aM hj,aM hj];exact⟨_,rfl⟩
 ·rw[aH hj,aH hj];exact⟨_,rfl⟩
theorem rA (hc:X.calm=true):mF X (.builtin "min") (λxs H Q=>∃ i j,xs = [.int i,.int j]/\Q (.int (if j<i then j else i)) H):=by
 intro pins s σ H xs us Q I r h
 obtain⟨i,j,rfl,q⟩:=h
 obtain⟨u,w',rfl,⟨t,rfl⟩,⟨t',rfl⟩⟩:=vals2 r
 refine min_two_ints (I.ok.hd hc) λh' tk k=>⟨_,H,I.kept k,?_,q⟩
 by_cases hj:j<i
 ·rw[aM hj,aM hj];exact⟨_,rfl⟩
 ·rw[aH hj,aH hj];exact⟨_,rfl⟩
end
theorem si.some_of {v:V}{o:Option Value}(r:si (some v) o):∃ u,o=some u/\RelV v u:=by
 cases o with
 |none=>exact(show False from r).elim
 |some u=>exact⟨u,rfl,r⟩
structure mK (k:Nat)(A:Around):Prop where
 hd:A.handled=none
 dp:A.depth+3*k+5<recursionLimit
 un:A.units+16*k+200<cLine
theorem mK.mono {j k:Nat}(r:mK k A)(h:j<=k):mK j A:=⟨r.hd,by have:=r.dp;omega,by have:=r.un;omega⟩
theorem mK.deeper {k:Nat}(r:mK (k+1) A)(env:Env):mK k (A.deeper env):=
 ⟨r.hd,by have:=r.dp;show A.depth+1+3*k+5<_;omega,by have:=r.un;show A.units+3+16*k+200<_;omega⟩
theorem mK.depth {k:Nat}(r:mK k A):A.depth<recursionLimit:=by have:=r.dp;omega
theorem mK.units {k:Nat}(r:mK k A):A.units+64<cLine:=by have:=r.un;omega
def J0:TA:=λ_ H Q=>Q [] H
def Ip (ta:TE)(tr:TA):TA:=λσ H Q=>ta σ H λx H1=>tr σ H1 λxs H2=>Q (x::xs) H2
section
variable {X:Cx}{e:Expr}{es:List Expr}{te:TE}{t:TA}{pos:Pos}
theorem fh:PA X [] J0:=λ_ _ _ _ H Q I h=>Calls.spliced_nil ⟨[],H,I,.nil,h⟩
theorem eZ (ha:PE X e te)(hr:PA X es t)(hs:starEach (e::es) X.env=(false,eval e X.env)::starEach es X.env:=by rfl):PA X (e::es) (Ip te t):=by
 intro pos pins s σ H Q I h
 rw[hs]
 show wpAny _ _ (spliced ((false,eval e X.env)::backTo pos (starEach es X.env))) _ _ s
 refine Calls.spliced_cons (thn (ha pins s σ H _ I h) λu s1 ⟨x,H1,I1,r1,q1⟩=>?_)
 exact thn (hr pos pins s1 σ H1 _ I1 q1) λus s2 ⟨xs,H2,I2,r2,q2⟩=>⟨x::xs,H2,I2,.cons r1 r2,q2⟩
def JW (t:TA):TE:=λσ H Q=>t σ H λxs H1=>xs.length<=sizeLine/\∀ p,H1 p=none->Q (.ref p) (upd H1 p (.tup xs))
def J5 (t:TA):TE:=λσ H Q=>t σ H λxs H1=>xs.length<=sizeLine/\∀ p,H1 p=none->Q (.ref p) (upd H1 p (.lst xs))
theorem fX {x1}(h:PA X es t):PE X (.Tuple es x1 pos) (JW t):=by
 intro pins s σ H Q I hq
 refine wpAny_Tuple_spliced (thn (h pos pins s σ H _ I hq) λus s1 ⟨xs,H1,I1,r,z,q⟩=>⟨by rw[<-r.length];exact z,?_⟩)
 have hf:H1 s1.heap.objs.size=none:=I1.hok.fresh (au _)
 refine⟨.ref s1.heap.objs.size,upd H1 s1.heap.objs.size (.tup xs),I1.laid (t':=s1.toks) (λb u e=>aD _ e) (au _) ?_,rfl,q _ hf⟩
 exact⟨z,us,r,⟨_,aT _ rfl,rfl,_,rfl⟩⟩
theorem gM (h:PA X es t):PE X (.List es pos) (J5 t):=by
 intro pins s σ H Q I hq
 refine wpAny_List_spliced (thn (h pos pins s σ H _ I hq) λus s1 ⟨xs,H1,I1,r,z,q⟩=>⟨by rw[<-r.length];exact z,?_⟩)
 have hf:H1 s1.heap.objs.size=none:=I1.hok.fresh (au _)
 refine⟨.ref s1.heap.objs.size,upd H1 s1.heap.objs.size (.lst xs),I1.laid (t':=s1.toks) (λb u e=>aD _ e) (au _) ?_,rfl,q _ hf⟩
 exact⟨z,us,0,r,aT _ rfl⟩
end
abbrev Sp:=List V->Hp->VK->XK->Prop
abbrev CXT:=List Env->Hp->Shared->XK->Value->Shared->Prop
structure FE (P:Program)(w:World)(K:PySem.W.Frag)(mg:Str->Option Value)(base:Heap)(A:Around)(outer:List Env)(s:Shared)(H:Hp):Prop where
 frames:A.frames=some outer
 mod:Mod K mg base
 bs:∀ b o,base.get? b=some o->s.heap.get? b=some o/\H b=none
 bsz:base.objs.size<=s.heap.objs.size
 rf:s.heap.FunFrames base outer
 frf:∀ b∈frs outer,H b=none
 hok:HOk P w H s.heap
 bare:AllBare s.gens
def CE (outer:List Env)(P:Program)(w:World)(H:Hp)(s:Shared)(Q:VK)(u:Value)(s':Shared):Prop:=
 ∃ v H',s'.os=s.os/\AllBare s'.gens/\Un (frs outer) [] H H' s.heap s'.heap/\HOk P w H' s'.heap/\RelV v u/\Q v H'
def CR (CX:CXT)(outer:List Env)(P:Program)(w:World)(H:Hp)(s:Shared)(Q:VK)(E:XK)(r:Result)(s':Shared):Prop:=
 match r with
 |.ok (.ret u)=>CE outer P w H s Q u s'
 |.ok _=>False
 |.error e=>CX outer H s E e s'
structure fE (P:Program)(w:World)(K:PySem.W.Frag)(mg:Str->Option Value)(base:Heap)(CX:CXT)(k:Nat)(f:Addr)(fd:FuncData)(ps:List Str)(sp:Sp):Prop where
 len:∀ vs H Q E,sp vs H Q E->vs.length=ps.length
 run:∀ (A:Around) (outer:List Env) (s:Shared) (H:Hp) (args:Args) (us:List Value) (vs:List V) (Q:VK) (E:XK),mK k A->FE P w K mg base A outer s H->BindsTo s fd args (ps.zip us)->Vals vs us->sp vs H Q E->
  codeAny (model P w) A (.call (.ref f) args) (CR CX outer P w H s Q E) s
section
variable {X:Cx}{pins:List (Addr×Obj)}{σ:St}{H:Hp}{s s':Shared}
theorem Inv.JE (I:Inv X pins σ H s):FE X.prog X.w X.K X.mg X.base X.A X.stack s H:=
 ⟨I.ok.frames,I.ok.mod,I.bs,bE I.ok.bsz I.sz,I.stack,I.v9,I.hok,I.bare⟩
theorem Inv.after {Q:VK}(I:Inv X pins σ H s)(h:CE X.stack X.prog X.w H s Q u s'):EP X pins σ Q u s':=by
 obtain⟨v,H',os,bare,un,hok,r,q⟩:=h
 obtain⟨hh,g,d,t,os'⟩:=s'
 obtain rfl:os'=s.os:=os
 exact⟨v,H',I.call (h':=hh) (g':=g) (d':=d) (t':=t) (ch:=[]) un hok bare (λb z=>absurd z (by simp)),r,q⟩
end
def Iq (sp:Sp)(dvs:List V)(E:XK)(t:TA):TE:=λσ H Q=>t σ H λvs H1=>sp (vs++dvs) H1 Q E
def Binds (K:PySem.W.Frag)(fd:FuncData)(ps:List Str)(ds:List Value):Prop:=
 ∀ (s:Shared) (us:List Value),K.In s.heap->(us++ds).length=ps.length->BindsTo s fd ⟨us,[]⟩ (ps.zip (us++ds))
theorem Binds.all {fd:FuncData}{ps:List Str}(h:∀ us:List Value,us.length=ps.length->bindArgs fd ⟨us,[]⟩=pure (ps.zip us)):Binds K fd ps []:=λs us _ hl=>by
 rw[cY]at hl ⊢
 exact .of_eq (h us hl)
def Passes (CX:CXT)(X:Cx)(E:XK):Prop:=∀ (pins:List (Addr×Obj)) (σ:St) (H:Hp) (s:Shared) (e:Value) (s':Shared),Inv X pins σ H s->CX X.stack H s E e s'->X.xe e s'
section
variable {X:Cx}{CX:CXT}{k:Nat}{f C:Addr}{fd:FuncData}{ps:List Str}{sp:Sp}{dvs:List V}{ds:List Value}{E:XK}{x m:Str}{p pos apos:Pos}{e o:Expr}{es:List Expr}{ta:TE}{t:TA}
theorem Gu {Q:VK}{vs:List V}(F:fE X.prog X.w X.K X.mg X.base CX k f fd ps sp)(hr:mK k X.A)(hb:Binds X.K fd ps ds)(hd:Vals dvs ds)(hx:Passes CX X E)
  (I:Inv X pins σ H s) (r:Vals vs us) (h:sp (vs++dvs) H Q E):wpAny (model X.prog X.w) X.A (call (.ref f) us) (EP X pins σ Q) X.xe s:=by
 have r2:Vals (vs++dvs) (us++ds):=r.append hd
 have hl:(us++ds).length=ps.length:=by rw[<-r2.length];exact F.len _ _ _ _ h
 refine wpAny_call (codeAny_mono (F.run X.A X.stack s H ⟨us,[]⟩ (us++ds) (vs++dvs) Q E hr I.JE (hb s us I.kIn hl) r2 h) λr s' hq=>?_)
 cases r with
 |error e=>exact hx pins σ H s e s' I hq
 |ok fl=>
  cases fl with
  |ret u=>exact I.after hq
  |next=>exact False.elim hq
  |brk=>exact False.elim hq
  |cont=>exact False.elim hq
theorem fv (F:fE X.prog X.w X.K X.mg X.base CX k f fd ps sp)(hr:mK k X.A)(hg:Gl X x)(hm:X.mg x=some (.ref f))(hk:PySem.W.keepIn X.K (.ref f)=true)(hb:Binds X.K fd ps ds)(hd:Vals dvs ds)(hx:Passes CX X E)
  (ha:PA X (e::es) t) (hdb:(x==("__debug__" :Str))=false:=by decide) (he:starEach (e::es) X.env=(false,eval e X.env)::starEach es X.env:=by rfl) (hpl:(backTo pos (starEach es X.env)).any (·.1)=false:=by rfl):
  PE X (.Call (.Name x p) (e::es) [] pos) (Iq sp dvs E t):=by
 intro pins s σ H Q I h
 refine eV (pk I hg hm ?_ hdb)
 refine PySem.W.callWith_K (h₀:=X.base) I.ok.mod.kin hk (thn (ha pos pins s σ H _ I h) λus s1 ⟨vs,H1,I1,r,q⟩=>⟨I1.kIn,?_⟩) he hpl
 exact Gu F hr hb hd hx I1 r q
end
structure fK (N P:List Str)(sc:Scope):Prop where
 kind:sc.kind = .function
 co:sc.isCoroutine=false
 gen:sc.isGenerator=false
 nd:N.Nodup
 pre:N.take P.length=P
 par:∀ x∈P,sc.names.lookup x=some .local\/sc.names.lookup x=some .cell
 GW:∀ y∈sc.names,y.2≠ .free
theorem vX {kindOf:Str->Option NameKind}{x:Str} :∀ {binds:List (Str×Value)}{m:Str->Option Value},(∀ v,(x,v)∉binds)->bindL kindOf binds m x=m x
 |[],_,_=>rfl
 |(n,v)::r,m,h=>by
  unfold bindL
  rw[vX λw hw=>h w (aC _ hw)]
  split
  ·have:x≠n:=by rintro rfl;exact h v aB
   simp[this]
  ·rfl
theorem vZ {kindOf:Str->Option NameKind}{x:Str} :∀ {binds:List (Str×Value)}{m:Str->Option Value},(∀ v,(x,v)∉binds)->bindC kindOf binds m x=m x
 |[],_,_=>rfl
 |(n,v)::r,m,h=>by
  unfold bindC
  rw[vZ λw hw=>h w (aC _ hw)]
  split
  ·rfl
  ·have:x≠n:=by rintro rfl;exact h v aB
   simp[this]
theorem vY {kindOf:Str->Option NameKind}{x:Str}{v:Value} :∀ {P:List Str}{vs:List Value}{i:Nat}{m:Str->Option Value},P.Nodup->P[i]? = some x->vs[i]? = some v->kindOf x=some .local->
  bindL kindOf (P.zip vs) m x=some v
 |[],_,_,_,_,h,_,_=>by simp at h
 |_::_,[],_,_,_,_,h,_=>by simp at h
 |p::P,w::vs,0,m,nd,h1,h2,hk=>by
  simp at h1 h2;subst h1;subst h2
  show bindL kindOf ((p,w)::P.zip vs) m p=_
  unfold bindL
  rw[vX λv hv=>(bu.mp nd).1 (List.of_mem_zip hv).1,aM hk]
  simp
 |p::P,w::vs,i+1,m,nd,h1,h2,hk=>by
  show bindL kindOf ((p,w)::P.zip vs) m x=_
  unfold bindL
  exact vY (i:=i) (bu.mp nd).2 (by simpa using h1) (by simpa using h2) hk
theorem v3 {kindOf:Str->Option NameKind}{x:Str}{v:Value} :∀ {P:List Str}{vs:List Value}{i:Nat}{m:Str->Option Value},P.Nodup->P[i]? = some x->vs[i]? = some v->kindOf x≠some .local->
  bindC kindOf (P.zip vs) m x=some v
 |[],_,_,_,_,h,_,_=>by simp at h
 |_::_,[],_,_,_,_,h,_=>by simp at h
 |p::P,w::vs,0,m,nd,h1,h2,hk=>by
  simp at h1 h2;subst h1;subst h2
  show bindC kindOf ((p,w)::P.zip vs) m p=_
  unfold bindC
  rw[vZ λv hv=>(bu.mp nd).1 (List.of_mem_zip hv).1,aH hk]
  simp
 |p::P,w::vs,i+1,m,nd,h1,h2,hk=>by
  show bindC kindOf ((p,w)::P.zip vs) m x=_
  unfold bindC
  exact v3 (i:=i) (bu.mp nd).2 (by simpa using h1) (by simpa using h2) hk
def start (N:List Str)(vs:List V):St:=vs.map some++List.replicate (N.length-vs.length) none
def xl (CX:CXT)(P:Program)(w:World)(K:PySem.W.Frag)(mg:Str->Option Value)(base:Heap)(N:List Str)(qual:Str)(scope:Scope)(f:Addr)(cd:Value)(A:Around)(outer:List Env)(s:Shared)(H:Hp)(E:XK):Cx where
 prog:=P
 w:=w
 K:=K
 mg:=mg
 base:=base
 A:=A.deeper (envOfC qual scope s.heap.objs.size f cd)
 N:=N
 s₀:=s
 H₀:=H
 env:=envOfC qual scope s.heap.objs.size f cd
 outer:=outer
 stack:=envOfC qual scope s.heap.objs.size f cd::outer
 ex:=[]
 calm:=true
 fn:=λ_=>true
 pn:=[]
 xe:=λe s'=>wpAny (model P w) (A.deeper (envOfC qual scope s.heap.objs.size f cd)) (leaving (envOfC qual scope s.heap.objs.size f cd) e) (λ_ s''=>CX outer H s E e s'') (λe' s''=>CX outer H s E e' s'') s'
theorem yU {sc:Scope}{n:Nat}(h:sc.names.lookup x=some .cell):∃ c,(cellsFrom n sc.names []).lookup x=some c:=by
 have q:=PySem.W.cellsFrom_some sc.names n [] (.inl h)
 exact cK.mp q
theorem BJ {CX:CXT}{mg:Str->Option Value}{base:Heap}{N ps:List Str}{qual:Str}{scope:Scope}{f:Addr}{cd:Value}{outer:List Env}{s1:Shared}{E:XK}{vs:List V}
  (S:fK N ps scope) (hd:A.handled=none) (e0:FE P w K mg base A outer s H) (hl:vs.length=ps.length) (r:Vals vs us)
  (x:InCallC s s.heap.objs.size (bindL (envOfC qual scope s.heap.objs.size f cd).kindOf (ps.zip us) λ_=>none) (cellsFrom (s.heap.objs.size+1) scope.names []) (bindC (envOfC qual scope s.heap.objs.size f cd).kindOf (ps.zip us) λ_=>none) s1):
  Inv (xl CX P w K mg base N qual scope f cd A outer s H E) [] (start N vs) H s1:=by
 have hpl:ps.length<=N.length:=by have:=bQ List.length S.pre;rw[bg]at this;omega
 obtain⟨h1,tk,rfl,hk⟩:=x.done
 have noA:∀ b:Addr,b∉(xl CX P w K mg base N qual scope f cd A outer s H E).ex:=λb z=>absurd (show b∈([]:List Addr) from z) (by simp)
 refine⟨⟨e0.mod,S.kind,rfl,rfl,au _,λy z c h1 h2=>?_,λy hy=>?_,λy c _ h=>?_,λ_=>hd,Around.frames_deeper e0.frames,.inr ⟨rfl,rfl⟩,λb z=>absurd z (noA b),e0.bs,e0.bsz,λb _ _=>noA b,λb z=>absurd z (noA b),e0.rf,e0.frf⟩,
  rfl,e0.bare,Un.kept hk,⟨_,x.toInCall.ns,λi y v h1 h2 h3=>?_⟩,λy c h=>⟨_,x.cell y c h⟩,e0.hok.fresh (au _),λy c h=>?_,λp hp=>absurd (show p∈([]:List (Addr×Obj)) from hp) (by simp),e0.hok.kept hk,?_⟩
 ·exact name_of_addr x.apart (cy h1) (cy h2)
 ·have hy:scope.names.lookup y=some .cell\/scope.names.lookup y=some .free:=hy
  rcases hy with hy |hy
  ·exact yU hy
  ·exact absurd rfl (S.GW _ (cy hy))
 ·exact bO (x.above y c (cy h))
 ·have hi:i<vs.length:=by
   unfold start at h2
   by_cases hi:i<vs.length
   ·exact hi
   ·rw[av (by simpa using hi)]at h2
    rw[List.getElem?_replicate]at h2
    split at h2<;>cases h2
  have ha:vs[i]? = some v:=by
   unfold start at h2
   rw[ak (by simpa using hi),ao]at h2
   cases e:vs[i]? with
   |none=>rw[e]at h2;cases h2
   |some a=>rw[e]at h2;cases h2;rfl
  obtain⟨u,hu,rv⟩:=r.get ha
  have hp:ps[i]? = some y:=by
   rw[<-S.pre,eT (by omega)];exact h1
  have ndP:ps.Nodup:=by rw[<-S.pre];exact S.nd.sublist (List.take_sublist _ _)
  refine⟨u,rv,?_⟩
  rcases S.par y (ax hp)with k |k
  ·exact .inl ⟨k,vY ndP hp hu k⟩
  ·obtain⟨c,e⟩:=yU (n:=s.heap.objs.size+1) k
   refine .inr ⟨.inl k,c,e,?_⟩
   have q:=x.cell y c e
   rw[v3 ndP hp hu (by show scope.names.lookup y≠_;rw[k];decide)]at q
   exact q
 ·exact e0.hok.fresh (bO (x.above y c (cy h)))
 ·unfold start
  show _=N.length
  rw[ah,aa,List.length_replicate]
  omega
theorem FZ {CX:CXT}{mg:Str->Option Value}{base:Heap}{k:Nat}{f:Addr}{name qual:Str}{params:Arguments}{body:List Stmt}{scope:Scope}{dV kV doc pm cdv ct oc:Value}{an od:Option Addr}
  {osl:Array (Option Value)}{N ps:List Str}{sp:Sp} (lk:K.lookup f=some ⟨oc,od,.func (PySem.W.fnOf name qual params body scope dV kV doc pm an cdv ct),osl⟩) (hcd:PySem.W.codeIn K cdv qual=true) (S:fK N ps scope)
  (len:∀ vs H Q E,sp vs H Q E->vs.length=ps.length)
  (yA:∀ (A:Around) (outer:List Env) (s:Shared) (H:Hp) (vs:List V) (Q:VK) (E:XK),mK k (A.deeper (envOfC qual scope s.heap.objs.size f cdv))->sp vs H Q E->
   ∃ t,PSs (xl CX P w K mg base N qual scope f cdv A outer s H E) body t/\t {nx:=λ_ H'=>Q .non H',rt:=Q} (start N vs) H):
  fE P w K mg base CX (k+1) f (PySem.W.fnOf name qual params body scope dV kV doc pm an cdv ct) ps sp:=by
 refine⟨len,λA outer s H args us vs Q E hr e0 hb r hsp=>?_⟩
 have hl:=len _ _ _ _ hsp
 have KX:K.In s.heap:=e0.mod.kin.keeps λb o e=>(e0.bs b o e).1
 have lim:s.heap.NoLimit:=e0.mod.nolimit.keeps λb o e=>(e0.bs b o e).1
 have Jn:∀ y∈ps.zip us,scope.names.lookup y.1=some .local\/(scope.names.lookup y.1=some .cell/\((cellsFrom (s.heap.objs.size+1) scope.names []).lookup y.1).isSome=true):=λ⟨n,v⟩ hy=>by
  rcases S.par n (List.of_mem_zip hy).1 with q |q
  ·exact .inl q
  ·exact .inr ⟨q,PySem.W.cellsFrom_some _ _ _ (.inl q)⟩
 refine codeAny_call_function hr.depth (KX _ _ lk) rfl S.co S.gen rfl (PySem.W.codeRec_of KX hcd) (hb _ _ _ _ ?_)
 refine wpAny_newFunctionEnv_cells S.kind Jn λenv he s1 x=>?_
 subst he
 refine⟨lim.keeps x.toInCall.keep,codeAny_func ?_⟩
 obtain⟨t,ht,hq⟩:=yA A outer s H vs Q E (hr.deeper _) hsp
 have I:Inv (xl CX P w K mg base N qual scope f cdv A outer s H E) [] (start N vs) H s1:=BJ S hr.hd e0 hl r x
 refine bq (ht [] s1 (start N vs) H _ I hq) (λfl s' hs=>?_) λe s' hs=>hs
 have fin:∀ {σ':St}{H':Hp}{v:V}{u:Value},Inv (xl CX P w K mg base N qual scope f cdv A outer s H E) [] σ' H' s'->RelV v u->Q v H'->CE outer P w H s Q u s':=
  λ{σ' H' v u} J rv q=>⟨v,H',J.os,J.bare,J.base,J.hok,rv,q⟩
 cases fl with
 |ret u=>
  obtain⟨v,σ',H',J,rv,q⟩:=hs
  exact fin J rv q
 |next=>
  obtain⟨σ',H',J,q⟩:=hs
  exact fin (v:=V.non) (u:=Value.none) J rfl q
 |brk=>
  obtain⟨_,_,_,q⟩:=hs
  exact False.elim q
 |cont=>
  obtain⟨_,_,_,q⟩:=hs
  exact False.elim q
section
variable {X:Cx}{x:Str}{p pos:Pos}{e:Expr}{es:List Expr}{t:TA}{id T:String}{r:List V->Hp->VK->Prop}
def tCB (r:List V->Hp->VK->Prop)(t:TA):TE:=λσ H Q=>t σ H λvs H1=>r vs H1 Q
theorem fN (hc:mF X (.builtin id) r)(hg:Gl X x)(hm:X.mg x=none)(hv:bootBuiltins x=some (.builtin id))(ha:PA X (e::es) t)(hn:x≠ "__name__" :=by decide)(hdb:(x==("__debug__" :Str))=false:=by decide)
  (he:starEach (e::es) X.env=(false,eval e X.env)::starEach es X.env:=by rfl) (hpl:(backTo pos (starEach es X.env)).any (·.1)=false:=by rfl):PE X (.Call (.Name x p) (e::es) [] pos) (tCB r t):=by
 intro pins s σ H Q I h
 refine eV (oz I hg hm hv ?_ hn hdb)
 exact PyProof.Rows.callWith_builtin1 (thn (ha pos pins s σ H _ I h) λus s1 ⟨vs,H1,I1,r1,q1⟩=>hc pins s1 σ H1 vs us Q I1 r1 q1) he hpl
theorem gC (hc:mF X (.type T) r)(hg:Gl X x)(hm:X.mg x=none)(hv:bootBuiltins x=some (.type T))(ha:PA X (e::es) t)(hn:x≠ "__name__" :=by decide)(hdb:(x==("__debug__" :Str))=false:=by decide)
  (he:starEach (e::es) X.env=(false,eval e X.env)::starEach es X.env:=by rfl) (hpl:(backTo pos (starEach es X.env)).any (·.1)=false:=by rfl):PE X (.Call (.Name x p) (e::es) [] pos) (tCB r t):=by
 intro pins s σ H Q I h
 refine eV (oz I hg hm hv ?_ hn hdb)
 exact bT (thn (ha pos pins s σ H _ I h) λus s1 ⟨vs,H1,I1,r1,q1⟩=>hc pins s1 σ H1 vs us Q I1 r1 q1) he hpl
end
end L2
namespace HT
open PySem PyProof.Rows
section
variable {prog:Program}{w:World}{A:Around}{E:Value->Shared->Prop}{s:Shared}
def sIx (n d:Nat):Option Int->Nat
 |none=>d
 |some v=>if v<0 then(v+(n:Int)).toNat else min v.toNat n
theorem tj (n d:Nat):sIx n d none=d:=rfl
theorem Au (n d k:Nat):sIx n d (some (k:Int))=min k n:=by
 show(if(k:Int)<0 then((k:Int)+(n:Int)).toNat else min (k:Int).toNat n)=min k n
 rw[aH (by omega),dS]
theorem Fw (v:Int)(n d:Nat):(if v<0 then max (v+(n:Int)) 0 else min v (n:Int))=((sIx n d (some v):Nat):Int):=by
 show(if v<0 then max (v+(n:Int)) 0 else min v (n:Int))=(((if v<0 then(v+(n:Int)).toNat else min v.toNat n):Nat):Int)
 by_cases hv:v<0
 ·simp only[aM hv];omega
 ·simp only[aH hv];omega
end
end HT
namespace L2
open PySem PySem.Spec PyProof.Rows
abbrev TO:=St->Hp->(Option Int->Hp->Prop)->Prop
def PO (X:Cx)(e:Option Expr)(t:TO):Prop:=
 ∀ (pins:List (Addr×Obj)) (s:Shared) (σ:St) (H:Hp) (Q:Option Int->Hp->Prop),Inv X pins σ H s->t σ H Q->
  wpAny (model X.prog X.w) X.A (evalPart e X.env) (λu s'=>∃ o H',Inv X pins σ H' s'/\IsPart u o/\Q o H') X.xe s
def Er:TO:=λ_ H Q=>Q none H
def Ii (t:TE):TO:=λσ H Q=>t σ H λx H1=>∃ i,x = .int i/\Q (some i) H1
theorem intsAre_of {ns:List Int} :∀ {us:List Value},Vals (ns.map V.int) us->IntsAre us ns:=by
 induction ns with
 |nil=>intro us r;rw[List.map_nil]at r;cases r;exact .nil
 |cons n ns ih=>
  intro us r
  rw[aN]at r
  cases r with
  |cons r1 r2=>
   obtain⟨t,e⟩:=r1
   subst e
   exact .cons n t (ih r2)
section
variable {X:Cx}{e:Expr}{te:TE}{lo hi:Option Expr}{tl th:TO}{pos p2:Pos}
theorem pe:PO X none Er:=by
 intro pins s σ H Q I h
 rw[evalPart_none]
 exact aq ⟨none,H,I,.none,h⟩
theorem o9 (h:PE X e te):PO X (some e) (Ii te):=by
 intro pins s σ H Q I hw
 rw[evalPart_some]
 refine thn (h pins s σ H _ I hw) λu s1 ⟨x,H1,I1,r1,q1⟩=>?_
 obtain⟨i,rfl,q⟩:=q1
 obtain⟨t,rfl⟩:=r1
 exact⟨some i,H1,I1,.int i t,q⟩
def SlR (X:Cx)(r:V->Option Int->Option Int->Hp->VK->Prop):Prop:=
 ∀ (pins:List (Addr×Obj)) (s:Shared) (σ:St) (H:Hp) (x:V) (v vl vu:Value) (lo hi:Option Int) (sl:Addr) (Q:VK),Inv X pins σ H s->RelV x v->s.heap.IsSliceOf sl vl vu .none->IsPart vl lo->IsPart vu hi->r x lo hi H Q->
  ∃ T id,typeLookup (.type T) "__getitem__" = pure (some (.builtin id))/\s.TypeIs v T/\wpAny (model X.prog X.w) X.A (getItem v (.ref sl)) (EP X pins σ Q) X.xe s
def tSl (r:V->Option Int->Option Int->Hp->VK->Prop)(te:TE)(tl th:TO):TE:=λσ H Q=>te σ H λx H1=>tl σ H1 λl H2=>th σ H2 λu H3=>r x l u H3 Q
theorem m6 {r:V->Option Int->Option Int->Hp->VK->Prop}(hr:SlR X r)(he:PE X e te)(hl:PO X lo tl)(hu:PO X hi th):PE X (.Subscript e (.Slice lo hi none p2) pos) (tSl r te tl th):=by
 intro pins s σ H Q I h
 refine Subscript_ (thn (he pins s σ H _ I h) λv s1 ⟨x,H1,I1,r1,q1⟩=>?_)
 refine wpAny_Slice (thn (hl pins s1 σ H1 _ I1 q1) λvl s2 ⟨l,H2,I2,pl,q2⟩=>thn (hu pins s2 σ H2 _ I2 q2) λvu s3 ⟨u,H3,I3,pu,q3⟩=>?_)
 rw[evalPart_none]
 refine aq ?_
 have I4:Inv X pins σ H3 {s3 with heap:=s3.heap.push {cls:=.type "slice",data:=.fields #[vl,vu,.none]}} :=I3.kept (t':=s3.toks) λb ob q=>aD _ q
 obtain⟨T,id,hT,ht,hg⟩:=hr pins {s3 with heap:=s3.heap.push {cls:=.type "slice",data:=.fields #[vl,vu,.none]}} σ H3 x v vl vu l u s3.heap.objs.size Q I4 r1 (Heap.IsSliceOf.new ..) pl pu q3
 show wpAny (model X.prog X.w) X.A (subscriptTail e (.Slice lo hi none p2) v (.ref s3.heap.objs.size)) (EP X pins σ Q) X.xe {s3 with heap:=s3.heap.push {cls:=.type "slice",data:=.fields #[vl,vu,.none]}}
 exact tail_any (ops:=[.ref s3.heap.objs.size,v]) ht hT hg (by with_unfolding_all rfl)
def pL (xs:List V)(lo hi:Option Int):List V:=(xs.drop (HT.sIx xs.length 0 lo)).take (HT.sIx xs.length xs.length hi-HT.sIx xs.length 0 lo)
theorem yN (xs:List V)(lo hi:Option Int):(pL xs lo hi).length<=xs.length:=by
 unfold pL
 rw[bg,bS]
 omega
end
def ixN (n:Nat)(i:Int):Option Nat:=if 0<=i then(if i<n then some i.toNat else none)else if -(n:Int)<=i then some (i+n).toNat else none
def atI {α:Type}(xs:List α)(i:Int):Option α:=(ixN xs.length i).bind λj=>xs[j]?
theorem AO {n:Nat}{i:Int}{j:Nat}(h:ixN n i=some j):seqIndex? i n=some j/\j<n/\ -(n:Int)<=i/\i<n:=by
 unfold ixN at h
 by_cases h0:0<=i
 ·rw[aM h0]at h
  by_cases h1:i<n
  ·rw[aM h1]at h
   have e:i.toNat=j:=aU h
   exact⟨by rw[seqIndex_of h0 h1,e],by omega,by omega,h1⟩
  ·rw[aH h1]at h;cases h
 ·rw[aH h0]at h
  by_cases h1: -(n:Int)<=i
  ·rw[aM h1]at h
   have e:(i+n).toNat=j:=aU h
   exact⟨by rw[seqIndex_neg (by omega) h1,e],by omega,h1,by omega⟩
  ·rw[aH h1]at h;cases h
theorem A7 {α:Type}{xs:List α}{i:Int}{v:α}(h:atI xs i=some v):∃ j,seqIndex? i xs.length=some j/\xs[j]? = some v/\j<xs.length/\ -(xs.length:Int)<=i/\i<xs.length:=by
 unfold atI at h
 cases e:ixN xs.length i with
 |none=>rw[e]at h;cases h
 |some j=>
  rw[e]at h
  obtain⟨h1,h2,h3,h4⟩:=AO e
  exact⟨j,h1,h,h2,h3,h4⟩
theorem ko {α:Type}{xs:List α}{j:Nat}{v:α}(h:xs[j]? = some v):atI xs (j:Int)=some v:=by
 have hj:j<xs.length:=(af.mp h).1
 have e:ixN xs.length (j:Int)=some j:=by
  unfold ixN
  rw[aM (by omega),aM (by omega)];simp
 unfold atI;rw[e];exact h
theorem y4 {α:Type}(xs:List α)(v:α):atI (xs ++ [v]) (-1)=some v:=by
 have hl:(xs ++ [v]).length=xs.length+1:=by simp
 have e:ixN (xs ++ [v]).length (-1)=some xs.length:=by
  unfold ixN
  rw[hl,aH (by decide),aM (by omega)]
  congr 1
  omega
 unfold atI
 rw[e]
 show(xs ++ [v])[xs.length]? = some v
 simp
def FC (b:Expr):Prop:=∀ o i,subscripted b false o i=operate [o,i] (getItem o i)
def IxR (X:Cx)(r:R2):Prop:=
 ∀ (value slice:Expr) (pins:List (Addr×Obj)) (s:Shared) (σ:St) (H:Hp) (x y:V) (v u:Value) (Q:VK),Inv X pins σ H s->RelV x v->RelV y u->r x y H Q->
  subscripted slice false v u=operate [v,u] (getItem v u)->wpAny (model X.prog X.w) X.A (subscriptTail value slice v u) (EP X pins σ Q) X.xe s
def MtR (X:Cx)(id:String)(r:V->List V->Hp->VK->Prop):Prop:=
 ∀ (pins:List (Addr×Obj)) (s:Shared) (σ:St) (H:Hp) (x:V) (xs:List V) (v:Value) (us:List Value) (Q:VK),Inv X pins σ H s->RelV x v->Vals xs us->r x xs H Q->
  wpAny (model X.prog X.w) X.A (call (.builtin id) (v::us)) (EP X pins σ Q) X.xe s
variable {pins:List (Addr×Obj)}
section
variable {X:Cx}{a b:Expr}{ta tb:TE}{pos:Pos}
theorem gv {r:R2}(hr:IxR X r)(ha:PE X a ta)(hb:PE X b tb)(hs:FC b):PE X (.Subscript a b pos) (tOp r ta tb):=by
 intro pins s σ H Q I h
 exact Subscript_ (HL ha hb I h λv u s2 x y H2 I2 rx ry q=>hr a b pins s2 σ H2 x y v u Q I2 rx ry q (hs _ _))
def K1 (K:PySem.W.Frag):R2:=λx y H Q=>∃ p xs i v,x = .ref p/\y = .int i/\SqL K H p xs/\atI xs i=some v/\Q v H
def K0 (K:PySem.W.Frag):R2:=λx y H Q=>∃ p xs i v,x = .ref p/\y = .int i/\SqT K H p xs/\atI xs i=some v/\Q v H
theorem gJ:IxR X (K1 X.K):=by
 intro value slice pins s σ H x y v u Q I rx ry h hs
 obtain⟨p,xs,i,z,rfl,rfl,hq,he,q⟩:=h
 cases rx
 obtain⟨t,rfl⟩:=ry
 obtain⟨its,r,pl,hz⟩:=I.list hq
 obtain⟨j,h1,h2,h3,h4,h5⟩:=A7 he
 obtain⟨w,ew,rw'⟩:=r.get h2
 have hl:=r.length
 have hn:=tY
 have fin:EP X pins σ Q w s:=⟨z,H,I,rw',q⟩
 by_cases h0:0<=i
 ·have hj:i.toNat=j:=by
   rw[seqIndex_of h0 h5]at h1
   exact aU h1
  exact item_listR pl.isList h0 (by omega) (by rw[hj];simpa using ew) fin hs
 ·have hj:(i+(its.toArray.size:Int)).toNat=j:=by
   rw[seqIndex_neg (by omega) h4]at h1
   rw[aI,<-hl]
   exact aU h1
  exact subscriptTail_builtinR (x:=w) pl.isList.typeIs slot_list_getitem.lookup
   (wpAny_getItem_list_neg (Q:=λr s'=>r=w/\EP X pins σ Q r s') pl.isList (by omega) (by rw[aI]<;>omega) (by omega) (by rw[hj];simpa using ew) ⟨rfl,fin⟩) hs
theorem iq:IxR X (K0 X.K):=by
 intro value slice pins s σ H x y v u Q I rx ry h hs
 obtain⟨p,xs,i,z,rfl,rfl,hq,he,q⟩:=h
 cases rx
 obtain⟨t,rfl⟩:=ry
 obtain⟨its,r,pl,hz⟩:=I.tuple hq
 obtain⟨j,h1,h2,h3,h4,h5⟩:=A7 he
 obtain⟨w,ew,rw'⟩:=r.get h2
 have hl:=r.length
 have hn:=tY
 have fin:EP X pins σ Q w s:=⟨z,H,I,rw',q⟩
 exact subscriptTail_builtinR (x:=w) pl.typeIs slot_tuple_getitem.lookup
  (getItem_tuple (j:=j) (Q:=λr s'=>r=w/\EP X pins σ Q r s') pl (by omega) (by omega) (by rw[aI,<-hl];exact h1) (by simpa using ew) ⟨rfl,fin⟩) hs
theorem zK (its:List Value)(n j:Nat)(u:Value):Obj.mapSeq (·.setIfInBounds j u) {cls:=.type "list",data:=.seq its.toArray n} = {cls:=.type "list",data:=.seq (its.set j u).toArray n} :=by
 simp[Obj.mapSeq]
theorem Inv.lst {σ:St}{H:Hp}{s:Shared}{p:Addr}{xs:List V}(I:Inv X pins σ H s)(h:H p=some (.lst xs)):
  ∃ (its:List Value) (n:Nat),Vals xs its/\s.heap.get? p=some {cls:=.type "list",data:=.seq its.toArray n} /\xs.length<=sizeLine:=by
 obtain⟨z,its,n,r,e⟩:=I.hok p _ h
 exact⟨its,n,r,e,z⟩
theorem Inv.G5 {σ:St}{H:Hp}{s:Shared}{p:Addr}{xs ys:List V}{its its':List Value}{n n':Nat}{f:Obj->Obj}(I:Inv X pins σ H s)(h:H p=some (.lst xs))
  (ho:s.heap.get? p=some {cls:=.type "list",data:=.seq its.toArray n}) (hf:f {cls:=.type "list",data:=.seq its.toArray n} = {cls:=.type "list",data:=.seq its'.toArray n'}) (r:Vals ys its') (hz:ys.length<=sizeLine) (t:Nat):
  Inv X pins σ (upd H p (.lst ys)) {s with heap:=s.heap.update p f,toks:=t} :=by
 have e:(s.heap.update p f).get? p=some {cls:=.type "list",data:=.seq its'.toArray n'} :=by
  rw[Heap.get?_update_self f ho (by rw[hf]<;>rfl),hf]
 refine I.write (x:=p) (e:=p) (by rw[h];trivial) (.inl rfl) (λb u hb q=>(Heap.get?_update_other _ _ (bF hb)).trans q) ⟨_,e⟩ ?_
 exact⟨hz,its',n',r,e⟩
def IB:V->V->V->Hp->(Hp->Prop)->Prop:=λo i v H Q=>∃ p xs k j,o = .ref p/\i = .int k/\H p=some (.lst xs)/\ixN xs.length k=some j/\Q (upd H p (.lst (xs.set j v)))
theorem set_list:JP X IB:=by
 intro pins s σ H o i v ov iv u Q I ro ri rv h
 obtain⟨p,xs,k,j,rfl,rfl,hp,hj,q⟩:=h
 cases ro
 obtain⟨t,rfl⟩:=ri
 obtain⟨its,n,r,ho,hz⟩:=I.lst hp
 obtain⟨h1,h2,h3,h4⟩:=AO hj
 have hl:=r.length
 have hn:=tY
 have I':Inv X pins σ (upd H p (.lst (xs.set j v))) {s with heap:=s.heap.update p (Obj.mapSeq (·.setIfInBounds j u))} :=
  I.G5 hp ho (zK its n j u) (r.set rv j) (by rw[ez];exact hz) s.toks
 by_cases h0:0<=k
 ·have hk:k.toNat=j:=by
   rw[seqIndex_of h0 h4]at h1
   exact aU h1
  exact PySem.W.ki_setAt ho h0 (by omega) (by rw[aI,<-hl];exact h4) (by rw[hk];exact⟨_,I',q⟩)
 ·have hk:(k+(its.toArray.size:Int)).toNat=j:=by
   rw[seqIndex_neg (by omega) h3]at h1
   rw[aI,<-hl]
   exact aU h1
  exact PySem.W.ki_setBack ho (by omega) (by rw[aI,<-hl];exact h3) (by omega) (by rw[hk];exact⟨_,I',q⟩)
theorem wm (lo hi:Option Int)(n:Nat):(sliceBounds lo hi none n).1=((HT.sIx n 0 lo:Nat):Int)/\(sliceBounds lo hi none n).2.1=((HT.sIx n n hi:Nat):Int)/\(sliceBounds lo hi none n).2.2=1:=by
 refine⟨?_,?_,rfl⟩
 ·cases lo with
  |none=>simp[sliceBounds,HT.sIx]
  |some i=>
   simp only[sliceBounds,HT.sIx,Option.getD_none,show(1:Int)>0 by decide,eG]
   by_cases h:i<0
   ·simp only[h,eG]<;>omega
   ·simp only[h,cD]<;>omega
 ·cases hi with
  |none=>simp[sliceBounds,HT.sIx]
  |some i=>
   simp only[sliceBounds,HT.sIx,Option.getD_none,show(1:Int)>0 by decide,eG]
   by_cases h:i<0
   ·simp only[h,eG]<;>omega
   ·simp only[h,cD]<;>omega
theorem uL (its:List Value)(lo hi:Option Int):slicePick its.toArray lo hi none=((its.drop (HT.sIx its.length 0 lo)).take (HT.sIx its.length its.length hi-HT.sIx its.length 0 lo)).toArray:=by
 obtain⟨h1,h2,h3⟩:=wm lo hi its.toArray.size
 unfold slicePick
 rw[h1,h2,h3]
 simp only[sliceRange_one,pick_run,aI]<;>rfl
def KW (K:PySem.W.Frag):V->Option Int->Option Int->Hp->VK->Prop:=λx lo hi H Q=>∃ a xs,x = .ref a/\SqL K H a xs/\∀ p,H p=none->Q (.ref p) (upd H p (.lst (pL xs lo hi)))
theorem oX:SlR X (KW X.K):=by
 intro pins s σ H x v vl vu lo hi sl Q I rx hs pl pu h
 obtain⟨a,xs,rfl,hx,q⟩:=h
 cases rx
 obtain⟨its,r,ht,hz⟩:=I.list hx
 have hlen:=r.length
 refine⟨"list",_,slot_list_getitem.lookup,ht.isList.typeIs,?_⟩
 refine wpAny_getItem_list_slice ht.isList hs pl pu .none (by simp) ?_ (by rw[aI]<;>omega)
 rw[uL,<-hlen]
 refine⟨.ref s.heap.objs.size,_,I.laid (t':=s.toks) (o:=.lst (pL xs lo hi)) (λb ob q=>aD _ q) (au _) ?_,rfl,q _ (I.hok.fresh (au _))⟩
 exact⟨bE (yN xs lo hi) hz,_,0,(r.drop (HT.sIx xs.length 0 lo)).take (HT.sIx xs.length xs.length hi-HT.sIx xs.length 0 lo),aT _ rfl⟩
theorem gq:mF X (.builtin "len") (λxs H Q=>∃ p ys,xs = [.ref p]/\(SqL X.K H p ys\/SqT X.K H p ys)/\Q (.int ys.length) H):=by
 intro pins s σ H xs us Q I r h
 obtain⟨p,ys,rfl,hq,q⟩:=h
 obtain⟨u,rfl,rx⟩:=vals1 r
 cases rx
 have hn:=tY
 rcases hq with hq |hq
 ·obtain⟨its,r',pl,hz⟩:=I.list hq
  have hlen:=r'.length
  exact Calls.call_len_list pl.isList (by simp only[aI]<;>omega) ⟨.int ys.length,H,I.tok _,⟨s.toks+1,by rw[aI,hlen]⟩,q⟩
 ·obtain⟨its,r',pl,hz⟩:=I.tuple hq
  have hlen:=r'.length
  exact len_tuple pl (by simp only[aI]<;>omega) ⟨.int ys.length,H,I.tok _,⟨s.toks+1,by rw[aI,hlen]⟩,q⟩
theorem kn:mF X (.type "list") (λxs H Q=>∃ p ys,xs = [.ref p]/\(SqL X.K H p ys\/SqT X.K H p ys)/\∀ l,H l=none->Q (.ref l) (upd H l (.lst ys))):=by
 intro pins s σ H xs us Q I r h
 obtain⟨p,ys,rfl,hq,q⟩:=h
 obtain⟨u,rfl,rx⟩:=vals1 r
 cases rx
 have fin:∀ (its:List Value),Vals ys its->ys.length<=sizeLine->∀ (h':Heap) (c':Nat),(∀ b o',s.heap.get? b=some o'->h'.get? b=some o')->
   h'.get? s.heap.objs.size=some {cls:=.type "list",dict:=none,data:=.seq its.toArray c',slots:= #[]} ->EP X pins σ Q (.ref s.heap.objs.size) {s with heap:=h'} :=λits r' hz h' c' kp e=>
  ⟨.ref s.heap.objs.size,_,I.laid (t':=s.toks) kp (au _) (show iQ X.prog X.w _ h' _ (.lst ys) from⟨hz,its,c',r',e⟩),rfl,q _ (I.hok.fresh (au _))⟩
 rcases hq with hq |hq
 ·obtain⟨its,r',pl,hz⟩:=I.list hq
  have hlen:=r'.length
  obtain⟨o,ho,hc,n,hd⟩:=pl.isList
  exact call_list_seq p (.inl rfl) ho hc hd (λh' c' kp e=>fin its r' hz h' c' kp e) (by simp only[aI]<;>omega)
 ·obtain⟨its,r',pl,hz⟩:=I.tuple hq
  have hlen:=r'.length
  obtain⟨o,ho,hc,n,hd⟩:=pl
  exact call_list_seq p (.inr rfl) ho hc hd (λh' c' kp e=>fin its r' hz h' c' kp e) (by simp only[aI]<;>omega)
theorem g6:mF X (.type "tuple") (λxs H Q=>∃ p ys,xs = [.ref p]/\((SqL X.K H p ys/\∀ l,H l=none->Q (.ref l) (upd H l (.tup ys)))\/(SqT X.K H p ys/\Q (.ref p) H))):=by
 intro pins s σ H xs us Q I r h
 obtain⟨p,ys,rfl,h⟩:=h
 obtain⟨u,rfl,rx⟩:=vals1 r
 cases rx
 rcases h with⟨hq,q⟩|⟨hq,q⟩
 ·obtain⟨its,r',pl,hz⟩:=I.list hq
  have hlen:=r'.length
  refine call_tuple_list pl.isList (λh' kp=>?_) (by simp only[aI]<;>omega)
  have I1:Inv X pins σ H {s with heap:=h'} :=I.kept (t':=s.toks) kp
  have I2:Inv X pins σ (upd H h'.objs.size (.tup ys)) {s with heap:=h'.push {cls:=.type "tuple",data:=.seq its.toArray}} :=
   I1.laid (t':=s.toks) (λb o e=>aD _ e) (au _) (show iQ X.prog X.w _ _ _ (.tup ys) from⟨hz,its,r',IsTup.new _ _⟩)
  exact⟨.ref h'.objs.size,_,I2,rfl,q _ (I1.hok.fresh (au _))⟩
 ·obtain⟨its,r',pl,hz⟩:=I.tuple hq
  exact call_tuple_same pl ⟨.ref p,H,I,rfl,q⟩
def tyV (K:PySem.W.Frag)(T:String)(x:V)(H:Hp):Prop:=match x with
 |.str _=>T = "str"
 |.int _=>T = "int"
 |.ref p=>(T = "list" /\∃ xs,SqL K H p xs)\/(T = "tuple" /\∃ o,K.lookup p=some o/\o.cls = .type "tuple" /\o.dict=none)\/
   (T = "dict" /\((∃ kvs,H p=some (.dK kvs))\/∃ kvs,H p=some (.dT kvs)))\/(T = "set" /\∃ S n,H p=some (.set S n))
 |_=>False
theorem Ce {σ:St}{H:Hp}{s:Shared}{T:String}{x:V}{v:Value}(I:Inv X pins σ H s)(r:RelV x v)(ty:tyV X.K T x H):
  s.TypeIs v T/\∀ a,v = .ref a->∃ ob,s.heap.get? a=some ob/\ob.dict=none:=by
 cases x with
 |str z=>
  obtain⟨t,rfl⟩:=r
  cases(show T = "str" from ty)
  exact⟨typeIs_str s z t,λ_ e=>nomatch e⟩
 |int i=>
  obtain⟨t,rfl⟩:=r
  cases(show T = "int" from ty)
  exact⟨typeIs_int s i t,λ_ e=>nomatch e⟩
 |ref p=>
  cases r
  rcases ty with⟨rfl,xs,hq⟩|⟨rfl,o,hk,hc,hd⟩|⟨rfl,hk⟩|⟨rfl,S,n,hk⟩
  ·obtain⟨its,_,pl,_⟩:=I.list hq
   refine⟨pl.isList.typeIs,λa e=>?_⟩
   cases e
   obtain⟨o,n,e,c,hd,_⟩:=pl
   exact⟨o,e,hd⟩
  ·refine⟨⟨o,I.kIn p o hk,hc⟩,λa e=>?_⟩
   cases e
   exact⟨o,I.kIn _ o hk,hd⟩
  ·have z:∃ o,s.heap.get? p=some o/\o.ExactDict:=by
    rcases hk with⟨kvs,hk⟩|⟨kvs,hk⟩
    ·obtain⟨_,_,_,_,o,_,_,e,ex,_⟩:=I.hok p _ hk
     exact⟨o,e,ex⟩
    ·obtain⟨_,_,_,_,o,_,_,e,ex,_⟩:=I.hok p _ hk
     exact⟨o,e,ex⟩
   obtain⟨o,e,ex⟩:=z
   refine⟨⟨o,e,ex.1⟩,λa e2=>?_⟩
   cases e2
   exact⟨o,e,ex.2.1⟩
  ·obtain⟨o,_,_,_,e,ex,_⟩:=I.hok p _ hk
   refine⟨⟨o,e,ex.1⟩,λa e2=>?_⟩
   cases e2
   exact⟨o,e,ex.2.1⟩
 |_=>exact False.elim ty
def Kc (K:PySem.W.Frag)(T:String)(r:V->List V->Hp->VK->Prop)(to:TE):TE:=λσ H Q=>to σ H λx H1=>tyV K T x H1/\r x [] H1 Q
def tBM (K:PySem.W.Frag)(T:String)(r:V->List V->Hp->VK->Prop)(to:TE)(t:TA):TE:=λσ H Q=>to σ H λx H1=>tyV K T x H1/\t σ H1 λxs H2=>r x xs H2 Q
variable {o e:Expr}{es:List Expr}{to:TE}{t:TA}{name:Str}{apos mI:Pos}{T id:String}{r:V->List V->Hp->VK->Prop}
theorem CP (pa:PlainAttrs T)(slot:Slot T name id)(hty:typeOf (.builtin id)=pure (.type "method_descriptor"))(hm:MtR X id r)(ho:PE X o to)
  (yB:attributeBase o name X.env (eval o X.env)=eval o X.env:=by rfl) (yy:(apos.endLine==mI.line)=true:=by rfl):PE X (.Call (.Attribute o name apos) [] [] mI) (Kc X.K T r to):=by
 intro pins s σ H Q I h
 refine wpAny_Call_method0_late yB yy (thn (ho pins s σ H _ I h) λv s1 ⟨x,H1,I1,r1,ty,q1⟩=>?_)
 obtain⟨h1,h2⟩:=Ce I1 r1 ty
 exact⟨T,id,pa,slot,hty,h1,h2,Calls.callWith_builtin rfl (PySem.evalArgs_none (hm pins s1 σ H1 x [] v [] Q I1 r1 .nil q1))⟩
theorem lj (pa:PlainAttrs T)(slot:Slot T name id)(hty:typeOf (.builtin id)=pure (.type "method_descriptor"))(hm:MtR X id r)(ho:PE X o to)(ha:PA X (e::es) t)
  (yB:attributeBase o name X.env (eval o X.env)=eval o X.env:=by rfl)
  (Ob:((backTo mI (starEach (e::es) X.env)).all (λx=> !x.1)&&(backToKw mI (keywordEach [] X.env)).all (λx=>x.1.isSome)
   && decide ((e::es).length+([]:List Keyword).length+(if([]:List Keyword).isEmpty then 0 else 1)<30))=true:=by rfl)
  (yy:(apos.endLine==mI.line)=true:=by rfl) (hs:starEach (e::es) X.env=(false,eval e X.env)::starEach es X.env:=by rfl) (Hq:(backTo mI (starEach es X.env)).any (·.1)=false:=by rfl):
  PE X (.Call (.Attribute o name apos) (e::es) [] mI) (tBM X.K T r to t):=by
 intro pins s σ H Q I h
 refine wpAny_Call_method_late yB Ob yy rfl (thn (ho pins s σ H _ I h) λv s1 ⟨x,H1,I1,r1,ty,q1⟩=>?_)
 obtain⟨h1,h2⟩:=Ce I1 r1 ty
 refine⟨T,id,pa,slot,hty,h1,h2,?_⟩
 have hA:=ha mI pins s1 σ H1 _ I1 q1
 rw[hs]at hA ⊢
 refine Calls.callWith_builtin (by show(false||(backTo mI (starEach es X.env)).any (·.1))=false;rw[Hq]<;>rfl) (Calls.evalArgs_plain ?_)
 exact thn hA λus s2 ⟨vs,H2,I2,r2,q2⟩=>hm pins s2 σ H2 x vs v us Q I2 r1 r2 q2
/- xs.append(e),list.index on a IU tuple .. are MtR facts of 06m -/
end
def MtM (X:Cx)(id:String)(r:V->List V->Hp->VK->Prop):Prop:=
 ∀ (pins:List (Addr×Obj)) (s:Shared) (σ:St) (H:Hp) (x:V) (xs:List V) (v:Value) (us:List Value) (Q:VK),Inv X pins σ H s->RelV x v->Vals xs us->r x xs H Q->
  wpAny (model X.prog X.w) X.A (call (.builtin id) (v::us)) (EP X pins σ Q) X.xe s
theorem Vals.one:∀ {x:V}{us:List Value},Vals [x] us->∃ u,us = [u]/\RelV x u
 |_,_,.cons r .nil=>⟨_,rfl,r⟩
theorem Vals.two {x y:V}{us:List Value}(h:Vals [x,y] us):∃ u v,us = [u,v]/\RelV x u/\RelV y v:=by
 cases h with
 |cons r t=>
  cases t with
  |cons q n=>
   cases n
   exact⟨_,_,rfl,r,q⟩
theorem Vals.zero:∀ {us:List Value},Vals [] us->us = []
 |_,.nil=>rfl
theorem Vals.reverse {xs:List V}{us:List Value}(h:Vals xs us):Vals xs.reverse us.reverse:=by
 induction h with
 |nil=>exact .nil
 |cons r t ih=>rw[de,de];exact Vals.append ih (.cons r .nil)
theorem Vals.rep {xs:List V}{us:List Value}(h:Vals xs us):∀ k:Nat,Vals (List.replicate k xs).flatten (List.replicate k us).flatten
 | 0=>.nil
 |k+1=>by
  rw[cz,cz,eQ,eQ]
  exact Vals.append h (Vals.rep h k)
theorem foldl_rep (its:List Value):∀ (k:Nat) (acc:List Value),
  List.foldl (λx1 x2=>x1++x2) acc.toArray (List.replicate k its.toArray)=(acc++(List.replicate k its).flatten).toArray
 | 0,acc=>by simp
 |k+1,acc=>by
  have e:acc.toArray++its.toArray=(acc++its).toArray:=by simp
  have e2:(acc++its)++(List.replicate k its).flatten=acc++(List.replicate (k+1) its).flatten:=by
   rw[cz,eQ,cu]
  rw[<-e2,<-foldl_rep its k (acc++its),<-e,cz,dF]
section
variable {X:Cx}{pins:List (Addr×Obj)}{σ:St}{H:Hp}{s:Shared}{l b:Addr}{xs ys zs:List V}
theorem Inv.EZ {its its':List Value}{n:Nat}{f:Array Value->Array Value}{t':Nat}(I:Inv X pins σ H s)(hH:H l=some (.lst xs))
  (e:s.heap.get? l=some {cls:=.type "list",data:=.seq its.toArray n}) (hf:f its.toArray=its'.toArray) (hv:Vals ys its') (hz:ys.length<=sizeLine):
  Inv X pins σ (upd H l (.lst ys)) {s with heap:=s.heap.update l (Obj.mapSeq f),toks:=t'} :=by
 have q:=PySem.IsL.update e f
 rw[hf]at q
 refine I.write (x:=l) (e:=l) (by rw[hH];exact trivial) (.inl rfl) (λb' u hb hu=>(Heap.get?_update_other s.heap (Obj.mapSeq f) (bF hb)).trans hu) ⟨_,q⟩ ?_
 exact⟨hz,its',_,hv,q⟩
theorem Inv.Ha {its:List Value}{t':Nat}(I:Inv X pins σ H s)(hv:Vals ys its)(hz:ys.length<=sizeLine):
  Inv X pins σ (upd H s.heap.objs.size (.lst ys)) {s with heap:=s.heap.push {cls:=.type "list",data:=.seq its.toArray},toks:=t'} :=
 I.laid (λ_ _ q=>aD _ q) (au _) ⟨hz,its,0,hv,aT _ rfl⟩
theorem Inv.fresh (I:Inv X pins σ H s):H s.heap.objs.size=none:=I.hok.fresh (au _)
theorem Inv.uS (I:Inv X pins σ H s)(hH:H l=some (.lst xs)):xs.length<=sizeLine/\∃ (its:List Value) (n:Nat),Vals xs its/\xs.length=its.length/\s.heap.get? l=some {cls:=.type "list",data:=.seq its.toArray n} :=by
 obtain⟨z,its,n,r,e⟩:=I.hok l _ hH
 exact⟨z,its,n,r,r.length,e⟩
theorem yl {n:Nat}(h:n<=sizeLine):Builtin.List.listTooLong n=false:=by
 unfold Builtin.List.listTooLong
 exact bo (by omega)
end
section
variable {X:Cx}
def ED:V->List V->Hp->VK->Prop:=λx vs H Q=>∃ l xs y,x = .ref l/\vs = [y]/\H l=some (.lst xs)/\xs.length<sizeLine/\Q .non (upd H l (.lst (xs ++ [y])))
theorem ip:MtM X "list.append" ED:=by
 intro pins s σ H x vs v us Q I rx rv h
 obtain⟨l,xs,y,rfl,rfl,hH,hz,q⟩:=h
 cases rx
 obtain⟨u,rfl,ru⟩:=rv.one
 obtain⟨z,its,n,r,hl,e⟩:=I.uS hH
 refine eI F.slot_list_append ⟨_,e,rfl⟩ F.entry_list_append (F.args_list_append_2 _ _) (PySem.list_append l its.toArray n u (by rw[aI];omega)) ⟨e,?_⟩
 refine⟨.non,_,I.EZ (its':=its ++ [u]) hH e (by simp) (r.append (.cons ru .nil)) ?_,rfl,q⟩
 rw[ah,aA]
 omega
def CD:V->List V->Hp->VK->Prop:=λx vs H Q=>∃ l xs,x = .ref l/\vs = []/\H l=some (.lst xs)/\Q .non (upd H l (.lst xs.reverse))
theorem tW:MtM X "list.reverse" CD:=by
 intro pins s σ H x vs v us Q I rx rv h
 obtain⟨l,xs,rfl,rfl,hH,q⟩:=h
 cases rx
 have hus:=rv.zero
 subst hus
 obtain⟨z,its,n,r,hl,e⟩:=I.uS hH
 refine eI F.slot_list_reverse ⟨_,e,rfl⟩ F.entry_list_reverse (F.args_list_reverse_1 _) (AutoSeq1.list_reverse_list_0 l its.toArray n (by rw[aI];omega)) ⟨e,?_⟩
 refine⟨.non,_,I.EZ (its':=its.reverse) hH e (by simp) r.reverse ?_,rfl,q⟩
 rw[cA]
 omega
def K3:R2:=λx y H Q=>∃ l b xs zs,x = .ref l/\y = .ref b/\H l=some (.lst xs)/\H b=some (.lst zs)/\xs.length+zs.length<=sizeLine/\∀ p,H p=none->Q (.ref p) (upd H p (.lst (xs++zs)))
theorem mH:OpR X (binaryOp .Add) K3:=by
 intro pins s σ H x y v u Q I rx ry h
 obtain⟨l,b,xs,zs,rfl,rfl,hH,hB,hz,q⟩:=h
 cases rx
 cases ry
 obtain⟨z,its,n,r,hl,e⟩:=I.uS hH
 obtain⟨z2,BH,n2,r2,hl2,e2⟩:=I.uS hB
 refine PySem.P.add_list e e2 ?_ (by rw[aI,aI];omega)
 have ea:its.toArray++BH.toArray=(its++BH).toArray:=by simp
 rw[ea]
 exact⟨.ref _,_,I.Ha (t':=s.toks) (r.append r2) (by rw[ah];omega),rfl,q _ I.fresh⟩
def KY:R2:=λx y H Q=>∃ l k xs,x = .ref l/\y = .int k/\H l=some (.lst xs)/\ -(2 ^ 63)<=k/\k<2 ^ 63/\xs.length*k.toNat<=sizeLine/\
 ∀ p,H p=none->Q (.ref p) (upd H p (.lst (List.replicate k.toNat xs).flatten))
theorem len_rep {α:Type}(xs:List α)(k:Nat):(List.replicate k xs).flatten.length=k*xs.length:=by
 induction k with
 |zero=>simp
 |succ k ih=>rw[cz,eQ,ah,ih,Nat.succ_mul,Nat.add_comm]
theorem GK:OpR X (binaryOp .Mult) KY:=by
 intro pins s σ H x y v u Q I rx ry h
 obtain⟨l,k,xs,rfl,rfl,hH,h1,h2,hz,q⟩:=h
 cases rx
 obtain⟨t,rfl⟩:=ry
 obtain⟨z,its,n,r,hl,e⟩:=I.uS hH
 have hlen:its.toArray.size*k.toNat<=sizeLine:=by rw[aI,<-hl];exact hz
 have Od:¬its.toArray.size*k.toNat>(2 ^ 63-1)/8:=by
  have:(sizeLine:Nat)<=(2 ^ 63-1)/8:=by decide
  omega
 have Oa:¬(!Builtin.List.listFitsIndex k)=true:=by
  rw[fitsIndex_both h1 h2]
  exact aF
 have Dw:¬Builtin.List.listTooLong (its.toArray.size*k.toNat)=true:=by
  rw[yl hlen]
  exact aF
 have Hs:List.foldl (λx1 x2=>x1++x2) #[] (List.replicate (if its.toArray.isEmpty=true then 0 else k.toNat) its.toArray)=(List.replicate k.toNat its).flatten.toArray:=by
  have f0:∀ m:Nat,List.foldl (λx1 x2=>x1++x2) #[] (List.replicate m its.toArray)=(List.replicate m its).flatten.toArray:=λm=>by
   have:=foldl_rep its m []
   rw[eu]at this
   exact this
  rw[f0]
  cases its with
  |nil=>simp
  |cons a r'=>rw[aH (by simp)]
 refine wpAny_binaryOp_repeat_ref (T:= "list") (U:= "int") (by decide) ⟨_,e,rfl⟩ (λs'=>typeIs_int s' k t) noFill_list_mul F.fills_int_mul F.slot_int_rmul repeat_list F.slot_int_index.lookup
  (eI F.slot_int_rmul (typeIs_int s k t) F.entry_int_rmul (F.args_int_rmul_2 _ _) (int___rmul___int_list k t l its.toArray n)
   ⟨e,rfl,⟨_,e,rfl⟩,eI F.slot_list_mul ⟨_,e,rfl⟩ F.entry_list_mul (F.args_list_mul_2 _ _) (AutoListH.list___mul___list_int_3 l its.toArray n k t Oa Od Dw) ⟨e,?_⟩⟩)
 rw[Hs]
 exact⟨.ref _,_,I.Ha (t':=s.toks) (r.rep k.toNat) (by rw[len_rep,Nat.mul_comm];exact hz),rfl,q _ I.fresh⟩
end
end L2
namespace Att
open PySem PySem.W PySem.Calls PyProof.Rows
theorem se {P:Params}{h:Heap} :∀ (ns:List Int) (vs:List Value),WellAll P h vs (ns.map WData.int)->IntsAre vs ns:=by
 intro ns
 induction ns with
 |nil=>
  intro vs w
  rw[List.map_nil]at w
  cases w
  exact .nil
 |cons n ns ih=>
  intro vs w
  rw[aN]at w
  cases w with
  |cons a b=>
   cases a
   exact .cons _ _ (ih _ b)
theorem Bi {l:OpenLaw}{n:Nat}(hn:l.most=some n){P:Params}{h:Heap}{args:List WData}{vals:List Value}
  (yw:l.row.toRowW.claim.pre args=true) (hwl:WellAll P h vals args):
  ∃ a vs ns,vals = [Value.ref a]/\args = [WData.list (ns.map WData.int)]/\h.get? a=some {cls:=.type "list",data:=.seq vs.toArray} /\IntsAre vs ns/\ns.length<=n:=by
 have hsh:WShape.hasAll [] args [.list .int]=true:=(pre_splitW yw).1
 have hc:l.pre.holds [] {args:=args} = true:=(pre_splitW yw).2
 obtain⟨d,r,rfl,h1,h2⟩:=hasAllW_cons hsh
 obtain rfl:=hasAllW_nil h2
 obtain⟨xs,rfl,h3⟩:=hasW_list h1
 obtain⟨ns,rfl⟩:=items_int h3
 have hlen:ns.length<=n:=by
  unfold OpenLaw.pre at hc
  have h4:(WTm.not (.lt (.lit (.int (n:Int))) (.len (.arg 0)))).holds [] {args:=[.list (ns.map .int)]} = true:=by
   have h4:=(holds_andW hc).1
   rw[hn]at h4
   exact h4
  have h5:=condW_of h4 (w_not (w_lt w_lit (w_len_list (w_arg rfl))))
  rw[aa]at h5
  refine Nat.le_of_not_lt λq=>?_
  have q':(n:Int)<((ns.length:Nat):Int):=by omega
  first
   |(rw[bG q']at h5;exact absurd h5 (by decide))
   |(simp at h5;omega)
 cases hwl with
 |cons w1 w2=>
  cases w2
  cases w1 with
  |list ho Fe=>exact⟨_,_,ns,rfl,rfl,ho,se ns _ Fe,hlen⟩
theorem Bv (l:OpenLaw)(args:List WData):l.row.toRowW.claim.post args (.bool true) args=true:=
 postW_of (r:=l.row.toRowW) (X:=(true==true))
  (show WShape.has [] (.bool true) .bool=true by first |rfl |decide |simp[WShape.has,WShape.arms,WShape.armsAll])
  (show(WTm.eq .res (.lit (.bool true))).value [] {args:=args,res:=some (.bool true),after:=args} = some (.bool (true==true)) from w_eq_bool (w_res rfl) w_lit) rfl
theorem yY {l:OpenLaw}{n:Nat}{q:Program}{loose:List Str}{XP:(Str->Option Value)->Heap->Prop}{YP:World->Heap->Prop}{d:DefRec}
  (hn:l.most=some n) (hdf:d.params.defaults = [])
  (call:∀ (w:World) (s₀ s₁:Shared) (mg mb:Str->Option Value) (fa:Addr) (o:Obj) (pm cd doc:Value) (a:Addr) (vs:List Value) (ns:List Int),
   Ground q loose [] XP w s₀ mg mb s₁.heap->YP w s₁.heap->
   s₁.heap.get? fa=some o->o.data = .func (docDef d.name d.params d.body d.scope pm cd doc)->s₁.heap.CodeRec cd d.name->mg d.name=some (.ref fa)->
   s₁.heap.get? a=some {cls:=.type "list",data:=.seq vs.toArray} ->IntsAre vs ns->ns.length<=n->s₁.gens = #[]->
   codeAny (model l.prog w) callerA (.call (.ref fa) ⟨[.ref a],[]⟩) (λr s'=>r = .ok (.ret (.bool true))/\OldK s₁.heap s'.heap/\s'.os=s₁.os/\AllBare s'.gens) s₁):
  WalkO q loose XP YP l.row.toRowW d [] (λf vs=>PySem.call f vs):=by
 intro w s₀ s₁ mg mb G Y fa o pm cd doc dV kV ho hd hcd hD hmg hg args vals as yw Rg hrd hwl hlo
 obtain rfl:dV = .none:=Dflts.none hD hdf
 obtain rfl:kV = .none:=Dflts.noKw hD
 obtain⟨a,vs,ns,rfl,rfl,Hr,hints,hlen⟩:=Bi hn yw hwl
 refine enter_call (codeAny_mono (call w s₀ s₁ mg mb fa o pm cd doc a vs ns G Y ho (fd_plain hd) hcd hmg Hr hints hlen hg) λr s' hq=>?_)
 obtain⟨rfl,h2,h3,h4⟩:=hq
 exact⟨.inl ⟨.bool true,.bool true,[],rfl,λ_=>rfl,.bool true,Bv l _,λ_=>⟨List.Pairwise.nil,λ_ hm=>(nomatch hm)⟩⟩,h2,h3,h4⟩
end Att
namespace L2
open PySem PySem.Spec PyProof.Rows
theorem qM:∀ {vs:List Value}{ns:List Int},IntsAre vs ns->Vals (ns.map V.int) vs
 |_,_,.nil=>.nil
 |_,_,.cons n t h=>.cons ⟨t,rfl⟩ (qM h)
def HP (H:Hp):Prop:=∀ b,H b=none\/∃ o xs,H b=some (.frz o (.lst xs))
variable {x:Str}
theorem Dn {P:Program}{w:World}{K:PySem.W.Frag}{mg mb:Str->Option Value}{CX:CXT}{k:Nat}{fa a:Addr}{fd:FuncData}{sp:Sp}{s₁:Shared}{vs:List Value}{ns:List Int}
  (KX:K.In s₁.heap) (hns:s₁.heap.Ns mainGlobals mg) (hb:s₁.heap.Ns builtinsNs mb) (hbb:∀ x:Str,x≠ "__name__" ->mb x=bootBuiltins x) (N0:s₁.heap.NoLimit) (hg:s₁.gens = #[])
  (ha:s₁.heap.get? a=some {cls:=.type "list",data:=.seq vs.toArray}) (hi:IntsAre vs ns) (hl:ns.length<=sizeLine) (hr:mK k callerA)
  (F:∀ base:Heap,K.In base->base.Ns mainGlobals mg->fE P w K mg base CX k fa fd [x] sp) (Jq:∀ (s:Shared) (u:Value),BindsTo s fd ⟨[u],[]⟩ [(x,u)])
  (hsp:∀ H:Hp,HP H->SqL K H a (ns.map V.int)->sp [.ref a] H (λv _=>v = .bl true) λ_ _ _=>False)
  (hCX:∀ H e s',CX [] H s₁ (λ_ _ _=>False) e s'->False):
  codeAny (model P w) callerA (.call (.ref fa) ⟨[.ref a],[]⟩) (λr s'=>r = .ok (.ret (.bool true))/\OldK s₁.heap s'.heap/\s'.os=s₁.os/\AllBare s'.gens) s₁:=by
 have rv:=qM hi
 have M6:=hi.length
 have core:∀ H:Hp,HP H->SqL K H a (ns.map V.int)->HOk P w H s₁.heap->(∀ b,H b≠none->b=a)->(H a≠none->K.lookup a=none)->
   codeAny (model P w) callerA (.call (.ref fa) ⟨[.ref a],[]⟩) (λr s'=>r = .ok (.ret (.bool true))/\OldK s₁.heap s'.heap/\s'.os=s₁.os/\AllBare s'.gens) s₁:=by
  intro H hO hS hok hA hK
  have A6:∀ {b:Addr}{o:Obj},s₁.heap.get? b=some o->H b=none->(xf s₁.heap H).get? b=some o:=λe n=>Dz e n
  have noA:∀ {b:Addr}{o:Obj}{es:Array DictEntry}{ep:Nat},s₁.heap.get? b=some o->o.data = .dict es ep->H b=none:=λ{b o es ep} e d=>by
   cases q:H b with
   |none=>rfl
   |some u=>
    have e':b=a:=hA b (by rw[q];simp)
    subst e'
    rw[ha]at e;cases e
    have d':Data.seq vs.toArray _=Data.dict es ep:=d
    cases d'
  have nsK:∀ {b:Addr}{m:Str->Option Value},s₁.heap.Ns b m->(xf s₁.heap H).Ns b m:=λ{b m} ⟨o,es,ep,e,d,r⟩=>⟨o,es,ep,A6 e (noA e d),d,r⟩
  have hKb:K.In (xf s₁.heap H):=λb o e=>A6 (KX b o e) (by
   cases q:H b with
   |none=>rfl
   |some u=>
    have e':b=a:=hA b (by rw[q];simp)
    subst e'
    rw[hK (by rw[q];simp)]at e;cases e)
  have hM:Mod K mg (xf s₁.heap H):=⟨hKb,nsK hns,⟨mb,nsK hb,hbb⟩,let ⟨mc,h1,h2⟩:=N0;⟨mc,nsK h1,h2⟩⟩
  have e0:FE P w K mg (xf s₁.heap H) callerA [] s₁ H:=⟨rfl,hM,λb o e=>EV e,Nat.le_of_eq (BO _ _),trivial,λb hb=>absurd (show b∈([]:List Addr) from hb) (by simp),hok,.of_eq hg⟩
  refine codeAny_mono ((F _ hKb (nsK hns)).run callerA [] s₁ H ⟨[.ref a],[]⟩ [.ref a] [.ref a] _ _ hr e0 (Jq s₁ (.ref a)) (.cons rfl .nil) (hsp H hO hS)) λr s' h=>?_
  cases r with
  |error e=>exact(hCX H e s' h).elim
  |ok fl=>
   cases fl with
   |next=>exact False.elim h
   |brk=>exact False.elim h
   |cont=>exact False.elim h
   |ret u=>
    obtain⟨v,H',os,bare,un,NU,r',q⟩:=h
    have q':v = .bl true:=q
    subst q'
    obtain rfl:u=Value.bool true:=r'
    refine⟨rfl,OldK.of_keep λb o e=>?_,os,bare⟩
    cases q:H b with
    |none=>exact un.keep b o e q (by intro z;exact absurd (show b∈([]:List Addr) from z) (by simp)) (by simp)
    |some u=>
     rcases hO b with z |⟨ob,xs,z⟩
     ·rw[q]at z;cases z
     ·have z2:=un.nX b ob _ z
      obtain⟨e1,_⟩:=hok b _ z
      obtain⟨e2,_⟩:=NU b _ z2
      rw[e]at e1;cases e1
      exact e2
 cases hk:K.lookup a with
 |some o=>
  have e:=KX a o hk
  rw[ha]at e
  cases e
  refine core (λ_=>none) (λ_=>.inl rfl) (.inr ⟨_,vs.toArray,_,hk,rfl,rfl,rfl,by rw[aI,M6];exact hl,by simpa using rv⟩) (λb u z=>by have z':(none:Option HO)=some u:=z;cases z') (λb z=>absurd rfl z) λz=>absurd rfl z
 |none=>
  refine core (λb=>if b=a then some (.frz {cls:=.type "list",data:=.seq vs.toArray} (.lst (ns.map V.int)))else none) (λb=>?_) (.inl (.inr ⟨{cls:=.type "list",data:=.seq vs.toArray},aM rfl⟩)) (λb u z=>?_) (λb z=>?_) λ_=>hk
  ·by_cases hb:b=a
   ·exact .inr ⟨_,_,aM hb⟩
   ·exact .inl (aH hb)
  ·by_cases hb:b=a
   ·have z':=(aM hb).symm.trans z
    cases z'
    subst hb
    exact⟨ha,by rw[aa];exact hl,vs,_,rv,ha⟩
   ·have z':=(aH hb).symm.trans z
    cases z'
  ·by_cases hb:b=a
   ·exact hb
   ·exact absurd (aH hb) z
abbrev KOf {K:PySem.W.Frag}{h:Heap}(_:K.In h):PySem.W.Frag:=K
theorem Ej {l:PySem.W.OpenLaw}{n k:Nat}{q:Program}{loose:List Str}{XP:(Str->Option Value)->Heap->Prop}{YP:World->Heap->Prop}{d:DefRec}{K:Params->PySem.W.Frag}{CX:World->CXT}{sp:World->Sp}
  (hn:l.most=some n) (hn2:n<=sizeLine) (hdf:d.params.defaults = []) (hr:mK k callerA)
  (hY:∀ (w:World) (h:Heap),YP w h->(K w.params).In h)
  (F:∀ (w:World) (mg:Str->Option Value) (fa:Addr) (h:Heap),(K w.params).In h->h.Ns mainGlobals mg->mg d.name=some (.ref fa)->
   ∃ fd:FuncData,(∀ (s:Shared) (u:Value),BindsTo s fd ⟨[u],[]⟩ [(x,u)])/\
    ∀ base:Heap,(K w.params).In base->base.Ns mainGlobals mg->fE l.prog w (K w.params) mg base (CX w) k fa fd [x] (sp w))
  (hsp:∀ (w:World) (H:Hp) (a:Addr) (ns:List Int),ns.length<=n->HP H->SqL (K w.params) H a (ns.map V.int)->sp w [.ref a] H (λv _=>v = .bl true) λ_ _ _=>False)
  (hCX:∀ (w:World) (H:Hp) (s:Shared) (e:Value) (s':Shared),CX w [] H s (λ_ _ _=>False) e s'->False):
  PySem.W.WalkO q loose XP YP l.row.toRowW d [] (λf vs=>PySem.call f vs):=by
 refine Att.yY hn hdf λw s₀ s₁ mg mb fa o pm cd doc a vs ns G Y ho hd hcd hmg Hr hints hlen hg=>?_
 have KX:=hY w _ Y
 obtain⟨fd,hb,hF⟩:=F w mg fa _ KX G.T.g hmg
 exact Dn KX G.T.g G.T.b G.T.builtins G.T.nolimit hg Hr hints (bE hlen hn2) hr hF hb (λH hO hS=>hsp w H a ns hlen hO hS) λH e s'=>hCX w H s₁ e s'
def mD (s:Stmt):Arguments:=match s with
 |.FunctionDef _ a _ _ _ _ _ _ _ _=>a
 |_=>{posonlyargs:=[],args:=[],vararg:=none,kwonlyargs:=[],kw_defaults:=[],kwarg:=none,defaults:=[]}
def kT (s:Stmt):List Stmt:=match s with
 |.FunctionDef _ _ b _ _ _ _ _ _ _=>b
 |_=>[]
def fx (s:Stmt):Scope:=match s with
 |.FunctionDef _ _ _ _ _ _ sc _ _ _=>sc
 |_=>{kind:=.function,names:=[],isGenerator:=false,isCoroutine:=false}
abbrev CX0:CXT:=λ_ _ _ _ _ _=>False
abbrev E0:XK:=λ_ _ _=>False
theorem fJ {X:Cx} :Passes CX0 X E0:=λ_ _ _ _ _ _ _ h=>h.elim
structure Fun (K:PySem.W.Frag)(x qual:Str)(st:Stmt)(f:Addr)(fd:FuncData):Prop where
 ex:∃ (oc:Value) (od:Option Addr) (kV doc pm:Value) (an:Option Addr) (cdv ct:Value) (osl:Array (Option Value)),
  fd=PySem.W.fnOf x qual (mD st) (kT st) (fx st) .none kV doc pm an cdv ct/\K.lookup f=some ⟨oc,od,.func fd,osl⟩/\PySem.W.codeIn K cdv qual=true
 kp:PySem.W.keepIn K (.ref f)=true
section
variable {P:Program}{w:World}{K:PySem.W.Frag}{mg:Str->Option Value}{base:Heap}
theorem Fun.ok {qual:Str}{st:Stmt}{f:Addr}{fd:FuncData}{N ps:List Str}{k:Nat}{sp:Sp}(F:Fun K x qual st f fd)(S:fK N ps (fx st))(len:∀ vs H Q E,sp vs H Q E->vs.length=ps.length)
  (yA:∀ (cdv:Value) (A:Around) (outer:List Env) (s:Shared) (H:Hp) (vs:List V) (Q:VK) (E:XK),mK k (A.deeper (envOfC qual (fx st) s.heap.objs.size f cdv))->sp vs H Q E->
   ∃ t,PSs (xl CX0 P w K mg base N qual (fx st) f cdv A outer s H E).nox (kT st) t/\t {nx:=λ_ H'=>Q .non H',rt:=Q} (start N vs) H):fE P w K mg base CX0 (k+1) f fd ps sp:=by
 obtain⟨oc,od,kV,doc,pm,an,cdv,ct,osl,rfl,lk,hcd⟩:=F.ex
 refine FZ lk hcd S len λA outer s H vs Q E hr hsp=>?_
 obtain⟨t,h,q⟩:=yA cdv A outer s H vs Q E hr hsp
 exact⟨t,h.nox,q⟩
theorem Fun.binds {qual:Str}{st:Stmt}{f:Addr}{fd:FuncData}{ps:List Str}(F:Fun K x qual st f fd)
  (h:∀ (kV doc pm:Value) (an:Option Addr) (cdv ct:Value) (us:List Value),us.length=ps.length->bindArgs (PySem.W.fnOf x qual (mD st) (kT st) (fx st) .none kV doc pm an cdv ct) ⟨us,[]⟩=pure (ps.zip us)):Binds K fd ps []:=by
 obtain⟨oc,od,kV,doc,pm,an,cdv,ct,osl,rfl,lk,hcd⟩:=F.ex
 exact .all (h kV doc pm an cdv ct)
theorem DB {qual:Str}{st:Stmt}{f:Addr}{oc:Value}{od an:Option Addr}{osl:Array (Option Value)}{kV doc pm cdv ct:Value}(l:K.lookup f=some ⟨oc,od,.func (PySem.W.fnOf x qual (mD st) (kT st) (fx st) .none kV doc pm an cdv ct),osl⟩)
  (c:PySem.W.codeIn K cdv qual=true) (k:PySem.W.keepIn K (.ref f)=true):Fun K x qual st f (PySem.W.fnOf x qual (mD st) (kT st) (fx st) .none kV doc pm an cdv ct):=⟨⟨oc,od,kV,doc,pm,an,cdv,ct,osl,rfl,l,c⟩,k⟩
end
theorem nh {A:Around}{k:Nat}(hr:mK k A):A.units+1<cLine:=cj (Nat.add_le_add_left (by decide:1<=64) _) hr.units
section
variable {X:Cx}
theorem pv (i:Nat){pos:Pos}(hN:X.N[i]? = some x:=by rfl)(hv:Vis X.env.scope x:=by first |exact Or.inl rfl |exact Or.inr (Or.inl rfl)|exact Or.inr (Or.inr rfl))(hd:(x==("__debug__" :Str))=false:=by decide)
  (hcd:(x==("__classdict__" :Str))=false:=by decide):PE X (.Name x pos) (Ig i):=GD hN hv hd hcd
end
theorem BI {A B:Prop}(h:B):if false=true then A else B:=by
 rw[aH aF]
 exact h
theorem yu {A B:Prop}(h:A):if true=true then A else B:=by
 rw[aM rfl]
 exact h
theorem gZ {c A B:Prop} [Decidable c] (h1:c->A)(h2:¬c->B):if c then A else B:=by
 by_cases h:c
 ·rw[aM h]
  exact h1 h
 ·rw[aH h]
  exact h2 h
def fu (H H':Hp):Prop:=∀ b o,H b=some o->H' b=some o
theorem fu.refl (H:Hp):fu H H:=λ_ _ h=>h
variable {H:Hp}
theorem fu.trans {H1 H2:Hp}(a:fu H H1)(b:fu H1 H2):fu H H2:=λc o h=>b c o (a c o h)
theorem fu.free {H':Hp}(e:fu H H'){l:Addr}(h:H' l=Option.none):H l=Option.none:=by
 cases q:H l with
 |none=>rfl
 |some o=>
  rw[e l o q]at h
  cases h
theorem fu.seq {K:PySem.W.Frag}{H':Hp}{a:Addr}{xs:List V}(e:fu H H')(h:SqL K H a xs):SqL K H' a xs:=by
 rcases h with(h |⟨o,h⟩)|h
 ·exact .inl (.inl (e _ _ h))
 ·exact .inl (.inr ⟨o,e _ _ h⟩)
 ·exact .inr h
variable {u:Value}
section
variable {κ:Type} [DecidableEq κ]
def lC (kvs:List (κ×V))(k:κ):Option V:=(kvs.find? λkv=>decide (kv.1=k)).map (·.2)
def putK (kvs:List (κ×V))(k:κ)(v:V):List (κ×V):=
 if(kvs.any λkv=>decide (kv.1=k))=true then kvs.map (λkv=>if kv.1=k then(kv.1,v)else kv)else kvs ++ [(k,v)]
theorem sL {p:κ×V}{r:List (κ×V)}{k:κ}(e:p.1=k):lC (p::r) k=some p.2:=by simp[lC,b8,e]
theorem sM {p:κ×V}{r:List (κ×V)}{k:κ}(e:¬p.1=k):lC (p::r) k=lC r k:=by simp[lC,b8,e]
theorem qg (k:κ):∀ kvs:List (κ×V),(kvs.any λkv=>decide (kv.1=k))=(lC kvs k).isSome
 |[]=>rfl
 |p::r=>by
  rw[List.any_cons]
  by_cases e:p.1=k
  ·simp only[sL e,bG e,Bool.true_or,Option.isSome_some]
  ·rw[sM e,bo e,Bool.false_or];exact qg k r
theorem oy (kvs:List (κ×V))(k:κ)(v:V):(putK kvs k v).length<=kvs.length+1:=by
 unfold putK
 split
 ·rw[aa];omega
 ·rw[ah,aO,cX];omega
theorem tE {kvs:List (κ×V)}{k:κ}(v:V)(h:lC kvs k=none):putK kvs k v=kvs ++ [(k,v)]:=by
 unfold putK
 rw[qg,h]
 exact aH (by decide)
theorem si.ng {o:Option V}{u:Option Value}(r:si o u):o.isSome=u.isSome:=by
 cases o with
 |none=>cases u with
  |none=>rfl
  |some _=>exact(show False from r).elim
 |some _=>cases u with
  |none=>exact(show False from r).elim
  |some _=>rfl
theorem KV.val {kvs:List (κ×V)}{vs:List (κ×Value)}(r:KV kvs vs)(k:κ):si (lC kvs k) (valueAt vs k):=by
 unfold KV at r
 induction r with
 |nil=>exact True.intro
 |@cons p q ps qs h t ih=>
  obtain⟨h1,h2⟩:=h
  by_cases e:p.1=k
  ·have e':q.1=k:=h1.symm.trans e
   have b:valueAt (q::qs) k=some q.2:=by simp[valueAt,b8,e']
   rw[sL e,b];exact h2
  ·have e':¬q.1=k:=λz=>e (h1.trans z)
   have b:valueAt (q::qs) k=valueAt qs k:=by simp[valueAt,b8,e']
   rw[sM e,b];exact ih
theorem KV.any {kvs:List (κ×V)}{vs:List (κ×Value)}(r:KV kvs vs)(k:κ):(kvs.any λkv=>decide (kv.1=k))=vs.any λkv=>decide (kv.1=k):=by
 unfold KV at r
 induction r with
 |nil=>rfl
 |cons h t ih=>rw[List.any_cons,List.any_cons,ih,h.1]
theorem KV.Cz {kvs:List (κ×V)}{vs:List (κ×Value)}(r:KV kvs vs)(k:κ){y:V}(ry:RelV y u):
  KV (kvs.map λkv=>if kv.1=k then(kv.1,y)else kv) (vs.map λkv=>if kv.1=k then(kv.1,u)else kv):=by
 unfold KV at r ⊢
 induction r with
 |nil=>exact .nil
 |@cons p q ps qs h t ih=>
  rw[aN,aN]
  refine .cons ?_ ih
  obtain⟨h1,h2⟩:=h
  by_cases e:p.1=k
  ·rw[aM e,aM (h1.symm.trans e)];exact⟨h1,ry⟩
  ·rw[aH e,aH (λz=>e (h1.trans z))];exact⟨h1,h2⟩
theorem KV.put {kvs:List (κ×V)}{vs:List (κ×Value)}(r:KV kvs vs)(k:κ){y:V}(ry:RelV y u):KV (putK kvs k y) (stored vs k u):=by
 unfold putK stored
 rw[r.any k]
 by_cases e:(vs.any λkv=>decide (kv.1=k))=true
 ·rw[aM e,aM e];exact r.Cz k ry
 ·rw[aH e,aH e];exact Paired.snoc r ⟨rfl,ry⟩
theorem KV.length {kvs:List (κ×V)}{vs:List (κ×Value)}(r:KV kvs vs):kvs.length=vs.length:=bR r
end
theorem oA {P:Program}{w:World}{k:Key}(r:RelV (kV k) u):(gU P w).is k u=true:=by
 cases k with
 |inl i=>obtain⟨t,e⟩:=(show ∃ t,u=Value.int i t from r);subst e;exact yp P w i t
 |inr x=>obtain⟨t,e⟩:=(show ∃ t,u=Value.str x t from r);subst e;exact yo P w x t
theorem vT {P:Program}{w:World} :∀ {ks:List Key}{us:List Value},Vals (ks.map kV) us->ItemsAre (gU P w) ks us
 |[],_,r=>by rw[List.map_nil]at r;cases r;exact .nil
 |k::ks,_,r=>by
  rw[aN]at r
  cases r with
  |cons h t=>exact .cons (oA h) (vT t)
abbrev KT (H:Hp):List (List Key×V)->List (List Key×Addr×Value)->Prop:=Paired λp q=>p.1=q.1/\H q.2.1=some (.tup (p.1.map kV))/\RelV p.2 q.2.2
variable {kvs:List (List Key×V)}{xs:List (List Key×Addr×Value)}
theorem KT.val (r:KT H kvs xs)(k:List Key):si (lC kvs k) ((atKey xs k).map (·.2)):=by
 induction r with
 |nil=>exact True.intro
 |@cons p q ps qs h t ih=>
  obtain⟨h1,_,h2⟩:=h
  by_cases e:p.1=k
  ·have e':q.1=k:=h1.symm.trans e
   have b:atKey (q::qs) k=some q.2:=by simp[atKey,b8,e']
   rw[sL e,b];exact h2
  ·have e':¬q.1=k:=λz=>e (h1.trans z)
   have b:atKey (q::qs) k=atKey qs k:=by simp[atKey,b8,e']
   rw[sM e,b];exact ih
theorem KT.Cz (r:KT H kvs xs)(k:List Key){y:V}(ry:RelV y u):
  KT H (kvs.map λkv=>if kv.1=k then(kv.1,y)else kv) (xs.map (putAt k u)):=by
 induction r with
 |nil=>exact .nil
 |@cons p q ps qs h t ih=>
  rw[aN,aN]
  refine .cons ?_ ih
  obtain⟨h1,h2,h3⟩:=h
  unfold putAt
  by_cases e:p.1=k
  ·rw[aM e,aM (h1.symm.trans e)];exact⟨h1,h2,ry⟩
  ·rw[aH e,aH (λz=>e (h1.trans z))];exact⟨h1,h2,h3⟩
theorem KT.put (r:KT H kvs xs)(k:List Key){b:Addr}{y:V}(hb:H b=some (.tup (k.map kV)))(ry:RelV y u):
  KT H (putK kvs k y) (storedH xs k b u):=by
 have e:(kvs.any λkv=>decide (kv.1=k))=(atKey xs k).isSome:=by
  rw[qg,(r.val k).ng,eO]
 unfold putK storedH
 rw[e]
 by_cases q:(atKey xs k).isSome=true
 ·rw[aM q,aM q];exact r.Cz k ry
 ·rw[aH q,aH q];exact Paired.snoc r ⟨rfl,hb,ry⟩
theorem KT.keeps {H':Hp}(r:KT H kvs xs)(ht:∀ b ys,H b=some (.tup ys)->H' b=some (.tup ys)):KT H' kvs xs:=
 Paired.G0 r λ_ _ z=>⟨z.1,ht _ _ z.2.1,z.2.2⟩
section
variable {P:Program}{w:World}{H:Hp}{h:Heap}{a:Addr}
theorem FJ {u:HO}(ok:HOk P w H h)(e:Rd H a u):iQ P w H h a u:=e.ok ok
theorem A0 {kvs:List (Key×V)}(ok:HOk P w H h)(e:Rd H a (.dK kvs)):kvs.length<=sizeLine/\(a==sysModules)=false/\∃ vs,KV kvs vs/\h.DictOf (gU P w) a vs:=
 show iQ P w H h a (.dK kvs) from FJ ok e
theorem JG {kvs:List (Key×V)}(ok:HOk P w H h)(e:H a=some (.dK kvs)):kvs.length<=sizeLine/\(a==sysModules)=false/\∃ vs,KV kvs vs/\h.DictOf (gU P w) a vs:=A0 ok (.inl e)
theorem qZ {ks:List Key}(ok:HOk P w H h)(e:H a=some (.tup (ks.map kV))):(tupleKind (gU P w)).is h ks a:=by
 obtain⟨_,its,r,o,h1,h2,n,h3⟩:=(show iQ P w H h a (.tup (ks.map kV)) from ok a _ e)
 exact⟨o,its.toArray,n,h1,h2,h3,by simpa using vT r⟩
theorem AY (ok:HOk P w H h)(e:Rd H a (.dT kvs)):kvs.length<=sizeLine/\(a==sysModules)=false/\
  ∃ xs,KT H kvs xs/\h.DictOfH (tupleKind (gU P w)) a xs:=by
 obtain⟨z,y,xs,r,o,es,ep,h1,h2,h3,h4,h5⟩:=(show iQ P w H h a (.dT kvs) from FJ ok e)
 refine⟨z,y,xs,r,o,es,ep,h1,h2,h3,h4,λx hx=>?_,h5⟩
 have all:∀ {l:List (List Key×V)}{m:List (List Key×Addr×Value)},KT H l m->∀ x∈m,(tupleKind (gU P w)).is h x.1 x.2.1:=by
  intro l m q
  induction q with
  |nil=>intro x hx;exact nomatch hx
  |@cons p q ps qs hq t ih=>
   intro x hx
   rcases aK.mp hx with e |hx
   ·subst e
    exact qZ ok (by rw[<-hq.1];exact hq.2.1)
   ·exact ih x hx
 exact all r x hx
theorem DI (ok:HOk P w H h)(e:H a=some (.dT kvs)):kvs.length<=sizeLine/\(a==sysModules)=false/\
  ∃ xs,KT H kvs xs/\h.DictOfH (tupleKind (gU P w)) a xs:=AY ok (.inl e)
end
def qL (H:Hp)(a:Addr)(y:V)(r:Option V):Prop:=
 (∃ kvs k,Rd H a (.dK kvs)/\y=kV k/\r=lC kvs k)\/∃ kvs k b,Rd H a (.dT kvs)/\y = .ref b/\H b=some (.tup (k.map kV))/\r=lC kvs k
def Ae (H:Hp)(a:Addr)(y v:V)(H':Hp):Prop:=
 (∃ kvs k,H a=some (.dK kvs)/\y=kV k/\kvs.length<sizeLine/\H'=upd H a (.dK (putK kvs k v)))\/
 ∃ kvs k b,H a=some (.dT kvs)/\y = .ref b/\H b=some (.tup (k.map kV))/\kvs.length<sizeLine/\H'=upd H a (.dT (putK kvs k v))
theorem qL.t {a b:Addr}{k:List Key}(e:H a=some (.dT kvs))(eb:H b=some (.tup (k.map kV))):qL H a (.ref b) (lC kvs k):=.inr ⟨kvs,k,b,.inl e,rfl,eb,rfl⟩
theorem Ae.t {a b:Addr}{k:List Key}{v:V}(e:H a=some (.dT kvs))(eb:H b=some (.tup (k.map kV)))(hl:kvs.length<sizeLine):
  Ae H a (.ref b) v (upd H a (.dT (putK kvs k v))):=.inr ⟨kvs,k,b,e,rfl,eb,hl,rfl⟩
variable {Q:Value->Shared->Prop}
section
variable {X:Cx}{pins:List (Addr×Obj)}{σ:St}{H:Hp}{s:Shared}{a:Addr}{y v:V}{u r:Value}{o:Option V}{A:Around}{E:Value->Shared->Prop}
theorem Inv.big (I:Inv X pins σ H s):sysModules<s.heap.objs.size:=by
 have h:mainGlobals<s.heap.objs.size:=(I.mod.glob.keeps I.bk).lt
 exact Nat.lt_trans (by decide) h
theorem BY (hu:A.units+1<cLine)(I:Inv X pins σ H s)(g:qL H a y (some v))(ry:RelV y u)(h:∀ w' s',Inv X pins σ H s'->RelV v w'->Q w' s'):
  wpAny (model X.prog X.w) A (getItem (.ref a) u) Q E s:=by
 rcases g with⟨kvs,k,e,ey,l⟩|⟨kvs,k,b,e,ey,eb,l⟩
 ·subst ey
  obtain⟨z,hd,vs,rel,dd⟩:=A0 I.hok e
  obtain⟨w',hw,rw'⟩:=si.some_of (v:=v) (o:=valueAt vs k) (by rw[l];exact rel.val k)
  exact wpAny_getItem_of (oA ry) dd.mapOf hw (h w' _ (I.tok _) rw')
 ·subst ey
  cases(show u=Value.ref b from ry)
  obtain⟨z,hd,xs,rel,dd⟩:=AY I.hok e
  obtain⟨w',hw,rw'⟩:=si.some_of (v:=v) (o:=(atKey xs k).map (·.2)) (by rw[l];exact rel.val k)
  obtain⟨p,hp,hp2⟩:=dO.mp hw
  refine wpAny_getItem_heap (tupleKind_room_in1 hu) (qZ I.hok eb) dd hp ?_
  rw[hp2]
  exact h w' _ (I.tok _) rw'
theorem Fv (hu:A.units+1<cLine)(I:Inv X pins σ H s)(g:qL H a y o)(ry:RelV y u)(h:∀ s',Inv X pins σ H s'->Q (.bool (!o.isSome)) s'):
  wpAny (model X.prog X.w) A (compareOp .NotIn u (.ref a)) Q E s:=by
 rcases g with⟨kvs,k,e,ey,l⟩|⟨kvs,k,b,e,ey,eb,l⟩
 ·subst ey
  obtain⟨z,hd,vs,rel,dd⟩:=A0 I.hok e
  refine wpAny_notIn_of (oA ry) hd dd.mapOf ?_
  rw[<-(rel.val k).ng,<-l]
  exact h _ (I.tok _)
 ·subst ey
  cases(show u=Value.ref b from ry)
  obtain⟨z,hd,xs,rel,dd⟩:=AY I.hok e
  refine wpAny_notIn_heap (tupleKind_room_in1 hu) (qZ I.hok eb) hd dd ?_
  have q:=(rel.val k).ng
  rw[eO]at q
  rw[<-q,<-l]
  exact h _ (I.tok _)
theorem qF {h':Heap}{t':Nat}{ob:HO}(I:Inv X pins σ H s)(mu:Mut (H a))(hs:Heap.SameBut a s.heap h')(he:∃ q,h'.get? a=some q)(new:iQ X.prog X.w (upd H a ob) h' a ob):
  Inv X pins σ (upd H a ob) {s with heap:=h',toks:=t'} :=
 I.write (x:=a) (e:=a) mu (.inl rfl) (λb q hb z=>(hs.2 b hb).trans z) he new
theorem HE {P:Program}{w:World}{H':Hp}{h':Heap}{kvs:List (Key×V)}{vs:List (Key×Value)}(z:kvs.length<=sizeLine)(hd:(a==sysModules)=false)(rel:KV kvs vs)(dd:h'.DictOf (gU P w) a vs):
  iQ P w H' h' a (.dK kvs):=⟨z,hd,vs,rel,dd⟩
theorem BX {H':Hp}{Q:Unit->Shared->Prop}(hu:A.units+1<cLine)(I:Inv X pins σ H s)(g:Ae H a y v H')(ry:RelV y u)(rv:RelV v r)(h:∀ s',Inv X pins σ H' s'->Q () s'):
  wpAny (model X.prog X.w) A (setItem (.ref a) u r) Q E s:=by
 rcases g with⟨kvs,k,e,ey,l,eH⟩|⟨kvs,k,b,e,ey,eb,l,eH⟩
 ·subst ey eH
  obtain⟨z,hd,vs,rel,dd⟩:=JG I.hok e
  have hz:vs.length<=sizeLine:=by rw[<-rel.length];exact z
  have hl:(putK kvs k v).length<=sizeLine:=by have:=oy kvs k v;omega
  refine wpAny_setItem_pairs (hsz:=hz) (oA ry) dd λh' dd' hs=>h _ ?_
  have he:∃ q,h'.get? a=some q:=let ⟨q,_,_,hq,_⟩:=dd';⟨q,hq⟩
  exact qF I (by rw[e];exact True.intro) hs he (HE hl hd (rel.put k rv) dd')
 ·subst ey eH
  cases(show u=Value.ref b from ry)
  obtain⟨z,hd,xs,rel,dd⟩:=DI I.hok e
  have hz:xs.length<=sizeLine:=by rw[<-bR rel];exact z
  have hl:(putK kvs k v).length<=sizeLine:=by have:=oy kvs k v;omega
  refine wpAny_setItem_heap (hsz:=hz) (tupleKind_room_in1 hu) (qZ I.hok eb) dd λh' dd' hs=>h _ ?_
  obtain⟨q,es,ep,hq,h2,h3,h4,_,h5⟩:=dd'
  refine qF I (by rw[e];exact True.intro) hs ⟨q,hq⟩ ⟨hl,hd,_,(rel.put k eb rv).keeps λc ys ec=>?_,q,es,ep,hq,h2,h3,h4,h5⟩
  rw[fm (fU ec e (λz=>nomatch z))]
  exact ec
end
def Ea (i:Expr):Prop:=∀ ov iv,subscripted i false ov iv=operate [ov,iv] (getItem ov iv)
theorem v7 {prog:Program}{w:World}{A:Around}{E:Value->Shared->Prop}{s:Shared}{env:Env}{value slice:Expr}{pos:Pos}{T id:String}
  (hl:typeLookup (.type T) "__getitem__" = pure (some (.builtin id))) (hs:Ea slice)
  (h:wpAny (model prog w) A (eval value env) (λo s₁=>wpAny (model prog w) A (eval slice env) (λi s₂=>s₂.TypeIs o T/\wpAny (model prog w) A (getItem o i) Q E s₂) E s₁) E s):
  wpAny (model prog w) A (eval (.Subscript value slice pos) env) Q E s:=by
 refine Subscript_ (bq h (λo s₁ h₁=>bq h₁ (λi s₂ h₂=>?_) λ_ _ x=>x) λ_ _ x=>x)
 obtain⟨hT,h₂⟩:=h₂
 unfold subscriptTail
 refine ae ?_
 rw[getitemInPython_of_ne hT.not_modules]
 refine ae (eJ hT hl ?_)
 have fin:wpAny (model prog w) A (subscripted slice false o i) (λr s₃=>wpAny (model prog w) A (letTemporaryGo value o r >>= λ_=>pure r) Q E s₃) E s₂:=by
  rw[hs o i]
  exact wpAny_operating (bq h₂ (λr s₃ h₃=>ae (wpAny_letTemporaryGo (aq h₃))) λ_ _ x=>x)
 first
  |exact aq (ae fin)
  |exact ae (aq (ae fin))
  |exact ae fin
theorem yL {X:Cx}{pins:List (Addr×Obj)}{σ:St}{s:Shared}{a:Addr}{y:V}{o:Option V}(I:Inv X pins σ H s)(g:qL H a y o):s.TypeIs (.ref a) "dict" :=by
 rcases g with⟨kvs,k,e,_,_⟩|⟨kvs,k,b,e,_,_,_⟩
 ·obtain⟨_,_,vs,_,dd⟩:=A0 I.hok e
  exact dd.typeIs
 ·obtain⟨_,_,xs,_,dd⟩:=AY I.hok e
  exact dd.typeIs
def Io (td ty:TE):TE:=λσ H Q=>td σ H λx H1=>ty σ H1 λy H2=>∃ a v,x = .ref a/\qL H2 a y (some v)/\Q v H2
def Et (ty td:TE):TE:=λσ H Q=>ty σ H λy H1=>td σ H1 λx H2=>∃ a o,x = .ref a/\qL H2 a y o/\Q (.bl (!o.isSome)) H2
def Iz (td ty tv:TE):TS:=λD σ H=>tv σ H λv H1=>td σ H1 λx H2=>ty σ H2 λy H3=>∃ a H4,x = .ref a/\Ae H3 a y v H4/\D.nx σ H4
section
variable {X:Cx}{o i e value:Expr}{pos pos' Ib:Pos}{td ty tv:TE}
theorem sx (hu:X.A.units+1<cLine)(ho:PE X o td)(hi:PE X i ty)(hs:Ea i):PE X (.Subscript o i pos) (Io td ty):=by
 intro pins s σ H Q I h
 refine v7 eL.lookup hs (thn (ho pins s σ H _ I h) λu s1 ⟨x,H1,I1,rx,q1⟩=>thn (hi pins s1 σ H1 _ I1 q1) λiv s2 ⟨y,H2,I2,ry,a,v,ex,g,q2⟩=>?_)
 subst ex
 obtain rfl:u=Value.ref a:=rx
 exact⟨yL I2 g,BY hu I2 g ry λw' s3 I3 rw'=>⟨v,H2,I3,rw',q2⟩⟩
theorem qT (hu:X.A.units+1<cLine)(hi:PE X i ty)(ho:PE X o td):PC X .NotIn i o (Et ty td):=by
 intro pins s σ H Q I h
 refine thn (hi pins s σ H _ I h) λiv s1 ⟨y,H1,I1,ry,q1⟩=>thn (ho pins s1 σ H1 _ I1 q1) λu s2 ⟨x,H2,I2,rx,a,ov,ex,g,q2⟩=>?_
 subst ex
 obtain rfl:u=Value.ref a:=rx
 exact Fv hu I2 g ry λs3 I3=>⟨.bl (!ov.isSome),H2,I3,rfl,q2⟩
theorem wI (hu:X.A.units+1<cLine)(ho:PE X o td)(hi:PE X i ty)(hv:PE X value tv)(hs:swapsWith value (some (.Subscript o i pos')) pos.line X.env=pure false):
  PS X (.Assign [.Subscript o i pos'] value pos) (Iz td ty tv):=by
 intro pins s σ H D I h
 refine wpAny_Assign_Subscript (thn (hv pins s σ H _ I h) λr s1 ⟨v,H1,I1,rv,q1⟩=>thn (ho pins s1 σ H1 _ I1 q1) λu s2 ⟨x,H2,I2,rx,q2⟩=>thn (hi pins s2 σ H2 _ I2 q2) λiv s3 ⟨y,H3,I3,ry,a,H4,ex,g,q3⟩=>?_) hs
 subst ex
 obtain rfl:u=Value.ref a:=rx
 exact BX hu I3 g ry rv λs4 I4=>⟨σ,H4,I4,q3⟩
end
theorem yJ {P:Program}{w:World}(h:Heap)(hb:sysModules<h.objs.size):iQ P w H (h.push {cls:=.type "dict",data:=.dict #[]}) h.objs.size (.dT []):=
 ⟨aP _,eA.mpr (bF (aS hb)),[],.nil,_,#[],0,aT _ rfl,⟨rfl,rfl,rfl⟩,rfl,rfl,dh⟩
def Gm:TE:=λ_ H Q=>∀ p,H p=none->Q (.ref p) (upd H p (.dT []))
section
variable {X:Cx}{pos:Pos}
theorem CN:PE X (.Dict [] [] pos) Gm:=λpins s σ H Q I h=>
 wpAny_Dict_empty ⟨.ref s.heap.objs.size,_,I.laid (a:=s.heap.objs.size) (o:=.dT []) (t':=s.toks) (λ_ _ q=>aD _ q) (au _) (yJ s.heap I.big),rfl,h _ (I.hok.fresh (au _))⟩
end
def zk:List (TE×TE)->St->Hp->(List (V×V)->Hp->Prop)->Prop
 |[],_,H,Q=>Q [] H
 |(tk,tv)::r,σ,H,Q=>tk σ H λx H1=>tv σ H1 λy H2=>zk r σ H2 λps H3=>Q ((x,y)::ps) H3
abbrev VV:List (V×V)->List (Value×Value)->Prop:=Paired λp q=>RelV p.1 q.1/\RelV p.2 q.2
def PPs (X:Cx)(pos:Pos)(keys:List (Option Expr))(values:List Expr)(trs:List (TE×TE)):Prop:=
 ∀ (pins:List (Addr×Obj)) (s:Shared) (σ:St) (H:Hp) (Q:List (V×V)->Hp->Prop),Inv X pins σ H s->zk trs σ H Q->
  wpAny (model X.prog X.w) X.A (evalPairs (pairTrees keys values X.env pos)) (λvs s'=>∃ ps H',Inv X pins σ H' s'/\VV ps vs/\Q ps H') X.xe s
theorem EF {X:Cx}{pos:Pos} :PPs X pos [] [] []:=λpins s σ H Q I h=>pairTrees_nil_walk ⟨[],H,I,.nil,h⟩
theorem CG {X:Cx}{pos:Pos}{k v:Expr}{ks:List (Option Expr)}{vs:List Expr}{tk tv:TE}{trs:List (TE×TE)}(hk:PE X k tk)(hv:PE X v tv)(hr:PPs X pos ks vs trs):
  PPs X pos (some k::ks) (v::vs) ((tk,tv)::trs):=λpins s σ H Q I h=>
 pairTrees_cons_walk (thn (hk pins s σ H _ I h) λu s1 ⟨x,H1,I1,rx,q1⟩=>thn (hv pins s1 σ H1 _ I1 q1) λw2 s2 ⟨y,H2,I2,ry,q2⟩=>
  thn (hr pins s2 σ H2 _ I2 q2) λws s3 ⟨ps,H3,I3,rel,q3⟩=>⟨(x,y)::ps,H3,I3,.cons ⟨rx,ry⟩ rel,q3⟩)
end L2
namespace TL
open PySem
theorem uu {α β:Type}{f:α->β->Sem (ForInStep β)}(P:List α->β->Prop)
  (step:∀ x l c,P (x::l) c->∃ c',f x c=pure (.yield c')/\P l c'):∀ (l:List α) (c:β),P l c->∃ c',forIn l c f=pure c'/\P [] c'
 |[],c,h=>⟨c,rfl,h⟩
 |x::l,c,h=>by
  obtain⟨c1,e,h1⟩:=step x l c h
  obtain⟨c2,e2,h2⟩:=uu P step l c1 h1
  refine⟨c2,?_,h2⟩
  rw[cG,e,pure_bind]
  exact e2
theorem nO {scope:Scope}{env:Env}(h:∀ y∈scope.names,y.2 = .free->∃ c,env.cells.lookup y.1=some c):
  ∃ cl,closureFor scope env=pure cl/\(∀ x c,cl.lookup x=some c->env.cells.lookup x=some c)/\(∀ y∈scope.names,y.2 = .free->∃ c,cl.lookup y.1=some c):=by
 let P:List (Str×NameKind)->List (Str×Addr)->Prop:=λl c=>(∀ y∈l,y.2 = .free->∃ c,env.cells.lookup y.1=some c)/\(∀ x a,c.lookup x=some a->env.cells.lookup x=some a)/\
  (∀ y∈scope.names,y.2 = .free->y∈l\/∃ a,c.lookup y.1=some a)
 simp only[closureFor]
 obtain⟨cl,e,_,h2,h3⟩:=uu (f:=λ(x:Str×NameKind) (r:List (Str×Addr))=>if(x.2==NameKind.free)=true then cellOf env x.1 >>= λc=>pure (ForInStep.yield ((x.1,c)::r))else pure (ForInStep.yield r)) P (by
  rintro⟨n,k⟩ l c ⟨p1,p2,p3⟩
  by_cases hk:k = .free
  ·subst hk
   obtain⟨a,ha⟩:=p1 _ aB rfl
   refine⟨(n,a)::c,?_,λy hy=>p1 y (aC _ hy),λx b hb=>?_,λy hy hf=>?_⟩
   ·have ha':env.cells.lookup n=some a:=ha
    simp[cellOf,ha']
   ·rw[bM]at hb
    by_cases hx:(x==n)=true
    ·rw[hx]at hb
     have e1:x=n:=by simpa using hx
     subst e1
     cases hb
     exact ha
    ·have hx':(x==n)=false:=by simpa using hx
     rw[hx']at hb
     exact p2 x b hb
   ·by_cases hx:(y.1==n)=true
    ·exact .inr ⟨a,by rw[bM,hx]⟩
    ·have hx':(y.1==n)=false:=by simpa using hx
     rcases p3 y hy hf with q |⟨b,q⟩
     ·rcases aK.mp q with q |q
      ·exact absurd (by rw[q];simp) hx
      ·exact .inl q
     ·exact .inr ⟨b,by rw[bM,hx'];exact q⟩
  ·refine⟨c,?_,λy hy=>p1 y (aC _ hy),p2,λy hy hf=>?_⟩
   ·have:(k==NameKind.free)=false:=by simpa using hk
    simp[this]
   ·rcases p3 y hy hf with q |q
    ·rcases aK.mp q with q |q
     ·subst q;exact absurd hf hk
     ·exact .inl q
    ·exact .inr q) scope.names [] ⟨h,λx a hx=>by simp at hx,λy hy _=>.inl hy⟩
 refine⟨cl,?_,h2,λy hy hf=>?_⟩
 ·refine Eq.trans ?_ (bQ (λt:Sem (List (Str×Addr))=>t >>= λr=>pure r) e)
  rfl
 ·rcases h3 y hy hf with q |q
  ·cases q
  ·exact q
theorem lA {env:Env} :∀ {names:List (Str×NameKind)}{x:Str},names.lookup x=some .free->
  (names.map λ(n,k)=>if(k==NameKind.free&&env.scope.kind == .function&&env.kindOf n==some .cell)then(n,NameKind.cell)else(n,k)).lookup x=some .cell\/
  (names.map λ(n,k)=>if(k==NameKind.free&&env.scope.kind == .function&&env.kindOf n==some .cell)then(n,NameKind.cell)else(n,k)).lookup x=some .free
 |[],_,h=>by simp at h
 |(n,k)::r,x,h=>by
  have ih:=@lA env r x
  show List.lookup x ((if(k==NameKind.free&&env.scope.kind == .function&&env.kindOf n==some .cell)=true then(n,NameKind.cell)else(n,k))::_)=_\/List.lookup x ((if(k==NameKind.free&&env.scope.kind == .function&&env.kindOf n==some .cell)=true then(n,NameKind.cell)else(n,k))::_)=_
  cases hx:x==n with
  |true=>
   simp only[bM,hx]at h
   cases h
   by_cases hc:(NameKind.free==NameKind.free&&env.scope.kind == .function&&env.kindOf n==some .cell)=true
   ·rw[aM hc];left;simp[bM,hx]
   ·rw[aH hc];right;simp[bM,hx]
  |false=>
   simp only[bM,hx]at h
   by_cases hc:(k==NameKind.free&&env.scope.kind == .function&&env.kindOf n==some .cell)=true
   ·rw[aM hc];simp only[bM,hx];exact ih h
   ·rw[aH hc];simp only[bM,hx];exact ih h
theorem lg {env:Env} :∀ {names:List (Str×NameKind)}{x:Str},(∀ y∈names,y.2≠ .cell)->
  ((names.map λ(n,k)=>if(k==NameKind.free&&env.scope.kind == .function&&env.kindOf n==some .cell)then(n,NameKind.cell)else(n,k)).lookup x=some .cell\/
  (names.map λ(n,k)=>if(k==NameKind.free&&env.scope.kind == .function&&env.kindOf n==some .cell)then(n,NameKind.cell)else(n,k)).lookup x=some .free)->∃ y∈names,y.1=x/\y.2 = .free
 |[],_,_,h=>by simp at h
 |(n,k)::r,x,hn,h=>by
  have ih:=@lg env r x (λy hy=>hn y (aC _ hy))
  change List.lookup x ((if(k==NameKind.free&&env.scope.kind == .function&&env.kindOf n==some .cell)=true then(n,NameKind.cell)else(n,k))::_)=_\/List.lookup x ((if(k==NameKind.free&&env.scope.kind == .function&&env.kindOf n==some .cell)=true then(n,NameKind.cell)else(n,k))::_)=_ at h
  cases hx:x==n with
  |true=>
   have e:x=n:=by simpa using hx
   by_cases hc:(k==NameKind.free&&env.scope.kind == .function&&env.kindOf n==some .cell)=true
   ·have hk:k = .free:=by
     simp only[eY,beq_iff_eq]at hc
     exact hc.1.1
    exact⟨(n,k),aB,e.symm,hk⟩
   ·rw[aH hc]at h
    simp only[bM,hx]at h
    rcases h with h |h
    ·exact absurd (aU h) (hn (n,k) aB)
    ·exact⟨(n,k),aB,e.symm,aU h⟩
  |false=>
   have h':(r.map λ(n,k)=>if(k==NameKind.free&&env.scope.kind == .function&&env.kindOf n==some .cell)then(n,NameKind.cell)else(n,k)).lookup x=some .cell\/
     (r.map λ(n,k)=>if(k==NameKind.free&&env.scope.kind == .function&&env.kindOf n==some .cell)then(n,NameKind.cell)else(n,k)).lookup x=some .free:=by
    by_cases hc:(k==NameKind.free&&env.scope.kind == .function&&env.kindOf n==some .cell)=true
    ·rw[aM hc]at h;simpa only[bM,hx]using h
    ·rw[aH hc]at h;simpa only[bM,hx]using h
   obtain⟨y,hy,e⟩:=ih h'
   exact⟨y,aC _ hy,e⟩
section
variable {prog:Program}{w:World}{A:Around}{R:Result->Shared->Prop}{s:Shared}
abbrev sr (ifs:List Expr)(env:Env):Sem Bool:=forIn ifs true λc r=>if r=true then do let ok <-isTrue c env (eval c env);pure (ForInStep.yield ok)else pure (ForInStep.yield r)
theorem yP {elt target iter:Expr}{ifs:List Expr}{scope:Scope}{pos:Pos}{it acc:Value}{env:Env}(I:Nat->Shared->Prop)
  (turn:∀ n s,I n s->wpAny (model prog w) A (pyNext it) (λr s₁=>match r with
   |none=>R (.ok .next) s₁
   |some v=>wpAny (model prog w) A (letOwnedTupleGo target it v) (λ_ s₀=>wpAny (model prog w) A (assign target env v) (λ_ s₂=>
     wpAny (model prog w) A (sr ifs env) (λok s₃=>
      if ok=true then wpAny (model prog w) A (eval elt env) (λx s₄=>
       wpAny (model prog w) A (call (.builtin "list.append") [acc,x]) (λ_ s₅=>∃ m,m<n/\I m s₅) (λ_ _=>False) s₄) (λ_ _=>False) s₃
      else ∃ m,m<n/\I m s₃) (λ_ _=>False) s₂) (λ_ _=>False) s₀) (λ_ _=>False) s₁) (λ_ _=>False) s)
  (n:Nat) (h:I n s):
  codeAny (model prog w) A (.compLoop (.ListComp elt [⟨target,iter,ifs,0⟩] scope pos) 0 it acc env) R s:=by
 refine codeAny_loop rfl I (λn s hI=>?_) n h
 show wpAny _ A ((compTurn (.ListComp elt [⟨target,iter,ifs,0⟩] scope pos) 0 it acc env).onRaise (λx=>do noteFrame x env;theTreesLotGoes x)) _ _ s
 refine wpAny_noted ?_
 rw[compTurn_list]
 refine ae (cF (ae (bq (turn n s hI) (λr s₁ h₁=>?_) λ_ _ h'=>h'.elim)))
 cases r with
 |none=>exact aq h₁
 |some v=>
  refine ae (bq h₁ (λ_ s₀ h₀=>?_) λ_ _ h'=>h'.elim)
  refine ae (bq h₀ (λ_ s₂ h₂=>ae (bq h₂ (λok s₃ h₃=>?_) λ_ _ h'=>h'.elim)) λ_ _ h'=>h'.elim)
  cases ok with
  |false=>exact aq ⟨rfl,h₃⟩
  |true=>
   exact ae (ae (bq h₃ (λx s₄ h₄=>ae (bq h₄ (λ_ s₅ h₅=>aq (aq ⟨rfl,h₅⟩)) λ_ _ h'=>h'.elim)) λ_ _ h'=>h'.elim))
theorem xm (elt target iter:Expr)(ifs:List Expr)(scope:Scope)(pos:Pos)(it acc:Value)(env:Env):
  compTurn (.SetComp elt [⟨target,iter,ifs,0⟩] scope pos) 0 it acc env=(do
   standAt iter.pos
   match <-pyNext it with
   |none=>pure (.done .next)
   |some v=>
    letOwnedTupleGo target it v
    assign target env v
    let mut ok:=true
    for c in ifs do
     if ok then ok <-isTrue c env (eval c env)
    if ok then
     (do let v <-eval elt env;standAt elt.pos;let _ <-call (.builtin "set.add") [acc,v])
    again (.compLoop (.SetComp elt [⟨target,iter,ifs,0⟩] scope pos) 0 it acc env)):=by rfl
theorem xn {elt target iter:Expr}{ifs:List Expr}{scope:Scope}{pos:Pos}{it acc:Value}{env:Env}(I:Nat->Shared->Prop)
  (turn:∀ n s,I n s->wpAny (model prog w) A (pyNext it) (λr s₁=>match r with
   |none=>R (.ok .next) s₁
   |some v=>wpAny (model prog w) A (letOwnedTupleGo target it v) (λ_ s₀=>wpAny (model prog w) A (assign target env v) (λ_ s₂=>
     wpAny (model prog w) A (sr ifs env) (λok s₃=>
      if ok=true then wpAny (model prog w) A (eval elt env) (λx s₄=>
       wpAny (model prog w) A (call (.builtin "set.add") [acc,x]) (λ_ s₅=>∃ m,m<n/\I m s₅) (λ_ _=>False) s₄) (λ_ _=>False) s₃
      else ∃ m,m<n/\I m s₃) (λ_ _=>False) s₂) (λ_ _=>False) s₀) (λ_ _=>False) s₁) (λ_ _=>False) s)
  (n:Nat) (h:I n s):
  codeAny (model prog w) A (.compLoop (.SetComp elt [⟨target,iter,ifs,0⟩] scope pos) 0 it acc env) R s:=by
 refine codeAny_loop rfl I (λn s hI=>?_) n h
 show wpAny _ A ((compTurn (.SetComp elt [⟨target,iter,ifs,0⟩] scope pos) 0 it acc env).onRaise (λx=>do noteFrame x env;theTreesLotGoes x)) _ _ s
 refine wpAny_noted ?_
 rw[xm]
 refine ae (cF (ae (bq (turn n s hI) (λr s₁ h₁=>?_) λ_ _ h'=>h'.elim)))
 cases r with
 |none=>exact aq h₁
 |some v=>
  refine ae (bq h₁ (λ_ s₀ h₀=>?_) λ_ _ h'=>h'.elim)
  refine ae (bq h₀ (λ_ s₂ h₂=>ae (bq h₂ (λok s₃ h₃=>?_) λ_ _ h'=>h'.elim)) λ_ _ h'=>h'.elim)
  cases ok with
  |false=>exact aq ⟨rfl,h₃⟩
  |true=>
   exact ae (ae (bq h₃ (λx s₄ h₄=>ae (cF (ae (bq h₄ (λ_ s₅ h₅=>aq (aq ⟨rfl,h₅⟩)) λ_ _ h'=>h'.elim)))) λ_ _ h'=>h'.elim))
theorem uV {elt target iter ifs rest scope pos it acc env}
  (h0:codeAny (model prog w) A (.compLoop (.SetComp elt (⟨target,iter,ifs,0⟩::rest) scope pos) 0 it acc env) R s)
  (h:wpAny (model prog w) A (pyIter it) (λit' s'=>codeAny (model prog w) A (.compLoop (.SetComp elt (⟨target,iter,ifs,0⟩::rest) scope pos) 0 it' acc env) R s')
   (notedBy (model prog w) A env λx s'=>R (.error x) s') s):
  codeAny (model prog w) A (.compStart (.SetComp elt (⟨target,iter,ifs,0⟩::rest) scope pos) 0 it acc env) R s:=by
 refine codeAny_of_tree ?_
 show wpAny _ _ ((compStart (.SetComp elt (⟨target,iter,ifs,0⟩::rest) scope pos) 0 it acc env).onRaise (λx=>do noteFrame x env;standAt theWindowsPlace)) _ _ s
 refine wpAny_notedAt ?_
 unfold compStart
 show wpAny _ _ (ask >>= _) _ _ s
 refine ae (wpAny_askSetting (wpAny_ite ?_))
 split
 ·first
   |exact ae (aq (aq (And.intro rfl h0)))
   |exact aq (And.intro rfl h0)
 ·first
   |exact ae (wpAny_rule (ae (cF (ae (bq h (λit' s' h'=>aq (And.intro rfl h')) λ_ _ x=>x)))))
   |(refine ae (wpAny_rule ?_);show wpAny _ _ (standAt iter.pos >>= _) _ _ s;exact ae (cF (ae (bq h (λit' s' h'=>aq (And.intro rfl h')) λ_ _ x=>x))))
end
open PyProof.Rows
def oth (e:Int):Int:=e+1-2*(e%2)
theorem Ef (x:Int):Builtin.bitXor x 1=oth x:=by
 rw[bitXor_and,bitAnd_m1];unfold oth;omega
theorem i6 (e:Int):oth (oth e)=e:=by unfold oth;omega
theorem qu (e:Int):oth e/2=e/2:=by unfold oth;omega
theorem zz {e:Int}(h:0<=e):0<=oth e:=by unfold oth;omega
end TL
set_option maxHeartbeats 4000000
namespace TL
open PySem PySem.Spec PyProof.Rows L2
abbrev St:=L2.St
def fR (X:Cx)(scope:Scope)(cl:List (Str×Addr))(N:List Str)(fp:List Addr)(s3:Shared)(H3:Hp):Cx where
 prog:=X.prog
 w:=X.w
 K:=X.K
 mg:=X.mg
 base:=X.base
 A:=X.A
 N:=N
 s₀:=s3
 H₀:=H3
 env:=compEnvC scope cl s3.heap.objs.size X.env
 outer:=X.stack
 stack:=X.stack
 ex:=fp
 fn:=λ_=>false
 calm:=X.calm
 pn:=[]
 xe:=λ_ _=>False
def F8 (NX:List Str)(scope:Scope)(N:List Str)(cap:List (Option Nat)):Bool:=
 (N.zip cap).all λp=>match p.2 with
  |none=>true
  |some j=>decide (NX[j]? = some p.1)&&decide (scope.names.lookup p.1=some .free)
structure gH (scX:Scope)(NX:List Str)(scope:Scope)(N:List Str)(own:Nat)(cap:List (Option Nat)):Prop where
 kind:scope.kind = .function
 wV:∀ y∈scope.names,y.2≠ .cell
 loc:∀ y∈scope.names,y.2 = .local->scope.names.lookup y.1=some .local
 fre:∀ y∈scope.names,y.2 = .free->scX.names.lookup y.1=some .cell\/scX.names.lookup y.1=some .free
 len:cap.length=N.length
 Qq:F8 NX scope N cap=true
 LF:(cap.take own).all (·.isNone)=true
 nd:N.Nodup
def iY (cap:List (Option Nat))(σ:St):St:=cap.map λo=>o.bind λj=>(σ[j]?).bind id
variable {cap:List (Option Nat)}
theorem B0 {σ:St} :(iY cap σ).length=cap.length:=by simp[iY]
theorem pF {σ:St}{i:Nat}{v:V}(h:(iY cap σ)[i]? = some (some v)):∃ j,cap[i]? = some (some j)/\σ[j]? = some (some v):=by
 unfold iY at h
 rw[ao]at h
 cases e:cap[i]? with
 |none=>rw[e]at h;cases h
 |some o=>
  rw[e]at h
  cases o with
  |none=>cases h
  |some j=>
   refine⟨j,rfl,?_⟩
   have h':(σ[j]?).bind id=some v:=by simpa using h
   cases q:σ[j]? with
   |none=>rw[q]at h';cases h'
   |some z=>rw[q]at h';exact bQ some h'
theorem gH.at {scX:Scope}{NX:List Str}{scope:Scope}{N:List Str}{own:Nat}{cap:List (Option Nat)}(C:gH scX NX scope N own cap){i j:Nat}{x:Str}(h1:N[i]? = some x)(h2:cap[i]? = some (some j)):
  NX[j]? = some x/\scope.names.lookup x=some .free:=by
 have h:=C.Qq
 unfold F8 at h
 have hm:(x,some j)∈N.zip cap:=by
  refine List.mem_iff_getElem?.mpr ⟨i,?_⟩
  rw[dy]
  exact⟨h1,h2⟩
 have:=List.all_eq_true.mp h _ hm
 simpa using this
theorem gH.tM {scX:Scope}{NX:List Str}{scope:Scope}{N:List Str}{own:Nat}(C:gH scX NX scope N own cap){i j:Nat}(hi:i<own)(h:cap[i]? = some (some j)):False:=by
 have hm:some j∈cap.take own:=by
  refine List.mem_iff_getElem?.mpr ⟨i,?_⟩
  rw[eT hi]
  exact h
 have:=List.all_eq_true.mp C.LF _ hm
 cases this
section
variable {X:Cx}{pins:List (Addr×Obj)}{σ:St}{H H3:Hp}{s s3:Shared}{scope:Scope}{N:List Str}{own:Nat}{cap:List (Option Nat)}{cl:List (Str×Addr)}{fp:List Addr}
theorem uf (I3:Inv X pins σ H3 s3)(C:gH X.env.scope X.N scope N own cap)(mi:∀ x c,cl.lookup x=some c->X.env.cells.lookup x=some c)(pK:∀ y∈scope.names,y.2 = .free->∃ c,cl.lookup y.1=some c)
  (hf:∀ b∈fp,nT X pins H3 b/\b<s3.heap.objs.size) {h4:Heap}{tk:Nat}{m4:Str->Option Value} (hn:h4.Ns s3.heap.objs.size m4) (hk:∀ b u,s3.heap.get? b=some u->h4.get? b=some u):
  Inv (fR X scope cl N fp s3 H3) [] (iY cap σ) H3 {s3 with heap:=h4,toks:=tk} :=by
 refine⟨⟨I3.ok.mod,C.kind,I3.ok.glob,I3.ok.blt,au _,λx y c e1 e2=>I3.ok.inj x y c (mi _ _ e1) (mi _ _ e2),λx hx=>?_,λx c h=>?_,I3.ok.hd,I3.ok.frames,.inl rfl,λb hb=>?_,
  I3.bs,bE I3.ok.bsz I3.sz,λb o e hb=>?_,λb hb hz=>?_,I3.stack,I3.v9⟩,rfl,I3.bare,Un.kept hk,⟨m4,hn,λi x v e1 e2 e3=>?_⟩,λx c e=>?_,I3.hok.fresh (au _),λx c e=>I3.kj x c (mi x c e),
  λp hp=>absurd (show p∈([]:List (Addr×Obj)) from hp) (by simp),I3.hok.kept hk,?_⟩
 ·obtain⟨y,hy,e,f⟩:=lg (env:=X.env) C.wV hx
  obtain⟨c,q⟩:=pK y hy f
  exact⟨c,by rw[<-e];exact q⟩
 ·exact absurd (show false=true from h) aF
 ·obtain⟨⟨f0,f1,f2,f3,f4,f5⟩,hlt⟩:=hf b hb
  exact⟨aS hlt,λx c e=>f4 x c (mi x c e)⟩
 ·obtain⟨⟨f0,f1,f2,f3,f4,f5⟩,hlt⟩:=hf b hb
  rcases f3 with z |z
  ·exact I3.ok.zG b o e z
  ·exact absurd (aY (aE e) (bE I3.ok.bsz z)) (dD _)
 ·obtain⟨⟨f0,f1,f2,f3,f4,f5⟩,hlt⟩:=hf b hb
  rcases aK.mp (I3.nZ b hz)with z |z
  ·exact f1 z
  ·exact f2 z
 ·obtain⟨j,c1,c2⟩:=pF e2
  obtain⟨d1,d2⟩:=C.at e1 c1
  have hk2:=C.fre (x,.free) (cy d2) rfl
  obtain⟨mX,hnX,hl⟩:=I3.loc
  obtain⟨u,r,l⟩:=hl j x v d1 c2 (.inr hk2)
  refine⟨u,r,?_⟩
  rcases l with⟨k,_⟩|⟨k,c,e,z⟩
  ·exfalso
   have k':X.env.scope.names.lookup x=some .local:=k
   rcases hk2 with q |q
   ·rw[k']at q;cases q
   ·rw[k']at q;cases q
  ·obtain⟨c',q⟩:=pK (x,.free) (cy d2) rfl
   have e':=mi x c' q
   rw[e]at e'
   cases e'
   obtain⟨o,ho,hd⟩:=z
   exact .inr ⟨lA (env:=X.env) d2,c,q,o,hk _ _ ho,hd⟩
 ·obtain⟨v,o,ho,hd⟩:=I3.cell x c (mi x c e)
  exact⟨v,o,hk _ _ ho,hd⟩
 ·rw[B0];exact C.len
theorem comp_back {tF:List (Addr×Obj)}{σ':St}{H':Hp}{s':Shared}(I3:Inv X pins σ H3 s3)(hf:∀ b∈fp,nT X pins H3 b)(I':Inv (fR X scope cl N fp s3 H3) tF σ' H' s'):Inv X pins σ H' s':=
 I3.F9 (ch:=fp) I'.os I'.base I'.hok I'.bare λb hb=>by
  obtain⟨f0,f1,f2,f3,f4,f5⟩:=hf b hb
  exact⟨f3,f1,f4,f5⟩
structure Apart (X:Cx)(pins:List (Addr×Obj))(C:Addr):Prop where
 loc:C≠X.env.locals
 new:X.s₀.heap.objs.size<=C
 cel:∀ x c,X.env.cells.lookup x=some c->c≠C
 pin:∀ p∈X.pn++pins,p.1≠C
theorem Inv.apart (I3:Inv X pins σ H3 s3):Apart X pins s3.heap.objs.size:=
 ⟨cT I3.lt,I3.sz,λx c e=>by obtain⟨v,o,ho,_⟩:=I3.cell x c e;exact aS (aE ho),λp hp=>aS (aE (I3.pin p hp).1)⟩
theorem pE {C:Addr}{h':Heap}(I:Inv X pins σ H s)(P:Apart X pins C)(hn:H C=none)(hs:Heap.SameBut C s.heap h'):Inv X pins σ H {s with heap:=h'} :=
 I.turned (t':=s.toks) (λb o hb e=>(hs.2 b hb).trans e) hn P.loc (.inr P.new) P.cel P.pin
end
structure sk (own:Nat)(g:TG):Prop where
 mono:∀ v σ H Q Q',(∀ σ' H',Q σ' H'->Q' σ' H')->g v σ H Q->g v σ H Q'
 own:∀ v σ H Q,g v σ H Q->g v σ H λσ' H'=>Q σ' H'/\σ'.length=σ.length/\∀ i,own<=i->σ'[i]? = σ[i]?
structure v5 (own:Nat)(g:TGs):Prop where
 mono:∀ v σ H Q Q',(∀ σ' H',Q σ' H'->Q' σ' H')->g v σ H Q->g v σ H Q'
 own:∀ v σ H Q,g v σ H Q->g v σ H λσ' H'=>Q σ' H'/\σ'.length=σ.length/\∀ i,own<=i->σ'[i]? = σ[i]?
theorem sk.name {own i:Nat}(h:i<own):sk own (oC i):=
 ⟨λv σ H Q Q' f q=>f _ _ q,λv σ H Q q=>⟨q,ez,λj hj=>eh (by omega)⟩⟩
theorem v5.nil {own:Nat} :v5 own Jx:=⟨λv σ H Q Q' f q=>⟨q.1,f _ _ q.2⟩,λv σ H Q q=>⟨q.1,q.2,rfl,λ_ _=>rfl⟩⟩
theorem v5.cons {own:Nat}{t:TG}{u:TGs}(h1:sk own t)(h2:v5 own u):v5 own (FX t u) where
 mono:=λv σ H Q Q' f ⟨x,r,e,q⟩=>⟨x,r,e,h1.mono _ _ _ _ _ (λσ' H' q=>h2.mono _ _ _ _ _ f q) q⟩
 own:=λv σ H Q ⟨x,r,e,q⟩=>⟨x,r,e,h1.mono _ _ _ _ _ (λσ1 H1 ⟨q,l1,o1⟩=>h2.mono _ _ _ _ _ (λσ2 H2 ⟨q,l2,o2⟩=>⟨q,l2.trans l1,λi hi=>(o2 i hi).trans (o1 i hi)⟩) (h2.own _ _ _ _ q)) (h1.own _ _ _ _ q)⟩
theorem sk.tup {own n:Nat}{K:PySem.W.Frag}{t:TGs}(h:v5 own t):sk own (Jw K n t) where
 mono:=λv σ H Q Q' f ⟨a,xs,e,q1,q2,q⟩=>⟨a,xs,e,q1,q2,h.mono _ _ _ _ _ f q⟩
 own:=λv σ H Q ⟨a,xs,e,q1,q2,q⟩=>⟨a,xs,e,q1,q2,h.own _ _ _ _ q⟩
def xt (X:Cx)(ifs:List Expr)(t:TT):Prop:=
 ∀ (pins:List (Addr×Obj)) (s:Shared) (σ:St) (H:Hp) (Q:Bool->Hp->Prop),Inv X pins σ H s->t σ H Q->wpAny (model X.prog X.w) X.A (sr ifs X.env) (TP X pins σ Q) X.xe s
def Ep:TT:=λ_ H Q=>Q true H
theorem iG {X:Cx} :xt X [] Ep:=λ_ _ _ H _ I h=>wpAny_tests_nil ⟨H,I,h⟩
theorem lY {X:Cx}{c:Expr}{t:TT}(h:PT X c t):xt X [c] t:=λpins s σ H Q I q=>wpAny_tests_one (h pins s σ H Q I q)
def LcW (J:It)(g:TG)(tt:TT)(te:TE)(cap:List (Option Nat))(σ:St)(Q:VK)(l:Addr)(H1:Hp):Prop:=
 ∃ W:Nat->Nat->List V->Hp->Prop,(∃ m,W 0 m [] (upd H1 l (.lst [])))/\∀ i m acc H,W i m acc H->
  (J.stop i H/\Q (.ref l) H)\/(J.go i H/\∃ N:List V->Hp->Prop,(∀ uW H',N uW H'->∃ m',m'<m/\W (i+1) m' uW H')/\
   ∀ x H',J.yld i H x H'->g x (iY cap σ) H' λσ2 H2=>tt σ2 H2 λb H3=>
    if b=true then te σ2 H3 λy H4=>H4 l=some (.lst acc)/\acc.length<sizeLine/\N (acc ++ [y]) (upd H4 l (.lst (acc ++ [y])))
    else N acc H3)
def tLC (wi:TI)(cap:List (Option Nat))(g:TG)(tt:TT)(te:TE):TE:=λσ H Q=>wi σ H λJ H1=>∀ l,H1 l=none->
 LcW J g tt te cap σ Q l H1
section
variable {X:Cx}{pins:List (Addr×Obj)}{σ:St}{H1:Hp}{s2:Shared}{scope:Scope}{N:List Str}{own:Nat}{cap:List (Option Nat)}{cl:List (Str×Addr)}{fp:List Addr}
 {tg iter elt:Expr}{ifs:List Expr}{pos:Pos}{g:TG}{tt:TT}{te:TE}{wi:TI}
theorem yO {it:Addr}{tn:Nat->Heap->Prop}{J:It}{Q:VK}{RR:Value->Addr->Result->Shared->Prop}{E:Value->Shared->Prop}(I:Inv X pins σ H1 s2)(T:Turn X.prog X.w X.K tg J fp it tn)(t0:tn 0 s2.heap)
  (f:∀ b∈fp,nT X pins H1 b) (hc:X.calm=true) (C:gH X.env.scope X.N scope N own cap) (ho:sk own g)
  (mi:∀ x c,cl.lookup x=some c->X.env.cells.lookup x=some c) (pK:∀ y∈scope.names,y.2 = .free->∃ c,cl.lookup y.1=some c)
  (hg:∀ s3 H3,PG (fR X scope cl N fp s3 H3) tg g) (ht:∀ s3 H3,xt (fR X scope cl N fp s3 H3) ifs tt) (he:∀ s3 H3,PE (fR X scope cl N fp s3 H3) elt te)
  (hw:∀ l,H1 l=none->LcW J g tt te cap σ Q l H1)
  (fin:∀ l C s' H' m',Inv X pins σ H' s'->s'.heap.Ns C m'->H' C=none->Apart X pins C->Q (.ref l) H'->RR (.ref l) C (.ok .next) s'):
  wpAny (model X.prog X.w) X.A (newList []) (λacc s₃=>wpAny (model X.prog X.w) X.A (newFunctionEnv scope X.env.globals cl [] X.env.qual none .none (some X.env)) (λyT s₄=>
   codeAny (model X.prog X.w) X.A (.compStart (.ListComp elt [⟨tg,iter,ifs,0⟩] scope pos) 0 (.ref it) acc {yT with scope:=relabel scope X.env}) (RR acc yT.locals) s₄) E s₃) E s2:=by
 refine cf (wpAny_newFunctionEnv C.wV (by intro y hy;simp at hy) (λh₁ mh mf=>?_) C.kind)
 dsimp only at mh mf ⊢
 obtain⟨W,⟨m0,w0⟩,turn⟩:=hw s2.heap.objs.size I.fresh
 have I3:Inv X pins σ (upd H1 s2.heap.objs.size (.lst [])) {s2 with heap:=s2.heap.push {cls:=.type "list",dict:=none,data:=.seq ([]:List Value).toArray}} :=I.Ha (ys:=[]) (its:=[]) (t':=s2.toks) .nil (aP _)
 generalize hs3:({s2 with heap:=s2.heap.push {cls:=.type "list",dict:=none,data:=.seq ([]:List Value).toArray}} :Shared)=s3 at I3
 have hh3:s3.heap=s2.heap.push {cls:=.type "list",dict:=none,data:=.seq ([]:List Value).toArray} :=by rw[<-hs3]
 rw[<-hh3]at mh mf ⊢
 have e4:({s2 with heap:=h₁,toks:=s2.toks+([]:List (Str×Value)).length} :Shared) = {s3 with heap:=h₁,toks:=s2.toks} :=by rw[<-hs3];rfl
 rw[e4]
 have k4:∀ b u,s3.heap.get? b=some u->h₁.get? b=some u:=λb u e=>mf.extBut b u (aS (aE e)) (aD _ e)
 have k3:∀ b u,s2.heap.get? b=some u->s3.heap.get? b=some u:=λb u e=>by rw[hh3];exact aD _ e
 have hb2:∀ b∈fp,b<s2.heap.objs.size:=λb hb=>by obtain⟨o,e,_⟩:=T.obj _ _ t0 b hb;exact aE e
 have f3:∀ b∈fp,nT X pins (upd H1 s2.heap.objs.size (.lst [])) b:=λb hb=>by
  obtain⟨f0,fr⟩:=f b hb
  exact⟨by rw[fm (aS (hb2 b hb))];exact f0,fr⟩
 have hb3:∀ b∈fp,b<s3.heap.objs.size:=λb hb=>by obtain⟨o,e,_⟩:=T.obj _ _ t0 b hb;exact aE (k3 b o e)
 have I4:=uf (tk:=s2.toks) I3 C mi pK (λb hb=>⟨f3 b hb,hb3 b hb⟩) mh k4
 generalize hH3:upd H1 s2.heap.objs.size (.lst [])=H3 at *
 have st4:tn 0 h₁:=T.keep _ _ _ t0 λb hb o e=>k4 b o (k3 b o e)
 have fpX:∀ {H':Hp},(∀ b∈fp,H' b=none)->∀ b∈fp,nT (fR X scope cl N fp s3 H3) [] H' b:=λ{H'} hn b hb=>by
  obtain⟨f0,f1,f2,f3',f4,f5⟩:=f3 b hb
  refine⟨hn b hb,aS (hb3 b hb),λhz=>?_,.inl hb,λx c e=>f4 x c (mi x c e),λp hp=>absurd (show p∈([]:List (Addr×Obj)) from hp) (by simp)⟩
  rcases aK.mp (I3.nZ b hz)with z |z
  ·exact f1 z
  ·exact f2 z
 have loop:codeAny (model X.prog X.w) X.A (.compLoop (.ListComp elt [⟨tg,iter,ifs,0⟩] scope pos) 0 (.ref it) (.ref s2.heap.objs.size) (compEnvC scope cl s3.heap.objs.size X.env)) (RR (.ref s2.heap.objs.size) s3.heap.objs.size) {s3 with heap:=h₁,toks:=s2.toks} :=by
  refine yP (λn s'=>∃ i acc H',Inv (fR X scope cl N fp s3 H3) [] (iY cap σ) H' s'/\tn i s'.heap/\(∀ b∈fp,H' b=none)/\W i n acc H') ?_ m0 ⟨0,[],H3,I4,st4,λb hb=>(f3 b hb).1,w0⟩
  rintro n s' ⟨i,acc,H',I',st,fr,w⟩
  rcases turn i n acc H' w with⟨stop,q⟩|⟨go,NN,hNN,step⟩
  ·refine thn (T.done (fR X scope cl N fp s3 H3) rfl rfl rfl hc i [] s' _ H' (λ_ _=>False) I' (fpX fr) st stop) λr s5 ⟨hr,I5⟩=>?_
   subst hr
   obtain⟨m5,hn5,_⟩:=id I5.loc
   exact fin _ _ s5 H' m5 (comp_back I3 f3 I5) hn5 I5.free (TL.Inv.apart I3) q
  ·refine thn (T.item (fR X scope cl N fp s3 H3) rfl rfl rfl hc i [] s' _ H' (λ_ _=>False) I' (fpX fr) st go) λr s5 ⟨u,hr,h5⟩=>?_
   subst hr
   refine thn h5 λ_ s6 ⟨x,H6,I6,r6,y6,st6,fr6⟩=>?_
   have I6':=I6.pinned (fpX fr6) (T.obj _ _ st6)
   refine thn (hg s3 H3 _ s6 _ H6 x u _ I6' r6 (ho.own _ _ _ _ (step x H6 y6))) λ_ s7 ⟨σ7,H7,I7,q7,l7,o7⟩=>?_
   have cov:∀ (i:Nat) v,(iY cap σ)[i]? = some (some v)->σ7[i]? = some (some v):=λi v e=>by
    obtain⟨j,c1,c2⟩:=pF e
    by_cases hi:i<own
    ·exact(C.tM hi c1).elim
    ·rw[o7 i (by omega)];exact e
   have back:∀ {H8:Hp}{s8:Shared},Inv (fR X scope cl N fp s3 H3) ([]++pW fp s6.heap) σ7 H8 s8->Inv (fR X scope cl N fp s3 H3) [] (iY cap σ) H8 s8/\tn (i+1) s8.heap/\∀ b∈fp,H8 b=none:=λ{H8 s8} I8=>by
    refine⟨(Inv.mR (pins:=[]) I8).weak l7.symm cov,T.keep _ _ _ st6 λb hb o e=>(I8.pin (b,o) (az _ (az _ (jx hb e)))).1,λb hb=>?_⟩
    obtain⟨o,e,d⟩:=T.obj _ _ st6 b hb
    exact(I8.pin (b,o) (az _ (az _ (jx hb e)))).2.1
   refine thn (ht s3 H3 _ s7 σ7 H7 _ I7 q7) λb s8 ⟨H8,I8,q8⟩=>?_
   cases b with
   |false=>
    rw[aH aF]at q8 ⊢
    obtain⟨m',hm,w8⟩:=hNN _ _ q8
    obtain⟨J1,J2,J3⟩:=back I8
    exact⟨m',hm,i+1,acc,H8,J1,J2,J3,w8⟩
   |true=>
    rw[aM rfl]at q8 ⊢
    refine thn (he s3 H3 _ s8 σ7 H8 _ I8 q8) λv s9 ⟨y,H9,I9,r9,ha,hz,n9⟩=>?_
    obtain⟨m',hm,w9⟩:=hNN _ _ n9
    refine thn (ip _ s9 σ7 H9 (.ref s2.heap.objs.size) [y] (.ref s2.heap.objs.size) [v] (λ_ H10=>W (i+1) m' (acc ++ [y]) H10) I9 rfl (.cons r9 .nil) ⟨_,acc,y,rfl,rfl,ha,hz,w9⟩) λ_ s10 ⟨_,H10,I10,_,w10⟩=>?_
    obtain⟨J1,J2,J3⟩:=back I10
    exact⟨m',hm,i+1,acc ++ [y],H10,J1,J2,J3,w10⟩
 exact codeAny_compStart_list loop (T.self X.A 0 _ _ _ st4 loop)
theorem nV (hi:PI X tg iter wi)(hc:X.calm=true)(C:gH X.env.scope X.N scope N own cap)(ho:sk own g)
  (hg:∀ cl fp s3 H3,PG (fR X scope cl N fp s3 H3) tg g) (ht:∀ cl fp s3 H3,xt (fR X scope cl N fp s3 H3) ifs tt) (he:∀ cl fp s3 H3,PE (fR X scope cl N fp s3 H3) elt te)
  (hs:∀ x,foldedSetIterable iter X.env x=pure x:=by intro _;rfl):PE X (.ListComp elt [⟨tg,iter,ifs,0⟩] scope pos) (tLC wi cap g tt te):=by
 intro pins s σ H Q I h
 obtain⟨cl,ecl,mi,pK⟩:=nO (scope:=scope) (env:=X.env) λy hy hf=>I.ok.has y.1 (C.fre y hy hf)
 rw[eval_ListComp]
 refine dN (use:=none) rfl hs ecl C.kind C.loc (thn (hi pins s σ H _ I h) λxv s1 h1=>thn h1 λitv s2 h2=>?_)
 obtain⟨it,fp,tn,J,H2,e,I2,T,st2,f2,hw⟩:=h2
 subst e
 refine yO (RR:=λacc C=>compPost (model X.prog X.w) X.A X.xe none (EP X pins σ Q) acc C) I2 T st2 f2 hc C ho mi pK (hg cl fp) (ht cl fp) (he cl fp) hw λl Ca s' H' m' I' hn pQ hP q=>?_
 exact⟨m',hn,λh'' zP=>⟨.ref l,H',pE I' hP pQ zP,rfl,q⟩⟩
theorem rQ {i:Nat}{x:Str}{pos' Cq:Pos}(hN:X.N.Nodup)(hi':X.N[i]? = some x)(hx:X.env.scope.names.lookup x=some .local)(hi:PI X tg iter wi)(hc:X.calm=true)(C:gH X.env.scope X.N scope N own cap)(ho:sk own g)
  (hg:∀ cl fp s3 H3,PG (fR X scope cl N fp s3 H3) tg g) (ht:∀ cl fp s3 H3,xt (fR X scope cl N fp s3 H3) ifs tt) (he:∀ cl fp s3 H3,PE (fR X scope cl N fp s3 H3) elt te)
  (hsw:swapsWith (.ListComp elt [⟨tg,iter,ifs,0⟩] scope pos) (some (.Name x pos')) Cq.line X.env=pure true:=by rfl)
  (hs:∀ x,foldedSetIterable iter X.env x=pure x:=by intro _;rfl):PS X (.Assign [.Name x pos'] (.ListComp elt [⟨tg,iter,ifs,0⟩] scope pos) Cq) (Ci (tLC wi cap g tt te) (oC i)):=by
 intro pins s σ H D I h
 obtain⟨cl,ecl,mi,pK⟩:=nO (scope:=scope) (env:=X.env) λy hy hf=>I.ok.has y.1 (C.fre y hy hf)
 rw[exec_Assign_Name_used _ _ _ _ hsw]
 refine ae (cF (ae ?_))
 show wpAny _ X.A (do let _ <-comprehension (.ListComp elt [⟨tg,iter,ifs,0⟩] scope pos) scope X.env _ (newList []) false (eval iter X.env) (some (assign (.Name x pos') X.env))) _ _ s
 refine ae (bq (dN (use:=some (assign (.Name x pos') X.env)) (Q:=λ_ s'=>SP X pins D .next s') rfl hs ecl C.kind C.loc
  (thn (hi pins s σ H _ I h) λxv s1 h1=>thn h1 λitv s2 h2=>?_)) (λ_ s' hq=>aq (aq hq)) λ_ _ e=>e)
 obtain⟨it,fp,tn,J,H2,e,I2,T,st2,f2,hw⟩:=h2
 subst e
 refine yO (RR:=λacc C=>compPost (model X.prog X.w) X.A X.xe (some (assign (.Name x pos') X.env)) (λ_ s'=>SP X pins D .next s') acc C) I2 T st2 f2 hc C ho mi pK (hg cl fp) (ht cl fp) (he cl fp) hw λl Ca s' H' m' I' hn pQ hP q=>?_
 show wpAny _ X.A (assign (.Name x pos') X.env (.ref l)) _ _ _
 refine wpAny_assign_Name (qP I' hN hi' (.inl hx) (v:=.ref l) rfl (λs5 I5 ⟨a,sb,ha⟩=>?_) (.inr hx))
 have hne:Ca≠a:=by
  rcases ha with z |z
  ·rw[z];exact hP.loc
  ·exact λe=>hP.cel x a z e.symm
 refine⟨m',hn.sameBut sb hne,λh'' zP=>⟨_,H',pE I5 hP pQ zP,q⟩⟩
end
section
variable {K:PySem.W.Frag}{a l:Addr}{xs:List V}{g:TG}{tt:TT}{te:TE}{cap:List (Option Nat)}{σ:St}{Q:VK}{H1:Hp}
theorem E3 (Pv:Nat->List V->Hp->Prop)(h0:Pv 0 [] (upd H1 l (.lst [])))(hl:∀ i acc H,i<=xs.length->Pv i acc H->SqL K H a xs)
  (hs:∀ i x acc H,xs[i]? = some x->Pv i acc H->g x (iY cap σ) H λσ2 H2=>tt σ2 H2 λb H3=>
    if b=true then te σ2 H3 λy H4=>H4 l=some (.lst acc)/\acc.length<sizeLine/\Pv (i+1) (acc ++ [y]) (upd H4 l (.lst (acc ++ [y])))
    else Pv (i+1) acc H3) (hd:∀ acc H,Pv xs.length acc H->Q (.ref l) H):LcW (Itl K a) g tt te cap σ Q l H1:=by
 refine⟨λi m acc H=>m=xs.length-i/\i<=xs.length/\Pv i acc H,⟨xs.length,by simp,aP _,h0⟩,?_⟩
 rintro i m acc H ⟨rfl,hi,p⟩
 have q:=hl i acc H hi p
 by_cases hlt:i<xs.length
 ·refine .inr ⟨⟨xs,xs[i],q,by simp[hlt]⟩,Pv (i+1),λuW H' p'=>⟨xs.length-(i+1),by omega,rfl,hlt,p'⟩,λx H' y=>?_⟩
  obtain⟨e,y⟩:=y
  subst e
  exact hs i x acc _ (y xs q) p
 ·have e:i=xs.length:=by omega
  subst e
  exact .inl ⟨⟨xs,q,au _⟩,hd acc H p⟩
theorem fb {H:Hp}{l:Addr}{o:HO}(hn:H l=none):fu H (upd H l o):=λb u e=>by rw[fm (fw e hn)];exact e
theorem lJ {α:Type}(ds:List α)(p:α->Bool)(f:α->V)(hn:H1 l=none)(hx:SqL K H1 a xs)(hlen:xs.length=ds.length)(hz:xs.length<sizeLine)
  (hs:∀ (i:Nat) x d H,xs[i]? = some x->ds[i]? = some d->fu H1 H->∀ (P1:VK) (P0:Hp->Prop),(p d=true->P1 (f d) H)->(p d=false->P0 H)->
   g x (iY cap σ) H λσ2 H2=>tt σ2 H2 λb H3=>if b=true then te σ2 H3 P1 else P0 H3)
  (hq:Q (.ref l) (upd H1 l (.lst ((ds.filter p).map f)))):LcW (Itl K a) g tt te cap σ Q l H1:=by
 refine E3 (λi acc H=>acc=((ds.take i).filter p).map f/\H=upd H1 l (.lst acc)) ⟨rfl,rfl⟩ (λi acc H _ ⟨_,e⟩=>by rw[e];exact(fb hn).seq hx) ?_ ?_
 ·rintro i x acc H hi ⟨e1,e2⟩
  have hlt:i<xs.length:=(af.mp hi).1
  have hd:ds[i]? = some (ds[i]'(by omega)):=by simp
  generalize ds[i]'(by omega)=d at hd
  have step:((ds.take (i+1)).filter p).map f=acc++(if p d=true then[f d]else[]):=by
   rw[take_succ_filter p ds i d hd,aw,e1]
   cases p d<;>rfl
  refine hs i x d H hi hd (by rw[e2];exact fb hn) _ _ (λhp=>?_) (λhp=>?_)
  ·refine⟨by rw[e2,fg],?_,?_,?_⟩
   ·have h1:acc.length<=i:=by
     rw[e1,aa]
     exact bE (bN _ _) (by rw[bg];omega)
    omega
   ·rw[step,hp];rfl
   ·rw[e2,qh]
  ·refine⟨?_,e2⟩
   rw[step,hp,aH aF,cY]
 ·rintro acc H ⟨e1,e2⟩
  rw[hlen,bf]at e1
  rw[e2,e1]
  exact hq
end
mutual
def Dg (L T:Addr->List V->Prop):PyData->V->Prop
 |.none,v=>v = .non
 |.bool b,v=>v = .bl b
 |.int i,v=>v = .int i
 |.str x,v=>v = .str x
 |.list ds,v=>∃ a vs,v = .ref a/\L a vs/\Dgs L T ds vs
 |.tuple ds,v=>∃ a vs,v = .ref a/\T a vs/\Dgs L T ds vs
 |.dict _,_=>False
def Dgs (L T:Addr->List V->Prop):List PyData->List V->Prop
 |[],vs=>vs = []
 |d::ds,vs=>∃ v r,vs=v::r/\Dg L T d v/\Dgs L T ds r
end
mutual
theorem Dg.mono {L T L' T':Addr->List V->Prop}(hL:∀ a vs,L a vs->L' a vs)(hT:∀ a vs,T a vs->T' a vs):∀ {d:PyData}{v:V},Dg L T d v->Dg L' T' d v
 |.none,_,h=>by simpa only[Dg]using h
 |.bool _,_,h=>by simpa only[Dg]using h
 |.int _,_,h=>by simpa only[Dg]using h
 |.str _,_,h=>by simpa only[Dg]using h
 |.list ds,_,h=>by
  simp only[Dg]at h ⊢
  obtain⟨a,vs,e,l,q⟩:=h
  exact⟨a,vs,e,hL a vs l,Dgs.mono hL hT q⟩
 |.tuple ds,_,h=>by
  simp only[Dg]at h ⊢
  obtain⟨a,vs,e,l,q⟩:=h
  exact⟨a,vs,e,hT a vs l,Dgs.mono hL hT q⟩
 |.dict _,_,h=>by simp only[Dg]at h
theorem Dgs.mono {L T L' T':Addr->List V->Prop}(hL:∀ a vs,L a vs->L' a vs)(hT:∀ a vs,T a vs->T' a vs):∀ {ds:List PyData}{vs:List V},Dgs L T ds vs->Dgs L' T' ds vs
 |[],_,h=>by simpa only[Dgs]using h
 |d::ds,_,h=>by
  simp only[Dgs]at h ⊢
  obtain⟨v,r,e,l,q⟩:=h
  exact⟨v,r,e,Dg.mono hL hT l,Dgs.mono hL hT q⟩
end
section
variable {L T:Addr->List V->Prop}
theorem gX {i:Int}{v:V} :Dg L T (.int i) v↔v = .int i:=by simp only[Dg]
theorem rm {i:Str}{v:V} :Dg L T (.str i) v↔v = .str i:=by simp only[Dg]
theorem i7 {ds:List PyData}{v:V} :Dg L T (.list ds) v↔∃ a vs,v = .ref a/\L a vs/\Dgs L T ds vs:=by simp only[Dg]
theorem gR {ds:List PyData}{v:V} :Dg L T (.tuple ds) v↔∃ a vs,v = .ref a/\T a vs/\Dgs L T ds vs:=by simp only[Dg]
theorem gw {vs:List V} :Dgs L T [] vs↔vs = []:=by simp only[Dgs]
theorem fO {d:PyData}{ds:List PyData}{vs:List V} :Dgs L T (d::ds) vs↔∃ v r,vs=v::r/\Dg L T d v/\Dgs L T ds r:=by simp only[Dgs]
theorem Dgs.length:∀ {ds:List PyData}{vs:List V},Dgs L T ds vs->vs.length=ds.length
 |[],_,h=>by rw[gw.mp h];rfl
 |d::ds,_,h=>by
  obtain⟨v,r,rfl,_,q⟩:=fO.mp h
  rw[aO,aO,Dgs.length q]
theorem nj:∀ {ns:List Int}{vs:List V},Dgs L T (ns.map .int) vs↔vs=ns.map V.int
 |[],vs=>gw
 |n::ns,vs=>by
  rw[aN,fO]
  constructor
  ·rintro⟨v,r,rfl,h1,h2⟩
   rw[gX.mp h1,nj.mp h2];rfl
  ·rintro rfl
   exact⟨_,_,rfl,gX.mpr rfl,nj.mpr rfl⟩
theorem Dgs.append:∀ {ds es:List PyData}{vs us:List V},Dgs L T ds vs->Dgs L T es us->Dgs L T (ds++es) (vs++us)
 |[],_,_,_,h,k=>by rw[gw.mp h];exact k
 |d::ds,_,_,_,h,k=>by
  obtain⟨v,r,rfl,h1,q⟩:=fO.mp h
  exact fO.mpr ⟨v,_,rfl,h1,Dgs.append q k⟩
theorem Dgs.one {d:PyData}{v:V}(h:Dg L T d v):Dgs L T [d] [v]:=fO.mpr ⟨v,[],rfl,h,gw.mpr rfl⟩
theorem Dgs.two {d e:PyData}{v u:V}(h:Dg L T d v)(k:Dg L T e u):Dgs L T [d,e] [v,u]:=fO.mpr ⟨v,[u],rfl,h,.one k⟩
theorem Dgs.get:∀ {ds:List PyData}{vs:List V}{i:Nat}{v:V},Dgs L T ds vs->vs[i]? = some v->∃ d,ds[i]? = some d/\Dg L T d v
 |[],_,_,_,h,e=>by rw[gw.mp h]at e;simp at e
 |d::ds,_,0,v,h,e=>by
  obtain⟨x,r,rfl,h1,q⟩:=fO.mp h
  simp at e;subst e
  exact⟨d,rfl,h1⟩
 |d::ds,_,i+1,v,h,e=>by
  obtain⟨x,r,rfl,h1,q⟩:=fO.mp h
  obtain⟨d',e1,e2⟩:=Dgs.get (i:=i) (v:=v) q (by simpa using e)
  exact⟨d',by simpa using e1,e2⟩
theorem Dgs.insert:∀ {ds:List PyData}{vs:List V} (i:Nat) {d:PyData}{v:V},Dgs L T ds vs->Dg L T d v->Dgs L T (ds.take i++d::ds.drop i) (vs.take i++v::vs.drop i)
 |ds,vs,0,d,v,h,k=>fO.mpr ⟨v,vs,by simp,k,by simpa using h⟩
 |[],vs,i+1,d,v,h,k=>by rw[gw.mp h];simpa using Dgs.one k
 |x::ds,vs,i+1,d,v,h,k=>by
  obtain⟨y,r,rfl,h1,q⟩:=fO.mp h
  exact fO.mpr ⟨y,_,rfl,h1,Dgs.insert i q k⟩
end
abbrev Da (K:PySem.W.Frag)(H:Hp):PyData->V->Prop:=Dg (SqL K H) (SqT K H)
abbrev Das (K:PySem.W.Frag)(H:Hp):List PyData->List V->Prop:=Dgs (SqL K H) (SqT K H)
theorem gi {K:PySem.W.Frag}{H H':Hp}{a:Addr}{xs:List V}(e:fu H H')(h:SqT K H a xs):SqT K H' a xs:=by
 rcases h with(h |⟨o,h⟩)|h
 ·exact .inl (.inl (e _ _ h))
 ·exact .inl (.inr ⟨o,e _ _ h⟩)
 ·exact .inr h
theorem Da.same {K:PySem.W.Frag}{H H':Hp}(e:fu H H'){d:PyData}{v:V}(h:Da K H d v):Da K H' d v:=Dg.mono (λ_ _ q=>e.seq q) (λ_ _ q=>gi e q) h
theorem Das.same {K:PySem.W.Frag}{H H':Hp}(e:fu H H'){d:List PyData}{v:List V}(h:Das K H d v):Das K H' d v:=Dgs.mono (λ_ _ q=>e.seq q) (λ_ _ q=>gi e q) h
section
variable {X:Cx}{pins:List (Addr×Obj)}{σ:St}{H:Hp}{s:Shared}
mutual
theorem Da.reads (I:Inv X pins σ H s):∀ {d:PyData}{v:V}{u:Value},Da X.K H d v->RelV v u->∃ as,Reads s.heap u d as
 |.none,v,u,h,r=>by
  have e:v = .non:=by simpa only[Dg]using h
  subst e;cases r;exact⟨_,.none⟩
 |.bool b,v,u,h,r=>by
  have e:v = .bl b:=by simpa only[Dg]using h
  subst e;cases r;exact⟨_,.bool b⟩
 |.int i,v,u,h,r=>by
  have e:v = .int i:=by simpa only[Dg]using h
  subst e;obtain⟨t,rfl⟩:=r;exact⟨_,.int i t⟩
 |.str i,v,u,h,r=>by
  have e:v = .str i:=by simpa only[Dg]using h
  subst e;obtain⟨t,rfl⟩:=r;exact⟨_,.str i t⟩
 |.list ds,v,u,h,r=>by
  obtain⟨a,vs,rfl,l,q⟩:=i7.mp h
  cases r
  obtain⟨its,rv,p,hz⟩:=I.list l
  obtain⟨as,rs⟩:=Das.reads I q rv
  obtain⟨o,ho,hc,n,hd⟩:=p.isList
  exact⟨_,.list ho hc hd (by simpa using rs)⟩
 |.tuple ds,v,u,h,r=>by
  obtain⟨a,vs,rfl,l,q⟩:=gR.mp h
  cases r
  obtain⟨its,rv,p,hz⟩:=I.tuple l
  obtain⟨as,rs⟩:=Das.reads I q rv
  obtain⟨o,ho,hc,n,hd⟩:=p
  exact⟨_,.tuple ho hc hd (by simpa using rs)⟩
 |.dict _,v,u,h,r=>by simp only[Dg]at h
theorem Das.reads (I:Inv X pins σ H s):∀ {ds:List PyData}{vs:List V}{us:List Value},Das X.K H ds vs->Vals vs us->∃ as,ReadsAll s.heap us ds as
 |[],vs,us,h,r=>by
  rw[gw.mp h]at r;cases r;exact⟨_,.nil⟩
 |d::ds,vs,us,h,r=>by
  obtain⟨v,w,rfl,h1,q⟩:=fO.mp h
  cases r with
  |cons r1 r2=>
   obtain⟨as,e1⟩:=Da.reads I h1 r1
   obtain⟨bs,e2⟩:=Das.reads I q r2
   exact⟨_,.cons e1 e2⟩
end
end
section
variable {X:Cx}
def OkD (d:PyData):Prop:=d.canLay0=true/\d.depth<=20
def K2 (K:PySem.W.Frag):R2:=λx y H Q=>∃ d e,Da K H d x/\Da K H e y/\OkD d/\OkD e/\Q (.bl (PyData.eqv d e)) H
def KZ (K:PySem.W.Frag):R2:=λx y H Q=>∃ d e,Da K H d x/\Da K H e y/\OkD d/\OkD e/\Q (.bl (!PyData.eqv d e)) H
theorem CU (hu:X.A.units+64<cLine):OpR X (compareOp .Eq) (K2 X.K):=by
 intro pins s σ H x y v u Q I rx ry h
 obtain⟨d,e,h1,h2,o1,o2,q⟩:=h
 obtain⟨as,r1⟩:=Da.reads I h1 rx
 obtain⟨bs,r2⟩:=Da.reads I h2 ry
 exact SeqAt.compareEq_reads r1 r2 o1.1 o2.1 (by have:=o1.2;have:=o2.2;omega) ⟨.bl _,H,I,rfl,q⟩
theorem GN (hu:X.A.units+64<cLine):OpR X (compareOp .NotEq) (KZ X.K):=by
 intro pins s σ H x y v u Q I rx ry h
 obtain⟨d,e,h1,h2,o1,o2,q⟩:=h
 obtain⟨as,r1⟩:=Da.reads I h1 rx
 obtain⟨bs,r2⟩:=Da.reads I h2 ry
 exact SeqAt.compareNe_reads r1 r2 o1.1 o2.1 (by have:=o1.2;have:=o2.2;omega) ⟨.bl _,H,I,rfl,q⟩
def D7 (ds:List PyData):Prop:=PyData.canLayAll0 ds=true/\PyData.depthAll ds<=20
def EB (K:PySem.W.Frag)(neg:Bool):R2:=λx y H Q=>∃ ds d,Da K H (.list ds) y/\Da K H d x/\D7 ds/\OkD d/\Q (.bl (if neg then !(ds.any λz=>PyData.eqv z d)else ds.any λz=>PyData.eqv z d)) H
theorem GO (hu:X.A.units+64<cLine):OpR X (compareOp .In) (EB X.K false):=by
 intro pins s σ H x y v u Q I rx ry h
 obtain⟨ds,d,h1,h2,o1,o2,q⟩:=h
 obtain⟨as,r1⟩:=Da.reads I h1 ry
 obtain⟨bs,r2⟩:=Da.reads I h2 rx
 exact SeqAt.in_list_reads r1 r2 o1.1 o2.1 (by have:=o1.2;have:=o2.2;omega) ⟨.bl _,H,I,rfl,q⟩
theorem kG (hu:X.A.units+64<cLine):OpR X (compareOp .NotIn) (EB X.K true):=by
 intro pins s σ H x y v u Q I rx ry h
 obtain⟨ds,d,h1,h2,o1,o2,q⟩:=h
 obtain⟨as,r1⟩:=Da.reads I h1 ry
 obtain⟨bs,r2⟩:=Da.reads I h2 rx
 exact SeqAt.notIn_list_reads r1 r2 o1.1 o2.1 (by have:=o1.2;have:=o2.2;omega) ⟨.bl _,H,I,rfl,q⟩
end
theorem iU {α:Type}{f:α->PyData}(h:∀ x,(f x).canLay0=true):∀ l:List α,PyData.canLayAll0 (l.map f)=true
 |[]=>by simp[PyData.canLayAll0]
 |x::l=>by simp[PyData.canLayAll0,h x,iU h l]
theorem iA {α:Type}{f:α->PyData}{k:Nat}(h:∀ x,(f x).depth<=k):∀ l:List α,PyData.depthAll (l.map f)<=k
 |[]=>by simp[PyData.depthAll]
 |x::l=>by
  simp only[aN,PyData.depthAll]
  exact Nat.max_le.mpr ⟨h x,iA h l⟩
def dI (ns:List Int):PyData:=.list (ns.map .int)
def dP (p:Int×Int):PyData:=.tuple [.int p.1,.int p.2]
def dJ (js:List (Int×Int)):PyData:=.list (js.map dP)
def dL (l:Int×List (Int×Int)):PyData:=.tuple [.int l.1,dJ l.2]
theorem qy (i:Int):OkD (.int i):=⟨rfl,by simp[PyData.depth]⟩
theorem l0 (ns:List Int):OkD (dI ns):=⟨by simp only[dI,PyData.canLay0];exact iU (λ_=>rfl) ns,by
 simp only[dI,PyData.depth]
 have:=iA (f:=PyData.int) (k:=0) (λ_=>by simp[PyData.depth]) ns
 omega⟩
theorem yW (p:Int×Int):(dP p).canLay0=true:=by simp[dP,PyData.canLay0,PyData.canLayAll0]
theorem A1 (p:Int×Int):(dP p).depth<=1:=by simp[dP,PyData.depth,PyData.depthAll]
theorem IP (p:Int×Int):OkD (dP p):=⟨yW p,by have:=A1 p;omega⟩
theorem GS (js:List (Int×Int)):D7 (js.map dP):=⟨iU yW js,by have:=iA A1 js;omega⟩
theorem F1 (p q:Int×Int):PyData.eqv (dP p) (dP q)=decide (p=q):=by
 obtain⟨a,b⟩:=p
 obtain⟨c,d⟩:=q
 simp only[dP,PyData.eqv,PyData.eqvAll,Bool.and_true]
 rw[bP]
 simp
theorem JM (js:List (Int×Int))(p:Int×Int):((js.map dP).any λz=>PyData.eqv z (dP p))=decide (p∈js):=by
 rw[List.any_map,bP,ed,cg]
 constructor
 ·rintro⟨x,hx,e⟩
  have e':PyData.eqv (dP x) (dP p)=true:=e
  rw[F1,cg]at e'
  rw[<-e'];exact hx
 ·intro h
  exact⟨p,h,by show PyData.eqv (dP p) (dP p)=true;rw[F1];simp⟩
theorem xj (ds:List PyData):PyData.eqv (.list ds) (.list [])=ds.isEmpty:=by
 cases ds<;>simp[PyData.eqv,PyData.eqvAll]
theorem EU:OkD (.list []):=l0 []
section
variable {X:Cx}
theorem E7 (its:List Value)(k:Nat)(y:Value):(its.toArray.extract 0 k).push y++its.toArray.extract k=(its.take k++y::its.drop k).toArray:=PySem.W.kl_ins_eq its k y
def Ez:V->List V->Hp->VK->Prop:=λx vs H Q=>∃ l xs i y,x = .ref l/\vs = [.int i,y]/\H l=some (.lst xs)/\0<=i/\i<=xs.length/\xs.length<sizeLine/\Q .non (upd H l (.lst (xs.take i.toNat++y::xs.drop i.toNat)))
theorem vP:MtM X "list.insert" Ez:=by
 intro pins s σ H x vs v us Q I rx rv h
 obtain⟨l,xs,i,y,rfl,rfl,hH,h0,h1,hz,q⟩:=h
 cases rx
 obtain⟨ui,u,rfl,ri,ru⟩:=rv.two
 obtain⟨t,rfl⟩:=ri
 obtain⟨z,its,n,r,hl,e⟩:=I.uS hH
 have hs:its.toArray.size<=sizeLine:=by rw[aI];omega
 have hf:Builtin.List.listFitsIndex i=true:=by
  unfold Builtin.List.listFitsIndex
  have h63:(sizeLine:Nat)<2 ^ 62:=by rw[dB];decide
  simp only[eY,decide_eq_true_eq]
  constructor<;>omega
 refine eI eR ⟨_,e,rfl⟩ PySem.F.entry_list_insert (PySem.F.args_list_insert_3 _ _ _) (PySem.AutoSeq1.list_insert_list_int_val_1 l its.toArray n i t u (by simp[hf]) hs) ⟨e,?_⟩
 refine⟨.non,_,I.EZ (its':=its.take i.toNat++u::its.drop i.toNat) (ys:=xs.take i.toNat++y::xs.drop i.toNat) hH e ?_ ((r.take i.toNat).append (.cons ru (r.drop i.toNat))) ?_,rfl,q⟩
 ·have hk:(if i<0 then(i+(its.toArray.size:Int)).toNat else min i.toNat its.toArray.size)=i.toNat:=by
   rw[aH (by omega),aI]
   omega
  show(its.toArray.extract 0 (if i<0 then(i+(its.toArray.size:Int)).toNat else min i.toNat its.toArray.size)).push u++its.toArray.extract (if i<0 then(i+(its.toArray.size:Int)).toNat else min i.toNat its.toArray.size)=_
  rw[hk,E7]
 ·rw[ah,aO,bg,bS]
  omega
end
def srt (ns:List Int):List Int:=ns.mergeSort (λa b=>decide (a<=b))
theorem og (ns:List Int):(srt ns).Perm ns:=List.mergeSort_perm ns _
theorem sP (ns:List Int):(srt ns).Pairwise (· <= ·):=by
 have h:=List.pairwise_mergeSort (le:=λa b:Int=>decide (a<=b)) (by intro a b c h1 h2;simp only[decide_eq_true_eq]at *;omega) (by intro a b;simp only[Bool.or_eq_true,decide_eq_true_eq];omega) ns
 exact h.imp (by intro a b h;simpa using h)
theorem zo {a b:List Int}(hp:a.Perm b)(ha:a.Pairwise (· <= ·))(hb:b.Pairwise (· <= ·)):a=b:=PySem.W.ksm_same hp ha hb
theorem Co {a ns:List Int}(hp:a.Perm ns)(ha:a.Pairwise (· <= ·)):a=srt ns:=zo (hp.trans (og ns).symm) ha (sP ns)
theorem Bh {a b:List Int}(hp:a.Perm b):srt a=srt b:=Co ((og a).trans hp) (sP a)
theorem Eu {ns:List Int}{x:Int} :x∈srt ns↔x∈ns:=(og ns).mem_iff
theorem nF (ns:List Int):(srt ns).length=ns.length:=(og ns).length_eq
section
variable {X:Cx}
theorem rW:mF X (.builtin "sorted") (λxs H Q=>∃ a ns,xs = [.ref a]/\SqL X.K H a (ns.map V.int)/\ns.length<64/\∀ p,H p=none->Q (.ref p) (upd H p (.lst ((srt ns).map V.int)))):=by
 intro pins s σ H xs us Q I r h
 obtain⟨a,ns,rfl,hx,h64,q⟩:=h
 obtain⟨u,rfl,ru⟩:=vals1 r
 cases ru
 obtain⟨its,rv,p,hz⟩:=I.list hx
 have hlen:=rv.length
 rw[aa]at hlen
 refine sorted_ints p.isList (intsAre_of rv) (by omega) λout ns' h1 h2 h3=>?_
 obtain⟨e,he⟩:=sortedAll_at s.heap its out
 have e':ns'=srt ns:=Co h2 h3
 subst e'
 have vo:Vals ((srt ns).map V.int) out.toList:=qM h1
 refine⟨.ref (s.heap.objs.size+1),_,I.laid (t':=s.toks) (o:=.lst ((srt ns).map V.int)) (λb ob q=>sortedAll_old q) (Nat.le_succ _) ⟨?_,out.toList,e,vo,?_⟩,rfl,q _ (I.hok.fresh (Nat.le_succ _))⟩
 ·rw[aa,nF]
  rw[aa]at hz
  exact hz
 ·rw[he,Array.toArray_toList]
end
theorem Inv.qN {X:Cx}{pins:List (Addr×Obj)}{σ:St}{H:Hp}{s:Shared}{h':Heap}{t':Nat}{ch:List Addr}{xs:List V}{us:List Value}(I:Inv X pins σ H s)(hf:∀ b∈ch,nT X pins H b)
  (keep:∀ b o,b∉ch->s.heap.get? b=some o->h'.get? b=some o) (r:Vals xs us) (hz:xs.length<=sizeLine) (ht:h'.get? s.heap.objs.size=some {cls:=.type "tuple",data:=.seq us.toArray}):
  Inv X pins σ (upd H s.heap.objs.size (.tup xs)) {s with heap:=h',toks:=t'} :=by
 have hn:H s.heap.objs.size=none:=I.fresh
 have nch:∀ b u,H b=some u->b∉ch:=λb u q z=>by rw[(hf b z).1]at q;cases q
 refine I.step (g':=s.gens) (d':=s.drawn) (ch:=ch) (λb hb=>?_) (λb o _ _ hc q _=>keep b o hc q) (λb o _ _ hc q _=>⟨o.slots,keep b o hc q⟩) (λb o _ q n=>?_)
  (λb o hc q=>⟨o,keep b o hc q⟩) (λb ys q=>by rw[fm (fw q hn)];exact q) (λb o ys q=>by rw[fm (fw q hn)];exact q) (λb ps q=>⟨#[],by rw[fm (fw q hn),q];simp⟩) (λm hm=>?_) (λb u q=>?_) I.bare
 ·obtain⟨f0,f1,f2,f3,f4,f5⟩:=hf b hb
  exact⟨f3,f1,f4,f5⟩
 ·rw[fm (aS (aE q))];exact n
 ·obtain⟨o,es,ep,ho,r⟩:=hm
  exact⟨o,es,ep,keep _ o (λz=>(hf _ z).2.1 rfl) ho,r⟩
 ·by_cases hb:b=s.heap.objs.size
  ·subst hb
   rw[fg]at q
   cases q
   exact⟨hz,us,r,⟨_,ht,rfl,_,rfl⟩⟩
  ·rw[fm hb]at q
   refine(I.hok b u q).lD (λc v hc q'=>keep c v ?_ q') (λc z=>by rw[fm (fw z hn)];exact z) λc ys z=>by rw[fm (fw z hn)];exact z
   rcases hc with z |z
   ·rw[z];exact nch b u q
   ·exact nch c _ z
def Ite (K:PySem.W.Frag)(a:Addr):It:=
 ⟨λi H=>∃ xs x,SqL K H a xs/\xs[i]? = some x,λi H x H'=>∃ p,H p=none/\x = .ref p/\∀ xs y,SqL K H a xs->xs[i]? = some y->H'=upd H p (.tup [.int i,y]),λi H=>∃ xs,SqL K H a xs/\xs.length<=i⟩
theorem Be {P:Program}{w:World}{K:PySem.W.Frag}{es:List Expr}{x1:Nat}{pt:Pos}(a e it:Addr)(hne:e≠it):
  Turn P w K (.Tuple es x1 pt) (Ite K a) [e,it] e (λi h=>∃ old,IsEnum h e it i old/\h.IsListIter it a i) where
 mem:=by simp
 obj:=λi h st b hb=>by
  obtain⟨old,h1,h2⟩:=st
  rcases aK.mp hb with z |z
  ·subst z;exact⟨_,h1,λv z=>by cases z⟩
  ·have z:b=it:=by simpa using z
   subst z
   obtain⟨o,ho,c,d⟩:=h2
   exact⟨o,ho,λv z=>by rw[d]at z;cases z⟩
 keep:=λi h h' ⟨old,h1,h2⟩ k=>⟨old,k e (by simp) _ h1,h2.at λo q=>k it (by simp) o q⟩
 item:=by
  intro X hP hw hK hc i pins s σ H E I hf st hg
  subst hP hw hK
  obtain⟨old,h1,h2⟩:=st
  obtain⟨xs,x,hq,hx⟩:=hg
  obtain⟨its,rv,p,hz⟩:=I.list hq
  obtain⟨u,hu,ru⟩:=rv.get hx
  have lt1:e<s.heap.objs.size:=aE h1
  refine wpAny_pyNext_enum_item h1 h2 p.isList (x:=u) (by simpa using hu) hne λh' k1 k2 k3 k4 k5=>?_
  refine⟨_,rfl,?_⟩
  refine wpAny_letOwnedTupleGo_enum (s:={s with heap:=h',toks:=s.toks+1}) k1 λh'' m1 m2=>?_
  have keep:∀ b o,b∉ [e,it]->s.heap.get? b=some o->h''.get? b=some o:=λb o hb q=>m2.extBut b o (λz=>hb (by simp[z])) (k5 b o (λz=>hb (by simp[z])) (λz=>hb (by simp[z])) q)
  have ht:h''.get? s.heap.objs.size=some {cls:=.type "tuple",data:=.seq [Value.int i s.toks,u].toArray} :=m2.extBut _ _ (cT lt1) k3
  have J1:Inv X pins σ (upd H s.heap.objs.size (.tup [.int i,x])) {s with heap:=h'',toks:=s.toks+1} :=Inv.qN I hf keep (.cons ⟨_,rfl⟩ (.cons ru .nil)) (by show 2<=sizeLine;decide) ht
  have hn:H s.heap.objs.size=none:=I.fresh
  refine⟨.ref s.heap.objs.size,_,J1,rfl,⟨_,hn,rfl,λys y hy h=>?_⟩,⟨u,?_,?_⟩,λb hb=>?_⟩
  ·have e1:=I.m8 hy hq
   subst e1
   rw[hx]at h
   cases h
   rfl
  ·have e1:((i+1:Nat):Int)=(i:Int)+1:=by omega
   rw[e1];exact m1
  ·exact k2.extBut m2.extBut (bF hne)
  ·obtain⟨o,q,_⟩:∃ o,s.heap.get? b=some o/\True:=by
    rcases aK.mp hb with z |z
    ·subst z;exact⟨_,h1,trivial⟩
    ·have z:b=it:=by simpa using z
     subst z
     obtain⟨o,ho,_⟩:=h2
     exact⟨o,ho,trivial⟩
   rw[fm (aS (aE q))]
   exact(hf b hb).1
 done:=by
  intro X hP hw hK hc i pins s σ H E I hf st hg
  subst hP hw hK
  obtain⟨old,h1,h2⟩:=st
  obtain⟨xs,hq,hx⟩:=hg
  obtain⟨its,rv,p,hz⟩:=I.list hq
  obtain⟨g0,g1,g2,g3,g4,g5⟩:=hf it (by simp)
  have hl:=rv.length
  exact wpAny_pyNext_enum_end (I.ok.hd hc) h1 h2 p.isList (by simp;omega) λh' eb=>⟨rfl,I.turned (t':=s.toks) (λb o hb e=>eb b o hb e) g0 g1 g3 g4 g5⟩
 self:=λ_ _ _ _ _ ⟨old,h1,h2⟩ h=>wpAny_pyIter_enum h1 h
section
variable {X:Cx}
def Jd (K:PySem.W.Frag)(ta:TA):TI:=λσ H R=>ta σ H λvs H1=>∃ a,vs = [.ref a]/\(∃ xs,SqL K H1 a xs)/\R (Ite K a) H1
theorem EJ {a:Expr}{ta:TA}{p pos:Pos}{es:List Expr}{x1:Nat}{pt:Pos}(hg:Gl X "enumerate")(hm:X.mg "enumerate" = none)(ha:PA X [a] ta)(hs:starEach [a] X.env = [(false,eval a X.env)]:=by rfl):PI X (.Tuple es x1 pt) (.Call (.Name "enumerate" p) [a] [] pos) (Jd X.K ta):=by
 intro pins s σ H R I h
 refine Call_ (oz I hg hm boot_enumerate (bT (thn (ha pos pins s σ H _ I h) λus s1 ⟨vs,H1,I1,r1,q1⟩=>?_) hs rfl))
 obtain⟨a,e,⟨xs,hq⟩,q⟩:=q1
 subst e
 obtain⟨u,rfl,ru⟩:=vals1 r1
 cases ru
 obtain⟨its,rv,pl,hz⟩:=I1.list hq
 refine call_enumerate_list pl.isList λh' k1 k2 k3 k4=>?_
 refine wpAny_pyIter_enum (s:={s1 with heap:=h'}) k1 ?_
 refine⟨s1.heap.objs.size+1,[s1.heap.objs.size+1,s1.heap.objs.size],_,_,H1,rfl,I1.kept (t':=s1.toks) k4,Be a _ _ (Nat.succ_ne_self _),⟨.none,k1,k2⟩,λb hb=>?_,q⟩
 have hb':s1.heap.objs.size<=b:=by
  rcases aK.mp hb with z |z
  ·rw[z];exact Nat.le_succ _
  ·have z:b=s1.heap.objs.size:=by simpa using z
   rw[z];exact au _
 exact I1.zW hb' (I1.hok.fresh hb')
end
theorem DC {K:PySem.W.Frag}{a:Addr}{xs:List V}{g:TG}{tb:TS}{D:Ends}{σ:St}{H:Hp}(Pv:Nat->St->Hp->Prop)(h0:Pv 0 σ H)(hl:∀ i σ H,i<=xs.length->Pv i σ H->SqL K H a xs)
  (hs:∀ i x σ H p,xs[i]? = some x->Pv i σ H->H p=none->g (.ref p) σ (upd H p (.tup [.int i,x])) λσ2 H2=>tb {D with nx:=Pv (i+1),ct:=Pv (i+1),bk:=D.nx} σ2 H2) (hd:∀ σ H,Pv xs.length σ H->D.nx σ H):
  ∃ W:Nat->Nat->St->Hp->Prop,(∃ m,W 0 m σ H)/\∀ i m σ H,W i m σ H->
   ((Ite K a).stop i H/\D.nx σ H)\/((Ite K a).go i H/\∃ N:St->Hp->Prop,(∀ σ' H',N σ' H'->∃ m',m'<m/\W (i+1) m' σ' H')/\∀ x H',(Ite K a).yld i H x H'->g x σ H' λσ2 H2=>tb {D with nx:=N,ct:=N,bk:=D.nx} σ2 H2):=by
 refine⟨λi m σ H=>m=xs.length-i/\i<=xs.length/\Pv i σ H,⟨xs.length,by simp,aP _,h0⟩,?_⟩
 rintro i m σ H ⟨rfl,hi,p⟩
 have q:=hl i σ H hi p
 by_cases hlt:i<xs.length
 ·refine .inr ⟨⟨xs,xs[i],q,by simp[hlt]⟩,Pv (i+1),λσ' H' p'=>⟨xs.length-(i+1),by omega,rfl,hlt,p'⟩,λx H' y=>?_⟩
  obtain⟨pa,hp,e,y⟩:=y
  subst e
  have hx:xs[i]? = some xs[i]:=by simp[hlt]
  rw[y xs _ q hx]
  exact hs i _ σ H pa hx p hp
 ·have e:i=xs.length:=by omega
  subst e
  exact .inl ⟨⟨xs,q,au _⟩,hd σ H p⟩
def Itv (K:PySem.W.Frag)(a:Addr):It:=
 ⟨λi H=>∃ xs x,SqL K H a xs/\xs.reverse[i]? = some x,λi H x H'=>H'=H/\∀ xs,SqL K H a xs->xs.reverse[i]? = some x,λi H=>∃ xs,SqL K H a xs/\xs.length=i⟩
theorem Cg {P:Program}{w:World}{K:PySem.W.Frag}{tg:Expr}(a it:Addr)(n:Nat):Turn P w K tg ⟨λi H=>(Itv K a).go i H/\∃ xs,SqL K H a xs/\xs.length=n,(Itv K a).yld,λi H=>i=n⟩ [it] it (λi h=>i<=n/\h.IsRevIter it a ((n:Int)-1-(i:Int))) where
 mem:=by simp
 obj:=λi h st b hb=>by
  have e:b=it:=by simpa using hb
  subst e
  obtain⟨_,o,e,c,d⟩:=st
  exact⟨o,e,λv z=>by rw[d]at z;cases z⟩
 keep:=λi h h' st k=>⟨st.1,st.2.at λo e=>k it (by simp) o e⟩
 item:=by
  intro X hP hw hK hc i pins s σ H E I hf st hg
  subst hP hw hK
  obtain⟨⟨xs,x,hq,hx⟩,ys,hq2,hn⟩:=hg
  have e0:=I.m8 hq2 hq
  subst e0
  obtain⟨its,rv,p,hz⟩:=I.list hq
  have hil:i<ys.length:=by have:=(af.mp hx).1;rwa [cA]at this
  have hx':ys[ys.length-1-i]? = some x:=by rw[List.getElem?_reverse hil]at hx;exact hx
  obtain⟨u,hu,ru⟩:=rv.get hx'
  obtain⟨f0,f1,f2,f3,f4,f5⟩:=hf it (by simp)
  have e1:(n:Int)-1-(i:Int)=((ys.length-1-i:Nat):Int):=by omega
  have st2:=st.2
  rw[e1]at st2
  refine wpAny_pyNext_rev_item st2 p.isList (x:=u) (by simpa using hu) λh' st' sb=>?_
  have I1:Inv X pins σ H {s with heap:=h'} :=I.turned (t':=s.toks) (λb o hb e=>(sb.2 b hb).trans e) f0 f1 f3 f4 f5
  have e2:((ys.length-1-i:Nat):Int)-1=(n:Int)-1-((i+1:Nat):Int):=by omega
  rw[e2]at st'
  obtain⟨o,e,c,d⟩:=id st'
  exact⟨u,rfl,DA (s:={s with heap:=h'}) e c d (by decide) ⟨x,H,I1,ru,⟨rfl,λzs hy=>by rw[I.m8 hy hq];exact hx⟩,⟨by omega,st'⟩,λb hb=>(hf b hb).1⟩⟩
 done:=by
  intro X hP hw hK hc i pins s σ H E I hf st hg
  subst hP hw hK
  have hg:i=n:=hg
  subst hg
  obtain⟨f0,f1,f2,f3,f4,f5⟩:=hf it (by simp)
  have e1:(i:Int)-1-(i:Int) = -1:=by omega
  have st2:=st.2
  rw[e1]at st2
  exact wpAny_pyNext_rev_end (I.ok.hd hc) st2 λh' eb=>⟨rfl,I.turned (t':=s.toks) (λb o hb e=>eb b o hb e) f0 f1 f3 f4 f5⟩
 self:=λ_ _ _ _ _ st h=>wpAny_pyIter_revIter st.2 h
section
variable {X:Cx}{tg:Expr}
def NP (K:PySem.W.Frag)(ta:TA):TI:=λσ H R=>ta σ H λvs H1=>∃ a xs,vs = [.ref a]/\SqL K H1 a xs/\R ⟨λi H=>(Itv K a).go i H/\∃ ys,SqL K H a ys/\ys.length=xs.length,(Itv K a).yld,λi H=>i=xs.length⟩ H1
theorem GC {a:Expr}{ta:TA}{p pos:Pos}(hg:Gl X "reversed")(hm:X.mg "reversed" = none)(ha:PA X [a] ta)(hs:starEach [a] X.env = [(false,eval a X.env)]:=by rfl):PI X tg (.Call (.Name "reversed" p) [a] [] pos) (NP X.K ta):=by
 intro pins s σ H R I h
 refine Call_ (oz I hg hm boot_reversed (bT (thn (ha pos pins s σ H _ I h) λus s1 ⟨vs,H1,I1,r1,q1⟩=>?_) hs rfl))
 obtain⟨a,xs,e,hq,q⟩:=q1
 subst e
 obtain⟨u,rfl,ru⟩:=vals1 r1
 cases ru
 obtain⟨its,rv,pl,hz⟩:=I1.list hq
 have hl:=rv.length
 refine call_reversed_list pl.isList ?_
 have hit:Heap.IsRevIter (s1.heap.push (revObj a ((its.toArray.size:Int)-1))) s1.heap.objs.size a (((xs.length:Nat):Int)-1-((0:Nat):Int)):=by
  refine⟨_,aT _ rfl,rfl,?_⟩
  have e1:((xs.length:Nat):Int)-1-((0:Nat):Int)=(its.toArray.size:Int)-1:=by rw[aI];omega
  rw[e1];rfl
 refine wpAny_pyIter_revIter (s:={s1 with heap:=s1.heap.push (revObj a ((its.toArray.size:Int)-1))}) hit ?_
 refine⟨s1.heap.objs.size,[s1.heap.objs.size],_,_,H1,rfl,I1.kept (t':=s1.toks) (λb o e=>aD _ e),Cg a _ xs.length,⟨aP _,hit⟩,λb hb=>?_,q⟩
 have e:b=s1.heap.objs.size:=by simpa using hb
 subst e
 exact I1.zW (au _) (I1.hok.fresh (au _))
end
structure Bl (mg:Str->Option Value):Prop where
 len:mg "len" = none
 range:mg "range" = none
 sorted:mg "sorted" = none
 enumerate:mg "enumerate" = none
 reversed:mg "reversed" = none
 min:mg "min" = none
 max:mg "max" = none
 list:mg "list" = none
 int:mg "int" = none
 isinstance:mg "isinstance" = none
structure Fn (K:PySem.W.Frag)(mg:Str->Option Value)(x:Str)(st:Stmt)(ps:List Str)(f:Addr)(fd:FuncData):Prop where
 F:Fun K x x st f fd
 m:mg x=some (.ref f)
 b:Binds K fd ps []
def below (js:List (Int×Int))(e:Int):List Int:=(js.filter λp=>decide (p.2=e)).map (·.1)
def above (js:List (Int×Int))(e:Int):List Int:=(js.filter λp=>decide (p.1=e)).map (·.2)
def inc (js:List (Int×Int))(e:Int):Nat:=(below js e).length+(above js e).length
def jn (js:List (Int×Int))(e:Int):List Int:=srt (below js e++above js e)
theorem IZ (js:List (Int×Int))(e:Int):srt (above js e++below js e)=jn js e:=Bh List.perm_append_comm
structure fG (l:Int×List (Int×Int)):Prop where
 one:1<=l.1
 most:l.1<=40
 len:l.2.length<=80
 inc:∀ e,inc l.2 e<=60
 ends:∀ p∈l.2,0<=p.1/\p.1<=p.2/\p.2<2*l.1
theorem inc_le (js:List (Int×Int))(e:Int):inc js e<=2*js.length:=by
 unfold inc below above
 rw[aa,aa]
 have h1:=bN (λp:Int×Int=>decide (p.2=e)) js
 have h2:=bN (λp:Int×Int=>decide (p.1=e)) js
 omega
def qJ (H:Hp)(ns:List Int)(Q:VK):Prop:=∀ (p:Addr) (H':Hp),fu H H'->H p=none->H' p=some (.lst (ns.map V.int))->Q (.ref p) H'
theorem fu.upd {H H':Hp}{l:Addr}{o:HO}(s:fu H H')(hn:H l=none):fu H (upd H' l o):=λb u e=>by rw[fm (fw e hn)];exact s b u e
theorem jq {K:PySem.W.Frag}{H:Hp}{ns:List Int}{v:V} :Da K H (dI ns) v↔∃ a,v = .ref a/\SqL K H a (ns.map V.int):=by
 unfold dI
 refine Iff.trans i7 ?_
 constructor
 ·rintro⟨a,vs,rfl,h,q⟩
  rw[nj.mp q]at h
  exact⟨a,rfl,h⟩
 ·rintro⟨a,rfl,h⟩
  exact⟨a,_,rfl,h,nj.mpr rfl⟩
theorem gD {K:PySem.W.Frag}{H:Hp}{ns:List Int}{p:Addr}(h:H p=some (.lst (ns.map V.int))):Da K H (dI ns) (.ref p):=jq.mpr ⟨p,rfl,SqL.of h⟩
theorem lK {K:PySem.W.Frag}{H:Hp}{l:Int×List (Int×Int)}{v:V}(h:Da K H (dL l) v):∃ a b,v = .ref a/\SqT K H a [.int l.1,.ref b]/\∃ vs,SqL K H b vs/\Das K H (l.2.map dP) vs:=by
 unfold dL at h
 obtain⟨a,vs,rfl,ht,q⟩:=gR.mp h
 obtain⟨v1,r,rfl,h1,q⟩:=fO.mp q
 obtain⟨v2,r,rfl,h2,q⟩:=fO.mp q
 cases gw.mp q
 cases gX.mp h1
 unfold dJ at h2
 obtain⟨b,us,rfl,hl,q⟩:=i7.mp h2
 exact⟨a,b,rfl,ht,us,hl,q⟩
theorem nk {K:PySem.W.Frag}{H:Hp}{js:List (Int×Int)}{vs:List V}{i:Nat}{x:V}(h:Das K H (js.map dP) vs)(e:vs[i]? = some x):∃ a p,js[i]? = some p/\x = .ref a/\SqT K H a [.int p.1,.int p.2]:=by
 obtain⟨d,e1,hd⟩:=Dgs.get h e
 rw[ao]at e1
 cases q:js[i]? with
 |none=>rw[q]at e1;cases e1
 |some p=>
  rw[q]at e1
  cases e1
  unfold dP at hd
  obtain⟨a,us,rfl,ht,q⟩:=gR.mp hd
  obtain⟨v1,r,rfl,h1,q⟩:=fO.mp q
  obtain⟨v2,r,rfl,h2,q⟩:=fO.mp q
  cases gw.mp q
  cases gX.mp h1
  cases gX.mp h2
  exact⟨a,p,rfl,rfl,ht⟩
theorem tU (ms:List Int):D7 (ms.map PyData.int):=⟨iU (λ_=>rfl) ms,by have:=iA (f:=PyData.int) (k:=0) (λ_=>by simp[PyData.depth]) ms;omega⟩
theorem za (ms:List Int)(x:Int):((ms.map PyData.int).any λz=>PyData.eqv z (.int x))=decide (x∈ms):=by
 rw[List.any_map,bP,ed,cg]
 constructor
 ·rintro⟨y,hy,e⟩
  have e':PyData.eqv (.int y) (.int x)=true:=e
  simp only[PyData.eqv,beq_iff_eq]at e'
  rw[<-e'];exact hy
 ·intro h
  exact⟨x,h,by show PyData.eqv (.int x) (.int x)=true;simp[PyData.eqv]⟩
theorem B5 {σ:St}{H:Hp}{A B:Hp->Prop}(h:A H):Ep σ H (λb H3=>if b=true then A H3 else B H3):=yu (A:=A H) (B:=B H) h
theorem jw {i:Nat}{x:V}{σ:St}{H:Hp}{te:TE}{P1:VK}{P0:Hp->Prop}(h:te (σ.set i (some x)) H P1):oC i x σ H (λσ2 H2=>Ep σ2 H2 λb H3=>if b=true then te σ2 H3 P1 else P0 H3):=yu (A:=te (σ.set i (some x)) H P1) (B:=P0 H) h
theorem lP {α:Type}(xs:List α):(xs.filter λ_=>true)=xs:=by simp
section
variable {X:Cx}{K:PySem.W.Frag}
theorem EN (hK:X.K=K)(hu:X.A.units+64<cLine):OpR X (compareOp .In) (EB K false):=hK ▸ GO hu
theorem tN (hK:X.K=K)(hu:X.A.units+64<cLine):OpR X (compareOp .NotIn) (EB K true):=hK ▸ kG hu
end
structure JS (J:It)(n:Nat)(H1:Hp)(it:Nat->V->Prop):Prop where
 go:∀ i H,fu H1 H->i<n->J.go i H
 yld:∀ i H x H',fu H1 H->i<n->J.yld i H x H'->H'=H/\it i x
 stop:∀ H,fu H1 H->J.stop n H
theorem mB {K:PySem.W.Frag}{a:Addr}{xs:List V}{H1:Hp}(hx:SqL K H1 a xs):JS (Itl K a) xs.length H1 (λi x=>xs[i]? = some x):=
 ⟨λi H s hi=>⟨xs,xs[i],s.seq hx,by simp⟩,λi H x H' s hi y=>⟨y.1,y.2 xs (s.seq hx)⟩,λH s=>⟨xs,s.seq hx,au _⟩⟩
theorem Hg {K:PySem.W.Frag}{a:Addr}{xs:List V}{H1:Hp}(hx:SqL K H1 a xs):JS ⟨λi H=>(Itv K a).go i H/\∃ ys,SqL K H a ys/\ys.length=xs.length,(Itv K a).yld,λi H=>i=xs.length⟩ xs.length H1 (λi x=>xs.reverse[i]? = some x):=
 ⟨λi H s hi=>⟨⟨xs,xs.reverse[i]'(by rw[cA];exact hi),s.seq hx,ag _⟩,xs,s.seq hx,rfl⟩,λi H x H' s hi y=>⟨y.1,y.2 xs (s.seq hx)⟩,λH s=>rfl⟩
theorem t8 {lo:Int}{n:Nat}{H1:Hp} :JS (Itr lo n) n H1 (λi x=>x = .int (lo+i)):=
 ⟨λi H s hi=>hi,λi H x H' s hi y=>y,λH s=>au _⟩
theorem yr {α:Type}{J:It}{n:Nat}{it:Nat->V->Prop}{l:Addr}{g:TG}{tt:TT}{te:TE}{cap:List (Option Nat)}{σ:St}{Q:VK}{H1:Hp}(S:JS J n H1 it)(ds:List α)(p:α->Bool)(f:α->V)(hn:H1 l=none)(hlen:n=ds.length)(hz:n<sizeLine)
  (hs:∀ (i:Nat) x d H,it i x->ds[i]? = some d->fu H1 H->∀ (P1:VK) (P0:Hp->Prop),(p d=true->P1 (f d) H)->(p d=false->P0 H)->
   g x (iY cap σ) H λσ2 H2=>tt σ2 H2 λb H3=>if b=true then te σ2 H3 P1 else P0 H3)
  (hq:Q (.ref l) (upd H1 l (.lst ((ds.filter p).map f)))):LcW J g tt te cap σ Q l H1:=by
 refine⟨λi m acc H=>m=n-i/\i<=n/\acc=((ds.take i).filter p).map f/\H=upd H1 l (.lst acc),⟨n,by simp,aP _,rfl,rfl⟩,?_⟩
 rintro i m acc H ⟨rfl,hi,e1,e2⟩
 have sm:fu H1 H:=by rw[e2];exact fb hn
 by_cases hlt:i<n
 ·refine .inr ⟨S.go i H sm hlt,λuW H'=>uW=((ds.take (i+1)).filter p).map f/\H'=upd H1 l (.lst uW),λuW H' ⟨p1,p2⟩=>⟨n-(i+1),by omega,rfl,hlt,p1,p2⟩,λx H' y0=>?_⟩
  obtain⟨e,y⟩:=S.yld i H x H' sm hlt y0
  clear y0
  subst e
  have hd:ds[i]? = some (ds[i]'(by omega)):=by simp
  generalize ds[i]'(by omega)=d at hd
  have step:((ds.take (i+1)).filter p).map f=acc++(if p d=true then[f d]else[]):=by
   rw[take_succ_filter p ds i d hd,aw,e1]
   cases p d<;>rfl
  refine hs i x d H' y hd sm _ _ (λhp=>?_) (λhp=>?_)
  ·refine⟨by rw[e2,fg],?_,?_,?_⟩
   ·have h1:acc.length<=i:=by
     rw[e1,aa]
     exact bE (bN _ _) (by rw[bg];omega)
    omega
   ·rw[step,hp];rfl
   ·rw[e2,qh]
  ·refine⟨?_,e2⟩
   rw[step,hp,aH aF,cY]
 ·have e:i=n:=by omega
  subst e
  refine .inl ⟨S.stop H sm,?_⟩
  rw[hlen,bf]at e1
  rw[e2,e1]
  exact hq
abbrev Mv:=(Str×Int)×List Int
def dMv (m:Mv):PyData:=.tuple [.tuple [.str m.1.1,.int m.1.2],dI m.2]
def fr (l:Int×List (Int×Int))(ns:List Int)(e:Int):List Int:=(jn l.2 e).filter λt=> !decide (t/2∈ns.map (· / 2))
def onM (ns:List Int)(e:Int):Mv:=(("on",e),ns.drop 1 ++ [e])
def ll (ns:List Int)(e:Int):Mv:=(("back",e),oth e::ns.dropLast)
def mvs (l:Int×List (Int×Int))(ns:List Int):List Mv:=(fr l ns (oth (ns.getLastD 0))).map (onM ns)++(fr l ns (ns.headD 0)).map (ll ns)
def Lf (H H2:Hp)(t:Addr):Addr->List V->Prop:=λa us=>H2 a=some (.lst us)/\H a=none/\a≠t
theorem lE {K:PySem.W.Frag}{H:Hp}{t b:Addr}{vs xs:List V}{o:HO}(ht:H t=some (.lst vs))(h:SqT K H b xs):SqT K (upd H t o) b xs:=by
 rcases h with(h |⟨o,h⟩)|h
 ·exact .inl (.inl (by rw[fm (fU h ht (by intro z;cases z))];exact h))
 ·exact .inl (.inr ⟨o,by rw[fm (fU h ht (by intro z;cases z))];exact h⟩)
 ·exact .inr h
theorem Dgs.grow {K:PySem.W.Frag}{H H2 H5:Hp}{t:Addr}{o:HO}{vs:List V}{ds:List PyData}{us:List V}(D:Dgs (Lf H H2 t) (SqT K H2) ds us)(S5:fu H2 H5)(ht:H5 t=some (.lst vs)):
  Dgs (Lf H (upd H5 t o) t) (SqT K (upd H5 t o)) ds us:=
 Dgs.mono (λa us ⟨h1,h2,h3⟩=>⟨by rw[fm h3];exact S5 _ _ h1,h2,h3⟩) (λa us h=>lE ht (gi S5 h)) D
theorem o8 {K:PySem.W.Frag}{H H2 H5:Hp}{t p1 p4 p5:Addr}{vs:List V}{ms:List Mv}{w:Str}{e:Int}{xs:List Int}(S:fu H H2)(hn:H t=none)(ht:H2 t=some (.lst vs))(D:Dgs (Lf H H2 t) (SqT K H2) (ms.map dMv) vs)
  (S5:fu H2 H5) (h1:H5 p1=some (.tup [.str w,.int e])) (n4:H2 p4=none) (h4:H5 p4=some (.lst (xs.map V.int))) (h5:H5 p5=some (.tup [.ref p1,.ref p4])):
  fu H (upd H5 t (.lst (vs ++ [.ref p5])))/\(upd H5 t (.lst (vs ++ [.ref p5]))) t=some (.lst (vs ++ [.ref p5]))/\
   Dgs (Lf H (upd H5 t (.lst (vs ++ [.ref p5]))) t) (SqT K (upd H5 t (.lst (vs ++ [.ref p5])))) ((ms ++ [((w,e),xs)]).map dMv) (vs ++ [.ref p5]):=by
 have ht5:=S5 _ _ ht
 have q4:p4≠t:=(fw ht n4).symm
 refine⟨fu.upd (S.trans S5) hn,fg,?_⟩
 rw[aw]
 refine Dgs.append (D.grow S5 ht5) (Dgs.one ?_)
 refine gR.mpr ⟨p5,_,rfl,lE ht5 (SqT.of h5),Dgs.two ?_ ?_⟩
 ·exact gR.mpr ⟨p1,_,rfl,lE ht5 (SqT.of h1),Dgs.two (rm.mpr rfl) (gX.mpr rfl)⟩
 ·exact i7.mpr ⟨p4,_,rfl,⟨by rw[fm q4];exact h4,fu.free S n4,q4⟩,nj.mpr rfl⟩
def Ec (K:PySem.W.Frag)(H:Hp)(ms:List Mv)(Q:VK):Prop:=∀ (p:Addr) (vs:List V) (H':Hp),fu H H'->H p=none->H' p=some (.lst vs)->Dgs (Lf H H' p) (SqT K H') (ms.map dMv) vs->Q (.ref p) H'
theorem uz (ns:List Int):pL (ns.map V.int) (some 1) none=(ns.drop 1).map V.int:=by
 unfold pL
 rw[HT.tj]
 have e:HT.sIx (ns.map V.int).length 0 (some 1)=min 1 (ns.map V.int).length:=HT.Au _ _ 1
 rw[e,aa,eS]
 cases ns with
 |nil=>rfl
 |cons a r=>
  have e1:min 1 (a::r).length=1:=by simp
  rw[e1]
  simp
  exact bX (by simp)
theorem yM (ns:List Int):pL (ns.map V.int) none (some (-1))=ns.dropLast.map V.int:=by
 unfold pL
 have e:HT.sIx (ns.map V.int).length (ns.map V.int).length (some (-1))=ns.length-1:=by
  have h:=HT.Fw (-1) (ns.map V.int).length (ns.map V.int).length
  rw[aa]at h ⊢
  rw[aM (by decide)]at h
  omega
 rw[e,HT.tj,List.drop_zero,Nat.sub_zero,<-List.map_take,List.dropLast_eq_take]
theorem xq {ns:List Int}(h:ns≠ []):atI (ns.map V.int) (-1)=some (V.int (ns.getLastD 0)):=by
 obtain⟨r,x,rfl⟩:∃ r x,ns=r ++ [x]:=⟨ns.dropLast,ns.getLast h,(bL h).symm⟩
 rw[aw]
 show atI (r.map V.int ++ [V.int x]) (-1)=_
 rw[y4]
 have e:(r ++ [x]).getLastD 0=x:=by simp[bc]
 rw[e]
theorem yZ {ns:List Int}(h:ns≠ []):atI (ns.map V.int) 0=some (V.int (ns.headD 0)):=by
 cases ns with
 |nil=>exact absurd rfl h
 |cons a r=>exact ko (j:=0) rfl
abbrev NoL:Addr->List V->Prop:=λ_ _=>False
abbrev Ps (K:PySem.W.Frag)(H:Hp)(js:List (Int×Int))(vs:List V):Prop:=Dgs NoL (SqT K H) (js.map dP) vs
theorem Ps.same {K:PySem.W.Frag}{H H':Hp}{js:List (Int×Int)}{vs:List V}(D:Ps K H js vs)(S:fu H H'):Ps K H' js vs:=Dgs.mono (λ_ _ h=>h) (λ_ _ h=>gi S h) D
theorem Ps.HX {K:PySem.W.Frag}{H:Hp}{js:List (Int×Int)}{vs us:List V}{t:Addr}{o:HO}(D:Ps K H js vs)(ht:H t=some (.lst us)):Ps K (upd H t o) js vs:=Dgs.mono (λ_ _ h=>h) (λ_ _ h=>lE ht h) D
theorem Ps.das {K:PySem.W.Frag}{H:Hp}{js:List (Int×Int)}{vs:List V}(D:Ps K H js vs):Das K H (js.map dP) vs:=Dgs.mono (λ_ _ h=>h.elim) (λ_ _ h=>h) D
theorem Ps.da {K:PySem.W.Frag}{H:Hp}{js:List (Int×Int)}{vs:List V}{t:Addr}(D:Ps K H js vs)(ht:H t=some (.lst vs)):Da K H (dJ js) (.ref t):=i7.mpr ⟨t,vs,rfl,SqL.of ht,D.das⟩
theorem Ps.len {K:PySem.W.Frag}{H:Hp}{js:List (Int×Int)}{vs:List V}(D:Ps K H js vs):vs.length=js.length:=by rw[D.length,aa]
theorem AD {K:PySem.W.Frag}{H:Hp}{p:Addr}{x:Int×Int}(h:H p=some (.tup [.int x.1,.int x.2])):Dg NoL (SqT K H) (dP x) (.ref p):=gR.mpr ⟨p,_,rfl,SqT.of h,Dgs.two (gX.mpr rfl) (gX.mpr rfl)⟩
theorem Ps.push {K:PySem.W.Frag}{H:Hp}{js:List (Int×Int)}{vs:List V}{t p:Addr}{x:Int×Int}{o:HO}(D:Ps K H js vs)(ht:H t=some (.lst vs))(hp:H p=some (.tup [.int x.1,.int x.2])):Ps K (upd H t o) (js ++ [x]) (vs ++ [.ref p]):=by
 show Dgs _ _ ((js ++ [x]).map dP) _
 rw[aw]
 exact(D.HX ht).append (.one (Dg.mono (λ_ _ h=>h) (λ_ _ h=>lE ht h) (AD hp)))
theorem Ps.ins {K:PySem.W.Frag}{H:Hp}{js:List (Int×Int)}{vs:List V}{t p:Addr}{x:Int×Int}{o:HO}(i:Nat)(D:Ps K H js vs)(ht:H t=some (.lst vs))(hp:H p=some (.tup [.int x.1,.int x.2])):Ps K (upd H t o) (js.take i++x::js.drop i) (vs.take i ++ .ref p::vs.drop i):=by
 show Dgs _ _ ((js.take i++x::js.drop i).map dP) _
 rw[aw,aN,List.map_take,eS]
 exact Dgs.insert i (D.HX ht) (Dg.mono (λ_ _ h=>h) (λ_ _ h=>lE ht h) (AD hp))
theorem rq {K:PySem.W.Frag}{H:Hp}{l:Int×List (Int×Int)}{p t:Addr}(h:H p=some (.tup [.int l.1,.ref t]))(hd:Da K H (dJ l.2) (.ref t)):Da K H (dL l) (.ref p):=gR.mpr ⟨p,_,rfl,SqT.of h,Dgs.two (gX.mpr rfl) hd⟩
theorem yd {α:Type}(l:List α)(i:Nat)(x:α):(l.take i++x::l.drop i).Perm (x::l):=by
 have h:=List.perm_middle (a:=x) (l₁:=l.take i) (l₂:=l.drop i)
 rw[dZ]at h
 exact h
theorem zI (i j:Int):(if j<i then j else i)=min i j:=by omega
theorem zJ (i j:Int):(if j>i then j else i)=max i j:=by omega
theorem xr {ns:List Int}{i:Int}(h0:0<=i)(h1:i<ns.length):∃ x,ns[i.toNat]? = some x/\x∈ns/\atI (ns.map V.int) i=some (V.int x):=by
 have hlt:i.toNat<ns.length:=by omega
 refine⟨ns[i.toNat],by simp,List.getElem_mem _,?_⟩
 have h:=ko (xs:=ns.map V.int) (j:=i.toNat) (v:=V.int ns[i.toNat]) (by rw[ao];simp)
 have e1:((i.toNat:Nat):Int)=i:=by omega
 rw[e1]at h
 exact h
end TL
namespace L2
open PySem PySem.Spec PySem.Calls PyProof.Rows PySem.W
variable {Q:Unit->Shared->Prop}
section
variable {prog:Program}{w:World}{A:Around}{E:Value->Shared->Prop}{s:Shared}{K:Frag}{a C:Addr}{o:Obj}
theorem xty {M:Model}{h:Heap}(hx:h.get? a=some o)(hc:o.cls = .ref C):Looks M h (typeOf (.ref a)) (.ref C):=hc ▸ (Looks.ld hx).andThen .now
open Builtin Builtin.ObjectAttr Builtin.Getset_descriptor in
theorem Eg {R:Result->Shared->Prop}{tp:Value}(X:K.In s.heap)(hx:s.heap.get? a=some o)(hc:o.cls = .ref C)(hm:mroIn K C (.type "object")=some true)
  (h:R (.ok (.ret (.ref C))) s):codeAny (model prog w) A (.call (.builtin "getset_descriptor.__get__") ⟨[.builtin "object.__class__",.ref a,tp],[]⟩) R s:=by
 obtain⟨hh,g,dr,t,os⟩:=s
 have L0:=xty (M:=model prog w) hx hc
 have L1:=looks_mroIn (M:=model prog w) X hm
 refine codeAny_call_builtin KF.slot_gs.plain KF.entry_gs (KF.slot_gs.check _ _ _ _ _ _ _ _ KF.type_class (KF.args_gs _ _ _) ?_)
 unfold Builtin.«getset_descriptor.__get__» descrGet
 rw[dga_obj]
 refine ae (aq ?_)
 unfold descrGetter descrCheckInstance descrNameAndClass isInstance
 simp only[KF.owner_class]
 repeat lk
 refine⟨Code.quiet_builtin _ (by decide +kernel),codeAny_builtin KF.entry_class ?_⟩
 unfold Builtin.«object.__class__» shownTypeOf
 repeat lk
 exact h
theorem A9 {tk:Tok}{Q:PySem.Fin->Shared->Prop}(X:K.In s.heap)(hx:s.heap.get? a=some o)(hc:o.cls = .ref C)(hm:mroIn K C (.type "object")=some true)
  (ha:findIn K (.ref C) "__class__" = some (some (.builtin "object.__class__"))) (hq:Q (.done (.ret (.ref C))) s):
  wpAny (model prog w) A (Builtin.«object.__getattribute__» ⟨[.ref a,.str "__class__" tk],[]⟩) Q E s:=by
 obtain⟨h,g,d,t,os⟩:=s
 have hT5:(⟨h,g,d,t,os⟩:Shared).TypeIs (.builtin "object.__class__") "getset_descriptor" :=F.typeOf_object_class
 have L0:=xty (M:=model prog w) hx hc
 have L1:=looks_findIn (M:=model prog w) X ha
 have f5:=F.typeOf_object_class
 have f6:=F.slot_gs_get.lookup
 have f7:=F.slot_gs_set.lookup
 repeat (any_goals (first |assumption |with_reducible refine L0.at ?_ |with_reducible refine L1.at ?_ |(with_reducible refine wpAny_loadPart_at hx ?_;rw[hc])|wp_step))
 refine Eg (K:=K) X hx hc hm ?_
 repeat (any_goals (first |assumption |wp_step))
theorem Ba {M:Model}{FQ:Value}(X:K.In s.heap)(hx:s.heap.get? a=some o)(hc:o.cls = .ref C)(hb:mroIn K C (.type "BaseException")=some true)(hq:Q () s):
  wpAny M A (checkBuiltinCall "BaseException.__getattribute__" ⟨[.ref a,FQ],[]⟩) Q E s:=by
 obtain⟨h,g,d,t,os⟩:=s
 have hk:builtinKind "BaseException.__getattribute__" = some .slot:=by decide +kernel
 have Hn:splitId "BaseException.__getattribute__" = some ("BaseException","__getattribute__"):=by decide +kernel
 have ha:=F.args_bexc_ga (.ref a) FQ
 have L0:=xty (M:=M) hx hc
 have L1:=looks_mroIn (M:=M) X hb
 simp only[checkBuiltinCall,hk,Hn]
 refine ae ?_
 ·unfold isInstance
  repeat (first |with_reducible refine L0.at ?_ |with_reducible refine L1.at ?_ |wp_step)
  exact hq
theorem B6 {tk:Tok}{R:Result->Shared->Prop}(X:K.In s.heap)(hx:s.heap.get? a=some o)(hc:o.cls = .ref C)(hm:mroIn K C (.type "object")=some true)(hb:mroIn K C (.type "BaseException")=some true)
  (ha:findIn K (.ref C) "__class__" = some (some (.builtin "object.__class__"))) (hq:R (.ok (.ret (.ref C))) s):
  codeAny (model prog w) A (.call (.builtin "BaseException.__getattribute__") ⟨[.ref a,.str "__class__" tk],[]⟩) R s:=
 codeAny_call_builtin (by decide +kernel) F.entry_bexc_ga (Ba X hx hc hb (A9 X hx hc hm ha hq))
theorem Gh {tk:Tok}{Q:Value->Shared->Prop}(X:K.In s.heap)(hx:s.heap.get? a=some o)(hc:o.cls = .ref C)(hm:mroIn K C (.type "object")=some true)(hb:mroIn K C (.type "BaseException")=some true)
  (ha:findIn K (.ref C) "__class__" = some (some (.builtin "object.__class__"))) (hg:findIn K (.ref C) "__getattribute__" = some (some (.builtin "BaseException.__getattribute__"))) (hn:findIn K (.ref C) "__getattr__" = some none)
  (hq:Q (.ref C) s):wpAny (model prog w) A (getAttrBy (.ref a) (.str "__class__" tk) false) Q E s:=by
 have X':=X
 have hx':=hx
 obtain⟨h,g,d,t,os⟩:=s
 have f3:=PySem.F.attr_ValueError.ga.bind (.ref a)
 have hx2:(Value.builtin "BaseException.__getattribute__" == Value.builtin "object.__getattribute__")=false:=by decide +kernel
 have hx1:(onTheHeap (Value.ref C)&&Value.builtin "BaseException.__getattribute__" == Value.builtin "object.__getattribute__")=false:=by rw[hx2];rfl
 have L0:=xty (M:=model prog w) hx hc
 have L1:=looks_findIn (M:=model prog w) X hg
 have L2:=looks_findIn (M:=model prog w) X hn
 repeat (any_goals (first |assumption |with_reducible refine L0.at ?_ |with_reducible refine L1.at ?_ |with_reducible refine L2.at ?_ |wp_step))
 refine B6 (K:=K) X' hx' hc hm hb ha ?_
 repeat (any_goals (first |assumption |wp_step))
theorem B7 {Q:Option Value->Shared->Prop}(X:K.In s.heap)(hx:s.heap.get? a=some o)(hc:o.cls = .ref C)(hm:mroIn K C (.type "object")=some true)(hb:mroIn K C (.type "BaseException")=some true)
  (ha:findIn K (.ref C) "__class__" = some (some (.builtin "object.__class__"))) (hg:findIn K (.ref C) "__getattribute__" = some (some (.builtin "BaseException.__getattribute__"))) (hn:findIn K (.ref C) "__getattr__" = some none)
  (hq:Q (some (.ref C)) {s with toks:=s.toks+1}):wpAny (model prog w) A (getAttr? (.ref a) "__class__") Q E s:=by
 have X':=X
 have hx':=hx
 obtain⟨h,g,d,t,os⟩:=s
 unfold getAttr? getAttrBy?
 repeat (any_goals (first |assumption |with_reducible apply Gh (K:=K) (s:=⟨h,g,d,t+1,os⟩) X' hx' hc hm hb ha hg hn |wp_step))
structure ExC (K:Frag)(C:Addr):Prop where
 obj:mroIn K C (.type "object")=some true
 bex:mroIn K C (.type "BaseException")=some true
 cls:findIn K (.ref C) "__class__" = some (some (.builtin "object.__class__"))
 ga:findIn K (.ref C) "__getattribute__" = some (some (.builtin "BaseException.__getattribute__"))
 gn:findIn K (.ref C) "__getattr__" = some none
 isc:(clsIn K C).isSome=true
def XAt (a:Addr)(C:Addr)(h:Heap):Prop:=∃ o,h.get? a=some o/\o.cls = .ref C
theorem Dq (e:ExC K C):KitX K (.ref a) (.ref C) (XAt a C) where
 ty:=λ_ _ _ ⟨_,h1,h2⟩=>xty h1 h2
 it:=λ_ _ X _=>by
  have hC:=e.isc
  unfold clsIn at hC
  split at hC
  ·rename_i c' d' cd' sl' ho
   intro A' Q' E' s' k q
   unfold isType loadHead
   exact ae (wpAny_loadPart (k _ _ (X _ _ ho)) (aq q))
  ·cases hC
 ne:=λh tp dd its n sl X htp=>by
  have hC:=e.isc
  refine Bool.eq_false_iff.mpr λq=>?_
  have e':C=tp:=Value.ref.inj (beq_iff_eq.mp q)
  subst e'
  unfold clsIn at hC
  split at hC
  ·rename_i c' d' cd' sl' ho
   have z:=(X _ _ ho).symm.trans htp
   cases z
  ·cases hC
 ca:=λX ⟨_,h1,h2⟩ k=>B7 X h1 h2 e.obj e.bex e.cls e.ga e.gn k
end
section
variable {P:Program}{w:World}{H H1:Hp}{h:Heap}{a:Addr}{o:HO}
theorem iQ.some (x:iQ P w H h a o):∃ u,h.get? a=Option.some u:=by
 cases o with
 |lst xs=>obtain⟨_,_,_,_,e⟩:=x;exact⟨_,e⟩
 |tup xs=>obtain⟨_,_,_,p⟩:=x;obtain⟨u,e,_⟩:=p;exact⟨u,e⟩
 |dK kvs=>obtain⟨_,_,_,_,o,_,_,e,_⟩:=x;exact⟨_,e⟩
 |dT kvs=>obtain⟨_,_,_,_,o,_,_,e,_⟩:=x;exact⟨_,e⟩
 |set S n=>obtain⟨o,_,_,_,e,_⟩:=x;exact⟨_,e⟩
 |ins C dx fs=>obtain⟨_,_,_,e,_⟩:=x;exact⟨_,e⟩
 |own y=>obtain⟨_,e⟩:=x;exact⟨_,e⟩
 |xd fs=>obtain⟨_,⟨_,_,_,e,_⟩,_⟩:=x;exact⟨_,e⟩
 |rng lo hi=>obtain⟨_,_,_,e⟩:=x;exact⟨_,e⟩
 |frz ob u=>obtain⟨e,_⟩:=x;exact⟨_,e⟩
 |tbl ps=>exact⟨_,(show h.get? a=Option.some _ from x)⟩
 |met f y=>exact⟨_,(show h.get? a=Option.some _ from x)⟩
 |ext φ=>obtain⟨_,⟨_,e⟩,_⟩:=x;exact⟨_,e⟩
theorem HOk.none_of (x:HOk P w H h)(e:h.get? a=Option.none):H a=Option.none:=by
 cases q:H a with
 |none=>rfl
 |some u=>obtain⟨v,z⟩:=(x a u q).some;rw[e]at z;cases z
end
structure Fl0 (P:Program)(w:World)(base:Heap)(l:List Env)(H H1:Hp)(h0 B h:Heap):Prop where
 bas:base.StaysIn B
 hok:HOk P w H1 B
 kp:∀ b o,h0.get? b=some o->H b=none->b∉frs l->B.get? b=some o
 thr:∀ b o,h0.get? b=some o->b∉frs l->∃ o',B.get? b=some o'
 un:Un (frs l) [] H H1 h0 h
theorem Fl0.step {P:Program}{w:World}{base:Heap}{l:List Env}{H H1:Hp}{h0 B h h':Heap}(x:Fl0 P w base l H H1 h0 B h)(st:B.StaysIn h')(ff:h.FunFrames B l)(ff':h'.FunFrames B l)(sm:h.UpToSlots h'):
  Fl0 P w base l H H1 h0 B h':=by
 refine⟨x.bas,x.hok,x.kp,x.thr,⟨λb o q n hb _=>st b o (x.kp b o q n hb),λb o q n hb _=>?_,x.un.free,λb o q _=>?_,x.un.ky,x.un.nX,x.un.pT⟩⟩
 ·obtain⟨sl,e⟩:=x.un.slot b o q n hb (by simp)
  obtain⟨_,o2,e2,nf⟩:=ff.mem hb
  rw[e]at e2;cases e2
  obtain⟨sl',e'⟩:=sm b _ e nf
  exact⟨sl',e'⟩
 ·by_cases hb:b∈frs l
  ·obtain⟨_,o2,e2,_⟩:=ff'.mem hb
   exact⟨o2,e2⟩
  ·obtain⟨o',e⟩:=x.thr b o q hb
   exact⟨o',st b o' e⟩
structure Fl (P:Program)(w:World)(base:Heap)(l:List Env)(H H1:Hp)(h0:Heap)(e C:Addr)(B h:Heap):Prop extends Fl0 P w base l H H1 h0 B h where
 fly:∃ a0,Heap.FlyingW B l e (.ref C) a0 h
def CXr (P:Program)(w:World)(base:Heap):CXT:=λl H s E ev s'=>
 ∃ e C H1 B,ev = .ref e/\s'.os=s.os/\AllBare s'.gens/\Fl P w base l H H1 s.heap e C B s'.heap/\E (.ref C) (some e) H1
section
variable {X:Cx}{pins:List (Addr×Obj)}{σ:St}{H H1:Hp}{s s':Shared}{e C:Addr}{B:Heap}
theorem Fl.inv (x:Fl X.prog X.w X.base X.stack H H1 s.heap e C B s'.heap)(I:Inv X pins σ H s)(ho:s'.os=s.os)(hg:AllBare s'.gens):Inv X pins σ H1 s':=by
 obtain⟨a0,f⟩:=x.fly
 exact I.F9 (ch:=[]) ho x.un (x.hok.kept f.1) hg (λb z=>absurd z (by simp))
theorem CC {M:Model}{E:Value->Shared->Prop}{h':Heap}{vs:List Value}(I:Inv X pins σ H s)(hst:X.stack=X.env::X.outer)(hf:X.env.frame=some X.env.locals)(hex:X.ex = [])
  (hx:Heap.MadeExcOf s.heap h' e (.ref C) vs) (hQ:∀ B h'',Fl X.prog X.w X.base X.outer X.H₀ H X.s₀.heap e C B h''->Q () {s with heap:=h''}):
  wpAny M X.A (leaving X.env (.ref e)) Q E {s with heap:=h'} :=by
 have hfr:=I.ok.frames
 rw[hst]at hfr
 have E9:=I.stack
 rw[hst]at E9
 have hin:∀ env∈(X.env::X.outer),∀ b,env.frame=some b->b∈frs (X.env::X.outer):=λenv he b hb=>List.mem_filterMap.mpr ⟨env,he,hb⟩
 have nb:∀ b,b≠X.env.locals->b∉X.fs->b∉frs (X.env::X.outer):=λb h1 h2 hb=>by
  unfold frs at hb
  rw[eD,hf]at hb
  rcases aK.mp hb with z |z
  ·exact h1 z
  ·exact h2 z
 have neL:∀ b o,X.s₀.heap.get? b=some o->b≠X.env.locals:=λb o e=>aS (aY (aE e) I.ok.above)
 refine wpAny_leaves_madeW (base:=hideAll s.heap (frs (X.env::X.outer))) hfr hf (λb o q=>of_hideAll _ q) (funFrames_hide E9 hin) hx λh'' t x1 x2 x3 x4=>?_
 have hok:HOk X.prog X.w H (hideAll s.heap (frs (X.env::X.outer))):=λb u q=>by
  refine(I.hok b u q).lD (λc v hc z=>hideAll_get _ z λhm=>?_) (λ_ z=>z) λ_ _ z=>z
  have hn:H c=none:=I.v9 c (by rw[hst];exact hm)
  rcases hc with rfl |hc
  ·rw[hn]at q;cases q
  ·rw[hn]at hc;cases hc
 have z0:Fl0 X.prog X.w X.base X.outer X.H₀ H X.s₀.heap (hideAll s.heap (frs (X.env::X.outer))) h':=by
  have ub:Un X.fs [] X.H₀ H X.s₀.heap s.heap:=by have:=I.base;rw[hex]at this;exact this
  refine⟨λb o q=>hideAll_get _ (I.bk b o q) λhm=>?_,hok,λb o q n hb=>hideAll_get _ (ub.keep b o q n hb (by simp)) (nb b (neL b o q) hb),λb o q hb=>?_,ub.trans (Un.kept hx.keeps)⟩
  ·have:=(E9.mem hm).1
   rw[q]at this;cases this
  ·obtain⟨o',e1⟩:=ub.there b o q (by simp)
   exact⟨o',hideAll_get _ e1 (nb b (neL b o q) hb)⟩
 have ff:h'.FunFrames (hideAll s.heap (frs (X.env::X.outer))) X.outer:=by
  obtain⟨_,_,z⟩:=(funFrames_hide E9 hin).of_keeps λb o hb _=>⟨o,hx.keeps b o hb,rfl⟩
  exact z
 exact hQ _ h'' ⟨z0.step x1.1 ff x1.2.2.1 x4,_,x1⟩
theorem EM {M:Model}{E:Value->Shared->Prop}(I:Inv X pins σ H s)(hst:X.stack=X.env::X.outer)(hf:X.env.frame=some X.env.locals)(hex:X.ex = [])
  (ho:s'.os=s.os) (hg:AllBare s'.gens) (x:Fl X.prog X.w X.base X.stack H H1 s.heap e C B s'.heap) (hQ:∀ B h'',Fl X.prog X.w X.base X.outer X.H₀ H1 X.s₀.heap e C B h''->Q () {s' with heap:=h''}):
  wpAny M X.A (leaving X.env (.ref e)) Q E s':=by
 have J:=x.inv I ho hg
 have hfr:=I.ok.frames
 obtain⟨a0,f⟩:=x.fly
 have nb:∀ b,b≠X.env.locals->b∉X.fs->b∉frs X.stack:=λb h1 h2 hb=>(aK.mp (I.nZ b hb)).elim h1 h2
 have neL:∀ b o,X.s₀.heap.get? b=some o->b≠X.env.locals:=λb o e=>aS (aY (aE e) I.ok.above)
 rw[hst]at hfr f
 have ub:Un X.fs [] X.H₀ H X.s₀.heap s.heap:=by have:=I.base;rw[hex]at this;exact this
 have uj:Un X.fs [] X.H₀ H1 X.s₀.heap s'.heap:=by have:=J.base;rw[hex]at this;exact this
 have z0:Fl0 X.prog X.w X.base X.outer X.H₀ H1 X.s₀.heap B s'.heap:=by
  refine⟨x.bas,x.hok,λb o q n hb=>x.kp b o (ub.keep b o q n hb (by simp)) (ub.free b o q n (by simp)) (nb b (neL b o q) hb),λb o q hb=>?_,uj⟩
  obtain⟨o',e1⟩:=ub.there b o q (by simp)
  exact x.thr b o' e1 (nb b (neL b o q) hb)
 have ff:s'.heap.FunFrames B X.outer:=f.2.2.1.2.2
 exact wpAny_leaves_onW hfr hf f λh'' x1 x2=>hQ B h'' ⟨z0.step x1.1 ff x1.2.2.1 x2,a0,x1⟩
end
section
variable {P:Program}{w:World}{K:PySem.W.Frag}{mg:Str->Option Value}{base:Heap}{N:List Str}{qual:Str}{scope:Scope}{f:Addr}{cd:Value}{A:Around}{outer:List Env}{s₀:Shared}{H₀:Hp}{E:XK}
def Raises (X:Cx)(E:XK):Prop:=∀ (pins:List (Addr×Obj)) (σ:St) (H:Hp) (s:Shared) (h':Heap) (e C:Addr) (vs:List Value),Inv X pins σ H s->Heap.MadeExcOf s.heap h' e (.ref C) vs->E (.ref C) (some e) H->X.xe (.ref e) {s with heap:=h'}
theorem jX:Raises (xl (CXr P w base) P w K mg base N qual scope f cd A outer s₀ H₀ E) E:=λpins σ H s h' e C vs I hx q=>
 CC I rfl rfl rfl hx λB h'' z=>⟨e,C,H,B,rfl,I.os,I.bare,z,q⟩
theorem jE:Passes (CXr P w base) (xl (CXr P w base) P w K mg base N qual scope f cd A outer s₀ H₀ E) E:=λpins σ H s e s' I hx=>by
 obtain⟨a,C,H1,B,rfl,ho,hg,z,q⟩:=hx
 exact EM I rfl rfl rfl ho hg z λB' h'' z'=>⟨a,C,H1,B',rfl,ho.trans I.os,hg,z',q⟩
end
theorem Fq {K:Frag}{h:Heap}{C:Addr}{bmB:List Value}{newId:String}(X:K.In h)(q:excIn K C bmB newId=true):
  ∃ bm N nm qn bs hdct sn sub ab col dd k0 k1 k2 k3 k5 mN,h.get? C=some (excClassObj nm qn C N bs bm hdct sn sub ab col dd k0 k1 k2 k3 k5 newId)/\h.Ns N mN/\mN "__init__" = none/\OwnTail h bmB bm:=by
 unfold excIn at q
 split at q
 ·rename_i d1 c1 l1 lk
  split at q
  ·rename_i D1 tl j0 j1 j2 j3 nn j5 e1 e2
   simp only[eY,beq_iff_eq,Bool.not_eq_true']at q
   obtain⟨⟨⟨⟨⟨q1,q2⟩,q3⟩,q4⟩,q5⟩,q6⟩:=q
   subst q1 q2
   cases c1
   dsimp only at e1 q3 q5 q6
   subst e1 q3
   cases l1
   dsimp only at e2
   subst e2
   exact⟨tl,_,_,_,_,_,_,_,_,_,d1,j0,j1,j2,j3,j5,_,X _ _ lk,.of_isNs (isNs_of_in X q5),nsMap_none_of_in X q5 q6,tail_of_in X q4⟩
  ·cases q
 ·cases q
section
variable {X:Cx}{E:XK}{x:Str}{np mI pos:Pos}{C:Addr}{bmB:List Value}{Bn newId Hj:String}{e₀:Expr}{rest:List Expr}{ta:TA}
def Gj (C:Addr)(E:XK)(ta:TA):TS:=λ_ σ H=>ta σ H λvs H1=>vs.length<=sizeLine/\∀ e,H1 e=none->E (.ref C) (some e) H1
theorem lh (hR:Raises X E)(hc:X.calm=true)(hg:Gl X x)(hm:X.mg x=some (.ref C))(q:excIn X.K C bmB newId=true)(FB:ExcBaseFacts Bn newId Hj bmB)(ha:PA X (e₀::rest) ta)
  (he:starEach (e₀::rest) X.env=(false,eval e₀ X.env)::starEach rest X.env:=by rfl) (hpl:(backTo mI (starEach rest X.env)).any (·.1)=false:=by rfl) (hd:(x==("__debug__" :Str))=false:=by decide):
  PS X (.Raise (some (.Call (.Name x np) (e₀::rest) [] mI)) none pos) (Gj C E ta):=by
 intro pins s σ H D I h
 obtain⟨tl,N,nm,qn,bs,hdct,sn,sub,ab,col,dd,k0,k1,k2,k3,k5,mN,hC,hN,hni,T⟩:=Fq I.mod.kin q
 refine wpAny_Raise_call_subT (C:=C) (nm:=nm) (q:=qn) (N:=N) (bs:=bs) (bm:=tl) (hdct:=hdct) (sn:=sn) (sub:=sub) (ab:=ab) (col:=col) (dd:=dd) (k0:=k0) (k1:=k1) (k2:=k2) (k3:=k3) (k5:=k5)
  FB (mN:=mN) (T.hasType FB.hasBase) (I.ok.hd hc) (by rw[he];show(false||(backTo mI (starEach rest X.env)).any (·.1))=false;rw[hpl];rfl) hni (pk I hg hm ⟨rfl,?_⟩ hd)
 have h2:=ha mI pins s σ H _ I h
 rw[he]at h2 ⊢
 exact Calls.evalArgs_plain (bq h2 (λus s1 ⟨vs,H1,I1,r,z1,z2⟩=>⟨rfl,r.length ▸ z1,I1.bk _ _ hC,hN.keeps I1.bk,T.keeps I1.bk,λh' e hx=>hR pins σ H1 s1 h' e C us I1 hx (z2 e (I1.hok.none_of hx.new))⟩) λ_ _ y=>y)
end
def zX (e C:Addr):HO:=.ext (XAt e C)
theorem Fs {P:Program}{w:World}{H:Hp}{h:Heap}{e C:Addr}{o:Obj}(ho:h.get? e=some o)(hc:o.cls = .ref C):iQ P w H h e (zX e C):=
 ⟨⟨o,ho,hc⟩,⟨o,ho⟩,λh1 h2 ⟨o',e1,e2⟩ k=>⟨o',k o' e1,e2⟩⟩
section
variable {X:Cx}{pins:List (Addr×Obj)}{σ:St}{H H1:Hp}{s s':Shared}{e C:Addr}{B:Heap}
theorem Inv.Ia {u:HO}(I:Inv X pins σ H s)(hn:H e=none)(h0:X.s₀.heap.get? e=none)(ho:iQ X.prog X.w (upd H e u) s.heap e u)(nl:e≠X.env.locals)(nc:∀ x c,X.env.cells.lookup x=some c->c≠e)
  (np:∀ p∈X.pn++pins,p.1≠e):Inv X pins σ (upd H e u) s:=by
 have ne0:∀ b o,X.s₀.heap.get? b=some o->b≠e:=λb o q z=>by rw[z,h0]at q;cases q
 have neT:∀ b v,H b=some v->b≠e:=λb v q z=>by rw[z,hn]at q;cases q
 refine⟨I.ok,I.os,I.bare,⟨I.base.keep,I.base.slot,λb o q n hx=>?_,I.base.there,λb xs q=>?_,λb o v q=>?_,λb ps q=>?_⟩,I.loc,I.cell,?_,λx c q=>?_,λp hp=>?_,λb v q=>?_,I.len⟩
 ·rw[fm (ne0 b o q)];exact I.base.free b o q n hx
 ·have z:=I.base.ky b xs q;rw[fm (neT _ _ z)];exact z
 ·have z:=I.base.nX b o v q;rw[fm (neT _ _ z)];exact z
 ·obtain⟨m,z⟩:=I.base.pT b ps q;exact⟨m,by rw[fm (neT _ _ z)];exact z⟩
 ·rw[fm (bF nl)];exact I.free
 ·rw[fm (nc x c q)];exact I.kj x c q
 ·obtain⟨z1,z2,z3⟩:=I.pin p hp
  exact⟨z1,by rw[fm (np p hp)];exact z2,z3⟩
 ·by_cases hb:b=e
  ·subst hb;rw[fg]at q;cases q;exact ho
  ·rw[fm hb]at q
   exact(I.hok b v q).lD (λ_ _ _ z=>z) (λc z=>by rw[fm (neT _ _ z)];exact z) λc xs z=>by rw[fm (neT _ _ z)];exact z
theorem Fl.kept (x:Fl X.prog X.w X.base X.stack H H1 s.heap e C B s'.heap)(I:Inv X pins σ H s)(hex:X.ex = [])(ho:s'.os=s.os)(hg:AllBare s'.gens):Inv X pins σ (upd H1 e (zX e C)) s':=by
 have J:=x.inv I ho hg
 obtain⟨a0,f⟩:=x.fly
 obtain⟨oe,vs,he,hc,hd,_⟩:=f.first
 have nB:B.get? e=none:=f.2.1
 have nfr:e∉frs X.stack:=λhm=>by
  obtain⟨_,o,z,nf⟩:=f.2.2.1.mem hm
  rw[he]at z;cases z;exact nf vs hd
 refine J.Ia (x.hok.none_of nB) ?_ (Fs he hc) ?_ (λy c q z=>?_) λp hp z=>?_
 ·cases q:X.s₀.heap.get? e with
  |none=>rfl
  |some o=>
   obtain⟨o',z⟩:=I.base.there e o q (by rw[hex];simp)
   obtain⟨o2,z2⟩:=x.thr e o' z nfr
   rw[nB]at z2;cases z2
 ·rintro rfl
  obtain⟨m,⟨o,es,ep,z,hd',_⟩,_⟩:=J.loc
  rw[he]at z;cases z;rw[hd]at hd';cases hd'
 ·subst z
  obtain⟨v,o,z,hd'⟩:=J.cell y _ q
  rw[he]at z;cases z;rw[hd]at hd';cases hd'
 ·obtain⟨z1,z2,z3,z4,_⟩:=I.pin p hp
  have z5:=x.kp p.1 p.2 z1 z2 λhm=>(aK.mp (I.nZ _ hm)).elim z3 z4
  rw[z,nB]at z5;cases z5
abbrev Cx.oN (X:Cx)(e:Addr):Cx:={X with A:=X.A.mark (some (.ref e)),calm:=false,xe:=λ_ _=>False}
theorem Inv.oN (I:Inv X pins σ H s)(e:Addr):Inv (X.oN e) pins σ H s:=
 ⟨⟨I.ok.mod,I.ok.kind,I.ok.glob,I.ok.blt,I.ok.above,I.ok.inj,I.ok.has,I.ok.cab,(λz=>nomatch z),I.ok.frames,I.ok.stk,I.ok.exf,I.ok.bs,I.ok.bsz,I.ok.zG,I.ok.BU,I.ok.rf,I.ok.frf⟩,I.os,I.bare,I.base,I.loc,I.cell,I.free,I.kj,I.pin,I.hok,I.len⟩
theorem Inv.uncaught (I:Inv (X.oN e) pins σ H s)(ok:X.Ok):Inv X pins σ H s:=⟨ok,I.os,I.bare,I.base,I.loc,I.cell,I.free,I.kj,I.pin,I.hok,I.len⟩
theorem name_goes {M:Model}{A:Around}{E:Value->Shared->Prop}{j:Nat}{n:Str}{pos:Pos}(I:Inv X pins σ H s)(hN:X.N.Nodup)(hj:X.N[j]? = some n)(hk:X.env.scope.names.lookup n=some .local)
  (h:∀ s',Inv X pins (σ.set j none) H s'->Q () s'):wpAny M A (do bindName X.env n .none;unbindBehindTheSuite X.env n pos) Q E s:=by
 obtain⟨m,hn,hl⟩:=id I.loc
 have Hw:(X.env.scope.kind == .class||(X.env.scope.kind == .module&&X.env.locals !=X.env.globals))=false:=by rw[I.ok.kind];rfl
 have hjσ:j<σ.length:=by rw[I.len];exact(af.mp hj).1
 refine wpAny_nameGoes_keeps hk hn Hw λh' v hn' hs=>h _ ?_
 have ne0:∀ b o,X.s₀.heap.get? b=some o->h'.get? b=s.heap.get? b:=λb o e=>hs.2 b (aS (aY (aE e) I.ok.above))
 refine⟨I.ok,I.os,I.bare,⟨λb o e n hb hx=>(ne0 b o e).trans (I.base.keep b o e n hb hx),λb o e n hb hx=>?_,I.base.free,λb o e hx=>?_,I.base.ky,I.base.nX,I.base.pT⟩,⟨_,hn',λi y v' e1 e2 e3=>?_⟩,
  λy c e=>?_,I.free,I.kj,λp hp=>?_,λb u e=>?_,by simpa using I.len⟩
 ·obtain⟨sl,z⟩:=I.base.slot b o e n hb hx
  exact⟨sl,(ne0 b o e).trans z⟩
 ·obtain⟨o',z⟩:=I.base.there b o e hx
  exact⟨o',(ne0 b o e).trans z⟩
 ·have hij:i≠j:=λz=>by subst z;rw[List.getElem?_set_self hjσ]at e2;cases e2
  rw[eh (bF hij)]at e2
  obtain⟨u',r',z⟩:=hl i y v' e1 e2 e3
  have ny:y≠n:=λz=>hij (tV hN e1 (z ▸ hj))
  refine⟨u',r',?_⟩
  rcases z with⟨k,z⟩|⟨k,c,z1,z2⟩
  ·exact .inl ⟨k,by show(if y=n then v else m y)=_;rw[aH ny];exact z⟩
  ·exact .inr ⟨k,c,z1,z2.sameBut hs (I.cne y c z1)⟩
 ·obtain⟨v',z⟩:=I.cell y c e
  exact⟨v',z.sameBut hs (I.cne y c e)⟩
 ·obtain⟨z1,z2,z3,z4,z5⟩:=I.pin p hp
  exact⟨(hs.2 p.1 z3).trans z1,z2,z3,z4,z5⟩
 ·refine(I.hok b u e).lD (λc v hc q=>(hs.2 c ?_).trans q) (λ_ q=>q) λ_ _ q=>q
  rintro rfl
  rcases hc with rfl |hc
  ·rw[I.free]at e;cases e
  ·rw[I.free]at hc;cases hc
end
theorem Gg {M:Model}{A:Around}{E:Value->Shared->Prop}{K:Frag}{s:Shared}{e C D:Addr}{oe:Obj}{Q:Bool->Shared->Prop}(X:K.In s.heap)(he:s.heap.get? e=some oe)(hc:oe.cls = .ref C)
  (hty:typeIn K (.ref D)=some (.type "type")) (Hv:(clsIn K D).isSome=true) (hb:mroIn K D (.type "BaseException")=some true) (hm:mroIn K C (.ref D)=some true) (hq:Q true s):
  wpAny M A (excMatches (.ref e) (.ref D)) Q E s:=by
 obtain⟨h,g,d,t,os⟩:=s
 have L0:=xty (M:=M) he hc
 have L1:=looks_mroIn (M:=M) X hb
 have L2:=looks_mroIn (M:=M) X hm
 have L3:=looks_typeIn (M:=M) X hty
 have f:=tc_notTuple
 unfold clsIn at Hv
 split at Hv
 ·rename_i c' d' cd' sl' ho
  have hD:=X _ _ ho
  unfold excMatches
  repeat (first |with_reducible refine L0.at ?_ |with_reducible refine L3.at ?_ |with_reducible refine L1.at ?_ |with_reducible refine L2.at ?_ |with_reducible refine wpAny_loadPart_at hD ?_ |wp_step)
  exact hq
 ·cases Hv
def A8 (CX:CXT)(X:Cx)(E:St->XK):Prop:=∀ (pins:List (Addr×Obj)) (σ:St) (H:Hp) (s:Shared) (e:Value) (s':Shared),Inv X pins σ H s->CX X.stack H s (E σ) e s'->X.xe e s'
def Gp (sp:Sp)(dvs:List V)(E:St->XK)(t:TA):TE:=λσ H Q=>t σ H λvs H1=>sp (vs++dvs) H1 Q (E σ)
section
variable {X:Cx}{CX:CXT}{k:Nat}{f:Addr}{fd:FuncData}{ps:List Str}{sp:Sp}{dvs:List V}{ds:List Value}{E:St->XK}{x:Str}{p pos:Pos}{e:Expr}{es:List Expr}{t:TA}
theorem tI (F:fE X.prog X.w X.K X.mg X.base CX k f fd ps sp)(hr:mK k X.A)(hg:Gl X x)(hm:X.mg x=some (.ref f))(hk:PySem.W.keepIn X.K (.ref f)=true)(hb:Binds X.K fd ps ds)(hd:Vals dvs ds)(hx:A8 CX X E)
  (ha:PA X (e::es) t) (hdb:(x==("__debug__" :Str))=false:=by decide) (he:starEach (e::es) X.env=(false,eval e X.env)::starEach es X.env:=by rfl) (hpl:(backTo pos (starEach es X.env)).any (·.1)=false:=by rfl):
  PE X (.Call (.Name x p) (e::es) [] pos) (Gp sp dvs E t):=by
 intro pins s σ H Q I h
 refine eV (pk I hg hm ?_ hdb)
 refine PySem.W.callWith_K (h₀:=X.base) I.ok.mod.kin hk (thn (ha pos pins s σ H _ I h) λus s1 ⟨vs,H1,I1,r,q⟩=>⟨I1.kIn,?_⟩) he hpl
 have r2:Vals (vs++dvs) (us++ds):=r.append hd
 have hl:(us++ds).length=ps.length:=by rw[<-r2.length];exact F.len _ _ _ _ q
 refine wpAny_call (codeAny_mono (F.run X.A X.stack s1 H1 ⟨us,[]⟩ (us++ds) (vs++dvs) Q (E σ) hr I1.JE (hb s1 us I1.kIn hl) r2 q) λr s' hq=>?_)
 cases r with
 |error e=>exact hx pins σ H1 s1 e s' I1 hq
 |ok fl=>
  cases fl with
  |ret u=>exact I1.after hq
  |next=>exact False.elim hq
  |brk=>exact False.elim hq
  |cont=>exact False.elim hq
end
abbrev Cx.qO (X:Cx)(pn:List (Addr×Obj))(W:Value->Shared->Prop):Cx:={X with pn:=X.pn++pn,xe:=W}
section
variable {X:Cx}{pins pn:List (Addr×Obj)}{σ:St}{H:Hp}{s:Shared}{W:Value->Shared->Prop}
theorem Inv.qO (I:Inv X pins σ H s)(W:Value->Shared->Prop):Inv (X.qO pins W) pins σ H s:=
 ⟨⟨I.ok.mod,I.ok.kind,I.ok.glob,I.ok.blt,I.ok.above,I.ok.inj,I.ok.has,I.ok.cab,I.ok.hd,I.ok.frames,I.ok.stk,I.ok.exf,I.ok.bs,I.ok.bsz,I.ok.zG,I.ok.BU,I.ok.rf,I.ok.frf⟩,I.os,I.bare,I.base,I.loc,I.cell,I.free,I.kj,
  (λp hp=>I.pin p (by
   rcases ay.mp hp with z |z
   ·exact z
   ·exact ay.mpr (.inr z))),I.hok,I.len⟩
theorem Inv.xG (I:Inv (X.qO pn W) pins σ H s)(ok:X.Ok):Inv X pn σ H s:=
 ⟨ok,I.os,I.bare,I.base,I.loc,I.cell,I.free,I.kj,(λp hp=>I.pin p (ay.mpr (.inl hp))),I.hok,I.len⟩
end
structure sF (K:Frag)(D C:Addr):Prop where
 ty:typeIn K (.ref D)=some (.type "type")
 isc:(clsIn K D).isSome=true
 bex:mroIn K D (.type "BaseException")=some true
 mro:mroIn K C (.ref D)=some true
abbrev Ends.gone (D:Ends)(j:Nat):Ends:={nx:=λσ H=>D.nx (σ.set j none) H,rt:=D.rt,bk:=λσ H=>D.bk (σ.set j none) H,ct:=λσ H=>D.ct (σ.set j none) H}
def JF (K:Frag)(D:Addr)(j:Nat)(th:TS)(Z:Ends):St->XK:=λσ c a H=>∃ e C,a=some e/\c = .ref C/\sF K D C/\th (Z.gone j) (σ.set j (some (.ref e))) (upd H e (zX e C))
def JX (K:Frag)(D:Addr)(j:Nat)(tb:(St->XK)->TS)(th:TS):TS:=λZ σ H=>tb (JF K D j th Z) Z σ H
section
variable {X:Cx}{body Ai:List Stmt}{b₀:Stmt}{x n:Str}{np Fc pos:Pos}{D:Addr}{j:Nat}{tb:(St->XK)->TS}{th:TS}
theorem Gz (hst:X.stack=X.env::X.outer)(hfr:X.env.frame=some X.env.locals)(hex:X.ex = [])(hN:X.N.Nodup)(hj:X.N[j]? = some n)(hn:X.env.scope.names.lookup n=some .local)(hg:Gl X x)(hm:X.mg x=some (.ref D))
  (hb:∀ pn W (E:St->XK),A8 (CXr X.prog X.w X.base) (X.qO pn W) E->PSs (X.qO pn W) body (tb E)) (hs:∀ e,PSs (X.oN e) (b₀::Ai) th) (hd:(x==("__debug__" :Str))=false:=by decide):
  PS X (.Try body [.ExceptHandler (some (.Name x np)) (some n) (b₀::Ai) Fc] [] [] pos) (JX X.K D j tb th):=by
 intro pins s σ H Z I h
 refine wpAny_Try_except ?_
 refine bq (hb pins (λe s₁=>wpAny (model X.prog X.w) X.A (noteFrame e X.env) (λ_ s₂=>wpAny (model X.prog X.w) X.A (setFlight e none) (λ_ s₃=>wpAny (model X.prog X.w) X.A (handleBy e X.env [.ExceptHandler (some (.Name x np)) (some n) (b₀::Ai) Fc]) (SP X pins Z) X.xe s₃) X.xe s₂) X.xe s₁)
  (JF X.K D j th Z) ?_ pins s σ H Z (I.qO _) h) (λf s1 q=>?_) λe s1 q=>q
 ·intro tF σ1 H1 s1 ev s2 I1' hx
  have I1:Inv X pins σ1 H1 s1:=I1'.xG I.ok
  obtain⟨e,C',H2,B,rfl,ho,FV,x0,e',C,z1,z2,cat,q⟩:=hx
  obtain rfl:e=e':=aU z1
  obtain rfl:C'=C:=by injection z2
  have x0:Fl X.prog X.w X.base X.stack H1 H2 s1.heap e C' B s2.heap:=x0
  obtain⟨a0,f0⟩:=x0.fly
  have Jp:=I.ok.frames
  rw[hst]at Jp
  have f0':=f0
  rw[hst]at f0'
  show wpAny (model X.prog X.w) X.A (noteFrame (.ref e) X.env) _ _ s2
  refine wpAny_looks_onW Jp hfr f0' λh4 hh4 sm4=>?_
  refine wpAny_landsW hh4 λh5 f5 sm5=>?_
  have f5':Heap.FlyingW B X.stack e (.ref C') a0 h5:=by rw[hst];exact f5
  have x5:Fl X.prog X.w X.base X.stack H1 H2 s1.heap e C' B h5:=⟨x0.toFl0.step f5'.1 f0.2.2.1 f5'.2.2.1 (sm4.trans sm5),a0,f5'⟩
  have I5:Inv X pins σ1 (upd H2 e (zX e C')) {s2 with heap:=h5} :=Fl.kept (s':={s2 with heap:=h5}) x5 I1 hex ho FV
  obtain⟨oe,he,hec⟩:=f5'.there
  refine wpAny_handleBy_cons (codeAny_handlers_test (pk (X:=X.oN e) (I5.oN e) hg hm ?_ hd)) (by intro q;cases q)
  refine Gg (K:=X.K) I5.kIn he hec cat.ty cat.isc cat.bex cat.mro (codeAny_handlers_suite_as ?_)
  refine lands_againW f5' λh6 f6 sm6=>?_
  have x6:Fl X.prog X.w X.base X.stack H1 H2 s1.heap e C' B h6:=⟨x5.toFl0.step f6.1 f5'.2.2.1 f6.2.2.1 sm6,a0,f6⟩
  have I6:Inv X pins σ1 (upd H2 e (zX e C')) {s2 with heap:=h6} :=Fl.kept (s':={s2 with heap:=h6}) x6 I1 hex ho FV
  refine qj (X:=X.oN e) (I6.oN e) hN hj (.inl hn) (v:=.ref e) rfl (λs7 I7=>?_) (.inr hn)
  refine bq (hs e pins s7 _ _ (Z.gone j) I7 q) (λf s8 q8=>?_) λ_ _ z=>False.elim z
  cases f with
  |next=>obtain⟨σ8,H8,I8,q8⟩:=q8;exact name_goes (I8.uncaught I.ok) hN hj hn λs9 I9=>⟨_,H8,I9,q8⟩
  |brk=>obtain⟨σ8,H8,I8,q8⟩:=q8;exact name_goes (I8.uncaught I.ok) hN hj hn λs9 I9=>⟨_,H8,I9,q8⟩
  |cont=>obtain⟨σ8,H8,I8,q8⟩:=q8;exact name_goes (I8.uncaught I.ok) hN hj hn λs9 I9=>⟨_,H8,I9,q8⟩
  |ret u=>obtain⟨v8,σ8,H8,I8,r8,q8⟩:=q8;exact name_goes (I8.uncaught I.ok) hN hj hn λs9 I9=>⟨v8,_,H8,I9,r8,q8⟩
 ·cases f with
  |next=>obtain⟨σ8,H8,I8,q8⟩:=q;exact eK ⟨σ8,H8,I8.xG I.ok,q8⟩
  |brk=>obtain⟨σ8,H8,I8,q8⟩:=q;exact⟨σ8,H8,I8.xG I.ok,q8⟩
  |cont=>obtain⟨σ8,H8,I8,q8⟩:=q;exact⟨σ8,H8,I8.xG I.ok,q8⟩
  |ret u=>obtain⟨v8,σ8,H8,I8,r8,q8⟩:=q;exact⟨v8,σ8,H8,I8.xG I.ok,r8,q8⟩
end
theorem iP {X:Cx} :mF X (.builtin "isinstance") (λxs H Q=>∃ e C c cv b,xs = [.ref e,c]/\H e=some (zX e C)/\ExC X.K C/\RelV c cv/\(∀ cv',RelV c cv'->cv'=cv)/\kitOne X.K (.ref C) cv=some b/\Q (.bl b) H):=by
 intro pins s σ H vs us Q I r h
 obtain⟨e,C,c,cv,b,rfl,he,ex,_,rc,hk,q⟩:=h
 cases r with
 |cons r1 r2=>
  cases r2 with
  |cons r2 r3=>
   cases r3
   obtain rfl:=(show _=Value.ref e from r1)
   rw[rc _ r2]
   obtain⟨p,_,_⟩:=(show iQ X.prog X.w H s.heap e (.ext (XAt e C)) from I.hok e _ he)
   exact kia_one (Dq ex) I.kIn p hk (λz=>nomatch z) λtk=>⟨.bl b,H,I.tok tk,rfl,q⟩
open TL
section
variable {P:Program}{w:World}{K:PySem.W.Frag}{mg:Str->Option Value}{base:Heap}
theorem Fun.okX {x qual:Str}{st:Stmt}{f:Addr}{fd:FuncData}{N ps:List Str}{k:Nat}{sp:Sp}(F:Fun K x qual st f fd)(S:fK N ps (fx st))(len:∀ vs H Q E,sp vs H Q E->vs.length=ps.length)
  (yA:∀ (cdv:Value) (A:Around) (outer:List Env) (s:Shared) (H:Hp) (vs:List V) (Q:VK) (E:XK),mK k (A.deeper (envOfC qual (fx st) s.heap.objs.size f cdv))->sp vs H Q E->
   ∃ t,PSs (xl (CXr P w base) P w K mg base N qual (fx st) f cdv A outer s H E) (kT st) t/\t {nx:=λ_ H'=>Q .non H',rt:=Q} (start N vs) H):fE P w K mg base (CXr P w base) (k+1) f fd ps sp:=by
 obtain⟨oc,od,kV,doc,pm,an,cdv,ct,osl,rfl,lk,hcd⟩:=F.ex
 exact FZ lk hcd S len λA outer s H vs Q E hr hsp=>yA cdv A outer s H vs Q E hr hsp
end
abbrev bmV:List Value:=[.type "ValueError",.type "Exception",.type "BaseException",.type "object"]
structure Xc (K:Frag)(mg:Str->Option Value)(x:Str)(C:Addr):Prop where
 m:mg x=some (.ref C)
 q:excIn K C bmV "ValueError.__new__" = true
 e:ExC K C
structure Xs (K:Frag)(mg:Str->Option Value)(D c1 c2 c3 c4 c5 c6 c7:Addr):Prop where
 VE:mg "ValueError" = none
 B4:Xc K mg "TurnError" D
 Eb:Xc K mg "NoLine" c1
 jr:Xc K mg "NoTrain" c2
 rF:Xc K mg "NoMove" c3
 pI:Xc K mg "NoPiece" c4
 pH:Xc K mg "TooMany" c5
 D9:Xc K mg "NoText" c6
 Ge:Xc K mg "NoRow" c7
 cat:∀ c∈ [c1,c2,c3,c4,c5,c6,c7],sF K D c
 val:∀ c∈ [c1,c2,c3,c4,c5,c6,c7],kitOne K (.ref c) (.type "ValueError")=some true
 eq:∀ c∈ [c1,c2,c3,c4,c5,c6,c7],∀ d∈ [c1,c2,c3,c4,c5,c6,c7],kitOne K (.ref c) (.ref d)=some (decide (c=d))
 nd:[c1,c2,c3,c4,c5,c6,c7].Nodup
theorem sg:bootBuiltins "ValueError" = some (.type "ValueError"):= PyProof.Rows.Boot.«ValueError»
theorem Vals.bls:∀ {bs:List Bool}{its:List Value},Vals (bs.map V.bl) its->its=bs.map Value.bool
 |[],_,.nil=>rfl
 |b::bs,_,.cons r t=>by rw[Vals.bls t,(show _=Value.bool b from r)];rfl
section
variable {X:Cx}
def EC:V->List V->Hp->VK->Prop:=λx vs H Q=>∃ (l:Addr) (bs:List Bool) (c:Bool),x = .ref l/\vs = [.bl c]/\H l=some (.lst (bs.map V.bl))/\Q (.int (bs.count c:Nat)) H
def vb (c:Bool):Value->Bool
 |.bool b=>b==c
 |_=>false
theorem Dk:MtM X "list.count" EC:=by
 intro pins s σ H x vs v us Q I rx rv h
 obtain⟨l,bs,c,rfl,rfl,hH,q⟩:=h
 cases rx
 cases rv with
 |cons r1 r2=>
  cases r2
  obtain rfl:=(show _=Value.bool c from r1)
  obtain⟨z,its,n,r,hl,e⟩:=I.uS hH
  have hi:=r.bls
  subst hi
  refine eI PySem.F.slot_list_count ⟨_,e,rfl⟩ PySem.F.entry_list_count (PySem.F.args_list_count_2 _ _) (SeqAt.list_countAt l _ n none #[] (.bool c) (vb c)) ⟨e,λy hy=>?_,?_⟩
  ·rw[List.mem_toArray]at hy
   obtain⟨b,_,rfl⟩:=ai.mp hy
   exact SeqAt.EqAt.bool_bool b c
  ·have e1:((bs.map Value.bool).toArray.toList.countP (vb c))=bs.count c:=by
    simp only[List.toList_toArray]
    rw[List.countP_map]
    rfl
   rw[e1]
   exact⟨.int _,H,I.tok _,⟨_,rfl⟩,q⟩
def EA:V->List V->Hp->VK->Prop:=λx vs H Q=>∃ (l:Addr) (bs:List Bool) (c:Bool) (j:Nat),x = .ref l/\vs = [.bl c]/\H l=some (.lst (bs.map V.bl))/\bs[j]? = some c/\(∀ m,m<j->bs[m]? = some (!c))/\Q (.int (j:Nat)) H
theorem Dj:MtM X "list.index" EA:=by
 intro pins s σ H x vs v us Q I rx rv h
 obtain⟨l,bs,c,j,rfl,rfl,hH,hj,hno,q⟩:=h
 cases rx
 cases rv with
 |cons r1 r2=>
  cases r2
  obtain rfl:=(show _=Value.bool c from r1)
  obtain⟨z,its,n,r,hl,e⟩:=I.uS hH
  have hi:=r.bls
  subst hi
  have hjl:j<bs.length:=(af.mp hj).1
  have hjs:j<(bs.map Value.bool).toArray.size:=by simpa using hjl
  have h63:(sizeLine:Nat)<2 ^ 62:=by rw[dB];decide
  have z':bs.length<=sizeLine:=by simpa using z
  refine eI PySem.F.slot_list_index ⟨_,e,rfl⟩ PySem.F.entry_list_index (PySem.F.args_list_index_2 _ _) (SeqAt.list_indexAt l _ n none #[] (.bool c) (vb c) j hjs (by omega) ?_ λm hm hmj=>?_) ⟨e,λy hy=>?_,?_⟩
  ·have:bs[j]=c:=(af.mp hj).2
   simp[vb,this]
  ·have hm':=hno m hmj
   have:bs[m]'(by omega) = !c:=(af.mp hm').2
   simp[vb,this]
  ·rw[List.mem_toArray]at hy
   obtain⟨b,_,rfl⟩:=ai.mp hy
   exact SeqAt.EqAt.bool_bool b c
  ·exact⟨.int _,H,I.tok _,⟨_,rfl⟩,q⟩
end
structure mj (K:Frag)(x:Str)(C:Addr):Prop where
 b:nsIn K mainGlobals x=some (some (.ref C))
 q:excIn K C bmV "ValueError.__new__" = true
 o:mroIn K C (.type "object")=some true
 p:mroIn K C (.type "BaseException")=some true
 r:findIn K (.ref C) "__class__" = some (some (.builtin "object.__class__"))
 g:findIn K (.ref C) "__getattribute__" = some (some (.builtin "BaseException.__getattribute__"))
 h:findIn K (.ref C) "__getattr__" = some none
 i:isClsIn K C=true
 t:typeIn K (.ref C)=some (.type "type")
structure p8 (K:Frag)(D C:Addr):Prop where
 m:mroIn K C (.ref D)=some true
 v:subIn K (.ref C) (.type "ValueError")=some true
structure qI (K:Frag)(c d1 d2 d3 d4 d5 d6:Addr):Prop where
 e1:subIn K (.ref c) (.ref d1)=some false
 e2:subIn K (.ref c) (.ref d2)=some false
 e3:subIn K (.ref c) (.ref d3)=some false
 e4:subIn K (.ref c) (.ref d4)=some false
 e5:subIn K (.ref c) (.ref d5)=some false
 e6:subIn K (.ref c) (.ref d6)=some false
section
variable {K:Frag}{h:Heap}{mg:Str->Option Value}{x:Str}{C D:Addr}
theorem mj.isc (a:mj K x C):(clsIn K C).isSome=true:=by
 have:=a.i
 unfold isClsIn at this
 exact this
theorem mj.ex (a:mj K x C):ExC K C:=⟨a.o,a.p,a.r,a.g,a.h,a.isc⟩
theorem mj.xc (a:mj K x C)(X:K.In h)(G:h.Ns mainGlobals mg):Xc K mg x C:=⟨mg_of X G a.b,a.q,a.ex⟩
theorem pX {y:Str}{d:Addr}(a:mj K y d)(hne:C≠d)(e:subIn K (.ref C) (.ref d)=some false):kitOne K (.ref C) (.ref d)=some (decide (C=d)):=by
 have h1:(Value.ref C==Value.ref d)=false:=Bool.eq_false_iff.mpr λz=>hne (Value.ref.inj (beq_iff_eq.mp z))
 unfold kitOne kitCls
 rw[h1,aH (by decide)]
 dsimp only
 rw[a.isc,a.t,aM (by rfl),e,bo hne]
theorem Hb:kitOne K (.ref C) (.ref C)=some (decide (C=C)):=by
 unfold kitOne
 rw[aM (beq_self_eq_true _),bG rfl]
theorem nM (e:subIn K (.ref C) (.type "ValueError")=some true):kitOne K (.ref C) (.type "ValueError")=some true:=by
 unfold kitOne kitCls
 rw[aH (by intro z;cases beq_iff_eq.mp z)]
 dsimp only
 rw[aM (by decide +kernel),e]
variable {c1 c2 c3 c4 c5 c6 c7:Addr}
theorem HU (X:K.In h)(G:h.Ns mainGlobals mg)(ve:nsIn K mainGlobals "ValueError" = some none)(b0:mj K "TurnError" D)(b1:mj K "NoLine" c1)(b2:mj K "NoTrain" c2)(b3:mj K "NoMove" c3)(b4:mj K "NoPiece" c4)
  (b5:mj K "TooMany" c5) (b6:mj K "NoText" c6) (b7:mj K "NoRow" c7) (d1:p8 K D c1) (d2:p8 K D c2) (d3:p8 K D c3) (d4:p8 K D c4) (d5:p8 K D c5) (d6:p8 K D c6) (d7:p8 K D c7)
  (e1:qI K c1 c2 c3 c4 c5 c6 c7) (e2:qI K c2 c1 c3 c4 c5 c6 c7) (e3:qI K c3 c1 c2 c4 c5 c6 c7) (e4:qI K c4 c1 c2 c3 c5 c6 c7) (e5:qI K c5 c1 c2 c3 c4 c6 c7) (e6:qI K c6 c1 c2 c3 c4 c5 c7) (e7:qI K c7 c1 c2 c3 c4 c5 c6)
  (nd:[c1,c2,c3,c4,c5,c6,c7].Nodup):Xs K mg D c1 c2 c3 c4 c5 c6 c7:=by
 have ct:∀ {c:Addr},p8 K D c->sF K D c:=λd=>⟨b0.t,b0.isc,b0.p,d.m⟩
 refine⟨mg_none_of X G ve,b0.xc X G,b1.xc X G,b2.xc X G,b3.xc X G,b4.xc X G,b5.xc X G,b6.xc X G,b7.xc X G,λc hc=>?_,λc hc=>?_,λc hc d hd=>?_,nd⟩
 ·simp only[aK,cP,or_false]at hc
  rcases hc with rfl |rfl |rfl |rfl |rfl |rfl |rfl
  ·exact ct d1
  ·exact ct d2
  ·exact ct d3
  ·exact ct d4
  ·exact ct d5
  ·exact ct d6
  ·exact ct d7
 ·simp only[aK,cP,or_false]at hc
  rcases hc with rfl |rfl |rfl |rfl |rfl |rfl |rfl
  ·exact nM d1.v
  ·exact nM d2.v
  ·exact nM d3.v
  ·exact nM d4.v
  ·exact nM d5.v
  ·exact nM d6.v
  ·exact nM d7.v
 ·have hcd:c=d\/c≠d:=by by_cases h:c=d;exact .inl h;exact .inr h
  rcases hcd with rfl |hne
  ·exact Hb
  ·simp only[aK,cP,or_false]at hc hd
   have ee:subIn K (.ref c) (.ref d)=some false:=by
    rcases hc with rfl |rfl |rfl |rfl |rfl |rfl |rfl<;>rcases hd with rfl |rfl |rfl |rfl |rfl |rfl |rfl<;>
     first |exact absurd rfl hne |exact e1.e1 |exact e1.e2 |exact e1.e3 |exact e1.e4 |exact e1.e5 |exact e1.e6 |exact e2.e1 |exact e2.e2 |exact e2.e3 |exact e2.e4 |exact e2.e5 |exact e2.e6 |exact e3.e1 |exact e3.e2 |exact e3.e3 |exact e3.e4 |exact e3.e5 |exact e3.e6 |exact e4.e1 |exact e4.e2 |exact e4.e3 |exact e4.e4 |exact e4.e5 |exact e4.e6 |exact e5.e1 |exact e5.e2 |exact e5.e3 |exact e5.e4 |exact e5.e5 |exact e5.e6 |exact e6.e1 |exact e6.e2 |exact e6.e3 |exact e6.e4 |exact e6.e5 |exact e6.e6 |exact e7.e1 |exact e7.e2 |exact e7.e3 |exact e7.e4 |exact e7.e5 |exact e7.e6
   rcases hd with rfl |rfl |rfl |rfl |rfl |rfl |rfl
   ·exact pX b1 hne ee
   ·exact pX b2 hne ee
   ·exact pX b3 hne ee
   ·exact pX b4 hne ee
   ·exact pX b5 hne ee
   ·exact pX b6 hne ee
   ·exact pX b7 hne ee
end
end L2
namespace TL
open PySem PySem.Spec PyProof.Rows L2
structure Bm (mg:Str->Option Value):Prop extends Bl mg where
 zip:mg "zip" = none
 sum:mg "sum" = none
 all:mg "all" = none
 set:mg "set" = none
 tuple:mg "tuple" = none
 abs:mg "abs" = none
 bool:mg "bool" = none
 dict:mg "dict" = none
 str:mg "str" = none
variable {H:Hp}
theorem Inv.Eo {X:Cx}{pins:List (Addr×Obj)}{σ:St}{s:Shared}{h':Heap}{t':Nat}{ch:List Addr}(I:Inv X pins σ H s)(hf:∀ b∈ch,nT X pins H b)
  (keep:∀ b o,b∉ch->s.heap.get? b=some o->h'.get? b=some o):Inv X pins σ H {s with heap:=h',toks:=t'} :=by
 have nch:∀ b u,H b=some u->b∉ch:=λb u q z=>by rw[(hf b z).1]at q;cases q
 refine I.step (g':=s.gens) (d':=s.drawn) (ch:=ch) (λb hb=>?_) (λb o _ _ hc q _=>keep b o hc q) (λb o _ _ hc q _=>⟨o.slots,keep b o hc q⟩) (λ_ _ _ _ n=>n)
  (λb o hc q=>⟨o,keep b o hc q⟩) (λ_ _ e=>e) (λ_ _ _ e=>e) (λb ps e=>⟨#[],by rw[e];simp⟩) (λm hm=>?_) (λb u q=>?_) I.bare
 ·obtain⟨f0,f1,f2,f3,f4,f5⟩:=hf b hb
  exact⟨f3,f1,f4,f5⟩
 ·obtain⟨o,es,ep,ho,r⟩:=hm
  exact⟨o,es,ep,keep _ o (λz=>(hf _ z).2.1 rfl) ho,r⟩
 ·refine(I.hok b u q).lD (λc v hc q'=>keep c v ?_ q') (λc z=>z) λc ys z=>z
  rcases hc with z |z
  ·rw[z];exact nch b u q
  ·exact nch c _ z
def Itz (K:PySem.W.Frag)(a b:Addr):It:=
 ⟨λi H=>∃ xs ys x y,SqL K H a xs/\SqL K H b ys/\xs[i]? = some x/\ys[i]? = some y,
  λi H v H'=>∃ p,H p=none/\v = .ref p/\∀ xs ys x y,SqL K H a xs->SqL K H b ys->xs[i]? = some x->ys[i]? = some y->H'=upd H p (.tup [x,y]),
  λi H=>∃ xs ys,SqL K H a xs/\SqL K H b ys/\(xs.length<=i\/ys.length<=i)⟩
theorem Cf {P:Program}{w:World}{K:PySem.W.Frag}{es:List Expr}{x1:Nat}{pt:Pos}{a b z TI TO i1 i2:Addr}(D:ZipApart z TI TO i1 i2 a b):
  Turn P w K (.Tuple es x1 pt) (Itz K a b) [z,TI,TO,i1,i2] z (λi h=>IsZip h z TI TO .none/\IsPair h TI (.ref i1) (.ref i2)/\(∃ u v,IsPair h TO u v)/\h.IsListIter i1 a i/\h.IsListIter i2 b i) where
 mem:=by simp
 obj:=λi h st c hc=>by
  obtain⟨hz,h1,⟨u,v,h2⟩,h3,h4⟩:=st
  obtain⟨o3,q3,_,d3⟩:=h3
  obtain⟨o4,q4,_,d4⟩:=h4
  simp only[aK,cP,or_false]at hc
  rcases hc with rfl |rfl |rfl |rfl |rfl
  ·exact⟨_,hz,λv z=>by cases z⟩
  ·exact⟨_,h1,λv z=>by cases z⟩
  ·exact⟨_,h2,λv z=>by cases z⟩
  ·exact⟨_,q3,λv z=>by rw[d3]at z;cases z⟩
  ·exact⟨_,q4,λv z=>by rw[d4]at z;cases z⟩
 keep:=λi h h' ⟨hz,h1,⟨u,v,h2⟩,h3,h4⟩ k=>⟨k z (by simp) _ hz,k TI (by simp) _ h1,⟨u,v,k TO (by simp) _ h2⟩,h3.at λo q=>k i1 (by simp) o q,h4.at λo q=>k i2 (by simp) o q⟩
 item:=by
  intro X hP hw hK hc i pins s σ H E I hf st hg
  subst hP hw hK
  obtain⟨hz,h1,⟨u0,v0,h2⟩,h3,h4⟩:=st
  obtain⟨xs,ys,x,y,hx,hy,ex,ey⟩:=hg
  obtain⟨its,rv,p,hzx⟩:=I.list hx
  obtain⟨jts,rw',p',hzy⟩:=I.list hy
  obtain⟨u,hu,ru⟩:=rv.get ex
  obtain⟨v,hv,rv'⟩:=rw'.get ey
  refine wpAny_pyNext_zip_item D hz h1 h2 h3 h4 p.isList p'.isList (x:=u) (y:=v) (by simpa using hu) (by simpa using hv) λh' a1 a2 a3 a4 a5 a6 hk=>?_
  refine⟨_,rfl,?_⟩
  refine wpAny_letOwnedTupleGo_zip (s:={s with heap:=h'}) a1 λh'' m1 m2=>?_
  have lt:∀ {c o},s.heap.get? c=some o->s.heap.objs.size≠c:=λe=>cT (aE e)
  have keep:∀ b o,b∉ [z,TI,TO,i1,i2]->s.heap.get? b=some o->h''.get? b=some o:=λb o hb q=>m2.extBut b o (λz=>hb (by simp[z])) (hk b o (λz=>hb (by simp[z])) (λz=>hb (by simp[z])) (λz=>hb (by simp[z])) (λz=>hb (by simp[z])) q)
  have ht:h''.get? s.heap.objs.size=some {cls:=.type "tuple",data:=.seq [u,v].toArray} :=m2.extBut _ _ (lt hz) a5
  have J1:Inv X pins σ (upd H s.heap.objs.size (.tup [x,y])) {s with heap:=h'',toks:=s.toks} :=Inv.qN I hf keep (.cons ru (.cons rv' .nil)) (by show 2<=sizeLine;decide) ht
  have hn:H s.heap.objs.size=none:=I.fresh
  refine⟨.ref s.heap.objs.size,_,J1,rfl,⟨_,hn,rfl,λxs' ys' x' y' q1 q2 q3 q4=>?_⟩,⟨m1,?_,⟨_,_,m2.extBut _ _ D.TOz a2⟩,a3.extBut m2.extBut D.i1z,a4.extBut m2.extBut D.i2z⟩,λc hb=>?_⟩
  ·have e1:=I.m8 q1 hx
   have e2:=I.m8 q2 hy
   subst e1 e2
   rw[ex]at q3
   rw[ey]at q4
   cases q3
   cases q4
   rfl
  ·exact m2.extBut _ _ D.TIz (hk _ _ D.TIz D.TITO D.TIi1 D.TIi2 h1)
  ·have q:∃ o,s.heap.get? c=some o:=by
    obtain⟨o3,q3,_,d3⟩:=h3
    obtain⟨o4,q4,_,d4⟩:=h4
    have hb':=hb
    simp only[aK,cP,or_false]at hb'
    rcases hb' with rfl |rfl |rfl |rfl |rfl
    ·exact⟨_,hz⟩
    ·exact⟨_,h1⟩
    ·exact⟨_,h2⟩
    ·exact⟨_,q3⟩
    ·exact⟨_,q4⟩
   obtain⟨o,q⟩:=q
   rw[fm (aS (aE q))]
   exact(hf c hb).1
 done:=by
  intro X hP hw hK hc i pins s σ H E I hf st hg
  subst hP hw hK
  obtain⟨hz,h1,⟨u0,v0,h2⟩,h3,h4⟩:=st
  obtain⟨xs,ys,hx,hy,e⟩:=hg
  obtain⟨its,rv,p,hzx⟩:=I.list hx
  obtain⟨jts,rw',p',hzy⟩:=I.list hy
  have l1:=rv.length
  have l2:=rw'.length
  refine wpAny_pyNext_zip_end (I.ok.hd hc) D hz h1 h2 h3 h4 p.isList p'.isList ?_ λh' hk=>⟨rfl,Inv.Eo (t':=s.toks) I hf λb o hb q=>hk b o (λz=>hb (by simp[z])) (λz=>hb (by simp[z])) (λz=>hb (by simp[z])) (λz=>hb (by simp[z])) q⟩
  rcases e with e |e
  ·left;simp;omega
  ·right;simp;omega
 self:=λ_ _ _ _ _ ⟨hz,_⟩ h=>wpAny_pyIter_zip hz h
variable {xs:List V}
section
variable {X:Cx}
def NO (K:PySem.W.Frag)(ta:TA):TI:=λσ H R=>ta σ H λvs H1=>∃ a b,vs = [.ref a,.ref b]/\(∃ xs,SqL K H1 a xs)/\(∃ ys,SqL K H1 b ys)/\R (Itz K a b) H1
theorem CH {a b:Expr}{ta:TA}{p pos:Pos}{es:List Expr}{x1:Nat}{pt:Pos}(hg:Gl X "zip")(hm:X.mg "zip" = none)(ha:PA X [a,b] ta)(hs:starEach [a,b] X.env = [(false,eval a X.env),(false,eval b X.env)]:=by rfl)(hs2:starEach [b] X.env = [(false,eval b X.env)]:=by rfl):
  PI X (.Tuple es x1 pt) (.Call (.Name "zip" p) [a,b] [] pos) (NO X.K ta):=by
 intro pins s σ H R I h
 refine Call_ (oz I hg hm boot_zip (bT (thn (ha pos pins s σ H _ I h) λus s1 ⟨vs,H1,I1,r1,q1⟩=>?_) (by rw[hs,hs2]) (by rw[hs2];rfl)))
 obtain⟨a,b,e,⟨xs,hx⟩,⟨ys,hy⟩,q⟩:=q1
 subst e
 obtain⟨u,v,rfl,ru,rv⟩:=vals2 r1
 cases ru
 cases rv
 obtain⟨its,rv,p,hzx⟩:=I1.list hx
 obtain⟨jts,rw',p',hzy⟩:=I1.list hy
 have la:a<s1.heap.objs.size:=by obtain⟨o,n,e,_⟩:=p;exact aE e
 have lb:b<s1.heap.objs.size:=by obtain⟨o,n,e,_⟩:=p';exact aE e
 refine call_zip_2 p.isList p'.isList λh' k1 k2 k3 k4 k5 k6 k7=>?_
 refine wpAny_pyIter_zip (s:={s1 with heap:=h'}) k1 ?_
 have D:ZipApart (s1.heap.objs.size+4) (s1.heap.objs.size+2) (s1.heap.objs.size+3) s1.heap.objs.size (s1.heap.objs.size+1) a b:=by
  generalize s1.heap.objs.size=z at la lb
  have la':@LT.lt Nat _ a z:=la
  have lb':@LT.lt Nat _ b z:=lb
  constructor<;>first |exact(show @Ne Nat _ _ by omega)
 refine⟨s1.heap.objs.size+4,[s1.heap.objs.size+4,s1.heap.objs.size+2,s1.heap.objs.size+3,s1.heap.objs.size,s1.heap.objs.size+1],_,_,H1,rfl,I1.kept (t':=s1.toks) k7,Cf D,⟨k1,k2,⟨_,_,k3⟩,k4,k5⟩,λc hc=>?_,q⟩
 have hb':s1.heap.objs.size<=c:=by
  simp only[aK,cP,or_false]at hc
  rcases hc with rfl |rfl |rfl |rfl |rfl
  ·exact eW _ _
  ·exact eW _ _
  ·exact eW _ _
  ·exact au _
  ·exact eW _ _
 exact I1.zW hb' (I1.hok.fresh hb')
theorem Fg {K:PySem.W.Frag}{a b:Addr}{ys:List V}{g:TG}{tb:TS}{D:Ends}{σ:St}(n:Nat)(hn:n=min xs.length ys.length)(Pv:Nat->St->Hp->Prop)(h0:Pv 0 σ H)(hl:∀ i σ H,i<=n->Pv i σ H->SqL K H a xs/\SqL K H b ys)
  (hs:∀ i x y σ H p,xs[i]? = some x->ys[i]? = some y->Pv i σ H->H p=none->g (.ref p) σ (upd H p (.tup [x,y])) λσ2 H2=>tb {D with nx:=Pv (i+1),ct:=Pv (i+1),bk:=D.nx} σ2 H2) (hd:∀ σ H,Pv n σ H->D.nx σ H):
  ∃ W:Nat->Nat->St->Hp->Prop,(∃ m,W 0 m σ H)/\∀ i m σ H,W i m σ H->
   ((Itz K a b).stop i H/\D.nx σ H)\/((Itz K a b).go i H/\∃ N:St->Hp->Prop,(∀ σ' H',N σ' H'->∃ m',m'<m/\W (i+1) m' σ' H')/\∀ x H',(Itz K a b).yld i H x H'->g x σ H' λσ2 H2=>tb {D with nx:=N,ct:=N,bk:=D.nx} σ2 H2):=by
 refine⟨λi m σ H=>m=n-i/\i<=n/\Pv i σ H,⟨n,by simp,aP _,h0⟩,?_⟩
 rintro i m σ H ⟨rfl,hi,p⟩
 obtain⟨q1,q2⟩:=hl i σ H hi p
 by_cases hlt:i<n
 ·have h1:i<xs.length:=by omega
  have h2:i<ys.length:=by omega
  refine .inr ⟨⟨xs,ys,xs[i],ys[i],q1,q2,by simp[h1],by simp[h2]⟩,Pv (i+1),λσ' H' p'=>⟨n-(i+1),by omega,rfl,hlt,p'⟩,λx H' y=>?_⟩
  obtain⟨pa,hp,e,y⟩:=y
  subst e
  have hx:xs[i]? = some xs[i]:=by simp[h1]
  have hy:ys[i]? = some ys[i]:=by simp[h2]
  rw[y xs ys _ _ q1 q2 hx hy]
  exact hs i _ _ σ H pa hx hy p hp
 ·have e:i=n:=by omega
  subst e
  exact .inl ⟨⟨xs,ys,q1,q2,by omega⟩,hd σ H p⟩
theorem DT (hc:X.calm=true):mF X (.builtin "sum") (λxs H Q=>∃ (a:Addr) (ns:List Int),xs = [.ref a]/\SqL X.K H a (ns.map V.int)/\Q (.int ns.sum) H):=by
 intro pins s σ H xs us Q I r h
 obtain⟨a,ns,rfl,hx,q⟩:=h
 obtain⟨u,rfl,ru⟩:=vals1 r
 cases ru
 obtain⟨its,rv,p,hz⟩:=I.list hx
 have hi:IntsAre its ns:=intsAre_of rv
 obtain⟨xs,hx⟩:=hi.allInts.items
 have hl':s.heap.IsList a (intItems xs):=hx ▸ p.isList
 refine sum_intListG (I.ok.hd hc) hl' λh' tk t' hk=>?_
 have e1:ns=xs.toList.map (·.1):=by
  rw[<-nums_intItems,<-hx]
  exact(show numsOf its.toArray.toList=ns from hi.numsOf).symm
 have e2:preSum (numAt xs) xs.size=ns.sum:=by
  rw[preSum_eq,bX (by simp),e1]
 rw[e2]
 exact⟨.int ns.sum,H,I.kept (t':=tk) hk,⟨_,rfl⟩,q⟩
theorem rX:∀ {bs:List Bool}{us:List Value},Vals (bs.map V.bl) us->us=bs.map Value.bool
 |[],_,.nil=>rfl
 |b::bs,_,.cons r t=>by
  cases r
  rw[rX t];rfl
theorem yX (hc:X.calm=true):mF X (.builtin "all") (λxs H Q=>∃ (a:Addr) (bs:List Bool),xs = [.ref a]/\SqL X.K H a (bs.map V.bl)/\Q (.bl (bs.all id)) H):=by
 intro pins s σ H xs us Q I r h
 obtain⟨a,bs,rfl,hx,q⟩:=h
 obtain⟨u,rfl,ru⟩:=vals1 r
 cases ru
 obtain⟨its,rv,p,hz⟩:=I.list hx
 have e:=rX rv
 subst e
 have hl:=p.isList
 have hlt:a<s.heap.objs.size:=by obtain⟨_,e,_⟩:=hl;exact aE e
 refine call_all_walk (wpAny_pyIter_list hl ?_)
 refine⟨s.heap.objs.size,[s.heap.objs.size,a],[s.heap.objs.size],(bs.map Value.bool).toArray.size,_,_,λi=>(bs[i]?).getD true,rfl,Walks.list (A:=X.A.in1) (I.ok.hd hc) _ a (aS hlt) (bs.map Value.bool).toArray,
  ⟨⟨_,aT _ rfl,rfl,rfl⟩,hl.push _⟩,λi v s' Q' E' hP hQ=>?_,λh' tk hk=>?_⟩
 ·have hP':(bs.map Value.bool)[i]? = some v:=by simpa using hP
  rw[ao]at hP'
  cases q:bs[i]? with
  |none=>rw[q]at hP';cases hP'
  |some b=>
   rw[q]at hP'
   cases hP'
   have hQ':Q' b s':=by simpa [q]using hQ
   exact cC hQ'
 ·have e:((List.range (bs.map Value.bool).toArray.size).all λi=>(bs[i]?).getD true)=bs.all id:=by
   rw[aI,aa];exact PyProof.Rows.LSm.range_all bs
  rw[e]
  have kk:∀ b x,s.heap.get? b=some x->h'.get? b=some x:=λb x e=>hk b x (λhm=>by rw[aZ.mp hm]at e;exact dD _ (aE e)) (aD _ e)
  exact⟨.bl (bs.all id),H,I.kept (t':=tk) kk,rfl,q⟩
end
section
variable {K:PySem.W.Frag}{l:Addr}{g:TG}{tt:TT}{te:TE}{cap:List (Option Nat)}{σ:St}{Q:VK}{H1:Hp}{J:It}
theorem t6 (n:Nat)(Pv:Nat->List V->Hp->Prop)(h0:Pv 0 [] (upd H1 l (.lst [])))(go:∀ i acc H,i<n->Pv i acc H->J.go i H)(st:∀ acc H,Pv n acc H->J.stop n H)
  (hs:∀ i x acc H H',i<n->Pv i acc H->J.yld i H x H'->g x (iY cap σ) H' λσ2 H2=>tt σ2 H2 λb H3=>
    if b=true then te σ2 H3 λy H4=>H4 l=some (.lst acc)/\acc.length<sizeLine/\Pv (i+1) (acc ++ [y]) (upd H4 l (.lst (acc ++ [y])))
    else Pv (i+1) acc H3) (hd:∀ acc H,Pv n acc H->Q (.ref l) H):LcW J g tt te cap σ Q l H1:=by
 refine⟨λi m acc H=>m=n-i/\i<=n/\Pv i acc H,⟨n,by simp,aP _,h0⟩,?_⟩
 rintro i m acc H ⟨rfl,hi,p⟩
 by_cases hlt:i<n
 ·exact .inr ⟨go i acc H hlt p,λuW H'=>Pv (i+1) uW H',λuW H' p'=>⟨n-(i+1),by omega,rfl,hlt,p'⟩,λx H' y=>hs i x acc H H' hlt p y⟩
 ·have e:i=n:=by omega
  subst e
  exact .inl ⟨st acc H p,hd acc H p⟩
theorem wW {α:Type}(n:Nat)(ds:List α)(p:α->Bool)(f:α->V)(hn:H1 l=none)(hlen:n=ds.length)(hz:n<sizeLine)(go:∀ i H,fu H1 H->i<n->J.go i H)(st:∀ H,fu H1 H->J.stop n H)
  (hs:∀ i x d H H',fu H1 H->J.yld i H x H'->ds[i]? = some d->∀ (P1:VK) (P0:Hp->Prop),(∀ H2,p d=true->fu H H2->P1 (f d) H2)->(∀ H2,p d=false->fu H H2->P0 H2)->
   g x (iY cap σ) H' λσ2 H2=>tt σ2 H2 λb H3=>if b=true then te σ2 H3 P1 else P0 H3)
  (hq:∀ H',fu H1 H'->H' l=some (.lst ((ds.filter p).map f))->Q (.ref l) H'):LcW J g tt te cap σ Q l H1:=by
 refine t6 n (λi acc H=>acc=((ds.take i).filter p).map f/\fu H1 H/\H l=some (.lst acc)) ⟨rfl,fb hn,fg⟩ (λi acc H hi ⟨_,s,_⟩=>go i H s hi) (λacc H ⟨_,s,_⟩=>st H s) ?_ ?_
 ·rintro i x acc H H' hi ⟨e1,s,hl⟩ y
  have hd:ds[i]? = some (ds[i]'(by omega)):=by simp
  generalize ds[i]'(by omega)=d at hd
  have step:((ds.take (i+1)).filter p).map f=acc++(if p d=true then[f d]else[]):=by
   rw[aQ,hd,List.filter_append,aw,e1]
   congr 1
   by_cases hp:p d=true
   ·simp[hp]
   ·have hp':p d=false:=by simpa using hp
    simp[hp']
  have la:acc.length<sizeLine:=by
   have h1:acc.length<=i:=by
    rw[e1,aa]
    exact bE (bN _ _) (by rw[bg];omega)
   omega
  refine hs i x d H H' s y hd _ _ (λH2 hp s2=>?_) (λH2 hp s2=>?_)
  ·refine⟨s2 _ _ hl,la,?_,fu.upd (s.trans s2) hn,fg⟩
   rw[step,aM hp]
  ·refine⟨?_,s.trans s2,s2 _ _ hl⟩
   rw[step,aH (by rw[hp];exact aF),cY]
 ·rintro acc H ⟨e1,s,hl⟩
  rw[bX (by omega)]at e1
  subst e1
  exact hq H s hl
end
def Cv (S:Int->Bool)(k:Int):Int->Bool:=λk'=>S k'||decide (k'=k)
def De (S:Int->Bool)(n:Nat)(k:Int):Nat:=if S k=true then n else n+1
section
variable {X:Cx}{pins:List (Addr×Obj)}{σ:St}{H:Hp}{s:Shared}
theorem Inv.setM {l:Addr}{S:Int->Bool}{n:Nat}(I:Inv X pins σ H s)(h:H l=some (.set S n)):s.heap.SetOf (intKind X.prog X.w) l S n:=I.hok l _ h
theorem isInt_self (k:Int)(t:Tok):Value.isInt k (.int k t)=true:=by simp[Value.isInt]
def IC:V->List V->Hp->VK->Prop:=λx vs H Q=>∃ l S n k,x = .ref l/\vs = [.int k]/\H l=some (.set S n)/\n+1<scanBound/\Q .non (upd H l (.set (Cv S k) (De S n k)))
theorem EY:MtR X "set.add" IC:=by
 intro pins s σ H x vs v us Q I rx rv h
 obtain⟨l,S,n,k,rfl,rfl,hH,hb,q⟩:=h
 cases rx
 obtain⟨u,rfl,t,rfl⟩:=rv.one
 have hS:=Inv.setM I hH
 refine call_set_add (knd:=intKind X.prog X.w) (k:=k) (isInt_self k t) rfl hS hb λh' sb hS'=>?_
 refine⟨.non,_,I.write (t':=s.toks+1) (o:=.set (Cv S k) (De S n k)) (x:=l) (e:=l) (by rw[hH];exact trivial) (.inl rfl) (λb u hb e=>sb.extBut b u hb e) ?_ ?_,rfl,q⟩
 ·obtain⟨o,_,_,_,e,_⟩:=hS';exact⟨o,e⟩
 ·exact hS'
theorem B3:mF X (.builtin "len") (λxs H Q=>∃ p S n,xs = [.ref p]/\H p=some (.set S n)/\Q (.int n) H):=by
 intro pins s σ H xs us Q I r h
 obtain⟨p,S,n,rfl,hH,q⟩:=h
 obtain⟨u,rfl,rx⟩:=vals1 r
 cases rx
 obtain⟨o,es,ep,t,e,hex,hd,hel,hm,hb,hf,hn⟩:=Inv.setM I hH
 refine call_len_set e hex hd hf ?_ ⟨.int n,H,I.tok _,⟨_,by rw[hn]⟩,q⟩
 have:scanBound=4096:=rfl
 omega
end
section
variable {X:Cx}{pins:List (Addr×Obj)}{σ:St}{H1:Hp}{s2:Shared}{scope:Scope}{N:List Str}{own:Nat}{cap:List (Option Nat)}{cl:List (Str×Addr)}{fp:List Addr}
 {tg iter elt:Expr}{ifs:List Expr}{pos:Pos}{g:TG}{tt:TT}{te:TE}{wi:TI}
def ScW (J:It)(g:TG)(tt:TT)(te:TE)(cap:List (Option Nat))(σ:St)(Q:VK)(l:Addr)(H1:Hp):Prop:=
 ∃ W:Nat->Nat->Hp->Prop,(∃ m,W 0 m (upd H1 l (.set (λ_=>false) 0)))/\∀ i m H,W i m H->
  (J.stop i H/\Q (.ref l) H)\/(J.go i H/\∃ N:Hp->Prop,(∀ H',N H'->∃ m',m'<m/\W (i+1) m' H')/\
   ∀ x H',J.yld i H x H'->g x (iY cap σ) H' λσ2 H2=>tt σ2 H2 λb H3=>
    if b=true then te σ2 H3 λy H4=>∃ S n k,y = .int k/\H4 l=some (.set S n)/\n+1<scanBound/\N (upd H4 l (.set (Cv S k) (De S n k)))
    else N H3)
def tSC (wi:TI)(cap:List (Option Nat))(g:TG)(tt:TT)(te:TE):TE:=λσ H Q=>wi σ H λJ H1=>∀ l,H1 l=none->
 ScW J g tt te cap σ Q l H1
theorem BZ {it:Addr}{tn:Nat->Heap->Prop}{J:It}{Q:VK}{RR:Value->Addr->Result->Shared->Prop}{E:Value->Shared->Prop}(I:Inv X pins σ H1 s2)(T:Turn X.prog X.w X.K tg J fp it tn)(t0:tn 0 s2.heap)
  (f:∀ b∈fp,nT X pins H1 b) (hc:X.calm=true) (C:gH X.env.scope X.N scope N own cap) (ho:sk own g)
  (mi:∀ x c,cl.lookup x=some c->X.env.cells.lookup x=some c) (pK:∀ y∈scope.names,y.2 = .free->∃ c,cl.lookup y.1=some c)
  (hg:∀ s3 H3,PG (fR X scope cl N fp s3 H3) tg g) (ht:∀ s3 H3,xt (fR X scope cl N fp s3 H3) ifs tt) (he:∀ s3 H3,PE (fR X scope cl N fp s3 H3) elt te)
  (hw:∀ l,H1 l=none->ScW J g tt te cap σ Q l H1)
  (fin:∀ l C s' H' m',Inv X pins σ H' s'->s'.heap.Ns C m'->H' C=none->Apart X pins C->Q (.ref l) H'->RR (.ref l) C (.ok .next) s'):
  wpAny (model X.prog X.w) X.A (newSet (.type "set")) (λacc s₃=>wpAny (model X.prog X.w) X.A (newFunctionEnv scope X.env.globals cl [] X.env.qual none .none (some X.env)) (λyT s₄=>
   codeAny (model X.prog X.w) X.A (.compStart (.SetComp elt [⟨tg,iter,ifs,0⟩] scope pos) 0 (.ref it) acc {yT with scope:=relabel scope X.env}) (RR acc yT.locals) s₄) E s₃) E s2:=by
 refine wpAny_newSet_of (knd:=intKind X.prog X.w) λled NR=>?_
 refine wpAny_newFunctionEnv C.wV (by intro y hy;simp at hy) (λh₁ mh mf=>?_) C.kind
 dsimp only at mh mf ⊢
 obtain⟨W,⟨m0,w0⟩,turn⟩:=hw s2.heap.objs.size I.fresh
 have I3:Inv X pins σ (upd H1 s2.heap.objs.size (.set (λ_=>false) 0)) {s2 with heap:=s2.heap.push {cls:=.type "set",dict:=none,data:=.set #[] 0 (.fresh 0 0 led)}} :=
  I.laid (t':=s2.toks) (λb u e=>aD _ e) (au _) NR
 generalize hs3:({s2 with heap:=s2.heap.push {cls:=.type "set",dict:=none,data:=.set #[] 0 (.fresh 0 0 led)}} :Shared)=s3 at I3
 have hh3:s3.heap=s2.heap.push {cls:=.type "set",dict:=none,data:=.set #[] 0 (.fresh 0 0 led)} :=by rw[<-hs3]
 rw[<-hh3]at mh mf ⊢
 have e4:({s2 with heap:=h₁,toks:=s2.toks+([]:List (Str×Value)).length} :Shared) = {s3 with heap:=h₁,toks:=s2.toks} :=by rw[<-hs3];rfl
 rw[e4]
 have k4:∀ b u,s3.heap.get? b=some u->h₁.get? b=some u:=λb u e=>mf.extBut b u (aS (aE e)) (aD _ e)
 have k3:∀ b u,s2.heap.get? b=some u->s3.heap.get? b=some u:=λb u e=>by rw[hh3];exact aD _ e
 have hb2:∀ b∈fp,b<s2.heap.objs.size:=λb hb=>by obtain⟨o,e,_⟩:=T.obj _ _ t0 b hb;exact aE e
 have f3:∀ b∈fp,nT X pins (upd H1 s2.heap.objs.size (.set (λ_=>false) 0)) b:=λb hb=>by
  obtain⟨f0,fr⟩:=f b hb
  exact⟨by rw[fm (aS (hb2 b hb))];exact f0,fr⟩
 have hb3:∀ b∈fp,b<s3.heap.objs.size:=λb hb=>by obtain⟨o,e,_⟩:=T.obj _ _ t0 b hb;exact aE (k3 b o e)
 have I4:=uf (tk:=s2.toks) I3 C mi pK (λb hb=>⟨f3 b hb,hb3 b hb⟩) mh k4
 generalize hH3:upd H1 s2.heap.objs.size (.set (λ_=>false) 0)=H3 at *
 have st4:tn 0 h₁:=T.keep _ _ _ t0 λb hb o e=>k4 b o (k3 b o e)
 have fpX:∀ {H':Hp},(∀ b∈fp,H' b=none)->∀ b∈fp,nT (fR X scope cl N fp s3 H3) [] H' b:=λ{H'} hn b hb=>by
  obtain⟨f0,f1,f2,f3',f4,f5⟩:=f3 b hb
  refine⟨hn b hb,aS (hb3 b hb),λhz=>?_,.inl hb,λx c e=>f4 x c (mi x c e),λp hp=>absurd (show p∈([]:List (Addr×Obj)) from hp) (by simp)⟩
  rcases aK.mp (I3.nZ b hz)with z |z
  ·exact f1 z
  ·exact f2 z
 have loop:codeAny (model X.prog X.w) X.A (.compLoop (.SetComp elt [⟨tg,iter,ifs,0⟩] scope pos) 0 (.ref it) (.ref s2.heap.objs.size) (compEnvC scope cl s3.heap.objs.size X.env)) (RR (.ref s2.heap.objs.size) s3.heap.objs.size) {s3 with heap:=h₁,toks:=s2.toks} :=by
  refine xn (λn s'=>∃ i H',Inv (fR X scope cl N fp s3 H3) [] (iY cap σ) H' s'/\tn i s'.heap/\(∀ b∈fp,H' b=none)/\W i n H') ?_ m0 ⟨0,H3,I4,st4,λb hb=>(f3 b hb).1,w0⟩
  rintro n s' ⟨i,H',I',st,fr,w⟩
  rcases turn i n H' w with⟨stop,q⟩|⟨go,NN,hNN,step⟩
  ·refine thn (T.done (fR X scope cl N fp s3 H3) rfl rfl rfl hc i [] s' _ H' (λ_ _=>False) I' (fpX fr) st stop) λr s5 ⟨hr,I5⟩=>?_
   subst hr
   obtain⟨m5,hn5,_⟩:=id I5.loc
   exact fin _ _ s5 H' m5 (comp_back I3 f3 I5) hn5 I5.free (TL.Inv.apart I3) q
  ·refine thn (T.item (fR X scope cl N fp s3 H3) rfl rfl rfl hc i [] s' _ H' (λ_ _=>False) I' (fpX fr) st go) λr s5 ⟨u,hr,h5⟩=>?_
   subst hr
   refine thn h5 λ_ s6 ⟨x,H6,I6,r6,y6,st6,fr6⟩=>?_
   have I6':=I6.pinned (fpX fr6) (T.obj _ _ st6)
   refine thn (hg s3 H3 _ s6 _ H6 x u _ I6' r6 (ho.own _ _ _ _ (step x H6 y6))) λ_ s7 ⟨σ7,H7,I7,q7,l7,o7⟩=>?_
   have cov:∀ (i:Nat) v,(iY cap σ)[i]? = some (some v)->σ7[i]? = some (some v):=λi v e=>by
    obtain⟨j,c1,c2⟩:=pF e
    by_cases hi:i<own
    ·exact(C.tM hi c1).elim
    ·rw[o7 i (by omega)];exact e
   have back:∀ {H8:Hp}{s8:Shared},Inv (fR X scope cl N fp s3 H3) ([]++pW fp s6.heap) σ7 H8 s8->Inv (fR X scope cl N fp s3 H3) [] (iY cap σ) H8 s8/\tn (i+1) s8.heap/\∀ b∈fp,H8 b=none:=λ{H8 s8} I8=>by
    refine⟨(Inv.mR (pins:=[]) I8).weak l7.symm cov,T.keep _ _ _ st6 λb hb o e=>(I8.pin (b,o) (az _ (az _ (jx hb e)))).1,λb hb=>?_⟩
    obtain⟨o,e,d⟩:=T.obj _ _ st6 b hb
    exact(I8.pin (b,o) (az _ (az _ (jx hb e)))).2.1
   refine thn (ht s3 H3 _ s7 σ7 H7 _ I7 q7) λb s8 ⟨H8,I8,q8⟩=>?_
   cases b with
   |false=>
    rw[aH aF]at q8 ⊢
    obtain⟨m',hm,w8⟩:=hNN _ q8
    obtain⟨J1,J2,J3⟩:=back I8
    exact⟨m',hm,i+1,H8,J1,J2,J3,w8⟩
   |true=>
    rw[aM rfl]at q8 ⊢
    refine thn (he s3 H3 _ s8 σ7 H8 _ I8 q8) λv s9 ⟨y,H9,I9,r9,S,nn,k,ey,ha,hz,n9⟩=>?_
    obtain⟨m',hm,w9⟩:=hNN _ n9
    subst ey
    refine thn (EY _ s9 σ7 H9 (.ref s2.heap.objs.size) [.int k] (.ref s2.heap.objs.size) [v] (λ_ H10=>W (i+1) m' H10) I9 rfl (.cons r9 .nil) ⟨_,S,nn,k,rfl,rfl,ha,hz,w9⟩) λ_ s10 ⟨_,H10,I10,_,w10⟩=>?_
    obtain⟨J1,J2,J3⟩:=back I10
    exact⟨m',hm,i+1,H10,J1,J2,J3,w10⟩
 exact uV loop (T.self X.A 0 _ _ _ st4 loop)
theorem IE (hi:PI X tg iter wi)(hc:X.calm=true)(C:gH X.env.scope X.N scope N own cap)(ho:sk own g)
  (hg:∀ cl fp s3 H3,PG (fR X scope cl N fp s3 H3) tg g) (ht:∀ cl fp s3 H3,xt (fR X scope cl N fp s3 H3) ifs tt) (he:∀ cl fp s3 H3,PE (fR X scope cl N fp s3 H3) elt te)
  (hs:∀ x,foldedSetIterable iter X.env x=pure x:=by intro _;rfl):PE X (.SetComp elt [⟨tg,iter,ifs,0⟩] scope pos) (tSC wi cap g tt te):=by
 intro pins s σ H Q I h
 obtain⟨cl,ecl,mi,pK⟩:=nO (scope:=scope) (env:=X.env) λy hy hf=>I.ok.has y.1 (C.fre y hy hf)
 rw[arm_eval_SetComp]
 refine dN (use:=none) rfl hs ecl C.kind C.loc (thn (hi pins s σ H _ I h) λxv s1 h1=>thn h1 λitv s2 h2=>?_)
 obtain⟨it,fp,tn,J,H2,e,I2,T,st2,f2,hw⟩:=h2
 subst e
 refine BZ (RR:=λacc C=>compPost (model X.prog X.w) X.A X.xe none (EP X pins σ Q) acc C) I2 T st2 f2 hc C ho mi pK (hg cl fp) (ht cl fp) (he cl fp) hw λl Ca s' H' m' I' hn pQ hP q=>?_
 exact⟨m',hn,λh'' zP=>⟨.ref l,H',pE I' hP pQ zP,rfl,q⟩⟩
end
def dn (ks:List Int):Nat->Nat
 | 0=>0
 |i+1=>if ks.getD i 0∈ks.take i then dn ks i else dn ks i+1
theorem AZ (ks:List Int):∀ i,dn ks i<=i
 | 0=>au _
 |i+1=>by
  have:=AZ ks i
  unfold dn
  split<;>omega
theorem F4 {ks:List Int} :∀ {i},dn ks i=i↔∀ j,j<i->ks.getD j 0∉ks.take j
 | 0=>⟨λ_ j h=>absurd h (en j),λ_=>rfl⟩
 |i+1=>by
  have h1:=AZ ks i
  have h2:=@F4 ks i
  unfold dn
  constructor
  ·intro h j hj
   split at h
   ·omega
   ·rcases dC.mp hj with z |z
    ·exact h2.mp (by omega) j z
    ·subst z;assumption
  ·intro h
   rw[aH (h i (by omega)),h2.mpr λj hj=>h j (by omega)]
theorem zH (ks:List Int):ks.Nodup↔∀ j,j<ks.length->ks.getD j 0∉ks.take j:=by
 constructor
 ·intro h j hj hm
  obtain⟨i,hi,e⟩:=aR.mp hm
  rw[bg]at hi
  rw[List.getElem_take]at e
  have e2:ks.getD j 0=ks[j]:=by rw[aJ,ag hj];rfl
  rw[e2]at e
  have:=(cR h).mp e
  omega
 ·intro h
  rw[List.Nodup,List.pairwise_iff_getElem]
  intro i j hi hj hij e
  refine h j hj ?_
  have e2:ks.getD j 0=ks[j]:=by rw[aJ,ag hj];rfl
  rw[e2,<-e]
  exact aR.mpr ⟨i,by rw[bg];omega,by rw[List.getElem_take]⟩
theorem DJ (ks:List Int):dn ks ks.length=ks.length↔ks.Nodup:=F4.trans (zH ks).symm
theorem F3 (ks:List Int):dn ks ks.length<ks.length↔¬ks.Nodup:=by
 rw[<-DJ]
 have:=AZ ks ks.length
 omega
theorem take_snoc {ks:List Int}{i:Nat}(hi:i<ks.length):ks.take (i+1)=ks.take i ++ [ks.getD i 0]:=by
 rw[aQ,aJ,ag hi];rfl
theorem Bp {ks:List Int}{i:Nat}(hi:i<ks.length):Cv (λk=>decide (k∈ks.take i)) (ks.getD i 0) = λk=>decide (k∈ks.take (i+1)):=by
 funext k
 rw[take_snoc hi]
 simp[Cv]
theorem BE (ks:List Int)(i:Nat):De (λk=>decide (k∈ks.take i)) (dn ks i) (ks.getD i 0)=dn ks (i+1):=by
 unfold De
 rw[dn]
 by_cases h:ks.getD i 0∈ks.take i
 ·rw[aM h,aM (by simpa using h)]
 ·rw[aH h,aH (by simpa using h)]
section
variable {l:Addr}{g:TG}{tt:TT}{te:TE}{cap:List (Option Nat)}{σ:St}{Q:VK}{H1:Hp}{J:It}
theorem Cu {α:Type}{n:Nat}{it:Nat->V->Prop}(S:JS J n H1 it)(ds:List α)(f:α->Int)(hn:H1 l=none)(hlen:n=ds.length)(hz:n+1<scanBound)
  (hs:∀ (i:Nat) x d H,it i x->ds[i]? = some d->fu H1 H->∀ (P1:VK) (P0:Hp->Prop),P1 (.int (f d)) H->
   g x (iY cap σ) H λσ2 H2=>tt σ2 H2 λb H3=>if b=true then te σ2 H3 P1 else P0 H3)
  (hq:Q (.ref l) (upd H1 l (.set (λk=>decide (k∈ds.map f)) (dn (ds.map f) n)))):ScW J g tt te cap σ Q l H1:=by
 refine⟨λi m H=>m=n-i/\i<=n/\H=upd H1 l (.set (λk=>decide (k∈(ds.map f).take i)) (dn (ds.map f) i)),⟨n,by simp,aP _,?_⟩,?_⟩
 ·congr 2
 rintro i m H ⟨rfl,hi,e2⟩
 have sm:fu H1 H:=by rw[e2];exact fb hn
 by_cases hlt:i<n
 ·refine .inr ⟨S.go i H sm hlt,λH'=>H'=upd H1 l (.set (λk=>decide (k∈(ds.map f).take (i+1))) (dn (ds.map f) (i+1))),λH' p2=>⟨n-(i+1),by omega,rfl,hlt,p2⟩,λx H' y0=>?_⟩
  obtain⟨e,y⟩:=S.yld i H x H' sm hlt y0
  clear y0
  subst e
  have hd:ds[i]? = some (ds[i]'(by omega)):=by simp
  generalize ds[i]'(by omega)=d at hd
  refine hs i x d H' y hd sm _ _ ⟨_,_,f d,rfl,by rw[e2];exact fg,?_,?_⟩
  ·have:=AZ (ds.map f) i
   omega
  ·have e3:(ds.map f).getD i 0=f d:=by rw[aJ,ao,hd];rfl
   have h1:=Bp (ks:=ds.map f) (i:=i) (by rw[aa];omega)
   have h2:=BE (ds.map f) i
   rw[e3]at h1 h2
   rw[h1,h2,e2,qh]
 ·have e:i=n:=by omega
  subst e
  refine .inl ⟨S.stop H sm,?_⟩
  rw[e2,bX (by rw[aa];omega)]
  exact hq
end
def hid (p:Addr)(H:Hp):Hp:=λb=>if b=p then none else H b
variable {p:Addr}
theorem ja:fu (hid p H) H:=λb o h=>by
 unfold hid at h
 by_cases e:b=p
 ·rw[aM e]at h;cases h
 ·rw[aH e]at h;exact h
theorem gO {b:Addr}(h:b≠p):hid p H b=H b:=by unfold hid;rw[aH h]
theorem ki:hid p H p=none:=by unfold hid;rw[aM rfl]
theorem oB {H':Hp}(s:fu H H'):fu (hid p H) (hid p H'):=λb o h=>by
 by_cases e:b=p
 ·subst e;rw[ki]at h;cases h
 ·rw[gO e]at h ⊢;exact s _ _ h
theorem pq {o:HO} :hid p (upd H p o)=hid p H:=by
 funext b
 by_cases e:b=p
 ·subst e;rw[ki,ki]
 ·rw[gO e,gO e,fm e]
theorem sC {K:PySem.W.Frag}{a:Addr}{vs:List V}(hp:H p=some (.lst vs))(h:SqT K H a xs):SqT K (hid p H) a xs:=by
 rcases h with(h |⟨o,h⟩)|h
 ·exact .inl (.inl (by rw[gO (fU h hp (by intro z;cases z))];exact h))
 ·exact .inl (.inr ⟨o,by rw[gO (fU h hp (by intro z;cases z))];exact h⟩)
 ·exact .inr h
theorem DO (xs:List V){i:Int}(h:0<=i):pL xs (some i) none=xs.drop i.toNat:=by
 unfold pL
 rw[HT.tj]
 have e:HT.sIx xs.length 0 (some i)=min i.toNat xs.length:=by
  have:=HT.Au xs.length 0 i.toNat
  rw[show((i.toNat:Nat):Int)=i by omega]at this
  exact this
 rw[e]
 by_cases h2:i.toNat<=xs.length
 ·rw[Nat.min_eq_left h2,bX (by rw[bS];omega)]
 ·rw[Nat.min_eq_right (by omega),List.drop_of_length_le (au _),List.drop_of_length_le (by omega),List.take_nil]
theorem Fx {v:V}(h:xs[xs.length-1]? = some v):atI xs (-1)=some v:=by
 have h1:=(af.mp h).1
 have hne:xs≠ []:=λe=>by rw[e]at h1;simp at h1
 have e:xs.getLast hne=v:=by
  rw[List.getLast_eq_getElem]
  exact(af.mp h).2
 rw[<-bL hne,e]
 exact y4 _ _
theorem rC {v:V}{i:Int}(h0:0<=i)(h:xs[i.toNat]? = some v):atI xs i=some v:=by
 have:=ko h
 rw[show((i.toNat:Nat):Int)=i by omega]at this
 exact this
section
variable {K:PySem.W.Frag}{l:Addr}{g:TG}{tt:TT}{te:TE}{cap:List (Option Nat)}{σ:St}{Q:VK}{H1:Hp}{J:It}
theorem AI {α:Type}(n:Nat)(ds:List α)(d':α->PyData)(hn:H1 l=none)(hlen:n=ds.length)(hz:n<sizeLine)(go:∀ i H,fu H1 H->i<n->J.go i H)(st:∀ H,fu H1 H->J.stop n H)
  (hs:∀ i x d H H',fu H1 H->(∃ us,H l=some (.lst us))->J.yld i H x H'->ds[i]? = some d->∀ (P1:VK) (P0:Hp->Prop),(∀ v H2,fu H H2->Da K (hid l H2) (d' d) v->P1 v H2)->
   g x (iY cap σ) H' λσ2 H2=>tt σ2 H2 λb H3=>if b=true then te σ2 H3 P1 else P0 H3)
  (hq:∀ vs H',fu H1 H'->H' l=some (.lst vs)->Das K (hid l H') (ds.map d') vs->Q (.ref l) H'):LcW J g tt te cap σ Q l H1:=by
 refine t6 n (λi acc H=>Das K (hid l H) ((ds.take i).map d') acc/\fu H1 H/\H l=some (.lst acc)) ⟨gw.mpr rfl,fb hn,fg⟩ (λi acc H hi ⟨_,s,_⟩=>go i H s hi) (λacc H ⟨_,s,_⟩=>st H s) ?_ ?_
 ·rintro i x acc H H' hi ⟨e1,s,hl⟩ y
  have hd:ds[i]? = some (ds[i]'(by omega)):=by simp
  generalize ds[i]'(by omega)=d at hd
  refine hs i x d H H' s ⟨_,hl⟩ y hd _ _ (λv H2 s2 dv=>?_)
  have la:=Dgs.length e1
  rw[aa,bg]at la
  refine⟨s2 _ _ hl,by omega,?_,fu.upd (s.trans s2) hn,fg⟩
  rw[pq,aQ,hd,aw]
  exact Dgs.append (Das.same (oB s2) e1) (Dgs.one dv)
 ·rintro acc H ⟨e1,s,hl⟩
  rw[bX (by omega)]at e1
  exact hq acc H s hl e1
end
open PySem.W
section
variable {X:Cx}{pins:List (Addr×Obj)}{σ:St}{H H3:Hp}{s s3:Shared}{scope:Scope}{N:List Str}{own:Nat}{cap:List (Option Nat)}{cl:List (Str×Addr)}{fp:List Addr}{E:XK}
def XC (X:Cx)(scope:Scope)(cl:List (Str×Addr))(N:List Str)(fp:List Addr)(s3:Shared)(H3:Hp)(E:XK):Value->Shared->Prop:=λev s'=>∃ (tF:List (Addr×Obj)) (σ':St) (H':Hp) (s0:Shared),Inv (fR X scope cl N fp s3 H3) tF σ' H' s0/\CXr X.prog X.w X.base X.stack H' s0 E ev s'
abbrev JT (X:Cx)(scope:Scope)(cl:List (Str×Addr))(N:List Str)(fp:List Addr)(s3:Shared)(H3:Hp)(E:XK):Cx:=(fR X scope cl N fp s3 H3).sH (XC X scope cl N fp s3 H3 E)
end
section
variable {X:Cx}{pins:List (Addr×Obj)}{σ:St}{H1:Hp}{s2:Shared}{scope:Scope}{N:List Str}{own:Nat}{cap:List (Option Nat)}{cl:List (Str×Addr)}{fp:List Addr}
 {tg iter elt:Expr}{ifs:List Expr}{pos:Pos}{g:TG}{tt:TT}{te:TE}{wi:TI}{E:XK}
end
end TL
namespace TL
open PySem PySem.Spec PyProof.Rows L2
theorem jD {P:Program}{w:World}{base:Heap}{X:Cx} :Passes (CXr P w base) X E0:=λ_ _ _ _ _ _ _ hx=>by
 obtain⟨_,_,_,_,_,_,_,_,q⟩:=hx
 exact q.elim
section
variable {X:Cx}{pins:List (Addr×Obj)}{σ:St}{H:Hp}{s:Shared}{a:Addr}{kvs:List (List Key×V)}
theorem Inv.freeze (I:Inv X pins σ H s)(ha:H a=some (.dT kvs)):∃ o,Inv X pins σ (upd H a (.frz o (.dT kvs))) s:=by
 obtain⟨z,hm,xs,r,o,es,ep,e,c⟩:=I.hok a _ ha
 refine⟨o,?_⟩
 have h0:Inv X pins σ (upd H a (.frz o (.dT kvs))) {s with heap:=s.heap,toks:=s.toks} :=by
  refine I.un (t':=s.toks) ⟨λb o q _ _ _=>q,λb o q _ _ _=>⟨o.slots,q⟩,λb u q n _=>?_,λb o q _=>⟨o,q⟩,λb xs q=>?_,λb u x q=>?_,λb ps q=>⟨#[],?_⟩⟩ λb u q=>?_
  ·rw[fm (bF (fw ha n))];exact n
  ·rw[fm (fU q ha (by intro z;cases z))];exact q
  ·rw[fm (fU q ha (by intro z;cases z))];exact q
  ·rw[fm (fU q ha (by intro z;cases z)),q];simp
  ·have ho:∀ c b',H c=some (.own b')->upd H a (.frz o (.dT kvs)) c=some (.own b'):=λc b' q=>by rw[fm (fU q ha (by intro z;cases z))];exact q
   have ht:∀ c xs,H c=some (.tup xs)->upd H a (.frz o (.dT kvs)) c=some (.tup xs):=λc xs q=>by rw[fm (fU q ha (by intro z;cases z))];exact q
   by_cases hb:b=a
   ·subst hb
    rw[fg]at q
    cases q
    exact⟨e,(I.hok b _ ha).lD (λ_ _ _ q=>q) (λc q=>ho c _ q) ht⟩
   ·rw[fm hb]at q
    exact(I.hok b u q).lD (λ_ _ _ q=>q) (λc q=>ho c _ q) ht
 exact h0
theorem Inv.GZ {o:Obj}(I:Inv X pins σ H s)(ha:H a=some (.frz o (.dT kvs)))(h0:∀ o u,X.H₀ a≠some (.frz o u)):Inv X pins σ (upd H a (.dT kvs)) s:=by
 have ne:∀ b,H b=none->b≠a:=λb n=>bF (fw ha n)
 have hu:Un X.fs X.ex X.H₀ (upd H a (.dT kvs)) X.s₀.heap s.heap:=by
  refine⟨I.base.keep,I.base.slot,λb u q n hx=>?_,I.base.there,λb xs q=>?_,λb u x q=>?_,λb ps q=>?_⟩
  ·have:=I.base.free b u q n hx
   rw[fm (ne b this)];exact this
  ·have:=I.base.ky b xs q
   rw[fm (fU this ha (by intro z;cases z))];exact this
  ·have hb:b≠a:=λz=>by subst z;exact h0 _ _ q
   rw[fm hb];exact I.base.nX b u x q
  ·obtain⟨m,e⟩:=I.base.pT b ps q
   exact⟨m,by rw[fm (fU e ha (by intro z;cases z))];exact e⟩
 refine⟨I.ok,I.os,I.bare,hu,I.loc,I.cell,by rw[fm (ne _ I.free)];exact I.free,λx c e=>by rw[fm (ne _ (I.kj x c e))];exact I.kj x c e,λp hp=>?_,λb u q=>?_,I.len⟩
 ·obtain⟨p1,p2,p3⟩:=I.pin p hp
  exact⟨p1,by rw[fm (ne _ p2)];exact p2,p3⟩
 ·have ho:∀ c b',H c=some (.own b')->upd H a (.dT kvs) c=some (.own b'):=λc b' q=>by rw[fm (fU q ha (by intro z;cases z))];exact q
  have ht:∀ c xs,H c=some (.tup xs)->upd H a (.dT kvs) c=some (.tup xs):=λc xs q=>by rw[fm (fU q ha (by intro z;cases z))];exact q
  by_cases hb:b=a
  ·subst hb
   rw[fg]at q
   cases q
   exact(I.hok b _ ha).2.lD (λ_ _ _ q=>q) (λc q=>ho c _ q) ht
  ·rw[fm hb]at q
   exact(I.hok b u q).lD (λ_ _ _ q=>q) (λc q=>ho c _ q) ht
def J8 (t:TE):TE:=λσ H Q=>∃ a kvs,H a=some (.dT kvs)/\∀ o,t σ (upd H a (.frz o (.dT kvs))) λv H'=>H' a=some (.frz o (.dT kvs))/\Q v (upd H' a (.dT kvs))
theorem CM {e:Expr}{t:TE}(h:PE X e t):PE X e (J8 t):=by
 intro pins s σ H Q I q
 obtain⟨a,kvs,ha,q⟩:=q
 have h0:∀ o u,X.H₀ a≠some (.frz o u):=λo u z=>by have:=I.base.nX a o u z;rw[ha]at this;cases this
 obtain⟨o,I1⟩:=Inv.freeze I ha
 refine thn (h pins s σ _ _ I1 (q o)) λu s1 ⟨v,H1,I2,r,e1,q1⟩=>⟨v,_,Inv.GZ I2 e1 h0,r,q1⟩
def KU (t:TS):TS:=λD σ H=>∃ a kvs,H a=some (.dT kvs)/\∀ o,t ⟨λσ' H'=>H' a=some (.frz o (.dT kvs))/\D.nx σ' (upd H' a (.dT kvs)),λv H'=>H' a=some (.frz o (.dT kvs))/\D.rt v (upd H' a (.dT kvs)),λ_ _=>False,λ_ _=>False⟩ σ (upd H a (.frz o (.dT kvs)))
theorem GA {st:Stmt}{t:TS}(h:PS X st t):PS X st (KU t):=by
 intro pins s σ H D I q
 obtain⟨a,kvs,ha,q⟩:=q
 have h0:∀ o u,X.H₀ a≠some (.frz o u):=λo u z=>by have:=I.base.nX a o u z;rw[ha]at this;cases this
 obtain⟨o,I1⟩:=Inv.freeze I ha
 refine thn (h pins s σ _ _ I1 (q o)) λf s1 hf=>?_
 match f,hf with
 |.next,⟨σ',H',I2,e1,q1⟩=>exact⟨σ',_,Inv.GZ I2 e1 h0,q1⟩
 |.brk,⟨_,_,_,q1⟩=>exact q1.elim
 |.cont,⟨_,_,_,q1⟩=>exact q1.elim
 |.ret u,⟨v,σ',H',I2,r,e1,q1⟩=>exact⟨v,σ',_,Inv.GZ I2 e1 h0,r,q1⟩
end
section
variable {prog:Program}{w:World}{A:Around}{E:Value->Shared->Prop}{s:Shared}{d it:Addr}{o:Obj}{es:Array DictEntry}{ep i:Nat}
theorem mZ (ho:s.heap.get? d=some o)(hx:o.ExactDict):s.TypeIs (.ref d) "dict" :=⟨o,ho,hx.1⟩
theorem vH {Q:Value->Shared->Prop}(hn:(d==sysModules)=false)(ho:s.heap.get? d=some o)(hx:o.ExactDict)(hd:o.data = .dict es ep)
  (hQ:Q (.ref s.heap.objs.size) {s with heap:=s.heap.push {cls:=.type "dict_keyiterator",data:=.fields #[.ref d,.int 0 0,.int es.size 0,.int ep 0]}}):wpAny (model prog w) A (pyIter (.ref d)) Q E s:=by
 have hT:=mZ ho hx
 refine wpAny_pyIter_slot hT F.slot_dict_iter (bW F.slot_dict_iter hT F.entry_dict_iter ?_ (F.args_dict_iter_1 _))
 unfold Builtin.«dict.__iter__»
 refine ae ?_
 unfold Builtin.Dict.dictSlotNone
 refine ae (wpAny_notOrdered_dict hT (aq ?_))
 show wpAny _ _ (Builtin.Dict.showsAll d >>= _) _ _ s
 unfold Builtin.Dict.showsAll
 rw[aH (by rw[hn];exact aF)]
 refine ae (aq (ae (dq ho hd (ae (dU ho hd ?_)))))
 refine ae (cf (aq ⟨_,rfl,"dict_keyiterator",_,⟨_,aT _ rfl,rfl⟩,bU.lookup,?_⟩))
 simpa [rawInt]using hQ
theorem vG {Q:Option Value->Shared->Prop}{e:DictEntry}(hit:s.heap.IsKeyIter it d i es.size ep)(ho:s.heap.get? d=some o)(hd:o.data = .dict es ep)(hx:es[i]? = some e)
  (hQ:∀ h',h'.IsKeyIter it d (i+1) es.size ep->Heap.SameBut it s.heap h'->Q (some e.key) {s with heap:=h'}):wpAny (model prog w) A (pyNext (.ref it)) Q E s:=by
 obtain⟨oi,hoi,hc,hdi⟩:=id hit
 have hT:=hit.typeIs
 unfold pyNext
 refine ae (wpAny_attempt (dY (name:=Str.ofString "__next__") hT bU
  (bW bU hT F.entry_dict_keyiterator_next ?_ (F.args_dict_keyiterator_next_1 _))))
 refine ae (aq (ae (ae ?_)))
 first |refine ae (cZ hT (aq ?_))|refine ae (dH hT (aq ?_))
 refine ae (wpAny_fieldsOf hoi hdi ?_)
 have w6:Builtin.Dict_items.ownsTuple "dict_keyiterator" = false:=by decide
 simp only[w6,bK,cD]
 show wpAny _ _ (if(Value.ref d==Value.none)=true then _ else _) _ _ s
 rw[aH (show ¬((Value.ref d==Value.none)=true) from aF)]
 refine ae (aq (ae (dq ho hd ?_)))
 rw[aH (by simp)]
 refine ae (aq (ae (dU ho hd ?_)))
 rw[aH (by simp)]
 refine aq ?_
 obtain⟨hlt,he⟩:=Array.getElem?_eq_some_iff.mp hx
 simp only[show ¬((i:Int)<0) from by omega,cD,dS,eN hlt]
 refine ae ?_
 first |refine ae (cZ hT (aq ?_))|refine ae (dH hT (aq ?_))
 refine ae (wpAny_isOneOf_keyiter hT ?_)
 show wpAny _ _ (setField (.ref it) 1 (rawInt ((i:Int)+1)) >>= _) _ _ s
 refine ae (wpAny_setField hoi hdi (by simp) ?_)
 have Fd:(s.heap.update it (Obj.mapFields (·.setIfInBounds 1 (rawInt ((i:Int)+1))))).IsKeyIter it d (i+1) es.size ep:=
  ⟨_,Heap.get?_update_self _ hoi (Obj.isFreed_of_fields (Obj.data_mapFields hdi _)),(Obj.cls_mapFields ..).trans hc,by rw[Obj.data_mapFields hdi];simp[rawInt]⟩
 refine ae (cS ?_)
 refine ae (wpAny_isOneOf_keyiter (s:={s with heap:=s.heap.update it (Obj.mapFields (·.setIfInBounds 1 (rawInt ((i:Int)+1))))}) Fd.typeIs ?_)
 show wpAny _ _ (pure es[i].key) _ _ _
 rw[he]
 exact aq (aq ⟨_,rfl,aq (hQ _ Fd (Heap.SameBut.update ..))⟩)
theorem xX {Q:Option Value->Shared->Prop}(hh:A.handled=none)(hit:s.heap.IsKeyIter it d i es.size ep)(ho:s.heap.get? d=some o)(hd:o.data = .dict es ep)(hx:es.size<=i)
  (hQ:∀ h',Heap.ExtBut it s.heap h'->Q none {s with heap:=h'}):wpAny (model prog w) A (pyNext (.ref it)) Q E s:=by
 obtain⟨oi,hoi,hc,hdi⟩:=id hit
 have hT:=hit.typeIs
 unfold pyNext
 refine ae (wpAny_attempt (dY (name:=Str.ofString "__next__") hT bU
  (bW bU hT F.entry_dict_keyiterator_next ?_ (F.args_dict_keyiterator_next_1 _))))
 refine ae (aq (ae (ae ?_)))
 first |refine ae (cZ hT (aq ?_))|refine ae (dH hT (aq ?_))
 refine ae (wpAny_fieldsOf hoi hdi ?_)
 have w6:Builtin.Dict_items.ownsTuple "dict_keyiterator" = false:=by decide
 simp only[w6,bK,cD]
 show wpAny _ _ (if(Value.ref d==Value.none)=true then _ else _) _ _ s
 rw[aH (show ¬((Value.ref d==Value.none)=true) from aF)]
 refine ae (aq (ae (dq ho hd ?_)))
 rw[aH (by simp)]
 refine ae (aq (ae (dU ho hd ?_)))
 rw[aH (by simp)]
 refine aq ?_
 simp only[show ¬((i:Int)<0) from by omega,cD,dS,Array.getElem?_eq_none hx]
 refine ae ?_
 first |refine ae (cZ hT (aq ?_))|refine ae (dH hT (aq ?_))
 show wpAny _ _ (setField (.ref it) 0 .none >>= _) _ _ s
 refine ae (wpAny_setField hoi hdi (by simp) ?_)
 show wpAny _ _ (newExc (.type "StopIteration") [] >>= _) _ _ _
 refine ae ?_
 simp only[newExc,newTuple]
 refine ae (cf ?_ (by size_fits))
 refine ae (m:=firstArgMember _ _) (wpAny_of_eq (a:=Value.none) (by first |rfl |(simp only[firstArgMember];rfl)) ?_)
 refine cf ?_ (by size_fits)
 simp only[raiseNew]
 refine ae (wpAny_handled ?_)
 rw[show A.in1.handled=none from hh]
 refine ae (aq (wpAny_throw ?_))
 refine ae (eE (T:= "StopIteration") (b:=true) ⟨_,aT _ rfl,rfl⟩ isSubtype_stop ?_)
 exact aq (hQ _ (((Heap.SameBut.update ..).extBut.push _).push _))
theorem vF {Q:Value->Shared->Prop}{n:Nat}(hit:s.heap.IsKeyIter it d i n ep)(h:Q (.ref it) s):wpAny (model prog w) A (pyIter (.ref it)) Q E s:=by
 have hT:=hit.typeIs
 refine wpAny_pyIter_slot hT F.slot_dict_keyiterator_iter (bW F.slot_dict_keyiterator_iter hT F.entry_dict_keyiterator_iter ?_ (F.args_dict_keyiterator_iter_1 _))
 show wpAny _ _ (ret (.ref it)) _ _ s
 exact aq ⟨_,rfl,"dict_keyiterator",_,hT,bU.lookup,h⟩
end
theorem pj {α β:Type}{R:α->β->Prop} :∀ {l₁:List α}{l₂:List β}{i:Nat}{p:α},Paired R l₁ l₂->l₁[i]? = some p->∃ q,l₂[i]? = some q/\R p q
 |_,_,0,_,.cons r _,e=>by cases e;exact⟨_,rfl,r⟩
 |_,_,i+1,p,.cons _ t,e=>pj (i:=i) t e
def Itk (a:Addr)(o:Obj)(kvs:List (List Key×V)):It:=
 ⟨λi H=>H a=some (.frz o (.dT kvs))/\i<kvs.length,λi H x H'=>H'=H/\∃ b p,kvs[i]? = some p/\x = .ref b/\H b=some (.tup (p.1.map kV)),λi H=>H a=some (.frz o (.dT kvs))/\kvs.length<=i⟩
theorem Bd {P:Program}{w:World}{K:PySem.W.Frag}{tg:Expr}{hx:Heap}(htg:∀ it u,letOwnedTupleGo tg it u=pure ())(a it:Addr)(o:Obj)(kvs:List (List Key×V))(es:Array DictEntry)(ep:Nat)(hd:o.data = .dict es ep)(hl:es.size=kvs.length):
  Turn P w K tg (Itk a o kvs) [it] it (λi h=>h.IsKeyIter it a i es.size ep) where
 mem:=by simp
 obj:=λi h st b hb=>by
  have e:b=it:=by simpa using hb
  subst e
  obtain⟨oi,hoi,_,hdi⟩:=st
  exact⟨oi,hoi,λv z=>by rw[hdi]at z;cases z⟩
 keep:=λi h h' st k=>by
  obtain⟨oi,hoi,r⟩:=st
  exact⟨oi,k it (by simp) oi hoi,r⟩
 item:=by
  intro X hP hw hK hc i pins s σ H E I hf st hg
  subst hP hw hK
  obtain⟨ha,hi⟩:=hg
  obtain⟨ho,z,hm,xs,r,o',es',ep',e',_,hd',hes,_⟩:=I.hok a _ ha
  rw[ho]at e'
  cases e'
  rw[hd]at hd'
  cases hd'
  have hp:kvs[i]? = some kvs[i]:=by simp[hi]
  obtain⟨q,hq,q1,q2,q3⟩:=pj r hp
  have he:es[i]? = some (entryOfKey (tupleKind (gU X.prog X.w)) q):=by
   rw[<-d8,hes,ao,hq];rfl
  obtain⟨g0,g1,g2,g3,g4,g5⟩:=hf it (by simp)
  refine vG st ho hd he λh' k1 k2=>?_
  refine⟨_,rfl,?_⟩
  rw[htg]
  refine aq ⟨.ref q.2.1,H,I.turned (t':=s.toks) (λb u hb e=>k2.extBut b u hb e) g0 g1 g3 g4 g5,rfl,⟨rfl,q.2.1,_,hp,rfl,q2⟩,k1,λb hb=>?_⟩
  have e:b=it:=by simpa using hb
  subst e;exact g0
 done:=by
  intro X hP hw hK hc i pins s σ H E I hf st hg
  subst hP hw hK
  obtain⟨ha,hi⟩:=hg
  obtain⟨ho,_⟩:=I.hok a _ ha
  obtain⟨g0,g1,g2,g3,g4,g5⟩:=hf it (by simp)
  exact xX (I.ok.hd hc) st ho hd (by rw[hl];exact hi) λh' eb=>⟨rfl,I.turned (t':=s.toks) (λb u hb e=>eb b u hb e) g0 g1 g3 g4 g5⟩
 self:=λ_ _ _ _ _ st h=>vF st h
section
variable {X:Cx}
def Jc (tl:TE):TI:=λσ H R=>tl σ H λx H1=>∃ a o kvs,x = .ref a/\H1 a=some (.frz o (.dT kvs))/\R (Itk a o kvs) H1
theorem EH {tg e:Expr}{tl:TE}(hl:PE X e tl)(htg:∀ it u,letOwnedTupleGo tg it u=pure ():=by intro _ _;rfl):PI X tg e (Jc tl):=by
 intro pins s σ H R I h
 refine thn (hl pins s σ H _ I h) λu s1 ⟨x,H1,I1,r1,a,o,kvs,ex,ha,q⟩=>?_
 subst ex
 cases(show u=Value.ref a from r1)
 obtain⟨ho,z,hm,xs,r,o',es,ep,e',hxd,hd,hes,_⟩:=I1.hok a _ ha
 rw[ho]at e'
 cases e'
 have hsz:es.size=kvs.length:=by
  have h1:=bQ List.length hes
  rw[cM,aa,<-bR r]at h1
  exact h1
 refine vH hm ho hxd hd ?_
 refine⟨s1.heap.objs.size,[s1.heap.objs.size],_,_,H1,rfl,I1.kept (t':=s1.toks) (λb u e=>aD _ e),Bd (hx:=s1.heap) htg a _ o kvs es ep hd hsz,⟨_,aT _ rfl,rfl,rfl⟩,λb hb=>?_,q⟩
 have e:b=s1.heap.objs.size:=by simpa using hb
 subst e
 exact I1.zW (au _) (I1.hok.fresh (au _))
end
section
variable {X:Cx}{pins:List (Addr×Obj)}{σ:St}{H:Hp}{s:Shared}{a b:Addr}{kvs:List (List Key×V)}{k:List Key}{v:V}{r:Value}{A:Around}{E:Value->Shared->Prop}
theorem HH {Q:Unit->Shared->Prop}(hu:A.units<cLine)(I:Inv X pins σ H s)(e:H a=some (.dT kvs))(eb:H b=some (.tup (k.map kV)))(l:kvs.length<sizeLine)(rv:RelV v r)
  (h:∀ s',Inv X pins σ (upd H a (.dT (putK kvs k v))) s'->Q () s'):wpAny (model X.prog X.w) A (dictSet a (.ref b) r) Q E s:=by
 obtain⟨z,hd,xs,rel,dd⟩:=DI I.hok e
 have hz:xs.length<=sizeLine:=by rw[<-bR rel];exact z
 have hl:(putK kvs k v).length<=sizeLine:=by have:=oy kvs k v;omega
 refine wpAny_dictSet_heap (hsz:=hz) hu (qZ I.hok eb) dd λh' dd' hs=>h _ ?_
 obtain⟨q,es,ep,hq,h2,h3,h4,_,h5⟩:=dd'
 refine qF I (by rw[e];exact True.intro) hs ⟨q,hq⟩ ⟨hl,hd,_,(rel.put k eb rv).keeps λc ys ec=>?_,q,es,ep,hq,h2,h3,h4,h5⟩
 rw[fm (fU ec e (λz=>nomatch z))]
 exact ec
def Gk (tk tv:TE):TE:=λσ H Q=>∀ p,H p=none->zk [(tk,tv)] σ (upd H p (.dT [])) λps H2=>∃ (x y:V) (b:Addr) (ks:List Key),ps = [(x,y)]/\x=V.ref b/\H2 b=some (.tup (ks.map kV))/\H2 p=some (.dT [])/\Q (.ref p) (upd H2 p (.dT [(ks,y)]))
theorem yg {pos:Pos}{k v:Expr}{tk tv:TE}(hu:X.A.units+1<cLine)(hk:PE X k tk)(hv:PE X v tv):PE X (.Dict [some k] [v] pos) (Gk tk tv):=by
 intro pins s σ H Q I q
 have hn:=I.hok.fresh (au s.heap.objs.size)
 have I1:=I.laid (a:=s.heap.objs.size) (o:=.dT []) (h':=s.heap.push {cls:=.type "dict",data:=.dict #[]}) (t':=s.toks) (λ_ _ q=>aD _ q) (au _) (yJ s.heap I.big)
 refine wpAny_Dict_any rfl rfl (by simp) (by simp) (thn (CG hk hv EF pins _ σ _ _ I1 (q _ hn)) λws s2 ⟨ps,H2,I2,rel,x,y,b,ks,ep,ex,hb,hp,q2⟩=>?_)
 subst ep ex
 cases rel with
 |@cons p w' ps ws r t=>
   cases t
   obtain⟨w1,w2⟩:=w'
   obtain⟨r1,r2⟩:=r
   cases(show w1=Value.ref b from r1)
   unfold storeAll
   rw[cG]
   refine ae (ae (HH (by omega) I2 hp hb (by rw[cX];decide) r2 λs3 I3=>aq ?_))
   refine aq ⟨.ref s.heap.objs.size,_,I3,rfl,?_⟩
   exact q2
theorem CL {x y n:Str}{i:Int}{u:Value}{k1 k2:Nat}{p1 p2 p3 p4 pos:Pos}(hg:Gl X n)(hm:X.mg n=some u)(r:RelV (.int i) u)(hi:i.natAbs.log2<1920)(hz:x.length<=1000/\y.length<=1000/\(Str.ofString (toString i)).length<=1000)
  (hd:(n==("__debug__" :Str))=false:=by decide):PE X (.JoinedStr [.Constant (.str x) k1 p1,.FormattedValue (.Name n p2) (-1) none p3,.Constant (.str y) k2 p4] pos) (λ_ H Q=>∀ z,Q (.str z) H):=by
 intro pins s σ H Q I q
 obtain⟨t,rfl⟩:=r
 have hl:∀ a b:Str,(a++b).length=a.length+b.length:=strLen_append
 have he:Str.empty.length=0:=rfl
 refine wpAny_JoinedStr ?_
 refine PySem.wpAny_Constant_str ⟨x,_,rfl,by rw[hl,he,dB];omega,?_⟩
 refine wpAny_FormattedValue_plain (pk (I.tok _) hg hm (wpAny_formatField_int hi ⟨_,_,rfl,by rw[hl,hl,he,dB];omega,?_⟩) hd)
 refine PySem.wpAny_Constant_str ⟨y,_,rfl,by rw[hl,hl,hl,he,dB];omega,?_⟩
 refine⟨by rw[hl,hl,hl,he,dB];omega,⟨.str _,H,?_,⟨_,rfl⟩,q _⟩⟩
 exact I.tok _
end
section
variable {X:Cx}{K:PySem.W.Frag}
theorem kW (e:X.K=K):mF X (.type "list") (λxs H Q=>∃ p ys,xs = [.ref p]/\(SqL K H p ys\/SqT K H p ys)/\∀ l,H l=none->Q (.ref l) (upd H l (.lst ys))):=by subst e;exact kn
end
abbrev Ln:=Int×List (Int×Int)
structure fW (l:Ln)(ns:List Int):Prop where
 ends:∀ e∈ns,0<=e/\e<2*l.1
 nd:(ns.map (· / 2)).Nodup
 ch:∀ (i:Nat) x y,ns[i]? = some x->ns[i+1]? = some y->y∈jn l.2 (oth x)
variable {l:Ln}{e:Int}
theorem kh (ok:fG l){x:Int} :x∈jn l.2 e↔(min e x,max e x)∈l.2:=by
 unfold jn
 rw[Eu,ay]
 constructor
 ·rintro(z |z)
  ·obtain⟨p,hp,rfl⟩:=ai.mp z
   obtain⟨h1,h2⟩:=br.mp hp
   have h2:p.2=e:=by simpa using h2
   have:=ok.ends p h1
   have e1:(min e p.1,max e p.1)=p:=cO (by show min e p.1=p.1;omega) (by show max e p.1=p.2;omega)
   rw[e1];exact h1
  ·obtain⟨p,hp,rfl⟩:=ai.mp z
   obtain⟨h1,h2⟩:=br.mp hp
   have h2:p.1=e:=by simpa using h2
   have:=ok.ends p h1
   have e1:(min e p.2,max e p.2)=p:=cO (by show min e p.2=p.1;omega) (by show max e p.2=p.2;omega)
   rw[e1];exact h1
 ·intro h
  by_cases hx:e<=x
  ·have e1:(min e x,max e x)=(e,x):=cO (by show min e x=e;omega) (by show max e x=x;omega)
   rw[e1]at h
   exact .inr (ai.mpr ⟨(e,x),br.mpr ⟨h,by simp⟩,rfl⟩)
  ·have e1:(min e x,max e x)=(x,e):=cO (by show min e x=x;omega) (by show max e x=e;omega)
   rw[e1]at h
   exact .inl (ai.mpr ⟨(x,e),br.mpr ⟨h,by simp⟩,rfl⟩)
theorem nN (ok:fG l){x:Int}(h:x∈jn l.2 e):e∈jn l.2 x:=by
 rw[kh ok]at h ⊢
 rw[show min x e=min e x by omega,show max x e=max e x by omega];exact h
theorem uc (ok:fG l){x:Int}(h:x∈jn l.2 e):0<=x/\x<2*l.1:=by
 have:=ok.ends _ ((kh ok).mp h)
 dsimp only at this
 omega
variable {ns:List Int}
theorem rh {x:Int}(h:x∈fr l ns e):x∈jn l.2 e/\x/2∉ns.map (· / 2):=by
 obtain⟨h1,h2⟩:=br.mp h
 exact⟨h1,by simpa using h2⟩
theorem fW.on (ok:fG l)(T:fW l ns)(hne:ns≠ [])(he:e∈fr l ns (oth (ns.getLastD 0))):fW l (ns.drop 1 ++ [e]):=by
 obtain⟨h1,h2⟩:=rh he
 have hl:1<=ns.length:=by cases ns with |nil=>exact absurd rfl hne |cons x r=>simp
 refine⟨λx hx=>?_,?_,λi x y hx hy=>?_⟩
 ·rcases ay.mp hx with z |z
  ·exact T.ends x (List.mem_of_mem_drop z)
  ·have z:x=e:=by simpa using z
   rw[z];exact uc ok h1
 ·rw[aw,bx]
  refine⟨by rw[eS];exact T.nd.sublist (List.drop_sublist _ _),by simp,λa ha b hb z=>?_⟩
  have hb:b=e/2:=by simpa using hb
  rw[eS]at ha
  exact h2 (by rw[<-hb,<-z];exact List.mem_of_mem_drop ha)
 ·have ld:(ns.drop 1).length=ns.length-1:=bS
  by_cases hi:i+1<(ns.drop 1).length
  ·rw[ak hi,cE]at hy
   rw[ak (by omega),cE]at hx
   exact T.ch (1+i) x y hx (by rw[<-hy];congr 1)
  ·have hlt:=(af.mp hy).1
   rw[ah,aA]at hlt
   have e1:i+1=(ns.drop 1).length:=by omega
   rw[e1,av (au _),aV]at hy
   cases hy
   rw[ak (by omega),cE]at hx
   have e2:ns.getLastD 0=x:=by
    rw[bc,b9,show ns.length-1=1+i by omega,hx];rfl
   rw[e2]at h1
   exact h1
theorem fW.back (ok:fG l)(T:fW l ns)(hne:ns≠ [])(he:e∈fr l ns (ns.headD 0)):fW l (oth e::ns.dropLast):=by
 obtain⟨h1,h2⟩:=rh he
 have hl:1<=ns.length:=by cases ns with |nil=>exact absurd rfl hne |cons x r=>simp
 refine⟨λx hx=>?_,?_,λi x y hx hy=>?_⟩
 ·rcases aK.mp hx with z |z
  ·rw[z]
   have:=uc ok h1
   unfold oth
   omega
  ·exact T.ends x ((List.dropLast_sublist ns).subset z)
 ·rw[aN,bu]
  refine⟨λz=>h2 ?_,?_⟩
  ·rw[qu]at z
   have:=(List.dropLast_sublist ns).map (· / 2)
   exact this.subset z
  ·exact T.nd.sublist ((List.dropLast_sublist ns).map _)
 ·cases i with
  |zero=>
   cases hx
   have hy:ns.dropLast[0]? = some y:=hy
   rw[i6]
   have hy2:ns[0]? = some y:=by
    have:=(af.mp hy).1
    rw[List.getElem?_dropLast]at hy
    split at hy
    ·exact hy
    ·cases hy
   have e2:ns.headD 0=y:=by cases ns with |nil=>cases hy2 |cons a r=>cases hy2;rfl
   rw[e2]at h1
   exact nN ok h1
  |succ j=>
   have hx:ns.dropLast[j]? = some x:=hx
   have hy:ns.dropLast[j+1]? = some y:=hy
   rw[List.getElem?_dropLast]at hx hy
   split at hx
   ·split at hy
    ·exact T.ch j x y hx hy
    ·cases hy
   ·cases hx
theorem qX {m:Mv}(ok:fG l)(T:fW l ns)(hne:ns≠ [])(hm:m∈mvs l ns):fW l m.2/\m.2.length=ns.length/\m.2≠ []:=by
 have hl:1<=ns.length:=by cases ns with |nil=>exact absurd rfl hne |cons x r=>simp
 rcases ay.mp hm with z |z
 ·obtain⟨e,he,rfl⟩:=ai.mp z
  refine⟨T.on ok hne he,?_,λe=>?_⟩
  ·simp only[onM,ah,bS,aO,cX];omega
  ·simp[onM]at e
 ·obtain⟨e,he,rfl⟩:=ai.mp z
  refine⟨T.back ok hne he,?_,λe=>?_⟩
  ·simp only[ll,aO,eg];omega
  ·simp[ll]at e
theorem md {α:Type} [DecidableEq α]:∀ {l1 l2:List α},l1.Nodup->(∀ x∈l1,x∈l2)->l1.length<=l2.length
 |[],_,_,_=>aP _
 |x::r,l2,nd,h=>by
  rw[bu]at nd
  have hx:=h x aB
  have:=md (l1:=r) (l2:=l2.erase x) nd.2 λy hy=>by
   have:y≠x:=λz=>nd.1 (by rw[<-z];exact hy)
   exact(List.mem_erase_of_ne this).mpr (h y (aC _ hy))
  rw[List.length_erase_of_mem hx]at this
  have h1:1<=l2.length:=by cases l2 with |nil=>cases hx |cons a b=>simp
  rw[aO]
  omega
def uF (l:Ln):List (Int×Int):=l.2.map (λp=>(oth p.1,p.2))++l.2.map λp=>(oth p.2,p.1)
def ux (l:Ln):List Int:=(List.range (2*l.1).toNat).map λi:Nat=>(i:Int)
def pM (l:Ln):Nat->List (List Int)
 | 0=>[[]]
 | 1=>(ux l).map λe=>[e]
 |n+2=>(uF l).flatMap λp=>(pM l n).map λr=>p.1::p.2::r
theorem Fy (ok:fG l){x y:Int}(h:y∈jn l.2 (oth x)):(x,y)∈uF l:=by
 have h:=(kh ok).mp h
 unfold uF
 rw[ay]
 by_cases hc:oth x<=y
 ·rw[show min (oth x) y=oth x by omega,show max (oth x) y=y by omega]at h
  exact .inl (ai.mpr ⟨_,h,by rw[i6]⟩)
 ·rw[show min (oth x) y=y by omega,show max (oth x) y=oth x by omega]at h
  exact .inr (ai.mpr ⟨_,h,by rw[i6]⟩)
theorem uE {l:Ln}(ok:fG l):∀ (n:Nat) (ns:List Int),ns.length=n->(∀ e∈ns,0<=e/\e<2*l.1)->(∀ (i:Nat) x y,ns[i]? = some x->ns[i+1]? = some y->y∈jn l.2 (oth x))->ns∈pM l n
 | 0,ns,hl,_,_=>by rw[List.eq_nil_of_length_eq_zero hl];exact aB
 | 1,[e],_,he,_=>by
  have:=he e aB
  refine ai.mpr ⟨e,ai.mpr ⟨e.toNat,by rw[cQ];omega,by omega⟩,rfl⟩
 |n+2,x::y::r,hl,he,hc=>by
  refine di.mpr ⟨(x,y),Fy ok (hc 0 x y rfl rfl),ai.mpr ⟨r,uE ok n r (by simpa using hl) (λe h=>he e (aC _ (aC _ h))) (λi a b ha hb=>hc (i+2) a b ha hb),rfl⟩⟩
theorem yV {l:Ln}(ok:fG l):∀ n,(pM l n).length<=160 ^ ((n+1)/2)
 | 0=>by simp[pM]
 | 1=>by
  simp only[pM,ux,aa,cI]
  have:=ok.most
  omega
 |n+2=>by
  have ih:=yV ok n
  simp only[pM]
  rw[List.length_flatMap]
  have e1:(uF l).map (λa=>((pM l n).map λr=>a.1::a.2::r).length)=(uF l).map λ_=>(pM l n).length:=by
   refine List.map_congr_left λa _=>by rw[aa]
  rw[e1,List.map_const',List.sum_replicate_nat]
  have h1:(uF l).length<=160:=by
   unfold uF
   rw[ah,aa,aa]
   have:=ok.len
   omega
  have e2:(n+2+1)/2=(n+1)/2+1:=by omega
  rw[e2,Nat.pow_succ,Nat.mul_comm (160 ^ _)]
  exact Nat.mul_le_mul h1 ih
theorem zi (ok:fG l){n:Nat}(hn:n<=6){ts:List (List Int)}(nd:ts.Nodup)(h:∀ t∈ts,fW l t/\t.length=n):ts.length<=4096000:=by
 have h1:=md nd (l2:=pM l n) λt ht=>uE ok n t (h t ht).2 (h t ht).1.ends (h t ht).1.ch
 have h2:=yV ok n
 have h3:160 ^ ((n+1)/2)<=160 ^ 3:=Nat.pow_le_pow_right (by decide) (by omega)
 have h4:160 ^ 3=4096000:=by decide
 omega
abbrev Ent:=List Int×Option (List Int×(Str×Int))
def mJ (t:List Int)(o:List Ent)(m:Mv):List Ent:=if m.2∈o.map (·.1)then o else o ++ [(m.2,some (t,m.1))]
def gB (t:List Int)(ms:List Mv)(o:List Ent):List Ent:=ms.foldl (mJ t) o
def fA (l:Ln)(ns:List Int):Nat->List Ent
 | 0=>[(ns,none)]
 |i+1=>match (fA l ns i)[i]? with
  |some e=>gB e.1 (mvs l e.1) (fA l ns i)
  |none=>fA l ns i
theorem uH (t:List Int)(o:List Ent)(m:Mv):o <+:mJ t o m:=by
 unfold mJ
 split
 ·exact List.prefix_rfl
 ·exact cU _ _
theorem oY (t:List Int)(ms:List Mv):∀ o,o <+:gB t ms o:=by
 induction ms with
 |nil=>exact λo=>List.prefix_rfl
 |cons m r ih=>exact λo=>(uH t o m).trans (ih _)
theorem sV {t:List Int}{ms:List Mv}{o:List Ent}{j:Nat}{m:Mv}(h:ms[j]? = some m):gB t (ms.take (j+1)) o=mJ t (gB t (ms.take j) o) m:=by
 unfold gB
 rw[aQ,h,bZ];rfl
theorem om {t:List Int}(ms:List Mv)(o:List Ent)(j:Nat):gB t (ms.take j) o <+:gB t ms o:=by
 have:gB t ms o=gB t (ms.drop j) (gB t (ms.take j) o):=by
  unfold gB
  rw[<-bZ,dZ]
 rw[this]
 exact oY _ _ _
theorem mQ {i:Nat}{e:Ent}(h:(fA l ns i)[i]? = some e):fA l ns (i+1)=gB e.1 (mvs l e.1) (fA l ns i):=by
 rw[fA,h]
theorem oV (l:Ln)(ns:List Int)(i:Nat):fA l ns i <+:fA l ns (i+1):=by
 rw[fA]
 split
 ·exact oY _ _ _
 ·exact List.prefix_rfl
theorem sJ (l:Ln)(ns:List Int)(i:Nat):∀ k,fA l ns i <+:fA l ns (i+k)
 | 0=>List.prefix_rfl
 |k+1=>(sJ l ns i k).trans (oV l ns (i+k))
theorem uY {l:Ln}{ns:List Int}{i:Nat}(h:(fA l ns i).length<=i):∀ k,fA l ns (i+k)=fA l ns i
 | 0=>rfl
 |k+1=>by
  have ih:=uY h k
  have:(fA l ns (i+k))[i+k]? = none:=bB (by rw[ih];omega)
  show fA l ns (i+k+1)=_
  rw[fA,this]
  exact ih
structure nA (l:Ln)(ns:List Int)(es:List Ent):Prop where
 tr:∀ e∈es,fW l e.1/\e.1.length=ns.length/\e.1≠ []
 nd:(es.map (·.1)).Nodup
 ne:es≠ []
theorem nA.add {t:List Int}{es:List Ent}{m:Mv}(ok:fG l)(h:nA l ns es)(hm:m∈mvs l t)(ht:fW l t/\t.length=ns.length/\t≠ []):nA l ns (mJ t es m):=by
 unfold mJ
 split
 ·exact h
 ·rename_i hn
  obtain⟨h1,h2,h3⟩:=qX ok ht.1 ht.2.2 hm
  refine⟨λe he=>?_,?_,by simp⟩
  ·rcases ay.mp he with z |z
   ·exact h.tr e z
   ·have z:e=(m.2,some (t,m.1)):=by simpa using z
    rw[z];exact⟨h1,by show m.2.length=ns.length;omega,h3⟩
  ·rw[aw,bx]
   refine⟨h.nd,by simp,λa ha b hb z=>?_⟩
   have hb:b=m.2:=by simpa using hb
   exact hn (by rw[<-hb,<-z];exact ha)
theorem nA.scan {l:Ln}{ns t:List Int}(ok:fG l)(ht:fW l t/\t.length=ns.length/\t≠ []):∀ {ms:List Mv}{es:List Ent},(∀ m∈ms,m∈mvs l t)->nA l ns es->nA l ns (gB t ms es)
 |[],_,_,h=>h
 |m::r,es,hm,h=>nA.scan (ms:=r) ok ht (λx hx=>hm x (aC _ hx)) (h.add ok (hm m aB) ht)
theorem iN {l:Ln}{ns:List Int}(ok:fG l)(T:fW l ns)(hne:ns≠ []):∀ i,nA l ns (fA l ns i)
 | 0=>⟨λe he=>by have z:e=(ns,none):=(by simpa [fA]using he);rw[z];exact⟨T,rfl,hne⟩,by simp[fA],by simp[fA]⟩
 |i+1=>by
  have ih:=iN ok T hne i
  rw[fA]
  split
  ·rename_i e he
   exact nA.scan ok (ih.tr e (ax he)) (λm hm=>hm) ih
  ·exact ih
theorem nA.len {es:List Ent}(ok:fG l)(h:nA l ns es)(hn:ns.length<=6):es.length<=4096000:=by
 have:=zi ok hn h.nd λt ht=>by
  obtain⟨e,he,rfl⟩:=ai.mp ht
  exact⟨(h.tr e he).1,(h.tr e he).2.1⟩
 rw[aa]at this
 exact this
theorem nA.M9 {es:List Ent}(h:nA l ns es)(hn:ns.length=1):es.length<=(2*l.1).toNat:=by
 have:=md h.nd (l2:=(ux l).map λe=>[e]) λt ht=>by
  obtain⟨e,he,rfl⟩:=ai.mp ht
  obtain⟨h1,h2,_⟩:=h.tr e he
  rw[hn]at h2
  match hq:e.1,h2 with
  |[x],_=>
   have:=h1.ends x (by rw[hq];exact aB)
   exact ai.mpr ⟨x,ai.mpr ⟨x.toNat,by rw[cQ];omega,by omega⟩,rfl⟩
 rw[aa,aa]at this
 unfold ux at this
 rw[aa,cI]at this
 exact this
def okJ (m:Int)(p:Int×Int):Prop:=(0<=p.1/\p.1<2*m)/\(0<=p.2/\p.2<2*m)/\p.1<=p.2/\p.1/2≠p.2/2
def Hi (l:Ln):Prop:=1<=l.1/\l.1<=40/\l.2.length<=80/\(∀ p∈l.2,okJ l.1 p)/\l.2.Nodup
structure hG (l:Ln):Prop where
 one:1<=l.1
 most:l.1<=14
 len:l.2.length<=24
 ok:∀ p∈l.2,okJ l.1 p
 nd:l.2.Nodup
theorem hG.jj (G:hG l):fG l:=by
 have h1:=G.len
 refine⟨G.one,by have:=G.most;omega,by omega,λe=>?_,λp hp=>?_⟩
 ·have:=inc_le l.2 e;omega
 ·obtain⟨a,b,c,_⟩:=G.ok p hp
  exact⟨a.1,c,b.2⟩
structure Ren (m:Int)(nm es:List Int):Prop where
 len:(nm.length:Int)=m
 nb:∀ x∈nm,0<=x/\x<m
 nd:nm.Nodup
 BV:es.length=2*nm.length
 at_:∀ j,j<nm.length->∃ f:Int,(f=0\/f=1)/\es[2*j]? = some (2*nm.getD j 0+f)/\es[2*j+1]? = some (2*nm.getD j 0+1-f)
def rho (es:List Int)(e:Int):Int:=es.getD e.toNat 0
def rj (es:List Int)(p:Int×Int):Int×Int:=(min (rho es p.1) (rho es p.2),max (rho es p.1) (rho es p.2))
variable {m:Int}{nm es:List Int}
theorem Ren.rho (R:Ren m nm es)(h0:0<=e)(h1:e<2*m):
  ∃ f:Int,(f=0\/f=1)/\TL.rho es e=2*nm.getD (e/2).toNat 0+(if e%2=0 then f else 1-f)/\
   ∀ e',0<=e'->e'/2=e/2->TL.rho es e'=2*nm.getD (e/2).toNat 0+(if e'%2=0 then f else 1-f):=by
 have hl:=R.len
 obtain⟨f,hf,e1,e2⟩:=R.at_ (e/2).toNat (by omega)
 have key:∀ e',0<=e'->e'/2=e/2->TL.rho es e'=2*nm.getD (e/2).toNat 0+(if e'%2=0 then f else 1-f):=λe' h2 h3=>by
  unfold TL.rho
  by_cases c:e'%2=0
  ·rw[aM c,aJ,show e'.toNat=2*(e/2).toNat by omega,e1];rfl
  ·rw[aH c,aJ,show e'.toNat=2*(e/2).toNat+1 by omega,e2]
   show 2*nm.getD (e/2).toNat 0+1-f=_
   omega
 exact⟨f,hf,key e h0 rfl,key⟩
theorem Ren.Az (R:Ren m nm es)(h0:0<=e)(h1:e<2*m):TL.rho es e/2=nm.getD (e/2).toNat 0:=by
 obtain⟨f,hf,e1,_⟩:=R.rho h0 h1
 rw[e1]
 split<;>omega
theorem Ren.IT (R:Ren m nm es){p:Int}(h0:0<=p)(h1:p<m):0<=nm.getD p.toNat 0/\nm.getD p.toNat 0<m:=by
 have hl:=R.len
 have h2:p.toNat<nm.length:=by omega
 have:nm.getD p.toNat 0=nm[p.toNat]:=by rw[aJ,ag h2];rfl
 rw[this]
 exact R.nb _ (List.getElem_mem h2)
theorem Ren.Dc (R:Ren m nm es){p q:Int}(h0:0<=p)(h1:p<m)(g0:0<=q)(g1:q<m)(e:nm.getD p.toNat 0=nm.getD q.toNat 0):p=q:=by
 have hl:=R.len
 have h2:p.toNat<nm.length:=by omega
 have h3:q.toNat<nm.length:=by omega
 have e1:nm.getD p.toNat 0=nm[p.toNat]:=by rw[aJ,ag h2];rfl
 have e2:nm.getD q.toNat 0=nm[q.toNat]:=by rw[aJ,ag h3];rfl
 rw[e1,e2]at e
 have:=(cR R.nd).mp e
 omega
theorem Ren.Cy (R:Ren m nm es)(h0:0<=e)(h1:e<2*m):0<=TL.rho es e/\TL.rho es e<2*m:=by
 obtain⟨f,hf,e1,_⟩:=R.rho h0 h1
 have:=R.IT (p:=e/2) (by omega) (by omega)
 rw[e1]
 split<;>omega
theorem Ren.inj (R:Ren m nm es){e':Int}(h0:0<=e)(h1:e<2*m)(g0:0<=e')(g1:e'<2*m)(h:TL.rho es e=TL.rho es e'):e=e':=by
 have hp:e/2=e'/2:=by
  have a:=R.Az h0 h1
  have b:=R.Az g0 g1
  rw[h,b]at a
  exact(R.Dc (by omega) (by omega) (by omega) (by omega) a).symm
 obtain⟨f,hf,e1,e2⟩:=R.rho h0 h1
 rw[e1,e2 e' g0 hp.symm]at h
 by_cases c:e%2=0<;>by_cases d:e'%2=0
 ·omega
 ·rw[aM c,aH d]at h;omega
 ·rw[aH c,aM d]at h;omega
 ·omega
theorem Ren.okJ (R:Ren m nm es){p:Int×Int}(h:TL.okJ m p):TL.okJ m (rj es p):=by
 obtain⟨⟨a0,a1⟩,⟨b0,b1⟩,le,ne⟩:=h
 have ha:=R.Cy a0 a1
 have hb:=R.Cy b0 b1
 have pa:=R.Az a0 a1
 have pb:=R.Az b0 b1
 have hne:TL.rho es p.1/2≠TL.rho es p.2/2:=λz=>by
  rw[pa,pb]at z
  exact ne (R.Dc (by omega) (by omega) (by omega) (by omega) z)
 unfold TL.okJ rj
 dsimp only
 generalize TL.rho es p.1=x at *
 generalize TL.rho es p.2=y at *
 refine⟨by omega,by omega,by omega,λz=>?_⟩
 by_cases c:x<=y
 ·rw[bz c,bD c]at z;exact hne z
 ·rw[bC (by omega),bA (by omega)]at z;exact hne z.symm
theorem okJ.lt {p:Int×Int}(h:okJ m p):p.1<p.2:=by
 obtain⟨_,_,le,ne⟩:=h
 by_cases c:p.1=p.2
 ·rw[c]at ne;exact absurd rfl ne
 ·omega
theorem IV {a b c d:Int}(h1:min a b=min c d)(h2:max a b=max c d):(a=c/\b=d)\/(a=d/\b=c):=by
 rcases Int.le_total a b with x |x<;>rcases Int.le_total c d with y |y
 ·rw[bz x,bz y]at h1;rw[bD x,bD y]at h2;exact .inl ⟨h1,h2⟩
 ·rw[bz x,bC y]at h1;rw[bD x,bA y]at h2;exact .inr ⟨h1,h2⟩
 ·rw[bC x,bz y]at h1;rw[bA x,bD y]at h2;exact .inr ⟨h2,h1⟩
 ·rw[bC x,bC y]at h1;rw[bA x,bA y]at h2;exact .inl ⟨h2,h1⟩
theorem Ren.Gv (R:Ren m nm es){p q:Int×Int}(hp:TL.okJ m p)(hq:TL.okJ m q)(e:rj es p=rj es q):p=q:=by
 obtain⟨⟨a0,a1⟩,⟨b0,b1⟩,le,ne⟩:=id hp
 obtain⟨⟨c0,c1⟩,⟨d0,d1⟩,le',ne'⟩:=id hq
 have l1:=hp.lt
 have l2:=hq.lt
 unfold rj at e
 rw[bV]at e
 obtain⟨e1,e2⟩:=e
 obtain⟨pa,pb⟩:=p
 obtain⟨qa,qb⟩:=q
 dsimp only at *
 have hor:=IV e1 e2
 rcases hor with⟨x,y⟩|⟨x,y⟩
 ·rw[R.inj a0 a1 c0 c1 x,R.inj b0 b1 d0 d1 y]
 ·have:=R.inj a0 a1 d0 d1 x
  have:=R.inj b0 b1 c0 c1 y
  omega
theorem Ren.line (R:Ren m nm es){js js':List (Int×Int)}(G:hG (m,js))(hp:js'.Perm (js.map (rj es))):hG (m,js'):=by
 refine⟨G.one,G.most,?_,λp h=>?_,?_⟩
 ·have:=hp.length_eq
  rw[aa]at this
  show js'.length<=24
  have:=G.len
  dsimp only at this
  omega
 ·obtain⟨q,hq,rfl⟩:=ai.mp (hp.mem_iff.mp h)
  exact R.okJ (G.ok q hq)
 ·refine hp.nodup_iff.mpr ?_
  rw[List.Nodup,bY]
  exact dE (λ{a b} ha hb hab z=>hab (R.Gv (G.ok a ha) (G.ok b hb) z)) G.nd
def Q5 (K:PySem.W.Frag)(H:Hp)(Q:VK):Prop:=∀ (v:V) (l:Ln) (H':Hp),fu H H'->Da K H' (dL l) v->hG l->Q v H'
end TL
namespace TL
theorem zT {m:Int}{js:List (Int×Int)}{a b:Int}(G:hG (m,js))(ne:a/2≠b/2)(a0:0<=a)(a1:a<2*m)(b0:0<=b)(b1:b<2*m)(hn:(min a b,max a b)∉js)(hl:js.length<24):hG (m,js ++ [(min a b,max a b)]):=by
 refine⟨G.one,G.most,?_,λp hp=>?_,?_⟩
 ·show(js ++ [(min a b,max a b)]).length<=24
  rw[ah];show js.length+1<=24;omega
 ·rcases ay.mp hp with z |z
  ·exact G.ok p z
  ·have z:p=(min a b,max a b):=by simpa using z
   subst z
   unfold okJ
   dsimp only
   refine⟨by omega,by omega,by omega,λz=>?_⟩
   by_cases c:a<=b
   ·rw[bz c,bD c]at z;exact ne z
   ·rw[bC (by omega),bA (by omega)]at z;exact ne z.symm
 ·refine bx.mpr ⟨G.nd,by simp,λx hx y hy=>?_⟩
  have hy:y=(min a b,max a b):=by simpa using hy
  rw[hy]
  exact λz=>hn (z ▸ hx)
open PySem PySem.Spec PyProof.Rows L2
theorem uM:seqSlot? (.type "list") (dunderI "add")=pure (some (.builtin "list.__iadd__")):=PySem.seqSlot_of PySem.F.slot_list_iadd.lookup (by decide +kernel)
theorem sf:fillsInplaceSlot (.type "list") "add" (Operator.Add == .Add)=pure false:=by
 unfold fillsInplaceSlot
 show(typeLookup (.type "list") (dunderI "add") >>= λfi=>pure (fi.isSome && !isSeqSlot fi))=pure false
 rw[PySem.F.slot_list_iadd.lookup]
 show(pure (true && !isSeqSlot (some (.builtin "list.__iadd__"))):Sem Bool)=_
 rw[show isSeqSlot (some (.builtin "list.__iadd__"))=true by decide +kernel]
 rfl
section
variable {prog:Program}{w:World}{A:Around}{E:Value->Shared->Prop}{s:Shared}{l b:Addr}{items ud:Array Value}{n n2:Nat}
theorem BK {Q:Value->Shared->Prop}(hl:IsL s.heap l items n)(hb:IsL s.heap b ud n2)(hs0:¬(!items.isEmpty&&Builtin.List.listTooLong (items.size+ud.size))=true)
  (h:Q (.ref l) {s with heap:=s.heap.update l (Obj.mapSeq λx=>x++ud)}) (hsz:items.size+ud.size<=sizeLine):wpAny (model prog w) A (inplaceOp .Add (.ref l) (.ref b)) Q E s:=by
 have ha:s.TypeIs (.ref l) "list" :=⟨_,hl,rfl⟩
 have hb':s.TypeIs (.ref b) "list" :=⟨_,hb,rfl⟩
 unfold inplaceOp
 refine cS ?_
 refine ae (wpAny_typeOf ha (ae (wpAny_of_eq sf ?_)))
 show wpAny _ A (if false=true then _ else _) Q E s
 rw[aH aF]
 refine ae (wpAny_binaryOp1_none (nm:= "add") ha hb' noFill_list_add ?_)
 refine ae (wpAny_of_eq uM ?_)
 refine ae (wpAny_rule ?_)
 refine eI PySem.F.slot_list_iadd ha PySem.F.entry_list_iadd (PySem.F.args_list_iadd_2 _ _) (AutoSeq1.list___iadd___list_list_0 l items n b ud n2 hs0 (by omega) (by omega)) ⟨hl,hb,?_⟩
 exact h
end
section
variable {X:Cx}
def ipL:TIp:=λx y H Q=>∃ l b xs zs,x = .ref l/\y = .ref b/\H l=some (.lst xs)/\H b=some (.lst zs)/\xs.length+zs.length<=sizeLine/\Q (.ref l) (upd H l (.lst (xs++zs)))
theorem E6:PIp X .Add ipL:=by
 intro pins s σ H x y v u Q I r1 r2 h
 obtain⟨l,b,xs,zs,rfl,rfl,hH,hB,hz,q⟩:=h
 cases r1
 cases r2
 obtain⟨z,its,n,r,hl,e⟩:=I.uS hH
 obtain⟨z2,BH,n2,r2,hl2,e2⟩:=I.uS hB
 have hsz:its.toArray.size+BH.toArray.size<=sizeLine:=by rw[aI,aI];omega
 have Dw:¬(!its.toArray.isEmpty&&Builtin.List.listTooLong (its.toArray.size+BH.toArray.size))=true:=by
  rw[yl hsz,Bool.and_false]
  exact aF
 refine BK e e2 Dw ?_ hsz
 refine⟨.ref l,_,I.EZ (t':=s.toks) (its':=its++BH) hH e (by simp) (r.append r2) ?_,rfl,q⟩
 rw[ah]
 omega
end
theorem Fz (e:Int):Builtin.bitAnd e 1=e%2:=bitAnd_m1 e
abbrev TF:=St->Hp->Str->(Str->Hp->Prop)->Prop
end TL
namespace TS
open PySem
open SetTable
def adv (mask:Nat)(p:Probe):Probe:=
 if p.more>0 then {p with j:=p.j+1,more:=p.more-1} else
 {p with j:=(leap mask p.i p.perturb).1,more:=runEnd mask (leap mask p.i p.perturb).1-(leap mask p.i p.perturb).1,i:=(leap mask p.i p.perturb).1,perturb:=(leap mask p.i p.perturb).2}
def pAt (mask:Nat)(h:Int):Nat->Probe
 | 0=>{j:=bits h%(mask+1),more:=runEnd mask (bits h%(mask+1))-bits h%(mask+1),i:=bits h%(mask+1),perturb:=bits h,dummy:=none}
 |n+1=>adv mask (pAt mask h n)
open SetTable
def FA (mask:Nat)(taken:List Nat)(h:Int)(j:Nat):Prop:=∃ n,(pAt mask h n).j=j/\∀ m,m<n->(pAt mask h m).j∈taken
structure WFT (t:SetTable)(hs:List Int):Prop where
 pow:∃ k,3<=k/\t.mask+1=2 ^ k
 small:t.mask<=8191
 dum:t.dummies = #[]
 rise:t.place.toList.Pairwise (· < ·)
 all:∀ j∈t.place.toList,j<=t.mask
 len:t.place.size=hs.length
 room:hs.length*5<t.mask*3
 reach:∀ i (h:i<hs.length) j,t.place[i]? = some j->FA t.mask t.place.toList hs[i] j
open SetTable
end TS
namespace TL
open PySem TS
section
variable {prog:Program}{w:World}{K:Type} [DecidableEq K] {knd:KeyKind prog w K}{A:Around}{E:Value->Shared->Prop}{s:Shared}
def Of (knd:KeyKind prog w K)(x:List K×Addr):Int×Value:=(tupleKeyHash knd x.1,.ref x.2)
def Q4 (knd:KeyKind prog w K)(h:Heap)(a:Addr)(xs:List (List K×Addr)):Prop:=
 ∃ o es ep t,h.get? a=some o/\o.ExactSet/\o.data = .set es ep t/\es.toList=xs.map (Of knd)/\(xs.map (·.1)).Nodup/\WFT t (xs.map λx=>tupleKeyHash knd x.1)
end
open PySem.Spec PyProof.Rows L2
def Q3 (P:Program)(w:World)(a:Addr)(xs:List (List Key×Addr)):HO:=.ext λh=>Q4 (gU P w) h a xs
abbrev keysOf (xs:List (List Key×Addr)):List (List Key):=xs.map λx=>x.1
open HT
end TL
namespace TL
open PySem PySem.Spec PyProof.Rows L2
open PySem.W
def ev {α:Type} :List α->List α
 |[]=>[]
 |[x]=>[x]
 |x::_::r=>x::ev r
end TL
namespace TL
open PySem PySem.Spec PyProof.Rows L2 TS
section
variable {prog:Program}{w:World}{A:Around}{R:Result->Shared->Prop}{s:Shared}
theorem xo {kx vx target iter:Expr}{ifs:List Expr}{scope:Scope}{pos:Pos}{it:Value}{D:Addr}{env:Env}(I:Nat->Shared->Prop)
  (turn:∀ n s,I n s->wpAny (model prog w) A (pyNext it) (λr s₁=>match r with
   |none=>R (.ok .next) s₁
   |some v=>wpAny (model prog w) A (letOwnedTupleGo target it v) (λ_ s₀=>wpAny (model prog w) A (assign target env v) (λ_ s₂=>
     wpAny (model prog w) A (sr ifs env) (λok s₃=>
      if ok=true then wpAny (model prog w) A (eval kx env) (λkv s₄=>wpAny (model prog w) A (eval vx env) (λvv s₅=>
       wpAny (model prog w) A (dictSet D kv vv) (λ_ s₆=>∃ m,m<n/\I m s₆) (λ_ _=>False) s₅) (λ_ _=>False) s₄) (λ_ _=>False) s₃
      else ∃ m,m<n/\I m s₃) (λ_ _=>False) s₂) (λ_ _=>False) s₀) (λ_ _=>False) s₁) (λ_ _=>False) s)
  (n:Nat) (h:I n s):
  codeAny (model prog w) A (.compLoop (.DictComp kx vx [⟨target,iter,ifs,0⟩] scope pos) 0 it (.ref D) env) R s:=by
 refine codeAny_loop rfl I (λn s hI=>?_) n h
 show wpAny _ A ((compTurn (.DictComp kx vx [⟨target,iter,ifs,0⟩] scope pos) 0 it (.ref D) env).onRaise (λx=>do noteFrame x env;theTreesLotGoes x)) _ _ s
 refine wpAny_noted ?_
 rw[compTurn_dict]
 refine ae (cF (ae (bq (turn n s hI) (λr s₁ h₁=>?_) λ_ _ h'=>h'.elim)))
 cases r with
 |none=>exact aq h₁
 |some v=>
  refine ae (bq h₁ (λ_ s₀ h₀=>?_) λ_ _ h'=>h'.elim)
  refine ae (bq h₀ (λ_ s₂ h₂=>ae (bq h₂ (λok s₃ h₃=>?_) λ_ _ h'=>h'.elim)) λ_ _ h'=>h'.elim)
  cases ok with
  |false=>exact aq ⟨rfl,h₃⟩
  |true=>
   exact ae (ae (bq h₃ (λkv s₄ h₄=>ae (cS (bq h₄ (λvv s₅ h₅=>ae (cF (cS (bq h₅ (λ_ s₆ h₆=>aq ⟨rfl,h₆⟩) λ_ _ h'=>h'.elim)))) λ_ _ h'=>h'.elim))) λ_ _ h'=>h'.elim))
end
section
variable {X:Cx}{pins:List (Addr×Obj)}{σ:St}{H1:Hp}{s2:Shared}{scope:Scope}{N:List Str}{own:Nat}{cap:List (Option Nat)}{cl:List (Str×Addr)}{fp:List Addr}
 {tg iter elt vlt:Expr}{ifs:List Expr}{pos:Pos}{g:TG}{tt:TT}{te tv:TE}{wi:TI}
end
section
variable {X:Cx}{pins:List (Addr×Obj)}{σ:St}{H1:Hp}{s2:Shared}{scope:Scope}{N:List Str}{own:Nat}{cap:List (Option Nat)}{cl:List (Str×Addr)}{fp:List Addr}
 {tg iter elt vlt:Expr}{ifs:List Expr}{pos:Pos}{g:TG}{tt:TT}{te tv:TE}{wi:TI}
end
end TL
namespace L2
open PySem PySem.Spec PySem.Calls PyProof.Rows PySem.W
end L2
namespace TL
open PySem PySem.Spec PyProof.Rows L2
theorem zL {l:Int×List (Int×Int)}(h:fG l)(e:Int):(jn l.2 e).length<=60:=by
 unfold jn
 rw[nF,ah]
 exact h.inc e
theorem zV {l:Int×List (Int×Int)}(h:fG l)(ns:List Int)(e:Int):(fr l ns e).length<=60:=bE (bN _ _) (zL h e)
theorem pN {α β:Type}(f:α->β)(l:List α)(i:Nat)(x:α)(h:l[i]? = some x):(l.take (i+1)).map f=(l.take i).map f ++ [f x]:=by
 rw[aQ,h,aw];rfl
theorem oO:∀ (ds:List PyData),(∀ d∈ds,d.canLay0=true)->PyData.canLayAll0 ds=true
 |[],_=>by simp[PyData.canLayAll0]
 |d::ds,h=>by
  simp only[PyData.canLayAll0,eY]
  exact⟨h d aB,oO ds λx hx=>h x (aC _ hx)⟩
theorem vi (l:Int×List (Int×Int))(ns:List Int):∀ m∈mvs l ns,PyData.strOk m.1.1=true:=λm hm=>by
 rcases ay.mp hm with z |z
 ·obtain⟨e,_,rfl⟩:=ai.mp z
  show PyData.strOk (Str.ofString "on")=true
  decide +kernel
 ·obtain⟨e,_,rfl⟩:=ai.mp z
  show PyData.strOk (Str.ofString "back")=true
  decide +kernel
def dM (k:Str×Int):PyData:=.tuple [.str k.1,.int k.2]
variable {k:Str×Int}
theorem FP (h:PyData.strOk k.1=true):OkD (dM k):=by
 refine⟨?_,?_⟩
 ·simp only[dM,PyData.canLay0,PyData.canLayAll0,h,Bool.and_true]
 ·simp only[dM,PyData.depth,PyData.depthAll];decide
theorem JD (a b:Str×Int):PyData.eqv (dM a) (dM b)=decide (a=b):=by
 obtain⟨a1,a2⟩:=a
 obtain⟨b1,b2⟩:=b
 simp only[dM,PyData.eqv,PyData.eqvAll,Bool.and_true]
 by_cases h:a1=b1<;>by_cases h':a2=b2<;>simp[h,h']
variable {K:PySem.W.Frag}{H:Hp}
theorem AH {H1:Hp}{p:Addr}{ms:List Mv}{vs:List V}{i:Nat}{y:V}(D:Dgs (Lf H H1 p) (SqT K H1) (ms.map dMv) vs)(hy:vs[i]? = some y):
  ∃ m ad p1 b,ms[i]? = some m/\y = .ref ad/\SqT K H1 ad [.ref p1,.ref b]/\Da K H1 (dM m.1) (.ref p1)/\H1 b=some (.lst (m.2.map V.int))/\H b=none/\b≠p:=by
 obtain⟨d,e1,hd⟩:=Dgs.get D hy
 rw[ao]at e1
 cases q:ms[i]? with
 |none=>rw[q]at e1;cases e1
 |some m=>
  rw[q]at e1
  cases e1
  unfold dMv at hd
  obtain⟨ad,us,rfl,ht,q⟩:=gR.mp hd
  obtain⟨v1,r,rfl,h1,q⟩:=fO.mp q
  obtain⟨v2,r,rfl,h2,q⟩:=fO.mp q
  cases gw.mp q
  have h1':Da K H1 (dM m.1) v1:=Dg.mono (λa us h=>SqL.of h.1) (λ_ _ h=>h) h1
  obtain⟨p1,_,rfl,_,_⟩:=gR.mp h1
  unfold dI at h2
  obtain⟨b,zs,rfl,⟨l1,l2,l3⟩,hz⟩:=i7.mp h2
  rw[nj.mp hz]at l1
  exact⟨m,ad,p1,b,rfl,rfl,ht,h1',l1,l2,l3⟩
def fnd (ms:List Mv)(k:Str×Int):Option (List Int):=(ms.find? λm=>decide (m.1=k)).map (·.2)
theorem Fj {ms:List Mv}{i:Nat}{m:Mv}(hi:ms[i]? = some m)(e:m.1=k)(no:∀ j,j<i->∀ n,ms[j]? = some n->n.1≠k):fnd ms k=some m.2:=by
 unfold fnd
 have:ms.find? (λm=>decide (m.1=k))=some m:=by
  rw[List.find?_eq_some_iff_getElem]
  obtain⟨hl,hg⟩:=af.mp hi
  refine⟨by simpa using e,i,hl,hg,λj hj=>?_⟩
  have:=no j hj _ (af.mpr ⟨by omega,rfl⟩)
  simpa using this
 rw[this];rfl
theorem DD {ms:List Mv}(no:∀ j,j<ms.length->∀ n,ms[j]? = some n->n.1≠k):fnd ms k=none:=by
 unfold fnd
 rw[Option.map_eq_none_iff,List.find?_eq_none]
 intro m hm
 obtain⟨j,hj,e⟩:=aR.mp hm
 have:=no j hj m (af.mpr ⟨hj,e⟩)
 simpa using this
def dLI (xss:List (List Int)):PyData:=.list (xss.map dI)
theorem GU (xss:List (List Int)):OkD (dLI xss):=by
 refine⟨?_,?_⟩
 ·simp only[dLI,PyData.canLay0]
  refine oO _ λd hd=>?_
  obtain⟨m,hm,rfl⟩:=ai.mp hd
  exact(l0 m).1
 ·simp only[dLI,PyData.depth]
  have:=iA (f:=dI) (k:=1) (λm=>by
   simp only[dI,PyData.depth]
   have:=iA (f:=PyData.int) (k:=0) (λ_=>by simp[PyData.depth]) m
   omega) xss
  omega
def stp (l:Ln)(o:Option (List (List Int)))(k:Str×Int):Option (List (List Int)):=o.bind λts=>(fnd (mvs l (ts.getLastD [])) k).map λb=>ts ++ [b]
def wkl (l:Ln)(ns:List Int)(run:List (Str×Int)):Option (List (List Int)):=run.foldl (stp l) (some [ns])
theorem xI (l:Ln)(run:List (Str×Int)):run.foldl (stp l) none=none:=by
 induction run with
 |nil=>rfl
 |cons k r ih=>exact ih
variable {ns:List Int}{run:List (Str×Int)}
theorem xA {l:Ln}{i:Nat}(h:run[i]? = some k):wkl l ns (run.take (i+1))=stp l (wkl l ns (run.take i)) k:=by
 unfold wkl
 rw[aQ,h,bZ]
 rfl
theorem B8 {l:Ln}{i:Nat}(h:wkl l ns (run.take i)=none):wkl l ns run=none:=by
 unfold wkl at h ⊢
 rw[<-dZ i run,bZ,h,xI]
theorem Fi {l:Ln}{b:List Int}(hne:ns≠ [])(h:fnd (mvs l ns) k=some b):b≠ []/\b.length=ns.length:=by
 unfold fnd at h
 cases q:(mvs l ns).find? (λm=>decide (m.1=k))with
 |none=>rw[q]at h;cases h
 |some m=>
  rw[q]at h
  cases h
  have hm:=eM q
  have hl:1<=ns.length:=by cases ns with |nil=>exact absurd rfl hne |cons x r=>simp
  have:m.2.length=ns.length:=by
   rcases ay.mp hm with z |z
   ·obtain⟨e,_,h⟩:=ai.mp z
    rw[<-h];simp only[onM,ah,bS,aO,cX];omega
   ·obtain⟨e,_,h⟩:=ai.mp z
    rw[<-h];simp only[ll,aO,eg];omega
  refine⟨λe=>?_,this⟩
  have e:m.2 = []:=e
  rw[e]at this
  simp at this
  omega
structure DZ (ns:List Int)(i:Nat)(ts:List (List Int)):Prop where
 len:ts.length=i+1
 each:∀ t∈ts,t≠ []/\t.length=ns.length
theorem DZ.snoc {l:Ln}{ns:List Int}{i:Nat}{ts:List (List Int)}{k:Str×Int}{b:List Int}(w:DZ ns i ts)(h:fnd (mvs l (ts.getLastD [])) k=some b):DZ ns (i+1) (ts ++ [b]):=by
 have hne:ts≠ []:=λe=>by have:=w.len;rw[e]at this;simp at this
 have hl:ts.getLastD []∈ts:=by
  rw[bc,List.getLast?_eq_some_getLast hne]
  exact List.getLast_mem hne
 obtain⟨h1,h2⟩:=w.each _ hl
 obtain⟨h3,h4⟩:=Fi h1 h
 refine⟨by rw[ah,w.len];rfl,λt ht=>?_⟩
 rcases ay.mp ht with z |z
 ·exact w.each t z
 ·have z:t=b:=by simpa using z
  rw[z];exact⟨h3,by omega⟩
def dR (run:List (Str×Int)):PyData:=.list (run.map dM)
theorem DM {vs:List V}{i:Nat}{y:V}(h:Das K H (run.map dM) vs)(e:vs[i]? = some y):∃ k,run[i]? = some k/\Da K H (dM k) y:=by
 obtain⟨d,e1,hd⟩:=Dgs.get h e
 rw[ao]at e1
 cases q:run[i]? with
 |none=>rw[q]at e1;cases e1
 |some k=>rw[q]at e1;cases e1;exact⟨k,rfl,hd⟩
structure pR (K:PySem.W.Frag)(H:Hp)(q:Addr)(run:List (Str×Int)):Prop where
 ex:∃ vs,H q=some (.lst vs)/\Das K (hid q H) (run.map dM) vs
 ok:∀ k∈run,PyData.strOk k.1=true
theorem pR.same {H':Hp}{q:Addr}(r:pR K H q run)(s:fu H H'):pR K H' q run:=by
 obtain⟨⟨vs,h1,h2⟩,h3⟩:=r
 exact⟨⟨vs,s _ _ h1,Das.same (oB s) h2⟩,h3⟩
theorem pR.da {q:Addr}(r:pR K H q run):Da K H (dR run) (.ref q):=by
 obtain⟨⟨vs,h1,h2⟩,h3⟩:=r
 exact i7.mpr ⟨q,vs,rfl,SqL.of h1,Das.same ja h2⟩
abbrev Ma:=Mv×Addr×Addr
theorem fW.snoc {l:Int×List (Int×Int)}{ns:List Int}{x:Int}(ok:fG l)(T:fW l ns)(hne:ns≠ [])(hx:x∈fr l ns (oth (ns.getLastD 0))):fW l (ns ++ [x]):=by
 obtain⟨h1,h2⟩:=br.mp hx
 have h2:¬x/2∈ns.map (· / 2):=by simpa using h2
 refine⟨λe he=>?_,?_,λi a b ha hb=>?_⟩
 ·rcases ay.mp he with z |z
  ·exact T.ends e z
  ·have z:e=x:=by simpa using z
   rw[z];exact uc ok h1
 ·rw[aw,bx]
  refine⟨T.nd,by simp,λa ha b hb=>?_⟩
  have hb:b=x/2:=by simpa using hb
  intro z
  exact h2 (by rw[<-hb,<-z];exact ha)
 ·by_cases hi:i+1<ns.length
  ·rw[ak hi]at hb
   rw[ak (by omega)]at ha
   exact T.ch i a b ha hb
  ·have hlt:i+1<(ns ++ [x]).length:=(af.mp hb).1
   rw[ah,aA]at hlt
   have e1:i+1=ns.length:=by omega
   rw[e1,av (au _),aV]at hb
   cases hb
   rw[ak (by omega)]at ha
   have e2:ns.getLastD 0=a:=by
    rw[bc,b9]
    have:ns.length-1=i:=by omega
    rw[this,ha];rfl
   rw[e2]at h1
   exact h1
theorem HG {v:V}(h:Da K H (dM k) v):∃ a,v = .ref a/\SqT K H a [.str k.1,.int k.2]:=by
 unfold dM at h
 obtain⟨a,vs,rfl,ht,q⟩:=gR.mp h
 obtain⟨v1,r,rfl,h1,q⟩:=fO.mp q
 obtain⟨v2,r,rfl,h2,q⟩:=fO.mp q
 cases gw.mp q
 cases rm.mp h1
 cases gX.mp h2
 exact⟨a,rfl,ht⟩
theorem F6 {a:Addr}(h:SqT K H a [.str k.1,.int k.2]):Da K H (dM k) (.ref a):=gR.mpr ⟨a,_,rfl,h,Dgs.two (rm.mpr rfl) (gX.mpr rfl)⟩
abbrev Rb (cs:List Ma):List Mv:=cs.map (·.1)
theorem m7 {l:Ln}(ok:fG l){m:Mv}(hm:m∈mvs l ns):(m.1.1=Str.ofString "on" \/m.1.1=Str.ofString "back")/\0<=m.1.2/\m.1.2<2*l.1:=by
 rcases ay.mp hm with z |z
 ·obtain⟨e,he,h⟩:=ai.mp z
  rw[<-h]
  exact⟨.inl rfl,uc ok (rh he).1⟩
 ·obtain⟨e,he,h⟩:=ai.mp z
  rw[<-h]
  exact⟨.inr rfl,uc ok (rh he).1⟩
inductive nW (l:Ln) (ns:List Int):List (Str×Int)->List Int->Prop
 |nil:nW l ns [] ns
 |snoc {run:List (Str×Int)}{b:List Int}{m:Mv} :nW l ns run b->m∈mvs l b->nW l ns (run ++ [m.1]) m.2
theorem nW.words {l:Ln}(ok:fG l){b:List Int}(h:nW l ns run b):∀ k∈run,(k.1=Str.ofString "on" \/k.1=Str.ofString "back")/\0<=k.2/\k.2<2*l.1:=by
 induction h with
 |nil=>exact λk hk=>(nomatch hk)
 |snoc h hm ih=>
  intro k hk
  rcases ay.mp hk with z |z
  ·exact ih k z
  ·have z:k=_:=aZ.mp z
   rw[z];exact m7 ok hm
theorem zm {x:Str}(h:x=Str.ofString "on" \/x=Str.ofString "back"):PyData.strOk x=true:=by
 rcases h with rfl |rfl<;>decide +kernel
end TL
namespace TL
open PySem TS
open PyProof.Rows PySem.W
end TL
namespace TL
open PySem PySem.Spec PyProof.Rows L2 TS
end TL
namespace L2
open PySem PySem.Spec PyProof.Rows
end L2
namespace TL
open PySem PySem.Spec PyProof.Rows L2 TS
def Cw (lo:Int)(n:Nat):List Int:=(List.range n).map λi:Nat=>lo+(i:Int)
theorem xW {lo x:Int}{n:Nat} :x∈Cw lo n↔lo<=x/\x<lo+n:=by
 unfold Cw
 rw[ai]
 constructor
 ·rintro⟨i,hi,rfl⟩
  have:=cQ.mp hi
  omega
 ·rintro⟨h1,h2⟩
  exact⟨(x-lo).toNat,cQ.mpr (by omega),by omega⟩
theorem Ey (lo:Int)(n:Nat):(Cw lo n).Pairwise (· < ·):=by
 unfold Cw
 rw[bY]
 exact dQ (λ{a b} h=>by omega) (List.pairwise_lt_range)
end TL
namespace TL
open PySem L2 PyProof.Rows
open PySem.Spec TS
def kyI (t:List Int):List Key:=t.map Sum.inl
theorem iI (t:List Int):(kyI t).map kV=t.map V.int:=by
 unfold kyI;rw[bJ];rfl
theorem sy {a b:List Int}(h:kyI a=kyI b):a=b:=by
 unfold kyI at h
 induction a generalizing b with
 |nil=>cases b with |nil=>rfl |cons y r=>cases h
 |cons x r ih=>
  cases b with
  |nil=>cases h
  |cons y s=>
   rw[aN,aN,List.cons.injEq]at h
   rw[Sum.inl.inj h.1,ih h.2]
abbrev Rows:=List (List Int×Int)
def Iu (l:Ln)(tr s:List Int):Prop:=s.length=tr.length/\s≠ []/\fW l s
def JK (l:Ln)(tr:List Int)(ss:List (List Int)):Prop:=ss.Nodup/\∀ s∈ss,Iu l tr s
def gY (rows:Rows)(s:List Int):Option Int:=(rows.find? λr=>decide (r.1=s)).map (·.2)
def IA (l:Ln)(rows:Rows)(r:List Int×Int):Prop:=∀ m∈mvs l r.1,∃ n,gY rows m.2=some n/\n<=r.2+1
def JL (l:Ln)(tr:List Int)(rows:Rows):Prop:=JK l tr (rows.map (·.1))/\gY rows tr=some 0/\∀ r∈rows,IA l rows r
def kvR (rows:Rows):List (List Key×V):=rows.map λr=>(kyI r.1,V.int r.2)
theorem sA (rows:Rows)(s:List Int):lC (kvR rows) (kyI s)=(gY rows s).map V.int:=by
 unfold lC gY kvR
 rw[List.find?_map,Option.map_map,Option.map_map]
 have:((λkv:List Key×V=>decide (kv.1=kyI s)) ∘ λr:List Int×Int=>(kyI r.1,V.int r.2)) = λr=>decide (r.1=s):=by
  funext r
  show decide (kyI r.1=kyI s)=decide (r.1=s)
  by_cases h:r.1=s
  ·rw[bG h,bG (by rw[h])]
  ·rw[bo h,bo λz=>h (sy z)]
 rw[this]
 rfl
variable {rows:Rows}
theorem kJ (nd:(rows.map (·.1)).Nodup){r:List Int×Int}(h:r∈rows):gY rows r.1=some r.2:=by
 unfold gY
 induction rows with
 |nil=>cases h
 |cons q qs ih=>
  rw[aN,bu]at nd
  by_cases e:q.1=r.1
  ·rw[List.find?_cons_of_pos (by simpa using e)]
   rcases aK.mp h with z |z
   ·rw[z];rfl
   ·exact absurd (ai.mpr ⟨r,z,e.symm⟩) nd.1
  ·rw[List.find?_cons_of_neg (by simpa using e)]
   rcases aK.mp h with z |z
   ·exact absurd (by rw[z]) e
   ·exact ih nd.2 z
theorem jy {s:List Int}{n:Int}(h:gY rows s=some n):(s,n)∈rows:=by
 unfold gY at h
 cases q:rows.find? λr=>decide (r.1=s)with
 |none=>rw[q]at h;cases h
 |some r=>
  rw[q]at h
  have h1:=eM q
  have h2:r.1=s:=by simpa using List.find?_some q
  have h3:r.2=n:=by simpa using h
  rw[<-h2,<-h3];exact h1
theorem tX {s:List Int}(h:gY rows s=none):s∉rows.map (·.1):=λz=>by
 obtain⟨r,hr,e⟩:=ai.mp z
 unfold gY at h
 rw[Option.map_eq_none_iff,List.find?_eq_none]at h
 exact h r hr (by simpa using e)
theorem uw:∀ (a b:List Int),PyData.eqvAll (a.map PyData.int) (b.map PyData.int)=decide (a=b)
 |[],[]=>by simp[PyData.eqvAll]
 |[],y::b=>by simp[PyData.eqvAll]
 |x::a,[]=>by simp[PyData.eqvAll]
 |x::a,y::b=>by
  rw[aN,aN,PyData.eqvAll,uw a b,bP]
  simp[PyData.eqv]
theorem DF (a b:List Int):PyData.eqv (dI a) (dI b)=decide (a=b):=by
 unfold dI
 rw[PyData.eqv,uw]
theorem DW (ss:List (List Int))(t:List Int):((ss.map dI).any λz=>PyData.eqv z (dI t))=decide (t∈ss):=by
 rw[List.any_map,bP,ed,cg]
 constructor
 ·rintro⟨y,hy,e⟩
  have e:PyData.eqv (dI y) (dI t)=true:=e
  rw[DF,cg]at e
  exact e ▸ hy
 ·exact λh=>⟨t,h,by show PyData.eqv (dI t) (dI t)=true;rw[DF];exact bG rfl⟩
theorem AF (ss:List (List Int)):D7 (ss.map dI):=by
 have h:=GU ss
 unfold dLI at h
 refine⟨by have:=h.1;rwa [PyData.canLay0]at this,?_⟩
 have:=h.2
 rw[PyData.depth]at this
 omega
def FH (l:Ln)(tr:List Int)(ss:List (List Int)):Prop:=ss.Nodup/\tr∈ss/\∀ s∈ss,Iu l tr s/\∀ m∈mvs l s,m.2∈ss
def Gw (l:Ln)(tr:List Int)(rows:Rows):Prop:=∀ r∈rows,(r.1=tr->r.2=0)/\∀ q∈rows,q.1∈(mvs l r.1).map (·.2)->q.2<=r.2+1
theorem DU {l:Ln}{tr:List Int} :JL l tr rows↔FH l tr (rows.map (·.1))/\Gw l tr rows:=by
 constructor
 ·rintro⟨⟨nd,st⟩,h0,h1⟩
  refine⟨⟨nd,ai.mpr ⟨_,jy h0,rfl⟩,λs hs=>⟨st s hs,λm hm=>?_⟩⟩,λr hr=>⟨λe=>?_,λq hq hm=>?_⟩⟩
  ·obtain⟨r,hr,rfl⟩:=ai.mp hs
   obtain⟨n,hn,_⟩:=h1 r hr m hm
   exact ai.mpr ⟨_,jy hn,rfl⟩
  ·have:=kJ nd hr
   rw[e,h0]at this
   exact(aU this).symm
  ·obtain⟨m,hm1,hm2⟩:=ai.mp hm
   obtain⟨n,hn,hle⟩:=h1 r hr m hm1
   have:=kJ nd hq
   rw[<-hm2,hn]at this
   cases this
   exact hle
 ·rintro⟨⟨nd,ht,st⟩,h1⟩
  obtain⟨r,hr,e⟩:=ai.mp ht
  refine⟨⟨nd,λs hs=>(st s hs).1⟩,?_,λr hr m hm=>?_⟩
  ·have:=kJ nd hr
   rw[(h1 r hr).1 e,show r.1=tr from e]at this
   exact this
  ·obtain⟨q,hq,e⟩:=ai.mp ((st r.1 (ai.mpr ⟨r,hr,rfl⟩)).2 m hm)
   have e:q.1=m.2:=e
   exact⟨q.2,by rw[<-e];exact kJ nd hq,(h1 r hr).2 q hq (ai.mpr ⟨m,hm,e.symm⟩)⟩
end TL
namespace TL
open PySem L2 PyProof.Rows
def swp (p:Int×Int):Int×Int:=(p.2,p.1)
def both (js:List (Int×Int)):List (Int×Int):=js++js.map swp
end TL
namespace TL
open PySem PySem.Spec PyProof.Rows PySem.W
end TL
namespace TL
open PySem PySem.W PyProof.Rows
end TL
namespace TL
open PySem PySem.Spec PyProof.Rows L2
section
variable {prog:Program}{w:World}{A:Around}{E:Value->Shared->Prop}{s:Shared}{d it vw:Addr}{o:Obj}{es:Array DictEntry}{ep i:Nat}{ok ov:Value}
theorem zu {Q:Value->Shared->Prop}(hn:(d==sysModules)=false)(ho:s.heap.get? d=some o)(hx:o.ExactDict)
  (hQ:Q (.ref s.heap.objs.size) {s with heap:=s.heap.push {cls:=.type "dict_items",data:=.fields #[.ref d]}}):wpAny (model prog w) A (call (.builtin "dict.items") [.ref d]) Q E s:=by
 have hT:=mZ ho hx
 refine bW F.slot_dict_items hT F.entry_dict_items ?_ (F.args_dict_items_1 _)
 unfold Builtin.«dict.items»
 refine ae ?_
 unfold Builtin.Dict.noArgs
 refine ae (wpAny_notOrdered_dict hT (aq ?_))
 show wpAny _ _ (Builtin.Dict.showsAll d >>= _) _ _ s
 unfold Builtin.Dict.showsAll
 rw[aH (by rw[hn];exact aF)]
 exact ae (aq (ae (cf (aq ⟨_,rfl,hQ⟩))))
theorem Bs {Q:Value->Shared->Prop}(hv:s.heap.IsItemsView vw d)(ho:s.heap.get? d=some o)(hd:o.data = .dict es ep)
  (hQ:Q (.ref s.heap.objs.size) {s with heap:=s.heap.push {cls:=.type "dict_itemiterator",data:=.fields #[.none,.bool false,.ref d,.int 0 0,.int es.size 0,.int ep 0,.none,.none]}}):wpAny (model prog w) A (pyIter (.ref vw)) Q E s:=by
 obtain⟨ov,hov,hcv,hdv⟩:=id hv
 have hT:=hv.typeIs
 refine wpAny_pyIter_slot hT F.slot_dict_items_iter (bW F.slot_dict_items_iter hT F.entry_dict_items_iter ?_ (F.args_dict_items_iter_1 _))
 unfold Builtin.«dict_items.__iter__»
 refine ae (aq (ae ?_))
 unfold Builtin.Dict_items.dictOf
 refine ae (wpAny_field hov hdv (x:=.ref d) rfl (aq (ae ?_)))
 unfold Builtin.Dict_items.newIterator
 refine ae (dq ho hd (ae (dU ho hd ?_)))
 have w6:Builtin.Dict_items.ownsTuple "dict_itemiterator" = true:=by decide
 simp only[w6,eG]
 refine cf (aq ⟨_,rfl,"dict_itemiterator",_,⟨_,aT _ rfl,rfl⟩,cB.lookup,?_⟩)
  (by simp only[sizeOk,Builtin.Dict_items.ownedTupleFields,aI,ah,aO,cX,dB];omega)
 simpa [rawInt,Builtin.Dict_items.ownedTupleFields]using hQ
theorem Br {Q:Option Value->Shared->Prop}{e:DictEntry}(hit:IsItemIter s.heap it d i es.size ep ok ov)(ho:s.heap.get? d=some o)(hd:o.data = .dict es ep)(hx:es[i]? = some e)
  (hQ:∀ h',IsItemIterOut h' it d (i+1) es.size ep e.key e.val s.heap.objs.size->h'.get? s.heap.objs.size=some {cls:=.type "tuple",data:=.seq #[e.key,e.val]} ->
   (∀ b o,b≠it->s.heap.get? b=some o->h'.get? b=some o)->Q (some (.ref s.heap.objs.size)) {s with heap:=h'}):wpAny (model prog w) A (pyNext (.ref it)) Q E s:=by
 obtain⟨hp,g,dr,tk,os⟩:=s
 have hT:Shared.TypeIs ⟨hp,g,dr,tk,os⟩ (.ref it) "dict_itemiterator" :=⟨_,hit,rfl⟩
 unfold pyNext
 refine ae (wpAny_attempt (dY (name:=Str.ofString "__next__") hT cB
  (bW cB hT F.entry_dict_itemiterator_next ?_ (F.args_dict_itemiterator_next_1 _))))
 refine ae (aq (ae (ae ?_)))
 first |refine ae (cV hT (aq ?_))|refine ae (dG hT (aq ?_))
 refine ae (wpAny_fieldsOf hit rfl ?_)
 have w6:Builtin.Dict_items.ownsTuple "dict_itemiterator" = true:=by decide
 simp only[w6,eG]
 show wpAny _ _ (if(Value.ref d==Value.none)=true then _ else _) _ _ _
 rw[aH (show ¬((Value.ref d==Value.none)=true) from aF)]
 refine ae (aq (ae (dq ho hd ?_)))
 rw[aH (by simp)]
 refine ae (aq (ae (dU ho hd ?_)))
 rw[aH (by simp)]
 refine aq ?_
 obtain⟨hlt,he⟩:=Array.getElem?_eq_some_iff.mp hx
 simp only[show ¬((i:Int)<0) from by omega,cD,dS,eN hlt]
 rw[he]
 refine ae ?_
 first |refine ae (cV hT (aq ?_))|refine ae (dG hT (aq ?_))
 refine ae (wpAny_isOneOf_itemiter hT ?_)
 show wpAny _ _ (setField (.ref it) 3 (rawInt ((i:Int)+1)) >>= _) _ _ ⟨hp,g,dr,tk,os⟩
 refine ae (dX hit (by simp) λh₁ he₁ hs₁=>?_)
 replace hs₁:Heap.SameBut it hp h₁:=hs₁
 replace he₁:IsItemIter h₁ it d (i+1) es.size ep ok ov:=by
  have e:((i+1:Nat):Int)=(i:Int)+1:=by omega
  unfold IsItemIter;rw[e];simpa [rawInt]using he₁
 have hT₁:Shared.TypeIs ⟨h₁,g,dr,tk,os⟩ (.ref it) "dict_itemiterator" :=⟨_,he₁,rfl⟩
 refine ae (cS ?_)
 refine ae (wpAny_isOneOf_itemiter hT₁ (ae (wpAny_isOneOf_itemiter hT₁ ?_)))
 show wpAny _ _ (Builtin.Dict_items.pairFromOwner (.ref it) 6 e.key e.val) _ _ ⟨h₁,g,dr,tk,os⟩
 unfold Builtin.Dict_items.pairFromOwner
 refine ae (wpAny_newTuple ?_)
 have he₂:IsItemIter (h₁.push {cls:=.type "tuple",data:=.seq #[e.key,e.val]}) it d (i+1) es.size ep ok ov:=aD _ he₁
 generalize hh₂:h₁.push {cls:=.type "tuple",data:=.seq #[e.key,e.val]} = h₂ at he₂
 have hz₁:h₁.objs.size=hp.objs.size:=hs₁.1
 have hil:it<hp.objs.size:=aE hit
 have ht₂:h₂.get? hp.objs.size=some {cls:=.type "tuple",data:=.seq #[e.key,e.val]} :=by rw[<-hh₂,<-hz₁];exact aT _ rfl
 have hk₂:∀ b o,b≠it->hp.get? b=some o->h₂.get? b=some o:=λb o hb e=>by rw[<-hh₂];exact aD _ (hs₁.extBut b o hb e)
 show wpAny _ _ (Builtin.Dict_items.ownedTupleIsFree (.ref it) >>= _) _ _ ⟨h₂,g,dr,tk,os⟩
 rw[hz₁]
 clear hh₂ he₁ hs₁ hT₁ hz₁ h₁
 refine ae ?_
 unfold Builtin.Dict_items.ownedTupleIsFree
 refine ae (wpAny_field he₂ rfl (x:=.none) rfl (aq ?_))
 simp only[eG]
 refine ae (wpAny_field he₂ rfl (x:=ok) rfl (ae (wpAny_field he₂ rfl (x:=ov) rfl ?_)))
 refine ae (dX he₂ (by simp) λh₃ he₃ hs₃=>?_)
 replace hs₃:Heap.SameBut it h₂ h₃:=hs₃
 replace he₃:IsItemIter h₃ it d (i+1) es.size ep e.key ov:=he₃
 refine ae (dX he₃ (by simp) λh₄ he₄ hs₄=>?_)
 replace hs₄:Heap.SameBut it h₃ h₄:=hs₄
 replace he₄:IsItemIter h₄ it d (i+1) es.size ep e.key e.val:=he₄
 refine ae (dX he₄ (by simp) λh₅ he₅ hs₅=>?_)
 replace hs₅:Heap.SameBut it h₄ h₅:=hs₅
 replace he₅:IsItemIterOut h₅ it d (i+1) es.size ep e.key e.val hp.objs.size:=he₅
 refine ae (dX he₅ (by simp) λh₆ he₆ hs₆=>?_)
 replace hs₆:Heap.SameBut it h₅ h₆:=hs₆
 replace he₆:IsItemIterOut h₆ it d (i+1) es.size ep e.key e.val hp.objs.size:=he₆
 refine ae (wpAny_letGo (aq (aq ⟨_,rfl,aq (hQ h₆ he₆ ?_ ?_)⟩)))
 ·exact hs₆.extBut _ _ (cT hil) (hs₅.extBut _ _ (cT hil) (hs₄.extBut _ _ (cT hil) (hs₃.extBut _ _ (cT hil) ht₂)))
 ·exact λb o hb e=>hs₆.extBut b o hb (hs₅.extBut b o hb (hs₄.extBut b o hb (hs₃.extBut b o hb (hk₂ b o hb e))))
theorem CA {Q:Option Value->Shared->Prop}(hh:A.handled=none)(hit:IsItemIter s.heap it d i es.size ep ok ov)(ho:s.heap.get? d=some o)(hd:o.data = .dict es ep)(hx:es.size<=i)
  (hQ:∀ h',Heap.ExtBut it s.heap h'->Q none {s with heap:=h'}):wpAny (model prog w) A (pyNext (.ref it)) Q E s:=by
 have hT:s.TypeIs (.ref it) "dict_itemiterator" :=⟨_,hit,rfl⟩
 unfold pyNext
 refine ae (wpAny_attempt (dY (name:=Str.ofString "__next__") hT cB
  (bW cB hT F.entry_dict_itemiterator_next ?_ (F.args_dict_itemiterator_next_1 _))))
 refine ae (aq (ae (ae ?_)))
 first |refine ae (cV hT (aq ?_))|refine ae (dG hT (aq ?_))
 refine ae (wpAny_fieldsOf hit rfl ?_)
 have w6:Builtin.Dict_items.ownsTuple "dict_itemiterator" = true:=by decide
 simp only[w6,eG]
 show wpAny _ _ (if(Value.ref d==Value.none)=true then _ else _) _ _ s
 rw[aH (show ¬((Value.ref d==Value.none)=true) from aF)]
 refine ae (aq (ae (dq ho hd ?_)))
 rw[aH (by simp)]
 refine ae (aq (ae (dU ho hd ?_)))
 rw[aH (by simp)]
 refine aq ?_
 simp only[show ¬((i:Int)<0) from by omega,cD,dS,Array.getElem?_eq_none hx]
 refine ae ?_
 first |refine ae (cV hT (aq ?_))|refine ae (dG hT (aq ?_))
 show wpAny _ _ (setField (.ref it) 2 .none >>= _) _ _ s
 refine ae (wpAny_setField hit rfl (by simp) ?_)
 show wpAny _ _ (newExc (.type "StopIteration") [] >>= _) _ _ _
 refine ae ?_
 simp only[newExc,newTuple]
 refine ae (cf ?_ (by size_fits))
 refine ae (m:=firstArgMember _ _) (wpAny_of_eq (a:=Value.none) (by first |rfl |(simp only[firstArgMember];rfl)) ?_)
 refine cf ?_ (by size_fits)
 simp only[raiseNew]
 refine ae (wpAny_handled ?_)
 rw[show A.in1.handled=none from hh]
 refine ae (aq (wpAny_throw ?_))
 refine ae (eE (T:= "StopIteration") (b:=true) ⟨_,aT _ rfl,rfl⟩ isSubtype_stop ?_)
 exact aq (hQ _ (((Heap.SameBut.update ..).extBut.push _).push _))
end
def Itm (a:Addr)(o:Obj)(kvs:List (List Key×V)):It:=
 ⟨λi H=>H a=some (.frz o (.dT kvs))/\i<kvs.length,λi H x H'=>∃ p b kv,H p=none/\x = .ref p/\kvs[i]? = some kv/\H b=some (.tup (kv.1.map kV))/\H'=upd H p (.tup [.ref b,kv.2]),λi H=>H a=some (.frz o (.dT kvs))/\kvs.length<=i⟩
theorem zh {P:Program}{w:World}{K:PySem.W.Frag}{els:List Expr}{x1:Nat}{pt:Pos}(a it:Addr)(o:Obj)(kvs:List (List Key×V))(es:Array DictEntry)(ep:Nat)(hd:o.data = .dict es ep)(hl:es.size=kvs.length):
  Turn P w K (.Tuple els x1 pt) (Itm a o kvs) [it] it (λi h=>∃ ok ov,IsItemIter h it a i es.size ep ok ov) where
 mem:=by simp
 obj:=λi h st b hb=>by
  have e:b=it:=by simpa using hb
  subst e
  obtain⟨ok,ov,q⟩:=st
  exact⟨_,q,λv z=>by cases z⟩
 keep:=λi h h' ⟨ok,ov,q⟩ k=>⟨ok,ov,k it (by simp) _ q⟩
 item:=by
  intro X hP hw hK hc i pins s σ H E I hf st hg
  subst hP hw hK
  obtain⟨ok,ov,st⟩:=st
  obtain⟨ha,hi⟩:=hg
  obtain⟨ho,z,hm,xs,r,o',es',ep',e',_,hd',hes,_⟩:=I.hok a _ ha
  rw[ho]at e'
  cases e'
  rw[hd]at hd'
  cases hd'
  have hp:kvs[i]? = some kvs[i]:=by simp[hi]
  obtain⟨q,hq,q1,q2,q3⟩:=pj r hp
  have he:es[i]? = some (entryOfKey (tupleKind (gU X.prog X.w)) q):=by
   rw[<-d8,hes,ao,hq];rfl
  have lt1:it<s.heap.objs.size:=aE st
  refine Br st ho hd he λh' k1 k3 k5=>?_
  refine⟨_,rfl,?_⟩
  refine wpAny_letOwnedTupleGo_items (s:={s with heap:=h'}) k1 λh'' m1 m2=>?_
  have keep:∀ b o,b∉ [it]->s.heap.get? b=some o->h''.get? b=some o:=λb o hb q=>m2.extBut b o (λz=>hb (by simp[z])) (k5 b o (λz=>hb (by simp[z])) q)
  have ht:h''.get? s.heap.objs.size=some {cls:=.type "tuple",data:=.seq [Value.ref q.2.1,q.2.2].toArray} :=m2.extBut _ _ (cT lt1) k3
  have J1:Inv X pins σ (upd H s.heap.objs.size (.tup [.ref q.2.1,(kvs[i]).2])) {s with heap:=h'',toks:=s.toks} :=Inv.qN I hf keep (.cons rfl (.cons q3 .nil)) (by show 2<=sizeLine;decide) ht
  have hn:H s.heap.objs.size=none:=I.fresh
  refine⟨.ref s.heap.objs.size,_,J1,rfl,⟨_,q.2.1,_,hn,rfl,hp,q2,rfl⟩,⟨_,_,m1⟩,λb hb=>?_⟩
  have e:b=it:=by simpa using hb
  subst e
  rw[fm (aS lt1)]
  exact(hf b hb).1
 done:=by
  intro X hP hw hK hc i pins s σ H E I hf st hg
  subst hP hw hK
  obtain⟨ok,ov,st⟩:=st
  obtain⟨ha,hi⟩:=hg
  obtain⟨ho,_⟩:=I.hok a _ ha
  obtain⟨g0,g1,g2,g3,g4,g5⟩:=hf it (by simp)
  exact CA (I.ok.hd hc) st ho hd (by rw[hl];exact hi) λh' eb=>⟨rfl,I.turned (t':=s.toks) (λb u hb e=>eb b u hb e) g0 g1 g3 g4 g5⟩
 self:=λ_ _ _ _ _ ⟨_,_,st⟩ h=>PySem.W.kcp_self st h
section
variable {X:Cx}
def Hk (tl:TE):TI:=λσ H R=>tl σ H λx H1=>∃ a o kvs,x = .ref a/\H1 a=some (.frz o (.dT kvs))/\R (Itm a o kvs) H1
theorem yc {els:List Expr}{x1:Nat}{pt apos mI:Pos}{e:Expr}{tl:TE}(hl:PE X e tl)(yB:attributeBase e "items" X.env (eval e X.env)=eval e X.env:=by rfl)(yy:(apos.endLine==mI.line)=true:=by rfl):
  PI X (.Tuple els x1 pt) (.Call (.Attribute e "items" apos) [] [] mI) (Hk tl):=by
 intro pins s σ H R I h
 refine wpAny_Call_method0_late yB yy (thn (hl pins s σ H _ I h) λu s1 ⟨x,H1,I1,r1,a,o,kvs,ex,ha,q⟩=>?_)
 subst ex
 cases(show u=Value.ref a from r1)
 obtain⟨ho,z,hm,xs,r,o',es,ep,e',hxd,hd,hes,_⟩:=I1.hok a _ ha
 rw[ho]at e'
 cases e'
 have hsz:es.size=kvs.length:=by
  have h1:=bQ List.length hes
  rw[cM,aa,<-bR r]at h1
  exact h1
 refine⟨"dict","dict.items",PySem.F.plainAttrs_dict,PySem.F.slot_dict_items,PySem.F.type_dict_items,mZ ho hxd,λb eb=>by cases eb;exact⟨o,ho,hxd.2.1⟩,Calls.callWith_builtin rfl (PySem.evalArgs_none (zu hm ho hxd ?_))⟩
 have hv:({s1 with heap:=s1.heap.push {cls:=.type "dict_items",data:=.fields #[.ref a]}} :Shared).heap.IsItemsView s1.heap.objs.size a:=⟨_,aT _ rfl,rfl,rfl⟩
 have k1:∀ b u,s1.heap.get? b=some u->(s1.heap.push {cls:=.type "dict_items",data:=.fields #[.ref a]}).get? b=some u:=λb u e=>aD _ e
 have I2:=I1.kept (t':=s1.toks) k1
 refine Bs hv (k1 _ _ ho) hd ?_
 have hz:(s1.heap.push {cls:=.type "dict_items",data:=.fields #[.ref a]}).objs.size=s1.heap.objs.size+1:=Heap.size_push ..
 refine⟨_,[_],_,_,H1,rfl,I2.kept (t':=s1.toks) (λb u e=>aD _ e),zh a _ o kvs es ep hd hsz,⟨_,_,aT _ rfl⟩,λb hb=>?_,q⟩
 have e:b=(s1.heap.push {cls:=.type "dict_items",data:=.fields #[.ref a]}).objs.size:=by simpa using hb
 subst e
 exact I2.zW (au _) (I2.hok.fresh (au _))
end
theorem xB {c:TT}{tb:TS}{D:Ends}{σ:L2.St}{H:Hp}(Pv:Nat->L2.St->Hp->Prop)(n:Nat)(h0:Pv n σ H)
  (hs:∀ n σ H,Pv n σ H->c σ H λb H1=>if b=true then tb {D with nx:=λσ' H'=>∃ m,m<n/\Pv m σ' H',ct:=λσ' H'=>∃ m,m<n/\Pv m σ' H',bk:=D.nx} σ H1 else D.nx σ H1)
  (mono:∀ σ H Q Q',(∀ b H1,Q b H1->Q' b H1)->c σ H Q->c σ H Q'):sO c tb D σ H:=by
 refine⟨λm σ H=>Pv m σ H,⟨n,h0⟩,?_⟩
 intro m σ H p
 refine mono σ H _ _ (λb H1 q=>?_) (hs m σ H p)
 cases b with
 |true=>exact⟨_,λσ' H' h=>h,q⟩
 |false=>exact q
structure nC (es:List Ent):Prop where
 back:∀ (j:Nat) t' t k,es[j]? = some (t',some (t,k))->∃ i e,i<j/\es[i]? = some e/\e.1=t
 ok:∀ (j:Nat) t' t k,es[j]? = some (t',some (t,k))->PyData.strOk k.1=true
theorem Cj {l:Ln}{ns:List Int}{m:Mv}(hm:m∈mvs l ns):PyData.strOk m.1.1=true:=by
 rcases ay.mp hm with z |z
 ·obtain⟨e,_,rfl⟩:=ai.mp z
  show PyData.strOk (Str.ofString "on")=true
  decide +kernel
 ·obtain⟨e,_,rfl⟩:=ai.mp z
  show PyData.strOk (Str.ofString "back")=true
  decide +kernel
theorem nC.add {t:List Int}{es:List Ent}{m:Mv}{i:Nat}{e:Ent}(h:nC es)(hi:es[i]? = some e)(he:e.1=t)(ok:PyData.strOk m.1.1=true):nC (mJ t es m):=by
 unfold mJ
 split
 ·exact h
 ·have hlt:=(af.mp hi).1
  refine⟨λj t' u k hj=>?_,λj t' u k hj=>?_⟩
  ·by_cases hjl:j<es.length
   ·rw[ak hjl]at hj
    obtain⟨i2,e2,h1,h2,h3⟩:=h.back j t' u k hj
    exact⟨i2,e2,h1,by rw[ak (by omega)];exact h2,h3⟩
   ·have hj2:j=es.length:=by
     have:=(af.mp hj).1
     rw[ah,aA]at this
     omega
    rw[hj2,av (au _),aV]at hj
    cases hj
    exact⟨i,e,by omega,by rw[ak hlt];exact hi,he⟩
  ·by_cases hjl:j<es.length
   ·rw[ak hjl]at hj
    exact h.ok j t' u k hj
   ·have hj2:j=es.length:=by
     have:=(af.mp hj).1
     rw[ah,aA]at this
     omega
    rw[hj2,av (au _),aV]at hj
    cases hj
    exact ok
theorem nC.scan {t:List Int}{i:Nat}{e:Ent}(he:e.1=t):∀ {ms:List Mv}{es:List Ent},(∀ m∈ms,PyData.strOk m.1.1=true)->es[i]? = some e->nC es->nC (gB t ms es)
 |[],_,_,_,h=>h
 |m::r,es,ok,hi,h=>by
  refine nC.scan (ms:=r) (i:=i) he (λx hx=>ok x (aC _ hx)) ?_ (h.add hi he (ok m aB))
  obtain⟨u,hu⟩:=uH t es m
  rw[<-hu,ak (af.mp hi).1]
  exact hi
theorem kz (l:Ln)(ns:List Int):∀ i,nC (fA l ns i)
 | 0=>by
  refine⟨λj t' t k hj=>?_,λj t' t k hj=>?_⟩
  ·match j,hj with
   | 0,hj=>cases hj
  ·match j,hj with
   | 0,hj=>cases hj
 |i+1=>by
  have ih:=kz l ns i
  rw[fA]
  split
  ·rename_i e he
   exact nC.scan rfl (λm hm=>Cj hm) he ih
  ·exact ih
inductive mr (es:List Ent):List Int->List (Str×Int)->Prop
 |nil {t:List Int} :(t,none)∈es->mr es t []
 |snoc {t' t:List Int}{k:Str×Int}{r:List (Str×Int)} :(t',some (t,k))∈es->mr es t r->mr es t' (r ++ [k])
theorem Fh {J:It}{g:TG}{tb:TS}{D:Ends}{σ:L2.St}{H:Hp}(n:Nat)(Pv:Nat->L2.St->Hp->Prop)(h0:Pv 0 σ H)(go:∀ i σ H,i<n->Pv i σ H->J.go i H)(st:∀ σ H,Pv n σ H->J.stop n H)
  (hs:∀ i x σ H H',i<n->Pv i σ H->J.yld i H x H'->g x σ H' λσ2 H2=>tb {D with nx:=Pv (i+1),ct:=Pv (i+1),bk:=D.nx} σ2 H2) (hd:∀ σ H,Pv n σ H->D.nx σ H):
  ∃ W:Nat->Nat->L2.St->Hp->Prop,(∃ m,W 0 m σ H)/\∀ i m σ H,W i m σ H->
   (J.stop i H/\D.nx σ H)\/(J.go i H/\∃ N:L2.St->Hp->Prop,(∀ σ' H',N σ' H'->∃ m',m'<m/\W (i+1) m' σ' H')/\∀ x H',J.yld i H x H'->g x σ H' λσ2 H2=>tb {D with nx:=N,ct:=N,bk:=D.nx} σ2 H2):=by
 refine⟨λi m σ H=>m=n-i/\i<=n/\Pv i σ H,⟨n,by simp,aP _,h0⟩,?_⟩
 rintro i m σ H ⟨rfl,hi,p⟩
 by_cases hlt:i<n
 ·exact .inr ⟨go i σ H hlt p,Pv (i+1),λσ' H' p'=>⟨n-(i+1),by omega,rfl,hlt,p'⟩,λx H' y=>hs i x σ H H' hlt p y⟩
 ·have e:i=n:=by omega
  subst e
  exact .inl ⟨st σ H p,hd σ H p⟩
theorem Dgs.rev {L T:Addr->List V->Prop} :∀ {ds:List PyData}{vs:List V},Dgs L T ds vs->Dgs L T ds.reverse vs.reverse
 |[],_,h=>by rw[gw.mp h];exact gw.mpr rfl
 |d::ds,_,h=>by
  obtain⟨v,r,rfl,h1,h2⟩:=fO.mp h
  rw[de,de]
  exact Dgs.append (Dgs.rev h2) (Dgs.one h1)
theorem Ek {κ:Type} [DecidableEq κ] {kvs:List (κ×V)}{j:Nat}{k:κ}{v:V}(nd:(kvs.map (·.1)).Nodup)(h:kvs[j]? = some (k,v)):lC kvs k=some v:=by
 unfold lC
 obtain⟨hj,e⟩:=af.mp h
 have:kvs.find? (λkv=>decide (kv.1=k))=some (k,v):=by
  rw[List.find?_eq_some_iff_getElem]
  refine⟨by simp,j,hj,e,λi hi=>?_⟩
  have h1:(kvs[i]'(by omega)).1≠k:=λz=>by
   have h2:(kvs.map (·.1))[i]'(by rw[aa];omega)=(kvs.map (·.1))[j]'(by rw[aa];omega):=by
    rw[dj,dj,z,e]
   have:=(cR nd).mp h2
   omega
  simpa using h1
 rw[this];rfl
open PySem.W
def tZ:List Int->List Int->Bool
 |[],[]=>false
 |[],_::_=>true
 |_::_,[]=>false
 |x::xs,y::ys=>if x=y then tZ xs ys else decide (x<y)
theorem yq:∀ xs:List Int,tZ xs xs=false
 |[]=>rfl
 |x::xs=>by show(if x=x then tZ xs xs else decide (x<x))=false;rw[aM rfl];exact yq xs
end TL
namespace TL
open PySem PySem.Spec PyProof.Rows L2
open PySem.W
end TL
namespace TL
open PySem PySem.Spec PyProof.Rows L2 TS
def Pw {α:Type}(R:α->V->Prop):List α->List V->Prop
 |[],[]=>True
 |d::ds,v::vs=>R d v/\Pw R ds vs
 |_,_=>False
theorem Pw.len {α:Type}{R:α->V->Prop} :∀ {ds:List α}{vs:List V},Pw R ds vs->vs.length=ds.length
 |[],[],_=>rfl
 |d::ds,v::vs,h=>by rw[aO,aO,Pw.len h.2]
theorem Pw.imp {α:Type}{R S:α->V->Prop}(f:∀ d v,R d v->S d v):∀ {ds:List α}{vs:List V},Pw R ds vs->Pw S ds vs
 |[],[],_=>trivial
 |d::ds,v::vs,h=>⟨f _ _ h.1,Pw.imp f h.2⟩
theorem Pw.app {α:Type}{R:α->V->Prop} :∀ {ds es:List α}{vs us:List V},Pw R ds vs->Pw R es us->Pw R (ds++es) (vs++us)
 |[],_,[],_,_,h=>h
 |d::ds,_,v::vs,_,h,h2=>⟨h.1,Pw.app h.2 h2⟩
theorem Pw.one {α:Type}{R:α->V->Prop}{d:α}{v:V}(h:R d v):Pw R [d] [v]:=⟨h,trivial⟩
section
variable {K:PySem.W.Frag}{l:Addr}{g:TG}{tt:TT}{te:TE}{cap:List (Option Nat)}{σ:St}{Q:VK}{H1:Hp}{J:It}
theorem FT {α:Type}(n:Nat)(ds:List α)(Φ:Hp->α->V->Prop)(mono:∀ {H H':Hp} d v,fu H H'->Φ H d v->Φ H' d v)(hn:H1 l=none)(hlen:n=ds.length)(hz:n<sizeLine)(go:∀ i H,fu H1 H->i<n->J.go i H)(st:∀ H,fu H1 H->J.stop n H)
  (hs:∀ i x d H H',fu H1 H->(∃ us,H l=some (.lst us))->J.yld i H x H'->ds[i]? = some d->∀ (P1:VK) (P0:Hp->Prop),(∀ v H2,fu H H2->Φ (hid l H2) d v->P1 v H2)->
   g x (iY cap σ) H' λσ2 H2=>tt σ2 H2 λb H3=>if b=true then te σ2 H3 P1 else P0 H3)
  (hq:∀ vs H',fu H1 H'->H' l=some (.lst vs)->Pw (Φ (hid l H')) ds vs->Q (.ref l) H'):LcW J g tt te cap σ Q l H1:=by
 refine t6 n (λi acc H=>Pw (Φ (hid l H)) (ds.take i) acc/\fu H1 H/\H l=some (.lst acc)) ⟨trivial,fb hn,fg⟩ (λi acc H hi ⟨_,s,_⟩=>go i H s hi) (λacc H ⟨_,s,_⟩=>st H s) ?_ ?_
 ·rintro i x acc H H' hi ⟨e1,s,hl⟩ y
  have hd:ds[i]? = some (ds[i]'(by omega)):=by simp
  generalize ds[i]'(by omega)=d at hd
  refine hs i x d H H' s ⟨_,hl⟩ y hd _ _ (λv H2 s2 dv=>?_)
  have la:=Pw.len e1
  rw[bg]at la
  refine⟨s2 _ _ hl,by omega,?_,fu.upd (s.trans s2) hn,fg⟩
  rw[pq,aQ,hd]
  exact Pw.app (Pw.imp (λd v=>mono d v (oB s2)) e1) (Pw.one dv)
 ·rintro acc H ⟨e1,s,hl⟩
  rw[bX (by omega)]at e1
  exact hq acc H s hl e1
end
theorem Bf {l:Ln}{ns:List Int}(ok:fG l)(T:fW l ns):fW l (ns.reverse.map oth):=by
 refine⟨λe he=>?_,?_,λi x y hx hy=>?_⟩
 ·obtain⟨z,hz,rfl⟩:=ai.mp he
  have:=T.ends z (List.mem_reverse.mp hz)
  unfold oth;omega
 ·rw[bJ,show((λx:Int=>x/2) ∘ oth)=(λx:Int=>x/2) from funext λe=>by show oth e/2=e/2;unfold oth;omega,eX]
  exact(List.reverse_perm _).nodup_iff.mpr T.nd
 ·rw[ao]at hx hy
  have hi:i+1<ns.length:=by
   by_cases z:i+1<ns.length
   ·exact z
   ·rw[bB (by rw[cA];omega)]at hy;cases hy
  rw[List.getElem?_reverse (by omega)]at hx
  rw[List.getElem?_reverse (by omega)]at hy
  cases q1:ns[ns.length-1-i]? with
  |none=>rw[q1]at hx;cases hx
  |some a=>
   cases q2:ns[ns.length-1-(i+1)]? with
   |none=>rw[q2]at hy;cases hy
   |some b=>
    rw[q1]at hx;rw[q2]at hy
    cases hx;cases hy
    have:=T.ch (ns.length-1-(i+1)) b a q2 (by rw[show ns.length-1-(i+1)+1=ns.length-1-i by omega];exact q1)
    rw[i6]
    exact nN ok this
end TL
namespace TL
open PySem PySem.Spec PyProof.Rows L2
def gr (l:Ln)(t:List Int):List (List Int):=(fr l t (oth (t.getLastD 0))).map λe=>t ++ [e]
def IM (m:Int):List (List Int):=(Cw 0 (2*m).toNat).map λe=>[e]
def uU (l:Ln):Nat->List (List Int)
 | 0=>IM l.1
 |k+1=>(uU l k).flatMap (gr l)
variable {l:Ln}
theorem zR {t u:List Int}(h:u∈gr l t):∃ e∈fr l t (oth (t.getLastD 0)),u=t ++ [e]:=by
 obtain⟨e,he,rfl⟩:=ai.mp h
 exact⟨e,he,rfl⟩
theorem rk {l:Ln}(ok:fG l):∀ k,∀ t∈uU l k,fW l t/\t.length=k+1
 | 0,t,h=>by
  obtain⟨e,he,rfl⟩:=ai.mp h
  have he:=xW.mp he
  have:=ok.one
  refine⟨⟨λx hx=>?_,by simp,λi x y _ hy=>by simp at hy⟩,rfl⟩
  rw[aZ.mp hx];omega
 |k+1,t,h=>by
  obtain⟨u,hu,ht⟩:=di.mp h
  obtain⟨T,hl⟩:=rk ok k u hu
  obtain⟨e,he,rfl⟩:=zR ht
  refine⟨T.snoc ok (λz=>by rw[z]at hl;cases hl) he,by rw[ah,hl];rfl⟩
theorem IY (G:hG l)(e:Int):(jn l.2 e).Pairwise (· < ·):=by
 have h1:(jn l.2 e).Pairwise (· <= ·):=sP _
 have nd:(below l.2 e++above l.2 e).Nodup:=by
  have n1:(below l.2 e).Nodup:=by
   unfold below
   rw[List.Nodup,bY]
   refine dE (λ{p q} hp hq h=>λz=>h (cO z ?_)) (List.Pairwise.filter _ G.nd)
   have a:=cH (br.mp hp).2
   have b:=cH (br.mp hq).2
   rw[a,b]
  have n2:(above l.2 e).Nodup:=by
   unfold above
   rw[List.Nodup,bY]
   refine dE (λ{p q} hp hq h=>λz=>h (cO ?_ z)) (List.Pairwise.filter _ G.nd)
   have a:=cH (br.mp hp).2
   have b:=cH (br.mp hq).2
   rw[a,b]
  refine bx.mpr ⟨n1,n2,λx hx y hy z=>?_⟩
  obtain⟨p,hp,rfl⟩:=ai.mp hx
  obtain⟨q,hq,rfl⟩:=ai.mp hy
  have a:=cH (br.mp hp).2
  have b:=cH (br.mp hq).2
  have g1:=(G.ok p (br.mp hp).1).lt
  have g2:=(G.ok q (br.mp hq).1).lt
  omega
 have nd2:(jn l.2 e).Nodup:=(og _).nodup_iff.mpr nd
 exact dQ (λ{a b} h=>by omega) (h1.and nd2)
theorem vR:∀ {a b:List Int}{x y:Int},a.length=b.length->tZ a b=true->tZ (a ++ [x]) (b ++ [y])=true
 |[],[],_,_,_,h=>by cases h
 |p::a,q::b,x,y,hl,h=>by
  have h:(if p=q then tZ a b else decide (p<q))=true:=h
  show(if p=q then tZ (a ++ [x]) (b ++ [y])else decide (p<q))=true
  by_cases e:p=q
  ·rw[aM e]at h ⊢
   exact vR (by simpa using hl) h
  ·rw[aH e]at h ⊢
   exact h
theorem qY:∀ (a:List Int) {x y:Int},x<y->tZ (a ++ [x]) (a ++ [y])=true
 |[],x,y,h=>by
  show(if x=y then tZ [] []else decide (x<y))=true
  rw[aH (by omega)];exact bG h
 |p::a,x,y,h=>by
  show(if p=p then tZ (a ++ [x]) (a ++ [y])else decide (p<p))=true
  rw[aM rfl];exact qY a h
theorem DH {l:Ln}(G:hG l):∀ k,(uU l k).Pairwise (λa b=>tZ a b=true)
 | 0=>by
  unfold uU IM
  rw[bY]
  refine dQ (λ{a b} h=>?_) (Ey 0 _)
  exact qY [] h
 |k+1=>by
  show((uU l k).flatMap (gr l)).Pairwise _
  have ok:=G.jj
  rw[List.pairwise_flatMap]
  refine⟨λt _=>?_,?_⟩
  ·unfold gr
   rw[bY]
   exact dQ (λ{a b} h=>qY t h) (List.Pairwise.filter _ (IY G _))
  ·refine dE (λ{a b} ha hb h=>?_) (DH G k)
   intro x hx y hy
   obtain⟨e,_,rfl⟩:=zR hx
   obtain⟨f,_,rfl⟩:=zR hy
   exact vR ((rk ok k a ha).2.trans (rk ok k b hb).2.symm) h
theorem HD (G:hG l)(k:Nat):(uU l k).Nodup:=dQ (λ{a b} h=>λz=>by rw[z,yq]at h;cases h) (DH G k)
theorem vW {l:Ln}(G:hG l):∀ n,(pM l n).length<=48 ^ ((n+1)/2)
 | 0=>by simp[pM]
 | 1=>by
  simp only[pM,ux,aa,cI]
  have:=G.most
  omega
 |n+2=>by
  have ih:=vW G n
  simp only[pM]
  rw[List.length_flatMap]
  have e1:(uF l).map (λa=>((pM l n).map λr=>a.1::a.2::r).length)=(uF l).map λ_=>(pM l n).length:=by
   refine List.map_congr_left λa _=>by rw[aa]
  rw[e1,List.map_const',List.sum_replicate_nat]
  have h1:(uF l).length<=48:=by
   unfold uF
   rw[ah,aa,aa]
   have:=G.len
   omega
  rw[show(n+2+1)/2=(n+1)/2+1 by omega,Nat.pow_succ,Nat.mul_comm (48 ^ _)]
  exact Nat.mul_le_mul h1 ih
theorem AX (G:hG l){k:Nat}(hk:k<=6):(uU l k).length<=5308416:=by
 have h1:=md (HD G k) (l2:=pM l (k+1)) λt ht=>uE G.jj (k+1) t (rk G.jj k t ht).2 (rk G.jj k t ht).1.ends (rk G.jj k t ht).1.ch
 have h2:=vW G (k+1)
 have h3:48 ^ ((k+1+1)/2)<=48 ^ 4:=Nat.pow_le_pow_right (by decide) (by omega)
 have h4:48 ^ 4=5308416:=by decide
 omega
variable {a d:Addr}{Q:Bool->Shared->Prop}
section
variable {prog:Program}{w:World}{K:Type} [DecidableEq K] (knd:PySem.KeyKind prog w K)
def hV (h:Heap)(x:List K×K)(a:Addr):Prop:=∃ o n b v,h.get? a=some o/\o.cls = .type "tuple" /\o.data = .seq #[.ref b,v] n/\IsTupleKey knd h x.1 b/\knd.is x.2 v=true
variable {knd}
theorem hV.typeIs {s:Shared}{x:List K×K}(h:hV knd s.heap x a):s.TypeIs (.ref a) "tuple" :=let ⟨o,_,_,_,ho,hc,_⟩:=h;⟨o,ho,hc⟩
theorem hV.inj {h:Heap}{x y:List K×K}(hx:hV knd h x a)(hy:hV knd h y a):x=y:=by
 obtain⟨o,n,b,v,h1,_,h3,h4,h5⟩:=hx
 obtain⟨o',n',b',v',g1,_,g3,g4,g5⟩:=hy
 obtain rfl:o=o':=aU (h1.symm.trans g1)
 rw[h3]at g3
 injection g3 with e _
 have e1:Value.ref b=Value.ref b'/\v=v':=by simpa using e
 obtain⟨e1,rfl⟩:=e1
 injection e1 with e1
 subst e1
 exact cO (h4.inj g4) (knd.inj _ _ _ h5 g5)
theorem hV.keeps {h h':Heap}{x:List K×K}{o:Obj}{es ep}(k:hV knd h x a)(ho:h.get? d=some o)(hd:o.data = .dict es ep)(hs:Heap.SameBut d h h'):hV knd h' x a:=by
 obtain⟨o',n,b,v,h1,h2,h3,h4,h5⟩:=k
 have hne:a≠d:=by
  rintro rfl
  obtain rfl:o'=o:=aU (h1.symm.trans ho)
  rw[hd]at h3;exact nomatch h3
 exact⟨o',n,b,v,(hs.2 a hne).trans h1,h2,h3,h4.keeps ho hd hs,h5⟩
def tL (knd:PySem.KeyKind prog w K)(x:List K×K):Int:=reduceHash (Builtin.Tuple.tupleHashOf [tupleKeyHash knd x.1,knd.hash x.2])
variable {A:Around}{E:Value->Shared->Prop}{s:Shared}
theorem in1_units (A:Around):A.in1.units<=A.units+1:=by first |exact au _ |(simp[Around.in1];done)|omega
theorem qc {x:List K×K}{Q:Int->Shared->Prop}(hu:A.units+1<cLine)(hk:hV knd s.heap x a)(h:Q (tL knd x) {s with toks:=s.toks+(x.1.length+3)}):
  wpAny (model prog w) A (pyHash (.ref a)) Q E s:=by
 have hT:=hk.typeIs
 obtain⟨o,n,b,v,ho,_,hd,hb,hv⟩:=hk
 unfold pyHash
 first |unfold pyHashByItsType |skip
 first |refine ae (wpAny_cRoomFor_or (.inr (by omega)) ?_)|skip
 refine ae (eJ hT F.slot_tuple_hash.lookup ?_)
 show wpAny _ _ (if(some (Value.builtin "tuple.__hash__")==some Value.none)=true then _ else _) Q E s
 rw[aH (by rw[beq_builtin_none];exact aF)]
 refine ae (eJ hT F.slot_tuple_hash.lookup ?_)
 show wpAny _ _ (callSpecialIfBoundUnlessNone? (.ref a) "__hash__" _ >>= _) Q E s
 refine ae (wpAny_callSpecialIfBoundUnlessNone?_slot hT F.slot_tuple_hash (bW F.slot_tuple_hash hT F.entry_tuple_hash ?_ (F.args_tuple_hash_1 _)))
 show wpAny _ _ (Builtin.Tuple.tupleItemsOf (.ref a) >>= _) _ _ s
 refine ae (wpAny_tupleItemsOf ho hd ?_)
 refine ae ?_
 rw[<-Array.forIn_toList]
 show wpAny _ _ (forIn [Value.ref b,v] _ _) _ _ s
 rw[cG]
 refine ae ?_
 refine ae (wpAny_pyHash_tuple (cj (in1_units A) hu) hb ?_)
 refine aq ?_
 show wpAny _ _ (forIn [v] _ _) _ _ _
 rw[cG]
 refine ae ?_
 refine ae (knd.pyHash hv ?_)
 refine aq ?_
 show wpAny _ _ (forIn [] _ _) _ _ _
 rw[List.forIn_nil]
 refine aq ?_
 show wpAny _ _ (retInt (Builtin.Tuple.tupleHashOf [tupleKeyHash knd x.1,knd.hash x.2])) _ _ _
 refine wpAny_ret_mkInt ?_
 show wpAny _ _ (if(decide (-(2:Int) ^ 63<=Builtin.Tuple.tupleHashOf [tupleKeyHash knd x.1,knd.hash x.2])&&decide (Builtin.Tuple.tupleHashOf [tupleKeyHash knd x.1,knd.hash x.2]<2 ^ 63))=true then _ else _) Q E _
 unfold tL reduceHash at h
 by_cases hr:(decide (-(2:Int) ^ 63<=Builtin.Tuple.tupleHashOf [tupleKeyHash knd x.1,knd.hash x.2])&&decide (Builtin.Tuple.tupleHashOf [tupleKeyHash knd x.1,knd.hash x.2]<2 ^ 63))=true
 ·rw[aM hr]
  rw[aM hr]at h
  exact aq (by simpa [Nat.add_assoc]using h)
 ·rw[aH hr]
  rw[aH hr]at h
  exact ae (wpAny_rule (aq (by simpa [Nat.add_assoc]using h)))
theorem wM {x y:List K×K}{b:Addr}{P:Fin->Shared->Prop}(hu:A.units<cLine)(hx:hV knd s.heap x a)(hy:hV knd s.heap y b)(h:P (.done (.ret (.bool (decide (x=y))))) s):
  wpAny (model prog w) A (Builtin.«tuple.__eq__» ⟨[.ref a,.ref b],[]⟩) P E s:=by
 have hTb:=hy.typeIs
 obtain⟨oa,na,ba,va,hoa,_,hda,hia,hva⟩:=hx
 obtain⟨ob,nb,bb,vb,hob,_,hdb,hib,hvb⟩:=hy
 show wpAny _ _ (isInstance (.ref b) (.type "tuple") >>= _) _ _ s
 refine ae (eE hTb isSubtype_tuple_tuple ?_)
 simp only[cL,bK,cD]
 refine ae (wpAny_tupleItemsOf hoa hda ?_)
 refine ae (wpAny_tupleItemsOf hob hdb ?_)
 refine ae ?_
 show wpAny _ _ (forIn [(Value.ref ba,Value.ref bb),(va,vb)] _ _) _ _ s
 rw[cG]
 refine ae ?_
 refine ae (wpAny_eqBool_tuple hu hia hib ?_)
 by_cases h1:x.1=y.1
 ·rw[bG h1]
  simp only[cL,bK,cD]
  refine aq ?_
  show wpAny _ _ (forIn [(va,vb)] _ _) _ _ s
  rw[cG]
  refine ae ?_
  refine ae (knd.eqBool (a:=x.2) (b:=y.2) hva hvb ?_)
  by_cases h2:x.2=y.2
  ·rw[bG h2]
   simp only[cL,bK,cD]
   refine aq ?_
   show wpAny _ _ (forIn [] _ _) _ _ s
   rw[List.forIn_nil]
   refine aq ?_
   have e:x=y:=cO h1 h2
   rw[bG e]at h
   exact aq h
  ·rw[bo h2]
   simp only[Bool.not_false,eG]
   have hf:¬x=y:=λe=>h2 (by rw[e])
   rw[bo hf]at h
   exact ae (aq (aq (aq (aq h))))
 ·rw[bo h1]
  simp only[Bool.not_false,eG]
  have hf:¬x=y:=λe=>h1 (by rw[e])
  rw[bo hf]at h
  exact ae (aq (aq (aq (aq h))))
theorem qe {x y:List K×K}{b:Addr}(hu:A.units+1<cLine)(hx:hV knd s.heap x a)(hy:hV knd s.heap y b)(h:Q (decide (x=y)) s):
  wpAny (model prog w) A (eqBool (.ref a) (.ref b)) Q E s:=by
 unfold eqBool
 try with_reducible refine cS ?_
 show wpAny _ _ (if(Value.ref a==Value.ref b)=true then _ else _) Q E s
 by_cases hab:(Value.ref a==Value.ref b)=true
 ·rw[aM hab]
  have e:a=b:=by have:=eq_of_beq hab;injection this
  subst e
  obtain rfl:=hx.inj hy
  exact ae (wpAny_rule (aq (by simpa using h)))
 ·rw[aH hab]
  exact ae (wpAny_richCompare_same_room (op:=.Eq) hx.typeIs hy.typeIs F.slot_tuple_eq
   (bW F.slot_tuple_eq hx.typeIs F.entry_tuple_eq (wM (cj (in1_units A) hu) hx hy ⟨_,rfl,(λe=>nomatch e),cC h⟩) (F.args_tuple_eq_2 _ _)) (by omega))
theorem xZ (m:Nat){ks:List K}(hk:IsTupleKey knd s.heap ks a)(h:Q true s):wpAny (model prog w) A (eqIsQuiet (m+1) (.ref a)) Q E s:=by
 have hT:=hk.typeIs
 obtain⟨o,items,n,ho,_,hd,hi⟩:=hk
 unfold eqIsQuiet
 refine ae (eJ hT F.slot_tuple_eq.lookup ?_)
 show wpAny _ _ (isInstance (.ref a) (.type "tuple") >>= _) _ _ s
 refine ae (eE hT isSubtype_tuple_tuple ?_)
 simp only[cL,bK,cD]
 refine ae (wpAny_seqItems ho hd ?_)
 refine ae ?_
 show wpAny _ _ (forIn items _ _) _ _ s
 rw[<-Array.forIn_toList]
 refine wpAny_forIn_list _ (λrest r s'=>r.1=none/\s'=s/\∀ v∈rest,carriedByValue v=true) _ ?_ ?_ _ _ ⟨rfl,rfl,hi.byValue⟩
 ·rintro v rest r s' ⟨hr,rfl,Fe⟩
  rw[eqIsQuiet_byValue _ (Fe v aB)]
  refine ae (aq ?_)
  simp only[cL,bK,cD]
  exact aq ⟨rfl,rfl,λu hu'=>Fe u (aC _ hu')⟩
 ·rintro⟨r1,r2⟩ s' ⟨hr,rfl,_⟩
  simp only at hr
  subst hr
  exact aq h
theorem zw (m:Nat){x:List K×K}(hk:hV knd s.heap x a)(h:Q true s):wpAny (model prog w) A (eqIsQuiet (m+2) (.ref a)) Q E s:=by
 have hT:=hk.typeIs
 obtain⟨o,n,b,v,ho,_,hd,hb,hv⟩:=hk
 unfold eqIsQuiet
 refine ae (eJ hT F.slot_tuple_eq.lookup ?_)
 show wpAny _ _ (isInstance (.ref a) (.type "tuple") >>= _) _ _ s
 refine ae (eE hT isSubtype_tuple_tuple ?_)
 simp only[cL,bK,cD]
 refine ae (wpAny_seqItems ho hd ?_)
 refine ae ?_
 show wpAny _ _ (forIn #[Value.ref b,v] _ _) _ _ s
 rw[<-Array.forIn_toList]
 show wpAny _ _ (forIn [Value.ref b,v] _ _) _ _ s
 rw[cG]
 refine ae ?_
 refine ae (xZ m hb ?_)
 simp only[cL,bK,cD]
 refine aq ?_
 show wpAny _ _ (forIn [v] _ _) _ _ s
 rw[cG]
 refine ae ?_
 rw[eqIsQuiet_byValue _ (knd.byValue _ _ hv)]
 refine ae (aq ?_)
 simp only[cL,bK,cD]
 refine aq ?_
 show wpAny _ _ (forIn [] _ _) _ _ s
 rw[List.forIn_nil]
 exact aq (aq h)
end
def ou {prog:Program}{w:World}{K:Type} [DecidableEq K] (knd:PySem.KeyKind prog w K):HeapKind prog w (List K×K) where
 is:=hV knd
 hash:=tL knd
 draws:=λx=>x.1.length+3
 room:=λA=>A.units+1<cLine
 inj:=λhx hy=>hx.inj hy
 keeps:=λx ho hd hs=>x.keeps ho hd hs
 pyHash:=λhu hk h=>qc hu hk h
 eqBool:=λhu hx hy h=>qe hu hx hy h
 quiet:=λhk h=>zw 6 hk h
abbrev SK:=List Key×Key
abbrev KvN:=List (SK×Addr×V)
abbrev PN:KvN->List (SK×Addr×Value)->Prop:=Paired λp q=>p.1=q.1/\p.2.1=q.2.1/\RelV p.2.2 q.2.2
def CJ (P:Program)(w:World)(a:Addr)(kvs:KvN)(h:Heap):Prop:=kvs.length<=sizeLine/\(a==sysModules)=false/\∃ xs:List (SK×Addr×Value),PN kvs xs/\
 ∃ o es ep,h.get? a=some o/\o.ExactDict/\o.data = .dict es ep/\es.toList=xs.map (entryOfKey (ou (gU P w)))/\(xs.map (·.1)).Nodup
def nD (P:Program)(w:World)(a:Addr)(kvs:KvN):HO:=.ext (CJ P w a kvs)
variable {P:Program}{w:World}{kvs:KvN}
theorem CJ.mono {h1 h2:Heap}(p:CJ P w a kvs h1)(e:∀ o,h1.get? a=some o->h2.get? a=some o):CJ P w a kvs h2:=by
 obtain⟨p1,p2,xs,p3,o,es,ep,p4,p5⟩:=p
 exact⟨p1,p2,xs,p3,o,es,ep,e _ p4,p5⟩
variable {H:Hp}
theorem AG {h:Heap}(p:CJ P w a kvs h):iQ P w H h a (nD P w a kvs):=
 ⟨p,(by obtain⟨_,_,_,_,o,_,_,e,_⟩:=p;exact⟨o,e⟩),λh1 h2 q e=>q.mono e⟩
def jF (H:Hp)(c:Addr)(k:SK):Prop:=∃ b,H c=some (.tup [.ref b,kV k.2])/\H b=some (.tup (k.1.map kV))
variable {H':Hp}{k:SK}
theorem jF.same {c:Addr}(h:jF H c k)(s:fu H H'):jF H' c k:=h.imp λb h=>⟨s _ _ h.1,s _ _ h.2⟩
theorem jF.ky {c:Addr}(h:jF H c k)(s:∀ b ys,H b=some (.tup ys)->H' b=some (.tup ys)):jF H' c k:=h.imp λb h=>⟨s _ _ h.1,s _ _ h.2⟩
structure DN (P:Program)(w:World)(H:Hp)(a:Addr)(kvs:KvN):Prop where
 at_:H a=some (nD P w a kvs)
 keys:∀ p∈kvs,jF H p.2.1 p.1
theorem DN.same (h:DN P w H a kvs)(s:fu H H'):DN P w H' a kvs:=⟨s _ _ h.at_,λp hp=>(h.keys p hp).same s⟩
def valN (kvs:KvN)(k:SK):Option V:=(kvs.find? λp=>decide (p.1=k)).map (·.2.2)
def putN (kvs:KvN)(k:SK)(c:Addr)(v:V):KvN:=if(valN kvs k).isSome then kvs.map (λp=>if p.1=k then(p.1,p.2.1,v)else p)else kvs ++ [(k,c,v)]
theorem jt {p:SK×Addr×V}{r:KvN}(e:p.1=k):valN (p::r) k=some p.2.2:=by simp[valN,b8,e]
theorem ju {p:SK×Addr×V}{r:KvN}(e:¬p.1=k):valN (p::r) k=valN r k:=by simp[valN,b8,e]
theorem sN (k j:SK)(y:V):∀ kvs:KvN,valN (kvs.map λp=>if p.1=k then(p.1,p.2.1,y)else p) j=(valN kvs j).map λx=>if j=k then y else x
 |[]=>rfl
 |p::r=>by
  rw[aN]
  by_cases e:p.1=k
  ·rw[aM e]
   by_cases f:p.1=j
   ·rw[jt (p:=(p.1,p.2.1,y)) f,jt f,Option.map_some,aM (f.symm.trans e)]
   ·rw[ju (p:=(p.1,p.2.1,y)) f,ju f];exact sN k j y r
  ·rw[aH e]
   by_cases f:p.1=j
   ·rw[jt f,jt f,Option.map_some,aH (λz=>e (f.trans z))]
   ·rw[ju f,ju f];exact sN k j y r
theorem vd (k j:SK)(c:Addr)(y:V):∀ kvs:KvN,valN kvs k=none->valN (kvs ++ [(k,c,y)]) j=if j=k then some y else valN kvs j
 |[],_=>by
  rw[eu]
  by_cases f:j=k
  ·rw[aM f,jt (p:=(k,c,y)) f.symm]
  ·rw[aH f,ju (p:=(k,c,y)) (λz=>f z.symm)]
 |p::r,h=>by
  have hp:¬p.1=k:=λe=>by rw[jt e]at h;cases h
  rw[ju hp]at h
  rw[d9]
  by_cases f:p.1=j
  ·rw[jt f,jt f,aH (λz=>hp (f.trans z))]
  ·rw[ju f,ju f];exact vd k j c y r h
theorem xD (kvs:KvN)(k j:SK)(c:Addr)(y:V):valN (putN kvs k c y) j=if j=k then some y else valN kvs j:=by
 unfold putN
 split
 ·rename_i h
  rw[sN]
  by_cases f:j=k
  ·subst f
   obtain⟨v,hv⟩:=cK.mp h
   rw[hv,aM rfl,Option.map_some,aM rfl]
  ·rw[aH f]
   cases valN kvs j with
   |none=>rfl
   |some v=>rw[Option.map_some,aH f]
 ·rename_i h
  exact vd k j c y kvs (by simpa using h)
theorem tD (kvs:KvN)(k:SK)(c:Addr)(v:V):(putN kvs k c v).length<=kvs.length+1:=by
 unfold putN
 split
 ·rw[aa];omega
 ·rw[ah,aA];exact au _
variable {xs:List (SK×Addr×Value)}
theorem PN.val (r:PN kvs xs)(k:SK):si (valN kvs k) ((atKey xs k).map (·.2)):=by
 induction r with
 |nil=>exact True.intro
 |@cons p q ps qs h t ih=>
  obtain⟨h1,_,h2⟩:=h
  by_cases e:p.1=k
  ·have e':q.1=k:=h1.symm.trans e
   have b:atKey (q::qs) k=some q.2:=by simp[atKey,b8,e']
   rw[jt e,b];exact h2
  ·have e':¬q.1=k:=λz=>e (h1.trans z)
   have b:atKey (q::qs) k=atKey qs k:=by simp[atKey,b8,e']
   rw[ju e,b];exact ih
theorem PN.Cz (r:PN kvs xs)(k:SK){y:V}{u:Value}(ry:RelV y u):PN (kvs.map λp=>if p.1=k then(p.1,p.2.1,y)else p) (xs.map (putAt k u)):=by
 induction r with
 |nil=>exact .nil
 |@cons p q ps qs h t ih=>
  rw[aN,aN]
  refine .cons ?_ ih
  obtain⟨h1,h2,h3⟩:=h
  unfold putAt
  by_cases e:p.1=k
  ·rw[aM e,aM (h1.symm.trans e)];exact⟨h1,h2,ry⟩
  ·rw[aH e,aH (λz=>e (h1.trans z))];exact⟨h1,h2,h3⟩
theorem PN.put (r:PN kvs xs)(k:SK)(c:Addr){y:V}{u:Value}(ry:RelV y u):PN (putN kvs k c y) (storedH xs k c u):=by
 have e:(valN kvs k).isSome=(atKey xs k).isSome:=by rw[(r.val k).ng,eO]
 unfold putN storedH
 rw[e]
 by_cases q:(atKey xs k).isSome=true
 ·rw[aM q,aM q];exact r.Cz k ry
 ·rw[aH q,aH q];exact Paired.snoc r ⟨rfl,rfl,ry⟩
section
variable {P:Program}{w:World}{H:Hp}{h:Heap}{a c:Addr}{kvs:KvN}{k:SK}
theorem qz (ok:HOk P w H h)(e:jF H c k):(ou (gU P w)).is h k c:=by
 obtain⟨b,e1,e2⟩:=e
 obtain⟨_,its,r,o,h1,h2,n,h3⟩:=(show iQ P w H h c (.tup [.ref b,kV k.2]) from ok c _ e1)
 cases r with
 |cons r1 r2=>
  cases r2 with
  |cons r3 r4=>
   cases r4
   cases r1
   exact⟨o,n,b,_,h1,h2,h3,qZ ok e2,oA r3⟩
theorem yK (ok:HOk P w H h)(e:DN P w H a kvs):kvs.length<=sizeLine/\(a==sysModules)=false/\∃ xs,PN kvs xs/\h.DictOfH (ou (gU P w)) a xs:=by
 obtain⟨⟨z,y,xs,r,o,es,ep,h1,h2,h3,h4,h5⟩,_,_⟩:=(show iQ P w H h a (nD P w a kvs) from ok a _ e.at_)
 refine⟨z,y,xs,r,o,es,ep,h1,h2,h3,h4,λx hx=>?_,h5⟩
 have all:∀ {l:KvN}{m:List (SK×Addr×Value)},PN l m->(∀ p∈l,jF H p.2.1 p.1)->∀ x∈m,(ou (gU P w)).is h x.1 x.2.1:=by
  intro l m q
  induction q with
  |nil=>intro _ x hx;exact nomatch hx
  |@cons p q ps qs hq t ih=>
   intro hk x hx
   rcases aK.mp hx with e |hx
   ·subst e
    have:=qz ok (hk p aB)
    rw[hq.1,hq.2.1]at this
    exact this
   ·exact ih (λp hp=>hk p (aC _ hp)) x hx
 exact all r e.keys x hx
end
theorem mG {A:Around}(hu:A.units+2<cLine):(ou (gU P w)).room A.in1:=by
 show A.in1.units+1<cLine
 have:=in1_units A
 omega
section
variable {X:Cx}{pins:List (Addr×Obj)}{σ:St}{H:Hp}{s:Shared}{a c:Addr}{v:V}{r:Value}{k:SK}{kvs:KvN}{A:Around}{E:Value->Shared->Prop}
theorem BD {Q:Value->Shared->Prop}(hu:A.units+2<cLine)(I:Inv X pins σ H s)(e:DN X.prog X.w H a kvs)(ek:jF H c k)(l:valN kvs k=some v)(h:∀ w' s',Inv X pins σ H s'->RelV v w'->Q w' s'):
  wpAny (model X.prog X.w) A (getItem (.ref a) (.ref c)) Q E s:=by
 obtain⟨z,hd,xs,rel,dd⟩:=yK I.hok e
 obtain⟨w',hw,rw'⟩:=si.some_of (v:=v) (o:=(atKey xs k).map (·.2)) (by rw[<-l];exact rel.val k)
 obtain⟨p,hp,hp2⟩:=dO.mp hw
 refine wpAny_getItem_heap (mG hu) (qz I.hok ek) dd hp ?_
 rw[hp2]
 exact h w' _ (I.tok _) rw'
theorem EW {Q:Value->Shared->Prop}(hu:A.units+2<cLine)(I:Inv X pins σ H s)(e:DN X.prog X.w H a kvs)(ek:jF H c k)(h:∀ s',Inv X pins σ H s'->Q (.bool (!(valN kvs k).isSome)) s'):
  wpAny (model X.prog X.w) A (compareOp .NotIn (.ref c) (.ref a)) Q E s:=by
 obtain⟨z,hd,xs,rel,dd⟩:=yK I.hok e
 refine wpAny_notIn_heap (mG hu) (qz I.hok ek) hd dd ?_
 have q:=(rel.val k).ng
 rw[eO]at q
 rw[<-q]
 exact h _ (I.tok _)
theorem BC {Q:Unit->Shared->Prop}(hu:A.units+2<cLine)(I:Inv X pins σ H s)(e:DN X.prog X.w H a kvs)(ek:jF H c k)(l:kvs.length<sizeLine)(rv:RelV v r)(h:∀ s',Inv X pins σ (upd H a (nD X.prog X.w a (putN kvs k c v))) s'->Q () s'):
  wpAny (model X.prog X.w) A (setItem (.ref a) (.ref c) r) Q E s:=by
 obtain⟨z,hd,xs,rel,dd⟩:=yK I.hok e
 have hz:xs.length<=sizeLine:=by rw[<-bR rel];exact z
 have hl:(putN kvs k c v).length<=sizeLine:=by have:=tD kvs k c v;omega
 refine wpAny_setItem_heap (hsz:=hz) (mG hu) (qz I.hok ek) dd λh' dd' hs=>h _ ?_
 obtain⟨q,es,ep,hq,h2,h3,h4,_,h5⟩:=dd'
 exact qF I (by rw[e.at_];exact True.intro) hs ⟨q,hq⟩ (AG ⟨hl,hd,_,rel.put k c rv,q,es,ep,hq,h2,h3,h4,h5⟩)
end
variable {o:HO}
theorem Dh {b:Addr}{ys:List V}(h:H a=some (nD P w a kvs))(e:H b=some (.tup ys)):(upd H a o) b=some (.tup ys):=by
 rw[fm (fU e h (λz=>nomatch z))];exact e
theorem DN.put {c:Addr}{v:V}(h:DN P w H a kvs)(ek:jF H c k):DN P w (upd H a (nD P w a (putN kvs k c v))) a (putN kvs k c v):=by
 refine⟨fg,λp hp=>?_⟩
 refine jF.ky (H:=H) ?_ λb ys e=>Dh h.at_ e
 unfold putN at hp
 split at hp
 ·obtain⟨q,hq,e⟩:=ai.mp hp
  by_cases f:q.1=k
  ·rw[aM f]at e;rw[<-e];exact h.keys q hq
  ·rw[aH f]at e;rw[<-e];exact h.keys q hq
 ·rcases ay.mp hp with z |z
  ·exact h.keys p z
  ·rw[aZ.mp z];exact ek
def FG (P:Program)(w:World)(td ty:TE):TE:=λσ H Q=>td σ H λx H1=>ty σ H1 λy H2=>∃ a kvs c k v,x = .ref a/\y = .ref c/\DN P w H2 a kvs/\jF H2 c k/\valN kvs k=some v/\Q v H2
def Es (P:Program)(w:World)(ty td:TE):TE:=λσ H Q=>ty σ H λy H1=>td σ H1 λx H2=>∃ a kvs c k,x = .ref a/\y = .ref c/\DN P w H2 a kvs/\jF H2 c k/\Q (.bl (!(valN kvs k).isSome)) H2
def Iy (P:Program)(w:World)(td ty tv:TE):TS:=λD σ H=>tv σ H λv H1=>td σ H1 λx H2=>ty σ H2 λy H3=>∃ a kvs c k,x = .ref a/\y = .ref c/\DN P w H3 a kvs/\jF H3 c k/\kvs.length<sizeLine/\D.nx σ (upd H3 a (nD P w a (putN kvs k c v)))
def Il (P:Program)(w:World):TE:=λ_ H Q=>∀ p,H p=none->Q (.ref p) (upd H p (nD P w p []))
section
variable {X:Cx}{o i e value:Expr}{pos pos' Ib:Pos}{td ty tv:TE}
theorem BW {pins:List (Addr×Obj)}{σ:St}{s:Shared}(I:Inv X pins σ H s)(g:DN X.prog X.w H a kvs):s.TypeIs (.ref a) "dict" :=by
 obtain⟨_,_,xs,_,o,es,ep,h1,h2,_⟩:=yK I.hok g
 exact⟨o,h1,h2.1⟩
theorem qr (hu:X.A.units+2<cLine)(ho:PE X o td)(hi:PE X i ty)(hs:Ea i):PE X (.Subscript o i pos) (FG X.prog X.w td ty):=by
 intro pins s σ H Q I h
 refine v7 eL.lookup hs (thn (ho pins s σ H _ I h) λu s1 ⟨x,H1,I1,rx,q1⟩=>thn (hi pins s1 σ H1 _ I1 q1) λiv s2 ⟨y,H2,I2,ry,a,kvs,c,k,v,ex,ey,g,gk,l,q2⟩=>?_)
 subst ex ey
 obtain rfl:u=Value.ref a:=rx
 obtain rfl:iv=Value.ref c:=ry
 exact⟨BW I2 g,BD hu I2 g gk l λw' s3 I3 rw'=>⟨v,H2,I3,rw',q2⟩⟩
theorem vL (hu:X.A.units+2<cLine)(hi:PE X i ty)(ho:PE X o td):PC X .NotIn i o (Es X.prog X.w ty td):=by
 intro pins s σ H Q I h
 refine thn (hi pins s σ H _ I h) λiv s1 ⟨y,H1,I1,ry,q1⟩=>thn (ho pins s1 σ H1 _ I1 q1) λu s2 ⟨x,H2,I2,rx,a,kvs,c,k,ex,ey,g,gk,q2⟩=>?_
 subst ex ey
 obtain rfl:u=Value.ref a:=rx
 obtain rfl:iv=Value.ref c:=ry
 exact EW hu I2 g gk λs3 I3=>⟨.bl (!(valN kvs k).isSome),H2,I3,rfl,q2⟩
theorem wH (hu:X.A.units+2<cLine)(ho:PE X o td)(hi:PE X i ty)(hv:PE X value tv)(hs:swapsWith value (some (.Subscript o i pos')) pos.line X.env=pure false):
  PS X (.Assign [.Subscript o i pos'] value pos) (Iy X.prog X.w td ty tv):=by
 intro pins s σ H D I h
 refine wpAny_Assign_Subscript (thn (hv pins s σ H _ I h) λr s1 ⟨v,H1,I1,rv,q1⟩=>thn (ho pins s1 σ H1 _ I1 q1) λu s2 ⟨x,H2,I2,rx,q2⟩=>thn (hi pins s2 σ H2 _ I2 q2) λiv s3 ⟨y,H3,I3,ry,a,kvs,c,k,ex,ey,g,gk,l,q3⟩=>?_) hs
 subst ex ey
 obtain rfl:u=Value.ref a:=rx
 obtain rfl:iv=Value.ref c:=ry
 exact BC hu I3 g gk l rv λs4 I4=>⟨σ,_,I4,q3⟩
theorem EK:PE X (.Dict [] [] pos) (Il X.prog X.w):=λpins s σ H Q I h=>
 wpAny_Dict_empty ⟨.ref s.heap.objs.size,_,I.laid (a:=s.heap.objs.size) (o:=nD X.prog X.w s.heap.objs.size []) (t':=s.toks) (λ_ _ q=>aD _ q) (au _)
  (AG ⟨aP _,eA.mpr (bF (aS I.big)),[],.nil,_,#[],0,aT _ rfl,⟨rfl,rfl,rfl⟩,rfl,rfl,dh⟩),rfl,h _ (I.hok.fresh (au _))⟩
end
open TS
theorem GY {X:Cx}{pins:List (Addr×Obj)}{σ:St}{s:Shared}{c:Addr}{v:V}{r:Value}{A:Around}{E:Value->Shared->Prop}{Q:Unit->Shared->Prop}(hu:A.units+1<cLine)(I:Inv X pins σ H s)(e:DN X.prog X.w H a kvs)(ek:jF H c k)(l:kvs.length<sizeLine)(rv:RelV v r)
  (h:∀ s',Inv X pins σ (upd H a (nD X.prog X.w a (putN kvs k c v))) s'->Q () s'):wpAny (model X.prog X.w) A (dictSet a (.ref c) r) Q E s:=by
 obtain⟨z,hd,xs,rel,dd⟩:=yK I.hok e
 have hz:xs.length<=sizeLine:=by rw[<-bR rel];exact z
 have hl:(putN kvs k c v).length<=sizeLine:=by have:=tD kvs k c v;omega
 refine wpAny_dictSet_heap (hsz:=hz) hu (qz I.hok ek) dd λh' dd' hs=>h _ ?_
 obtain⟨q,es,ep,hq,h2,h3,h4,_,h5⟩:=dd'
 exact qF I (by rw[e.at_];exact True.intro) hs ⟨q,hq⟩ (AG ⟨hl,hd,_,rel.put k c rv,q,es,ep,hq,h2,h3,h4,h5⟩)
variable {i:Nat}
section
variable {X:Cx}{pins:List (Addr×Obj)}{σ:St}{H1:Hp}{s2:Shared}{scope:Scope}{N:List Str}{own:Nat}{cap:List (Option Nat)}{cl:List (Str×Addr)}{fp:List Addr}
 {tg iter elt vlt:Expr}{ifs:List Expr}{pos:Pos}{g:TG}{tt:TT}{te tv:TE}{wi:TI}
def HR (P:Program)(w:World)(J:It)(g:TG)(tt:TT)(te tv:TE)(cap:List (Option Nat))(σ:St)(Q:VK)(l:Addr)(H1:Hp):Prop:=
 ∃ W:Nat->Nat->Hp->Prop,(∃ m,W 0 m (upd H1 l (nD P w l [])))/\∀ i m H,W i m H->
  (J.stop i H/\Q (.ref l) H)\/(J.go i H/\∃ N:Hp->Prop,(∀ H',N H'->∃ m',m'<m/\W (i+1) m' H')/\
   ∀ x H',J.yld i H x H'->g x (iY cap σ) H' λσ2 H2=>tt σ2 H2 λb H3=>
    if b=true then te σ2 H3 λy H4=>tv σ2 H4 λv H5=>∃ (kvs:KvN) (k:SK) (b:Addr),y = .ref b/\DN P w H5 l kvs/\jF H5 b k/\kvs.length<sizeLine/\N (upd H5 l (nD P w l (putN kvs k b v)))
    else N H3)
def Kb (P:Program)(w:World)(wi:TI)(cap:List (Option Nat))(g:TG)(tt:TT)(te tv:TE):TE:=λσ H Q=>wi σ H λJ H1=>∀ l,H1 l=none->
 HR P w J g tt te tv cap σ Q l H1
theorem zY {it:Addr}{tn:Nat->Heap->Prop}{J:It}{Q:VK}{RR:Value->Addr->Result->Shared->Prop}{E:Value->Shared->Prop}(hu:X.A.units+1<cLine)(I:Inv X pins σ H1 s2)(T:Turn X.prog X.w X.K tg J fp it tn)(t0:tn 0 s2.heap)
  (f:∀ b∈fp,nT X pins H1 b) (hc:X.calm=true) (C:gH X.env.scope X.N scope N own cap) (ho:sk own g)
  (mi:∀ x c,cl.lookup x=some c->X.env.cells.lookup x=some c) (pK:∀ y∈scope.names,y.2 = .free->∃ c,cl.lookup y.1=some c)
  (hg:∀ s3 H3,PG (fR X scope cl N fp s3 H3) tg g) (ht:∀ s3 H3,xt (fR X scope cl N fp s3 H3) ifs tt) (he:∀ s3 H3,PE (fR X scope cl N fp s3 H3) elt te) (hv:∀ s3 H3,PE (fR X scope cl N fp s3 H3) vlt tv)
  (hw:∀ l,H1 l=none->HR X.prog X.w J g tt te tv cap σ Q l H1)
  (fin:∀ l C s' H' m',Inv X pins σ H' s'->s'.heap.Ns C m'->H' C=none->Apart X pins C->Q (.ref l) H'->RR (.ref l) C (.ok .next) s'):
  wpAny (model X.prog X.w) X.A newDict (λacc s₃=>wpAny (model X.prog X.w) X.A (newFunctionEnv scope X.env.globals cl [] X.env.qual none .none (some X.env)) (λyT s₄=>
   codeAny (model X.prog X.w) X.A (.compStart (.DictComp elt vlt [⟨tg,iter,ifs,0⟩] scope pos) 0 (.ref it) acc {yT with scope:=relabel scope X.env}) (RR acc yT.locals) s₄) E s₃) E s2:=by
 refine cf ?_
 refine wpAny_newFunctionEnv C.wV (by intro y hy;simp at hy) (λh₁ mh mf=>?_) C.kind
 dsimp only at mh mf ⊢
 obtain⟨W,⟨m0,w0⟩,turn⟩:=hw s2.heap.objs.size I.fresh
 have I3:Inv X pins σ (upd H1 s2.heap.objs.size (nD X.prog X.w s2.heap.objs.size [])) {s2 with heap:=s2.heap.push {cls:=.type "dict",data:=.dict #[]}} :=
  I.laid (t':=s2.toks) (λb u e=>aD _ e) (au _) (AG ⟨aP _,eA.mpr (bF (aS I.big)),[],.nil,_,#[],0,aT _ rfl,⟨rfl,rfl,rfl⟩,rfl,rfl,dh⟩)
 generalize hs3:({s2 with heap:=s2.heap.push {cls:=.type "dict",data:=.dict #[]}} :Shared)=s3 at I3
 have hh3:s3.heap=s2.heap.push {cls:=.type "dict",data:=.dict #[]} :=by rw[<-hs3]
 rw[<-hh3]at mh mf ⊢
 have e4:({s2 with heap:=h₁,toks:=s2.toks+([]:List (Str×Value)).length} :Shared) = {s3 with heap:=h₁,toks:=s2.toks} :=by rw[<-hs3];rfl
 rw[e4]
 have k4:∀ b u,s3.heap.get? b=some u->h₁.get? b=some u:=λb u e=>mf.extBut b u (aS (aE e)) (aD _ e)
 have k3:∀ b u,s2.heap.get? b=some u->s3.heap.get? b=some u:=λb u e=>by rw[hh3];exact aD _ e
 have hb2:∀ b∈fp,b<s2.heap.objs.size:=λb hb=>by obtain⟨o,e,_⟩:=T.obj _ _ t0 b hb;exact aE e
 have f3:∀ b∈fp,nT X pins (upd H1 s2.heap.objs.size (nD X.prog X.w s2.heap.objs.size [])) b:=λb hb=>by
  obtain⟨f0,fr⟩:=f b hb
  exact⟨by rw[fm (aS (hb2 b hb))];exact f0,fr⟩
 have hb3:∀ b∈fp,b<s3.heap.objs.size:=λb hb=>by obtain⟨o,e,_⟩:=T.obj _ _ t0 b hb;exact aE (k3 b o e)
 have I4:=uf (tk:=s2.toks) I3 C mi pK (λb hb=>⟨f3 b hb,hb3 b hb⟩) mh k4
 generalize hH3:upd H1 s2.heap.objs.size (nD X.prog X.w s2.heap.objs.size [])=H3 at *
 have st4:tn 0 h₁:=T.keep _ _ _ t0 λb hb o e=>k4 b o (k3 b o e)
 have fpX:∀ {H':Hp},(∀ b∈fp,H' b=none)->∀ b∈fp,nT (fR X scope cl N fp s3 H3) [] H' b:=λ{H'} hn b hb=>by
  obtain⟨f0,f1,f2,f3',f4,f5⟩:=f3 b hb
  refine⟨hn b hb,aS (hb3 b hb),λhz=>?_,.inl hb,λx c e=>f4 x c (mi x c e),λp hp=>absurd (show p∈([]:List (Addr×Obj)) from hp) (by simp)⟩
  rcases aK.mp (I3.nZ b hz)with z |z
  ·exact f1 z
  ·exact f2 z
 have loop:codeAny (model X.prog X.w) X.A (.compLoop (.DictComp elt vlt [⟨tg,iter,ifs,0⟩] scope pos) 0 (.ref it) (.ref s2.heap.objs.size) (compEnvC scope cl s3.heap.objs.size X.env)) (RR (.ref s2.heap.objs.size) s3.heap.objs.size) {s3 with heap:=h₁,toks:=s2.toks} :=by
  refine xo (λn s'=>∃ i H',Inv (fR X scope cl N fp s3 H3) [] (iY cap σ) H' s'/\tn i s'.heap/\(∀ b∈fp,H' b=none)/\W i n H') ?_ m0 ⟨0,H3,I4,st4,λb hb=>(f3 b hb).1,w0⟩
  rintro n s' ⟨i,H',I',st,fr,w⟩
  rcases turn i n H' w with⟨stop,q⟩|⟨go,NN,hNN,step⟩
  ·refine thn (T.done (fR X scope cl N fp s3 H3) rfl rfl rfl hc i [] s' _ H' (λ_ _=>False) I' (fpX fr) st stop) λr s5 ⟨hr,I5⟩=>?_
   subst hr
   obtain⟨m5,hn5,_⟩:=id I5.loc
   exact fin _ _ s5 H' m5 (comp_back I3 f3 I5) hn5 I5.free (TL.Inv.apart I3) q
  ·refine thn (T.item (fR X scope cl N fp s3 H3) rfl rfl rfl hc i [] s' _ H' (λ_ _=>False) I' (fpX fr) st go) λr s5 ⟨u,hr,h5⟩=>?_
   subst hr
   refine thn h5 λ_ s6 ⟨x,H6,I6,r6,y6,st6,fr6⟩=>?_
   have I6':=I6.pinned (fpX fr6) (T.obj _ _ st6)
   refine thn (hg s3 H3 _ s6 _ H6 x u _ I6' r6 (ho.own _ _ _ _ (step x H6 y6))) λ_ s7 ⟨σ7,H7,I7,q7,l7,o7⟩=>?_
   have cov:∀ (i:Nat) v,(iY cap σ)[i]? = some (some v)->σ7[i]? = some (some v):=λi v e=>by
    obtain⟨j,c1,c2⟩:=pF e
    by_cases hi:i<own
    ·exact(C.tM hi c1).elim
    ·rw[o7 i (by omega)];exact e
   have back:∀ {H8:Hp}{s8:Shared},Inv (fR X scope cl N fp s3 H3) ([]++pW fp s6.heap) σ7 H8 s8->Inv (fR X scope cl N fp s3 H3) [] (iY cap σ) H8 s8/\tn (i+1) s8.heap/\∀ b∈fp,H8 b=none:=λ{H8 s8} I8=>by
    refine⟨(Inv.mR (pins:=[]) I8).weak l7.symm cov,T.keep _ _ _ st6 λb hb o e=>(I8.pin (b,o) (az _ (az _ (jx hb e)))).1,λb hb=>?_⟩
    obtain⟨o,e,d⟩:=T.obj _ _ st6 b hb
    exact(I8.pin (b,o) (az _ (az _ (jx hb e)))).2.1
   refine thn (ht s3 H3 _ s7 σ7 H7 _ I7 q7) λb s8 ⟨H8,I8,q8⟩=>?_
   cases b with
   |false=>
    rw[aH aF]at q8 ⊢
    obtain⟨m',hm,w8⟩:=hNN _ q8
    obtain⟨J1,J2,J3⟩:=back I8
    exact⟨m',hm,i+1,H8,J1,J2,J3,w8⟩
   |true=>
    rw[aM rfl]at q8 ⊢
    refine thn (he s3 H3 _ s8 σ7 H8 _ I8 q8) λu9 s9 ⟨y,H9,I9,r9,q9⟩=>?_
    refine thn (hv s3 H3 _ s9 σ7 H9 _ I9 q9) λv s10 ⟨v',H10,I10,r10,kvs,k,b,ey,ha,hb,hz,n10⟩=>?_
    obtain⟨m',hm,w10⟩:=hNN _ n10
    subst ey
    cases(show u9=Value.ref b from r9)
    refine GY (X:=fR X scope cl N fp s3 H3) hu I10 ha hb hz r10 λs11 I11=>?_
    obtain⟨J1,J2,J3⟩:=back I11
    exact⟨m',hm,i+1,_,J1,J2,J3,w10⟩
 exact codeAny_compStart_dict loop (T.self X.A 0 _ _ _ st4 loop)
theorem GB {x:Str}{pos' Cq:Pos}(hu:X.A.units+1<cLine)(hN:X.N.Nodup)(hi':X.N[i]? = some x)(hx:X.env.scope.names.lookup x=some .local)(hi:PI X tg iter wi)(hc:X.calm=true)(C:gH X.env.scope X.N scope N own cap)(ho:sk own g)
  (hg:∀ cl fp s3 H3,PG (fR X scope cl N fp s3 H3) tg g) (ht:∀ cl fp s3 H3,xt (fR X scope cl N fp s3 H3) ifs tt) (he:∀ cl fp s3 H3,PE (fR X scope cl N fp s3 H3) elt te) (hv:∀ cl fp s3 H3,PE (fR X scope cl N fp s3 H3) vlt tv)
  (hsw:swapsWith (.DictComp elt vlt [⟨tg,iter,ifs,0⟩] scope pos) (some (.Name x pos')) Cq.line X.env=pure true:=by rfl)
  (hs:∀ x,foldedSetIterable iter X.env x=pure x:=by intro _;rfl):PS X (.Assign [.Name x pos'] (.DictComp elt vlt [⟨tg,iter,ifs,0⟩] scope pos) Cq) (Ci (Kb X.prog X.w wi cap g tt te tv) (oC i)):=by
 intro pins s σ H D I h
 obtain⟨cl,ecl,mi,pK⟩:=nO (scope:=scope) (env:=X.env) λy hy hf=>I.ok.has y.1 (C.fre y hy hf)
 rw[exec_Assign_Name_used _ _ _ _ hsw]
 refine ae (cF (ae ?_))
 show wpAny _ X.A (do let _ <-comprehension (.DictComp elt vlt [⟨tg,iter,ifs,0⟩] scope pos) scope X.env _ newDict false (eval iter X.env) (some (assign (.Name x pos') X.env))) _ _ s
 refine ae (bq (dN (use:=some (assign (.Name x pos') X.env)) (Q:=λ_ s'=>SP X pins D .next s') rfl hs ecl C.kind C.loc
  (thn (hi pins s σ H _ I h) λxv s1 h1=>thn h1 λitv s2 h2=>?_)) (λ_ s' hq=>aq (aq hq)) λ_ _ e=>e)
 obtain⟨it,fp,tn,J,H2,e,I2,T,st2,f2,hw⟩:=h2
 subst e
 refine zY (RR:=λacc C=>compPost (model X.prog X.w) X.A X.xe (some (assign (.Name x pos') X.env)) (λ_ s'=>SP X pins D .next s') acc C) hu I2 T st2 f2 hc C ho mi pK (hg cl fp) (ht cl fp) (he cl fp) (hv cl fp) hw λl Ca s' H' m' I' hn pQ hP q=>?_
 show wpAny _ X.A (assign (.Name x pos') X.env (.ref l)) _ _ _
 refine wpAny_assign_Name (qP I' hN hi' (.inl hx) (v:=.ref l) rfl (λs5 I5 ⟨a,sb,ha⟩=>?_) (.inr hx))
 have hne:Ca≠a:=by
  rcases ha with z |z
  ·rw[z];exact hP.loc
  ·exact λe=>hP.cel x a z e.symm
 refine⟨m',hn.sameBut sb hne,λh'' zP=>⟨_,H',pE I5 hP pQ zP,q⟩⟩
end
def qW (rows:Rows)(e:Ent):Int:=match e.2 with
 |none=>0
 |some (t,_)=>(gY rows t).getD 0+1
def tw (acc:Rows)(es:List Ent):Rows:=es.foldl (λrows e=>rows ++ [(e.1,qW rows e)]) acc
def fI (es:List Ent):Rows:=tw [] es
theorem vD:∀ (es:List Ent) (acc:Rows),(tw acc es).map (·.1)=acc.map (·.1)++es.map (·.1)
 |[],acc=>by simp[tw]
 |e::es,acc=>by
  have:=vD es (acc ++ [(e.1,qW acc e)])
  show(tw (acc ++ [(e.1,qW acc e)]) es).map (·.1)=_
  rw[this,aw];simp
theorem hU (es:List Ent):(fI es).map (·.1)=es.map (·.1):=by unfold fI;rw[vD];rfl
theorem jB (es:List Ent):(fI es).length=es.length:=by have:=bQ List.length (hU es);rwa [aa,aa]at this
theorem vC:∀ (es:List Ent) (acc:Rows),acc <+:tw acc es
 |[],acc=>bI _
 |e::es,acc=>(cU acc [(e.1,qW acc e)]).trans (vC es _)
theorem vE (es more:List Ent):fI (es++more)=tw (fI es) more:=by unfold fI tw;rw[bZ]
variable {es:List Ent}
theorem lO {es':List Ent}(h:es <+:es'):fI es <+:fI es':=by
 obtain⟨r,rfl⟩:=h
 rw[vE]
 exact vC _ _
theorem kE (es:List Ent)(e:Ent):fI (es ++ [e])=fI es ++ [(e.1,qW (fI es) e)]:=by rw[vE];rfl
variable {rows:Rows}
theorem kI {FI:Rows}(h:rows <+:FI){t:List Int}{n:Int}(hl:gY rows t=some n):gY FI t=some n:=by
 obtain⟨r,rfl⟩:=h
 unfold gY at hl ⊢
 rw[List.find?_append]
 cases q:rows.find? λr=>decide (r.1=t)with
 |none=>rw[q]at hl;cases hl
 |some x=>rw[q]at hl;exact hl
theorem qA {t:List Int}(h:t∈rows.map (·.1)):∃ n,gY rows t=some n:=by
 cases q:gY rows t with
 |none=>exact absurd h (tX q)
 |some n=>exact⟨n,rfl⟩
theorem vQ {t:List Int}{n:Int}(h:t∉rows.map (·.1)):gY (rows ++ [(t,n)]) t=some n:=by
 have q:gY rows t=none:=by
  cases q:gY rows t with
  |none=>rfl
  |some x=>exact absurd (ai.mpr ⟨_,jy q,rfl⟩) h
 unfold gY at q ⊢
 rw[Option.map_eq_none_iff]at q
 rw[List.find?_append,q]
 simp
structure Lvl (es:List Ent)(d:Int):Prop where
 mono:(fI es).Pairwise λa b=>a.2<=b.2
 top:∀ r∈fI es,r.2<=d+1
theorem Lvl.add {d:Int}{t:List Int}{m:Mv}(h:Lvl es d)(ht:gY (fI es) t=some d):Lvl (mJ t es m) d/\∃ n,gY (fI (mJ t es m)) m.2=some n/\n<=d+1:=by
 unfold mJ
 by_cases hm:m.2∈es.map (·.1)
 ·rw[aM hm]
  obtain⟨n,hn⟩:=qA (rows:=fI es) (by rw[hU];exact hm)
  exact⟨h,n,hn,h.top _ (jy hn)⟩
 ·rw[aH hm]
  have hn:qW (fI es) (m.2,some (t,m.1))=d+1:=by
   show(gY (fI es) t).getD 0+1=d+1
   rw[ht];rfl
  refine⟨⟨?_,λr hr=>?_⟩,d+1,?_,Int.le_refl _⟩
  ·rw[kE,List.pairwise_append]
   refine⟨h.mono,by simp,λa ha b hb=>?_⟩
   rw[aZ.mp hb]
   show a.2<=qW (fI es) (m.2,some (t,m.1))
   rw[hn]
   exact h.top a ha
  ·rw[kE]at hr
   rcases ay.mp hr with z |z
   ·exact h.top r z
   ·rw[aZ.mp z]
    show qW (fI es) (m.2,some (t,m.1))<=d+1
    rw[hn];exact Int.le_refl _
  ·rw[kE]
   show gY (fI es ++ [(m.2,qW (fI es) (m.2,some (t,m.1)))]) m.2=some (d+1)
   rw[hn]
   exact vQ (by rw[hU];exact hm)
theorem Lvl.scan {d:Int}{t:List Int} :∀ (ms:List Mv) {es:List Ent},Lvl es d->gY (fI es) t=some d->Lvl (gB t ms es) d/\∀ m∈ms,∃ n,gY (fI (gB t ms es)) m.2=some n/\n<=d+1
 |[],es,h,_=>⟨h,λm hm=>(nomatch hm)⟩
 |m::ms,es,h,ht=>by
  obtain⟨h1,n,hn,hle⟩:=h.add (m:=m) ht
  have hp:=lO (uH t es m)
  obtain⟨h2,h3⟩:=Lvl.scan ms h1 (kI hp ht)
  refine⟨h2,λm' hm'=>?_⟩
  rcases aK.mp hm' with rfl |z
  ·exact⟨n,kI (lO (oY t ms (mJ t es m'))) hn,hle⟩
  ·exact h3 m' z
theorem Gy (h:rows.Pairwise λa b=>a.2<=b.2){j:Nat}{a b:List Int×Int}(hij:i<j)(hi:rows[i]? = some a)(hj:rows[j]? = some b):a.2<=b.2:=by
 obtain⟨hj1,rfl⟩:=af.mp hj
 obtain⟨hi1,rfl⟩:=af.mp hi
 exact List.pairwise_iff_getElem.mp h i j hi1 hj1 hij
variable {e:Ent}
theorem wD (nd:(es.map (·.1)).Nodup){j:Nat}(h:es[j]? = some e):∃ d,(fI es)[j]? = some (e.1,d)/\gY (fI es) e.1=some d:=by
 have hl:=(af.mp h).1
 have hj:(fI es)[j]? = some ((fI es)[j]'(by rw[jB];exact hl)):=ag _
 have e1:((fI es)[j]'(by rw[jB];exact hl)).1=e.1:=by
  have a:=bQ (·[j]?) (hU es)
  rw[ao,ao,hj,h]at a
  exact aU a
 generalize (fI es)[j]'(by rw[jB];exact hl)=r at hj e1
 obtain⟨t,d⟩:=r
 have e1:t=e.1:=e1
 subst e1
 exact⟨d,hj,kJ (r:=(e.1,d)) (by rw[hU];exact nd) (ax hj)⟩
structure Q1 (l:Ln)(es:List Ent)(i:Nat):Prop where
 mono:(fI es).Pairwise λa b=>a.2<=b.2
 here:∀ e d,es[i]? = some e->gY (fI es) e.1=some d->∀ r∈fI es,r.2<=d+1
 done:∀ j e d,j<i->es[j]? = some e->gY (fI es) e.1=some d->∀ m∈mvs l e.1,∃ n,gY (fI es) m.2=some n/\n<=d+1
theorem HW {l:Ln}{ns:List Int}(ok:fG l)(T:fW l ns)(hne:ns≠ []):∀ i,Q1 l (fA l ns i) i
 | 0=>by
  have e0:fI (fA l ns 0) = [(ns,0)]:=rfl
  refine⟨by rw[e0];simp,λe d he hd r hr=>?_,λj e d hj=>absurd hj (en j)⟩
  rw[e0]at hd hr
  have:=jy hd
  have h1:=aZ.mp hr
  have h2:=aZ.mp this
  rw[h1]
  have h3:d=0:=by injection h2
  show(0:Int)<=d+1
  omega
 |i+1=>by
  have ih:=HW ok T hne i
  have E:=iN ok T hne i
  have E1:=iN ok T hne (i+1)
  cases q:(fA l ns i)[i]? with
  |none=>
   have e1:fA l ns (i+1)=fA l ns i:=by rw[fA,q]
   have hl:(fA l ns i).length<=i:=by
    by_cases z:i<(fA l ns i).length
    ·rw[ag z]at q;cases q
    ·omega
   rw[e1]
   refine⟨ih.mono,λe d he=>?_,λj e d hj he=>?_⟩
   ·rw[bB (by omega)]at he;cases he
   ·have:=(af.mp he).1
    exact ih.done j e d (by omega) he
  |some e=>
   obtain⟨d,hd1,hd2⟩:=wD E.nd q
   have L0:Lvl (fA l ns i) d:=⟨ih.mono,ih.here e d q hd2⟩
   have e1:=mQ q
   have pre:=oV l ns i
   obtain⟨L1,M1⟩:=Lvl.scan (mvs l e.1) L0 hd2
   rw[<-e1]at L1 M1
   have rp:=lO pre
   have NS:(fI (fA l ns (i+1)))[i]? = some (e.1,d):=by
    obtain⟨z,hz⟩:=rp
    rw[<-hz,ak (af.mp hd1).1]
    exact hd1
   refine⟨L1.mono,λe' d' he' hd' r hr=>?_,λj e' d' hj he' hd' m hm=>?_⟩
   ·obtain⟨d2,h1,h2⟩:=wD E1.nd he'
    rw[hd']at h2
    cases h2
    have a:=Gy L1.mono (Nat.lt_succ_self i) NS h1
    have b:=L1.top r hr
    have a:d<=d':=a
    omega
   ·by_cases hji:j<i
    ·have hlen:j<(fA l ns i).length:=by have:=(af.mp q).1;omega
     have he0:(fA l ns i)[j]? = some e':=by
      obtain⟨z,hz⟩:=pre
      rw[<-hz,ak hlen]at he'
      exact he'
     obtain⟨d3,_,h3⟩:=wD E.nd he0
     have:=kI rp h3
     rw[hd']at this
     cases this
     obtain⟨n,hn,hle⟩:=ih.done j e' d' hji he0 h3 m hm
     exact⟨n,kI rp hn,hle⟩
    ·have ej:j=i:=by omega
     subst ej
     have he0:(fA l ns (j+1))[j]? = some e:=by
      obtain⟨z,hz⟩:=pre
      rw[<-hz,ak (af.mp q).1]
      exact q
     rw[he0]at he'
     cases he'
     have:=kI rp hd2
     rw[hd']at this
     cases this
     exact M1 m hm
theorem sI {ns:List Int}(ok:fG l)(T:fW l ns)(hne:ns≠ [])(hi:(fA l ns i).length=i):JL l ns (fI (fA l ns i)):=by
 have W:=HW ok T hne i
 have E:=iN ok T hne i
 refine⟨⟨by rw[hU];exact E.nd,λs hs=>?_⟩,?_,λr hr m hm=>?_⟩
 ·rw[hU]at hs
  obtain⟨e,he,rfl⟩:=ai.mp hs
  obtain⟨a,b,c⟩:=E.tr e he
  exact⟨b,c,a⟩
 ·have h0:fA l ns 0 <+:fA l ns i:=by have:=sJ l ns 0 i;rwa [Nat.zero_add]at this
  exact kI (lO h0) (show gY [(ns,0)] ns=some 0 from vQ (rows:=[]) (by simp))
 ·obtain⟨j,hj,e⟩:=aR.mp hr
  have hjl:j<(fA l ns i).length:=by rw[<-jB];exact hj
  obtain⟨d,h1,h2⟩:=wD E.nd (ag hjl)
  rw[ag hj,e]at h1
  cases h1
  exact W.done j _ d (by omega) (ag hjl) h2 m hm
theorem kX {ns:List Int}(ok:fG l)(T:fW l ns)(hne:ns≠ [])(hi:(fA l ns i).length=i):FH l ns ((fA l ns i).map (·.1)):=by
 have:=(DU.mp (sI ok T hne hi)).1
 rwa [hU]at this
theorem Av {n:Nat}(h:es[n]? = some e):(fI es)[n]? = some (e.1,qW (fI (es.take n)) e):=by
 have hl:=(af.mp h).1
 have e1:es.take (n+1)=es.take n ++ [e]:=by rw[aQ,h];rfl
 have hp:=lO (List.take_prefix (n+1) es)
 rw[e1,kE]at hp
 obtain⟨z,hz⟩:=hp
 have ln:(fI (es.take n)).length=n:=by rw[jB,bg];omega
 rw[<-hz,cu,av (by omega),ln,aV]
 rfl
theorem yh (nd:(es.map (·.1)).Nodup)(bk:nC es):∀ {t:List Int}{run:List (Str×Int)},mr es t run->gY (fI es) t=some (run.length:Int):=by
 intro t run h
 induction h with
 |@nil t hm=>
  obtain⟨j,hj,e⟩:=aR.mp hm
  have q:es[j]? = some (t,none):=by rw[ag hj,e]
  have:=Av q
  exact kJ (r:=(t,0)) (by rw[hU];exact nd) (ax this)
 |@snoc t' t k r hm _ ih=>
  obtain⟨j,hj,e⟩:=aR.mp hm
  have q:es[j]? = some (t',some (t,k)):=by rw[ag hj,e]
  have h1:=Av q
  obtain⟨i,e1,hi,he1,ee⟩:=bk.back j t' t k q
  have hin:t∈(fI (es.take j)).map (·.1):=by
   rw[hU]
   refine ai.mpr ⟨e1,?_,ee⟩
   exact ax (by rw[List.getElem?_take,aM hi];exact he1)
  obtain⟨x,hx⟩:=qA hin
  have hx2:=kI (lO (List.take_prefix j es)) hx
  rw[ih]at hx2
  have e3:qW (fI (es.take j)) (t',some (t,k))=((r ++ [k]).length:Int):=by
   show(gY (fI (es.take j)) t).getD 0+1=_
   rw[hx,<-aU hx2,ah]
   show(r.length:Int)+1=((r.length+1:Nat):Int)
   omega
  rw[e3]at h1
  exact kJ (r:=(t',_)) (by rw[hU];exact nd) (ax h1)
theorem lB {n:Nat}(h:n<=10000000):n<sizeLine:=cj h (by decide)
variable {K:PySem.W.Frag}
theorem xK {t b:Addr}{kvs:List (List Key×V)}{xs:List V}(ht:H t=some (.dT kvs))(h:SqT K H b xs):SqT K (upd H t o) b xs:=by
 rcases h with(h |⟨o,h⟩)|h
 ·exact .inl (.inl (by rw[fm (fU h ht (by intro z;cases z))];exact h))
 ·exact .inl (.inr ⟨o,by rw[fm (fU h ht (by intro z;cases z))];exact h⟩)
 ·exact .inr h
def mm (K:PySem.W.Frag)(H:Hp)(e:Ent)(v:V):Prop:=match e.2 with
 |none=>v = .non
 |some (t,k)=>∃ a b c,v = .ref a/\H a=some (.tup [.ref b,.ref c])/\H b=some (.tup (t.map V.int))/\SqT K H c [.str k.1,.int k.2]
theorem mm.same {v:V}(h:mm K H e v)(s:fu H H'):mm K H' e v:=by
 unfold mm at h ⊢
 split at h
 ·exact h
 ·obtain⟨a,b,c,h1,h2,h3,h4⟩:=h
  exact⟨a,b,c,h1,s _ _ h2,s _ _ h3,gi s h4⟩
variable {p:Addr}{vs:List V}
theorem mm.JU {v:V}(h:mm K H e v)(hp:H p=some (.lst vs)):mm K (upd H p o) e v:=by
 unfold mm at h ⊢
 split at h
 ·exact h
 ·obtain⟨a,b,c,h1,h2,h3,h4⟩:=h
  exact⟨a,b,c,h1,by rw[fm (fU h2 hp (by intro z;cases z))];exact h2,by rw[fm (fU h3 hp (by intro z;cases z))];exact h3,lE hp h4⟩
theorem mm.HY {v:V}{kvs:List (List Key×V)}(h:mm K H e v)(hp:H p=some (.dT kvs)):mm K (upd H p o) e v:=by
 unfold mm at h ⊢
 split at h
 ·exact h
 ·obtain⟨a,b,c,h1,h2,h3,h4⟩:=h
  exact⟨a,b,c,h1,by rw[fm (fU h2 hp (by intro z;cases z))];exact h2,by rw[fm (fU h3 hp (by intro z;cases z))];exact h3,xK hp h4⟩
structure mn (K:PySem.W.Frag)(H:Hp)(d:Addr)(es:List Ent)(vs:List V):Prop where
 at_:H d=some (.dT ((es.zip vs).map λp=>(kyI p.1.1,p.2)))
 len:vs.length=es.length
 each:∀ (i:Nat) e v,es[i]? = some e->vs[i]? = some v->mm K H e v
theorem mn.same (h:mn K H d es vs)(s:fu H H'):mn K H' d es vs:=
 ⟨s _ _ h.at_,h.len,λi e v h1 h2=>(h.each i e v h1 h2).same s⟩
theorem t7 (hl:vs.length=es.length):((es.zip vs).map λp=>(kyI p.1.1,p.2)).map (·.1)=es.map λe=>kyI e.1:=by
 rw[bJ]
 refine List.ext_getElem? λi=>?_
 rw[ao,ao]
 by_cases hi:i<es.length
 ·rw[ag (by rw[cw];omega),ag hi,List.getElem_zip];rfl
 ·rw[bB (by rw[cw];omega),bB (by omega)];rfl
theorem Bb {κ:Type} [DecidableEq κ] {kvs:List (κ×V)}{k:κ} :(lC kvs k).isSome=decide (k∈kvs.map (·.1)):=by
 rw[<-qg,bP,ed,cg,ai]
 constructor
 ·rintro⟨p,h1,h2⟩;exact⟨p,h1,by simpa using h2⟩
 ·rintro⟨p,h1,h2⟩;exact⟨p,h1,by simpa using h2⟩
theorem mn.mem (h:mn K H d es vs)(t:List Int):(lC ((es.zip vs).map λp=>(kyI p.1.1,p.2)) (kyI t)).isSome=decide (t∈es.map (·.1)):=by
 rw[Bb,t7 h.len]
 congr 1
 refine propext ⟨λz=>?_,λz=>?_⟩
 ·obtain⟨e,h1,h2⟩:=ai.mp z
  exact ai.mpr ⟨e,h1,sy h2⟩
 ·obtain⟨e,h1,h2⟩:=ai.mp z
  exact ai.mpr ⟨e,h1,by rw[h2]⟩
structure Ord (H:Hp)(p:Addr)(as:List Addr)(es:List Ent):Prop where
 at_:H p=some (.lst (as.map V.ref))
 len:as.length=es.length
 each:∀ (i:Nat) b e,as[i]? = some b->es[i]? = some e->H b=some (.tup (e.1.map V.int))
variable {as:List Addr}
theorem Ord.same (h:Ord H p as es)(s:fu H H'):Ord H' p as es:=
 ⟨s _ _ h.at_,h.len,λi b e h1 h2=>s _ _ (h.each i b e h1 h2)⟩
theorem Bt {st tp ta tm:Addr}{t t':List Int}{k:Str×Int}(hs:mn K H d es vs)(ho:Ord H p as es)(hst:H st=some (.tup (t'.map V.int)))
  (htp:H tp=some (.tup [.ref ta,.ref tm])) (hta:H ta=some (.tup (t.map V.int))) (htm:SqT K H tm [.str k.1,.int k.2]) (hn:t'∉es.map (·.1)):
  mn K (upd (upd H d (.dT (putK ((es.zip vs).map λp=>(kyI p.1.1,p.2)) (kyI t') (.ref tp)))) p (.lst (as.map V.ref ++ [V.ref st]))) d (es ++ [(t',some (t,k))]) (vs ++ [.ref tp])/\
  Ord (upd (upd H d (.dT (putK ((es.zip vs).map λp=>(kyI p.1.1,p.2)) (kyI t') (.ref tp)))) p (.lst (as.map V.ref ++ [V.ref st]))) p (as ++ [st]) (es ++ [(t',some (t,k))]):=by
 have hd:=hs.at_
 have hp:=ho.at_
 have dp:d≠p:=fU hd hp (by intro z;cases z)
 have hv:lC ((es.zip vs).map λp=>(kyI p.1.1,p.2)) (kyI t')=none:=by
  have:=hs.mem t'
  rw[bo hn]at this
  exact Option.isNone_iff_eq_none.mp (by rw[<-Option.not_isSome,this];rfl)
 have e1:putK ((es.zip vs).map λp=>(kyI p.1.1,p.2)) (kyI t') (.ref tp)=((es ++ [(t',some (t,k))]).zip (vs ++ [V.ref tp])).map λp=>(kyI p.1.1,p.2):=by
  rw[tE _ hv,List.zip_append hs.len.symm,aw];rfl
 have hp1:upd H d (.dT (putK ((es.zip vs).map λp=>(kyI p.1.1,p.2)) (kyI t') (.ref tp))) p=some (.lst (as.map V.ref)):=by rw[fm (bF dp)];exact hp
 have ht:∀ b xs,H b=some (.tup xs)->upd (upd H d (.dT (putK ((es.zip vs).map λp=>(kyI p.1.1,p.2)) (kyI t') (.ref tp)))) p (.lst (as.map V.ref ++ [V.ref st])) b=some (.tup xs):=λb xs q=>by
  rw[fm (fU q hp (by intro z;cases z)),fm (fU q hd (by intro z;cases z))];exact q
 refine⟨⟨by rw[fm dp,fg,e1],by rw[ah,ah,hs.len];rfl,λi e v he hv=>?_⟩,⟨by rw[fg,aw];rfl,by rw[ah,ah,ho.len];rfl,λi b e hb he=>?_⟩⟩
 ·by_cases hi:i<es.length
  ·rw[ak hi]at he
   rw[ak (by rw[hs.len];exact hi)]at hv
   exact((hs.each i e v he hv).HY hd).JU hp1
  ·have hi2:i=es.length:=by
    have:=(af.mp he).1
    rw[ah,aA]at this
    omega
   rw[hi2,av (au _),aV]at he
   rw[hi2,<-hs.len,av (au _),aV]at hv
   cases he
   cases hv
   exact⟨tp,ta,tm,rfl,ht _ _ htp,ht _ _ hta,lE hp1 (xK hd htm)⟩
 ·by_cases hi:i<es.length
  ·rw[ak hi]at he
   rw[ak (by rw[ho.len];exact hi)]at hb
   exact ht _ _ (ho.each i b e hb he)
  ·have hi2:i=es.length:=by
    have:=(af.mp he).1
    rw[ah,aA]at this
    omega
   rw[hi2,av (au _),aV]at he
   rw[hi2,<-ho.len,av (au _),aV]at hb
   cases he
   cases hb
   exact ht _ _ hst
theorem Dy {kvs:List (List Key×V)}{xs:List V}(hp:H p=some (.dT kvs))(h:SqT K H a xs):SqT K (hid p H) a xs:=by
 rcases h with(h |⟨o,h⟩)|h
 ·exact .inl (.inl (by rw[gO (fU h hp (by intro z;cases z))];exact h))
 ·exact .inl (.inr ⟨o,by rw[gO (fU h hp (by intro z;cases z))];exact h⟩)
 ·exact .inr h
abbrev yz (d p:Addr)(H:Hp):Hp:=hid p (hid d H)
theorem uh {kvs:List (List Key×V)}{xs:List V}(hd:H d=some (.dT kvs))(hp:H p=some (.lst vs))(h:SqT K H a xs):SqT K (yz d p H) a xs:=by
 have dp:p≠d:=fU hp hd (by intro z;cases z)
 exact sC (vs:=vs) (by rw[gO dp];exact hp) (Dy hd h)
theorem mC (h1:a≠d)(h2:a≠p):yz d p H a=H a:=by show hid p (hid d H) a=H a;rw[gO h2,gO h1]
theorem ug {o':HO}(s:fu (yz d p H) H'):fu (yz d p H) (upd (upd H' d o) p o'):=λb u h=>by
 by_cases e1:b=p
 ·subst e1;have h:hid b (hid d H) b=some u:=h;rw[ki]at h;cases h
 ·have h':hid p (hid d H) b=some u:=h
  rw[gO e1]at h'
  by_cases e2:b=d
  ·subst e2;rw[ki]at h';cases h'
  ·rw[fm e1,fm e2];exact s _ _ h
structure my (H H':Hp)(p:Addr)(bs:List Addr)(ts:List (List Int)):Prop where
 same:fu H H'
 new:H p=none
 at_:H' p=some (.lst (bs.map V.ref))
 len:bs.length=ts.length
 each:∀ (i:Nat) b t,bs[i]? = some b->ts[i]? = some t->H b=none/\b≠p/\H' b=some (.lst (t.map V.int))
 nd:bs.Nodup
variable {H0:Hp}
theorem my.pre {bs:List Addr}{ts:List (List Int)}(s:fu H0 H)(h:my H H' p bs ts):my H0 H' p bs ts:=
 ⟨s.trans h.same,fu.free s h.new,h.at_,h.len,λi b t h1 h2=>⟨fu.free s (h.each i b t h1 h2).1,(h.each i b t h1 h2).2⟩,h.nd⟩
structure uX (H:Hp)(p:Addr)(as:List Addr)(es:List Ent):Prop where
 at_:H p=some (.lst (as.map V.ref))
 len:as.length=es.length
 each:∀ (i:Nat) b e,as[i]? = some b->es[i]? = some e->b≠p/\H b=some (.lst (e.1.map V.int))
theorem uX.same (h:uX H p as es)(s:fu H H'):uX H' p as es:=
 ⟨s _ _ h.at_,h.len,λi b e h1 h2=>⟨(h.each i b e h1 h2).1,s _ _ (h.each i b e h1 h2).2⟩⟩
theorem uX.get (h:uX H p as es)(he:es[i]? = some e):∃ b,as[i]? = some b/\b≠p/\H b=some (.lst (e.1.map V.int)):=by
 have hi:i<as.length:=by rw[h.len];exact(af.mp he).1
 exact⟨as[i],ag hi,h.each i _ e (ag hi) he⟩
theorem zd {ns:List Int}(hi:(fA l ns i).length=i)(j:Nat):(fA l ns j).length<=i:=by
 rcases Nat.le_total i j with z |z
 ·obtain⟨k,rfl⟩:=Nat.exists_eq_add_of_le z
  rw[uY (by omega) k];omega
 ·obtain⟨k,hk⟩:=Nat.exists_eq_add_of_le z
  have:=(sJ l ns j k).length_le
  rw[<-hk]at this
  omega
theorem zj {x:Int}(h:0<=x/\x<2*l.1):fW l [x]:=⟨λe he=>by have z:e=x:=(by simpa using he);rw[z];exact h,by simp,λi a b _ hb=>by simp at hb⟩
theorem ER {x:Int}(ok:fG l)(h:0<=x/\x<2*l.1)(i:Nat):(fA l [x] i).length<=300:=by
 have:=(iN ok (zj h) (by simp) i).M9 rfl
 have:=ok.most
 omega
theorem Gf {α β:Type}{xs:List α}{ys:List β}{x:α}{y:β}(h1:xs[i]? = some x)(h2:ys[i]? = some y):(xs.zip ys)[i]? = some (x,y):=dy.mpr ⟨h1,h2⟩
theorem E5 (nd:(es.map (·.1)).Nodup):(es.map λe=>kyI e.1).Nodup:=by
 have:(es.map λe=>kyI e.1)=(es.map (·.1)).map kyI:=by rw[bJ];rfl
 rw[this]
 unfold List.Nodup at nd ⊢
 rw[bY]
 exact nd.imp λh z=>h (sy z)
theorem mn.get {us:List V}(h:mn K H d es us)(nd:(es.map (·.1)).Nodup){j:Nat}{v:V}(he:es[j]? = some e)(hv:us[j]? = some v):lC ((es.zip us).map λp=>(kyI p.1.1,p.2)) (kyI e.1)=some v:=by
 refine Ek (j:=j) ?_ ?_
 ·rw[t7 h.len];exact E5 nd
 ·rw[ao,Gf he hv];rfl
theorem Cd {b:Addr}{o':HO}(h:a≠b):upd (upd H a o) b o'=upd (upd H b o') a o:=by
 funext c
 by_cases e1:c=a
 ·subst e1;rw[fm h,fg,fg]
 ·by_cases e2:c=b
  ·subst e2;rw[fg,fm e1,fg]
  ·rw[fm e2,fm e1,fm e1,fm e2]
theorem Ie {σ:L2.St}{te:TE}{P1:VK}{P0:Hp->Prop}(h:te σ H P1):Ep σ H (λb H3=>if b=true then te σ H3 P1 else P0 H3):=yu (A:=te σ H P1) (B:=P0 H) h
def mq (H0 H:Hp)(r:List Int×Int)(v:V):Prop:=∃ ad a,v = .ref ad/\H ad=some (.tup [.ref a,.int r.2])/\H a=some (.lst (r.1.map V.int))/\H0 a=none
theorem mq.mono (r:List Int×Int)(v:V)(s:fu H H')(h:mq H0 H r v):mq H0 H' r v:=h.imp λ_ h=>h.imp λ_ h=>⟨h.1,s _ _ h.2.1,s _ _ h.2.2.1,h.2.2.2⟩
theorem mq.pre {H00:Hp}(s:fu H00 H0)(r:List Int×Int)(v:V)(h:mq H0 H r v):mq H00 H r v:=h.imp λ_ h=>h.imp λ_ h=>⟨h.1,h.2.1,h.2.2.1,fu.free s h.2.2.2⟩
theorem mq.JV {n:Addr}{o:Obj}{x:HO}{y:HO}(r:List Int×Int)(v:V)(hn:H n=some (.frz o x))(h:mq H0 H r v):mq H0 (upd H n y) r v:=by
 obtain⟨ad,a,e,h1,h2,h3⟩:=h
 exact⟨ad,a,e,by rw[fm (fU h1 hn (by intro z;cases z))];exact h1,by rw[fm (fU h2 hn (by intro z;cases z))];exact h2,h3⟩
structure rY (H0 H:Hp)(q:Addr)(rows:Rows)(vs:List V):Prop where
 at_:H q=some (.lst vs)
 new:H0 q=none
 pw:Pw (mq H0 (hid q H)) rows vs
theorem rY.same {q:Addr}(h:rY H0 H q rows vs)(s:fu H H'):rY H0 H' q rows vs:=⟨s _ _ h.at_,h.new,h.pw.imp λr v=>mq.mono r v (oB s)⟩
theorem rY.pre {H00:Hp}{q:Addr}(h:rY H0 H q rows vs)(s:fu H00 H0):rY H00 H q rows vs:=⟨h.at_,fu.free s h.new,h.pw.imp (mq.pre s)⟩
end TL
namespace TL
open PySem PySem.Spec PyProof.Rows L2
variable {l:Ln}{ns:List Int}
theorem iJ {e x:Int} :x∈fr l ns e↔x∈jn l.2 e/\x/2∉ns.map (· / 2):=by
 unfold fr
 rw[br]
 constructor
 ·rintro⟨h1,h2⟩;exact⟨h1,by simpa using h2⟩
 ·rintro⟨h1,h2⟩;exact⟨h1,by simpa using h2⟩
theorem El {e:Int}(ok:fG l)(T:fW l ns)(hne:ns≠ [])(he:e∈fr l ns (oth (ns.getLastD 0))):(((("back" :Str),oth (ns.headD 0)),ns):Mv)∈mvs l (ns.drop 1 ++ [e]):=by
 obtain⟨h1,h2⟩:=rh he
 obtain⟨h,r,rfl⟩:∃ h r,ns=h::r:=by cases ns with |nil=>exact absurd rfl hne |cons x r=>exact⟨x,r,rfl⟩
 refine ay.mpr (.inr (ai.mpr ⟨oth h,iJ.mpr ⟨?_,?_⟩,?_⟩))
 ·cases r with
  |nil=>exact nN ok h1
  |cons y r=>exact nN ok (T.ch 0 h y rfl rfl)
 ·rw[qu]
  have nd:=T.nd
  rw[aN,bu]at nd
  intro z
  rw[aw]at z
  rcases ay.mp z with z |z
  ·exact nd.1 z
  ·have z:h/2=e/2:=by simpa using z
   exact h2 (by rw[<-z];simp)
 ·unfold ll
  rw[i6]
  simp
theorem vh {e:Int}(ok:fG l)(T:fW l ns)(hne:ns≠ [])(he:e∈fr l ns (ns.headD 0)):(((("on" :Str),ns.getLastD 0),ns):Mv)∈mvs l (oth e::ns.dropLast):=by
 obtain⟨h1,h2⟩:=rh he
 obtain⟨r,z,rfl⟩:∃ r z,ns=r ++ [z]:=⟨ns.dropLast,ns.getLast hne,(bL hne).symm⟩
 have hz:(r ++ [z]).getLastD 0=z:=by simp
 have hd:(r ++ [z]).dropLast=r:=by simp
 rw[hz,hd]
 refine ay.mpr (.inl (ai.mpr ⟨z,iJ.mpr ⟨?_,?_⟩,?_⟩))
 ·rcases List.eq_nil_or_concat r with e1 |⟨r',y,e1⟩
  ·subst e1
   show z∈jn l.2 (oth (oth e))
   rw[i6]
   exact nN ok h1
  ·rw[List.concat_eq_append]at e1
   subst e1
   have:(oth e::(r' ++ [y])).getLastD 0=y:=by rw[<-d9,bc,List.getLast?_concat];rfl
   rw[this]
   exact T.ch r'.length y z (by simp) (by simp)
 ·intro q
  rw[aN,qu]at q
  rcases aK.mp q with q |q
  ·exact h2 (by rw[<-q];simp)
  ·have nd:=T.nd
   rw[aw,bx]at nd
   exact nd.2.2 _ q (z/2) (by simp) rfl
 ·unfold onM;simp
theorem EX {m m':Mv}(h:m∈mvs l ns)(h':m'∈mvs l ns)(e:m.1=m'.1):m.2=m'.2:=by
 have hw:(Str.ofString "on")≠Str.ofString "back" :=by decide +kernel
 rcases ay.mp h with z |z<;>rcases ay.mp h' with z' |z'<;>
  obtain⟨x,_,rfl⟩:=ai.mp z<;>obtain⟨x',_,rfl⟩:=ai.mp z'
 ·have:x=x':=bQ Prod.snd e
  rw[this]
 ·exact absurd (bQ Prod.fst e) hw
 ·exact absurd (bQ Prod.fst e).symm hw
 ·have:x=x':=bQ Prod.snd e
  rw[this]
theorem xh {m:Mv}(h:m∈mvs l ns):fnd (mvs l ns) m.1=some m.2:=by
 unfold fnd
 cases q:(mvs l ns).find? (λn=>decide (n.1=m.1))with
 |none=>exact absurd (List.find?_eq_none.mp q m h) (by simp)
 |some n=>
  have h1:=eM q
  have h2:n.1=m.1:=by simpa using List.find?_some q
  show some n.2=some m.2
  rw[EX h1 h h2]
theorem Aj (l:Ln)(pre:List (List Int)):∀ (run:List (Str×Int)) (ts:List (List Int)),ts≠ []->run.foldl (stp l) (some (pre++ts))=(run.foldl (stp l) (some ts)).map (pre ++ ·)
 |[],ts,_=>rfl
 |k::r,ts,hne=>by
  rw[dF,dF]
  have e:(pre++ts).getLastD []=ts.getLastD []:=by
   rw[bc,bc,List.getLast?_append]
   cases q:ts.getLast? with
   |none=>exact absurd (List.getLast?_eq_none_iff.mp q) hne
   |some x=>rfl
  show r.foldl (stp l) ((fnd (mvs l ((pre++ts).getLastD [])) k).map λb=>pre++ts ++ [b])=(r.foldl (stp l) ((fnd (mvs l (ts.getLastD [])) k).map λb=>ts ++ [b])).map (pre ++ ·)
  rw[e]
  cases fnd (mvs l (ts.getLastD [])) k with
  |none=>show r.foldl (stp l) none=(r.foldl (stp l) none).map _;rw[xI];rfl
  |some b=>
   show r.foldl (stp l) (some (pre++ts ++ [b]))=(r.foldl (stp l) (some (ts ++ [b]))).map _
   rw[cu]
   exact Aj l pre r (ts ++ [b]) (by simp)
def und (k:Str×Int)(t:List Int):Str×Int:=if k.1=Str.ofString "on" then(Str.ofString "back",oth (t.headD 0))else(Str.ofString "on",t.getLastD 0)
def xE (ts:List (List Int))(run:List (Str×Int)):List (Str×Int):=(List.range run.length).reverse.map λi=>und (run.getD i (Str.ofString "",0)) (ts.getD i [])
variable {run:List (Str×Int)}{b:List Int}
theorem vg {ts:List (List Int)}{c:List Int}{k:Str×Int}(hl:ts.length=run.length+1)(hb:ts.getLastD []=b):xE (ts ++ [c]) (run ++ [k])=und k b::xE ts run:=by
 unfold xE
 rw[ah,aA,List.range_succ,eB,List.reverse_singleton,List.singleton_append,aN]
 congr 1
 ·have e1:(run ++ [k]).getD run.length (Str.ofString "",0)=k:=by
   rw[aJ,av (au _),aV];rfl
  have e2:(ts ++ [c]).getD run.length []=b:=by
   rw[aJ,ak (by omega),<-hb,bc,b9,hl]
   rfl
  rw[e1,e2]
 ·refine List.map_congr_left λi hi=>?_
  have hi:i<run.length:=by simpa using hi
  rw[aJ,ak hi,aJ,ak (by omega),<-aJ,<-aJ]
theorem Em {m:Mv}(ok:fG l)(T:fW l b)(hne:b≠ [])(hm:m∈mvs l b):((und m.1 b,b):Mv)∈mvs l m.2:=by
 have hw:¬(Str.ofString "back")=Str.ofString "on" :=by decide +kernel
 rcases ay.mp hm with z |z
 ·obtain⟨e,he,rfl⟩:=ai.mp z
  have h:=El ok T hne he
  unfold und
  rw[aM (show(onM b e).1.1=Str.ofString "on" from rfl)]
  exact h
 ·obtain⟨e,he,rfl⟩:=ai.mp z
  have h:=vh ok T hne he
  unfold und
  rw[aH (show ¬(ll b e).1.1=Str.ofString "on" from hw)]
  exact h
structure D0 (l:Ln)(ns:List Int)(run:List (Str×Int))(ts:List (List Int))(b:List Int):Prop where
 go:wkl l ns run=some ts
 len:ts.length=run.length+1
 last:ts.getLastD []=b
 ok:∀ t∈ts,fW l t/\t.length=ns.length/\t≠ []
 step:∀ (i:Nat) k t u,run[i]? = some k->ts[i]? = some t->ts[i+1]? = some u->fnd (mvs l t) k=some u
 back:wkl l b (xE ts run)=some ts.reverse
 words:∀ k∈xE ts run,(k.1=Str.ofString "on" \/k.1=Str.ofString "back")/\0<=k.2/\k.2<2*l.1
theorem D0.Qr {ts:List (List Int)}(h:D0 l ns run ts b):b∈ts:=by
 have h1:ts≠ []:=λe=>by have:=h.len;rw[e]at this;simp at this
 rw[<-h.last,bc]
 rw[List.getLast?_eq_some_getLast h1]
 exact List.getLast_mem h1
theorem nW.trail (ok:fG l)(T:fW l ns)(hne:ns≠ [])(h:nW l ns run b):∃ ts,D0 l ns run ts b:=by
 induction h with
 |nil=>exact⟨[ns],rfl,rfl,rfl,λt ht=>by rw[aZ.mp ht];exact⟨T,rfl,hne⟩,λi k t u hk=>by simp at hk,rfl,λk hk=>by simp[xE]at hk⟩
 |@snoc run b m h hm ih=>
  obtain⟨ts,R⟩:=ih
  obtain⟨Tb,bl,bne⟩:=R.ok b R.Qr
  obtain⟨Tm,ml,mne⟩:=qX ok Tb bne hm
  have hu:=Em ok Tb bne hm
  refine⟨ts ++ [m.2],?_,by rw[ah,R.len,ah];rfl,?_,λt ht=>?_,λi k t u hk ht hu=>?_,?_,?_⟩
  ·have e:=R.go
   unfold wkl at e ⊢
   rw[bZ,e]
   show(fnd (mvs l (ts.getLastD [])) m.1).map (λb=>ts ++ [b])=_
   rw[R.last,xh hm];rfl
  ·rw[bc,List.getLast?_append];rfl
  ·rcases ay.mp ht with z |z
   ·exact R.ok t z
   ·rw[aZ.mp z];exact⟨Tm,ml.trans bl,mne⟩
  ·have hl:=R.len
   by_cases hi:i<run.length
   ·rw[ak hi]at hk
    rw[ak (by omega)]at ht hu
    exact R.step i k t u hk ht hu
   ·have h1:i<(run ++ [m.1]).length:=(af.mp hk).1
    rw[ah,aA]at h1
    have e:i=run.length:=by omega
    subst e
    rw[av (au _),aV]at hk
    cases hk
    rw[av (by omega),hl,aV]at hu
    cases hu
    rw[ak (by omega)]at ht
    have e2:t=b:=by
     have h2:=R.last
     rw[bc,b9,hl,Nat.add_sub_cancel,ht]at h2
     exact h2
    rw[e2];exact xh hm
  ·rw[vg R.len R.last,eB]
   unfold wkl
   rw[dF]
   show(xE ts run).foldl (stp l) ((fnd (mvs l m.2) (und m.1 b)).map λc=>[m.2] ++ [c])=_
   have hf:=xh hu
   have hf:fnd (mvs l m.2) (und m.1 b)=some b:=hf
   rw[hf]
   show(xE ts run).foldl (stp l) (some ([m.2] ++ [b]))=_
   rw[Aj l [m.2] _ [b] (by simp)]
   have e:=R.back
   unfold wkl at e
   rw[e];rfl
  ·rw[vg R.len R.last]
   intro k hk
   rcases aK.mp hk with rfl |hk
   ·exact m7 ok hu
   ·exact R.words k hk
open TS
def nU (l:Ln)(ns:List Int)(es:List Ent):Prop:=∀ e∈es,match e.2 with
 |none=>e.1=ns
 |some (t,k)=>(k,e.1)∈mvs l t
theorem nU.scan {l:Ln}{ns t:List Int} :∀ {ms:List Mv}{es:List Ent},(∀ m∈ms,m∈mvs l t)->nU l ns es->nU l ns (gB t ms es)
 |[],_,_,h=>h
 |m::r,es,hm,h=>by
  refine nU.scan (ms:=r) (λx hx=>hm x (aC _ hx)) ?_
  unfold mJ
  split
  ·exact h
  ·intro e he
   rcases ay.mp he with z |z
   ·exact h e z
   ·rw[aZ.mp z]
    exact hm m aB
theorem nE (l:Ln)(ns:List Int):∀ i,nU l ns (fA l ns i)
 | 0=>λe he=>by have z:e=(ns,none):=(by simpa [fA]using he);rw[z]
 |i+1=>by
  have ih:=nE l ns i
  rw[fA]
  split
  ·exact nU.scan (λm hm=>hm) ih
  ·exact ih
structure Way (l:Ln)(ns:List Int)(run:List (Str×Int))(bs:List (List Int)):Prop where
 len:bs.length=run.length+1
 first:bs[0]? = some ns
 step:∀ (j:Nat) k b b',run[j]? = some k->bs[j]? = some b->bs[j+1]? = some b'->(k,b')∈mvs l b
theorem Way.snoc {l:Ln}{ns:List Int}{run:List (Str×Int)}{bs:List (List Int)}{m:Mv}(h:Way l ns run bs){b:List Int}(hb:bs[run.length]? = some b)(hm:m∈mvs l b):Way l ns (run ++ [m.1]) (bs ++ [m.2]):=by
 refine⟨by rw[ah,ah,h.len];rfl,?_,λj k c c' hk hc hc'=>?_⟩
 ·rw[ak (by rw[h.len];omega)];exact h.first
 ·by_cases hj:j<run.length
  ·rw[ak hj]at hk
   rw[ak (by rw[h.len];omega)]at hc hc'
   exact h.step j k c c' hk hc hc'
  ·have hj2:j=run.length:=by
    have:=(af.mp hk).1
    rw[ah,aA]at this
    omega
   subst hj2
   rw[av (au _),aV]at hk
   rw[ak (by rw[h.len];omega),hb]at hc
   rw[av (by rw[h.len];omega),h.len,aV]at hc'
   cases hk;cases hc;cases hc'
   exact hm
theorem tK {es:List Ent}(bm:nU l ns es){t:List Int}(h:mr es t run):∃ bs,Way l ns run bs/\bs[run.length]? = some t:=by
 induction h with
 |@nil t hm=>
  have:t=ns:=bm _ hm
  subst this
  exact⟨[t],⟨rfl,rfl,λj k b b' hk=>by simp at hk⟩,rfl⟩
 |@snoc t' t k r hm _ ih=>
  obtain⟨bs,W,hb⟩:=ih
  have hk:(k,t')∈mvs l t:=bm _ hm
  refine⟨bs ++ [t'],W.snoc (m:=(k,t')) hb hk,?_⟩
  rw[ah,aA,av (by rw[W.len];omega),W.len,aV]
  rfl
end TL
namespace TL
open PySem PySem.Spec PyProof.Rows L2
abbrev Sta:=List Int×Str
abbrev Bk:=Option (Sta×Option (Str×Int))
abbrev EnS:=Sta×Bk
def kS (s:Sta):SK:=(kyI s.1,.inr s.2)
theorem wY {a b:Sta}(h:kS a=kS b):a=b:=by
 have h1:=sy (bQ Prod.fst h)
 have h2:a.2=b.2:=Sum.inr.inj (bQ Prod.snd h)
 exact cO h1 h2
def jK (t:List Int)(w:Str)(x:List EnS×List Sta)(m:Mv):List EnS×List Sta:=
 open Classical in if m.1.1=w/\(m.2,w)∉x.1.map (·.1)then(x.1 ++ [((m.2,w),some ((t,w),some m.1))],x.2 ++ [(m.2,w)])else x
def gI (t:List Int)(w:Str)(ms:List Mv)(x:List EnS×List Sta):List EnS×List Sta:=ms.foldl (jK t w) x
variable {x:List EnS×List Sta}
theorem zq {t:List Int}{w:Str}{ms:List Mv}{j:Nat}{m:Mv}(h:ms[j]? = some m):gI t w (ms.take (j+1)) x=jK t w (gI t w (ms.take j) x) m:=by
 unfold gI
 rw[aQ,h,bZ]
 rfl
theorem uG (t:List Int)(w:Str)(x:List EnS×List Sta)(m:Mv):x.2 <+:(jK t w x m).2/\x.1 <+:(jK t w x m).1:=by
 unfold jK
 split
 ·exact⟨cU _ _,cU _ _⟩
 ·exact⟨bI _,bI _⟩
theorem lN (t:List Int)(w:Str):∀ (ms:List Mv) (x:List EnS×List Sta),x.2 <+:(gI t w ms x).2/\x.1 <+:(gI t w ms x).1
 |[],x=>⟨bI _,bI _⟩
 |m::r,x=>by
  have h1:=uG t w x m
  have h2:=lN t w r (jK t w x m)
  exact⟨h1.1.trans h2.1,h1.2.trans h2.2⟩
theorem sW (t:List Int)(w:Str)(ms:List Mv)(x:List EnS×List Sta)(j:Nat):(gI t w (ms.take j) x).2 <+:(gI t w ms x).2/\(gI t w (ms.take j) x).1 <+:(gI t w ms x).1:=by
 have:=lN t w (ms.drop j) (gI t w (ms.take j) x)
 have e:gI t w (ms.drop j) (gI t w (ms.take j) x)=gI t w ms x:=by
  unfold gI
  rw[<-bZ,dZ]
 rw[e]at this
 exact this
def goS (l:Ln)(x:List EnS×List Sta):Nat->List EnS×List Sta
 | 0=>x
 |i+1=>match (goS l x i).2[i]? with
  |some s=>gI s.1 s.2 (mvs l s.1) (goS l x i)
  |none=>goS l x i
variable {s:Sta}
theorem yE {l:Ln}{i:Nat}(h:(goS l x i).2[i]? = some s):goS l x (i+1)=gI s.1 s.2 (mvs l s.1) (goS l x i):=by
 rw[goS,h]
theorem vz {l:Ln}{P:Sta->Prop}{t:List Int}{w:Str}(h:∀ m∈mvs l t,P (m.2,w)):∀ {ms:List Mv}{x:List EnS×List Sta},(∀ m∈ms,m∈mvs l t)->(∀ s∈x.2,P s)->∀ s∈(gI t w ms x).2,P s
 |[],x,_,hx=>hx
 |m::r,x,hm,hx=>by
  refine vz h (ms:=r) (x:=jK t w x m) (λy hy=>hm y (aC _ hy)) ?_
  unfold jK
  split
  ·intro s hs
   rcases ay.mp hs with z |z
   ·exact hx s z
   ·rw[aZ.mp z];exact h m (hm m aB)
  ·exact hx
theorem sE {l:Ln}{P:Sta->Prop}(hP:∀ s m,P s->m∈mvs l s.1->P (m.2,s.2)){x:List EnS×List Sta}(hx:∀ s∈x.2,P s):∀ i,∀ s∈(goS l x i).2,P s
 | 0=>hx
 |i+1=>by
  rw[goS]
  split
  ·rename_i s hs
   exact vz (λm hm=>hP s m (sE hP hx i s (ax hs)) hm) (λm hm=>hm) (sE hP hx i)
  ·exact sE hP hx i
def Af (K:PySem.W.Frag)(H:Hp):Bk->V->Prop
 |none,v=>v = .non
 |some (s,none),v=>∃ ad c,v = .ref ad/\H ad=some (.tup [.ref c,.non])/\jF H c (kS s)
 |some (s,some m),v=>∃ ad c p1,v = .ref ad/\H ad=some (.tup [.ref c,.ref p1])/\jF H c (kS s)/\SqT K H p1 [.str m.1,.int m.2]
variable {K:PySem.W.Frag}{H:Hp}
theorem Af.to {H':Hp}(f:∀ b ys,H b=some (.tup ys)->H' b=some (.tup ys))(g:∀ b ys,SqT K H b ys->SqT K H' b ys):∀ {b:Bk}{v:V},Af K H b v->Af K H' b v
 |none,v,h=>h
 |some (s,none),v,h=>by
  obtain⟨ad,c,e,h1,h2⟩:=h
  exact⟨ad,c,e,f _ _ h1,h2.ky f⟩
 |some (s,some m),v,h=>by
  obtain⟨ad,c,p1,e,h1,h2,h3⟩:=h
  exact⟨ad,c,p1,e,f _ _ h1,h2.ky f,g _ _ h3⟩
def kvN (es:List EnS)(cs:List Addr)(vs:List V):KvN:=(es.zip (cs.zip vs)).map λp=>(kS p.1.1,p.2.1,p.2.2)
structure StN (P:Program)(w:World)(K:PySem.W.Frag)(H:Hp)(d:Addr)(es:List EnS)(cs:List Addr)(vs:List V):Prop where
 dn:DN P w H d (kvN es cs vs)
 lc:cs.length=es.length
 lv:vs.length=es.length
 each:∀ (i:Nat) e v,es[i]? = some e->vs[i]? = some v->Af K H e.2 v
structure StL (H:Hp)(p:Addr)(as:List Addr)(ss:List Sta):Prop where
 at_:H p=some (.lst (as.map V.ref))
 len:as.length=ss.length
 each:∀ (i:Nat) a s,as[i]? = some a->ss[i]? = some s->jF H a (kS s)
variable {ss:List Sta}
theorem StL.same {H':Hp}{p:Addr}{as:List Addr}(h:StL H p as ss)(s:fu H H'):StL H' p as ss:=⟨s _ _ h.at_,h.len,λi a t h1 h2=>(h.each i a t h1 h2).same s⟩
variable {P:Program}{w:World}{d:Addr}{es:List EnS}{cs:List Addr}{vs:List V}
theorem StN.same {H':Hp}(h:StN P w K H d es cs vs)(s:fu H H'):StN P w K H' d es cs vs:=
 ⟨h.dn.same s,h.lc,h.lv,λi e v h1 h2=>(h.each i e v h1 h2).to (λb ys q=>s _ _ q) λb ys q=>gi s q⟩
theorem AJ:∀ (es:List EnS) (cs:List Addr) (vs:List V),cs.length=es.length->vs.length=es.length->∀ s:Sta,(valN (kvN es cs vs) (kS s)).isSome=true↔s∈es.map (·.1)
 |[],_,_,_,_,s=>by simp[kvN,valN]
 |e::es,[],_,h,_,s=>by simp at h
 |e::es,c::cs,[],_,h,s=>by simp at h
 |e::es,c::cs,v::vs,h1,h2,s=>by
  have e0:kvN (e::es) (c::cs) (v::vs)=(kS e.1,c,v)::kvN es cs vs:=rfl
  have ih:=AJ es cs vs (by simpa using h1) (by simpa using h2) s
  rw[e0,aN,aK]
  by_cases f:e.1=s
  ·rw[jt (p:=(kS e.1,c,v)) (by rw[f])]
   simp[f]
  ·rw[ju (p:=(kS e.1,c,v)) (λz=>f (wY z)),ih]
   exact⟨λz=>.inr z,λz=>z.resolve_left λy=>f y.symm⟩
theorem StN.mem (h:StN P w K H d es cs vs)(s:Sta):(valN (kvN es cs vs) (kS s)).isSome=true↔s∈es.map (·.1):=AJ es cs vs h.lc h.lv s
theorem AK (h1:cs.length=es.length)(h2:vs.length=es.length):(kvN es cs vs).length=es.length:=by
 unfold kvN
 rw[aa,cw,cw]
 omega
theorem Dp (h1:cs.length=es.length)(h2:vs.length=es.length)(e:EnS)(c:Addr)(v:V):kvN (es ++ [e]) (cs ++ [c]) (vs ++ [v])=kvN es cs vs ++ [(kS e.1,c,v)]:=by
 unfold kvN
 rw[List.zip_append (by omega),List.zip_append (by rw[cw];omega),aw]
 rfl
theorem StN.push {c:Addr}{e:EnS}{v:V}(h:StN P w K H d es cs vs)(hn:e.1∉es.map (·.1))(hc:jF H c (kS e.1))(hb:Af K H e.2 v):
  StN P w K (upd H d (nD P w d (putN (kvN es cs vs) (kS e.1) c v))) d (es ++ [e]) (cs ++ [c]) (vs ++ [v]):=by
 have hv:¬(valN (kvN es cs vs) (kS e.1)).isSome=true:=λz=>hn ((h.mem e.1).mp z)
 have ep:putN (kvN es cs vs) (kS e.1) c v=kvN (es ++ [e]) (cs ++ [c]) (vs ++ [v]):=by
  rw[Dp h.lc h.lv]
  unfold putN
  rw[aH hv]
 have dp:=h.dn.put (v:=v) hc
 have f:∀ b ys,H b=some (.tup ys)->(upd H d (nD P w d (putN (kvN es cs vs) (kS e.1) c v))) b=some (.tup ys):=λb ys q=>Dh h.dn.at_ q
 have g:∀ b ys,SqT K H b ys->SqT K (upd H d (nD P w d (putN (kvN es cs vs) (kS e.1) c v))) b ys:=λb ys q=>by
  rcases q with(q |⟨o,q⟩)|q
  ·exact .inl (.inl (f _ _ q))
  ·exact .inl (.inr ⟨o,by rw[fm (fU q h.dn.at_ (λz=>nomatch z))];exact q⟩)
  ·exact .inr q
 refine⟨?_,by rw[ah,ah,h.lc];rfl,by rw[ah,ah,h.lv];rfl,λi e' v' he hv'=>?_⟩
 ·rw[<-ep];exact dp
 ·by_cases hi:i<es.length
  ·rw[ak hi]at he
   rw[ak (by rw[h.lv];exact hi)]at hv'
   exact(h.each i e' v' he hv').to f g
  ·have hi2:i=es.length:=by
    have:=(af.mp he).1
    rw[ah,aA]at this
    omega
   rw[hi2,av (au _),aV]at he
   rw[hi2,<-h.lv,av (au _),aV]at hv'
   cases he
   cases hv'
   exact hb.to f g
theorem StL.push {H':Hp}{p a:Addr}{as:List Addr}(h:StL H p as ss)(f:∀ b ys,H b=some (.tup ys)->H' b=some (.tup ys))(hp:H' p=some (.lst (as.map V.ref ++ [.ref a])))(ha:jF H' a (kS s)):StL H' p (as ++ [a]) (ss ++ [s]):=by
 refine⟨by rw[hp,aw];rfl,by rw[ah,ah,h.len];rfl,λi b t hb ht=>?_⟩
 by_cases hi:i<as.length
 ·rw[ak hi]at hb
  rw[ak (by rw[<-h.len];exact hi)]at ht
  exact(h.each i b t hb ht).ky f
 ·have hi2:i=as.length:=by
   have:=(af.mp hb).1
   rw[ah,aA]at this
   omega
  rw[hi2,av (au _),aV]at hb
  rw[hi2,h.len,av (au _),aV]at ht
  cases hb
  cases ht
  exact ha
theorem me {A:Around}{k:Nat}(hr:mK k A):A.units+2<cLine:=cj (Nat.add_le_add_left (by decide:2<=64) _) hr.units
theorem ye {X:Cx}{o i:Expr}{pos:Pos}{td ty:TE}(eP:X.prog=P)(ew:X.w=w)(hu:X.A.units+2<cLine)(ho:PE X o td)(hi:PE X i ty)(hs:Ea i):PE X (.Subscript o i pos) (FG P w td ty):=by subst eP ew;exact qr hu ho hi hs
def ow (w:Str):Str:=if w=Str.ofString "on" then Str.ofString "back" else Str.ofString "on"
def isW (w:Str):Prop:=w=Str.ofString "on" \/w=Str.ofString "back"
theorem isW.ow {w:Str}(h:isW w):isW (ow w):=by
 unfold TL.ow
 split
 ·exact .inr rfl
 ·exact .inl rfl
theorem CT {w:Str}(h:isW w):ow (ow w)=w:=by
 have hn:¬Str.ofString "back" = Str.ofString "on" :=by decide +kernel
 rcases h with h |h
 ·rw[h];unfold ow;rw[aM rfl,aH hn]
 ·rw[h];unfold ow;rw[aH hn,aM rfl]
theorem IH {w:Str}(h:isW w):ow w≠w:=by
 have hn:¬Str.ofString "back" = Str.ofString "on" :=by decide +kernel
 rcases h with h |h
 ·rw[h];unfold ow;rw[aM rfl];exact hn
 ·rw[h];unfold ow;rw[aH hn];exact λz=>hn z.symm
structure FD (P:Program)(w:World)(K:PySem.W.Frag)(mg:Str->Option Value)(od:Addr):Prop where
 m:mg "OTHER_WORD" = some (.ref od)
 d:∀ h:Heap,K.In h->∃ t u:Tok,h.DictOf (gU P w) od [(.inr (Str.ofString "on"),.str (Str.ofString "back") t),(.inr (Str.ofString "back"),.str (Str.ofString "on") u)]
def tOw (ty:TE):TE:=λσ H Q=>ty σ H λy H1=>∃ w,y = .str w/\isW w/\Q (.str (ow w)) H1
theorem IF {X:Cx}{i:Expr}{p pos:Pos}{ty:TE}{od:Addr}(O:FD X.prog X.w X.K X.mg od)(hg:Gl X "OTHER_WORD")(hi:PE X i ty)(hs:Ea i):PE X (.Subscript (.Name "OTHER_WORD" p) i pos) (tOw ty):=by
 intro pins s σ H Q I h
 have ho:PE X (.Name "OTHER_WORD" p) (tC (.ref od)):=lI hg O.m rfl
 refine v7 eL.lookup hs (thn (ho pins s σ H _ I (show tC (.ref od) σ H (λx H1=>x = .ref od/\H1=H) from⟨rfl,rfl⟩)) λu s1 ⟨x,H1,I1,rx,ex,eH⟩=>?_)
 subst ex eH
 obtain rfl:u=Value.ref od:=rx
 refine thn (hi pins s1 σ H1 _ I1 h) λiv s2 ⟨y,H2,I2,ry,w,ey,hw,q⟩=>?_
 subst ey
 obtain⟨t,u,dd⟩:=O.d s2.heap I2.kIn
 have hT:s2.TypeIs (.ref od) "dict" :=by
  obtain⟨o,es,ep,h1,h2,_⟩:=dd
  exact⟨o,h1,h2.1⟩
 refine⟨hT,?_⟩
 have hn:¬Str.ofString "on" = Str.ofString "back" :=by decide +kernel
 rcases hw with rfl |rfl
 ·refine wpAny_getItem_of (k:=.inr (Str.ofString "on")) (oA (P:=X.prog) (w:=X.w) (k:=.inr (Str.ofString "on")) ry) dd.mapOf (v:=.str (Str.ofString "back") t) ?_ ⟨.str (ow (Str.ofString "on")),H2,I2.tok _,?_,q⟩
  ·unfold valueAt;simp
  ·unfold ow;rw[aM rfl];exact⟨t,rfl⟩
 ·refine wpAny_getItem_of (k:=.inr (Str.ofString "back")) (oA (P:=X.prog) (w:=X.w) (k:=.inr (Str.ofString "back")) ry) dd.mapOf (v:=.str (Str.ofString "on") u) ?_ ⟨.str (ow (Str.ofString "back")),H2,I2.tok _,?_,q⟩
  ·unfold valueAt
   rw[List.find?_cons_of_neg (by simp;exact hn),List.find?_cons_of_pos (by simp)]
   rfl
  ·unfold ow;rw[aH (λz=>hn z.symm)];exact⟨u,rfl⟩
def iE (x:List EnS×List Sta)(s:Sta):List EnS×List Sta:=
 open Classical in if(s.1,ow s.2)∉x.1.map (·.1)then(x.1 ++ [((s.1,ow s.2),some (s,none))],x.2 ++ [(s.1,ow s.2)])else x
def chN (ss:List Sta)(es:List EnS):List EnS×List Sta:=ss.foldl iE (es,[])
theorem DR {j:Nat}(h:ss[j]? = some s):chN (ss.take (j+1)) es=iE (chN (ss.take j) es) s:=by
 unfold chN
 rw[aQ,h,bZ]
 rfl
theorem DQ (x:List EnS×List Sta)(s:Sta):(iE x s).1.length<=x.1.length+1/\(iE x s).2.length<=x.2.length+1:=by
 unfold iE
 split
 ·rw[ah,ah];exact⟨au _,au _⟩
 ·exact⟨Nat.le_succ _,Nat.le_succ _⟩
theorem A5 (es:List EnS):∀ (ss:List Sta) (x:List EnS×List Sta),(ss.foldl iE x).1.length<=x.1.length+ss.length/\(ss.foldl iE x).2.length<=x.2.length+ss.length
 |[],x=>⟨au _,au _⟩
 |s::r,x=>by
  have h1:=DQ x s
  have h2:=A5 es r (iE x s)
  rw[dF,aO]
  omega
theorem yC {l:Ln}{x:List EnS×List Sta}{i:Nat}(h:(goS l x i).2.length<=i):∀ k,goS l x (i+k)=goS l x i
 | 0=>rfl
 |k+1=>by
  have ih:=yC h k
  rw[<-Nat.add_assoc,goS,ih,bB (by omega)]
def goF (l:Ln)(x:List EnS×List Sta):List EnS×List Sta:=goS l x 1000
theorem Hy {l:Ln}{i:Nat}(h:(goS l x i).2.length=i)(hi:i<=1000):goF l x=goS l x i:=by
 have:=yC (Nat.le_of_eq h) (1000-i)
 rw[show i+(1000-i)=1000 by omega]at this
 exact this
def onW:Str:=Str.ofString "on"
def ij:Str:=Str.ofString "back"
def r0 (tr:List Int):List EnS×List Sta:=([((tr,onW),none),((tr,ij),none)],[(tr,onW),(tr,ij)])
def rnd (l:Ln)(tr:List Int):Nat->List EnS×List Sta
 | 0=>r0 tr
 |r+1=>chN (goF l (rnd l tr r)).2 (goF l (rnd l tr r)).1
def cnt (l:Ln)(tr:List Int):Nat->Sta->Option Nat
 | 0,_=>none
 |r+1,s=>open Classical in if s∈(goF l (rnd l tr r)).2 then some r else cnt l tr r s
structure RO (W:List (List Int))(x:List EnS×List Sta):Prop where
 nd:(x.1.map (·.1)).Nodup
 inW:∀ s∈x.1.map (·.1),s.1∈W/\isW s.2
 sub:∀ s∈x.2,s∈x.1.map (·.1)
 nd2:x.2.Nodup
variable {W:List (List Int)}
theorem RO.push {b:Bk}(h:RO W x)(hn:s∉x.1.map (·.1))(hw:s.1∈W/\isW s.2):RO W (x.1 ++ [(s,b)],x.2 ++ [s]):=by
 refine⟨?_,λt ht=>?_,λt ht=>?_,?_⟩
 ·show((x.1 ++ [(s,b)]).map (·.1)).Nodup
  rw[aw]
  exact bx.mpr ⟨h.nd,by simp,λa ha b hb=>by simp at hb;subst hb;exact λz=>hn (z ▸ ha)⟩
 ·rw[show((x.1 ++ [(s,b)],x.2 ++ [s]):List EnS×List Sta).1=x.1 ++ [(s,b)] from rfl,aw]at ht
  rcases ay.mp ht with z |z
  ·exact h.inW t z
  ·have:t=s:=by simpa using z
   rw[this];exact hw
 ·show t∈(x.1 ++ [(s,b)]).map (·.1)
  rw[aw]
  rcases ay.mp ht with z |z
  ·exact aG _ (h.sub t z)
  ·have:t=s:=by simpa using z
   rw[this];exact az _ (by simp)
 ·exact bx.mpr ⟨h.nd2,by simp,λa ha b hb=>by simp at hb;subst hb;exact λz=>hn (z ▸ h.sub a ha)⟩
theorem RO.add {t:List Int}{w:Str}{m:Mv}(h:RO W x)(hm:m.2∈W)(hw:isW w):RO W (jK t w x m):=by
 unfold jK
 split
 ·rename_i c
  exact h.push c.2 ⟨hm,hw⟩
 ·exact h
theorem RO.scan {W:List (List Int)}{t:List Int}{w:Str}(hw:isW w):∀ {ms:List Mv}{x:List EnS×List Sta},RO W x->(∀ m∈ms,m.2∈W)->RO W (gI t w ms x)
 |[],_,h,_=>h
 |m::r,x,h,hm=>RO.scan hw (ms:=r) (h.add (hm m aB) hw) λy hy=>hm y (aC _ hy)
theorem RO.go {l:Ln}{W:List (List Int)}(gy:∀ t∈W,∀ m∈mvs l t,m.2∈W){x:List EnS×List Sta}(h:RO W x):∀ i,RO W (goS l x i)
 | 0=>h
 |i+1=>by
  have ih:=RO.go gy h i
  rw[goS]
  split
  ·rename_i s hs
   have:=ih.inW s (ih.sub s (ax hs))
   exact ih.scan this.2 (gy s.1 this.1)
  ·exact ih
theorem RO.chg (h:RO W x)(hs:s.1∈W/\isW s.2):RO W (iE x s):=by
 unfold iE
 split
 ·rename_i c
  exact h.push c ⟨hs.1,hs.2.ow⟩
 ·exact h
theorem RO.DP {W:List (List Int)} :∀ {ss:List Sta}{x:List EnS×List Sta},RO W x->(∀ s∈ss,s.1∈W/\isW s.2)->RO W (ss.foldl iE x)
 |[],_,h,_=>h
 |s::r,x,h,hs=>RO.DP (ss:=r) (h.chg (hs s aB)) λy hy=>hs y (aC _ hy)
theorem RO.change (h:RO W x):RO W (chN x.2 x.1):=
 RO.DP (x:=(x.1,[])) ⟨h.nd,h.inW,λs hs=>(by cases hs),dh⟩ λs hs=>h.inW s (h.sub s hs)
theorem RO.rnd {l:Ln}{W:List (List Int)}(gy:∀ t∈W,∀ m∈mvs l t,m.2∈W){tr:List Int}(ht:tr∈W):∀ r,RO W (rnd l tr r)
 | 0=>by
  have hn:onW≠ij:=by unfold onW ij;decide +kernel
  refine⟨?_,λs hs=>?_,λs hs=>hs,?_⟩
  ·show[(tr,onW),(tr,ij)].Nodup
   simp[hn]
  ·have hs:s=(tr,onW)\/s=(tr,ij):=by
    have:s∈ [(tr,onW),(tr,ij)]:=hs
    simpa using this
   rcases hs with e |e
   ·rw[e];exact⟨ht,.inl rfl⟩
   ·rw[e];exact⟨ht,.inr rfl⟩
  ·show[(tr,onW),(tr,ij)].Nodup
   simp[hn]
 |r+1=>(RO.go gy (RO.rnd gy ht r) 1000).change
theorem pP {α:Type} :∀ {xs ys:List α},xs.Nodup->(∀ x∈xs,x∈ys)->xs.length<=ys.length
 |[],_,_,_=>aP _
 |x::xs,ys,hn,hs=>by
  obtain⟨a,b,e⟩:=List.append_of_mem (hs x aB)
  have hx:=bu.mp hn
  have:=pP (xs:=xs) (ys:=a++b) hx.2 λy hy=>by
   have h1:=hs y (aC _ hy)
   rw[e]at h1
   rcases ay.mp h1 with z |z
   ·exact aG _ z
   ·rcases aK.mp z with z |z
    ·exact absurd hy (by rw[z];exact hx.1)
    ·exact az _ z
  rw[e,ah,aO,aO]
  rw[ah]at this
  omega
theorem RO.len (h:RO W x):x.1.length<=2*W.length/\x.2.length<=2*W.length:=by
 have big:∀ ys:List Sta,ys.Nodup->(∀ s∈ys,s∈x.1.map (·.1))->ys.length<=2*W.length:=λys hy hs=>by
  have NQ:∀ s∈ys,s∈W.map (λt=>(t,onW))++W.map (λt=>(t,ij)):=λs hs'=>by
   obtain⟨h1,h2⟩:=h.inW s (hs s hs')
   rcases h2 with e |e
   ·exact aG _ (ai.mpr ⟨s.1,h1,cO rfl e.symm⟩)
   ·exact az _ (ai.mpr ⟨s.1,h1,cO rfl e.symm⟩)
  have:=pP hy NQ
  rw[ah,aa,aa]at this
  omega
 refine⟨?_,big x.2 h.nd2 h.sub⟩
 have:=big (x.1.map (·.1)) h.nd λs hs=>hs
 rwa [aa]at this
theorem px (l:Ln)(x:List EnS×List Sta):∀ i,x.1 <+:(goS l x i).1
 | 0=>bI _
 |i+1=>by
  have ih:=px l x i
  rw[goS]
  split
  ·rename_i s _
   exact ih.trans (lN s.1 s.2 (mvs l s.1) (goS l x i)).2
  ·exact ih
theorem vV:∀ (ss:List Sta) (x:List EnS×List Sta),(ss.foldl iE x).1.length+x.2.length=x.1.length+(ss.foldl iE x).2.length
 |[],x=>rfl
 |s::r,x=>by
  have h2:=vV r (iE x s)
  have h1:(iE x s).1.length+x.2.length=x.1.length+(iE x s).2.length:=by
   unfold iE
   split
   ·simp only[ah,aA];omega
   ·rfl
  rw[dF]
  omega
theorem DS (ss:List Sta)(es:List EnS):(chN ss es).1.length=es.length+(chN ss es).2.length:=by
 have:=vV ss (es,[])
 simpa [chN]using this
theorem Di {a b:Addr}{kvs:KvN}{ys:List V}(h:H a=some (nD P w a kvs))(e:H b=some (.tup ys)):b≠a:=fU e h (λz=>nomatch z)
theorem StN.other {c:Addr}{us:List V}{kvs:KvN}{o:HO}(h:StN P w K H d es cs us)(hc:H c=some (nD P w c kvs))(dc:d≠c):StN P w K (upd H c o) d es cs us:=by
 have f:∀ b zs,H b=some (.tup zs)->(upd H c o) b=some (.tup zs):=λb zs q=>by rw[fm (Di hc q)];exact q
 refine⟨⟨by rw[fm dc];exact h.dn.at_,λq hq=>(h.dn.keys q hq).ky f⟩,h.lc,h.lv,λi e v h1 h2=>(h.each i e v h1 h2).to f λb zs q=>?_⟩
 rcases q with(q |⟨o',q⟩)|q
 ·exact .inl (.inl (f _ _ q))
 ·exact .inl (.inr ⟨o',by rw[fm (fU q hc (λz=>nomatch z))];exact q⟩)
 ·exact .inr q
theorem StL.other {p c:Addr}{as:List Addr}{kvs:KvN}{o:HO}(h:StL H p as ss)(hc:H c=some (nD P w c kvs)):StL (upd H c o) p as ss:=
 ⟨by rw[fm (fU h.at_ hc (λz=>nomatch z))];exact h.at_,h.len,λi a s h1 h2=>(h.each i a s h1 h2).ky λb zs q=>by rw[fm (Di hc q)];exact q⟩
theorem DN.hid {P:Program}{w:World}{H:Hp}{d c:Addr}{kvs sa:KvN}(h:DN P w H c kvs)(hd:H d=some (nD P w d sa))(cd:c≠d):DN P w (hid d H) c kvs:=
 ⟨by rw[gO cd];exact h.at_,λq hq=>(h.keys q hq).ky λb zs z=>by rw[gO (Di hd z)];exact z⟩
theorem vA {H4:Hp}(s:fu H H4)(hd:H d=none):fu H (hid d H4):=λb o hb=>by
 have hbd:b≠d:=λz=>by rw[z,hd]at hb;cases hb
 rw[gO hbd];exact s _ _ hb
inductive kr (es:List EnS):Sta->List (Str×Int)->Prop
 |nil {s:Sta} :(s,none)∈es->kr es s []
 |ch {s s':Sta}{r:List (Str×Int)} :(s,some (s',none))∈es->kr es s' r->kr es s r
 |mv {s s':Sta}{k:Str×Int}{r:List (Str×Int)} :(s,some (s',some k))∈es->kr es s' r->kr es s (r ++ [k])
structure hX (es:List EnS):Prop where
 back:∀ (j:Nat) s s' b,es[j]? = some (s,some (s',b))->∃ i e,i<j/\es[i]? = some e/\e.1=s'
 ok:∀ (j:Nat) s s' k,es[j]? = some (s,some (s',some k))->PyData.strOk k.1=true
theorem hX.push {s':Sta}{b:Option (Str×Int)}(h:hX es)(hs:s'∈es.map (·.1))(hb:∀ k,b=some k->PyData.strOk k.1=true):hX (es ++ [(s,some (s',b))]):=by
 refine⟨λj t t' c hj=>?_,λj t t' k hj=>?_⟩
 ·by_cases hi:j<es.length
  ·rw[ak hi]at hj
   obtain⟨i,e,h1,h2,h3⟩:=h.back j t t' c hj
   exact⟨i,e,h1,by rw[ak (by omega)];exact h2,h3⟩
  ·have hj2:j=es.length:=by
    have:=(af.mp hj).1
    rw[ah,aA]at this
    omega
   rw[hj2,av (au _),aV]at hj
   have hj:(s,some (s',b))=(t,some (t',c)):=by simpa using hj
   injection hj with e1 e2
   injection e2 with e2
   injection e2 with e2 e3
   obtain⟨e,he,ee⟩:=ai.mp hs
   obtain⟨i,hi',ei⟩:=aR.mp he
   exact⟨i,e,by omega,by rw[ak hi',ag hi',ei],by rw[ee,e2]⟩
 ·by_cases hi:j<es.length
  ·rw[ak hi]at hj
   exact h.ok j t t' k hj
  ·have hj2:j=es.length:=by
    have:=(af.mp hj).1
    rw[ah,aA]at this
    omega
   rw[hj2,av (au _),aV]at hj
   have hj:(s,some (s',b))=(t,some (t',some k)):=by simpa using hj
   injection hj with e1 e2
   injection e2 with e2
   injection e2 with e2 e3
   exact hb k e3
theorem Bg {l:Ln}{t:List Int}{m:Mv}(h:m∈mvs l t):PyData.strOk m.1.1=true:=vi l t m h
theorem hX.scan {l:Ln}{t:List Int}{w:Str} :∀ {ms:List Mv}{x:List EnS×List Sta},hX x.1->(t,w)∈x.1.map (·.1)->(∀ m∈ms,m∈mvs l t)->hX (gI t w ms x).1
 |[],_,h,_,_=>h
 |m::r,x,h,ht,hm=>by
  have h1:hX (jK t w x m).1/\(t,w)∈(jK t w x m).1.map (·.1):=by
   unfold jK
   split
   ·exact⟨h.push ht λk e=>by cases e;exact Bg (hm m aB),by rw[aw];exact aG _ ht⟩
   ·exact⟨h,ht⟩
  exact hX.scan (ms:=r) (x:=jK t w x m) h1.1 h1.2 λy hy=>hm y (aC _ hy)
theorem hX.go {l:Ln}{W:List (List Int)}(gy:∀ t∈W,∀ m∈mvs l t,m.2∈W){x:List EnS×List Sta}(R:RO W x)(h:hX x.1):∀ i,hX (goS l x i).1
 | 0=>h
 |i+1=>by
  have ih:=hX.go gy R h i
  rw[goS]
  split
  ·rename_i s hs
   exact ih.scan ((RO.go gy R i).sub s (ax hs)) λm hm=>hm
  ·exact ih
theorem hX.DP:∀ {ss:List Sta}{x:List EnS×List Sta},hX x.1->(∀ s∈ss,s∈x.1.map (·.1))->hX (ss.foldl iE x).1
 |[],_,h,_=>h
 |s::r,x,h,hs=>by
  have h1:hX (iE x s).1/\∀ t∈r,t∈(iE x s).1.map (·.1):=by
   unfold iE
   split
   ·exact⟨h.push (hs s aB) λk e=>(by cases e),λt ht=>by rw[aw];exact aG _ (hs t (aC _ ht))⟩
   ·exact⟨h,λt ht=>hs t (aC _ ht)⟩
  exact hX.DP (ss:=r) h1.1 h1.2
theorem hX.rnd {l:Ln}{W:List (List Int)}(gy:∀ t∈W,∀ m∈mvs l t,m.2∈W){tr:List Int}(ht:tr∈W):∀ r,hX (rnd l tr r).1
 | 0=>⟨λj s s' b hj=>by
   have:(s,some (s',b))∈(r0 tr).1:=ax hj
   simp[r0]at this,λj s s' b hj=>by
   have:(s,some (s',some b))∈(r0 tr).1:=ax hj
   simp[r0]at this⟩
 |r+1=>by
  have R:=RO.rnd gy ht r
  have RG:RO W (goF l (TL.rnd l tr r)):=RO.go gy R 1000
  have h1:hX (goF l (TL.rnd l tr r)).1:=hX.go gy R (hX.rnd gy ht r) 1000
  have e:TL.rnd l tr (r+1)=chN (goF l (TL.rnd l tr r)).2 (goF l (TL.rnd l tr r)).1:=by rw[TL.rnd]
  rw[e]
  generalize goF l (TL.rnd l tr r)=gg at RG h1
  exact hX.DP (x:=(gg.1,[])) h1 λs hs=>RG.sub s hs
theorem AL:∀ {es:List EnS}{cs:List Addr}{vs:List V},cs.length=es.length->vs.length=es.length->(es.map (·.1)).Nodup->∀ {j:Nat}{e:EnS}{v:V},es[j]? = some e->vs[j]? = some v->valN (kvN es cs vs) (kS e.1)=some v
 |[],_,_,_,_,_,_,_,_,h,_=>by simp at h
 |_::_,[],_,h,_,_,_,_,_,_,_=>by simp at h
 |_::_,_::_,[],_,h,_,_,_,_,_,_=>by simp at h
 |e0::es,c::cs,v0::vs,h1,h2,nd,0,e,v,he,hv=>by
  cases he;cases hv
  have e0':kvN (e0::es) (c::cs) (v0::vs)=(kS e0.1,c,v0)::kvN es cs vs:=rfl
  rw[e0',jt (p:=(kS e0.1,c,v0)) rfl]
 |e0::es,c::cs,v0::vs,h1,h2,nd,j+1,e,v,he,hv=>by
  have e0':kvN (e0::es) (c::cs) (v0::vs)=(kS e0.1,c,v0)::kvN es cs vs:=rfl
  rw[cq]at he hv
  rw[aN,bu]at nd
  have hne:¬kS e0.1=kS e.1:=λz=>nd.1 (by rw[wY z];exact eC (ax he))
  rw[e0',ju (p:=(kS e0.1,c,v0)) hne]
  exact AL (by simpa using h1) (by simpa using h2) nd.2 he hv
theorem StN.get {us:List V}(h:StN P w K H d es cs us)(nd:(es.map (·.1)).Nodup){j:Nat}{e:EnS}{v:V}(he:es[j]? = some e)(hv:us[j]? = some v):valN (kvN es cs us) (kS e.1)=some v:=AL h.lc h.lv nd he hv
open PySem.W
section
variable {prog:Program}{w:World}{d:Addr}{o:Obj}{es:Array DictEntry}{ep:Nat}
theorem zt {A:Around}(hh:A.handled=none)(hd:o.data = .dict es ep)(I d:Addr)(hne:d≠I):
  Walks prog w A I [I,d] [I] es.size (λi v=>∃ e:DictEntry,es[i]? = some e/\v=e.key) (λi h=>h.IsKeyIter I d i es.size ep/\h.get? d=some o) where
 sub:=λb hb=>by simp at hb;simp[hb]
 frame:=λ_ _ _ st hk=>⟨st.1.at λo e=>hk I (by simp) o e,hk d (by simp) _ st.2⟩
 item:=λi s Q E hi st hQ=>by
  obtain⟨e,hx⟩:∃ p,es[i]? = some p:=⟨es[i],by simp[hi]⟩
  refine vG st.1 st.2 hd hx λh' Fd hs'=>?_
  exact hQ e.key h' s.toks ⟨e,hx,rfl⟩ ⟨Fd,hs'.extBut d o hne st.2⟩ λb o hb e=>hs'.extBut b o (λh=>hb (by simp[h])) e
 done:=λs Q E st hQ=>xX hh st.1 st.2 hd (au _) λh' he'=>hQ h' s.toks λb o hb e=>he' b o (λh=>hb (by simp[h])) e
 self:=λ_ _ _ _ st hQ=>vF st.1 hQ
theorem CB (lo:(d==sysModules)=false)(hx:o.ExactDict)(hd:o.data = .dict es ep):KdlSrc prog w "dict" d d es.size (λi v=>∃ e:DictEntry,es[i]? = some e/\v=e.key) (λh=>h.get? d=some o) where
 type:=λ_ hm=>mZ hm hx
 there:=λ_ hm=>⟨aE hm,aE hm⟩
 keep:=λ_ _ hm hk=>hk d (.inl rfl) o hm
 notList:=by decide
 notTuple:=by decide
 hint:=λ_ _ _ _ hm hq=>kdl_hint_dict (mZ hm hx) hq
 iter:=λ_ _ hh hm=>⟨_,_,(λ_ _ hq=>vH lo hm hx hd hq),zt hh hd _ d (aS (aE hm)),⟨⟨_,aT _ rfl,rfl,rfl⟩,aD _ hm⟩⟩
end
theorem vc:∀ {bs:List Addr}{vs:List Value},vs=bs.map Value.ref->Vals (bs.map V.ref) vs
 |[],_,h=>by rw[h];exact .nil
 |b::bs,_,h=>by rw[h];exact .cons rfl (vc rfl)
theorem xp {X:Cx}(hc:X.calm=true):mF X (.type "list") (λxs H Q=>∃ (d:Addr) (kvs:List (List Key×V)),xs = [.ref d]/\H d=some (.dT kvs)/\
  ∀ l (bs:List Addr),H l=none->bs.length=kvs.length->(∀ (i:Nat) b p,bs[i]? = some b->kvs[i]? = some p->H b=some (.tup (p.1.map kV)))->Q (.ref l) (upd H l (.lst (bs.map V.ref)))):=by
 intro pins s σ H xs us Q I r h
 obtain⟨d,kvs,rfl,hH,q⟩:=h
 obtain⟨u,rfl,ru⟩:=vals1 r
 cases ru
 obtain⟨z,lo,xs,rel,o,es,ep,h1,h2,h3,h4,h5,h6⟩:=DI I.hok hH
 have hsz:es.size=kvs.length:=by
  have:=bQ List.length h4
  rw[cM,aa]at this
  rw[this,<-bR rel]
 refine kdl_call (CB lo h2 h3) (I.ok.hd hc) h1 (by rw[hsz];exact z) λh' tk acc c hk hg Ju=>?_
 have el:acc.toList=(xs.map (·.2.1)).map Value.ref:=by
  refine List.ext_getElem? λj=>?_
  have hl:acc.size=xs.length:=by rw[Ju.1,hsz,bR rel]
  by_cases hj:j<xs.length
  ·have hx:acc[j]? = some acc[j]:=eN (by omega)
   obtain⟨e,he,hv⟩:=Ju.2 j _ hx
   rw[<-d8,h4,ao,ag hj]at he
   have he:entryOfKey (tupleKind (gU X.prog X.w)) xs[j]=e:=by simpa using he
   rw[d8,hx,hv,<-he,bJ,ao,ag hj]
   rfl
  ·rw[bB (by rw[cM];omega),bB (by rw[aa,aa];omega)]
 refine⟨.ref s.heap.objs.size,_,I.laid (t':=tk) (o:=.lst ((xs.map (·.2.1)).map V.ref)) (λb ob q=>hk b ob q) (au _) ⟨?_,acc.toList,c,vc el,?_⟩,rfl,q _ (xs.map (·.2.1)) I.fresh ?_ λi b p hb hp=>?_⟩
 ·rw[aa,aa,<-bR rel];exact z
 ·rw[hg,Array.toArray_toList]
 ·rw[aa,bR rel]
 ·obtain⟨y,hy,e1,e2,e3⟩:=pj rel hp
  rw[ao,hy]at hb
  have hb:y.2.1=b:=by simpa using hb
  rw[<-hb];exact e2
end TL
namespace TL
open PySem PySem.Spec PyProof.Rows L2 TS
theorem Ft {es:List Ent}(nd:(es.map (·.1)).Nodup){a b:Ent}(ha:a∈es)(hb:b∈es)(e:a.1=b.1):a=b:=by
 obtain⟨i,hi,rfl⟩:=aR.mp ha
 obtain⟨j,hj,rfl⟩:=aR.mp hb
 have h:(es.map (·.1))[i]'(by rw[aa];exact hi)=(es.map (·.1))[j]'(by rw[aa];exact hj):=by
  rw[dj,dj];exact e
 have:=(cR nd).mp h
 subst this
 rfl
end TL
namespace TL
open PySem L2 PyProof.Rows
def One (l:Ln)(a b:List Int):Prop:=∃ m∈mvs l a,m.2=b
def Gd (l:Ln)(a:List Int):Nat->List Int->Prop
 | 0,b=>b=a
 |k+1,b=>∃ c,Gd l a k c/\One l c b
theorem ze {l:Ln}{ns:List Int}(ok:fG l)(T:fW l ns)(hne:ns≠ []){i:Nat}(hi:(fA l ns i).length=i):∀ (k:Nat) (x:List Int),Gd l ns k x->∃ n,gY (fI (fA l ns i)) x=some n/\n<=k
 | 0,x,h=>by
  have:x=ns:=h
  subst this
  obtain⟨_,h0,_⟩:=sI ok T hne hi
  exact⟨0,h0,by simp⟩
 |k+1,x,⟨b,h1,m,hm,e1⟩=>by
  obtain⟨n,hn,hle⟩:=ze ok T hne hi k b h1
  obtain⟨_,_,hc⟩:=sI ok T hne hi
  obtain⟨n',hn',N8⟩:=hc _ (jy hn) m hm
  rw[e1]at hn'
  exact⟨n',hn',by have:n'<=n+1:=N8;omega⟩
def win (f p:Nat)(t:List Int):List Int:=(t.drop f).take p
theorem B9 {f p i:Nat}{t:List Int}(h:i<p):(win f p t)[i]? = t[f+i]? :=by
 unfold win
 rw[eT h,cE]
theorem Ag (f p:Nat)(t:List Int):(win f p t).Sublist t:=(List.take_sublist _ _).trans (List.drop_sublist _ _)
theorem fW.win {l:Ln}{t:List Int}(T:fW l t)(f p:Nat):fW l (win f p t):=by
 refine⟨λe he=>T.ends e ((Ag f p t).subset he),T.nd.sublist ((Ag f p t).map _),λi x y hx hy=>?_⟩
 have hi:i+1<p:=by
  have:=(af.mp hy).1
  unfold TL.win at this
  rw[bg]at this
  omega
 rw[B9 (by omega)]at hx
 rw[B9 hi]at hy
 exact T.ch (f+i) x y hx (by rw[<-hy];congr 1)
variable {l:Ln}
theorem Gs (ok:fG l){h z:Int}{v:List Int}(T:fW l (h::(v ++ [z]))):One l (h::v) (v ++ [z])/\One l (v ++ [z]) (h::v):=by
 have nd:=T.nd
 rw[aN,aw,List.map_singleton,bu,bx]at nd
 obtain⟨n1,n2,_,n3⟩:=nd
 constructor
 ·refine⟨onM (h::v) z,aG _ (ai.mpr ⟨z,?_,rfl⟩),rfl⟩
  unfold fr
  rw[br]
  have e1:(h::(v ++ [z]))[v.length]? = some ((h::v).getLastD 0):=by
   rw[<-d9,ak (by simp),bc,b9,show(h::v).length-1=v.length by simp,ag (by simp)]
   rfl
  refine⟨T.ch v.length _ z e1 (by rw[cq,av (au _),aV];rfl),?_⟩
  have k1:z/2≠h/2:=λe=>n1 (by rw[<-e];simp)
  have k2:z/2∉v.map (· / 2):=λe=>n3 _ e _ (by simp) rfl
  simp only[aN,aK,Bool.not_eq_true',decide_eq_false_iff_not]
  exact λe=>e.elim k1 k2
 ·refine⟨ll (v ++ [z]) (oth h),az _ (ai.mpr ⟨oth h,?_,rfl⟩),by show oth (oth h)::(v ++ [z]).dropLast=h::v;rw[i6,cm]⟩
  unfold fr
  rw[br]
  obtain⟨y,hy⟩:∃ y,(v ++ [z])[0]? = some y:=⟨_,ag (by simp)⟩
  have e1:(v ++ [z]).headD 0=y:=by
   cases v with
   |nil=>simpa using hy
   |cons a r=>simpa using hy
  rw[e1]
  refine⟨nN ok (T.ch 0 h y rfl (by rw[cq];exact hy)),?_⟩
  rw[qu]
  simp only[Bool.not_eq_true',decide_eq_false_iff_not]
  intro e
  rw[aw,List.map_singleton]at e
  exact n1 e
theorem Gr (ok:fG l){U:List Int}(T:fW l U){f p:Nat}(hp:1<=p)(h:f+1+p<=U.length):One l (win f p U) (win (f+1) p U)/\One l (win (f+1) p U) (win f p U):=by
 have TM:=T.win f (p+1)
 obtain⟨q,rfl⟩:∃ q,p=q+1:=⟨p-1,by omega⟩
 have h1:win f (q+1) U=U[f]::win (f+1) q U:=by
  unfold win
  rw[List.drop_eq_getElem_cons (by omega),List.take_succ_cons]
 have h2:win (f+1) (q+1) U=win (f+1) q U ++ [U[f+1+q]]:=by
  unfold win
  rw[aQ,cE,ag (by omega)]
  rfl
 have h3:win f (q+1+1) U=U[f]::(win (f+1) q U ++ [U[f+1+q]]):=by
  rw[<-h2]
  unfold win
  rw[List.drop_eq_getElem_cons (by omega),List.take_succ_cons]
 rw[h3]at TM
 rw[h1,h2]
 exact Gs ok TM
theorem Cn (ok:fG l){t:List Int}(T:fW l t)(hne:t≠ []){e:Int}(he:e∈fr l t (oth (t.getLastD 0))){f p:Nat}(hp:1<=p)(h:f+p<=t.length):
  One l (win f p t) (win f p (t.drop 1 ++ [e]))/\One l (win f p (t.drop 1 ++ [e])) (win f p t):=by
 have TU:=fW.snoc ok T hne he
 have e1:win f p t=win f p (t ++ [e]):=by
  unfold win
  rw[List.drop_append_of_le_length (by omega),List.take_append_of_le_length (by rw[bS];omega)]
 have e2:win f p (t.drop 1 ++ [e])=win (f+1) p (t ++ [e]):=by
  have:t.drop 1 ++ [e]=(t ++ [e]).drop 1:=by rw[List.drop_append_of_le_length (by omega)]
  unfold win
  rw[this,List.drop_drop,Nat.add_comm 1 f]
 rw[e1,e2]
 exact Gr ok TU hp (by rw[ah,aA];omega)
variable {m:Mv}
theorem Ck (ok:fG l){t:List Int}(T:fW l t)(hne:t≠ [])(hm:m∈mvs l t){f p:Nat}(hp:1<=p)(h:f+p<=t.length):One l (win f p t) (win f p m.2):=by
 have hw:¬(Str.ofString "back")=Str.ofString "on" :=by decide +kernel
 have hmo:=qX ok T hne hm
 rcases ay.mp hm with z |z
 ·obtain⟨e,he,rfl⟩:=ai.mp z
  exact(Cn ok T hne he hp h).1
 ·obtain⟨e,he,rfl⟩:=ai.mp z
  have hb:=vh ok T hne he
  rcases ay.mp hb with y |y
  ·obtain⟨e',he',ee⟩:=ai.mp y
   have et:(oth e::t.dropLast).drop 1 ++ [e']=t:=bQ Prod.snd ee
   have:=(Cn ok hmo.1 hmo.2.2 he' hp (by rw[hmo.2.1];exact h)).2
   have et':((ll t e).2).drop 1 ++ [e']=t:=et
   rw[et']at this
   exact this
  ·obtain⟨e',_,ee⟩:=ai.mp y
   exact absurd (bQ (λm:Mv=>m.1.1) ee) hw
theorem Gd.ok {l:Ln}(ok:fG l){t:List Int}(T:fW l t)(hne:t≠ []):∀ {k:Nat}{b:List Int},Gd l t k b->fW l b/\b.length=t.length/\b≠ []
 | 0,b,h=>by have h:b=t:=h;subst h;exact⟨T,rfl,hne⟩
 |k+1,b,⟨c,h1,m,hm,e⟩=>by
  obtain⟨a1,a2,a3⟩:=Gd.ok ok T hne h1
  have:=qX ok a1 a3 hm
  rw[e]at this
  exact⟨this.1,by omega,this.2.2⟩
theorem Gd.win {l:Ln}(ok:fG l){t:List Int}(T:fW l t)(hne:t≠ []){f p:Nat}(hp:1<=p)(h:f+p<=t.length):∀ {k:Nat}{b:List Int},Gd l t k b->Gd l (win f p t) k (win f p b)
 | 0,b,g=>by have g:b=t:=g;subst g;exact rfl
 |k+1,b,⟨c,h1,m,hm,e⟩=>by
  obtain⟨a1,a2,a3⟩:=Gd.ok ok T hne h1
  refine⟨_,Gd.win ok T hne hp h h1,?_⟩
  rw[<-e]
  exact Ck ok a1 a3 hm hp (by omega)
theorem sq {l:Ln}{ns:List Int}(P:List Int->Prop)(h0:P ns)(hs:∀ t m,P t->m∈mvs l t->P m.2):∀ i,∀ e∈fA l ns i,P e.1
 | 0=>λe he=>by have z:e=(ns,none):=(by simpa [fA]using he);rw[z];exact h0
 |i+1=>by
  have ih:=sq P h0 hs i
  rw[fA]
  split
  ·rename_i e0 he0
   have r0:=ih e0 (ax he0)
   have gen:∀ (ms:List Mv) (o:List Ent),(∀ m∈ms,m∈mvs l e0.1)->(∀ e∈o,P e.1)->∀ e∈gB e0.1 ms o,P e.1:=by
    intro ms
    induction ms with
    |nil=>intro o _ h;exact h
    |cons m ms ihm=>
     intro o hm h
     refine ihm (mJ e0.1 o m) (λx hx=>hm x (aC _ hx)) ?_
     unfold mJ
     split
     ·exact h
     ·intro e he
      rcases ay.mp he with z |z
      ·exact h e z
      ·rw[aZ.mp z]
       exact hs _ m r0 (hm m aB)
   exact gen _ _ (λm hm=>hm) ih
  ·exact ih
open PySem.Spec
abbrev sts (x:List EnS×List Sta):List Sta:=x.1.map (·.1)
theorem jC {α β:Type}{f:α->β}{a b:List α}(h:a <+:b){s:β}(hs:s∈a.map f):s∈b.map f:=by
 obtain⟨c,rfl⟩:=h
 rw[aw];exact aG _ hs
theorem DY {t:List Int}{w:Str}{x:List EnS×List Sta}(hm:m.1.1=w):(m.2,w)∈sts (jK t w x m):=by
 unfold jK
 split
 ·show(m.2,w)∈(x.1 ++ [((m.2,w),some ((t,w),some m.1))]).map (·.1)
  rw[aw];exact az _ (by simp)
 ·rename_i c
  exact dz λz=>c ⟨hm,z⟩
theorem vt {t:List Int}{w:Str} :∀ {ms:List Mv}{x:List EnS×List Sta},∀ m∈ms,m.1.1=w->(m.2,w)∈sts (gI t w ms x)
 |m0::r,x,m,hm,hw=>by
  rcases aK.mp hm with e |e
  ·subst e
   exact jC (lN t w r (jK t w x m)).2 (DY hw)
  ·exact vt (ms:=r) (x:=jK t w x m0) m e hw
theorem yD (l:Ln)(x:List EnS×List Sta)(i:Nat):(goS l x i).2 <+:(goS l x (i+1)).2/\(goS l x i).1 <+:(goS l x (i+1)).1:=by
 rw[goS]
 split
 ·exact lN _ _ _ _
 ·exact⟨bI _,bI _⟩
theorem um (l:Ln)(x:List EnS×List Sta):∀ i j,j<i->∀ s,(goS l x i).2[j]? = some s->∀ m∈mvs l s.1,m.1.1=s.2->(m.2,s.2)∈sts (goS l x i)
 | 0,j,h,_,_,_,_,_=>by omega
 |i+1,j,h,s,hs,m,hm,hw=>by
  have hp:=yD l x i
  by_cases hj:j<(goS l x i).2.length
  ·have hs':(goS l x i).2[j]? = some s:=by
    obtain⟨c,hc⟩:=hp.1
    rw[<-hc,ak hj]at hs
    exact hs
   by_cases e:j=i
   ·subst e
    rw[yE hs']
    exact vt m hm hw
   ·exact jC hp.2 (um l x i j (by omega) s hs' m hm hw)
  ·have hn:(goS l x i).2[i]? = none:=bB (by omega)
   have e:goS l x (i+1)=goS l x i:=by rw[goS,hn]
   rw[e]at hs
   exact absurd (af.mp hs).1 hj
theorem uq {x:List EnS×List Sta}(hl:(goF l x).2.length<=1000):∀ s∈(goF l x).2,∀ m∈mvs l s.1,m.1.1=s.2->(m.2,s.2)∈sts (goF l x):=λs hs m hm hw=>by
 obtain⟨j,hj⟩:=List.mem_iff_getElem?.mp hs
 have hlt:=(af.mp hj).1
 exact um l x 1000 j (aY hlt hl) s hj m hm hw
theorem DX {t:List Int}{w:Str}{x:List EnS×List Sta}{A:Sta->Prop}(h:∀ s∈sts x,A s\/s∈x.2):∀ s∈sts (jK t w x m),A s\/s∈(jK t w x m).2:=by
 unfold jK
 split
 ·intro s hs
  have hs:s∈(x.1 ++ [((m.2,w),some ((t,w),some m.1))]).map (·.1):=hs
  rw[aw]at hs
  rcases ay.mp hs with z |z
  ·exact(h s z).imp id λy=>aG _ y
  ·exact .inr (az _ (by simpa using z))
 ·exact h
theorem vq {t:List Int}{w:Str}{A:Sta->Prop} :∀ {ms:List Mv}{x:List EnS×List Sta},(∀ s∈sts x,A s\/s∈x.2)->∀ s∈sts (gI t w ms x),A s\/s∈(gI t w ms x).2
 |[],_,h=>h
 |m::r,x,h=>vq (ms:=r) (x:=jK t w x m) (DX h)
theorem sD {l:Ln}{x:List EnS×List Sta}{A:Sta->Prop}(h:∀ s∈sts x,A s\/s∈x.2):∀ i,∀ s∈sts (goS l x i),A s\/s∈(goS l x i).2
 | 0=>h
 |i+1=>by
  rw[goS]
  split
  ·exact vq (sD h i)
  ·exact sD h i
theorem yS (x:List EnS×List Sta)(s:Sta):x.1 <+:(iE x s).1/\x.2 <+:(iE x s).2:=by
 unfold iE
 split
 ·exact⟨cU _ _,cU _ _⟩
 ·exact⟨bI _,bI _⟩
theorem qG:∀ (ss:List Sta) (x:List EnS×List Sta),x.1 <+:(ss.foldl iE x).1
 |[],_=>bI _
 |s::r,x=>(yS x s).1.trans (qG r (iE x s))
theorem uB:∀ {ss:List Sta}{x:List EnS×List Sta},∀ s∈ss,(s.1,ow s.2)∈sts (ss.foldl iE x)
 |s0::r,x,s,hs=>by
  rcases aK.mp hs with e |e
  ·subst e
   have h1:(s.1,ow s.2)∈sts (iE x s):=by
    unfold iE
    split
    ·show(s.1,ow s.2)∈(x.1 ++ [(((s.1,ow s.2),some (s,none)):EnS)]).map (λe:EnS=>e.1)
     rw[aw];exact az _ (by simp)
    ·rename_i c
     exact dz c
   exact jC (qG r (iE x s)) h1
  ·exact uB (ss:=r) (x:=iE x s0) s e
theorem uA {A:Sta->Prop} :∀ {ss:List Sta}{x:List EnS×List Sta},(∀ s∈sts x,A s\/s∈x.2)->∀ s∈sts (ss.foldl iE x),A s\/s∈(ss.foldl iE x).2
 |[],_,h=>h
 |s0::r,x,h=>by
  refine uA (ss:=r) (x:=iE x s0) ?_
  unfold iE
  split
  ·intro s hs
   have hs:s∈(x.1 ++ [(((s0.1,ow s0.2),some (s0,none)):EnS)]).map (λe:EnS=>e.1):=hs
   rw[aw]at hs
   rcases ay.mp hs with z |z
   ·exact(h s z).imp id λy=>aG _ y
   ·exact .inr (az _ (by simpa using z))
  ·exact h
theorem uo (l:Ln)(x:List EnS×List Sta):∀ i,x.2 <+:(goS l x i).2
 | 0=>bI _
 |i+1=>(uo l x i).trans (yD l x i).1
structure RC (l:Ln)(tr:List Int)(r:Nat):Prop where
 all:∀ s∈sts (rnd l tr r),(cnt l tr r s).isSome=true\/s∈(rnd l tr r).2
 gy:∀ s,(cnt l tr r s).isSome=true->s∈sts (rnd l tr r)/\(∀ m∈mvs l s.1,m.1.1=s.2->(m.2,s.2)∈sts (rnd l tr r))/\(s.1,ow s.2)∈sts (rnd l tr r)
 st:∀ w,isW w->(tr,w)∈sts (rnd l tr r)
theorem RC.of {l:Ln}{W:List (List Int)}(gy:∀ t∈W,∀ m∈mvs l t,m.2∈W){tr:List Int}(ht:tr∈W)(hW:W.length<=300):∀ r,RC l tr r
 | 0=>⟨λs hs=>.inr hs,λs hs=>by simp[cnt]at hs,λw hw=>by
   have:(tr,w)∈ [(tr,onW),(tr,ij)]:=by
    rcases hw with e |e
    ·rw[e];exact aB
    ·rw[e];exact aC _ aB
   exact this⟩
 |r+1=>by
  have ih:=RC.of gy ht hW r
  have R:=RO.rnd gy ht r
  have RG:RO W (goF l (rnd l tr r)):=RO.go gy R 1000
  have gl:=RG.len
  have gc:∀ s∈(goF l (rnd l tr r)).2,∀ m∈mvs l s.1,m.1.1=s.2->(m.2,s.2)∈sts (goF l (rnd l tr r)):=uq (by omega)
  have gn:∀ s∈sts (goF l (rnd l tr r)),(cnt l tr r s).isSome=true\/s∈(goF l (rnd l tr r)).2:=sD ih.all 1000
  have gp:(rnd l tr r).1 <+:(goF l (rnd l tr r)).1:=px l (rnd l tr r) 1000
  have er:rnd l tr (r+1)=chN (goF l (rnd l tr r)).2 (goF l (rnd l tr r)).1:=by rw[rnd]
  have ec:∀ s,cnt l tr (r+1) s=open Classical in if s∈(goF l (rnd l tr r)).2 then some r else cnt l tr r s:=λs=>by rw[cnt]
  generalize goF l (rnd l tr r)=gg at RG gl gc gn gp er ec
  have cp:gg.1 <+:(rnd l tr (r+1)).1:=by rw[er];exact qG gg.2 (gg.1,[])
  refine⟨λs hs=>?_,λs hs=>?_,λw hw=>jC (gp.trans cp) (ih.st w hw)⟩
  ·have h2:∀ s∈sts (rnd l tr (r+1)),s∈sts gg\/s∈(rnd l tr (r+1)).2:=by
    rw[er]
    exact uA (x:=(gg.1,[])) λs hs=>.inl hs
   rcases h2 s hs with z |z
   ·left
    rw[ec s]
    by_cases hm:s∈gg.2
    ·rw[aM hm];rfl
    ·rw[aH hm];exact(gn s z).resolve_right hm
   ·exact .inr z
  ·rw[ec s]at hs
   by_cases hm:s∈gg.2
   ·refine⟨jC cp (RG.sub s hm),λm hm' hw=>jC cp (gc s hm m hm' hw),?_⟩
    rw[er];exact uB s hm
   ·rw[aH hm]at hs
    obtain⟨h1,h2,h3⟩:=ih.gy s hs
    exact⟨jC (gp.trans cp) h1,λm hm' hw=>jC (gp.trans cp) (h2 m hm' hw),jC (gp.trans cp) h3⟩
theorem RC.full (ok:fG l){tr:List Int}{r:Nat}(h:RC l tr r)(he:(rnd l tr r).2 = [])(i:Nat):∀ e∈fA l tr i,∀ w,isW w->(e.1,w)∈sts (rnd l tr r)/\(cnt l tr r (e.1,w)).isSome=true:=by
 have al:∀ s∈sts (rnd l tr r),(cnt l tr r s).isSome=true:=λs hs=>(h.all s hs).resolve_right (by rw[he];simp)
 have key:=sq (l:=l) (ns:=tr) (λt=>∀ w,isW w->(t,w)∈sts (rnd l tr r)) h.st (λt m ht hm w hw=>by
  have hmw:isW m.1.1:=(m7 ok hm).1
  have h1:=(h.gy _ (al _ (ht m.1.1 hmw))).2.1 m hm rfl
  have h2:=(h.gy _ (al _ h1)).2.2
  have hw2:w=m.1.1\/w=ow m.1.1:=by
   have hn:¬Str.ofString "back" = Str.ofString "on" :=by decide +kernel
   unfold ow
   rcases hw with e |e<;>rcases hmw with f |f
   ·exact .inl (by rw[e,f])
   ·exact .inr (by rw[e,f,aH hn])
   ·exact .inr (by rw[e,f,aM rfl])
   ·exact .inl (by rw[e,f])
  rcases hw2 with e |e
  ·rw[e];exact h1
  ·rw[e];exact h2) i
 exact λe he' w hw=>⟨key e he' w hw,al _ (key e he' w hw)⟩
theorem rO {t:List Int}{w:Str}{x0:List EnS×List Sta} :∀ {ms:List Mv}{x:List EnS×List Sta},(∀ s∈sts x0,s∈sts x)->(∀ s∈x.2,s∈x0.2\/s∉sts x0)->∀ s∈(gI t w ms x).2,s∈x0.2\/s∉sts x0
 |[],_,_,h=>h
 |m::r,x,h0,h=>by
  refine rO (ms:=r) (x:=jK t w x m) (λs hs=>jC (uG t w x m).2 (h0 s hs)) ?_
  unfold jK
  split
  ·rename_i c
   intro s hs
   rcases ay.mp hs with z |z
   ·exact h s z
   ·rw[aZ.mp z]
    exact .inr λy=>c.2 (h0 _ y)
  ·exact h
theorem pz {l:Ln}{x:List EnS×List Sta} :∀ i,∀ s∈(goS l x i).2,s∈x.2\/s∉sts x
 | 0=>λs hs=>.inl hs
 |i+1=>by
  rw[goS]
  split
  ·exact rO (λs hs=>jC (px l x i) hs) (pz i)
  ·exact pz i
theorem uC {x0:List EnS×List Sta} :∀ {ss:List Sta}{x:List EnS×List Sta},(∀ s∈sts x0,s∈sts x)->(∀ s∈x.2,s∉sts x0)->∀ s∈(ss.foldl iE x).2,s∉sts x0
 |[],_,_,h=>h
 |s0::r,x,h0,h=>by
  refine uC (ss:=r) (x:=iE x s0) (λs hs=>jC (yS x s0).1 (h0 s hs)) ?_
  unfold iE
  split
  ·rename_i c
   intro s hs
   rcases ay.mp hs with z |z
   ·exact h s z
   ·rw[aZ.mp z]
    exact λy=>c (h0 _ y)
  ·exact h
structure CI (l:Ln)(tr:List Int)(r:Nat):Prop where
 fresh:∀ s∈(rnd l tr r).2,cnt l tr r s=none
 lt:∀ s n,cnt l tr r s=some n->n<r
 mv:∀ s n m,cnt l tr r s=some n->m∈mvs l s.1->m.1.1=s.2->∃ n',cnt l tr r (m.2,s.2)=some n'/\n'<=n
 ch:∀ s n,cnt l tr r s=some n->(∃ n',cnt l tr r (s.1,ow s.2)=some n'/\n'<=n+1)\/((s.1,ow s.2)∈(rnd l tr r).2/\n+1=r)
 st:1<=r->∀ w,isW w->cnt l tr r (tr,w)=some 0
theorem CI.of {l:Ln}{W:List (List Int)}(gy:∀ t∈W,∀ m∈mvs l t,m.2∈W){tr:List Int}(ht:tr∈W)(hW:W.length<=300):∀ r,CI l tr r
 | 0=>⟨λs _=>rfl,λs n h=>(by cases h),λs n m h=>(by cases h),λs n h=>(by cases h),λh=>(by omega)⟩
 |r+1=>by
  have ih:=CI.of gy ht hW r
  have rc:=RC.of gy ht hW r
  have R:=RO.rnd gy ht r
  have RG:RO W (goF l (rnd l tr r)):=RO.go gy R 1000
  have gl:=RG.len
  have gc:∀ s∈(goF l (rnd l tr r)).2,∀ m∈mvs l s.1,m.1.1=s.2->(m.2,s.2)∈sts (goF l (rnd l tr r)):=uq (by omega)
  have gn:∀ s∈sts (goF l (rnd l tr r)),(cnt l tr r s).isSome=true\/s∈(goF l (rnd l tr r)).2:=sD rc.all 1000
  have gp:(rnd l tr r).1 <+:(goF l (rnd l tr r)).1:=px l (rnd l tr r) 1000
  have gp2:(rnd l tr r).2 <+:(goF l (rnd l tr r)).2:=uo l (rnd l tr r) 1000
  have gf:∀ s∈(goF l (rnd l tr r)).2,s∈(rnd l tr r).2\/s∉sts (rnd l tr r):=pz 1000
  have er:rnd l tr (r+1)=chN (goF l (rnd l tr r)).2 (goF l (rnd l tr r)).1:=by rw[rnd]
  have ec:∀ s,cnt l tr (r+1) s=open Classical in if s∈(goF l (rnd l tr r)).2 then some r else cnt l tr r s:=λs=>by rw[cnt]
  generalize goF l (rnd l tr r)=gg at RG gl gc gn gp gp2 gf er ec
  have unc:∀ s∈gg.2,cnt l tr r s=none:=λs hs=>by
   rcases gf s hs with z |z
   ·exact ih.fresh s z
   ·cases h:cnt l tr r s with
    |none=>rfl
    |some n=>exact absurd (rc.gy s (by rw[h];rfl)).1 z
  have lD:∀ s n,cnt l tr r s=some n->cnt l tr (r+1) s=some n:=λs n h=>by
   rw[ec s,aH (λz=>by rw[unc s z]at h;cases h)];exact h
  have now:∀ s∈gg.2,cnt l tr (r+1) s=some r:=λs hs=>by rw[ec s,aM hs]
  have inG:∀ s∈sts gg,∃ n',cnt l tr (r+1) s=some n'/\n'<=r:=λs hs=>by
   rcases gn s hs with z |z
   ·obtain⟨n,hn⟩:=cK.mp z
    exact⟨n,lD s n hn,bO (ih.lt s n hn)⟩
   ·exact⟨r,now s z,au _⟩
  have two:∀ s n,cnt l tr (r+1) s=some n->(s∈gg.2/\n=r)\/cnt l tr r s=some n:=λs n h=>by
   by_cases hm:s∈gg.2
   ·rw[now s hm]at h;cases h;exact .inl ⟨hm,rfl⟩
   ·rw[ec s,aH hm]at h;exact .inr h
  refine⟨λs hs=>?_,λs n h=>?_,λs n m h hm hw=>?_,λs n h=>?_,λ_ w hw=>?_⟩
  ·have hf:s∉sts gg:=by
    rw[er]at hs
    exact uC (x0:=gg) (x:=(gg.1,[])) (λs hs=>hs) (λs hs=>by cases hs) s hs
   rw[ec s,aH (λz=>hf (RG.sub s z))]
   cases h:cnt l tr r s with
   |none=>rfl
   |some n=>exact absurd (jC gp (rc.gy s (by rw[h];rfl)).1) hf
  ·rcases two s n h with⟨_,e⟩|z
   ·omega
   ·have:=ih.lt s n z;omega
  ·rcases two s n h with⟨hs,e⟩|z
   ·obtain⟨n',h1,h2⟩:=inG _ (gc s hs m hm hw)
    exact⟨n',h1,by omega⟩
   ·obtain⟨n',h1,h2⟩:=ih.mv s n m z hm hw
    exact⟨n',lD _ _ h1,h2⟩
  ·rcases two s n h with⟨hs,e⟩|z
   ·have h2:∀ s∈sts (rnd l tr (r+1)),s∈sts gg\/s∈(rnd l tr (r+1)).2:=by
     rw[er]
     exact uA (x:=(gg.1,[])) λs hs=>.inl hs
    have h3:(s.1,ow s.2)∈sts (rnd l tr (r+1)):=by rw[er];exact uB s hs
    rcases h2 _ h3 with y |y
    ·obtain⟨n',h1,h4⟩:=inG _ y
     exact .inl ⟨n',h1,by omega⟩
    ·exact .inr ⟨y,by omega⟩
   ·rcases ih.ch s n z with⟨n',h1,h2⟩|⟨y,e⟩
    ·exact .inl ⟨n',lD _ _ h1,h2⟩
    ·obtain⟨c,hc⟩:=gp2
     exact .inl ⟨r,now _ (by rw[<-hc];exact aG _ y),by omega⟩
  ·by_cases hr:r=0
   ·subst hr
    obtain⟨c,hc⟩:=gp2
    refine now _ (by
     rw[<-hc]
     refine aG _ ?_
     have:(tr,w)∈ [(tr,onW),(tr,ij)]:=by
      rcases hw with e |e
      ·rw[e];exact aB
      ·rw[e];exact aC _ aB
     exact this)
   ·exact lD _ _ (ih.st (by omega) w hw)
def MvE (l:Ln)(s:Sta)(b:Bk)(A:Sta->Prop):Prop:=∃ s' k,b=some (s',some k)/\A s'/\A s/\s'.2=s.2/\k.1=s.2/\(k,s.1)∈mvs l s'.1
variable {s:Sta}
theorem MvE.imp {b:Bk}{A B:Sta->Prop}(f:∀ t,A t->B t)(h:MvE l s b A):MvE l s b B:=by
 obtain⟨s',k,h1,h2,h3,h4⟩:=h
 exact⟨s',k,h1,f _ h2,f _ h3,h4⟩
theorem vy {l:Ln}{t:List Int}{w:Str}{B:EnS->Prop} :∀ {ms:List Mv}{x:List EnS×List Sta},(∀ m∈ms,m∈mvs l t)->(t,w)∈x.2->(∀ e∈x.1,B e\/MvE l e.1 e.2 (· ∈x.2))->∀ e∈(gI t w ms x).1,B e\/MvE l e.1 e.2 (· ∈(gI t w ms x).2)
 |[],_,_,_,h=>h
 |m::r,x,hm,ht,h=>by
  have hp:=uG t w x m
  have up:∀ s∈x.2,s∈(jK t w x m).2:=λs hs=>by obtain⟨c,hc⟩:=hp.1;rw[<-hc];exact aG _ hs
  refine vy (ms:=r) (x:=jK t w x m) (λy hy=>hm y (aC _ hy)) (up _ ht) ?_
  intro e he
  by_cases c:m.1.1=w/\(m.2,w)∉x.1.map (·.1)
  ·have ea:jK t w x m=(x.1 ++ [((m.2,w),some ((t,w),some m.1))],x.2 ++ [(m.2,w)]):=by unfold jK;rw[aM c]
   rw[ea]at he ⊢
   rcases ay.mp he with z |z
   ·exact(h e z).imp id λy=>y.imp λs hs=>aG _ hs
   ·rw[aZ.mp z]
    exact .inr ⟨(t,w),m.1,rfl,aG _ ht,az _ (by simp),rfl,c.1,hm m aB⟩
  ·have ea:jK t w x m=x:=by unfold jK;rw[aH c]
   rw[ea]at he ⊢
   exact h e he
theorem xg {l:Ln}{x:List EnS×List Sta} :∀ i,∀ e∈(goS l x i).1,e∈x.1\/MvE l e.1 e.2 (· ∈(goS l x i).2)
 | 0=>λe he=>.inl he
 |i+1=>by
  rw[goS]
  split
  ·rename_i s hs
   exact vy (B:=λe=>e∈x.1) (λm hm=>hm) (ax hs) (xg i)
  ·exact xg i
theorem yQ {B:EnS->Prop} :∀ {ss:List Sta}{x:List EnS×List Sta},∀ {A:Sta->Prop},(∀ s∈ss,A s)->(∀ e∈x.1,B e\/∃ s',A s'/\e=((s'.1,ow s'.2),some (s',none))/\e.1∈x.2)->∀ e∈(ss.foldl iE x).1,B e\/∃ s',A s'/\e=((s'.1,ow s'.2),some (s',none))/\e.1∈(ss.foldl iE x).2
 |[],_,_,_,h=>h
 |s0::r,x,A,hA,h=>by
  refine yQ (ss:=r) (x:=iE x s0) (A:=A) (λs hs=>hA s (aC _ hs)) ?_
  intro e he
  by_cases c:(s0.1,ow s0.2)∉x.1.map (·.1)
  ·have ea:iE x s0=(x.1 ++ [((s0.1,ow s0.2),some (s0,none))],x.2 ++ [(s0.1,ow s0.2)]):=by unfold iE;rw[aM c]
   rw[ea]at he ⊢
   rcases ay.mp he with z |z
   ·exact(h e z).imp id λ⟨s',h1,h2,h3⟩=>⟨s',h1,h2,aG _ h3⟩
   ·rw[aZ.mp z]
    exact .inr ⟨s0,hA s0 aB,rfl,az _ (by simp)⟩
  ·have ea:iE x s0=x:=by unfold iE;rw[aH c]
   rw[ea]at he ⊢
   exact h e he
inductive EE (l:Ln) (tr:List Int) (r:Nat):Sta->Bk->Prop
 |beg {s:Sta} :s.1=tr->isW s.2->EE l tr r s none
 |mv {s s':Sta}{k:Str×Int}{n:Nat} :s'.2=s.2->k.1=s.2->(k,s.1)∈mvs l s'.1->cnt l tr r s=some n->cnt l tr r s'=some n->EE l tr r s (some (s',some k))
 |ch {s s':Sta}{n:Nat} :s=(s'.1,ow s'.2)->cnt l tr r s'=some n->(cnt l tr r s=some (n+1)\/(s∈(rnd l tr r).2/\n+1=r))->EE l tr r s (some (s',none))
theorem EE.of {l:Ln}{W:List (List Int)}(gy:∀ t∈W,∀ m∈mvs l t,m.2∈W){tr:List Int}(ht:tr∈W)(hW:W.length<=300):∀ r,∀ e∈(rnd l tr r).1,EE l tr r e.1 e.2
 | 0=>λe he=>by
  have he:e=((tr,onW),none)\/e=((tr,ij),none):=by
   have:e∈ [((tr,onW),(none:Bk)),((tr,ij),none)]:=he
   simpa using this
  rcases he with z |z
  ·rw[z];exact .beg rfl (.inl rfl)
  ·rw[z];exact .beg rfl (.inr rfl)
 |r+1=>by
  have ih:=EE.of gy ht hW r
  have ci:=CI.of gy ht hW r
  have ci':=CI.of gy ht hW (r+1)
  have rc:=RC.of gy ht hW r
  have ge:∀ e∈(goF l (rnd l tr r)).1,e∈(rnd l tr r).1\/MvE l e.1 e.2 (· ∈(goF l (rnd l tr r)).2):=xg 1000
  have gp2:(rnd l tr r).2 <+:(goF l (rnd l tr r)).2:=uo l (rnd l tr r) 1000
  have gf:∀ s∈(goF l (rnd l tr r)).2,s∈(rnd l tr r).2\/s∉sts (rnd l tr r):=pz 1000
  have er:rnd l tr (r+1)=chN (goF l (rnd l tr r)).2 (goF l (rnd l tr r)).1:=by rw[rnd]
  have ec:∀ s,cnt l tr (r+1) s=open Classical in if s∈(goF l (rnd l tr r)).2 then some r else cnt l tr r s:=λs=>by rw[cnt]
  generalize goF l (rnd l tr r)=gg at ge gp2 gf er ec
  have unc:∀ s∈gg.2,cnt l tr r s=none:=λs hs=>by
   rcases gf s hs with z |z
   ·exact ci.fresh s z
   ·cases h:cnt l tr r s with
    |none=>rfl
    |some n=>exact absurd (rc.gy s (by rw[h];rfl)).1 z
  have lD:∀ s n,cnt l tr r s=some n->cnt l tr (r+1) s=some n:=λs n h=>by
   rw[ec s,aH (λz=>by rw[unc s z]at h;cases h)];exact h
  have now:∀ s∈gg.2,cnt l tr (r+1) s=some r:=λs hs=>by rw[ec s,aM hs]
  have all:∀ e∈(rnd l tr (r+1)).1,e∈gg.1\/∃ s',s'∈gg.2/\e=((s'.1,ow s'.2),some (s',none))/\e.1∈(rnd l tr (r+1)).2:=by
   rw[er]
   exact yQ (B:=λe=>e∈gg.1) (x:=(gg.1,[])) (A:=λs=>s∈gg.2) (λs hs=>hs) λe he=>.inl he
  intro e he
  rcases all e he with z |⟨s',hs',ee,hp⟩
  ·rcases ge e z with y |⟨s',k,h1,h2,h3,h4,h5,h6⟩
   ·have old:=ih e y
    cases hb:e.2 with
    |none=>
     rw[hb]at old
     cases old with
     |beg a b=>exact .beg a b
    |some q=>
     rw[hb]at old
     cases old with
     |mv a b c d f=>exact .mv a b c (lD _ _ d) (lD _ _ f)
     |ch a b c=>
      refine .ch a (lD _ _ b) (.inl ?_)
      rcases c with c |⟨c,e'⟩
      ·exact lD _ _ c
      ·obtain⟨cc,hc⟩:=gp2
       rw[now _ (by rw[<-hc];exact aG _ c),e']
   ·rw[h1]
    exact .mv h4 h5 h6 (now _ h3) (now _ h2)
  ·subst ee
   exact .ch rfl (now _ hs') (.inr ⟨hp,rfl⟩)
def jJ:List Str->Nat
 |[]=>0
 |[_]=>0
 |a::b::r=>(if a=b then 0 else 1)+jJ (b::r)
theorem rz:∀ (ws:List Str) (x w:Str),jJ (ws ++ [x] ++ [w])=jJ (ws ++ [x])+(if x=w then 0 else 1)
 |[],x,w=>by simp[jJ]
 |[a],x,w=>by simp only[d9,eu,jJ];omega
 |a::b::r,x,w=>by
  have ih:=rz (b::r) x w
  simp only[d9,jJ]at ih ⊢
  omega
theorem yI {es:List EnS}(nd:(es.map (·.1)).Nodup){a b:Bk}(h1:(s,a)∈es)(h2:(s,b)∈es):a=b:=by
 induction es with
 |nil=>cases h1
 |cons e r ih=>
  rw[aN,bu]at nd
  rcases aK.mp h1 with z |z<;>rcases aK.mp h2 with y |y
  ·rw[<-z]at y;exact(bQ Prod.snd y).symm
  ·exact absurd (eC (f:=(·.1)) y) (by rw[<-z]at nd;exact nd.1)
  ·exact absurd (eC (f:=(·.1)) z) (by rw[<-y]at nd;exact nd.1)
  ·exact ih nd.2 z y
variable {n:Nat}{run:List (Str×Int)}
section
variable {l:Ln}{W:List (List Int)}{tr:List Int}{r:Nat}
theorem Ax:∀ r,(r0 tr).1 <+:(rnd l tr r).1
 | 0=>bI _
 |r+1=>by
  have ih:=Ax r
  have gp:(rnd l tr r).1 <+:(goF l (rnd l tr r)).1:=px l (rnd l tr r) 1000
  have er:rnd l tr (r+1)=chN (goF l (rnd l tr r)).2 (goF l (rnd l tr r)).1:=by rw[rnd]
  generalize goF l (rnd l tr r)=gg at gp er
  rw[er]
  exact ih.trans (gp.trans (qG gg.2 (gg.1,[])))
theorem FK (gy:∀ t∈W,∀ m∈mvs l t,m.2∈W)(ht:tr∈W)(hW:W.length<=300)(h:cnt l tr r s=some n):s∈sts (rnd l tr r):=((RC.of gy ht hW r).gy s (by rw[h];rfl)).1
theorem kr.way (gy:∀ t∈W,∀ m∈mvs l t,m.2∈W)(ht:tr∈W)(hW:W.length<=300)(h:kr (rnd l tr r).1 s run):∃ bs,Way l tr run bs/\bs[run.length]? = some s.1:=by
 have ee:=EE.of gy ht hW r
 induction h with
 |@nil s hm=>
  have:=ee _ hm
  cases this with
  |beg a b=>exact⟨[tr],⟨rfl,rfl,λj k b b' hk=>by simp at hk⟩,by rw[a];rfl⟩
 |@ch s s' run hm _ ih=>
  have:=ee _ hm
  cases this with
  |ch a b c=>
   obtain⟨bs,W,hb⟩:=ih
   have a:s=(s'.1,ow s'.2):=a
   exact⟨bs,W,by rw[hb,a]⟩
 |@mv s s' k run hm _ ih=>
  have:=ee _ hm
  cases this with
  |mv a b c d f=>
   obtain⟨bs,W,hb⟩:=ih
   refine⟨bs ++ [s.1],W.snoc (m:=(k,s.1)) hb c,?_⟩
   rw[ah,aA,av (by rw[W.len];exact au _),W.len,aV]
   rfl
theorem kr.chg (gy:∀ t∈W,∀ m∈mvs l t,m.2∈W)(ht:tr∈W)(hW:W.length<=300)(he:(rnd l tr r).2 = [])(h:kr (rnd l tr r).1 s run):∀ n,cnt l tr r s=some n->
  (run = []/\n=0/\(s,none)∈(rnd l tr r).1)\/(∃ k run',run=run' ++ [k]/\k.1=s.2/\jJ (run.map (·.1))=n/\∃ s',(s,some (s',some k))∈(rnd l tr r).1)\/(∃ k run',run=run' ++ [k]/\k.1=ow s.2/\jJ (run.map (·.1))+1=n/\∃ s',(s,some (s',none))∈(rnd l tr r).1):=by
 have ee:=EE.of gy ht hW r
 have ci:=CI.of gy ht hW r
 have RN:=RO.rnd gy ht r
 have hr:1<=r:=by
  cases r with
  |zero=>simp[rnd,r0]at he
  |succ r=>omega
 have hw:∀ {s b},(s,b)∈(rnd l tr r).1->isW s.2:=λ{s b} hm=>(RN.inW s (eC (f:=(·.1)) hm)).2
 have beg:∀ w,isW w->((tr,w),none)∈(rnd l tr r).1:=λw hw=>by
  obtain⟨c,hc⟩:=Ax (l:=l) (tr:=tr) r
  rw[<-hc]
  refine aG _ ?_
  rcases hw with e |e
  ·rw[e];exact aB
  ·rw[e];exact aC _ aB
 have snoc:∀ (run':List (Str×Int)) (k k':Str×Int),jJ ((run' ++ [k'] ++ [k]).map (·.1))=jJ ((run' ++ [k']).map (·.1))+(if k'.1=k.1 then 0 else 1):=λrun' k k'=>by
  rw[aw,aw]
  exact rz _ _ _
 induction h with
 |@nil s hm=>
  intro n hn
  have:=ee _ hm
  cases this with
  |beg a b=>
   have e:s=(tr,s.2):=cO a rfl
   rw[e,ci.st hr s.2 b]at hn
   cases hn
   exact .inl ⟨rfl,rfl,hm⟩
 |@ch s s' run hm _ ih=>
  intro n hn
  have:=ee _ hm
  cases this with
  |ch a b c=>
   rename_i n'
   have a:s=(s'.1,ow s'.2):=a
   have c:cnt l tr r s=some (n'+1):=c.resolve_right λz=>by rw[he]at z;cases z.1
   rw[c]at hn
   cases hn
   rcases ih n' b with⟨_,_,z⟩|⟨k,run',e1,e2,e3,s2,z⟩|⟨k,run',e1,e2,e3,s2,z⟩
   ·have h1:s'.1=tr:=by
     have:=ee _ z
     cases this with
     |beg a b=>exact a
    have h2:=beg (ow s'.2) (hw z).ow
    have e9:(tr,ow s'.2)=s:=by rw[a,h1]
    rw[e9]at h2
    exact absurd (yI RN.nd hm h2) (by intro y;cases y)
   ·refine .inr (.inr ⟨k,run',e1,?_,by rw[e3],s',hm⟩)
    rw[e2,a]
    exact(CT (hw z)).symm
   ·exfalso
    have:=ee _ z
    cases this with
    |ch a2 b2 c2=>
     rename_i n2
     have a2:s'=(s2.1,ow s2.2):=a2
     have c2:cnt l tr r s'=some (n2+1):=c2.resolve_right λz=>by rw[he]at z;cases z.1
     have hs2:isW s2.2:=by
      have h3:=hw z
      have:(s2.1,ow s2.2).2=s'.2:=by rw[<-a2]
      have hin:=(FK gy ht hW b2)
      exact(RN.inW s2 hin).2
     have e:s=s2:=by
      rw[a,a2]
      exact cO rfl (CT hs2)
     rw[e]at c
     rw[b2]at c
     rw[b]at c2
     have c:=aU c
     have c2:=aU c2
     omega
 |@mv s s' k run hm _ ih=>
  intro n hn
  have:=ee _ hm
  cases this with
  |mv a b c d f=>
   rename_i n'
   rw[d]at hn
   cases hn
   refine .inr (.inl ⟨k,run,rfl,b,?_,s',hm⟩)
   rcases ih n f with⟨e1,e2,_⟩|⟨k',run',e1,e2,e3,_⟩|⟨k',run',e1,e2,e3,_,z⟩
   ·rw[e1,e2];rfl
   ·rw[e1]at e3 ⊢
    rw[snoc,aM (by rw[e2,b];exact a),e3]
    rfl
   ·rw[e1]at e3 ⊢
    have hne:¬k'.1=k.1:=by
     rw[e2,b,<-a]
     exact IH (hw z)
    rw[snoc,aH hne]
    exact e3
end
section
variable {l:Ln}{W:List (List Int)}{tr:List Int}{r:Nat}
theorem Aw (he:(rnd l tr r).2 = []):1<=r:=by
 cases r with
 |zero=>simp[rnd,r0]at he
 |succ r=>omega
theorem HI (gy:∀ t∈W,∀ m∈mvs l t,m.2∈W)(ht:tr∈W)(hW:W.length<=300)(he:(rnd l tr r).2 = [])(h:cnt l tr r s=some n):∃ n',cnt l tr r (s.1,ow s.2)=some n'/\n'<=n+1:=
 ((CI.of gy ht hW r).ch s n h).resolve_right λz=>by rw[he]at z;cases z.1
theorem Ah (ok:fG l)(gy:∀ t∈W,∀ m∈mvs l t,m.2∈W)(ht:tr∈W)(hW:W.length<=300)(he:(rnd l tr r).2 = []){run:List (Str×Int)}{bs:List (List Int)}(h:Way l tr run bs):
  ∀ j,j+1<=run.length->∃ k b n,run[j]? = some k/\bs[j+1]? = some b/\isW k.1/\cnt l tr r (b,k.1)=some n/\n<=jJ ((run.take (j+1)).map (·.1))
 | 0,hj=>by
  have ci:=CI.of gy ht hW r
  have hr:run[0]? = some run[0]:=ag (by omega)
  have hb:bs[1]? = some (bs[1]'(by rw[h.len];omega)):=ag _
  have hm:=h.step 0 _ _ _ hr h.first hb
  have hw:isW run[0].1:=(m7 ok hm).1
  obtain⟨n',h1,h2⟩:=ci.mv (tr,run[0].1) 0 _ (ci.st (Aw he) _ hw) hm rfl
  exact⟨_,_,n',hr,hb,hw,h1,by omega⟩
 |j+1,hj=>by
  obtain⟨k,b,n,h1,h2,h3,h4,h5⟩:=Ah ok gy ht hW he h j (by omega)
  have ci:=CI.of gy ht hW r
  have hr:run[j+1]? = some run[j+1]:=ag (by omega)
  have hb:bs[j+1+1]? = some (bs[j+1+1]'(by rw[h.len];omega)):=ag _
  have hm:=h.step (j+1) _ _ _ hr h2 hb
  have hw:isW run[j+1].1:=(m7 ok hm).1
  have et:(run.take (j+1+1)).map (·.1)=(run.take j).map (·.1) ++ [k.1] ++ [run[j+1].1]:=by
   rw[aQ,aQ,h1,hr]
   simp
  have et1:(run.take (j+1)).map (·.1)=(run.take j).map (·.1) ++ [k.1]:=by
   rw[aQ,h1]
   simp
  have ec:jJ ((run.take (j+1+1)).map (·.1))=jJ ((run.take (j+1)).map (·.1))+(if k.1=run[j+1].1 then 0 else 1):=by
   rw[et,et1];exact rz _ _ _
  rw[ec]
  by_cases e:k.1=run[j+1].1
  ·obtain⟨n',g1,g2⟩:=ci.mv (b,k.1) n _ h4 hm e.symm
   rw[e]at g1
   refine⟨_,_,n',hr,hb,hw,g1,?_⟩
   rw[aM e];omega
  ·have eo:ow k.1=run[j+1].1:=by
    have hn:¬Str.ofString "back" = Str.ofString "on" :=by decide +kernel
    unfold ow
    rcases h3 with f |f<;>rcases hw with g |g
    ·exact absurd (by rw[f,g]) e
    ·rw[f,aM rfl,g]
    ·rw[f,aH hn,g]
    ·exact absurd (by rw[f,g]) e
   obtain⟨n1,g1,g2⟩:=HI gy ht hW he h4
   have g1:cnt l tr r (b,ow k.1)=some n1:=g1
   rw[eo]at g1
   obtain⟨n2,g3,g4⟩:=ci.mv (b,run[j+1].1) n1 _ g1 hm rfl
   refine⟨_,_,n2,hr,hb,hw,g3,?_⟩
   rw[aH e];omega
end
theorem II {P:Program}{w:World}{K:PySem.W.Frag}{mg:Str->Option Value}{od:Addr}{t1 t2 t3 t4:Tok}{ep:Nat}(hm:mg "OTHER_WORD" = some (.ref od))
  (hk:K.lookup od=some {cls:=.type "dict",data:=.dict #[⟨PyData.keyHash w.params (Str.ofString "on"),.str (Str.ofString "on") t1,.str (Str.ofString "back") t2⟩,⟨PyData.keyHash w.params (Str.ofString "back"),.str (Str.ofString "back") t3,.str (Str.ofString "on") t4⟩] ep}):FD P w K mg od:=by
 refine⟨hm,λh hK=>⟨t2,t4,_,_,ep,hK od _ hk,⟨rfl,rfl,rfl⟩,rfl,?_,?_,?_⟩⟩
 ·intro e he
  have he:e=⟨PyData.keyHash w.params (Str.ofString "on"),.str (Str.ofString "on") t1,.str (Str.ofString "back") t2⟩\/e=⟨PyData.keyHash w.params (Str.ofString "back"),.str (Str.ofString "back") t3,.str (Str.ofString "on") t4⟩:=by simpa using he
  rcases he with z |z
  ·rw[z];exact⟨.inr (Str.ofString "on"),oA (P:=P) (w:=w) (k:=.inr (Str.ofString "on")) ⟨t1,rfl⟩,rfl⟩
  ·rw[z];exact⟨.inr (Str.ofString "back"),oA (P:=P) (w:=w) (k:=.inr (Str.ofString "back")) ⟨t3,rfl⟩,rfl⟩
 ·exact .cons (oA (P:=P) (w:=w) (k:=.inr (Str.ofString "on")) ⟨t1,rfl⟩) rfl (.cons (oA (P:=P) (w:=w) (k:=.inr (Str.ofString "back")) ⟨t3,rfl⟩) rfl .nil)
 ·have hn:¬(Sum.inr (Str.ofString "on"):Key) = .inr (Str.ofString "back"):=by decide +kernel
  simp[hn]
def chp (ws:List Str):Nat->Bool:=λi=> !decide (ws[i]? = ws[i+1]?)
def chg (ws:List Str):Nat:=((List.range (ws.length-1)).filter (chp ws)).length
theorem zZ:∀ ws:List Str,chg ws=jJ ws
 |[]=>rfl
 |[_]=>rfl
 |a::b::r=>by
  have ih:=zZ (b::r)
  unfold chg at ih ⊢
  have e1:(a::b::r).length-1=r.length+1:=by simp
  have e2:(b::r).length-1=r.length:=by simp
  rw[e2]at ih
  rw[e1,List.range_succ_eq_map,List.filter_cons,List.filter_map,jJ]
  have e3:(chp (a::b::r) ∘ Nat.succ)=chp (b::r):=by
   funext i
   show(!decide ((a::b::r)[i+1]? = (a::b::r)[i+1+1]?))=_
   rw[cq,cq]
   rfl
  rw[e3]
  have e4:chp (a::b::r) 0 = !decide (a=b):=by
   unfold chp
   simp
  rw[e4]
  by_cases h:a=b
  ·rw[aM h,bG h]
   simp only[cL,bK,cD,aa]
   omega
  ·rw[aH h,bo h]
   simp only[Bool.not_false,eG,aO,aa]
   omega
section
variable {l:Ln}{W:List (List Int)}{tr:List Int}{r:Nat}
theorem kr.few (gy:∀ t∈W,∀ m∈mvs l t,m.2∈W)(ht:tr∈W)(hW:W.length<=300)(he:(rnd l tr r).2 = [])(h:kr (rnd l tr r).1 s run){n':Nat}(h1:cnt l tr r s=some n)(h2:cnt l tr r (s.1,ow s.2)=some n')(le:n<=n'):jJ (run.map (·.1))=n:=by
 rcases h.chg gy ht hW he n h1 with⟨e,hn,_⟩|⟨_,_,_,_,e,_⟩|⟨k,run',_,_,e,s',hm⟩
 ·rw[e,hn];rfl
 ·exact e
 ·exfalso
  have ee:=EE.of gy ht hW r _ hm
  cases ee with
  |ch a b c=>
   rename_i n2
   have a:s=(s'.1,ow s'.2):=a
   have c:cnt l tr r s=some (n2+1):=c.resolve_right λz=>by rw[he]at z;cases z.1
   have hs':isW s'.2:=((RO.rnd gy ht r).inW s' (FK gy ht hW b)).2
   have e2:(s.1,ow s.2)=s':=by
    rw[a]
    exact cO rfl (CT hs')
   rw[e2,b]at h2
   rw[h1]at c
   have h2:=aU h2
   have c:=aU c
   omega
theorem Ei (ok:fG l)(gy:∀ t∈W,∀ m∈mvs l t,m.2∈W)(ht:tr∈W)(hW:W.length<=300)(he:(rnd l tr r).2 = []){bs:List (List Int)}(h:Way l tr run bs){gs:List Int}(hg:bs[run.length]? = some gs):∃ w n,isW w/\cnt l tr r (gs,w)=some n/\n<=jJ (run.map (·.1)):=by
 by_cases z:run.length=0
 ·rw[z,h.first]at hg
  cases hg
  exact⟨onW,0,.inl rfl,(CI.of gy ht hW r).st (Aw he) _ (.inl rfl),aP _⟩
 ·obtain⟨k,b,n,_,h2,h3,h4,h5⟩:=Ah ok gy ht hW he h (run.length-1) (by omega)
  rw[show run.length-1+1=run.length by omega]at h2 h5
  rw[hg]at h2
  cases h2
  rw[bf]at h5
  exact⟨k.1,n,h3,h4,h5⟩
theorem CS {es:List EnS}(nd:(es.map (·.1)).Nodup)(bk:hX es)(h:kr es s run):∀ (j:Nat) e,es[j]? = some e->e.1=s->run.length<=j:=by
 have one:∀ {j:Nat}{e:EnS}{b:Bk}{s:Sta},es[j]? = some e->e.1=s->(s,b)∈es->e=(s,b):=λ{j e b s} h1 h2 h3=>by
  have h4:(s,e.2)∈es:=by rw[<-h2];exact ax h1
  have:=yI nd h4 h3
  rw[<-this,<-h2]
 induction h with
 |nil _=>exact λj e _ _=>aP _
 |@ch s s' r hm _ ih=>
  intro j e he ee
  rw[one he ee hm]at he
  obtain⟨i,e1,hi,he1,e2⟩:=bk.back j s s' _ he
  have:=ih i e1 he1 e2
  omega
 |@mv s s' k r hm _ ih=>
  intro j e he ee
  rw[one he ee hm]at he
  obtain⟨i,e1,hi,he1,e2⟩:=bk.back j s s' _ he
  have:=ih i e1 he1 e2
  rw[ah,aA]
  omega
theorem kr.len (gy:∀ t∈W,∀ m∈mvs l t,m.2∈W)(ht:tr∈W)(hW:W.length<=300)(h:kr (rnd l tr r).1 s run):run.length<=600:=by
 have R:=RO.rnd gy ht r
 have hm:s∈(rnd l tr r).1.map (·.1):=by
  cases h with
  |nil z=>exact ai.mpr ⟨_,z,rfl⟩
  |ch z _=>exact ai.mpr ⟨_,z,rfl⟩
  |mv z _=>exact ai.mpr ⟨_,z,rfl⟩
 obtain⟨e,he,ee⟩:=ai.mp hm
 obtain⟨j,hj,ej⟩:=aR.mp he
 have:=CS R.nd (hX.rnd gy ht r) h j e (by rw[ag hj,ej]) ee
 have:=R.len.1
 omega
end
inductive Go (l:Ln) (s:List Int):List Str->List Int->Prop
 |nil:Go l s [] s
 |snoc {ws:List Str}{t:List Int}{m:Mv} :Go l s ws t->m∈mvs l t->Go l s (ws ++ [m.1.1]) m.2
section
variable {l:Ln}{s t u:List Int}{ws vs:List Str}
theorem Go.trans (h:Go l s ws t)(k:Go l t vs u):Go l s (ws++vs) u:=by
 induction k with
 |nil=>rw[cY];exact h
 |snoc _ hm ih=>rw[<-cu];exact ih.snoc hm
theorem Go.ok (ok:fG l)(T:fW l s)(hne:s≠ [])(h:Go l s ws t):fW l t/\t.length=s.length/\t≠ []:=by
 induction h with
 |nil=>exact⟨T,rfl,hne⟩
 |snoc _ hm ih=>
  obtain⟨a,b,c⟩:=qX ok ih.1 ih.2.2 hm
  exact⟨a,b.trans ih.2.1,c⟩
theorem Go.gd (h:Go l s ws t):Gd l s ws.length t:=by
 induction h with
 |nil=>rfl
 |snoc _ hm ih=>rw[ah];exact⟨_,ih,_,hm,rfl⟩
theorem Go.way (h:Go l s ws t):∃ run bs,Way l s run bs/\bs[run.length]? = some t/\run.map (·.1)=ws:=by
 induction h with
 |nil=>exact⟨[],[s],⟨rfl,rfl,λj k b b' hk=>by simp at hk⟩,rfl,rfl⟩
 |@snoc ws t m h hm ih=>
  obtain⟨run,bs,W,hb,e⟩:=ih
  refine⟨run ++ [m.1],bs ++ [m.2],W.snoc hb hm,?_,by rw[aw,e];rfl⟩
  rw[ah,aA,av (by rw[W.len];omega),W.len,aV]
  rfl
theorem Way.go {run:List (Str×Int)}{bs:List (List Int)}(W:Way l s run bs):∀ j,j<=run.length->∃ b,bs[j]? = some b/\Go l s ((run.take j).map (·.1)) b
 | 0,_=>⟨s,W.first,.nil⟩
 |j+1,hj=>by
  obtain⟨b,hb,g⟩:=Way.go W j (by omega)
  have h1:j+1<bs.length:=by rw[W.len];omega
  have h2:run[j]? = some run[j]:=ag (by omega)
  have hm:=W.step j _ _ _ h2 hb (ag h1)
  refine⟨_,ag h1,?_⟩
  rw[aQ,h2,aw]
  exact g.snoc hm
theorem Way.goL {bs:List (List Int)}(W:Way l s run bs)(hb:bs[run.length]? = some t):Go l s (run.map (·.1)) t:=by
 obtain⟨b,h1,g⟩:=W.go run.length (au _)
 rw[hb]at h1
 cases h1
 rwa [bf]at g
theorem Cc (i:Nat):∀ e∈fA l s i,∃ ws,Go l s ws e.1:=sq (λt=>∃ ws,Go l s ws t) ⟨[],.nil⟩ (λ_ _ ⟨_,h⟩ hm=>⟨_,h.snoc hm⟩) i
theorem rd (ok:fG l)(T:fW l s)(hne:s≠ []){i:Nat}(hi:(fA l s i).length=i)(h:Go l s ws t):t∈(fA l s i).map (·.1):=by
 obtain⟨_,h0,hsh⟩:=kX ok T hne hi
 induction h with
 |nil=>exact h0
 |snoc _ hm ih=>exact(hsh _ ih).2 _ hm
end
section
variable {m:Int}{nm es:List Int}{js js':List (Int×Int)}{s t u:List Int}{ws:List Str}
def In (m:Int)(t:List Int):Prop:=∀ e∈t,0<=e/\e<2*m
end
theorem fW.init {u:List Int}{e:Int}(ok:fG l)(hne:u≠ [])(T:fW l (u ++ [e])):fW l u/\e∈fr l u (oth (u.getLastD 0)):=by
 have hc:∀ (i:Nat) x y,u[i]? = some x->u[i+1]? = some y->y∈jn l.2 (oth x):=λi x y hx hy=>by
  refine T.ch i x y ?_ ?_
  ·rw[ak (af.mp hx).1];exact hx
  ·rw[ak (af.mp hy).1];exact hy
 have nd:=T.nd
 rw[aw,bx]at nd
 refine⟨⟨λx hx=>T.ends x (aG _ hx),nd.1,hc⟩,iJ.mpr ⟨?_,λz=>nd.2.2 _ z _ (by simp) rfl⟩⟩
 obtain⟨r,z,rfl⟩:∃ r z,u=r ++ [z]:=⟨u.dropLast,u.getLast hne,(bL hne).symm⟩
 have:=T.ch r.length z e (by simp) (by simp)
 simpa using this
theorem xk {l:Ln}(ok:fG l):∀ (k:Nat) (t:List Int),fW l t->t.length=k+1->t∈uU l k
 | 0,t,T,hl=>by
  match t,hl with
  |[e],_=>
   have:=T.ends e aB
   exact ai.mpr ⟨e,xW.mpr (by omega),rfl⟩
 |k+1,t,T,hl=>by
  have hne:t≠ []:=λz=>by rw[z]at hl;cases hl
  obtain⟨u,e,rfl⟩:∃ r z,t=r ++ [z]:=⟨t.dropLast,t.getLast hne,(bL hne).symm⟩
  rw[ah]at hl
  have hl:u.length=k+1:=by simpa using hl
  obtain⟨T1,he⟩:=T.init ok λz=>by rw[z]at hl;cases hl
  exact di.mpr ⟨u,xk ok k u T1 hl,ai.mpr ⟨e,he,rfl⟩⟩
def Rch (l:Ln)(t u:List Int):Prop:=∃ ws,Go l t ws u
theorem Rch.rfl' (t:List Int):Rch l t t:=⟨[],.nil⟩
theorem Rch.trans {t u v:List Int}(h:Rch l t u)(k:Rch l u v):Rch l t v:=by
 obtain⟨ws,g⟩:=h
 obtain⟨vs,g'⟩:=k
 exact⟨_,g.trans g'⟩
section
variable {D:Ends}{σ:L2.St}{H:Hp}
theorem nm2 {t1 t2 R:TS}(h:∀ r:TS,(∀ D σ H,R D σ H->r D σ H)->qi t1 (qi t2 r) D σ H):qi t1 (qi t2 R) D σ H:=h R λ_ _ _ z=>z
theorem nm3 {t1 t2 t3 R:TS}(h:∀ r:TS,(∀ D σ H,R D σ H->r D σ H)->qi t1 (qi t2 (qi t3 r)) D σ H):qi t1 (qi t2 (qi t3 R)) D σ H:=h R λ_ _ _ z=>z
theorem cut {t u:TS}(J:L2.St->Hp->Prop)(first:∀ (N:L2.St->Hp->Prop) (R:VK) (B C:L2.St->Hp->Prop),(∀ σ' H',J σ' H'->N σ' H')->(∀ v H',D.rt v H'->R v H')->t ⟨N,R,B,C⟩ σ H)(rest:∀ σ' H',J σ' H'->u D σ' H'):qi t u D σ H:=
 first (u D) D.rt D.bk D.ct rest λ_ _ z=>z
theorem jf {K:PySem.W.Frag}{a:Addr}{xs:List V}{g:TG}{tb:TS}(Pv:Nat->L2.St->Hp->Prop)(h0:Pv 0 σ H)(hl:∀ i σ H,i<=xs.length->Pv i σ H->SqL K H a xs)
  (hs:∀ i x σ H (N:L2.St->Hp->Prop) (R:VK) (B:L2.St->Hp->Prop),(∀ σ' H',Pv (i+1) σ' H'->N σ' H')->(∀ v H',D.rt v H'->R v H')->xs[i]? = some x->Pv i σ H->g x σ H λσ2 H2=>tb ⟨N,R,B,N⟩ σ2 H2) (hd:∀ σ H,Pv xs.length σ H->D.nx σ H):
  ∃ W:Nat->Nat->L2.St->Hp->Prop,(∃ m,W 0 m σ H)/\∀ i m σ H,W i m σ H->
   ((Itl K a).stop i H/\D.nx σ H)\/((Itl K a).go i H/\∃ N:L2.St->Hp->Prop,(∀ σ' H',N σ' H'->∃ m',m'<m/\W (i+1) m' σ' H')/\∀ x H',(Itl K a).yld i H x H'->g x σ H' λσ2 H2=>tb {D with nx:=N,ct:=N,bk:=D.nx} σ2 H2):=
 ni Pv h0 hl (λi x σ H hx p=>hs i x σ H _ _ _ (λ_ _ z=>z) (λ_ _ z=>z) hx p) hd
theorem pY {lo:Int}{g:TG}{tb:TS}(Pv:Nat->L2.St->Hp->Prop)(h0:Pv 0 σ H)
  (hs:∀ i σ H (N:L2.St->Hp->Prop) (R:VK) (B:L2.St->Hp->Prop),(∀ σ' H',Pv (i+1) σ' H'->N σ' H')->(∀ v H',D.rt v H'->R v H')->i<n->Pv i σ H->g (.int (lo+i)) σ H λσ2 H2=>tb ⟨N,R,B,N⟩ σ2 H2) (hd:∀ σ H,Pv n σ H->D.nx σ H):
  ∃ W:Nat->Nat->L2.St->Hp->Prop,(∃ m,W 0 m σ H)/\∀ i m σ H,W i m σ H->
   ((Itr lo n).stop i H/\D.nx σ H)\/((Itr lo n).go i H/\∃ N:L2.St->Hp->Prop,(∀ σ' H',N σ' H'->∃ m',m'<m/\W (i+1) m' σ' H')/\∀ x H',(Itr lo n).yld i H x H'->g x σ H' λσ2 H2=>tb {D with nx:=N,ct:=N,bk:=D.nx} σ2 H2):=
 pC Pv h0 (λi σ H hx p=>hs i σ H _ _ _ (λ_ _ z=>z) (λ_ _ z=>z) hx p) hd
theorem BQ {K:PySem.W.Frag}{a:Addr}{xs:List V}{g:TG}{tb:TS}(Pv:Nat->L2.St->Hp->Prop)(h0:Pv 0 σ H)(hl:∀ i σ H,i<=xs.length->Pv i σ H->SqL K H a xs)
  (hs:∀ i x σ H p (N:L2.St->Hp->Prop) (R:VK) (B:L2.St->Hp->Prop),(∀ σ' H',Pv (i+1) σ' H'->N σ' H')->(∀ v H',D.rt v H'->R v H')->xs[i]? = some x->Pv i σ H->H p=none->g (.ref p) σ (upd H p (.tup [.int i,x])) λσ2 H2=>tb ⟨N,R,B,N⟩ σ2 H2) (hd:∀ σ H,Pv xs.length σ H->D.nx σ H):
  ∃ W:Nat->Nat->L2.St->Hp->Prop,(∃ m,W 0 m σ H)/\∀ i m σ H,W i m σ H->
   ((Ite K a).stop i H/\D.nx σ H)\/((Ite K a).go i H/\∃ N:L2.St->Hp->Prop,(∀ σ' H',N σ' H'->∃ m',m'<m/\W (i+1) m' σ' H')/\∀ x H',(Ite K a).yld i H x H'->g x σ H' λσ2 H2=>tb {D with nx:=N,ct:=N,bk:=D.nx} σ2 H2):=
 DC Pv h0 hl (λi x σ H p hx q np=>hs i x σ H p _ _ _ (λ_ _ z=>z) (λ_ _ z=>z) hx q np) hd
theorem oU {c:TT}{tb:TS}(Pv:L2.St->Hp->Prop)(μ:L2.St->Hp->Nat)(h0:Pv σ H)
  (hs:∀ σ H (N:L2.St->Hp->Prop) (R:VK) (B:L2.St->Hp->Prop),(∀ σ' H',Pv σ' H'->μ σ' H'<μ σ H->N σ' H')->(∀ v H',D.rt v H'->R v H')->(∀ σ' H',D.nx σ' H'->B σ' H')->Pv σ H->c σ H λb H1=>if b=true then tb ⟨N,R,B,N⟩ σ H1 else B σ H1)
  (mono:∀ σ H Q Q',(∀ b H1,Q b H1->Q' b H1)->c σ H Q->c σ H Q'):sO c tb D σ H:=
 Cb Pv μ h0 (λσ H p=>hs σ H _ _ _ (λ_ _ a b=>⟨a,b⟩) (λ_ _ z=>z) (λ_ _ z=>z) p) mono
end
structure zc (l:Ln)(s t:List Int)(n c:Nat):Prop where
 a:∃ ws,Go l s ws t/\ws.length=n
 b:∀ ws,Go l s ws t->n<=ws.length
 x:∃ ws,Go l s ws t/\jJ ws=c
 y:∀ ws,Go l s ws t->c<=jJ ws
section
variable {l:Ln}{s t u:List Int}{n c n' c' n'' c'':Nat}
theorem zc.of (ok:fG l)(T:fW l s)(hne:s≠ []){i r:Nat}(hi:(fA l s i).length=i)(i3:i<=300)(he:(rnd l s r).2 = []){tu:List (Str×Int)}(p1:mr (fA l s i) t run){w:Str}(hw:isW w){a b:Nat}
  (p2:kr (rnd l s r).1 (t,w) tu) (ha:cnt l s r (t,w)=some a) (hb:cnt l s r (t,ow w)=some b) (le:a<=b):zc l s t run.length (jJ (tu.map (·.1))):=by
 obtain⟨_,h0,hsh⟩:=kX ok T hne hi
 have gy:∀ t∈(fA l s i).map (·.1),∀ m∈mvs l t,m.2∈(fA l s i).map (·.1):=λt ht=>(hsh t ht).2
 have hW:((fA l s i).map (·.1)).length<=300:=by rw[aa];omega
 have EI:=iN ok T hne i
 have pl:=yh EI.nd (kz l s i) p1
 obtain⟨b1,W1,h1⟩:=tK (nE l s i) p1
 obtain⟨b2,W2,h2⟩:=p2.way gy h0 hW
 have ec:=p2.few gy h0 hW he ha hb le
 refine⟨⟨_,W1.goL h1,by simp⟩,λws g=>?_,⟨_,W2.goL h2,rfl⟩,λws g=>?_⟩
 ·obtain⟨n,hn,hle⟩:=ze ok T hne hi _ _ g.gd
  rw[pl]at hn
  cases hn
  omega
 ·obtain⟨rn,bs,W,hb',e⟩:=g.way
  obtain⟨wd,n,hwd,hcn,hle⟩:=Ei ok gy h0 hW he W hb'
  rw[e]at hle
  rw[ec]
  by_cases z:wd=w
  ·rw[z,ha]at hcn
   cases hcn
   exact hle
  ·have e2:wd=ow w:=by
    have hn:¬Str.ofString "back" = Str.ofString "on" :=by decide +kernel
    unfold ow
    rcases hwd with f |f<;>rcases hw with g |g
    ·exact absurd (by rw[f,g]) z
    ·rw[g,aH hn,f]
    ·rw[g,aM rfl,f]
    ·exact absurd (by rw[f,g]) z
   rw[e2,hb]at hcn
   cases hcn
   omega
end
def fe (e:Int):Int:=2*e+e%2
def fP (p:Int×Int):Int×Int:=(fe p.1,fe p.2)
def nP (i:Nat):Int×Int:=(4*(i:Int)+1,4*(i:Int)+2)
def fl (l:Ln):Ln:=(2*l.1,l.2.map fP++(List.range l.1.toNat).map nP)
def ft (ns:List Int):List Int:=ns.flatMap λe=>[fe e,oth (fe (oth e))]
theorem AQ {e:Int} :∀ {js:List (Int×Int)},(∀ p∈js,p.1≠p.2)->inc js e<=js.length
 |[],_=>au _
 |p::js,h=>by
  have ih:=AQ (e:=e) (js:=js) λq hq=>h q (aC _ hq)
  have hp:=h p aB
  unfold inc below above at ih ⊢
  rw[aa,aa]at ih ⊢
  rw[List.filter_cons,List.filter_cons,aO]
  by_cases h1:p.1=e
  ·have h2:¬p.2=e:=λz=>hp (h1.trans z.symm)
   simp[h1,h2]
   omega
  ·by_cases h2:p.2=e
   ·simp[h1,h2]
    omega
   ·simp[h1,h2]
    omega
theorem km (e:Int):(e=2*(e/2)/\fe e=4*(e/2)/\oth (fe e)=4*(e/2)+1/\oth (fe (oth e))=4*(e/2)+2)\/(e=2*(e/2)+1/\fe e=4*(e/2)+3/\oth (fe e)=4*(e/2)+2/\oth (fe (oth e))=4*(e/2)+1):=by
 have h:e=2*(e/2)\/e=2*(e/2)+1:=by omega
 generalize e/2=p at h
 rcases h with rfl |rfl
 ·left
  have h1:oth (2*p)=2*p+1:=by unfold oth;omega
  have h2:fe (2*p)=4*p:=by unfold fe;omega
  have h3:fe (2*p+1)=4*p+3:=by unfold fe;omega
  rw[h1,h2,h3]
  refine⟨rfl,rfl,by unfold oth;omega,by unfold oth;omega⟩
 ·right
  have h1:oth (2*p+1)=2*p:=by unfold oth;omega
  have h2:fe (2*p)=4*p:=by unfold fe;omega
  have h3:fe (2*p+1)=4*p+3:=by unfold fe;omega
  rw[h1,h2,h3]
  refine⟨rfl,rfl,by unfold oth;omega,by unfold oth;omega⟩
theorem jo (e:Int):fe e/2=e:=by unfold fe;omega
variable {a b:Int}
theorem pD (h:a<b):fe a<fe b:=by unfold fe;omega
theorem xi (h:fe a=fe b):a=b:=by have:=jo a;have:=jo b;omega
theorem HB {m:Int}{p:Int×Int}(h:okJ m p):okJ (2*m) (fP p):=by
 have l1:=h.lt
 obtain⟨⟨a0,a1⟩,⟨b0,b1⟩,le,ne⟩:=h
 have h1:=jo p.1
 have h2:=jo p.2
 have h3:=pD l1
 unfold okJ fP
 dsimp only
 refine⟨⟨by unfold fe;omega,by unfold fe;omega⟩,⟨by unfold fe;omega,by unfold fe;omega⟩,by omega,by omega⟩
theorem GX {m:Int}{i:Nat}(h:i<m.toNat):okJ (2*m) (nP i):=by
 unfold okJ nP
 dsimp only
 omega
theorem Fm (G:hG l):Hi (fl l):=by
 obtain⟨m,js⟩:=l
 have h1:1<=m:=G.one
 have h2:m<=14:=G.most
 have h3:js.length<=24:=G.len
 refine⟨by show 1<=2*m;omega,by show 2*m<=40;omega,?_,λp hp=>?_,?_⟩
 ·show(js.map fP++(List.range m.toNat).map nP).length<=80
  rw[ah,aa,aa,cI]
  omega
 ·rcases ay.mp (show p∈js.map fP++(List.range m.toNat).map nP from hp)with z |z
  ·obtain⟨q,hq,rfl⟩:=ai.mp z
   exact HB (G.ok q hq)
  ·obtain⟨i,hi,rfl⟩:=ai.mp z
   exact GX (cQ.mp hi)
 ·show(js.map fP++(List.range m.toNat).map nP).Nodup
  refine bx.mpr ⟨?_,?_,λx hx y hy e=>?_⟩
  ·rw[List.Nodup,bY]
   refine G.nd.imp λ{a b} hab z=>hab ?_
   unfold fP at z
   rw[bV]at z
   exact cO (xi z.1) (xi z.2)
  ·rw[List.Nodup,bY]
   refine(List.nodup_range (n:=m.toNat)).imp λ{a b} hab z=>hab ?_
   unfold nP at z
   rw[bV]at z
   omega
  ·obtain⟨q,hq,rfl⟩:=ai.mp hx
   obtain⟨i,hi,rfl⟩:=ai.mp hy
   unfold fP nP at e
   rw[bV]at e
   have:=e.1
   unfold fe at this
   omega
theorem qC (G:hG l):fG (fl l):=by
 have L:=Fm G
 obtain⟨m,js⟩:=l
 have h2:m<=14:=G.most
 have h3:js.length<=24:=G.len
 have hlen:(fl (m,js)).2.length<=38:=by
  show(js.map fP++(List.range m.toNat).map nP).length<=38
  rw[ah,aa,aa,cI]
  omega
 refine⟨L.1,L.2.1,L.2.2.1,λe=>?_,λp hp=>?_⟩
 ·have:=AQ (e:=e) (js:=(fl (m,js)).2) λp hp=>by have:=(L.2.2.2.1 p hp).lt;omega
  omega
 ·obtain⟨a,b,c,_⟩:=L.2.2.2.1 p hp
  exact⟨a.1,c,b.2⟩
theorem qB:∀ (ns:List Int) (j:Nat),(ft ns)[2*j]? = ns[j]?.map fe/\(ft ns)[2*j+1]? = ns[j]?.map λe=>oth (fe (oth e))
 |[],j=>⟨rfl,rfl⟩
 |x::r,0=>⟨rfl,rfl⟩
 |x::r,j+1=>by
  have ih:=qB r j
  have e:ft (x::r)=fe x::oth (fe (oth x))::ft r:=rfl
  rw[e,show 2*(j+1)=2*j+1+1 by omega]
  simp only[cq]
  exact ih
theorem AW (ns:List Int):(ft ns).map (· / 2)=ns.flatMap λe=>[e,oth e]:=by
 induction ns with
 |nil=>rfl
 |cons x r ih=>
  have e:ft (x::r)=fe x::oth (fe (oth x))::ft r:=rfl
  rw[e,aN,aN,ih,cJ]
  have h1:=jo x
  have h2:=jo (oth x)
  have h3:oth (fe (oth x))/2=oth x:=by
   have:oth (fe (oth x))/2=fe (oth x)/2:=by unfold oth;omega
   rw[this,h2]
  rw[h1,h3];rfl
theorem FY:∀ {ns:List Int},(ns.map (· / 2)).Nodup->(ns.flatMap λe=>[e,oth e]).Nodup
 |[],_=>dh
 |x::r,h=>by
  rw[aN,bu]at h
  have ih:=FY h.2
  have Jh:∀ y,y/2=x/2->y∉r.flatMap λe=>[e,oth e]:=λy hy hm=>by
   obtain⟨e,he,hye⟩:=di.mp hm
   have hye:y=e\/y=oth e:=by simpa using hye
   have:e/2=x/2:=by
    rcases hye with rfl |rfl
    ·exact hy
    ·rw[<-hy];unfold oth;omega
   exact h.1 (ai.mpr ⟨e,he,this⟩)
  rw[cJ]
  show(x::oth x::r.flatMap λe=>[e,oth e]).Nodup
  refine bu.mpr ⟨λz=>?_,bu.mpr ⟨Jh (oth x) (by unfold oth;omega),ih⟩⟩
  rcases aK.mp z with z |z
  ·unfold oth at z;omega
  ·exact Jh x rfl z
theorem AU {ns:List Int}(G:hG l)(T:fW l ns):fW (fl l) (ft ns):=by
 have ok:=G.jj
 have ok2:=qC G
 obtain⟨m,js⟩:=l
 refine⟨λe he=>?_,?_,λi x y hx hy=>?_⟩
 ·obtain⟨d,hd,hed⟩:=di.mp he
  have hd:=T.ends d hd
  dsimp only at hd
  have hed:e=fe d\/e=oth (fe (oth d)):=by simpa using hed
  show 0<=e/\e<2*(2*m)
  have:=km d
  rcases hed with rfl |rfl<;>omega
 ·rw[AW];exact FY T.nd
 ·rw[kh ok2]
  show(min (oth x) y,max (oth x) y)∈js.map fP++(List.range m.toNat).map nP
  by_cases c:i%2=0
  ·obtain⟨j,rfl⟩:∃ j,i=2*j:=⟨i/2,by omega⟩
   rw[(qB ns j).1]at hx
   rw[(qB ns j).2]at hy
   cases q:ns[j]? with
   |none=>rw[q]at hx;cases hx
   |some e=>
    rw[q]at hx hy
    have hx:fe e=x:=by simpa using hx
    have hy:oth (fe (oth e))=y:=by simpa using hy
    have he:=T.ends e (ax q)
    dsimp only at he
    refine az _ (ai.mpr ⟨(e/2).toNat,cQ.mpr (by omega),?_⟩)
    rw[<-hx,<-hy]
    have:=km e
    unfold nP
    rw[bV]
    omega
  ·obtain⟨j,rfl⟩:∃ j,i=2*j+1:=⟨i/2,by omega⟩
   rw[(qB ns j).2]at hx
   rw[show 2*j+1+1=2*(j+1) by omega,(qB ns (j+1)).1]at hy
   cases q:ns[j]? with
   |none=>rw[q]at hx;cases hx
   |some e=>
    cases q2:ns[j+1]? with
    |none=>rw[q2]at hy;cases hy
    |some e2=>
     rw[q]at hx
     rw[q2]at hy
     have hx:oth (fe (oth e))=x:=by simpa using hx
     have hy:fe e2=y:=by simpa using hy
     have:=T.ch j e e2 q q2
     rw[kh ok]at this
     refine aG _ (ai.mpr ⟨_,this,?_⟩)
     rw[<-hx,<-hy,i6]
     unfold fP
     dsimp only
     generalize oth e=a
     rw[bV]
     by_cases h:a<e2
     ·have:=pD h
      rw[bz (by omega),bD (by omega)]
      constructor<;>omega
     ·by_cases h2:a=e2
      ·subst h2;simp
      ·have:=pD (a:=e2) (b:=a) (by omega)
       rw[bC (by omega),bA (by omega)]
       constructor<;>omega
def f2 (e:Int):Int:=oth (fe (oth e))
theorem pB (x:Int)(r:List Int):ft (x::r)=fe x::f2 x::ft r:=rfl
theorem Hz (a b:List Int):ft (a++b)=ft a++ft b:=by unfold ft;rw[dA]
theorem pA (a:List Int)(e:Int):ft (a ++ [e])=ft a ++ [fe e,f2 e]:=by rw[Hz];rfl
theorem ur (t:List Int):(ft t).length=2*t.length:=by
 induction t with
 |nil=>rfl
 |cons x r ih=>rw[pB,aO,aO,aO,ih];omega
theorem pZ (e:Int):oth (f2 e)=fe (oth e):=by unfold f2;rw[i6]
theorem qD (e:Int):f2 e/2=oth e:=by
 have h:=jo (oth e)
 have:oth (fe (oth e))/2=fe (oth e)/2:=by unfold oth;omega
 unfold f2
 rw[this,h]
section
variable {l:Ln}
theorem wZ (G:hG l){y:Int}(h:y∈jn (fl l).2 (fe a)):∃ b∈jn l.2 a,y=fe b:=by
 have ok:=G.jj
 rw[kh (qC G)]at h
 have h:(min (fe a) y,max (fe a) y)∈l.2.map fP++(List.range l.1.toNat).map nP:=h
 rcases ay.mp h with z |z
 ·obtain⟨p,hp,e⟩:=ai.mp z
  unfold fP at e
  rw[bV]at e
  obtain⟨e1,e2⟩:=e
  have hlt:=(G.ok p hp).lt
  have hm:=pD hlt
  by_cases c:fe a<=y
  ·rw[bz c]at e1
   rw[bD c]at e2
   have ea:=xi e1
   refine⟨p.2,?_,e2.symm⟩
   rw[kh ok,<-ea,bz (by omega),bD (by omega)];exact hp
  ·rw[bC (by omega)]at e1
   rw[bA (by omega)]at e2
   have ea:=xi e2
   refine⟨p.1,?_,e1.symm⟩
   rw[kh ok,<-ea,bC (by omega),bA (by omega)];exact hp
 ·obtain⟨i,hi,e⟩:=ai.mp z
  unfold nP at e
  rw[bV]at e
  obtain⟨e1,e2⟩:=e
  have h1:fe a=4*(i:Int)+1\/fe a=4*(i:Int)+2:=by
   by_cases c:fe a<=y
   ·rw[bz c]at e1;omega
   ·rw[bA (by omega)]at e2;omega
  exfalso
  unfold fe at h1
  omega
theorem AM (G:hG l)(h:b∈jn l.2 a):fe b∈jn (fl l).2 (fe a):=by
 have ok:=G.jj
 rw[kh ok]at h
 rw[kh (qC G)]
 show(min (fe a) (fe b),max (fe a) (fe b))∈l.2.map fP++(List.range l.1.toNat).map nP
 refine aG _ (ai.mpr ⟨_,h,?_⟩)
 unfold fP
 dsimp only
 rw[bV]
 by_cases c:a<b
 ·have:=pD c
  rw[bz (by omega),bD (by omega),bz (by omega),bD (by omega)]
  exact⟨rfl,rfl⟩
 ·by_cases d:a=b
  ·subst d;simp
  ·have:=pD (a:=b) (b:=a) (by omega)
   rw[bC (by omega),bA (by omega),bC (by omega),bA (by omega)]
   exact⟨rfl,rfl⟩
theorem AN (G:hG l){y:Int}(h:y∈jn (fl l).2 (oth (fe a))):y=f2 a:=by
 rw[kh (qC G)]at h
 have h:(min (oth (fe a)) y,max (oth (fe a)) y)∈l.2.map fP++(List.range l.1.toNat).map nP:=h
 have fc:=km a
 rcases ay.mp h with z |z
 ·obtain⟨p,hp,e⟩:=ai.mp z
  unfold fP at e
  rw[bV]at e
  obtain⟨e1,e2⟩:=e
  exfalso
  have h1:oth (fe a)=fe p.1\/oth (fe a)=fe p.2:=by
   by_cases c:oth (fe a)<=y
   ·rw[bz c]at e1;exact .inl e1.symm
   ·rw[bA (by omega)]at e2;exact .inr e2.symm
  rcases h1 with h1 |h1
  ·have:=km p.1;omega
  ·have:=km p.2;omega
 ·obtain⟨i,hi,e⟩:=ai.mp z
  unfold nP at e
  rw[bV]at e
  obtain⟨e1,e2⟩:=e
  unfold f2
  by_cases c:oth (fe a)<=y
  ·rw[bz c]at e1
   rw[bD c]at e2
   omega
  ·rw[bC (by omega)]at e1
   rw[bA (by omega)]at e2
   omega
theorem w5 (G:hG l)(h0:0<=a)(h1:a<2*l.1):f2 a∈jn (fl l).2 (oth (fe a)):=by
 rw[kh (qC G)]
 show(min (oth (fe a)) (f2 a),max (oth (fe a)) (f2 a))∈l.2.map fP++(List.range l.1.toNat).map nP
 refine az _ (ai.mpr ⟨(a/2).toNat,cQ.mpr (by omega),?_⟩)
 have fc:=km a
 have e:f2 a=oth (fe (oth a)):=rfl
 unfold nP
 rw[bV,e]
 have:(((a/2).toNat:Nat):Int)=a/2:=by omega
 rcases fc with⟨_,_,c1,c2⟩|⟨_,_,c1,c2⟩
 ·rw[c1,c2,bz (by omega),bD (by omega)]
  omega
 ·rw[c1,c2,bC (by omega),bA (by omega)]
  omega
theorem vU (t:List Int)(x:Int):x∈(ft t).map (· / 2)↔x/2∈t.map (· / 2):=by
 rw[AW,di,ai]
 constructor
 ·rintro⟨e,he,h⟩
  have h:x=e\/x=oth e:=by simpa using h
  refine⟨e,he,?_⟩
  rcases h with rfl |rfl
  ·rfl
  ·unfold oth;omega
 ·rintro⟨e,he,h⟩
  refine⟨e,he,?_⟩
  have:x=e\/x=oth e:=by unfold oth;omega
  simpa using this
end
variable {x:Int}
section
variable {l:Ln}
theorem F0 (b:Int):f2 (oth b)=oth (fe b):=by unfold f2;rw[i6]
theorem m9 (r:List Int)(z:Int):(r ++ [z]).getLastD 0=z:=by simp
theorem AV (r:List Int)(z:Int):(ft (r ++ [z])).getLastD 0=f2 z:=by
 rw[pA,show ft r ++ [fe z,f2 z]=(ft r ++ [fe z]) ++ [f2 z] by simp,m9]
theorem Ds (ok:fG l){e:Int}(h:x∈jn l.2 e):0<=x/\x<2*l.1:=by
 rw[kh ok]at h
 obtain⟨h1,h2,h3⟩:=ok.ends _ h
 dsimp only at h1 h2 h3
 omega
theorem fW.front {t:List Int}(ok:fG l)(T:fW l t)(hne:t≠ [])(hb:b∈fr l t (t.headD 0)):fW l (oth b::t):=by
 obtain⟨h1,h2⟩:=iJ.mp hb
 cases t with
 |nil=>exact absurd rfl hne
 |cons x r=>
  have hx:=T.ends x aB
  have hj:x∈jn l.2 b:=nN ok h1
  have hbr:=Ds ok h1
  refine⟨λe he=>?_,?_,λi y z hy hz=>?_⟩
  ·rcases aK.mp he with rfl |q
   ·unfold oth;omega
   ·exact T.ends e q
  ·rw[aN,bu]
   refine⟨?_,T.nd⟩
   have:oth b/2=b/2:=by unfold oth;omega
   rw[this];exact h2
  ·cases i with
   |zero=>
    cases hy
    cases hz
    rw[i6];exact hj
   |succ n=>exact T.ch n y z (by simpa using hy) (by simpa using hz)
theorem yH (G:hG l){t:List Int}(T:fW l t)(hne:t≠ [])(hm:m∈mvs l t):∃ m1∈mvs (fl l) (ft t),∃ m2∈mvs (fl l) m1.2,m1.1=(m.1.1,fe m.1.2)/\m2.1=(m.1.1,f2 m.1.2)/\m2.2=ft m.2:=by
 have ok:=G.jj
 obtain⟨r,z,er⟩:∃ r z,t=r ++ [z]:=⟨t.dropLast,t.getLast hne,(bL hne).symm⟩
 obtain⟨x,s,es⟩:∃ x s,t=x::s:=by cases t with |nil=>exact absurd rfl hne |cons x s=>exact⟨x,s,rfl⟩
 have oe:∀ e:Int,oth e≠e:=λe=>by unfold oth;omega
 have oh:∀ e:Int,oth e/2=e/2:=λe=>by unfold oth;omega
 unfold mvs at hm
 rcases ay.mp hm with q |q
 ·obtain⟨e,he,rfl⟩:=ai.mp q
  obtain⟨h1,h2⟩:=iJ.mp he
  have hl:t.getLastD 0=z:=by rw[er,m9]
  have hfl:(ft t).getLastD 0=f2 z:=by rw[er,AV]
  rw[hl]at h1
  have rg:=Ds ok h1
  have np:e∉(ft t).map (· / 2):=λw=>h2 ((vU t e).mp w)
  have np2:oth e∉(ft t).map (· / 2):=λw=>h2 (by rw[<-oh];exact(vU t (oth e)).mp w)
  refine⟨onM (ft t) (fe e),aG _ (ai.mpr ⟨fe e,iJ.mpr ⟨?_,by rw[jo];exact np⟩,rfl⟩),onM ((ft t).drop 1 ++ [fe e]) (f2 e),aG _ (ai.mpr ⟨f2 e,iJ.mpr ⟨?_,?_⟩,rfl⟩),rfl,rfl,?_⟩
  ·rw[hfl,pZ];exact AM G h1
  ·rw[show(onM (ft t) (fe e)).2=(ft t).drop 1 ++ [fe e] from rfl,m9]
   exact w5 G rg.1 rg.2
  ·rw[qD,show(onM (ft t) (fe e)).2=(ft t).drop 1 ++ [fe e] from rfl,aw]
   intro w
   rcases ay.mp w with w |w
   ·exact np2 ((List.map_subset _ (List.drop_subset 1 _)) w)
   ·have w:oth e=fe e/2:=by simpa using w
    rw[jo]at w
    exact oe e w
  ·show((ft t).drop 1 ++ [fe e]).drop 1 ++ [f2 e]=ft (t.drop 1 ++ [e])
   rw[es,pB,pA]
   show([f2 x]++ft s ++ [fe e]).drop 1 ++ [f2 e]=ft s ++ [fe e,f2 e]
   simp
 ·obtain⟨e,he,rfl⟩:=ai.mp q
  obtain⟨h1,h2⟩:=iJ.mp he
  have hl:t.headD 0=x:=by rw[es];rfl
  have hfl:(ft t).headD 0=fe x:=by rw[es];rfl
  rw[hl]at h1
  have rg:=Ds ok h1
  have np:e∉(ft t).map (· / 2):=λw=>h2 ((vU t e).mp w)
  have np2:oth e∉(ft t).map (· / 2):=λw=>h2 (by rw[<-oh];exact(vU t (oth e)).mp w)
  have dl:∀ u:List Int,u.dropLast ⊆ u:=λu=>List.dropLast_subset u
  refine⟨ll (ft t) (fe e),az _ (ai.mpr ⟨fe e,iJ.mpr ⟨?_,by rw[jo];exact np⟩,rfl⟩),ll (oth (fe e)::(ft t).dropLast) (f2 e),az _ (ai.mpr ⟨f2 e,iJ.mpr ⟨?_,?_⟩,rfl⟩),rfl,rfl,?_⟩
  ·rw[hfl];exact AM G h1
  ·show f2 e∈jn (fl l).2 (oth (fe e))
   exact w5 G rg.1 rg.2
  ·rw[qD,show(ll (ft t) (fe e)).2=oth (fe e)::(ft t).dropLast from rfl,aN]
   intro w
   rcases aK.mp w with w |w
   ·have:oth (fe e)/2=e:=by rw[oh,jo]
    rw[this]at w
    exact oe e w
   ·exact np2 ((List.map_subset _ (dl _)) w)
  ·show oth (f2 e)::(oth (fe e)::(ft t).dropLast).dropLast=ft (oth e::t.dropLast)
   rw[pB,pZ,F0,er,pA,cm]
   show fe (oth e)::(oth (fe e)::(ft r ++ [fe z,f2 z]).dropLast).dropLast=_
   rw[show ft r ++ [fe z,f2 z]=(ft r ++ [fe z]) ++ [f2 z] by simp,cm,show oth (fe e)::(ft r ++ [fe z])=(oth (fe e)::ft r) ++ [fe z] by simp,cm]
theorem uv (G:hG l){s t:List Int}{ws:List Str}(T:fW l s)(hne:s≠ [])(g:Go l s ws t):Go (fl l) (ft s) (ws.flatMap λw=>[w,w]) (ft t):=by
 induction g with
 |nil=>exact .nil
 |snoc g hm ih=>
  rename_i ws t m
  obtain⟨T1,l1,n1⟩:=g.ok G.jj T hne
  obtain⟨m1,h1,m2,h2,e1,e2,e3⟩:=yH G T1 n1 hm
  rw[dA,<-e3]
  have:=(ih.snoc h1).snoc h2
  rw[e1,e2]at this
  simpa using this
end
section
variable {l:Ln}
def Ee (l:Ln)(n:Nat)(s:List Int):Prop:=(∃ u,fW l u/\u.length=n/\s=ft u)\/∃ x r z,fW l (x::(r ++ [z]))/\r.length+1=n/\s=f2 x::(ft r ++ [fe z])
theorem fW.tl {r:List Int}(T:fW l (x::r)):fW l r:=by
 have:=T.win 1 r.length
 unfold TL.win at this
 simpa using this
theorem fW.hd {r:List Int}{z:Int}(T:fW l (r ++ [z])):fW l r:=by
 have:=T.win 0 r.length
 unfold TL.win at this
 simpa using this
theorem Ee.step (G:hG l)(hn:1<=n){s:List Int}(h:Ee l n s)(hm:m∈mvs (fl l) s):Ee l n m.2:=by
 have ok:=G.jj
 have oh:∀ e:Int,oth e/2=e/2:=λe=>by unfold oth;omega
 unfold mvs at hm
 rcases h with⟨u,T,ul,rfl⟩|⟨x,r,z,T,rl,rfl⟩
 ·have hne:u≠ []:=λw=>by rw[w]at ul;simp at ul;omega
  obtain⟨r,z,er⟩:∃ r z,u=r ++ [z]:=⟨u.dropLast,u.getLast hne,(bL hne).symm⟩
  obtain⟨x,s,es⟩:∃ x s,u=x::s:=by cases u with |nil=>exact absurd rfl hne |cons x s=>exact⟨x,s,rfl⟩
  rcases ay.mp hm with q |q
  ·obtain⟨y,hy,rfl⟩:=ai.mp q
   obtain⟨h1,h2⟩:=iJ.mp hy
   rw[show(ft u).getLastD 0=f2 z by rw[er,AV],pZ]at h1
   obtain⟨b,hb,rfl⟩:=wZ G h1
   rw[jo]at h2
   have h2:b/2∉u.map (· / 2):=λw=>h2 ((vU u b).mpr w)
   have TS:=fW.snoc (x:=b) ok T hne (iJ.mpr ⟨by rw[er,m9];exact hb,h2⟩)
   right
   refine⟨x,s,b,by rw[es]at TS;exact TS,by rw[es]at ul;simpa using ul,?_⟩
   show(ft u).drop 1 ++ [fe b]=_
   rw[es,pB];rfl
  ·obtain⟨y,hy,rfl⟩:=ai.mp q
   obtain⟨h1,h2⟩:=iJ.mp hy
   rw[show(ft u).headD 0=fe x by rw[es];rfl]at h1
   obtain⟨b,hb,rfl⟩:=wZ G h1
   rw[jo]at h2
   have h2:b/2∉u.map (· / 2):=λw=>h2 ((vU u b).mpr w)
   have TS:=fW.front (b:=b) ok T hne (iJ.mpr ⟨by rw[es];exact hb,h2⟩)
   right
   refine⟨oth b,r,z,by rw[er]at TS;exact TS,by rw[er]at ul;simpa using ul,?_⟩
   show oth (fe b)::(ft u).dropLast=_
   rw[er,pA,F0,show ft r ++ [fe z,f2 z]=(ft r ++ [fe z]) ++ [f2 z] by simp,cm]
 ·rcases ay.mp hm with q |q
  ·obtain⟨y,hy,rfl⟩:=ai.mp q
   obtain⟨h1,h2⟩:=iJ.mp hy
   rw[show(f2 x::(ft r ++ [fe z])).getLastD 0=fe z by rw[show f2 x::(ft r ++ [fe z])=(f2 x::ft r) ++ [fe z] by simp,m9]]at h1
   have hy:=AN G h1
   subst hy
   left
   refine⟨r ++ [z],T.tl,by rw[ah];exact rl,?_⟩
   show(f2 x::(ft r ++ [fe z])).drop 1 ++ [f2 z]=ft (r ++ [z])
   rw[pA];simp
  ·obtain⟨y,hy,rfl⟩:=ai.mp q
   obtain⟨h1,h2⟩:=iJ.mp hy
   have h1:y∈jn (fl l).2 (oth (fe (oth x))):=h1
   have hy:=AN G h1
   subst hy
   left
   have T2:fW l ((x::r) ++ [z]):=T
   refine⟨x::r,T2.hd,by rw[aO];exact rl,?_⟩
   show oth (f2 (oth x))::(f2 x::(ft r ++ [fe z])).dropLast=ft (x::r)
   rw[pZ,i6,pB,show f2 x::(ft r ++ [fe z])=(f2 x::ft r) ++ [fe z] by simp,cm]
theorem Fo (G:hG l){t:List Int}(T:fW l t)(hne:t≠ [])(i:Nat):∀ e∈fA (fl l) (ft t) i,Ee l t.length e.1:=by
 refine sq (λs=>Ee l t.length s) (.inl ⟨t,T,rfl,rfl⟩) (λs m h hm=>h.step G ?_ hm) i
 cases t with |nil=>exact absurd rfl hne |cons x r=>simp
theorem Fp (G:hG l){t:List Int}(T:fW l t)(hne:t≠ [])(h6:t.length<=6)(i:Nat):(fA (fl l) (ft t) i).length<=10616832:=by
 have ok:=G.jj
 obtain⟨k,hk⟩:∃ k,t.length=k+1:=by cases t with |nil=>exact absurd rfl hne |cons x r=>exact⟨r.length,by simp⟩
 have fne:ft t≠ []:=λz=>by have:=ur t;rw[z]at this;simp at this;omega
 have E:=iN (qC G) (AU G T) fne i
 have h1:=md E.nd (l2:=(uU l k).map ft++(uU l (k+1)).map λv=>((ft v).drop 1).dropLast) λs hs=>by
  obtain⟨e,he,rfl⟩:=ai.mp hs
  rcases Fo G T hne i e he with⟨u,TU,ul,e1⟩|⟨x,r,z,TU,rl,e1⟩
  ·exact aG _ (ai.mpr ⟨u,xk ok k u TU (ul.trans hk),e1.symm⟩)
  ·refine az _ (ai.mpr ⟨_,xk ok (k+1) _ TU (by rw[aO,ah];simp;omega),?_⟩)
   rw[e1,pB,pA]
   show(f2 x::(ft r ++ [fe z,f2 z])).dropLast=_
   rw[show f2 x::(ft r ++ [fe z,f2 z])=(f2 x::(ft r ++ [fe z])) ++ [f2 z] by simp,cm]
 rw[aa,ah,aa,aa]at h1
 have h2:=AX G (k:=k) (by omega)
 have h3:=AX G (k:=k+1) (by omega)
 omega
end
section
variable {l:Ln}{k:Nat}
theorem Gx {t u:List Int}(h:Rch l t u):∃ d,Gd l t d u:=by
 obtain⟨ws,g⟩:=h
 induction g with
 |nil=>exact⟨0,rfl⟩
 |snoc _ hm ih=>
  obtain⟨d,hd⟩:=ih
  exact⟨d+1,_,hd,_,hm,rfl⟩
theorem zU {t:List Int} :∀ {d:Nat}{u:List Int},Gd l t d u->Rch l t u
 | 0,u,h=>by have h:u=t:=h;subst h;exact Rch.rfl' _
 |d+1,u,⟨c,h1,m,hm,e⟩=>by
  obtain⟨ws,g⟩:=zU h1
  subst e
  exact⟨_,g.snoc hm⟩
end
section
variable {l:Ln}
def ph (x:Int):Int:=2*(x/4)+x%2
theorem vJ (b:Int):ph (fe b)=b:=by have:=km b;unfold ph;omega
theorem tG (b:Int):ph (oth (fe b))=oth b:=by have:=km b;unfold ph;unfold oth at *;omega
theorem FU (G:hG l)(h:b∈jn l.2 a):b/2≠a/2:=by
 rw[kh G.jj]at h
 obtain⟨_,_,_,hn⟩:=G.ok _ h
 dsimp only at hn
 intro z
 apply hn
 rcases Int.le_total a b with c |c
 ·rw[bz c,bD c];exact z.symm
 ·rw[bC c,bA c];exact z
theorem GQ (G:hG l)(h:b∈jn l.2 (oth a)):Rch l [a] [b]:=by
 have oh:oth a/2=a/2:=by unfold oth;omega
 have hn:=FU G h
 rw[oh]at hn
 exact⟨_,Go.nil.snoc (m:=onM [a] b) (aG _ (ai.mpr ⟨b,iJ.mpr ⟨h,by simpa using hn⟩,rfl⟩))⟩
theorem CV (G:hG l)(h:b∈jn l.2 a):Rch l [a] [oth b]:=by
 have hn:=FU G h
 exact⟨_,Go.nil.snoc (m:=ll [a] b) (az _ (ai.mpr ⟨b,iJ.mpr ⟨h,by simpa using hn⟩,rfl⟩))⟩
theorem uk (x:Int):(∃ a,x=fe a)\/∃ a,x=oth (fe a):=by
 have h:x%4=0\/x%4=1\/x%4=2\/x%4=3:=by omega
 rcases h with h |h |h |h
 ·exact .inl ⟨x/2,by unfold fe;omega⟩
 ·exact .inr ⟨2*(x/4),by unfold fe oth;omega⟩
 ·exact .inr ⟨2*(x/4)+1,by unfold fe oth;omega⟩
 ·exact .inl ⟨x/2,by unfold fe;omega⟩
theorem FN (a:Int):ph (f2 a)=a:=by unfold f2;rw[tG,i6]
theorem EG (G:hG l)(hm:m∈mvs (fl l) [x]):∃ y,m.2 = [y]/\Rch l [ph x] [ph y]:=by
 unfold mvs at hm
 rcases ay.mp hm with q |q
 ·obtain⟨y,hy,rfl⟩:=ai.mp q
  have h1:y∈jn (fl l).2 (oth x):=(iJ.mp hy).1
  refine⟨y,rfl,?_⟩
  rcases uk x with⟨a,rfl⟩|⟨a,rfl⟩
  ·rw[AN G h1,FN,vJ];exact Rch.rfl' _
  ·rw[i6]at h1
   obtain⟨b,hb,rfl⟩:=wZ G h1
   rw[vJ,tG]
   exact GQ G (by rw[i6];exact hb)
 ·obtain⟨y,hy,rfl⟩:=ai.mp q
  have h1:y∈jn (fl l).2 x:=(iJ.mp hy).1
  refine⟨oth y,rfl,?_⟩
  rcases uk x with⟨a,rfl⟩|⟨a,rfl⟩
  ·obtain⟨b,hb,rfl⟩:=wZ G h1
   rw[vJ,tG]
   exact CV G hb
  ·rw[AN G h1,pZ,vJ,tG];exact Rch.rfl' _
theorem FL (G:hG l){ws:List Str}{s:List Int}(g:Go (fl l) [x] ws s):∃ y,s = [y]/\Rch l [ph x] [ph y]:=by
 induction g with
 |nil=>exact⟨x,rfl,Rch.rfl' _⟩
 |snoc _ hm ih=>
  obtain⟨y,rfl,h⟩:=ih
  obtain⟨z,e,h2⟩:=EG G hm
  exact⟨z,e,h.trans h2⟩
theorem BR (G:hG l){y:Int}(h:y∈jn (fl l).2 (oth x))(hn:y/2≠x/2):Rch (fl l) [x] [y]:=
 ⟨_,Go.nil.snoc (m:=onM [x] y) (aG _ (ai.mpr ⟨y,iJ.mpr ⟨h,by simpa using hn⟩,rfl⟩))⟩
theorem yG (G:hG l){y:Int}(h:y∈jn (fl l).2 x)(hn:y/2≠x/2):Rch (fl l) [x] [oth y]:=
 ⟨_,Go.nil.snoc (m:=ll [x] y) (az _ (ai.mpr ⟨y,iJ.mpr ⟨h,by simpa using hn⟩,rfl⟩))⟩
theorem BS (G:hG l){p:Int}(h0:0<=p)(h1:p<l.1):(Rch (fl l) [2*(2*p)] [oth (2*(2*p))]↔Rch l [2*p] [oth (2*p)])/\(Rch (fl l) [2*(2*p+1)] [oth (2*(2*p+1))]↔Rch l [2*p] [oth (2*p)]):=by
 have ok:=G.jj
 have ok2:=qC G
 have T:fW l [2*p]:=⟨λe he=>by rw[aZ.mp he];omega,by simp,λi x y hx hy=>by simp at hy⟩
 have o1:oth (2*p)=2*p+1:=by unfold oth;omega
 have a1:fe (2*p)=2*(2*p):=by unfold fe;omega
 have a2:f2 (2*p)=2*(2*p+1):=by unfold f2;rw[o1];unfold fe oth;omega
 have a3:fe (2*p+1)=2*(2*p)+3:=by unfold fe;omega
 have a4:f2 (2*p+1)=2*(2*p)+1:=by unfold f2 fe oth;omega
 have o2:oth (2*(2*p))=2*(2*p)+1:=by unfold oth;omega
 have o3:oth (2*(2*p+1))=2*(2*p)+3:=by unfold oth;omega
 have lift:Rch l [2*p] [oth (2*p)]->Rch (fl l) [fe (2*p)] [fe (2*p+1)]/\Rch (fl l) [f2 (2*p)] [f2 (2*p+1)]:=λ⟨ws,g⟩=>by
  have g:=uv G T (by simp) g
  obtain⟨d,hd⟩:=Gx ⟨_,g⟩
  rw[o1]at hd
  have TF:=AU G T
  have w0:=Gd.win ok2 TF (by simp[ft]) (f:=0) (p:=1) (by decide) (by rw[ur];simp) hd
  have w1:=Gd.win ok2 TF (by simp[ft]) (f:=1) (p:=1) (by decide) (by rw[ur];simp) hd
  exact⟨zU w0,zU w1⟩
 have mid:=w5 G (a:=2*p+1) (by omega) (by omega)
 have IW:=w5 G (a:=2*p) (by omega) (by omega)
 refine⟨⟨λ⟨ws,g⟩=>?_,λh=>?_⟩,⟨λ⟨ws,g⟩=>?_,λh=>?_⟩⟩
 ·obtain⟨y,e,r⟩:=FL G g
  have e:y=oth (2*(2*p)):=by simpa using e.symm
  rw[e,<-a1,vJ,tG]at r
  exact r
 ·have r:=(lift h).1
  have r2:=BR G (x:=fe (2*p+1)) mid (by rw[qD,jo];unfold oth;omega)
  have:=r.trans r2
  rw[a1,a4]at this
  rw[o2];exact this
 ·obtain⟨y,e,r⟩:=FL G g
  have e:y=oth (2*(2*p+1)):=by simpa using e.symm
  rw[e,<-a2,FN,pZ,vJ]at r
  exact r
 ·have r:=(lift h).2
  have e5:oth (fe (2*p))=f2 (2*p+1):=by rw[a1,a4,o2]
  rw[e5]at IW
  have r2:=yG G (x:=f2 (2*p+1)) IW (by rw[qD,qD];unfold oth;omega)
  rw[pZ,o1]at r2
  have:=r.trans r2
  rw[a2,a3]at this
  rw[o3];exact this
end
theorem yR:∀ ws:List Str,jJ (ws.flatMap λw=>[w,w])=jJ ws
 |[]=>rfl
 |[a]=>by simp[jJ]
 |a::b::r=>by
  have ih:=yR (b::r)
  rw[cJ]at ih ⊢
  show jJ (a::a::((b::r).flatMap λw=>[w,w]))=_
  rw[cJ]
  show jJ (a::a::b::(b::r.flatMap λw=>[w,w]))=_
  have ih:jJ (b::b::r.flatMap λw=>[w,w])=jJ (b::r):=ih
  rw[jJ,aM rfl,jJ,ih,jJ];omega
theorem two_len (ws:List Str):(ws.flatMap λw=>[w,w]).length=2*ws.length:=by
 induction ws with
 |nil=>rfl
 |cons a r ih=>rw[cJ,ah,ih];simp;omega
section
variable {l:Ln}
def uT (run:List (Str×Int)):List (Str×Int):=run.flatMap λk=>[(k.1,fe k.2),(k.1,f2 k.2)]
theorem nW.fin (G:hG l){s t:List Int}(T:fW l s)(hne:s≠ [])(h:nW l s run t):nW (fl l) (ft s) (uT run) (ft t)/\fW l t/\t≠ []:=by
 induction h with
 |nil=>exact⟨.nil,T,hne⟩
 |snoc g hm ih=>
  rename_i run t m
  obtain⟨h1,T1,n1⟩:=ih
  obtain⟨m1,a1,m2,a2,e1,e2,e3⟩:=yH G T1 n1 hm
  have g2:=(h1.snoc a1).snoc a2
  rw[e1,e2,e3]at g2
  refine⟨?_,?_,?_⟩
  ·unfold uT at g2 ⊢
   rw[dA]
   simpa using g2
  ·have gg:Go l t [m.1.1] m.2:=Go.nil.snoc hm
   exact(gg.ok G.jj T1 n1).1
  ·have gg:Go l t [m.1.1] m.2:=Go.nil.snoc hm
   exact(gg.ok G.jj T1 n1).2.2
theorem zc.fin (G:hG l){s t:List Int}{c n' c':Nat}(T:fW l s)(hne:s≠ [])(h:zc l s t n c)(k:zc (fl l) (ft s) (ft t) n' c'):n'<=2*n/\c'<=c:=by
 obtain⟨w1,g1,e1⟩:=h.a
 obtain⟨w2,g2,e2⟩:=h.x
 have h1:=k.b _ (uv G T hne g1)
 have h2:=k.y _ (uv G T hne g2)
 rw[two_len,e1]at h1
 rw[yR,e2]at h2
 exact⟨h1,h2⟩
end
end TL
namespace K52
open PySem L2 TL PyProof.Rows
abbrev St:=L2.St
def top (i:Nat):Stmt:=PySem.Challenge.pw_turnline_k52_whole_finer_runs.main.body.getD i (.Pass ⟨0,0,0,0⟩)
def jL:Sp:=λvs H Q _=>∃ e:Int,vs = [.int e]/\Q (.int (oth e)) H
def wc:Sp:=λvs H Q _=>∃ e:Int,vs = [.int e]/\Q (.int (e/2)) H
def wj (K:PySem.W.Frag):Sp:=λvs H Q _=>∃ (a:Addr) (ns:List Int) (k:Int),vs = [.ref a,.int k]/\SqL K H a (ns.map V.int)/\0<=k/\∀ c,Q (.int c) H
def sT:Sp:=λvs H Q _=>∃ c k:Int,vs = [.int c,.int k]/\0<=k/\k<=1000/\∀ n,0<=n->n<2147483648->Q (.int n) H
abbrev iC:Stmt:=top 10
theorem wq:fK ["end"] ["end"] (fx iC):=⟨rfl,rfl,rfl,by decide +kernel,rfl,by decide +kernel,by decide +kernel⟩
abbrev lV:Stmt:=top 11
theorem xV:fK ["end"] ["end"] (fx lV):=⟨rfl,rfl,rfl,by decide +kernel,rfl,by decide +kernel,by decide +kernel⟩
abbrev jU:Stmt:=top 50
theorem wu:fK ["_law_end"] ["_law_end"] (fx jU):=⟨rfl,rfl,rfl,by decide +kernel,rfl,by decide +kernel,by decide +kernel⟩
abbrev jM:Stmt:=top 47
theorem sY:fK ["_law_script","_law_k"] ["_law_script","_law_k"] (fx jM):=⟨rfl,rfl,rfl,by decide +kernel,rfl,by decide +kernel,by decide +kernel⟩
abbrev kC:Stmt:=top 48
theorem lU:fK ["_law_cell","_law_k","_law_again","_law_number"] ["_law_cell","_law_k"] (fx kC):=⟨rfl,rfl,rfl,by decide +kernel,rfl,by decide +kernel,by decide +kernel⟩
section
variable {P:Program}{w:World}{K:PySem.W.Frag}{mg:Str->Option Value}{base:Heap}{f:Addr}{fd:FuncData}{D c1 c2 c3 c4 c5 c6 c7:Addr}
theorem kg (F:Fn K mg "other_end" iC ["end"] f fd):fE P w K mg base CX0 1 f fd ["end"] jL:=by
 refine F.F.ok wq (λvs H Q E h=>?_) (λcdv A outer s H vs Q E hr h=>?_)
 ·obtain⟨e,rfl,_⟩:=h;rfl
 ·obtain⟨e,rfl,k⟩:=h
  refine⟨_,(fo (fL (fD GJ (pv 0) fk))),?_⟩
  refine⟨_,rfl,_,_,rfl,rfl,?_⟩
  show Q (.int (Builtin.bitXor e 1)) H
  rw[Ef];exact k
theorem rR (F:Fn K mg "piece_of" lV ["end"] f fd):fE P w K mg base CX0 1 f fd ["end"] wc:=by
 refine F.F.ok xV (λvs H Q E h=>?_) (λcdv A outer s H vs Q E hr h=>?_)
 ·obtain⟨e,rfl,_⟩:=h;rfl
 ·obtain⟨e,rfl,k⟩:=h
  refine⟨_,(fo (fL (fD jm (pv 0) fk))),?_⟩
  exact⟨_,rfl,_,_,rfl,rfl,⟨by decide,by decide⟩,k⟩
theorem nK (F:Fn K mg "_law_other" jU ["_law_end"] f fd):fE P w K mg base CX0 1 f fd ["_law_end"] jL:=by
 refine F.F.ok wu (λvs H Q E h=>?_) (λcdv A outer s H vs Q E hr h=>?_)
 ·obtain⟨e,rfl,_⟩:=h;rfl
 ·obtain⟨e,rfl,k⟩:=h
  refine⟨_,(fo (fL (fD zA (fD ig (pv 0) fk) (fD iH fk (fD ie (pv 0) fk))))),?_⟩
  exact⟨_,rfl,_,_,rfl,rfl,_,rfl,_,_,rfl,rfl,by show(0:Int)<2;decide,_,_,rfl,rfl,.inl ⟨by decide,by decide⟩,_,_,rfl,rfl,k⟩
theorem ox (F:Fn K mg "_law_cell_at" jM ["_law_script","_law_k"] f fd)(B:Bl mg):fE P w K mg base CX0 1 f fd ["_law_script","_law_k"] (wj K):=by
 refine F.F.ok sY (λvs H Q E h=>?_) (λcdv A outer s H vs Q E hr h=>?_)
 ·obtain⟨a,ns,k,rfl,_⟩:=h;rfl
 ·obtain⟨a,ns,k,rfl,hS,h0,q⟩:=h
  refine⟨_,(fj (hZ (gz (tJ (pv 1) (fN gq rfl B.len cN (eZ (pv 0) fh))))
 (fo (fL (gv gJ (pv 0) (pv 1) (λ_ _=>rfl)))) fT)
 (fo (fL fk))),?_⟩
  refine⟨_,rfl,_,rfl,a,_,rfl,.inl hS,_,_,rfl,rfl,_,rfl,gZ (λhlt=>?_) (λ_=>?_)⟩
  ·have hlt:k<((ns.map V.int).length:Int):=by simpa using hlt
   rw[aa]at hlt
   have hg:(ns.map V.int)[k.toNat]? = some (V.int (ns.getD k.toNat 0)):=by
    rw[ao,aJ]
    have:k.toNat<ns.length:=by omega
    simp[this]
   have e1:((k.toNat:Nat):Int)=k:=by omega
   exact⟨_,rfl,_,rfl,a,_,k,_,rfl,rfl,hS,by have h:=ko hg;rw[e1]at h;exact h,q _⟩
  ·exact q _
theorem nL (F:Fn K mg "_law_mix" kC ["_law_cell","_law_k"] f fd)(B:Bl mg):fE P w K mg base CX0 1 f fd ["_law_cell","_law_k"] sT:=by
 refine F.F.ok lU (λvs H Q E h=>?_) (λcdv A outer s H vs Q E hr h=>?_)
 ·obtain⟨c,k,rfl,_⟩:=h;rfl
 ·obtain⟨c,k,rfl,h0,h1,q⟩:=h
  refine⟨_,(fj (hZ (gz (FO (pv 0) (fD zB fk fk)))
 (fj (iy aW rfl (kF rfl B.range (eZ (pv 1) fh)) (fy (i:=2) lU.nd rfl (Or.inl rfl))
 (fo (fC (i:=0) lU.nd rfl (Or.inl rfl) (fD jm (pv 0) (fD zB fk fk)))))
 (fo (fL (fD ie (pv 0) (fD zB fk fk))))) fT)
 (fj (fC (i:=3) lU.nd rfl (Or.inl rfl) (fD ie (fD iH (fD ig (fD ig (fD ie (pv 0) fk) (fD iH (fD iH (pv 1) (pv 1)) fk)) (pv 1)) fk) fk))
 (fj (fC (i:=3) lU.nd rfl (Or.inl rfl) (fD ie (fD iH (pv 3) (pv 3)) fk))
 (fo (fL (fD jm (fD ie (fD iH (pv 3) (fD ig (pv 3) fk)) fk) fk)))))),?_⟩
  refine⟨_,rfl,_,_,rfl,rfl,⟨by decide,by decide,by decide⟩,_,_,rfl,rfl,_,rfl,gZ (λhlt=>?_) (λ_=>?_)⟩
  ·refine⟨_,rfl,_,rfl,by omega,by omega,pC (λi σ H2=>H2=H/\∃ (c:Int) (x:Option V),σ = [some (.int c),some (.int k),x,none]) ⟨rfl,c,none,rfl⟩ ?_ ?_⟩
   ·rintro i σ H2 hi ⟨rfl,c,x,rfl⟩
    exact⟨_,rfl,_,_,rfl,rfl,⟨by decide,by decide,by decide⟩,_,_,rfl,rfl,⟨by decide,by decide⟩,rfl,_,_,rfl⟩
   ·rintro σ H2 ⟨rfl,c,x,rfl⟩
    refine⟨_,rfl,_,_,rfl,rfl,⟨by decide,by decide,by decide⟩,_,_,rfl,rfl,(by show(0:Int)<_;decide),q _ ?_ ?_⟩
    ·show 0<=c%(10 ^ 6);omega
    ·show c%(10 ^ 6)<_;omega
  ·refine⟨_,rfl,_,_,rfl,rfl,(by show(0:Int)<_;decide),_,rfl,_,rfl,_,_,rfl,rfl,.inl ⟨by omega,by omega⟩,_,_,rfl,rfl,.inr ⟨by decide,by decide⟩,_,_,rfl,rfl,_,rfl,_,_,rfl,rfl,_,_,rfl,rfl,.inr ⟨by decide,by decide⟩,_,_,rfl,rfl,(by show(0:Int)<_;decide),?_⟩
   dsimp only
   generalize hn:(c%1000003+k*k*7919+k)*48271%2147483629=n
   have n0:0<=n:=by omega
   have n1:n<2147483629:=by omega
   refine⟨_,rfl,_,rfl,_,_,rfl,rfl,.inl ⟨by omega,by omega⟩,_,_,rfl,rfl,(by show(0:Int)<_;decide),?_⟩
   dsimp only
   generalize hm:n*n%2147483587=m
   have m0:0<=m:=by omega
   have m1:m<2147483587:=by omega
   refine⟨_,rfl,_,rfl,_,_,rfl,rfl,_,_,rfl,rfl,.inl ⟨by omega,by omega⟩,_,_,rfl,rfl,(by show(0:Int)<_;decide),_,_,rfl,rfl,⟨by decide,by decide⟩,q _ ?_ ?_⟩
   ·show 0<=m*(m+2)%2147483579/7;omega
   ·show m*(m+2)%2147483579/7<_;omega
end
theorem gE {n:Nat}(h:n<=1000):n<sizeLine:=cj h (by decide)
variable {K:PySem.W.Frag}{H:Hp}
theorem qE {js:List (Int×Int)}{vs:List V}(h:Das K H (js.map dP) vs):vs.length=js.length:=by rw[Dgs.length h,aa]
theorem pG {l:Int×List (Int×Int)}(h:fG l)(e:Int):(below l.2 e).length+(above l.2 e).length<=60:=h.inc e
def lM (K:PySem.W.Frag):Sp:=λvs H Q _=>∃ (v:V) (l:Int×List (Int×Int)) (e:Int),vs = [v,.int e]/\Da K H (dL l) v/\fG l/\qJ H (jn l.2 e) Q
def sQ (K:PySem.W.Frag):Sp:=λvs H Q _=>∃ (v:V) (ns:List Int),vs = [v]/\Da K H (dI ns) v/\ns.length<=1000/\qJ H (ns.reverse.map oth) Q
def Aq (K:PySem.W.Frag):Sp:=λvs H Q _=>∃ (v u:V) (l:Int×List (Int×Int)) (ns:List Int) (e:Int),vs = [v,u,.int e]/\Da K H (dL l) v/\Da K H (dI ns) u/\fG l/\ns.length<=1000/\qJ H (fr l ns e) Q
def mT (K:PySem.W.Frag):Sp:=λvs H Q _=>∃ (v u:V) (l:Int×List (Int×Int)) (ns:List Int),vs = [v,u]/\Da K H (dL l) v/\Da K H (dI ns) u/\fG l/\ns≠ []/\ns.length<=900/\Ec K H (mvs l ns) Q
abbrev lW:Stmt:=top 13
theorem oZ:fK ["line","end","joints","above","below"] ["line","end"] (fx lW):=⟨rfl,rfl,rfl,by decide +kernel,rfl,by decide +kernel,by decide +kernel⟩
theorem oJ:gH (fx lW) ["line","end","joints","above","below"] {kind:=.function,names:=[(Str.ofString ".0",.local),(Str.ofString "low",.local),(Str.ofString "high",.local),(Str.ofString "end",.free)],isGenerator:=false,isCoroutine:=false,more:=[]} ["low","high","end"] 2 [none,none,some 1]:=⟨rfl,by decide +kernel,by decide +kernel,by decide +kernel,rfl,by decide +kernel,rfl,by decide +kernel⟩
theorem oI:gH (fx lW) ["line","end","joints","above","below"] {kind:=.function,names:=[(Str.ofString ".0",.local),(Str.ofString "low",.local),(Str.ofString "high",.local),(Str.ofString "end",.free)],isGenerator:=false,isCoroutine:=false,more:=[]} ["low","high","end"] 2 [none,none,some 1]:=⟨rfl,by decide +kernel,by decide +kernel,by decide +kernel,rfl,by decide +kernel,rfl,by decide +kernel⟩
abbrev i4:Stmt:=top 51
theorem uN:fK ["_law_line_here","_law_end"] ["_law_line_here","_law_end"] (fx i4):=⟨rfl,rfl,rfl,by decide +kernel,rfl,by decide +kernel,by decide +kernel⟩
theorem lx:gH (fx i4) ["_law_line_here","_law_end"] {kind:=.function,names:=[(Str.ofString ".0",.local),(Str.ofString "_law_a",.local),(Str.ofString "_law_b",.local),(Str.ofString "_law_end",.free)],isGenerator:=false,isCoroutine:=false,more:=[]} ["_law_a","_law_b","_law_end"] 2 [none,none,some 1]:=⟨rfl,by decide +kernel,by decide +kernel,by decide +kernel,rfl,by decide +kernel,rfl,by decide +kernel⟩
theorem lu:gH (fx i4) ["_law_line_here","_law_end"] {kind:=.function,names:=[(Str.ofString ".0",.local),(Str.ofString "_law_a",.local),(Str.ofString "_law_b",.local),(Str.ofString "_law_end",.free)],isGenerator:=false,isCoroutine:=false,more:=[]} ["_law_a","_law_b","_law_end"] 2 [none,none,some 1]:=⟨rfl,by decide +kernel,by decide +kernel,by decide +kernel,rfl,by decide +kernel,rfl,by decide +kernel⟩
abbrev mU:Stmt:=top 20
theorem Bj:fK ["train"] ["train"] (fx mU):=⟨rfl,rfl,rfl,by decide +kernel,rfl,by decide +kernel,by decide +kernel⟩
theorem rT:gH (fx mU) ["train"] {kind:=.function,names:=[(Str.ofString ".0",.local),(Str.ofString "end",.local),(Str.ofString "other_end",.globalImplicit)],isGenerator:=false,isCoroutine:=false,more:=[]} ["end"] 1 [none]:=⟨rfl,by decide +kernel,by decide +kernel,by decide +kernel,rfl,by decide +kernel,rfl,by decide +kernel⟩
abbrev jW:Stmt:=top 21
theorem qm:fK ["line","train","end","pieces"] ["line","train","end"] (fx jW):=⟨rfl,rfl,rfl,by decide +kernel,rfl,by decide +kernel,by decide +kernel⟩
theorem oM:gH (fx jW) ["line","train","end","pieces"] {kind:=.function,names:=[(Str.ofString ".0",.local),(Str.ofString "own",.local),(Str.ofString "piece_of",.globalImplicit)],isGenerator:=false,isCoroutine:=false,more:=[]} ["own"] 1 [none]:=⟨rfl,by decide +kernel,by decide +kernel,by decide +kernel,rfl,by decide +kernel,rfl,by decide +kernel⟩
theorem oK:gH (fx jW) ["line","train","end","pieces"] {kind:=.function,names:=[(Str.ofString ".0",.local),(Str.ofString "there",.local),(Str.ofString "piece_of",.globalImplicit),(Str.ofString "pieces",.free)],isGenerator:=false,isCoroutine:=false,more:=[]} ["there","pieces"] 1 [none,some 3]:=⟨rfl,by decide +kernel,by decide +kernel,by decide +kernel,rfl,by decide +kernel,rfl,by decide +kernel⟩
abbrev kB:Stmt:=top 22
theorem mz:fK ["line","train","told","end"] ["line","train"] (fx kB):=⟨rfl,rfl,rfl,by decide +kernel,rfl,by decide +kernel,by decide +kernel⟩
abbrev kY:Stmt:=top 56
theorem j9:fK ["_law_line_here","_law_train_here","_law_end","_law_pieces","_law_found"] ["_law_line_here","_law_train_here"] (fx kY):=⟨rfl,rfl,rfl,by decide +kernel,rfl,by decide +kernel,by decide +kernel⟩
theorem oF:gH (fx kY) ["_law_line_here","_law_train_here","_law_end","_law_pieces","_law_found"] {kind:=.function,names:=[(Str.ofString ".0",.local),(Str.ofString "_law_end",.local)],isGenerator:=false,isCoroutine:=false,more:=[]} ["_law_end"] 1 [none]:=⟨rfl,by decide +kernel,by decide +kernel,by decide +kernel,rfl,by decide +kernel,rfl,by decide +kernel⟩
variable {f1:Addr}{fd1 fd2:FuncData}
section
variable {P:Program}{w:World}{K:PySem.W.Frag}{mg:Str->Option Value}{base:Heap}{f:Addr}{fd:FuncData}{D c1 c2 c3 c4 c5 c6 c7:Addr}
theorem vO (F:Fn K mg "joined" lW ["line","end"] f fd)(B:Bl mg):fE P w K mg base CX0 1 f fd ["line","end"] (lM K):=by
 refine F.F.ok oZ (λvs H Q E h=>?_) (λcdv A outer s H vs Q E hr h=>?_)
 ·obtain⟨v,l,e,rfl,_⟩:=h;rfl
 ·obtain⟨v,l,e,rfl,hv,ok,k⟩:=h
  obtain⟨a,b,rfl,ht,us,hl,hq⟩:=lK hv
  have hlen:=qE hq
  have hz:us.length<sizeLine:=gE (by rw[hlen];have:=ok.len;omega)
  refine⟨_,(fj (fC (i:=2) oZ.nd rfl (Or.inl rfl) (gv iq (pv 0) fk (λ_ _=>rfl)))
 (fj (rQ (i:=3) oZ.nd rfl rfl (gj (pv 2)) rfl oJ (.tup (.cons (.name (by decide)) (.cons (.name (by decide)) .nil))) (λ_ _ _ _=>(iz (n:=2) rfl (fF (fy (i:=0) oJ.nd rfl (Or.inl rfl)) (fF (fy (i:=1) oJ.nd rfl (Or.inl rfl)) gS)))) (λ_ _ _ _=>(lY (gz (lZ (pv 0) (pv 2))))) (λ_ _ _ _=>(pv 1)))
 (fj (rQ (i:=4) oZ.nd rfl rfl (gj (pv 2)) rfl oI (.tup (.cons (.name (by decide)) (.cons (.name (by decide)) .nil))) (λ_ _ _ _=>(iz (n:=2) rfl (fF (fy (i:=0) oI.nd rfl (Or.inl rfl)) (fF (fy (i:=1) oI.nd rfl (Or.inl rfl)) gS)))) (λ_ _ _ _=>(lY (gz (lZ (pv 1) (pv 2))))) (λ_ _ _ _=>(pv 0)))
 (fo (fL (fN rW rfl B.sorted boot_sorted (eZ (fD mH (pv 4) (pv 3)) fh))))))),?_⟩
  refine⟨_,rfl,a,_,_,_,rfl,rfl,ht,rfl,?_⟩
  refine⟨_,rfl,b,rfl,⟨us,hl⟩,λl1 n1=>lJ l.2 (λp=>decide (p.1=e)) (λp=>V.int p.2) n1 hl hlen hz ?_ ?_⟩
  ·intro i x d H' hx hd sm P1 P0 k1 k0
   obtain⟨ad,p,e1,rfl,hp⟩:=nk (Das.same sm hq) hx
   rw[hd]at e1;cases e1
   refine⟨ad,_,rfl,hp,rfl,_,_,rfl,_,_,rfl,rfl,_,rfl,_,rfl,_,_,rfl,rfl,_,rfl,gZ (λh=>⟨_,rfl,k1 h⟩) (λh=>k0 (by simpa using h))⟩
  have s1:fu H (upd H l1 (.lst (above l.2 e |>.map V.int))):=fb n1
  have e1:((l.2.filter λp=>decide (p.1=e)).map λp=>V.int p.2)=(above l.2 e).map V.int:=by unfold above;rw[bJ];rfl
  rw[e1]
  refine⟨_,rfl,b,rfl,⟨us,s1.seq hl⟩,λl2 n2=>lJ l.2 (λp=>decide (p.2=e)) (λp=>V.int p.1) n2 (s1.seq hl) hlen hz ?_ ?_⟩
  ·intro i x d H' hx hd sm P1 P0 k1 k0
   obtain⟨ad,p,e1,rfl,hp⟩:=nk (Das.same (s1.trans sm) hq) hx
   rw[hd]at e1;cases e1
   refine⟨ad,_,rfl,hp,rfl,_,_,rfl,_,_,rfl,rfl,_,rfl,_,rfl,_,_,rfl,rfl,_,rfl,gZ (λh=>⟨_,rfl,k1 h⟩) (λh=>k0 (by simpa using h))⟩
  have e2:((l.2.filter λp=>decide (p.2=e)).map λp=>V.int p.1)=(below l.2 e).map V.int:=by unfold below;rw[bJ];rfl
  rw[e2]
  have g1:(upd (upd H l1 (.lst (above l.2 e |>.map V.int))) l2 (.lst (below l.2 e |>.map V.int))) l1=some (.lst (above l.2 e |>.map V.int)):=by
   rw[fm (fw fg n2),fg]
  have hb:=pG ok e
  have s2:fu H (upd (upd H l1 (.lst (above l.2 e |>.map V.int))) l2 (.lst (below l.2 e |>.map V.int))):=s1.trans (fb n2)
  refine⟨_,rfl,_,rfl,l2,l1,_,_,rfl,rfl,fg,g1,bO (gE (by rw[aa,aa];omega)),λp hp=>?_⟩
  refine⟨p,below l.2 e++above l.2 e,rfl,SqL.of (by rw[fg,aw]),(by rw[ah];omega),λp2 hp2=>?_⟩
  refine k p2 _ (s2.trans ((fb hp).trans (fb hp2))) (fu.free (s2.trans (fb hp)) hp2) fg
theorem pO (F:Fn K mg "_law_joined" i4 ["_law_line_here","_law_end"] f fd)(B:Bl mg):fE P w K mg base CX0 1 f fd ["_law_line_here","_law_end"] (lM K):=by
 refine F.F.ok uN (λvs H Q E h=>?_) (λcdv A outer s H vs Q E hr h=>?_)
 ·obtain⟨v,l,e,rfl,_⟩:=h;rfl
 ·obtain⟨v,l,e,rfl,hv,ok,k⟩:=h
  obtain⟨a,b,rfl,ht,us,hl,hq⟩:=lK hv
  have hlen:=qE hq
  have hz:us.length<sizeLine:=gE (by rw[hlen];have:=ok.len;omega)
  refine⟨_,(fo (fL (fN rW rfl B.sorted boot_sorted (eZ (fD mH (nV (gj (gv iq (pv 0) fk (λ_ _=>rfl))) rfl lx (.tup (.cons (.name (by decide)) (.cons (.name (by decide)) .nil))) (λ_ _ _ _=>(iz (n:=2) rfl (fF (fy (i:=0) lx.nd rfl (Or.inl rfl)) (fF (fy (i:=1) lx.nd rfl (Or.inl rfl)) gS)))) (λ_ _ _ _=>(lY (gz (lZ (pv 0) (pv 2))))) (λ_ _ _ _=>(pv 1))) (nV (gj (gv iq (pv 0) fk (λ_ _=>rfl))) rfl lu (.tup (.cons (.name (by decide)) (.cons (.name (by decide)) .nil))) (λ_ _ _ _=>(iz (n:=2) rfl (fF (fy (i:=0) lu.nd rfl (Or.inl rfl)) (fF (fy (i:=1) lu.nd rfl (Or.inl rfl)) gS)))) (λ_ _ _ _=>(lY (gz (lZ (pv 1) (pv 2))))) (λ_ _ _ _=>(pv 0)))) fh)))),?_⟩
  refine⟨_,rfl,a,_,_,_,rfl,rfl,ht,rfl,b,rfl,⟨us,hl⟩,λl1 n1=>lJ l.2 (λp=>decide (p.1=e)) (λp=>V.int p.2) n1 hl hlen hz ?_ ?_⟩
  ·intro i x d H' hx hd sm P1 P0 k1 k0
   obtain⟨ad,p,e1,rfl,hp⟩:=nk (Das.same sm hq) hx
   rw[hd]at e1;cases e1
   refine⟨ad,_,rfl,hp,rfl,_,_,rfl,_,_,rfl,rfl,_,rfl,_,rfl,_,_,rfl,rfl,_,rfl,gZ (λh=>⟨_,rfl,k1 h⟩) (λh=>k0 (by simpa using h))⟩
  have s1:fu H (upd H l1 (.lst (above l.2 e |>.map V.int))):=fb n1
  have e1:((l.2.filter λp=>decide (p.1=e)).map λp=>V.int p.2)=(above l.2 e).map V.int:=by unfold above;rw[bJ];rfl
  rw[e1]
  refine⟨_,rfl,a,_,_,_,rfl,rfl,gi s1 ht,rfl,b,rfl,⟨us,s1.seq hl⟩,λl2 n2=>lJ l.2 (λp=>decide (p.2=e)) (λp=>V.int p.1) n2 (s1.seq hl) hlen hz ?_ ?_⟩
  ·intro i x d H' hx hd sm P1 P0 k1 k0
   obtain⟨ad,p,e1,rfl,hp⟩:=nk (Das.same (s1.trans sm) hq) hx
   rw[hd]at e1;cases e1
   refine⟨ad,_,rfl,hp,rfl,_,_,rfl,_,_,rfl,rfl,_,rfl,_,rfl,_,_,rfl,rfl,_,rfl,gZ (λh=>⟨_,rfl,k1 h⟩) (λh=>k0 (by simpa using h))⟩
  have e2:((l.2.filter λp=>decide (p.2=e)).map λp=>V.int p.1)=(below l.2 e).map V.int:=by unfold below;rw[bJ];rfl
  rw[e2]
  have g1:(upd (upd H l1 (.lst (above l.2 e |>.map V.int))) l2 (.lst (below l.2 e |>.map V.int))) l1=some (.lst (above l.2 e |>.map V.int)):=by
   rw[fm (fw fg n2),fg]
  have hb:=pG ok e
  have s2:fu H (upd (upd H l1 (.lst (above l.2 e |>.map V.int))) l2 (.lst (below l.2 e |>.map V.int))):=s1.trans (fb n2)
  refine⟨l1,l2,_,_,rfl,rfl,g1,fg,bO (gE (by rw[aa,aa];omega)),λp hp=>?_⟩
  refine⟨p,above l.2 e++below l.2 e,rfl,SqL.of (by rw[fg,aw]),(by rw[ah];omega),λp2 hp2=>?_⟩
  rw[IZ]
  exact k p2 _ (s2.trans ((fb hp).trans (fb hp2))) (fu.free (s2.trans (fb hp)) hp2) fg
theorem vN (F:Fn K mg "turned" mU ["train"] f fd)(B:Bl mg)(fz:Fn K mg "other_end" iC ["end"] f1 fd1):fE P w K mg base CX0 2 f fd ["train"] (sQ K):=by
 have ik:fE P w K mg base CX0 1 f1 fd1 ["end"] jL:=kg fz
 refine F.F.ok Bj (λvs H Q E h=>?_) (λcdv A outer s H vs Q E hr h=>?_)
 ·obtain⟨v,l,rfl,_⟩:=h;rfl
 ·obtain⟨v,ns,rfl,hv,hz,k⟩:=h
  obtain⟨a,rfl,hS⟩:=jq.mp hv
  refine⟨_,(fo (fL (nV (GC rfl B.reversed (eZ (pv 0) fh)) rfl rT (.name (by decide)) (λ_ _ _ _=>(fy (i:=0) rT.nd rfl (Or.inl rfl))) (λ_ _ _ _=>iG) (λ_ _ _ _=>(fv ik (hr.mono (by decide)) rfl fz.m fz.F.kp fz.b .nil fJ (eZ (pv 0) fh)))))),?_⟩
  refine⟨_,rfl,a,_,rfl,hS,λl1 n1=>yr (Hg hS) ns.reverse (λ_=>true) (λe=>V.int (oth e)) n1 (by rw[aa,cA]) (by rw[aa];exact gE hz) ?_ ?_⟩
  ·intro i x d H' hx hd sm P1 P0 k1 k0
   rw[<-eX,ao,hd]at hx
   cases hx
   refine jw ?_
   exact⟨_,rfl,d,rfl,k1 rfl⟩
  rw[lP]
  refine k l1 _ (fb n1) n1 ?_
  rw[fg,bJ];rfl
theorem wU {f2:Addr}(F:Fn K mg "free_ends" jW ["line","train","end"] f fd)(B:Bl mg)(gQ:Fn K mg "piece_of" lV ["end"] f1 fd1)(jd:Fn K mg "joined" lW ["line","end"] f2 fd2):
  fE P w K mg base CX0 2 f fd ["line","train","end"] (Aq K):=by
 have nS:fE P w K mg base CX0 1 f1 fd1 ["end"] wc:=rR gQ
 have uK:fE P w K mg base CX0 1 f2 fd2 ["line","end"] (lM K):=vO jd B
 refine F.F.ok qm (λvs H Q E h=>?_) (λcdv A outer s H vs Q E hr h=>?_)
 ·obtain⟨v,u,l,ns,e,rfl,_⟩:=h;rfl
 ·obtain⟨v,u,l,ns,e,rfl,hv,hu,ok,hz,k⟩:=h
  obtain⟨a,rfl,hS⟩:=jq.mp hu
  refine⟨_,(fj (fC (i:=3) qm.nd rfl (Or.inr rfl) (nV (gj (pv 1)) rfl oM (.name (by decide)) (λ_ _ _ _=>(fy (i:=0) oM.nd rfl (Or.inl rfl))) (λ_ _ _ _=>iG) (λ_ _ _ _=>(fv nS (hr.mono (by decide)) rfl gQ.m gQ.F.kp gQ.b .nil fJ (eZ (pv 0) fh)))))
 (fo (fL (nV (gj (fv uK (hr.mono (by decide)) rfl jd.m jd.F.kp jd.b .nil fJ (eZ (pv 0) (eZ (pv 2) fh)))) rfl oK (.name (by decide)) (λ_ _ _ _=>(fy (i:=0) oK.nd rfl (Or.inl rfl))) (λ_ _ _ _=>(lY (iu (tN (K:=K) rfl hr.units) (fv nS (hr.mono (by decide)) rfl gQ.m gQ.F.kp gQ.b .nil fJ (eZ (pv 0) fh)) (pv 1) (by with_unfolding_all rfl)))) (λ_ _ _ _=>(pv 0)))))),?_⟩
  refine⟨_,rfl,a,rfl,⟨_,hS⟩,λl1 n1=>lJ ns (λ_=>true) (λe=>V.int (e/2)) n1 hS (by rw[aa]) (by rw[aa];exact gE hz) ?_ ?_⟩
  ·intro i x d H' hx hd sm P1 P0 k1 k0
   rw[ao,hd]at hx
   cases hx
   refine jw ?_
   exact⟨_,rfl,d,rfl,k1 rfl⟩
  rw[lP]
  have e1:(ns.map λe=>V.int (e/2))=(ns.map (· / 2)).map V.int:=by rw[bJ];rfl
  rw[e1]
  have s1:fu H (upd H l1 (.lst ((ns.map (· / 2)).map V.int))):=fb n1
  refine⟨_,rfl,_,rfl,v,l,e,rfl,Da.same s1 hv,ok,λp H2 s2 hp hp2=>⟨p,rfl,⟨_,SqL.of hp2⟩,λl2 n2=>lJ (jn l.2 e) (λt=> !decide (t/2∈ns.map (· / 2))) (λt=>V.int t) n2 (SqL.of hp2) (by rw[aa]) ?_ ?_ ?_⟩⟩
  ·rw[aa]
   refine gE ?_
   unfold jn
   rw[nF,ah]
   have:=pG ok e
   omega
  ·intro i x d H' hx hd sm P1 P0 k1 k0
   rw[ao,hd]at hx
   cases hx
   have hD:Da K H' (.list ((ns.map (· / 2)).map .int)) (.ref l1):=Da.same (s2.trans sm) (gD fg)
   refine⟨_,rfl,d,rfl,_,rfl,_,.int (d/2),hD,gX.mpr rfl,tU _,qy _,_,rfl,?_⟩
   rw[za]
   exact gZ (λh=>⟨_,rfl,k1 h⟩) (λh=>k0 (by simpa using h))
  exact k l2 _ ((s1.trans s2).trans (fb n2)) (fu.free (s1.trans s2) n2) fg
theorem yi {f2:Addr}(F:Fn K mg "moves_of" kB ["line","train"] f fd)(fz:Fn K mg "other_end" iC ["end"] f1 fd1)(iR:Fn K mg "free_ends" jW ["line","train","end"] f2 fd2)
  (mE:fE P w K mg base CX0 2 f2 fd2 ["line","train","end"] (Aq K)):fE P w K mg base CX0 3 f fd ["line","train"] (mT K):=by
 have ik:fE P w K mg base CX0 1 f1 fd1 ["end"] jL:=kg fz
 refine F.F.ok mz (λvs H Q E h=>?_) (λcdv A outer s H vs Q E hr h=>?_)
 ·obtain⟨v,u,l,ns,rfl,_⟩:=h;rfl
 ·obtain⟨v,u,l,ns,rfl,hv,hu,ok,hne,hz,k⟩:=h
  obtain⟨a,rfl,hS⟩:=jq.mp hu
  refine⟨_,(fj (fC (i:=2) mz.nd rfl (Or.inl rfl) (gM fh))
 (fj (iy aW rfl (gj (fv mE (hr.mono (by decide)) rfl iR.m iR.F.kp iR.b .nil fJ (eZ (pv 0) (eZ (pv 1) (eZ (fv ik (hr.mono (by decide)) rfl fz.m fz.F.kp fz.b .nil fJ (eZ (gv gJ (pv 1) (tH pS fk) (λ_ _=>rfl)) fh)) fh))))) (fy (i:=3) mz.nd rfl (Or.inl rfl))
 (fo (g7 (lj aL bj bh ip (pv 2) (eZ (fX (eZ (fX (eZ gm (eZ (pv 3) fh))) (eZ (fD mH (m6 oX (pv 1) (o9 fk) pe) (gM (eZ (pv 3) fh))) fh))) fh)))))
 (fj (iy aW rfl (gj (fv mE (hr.mono (by decide)) rfl iR.m iR.F.kp iR.b .nil fJ (eZ (pv 0) (eZ (pv 1) (eZ (gv gJ (pv 1) fk (λ_ _=>rfl)) fh))))) (fy (i:=3) mz.nd rfl (Or.inl rfl))
 (fo (g7 (lj aL bj bh ip (pv 2) (eZ (fX (eZ (fX (eZ gm (eZ (pv 3) fh))) (eZ (fD mH (gM (eZ (fv ik (hr.mono (by decide)) rfl fz.m fz.F.kp fz.b .nil fJ (eZ (pv 3) fh)) fh)) (m6 oX (pv 1) pe (o9 (tH pS fk)))) fh))) fh)))))
 (fo (fL (pv 2)))))),?_⟩
  refine⟨aP _,λt ht=>?_⟩
  have s1:fu H (upd H t (.lst [])):=fb ht
  refine⟨_,rfl,_,rfl,_,rfl,_,rfl,a,_,_,_,rfl,rfl,s1.seq hS,xq hne,_,rfl,v,_,l,ns,_,rfl,Da.same s1 hv,Da.same s1 hu,ok,by omega,λp H2 s2 hp hp2=>?_⟩
  have nt:p≠t:=(fw fg hp).symm
  have M7:=zV ok ns (oth (ns.getLastD 0))
  have M8:=zV ok ns (ns.headD 0)
  refine⟨p,rfl,⟨_,SqL.of hp2⟩,jf (K:=K) (a:=p) (xs:=(fr l ns (oth (ns.getLastD 0))).map V.int) (λi σ H3=>∃ (vs:List V) (x:Option V),σ = [some v,some (.ref a),some (.ref t),x]/\fu H H3/\H3 p=some (.lst ((fr l ns (oth (ns.getLastD 0))).map V.int))/\H3 t=some (.lst vs)/\
    Dgs (Lf H H3 t) (SqT K H3) ((((fr l ns (oth (ns.getLastD 0))).take i).map (onM ns)).map dMv) vs)
   ⟨[],none,rfl,s1.trans s2,hp2,s2 _ _ fg,gw.mpr rfl⟩ (λi σ H3 _ ⟨_,_,_,_,h,_⟩=>SqL.of h) ?_ ?_⟩
  ·rintro i y σ H3 N R B kN _ hi ⟨vs,x,rfl,S3,hp3,ht3,D⟩
   rw[ao]at hi
   cases q:(fr l ns (oth (ns.getLastD 0)))[i]? with
   |none=>rw[q]at hi;cases hi
   |some e=>
    rw[q]at hi
    cases hi
    have hil:i<(fr l ns (oth (ns.getLastD 0))).length:=(af.mp q).1
    refine⟨_,rfl,.inl ⟨rfl,_,SqL.of ht3⟩,_,rfl,by show 2<=sizeLine;decide,λp1 n1=>?_⟩
    refine⟨_,rfl,_,rfl,a,_,rfl,(S3.trans (fb n1)).seq hS,λp2 n2=>?_⟩
    refine⟨_,rfl,by show 1<=sizeLine;decide,λp3 n3=>?_⟩
    rw[uz]at n3 ⊢
    refine⟨p2,p3,_,_,rfl,rfl,by rw[fm (fw fg n3),fg],fg,?_,λp4 n4=>?_⟩
    ·refine bO (gE ?_)
     rw[aa,bS]
     show ns.length-1+1<=1000
     omega
    refine⟨by show 2<=sizeLine;decide,λp5 n5=>?_⟩
    have S5:fu H3 _:=(fb n1).trans ((fb n2).trans ((fb n3).trans ((fb n4).trans (fb (o:=.tup [.ref p1,.ref p4]) n5))))
    have lv:vs.length<=60:=by rw[D.length,aa,aa,bg];omega
    refine⟨t,vs,_,rfl,rfl,S5 _ _ ht3,gE (by omega),?_⟩
    have g1:fu (upd H3 p1 (.tup [.str "on",.int e])) _:=(fb n2).trans ((fb n3).trans ((fb n4).trans (fb (o:=.tup [.ref p1,.ref p4]) n5)))
    have:=o8 (w:= "on") (e:=e) (xs:=ns.drop 1 ++ [e]) S3 ht ht3 D S5 (g1 _ _ fg) (fu.free ((fb n1).trans ((fb n2).trans (fb n3))) n4) (by rw[fm (fw fg n5),fg,aw];rfl) fg
    obtain⟨r1,r2,r3⟩:=this
    refine kN _ _ ⟨_,_,rfl,r1,?_,r2,?_⟩
    ·rw[fm nt];exact S5 _ _ hp3
    ·rw[pN (onM ns) _ i e q];exact r3
  rintro σ H3 ⟨vs,x,rfl,S3,hp3,ht3,D⟩
  rw[aa,bf]at D
  refine⟨_,rfl,_,rfl,_,rfl,a,_,_,_,rfl,rfl,S3.seq hS,yZ hne,v,_,l,ns,_,rfl,Da.same S3 hv,Da.same S3 hu,ok,by omega,λp' H4 s4 hp' hp4=>?_⟩
  have nt':p'≠t:=(fw ht3 hp').symm
  have D4:Dgs (Lf H H4 t) (SqT K H4) (((fr l ns (oth (ns.getLastD 0))).map (onM ns)).map dMv) vs:=Dgs.mono (λa us ⟨h1,h2,h3⟩=>⟨s4 _ _ h1,h2,h3⟩) (λa us h=>gi s4 h) D
  refine⟨p',rfl,⟨_,SqL.of hp4⟩,jf (K:=K) (a:=p') (xs:=(fr l ns (ns.headD 0)).map V.int) (λi σ H3=>∃ (vs:List V) (x:Option V),σ = [some v,some (.ref a),some (.ref t),x]/\fu H H3/\H3 p'=some (.lst ((fr l ns (ns.headD 0)).map V.int))/\H3 t=some (.lst vs)/\
    Dgs (Lf H H3 t) (SqT K H3) (((fr l ns (oth (ns.getLastD 0))).map (onM ns)++((fr l ns (ns.headD 0)).take i).map (ll ns)).map dMv) vs)
   ⟨vs,x,rfl,S3.trans s4,hp4,s4 _ _ ht3,by simpa using D4⟩ (λi σ H3 _ ⟨_,_,_,_,h,_⟩=>SqL.of h) ?_ ?_⟩
  ·rintro i y σ H3 N R B kN _ hi ⟨vs,x,rfl,S3,hp3,ht3,D⟩
   rw[ao]at hi
   cases q:(fr l ns (ns.headD 0))[i]? with
   |none=>rw[q]at hi;cases hi
   |some e=>
    rw[q]at hi
    cases hi
    have hil:i<(fr l ns (ns.headD 0)).length:=(af.mp q).1
    refine⟨_,rfl,.inl ⟨rfl,_,SqL.of ht3⟩,_,rfl,by show 2<=sizeLine;decide,λp1 n1=>?_⟩
    refine⟨_,rfl,e,rfl,by show 1<=sizeLine;decide,λp2 n2=>?_⟩
    refine⟨_,rfl,_,rfl,_,rfl,a,_,rfl,(S3.trans ((fb n1).trans (fb n2))).seq hS,λp3 n3=>?_⟩
    have ec:pL (ns.map V.int) none (some (-1))=ns.dropLast.map V.int:=yM ns
    refine⟨p2,p3,_,_,rfl,rfl,by rw[fm (fw fg n3),fg],fg,?_,λp4 n4=>?_⟩
    ·refine bO (gE ?_)
     show 1+(pL (ns.map V.int) none (some (-1))).length<=1000
     rw[ec,aa,eg]
     omega
    refine⟨by show 2<=sizeLine;decide,λp5 n5=>?_⟩
    have S5:fu H3 _:=(fb n1).trans ((fb n2).trans ((fb n3).trans ((fb n4).trans (fb (o:=.tup [.ref p1,.ref p4]) n5))))
    have lv:vs.length<=120:=by rw[D.length,aa,ah,aa,aa,bg];omega
    refine⟨t,vs,_,rfl,rfl,S5 _ _ ht3,gE (by omega),?_⟩
    have g1:fu (upd H3 p1 (.tup [.str "back",.int e])) _:=(fb n2).trans ((fb n3).trans ((fb n4).trans (fb (o:=.tup [.ref p1,.ref p4]) n5)))
    have:=o8 (w:= "back") (e:=e) (xs:=oth e::ns.dropLast) S3 ht ht3 D S5 (g1 _ _ fg) (fu.free ((fb n1).trans ((fb n2).trans (fb n3))) n4) (by
     rw[fm (fw fg n5),fg]
     show some (HO.lst ([V.int (oth e)]++pL (ns.map V.int) none (some (-1))))=_
     rw[ec];rfl) fg
    obtain⟨r1,r2,r3⟩:=this
    refine kN _ _ ⟨_,_,rfl,r1,?_,r2,?_⟩
    ·rw[fm nt'];exact S5 _ _ hp3
    ·rw[pN (ll ns) _ i e q,<-cu];exact r3
  rintro σ H3 ⟨vs,x,rfl,S3,hp3,ht3,D⟩
  rw[aa,bf]at D
  exact⟨_,rfl,k t vs H3 S3 ht ht3 D⟩
theorem wQ {f2:Addr}(F:Fn K mg "_law_moves" kY ["_law_line_here","_law_train_here"] f fd)(fQ:Fn K mg "_law_other" jU ["_law_end"] f1 fd1)(gu:Fn K mg "_law_joined" i4 ["_law_line_here","_law_end"] f2 fd2)
  (B:Bl mg):fE P w K mg base CX0 2 f fd ["_law_line_here","_law_train_here"] (mT K):=by
 have jY:fE P w K mg base CX0 1 f1 fd1 ["_law_end"] jL:=nK fQ
 have lL:fE P w K mg base CX0 1 f2 fd2 ["_law_line_here","_law_end"] (lM K):=pO gu B
 refine F.F.ok j9 (λvs H Q E h=>?_) (λcdv A outer s H vs Q E hr h=>?_)
 ·obtain⟨v,u,l,ns,rfl,_⟩:=h;rfl
 ·obtain⟨v,u,l,ns,rfl,hv,hu,ok,hne,hz,k⟩:=h
  obtain⟨a,rfl,hS⟩:=jq.mp hu
  refine⟨_,(fj (rQ (i:=3) j9.nd rfl rfl (gj (pv 1)) rfl oF (.name (by decide)) (λ_ _ _ _=>(fy (i:=0) oF.nd rfl (Or.inl rfl))) (λ_ _ _ _=>iG) (λ_ _ _ _=>(fD jm (pv 0) fk)))
 (fj (fC (i:=4) j9.nd rfl (Or.inl rfl) (gM fh))
 (fj (iy aW rfl (gj (fv lL (hr.mono (by decide)) rfl gu.m gu.F.kp gu.b .nil fJ (eZ (pv 0) (eZ (fv jY (hr.mono (by decide)) rfl fQ.m fQ.F.kp fQ.b .nil fJ (eZ (gv gJ (pv 1) (tH pS fk) (λ_ _=>rfl)) fh)) fh)))) (fy (i:=2) j9.nd rfl (Or.inl rfl))
 (fo (hZ (iu (kG hr.units) (fD jm (pv 2) fk) (pv 3) (by with_unfolding_all rfl))
 (fo (g7 (lj aL bj bh ip (pv 4) (eZ (fX (eZ (fX (eZ gm (eZ (pv 2) fh))) (eZ (fD mH (m6 oX (pv 1) (o9 fk) pe) (gM (eZ (pv 2) fh))) fh))) fh)))) fT)))
 (fj (iy aW rfl (gj (fv lL (hr.mono (by decide)) rfl gu.m gu.F.kp gu.b .nil fJ (eZ (pv 0) (eZ (gv gJ (pv 1) fk (λ_ _=>rfl)) fh)))) (fy (i:=2) j9.nd rfl (Or.inl rfl))
 (fo (hZ (iu (kG hr.units) (fD jm (pv 2) fk) (pv 3) (by with_unfolding_all rfl))
 (fo (g7 (lj aL bj bh ip (pv 4) (eZ (fX (eZ (fX (eZ gm (eZ (pv 2) fh))) (eZ (fD mH (gM (eZ (fv jY (hr.mono (by decide)) rfl fQ.m fQ.F.kp fQ.b .nil fJ (eZ (pv 2) fh)) fh)) (m6 oX (pv 1) pe (o9 (tH pS fk)))) fh))) fh)))) fT)))
 (fo (fL (pv 4))))))),?_⟩
  refine⟨_,rfl,a,rfl,⟨_,hS⟩,λpc n0=>lJ ns (λ_=>true) (λe=>V.int (e/2)) n0 hS (by rw[aa]) (by rw[aa];exact gE (by omega)) ?_ ?_⟩
  ·intro i x d H' hx hd sm P1 P0 k1 k0
   rw[ao,hd]at hx
   cases hx
   refine jw ?_
   exact⟨_,rfl,_,_,rfl,rfl,⟨by decide,by decide⟩,k1 rfl⟩
  rw[lP]
  have e1:(ns.map λe=>V.int (e/2))=(ns.map (· / 2)).map V.int:=by rw[bJ];rfl
  rw[e1]
  have s0:fu H (upd H pc (.lst ((ns.map (· / 2)).map V.int))):=fb n0
  have hpc:(upd H pc (.lst ((ns.map (· / 2)).map V.int))) pc=some (.lst ((ns.map (· / 2)).map V.int)):=fg
  generalize hH0:upd H pc (.lst ((ns.map (· / 2)).map V.int))=H0 at s0 hpc
  refine⟨aP _,λt ht=>?_⟩
  have s1:fu H0 (upd H0 t (.lst [])):=fb ht
  have S1:fu H (upd H0 t (.lst [])):=s0.trans s1
  refine⟨_,rfl,_,rfl,_,rfl,a,_,_,_,rfl,rfl,S1.seq hS,xq hne,_,rfl,v,l,_,rfl,Da.same S1 hv,ok,λp H2 s2 hp hp2=>?_⟩
  have nt:p≠t:=(fw fg hp).symm
  have M7:=zL ok (oth (ns.getLastD 0))
  have M8:=zL ok (ns.headD 0)
  refine⟨p,rfl,⟨_,SqL.of hp2⟩,jf (K:=K) (a:=p) (xs:=(jn l.2 (oth (ns.getLastD 0))).map V.int) (λi σ H3=>∃ (vs:List V) (x:Option V),σ = [some v,some (.ref a),x,some (.ref pc),some (.ref t)]/\fu H0 H3/\H3 p=some (.lst ((jn l.2 (oth (ns.getLastD 0))).map V.int))/\H3 t=some (.lst vs)/\
    Dgs (Lf H0 H3 t) (SqT K H3) (((((jn l.2 (oth (ns.getLastD 0))).take i).filter λt=> !decide (t/2∈ns.map (· / 2))).map (onM ns)).map dMv) vs)
   ⟨[],none,rfl,s1.trans s2,hp2,s2 _ _ fg,gw.mpr rfl⟩ (λi σ H3 _ ⟨_,_,_,_,h,_⟩=>SqL.of h) ?_ ?_⟩
  ·rintro i y σ H3 N R B kN _ hi ⟨vs,x,rfl,S3,hp3,ht3,D⟩
   rw[ao]at hi
   cases q:(jn l.2 (oth (ns.getLastD 0)))[i]? with
   |none=>rw[q]at hi;cases hi
   |some e=>
    rw[q]at hi
    cases hi
    have hil:i<(jn l.2 (oth (ns.getLastD 0))).length:=(af.mp q).1
    have st:=take_succ_filter (λt=> !decide (t/2∈ns.map (· / 2))) _ i e q
    refine⟨_,rfl,_,_,rfl,rfl,⟨by decide,by decide⟩,_,rfl,_,.int (e/2),gD (S3 _ _ hpc),gX.mpr rfl,tU _,qy _,_,rfl,?_⟩
    rw[za]
    refine gZ (c:=(!decide (e/2∈ns.map (· / 2)))=true) (λhc=>?_) (λhc=>?_)
    ·refine⟨_,rfl,.inl ⟨rfl,_,SqL.of ht3⟩,_,rfl,by show 2<=sizeLine;decide,λp1 n1=>?_⟩
     refine⟨_,rfl,_,rfl,a,_,rfl,((s0.trans S3).trans (fb n1)).seq hS,λp2 n2=>?_⟩
     refine⟨_,rfl,by show 1<=sizeLine;decide,λp3 n3=>?_⟩
     rw[uz]at n3 ⊢
     refine⟨p2,p3,_,_,rfl,rfl,by rw[fm (fw fg n3),fg],fg,?_,λp4 n4=>?_⟩
     ·refine bO (gE ?_)
      rw[aa,bS]
      show ns.length-1+1<=1000
      omega
     refine⟨by show 2<=sizeLine;decide,λp5 n5=>?_⟩
     have S5:fu H3 _:=(fb n1).trans ((fb n2).trans ((fb n3).trans ((fb n4).trans (fb (o:=.tup [.ref p1,.ref p4]) n5))))
     have lv:vs.length<=60:=by
      rw[D.length,aa,aa]
      refine bE (bN _ _) ?_
      rw[bg];omega
     refine⟨t,vs,_,rfl,rfl,S5 _ _ ht3,gE (by omega),?_⟩
     have g1:fu (upd H3 p1 (.tup [.str "on",.int e])) _:=(fb n2).trans ((fb n3).trans ((fb n4).trans (fb (o:=.tup [.ref p1,.ref p4]) n5)))
     obtain⟨r1,r2,r3⟩:=o8 (w:= "on") (e:=e) (xs:=ns.drop 1 ++ [e]) S3 ht ht3 D S5 (g1 _ _ fg) (fu.free ((fb n1).trans ((fb n2).trans (fb n3))) n4) (by rw[fm (fw fg n5),fg,aw];rfl) fg
     refine kN _ _ ⟨_,_,rfl,r1,?_,r2,?_⟩
     ·rw[fm nt];exact S5 _ _ hp3
     ·rw[st,aM hc,aw];exact r3
    ·refine kN _ _ ⟨vs,_,rfl,S3,hp3,ht3,?_⟩
     rw[st,aH hc,cY];exact D
  rintro σ H3 ⟨vs,x,rfl,S3,hp3,ht3,D⟩
  rw[aa,bf]at D
  refine⟨_,rfl,_,rfl,a,_,_,_,rfl,rfl,(s0.trans S3).seq hS,yZ hne,v,l,_,rfl,Da.same (s0.trans S3) hv,ok,λp' H4 s4 hp' hp4=>?_⟩
  have nt':p'≠t:=(fw ht3 hp').symm
  have D4:Dgs (Lf H0 H4 t) (SqT K H4) (((fr l ns (oth (ns.getLastD 0))).map (onM ns)).map dMv) vs:=Dgs.mono (λa us ⟨h1,h2,h3⟩=>⟨s4 _ _ h1,h2,h3⟩) (λa us h=>gi s4 h) D
  have Rc:=zV ok ns (oth (ns.getLastD 0))
  refine⟨p',rfl,⟨_,SqL.of hp4⟩,jf (K:=K) (a:=p') (xs:=(jn l.2 (ns.headD 0)).map V.int) (λi σ H3=>∃ (vs:List V) (x:Option V),σ = [some v,some (.ref a),x,some (.ref pc),some (.ref t)]/\fu H0 H3/\H3 p'=some (.lst ((jn l.2 (ns.headD 0)).map V.int))/\H3 t=some (.lst vs)/\
    Dgs (Lf H0 H3 t) (SqT K H3) (((fr l ns (oth (ns.getLastD 0))).map (onM ns)++(((jn l.2 (ns.headD 0)).take i).filter λt=> !decide (t/2∈ns.map (· / 2))).map (ll ns)).map dMv) vs)
   ⟨vs,x,rfl,S3.trans s4,hp4,s4 _ _ ht3,by simpa using D4⟩ (λi σ H3 _ ⟨_,_,_,_,h,_⟩=>SqL.of h) ?_ ?_⟩
  ·rintro i y σ H3 N R B kN _ hi ⟨vs,x,rfl,S3,hp3,ht3,D⟩
   rw[ao]at hi
   cases q:(jn l.2 (ns.headD 0))[i]? with
   |none=>rw[q]at hi;cases hi
   |some e=>
    rw[q]at hi
    cases hi
    have hil:i<(jn l.2 (ns.headD 0)).length:=(af.mp q).1
    have st:=take_succ_filter (λt=> !decide (t/2∈ns.map (· / 2))) _ i e q
    refine⟨_,rfl,_,_,rfl,rfl,⟨by decide,by decide⟩,_,rfl,_,.int (e/2),gD (S3 _ _ hpc),gX.mpr rfl,tU _,qy _,_,rfl,?_⟩
    rw[za]
    refine gZ (c:=(!decide (e/2∈ns.map (· / 2)))=true) (λhc=>?_) (λhc=>?_)
    ·refine⟨_,rfl,.inl ⟨rfl,_,SqL.of ht3⟩,_,rfl,by show 2<=sizeLine;decide,λp1 n1=>?_⟩
     refine⟨_,rfl,e,rfl,by show 1<=sizeLine;decide,λp2 n2=>?_⟩
     refine⟨_,rfl,_,rfl,_,rfl,a,_,rfl,((s0.trans S3).trans ((fb n1).trans (fb n2))).seq hS,λp3 n3=>?_⟩
     have ec:pL (ns.map V.int) none (some (-1))=ns.dropLast.map V.int:=yM ns
     refine⟨p2,p3,_,_,rfl,rfl,by rw[fm (fw fg n3),fg],fg,?_,λp4 n4=>?_⟩
     ·refine bO (gE ?_)
      show 1+(pL (ns.map V.int) none (some (-1))).length<=1000
      rw[ec,aa,eg]
      omega
     refine⟨by show 2<=sizeLine;decide,λp5 n5=>?_⟩
     have S5:fu H3 _:=(fb n1).trans ((fb n2).trans ((fb n3).trans ((fb n4).trans (fb (o:=.tup [.ref p1,.ref p4]) n5))))
     have lv:vs.length<=120:=by
      rw[D.length,aa,ah,aa,aa]
      have:=bN (λt=> !decide (t/2∈ns.map (· / 2))) ((jn l.2 (ns.headD 0)).take i)
      rw[bg]at this
      omega
     refine⟨t,vs,_,rfl,rfl,S5 _ _ ht3,gE (by omega),?_⟩
     have g1:fu (upd H3 p1 (.tup [.str "back",.int e])) _:=(fb n2).trans ((fb n3).trans ((fb n4).trans (fb (o:=.tup [.ref p1,.ref p4]) n5)))
     obtain⟨r1,r2,r3⟩:=o8 (w:= "back") (e:=e) (xs:=oth e::ns.dropLast) S3 ht ht3 D S5 (g1 _ _ fg) (fu.free ((fb n1).trans ((fb n2).trans (fb n3))) n4) (by
      rw[fm (fw fg n5),fg]
      show some (HO.lst ([V.int (oth e)]++pL (ns.map V.int) none (some (-1))))=_
      rw[ec];rfl) fg
     refine kN _ _ ⟨_,_,rfl,r1,?_,r2,?_⟩
     ·rw[fm nt'];exact S5 _ _ hp3
     ·rw[st,aM hc,aw (f:=ll ns),<-cu];exact r3
    ·refine kN _ _ ⟨vs,_,rfl,S3,hp3,ht3,?_⟩
     rw[st,aH hc,cY];exact D
  rintro σ H3 ⟨vs,x,rfl,S3,hp3,ht3,D⟩
  rw[aa,bf]at D
  exact⟨_,rfl,k t vs H3 (s0.trans S3) (fu.free s0 ht) ht3 (Dgs.mono (λa us ⟨h1,h2,h3⟩=>⟨h1,fu.free s0 h2,h3⟩) (λ_ _ h=>h) D)⟩
end
theorem jz {n:Nat}(h:n<=1000):n<sizeLine:=cj h (by decide)
def Cr (K:PySem.W.Frag):Sp:=λvs H Q _=>∃ n m:Int,vs = [.int n,.int m]/\0<=m/\m<=40/\∀ (p:Addr) (ns:List Int) (H':Hp),fu H H'->H p=none->H' p=some (.lst (ns.map V.int))->(ns.length:Int)=m->(∀ x∈ns,0<=x/\x<m)->ns.Nodup->Q (.ref p) H'
def sR (K:PySem.W.Frag):Sp:=λvs H Q _=>∃ (v:V) (l:Ln) (c:Int),vs = [v,.int c]/\Da K H (dL l) v/\hG l/\∀ (v':V) (js':List (Int×Int)) (nm es:List Int) (H':Hp),fu H H'->Da K H' (dL (l.1,js')) v'->Ren l.1 nm es->js'.Perm (l.2.map (rj es))->Q v' H'
abbrev jA:Stmt:=top 49
theorem jk:fK ["_law_number","_law_many","_law_told","_law_k"] ["_law_number","_law_many"] (fx jA):=⟨rfl,rfl,rfl,by decide +kernel,rfl,by decide +kernel,by decide +kernel⟩
abbrev kP:Stmt:=top 53
theorem gh:fK ["_law_line_here","_law_cell","_law_many","_law_joints","_law_names","_law_ends","_law_piece","_law_flip","_law_made","_law_k","_law_a","_law_b","_law_joint"] ["_law_line_here","_law_cell"] (fx kP):=⟨rfl,rfl,rfl,by decide +kernel,rfl,by decide +kernel,by decide +kernel⟩
section
variable {P:Program}{w:World}{K:PySem.W.Frag}{mg:Str->Option Value}{base:Heap}{f:Addr}{fd:FuncData}
theorem qw (F:Fn K mg "_law_turned_row" jA ["_law_number","_law_many"] f fd)(B:Bl mg):fE P w K mg base CX0 1 f fd ["_law_number","_law_many"] (Cr K):=by
 refine F.F.ok jk (λvs H Q E h=>?_) (λcdv A outer s H vs Q E hr h=>?_)
 ·obtain⟨n,m,rfl,_⟩:=h;rfl
 ·obtain⟨n,m,rfl,h0,h1,k⟩:=h
  refine⟨_,(fj (fC (i:=2) jk.nd rfl (Or.inl rfl) (gM fh))
 (fj (iy aW rfl (kF rfl B.range (eZ (pv 1) fh)) (fy (i:=3) jk.nd rfl (Or.inl rfl))
 (fj (g7 (lj aL eR PySem.F.type_list_insert vP (pv 2) (eZ (fD ie (pv 0) (fD ig (pv 3) fk)) (eZ (pv 3) fh))))
 (fo (fC (i:=0) jk.nd rfl (Or.inl rfl) (fD jm (pv 0) (fD ig (pv 3) fk))))))
 (fo (fL (pv 2))))),?_⟩
  refine⟨aP _,λt ht=>?_⟩
  refine⟨_,rfl,m,rfl,by omega,by omega,pC (λi σ H3=>∃ (n:Int) (ns:List Int) (x:Option V),σ = [some (.int n),some (.int m),some (.ref t),x]/\H3=upd H t (.lst (ns.map V.int))/\ns.length=i/\(∀ x∈ns,0<=x/\x<(i:Int))/\ns.Nodup)
   ⟨n,[],none,rfl,rfl,rfl,λx hx=>(nomatch hx),dh⟩ ?_ ?_⟩
  ·rintro i σ H3 hi ⟨n,ns,x,rfl,rfl,hlen,hb,hnd⟩
   have i0:(0:Int)+(i:Nat)=(i:Int):=by omega
   rw[i0]
   have r0:0<=n%((i:Int)+1):=cx _ (by omega)
   have r1:n%((i:Int)+1)<(i:Int)+1:=ck _ (by omega)
   refine⟨_,rfl,.inl ⟨rfl,_,SqL.of fg⟩,_,rfl,_,rfl,_,_,rfl,rfl,_,_,rfl,rfl,(by show(0:Int)<(i:Int)+1;omega),_,rfl,t,_,_,_,rfl,rfl,fg,r0,?_,?_,?_⟩
   ·show n%((i:Int)+1)<=((ns.map V.int).length:Int)
    rw[aa,hlen];omega
   ·rw[aa,hlen];exact jz (by omega)
   refine⟨_,rfl,_,rfl,_,_,rfl,rfl,_,_,rfl,rfl,⟨by show(0:Int)<(i:Int)+1;omega,by show(i:Int)+1<1073741824;omega⟩,?_⟩
   have pm:=yd ns (n%((i:Int)+1)).toNat (i:Int)
   refine⟨_,ns.take (n%((i:Int)+1)).toNat++(i:Int)::ns.drop (n%((i:Int)+1)).toNat,_,rfl,?_,?_,?_,?_⟩
   ·rw[qh,aw,aN,List.map_take,eS]
   ·rw[pm.length_eq,aO,hlen]
   ·intro x hx
    rcases aK.mp (pm.mem_iff.mp hx)with z |z
    ·omega
    ·have:=hb x z;omega
   ·refine pm.nodup_iff.mpr (bu.mpr ⟨λz=>?_,hnd⟩)
    have:=(hb _ z).2
    omega
  ·rintro σ H3 ⟨n,ns,x,rfl,rfl,hlen,hb,hnd⟩
   exact⟨_,rfl,k t ns _ (fb ht) ht fg (by omega) (λx hx=>by have:=hb x hx;omega) hnd⟩
end
section
variable {P:Program}{w:World}{K:PySem.W.Frag}{mg:Str->Option Value}{base:Heap}{f:Addr}{fd:FuncData}
theorem tO {f2:Addr}(F:Fn K mg "_law_renamed" kP ["_law_line_here","_law_cell"] f fd)(fB:Fn K mg "_law_mix" kC ["_law_cell","_law_k"] f1 fd1)(iF:Fn K mg "_law_turned_row" jA ["_law_number","_law_many"] f2 fd2)
  (B:Bl mg):fE P w K mg base CX0 2 f fd ["_law_line_here","_law_cell"] (sR K):=by
 have g9:fE P w K mg base CX0 1 f1 fd1 ["_law_cell","_law_k"] sT:=nL fB B
 have rG:fE P w K mg base CX0 1 f2 fd2 ["_law_number","_law_many"] (Cr K):=qw iF B
 refine F.F.ok gh (λvs H Q E h=>?_) (λcdv A outer s H vs Q E hr h=>?_)
 ·obtain⟨v,l,c,rfl,_⟩:=h;rfl
 ·obtain⟨v,⟨m,js⟩,c,rfl,hv,G,k⟩:=h
  have h1:1<=m:=G.one
  have h14:m<=14:=G.most
  have h40:m<=40:=by omega
  have hjl:js.length<=24:=G.len
  obtain⟨a,b,rfl,ht,us,hl,hq⟩:=lK hv
  dsimp only at ht hq k
  refine⟨_,(fj (ot (pv 0) (iz (n:=2) rfl (fF (fy (i:=2) gh.nd rfl (Or.inl rfl)) (fF (fy (i:=3) gh.nd rfl (Or.inl rfl)) gS))))
 (fj (fC (i:=4) gh.nd rfl (Or.inl rfl) (fv rG (hr.mono (by decide)) rfl iF.m iF.F.kp iF.b .nil fJ (eZ (fv g9 (hr.mono (by decide)) rfl fB.m fB.F.kp fB.b .nil fJ (eZ (pv 1) (eZ fk fh))) (eZ (pv 2) fh))))
 (fj (fC (i:=5) gh.nd rfl (Or.inl rfl) (gM fh))
 (fj (iy aW rfl (kF rfl B.range (eZ (pv 2) fh)) (fy (i:=6) gh.nd rfl (Or.inl rfl))
 (fj (fC (i:=7) gh.nd rfl (Or.inl rfl) (fD ie (fv g9 (hr.mono (by decide)) rfl fB.m fB.F.kp fB.b .nil fJ (eZ (pv 1) (eZ (fD ig fk (pv 6)) fh))) fk))
 (fo (fC (i:=5) gh.nd rfl (Or.inl rfl) (fD mH (pv 5) (gM (eZ (fD ig (fD iH fk (gv gJ (pv 4) (pv 6) (λ_ _=>rfl))) (pv 7)) (eZ (fD zA (fD ig (fD iH fk (gv gJ (pv 4) (pv 6) (λ_ _=>rfl))) fk) (pv 7)) fh))))))))
 (fj (fC (i:=8) gh.nd rfl (Or.inl rfl) (gM fh))
 (fj (iy aW rfl (EJ rfl B.enumerate (eZ (pv 3) fh)) (iz (n:=2) rfl (fF (fy (i:=9) gh.nd rfl (Or.inl rfl)) (fF (iz (n:=2) rfl (fF (fy (i:=10) gh.nd rfl (Or.inl rfl)) (fF (fy (i:=11) gh.nd rfl (Or.inl rfl)) gS))) gS)))
 (fj (fC (i:=12) gh.nd rfl (Or.inl rfl) (fX (eZ (fN (rA rfl) rfl B.min boot_min (eZ (gv gJ (pv 5) (pv 10) (λ_ _=>rfl)) (eZ (gv gJ (pv 5) (pv 11) (λ_ _=>rfl)) fh))) (eZ (fN (rB rfl) rfl B.max boot_max (eZ (gv gJ (pv 5) (pv 10) (λ_ _=>rfl)) (eZ (gv gJ (pv 5) (pv 11) (λ_ _=>rfl)) fh))) fh))))
 (fo (g7 (lj aL eR PySem.F.type_list_insert vP (pv 8) (eZ (fD ie (fv g9 (hr.mono (by decide)) rfl fB.m fB.F.kp fB.b .nil fJ (eZ (pv 1) (eZ (fD ig fk (pv 9)) fh))) (fD ig (pv 9) fk)) (eZ (pv 12) fh)))))))
 (fo (fL (fX (eZ (pv 2) (eZ (pv 8) fh))))))))))),nm3 λR1 hR1=>?_⟩
  refine⟨_,rfl,a,_,rfl,ht,rfl,_,_,rfl,_,_,rfl,rfl,?_⟩
  refine⟨_,rfl,c,0,rfl,by decide,by decide,λn n0 n1=>⟨_,rfl,n,m,rfl,by omega,h40,λpn nm H1 s1 hn1 hn2 M4 nb nnd=>?_⟩⟩
  refine⟨aP _,λq0 nq0=>?_⟩
  refine hR1 _ _ _ (nm2 λR2 hR2=>?_)
  refine⟨_,rfl,m,rfl,by omega,by omega,pY (λi σ H3=>∃ (q:Addr) (es:List Int) (x6 x7:Option V),σ = [some (.ref a),some (.int c),some (.int m),some (.ref b),some (.ref pn),some (.ref q),x6,x7,none,none,none,none,none]/\fu H1 H3/\H3 q=some (.lst (es.map V.int))/\es.length=2*i/\(∀ j,j<i->∃ f:Int,(f=0\/f=1)/\es[2*j]? = some (2*nm.getD j 0+f)/\es[2*j+1]? = some (2*nm.getD j 0+1-f)))
   ⟨q0,[],none,none,rfl,fb nq0,fg,rfl,λj hj=>absurd hj (en j)⟩ ?_ ?_⟩
  ·rintro i σ H3 N R B kN _ hi ⟨q,es,x6,x7,rfl,S3,hq3,BV,eb⟩
   have i0:(0:Int)+(i:Nat)=(i:Int):=by omega
   rw[i0]
   obtain⟨nx,hnx,Ht,hat⟩:=xr (ns:=nm) (i:=(i:Int)) (by omega) (by omega)
   have nbx:=nb nx Ht
   have hSn:SqL K H3 pn (nm.map V.int):=SqL.of (S3 _ _ hn2)
   refine⟨_,rfl,_,rfl,_,_,rfl,rfl,c,_,rfl,by show(0:Int)<=20+i;omega,by show 20+(i:Int)<=1000;omega,λn n0 n1=>⟨_,_,rfl,rfl,(by show(0:Int)<_;decide),?_⟩⟩
   refine⟨_,rfl,_,rfl,_,rfl,pn,_,_,_,rfl,rfl,hSn,hat,_,_,rfl,rfl,.inl ⟨by decide,by decide⟩,_,rfl,_,_,rfl,rfl,_,rfl,_,rfl,pn,_,_,_,rfl,rfl,hSn,hat,_,_,rfl,rfl,.inl ⟨by decide,by decide⟩,_,_,rfl,rfl,_,rfl,_,_,rfl,rfl,by show 2<=sizeLine;decide,λq1 nq1=>?_⟩
   refine⟨q,q1,_,_,rfl,rfl,by rw[fm (fw hq3 nq1)];exact hq3,fg,?_,λq2 nq2=>?_⟩
   ·refine bO (jz ?_)
    rw[aa,BV]
    show 2*i+2<=1000
    omega
   refine kN _ _ ⟨q2,es ++ [2*nx+n%2,2*nx+1-n%2],_,_,rfl,S3.trans ((fb nq1).trans (fb nq2)),?_,?_,?_⟩
   ·rw[fg,aw];rfl
   ·rw[ah,BV];show 2*i+2=_;omega
   ·intro j hj
    have Ji:nm.getD i 0=nx:=by rw[aJ,show i=((i:Int)).toNat by omega,hnx];rfl
    rcases dC.mp hj with z |z
    ·obtain⟨f,hf,e1,e2⟩:=eb j z
     exact⟨f,hf,by rw[ak (by omega)];exact e1,by rw[ak (by omega)];exact e2⟩
    ·subst z
     refine⟨n%2,by omega,?_,?_⟩
     ·rw[av (by omega),BV,aV,Ji];rfl
     ·rw[av (by omega),BV,show 2*j+1-2*j=1 by omega,Ji];rfl
  rintro σ H3 ⟨q,es,x6,x7,rfl,S3,hq3,BV,eb⟩
  have R:Ren m nm es:=⟨M4,nb,nnd,by omega,λj hj=>eb j (by omega)⟩
  refine⟨aP _,λt nt=>?_⟩
  have hl3:SqL K H3 b us:=(s1.trans S3).seq hl
  have hq4:Das K H3 (js.map dP) us:=Das.same (s1.trans S3) hq
  have hul:us.length=js.length:=by rw[Dgs.length hq,aa]
  refine hR2 _ _ _ ?_
  refine⟨_,rfl,b,rfl,⟨us,(fb nt).seq hl3⟩,BQ (K:=K) (a:=b) (xs:=us) (λi σ H4=>∃ (vs:List V) (js':List (Int×Int)) (x9 x10 x11 x12:Option V),σ = [some (.ref a),some (.int c),some (.int m),some (.ref b),some (.ref pn),some (.ref q),x6,x7,some (.ref t),x9,x10,x11,x12]/\fu H3 H4/\H4 t=some (.lst vs)/\Ps K H4 js' vs/\js'.length=i/\js'.Perm ((js.take i).map (rj es)))
   ⟨[],[],none,none,none,none,rfl,fb nt,fg,gw.mpr rfl,rfl,.refl _⟩ (λi σ H4 _ ⟨_,_,_,_,_,_,_,S4,_⟩=>S4.seq hl3) ?_ ?_⟩
  ·rintro i x σ H4 p0 N R B kN _ hi ⟨vs,js',x9,x10,x11,x12,rfl,S4,ht4,D,Hh,jb⟩ n0
   have hil:i<us.length:=(af.mp hi).1
   have S5:fu H3 (upd H4 p0 (.tup [.int i,x])):=S4.trans (fb n0)
   obtain⟨ad,⟨ea,eb'⟩,e1,rfl,hpr⟩:=nk (Das.same S5 hq4) hi
   dsimp only at hpr
   have hbd:=G.ok (ea,eb') (ax e1)
   unfold okJ at hbd
   dsimp only at hbd
   obtain⟨xa,ga,ma,Jt⟩:=xr (ns:=es) (i:=ea) hbd.1.1 (by omega)
   obtain⟨xb,gb,mb,Js⟩:=xr (ns:=es) (i:=eb') hbd.2.1.1 (by omega)
   have hrj:rj es (ea,eb')=(min xa xb,max xa xb):=by
    unfold rj rho
    dsimp only
    rw[aJ,aJ,ga,gb];rfl
   refine⟨p0,_,rfl,SqT.of fg,rfl,_,_,rfl,_,_,rfl,ad,_,rfl,hpr,rfl,_,_,rfl,_,_,rfl,rfl,rfl,?_⟩
   have hSe:SqL K (upd H4 p0 (.tup [.int i,.ref ad])) q (es.map V.int):=SqL.of (S5 _ _ hq3)
   refine⟨_,rfl,_,rfl,q,_,_,_,rfl,rfl,hSe,Jt,_,rfl,_,rfl,q,_,_,_,rfl,rfl,hSe,Js,_,_,rfl,?_⟩
   refine⟨_,rfl,_,rfl,q,_,_,_,rfl,rfl,hSe,Jt,_,rfl,_,rfl,q,_,_,_,rfl,rfl,hSe,Js,_,_,rfl,by show 2<=sizeLine;decide,λp1 n1=>?_⟩
   rw[zI,zJ]
   have ht5:(upd (upd H4 p0 (.tup [.int i,.ref ad])) p1 (.tup [.int (min xa xb),.int (max xa xb)])) t=some (.lst vs):=((fb n0).trans (fb n1)) _ _ ht4
   have vl:vs.length=i:=by rw[D.len,Hh]
   refine⟨_,rfl,.inl ⟨rfl,_,SqL.of ht5⟩,_,rfl,_,rfl,_,_,rfl,rfl,c,_,rfl,by show(0:Int)<=40+i;omega,by show 40+(i:Int)<=1000;omega,λn n0' n1'=>⟨_,rfl,_,_,rfl,rfl,_,_,rfl,rfl,(by show(0:Int)<(i:Int)+1;omega),_,rfl,t,vs,_,_,rfl,rfl,ht5,?_,?_,jz (by omega),?_⟩⟩
   ·exact cx _ (by omega)
   ·have:=ck n (show(0:Int)<(i:Int)+1 by omega)
    show n%((i:Int)+1)<=(vs.length:Int)
    omega
   have pm:=yd js' (n%((i:Int)+1)).toNat (min xa xb,max xa xb)
   refine kN _ _ ⟨_,js'.take (n%((i:Int)+1)).toNat++(min xa xb,max xa xb)::js'.drop (n%((i:Int)+1)).toNat,_,_,_,_,rfl,fu.upd (S4.trans ((fb n0).trans (fb n1))) nt,fg,?_,?_,?_⟩
   ·exact Ps.ins (x:=(min xa xb,max xa xb)) _ (D.same ((fb n0).trans (fb n1))) ht5 fg
   ·rw[pm.length_eq,aO,Hh]
   ·rw[aQ,e1,aw]
    refine pm.trans ?_
    show((min xa xb,max xa xb)::js').Perm ((js.take i).map (rj es) ++ [rj es (ea,eb')])
    rw[hrj]
    exact(jb.cons _).trans (List.perm_append_singleton _ _).symm
  rintro σ H4 ⟨vs,js',x9,x10,x11,x12,rfl,S4,ht4,D,Hh,jb⟩
  refine⟨_,rfl,_,rfl,by show 2<=sizeLine;decide,λp np=>?_⟩
  have S5:=(fb (o:=.tup [.int m,.ref t]) np)
  rw[hul,bf]at jb
  exact k _ js' nm es _ (s1.trans (S3.trans (S4.trans S5))) (rq fg ((D.same S5).da (S5 _ _ ht4))) R jb
end
def Am (K:PySem.W.Frag):Sp:=λvs H Q _=>∃ (a:Addr) (ns:List Int),vs = [.ref a]/\SqL K H a (ns.map V.int)/\Q5 K H Q
abbrev nI:Stmt:=top 52
theorem iB:fK ["_law_script","_law_cell","_law_many","_law_joints","_law_k","_law_number","_law_one","_law_other_here"] ["_law_script"] (fx nI):=⟨rfl,rfl,rfl,by decide +kernel,rfl,by decide +kernel,by decide +kernel⟩
variable {f3 f4:Addr}{fd3 fd4:FuncData}
section
variable {P:Program}{w:World}{K:PySem.W.Frag}{mg:Str->Option Value}{base:Heap}{f:Addr}{fd:FuncData}
theorem yj {f2:Addr}(F:Fn K mg "_law_line" nI ["_law_script"] f fd)(fB:Fn K mg "_law_mix" kC ["_law_cell","_law_k"] f1 fd1)(fH:Fn K mg "_law_cell_at" jM ["_law_script","_law_k"] f2 fd2)
  (fQ:Fn K mg "_law_other" jU ["_law_end"] f3 fd3) (jg:Fn K mg "_law_renamed" kP ["_law_line_here","_law_cell"] f4 fd4) (mL:fE P w K mg base CX0 2 f4 fd4 ["_law_line_here","_law_cell"] (sR K))
  (B:Bl mg):fE P w K mg base CX0 3 f fd ["_law_script"] (Am K):=by
 have g9:fE P w K mg base CX0 1 f1 fd1 ["_law_cell","_law_k"] sT:=nL fB B
 have iT:fE P w K mg base CX0 1 f2 fd2 ["_law_script","_law_k"] (wj K):=ox fH B
 have jY:fE P w K mg base CX0 1 f3 fd3 ["_law_end"] jL:=nK fQ
 refine F.F.ok iB (λvs H Q E h=>?_) (λcdv A outer s H vs Q E hr h=>?_)
 ·obtain⟨a,ns,rfl,_⟩:=h;rfl
 ·obtain⟨a,ns,rfl,hS,k⟩:=h
  refine⟨_,(fj (fC (i:=1) iB.nd rfl (Or.inl rfl) (fv iT (hr.mono (by decide)) rfl fH.m fH.F.kp fH.b .nil fJ (eZ (pv 0) (eZ fk fh))))
 (fj (fC (i:=2) iB.nd rfl (Or.inl rfl) (fD ig fk (fD ie (fv g9 (hr.mono (by decide)) rfl fB.m fB.F.kp fB.b .nil fJ (eZ (pv 1) (eZ fk fh))) fk)))
 (fj (hZ (gz (lZ (fD ie (fv g9 (hr.mono (by decide)) rfl fB.m fB.F.kp fB.b .nil fJ (eZ (pv 1) (eZ fk fh))) fk) fk))
 (fo (fC (i:=2) iB.nd rfl (Or.inl rfl) (fD ig fk (fD ie (fv g9 (hr.mono (by decide)) rfl fB.m fB.F.kp fB.b .nil fJ (eZ (pv 1) (eZ fk fh))) fk)))) fT)
 (fj (fC (i:=3) iB.nd rfl (Or.inl rfl) (gM fh))
 (fj (iy aW rfl (kF rfl B.range (eZ (fD ie (fv g9 (hr.mono (by decide)) rfl fB.m fB.F.kp fB.b .nil fJ (eZ (pv 1) (eZ fk fh))) (fD ig (fD iH fk (pv 2)) fk)) fh)) (fy (i:=4) iB.nd rfl (Or.inl rfl))
 (fj (fC (i:=5) iB.nd rfl (Or.inl rfl) (fv g9 (hr.mono (by decide)) rfl fB.m fB.F.kp fB.b .nil fJ (eZ (fv iT (hr.mono (by decide)) rfl fH.m fH.F.kp fH.b .nil fJ (eZ (pv 0) (eZ (fD ig fk (fD ie (pv 4) fk)) fh))) (eZ (fD ig fk (pv 4)) fh))))
 (fj (fC (i:=6) iB.nd rfl (Or.inl rfl) (fD ie (pv 5) (fD iH fk (pv 2))))
 (fj (fC (i:=7) iB.nd rfl (Or.inl rfl) (fD ie (fD jm (pv 5) fk) (fD iH fk (pv 2))))
 (fj (hZ (PW.pt (wG (gz (lZ (fD ie (fv g9 (hr.mono (by decide)) rfl fB.m fB.F.kp fB.b .nil fJ (eZ (pv 1) (eZ fk fh))) fk) fk)) (wF (gz (lZ (fD ie (pv 6) fk) (fD ie (pv 7) fk))))))
 (fo (fC (i:=7) iB.nd rfl (Or.inl rfl) (fv jY (hr.mono (by decide)) rfl fQ.m fQ.F.kp fQ.b .nil fJ (eZ (pv 7) fh)))) fT)
 (fo (hZ (PW.pt (wG (gz (CQ (fD jm (pv 6) fk) (fD jm (pv 7) fk))) (wG (iu (kG hr.units) (fX (eZ (fN (rA rfl) rfl B.min boot_min (eZ (pv 6) (eZ (pv 7) fh))) (eZ (fN (rB rfl) rfl B.max boot_max (eZ (pv 6) (eZ (pv 7) fh))) fh))) (pv 3) (by with_unfolding_all rfl)) (wF (gz (tJ (fN gq rfl B.len cN (eZ (pv 3) fh)) fk))))))
 (fo (g7 (lj aL bj bh ip (pv 3) (eZ (fX (eZ (fN (rA rfl) rfl B.min boot_min (eZ (pv 6) (eZ (pv 7) fh))) (eZ (fN (rB rfl) rfl B.max boot_max (eZ (pv 6) (eZ (pv 7) fh))) fh))) fh)))) fT)))))))
 (fo (fL (fv mL (hr.mono (by decide)) rfl jg.m jg.F.kp jg.b .nil fJ (eZ (fX (eZ (pv 2) (eZ (pv 3) fh))) (eZ (fv iT (hr.mono (by decide)) rfl fH.m fH.F.kp fH.b .nil fJ (eZ (pv 0) (eZ fk fh))) fh)))))))))),?_⟩
  refine⟨_,rfl,a,ns,0,rfl,hS,by decide,λcell=>?_⟩
  refine⟨_,rfl,cell,0,rfl,by decide,by decide,λn1 _ _=>⟨_,_,rfl,rfl,(by show(0:Int)<_;decide),_,_,rfl,rfl,?_⟩⟩
  dsimp only[oC]
  refine cut (λσ H'=>H'=H/\∃ m,1<=m/\m<=14/\σ = [some (.ref a),some (.int cell),some (.int m),none,none,none,none,none]) (λN R B C kN kR=>?_) ?_
  ·refine⟨_,rfl,cell,1,rfl,by decide,by decide,λn2 _ _=>⟨_,_,rfl,rfl,(by show(0:Int)<_;decide),_,_,rfl,rfl,_,rfl,gZ (λ_=>?_) (λ_=>kN _ _ ⟨rfl,1+n1%8,by omega,by omega,rfl⟩)⟩⟩
   exact⟨_,rfl,cell,0,rfl,by decide,by decide,λn3 _ _=>⟨_,_,rfl,rfl,(by show(0:Int)<_;decide),_,_,rfl,rfl,kN _ _ ⟨rfl,9+n3%6,by omega,by omega,rfl⟩⟩⟩
  rintro σ H0 ⟨e,m,m1,m2,rfl⟩
  rw[e]
  clear e
  refine⟨aP _,λt nt=>?_⟩
  refine⟨_,rfl,cell,2,rfl,by decide,by decide,λn4 n40 _=>⟨_,rfl,_,_,rfl,rfl,.inl ⟨by decide,by decide⟩,_,_,rfl,rfl,_,_,rfl,rfl,(by show(0:Int)<2*m+4;omega),?_⟩⟩
  have q0:0<=n4%(2*m+4):=cx _ (by omega)
  have q1:n4%(2*m+4)<2*m+4:=ck _ (by omega)
  refine⟨_,rfl,by show -(2 ^ 62)<=n4%(2*m+4);omega,by show n4%(2*m+4)<2 ^ 62;omega,pY (λi σ H3=>∃ (vs:List V) (js:List (Int×Int)) (x4 x5 x6 x7:Option V),σ = [some (.ref a),some (.int cell),some (.int m),some (.ref t),x4,x5,x6,x7]/\fu H H3/\H3 t=some (.lst vs)/\Ps K H3 js vs/\hG (m,js))
   ⟨[],[],none,none,none,none,rfl,fb nt,fg,gw.mpr rfl,⟨m1,m2,aP _,λp hp=>(nomatch hp),dh⟩⟩ ?_ ?_⟩
  ·rintro i σ H3 N R B kN _ hi ⟨vs,js,x4,x5,x6,x7,rfl,S3,ht3,D,G⟩
   have i0:(0:Int)+(i:Nat)=(i:Int):=by omega
   rw[i0]
   have hi':(i:Int)<32:=by
    have:(i:Int)<n4%(2*m+4):=by
     have h:i<(n4%(2*m+4)).toNat:=hi
     omega
    omega
   refine⟨_,rfl,_,rfl,_,_,rfl,rfl,(by show(0:Int)<_;decide),_,_,rfl,rfl,a,ns,_,rfl,S3.seq hS,by show(0:Int)<=2+(i:Int)%8;omega,λc5=>⟨_,rfl,_,_,rfl,rfl,c5,_,rfl,by show(0:Int)<=10+(i:Int);omega,by show 10+(i:Int)<=1000;omega,λn5 n50 n51=>?_⟩⟩
   refine⟨_,rfl,_,rfl,_,_,rfl,rfl,.inl ⟨by decide,by decide⟩,_,_,rfl,rfl,(by show(0:Int)<2*m;omega),?_⟩
   refine⟨_,rfl,_,_,rfl,rfl,⟨by decide,by decide⟩,_,rfl,_,_,rfl,rfl,.inl ⟨by decide,by decide⟩,_,_,rfl,rfl,(by show(0:Int)<2*m;omega),?_⟩
   dsimp only
   have o0:0<=n5%(2*m):=cx _ (by omega)
   have o1:n5%(2*m)<2*m:=ck _ (by omega)
   have r0:0<=n5/64%(2*m):=cx _ (by omega)
   have r1:n5/64%(2*m)<2*m:=ck _ (by omega)
   generalize n5%(2*m)=one at o0 o1
   generalize n5/64%(2*m)=oh at r0 r1
   dsimp only[oC]
   refine cut (λσ H'=>H'=H3/\∃ oh',0<=oh'/\oh'<2*m/\σ = [some (.ref a),some (.int cell),some (.int m),some (.ref t),some (.int (i:Int)),some (.int n5),some (.int one),some (.int oh')]) (λN2 R2 B2 C2 k2 _=>?_) ?_
   ·refine⟨_,rfl,cell,3,rfl,by decide,by decide,λn6 _ _=>⟨_,_,rfl,rfl,(by show(0:Int)<_;decide),_,_,rfl,rfl,_,rfl,gZ (λ_=>?_) (λ_=>BI (k2 _ _ ⟨rfl,oh,r0,r1,rfl⟩))⟩⟩
    refine⟨_,rfl,_,_,rfl,rfl,(by show(0:Int)<_;decide),_,rfl,_,_,rfl,rfl,(by show(0:Int)<_;decide),_,_,rfl,rfl,_,rfl,gZ (λ_=>?_) (λ_=>k2 _ _ ⟨rfl,oh,r0,r1,rfl⟩)⟩
    exact⟨_,rfl,oh,rfl,k2 _ _ ⟨rfl,oth oh,zz r0,by unfold oth;omega,rfl⟩⟩
   rintro σ H0 ⟨e,oh',r0',r1',rfl⟩
   rw[e]
   clear e r0 r1
   refine⟨_,rfl,_,_,rfl,rfl,⟨by decide,by decide⟩,_,rfl,_,_,rfl,rfl,⟨by decide,by decide⟩,_,_,rfl,rfl,_,rfl,?_⟩
   refine gZ (λhne=>?_) (λ_=>BI (kN _ _ ⟨vs,js,_,_,_,_,rfl,S3,ht3,D,G⟩))
   refine⟨_,rfl,_,rfl,_,_,rfl,_,rfl,_,rfl,_,_,rfl,by show 2<=sizeLine;decide,λp1 n1=>?_⟩
   rw[zI,zJ]
   have ht4:=(fb (o:=.tup [.int (min one oh'),.int (max one oh')]) n1) _ _ ht3
   have D4:=D.same (fb (o:=.tup [.int (min one oh'),.int (max one oh')]) n1)
   refine⟨_,rfl,_,_,D4.da ht4,gR.mpr ⟨p1,_,rfl,SqT.of fg,Dgs.two (gX.mpr rfl) (gX.mpr rfl)⟩,GS js,IP (_,_),_,rfl,?_⟩
   refine gZ (λhni=>?_) (λ_=>BI (kN _ _ ⟨vs,js,_,_,_,_,rfl,S3.trans (fb n1),ht4,D4,G⟩))
   refine⟨_,rfl,t,_,rfl,.inl (SqL.of ht4),_,_,rfl,rfl,_,rfl,?_⟩
   refine gZ (λhlt=>?_) (λ_=>kN _ _ ⟨vs,js,_,_,_,_,rfl,S3.trans (fb n1),ht4,D4,G⟩)
   have hlt:(vs.length:Int)<24:=by simpa using hlt
   have vl:=D.len
   refine⟨_,rfl,.inl ⟨rfl,_,SqL.of ht4⟩,_,rfl,_,rfl,_,_,rfl,_,rfl,_,rfl,_,_,rfl,by show 2<=sizeLine;decide,λp2 n2=>?_⟩
   rw[zI,zJ]
   have S5:=(fb n1).trans (fb (o:=.tup [.int (min one oh'),.int (max one oh')]) n2)
   refine⟨t,vs,_,rfl,rfl,S5 _ _ ht3,jz (by omega),?_⟩
   refine kN _ _ ⟨_,js ++ [(min one oh',max one oh')],_,_,_,_,rfl,fu.upd (S3.trans S5) nt,fg,Ps.push (x:=(min one oh',max one oh')) (D.same S5) (S5 _ _ ht3) fg,?_⟩
   have NY:(min one oh',max one oh')∉js:=λz=>by
    have e:=JM js (min one oh',max one oh')
    unfold dP at e
    dsimp only at e
    unfold dP at hni
    rw[e]at hni
    simp[z]at hni
   have BM:one/2≠oh'/2:=by simpa using hne
   exact zT G BM o0 o1 r0' r1' NY (by omega)
  ·rintro σ H3 ⟨vs,js,x4,x5,x6,x7,rfl,S3,ht3,D,G⟩
   refine⟨_,rfl,_,rfl,by show 2<=sizeLine;decide,λp np=>?_⟩
   have S4:=fb (o:=.tup [.int m,.ref t]) np
   refine⟨_,rfl,a,ns,1,rfl,(S3.trans S4).seq hS,by decide,λc7=>?_⟩
   refine⟨_,(m,js),c7,rfl,rq fg ((D.same S4).da (S4 _ _ ht3)),G,λv' js' nm es H' s5 d5 R pm=>k v' (m,js') H' (S3.trans (S4.trans s5)) d5 (R.line G pm)⟩
end
structure Xr (K:PySem.W.Frag)(mg:Str->Option Value)(c2:Addr):Prop where
 jr:Xc K mg "NoTrain" c2
 cat:sF K c2 c2
def isT (l:Ln)(ns:List Int):Prop:=ns≠ []/\fW l ns
def xP (K:PySem.W.Frag):Sp:=λvs H Q _=>∃ (v:V) (l:Int×List (Int×Int)) (e:Int),vs = [v,.int e]/\Da K H (dL l) v/\Q (.bl (decide (0<=e/\e<2*l.1))) H
def xS (K:PySem.W.Frag)(C:Addr):Sp:=λvs H Q E=>∃ (v u:V) (l:Int×List (Int×Int)) (ns:List Int),vs = [v,u]/\Da K H (dL l) v/\Da K H (dI ns) u/\fG l/\ns.length<=900/\
 (isT l ns->∀ H',fu H H'->Q .non H')/\(¬isT l ns->∀ H',fu H H'->∀ e,H' e=none->E (.ref C) (some e) H')
abbrev qq:Stmt:=top 12
theorem Bo:fK ["line","end"] ["line","end"] (fx qq):=⟨rfl,rfl,rfl,by decide +kernel,rfl,by decide +kernel,by decide +kernel⟩
abbrev jO:Stmt:=top 19
theorem kb:fK ["line","train","end","following"] ["line","train"] (fx jO):=⟨rfl,rfl,rfl,by decide +kernel,rfl,by decide +kernel,by decide +kernel⟩
theorem nu:gH (fx jO) ["line","train","end","following"] {kind:=.function,names:=[(Str.ofString ".0",.local),(Str.ofString "end",.local),(Str.ofString "piece_of",.globalImplicit)],isGenerator:=false,isCoroutine:=false,more:=[]} ["end"] 1 [none]:=⟨rfl,by decide +kernel,by decide +kernel,by decide +kernel,rfl,by decide +kernel,rfl,by decide +kernel⟩
section
variable {P:Program}{w:World}{K:PySem.W.Frag}{mg:Str->Option Value}{base:Heap}{f:Addr}{fd:FuncData}{D c1 c2 c3 c4 c5 c6 c7:Addr}
theorem By (F:Fn K mg "is_end" qq ["line","end"] f fd):fE P w K mg base CX0 1 f fd ["line","end"] (xP K):=by
 refine F.F.ok Bo (λvs H Q E h=>?_) (λcdv A outer s H vs Q E hr h=>?_)
 ·obtain⟨v,l,e,rfl,_⟩:=h;rfl
 ·obtain⟨v,l,e,rfl,hv,k⟩:=h
  obtain⟨a,b,rfl,ht,us,hl,hq⟩:=lK hv
  refine⟨_,(fo (fL (CO IK IJ fk (pv 1) (fD iH fk (gv iq (pv 0) fk (λ_ _=>rfl)))))),?_⟩
  refine⟨_,rfl,_,_,rfl,rfl,_,rfl,gZ (λh=>?_) (λh=>?_)⟩
  ·have h:0<=e:=by simpa using h
   refine⟨_,rfl,a,_,_,_,rfl,rfl,ht,rfl,_,_,rfl,rfl,.inl ⟨by decide,by decide⟩,_,_,rfl,rfl,?_⟩
   have e1:decide (0<=e/\e<2*l.1)=decide (e<2*l.1):=by simp[h]
   rw[e1]at k
   exact k
  ·have h:¬0<=e:=by simpa using h
   have e1:decide (0<=e/\e<2*l.1)=false:=by simp[h]
   rw[e1]at k
   exact k
theorem tS {f2:Addr}(F:Fn K mg "check_train" jO ["line","train"] f fd)(XS:Xr K mg c2)(B:Bm mg)(nz:Fn K mg "is_end" qq ["line","end"] f1 fd1)
  (gQ:Fn K mg "piece_of" lV ["end"] f2 fd2) (jd:Fn K mg "joined" lW ["line","end"] f3 fd3) (fz:Fn K mg "other_end" iC ["end"] f4 fd4):fE P w K mg base (CXr P w base) 2 f fd ["line","train"] (xS K c2):=by
 have Ed:fE P w K mg base CX0 1 f1 fd1 ["line","end"] (xP K):=By nz
 have nS:fE P w K mg base CX0 1 f2 fd2 ["end"] wc:=rR gQ
 have uK:fE P w K mg base CX0 1 f3 fd3 ["line","end"] (lM K):=vO jd B.toBl
 have ik:fE P w K mg base CX0 1 f4 fd4 ["end"] jL:=kg fz
 refine F.F.okX kb (λvs H Q E h=>?_) (λcdv A outer s H vs Q E hr h=>?_)
 ·obtain⟨v,u,l,ns,rfl,_⟩:=h;rfl
 ·obtain⟨v,u,l,ns,rfl,hv,hu,ok,hz,k1,k2⟩:=h
  obtain⟨a,rfl,ha⟩:=jq.mp hu
  refine⟨_,(fj (hZ (zy (yb (pv 1) (λ_=>rfl)))
 (fo (lh jX rfl rfl XS.jr.m XS.jr.q bH (eZ gm fh))) fT)
 (fj (iy dt rfl (gj (pv 1)) (fy (i:=2) kb.nd rfl (Or.inl rfl))
 (fo (hZ (zy (CF (fv Ed (hr.mono (by decide)) rfl nz.m nz.F.kp nz.b .nil fJ (eZ (pv 0) (eZ (pv 2) fh)))))
 (fo (lh jX rfl rfl XS.jr.m XS.jr.q bH (eZ gm fh))) fT)))
 (fj (hZ (gz (tJ (fN B3 rfl B.len cN (eZ (IE (gj (pv 1)) rfl nu (.name (by decide)) (λ_ _ _ _=>(fy (i:=0) nu.nd rfl (Or.inl rfl))) (λ_ _ _ _=>iG) (λ_ _ _ _=>(fv nS (hr.mono (by decide)) rfl gQ.m gQ.F.kp gQ.b .nil fJ (eZ (pv 0) fh)))) fh)) (fN gq rfl B.len cN (eZ (pv 1) fh))))
 (fo (lh jX rfl rfl XS.jr.m XS.jr.q bH (eZ gm fh))) fT)
 (fo (iy dt rfl (CH rfl B.zip (eZ (pv 1) (eZ (m6 oX (pv 1) (o9 fk) pe) fh))) (iz (n:=2) rfl (fF (fy (i:=2) kb.nd rfl (Or.inl rfl)) (fF (fy (i:=3) kb.nd rfl (Or.inl rfl)) gS)))
 (fo (hZ (iu (kG hr.units) (pv 3) (fv uK (hr.mono (by decide)) rfl jd.m jd.F.kp jd.b .nil fJ (eZ (pv 0) (eZ (fv ik (hr.mono (by decide)) rfl fz.m fz.F.kp fz.b .nil fJ (eZ (pv 2) fh)) fh))) (by with_unfolding_all rfl))
 (fo (lh jX rfl rfl XS.jr.m XS.jr.q bH (eZ gm fh))) fT))))))),?_⟩
  refine⟨_,rfl,_,.inl ⟨_,ha,rfl⟩,gZ (λh=>?_) (λh=>?_)⟩
  ·have h:ns = []:=by simpa using h
   exact⟨by decide,λe he=>k2 (λz=>z.1 h) H (fu.refl _) e he⟩
  have hne:ns≠ []:=by simpa using h
  refine⟨_,rfl,a,rfl,⟨_,ha⟩,ni (K:=K) (a:=a) (xs:=ns.map V.int) (λi σ H3=>∃ (x2 x3:Option V),σ = [some v,some (.ref a),x2,x3]/\H3=H/\∀ e∈ns.take i,0<=e/\e<2*l.1)
   ⟨none,none,rfl,rfl,λe he=>by simp at he⟩ (λi σ H3 _ ⟨_,_,_,e,_⟩=>e ▸ ha) ?_ ?_⟩
  ·rintro i y σ H3 hi ⟨x2,x3,rfl,rfl,al⟩
   rw[ao]at hi
   obtain⟨e,he,rfl⟩:∃ e,ns[i]? = some e/\y = .int e:=by
    cases q:ns[i]? with
    |none=>rw[q]at hi;cases hi
    |some e=>rw[q]at hi;cases hi;exact⟨e,rfl,rfl⟩
   refine⟨_,rfl,_,rfl,v,l,e,rfl,hv,_,rfl,gZ (λh=>?_) (λh=>?_)⟩
   ·have h:¬(0<=e/\e<2*l.1):=λz=>by simp[z]at h
    exact⟨by decide,λx hx=>k2 (λz=>h (z.2.ends e (ax he))) H3 (fu.refl _) x hx⟩
   ·have h:0<=e/\e<2*l.1:=by simpa using h
    refine⟨_,_,rfl,rfl,λx hx=>?_⟩
    rw[aQ,he]at hx
    rcases ay.mp hx with z |z
    ·exact al x z
    ·have z:x=e:=by simpa using z
     rw[z];exact h
  rintro σ H3 ⟨x2,x3,rfl,rfl,al⟩
  rw[aa,bf]at al
  refine⟨_,rfl,a,rfl,⟨_,ha⟩,λq nq=>Cu (mB ha) ns (λe=>e/2) nq (by rw[aa]) (by rw[aa];show ns.length+1<4096;omega) ?_ ?_⟩
  ·intro i x d H' hx hd sm P1 P0 p1
   rw[ao,hd]at hx
   cases hx
   refine jw ?_
   exact⟨_,rfl,d,rfl,p1⟩
  have hq3:=fg (H:=H3) (a:=q) (o:=.set (λk=>decide (k∈ns.map λe=>e/2)) (dn (ns.map λe=>e/2) (ns.map V.int).length))
  have s4:=fb (o:=.set (λk=>decide (k∈ns.map λe=>e/2)) (dn (ns.map λe=>e/2) (ns.map V.int).length)) nq
  generalize upd H3 q _=H4 at hq3 s4 ⊢
  refine⟨q,_,_,rfl,hq3,_,rfl,a,_,rfl,.inl (s4.seq ha),_,_,rfl,rfl,_,rfl,gZ (λh=>?_) (λh=>?_)⟩
  ·have h:dn (ns.map λe=>e/2) (ns.map V.int).length<(ns.map V.int).length:=by simpa using h
   rw[aa]at h
   have h2:=(F3 (ns.map λe=>e/2)).mp (by rw[aa];exact h)
   exact⟨by decide,λx hx=>k2 (λz=>h2 z.2.nd) H4 s4 x hx⟩
  have h:¬dn (ns.map λe=>e/2) (ns.map V.int).length<(ns.map V.int).length:=by simpa using h
  rw[aa]at h
  have nd:(ns.map λe=>e/2).Nodup:=by
   have h3:=(F3 (ns.map λe=>e/2))
   rw[aa]at h3
   exact Decidable.byContradiction λz=>h (h3.mpr z)
  refine⟨_,rfl,_,rfl,_,rfl,a,_,rfl,s4.seq ha,λt nt=>?_⟩
  rw[uz]
  have ht:=fg (H:=H4) (a:=t) (o:=.lst ((ns.drop 1).map V.int))
  have s5:=fb (o:=.lst ((ns.drop 1).map V.int)) nt
  generalize upd H4 t _=H5 at ht s5 ⊢
  have S5:=s4.trans s5
  refine⟨a,t,rfl,⟨_,S5.seq ha⟩,⟨_,SqL.of ht⟩,Fg (K:=K) (a:=a) (b:=t) (xs:=ns.map V.int) (ys:=(ns.drop 1).map V.int) (ns.length-1) (by simp)
   (λi σ H6=>∃ (x2 x3:Option V),σ = [some v,some (.ref a),x2,x3]/\fu H5 H6/\∀ j,j<i->∀ x y,ns[j]? = some x->ns[j+1]? = some y->y∈jn l.2 (oth x))
   ⟨_,_,rfl,fu.refl _,λj hj=>absurd hj (en j)⟩ (λi σ H6 _ ⟨_,_,_,s,_⟩=>⟨(S5.trans s).seq ha,SqL.of (s _ _ ht)⟩) ?_ ?_⟩
  ·rintro i x y σ H6 p hx hy ⟨x2,x3,rfl,s6,al2⟩ np
   rw[ao]at hx hy
   rw[cE,Nat.add_comm]at hy
   obtain⟨d,hd,rfl⟩:∃ e,ns[i]? = some e/\x = .int e:=by
    cases q:ns[i]? with
    |none=>rw[q]at hx;cases hx
    |some e=>rw[q]at hx;cases hx;exact⟨e,rfl,rfl⟩
   obtain⟨e,he,rfl⟩:∃ e,ns[i+1]? = some e/\y = .int e:=by
    cases q:ns[i+1]? with
    |none=>rw[q]at hy;cases hy
    |some e=>rw[q]at hy;cases hy;exact⟨e,rfl,rfl⟩
   have S7:=(S5.trans s6).trans (fb (o:=.tup [.int d,.int e]) np)
   have s7:=s6.trans (fb (o:=.tup [.int d,.int e]) np)
   refine⟨p,_,rfl,SqT.of fg,rfl,_,_,rfl,_,_,rfl,rfl,?_⟩
   refine⟨_,rfl,_,rfl,_,rfl,d,rfl,v,l,_,rfl,Da.same S7 hv,ok,λr H8 s8 nr hr8=>?_⟩
   refine⟨(jn l.2 (oth d)).map PyData.int,.int e,gD hr8,gX.mpr rfl,tU _,qy _,_,rfl,?_⟩
   rw[za]
   refine gZ (λh=>?_) (λh=>?_)
   ·have h:e∉jn l.2 (oth d):=by simpa using h
    exact⟨by decide,λx hx=>k2 (λz=>h (z.2.ch i d e hd he)) H8 (S7.trans s8) x hx⟩
   ·have h:e∈jn l.2 (oth d):=by simpa using h
    refine⟨_,_,rfl,s7.trans s8,λj hj x2 y2 hx2 hy2=>?_⟩
    rcases dC.mp hj with z |z
    ·exact al2 j z x2 y2 hx2 hy2
    ·subst z
     rw[hd]at hx2;rw[he]at hy2
     cases hx2;cases hy2
     exact h
  rintro σ H6 ⟨x2,x3,rfl,s6,al2⟩
  refine k1 ⟨hne,al,nd,λi x y hx hy=>al2 i ?_ x y hx hy⟩ H6 (S5.trans s6)
  have:=(af.mp hy).1
  omega
end
structure Cm (mg:Str->Option Value)(tk:Tok):Prop where
 oP:mg "MOST_STANDINGS" = some (.int 300 tk)
structure Xt (K:PySem.W.Frag)(mg:Str->Option Value)(c:Addr):Prop where
 pH:Xc K mg "TooMany" c
def qk (K:PySem.W.Frag)(C:Addr):Sp:=λvs H Q E=>∃ (v u:V) (l:Ln) (ns:List Int),vs = [v,u]/\Da K H (dL l) v/\Da K H (dI ns) u/\fG l/\ns≠ []/\ns.length<=900/\fW l ns/\
 (∀ i d vs H',(fA l ns i).length=i->i<=300->fu H H'->H d=none->mn K H' d (fA l ns i) vs->Q (.ref d) H')/\
 ((∃ i,300<(fA l ns i).length)->∀ H',fu H H'->∀ e,H' e=none->E (.ref C) (some e) H')
def at5 (σ:L2.St)(_:Hp):Nat:=match (σ[5]? :Option (Option V))with
 |some (some (V.int i))=>(301-i).toNat
 |_=>0
def pU (K:PySem.W.Frag):Sp:=λvs H Q _=>∃ (d:Addr) (es:List Ent) (us:List V),vs = [.ref d]/\mn K H d es us/\es.length<=5000000/\∀ q bs H',my H H' q bs (es.map (·.1))->Q (.ref q) H'
def As (K:PySem.W.Frag):Sp:=λvs H Q _=>∃ (d g:Addr) (es:List Ent) (us:List V) (t:List Int),vs = [.ref d,.ref g]/\mn K H d es us/\H g=some (.tup (t.map V.int))/\t∈es.map (·.1)/\nC es/\(es.map (·.1)).Nodup/\es.length<=5000000/\
 ∀ q run H',fu H H'->H q=none->pR K H' q run->mr es t run->Q (.ref q) H'
abbrev je:Stmt:=top 27
theorem gK:fK ["line","train","start","steps","order","at","ahead","move","behind","standing"] ["line","train"] (fx je):=⟨rfl,rfl,rfl,by decide +kernel,rfl,by decide +kernel,by decide +kernel⟩
abbrev jv:Stmt:=top 28
theorem rP:fK ["standings"] ["standings"] (fx jv):=⟨rfl,rfl,rfl,by decide +kernel,rfl,by decide +kernel,by decide +kernel⟩
theorem kU:gH (fx jv) ["standings"] {kind:=.function,names:=[(Str.ofString ".0",.local),(Str.ofString "standing",.local),(Str.ofString "list",.globalImplicit)],isGenerator:=false,isCoroutine:=false,more:=[]} ["standing"] 1 [none]:=⟨rfl,by decide +kernel,by decide +kernel,by decide +kernel,rfl,by decide +kernel,rfl,by decide +kernel⟩
abbrev iK:Stmt:=top 30
theorem fV:fK ["steps","goal","run","step","ahead","move"] ["steps","goal"] (fx iK):=⟨rfl,rfl,rfl,by decide +kernel,rfl,by decide +kernel,by decide +kernel⟩
section
variable {P:Program}{w:World}{K:PySem.W.Frag}{mg:Str->Option Value}{base:Heap}{f:Addr}{fd:FuncData}{c5:Addr}{tk:Tok}
theorem tQ (F:Fn K mg "first_steps" je ["line","train"] f fd)(B:Bm mg)(C:Cm mg tk)(XS:Xt K mg c5)(gG:Fn K mg "moves_of" kB ["line","train"] f1 fd1)
  (i8:fE P w K mg base CX0 3 f1 fd1 ["line","train"] (mT K)):fE P w K mg base (CXr P w base) 4 f fd ["line","train"] (qk K c5):=by
 refine F.F.okX gK (λvs H Q E h=>?_) (λcdv A outer s H vs Q E hr h=>?_)
 ·obtain⟨v,u,l,ns,rfl,_⟩:=h;rfl
 ·obtain⟨v,u,l,ns,rfl,hv,hu,ok,hne,hz,T,k1,k2⟩:=h
  obtain⟨a,rfl,ha⟩:=jq.mp hu
  refine⟨_,(fj (fC (i:=2) gK.nd rfl (Or.inl rfl) (gC g6 rfl B.tuple dW (eZ (pv 1) fh)))
 (fj (fC (i:=3) gK.nd rfl (Or.inl rfl) (yg (nh hr) (pv 2) wK))
 (fj (fC (i:=4) gK.nd rfl (Or.inl rfl) (gM (eZ (pv 2) fh)))
 (fj (fC (i:=5) gK.nd rfl (Or.inl rfl) fk)
 (fj (m3 dt (gz (tJ (pv 5) (fN gq rfl B.len cN (eZ (pv 4) fh))))
 (fj (fC (i:=6) gK.nd rfl (Or.inl rfl) (gv gJ (pv 4) (pv 5) (λ_ _=>rfl)))
 (fj (wJ (i:=5) gK.nd rfl (Or.inl rfl) fk zN)
 (fo (iy dt rfl (gj (fv i8 (hr.mono (by decide)) rfl gG.m gG.F.kp gG.b .nil fJ (eZ (pv 0) (eZ (gC kn rfl B.list eU (eZ (pv 6) fh)) fh)))) (iz (n:=2) rfl (fF (fy (i:=7) gK.nd rfl (Or.inl rfl)) (fF (fy (i:=8) gK.nd rfl (Or.inl rfl)) gS)))
 (fj (fC (i:=9) gK.nd rfl (Or.inl rfl) (gC g6 rfl B.tuple dW (eZ (pv 8) fh)))
 (fo (hZ (gz (qT (nh hr) (pv 9) (pv 3)))
 (fj (hZ (gz (lZ (fN gq rfl B.len cN (eZ (pv 4) fh)) (lI (v:=.int 300) rfl C.oP ⟨_,rfl⟩)))
 (fo (lh jX rfl rfl XS.pH.m XS.pH.q bH (eZ (CL (i:=300) rfl C.oP ⟨_,rfl⟩ (by decide) (by decide)) fh))) fT)
 (fj (wI (nh hr) (pv 3) (pv 9) (fX (eZ (pv 6) (eZ (pv 7) fh))) rfl)
 (fo (g7 (lj aL bj bh ip (pv 4) (eZ (pv 9) fh)))))) fT))))))))
 (fo (fL (pv 3)))))))),?_⟩
  refine⟨_,rfl,a,_,rfl,.inl ⟨ha,λt0 nt0=>?_⟩⟩
  have s1:=fb (o:=.tup (ns.map V.int)) nt0
  have h1:=fg (H:=H) (a:=t0) (o:=.tup (ns.map V.int))
  generalize upd H t0 _=H1 at s1 h1 ⊢
  refine λd nd=>⟨_,rfl,_,_,t0,kyI ns,rfl,rfl,by rw[iI];exact fb nd _ _ h1,fg,?_⟩
  rw[qh]
  have s2:=fb (o:=.dT [(kyI ns,V.non)]) nd
  have h2:=s2 _ _ h1
  have hd2:=fg (H:=H1) (a:=d) (o:=.dT [(kyI ns,V.non)])
  have nd0:=fu.free s1 nd
  generalize upd H1 d _=H2 at s2 h2 hd2 ⊢
  refine⟨_,rfl,by show 1<=sizeLine;decide,λp np=>?_⟩
  have s3:=fb (o:=.lst [V.ref t0]) np
  have h3:=s3 _ _ h2
  have hd3:=s3 _ _ hd2
  have hp3:=fg (H:=H2) (a:=p) (o:=.lst [V.ref t0])
  have np0:=fu.free (s1.trans s2) np
  have S3:=s1.trans (s2.trans s3)
  generalize upd H2 p _=H3 at s3 h3 hd3 hp3 S3 ⊢
  refine oU (λσ H4=>∃ (i:Nat) (as:List Addr) (vs:List V) (x6 x7 x8 x9:Option V),σ = [some v,some (.ref a),some (.ref t0),some (.ref d),some (.ref p),some (.int i),x6,x7,x8,x9]/\fu H H4/\mn K H4 d (fA l ns i) vs/\Ord H4 p as (fA l ns i)/\i<=(fA l ns i).length/\(fA l ns i).length<=300)
   at5 ⟨0,[t0],[.non],none,none,none,none,rfl,S3,⟨hd3,rfl,λi e v' he hv'=>?_⟩,⟨hp3,rfl,λi b e hb he=>?_⟩,aP _,by simp[fA]⟩ ?_ ?_
  ·match i,he,hv' with
   | 0,he,hv'=>cases he;cases hv';rfl
  ·match i,hb,he with
   | 0,hb,he=>cases hb;cases he;exact h3
  ·rintro σ H4 N1 R1 B1 kN1 _ kB1 ⟨i,as,vs,x6,x7,x8,x9,rfl,S4,hs4,ho4,hi,Jv⟩
   have E4:=iN ok T hne i
   refine⟨_,rfl,_,rfl,p,_,rfl,.inl (SqL.of ho4.at_),_,_,rfl,rfl,_,rfl,gZ (λhlt=>?_) (λhlt=>?_)⟩
   ·have hlt:(i:Int)<((as.map V.ref).length:Int):=by simpa using hlt
    rw[aa,ho4.len]at hlt
    have hi2:i<(fA l ns i).length:=by omega
    have he:(fA l ns i)[i]? = some ((fA l ns i)[i]):=by simp
    generalize (fA l ns i)[i]=e at he
    obtain⟨b,hb⟩:∃ b,as[i]? = some b:=⟨as[i]'(by rw[ho4.len];exact hi2),ag _⟩
    have hbt:=ho4.each i b e hb he
    obtain⟨T1,T2,T3⟩:=E4.tr e (ax he)
    refine⟨_,rfl,_,rfl,p,_,_,_,rfl,rfl,SqL.of ho4.at_,rC (v:=V.ref b) (by omega) (by rw[ao,show((i:Int)).toNat=i by omega,hb];rfl),?_⟩
    refine⟨_,rfl,_,_,rfl,rfl,?_⟩
    refine⟨_,rfl,_,rfl,b,_,rfl,.inr (SqT.of hbt),λq nq=>?_⟩
    have s5:=fb (o:=.lst (e.1.map V.int)) nq
    have hq5:=fg (H:=H4) (a:=q) (o:=.lst (e.1.map V.int))
    generalize upd H4 q _=H5 at s5 hq5 ⊢
    refine⟨_,_,l,e.1,rfl,Da.same (S4.trans s5) hv,gD hq5,ok,T3,by omega,λpm vm H6 s6 hpm yx Dm=>?_⟩
    have s46:=s5.trans s6
    have S6:=S4.trans s46
    have hs6:=hs4.same s46
    have ho6:=ho4.same s46
    have Dl:(mvs l e.1).length=vm.length:=by have:=Dm.length;rw[aa]at this;exact this.symm
    have zQ:=s46 _ _ hbt
    have pmp:pm≠p:=bF (fw (s5 _ _ ho4.at_) hpm)
    have pmd:pm≠d:=bF (fw (s5 _ _ hs4.at_) hpm)
    refine⟨pm,rfl,⟨_,SqL.of yx⟩,jf (K:=K) (a:=pm) (xs:=vm) (λj σ H7=>∃ (as':List Addr) (vs':List V) (x7 x8 x9:Option V),σ = [some v,some (.ref a),some (.ref t0),some (.ref d),some (.ref p),some (.int ((i:Int)+1)),some (.ref b),x7,x8,x9]/\
      fu H H7/\fu (yz d p H6) H7/\mn K H7 d (gB e.1 ((mvs l e.1).take j) (fA l ns i)) vs'/\Ord H7 p as' (gB e.1 ((mvs l e.1).take j) (fA l ns i))/\(gB e.1 ((mvs l e.1).take j) (fA l ns i)).length<=300)
     ⟨as,vs,x7,x8,x9,rfl,S6,λb u h=>ja (p:=d) b u (ja (p:=p) b u h),hs6,ho6,Jv⟩ (λj σ H7 _ ⟨_,_,_,_,_,_,_,sm,_⟩=>SqL.of (sm _ _ (by rw[mC pmd pmp];exact yx))) ?_ ?_⟩
    ·rintro j y σ H7 N R B kN _ hj ⟨as',vs',y7,y8,y9,rfl,S7,sm,hs7,ho7,AS⟩
     obtain⟨m,ad,p1,bb,hm,rfl,ht,dm,hbb,nbb,_⟩:=AH Dm hj
     obtain⟨a1,ea1,htm⟩:=HG dm
     cases ea1
     have bbp:bb≠p:=bF (fw (s5 _ _ ho4.at_) nbb)
     have bbd:bb≠d:=bF (fw (s5 _ _ hs4.at_) nbb)
     have ht7:=gi sm (uh hs6.at_ ho6.at_ ht)
     have Hl:=gi sm (uh hs6.at_ ho6.at_ htm)
     have BP:H7 bb=some (.lst (m.2.map V.int)):=sm _ _ (by rw[mC bbd bbp];exact hbb)
     have hb7:H7 b=some (.tup (e.1.map V.int)):=sm _ _ (by rw[mC (fU zQ hs6.at_ (by intro z;cases z)) (fU zQ ho6.at_ (by intro z;cases z))];exact zQ)
     refine⟨ad,_,rfl,ht7,rfl,_,_,rfl,_,_,rfl,rfl,?_⟩
     refine⟨_,rfl,bb,_,rfl,.inl ⟨SqL.of BP,λst nst=>?_⟩⟩
     have s8:=fb (o:=.tup (m.2.map V.int)) nst
     have hst:=fg (H:=H7) (a:=st) (o:=.tup (m.2.map V.int))
     have hs8:=hs7.same s8
     have ho8:=ho7.same s8
     have S8:=S7.trans s8
     have sm8:=sm.trans s8
     have hb8:=s8 _ _ hb7
     have BL:=gi s8 Hl
     generalize upd H7 st _=H8 at s8 hst hs8 ho8 S8 sm8 hb8 BL ⊢
     refine⟨_,rfl,_,rfl,d,_,rfl,qL.t (k:=kyI m.2) hs8.at_ (by rw[iI];exact hst),_,rfl,?_⟩
     rw[hs8.mem m.2]
     have n8:gB e.1 ((mvs l e.1).take (j+1)) (fA l ns i)=mJ e.1 (gB e.1 ((mvs l e.1).take j) (fA l ns i)) m:=sV hm
     refine gZ (λhn=>?_) (λhn=>?_)
     ·have hn:m.2∉(gB e.1 ((mvs l e.1).take j) (fA l ns i)).map (·.1):=by simpa using hn
      have mS:gB e.1 ((mvs l e.1).take (j+1)) (fA l ns i)=gB e.1 ((mvs l e.1).take j) (fA l ns i) ++ [(m.2,some (e.1,m.1))]:=by
       rw[n8];unfold mJ;rw[aH hn]
      refine⟨_,rfl,p,_,rfl,.inl (SqL.of ho8.at_),_,_,rfl,rfl,_,rfl,gZ (λh3=>?_) (λh3=>?_)⟩
      ·have h3:((as'.map V.ref).length:Int)=300:=by simpa using h3
       rw[aa,ho8.len]at h3
       refine λz=>⟨by show 1<=sizeLine;decide,λx hx=>k2 ⟨i+1,?_⟩ H8 S8 x hx⟩
       rw[mQ he]
       have:=(om (t:=e.1) (mvs l e.1) (fA l ns i) (j+1)).length_le
       rw[mS,ah,aA]at this
       omega
      ·have h3:¬((as'.map V.ref).length:Int)=300:=by simpa using h3
       rw[aa,ho8.len]at h3
       refine⟨_,rfl,_,rfl,by show 2<=sizeLine;decide,λtp ntp=>?_⟩
       have s9:=fb (o:=.tup [.ref b,.ref p1]) ntp
       have htp:=fg (H:=H8) (a:=tp) (o:=.tup [.ref b,.ref p1])
       have hs9:=hs8.same s9
       have ho9:=ho8.same s9
       have Hm:=s9 _ _ hst
       have hb9:=s9 _ _ hb8
       have Du:=gi s9 BL
       have S9:=S8.trans s9
       have sm9:=sm8.trans s9
       generalize upd H8 tp _=H9 at s9 htp hs9 ho9 Hm hb9 Du S9 sm9 ⊢
       have dl:((List.zip (gB e.1 ((mvs l e.1).take j) (fA l ns i)) vs').map λp=>(kyI p.1.1,p.2)).length<=300:=by rw[aa,cw];omega
       refine⟨_,rfl,_,rfl,d,_,rfl,Ae.t (k:=kyI m.2) hs9.at_ (by rw[iI];exact Hm) (lB (by omega)),?_⟩
       obtain⟨g1,g2⟩:=Bt hs9 ho9 Hm htp hb9 Du hn
       have pd:p≠d:=fU ho9.at_ hs9.at_ (by intro z;cases z)
       have hp9:upd H9 d (.dT (putK ((List.zip (gB e.1 ((mvs l e.1).take j) (fA l ns i)) vs').map λp=>(kyI p.1.1,p.2)) (kyI m.2) (.ref tp))) p=some (.lst (as'.map V.ref)):=by rw[fm pd];exact ho9.at_
       refine⟨_,rfl,.inl ⟨rfl,_,SqL.of hp9⟩,_,rfl,p,_,_,rfl,rfl,hp9,lB (by rw[aa,ho9.len];omega),?_⟩
       refine kN _ _ ⟨as' ++ [st],vs' ++ [.ref tp],_,_,_,rfl,fu.upd (fu.upd S9 nd0) np0,ug sm9,by rw[mS];exact g1,by rw[mS];exact g2,?_⟩
       rw[mS,ah,aA]
       omega
     ·have hn:m.2∈(gB e.1 ((mvs l e.1).take j) (fA l ns i)).map (·.1):=by simpa using hn
      have rN:gB e.1 ((mvs l e.1).take (j+1)) (fA l ns i)=gB e.1 ((mvs l e.1).take j) (fA l ns i):=by
       rw[n8];unfold mJ;rw[aM hn]
      exact kN _ _ ⟨as',vs',_,_,_,rfl,S8,sm8,by rw[rN];exact hs8,by rw[rN];exact ho8,by rw[rN];exact AS⟩
    ·rintro σ H7 ⟨as',vs',y7,y8,y9,rfl,S7,sm,hs7,ho7,AS⟩
     rw[<-Dl,bf,<-mQ he]at hs7 ho7 AS
     have yw:=(oV l ns i).length_le
     refine kN1 _ _ ⟨i+1,as',vs',_,_,_,_,rfl,S7,hs7,ho7,by omega,AS⟩ ?_
     show(301-((i:Int)+1)).toNat<(301-(i:Int)).toNat
     omega
   ·have hlt:¬(i:Int)<((as.map V.ref).length:Int):=by simpa using hlt
    rw[aa,ho4.len]at hlt
    have e1:(fA l ns i).length=i:=by omega
    exact kB1 _ _ ⟨_,rfl,k1 i d vs H4 e1 (by omega) S4 nd0 hs4⟩
  ·rintro σ H Q Q' hq ⟨x,e1,y,e2,p',ys,e3,h4,i',j',e5,e6,c,e7,q⟩
   exact⟨x,e1,y,e2,p',ys,e3,h4,i',j',e5,e6,c,e7,hq _ _ q⟩
theorem rS (F:Fn K mg "lists_of" jv ["standings"] f fd)(B:Bm mg):fE P w K mg base CX0 1 f fd ["standings"] (pU K):=by
 refine F.F.ok rP (λvs H Q E h=>?_) (λcdv A outer s H vs Q E hr h=>?_)
 ·obtain⟨d,es,us,rfl,_⟩:=h;rfl
 ·obtain⟨d,es,us,rfl,hs,hl,k⟩:=h
  have hd:=hs.at_
  have kl:((es.zip us).map λp=>(kyI p.1.1,p.2)).length=es.length:=by rw[aa,cw,hs.len];omega
  have kat:∀ (i:Nat) (p:List Key×V),((es.zip us).map λp=>(kyI p.1.1,p.2))[i]? = some p->∃ t,(es.map (·.1))[i]? = some t/\p.1=kyI t:=λi p hp=>by
   have h1:(((es.zip us).map λp=>(kyI p.1.1,p.2)).map (·.1))[i]? = some p.1:=by rw[ao,hp];rfl
   rw[t7 hs.len,ao]at h1
   cases q:es[i]? with
   |none=>rw[q]at h1;cases h1
   |some e=>rw[q]at h1;exact⟨e.1,by rw[ao,q];rfl,(aU h1).symm⟩
  generalize (es.zip us).map (λp=>(kyI p.1.1,p.2))=kvs at hd kl kat
  refine⟨_,(fo (fL (CM (nV (EH (pv 0)) rfl kU (.name (by decide)) (λ_ _ _ _=>(fy (i:=0) kU.nd rfl (Or.inl rfl))) (λ_ _ _ _=>iG) (λ_ _ _ _=>(gC (kW (K:=K) rfl) rfl B.list eU (eZ (pv 0) fh))))))),?_⟩
  refine⟨d,kvs,hd,λo=>⟨_,rfl,d,o,kvs,rfl,fg,λq nq=>?_⟩⟩
  have qd:q≠d:=λz=>by subst z;rw[fg]at nq;cases nq
  have nq0:H q=none:=by rw[fm qd]at nq;exact nq
  have hf:=fg (H:=H) (a:=d) (o:=.frz o (.dT kvs))
  have hfo:∀ b,b≠d->upd H d (.frz o (.dT kvs)) b=H b:=λb hb=>fm hb
  generalize upd H d (.frz o (.dT kvs))=HF at nq hf hfo ⊢
  refine t6 es.length (λi acc H'=>∃ bs:List Addr,acc=bs.map V.ref/\bs.length=i/\fu HF H'/\H' q=some (.lst acc)/\(∀ (j:Nat) b t,bs[j]? = some b->(es.map (·.1))[j]? = some t->HF b=none/\b≠q/\H' b=some (.lst (t.map V.int)))/\bs.Nodup)
   ⟨[],rfl,rfl,fb nq,fg,λj b t h=>by simp at h,by simp⟩ (λi acc H' hi ⟨_,_,_,sm,_⟩=>⟨sm _ _ hf,by rw[kl];exact hi⟩) (λacc H' ⟨_,_,_,sm,_⟩=>⟨sm _ _ hf,by rw[kl];exact au _⟩) ?_ ?_
  ·rintro i x acc H4 H5 hi ⟨bs,rfl,bl,sm,hq,ea,nd⟩ ⟨e5,b,p,hp,rfl,hb⟩
   subst e5
   obtain⟨t,ht,hpt⟩:=kat i p hp
   rw[hpt,iI]at hb
   refine jw ?_
   refine⟨_,rfl,b,_,rfl,.inr (SqT.of hb),λnb nnb=>?_⟩
   have s6:=fb (o:=.lst (t.map V.int)) nnb
   have nbq:nb≠q:=bF (fw hq nnb)
   refine⟨s6 _ _ hq,lB (by rw[aa];omega),bs ++ [nb],by rw[aw];rfl,by rw[ah,bl];rfl,fu.upd (sm.trans s6) nq,fg,λj c u hc hu=>?_,?_⟩
   ·by_cases hj:j<bs.length
    ·rw[ak hj]at hc
     obtain⟨z1,z2,z3⟩:=ea j c u hc hu
     exact⟨z1,z2,by rw[fm z2];exact s6 _ _ z3⟩
    ·have hj2:j=bs.length:=by
      have:=(af.mp hc).1
      rw[ah,aA]at this
      omega
     rw[hj2,av (au _),aV]at hc
     cases hc
     rw[hj2,bl,ht]at hu
     cases hu
     exact⟨fu.free sm nnb,nbq,by rw[fm nbq];exact fg⟩
   ·rw[bx]
    refine⟨nd,by simp,λx hx y hy=>?_⟩
    have hy:y=nb:=by simpa using hy
    subst hy
    obtain⟨j,hj,e⟩:=aR.mp hx
    have hje:j<(es.map (·.1)).length:=by rw[aa];omega
    obtain⟨_,_,z3⟩:=ea j x ((es.map (·.1))[j]'hje) (by rw[ag hj,e]) (ag _)
    exact fw z3 nnb
  ·rintro acc H' ⟨bs,rfl,bl,sm,hq,ea,nd⟩
   refine⟨sm _ _ hf,k q bs _ ⟨λb u h=>?_,nq0,by rw[fm qd];exact hq,by rw[aa];exact bl,λj b t hb ht=>?_,nd⟩⟩
   ·by_cases e:b=d
    ·subst e;rw[fg,<-hd];exact h
    ·rw[fm e];exact sm _ _ (by rw[hfo b e];exact h)
   ·obtain⟨z1,z2,z3⟩:=ea j b t hb ht
    have bd:b≠d:=λe=>by subst e;rw[hf]at z1;cases z1
    exact⟨by rw[<-hfo b bd];exact z1,z2,by rw[fm bd];exact z3⟩
theorem qU (F:Fn K mg "run_back_from" iK ["steps","goal"] f fd):fE P w K mg base CX0 1 f fd ["steps","goal"] (As K):=by
 refine F.F.ok fV (λvs H Q E h=>?_) (λcdv A outer s H vs Q E hr h=>?_)
 ·obtain⟨d,g,es,us,t,rfl,_⟩:=h;rfl
 ·obtain⟨d,g,es,us,t,rfl,hs,hg,ht,bk,nd,hl,k⟩:=h
  refine⟨_,(fj (fC (i:=2) fV.nd rfl (Or.inl rfl) (gM fh))
 (fj (fC (i:=3) fV.nd rfl (Or.inl rfl) (sx (nh hr) (pv 0) (pv 1) (λ_ _=>rfl)))
 (fj (m3 aW (gz (qt (pv 3)))
 (fj (ot (pv 3) (iz (n:=2) rfl (fF (fy (i:=4) fV.nd rfl (Or.inl rfl)) (fF (fy (i:=5) fV.nd rfl (Or.inl rfl)) gS))))
 (fj (hZ (gz (qt (pv 5)))
 (fo (g7 (lj aL bj bh ip (pv 2) (eZ (pv 5) fh)))) fT)
 (fo (fC (i:=3) fV.nd rfl (Or.inl rfl) (sx (nh hr) (pv 0) (pv 4) (λ_ _=>rfl)))))))
 (fj (g7 (CP aL PySem.F.slot_list_reverse PySem.F.type_list_reverse tW (pv 2)))
 (fo (fL (pv 2))))))),?_⟩
  refine⟨aP _,λp np=>?_⟩
  have s1:=fb (o:=.lst []) np
  have hp1:=fg (H:=H) (a:=p) (o:=.lst [])
  generalize upd H p _=H1 at s1 hp1 ⊢
  obtain⟨e0,he0,rfl⟩:=ai.mp ht
  obtain⟨j0,hj0,ej0⟩:=aR.mp he0
  have Dx:es[j0]? = some e0:=by rw[ag hj0,ej0]
  have uat:∀ j,j<es.length->∃ v,us[j]? = some v:=λj hj=>⟨us[j]'(by rw[hs.len];exact hj),ag _⟩
  obtain⟨v0,hv0⟩:=uat j0 hj0
  have hs1:=hs.same s1
  refine⟨_,rfl,_,rfl,d,v0,rfl,by rw[<-hs1.get nd Dx hv0];exact qL.t (k:=kyI e0.1) hs1.at_ (by rw[iI];exact s1 _ _ hg),?_⟩
  refine xB (λn σ H3=>∃ (e:Ent) (sv:V) (rr:List (Str×Int)) (vs:List V) (x4 x5:Option V),σ = [some (.ref d),some (.ref g),some (.ref p),some sv,x4,x5]/\es[n]? = some e/\us[n]? = some sv/\fu H H3/\H3 p=some (.lst vs)/\Das K (hid p H3) (rr.map dM) vs/\
    (∀ k∈rr,PyData.strOk k.1=true)/\rr.length+n<=es.length/\∀ r,mr es e.1 r->mr es e0.1 (r++rr.reverse))
   j0 ⟨e0,v0,[],[],none,none,rfl,Dx,hv0,s1,hp1,gw.mpr rfl,(λk hk=>by cases hk),by simp;omega,λr hr=>by simpa using hr⟩ ?_ ?_
  ·rintro n σ H3 ⟨e,sv,rr,vs,x4,x5,rfl,hn,hsv,S3,hp3,D3,okr,ln,PT⟩
   have hs3:=hs.same S3
   have sv3:=hs3.each n e sv hn hsv
   have vl:vs.length=rr.length:=by have:=Dgs.length D3;rw[aa]at this;exact this
   refine⟨_,rfl,_,rfl,gZ (λhb=>?_) (λhb=>?_)⟩
   ·obtain⟨t',o'⟩:=e
    cases o' with
    |none=>
     have z:sv = .non:=sv3
     rw[z]at hb
     exact absurd hb (by decide)
    |some tk=>
     obtain⟨t1,k1⟩:=tk
     obtain⟨a,b,c,rfl,ha,hb1,hc⟩:=sv3
     refine⟨_,rfl,a,_,rfl,SqT.of ha,rfl,_,_,rfl,_,_,rfl,rfl,?_⟩
     refine⟨_,rfl,_,rfl,yu ?_⟩
     refine⟨_,rfl,.inl ⟨rfl,_,SqL.of hp3⟩,_,rfl,p,_,_,rfl,rfl,hp3,lB (by omega),?_⟩
     obtain⟨i,e1,hi,he1,rfl⟩:=bk.back n t' t1 k1 hn
     have hlt:=(af.mp he1).1
     obtain⟨v1,hv1⟩:=uat i hlt
     have dp:d≠p:=fU hs3.at_ hp3 (by intro z;cases z)
     have bp:b≠p:=fU hb1 hp3 (by intro z;cases z)
     have S4:=fu.upd (o:=.lst (vs ++ [V.ref c])) S3 np
     have hs4:=hs.same S4
     refine⟨_,rfl,_,rfl,d,v1,rfl,by rw[<-hs4.get nd he1 hv1];exact qL.t (k:=kyI e1.1) hs4.at_ (by rw[iI,fm bp];exact hb1),?_⟩
     refine⟨i,hi,e1,v1,rr ++ [k1],vs ++ [V.ref c],_,_,rfl,he1,hv1,S4,fg,?_,λk' hk'=>?_,by rw[ah,aA];omega,λr hr=>?_⟩
     ·rw[pq,aw]
      exact Dgs.append D3 (Dgs.one (F6 (sC hp3 hc)))
     ·rcases ay.mp hk' with z |z
      ·exact okr k' z
      ·have z:k'=k1:=by simpa using z
       rw[z];exact bk.ok n t' e1.1 k1 hn
     ·have:=PT (r ++ [k1]) (.snoc (ax hn) hr)
      rw[eB,de,List.reverse_nil,eu]
      rw[cu]at this
      exact this
   ·obtain⟨t',o'⟩:=e
    cases o' with
    |some tk=>
     obtain⟨t1,k1⟩:=tk
     obtain⟨a,b,c,rfl,ha,hb1,hc⟩:=sv3
     exact absurd rfl hb
    |none=>
     refine⟨_,rfl,.inl ⟨rfl,_,SqL.of hp3⟩,p,_,rfl,rfl,hp3,?_⟩
     refine⟨_,rfl,k p rr.reverse _ (fu.upd S3 np) np ⟨⟨_,fg,?_⟩,λk' hk'=>okr k' (by simpa using hk')⟩ ?_⟩
     ·rw[pq,eX]
      exact Dgs.rev D3
     ·have:=PT [] (.nil (ax hn))
      simpa using this
  ·rintro σ H Q Q' hq ⟨x,e1,c,e2,q⟩
   exact⟨x,e1,c,e2,hq _ _ q⟩
end
def Ak (K:PySem.W.Frag):Sp:=λvs H Q _=>∃ (d:Addr) (es:List Ent) (us:List V),vs = [.ref d]/\mn K H d es us/\nC es/\(es.map (·.1)).Nodup/\es.length<=5000000/\∀ q us' H',fu H H'->rY H H' q (fI es) us'->Q (.ref q) H'
abbrev kc:Stmt:=top 31
theorem kM:fK ["steps","numbers","standing","step"] ["steps"] (fx kc):=⟨rfl,rfl,rfl,by decide +kernel,rfl,by decide +kernel,by decide +kernel⟩
theorem lr:gH (fx kc) ["steps","numbers","standing","step"] {kind:=.function,names:=[(Str.ofString ".0",.local),(Str.ofString "standing",.local),(Str.ofString "number",.local),(Str.ofString "list",.globalImplicit)],isGenerator:=false,isCoroutine:=false,more:=[]} ["standing","number"] 2 [none,none]:=⟨rfl,by decide +kernel,by decide +kernel,by decide +kernel,rfl,by decide +kernel,rfl,by decide +kernel⟩
section
variable {P:Program}{w:World}{K:PySem.W.Frag}{mg:Str->Option Value}{base:Heap}{f:Addr}{fd:FuncData}
theorem uP (F:Fn K mg "numbers_of" kc ["steps"] f fd)(B:Bm mg):fE P w K mg base CX0 1 f fd ["steps"] (Ak K):=by
 refine F.F.ok kM (λvs H Q E h=>?_) (λcdv A outer s H vs Q E hr h=>?_)
 ·obtain⟨d,es,us,rfl,_⟩:=h;rfl
 ·obtain⟨d,es,us,rfl,hs,bk,nd,hl,k⟩:=h
  have hd:=hs.at_
  have kl:((es.zip us).map λp=>(kyI p.1.1,p.2)).length=es.length:=by rw[aa,cw,hs.len];omega
  have kat:∀ (i:Nat) (p:List Key×V),((es.zip us).map λp=>(kyI p.1.1,p.2))[i]? = some p->∃ e,es[i]? = some e/\p.1=kyI e.1/\mm K H e p.2:=λi p hp=>by
   rw[ao]at hp
   cases q:(es.zip us)[i]? with
   |none=>rw[q]at hp;cases hp
   |some r=>
    rw[q]at hp
    cases hp
    obtain⟨h1,h2⟩:=dy.mp (show(es.zip us)[i]? = some (r.1,r.2) from q)
    exact⟨r.1,h1,rfl,hs.each i _ _ h1 h2⟩
  generalize (es.zip us).map (λp=>(kyI p.1.1,p.2))=kvs at hd kl kat
  refine⟨_,(fj (fC (i:=1) kM.nd rfl (Or.inl rfl) CN)
 (fj (GA (iy aW rfl (yc (pv 0)) (iz (n:=2) rfl (fF (fy (i:=2) kM.nd rfl (Or.inl rfl)) (fF (fy (i:=3) kM.nd rfl (Or.inl rfl)) gS)))
 (fo (wI (nh hr) (pv 1) (pv 2) (yf (gz (GI (pv 3))) fk (fD ig (sx (nh hr) (pv 1) (gv iq (pv 3) fk (λ_ _=>rfl)) (λ_ _=>rfl)) fk)) rfl))))
 (fo (fL (CM (nV (yc (pv 1)) rfl lr (.tup (.cons (.name (by decide)) (.cons (.name (by decide)) .nil))) (λ_ _ _ _=>(iz (n:=2) rfl (fF (fy (i:=0) lr.nd rfl (Or.inl rfl)) (fF (fy (i:=1) lr.nd rfl (Or.inl rfl)) gS)))) (λ_ _ _ _=>iG) (λ_ _ _ _=>(fX (eZ (gC (kW (K:=K) rfl) rfl B.list eU (eZ (pv 0) fh)) (eZ (pv 1) fh)))))))))),?_⟩
  refine λn nn=>?_
  have nd_:n≠d:=λz=>by subst z;rw[hd]at nn;cases nn
  refine⟨d,kvs,by rw[fm (bF nd_)];exact hd,λo=>⟨_,rfl,d,o,kvs,rfl,fg,?_⟩⟩
  rw[Cd nd_]
  have hf:=fg (H:=H) (a:=d) (o:=.frz o (.dT kvs))
  have hfo:∀ b,b≠d->upd H d (.frz o (.dT kvs)) b=H b:=λb hb=>fm hb
  have st0:∀ (i:Nat) (p:List Key×V),kvs[i]? = some p->∃ e,es[i]? = some e/\p.1=kyI e.1/\mm K (upd H d (.frz o (.dT kvs))) e p.2:=λi p hp=>by
   obtain⟨e,h1,h2,h3⟩:=kat i p hp
   exact⟨e,h1,h2,h3.HY hd⟩
  have nnF:upd H d (.frz o (.dT kvs)) n=none:=by rw[fm nd_];exact nn
  generalize upd H d (.frz o (.dT kvs))=HF at hf hfo st0 nnF ⊢
  refine Fh es.length (λi σ H3=>∃ (x2 x3:Option V),σ = [some (.ref d),some (.ref n),x2,x3]/\fu HF H3/\H3 n=some (.dT (kvR (fI (es.take i)))))
   ⟨none,none,rfl,fb nnF,fg⟩ (λi σ H3 hi ⟨_,_,_,sm,_⟩=>⟨sm _ _ hf,by rw[kl];exact hi⟩) (λσ H3 ⟨_,_,_,sm,_⟩=>⟨sm _ _ hf,by rw[kl];exact au _⟩) ?_ ?_
  ·rintro i x σ H4 H5 hi ⟨x2,x3,rfl,S4,N4⟩ ⟨p,b,kv,np,rfl,hkv,hb,rfl⟩
   obtain⟨e,he,hk,hst⟩:=st0 i kv hkv
   rw[hk,iI]at hb
   have s5:=fb (o:=.tup [.ref b,kv.2]) np
   have hp5:=fg (H:=H4) (a:=p) (o:=.tup [.ref b,kv.2])
   have N5:=s5 _ _ N4
   have S5:=S4.trans s5
   have hb5:=s5 _ _ hb
   generalize upd H4 p _=H5 at s5 hp5 N5 S5 hb5 ⊢
   have st5:=hst.same S5
   have rl:(fI (es.take i)).length=i:=by rw[jB,bg];omega
   refine⟨p,_,rfl,SqT.of hp5,rfl,_,_,rfl,_,_,rfl,rfl,?_⟩
   have Hs:e.1∉(fI (es.take i)).map (·.1):=by
    rw[hU]
    intro hm
    obtain⟨e',hm,hk⟩:=ai.mp hm
    obtain⟨j,hj,ej⟩:=aR.mp hm
    rw[bg]at hj
    rw[List.getElem_take]at ej
    obtain⟨hi,ei⟩:=af.mp he
    have h2:(es.map (·.1))[j]'(by rw[aa];omega)=(es.map (·.1))[i]'(by rw[aa];omega):=by
     rw[dj,dj,ej,ei]
     exact hk
    have:=(cR nd).mp h2
    omega
   have zO:lC (kvR (fI (es.take i))) (kyI e.1)=none:=by
    rw[sA]
    cases q:gY (fI (es.take i)) e.1 with
    |none=>rfl
    |some z=>exact absurd (ai.mpr ⟨_,jy q,rfl⟩) Hs
   have fin:∀ z:Int,z=qW (fI (es.take i)) e->∃ a H4,(V.ref n) = .ref a/\Ae H5 a (.ref b) (.int z) H4/\∃ (x2 x3:Option V),[some (V.ref d),some (.ref n),some (.ref b),some kv.2] = [some (.ref d),some (.ref n),x2,x3]/\fu HF H4/\H4 n=some (.dT (kvR (fI (es.take (i+1))))):=λz hz=>
    ⟨n,_,rfl,.inr ⟨_,kyI e.1,b,N5,rfl,by rw[iI];exact hb5,lB (by unfold kvR;rw[aa];omega),rfl⟩,_,_,rfl,fu.upd S5 nnF,by
     rw[fg,tE _ zO,aQ,he,hz]
     show _=some (HO.dT (kvR (fI (es.take i ++ [e]))))
     rw[kE]
     unfold kvR
     rw[aw]
     rfl⟩
   refine⟨_,rfl,_,rfl,gZ (λhh=>?_) (λhh=>?_)⟩
   ·refine⟨_,rfl,_,rfl,fin _ ?_⟩
    obtain⟨t',o'⟩:=e
    cases o' with
    |none=>rfl
    |some tk=>
     exfalso
     obtain⟨t1,k1⟩:=tk
     obtain⟨a,b1,c,Hu,_⟩:=st5
     rw[Hu]at hh
     exact absurd (cH hh) (by intro z;cases z)
   ·obtain⟨t',o'⟩:=e
    cases o' with
    |none=>
     have z:kv.2 = .non:=st5
     rw[z]at hh
     exact absurd rfl hh
    |some tk=>
     obtain⟨t1,k1⟩:=tk
     obtain⟨a,b1,c,Hu,ha,hb1,hc⟩:=st5
     obtain⟨j,e1,hj,he1,rfl⟩:=bk.back i t' t1 k1 he
     obtain⟨z,hz⟩:=qA (rows:=fI (es.take i)) (t:=e1.1) (by
      rw[hU]
      exact ai.mpr ⟨e1,ax (by rw[List.getElem?_take,aM hj];exact he1),rfl⟩)
     refine⟨_,rfl,_,rfl,a,_,_,_,Hu,rfl,SqT.of ha,rfl,n,V.int z,rfl,?_,_,_,rfl,rfl,?_⟩
     ·have g:=qL.t (k:=kyI e1.1) N5 (by rw[iI];exact hb1)
      rw[sA,hz]at g
      exact g
     ·refine⟨_,rfl,_,rfl,fin _ ?_⟩
      show z+1=(gY (fI (es.take i)) e1.1).getD 0+1
      rw[hz];rfl
  ·rintro σ H3 ⟨x2,x3,rfl,S3,N3⟩
   rw[bf]at N3
   refine⟨S3 _ _ hf,?_⟩
   have S4:fu H (upd H3 d (.dT kvs)):=λb u h=>by
    by_cases e:b=d
    ·subst e;rw[fg,<-hd];exact h
    ·rw[fm e];exact S3 _ _ (by rw[hfo b e];exact h)
   have hn4:upd H3 d (.dT kvs) n=some (.dT (kvR (fI es))):=by rw[fm nd_];exact N3
   have nl:(kvR (fI es)).length=es.length:=by unfold kvR;rw[aa,jB]
   generalize upd H3 d (.dT kvs)=H4 at S4 hn4 ⊢
   refine⟨n,_,hn4,λo2=>⟨_,rfl,n,o2,_,rfl,fg,λq nq=>?_⟩⟩
   have S5:=fu.upd (o:=.frz o2 (.dT (kvR (fI es)))) S4 nn
   have hf5:=fg (H:=H4) (a:=n) (o:=.frz o2 (.dT (kvR (fI es))))
   generalize upd H4 n (.frz o2 (.dT (kvR (fI es))))=H5 at nq S5 hf5 ⊢
   have hqn:q≠n:=λe=>by rw[e,hf5]at nq;cases nq
   refine FT es.length (fI es) (mq H) (λr v=>mq.mono r v) nq (jB es).symm (lB (by omega)) (λi H' sm hi=>⟨sm _ _ hf5,by rw[nl];exact hi⟩) (λH' sm=>⟨sm _ _ hf5,by rw[nl];exact au _⟩) ?_ ?_
   ·rintro i x r H6 H7 sm ⟨acc,hq⟩ ⟨p,b,kv,np,rfl,hkv,hb,rfl⟩ hr P1 P0 kk
    have ekv:kv=(kyI r.1,V.int r.2):=by
     unfold kvR at hkv
     rw[ao,hr]at hkv
     exact(aU hkv).symm
    subst ekv
    have hb:_=some (HO.tup ((kyI r.1).map kV)):=hb
    rw[iI]at hb
    have s7:=fb (o:=.tup [.ref b,.int r.2]) np
    have hp7:=fg (H:=H6) (a:=p) (o:=.tup [.ref b,.int r.2])
    have hb7:=s7 _ _ hb
    have hq7:=s7 _ _ hq
    have S7:=sm.trans s7
    dsimp only at hp7 ⊢
    generalize upd H6 p _=H7 at s7 hp7 hb7 hq7 S7 ⊢
    refine⟨p,_,rfl,SqT.of hp7,rfl,_,_,rfl,_,_,rfl,rfl,?_⟩
    refine Ie ?_
    refine⟨_,rfl,b,_,rfl,.inr (SqT.of hb7),λnb nnb=>?_⟩
    have s8:=fb (o:=.lst (r.1.map V.int)) nnb
    refine⟨_,rfl,by show 2<=sizeLine;decide,λnt nnt=>kk _ _ (s7.trans (s8.trans (fb nnt))) ?_⟩
    have nbq:nb≠q:=(fw hq7 nnb).symm
    have ntq:nt≠q:=(fw (s8 _ _ hq7) nnt).symm
    exact⟨nt,nb,rfl,by rw[gO ntq,fg],by rw[gO nbq];exact fb nnt _ _ fg,fu.free (S5.trans S7) nnb⟩
   ·intro vs8 H8 sm h8 D8
    refine⟨sm _ _ hf5,k q vs8 _ (fu.upd (S5.trans sm) nn) ?_⟩
    refine⟨by rw[fm hqn];exact h8,fu.free S5 nq,?_⟩
    have hh:hid q (upd H8 n (.dT (kvR (fI es))))=upd (hid q H8) n (.dT (kvR (fI es))):=by
     funext c
     by_cases e1:c=q
     ·subst e1;rw[ki,fm hqn,ki]
     ·rw[gO e1]
      by_cases e2:c=n
      ·subst e2;rw[fg,fg]
      ·rw[fm e2,fm e2,gO e1]
    rw[hh]
    exact D8.imp λr v=>mq.JV r v (by rw[gO (bF hqn)];exact sm _ _ hf5)
end
variable {ts:List (List Int)}
theorem my.post {H' H'':Hp}{p:Addr}{bs:List Addr}(s:fu H' H'')(h:my H H' p bs ts):my H H'' p bs ts:=
 ⟨h.same.trans s,h.new,s _ _ h.at_,h.len,λi b t h1 h2=>⟨(h.each i b t h1 h2).1,(h.each i b t h1 h2).2.1,s _ _ (h.each i b t h1 h2).2.2⟩,h.nd⟩
def gOk (l:Ln)(ns gs:List Int):Prop:=isT l gs/\gs.length=ns.length
def we (K:PySem.W.Frag)(c2:Addr):Sp:=λvs H Q E=>∃ (v u g:V) (l:Ln) (ns gs:List Int),vs = [v,u,g]/\Da K H (dL l) v/\Da K H (dI ns) u/\Da K H (dI gs) g/\fG l/\gs.length<=900/\
 (gOk l ns gs->∀ H',fu H H'->Q .non H')/\(¬gOk l ns gs->∀ H',fu H H'->∀ e,H' e=none->E (.ref c2) (some e) H')
structure zb (K:PySem.W.Frag)(c2 c5:Addr)(l:Ln)(ns gs:List Int)(H:Hp)(Q:VK)(E:XK):Prop where
 bad:¬gOk l ns gs->∀ H',fu H H'->∀ e,H' e=none->E (.ref c2) (some e) H'
 many:gOk l ns gs->(∃ i,300<(fA l ns i).length)->∀ H',fu H H'->∀ e,H' e=none->E (.ref c5) (some e) H'
 no:gOk l ns gs->∀ i,(fA l ns i).length=i->i<=300->gs∉(fA l ns i).map (·.1)->∀ r q bs H',my H H' q bs ((fA l ns i).map (·.1))->H' r=some (.tup [.str "none",.ref q])->H r=none->Q (.ref r) H'
 yes:gOk l ns gs->∀ i,(fA l ns i).length=i->i<=300->gs∈(fA l ns i).map (·.1)->∀ r q1 run q2 us H',fu H H'->pR K H' q1 run->H q1=none->mr (fA l ns i) gs run->rY H H' q2 (fI (fA l ns i)) us->q1≠q2->H' r=some (.tup [.str "run",.ref q1,.ref q2])->H r=none->Q (.ref r) H'
def oj (K:PySem.W.Frag)(c2 c5:Addr):Sp:=λvs H Q E=>∃ (v u g:V) (l:Ln) (ns gs:List Int),vs = [v,u,g]/\Da K H (dL l) v/\Da K H (dI ns) u/\Da K H (dI gs) g/\fG l/\ns≠ []/\ns.length<=900/\fW l ns/\gs.length<=900/\zb K c2 c5 l ns gs H Q E
abbrev kd:Stmt:=top 26
theorem uO:fK ["line","train","goal"] ["line","train","goal"] (fx kd):=⟨rfl,rfl,rfl,by decide +kernel,rfl,by decide +kernel,by decide +kernel⟩
abbrev nH:Stmt:=top 32
theorem sX:fK ["line","train","goal","steps","aim"] ["line","train","goal"] (fx nH):=⟨rfl,rfl,rfl,by decide +kernel,rfl,by decide +kernel,by decide +kernel⟩
variable {f5:Addr}{fd5:FuncData}
section
variable {P:Program}{w:World}{K:PySem.W.Frag}{mg:Str->Option Value}{base:Heap}{f:Addr}{fd:FuncData}{c2 c5:Addr}
theorem uR (F:Fn K mg "check_goal" kd ["line","train","goal"] f fd)(XS:Xr K mg c2)(B:Bm mg)
  (ji:Fn K mg "check_train" jO ["line","train"] f1 fd1) (mO:fE P w K mg base (CXr P w base) 2 f1 fd1 ["line","train"] (xS K c2)):fE P w K mg base (CXr P w base) 3 f fd ["line","train","goal"] (we K c2):=by
 refine F.F.okX uO (λvs H Q E h=>?_) (λcdv A outer s H vs Q E hr h=>?_)
 ·obtain⟨v,u,g,l,ns,gs,rfl,_⟩:=h;rfl
 ·obtain⟨v,u,g,l,ns,gs,rfl,hv,hu,hg,ok,gl,k1,k2⟩:=h
  obtain⟨a,rfl,ha⟩:=jq.mp hu
  obtain⟨b,rfl,hb⟩:=jq.mp hg
  refine⟨_,(fj (g7 (fv mO (hr.mono (by decide)) rfl ji.m ji.F.kp ji.b .nil jE (eZ (pv 0) (eZ (pv 2) fh))))
 (fo (hZ (gz (CQ (fN gq rfl B.len cN (eZ (pv 2) fh)) (fN gq rfl B.len cN (eZ (pv 1) fh))))
 (fo (lh jX rfl rfl XS.jr.m XS.jr.q bH (eZ gm fh))) fT))),?_⟩
  refine⟨_,rfl,_,rfl,_,_,l,gs,rfl,hv,hg,ok,gl,λit H1 s1=>?_,λz H1 s1 e he=>k2 (λy=>z y.1) H1 s1 e he⟩
  refine⟨_,rfl,b,_,rfl,.inl (s1.seq hb),_,rfl,a,_,rfl,.inl (s1.seq ha),_,_,rfl,rfl,_,rfl,gZ (λh=>?_) (λh=>?_)⟩
  ·have h:((gs.map V.int).length:Int)≠((ns.map V.int).length:Int):=by simpa using h
   rw[aa,aa]at h
   exact⟨by decide,λe he=>k2 (λz=>h (by rw[z.2])) H1 s1 e he⟩
  ·have h:((gs.map V.int).length:Int)=((ns.map V.int).length:Int):=by simpa using h
   rw[aa,aa]at h
   exact k1 ⟨it,by omega⟩ _ s1
theorem CZ {f2:Addr}(F:Fn K mg "least" nH ["line","train","goal"] f fd)(B:Bm mg)
  (g8:Fn K mg "check_goal" kd ["line","train","goal"] f1 fd1) (jG:fE P w K mg base (CXr P w base) 3 f1 fd1 ["line","train","goal"] (we K c2))
  (fS:Fn K mg "first_steps" je ["line","train"] f2 fd2) (h7:fE P w K mg base (CXr P w base) 4 f2 fd2 ["line","train"] (qk K c5))
  (gA:Fn K mg "lists_of" jv ["standings"] f3 fd3) (fZ:Fn K mg "run_back_from" iK ["steps","goal"] f4 fd4) (jH:Fn K mg "numbers_of" kc ["steps"] f5 fd5):
  fE P w K mg base (CXr P w base) 5 f fd ["line","train","goal"] (oj K c2 c5):=by
 have mw:fE P w K mg base CX0 1 f3 fd3 ["standings"] (pU K):=rS gA B
 have ly:fE P w K mg base CX0 1 f4 fd4 ["steps","goal"] (As K):=qU fZ
 have xu:fE P w K mg base CX0 1 f5 fd5 ["steps"] (Ak K):=uP jH B
 refine F.F.okX sX (λvs H Q E h=>?_) (λcdv A outer s H vs Q E hr h=>?_)
 ·obtain⟨v,u,g,l,ns,gs,rfl,_⟩:=h;rfl
 ·obtain⟨v,u,g,l,ns,gs,rfl,hv,hu,hg,ok,hne,hz,T,gl,k⟩:=h
  obtain⟨b,rfl,hb⟩:=jq.mp hg
  refine⟨_,(fj (g7 (fv jG (hr.mono (by decide)) rfl g8.m g8.F.kp g8.b .nil jE (eZ (pv 0) (eZ (pv 1) (eZ (pv 2) fh)))))
 (fj (fC (i:=3) sX.nd rfl (Or.inl rfl) (fv h7 (hr.mono (by decide)) rfl fS.m fS.F.kp fS.b .nil jE (eZ (pv 0) (eZ (pv 1) fh))))
 (fj (fC (i:=4) sX.nd rfl (Or.inl rfl) (gC g6 rfl B.tuple dW (eZ (pv 2) fh)))
 (fj (hZ (gz (qT (nh hr) (pv 4) (pv 3)))
 (fo (fL (fX (eZ gm (eZ (fv mw (hr.mono (by decide)) rfl gA.m gA.F.kp gA.b .nil fJ (eZ (pv 3) fh)) fh))))) fT)
 (fo (fL (fX (eZ gm (eZ (fv ly (hr.mono (by decide)) rfl fZ.m fZ.F.kp fZ.b .nil fJ (eZ (pv 3) (eZ (pv 4) fh))) (eZ (fv xu (hr.mono (by decide)) rfl jH.m jH.F.kp jH.b .nil fJ (eZ (pv 3) fh)) fh)))))))))),?_⟩
  refine⟨_,rfl,_,rfl,_,rfl,_,_,_,l,ns,gs,rfl,hv,hu,hg,ok,gl,λgo H1 s1=>?_,λgo H1 s1 e he=>k.bad go H1 s1 e he⟩
  refine⟨_,rfl,_,rfl,_,_,l,ns,rfl,Da.same s1 hv,Da.same s1 hu,ok,hne,hz,T,λi d us H2 hi yv s2 nd hs2=>?_,λz H2 s2 e he=>k.many go z H2 (s1.trans s2) e he⟩
  have E2:=iN ok T hne i
  have S2:=s1.trans s2
  refine⟨_,rfl,b,_,rfl,.inl ⟨S2.seq hb,λt nt=>?_⟩⟩
  have s3:=fb (o:=.tup (gs.map V.int)) nt
  have ht:=fg (H:=H2) (a:=t) (o:=.tup (gs.map V.int))
  have hs3:=hs2.same s3
  have S3:=S2.trans s3
  generalize upd H2 t _=H3 at s3 ht hs3 S3 ⊢
  refine⟨_,rfl,_,rfl,d,_,rfl,qL.t (k:=kyI gs) hs3.at_ (by rw[iI];exact ht),_,rfl,?_⟩
  rw[hs3.mem gs]
  refine gZ (λhn=>?_) (λhn=>?_)
  ·have hn:gs∉(fA l ns i).map (·.1):=by simpa using hn
   refine⟨_,rfl,d,_,_,rfl,hs3,by omega,λq bs H4 FR=>⟨by show 2<=sizeLine;decide,λr nr=>?_⟩⟩
   have s5:=fb (o:=.tup [.str "none",.ref q]) nr
   exact k.no go i hi yv hn r q bs _ (my.post s5 (FR.pre S3)) fg (fu.free (S3.trans FR.same) nr)
  ·have hn:gs∈(fA l ns i).map (·.1):=by simpa using hn
   refine⟨_,rfl,_,rfl,d,t,_,_,gs,rfl,hs3,ht,hn,kz l ns i,E2.nd,by omega,λq run H4 s4 nq ra pt=>?_⟩
   refine⟨_,rfl,d,_,_,rfl,hs3.same s4,kz l ns i,E2.nd,by omega,λq2 us2 H5 s5 R5=>⟨by show 3<=sizeLine;decide,λr nr=>?_⟩⟩
   have s6:=fb (o:=.tup [.str "run",.ref q,.ref q2]) nr
   have hqq:q≠q2:=by
    obtain⟨vs,h1,_⟩:=ra.ex
    exact fw h1 R5.new
   exact k.yes go i hi yv hn r q run q2 us2 _ (((S3.trans s4).trans s5).trans s6) (ra.same (s5.trans s6)) (fu.free S3 nq) pt ((R5.same s6).pre (S3.trans s4)) hqq fg (fu.free ((S3.trans s4).trans s5) nr)
end
def xJ (l:Ln)(s:Sta):Prop:=fW l s.1/\s.1≠ []/\s.1.length<=900
variable {l:Ln}
theorem xJ.step (ok:fG l){s:Sta}{m:Mv}(h:xJ l s)(hm:m∈mvs l s.1):xJ l (m.2,s.2):=by
 obtain⟨h1,h2,h3⟩:=qX ok h.1 h.2.1 hm
 exact⟨h1,h3,by rw[h2];exact h.2.2⟩
variable {P:Program}{w:World}{d:Addr}{xs:List V}
theorem Cp {b:Addr}{kvs:KvN}(hd:H d=some (nD P w d kvs))(h:SqL K H b xs):SqL K (hid d H) b xs:=by
 rcases h with(h |⟨o,h⟩)|h
 ·exact .inl (.inl (by rw[gO (fU h hd (λz=>nomatch z))];exact h))
 ·exact .inl (.inr ⟨o,by rw[gO (fU h hd (λz=>nomatch z))];exact h⟩)
 ·exact .inr h
theorem xM {b:Addr}{kvs:KvN}(hd:H d=some (nD P w d kvs))(h:SqT K H b xs):SqT K (hid d H) b xs:=by
 rcases h with(h |⟨o,h⟩)|h
 ·exact .inl (.inl (by rw[gO (fU h hd (λz=>nomatch z))];exact h))
 ·exact .inl (.inr ⟨o,by rw[gO (fU h hd (λz=>nomatch z))];exact h⟩)
 ·exact .inr h
theorem Fu {kvs:KvN}{x:PyData}{v:V}(hd:H d=some (nD P w d kvs))(h:Da K H x v):Da K (hid d H) x v:=Dg.mono (λ_ _ q=>Cp hd q) (λ_ _ q=>xM hd q) h
theorem BB {c:Addr}{kvs:KvN}{k:SK}(hd:H d=some (nD P w d kvs))(h:jF H c k):jF (hid d H) c k:=h.ky λb ys q=>by rw[gO (fU q hd (λz=>nomatch z))];exact q
theorem StN.list {p:Addr}{es:List EnS}{cs:List Addr}{us ys:List V}(h:StN P w K H d es cs us)(hp:H p=some (.lst xs)):StN P w K (upd H p (.lst ys)) d es cs us:=by
 have pd:d≠p:=fU h.dn.at_ hp (λz=>nomatch z)
 have f:∀ b zs,H b=some (.tup zs)->(upd H p (.lst ys)) b=some (.tup zs):=λb zs q=>by rw[fm (fU q hp (λz=>nomatch z))];exact q
 refine⟨⟨by rw[fm pd];exact h.dn.at_,λq hq=>(h.dn.keys q hq).ky f⟩,h.lc,h.lv,λi e v h1 h2=>(h.each i e v h1 h2).to f λb zs q=>lE hp q⟩
def Ao (P:Program)(w:World)(K:PySem.W.Frag):Sp:=λvs H Q _=>∃ (v:V) (p d:Addr) (l:Ln) (es:List EnS) (cs:List Addr) (us:List V) (ss:List Sta) (as:List Addr),vs = [v,.ref p,.ref d]/\Da K H (dL l) v/\StL H p as ss/\StN P w K H d es cs us/\fG l/\
 (∀ s∈ss,xJ l s)/\(∀ i,(goS l (es,ss) i).2.length<=1000/\(goS l (es,ss) i).1.length<=1000)/\
 ∀ i q as' cs' us' H',(goS l (es,ss) i).2.length=i->fu (hid d H) H'->H q=none->StL H' q as' (goS l (es,ss) i).2->StN P w K H' d (goS l (es,ss) i).1 cs' us'->Q (.ref q) H'
def at4 (σ:L2.St)(_:Hp):Nat:=match (σ[4]? :Option (Option V))with
 |some (some (V.int i))=>(1001-i).toNat
 |_=>0
abbrev o5:Stmt:=top 35
theorem iZ:fK ["line","states","steps","found","at","standing","word","move","behind","state"] ["line","states","steps"] (fx o5):=⟨rfl,rfl,rfl,by decide +kernel,rfl,by decide +kernel,by decide +kernel⟩
section
variable {P:Program}{w:World}{K:PySem.W.Frag}{mg:Str->Option Value}{base:Heap}{f:Addr}{fd:FuncData}
theorem zD (F:Fn K mg "gone_on" o5 ["line","states","steps"] f fd)(B:Bm mg)(gG:Fn K mg "moves_of" kB ["line","train"] f1 fd1)
  (i8:fE P w K mg base CX0 3 f1 fd1 ["line","train"] (mT K)):fE P w K mg base CX0 4 f fd ["line","states","steps"] (Ao P w K):=by
 refine F.F.ok iZ (λvs H Q E h=>?_) (λcdv A outer s H vs Q E hr h=>?_)
 ·obtain⟨v,p,d,l,es,cs,us,ss,as,rfl,_⟩:=h;rfl
 ·obtain⟨v,p0,d,l,es,cs,us,ss,as0,rfl,hv,hL,hN,ok,hss,hb,k⟩:=h
  have Gb:=sE (l:=l) (P:=xJ l) (λs m h hm=>h.step ok hm) (x:=(es,ss)) hss
  generalize hgo:goS l (es,ss)=go at hb k Gb
  have go0:go 0=(es,ss):=by rw[<-hgo];rfl
  have zS:∀ {i s},(go i).2[i]? = some s->go (i+1)=gI s.1 s.2 (mvs l s.1) (go i):=λ{i s} h=>by rw[<-hgo]at h ⊢;exact yE h
  refine⟨_,(fj (fC (i:=3) iZ.nd rfl (Or.inl rfl) (gC kn rfl B.list eU (eZ (pv 1) fh)))
 (fj (fC (i:=4) iZ.nd rfl (Or.inl rfl) fk)
 (fj (m3 aW (gz (tJ (pv 4) (fN gq rfl B.len cN (eZ (pv 3) fh))))
 (fj (ot (gv gJ (pv 3) (pv 4) (λ_ _=>rfl)) (iz (n:=2) rfl (fF (fy (i:=5) iZ.nd rfl (Or.inl rfl)) (fF (fy (i:=6) iZ.nd rfl (Or.inl rfl)) gS))))
 (fj (wJ (i:=4) iZ.nd rfl (Or.inl rfl) fk zN)
 (fo (iy aW rfl (gj (fv i8 (hr.mono (by decide)) rfl gG.m gG.F.kp gG.b .nil fJ (eZ (pv 0) (eZ (gC kn rfl B.list eU (eZ (pv 5) fh)) fh)))) (iz (n:=2) rfl (fF (fy (i:=7) iZ.nd rfl (Or.inl rfl)) (fF (fy (i:=8) iZ.nd rfl (Or.inl rfl)) gS)))
 (fj (fC (i:=9) iZ.nd rfl (Or.inl rfl) (fX (eZ (gC g6 rfl B.tuple dW (eZ (pv 8) fh)) (eZ (pv 6) fh))))
 (fo (hZ (PW.pt (wG (iu AE (gv iq (pv 7) fk (λ_ _=>rfl)) (pv 6) (kH _)) (wF (gz (vL (me hr) (pv 9) (pv 2))))))
 (fj (wH (me hr) (pv 2) (pv 9) (fX (eZ (fX (eZ (pv 5) (eZ (pv 6) fh))) (eZ (pv 7) fh))) rfl)
 (fo (g7 (lj aL bj bh ip (pv 3) (eZ (pv 9) fh))))) fT))))))))
 (fo (fL (pv 3)))))),?_⟩
  refine⟨_,rfl,p0,_,rfl,.inl (SqL.of hL.at_),λp np=>?_⟩
  have s1:=fb (o:=.lst (as0.map V.ref)) np
  have hp1:=fg (H:=H) (a:=p) (o:=.lst (as0.map V.ref))
  have hN1:=hN.same s1
  have hL1:StL (upd H p (.lst (as0.map V.ref))) p as0 ss:=⟨hp1,hL.len,λi a t h1 h2=>(hL.each i a t h1 h2).same s1⟩
  have S1:fu (hid d H) (upd H p (.lst (as0.map V.ref))):=ja.trans s1
  generalize upd H p _=H1 at s1 hp1 hN1 hL1 S1 ⊢
  refine oU (λσ H4=>∃ (i:Nat) (as cs:List Addr) (us:List V) (x5 x6 x7 x8 x9:Option V),σ = [some v,some (.ref p0),some (.ref d),some (.ref p),some (.int i),x5,x6,x7,x8,x9]/\fu (hid d H) H4/\StN P w K H4 d (go i).1 cs us/\StL H4 p as (go i).2/\i<=(go i).2.length)
   at4 ⟨0,as0,cs,us,none,none,none,none,none,rfl,S1,by rw[go0];exact hN1,by rw[go0];exact hL1,aP _⟩ ?_ ?_
  ·rintro σ H4 N1 R1 B1 kN1 _ kB1 ⟨i,as,cs,us,x5,x6,x7,x8,x9,rfl,S4,hN4,hL4,hi⟩
   have hbi:=hb i
   refine⟨_,rfl,_,rfl,p,_,rfl,.inl (SqL.of hL4.at_),_,_,rfl,rfl,_,rfl,gZ (λhlt=>?_) (λhlt=>?_)⟩
   ·have hlt:(i:Int)<((as.map V.ref).length:Int):=by simpa using hlt
    rw[aa,hL4.len]at hlt
    have hi2:i<(go i).2.length:=by omega
    have he:(go i).2[i]? = some ((go i).2[i]):=by simp
    generalize (go i).2[i]=st at he
    have hst:=Gb i st (ax he)
    obtain⟨b,hbi⟩:∃ b,as[i]? = some b:=⟨as[i]'(by rw[hL4.len];exact hi2),ag _⟩
    obtain⟨bt,hk1,hk2⟩:=hL4.each i b st hbi he
    have hk1:H4 b=some (.tup [.ref bt,.str st.2]):=hk1
    have hk2:H4 bt=some (.tup (st.1.map V.int)):=by have:=hk2;rw[show(kS st).1=kyI st.1 from rfl,iI]at this;exact this
    refine⟨_,rfl,_,rfl,p,_,_,_,rfl,rfl,SqL.of hL4.at_,rC (v:=V.ref b) (by omega) (by rw[ao,show((i:Int)).toNat=i by omega,hbi];rfl),?_⟩
    refine⟨b,_,rfl,SqT.of hk1,rfl,_,_,rfl,_,_,rfl,rfl,?_⟩
    refine⟨_,rfl,_,_,rfl,rfl,?_⟩
    refine⟨_,rfl,_,rfl,bt,_,rfl,.inr (SqT.of hk2),λq nq=>?_⟩
    have s5:=fb (o:=.lst (st.1.map V.int)) nq
    have hq5:=fg (H:=H4) (a:=q) (o:=.lst (st.1.map V.int))
    generalize upd H4 q _=H5 at s5 hq5 ⊢
    refine⟨_,_,l,st.1,rfl,Da.same (S4.trans s5) (Fu hN.dn.at_ hv),gD hq5,ok,hst.2.1,hst.2.2,λpm vm H6 s6 hpm yx Dm=>?_⟩
    have s46:=s5.trans s6
    have S6:=S4.trans s46
    have hN6:=hN4.same s46
    have hL6:=hL4.same s46
    have Dl:(mvs l st.1).length=vm.length:=by have:=Dm.length;rw[aa]at this;exact this.symm
    have zQ:=s46 _ _ hk2
    have pmp:pm≠p:=bF (fw (s5 _ _ hL4.at_) hpm)
    have pmd:pm≠d:=bF (fw (s5 _ _ hN4.dn.at_) hpm)
    have HZ:∀ {a xs},SqT K H6 a xs->SqT K (yz d p H6) a xs:=λ{a xs} h=>sC (p:=p) (H:=hid d H6) (by rw[gO (fU hL6.at_ hN6.dn.at_ (λz=>nomatch z))];exact hL6.at_) (xM hN6.dn.at_ h)
    refine⟨pm,rfl,⟨_,SqL.of yx⟩,jf (K:=K) (a:=pm) (xs:=vm) (λj σ H7=>∃ (as' cs':List Addr) (us':List V) (x7 x8 x9:Option V),σ = [some v,some (.ref p0),some (.ref d),some (.ref p),some (.int ((i:Int)+1)),some (.ref bt),some (.str st.2),x7,x8,x9]/\
      fu (hid d H) H7/\fu (yz d p H6) H7/\StN P w K H7 d (gI st.1 st.2 ((mvs l st.1).take j) (go i)).1 cs' us'/\StL H7 p as' (gI st.1 st.2 ((mvs l st.1).take j) (go i)).2)
     ⟨as,cs,us,x7,x8,x9,rfl,S6,λb u h=>ja (p:=d) b u (ja (p:=p) b u h),hN6,hL6⟩ (λj σ H7 _ ⟨_,_,_,_,_,_,_,_,sm,_⟩=>SqL.of (sm _ _ (by rw[mC pmd pmp];exact yx))) ?_ ?_⟩
    ·rintro j y σ H7 N R B kN _ hj ⟨as',cs',us',y7,y8,y9,rfl,S7,sm,hN7,hL7⟩
     obtain⟨m,ad,p1,bb,hm,rfl,ht,dm,hbb,nbb,_⟩:=AH Dm hj
     obtain⟨a1,ea1,htm⟩:=HG dm
     cases ea1
     have bbp:bb≠p:=bF (fw (s5 _ _ hL4.at_) nbb)
     have bbd:bb≠d:=bF (fw (s5 _ _ hN4.dn.at_) nbb)
     have ht7:=gi sm (HZ ht)
     have Hl:=gi sm (HZ htm)
     have BP:H7 bb=some (.lst (m.2.map V.int)):=sm _ _ (by rw[mC bbd bbp];exact hbb)
     have hb7:H7 bt=some (.tup (st.1.map V.int)):=sm _ _ (by rw[mC (fU zQ hN6.dn.at_ (λz=>nomatch z)) (fU zQ hL6.at_ (λz=>nomatch z))];exact zQ)
     refine⟨ad,_,rfl,ht7,rfl,_,_,rfl,_,_,rfl,rfl,?_⟩
     refine⟨_,rfl,bb,_,rfl,.inl ⟨SqL.of BP,λt nt=>⟨_,rfl,by show 2<=sizeLine;decide,λc nc=>?_⟩⟩⟩
     have s8:=(fb (o:=.tup (m.2.map V.int)) nt).trans (fb (o:=.tup [.ref t,.str st.2]) nc)
     have hc8:=fg (H:=upd H7 t (.tup (m.2.map V.int))) (a:=c) (o:=.tup [.ref t,.str st.2])
     have ht8:=(fb (o:=.tup [.ref t,.str st.2]) nc) _ _ (fg (H:=H7) (a:=t) (o:=.tup (m.2.map V.int)))
     have hN8:=hN7.same s8
     have hL8:=hL7.same s8
     have S8:=S7.trans s8
     have sm8:=sm.trans s8
     have hb8:=s8 _ _ hb7
     have BL:=gi s8 Hl
     generalize upd (upd H7 t _) c _=H8 at s8 hc8 ht8 hN8 hL8 S8 sm8 hb8 BL ⊢
     have Dr:jF H8 c (kS (m.2,st.2)):=⟨t,hc8,by rw[show(kS (m.2,st.2)).1=kyI m.2 from rfl,iI];exact ht8⟩
     have n8:gI st.1 st.2 ((mvs l st.1).take (j+1)) (go i)=jK st.1 st.2 (gI st.1 st.2 ((mvs l st.1).take j) (go i)) m:=zq hm
     have sl:(gI st.1 st.2 ((mvs l st.1).take j) (go i)).2.length<=1000/\(gI st.1 st.2 ((mvs l st.1).take j) (go i)).1.length<=1000:=by
      have h1:=sW st.1 st.2 (mvs l st.1) (go i) j
      have h2:=hb (i+1)
      rw[zS he]at h2
      exact⟨bE h1.1.length_le h2.1,bE h1.2.length_le h2.2⟩
     have old:¬(m.1.1=st.2/\(m.2,st.2)∉(gI st.1 st.2 ((mvs l st.1).take j) (go i)).1.map (·.1))->N [some v,some (V.ref p0),some (.ref d),some (.ref p),some (.int ((i:Int)+1)),some (.ref bt),some (.str st.2),some (.ref p1),some (.ref bb),some (.ref c)] H8:=λh=>kN _ _ (by
      have e:gI st.1 st.2 ((mvs l st.1).take (j+1)) (go i)=gI st.1 st.2 ((mvs l st.1).take j) (go i):=by
       rw[n8];unfold jK;rw[aH h]
      rw[e]
      exact⟨as',cs',us',_,_,_,rfl,S8,sm8,hN8,hL8⟩)
     refine⟨_,rfl,p1,_,_,_,rfl,rfl,BL,rfl,_,rfl,rfl,_,rfl,gZ (λhw=>?_) (λhw=>?_)⟩
     ·have hw:m.1.1=st.2:=by simpa using hw
      refine⟨_,rfl,_,rfl,d,_,c,_,rfl,rfl,hN8.dn,Dr,_,rfl,gZ (λhn=>?_) (λhn=>?_)⟩
      ·have hn:(m.2,st.2)∉(gI st.1 st.2 ((mvs l st.1).take j) (go i)).1.map (·.1):=λz=>by
        rw[(hN8.mem (m.2,st.2)).mpr z]at hn;cases hn
       have mS:gI st.1 st.2 ((mvs l st.1).take (j+1)) (go i)=((gI st.1 st.2 ((mvs l st.1).take j) (go i)).1 ++ [((m.2,st.2),some ((st.1,st.2),some m.1))],(gI st.1 st.2 ((mvs l st.1).take j) (go i)).2 ++ [(m.2,st.2)]):=by
        rw[n8];unfold jK;rw[aM ⟨hw,hn⟩]
       refine⟨_,rfl,_,rfl,by show 2<=sizeLine;decide,λc2 nc2=>⟨_,rfl,by show 2<=sizeLine;decide,λa2 na2=>?_⟩⟩
       have s9:=(fb (o:=.tup [.ref bt,.str st.2]) nc2).trans (fb (o:=.tup [.ref c2,.ref p1]) na2)
       have ha9:=fg (H:=upd H8 c2 (.tup [.ref bt,.str st.2])) (a:=a2) (o:=.tup [.ref c2,.ref p1])
       have hc9:=(fb (o:=.tup [.ref c2,.ref p1]) na2) _ _ (fg (H:=H8) (a:=c2) (o:=.tup [.ref bt,.str st.2]))
       have hN9:=hN8.same s9
       have hL9:=hL8.same s9
       have S9:=S8.trans s9
       have sm9:=sm8.trans s9
       have wX:=Dr.same s9
       have hb9:=s9 _ _ hb8
       have Du:=gi s9 BL
       generalize upd (upd H8 c2 _) a2 _=H9 at s9 ha9 hc9 hN9 hL9 S9 sm9 wX hb9 Du ⊢
       have bk9:Af K H9 (some ((st.1,st.2),some m.1)) (.ref a2):=⟨a2,c2,p1,rfl,ha9,⟨bt,hc9,by rw[show(kS (st.1,st.2)).1=kyI st.1 from rfl,iI];exact hb9⟩,Du⟩
       refine⟨_,rfl,_,rfl,d,_,c,_,rfl,rfl,hN9.dn,wX,lB (by rw[AK hN9.lc hN9.lv];omega),?_⟩
       have g1:=hN9.push (e:=((m.2,st.2),some ((st.1,st.2),some m.1))) hn wX bk9
       have pd:p≠d:=fU hL9.at_ hN9.dn.at_ (λz=>nomatch z)
       have hp9:(upd H9 d (nD P w d (putN (kvN (gI st.1 st.2 ((mvs l st.1).take j) (go i)).1 cs' us') (kS ((m.2,st.2):Sta)) c (.ref a2)))) p=some (.lst (as'.map V.ref)):=by rw[fm pd];exact hL9.at_
       refine⟨_,rfl,.inl ⟨rfl,_,SqL.of hp9⟩,_,rfl,p,_,_,rfl,rfl,hp9,lB (by rw[aa,hL9.len];omega),?_⟩
       have tp:∀ b ys,(upd H9 d (nD P w d (putN (kvN (gI st.1 st.2 ((mvs l st.1).take j) (go i)).1 cs' us') (kS ((m.2,st.2):Sta)) c (.ref a2)))) b=some (.tup ys)->(upd (upd H9 d (nD P w d (putN (kvN (gI st.1 st.2 ((mvs l st.1).take j) (go i)).1 cs' us') (kS ((m.2,st.2):Sta)) c (.ref a2)))) p (.lst (as'.map V.ref ++ [.ref c]))) b=some (.tup ys):=λb ys q=>by rw[fm (fU q hp9 (λz=>nomatch z))];exact q
       have tq:∀ b ys,H9 b=some (.tup ys)->(upd (upd H9 d (nD P w d (putN (kvN (gI st.1 st.2 ((mvs l st.1).take j) (go i)).1 cs' us') (kS ((m.2,st.2):Sta)) c (.ref a2)))) p (.lst (as'.map V.ref ++ [.ref c]))) b=some (.tup ys):=λb ys q=>tp b ys (by rw[fm (fU q hN9.dn.at_ (λz=>nomatch z))];exact q)
       refine kN _ _ ⟨as' ++ [c],cs' ++ [c],us' ++ [.ref a2],_,_,_,rfl,?_,ug sm9,?_,?_⟩
       ·intro b o hb'
        have hbd:b≠d:=λz=>by rw[z,ki]at hb';cases hb'
        have hbp:b≠p:=λz=>by
         rw[z,gO (λz=>pd z),np]at hb';cases hb'
        rw[fm hbp,fm hbd];exact S9 _ _ hb'
       ·rw[mS];exact StN.list g1 hp9
       ·rw[mS];exact hL9.push tq fg (wX.ky tq)
      ·refine old λz=>?_
       have:(valN (kvN (gI st.1 st.2 ((mvs l st.1).take j) (go i)).1 cs' us') (kS (m.2,st.2))).isSome=true:=dz λy=>hn (by rw[Bool.not_eq_true]at y;rw[y];rfl)
       exact z.2 ((hN8.mem _).mp this)
     ·exact BI (old λz=>hw (by simp[z.1]))
    ·rintro σ H7 ⟨as',cs',us',y7,y8,y9,rfl,S7,sm,hN7,hL7⟩
     rw[<-Dl,bf,<-zS he]at hN7 hL7
     have yw:=(lN st.1 st.2 (mvs l st.1) (go i)).1.length_le
     rw[<-zS he]at yw
     refine kN1 _ _ ⟨i+1,as',cs',us',_,_,_,_,_,rfl,S7,hN7,hL7,by omega⟩ ?_
     show(1001-((i:Int)+1)).toNat<(1001-(i:Int)).toNat
     omega
   ·have hlt:¬(i:Int)<((as.map V.ref).length:Int):=by simpa using hlt
    rw[aa,hL4.len]at hlt
    exact kB1 _ _ ⟨_,rfl,k i p as cs us H4 (by omega) S4 np hL4 hN4⟩
  ·rintro σ H Q Q' hq ⟨x,e1,y,e2,p',ys,e3,h4,i',j',e5,e6,c,e7,q⟩
   exact⟨x,e1,y,e2,p',ys,e3,h4,i',j',e5,e6,c,e7,hq _ _ q⟩
end
def vp (P:Program)(w:World)(K:PySem.W.Frag):Sp:=λvs H Q _=>∃ (p d:Addr) (es:List EnS) (cs:List Addr) (us:List V) (ss:List Sta) (as:List Addr),vs = [.ref p,.ref d]/\StL H p as ss/\StN P w K H d es cs us/\
 (∀ s∈ss,isW s.2)/\ss.length<=1000/\es.length<=1000/\
 ∀ q as' cs' us' H',fu (hid d H) H'->H q=none->StL H' q as' (chN ss es).2->StN P w K H' d (chN ss es).1 cs' us'->Q (.ref q) H'
abbrev kf:Stmt:=top 36
theorem i9:fK ["states","steps","found","standing","word","state"] ["states","steps"] (fx kf):=⟨rfl,rfl,rfl,by decide +kernel,rfl,by decide +kernel,by decide +kernel⟩
section
variable {P:Program}{w:World}{K:PySem.W.Frag}{mg:Str->Option Value}{base:Heap}{f od:Addr}{fd:FuncData}
theorem rZ (F:Fn K mg "changed_over" kf ["states","steps"] f fd)(O:FD P w K mg od):fE P w K mg base CX0 1 f fd ["states","steps"] (vp P w K):=by
 refine F.F.ok i9 (λvs H Q E h=>?_) (λcdv A outer s H vs Q E hr h=>?_)
 ·obtain⟨p,d,es,cs,us,ss,as,rfl,_⟩:=h;rfl
 ·obtain⟨p0,d,es,cs,us,ss,as0,rfl,hL,hN,hw,hsl,hel,k⟩:=h
  refine⟨_,(fj (fC (i:=2) i9.nd rfl (Or.inl rfl) (gM fh))
 (fj (iy aW rfl (gj (pv 0)) (iz (n:=2) rfl (fF (fy (i:=3) i9.nd rfl (Or.inl rfl)) (fF (fy (i:=4) i9.nd rfl (Or.inl rfl)) gS)))
 (fj (fC (i:=5) i9.nd rfl (Or.inl rfl) (fX (eZ (pv 3) (eZ (IF O rfl (pv 4) (λ_ _=>rfl)) fh))))
 (fo (hZ (gz (vL (me hr) (pv 5) (pv 1)))
 (fj (wH (me hr) (pv 1) (pv 5) (fX (eZ (fX (eZ (pv 3) (eZ (pv 4) fh))) (eZ wK fh))) rfl)
 (fo (g7 (lj aL bj bh ip (pv 2) (eZ (pv 5) fh))))) fT))))
 (fo (fL (pv 2))))),?_⟩
  refine⟨by show 0<=sizeLine;decide,λp np=>?_⟩
  have s1:=fb (o:=.lst []) np
  have hp1:=fg (H:=H) (a:=p) (o:=.lst [])
  have hN1:=hN.same s1
  have S1:fu (hid d H) (upd H p (.lst [])):=ja.trans s1
  generalize upd H p _=H1 at s1 hp1 hN1 S1 ⊢
  have p0d:p0≠d:=fU hL.at_ hN.dn.at_ (λz=>nomatch z)
  have hp0:∀ {H7},fu (hid d H) H7->H7 p0=some (.lst (as0.map V.ref)):=λ{H7} s=>s _ _ (by rw[gO p0d];exact hL.at_)
  refine⟨_,rfl,p0,rfl,⟨_,SqL.of (hp0 S1)⟩,ni (K:=K) (a:=p0) (xs:=as0.map V.ref) (λj σ H7=>∃ (as' cs':List Addr) (us':List V) (x3 x4 x5:Option V),σ = [some (.ref p0),some (.ref d),some (.ref p),x3,x4,x5]/\fu (hid d H) H7/\StN P w K H7 d (chN (ss.take j) es).1 cs' us'/\StL H7 p as' (chN (ss.take j) es).2)
   ⟨[],cs,us,none,none,none,rfl,S1,hN1,⟨hp1,rfl,λi a s h=>by simp at h⟩⟩ (λj σ H7 _ ⟨_,_,_,_,_,_,_,h,_⟩=>SqL.of (hp0 h)) ?_ ?_⟩
  ·rintro j y σ H7 hj ⟨as',cs',us',x3,x4,x5,rfl,S7,hN7,hL7⟩
   have hjl:j<ss.length:=by
    have:=(af.mp hj).1
    rwa [aa,hL.len]at this
   have he:ss[j]? = some ss[j]:=ag hjl
   generalize ss[j]=st at he
   obtain⟨b,hb⟩:∃ b,as0[j]? = some b:=⟨as0[j]'(by rw[hL.len];exact hjl),ag _⟩
   have ey:y=V.ref b:=by rw[ao,hb]at hj;simpa using hj.symm
   subst ey
   obtain⟨bt,hk1,hk2⟩:=(BB hN.dn.at_ (hL.each j b st hb he)).same S7
   have hk1:H7 b=some (.tup [.ref bt,.str st.2]):=hk1
   have hws:=hw st (ax he)
   refine⟨b,_,rfl,SqT.of hk1,rfl,_,_,rfl,_,_,rfl,rfl,?_⟩
   refine⟨_,rfl,_,rfl,st.2,rfl,hws,by show 2<=sizeLine;decide,λc nc=>?_⟩
   have s8:=fb (o:=.tup [.ref bt,.str (ow st.2)]) nc
   have hc8:=fg (H:=H7) (a:=c) (o:=.tup [.ref bt,.str (ow st.2)])
   have hN8:=hN7.same s8
   have hL8:=hL7.same s8
   have S8:=S7.trans s8
   have hb8:=s8 _ _ hk2
   generalize upd H7 c _=H8 at s8 hc8 hN8 hL8 S8 hb8 ⊢
   have Dr:jF H8 c (kS (st.1,ow st.2)):=⟨bt,hc8,hb8⟩
   have n8:chN (ss.take (j+1)) es=iE (chN (ss.take j) es) st:=DR he
   have sl:(chN (ss.take j) es).1.length<=2000/\(chN (ss.take j) es).2.length<=1000:=by
    have:=A5 es (ss.take j) (es,[])
    have h2:(ss.take j).length<=1000:=by rw[bg];omega
    unfold chN
    simp only[cX]at this
    omega
   refine⟨_,rfl,_,rfl,d,_,c,_,rfl,rfl,hN8.dn,Dr,_,rfl,gZ (λhn=>?_) (λhn=>?_)⟩
   ·have hn:(st.1,ow st.2)∉(chN (ss.take j) es).1.map (·.1):=λz=>by
     rw[(hN8.mem (st.1,ow st.2)).mpr z]at hn;cases hn
    have mS:chN (ss.take (j+1)) es=((chN (ss.take j) es).1 ++ [((st.1,ow st.2),some (st,none))],(chN (ss.take j) es).2 ++ [(st.1,ow st.2)]):=by
     rw[n8];unfold iE;rw[aM hn]
    refine⟨_,rfl,_,rfl,by show 2<=sizeLine;decide,λc2 nc2=>⟨by show 2<=sizeLine;decide,λa2 na2=>?_⟩⟩
    have s9:=(fb (o:=.tup [.ref bt,.str st.2]) nc2).trans (fb (o:=.tup [.ref c2,.non]) na2)
    have ha9:=fg (H:=upd H8 c2 (.tup [.ref bt,.str st.2])) (a:=a2) (o:=.tup [.ref c2,.non])
    have hc9:=(fb (o:=.tup [.ref c2,.non]) na2) _ _ (fg (H:=H8) (a:=c2) (o:=.tup [.ref bt,.str st.2]))
    have hN9:=hN8.same s9
    have hL9:=hL8.same s9
    have S9:=S8.trans s9
    have wX:=Dr.same s9
    have hb9:=s9 _ _ hb8
    generalize upd (upd H8 c2 _) a2 _=H9 at s9 ha9 hc9 hN9 hL9 S9 wX hb9 ⊢
    have bk9:Af K H9 (some (st,none)) (.ref a2):=⟨a2,c2,rfl,ha9,⟨bt,hc9,hb9⟩⟩
    refine⟨_,rfl,_,rfl,d,_,c,_,rfl,rfl,hN9.dn,wX,lB (by rw[AK hN9.lc hN9.lv];omega),?_⟩
    have g1:=hN9.push (e:=((st.1,ow st.2),some (st,none))) hn wX bk9
    have pd:p≠d:=fU hL9.at_ hN9.dn.at_ (λz=>nomatch z)
    have hp9:(upd H9 d (nD P w d (putN (kvN (chN (ss.take j) es).1 cs' us') (kS ((st.1,ow st.2):Sta)) c (.ref a2)))) p=some (.lst (as'.map V.ref)):=by rw[fm pd];exact hL9.at_
    refine⟨_,rfl,.inl ⟨rfl,_,SqL.of hp9⟩,_,rfl,p,_,_,rfl,rfl,hp9,lB (by rw[aa,hL9.len];omega),?_⟩
    have tq:∀ b ys,H9 b=some (.tup ys)->(upd (upd H9 d (nD P w d (putN (kvN (chN (ss.take j) es).1 cs' us') (kS ((st.1,ow st.2):Sta)) c (.ref a2)))) p (.lst (as'.map V.ref ++ [.ref c]))) b=some (.tup ys):=λb ys q=>by
     have q2:(upd H9 d (nD P w d (putN (kvN (chN (ss.take j) es).1 cs' us') (kS ((st.1,ow st.2):Sta)) c (.ref a2)))) b=some (.tup ys):=by rw[fm (fU q hN9.dn.at_ (λz=>nomatch z))];exact q
     rw[fm (fU q2 hp9 (λz=>nomatch z))];exact q2
    refine⟨as' ++ [c],cs' ++ [c],us' ++ [.ref a2],_,_,_,rfl,?_,?_,?_⟩
    ·intro b o hb'
     have hbd:b≠d:=λz=>by rw[z,ki]at hb';cases hb'
     have hbp:b≠p:=λz=>by
      rw[z,gO (λz=>pd z),np]at hb';cases hb'
     rw[fm hbp,fm hbd];exact S9 _ _ hb'
    ·rw[mS];exact StN.list g1 hp9
    ·rw[mS];exact hL9.push tq fg (wX.ky tq)
   ·have hy:(valN (kvN (chN (ss.take j) es).1 cs' us') (kS (st.1,ow st.2))).isSome=true:=dz λy=>hn (by rw[Bool.not_eq_true]at y;rw[y];rfl)
    have rN:chN (ss.take (j+1)) es=chN (ss.take j) es:=by
     rw[n8];unfold iE;rw[aH (λz=>z ((hN8.mem _).mp hy))]
    rw[rN]
    exact⟨as',cs',us',_,_,_,rfl,S8,hN8,hL8⟩
  ·rintro σ H7 ⟨as',cs',us',x3,x4,x5,rfl,S7,hN7,hL7⟩
   rw[aa,hL.len,bf]at hN7 hL7
   exact⟨_,rfl,k p as' cs' us' H7 S7 np hL7 hN7⟩
end
theorem DL {p l:Addr}{g:TG}{tt:TT}{te tv:TE}{cap:List (Option Nat)}{σ:L2.St}{Q:VK}{H1:Hp}(Pv:Nat->Hp->Prop)(h0:Pv 0 (upd H1 l (nD P w l [])))(hl:∀ i H,i<=xs.length->Pv i H->SqL K H p xs)
  (hs:∀ i x H,xs[i]? = some x->Pv i H->g x (iY cap σ) H λσ2 H2=>tt σ2 H2 λb H3=>
    if b=true then te σ2 H3 λy H4=>tv σ2 H4 λv H5=>∃ (kvs:KvN) (k:SK) (b:Addr),y = .ref b/\DN P w H5 l kvs/\jF H5 b k/\kvs.length<sizeLine/\Pv (i+1) (upd H5 l (nD P w l (putN kvs k b v)))
    else Pv (i+1) H3)
  (hd:∀ H,Pv xs.length H->Q (.ref l) H):HR P w (Itl K p) g tt te tv cap σ Q l H1:=by
 refine⟨λi m H=>m=xs.length-i/\i<=xs.length/\Pv i H,⟨xs.length,by simp,aP _,h0⟩,?_⟩
 rintro i m H ⟨rfl,hi,p⟩
 have q:=hl i H hi p
 by_cases hlt:i<xs.length
 ·refine .inr ⟨⟨xs,xs[i],q,by simp[hlt]⟩,Pv (i+1),λH' p'=>⟨xs.length-(i+1),by omega,rfl,hlt,p'⟩,λx H' y=>?_⟩
  obtain⟨rfl,hy⟩:=y
  exact hs i x H' (hy xs q) p
 ·have:i=xs.length:=by omega
  subst this
  exact .inl ⟨⟨xs,q,au _⟩,hd H p⟩
def vI (n:Nat):V:=V.int n
def sU (P:Program)(w:World)(K:PySem.W.Frag):Sp:=λvs H Q _=>∃ (v u:V) (l:Ln) (tr:List Int) (i:Nat),vs = [v,u]/\Da K H (dL l) v/\Da K H (dI tr) u/\fG l/\tr≠ []/\tr.length<=900/\fW l tr/\(fA l tr i).length=i/\i<=300/\
 ∀ r t cd sd kvs cs us H',(rnd l tr r).2 = []->fu H H'->H' t=some (.tup [.ref cd,.ref sd])->StN P w K H' sd (rnd l tr r).1 cs us->DN P w H' cd kvs->(∀ s,valN kvs (kS s)=(cnt l tr r s).map vI)->Q (.ref t) H'
def at7 (σ:L2.St)(_:Hp):Nat:=match (σ[7]? :Option (Option V))with
 |some (some (V.int i))=>(2000-i).toNat
 |_=>0
abbrev mW:Stmt:=top 37
theorem iS:fK ["line","train","start","states","state","steps","counts","many"] ["line","train"] (fx mW):=⟨rfl,rfl,rfl,by decide +kernel,rfl,by decide +kernel,by decide +kernel⟩
theorem qH:gH (fx mW) ["line","train","start","states","state","steps","counts","many"] {kind:=.function,names:=[(Str.ofString ".0",.local),(Str.ofString "state",.local)],isGenerator:=false,isCoroutine:=false,more:=[]} ["state"] 1 [none]:=⟨rfl,by decide +kernel,by decide +kernel,by decide +kernel,rfl,by decide +kernel,rfl,by decide +kernel⟩
section
variable {P:Program}{w:World}{K:PySem.W.Frag}{mg:Str->Option Value}{base:Heap}{f od:Addr}{fd:FuncData}
theorem zE {f2:Addr}(F:Fn K mg "counted" mW ["line","train"] f fd)(B:Bm mg)(lS:Fn K mg "gone_on" o5 ["line","states","steps"] f1 fd1)(rH:fE P w K mg base CX0 4 f1 fd1 ["line","states","steps"] (Ao P w K))
  (iX:Fn K mg "changed_over" kf ["states","steps"] f2 fd2) (mx:fE P w K mg base CX0 1 f2 fd2 ["states","steps"] (vp P w K)):fE P w K mg base CX0 5 f fd ["line","train"] (sU P w K):=by
 refine F.F.ok iS (λvs H Q E h=>?_) (λcdv A outer s H vs Q E hr h=>?_)
 ·obtain⟨v,u,l,tr,i,rfl,_⟩:=h;rfl
 ·obtain⟨v,u,l,tr,iw,rfl,hv,hu,ok,hne,Ff,T,hiw,Jv,k⟩:=h
  obtain⟨a,rfl,ha⟩:=jq.mp hu
  obtain⟨_,htr,hsh⟩:=kX ok T hne hiw
  have gy:∀ t∈(fA l tr iw).map (·.1),∀ m∈mvs l t,m.2∈(fA l tr iw).map (·.1):=λt ht=>(hsh t ht).2
  have Wl:((fA l tr iw).map (·.1)).length<=300:=by rw[aa];omega
  have EI:=iN ok T hne iw
  have trW:∀ t∈(fA l tr iw).map (·.1),fW l t/\t≠ []/\t.length<=900:=λt ht=>by
   obtain⟨e,he,rfl⟩:=ai.mp ht
   have:=EI.tr e he
   exact⟨this.1,this.2.2,by rw[this.2.1];exact Ff⟩
  have RR:=RO.rnd gy htr
  generalize (fA l tr iw).map (·.1)=W at gy Wl trW RR htr hsh
  refine⟨_,(fj (fC (i:=2) iS.nd rfl (Or.inl rfl) (gC g6 rfl B.tuple dW (eZ (pv 1) fh)))
 (fj (fC (i:=3) iS.nd rfl (Or.inl rfl) (gM (eZ (fX (eZ (pv 2) (eZ gm fh))) (eZ (fX (eZ (pv 2) (eZ gm fh))) fh))))
 (fj (GB (i:=5) (nh hr) iS.nd rfl rfl (gj (pv 3)) rfl qH (.name (by decide)) (λ_ _ _ _=>(fy (i:=0) qH.nd rfl (Or.inl rfl))) (λ_ _ _ _=>iG) (λ_ _ _ _=>(pv 0)) (λ_ _ _ _=>wK))
 (fj (fC (i:=6) iS.nd rfl (Or.inl rfl) EK)
 (fj (fC (i:=7) iS.nd rfl (Or.inl rfl) fk)
 (fj (m3 aW (yb (pv 3) (λ_=>rfl))
 (fj (fC (i:=3) iS.nd rfl (Or.inl rfl) (fv rH (hr.mono (by decide)) rfl lS.m lS.F.kp lS.b .nil fJ (eZ (pv 0) (eZ (pv 3) (eZ (pv 5) fh)))))
 (fj (iy aW rfl (gj (pv 3)) (fy (i:=4) iS.nd rfl (Or.inl rfl))
 (fo (wH (me hr) (pv 6) (pv 4) (pv 7) rfl)))
 (fj (fC (i:=3) iS.nd rfl (Or.inl rfl) (fv mx (hr.mono (by decide)) rfl iX.m iX.F.kp iX.b .nil fJ (eZ (pv 3) (eZ (pv 5) fh))))
 (fo (wJ (i:=7) iS.nd rfl (Or.inl rfl) fk zN))))))
 (fo (fL (fX (eZ (pv 6) (eZ (pv 5) fh))))))))))),?_⟩
  refine⟨_,rfl,a,_,rfl,.inl ⟨ha,λt0 nt0=>?_⟩⟩
  have s1:=fb (o:=.tup (tr.map V.int)) nt0
  have h1:=fg (H:=H) (a:=t0) (o:=.tup (tr.map V.int))
  generalize upd H t0 _=H1 at s1 h1 ⊢
  refine⟨_,rfl,by show 2<=sizeLine;decide,λc1 nc1=>⟨_,rfl,by show 2<=sizeLine;decide,λc2 nc2=>⟨by show 2<=sizeLine;decide,λp np=>?_⟩⟩⟩
  have s2:=(fb (o:=.tup [.ref t0,.str "on"]) nc1).trans ((fb (o:=.tup [.ref t0,.str "back"]) nc2).trans (fb (o:=.lst [.ref c1,.ref c2]) np))
  have hp2:=fg (H:=upd (upd H1 c1 (.tup [.ref t0,.str "on"])) c2 (.tup [.ref t0,.str "back"])) (a:=p) (o:=.lst [.ref c1,.ref c2])
  have hc2:=(fb (o:=.lst [.ref c1,.ref c2]) np) _ _ (fg (H:=upd H1 c1 (.tup [.ref t0,.str "on"])) (a:=c2) (o:=.tup [.ref t0,.str "back"]))
  have hc1:=((fb (o:=.tup [.ref t0,.str "back"]) nc2).trans (fb (o:=.lst [.ref c1,.ref c2]) np)) _ _ (fg (H:=H1) (a:=c1) (o:=.tup [.ref t0,.str "on"]))
  generalize upd (upd (upd H1 c1 _) c2 _) p _=H2 at s2 hp2 hc2 hc1 ⊢
  have ht2:=s2 _ _ h1
  have k1:jF H2 c1 (kS (tr,onW)):=⟨t0,hc1,by rw[show(kS (tr,onW)).1=kyI tr from rfl,iI];exact ht2⟩
  have k2:jF H2 c2 (kS (tr,ij)):=⟨t0,hc2,by rw[show(kS (tr,ij)).1=kyI tr from rfl,iI];exact ht2⟩
  refine⟨_,rfl,p,rfl,⟨_,SqL.of hp2⟩,λsd nsd=>?_⟩
  have S2:=s1.trans s2
  have hn:onW≠ij:=by unfold onW ij;decide +kernel
  refine DL (K:=K) (p:=p) (xs:=[.ref c1,.ref c2]) (λj G=>fu H2 G/\StN P w K G sd ((r0 tr).1.take j) ([c1,c2].take j) ([V.non,V.non].take j))
   ⟨fb nsd,⟨⟨fg,λq hq=>(by cases hq)⟩,rfl,rfl,λi e v he=>(by simp at he)⟩⟩ (λj G _ h=>SqL.of (h.1 _ _ hp2)) (λj x G hx h=>?_) (λG h=>?_)
  ·have GV:H2 sd=none:=nsd
   match j,hx with
   | 0,hx=>
    cases hx
    refine⟨_,rfl,_,(kS (tr,onW)),c1,rfl,h.2.dn,k1.same h.1,by show 0<sizeLine;decide,fu.upd h.1 nsd,?_⟩
    exact StN.push (e:=((tr,onW),none)) h.2 (by simp) (k1.same h.1) rfl
   | 1,hx=>
    cases hx
    refine⟨_,rfl,_,(kS (tr,ij)),c2,rfl,h.2.dn,k2.same h.1,by show 1<sizeLine;decide,fu.upd h.1 nsd,?_⟩
    exact StN.push (e:=((tr,ij),none)) h.2 (by show(tr,ij)∉ [(tr,onW)];simp;exact λz=>hn z.symm) (k2.same h.1) rfl
  obtain⟨S3,N3⟩:=h
  have N3:StN P w K G sd (r0 tr).1 [c1,c2] [V.non,V.non]:=N3
  have L3:StL G p [c1,c2] (r0 tr).2:=⟨S3 _ _ hp2,rfl,λi a s h1 h2=>by
   match i,h1,h2 with
   | 0,h1,h2=>cases h1;cases h2;exact k1.same S3
   | 1,h1,h2=>cases h1;cases h2;exact k2.same S3⟩
  have S03:=S2.trans S3
  have GV:H sd=none:=fu.free S2 nsd
  clear hp2 hc1 hc2 k1 k2 s2 ht2
  refine λcd ncd=>?_
  have s4:=fb (o:=nD P w cd []) ncd
  have hcd:=fg (H:=G) (a:=cd) (o:=nD P w cd [])
  have scd:sd≠cd:=λz=>by rw[<-z,N3.dn.at_]at ncd;cases ncd
  have D4:DN P w (upd G cd (nD P w cd [])) cd []:=⟨hcd,λq hq=>(by cases hq)⟩
  have M5:H cd=none:=fu.free S03 ncd
  dsimp only[qi,Ci,tC,oC]
  show sO _ _ _ _ _
  refine oU (λσ H4=>∃ (r:Nat) (p':Addr) (as cs:List Addr) (us:List V) (kvs:KvN) (x4:Option V),σ = [some v,some (.ref a),some (.ref t0),some (.ref p'),x4,some (.ref sd),some (.ref cd),some (.int r)]/\fu H H4/\StL H4 p' as (rnd l tr r).2/\StN P w K H4 sd (rnd l tr r).1 cs us/\DN P w H4 cd kvs/\(∀ s,valN kvs (kS s)=(cnt l tr r s).map vI)/\kvs.length<=r*1000/\((rnd l tr r).2≠ []->r<=(rnd l tr r).1.length)/\r<=1001)
   at7 ⟨0,p,[c1,c2],[c1,c2],[V.non,V.non],[],none,rfl,S03.trans s4,L3.same s4,N3.same s4,D4,λs=>rfl,aP _,λ_=>aP _,aP _⟩ ?_ ?_
  ·rintro σ H4 N1 R1 B1 kN1 _ kB1 ⟨r,p',as,cs,us,kvs,x4,rfl,S4,L4,N4,D4,zO,hkl,hr1,hr2⟩
   have R:=RR r
   refine⟨_,rfl,_,.inl ⟨_,SqL.of L4.at_,rfl⟩,gZ (λBM=>?_) (λhe=>?_)⟩
   ·have BM:(rnd l tr r).2≠ []:=λz=>by
     have:=L4.len
     rw[z]at this
     have:as = []:=List.length_eq_zero_iff.mp this
     rw[this]at BM
     cases BM
    have hr3:=hr1 BM
    have Rl:=R.len
    have bnd:∀ i,(goS l ((rnd l tr r).1,(rnd l tr r).2) i).2.length<=1000/\(goS l ((rnd l tr r).1,(rnd l tr r).2) i).1.length<=1000:=λi=>by
     have:=(RO.go gy R i).len
     exact⟨by show(goS l (rnd l tr r) i).2.length<=1000;omega,by show(goS l (rnd l tr r) i).1.length<=1000;omega⟩
    refine⟨_,rfl,_,rfl,_,rfl,v,p',sd,l,_,cs,us,_,as,rfl,Da.same S4 hv,L4,N4,ok,λs hs=>trW s.1 (R.inW s (R.sub s hs)).1,bnd,λi q as' cs' us' H5 hi S5 nq L5 N5=>?_⟩
    have hi:(goS l (rnd l tr r) i).2.length=i:=hi
    have eF:goS l ((rnd l tr r).1,(rnd l tr r).2) i=goF l (rnd l tr r):=(Hy hi (by have:=(bnd i).1;have h2:(goS l ((rnd l tr r).1,(rnd l tr r).2) i).2.length=i:=hi;omega)).symm
    rw[eF]at L5 N5
    have R5:RO W (goF l (rnd l tr r)):=RO.go gy R 1000
    have Rl5:=R5.len
    have D5:DN P w H5 cd kvs:=(D4.hid N4.dn.at_ scd.symm).same S5
    have S05:fu H H5:=(vA S4 GV).trans S5
    have gp:(rnd l tr r).1.length<=(goF l (rnd l tr r)).1.length:=(px l (rnd l tr r) 1000).length_le
    have er:rnd l tr (r+1)=chN (goF l (rnd l tr r)).2 (goF l (rnd l tr r)).1:=rfl
    have ec:∀ s,cnt l tr (r+1) s=open Classical in if s∈(goF l (rnd l tr r)).2 then some r else cnt l tr r s:=λs=>rfl
    generalize goF l (rnd l tr r)=gg at L5 N5 R5 Rl5 gp er ec
    refine⟨_,rfl,q,rfl,⟨_,SqL.of L5.at_⟩,jf (K:=K) (a:=q) (xs:=as'.map V.ref) (λj σ G=>∃ (sa:KvN) (x4:Option V),σ = [some v,some (.ref a),some (.ref t0),some (.ref q),x4,some (.ref sd),some (.ref cd),some (.int r)]/\fu H G/\StL G q as' gg.2/\StN P w K G sd gg.1 cs' us'/\DN P w G cd sa/\(∀ s,(s∈gg.2.take j->valN sa (kS s)=some (vI r))/\(s∉gg.2.take j->valN sa (kS s)=valN kvs (kS s)))/\sa.length<=kvs.length+j)
     ⟨kvs,x4,rfl,S05,L5,N5,D5,λs=>⟨λz=>(by simp at z),λ_=>rfl⟩,au _⟩ (λj σ G _ ⟨_,_,_,_,h,_⟩=>SqL.of h.at_) ?_ ?_⟩
    ·rintro j y σ G N2 R2 B2 kN2 _ hj ⟨sa,x4',rfl,SG,LG,NG,DG,hv',hl'⟩
     have hjl:j<gg.2.length:=by
      have:=(af.mp hj).1
      rwa [aa,LG.len]at this
     have he:gg.2[j]? = some gg.2[j]:=ag hjl
     generalize gg.2[j]=st at he
     obtain⟨b,hb⟩:∃ b,as'[j]? = some b:=⟨as'[j]'(by rw[LG.len];exact hjl),ag _⟩
     have ey:y=V.ref b:=by rw[ao,hb]at hj;simpa using hj.symm
     subst ey
     have key:=LG.each j b st hb he
     refine⟨_,rfl,_,rfl,_,rfl,cd,sa,b,kS st,rfl,rfl,DG,key,lB (by have:r*1000<=1001*1000:=Nat.mul_le_mul_right _ hr2;omega),?_⟩
     refine kN2 _ _ ⟨_,_,rfl,fu.upd SG M5,LG.other DG.at_,NG.other DG.at_ scd,DG.put key,λs'=>⟨λhm=>?_,λhm=>?_⟩,?_⟩
     ·rw[xD]
      by_cases e:s'=st
      ·rw[aM (by rw[e])];rfl
      ·rw[aH (λz=>e (wY z))]
       rw[aQ,he]at hm
       rcases ay.mp hm with z |z
       ·exact(hv' s').1 z
       ·exact absurd (by simpa using z) e
     ·rw[aQ,he]at hm
      have e:s'≠st:=λz=>hm (az _ (by rw[z];simp))
      rw[xD,aH (λz=>e (wY z))]
      exact(hv' s').2 λz=>hm (aG _ z)
     ·have:=tD sa (kS st) b (.int r)
      show(putN sa (kS st) b (.int r)).length<=kvs.length+(j+1)
      omega
    rintro σ G ⟨sa,x4',rfl,SG,LG,NG,DG,hv',hl'⟩
    rw[aa,LG.len]at hl'
    rw[aa,LG.len,bf]at hv'
    refine⟨_,rfl,_,rfl,q,sd,gg.1,cs',us',gg.2,as',rfl,LG,NG,λs hs=>(R5.inW s (R5.sub s hs)).2,by omega,by omega,λq2 as2 cs2 us2 H7 S7 nq2 L7 N7=>?_⟩
    refine⟨_,rfl,_,_,rfl,rfl,?_⟩
    rw[<-er]at L7 N7
    have gr:=DS gg.2 gg.1
    rw[<-er]at gr
    refine kN1 _ _ ⟨r+1,q2,as2,cs2,us2,sa,_,rfl,(vA SG GV).trans S7,L7,N7,(DG.hid NG.dn.at_ scd.symm).same S7,λs=>?_,by have:=Nat.succ_mul r 1000;omega,λhn'=>?_,by omega⟩ ?_
    ·rw[ec s]
     by_cases hm:s∈gg.2
     ·rw[aM hm,(hv' s).1 hm];rfl
     ·rw[aH hm,(hv' s).2 hm];exact zO s
    ·have:1<=(rnd l tr (r+1)).2.length:=by
      cases h:(rnd l tr (r+1)).2 with
      |nil=>exact absurd h hn'
      |cons x y=>simp
     omega
    ·show(2000-((r:Int)+1)).toNat<(2000-(r:Int)).toNat
     omega
   ·have he:(rnd l tr r).2 = []:=by
     have:=L4.len
     have h0:as = []:=by
      have:(as.map V.ref).isEmpty=true:=by simpa using he
      simpa using this
     rw[h0]at this
     exact List.length_eq_zero_iff.mp this.symm
    refine kB1 _ _ ⟨_,rfl,_,rfl,by show 2<=sizeLine;decide,λt nt=>?_⟩
    have s9:=fb (o:=.tup [.ref cd,.ref sd]) nt
    exact k r t cd sd kvs cs us _ he (S4.trans s9) fg (N4.same s9) (D4.same s9) zO
  ·rintro σ H Q Q' hq ⟨x,e1,c,h2,q⟩
   exact⟨x,e1,c,h2,hq _ _ q⟩
end
def xT (P:Program)(w:World)(K:PySem.W.Frag):Sp:=λvs H Q _=>∃ (d g:Addr) (es:List EnS) (cs:List Addr) (us:List V) (s:Sta),vs = [.ref d,.ref g]/\StN P w K H d es cs us/\jF H g (kS s)/\s∈es.map (·.1)/\hX es/\(es.map (·.1)).Nodup/\es.length<=5000000/\
 ∀ q run H',fu H H'->H q=none->pR K H' q run->kr es s run->Q (.ref q) H'
section
variable {P:Program}{w:World}{K:PySem.W.Frag}{mg:Str->Option Value}{base:Heap}{f:Addr}{fd:FuncData}
theorem qv (F:Fn K mg "run_back_from" iK ["steps","goal"] f fd):fE P w K mg base CX0 1 f fd ["steps","goal"] (xT P w K):=by
 refine F.F.ok fV (λvs H Q E h=>?_) (λcdv A outer s H vs Q E hr h=>?_)
 ·obtain⟨d,g,es,cs,us,t,rfl,_⟩:=h;rfl
 ·obtain⟨d,g,es,cs,us,t,rfl,hs,hg,ht,bk,nd,hl,k⟩:=h
  refine⟨_,(fj (fC (i:=2) fV.nd rfl (Or.inl rfl) (gM fh))
 (fj (fC (i:=3) fV.nd rfl (Or.inl rfl) (qr (me hr) (pv 0) (pv 1) (λ_ _=>rfl)))
 (fj (m3 aW (gz (qt (pv 3)))
 (fj (ot (pv 3) (iz (n:=2) rfl (fF (fy (i:=4) fV.nd rfl (Or.inl rfl)) (fF (fy (i:=5) fV.nd rfl (Or.inl rfl)) gS))))
 (fj (hZ (gz (qt (pv 5)))
 (fo (g7 (lj aL bj bh ip (pv 2) (eZ (pv 5) fh)))) fT)
 (fo (fC (i:=3) fV.nd rfl (Or.inl rfl) (qr (me hr) (pv 0) (pv 4) (λ_ _=>rfl)))))))
 (fj (g7 (CP aL PySem.F.slot_list_reverse PySem.F.type_list_reverse tW (pv 2)))
 (fo (fL (pv 2))))))),?_⟩
  refine⟨aP _,λp np=>?_⟩
  have s1:=fb (o:=.lst []) np
  have hp1:=fg (H:=H) (a:=p) (o:=.lst [])
  generalize upd H p _=H1 at s1 hp1 ⊢
  obtain⟨e0,he0,rfl⟩:=ai.mp ht
  obtain⟨j0,hj0,ej0⟩:=aR.mp he0
  have Dx:es[j0]? = some e0:=by rw[ag hj0,ej0]
  have uat:∀ j,j<es.length->∃ v,us[j]? = some v:=λj hj=>⟨us[j]'(by rw[hs.lv];exact hj),ag _⟩
  obtain⟨v0,hv0⟩:=uat j0 hj0
  have hs1:=hs.same s1
  refine⟨_,rfl,_,rfl,d,_,g,_,v0,rfl,rfl,hs1.dn,hg.same s1,hs1.get nd Dx hv0,?_⟩
  refine xB (λn σ H3=>∃ (e:EnS) (sv:V) (rr:List (Str×Int)) (vs:List V) (x4 x5:Option V),σ = [some (.ref d),some (.ref g),some (.ref p),some sv,x4,x5]/\es[n]? = some e/\us[n]? = some sv/\fu H H3/\H3 p=some (.lst vs)/\Das K (hid p H3) (rr.map dM) vs/\
    (∀ k∈rr,PyData.strOk k.1=true)/\rr.length+n<=es.length/\∀ r,kr es e.1 r->kr es e0.1 (r++rr.reverse))
   j0 ⟨e0,v0,[],[],none,none,rfl,Dx,hv0,s1,hp1,gw.mpr rfl,(λk hk=>by cases hk),by simp;omega,λr hr=>by simpa using hr⟩ ?_ ?_
  ·rintro n σ H3 ⟨e,sv,rr,vs,x4,x5,rfl,hn,hsv,S3,hp3,D3,okr,ln,PT⟩
   have hs3:=hs.same S3
   have sv3:=hs3.each n e sv hn hsv
   have vl:vs.length=rr.length:=by have:=Dgs.length D3;rw[aa]at this;exact this
   refine⟨_,rfl,_,rfl,gZ (λhb=>?_) (λhb=>?_)⟩
   ·obtain⟨t',o'⟩:=e
    cases o' with
    |none=>
     have z:sv = .non:=sv3
     rw[z]at hb
     exact absurd hb (by decide)
    |some tk=>
     obtain⟨t1,mk⟩:=tk
     obtain⟨i,e1,hi,he1,rfl⟩:=bk.back n t' t1 mk hn
     have hlt:=(af.mp he1).1
     obtain⟨v1,hv1⟩:=uat i hlt
     cases mk with
     |none=>
      obtain⟨a,b,rfl,ha,hb1⟩:=sv3
      refine⟨_,rfl,a,_,rfl,SqT.of ha,rfl,_,_,rfl,_,_,rfl,rfl,?_⟩
      refine⟨_,rfl,_,rfl,BI ?_⟩
      refine⟨_,rfl,_,rfl,d,_,b,_,v1,rfl,rfl,hs3.dn,hb1,hs3.get nd he1 hv1,?_⟩
      exact⟨i,hi,e1,v1,rr,vs,_,_,rfl,he1,hv1,S3,hp3,D3,okr,by omega,λr hr=>PT r (.ch (ax hn) hr)⟩
     |some k1=>
      obtain⟨a,b,c,rfl,ha,hb1,hc⟩:=sv3
      refine⟨_,rfl,a,_,rfl,SqT.of ha,rfl,_,_,rfl,_,_,rfl,rfl,?_⟩
      refine⟨_,rfl,_,rfl,yu ?_⟩
      refine⟨_,rfl,.inl ⟨rfl,_,SqL.of hp3⟩,_,rfl,p,_,_,rfl,rfl,hp3,lB (by omega),?_⟩
      have S4:=fu.upd (o:=.lst (vs ++ [V.ref c])) S3 np
      have hs4:=hs.same S4
      have hb4:jF (upd H3 p (.lst (vs ++ [V.ref c]))) b (kS e1.1):=hb1.ky λx ys q=>by rw[fm (fU q hp3 (λz=>nomatch z))];exact q
      refine⟨_,rfl,_,rfl,d,_,b,_,v1,rfl,rfl,hs4.dn,hb4,hs4.get nd he1 hv1,?_⟩
      refine⟨i,hi,e1,v1,rr ++ [k1],vs ++ [V.ref c],_,_,rfl,he1,hv1,S4,fg,?_,λk' hk'=>?_,by rw[ah,aA];omega,λr hr=>?_⟩
      ·rw[pq,aw]
       exact Dgs.append D3 (Dgs.one (F6 (sC hp3 hc)))
      ·rcases ay.mp hk' with z |z
       ·exact okr k' z
       ·have z:k'=k1:=by simpa using z
        rw[z];exact bk.ok n t' e1.1 k1 hn
      ·have:=PT (r ++ [k1]) (.mv (ax hn) hr)
       rw[eB,de,List.reverse_nil,eu]
       rw[cu]at this
       exact this
   ·obtain⟨t',o'⟩:=e
    cases o' with
    |some tk=>
     obtain⟨t1,mk⟩:=tk
     cases mk with
     |none=>
      obtain⟨a,b,rfl,_⟩:=sv3
      exact absurd rfl hb
     |some k1=>
      obtain⟨a,b,c,rfl,_⟩:=sv3
      exact absurd rfl hb
    |none=>
     refine⟨_,rfl,.inl ⟨rfl,_,SqL.of hp3⟩,p,_,rfl,rfl,hp3,?_⟩
     refine⟨_,rfl,k p rr.reverse _ (fu.upd S3 np) np ⟨⟨_,fg,?_⟩,λk' hk'=>okr k' (by simpa using hk')⟩ ?_⟩
     ·rw[pq,eX]
      exact Dgs.rev D3
     ·have:=PT [] (.nil (ax hn))
      simpa using this
  ·rintro σ H Q Q' hq ⟨x,e1,c,e2,q⟩
   exact⟨x,e1,c,e2,hq _ _ q⟩
end
def dTu (t:List Int):PyData:=.tuple (t.map .int)
theorem DE (a b:List Int):PyData.eqv (dTu a) (dTu b)=decide (a=b):=by
 unfold dTu
 rw[PyData.eqv,uw]
theorem HM (ss:List (List Int))(t:List Int):((ss.map dTu).any λz=>PyData.eqv z (dTu t))=decide (t∈ss):=by
 rw[List.any_map,bP,ed,cg]
 constructor
 ·rintro⟨y,hy,e⟩
  have e:PyData.eqv (dTu y) (dTu t)=true:=e
  rw[DE,cg]at e
  exact e ▸ hy
 ·exact λh=>⟨t,h,by show PyData.eqv (dTu t) (dTu t)=true;rw[DE];exact bG rfl⟩
theorem C9 (ns:List Int):OkD (dTu ns):=⟨by simp only[dTu,PyData.canLay0];exact iU (λ_=>rfl) ns,by
 simp only[dTu,PyData.depth]
 have:=iA (f:=PyData.int) (k:=0) (λ_=>by simp[PyData.depth]) ns
 omega⟩
theorem ET (ss:List (List Int)):D7 (ss.map dTu):=by
 refine⟨iU (λt=>(C9 t).1) ss,?_⟩
 have:=iA (f:=dTu) (k:=1) (λt=>by
  simp only[dTu,PyData.depth]
  have:=iA (f:=PyData.int) (k:=0) (λ_=>by simp[PyData.depth]) t
  omega) ss
 omega
theorem F5 {b:Addr}{t:List Int}(h:H b=some (.tup (t.map V.int))):Da K H (dTu t) (.ref b):=by
 refine gR.mpr ⟨b,_,rfl,SqT.of h,?_⟩
 clear h
 induction t with
 |nil=>exact gw.mpr rfl
 |cons x r ih=>exact fO.mpr ⟨_,_,rfl,gX.mpr rfl,ih⟩
structure Aa (H:Hp)(p:Addr)(bs:List Addr)(ts:List (List Int)):Prop where
 at_:H p=some (.lst (bs.map V.ref))
 len:bs.length=ts.length
 each:∀ (i:Nat) b t,bs[i]? = some b->ts[i]? = some t->H b=some (.tup (t.map V.int))
theorem Aa.same {H':Hp}{p:Addr}{bs:List Addr}(h:Aa H p bs ts)(s:fu H H'):Aa H' p bs ts:=⟨s _ _ h.at_,h.len,λi b t h1 h2=>s _ _ (h.each i b t h1 h2)⟩
theorem xF {K:PySem.W.Frag}{H:Hp} :∀ {bs:List Addr}{ts:List (List Int)},bs.length=ts.length->(∀ (i:Nat) b t,bs[i]? = some b->ts[i]? = some t->H b=some (.tup (t.map V.int)))->Das K H (ts.map dTu) (bs.map V.ref)
 |[],[],_,_=>gw.mpr rfl
 |[],_::_,h,_=>by simp at h
 |_::_,[],h,_=>by simp at h
 |b::bs,t::ts,h,e=>fO.mpr ⟨_,_,rfl,F5 (e 0 b t rfl rfl),xF (by simpa using h) λi b' t' h1 h2=>e (i+1) b' t' (by simpa using h1) (by simpa using h2)⟩
theorem Aa.da {p:Addr}{bs:List Addr}(h:Aa H p bs ts):Da K H (.list (ts.map dTu)) (.ref p):=i7.mpr ⟨p,_,rfl,SqL.of h.at_,xF h.len h.each⟩
def vn (K:PySem.W.Frag):Sp:=λvs H Q _=>∃ (p:Addr) (bs:List Addr) (ts:List (List Int)),vs = [.ref p]/\Aa H p bs ts/\ts.length<=5000000/\∀ q bs' H',my H H' q bs' ts->Q (.ref q) H'
section
variable {P:Program}{w:World}{K:PySem.W.Frag}{mg:Str->Option Value}{base:Heap}{f:Addr}{fd:FuncData}
theorem wN (F:Fn K mg "lists_of" jv ["standings"] f fd)(B:Bm mg):fE P w K mg base CX0 1 f fd ["standings"] (vn K):=by
 refine F.F.ok rP (λvs H Q E h=>?_) (λcdv A outer s H vs Q E hr h=>?_)
 ·obtain⟨p,bs,ts,rfl,_⟩:=h;rfl
 ·obtain⟨p,bs0,ts,rfl,hT,hl,k⟩:=h
  refine⟨_,(fo (fL (nV (gj (pv 0)) rfl kU (.name (by decide)) (λ_ _ _ _=>(fy (i:=0) kU.nd rfl (Or.inl rfl))) (λ_ _ _ _=>iG) (λ_ _ _ _=>(gC (kW (K:=K) rfl) rfl B.list eU (eZ (pv 0) fh)))))),?_⟩
  refine⟨_,rfl,p,rfl,⟨_,SqL.of hT.at_⟩,λq nq=>?_⟩
  refine t6 ts.length (λi acc H'=>∃ bs:List Addr,acc=bs.map V.ref/\bs.length=i/\fu H H'/\H' q=some (.lst acc)/\(∀ (j:Nat) b t,bs[j]? = some b->ts[j]? = some t->H b=none/\b≠q/\H' b=some (.lst (t.map V.int)))/\bs.Nodup)
   ⟨[],rfl,rfl,fb nq,fg,λj b t h=>by simp at h,by simp⟩ (λi acc H' hi ⟨_,_,_,sm,_⟩=>⟨_,(bs0.map V.ref)[i]'(by rw[aa,hT.len];exact hi),SqL.of (sm _ _ hT.at_),ag _⟩) (λacc H' ⟨_,_,_,sm,_⟩=>⟨_,SqL.of (sm _ _ hT.at_),by rw[aa,hT.len];exact au _⟩) ?_ ?_
  ·rintro i x acc H4 H5 hi ⟨bs,rfl,bl,sm,hq,ea,nd⟩ ⟨e5,hx⟩
   subst e5
   have hx:=hx _ (SqL.of (sm _ _ hT.at_))
   obtain⟨t,ht⟩:∃ t,ts[i]? = some t:=⟨ts[i],ag hi⟩
   obtain⟨b,hb0⟩:∃ b,bs0[i]? = some b:=⟨bs0[i]'(by rw[hT.len];exact hi),ag _⟩
   have ex:x=V.ref b:=by rw[ao,hb0]at hx;simpa using hx.symm
   subst ex
   have hb:=sm _ _ (hT.each i b t hb0 ht)
   refine jw ?_
   refine⟨_,rfl,b,_,rfl,.inr (SqT.of hb),λnb nnb=>?_⟩
   have s6:=fb (o:=.lst (t.map V.int)) nnb
   have nbq:nb≠q:=bF (fw hq nnb)
   refine⟨s6 _ _ hq,lB (by rw[aa];omega),bs ++ [nb],by rw[aw];rfl,by rw[ah,bl];rfl,fu.upd (sm.trans s6) nq,fg,λj c u hc hu=>?_,?_⟩
   ·by_cases hj:j<bs.length
    ·rw[ak hj]at hc
     obtain⟨z1,z2,z3⟩:=ea j c u hc hu
     exact⟨z1,z2,by rw[fm z2];exact s6 _ _ z3⟩
    ·have hj2:j=bs.length:=by
      have:=(af.mp hc).1
      rw[ah,aA]at this
      omega
     rw[hj2,av (au _),aV]at hc
     cases hc
     rw[hj2,bl,ht]at hu
     cases hu
     exact⟨fu.free sm nnb,nbq,by rw[fm nbq];exact fg⟩
   ·rw[bx]
    refine⟨nd,by simp,λx hx y hy=>?_⟩
    have hy:y=nb:=by simpa using hy
    subst hy
    obtain⟨j,hj,e⟩:=aR.mp hx
    obtain⟨_,_,z3⟩:=ea j x (ts[j]'(by omega)) (by rw[ag hj,e]) (ag _)
    exact fw z3 nnb
  ·rintro acc H' ⟨bs,rfl,bl,sm,hq,ea,nd⟩
   exact k q bs _ ⟨sm,nq,hq,bl,ea,nd⟩
end
theorem Ew {t u:TS}{D:Ends}{σ:St}(J:St->Hp->Prop)(first:∀ nx:St->Hp->Prop,(∀ σ' H',J σ' H'->nx σ' H')->t {D with nx:=nx} σ H)(rest:∀ σ' H',J σ' H'->u D σ' H'):qi t u D σ H:=
 first (u D) rest
abbrev R3:=List Int×Nat×Nat
def uI (H0 H:Hp)(r:R3)(v:V):Prop:=∃ ad a,v = .ref ad/\H ad=some (.tup [.ref a,vI r.2.1,vI r.2.2])/\H a=some (.lst (r.1.map V.int))/\H0 a=none
theorem uI.mono {H0 H':Hp}(r:R3)(v:V)(s:fu H H')(h:uI H0 H r v):uI H0 H' r v:=h.imp λ_ h=>h.imp λ_ h=>⟨h.1,s _ _ h.2.1,s _ _ h.2.2.1,h.2.2.2⟩
structure rE (H0 H:Hp)(q:Addr)(rows:List R3)(vs:List V):Prop where
 at_:H q=some (.lst vs)
 new:H0 q=none
 pw:Pw (uI H0 (hid q H)) rows vs
theorem rE.same {H0 H':Hp}{q:Addr}{rows:List R3}{vs:List V}(h:rE H0 H q rows vs)(s:fu H H'):rE H0 H' q rows vs:=⟨s _ _ h.at_,h.new,h.pw.imp λr v=>uI.mono r v (oB s)⟩
def cn (l:Ln)(tr:List Int)(r:Nat)(t:List Int)(w:Str):Nat:=(cnt l tr r (t,w)).getD 0
def xC (l:Ln)(tr:List Int)(r:Nat)(ts:List (List Int)):List R3:=ts.map λt=>(t,cn l tr r t onW,cn l tr r t ij)
def mP (l:Ln)(tr:List Int)(r:Nat)(gs:List Int):Str:=if cn l tr r gs onW<=cn l tr r gs ij then onW else ij
structure HQ (K:PySem.W.Frag)(c2 c5:Addr)(l:Ln)(ns gs:List Int)(H:Hp)(Q:VK)(E:XK):Prop where
 bad:¬gOk l ns gs->∀ H',fu H H'->∀ e,H' e=none->E (.ref c2) (some e) H'
 many:gOk l ns gs->(∃ i,300<(fA l ns i).length)->∀ H',fu H H'->∀ e,H' e=none->E (.ref c5) (some e) H'
 no:gOk l ns gs->∀ i,(fA l ns i).length=i->i<=300->gs∉(fA l ns i).map (·.1)->∀ r q bs H',my H H' q bs ((fA l ns i).map (·.1))->H' r=some (.tup [.str "none",.ref q])->H r=none->Q (.ref r) H'
 yes:gOk l ns gs->∀ i,(fA l ns i).length=i->i<=300->gs∈(fA l ns i).map (·.1)->∀ r t q1 run q2 us H',(rnd l ns r).2 = []->fu H H'->pR K H' q1 run->H q1=none->kr (rnd l ns r).1 (gs,mP l ns r gs) run->rE H H' q2 (xC l ns r ((fA l ns i).map (·.1))) us->q1≠q2->H' t=some (.tup [.str "run",.ref q1,.ref q2])->H t=none->Q (.ref t) H'
def oW (K:PySem.W.Frag)(c2 c5:Addr):Sp:=λvs H Q E=>∃ (v u g:V) (l:Ln) (ns gs:List Int),vs = [v,u,g]/\Da K H (dL l) v/\Da K H (dI ns) u/\Da K H (dI gs) g/\fG l/\ns≠ []/\ns.length<=900/\fW l ns/\gs.length<=900/\HQ K c2 c5 l ns gs H Q E
abbrev lX:Stmt:=top 38
theorem kA:fK ["line","train","goal","standings","aim","counts","steps","word","ways"] ["line","train","goal"] (fx lX):=⟨rfl,rfl,rfl,by decide +kernel,rfl,by decide +kernel,by decide +kernel⟩
theorem rV:gH (fx lX) ["line","train","goal","standings","aim","counts","steps","word","ways"] {kind:=.function,names:=[(Str.ofString ".0",.local),(Str.ofString "standing",.local),(Str.ofString "list",.globalImplicit),(Str.ofString "counts",.free)],isGenerator:=false,isCoroutine:=false,more:=[]} ["standing","counts"] 1 [none,some 5]:=⟨rfl,by decide +kernel,by decide +kernel,by decide +kernel,rfl,by decide +kernel,rfl,by decide +kernel⟩
section
variable {P:Program}{w:World}{K:PySem.W.Frag}{mg:Str->Option Value}{base:Heap}{f:Addr}{fd:FuncData}{c2 c5:Addr}
theorem Bz {f2:Addr}(F:Fn K mg "fewest" lX ["line","train","goal"] f fd)(B:Bm mg)
  (g8:Fn K mg "check_goal" kd ["line","train","goal"] f1 fd1) (jG:fE P w K mg base (CXr P w base) 3 f1 fd1 ["line","train","goal"] (we K c2))
  (fS:Fn K mg "first_steps" je ["line","train"] f2 fd2) (h7:fE P w K mg base (CXr P w base) 4 f2 fd2 ["line","train"] (qk K c5))
  (gA:Fn K mg "lists_of" jv ["standings"] f3 fd3) (fZ:Fn K mg "run_back_from" iK ["steps","goal"] f4 fd4) (lT:Fn K mg "counted" mW ["line","train"] f5 fd5) (rJ:fE P w K mg base CX0 5 f5 fd5 ["line","train"] (sU P w K)):
  fE P w K mg base (CXr P w base) 6 f fd ["line","train","goal"] (oW K c2 c5):=by
 have mw:fE P w K mg base CX0 1 f3 fd3 ["standings"] (vn K):=wN gA B
 have ly:fE P w K mg base CX0 1 f4 fd4 ["steps","goal"] (xT P w K):=qv fZ
 refine F.F.okX kA (λvs H Q E h=>?_) (λcdv A outer s H vs Q E hr h=>?_)
 ·obtain⟨v,u,g,l,ns,gs,rfl,_⟩:=h;rfl
 ·obtain⟨v,u,g,l,ns,gs,rfl,hv,hu,hg,ok,hne,hz,T,gl,k⟩:=h
  obtain⟨b,rfl,hb⟩:=jq.mp hg
  refine⟨_,(fj (g7 (fv jG (hr.mono (by decide)) rfl g8.m g8.F.kp g8.b .nil jE (eZ (pv 0) (eZ (pv 1) (eZ (pv 2) fh)))))
 (fj (fC (i:=3) kA.nd rfl (Or.inl rfl) (gC (xp rfl) rfl B.list eU (eZ (fv h7 (hr.mono (by decide)) rfl fS.m fS.F.kp fS.b .nil jE (eZ (pv 0) (eZ (pv 1) fh))) fh)))
 (fj (fC (i:=4) kA.nd rfl (Or.inl rfl) (gC g6 rfl B.tuple dW (eZ (pv 2) fh)))
 (fj (hZ (iu (kG hr.units) (pv 4) (pv 3) (by with_unfolding_all rfl))
 (fo (fL (fX (eZ gm (eZ (fv mw (hr.mono (by decide)) rfl gA.m gA.F.kp gA.b .nil fJ (eZ (pv 3) fh)) fh))))) fT)
 (fj (ot (fv rJ (hr.mono (by decide)) rfl lT.m lT.F.kp lT.b .nil fJ (eZ (pv 0) (eZ (pv 1) fh))) (iz (n:=2) rfl (fF (fy (i:=5) kA.nd rfl (Or.inr rfl)) (fF (fy (i:=6) kA.nd rfl (Or.inl rfl)) gS))))
 (fj (fC (i:=7) kA.nd rfl (Or.inl rfl) (yf (gz (IG (qr (me hr) (pv 5) (fX (eZ (pv 4) (eZ gm fh))) (λ_ _=>rfl)) (qr (me hr) (pv 5) (fX (eZ (pv 4) (eZ gm fh))) (λ_ _=>rfl)))) gm gm))
 (fj (rQ (i:=8) kA.nd rfl rfl (gj (pv 3)) rfl rV (.name (by decide)) (λ_ _ _ _=>(fy (i:=0) rV.nd rfl (Or.inl rfl))) (λ_ _ _ _=>iG) (λ_ _ _ _=>(fX (eZ (gC (kW (K:=K) rfl) rfl B.list eU (eZ (pv 0) fh)) (eZ (ye (P:=P) (w:=w) rfl rfl (me hr) (pv 1) (fX (eZ (pv 0) (eZ gm fh))) (λ_ _=>rfl)) (eZ (ye (P:=P) (w:=w) rfl rfl (me hr) (pv 1) (fX (eZ (pv 0) (eZ gm fh))) (λ_ _=>rfl)) fh))))))
 (fo (fL (fX (eZ gm (eZ (fv ly (hr.mono (by decide)) rfl fZ.m fZ.F.kp fZ.b .nil fJ (eZ (pv 6) (eZ (fX (eZ (pv 4) (eZ (pv 7) fh))) fh))) (eZ (pv 8) fh))))))))))))),?_⟩
  refine⟨_,rfl,_,rfl,_,rfl,_,_,_,l,ns,gs,rfl,hv,hu,hg,ok,gl,λgo H1 s1=>?_,λgo H1 s1 e he=>k.bad go H1 s1 e he⟩
  refine⟨_,rfl,_,rfl,_,_,l,ns,rfl,Da.same s1 hv,Da.same s1 hu,ok,hne,hz,T,λi d us H2 hi yv s2 nd hs2=>?_,λz H2 s2 e he=>k.many go z H2 (s1.trans s2) e he⟩
  have E2:=iN ok T hne i
  have S2:=s1.trans s2
  have kl:(((fA l ns i).zip us).map λp=>(kyI p.1.1,p.2)).length=(fA l ns i).length:=by rw[aa,cw,hs2.len];omega
  refine⟨d,_,rfl,hs2.at_,λp bs np bl be=>?_⟩
  have TL2:Aa (upd H2 p (.lst (bs.map V.ref))) p bs ((fA l ns i).map (·.1)):=by
   refine⟨fg,by rw[bl,kl,aa],λj c t hc ht=>fb np _ _ ?_⟩
   rw[ao]at ht
   cases q:(fA l ns i)[j]? with
   |none=>rw[q]at ht;cases ht
   |some e=>
    rw[q]at ht
    cases ht
    have hj:j<us.length:=by rw[hs2.len];exact(af.mp q).1
    have hz':((fA l ns i).zip us)[j]? = some (e,us[j]):=dy.mpr ⟨q,ag hj⟩
    have:=be j c (kyI e.1,us[j]) hc (by rw[ao,hz'];rfl)
    rwa [iI]at this
  have s3:=fb (o:=.lst (bs.map V.ref)) np
  have S3:=S2.trans s3
  generalize upd H2 p _=H3 at s3 S3 TL2 ⊢
  refine⟨_,rfl,b,_,rfl,.inl ⟨S3.seq hb,λt nt=>?_⟩⟩
  have s4:=fb (o:=.tup (gs.map V.int)) nt
  have ht:=fg (H:=H3) (a:=t) (o:=.tup (gs.map V.int))
  have TL4:=TL2.same s4
  have S4:=S3.trans s4
  generalize upd H3 t _=H4 at s4 ht TL4 S4 ⊢
  refine⟨_,rfl,_,rfl,_,dTu gs,TL4.da,F5 ht,ET _,C9 _,_,rfl,?_⟩
  rw[HM]
  refine gZ (λhn=>?_) (λhn=>?_)
  ·have hn:gs∉(fA l ns i).map (·.1):=by simpa using hn
   refine⟨_,rfl,p,bs,_,rfl,TL4,by rw[aa];omega,λq bs' H5 FR=>⟨by show 2<=sizeLine;decide,λr nr=>?_⟩⟩
   have s5:=fb (o:=.tup [.str "none",.ref q]) nr
   exact k.no go i hi yv hn r q bs' _ (my.post s5 (FR.pre S4)) fg (fu.free (S4.trans FR.same) nr)
  ·have hn:gs∈(fA l ns i).map (·.1):=by simpa using hn
   refine⟨_,rfl,_,rfl,v,u,l,ns,i,rfl,Da.same S4 hv,Da.same S4 hu,ok,hne,hz,T,hi,yv,λr t5 cd sd kvs cs us5 H5 he s5 ht5 N5 D5 zO=>?_⟩
   refine⟨t5,_,rfl,SqT.of ht5,rfl,_,_,rfl,_,_,rfl,rfl,?_⟩
   obtain⟨_,htr,hsh⟩:=kX ok T hne hi
   have gy:∀ t∈(fA l ns i).map (·.1),∀ m∈mvs l t,m.2∈(fA l ns i).map (·.1):=λt ht=>(hsh t ht).2
   have full:=RC.full ok (RC.of gy htr (by rw[aa];omega) r) he i
   have BN:=hX.rnd gy htr r
   have RN:=RO.rnd gy htr r
   have rl:=RN.len
   have both:∀ t∈(fA l ns i).map (·.1),∀ wd,isW wd->(t,wd)∈sts (rnd l ns r)/\valN kvs (kS (t,wd))=some (vI (cn l ns r t wd)):=λt ht wd hw=>by
    obtain⟨e,he',rfl⟩:=ai.mp ht
    obtain⟨h1,h2⟩:=full e he' wd hw
    refine⟨h1,?_⟩
    rw[zO]
    unfold cn
    obtain⟨n,hn'⟩:=cK.mp h2
    rw[hn'];rfl
   have S5:=S4.trans s5
   have TL5:=TL4.same s5
   have E8:=s5 _ _ ht
   have Dd:∀ {G:Hp}{c b:Addr}{t:List Int}{wd:Str},G c=some (.tup [.ref b,.str wd])->G b=some (.tup (t.map V.int))->jF G c (kS (t,wd)):=λ{G c b t wd} h1 h2=>⟨b,h1,by rw[show(kS (t,wd)).1=kyI t from rfl,iI];exact h2⟩
   have hWd:isW (mP l ns r gs):=by
    unfold mP
    split
    ·exact .inl rfl
    ·exact .inr rfl
   dsimp only
   refine Ew (λσ G=>σ = [some v,some u,some (.ref b),some (.ref p),some (.ref t),some (.ref cd),some (.ref sd),some (.str (mP l ns r gs)),none]/\fu H5 G) (λnx hJ=>?_) (λσ' G hj=>?_)
   ·refine⟨_,rfl,_,rfl,by show 2<=sizeLine;decide,λc1 nc1=>?_⟩
    have z1:=fb (o:=.tup [.ref t,.str "on"]) nc1
    have y1:=fg (H:=H5) (a:=c1) (o:=.tup [.ref t,.str "on"])
    generalize upd H5 c1 _=G1 at z1 y1 ⊢
    refine⟨cd,kvs,c1,kS (gs,onW),_,rfl,rfl,D5.same z1,Dd y1 (z1 _ _ E8),(both gs hn onW (.inl rfl)).2,?_⟩
    refine⟨_,rfl,_,rfl,by show 2<=sizeLine;decide,λc2' nc2=>?_⟩
    have z2:=z1.trans (fb (o:=.tup [.ref t,.str "back"]) nc2)
    have y2:=fg (H:=G1) (a:=c2') (o:=.tup [.ref t,.str "back"])
    generalize upd G1 c2' _=G2 at z2 y2 ⊢
    refine⟨cd,kvs,c2',kS (gs,ij),_,rfl,rfl,D5.same z2,Dd y2 (z2 _ _ E8),(both gs hn ij (.inr rfl)).2,?_⟩
    refine⟨_,_,rfl,rfl,_,rfl,gZ (λh=>?_) (λh=>?_)⟩
    ·have h:(cn l ns r gs onW:Int)<=(cn l ns r gs ij:Int):=by simpa using h
     refine hJ _ _ ⟨?_,z2⟩
     unfold mP
     rw[aM (by omega)]
     rfl
    ·have h:¬(cn l ns r gs onW:Int)<=(cn l ns r gs ij:Int):=by simpa using h
     refine hJ _ _ ⟨?_,z2⟩
     unfold mP
     rw[aH (by omega)]
     rfl
   ·obtain⟨rfl,z5⟩:=hj
    have TL6:=TL5.same z5
    have D6:=D5.same z5
    have N6:=N5.same z5
    have ht6:=z5 _ _ E8
    have S6:=S5.trans z5
    clear zO D5 N5 TL5 TL4 E8
    refine⟨_,rfl,p,rfl,⟨_,SqL.of TL6.at_⟩,λq nq=>?_⟩
    refine FT ((fA l ns i).map (·.1)).length (xC l ns r ((fA l ns i).map (·.1))) (uI H) (λr v=>uI.mono r v) nq (by simp[xC]) (lB (by rw[aa];omega)) (λj G' sm hj=>⟨_,(bs.map V.ref)[j]'(by rw[aa,TL6.len];exact hj),SqL.of (sm _ _ TL6.at_),ag _⟩) (λG' sm=>⟨_,SqL.of (sm _ _ TL6.at_),by rw[aa,TL6.len];exact au _⟩) ?_ ?_
    ·rintro j x rw3 G6 G7 sm ⟨acc,hq⟩ ⟨rfl,hx⟩ hr3 P1 P0 kk
     have hx:=hx _ (SqL.of (sm _ _ TL6.at_))
     unfold xC at hr3
     rw[ao]at hr3
     cases hts:((fA l ns i).map (·.1))[j]? with
     |none=>rw[hts]at hr3;cases hr3
     |some tt=>
      rw[hts]at hr3
      cases hr3
      have htm:=ax hts
      have hjb:j<bs.length:=by rw[TL6.len];exact(af.mp hts).1
      have hb0:bs[j]? = some bs[j]:=ag hjb
      generalize bs[j]=bb at hb0
      have ex:x=V.ref bb:=by rw[ao,hb0]at hx;simpa using hx.symm
      subst ex
      have hbb:=sm _ _ (TL6.each j bb tt hb0 hts)
      refine jw ?_
      refine⟨_,rfl,bb,_,rfl,.inr (SqT.of hbb),λnb nnb=>?_⟩
      have w1:=fb (o:=.lst (tt.map V.int)) nnb
      have hnb:=fg (H:=G7) (a:=nb) (o:=.lst (tt.map V.int))
      generalize upd G7 nb _=G8 at w1 hnb ⊢
      refine⟨_,rfl,_,rfl,by show 2<=sizeLine;decide,λc1 nc1=>?_⟩
      have w2:=w1.trans (fb (o:=.tup [.ref bb,.str "on"]) nc1)
      have y1:=fg (H:=G8) (a:=c1) (o:=.tup [.ref bb,.str "on"])
      have Jk:=fb (o:=.tup [.ref bb,.str "on"]) nc1 _ _ hnb
      generalize upd G8 c1 _=G9 at w2 y1 Jk ⊢
      refine⟨cd,kvs,c1,kS (tt,onW),_,rfl,rfl,D6.same (sm.trans w2),Dd y1 (w2 _ _ hbb),(both tt htm onW (.inl rfl)).2,?_⟩
      refine⟨_,rfl,_,rfl,by show 2<=sizeLine;decide,λc2' nc2=>?_⟩
      have w3:=w2.trans (fb (o:=.tup [.ref bb,.str "back"]) nc2)
      have y2:=fg (H:=G9) (a:=c2') (o:=.tup [.ref bb,.str "back"])
      have Jj:=fb (o:=.tup [.ref bb,.str "back"]) nc2 _ _ Jk
      generalize upd G9 c2' _=G10 at w3 y2 Jj ⊢
      refine⟨cd,kvs,c2',kS (tt,ij),_,rfl,rfl,D6.same (sm.trans w3),Dd y2 (w3 _ _ hbb),(both tt htm ij (.inr rfl)).2,?_⟩
      refine⟨by show 3<=sizeLine;decide,λnt nnt=>kk _ _ (w3.trans (fb nnt)) ?_⟩
      have nbq:nb≠q:=(fw hq nnb).symm
      have ntq:nt≠q:=(fw (w3 _ _ hq) nnt).symm
      exact⟨nt,nb,rfl,by rw[gO ntq,fg],by rw[gO nbq];exact fb nnt _ _ Jj,fu.free (S6.trans sm) nnb⟩
    ·intro vs8 G8 sm h8 D8
     refine⟨_,rfl,_,rfl,_,rfl,by show 2<=sizeLine;decide,λc3 nc3=>?_⟩
     have w1:=fb (o:=.tup [.ref t,.str (mP l ns r gs)]) nc3
     have y3:=fg (H:=G8) (a:=c3) (o:=.tup [.ref t,.str (mP l ns r gs)])
     generalize upd G8 c3 _=G9 at w1 y3 ⊢
     have w2:=sm.trans w1
     refine⟨sd,c3,_,cs,us5,(gs,mP l ns r gs),rfl,N6.same w2,Dd y3 (w2 _ _ ht6),(both gs hn _ hWd).1,BN,RN.nd,by rw[aa]at rl;omega,λq1 run G10 w3 nq1 ra pn=>⟨_,rfl,by show 3<=sizeLine;decide,λt9 nt9=>?_⟩⟩
     have w4:=fb (o:=.tup [.str "run",.ref q1,.ref q]) nt9
     have S8:=S6.trans w2
     have R8:rE H G9 q (xC l ns r ((fA l ns i).map (·.1))) vs8:=(rE.mk h8 (fu.free S6 nq) D8).same w1
     have hqq:q1≠q:=bF (fw R8.at_ nq1)
     exact k.yes go i hi yv hn r t9 q1 run q vs8 _ he ((S8.trans w3).trans w4) (ra.same w4) (fu.free S8 nq1) pn ((R8.same w3).same w4) hqq fg (fu.free (S8.trans w3) nt9)
end
def pV (K:PySem.W.Frag):Sp:=λvs H Q _=>∃ (r:V) (run:List (Str×Int)),vs = [r]/\Da K H (dR run) r/\run.length<=100000/\∀ H',fu H H'->Q (.int (chg (run.map (·.1)))) H'
theorem ones (xs:List Nat):(xs.map λ_=>V.int 1)=(List.replicate xs.length (1:Int)).map V.int:=by
 induction xs with
 |nil=>rfl
 |cons x r ih=>simp only[aN,aO,cz];rw[ih]
theorem xH:∀ n,(List.replicate n (1:Int)).sum=n
 | 0=>rfl
 |n+1=>by rw[cz,List.sum_cons,xH n];omega
abbrev kD:Stmt:=top 41
theorem sZ:fK ["run","words"] ["run"] (fx kD):=⟨rfl,rfl,rfl,by decide +kernel,rfl,by decide +kernel,by decide +kernel⟩
theorem nR:gH (fx kD) ["run","words"] {kind:=.function,names:=[(Str.ofString ".0",.local),(Str.ofString "word",.local),(Str.ofString "end",.local)],isGenerator:=false,isCoroutine:=false,more:=[]} ["word","end"] 2 [none,none]:=⟨rfl,by decide +kernel,by decide +kernel,by decide +kernel,rfl,by decide +kernel,rfl,by decide +kernel⟩
theorem nQ:gH (fx kD) ["run","words"] {kind:=.function,names:=[(Str.ofString ".0",.local),(Str.ofString "ahead",.local),(Str.ofString "behind",.local)],isGenerator:=false,isCoroutine:=false,more:=[]} ["ahead","behind"] 2 [none,none]:=⟨rfl,by decide +kernel,by decide +kernel,by decide +kernel,rfl,by decide +kernel,rfl,by decide +kernel⟩
section
variable {P:Program}{w:World}{K:PySem.W.Frag}{mg:Str->Option Value}{base:Heap}{f:Addr}{fd:FuncData}
theorem tT (F:Fn K mg "changes" kD ["run"] f fd)(B:Bm mg):fE P w K mg base CX0 1 f fd ["run"] (pV K):=by
 refine F.F.ok sZ (λvs H Q E h=>?_) (λcdv A outer s H vs Q E hr h=>?_)
 ·obtain⟨r,run,rfl,_⟩:=h;rfl
 ·obtain⟨r,run,rfl,hr0,hz,k⟩:=h
  obtain⟨ar,vr,rfl,har,hvr⟩:=i7.mp hr0
  have hlr:vr.length=run.length:=by have:=Dgs.length hvr;rw[aa]at this;exact this
  refine⟨_,(fj (rQ (i:=1) sZ.nd rfl rfl (gj (pv 0)) rfl nR (.tup (.cons (.name (by decide)) (.cons (.name (by decide)) .nil))) (λ_ _ _ _=>(iz (n:=2) rfl (fF (fy (i:=0) nR.nd rfl (Or.inl rfl)) (fF (fy (i:=1) nR.nd rfl (Or.inl rfl)) gS)))) (λ_ _ _ _=>iG) (λ_ _ _ _=>(pv 0)))
 (fo (fL (fN (DT rfl) rfl B.sum boot_sum (eZ (nV (CH rfl B.zip (eZ (pv 1) (eZ (m6 oX (pv 1) (o9 fk) pe) fh))) rfl nQ (.tup (.cons (.name (by decide)) (.cons (.name (by decide)) .nil))) (λ_ _ _ _=>(iz (n:=2) rfl (fF (fy (i:=0) nQ.nd rfl (Or.inl rfl)) (fF (fy (i:=1) nQ.nd rfl (Or.inl rfl)) gS)))) (λ_ _ _ _=>(lY (iu vM (pv 0) (pv 1) (kH _)))) (λ_ _ _ _=>fk)) fh))))),?_⟩
  refine⟨_,rfl,ar,rfl,⟨_,har⟩,λp np=>yr (mB har) run (λ_=>true) (λk=>V.str k.1) np hlr (lB (by omega)) ?_ ?_⟩
  ·intro i x d H' hx hd sm P1 P0 p1 p0
   obtain⟨k',hk',dk⟩:=DM hvr hx
   rw[hd]at hk';cases hk'
   obtain⟨ad,rfl,ht⟩:=HG dk
   refine⟨ad,_,rfl,gi sm ht,rfl,_,_,rfl,_,_,rfl,rfl,?_⟩
   refine B5 ?_
   exact⟨_,rfl,p1 rfl⟩
  rw[lP]
  have e1:(run.map λk=>V.str k.1)=(run.map (·.1)).map V.str:=by rw[bJ];rfl
  rw[e1]
  generalize hws:run.map (·.1)=ws at k ⊢
  have hwl:ws.length=run.length:=by rw[<-hws,aa]
  have s1:=fb (o:=.lst (ws.map V.str)) np
  have hp:=fg (H:=H) (a:=p) (o:=.lst (ws.map V.str))
  generalize upd H p _=H1 at s1 hp ⊢
  refine⟨_,rfl,_,rfl,_,rfl,p,_,rfl,SqL.of hp,λt nt=>?_⟩
  rw[DO _ (by decide)]
  have s2:=fb (o:=.lst ((ws.map V.str).drop (1:Int).toNat)) nt
  have ht:=fg (H:=H1) (a:=t) (o:=.lst ((ws.map V.str).drop (1:Int).toNat))
  have hp2:=s2 _ _ hp
  generalize upd H1 t _=H2 at s2 ht hp2 ⊢
  have gx:∀ i,i<ws.length-1->∃ x y,ws[i]? = some x/\ws[i+1]? = some y/\(ws.map V.str)[i]? = some (V.str x)/\((ws.map V.str).drop (1:Int).toNat)[i]? = some (V.str y):=λi hi=>by
   have h1:i<ws.length:=by omega
   have h2:i+1<ws.length:=by omega
   refine⟨ws[i],ws[i+1],by simp,by simp,by rw[ao,ag h1];rfl,?_⟩
   rw[cE,show(1:Int).toNat+i=i+1 by have:(1:Int).toNat=1:=rfl;omega,ao,ag h2];rfl
  refine⟨p,t,rfl,⟨_,SqL.of hp2⟩,⟨_,SqL.of ht⟩,λq nq=>wW (ws.length-1) (List.range (ws.length-1)) (chp ws) (λ_=>V.int 1) nq (by simp) (lB (by omega)) (λi H sm hi=>?_) (λH sm=>?_) ?_ ?_⟩
  ·obtain⟨x,y,_,_,g1,g2⟩:=gx i hi
   exact⟨_,_,_,_,SqL.of (sm _ _ hp2),SqL.of (sm _ _ ht),g1,g2⟩
  ·refine⟨_,_,SqL.of (sm _ _ hp2),SqL.of (sm _ _ ht),.inr ?_⟩
   rw[bS,aa]
   exact au _
  ·intro i x d H H' sm y hd P1 P0 p1 p0
   have hdi:d=i/\i<ws.length-1:=by
    have h1:=af.mp hd
    obtain⟨h2,h3⟩:=h1
    rw[List.getElem_range]at h3
    rw[cI]at h2
    exact⟨h3.symm,h2⟩
   obtain⟨rfl,hi⟩:=hdi
   obtain⟨wx,wy,w1,w2,g1,g2⟩:=gx d hi
   obtain⟨pt,npt,rfl,e⟩:=y
   have e:=e _ _ _ _ (SqL.of (sm _ _ hp2)) (SqL.of (sm _ _ ht)) g1 g2
   subst e
   have st:=fb (o:=.tup [V.str wx,V.str wy]) npt
   refine⟨pt,_,rfl,SqT.of fg,rfl,_,_,rfl,_,_,rfl,rfl,?_⟩
   have hc:chp ws d = !decide (V.str wx=V.str wy):=by
    unfold chp
    rw[w1,w2]
    congr 1
    by_cases h:wx=wy
    ·subst h;simp
    ·have h2:¬V.str wx=V.str wy:=λz=>h (V.str.inj z)
     have h3:¬some wx=some wy:=λz=>h (aU z)
     rw[bo h2,bo h3]
   refine⟨_,rfl,_,rfl,rfl,_,rfl,gZ (λh=>?_) (λh=>?_)⟩
   ·exact p1 _ (hc.trans h) st
   ·exact p0 _ (hc.trans (by simpa using h)) st
  ·intro H3 s3 hq
   rw[ones]at hq
   refine⟨q,_,rfl,SqL.of hq,?_⟩
   rw[xH]
   exact k H3 (s1.trans (s2.trans s3))
end
def xO (K:PySem.W.Frag):Sp:=λvs H Q _=>∃ (v:V) (l:Int×List (Int×Int)) (c n:Int),vs = [v,.int c,.int n]/\Da K H (dL l) v/\fG l/\0<=n/\n<=40/\
 ∀ (p:Addr) (ns:List Int) (H':Hp),fu H H'->H p=none->H' p=some (.lst (ns.map V.int))->ns≠ []->ns.length<=40->(ns.length:Int)<=max 1 n->fW l ns->Q (.ref p) H'
abbrev jT:Stmt:=top 54
theorem j7:fK ["_law_line_here","_law_cell","_law_length","_law_train_here","_law_k","_law_pieces","_law_some"] ["_law_line_here","_law_cell","_law_length"] (fx jT):=⟨rfl,rfl,rfl,by decide +kernel,rfl,by decide +kernel,by decide +kernel⟩
theorem oE:gH (fx jT) ["_law_line_here","_law_cell","_law_length","_law_train_here","_law_k","_law_pieces","_law_some"] {kind:=.function,names:=[(Str.ofString ".0",.local),(Str.ofString "_law_end",.local)],isGenerator:=false,isCoroutine:=false,more:=[]} ["_law_end"] 1 [none]:=⟨rfl,by decide +kernel,by decide +kernel,by decide +kernel,rfl,by decide +kernel,rfl,by decide +kernel⟩
theorem oD:gH (fx jT) ["_law_line_here","_law_cell","_law_length","_law_train_here","_law_k","_law_pieces","_law_some"] {kind:=.function,names:=[(Str.ofString ".0",.local),(Str.ofString "_law_end",.local),(Str.ofString "_law_pieces",.free)],isGenerator:=false,isCoroutine:=false,more:=[]} ["_law_end","_law_pieces"] 1 [none,some 5]:=⟨rfl,by decide +kernel,by decide +kernel,by decide +kernel,rfl,by decide +kernel,rfl,by decide +kernel⟩
section
variable {P:Program}{w:World}{K:PySem.W.Frag}{mg:Str->Option Value}{base:Heap}{f:Addr}{fd:FuncData}{D c1 c2 c3 c4 c5 c6 c7:Addr}
theorem wO {f2:Addr}(F:Fn K mg "_law_train" jT ["_law_line_here","_law_cell","_law_length"] f fd)(fB:Fn K mg "_law_mix" kC ["_law_cell","_law_k"] f1 fd1)(fQ:Fn K mg "_law_other" jU ["_law_end"] f2 fd2)
  (gu:Fn K mg "_law_joined" i4 ["_law_line_here","_law_end"] f3 fd3) (B:Bl mg):fE P w K mg base CX0 2 f fd ["_law_line_here","_law_cell","_law_length"] (xO K):=by
 have g9:fE P w K mg base CX0 1 f1 fd1 ["_law_cell","_law_k"] sT:=nL fB B
 have jY:fE P w K mg base CX0 1 f2 fd2 ["_law_end"] jL:=nK fQ
 have lL:fE P w K mg base CX0 1 f3 fd3 ["_law_line_here","_law_end"] (lM K):=pO gu B
 refine F.F.ok j7 (λvs H Q E h=>?_) (λcdv A outer s H vs Q E hr h=>?_)
 ·obtain⟨v,l,c,n,rfl,_⟩:=h;rfl
 ·obtain⟨v,l,c,n,rfl,hv,ok,h1,h40,k⟩:=h
  obtain⟨a,b,rfl,ht,us,hl,hq⟩:=lK hv
  have o1:=ok.one
  refine⟨_,(fj (fC (i:=3) j7.nd rfl (Or.inl rfl) (gM (eZ (fD ie (fv g9 (hr.mono (by decide)) rfl fB.m fB.F.kp fB.b .nil fJ (eZ (pv 1) (eZ fk fh))) (fD iH fk (gv iq (pv 0) fk (λ_ _=>rfl)))) fh)))
 (fj (iy aW rfl (Bw rfl B.range (eZ fk (eZ (pv 2) fh))) (fy (i:=4) j7.nd rfl (Or.inl rfl))
 (fj (fC (i:=5) j7.nd rfl (Or.inr rfl) (nV (gj (pv 3)) rfl oE (.name (by decide)) (λ_ _ _ _=>(fy (i:=0) oE.nd rfl (Or.inl rfl))) (λ_ _ _ _=>iG) (λ_ _ _ _=>(fD jm (pv 0) fk))))
 (fj (rQ (i:=6) j7.nd rfl rfl (gj (fv lL (hr.mono (by decide)) rfl gu.m gu.F.kp gu.b .nil fJ (eZ (pv 0) (eZ (fv jY (hr.mono (by decide)) rfl fQ.m fQ.F.kp fQ.b .nil fJ (eZ (gv gJ (pv 3) (tH pS fk) (λ_ _=>rfl)) fh)) fh)))) rfl oD (.name (by decide)) (λ_ _ _ _=>(fy (i:=0) oD.nd rfl (Or.inl rfl))) (λ_ _ _ _=>(lY (iu (tN (K:=K) rfl hr.units) (fD jm (pv 0) fk) (pv 1) (by with_unfolding_all rfl)))) (λ_ _ _ _=>(pv 0)))
 (fj (hZ (iu (CU hr.units) (pv 6) (gM fh) (kH _))
 (fo (fL (pv 3))) fT)
 (fo (g7 (lj aL bj bh ip (pv 3) (eZ (gv gJ (pv 6) (fD ie (fv g9 (hr.mono (by decide)) rfl fB.m fB.F.kp fB.b .nil fJ (eZ (pv 1) (eZ (pv 4) fh))) (fN gq rfl B.len cN (eZ (pv 6) fh))) (λ_ _=>rfl)) fh))))))))
 (fo (fL (pv 3))))),?_⟩
  refine⟨_,rfl,c,0,rfl,by decide,by decide,λm m0 m1=>⟨_,rfl,a,_,_,_,rfl,rfl,ht,rfl,_,_,rfl,rfl,.inl ⟨by decide,by decide⟩,_,_,rfl,rfl,(by show(0:Int)<2*l.1;omega),by show 1<=sizeLine;decide,λt nt=>?_⟩⟩
  have e0:0<=m%(2*l.1):=cx _ (by omega)
  have e1:m%(2*l.1)<2*l.1:=ck _ (by omega)
  refine⟨_,rfl,1,n,rfl,⟨by decide,by decide,by omega,by omega⟩,pC (λi σ H3=>∃ (ns:List Int) (x4 x5 x6:Option V),σ = [some (.ref a),some (.int c),some (.int n),some (.ref t),x4,x5,x6]/\fu H H3/\H3 t=some (.lst (ns.map V.int))/\ns≠ []/\ns.length=i+1/\fW l ns)
   ⟨[m%(2*l.1)],none,none,none,rfl,fb nt,fg,by simp,rfl,⟨λe he=>(by rw[aZ.mp he];exact⟨e0,e1⟩),by simp,λi x y hx hy=>by simp at hy⟩⟩ ?_ ?_⟩
  ·rintro i σ H3 hi ⟨ns,x4,x5,x6,rfl,S3,ht3,hne,nl,T⟩
   have hi':i+1<=39:=by
    have h:i<(n-1).toNat:=hi
    omega
   refine⟨_,rfl,t,rfl,⟨_,SqL.of ht3⟩,λpc npc=>lJ ns (λ_=>true) (λe=>V.int (e/2)) npc (SqL.of ht3) (by rw[aa]) (by rw[aa];exact jz (by omega)) ?_ ?_⟩
   ·intro j x d H' hx hd sm P1 P0 k1 k0
    rw[ao,hd]at hx
    cases hx
    refine jw ?_
    exact⟨_,rfl,_,_,rfl,rfl,⟨by decide,by decide⟩,k1 rfl⟩
   rw[lP]
   have e1:(ns.map λe=>V.int (e/2))=(ns.map (· / 2)).map V.int:=by rw[bJ];rfl
   rw[e1]
   have s4:fu H3 (upd H3 pc (.lst ((ns.map (· / 2)).map V.int))):=fb npc
   refine⟨_,rfl,_,rfl,_,rfl,t,_,_,_,rfl,rfl,SqL.of (s4 _ _ ht3),xq hne,_,rfl,_,l,_,rfl,Da.same (S3.trans s4) hv,ok,λp H5 s5 hp hp2=>⟨p,rfl,⟨_,SqL.of hp2⟩,λq nq=>lJ (jn l.2 (oth (ns.getLastD 0))) (λt=> !decide (t/2∈ns.map (· / 2))) (λt=>V.int t) nq (SqL.of hp2) (by rw[aa]) ?_ ?_ ?_⟩⟩
   ·rw[aa]
    refine jz ?_
    unfold jn
    rw[nF,ah]
    have:=pG ok (oth (ns.getLastD 0))
    omega
   ·intro j x d H' hx hd sm P1 P0 k1 k0
    rw[ao,hd]at hx
    cases hx
    have hD:Da K H' (.list ((ns.map (· / 2)).map .int)) (.ref pc):=Da.same (s5.trans sm) (gD fg)
    refine⟨_,rfl,_,_,rfl,rfl,⟨by decide,by decide⟩,_,rfl,_,.int (d/2),hD,gX.mpr rfl,tU _,qy _,_,rfl,?_⟩
    rw[za]
    exact gZ (λh=>⟨_,rfl,k1 h⟩) (λh=>k0 (by simpa using h))
   have efr:((jn l.2 (oth (ns.getLastD 0))).filter λt=> !decide (t/2∈ns.map (· / 2)))=fr l ns (oth (ns.getLastD 0)):=rfl
   rw[efr]
   have S6:fu H3 (upd H5 q (.lst ((fr l ns (oth (ns.getLastD 0))).map V.int))):=(s4.trans s5).trans (fb nq)
   refine⟨_,rfl,aP _,λe ne=>?_⟩
   have s7:=fb (o:=.lst []) ne
   have hq7:=s7 _ _ (fg (H:=H5) (a:=q) (o:=.lst ((fr l ns (oth (ns.getLastD 0))).map V.int)))
   refine⟨dI (fr l ns (oth (ns.getLastD 0))),.list [],gD hq7,gD (ns:=[]) fg,l0 _,EU,_,rfl,?_⟩
   have ee:PyData.eqv (dI (fr l ns (oth (ns.getLastD 0)))) (.list [])=((fr l ns (oth (ns.getLastD 0))).map PyData.int).isEmpty:=xj _
   rw[ee]
   refine gZ (λ_=>?_) (λhem=>?_)
   ·exact⟨_,rfl,k t ns _ (S3.trans (S6.trans s7)) nt (s7 _ _ (S6 _ _ ht3)) hne (by omega) (by have h:i<(n-1).toNat:=hi;omega) T⟩
   ·have Fc:0<(fr l ns (oth (ns.getLastD 0))).length:=by
     cases hh:fr l ns (oth (ns.getLastD 0))with
     |nil=>rw[hh]at hem;exact absurd rfl hem
     |cons x r=>simp
    refine⟨_,rfl,.inl ⟨rfl,_,SqL.of (s7 _ _ (S6 _ _ ht3))⟩,_,rfl,_,rfl,_,rfl,c,_,rfl,by show(0:Int)<=1+(i:Int);omega,by show 1+(i:Int)<=1000;omega,λm m0 m1=>?_⟩
    have r0:0<=m%((fr l ns (oth (ns.getLastD 0))).length:Int):=cx _ (by omega)
    have r1:m%((fr l ns (oth (ns.getLastD 0))).length:Int)<((fr l ns (oth (ns.getLastD 0))).length:Int):=ck _ (by omega)
    obtain⟨x,_,Ht,hat⟩:=xr r0 r1
    refine⟨_,rfl,q,_,rfl,.inl (SqL.of hq7),_,_,rfl,rfl,?_,q,_,_,V.int x,rfl,rfl,SqL.of hq7,?_,t,_,_,rfl,rfl,s7 _ _ (S6 _ _ ht3),?_,?_⟩
    ·show(0:Int)<(((fr l ns (oth (ns.getLastD 0))).map V.int).length:Int)
     rw[aa];omega
    ·show atI _ (m%(((fr l ns (oth (ns.getLastD 0))).map V.int).length:Int))=_
     rw[aa];exact hat
    ·rw[aa];exact jz (by omega)
    refine⟨ns ++ [x],_,_,_,rfl,fu.upd (S3.trans (S6.trans s7)) nt,?_,by simp,by rw[ah,nl];rfl,T.snoc ok hne Ht⟩
    rw[fg,aw];rfl
  rintro σ H3 ⟨ns,x4,x5,x6,rfl,S3,ht3,hne,nl,T⟩
  refine⟨_,rfl,k t ns _ S3 nt ht3 hne ?_ (by rw[nl];omega) T⟩
  have h:ns.length=(n-1).toNat+1:=nl
  omega
end
theorem Ga {n:Nat}(h:n<=16000000):n<sizeLine:=cj h (by decide)
structure sj (H:Hp)(d:Addr)(es:List Ent):Prop where
 at_:H d=some (.dT (kvR (fI es)))
variable {es:List Ent}
theorem sj.same {H':Hp}(h:sj H d es)(s:fu H H'):sj H' d es:=⟨s _ _ h.at_⟩
theorem sj.mem (h:sj H d es)(t:List Int):(lC (kvR (fI es)) (kyI t)).isSome=decide (t∈es.map (·.1)):=by
 rw[sA,<-hU]
 cases q:gY (fI es) t with
 |none=>rw[bo (tX q)];rfl
 |some n=>rw[bG (ai.mpr ⟨_,jy q,rfl⟩)];rfl
theorem sj.val (h:sj H d es){t:List Int}(ht:t∈es.map (·.1)):∃ n,gY (fI es) t=some n/\lC (kvR (fI es)) (kyI t)=some (.int n):=by
 obtain⟨n,hn⟩:=qA (rows:=fI es) (t:=t) (by rw[hU];exact ht)
 exact⟨n,hn,by rw[sA,hn];rfl⟩
theorem Bu {p b:Addr}{as:List Addr}{t t':List Int}{k:Str×Int}{n:Int}(hs:sj H d es)(ho:uX H p as es)(hb:H b=some (.lst (t'.map V.int)))(bp:b≠p)(hn:t'∉es.map (·.1))(NW:n=qW (fI es) (t',some (t,k))):
  sj (upd (upd H d (.dT (putK (kvR (fI es)) (kyI t') (.int n)))) p (.lst (as.map V.ref ++ [V.ref b]))) d (es ++ [(t',some (t,k))])/\
  uX (upd (upd H d (.dT (putK (kvR (fI es)) (kyI t') (.int n)))) p (.lst (as.map V.ref ++ [V.ref b]))) p (as ++ [b]) (es ++ [(t',some (t,k))]):=by
 have hd:=hs.at_
 have hp:=ho.at_
 have dp:d≠p:=fU hd hp (by intro z;cases z)
 have hv:lC (kvR (fI es)) (kyI t')=none:=by
  have:=hs.mem t'
  rw[bo hn]at this
  exact Option.isNone_iff_eq_none.mp (by rw[<-Option.not_isSome,this];rfl)
 have e1:putK (kvR (fI es)) (kyI t') (.int n)=kvR (fI (es ++ [(t',some (t,k))])):=by
  rw[tE _ hv,kE,NW]
  unfold kvR
  rw[aw];rfl
 have hl:∀ c xs,c≠p->H c=some (.lst xs)->upd (upd H d (.dT (putK (kvR (fI es)) (kyI t') (.int n)))) p (.lst (as.map V.ref ++ [V.ref b])) c=some (.lst xs):=λc xs cp q=>by
  rw[fm cp,fm (fU q hd (by intro z;cases z))];exact q
 refine⟨⟨by rw[fm dp,fg,e1]⟩,⟨by rw[fg,aw];rfl,by rw[ah,ah,ho.len];rfl,λi c e hc he=>?_⟩⟩
 by_cases hi:i<es.length
 ·rw[ak hi]at he
  rw[ak (by rw[ho.len];exact hi)]at hc
  obtain⟨z1,z2⟩:=ho.each i c e hc he
  exact⟨z1,hl c _ z1 z2⟩
 ·have hi2:i=es.length:=by
   have:=(af.mp he).1
   rw[ah,aA]at this
   omega
  rw[hi2,av (au _),aV]at he
  rw[hi2,<-ho.len,av (au _),aV]at hc
  cases he
  cases hc
  exact⟨bp,hl b _ bp hb⟩
def zp (K:PySem.W.Frag):Sp:=λvs H Q _=>∃ (v:V) (u:Addr) (l:Ln) (ns:List Int),vs = [v,.ref u]/\Da K H (dL l) v/\H u=some (.lst (ns.map V.int))/\fG l/\ns≠ []/\ns.length<=12/\(∀ i,(fA l ns i).length<=10616832)/\fW l ns/\
 ∀ i t p d as H',(fA l ns i).length=i->fu H H'->H' t=some (.tup [.ref p,.ref d])->uX H' p as (fA l ns i)->sj H' d (fA l ns i)->Q (.ref t) H'
def Qs (σ:L2.St)(_:Hp):Nat:=match (σ[4]? :Option (Option V))with
 |some (some (V.int i))=>(10616833-i).toNat
 |_=>0
abbrev mV:Stmt:=top 57
theorem jS:fK ["_law_line_here","_law_train_here","_law_order","_law_numbers","_law_at","_law_move","_law_behind"] ["_law_line_here","_law_train_here"] (fx mV):=⟨rfl,rfl,rfl,by decide +kernel,rfl,by decide +kernel,by decide +kernel⟩
section
variable {P:Program}{w:World}{K:PySem.W.Frag}{mg:Str->Option Value}{base:Heap}{f:Addr}{fd:FuncData}
theorem zC (F:Fn K mg "_law_web" mV ["_law_line_here","_law_train_here"] f fd)(B:Bm mg)(j4:Fn K mg "_law_moves" kY ["_law_line_here","_law_train_here"] f1 fd1)
  (oS:fE P w K mg base CX0 2 f1 fd1 ["_law_line_here","_law_train_here"] (mT K)):fE P w K mg base CX0 3 f fd ["_law_line_here","_law_train_here"] (zp K):=by
 refine F.F.ok jS (λvs H Q E h=>?_) (λcdv A outer s H vs Q E hr h=>?_)
 ·obtain⟨v,u,l,ns,rfl,_⟩:=h;rfl
 ·obtain⟨v,u,l,ns,rfl,hv,hu,ok,hne,hz,few,T,k⟩:=h
  refine⟨_,(fj (fC (i:=2) jS.nd rfl (Or.inl rfl) (gM (eZ (pv 1) fh)))
 (fj (fC (i:=3) jS.nd rfl (Or.inl rfl) (yg (nh hr) (gC g6 rfl B.tuple dW (eZ (pv 1) fh)) fk))
 (fj (fC (i:=4) jS.nd rfl (Or.inl rfl) fk)
 (fj (m3 aW (gz (tJ (pv 4) (fN gq rfl B.len cN (eZ (pv 2) fh))))
 (fj (iy aW rfl (gj (fv oS (hr.mono (by decide)) rfl j4.m j4.F.kp j4.b .nil fJ (eZ (pv 0) (eZ (gv gJ (pv 2) (pv 4) (λ_ _=>rfl)) fh)))) (iz (n:=2) rfl (fF (fy (i:=5) jS.nd rfl (Or.inl rfl)) (fF (fy (i:=6) jS.nd rfl (Or.inl rfl)) gS)))
 (fo (hZ (gz (qT (nh hr) (gC g6 rfl B.tuple dW (eZ (pv 6) fh)) (pv 3)))
 (fj (wI (nh hr) (pv 3) (gC g6 rfl B.tuple dW (eZ (pv 6) fh)) (fD ig (sx (nh hr) (pv 3) (gC g6 rfl B.tuple dW (eZ (gv gJ (pv 2) (pv 4) (λ_ _=>rfl)) fh)) (λ_ _=>rfl)) fk) rfl)
 (fo (g7 (lj aL bj bh ip (pv 2) (eZ (pv 6) fh))))) fT)))
 (fo (fC (i:=4) jS.nd rfl (Or.inl rfl) (fD ig (pv 4) fk)))))
 (fo (fL (fX (eZ (pv 2) (eZ (pv 3) fh))))))))),?_⟩
  refine⟨_,rfl,by show 1<=sizeLine;decide,λp np=>?_⟩
  have s1:=fb (o:=.lst [V.ref u]) np
  have hp1:=fg (H:=H) (a:=p) (o:=.lst [V.ref u])
  have hu1:=s1 _ _ hu
  have up:u≠p:=fw hu np
  generalize upd H p _=H1 at s1 hp1 hu1 ⊢
  refine λd nd=>⟨_,rfl,u,_,rfl,.inl ⟨SqL.of (fb nd _ _ hu1),λt0 nt0=>?_⟩⟩
  have nd0:=fu.free s1 nd
  have s2:=fb (o:=.dT []) nd
  have s3:=fb (o:=.tup (ns.map V.int)) nt0
  refine⟨_,_,t0,kyI ns,rfl,rfl,by rw[iI];exact fg,s3 _ _ fg,?_⟩
  have hp3:=s3 _ _ (s2 _ _ hp1)
  have hu3:=s3 _ _ (s2 _ _ hu1)
  have S3:=s1.trans (s2.trans s3)
  have dp:p≠d:=fw hp1 nd
  have du:u≠d:=fw hu1 nd
  have S4:fu H (upd (upd (upd H1 d (.dT [])) t0 (.tup (ns.map V.int))) d (.dT [(kyI ns,V.int 0)])):=fu.upd S3 nd0
  have hp4:(upd (upd (upd H1 d (.dT [])) t0 (.tup (ns.map V.int))) d (.dT [(kyI ns,V.int 0)])) p=some (.lst [V.ref u]):=by rw[fm dp];exact hp3
  have hu4:(upd (upd (upd H1 d (.dT [])) t0 (.tup (ns.map V.int))) d (.dT [(kyI ns,V.int 0)])) u=some (.lst (ns.map V.int)):=by rw[fm du];exact hu3
  have hd4:=fg (H:=upd (upd H1 d (.dT [])) t0 (.tup (ns.map V.int))) (a:=d) (o:=.dT [(kyI ns,V.int 0)])
  generalize upd (upd (upd H1 d (.dT [])) t0 (.tup (ns.map V.int))) d (.dT [(kyI ns,V.int 0)])=H4 at S4 hp4 hu4 hd4 ⊢
  refine oU (λσ H4=>∃ (i:Nat) (as:List Addr) (x5 x6:Option V),σ = [some v,some (.ref u),some (.ref p),some (.ref d),some (.int i),x5,x6]/\fu H H4/\sj H4 d (fA l ns i)/\uX H4 p as (fA l ns i)/\i<=(fA l ns i).length)
   Qs ⟨0,[u],none,none,rfl,S4,⟨hd4⟩,⟨hp4,rfl,λi b e hb he=>?_⟩,aP _⟩ ?_ ?_
  ·match i,hb,he with
   | 0,hb,he=>cases hb;cases he;exact⟨up,hu4⟩
  ·rintro σ H4 N1 R1 B1 kN1 _ kB1 ⟨i,as,x5,x6,rfl,S4,hs4,ho4,hi⟩
   have E4:=iN ok T hne i
   have b4:=few i
   refine⟨_,rfl,_,rfl,p,_,rfl,.inl (SqL.of ho4.at_),_,_,rfl,rfl,_,rfl,gZ (λhlt=>?_) (λhlt=>?_)⟩
   ·have hlt:(i:Int)<((as.map V.ref).length:Int):=by simpa using hlt
    rw[aa,ho4.len]at hlt
    have hi2:i<(fA l ns i).length:=by omega
    have he:(fA l ns i)[i]? = some ((fA l ns i)[i]):=by simp
    generalize (fA l ns i)[i]=e at he
    obtain⟨b,hb,bp,hbt⟩:=ho4.get he
    obtain⟨T1,T2,T3⟩:=E4.tr e (ax he)
    have em:e.1∈(fA l ns i).map (·.1):=ai.mpr ⟨e,ax he,rfl⟩
    refine⟨_,rfl,_,rfl,_,rfl,p,_,_,_,rfl,rfl,SqL.of ho4.at_,rC (v:=V.ref b) (by omega) (by rw[ao,show((i:Int)).toNat=i by omega,hb];rfl),_,_,l,e.1,rfl,Da.same S4 hv,gD hbt,ok,T3,by omega,λpm vm H6 s6 hpm yx Dm=>?_⟩
    have S6:=S4.trans s6
    have hs6:=hs4.same s6
    have ho6:=ho4.same s6
    have Dl:(mvs l e.1).length=vm.length:=by have:=Dm.length;rw[aa]at this;exact this.symm
    have pmp:pm≠p:=bF (fw ho4.at_ hpm)
    have pmd:pm≠d:=bF (fw hs4.at_ hpm)
    have b7:∀ j,(gB e.1 ((mvs l e.1).take j) (fA l ns i)).length<=10616832:=λj=>by
     have h1:=(om (t:=e.1) (mvs l e.1) (fA l ns i) j).length_le
     rw[<-mQ he]at h1
     have h2:=few (i+1)
     omega
    refine⟨pm,rfl,⟨_,SqL.of yx⟩,jf (K:=K) (a:=pm) (xs:=vm) (λj σ H7=>∃ (as':List Addr) (x5 x6:Option V),σ = [some v,some (.ref u),some (.ref p),some (.ref d),some (.int i),x5,x6]/\
      fu H H7/\fu (yz d p H6) H7/\sj H7 d (gB e.1 ((mvs l e.1).take j) (fA l ns i))/\uX H7 p as' (gB e.1 ((mvs l e.1).take j) (fA l ns i)))
     ⟨as,x5,x6,rfl,S6,λb u h=>ja (p:=d) b u (ja (p:=p) b u h),hs6,ho6⟩ (λj σ H7 _ ⟨_,_,_,_,_,sm,_⟩=>SqL.of (sm _ _ (by rw[mC pmd pmp];exact yx))) ?_ ?_⟩
    ·rintro j y σ H7 N R B kN _ hj ⟨as',y5,y6,rfl,S7,sm,hs7,ho7⟩
     obtain⟨m,ad,p1,bb,hm,rfl,ht,dm,hbb,nbb,_⟩:=AH Dm hj
     have bbp:bb≠p:=bF (fw ho4.at_ nbb)
     have bbd:bb≠d:=bF (fw hs4.at_ nbb)
     have ht7:=gi sm (uh hs6.at_ ho6.at_ ht)
     have BP:H7 bb=some (.lst (m.2.map V.int)):=sm _ _ (by rw[mC bbd bbp];exact hbb)
     have b7j:=b7 j
     refine⟨ad,_,rfl,ht7,rfl,_,_,rfl,_,_,rfl,rfl,?_⟩
     refine⟨_,rfl,bb,_,rfl,.inl ⟨SqL.of BP,λst nst=>?_⟩⟩
     have s8:=fb (o:=.tup (m.2.map V.int)) nst
     have hst:=fg (H:=H7) (a:=st) (o:=.tup (m.2.map V.int))
     have hs8:=hs7.same s8
     have ho8:=ho7.same s8
     have S8:=S7.trans s8
     have sm8:=sm.trans s8
     have Jr:=s8 _ _ BP
     generalize upd H7 st _=H8 at s8 hst hs8 ho8 S8 sm8 Jr ⊢
     refine⟨_,rfl,d,_,rfl,qL.t (k:=kyI m.2) hs8.at_ (by rw[iI];exact hst),_,rfl,?_⟩
     rw[hs8.mem m.2]
     have n8:gB e.1 ((mvs l e.1).take (j+1)) (fA l ns i)=mJ e.1 (gB e.1 ((mvs l e.1).take j) (fA l ns i)) m:=sV hm
     have pre:fA l ns i <+:gB e.1 ((mvs l e.1).take j) (fA l ns i):=oY _ _ _
     refine gZ (λhn=>?_) (λhn=>?_)
     ·have hn:m.2∉(gB e.1 ((mvs l e.1).take j) (fA l ns i)).map (·.1):=by simpa using hn
      have mS:gB e.1 ((mvs l e.1).take (j+1)) (fA l ns i)=gB e.1 ((mvs l e.1).take j) (fA l ns i) ++ [(m.2,some (e.1,m.1))]:=by
       rw[n8];unfold mJ;rw[aH hn]
      have he7:(gB e.1 ((mvs l e.1).take j) (fA l ns i))[i]? = some e:=by
       obtain⟨r,hr⟩:=pre
       rw[<-hr,ak hi2];exact he
      have em7:e.1∈(gB e.1 ((mvs l e.1).take j) (fA l ns i)).map (·.1):=ai.mpr ⟨e,ax he7,rfl⟩
      generalize gB e.1 ((mvs l e.1).take j) (fA l ns i)=es at *
      obtain⟨b2,g1,g2,g3⟩:=ho8.get he7
      refine⟨_,rfl,_,rfl,_,rfl,p,_,_,_,rfl,rfl,SqL.of ho8.at_,rC (v:=V.ref b2) (by omega) (by rw[ao,show((i:Int)).toNat=i by omega,g1];rfl),b2,_,rfl,.inl ⟨SqL.of g3,λst2 MZ=>?_⟩⟩
      have s9:=fb (o:=.tup (e.1.map V.int)) MZ
      have Jf:=fg (H:=H8) (a:=st2) (o:=.tup (e.1.map V.int))
      have hs9:=hs8.same s9
      have ho9:=ho8.same s9
      have S9:=S8.trans s9
      have sm9:=sm8.trans s9
      have Hx:=s9 _ _ Jr
      generalize upd H8 st2 _=H9 at s9 Jf hs9 ho9 S9 sm9 Hx ⊢
      obtain⟨n,hl9,hn9⟩:=hs9.val em7
      refine⟨d,.int n,rfl,by rw[<-hn9];exact qL.t (k:=kyI e.1) hs9.at_ (by rw[iI];exact Jf),_,_,rfl,rfl,_,rfl,_,rfl,bb,_,rfl,.inl ⟨SqL.of Hx,λst3 MY=>?_⟩⟩
      have s10:=fb (o:=.tup (m.2.map V.int)) MY
      have Je:=fg (H:=H9) (a:=st3) (o:=.tup (m.2.map V.int))
      have Fb:=hs9.same s10
      have Dv:=ho9.same s10
      have S10:=S9.trans s10
      have Iv:=sm9.trans s10
      have FW:=s10 _ _ Hx
      generalize upd H9 st3 _=H10 at s10 Je Fb Dv S10 Iv FW ⊢
      have dl:(kvR (fI es)).length<=10616832:=by unfold kvR;rw[aa,jB];omega
      refine⟨d,_,rfl,Ae.t (k:=kyI m.2) Fb.at_ (by rw[iI];exact Je) (Ga (by omega)),?_⟩
      obtain⟨q1,q2⟩:=Bu (t:=e.1) (k:=m.1) (n:=n+1) Fb Dv FW bbp hn (by show n+1=(gY (fI es) e.1).getD 0+1;rw[hl9];rfl)
      have pd:p≠d:=fU Dv.at_ Fb.at_ (by intro z;cases z)
      have Jg:upd H10 d (.dT (putK (kvR (fI es)) (kyI m.2) (.int (n+1)))) p=some (.lst (as'.map V.ref)):=by rw[fm pd];exact Dv.at_
      refine⟨_,rfl,.inl ⟨rfl,_,SqL.of Jg⟩,_,rfl,p,_,_,rfl,rfl,Jg,Ga (by rw[aa,Dv.len];omega),?_⟩
      exact kN _ _ ⟨as' ++ [bb],_,_,rfl,fu.upd (fu.upd S10 nd0) np,ug Iv,by rw[mS];exact q1,by rw[mS];exact q2⟩
     ·have hn:m.2∈(gB e.1 ((mvs l e.1).take j) (fA l ns i)).map (·.1):=by simpa using hn
      have rN:gB e.1 ((mvs l e.1).take (j+1)) (fA l ns i)=gB e.1 ((mvs l e.1).take j) (fA l ns i):=by
       rw[n8];unfold mJ;rw[aM hn]
      exact kN _ _ ⟨as',_,_,rfl,S8,sm8,by rw[rN];exact hs8,by rw[rN];exact ho8⟩
    ·rintro σ H7 ⟨as',y5,y6,rfl,S7,sm,hs7,ho7⟩
     rw[<-Dl,bf,<-mQ he]at hs7 ho7
     have yw:=(oV l ns i).length_le
     refine⟨_,rfl,_,_,rfl,rfl,kN1 _ _ ⟨i+1,as',_,_,rfl,S7,hs7,ho7,by omega⟩ ?_⟩
     show(10616833-((i:Int)+1)).toNat<(10616833-(i:Int)).toNat
     omega
   ·have hlt:¬(i:Int)<((as.map V.ref).length:Int):=by simpa using hlt
    rw[aa,ho4.len]at hlt
    have e1:(fA l ns i).length=i:=by omega
    refine kB1 _ _ ⟨_,rfl,_,rfl,by show 2<=sizeLine;decide,λt nt=>?_⟩
    exact k i t p d as _ e1 (S4.trans (fb nt)) fg (ho4.same (fb nt)) (hs4.same (fb nt))
  ·rintro σ H Q Q' hq ⟨x,e1,y,e2,p',ys,e3,h4,i',j',e5,e6,c,e7,q⟩
   exact⟨x,e1,y,e2,p',ys,e3,h4,i',j',e5,e6,c,e7,hq _ _ q⟩
end
structure Xm (K:PySem.W.Frag)(mg:Str->Option Value)(c3:Addr):Prop where
 rF:Xc K mg "NoMove" c3
def Ar (K:PySem.W.Frag)(C:Addr):Sp:=λvs H Q E=>∃ (v u m:V) (l:Int×List (Int×Int)) (ns:List Int) (k:Str×Int),vs = [v,u,m]/\Da K H (dL l) v/\Da K H (dI ns) u/\Da K H (dM k) m/\PyData.strOk k.1=true/\fG l/\ns≠ []/\ns.length<=900/\
 (∀ b,fnd (mvs l ns) k=some b->qJ H b Q)/\(fnd (mvs l ns) k=none->∀ H',fu H H'->∀ e,H' e=none->E (.ref C) (some e) H')
def vj (K:PySem.W.Frag)(C:Addr):Sp:=λvs H Q E=>∃ (v u r:V) (l:Ln) (ns:List Int) (run:List (Str×Int)),vs = [v,u,r]/\Da K H (dL l) v/\Da K H (dI ns) u/\Da K H (dR run) r/\(∀ k∈run,PyData.strOk k.1=true)/\fG l/\ns≠ []/\ns.length<=900/\run.length<=100000/\
 (∀ ts,wkl l ns run=some ts->DZ ns run.length ts->∀ p bs H',my H H' p bs ts->Q (.ref p) H')/\(wkl l ns run=none->∀ H',fu H H'->∀ e,H' e=none->E (.ref C) (some e) H')
theorem yt {bs:List Addr}(hl:bs.length=ts.length)(hne:ts≠ []):∃ b,bs[bs.length-1]? = some b/\ts[bs.length-1]? = some (ts.getLastD [])/\atI (bs.map V.ref) (-1)=some (V.ref b):=by
 have h1:1<=ts.length:=by cases ts with |nil=>exact absurd rfl hne |cons x r=>simp
 have h2:bs.length-1<bs.length:=by omega
 refine⟨bs[bs.length-1],ag h2,?_,?_⟩
 ·rw[bc,b9,hl,ag (by omega)];rfl
 ·exact Fx (by rw[aa,ao,ag h2];rfl)
abbrev wC:Stmt:=top 23
theorem wA:fK ["line","train","move","own","behind"] ["line","train","move"] (fx wC):=⟨rfl,rfl,rfl,by decide +kernel,rfl,by decide +kernel,by decide +kernel⟩
abbrev qo:Stmt:=top 40
theorem qQ:fK ["line","train","run","trains","move"] ["line","train","run"] (fx qo):=⟨rfl,rfl,rfl,by decide +kernel,rfl,by decide +kernel,by decide +kernel⟩
section
variable {P:Program}{w:World}{K:PySem.W.Frag}{mg:Str->Option Value}{base:Heap}{f:Addr}{fd:FuncData}{c3:Addr}
theorem ES (F:Fn K mg "done" wC ["line","train","move"] f fd)(XS:Xm K mg c3)(gG:Fn K mg "moves_of" kB ["line","train"] f1 fd1)
  (i8:fE P w K mg base CX0 3 f1 fd1 ["line","train"] (mT K)):fE P w K mg base (CXr P w base) 4 f fd ["line","train","move"] (Ar K c3):=by
 refine F.F.okX wA (λvs H Q E h=>?_) (λcdv A outer s H vs Q E hr h=>?_)
 ·obtain⟨v,u,m,l,ns,k,rfl,_⟩:=h;rfl
 ·obtain⟨v,u,m,l,ns,k,rfl,hv,hu,hm,hk,ok,hne,hz,k1,k2⟩:=h
  refine⟨_,(fj (iy dt rfl (gj (fv i8 (hr.mono (by decide)) rfl gG.m gG.F.kp gG.b .nil fJ (eZ (pv 0) (eZ (pv 1) fh)))) (iz (n:=2) rfl (fF (fy (i:=3) wA.nd rfl (Or.inl rfl)) (fF (fy (i:=4) wA.nd rfl (Or.inl rfl)) gS)))
 (fo (hZ (iu (CU hr.units) (pv 3) (pv 2) (kH _))
 (fo (fL (pv 4))) fT)))
 (fo (lh jX rfl rfl XS.rF.m XS.rF.q bH (eZ gm fh)))),?_⟩
  refine⟨_,rfl,_,rfl,v,u,l,ns,rfl,hv,hu,ok,hne,hz,λp vs H1 s1 hp hp1 D1=>?_⟩
  refine⟨p,rfl,⟨_,SqL.of hp1⟩,ni (K:=K) (a:=p) (xs:=vs) (λi σ H3=>∃ (x3 x4:Option V),σ = [some v,some u,some m,x3,x4]/\H3=H1/\∀ j,j<i->∀ n,(mvs l ns)[j]? = some n->n.1≠k)
   ⟨none,none,rfl,rfl,λj hj=>absurd hj (en j)⟩ (λi σ H3 _ ⟨_,_,_,e,_⟩=>e ▸ SqL.of hp1) ?_ ?_⟩
  ·rintro i y σ H3 hi ⟨x3,x4,rfl,rfl,no⟩
   obtain⟨n,ad,p1,b,hn,rfl,ht,dm,hb,nb,_⟩:=AH D1 hi
   refine⟨ad,_,rfl,ht,rfl,_,_,rfl,_,_,rfl,rfl,?_⟩
   refine⟨_,rfl,_,rfl,dM n.1,dM k,dm,Da.same s1 hm,FP (vi l ns n (ax hn)),FP hk,_,rfl,?_⟩
   rw[JD]
   refine gZ (λe=>?_) (λe=>?_)
   ·have e:n.1=k:=by simpa using e
    exact⟨_,rfl,k1 _ (Fj hn e no) b H3 s1 nb hb⟩
   ·have e:n.1≠k:=by simpa using e
    refine⟨_,_,rfl,rfl,λj hj n' hn'=>?_⟩
    rcases dC.mp hj with z |z
    ·exact no j z n' hn'
    ·subst z;rw[hn]at hn';cases hn';exact e
  ·rintro σ H3 ⟨x3,x4,rfl,rfl,no⟩
   have hlen:(mvs l ns).length=vs.length:=by have:=D1.length;rw[aa]at this;exact this.symm
   refine⟨by decide,λe he=>k2 (DD λj hj=>no j (by omega)) H3 s1 e he⟩
theorem Bx (F:Fn K mg "walked" qo ["line","train","run"] f fd)(B:Bm mg)(rM:Fn K mg "done" wC ["line","train","move"] f1 fd1)
  (Ad:fE P w K mg base (CXr P w base) 4 f1 fd1 ["line","train","move"] (Ar K c3)):fE P w K mg base (CXr P w base) 5 f fd ["line","train","run"] (vj K c3):=by
 refine F.F.okX qQ (λvs H Q E h=>?_) (λcdv A outer s H vs Q E hr h=>?_)
 ·obtain⟨v,u,r,l,ns,run,rfl,_⟩:=h;rfl
 ·obtain⟨v,u,r,l,ns,run,rfl,hv,hu,hr0,hk,ok,hne,hz,hzr,k1,k2⟩:=h
  obtain⟨a,rfl,ha⟩:=jq.mp hu
  obtain⟨ar,vr,rfl,har,hvr⟩:=i7.mp hr0
  have hlr:vr.length=run.length:=by have:=Dgs.length hvr;rw[aa]at this;exact this
  refine⟨_,(fj (fC (i:=3) qQ.nd rfl (Or.inl rfl) (gM (eZ (gC kn rfl B.list eU (eZ (pv 1) fh)) fh)))
 (fj (iy dt rfl (gj (pv 2)) (fy (i:=4) qQ.nd rfl (Or.inl rfl))
 (fo (g7 (lj aL bj bh ip (pv 3) (eZ (fv Ad (hr.mono (by decide)) rfl rM.m rM.F.kp rM.b .nil jE (eZ (pv 0) (eZ (gv gJ (pv 3) (tH pS fk) (λ_ _=>rfl)) (eZ (pv 4) fh)))) fh)))))
 (fo (fL (pv 3))))),?_⟩
  refine⟨_,rfl,a,_,rfl,.inl ha,λb0 nb0=>⟨by show 1<=sizeLine;decide,λp np=>?_⟩⟩
  have s1:=fb (o:=.lst (ns.map V.int)) nb0
  have s2:=fb (o:=.lst [V.ref b0]) np
  have hb0:=s2 _ _ (fg (H:=H) (a:=b0) (o:=.lst (ns.map V.int)))
  have hp:=fg (H:=upd H b0 (.lst (ns.map V.int))) (a:=p) (o:=.lst [V.ref b0])
  have np0:H p=none:=fu.free s1 np
  have hbp:b0≠p:=fw (fg (H:=H) (a:=b0) (o:=.lst (ns.map V.int))) np
  have s12:=s1.trans s2
  clear s1 s2
  generalize upd (upd H b0 _) p _=H1 at s12 hb0 hp ⊢
  refine⟨_,rfl,ar,rfl,⟨_,s12.seq har⟩,ni (K:=K) (a:=ar) (xs:=vr) (λi σ H3=>∃ (x4:Option V) (ts:List (List Int)) (bs:List Addr),σ = [some v,some (.ref a),some (.ref ar),some (.ref p),x4]/\wkl l ns (run.take i)=some ts/\DZ ns i ts/\my H H3 p bs ts)
   ⟨none,[ns],[b0],rfl,rfl,⟨rfl,λt ht=>by have e:t=ns:=(by simpa using ht);rw[e];exact⟨hne,rfl⟩⟩,⟨s12,np0,hp,rfl,λi b t hb ht=>?_,by simp⟩⟩ (λi σ H3 _ ⟨_,_,_,_,_,_,F⟩=>F.same.seq har) ?_ ?_⟩
  ·match i,hb,ht with
   | 0,hb,ht=>cases hb;cases ht;exact⟨nb0,hbp,hb0⟩
  ·rintro i y σ H3 hi ⟨x4,ts,bs,rfl,hw,wo,FR⟩
   obtain⟨k,hki,dk⟩:=DM hvr hi
   have tne:ts≠ []:=λe=>by have:=wo.len;rw[e]at this;simp at this
   obtain⟨bl,g1,g2,g3⟩:=yt FR.len tne
   obtain⟨e1,e2,e3⟩:=FR.each _ _ _ g1 g2
   obtain⟨t1,t2⟩:=wo.each _ (ax g2)
   have hil:i<run.length:=by have:=(af.mp hi).1;omega
   refine⟨_,rfl,.inl ⟨rfl,_,SqL.of FR.at_⟩,_,rfl,_,rfl,_,rfl,p,_,_,_,rfl,rfl,SqL.of FR.at_,g3,_,rfl,_,_,_,l,_,k,rfl,Da.same FR.same hv,gD e3,Da.same FR.same dk,hk k (ax hki),ok,t1,by omega,λb hb=>?_,λhno H4 s4 e he=>?_⟩
   ·intro q H4 s4 nq hq
    have hp4:=s4 _ _ FR.at_
    refine⟨p,_,_,rfl,rfl,hp4,?_,?_⟩
    ·rw[aa,FR.len,wo.len]
     show i+1<16777216
     omega
    ·have qp:q≠p:=bF (fw FR.at_ nq)
     refine⟨_,ts ++ [b],bs ++ [q],rfl,by rw[xA hki,hw];show(fnd _ _).map _=_;rw[hb];rfl,wo.snoc hb,⟨fu.upd (FR.same.trans s4) np0,np0,?_,by rw[ah,ah,FR.len];rfl,λj c t hc ht=>?_,?_⟩⟩
     ·rw[fg,aw];rfl
     ·by_cases hj:j<bs.length
      ·rw[ak hj]at hc
       rw[ak (by rw[<-FR.len];exact hj)]at ht
       obtain⟨z1,z2,z3⟩:=FR.each j c t hc ht
       exact⟨z1,z2,by rw[fm z2];exact s4 _ _ z3⟩
      ·have hj2:j=bs.length:=by
        have:=(af.mp hc).1
        rw[ah,aA]at this
        omega
       rw[hj2,av (au _),aV]at hc
       rw[hj2,FR.len,av (au _),aV]at ht
       cases hc
       cases ht
       exact⟨fu.free FR.same nq,qp,by rw[fm qp];exact hq⟩
     ·rw[bx]
      refine⟨FR.nd,by simp,λx hx y hy=>?_⟩
      have hy:y=q:=by simpa using hy
      subst hy
      obtain⟨j,hj,e⟩:=aR.mp hx
      obtain⟨_,_,z3⟩:=FR.each j x (ts[j]'(by rw[<-FR.len];exact hj)) (by rw[ag hj,e]) (ag _)
      exact fw z3 nq
   ·refine k2 (B8 (i:=i+1) ?_) H4 (FR.same.trans s4) e he
    rw[xA hki,hw]
    show(fnd _ _).map _=_
    rw[hno];rfl
  rintro σ H3 ⟨x4,ts,bs,rfl,hw,wo,FR⟩
  rw[hlr,bf]at hw
  rw[hlr]at wo
  exact⟨_,rfl,k1 ts hw wo p bs H3 FR⟩
end
structure Xp (K:PySem.W.Frag)(mg:Str->Option Value)(c:Addr):Prop where
 pI:Xc K mg "NoPiece" c
theorem Dt {n:Nat}{k:Int}(h0:0<=k)(h1:k<n):ixN n k=some k.toNat:=by
 unfold ixN
 rw[aM h0,aM h1]
def JQ (l:Ln)(H:Hp)(bs:List Addr):Prop:=∀ b∈bs,∃ t:List Int,H b=some (.lst (t.map V.int))/\t≠ []/\∀ e∈t,0<=e/\e<2*l.1
def Al (K:PySem.W.Frag):Sp:=λvs H Q _=>∃ (v:V) (p:Addr) (l:Ln) (bs:List Addr),vs = [v,.ref p]/\Da K H (dL l) v/\fG l/\H p=some (.lst (bs.map V.ref))/\JQ l H bs/\∀ v H',fu H H'->Q v H'
def xN (K:PySem.W.Frag)(c2 c5:Addr):Sp:=λvs H Q E=>∃ (v u:V) (l:Ln) (ns:List Int),vs = [v,u]/\Da K H (dL l) v/\Da K H (dI ns) u/\fG l/\ns≠ []/\ns.length<=900/\fW l ns/\zb K c2 c5 l ns (ns.reverse.map oth) H Q E
theorem zb.pre {c2 c5:Addr}{ns gs:List Int}{H2:Hp}{Q:VK}{E:XK}(s2:fu H H2)(k:zb K c2 c5 l ns gs H Q E):zb K c2 c5 l ns gs H2 Q E:=
 ⟨λz H' s=>k.bad z H' (s2.trans s),λz i H' s=>k.many z i H' (s2.trans s),λg i hi h3 hn r q bs H' F hr nr=>k.no g i hi h3 hn r q bs H' (F.pre s2) hr (fu.free s2 nr),
  λg i hi h3 hn r q1 run q2 us H' s R n1 PT RN hne hr nr=>k.yes g i hi h3 hn r q1 run q2 us H' (s2.trans s) R (fu.free s2 n1) PT (RN.pre s2) hne hr (fu.free s2 nr)⟩
theorem AB (nd:(es.map (·.1)).Nodup)(bk:nC es){t:List Int}{run:List (Str×Int)}(h:mr es t run):∀ (j:Nat) e,es[j]? = some e->e.1=t->run.length<=j:=by
 induction h with
 |nil _=>exact λj e _ _=>aP _
 |@snoc t' t k r hm _ ih=>
  intro j e he ee
  have:=Ft nd (ax he) hm ee
  subst this
  obtain⟨i,e1,hi,he1,e2⟩:=bk.back j t' t k he
  have:=ih i e1 he1 e2
  rw[ah,aA]
  omega
structure rD (K:PySem.W.Frag)(l:Ln)(n:Int)(H:Hp)(Q:VK):Prop where
 yes:∀ r q run H',fu H H'->H' r=some (.tup [.str "run",.ref q])->pR K H' q run->(∃ ws,Go l [2*n] ws [oth (2*n)]/\ws.length=run.length)->(∀ ws,Go l [2*n] ws [oth (2*n)]->run.length<=ws.length)->run.length<=300->Q (.ref r) H'
 no:(¬∃ ws,Go l [2*n] ws [oth (2*n)])->∀ r x H',fu H H'->H' r=some (.tup [.str "marking",x])->Q (.ref r) H'
def vk (K:PySem.W.Frag):Sp:=λvs H Q _=>∃ (v:V) (l:Ln) (n:Int),vs = [v,.int n]/\Da K H (dL l) v/\fG l/\0<=n/\n<l.1/\rD K l n H Q
def wg (K:PySem.W.Frag)(C:Addr):Sp:=λvs H Q E=>∃ (v u:V) (l:Ln) (ns:List Int),vs = [v,u]/\Da K H (dL l) v/\Da K H (dI ns) u/\fG l/\ns≠ []/\ns.length<=900/\fW l ns/\
 (∀ i q bs H',(fA l ns i).length=i->i<=300->my H H' q bs ((fA l ns i).map (·.1))->Q (.ref q) H')/\((∃ i,300<(fA l ns i).length)->∀ H',fu H H'->∀ e,H' e=none->E (.ref C) (some e) H')
abbrev lH:Stmt:=top 43
theorem kO:fK ["line","standings","marking","standing","end"] ["line","standings"] (fx lH):=⟨rfl,rfl,rfl,by decide +kernel,rfl,by decide +kernel,by decide +kernel⟩
abbrev wB:Stmt:=top 45
theorem Ex:fK ["line","train"] ["line","train"] (fx wB):=⟨rfl,rfl,rfl,by decide +kernel,rfl,by decide +kernel,by decide +kernel⟩
abbrev su:Stmt:=top 44
theorem xU:fK ["line","piece","told"] ["line","piece"] (fx su):=⟨rfl,rfl,rfl,by decide +kernel,rfl,by decide +kernel,by decide +kernel⟩
abbrev mY:Stmt:=top 29
theorem zr:fK ["line","train"] ["line","train"] (fx mY):=⟨rfl,rfl,rfl,by decide +kernel,rfl,by decide +kernel,by decide +kernel⟩
section
variable {P:Program}{w:World}{K:PySem.W.Frag}{mg:Str->Option Value}{base:Heap}{f:Addr}{fd:FuncData}{c2 c4 c5:Addr}
theorem uQ (F:Fn K mg "marking_by" lH ["line","standings"] f fd)(B:Bm mg)(fz:Fn K mg "other_end" iC ["end"] f1 fd1):fE P w K mg base CX0 2 f fd ["line","standings"] (Al K):=by
 have ik:fE P w K mg base CX0 1 f1 fd1 ["end"] jL:=kg fz
 refine F.F.ok kO (λvs H Q E h=>?_) (λcdv A outer s H vs Q E hr h=>?_)
 ·obtain⟨v,p,l,bs,rfl,_⟩:=h;rfl
 ·obtain⟨v,p,l,bs,rfl,hv,ok,hp,hh,k⟩:=h
  obtain⟨al,bl,rfl,hlt,us,hll,hlq⟩:=lK hv
  refine⟨_,(fj (fC (i:=2) kO.nd rfl (Or.inl rfl) (fD GK (gM (eZ fk (eZ fk fh))) (gv iq (pv 0) fk (λ_ _=>rfl))))
 (fj (iy aW rfl (gj (pv 1)) (fy (i:=3) kO.nd rfl (Or.inl rfl))
 (fj (fC (i:=4) kO.nd rfl (Or.inl rfl) (gv gJ (pv 3) fk (λ_ _=>rfl)))
 (fj (ot fk (CK (pv 2) (pv 4) set_list))
 (fo (ot fk (CK (pv 2) (fv ik (hr.mono (by decide)) rfl fz.m fz.F.kp fz.b .nil fJ (eZ (pv 4) fh)) set_list))))))
 (fo (fL (pv 2))))),?_⟩
  have l1:=ok.one
  have l40:=ok.most
  refine⟨by show 2<=sizeLine;decide,λt nt=>?_⟩
  have s1:=fb (o:=.lst [V.int 0,V.int 1]) nt
  have ht:=fg (H:=H) (a:=t) (o:=.lst [V.int 0,V.int 1])
  generalize upd H t _=H1 at s1 ht ⊢
  refine⟨_,rfl,al,_,_,_,rfl,rfl,gi s1 hlt,rfl,t,l.1,_,rfl,rfl,ht,by omega,by omega,bE (m:=80) (by show 2*l.1.toNat<=80;omega) (by decide),λq nq=>?_⟩
  have nq0:=fu.free s1 nq
  have s2:=s1.trans (fb (o:=.lst (List.replicate l.1.toNat [V.int 0,V.int 1]).flatten) nq)
  have hq:=fg (H:=H1) (a:=q) (o:=.lst (List.replicate l.1.toNat [V.int 0,V.int 1]).flatten)
  have ql:(List.replicate l.1.toNat [V.int 0,V.int 1]).flatten.length=2*l.1.toNat:=by rw[len_rep];show l.1.toNat*2=_;omega
  generalize (List.replicate l.1.toNat [V.int 0,V.int 1]).flatten=xs at s2 hq ql ⊢
  generalize upd H1 q _=H2 at s2 hq ⊢
  refine⟨_,rfl,p,rfl,⟨_,SqL.of (s2 _ _ hp)⟩,jf (K:=K) (a:=p) (xs:=bs.map V.ref) (λi σ H3=>∃ (xs:List V) (x3 x4:Option V),σ = [some (.ref al),some (.ref p),some (.ref q),x3,x4]/\fu H H3/\H3 q=some (.lst xs)/\xs.length=2*l.1.toNat)
   ⟨xs,none,none,rfl,s2,hq,ql⟩ (λi σ H3 _ ⟨_,_,_,_,S3,_⟩=>SqL.of (S3 _ _ hp)) ?_ ?_⟩
  ·rintro i y σ H3 N R B' kN _ hi ⟨xs,x3,x4,rfl,S3,hq3,ql3⟩
   rw[ao]at hi
   obtain⟨b,hb,rfl⟩:∃ b,bs[i]? = some b/\y = .ref b:=by
    cases q:bs[i]? with
    |none=>rw[q]at hi;cases hi
    |some e=>rw[q]at hi;cases hi;exact⟨e,rfl,rfl⟩
   obtain⟨tt,h1,h2,h3⟩:=hh b (ax hb)
   obtain⟨e,rt,rfl⟩:∃ e rt,tt=e::rt:=by cases tt with |nil=>exact absurd rfl h2 |cons e rt=>exact⟨e,rt,rfl⟩
   have he:=h3 e (by simp)
   have ho:0<=oth e/\oth e<2*l.1:=by unfold oth;omega
   refine⟨_,rfl,b,_,_,_,rfl,rfl,SqL.of (S3 _ _ h1),rC (v:=V.int e) (by decide) rfl,?_⟩
   refine⟨_,rfl,_,rfl,q,xs,e,_,rfl,rfl,hq3,Dt he.1 (by omega),?_⟩
   refine⟨_,rfl,_,rfl,e,rfl,q,_,_,_,rfl,rfl,fg,Dt ho.1 (by rw[ez];omega),?_⟩
   exact kN _ _ ⟨_,_,_,rfl,fu.upd (fu.upd S3 nq0) nq0,fg,by rw[ez,ez];exact ql3⟩
  ·rintro σ H3 ⟨xs,x3,x4,rfl,S3,_⟩
   exact⟨_,rfl,k _ _ S3⟩
theorem CW {f2:Addr}(F:Fn K mg "turn" wB ["line","train"] f fd)(B:Bm mg)
  (ic:Fn K mg "least" nH ["line","train","goal"] f1 fd1) (jQ:fE P w K mg base (CXr P w base) 5 f1 fd1 ["line","train","goal"] (oj K c2 c5))
  (jc:Fn K mg "turned" mU ["train"] f2 fd2) (fz:Fn K mg "other_end" iC ["end"] f3 fd3):fE P w K mg base (CXr P w base) 6 f fd ["line","train"] (xN K c2 c5):=by
 have oQ:fE P w K mg base CX0 2 f2 fd2 ["train"] (sQ K):=vN jc B.toBl fz
 refine F.F.okX Ex (λvs H Q E h=>?_) (λcdv A outer s H vs Q E hr h=>?_)
 ·obtain⟨v,u,l,ns,rfl,_⟩:=h;rfl
 ·obtain⟨v,u,l,ns,rfl,hv,hu,ok,hne,Ff,T,k⟩:=h
  refine⟨_,(fo (fL (fv jQ (hr.mono (by decide)) rfl ic.m ic.F.kp ic.b .nil jE (eZ (pv 0) (eZ (pv 1) (eZ (fv oQ (hr.mono (by decide)) rfl jc.m jc.F.kp jc.b .nil fJ (eZ (pv 1) fh)) fh)))))),?_⟩
  refine⟨_,rfl,_,rfl,_,rfl,_,ns,rfl,hu,by omega,λr H2 s2 nr hr2=>?_⟩
  exact⟨_,_,_,l,ns,_,rfl,Da.same s2 hv,Da.same s2 hu,gD hr2,ok,hne,Ff,T,by rw[aa,cA];exact Ff,k.pre s2⟩
theorem zF {f2:Addr}(F:Fn K mg "come_to" mY ["line","train"] f fd)(B:Bm mg)(fS:Fn K mg "first_steps" je ["line","train"] f1 fd1)(h7:fE P w K mg base (CXr P w base) 4 f1 fd1 ["line","train"] (qk K c5))
  (gA:Fn K mg "lists_of" jv ["standings"] f2 fd2):fE P w K mg base (CXr P w base) 5 f fd ["line","train"] (wg K c5):=by
 have mw:fE P w K mg base CX0 1 f2 fd2 ["standings"] (pU K):=rS gA B
 refine F.F.okX zr (λvs H Q E h=>?_) (λcdv A outer s H vs Q E hr h=>?_)
 ·obtain⟨v,u,l,ns,rfl,_⟩:=h;rfl
 ·obtain⟨v,u,l,ns,rfl,hv,hu,ok,hne,hz,T,k,ke⟩:=h
  refine⟨_,(fo (fL (fv mw (hr.mono (by decide)) rfl gA.m gA.F.kp gA.b .nil fJ (eZ (fv h7 (hr.mono (by decide)) rfl fS.m fS.F.kp fS.b .nil jE (eZ (pv 0) (eZ (pv 1) fh))) fh)))),?_⟩
  refine⟨_,rfl,_,rfl,_,_,l,ns,rfl,hv,hu,ok,hne,hz,T,λi d us H2 hi yv s2 nd hs2=>?_,ke⟩
  exact⟨d,_,us,rfl,hs2,by omega,λq bs H3 FR=>k i q bs H3 hi yv (FR.pre s2)⟩
theorem CY {f2:Addr}(F:Fn K mg "sides" su ["line","piece"] f fd)(B:Bm mg)(XS:Xp K mg c4)
  (rL:Fn K mg "turn" wB ["line","train"] f1 fd1) (Ab:fE P w K mg base (CXr P w base) 6 f1 fd1 ["line","train"] (xN K c2 c5))
  (jI:Fn K mg "marking_by" lH ["line","standings"] f2 fd2) (fz:Fn K mg "other_end" iC ["end"] f3 fd3):fE P w K mg base (CXr P w base) 7 f fd ["line","piece"] (vk K):=by
 have xw:fE P w K mg base CX0 2 f2 fd2 ["line","standings"] (Al K):=uQ jI B fz
 refine F.F.okX xU (λvs H Q E h=>?_) (λcdv A outer s H vs Q E hr h=>?_)
 ·obtain⟨v,l,n,rfl,_⟩:=h;rfl
 ·obtain⟨v,l,n,rfl,hv,ok,n0,n1,k⟩:=h
  obtain⟨al,bl,rfl,hlt,us,hll,hlq⟩:=lK hv
  have x0:0<=2*n/\2*n<2*l.1:=by omega
  have T:=zj (l:=l) x0
  have hne:[2*n]≠ []:=by simp
  have ho:0<=oth (2*n)/\oth (2*n)<2*l.1:=by unfold oth;omega
  have it:gOk l [2*n] [oth (2*n)]:=⟨⟨by simp,zj ho⟩,rfl⟩
  refine⟨_,(fj (hZ (PW.pt (ya (gz (tJ (pv 1) fk)) (zx (gz (FO (pv 1) (gv iq (pv 0) fk (λ_ _=>rfl)))))))
 (fo (lh jX rfl rfl XS.pI.m XS.pI.q bH (eZ gm fh))) fT)
 (fj (fC (i:=2) xU.nd rfl (Or.inl rfl) (fv Ab (hr.mono (by decide)) rfl rL.m rL.F.kp rL.b .nil jE (eZ (pv 0) (eZ (gM (eZ (fD iH fk (pv 1)) fh)) fh))))
 (fj (hZ (iu AE (gv iq (pv 2) fk (λ_ _=>rfl)) gm (kH _))
 (fo (fL (fX (eZ gm (eZ (gv iq (pv 2) fk (λ_ _=>rfl)) fh))))) fT)
 (fo (fL (fX (eZ gm (eZ (fv xw (hr.mono (by decide)) rfl jI.m jI.F.kp jI.b .nil fJ (eZ (pv 0) (eZ (gv iq (pv 2) fk (λ_ _=>rfl)) fh))) fh)))))))),?_⟩
  refine⟨_,rfl,_,_,rfl,rfl,_,rfl,gZ (λh0=>?_) (λh0=>?_)⟩
  ·have h0:n<0:=by simpa using h0
   omega
  refine⟨_,rfl,_,rfl,al,_,_,_,rfl,rfl,hlt,rfl,_,_,rfl,rfl,_,rfl,gZ (λh1=>?_) (λh1=>?_)⟩
  ·have h1:l.1<=n:=by simpa using h1
   omega
  refine⟨_,rfl,_,rfl,_,_,rfl,rfl,.inl ⟨by decide,by decide⟩,by show 1<=sizeLine;decide,λt nt=>?_⟩
  have s1:=fb (o:=.lst [V.int (2*n)]) nt
  have ht:=fg (H:=H) (a:=t) (o:=.lst [V.int (2*n)])
  generalize upd H t _=H1 at s1 ht ⊢
  refine⟨_,_,l,[2*n],rfl,Da.same s1 hv,gD (ns:=[2*n]) ht,ok,hne,by simp,T,λz=>absurd it z,λ_ ⟨i,hi⟩=>absurd (ER ok x0 i) (by omega),λ_ i hi i3 hg r q bs H2 F2 hr2 nr2=>?_,λ_ i hi i3 hg r q1 run q2 us H2 s2 R nq1 PT RN hnq hr2 nr2=>?_⟩
  ·have s2:=F2.same
   refine⟨_,rfl,r,_,_,_,rfl,rfl,SqT.of hr2,rfl,rfl,_,rfl,gZ (λh=>absurd h (by decide)) (λ_=>?_)⟩
   have hno:¬∃ ws,Go l [2*n] ws [oth (2*n)]:=λ⟨ws,g⟩=>hg (rd ok T hne hi g)
   refine⟨_,rfl,_,rfl,r,_,_,_,rfl,rfl,SqT.of hr2,rfl,_,q,l,bs,rfl,Da.same (s1.trans s2) hv,ok,F2.at_,λb hb=>?_,λx H3 s3=>⟨by show 2<=sizeLine;decide,λr4 nr4=>k.no hno r4 x _ ((s1.trans s2).trans (s3.trans (fb nr4))) fg⟩⟩
   obtain⟨j,hj,ej⟩:=aR.mp hb
   have hb0:bs[j]? = some b:=by rw[ag hj,ej]
   have hjl:j<((fA l [2*n] i).map (·.1)).length:=by rw[<-F2.len];exact hj
   have ht0:((fA l [2*n] i).map (·.1))[j]? = some (((fA l [2*n] i).map (·.1))[j]):=ag hjl
   obtain⟨e,he,ee⟩:=ai.mp (ax ht0)
   obtain⟨T1,_,n1'⟩:=(iN ok T hne i).tr e he
   refine⟨_,(F2.each j b _ hb0 ht0).2.2,by rw[<-ee];exact n1',by rw[<-ee];exact T1.ends⟩
  ·have EI:=iN ok T hne i
   have pl:=yh EI.nd (kz l [2*n] i) PT
   obtain⟨bw,WY,hbw⟩:=tK (nE l [2*n] i) PT
   have NZ:∀ ws,Go l [2*n] ws [oth (2*n)]->run.length<=ws.length:=λws g=>by
    obtain⟨m,hm,hle⟩:=ze ok T hne hi _ _ g.gd
    have pl:gY (fI (fA l [2*n] i)) [oth (2*n)]=some (run.length:Int):=pl
    rw[pl]at hm
    cases hm
    omega
   have r3:run.length<=300:=by
    obtain⟨e,he,ee⟩:=ai.mp hg
    obtain⟨j,hj,ej⟩:=aR.mp he
    have:=AB EI.nd (kz l [2*n] i) PT j e (by rw[ag hj,ej]) ee
    omega
   refine⟨_,rfl,r,_,_,_,rfl,rfl,SqT.of hr2,rfl,rfl,_,rfl,gZ (λ_=>?_) (λh=>absurd (by simp) h)⟩
   refine⟨_,rfl,r,_,_,_,rfl,rfl,SqT.of hr2,rfl,by show 2<=sizeLine;decide,λr5 nr5=>?_⟩
   exact k.yes r5 q1 run _ ((s1.trans s2).trans (fb nr5)) fg (R.same (fb nr5)) ⟨_,WY.goL hbw,by simp⟩ NZ r3
end
theorem qR {K:PySem.W.Frag}{H:Hp} :∀ {js:List (Int×Int)}{vs:List V},Das K H (js.map dP) vs->Ps K H js vs
 |[],vs,h=>by rw[List.map_nil]at h;exact gw.mpr (gw.mp h)
 |j::js,vs,h=>by
  rw[aN]at h
  obtain⟨v,r,rfl,h1,h2⟩:=fO.mp h
  refine fO.mpr ⟨v,r,rfl,?_,qR h2⟩
  unfold dP at h1 ⊢
  obtain⟨a,us,rfl,ht,q⟩:=gR.mp h1
  obtain⟨v1,r',rfl,q1,q⟩:=fO.mp q
  obtain⟨v2,r',rfl,q2,q⟩:=fO.mp q
  exact gR.mpr ⟨a,_,rfl,ht,fO.mpr ⟨_,_,rfl,gX.mpr (gX.mp q1),fO.mpr ⟨_,_,rfl,gX.mpr (gX.mp q2),gw.mpr (gw.mp q)⟩⟩⟩
def Ct:Sp:=λvs H Q _=>∃ e:Int,vs = [.int e]/\Q (.int (fe e)) H
def xQ (K:PySem.W.Frag):Sp:=λvs H Q _=>∃ (v:V) (l:Ln),vs = [v]/\Da K H (dL l) v/\0<=l.1/\l.1<=400/\l.2.length<=400/\
 ∀ (p t:Addr) (us:List V) (H':Hp),fu H H'->H p=none->H t=none->H' p=some (.tup [.int (2*l.1),.ref t])->H' t=some (.lst us)->Ps K H' (fl l).2 us->Q (.ref p) H'
def Cs (K:PySem.W.Frag):Sp:=λvs H Q _=>∃ (v:V) (ns:List Int),vs = [v]/\Da K H (dI ns) v/\ns.length<=400/\qJ H (ft ns) Q
abbrev kZ:Stmt:=top 15
theorem wz:fK ["end"] ["end"] (fx kZ):=⟨rfl,rfl,rfl,by decide +kernel,rfl,by decide +kernel,by decide +kernel⟩
abbrev o6:Stmt:=top 16
theorem oq:fK ["line","many","joints","old","new"] ["line"] (fx o6):=⟨rfl,rfl,rfl,by decide +kernel,rfl,by decide +kernel,by decide +kernel⟩
theorem p7:gH (fx o6) ["line","many","joints","old","new"] {kind:=.function,names:=[(Str.ofString ".0",.local),(Str.ofString "low",.local),(Str.ofString "high",.local),(Str.ofString "finer_end",.globalImplicit)],isGenerator:=false,isCoroutine:=false,more:=[]} ["low","high"] 2 [none,none]:=⟨rfl,by decide +kernel,by decide +kernel,by decide +kernel,rfl,by decide +kernel,rfl,by decide +kernel⟩
theorem uD:gH (fx o6) ["line","many","joints","old","new"] {kind:=.function,names:=[(Str.ofString ".0",.local),(Str.ofString "piece",.local)],isGenerator:=false,isCoroutine:=false,more:=[]} ["piece"] 1 [none]:=⟨rfl,by decide +kernel,by decide +kernel,by decide +kernel,rfl,by decide +kernel,rfl,by decide +kernel⟩
abbrev jN:Stmt:=top 17
theorem ka:fK ["train","ends","end"] ["train"] (fx jN):=⟨rfl,rfl,rfl,by decide +kernel,rfl,by decide +kernel,by decide +kernel⟩
section
variable {P:Program}{w:World}{K:PySem.W.Frag}{mg:Str->Option Value}{base:Heap}{f:Addr}{fd:FuncData}
theorem qx (F:Fn K mg "finer_end" kZ ["end"] f fd):fE P w K mg base CX0 1 f fd ["end"] Ct:=by
 refine F.F.ok wz (λvs H Q E h=>?_) (λcdv A outer s H vs Q E hr h=>?_)
 ·obtain⟨e,rfl,_⟩:=h;rfl
 ·obtain⟨e,rfl,k⟩:=h
  refine⟨_,(fo (fL (fD ig (fD iH fk (pv 0)) (fD GP (pv 0) fk)))),?_⟩
  refine⟨_,rfl,_,_,rfl,rfl,.inl ⟨by decide,by decide⟩,_,rfl,_,_,rfl,rfl,_,_,rfl,rfl,?_⟩
  show Q (.int (2*e+Builtin.bitAnd e 1)) H
  rw[Fz];exact k
theorem C8 (F:Fn K mg "finer" o6 ["line"] f fd)(B:Bm mg)(fY:Fn K mg "finer_end" kZ ["end"] f1 fd1):fE P w K mg base CX0 2 f fd ["line"] (xQ K):=by
 have lp:fE P w K mg base CX0 1 f1 fd1 ["end"] Ct:=qx fY
 refine F.F.ok oq (λvs H Q E h=>?_) (λcdv A outer s H vs Q E hr h=>?_)
 ·obtain⟨v,l,rfl,_⟩:=h;rfl
 ·obtain⟨v,⟨m,js⟩,rfl,hv,m0,m1,jl,k⟩:=h
  obtain⟨a,b,rfl,ht,us,hl,hq⟩:=lK hv
  dsimp only at ht hq m0 m1 jl k
  have hul:us.length=js.length:=by rw[Dgs.length hq,aa]
  refine⟨_,(fj (ot (pv 0) (iz (n:=2) rfl (fF (fy (i:=1) oq.nd rfl (Or.inl rfl)) (fF (fy (i:=2) oq.nd rfl (Or.inl rfl)) gS))))
 (fj (rQ (i:=3) oq.nd rfl rfl (gj (pv 2)) rfl p7 (.tup (.cons (.name (by decide)) (.cons (.name (by decide)) .nil))) (λ_ _ _ _=>(iz (n:=2) rfl (fF (fy (i:=0) p7.nd rfl (Or.inl rfl)) (fF (fy (i:=1) p7.nd rfl (Or.inl rfl)) gS)))) (λ_ _ _ _=>iG) (λ_ _ _ _=>(fX (eZ (fv lp (hr.mono (by decide)) rfl fY.m fY.F.kp fY.b .nil fJ (eZ (pv 0) fh)) (eZ (fv lp (hr.mono (by decide)) rfl fY.m fY.F.kp fY.b .nil fJ (eZ (pv 1) fh)) fh)))))
 (fj (rQ (i:=4) oq.nd rfl rfl (kF rfl B.range (eZ (pv 1) fh)) rfl uD (.name (by decide)) (λ_ _ _ _=>(fy (i:=0) uD.nd rfl (Or.inl rfl))) (λ_ _ _ _=>iG) (λ_ _ _ _=>(fX (eZ (fD ig (fD iH fk (pv 0)) fk) (eZ (fD ig (fD iH fk (pv 0)) fk) fh)))))
 (fo (fL (fX (eZ (fD iH fk (pv 1)) (eZ (fD mH (pv 3) (pv 4)) fh)))))))),?_⟩
  refine⟨_,rfl,a,_,rfl,ht,rfl,_,_,rfl,_,_,rfl,rfl,?_⟩
  refine⟨_,rfl,b,rfl,⟨us,hl⟩,λl1 n1=>AI (K:=K) us.length js (λp=>dP (fP p)) n1 hul (jz (by omega)) (λi H s hi=>(mB hl).go i H s hi) (λH s=>(mB hl).stop H s) ?_ ?_⟩
  ·intro i x d G G' sm ⟨vs',hl'⟩ y hd P1 P0 k1
   have hi:i<us.length:=by have:=(af.mp hd).1;omega
   obtain⟨rfl,hx⟩:=(mB hl).yld i G x G' sm hi y
   obtain⟨ad,p,e1,rfl,hp⟩:=nk (Das.same sm hq) hx
   rw[hd]at e1;cases e1
   refine⟨ad,_,rfl,hp,rfl,_,_,rfl,_,_,rfl,rfl,?_⟩
   refine B5 ?_
   refine⟨_,rfl,d.1,rfl,_,rfl,d.2,rfl,by show 2<=sizeLine;decide,λp1 np1=>k1 _ _ (fb np1) ?_⟩
   refine gR.mpr ⟨p1,_,rfl,SqT.of ?_,Dgs.two (gX.mpr rfl) (gX.mpr rfl)⟩
   rw[gO (bF (fw hl' np1)),fg];rfl
  intro us1 H1 s1 h1 D1
  have D1:Ps K H1 (js.map fP) us1:=qR (by rw[bJ];exact Das.same ja D1)
  clear hq
  refine⟨_,rfl,m,rfl,by omega,by omega,λl2 n2=>AI (K:=K) m.toNat (List.range m.toNat) (λi=>dP (nP i)) n2 (by simp) (jz (by omega)) (λi H s hi=>t8.go i H s hi) (λH s=>t8.stop H s) ?_ ?_⟩
  ·intro i x d G G' sm ⟨vs',hl'⟩ y hd P1 P0 k1
   have hi:i<m.toNat:=by have:=(af.mp hd).1;simpa using this
   obtain⟨rfl,rfl⟩:=t8.yld i G x G' sm hi y
   rw[List.getElem?_range hi]at hd
   cases hd
   refine jw ?_
   refine⟨_,rfl,_,_,rfl,rfl,.inl ⟨by decide,by decide⟩,_,_,rfl,rfl,_,rfl,_,_,rfl,rfl,.inl ⟨by decide,by decide⟩,_,_,rfl,rfl,by show 2<=sizeLine;decide,λp1 np1=>k1 _ _ (fb np1) ?_⟩
   refine gR.mpr ⟨p1,_,rfl,SqT.of ?_,Dgs.two (gX.mpr rfl) (gX.mpr rfl)⟩
   have e0:((0:Int)+(i:Int))=(i:Int):=by omega
   rw[gO (bF (fw hl' np1)),fg,e0];rfl
  intro us2 H2 s2 h2 D2
  have D2:Ps K H2 ((List.range m.toNat).map nP) us2:=qR (by rw[bJ];exact Das.same ja D2)
  have z1:=D1.len
  have z2:=D2.len
  rw[aa]at z1 z2
  rw[cI]at z2
  refine⟨_,rfl,_,_,rfl,rfl,.inl ⟨by decide,by decide⟩,_,rfl,_,rfl,l1,l2,_,_,rfl,rfl,s2 _ _ h1,h2,bO (jz (by omega)),λq nq=>⟨by show 2<=sizeLine;decide,λp np=>?_⟩⟩
  have u1:=fb (o:=.lst (us1++us2)) nq
  have u2:=fb (o:=.tup [.int (2*m),.ref q]) np
  refine k p q (us1++us2) _ (s1.trans (s2.trans (u1.trans u2))) (fu.free (s1.trans (s2.trans u1)) np) (fu.free (s1.trans s2) nq) fg (u2 _ _ fg) ?_
  show Dgs _ _ ((js.map fP++(List.range m.toNat).map nP).map dP) _
  rw[aw]
  exact Dgs.append (D1.same (s2.trans (u1.trans u2))) (D2.same (u1.trans u2))
theorem tR {f2:Addr}(F:Fn K mg "finer_train" jN ["train"] f fd)(fY:Fn K mg "finer_end" kZ ["end"] f1 fd1)(fz:Fn K mg "other_end" iC ["end"] f2 fd2):fE P w K mg base CX0 2 f fd ["train"] (Cs K):=by
 have lp:fE P w K mg base CX0 1 f1 fd1 ["end"] Ct:=qx fY
 have ik:fE P w K mg base CX0 1 f2 fd2 ["end"] jL:=kg fz
 refine F.F.ok ka (λvs H Q E h=>?_) (λcdv A outer s H vs Q E hr h=>?_)
 ·obtain⟨v,ns,rfl,_⟩:=h;rfl
 ·obtain⟨v,ns,rfl,hv,hz,k⟩:=h
  obtain⟨a,rfl,ha⟩:=jq.mp hv
  refine⟨_,(fj (fC (i:=1) ka.nd rfl (Or.inl rfl) (gM fh))
 (fj (iy aW rfl (gj (pv 0)) (fy (i:=2) ka.nd rfl (Or.inl rfl))
 (fo (wJ (i:=1) ka.nd rfl (Or.inl rfl) (gM (eZ (fv lp (hr.mono (by decide)) rfl fY.m fY.F.kp fY.b .nil fJ (eZ (pv 2) fh)) (eZ (fv ik (hr.mono (by decide)) rfl fz.m fz.F.kp fz.b .nil fJ (eZ (fv lp (hr.mono (by decide)) rfl fY.m fY.F.kp fY.b .nil fJ (eZ (fv ik (hr.mono (by decide)) rfl fz.m fz.F.kp fz.b .nil fJ (eZ (pv 2) fh)) fh)) fh)) fh))) E6)))
 (fo (fL (pv 1))))),?_⟩
  refine⟨aP _,λt nt=>?_⟩
  have lft:∀ ms:List Int,(ft ms).length=2*ms.length:=λms=>by
   induction ms with
   |nil=>rfl
   |cons x r ih=>unfold ft at ih ⊢;rw[cJ,ah,ih];simp;omega
  refine⟨_,rfl,a,rfl,⟨_,(fb nt).seq ha⟩,ni (K:=K) (a:=a) (xs:=ns.map V.int) (λi σ H3=>∃ (x2:Option V),σ = [some (.ref a),some (.ref t),x2]/\fu H H3/\H3 t=some (.lst ((ft (ns.take i)).map V.int)))
   ⟨none,rfl,fb nt,fg⟩ (λi σ H3 _ ⟨_,_,e,_⟩=>e.seq ha) ?_ ?_⟩
  ·rintro i y σ H3 hi ⟨x2,rfl,s3,h3⟩
   rw[ao]at hi
   obtain⟨e,he,rfl⟩:∃ e,ns[i]? = some e/\y = .int e:=by
    cases q:ns[i]? with
    |none=>rw[q]at hi;cases hi
    |some e=>rw[q]at hi;cases hi;exact⟨e,rfl,rfl⟩
   refine⟨_,rfl,_,rfl,e,rfl,_,rfl,e,rfl,oth e,rfl,fe (oth e),rfl,by show 2<=sizeLine;decide,λp np=>?_⟩
   have u:=fb (o:=.lst ([fe e,oth (fe (oth e))].map V.int)) np
   have hzz:(ft (ns.take i)).length<=800:=by
    rw[lft,bg];omega
   refine⟨t,p,_,_,rfl,rfl,u _ _ h3,fg,bO (jz (by rw[aa];show(ft (ns.take i)).length+2<=1000;omega)),?_⟩
   refine⟨_,rfl,fu.upd (s3.trans u) nt,?_⟩
   rw[fg,aQ,he]
   unfold ft
   rw[dA,aw]
   simp
  ·rintro σ H3 ⟨x2,rfl,s3,h3⟩
   rw[aa,bf]at h3
   exact⟨_,rfl,k t _ s3 nt h3⟩
end
def words:List Str:=["line","train","move","piece","many","text","row"]
def An (cs:List Addr):Sp:=λvs H Q _=>∃ (e c:Addr) (j:Nat) (x:Str),vs = [.ref e]/\H e=some (zX e c)/\cs[j]? = some c/\words[j]? = some x/\∀ H',fu H H'->Q (.str x) H'
def Ap (K:PySem.W.Frag):Sp:=λvs H Q _=>∃ (r:V) (run:List (Str×Int)),vs = [r]/\Da K H (dR run) r/\run.length<=300/\∀ q vs' H',fu H H'->H' q=some (.lst vs')->Das K H' ((uT run).map dM) vs'->Q (.ref q) H'
abbrev nJ:Stmt:=top 58
theorem oo:fK ["_law_kept_here","_law_found"] ["_law_kept_here"] (fx nJ):=⟨rfl,rfl,rfl,by decide +kernel,rfl,by decide +kernel,by decide +kernel⟩
abbrev jP:Stmt:=top 59
theorem iD:fK ["_law_run","_law_found","_law_word","_law_end","_law_first"] ["_law_run"] (fx jP):=⟨rfl,rfl,rfl,by decide +kernel,rfl,by decide +kernel,by decide +kernel⟩
section
variable {P:Program}{w:World}{K:PySem.W.Frag}{mg:Str->Option Value}{base:Heap}{f:Addr}{fd:FuncData}{D c1 c2 c3 c4 c5 c6 c7:Addr}
theorem HC (XS:Xs K mg D c1 c2 c3 c4 c5 c6 c7):∀ c∈ [c1,c2,c3,c4,c5,c6,c7],ExC K c:=λc hc=>by
 simp only[aK,cP,or_false]at hc
 rcases hc with rfl |rfl |rfl |rfl |rfl |rfl |rfl
 ·exact XS.Eb.e
 ·exact XS.jr.e
 ·exact XS.rF.e
 ·exact XS.pI.e
 ·exact XS.pH.e
 ·exact XS.D9.e
 ·exact XS.Ge.e
theorem bits {cs:List Addr}(nd:cs.Nodup){c:Addr}{j:Nat}(hj:cs[j]? = some c):cs.map (λd=>decide (c=d))=(List.range cs.length).map λi=>decide (i=j):=by
 refine List.ext_getElem? λi=>?_
 rw[ao,ao]
 by_cases hi:i<cs.length
 ·rw[List.getElem?_range hi,ag hi]
  obtain⟨hl,e⟩:=af.mp hj
  show some (decide (c=cs[i]))=some (decide (i=j))
  congr 1
  by_cases h:i=j
  ·subst h;simp[e]
  ·have:c≠cs[i]:=λz=>h ((cR nd).mp (z.symm.trans e.symm))
   simp[h,this]
 ·rw[bB (by omega),bB (by simpa using hi)];rfl
theorem bit_count:∀ j,j<7->((List.range 7).map λi=>decide (i=j)).count true=1:=by decide
theorem HK:∀ j,j<7->((List.range 7).map λi=>decide (i=j))[j]? = some true:=by decide
theorem HJ:∀ j,j<7->∀ m,m<j->((List.range 7).map λi=>decide (i=j))[m]? = some false:=by decide
theorem yk (F:Fn K mg "_law_kept" nJ ["_law_kept_here"] f fd)(XS:Xs K mg D c1 c2 c3 c4 c5 c6 c7)(B:Bl mg):fE P w K mg base CX0 1 f fd ["_law_kept_here"] (An [c1,c2,c3,c4,c5,c6,c7]):=by
 refine F.F.ok oo (λvs H Q E h=>?_) (λcdv A outer s H vs Q E hr h=>?_)
 ·obtain⟨e,c,j,x,rfl,_⟩:=h;rfl
 ·obtain⟨e,c,j,x,rfl,he,hc,hx,q⟩:=h
  have hm:c∈ [c1,c2,c3,c4,c5,c6,c7]:=ax hc
  have hj:j<7:=(af.mp hc).1
  have hE:=HC XS c hm
  have k1:=XS.eq c hm
  have hb:=bits XS.nd hc
  refine⟨_,(fj (hZ (zy (CF (fN iP rfl B.isinstance cW (eZ (pv 0) (eZ (EL (v:=.ty "ValueError") rfl XS.VE sg rfl) fh)))))
 (fo (fL gm)) fT)
 (fj (fC (i:=1) oo.nd rfl (Or.inl rfl) (gM (eZ (fN iP rfl B.isinstance cW (eZ (pv 0) (eZ (lI (v:=.ref _) rfl XS.Eb.m rfl) fh))) (eZ (fN iP rfl B.isinstance cW (eZ (pv 0) (eZ (lI (v:=.ref _) rfl XS.jr.m rfl) fh))) (eZ (fN iP rfl B.isinstance cW (eZ (pv 0) (eZ (lI (v:=.ref _) rfl XS.rF.m rfl) fh))) (eZ (fN iP rfl B.isinstance cW (eZ (pv 0) (eZ (lI (v:=.ref _) rfl XS.pI.m rfl) fh))) fh))))))
 (fj (fC (i:=1) oo.nd rfl (Or.inl rfl) (fD mH (pv 1) (gM (eZ (fN iP rfl B.isinstance cW (eZ (pv 0) (eZ (lI (v:=.ref _) rfl XS.pH.m rfl) fh))) (eZ (fN iP rfl B.isinstance cW (eZ (pv 0) (eZ (lI (v:=.ref _) rfl XS.D9.m rfl) fh))) (eZ (fN iP rfl B.isinstance cW (eZ (pv 0) (eZ (lI (v:=.ref _) rfl XS.Ge.m rfl) fh))) fh))))))
 (fj (hZ (iu vM (lj aL PySem.F.slot_list_count PySem.F.type_list_count Dk (pv 1) (eZ vK fh)) fk (kH _))
 (fo (fL gm)) fT)
 (fo (fL (gv gJ (gM (eZ gm (eZ gm (eZ gm (eZ gm (eZ gm (eZ gm (eZ gm fh)))))))) (lj aL PySem.F.slot_list_index PySem.F.type_list_index Dj (pv 1) (eZ vK fh)) (λ_ _=>rfl)))))))),?_⟩
  refine⟨_,rfl,e,c,_,_,true,rfl,he,hE,rfl,λ_ h=>h,XS.val c hm,_,rfl,?_⟩
  refine BI ?_
  refine⟨_,rfl,e,c,_,_,_,rfl,he,hE,rfl,λ_ h=>h,k1 c1 (by simp),_,rfl,e,c,_,_,_,rfl,he,hE,rfl,λ_ h=>h,k1 c2 (by simp),_,rfl,e,c,_,_,_,rfl,he,hE,rfl,λ_ h=>h,k1 c3 (by simp),
   _,rfl,e,c,_,_,_,rfl,he,hE,rfl,λ_ h=>h,k1 c4 (by simp),by show 4<=sizeLine;decide,λp1 n1=>?_⟩
  have s1:=fb (o:=.lst [.bl (decide (c=c1)),.bl (decide (c=c2)),.bl (decide (c=c3)),.bl (decide (c=c4))]) n1
  refine⟨_,rfl,_,rfl,e,c,_,_,_,rfl,s1 _ _ he,hE,rfl,λ_ h=>h,k1 c5 (by simp),_,rfl,e,c,_,_,_,rfl,s1 _ _ he,hE,rfl,λ_ h=>h,k1 c6 (by simp),_,rfl,e,c,_,_,_,rfl,s1 _ _ he,hE,rfl,λ_ h=>h,k1 c7 (by simp),
   by show 3<=sizeLine;decide,λp2 n2=>?_⟩
  have s2:=fb (o:=.lst [.bl (decide (c=c5)),.bl (decide (c=c6)),.bl (decide (c=c7))]) n2
  refine⟨p1,p2,_,_,rfl,rfl,s2 _ _ fg,fg,by show 7<=sizeLine;decide,λp3 n3=>?_⟩
  have S12:=s1.trans s2
  generalize upd (upd H p1 _) p2 _=G at n3 S12 ⊢
  have s3:=fb (o:=.lst (([c1,c2,c3,c4,c5,c6,c7].map λd=>decide (c=d)).map V.bl)) n3
  have hp3:upd G p3 (.lst (([c1,c2,c3,c4,c5,c6,c7].map λd=>decide (c=d)).map V.bl)) p3=some (.lst (((List.range 7).map λi=>decide (i=j)).map V.bl)):=by
   rw[fg,hb];rfl
  have S:=S12.trans s3
  refine⟨_,rfl,.inl ⟨rfl,_,SqL.of hp3⟩,p3,_,true,rfl,rfl,hp3,rfl,_,rfl,gZ (λz=>?_) (λ_=>?_)⟩
  ·have Oc:=bit_count j hj
   exact absurd z (by
    show ¬((!decide (V.int (((((List.range 7).map λi=>decide (i=j)).count true:Nat)):Int)=V.int 1))=true)
    rw[Oc];simp)
  refine⟨by show 7<=sizeLine;decide,λp4 n4=>?_⟩
  have s4:=fb (o:=.lst [.str "line",.str "train",.str "move",.str "piece",.str "many",.str "text",.str "row"]) n4
  refine⟨_,rfl,.inl ⟨rfl,_,SqL.of (s4 _ _ hp3)⟩,p3,_,true,j,rfl,rfl,s4 _ _ hp3,HK j hj,HJ j hj,?_⟩
  refine⟨p4,_,_,_,rfl,rfl,SqL.of fg,?_,q _ (S.trans s4)⟩
  have e:[V.str "line",.str "train",.str "move",.str "piece",.str "many",.str "text",.str "row"][j]? = some (V.str x):=by
   have e:[V.str "line",.str "train",.str "move",.str "piece",.str "many",.str "text",.str "row"]=words.map V.str:=rfl
   rw[e,ao,hx];rfl
  exact ko e
theorem HA (e:Int):4*(e/2)+3*(e%2)=fe e:=by unfold fe;omega
theorem qV (F:Fn K mg "_law_finer_run" jP ["_law_run"] f fd)(B:Bm mg):fE P w K mg base CX0 1 f fd ["_law_run"] (Ap K):=by
 refine F.F.ok iD (λvs H Q E h=>?_) (λcdv A outer s H vs Q E hr h=>?_)
 ·obtain⟨r,run,rfl,_⟩:=h;rfl
 ·obtain⟨r,run,rfl,hd,r3,k⟩:=h
  obtain⟨a,us,rfl,hu,D⟩:=i7.mp hd
  have ul:us.length=run.length:=by have:=Dgs.length D;rwa [aa]at this
  refine⟨_,(fj (fC (i:=1) iD.nd rfl (Or.inl rfl) (gM fh))
 (fj (iy aW rfl (gj (pv 0)) (iz (n:=2) rfl (fF (fy (i:=2) iD.nd rfl (Or.inl rfl)) (fF (fy (i:=3) iD.nd rfl (Or.inl rfl)) gS)))
 (fj (fC (i:=4) iD.nd rfl (Or.inl rfl) (fD ig (fD iH fk (fD jm (pv 3) fk)) (fD iH fk (fD ie (pv 3) fk))))
 (fo (fC (i:=1) iD.nd rfl (Or.inl rfl) (fD mH (pv 1) (gM (eZ (fX (eZ (pv 2) (eZ (pv 4) fh))) (eZ (fX (eZ (pv 2) (eZ (gv gJ (gM (eZ (fD ig (pv 4) fk) (eZ (fD zA (pv 4) fk) fh))) (fD ie (pv 3) fk) (λ_ _=>rfl)) fh))) fh))))))))
 (fo (fL (pv 1))))),?_⟩
  refine⟨aP _,λq nq=>?_⟩
  have s1:=fb (o:=.lst []) nq
  have hq:=fg (H:=H) (a:=q) (o:=.lst [])
  generalize upd H q _=H1 at s1 hq ⊢
  refine⟨_,rfl,a,rfl,⟨_,s1.seq hu⟩,jf (K:=K) (a:=a) (xs:=us) (λi σ G=>∃ (q:Addr) (vs:List V) (x2 x3 x4:Option V),σ = [some (.ref a),some (.ref q),x2,x3,x4]/\fu H G/\G q=some (.lst vs)/\Das K G ((uT (run.take i)).map dM) vs/\vs.length=2*i)
   ⟨q,[],none,none,none,rfl,s1,hq,gw.mpr rfl,rfl⟩ (λi σ G _ ⟨_,_,_,_,_,_,s,_⟩=>s.seq hu) ?_ ?_⟩
  ·rintro i y σ G N R Bq kN _ hi ⟨q,vs,x2,x3,x4,rfl,S,hq,DV,vl⟩
   have il:i<run.length:=by rw[<-ul];exact(af.mp hi).1
   obtain⟨d,h1,h2⟩:=Dgs.get D hi
   have hk:run[i]? = some run[i]:=ag il
   rw[ao,hk]at h1
   have h1:dM run[i]=d:=by simpa using h1
   subst h1
   have tk:run.take (i+1)=run.take i ++ [run[i]]:=by rw[aQ,hk];rfl
   generalize run[i]=kk at hk h2 tk
   obtain⟨ad,xs,rfl,ht,hx⟩:=gR.mp h2
   obtain⟨v1,r1,rfl,e1,hx⟩:=fO.mp hx
   obtain⟨v2,r2,rfl,e2,hx⟩:=fO.mp hx
   have hx:=gw.mp hx
   subst hx
   have e1:=rm.mp e1
   have e2:=gX.mp e2
   subst e1 e2
   refine⟨ad,_,rfl,gi S ht,rfl,_,_,rfl,_,_,rfl,rfl,?_⟩
   refine⟨_,rfl,_,_,rfl,rfl,⟨by decide,by decide⟩,_,_,rfl,rfl,.inl ⟨by decide,by decide⟩,_,rfl,_,_,rfl,rfl,(by show(0:Int)<2;decide),_,_,rfl,rfl,.inl ⟨by decide,by decide⟩,_,_,rfl,rfl,?_⟩
   dsimp only[oC]
   rw[HA]
   refine⟨_,rfl,_,rfl,_,rfl,by show 2<=sizeLine;decide,λp1 n1=>?_⟩
   have u1:=fb (o:=.tup [.str kk.1,.int (fe kk.2)]) n1
   have g1:=fg (H:=G) (a:=p1) (o:=.tup [.str kk.1,.int (fe kk.2)])
   generalize upd G p1 _=G1 at u1 g1 ⊢
   refine⟨_,rfl,_,rfl,_,_,rfl,rfl,_,rfl,_,_,rfl,rfl,by show 2<=sizeLine;decide,λp2 n2=>?_⟩
   have u2:=fb (o:=.lst [.int (fe kk.2+2),.int (fe kk.2-2)]) n2
   have g2:=fg (H:=G1) (a:=p2) (o:=.lst [.int (fe kk.2+2),.int (fe kk.2-2)])
   have ix:atI [V.int (fe kk.2+2),.int (fe kk.2-2)] (kk.2%2)=some (V.int (f2 kk.2)):=by
    have fc:=km kk.2
    have e2:f2 kk.2=oth (fe (oth kk.2)):=rfl
    rcases fc with⟨c0,c1,c2,c3⟩|⟨c0,c1,c2,c3⟩
    ·rw[show kk.2%2=((0:Nat):Int) by omega,show fe kk.2+2=f2 kk.2 by omega]
     exact ko (j:=0) rfl
    ·rw[show kk.2%2=((1:Nat):Int) by omega,show fe kk.2-2=f2 kk.2 by omega]
     exact ko (j:=1) rfl
   generalize upd G1 p2 _=G2 at u2 g2 ⊢
   refine⟨_,rfl,_,_,rfl,rfl,(by show(0:Int)<2;decide),p2,_,_,V.int (f2 kk.2),rfl,rfl,SqL.of g2,ix,by show 2<=sizeLine;decide,λp3 n3=>⟨by show 2<=sizeLine;decide,λp4 n4=>?_⟩⟩
   have u3:=fb (o:=.tup [.str kk.1,.int (f2 kk.2)]) n3
   have g3:=fg (H:=G2) (a:=p3) (o:=.tup [.str kk.1,.int (f2 kk.2)])
   generalize upd G2 p3 _=G3 at u3 g3 n4 ⊢
   have u4:=fb (o:=.lst [.ref p1,.ref p3]) n4
   have g4:=fg (H:=G3) (a:=p4) (o:=.lst [.ref p1,.ref p3])
   generalize upd G3 p4 _=G4 at u4 g4 ⊢
   have U:=u1.trans (u2.trans (u3.trans u4))
   refine⟨q,p4,vs,_,rfl,rfl,U _ _ hq,g4,bO (jz (by show vs.length+2<=1000;omega)),λp5 n5=>?_⟩
   have u5:=fb (o:=.lst (vs ++ [.ref p1,.ref p3])) n5
   refine kN _ _ ⟨p5,vs ++ [.ref p1,.ref p3],_,_,_,rfl,S.trans (U.trans u5),fg,?_,by rw[ah,vl];rfl⟩
   have ef:uT (run.take (i+1))=uT (run.take i) ++ [(kk.1,fe kk.2),(kk.1,f2 kk.2)]:=by rw[tk];unfold uT;rw[dA];rfl
   rw[ef,aw]
   have V1:=u2.trans (u3.trans (u4.trans u5))
   refine Dgs.append (Das.same (U.trans u5) DV) (fO.mpr ⟨_,_,rfl,gR.mpr ⟨p1,_,rfl,SqT.of (V1 _ _ g1),Dgs.two (rm.mpr rfl) (gX.mpr rfl)⟩,fO.mpr ⟨_,_,rfl,gR.mpr ⟨p3,_,rfl,SqT.of ((u4.trans u5) _ _ g3),Dgs.two (rm.mpr rfl) (gX.mpr rfl)⟩,gw.mpr rfl⟩⟩)
  ·rintro σ G ⟨q,vs,x2,x3,x4,rfl,S,hq,DV,vl⟩
   rw[ul,bf]at DV
   exact⟨_,rfl,k q vs G S hq DV⟩
end
def sS (K:PySem.W.Frag):Sp:=λvs H Q _=>∃ (v u g:V) (l:Ln) (ns gs:List Int) (k:Int),vs = [v,u,g,.int k]/\Da K H (dL l) v/\Da K H (dI ns) u/\Da K H (dI gs) g/\fG l/\ns≠ []/\ns.length<=900/\fW l ns/\gOk l ns gs/\(∃ i,300<(fA l ns i).length)/\0<=k/\k<=2/\∀ H',fu H H'->Q (.bl true) H'
abbrev kQ:Stmt:=top 60
theorem j8:fK ["_law_line_here","_law_train_here","_law_goal","_law_ask","_law_kept_here","e"] ["_law_line_here","_law_train_here","_law_goal","_law_ask"] (fx kQ):=⟨rfl,rfl,rfl,by decide +kernel,rfl,by decide +kernel,by decide +kernel⟩
section
variable {P:Program}{w:World}{K:PySem.W.Frag}{mg:Str->Option Value}{base:Heap}{f:Addr}{fd:FuncData}{D c1 c2 c3 c4 c5 c6 c7:Addr}
theorem tP {f2:Addr}(F:Fn K mg "_law_refused" kQ ["_law_line_here","_law_train_here","_law_goal","_law_ask"] f fd)(XS:Xs K mg D c1 c2 c3 c4 c5 c6 c7)(B:Bm mg)
  (ic:Fn K mg "least" nH ["line","train","goal"] f1 fd1) (jQ:fE P w K mg base (CXr P w base) 5 f1 fd1 ["line","train","goal"] (oj K c2 c5))
  (ir:Fn K mg "fewest" lX ["line","train","goal"] f2 fd2) (ku:fE P w K mg base (CXr P w base) 6 f2 fd2 ["line","train","goal"] (oW K c2 c5))
  (iW:Fn K mg "come_to" mY ["line","train"] f3 fd3) (lR:fE P w K mg base (CXr P w base) 5 f3 fd3 ["line","train"] (wg K c5))
  (kL:Fn K mg "_law_kept" nJ ["_law_kept_here"] f4 fd4):fE P w K mg base CX0 7 f fd ["_law_line_here","_law_train_here","_law_goal","_law_ask"] (sS K):=by
 have Ac:fE P w K mg base CX0 1 f4 fd4 ["_law_kept_here"] (An [c1,c2,c3,c4,c5,c6,c7]):=yk kL XS B.toBl
 refine F.F.ok j8 (λvs H Q E h=>?_) (λcdv A outer s H vs Q E hr h=>?_)
 ·obtain⟨v,u,g,l,ns,gs,k,rfl,_⟩:=h;rfl
 ·obtain⟨v,u,g,l,ns,gs,k,rfl,hv,hu,hg,ok,hne,hz,T,go,⟨j,hj⟩,k0,k2,kq⟩:=h
  have no:∀ i,(fA l ns i).length=i->i<=300->False:=λi hi i3=>by have:=zd hi j;omega
  have gl:gs.length<=900:=by have:=go.2;omega
  have fin:∀ H',fu H H'->rEq (.str "many") (.str "many") H' Q:=λH' s'=>by
   refine⟨rfl,?_⟩
   have e:decide (V.str (Str.ofString "many")=V.str (Str.ofString "many"))=true:=by simp
   exact e ▸ kq H' s'
  refine⟨_,(fj (fC (i:=4) j8.nd rfl (Or.inl rfl) wK)
 (fj (Gz (j:=5) rfl rfl rfl j8.nd rfl rfl rfl XS.B4.m (λpn W E hW=>(fj (hZ (gz (lZ (pv 3) fk))
 (fo (g7 (tI jQ (hr.mono (by decide)) rfl ic.m ic.F.kp ic.b .nil hW (eZ (pv 0) (eZ (pv 1) (eZ (pv 2) fh)))))) fT)
 (fj (hZ (gz (lZ (pv 3) fk))
 (fo (g7 (tI ku (hr.mono (by decide)) rfl ir.m ir.F.kp ir.b .nil hW (eZ (pv 0) (eZ (pv 1) (eZ (pv 2) fh)))))) fT)
 (fo (hZ (gz (lZ (pv 3) fk))
 (fo (g7 (tI lR (hr.mono (by decide)) rfl iW.m iW.F.kp iW.b .nil hW (eZ (pv 0) (eZ (pv 1) fh))))) fT))))) (λe=>(fo (fC (i:=4) j8.nd rfl (Or.inl rfl) (pv 5)))))
 (fo (fL (GH (GG (qt (pv 4))) (GF (wL AE (fv Ac (hr.mono (by decide)) rfl kL.m kL.F.kp kL.b .nil fJ (eZ (pv 4) fh)) gm (kH _)))))))),?_⟩
  refine⟨_,rfl,_,_,rfl,rfl,_,rfl,gZ (λc=>?_) (λc=>?_)⟩
  ·refine⟨_,rfl,_,rfl,_,rfl,_,_,_,l,ns,gs,rfl,hv,hu,hg,ok,hne,hz,T,gl,λz=>absurd go z,λ_ _ H' s' e he=>?_,λ_ i hi i3=>(no i hi i3).elim,λ_ i hi i3=>(no i hi i3).elim⟩
   refine⟨e,c5,rfl,rfl,XS.cat c5 (by simp),?_⟩
   refine⟨_,rfl,?_⟩
   refine⟨_,rfl,_,rfl,yu ?_⟩
   refine⟨_,rfl,e,c5,4,_,rfl,fg,rfl,rfl,λH2 s2=>?_⟩
   exact fin _ (s'.trans ((fb he).trans s2))
  refine⟨_,rfl,_,_,rfl,rfl,_,rfl,gZ (λc=>?_) (λc=>?_)⟩
  ·refine⟨_,rfl,_,rfl,_,rfl,_,_,_,l,ns,gs,rfl,hv,hu,hg,ok,hne,hz,T,gl,λz=>absurd go z,λ_ _ H' s' e he=>?_,λ_ i hi i3=>(no i hi i3).elim,λ_ i hi i3=>(no i hi i3).elim⟩
   refine⟨e,c5,rfl,rfl,XS.cat c5 (by simp),?_⟩
   refine⟨_,rfl,?_⟩
   refine⟨_,rfl,_,rfl,yu ?_⟩
   refine⟨_,rfl,e,c5,4,_,rfl,fg,rfl,rfl,λH2 s2=>?_⟩
   exact fin _ (s'.trans ((fb he).trans s2))
  refine⟨_,rfl,_,_,rfl,rfl,_,rfl,gZ (λc=>?_) (λc=>?_)⟩
  ·refine⟨_,rfl,_,rfl,_,_,l,ns,rfl,hv,hu,ok,hne,hz,T,λi q bs H' hi i3=>(no i hi i3).elim,λ_ H' s' e he=>?_⟩
   refine⟨e,c5,rfl,rfl,XS.cat c5 (by simp),?_⟩
   refine⟨_,rfl,?_⟩
   refine⟨_,rfl,_,rfl,yu ?_⟩
   refine⟨_,rfl,e,c5,4,_,rfl,fg,rfl,rfl,λH2 s2=>?_⟩
   exact fin _ (s'.trans ((fb he).trans s2))
  ·rename_i a1 a2
   have a1:¬k=0:=by simpa using a1
   have a2:¬k=1:=by simpa using a2
   have c:¬k=2:=by simpa using c
   omega
end
theorem F7 {tr:List Int}{r i:Nat}(ok:fG l)(T:fW l tr)(hne:tr≠ [])(hi:(fA l tr i).length=i)(i3:i<=300)(he:(rnd l tr r).2 = []){t:List Int}(ht:t∈(fA l tr i).map (·.1)){w:Str}(hw:isW w):cnt l tr r (t,w)=some (cn l tr r t w):=by
 obtain⟨_,htr,hsh⟩:=kX ok T hne hi
 obtain⟨e,he',rfl⟩:=ai.mp ht
 obtain⟨_,h2⟩:=RC.full ok (RC.of (λt ht=>(hsh t ht).2) htr (by rw[aa];omega) r) he i e he' w hw
 obtain⟨n,hn⟩:=cK.mp h2
 unfold cn
 rw[hn];rfl
theorem xy {tr:List Int}{r i:Nat}(ok:fG l)(T:fW l tr)(hne:tr≠ [])(hi:(fA l tr i).length=i)(i3:i<=300)(he:(rnd l tr r).2 = []){t:List Int}(ht:t∈(fA l tr i).map (·.1)):isW (mP l tr r t)/\∃ a b,cnt l tr r (t,mP l tr r t)=some a/\cnt l tr r (t,ow (mP l tr r t))=some b/\a<=b:=by
 have c1:=F7 ok T hne hi i3 he ht (w:=onW) (.inl rfl)
 have c2:=F7 ok T hne hi i3 he ht (w:=ij) (.inr rfl)
 have hnb:¬Str.ofString "back" = Str.ofString "on" :=by decide +kernel
 have o1:ow onW=ij:=by unfold ow onW ij;rw[aM rfl]
 have o2:ow ij=onW:=by unfold ow onW ij;rw[aH hnb]
 unfold mP
 by_cases z:cn l tr r t onW<=cn l tr r t ij
 ·rw[aM z,o1]
  exact⟨.inl rfl,_,_,c1,c2,z⟩
 ·rw[aH z,o2]
  exact⟨.inr rfl,_,_,c2,c1,by omega⟩
theorem uy {K:PySem.W.Frag}{H:Hp} :∀ {as:List Addr}{ts:List (List Int)},as.length=ts.length->(∀ (i:Nat) a t,as[i]? = some a->ts[i]? = some t->H a=some (.lst (t.map V.int)))->Das K H (ts.map dI) (as.map V.ref)
 |[],[],_,_=>gw.mpr rfl
 |a::as,t::ts,hl,h=>fO.mpr ⟨_,_,rfl,gD (h 0 a t rfl rfl),uy (by simpa using hl) λi b u h1 h2=>h (i+1) b u h1 h2⟩
 |[],_::_,hl,_=>by simp at hl
 |_::_,[],hl,_=>by simp at hl
def xR (K:PySem.W.Frag):Sp:=λvs H Q _=>∃ (v g:V) (ua b o:Addr) (l:Ln) (ns gs:List Int) (n c:Nat) (as:List Addr) (ts:List (List Int)),vs = [v,.ref ua,g,.ref b,.ref o]/\Da K H (dL (fl l)) v/\H ua=some (.lst ((ft ns).map V.int))/\Da K H (dI (ft gs)) g/\SqL K H b [.int ((2*n:Nat):Int),.int (c:Int)]/\
 SqL K H o (as.map V.ref)/\as.length=ts.length/\(∀ (i:Nat) a t,as[i]? = some a->ts[i]? = some t->H a=some (.lst (t.map V.int))/\Rch l ns t)/\as.length<=300/\hG l/\fW l ns/\ns≠ []/\ns.length<=6/\zc l ns gs n c/\∀ H',Q (.bl true) H'
abbrev jV:Stmt:=top 61
theorem lF:fK ["_law_line_here","_law_train_here","_law_goal","_law_bounds","_law_order","_law_found","_law_some","_law_web_here"] ["_law_line_here","_law_train_here","_law_goal","_law_bounds","_law_order"] (fx jV):=⟨rfl,rfl,rfl,by decide +kernel,rfl,by decide +kernel,by decide +kernel⟩
theorem oH:gH (fx jV) ["_law_line_here","_law_train_here","_law_goal","_law_bounds","_law_order","_law_found","_law_some","_law_web_here"] {kind:=.function,names:=[(Str.ofString ".0",.local),(Str.ofString "_law_ask",.local),(Str.ofString "_law_refused",.globalImplicit),(Str.ofString "_law_goal",.free),(Str.ofString "_law_line_here",.free),(Str.ofString "_law_train_here",.free)],isGenerator:=false,isCoroutine:=false,more:=[]} ["_law_ask","_law_goal","_law_line_here","_law_train_here"] 1 [none,some 2,some 0,some 1]:=⟨rfl,by decide +kernel,by decide +kernel,by decide +kernel,rfl,by decide +kernel,rfl,by decide +kernel⟩
theorem oG:gH (fx jV) ["_law_line_here","_law_train_here","_law_goal","_law_bounds","_law_order","_law_found","_law_some","_law_web_here"] {kind:=.function,names:=[(Str.ofString ".0",.local),(Str.ofString "_law_standing",.local),(Str.ofString "finer_train",.globalImplicit),(Str.ofString "_law_web_here",.free)],isGenerator:=false,isCoroutine:=false,more:=[]} ["_law_standing","_law_web_here"] 1 [none,some 7]:=⟨rfl,by decide +kernel,by decide +kernel,by decide +kernel,rfl,by decide +kernel,rfl,by decide +kernel⟩
section
variable {P:Program}{w:World}{K:PySem.W.Frag}{mg:Str->Option Value}{base:Heap}{f:Addr}{fd:FuncData}{c2 c5:Addr}
theorem wR {f2 f6 f7:Addr}{fd6 fd7:FuncData}(F:Fn K mg "_law_fewer" jV ["_law_line_here","_law_train_here","_law_goal","_law_bounds","_law_order"] f fd)(B:Bm mg)
  (iV:Fn K mg "_law_web" mV ["_law_line_here","_law_train_here"] f1 fd1) (lQ:fE P w K mg base CX0 3 f1 fd1 ["_law_line_here","_law_train_here"] (zp K))
  (jh:Fn K mg "_law_refused" kQ ["_law_line_here","_law_train_here","_law_goal","_law_ask"] f2 fd2) (mM:fE P w K mg base CX0 7 f2 fd2 ["_law_line_here","_law_train_here","_law_goal","_law_ask"] (sS K))
  (ic:Fn K mg "least" nH ["line","train","goal"] f3 fd3) (jQ:fE P w K mg base (CXr P w base) 5 f3 fd3 ["line","train","goal"] (oj K c2 c5))
  (ir:Fn K mg "fewest" lX ["line","train","goal"] f4 fd4) (ku:fE P w K mg base (CXr P w base) 6 f4 fd4 ["line","train","goal"] (oW K c2 c5))
  (iM:Fn K mg "changes" kD ["run"] f5 fd5)
  (iW:Fn K mg "come_to" mY ["line","train"] f6 fd6) (lR:fE P w K mg base (CXr P w base) 5 f6 fd6 ["line","train"] (wg K c5))
  (fM:Fn K mg "finer_train" jN ["train"] f7 fd7) (h9:fE P w K mg base CX0 2 f7 fd7 ["train"] (Cs K)):
  fE P w K mg base CX0 8 f fd ["_law_line_here","_law_train_here","_law_goal","_law_bounds","_law_order"] (xR K):=by
 have rK:fE P w K mg base CX0 1 f5 fd5 ["run"] (pV K):=tT iM B
 refine F.F.ok lF (λvs H Q E h=>?_) (λcdv A outer s H vs Q E hr h=>?_)
 ·obtain⟨v,g,ua,b,o,l,ns,gs,n,c,as,ts,rfl,_⟩:=h;rfl
 ·obtain⟨v,g,ua,b,o,l,ns,gs,n,c',as,ts,rfl,hv,hua,hg,hb,ho,hl,he,a3,GL,T,hne,h6,F2,kq⟩:=h
  have ok:=GL.jj
  have okF:=qC GL
  have TF:=AU GL T
  have fl':=ur ns
  have fne:ft ns≠ []:=λz=>by rw[z]at fl';cases ns with |nil=>exact hne rfl |cons x r=>simp at fl'
  obtain⟨w0,g0,_⟩:=F2.a
  have gF:=uv GL T hne g0
  obtain⟨TG,lG,nG⟩:=gF.ok okF TF fne
  have go:gOk (fl l) (ft ns) (ft gs):=⟨⟨nG,TG⟩,lG⟩
  refine⟨_,(fj (hZ (gz (AA (fN gq rfl B.len cN (eZ (gv iq (fv lQ (hr.mono (by decide)) rfl iV.m iV.F.kp iV.b .nil fJ (eZ (pv 0) (eZ (pv 1) fh))) fk (λ_ _=>rfl)) fh)) fk))
 (fo (fL (fN (yX rfl) rfl B.all boot_all (eZ (nV (kF rfl B.range (eZ fk fh)) rfl oH (.name (by decide)) (λ_ _ _ _=>(fy (i:=0) oH.nd rfl (Or.inl rfl))) (λ_ _ _ _=>iG) (λ_ _ _ _=>(fv mM (hr.mono (by decide)) rfl jh.m jh.F.kp jh.b .nil fJ (eZ (pv 2) (eZ (pv 3) (eZ (pv 1) (eZ (pv 0) fh))))))) fh)))) fT)
 (fj (fC (i:=5) lF.nd rfl (Or.inl rfl) (fv jQ (hr.mono (by decide)) rfl ic.m ic.F.kp ic.b .nil jD (eZ (pv 0) (eZ (pv 1) (eZ (pv 2) fh)))))
 (fj (fC (i:=6) lF.nd rfl (Or.inl rfl) (fv ku (hr.mono (by decide)) rfl ir.m ir.F.kp ir.b .nil jD (eZ (pv 0) (eZ (pv 1) (eZ (pv 2) fh)))))
 (fj (hZ (PW.pt (ya (iu vM (gv iq (pv 5) fk (λ_ _=>rfl)) gm (kH _)) (ya (gz (AA (fN gq rfl B.len cN (eZ (gv iq (pv 5) fk (λ_ _=>rfl)) fh)) (gv gJ (pv 3) fk (λ_ _=>rfl)))) (ya (iu vM (gv iq (pv 6) fk (λ_ _=>rfl)) gm (kH _)) (zx (gz (AA (fv rK (hr.mono (by decide)) rfl iM.m iM.F.kp iM.b .nil fJ (eZ (gv iq (pv 6) fk (λ_ _=>rfl)) fh)) (gv gJ (pv 3) fk (λ_ _=>rfl)))))))))
 (fo (fL vK)) fT)
 (fj (fC (i:=7) lF.nd rfl (Or.inr rfl) (fv lR (hr.mono (by decide)) rfl iW.m iW.F.kp iW.b .nil jD (eZ (pv 0) (eZ (pv 1) fh))))
 (fo (fL (fN (yX rfl) rfl B.all boot_all (eZ (nV (gj (pv 4)) rfl oG (.name (by decide)) (λ_ _ _ _=>(fy (i:=0) oG.nd rfl (Or.inl rfl))) (λ_ _ _ _=>iG) (λ_ _ _ _=>(wL (EN (K:=K) rfl hr.units) (fv h9 (hr.mono (by decide)) rfl fM.m fM.F.kp fM.b .nil fJ (eZ (pv 0) fh)) (pv 1) (by with_unfolding_all rfl)))) fh))))))))),?_⟩
  refine⟨_,rfl,_,rfl,_,ua,fl l,ft ns,rfl,hv,hua,okF,fne,by omega,Fp GL T hne h6,TF,λwi wt wp wd was G1 hw s1 hwt OL _=>?_⟩
  refine⟨wt,_,_,_,rfl,rfl,.inl (.inl hwt),rfl,wp,_,rfl,.inl (SqL.of OL.at_),_,_,rfl,rfl,_,rfl,gZ (λc=>?_) (λc=>?_)⟩
  ·have c:(300:Int)<((was.map V.ref).length:Int):=by simpa using c
   rw[aa,OL.len,hw]at c
   refine⟨3,rfl,by decide,by decide,λt nt=>wW 3 (List.range 3) (λ_=>true) (λ_=>V.bl true) nt (by simp) (by decide) (λi G s hi=>hi) (λG s=>au _) ?_ ?_⟩
   ·rintro i x d G G' sG ⟨rfl,rfl⟩ hd P1 P0 k1 k0
    have hi:i<3:=by have:=(af.mp hd).1;simpa using this
    refine jw ?_
    have S:=s1.trans sG
    exact⟨_,rfl,_,rfl,_,rfl,_,rfl,_,_,_,fl l,ft ns,ft gs,_,rfl,Da.same S hv,gD (S _ _ hua),Da.same S hg,okF,fne,by omega,TF,go,⟨wi,by omega⟩,by omega,by omega,λH' s'=>k1 H' rfl s'⟩
   ·intro G s' ht
    refine⟨t,List.replicate 3 true,rfl,SqL.of ht,?_⟩
    exact kq G
  have c:¬(300:Int)<((was.map V.ref).length:Int):=by simpa using c
  rw[aa,OL.len,hw]at c
  have few:∀ j,(fA (fl l) (ft ns) j).length<=300:=λj=>by have:=zd hw j;omega
  have hv:=Da.same s1 hv
  have hua:=s1 _ _ hua
  have hg:=Da.same s1 hg
  have hb:=s1.seq hb
  have ho:=s1.seq ho
  have rch:=λi a t h1 h2=>(he i a t h1 h2).2
  have he:=λi a t h1 h2=>s1 _ _ (he i a t h1 h2).1
  refine⟨_,rfl,_,rfl,_,rfl,_,_,_,fl l,ft ns,ft gs,rfl,hv,gD hua,hg,okF,fne,by omega,TF,by omega,?_⟩
  refine⟨λz=>absurd go z,λ_ ⟨j,hj⟩=>absurd (few j) (by omega),λ_ i hi _ hn=>absurd (rd okF TF fne hi gF) hn,λ_ i hi i3 hin r1 q1 run q2 us H1 s2 ra nq1 pt RN _ hr1 _=>?_⟩
  refine⟨_,rfl,_,rfl,_,rfl,_,_,_,fl l,ft ns,ft gs,rfl,Da.same s2 hv,gD (s2 _ _ hua),Da.same s2 hg,okF,fne,by omega,TF,by omega,?_⟩
  refine⟨λz=>absurd go z,λ_ ⟨j,hj⟩=>absurd (few j) (by omega),λ_ i hi _ hn=>absurd (rd okF TF fne hi gF) hn,λ_ i' hi' _ _ rr r2 p1 tu p2 us2 H2 hrn s3 rb _ pn _ _ hr2 _=>?_⟩
  obtain⟨hW,xa,xb,ca,cb,le⟩:=xy okF TF fne hi i3 hrn hin
  have FF:=zc.of okF TF fne hi i3 hrn pt hW pn ca cb le
  obtain⟨b1,b2⟩:=F2.fin GL T hne FF
  obtain⟨vr,hq1,D1⟩:=ra.ex
  obtain⟨vr2,hp1,D2⟩:=rb.ex
  have vl:vr.length=run.length:=by have:=Dgs.length D1;rw[aa]at this;exact this
  obtain⟨_,htr,hsh⟩:=kX okF TF fne hi
  have r6:tu.length<=600:=pn.len (λt ht=>(hsh t ht).2) htr (by rw[aa];omega)
  refine⟨_,rfl,r1,_,_,_,rfl,rfl,SqT.of (s3 _ _ hr1),rfl,rfl,_,rfl,gZ (λh=>absurd h (by simp)) (λ_=>?_)⟩
  have S3:=s2.trans s3
  refine⟨_,rfl,r1,_,_,_,rfl,rfl,SqT.of (s3 _ _ hr1),rfl,q1,_,rfl,.inl (SqL.of (s3 _ _ hq1)),_,rfl,b,_,_,_,rfl,rfl,S3.seq hb,ko (j:=0) rfl,_,_,rfl,rfl,_,rfl,gZ (λh=>?_) (λ_=>?_)⟩
  ·have h:((2*n:Nat):Int)<(vr.length:Int):=by simpa using h
   omega
  refine⟨_,rfl,r2,_,_,_,rfl,rfl,SqT.of hr2,rfl,rfl,_,rfl,gZ (λh=>absurd h (by simp)) (λ_=>?_)⟩
  refine⟨_,rfl,r2,_,_,_,rfl,rfl,SqT.of hr2,rfl,_,tu,rfl,i7.mpr ⟨p1,vr2,rfl,SqL.of hp1,Das.same ja D2⟩,by omega,λH3 s4=>?_⟩
  have S4:=S3.trans s4
  refine⟨_,rfl,b,_,_,_,rfl,rfl,S4.seq hb,ko (j:=1) rfl,_,_,rfl,rfl,_,rfl,gZ (λh=>?_) (λ_=>?_)⟩
  ·rw[zZ]at h
   have h:(c':Int)<(jJ (tu.map (·.1)):Int):=by simpa using h
   omega
  refine⟨_,rfl,_,rfl,_,_,fl l,ft ns,rfl,Da.same S4 hv,gD (S4 _ _ hua),okF,fne,by omega,TF,λi5 q5 bs H5 hi5 _ FR=>?_,λ⟨j,hj⟩=>absurd (few j) (by omega)⟩
  have S5:=S4.trans FR.same
  have dw:Da K H5 (dLI ((fA (fl l) (ft ns) i5).map (·.1))) (.ref q5):=i7.mpr ⟨q5,_,rfl,SqL.of FR.at_,uy FR.len λi a t h1 h2=>(FR.each i a t h1 h2).2.2⟩
  have ol:(as.map V.ref).length=ts.length:=by rw[aa];exact hl
  refine⟨_,rfl,o,rfl,⟨_,S5.seq ho⟩,λt nt=>wW ts.length ts (λ_=>true) (λ_=>V.bl true) nt rfl (jz (by omega)) (λj G sG hj=>(mB (S5.seq ho)).go j G sG (by omega)) (λG sG=>by have:=(mB (S5.seq ho)).stop G sG;rw[ol]at this;exact this) ?_ ?_⟩
  ·intro j x d G G' sG y hd P1 P0 k1 k0
   have hj:j<ts.length:=(af.mp hd).1
   obtain⟨rfl,hx⟩:=(mB (S5.seq ho)).yld j G x G' sG (by omega) y
   have aj:as[j]? = some (as[j]'(by omega)):=ag _
   rw[ao,aj]at hx
   cases hx
   have ha:=(S5.trans sG) _ _ (he j _ d aj hd)
   obtain⟨wsd,gd⟩:=rch j _ d aj hd
   have dl:=(gd.ok ok T hne).2.1
   refine jw ?_
   refine⟨_,rfl,_,d,rfl,gD ha,by omega,λp G2 sp np hp=>?_⟩
   refine⟨_,rfl,_,dI (ft d),Da.same (sG.trans sp) dw,gD hp,AF _,l0 _,?_⟩
   have N9:ft d∈(fA (fl l) (ft ns) i5).map (·.1):=rd okF TF fne hi5 (uv GL T hne gd)
   rw[DW,bG N9]
   exact k1 G2 rfl sp
  ·intro G sG ht
   have e1:(ts.filter λ_=>true).map (λ_=>V.bl true)=(ts.map λ_=>true).map V.bl:=by rw[lP,bJ];rfl
   rw[e1]at ht
   refine⟨t,ts.map λ_=>true,rfl,SqL.of ht,?_⟩
   have e2:(ts.map λ_=>true).all id=true:=by simp
   rw[e2]
   exact kq G
end
def wb (K:PySem.W.Frag):Sp:=λvs H Q _=>∃ (a:Addr) (ns:List Int),vs = [.ref a]/\SqL K H a (ns.map V.int)/\∀ H',Q (.bl true) H'
open Classical in
noncomputable def wdS (l:Ln) (n:Int):Str:=if Rch l [2*n] [oth (2*n)]then "run" else "marking"
open Classical in
theorem rD.of {n:Int}{Q:VK}(k:∀ r x H',fu H H'->H' r=some (.tup [.str (wdS l n),x])->Q (.ref r) H'):rD K l n H Q:=
 ⟨λr q run H' s hr _ ⟨ws,g,_⟩ _ _=>k r (.ref q) H' s (by unfold wdS;rw[aM ⟨ws,g⟩];exact hr),λhn r x H' s hr=>k r x H' s (by unfold wdS;rw[aH (show ¬Rch l [2*n] [oth (2*n)] from hn)];exact hr)⟩
open Classical in
theorem Eh (G:hG l){p:Int}(h0:0<=p)(h1:p<l.1):wdS (fl l) (2*p)=wdS l p/\wdS (fl l) (2*p+1)=wdS l p:=by
 obtain⟨e1,e2⟩:=BS G h0 h1
 unfold wdS
 exact⟨by simp only[e1],by simp only[e2]⟩
theorem uZ {l:Ln}{s:List Int}{run:List (Str×Int)}{bs:List (List Int)}(W:Way l s run bs):∀ j,j<=run.length->∃ b,bs[j]? = some b/\nW l s (run.take j) b
 | 0,_=>⟨s,W.first,.nil⟩
 |j+1,hj=>by
  obtain⟨b,hb,g⟩:=uZ W j (by omega)
  have h1:j+1<bs.length:=by rw[W.len];omega
  have h2:run[j]? = some run[j]:=ag (by omega)
  have hm:=W.step j _ _ _ h2 hb (ag h1)
  refine⟨_,ag h1,?_⟩
  rw[aQ,h2]
  exact g.snoc hm
theorem zf {s t:List Int}{run:List (Str×Int)}{bs:List (List Int)}(W:Way l s run bs)(hb:bs[run.length]? = some t):nW l s run t:=by
 obtain⟨b,h1,g⟩:=uZ W run.length (au _)
 rw[hb]at h1
 cases h1
 rwa [bf]at g
theorem yF:∀ run:List (Str×Int),(uT run).length=2*run.length
 |[]=>rfl
 |a::r=>by
  have:=yF r
  unfold uT at this ⊢
  rw[cJ,ah,this]
  simp only[aO,cX]
  omega
abbrev vB:Stmt:=top 62
theorem lq:fK ["_law_script","_law_line_here","_law_train_here","_law_order","_law_number","_law_goal","_law_fine","_law_piece","_law_word","_law_found","_law_run","_law_bounds"] ["_law_script"] (fx vB):=⟨rfl,rfl,rfl,by decide +kernel,rfl,by decide +kernel,by decide +kernel⟩
section
variable {P:Program}{w:World}{K:PySem.W.Frag}{mg:Str->Option Value}{base:Heap}{f:Addr}{fd:FuncData}{c2 c3 c5:Addr}
set_option maxHeartbeats 16000000 in
theorem GR {f2 f6 f7 f8 f9 f10 f11 f12 f13 f14:Addr}{fd6 fd7 fd8 fd9 JC JB JA Jz Jy:FuncData}(F:Fn K mg "law" vB ["_law_script"] f fd)(B:Bm mg)
  (kK:Fn K mg "_law_line" nI ["_law_script"] f1 fd1) (p9:fE P w K mg base CX0 3 f1 fd1 ["_law_script"] (Am K))
  (fH:Fn K mg "_law_cell_at" jM ["_law_script","_law_k"] f2 fd2) (fB:Fn K mg "_law_mix" kC ["_law_cell","_law_k"] f3 fd3)
  (jZ:Fn K mg "_law_train" jT ["_law_line_here","_law_cell","_law_length"] f4 fd4) (oR:fE P w K mg base CX0 2 f4 fd4 ["_law_line_here","_law_cell","_law_length"] (xO K))
  (iV:Fn K mg "_law_web" mV ["_law_line_here","_law_train_here"] f5 fd5) (lQ:fE P w K mg base CX0 3 f5 fd5 ["_law_line_here","_law_train_here"] (zp K))
  (jc:Fn K mg "turned" mU ["train"] f6 fd6) (oQ:fE P w K mg base CX0 2 f6 fd6 ["train"] (sQ K))
  (pJ:Fn K mg "finer" o6 ["line"] f7 fd7) (xx:fE P w K mg base CX0 2 f7 fd7 ["line"] (xQ K))
  (jR:Fn K mg "sides" su ["line","piece"] f8 fd8) (qK:fE P w K mg base (CXr P w base) 7 f8 fd8 ["line","piece"] (vk K))
  (ic:Fn K mg "least" nH ["line","train","goal"] f9 fd9) (jQ:fE P w K mg base (CXr P w base) 5 f9 fd9 ["line","train","goal"] (oj K c2 c5))
  (iL:Fn K mg "_law_finer_run" jP ["_law_run"] f10 JC) (lz:fE P w K mg base CX0 1 f10 JC ["_law_run"] (Ap K))
  (nv:Fn K mg "walked" qo ["line","train","run"] f11 JB) (uJ:fE P w K mg base (CXr P w base) 5 f11 JB ["line","train","run"] (vj K c3))
  (fM:Fn K mg "finer_train" jN ["train"] f12 JA) (h9:fE P w K mg base CX0 2 f12 JA ["train"] (Cs K))
  (ir:Fn K mg "fewest" lX ["line","train","goal"] f13 Jz) (ku:fE P w K mg base (CXr P w base) 6 f13 Jz ["line","train","goal"] (oW K c2 c5))
  {fc:Addr}{fdc:FuncData} (iM:Fn K mg "changes" kD ["run"] fc fdc)
  (j6:Fn K mg "_law_fewer" jV ["_law_line_here","_law_train_here","_law_goal","_law_bounds","_law_order"] f14 Jy) (oT:fE P w K mg base CX0 8 f14 Jy ["_law_line_here","_law_train_here","_law_goal","_law_bounds","_law_order"] (xR K)):
  fE P w K mg base CX0 9 f fd ["_law_script"] (wb K):=by
 have g9:fE P w K mg base CX0 1 f3 fd3 ["_law_cell","_law_k"] sT:=nL fB B.toBl
 have iT:fE P w K mg base CX0 1 f2 fd2 ["_law_script","_law_k"] (wj K):=ox fH B.toBl
 have rK:fE P w K mg base CX0 1 fc fdc ["run"] (pV K):=tT iM B
 refine F.F.ok lq (λvs H Q E h=>?_) (λcdv A outer s H vs Q E hr h=>?_)
 ·obtain⟨a,ns,rfl,_⟩:=h;rfl
 ·obtain⟨a,ns,rfl,hS,k⟩:=h
  refine⟨_,(fj (fC (i:=1) lq.nd rfl (Or.inl rfl) (fv p9 (hr.mono (by decide)) rfl kK.m kK.F.kp kK.b .nil fJ (eZ (pv 0) fh)))
 (fj (fC (i:=2) lq.nd rfl (Or.inl rfl) (fv oR (hr.mono (by decide)) rfl jZ.m jZ.F.kp jZ.b .nil fJ (eZ (pv 1) (eZ (fv iT (hr.mono (by decide)) rfl fH.m fH.F.kp fH.b .nil fJ (eZ (pv 0) (eZ fk fh))) (eZ (fD ig fk (fD ie (fv g9 (hr.mono (by decide)) rfl fB.m fB.F.kp fB.b .nil fJ (eZ (fv iT (hr.mono (by decide)) rfl fH.m fH.F.kp fH.b .nil fJ (eZ (pv 0) (eZ fk fh))) (eZ fk fh))) fk)) fh)))))
 (fj (fC (i:=3) lq.nd rfl (Or.inl rfl) (gv iq (fv lQ (hr.mono (by decide)) rfl iV.m iV.F.kp iV.b .nil fJ (eZ (pv 1) (eZ (pv 2) fh))) fk (λ_ _=>rfl)))
 (fj (fC (i:=4) lq.nd rfl (Or.inl rfl) (fv g9 (hr.mono (by decide)) rfl fB.m fB.F.kp fB.b .nil fJ (eZ (fv iT (hr.mono (by decide)) rfl fH.m fH.F.kp fH.b .nil fJ (eZ (pv 0) (eZ fk fh))) (eZ fk fh))))
 (fj (fC (i:=5) lq.nd rfl (Or.inl rfl) (gv gJ (gM (eZ (gv gJ (pv 3) (fD ie (fD jm (pv 4) fk) (fN gq rfl B.len cN (eZ (pv 3) fh))) (λ_ _=>rfl)) (eZ (fv oQ (hr.mono (by decide)) rfl jc.m jc.F.kp jc.b .nil fJ (eZ (pv 2) fh)) fh))) (fD ie (pv 4) fk) (λ_ _=>rfl)))
 (fj (fC (i:=6) lq.nd rfl (Or.inl rfl) (fv xx (hr.mono (by decide)) rfl pJ.m pJ.F.kp pJ.b .nil fJ (eZ (pv 1) fh)))
 (fj (iy aW rfl (kF rfl B.range (eZ (gv iq (pv 1) fk (λ_ _=>rfl)) fh)) (fy (i:=7) lq.nd rfl (Or.inl rfl))
 (fj (fC (i:=8) lq.nd rfl (Or.inl rfl) (gv iq (fv qK (hr.mono (by decide)) rfl jR.m jR.F.kp jR.b .nil jD (eZ (pv 1) (eZ (pv 7) fh))) fk (λ_ _=>rfl)))
 (fo (hZ (PW.pt (ya (iu vM (gv iq (fv qK (hr.mono (by decide)) rfl jR.m jR.F.kp jR.b .nil jD (eZ (pv 6) (eZ (fD iH fk (pv 7)) fh))) fk (λ_ _=>rfl)) (pv 8) (kH _)) (zx (iu vM (gv iq (fv qK (hr.mono (by decide)) rfl jR.m jR.F.kp jR.b .nil jD (eZ (pv 6) (eZ (fD ig (fD iH fk (pv 7)) fk) fh))) fk (λ_ _=>rfl)) (pv 8) (kH _)))))
 (fo (fL vK)) fT))))
 (fj (hZ (gz (AA (fN gq rfl B.len cN (eZ (pv 3) fh)) fk))
 (fo (fL vK)) fT)
 (fj (fC (i:=9) lq.nd rfl (Or.inl rfl) (fv jQ (hr.mono (by decide)) rfl ic.m ic.F.kp ic.b .nil jD (eZ (pv 1) (eZ (pv 2) (eZ (pv 5) fh)))))
 (fj (hZ (iu AE (gv iq (pv 9) fk (λ_ _=>rfl)) gm (kH _))
 (fo (fL (wL (kG hr.units) (pv 5) (pv 3) (by with_unfolding_all rfl)))) fT)
 (fj (fC (i:=10) lq.nd rfl (Or.inl rfl) (fv lz (hr.mono (by decide)) rfl iL.m iL.F.kp iL.b .nil fJ (eZ (gv iq (pv 9) fk (λ_ _=>rfl)) fh)))
 (fj (hZ (iu (GN hr.units) (gv gJ (fv uJ (hr.mono (by decide)) rfl nv.m nv.F.kp nv.b .nil jD (eZ (pv 6) (eZ (fv h9 (hr.mono (by decide)) rfl fM.m fM.F.kp fM.b .nil fJ (eZ (pv 2) fh)) (eZ (pv 10) fh)))) (tH pS fk) (λ_ _=>rfl)) (fv h9 (hr.mono (by decide)) rfl fM.m fM.F.kp fM.b .nil fJ (eZ (pv 5) fh)) (kH _))
 (fo (fL vK)) fT)
 (fj (fC (i:=11) lq.nd rfl (Or.inl rfl) (gM (eZ (fN gq rfl B.len cN (eZ (pv 10) fh)) (eZ (fv rK (hr.mono (by decide)) rfl iM.m iM.F.kp iM.b .nil fJ (eZ (gv iq (fv ku (hr.mono (by decide)) rfl ir.m ir.F.kp ir.b .nil jD (eZ (pv 1) (eZ (pv 2) (eZ (pv 5) fh)))) fk (λ_ _=>rfl)) fh)) fh))))
 (fo (fL (fv oT (hr.mono (by decide)) rfl j6.m j6.F.kp j6.b .nil fJ (eZ (pv 6) (eZ (fv h9 (hr.mono (by decide)) rfl fM.m fM.F.kp fM.b .nil fJ (eZ (pv 2) fh)) (eZ (fv h9 (hr.mono (by decide)) rfl fM.m fM.F.kp fM.b .nil fJ (eZ (pv 5) fh)) (eZ (pv 11) (eZ (pv 3) fh))))))))))))))))))))),?_⟩
  refine⟨_,rfl,a,ns,rfl,hS,λv l H1 s1 hv GL=>?_⟩
  have ok:=GL.jj
  have okF:=qC GL
  obtain⟨al,bl,rfl,hlt,us,hll,hlq⟩:=lK hv
  refine⟨_,rfl,_,rfl,a,ns,10,rfl,s1.seq hS,by decide,λc10=>⟨_,rfl,a,ns,11,rfl,s1.seq hS,by decide,λc11=>⟨c11,0,rfl,by decide,by decide,λn0 h00 h01=>?_⟩⟩⟩
  refine⟨_,_,rfl,rfl,(by show(0:Int)<6;decide),_,_,rfl,rfl,?_⟩
  refine⟨_,l,c10,_,rfl,hv,ok,by show 0<=1+n0%6;omega,by show 1+n0%6<=40;omega,λp tr H4 s4 hp hp2 hne tl tn T=>?_⟩
  have tl6:tr.length<=6:=by
   have:(tr.length:Int)<=max 1 (1+n0%6):=tn
   omega
  refine⟨_,rfl,_,rfl,_,p,l,tr,rfl,Da.same s4 hv,hp2,ok,hne,by omega,λi=>bE ((iN ok T hne i).len ok tl6) (by decide),T,λi tt pd dd as H5 hi s5 htt O5 _=>?_⟩
  refine⟨tt,_,_,_,rfl,rfl,SqT.of htt,rfl,?_⟩
  have S5:=s1.trans (s4.trans s5)
  have hS5:=S5.seq hS
  have dl5:Da K H5 (dL l) (.ref al):=Da.same (s4.trans s5) hv
  have Jm:=gi (s4.trans s5) hlt
  have hp5:=s5 _ _ hp2
  have sh:=kX ok T hne hi
  have e1:1<=(fA l tr i).length:=by
   obtain⟨e,he,_⟩:=ai.mp sh.2.1
   exact List.length_pos_of_mem he
  have hO5:=SqL.of (K:=K) O5.at_
  have al1:(0:Int)<((as.map V.ref).length:Int):=by rw[aa,O5.len];omega
  clear S5 hv hlt hll hlq hp2 htt s5 s4 s1 hS
  refine⟨_,rfl,a,ns,11,rfl,hS5,by decide,λc11=>⟨c11,1,rfl,by decide,by decide,λn2 h20 h21=>?_⟩⟩
  dsimp only[oC]
  have ol:=O5.len
  have jb:(n2/2%((as.map V.ref).length:Int)).toNat<as.length:=by
   rw[aa]at al1 ⊢
   have h1:=cx (n2/2) (show(as.length:Int)≠0 by omega)
   have h2:=ck (n2/2) al1
   omega
  have j0:0<=n2/2%((as.map V.ref).length:Int):=cx _ (by omega)
  have hga:as[(n2/2%((as.map V.ref).length:Int)).toNat]? = some (as[(n2/2%((as.map V.ref).length:Int)).toNat]'jb):=ag jb
  have hge:(fA l tr i)[(n2/2%((as.map V.ref).length:Int)).toNat]? = some ((fA l tr i)[(n2/2%((as.map V.ref).length:Int)).toNat]'(by rw[<-ol];exact jb)):=ag _
  have hg5:=(O5.each _ _ _ hga hge).2
  have hgm:=ax hge
  generalize as[(n2/2%((as.map V.ref).length:Int)).toNat]'jb=ga at hga hg5
  generalize (fA l tr i)[(n2/2%((as.map V.ref).length:Int)).toNat]'(by rw[<-ol];exact jb)=ge at hge hg5 hgm
  obtain⟨gT,gL,gN⟩:=(iN ok T hne i).tr ge hgm
  refine⟨_,rfl,_,rfl,_,_,rfl,rfl,⟨by decide,by decide⟩,_,rfl,pd,_,rfl,.inl hO5,_,_,rfl,rfl,al1,pd,_,_,V.ref ga,rfl,rfl,hO5,rC j0 (by rw[ao,hga];rfl),?_⟩
  refine⟨_,rfl,_,tr,rfl,gD hp5,by omega,λpt H6 s6 npt hpt=>⟨by show 2<=sizeLine;decide,λq nq=>?_⟩⟩
  have u7:=fb (o:=.lst [.ref ga,.ref pt]) nq
  have hq7:=fg (H:=H6) (a:=q) (o:=.lst [.ref ga,.ref pt])
  have Ho:=u7 _ _ hpt
  have S7:=s6.trans u7
  generalize upd H6 q _=H7 at u7 hq7 Ho S7 ⊢
  obtain⟨gg,gs,hgg,ix,TG,lG⟩:∃ (gg:Addr) (gs:List Int),H7 gg=some (.lst (gs.map V.int))/\atI [V.ref ga,V.ref pt] (n2%2)=some (V.ref gg)/\fW l gs/\gs.length=tr.length:=by
   have c:n2%2=0\/n2%2=1:=by omega
   rcases c with e |e
   ·rw[e]
    exact⟨ga,ge.1,S7 _ _ hg5,ko (j:=0) rfl,gT,gL⟩
   ·rw[e]
    exact⟨pt,tr.reverse.map oth,Ho,ko (j:=1) rfl,Bf ok T,by rw[aa,cA]⟩
  refine⟨_,rfl,_,_,rfl,rfl,(by show(0:Int)<2;decide),q,_,_,V.ref gg,rfl,rfl,SqL.of hq7,ix,?_⟩
  have o1:1<=l.1:=ok.one
  have o14:l.1<=14:=GL.most
  have o24:=GL.len
  refine⟨_,rfl,_,l,rfl,Da.same S7 dl5,by omega,by omega,by omega,λfp fq fus H8 s8 _ _ hfp hfq PS=>?_⟩
  have df:Da K H8 (dL (fl l)) (.ref fp):=rq (l:=fl l) hfp (PS.da hfq)
  have S8:=S7.trans s8
  have Jl:=gi S8 Jm
  have dl8:=Da.same S8 dl5
  have Jo:=s8 _ _ hgg
  have hp8:=S8 _ _ hp5
  have O8:=O5.same S8
  refine⟨_,rfl,al,_,_,_,rfl,rfl,Jl,rfl,_,rfl,by show -(2 ^ 62)<=l.1;omega,by show l.1<2 ^ 62;omega,pY (λj σ G=>∃ x7 x8:Option V,σ = [some (.ref a),some (.ref al),some (.ref p),some (.ref pd),some (.int n2),some (.ref gg),some (.ref fp),x7,x8,none,none,none]/\fu H8 G) ⟨none,none,rfl,fu.refl _⟩ ?_ ?_⟩
  ·rintro j σ G N R Bq kN kR hj ⟨x7,x8,rfl,S⟩
   have hj:j<l.1.toNat:=hj
   obtain⟨w1,w2⟩:=Eh GL (p:=(0:Int)+(j:Nat)) (by omega) (by omega)
   refine⟨_,rfl,_,rfl,_,l,_,rfl,Da.same S dl8,ok,by omega,by omega,rD.of λr1 y1 G1 s1 h1=>?_⟩
   refine⟨r1,_,_,_,rfl,rfl,SqT.of h1,rfl,?_⟩
   refine⟨_,rfl,_,rfl,_,_,rfl,rfl,.inl ⟨by decide,by decide⟩,_,fl l,_,rfl,Da.same (S.trans s1) df,okF,by omega,by show _<2*l.1;omega,rD.of λr2 y2 G2 s2 h2=>?_⟩
   refine⟨r2,_,_,_,rfl,rfl,SqT.of h2,rfl,?_⟩
   refine⟨_,rfl,rfl,_,rfl,gZ (λh=>absurd h (by rw[show wdS (fl l) _=_ from w1];simp)) (λ_=>?_)⟩
   refine⟨_,rfl,_,rfl,_,_,rfl,rfl,.inl ⟨by decide,by decide⟩,_,_,rfl,rfl,_,fl l,_,rfl,Da.same (S.trans (s1.trans s2)) df,okF,by omega,by show _<2*l.1;omega,rD.of λr3 y3 G3 s3 h3=>?_⟩
   refine⟨r3,_,_,_,rfl,rfl,SqT.of h3,rfl,?_⟩
   refine⟨_,rfl,rfl,_,rfl,gZ (λh=>absurd h (by rw[show wdS (fl l) _=_ from w2];simp)) (λ_=>?_)⟩
   exact kN _ _ ⟨_,_,rfl,S.trans (s1.trans (s2.trans s3))⟩
  ·rintro σ G ⟨x7,x8,rfl,S⟩
   have O9:=O8.same S
   have hO9:=SqL.of (K:=K) O9.at_
   have dl9:=Da.same S dl8
   have df9:=Da.same S df
   have hp9:=S _ _ hp8
   have hg9:=S _ _ Jo
   clear df dl8 hp8 Jo O8 Jl S S8 S7 hgg hfp hfq PS s8 Ho hq7 hpt hg5 O5 hp5 Jm dl5 hS5 hO5 u7 s6 nq npt
   refine⟨_,rfl,pd,_,rfl,.inl hO9,_,_,rfl,rfl,_,rfl,gZ (λ_=>k _) (λh=>?_)⟩
   have i3:i<=300:=by
    have h:¬(300<((as.map V.ref).length:Int)):=by simpa using h
    rw[aa,O9.len,hi]at h
    omega
   clear h
   have few:∀ j,(fA l tr j).length<=300:=λj=>bE (zd hi j) i3
   have gne:gs≠ []:=λz=>by rw[z]at lG;cases tr with |nil=>exact hne rfl |cons x r=>simp at lG
   have go:gOk l tr gs:=⟨⟨gne,TG⟩,lG⟩
   refine⟨_,rfl,_,rfl,_,rfl,_,_,_,l,tr,gs,rfl,dl9,gD hp9,gD hg9,ok,hne,by omega,T,by omega,?_⟩
   refine⟨λz=>absurd go z,λ_ ⟨j,hj⟩=>absurd (few j) (by omega),λ_ i' hi' _ hn r1 q1 bs1 H1 FR hr1 _=>?_,λ_ i' hi' i3' hin r1 q1 run q2 us1 H1 s2 ra nq1 pt RN _ hr1 _=>?_⟩
   ·refine⟨_,rfl,r1,_,_,_,rfl,rfl,SqT.of hr1,rfl,rfl,_,rfl,gZ (λ_=>?_) (λh=>absurd (by simp) h)⟩
    have nin:gs∉(fA l tr i).map (·.1):=λz=>hn (by
     obtain⟨e,he,rfl⟩:=ai.mp z
     obtain⟨ws,g⟩:=Cc i e he
     exact rd ok T hne hi' g)
    have O1:=O9.same FR.same
    have dw:Da K H1 (dLI ((fA l tr i).map (·.1))) (.ref pd):=i7.mpr ⟨pd,_,rfl,SqL.of O1.at_,uy (by rw[aa];exact O1.len) λj b t h1 h2=>by
     rw[ao]at h2
     obtain⟨e,he,rfl⟩:=dO.mp h2
     exact(O1.each j b e h1 he).2⟩
    refine⟨_,rfl,_,rfl,_,dI gs,dw,gD (FR.same _ _ hg9),AF _,l0 _,?_⟩
    rw[DW,bo nin]
    exact k _
   ·obtain⟨bs1,W1,e1'⟩:=tK (nE l tr i') pt
    have st1:=zf W1 e1'
    have r3:run.length<=300:=by
     have EI:=iN ok T hne i'
     obtain⟨e,he,ee⟩:=ai.mp hin
     obtain⟨j',hj',ej⟩:=aR.mp he
     have:=AB EI.nd (kz l tr i') pt j' e (by rw[ag hj',ej]) ee
     omega
    obtain⟨stF,_,_⟩:=st1.fin GL T hne
    have TF:=AU GL T
    have fl':=ur tr
    have fne:ft tr≠ []:=λz=>by rw[z]at fl';cases tr with |nil=>exact hne rfl |cons x r=>simp at fl'
    obtain⟨tsF,trl⟩:=stF.trail okF TF fne
    refine⟨_,rfl,r1,_,_,_,rfl,rfl,SqT.of hr1,rfl,rfl,_,rfl,gZ (λh=>absurd h (by decide +kernel)) (λ_=>?_)⟩
    refine⟨_,rfl,r1,_,_,_,rfl,rfl,SqT.of hr1,rfl,_,run,rfl,ra.da,r3,λqf vf H2 s3 hqf Df=>?_⟩
    have S2:=s2.trans s3
    have fl2:=yF run
    have vl:vf.length=2*run.length:=by have:=Dgs.length Df;rw[aa,fl2]at this;exact this
    refine⟨_,rfl,_,rfl,_,tr,rfl,gD (S2 _ _ hp9),by omega,λpf H3 s4 npf hpf=>?_⟩
    have S3:=S2.trans s4
    refine⟨_,rfl,_,_,_,fl l,ft tr,uT run,rfl,Da.same S3 df9,gD hpf,i7.mpr ⟨qf,vf,rfl,SqL.of (s4 _ _ hqf),Das.same s4 Df⟩,λk hk=>zm (stF.words okF k hk).1,okF,fne,by omega,by omega,λts' wk' wo p6 bs6 H6 FR=>?_,λz=>by rw[trl.go]at z;cases z⟩
    rw[trl.go]at wk'
    cases wk'
    have tne:tsF≠ []:=λz=>by have:=trl.len;rw[z]at this;simp at this
    obtain⟨bl6,g1,g2,g3⟩:=yt FR.len tne
    obtain⟨x1,x2,x3⟩:=FR.each _ _ _ g1 g2
    rw[trl.last]at x3
    have S6:=S3.trans FR.same
    refine⟨_,rfl,p6,_,_,_,rfl,rfl,SqL.of FR.at_,g3,_,rfl,_,gs,rfl,gD (S6 _ _ hg9),by omega,λpg H7 s7 npg hpg=>?_⟩
    refine⟨dI (ft gs),dI (ft gs),gD (s7 _ _ x3),gD hpg,l0 _,l0 _,_,rfl,?_⟩
    rw[DF,bG rfl]
    refine gZ (λz=>absurd z (by decide)) (λ_=>?_)
    have S7:=S6.trans s7
    have NT:=s7 _ _ (FR.same _ _ (s4 _ _ hqf))
    clear x3 g1 g2 g3 FR hpf hpg s7 s4 trl stF
    refine⟨_,rfl,qf,_,rfl,.inl (SqL.of NT),?_⟩
    refine⟨_,rfl,_,rfl,_,rfl,_,_,_,l,tr,gs,rfl,Da.same S7 dl9,gD (S7 _ _ hp9),gD (S7 _ _ hg9),ok,hne,by omega,T,by omega,?_⟩
    refine⟨λz=>absurd go z,λ_ ⟨j,hj⟩=>absurd (few j) (by omega),λ_ i2 hi2 _ hn=>absurd (rd ok T hne hi2 (W1.goL e1')) hn,λ_ i2 hi2 _ _ rr r2 p1 tu p2 us2 H8 hrn s8 rb _ pn _ _ hr2 _=>?_⟩
    obtain⟨hW,xa,xb,ca,cb,le⟩:=xy ok T hne hi' i3' hrn hin
    have FF:=zc.of ok T hne hi' i3' hrn pt hW pn ca cb le
    obtain⟨vr2,hp1,D2⟩:=rb.ex
    obtain⟨_,htr,hsh⟩:=kX ok T hne hi'
    have r6:tu.length<=600:=pn.len (λt ht=>(hsh t ht).2) htr (by rw[aa];omega)
    refine⟨r2,_,_,_,rfl,rfl,SqT.of hr2,rfl,_,tu,rfl,rb.da,by omega,λH9 s9=>?_⟩
    rw[zZ]
    refine⟨by show 2<=sizeLine;decide,λpb npb=>?_⟩
    have u10:=fb (o:=.lst [.int (vf.length:Int),.int (jJ (tu.map (·.1)):Int)]) npb
    have hpb:=fg (H:=H9) (a:=pb) (o:=.lst [.int (vf.length:Int),.int (jJ (tu.map (·.1)):Int)])
    generalize upd H9 pb _=H10 at u10 hpb ⊢
    have S10:=S7.trans (s8.trans (s9.trans u10))
    refine⟨_,rfl,_,rfl,_,tr,rfl,gD (S10 _ _ hp9),by omega,λpa H11 s11 _ hpa=>?_⟩
    refine⟨_,rfl,_,gs,rfl,gD (s11 _ _ (S10 _ _ hg9)),by omega,λpc H12 s12 _ hpc=>?_⟩
    have S12:=S10.trans (s11.trans s12)
    have O12:=O9.same S12
    refine⟨_,rfl,_,rfl,_,_,pa,pb,pd,l,tr,gs,run.length,_,as,(fA l tr i).map (·.1),rfl,Da.same S12 df9,s12 _ _ hpa,gD hpc,?_,SqL.of O12.at_,by rw[aa];exact O12.len,?_,by rw[O12.len];omega,GL,T,hne,tl6,FF,λH'=>k H'⟩
    ·rw[vl]at hpb
     exact SqL.of ((s11.trans s12) _ _ hpb)
    ·intro j b t h1 h2
     rw[ao]at h2
     obtain⟨e,he,rfl⟩:=dO.mp h2
     exact⟨(O12.each j b e h1 he).2,Cc i e (ax he)⟩
end
structure En (K:PySem.W.Frag)(x:Str)(st:Stmt)(f:Addr)(oc:Value)(od:Option Addr)(osl:Array (Option Value))(kV doc pm:Value)(an:Option Addr)(cdv ct:Value):Prop where
 a:PySem.W.nsIn K mainGlobals x=some (some (.ref f))
 l:K.lookup f=some ⟨oc,od,.func (PySem.W.fnOf x x (mD st) (kT st) (fx st) .none kV doc pm an cdv ct),osl⟩
 c:PySem.W.codeIn K cdv x=true
 k:PySem.W.keepIn K (.ref f)=true
theorem gP {h:Heap}{mg:Str->Option Value}{x:Str}{st:Stmt}{ps:List Str}{f:Addr}{oc:Value}{od an:Option Addr}{osl:Array (Option Value)}{kV doc pm cdv ct:Value}(X:K.In h)(G:h.Ns mainGlobals mg)(e:En K x st f oc od osl kV doc pm an cdv ct)
  (hb:∀ (kV doc pm:Value) (an:Option Addr) (cdv ct:Value) (us:List Value),us.length=ps.length->bindArgs (PySem.W.fnOf x x (mD st) (kT st) (fx st) .none kV doc pm an cdv ct) ⟨us,[]⟩=pure (ps.zip us)):
  Fn K mg x st ps f (PySem.W.fnOf x x (mD st) (kT st) (fx st) .none kV doc pm an cdv ct):=⟨DB (st:=st) e.l e.c e.k,PySem.W.mg_of X G e.a,(DB (st:=st) e.l e.c e.k).binds (ps:=ps) hb⟩
variable {p:List Str}{F:FuncData}
theorem bn1 (k:∀ a0,bindArgs F ⟨[a0],[]⟩=pure (p.zip [a0]))(us:List Value)(h:us.length=1):bindArgs F ⟨us,[]⟩=pure (p.zip us):=match us,h with |[a0],_=>k a0
theorem bn2 (k:∀ a0 a1,bindArgs F ⟨[a0,a1],[]⟩=pure (p.zip [a0,a1]))(us:List Value)(h:us.length=2):bindArgs F ⟨us,[]⟩=pure (p.zip us):=match us,h with |[a0,a1],_=>k a0 a1
theorem bn3 (k:∀ a0 a1 a2,bindArgs F ⟨[a0,a1,a2],[]⟩=pure (p.zip [a0,a1,a2]))(us:List Value)(h:us.length=3):bindArgs F ⟨us,[]⟩=pure (p.zip us):=match us,h with |[a0,a1,a2],_=>k a0 a1 a2
theorem bn4 (k:∀ a0 a1 a2 a3,bindArgs F ⟨[a0,a1,a2,a3],[]⟩=pure (p.zip [a0,a1,a2,a3]))(us:List Value)(h:us.length=4):bindArgs F ⟨us,[]⟩=pure (p.zip us):=match us,h with |[a0,a1,a2,a3],_=>k a0 a1 a2 a3
theorem bn5 (k:∀ a0 a1 a2 a3 a4,bindArgs F ⟨[a0,a1,a2,a3,a4],[]⟩=pure (p.zip [a0,a1,a2,a3,a4]))(us:List Value)(h:us.length=5):bindArgs F ⟨us,[]⟩=pure (p.zip us):=match us,h with |[a0,a1,a2,a3,a4],_=>k a0 a1 a2 a3 a4
theorem all_mk {l:PySem.W.OpenLaw}{w:World}{h:Heap}{mg:Str->Option Value}{fa f2 f6 f7 f8 f9 f10 f11 f12 f13 f14 f15 f16 f17 f18 f19 f20 f21 f22 f23 f24 f25 f26 f27 f28 f29 f30 f31 f32 f33 f34 f35 f36 f37 f38 f39 f40 f41 f42 f43:Addr}(X:K.In h)(G:h.Ns mainGlobals mg)(hfa:mg "law" = some (.ref fa))
  {od1 an1 od2 an2 od3 an3 od4 an4 od5 an5 od6 an6 od7 an7 od8 an8 od9 an9 Mn QZ Mm QY Ml QX Mk QW Mj QV Mi QU Mh QT Mg QS Mf QR Me QQ Md QP Mc QO Mb QN L9 QM L8 QL L6 QK LZ QJ LY QI LX QH LW QG LV QF LU QE LS QD LR QC LQ QB LP QA LO Qz LN Qy LM Qx LL Qw LK Qv LJ Qu LI Qt LH JN:Option Addr}{sl1 sl2 sl3 sl4 sl5 sl6 sl7 sl8 sl9 KR KQ KP KO KN KL KJ KI KH KG KD KC KA Kz Ky Kx Kw Kv Ku Kt Ks Kr Kq Kp Ko Kn Km Kl Kk Kj Ki Kh Kg Kf:Array (Option Value)}{oc1 kV1 dc1 pm1 cd1 ct1 oc2 kV2 dc2 pm2 cd2 ct2 oc3 kV3 dc3 pm3 cd3 ct3 oc4 kV4 dc4 pm4 cd4 ct4 oc5 kV5 dc5 pm5 cd5 ct5 oc6 kV6 dc6 pm6 cd6 ct6 oc7 kV7 dc7 pm7 cd7 ct7 oc8 kV8 dc8 pm8 cd8 ct8 oc9 kV9 dc9 pm9 cd9 ct9 MW NM OS LD Qp Px MV NL OR LC Qo Pu MU NK OQ LB Qn Pt MT NJ OP LA Qm Pr MS NI OO Lz Ql Pq MR NH ON Ly Qk Pp MQ NF OM Lx Qj Po MP ND OK Lw Qi Pn MO NC OJ Lv Qh Pm MN NB OI Lu Qg Pl MM NA OH Ls Qf Pk ML Nz OG Lr Qe Pj MK Ny OF Lq Qd Ph MJ Nx OE Lp Qc Pg MI Nw OD Lo Qb Pf MH Nv OC Lm Qa Pe MG Nu OB Ll PZ Pd MF Nt OA Lk PY Pc ME Nr Oz Lj PX Pb MD Nq Oy Li PV Pa MC Np Ox Lh PU O7 MB Nn Ow Lg PR O6 MA Nm Ov Le PQ O4 Mz Nl Ou Ld PM O3 My Nk Ot Lc PL O2 Mx Nj Oq Lb PK O0 Mw Ni Oo La PJ OZ Mu Nh Om K9 PH OY Mt Ng Ol K8 PF OX Ms Nf Oj K7 PD OW Mr Nd Oi K6 PB OV Mq Nc Oh K5 Pz OU Mp Nb Og K4 Py OT Mo IX JH ID JJ JI:Value}
  (e1:En K "other_end" iC f1 oc1 od1 sl1 kV1 dc1 pm1 an1 cd1 ct1)
  (e2:En K "piece_of" lV f2 oc2 od2 sl2 kV2 dc2 pm2 an2 cd2 ct2)
  (e3:En K "is_end" qq f3 oc3 od3 sl3 kV3 dc3 pm3 an3 cd3 ct3)
  (e4:En K "joined" lW f4 oc4 od4 sl4 kV4 dc4 pm4 an4 cd4 ct4)
  (e5:En K "finer_end" kZ f5 oc5 od5 sl5 kV5 dc5 pm5 an5 cd5 ct5)
  (e6:En K "finer" o6 f6 oc6 od6 sl6 kV6 dc6 pm6 an6 cd6 ct6)
  (e7:En K "finer_train" jN f7 oc7 od7 sl7 kV7 dc7 pm7 an7 cd7 ct7)
  (e8:En K "check_train" jO f8 oc8 od8 sl8 kV8 dc8 pm8 an8 cd8 ct8)
  (e9:En K "turned" mU f9 oc9 od9 sl9 kV9 dc9 pm9 an9 cd9 ct9)
  (e10:En K "free_ends" jW f10 MW Mn KR NM OS LD QZ Qp Px)
  (e11:En K "moves_of" kB f11 MV Mm KQ NL OR LC QY Qo Pu)
  (e12:En K "done" wC f12 MU Ml KP NK OQ LB QX Qn Pt)
  (e13:En K "check_goal" kd f13 MT Mk KO NJ OP LA QW Qm Pr)
  (e14:En K "first_steps" je f14 MS Mj KN NI OO Lz QV Ql Pq)
  (e15:En K "lists_of" jv f15 MR Mi KL NH ON Ly QU Qk Pp)
  (e16:En K "come_to" mY f16 MQ Mh KJ NF OM Lx QT Qj Po)
  (e17:En K "run_back_from" iK f17 MP Mg KI ND OK Lw QS Qi Pn)
  (e18:En K "numbers_of" kc f18 MO Mf KH NC OJ Lv QR Qh Pm)
  (e19:En K "least" nH f19 MN Me KG NB OI Lu QQ Qg Pl)
  (e20:En K "gone_on" o5 f20 MM Md KD NA OH Ls QP Qf Pk)
  (e21:En K "changed_over" kf f21 ML Mc KC Nz OG Lr QO Qe Pj)
  (e22:En K "counted" mW f22 MK Mb KA Ny OF Lq QN Qd Ph)
  (e23:En K "fewest" lX f23 MJ L9 Kz Nx OE Lp QM Qc Pg)
  (e24:En K "walked" qo f24 MI L8 Ky Nw OD Lo QL Qb Pf)
  (e25:En K "changes" kD f25 MH L6 Kx Nv OC Lm QK Qa Pe)
  (e26:En K "marking_by" lH f26 MG LZ Kw Nu OB Ll QJ PZ Pd)
  (e27:En K "sides" su f27 MF LY Kv Nt OA Lk QI PY Pc)
  (e28:En K "turn" wB f28 ME LX Ku Nr Oz Lj QH PX Pb)
  (e29:En K "_law_cell_at" jM f29 MD LW Kt Nq Oy Li QG PV Pa)
  (e30:En K "_law_mix" kC f30 MC LV Ks Np Ox Lh QF PU O7)
  (e31:En K "_law_turned_row" jA f31 MB LU Kr Nn Ow Lg QE PR O6)
  (e32:En K "_law_other" jU f32 MA LS Kq Nm Ov Le QD PQ O4)
  (e33:En K "_law_joined" i4 f33 Mz LR Kp Nl Ou Ld QC PM O3)
  (e34:En K "_law_line" nI f34 My LQ Ko Nk Ot Lc QB PL O2)
  (e35:En K "_law_renamed" kP f35 Mx LP Kn Nj Oq Lb QA PK O0)
  (e36:En K "_law_train" jT f36 Mw LO Km Ni Oo La Qz PJ OZ)
  (e37:En K "_law_moves" kY f37 Mu LN Kl Nh Om K9 Qy PH OY)
  (e38:En K "_law_web" mV f38 Mt LM Kk Ng Ol K8 Qx PF OX)
  (e39:En K "_law_kept" nJ f39 Ms LL Kj Nf Oj K7 Qw PD OW)
  (e40:En K "_law_finer_run" jP f40 Mr LK Ki Nd Oi K6 Qv PB OV)
  (e41:En K "_law_refused" kQ f41 Mq LJ Kh Nc Oh K5 Qu Pz OU)
  (e42:En K "_law_fewer" jV f42 Mp LI Kg Nb Og K4 Qt Py OT)
  (e43:En K "law" vB f43 Mo LH Kf IX JH ID JN JJ JI)
  (z1:PySem.W.nsIn K mainGlobals "len" = some none) (z2:PySem.W.nsIn K mainGlobals "range" = some none) (z3:PySem.W.nsIn K mainGlobals "sorted" = some none) (z4:PySem.W.nsIn K mainGlobals "enumerate" = some none) (z5:PySem.W.nsIn K mainGlobals "reversed" = some none) (z6:PySem.W.nsIn K mainGlobals "min" = some none) (z7:PySem.W.nsIn K mainGlobals "max" = some none) (z8:PySem.W.nsIn K mainGlobals "list" = some none) (z9:PySem.W.nsIn K mainGlobals "int" = some none) (z10:PySem.W.nsIn K mainGlobals "isinstance" = some none) (z11:PySem.W.nsIn K mainGlobals "zip" = some none) (z12:PySem.W.nsIn K mainGlobals "sum" = some none) (z13:PySem.W.nsIn K mainGlobals "all" = some none) (z14:PySem.W.nsIn K mainGlobals "set" = some none) (z15:PySem.W.nsIn K mainGlobals "tuple" = some none) (z16:PySem.W.nsIn K mainGlobals "abs" = some none) (z17:PySem.W.nsIn K mainGlobals "bool" = some none) (z18:PySem.W.nsIn K mainGlobals "dict" = some none) (z19:PySem.W.nsIn K mainGlobals "str" = some none)
  {C0 C1 C2 C3 C4 C5 C6 C7:Addr} (ve:PySem.W.nsIn K mainGlobals "ValueError" = some none) (xb0:mj K "TurnError" C0) (xb1:mj K "NoLine" C1) (xb2:mj K "NoTrain" C2) (xb3:mj K "NoMove" C3) (xb4:mj K "NoPiece" C4) (xb5:mj K "TooMany" C5) (xb6:mj K "NoText" C6) (xb7:mj K "NoRow" C7) (xd1:p8 K C0 C1) (xd2:p8 K C0 C2) (xd3:p8 K C0 C3) (xd4:p8 K C0 C4) (xd5:p8 K C0 C5) (xd6:p8 K C0 C6) (xd7:p8 K C0 C7) (xe1:qI K C1 C2 C3 C4 C5 C6 C7) (xe2:qI K C2 C1 C3 C4 C5 C6 C7) (xe3:qI K C3 C1 C2 C4 C5 C6 C7) (xe4:qI K C4 C1 C2 C3 C5 C6 C7) (xe5:qI K C5 C1 C2 C3 C4 C6 C7) (xe6:qI K C6 C1 C2 C3 C4 C5 C7) (xe7:qI K C7 C1 C2 C3 C4 C5 C6) (nd:[C1,C2,C3,C4,C5,C6,C7].Nodup)
  (xm2:PySem.W.mroIn K C2 (.ref C2)=some true)
  {tk0:Tok} (ck0:PySem.W.nsIn K mainGlobals "MOST_STANDINGS" = some (some (.int 300 tk0)))
  {od:Addr}{ot1 ot2 ot3 ot4:Tok}{oep:Nat} (wa:PySem.W.nsIn K mainGlobals "OTHER_WORD" = some (some (.ref od))) (wk:K.lookup od=some {cls:=.type "dict",data:=.dict #[⟨PyData.keyHash w.params (Str.ofString "on"),.str (Str.ofString "on") ot1,.str (Str.ofString "back") ot2⟩,⟨PyData.keyHash w.params (Str.ofString "back"),.str (Str.ofString "back") ot3,.str (Str.ofString "on") ot4⟩] oep}):
  ∃ fd:FuncData,(∀ (s:Shared) (v:Value),BindsTo s fd ⟨[v],[]⟩ [("_law_script",v)])/\∀ base:Heap,K.In base->base.Ns mainGlobals mg->fE l.prog w K mg base CX0 9 fa fd ["_law_script"] (wb K):=by
 have e:=hfa.symm.trans (PySem.W.mg_of X G e43.a)
 cases e
 have B:Bm mg:=⟨⟨aX X G z1,aX X G z2,aX X G z3,aX X G z4,aX X G z5,aX X G z6,aX X G z7,aX X G z8,aX X G z9,aX X G z10⟩,aX X G z11,aX X G z12,aX X G z13,aX X G z14,aX X G z15,aX X G z16,aX X G z17,aX X G z18,aX X G z19⟩
 have XS:=HU X G ve xb0 xb1 xb2 xb3 xb4 xb5 xb6 xb7 xd1 xd2 xd3 xd4 xd5 xd6 xd7 xe1 xe2 xe3 xe4 xe5 xe6 xe7 nd
 have C:Cm mg tk0:=⟨PySem.W.mg_of X G ck0⟩
 have O:FD l.prog w K mg od:=II (PySem.W.mg_of X G wa) wk
 have fz:=gP (ps:=["end"]) X G e1 λ_ _ _ _ _ _=>bn1 (λ_=>rfl)
 have gQ:=gP (ps:=["end"]) X G e2 λ_ _ _ _ _ _=>bn1 (λ_=>rfl)
 have nz:=gP (ps:=["line","end"]) X G e3 λ_ _ _ _ _ _=>bn2 (λ_ _=>rfl)
 have jd:=gP (ps:=["line","end"]) X G e4 λ_ _ _ _ _ _=>bn2 (λ_ _=>rfl)
 have fY:=gP (ps:=["end"]) X G e5 λ_ _ _ _ _ _=>bn1 (λ_=>rfl)
 have pJ:=gP (ps:=["line"]) X G e6 λ_ _ _ _ _ _=>bn1 (λ_=>rfl)
 have fM:=gP (ps:=["train"]) X G e7 λ_ _ _ _ _ _=>bn1 (λ_=>rfl)
 have ji:=gP (ps:=["line","train"]) X G e8 λ_ _ _ _ _ _=>bn2 (λ_ _=>rfl)
 have jc:=gP (ps:=["train"]) X G e9 λ_ _ _ _ _ _=>bn1 (λ_=>rfl)
 have iR:=gP (ps:=["line","train","end"]) X G e10 λ_ _ _ _ _ _=>bn3 (λ_ _ _=>rfl)
 have gG:=gP (ps:=["line","train"]) X G e11 λ_ _ _ _ _ _=>bn2 (λ_ _=>rfl)
 have rM:=gP (ps:=["line","train","move"]) X G e12 λ_ _ _ _ _ _=>bn3 (λ_ _ _=>rfl)
 have g8:=gP (ps:=["line","train","goal"]) X G e13 λ_ _ _ _ _ _=>bn3 (λ_ _ _=>rfl)
 have fS:=gP (ps:=["line","train"]) X G e14 λ_ _ _ _ _ _=>bn2 (λ_ _=>rfl)
 have gA:=gP (ps:=["standings"]) X G e15 λ_ _ _ _ _ _=>bn1 (λ_=>rfl)
 have iW:=gP (ps:=["line","train"]) X G e16 λ_ _ _ _ _ _=>bn2 (λ_ _=>rfl)
 have fZ:=gP (ps:=["steps","goal"]) X G e17 λ_ _ _ _ _ _=>bn2 (λ_ _=>rfl)
 have jH:=gP (ps:=["steps"]) X G e18 λ_ _ _ _ _ _=>bn1 (λ_=>rfl)
 have ic:=gP (ps:=["line","train","goal"]) X G e19 λ_ _ _ _ _ _=>bn3 (λ_ _ _=>rfl)
 have lS:=gP (ps:=["line","states","steps"]) X G e20 λ_ _ _ _ _ _=>bn3 (λ_ _ _=>rfl)
 have iX:=gP (ps:=["states","steps"]) X G e21 λ_ _ _ _ _ _=>bn2 (λ_ _=>rfl)
 have lT:=gP (ps:=["line","train"]) X G e22 λ_ _ _ _ _ _=>bn2 (λ_ _=>rfl)
 have ir:=gP (ps:=["line","train","goal"]) X G e23 λ_ _ _ _ _ _=>bn3 (λ_ _ _=>rfl)
 have nv:=gP (ps:=["line","train","run"]) X G e24 λ_ _ _ _ _ _=>bn3 (λ_ _ _=>rfl)
 have iM:=gP (ps:=["run"]) X G e25 λ_ _ _ _ _ _=>bn1 (λ_=>rfl)
 have jI:=gP (ps:=["line","standings"]) X G e26 λ_ _ _ _ _ _=>bn2 (λ_ _=>rfl)
 have jR:=gP (ps:=["line","piece"]) X G e27 λ_ _ _ _ _ _=>bn2 (λ_ _=>rfl)
 have rL:=gP (ps:=["line","train"]) X G e28 λ_ _ _ _ _ _=>bn2 (λ_ _=>rfl)
 have fH:=gP (ps:=["_law_script","_law_k"]) X G e29 λ_ _ _ _ _ _=>bn2 (λ_ _=>rfl)
 have fB:=gP (ps:=["_law_cell","_law_k"]) X G e30 λ_ _ _ _ _ _=>bn2 (λ_ _=>rfl)
 have iF:=gP (ps:=["_law_number","_law_many"]) X G e31 λ_ _ _ _ _ _=>bn2 (λ_ _=>rfl)
 have fQ:=gP (ps:=["_law_end"]) X G e32 λ_ _ _ _ _ _=>bn1 (λ_=>rfl)
 have gu:=gP (ps:=["_law_line_here","_law_end"]) X G e33 λ_ _ _ _ _ _=>bn2 (λ_ _=>rfl)
 have kK:=gP (ps:=["_law_script"]) X G e34 λ_ _ _ _ _ _=>bn1 (λ_=>rfl)
 have jg:=gP (ps:=["_law_line_here","_law_cell"]) X G e35 λ_ _ _ _ _ _=>bn2 (λ_ _=>rfl)
 have jZ:=gP (ps:=["_law_line_here","_law_cell","_law_length"]) X G e36 λ_ _ _ _ _ _=>bn3 (λ_ _ _=>rfl)
 have j4:=gP (ps:=["_law_line_here","_law_train_here"]) X G e37 λ_ _ _ _ _ _=>bn2 (λ_ _=>rfl)
 have iV:=gP (ps:=["_law_line_here","_law_train_here"]) X G e38 λ_ _ _ _ _ _=>bn2 (λ_ _=>rfl)
 have kL:=gP (ps:=["_law_kept_here"]) X G e39 λ_ _ _ _ _ _=>bn1 (λ_=>rfl)
 have iL:=gP (ps:=["_law_run"]) X G e40 λ_ _ _ _ _ _=>bn1 (λ_=>rfl)
 have jh:=gP (ps:=["_law_line_here","_law_train_here","_law_goal","_law_ask"]) X G e41 λ_ _ _ _ _ _=>bn4 (λ_ _ _ _=>rfl)
 have j6:=gP (ps:=["_law_line_here","_law_train_here","_law_goal","_law_bounds","_law_order"]) X G e42 λ_ _ _ _ _ _=>bn5 (λ_ _ _ _ _=>rfl)
 have JR:=gP (ps:=["_law_script"]) X G e43 λ_ _ _ _ _ _=>bn1 (λ_=>rfl)
 refine⟨PySem.W.fnOf "law" "law" (mD vB) (kT vB) (fx vB) .none IX JH ID JN JJ JI,λs v=>.of_eq rfl,λbase _ _=>?_⟩
 have XR:Xr K mg _:=⟨XS.jr,⟨xb2.t,xb2.isc,xb2.p,xm2⟩⟩
 have XT:Xt K mg _:=⟨XS.pH⟩
 have XP:Xp K mg _:=⟨XS.pI⟩
 have XM:Xm K mg _:=⟨XS.rF⟩
 have mL:fE l.prog w K mg base CX0 2 _ _ _ _:=tO jg fB iF B.toBl
 have p9:fE l.prog w K mg base CX0 3 _ _ _ _:=yj kK fB fH fQ jg mL B.toBl
 have mE:fE l.prog w K mg base CX0 2 _ _ _ _:=wU iR B.toBl gQ jd
 have i8:fE l.prog w K mg base CX0 3 _ _ _ _:=yi gG fz iR mE
 have oS:fE l.prog w K mg base CX0 2 _ _ _ _:=wQ j4 fQ gu B.toBl
 have oR:fE l.prog w K mg base CX0 2 _ _ _ _:=wO jZ fB fQ gu B.toBl
 have oQ:fE l.prog w K mg base CX0 2 _ _ _ _:=vN jc B.toBl fz
 have mO:fE l.prog w K mg base (CXr l.prog w base) 2 _ _ _ _:=tS ji XR B nz gQ jd fz
 have jG:fE l.prog w K mg base (CXr l.prog w base) 3 _ _ _ _:=uR g8 XR B ji mO
 have h7:fE l.prog w K mg base (CXr l.prog w base) 4 _ _ _ _:=tQ fS B C XT gG i8
 have jQ:fE l.prog w K mg base (CXr l.prog w base) 5 _ _ _ _:=CZ ic B g8 jG fS h7 gA fZ jH
 have rH:fE l.prog w K mg base CX0 4 _ _ _ _:=zD lS B gG i8
 have mx:fE l.prog w K mg base CX0 1 _ _ _ _:=rZ iX O
 have rJ:fE l.prog w K mg base CX0 5 _ _ _ _:=zE lT B lS rH iX mx
 have ku:fE l.prog w K mg base (CXr l.prog w base) 6 _ _ _ _:=Bz ir B g8 jG fS h7 gA fZ lT rJ
 have Ab:fE l.prog w K mg base (CXr l.prog w base) 6 _ _ _ _:=CW rL B ic jQ jc fz
 have qK:fE l.prog w K mg base (CXr l.prog w base) 7 _ _ _ _:=CY jR B XP rL Ab jI fz
 have lR:fE l.prog w K mg base (CXr l.prog w base) 5 _ _ _ _:=zF iW B fS h7 gA
 have lQ:fE l.prog w K mg base CX0 3 _ _ _ _:=zC iV B j4 oS
 have Ad:fE l.prog w K mg base (CXr l.prog w base) 4 _ _ _ _:=ES rM XM gG i8
 have uJ:fE l.prog w K mg base (CXr l.prog w base) 5 _ _ _ _:=Bx nv B rM Ad
 have mM:fE l.prog w K mg base CX0 7 _ _ _ _:=tP jh XS B ic jQ ir ku iW lR kL
 have xx:fE l.prog w K mg base CX0 2 _ _ _ _:=C8 pJ B fY
 have h9:fE l.prog w K mg base CX0 2 _ _ _ _:=tR fM fY fz
 have lz:fE l.prog w K mg base CX0 1 _ _ _ _:=qV iL B
 have oT:fE l.prog w K mg base CX0 8 _ _ _ _:=wR j6 B iV lQ jh mM ic jQ ir ku iM iW lR fM h9
 exact GR JR B kK p9 fH fB jZ oR iV lQ jc oQ pJ xx jR qK ic jQ iL lz nv uJ fM h9 ir ku iM j6 oT
theorem walk {l:PySem.W.OpenLaw}{q:Program}{loose:List Str}{XP:(Str->Option Value)->Heap->Prop}{YP:World->Heap->Prop}{d:DefRec}{K:Params->PySem.W.Frag}(hn:l.most=some 63)(hdf:d.params.defaults = [])
  (hY:∀ (w:World) (h:Heap),YP w h->(K w.params).In h)
  (F:∀ (w:World) (mg:Str->Option Value) (fa:Addr) (h:Heap),(K w.params).In h->h.Ns mainGlobals mg->mg d.name=some (.ref fa)->
   ∃ fd:FuncData,(∀ (s:Shared) (u:Value),BindsTo s fd ⟨[u],[]⟩ [("_law_script",u)])/\∀ base:Heap,(K w.params).In base->base.Ns mainGlobals mg->fE l.prog w (K w.params) mg base CX0 9 fa fd ["_law_script"] (wb (K w.params))):
  PySem.W.WalkO q loose XP YP l.row.toRowW d [] (λf vs=>PySem.call f vs):=
 L2.Ej (n:=63) (k:=9) (x:= "_law_script") (CX:=λ_=>CX0) (sp:=λw=>wb (K w.params)) hn (by decide) hdf ⟨rfl,by decide,by decide⟩ hY F (λ_ _ a ns hl _ hS=>⟨a,ns,rfl,hS,λ_=>rfl⟩) λ_ _ _ _ _ z=>z
end K52
namespace PySem.W.Fast
def tw1000763883674422488:=0
def tw10106168518439553281:=0
def tw10138648537262601528:=0
def tw1013989368326085107:=0
def tw10144233580795979982:=0
def tw1018019273497135027:=0
def tw10233529972398180637:=0
def tw10308860479773611451:=0
def tw10421078695298628888:=0
def tw10457531037206987056:=0
def tw10536132565225112921:=0
def tw10629880663127079523:=0
def tw10653585455029312064:=0
def tw10704472800693368383:=0
def tw10713208638129262154:=0
def tw10785337315955919383:=0
def tw108212418555886968:=0
def tw10879256576645440563:=0
def tw10955558744957372451:=0
def tw10985519472596490621:=0
def tw1114152163445146800:=0
def tw11148177409961966385:=0
def tw11217459586105231876:=0
def tw11223579726460604724:=0
def tw11240928873854130724:=0
def tw11243357591729011972:=0
def tw11293850431573916577:=0
def tw11355684201495349408:=0
def tw11372005568140646594:=0
def tw11459406523344448926:=0
def tw11510022470912611445:=0
def tw11542334425307148308:=0
def tw11608283354844374506:=0
def tw11627423923592674291:=0
def tw11654425451558798798:=0
def tw11658492447169432142:=0
def tw11756899691308511437:=0
def tw11773496269048978604:=0
def tw1178648239085953853:=0
def tw11791060479418043333:=0
def tw11814030143558242249:=0
def tw11845201139008008615:=0
def tw11886514126664708694:=0
def tw11963834387430921115:=0
def tw12009560391889608563:=0
def tw12075436697842746270:=0
def tw12176959398079520444:=0
def tw12245194754962662408:=0
def tw12265746598829025683:=0
def tw1236690114241545945:=0
def tw12389749698409159607:=0
def tw1239781341246376226:=0
def tw12476070589024739248:=0
def tw12538324979447001425:=0
def tw12587643340354343248:=0
def tw12634135664153081838:=0
def tw12638065584911774656:=0
def tw12653491832563956412:=0
def tw1269493400266256788:=0
def tw12705753995160338297:=0
def tw1272431321754282884:=0
def tw12777493698332007731:=0
def tw12811522458714134478:=0
def tw12869851024937142977:=0
def tw12915527566728018427:=0
def tw12928144715215174188:=0
def tw12928269691877241725:=0
def tw12967300815495174246:=0
def tw13052768708947668401:=0
def tw13083752503213717347:=0
def tw13131402227656427815:=0
def tw13149798508058313525:=0
def tw132245030166425482:=0
def tw13264129362473299748:=0
def tw13441385347487607269:=0
def tw1345382647384930117:=0
def tw13468610401648013851:=0
def tw13472939871845252615:=0
def tw13479715694597553047:=0
def tw13489996039235732743:=0
def tw13525000819429208420:=0
def tw13540222636427915244:=0
def tw13540557721624906018:=0
def tw13555247176759666706:=0
def tw1357959737920070447:=0
def tw13711393967670007973:=0
def tw13748365446856061824:=0
def tw13795916160556442398:=0
def tw13823449365998249031:=0
def tw14009216516512906417:=0
def tw14016560911104346029:=0
def tw14031375644797104564:=0
def tw14179600324590361031:=0
def tw14184697322266844617:=0
def tw14186139270946688364:=0
def tw14230557304585490649:=0
def tw14235596770412072092:=0
def tw1444722728237978349:=0
def tw14597060202023101339:=0
def tw14636289485722653624:=0
def tw14722410155734283758:=0
def tw14734747933489918093:=0
def tw14769319755378342245:=0
def tw14815470029934111147:=0
def tw14841213093554772339:=0
def tw14926101085271319781:=0
def tw1495121331282248432:=0
def tw15120237231831070637:=0
def tw1512448983178943001:=0
def tw15176756166632951606:=0
def tw15288825190777742986:=0
def tw15319904844528378405:=0
def tw15386792879835254345:=0
def tw1540471217606682940:=0
def tw15460431876894022493:=0
def tw15469729944336925843:=0
def tw15505078006664260460:=0
def tw1551576952438611257:=0
def tw15550594088075338688:=0
def tw15612281318008091316:=0
def tw1562656285736812419:=0
def tw15663395554036361384:=0
def tw15724425610059114192:=0
def tw15789872488933575333:=0
def tw15790430144469399425:=0
def tw15797982470587140770:=0
def tw15822128410465536985:=0
def tw15881434642380002962:=0
def tw15885858457229274404:=0
def tw15968639081696115701:=0
def tw1610759612340849852:=0
def tw16135721616889383595:=0
def tw16176893517224689989:=0
def tw1623261441237894011:=0
def tw1623275517841809906:=0
def tw16236601633357523678:=0
def tw16258696978082697329:=0
def tw16262135604476418210:=0
def tw16341234696765617098:=0
def tw16349972246551619747:=0
def tw16367181446795792569:=0
def tw16530001693886683919:=0
def tw16530796644779959920:=0
def tw16541421769044693240:=0
def tw16554815360070627033:=0
def tw16599996721511355580:=0
def tw16613613139962170446:=0
def tw16619615689900237337:=0
def tw16652744417400931931:=0
def tw16654341135348245340:=0
def tw16664079792075768102:=0
def tw16668373387703855548:=0
def tw16735115557113443719:=0
def tw16824310880206667216:=0
def tw16928680805082331293:=0
def tw16983356487497502951:=0
def tw17008943869361331761:=0
def tw17066146701719297468:=0
def tw17179982085528319534:=0
def tw17201571247296369234:=0
def tw17214069177423866705:=0
def tw17299778212007060086:=0
def tw1730068434434008974:=0
def tw17339842718037344786:=0
def tw17357658130420466430:=0
def tw17417810585227453196:=0
def tw17485600310918703327:=0
def tw17642281222076004711:=0
def tw17660836353971843269:=0
def tw17685666067256265439:=0
def tw17807647992984683970:=0
def tw17926228152338322744:=0
def tw17946703476450800061:=0
def tw18071476394627945104:=0
def tw18157492600817858032:=0
def tw1818433486168290799:=0
def tw18203165681981102951:=0
def tw18214680464077378773:=0
def tw18349209436229545042:=0
def tw1835659654313581232:=0
def tw18361140718931674667:=0
def tw18393055682434561556:=0
def tw18398745791857492787:=0
def tw18400679525454654841:=0
def tw18407143905753682732:=0
def tw18442501992718464400:=0
def tw2042169880983160727:=0
def tw2065934254646523208:=0
def tw2115125378715059897:=0
def tw2180198437638452134:=0
def tw2194820670631104693:=0
def tw2220678037813701370:=0
def tw2226517180424832426:=0
def tw223230675498214677:=0
def tw2238256441135062728:=0
def tw2248998856354710772:=0
def tw2273390238338222603:=0
def tw2379295926215275662:=0
def tw2440965402181222584:=0
def tw2466172791289151961:=0
def tw2487940781475027679:=0
def tw2576680652976318367:=0
def tw2582501328796822394:=0
def tw2647546451665930964:=0
def tw2721632318878864730:=0
def tw272362503796255918:=0
def tw273155182736101038:=0
def tw2866109717684256624:=0
def tw2895704732514002043:=0
def tw2899593126773628610:=0
def tw2924932985216428229:=0
def tw298220578058747571:=0
def tw3035999675616511725:=0
def tw3134125049149506085:=0
def tw3203366056076691300:=0
def tw3209321063371856476:=0
def tw3212625938820011276:=0
def tw3245110358206495765:=0
def tw3280693477768845170:=0
def tw3354015530598356202:=0
def tw3511180857946825044:=0
def tw3570105314499190682:=0
def tw35834853998221090:=0
def tw360536958548132988:=0
def tw3636270693137903138:=0
def tw3712640805106964744:=0
def tw3768039005734050364:=0
def tw3864004055622668803:=0
def tw3883752660243765981:=0
def tw3974951235979619994:=0
def tw3975162233237617861:=0
def tw397773023800020059:=0
def tw4026125555847081160:=0
def tw4048047845716098790:=0
def tw4147351616731400945:=0
def tw4194484863579750131:=0
def tw4196355070209505176:=0
def tw423763879895848111:=0
def tw4309805749539643506:=0
def tw4340586281157128603:=0
def tw4392081821258034501:=0
def tw4421310177985401378:=0
def tw4426584977086850826:=0
def tw4440394827397174639:=0
def tw4479468375641230567:=0
def tw4496981832848203542:=0
def tw4500071217189445861:=0
def tw4557732243594467159:=0
def tw4575600139804285321:=0
def tw4615691492360583104:=0
def tw4695827663925953601:=0
def tw4705777918588872288:=0
def tw4722064379361741986:=0
def tw4770555493838108099:=0
def tw4779606414632755472:=0
def tw4780030890241384405:=0
def tw4791515983437857527:=0
def tw4791957735099321509:=0
def tw4883750111439537768:=0
def tw4988404466869596103:=0
def tw5009009588095618436:=0
def tw5021618669108962524:=0
def tw502961898129207641:=0
def tw5093252521480465268:=0
def tw526406691379438874:=0
def tw5295610160745449733:=0
def tw5313411350912393636:=0
def tw5394871190115561618:=0
def tw5399021905636595370:=0
def tw539916982595171859:=0
def tw5433425800554577349:=0
def tw5470633591093850329:=0
def tw5488443505751548270:=0
def tw5528989672330343687:=0
def tw5531059976348359979:=0
def tw5604749477327958829:=0
def tw5631513444394879538:=0
def tw5729708464945130079:=0
def tw5744780755593589686:=0
def tw5950447019172879978:=0
def tw6120640138242420181:=0
def tw6126159473379018023:=0
def tw6138264289508387176:=0
def tw6138290837941912215:=0
def tw6141519204598057996:=0
def tw6181828859759495052:=0
def tw6224215784493408037:=0
def tw6268241606043964700:=0
def tw6341436703287484637:=0
def tw640040767775776567:=0
def tw6420178788517032614:=0
def tw642325837325535773:=0
def tw6454752548179680382:=0
def tw6483032747670865712:=0
def tw6568102454410767378:=0
def tw6601569808415637877:=0
def tw6618309754714769100:=0
def tw6625560233453697852:=0
def tw6688525335135981592:=0
def tw6777596916173025892:=0
def tw6799290355018678052:=0
def tw6829079929621156268:=0
def tw6874736917017195810:=0
def tw6976425060336199994:=0
def tw7052940348374856063:=0
def tw7205150406340727460:=0
def tw7284380355985335728:=0
def tw7366965157252573891:=0
def tw737907933713643462:=0
def tw7411144630315300330:=0
def tw7471533168155874366:=0
def tw7476671871224133938:=0
def tw7498304637255570869:=0
def tw7498704460548728326:=0
def tw7523538476005634781:=0
def tw7597072618327171075:=0
def tw760726712976707666:=0
def tw7633854030739897814:=0
def tw7639748668362702560:=0
def tw7688059711180488989:=0
def tw7754902280992253897:=0
def tw777107671027633928:=0
def tw781912213014190793:=0
def tw785697344992657862:=0
def tw7871870168739032320:=0
def tw7927715456672003205:=0
def tw7935578102955990052:=0
def tw7983804390315685125:=0
def tw8047852121955471829:=0
def tw8146532136426569872:=0
def tw8251060599459354571:=0
def tw8327678936806816608:=0
def tw8329261334995962122:=0
def tw8353902836460540345:=0
def tw8373512830273162025:=0
def tw8386868735148986803:=0
def tw8422722924008901504:=0
def tw8432260187827943158:=0
def tw8444141081276514662:=0
def tw8476197758589324563:=0
def tw8505492937856258777:=0
def tw8529707117120225395:=0
def tw8556815019338266061:=0
def tw857976525463992243:=0
def tw8611986237593857187:=0
def tw8645137310081244991:=0
def tw86590087852945853:=0
def tw8694747845951640837:=0
def tw8783154415222111485:=0
def tw8831820410078057665:=0
def tw8835734556934147862:=0
def tw8873571532320709255:=0
def tw888043613881871977:=0
def tw8912135505110933456:=0
def tw8965329061740380494:=0
def tw8983332671843595643:=0
def tw9014354149777675780:=0
def tw9086326073317368110:=0
def tw9138480832135894406:=0
def tw9148734865108150330:=0
def tw9169514636216143901:=0
def tw9313869845715584457:=0
def tw9324552628586205908:=0
def tw9357858986870941763:=0
def tw9451904997009137558:=0
def tw9534894208302512950:=0
def tw956874975931477502:=0
def tw9576982259086680979:=0
def tw9618296745662856915:=0
def tw9618509768393395468:=0
def tw9671163839089953447:=0
def tw9747320213639946353:=0
def tw9783650314483655047:=0
def tw9805838659452958806:=0
def tw9813989934840990519:=0
def tw9820557543662427562:=0
def tw9899622984481302131:=0
def tw9928809767251535255:=0
end PySem.W.Fast
open PySem PySem.W PyProof.Rows
set_option maxRecDepth 100000 in
set_option maxHeartbeats 0 in
theorem PySem.Challenge.cw_turnline_k52_whole_finer_runs_holds : PySem.Challenge.rw_turnline_k52_whole_finer_runs.Holds := by
 w_on;o_law;k_head;(case hw=>w_witness2)
 k_fill
 refine K52.walk (l:=PySem.Challenge.rw_turnline_k52_whole_finer_runs) rfl rfl (λw h Y=>PySem.W.kIn_of Y) ?F
 case F=>
  intro w mg fa h KX G hmg
  refine' K52.all_mk KX G hmg ⟨?a1,?l1,?c1,?k1⟩ ⟨?a2,?l2,?c2,?k2⟩ ⟨?a3,?l3,?c3,?k3⟩ ⟨?a4,?l4,?c4,?k4⟩ ⟨?a5,?l5,?c5,?k5⟩ ⟨?a6,?l6,?c6,?k6⟩ ⟨?a7,?l7,?c7,?k7⟩ ⟨?a8,?l8,?c8,?k8⟩ ⟨?a9,?l9,?c9,?k9⟩ ⟨?a10,?l10,?c10,?k10⟩ ⟨?a11,?l11,?c11,?k11⟩ ⟨?a12,?l12,?c12,?k12⟩ ⟨?a13,?l13,?c13,?k13⟩ ⟨?a14,?l14,?c14,?k14⟩ ⟨?a15,?l15,?c15,?k15⟩ ⟨?a16,?l16,?c16,?k16⟩ ⟨?a17,?l17,?c17,?k17⟩ ⟨?a18,?l18,?c18,?k18⟩ ⟨?a19,?l19,?c19,?k19⟩ ⟨?a20,?l20,?c20,?k20⟩ ⟨?a21,?l21,?c21,?k21⟩ ⟨?a22,?l22,?c22,?k22⟩ ⟨?a23,?l23,?c23,?k23⟩ ⟨?a24,?l24,?c24,?k24⟩ ⟨?a25,?l25,?c25,?k25⟩ ⟨?a26,?l26,?c26,?k26⟩ ⟨?a27,?l27,?c27,?k27⟩ ⟨?a28,?l28,?c28,?k28⟩ ⟨?a29,?l29,?c29,?k29⟩ ⟨?a30,?l30,?c30,?k30⟩ ⟨?a31,?l31,?c31,?k31⟩ ⟨?a32,?l32,?c32,?k32⟩ ⟨?a33,?l33,?c33,?k33⟩ ⟨?a34,?l34,?c34,?k34⟩ ⟨?a35,?l35,?c35,?k35⟩ ⟨?a36,?l36,?c36,?k36⟩ ⟨?a37,?l37,?c37,?k37⟩ ⟨?a38,?l38,?c38,?k38⟩ ⟨?a39,?l39,?c39,?k39⟩ ⟨?a40,?l40,?c40,?k40⟩ ⟨?a41,?l41,?c41,?k41⟩ ⟨?a42,?l42,?c42,?k42⟩ ⟨?a43,?l43,?c43,?k43⟩ ?z1 ?z2 ?z3 ?z4 ?z5 ?z6 ?z7 ?z8 ?z9 ?z10 ?z11 ?z12 ?z13 ?z14 ?z15 ?z16 ?z17 ?z18 ?z19 ?ve ?xb0 ?xb1 ?xb2 ?xb3 ?xb4 ?xb5 ?xb6 ?xb7 ?xd1 ?xd2 ?xd3 ?xd4 ?xd5 ?xd6 ?xd7 ?xe1 ?xe2 ?xe3 ?xe4 ?xe5 ?xe6 ?xe7 ?nd ?xm2 ?ck0 ?wa ?wk
  case a1|l1|c1|k1|a2|l2|c2|k2|a3|l3|c3|k3|a4|l4|c4|k4|a5|l5|c5|k5|a6|l6|c6|k6|a7|l7|c7|k7|a8|l8|c8|k8|a9|l9|c9|k9|a10|l10|c10|k10|a11|l11|c11|k11|a12|l12|c12|k12|a13|l13|c13|k13|a14|l14|c14|k14|a15|l15|c15|k15|a16|l16|c16|k16|a17|l17|c17|k17|a18|l18|c18|k18|a19|l19|c19|k19|a20|l20|c20|k20|a21|l21|c21|k21|a22|l22|c22|k22|a23|l23|c23|k23|a24|l24|c24|k24|a25|l25|c25|k25|a26|l26|c26|k26|a27|l27|c27|k27|a28|l28|c28|k28|a29|l29|c29|k29|a30|l30|c30|k30|a31|l31|c31|k31|a32|l32|c32|k32|a33|l33|c33|k33|a34|l34|c34|k34|a35|l35|c35|k35|a36|l36|c36|k36|a37|l37|c37|k37|a38|l38|c38|k38|a39|l39|c39|k39|a40|l40|c40|k40|a41|l41|c41|k41|a42|l42|c42|k42|a43|l43|c43|k43|z1|z2|z3|z4|z5|z6|z7|z8|z9|z10|z11|z12|z13|z14|z15|z16|z17|z18|z19=>k_is
  (case ve=>k_is)
  (case xb0=>refine'⟨?u1,?u2,?u3,?u4,?u5,?u6,?u7,?u8,?u9⟩;(case u1=>k_is);(case u2=>k_exc);(case u3=>k_is);(case u4=>k_is);(case u5=>k_is);(case u6=>k_is);(case u7=>k_is);(case u8=>k_is);(case u9=>k_is))
  (case xb1=>refine'⟨?u1,?u2,?u3,?u4,?u5,?u6,?u7,?u8,?u9⟩;(case u1=>k_is);(case u2=>k_exc);(case u3=>k_is);(case u4=>k_is);(case u5=>k_is);(case u6=>k_is);(case u7=>k_is);(case u8=>k_is);(case u9=>k_is))
  (case xb2=>refine'⟨?u1,?u2,?u3,?u4,?u5,?u6,?u7,?u8,?u9⟩;(case u1=>k_is);(case u2=>k_exc);(case u3=>k_is);(case u4=>k_is);(case u5=>k_is);(case u6=>k_is);(case u7=>k_is);(case u8=>k_is);(case u9=>k_is))
  (case xb3=>refine'⟨?u1,?u2,?u3,?u4,?u5,?u6,?u7,?u8,?u9⟩;(case u1=>k_is);(case u2=>k_exc);(case u3=>k_is);(case u4=>k_is);(case u5=>k_is);(case u6=>k_is);(case u7=>k_is);(case u8=>k_is);(case u9=>k_is))
  (case xb4=>refine'⟨?u1,?u2,?u3,?u4,?u5,?u6,?u7,?u8,?u9⟩;(case u1=>k_is);(case u2=>k_exc);(case u3=>k_is);(case u4=>k_is);(case u5=>k_is);(case u6=>k_is);(case u7=>k_is);(case u8=>k_is);(case u9=>k_is))
  (case xb5=>refine'⟨?u1,?u2,?u3,?u4,?u5,?u6,?u7,?u8,?u9⟩;(case u1=>k_is);(case u2=>k_exc);(case u3=>k_is);(case u4=>k_is);(case u5=>k_is);(case u6=>k_is);(case u7=>k_is);(case u8=>k_is);(case u9=>k_is))
  (case xb6=>refine'⟨?u1,?u2,?u3,?u4,?u5,?u6,?u7,?u8,?u9⟩;(case u1=>k_is);(case u2=>k_exc);(case u3=>k_is);(case u4=>k_is);(case u5=>k_is);(case u6=>k_is);(case u7=>k_is);(case u8=>k_is);(case u9=>k_is))
  (case xb7=>refine'⟨?u1,?u2,?u3,?u4,?u5,?u6,?u7,?u8,?u9⟩;(case u1=>k_is);(case u2=>k_exc);(case u3=>k_is);(case u4=>k_is);(case u5=>k_is);(case u6=>k_is);(case u7=>k_is);(case u8=>k_is);(case u9=>k_is))
  (case xd1=>refine'⟨?u1,?u2⟩;(case u1=>k_is);(case u2=>k_is))
  (case xd2=>refine'⟨?u1,?u2⟩;(case u1=>k_is);(case u2=>k_is))
  (case xd3=>refine'⟨?u1,?u2⟩;(case u1=>k_is);(case u2=>k_is))
  (case xd4=>refine'⟨?u1,?u2⟩;(case u1=>k_is);(case u2=>k_is))
  (case xd5=>refine'⟨?u1,?u2⟩;(case u1=>k_is);(case u2=>k_is))
  (case xd6=>refine'⟨?u1,?u2⟩;(case u1=>k_is);(case u2=>k_is))
  (case xd7=>refine'⟨?u1,?u2⟩;(case u1=>k_is);(case u2=>k_is))
  (case xe1=>refine'⟨?u1,?u2,?u3,?u4,?u5,?u6⟩;(case u1=>k_is);(case u2=>k_is);(case u3=>k_is);(case u4=>k_is);(case u5=>k_is);(case u6=>k_is))
  (case xe2=>refine'⟨?u1,?u2,?u3,?u4,?u5,?u6⟩;(case u1=>k_is);(case u2=>k_is);(case u3=>k_is);(case u4=>k_is);(case u5=>k_is);(case u6=>k_is))
  (case xe3=>refine'⟨?u1,?u2,?u3,?u4,?u5,?u6⟩;(case u1=>k_is);(case u2=>k_is);(case u3=>k_is);(case u4=>k_is);(case u5=>k_is);(case u6=>k_is))
  (case xe4=>refine'⟨?u1,?u2,?u3,?u4,?u5,?u6⟩;(case u1=>k_is);(case u2=>k_is);(case u3=>k_is);(case u4=>k_is);(case u5=>k_is);(case u6=>k_is))
  (case xe5=>refine'⟨?u1,?u2,?u3,?u4,?u5,?u6⟩;(case u1=>k_is);(case u2=>k_is);(case u3=>k_is);(case u4=>k_is);(case u5=>k_is);(case u6=>k_is))
  (case xe6=>refine'⟨?u1,?u2,?u3,?u4,?u5,?u6⟩;(case u1=>k_is);(case u2=>k_is);(case u3=>k_is);(case u4=>k_is);(case u5=>k_is);(case u6=>k_is))
  (case xe7=>refine'⟨?u1,?u2,?u3,?u4,?u5,?u6⟩;(case u1=>k_is);(case u2=>k_is);(case u3=>k_is);(case u4=>k_is);(case u5=>k_is);(case u6=>k_is))
  (case nd=>decide)
  (case xm2=>k_is)
  (case ck0=>k_is)
  (case wa=>k_is)
  (case wk=>first |k_is |rfl)

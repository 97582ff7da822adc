import PyProof.Rows.All
import Wide.All
import OpenK.AllK
import Wide.FinOn
import PyProof.EqAt
import PyProof.EqKinds
import PyProof.TupleCall
import PyProof.CompFree
import PyProof.EvalArms
import KE.BitLaws
import OpenK.KOwn
import KE.KIsAll
import PyProof.ExcArgsOwn
import PyProof.IsiH_list
import PyProof.NsDelKeeps
import PyProof.ExcAttrAll.ValueError
import PyProof.ExcBaseAll.ValueError
import PyProof.ZipIter
import PyProof.Rows.SumAny
import KE.LcSums
import PyProof.SetRoads
import PyProof.Rows.SetFrom
import KE.KSetDisp
import PyProof.DictIter
import PyProof.DictRoadsH
import PyProof.Rows.TupDisplay
import PyProof.FString
import PyProof.FactsAll.list_1
import PyProof.CollectWalk
import PyProof.StrWalks
import PyProof.StrLawsTight
import PyProof.StrLawsChain
import PyProof.StrLawsIn
import PyProof.StrCalls2
import PyProof.StrBlockG
import PyProof.SliceStr2
import KE.KIntText
import PyProof.CollectIter
import PyProof.Walks
import PyProof.SetKind
import PyProof.TupleKey
import PyProof.IsRules
import PyProof.SetNew
import PyProof.StrOps2
import PyProof.Rows.Range3
import PyProof.DictCompW
import KE.KDictSum
import PyProof.Rows.SeqMore
import PyProof.DictItems
import KE.KPairComp
import KE.KDictList
import PyProof.WalkInts
import PyProof.Rows.FactsN_abs
import PySem.Challenge.RW_turnline_k21_whole_fewest_changes
abbrev aa:=@List.length_map
abbrev ae:=@PySem.wpAny_bind
abbrev af:=@List.getElem?_eq_some_iff
abbrev ah:=@List.getElem?_eq_getElem
abbrev ai:=@PySem.wpAny_pure
abbrev aj:=@List.getElem?_map
abbrev ak:=@List.length_append
abbrev ao:=@List.mem_map
abbrev aq:=@List.getElem?_append_left
abbrev au:=@Nat.le_refl
abbrev av:=@List.mem_of_getElem?
abbrev aw:=@List.mem_cons_of_mem
abbrev ax:=@PySem.Heap.get?_push_of_some
abbrev ay:=@List.mem_append_right
abbrev az:=@List.getElem?_append_right
abbrev aA:=@List.mem_cons_self
abbrev aB:=@List.map_append
abbrev aC:=@PySem.Heap.lt_size
abbrev aD:=@Bool.false_ne_true
abbrev aE:=@if_neg
abbrev aF:=@List.mem_append
abbrev aG:=@List.mem_cons
abbrev aH:=@PySem.F.plainAttrs_list
abbrev aI:=@List.length_singleton
abbrev aJ:=@if_pos
abbrev aK:=@Nat.zero_le
abbrev aL:=@Nat.ne_of_lt
abbrev aM:=@List.size_toArray
abbrev aN:=@List.getD_eq_getElem?_getD
abbrev aO:=@Bool.false_eq_true
abbrev aP:=@Option.some.inj
abbrev aQ:=@PySem.Heap.get?_push_size
abbrev aR:=@List.length_cons
abbrev aS:=@List.mem_append_left
abbrev aT:=@List.length_take
abbrev aU:=@decide_eq_false
abbrev aV:=@PySem.PassesOwn.never
abbrev aW:=@Array.length_toList
abbrev aX:=@Nat.lt_of_lt_of_le
abbrev aY:=@Classical.byContradiction
abbrev aZ:=@PySem.W.mg_none_of
abbrev bc:=@PySem.F.type_list_append
abbrev bf:=@PySem.F.slot_list_append
abbrev bg:=@List.map_cons
abbrev bh:=@List.take_add_one
abbrev bj:=@List.mem_iff_getElem
abbrev bo:=@PySem.wpAny_mono
abbrev bq:=@List.getElem?_eq_none
abbrev br:=@List.take_length
abbrev bu:=@Nat.sub_self
abbrev bx:=@List.mem_singleton
abbrev bz:=@List.map_map
abbrev bA:=@decide_eq_true
abbrev bB:=@List.nodup_cons
abbrev bC:=@Array.getElem?_eq_some_iff
abbrev bD:=@Array.getElem?_eq_getElem
abbrev bE:=@List.length_drop
abbrev bF:=@Nat.le_trans
abbrev bG:=@if_false
abbrev bH:=@Array.getElem?_toList
abbrev bI:=@Ne.symm
abbrev bJ:=@Bool.eq_iff_iff
abbrev bK:=@List.prefix_refl
abbrev bL:=@congrArg
abbrev bM:=@PyProof.Rows.boot_isinstance
abbrev bN:=@PySem.W.kia_one
abbrev bO:=@List.lookup_cons
abbrev bP:=@List.mem_range
abbrev bQ:=@List.nodup_append
abbrev bR:=@PySem.wpAny_call_entry
abbrev bS:=@List.length_filter_le
abbrev bT:=@PySem.boot_len
abbrev bU:=@Bool.not_true
abbrev bV:=@PyProof.Rows.boot_tuple
abbrev bW:=@List.mem_filter
abbrev bX:=@PySem.wpAny_newObj_type
abbrev bY:=@Nat.lt_of_le_of_lt
abbrev bZ:=@PySem.Paired.length
abbrev b8:=@PySem.F.slot_dict_keyiterator_next
abbrev b9:=@Nat.mul_assoc
abbrev cb:=@PySem.F.excBase_ValueError
abbrev cf:=@Nat.le_of_lt
abbrev cg:=@List.take_of_length_le
abbrev cj:=@List.length_range
abbrev ck:=@List.find?_cons_of_neg
abbrev cm:=@List.find?_cons
abbrev cq:=@decide_eq_true_iff
abbrev cu:=@List.getElem_map
abbrev cw:=@Int.emod_lt_of_pos
abbrev cx:=@Nat.exists_eq_add_of_le
abbrev cy:=@PySem.wpAny_comprehension_free
abbrev cz:=@List.length_zip
abbrev cA:=@PySem.mem_of_lookup
abbrev cB:=@List.length_reverse
abbrev cC:=@PySem.F.slot_dict_itemiterator_next
abbrev cD:=@PyProof.Rows.callWith_type1
abbrev cE:=@List.find?_cons_of_pos
abbrev cF:=@PySem.wpAny_truthy_bool
abbrev cG:=@List.getElem_inj
abbrev cH:=@List.nodup_nil
abbrev cI:=@List.getElem?_drop
abbrev cJ:=@PySem.sizeLine_eq
abbrev cK:=@List.forIn_cons
abbrev cL:=@Int.emod_nonneg
abbrev cM:=@List.pairwise_map
abbrev cN:=@Option.isSome_iff_exists
abbrev cO:=@Nat.lt_irrefl
abbrev cP:=@if_true
abbrev cQ:=@PyProof.Rows.boot_list
abbrev cR:=@List.toList_toArray
abbrev cS:=@List.not_mem_nil
abbrev cT:=@List.getElem?_cons_succ
abbrev cU:=@PySem.wpAny_standAt
abbrev cV:=@Nat.ne_of_gt
abbrev cW:=@List.prefix_append
abbrev cX:=@PySem.wpAny_typeNameOfWhole_itemiter
abbrev cY:=@Bool.and_true
abbrev cZ:=@List.take_append_drop
abbrev de:=@PySem.wpAny_typeNameOfWhole_keyiter
abbrev df:=@List.reverse_cons
abbrev dh:=@List.foldl_append
abbrev di:=@PySem.wpAny_passesOwn
abbrev dj:=@Prod.ext
abbrev dq:=@Nat.pow_le_pow_right
abbrev dw:=@PySem.wpAny_holding
abbrev dy:=@Nat.le_add_right
abbrev dz:=@Int.min_eq_right
abbrev dA:=@Int.max_eq_right
abbrev dB:=@PySem.wpAny_dictEntries
abbrev dC:=@List.pairwise_iff_getElem
abbrev dD:=@List.getElem?_zip_eq_some
abbrev dE:=@List.filterMap_cons
abbrev dF:=@PySem.wpAny_newFunctionEnv
abbrev dG:=@List.length_erase_of_mem
abbrev dH:=@List.Pairwise.imp_of_mem
abbrev dN:=@List.append_nil
abbrev dO:=@Int.min_eq_left
abbrev dQ:=@Int.max_eq_left
abbrev dS:=@Array.forIn_toList
abbrev dU:=@PySem.wpAny_typeNameOf_itemiter
abbrev dX:=@PySem.Heap.SameBut.update
abbrev dY:=@PySem.wpAny_typeNameOf_keyiter
abbrev dZ:=@decide_eq_true_eq
abbrev d8:=@PySem.SetTable.toList_insertAt
abbrev d9:=@Nat.pow_succ
abbrev ed:=@List.ext_getElem?
abbrev ef:=@Int.toNat_natCast
abbrev eh:=@PySem.wpAny_specialOf
abbrev en:=@PySem.wpAny_execs_nil
abbrev eu:=@PySem.wpAny_dictEpoch
abbrev ez:=@PySem.wpAny_setField_rec
abbrev eA:=@PySem.tupleKind_room_in1
abbrev eB:=@PySem.wpAny_callSpecial?_slot
abbrev eC:=@List.mem_iff_getElem?
abbrev eE:=@beq_self_eq_true
abbrev eG:=@List.getElem_mem
abbrev eI:=@List.any_eq_true
abbrev eJ:=@List.map_drop
abbrev eK:=@PySem.wpAny_setState_of
abbrev eL:=@List.mem_of_mem_drop
abbrev eM:=@List.mem_erase_of_ne
abbrev eN:=@List.length_dropLast
abbrev eO:=@List.getElem?_set_ne
abbrev eQ:=@PySem.F.slot_tuple_hash
abbrev eR:=@PySem.Calls.callWith_builtin
abbrev eS:=@Array.mem_toList_iff
abbrev eT:=@Option.map_some
abbrev eU:=@List.length_nil
abbrev eV:=@beq_eq_false_iff_ne
abbrev eX:=@List.mem_map_of_mem
abbrev eY:=@List.getElem?_range
abbrev eZ:=@PySem.wpAny_isInstance
abbrev fb:=@List.mem_filterMap
abbrev fc:=@Bool.not_false
abbrev fe:=@PySem.F.slot_dict_getitem
abbrev fh:=@List.mem_of_find?_eq_some
abbrev fi:=@List.getLastD_eq_getLast?
abbrev fj:=@Option.isSome_map
abbrev fk:=@List.getElem_take
abbrev fm:=@List.append_assoc
abbrev fo:=@PySem.F.slot_list_insert
abbrev fq:=@Nat.lt_succ_iff_lt_or_eq
abbrev ft:=@Nat.add_assoc
abbrev fu:=@List.getElem?_take_of_lt
abbrev fv:=@PySem.wpAny_Call_Name_kw
abbrev fw:=@PySem.call_meets
abbrev fx:=@List.map_reverse
abbrev fy:=@List.all_eq_true
abbrev fz:=@Bool.and_eq_true
set_option Elab.async false
set_option linter.all false
set_option maxRecDepth 100000
namespace L2
open PySem PySem.Spec PyProof.Rows
abbrev Key:=Sum Int Str
def xf:Key->Value->Bool
 |.inl k,v=>Value.isInt k v
 |.inr x,v=>Value.isStrOf x v
def ON (w:World):Key->Int
 |.inl k=>hashInt k
 |.inr x=>hashStr w x
theorem iO:∀ {k:Key}{v:Value},xf k v=true->(∃ i t,k=Sum.inl i/\v=Value.int i t)\/(∃ x t,k=Sum.inr x/\v=Value.str x t)
 |.inl i,v,h=>by
  obtain⟨t,e⟩:=Value.isInt_shape (k:=i) (v:=v) h
  exact .inl ⟨i,t,rfl,e⟩
 |.inr x,v,h=>by
  obtain⟨t,e⟩:=Value.isStrOf_shape (x:=x) (v:=v) h
  exact .inr ⟨x,t,rfl,e⟩
theorem Dc (i:Int)(t:Tok):xf (.inl i) (.int i t)=true:=by simp[xf,Value.isInt]
theorem C9 (x:Str)(t:Tok):xf (.inr x) (.str x t)=true:=by simp[xf,Value.isStrOf]
theorem IH (a b:Int):decide ((Sum.inl a:Key)=Sum.inl b)=(a==b):=by
 by_cases e:a=b
 ·subst e;simp
 ·have h:¬(Sum.inl a:Key)=Sum.inl b:=λq=>e (Sum.inl.inj q)
  rw[aU h]
  exact(eV.mpr e).symm
theorem IE (a b:Str):decide ((Sum.inr a:Key)=Sum.inr b)=decide (a=b):=by
 by_cases e:a=b
 ·subst e;simp
 ·have h:¬(Sum.inr a:Key)=Sum.inr b:=λq=>e (Sum.inr.inj q)
  rw[aU h,aU e]
theorem IG (a:Int)(b:Str):decide ((Sum.inl a:Key)=Sum.inr b)=false:=aU (λq=>nomatch q)
theorem IF (a:Str)(b:Int):decide ((Sum.inr a:Key)=Sum.inl b)=false:=aU (λq=>nomatch q)
def gF (prog:Program)(w:World):PySem.KeyKind prog w Key where
 is:=xf
 hash:=ON w
 inj:=λv a b ha hb=>by
  rcases iO ha with⟨i,t,rfl,rfl⟩|⟨x,t,rfl,rfl⟩
  ·rcases iO hb with⟨j,u,rfl,e⟩|⟨y,u,rfl,e⟩
   ·injection e with e1 _;rw[e1]
   ·exact nomatch e
  ·rcases iO hb with⟨j,u,rfl,e⟩|⟨y,u,rfl,e⟩
   ·exact nomatch e
   ·injection e with e1 _;rw[e1]
 byValue:=λk v h=>by
  rcases iO h with⟨i,t,rfl,rfl⟩|⟨x,t,rfl,rfl⟩<;>rfl
 pyHash:=λhv h=>by
  rcases iO hv with⟨i,t,rfl,rfl⟩|⟨x,t,rfl,rfl⟩
  ·exact wpAny_pyHash_int h
  ·exact wpAny_pyHash_str h
 eqBool:=λhu hv h=>by
  rcases iO hu with⟨i,t,rfl,rfl⟩|⟨x,t,rfl,rfl⟩
  ·rcases iO hv with⟨j,u,rfl,rfl⟩|⟨y,u,rfl,rfl⟩
   ·rw[IH]at h;exact wpAny_eqBool_int h
   ·rw[IG]at h;exact SeqAt.EqAt.int_str i t y u _ _ _ _ h
  ·rcases iO hv with⟨j,u,rfl,rfl⟩|⟨y,u,rfl,rfl⟩
   ·rw[IF]at h;exact SeqAt.EqAt.str_int x t j u _ _ _ _ h
   ·rw[IE]at h;exact wpAny_eqBool_str h
 «strs» :=λk x t v h=>by
  rcases iO h with⟨i,u,rfl,e⟩|⟨y,u,rfl,e⟩
  ·exact nomatch e
  ·injection e with e1 _
   subst e1
   cases v<;>rfl
theorem zx (prog:Program)(w:World)(i:Int)(t:Tok):(gF prog w).is (.inl i) (.int i t)=true:=Dc i t
theorem zw (prog:Program)(w:World)(x:Str)(t:Tok):(gF prog w).is (.inr x) (.str x t)=true:=C9 x t
inductive V where
 |non |bl (b:Bool)|int (i:Int)|str (x:Str)|byt (b:Array UInt8)|flt (b:UInt64)|ref (a:Addr)|ty (n:String)
 deriving DecidableEq
def RelV:V->Value->Prop
 |.non,u=>u=Value.none
 |.bl b,u=>u=Value.bool b
 |.int i,u=>∃ t,u=Value.int i t
 |.str x,u=>∃ t,u=Value.str x t
 |.byt b,u=>∃ t,u=Value.bytes b t
 |.flt b,u=>∃ t,u=Value.float b t
 |.ref a,u=>u=Value.ref a
 |.ty n,u=>u=Value.type n
abbrev Vals:List V->List Value->Prop:=Paired RelV
theorem Vals.length {xs:List V}{us:List Value}(r:Vals xs us):xs.length=us.length:=bZ r
theorem Vals.get:∀ {xs:List V}{us:List Value}{i:Nat}{x:V},Vals xs us->xs[i]? = some x->∃ u,us[i]? = some u/\RelV x u
 |_,_,_,_,.nil,e=>by simp at e
 |_,_,0,_,.cons r _,e=>by simp at e;subst e;exact⟨_,rfl,r⟩
 |_,_,i+1,x,.cons _ t,e=>by
  obtain⟨u,h1,h2⟩:=Vals.get (i:=i) (x:=x) t (by simpa using e)
  exact⟨u,by simpa using h1,h2⟩
theorem Vals.append:∀ {xs ys:List V}{us ws:List Value},Vals xs us->Vals ys ws->Vals (xs++ys) (us++ws)
 |_,_,_,_,.nil,s=>s
 |_,_,_,_,.cons r t,s=>.cons r (Vals.append t s)
theorem Vals.take:∀ {xs:List V}{us:List Value} (n:Nat),Vals xs us->Vals (xs.take n) (us.take n)
 |_,_,0,_=>.nil
 |_,_,_+1,.nil=>.nil
 |_,_,n+1,.cons r t=>.cons r (Vals.take n t)
theorem Vals.drop:∀ {xs:List V}{us:List Value} (n:Nat),Vals xs us->Vals (xs.drop n) (us.drop n)
 |_,_,0,r=>r
 |_,_,_+1,.nil=>.nil
 |_,_,n+1,.cons _ t=>Vals.drop n t
def qC:Option V->Option Value->Prop
 |some v,some u=>RelV v u
 |none,none=>True
 |_,_=>False
def KV {κ:Type} :List (κ×V)->List (κ×Value)->Prop:=Paired λ(p:κ×V) (q:κ×Value)=>p.1=q.1/\RelV p.2 q.2
def kV:Key->V
 |.inl i=>.int i
 |.inr x=>.str x
inductive HO where
 /-- a list -/
 |lst (xs:List V)
 /-- a tuple (never changes) -/
 |tup (xs:List V)
 /-- a dict Ju keys are ints and texts;one Ju keys are tuples of ints and texts (the empty one is both) -/
 |dK (kvs:List (Key×V))|dT (kvs:List (List Key×V))
 /-- a set of ints:its members,its size -/
 |set (S:Int->Bool) (n:Nat)
 /-- an instance of the class at C,its dict at dx,its attributes -/
 |ins (C dx:Addr) (fs:List (Str×V))
 /-- the dict of the instance at x -/
 |own (x:Addr)
 /-- the dict of an exception -/
 |xd (fs:List (Str×V))
 /-- a bound method,f of x -/
 |met (f x:Addr)
 /-- a range object lo,lo+1,.. below hi -/
 |rng (lo hi:Int)
 /-- a JC SD is known to the object (the ME;a dict while a loop walks it):read,never written while it is so -/
 |frz (o:Obj) (u:HO)
 /-- a code Ki table -/
 |tbl (ps:Array Value)
 /-- any other JC,by Sz is true of its one object (a def of Sx own:qh a S n:=HO.ext λh=>..) -/
 |ext (φ:Heap->Prop)
abbrev Hp:=Addr->Option HO
def upd (H:Hp)(a:Addr)(o:HO):Hp:=λb=>if b=a then some o else H b
theorem fC {H:Hp}{a:Addr}{o:HO} :upd H a o a=some o:=by unfold upd;rw[aJ rfl]
theorem fG {H:Hp}{a b:Addr}{o:HO}(h:b≠a):upd H a o b=H b:=by unfold upd;rw[aE h]
theorem qM {H:Hp}{a:Addr}{o u:HO} :upd (upd H a o) a u=upd H a u:=by
 funext b;unfold upd;split<;>rfl
theorem gA {H:Hp}{a b:Addr}{o u:HO}(h:H a=some o)(h':H b=some u)(d:o≠u):a≠b:=by
 intro e;subst e;rw[h]at h';exact d (aP h')
theorem fK {H:Hp}{a b:Addr}{o:HO}(h:H a=some o)(h':H b=none):a≠b:=by
 intro e;subst e;rw[h]at h';cases h'
section
variable (P:Program)(w:World)
def iA (H:Hp)(h:Heap)(a:Addr):HO->Prop
 |.lst xs=>xs.length<=sizeLine/\∃ (its:List Value) (n:Nat),Vals xs its/\h.get? a=some {cls:=.type "list",data:=.seq its.toArray n}
 |.tup xs=>xs.length<=sizeLine/\∃ its:List Value,Vals xs its/\IsTup h a its.toArray
 |.dK kvs=>kvs.length<=sizeLine/\(a==sysModules)=false/\∃ vs,KV kvs vs/\h.DictOf (gF P w) a vs
 |.dT kvs=>kvs.length<=sizeLine/\(a==sysModules)=false/\∃ xs:List (List Key×Addr×Value),
   Paired (λ(p:List Key×V) (q:List Key×Addr×Value)=>p.1=q.1/\H q.2.1=some (.tup (p.1.map kV))/\RelV p.2 q.2.2) kvs xs/\
   ∃ o es ep,h.get? a=some o/\o.ExactDict/\o.data = .dict es ep/\es.toList=xs.map (entryOfKey (tupleKind (gF P w)))/\(xs.map (·.1)).Nodup
 |.set S n=>h.SetOf (intKind P w) a S n
 |.ins C dx fs=>H dx=some (.own a)/\fs.length<=1000/\dx≠a/\h.get? a=some (PySem.W.instObj C dx)/\
   ∃ mA,h.Ns1 dx mA/\(∀ f,qC (fs.lookup f) (mA f))/\PySem.Within mA (fs.map (·.1))
 |.own _=>∃ o,h.get? a=some o
 |.xd fs=>∃ mA,h.Ns1 a mA/\∀ f,qC (fs.lookup f) (mA f)
 |.rng lo hi=>∃ t u v,h.get? a=some {cls:=.type "range",data:=.fields #[.int lo t,.int hi u,.int 1 v]}
 |.frz o u=>h.get? a=some o/\iA H h a u
 |.tbl ps=>h.get? a=some {cls:=.none,data:=.fields ps}
 |.met f x=>h.get? a=some (PySem.W.methodObj (.ref f) (.ref x))
 |.ext φ=>φ h/\(∃ o,h.get? a=some o)/\∀ h1 h2:Heap,φ h1->(∀ o,h1.get? a=some o->h2.get? a=some o)->φ h2
def HOk (H:Hp)(h:Heap):Prop:=∀ a o,H a=some o->iA P w H h a o
end
section
variable {P:Program}{w:World}{H H':Hp}{h h':Heap}{a:Addr}{o:HO}
theorem iA.lt (x:iA P w H h a o):a<h.objs.size:=by
 cases o with
 |lst xs=>obtain⟨_,_,_,_,e⟩:=x;exact aC e
 |tup xs=>obtain⟨_,_,_,p⟩:=x;exact p.lt
 |dK kvs=>obtain⟨_,_,_,_,o,_,_,e,_⟩:=x;exact aC e
 |dT kvs=>obtain⟨_,_,_,_,o,_,_,e,_⟩:=x;exact aC e
 |set S n=>obtain⟨o,_,_,_,e,_⟩:=x;exact aC e
 |ins C dx fs=>obtain⟨_,_,_,e,_⟩:=x;exact aC e
 |own y=>obtain⟨_,e⟩:=x;exact aC e
 |xd fs=>obtain⟨_,⟨_,_,_,e,_⟩,_⟩:=x;exact aC e
 |rng lo hi=>obtain⟨_,_,_,e⟩:=x;exact aC e
 |frz ob u=>obtain⟨e,_⟩:=x;exact aC e
 |tbl ps=>exact aC (show h.get? a=some _ from x)
 |met f y=>exact aC (show h.get? a=some _ from x)
 |ext φ=>obtain⟨_,⟨_,e⟩,_⟩:=x;exact aC e
theorem Paired.IA {α β:Type}{F G:α->β->Prop} :∀ {l₁:List α}{l₂:List β},Paired F l₁ l₂->(∀ a b,F a b->G a b)->Paired G l₁ l₂
 |_,_,.nil,_=>.nil
 |_,_,.cons r t,f=>.cons (f _ _ r) (Paired.IA t f)
theorem iA.lA (x:iA P w H h a o)(k:∀ b u,(b=a\/H b=some (.own a))->h.get? b=some u->h'.get? b=some u)
  (ho:∀ b,H b=some (.own a)->H' b=some (.own a)) (ht:∀ b xs,H b=some (.tup xs)->H' b=some (.tup xs)):iA P w H' h' a o:=by
 induction o with
 |lst xs=>obtain⟨z,its,n,r,e⟩:=x;exact⟨z,its,n,r,k _ _ (.inl rfl) e⟩
 |tup xs=>obtain⟨z,its,r,ob,e,c⟩:=x;exact⟨z,its,r,ob,k _ _ (.inl rfl) e,c⟩
 |dK kvs=>obtain⟨z,y,vs,r,ob,es,ep,e,c⟩:=x;exact⟨z,y,vs,r,ob,es,ep,k _ _ (.inl rfl) e,c⟩
 |dT kvs=>
  obtain⟨z,y,xs,r,ob,es,ep,e,c⟩:=x
  exact⟨z,y,xs,Paired.IA r λp q z=>⟨z.1,ht _ _ z.2.1,z.2.2⟩,ob,es,ep,k _ _ (.inl rfl) e,c⟩
 |set S n=>obtain⟨ob,es,ep,t,e,c⟩:=x;exact⟨ob,es,ep,t,k _ _ (.inl rfl) e,c⟩
 |ins C dx fs=>
  obtain⟨d,z,ne,e,mA,⟨od,es,ep,e2,c⟩,r⟩:=x
  exact⟨ho _ d,z,ne,k _ _ (.inl rfl) e,mA,⟨od,es,ep,k _ _ (.inr d) e2,c⟩,r⟩
 |own y=>obtain⟨ob,e⟩:=x;exact⟨ob,k _ _ (.inl rfl) e⟩
 |xd fs=>obtain⟨mA,⟨od,es,ep,e,c⟩,r⟩:=x;exact⟨mA,⟨od,es,ep,k _ _ (.inl rfl) e,c⟩,r⟩
 |rng lo hi=>obtain⟨t,u,v,e⟩:=x;exact⟨t,u,v,k _ _ (.inl rfl) e⟩
 |frz ob u ih=>obtain⟨e,q⟩:=x;exact⟨k _ _ (.inl rfl) e,ih q⟩
 |tbl ps=>
  have e:h.get? a=some {cls:=.none,data:=.fields ps} :=x
  show h'.get? a=some {cls:=.none,data:=.fields ps}
  exact k a _ (.inl rfl) e
 |met f y=>
  have e:h.get? a=some (PySem.W.methodObj (.ref f) (.ref y)):=x
  show h'.get? a=some (PySem.W.methodObj (.ref f) (.ref y))
  exact k a _ (.inl rfl) e
 |ext φ=>obtain⟨p,⟨o,e⟩,st⟩:=x;exact⟨st _ _ p λo q=>k _ _ (.inl rfl) q,⟨o,k _ _ (.inl rfl) e⟩,st⟩
theorem HOk.lt (x:HOk P w H h)(e:H a=some o):a<h.objs.size:=(x a o e).lt
theorem HOk.fresh (x:HOk P w H h)(e:h.objs.size<=a):H a=none:=by
 cases q:H a with
 |none=>rfl
 |some u=>exact absurd (aX (x.lt q) e) (cO _)
theorem HOk.kept (x:HOk P w H h)(k:∀ b u,h.get? b=some u->h'.get? b=some u):HOk P w H h':=λa o e=>
 (x a o e).lA (λb u _ q=>k b u q) (λ_ q=>q) λ_ _ q=>q
theorem HOk.laid (x:HOk P w H h)(k:∀ b u,h.get? b=some u->h'.get? b=some u)(hp:h.objs.size<=a)(new:iA P w (upd H a o) h' a o):HOk P w (upd H a o) h':=λb u e=>by
 have hn:=x.fresh hp
 by_cases hb:b=a
 ·subst hb;rw[fC]at e;cases e;exact new
 ·rw[fG hb]at e
  exact(x b u e).lA (λc v _ q=>k c v q) (λc q=>by rw[fG (fK q hn)];exact q) λc xs q=>by rw[fG (fK q hn)];exact q
end
def Rd (H:Hp)(a:Addr)(u:HO):Prop:=H a=some u\/∃ o,H a=some (.frz o u)
theorem Rd.ok {P:Program}{w:World}{H:Hp}{h:Heap}{a:Addr}{u:HO}(r:Rd H a u)(x:HOk P w H h):iA P w H h a u:=by
 rcases r with r |⟨o,r⟩
 ·exact x a u r
 ·obtain⟨_,q⟩:=x a _ r
  exact q
def Mut:Option HO->Prop
 |some (.lst _)=>True
 |some (.dK _)=>True
 |some (.dT _)=>True
 |some (.set _ _)=>True
 |some (.ins _ _ _)=>True
 |some (.ext _)=>True
 |_=>False
section
variable {P:Program}{w:World}{H:Hp}{h h':Heap}{x e:Addr}{o':HO}
theorem HOk.write (ok:HOk P w H h)(mu:Mut (H x))(he:e=x\/H e=some (.own x))(k:∀ b u,b≠e->h.get? b=some u->h'.get? b=some u)(heo:∃ u,h'.get? e=some u)
  (new:iA P w (upd H x o') h' x o'):HOk P w (upd H x o') h':=λb u q=>by
 have Kj:∀ c y,H c=some (.own y)->c≠x:=λc y r z=>by subst z;rw[r]at mu;exact mu
 have OD:∀ c xs,H c=some (.tup xs)->c≠x:=λc xs r z=>by subst z;rw[r]at mu;exact mu
 by_cases hb:b=x
 ·subst hb;rw[fC]at q;cases q;exact new
 ·rw[fG hb]at q
  by_cases hbe:b=e
  ·have q':H b=some (.own x):=by
    rcases he with z |z
    ·exact absurd (hbe.trans z) hb
    ·rw[hbe];exact z
   rw[q]at q';cases q'
   obtain⟨v,hv⟩:=heo
   exact⟨v,by rw[hbe];exact hv⟩
  ·refine(ok b u q).lA (λc v hc r=>k c v ?_ r) (λc r=>by rw[fG (Kj c b r)];exact r) λc xs r=>by rw[fG (OD c xs r)];exact r
   rcases hc with rfl |hc
   ·exact hbe
   ·rintro rfl
    rcases he with z |z
    ·exact Kj c b hc z
    ·rw[hc]at z;cases z;exact hb rfl
end
structure Un (fs ex:List Addr)(H H':Hp)(h h':Heap):Prop where
 keep:∀ b o,h.get? b=some o->H b=none->b∉fs->b∉ex->h'.get? b=some o
 slot:∀ b o,h.get? b=some o->H b=none->b∈fs->b∉ex->∃ sl,h'.get? b=some {o with slots:=sl}
 free:∀ b o,h.get? b=some o->H b=none->b∉ex->H' b=none
 there:∀ b o,h.get? b=some o->b∉ex->∃ o',h'.get? b=some o'
 kD:∀ b xs,H b=some (.tup xs)->H' b=some (.tup xs)
 oE:∀ b o u,H b=some (.frz o u)->H' b=some (.frz o u)
 qu:∀ b ps,H b=some (.tbl ps)->∃ more,H' b=some (.tbl (ps++more))
section
variable {fs fs' ex ex':List Addr}{H H1 H2:Hp}{h h1 h2 h':Heap}{a x e:Addr}{o:HO}
theorem Un.any (u:Un fs ex H H1 h h1){b:Addr}{ob:Obj}(q:h.get? b=some ob)(n:H b=none)(hx:b∉ex):∃ sl,h1.get? b=some {ob with slots:=sl} :=by
 by_cases hb:b∈fs
 ·exact u.slot b ob q n hb hx
 ·exact⟨ob.slots,u.keep b ob q n hb hx⟩
theorem Un.trans (a:Un fs ex H H1 h h1)(b:Un fs ex H1 H2 h1 h2):Un fs ex H H2 h h2 where
 keep:=λc ob q n hc hx=>b.keep c ob (a.keep c ob q n hc hx) (a.free c ob q n hx) hc hx
 slot:=λc ob q n hc hx=>by
  obtain⟨sl,e1⟩:=a.slot c ob q n hc hx
  obtain⟨sl',e2⟩:=b.slot c _ e1 (a.free c ob q n hx) hc hx
  exact⟨sl',e2⟩
 free:=λc ob q n hx=>by
  obtain⟨o',e1⟩:=a.there c ob q hx
  exact b.free c o' e1 (a.free c ob q n hx) hx
 there:=λc ob q hx=>by
  obtain⟨o',e1⟩:=a.there c ob q hx
  exact b.there c o' e1 hx
 kD:=λc xs q=>b.kD c xs (a.kD c xs q)
 oE:=λc ob xs q=>b.oE c ob xs (a.oE c ob xs q)
 qu:=λc ps q=>by
  obtain⟨m1,e1⟩:=a.qu c ps q
  obtain⟨m2,e2⟩:=b.qu c _ e1
  exact⟨m1++m2,by rw[e2,Array.append_assoc]⟩
theorem Un.kept (k:∀ b u,h.get? b=some u->h'.get? b=some u):Un fs ex H H h h':=
 ⟨λb ob q _ _ _=>k b ob q,λb ob q _ _ _=>⟨ob.slots,k b ob q⟩,λ_ _ _ n _=>n,λb ob q _=>⟨ob,k b ob q⟩,λ_ _ q=>q,λ_ _ _ q=>q,λ_ ps q=>⟨#[],by rw[q];simp⟩⟩
theorem Un.refl:Un fs ex H H h h:=Un.kept λ_ _ q=>q
theorem Un.laid (k:∀ b u,h.get? b=some u->h'.get? b=some u)(hp:h.objs.size<=a)(hn:H a=none):Un fs ex H (upd H a o) h h' where
 keep:=λb u q _ _ _=>k b u q
 slot:=λb u q _ _ _=>⟨u.slots,k b u q⟩
 free:=λb u q n _=>by rw[fG (aL (aX (aC q) hp))];exact n
 there:=λb u q _=>⟨u,k b u q⟩
 kD:=λb xs q=>by rw[fG (fK q hn)];exact q
 oE:=λb u xs q=>by rw[fG (fK q hn)];exact q
 qu:=λb ps q=>⟨#[],by rw[fG (fK q hn),q];simp⟩
theorem Un.write (mu:Mut (H x))(he:e=x\/H e=some (.own x))(k:∀ b u,b≠e->h.get? b=some u->h'.get? b=some u)(heo:∃ u,h'.get? e=some u):Un fs ex H (upd H x o) h h':=by
 have hx:∀ b,H b=none->b≠x:=λb n z=>by subst z;rw[n]at mu;exact mu
 have hb:∀ b,H b=none->b≠e:=λb n z=>by
  subst z
  rcases he with r |r
  ·exact hx b n r
  ·rw[n]at r;cases r
 have hm:∀ b u,H b=some u->¬Mut (some u)->b≠x:=λb u q nm z=>by subst z;rw[q]at mu;exact nm mu
 refine⟨λb u q n _ _=>k b u (hb b n) q,λb u q n _ _=>⟨u.slots,k b u (hb b n) q⟩,λb u q n _=>by rw[fG (hx b n)];exact n,λb u q _=>?_,
  λb xs q=>by rw[fG (hm b _ q λz=>z)];exact q,λb u xs q=>by rw[fG (hm b _ q λz=>z)];exact q,λb ps q=>⟨#[],by rw[fG (hm b _ q λz=>z),q];simp⟩⟩
 by_cases hbe:b=e
 ·subst hbe;exact heo
 ·exact⟨u,k b u hbe q⟩
end
def trk (h:Heap)(H:Hp):List Addr:=(List.range h.objs.size).filter λa=>(H a).isSome
def yi (h:Heap)(H:Hp):Heap:=PySem.W.hideAll h (trk h H)
theorem Dl (h:Heap)(H:Hp):(yi h H).objs.size=h.objs.size:=PySem.W.hideAll_size _ _
theorem Ff {h:Heap}{H:Hp}{b:Addr}{o:Obj}(e:h.get? b=some o)(n:H b=none):(yi h H).get? b=some o:=
 PySem.W.hideAll_get _ e λhm=>by
  have q:(H b).isSome=true:=(bW.mp hm).2
  rw[n]at q;simp at q
theorem Gv {h:Heap}{H:Hp}{b:Addr}{o:Obj}(e:(yi h H).get? b=some o):h.get? b=some o/\H b=none:=by
 have e':h.get? b=some o:=PySem.W.of_hideAll (trk h H) e
 refine⟨e',?_⟩
 cases q:H b with
 |none=>rfl
 |some x=>
  have hm:b∈trk h H:=bW.mpr ⟨bP.mpr (aC e'),by simp[q]⟩
  have z:(yi h H).get? b=none:=PySem.W.hideAll_none (trk h H) hm
  rw[z]at e;cases e
structure Mod (K:PySem.W.Frag)(mg:Str->Option Value)(base:Heap):Prop where
 kin:K.In base
 glob:base.Ns mainGlobals mg
 blt:∃ mb,base.Ns builtinsNs mb/\∀ x:Str,x≠ "__name__" ->mb x=bootBuiltins x
 nolimit:base.NoLimit
structure Cx where
 prog:Program
 w:World
 K:PySem.W.Frag
 mg:Str->Option Value
 base:Heap
 A:Around
 N:List Str
 s₀:Shared
 H₀:Hp
 env:Env
 outer:List Env
 stack:List Env
 ex:List Addr
 fn:Str->Bool
 calm:Bool
 pn:List (Addr×Obj)
 xe:Value->Shared->Prop
def frs (l:List Env):List Addr:=l.filterMap (·.frame)
abbrev Cx.fs (X:Cx):List Addr:=frs X.outer
def Vis (sc:Scope)(x:Str):Prop:=sc.names.lookup x=some .local\/sc.names.lookup x=some .cell\/sc.names.lookup x=some .free
def Loc (sc:Scope)(x:Str):Prop:=sc.names.lookup x=some .local\/sc.names.lookup x=some .cell
def Look (env:Env)(h:Heap)(m:Str->Option Value)(x:Str)(u:Value):Prop:=
 (env.kindOf x=some .local/\m x=some u)\/((env.kindOf x=some .cell\/env.kindOf x=some .free)/\∃ c,env.cells.lookup x=some c/\h.IsCell c (some u))
structure Cx.Ok (X:Cx):Prop where
 mod:Mod X.K X.mg X.base
 kind:X.env.scope.kind = .function
 glob:X.env.globals=mainGlobals
 blt:X.env.builtins=builtinsNs
 above:X.s₀.heap.objs.size<=X.env.locals
 inj:∀ x y c,X.env.cells.lookup x=some c->X.env.cells.lookup y=some c->x=y
 has:∀ x,(X.env.kindOf x=some .cell\/X.env.kindOf x=some .free)->∃ c,X.env.cells.lookup x=some c
 cab:∀ x c,X.fn x=true->X.env.cells.lookup x=some c->X.s₀.heap.objs.size<=c
 hd:X.calm=true->X.A.handled=none
 frames:X.A.frames=some X.stack
 stk:X.stack=X.outer\/(X.stack=X.env::X.outer/\X.env.frame=some X.env.locals)
 exf:∀ b∈X.ex,b≠X.env.locals/\∀ x c,X.env.cells.lookup x=some c->c≠b
 bs:∀ b o,X.base.get? b=some o->X.s₀.heap.get? b=some o/\X.H₀ b=none
 bsz:X.base.objs.size<=X.s₀.heap.objs.size
 AE:∀ b o,X.base.get? b=some o->b∉X.ex
 Du:∀ b∈X.ex,b∉X.fs
 su:X.s₀.heap.FunFrames X.base X.outer
 frf:∀ b∈X.fs,X.H₀ b=none
structure Inv (X:Cx)(pins:List (Addr×Obj))(σ:List (Option V))(H:Hp)(s:Shared):Prop where
 ok:X.Ok
 os:s.os=X.s₀.os
 bare:AllBare s.gens
 base:Un X.fs X.ex X.H₀ H X.s₀.heap s.heap
 loc:∃ m,s.heap.Ns X.env.locals m/\∀ (i:Nat) (x:Str) (v:V),X.N[i]? = some x->σ[i]? = some (some v)->Vis X.env.scope x->∃ u,RelV v u/\Look X.env s.heap m x u
 cell:∀ x c,X.env.cells.lookup x=some c->∃ v,s.heap.IsCell c v
 free:H X.env.locals=none
 kC:∀ x c,X.env.cells.lookup x=some c->H c=none
 pin:∀ p∈X.pn++pins,s.heap.get? p.1=some p.2/\H p.1=none/\p.1≠X.env.locals/\p.1∉X.fs/\∀ v,p.2.data≠ .cell v
 hok:HOk X.prog X.w H s.heap
 len:σ.length=X.N.length
section
variable {X:Cx}{pins:List (Addr×Obj)}{σ:List (Option V)}{H H':Hp}{s:Shared}{h':Heap}
theorem Cx.Ok.OG (ok:X.Ok){b:Addr}{o:Obj}(e:X.base.get? b=some o):b∉X.fs:=λhb=>by
 have:=(ok.su.mem hb).1
 rw[e]at this;cases this
theorem Inv.bs (I:Inv X pins σ H s):∀ b o,X.base.get? b=some o->s.heap.get? b=some o/\H b=none:=λb o e=>
 ⟨I.base.keep b o (I.ok.bs b o e).1 (I.ok.bs b o e).2 (I.ok.OG e) (I.ok.AE b o e),I.base.free b o (I.ok.bs b o e).1 (I.ok.bs b o e).2 (I.ok.AE b o e)⟩
theorem Inv.bk (I:Inv X pins σ H s):∀ b o,X.base.get? b=some o->s.heap.get? b=some o:=λb o e=>(I.bs b o e).1
theorem Inv.mod (I:Inv X pins σ H s):Mod X.K X.mg X.base:=I.ok.mod
theorem Inv.kIn (I:Inv X pins σ H s):X.K.In s.heap:=I.ok.mod.kin.keeps I.bk
theorem Inv.lt (I:Inv X pins σ H s):X.env.locals<s.heap.objs.size:=let ⟨_,hn,_⟩:=I.loc;hn.lt
theorem Inv.sz (I:Inv X pins σ H s):X.s₀.heap.objs.size<=s.heap.objs.size:=bF I.ok.above (cf I.lt)
theorem Inv.OF (I:Inv X pins σ H s){a:Addr}(h:s.heap.objs.size<=a):a∉X.fs:=λhb=>by
 obtain⟨_,o,ho,_⟩:=I.ok.su.mem hb
 exact absurd (aX (aC ho) (bF I.sz h)) (cO _)
theorem Inv.cne (I:Inv X pins σ H s):∀ x c,X.env.cells.lookup x=some c->c≠X.env.locals:=λx c e z=>by
 obtain⟨v,o,ho,hd⟩:=I.cell x c e
 obtain⟨m,⟨o',es,ep,ho',hd',_⟩,_⟩:=I.loc
 rw[z,ho']at ho;cases ho;rw[hd']at hd;cases hd
theorem Inv.su (I:Inv X pins σ H s):s.heap.FunFrames X.base X.outer:=by
 have all:∀ (l:List Env),(∀ b∈frs l,b∈X.fs)->X.s₀.heap.FunFrames X.base l->s.heap.FunFrames X.base l:=by
  intro l
  induction l with
  |nil=>intro _ _;trivial
  |cons env r ih=>
   intro hs hl
   obtain⟨hk,⟨L,o,hf,hn,ho,hd⟩,hr⟩:=hl
   have hL:L∈X.fs:=hs L (by unfold frs;rw[dE,hf];exact aA)
   obtain⟨sl,e⟩:=I.base.slot L o ho (I.ok.frf L hL) hL λz=>I.ok.Du L z hL
   exact⟨hk,⟨L,_,hf,hn,e,hd⟩,ih (λb hb=>hs b (by unfold frs;rw[dE,hf];exact aw _ hb)) hr⟩
 exact all X.outer (λ_ hb=>hb) I.ok.su
theorem Inv.stack (I:Inv X pins σ H s):s.heap.FunFrames X.base X.stack:=by
 rcases I.ok.stk with e |⟨e,hf⟩
 ·rw[e];exact I.su
 ·rw[e]
  obtain⟨m,hn,_⟩:=I.loc
  refine .cons (by rw[I.ok.kind];decide) hf hn ?_ I.su
  exact Heap.get?_none_of_le (bF I.ok.bsz I.ok.above)
theorem Inv.mZ (I:Inv X pins σ H s):∀ b∈frs X.stack,b∈X.env.locals::X.fs:=λb hb=>by
 rcases I.ok.stk with e |⟨e,hf⟩
 ·rw[e]at hb;exact aw _ hb
 ·rw[e]at hb
  unfold frs at hb
  rw[dE,hf]at hb
  exact hb
theorem Inv.xA (I:Inv X pins σ H s):∀ b∈frs X.stack,H b=none:=λb hb=>by
 rcases aG.mp (I.mZ b hb)with e |hb
 ·rw[e];exact I.free
 ·obtain⟨_,o,ho,_⟩:=I.ok.su.mem hb
  exact I.base.free b o ho (I.ok.frf b hb) λz=>I.ok.Du b z hb
theorem Inv.step {g':Array GenState}{t':Nat}{d':Drawn}{ch:List Addr}(I:Inv X pins σ H s)
  (hch:∀ b∈ch,(b∈X.ex\/X.s₀.heap.objs.size<=b)/\b≠X.env.locals/\(∀ x c,X.env.cells.lookup x=some c->c≠b)/\∀ p∈X.pn++pins,p.1≠b)
  (keep:∀ b o,b≠X.env.locals->b∉X.fs->b∉ch->s.heap.get? b=some o->H b=none->h'.get? b=some o)
  (slot:∀ b o,b≠X.env.locals->b∈X.fs->b∉ch->s.heap.get? b=some o->H b=none->∃ sl,h'.get? b=some {o with slots:=sl}) (free:∀ b o,b∉ch->s.heap.get? b=some o->H b=none->H' b=none)
  (there:∀ b o,b∉ch->s.heap.get? b=some o->∃ o',h'.get? b=some o')
  (kD:∀ b xs,H b=some (.tup xs)->H' b=some (.tup xs)) (oE:∀ b o u,H b=some (.frz o u)->H' b=some (.frz o u)) (qu:∀ b ps,H b=some (.tbl ps)->∃ more,H' b=some (.tbl (ps++more)))
  (ns:∀ m,s.heap.Ns X.env.locals m->h'.Ns X.env.locals m) (hok:HOk X.prog X.w H' h') (hg:AllBare g'):
  Inv X pins σ H' {s with heap:=h',gens:=g',drawn:=d',toks:=t'} :=by
 have neL:∀ b o,X.s₀.heap.get? b=some o->b≠X.env.locals:=λb o e=>aL (aX (aC e) I.ok.above)
 have neC:∀ b o,X.s₀.heap.get? b=some o->b∉X.ex->b∉ch:=λb o e hx hb=>by
  rcases(hch b hb).1 with z |z
  ·exact hx z
  ·exact absurd (aX (aC e) z) (cO _)
 have cellK:∀ x c,X.env.cells.lookup x=some c->∀ v,s.heap.IsCell c v->h'.IsCell c v:=λx c e v ⟨o,ho,hd⟩=>by
  have nch:c∉ch:=λz=>(hch c z).2.2.1 x c e rfl
  by_cases hc:c∈X.fs
  ·obtain⟨sl,q⟩:=slot c o (I.cne x c e) hc nch ho (I.kC x c e)
   exact⟨_,q,hd⟩
  ·exact⟨o,keep c o (I.cne x c e) hc nch ho (I.kC x c e),hd⟩
 refine⟨I.ok,I.os,hg,⟨λb o e n hb hx=>?_,λb o e n hb hx=>?_,λb o e n hx=>?_,λb o e hx=>?_,λb xs e=>kD b xs (I.base.kD b xs e),λb o xs e=>oE b o xs (I.base.oE b o xs e),λb ps e=>?_⟩,?_,λx c e=>?_,?_,λx c e=>?_,λp hp=>?_,hok,I.len⟩
 ·exact keep b o (neL b o e) hb (neC b o e hx) (I.base.keep b o e n hb hx) (I.base.free b o e n hx)
 ·obtain⟨sl,e1⟩:=I.base.slot b o e n hb hx
  obtain⟨sl',e2⟩:=slot b _ (neL b o e) hb (neC b o e hx) e1 (I.base.free b o e n hx)
  exact⟨sl',e2⟩
 ·obtain⟨o',e1⟩:=I.base.there b o e hx
  exact free b o' (neC b o e hx) e1 (I.base.free b o e n hx)
 ·obtain⟨o',e1⟩:=I.base.there b o e hx
  exact there b o' (neC b o e hx) e1
 ·obtain⟨m1,e1⟩:=I.base.qu b ps e
  obtain⟨m2,e2⟩:=qu b _ e1
  exact⟨m1++m2,by rw[e2,Array.append_assoc]⟩
 ·obtain⟨m,hn,hl⟩:=I.loc
  refine⟨m,ns m hn,λi x v e1 e2 e3=>?_⟩
  obtain⟨u,r,l⟩:=hl i x v e1 e2 e3
  refine⟨u,r,?_⟩
  rcases l with l |⟨k,c,e,z⟩
  ·exact .inl l
  ·exact .inr ⟨k,c,e,cellK x c e _ z⟩
 ·obtain⟨v,z⟩:=I.cell x c e
  exact⟨v,cellK x c e v z⟩
 ·obtain⟨m,⟨o,_,_,ho,_⟩,_⟩:=I.loc
  exact free _ o (λz=>(hch _ z).2.1 rfl) ho I.free
 ·obtain⟨v,o,ho,hd⟩:=I.cell x c e
  exact free c o (λz=>(hch c z).2.2.1 x c e rfl) ho (I.kC x c e)
 ·obtain⟨e,n,ne,nf,d⟩:=I.pin p hp
  have nch:p.1∉ch:=λz=>(hch p.1 z).2.2.2 p hp rfl
  exact⟨keep p.1 p.2 ne nf nch e n,free p.1 p.2 nch e n,ne,nf,d⟩
theorem Inv.un {t':Nat}(I:Inv X pins σ H s)(u:Un X.fs [] H H' s.heap h')(hok:HOk X.prog X.w H' h'):Inv X pins σ H' {s with heap:=h',toks:=t'} :=by
 obtain⟨m,⟨o,es,ep,ho,r⟩,_⟩:=id I.loc
 obtain⟨sl,hL⟩:=u.any ho I.free (by simp)
 exact I.step (g':=s.gens) (d':=s.drawn) (ch:=[]) (λ_ z=>nomatch z) (λb o _ hb _ e n=>u.keep b o e n hb (by simp)) (λb o _ hb _ e n=>u.slot b o e n hb (by simp)) (λb o _ e n=>u.free b o e n (by simp)) (λb o _ e=>u.there b o e (by simp)) u.kD u.oE u.qu (λm' hm=>by
  obtain⟨o',es',ep',ho',r'⟩:=hm
  rw[ho]at ho';cases ho'
  exact⟨_,es',ep',hL,r'⟩) hok I.bare
theorem Inv.call {g':Array GenState}{t':Nat}{d':Drawn}{ch:List Addr}(I:Inv X pins σ H s)(u:Un (frs X.stack) ch H H' s.heap h')(hok:HOk X.prog X.w H' h')(hg:AllBare g')
  (hch:∀ b∈ch,(b∈X.ex\/X.s₀.heap.objs.size<=b)/\b≠X.env.locals/\(∀ x c,X.env.cells.lookup x=some c->c≠b)/\∀ p∈X.pn++pins,p.1≠b):
  Inv X pins σ H' {s with heap:=h',gens:=g',drawn:=d',toks:=t'} :=by
 obtain⟨m,⟨o,es,ep,ho,r⟩,_⟩:=id I.loc
 obtain⟨sl,hL⟩:=u.any ho I.free λz=>(hch _ z).2.1 rfl
 exact I.step (ch:=ch) hch (λb o hL hb hc e n=>u.keep b o e n (λz=>(aG.mp (I.mZ b z)).elim hL hb) hc) (λb o _ _ hc e n=>u.any e n hc) (λb o hc e n=>u.free b o e n hc) (λb o hc e=>u.there b o e hc) u.kD u.oE u.qu (λm' hm=>by
  obtain⟨o',es',ep',ho',r'⟩:=hm
  rw[ho]at ho';cases ho'
  exact⟨_,es',ep',hL,r'⟩) hok hg
theorem Inv.turned {t':Nat}{it:Addr}(I:Inv X pins σ H s)(k:∀ b o,b≠it->s.heap.get? b=some o->h'.get? b=some o)(hn:H it=none)(hL:it≠X.env.locals)
  (h1:it∈X.ex\/X.s₀.heap.objs.size<=it) (h2:∀ x c,X.env.cells.lookup x=some c->c≠it) (h3:∀ p∈X.pn++pins,p.1≠it):Inv X pins σ H {s with heap:=h',toks:=t'} :=by
 have nit:∀ b u,H b=some u->b≠it:=λb u e z=>by rw[z,hn]at e;cases e
 refine I.step (g':=s.gens) (d':=s.drawn) (ch:=[it]) (λb hb=>?_) (λb o _ _ hc e _=>k b o (λz=>hc (by simp[z])) e) (λb o _ _ hc e _=>⟨o.slots,k b o (λz=>hc (by simp[z])) e⟩) (λ_ _ _ _ n=>n)
  (λb o hc e=>⟨o,k b o (λz=>hc (by simp[z])) e⟩) (λ_ _ e=>e) (λ_ _ _ e=>e) (λb ps e=>⟨#[],by rw[e];simp⟩) (λm hm=>?_) (λb u e=>?_) I.bare
 ·have e:b=it:=by simpa using hb
  subst e
  exact⟨h1,hL,h2,h3⟩
 ·obtain⟨o,es,ep,ho,r⟩:=hm
  exact⟨o,es,ep,k _ o (bI hL) ho,r⟩
 ·refine(I.hok b u e).lA (λc v hc q=>k c v ?_ q) (λ_ q=>q) λ_ _ q=>q
  rcases hc with z |z
  ·rw[z];exact nit b u e
  ·exact nit c _ z
theorem Inv.tok (I:Inv X pins σ H s)(t:Nat):Inv X pins σ H {s with toks:=t} :=I.un (h':=s.heap) (t':=t) Un.refl I.hok
theorem Inv.kept {t':Nat}(I:Inv X pins σ H s)(k:∀ b u,s.heap.get? b=some u->h'.get? b=some u):Inv X pins σ H {s with heap:=h',toks:=t'} :=I.un (Un.kept k) (I.hok.kept k)
theorem Inv.laid {a:Addr}{o:HO}{t':Nat}(I:Inv X pins σ H s)(k:∀ b u,s.heap.get? b=some u->h'.get? b=some u)(hp:s.heap.objs.size<=a)(new:iA X.prog X.w (upd H a o) h' a o):
  Inv X pins σ (upd H a o) {s with heap:=h',toks:=t'} :=I.un (Un.laid k hp (I.hok.fresh hp)) (I.hok.laid k hp new)
theorem Inv.write {x e:Addr}{o:HO}{t':Nat}(I:Inv X pins σ H s)(mu:Mut (H x))(he:e=x\/H e=some (.own x))(k:∀ b u,b≠e->s.heap.get? b=some u->h'.get? b=some u)(heo:∃ u,h'.get? e=some u)
  (new:iA X.prog X.w (upd H x o) h' x o):Inv X pins σ (upd H x o) {s with heap:=h',toks:=t'} :=I.un (Un.write mu he k heo) (I.hok.write mu he k heo new)
theorem Inv.weak {σ':List (Option V)}(I:Inv X pins σ H s)(hl:σ'.length=σ.length)(w:∀ (i:Nat) v,σ'[i]? = some (some v)->σ[i]? = some (some v)):Inv X pins σ' H s:=
 ⟨I.ok,I.os,I.bare,I.base,let ⟨m,hn,hl'⟩:=I.loc;⟨m,hn,λi x v e1 e2 e3=>hl' i x v e1 (w i v e2) e3⟩,I.cell,I.free,I.kC,I.pin,I.hok,hl.trans I.len⟩
theorem Inv.Bx {sU:List (Addr×Obj)}(I:Inv X pins σ H s)(h:∀ p∈sU,s.heap.get? p.1=some p.2/\H p.1=none/\p.1≠X.env.locals/\p.1∉X.fs/\∀ v,p.2.data≠ .cell v):Inv X sU σ H s:=
 ⟨I.ok,I.os,I.bare,I.base,I.loc,I.cell,I.free,I.kC,λp hp=>(aF.mp hp).elim (λz=>I.pin p (aS _ z)) (h p),I.hok,I.len⟩
theorem uV {N:List Str}(hN:N.Nodup){i j:Nat}{x:Str}(a:N[i]? = some x)(b:N[j]? = some x):i=j:=by
 obtain⟨h1,e1⟩:=af.mp a
 obtain⟨h2,e2⟩:=af.mp b
 exact(cG hN).mp (e1.trans e2.symm)
theorem rT {M:Model}{A:Around}{E:Value->Shared->Prop}{i:Nat}{x:Str}{v:V}{u:Value}{Q:Unit->Shared->Prop}(I:Inv X pins σ H s)(hN:X.N.Nodup)(hi:X.N[i]? = some x)(hx:Loc X.env.scope x)(r:RelV v u)
  (h:∀ s',Inv X pins (σ.set i (some v)) H s'->(∃ a,Heap.SameBut a s.heap s'.heap/\(a=X.env.locals\/X.env.cells.lookup x=some a))->Q () s') (hf:X.fn x=true\/X.env.scope.names.lookup x=some .local:=by first |exact .inl rfl |exact .inr rfl |assumption):wpAny M A (storeName X.env x u) Q E s:=by
 obtain⟨m,hn,hl⟩:=id I.loc
 have Jd:(X.env.scope.kind == .class||(X.env.scope.kind == .module&&X.env.locals !=X.env.globals))=false:=by rw[I.ok.kind];rfl
 have hiσ:i<σ.length:=by rw[I.len];exact(af.mp hi).1
 have cne:=I.cne
 have tracked:∀ {a:Addr}{h':Heap},(∃ o,s.heap.get? a=some o/\H a=none)->Heap.SameBut a s.heap h'->HOk X.prog X.w H h':=λ{a h'} ha hs b ob e=>by
  obtain⟨_,_,kG⟩:=ha
  refine(I.hok b ob e).lA (λc w' hc q=>(hs.2 c ?_).trans q) (λ_ q=>q) λ_ _ q=>q
  rintro rfl
  rcases hc with rfl |hc
  ·rw[kG]at e;cases e
  ·rw[kG]at hc;cases hc
 rcases hx with hk |hk
 ·refine wpAny_storeName_local hk hn (λh' hn' hs=>?_) Jd
  obtain⟨oL,_,_,hoL,_⟩:=id hn
  refine h _ ⟨I.ok,I.os,I.bare,⟨λb o e n hb hx=>?_,λb o e n hb hx=>?_,I.base.free,λb o e hx=>?_,I.base.kD,I.base.oE,I.base.qu⟩,⟨_,hn',λj y v' e1 e2 e3=>?_⟩,λy c e=>?_,I.free,I.kC,λp hp=>?_,tracked ⟨oL,hoL,I.free⟩ hs,by simpa using I.len⟩ ⟨_,hs,.inl rfl⟩
  ·exact(hs.2 b (aL (aX (aC e) I.ok.above))).trans (I.base.keep b o e n hb hx)
  ·obtain⟨sl,e1⟩:=I.base.slot b o e n hb hx
   exact⟨sl,(hs.2 b (aL (aX (aC e) I.ok.above))).trans e1⟩
  ·obtain⟨o',e1⟩:=I.base.there b o e hx
   exact⟨o',(hs.2 b (aL (aX (aC e) I.ok.above))).trans e1⟩
  ·by_cases hj:j=i
   ·subst hj
    rw[hi]at e1;cases e1
    rw[List.getElem?_set_self hiσ]at e2
    cases e2
    exact⟨u,r,.inl ⟨hk,by simp⟩⟩
   ·rw[eO (bI hj)]at e2
    obtain⟨u',r',q⟩:=hl j y v' e1 e2 e3
    refine⟨u',r',?_⟩
    rcases q with⟨k,e⟩|⟨k,c,e,z⟩
    ·refine .inl ⟨k,?_⟩
     have:y≠x:=λe=>hj (uV hN e1 (e ▸ hi))
     simp[this,e]
    ·exact .inr ⟨k,c,e,z.sameBut hs (cne y c e)⟩
  ·obtain⟨w',z⟩:=I.cell y c e
   exact⟨w',z.sameBut hs (cne y c e)⟩
  ·obtain⟨e,n,ne,nf,d⟩:=I.pin p hp
   exact⟨(hs.2 p.1 ne).trans e,n,ne,nf,d⟩
 ·have hfn:X.fn x=true:=by
   rcases hf with z |z
   ·exact z
   ·rw[z]at hk;cases hk
  obtain⟨c,hc⟩:=I.ok.has x (.inl hk)
  obtain⟨w',z⟩:=I.cell x c hc
  refine wpAny_storeName_cell I.ok.kind hk hc z (λh' hc' hs=>?_)
  obtain⟨oc,hoc,Pt⟩:=id z
  refine h {s with heap:=h'} ⟨I.ok,I.os,I.bare,⟨λb o e n hb hx=>?_,λb o e n hb hx=>?_,I.base.free,λb o e hx=>?_,I.base.kD,I.base.oE,I.base.qu⟩,⟨m,hn.sameBut hs (bI (cne x c hc)),λj y v' e1 e2 e3=>?_⟩,λy c' e=>?_,I.free,I.kC,λp hp=>?_,tracked ⟨oc,hoc,I.kC x c hc⟩ hs,by simpa using I.len⟩ ⟨c,hs,.inr hc⟩
  ·exact(hs.2 b (aL (aX (aC e) (I.ok.cab x c hfn hc)))).trans (I.base.keep b o e n hb hx)
  ·obtain⟨sl,e1⟩:=I.base.slot b o e n hb hx
   exact⟨sl,(hs.2 b (aL (aX (aC e) (I.ok.cab x c hfn hc)))).trans e1⟩
  ·obtain⟨o',e1⟩:=I.base.there b o e hx
   exact⟨o',(hs.2 b (aL (aX (aC e) (I.ok.cab x c hfn hc)))).trans e1⟩
  ·by_cases hj:j=i
   ·subst hj
    rw[hi]at e1;cases e1
    rw[List.getElem?_set_self hiσ]at e2
    cases e2
    exact⟨u,r,.inr ⟨.inl hk,c,hc,hc'⟩⟩
   ·rw[eO (bI hj)]at e2
    obtain⟨u',r',q⟩:=hl j y v' e1 e2 e3
    refine⟨u',r',?_⟩
    rcases q with q |⟨k,c',e,z'⟩
    ·exact .inl q
    ·refine .inr ⟨k,c',e,z'.sameBut hs ?_⟩
     rintro rfl
     exact hj (uV hN e1 (I.ok.inj _ _ _ e hc ▸ hi))
  ·by_cases hcc:c'=c
   ·subst hcc;exact⟨_,hc'⟩
   ·obtain⟨w2,z2⟩:=I.cell y c' e
    exact⟨w2,z2.sameBut hs hcc⟩
  ·obtain⟨e,n,ne,nf,d⟩:=I.pin p hp
   refine⟨(hs.2 p.1 ?_).trans e,n,ne,nf,d⟩
   intro q
   rw[q,hoc]at e
   have q':oc=p.2:=aP e
   exact d w' (by rw[<-q'];exact Pt)
theorem qO {M:Model}{A:Around}{E:Value->Shared->Prop}{i:Nat}{x:Str}{v:V}{u:Value}{Q:Unit->Shared->Prop}(I:Inv X pins σ H s)(hN:X.N.Nodup)(hi:X.N[i]? = some x)(hx:Loc X.env.scope x)(r:RelV v u)
  (h:∀ s',Inv X pins (σ.set i (some v)) H s'->Q () s') (hf:X.fn x=true\/X.env.scope.names.lookup x=some .local:=by first |exact .inl rfl |exact .inr rfl |assumption):wpAny M A (storeName X.env x u) Q E s:=
 rT I hN hi hx r (λs' I' _=>h s' I') hf
theorem Inv.Hy {s':Shared}{ch:List Addr}(I:Inv X pins σ H s)(ho:s'.os=s.os)(u:Un (frs X.stack) ch H H' s.heap s'.heap)(hok:HOk X.prog X.w H' s'.heap)(hg:AllBare s'.gens)
  (hch:∀ b∈ch,(b∈X.ex\/X.s₀.heap.objs.size<=b)/\b≠X.env.locals/\(∀ x c,X.env.cells.lookup x=some c->c≠b)/\∀ p∈X.pn++pins,p.1≠b):Inv X pins σ H' s':=by
 obtain⟨h',g',d',t',o'⟩:=s'
 have e:o'=s.os:=ho
 subst e
 exact I.call (g':=g') (t':=t') (d':=d') u hok hg hch
end
abbrev XK:=Value->Option Addr->Hp->Prop
abbrev St:=List (Option V)
abbrev VK:=V->Hp->Prop
abbrev TE:=St->Hp->VK->Prop
abbrev TT:=St->Hp->(Bool->Hp->Prop)->Prop
abbrev TA:=St->Hp->(List V->Hp->Prop)->Prop
structure Ends where
 nx:St->Hp->Prop
 rt:VK
 bk:St->Hp->Prop:=λ_ _=>False
 ct:St->Hp->Prop:=λ_ _=>False
abbrev TS:=Ends->St->Hp->Prop
def EP (X:Cx)(pins:List (Addr×Obj))(σ:St)(Q:VK)(u:Value)(s':Shared):Prop:=∃ v H',Inv X pins σ H' s'/\RelV v u/\Q v H'
def TP (X:Cx)(pins:List (Addr×Obj))(σ:St)(Q:Bool->Hp->Prop)(b:Bool)(s':Shared):Prop:=∃ H',Inv X pins σ H' s'/\Q b H'
def AP (X:Cx)(pins:List (Addr×Obj))(σ:St)(Q:List V->Hp->Prop)(us:List Value)(s':Shared):Prop:=∃ vs H',Inv X pins σ H' s'/\Vals vs us/\Q vs H'
def SP (X:Cx)(pins:List (Addr×Obj))(D:Ends)(f:Flow)(s':Shared):Prop:=
 match f with
 |.next=>∃ σ' H',Inv X pins σ' H' s'/\D.nx σ' H'
 |.brk=>∃ σ' H',Inv X pins σ' H' s'/\D.bk σ' H'
 |.cont=>∃ σ' H',Inv X pins σ' H' s'/\D.ct σ' H'
 |.ret u=>∃ v σ' H',Inv X pins σ' H' s'/\RelV v u/\D.rt v H'
def PE (X:Cx)(e:Expr)(t:TE):Prop:=
 ∀ (pins:List (Addr×Obj)) (s:Shared) (σ:St) (H:Hp) (Q:VK),Inv X pins σ H s->t σ H Q->wpAny (model X.prog X.w) X.A (eval e X.env) (EP X pins σ Q) X.xe s
def PT (X:Cx)(e:Expr)(t:TT):Prop:=
 ∀ (pins:List (Addr×Obj)) (s:Shared) (σ:St) (H:Hp) (Q:Bool->Hp->Prop),Inv X pins σ H s->t σ H Q->wpAny (model X.prog X.w) X.A (isTrue e X.env (eval e X.env)) (TP X pins σ Q) X.xe s
def PW (X:Cx)(e:Expr)(t:TT):Prop:=
 ∀ (whole:Sem Value) (pins:List (Addr×Obj)) (s:Shared) (σ:St) (H:Hp) (Q:Bool->Hp->Prop),Inv X pins σ H s->t σ H Q->wpAny (model X.prog X.w) X.A (isTrue e X.env whole) (TP X pins σ Q) X.xe s
theorem PW.pt {X:Cx}{e:Expr}{t:TT}(h:PW X e t):PT X e t:=h _
def PA (X:Cx)(es:List Expr)(t:TA):Prop:=
 ∀ (pos:Pos) (pins:List (Addr×Obj)) (s:Shared) (σ:St) (H:Hp) (Q:List V->Hp->Prop),Inv X pins σ H s->t σ H Q->wpAny (model X.prog X.w) X.A (spliced (backTo pos (starEach es X.env))) (AP X pins σ Q) X.xe s
def PS (X:Cx)(st:Stmt)(t:TS):Prop:=
 ∀ (pins:List (Addr×Obj)) (s:Shared) (σ:St) (H:Hp) (D:Ends),Inv X pins σ H s->t D σ H->wpAny (model X.prog X.w) X.A (exec st X.env) (SP X pins D) X.xe s
def PSs (X:Cx)(st:List Stmt)(t:TS):Prop:=
 ∀ (pins:List (Addr×Obj)) (s:Shared) (σ:St) (H:Hp) (D:Ends),Inv X pins σ H s->t D σ H->wpAny (model X.prog X.w) X.A (execs st X.env) (SP X pins D) X.xe s
theorem thn {α:Type}{t:Sem α}{Q Q':α->Shared->Prop}{M:Model}{A:Around}{E:Value->Shared->Prop}{s:Shared}(h:wpAny M A t Q E s)(hQ:∀ a s,Q a s->Q' a s):wpAny M A t Q' E s:=bo h hQ λ_ _ x=>x
section
variable {X:Cx}
theorem bin {a b:Expr}{ta tb:TE}(ha:PE X a ta)(hb:PE X b tb){pins:List (Addr×Obj)}{s:Shared}{σ:St}{H:Hp}{R:V->V->Hp->Prop}(I:Inv X pins σ H s)(h:ta σ H λx H1=>tb σ H1 λy H2=>R x y H2)
  {α:Type}{Q:α->Shared->Prop}{f:Value->Value->Sem α}
  (hf:∀ v u s2 x y H2,Inv X pins σ H2 s2->RelV x v->RelV y u->R x y H2->wpAny (model X.prog X.w) X.A (f v u) Q X.xe s2):
  wpAny (model X.prog X.w) X.A (eval a X.env) (λv s₁=>wpAny (model X.prog X.w) X.A (eval b X.env) (λu s₂=>wpAny (model X.prog X.w) X.A (f v u) Q X.xe s₂) X.xe s₁) X.xe s:=by
 refine thn (ha pins s σ H _ I h) λv s1 ⟨x,H1,I1,r1,q1⟩=>?_
 refine thn (hb pins s1 σ H1 _ I1 q1) λu s2 ⟨y,H2,I2,r2,q2⟩=>?_
 exact hf v u s2 x y H2 I2 r1 r2 q2
def JD (i:Nat):TE:=λσ H Q=>∃ v,σ[i]? = some (some v)/\Q v H
def tC (v:V):TE:=λ_ H Q=>Q v H
theorem Ie {i:Nat}{x:Str}{pos:Pos}(hN:X.N[i]? = some x)(hv:Vis X.env.scope x)(hd:(x==("__debug__" :Str))=false:=by decide)(hcd:(x==("__classdict__" :Str))=false:=by decide):PE X (.Name x pos) (JD i):=by
 intro pins s σ H Q I h
 obtain⟨v,e,h⟩:=h
 obtain⟨m,hn,hl⟩:=I.loc
 obtain⟨u,r,l⟩:=hl i x v hN e hv
 have fin:EP X pins σ Q u s:=⟨v,H,I,r,h⟩
 rcases l with⟨hk,hm⟩|⟨hk,c,hc,BX⟩
 ·exact wpAny_Name (wpAny_loadName_local I.ok.kind hk hn hm fin) hd
 ·rcases hk with hk |hk
  ·exact wpAny_Name (wpAny_loadName_cell I.ok.kind hk hc BX fin) hd
  ·exact wpAny_Name (wpAny_loadName_free I.ok.kind hk hc BX fin hcd) hd
theorem fF {i j pos} :PE X (.Constant (.int i) j pos) (tC (.int i)):=λ_ _ _ H _ I h=>wpAny_Constant_int ⟨.int i,H,I.tok _,⟨_,rfl⟩,h⟩
theorem i8 {b j pos} :PE X (.Constant (.bool b) j pos) (tC (.bl b)):=λ_ _ _ H _ I h=>Constant_bool ⟨.bl b,H,I,rfl,h⟩
theorem uG {j pos} :PE X (.Constant .none j pos) (tC .non):=λ_ _ _ H _ I h=>Constant_none ⟨.non,H,I,rfl,h⟩
theorem gK {x j pos} :PE X (.Constant (.str x) j pos) (tC (.str x)):=λ_ _ _ H _ I h=>Calls.Constant_str ⟨.str x,H,I.tok _,⟨_,rfl⟩,h⟩
def Gl (X:Cx)(x:Str):Prop:=X.env.kindOf x=some .globalImplicit
theorem oj {E:Value->Shared->Prop}{pins:List (Addr×Obj)}{s:Shared}{σ:St}{H:Hp}{x:Str}{u:Value}{pos:Pos}{Q:Value->Shared->Prop}(I:Inv X pins σ H s)(hg:Gl X x)(hm:X.mg x=some u)(h:Q u s)
  (hd:(x==("__debug__" :Str))=false:=by decide):wpAny (model X.prog X.w) X.A (eval (.Name x pos) X.env) Q E s:=
 Calls.Name_function_global I.ok.kind hg (Calls.loadGlobal_global (by rw[I.ok.glob];exact I.mod.glob.keeps I.bk) hm h) hd
theorem qx {E:Value->Shared->Prop}{pins:List (Addr×Obj)}{s:Shared}{σ:St}{H:Hp}{x:Str}{u:Value}{pos:Pos}{Q:Value->Shared->Prop}(I:Inv X pins σ H s)(hg:Gl X x)(hm:X.mg x=none)(hv:bootBuiltins x=some u)(h:Q u s)
  (hn:x≠ "__name__" :=by decide) (hd:(x==("__debug__" :Str))=false:=by decide):wpAny (model X.prog X.w) X.A (eval (.Name x pos) X.env) Q E s:=by
 obtain⟨mb,h1,h2⟩:=I.mod.blt
 exact Calls.Name_function_global I.ok.kind hg (Calls.loadGlobal_builtin (by rw[I.ok.glob];exact I.mod.glob.keeps I.bk) hm (by rw[I.ok.blt];exact h1.keeps I.bk) ((h2 x hn).trans hv) h) hd
theorem lW {x:Str}{v:V}{u:Value}{pos:Pos}(hg:Gl X x)(hm:X.mg x=some u)(r:RelV v u)(hd:(x==("__debug__" :Str))=false:=by decide):PE X (.Name x pos) (tC v):=
 λ_ _ _ H _ I h=>oj I hg hm ⟨v,H,I,r,h⟩ hd
theorem nX {x:Str}{v:V}{u:Value}{pos:Pos}(hg:Gl X x)(hm:X.mg x=none)(hv:bootBuiltins x=some u)(r:RelV v u)(hn:x≠ "__name__" :=by decide)(hd:(x==("__debug__" :Str))=false:=by decide):PE X (.Name x pos) (tC v):=
 λ_ _ _ H _ I h=>qx I hg hm hv ⟨v,H,I,r,h⟩ hn hd
def t2I (ta tb:TE)(k:Int->Int->Hp->Prop):St->Hp->Prop:=λσ H=>ta σ H λx H1=>tb σ H1 λy H2=>∃ i j,x = .int i/\y = .int j/\k i j H2
variable {a b:Expr}{ta tb:TE}{pos:Pos}
def PC (X:Cx)(op:CmpOp)(a b:Expr)(t:TE):Prop:=
 ∀ (pins:List (Addr×Obj)) (s:Shared) (σ:St) (H:Hp) (Q:VK),Inv X pins σ H s->t σ H Q->
  wpAny (model X.prog X.w) X.A (eval a X.env) (λv s₁=>wpAny (model X.prog X.w) X.A (eval b X.env) (λu s₂=>wpAny (model X.prog X.w) X.A (compareOp op v u) (EP X pins σ Q) X.xe s₂) X.xe s₁) X.xe s
theorem EC (b:Expr){op:CmpOp}(h:op≠ .In)(h2:op≠ .NotIn):behindInMarks op b=false:=by
 have e1:(op==CmpOp.In)=false:=by cases op<;>first |rfl |exact absurd rfl h
 have e2:(op==CmpOp.NotIn)=false:=by cases op<;>first |rfl |exact absurd rfl h2
 cases b<;>simp[behindInMarks,e1,e2]
def Am (p:Int->Int->Bool)(ta tb:TE):TE:=λσ H Q=>t2I ta tb (λi j H2=>Q (.bl (p i j)) H2) σ H
abbrev tLt:TE->TE->TE:=Am λi j=>decide (i<j)
abbrev tLe:TE->TE->TE:=Am λi j=>decide (i<=j)
abbrev tGt:TE->TE->TE:=Am λi j=>decide (j<i)
abbrev tGe:TE->TE->TE:=Am λi j=>decide (j<=i)
abbrev LV:TE->TE->TE:=Am λi j=>decide (i=j)
abbrev LO:TE->TE->TE:=Am λi j=> !decide (i=j)
theorem rZ {op:CmpOp}{p:Int->Int->Bool}(ha:PE X a ta)(hb:PE X b tb)
  (rule:∀ (i j:Int) (t u:Tok) (Q:Value->Shared->Prop) (s:Shared),Q (.bool (p i j)) s->wpAny (model X.prog X.w) X.A (compareOp op (.int i t) (.int j u)) Q X.xe s):PC X op a b (Am p ta tb):=by
 intro pins s σ H Q I h
 refine bin ha hb I h λv u s2 x y H2 I2 rx ry q=>?_
 obtain⟨i,j,rfl,rfl,q⟩:=q
 obtain⟨t,rfl⟩:=rx
 obtain⟨t',rfl⟩:=ry
 exact rule i j t t' _ s2 ⟨.bl _,H2,I2,rfl,q⟩
theorem qY (ha:PE X a ta)(hb:PE X b tb):PC X .Lt a b (tLt ta tb):=rZ ha hb λ_ _ _ _ _ _ h=>lt_int h
theorem J7 (ha:PE X a ta)(hb:PE X b tb):PC X .LtE a b (tLe ta tb):=rZ ha hb λ_ _ _ _ _ _ h=>le_int h
theorem wU (ha:PE X a ta)(hb:PE X b tb):PC X .Gt a b (tGt ta tb):=rZ ha hb λ_ _ _ _ _ _ h=>gt_int h
theorem J8 (ha:PE X a ta)(hb:PE X b tb):PC X .GtE a b (tGe ta tb):=rZ ha hb λ_ _ _ _ _ _ h=>ge_int h
theorem nY (ha:PE X a ta)(hb:PE X b tb):PC X .Eq a b (LV ta tb):=rZ ha hb λ_ _ _ _ _ _ h=>eq_int (by rw[Bool.beq_eq_decide_eq];exact h)
theorem qv (ha:PE X a ta)(hb:PE X b tb):PC X .NotEq a b (LO ta tb):=rZ ha hb λ_ _ _ _ _ _ h=>ne_int (by rw[bne,Bool.beq_eq_decide_eq];exact h)
def LQ (ta:TE):TE:=λσ H Q=>ta σ H λx H1=>Q (.bl (decide (x = .non))) H1
def JH (ta:TE):TE:=λσ H Q=>ta σ H λx H1=>Q (.bl (!decide (x = .non))) H1
theorem RelV.zr {x:V}{v:Value}(r:RelV x v):(v==Value.none)=decide (x = .non):=by
 cases x with
 |non=>cases r;rfl
 |bl _=>cases r;rfl
 |int _=>obtain⟨t,rfl⟩:=r;rfl
 |str _=>obtain⟨t,rfl⟩:=r;rfl
 |byt _=>obtain⟨t,rfl⟩:=r;rfl
 |flt _=>obtain⟨t,rfl⟩:=r;rfl
 |ref _=>cases r;rfl
 |ty _=>cases r;rfl
theorem Ik {j pos'}(ha:PE X a ta):PC X .Is a (.Constant .none j pos') (LQ ta):=by
 intro pins s σ H Q I h
 refine thn (ha pins s σ H _ I h) λv s1 ⟨x,H1,I1,r1,q1⟩=>?_
 exact Constant_none (is_none_gen ⟨.bl _,H1,I1,by rw[r1.zr];rfl,q1⟩)
theorem qX {j pos'}(ha:PE X a ta):PC X .IsNot a (.Constant .none j pos') (JH ta):=by
 intro pins s σ H Q I h
 refine thn (ha pins s σ H _ I h) λv s1 ⟨x,H1,I1,r1,q1⟩=>?_
 exact Constant_none (isnot_none_gen ⟨.bl _,H1,I1,by rw[r1.zr];rfl,q1⟩)
def tB (t:TE):TT:=λσ H Q=>t σ H λx H1=>∃ c,x = .bl c/\Q c H1
theorem gB {op:CmpOp}{t:TE}(h:PC X op a b t)(h1:behindInMarks op b=false:=by first |exact EC _ (by decide) (by decide)|rfl):PT X (.Compare a [op] [b] pos) (tB t):=by
 intro pins s σ H Q I hw
 refine wpAny_isTrue_Compare1 (thn (h pins s σ H _ I hw) λv s1 h1=>thn h1 λu s2 h2=>thn h2 λc s3 ⟨x,H1,I1,r1,q1⟩=>?_) h1
 obtain⟨d,rfl,q⟩:=q1
 cases r1
 exact cF ⟨H1,I1,q⟩
theorem my {e:Expr}{t:TE}(h:PE X e t)(he:∀ whole,isTrue e X.env whole=(do let v <-whole;standAt e.pos;holding [v] (truthy v)):=by intro _;rfl):PT X e (tB t):=by
 intro pins s σ H Q I hw
 refine isTrue_plain (thn (h pins s σ H _ I hw) λv s1 ⟨x,H1,I1,r1,q1⟩=>?_) (he _)
 obtain⟨d,rfl,q⟩:=q1
 cases r1
 exact cF ⟨H1,I1,q⟩
variable {tA tB':TT}{rest:List Expr}
def LZ (t u:TT):TT:=λσ H Q=>t σ H λc H1=>if c=true then u σ H1 Q else Q false H1
def tOr (t u:TT):TT:=λσ H Q=>t σ H λc H1=>if c=true then Q true H1 else u σ H1 Q
def LM (t:TT):TT:=λσ H Q=>t σ H λc H1=>Q (!c) H1
theorem qV (ha:PT X a tA):PW X (.BoolOp .And [a] pos) tA:=by
 intro wh pins s σ H Q I h
 refine isTrue_and (thn (ha pins s σ H Q I h) λc s1 e=>?_)
 cases c with
 |true=>exact isTrue_and_nil e
 |false=>exact e
theorem oM (ha:PT X a tA):PW X (.BoolOp .Or [a] pos) tA:=by
 intro wh pins s σ H Q I h
 refine isTrue_or (thn (ha pins s σ H Q I h) λc s1 e=>?_)
 cases c with
 |false=>exact isTrue_or_nil e
 |true=>exact e
theorem rX (ha:PT X a tA)(hb:PW X (.BoolOp .And (b::rest) pos) tB'):PW X (.BoolOp .And (a::b::rest) pos) (LZ tA tB'):=by
 intro wh pins s σ H Q I h
 refine isTrue_and (thn (ha pins s σ H _ I h) λc s1 ⟨H1,I1,q1⟩=>?_)
 cases c with
 |true=>exact hb wh pins s1 σ H1 Q I1 q1
 |false=>exact⟨H1,I1,q1⟩
theorem qU (ha:PT X a tA)(hb:PW X (.BoolOp .Or (b::rest) pos) tB'):PW X (.BoolOp .Or (a::b::rest) pos) (tOr tA tB'):=by
 intro wh pins s σ H Q I h
 refine isTrue_or (thn (ha pins s σ H _ I h) λc s1 ⟨H1,I1,q1⟩=>?_)
 cases c with
 |true=>exact⟨H1,I1,q1⟩
 |false=>exact hb wh pins s1 σ H1 Q I1 q1
theorem m6 (ha:PT X a tA):PT X (.UnaryOp .Not a pos) (LM tA):=by
 intro pins s σ H Q I h
 exact isTrue_not (ha pins s σ H (λc H1=>Q (!c) H1) I h)
def JO (ta tb:TE):TE:=λσ H Q=>ta σ H λx H1=>∃ c,x = .bl c/\if c=true then tb σ H1 Q else Q (.bl false) H1
theorem Ih {op}{t:TE}(h:PE X a t):PE X (.BoolOp op [a] pos) t:=λpins s σ H Q I hw=>BoolOp_one (h pins s σ H Q I hw)
theorem Ij (ha:PE X a ta)(hb:PE X (.BoolOp .And (b::rest) pos) tb):PE X (.BoolOp .And (a::b::rest) pos) (JO ta tb):=by
 intro pins s σ H Q I h
 refine BoolOp_and (thn (ha pins s σ H _ I h) λv s1 ⟨x,H1,I1,r1,q1⟩=>?_)
 obtain⟨c,rfl,q1⟩:=q1
 cases r1
 refine cF ?_
 cases c with
 |true=>exact hb pins s1 σ H1 Q I1 q1
 |false=>exact⟨.bl false,H1,I1,rfl,q1⟩
def tIf (t:TT)(ta tb:TE):TE:=λσ H Q=>t σ H λc H1=>if c=true then ta σ H1 Q else tb σ H1 Q
theorem ze {c:Expr}(hc:PT X c tA)(ha:PE X a ta)(hb:PE X b tb):PE X (.IfExp c a b pos) (tIf tA ta tb):=by
 intro pins s σ H Q I h
 refine wpAny_IfExp (thn (hc pins s σ H _ I h) λd s1 ⟨H1,I1,q1⟩=>?_)
 cases d with
 |true=>exact ha pins s1 σ H1 Q I1 q1
 |false=>exact hb pins s1 σ H1 Q I1 q1
end
def SqL (K:PySem.W.Frag)(H:Hp)(a:Addr)(xs:List V):Prop:=
 Rd H a (.lst xs)\/
  ∃ (o:Obj) (its:Array Value) (n:Nat),K.lookup a=some o/\o.cls = .type "list" /\o.dict=none/\o.data = .seq its n/\its.size<=sizeLine/\Vals xs its.toList
def SqT (K:PySem.W.Frag)(H:Hp)(a:Addr)(xs:List V):Prop:=
 Rd H a (.tup xs)\/
  ∃ (o:Obj) (its:Array Value) (n:Nat),K.lookup a=some o/\o.cls = .type "tuple" /\o.data = .seq its n/\its.size<=sizeLine/\Vals xs its.toList
def So:Value->Option V
 |.none=>some .non
 |.bool b=>some (.bl b)
 |.int i _=>some (.int i)
 |.str x _=>some (.str x)
 |.bytes b _=>some (.byt b)
 |.float b _=>some (.flt b)
 |.ref a=>some (.ref a)
 |.type n=>some (.ty n)
 |_=>none
theorem RelV.abs {x:V}{u:Value}(r:RelV x u):So u=some x:=by
 cases x with
 |non=>cases r;rfl
 |bl _=>cases r;rfl
 |int _=>obtain⟨t,rfl⟩:=r;rfl
 |str _=>obtain⟨t,rfl⟩:=r;rfl
 |byt _=>obtain⟨t,rfl⟩:=r;rfl
 |flt _=>obtain⟨t,rfl⟩:=r;rfl
 |ref _=>cases r;rfl
 |ty _=>cases r;rfl
theorem RelV.inj {x y:V}{u:Value}(r:RelV x u)(q:RelV y u):x=y:=aP (r.abs.symm.trans q.abs)
theorem Vals.inj:∀ {xs ys:List V}{us:List Value},Vals xs us->Vals ys us->xs=ys
 |_,_,_,.nil,.nil=>rfl
 |_,_,_,.cons r t,.cons r' t'=>by rw[r.inj r',Vals.inj t t']
section
variable {X:Cx}{pins:List (Addr×Obj)}{σ:St}{H:Hp}{s:Shared}{a:Addr}{xs ys:List V}
theorem SqL.of {K:PySem.W.Frag}(h:H a=some (.lst xs)):SqL K H a xs:=.inl (.inl h)
theorem SqT.of {K:PySem.W.Frag}(h:H a=some (.tup xs)):SqT K H a xs:=.inl (.inl h)
theorem Inv.list (I:Inv X pins σ H s)(h:SqL X.K H a xs):∃ its:List Value,Vals xs its/\PlainL s.heap a its.toArray/\xs.length<=sizeLine:=by
 rcases h with h |⟨o,its,n,hk,hc,hd,hs,hz,r⟩
 ·obtain⟨z,its,n,r,e⟩:=h.ok I.hok
  exact⟨its,r,⟨_,n,e,rfl,rfl,rfl⟩,z⟩
 ·refine⟨its.toList,r,⟨o,n,I.kIn a o hk,hc,hd,by simpa using hs⟩,?_⟩
  have e:=r.length
  simp only[aW]at e
  omega
theorem Inv.tuple (I:Inv X pins σ H s)(h:SqT X.K H a xs):∃ its:List Value,Vals xs its/\IsTup s.heap a its.toArray/\xs.length<=sizeLine:=by
 rcases h with h |⟨o,its,n,hk,hc,hs,hz,r⟩
 ·obtain⟨z,its,r,p⟩:=h.ok I.hok
  exact⟨its,r,p,z⟩
 ·refine⟨its.toList,r,⟨o,I.kIn a o hk,hc,n,by simpa using hs⟩,?_⟩
  have e:=r.length
  simp only[aW]at e
  omega
theorem Inv.rm (I:Inv X pins σ H s)(h:SqL X.K H a xs)(h':SqL X.K H a ys):xs=ys:=by
 obtain⟨its,r,⟨o,n,e,_,_,d⟩,_⟩:=I.list h
 obtain⟨its',r',⟨o',n',e',_,_,d'⟩,_⟩:=I.list h'
 rw[e]at e';cases e'
 rw[d]at d'
 injection d' with d1 _
 have:its=its':=by simpa using bL Array.toList d1
 subst this
 exact r.inj r'
end
abbrev Cx.tS (X:Cx)(E:Value->Shared->Prop):Cx:={X with xe:=E}
abbrev Cx.nox (X:Cx):Cx:=X.tS λ_ _=>False
theorem Cx.Ok.tS {X:Cx}(ok:X.Ok)(E:Value->Shared->Prop):(X.tS E).Ok:=
 ⟨ok.mod,ok.kind,ok.glob,ok.blt,ok.above,ok.inj,ok.has,ok.cab,ok.hd,ok.frames,ok.stk,ok.exf,ok.bs,ok.bsz,ok.AE,ok.Du,ok.su,ok.frf⟩
theorem Cx.Ok.oH {X:Cx}{E:Value->Shared->Prop}(ok:(X.tS E).Ok):X.Ok:=
 ⟨ok.mod,ok.kind,ok.glob,ok.blt,ok.above,ok.inj,ok.has,ok.cab,ok.hd,ok.frames,ok.stk,ok.exf,ok.bs,ok.bsz,ok.AE,ok.Du,ok.su,ok.frf⟩
section
variable {X:Cx}{pins:List (Addr×Obj)}{σ:St}{H:Hp}{s:Shared}{E:Value->Shared->Prop}
theorem Inv.tS (I:Inv X pins σ H s)(E:Value->Shared->Prop):Inv (X.tS E) pins σ H s:=⟨I.ok.tS E,I.os,I.bare,I.base,I.loc,I.cell,I.free,I.kC,I.pin,I.hok,I.len⟩
theorem Inv.oH (I:Inv (X.tS E) pins σ H s):Inv X pins σ H s:=⟨I.ok.oH,I.os,I.bare,I.base,I.loc,I.cell,I.free,I.kC,I.pin,I.hok,I.len⟩
theorem SP.oH {D:Ends}{f:Flow}{s':Shared}(h:SP (X.tS E) pins D f s'):SP X pins D f s':=by
 cases f with
 |next=>obtain⟨σ',H',I,q⟩:=h;exact⟨σ',H',I.oH,q⟩
 |brk=>obtain⟨σ',H',I,q⟩:=h;exact⟨σ',H',I.oH,q⟩
 |cont=>obtain⟨σ',H',I,q⟩:=h;exact⟨σ',H',I.oH,q⟩
 |ret u=>obtain⟨v,σ',H',I,r,q⟩:=h;exact⟨v,σ',H',I.oH,r,q⟩
theorem PSs.nox {st:List Stmt}{t:TS}(h:PSs X.nox st t):PSs X st t:=λpins s σ H D I hw=>
 bo (h pins s σ H D (I.tS _) hw) (λ_ _ q=>q.oH) λ_ _ z=>False.elim z
end
section
variable {X:Cx}{st:Stmt}{rest:List Stmt}{t u:TS}{e:Expr}{te:TE}{pos:Pos}
def JI:TS:=λD σ H=>D.nx σ H
def lz (t u:TS):TS:=λD σ H=>t {D with nx:=u D} σ H
theorem fY:PSs X [] JI:=λ_ _ σ H _ I h=>en ⟨σ,H,I,h⟩
theorem fE (h1:PS X st t)(h2:PSs X rest u):PSs X (st::rest) (lz t u):=by
 intro pins s σ H D I h
 refine wpAny_execs_cons (thn (h1 pins s σ H {D with nx:=u D} I h) λf s1 q=>?_)
 cases f with
 |next=>
  obtain⟨σ',H',I',q⟩:=q
  exact h2 pins s1 σ' H' D I' q
 |ret v=>exact q
 |brk=>exact q
 |cont=>exact q
theorem fH (h1:PS X st t):PSs X [st] t:=by
 intro pins s σ H D I h
 refine wpAny_execs_cons (thn (h1 pins s σ H D I h) λf s1 q=>?_)
 cases f with
 |next=>exact en q
 |ret v=>exact q
 |brk=>exact q
 |cont=>exact q
theorem Inv.quiet {pins:List (Addr×Obj)}{σ:St}{H:Hp}{s:Shared}(I:Inv X pins σ H s):interactive X.env=false:=by simp[interactive,I.ok.kind]
def JK (te:TE):TS:=λD σ H=>te σ H λ_ H1=>D.nx σ H1
theorem g7 (he:PE X e te)(hs:swapsWith e none pos.line X.env=pure false:=by rfl):PS X (.Expr e pos) (JK te):=by
 intro pins s σ H D I h
 exact wpAny_Expr_any (thn (he pins s σ H _ I h) λv s1 ⟨x,H1,I1,r1,q1⟩=>⟨σ,H1,I1,q1⟩) I.quiet hs
def LL (te:TE):TS:=λD σ H=>te σ H D.rt
theorem fT (he:PE X e te):PS X (.Return (some e) pos) (LL te):=by
 intro pins s σ H D I h
 exact wpAny_Return_some (thn (he pins s σ H _ I h) λv s1 ⟨x,H1,I1,r1,q1⟩=>⟨x,σ,H1,I1,r1,q1⟩)
def LR (c:TT)(t u:TS):TS:=λD σ H=>c σ H λb H1=>if b=true then t D σ H1 else u D σ H1
theorem gN {c:Expr}{a b:List Stmt}{tc:TT}(hc:PT X c tc)(ha:PSs X a t)(hb:PSs X b u):PS X (.If c a b pos) (LR tc t u):=by
 intro pins s σ H D I h
 refine wpAny_If (thn (hc pins s σ H _ I h) λd s1 ⟨H1,I1,q1⟩=>?_)
 cases d with
 |true=>exact ha pins s1 σ H1 D I1 q1
 |false=>exact hb pins s1 σ H1 D I1 q1
end
abbrev TG:=V->St->Hp->(St->Hp->Prop)->Prop
abbrev TGs:=List V->St->Hp->(St->Hp->Prop)->Prop
def PG (X:Cx)(target:Expr)(t:TG):Prop:=
 ∀ (pins:List (Addr×Obj)) (s:Shared) (σ:St) (H:Hp) (v:V) (u:Value) (Q:St->Hp->Prop),Inv X pins σ H s->RelV v u->t v σ H Q->
  wpAny (model X.prog X.w) X.A (assign target X.env u) (λ_ s'=>∃ σ' H',Inv X pins σ' H' s'/\Q σ' H') X.xe s
def PGs (X:Cx)(ts:List Expr)(t:TGs):Prop:=
 ∀ (pins:List (Addr×Obj)) (s:Shared) (σ:St) (H:Hp) (vs:List V) (us:List Value) (Q:St->Hp->Prop),Inv X pins σ H s->Vals vs us->t vs σ H Q->
  wpAny (model X.prog X.w) X.A (assignInOrder ((assignEach ts X.env).map (·.2)) us) (λ_ s'=>∃ σ' H',Inv X pins σ' H' s'/\Q σ' H') X.xe s
abbrev SQ:=V->V->V->Hp->(Hp->Prop)->Prop
abbrev TIp:=V->V->Hp->VK->Prop
def PIp (X:Cx)(op:Operator)(t:TIp):Prop:=
 ∀ (pins:List (Addr×Obj)) (s:Shared) (σ:St) (H:Hp) (x y:V) (v u:Value) (Q:VK),Inv X pins σ H s->RelV x v->RelV y u->t x y H Q->
  wpAny (model X.prog X.w) X.A (inplaceOp op v u) (EP X pins σ Q) X.xe s
section
variable {X:Cx}{pos:Pos}
def oW (i:Nat):TG:=λv σ H Q=>Q (σ.set i (some v)) H
theorem fL {i:Nat}{x:Str}(hN:X.N.Nodup)(hi:X.N[i]? = some x)(hx:Loc X.env.scope x)(hf:X.fn x=true\/X.env.scope.names.lookup x=some .local:=by first |exact .inl rfl |exact .inr rfl |assumption):PG X (.Name x pos) (oW i):=by
 intro pins s σ H v u Q I r h
 exact wpAny_assign_Name (qO I hN hi hx r (λs' I'=>⟨_,H,I',h⟩) hf)
def Ld:TGs:=λvs σ H Q=>vs = []/\Q σ H
def Hq (t:TG)(u:TGs):TGs:=λvs σ H Q=>∃ v r,vs=v::r/\t v σ H λσ' H'=>u r σ' H' Q
theorem gP:PGs X [] Ld:=by
 intro pins s σ H vs us Q I r h
 obtain⟨e,h⟩:=h
 subst e
 cases r
 exact assignInOrder_nil ⟨σ,H,I,h⟩
theorem fN {e:Expr}{es:List Expr}{t:TG}{u:TGs}(h1:PG X e t)(h2:PGs X es u)
  (hs:(assignEach (e::es) X.env).map (·.2)=assign e X.env::(assignEach es X.env).map (·.2):=by rfl):PGs X (e::es) (Hq t u):=by
 intro pins s σ H vs us Q I r h
 obtain⟨v,vr,e1,h⟩:=h
 subst e1
 cases r with
 |cons r rr=>
  rw[hs]
  refine assignInOrder_cons (thn (h1 pins s σ H _ _ _ I r h) λ_ s1 ⟨σ1,H1,I1,q1⟩=>?_)
  exact h2 pins s1 σ1 H1 _ _ Q I1 rr q1
def Lc (K:PySem.W.Frag)(n:Nat)(t:TGs):TG:=λv σ H Q=>∃ a xs,v = .ref a/\SqT K H a xs/\xs.length=n/\t xs σ H Q
theorem ie {es:List Expr}{k:Nat}{t:TGs}{n:Nat}(hc:X.calm=true)(h:PGs X es t)
  (hn:(assignEach es X.env).length=n:=by rfl) (hst:(assignEach es X.env).findIdx? (·.1)=none:=by rfl):PG X (.Tuple es k pos) (Lc X.K n t):=by
 intro pins s σ H v u Q I r hw
 obtain⟨a,xs,e1,hq,hl,hw⟩:=hw
 subst e1
 cases r
 obtain⟨its,rv,ht,hz⟩:=I.tuple hq
 refine assign_Tuple_tuple (I.ok.hd hc) ht (by simp[hn,<-hl,rv.length]) hst λh' hx=>?_
 have I1:Inv X pins σ H {s with heap:=h'} :=I.kept (t':=s.toks) λb o e=>hx b o (aL (aC e)) e
 exact h pins _ σ H xs _ Q I1 (by simpa using rv) hw
def DV (te:TE)(g:TG):TS:=λD σ H=>te σ H λx H1=>g x σ H1 D.nx
theorem rY {tg e:Expr}{te:TE}{g:TG}(he:PE X e te)(hg:PG X tg g)(hs:swapsWithSole [tg] e pos.line X.env=pure false:=by rfl)(hw:swappedStores [tg] e X.env=pure none:=by rfl)
  (h1:(assignEach [tg] X.env).map (·.2) = [assign tg X.env]:=by rfl):PS X (.Assign [tg] e pos) (DV te g):=by
 intro pins s σ H D I h
 refine wpAny_Assign_stores (thn (he pins s σ H _ I h) λv s1 ⟨x,H1,I1,r1,q1⟩=>?_) hs hw
 rw[h1]
 exact thn (hg pins s1 σ H1 x v _ I1 r1 q1) λ_ s2 q=>q
theorem fR {i:Nat}{x:Str}{e:Expr}{te:TE}{pos':Pos}(hN:X.N.Nodup)(hi:X.N[i]? = some x)(hx:Loc X.env.scope x)(he:PE X e te)(hs:swapsWith e (some (.Name x pos')) pos.line X.env=pure false:=by rfl)(hf:X.fn x=true\/X.env.scope.names.lookup x=some .local:=by first |exact .inl rfl |exact .inr rfl |assumption):
  PS X (.Assign [.Name x pos'] e pos) (DV te (oW i)):=by
 intro pins s σ H D I h
 refine wpAny_Assign_Name (thn (he pins s σ H _ I h) λv s1 ⟨y,H1,I1,r1,q1⟩=>?_) hs
 exact qO I1 hN hi hx r1 (λs2 I2=>⟨_,H1,I2,q1⟩) hf
def LY (i:Nat)(te:TE)(ti:TIp):TS:=λD σ H=>∃ x,σ[i]? = some (some x)/\te σ H λy H1=>ti x y H1 λz H2=>D.nx (σ.set i (some z)) H2
theorem As {i:Nat}{x:Str}{e:Expr}{te:TE}{op:Operator}{ti:TIp}{pos':Pos}(hN:X.N.Nodup)(hi:X.N[i]? = some x)(hx:Loc X.env.scope x)(he:PE X e te)(ho:PIp X op ti)(hf:X.fn x=true\/X.env.scope.names.lookup x=some .local:=by first |exact .inl rfl |exact .inr rfl |assumption):
  PS X (.AugAssign (.Name x pos') op e pos) (LY i te ti):=by
 intro pins s σ H D I h
 obtain⟨v,e1,h⟩:=h
 obtain⟨m,hn,hl⟩:=I.loc
 have vis:Vis X.env.scope x:=by rcases hx with k |k;exact .inl k;exact .inr (.inl k)
 obtain⟨u,r,l⟩:=hl i x v hi e1 vis
 refine wpAny_AugAssign_Name ?_
 have go:wpAny (model X.prog X.w) X.A (eval e X.env) (λw s₂=>wpAny (model X.prog X.w) X.A (inplaceOp op u w) (λr s₃=>wpAny (model X.prog X.w) X.A (storeName X.env x r) (λ_=>SP X pins D .next) X.xe s₃) X.xe s₂) X.xe s:=by
  refine thn (he pins s σ H _ I h) λw s1 ⟨y,H1,I1,r1,q1⟩=>?_
  refine thn (ho pins s1 σ H1 v y u w _ I1 r r1 q1) λz s2 ⟨zv,H2,I2,r2,q2⟩=>?_
  exact qO I2 hN hi hx r2 (λs3 I3=>⟨_,H2,I3,q2⟩) hf
 rcases l with⟨hk,hm⟩|⟨hk,c,hc,BX⟩
 ·exact wpAny_loadName_local I.ok.kind hk hn hm go
 ·rcases hk with hk |hk
  ·exact wpAny_loadName_cell I.ok.kind hk hc BX go
  ·rcases hx with k |k
   ·have:X.env.scope.names.lookup x=some .free:=hk
    rw[k]at this;cases this
   ·have:X.env.scope.names.lookup x=some .free:=hk
    rw[k]at this;cases this
def ipI (f:Int->Int->Int):TIp:=λx y H Q=>∃ i j,x = .int i/\y = .int j/\Q (.int (f i j)) H
theorem AQ:PIp X .Add (ipI λi j=>i+j):=by
 intro pins s σ H x y v u Q I r1 r2 h
 obtain⟨i,j,e1,e2,q⟩:=h
 subst e1;subst e2
 obtain⟨t,rfl⟩:=r1
 obtain⟨t',rfl⟩:=r2
 exact iadd_int ⟨.int _,H,I.tok _,⟨_,rfl⟩,q⟩
end
section
variable {X:Cx}{pos:Pos}
def tY (c:TT)(tb:TS):TS:=λD σ H=>∃ W:Nat->St->Hp->Prop,(∃ m,W m σ H)/\∀ m σ H,W m σ H->
 c σ H λb H1=>if b=true then ∃ N:St->Hp->Prop,(∀ σ' H',N σ' H'->∃ m',m'<m/\W m' σ' H')/\tb {D with nx:=N,ct:=N,bk:=D.nx} σ H1 else D.nx σ H1
theorem nz {c:Expr}{body:List Stmt}{tc:TT}{tb:TS}(hp:PassesOwn (model X.prog X.w) X.A X.env X.xe)(hc:PT X c tc)(hb:PSs X body tb):PS X (.While c body [] pos) (tY tc tb):=by
 intro pins s σ H D I h
 obtain⟨W,⟨m0,w0⟩,turn⟩:=h
 refine wpAny_While (codeAny_whileLoop (λn s'=>∃ σ' H',Inv X pins σ' H' s'/\W n σ' H') ?_ m0 ⟨σ,H,I,w0⟩)
 rintro n s1 ⟨σ1,H1,I1,w1⟩
 refine di hp (thn (hc pins s1 σ1 H1 _ I1 (turn n σ1 H1 w1)) λb s2 ⟨H2,I2,q2⟩=>?_)
 cases b with
 |true=>
  obtain⟨N,hN,q2⟩:=q2
  rw[aJ rfl]
  refine di hp (thn (hb pins s2 σ1 H2 _ I2 q2) λf s3 q3=>?_)
  cases f with
  |next=>
   obtain⟨σ3,H3,I3,n3⟩:=q3
   obtain⟨m',hm,w3⟩:=hN σ3 H3 n3
   exact⟨m',hm,σ3,H3,I3,w3⟩
  |cont=>
   obtain⟨σ3,H3,I3,n3⟩:=q3
   obtain⟨m',hm,w3⟩:=hN σ3 H3 n3
   exact⟨m',hm,σ3,H3,I3,w3⟩
  |brk=>exact q3
  |ret v=>exact q3
 |false=>
  rw[aE aD]
  exact en ⟨σ1,H2,I2,q2⟩
end
structure It where
 go:Nat->Hp->Prop
 yld:Nat->Hp->V->Hp->Prop
 stop:Nat->Hp->Prop
def lO (X:Cx)(pins:List (Addr×Obj))(H:Hp)(b:Addr):Prop:=
 H b=none/\b≠X.env.locals/\b∉X.fs/\(b∈X.ex\/X.s₀.heap.objs.size<=b)/\(∀ x c,X.env.cells.lookup x=some c->c≠b)/\∀ p∈X.pn++pins,p.1≠b
theorem Inv.Ds {X:Cx}{pins:List (Addr×Obj)}{σ:St}{H H':Hp}{s:Shared}{b:Addr}(I:Inv X pins σ H s)(hb:s.heap.objs.size<=b)(hn:H' b=none):lO X pins H' b:=by
 refine⟨hn,cV (aX I.lt hb),I.OF hb,.inr (bF I.sz hb),λx c e z=>?_,λp hp z=>?_⟩
 ·obtain⟨v,q⟩:=I.cell x c e
  exact absurd (aX q.lt (by rw[z];exact hb)) (cO _)
 ·exact absurd (aX (aC (I.pin p hp).1) (by rw[z];exact hb)) (cO _)
structure Turn (P:Program)(w:World)(K:PySem.W.Frag)(tg:Expr)(J:It)(fp:List Addr)(it:Addr)(tn:Nat->Heap->Prop):Prop where
 mem:it∈fp
 obj:∀ i h,tn i h->∀ b∈fp,∃ o,h.get? b=some o/\∀ v,o.data≠ .cell v
 keep:∀ i h h',tn i h->(∀ b∈fp,∀ o,h.get? b=some o->h'.get? b=some o)->tn i h'
 item:∀ (X:Cx),X.prog=P->X.w=w->X.K=K->X.calm=true->∀ (i:Nat) (pins:List (Addr×Obj)) (s:Shared) (σ:St) (H:Hp) (E:Value->Shared->Prop),Inv X pins σ H s->(∀ b∈fp,lO X pins H b)->tn i s.heap->J.go i H->
  wpAny (model P w) X.A (pyNext (.ref it)) (λr s1=>∃ u,r=some u/\
   wpAny (model P w) X.A (letOwnedTupleGo tg (.ref it) u) (λ_ s2=>∃ x H',Inv X pins σ H' s2/\RelV x u/\J.yld i H x H'/\tn (i+1) s2.heap/\∀ b∈fp,H' b=none) E s1) E s
 done:∀ (X:Cx),X.prog=P->X.w=w->X.K=K->X.calm=true->∀ (i:Nat) (pins:List (Addr×Obj)) (s:Shared) (σ:St) (H:Hp) (E:Value->Shared->Prop),Inv X pins σ H s->(∀ b∈fp,lO X pins H b)->tn i s.heap->J.stop i H->
  wpAny (model P w) X.A (pyNext (.ref it)) (λr s1=>r=none/\Inv X pins σ H s1) E s
 self:∀ (A:Around) (i:Nat) (s:Shared) (Q:Value->Shared->Prop) (E:Value->Shared->Prop),tn i s.heap->Q (.ref it) s->wpAny (model P w) A (pyIter (.ref it)) Q E s
abbrev TI:=St->Hp->(It->Hp->Prop)->Prop
def PIE (X:Cx)(pins:List (Addr×Obj))(σ:St)(tg:Expr)(R:It->Hp->Prop)(itv:Value)(s2:Shared):Prop:=
 ∃ (it:Addr) (fp:List Addr) (tn:Nat->Heap->Prop) (J:It) (H':Hp),itv = .ref it/\Inv X pins σ H' s2/\Turn X.prog X.w X.K tg J fp it tn/\tn 0 s2.heap/\(∀ b∈fp,lO X pins H' b)/\R J H'
def PI (X:Cx)(tg iter:Expr)(wi:TI):Prop:=
 ∀ (pins:List (Addr×Obj)) (s:Shared) (σ:St) (H:Hp) (R:It->Hp->Prop),Inv X pins σ H s->wi σ H R->
  wpAny (model X.prog X.w) X.A (eval iter X.env) (λv s1=>wpAny (model X.prog X.w) X.A (pyIter v) (PIE X pins σ tg R) X.xe s1) X.xe s
theorem Ho {M : Model} {A : Around} {E : Value → Shared → Prop} {s : Shared} {tg : Expr} {it : Addr} {u : Value} {o : Obj} {n : String} {vs : Array Value} {Q : Unit → Shared → Prop} (ho : s.heap.get? it = some o) (hc : o.cls = .type n) (hd : o.data = .fields vs)
    (hn : ["enumerate", "zip", "dict_itemiterator", "dict_reverseitemiterator", "odict_iterator", "itertools.zip_longest", "itertools.pairwise"].contains n = false) (hQ : Q () s) : wpAny M A (letOwnedTupleGo tg (.ref it) u) Q E s := by
  unfold letOwnedTupleGo
  cases tg <;> first
    | exact ai hQ
    | (cases u <;> first
        | exact ai hQ
        | (refine ae (wpAny_load ho ?_)
           rw [hc, hd]
           show wpAny M A (if (["enumerate", "zip", "dict_itemiterator", "dict_reverseitemiterator", "odict_iterator", "itertools.zip_longest", "itertools.pairwise"].contains n && vs[0]? == some (rawInt _)) = true then _ else _) Q E s
           rw [aE (by intro h; rw [hn, Bool.false_and] at h; cases h)]
           exact ai hQ))
def Itl (K:PySem.W.Frag)(a:Addr):It:=
 ⟨λi H=>∃ xs x,SqL K H a xs/\xs[i]? = some x,λi H x H'=>H'=H/\∀ xs,SqL K H a xs->xs[i]? = some x,λi H=>∃ xs,SqL K H a xs/\xs.length<=i⟩
def Itr (lo:Int)(n:Nat):It:=⟨λi _=>i<n,λi H x H'=>H'=H/\x = .int (lo+i),λi _=>n<=i⟩
theorem Ct {P:Program}{w:World}{K:PySem.W.Frag}{tg:Expr}(a it:Addr):Turn P w K tg (Itl K a) [it] it (λi h=>h.IsListIter it a i) where
 mem:=by simp
 obj:=λi h st b hb=>by
  have e:b=it:=by simpa using hb
  subst e
  obtain⟨o,e,c,d⟩:=st
  exact⟨o,e,λv z=>by rw[d]at z;cases z⟩
 keep:=λi h h' st k=>st.at λo e=>k it (by simp) o e
 item:=by
  intro X hP hw hK hc i pins s σ H E I hf st hg
  subst hP hw hK
  obtain⟨xs,x,hq,hx⟩:=hg
  obtain⟨its,rv,p,hz⟩:=I.list hq
  obtain⟨u,hu,ru⟩:=rv.get hx
  obtain⟨f0,f1,f2,f3,f4,f5⟩:=hf it (by simp)
  refine wpAny_pyNext_list_item st p.isList (x:=u) (by simpa using hu) λh' st' sb=>?_
  have I1:Inv X pins σ H {s with heap:=h'} :=I.turned (t':=s.toks) (λb o hb e=>(sb.2 b hb).trans e) f0 f1 f3 f4 f5
  obtain⟨o,e,c,d⟩:=id st'
  exact⟨u,rfl,Ho (s:={s with heap:=h'}) e c d (by decide) ⟨x,H,I1,ru,⟨rfl,λys hy=>by rw[I.rm hy hq];exact hx⟩,st',λb hb=>(hf b hb).1⟩⟩
 done:=by
  intro X hP hw hK hc i pins s σ H E I hf st hg
  subst hP hw hK
  obtain⟨xs,hq,hx⟩:=hg
  obtain⟨its,rv,p,hz⟩:=I.list hq
  obtain⟨f0,f1,f2,f3,f4,f5⟩:=hf it (by simp)
  have hl:=rv.length
  exact wpAny_pyNext_list_end (I.ok.hd hc) st p.isList (by simp;omega) λh' eb=>⟨rfl,I.turned (t':=s.toks) (λb o hb e=>eb b o hb e) f0 f1 f3 f4 f5⟩
 self:=λ_ _ _ _ _ st h=>wpAny_pyIter_listiter st h
theorem Ai {P:Program}{w:World}{K:PySem.W.Frag}{tg:Expr}(it:Addr)(lo:Int)(n:Nat):Turn P w K tg (Itr lo n) [it] it (λi h=>IsRangeIter h it (lo+(i:Nat)*1) ((n:Int)-(i:Nat)) 1) where
 mem:=by simp
 obj:=λi h st b hb=>by
  have e:b=it:=by simpa using hb
  subst e
  exact⟨_,st,λv z=>by
   have z':Data.fields _=Data.cell v:=z
   cases z'⟩
 keep:=λi h h' st k=>k it (by simp) _ st
 item:=by
  intro X hP hw hK hc i pins s σ H E I hf st hg
  subst hP hw hK
  obtain⟨f0,f1,f2,f3,f4,f5⟩:=hf it (by simp)
  have W:=Walks.range (prog:=X.prog) (w:=X.w) (I.ok.hd hc) it lo 1 n
  refine W.item i s _ _ hg st λv h' tk hv st' kk=>?_
  obtain⟨t,rfl⟩:=hv
  have I1:Inv X pins σ H {s with heap:=h',toks:=tk} :=I.turned (λb o hb e=>kk b o (by simpa using hb) e) f0 f1 f3 f4 f5
  refine⟨_,rfl,Ho (s:={s with heap:=h',toks:=tk}) (n:= "range_iterator") st' rfl rfl (by decide) ⟨.int (lo+i),H,I1,⟨t,?_⟩,⟨rfl,rfl⟩,st',λb hb=>(hf b hb).1⟩⟩
  rw[Int.mul_one]
 done:=by
  intro X hP hw hK hc i pins s σ H E I hf st hg
  subst hP hw hK
  obtain⟨f0,f1,f2,f3,f4,f5⟩:=hf it (by simp)
  exact wpAny_pyNext_range_end (I.ok.hd hc) st (by have:n<=i:=hg;omega) λh' eb=>⟨rfl,I.turned (t':=s.toks) (λb o hb e=>eb b o hb e) f0 f1 f3 f4 f5⟩
 self:=λ_ _ _ _ _ st h=>wpAny_pyIter_rangeiter st h
section
variable {X:Cx}{tg:Expr}
def Kv (K:PySem.W.Frag)(tl:TE):TI:=λσ H R=>tl σ H λx H1=>∃ a,x = .ref a/\(∃ xs,SqL K H1 a xs)/\R (Itl K a) H1
theorem gz {l:Expr}{tl:TE}(hl:PE X l tl):PI X tg l (Kv X.K tl):=by
 intro pins s σ H R I h
 refine thn (hl pins s σ H _ I h) λv s1 ⟨x,H1,I1,r1,q1⟩=>?_
 obtain⟨a,e,⟨xs,hq⟩,q⟩:=q1
 subst e
 cases r1
 obtain⟨its,rv,p,hz⟩:=I1.list hq
 refine wpAny_pyIter_list p.isList ?_
 refine⟨s1.heap.objs.size,[s1.heap.objs.size],_,_,H1,rfl,I1.kept (t':=s1.toks) λb o e=>ax _ e,Ct a _,⟨_,aQ _ rfl,rfl,rfl⟩,λb hb=>?_,q⟩
 have e:b=s1.heap.objs.size:=by simpa using hb
 subst e
 exact I1.Ds (au _) (I1.hok.fresh (au _))
theorem yZ {pins:List (Addr×Obj)}{σ:St}{H:Hp}{s:Shared}{R:It->Hp->Prop}{E:Value->Shared->Prop}{lo hi:Int}{t u v:Tok}{tk:Nat}(I:Inv X pins σ H s)(h1: -(2 ^ 62)<=lo)(h2:lo<2 ^ 62)(h3: -(2 ^ 62)<=hi)(h4:hi<2 ^ 62)
  (q:R (Itr lo (hi-lo).toNat) H):wpAny (model X.prog X.w) X.A (pyIter (.ref s.heap.objs.size)) (PIE X pins σ tg R) E {s with heap:=s.heap.push {cls:=.type "range",data:=.fields #[.int lo t,.int hi u,.int 1 v]},toks:=tk} :=by
 refine wpAny_pyIter_range (IsRange.new ..) (small_one h1 h2 h3 h4) ?_
 have I1:Inv X pins σ H {s with heap:=s.heap.push {cls:=.type "range",data:=.fields #[.int lo t,.int hi u,.int 1 v]},toks:=tk} :=I.kept λb o e=>ax _ e
 refine⟨(s.heap.push {cls:=.type "range",data:=.fields #[.int lo t,.int hi u,.int 1 v]}).objs.size,[(s.heap.push {cls:=.type "range",data:=.fields #[.int lo t,.int hi u,.int 1 v]}).objs.size],_,_,H,rfl,
  I1.kept (t':=tk) λb o e=>ax _ e,Ai _ lo (hi-lo).toNat,?_,λb hb=>?_,q⟩
 ·have e1:lo+((0:Nat):Int)*1=lo:=by simp
  have e2:(((hi-lo).toNat:Nat):Int)-((0:Nat):Int)=Builtin.Range.rangeSize lo hi 1:=by rw[rangeSize_one];split<;>omega
  show IsRangeIter _ _ (lo+((0:Nat):Int)*1) ((((hi-lo).toNat:Nat):Int)-((0:Nat):Int)) 1
  rw[e1,e2]
  exact aQ _ rfl
 ·have e:b=(s.heap.push {cls:=.type "range",data:=.fields #[.int lo t,.int hi u,.int 1 v]}).objs.size:=by simpa using hb
  subst e
  exact I1.Ds (au _) (I1.hok.fresh (au _))
def Ku (ta:TA):TI:=λσ H R=>ta σ H λvs H1=>∃ j:Int,vs = [.int j]/\ -(2 ^ 62)<=j/\j<2 ^ 62/\R (Itr 0 j.toNat) H1
def Kt (ta:TA):TI:=λσ H R=>ta σ H λvs H1=>∃ i j:Int,vs = [.int i,.int j]/\(-(2 ^ 62)<=i/\i<2 ^ 62/\ -(2 ^ 62)<=j/\j<2 ^ 62)/\R (Itr i (j-i).toNat) H1
theorem pS {a:Expr}{ta:TA}{p pos:Pos}(hg:Gl X "range")(hm:X.mg "range" = none)(ha:PA X [a] ta)(hs:starEach [a] X.env = [(false,eval a X.env)]:=by rfl):PI X tg (.Call (.Name "range" p) [a] [] pos) (Ku ta):=by
 intro pins s σ H R I h
 refine Call_ (qx I hg hm boot_range (cD (thn (ha pos pins s σ H _ I h) λus s1 ⟨vs,H1,I1,r1,q1⟩=>?_) hs rfl))
 obtain⟨j,e,q1,q2,q⟩:=q1
 subst e
 cases r1 with
 |cons r rr=>
  cases rr
  obtain⟨t,rfl⟩:=r
  exact call_range_1 (yZ I1 (by omega) (by omega) q1 q2 (by simpa using q))
theorem wO {a b:Expr}{ta:TA}{p pos:Pos}(hg:Gl X "range")(hm:X.mg "range" = none)(ha:PA X [a,b] ta)(hs:starEach [a,b] X.env = [(false,eval a X.env),(false,eval b X.env)]:=by rfl)(hs2:starEach [b] X.env = [(false,eval b X.env)]:=by rfl):
  PI X tg (.Call (.Name "range" p) [a,b] [] pos) (Kt ta):=by
 intro pins s σ H R I h
 refine Call_ (qx I hg hm boot_range (cD (thn (ha pos pins s σ H _ I h) λus s1 ⟨vs,H1,I1,r1,q1⟩=>?_) (by rw[hs,hs2]) (by rw[hs2];rfl)))
 obtain⟨i,j,e,⟨q1,q2,q3,q4⟩,q⟩:=q1
 subst e
 cases r1 with
 |cons r rr=>
  cases rr with
  |cons r' rr=>
   cases rr
   obtain⟨t,rfl⟩:=r
   obtain⟨t',rfl⟩:=r'
   exact call_range_2 (yZ I1 q1 q2 q3 q4 q)
def LU (wi:TI)(g:TG)(tb:TS):TS:=λD σ H=>wi σ H λJ H1=>∃ W:Nat->Nat->St->Hp->Prop,(∃ m,W 0 m σ H1)/\∀ i m σ H,W i m σ H->
 (J.stop i H/\D.nx σ H)\/(J.go i H/\∃ N:St->Hp->Prop,(∀ σ' H',N σ' H'->∃ m',m'<m/\W (i+1) m' σ' H')/\∀ x H',J.yld i H x H'->g x σ H' λσ2 H2=>tb {D with nx:=N,ct:=N,bk:=D.nx} σ2 H2)
def nV (fp:List Addr)(h:Heap):List (Addr×Obj):=fp.filterMap λb=>(h.get? b).map λo=>(b,o)
theorem iI {fp:List Addr}{h:Heap}{b:Addr}{o:Obj}(hb:b∈fp)(e:h.get? b=some o):(b,o)∈nV fp h:=fb.mpr ⟨b,hb,by rw[e];rfl⟩
theorem CS {fp:List Addr}{h:Heap}{p:Addr×Obj}(hp:p∈nV fp h):p.1∈fp/\h.get? p.1=some p.2:=by
 obtain⟨b,hb,e⟩:=fb.mp hp
 cases q:h.get? b with
 |none=>rw[q]at e;cases e
 |some o=>
  rw[q]at e
  have e':(b,o)=p:=aP e
  subst e'
  exact⟨hb,q⟩
theorem Inv.pinned {pins:List (Addr×Obj)}{σ:St}{H:Hp}{s:Shared}{fp:List Addr}(I:Inv X pins σ H s)(hf:∀ b∈fp,lO X pins H b)(ho:∀ b∈fp,∃ o,s.heap.get? b=some o/\∀ v,o.data≠ .cell v):Inv X (pins++nV fp s.heap) σ H s:=
 I.Bx λp hp=>(aF.mp hp).elim (λz=>I.pin p (ay _ z)) λz=>by
  obtain⟨hb,e⟩:=CS z
  obtain⟨f0,f1,f2,_⟩:=hf p.1 hb
  obtain⟨o,e',d⟩:=ho p.1 hb
  rw[e]at e';cases e'
  exact⟨e,f0,f1,f2,d⟩
theorem Inv.lu {pins pl:List (Addr×Obj)}{σ:St}{H:Hp}{s:Shared}(I:Inv X (pins++pl) σ H s):Inv X pins σ H s:=I.Bx λp hp=>I.pin p (ay _ (aS _ hp))
theorem iL {iter:Expr}{body:List Stmt}{wi:TI}{g:TG}{tb:TS}{pos:Pos}(hp:PassesOwn (model X.prog X.w) X.A X.env X.xe)(hc:X.calm=true)(hi:PI X tg iter wi)(hg:PG X tg g)(hb:PSs X body tb)
  (hs:∀ x,foldedSetIterable iter X.env x=pure x:=by intro _;rfl):PS X (.For tg iter body [] pos) (LU wi g tb):=by
 intro pins s σ H D I h
 refine wpAny_For (thn (hi pins s σ H _ I h) λv s1 h1=>thn h1 λitv s2 h2=>?_) hs
 obtain⟨it,fp,tn,J,H2,e,I2,T,st2,f2,W,⟨m0,w0⟩,turn⟩:=h2
 subst e
 have HQ:∀ {H':Hp},(∀ b∈fp,H' b=none)->∀ b∈fp,lO X pins H' b:=λhn b hb=>⟨hn b hb,(f2 b hb).2⟩
 refine codeAny_forLoop_any (λn s'=>∃ i σ' H',Inv X pins σ' H' s'/\tn i s'.heap/\(∀ b∈fp,H' b=none)/\W i n σ' H') ?_ m0 ⟨0,σ,H2,I2,st2,λb hb=>(f2 b hb).1,w0⟩
 rintro n s3 ⟨i,σ3,H3,I3,st3,fr3,w3⟩
 rcases turn i n σ3 H3 w3 with⟨stop,qn⟩|⟨go,N,hN,step⟩
 ·refine di hp (thn (T.done X rfl rfl rfl hc i pins s3 σ3 H3 X.xe I3 (HQ fr3) st3 stop) λr s4 ⟨hr,I4⟩=>?_)
  subst hr
  exact en ⟨σ3,H3,I4,qn⟩
 ·refine di hp (thn (T.item X rfl rfl rfl hc i pins s3 σ3 H3 X.xe I3 (HQ fr3) st3 go) λr s4 ⟨u,hr,h4⟩=>?_)
  subst hr
  refine di hp (thn h4 λ_ s5 ⟨x,H5,I5,r5,y5,st5,fr5⟩=>?_)
  have I5':=I5.pinned (HQ fr5) (T.obj _ _ st5)
  refine di hp (thn (hg _ s5 σ3 H5 x u _ I5' r5 (step x H5 y5)) λ_ s6 ⟨σ6,H6,I6,q6⟩=>?_)
  refine di hp (thn (hb _ s6 σ6 H6 _ I6 q6) λf s7 q7=>?_)
  have again:∀ {σ7:St}{H7:Hp},Inv X (pins++nV fp s5.heap) σ7 H7 s7->N σ7 H7->∃ m,m<n/\∃ i σ' H',Inv X pins σ' H' s7/\tn i s7.heap/\(∀ b∈fp,H' b=none)/\W i m σ' H':=λ{σ7 H7} I7 n7=>by
   obtain⟨m',hm,w7⟩:=hN σ7 H7 n7
   refine⟨m',hm,i+1,σ7,H7,I7.lu,T.keep _ _ _ st5 λb hb o e=>(I7.pin (b,o) (ay _ (ay _ (iI hb e)))).1,λb hb=>?_,w7⟩
   obtain⟨o,e,d⟩:=T.obj _ _ st5 b hb
   exact(I7.pin (b,o) (ay _ (ay _ (iI hb e)))).2.1
  cases f with
  |next=>obtain⟨σ7,H7,I7,n7⟩:=q7;exact again I7 n7
  |cont=>obtain⟨σ7,H7,I7,n7⟩:=q7;exact again I7 n7
  |brk=>obtain⟨σ7,H7,I7,q7⟩:=q7;exact⟨σ7,H7,I7.lu,q7⟩
  |ret v=>obtain⟨x7,σ7,H7,I7,r7,q7⟩:=q7;exact⟨x7,σ7,H7,I7.lu,r7,q7⟩
end
theorem oX {K:PySem.W.Frag}{a:Addr}{xs:List V}{g:TG}{tb:TS}{D:Ends}{σ:St}{H:Hp}(Pv:Nat->St->Hp->Prop)(h0:Pv 0 σ H)(hl:∀ i σ H,i<=xs.length->Pv i σ H->SqL K H a xs)
  (hs:∀ i x σ H,xs[i]? = some x->Pv i σ H->g x σ H λσ2 H2=>tb {D with nx:=Pv (i+1),ct:=Pv (i+1),bk:=D.nx} σ2 H2) (hd:∀ σ H,Pv xs.length σ H->D.nx σ H):
  ∃ W:Nat->Nat->St->Hp->Prop,(∃ m,W 0 m σ H)/\∀ i m σ H,W i m σ H->
   ((Itl K a).stop i H/\D.nx σ H)\/((Itl K a).go i H/\∃ N:St->Hp->Prop,(∀ σ' H',N σ' H'->∃ m',m'<m/\W (i+1) m' σ' H')/\∀ x H',(Itl K a).yld i H x H'->g x σ H' λσ2 H2=>tb {D with nx:=N,ct:=N,bk:=D.nx} σ2 H2):=by
 refine⟨λi m σ H=>m=xs.length-i/\i<=xs.length/\Pv i σ H,⟨xs.length,by simp,aK _,h0⟩,?_⟩
 rintro i m σ H ⟨rfl,hi,p⟩
 have q:=hl i σ H hi p
 by_cases hlt:i<xs.length
 ·refine .inr ⟨⟨xs,xs[i],q,by simp[hlt]⟩,Pv (i+1),λσ' H' p'=>⟨xs.length-(i+1),by omega,rfl,hlt,p'⟩,λx H' y=>?_⟩
  obtain⟨e,y⟩:=y
  subst e
  exact hs i x σ _ (y xs q) p
 ·have e:i=xs.length:=by omega
  subst e
  exact .inl ⟨⟨xs,q,au _⟩,hd σ H p⟩
theorem p7 {lo:Int}{n:Nat}{g:TG}{tb:TS}{D:Ends}{σ:St}{H:Hp}(Pv:Nat->St->Hp->Prop)(h0:Pv 0 σ H)
  (hs:∀ i σ H,i<n->Pv i σ H->g (.int (lo+i)) σ H λσ2 H2=>tb {D with nx:=Pv (i+1),ct:=Pv (i+1),bk:=D.nx} σ2 H2) (hd:∀ σ H,Pv n σ H->D.nx σ H):
  ∃ W:Nat->Nat->St->Hp->Prop,(∃ m,W 0 m σ H)/\∀ i m σ H,W i m σ H->
   ((Itr lo n).stop i H/\D.nx σ H)\/((Itr lo n).go i H/\∃ N:St->Hp->Prop,(∀ σ' H',N σ' H'->∃ m',m'<m/\W (i+1) m' σ' H')/\∀ x H',(Itr lo n).yld i H x H'->g x σ H' λσ2 H2=>tb {D with nx:=N,ct:=N,bk:=D.nx} σ2 H2):=by
 refine⟨λi m σ H=>m=n-i/\i<=n/\Pv i σ H,⟨n,by simp,aK _,h0⟩,?_⟩
 rintro i m σ H ⟨rfl,hi,p⟩
 by_cases hlt:i<n
 ·refine .inr ⟨hlt,Pv (i+1),λσ' H' p'=>⟨n-(i+1),by omega,rfl,hlt,p'⟩,λx H' y=>?_⟩
  obtain⟨e,y⟩:=y
  subst e y
  exact hs i σ _ hlt p
 ·have e:i=n:=by omega
  subst e
  exact .inl ⟨au _,hd σ H p⟩
theorem DO {c:TT}{tb:TS}{D:Ends}{σ:St}{H:Hp}(Pv:St->Hp->Prop)(μ:St->Hp->Nat)(h0:Pv σ H)
  (hs:∀ σ H,Pv σ H->c σ H λb H1=>if b=true then tb {D with nx:=λσ' H'=>Pv σ' H'/\μ σ' H'<μ σ H,ct:=λσ' H'=>Pv σ' H'/\μ σ' H'<μ σ H,bk:=D.nx} σ H1 else D.nx σ H1)
  (mono:∀ σ H Q Q',(∀ b H1,Q b H1->Q' b H1)->c σ H Q->c σ H Q'):tY c tb D σ H:=by
 refine⟨λm σ H=>m=μ σ H/\Pv σ H,⟨_,rfl,h0⟩,?_⟩
 rintro m σ H ⟨rfl,p⟩
 refine mono σ H _ _ (λb H1 q=>?_) (hs σ H p)
 cases b with
 |true=>exact⟨_,λσ' H' ⟨p',l⟩=>⟨_,l,rfl,p'⟩,q⟩
 |false=>exact q
abbrev R2:=V->V->Hp->VK->Prop
def OpR (X:Cx)(f:Value->Value->Sem Value)(r:R2):Prop:=
 ∀ (pins:List (Addr×Obj)) (s:Shared) (σ:St) (H:Hp) (x y:V) (v u:Value) (Q:VK),Inv X pins σ H s->RelV x v->RelV y u->r x y H Q->
  wpAny (model X.prog X.w) X.A (f v u) (EP X pins σ Q) X.xe s
def UnR (X:Cx)(f:Value->Sem Value)(r:V->Hp->VK->Prop):Prop:=
 ∀ (pins:List (Addr×Obj)) (s:Shared) (σ:St) (H:Hp) (x:V) (v:Value) (Q:VK),Inv X pins σ H s->RelV x v->r x H Q->
  wpAny (model X.prog X.w) X.A (f v) (EP X pins σ Q) X.xe s
def jS (X:Cx)(f:Value)(r:List V->Hp->VK->Prop):Prop:=
 ∀ (pins:List (Addr×Obj)) (s:Shared) (σ:St) (H:Hp) (xs:List V) (us:List Value) (Q:VK),Inv X pins σ H s->Vals xs us->r xs H Q->
  wpAny (model X.prog X.w) X.A (call f us) (EP X pins σ Q) X.xe s
def Sr (X:Cx)(r:V->Hp->(Bool->Hp->Prop)->Prop):Prop:=
 ∀ (pins:List (Addr×Obj)) (s:Shared) (σ:St) (H:Hp) (x:V) (v:Value) (Q:Bool->Hp->Prop),Inv X pins σ H s->RelV x v->r x H Q->
  wpAny (model X.prog X.w) X.A (truthy v) (TP X pins σ Q) X.xe s
def tOp (r:R2)(ta tb:TE):TE:=λσ H Q=>ta σ H λx H1=>tb σ H1 λy H2=>r x y H2 Q
def tUn (r:V->Hp->VK->Prop)(ta:TE):TE:=λσ H Q=>ta σ H λx H1=>r x H1 Q
def rI (C:Int->Int->Prop)(g:Int->Int->V):R2:=λx y H Q=>∃ i j,x = .int i/\y = .int j/\C i j/\Q (g i j) H
def rI0 (g:Int->Int->V):R2:=λx y H Q=>∃ i j,x = .int i/\y = .int j/\Q (g i j) H
def rU (g:Int->V):V->Hp->VK->Prop:=λx H Q=>∃ i,x = .int i/\Q (g i) H
section
variable {X:Cx}{a b c:Expr}{ta tb tc:TE}{pos:Pos}
theorem Jm (ha:PE X a ta)(hb:PE X b tb){pins:List (Addr×Obj)}{s:Shared}{σ:St}{H:Hp}{R:V->V->Hp->Prop}(I:Inv X pins σ H s)
  (h:ta σ H λx H1=>tb σ H1 λy H2=>R x y H2) {Q:Value->Shared->Prop}{f:Value->Value->Sem Value}
  (hf:∀ v u s2 x y H2,Inv X pins σ H2 s2->RelV x v->RelV y u->R x y H2->wpAny (model X.prog X.w) X.A (f v u) Q X.xe s2):
  wpAny (model X.prog X.w) X.A (eval a X.env) (λv s₁=>wpAny (model X.prog X.w) X.A (eval b X.env) (λu s₂=>wpAny (model X.prog X.w) X.A (f v u) Q X.xe s₂) X.xe s₁) X.xe s:=by
 refine thn (ha pins s σ H _ I h) λv s1 ⟨x,H1,I1,r1,q1⟩=>?_
 refine thn (hb pins s1 σ H1 _ I1 q1) λu s2 ⟨y,H2,I2,r2,q2⟩=>?_
 exact hf v u s2 x y H2 I2 r1 r2 q2
theorem fX {op:Operator}{r:R2}(ho:OpR X (binaryOp op) r)(ha:PE X a ta)(hb:PE X b tb):PE X (.BinOp a op b pos) (tOp r ta tb):=by
 intro pins s σ H Q I h
 exact wpAny_BinOp (Jm ha hb I h λv u s2 x y H2 I2 rx ry q=>ho pins s2 σ H2 x y v u Q I2 rx ry q)
theorem wQ {op:UnaryOp}{r:V->Hp->VK->Prop}(ho:UnR X (unaryOp op) r)(ha:PE X a ta):PE X (.UnaryOp op a pos) (tUn r ta):=by
 intro pins s σ H Q I h
 exact UnaryOp_ (thn (ha pins s σ H _ I h) λv s1 ⟨x,H1,I1,r1,q1⟩=>ho pins s1 σ H1 x v Q I1 r1 q1)
theorem opI {f:Value->Value->Sem Value}{C:Int->Int->Prop}{g:Int->Int->Int}
  (rule:∀ (i j:Int) (t u:Tok) (s:Shared) (Q:Value->Shared->Prop) (E:Value->Shared->Prop),C i j->Q (.int (g i j) s.toks) {s with toks:=s.toks+1} ->wpAny (model X.prog X.w) X.A (f (.int i t) (.int j u)) Q E s):
  OpR X f (rI C λi j=>.int (g i j)):=by
 intro pins s σ H x y v u Q I rx ry h
 obtain⟨i,j,rfl,rfl,hc,q⟩:=h
 obtain⟨t,rfl⟩:=rx
 obtain⟨t',rfl⟩:=ry
 exact rule i j t t' s _ _ hc ⟨.int (g i j),H,I.tok _,⟨_,rfl⟩,q⟩
theorem Io {f:Value->Value->Sem Value}{g:Int->Int->Int}
  (rule:∀ (i j:Int) (t u:Tok) (s:Shared) (Q:Value->Shared->Prop) (E:Value->Shared->Prop),Q (.int (g i j) s.toks) {s with toks:=s.toks+1} ->wpAny (model X.prog X.w) X.A (f (.int i t) (.int j u)) Q E s):
  OpR X f (rI0 λi j=>.int (g i j)):=by
 intro pins s σ H x y v u Q I rx ry h
 obtain⟨i,j,rfl,rfl,q⟩:=h
 obtain⟨t,rfl⟩:=rx
 obtain⟨t',rfl⟩:=ry
 exact rule i j t t' s _ _ ⟨.int (g i j),H,I.tok _,⟨_,rfl⟩,q⟩
theorem Kd {f:Value->Value->Sem Value}{g:Int->Int->Bool}
  (rule:∀ (i j:Int) (t u:Tok) (s:Shared) (Q:Value->Shared->Prop) (E:Value->Shared->Prop),Q (.bool (g i j)) s->wpAny (model X.prog X.w) X.A (f (.int i t) (.int j u)) Q E s):
  OpR X f (rI0 λi j=>.bl (g i j)):=by
 intro pins s σ H x y v u Q I rx ry h
 obtain⟨i,j,rfl,rfl,q⟩:=h
 obtain⟨t,rfl⟩:=rx
 obtain⟨t',rfl⟩:=ry
 exact rule i j t t' s _ _ ⟨.bl (g i j),H,I,rfl,q⟩
def Sv (i j:Int):Prop:=0<j/\j<1073741824
def Su (i j:Int):Prop:=0<=j/\j<=1000000/\i.natAbs<2 ^ 64
def Js (i j:Int):Prop:=(-(2 ^ 64)<i/\i<2 ^ 64)\/(-(2 ^ 64)<j/\j<2 ^ 64)
theorem Js.ok {i j:Int}(h:Js i j):IntMulOk i j:=by
 rcases h with⟨h1,h2⟩|⟨h1,h2⟩
 ·exact .of_left (intBits_le_64 h1 h2)
 ·exact .of_right (intBits_le_64 h1 h2)
theorem i9:OpR X (binaryOp .Add) (rI0 λi j=>.int (i+j)):=Io λ_ _ _ _ _ _ _ q=>add_int q
theorem uK:OpR X (binaryOp .Sub) (rI0 λi j=>.int (i-j)):=Io λ_ _ _ _ _ _ _ q=>sub_int q
theorem kL:OpR X (binaryOp .Mult) (rI Js λi j=>.int (i*j)):=opI λ_ _ _ _ _ _ _ hc q=>mul_int q hc.ok
theorem jz:OpR X (binaryOp .FloorDiv) (rI Sv λi j=>.int (i/j)):=opI λi j _ _ _ _ _ hc q=>by
 have h1:(0:Int)<j:=hc.1
 have h2:j<1073741824:=hc.2
 exact floordiv_int (by omega) (by rw[Int.fdiv_eq_ediv_of_nonneg i (by omega)];exact q) (.inl (PyProof.noPylong_small (by omega)))
theorem iB:OpR X (binaryOp .Mod) (rI (λ_ j=>0<j) λi j=>.int (i%j)):=opI λi j _ _ _ _ _ hc q=>by
 have h1:(0:Int)<j:=hc
 exact mod_int' (by omega) (by rw[Int.fmod_eq_emod_of_nonneg i (by omega)];exact q)
theorem Ay:OpR X (binaryOp .Pow) (rI Su λi j=>.int (i ^ j.toNat)):=opI λ_ _ _ _ _ _ _ hc q=>pow_int_small hc.1 hc.2.1 hc.2.2 q
theorem Im:OpR X (binaryOp .BitXor) (rI0 λi j=>.int (Builtin.bitXor i j)):=Io λ_ _ _ _ _ _ _ q=>xor_int q
theorem unI {f:Value->Sem Value}{g:Int->Int}
  (rule:∀ (i:Int) (t:Tok) (s:Shared) (Q:Value->Shared->Prop) (E:Value->Shared->Prop),Q (.int (g i) s.toks) {s with toks:=s.toks+1} ->wpAny (model X.prog X.w) X.A (f (.int i t)) Q E s):
  UnR X f (rU λi=>.int (g i)):=by
 intro pins s σ H x v Q I rx h
 obtain⟨i,rfl,q⟩:=h
 obtain⟨t,rfl⟩:=rx
 exact rule i t s _ _ ⟨.int (g i),H,I.tok _,⟨_,rfl⟩,q⟩
theorem rR:UnR X (unaryOp .USub) (rU λi=>.int (-i)):=unI λ_ _ _ _ _ q=>neg_int q
end
def JR:V->V->Bool
 |.non,.non=>true |.non,.int _=>true |.int _,.non=>true |.non,.bl _=>true |.bl _,.non=>true |.non,.str _=>true |.str _,.non=>true
 |.int _,.int _=>true |.bl _,.bl _=>true |.str _,.str _=>true |.byt _,.byt _=>true
 |.int _,.str _=>true |.str _,.int _=>true |.bl _,.str _=>true |.str _,.bl _=>true
 |_,_=>false
def rEq:R2:=λx y H Q=>JR x y=true/\Q (.bl (decide (x=y))) H
def rNe:R2:=λx y H Q=>JR x y=true/\Q (.bl (!decide (x=y))) H
theorem Cc {i j:Int} :decide (V.int i=V.int j)=(i==j):=by
 rw[bJ]
 simp
theorem Ft {i j:Bool} :decide (V.bl i=V.bl j)=(i==j):=by
 rw[bJ]
 simp
theorem Cb {i j:Str} :decide (V.str i=V.str j)=(i==j):=by
 rw[bJ]
 simp
theorem Cd {i j:Array UInt8} :decide (V.byt i=V.byt j)=(i.toList==j.toList):=by
 rw[bJ]
 cases i
 cases j
 simp
section
variable {X:Cx}{a b c:Expr}{ta tb tc:TE}{pos:Pos}
theorem hX {pins:List (Addr×Obj)}{σ:St}{H:Hp}{s:Shared}{Q:VK}{k k':Bool}(I:Inv X pins σ H s)(q:Q (.bl k) H)(e:k=k'):EP X pins σ Q (.bool k') s:=by
 subst e
 exact⟨.bl k,H,I,rfl,q⟩
theorem BD:OpR X (compareOp .Eq) rEq:=by
 intro pins s σ H x y v u Q I rx ry h
 obtain⟨hs,q⟩:=h
 cases x with
 |non=>
  cases rx
  cases y with
  |non=>cases ry;exact PySem.EqNone.eq_none_none (hX I q (by simp))
  |bl j=>cases ry;exact PySem.EqNone.eq_none_bool (hX I q (by simp))
  |int j=>obtain⟨t',rfl⟩:=ry;exact PySem.EqNone.eq_none_int (hX I q (by simp))
  |str j=>obtain⟨t',rfl⟩:=ry;exact PySem.EqNone.eq_none_str (hX I q (by simp))
  |_=>exact absurd (show false=true from hs) aD
 |bl i=>
  cases rx
  cases y with
  |non=>cases ry;exact PySem.EqNone.eq_bool_none (hX I q (by simp))
  |bl j=>cases ry;exact eq_bool (hX I q Ft)
  |str j=>obtain⟨t',rfl⟩:=ry;exact PySem.EqMixed.eq_bool_str (hX I q (by simp))
  |_=>exact absurd (show false=true from hs) aD
 |int i=>
  obtain⟨t,rfl⟩:=rx
  cases y with
  |non=>cases ry;exact PySem.EqNone.eq_int_none (hX I q (by simp))
  |int j=>obtain⟨t',rfl⟩:=ry;exact eq_int (hX I q Cc)
  |str j=>obtain⟨t',rfl⟩:=ry;exact PySem.EqMixed.eq_int_str (hX I q (by simp))
  |_=>exact absurd (show false=true from hs) aD
 |str i=>
  obtain⟨t,rfl⟩:=rx
  cases y with
  |non=>cases ry;exact PySem.EqNone.eq_str_none (hX I q (by simp))
  |bl j=>cases ry;exact PySem.EqMixed.eq_str_bool (hX I q (by simp))
  |int j=>obtain⟨t',rfl⟩:=ry;exact PySem.EqMixed.eq_str_int (hX I q (by simp))
  |str j=>obtain⟨t',rfl⟩:=ry;exact eq_str (hX I q Cb)
  |_=>exact absurd (show false=true from hs) aD
 |byt i=>
  obtain⟨t,rfl⟩:=rx
  cases y with
  |byt j=>obtain⟨t',rfl⟩:=ry;exact PySem.W.eq_bytes (hX I q Cd)
  |_=>exact absurd (show false=true from hs) aD
 |_=>cases y<;>exact absurd (show false=true from hs) aD
theorem BC:OpR X (compareOp .NotEq) rNe:=by
 intro pins s σ H x y v u Q I rx ry h
 obtain⟨hs,q⟩:=h
 cases x with
 |non=>
  cases rx
  cases y with
  |non=>cases ry;exact PySem.EqNone.ne_none_none (hX I q (by simp))
  |bl j=>cases ry;exact PySem.EqNone.ne_none_bool (hX I q (by simp))
  |int j=>obtain⟨t',rfl⟩:=ry;exact PySem.EqNone.ne_none_int (hX I q (by simp))
  |str j=>obtain⟨t',rfl⟩:=ry;exact PySem.EqNone.ne_none_str (hX I q (by simp))
  |_=>exact absurd (show false=true from hs) aD
 |bl i=>
  cases rx
  cases y with
  |non=>cases ry;exact PySem.EqNone.ne_bool_none (hX I q (by simp))
  |bl j=>cases ry;exact ne_bool (hX I q (bL not Ft))
  |str j=>obtain⟨t',rfl⟩:=ry;exact PySem.EqMixed.ne_bool_str (hX I q (by simp))
  |_=>exact absurd (show false=true from hs) aD
 |int i=>
  obtain⟨t,rfl⟩:=rx
  cases y with
  |non=>cases ry;exact PySem.EqNone.ne_int_none (hX I q (by simp))
  |int j=>obtain⟨t',rfl⟩:=ry;exact ne_int (hX I q (bL not Cc))
  |str j=>obtain⟨t',rfl⟩:=ry;exact PySem.EqMixed.ne_int_str (hX I q (by simp))
  |_=>exact absurd (show false=true from hs) aD
 |str i=>
  obtain⟨t,rfl⟩:=rx
  cases y with
  |non=>cases ry;exact PySem.EqNone.ne_str_none (hX I q (by simp))
  |bl j=>cases ry;exact PySem.EqMixed.ne_str_bool (hX I q (by simp))
  |int j=>obtain⟨t',rfl⟩:=ry;exact PySem.EqMixed.ne_str_int (hX I q (by simp))
  |str j=>obtain⟨t',rfl⟩:=ry;exact ne_str (hX I q (bL not Cb))
  |_=>exact absurd (show false=true from hs) aD
 |byt i=>
  obtain⟨t,rfl⟩:=rx
  cases y with
  |byt j=>obtain⟨t',rfl⟩:=ry;exact PySem.W.ne_bytes (hX I q (bL not Cd))
  |_=>exact absurd (show false=true from hs) aD
 |_=>cases y<;>exact absurd (show false=true from hs) aD
theorem Kb:OpR X (compareOp .Lt) (rI0 λi j=>.bl (decide (i<j))):=Kd λ_ _ _ _ _ _ _ q=>lt_int q
theorem Kc:OpR X (compareOp .LtE) (rI0 λi j=>.bl (decide (i<=j))):=Kd λ_ _ _ _ _ _ _ q=>le_int q
theorem iT (b:Expr){op:CmpOp}(h:op≠ .In:=by decide)(h2:op≠ .NotIn:=by decide):behindInMarks op b=false:=by
 have e1:(op==CmpOp.In)=false:=by cases op<;>first |rfl |exact absurd rfl h
 have e2:(op==CmpOp.NotIn)=false:=by cases op<;>first |rfl |exact absurd rfl h2
 cases b<;>simp[behindInMarks,e1,e2]
theorem nW {op:CmpOp}{r:R2}(ho:OpR X (compareOp op) r)(ha:PE X a ta)(hb:PE X b tb)(hm:behindInMarks op b=false):PE X (.Compare a [op] [b] pos) (tOp r ta tb):=by
 intro pins s σ H Q I h
 exact wpAny_Compare1 (Jm ha hb I h λv u s2 x y H2 I2 rx ry q=>ho pins s2 σ H2 x y v u Q I2 rx ry q) hm
def JF (t:TE):TT:=λσ H Q=>t σ H λx H'=>∃ k,x = .bl k/\Q k H'
theorem h9 {op:CmpOp}{r:R2}(ho:OpR X (compareOp op) r)(ha:PE X a ta)(hb:PE X b tb)(hm:behindInMarks op b=false):PT X (.Compare a [op] [b] pos) (JF (tOp r ta tb)):=by
 intro pins s σ H Q I h
 refine wpAny_isTrue_Compare1 (thn (ha pins s σ H _ I h) λv s1 ⟨x,H1,I1,r1,q1⟩=>thn (hb pins s1 σ H1 _ I1 q1) λu s2 ⟨y,H2,I2,r2,q2⟩=>
  thn (ho pins s2 σ H2 x y v u _ I2 r1 r2 q2) λc s3 ⟨z,H3,I3,r3,k,e,q3⟩=>?_) hm
 subst e
 cases r3
 exact cF ⟨H3,I3,q3⟩
def HN (r r':R2)(ta tb tc:TE):TE:=λσ H Q=>ta σ H λx H1=>tb σ H1 λy H2=>r x y H2 λz H3=>∃ k,z = .bl k/\
 (if k=true then tc σ H3 λw' H4=>r' y w' H4 Q else Q (.bl false) H3)
theorem Es {op op':CmpOp}{r r':R2}(ho:OpR X (compareOp op) r)(ho':OpR X (compareOp op') r')(ha:PE X a ta)(hb:PE X b tb)(hc:PE X c tc)
  (hm:lastMarks [op,op'] [b,c]=false:=by with_unfolding_all rfl):PE X (.Compare a [op,op'] [b,c] pos) (HN r r' ta tb tc):=by
 intro pins s σ H Q I h
 refine Compare_chain (thn (ha pins s σ H _ I h) λv s1 ⟨x,H1,I1,r1,q1⟩=>chain_link (thn (hb pins s1 σ H1 _ I1 q1) λu s2 ⟨y,H2,I2,r2,q2⟩=>
  thn (ho pins s2 σ H2 x y v u _ I2 r1 r2 q2) λd s3 ⟨z,H3,I3,r3,k,e,q3⟩=>?_)) hm
 subst e
 cases r3
 refine cF ?_
 cases k with
 |false=>exact ite_ff ⟨.bl false,H3,I3,rfl,q3⟩
 |true=>exact ite_tt (chain_last (thn (hc pins s3 σ H3 _ I3 q3) λw' s4 ⟨z',H4,I4,r4,q4⟩=>ho' pins s4 σ H4 y z' u w' Q I4 r2 r4 q4))
def Ly (K:PySem.W.Frag)(x:V)(H:Hp)(k:Bool):Prop:=
 match x with
 |.non=>k=false
 |.bl b=>k=b
 |.int i=>k=(i !=0)
 |.str y=>y.length<=sizeLine/\k=((y.length:Int) !=0)
 |.byt y=>y.size<=sizeLine/\k=((y.size:Int) !=0)
 |.ref p=>(∃ xs,SqL K H p xs/\k = !xs.isEmpty)\/(∃ xs,SqT K H p xs/\k = !xs.isEmpty)\/∃ kvs,H p=some (.dK kvs)/\k = !kvs.isEmpty
 |_=>False
theorem AO {κ:Type}{kvs:List (κ×V)}{vs:List (κ×Value)}(r:KV kvs vs):(!vs.isEmpty) = !kvs.isEmpty:=by
 cases r<;>rfl
theorem vh {xs:List V}{its:List Value}(r:Vals xs its):(!its.toArray.isEmpty) = !xs.isEmpty:=by
 cases r<;>simp
theorem yb:(sizeLine:Nat)<2 ^ 63:=by rw[cJ];decide
theorem HG:Sr X (λx H Q=>∃ k,Ly X.K x H k/\Q k H):=by
 intro pins s σ H x v Q I rx h
 obtain⟨k,e,q⟩:=h
 have hl:=yb
 have hs:sizeLine=16777216:=cJ
 cases x with
 |non=>
  cases rx
  have e':k=false:=e
  subst e'
  exact truthy_none ⟨H,I,q⟩
 |bl b=>
  cases rx
  have e':k=b:=e
  subst e'
  exact cF ⟨H,I,q⟩
 |int i=>
  obtain⟨t,rfl⟩:=rx
  have e':k=(i !=0):=e
  subst e'
  exact PySem.P.truthy_int ⟨H,I,q⟩
 |str y=>
  obtain⟨t,rfl⟩:=rx
  obtain⟨hy,e'⟩:y.length<=sizeLine/\k=((y.length:Int) !=0):=e
  subst e'
  exact PySem.P.truthy_str (by omega) ⟨H,I.tok _,q⟩
 |byt y=>
  obtain⟨t,rfl⟩:=rx
  obtain⟨hy,e'⟩:y.size<=sizeLine/\k=((y.size:Int) !=0):=e
  subst e'
  exact PySem.W.truthy_bytes (by omega) ⟨H,I.tok _,q⟩
 |ref p=>
  cases rx
  have e':(∃ xs,SqL X.K H p xs/\k = !xs.isEmpty)\/(∃ xs,SqT X.K H p xs/\k = !xs.isEmpty)\/∃ kvs,H p=some (.dK kvs)/\k = !kvs.isEmpty:=e
  rcases e' with⟨xs,hx,e'⟩|⟨xs,hx,e'⟩|⟨kvs,hx,e'⟩
  ·subst e'
   obtain⟨its,r,pl,hz⟩:=I.list hx
   have hlen:=r.length
   exact wpAny_truthy_list pl.isList (by simp only[aM];omega) ⟨H,I.tok _,by rw[vh r];exact q⟩
  ·subst e'
   obtain⟨its,r,pl,hz⟩:=I.tuple hx
   have hlen:=r.length
   exact truthy_tuple pl (by simp only[aM];omega) ⟨H,I.tok _,by rw[vh r];exact q⟩
  ·subst e'
   obtain⟨hz,hS,vs,r,m⟩:kvs.length<=sizeLine/\(p==sysModules)=false/\∃ vs,KV kvs vs/\s.heap.DictOf (gF X.prog X.w) p vs:=I.hok p _ hx
   have hlen:kvs.length=vs.length:=bZ r
   exact wpAny_truthy_dict hS m (by omega) ⟨H,I.tok _,by rw[AO r];exact q⟩
 |_=>exact(show False from e).elim
theorem za (ha:PE X a ta)(he:∀ whole,isTrue a X.env whole=(do let v <-whole;standAt a.pos;holding [v] (truthy v))):
  PT X a (λσ H Q=>ta σ H λx H'=>∃ k,Ly X.K x H' k/\Q k H'):=by
 intro pins s σ H Q I h
 exact isTrue_plain (thn (ha pins s σ H _ I h) λv s1 ⟨x,H1,I1,r1,q1⟩=>HG pins s1 σ H1 x v Q I1 r1 q1) (he _)
theorem vals1 {x:V}{us:List Value}(r:Vals [x] us):∃ u,us = [u]/\RelV x u:=by
 cases r with
 |cons r1 r2=>cases r2;exact⟨_,rfl,r1⟩
theorem vals2 {x y:V}{us:List Value}(r:Vals [x,y] us):∃ u w',us = [u,w']/\RelV x u/\RelV y w':=by
 cases r with
 |cons r1 r2=>
  cases r2 with
  |cons r3 r4=>cases r4;exact⟨_,_,rfl,r1,r3⟩
theorem Ad:jS X (.builtin "abs") (λxs H Q=>∃ i,xs = [.int i]/\Q (.int (if i<0 then -i else i)) H):=by
 intro pins s σ H xs us Q I r h
 obtain⟨i,rfl,q⟩:=h
 obtain⟨u,rfl,t,rfl⟩:=vals1 r
 exact call_abs_int λu tk=>⟨.int (if i<0 then -i else i),H,I.tok _,⟨_,rfl⟩,q⟩
theorem sC (hc:X.calm=true):jS X (.builtin "max") (λxs H Q=>∃ i j,xs = [.int i,.int j]/\Q (.int (if j>i then j else i)) H):=by
 intro pins s σ H xs us Q I r h
 obtain⟨i,j,rfl,q⟩:=h
 obtain⟨u,w',rfl,⟨t,rfl⟩,⟨t',rfl⟩⟩:=vals2 r
 refine max_two_ints (I.ok.hd hc) λh' tk k=>⟨_,H,I.kept k,?_,q⟩
 by_cases hj:j>i
 ·rw[aJ hj,aJ hj];exact⟨_,rfl⟩
 ·rw[aE hj,aE hj];exact⟨_,rfl⟩
theorem sA (hc:X.calm=true):jS X (.builtin "min") (λxs H Q=>∃ i j,xs = [.int i,.int j]/\Q (.int (if j<i then j else i)) H):=by
 intro pins s σ H xs us Q I r h
 obtain⟨i,j,rfl,q⟩:=h
 obtain⟨u,w',rfl,⟨t,rfl⟩,⟨t',rfl⟩⟩:=vals2 r
 refine min_two_ints (I.ok.hd hc) λh' tk k=>⟨_,H,I.kept k,?_,q⟩
 by_cases hj:j<i
 ·rw[aJ hj,aJ hj];exact⟨_,rfl⟩
 ·rw[aE hj,aE hj];exact⟨_,rfl⟩
theorem DH:jS X (.type "int") (λxs H Q=>(∃ i,xs = [.int i]/\Q (.int i) H)\/∃ k,xs = [.bl k]/\Q (.int (if k then 1 else 0)) H):=by
 intro pins s σ H xs us Q I r h
 rcases h with⟨i,rfl,q⟩|⟨k,rfl,q⟩
 ·obtain⟨u,rfl,t,rfl⟩:=vals1 r
  exact call_int_int ⟨.int i,H,I,⟨_,rfl⟩,q⟩
 ·obtain⟨u,rfl,r1⟩:=vals1 r
  cases r1
  exact call_int_bool ⟨.int (if k then 1 else 0),H,I.tok _,⟨_,rfl⟩,q⟩
end
structure Jp (h:Heap)(x dx C:Addr)(mA:Str->Option Value):Prop where
 obj:h.get? x=some (PySem.W.instObj C dx)
 ns:h.Ns1 dx mA
 ne:dx≠x
theorem CZ {h:Heap}{dx:Addr}{mA:Str->Option Value}(n:h.Ns1 dx mA):∃ od,h.get? dx=some od/\∀ name,PySem.W.lookIn name od=some (mA name):=by
 obtain⟨o,es,ep,ho,hd,hk,_,hm⟩:=n
 refine⟨o,ho,λname=>?_⟩
 have e:=hm name
 unfold nsFind findBy at e
 rw[<-Array.find?_toList]at e
 unfold PySem.W.lookIn
 rw[hd]
 dsimp only
 split
 ·rename_i y q
  rw[q]at e
  exact bL some e
 ·rename_i q
  rw[q]at e
  have a:es.toList.any (·.refKey)=false:=by
   rw[List.any_eq_false]
   intro y hy
   obtain⟨z,t,Pz⟩:=hk y (eS.mp hy)
   simp[DictEntry.refKey,Pz]
  have a':¬es.toList.any (·.refKey)=true:=by rw[a];exact aD
  rw[aE a']
  exact bL some e
theorem Jp.look {h:Heap}{x dx C:Addr}{mA:Str->Option Value}(I:Jp h x dx C mA):∃ od,PySem.W.InstAt h x (PySem.W.instObj C dx) C (some od)/\∀ name,PySem.W.lookIn name od=some (mA name):=
 let ⟨od,ho,hl⟩:=CZ I.ns
 ⟨od,⟨I.obj,rfl,rfl,ho⟩,hl⟩
section
variable {prog:Program}{w:World}{A:Around}{E:Value->Shared->Prop}{s:Shared}{K:PySem.W.Frag}{x dx C f:Addr}{mA:Str->Option Value}{name:Str}{v:Value}
end
theorem qC.some_of {v:V}{o:Option Value}(r:qC (some v) o):∃ u,o=some u/\RelV v u:=by
 cases o with
 |none=>exact(show False from r).elim
 |some u=>exact⟨u,rfl,r⟩
section
variable {P:Program}{w:World}{H H':Hp}{h h':Heap}{a C dx:Addr}{fs fs':List (Str×V)}
theorem GG (hok:HOk P w H h)(e:H a=some (.ins C dx fs)):∃ mA,Jp h a dx C mA/\(∀ f,qC (fs.lookup f) (mA f))/\PySem.Within mA (fs.map (·.1))/\fs.length<=1000/\H dx=some (.own a):=by
 obtain⟨d,z,ne,ob,mA,n,r,q⟩:=(show iA P w H h a (.ins C dx fs) from hok a _ e)
 exact⟨mA,⟨ob,n,ne⟩,r,q,z,d⟩
end
structure Cls (K:PySem.W.Frag)(C:Addr):Prop where
 pg:PySem.W.plainGet K C Str.empty=true
 hd:PySem.W.hasDictIn K C=true
 po:PySem.W.plainOver K C=true
 sa:PySem.W.findIn K (.ref C) "__setattr__" = some (some (.builtin "object.__setattr__"))
theorem Cls.get {K:PySem.W.Frag}{C:Addr}(c:Cls K C)(f:Str):PySem.W.plainGet K C f=true:=c.pg
section
variable {X:Cx}{pins:List (Addr×Obj)}{σ:St}{H:Hp}{s:Shared}{a C dx:Addr}{fs:List (Str×V)}{f:Str}{v:V}{A:Around}{E:Value->Shared->Prop}
end
section
variable {X:Cx}{o e value:Expr}{f:Str}{pos pos' JB:Pos}{ta tv:TE}
end
section
variable {X:Cx}{pins:List (Addr×Obj)}{σ:St}{H:Hp}{s:Shared}{A:Around}{E:Value->Shared->Prop}{Q:Value->Shared->Prop}{c:Value}{b:Bool}
inductive sE (K:PySem.W.Frag) (H:Hp):V->Value->Prop where
 |non:sE K H .non (.type "NoneType")
 |bl (x:Bool):sE K H (.bl x) (.type "bool")
 |int (i:Int):sE K H (.int i) (.type "int")
 |str (x:Str):sE K H (.str x) (.type "str")
 |flt (x:UInt64):sE K H (.flt x) (.type "float")
 |lst {a:Addr}{xs:List V} (e:H a=some (.lst xs)):sE K H (.ref a) (.type "list")
 |frz {a:Addr}{o:Obj}{xs:List V} (e:H a=some (.frz o (.lst xs))):sE K H (.ref a) (.type "list")
 |tup {a:Addr}{xs:List V} (e:H a=some (.tup xs)):sE K H (.ref a) (.type "tuple")
 |dK {a:Addr}{kvs:List (Key×V)} (e:H a=some (.dK kvs)):sE K H (.ref a) (.type "dict")
 |dT {a:Addr}{kvs:List (List Key×V)} (e:H a=some (.dT kvs)):sE K H (.ref a) (.type "dict")
 |ins {a C dx:Addr}{fs:List (Str×V)} (e:H a=some (.ins C dx fs)) (cl:Cls K C) (ha:PySem.W.findIn K (.ref C) "__class__" = some (some (.builtin "object.__class__")))
   (hn:PySem.W.specialIn K (.builtin "object.__class__") "__get__" = some (some (.builtin "getset_descriptor.__get__"))) (htk:PySem.W.takesIn K (.builtin "object.__class__")=some true)
   (hm:PySem.W.mroIn K C (.type "object")=some true):sE K H (.ref a) (.ref C)
theorem Dd {x:V}{u t:Value}(I:Inv X pins σ H s)(rx:RelV x u)(ty:sE X.K H x t)(e:PySem.W.kitOne X.K t c=some b)(h:∀ tk,Q (.bool b) {s with toks:=tk}):
  wpAny (model X.prog X.w) A (call (.builtin "isinstance") [u,c]) Q E s:=by
 cases ty with
 |non=>cases(show u=Value.none from rx);exact bN PySem.W.kitx_none I.kIn True.intro e (λz=>nomatch z) h
 |bl y=>cases(show u=Value.bool y from rx);exact bN PySem.W.kitx_bool I.kIn True.intro e (λz=>nomatch z) h
 |int i=>obtain⟨t,q⟩:=(show ∃ t,u=Value.int i t from rx);cases q;exact bN PySem.W.kitx_int I.kIn True.intro e (λz=>nomatch z) h
 |str y=>obtain⟨t,q⟩:=(show ∃ t,u=Value.str y t from rx);cases q;exact bN PySem.W.kitx_str I.kIn True.intro e (λz=>nomatch z) h
 |flt y=>obtain⟨t,q⟩:=(show ∃ t,u=Value.float y t from rx);cases q;exact bN PySem.W.kitx_float I.kIn True.intro e (λz=>nomatch z) h
 |@lst a xs ea=>
  cases(show u=Value.ref a from rx)
  obtain⟨_,_,n,_,h1⟩:=(show iA X.prog X.w H s.heap a (.lst xs) from I.hok a _ ea)
  exact bN PySem.W.kitx_list I.kIn ⟨_,h1,rfl⟩ e (λz=>nomatch z) h
 |@frz a ob xs ea=>
  cases(show u=Value.ref a from rx)
  obtain⟨_,_,_,n,_,h1⟩:=(show iA X.prog X.w H s.heap a (.frz ob (.lst xs)) from I.hok a _ ea)
  exact bN PySem.W.kitx_list I.kIn ⟨_,h1,rfl⟩ e (λz=>nomatch z) h
 |@tup a xs ea=>
  cases(show u=Value.ref a from rx)
  obtain⟨_,_,_,p⟩:=(show iA X.prog X.w H s.heap a (.tup xs) from I.hok a _ ea)
  obtain⟨o,h1,h2,_⟩:=p
  exact bN PySem.W.kitx_tuple I.kIn ⟨o,h1,h2⟩ e (λz=>nomatch z) h
 |@dK a kvs ea=>
  cases(show u=Value.ref a from rx)
  obtain⟨_,_,vs,_,p⟩:=(show iA X.prog X.w H s.heap a (.dK kvs) from I.hok a _ ea)
  obtain⟨o,es,ep,h1,h2,_⟩:=p
  exact bN PySem.W.kitx_dict I.kIn ⟨o,h1,h2.1⟩ e (λz=>nomatch z) h
 |@dT a kvs ea=>
  cases(show u=Value.ref a from rx)
  obtain⟨_,_,xs,_,o,es,ep,h1,h2,_⟩:=(show iA X.prog X.w H s.heap a (.dT kvs) from I.hok a _ ea)
  exact bN PySem.W.kitx_dict I.kIn ⟨o,h1,h2.1⟩ e (λz=>nomatch z) h
 |@ins a C dx fs ea cl ha hn htk hm=>
  cases(show u=Value.ref a from rx)
  obtain⟨mA,O,_⟩:=GG I.hok ea
  obtain⟨od,J,_⟩:=O.look
  exact bN (PySem.W.kitx_own (cl.get _) cl.hd ha hn htk hm) I.kIn J e (λz=>nomatch z) h
end
structure mL (k:Nat)(A:Around):Prop where
 hd:A.handled=none
 dp:A.depth+3*k+5<recursionLimit
 un:A.units+16*k+200<cLine
theorem mL.mono {j k:Nat}{A:Around}(r:mL k A)(h:j<=k):mL j A:=⟨r.hd,by have:=r.dp;omega,by have:=r.un;omega⟩
theorem mL.deeper {k:Nat}{A:Around}(r:mL (k+1) A)(env:Env):mL k (A.deeper env):=
 ⟨r.hd,by have:=r.dp;show A.depth+1+3*k+5<_;omega,by have:=r.un;show A.units+3+16*k+200<_;omega⟩
theorem mL.depth {k:Nat}{A:Around}(r:mL k A):A.depth<recursionLimit:=by have:=r.dp;omega
theorem mL.units {k:Nat}{A:Around}(r:mL k A):A.units+64<cLine:=by have:=r.un;omega
def LN:TA:=λ_ H Q=>Q [] H
def JM (ta:TE)(tr:TA):TA:=λσ H Q=>ta σ H λx H1=>tr σ H1 λxs H2=>Q (x::xs) H2
section
variable {X:Cx}{e:Expr}{es:List Expr}{te:TE}{t:TA}{pos:Pos}
theorem fD:PA X [] LN:=λ_ _ _ _ H Q I h=>Calls.spliced_nil ⟨[],H,I,.nil,h⟩
theorem fA (ha:PE X e te)(hr:PA X es t)(hs:starEach (e::es) X.env=(false,eval e X.env)::starEach es X.env:=by rfl):PA X (e::es) (JM te t):=by
 intro pos pins s σ H Q I h
 rw[hs]
 show wpAny _ _ (spliced ((false,eval e X.env)::backTo pos (starEach es X.env))) _ _ s
 refine Calls.spliced_cons (thn (ha pins s σ H _ I h) λu s1 ⟨x,H1,I1,r1,q1⟩=>?_)
 exact thn (hr pos pins s1 σ H1 _ I1 q1) λus s2 ⟨xs,H2,I2,r2,q2⟩=>⟨x::xs,H2,I2,.cons r1 r2,q2⟩
def LI (t:TA):TE:=λσ H Q=>t σ H λxs H1=>xs.length<=sizeLine/\∀ p,H1 p=none->Q (.ref p) (upd H1 p (.tup xs))
def LP (t:TA):TE:=λσ H Q=>t σ H λxs H1=>xs.length<=sizeLine/\∀ p,H1 p=none->Q (.ref p) (upd H1 p (.lst xs))
theorem gy {x1}(h:PA X es t):PE X (.Tuple es x1 pos) (LI t):=by
 intro pins s σ H Q I hq
 refine wpAny_Tuple_spliced (thn (h pos pins s σ H _ I hq) λus s1 ⟨xs,H1,I1,r,z,q⟩=>⟨by rw[<-r.length];exact z,?_⟩)
 have hf:H1 s1.heap.objs.size=none:=I1.hok.fresh (au _)
 refine⟨.ref s1.heap.objs.size,upd H1 s1.heap.objs.size (.tup xs),I1.laid (t':=s1.toks) (λb u e=>ax _ e) (au _) ?_,rfl,q _ hf⟩
 exact⟨z,us,r,⟨_,aQ _ rfl,rfl,_,rfl⟩⟩
theorem iH (h:PA X es t):PE X (.List es pos) (LP t):=by
 intro pins s σ H Q I hq
 refine wpAny_List_spliced (thn (h pos pins s σ H _ I hq) λus s1 ⟨xs,H1,I1,r,z,q⟩=>⟨by rw[<-r.length];exact z,?_⟩)
 have hf:H1 s1.heap.objs.size=none:=I1.hok.fresh (au _)
 refine⟨.ref s1.heap.objs.size,upd H1 s1.heap.objs.size (.lst xs),I1.laid (t':=s1.toks) (λb u e=>ax _ e) (au _) ?_,rfl,q _ hf⟩
 exact⟨z,us,0,r,aQ _ rfl⟩
end
abbrev Sp:=List V->Hp->VK->XK->Prop
abbrev CXT:=List Env->Hp->Shared->XK->Value->Shared->Prop
structure Hc (P:Program)(w:World)(K:PySem.W.Frag)(mg:Str->Option Value)(base:Heap)(A:Around)(outer:List Env)(s:Shared)(H:Hp):Prop where
 frames:A.frames=some outer
 mod:Mod K mg base
 bs:∀ b o,base.get? b=some o->s.heap.get? b=some o/\H b=none
 bsz:base.objs.size<=s.heap.objs.size
 su:s.heap.FunFrames base outer
 frf:∀ b∈frs outer,H b=none
 hok:HOk P w H s.heap
 bare:AllBare s.gens
def CE (outer:List Env)(P:Program)(w:World)(H:Hp)(s:Shared)(Q:VK)(u:Value)(s':Shared):Prop:=
 ∃ v H',s'.os=s.os/\AllBare s'.gens/\Un (frs outer) [] H H' s.heap s'.heap/\HOk P w H' s'.heap/\RelV v u/\Q v H'
def CR (CX:CXT)(outer:List Env)(P:Program)(w:World)(H:Hp)(s:Shared)(Q:VK)(E:XK)(r:Result)(s':Shared):Prop:=
 match r with
 |.ok (.ret u)=>CE outer P w H s Q u s'
 |.ok _=>False
 |.error e=>CX outer H s E e s'
structure fV (P:Program)(w:World)(K:PySem.W.Frag)(mg:Str->Option Value)(base:Heap)(CX:CXT)(k:Nat)(f:Addr)(fd:FuncData)(ps:List Str)(sp:Sp):Prop where
 len:∀ vs H Q E,sp vs H Q E->vs.length=ps.length
 run:∀ (A:Around) (outer:List Env) (s:Shared) (H:Hp) (args:Args) (us:List Value) (vs:List V) (Q:VK) (E:XK),mL k A->Hc P w K mg base A outer s H->BindsTo s fd args (ps.zip us)->Vals vs us->sp vs H Q E->
  codeAny (model P w) A (.call (.ref f) args) (CR CX outer P w H s Q E) s
section
variable {X:Cx}{pins:List (Addr×Obj)}{σ:St}{H:Hp}{s s':Shared}
theorem Inv.Lm (I:Inv X pins σ H s):Hc X.prog X.w X.K X.mg X.base X.A X.stack s H:=
 ⟨I.ok.frames,I.ok.mod,I.bs,bF I.ok.bsz I.sz,I.stack,I.xA,I.hok,I.bare⟩
theorem Inv.after {Q:VK}{u:Value}(I:Inv X pins σ H s)(h:CE X.stack X.prog X.w H s Q u s'):EP X pins σ Q u s':=by
 obtain⟨v,H',os,bare,un,hok,r,q⟩:=h
 obtain⟨hh,g,d,t,os'⟩:=s'
 obtain rfl:os'=s.os:=os
 exact⟨v,H',I.call (h':=hh) (g':=g) (d':=d) (t':=t) (ch:=[]) un hok bare (λb z=>absurd z (by simp)),r,q⟩
end
def JN (sp:Sp)(dvs:List V)(E:XK)(t:TA):TE:=λσ H Q=>t σ H λvs H1=>sp (vs++dvs) H1 Q E
def Binds (K:PySem.W.Frag)(fd:FuncData)(ps:List Str)(ds:List Value):Prop:=
 ∀ (s:Shared) (us:List Value),K.In s.heap->(us++ds).length=ps.length->BindsTo s fd ⟨us,[]⟩ (ps.zip (us++ds))
theorem Binds.all {K:PySem.W.Frag}{fd:FuncData}{ps:List Str}(h:∀ us:List Value,us.length=ps.length->bindArgs fd ⟨us,[]⟩=pure (ps.zip us)):Binds K fd ps []:=λs us _ hl=>by
 rw[dN]at hl ⊢
 exact .of_eq (h us hl)
def Passes (CX:CXT)(X:Cx)(E:XK):Prop:=∀ (pins:List (Addr×Obj)) (σ:St) (H:Hp) (s:Shared) (e:Value) (s':Shared),Inv X pins σ H s->CX X.stack H s E e s'->X.xe e s'
section
variable {X:Cx}{CX:CXT}{k:Nat}{f C:Addr}{fd:FuncData}{ps:List Str}{sp:Sp}{dvs:List V}{ds:List Value}{E:XK}{x m:Str}{p pos apos:Pos}{e o:Expr}{es:List Expr}{ta:TE}{t:TA}
theorem HS {pins:List (Addr×Obj)}{σ:St}{H:Hp}{s:Shared}{Q:VK}{us:List Value}{vs:List V}(F:fV X.prog X.w X.K X.mg X.base CX k f fd ps sp)(hr:mL k X.A)(hb:Binds X.K fd ps ds)(hd:Vals dvs ds)(hx:Passes CX X E)
  (I:Inv X pins σ H s) (r:Vals vs us) (h:sp (vs++dvs) H Q E):wpAny (model X.prog X.w) X.A (call (.ref f) us) (EP X pins σ Q) X.xe s:=by
 have r2:Vals (vs++dvs) (us++ds):=r.append hd
 have hl:(us++ds).length=ps.length:=by rw[<-r2.length];exact F.len _ _ _ _ h
 refine wpAny_call (codeAny_mono (F.run X.A X.stack s H ⟨us,[]⟩ (us++ds) (vs++dvs) Q E hr I.Lm (hb s us I.kIn hl) r2 h) λr s' hq=>?_)
 cases r with
 |error e=>exact hx pins σ H s e s' I hq
 |ok fl=>
  cases fl with
  |ret u=>exact I.after hq
  |next=>exact False.elim hq
  |brk=>exact False.elim hq
  |cont=>exact False.elim hq
theorem fM (F:fV X.prog X.w X.K X.mg X.base CX k f fd ps sp)(hr:mL k X.A)(hg:Gl X x)(hm:X.mg x=some (.ref f))(hk:PySem.W.keepIn X.K (.ref f)=true)(hb:Binds X.K fd ps ds)(hd:Vals dvs ds)(hx:Passes CX X E)
  (ha:PA X (e::es) t) (hdb:(x==("__debug__" :Str))=false:=by decide) (he:starEach (e::es) X.env=(false,eval e X.env)::starEach es X.env:=by rfl) (hpl:(backTo pos (starEach es X.env)).any (·.1)=false:=by rfl):
  PE X (.Call (.Name x p) (e::es) [] pos) (JN sp dvs E t):=by
 intro pins s σ H Q I h
 refine fv (oj I hg hm ?_ hdb)
 refine PySem.W.callWith_K (h₀:=X.base) I.ok.mod.kin hk (thn (ha pos pins s σ H _ I h) λus s1 ⟨vs,H1,I1,r,q⟩=>⟨I1.kIn,?_⟩) he hpl
 exact HS F hr hb hd hx I1 r q
end
section
variable {X:Cx}{CX:CXT}{k:Nat}{f C:Addr}{fd:FuncData}{ps ks:List Str}{sp:Sp}{E:XK}{x m:Str}{p pos apos SI:Pos}{e o:Expr}{es:List Expr}{kws:List Keyword}{te ta:TE}{t tk:TA}{nm:Option Str}
variable {g:List Value->List Value->List Value}{gV:List V->List V->List V}
end
structure gj (N P:List Str)(sc:Scope):Prop where
 kind:sc.kind = .function
 co:sc.isCoroutine=false
 gen:sc.isGenerator=false
 nd:N.Nodup
 pre:N.take P.length=P
 par:∀ x∈P,sc.names.lookup x=some .local\/sc.names.lookup x=some .cell
 Iv:∀ y∈sc.names,y.2≠ .free
theorem xo {kindOf:Str->Option NameKind}{x:Str} :∀ {binds:List (Str×Value)}{m:Str->Option Value},(∀ v,(x,v)∉binds)->bindL kindOf binds m x=m x
 |[],_,_=>rfl
 |(n,v)::r,m,h=>by
  unfold bindL
  rw[xo λw hw=>h w (aw _ hw)]
  split
  ·have:x≠n:=by rintro rfl;exact h v aA
   simp[this]
  ·rfl
theorem xq {kindOf:Str->Option NameKind}{x:Str} :∀ {binds:List (Str×Value)}{m:Str->Option Value},(∀ v,(x,v)∉binds)->bindC kindOf binds m x=m x
 |[],_,_=>rfl
 |(n,v)::r,m,h=>by
  unfold bindC
  rw[xq λw hw=>h w (aw _ hw)]
  split
  ·rfl
  ·have:x≠n:=by rintro rfl;exact h v aA
   simp[this]
theorem xp {kindOf:Str->Option NameKind}{x:Str}{v:Value} :∀ {P:List Str}{vs:List Value}{i:Nat}{m:Str->Option Value},P.Nodup->P[i]? = some x->vs[i]? = some v->kindOf x=some .local->
  bindL kindOf (P.zip vs) m x=some v
 |[],_,_,_,_,h,_,_=>by simp at h
 |_::_,[],_,_,_,_,h,_=>by simp at h
 |p::P,w::vs,0,m,nd,h1,h2,hk=>by
  simp at h1 h2;subst h1;subst h2
  show bindL kindOf ((p,w)::P.zip vs) m p=_
  unfold bindL
  rw[xo λv hv=>(bB.mp nd).1 (List.of_mem_zip hv).1,aJ hk]
  simp
 |p::P,w::vs,i+1,m,nd,h1,h2,hk=>by
  show bindL kindOf ((p,w)::P.zip vs) m x=_
  unfold bindL
  exact xp (i:=i) (bB.mp nd).2 (by simpa using h1) (by simpa using h2) hk
theorem xr {kindOf:Str->Option NameKind}{x:Str}{v:Value} :∀ {P:List Str}{vs:List Value}{i:Nat}{m:Str->Option Value},P.Nodup->P[i]? = some x->vs[i]? = some v->kindOf x≠some .local->
  bindC kindOf (P.zip vs) m x=some v
 |[],_,_,_,_,h,_,_=>by simp at h
 |_::_,[],_,_,_,_,h,_=>by simp at h
 |p::P,w::vs,0,m,nd,h1,h2,hk=>by
  simp at h1 h2;subst h1;subst h2
  show bindC kindOf ((p,w)::P.zip vs) m p=_
  unfold bindC
  rw[xq λv hv=>(bB.mp nd).1 (List.of_mem_zip hv).1,aE hk]
  simp
 |p::P,w::vs,i+1,m,nd,h1,h2,hk=>by
  show bindC kindOf ((p,w)::P.zip vs) m x=_
  unfold bindC
  exact xr (i:=i) (bB.mp nd).2 (by simpa using h1) (by simpa using h2) hk
def start (N:List Str)(vs:List V):St:=vs.map some++List.replicate (N.length-vs.length) none
def yo (CX:CXT)(P:Program)(w:World)(K:PySem.W.Frag)(mg:Str->Option Value)(base:Heap)(N:List Str)(qual:Str)(scope:Scope)(f:Addr)(cd:Value)(A:Around)(outer:List Env)(s:Shared)(H:Hp)(E:XK):Cx where
 prog:=P
 w:=w
 K:=K
 mg:=mg
 base:=base
 A:=A.deeper (envOfC qual scope s.heap.objs.size f cd)
 N:=N
 s₀:=s
 H₀:=H
 env:=envOfC qual scope s.heap.objs.size f cd
 outer:=outer
 stack:=envOfC qual scope s.heap.objs.size f cd::outer
 ex:=[]
 calm:=true
 fn:=λ_=>true
 pn:=[]
 xe:=λe s'=>wpAny (model P w) (A.deeper (envOfC qual scope s.heap.objs.size f cd)) (leaving (envOfC qual scope s.heap.objs.size f cd) e) (λ_ s''=>CX outer H s E e s'') (λe' s''=>CX outer H s E e' s'') s'
theorem zY {sc:Scope}{n:Nat}{x:Str}(h:sc.names.lookup x=some .cell):∃ c,(cellsFrom n sc.names []).lookup x=some c:=by
 have q:=PySem.W.cellsFrom_some sc.names n [] (.inl h)
 exact cN.mp q
theorem De {CX:CXT}{P:Program}{w:World}{K:PySem.W.Frag}{mg:Str->Option Value}{base:Heap}{N ps:List Str}{qual:Str}{scope:Scope}{f:Addr}{cd:Value}{A:Around}{outer:List Env}{s s1:Shared}{H:Hp}{E:XK}{us:List Value}{vs:List V}
  (S:gj N ps scope) (hd:A.handled=none) (e0:Hc P w K mg base A outer s H) (hl:vs.length=ps.length) (r:Vals vs us)
  (x:InCallC s s.heap.objs.size (bindL (envOfC qual scope s.heap.objs.size f cd).kindOf (ps.zip us) λ_=>none) (cellsFrom (s.heap.objs.size+1) scope.names []) (bindC (envOfC qual scope s.heap.objs.size f cd).kindOf (ps.zip us) λ_=>none) s1):
  Inv (yo CX P w K mg base N qual scope f cd A outer s H E) [] (start N vs) H s1:=by
 have hpl:ps.length<=N.length:=by have:=bL List.length S.pre;rw[aT]at this;omega
 obtain⟨h1,tk,rfl,hk⟩:=x.done
 have noA:∀ b:Addr,b∉(yo CX P w K mg base N qual scope f cd A outer s H E).ex:=λb z=>absurd (show b∈([]:List Addr) from z) (by simp)
 refine⟨⟨e0.mod,S.kind,rfl,rfl,au _,λy z c h1 h2=>?_,λy hy=>?_,λy c _ h=>?_,λ_=>hd,Around.frames_deeper e0.frames,.inr ⟨rfl,rfl⟩,λb z=>absurd z (noA b),e0.bs,e0.bsz,λb _ _=>noA b,λb z=>absurd z (noA b),e0.su,e0.frf⟩,
  rfl,e0.bare,Un.kept hk,⟨_,x.toInCall.ns,λi y v h1 h2 h3=>?_⟩,λy c h=>⟨_,x.cell y c h⟩,e0.hok.fresh (au _),λy c h=>?_,λp hp=>absurd (show p∈([]:List (Addr×Obj)) from hp) (by simp),e0.hok.kept hk,?_⟩
 ·exact name_of_addr x.apart (cA h1) (cA h2)
 ·have hy:scope.names.lookup y=some .cell\/scope.names.lookup y=some .free:=hy
  rcases hy with hy |hy
  ·exact zY hy
  ·exact absurd rfl (S.Iv _ (cA hy))
 ·exact cf (x.above y c (cA h))
 ·have hi:i<vs.length:=by
   unfold start at h2
   by_cases hi:i<vs.length
   ·exact hi
   ·rw[az (by simpa using hi)]at h2
    rw[List.getElem?_replicate]at h2
    split at h2<;>cases h2
  have ha:vs[i]? = some v:=by
   unfold start at h2
   rw[aq (by simpa using hi),aj]at h2
   cases e:vs[i]? with
   |none=>rw[e]at h2;cases h2
   |some a=>rw[e]at h2;cases h2;rfl
  obtain⟨u,hu,rv⟩:=r.get ha
  have hp:ps[i]? = some y:=by
   rw[<-S.pre,fu (by omega)];exact h1
  have ndP:ps.Nodup:=by rw[<-S.pre];exact S.nd.sublist (List.take_sublist _ _)
  refine⟨u,rv,?_⟩
  rcases S.par y (av hp)with k |k
  ·exact .inl ⟨k,xp ndP hp hu k⟩
  ·obtain⟨c,e⟩:=zY (n:=s.heap.objs.size+1) k
   refine .inr ⟨.inl k,c,e,?_⟩
   have q:=x.cell y c e
   rw[xr ndP hp hu (by show scope.names.lookup y≠_;rw[k];decide)]at q
   exact q
 ·exact e0.hok.fresh (cf (x.above y c (cA h)))
 ·unfold start
  show _=N.length
  rw[ak,aa,List.length_replicate]
  omega
theorem Hr {CX:CXT}{P:Program}{w:World}{K:PySem.W.Frag}{mg:Str->Option Value}{base:Heap}{k:Nat}{f:Addr}{name qual:Str}{params:Arguments}{body:List Stmt}{scope:Scope}{dV kV doc pm cdv ct oc:Value}{an od:Option Addr}
  {osl:Array (Option Value)}{N ps:List Str}{sp:Sp} (lk:K.lookup f=some ⟨oc,od,.func (PySem.W.fnOf name qual params body scope dV kV doc pm an cdv ct),osl⟩) (hcd:PySem.W.codeIn K cdv qual=true) (S:gj N ps scope)
  (len:∀ vs H Q E,sp vs H Q E->vs.length=ps.length)
  (zJ:∀ (A:Around) (outer:List Env) (s:Shared) (H:Hp) (vs:List V) (Q:VK) (E:XK),mL k (A.deeper (envOfC qual scope s.heap.objs.size f cdv))->sp vs H Q E->
   ∃ t,PSs (yo CX P w K mg base N qual scope f cdv A outer s H E) body t/\t {nx:=λ_ H'=>Q .non H',rt:=Q} (start N vs) H):
  fV P w K mg base CX (k+1) f (PySem.W.fnOf name qual params body scope dV kV doc pm an cdv ct) ps sp:=by
 refine⟨len,λA outer s H args us vs Q E hr e0 hb r hsp=>?_⟩
 have hl:=len _ _ _ _ hsp
 have KX:K.In s.heap:=e0.mod.kin.keeps λb o e=>(e0.bs b o e).1
 have lim:s.heap.NoLimit:=e0.mod.nolimit.keeps λb o e=>(e0.bs b o e).1
 have KP:∀ y∈ps.zip us,scope.names.lookup y.1=some .local\/(scope.names.lookup y.1=some .cell/\((cellsFrom (s.heap.objs.size+1) scope.names []).lookup y.1).isSome=true):=λ⟨n,v⟩ hy=>by
  rcases S.par n (List.of_mem_zip hy).1 with q |q
  ·exact .inl q
  ·exact .inr ⟨q,PySem.W.cellsFrom_some _ _ _ (.inl q)⟩
 refine codeAny_call_function hr.depth (KX _ _ lk) rfl S.co S.gen rfl (PySem.W.codeRec_of KX hcd) (hb _ _ _ _ ?_)
 refine wpAny_newFunctionEnv_cells S.kind KP λenv he s1 x=>?_
 subst he
 refine⟨lim.keeps x.toInCall.keep,codeAny_func ?_⟩
 obtain⟨t,ht,hq⟩:=zJ A outer s H vs Q E (hr.deeper _) hsp
 have I:Inv (yo CX P w K mg base N qual scope f cdv A outer s H E) [] (start N vs) H s1:=De S hr.hd e0 hl r x
 refine bo (ht [] s1 (start N vs) H _ I hq) (λfl s' hs=>?_) λe s' hs=>hs
 have fin:∀ {σ':St}{H':Hp}{v:V}{u:Value},Inv (yo CX P w K mg base N qual scope f cdv A outer s H E) [] σ' H' s'->RelV v u->Q v H'->CE outer P w H s Q u s':=
  λ{σ' H' v u} J rv q=>⟨v,H',J.os,J.bare,J.base,J.hok,rv,q⟩
 cases fl with
 |ret u=>
  obtain⟨v,σ',H',J,rv,q⟩:=hs
  exact fin J rv q
 |next=>
  obtain⟨σ',H',J,q⟩:=hs
  exact fin (v:=V.non) (u:=Value.none) J rfl q
 |brk=>
  obtain⟨_,_,_,q⟩:=hs
  exact False.elim q
 |cont=>
  obtain⟨_,_,_,q⟩:=hs
  exact False.elim q
section
variable {X:Cx}{x:Str}{p pos:Pos}{e:Expr}{es:List Expr}{t:TA}{id T:String}{r:List V->Hp->VK->Prop}
def tCB (r:List V->Hp->VK->Prop)(t:TA):TE:=λσ H Q=>t σ H λvs H1=>r vs H1 Q
theorem fQ (hc:jS X (.builtin id) r)(hg:Gl X x)(hm:X.mg x=none)(hv:bootBuiltins x=some (.builtin id))(ha:PA X (e::es) t)(hn:x≠ "__name__" :=by decide)(hdb:(x==("__debug__" :Str))=false:=by decide)
  (he:starEach (e::es) X.env=(false,eval e X.env)::starEach es X.env:=by rfl) (hpl:(backTo pos (starEach es X.env)).any (·.1)=false:=by rfl):PE X (.Call (.Name x p) (e::es) [] pos) (tCB r t):=by
 intro pins s σ H Q I h
 refine fv (qx I hg hm hv ?_ hn hdb)
 exact PyProof.Rows.callWith_builtin1 (thn (ha pos pins s σ H _ I h) λus s1 ⟨vs,H1,I1,r1,q1⟩=>hc pins s1 σ H1 vs us Q I1 r1 q1) he hpl
theorem fZ (hc:jS X (.type T) r)(hg:Gl X x)(hm:X.mg x=none)(hv:bootBuiltins x=some (.type T))(ha:PA X (e::es) t)(hn:x≠ "__name__" :=by decide)(hdb:(x==("__debug__" :Str))=false:=by decide)
  (he:starEach (e::es) X.env=(false,eval e X.env)::starEach es X.env:=by rfl) (hpl:(backTo pos (starEach es X.env)).any (·.1)=false:=by rfl):PE X (.Call (.Name x p) (e::es) [] pos) (tCB r t):=by
 intro pins s σ H Q I h
 refine fv (qx I hg hm hv ?_ hn hdb)
 exact cD (thn (ha pos pins s σ H _ I h) λus s1 ⟨vs,H1,I1,r1,q1⟩=>hc pins s1 σ H1 vs us Q I1 r1 q1) he hpl
end
end L2
namespace HT
open PySem PyProof.Rows
section
open PySem.SeqAt
open PySem.AutoSeq1 (wpAny_loadPart')
open PySem.MeetsSeq PySem.MeetsSeq2 PySem.MeetsSeq3
end
section
variable {prog:Program}{w:World}{A:Around}{E:Value->Shared->Prop}{s:Shared}
def sIx (n d:Nat):Option Int->Nat
 |none=>d
 |some v=>if v<0 then(v+(n:Int)).toNat else min v.toNat n
theorem uz (n d:Nat):sIx n d none=d:=rfl
theorem Bt (n d k:Nat):sIx n d (some (k:Int))=min k n:=by
 show(if(k:Int)<0 then((k:Int)+(n:Int)).toNat else min (k:Int).toNat n)=min k n
 rw[aE (by omega),ef]
theorem GY (v:Int)(n d:Nat):(if v<0 then max (v+(n:Int)) 0 else min v (n:Int))=((sIx n d (some v):Nat):Int):=by
 show(if v<0 then max (v+(n:Int)) 0 else min v (n:Int))=(((if v<0 then(v+(n:Int)).toNat else min v.toNat n):Nat):Int)
 by_cases hv:v<0
 ·simp only[aJ hv];omega
 ·simp only[aE hv];omega
end
end HT
namespace L2
open PySem PySem.Spec PyProof.Rows
abbrev TO:=St->Hp->(Option Int->Hp->Prop)->Prop
def PO (X:Cx)(e:Option Expr)(t:TO):Prop:=
 ∀ (pins:List (Addr×Obj)) (s:Shared) (σ:St) (H:Hp) (Q:Option Int->Hp->Prop),Inv X pins σ H s->t σ H Q->
  wpAny (model X.prog X.w) X.A (evalPart e X.env) (λu s'=>∃ o H',Inv X pins σ H' s'/\IsPart u o/\Q o H') X.xe s
def F7:TO:=λ_ H Q=>Q none H
def JG (t:TE):TO:=λσ H Q=>t σ H λx H1=>∃ i,x = .int i/\Q (some i) H1
theorem intsAre_of {ns:List Int} :∀ {us:List Value},Vals (ns.map V.int) us->IntsAre us ns:=by
 induction ns with
 |nil=>intro us r;rw[List.map_nil]at r;cases r;exact .nil
 |cons n ns ih=>
  intro us r
  rw[bg]at r
  cases r with
  |cons r1 r2=>
   obtain⟨t,e⟩:=r1
   subst e
   exact .cons n t (ih r2)
section
variable {X:Cx}{e:Expr}{te:TE}{lo hi:Option Expr}{tl th:TO}{pos p2:Pos}
theorem pR:PO X none F7:=by
 intro pins s σ H Q I h
 rw[evalPart_none]
 exact ai ⟨none,H,I,.none,h⟩
theorem nU (h:PE X e te):PO X (some e) (JG te):=by
 intro pins s σ H Q I hw
 rw[evalPart_some]
 refine thn (h pins s σ H _ I hw) λu s1 ⟨x,H1,I1,r1,q1⟩=>?_
 obtain⟨i,rfl,q⟩:=q1
 obtain⟨t,rfl⟩:=r1
 exact⟨some i,H1,I1,.int i t,q⟩
def SlR (X:Cx)(r:V->Option Int->Option Int->Hp->VK->Prop):Prop:=
 ∀ (pins:List (Addr×Obj)) (s:Shared) (σ:St) (H:Hp) (x:V) (v vl vu:Value) (lo hi:Option Int) (sl:Addr) (Q:VK),Inv X pins σ H s->RelV x v->s.heap.IsSliceOf sl vl vu .none->IsPart vl lo->IsPart vu hi->r x lo hi H Q->
  ∃ T id,typeLookup (.type T) "__getitem__" = pure (some (.builtin id))/\s.TypeIs v T/\wpAny (model X.prog X.w) X.A (getItem v (.ref sl)) (EP X pins σ Q) X.xe s
def tSl (r:V->Option Int->Option Int->Hp->VK->Prop)(te:TE)(tl th:TO):TE:=λσ H Q=>te σ H λx H1=>tl σ H1 λl H2=>th σ H2 λu H3=>r x l u H3 Q
theorem nC {r:V->Option Int->Option Int->Hp->VK->Prop}(hr:SlR X r)(he:PE X e te)(hl:PO X lo tl)(hu:PO X hi th):PE X (.Subscript e (.Slice lo hi none p2) pos) (tSl r te tl th):=by
 intro pins s σ H Q I h
 refine Subscript_ (thn (he pins s σ H _ I h) λv s1 ⟨x,H1,I1,r1,q1⟩=>?_)
 refine wpAny_Slice (thn (hl pins s1 σ H1 _ I1 q1) λvl s2 ⟨l,H2,I2,pl,q2⟩=>thn (hu pins s2 σ H2 _ I2 q2) λvu s3 ⟨u,H3,I3,pu,q3⟩=>?_)
 rw[evalPart_none]
 refine ai ?_
 have I4:Inv X pins σ H3 {s3 with heap:=s3.heap.push {cls:=.type "slice",data:=.fields #[vl,vu,.none]}} :=I3.kept (t':=s3.toks) λb ob q=>ax _ q
 obtain⟨T,id,hT,ht,hg⟩:=hr pins {s3 with heap:=s3.heap.push {cls:=.type "slice",data:=.fields #[vl,vu,.none]}} σ H3 x v vl vu l u s3.heap.objs.size Q I4 r1 (Heap.IsSliceOf.new ..) pl pu q3
 show wpAny (model X.prog X.w) X.A (subscriptTail e (.Slice lo hi none p2) v (.ref s3.heap.objs.size)) (EP X pins σ Q) X.xe {s3 with heap:=s3.heap.push {cls:=.type "slice",data:=.fields #[vl,vu,.none]}}
 exact tail_any (ops:=[.ref s3.heap.objs.size,v]) ht hT hg (by with_unfolding_all rfl)
def qg (xs:List V)(lo hi:Option Int):List V:=(xs.drop (HT.sIx xs.length 0 lo)).take (HT.sIx xs.length xs.length hi-HT.sIx xs.length 0 lo)
theorem zT (xs:List V)(lo hi:Option Int):(qg xs lo hi).length<=xs.length:=by
 unfold qg
 rw[aT,bE]
 omega
end
def ixN (n:Nat)(i:Int):Option Nat:=if 0<=i then(if i<n then some i.toNat else none)else if -(n:Int)<=i then some (i+n).toNat else none
def atI {α:Type}(xs:List α)(i:Int):Option α:=(ixN xs.length i).bind λj=>xs[j]?
theorem GF {n:Nat}{i:Int}{j:Nat}(h:ixN n i=some j):seqIndex? i n=some j/\j<n/\ -(n:Int)<=i/\i<n:=by
 unfold ixN at h
 by_cases h0:0<=i
 ·rw[aJ h0]at h
  by_cases h1:i<n
  ·rw[aJ h1]at h
   have e:i.toNat=j:=aP h
   exact⟨by rw[seqIndex_of h0 h1,e],by omega,by omega,h1⟩
  ·rw[aE h1]at h;cases h
 ·rw[aE h0]at h
  by_cases h1: -(n:Int)<=i
  ·rw[aJ h1]at h
   have e:(i+n).toNat=j:=aP h
   exact⟨by rw[seqIndex_neg (by omega) h1,e],by omega,h1,by omega⟩
  ·rw[aE h1]at h;cases h
theorem Ci {α:Type}{xs:List α}{i:Int}{v:α}(h:atI xs i=some v):∃ j,seqIndex? i xs.length=some j/\xs[j]? = some v/\j<xs.length/\ -(xs.length:Int)<=i/\i<xs.length:=by
 unfold atI at h
 cases e:ixN xs.length i with
 |none=>rw[e]at h;cases h
 |some j=>
  rw[e]at h
  obtain⟨h1,h2,h3,h4⟩:=GF e
  exact⟨j,h1,h,h2,h3,h4⟩
theorem mU {α:Type}{xs:List α}{j:Nat}{v:α}(h:xs[j]? = some v):atI xs (j:Int)=some v:=by
 have hj:j<xs.length:=(af.mp h).1
 have e:ixN xs.length (j:Int)=some j:=by
  unfold ixN
  rw[aJ (by omega),aJ (by omega)];simp
 unfold atI;rw[e];exact h
theorem FH {α:Type}(xs:List α)(v:α):atI (xs ++ [v]) (-1)=some v:=by
 have hl:(xs ++ [v]).length=xs.length+1:=by simp
 have e:ixN (xs ++ [v]).length (-1)=some xs.length:=by
  unfold ixN
  rw[hl,aE (by decide),aJ (by omega)]
  congr 1
  omega
 unfold atI
 rw[e]
 show(xs ++ [v])[xs.length]? = some v
 simp
def Ha (b:Expr):Prop:=∀ o i,subscripted b false o i=operate [o,i] (getItem o i)
def IxR (X:Cx)(r:R2):Prop:=
 ∀ (value slice:Expr) (pins:List (Addr×Obj)) (s:Shared) (σ:St) (H:Hp) (x y:V) (v u:Value) (Q:VK),Inv X pins σ H s->RelV x v->RelV y u->r x y H Q->
  subscripted slice false v u=operate [v,u] (getItem v u)->wpAny (model X.prog X.w) X.A (subscriptTail value slice v u) (EP X pins σ Q) X.xe s
def MtR (X:Cx)(id:String)(r:V->List V->Hp->VK->Prop):Prop:=
 ∀ (pins:List (Addr×Obj)) (s:Shared) (σ:St) (H:Hp) (x:V) (xs:List V) (v:Value) (us:List Value) (Q:VK),Inv X pins σ H s->RelV x v->Vals xs us->r x xs H Q->
  wpAny (model X.prog X.w) X.A (call (.builtin id) (v::us)) (EP X pins σ Q) X.xe s
section
variable {X:Cx}{a b:Expr}{ta tb:TE}{pos:Pos}
theorem gq {r:R2}(hr:IxR X r)(ha:PE X a ta)(hb:PE X b tb)(hs:Ha b):PE X (.Subscript a b pos) (tOp r ta tb):=by
 intro pins s σ H Q I h
 exact Subscript_ (Jm ha hb I h λv u s2 x y H2 I2 rx ry q=>hr a b pins s2 σ H2 x y v u Q I2 rx ry q (hs _ _))
def JY (K:PySem.W.Frag):R2:=λx y H Q=>∃ p xs i v,x = .ref p/\y = .int i/\SqL K H p xs/\atI xs i=some v/\Q v H
def JX (K:PySem.W.Frag):R2:=λx y H Q=>∃ p xs i v,x = .ref p/\y = .int i/\SqT K H p xs/\atI xs i=some v/\Q v H
theorem hV:IxR X (JY X.K):=by
 intro value slice pins s σ H x y v u Q I rx ry h hs
 obtain⟨p,xs,i,z,rfl,rfl,hq,he,q⟩:=h
 cases rx
 obtain⟨t,rfl⟩:=ry
 obtain⟨its,r,pl,hz⟩:=I.list hq
 obtain⟨j,h1,h2,h3,h4,h5⟩:=Ci he
 obtain⟨w,ew,rw'⟩:=r.get h2
 have hl:=r.length
 have hn:=yb
 have fin:EP X pins σ Q w s:=⟨z,H,I,rw',q⟩
 by_cases h0:0<=i
 ·have hj:i.toNat=j:=by
   rw[seqIndex_of h0 h5]at h1
   exact aP h1
  exact item_listR pl.isList h0 (by omega) (by rw[hj];simpa using ew) fin hs
 ·have hj:(i+(its.toArray.size:Int)).toNat=j:=by
   rw[seqIndex_neg (by omega) h4]at h1
   rw[aM,<-hl]
   exact aP h1
  exact subscriptTail_builtinR (x:=w) pl.isList.typeIs slot_list_getitem.lookup
   (wpAny_getItem_list_neg (Q:=λr s'=>r=w/\EP X pins σ Q r s') pl.isList (by omega) (by rw[aM]<;>omega) (by omega) (by rw[hj];simpa using ew) ⟨rfl,fin⟩) hs
theorem gD:IxR X (JX X.K):=by
 intro value slice pins s σ H x y v u Q I rx ry h hs
 obtain⟨p,xs,i,z,rfl,rfl,hq,he,q⟩:=h
 cases rx
 obtain⟨t,rfl⟩:=ry
 obtain⟨its,r,pl,hz⟩:=I.tuple hq
 obtain⟨j,h1,h2,h3,h4,h5⟩:=Ci he
 obtain⟨w,ew,rw'⟩:=r.get h2
 have hl:=r.length
 have hn:=yb
 have fin:EP X pins σ Q w s:=⟨z,H,I,rw',q⟩
 exact subscriptTail_builtinR (x:=w) pl.typeIs slot_tuple_getitem.lookup
  (getItem_tuple (j:=j) (Q:=λr s'=>r=w/\EP X pins σ Q r s') pl (by omega) (by omega) (by rw[aM,<-hl];exact h1) (by simpa using ew) ⟨rfl,fin⟩) hs
theorem xG (lo hi:Option Int)(n:Nat):(sliceBounds lo hi none n).1=((HT.sIx n 0 lo:Nat):Int)/\(sliceBounds lo hi none n).2.1=((HT.sIx n n hi:Nat):Int)/\(sliceBounds lo hi none n).2.2=1:=by
 refine⟨?_,?_,rfl⟩
 ·cases lo with
  |none=>simp[sliceBounds,HT.sIx]
  |some i=>
   simp only[sliceBounds,HT.sIx,Option.getD_none,show(1:Int)>0 by decide,cP]
   by_cases h:i<0
   ·simp only[h,cP]<;>omega
   ·simp only[h,bG]<;>omega
 ·cases hi with
  |none=>simp[sliceBounds,HT.sIx]
  |some i=>
   simp only[sliceBounds,HT.sIx,Option.getD_none,show(1:Int)>0 by decide,cP]
   by_cases h:i<0
   ·simp only[h,cP]<;>omega
   ·simp only[h,bG]<;>omega
theorem vY (its:List Value)(lo hi:Option Int):slicePick its.toArray lo hi none=((its.drop (HT.sIx its.length 0 lo)).take (HT.sIx its.length its.length hi-HT.sIx its.length 0 lo)).toArray:=by
 obtain⟨h1,h2,h3⟩:=xG lo hi its.toArray.size
 unfold slicePick
 rw[h1,h2,h3]
 simp only[sliceRange_one,pick_run,aM]<;>rfl
def MG (K:PySem.W.Frag):V->Option Int->Option Int->Hp->VK->Prop:=λx lo hi H Q=>∃ a xs,x = .ref a/\SqL K H a xs/\∀ p,H p=none->Q (.ref p) (upd H p (.lst (qg xs lo hi)))
theorem pK:SlR X (MG X.K):=by
 intro pins s σ H x v vl vu lo hi sl Q I rx hs pl pu h
 obtain⟨a,xs,rfl,hx,q⟩:=h
 cases rx
 obtain⟨its,r,ht,hz⟩:=I.list hx
 have hlen:=r.length
 refine⟨"list",_,slot_list_getitem.lookup,ht.isList.typeIs,?_⟩
 refine wpAny_getItem_list_slice ht.isList hs pl pu .none (by simp) ?_ (by rw[aM]<;>omega)
 rw[vY,<-hlen]
 refine⟨.ref s.heap.objs.size,_,I.laid (t':=s.toks) (o:=.lst (qg xs lo hi)) (λb ob q=>ax _ q) (au _) ?_,rfl,q _ (I.hok.fresh (au _))⟩
 exact⟨bF (zT xs lo hi) hz,_,0,(r.drop (HT.sIx xs.length 0 lo)).take (HT.sIx xs.length xs.length hi-HT.sIx xs.length 0 lo),aQ _ rfl⟩
theorem gh:jS X (.builtin "len") (λxs H Q=>∃ p ys,xs = [.ref p]/\(SqL X.K H p ys\/SqT X.K H p ys)/\Q (.int ys.length) H):=by
 intro pins s σ H xs us Q I r h
 obtain⟨p,ys,rfl,hq,q⟩:=h
 obtain⟨u,rfl,rx⟩:=vals1 r
 cases rx
 have hn:=yb
 rcases hq with hq |hq
 ·obtain⟨its,r',pl,hz⟩:=I.list hq
  have hlen:=r'.length
  exact Calls.call_len_list pl.isList (by simp only[aM]<;>omega) ⟨.int ys.length,H,I.tok _,⟨s.toks+1,by rw[aM,hlen]⟩,q⟩
 ·obtain⟨its,r',pl,hz⟩:=I.tuple hq
  have hlen:=r'.length
  exact len_tuple pl (by simp only[aM]<;>omega) ⟨.int ys.length,H,I.tok _,⟨s.toks+1,by rw[aM,hlen]⟩,q⟩
theorem iM:jS X (.type "list") (λxs H Q=>∃ p ys,xs = [.ref p]/\(SqL X.K H p ys\/SqT X.K H p ys)/\∀ l,H l=none->Q (.ref l) (upd H l (.lst ys))):=by
 intro pins s σ H xs us Q I r h
 obtain⟨p,ys,rfl,hq,q⟩:=h
 obtain⟨u,rfl,rx⟩:=vals1 r
 cases rx
 have fin:∀ (its:List Value),Vals ys its->ys.length<=sizeLine->∀ (h':Heap) (c':Nat),(∀ b o',s.heap.get? b=some o'->h'.get? b=some o')->
   h'.get? s.heap.objs.size=some {cls:=.type "list",dict:=none,data:=.seq its.toArray c',slots:= #[]} ->EP X pins σ Q (.ref s.heap.objs.size) {s with heap:=h'} :=λits r' hz h' c' kp e=>
  ⟨.ref s.heap.objs.size,_,I.laid (t':=s.toks) kp (au _) (show iA X.prog X.w _ h' _ (.lst ys) from⟨hz,its,c',r',e⟩),rfl,q _ (I.hok.fresh (au _))⟩
 rcases hq with hq |hq
 ·obtain⟨its,r',pl,hz⟩:=I.list hq
  have hlen:=r'.length
  obtain⟨o,ho,hc,n,hd⟩:=pl.isList
  exact call_list_seq p (.inl rfl) ho hc hd (λh' c' kp e=>fin its r' hz h' c' kp e) (by simp only[aM]<;>omega)
 ·obtain⟨its,r',pl,hz⟩:=I.tuple hq
  have hlen:=r'.length
  obtain⟨o,ho,hc,n,hd⟩:=pl
  exact call_list_seq p (.inr rfl) ho hc hd (λh' c' kp e=>fin its r' hz h' c' kp e) (by simp only[aM]<;>omega)
theorem gw:jS X (.type "tuple") (λxs H Q=>∃ p ys,xs = [.ref p]/\((SqL X.K H p ys/\∀ l,H l=none->Q (.ref l) (upd H l (.tup ys)))\/(SqT X.K H p ys/\Q (.ref p) H))):=by
 intro pins s σ H xs us Q I r h
 obtain⟨p,ys,rfl,h⟩:=h
 obtain⟨u,rfl,rx⟩:=vals1 r
 cases rx
 rcases h with⟨hq,q⟩|⟨hq,q⟩
 ·obtain⟨its,r',pl,hz⟩:=I.list hq
  have hlen:=r'.length
  refine call_tuple_list pl.isList (λh' kp=>?_) (by simp only[aM]<;>omega)
  have I1:Inv X pins σ H {s with heap:=h'} :=I.kept (t':=s.toks) kp
  have I2:Inv X pins σ (upd H h'.objs.size (.tup ys)) {s with heap:=h'.push {cls:=.type "tuple",data:=.seq its.toArray}} :=
   I1.laid (t':=s.toks) (λb o e=>ax _ e) (au _) (show iA X.prog X.w _ _ _ (.tup ys) from⟨hz,its,r',IsTup.new _ _⟩)
  exact⟨.ref h'.objs.size,_,I2,rfl,q _ (I1.hok.fresh (au _))⟩
 ·obtain⟨its,r',pl,hz⟩:=I.tuple hq
  exact call_tuple_same pl ⟨.ref p,H,I,rfl,q⟩
def tyV (K:PySem.W.Frag)(T:String)(x:V)(H:Hp):Prop:=match x with
 |.str _=>T = "str"
 |.int _=>T = "int"
 |.ref p=>(T = "list" /\∃ xs,SqL K H p xs)\/(T = "tuple" /\∃ o,K.lookup p=some o/\o.cls = .type "tuple" /\o.dict=none)\/
   (T = "dict" /\((∃ kvs,H p=some (.dK kvs))\/∃ kvs,H p=some (.dT kvs)))\/(T = "set" /\∃ S n,H p=some (.set S n))
 |_=>False
theorem DS {pins:List (Addr×Obj)}{σ:St}{H:Hp}{s:Shared}{T:String}{x:V}{v:Value}(I:Inv X pins σ H s)(r:RelV x v)(ty:tyV X.K T x H):
  s.TypeIs v T/\∀ a,v = .ref a->∃ ob,s.heap.get? a=some ob/\ob.dict=none:=by
 cases x with
 |str z=>
  obtain⟨t,rfl⟩:=r
  cases(show T = "str" from ty)
  exact⟨typeIs_str s z t,λ_ e=>nomatch e⟩
 |int i=>
  obtain⟨t,rfl⟩:=r
  cases(show T = "int" from ty)
  exact⟨typeIs_int s i t,λ_ e=>nomatch e⟩
 |ref p=>
  cases r
  rcases ty with⟨rfl,xs,hq⟩|⟨rfl,o,hk,hc,hd⟩|⟨rfl,hk⟩|⟨rfl,S,n,hk⟩
  ·obtain⟨its,_,pl,_⟩:=I.list hq
   refine⟨pl.isList.typeIs,λa e=>?_⟩
   cases e
   obtain⟨o,n,e,c,hd,_⟩:=pl
   exact⟨o,e,hd⟩
  ·refine⟨⟨o,I.kIn p o hk,hc⟩,λa e=>?_⟩
   cases e
   exact⟨o,I.kIn _ o hk,hd⟩
  ·have z:∃ o,s.heap.get? p=some o/\o.ExactDict:=by
    rcases hk with⟨kvs,hk⟩|⟨kvs,hk⟩
    ·obtain⟨_,_,_,_,o,_,_,e,ex,_⟩:=I.hok p _ hk
     exact⟨o,e,ex⟩
    ·obtain⟨_,_,_,_,o,_,_,e,ex,_⟩:=I.hok p _ hk
     exact⟨o,e,ex⟩
   obtain⟨o,e,ex⟩:=z
   refine⟨⟨o,e,ex.1⟩,λa e2=>?_⟩
   cases e2
   exact⟨o,e,ex.2.1⟩
  ·obtain⟨o,_,_,_,e,ex,_⟩:=I.hok p _ hk
   refine⟨⟨o,e,ex.1⟩,λa e2=>?_⟩
   cases e2
   exact⟨o,e,ex.2.1⟩
 |_=>exact False.elim ty
def LX (K:PySem.W.Frag)(T:String)(r:V->List V->Hp->VK->Prop)(to:TE):TE:=λσ H Q=>to σ H λx H1=>tyV K T x H1/\r x [] H1 Q
def tBM (K:PySem.W.Frag)(T:String)(r:V->List V->Hp->VK->Prop)(to:TE)(t:TA):TE:=λσ H Q=>to σ H λx H1=>tyV K T x H1/\t σ H1 λxs H2=>r x xs H2 Q
variable {o e:Expr}{es:List Expr}{to:TE}{t:TA}{name:Str}{apos kE:Pos}{T id:String}{r:V->List V->Hp->VK->Prop}
theorem uH (pa:PlainAttrs T)(slot:Slot T name id)(hty:typeOf (.builtin id)=pure (.type "method_descriptor"))(hm:MtR X id r)(ho:PE X o to)
  (zK:attributeBase o name X.env (eval o X.env)=eval o X.env:=by rfl) (zG:(apos.endLine==kE.line)=true:=by rfl):PE X (.Call (.Attribute o name apos) [] [] kE) (LX X.K T r to):=by
 intro pins s σ H Q I h
 refine wpAny_Call_method0_late zK zG (thn (ho pins s σ H _ I h) λv s1 ⟨x,H1,I1,r1,ty,q1⟩=>?_)
 obtain⟨h1,h2⟩:=DS I1 r1 ty
 exact⟨T,id,pa,slot,hty,h1,h2,eR rfl (PySem.evalArgs_none (hm pins s1 σ H1 x [] v [] Q I1 r1 .nil q1))⟩
theorem kF (pa:PlainAttrs T)(slot:Slot T name id)(hty:typeOf (.builtin id)=pure (.type "method_descriptor"))(hm:MtR X id r)(ho:PE X o to)(ha:PA X (e::es) t)
  (zK:attributeBase o name X.env (eval o X.env)=eval o X.env:=by rfl)
  (PD:((backTo kE (starEach (e::es) X.env)).all (λx=> !x.1)&&(backToKw kE (keywordEach [] X.env)).all (λx=>x.1.isSome)
   && decide ((e::es).length+([]:List Keyword).length+(if([]:List Keyword).isEmpty then 0 else 1)<30))=true:=by rfl)
  (zG:(apos.endLine==kE.line)=true:=by rfl) (hs:starEach (e::es) X.env=(false,eval e X.env)::starEach es X.env:=by rfl) (IX:(backTo kE (starEach es X.env)).any (·.1)=false:=by rfl):
  PE X (.Call (.Attribute o name apos) (e::es) [] kE) (tBM X.K T r to t):=by
 intro pins s σ H Q I h
 refine wpAny_Call_method_late zK PD zG rfl (thn (ho pins s σ H _ I h) λv s1 ⟨x,H1,I1,r1,ty,q1⟩=>?_)
 obtain⟨h1,h2⟩:=DS I1 r1 ty
 refine⟨T,id,pa,slot,hty,h1,h2,?_⟩
 have hA:=ha kE pins s1 σ H1 _ I1 q1
 rw[hs]at hA ⊢
 refine eR (by show(false||(backTo kE (starEach es X.env)).any (·.1))=false;rw[IX]<;>rfl) (Calls.evalArgs_plain ?_)
 exact thn hA λus s2 ⟨vs,H2,I2,r2,q2⟩=>hm pins s2 σ H2 x vs v us Q I2 r1 r2 q2
/- xs.append(e),list.index on a Kl tuple .. are MtR facts of 06m -/
end
def MtM (X:Cx)(id:String)(r:V->List V->Hp->VK->Prop):Prop:=
 ∀ (pins:List (Addr×Obj)) (s:Shared) (σ:St) (H:Hp) (x:V) (xs:List V) (v:Value) (us:List Value) (Q:VK),Inv X pins σ H s->RelV x v->Vals xs us->r x xs H Q->
  wpAny (model X.prog X.w) X.A (call (.builtin id) (v::us)) (EP X pins σ Q) X.xe s
theorem Vals.one:∀ {x:V}{us:List Value},Vals [x] us->∃ u,us = [u]/\RelV x u
 |_,_,.cons r .nil=>⟨_,rfl,r⟩
theorem Vals.two {x y:V}{us:List Value}(h:Vals [x,y] us):∃ u v,us = [u,v]/\RelV x u/\RelV y v:=by
 cases h with
 |cons r t=>
  cases t with
  |cons q n=>
   cases n
   exact⟨_,_,rfl,r,q⟩
theorem Vals.zero:∀ {us:List Value},Vals [] us->us = []
 |_,.nil=>rfl
theorem Vals.dropLast {xs:List V}{us:List Value}(h:Vals xs us):Vals xs.dropLast us.dropLast:=by
 induction h with
 |nil=>exact .nil
 |cons r t ih=>
  cases t with
  |nil=>exact .nil
  |cons q t'=>exact .cons r ih
theorem Vals.reverse {xs:List V}{us:List Value}(h:Vals xs us):Vals xs.reverse us.reverse:=by
 induction h with
 |nil=>exact .nil
 |cons r t ih=>rw[df,df];exact Vals.append ih (.cons r .nil)
theorem AZ {α:Type}(l:List α):l.eraseIdx (l.length-1)=l.dropLast:=by
 induction l with
 |nil=>rfl
 |cons a r ih=>
  cases r with
  |nil=>rfl
  |cons b r=>
   have e:(a::b::r).length-1=((b::r).length-1)+1:=by
    have h1:(a::b::r).length=r.length+2:=rfl
    have h2:(b::r).length=r.length+1:=rfl
    omega
   rw[e,List.eraseIdx_cons_succ,ih]
   all_goals rfl
section
variable {X:Cx}{pins:List (Addr×Obj)}{σ:St}{H:Hp}{s:Shared}{l b:Addr}{xs ys zs:List V}
theorem Inv.ET {its its':List Value}{n:Nat}{f:Array Value->Array Value}{t':Nat}(I:Inv X pins σ H s)(hH:H l=some (.lst xs))
  (e:s.heap.get? l=some {cls:=.type "list",data:=.seq its.toArray n}) (hf:f its.toArray=its'.toArray) (hv:Vals ys its') (hz:ys.length<=sizeLine):
  Inv X pins σ (upd H l (.lst ys)) {s with heap:=s.heap.update l (Obj.mapSeq f),toks:=t'} :=by
 have q:=PySem.IsL.update e f
 rw[hf]at q
 refine I.write (x:=l) (e:=l) (by rw[hH];exact trivial) (.inl rfl) (λb' u hb hu=>(Heap.get?_update_other s.heap (Obj.mapSeq f) (bI hb)).trans hu) ⟨_,q⟩ ?_
 exact⟨hz,its',_,hv,q⟩
theorem Inv.Kn {its:List Value}{t':Nat}(I:Inv X pins σ H s)(hv:Vals ys its)(hz:ys.length<=sizeLine):
  Inv X pins σ (upd H s.heap.objs.size (.lst ys)) {s with heap:=s.heap.push {cls:=.type "list",data:=.seq its.toArray},toks:=t'} :=
 I.laid (λ_ _ q=>ax _ q) (au _) ⟨hz,its,0,hv,aQ _ rfl⟩
theorem Inv.fresh (I:Inv X pins σ H s):H s.heap.objs.size=none:=I.hok.fresh (au _)
theorem Inv.xZ (I:Inv X pins σ H s)(hH:H l=some (.lst xs)):xs.length<=sizeLine/\∃ (its:List Value) (n:Nat),Vals xs its/\xs.length=its.length/\s.heap.get? l=some {cls:=.type "list",data:=.seq its.toArray n} :=by
 obtain⟨z,its,n,r,e⟩:=I.hok l _ hH
 exact⟨z,its,n,r,r.length,e⟩
end
section
variable {X:Cx}
def Gh:V->List V->Hp->VK->Prop:=λx vs H Q=>∃ l xs y,x = .ref l/\vs = [y]/\H l=some (.lst xs)/\xs.length<sizeLine/\Q .non (upd H l (.lst (xs ++ [y])))
theorem ir:MtM X "list.append" Gh:=by
 intro pins s σ H x vs v us Q I rx rv h
 obtain⟨l,xs,y,rfl,rfl,hH,hz,q⟩:=h
 cases rx
 obtain⟨u,rfl,ru⟩:=rv.one
 obtain⟨z,its,n,r,hl,e⟩:=I.xZ hH
 refine fw F.slot_list_append ⟨_,e,rfl⟩ F.entry_list_append (F.args_list_append_2 _ _) (PySem.list_append l its.toArray n u (by rw[aM];omega)) ⟨e,?_⟩
 refine⟨.non,_,I.ET (its':=its ++ [u]) hH e (by simp) (r.append (.cons ru .nil)) ?_,rfl,q⟩
 rw[ak,aI]
 omega
def MH:V->List V->Hp->VK->Prop:=λx vs H Q=>∃ l xs y,x = .ref l/\vs = []/\H l=some (.lst xs)/\xs[xs.length-1]? = some y/\Q y (upd H l (.lst xs.dropLast))
theorem Iy:MtM X "list.pop" MH:=by
 intro pins s σ H x vs v us Q I rx rv h
 obtain⟨l,xs,y,rfl,rfl,hH,hy,q⟩:=h
 cases rx
 have hus:=rv.zero
 subst hus
 obtain⟨z,its,n,r,hl,e⟩:=I.xZ hH
 obtain⟨u,hu,ru⟩:=r.get hy
 have hy':its.toArray[its.toArray.size-1]? = some u:=by
  show its.toArray[its.length-1]? = some u
  rw[<-bH,<-hl]
  exact hu
 refine fw F.slot_list_pop ⟨_,e,rfl⟩ F.entry_list_pop (F.args_list_pop_1 _) (MeetsSeq.list_pop_last l its.toArray n u hy' (by rw[aM];omega)) ⟨e,?_⟩
 refine⟨y,_,I.ET (its':=its.dropLast) hH e ?_ r.dropLast ?_,ru,q⟩
 ·show its.toArray.eraseIdxIfInBounds (its.toArray.size-1)=its.dropLast.toArray
  rw[aM,List.eraseIdxIfInBounds_toArray,AZ]
 ·rw[eN]
  omega
def Eh:V->List V->Hp->VK->Prop:=λx vs H Q=>∃ l xs,x = .ref l/\vs = []/\H l=some (.lst xs)/\Q .non (upd H l (.lst xs.reverse))
theorem uW:MtM X "list.reverse" Eh:=by
 intro pins s σ H x vs v us Q I rx rv h
 obtain⟨l,xs,rfl,rfl,hH,q⟩:=h
 cases rx
 have hus:=rv.zero
 subst hus
 obtain⟨z,its,n,r,hl,e⟩:=I.xZ hH
 refine fw F.slot_list_reverse ⟨_,e,rfl⟩ F.entry_list_reverse (F.args_list_reverse_1 _) (AutoSeq1.list_reverse_list_0 l its.toArray n (by rw[aM];omega)) ⟨e,?_⟩
 refine⟨.non,_,I.ET (its':=its.reverse) hH e (by simp) r.reverse ?_,rfl,q⟩
 rw[cB]
 omega
def HX:V->List V->Hp->VK->Prop:=λx vs H Q=>∃ l xs,x = .ref l/\vs = []/\H l=some (.lst xs)/\Q .non (upd H l (.lst []))
theorem zu:MtM X "list.clear" HX:=by
 intro pins s σ H x vs v us Q I rx rv h
 obtain⟨l,xs,rfl,rfl,hH,q⟩:=h
 cases rx
 have hus:=rv.zero
 subst hus
 obtain⟨z,its,n,r,hl,e⟩:=I.xZ hH
 refine fw F.slot_list_clear ⟨_,e,rfl⟩ F.entry_list_clear (F.args_list_clear_1 _) (AutoSeq1.list_clear_list_0 l its.toArray n (by rw[aM];omega)) ⟨e,?_⟩
 exact⟨.non,_,I.ET (its':=[]) (ys:=[]) hH e rfl .nil (aK _),rfl,q⟩
def MJ:R2:=λx y H Q=>∃ l b xs zs,x = .ref l/\y = .ref b/\H l=some (.lst xs)/\H b=some (.lst zs)/\xs.length+zs.length<=sizeLine/\∀ p,H p=none->Q (.ref p) (upd H p (.lst (xs++zs)))
theorem oR:OpR X (binaryOp .Add) MJ:=by
 intro pins s σ H x y v u Q I rx ry h
 obtain⟨l,b,xs,zs,rfl,rfl,hH,hB,hz,q⟩:=h
 cases rx
 cases ry
 obtain⟨z,its,n,r,hl,e⟩:=I.xZ hH
 obtain⟨z2,Ks,n2,r2,hl2,e2⟩:=I.xZ hB
 refine PySem.P.add_list e e2 ?_ (by rw[aM,aM];omega)
 have ea:its.toArray++Ks.toArray=(its++Ks).toArray:=by simp
 rw[ea]
 exact⟨.ref _,_,I.Kn (t':=s.toks) (r.append r2) (by rw[ak];omega),rfl,q _ I.fresh⟩
end
section
variable {prog:Program}{w:World}{A:Around}{E:Value->Shared->Prop}{s:Shared}
end
section
variable {X:Cx}
end
end L2
namespace Att
open PySem PySem.W PySem.Calls PyProof.Rows
theorem tF {P:Params}{h:Heap} :∀ (ns:List Int) (vs:List Value),WellAll P h vs (ns.map WData.int)->IntsAre vs ns:=by
 intro ns
 induction ns with
 |nil=>
  intro vs w
  rw[List.map_nil]at w
  cases w
  exact .nil
 |cons n ns ih=>
  intro vs w
  rw[bg]at w
  cases w with
  |cons a b=>
   cases a
   exact .cons _ _ (ih _ b)
theorem CC {l:OpenLaw}{n:Nat}(hn:l.most=some n){P:Params}{h:Heap}{args:List WData}{vals:List Value}
  (zE:l.row.toRowW.claim.pre args=true) (hwl:WellAll P h vals args):
  ∃ a vs ns,vals = [Value.ref a]/\args = [WData.list (ns.map WData.int)]/\h.get? a=some {cls:=.type "list",data:=.seq vs.toArray} /\IntsAre vs ns/\ns.length<=n:=by
 have hsh:WShape.hasAll [] args [.list .int]=true:=(pre_splitW zE).1
 have hc:l.pre.holds [] {args:=args} = true:=(pre_splitW zE).2
 obtain⟨d,r,rfl,h1,h2⟩:=hasAllW_cons hsh
 obtain rfl:=hasAllW_nil h2
 obtain⟨xs,rfl,h3⟩:=hasW_list h1
 obtain⟨ns,rfl⟩:=items_int h3
 have hlen:ns.length<=n:=by
  unfold OpenLaw.pre at hc
  have h4:(WTm.not (.lt (.lit (.int (n:Int))) (.len (.arg 0)))).holds [] {args:=[.list (ns.map .int)]} = true:=by
   have h4:=(holds_andW hc).1
   rw[hn]at h4
   exact h4
  have h5:=condW_of h4 (w_not (w_lt w_lit (w_len_list (w_arg rfl))))
  rw[aa]at h5
  refine Nat.le_of_not_lt λq=>?_
  have q':(n:Int)<((ns.length:Nat):Int):=by omega
  first
   |(rw[bA q']at h5;exact absurd h5 (by decide))
   |(simp at h5;omega)
 cases hwl with
 |cons w1 w2=>
  cases w2
  cases w1 with
  |list ho mB=>exact⟨_,_,ns,rfl,rfl,ho,tF ns _ mB,hlen⟩
theorem CM (l:OpenLaw)(args:List WData):l.row.toRowW.claim.post args (.bool true) args=true:=
 postW_of (r:=l.row.toRowW) (X:=(true==true))
  (show WShape.has [] (.bool true) .bool=true by first |rfl |decide |simp[WShape.has,WShape.arms,WShape.armsAll])
  (show(WTm.eq .res (.lit (.bool true))).value [] {args:=args,res:=some (.bool true),after:=args} = some (.bool (true==true)) from w_eq_bool (w_res rfl) w_lit) rfl
theorem Ae {l:OpenLaw}{n:Nat}{q:Program}{loose:List Str}{XP:(Str->Option Value)->Heap->Prop}{YP:World->Heap->Prop}{d:DefRec}
  (hn:l.most=some n) (hdf:d.params.defaults = [])
  (call:∀ (w:World) (s₀ s₁:Shared) (mg mb:Str->Option Value) (fa:Addr) (o:Obj) (pm cd doc:Value) (a:Addr) (vs:List Value) (ns:List Int),
   Ground q loose [] XP w s₀ mg mb s₁.heap->YP w s₁.heap->
   s₁.heap.get? fa=some o->o.data = .func (docDef d.name d.params d.body d.scope pm cd doc)->s₁.heap.CodeRec cd d.name->mg d.name=some (.ref fa)->
   s₁.heap.get? a=some {cls:=.type "list",data:=.seq vs.toArray} ->IntsAre vs ns->ns.length<=n->s₁.gens = #[]->
   codeAny (model l.prog w) callerA (.call (.ref fa) ⟨[.ref a],[]⟩) (λr s'=>r = .ok (.ret (.bool true))/\OldK s₁.heap s'.heap/\s'.os=s₁.os/\AllBare s'.gens) s₁):
  WalkO q loose XP YP l.row.toRowW d [] (λf vs=>PySem.call f vs):=by
 intro w s₀ s₁ mg mb G Y fa o pm cd doc dV kV ho hd hcd hD hmg hg args vals as zE SN hrd hwl hlo
 obtain rfl:dV = .none:=Dflts.none hD hdf
 obtain rfl:kV = .none:=Dflts.noKw hD
 obtain⟨a,vs,ns,rfl,rfl,IY,hints,hlen⟩:=CC hn zE hwl
 refine enter_call (codeAny_mono (call w s₀ s₁ mg mb fa o pm cd doc a vs ns G Y ho (fd_plain hd) hcd hmg IY hints hlen hg) λr s' hq=>?_)
 obtain⟨rfl,h2,h3,h4⟩:=hq
 exact⟨.inl ⟨.bool true,.bool true,[],rfl,λ_=>rfl,.bool true,CM l _,λ_=>⟨List.Pairwise.nil,λ_ hm=>(nomatch hm)⟩⟩,h2,h3,h4⟩
section
variable {prog:Program}{w:World}{A:Around}{E:Value->Shared->Prop}{s:Shared}{K:Frag}
end
end Att
namespace L2
open PySem PySem.Spec PyProof.Rows
theorem rQ:∀ {vs:List Value}{ns:List Int},IntsAre vs ns->Vals (ns.map V.int) vs
 |_,_,.nil=>.nil
 |_,_,.cons n t h=>.cons ⟨t,rfl⟩ (rQ h)
def Jo (H:Hp):Prop:=∀ b,H b=none\/∃ o xs,H b=some (.frz o (.lst xs))
theorem EY {P:Program}{w:World}{K:PySem.W.Frag}{mg mb:Str->Option Value}{CX:CXT}{k:Nat}{fa a:Addr}{fd:FuncData}{x:Str}{sp:Sp}{s₁:Shared}{vs:List Value}{ns:List Int}
  (KX:K.In s₁.heap) (hns:s₁.heap.Ns mainGlobals mg) (hb:s₁.heap.Ns builtinsNs mb) (hbb:∀ x:Str,x≠ "__name__" ->mb x=bootBuiltins x) (Py:s₁.heap.NoLimit) (hg:s₁.gens = #[])
  (ha:s₁.heap.get? a=some {cls:=.type "list",data:=.seq vs.toArray}) (hi:IntsAre vs ns) (hl:ns.length<=sizeLine) (hr:mL k callerA)
  (F:∀ base:Heap,K.In base->base.Ns mainGlobals mg->fV P w K mg base CX k fa fd [x] sp) (KY:∀ (s:Shared) (u:Value),BindsTo s fd ⟨[u],[]⟩ [(x,u)])
  (hsp:∀ H:Hp,Jo H->SqL K H a (ns.map V.int)->sp [.ref a] H (λv _=>v = .bl true) λ_ _ _=>False)
  (hCX:∀ H e s',CX [] H s₁ (λ_ _ _=>False) e s'->False):
  codeAny (model P w) callerA (.call (.ref fa) ⟨[.ref a],[]⟩) (λr s'=>r = .ok (.ret (.bool true))/\OldK s₁.heap s'.heap/\s'.os=s₁.os/\AllBare s'.gens) s₁:=by
 have rv:=rQ hi
 have OJ:=hi.length
 have core:∀ H:Hp,Jo H->SqL K H a (ns.map V.int)->HOk P w H s₁.heap->(∀ b,H b≠none->b=a)->(H a≠none->K.lookup a=none)->
   codeAny (model P w) callerA (.call (.ref fa) ⟨[.ref a],[]⟩) (λr s'=>r = .ok (.ret (.bool true))/\OldK s₁.heap s'.heap/\s'.os=s₁.os/\AllBare s'.gens) s₁:=by
  intro H hO hS hok hA hK
  have Cg:∀ {b:Addr}{o:Obj},s₁.heap.get? b=some o->H b=none->(yi s₁.heap H).get? b=some o:=λe n=>Ff e n
  have noA:∀ {b:Addr}{o:Obj}{es:Array DictEntry}{ep:Nat},s₁.heap.get? b=some o->o.data = .dict es ep->H b=none:=λ{b o es ep} e d=>by
   cases q:H b with
   |none=>rfl
   |some u=>
    have e':b=a:=hA b (by rw[q];simp)
    subst e'
    rw[ha]at e;cases e
    have d':Data.seq vs.toArray _=Data.dict es ep:=d
    cases d'
  have nsK:∀ {b:Addr}{m:Str->Option Value},s₁.heap.Ns b m->(yi s₁.heap H).Ns b m:=λ{b m} ⟨o,es,ep,e,d,r⟩=>⟨o,es,ep,Cg e (noA e d),d,r⟩
  have hKb:K.In (yi s₁.heap H):=λb o e=>Cg (KX b o e) (by
   cases q:H b with
   |none=>rfl
   |some u=>
    have e':b=a:=hA b (by rw[q];simp)
    subst e'
    rw[hK (by rw[q];simp)]at e;cases e)
  have hM:Mod K mg (yi s₁.heap H):=⟨hKb,nsK hns,⟨mb,nsK hb,hbb⟩,let ⟨mc,h1,h2⟩:=Py;⟨mc,nsK h1,h2⟩⟩
  have e0:Hc P w K mg (yi s₁.heap H) callerA [] s₁ H:=⟨rfl,hM,λb o e=>Gv e,Nat.le_of_eq (Dl _ _),trivial,λb hb=>absurd (show b∈([]:List Addr) from hb) (by simp),hok,.of_eq hg⟩
  refine codeAny_mono ((F _ hKb (nsK hns)).run callerA [] s₁ H ⟨[.ref a],[]⟩ [.ref a] [.ref a] _ _ hr e0 (KY s₁ (.ref a)) (.cons rfl .nil) (hsp H hO hS)) λr s' h=>?_
  cases r with
  |error e=>exact(hCX H e s' h).elim
  |ok fl=>
   cases fl with
   |next=>exact False.elim h
   |brk=>exact False.elim h
   |cont=>exact False.elim h
   |ret u=>
    obtain⟨v,H',os,bare,un,Pr,r',q⟩:=h
    have q':v = .bl true:=q
    subst q'
    obtain rfl:u=Value.bool true:=r'
    refine⟨rfl,OldK.of_keep λb o e=>?_,os,bare⟩
    cases q:H b with
    |none=>exact un.keep b o e q (by intro z;exact absurd (show b∈([]:List Addr) from z) (by simp)) (by simp)
    |some u=>
     rcases hO b with z |⟨ob,xs,z⟩
     ·rw[q]at z;cases z
     ·have z2:=un.oE b ob _ z
      obtain⟨e1,_⟩:=hok b _ z
      obtain⟨e2,_⟩:=Pr b _ z2
      rw[e]at e1;cases e1
      exact e2
 cases hk:K.lookup a with
 |some o=>
  have e:=KX a o hk
  rw[ha]at e
  cases e
  refine core (λ_=>none) (λ_=>.inl rfl) (.inr ⟨_,vs.toArray,_,hk,rfl,rfl,rfl,by rw[aM,OJ];exact hl,by simpa using rv⟩) (λb u z=>by have z':(none:Option HO)=some u:=z;cases z') (λb z=>absurd rfl z) λz=>absurd rfl z
 |none=>
  refine core (λb=>if b=a then some (.frz {cls:=.type "list",data:=.seq vs.toArray} (.lst (ns.map V.int)))else none) (λb=>?_) (.inl (.inr ⟨{cls:=.type "list",data:=.seq vs.toArray},aJ rfl⟩)) (λb u z=>?_) (λb z=>?_) λ_=>hk
  ·by_cases hb:b=a
   ·exact .inr ⟨_,_,aJ hb⟩
   ·exact .inl (aE hb)
  ·by_cases hb:b=a
   ·have z':=(aJ hb).symm.trans z
    cases z'
    subst hb
    exact⟨ha,by rw[aa];exact hl,vs,_,rv,ha⟩
   ·have z':=(aE hb).symm.trans z
    cases z'
  ·by_cases hb:b=a
   ·exact hb
   ·exact absurd (aE hb) z
abbrev KOf {K:PySem.W.Frag}{h:Heap}(_:K.In h):PySem.W.Frag:=K
theorem F3 {l:PySem.W.OpenLaw}{n k:Nat}{q:Program}{loose:List Str}{XP:(Str->Option Value)->Heap->Prop}{YP:World->Heap->Prop}{d:DefRec}{K:Params->PySem.W.Frag}{CX:World->CXT}{sp:World->Sp}{x:Str}
  (hn:l.most=some n) (hn2:n<=sizeLine) (hdf:d.params.defaults = []) (hr:mL k callerA)
  (hY:∀ (w:World) (h:Heap),YP w h->(K w.params).In h)
  (F:∀ (w:World) (mg:Str->Option Value) (fa:Addr) (h:Heap),(K w.params).In h->h.Ns mainGlobals mg->mg d.name=some (.ref fa)->
   ∃ fd:FuncData,(∀ (s:Shared) (u:Value),BindsTo s fd ⟨[u],[]⟩ [(x,u)])/\
    ∀ base:Heap,(K w.params).In base->base.Ns mainGlobals mg->fV l.prog w (K w.params) mg base (CX w) k fa fd [x] (sp w))
  (hsp:∀ (w:World) (H:Hp) (a:Addr) (ns:List Int),ns.length<=n->Jo H->SqL (K w.params) H a (ns.map V.int)->sp w [.ref a] H (λv _=>v = .bl true) λ_ _ _=>False)
  (hCX:∀ (w:World) (H:Hp) (s:Shared) (e:Value) (s':Shared),CX w [] H s (λ_ _ _=>False) e s'->False):
  PySem.W.WalkO q loose XP YP l.row.toRowW d [] (λf vs=>PySem.call f vs):=by
 refine Att.Ae hn hdf λw s₀ s₁ mg mb fa o pm cd doc a vs ns G Y ho hd hcd hmg IY hints hlen hg=>?_
 have KX:=hY w _ Y
 obtain⟨fd,hb,hF⟩:=F w mg fa _ KX G.T.g hmg
 exact EY KX G.T.g G.T.b G.T.builtins G.T.nolimit hg IY hints (bF hlen hn2) hr hF hb (λH hO hS=>hsp w H a ns hlen hO hS) λH e s'=>hCX w H s₁ e s'
def mS (s:Stmt):Arguments:=match s with
 |.FunctionDef _ a _ _ _ _ _ _ _ _=>a
 |_=>{posonlyargs:=[],args:=[],vararg:=none,kwonlyargs:=[],kw_defaults:=[],kwarg:=none,defaults:=[]}
def ll (s:Stmt):List Stmt:=match s with
 |.FunctionDef _ _ b _ _ _ _ _ _ _=>b
 |_=>[]
def fJ (s:Stmt):Scope:=match s with
 |.FunctionDef _ _ _ _ _ _ sc _ _ _=>sc
 |_=>{kind:=.function,names:=[],isGenerator:=false,isCoroutine:=false}
abbrev CX0:CXT:=λ_ _ _ _ _ _=>False
abbrev E0:XK:=λ_ _ _=>False
theorem gu {X:Cx} :Passes CX0 X E0:=λ_ _ _ _ _ _ _ h=>h.elim
structure Fun (K:PySem.W.Frag)(x qual:Str)(st:Stmt)(f:Addr)(fd:FuncData):Prop where
 ex:∃ (oc:Value) (od:Option Addr) (kV doc pm:Value) (an:Option Addr) (cdv ct:Value) (osl:Array (Option Value)),
  fd=PySem.W.fnOf x qual (mS st) (ll st) (fJ st) .none kV doc pm an cdv ct/\K.lookup f=some ⟨oc,od,.func fd,osl⟩/\PySem.W.codeIn K cdv qual=true
 kp:PySem.W.keepIn K (.ref f)=true
section
variable {P:Program}{w:World}{K:PySem.W.Frag}{mg:Str->Option Value}{base:Heap}
theorem Fun.ok {x qual:Str}{st:Stmt}{f:Addr}{fd:FuncData}{N ps:List Str}{k:Nat}{sp:Sp}(F:Fun K x qual st f fd)(S:gj N ps (fJ st))(len:∀ vs H Q E,sp vs H Q E->vs.length=ps.length)
  (zJ:∀ (cdv:Value) (A:Around) (outer:List Env) (s:Shared) (H:Hp) (vs:List V) (Q:VK) (E:XK),mL k (A.deeper (envOfC qual (fJ st) s.heap.objs.size f cdv))->sp vs H Q E->
   ∃ t,PSs (yo CX0 P w K mg base N qual (fJ st) f cdv A outer s H E).nox (ll st) t/\t {nx:=λ_ H'=>Q .non H',rt:=Q} (start N vs) H):fV P w K mg base CX0 (k+1) f fd ps sp:=by
 obtain⟨oc,od,kV,doc,pm,an,cdv,ct,osl,rfl,lk,hcd⟩:=F.ex
 refine Hr lk hcd S len λA outer s H vs Q E hr hsp=>?_
 obtain⟨t,h,q⟩:=zJ cdv A outer s H vs Q E hr hsp
 exact⟨t,h.nox,q⟩
theorem Fun.binds {x qual:Str}{st:Stmt}{f:Addr}{fd:FuncData}{ps:List Str}(F:Fun K x qual st f fd)
  (h:∀ (kV doc pm:Value) (an:Option Addr) (cdv ct:Value) (us:List Value),us.length=ps.length->bindArgs (PySem.W.fnOf x qual (mS st) (ll st) (fJ st) .none kV doc pm an cdv ct) ⟨us,[]⟩=pure (ps.zip us)):Binds K fd ps []:=by
 obtain⟨oc,od,kV,doc,pm,an,cdv,ct,osl,rfl,lk,hcd⟩:=F.ex
 exact .all (h kV doc pm an cdv ct)
theorem Fj {x qual:Str}{st:Stmt}{f:Addr}{oc:Value}{od an:Option Addr}{osl:Array (Option Value)}{kV doc pm cdv ct:Value}(l:K.lookup f=some ⟨oc,od,.func (PySem.W.fnOf x qual (mS st) (ll st) (fJ st) .none kV doc pm an cdv ct),osl⟩)
  (c:PySem.W.codeIn K cdv qual=true) (k:PySem.W.keepIn K (.ref f)=true):Fun K x qual st f (PySem.W.fnOf x qual (mS st) (ll st) (fJ st) .none kV doc pm an cdv ct):=⟨⟨oc,od,kV,doc,pm,an,cdv,ct,osl,rfl,l,c⟩,k⟩
end
theorem jI {A:Around}{k:Nat}(hr:mL k A):A.units+1<cLine:=bY (Nat.add_le_add_left (by decide:1<=64) _) hr.units
section
variable {X:Cx}
theorem pv (i:Nat){x:Str}{pos:Pos}(hN:X.N[i]? = some x:=by rfl)(hv:Vis X.env.scope x:=by first |exact Or.inl rfl |exact Or.inr (Or.inl rfl)|exact Or.inr (Or.inr rfl))(hd:(x==("__debug__" :Str))=false:=by decide)
  (hcd:(x==("__classdict__" :Str))=false:=by decide):PE X (.Name x pos) (JD i):=Ie hN hv hd hcd
end
theorem kB {A B:Prop}(h:B):if false=true then A else B:=by
 rw[aE aD]
 exact h
theorem vg {A B:Prop}(h:A):if true=true then A else B:=by
 rw[aJ rfl]
 exact h
theorem gT {c A B:Prop} [Decidable c] (h1:c->A)(h2:¬c->B):if c then A else B:=by
 by_cases h:c
 ·rw[aJ h]
  exact h1 h
 ·rw[aE h]
  exact h2 h
def fI (H H':Hp):Prop:=∀ b o,H b=some o->H' b=some o
theorem fI.refl (H:Hp):fI H H:=λ_ _ h=>h
theorem fI.trans {H H1 H2:Hp}(a:fI H H1)(b:fI H1 H2):fI H H2:=λc o h=>b c o (a c o h)
theorem fI.free {H H':Hp}(e:fI H H'){l:Addr}(h:H' l=Option.none):H l=Option.none:=by
 cases q:H l with
 |none=>rfl
 |some o=>
  rw[e l o q]at h
  cases h
theorem fI.seq {K:PySem.W.Frag}{H H':Hp}{a:Addr}{xs:List V}(e:fI H H')(h:SqL K H a xs):SqL K H' a xs:=by
 rcases h with(h |⟨o,h⟩)|h
 ·exact .inl (.inl (e _ _ h))
 ·exact .inl (.inr ⟨o,e _ _ h⟩)
 ·exact .inr h
section
variable {κ:Type} [DecidableEq κ]
def jK (kvs:List (κ×V))(k:κ):Option V:=(kvs.find? λkv=>decide (kv.1=k)).map (·.2)
def putK (kvs:List (κ×V))(k:κ)(v:V):List (κ×V):=
 if(kvs.any λkv=>decide (kv.1=k))=true then kvs.map (λkv=>if kv.1=k then(kv.1,v)else kv)else kvs ++ [(k,v)]
theorem tV {p:κ×V}{r:List (κ×V)}{k:κ}(e:p.1=k):jK (p::r) k=some p.2:=by simp[jK,cm,e]
theorem tW {p:κ×V}{r:List (κ×V)}{k:κ}(e:¬p.1=k):jK (p::r) k=jK r k:=by simp[jK,cm,e]
theorem qL (k:κ):∀ kvs:List (κ×V),(kvs.any λkv=>decide (kv.1=k))=(jK kvs k).isSome
 |[]=>rfl
 |p::r=>by
  rw[List.any_cons]
  by_cases e:p.1=k
  ·simp only[tV e,bA e,Bool.true_or,Option.isSome_some]
  ·rw[tW e,aU e,Bool.false_or];exact qL k r
theorem oT (kvs:List (κ×V))(k:κ)(v:V):(putK kvs k v).length<=kvs.length+1:=by
 unfold putK
 split
 ·rw[aa];omega
 ·rw[ak,aR,eU];omega
theorem oN {kvs:List (κ×V)}{k:κ}(v:V)(h:jK kvs k=none):putK kvs k v=kvs ++ [(k,v)]:=by
 unfold putK
 rw[qL,h]
 exact aE (by decide)
theorem qC.nH {o:Option V}{u:Option Value}(r:qC o u):o.isSome=u.isSome:=by
 cases o with
 |none=>cases u with
  |none=>rfl
  |some _=>exact(show False from r).elim
 |some _=>cases u with
  |none=>exact(show False from r).elim
  |some _=>rfl
theorem qC.getD {o:Option V}{u:Option Value}{d:V}{d':Value}(r:qC o u)(rd:RelV d d'):RelV (o.getD d) (u.getD d'):=by
 cases o with
 |none=>cases u with
  |none=>exact rd
  |some _=>exact(show False from r).elim
 |some _=>cases u with
  |none=>exact(show False from r).elim
  |some _=>exact r
theorem KV.val {kvs:List (κ×V)}{vs:List (κ×Value)}(r:KV kvs vs)(k:κ):qC (jK kvs k) (valueAt vs k):=by
 unfold KV at r
 induction r with
 |nil=>exact True.intro
 |@cons p q ps qs h t ih=>
  obtain⟨h1,h2⟩:=h
  by_cases e:p.1=k
  ·have e':q.1=k:=h1.symm.trans e
   have b:valueAt (q::qs) k=some q.2:=by simp[valueAt,cm,e']
   rw[tV e,b];exact h2
  ·have e':¬q.1=k:=λz=>e (h1.trans z)
   have b:valueAt (q::qs) k=valueAt qs k:=by simp[valueAt,cm,e']
   rw[tW e,b];exact ih
theorem KV.any {kvs:List (κ×V)}{vs:List (κ×Value)}(r:KV kvs vs)(k:κ):(kvs.any λkv=>decide (kv.1=k))=vs.any λkv=>decide (kv.1=k):=by
 unfold KV at r
 induction r with
 |nil=>rfl
 |cons h t ih=>rw[List.any_cons,List.any_cons,ih,h.1]
theorem KV.Ed {kvs:List (κ×V)}{vs:List (κ×Value)}(r:KV kvs vs)(k:κ){y:V}{u:Value}(ry:RelV y u):
  KV (kvs.map λkv=>if kv.1=k then(kv.1,y)else kv) (vs.map λkv=>if kv.1=k then(kv.1,u)else kv):=by
 unfold KV at r ⊢
 induction r with
 |nil=>exact .nil
 |@cons p q ps qs h t ih=>
  rw[bg,bg]
  refine .cons ?_ ih
  obtain⟨h1,h2⟩:=h
  by_cases e:p.1=k
  ·rw[aJ e,aJ (h1.symm.trans e)];exact⟨h1,ry⟩
  ·rw[aE e,aE (λz=>e (h1.trans z))];exact⟨h1,h2⟩
theorem KV.put {kvs:List (κ×V)}{vs:List (κ×Value)}(r:KV kvs vs)(k:κ){y:V}{u:Value}(ry:RelV y u):KV (putK kvs k y) (stored vs k u):=by
 unfold putK stored
 rw[r.any k]
 by_cases e:(vs.any λkv=>decide (kv.1=k))=true
 ·rw[aJ e,aJ e];exact r.Ed k ry
 ·rw[aE e,aE e];exact Paired.snoc r ⟨rfl,ry⟩
theorem KV.length {kvs:List (κ×V)}{vs:List (κ×Value)}(r:KV kvs vs):kvs.length=vs.length:=bZ r
end
theorem oC {P:Program}{w:World}{k:Key}{u:Value}(r:RelV (kV k) u):(gF P w).is k u=true:=by
 cases k with
 |inl i=>obtain⟨t,e⟩:=(show ∃ t,u=Value.int i t from r);subst e;exact zx P w i t
 |inr x=>obtain⟨t,e⟩:=(show ∃ t,u=Value.str x t from r);subst e;exact zw P w x t
theorem sk {P:Program}{w:World} :∀ {ks:List Key}{us:List Value},Vals (ks.map kV) us->ItemsAre (gF P w) ks us
 |[],_,r=>by rw[List.map_nil]at r;cases r;exact .nil
 |k::ks,_,r=>by
  rw[bg]at r
  cases r with
  |cons h t=>exact .cons (oC h) (sk t)
abbrev KT (H:Hp):List (List Key×V)->List (List Key×Addr×Value)->Prop:=Paired λp q=>p.1=q.1/\H q.2.1=some (.tup (p.1.map kV))/\RelV p.2 q.2.2
theorem KT.val {H:Hp}{kvs:List (List Key×V)}{xs:List (List Key×Addr×Value)}(r:KT H kvs xs)(k:List Key):qC (jK kvs k) ((atKey xs k).map (·.2)):=by
 induction r with
 |nil=>exact True.intro
 |@cons p q ps qs h t ih=>
  obtain⟨h1,_,h2⟩:=h
  by_cases e:p.1=k
  ·have e':q.1=k:=h1.symm.trans e
   have b:atKey (q::qs) k=some q.2:=by simp[atKey,cm,e']
   rw[tV e,b];exact h2
  ·have e':¬q.1=k:=λz=>e (h1.trans z)
   have b:atKey (q::qs) k=atKey qs k:=by simp[atKey,cm,e']
   rw[tW e,b];exact ih
theorem KT.Ed {H:Hp}{kvs:List (List Key×V)}{xs:List (List Key×Addr×Value)}(r:KT H kvs xs)(k:List Key){y:V}{u:Value}(ry:RelV y u):
  KT H (kvs.map λkv=>if kv.1=k then(kv.1,y)else kv) (xs.map (putAt k u)):=by
 induction r with
 |nil=>exact .nil
 |@cons p q ps qs h t ih=>
  rw[bg,bg]
  refine .cons ?_ ih
  obtain⟨h1,h2,h3⟩:=h
  unfold putAt
  by_cases e:p.1=k
  ·rw[aJ e,aJ (h1.symm.trans e)];exact⟨h1,h2,ry⟩
  ·rw[aE e,aE (λz=>e (h1.trans z))];exact⟨h1,h2,h3⟩
theorem KT.put {H:Hp}{kvs:List (List Key×V)}{xs:List (List Key×Addr×Value)}(r:KT H kvs xs)(k:List Key){b:Addr}{y:V}{u:Value}(hb:H b=some (.tup (k.map kV)))(ry:RelV y u):
  KT H (putK kvs k y) (storedH xs k b u):=by
 have e:(kvs.any λkv=>decide (kv.1=k))=(atKey xs k).isSome:=by
  rw[qL,(r.val k).nH,fj]
 unfold putK storedH
 rw[e]
 by_cases q:(atKey xs k).isSome=true
 ·rw[aJ q,aJ q];exact r.Ed k ry
 ·rw[aE q,aE q];exact Paired.snoc r ⟨rfl,hb,ry⟩
theorem KT.keeps {H H':Hp}{kvs:List (List Key×V)}{xs:List (List Key×Addr×Value)}(r:KT H kvs xs)(ht:∀ b ys,H b=some (.tup ys)->H' b=some (.tup ys)):KT H' kvs xs:=
 Paired.IA r λ_ _ z=>⟨z.1,ht _ _ z.2.1,z.2.2⟩
section
variable {P:Program}{w:World}{H:Hp}{h:Heap}{a:Addr}
theorem Hg {u:HO}(ok:HOk P w H h)(e:Rd H a u):iA P w H h a u:=e.ok ok
theorem xi {kvs:List (Key×V)}(ok:HOk P w H h)(e:Rd H a (.dK kvs)):kvs.length<=sizeLine/\(a==sysModules)=false/\∃ vs,KV kvs vs/\h.DictOf (gF P w) a vs:=
 show iA P w H h a (.dK kvs) from Hg ok e
theorem Lq {kvs:List (Key×V)}(ok:HOk P w H h)(e:H a=some (.dK kvs)):kvs.length<=sizeLine/\(a==sysModules)=false/\∃ vs,KV kvs vs/\h.DictOf (gF P w) a vs:=xi ok (.inl e)
theorem qz {ks:List Key}(ok:HOk P w H h)(e:H a=some (.tup (ks.map kV))):(tupleKind (gF P w)).is h ks a:=by
 obtain⟨_,its,r,o,h1,h2,n,h3⟩:=(show iA P w H h a (.tup (ks.map kV)) from ok a _ e)
 exact⟨o,its.toArray,n,h1,h2,h3,by simpa using sk r⟩
theorem xh {kvs:List (List Key×V)}(ok:HOk P w H h)(e:Rd H a (.dT kvs)):kvs.length<=sizeLine/\(a==sysModules)=false/\
  ∃ xs,KT H kvs xs/\h.DictOfH (tupleKind (gF P w)) a xs:=by
 obtain⟨z,y,xs,r,o,es,ep,h1,h2,h3,h4,h5⟩:=(show iA P w H h a (.dT kvs) from Hg ok e)
 refine⟨z,y,xs,r,o,es,ep,h1,h2,h3,h4,λx hx=>?_,h5⟩
 have all:∀ {l:List (List Key×V)}{m:List (List Key×Addr×Value)},KT H l m->∀ x∈m,(tupleKind (gF P w)).is h x.1 x.2.1:=by
  intro l m q
  induction q with
  |nil=>intro x hx;exact nomatch hx
  |@cons p q ps qs hq t ih=>
   intro x hx
   rcases aG.mp hx with e |hx
   ·subst e
    exact qz ok (by rw[<-hq.1];exact hq.2.1)
   ·exact ih x hx
 exact all r x hx
theorem Fp {kvs:List (List Key×V)}(ok:HOk P w H h)(e:H a=some (.dT kvs)):kvs.length<=sizeLine/\(a==sysModules)=false/\
  ∃ xs,KT H kvs xs/\h.DictOfH (tupleKind (gF P w)) a xs:=xh ok (.inl e)
end
def pF (H:Hp)(a:Addr)(y:V)(r:Option V):Prop:=
 (∃ kvs k,Rd H a (.dK kvs)/\y=kV k/\r=jK kvs k)\/∃ kvs k b,Rd H a (.dT kvs)/\y = .ref b/\H b=some (.tup (k.map kV))/\r=jK kvs k
def Ah (H:Hp)(a:Addr)(y v:V)(H':Hp):Prop:=
 (∃ kvs k,H a=some (.dK kvs)/\y=kV k/\kvs.length<sizeLine/\H'=upd H a (.dK (putK kvs k v)))\/
 ∃ kvs k b,H a=some (.dT kvs)/\y = .ref b/\H b=some (.tup (k.map kV))/\kvs.length<sizeLine/\H'=upd H a (.dT (putK kvs k v))
theorem pF.t {H:Hp}{a b:Addr}{kvs:List (List Key×V)}{k:List Key}(e:H a=some (.dT kvs))(eb:H b=some (.tup (k.map kV))):pF H a (.ref b) (jK kvs k):=.inr ⟨kvs,k,b,.inl e,rfl,eb,rfl⟩
theorem Ah.t {H:Hp}{a b:Addr}{kvs:List (List Key×V)}{k:List Key}{v:V}(e:H a=some (.dT kvs))(eb:H b=some (.tup (k.map kV)))(hl:kvs.length<sizeLine):
  Ah H a (.ref b) v (upd H a (.dT (putK kvs k v))):=.inr ⟨kvs,k,b,e,rfl,eb,hl,rfl⟩
section
variable {X:Cx}{pins:List (Addr×Obj)}{σ:St}{H:Hp}{s:Shared}{a:Addr}{y v:V}{u r:Value}{o:Option V}{A:Around}{E:Value->Shared->Prop}
theorem Inv.big (I:Inv X pins σ H s):sysModules<s.heap.objs.size:=by
 have h:mainGlobals<s.heap.objs.size:=(I.mod.glob.keeps I.bk).lt
 exact Nat.lt_trans (by decide) h
theorem Dz {Q:Value->Shared->Prop}(hu:A.units+1<cLine)(I:Inv X pins σ H s)(g:pF H a y (some v))(ry:RelV y u)(h:∀ w' s',Inv X pins σ H s'->RelV v w'->Q w' s'):
  wpAny (model X.prog X.w) A (getItem (.ref a) u) Q E s:=by
 rcases g with⟨kvs,k,e,ey,l⟩|⟨kvs,k,b,e,ey,eb,l⟩
 ·subst ey
  obtain⟨z,hd,vs,rel,dd⟩:=xi I.hok e
  obtain⟨w',hw,rw'⟩:=qC.some_of (v:=v) (o:=valueAt vs k) (by rw[l];exact rel.val k)
  exact wpAny_getItem_of (oC ry) dd.mapOf hw (h w' _ (I.tok _) rw')
 ·subst ey
  cases(show u=Value.ref b from ry)
  obtain⟨z,hd,xs,rel,dd⟩:=xh I.hok e
  obtain⟨w',hw,rw'⟩:=qC.some_of (v:=v) (o:=(atKey xs k).map (·.2)) (by rw[l];exact rel.val k)
  obtain⟨p,hp,hp2⟩:=Option.map_eq_some_iff.mp hw
  refine wpAny_getItem_heap (eA hu) (qz I.hok eb) dd hp ?_
  rw[hp2]
  exact h w' _ (I.tok _) rw'
theorem GX {Q:Value->Shared->Prop}(hu:A.units+1<cLine)(I:Inv X pins σ H s)(g:pF H a y o)(ry:RelV y u)(h:∀ s',Inv X pins σ H s'->Q (.bool (!o.isSome)) s'):
  wpAny (model X.prog X.w) A (compareOp .NotIn u (.ref a)) Q E s:=by
 rcases g with⟨kvs,k,e,ey,l⟩|⟨kvs,k,b,e,ey,eb,l⟩
 ·subst ey
  obtain⟨z,hd,vs,rel,dd⟩:=xi I.hok e
  refine wpAny_notIn_of (oC ry) hd dd.mapOf ?_
  rw[<-(rel.val k).nH,<-l]
  exact h _ (I.tok _)
 ·subst ey
  cases(show u=Value.ref b from ry)
  obtain⟨z,hd,xs,rel,dd⟩:=xh I.hok e
  refine wpAny_notIn_heap (eA hu) (qz I.hok eb) hd dd ?_
  have q:=(rel.val k).nH
  rw[fj]at q
  rw[<-q,<-l]
  exact h _ (I.tok _)
theorem rC {h':Heap}{t':Nat}{ob:HO}(I:Inv X pins σ H s)(mu:Mut (H a))(hs:Heap.SameBut a s.heap h')(he:∃ q,h'.get? a=some q)(new:iA X.prog X.w (upd H a ob) h' a ob):
  Inv X pins σ (upd H a ob) {s with heap:=h',toks:=t'} :=
 I.write (x:=a) (e:=a) mu (.inl rfl) (λb q hb z=>(hs.2 b hb).trans z) he new
theorem Ji {P:Program}{w:World}{H':Hp}{h':Heap}{kvs:List (Key×V)}{vs:List (Key×Value)}(z:kvs.length<=sizeLine)(hd:(a==sysModules)=false)(rel:KV kvs vs)(dd:h'.DictOf (gF P w) a vs):
  iA P w H' h' a (.dK kvs):=⟨z,hd,vs,rel,dd⟩
theorem Dy {H':Hp}{Q:Unit->Shared->Prop}(hu:A.units+1<cLine)(I:Inv X pins σ H s)(g:Ah H a y v H')(ry:RelV y u)(rv:RelV v r)(h:∀ s',Inv X pins σ H' s'->Q () s'):
  wpAny (model X.prog X.w) A (setItem (.ref a) u r) Q E s:=by
 rcases g with⟨kvs,k,e,ey,l,eH⟩|⟨kvs,k,b,e,ey,eb,l,eH⟩
 ·subst ey eH
  obtain⟨z,hd,vs,rel,dd⟩:=Lq I.hok e
  have hz:vs.length<=sizeLine:=by rw[<-rel.length];exact z
  have hl:(putK kvs k v).length<=sizeLine:=by have:=oT kvs k v;omega
  refine wpAny_setItem_pairs (hsz:=hz) (oC ry) dd λh' dd' hs=>h _ ?_
  have he:∃ q,h'.get? a=some q:=let ⟨q,_,_,hq,_⟩:=dd';⟨q,hq⟩
  exact rC I (by rw[e];exact True.intro) hs he (Ji hl hd (rel.put k rv) dd')
 ·subst ey eH
  cases(show u=Value.ref b from ry)
  obtain⟨z,hd,xs,rel,dd⟩:=Fp I.hok e
  have hz:xs.length<=sizeLine:=by rw[<-bZ rel];exact z
  have hl:(putK kvs k v).length<=sizeLine:=by have:=oT kvs k v;omega
  refine wpAny_setItem_heap (hsz:=hz) (eA hu) (qz I.hok eb) dd λh' dd' hs=>h _ ?_
  obtain⟨q,es,ep,hq,h2,h3,h4,_,h5⟩:=dd'
  refine rC I (by rw[e];exact True.intro) hs ⟨q,hq⟩ ⟨hl,hd,_,(rel.put k eb rv).keeps λc ys ec=>?_,q,es,ep,hq,h2,h3,h4,h5⟩
  rw[fG (gA ec e (λz=>nomatch z))]
  exact ec
end
section
variable {X:Cx}{pins:List (Addr×Obj)}{σ:St}{H:Hp}{s:Shared}{a:Addr}{kvs:List (Key×V)}{k:Key}{u:Value}{A:Around}{E:Value->Shared->Prop}
end
def FQ (i:Expr):Prop:=∀ ov iv,subscripted i false ov iv=operate [ov,iv] (getItem ov iv)
theorem xy {prog:Program}{w:World}{A:Around}{E:Value->Shared->Prop}{s:Shared}{env:Env}{value slice:Expr}{pos:Pos}{T id:String}{Q:Value->Shared->Prop}
  (hl:typeLookup (.type T) "__getitem__" = pure (some (.builtin id))) (hs:FQ slice)
  (h:wpAny (model prog w) A (eval value env) (λo s₁=>wpAny (model prog w) A (eval slice env) (λi s₂=>s₂.TypeIs o T/\wpAny (model prog w) A (getItem o i) Q E s₂) E s₁) E s):
  wpAny (model prog w) A (eval (.Subscript value slice pos) env) Q E s:=by
 refine Subscript_ (bo h (λo s₁ h₁=>bo h₁ (λi s₂ h₂=>?_) λ_ _ x=>x) λ_ _ x=>x)
 obtain⟨hT,h₂⟩:=h₂
 unfold subscriptTail
 refine ae ?_
 rw[getitemInPython_of_ne hT.not_modules]
 refine ae (eh hT hl ?_)
 have fin:wpAny (model prog w) A (subscripted slice false o i) (λr s₃=>wpAny (model prog w) A (letTemporaryGo value o r >>= λ_=>pure r) Q E s₃) E s₂:=by
  rw[hs o i]
  exact wpAny_operating (bo h₂ (λr s₃ h₃=>ae (wpAny_letTemporaryGo (ai h₃))) λ_ _ x=>x)
 first
  |exact ai (ae fin)
  |exact ae (ai (ae fin))
  |exact ae fin
theorem zQ {X:Cx}{pins:List (Addr×Obj)}{σ:St}{H:Hp}{s:Shared}{a:Addr}{y:V}{o:Option V}(I:Inv X pins σ H s)(g:pF H a y o):s.TypeIs (.ref a) "dict" :=by
 rcases g with⟨kvs,k,e,_,_⟩|⟨kvs,k,b,e,_,_,_⟩
 ·obtain⟨_,_,vs,_,dd⟩:=xi I.hok e
  exact dd.typeIs
 ·obtain⟨_,_,xs,_,dd⟩:=xh I.hok e
  exact dd.typeIs
def JL (td ty:TE):TE:=λσ H Q=>td σ H λx H1=>ty σ H1 λy H2=>∃ a v,x = .ref a/\pF H2 a y (some v)/\Q v H2
def F9 (ty td:TE):TE:=λσ H Q=>ty σ H λy H1=>td σ H1 λx H2=>∃ a o,x = .ref a/\pF H2 a y o/\Q (.bl (!o.isSome)) H2
def JU (td ty tv:TE):TS:=λD σ H=>tv σ H λv H1=>td σ H1 λx H2=>ty σ H2 λy H3=>∃ a H4,x = .ref a/\Ah H3 a y v H4/\D.nx σ H4
section
variable {X:Cx}{o i e value:Expr}{pos pos' JB:Pos}{td ty tv:TE}
theorem lg (hu:X.A.units+1<cLine)(ho:PE X o td)(hi:PE X i ty)(hs:FQ i):PE X (.Subscript o i pos) (JL td ty):=by
 intro pins s σ H Q I h
 refine xy fe.lookup hs (thn (ho pins s σ H _ I h) λu s1 ⟨x,H1,I1,rx,q1⟩=>thn (hi pins s1 σ H1 _ I1 q1) λiv s2 ⟨y,H2,I2,ry,a,v,ex,g,q2⟩=>?_)
 subst ex
 obtain rfl:u=Value.ref a:=rx
 exact⟨zQ I2 g,Dz hu I2 g ry λw' s3 I3 rw'=>⟨v,H2,I3,rw',q2⟩⟩
theorem pT (hu:X.A.units+1<cLine)(hi:PE X i ty)(ho:PE X o td):PC X .NotIn i o (F9 ty td):=by
 intro pins s σ H Q I h
 refine thn (hi pins s σ H _ I h) λiv s1 ⟨y,H1,I1,ry,q1⟩=>thn (ho pins s1 σ H1 _ I1 q1) λu s2 ⟨x,H2,I2,rx,a,ov,ex,g,q2⟩=>?_
 subst ex
 obtain rfl:u=Value.ref a:=rx
 exact GX hu I2 g ry λs3 I3=>⟨.bl (!ov.isSome),H2,I3,rfl,q2⟩
theorem tK (hu:X.A.units+1<cLine)(ho:PE X o td)(hi:PE X i ty)(hv:PE X value tv)(hs:swapsWith value (some (.Subscript o i pos')) pos.line X.env=pure false):
  PS X (.Assign [.Subscript o i pos'] value pos) (JU td ty tv):=by
 intro pins s σ H D I h
 refine wpAny_Assign_Subscript (thn (hv pins s σ H _ I h) λr s1 ⟨v,H1,I1,rv,q1⟩=>thn (ho pins s1 σ H1 _ I1 q1) λu s2 ⟨x,H2,I2,rx,q2⟩=>thn (hi pins s2 σ H2 _ I2 q2) λiv s3 ⟨y,H3,I3,ry,a,H4,ex,g,q3⟩=>?_) hs
 subst ex
 obtain rfl:u=Value.ref a:=rx
 exact Dy hu I3 g ry rv λs4 I4=>⟨σ,H4,I4,q3⟩
end
theorem vJ {P:Program}{w:World}{H:Hp}(h:Heap)(hb:sysModules<h.objs.size):iA P w H (h.push {cls:=.type "dict",data:=.dict #[]}) h.objs.size (.dT []):=
 ⟨aK _,eV.mpr (bI (aL hb)),[],.nil,_,#[],0,aQ _ rfl,⟨rfl,rfl,rfl⟩,rfl,rfl,cH⟩
def HL:TE:=λ_ H Q=>∀ p,H p=none->Q (.ref p) (upd H p (.dT []))
section
variable {X:Cx}{pos:Pos}
theorem zf:PE X (.Dict [] [] pos) HL:=λpins s σ H Q I h=>
 wpAny_Dict_empty ⟨.ref s.heap.objs.size,_,I.laid (a:=s.heap.objs.size) (o:=.dT []) (t':=s.toks) (λ_ _ q=>ax _ q) (au _) (vJ s.heap I.big),rfl,h _ (I.hok.fresh (au _))⟩
end
def Al:List (TE×TE)->St->Hp->(List (V×V)->Hp->Prop)->Prop
 |[],_,H,Q=>Q [] H
 |(tk,tv)::r,σ,H,Q=>tk σ H λx H1=>tv σ H1 λy H2=>Al r σ H2 λps H3=>Q ((x,y)::ps) H3
abbrev VV:List (V×V)->List (Value×Value)->Prop:=Paired λp q=>RelV p.1 q.1/\RelV p.2 q.2
def PPs (X:Cx)(pos:Pos)(keys:List (Option Expr))(values:List Expr)(trs:List (TE×TE)):Prop:=
 ∀ (pins:List (Addr×Obj)) (s:Shared) (σ:St) (H:Hp) (Q:List (V×V)->Hp->Prop),Inv X pins σ H s->Al trs σ H Q->
  wpAny (model X.prog X.w) X.A (evalPairs (pairTrees keys values X.env pos)) (λvs s'=>∃ ps H',Inv X pins σ H' s'/\VV ps vs/\Q ps H') X.xe s
theorem Gj {X:Cx}{pos:Pos} :PPs X pos [] [] []:=λpins s σ H Q I h=>pairTrees_nil_walk ⟨[],H,I,.nil,h⟩
theorem Ej {X:Cx}{pos:Pos}{k v:Expr}{ks:List (Option Expr)}{vs:List Expr}{tk tv:TE}{trs:List (TE×TE)}(hk:PE X k tk)(hv:PE X v tv)(hr:PPs X pos ks vs trs):
  PPs X pos (some k::ks) (v::vs) ((tk,tv)::trs):=λpins s σ H Q I h=>
 pairTrees_cons_walk (thn (hk pins s σ H _ I h) λu s1 ⟨x,H1,I1,rx,q1⟩=>thn (hv pins s1 σ H1 _ I1 q1) λw2 s2 ⟨y,H2,I2,ry,q2⟩=>
  thn (hr pins s2 σ H2 _ I2 q2) λws s3 ⟨ps,H3,I3,rel,q3⟩=>⟨(x,y)::ps,H3,I3,.cons ⟨rx,ry⟩ rel,q3⟩)
structure M1 (X:Cx)(o:Expr)(m:Str)(apos:Pos)(e:Expr)(kE:Pos):Prop where
 base:attributeBase o m X.env (eval o X.env)=eval o X.env
 few:((backTo kE (starEach [e] X.env)).all (λx=> !x.1)&&(backToKw kE (keywordEach [] X.env)).all (λx=>x.1.isSome)
  && decide (([e]:List Expr).length+([]:List Keyword).length+(if([]:List Keyword).isEmpty then 0 else 1)<30))=true
 line:(apos.endLine==kE.line)=true
 trees:backTo kE (starEach [e] X.env) = [(false,eval e X.env)]
def IsD (H:Hp)(a:Addr):Prop:=(∃ kvs,Rd H a (.dK kvs))\/∃ kvs,Rd H a (.dT kvs)
theorem IJ {X:Cx}{pins:List (Addr×Obj)}{σ:St}{H:Hp}{s:Shared}{a:Addr}(I:Inv X pins σ H s)(d:IsD H a):
  s.TypeIs (.ref a) "dict" /\(∀ b,Value.ref a = .ref b->∃ ob,s.heap.get? b=some ob/\ob.dict=none)/\(a==sysModules)=false:=by
 rcases d with⟨kvs,e⟩|⟨kvs,e⟩
 ·obtain⟨_,hd,vs,_,dd⟩:=xi I.hok e
  refine⟨dd.typeIs,λb q=>?_,hd⟩
  cases q
  obtain⟨ob,_,_,h1,h2,_⟩:=dd
  exact⟨ob,h1,h2.2.1⟩
 ·obtain⟨_,hd,xs,_,dd⟩:=xh I.hok e
  refine⟨dd.typeIs,λb q=>?_,hd⟩
  cases q
  obtain⟨ob,_,_,h1,h2,_⟩:=dd
  exact⟨ob,h1,h2.2.1⟩
section
variable {X:Cx}{pins:List (Addr×Obj)}{σ:St}{H:Hp}{s:Shared}{a:Addr}{y d:V}{u r:Value}{o:Option V}{A:Around}{E:Value->Shared->Prop}
theorem Jj {Q:Value->Shared->Prop}(hu:A.units+1<cLine)(I:Inv X pins σ H s)(g:pF H a y o)(ry:RelV y u)(h:∀ w' s',Inv X pins σ H s'->RelV (o.getD .non) w'->Q w' s'):
  wpAny (model X.prog X.w) A (call (.builtin "dict.get") [.ref a,u]) Q E s:=by
 rcases g with⟨kvs,k,e,ey,l⟩|⟨kvs,k,b,e,ey,eb,l⟩
 ·subst ey
  obtain⟨z,hd,vs,rel,dd⟩:=xi I.hok e
  refine call_meetsIn PySem.F.slot_dict_get dd.typeIs PySem.F.entry_dict_get (PySem.F.args_dict_get_2 _ _) (meets_dict_get (gF X.prog X.w) a (oC ry) hd) ⟨_,dd.mapOf,h _ _ (I.tok _) ?_⟩
  rw[l]
  exact(rel.val k).getD rfl
 ·subst ey
  cases(show u=Value.ref b from ry)
  obtain⟨z,hd,xs,rel,dd⟩:=xh I.hok e
  refine call_meetsIn PySem.F.slot_dict_get dd.typeIs PySem.F.entry_dict_get (PySem.F.args_dict_get_2 _ _) (meetsH_dict_get (tupleKind (gF X.prog X.w)) a b hd) ⟨eA hu,k,xs,qz I.hok eb,dd,h _ _ (I.tok _) ?_⟩
  rw[l]
  exact(rel.val k).getD rfl
end
def HM (td ty:TE):TE:=λσ H Q=>td σ H λx H1=>∃ a,x = .ref a/\IsD H1 a/\ty σ H1 λy H2=>∃ o,pF H2 a y o/\Q (o.getD .non) H2
section
variable {X:Cx}{o e f:Expr}{apos kE:Pos}{td ty tx:TE}
theorem Er (hu:X.A.units+1<cLine)(ho:PE X o td)(he:PE X e ty)(m:M1 X o "get" apos e kE):PE X (.Call (.Attribute o "get" apos) [e] [] kE) (HM td ty):=by
 intro pins s σ H Q I h
 refine wpAny_Call_method m.base m.few m.line PySem.F.plainAttrs_dict PySem.F.slot_dict_get PySem.F.type_dict_get (thn (ho pins s σ H _ I h) λu s1 ⟨x,H1,I1,rx,a,ex,d,q1⟩=>?_)
 subst ex
 obtain rfl:u=Value.ref a:=rx
 obtain⟨t1,t2,_⟩:=IJ I1 d
 refine⟨t1,t2,?_⟩
 rw[m.trees]
 refine eR rfl (Calls.evalArgs_plain (Calls.spliced_cons (thn (he pins s1 σ H1 _ I1 q1) λiv s2 ⟨y,H2,I2,ry,ov,g,q2⟩=>Calls.spliced_nil ?_)))
 exact Jj hu I2 g ry λw' s3 I3 rw'=>⟨_,H2,I3,rw',q2⟩
end
section
variable {X:Cx}{pins:List (Addr×Obj)}{σ:St}{H:Hp}{s:Shared}{a:Addr}{kvs:List (Key×V)}{A:Around}{E:Value->Shared->Prop}
end
section
variable {X:Cx}{pins:List (Addr×Obj)}{σ:St}{H:Hp}{s:Shared}{a:Addr}{y:V}{u:Value}{A:Around}{E:Value->Shared->Prop}
end
end L2
namespace TL
open PySem
theorem vE {α β:Type}{f:α->β->Sem (ForInStep β)}(P:List α->β->Prop)
  (step:∀ x l c,P (x::l) c->∃ c',f x c=pure (.yield c')/\P l c'):∀ (l:List α) (c:β),P l c->∃ c',forIn l c f=pure c'/\P [] c'
 |[],c,h=>⟨c,rfl,h⟩
 |x::l,c,h=>by
  obtain⟨c1,e,h1⟩:=step x l c h
  obtain⟨c2,e2,h2⟩:=vE P step l c1 h1
  refine⟨c2,?_,h2⟩
  rw[cK,e,pure_bind]
  exact e2
theorem kO {scope:Scope}{env:Env}(h:∀ y∈scope.names,y.2 = .free->∃ c,env.cells.lookup y.1=some c):
  ∃ cl,closureFor scope env=pure cl/\(∀ x c,cl.lookup x=some c->env.cells.lookup x=some c)/\(∀ y∈scope.names,y.2 = .free->∃ c,cl.lookup y.1=some c):=by
 let P:List (Str×NameKind)->List (Str×Addr)->Prop:=λl c=>(∀ y∈l,y.2 = .free->∃ c,env.cells.lookup y.1=some c)/\(∀ x a,c.lookup x=some a->env.cells.lookup x=some a)/\
  (∀ y∈scope.names,y.2 = .free->y∈l\/∃ a,c.lookup y.1=some a)
 simp only[closureFor]
 obtain⟨cl,e,_,h2,h3⟩:=vE (f:=λ(x:Str×NameKind) (r:List (Str×Addr))=>if(x.2==NameKind.free)=true then cellOf env x.1 >>= λc=>pure (ForInStep.yield ((x.1,c)::r))else pure (ForInStep.yield r)) P (by
  rintro⟨n,k⟩ l c ⟨p1,p2,p3⟩
  by_cases hk:k = .free
  ·subst hk
   obtain⟨a,ha⟩:=p1 _ aA rfl
   refine⟨(n,a)::c,?_,λy hy=>p1 y (aw _ hy),λx b hb=>?_,λy hy hf=>?_⟩
   ·have ha':env.cells.lookup n=some a:=ha
    simp[cellOf,ha']
   ·rw[bO]at hb
    by_cases hx:(x==n)=true
    ·rw[hx]at hb
     have e1:x=n:=by simpa using hx
     subst e1
     cases hb
     exact ha
    ·have hx':(x==n)=false:=by simpa using hx
     rw[hx']at hb
     exact p2 x b hb
   ·by_cases hx:(y.1==n)=true
    ·exact .inr ⟨a,by rw[bO,hx]⟩
    ·have hx':(y.1==n)=false:=by simpa using hx
     rcases p3 y hy hf with q |⟨b,q⟩
     ·rcases aG.mp q with q |q
      ·exact absurd (by rw[q];simp) hx
      ·exact .inl q
     ·exact .inr ⟨b,by rw[bO,hx'];exact q⟩
  ·refine⟨c,?_,λy hy=>p1 y (aw _ hy),p2,λy hy hf=>?_⟩
   ·have:(k==NameKind.free)=false:=by simpa using hk
    simp[this]
   ·rcases p3 y hy hf with q |q
    ·rcases aG.mp q with q |q
     ·subst q;exact absurd hf hk
     ·exact .inl q
    ·exact .inr q) scope.names [] ⟨h,λx a hx=>by simp at hx,λy hy _=>.inl hy⟩
 refine⟨cl,?_,h2,λy hy hf=>?_⟩
 ·refine Eq.trans ?_ (bL (λt:Sem (List (Str×Addr))=>t >>= λr=>pure r) e)
  rfl
 ·rcases h3 y hy hf with q |q
  ·cases q
  ·exact q
theorem lQ {env:Env} :∀ {names:List (Str×NameKind)}{x:Str},names.lookup x=some .free->
  (names.map λ(n,k)=>if(k==NameKind.free&&env.scope.kind == .function&&env.kindOf n==some .cell)then(n,NameKind.cell)else(n,k)).lookup x=some .cell\/
  (names.map λ(n,k)=>if(k==NameKind.free&&env.scope.kind == .function&&env.kindOf n==some .cell)then(n,NameKind.cell)else(n,k)).lookup x=some .free
 |[],_,h=>by simp at h
 |(n,k)::r,x,h=>by
  have ih:=@lQ env r x
  show List.lookup x ((if(k==NameKind.free&&env.scope.kind == .function&&env.kindOf n==some .cell)=true then(n,NameKind.cell)else(n,k))::_)=_\/List.lookup x ((if(k==NameKind.free&&env.scope.kind == .function&&env.kindOf n==some .cell)=true then(n,NameKind.cell)else(n,k))::_)=_
  cases hx:x==n with
  |true=>
   simp only[bO,hx]at h
   cases h
   by_cases hc:(NameKind.free==NameKind.free&&env.scope.kind == .function&&env.kindOf n==some .cell)=true
   ·rw[aJ hc];left;simp[bO,hx]
   ·rw[aE hc];right;simp[bO,hx]
  |false=>
   simp only[bO,hx]at h
   by_cases hc:(k==NameKind.free&&env.scope.kind == .function&&env.kindOf n==some .cell)=true
   ·rw[aJ hc];simp only[bO,hx];exact ih h
   ·rw[aE hc];simp only[bO,hx];exact ih h
theorem lF {env:Env} :∀ {names:List (Str×NameKind)}{x:Str},(∀ y∈names,y.2≠ .cell)->
  ((names.map λ(n,k)=>if(k==NameKind.free&&env.scope.kind == .function&&env.kindOf n==some .cell)then(n,NameKind.cell)else(n,k)).lookup x=some .cell\/
  (names.map λ(n,k)=>if(k==NameKind.free&&env.scope.kind == .function&&env.kindOf n==some .cell)then(n,NameKind.cell)else(n,k)).lookup x=some .free)->∃ y∈names,y.1=x/\y.2 = .free
 |[],_,_,h=>by simp at h
 |(n,k)::r,x,hn,h=>by
  have ih:=@lF env r x (λy hy=>hn y (aw _ hy))
  change List.lookup x ((if(k==NameKind.free&&env.scope.kind == .function&&env.kindOf n==some .cell)=true then(n,NameKind.cell)else(n,k))::_)=_\/List.lookup x ((if(k==NameKind.free&&env.scope.kind == .function&&env.kindOf n==some .cell)=true then(n,NameKind.cell)else(n,k))::_)=_ at h
  cases hx:x==n with
  |true=>
   have e:x=n:=by simpa using hx
   by_cases hc:(k==NameKind.free&&env.scope.kind == .function&&env.kindOf n==some .cell)=true
   ·have hk:k = .free:=by
     simp only[fz,beq_iff_eq]at hc
     exact hc.1.1
    exact⟨(n,k),aA,e.symm,hk⟩
   ·rw[aE hc]at h
    simp only[bO,hx]at h
    rcases h with h |h
    ·exact absurd (aP h) (hn (n,k) aA)
    ·exact⟨(n,k),aA,e.symm,aP h⟩
  |false=>
   have h':(r.map λ(n,k)=>if(k==NameKind.free&&env.scope.kind == .function&&env.kindOf n==some .cell)then(n,NameKind.cell)else(n,k)).lookup x=some .cell\/
     (r.map λ(n,k)=>if(k==NameKind.free&&env.scope.kind == .function&&env.kindOf n==some .cell)then(n,NameKind.cell)else(n,k)).lookup x=some .free:=by
    by_cases hc:(k==NameKind.free&&env.scope.kind == .function&&env.kindOf n==some .cell)=true
    ·rw[aJ hc]at h;simpa only[bO,hx]using h
    ·rw[aE hc]at h;simpa only[bO,hx]using h
   obtain⟨y,hy,e⟩:=ih h'
   exact⟨y,aw _ hy,e⟩
section
variable {prog:Program}{w:World}{A:Around}{R:Result->Shared->Prop}{s:Shared}
abbrev tI (ifs:List Expr)(env:Env):Sem Bool:=forIn ifs true λc r=>if r=true then do let ok <-isTrue c env (eval c env);pure (ForInStep.yield ok)else pure (ForInStep.yield r)
theorem zV {elt target iter:Expr}{ifs:List Expr}{scope:Scope}{pos:Pos}{it acc:Value}{env:Env}(I:Nat->Shared->Prop)
  (turn:∀ n s,I n s->wpAny (model prog w) A (pyNext it) (λr s₁=>match r with
   |none=>R (.ok .next) s₁
   |some v=>wpAny (model prog w) A (letOwnedTupleGo target it v) (λ_ s₀=>wpAny (model prog w) A (assign target env v) (λ_ s₂=>
     wpAny (model prog w) A (tI ifs env) (λok s₃=>
      if ok=true then wpAny (model prog w) A (eval elt env) (λx s₄=>
       wpAny (model prog w) A (call (.builtin "list.append") [acc,x]) (λ_ s₅=>∃ m,m<n/\I m s₅) (λ_ _=>False) s₄) (λ_ _=>False) s₃
      else ∃ m,m<n/\I m s₃) (λ_ _=>False) s₂) (λ_ _=>False) s₀) (λ_ _=>False) s₁) (λ_ _=>False) s)
  (n:Nat) (h:I n s):
  codeAny (model prog w) A (.compLoop (.ListComp elt [⟨target,iter,ifs,0⟩] scope pos) 0 it acc env) R s:=by
 refine codeAny_loop rfl I (λn s hI=>?_) n h
 show wpAny _ A ((compTurn (.ListComp elt [⟨target,iter,ifs,0⟩] scope pos) 0 it acc env).onRaise (λx=>do noteFrame x env;theTreesLotGoes x)) _ _ s
 refine wpAny_noted ?_
 rw[compTurn_list]
 refine ae (cU (ae (bo (turn n s hI) (λr s₁ h₁=>?_) λ_ _ h'=>h'.elim)))
 cases r with
 |none=>exact ai h₁
 |some v=>
  refine ae (bo h₁ (λ_ s₀ h₀=>?_) λ_ _ h'=>h'.elim)
  refine ae (bo h₀ (λ_ s₂ h₂=>ae (bo h₂ (λok s₃ h₃=>?_) λ_ _ h'=>h'.elim)) λ_ _ h'=>h'.elim)
  cases ok with
  |false=>exact ai ⟨rfl,h₃⟩
  |true=>
   exact ae (ae (bo h₃ (λx s₄ h₄=>ae (bo h₄ (λ_ s₅ h₅=>ai (ai ⟨rfl,h₅⟩)) λ_ _ h'=>h'.elim)) λ_ _ h'=>h'.elim))
theorem yp (elt target iter:Expr)(ifs:List Expr)(scope:Scope)(pos:Pos)(it acc:Value)(env:Env):
  compTurn (.SetComp elt [⟨target,iter,ifs,0⟩] scope pos) 0 it acc env=(do
   standAt iter.pos
   match <-pyNext it with
   |none=>pure (.done .next)
   |some v=>
    letOwnedTupleGo target it v
    assign target env v
    let mut ok:=true
    for c in ifs do
     if ok then ok <-isTrue c env (eval c env)
    if ok then
     (do let v <-eval elt env;standAt elt.pos;let _ <-call (.builtin "set.add") [acc,v])
    again (.compLoop (.SetComp elt [⟨target,iter,ifs,0⟩] scope pos) 0 it acc env)):=by rfl
theorem rD {elt target iter:Expr}{ifs:List Expr}{scope:Scope}{pos:Pos}{it acc:Value}{env:Env}(I:Nat->Shared->Prop)
  (turn:∀ n s,I n s->wpAny (model prog w) A (pyNext it) (λr s₁=>match r with
   |none=>R (.ok .next) s₁
   |some v=>wpAny (model prog w) A (letOwnedTupleGo target it v) (λ_ s₀=>wpAny (model prog w) A (assign target env v) (λ_ s₂=>
     wpAny (model prog w) A (tI ifs env) (λok s₃=>
      if ok=true then wpAny (model prog w) A (eval elt env) (λx s₄=>
       wpAny (model prog w) A (call (.builtin "set.add") [acc,x]) (λ_ s₅=>∃ m,m<n/\I m s₅) (λ_ _=>False) s₄) (λ_ _=>False) s₃
      else ∃ m,m<n/\I m s₃) (λ_ _=>False) s₂) (λ_ _=>False) s₀) (λ_ _=>False) s₁) (λ_ _=>False) s)
  (n:Nat) (h:I n s):
  codeAny (model prog w) A (.compLoop (.SetComp elt [⟨target,iter,ifs,0⟩] scope pos) 0 it acc env) R s:=by
 refine codeAny_loop rfl I (λn s hI=>?_) n h
 show wpAny _ A ((compTurn (.SetComp elt [⟨target,iter,ifs,0⟩] scope pos) 0 it acc env).onRaise (λx=>do noteFrame x env;theTreesLotGoes x)) _ _ s
 refine wpAny_noted ?_
 rw[yp]
 refine ae (cU (ae (bo (turn n s hI) (λr s₁ h₁=>?_) λ_ _ h'=>h'.elim)))
 cases r with
 |none=>exact ai h₁
 |some v=>
  refine ae (bo h₁ (λ_ s₀ h₀=>?_) λ_ _ h'=>h'.elim)
  refine ae (bo h₀ (λ_ s₂ h₂=>ae (bo h₂ (λok s₃ h₃=>?_) λ_ _ h'=>h'.elim)) λ_ _ h'=>h'.elim)
  cases ok with
  |false=>exact ai ⟨rfl,h₃⟩
  |true=>
   exact ae (ae (bo h₃ (λx s₄ h₄=>ae (cU (ae (bo h₄ (λ_ s₅ h₅=>ai (ai ⟨rfl,h₅⟩)) λ_ _ h'=>h'.elim)))) λ_ _ h'=>h'.elim))
theorem qp {elt target iter ifs rest scope pos it acc env}
  (h0:codeAny (model prog w) A (.compLoop (.SetComp elt (⟨target,iter,ifs,0⟩::rest) scope pos) 0 it acc env) R s)
  (h:wpAny (model prog w) A (pyIter it) (λit' s'=>codeAny (model prog w) A (.compLoop (.SetComp elt (⟨target,iter,ifs,0⟩::rest) scope pos) 0 it' acc env) R s')
   (notedBy (model prog w) A env λx s'=>R (.error x) s') s):
  codeAny (model prog w) A (.compStart (.SetComp elt (⟨target,iter,ifs,0⟩::rest) scope pos) 0 it acc env) R s:=by
 refine codeAny_of_tree ?_
 show wpAny _ _ ((compStart (.SetComp elt (⟨target,iter,ifs,0⟩::rest) scope pos) 0 it acc env).onRaise (λx=>do noteFrame x env;standAt theWindowsPlace)) _ _ s
 refine wpAny_notedAt ?_
 unfold compStart
 show wpAny _ _ (ask >>= _) _ _ s
 refine ae (wpAny_askSetting (wpAny_ite ?_))
 split
 ·first
   |exact ae (ai (ai (And.intro rfl h0)))
   |exact ai (And.intro rfl h0)
 ·first
   |exact ae (wpAny_rule (ae (cU (ae (bo h (λit' s' h'=>ai (And.intro rfl h')) λ_ _ x=>x)))))
   |(refine ae (wpAny_rule ?_);show wpAny _ _ (standAt iter.pos >>= _) _ _ s;exact ae (cU (ae (bo h (λit' s' h'=>ai (And.intro rfl h')) λ_ _ x=>x))))
end
open PyProof.Rows
def oth (e:Int):Int:=e+1-2*(e%2)
theorem FY (x:Int):Builtin.bitXor x 1=oth x:=by
 rw[bitXor_and,bitAnd_m1];unfold oth;omega
theorem tL (e:Int):oth (oth e)=e:=by unfold oth;omega
theorem Ex (e:Int):oth e/2=e/2:=by unfold oth;omega
theorem Aw {e:Int}(h:0<=e):0<=oth e:=by unfold oth;omega
end TL
set_option maxHeartbeats 4000000
namespace TL
open PySem PySem.Spec PyProof.Rows L2
abbrev St:=L2.St
def fU (X:Cx)(scope:Scope)(cl:List (Str×Addr))(N:List Str)(fp:List Addr)(s3:Shared)(H3:Hp):Cx where
 prog:=X.prog
 w:=X.w
 K:=X.K
 mg:=X.mg
 base:=X.base
 A:=X.A
 N:=N
 s₀:=s3
 H₀:=H3
 env:=compEnvC scope cl s3.heap.objs.size X.env
 outer:=X.stack
 stack:=X.stack
 ex:=fp
 fn:=λ_=>false
 calm:=X.calm
 pn:=[]
 xe:=λ_ _=>False
def Hx (NX:List Str)(scope:Scope)(N:List Str)(cap:List (Option Nat)):Bool:=
 (N.zip cap).all λp=>match p.2 with
  |none=>true
  |some j=>decide (NX[j]? = some p.1)&&decide (scope.names.lookup p.1=some .free)
structure gH (scX:Scope)(NX:List Str)(scope:Scope)(N:List Str)(own:Nat)(cap:List (Option Nat)):Prop where
 kind:scope.kind = .function
 sh:∀ y∈scope.names,y.2≠ .cell
 loc:∀ y∈scope.names,y.2 = .local->scope.names.lookup y.1=some .local
 fre:∀ y∈scope.names,y.2 = .free->scX.names.lookup y.1=some .cell\/scX.names.lookup y.1=some .free
 len:cap.length=N.length
 RE:Hx NX scope N cap=true
 Nj:(cap.take own).all (·.isNone)=true
 nd:N.Nodup
def iG (cap:List (Option Nat))(σ:St):St:=cap.map λo=>o.bind λj=>(σ[j]?).bind id
theorem DC {cap:List (Option Nat)}{σ:St} :(iG cap σ).length=cap.length:=by simp[iG]
theorem mi {cap:List (Option Nat)}{σ:St}{i:Nat}{v:V}(h:(iG cap σ)[i]? = some (some v)):∃ j,cap[i]? = some (some j)/\σ[j]? = some (some v):=by
 unfold iG at h
 rw[aj]at h
 cases e:cap[i]? with
 |none=>rw[e]at h;cases h
 |some o=>
  rw[e]at h
  cases o with
  |none=>cases h
  |some j=>
   refine⟨j,rfl,?_⟩
   have h':(σ[j]?).bind id=some v:=by simpa using h
   cases q:σ[j]? with
   |none=>rw[q]at h';cases h'
   |some z=>rw[q]at h';exact bL some h'
theorem gH.at {scX:Scope}{NX:List Str}{scope:Scope}{N:List Str}{own:Nat}{cap:List (Option Nat)}(C:gH scX NX scope N own cap){i j:Nat}{x:Str}(h1:N[i]? = some x)(h2:cap[i]? = some (some j)):
  NX[j]? = some x/\scope.names.lookup x=some .free:=by
 have h:=C.RE
 unfold Hx at h
 have hm:(x,some j)∈N.zip cap:=by
  refine eC.mpr ⟨i,?_⟩
  rw[dD]
  exact⟨h1,h2⟩
 have:=fy.mp h _ hm
 simpa using this
theorem gH.oQ {scX:Scope}{NX:List Str}{scope:Scope}{N:List Str}{own:Nat}{cap:List (Option Nat)}(C:gH scX NX scope N own cap){i j:Nat}(hi:i<own)(h:cap[i]? = some (some j)):False:=by
 have hm:some j∈cap.take own:=by
  refine eC.mpr ⟨i,?_⟩
  rw[fu hi]
  exact h
 have:=fy.mp C.Nj _ hm
 cases this
section
variable {X:Cx}{pins:List (Addr×Obj)}{σ:St}{H H3:Hp}{s s3:Shared}{scope:Scope}{N:List Str}{own:Nat}{cap:List (Option Nat)}{cl:List (Str×Addr)}{fp:List Addr}
theorem oV (I3:Inv X pins σ H3 s3)(C:gH X.env.scope X.N scope N own cap)(jT:∀ x c,cl.lookup x=some c->X.env.cells.lookup x=some c)(lX:∀ y∈scope.names,y.2 = .free->∃ c,cl.lookup y.1=some c)
  (hf:∀ b∈fp,lO X pins H3 b/\b<s3.heap.objs.size) {h4:Heap}{tk:Nat}{m4:Str->Option Value} (hn:h4.Ns s3.heap.objs.size m4) (hk:∀ b u,s3.heap.get? b=some u->h4.get? b=some u):
  Inv (fU X scope cl N fp s3 H3) [] (iG cap σ) H3 {s3 with heap:=h4,toks:=tk} :=by
 refine⟨⟨I3.ok.mod,C.kind,I3.ok.glob,I3.ok.blt,au _,λx y c e1 e2=>I3.ok.inj x y c (jT _ _ e1) (jT _ _ e2),λx hx=>?_,λx c h=>?_,I3.ok.hd,I3.ok.frames,.inl rfl,λb hb=>?_,
  I3.bs,bF I3.ok.bsz I3.sz,λb o e hb=>?_,λb hb hz=>?_,I3.stack,I3.xA⟩,rfl,I3.bare,Un.kept hk,⟨m4,hn,λi x v e1 e2 e3=>?_⟩,λx c e=>?_,I3.hok.fresh (au _),λx c e=>I3.kC x c (jT x c e),
  λp hp=>absurd (show p∈([]:List (Addr×Obj)) from hp) (by simp),I3.hok.kept hk,?_⟩
 ·obtain⟨y,hy,e,f⟩:=lF (env:=X.env) C.sh hx
  obtain⟨c,q⟩:=lX y hy f
  exact⟨c,by rw[<-e];exact q⟩
 ·exact absurd (show false=true from h) aD
 ·obtain⟨⟨f0,f1,f2,f3,f4,f5⟩,hlt⟩:=hf b hb
  exact⟨aL hlt,λx c e=>f4 x c (jT x c e)⟩
 ·obtain⟨⟨f0,f1,f2,f3,f4,f5⟩,hlt⟩:=hf b hb
  rcases f3 with z |z
  ·exact I3.ok.AE b o e z
  ·exact absurd (aX (aC e) (bF I3.ok.bsz z)) (cO _)
 ·obtain⟨⟨f0,f1,f2,f3,f4,f5⟩,hlt⟩:=hf b hb
  rcases aG.mp (I3.mZ b hz)with z |z
  ·exact f1 z
  ·exact f2 z
 ·obtain⟨j,c1,c2⟩:=mi e2
  obtain⟨d1,d2⟩:=C.at e1 c1
  have hk2:=C.fre (x,.free) (cA d2) rfl
  obtain⟨mX,hnX,hl⟩:=I3.loc
  obtain⟨u,r,l⟩:=hl j x v d1 c2 (.inr hk2)
  refine⟨u,r,?_⟩
  rcases l with⟨k,_⟩|⟨k,c,e,z⟩
  ·exfalso
   have k':X.env.scope.names.lookup x=some .local:=k
   rcases hk2 with q |q
   ·rw[k']at q;cases q
   ·rw[k']at q;cases q
  ·obtain⟨c',q⟩:=lX (x,.free) (cA d2) rfl
   have e':=jT x c' q
   rw[e]at e'
   cases e'
   obtain⟨o,ho,hd⟩:=z
   exact .inr ⟨lQ (env:=X.env) d2,c,q,o,hk _ _ ho,hd⟩
 ·obtain⟨v,o,ho,hd⟩:=I3.cell x c (jT x c e)
  exact⟨v,o,hk _ _ ho,hd⟩
 ·rw[DC];exact C.len
theorem comp_back {sU:List (Addr×Obj)}{σ':St}{H':Hp}{s':Shared}(I3:Inv X pins σ H3 s3)(hf:∀ b∈fp,lO X pins H3 b)(I':Inv (fU X scope cl N fp s3 H3) sU σ' H' s'):Inv X pins σ H' s':=
 I3.Hy (ch:=fp) I'.os I'.base I'.hok I'.bare λb hb=>by
  obtain⟨f0,f1,f2,f3,f4,f5⟩:=hf b hb
  exact⟨f3,f1,f4,f5⟩
structure Apart (X:Cx)(pins:List (Addr×Obj))(C:Addr):Prop where
 loc:C≠X.env.locals
 new:X.s₀.heap.objs.size<=C
 cel:∀ x c,X.env.cells.lookup x=some c->c≠C
 pin:∀ p∈X.pn++pins,p.1≠C
theorem Inv.apart (I3:Inv X pins σ H3 s3):Apart X pins s3.heap.objs.size:=
 ⟨cV I3.lt,I3.sz,λx c e=>by obtain⟨v,o,ho,_⟩:=I3.cell x c e;exact aL (aC ho),λp hp=>aL (aC (I3.pin p hp).1)⟩
theorem mh {C:Addr}{h':Heap}(I:Inv X pins σ H s)(P:Apart X pins C)(hn:H C=none)(hs:Heap.SameBut C s.heap h'):Inv X pins σ H {s with heap:=h'} :=
 I.turned (t':=s.toks) (λb o hb e=>(hs.2 b hb).trans e) hn P.loc (.inr P.new) P.cel P.pin
end
structure qi (own:Nat)(g:TG):Prop where
 mono:∀ v σ H Q Q',(∀ σ' H',Q σ' H'->Q' σ' H')->g v σ H Q->g v σ H Q'
 own:∀ v σ H Q,g v σ H Q->g v σ H λσ' H'=>Q σ' H'/\σ'.length=σ.length/\∀ i,own<=i->σ'[i]? = σ[i]?
structure xt (own:Nat)(g:TGs):Prop where
 mono:∀ v σ H Q Q',(∀ σ' H',Q σ' H'->Q' σ' H')->g v σ H Q->g v σ H Q'
 own:∀ v σ H Q,g v σ H Q->g v σ H λσ' H'=>Q σ' H'/\σ'.length=σ.length/\∀ i,own<=i->σ'[i]? = σ[i]?
theorem qi.name {own i:Nat}(h:i<own):qi own (oW i):=
 ⟨λv σ H Q Q' f q=>f _ _ q,λv σ H Q q=>⟨q,List.length_set,λj hj=>eO (by omega)⟩⟩
theorem xt.nil {own:Nat} :xt own Ld:=⟨λv σ H Q Q' f q=>⟨q.1,f _ _ q.2⟩,λv σ H Q q=>⟨q.1,q.2,rfl,λ_ _=>rfl⟩⟩
theorem xt.cons {own:Nat}{t:TG}{u:TGs}(h1:qi own t)(h2:xt own u):xt own (Hq t u) where
 mono:=λv σ H Q Q' f ⟨x,r,e,q⟩=>⟨x,r,e,h1.mono _ _ _ _ _ (λσ' H' q=>h2.mono _ _ _ _ _ f q) q⟩
 own:=λv σ H Q ⟨x,r,e,q⟩=>⟨x,r,e,h1.mono _ _ _ _ _ (λσ1 H1 ⟨q,l1,o1⟩=>h2.mono _ _ _ _ _ (λσ2 H2 ⟨q,l2,o2⟩=>⟨q,l2.trans l1,λi hi=>(o2 i hi).trans (o1 i hi)⟩) (h2.own _ _ _ _ q)) (h1.own _ _ _ _ q)⟩
theorem qi.tup {own n:Nat}{K:PySem.W.Frag}{t:TGs}(h:xt own t):qi own (Lc K n t) where
 mono:=λv σ H Q Q' f ⟨a,xs,e,q1,q2,q⟩=>⟨a,xs,e,q1,q2,h.mono _ _ _ _ _ f q⟩
 own:=λv σ H Q ⟨a,xs,e,q1,q2,q⟩=>⟨a,xs,e,q1,q2,h.own _ _ _ _ q⟩
def sF (X:Cx)(ifs:List Expr)(t:TT):Prop:=
 ∀ (pins:List (Addr×Obj)) (s:Shared) (σ:St) (H:Hp) (Q:Bool->Hp->Prop),Inv X pins σ H s->t σ H Q->wpAny (model X.prog X.w) X.A (tI ifs X.env) (TP X pins σ Q) X.xe s
def Cy:TT:=λ_ H Q=>Q true H
theorem iq {X:Cx} :sF X [] Cy:=λ_ _ _ H _ I h=>wpAny_tests_nil ⟨H,I,h⟩
theorem kz {X:Cx}{c:Expr}{t:TT}(h:PT X c t):sF X [c] t:=λpins s σ H Q I q=>wpAny_tests_one (h pins s σ H Q I q)
def LcW (J:It)(g:TG)(tt:TT)(te:TE)(cap:List (Option Nat))(σ:St)(Q:VK)(l:Addr)(H1:Hp):Prop:=
 ∃ W:Nat->Nat->List V->Hp->Prop,(∃ m,W 0 m [] (upd H1 l (.lst [])))/\∀ i m acc H,W i m acc H->
  (J.stop i H/\Q (.ref l) H)\/(J.go i H/\∃ N:List V->Hp->Prop,(∀ wj H',N wj H'->∃ m',m'<m/\W (i+1) m' wj H')/\
   ∀ x H',J.yld i H x H'->g x (iG cap σ) H' λσ2 H2=>tt σ2 H2 λb H3=>
    if b=true then te σ2 H3 λy H4=>H4 l=some (.lst acc)/\acc.length<sizeLine/\N (acc ++ [y]) (upd H4 l (.lst (acc ++ [y])))
    else N acc H3)
def tLC (wi:TI)(cap:List (Option Nat))(g:TG)(tt:TT)(te:TE):TE:=λσ H Q=>wi σ H λJ H1=>∀ l,H1 l=none->
 LcW J g tt te cap σ Q l H1
section
variable {X:Cx}{pins:List (Addr×Obj)}{σ:St}{H1:Hp}{s2:Shared}{scope:Scope}{N:List Str}{own:Nat}{cap:List (Option Nat)}{cl:List (Str×Addr)}{fp:List Addr}
 {tg iter elt:Expr}{ifs:List Expr}{pos:Pos}{g:TG}{tt:TT}{te:TE}{wi:TI}
theorem zU {it:Addr}{tn:Nat->Heap->Prop}{J:It}{Q:VK}{RR:Value->Addr->Result->Shared->Prop}{E:Value->Shared->Prop}(I:Inv X pins σ H1 s2)(T:Turn X.prog X.w X.K tg J fp it tn)(t0:tn 0 s2.heap)
  (f:∀ b∈fp,lO X pins H1 b) (hc:X.calm=true) (C:gH X.env.scope X.N scope N own cap) (ho:qi own g)
  (jT:∀ x c,cl.lookup x=some c->X.env.cells.lookup x=some c) (lX:∀ y∈scope.names,y.2 = .free->∃ c,cl.lookup y.1=some c)
  (hg:∀ s3 H3,PG (fU X scope cl N fp s3 H3) tg g) (ht:∀ s3 H3,sF (fU X scope cl N fp s3 H3) ifs tt) (he:∀ s3 H3,PE (fU X scope cl N fp s3 H3) elt te)
  (hw:∀ l,H1 l=none->LcW J g tt te cap σ Q l H1)
  (fin:∀ l C s' H' m',Inv X pins σ H' s'->s'.heap.Ns C m'->H' C=none->Apart X pins C->Q (.ref l) H'->RR (.ref l) C (.ok .next) s'):
  wpAny (model X.prog X.w) X.A (newList []) (λacc s₃=>wpAny (model X.prog X.w) X.A (newFunctionEnv scope X.env.globals cl [] X.env.qual none .none (some X.env)) (λrG s₄=>
   codeAny (model X.prog X.w) X.A (.compStart (.ListComp elt [⟨tg,iter,ifs,0⟩] scope pos) 0 (.ref it) acc {rG with scope:=relabel scope X.env}) (RR acc rG.locals) s₄) E s₃) E s2:=by
 refine bX (dF C.sh (by intro y hy;simp at hy) (λh₁ jh jg=>?_) C.kind)
 dsimp only at jh jg ⊢
 obtain⟨W,⟨m0,w0⟩,turn⟩:=hw s2.heap.objs.size I.fresh
 have I3:Inv X pins σ (upd H1 s2.heap.objs.size (.lst [])) {s2 with heap:=s2.heap.push {cls:=.type "list",dict:=none,data:=.seq ([]:List Value).toArray}} :=I.Kn (ys:=[]) (its:=[]) (t':=s2.toks) .nil (aK _)
 generalize hs3:({s2 with heap:=s2.heap.push {cls:=.type "list",dict:=none,data:=.seq ([]:List Value).toArray}} :Shared)=s3 at I3
 have hh3:s3.heap=s2.heap.push {cls:=.type "list",dict:=none,data:=.seq ([]:List Value).toArray} :=by rw[<-hs3]
 rw[<-hh3]at jh jg ⊢
 have e4:({s2 with heap:=h₁,toks:=s2.toks+([]:List (Str×Value)).length} :Shared) = {s3 with heap:=h₁,toks:=s2.toks} :=by rw[<-hs3];rfl
 rw[e4]
 have k4:∀ b u,s3.heap.get? b=some u->h₁.get? b=some u:=λb u e=>jg.extBut b u (aL (aC e)) (ax _ e)
 have k3:∀ b u,s2.heap.get? b=some u->s3.heap.get? b=some u:=λb u e=>by rw[hh3];exact ax _ e
 have hb2:∀ b∈fp,b<s2.heap.objs.size:=λb hb=>by obtain⟨o,e,_⟩:=T.obj _ _ t0 b hb;exact aC e
 have f3:∀ b∈fp,lO X pins (upd H1 s2.heap.objs.size (.lst [])) b:=λb hb=>by
  obtain⟨f0,fr⟩:=f b hb
  exact⟨by rw[fG (aL (hb2 b hb))];exact f0,fr⟩
 have hb3:∀ b∈fp,b<s3.heap.objs.size:=λb hb=>by obtain⟨o,e,_⟩:=T.obj _ _ t0 b hb;exact aC (k3 b o e)
 have I4:=oV (tk:=s2.toks) I3 C jT lX (λb hb=>⟨f3 b hb,hb3 b hb⟩) jh k4
 generalize hH3:upd H1 s2.heap.objs.size (.lst [])=H3 at *
 have st4:tn 0 h₁:=T.keep _ _ _ t0 λb hb o e=>k4 b o (k3 b o e)
 have fpX:∀ {H':Hp},(∀ b∈fp,H' b=none)->∀ b∈fp,lO (fU X scope cl N fp s3 H3) [] H' b:=λ{H'} hn b hb=>by
  obtain⟨f0,f1,f2,f3',f4,f5⟩:=f3 b hb
  refine⟨hn b hb,aL (hb3 b hb),λhz=>?_,.inl hb,λx c e=>f4 x c (jT x c e),λp hp=>absurd (show p∈([]:List (Addr×Obj)) from hp) (by simp)⟩
  rcases aG.mp (I3.mZ b hz)with z |z
  ·exact f1 z
  ·exact f2 z
 have loop:codeAny (model X.prog X.w) X.A (.compLoop (.ListComp elt [⟨tg,iter,ifs,0⟩] scope pos) 0 (.ref it) (.ref s2.heap.objs.size) (compEnvC scope cl s3.heap.objs.size X.env)) (RR (.ref s2.heap.objs.size) s3.heap.objs.size) {s3 with heap:=h₁,toks:=s2.toks} :=by
  refine zV (λn s'=>∃ i acc H',Inv (fU X scope cl N fp s3 H3) [] (iG cap σ) H' s'/\tn i s'.heap/\(∀ b∈fp,H' b=none)/\W i n acc H') ?_ m0 ⟨0,[],H3,I4,st4,λb hb=>(f3 b hb).1,w0⟩
  rintro n s' ⟨i,acc,H',I',st,fr,w⟩
  rcases turn i n acc H' w with⟨stop,q⟩|⟨go,NN,hNN,step⟩
  ·refine thn (T.done (fU X scope cl N fp s3 H3) rfl rfl rfl hc i [] s' _ H' (λ_ _=>False) I' (fpX fr) st stop) λr s5 ⟨hr,I5⟩=>?_
   subst hr
   obtain⟨m5,hn5,_⟩:=id I5.loc
   exact fin _ _ s5 H' m5 (comp_back I3 f3 I5) hn5 I5.free (TL.Inv.apart I3) q
  ·refine thn (T.item (fU X scope cl N fp s3 H3) rfl rfl rfl hc i [] s' _ H' (λ_ _=>False) I' (fpX fr) st go) λr s5 ⟨u,hr,h5⟩=>?_
   subst hr
   refine thn h5 λ_ s6 ⟨x,H6,I6,r6,y6,st6,fr6⟩=>?_
   have I6':=I6.pinned (fpX fr6) (T.obj _ _ st6)
   refine thn (hg s3 H3 _ s6 _ H6 x u _ I6' r6 (ho.own _ _ _ _ (step x H6 y6))) λ_ s7 ⟨σ7,H7,I7,q7,l7,o7⟩=>?_
   have cov:∀ (i:Nat) v,(iG cap σ)[i]? = some (some v)->σ7[i]? = some (some v):=λi v e=>by
    obtain⟨j,c1,c2⟩:=mi e
    by_cases hi:i<own
    ·exact(C.oQ hi c1).elim
    ·rw[o7 i (by omega)];exact e
   have back:∀ {H8:Hp}{s8:Shared},Inv (fU X scope cl N fp s3 H3) ([]++nV fp s6.heap) σ7 H8 s8->Inv (fU X scope cl N fp s3 H3) [] (iG cap σ) H8 s8/\tn (i+1) s8.heap/\∀ b∈fp,H8 b=none:=λ{H8 s8} I8=>by
    refine⟨(Inv.lu (pins:=[]) I8).weak l7.symm cov,T.keep _ _ _ st6 λb hb o e=>(I8.pin (b,o) (ay _ (ay _ (iI hb e)))).1,λb hb=>?_⟩
    obtain⟨o,e,d⟩:=T.obj _ _ st6 b hb
    exact(I8.pin (b,o) (ay _ (ay _ (iI hb e)))).2.1
   refine thn (ht s3 H3 _ s7 σ7 H7 _ I7 q7) λb s8 ⟨H8,I8,q8⟩=>?_
   cases b with
   |false=>
    rw[aE aD]at q8 ⊢
    obtain⟨m',hm,w8⟩:=hNN _ _ q8
    obtain⟨J1,J2,J3⟩:=back I8
    exact⟨m',hm,i+1,acc,H8,J1,J2,J3,w8⟩
   |true=>
    rw[aJ rfl]at q8 ⊢
    refine thn (he s3 H3 _ s8 σ7 H8 _ I8 q8) λv s9 ⟨y,H9,I9,r9,ha,hz,n9⟩=>?_
    obtain⟨m',hm,w9⟩:=hNN _ _ n9
    refine thn (ir _ s9 σ7 H9 (.ref s2.heap.objs.size) [y] (.ref s2.heap.objs.size) [v] (λ_ H10=>W (i+1) m' (acc ++ [y]) H10) I9 rfl (.cons r9 .nil) ⟨_,acc,y,rfl,rfl,ha,hz,w9⟩) λ_ s10 ⟨_,H10,I10,_,w10⟩=>?_
    obtain⟨J1,J2,J3⟩:=back I10
    exact⟨m',hm,i+1,acc ++ [y],H10,J1,J2,J3,w10⟩
 exact codeAny_compStart_list loop (T.self X.A 0 _ _ _ st4 loop)
theorem lP (hi:PI X tg iter wi)(hc:X.calm=true)(C:gH X.env.scope X.N scope N own cap)(ho:qi own g)
  (hg:∀ cl fp s3 H3,PG (fU X scope cl N fp s3 H3) tg g) (ht:∀ cl fp s3 H3,sF (fU X scope cl N fp s3 H3) ifs tt) (he:∀ cl fp s3 H3,PE (fU X scope cl N fp s3 H3) elt te)
  (hs:∀ x,foldedSetIterable iter X.env x=pure x:=by intro _;rfl):PE X (.ListComp elt [⟨tg,iter,ifs,0⟩] scope pos) (tLC wi cap g tt te):=by
 intro pins s σ H Q I h
 obtain⟨cl,ecl,jT,lX⟩:=kO (scope:=scope) (env:=X.env) λy hy hf=>I.ok.has y.1 (C.fre y hy hf)
 rw[eval_ListComp]
 refine cy (use:=none) rfl hs ecl C.kind C.loc (thn (hi pins s σ H _ I h) λxv s1 h1=>thn h1 λitv s2 h2=>?_)
 obtain⟨it,fp,tn,J,H2,e,I2,T,st2,f2,hw⟩:=h2
 subst e
 refine zU (RR:=λacc C=>compPost (model X.prog X.w) X.A X.xe none (EP X pins σ Q) acc C) I2 T st2 f2 hc C ho jT lX (hg cl fp) (ht cl fp) (he cl fp) hw λl Ca s' H' m' I' hn kG hP q=>?_
 exact⟨m',hn,λh'' vj=>⟨.ref l,H',mh I' hP kG vj,rfl,q⟩⟩
theorem uE {i:Nat}{x:Str}{pos' DZ:Pos}(hN:X.N.Nodup)(hi':X.N[i]? = some x)(hx:X.env.scope.names.lookup x=some .local)(hi:PI X tg iter wi)(hc:X.calm=true)(C:gH X.env.scope X.N scope N own cap)(ho:qi own g)
  (hg:∀ cl fp s3 H3,PG (fU X scope cl N fp s3 H3) tg g) (ht:∀ cl fp s3 H3,sF (fU X scope cl N fp s3 H3) ifs tt) (he:∀ cl fp s3 H3,PE (fU X scope cl N fp s3 H3) elt te)
  (hsw:swapsWith (.ListComp elt [⟨tg,iter,ifs,0⟩] scope pos) (some (.Name x pos')) DZ.line X.env=pure true:=by rfl)
  (hs:∀ x,foldedSetIterable iter X.env x=pure x:=by intro _;rfl):PS X (.Assign [.Name x pos'] (.ListComp elt [⟨tg,iter,ifs,0⟩] scope pos) DZ) (DV (tLC wi cap g tt te) (oW i)):=by
 intro pins s σ H D I h
 obtain⟨cl,ecl,jT,lX⟩:=kO (scope:=scope) (env:=X.env) λy hy hf=>I.ok.has y.1 (C.fre y hy hf)
 rw[exec_Assign_Name_used _ _ _ _ hsw]
 refine ae (cU (ae ?_))
 show wpAny _ X.A (do let _ <-comprehension (.ListComp elt [⟨tg,iter,ifs,0⟩] scope pos) scope X.env _ (newList []) false (eval iter X.env) (some (assign (.Name x pos') X.env))) _ _ s
 refine ae (bo (cy (use:=some (assign (.Name x pos') X.env)) (Q:=λ_ s'=>SP X pins D .next s') rfl hs ecl C.kind C.loc
  (thn (hi pins s σ H _ I h) λxv s1 h1=>thn h1 λitv s2 h2=>?_)) (λ_ s' hq=>ai (ai hq)) λ_ _ e=>e)
 obtain⟨it,fp,tn,J,H2,e,I2,T,st2,f2,hw⟩:=h2
 subst e
 refine zU (RR:=λacc C=>compPost (model X.prog X.w) X.A X.xe (some (assign (.Name x pos') X.env)) (λ_ s'=>SP X pins D .next s') acc C) I2 T st2 f2 hc C ho jT lX (hg cl fp) (ht cl fp) (he cl fp) hw λl Ca s' H' m' I' hn kG hP q=>?_
 show wpAny _ X.A (assign (.Name x pos') X.env (.ref l)) _ _ _
 refine wpAny_assign_Name (rT I' hN hi' (.inl hx) (v:=.ref l) rfl (λs5 I5 ⟨a,sb,ha⟩=>?_) (.inr hx))
 have hne:Ca≠a:=by
  rcases ha with z |z
  ·rw[z];exact hP.loc
  ·exact λe=>hP.cel x a z e.symm
 refine⟨m',hn.sameBut sb hne,λh'' vj=>⟨_,H',mh I5 hP kG vj,q⟩⟩
end
section
variable {K:PySem.W.Frag}{a l:Addr}{xs:List V}{g:TG}{tt:TT}{te:TE}{cap:List (Option Nat)}{σ:St}{Q:VK}{H1:Hp}
theorem GB (Pv:Nat->List V->Hp->Prop)(h0:Pv 0 [] (upd H1 l (.lst [])))(hl:∀ i acc H,i<=xs.length->Pv i acc H->SqL K H a xs)
  (hs:∀ i x acc H,xs[i]? = some x->Pv i acc H->g x (iG cap σ) H λσ2 H2=>tt σ2 H2 λb H3=>
    if b=true then te σ2 H3 λy H4=>H4 l=some (.lst acc)/\acc.length<sizeLine/\Pv (i+1) (acc ++ [y]) (upd H4 l (.lst (acc ++ [y])))
    else Pv (i+1) acc H3) (hd:∀ acc H,Pv xs.length acc H->Q (.ref l) H):LcW (Itl K a) g tt te cap σ Q l H1:=by
 refine⟨λi m acc H=>m=xs.length-i/\i<=xs.length/\Pv i acc H,⟨xs.length,by simp,aK _,h0⟩,?_⟩
 rintro i m acc H ⟨rfl,hi,p⟩
 have q:=hl i acc H hi p
 by_cases hlt:i<xs.length
 ·refine .inr ⟨⟨xs,xs[i],q,by simp[hlt]⟩,Pv (i+1),λwj H' p'=>⟨xs.length-(i+1),by omega,rfl,hlt,p'⟩,λx H' y=>?_⟩
  obtain⟨e,y⟩:=y
  subst e
  exact hs i x acc _ (y xs q) p
 ·have e:i=xs.length:=by omega
  subst e
  exact .inl ⟨⟨xs,q,au _⟩,hd acc H p⟩
theorem fB {H:Hp}{l:Addr}{o:HO}(hn:H l=none):fI H (upd H l o):=λb u e=>by rw[fG (fK e hn)];exact e
theorem lh {α:Type}(ds:List α)(p:α->Bool)(f:α->V)(hn:H1 l=none)(hx:SqL K H1 a xs)(hlen:xs.length=ds.length)(hz:xs.length<sizeLine)
  (hs:∀ (i:Nat) x d H,xs[i]? = some x->ds[i]? = some d->fI H1 H->∀ (P1:VK) (P0:Hp->Prop),(p d=true->P1 (f d) H)->(p d=false->P0 H)->
   g x (iG cap σ) H λσ2 H2=>tt σ2 H2 λb H3=>if b=true then te σ2 H3 P1 else P0 H3)
  (hq:Q (.ref l) (upd H1 l (.lst ((ds.filter p).map f)))):LcW (Itl K a) g tt te cap σ Q l H1:=by
 refine GB (λi acc H=>acc=((ds.take i).filter p).map f/\H=upd H1 l (.lst acc)) ⟨rfl,rfl⟩ (λi acc H _ ⟨_,e⟩=>by rw[e];exact(fB hn).seq hx) ?_ ?_
 ·rintro i x acc H hi ⟨e1,e2⟩
  have hlt:i<xs.length:=(af.mp hi).1
  have hd:ds[i]? = some (ds[i]'(by omega)):=by simp
  generalize ds[i]'(by omega)=d at hd
  have step:((ds.take (i+1)).filter p).map f=acc++(if p d=true then[f d]else[]):=by
   rw[take_succ_filter p ds i d hd,aB,e1]
   cases p d<;>rfl
  refine hs i x d H hi hd (by rw[e2];exact fB hn) _ _ (λhp=>?_) (λhp=>?_)
  ·refine⟨by rw[e2,fC],?_,?_,?_⟩
   ·have h1:acc.length<=i:=by
     rw[e1,aa]
     exact bF (bS _ _) (by rw[aT];omega)
    omega
   ·rw[step,hp];rfl
   ·rw[e2,qM]
  ·refine⟨?_,e2⟩
   rw[step,hp,aE aD,dN]
 ·rintro acc H ⟨e1,e2⟩
  rw[hlen,br]at e1
  rw[e2,e1]
  exact hq
end
mutual
def Dg (L T:Addr->List V->Prop):PyData->V->Prop
 |.none,v=>v = .non
 |.bool b,v=>v = .bl b
 |.int i,v=>v = .int i
 |.str x,v=>v = .str x
 |.list ds,v=>∃ a vs,v = .ref a/\L a vs/\Dgs L T ds vs
 |.tuple ds,v=>∃ a vs,v = .ref a/\T a vs/\Dgs L T ds vs
 |.dict _,_=>False
def Dgs (L T:Addr->List V->Prop):List PyData->List V->Prop
 |[],vs=>vs = []
 |d::ds,vs=>∃ v r,vs=v::r/\Dg L T d v/\Dgs L T ds r
end
mutual
theorem Dg.mono {L T L' T':Addr->List V->Prop}(hL:∀ a vs,L a vs->L' a vs)(hT:∀ a vs,T a vs->T' a vs):∀ {d:PyData}{v:V},Dg L T d v->Dg L' T' d v
 |.none,_,h=>by simpa only[Dg]using h
 |.bool _,_,h=>by simpa only[Dg]using h
 |.int _,_,h=>by simpa only[Dg]using h
 |.str _,_,h=>by simpa only[Dg]using h
 |.list ds,_,h=>by
  simp only[Dg]at h ⊢
  obtain⟨a,vs,e,l,q⟩:=h
  exact⟨a,vs,e,hL a vs l,Dgs.mono hL hT q⟩
 |.tuple ds,_,h=>by
  simp only[Dg]at h ⊢
  obtain⟨a,vs,e,l,q⟩:=h
  exact⟨a,vs,e,hT a vs l,Dgs.mono hL hT q⟩
 |.dict _,_,h=>by simp only[Dg]at h
theorem Dgs.mono {L T L' T':Addr->List V->Prop}(hL:∀ a vs,L a vs->L' a vs)(hT:∀ a vs,T a vs->T' a vs):∀ {ds:List PyData}{vs:List V},Dgs L T ds vs->Dgs L' T' ds vs
 |[],_,h=>by simpa only[Dgs]using h
 |d::ds,_,h=>by
  simp only[Dgs]at h ⊢
  obtain⟨v,r,e,l,q⟩:=h
  exact⟨v,r,e,Dg.mono hL hT l,Dgs.mono hL hT q⟩
end
section
variable {L T:Addr->List V->Prop}
theorem iC {i:Int}{v:V} :Dg L T (.int i) v↔v = .int i:=by simp only[Dg]
theorem lH {i:Str}{v:V} :Dg L T (.str i) v↔v = .str i:=by simp only[Dg]
theorem ia {ds:List PyData}{v:V} :Dg L T (.list ds) v↔∃ a vs,v = .ref a/\L a vs/\Dgs L T ds vs:=by simp only[Dg]
theorem gR {ds:List PyData}{v:V} :Dg L T (.tuple ds) v↔∃ a vs,v = .ref a/\T a vs/\Dgs L T ds vs:=by simp only[Dg]
theorem gS {vs:List V} :Dgs L T [] vs↔vs = []:=by simp only[Dgs]
theorem gm {d:PyData}{ds:List PyData}{vs:List V} :Dgs L T (d::ds) vs↔∃ v r,vs=v::r/\Dg L T d v/\Dgs L T ds r:=by simp only[Dgs]
theorem Dgs.length:∀ {ds:List PyData}{vs:List V},Dgs L T ds vs->vs.length=ds.length
 |[],_,h=>by rw[gS.mp h];rfl
 |d::ds,_,h=>by
  obtain⟨v,r,rfl,_,q⟩:=gm.mp h
  rw[aR,aR,Dgs.length q]
theorem nJ:∀ {ns:List Int}{vs:List V},Dgs L T (ns.map .int) vs↔vs=ns.map V.int
 |[],vs=>gS
 |n::ns,vs=>by
  rw[bg,gm]
  constructor
  ·rintro⟨v,r,rfl,h1,h2⟩
   rw[iC.mp h1,nJ.mp h2];rfl
  ·rintro rfl
   exact⟨_,_,rfl,iC.mpr rfl,nJ.mpr rfl⟩
theorem Dgs.append:∀ {ds es:List PyData}{vs us:List V},Dgs L T ds vs->Dgs L T es us->Dgs L T (ds++es) (vs++us)
 |[],_,_,_,h,k=>by rw[gS.mp h];exact k
 |d::ds,_,_,_,h,k=>by
  obtain⟨v,r,rfl,h1,q⟩:=gm.mp h
  exact gm.mpr ⟨v,_,rfl,h1,Dgs.append q k⟩
theorem Dgs.one {d:PyData}{v:V}(h:Dg L T d v):Dgs L T [d] [v]:=gm.mpr ⟨v,[],rfl,h,gS.mpr rfl⟩
theorem Dgs.two {d e:PyData}{v u:V}(h:Dg L T d v)(k:Dg L T e u):Dgs L T [d,e] [v,u]:=gm.mpr ⟨v,[u],rfl,h,.one k⟩
theorem Dgs.get:∀ {ds:List PyData}{vs:List V}{i:Nat}{v:V},Dgs L T ds vs->vs[i]? = some v->∃ d,ds[i]? = some d/\Dg L T d v
 |[],_,_,_,h,e=>by rw[gS.mp h]at e;simp at e
 |d::ds,_,0,v,h,e=>by
  obtain⟨x,r,rfl,h1,q⟩:=gm.mp h
  simp at e;subst e
  exact⟨d,rfl,h1⟩
 |d::ds,_,i+1,v,h,e=>by
  obtain⟨x,r,rfl,h1,q⟩:=gm.mp h
  obtain⟨d',e1,e2⟩:=Dgs.get (i:=i) (v:=v) q (by simpa using e)
  exact⟨d',by simpa using e1,e2⟩
theorem Dgs.insert:∀ {ds:List PyData}{vs:List V} (i:Nat) {d:PyData}{v:V},Dgs L T ds vs->Dg L T d v->Dgs L T (ds.take i++d::ds.drop i) (vs.take i++v::vs.drop i)
 |ds,vs,0,d,v,h,k=>gm.mpr ⟨v,vs,by simp,k,by simpa using h⟩
 |[],vs,i+1,d,v,h,k=>by rw[gS.mp h];simpa using Dgs.one k
 |x::ds,vs,i+1,d,v,h,k=>by
  obtain⟨y,r,rfl,h1,q⟩:=gm.mp h
  exact gm.mpr ⟨y,_,rfl,h1,Dgs.insert i q k⟩
end
abbrev Da (K:PySem.W.Frag)(H:Hp):PyData->V->Prop:=Dg (SqL K H) (SqT K H)
abbrev Das (K:PySem.W.Frag)(H:Hp):List PyData->List V->Prop:=Dgs (SqL K H) (SqT K H)
theorem gd {K:PySem.W.Frag}{H H':Hp}{a:Addr}{xs:List V}(e:fI H H')(h:SqT K H a xs):SqT K H' a xs:=by
 rcases h with(h |⟨o,h⟩)|h
 ·exact .inl (.inl (e _ _ h))
 ·exact .inl (.inr ⟨o,e _ _ h⟩)
 ·exact .inr h
theorem Da.same {K:PySem.W.Frag}{H H':Hp}(e:fI H H'){d:PyData}{v:V}(h:Da K H d v):Da K H' d v:=Dg.mono (λ_ _ q=>e.seq q) (λ_ _ q=>gd e q) h
theorem Das.same {K:PySem.W.Frag}{H H':Hp}(e:fI H H'){d:List PyData}{v:List V}(h:Das K H d v):Das K H' d v:=Dgs.mono (λ_ _ q=>e.seq q) (λ_ _ q=>gd e q) h
section
variable {X:Cx}{pins:List (Addr×Obj)}{σ:St}{H:Hp}{s:Shared}
mutual
theorem Da.reads (I:Inv X pins σ H s):∀ {d:PyData}{v:V}{u:Value},Da X.K H d v->RelV v u->∃ as,Reads s.heap u d as
 |.none,v,u,h,r=>by
  have e:v = .non:=by simpa only[Dg]using h
  subst e;cases r;exact⟨_,.none⟩
 |.bool b,v,u,h,r=>by
  have e:v = .bl b:=by simpa only[Dg]using h
  subst e;cases r;exact⟨_,.bool b⟩
 |.int i,v,u,h,r=>by
  have e:v = .int i:=by simpa only[Dg]using h
  subst e;obtain⟨t,rfl⟩:=r;exact⟨_,.int i t⟩
 |.str i,v,u,h,r=>by
  have e:v = .str i:=by simpa only[Dg]using h
  subst e;obtain⟨t,rfl⟩:=r;exact⟨_,.str i t⟩
 |.list ds,v,u,h,r=>by
  obtain⟨a,vs,rfl,l,q⟩:=ia.mp h
  cases r
  obtain⟨its,rv,p,hz⟩:=I.list l
  obtain⟨as,rs⟩:=Das.reads I q rv
  obtain⟨o,ho,hc,n,hd⟩:=p.isList
  exact⟨_,.list ho hc hd (by simpa using rs)⟩
 |.tuple ds,v,u,h,r=>by
  obtain⟨a,vs,rfl,l,q⟩:=gR.mp h
  cases r
  obtain⟨its,rv,p,hz⟩:=I.tuple l
  obtain⟨as,rs⟩:=Das.reads I q rv
  obtain⟨o,ho,hc,n,hd⟩:=p
  exact⟨_,.tuple ho hc hd (by simpa using rs)⟩
 |.dict _,v,u,h,r=>by simp only[Dg]at h
theorem Das.reads (I:Inv X pins σ H s):∀ {ds:List PyData}{vs:List V}{us:List Value},Das X.K H ds vs->Vals vs us->∃ as,ReadsAll s.heap us ds as
 |[],vs,us,h,r=>by
  rw[gS.mp h]at r;cases r;exact⟨_,.nil⟩
 |d::ds,vs,us,h,r=>by
  obtain⟨v,w,rfl,h1,q⟩:=gm.mp h
  cases r with
  |cons r1 r2=>
   obtain⟨as,e1⟩:=Da.reads I h1 r1
   obtain⟨bs,e2⟩:=Das.reads I q r2
   exact⟨_,.cons e1 e2⟩
end
end
section
variable {X:Cx}
def OkD (d:PyData):Prop:=d.canLay0=true/\d.depth<=20
def J0 (K:PySem.W.Frag):R2:=λx y H Q=>∃ d e,Da K H d x/\Da K H e y/\OkD d/\OkD e/\Q (.bl (PyData.eqv d e)) H
def MI (K:PySem.W.Frag):R2:=λx y H Q=>∃ d e,Da K H d x/\Da K H e y/\OkD d/\OkD e/\Q (.bl (!PyData.eqv d e)) H
theorem nZ (hu:X.A.units+64<cLine):OpR X (compareOp .Eq) (J0 X.K):=by
 intro pins s σ H x y v u Q I rx ry h
 obtain⟨d,e,h1,h2,o1,o2,q⟩:=h
 obtain⟨as,r1⟩:=Da.reads I h1 rx
 obtain⟨bs,r2⟩:=Da.reads I h2 ry
 exact SeqAt.compareEq_reads r1 r2 o1.1 o2.1 (by have:=o1.2;have:=o2.2;omega) ⟨.bl _,H,I,rfl,q⟩
theorem uM (hu:X.A.units+64<cLine):OpR X (compareOp .NotEq) (MI X.K):=by
 intro pins s σ H x y v u Q I rx ry h
 obtain⟨d,e,h1,h2,o1,o2,q⟩:=h
 obtain⟨as,r1⟩:=Da.reads I h1 rx
 obtain⟨bs,r2⟩:=Da.reads I h2 ry
 exact SeqAt.compareNe_reads r1 r2 o1.1 o2.1 (by have:=o1.2;have:=o2.2;omega) ⟨.bl _,H,I,rfl,q⟩
def FO (ds:List PyData):Prop:=PyData.canLayAll0 ds=true/\PyData.depthAll ds<=20
def JZ (K:PySem.W.Frag)(neg:Bool):R2:=λx y H Q=>∃ ds d,Da K H (.list ds) y/\Da K H d x/\FO ds/\OkD d/\Q (.bl (if neg then !(ds.any λz=>PyData.eqv z d)else ds.any λz=>PyData.eqv z d)) H
theorem kK (hu:X.A.units+64<cLine):OpR X (compareOp .NotIn) (JZ X.K true):=by
 intro pins s σ H x y v u Q I rx ry h
 obtain⟨ds,d,h1,h2,o1,o2,q⟩:=h
 obtain⟨as,r1⟩:=Da.reads I h1 ry
 obtain⟨bs,r2⟩:=Da.reads I h2 rx
 exact SeqAt.notIn_list_reads r1 r2 o1.1 o2.1 (by have:=o1.2;have:=o2.2;omega) ⟨.bl _,H,I,rfl,q⟩
end
theorem iD {α:Type}{f:α->PyData}(h:∀ x,(f x).canLay0=true):∀ l:List α,PyData.canLayAll0 (l.map f)=true
 |[]=>by simp[PyData.canLayAll0]
 |x::l=>by simp[PyData.canLayAll0,h x,iD h l]
theorem gL {α:Type}{f:α->PyData}{k:Nat}(h:∀ x,(f x).depth<=k):∀ l:List α,PyData.depthAll (l.map f)<=k
 |[]=>by simp[PyData.depthAll]
 |x::l=>by
  simp only[bg,PyData.depthAll]
  exact Nat.max_le.mpr ⟨h x,gL h l⟩
def dI (ns:List Int):PyData:=.list (ns.map .int)
def dP (p:Int×Int):PyData:=.tuple [.int p.1,.int p.2]
def dJ (js:List (Int×Int)):PyData:=.list (js.map dP)
def dL (l:Int×List (Int×Int)):PyData:=.tuple [.int l.1,dJ l.2]
theorem rh (i:Int):OkD (.int i):=⟨rfl,by simp[PyData.depth]⟩
theorem jE (ns:List Int):OkD (dI ns):=⟨by simp only[dI,PyData.canLay0];exact iD (λ_=>rfl) ns,by
 simp only[dI,PyData.depth]
 have:=gL (f:=PyData.int) (k:=0) (λ_=>by simp[PyData.depth]) ns
 omega⟩
theorem vQ (p:Int×Int):(dP p).canLay0=true:=by simp[dP,PyData.canLay0,PyData.canLayAll0]
theorem yn (p:Int×Int):(dP p).depth<=1:=by simp[dP,PyData.depth,PyData.depthAll]
theorem sW (p:Int×Int):OkD (dP p):=⟨vQ p,by have:=yn p;omega⟩
theorem Iq (js:List (Int×Int)):FO (js.map dP):=⟨iD vQ js,by have:=gL yn js;omega⟩
theorem B8 (js:List (Int×Int)):(dJ js).depth<=2:=by simp only[dJ,PyData.depth];have:=gL yn js;omega
theorem Kh (js:List (Int×Int)):OkD (dJ js):=⟨by simp only[dJ,PyData.canLay0];exact iD vQ js,by have:=B8 js;omega⟩
theorem B7 (l:Int×List (Int×Int)):(dL l).depth<=3:=by
 simp only[dL,PyData.depth,PyData.depthAll]
 have:=B8 l.2
 omega
theorem Kg (l:Int×List (Int×Int)):OkD (dL l):=⟨by simp only[dL,PyData.canLay0,PyData.canLayAll0,cY,Bool.true_and];exact(Kh l.2).1,by have:=B7 l;omega⟩
theorem jJ {d:PyData}(h:OkD d):PyData.eqv d d=true:=SeqAt.eqv_refl d h.1
theorem B5 (p q:Int×Int):PyData.eqv (dP p) (dP q)=decide (p=q):=by
 obtain⟨a,b⟩:=p
 obtain⟨c,d⟩:=q
 simp only[dP,PyData.eqv,PyData.eqvAll,cY]
 rw[bJ]
 simp
theorem Lw (js:List (Int×Int))(p:Int×Int):((js.map dP).any λz=>PyData.eqv z (dP p))=decide (p∈js):=by
 rw[List.any_map,bJ,eI,cq]
 constructor
 ·rintro⟨x,hx,e⟩
  have e':PyData.eqv (dP x) (dP p)=true:=e
  rw[B5,cq]at e'
  rw[<-e'];exact hx
 ·intro h
  exact⟨p,h,by show PyData.eqv (dP p) (dP p)=true;rw[B5];simp⟩
theorem rq (ds:List PyData):PyData.eqv (.list ds) (.list [])=ds.isEmpty:=by
 cases ds<;>simp[PyData.eqv,PyData.eqvAll]
theorem BG:OkD (.list []):=jE []
section
variable {X:Cx}
theorem GH (its:List Value)(k:Nat)(y:Value):(its.toArray.extract 0 k).push y++its.toArray.extract k=(its.take k++y::its.drop k).toArray:=PySem.W.kl_ins_eq its k y
def Ge:V->List V->Hp->VK->Prop:=λx vs H Q=>∃ l xs i y,x = .ref l/\vs = [.int i,y]/\H l=some (.lst xs)/\0<=i/\i<=xs.length/\xs.length<sizeLine/\Q .non (upd H l (.lst (xs.take i.toNat++y::xs.drop i.toNat)))
theorem wX:MtM X "list.insert" Ge:=by
 intro pins s σ H x vs v us Q I rx rv h
 obtain⟨l,xs,i,y,rfl,rfl,hH,h0,h1,hz,q⟩:=h
 cases rx
 obtain⟨ui,u,rfl,ri,ru⟩:=rv.two
 obtain⟨t,rfl⟩:=ri
 obtain⟨z,its,n,r,hl,e⟩:=I.xZ hH
 have hs:its.toArray.size<=sizeLine:=by rw[aM];omega
 have hf:Builtin.List.listFitsIndex i=true:=by
  unfold Builtin.List.listFitsIndex
  have h63:(sizeLine:Nat)<2 ^ 62:=by rw[cJ];decide
  simp only[fz,dZ]
  constructor<;>omega
 refine fw fo ⟨_,e,rfl⟩ PySem.F.entry_list_insert (PySem.F.args_list_insert_3 _ _ _) (PySem.AutoSeq1.list_insert_list_int_val_1 l its.toArray n i t u (by simp[hf]) hs) ⟨e,?_⟩
 refine⟨.non,_,I.ET (its':=its.take i.toNat++u::its.drop i.toNat) (ys:=xs.take i.toNat++y::xs.drop i.toNat) hH e ?_ ((r.take i.toNat).append (.cons ru (r.drop i.toNat))) ?_,rfl,q⟩
 ·have hk:(if i<0 then(i+(its.toArray.size:Int)).toNat else min i.toNat its.toArray.size)=i.toNat:=by
   rw[aE (by omega),aM]
   omega
  show(its.toArray.extract 0 (if i<0 then(i+(its.toArray.size:Int)).toNat else min i.toNat its.toArray.size)).push u++its.toArray.extract (if i<0 then(i+(its.toArray.size:Int)).toNat else min i.toNat its.toArray.size)=_
  rw[hk,GH]
 ·rw[ak,aR,aT,bE]
  omega
end
def srt (ns:List Int):List Int:=ns.mergeSort (λa b=>decide (a<=b))
theorem qP (ns:List Int):(srt ns).Perm ns:=List.mergeSort_perm ns _
theorem yK (ns:List Int):(srt ns).Pairwise (· <= ·):=by
 have h:=List.pairwise_mergeSort (le:=λa b:Int=>decide (a<=b)) (by intro a b c h1 h2;simp only[dZ]at *;omega) (by intro a b;simp only[Bool.or_eq_true,dZ];omega) ns
 exact h.imp (by intro a b h;simpa using h)
theorem An {a b:List Int}(hp:a.Perm b)(ha:a.Pairwise (· <= ·))(hb:b.Pairwise (· <= ·)):a=b:=PySem.W.ksm_same hp ha hb
theorem DX {a ns:List Int}(hp:a.Perm ns)(ha:a.Pairwise (· <= ·)):a=srt ns:=An (hp.trans (qP ns).symm) ha (yK ns)
theorem CB {a b:List Int}(hp:a.Perm b):srt a=srt b:=DX ((qP a).trans hp) (yK a)
theorem Ga {ns:List Int}{x:Int} :x∈srt ns↔x∈ns:=(qP ns).mem_iff
theorem nO (ns:List Int):(srt ns).length=ns.length:=(qP ns).length_eq
section
variable {X:Cx}
theorem sY:jS X (.builtin "sorted") (λxs H Q=>∃ a ns,xs = [.ref a]/\SqL X.K H a (ns.map V.int)/\ns.length<64/\∀ p,H p=none->Q (.ref p) (upd H p (.lst ((srt ns).map V.int)))):=by
 intro pins s σ H xs us Q I r h
 obtain⟨a,ns,rfl,hx,h64,q⟩:=h
 obtain⟨u,rfl,ru⟩:=vals1 r
 cases ru
 obtain⟨its,rv,p,hz⟩:=I.list hx
 have hlen:=rv.length
 rw[aa]at hlen
 refine sorted_ints p.isList (intsAre_of rv) (by omega) λout ns' h1 h2 h3=>?_
 obtain⟨e,he⟩:=sortedAll_at s.heap its out
 have e':ns'=srt ns:=DX h2 h3
 subst e'
 have vo:Vals ((srt ns).map V.int) out.toList:=rQ h1
 refine⟨.ref (s.heap.objs.size+1),_,I.laid (t':=s.toks) (o:=.lst ((srt ns).map V.int)) (λb ob q=>sortedAll_old q) (Nat.le_succ _) ⟨?_,out.toList,e,vo,?_⟩,rfl,q _ (I.hok.fresh (Nat.le_succ _))⟩
 ·rw[aa,nO]
  rw[aa]at hz
  exact hz
 ·rw[he,Array.toArray_toList]
end
theorem Inv.rS {X:Cx}{pins:List (Addr×Obj)}{σ:St}{H:Hp}{s:Shared}{h':Heap}{t':Nat}{ch:List Addr}{xs:List V}{us:List Value}(I:Inv X pins σ H s)(hf:∀ b∈ch,lO X pins H b)
  (keep:∀ b o,b∉ch->s.heap.get? b=some o->h'.get? b=some o) (r:Vals xs us) (hz:xs.length<=sizeLine) (ht:h'.get? s.heap.objs.size=some {cls:=.type "tuple",data:=.seq us.toArray}):
  Inv X pins σ (upd H s.heap.objs.size (.tup xs)) {s with heap:=h',toks:=t'} :=by
 have hn:H s.heap.objs.size=none:=I.fresh
 have nch:∀ b u,H b=some u->b∉ch:=λb u q z=>by rw[(hf b z).1]at q;cases q
 refine I.step (g':=s.gens) (d':=s.drawn) (ch:=ch) (λb hb=>?_) (λb o _ _ hc q _=>keep b o hc q) (λb o _ _ hc q _=>⟨o.slots,keep b o hc q⟩) (λb o _ q n=>?_)
  (λb o hc q=>⟨o,keep b o hc q⟩) (λb ys q=>by rw[fG (fK q hn)];exact q) (λb o ys q=>by rw[fG (fK q hn)];exact q) (λb ps q=>⟨#[],by rw[fG (fK q hn),q];simp⟩) (λm hm=>?_) (λb u q=>?_) I.bare
 ·obtain⟨f0,f1,f2,f3,f4,f5⟩:=hf b hb
  exact⟨f3,f1,f4,f5⟩
 ·rw[fG (aL (aC q))];exact n
 ·obtain⟨o,es,ep,ho,r⟩:=hm
  exact⟨o,es,ep,keep _ o (λz=>(hf _ z).2.1 rfl) ho,r⟩
 ·by_cases hb:b=s.heap.objs.size
  ·subst hb
   rw[fC]at q
   cases q
   exact⟨hz,us,r,⟨_,ht,rfl,_,rfl⟩⟩
  ·rw[fG hb]at q
   refine(I.hok b u q).lA (λc v hc q'=>keep c v ?_ q') (λc z=>by rw[fG (fK z hn)];exact z) λc ys z=>by rw[fG (fK z hn)];exact z
   rcases hc with z |z
   ·rw[z];exact nch b u q
   ·exact nch c _ z
def Ite (K:PySem.W.Frag)(a:Addr):It:=
 ⟨λi H=>∃ xs x,SqL K H a xs/\xs[i]? = some x,λi H x H'=>∃ p,H p=none/\x = .ref p/\∀ xs y,SqL K H a xs->xs[i]? = some y->H'=upd H p (.tup [.int i,y]),λi H=>∃ xs,SqL K H a xs/\xs.length<=i⟩
theorem Cv {P:Program}{w:World}{K:PySem.W.Frag}{es:List Expr}{x1:Nat}{pt:Pos}(a e it:Addr)(hne:e≠it):
  Turn P w K (.Tuple es x1 pt) (Ite K a) [e,it] e (λi h=>∃ old,IsEnum h e it i old/\h.IsListIter it a i) where
 mem:=by simp
 obj:=λi h st b hb=>by
  obtain⟨old,h1,h2⟩:=st
  rcases aG.mp hb with z |z
  ·subst z;exact⟨_,h1,λv z=>by cases z⟩
  ·have z:b=it:=by simpa using z
   subst z
   obtain⟨o,ho,c,d⟩:=h2
   exact⟨o,ho,λv z=>by rw[d]at z;cases z⟩
 keep:=λi h h' ⟨old,h1,h2⟩ k=>⟨old,k e (by simp) _ h1,h2.at λo q=>k it (by simp) o q⟩
 item:=by
  intro X hP hw hK hc i pins s σ H E I hf st hg
  subst hP hw hK
  obtain⟨old,h1,h2⟩:=st
  obtain⟨xs,x,hq,hx⟩:=hg
  obtain⟨its,rv,p,hz⟩:=I.list hq
  obtain⟨u,hu,ru⟩:=rv.get hx
  have lt1:e<s.heap.objs.size:=aC h1
  refine wpAny_pyNext_enum_item h1 h2 p.isList (x:=u) (by simpa using hu) hne λh' k1 k2 k3 k4 k5=>?_
  refine⟨_,rfl,?_⟩
  refine wpAny_letOwnedTupleGo_enum (s:={s with heap:=h',toks:=s.toks+1}) k1 λh'' m1 m2=>?_
  have keep:∀ b o,b∉ [e,it]->s.heap.get? b=some o->h''.get? b=some o:=λb o hb q=>m2.extBut b o (λz=>hb (by simp[z])) (k5 b o (λz=>hb (by simp[z])) (λz=>hb (by simp[z])) q)
  have ht:h''.get? s.heap.objs.size=some {cls:=.type "tuple",data:=.seq [Value.int i s.toks,u].toArray} :=m2.extBut _ _ (cV lt1) k3
  have J1:Inv X pins σ (upd H s.heap.objs.size (.tup [.int i,x])) {s with heap:=h'',toks:=s.toks+1} :=Inv.rS I hf keep (.cons ⟨_,rfl⟩ (.cons ru .nil)) (by show 2<=sizeLine;decide) ht
  have hn:H s.heap.objs.size=none:=I.fresh
  refine⟨.ref s.heap.objs.size,_,J1,rfl,⟨_,hn,rfl,λys y hy h=>?_⟩,⟨u,?_,?_⟩,λb hb=>?_⟩
  ·have e1:=I.rm hy hq
   subst e1
   rw[hx]at h
   cases h
   rfl
  ·have e1:((i+1:Nat):Int)=(i:Int)+1:=by omega
   rw[e1];exact m1
  ·exact k2.extBut m2.extBut (bI hne)
  ·obtain⟨o,q,_⟩:∃ o,s.heap.get? b=some o/\True:=by
    rcases aG.mp hb with z |z
    ·subst z;exact⟨_,h1,trivial⟩
    ·have z:b=it:=by simpa using z
     subst z
     obtain⟨o,ho,_⟩:=h2
     exact⟨o,ho,trivial⟩
   rw[fG (aL (aC q))]
   exact(hf b hb).1
 done:=by
  intro X hP hw hK hc i pins s σ H E I hf st hg
  subst hP hw hK
  obtain⟨old,h1,h2⟩:=st
  obtain⟨xs,hq,hx⟩:=hg
  obtain⟨its,rv,p,hz⟩:=I.list hq
  obtain⟨g0,g1,g2,g3,g4,g5⟩:=hf it (by simp)
  have hl:=rv.length
  exact wpAny_pyNext_enum_end (I.ok.hd hc) h1 h2 p.isList (by simp;omega) λh' eb=>⟨rfl,I.turned (t':=s.toks) (λb o hb e=>eb b o hb e) g0 g1 g3 g4 g5⟩
 self:=λ_ _ _ _ _ ⟨old,h1,h2⟩ h=>wpAny_pyIter_enum h1 h
section
variable {X:Cx}
def Kx (K:PySem.W.Frag)(ta:TA):TI:=λσ H R=>ta σ H λvs H1=>∃ a,vs = [.ref a]/\(∃ xs,SqL K H1 a xs)/\R (Ite K a) H1
theorem Gm {a:Expr}{ta:TA}{p pos:Pos}{es:List Expr}{x1:Nat}{pt:Pos}(hg:Gl X "enumerate")(hm:X.mg "enumerate" = none)(ha:PA X [a] ta)(hs:starEach [a] X.env = [(false,eval a X.env)]:=by rfl):PI X (.Tuple es x1 pt) (.Call (.Name "enumerate" p) [a] [] pos) (Kx X.K ta):=by
 intro pins s σ H R I h
 refine Call_ (qx I hg hm boot_enumerate (cD (thn (ha pos pins s σ H _ I h) λus s1 ⟨vs,H1,I1,r1,q1⟩=>?_) hs rfl))
 obtain⟨a,e,⟨xs,hq⟩,q⟩:=q1
 subst e
 obtain⟨u,rfl,ru⟩:=vals1 r1
 cases ru
 obtain⟨its,rv,pl,hz⟩:=I1.list hq
 refine call_enumerate_list pl.isList λh' k1 k2 k3 k4=>?_
 refine wpAny_pyIter_enum (s:={s1 with heap:=h'}) k1 ?_
 refine⟨s1.heap.objs.size+1,[s1.heap.objs.size+1,s1.heap.objs.size],_,_,H1,rfl,I1.kept (t':=s1.toks) k4,Cv a _ _ (Nat.succ_ne_self _),⟨.none,k1,k2⟩,λb hb=>?_,q⟩
 have hb':s1.heap.objs.size<=b:=by
  rcases aG.mp hb with z |z
  ·rw[z];exact Nat.le_succ _
  ·have z:b=s1.heap.objs.size:=by simpa using z
   rw[z];exact au _
 exact I1.Ds hb' (I1.hok.fresh hb')
end
theorem Fm {K:PySem.W.Frag}{a:Addr}{xs:List V}{g:TG}{tb:TS}{D:Ends}{σ:St}{H:Hp}(Pv:Nat->St->Hp->Prop)(h0:Pv 0 σ H)(hl:∀ i σ H,i<=xs.length->Pv i σ H->SqL K H a xs)
  (hs:∀ i x σ H p,xs[i]? = some x->Pv i σ H->H p=none->g (.ref p) σ (upd H p (.tup [.int i,x])) λσ2 H2=>tb {D with nx:=Pv (i+1),ct:=Pv (i+1),bk:=D.nx} σ2 H2) (hd:∀ σ H,Pv xs.length σ H->D.nx σ H):
  ∃ W:Nat->Nat->St->Hp->Prop,(∃ m,W 0 m σ H)/\∀ i m σ H,W i m σ H->
   ((Ite K a).stop i H/\D.nx σ H)\/((Ite K a).go i H/\∃ N:St->Hp->Prop,(∀ σ' H',N σ' H'->∃ m',m'<m/\W (i+1) m' σ' H')/\∀ x H',(Ite K a).yld i H x H'->g x σ H' λσ2 H2=>tb {D with nx:=N,ct:=N,bk:=D.nx} σ2 H2):=by
 refine⟨λi m σ H=>m=xs.length-i/\i<=xs.length/\Pv i σ H,⟨xs.length,by simp,aK _,h0⟩,?_⟩
 rintro i m σ H ⟨rfl,hi,p⟩
 have q:=hl i σ H hi p
 by_cases hlt:i<xs.length
 ·refine .inr ⟨⟨xs,xs[i],q,by simp[hlt]⟩,Pv (i+1),λσ' H' p'=>⟨xs.length-(i+1),by omega,rfl,hlt,p'⟩,λx H' y=>?_⟩
  obtain⟨pa,hp,e,y⟩:=y
  subst e
  have hx:xs[i]? = some xs[i]:=by simp[hlt]
  rw[y xs _ q hx]
  exact hs i _ σ H pa hx p hp
 ·have e:i=xs.length:=by omega
  subst e
  exact .inl ⟨⟨xs,q,au _⟩,hd σ H p⟩
section
variable {X:Cx}{tg:Expr}
end
section
variable {X:Cx}{e:Expr}{te:TE}{pos p2:Pos}
def HI (K:PySem.W.Frag)(te ts:TE):TE:=λσ H Q=>te σ H λx H1=>ts σ H1 λy H2=>∃ i,y = .int i/\∃ a xs,some i=some (-1:Int)/\x = .ref a/\SqL K H2 a xs/\∀ p,H2 p=none->Q (.ref p) (upd H2 p (.lst xs.reverse))
theorem Eo {st:Expr}{ts:TE}(he:PE X e te)(hs:PE X st ts):PE X (.Subscript e (.Slice none none (some st) p2) pos) (HI X.K te ts):=by
 intro pins s σ H Q I h
 refine Subscript_ (thn (he pins s σ H _ I h) λv s1 ⟨x,H1,I1,r1,q1⟩=>?_)
 refine wpAny_Slice ?_
 rw[evalPart_none]
 refine ai (ai (thn (nU hs pins s1 σ H1 (λo H2=>∃ a xs,o=some (-1)/\x = .ref a/\SqL X.K H2 a xs/\∀ p,H2 p=none->Q (.ref p) (upd H2 p (.lst xs.reverse))) I1 q1) λvk s3 ⟨o,H3,I3,pk,q3⟩=>?_))
 ·obtain⟨a,xs,rfl,rfl,hq,q⟩:=q3
  cases r1
  have I4:Inv X pins σ H3 {s3 with heap:=s3.heap.push {cls:=.type "slice",data:=.fields #[.none,.none,vk]}} :=I3.kept (t':=s3.toks) λb ob q=>ax _ q
  obtain⟨its,r,ht,hz⟩:=I4.list hq
  have hlen:=r.length
  refine tail_any (ops:=[.ref a,.ref s3.heap.objs.size]) ht.isList.typeIs slot_list_getitem.lookup ?_ (by with_unfolding_all rfl)
  refine wpAny_getItem_list_slice ht.isList (Heap.IsSliceOf.new ..) .none .none pk (by simp) ?_ (by rw[aM]<;>omega)
  rw[PySem.W.krv_pick]
  refine⟨.ref _,_,I4.laid (t':=s3.toks) (o:=.lst xs.reverse) (λb ob q=>ax _ q) (au _) ⟨by rw[cB];exact hz,its.reverse,0,r.reverse,?_⟩,rfl,q _ (I4.hok.fresh (au _))⟩
  exact aQ _ rfl
end
theorem mT {X:Cx} :jS X (.builtin "isinstance") (λxs H Q=>∃ x c t b,xs = [x,.ty c]/\sE X.K H x t/\PySem.W.kitOne X.K t (.type c)=some b/\Q (.bl b) H):=by
 intro pins s σ H xs us Q I r h
 obtain⟨x,c,t,b,rfl,ty,e,q⟩:=h
 obtain⟨u,u2,rfl,ru,rc⟩:=vals2 r
 cases rc
 exact Dd I ru ty e λtk=>⟨.bl b,H,I.tok tk,rfl,q⟩
theorem oU {K:PySem.W.Frag}{t:Value} :PySem.W.kitOne K t t=some true:=by unfold PySem.W.kitOne;rw[aJ (by simp)]
structure Bl (mg:Str->Option Value):Prop where
 len:mg "len" = none
 range:mg "range" = none
 sorted:mg "sorted" = none
 enumerate:mg "enumerate" = none
 reversed:mg "reversed" = none
 min:mg "min" = none
 max:mg "max" = none
 list:mg "list" = none
 int:mg "int" = none
 isinstance:mg "isinstance" = none
structure Fn (K:PySem.W.Frag)(mg:Str->Option Value)(x:Str)(st:Stmt)(ps:List Str)(f:Addr)(fd:FuncData):Prop where
 F:Fun K x x st f fd
 m:mg x=some (.ref f)
 b:Binds K fd ps []
def below (js:List (Int×Int))(e:Int):List Int:=(js.filter λp=>decide (p.2=e)).map (·.1)
def above (js:List (Int×Int))(e:Int):List Int:=(js.filter λp=>decide (p.1=e)).map (·.2)
def inc (js:List (Int×Int))(e:Int):Nat:=(below js e).length+(above js e).length
def jn (js:List (Int×Int))(e:Int):List Int:=srt (below js e++above js e)
theorem Kr (js:List (Int×Int))(e:Int):srt (above js e++below js e)=jn js e:=CB List.perm_append_comm
structure gv (l:Int×List (Int×Int)):Prop where
 one:1<=l.1
 most:l.1<=40
 len:l.2.length<=80
 inc:∀ e,inc l.2 e<=60
 ends:∀ p∈l.2,0<=p.1/\p.1<=p.2/\p.2<2*l.1
theorem inc_le (js:List (Int×Int))(e:Int):inc js e<=2*js.length:=by
 unfold inc below above
 rw[aa,aa]
 have h1:=bS (λp:Int×Int=>decide (p.2=e)) js
 have h2:=bS (λp:Int×Int=>decide (p.1=e)) js
 omega
def yA (H:Hp)(ns:List Int)(Q:VK):Prop:=∀ (p:Addr) (H':Hp),fI H H'->H p=none->H' p=some (.lst (ns.map V.int))->Q (.ref p) H'
theorem fI.upd {H H':Hp}{l:Addr}{o:HO}(s:fI H H')(hn:H l=none):fI H (upd H' l o):=λb u e=>by rw[fG (fK e hn)];exact s b u e
theorem ij {K:PySem.W.Frag}{H:Hp}{ns:List Int}{v:V} :Da K H (dI ns) v↔∃ a,v = .ref a/\SqL K H a (ns.map V.int):=by
 unfold dI
 refine Iff.trans ia ?_
 constructor
 ·rintro⟨a,vs,rfl,h,q⟩
  rw[nJ.mp q]at h
  exact⟨a,rfl,h⟩
 ·rintro⟨a,rfl,h⟩
  exact⟨a,_,rfl,h,nJ.mpr rfl⟩
theorem iu {K:PySem.W.Frag}{H:Hp}{ns:List Int}{p:Addr}(h:H p=some (.lst (ns.map V.int))):Da K H (dI ns) (.ref p):=ij.mpr ⟨p,rfl,SqL.of h⟩
theorem p9 {K:PySem.W.Frag}{H:Hp}{l:Int×List (Int×Int)}{v:V}(h:Da K H (dL l) v):∃ a b,v = .ref a/\SqT K H a [.int l.1,.ref b]/\∃ vs,SqL K H b vs/\Das K H (l.2.map dP) vs:=by
 unfold dL at h
 obtain⟨a,vs,rfl,ht,q⟩:=gR.mp h
 obtain⟨v1,r,rfl,h1,q⟩:=gm.mp q
 obtain⟨v2,r,rfl,h2,q⟩:=gm.mp q
 cases gS.mp q
 cases iC.mp h1
 unfold dJ at h2
 obtain⟨b,us,rfl,hl,q⟩:=ia.mp h2
 exact⟨a,b,rfl,ht,us,hl,q⟩
theorem oY {K:PySem.W.Frag}{H:Hp}{js:List (Int×Int)}{vs:List V}{i:Nat}{x:V}(h:Das K H (js.map dP) vs)(e:vs[i]? = some x):∃ a p,js[i]? = some p/\x = .ref a/\SqT K H a [.int p.1,.int p.2]:=by
 obtain⟨d,e1,hd⟩:=Dgs.get h e
 rw[aj]at e1
 cases q:js[i]? with
 |none=>rw[q]at e1;cases e1
 |some p=>
  rw[q]at e1
  cases e1
  unfold dP at hd
  obtain⟨a,us,rfl,ht,q⟩:=gR.mp hd
  obtain⟨v1,r,rfl,h1,q⟩:=gm.mp q
  obtain⟨v2,r,rfl,h2,q⟩:=gm.mp q
  cases gS.mp q
  cases iC.mp h1
  cases iC.mp h2
  exact⟨a,p,rfl,rfl,ht⟩
theorem uS (ms:List Int):FO (ms.map PyData.int):=⟨iD (λ_=>rfl) ms,by have:=gL (f:=PyData.int) (k:=0) (λ_=>by simp[PyData.depth]) ms;omega⟩
theorem Ag (ms:List Int)(x:Int):((ms.map PyData.int).any λz=>PyData.eqv z (.int x))=decide (x∈ms):=by
 rw[List.any_map,bJ,eI,cq]
 constructor
 ·rintro⟨y,hy,e⟩
  have e':PyData.eqv (.int y) (.int x)=true:=e
  simp only[PyData.eqv,beq_iff_eq]at e'
  rw[<-e'];exact hy
 ·intro h
  exact⟨x,h,by show PyData.eqv (.int x) (.int x)=true;simp[PyData.eqv]⟩
theorem HC {σ:St}{H:Hp}{A B:Hp->Prop}(h:A H):Cy σ H (λb H3=>if b=true then A H3 else B H3):=vg (A:=A H) (B:=B H) h
theorem jF {i:Nat}{x:V}{σ:St}{H:Hp}{te:TE}{P1:VK}{P0:Hp->Prop}(h:te (σ.set i (some x)) H P1):oW i x σ H (λσ2 H2=>Cy σ2 H2 λb H3=>if b=true then te σ2 H3 P1 else P0 H3):=vg (A:=te (σ.set i (some x)) H P1) (B:=P0 H) h
theorem kM {α:Type}(xs:List α):(xs.filter λ_=>true)=xs:=by simp
section
variable {X:Cx}{K:PySem.W.Frag}
theorem uL (hK:X.K=K)(hu:X.A.units+64<cLine):OpR X (compareOp .NotIn) (JZ K true):=hK ▸ kK hu
theorem Gs (hK:X.K=K)(hu:X.A.units+64<cLine):OpR X (compareOp .Eq) (J0 K):=hK ▸ nZ hu
theorem zC (hK:X.K=K):IxR X (JY K):=hK ▸ hV
theorem yf (hK:X.K=K):IxR X (JX K):=hK ▸ gD
end
structure JS (J:It)(n:Nat)(H1:Hp)(it:Nat->V->Prop):Prop where
 go:∀ i H,fI H1 H->i<n->J.go i H
 yld:∀ i H x H',fI H1 H->i<n->J.yld i H x H'->H'=H/\it i x
 stop:∀ H,fI H1 H->J.stop n H
theorem ig {K:PySem.W.Frag}{a:Addr}{xs:List V}{H1:Hp}(hx:SqL K H1 a xs):JS (Itl K a) xs.length H1 (λi x=>xs[i]? = some x):=
 ⟨λi H s hi=>⟨xs,xs[i],s.seq hx,by simp⟩,λi H x H' s hi y=>⟨y.1,y.2 xs (s.seq hx)⟩,λH s=>⟨xs,s.seq hx,au _⟩⟩
theorem E7 {lo:Int}{n:Nat}{H1:Hp} :JS (Itr lo n) n H1 (λi x=>x = .int (lo+i)):=
 ⟨λi H s hi=>hi,λi H x H' s hi y=>y,λH s=>au _⟩
theorem zA {α:Type}{J:It}{n:Nat}{it:Nat->V->Prop}{l:Addr}{g:TG}{tt:TT}{te:TE}{cap:List (Option Nat)}{σ:St}{Q:VK}{H1:Hp}(S:JS J n H1 it)(ds:List α)(p:α->Bool)(f:α->V)(hn:H1 l=none)(hlen:n=ds.length)(hz:n<sizeLine)
  (hs:∀ (i:Nat) x d H,it i x->ds[i]? = some d->fI H1 H->∀ (P1:VK) (P0:Hp->Prop),(p d=true->P1 (f d) H)->(p d=false->P0 H)->
   g x (iG cap σ) H λσ2 H2=>tt σ2 H2 λb H3=>if b=true then te σ2 H3 P1 else P0 H3)
  (hq:Q (.ref l) (upd H1 l (.lst ((ds.filter p).map f)))):LcW J g tt te cap σ Q l H1:=by
 refine⟨λi m acc H=>m=n-i/\i<=n/\acc=((ds.take i).filter p).map f/\H=upd H1 l (.lst acc),⟨n,by simp,aK _,rfl,rfl⟩,?_⟩
 rintro i m acc H ⟨rfl,hi,e1,e2⟩
 have sm:fI H1 H:=by rw[e2];exact fB hn
 by_cases hlt:i<n
 ·refine .inr ⟨S.go i H sm hlt,λwj H'=>wj=((ds.take (i+1)).filter p).map f/\H'=upd H1 l (.lst wj),λwj H' ⟨p1,p2⟩=>⟨n-(i+1),by omega,rfl,hlt,p1,p2⟩,λx H' y0=>?_⟩
  obtain⟨e,y⟩:=S.yld i H x H' sm hlt y0
  clear y0
  subst e
  have hd:ds[i]? = some (ds[i]'(by omega)):=by simp
  generalize ds[i]'(by omega)=d at hd
  have step:((ds.take (i+1)).filter p).map f=acc++(if p d=true then[f d]else[]):=by
   rw[take_succ_filter p ds i d hd,aB,e1]
   cases p d<;>rfl
  refine hs i x d H' y hd sm _ _ (λhp=>?_) (λhp=>?_)
  ·refine⟨by rw[e2,fC],?_,?_,?_⟩
   ·have h1:acc.length<=i:=by
     rw[e1,aa]
     exact bF (bS _ _) (by rw[aT];omega)
    omega
   ·rw[step,hp];rfl
   ·rw[e2,qM]
  ·refine⟨?_,e2⟩
   rw[step,hp,aE aD,dN]
 ·have e:i=n:=by omega
  subst e
  refine .inl ⟨S.stop H sm,?_⟩
  rw[hlen,br]at e1
  rw[e2,e1]
  exact hq
abbrev Mv:=(Str×Int)×List Int
def dMv (m:Mv):PyData:=.tuple [.tuple [.str m.1.1,.int m.1.2],dI m.2]
def fr (l:Int×List (Int×Int))(ns:List Int)(e:Int):List Int:=(jn l.2 e).filter λt=> !decide (t/2∈ns.map (· / 2))
def onM (ns:List Int)(e:Int):Mv:=(("on",e),ns.drop 1 ++ [e])
def vS (ns:List Int)(e:Int):Mv:=(("back",e),oth e::ns.dropLast)
def mvs (l:Int×List (Int×Int))(ns:List Int):List Mv:=(fr l ns (oth (ns.getLastD 0))).map (onM ns)++(fr l ns (ns.headD 0)).map (vS ns)
def Lf (H H2:Hp)(t:Addr):Addr->List V->Prop:=λa us=>H2 a=some (.lst us)/\H a=none/\a≠t
theorem lU {K:PySem.W.Frag}{H:Hp}{t b:Addr}{vs xs:List V}{o:HO}(ht:H t=some (.lst vs))(h:SqT K H b xs):SqT K (upd H t o) b xs:=by
 rcases h with(h |⟨o,h⟩)|h
 ·exact .inl (.inl (by rw[fG (gA h ht (by intro z;cases z))];exact h))
 ·exact .inl (.inr ⟨o,by rw[fG (gA h ht (by intro z;cases z))];exact h⟩)
 ·exact .inr h
theorem Dgs.grow {K:PySem.W.Frag}{H H2 H5:Hp}{t:Addr}{o:HO}{vs:List V}{ds:List PyData}{us:List V}(D:Dgs (Lf H H2 t) (SqT K H2) ds us)(S5:fI H2 H5)(ht:H5 t=some (.lst vs)):
  Dgs (Lf H (upd H5 t o) t) (SqT K (upd H5 t o)) ds us:=
 Dgs.mono (λa us ⟨h1,h2,h3⟩=>⟨by rw[fG h3];exact S5 _ _ h1,h2,h3⟩) (λa us h=>lU ht (gd S5 h)) D
theorem pQ {K:PySem.W.Frag}{H H2 H5:Hp}{t p1 p4 p5:Addr}{vs:List V}{ms:List Mv}{w:Str}{e:Int}{xs:List Int}(S:fI H H2)(hn:H t=none)(ht:H2 t=some (.lst vs))(D:Dgs (Lf H H2 t) (SqT K H2) (ms.map dMv) vs)
  (S5:fI H2 H5) (h1:H5 p1=some (.tup [.str w,.int e])) (n4:H2 p4=none) (h4:H5 p4=some (.lst (xs.map V.int))) (h5:H5 p5=some (.tup [.ref p1,.ref p4])):
  fI H (upd H5 t (.lst (vs ++ [.ref p5])))/\(upd H5 t (.lst (vs ++ [.ref p5]))) t=some (.lst (vs ++ [.ref p5]))/\
   Dgs (Lf H (upd H5 t (.lst (vs ++ [.ref p5]))) t) (SqT K (upd H5 t (.lst (vs ++ [.ref p5])))) ((ms ++ [((w,e),xs)]).map dMv) (vs ++ [.ref p5]):=by
 have ht5:=S5 _ _ ht
 have q4:p4≠t:=(fK ht n4).symm
 refine⟨fI.upd (S.trans S5) hn,fC,?_⟩
 rw[aB]
 refine Dgs.append (D.grow S5 ht5) (Dgs.one ?_)
 refine gR.mpr ⟨p5,_,rfl,lU ht5 (SqT.of h5),Dgs.two ?_ ?_⟩
 ·exact gR.mpr ⟨p1,_,rfl,lU ht5 (SqT.of h1),Dgs.two (lH.mpr rfl) (iC.mpr rfl)⟩
 ·exact ia.mpr ⟨p4,_,rfl,⟨by rw[fG q4];exact h4,fI.free S n4,q4⟩,nJ.mpr rfl⟩
def FV (K:PySem.W.Frag)(H:Hp)(ms:List Mv)(Q:VK):Prop:=∀ (p:Addr) (vs:List V) (H':Hp),fI H H'->H p=none->H' p=some (.lst vs)->Dgs (Lf H H' p) (SqT K H') (ms.map dMv) vs->Q (.ref p) H'
theorem vM (ns:List Int):qg (ns.map V.int) (some 1) none=(ns.drop 1).map V.int:=by
 unfold qg
 rw[HT.uz]
 have e:HT.sIx (ns.map V.int).length 0 (some 1)=min 1 (ns.map V.int).length:=HT.Bt _ _ 1
 rw[e,aa,eJ]
 cases ns with
 |nil=>rfl
 |cons a r=>
  have e1:min 1 (a::r).length=1:=by simp
  rw[e1]
  simp
  exact cg (by simp)
theorem zS (ns:List Int):qg (ns.map V.int) none (some (-1))=ns.dropLast.map V.int:=by
 unfold qg
 have e:HT.sIx (ns.map V.int).length (ns.map V.int).length (some (-1))=ns.length-1:=by
  have h:=HT.GY (-1) (ns.map V.int).length (ns.map V.int).length
  rw[aa]at h ⊢
  rw[aJ (by decide)]at h
  omega
 rw[e,HT.uz,List.drop_zero,Nat.sub_zero,<-List.map_take,List.dropLast_eq_take]
theorem yw {ns:List Int}(h:ns≠ []):atI (ns.map V.int) (-1)=some (V.int (ns.getLastD 0)):=by
 obtain⟨r,x,rfl⟩:∃ r x,ns=r ++ [x]:=⟨ns.dropLast,ns.getLast h,(List.dropLast_concat_getLast h).symm⟩
 rw[aB]
 show atI (r.map V.int ++ [V.int x]) (-1)=_
 rw[FH]
 have e:(r ++ [x]).getLastD 0=x:=by simp[fi]
 rw[e]
theorem Af {ns:List Int}(h:ns≠ []):atI (ns.map V.int) 0=some (V.int (ns.headD 0)):=by
 cases ns with
 |nil=>exact absurd rfl h
 |cons a r=>exact mU (j:=0) rfl
abbrev NoL:Addr->List V->Prop:=λ_ _=>False
abbrev Ps (K:PySem.W.Frag)(H:Hp)(js:List (Int×Int))(vs:List V):Prop:=Dgs NoL (SqT K H) (js.map dP) vs
theorem Ps.same {K:PySem.W.Frag}{H H':Hp}{js:List (Int×Int)}{vs:List V}(D:Ps K H js vs)(S:fI H H'):Ps K H' js vs:=Dgs.mono (λ_ _ h=>h) (λ_ _ h=>gd S h) D
theorem Ps.Jx {K:PySem.W.Frag}{H:Hp}{js:List (Int×Int)}{vs us:List V}{t:Addr}{o:HO}(D:Ps K H js vs)(ht:H t=some (.lst us)):Ps K (upd H t o) js vs:=Dgs.mono (λ_ _ h=>h) (λ_ _ h=>lU ht h) D
theorem Ps.das {K:PySem.W.Frag}{H:Hp}{js:List (Int×Int)}{vs:List V}(D:Ps K H js vs):Das K H (js.map dP) vs:=Dgs.mono (λ_ _ h=>h.elim) (λ_ _ h=>h) D
theorem Ps.da {K:PySem.W.Frag}{H:Hp}{js:List (Int×Int)}{vs:List V}{t:Addr}(D:Ps K H js vs)(ht:H t=some (.lst vs)):Da K H (dJ js) (.ref t):=ia.mpr ⟨t,vs,rfl,SqL.of ht,D.das⟩
theorem Ps.len {K:PySem.W.Frag}{H:Hp}{js:List (Int×Int)}{vs:List V}(D:Ps K H js vs):vs.length=js.length:=by rw[D.length,aa]
theorem BA {K:PySem.W.Frag}{H:Hp}{p:Addr}{x:Int×Int}(h:H p=some (.tup [.int x.1,.int x.2])):Dg NoL (SqT K H) (dP x) (.ref p):=gR.mpr ⟨p,_,rfl,SqT.of h,Dgs.two (iC.mpr rfl) (iC.mpr rfl)⟩
theorem Ps.push {K:PySem.W.Frag}{H:Hp}{js:List (Int×Int)}{vs:List V}{t p:Addr}{x:Int×Int}{o:HO}(D:Ps K H js vs)(ht:H t=some (.lst vs))(hp:H p=some (.tup [.int x.1,.int x.2])):Ps K (upd H t o) (js ++ [x]) (vs ++ [.ref p]):=by
 show Dgs _ _ ((js ++ [x]).map dP) _
 rw[aB]
 exact(D.Jx ht).append (.one (Dg.mono (λ_ _ h=>h) (λ_ _ h=>lU ht h) (BA hp)))
theorem Ps.ins {K:PySem.W.Frag}{H:Hp}{js:List (Int×Int)}{vs:List V}{t p:Addr}{x:Int×Int}{o:HO}(i:Nat)(D:Ps K H js vs)(ht:H t=some (.lst vs))(hp:H p=some (.tup [.int x.1,.int x.2])):Ps K (upd H t o) (js.take i++x::js.drop i) (vs.take i ++ .ref p::vs.drop i):=by
 show Dgs _ _ ((js.take i++x::js.drop i).map dP) _
 rw[aB,bg,List.map_take,eJ]
 exact Dgs.insert i (D.Jx ht) (Dg.mono (λ_ _ h=>h) (λ_ _ h=>lU ht h) (BA hp))
theorem xj {K:PySem.W.Frag}{H:Hp}{l:Int×List (Int×Int)}{p t:Addr}(h:H p=some (.tup [.int l.1,.ref t]))(hd:Da K H (dJ l.2) (.ref t)):Da K H (dL l) (.ref p):=gR.mpr ⟨p,_,rfl,SqT.of h,Dgs.two (iC.mpr rfl) hd⟩
theorem zc {α:Type}(l:List α)(i:Nat)(x:α):(l.take i++x::l.drop i).Perm (x::l):=by
 have h:=List.perm_middle (a:=x) (l₁:=l.take i) (l₂:=l.drop i)
 rw[cZ]at h
 exact h
theorem AH (i j:Int):(if j<i then j else i)=min i j:=by omega
theorem AI (i j:Int):(if j>i then j else i)=max i j:=by omega
theorem yx {ns:List Int}{i:Int}(h0:0<=i)(h1:i<ns.length):∃ x,ns[i.toNat]? = some x/\x∈ns/\atI (ns.map V.int) i=some (V.int x):=by
 have hlt:i.toNat<ns.length:=by omega
 refine⟨ns[i.toNat],by simp,eG _,?_⟩
 have h:=mU (xs:=ns.map V.int) (j:=i.toNat) (v:=V.int ns[i.toNat]) (by rw[aj];simp)
 have e1:((i.toNat:Nat):Int)=i:=by omega
 rw[e1]at h
 exact h
end TL
namespace L2
open PySem PySem.Spec PySem.Calls PyProof.Rows PySem.W
section
variable {prog:Program}{w:World}{A:Around}{E:Value->Shared->Prop}{s:Shared}{K:Frag}{a C:Addr}{o:Obj}
theorem xty {M:Model}{h:Heap}(hx:h.get? a=some o)(hc:o.cls = .ref C):Looks M h (typeOf (.ref a)) (.ref C):=hc ▸ (Looks.ld hx).andThen .now
open Builtin Builtin.ObjectAttr Builtin.Getset_descriptor in
theorem FZ {R:Result->Shared->Prop}{tp:Value}(X:K.In s.heap)(hx:s.heap.get? a=some o)(hc:o.cls = .ref C)(hm:mroIn K C (.type "object")=some true)
  (h:R (.ok (.ret (.ref C))) s):codeAny (model prog w) A (.call (.builtin "getset_descriptor.__get__") ⟨[.builtin "object.__class__",.ref a,tp],[]⟩) R s:=by
 obtain⟨hh,g,dr,t,os⟩:=s
 have L0:=xty (M:=model prog w) hx hc
 have L1:=looks_mroIn (M:=model prog w) X hm
 refine codeAny_call_builtin KF.slot_gs.plain KF.entry_gs (KF.slot_gs.check _ _ _ _ _ _ _ _ KF.type_class (KF.args_gs _ _ _) ?_)
 unfold Builtin.«getset_descriptor.__get__» descrGet
 rw[dga_obj]
 refine ae (ai ?_)
 unfold descrGetter descrCheckInstance descrNameAndClass isInstance
 simp only[KF.owner_class]
 repeat lk
 refine⟨Code.quiet_builtin _ (by decide +kernel),codeAny_builtin KF.entry_class ?_⟩
 unfold Builtin.«object.__class__» shownTypeOf
 repeat lk
 exact h
theorem Cn {tk:Tok}{Q:PySem.Fin->Shared->Prop}(X:K.In s.heap)(hx:s.heap.get? a=some o)(hc:o.cls = .ref C)(hm:mroIn K C (.type "object")=some true)
  (ha:findIn K (.ref C) "__class__" = some (some (.builtin "object.__class__"))) (hq:Q (.done (.ret (.ref C))) s):
  wpAny (model prog w) A (Builtin.«object.__getattribute__» ⟨[.ref a,.str "__class__" tk],[]⟩) Q E s:=by
 obtain⟨h,g,d,t,os⟩:=s
 have hT5:(⟨h,g,d,t,os⟩:Shared).TypeIs (.builtin "object.__class__") "getset_descriptor" :=F.typeOf_object_class
 have L0:=xty (M:=model prog w) hx hc
 have L1:=looks_findIn (M:=model prog w) X ha
 have f5:=F.typeOf_object_class
 have f6:=F.slot_gs_get.lookup
 have f7:=F.slot_gs_set.lookup
 repeat (any_goals (first |assumption |with_reducible refine L0.at ?_ |with_reducible refine L1.at ?_ |(with_reducible refine wpAny_loadPart_at hx ?_;rw[hc])|wp_step))
 refine FZ (K:=K) X hx hc hm ?_
 repeat (any_goals (first |assumption |wp_step))
theorem Co {M:Model}{Hi:Value}{Q:Unit->Shared->Prop}(X:K.In s.heap)(hx:s.heap.get? a=some o)(hc:o.cls = .ref C)(hb:mroIn K C (.type "BaseException")=some true)(hq:Q () s):
  wpAny M A (checkBuiltinCall "BaseException.__getattribute__" ⟨[.ref a,Hi],[]⟩) Q E s:=by
 obtain⟨h,g,d,t,os⟩:=s
 have hk:builtinKind "BaseException.__getattribute__" = some .slot:=by decide +kernel
 have IT:splitId "BaseException.__getattribute__" = some ("BaseException","__getattribute__"):=by decide +kernel
 have ha:=F.args_bexc_ga (.ref a) Hi
 have L0:=xty (M:=M) hx hc
 have L1:=looks_mroIn (M:=M) X hb
 simp only[checkBuiltinCall,hk,IT]
 refine ae ?_
 ·unfold isInstance
  repeat (first |with_reducible refine L0.at ?_ |with_reducible refine L1.at ?_ |wp_step)
  exact hq
theorem DL {tk:Tok}{R:Result->Shared->Prop}(X:K.In s.heap)(hx:s.heap.get? a=some o)(hc:o.cls = .ref C)(hm:mroIn K C (.type "object")=some true)(hb:mroIn K C (.type "BaseException")=some true)
  (ha:findIn K (.ref C) "__class__" = some (some (.builtin "object.__class__"))) (hq:R (.ok (.ret (.ref C))) s):
  codeAny (model prog w) A (.call (.builtin "BaseException.__getattribute__") ⟨[.ref a,.str "__class__" tk],[]⟩) R s:=
 codeAny_call_builtin (by decide +kernel) F.entry_bexc_ga (Co X hx hc hb (Cn X hx hc hm ha hq))
theorem HD {tk:Tok}{Q:Value->Shared->Prop}(X:K.In s.heap)(hx:s.heap.get? a=some o)(hc:o.cls = .ref C)(hm:mroIn K C (.type "object")=some true)(hb:mroIn K C (.type "BaseException")=some true)
  (ha:findIn K (.ref C) "__class__" = some (some (.builtin "object.__class__"))) (hg:findIn K (.ref C) "__getattribute__" = some (some (.builtin "BaseException.__getattribute__"))) (hn:findIn K (.ref C) "__getattr__" = some none)
  (hq:Q (.ref C) s):wpAny (model prog w) A (getAttrBy (.ref a) (.str "__class__" tk) false) Q E s:=by
 have X':=X
 have hx':=hx
 obtain⟨h,g,d,t,os⟩:=s
 have f3:=PySem.F.attr_ValueError.ga.bind (.ref a)
 have hx2:(Value.builtin "BaseException.__getattribute__" == Value.builtin "object.__getattribute__")=false:=by decide +kernel
 have hx1:(onTheHeap (Value.ref C)&&Value.builtin "BaseException.__getattribute__" == Value.builtin "object.__getattribute__")=false:=by rw[hx2];rfl
 have L0:=xty (M:=model prog w) hx hc
 have L1:=looks_findIn (M:=model prog w) X hg
 have L2:=looks_findIn (M:=model prog w) X hn
 repeat (any_goals (first |assumption |with_reducible refine L0.at ?_ |with_reducible refine L1.at ?_ |with_reducible refine L2.at ?_ |wp_step))
 refine DL (K:=K) X' hx' hc hm hb ha ?_
 repeat (any_goals (first |assumption |wp_step))
theorem DM {Q:Option Value->Shared->Prop}(X:K.In s.heap)(hx:s.heap.get? a=some o)(hc:o.cls = .ref C)(hm:mroIn K C (.type "object")=some true)(hb:mroIn K C (.type "BaseException")=some true)
  (ha:findIn K (.ref C) "__class__" = some (some (.builtin "object.__class__"))) (hg:findIn K (.ref C) "__getattribute__" = some (some (.builtin "BaseException.__getattribute__"))) (hn:findIn K (.ref C) "__getattr__" = some none)
  (hq:Q (some (.ref C)) {s with toks:=s.toks+1}):wpAny (model prog w) A (getAttr? (.ref a) "__class__") Q E s:=by
 have X':=X
 have hx':=hx
 obtain⟨h,g,d,t,os⟩:=s
 unfold getAttr? getAttrBy?
 repeat (any_goals (first |assumption |with_reducible apply HD (K:=K) (s:=⟨h,g,d,t+1,os⟩) X' hx' hc hm hb ha hg hn |wp_step))
structure ExC (K:Frag)(C:Addr):Prop where
 obj:mroIn K C (.type "object")=some true
 bex:mroIn K C (.type "BaseException")=some true
 cls:findIn K (.ref C) "__class__" = some (some (.builtin "object.__class__"))
 ga:findIn K (.ref C) "__getattribute__" = some (some (.builtin "BaseException.__getattribute__"))
 gn:findIn K (.ref C) "__getattr__" = some none
 isc:(clsIn K C).isSome=true
def XAt (a:Addr)(C:Addr)(h:Heap):Prop:=∃ o,h.get? a=some o/\o.cls = .ref C
theorem E3 (e:ExC K C):KitX K (.ref a) (.ref C) (XAt a C) where
 ty:=λ_ _ _ ⟨_,h1,h2⟩=>xty h1 h2
 it:=λ_ _ X _=>by
  have hC:=e.isc
  unfold clsIn at hC
  split at hC
  ·rename_i c' d' cd' sl' ho
   intro A' Q' E' s' k q
   unfold isType loadHead
   exact ae (wpAny_loadPart (k _ _ (X _ _ ho)) (ai q))
  ·cases hC
 ne:=λh tp dd its n sl X htp=>by
  have hC:=e.isc
  refine Bool.eq_false_iff.mpr λq=>?_
  have e':C=tp:=Value.ref.inj (beq_iff_eq.mp q)
  subst e'
  unfold clsIn at hC
  split at hC
  ·rename_i c' d' cd' sl' ho
   have z:=(X _ _ ho).symm.trans htp
   cases z
  ·cases hC
 ca:=λX ⟨_,h1,h2⟩ k=>DM X h1 h2 e.obj e.bex e.cls e.ga e.gn k
end
section
variable {P:Program}{w:World}{H H1:Hp}{h:Heap}{a:Addr}{o:HO}
theorem iA.some (x:iA P w H h a o):∃ u,h.get? a=Option.some u:=by
 cases o with
 |lst xs=>obtain⟨_,_,_,_,e⟩:=x;exact⟨_,e⟩
 |tup xs=>obtain⟨_,_,_,p⟩:=x;obtain⟨u,e,_⟩:=p;exact⟨u,e⟩
 |dK kvs=>obtain⟨_,_,_,_,o,_,_,e,_⟩:=x;exact⟨_,e⟩
 |dT kvs=>obtain⟨_,_,_,_,o,_,_,e,_⟩:=x;exact⟨_,e⟩
 |set S n=>obtain⟨o,_,_,_,e,_⟩:=x;exact⟨_,e⟩
 |ins C dx fs=>obtain⟨_,_,_,e,_⟩:=x;exact⟨_,e⟩
 |own y=>obtain⟨_,e⟩:=x;exact⟨_,e⟩
 |xd fs=>obtain⟨_,⟨_,_,_,e,_⟩,_⟩:=x;exact⟨_,e⟩
 |rng lo hi=>obtain⟨_,_,_,e⟩:=x;exact⟨_,e⟩
 |frz ob u=>obtain⟨e,_⟩:=x;exact⟨_,e⟩
 |tbl ps=>exact⟨_,(show h.get? a=Option.some _ from x)⟩
 |met f y=>exact⟨_,(show h.get? a=Option.some _ from x)⟩
 |ext φ=>obtain⟨_,⟨_,e⟩,_⟩:=x;exact⟨_,e⟩
theorem HOk.none_of (x:HOk P w H h)(e:h.get? a=Option.none):H a=Option.none:=by
 cases q:H a with
 |none=>rfl
 |some u=>obtain⟨v,z⟩:=(x a u q).some;rw[e]at z;cases z
end
structure Fl0 (P:Program)(w:World)(base:Heap)(l:List Env)(H H1:Hp)(h0 B h:Heap):Prop where
 bas:base.StaysIn B
 hok:HOk P w H1 B
 kp:∀ b o,h0.get? b=some o->H b=none->b∉frs l->B.get? b=some o
 thr:∀ b o,h0.get? b=some o->b∉frs l->∃ o',B.get? b=some o'
 un:Un (frs l) [] H H1 h0 h
theorem Fl0.step {P:Program}{w:World}{base:Heap}{l:List Env}{H H1:Hp}{h0 B h h':Heap}(x:Fl0 P w base l H H1 h0 B h)(st:B.StaysIn h')(ff:h.FunFrames B l)(ff':h'.FunFrames B l)(sm:h.UpToSlots h'):
  Fl0 P w base l H H1 h0 B h':=by
 refine⟨x.bas,x.hok,x.kp,x.thr,⟨λb o q n hb _=>st b o (x.kp b o q n hb),λb o q n hb _=>?_,x.un.free,λb o q _=>?_,x.un.kD,x.un.oE,x.un.qu⟩⟩
 ·obtain⟨sl,e⟩:=x.un.slot b o q n hb (by simp)
  obtain⟨_,o2,e2,nf⟩:=ff.mem hb
  rw[e]at e2;cases e2
  obtain⟨sl',e'⟩:=sm b _ e nf
  exact⟨sl',e'⟩
 ·by_cases hb:b∈frs l
  ·obtain⟨_,o2,e2,_⟩:=ff'.mem hb
   exact⟨o2,e2⟩
  ·obtain⟨o',e⟩:=x.thr b o q hb
   exact⟨o',st b o' e⟩
structure Fl (P:Program)(w:World)(base:Heap)(l:List Env)(H H1:Hp)(h0:Heap)(e C:Addr)(B h:Heap):Prop extends Fl0 P w base l H H1 h0 B h where
 fly:∃ a0,Heap.FlyingW B l e (.ref C) a0 h
def CXr (P:Program)(w:World)(base:Heap):CXT:=λl H s E ev s'=>
 ∃ e C H1 B,ev = .ref e/\s'.os=s.os/\AllBare s'.gens/\Fl P w base l H H1 s.heap e C B s'.heap/\E (.ref C) (some e) H1
section
variable {X:Cx}{pins:List (Addr×Obj)}{σ:St}{H H1:Hp}{s s':Shared}{e C:Addr}{B:Heap}
theorem Fl.inv (x:Fl X.prog X.w X.base X.stack H H1 s.heap e C B s'.heap)(I:Inv X pins σ H s)(ho:s'.os=s.os)(hg:AllBare s'.gens):Inv X pins σ H1 s':=by
 obtain⟨a0,f⟩:=x.fly
 exact I.Hy (ch:=[]) ho x.un (x.hok.kept f.1) hg (λb z=>absurd z (by simp))
theorem Eg {M:Model}{E:Value->Shared->Prop}{Q:Unit->Shared->Prop}{h':Heap}{vs:List Value}(I:Inv X pins σ H s)(hst:X.stack=X.env::X.outer)(hf:X.env.frame=some X.env.locals)(hex:X.ex = [])
  (hx:Heap.MadeExcOf s.heap h' e (.ref C) vs) (hQ:∀ B h'',Fl X.prog X.w X.base X.outer X.H₀ H X.s₀.heap e C B h''->Q () {s with heap:=h''}):
  wpAny M X.A (leaving X.env (.ref e)) Q E {s with heap:=h'} :=by
 have hfr:=I.ok.frames
 rw[hst]at hfr
 have GK:=I.stack
 rw[hst]at GK
 have hin:∀ env∈(X.env::X.outer),∀ b,env.frame=some b->b∈frs (X.env::X.outer):=λenv he b hb=>fb.mpr ⟨env,he,hb⟩
 have nb:∀ b,b≠X.env.locals->b∉X.fs->b∉frs (X.env::X.outer):=λb h1 h2 hb=>by
  unfold frs at hb
  rw[dE,hf]at hb
  rcases aG.mp hb with z |z
  ·exact h1 z
  ·exact h2 z
 have neL:∀ b o,X.s₀.heap.get? b=some o->b≠X.env.locals:=λb o e=>aL (aX (aC e) I.ok.above)
 refine wpAny_leaves_madeW (base:=hideAll s.heap (frs (X.env::X.outer))) hfr hf (λb o q=>of_hideAll _ q) (funFrames_hide GK hin) hx λh'' t x1 x2 x3 x4=>?_
 have hok:HOk X.prog X.w H (hideAll s.heap (frs (X.env::X.outer))):=λb u q=>by
  refine(I.hok b u q).lA (λc v hc z=>hideAll_get _ z λhm=>?_) (λ_ z=>z) λ_ _ z=>z
  have hn:H c=none:=I.xA c (by rw[hst];exact hm)
  rcases hc with rfl |hc
  ·rw[hn]at q;cases q
  ·rw[hn]at hc;cases hc
 have z0:Fl0 X.prog X.w X.base X.outer X.H₀ H X.s₀.heap (hideAll s.heap (frs (X.env::X.outer))) h':=by
  have ub:Un X.fs [] X.H₀ H X.s₀.heap s.heap:=by have:=I.base;rw[hex]at this;exact this
  refine⟨λb o q=>hideAll_get _ (I.bk b o q) λhm=>?_,hok,λb o q n hb=>hideAll_get _ (ub.keep b o q n hb (by simp)) (nb b (neL b o q) hb),λb o q hb=>?_,ub.trans (Un.kept hx.keeps)⟩
  ·have:=(GK.mem hm).1
   rw[q]at this;cases this
  ·obtain⟨o',e1⟩:=ub.there b o q (by simp)
   exact⟨o',hideAll_get _ e1 (nb b (neL b o q) hb)⟩
 have ff:h'.FunFrames (hideAll s.heap (frs (X.env::X.outer))) X.outer:=by
  obtain⟨_,_,z⟩:=(funFrames_hide GK hin).of_keeps λb o hb _=>⟨o,hx.keeps b o hb,rfl⟩
  exact z
 exact hQ _ h'' ⟨z0.step x1.1 ff x1.2.2.1 x4,_,x1⟩
theorem Gq {M:Model}{E:Value->Shared->Prop}{Q:Unit->Shared->Prop}(I:Inv X pins σ H s)(hst:X.stack=X.env::X.outer)(hf:X.env.frame=some X.env.locals)(hex:X.ex = [])
  (ho:s'.os=s.os) (hg:AllBare s'.gens) (x:Fl X.prog X.w X.base X.stack H H1 s.heap e C B s'.heap) (hQ:∀ B h'',Fl X.prog X.w X.base X.outer X.H₀ H1 X.s₀.heap e C B h''->Q () {s' with heap:=h''}):
  wpAny M X.A (leaving X.env (.ref e)) Q E s':=by
 have J:=x.inv I ho hg
 have hfr:=I.ok.frames
 obtain⟨a0,f⟩:=x.fly
 have nb:∀ b,b≠X.env.locals->b∉X.fs->b∉frs X.stack:=λb h1 h2 hb=>(aG.mp (I.mZ b hb)).elim h1 h2
 have neL:∀ b o,X.s₀.heap.get? b=some o->b≠X.env.locals:=λb o e=>aL (aX (aC e) I.ok.above)
 rw[hst]at hfr f
 have ub:Un X.fs [] X.H₀ H X.s₀.heap s.heap:=by have:=I.base;rw[hex]at this;exact this
 have uj:Un X.fs [] X.H₀ H1 X.s₀.heap s'.heap:=by have:=J.base;rw[hex]at this;exact this
 have z0:Fl0 X.prog X.w X.base X.outer X.H₀ H1 X.s₀.heap B s'.heap:=by
  refine⟨x.bas,x.hok,λb o q n hb=>x.kp b o (ub.keep b o q n hb (by simp)) (ub.free b o q n (by simp)) (nb b (neL b o q) hb),λb o q hb=>?_,uj⟩
  obtain⟨o',e1⟩:=ub.there b o q (by simp)
  exact x.thr b o' e1 (nb b (neL b o q) hb)
 have ff:s'.heap.FunFrames B X.outer:=f.2.2.1.2.2
 exact wpAny_leaves_onW hfr hf f λh'' x1 x2=>hQ B h'' ⟨z0.step x1.1 ff x1.2.2.1 x2,a0,x1⟩
end
section
variable {P:Program}{w:World}{K:PySem.W.Frag}{mg:Str->Option Value}{base:Heap}{N:List Str}{qual:Str}{scope:Scope}{f:Addr}{cd:Value}{A:Around}{outer:List Env}{s₀:Shared}{H₀:Hp}{E:XK}
def Raises (X:Cx)(E:XK):Prop:=∀ (pins:List (Addr×Obj)) (σ:St) (H:Hp) (s:Shared) (h':Heap) (e C:Addr) (vs:List Value),Inv X pins σ H s->Heap.MadeExcOf s.heap h' e (.ref C) vs->E (.ref C) (some e) H->X.xe (.ref e) {s with heap:=h'}
theorem me:Raises (yo (CXr P w base) P w K mg base N qual scope f cd A outer s₀ H₀ E) E:=λpins σ H s h' e C vs I hx q=>
 Eg I rfl rfl rfl hx λB h'' z=>⟨e,C,H,B,rfl,I.os,I.bare,z,q⟩
theorem nE:Passes (CXr P w base) (yo (CXr P w base) P w K mg base N qual scope f cd A outer s₀ H₀ E) E:=λpins σ H s e s' I hx=>by
 obtain⟨a,C,H1,B,rfl,ho,hg,z,q⟩:=hx
 exact Gq I rfl rfl rfl ho hg z λB' h'' z'=>⟨a,C,H1,B',rfl,ho.trans I.os,hg,z',q⟩
end
theorem GR {K:Frag}{h:Heap}{C:Addr}{bmB:List Value}{newId:String}(X:K.In h)(q:excIn K C bmB newId=true):
  ∃ bm N nm qn bs hdct sn sub ab col dd k0 k1 k2 k3 k5 mN,h.get? C=some (excClassObj nm qn C N bs bm hdct sn sub ab col dd k0 k1 k2 k3 k5 newId)/\h.Ns N mN/\mN "__init__" = none/\OwnTail h bmB bm:=by
 unfold excIn at q
 split at q
 ·rename_i d1 c1 l1 lk
  split at q
  ·rename_i D1 tl j0 j1 j2 j3 nn j5 e1 e2
   simp only[fz,beq_iff_eq,Bool.not_eq_true']at q
   obtain⟨⟨⟨⟨⟨q1,q2⟩,q3⟩,q4⟩,q5⟩,q6⟩:=q
   subst q1 q2
   cases c1
   dsimp only at e1 q3 q5 q6
   subst e1 q3
   cases l1
   dsimp only at e2
   subst e2
   exact⟨tl,_,_,_,_,_,_,_,_,_,d1,j0,j1,j2,j3,j5,_,X _ _ lk,.of_isNs (isNs_of_in X q5),nsMap_none_of_in X q5 q6,tail_of_in X q4⟩
  ·cases q
 ·cases q
section
variable {X:Cx}{E:XK}{x:Str}{np kE pos:Pos}{C:Addr}{bmB:List Value}{Bn newId IK:String}{e₀:Expr}{rest:List Expr}{ta:TA}
def HJ (C:Addr)(E:XK)(ta:TA):TS:=λ_ σ H=>ta σ H λvs H1=>vs.length<=sizeLine/\∀ e,H1 e=none->E (.ref C) (some e) H1
theorem nA (hR:Raises X E)(hc:X.calm=true)(hg:Gl X x)(hm:X.mg x=some (.ref C))(q:excIn X.K C bmB newId=true)(FB:ExcBaseFacts Bn newId IK bmB)(ha:PA X (e₀::rest) ta)
  (he:starEach (e₀::rest) X.env=(false,eval e₀ X.env)::starEach rest X.env:=by rfl) (hpl:(backTo kE (starEach rest X.env)).any (·.1)=false:=by rfl) (hd:(x==("__debug__" :Str))=false:=by decide):
  PS X (.Raise (some (.Call (.Name x np) (e₀::rest) [] kE)) none pos) (HJ C E ta):=by
 intro pins s σ H D I h
 obtain⟨tl,N,nm,qn,bs,hdct,sn,sub,ab,col,dd,k0,k1,k2,k3,k5,mN,hC,hN,hni,T⟩:=GR I.mod.kin q
 refine wpAny_Raise_call_subT (C:=C) (nm:=nm) (q:=qn) (N:=N) (bs:=bs) (bm:=tl) (hdct:=hdct) (sn:=sn) (sub:=sub) (ab:=ab) (col:=col) (dd:=dd) (k0:=k0) (k1:=k1) (k2:=k2) (k3:=k3) (k5:=k5)
  FB (mN:=mN) (T.hasType FB.hasBase) (I.ok.hd hc) (by rw[he];show(false||(backTo kE (starEach rest X.env)).any (·.1))=false;rw[hpl];rfl) hni (oj I hg hm ⟨rfl,?_⟩ hd)
 have h2:=ha kE pins s σ H _ I h
 rw[he]at h2 ⊢
 exact Calls.evalArgs_plain (bo h2 (λus s1 ⟨vs,H1,I1,r,z1,z2⟩=>⟨rfl,r.length ▸ z1,I1.bk _ _ hC,hN.keeps I1.bk,T.keeps I1.bk,λh' e hx=>hR pins σ H1 s1 h' e C us I1 hx (z2 e (I1.hok.none_of hx.new))⟩) λ_ _ y=>y)
end
def vG (e C:Addr):HO:=.ext (XAt e C)
theorem GS {P:Program}{w:World}{H:Hp}{h:Heap}{e C:Addr}{o:Obj}(ho:h.get? e=some o)(hc:o.cls = .ref C):iA P w H h e (vG e C):=
 ⟨⟨o,ho,hc⟩,⟨o,ho⟩,λh1 h2 ⟨o',e1,e2⟩ k=>⟨o',k o' e1,e2⟩⟩
section
variable {X:Cx}{pins:List (Addr×Obj)}{σ:St}{H H1:Hp}{s s':Shared}{e C:Addr}{B:Heap}
theorem Inv.JA {u:HO}(I:Inv X pins σ H s)(hn:H e=none)(h0:X.s₀.heap.get? e=none)(ho:iA X.prog X.w (upd H e u) s.heap e u)(nl:e≠X.env.locals)(nc:∀ x c,X.env.cells.lookup x=some c->c≠e)
  (np:∀ p∈X.pn++pins,p.1≠e):Inv X pins σ (upd H e u) s:=by
 have ne0:∀ b o,X.s₀.heap.get? b=some o->b≠e:=λb o q z=>by rw[z,h0]at q;cases q
 have neT:∀ b v,H b=some v->b≠e:=λb v q z=>by rw[z,hn]at q;cases q
 refine⟨I.ok,I.os,I.bare,⟨I.base.keep,I.base.slot,λb o q n hx=>?_,I.base.there,λb xs q=>?_,λb o v q=>?_,λb ps q=>?_⟩,I.loc,I.cell,?_,λx c q=>?_,λp hp=>?_,λb v q=>?_,I.len⟩
 ·rw[fG (ne0 b o q)];exact I.base.free b o q n hx
 ·have z:=I.base.kD b xs q;rw[fG (neT _ _ z)];exact z
 ·have z:=I.base.oE b o v q;rw[fG (neT _ _ z)];exact z
 ·obtain⟨m,z⟩:=I.base.qu b ps q;exact⟨m,by rw[fG (neT _ _ z)];exact z⟩
 ·rw[fG (bI nl)];exact I.free
 ·rw[fG (nc x c q)];exact I.kC x c q
 ·obtain⟨z1,z2,z3⟩:=I.pin p hp
  exact⟨z1,by rw[fG (np p hp)];exact z2,z3⟩
 ·by_cases hb:b=e
  ·subst hb;rw[fC]at q;cases q;exact ho
  ·rw[fG hb]at q
   exact(I.hok b v q).lA (λ_ _ _ z=>z) (λc z=>by rw[fG (neT _ _ z)];exact z) λc xs z=>by rw[fG (neT _ _ z)];exact z
theorem Fl.kept (x:Fl X.prog X.w X.base X.stack H H1 s.heap e C B s'.heap)(I:Inv X pins σ H s)(hex:X.ex = [])(ho:s'.os=s.os)(hg:AllBare s'.gens):Inv X pins σ (upd H1 e (vG e C)) s':=by
 have J:=x.inv I ho hg
 obtain⟨a0,f⟩:=x.fly
 obtain⟨oe,vs,he,hc,hd,_⟩:=f.first
 have nB:B.get? e=none:=f.2.1
 have nfr:e∉frs X.stack:=λhm=>by
  obtain⟨_,o,z,nf⟩:=f.2.2.1.mem hm
  rw[he]at z;cases z;exact nf vs hd
 refine J.JA (x.hok.none_of nB) ?_ (GS he hc) ?_ (λy c q z=>?_) λp hp z=>?_
 ·cases q:X.s₀.heap.get? e with
  |none=>rfl
  |some o=>
   obtain⟨o',z⟩:=I.base.there e o q (by rw[hex];simp)
   obtain⟨o2,z2⟩:=x.thr e o' z nfr
   rw[nB]at z2;cases z2
 ·rintro rfl
  obtain⟨m,⟨o,es,ep,z,hd',_⟩,_⟩:=J.loc
  rw[he]at z;cases z;rw[hd]at hd';cases hd'
 ·subst z
  obtain⟨v,o,z,hd'⟩:=J.cell y _ q
  rw[he]at z;cases z;rw[hd]at hd';cases hd'
 ·obtain⟨z1,z2,z3,z4,_⟩:=I.pin p hp
  have z5:=x.kp p.1 p.2 z1 z2 λhm=>(aG.mp (I.mZ _ hm)).elim z3 z4
  rw[z,nB]at z5;cases z5
abbrev Cx.lL (X:Cx)(e:Addr):Cx:={X with A:=X.A.mark (some (.ref e)),calm:=false,xe:=λ_ _=>False}
theorem Inv.lL (I:Inv X pins σ H s)(e:Addr):Inv (X.lL e) pins σ H s:=
 ⟨⟨I.ok.mod,I.ok.kind,I.ok.glob,I.ok.blt,I.ok.above,I.ok.inj,I.ok.has,I.ok.cab,(λz=>nomatch z),I.ok.frames,I.ok.stk,I.ok.exf,I.ok.bs,I.ok.bsz,I.ok.AE,I.ok.Du,I.ok.su,I.ok.frf⟩,I.os,I.bare,I.base,I.loc,I.cell,I.free,I.kC,I.pin,I.hok,I.len⟩
theorem Inv.uncaught (I:Inv (X.lL e) pins σ H s)(ok:X.Ok):Inv X pins σ H s:=⟨ok,I.os,I.bare,I.base,I.loc,I.cell,I.free,I.kC,I.pin,I.hok,I.len⟩
theorem name_goes {M:Model}{A:Around}{E:Value->Shared->Prop}{j:Nat}{n:Str}{pos:Pos}{Q:Unit->Shared->Prop}(I:Inv X pins σ H s)(hN:X.N.Nodup)(hj:X.N[j]? = some n)(hk:X.env.scope.names.lookup n=some .local)
  (h:∀ s',Inv X pins (σ.set j none) H s'->Q () s'):wpAny M A (do bindName X.env n .none;unbindBehindTheSuite X.env n pos) Q E s:=by
 obtain⟨m,hn,hl⟩:=id I.loc
 have Jd:(X.env.scope.kind == .class||(X.env.scope.kind == .module&&X.env.locals !=X.env.globals))=false:=by rw[I.ok.kind];rfl
 have hjσ:j<σ.length:=by rw[I.len];exact(af.mp hj).1
 refine wpAny_nameGoes_keeps hk hn Jd λh' v hn' hs=>h _ ?_
 have ne0:∀ b o,X.s₀.heap.get? b=some o->h'.get? b=s.heap.get? b:=λb o e=>hs.2 b (aL (aX (aC e) I.ok.above))
 refine⟨I.ok,I.os,I.bare,⟨λb o e n hb hx=>(ne0 b o e).trans (I.base.keep b o e n hb hx),λb o e n hb hx=>?_,I.base.free,λb o e hx=>?_,I.base.kD,I.base.oE,I.base.qu⟩,⟨_,hn',λi y v' e1 e2 e3=>?_⟩,
  λy c e=>?_,I.free,I.kC,λp hp=>?_,λb u e=>?_,by simpa using I.len⟩
 ·obtain⟨sl,z⟩:=I.base.slot b o e n hb hx
  exact⟨sl,(ne0 b o e).trans z⟩
 ·obtain⟨o',z⟩:=I.base.there b o e hx
  exact⟨o',(ne0 b o e).trans z⟩
 ·have hij:i≠j:=λz=>by subst z;rw[List.getElem?_set_self hjσ]at e2;cases e2
  rw[eO (bI hij)]at e2
  obtain⟨u',r',z⟩:=hl i y v' e1 e2 e3
  have ny:y≠n:=λz=>hij (uV hN e1 (z ▸ hj))
  refine⟨u',r',?_⟩
  rcases z with⟨k,z⟩|⟨k,c,z1,z2⟩
  ·exact .inl ⟨k,by show(if y=n then v else m y)=_;rw[aE ny];exact z⟩
  ·exact .inr ⟨k,c,z1,z2.sameBut hs (I.cne y c z1)⟩
 ·obtain⟨v',z⟩:=I.cell y c e
  exact⟨v',z.sameBut hs (I.cne y c e)⟩
 ·obtain⟨z1,z2,z3,z4,z5⟩:=I.pin p hp
  exact⟨(hs.2 p.1 z3).trans z1,z2,z3,z4,z5⟩
 ·refine(I.hok b u e).lA (λc v hc q=>(hs.2 c ?_).trans q) (λ_ q=>q) λ_ _ q=>q
  rintro rfl
  rcases hc with rfl |hc
  ·rw[I.free]at e;cases e
  ·rw[I.free]at hc;cases hc
end
theorem DK {M:Model}{A:Around}{E:Value->Shared->Prop}{K:Frag}{s:Shared}{e C D:Addr}{oe:Obj}{Q:Bool->Shared->Prop}(X:K.In s.heap)(he:s.heap.get? e=some oe)(hc:oe.cls = .ref C)
  (hty:typeIn K (.ref D)=some (.type "type")) (Ja:(clsIn K D).isSome=true) (hb:mroIn K D (.type "BaseException")=some true) (hm:mroIn K C (.ref D)=some true) (hq:Q true s):
  wpAny M A (excMatches (.ref e) (.ref D)) Q E s:=by
 obtain⟨h,g,d,t,os⟩:=s
 have L0:=xty (M:=M) he hc
 have L1:=looks_mroIn (M:=M) X hb
 have L2:=looks_mroIn (M:=M) X hm
 have L3:=looks_typeIn (M:=M) X hty
 have f:=tc_notTuple
 unfold clsIn at Ja
 split at Ja
 ·rename_i c' d' cd' sl' ho
  have hD:=X _ _ ho
  unfold excMatches
  repeat (first |with_reducible refine L0.at ?_ |with_reducible refine L3.at ?_ |with_reducible refine L1.at ?_ |with_reducible refine L2.at ?_ |with_reducible refine wpAny_loadPart_at hD ?_ |wp_step)
  exact hq
 ·cases Ja
def yz (CX:CXT)(X:Cx)(E:St->XK):Prop:=∀ (pins:List (Addr×Obj)) (σ:St) (H:Hp) (s:Shared) (e:Value) (s':Shared),Inv X pins σ H s->CX X.stack H s (E σ) e s'->X.xe e s'
def HP (sp:Sp)(dvs:List V)(E:St->XK)(t:TA):TE:=λσ H Q=>t σ H λvs H1=>sp (vs++dvs) H1 Q (E σ)
section
variable {X:Cx}{CX:CXT}{k:Nat}{f:Addr}{fd:FuncData}{ps:List Str}{sp:Sp}{dvs:List V}{ds:List Value}{E:St->XK}{x:Str}{p pos:Pos}{e:Expr}{es:List Expr}{t:TA}
theorem zh (F:fV X.prog X.w X.K X.mg X.base CX k f fd ps sp)(hr:mL k X.A)(hg:Gl X x)(hm:X.mg x=some (.ref f))(hk:PySem.W.keepIn X.K (.ref f)=true)(hb:Binds X.K fd ps ds)(hd:Vals dvs ds)(hx:yz CX X E)
  (ha:PA X (e::es) t) (hdb:(x==("__debug__" :Str))=false:=by decide) (he:starEach (e::es) X.env=(false,eval e X.env)::starEach es X.env:=by rfl) (hpl:(backTo pos (starEach es X.env)).any (·.1)=false:=by rfl):
  PE X (.Call (.Name x p) (e::es) [] pos) (HP sp dvs E t):=by
 intro pins s σ H Q I h
 refine fv (oj I hg hm ?_ hdb)
 refine PySem.W.callWith_K (h₀:=X.base) I.ok.mod.kin hk (thn (ha pos pins s σ H _ I h) λus s1 ⟨vs,H1,I1,r,q⟩=>⟨I1.kIn,?_⟩) he hpl
 have r2:Vals (vs++dvs) (us++ds):=r.append hd
 have hl:(us++ds).length=ps.length:=by rw[<-r2.length];exact F.len _ _ _ _ q
 refine wpAny_call (codeAny_mono (F.run X.A X.stack s1 H1 ⟨us,[]⟩ (us++ds) (vs++dvs) Q (E σ) hr I1.Lm (hb s1 us I1.kIn hl) r2 q) λr s' hq=>?_)
 cases r with
 |error e=>exact hx pins σ H1 s1 e s' I1 hq
 |ok fl=>
  cases fl with
  |ret u=>exact I1.after hq
  |next=>exact False.elim hq
  |brk=>exact False.elim hq
  |cont=>exact False.elim hq
end
abbrev Cx.nN (X:Cx)(pn:List (Addr×Obj))(W:Value->Shared->Prop):Cx:={X with pn:=X.pn++pn,xe:=W}
section
variable {X:Cx}{pins pn:List (Addr×Obj)}{σ:St}{H:Hp}{s:Shared}{W:Value->Shared->Prop}
theorem Inv.nN (I:Inv X pins σ H s)(W:Value->Shared->Prop):Inv (X.nN pins W) pins σ H s:=
 ⟨⟨I.ok.mod,I.ok.kind,I.ok.glob,I.ok.blt,I.ok.above,I.ok.inj,I.ok.has,I.ok.cab,I.ok.hd,I.ok.frames,I.ok.stk,I.ok.exf,I.ok.bs,I.ok.bsz,I.ok.AE,I.ok.Du,I.ok.su,I.ok.frf⟩,I.os,I.bare,I.base,I.loc,I.cell,I.free,I.kC,
  (λp hp=>I.pin p (by
   rcases aF.mp hp with z |z
   ·exact z
   ·exact aF.mpr (.inr z))),I.hok,I.len⟩
theorem Inv.qj (I:Inv (X.nN pn W) pins σ H s)(ok:X.Ok):Inv X pn σ H s:=
 ⟨ok,I.os,I.bare,I.base,I.loc,I.cell,I.free,I.kC,(λp hp=>I.pin p (aF.mpr (.inl hp))),I.hok,I.len⟩
end
structure rO (K:Frag)(D C:Addr):Prop where
 ty:typeIn K (.ref D)=some (.type "type")
 isc:(clsIn K D).isSome=true
 bex:mroIn K D (.type "BaseException")=some true
 mro:mroIn K C (.ref D)=some true
abbrev Ends.gone (D:Ends)(j:Nat):Ends:={nx:=λσ H=>D.nx (σ.set j none) H,rt:=D.rt,bk:=λσ H=>D.bk (σ.set j none) H,ct:=λσ H=>D.ct (σ.set j none) H}
def Lo (K:Frag)(D:Addr)(j:Nat)(th:TS)(Z:Ends):St->XK:=λσ c a H=>∃ e C,a=some e/\c = .ref C/\rO K D C/\th (Z.gone j) (σ.set j (some (.ref e))) (upd H e (vG e C))
def LJ (K:Frag)(D:Addr)(j:Nat)(tb:(St->XK)->TS)(th:TS):TS:=λZ σ H=>tb (Lo K D j th Z) Z σ H
section
variable {X:Cx}{body tZ:List Stmt}{b₀:Stmt}{x n:Str}{np AS pos:Pos}{D:Addr}{j:Nat}{tb:(St->XK)->TS}{th:TS}
theorem Ia (hst:X.stack=X.env::X.outer)(hfr:X.env.frame=some X.env.locals)(hex:X.ex = [])(hN:X.N.Nodup)(hj:X.N[j]? = some n)(hn:X.env.scope.names.lookup n=some .local)(hg:Gl X x)(hm:X.mg x=some (.ref D))
  (hb:∀ pn W (E:St->XK),yz (CXr X.prog X.w X.base) (X.nN pn W) E->PSs (X.nN pn W) body (tb E)) (hs:∀ e,PSs (X.lL e) (b₀::tZ) th) (hd:(x==("__debug__" :Str))=false:=by decide):
  PS X (.Try body [.ExceptHandler (some (.Name x np)) (some n) (b₀::tZ) AS] [] [] pos) (LJ X.K D j tb th):=by
 intro pins s σ H Z I h
 refine wpAny_Try_except ?_
 refine bo (hb pins (λe s₁=>wpAny (model X.prog X.w) X.A (noteFrame e X.env) (λ_ s₂=>wpAny (model X.prog X.w) X.A (setFlight e none) (λ_ s₃=>wpAny (model X.prog X.w) X.A (handleBy e X.env [.ExceptHandler (some (.Name x np)) (some n) (b₀::tZ) AS]) (SP X pins Z) X.xe s₃) X.xe s₂) X.xe s₁)
  (Lo X.K D j th Z) ?_ pins s σ H Z (I.nN _) h) (λf s1 q=>?_) λe s1 q=>q
 ·intro sU σ1 H1 s1 ev s2 I1' hx
  have I1:Inv X pins σ1 H1 s1:=I1'.qj I.ok
  obtain⟨e,C',H2,B,rfl,ho,zI,x0,e',C,z1,z2,cat,q⟩:=hx
  obtain rfl:e=e':=aP z1
  obtain rfl:C'=C:=by injection z2
  have x0:Fl X.prog X.w X.base X.stack H1 H2 s1.heap e C' B s2.heap:=x0
  obtain⟨a0,f0⟩:=x0.fly
  have Fh:=I.ok.frames
  rw[hst]at Fh
  have f0':=f0
  rw[hst]at f0'
  show wpAny (model X.prog X.w) X.A (noteFrame (.ref e) X.env) _ _ s2
  refine wpAny_looks_onW Fh hfr f0' λh4 hh4 sm4=>?_
  refine wpAny_landsW hh4 λh5 f5 sm5=>?_
  have f5':Heap.FlyingW B X.stack e (.ref C') a0 h5:=by rw[hst];exact f5
  have x5:Fl X.prog X.w X.base X.stack H1 H2 s1.heap e C' B h5:=⟨x0.toFl0.step f5'.1 f0.2.2.1 f5'.2.2.1 (sm4.trans sm5),a0,f5'⟩
  have I5:Inv X pins σ1 (upd H2 e (vG e C')) {s2 with heap:=h5} :=Fl.kept (s':={s2 with heap:=h5}) x5 I1 hex ho zI
  obtain⟨oe,he,hec⟩:=f5'.there
  refine wpAny_handleBy_cons (codeAny_handlers_test (oj (X:=X.lL e) (I5.lL e) hg hm ?_ hd)) (by intro q;cases q)
  refine DK (K:=X.K) I5.kIn he hec cat.ty cat.isc cat.bex cat.mro (codeAny_handlers_suite_as ?_)
  refine lands_againW f5' λh6 f6 sm6=>?_
  have x6:Fl X.prog X.w X.base X.stack H1 H2 s1.heap e C' B h6:=⟨x5.toFl0.step f6.1 f5'.2.2.1 f6.2.2.1 sm6,a0,f6⟩
  have I6:Inv X pins σ1 (upd H2 e (vG e C')) {s2 with heap:=h6} :=Fl.kept (s':={s2 with heap:=h6}) x6 I1 hex ho zI
  refine qO (X:=X.lL e) (I6.lL e) hN hj (.inl hn) (v:=.ref e) rfl (λs7 I7=>?_) (.inr hn)
  refine bo (hs e pins s7 _ _ (Z.gone j) I7 q) (λf s8 q8=>?_) λ_ _ z=>False.elim z
  cases f with
  |next=>obtain⟨σ8,H8,I8,q8⟩:=q8;exact name_goes (I8.uncaught I.ok) hN hj hn λs9 I9=>⟨_,H8,I9,q8⟩
  |brk=>obtain⟨σ8,H8,I8,q8⟩:=q8;exact name_goes (I8.uncaught I.ok) hN hj hn λs9 I9=>⟨_,H8,I9,q8⟩
  |cont=>obtain⟨σ8,H8,I8,q8⟩:=q8;exact name_goes (I8.uncaught I.ok) hN hj hn λs9 I9=>⟨_,H8,I9,q8⟩
  |ret u=>obtain⟨v8,σ8,H8,I8,r8,q8⟩:=q8;exact name_goes (I8.uncaught I.ok) hN hj hn λs9 I9=>⟨v8,_,H8,I9,r8,q8⟩
 ·cases f with
  |next=>obtain⟨σ8,H8,I8,q8⟩:=q;exact en ⟨σ8,H8,I8.qj I.ok,q8⟩
  |brk=>obtain⟨σ8,H8,I8,q8⟩:=q;exact⟨σ8,H8,I8.qj I.ok,q8⟩
  |cont=>obtain⟨σ8,H8,I8,q8⟩:=q;exact⟨σ8,H8,I8.qj I.ok,q8⟩
  |ret u=>obtain⟨v8,σ8,H8,I8,r8,q8⟩:=q;exact⟨v8,σ8,H8,I8.qj I.ok,r8,q8⟩
end
theorem iY {X:Cx} :jS X (.builtin "isinstance") (λxs H Q=>∃ e C c cv b,xs = [.ref e,c]/\H e=some (vG e C)/\ExC X.K C/\RelV c cv/\(∀ cv',RelV c cv'->cv'=cv)/\kitOne X.K (.ref C) cv=some b/\Q (.bl b) H):=by
 intro pins s σ H vs us Q I r h
 obtain⟨e,C,c,cv,b,rfl,he,ex,_,rc,hk,q⟩:=h
 cases r with
 |cons r1 r2=>
  cases r2 with
  |cons r2 r3=>
   cases r3
   obtain rfl:=(show _=Value.ref e from r1)
   rw[rc _ r2]
   obtain⟨p,_,_⟩:=(show iA X.prog X.w H s.heap e (.ext (XAt e C)) from I.hok e _ he)
   exact kia_one (E3 ex) I.kIn p hk (λz=>nomatch z) λtk=>⟨.bl b,H,I.tok tk,rfl,q⟩
open TL
section
variable {P:Program}{w:World}{K:PySem.W.Frag}{mg:Str->Option Value}{base:Heap}
theorem Fun.okX {x qual:Str}{st:Stmt}{f:Addr}{fd:FuncData}{N ps:List Str}{k:Nat}{sp:Sp}(F:Fun K x qual st f fd)(S:gj N ps (fJ st))(len:∀ vs H Q E,sp vs H Q E->vs.length=ps.length)
  (zJ:∀ (cdv:Value) (A:Around) (outer:List Env) (s:Shared) (H:Hp) (vs:List V) (Q:VK) (E:XK),mL k (A.deeper (envOfC qual (fJ st) s.heap.objs.size f cdv))->sp vs H Q E->
   ∃ t,PSs (yo (CXr P w base) P w K mg base N qual (fJ st) f cdv A outer s H E) (ll st) t/\t {nx:=λ_ H'=>Q .non H',rt:=Q} (start N vs) H):fV P w K mg base (CXr P w base) (k+1) f fd ps sp:=by
 obtain⟨oc,od,kV,doc,pm,an,cdv,ct,osl,rfl,lk,hcd⟩:=F.ex
 exact Hr lk hcd S len λA outer s H vs Q E hr hsp=>zJ cdv A outer s H vs Q E hr hsp
end
abbrev bmV:List Value:=[.type "ValueError",.type "Exception",.type "BaseException",.type "object"]
structure Xc (K:Frag)(mg:Str->Option Value)(x:Str)(C:Addr):Prop where
 m:mg x=some (.ref C)
 q:excIn K C bmV "ValueError.__new__" = true
 e:ExC K C
structure Xs (K:Frag)(mg:Str->Option Value)(D c1 c2 c3 c4 c5 c6 c7:Addr):Prop where
 VE:mg "ValueError" = none
 DJ:Xc K mg "TurnError" D
 FU:Xc K mg "NoLine" c1
 ji:Xc K mg "NoTrain" c2
 FT:Xc K mg "NoMove" c3
 Ck:Xc K mg "NoPiece" c4
 qe:Xc K mg "TooMany" c5
 FP:Xc K mg "NoText" c6
 HA:Xc K mg "NoRow" c7
 cat:∀ c∈ [c1,c2,c3,c4,c5,c6,c7],rO K D c
 val:∀ c∈ [c1,c2,c3,c4,c5,c6,c7],kitOne K (.ref c) (.type "ValueError")=some true
 eq:∀ c∈ [c1,c2,c3,c4,c5,c6,c7],∀ d∈ [c1,c2,c3,c4,c5,c6,c7],kitOne K (.ref c) (.ref d)=some (decide (c=d))
 nd:[c1,c2,c3,c4,c5,c6,c7].Nodup
theorem tG:bootBuiltins "ValueError" = some (.type "ValueError"):= PyProof.Rows.Boot.«ValueError»
theorem Vals.bls:∀ {bs:List Bool}{its:List Value},Vals (bs.map V.bl) its->its=bs.map Value.bool
 |[],_,.nil=>rfl
 |b::bs,_,.cons r t=>by rw[Vals.bls t,(show _=Value.bool b from r)];rfl
section
variable {X:Cx}
def Gg:V->List V->Hp->VK->Prop:=λx vs H Q=>∃ (l:Addr) (bs:List Bool) (c:Bool),x = .ref l/\vs = [.bl c]/\H l=some (.lst (bs.map V.bl))/\Q (.int (bs.count c:Nat)) H
def vb (c:Bool):Value->Bool
 |.bool b=>b==c
 |_=>false
theorem EM:MtM X "list.count" Gg:=by
 intro pins s σ H x vs v us Q I rx rv h
 obtain⟨l,bs,c,rfl,rfl,hH,q⟩:=h
 cases rx
 cases rv with
 |cons r1 r2=>
  cases r2
  obtain rfl:=(show _=Value.bool c from r1)
  obtain⟨z,its,n,r,hl,e⟩:=I.xZ hH
  have hi:=r.bls
  subst hi
  refine fw PySem.F.slot_list_count ⟨_,e,rfl⟩ PySem.F.entry_list_count (PySem.F.args_list_count_2 _ _) (SeqAt.list_countAt l _ n none #[] (.bool c) (vb c)) ⟨e,λy hy=>?_,?_⟩
  ·rw[List.mem_toArray]at hy
   obtain⟨b,_,rfl⟩:=ao.mp hy
   exact SeqAt.EqAt.bool_bool b c
  ·have e1:((bs.map Value.bool).toArray.toList.countP (vb c))=bs.count c:=by
    simp only[cR]
    rw[List.countP_map]
    rfl
   rw[e1]
   exact⟨.int _,H,I.tok _,⟨_,rfl⟩,q⟩
def Gf:V->List V->Hp->VK->Prop:=λx vs H Q=>∃ (l:Addr) (bs:List Bool) (c:Bool) (j:Nat),x = .ref l/\vs = [.bl c]/\H l=some (.lst (bs.map V.bl))/\bs[j]? = some c/\(∀ m,m<j->bs[m]? = some (!c))/\Q (.int (j:Nat)) H
theorem EL:MtM X "list.index" Gf:=by
 intro pins s σ H x vs v us Q I rx rv h
 obtain⟨l,bs,c,j,rfl,rfl,hH,hj,hno,q⟩:=h
 cases rx
 cases rv with
 |cons r1 r2=>
  cases r2
  obtain rfl:=(show _=Value.bool c from r1)
  obtain⟨z,its,n,r,hl,e⟩:=I.xZ hH
  have hi:=r.bls
  subst hi
  have hjl:j<bs.length:=(af.mp hj).1
  have hjs:j<(bs.map Value.bool).toArray.size:=by simpa using hjl
  have h63:(sizeLine:Nat)<2 ^ 62:=by rw[cJ];decide
  have z':bs.length<=sizeLine:=by simpa using z
  refine fw PySem.F.slot_list_index ⟨_,e,rfl⟩ PySem.F.entry_list_index (PySem.F.args_list_index_2 _ _) (SeqAt.list_indexAt l _ n none #[] (.bool c) (vb c) j hjs (by omega) ?_ λm hm hmj=>?_) ⟨e,λy hy=>?_,?_⟩
  ·have:bs[j]=c:=(af.mp hj).2
   simp[vb,this]
  ·have hm':=hno m hmj
   have:bs[m]'(by omega) = !c:=(af.mp hm').2
   simp[vb,this]
  ·rw[List.mem_toArray]at hy
   obtain⟨b,_,rfl⟩:=ao.mp hy
   exact SeqAt.EqAt.bool_bool b c
  ·exact⟨.int _,H,I.tok _,⟨_,rfl⟩,q⟩
end
structure mG (K:Frag)(x:Str)(C:Addr):Prop where
 b:nsIn K mainGlobals x=some (some (.ref C))
 q:excIn K C bmV "ValueError.__new__" = true
 o:mroIn K C (.type "object")=some true
 p:mroIn K C (.type "BaseException")=some true
 r:findIn K (.ref C) "__class__" = some (some (.builtin "object.__class__"))
 g:findIn K (.ref C) "__getattribute__" = some (some (.builtin "BaseException.__getattribute__"))
 h:findIn K (.ref C) "__getattr__" = some none
 i:isClsIn K C=true
 t:typeIn K (.ref C)=some (.type "type")
structure qB (K:Frag)(D C:Addr):Prop where
 m:mroIn K C (.ref D)=some true
 v:subIn K (.ref C) (.type "ValueError")=some true
structure rK (K:Frag)(c d1 d2 d3 d4 d5 d6:Addr):Prop where
 e1:subIn K (.ref c) (.ref d1)=some false
 e2:subIn K (.ref c) (.ref d2)=some false
 e3:subIn K (.ref c) (.ref d3)=some false
 e4:subIn K (.ref c) (.ref d4)=some false
 e5:subIn K (.ref c) (.ref d5)=some false
 e6:subIn K (.ref c) (.ref d6)=some false
section
variable {K:Frag}{h:Heap}{mg:Str->Option Value}{x:Str}{C D:Addr}
theorem mG.isc (a:mG K x C):(clsIn K C).isSome=true:=by
 have:=a.i
 unfold isClsIn at this
 exact this
theorem mG.ex (a:mG K x C):ExC K C:=⟨a.o,a.p,a.r,a.g,a.h,a.isc⟩
theorem mG.xc (a:mG K x C)(X:K.In h)(G:h.Ns mainGlobals mg):Xc K mg x C:=⟨mg_of X G a.b,a.q,a.ex⟩
theorem qy {y:Str}{d:Addr}(a:mG K y d)(hne:C≠d)(e:subIn K (.ref C) (.ref d)=some false):kitOne K (.ref C) (.ref d)=some (decide (C=d)):=by
 have h1:(Value.ref C==Value.ref d)=false:=Bool.eq_false_iff.mpr λz=>hne (Value.ref.inj (beq_iff_eq.mp z))
 unfold kitOne kitCls
 rw[h1,aE (by decide)]
 dsimp only
 rw[a.isc,a.t,aJ (by rfl),e,aU hne]
theorem ID:kitOne K (.ref C) (.ref C)=some (decide (C=C)):=by
 unfold kitOne
 rw[aJ (eE _),bA rfl]
theorem oo (e:subIn K (.ref C) (.type "ValueError")=some true):kitOne K (.ref C) (.type "ValueError")=some true:=by
 unfold kitOne kitCls
 rw[aE (by intro z;cases beq_iff_eq.mp z)]
 dsimp only
 rw[aJ (by decide +kernel),e]
variable {c1 c2 c3 c4 c5 c6 c7:Addr}
theorem Jt (X:K.In h)(G:h.Ns mainGlobals mg)(ve:nsIn K mainGlobals "ValueError" = some none)(b0:mG K "TurnError" D)(b1:mG K "NoLine" c1)(b2:mG K "NoTrain" c2)(b3:mG K "NoMove" c3)(b4:mG K "NoPiece" c4)
  (b5:mG K "TooMany" c5) (b6:mG K "NoText" c6) (b7:mG K "NoRow" c7) (d1:qB K D c1) (d2:qB K D c2) (d3:qB K D c3) (d4:qB K D c4) (d5:qB K D c5) (d6:qB K D c6) (d7:qB K D c7)
  (e1:rK K c1 c2 c3 c4 c5 c6 c7) (e2:rK K c2 c1 c3 c4 c5 c6 c7) (e3:rK K c3 c1 c2 c4 c5 c6 c7) (e4:rK K c4 c1 c2 c3 c5 c6 c7) (e5:rK K c5 c1 c2 c3 c4 c6 c7) (e6:rK K c6 c1 c2 c3 c4 c5 c7) (e7:rK K c7 c1 c2 c3 c4 c5 c6)
  (nd:[c1,c2,c3,c4,c5,c6,c7].Nodup):Xs K mg D c1 c2 c3 c4 c5 c6 c7:=by
 have ct:∀ {c:Addr},qB K D c->rO K D c:=λd=>⟨b0.t,b0.isc,b0.p,d.m⟩
 refine⟨mg_none_of X G ve,b0.xc X G,b1.xc X G,b2.xc X G,b3.xc X G,b4.xc X G,b5.xc X G,b6.xc X G,b7.xc X G,λc hc=>?_,λc hc=>?_,λc hc d hd=>?_,nd⟩
 ·simp only[aG,cS,or_false]at hc
  rcases hc with rfl |rfl |rfl |rfl |rfl |rfl |rfl
  ·exact ct d1
  ·exact ct d2
  ·exact ct d3
  ·exact ct d4
  ·exact ct d5
  ·exact ct d6
  ·exact ct d7
 ·simp only[aG,cS,or_false]at hc
  rcases hc with rfl |rfl |rfl |rfl |rfl |rfl |rfl
  ·exact oo d1.v
  ·exact oo d2.v
  ·exact oo d3.v
  ·exact oo d4.v
  ·exact oo d5.v
  ·exact oo d6.v
  ·exact oo d7.v
 ·have hcd:c=d\/c≠d:=by by_cases h:c=d;exact .inl h;exact .inr h
  rcases hcd with rfl |hne
  ·exact ID
  ·simp only[aG,cS,or_false]at hc hd
   have ee:subIn K (.ref c) (.ref d)=some false:=by
    rcases hc with rfl |rfl |rfl |rfl |rfl |rfl |rfl<;>rcases hd with rfl |rfl |rfl |rfl |rfl |rfl |rfl<;>
     first |exact absurd rfl hne |exact e1.e1 |exact e1.e2 |exact e1.e3 |exact e1.e4 |exact e1.e5 |exact e1.e6 |exact e2.e1 |exact e2.e2 |exact e2.e3 |exact e2.e4 |exact e2.e5 |exact e2.e6 |exact e3.e1 |exact e3.e2 |exact e3.e3 |exact e3.e4 |exact e3.e5 |exact e3.e6 |exact e4.e1 |exact e4.e2 |exact e4.e3 |exact e4.e4 |exact e4.e5 |exact e4.e6 |exact e5.e1 |exact e5.e2 |exact e5.e3 |exact e5.e4 |exact e5.e5 |exact e5.e6 |exact e6.e1 |exact e6.e2 |exact e6.e3 |exact e6.e4 |exact e6.e5 |exact e6.e6 |exact e7.e1 |exact e7.e2 |exact e7.e3 |exact e7.e4 |exact e7.e5 |exact e7.e6
   rcases hd with rfl |rfl |rfl |rfl |rfl |rfl |rfl
   ·exact qy b1 hne ee
   ·exact qy b2 hne ee
   ·exact qy b3 hne ee
   ·exact qy b4 hne ee
   ·exact qy b5 hne ee
   ·exact qy b6 hne ee
   ·exact qy b7 hne ee
end
end L2
namespace TL
open PySem PySem.Spec PyProof.Rows L2
structure Bm (mg:Str->Option Value):Prop extends Bl mg where
 zip:mg "zip" = none
 sum:mg "sum" = none
 all:mg "all" = none
 set:mg "set" = none
 tuple:mg "tuple" = none
 abs:mg "abs" = none
 bool:mg "bool" = none
 dict:mg "dict" = none
 str:mg "str" = none
theorem Inv.F6 {X:Cx}{pins:List (Addr×Obj)}{σ:St}{H:Hp}{s:Shared}{h':Heap}{t':Nat}{ch:List Addr}(I:Inv X pins σ H s)(hf:∀ b∈ch,lO X pins H b)
  (keep:∀ b o,b∉ch->s.heap.get? b=some o->h'.get? b=some o):Inv X pins σ H {s with heap:=h',toks:=t'} :=by
 have nch:∀ b u,H b=some u->b∉ch:=λb u q z=>by rw[(hf b z).1]at q;cases q
 refine I.step (g':=s.gens) (d':=s.drawn) (ch:=ch) (λb hb=>?_) (λb o _ _ hc q _=>keep b o hc q) (λb o _ _ hc q _=>⟨o.slots,keep b o hc q⟩) (λ_ _ _ _ n=>n)
  (λb o hc q=>⟨o,keep b o hc q⟩) (λ_ _ e=>e) (λ_ _ _ e=>e) (λb ps e=>⟨#[],by rw[e];simp⟩) (λm hm=>?_) (λb u q=>?_) I.bare
 ·obtain⟨f0,f1,f2,f3,f4,f5⟩:=hf b hb
  exact⟨f3,f1,f4,f5⟩
 ·obtain⟨o,es,ep,ho,r⟩:=hm
  exact⟨o,es,ep,keep _ o (λz=>(hf _ z).2.1 rfl) ho,r⟩
 ·refine(I.hok b u q).lA (λc v hc q'=>keep c v ?_ q') (λc z=>z) λc ys z=>z
  rcases hc with z |z
  ·rw[z];exact nch b u q
  ·exact nch c _ z
def Itz (K:PySem.W.Frag)(a b:Addr):It:=
 ⟨λi H=>∃ xs ys x y,SqL K H a xs/\SqL K H b ys/\xs[i]? = some x/\ys[i]? = some y,
  λi H v H'=>∃ p,H p=none/\v = .ref p/\∀ xs ys x y,SqL K H a xs->SqL K H b ys->xs[i]? = some x->ys[i]? = some y->H'=upd H p (.tup [x,y]),
  λi H=>∃ xs ys,SqL K H a xs/\SqL K H b ys/\(xs.length<=i\/ys.length<=i)⟩
theorem DT {P:Program}{w:World}{K:PySem.W.Frag}{es:List Expr}{x1:Nat}{pt:Pos}{a b z TI TO i1 i2:Addr}(D:ZipApart z TI TO i1 i2 a b):
  Turn P w K (.Tuple es x1 pt) (Itz K a b) [z,TI,TO,i1,i2] z (λi h=>IsZip h z TI TO .none/\IsPair h TI (.ref i1) (.ref i2)/\(∃ u v,IsPair h TO u v)/\h.IsListIter i1 a i/\h.IsListIter i2 b i) where
 mem:=by simp
 obj:=λi h st c hc=>by
  obtain⟨hz,h1,⟨u,v,h2⟩,h3,h4⟩:=st
  obtain⟨o3,q3,_,d3⟩:=h3
  obtain⟨o4,q4,_,d4⟩:=h4
  simp only[aG,cS,or_false]at hc
  rcases hc with rfl |rfl |rfl |rfl |rfl
  ·exact⟨_,hz,λv z=>by cases z⟩
  ·exact⟨_,h1,λv z=>by cases z⟩
  ·exact⟨_,h2,λv z=>by cases z⟩
  ·exact⟨_,q3,λv z=>by rw[d3]at z;cases z⟩
  ·exact⟨_,q4,λv z=>by rw[d4]at z;cases z⟩
 keep:=λi h h' ⟨hz,h1,⟨u,v,h2⟩,h3,h4⟩ k=>⟨k z (by simp) _ hz,k TI (by simp) _ h1,⟨u,v,k TO (by simp) _ h2⟩,h3.at λo q=>k i1 (by simp) o q,h4.at λo q=>k i2 (by simp) o q⟩
 item:=by
  intro X hP hw hK hc i pins s σ H E I hf st hg
  subst hP hw hK
  obtain⟨hz,h1,⟨u0,v0,h2⟩,h3,h4⟩:=st
  obtain⟨xs,ys,x,y,hx,hy,ex,ey⟩:=hg
  obtain⟨its,rv,p,hzx⟩:=I.list hx
  obtain⟨jts,rw',p',hzy⟩:=I.list hy
  obtain⟨u,hu,ru⟩:=rv.get ex
  obtain⟨v,hv,rv'⟩:=rw'.get ey
  refine wpAny_pyNext_zip_item D hz h1 h2 h3 h4 p.isList p'.isList (x:=u) (y:=v) (by simpa using hu) (by simpa using hv) λh' a1 a2 a3 a4 a5 a6 hk=>?_
  refine⟨_,rfl,?_⟩
  refine wpAny_letOwnedTupleGo_zip (s:={s with heap:=h'}) a1 λh'' m1 m2=>?_
  have lt:∀ {c o},s.heap.get? c=some o->s.heap.objs.size≠c:=λe=>cV (aC e)
  have keep:∀ b o,b∉ [z,TI,TO,i1,i2]->s.heap.get? b=some o->h''.get? b=some o:=λb o hb q=>m2.extBut b o (λz=>hb (by simp[z])) (hk b o (λz=>hb (by simp[z])) (λz=>hb (by simp[z])) (λz=>hb (by simp[z])) (λz=>hb (by simp[z])) q)
  have ht:h''.get? s.heap.objs.size=some {cls:=.type "tuple",data:=.seq [u,v].toArray} :=m2.extBut _ _ (lt hz) a5
  have J1:Inv X pins σ (upd H s.heap.objs.size (.tup [x,y])) {s with heap:=h'',toks:=s.toks} :=Inv.rS I hf keep (.cons ru (.cons rv' .nil)) (by show 2<=sizeLine;decide) ht
  have hn:H s.heap.objs.size=none:=I.fresh
  refine⟨.ref s.heap.objs.size,_,J1,rfl,⟨_,hn,rfl,λxs' ys' x' y' q1 q2 q3 q4=>?_⟩,⟨m1,?_,⟨_,_,m2.extBut _ _ D.TOz a2⟩,a3.extBut m2.extBut D.i1z,a4.extBut m2.extBut D.i2z⟩,λc hb=>?_⟩
  ·have e1:=I.rm q1 hx
   have e2:=I.rm q2 hy
   subst e1 e2
   rw[ex]at q3
   rw[ey]at q4
   cases q3
   cases q4
   rfl
  ·exact m2.extBut _ _ D.TIz (hk _ _ D.TIz D.TITO D.TIi1 D.TIi2 h1)
  ·have q:∃ o,s.heap.get? c=some o:=by
    obtain⟨o3,q3,_,d3⟩:=h3
    obtain⟨o4,q4,_,d4⟩:=h4
    have hb':=hb
    simp only[aG,cS,or_false]at hb'
    rcases hb' with rfl |rfl |rfl |rfl |rfl
    ·exact⟨_,hz⟩
    ·exact⟨_,h1⟩
    ·exact⟨_,h2⟩
    ·exact⟨_,q3⟩
    ·exact⟨_,q4⟩
   obtain⟨o,q⟩:=q
   rw[fG (aL (aC q))]
   exact(hf c hb).1
 done:=by
  intro X hP hw hK hc i pins s σ H E I hf st hg
  subst hP hw hK
  obtain⟨hz,h1,⟨u0,v0,h2⟩,h3,h4⟩:=st
  obtain⟨xs,ys,hx,hy,e⟩:=hg
  obtain⟨its,rv,p,hzx⟩:=I.list hx
  obtain⟨jts,rw',p',hzy⟩:=I.list hy
  have l1:=rv.length
  have l2:=rw'.length
  refine wpAny_pyNext_zip_end (I.ok.hd hc) D hz h1 h2 h3 h4 p.isList p'.isList ?_ λh' hk=>⟨rfl,Inv.F6 (t':=s.toks) I hf λb o hb q=>hk b o (λz=>hb (by simp[z])) (λz=>hb (by simp[z])) (λz=>hb (by simp[z])) (λz=>hb (by simp[z])) q⟩
  rcases e with e |e
  ·left;simp;omega
  ·right;simp;omega
 self:=λ_ _ _ _ _ ⟨hz,_⟩ h=>wpAny_pyIter_zip hz h
section
variable {X:Cx}
def Pl (K:PySem.W.Frag)(ta:TA):TI:=λσ H R=>ta σ H λvs H1=>∃ a b,vs = [.ref a,.ref b]/\(∃ xs,SqL K H1 a xs)/\(∃ ys,SqL K H1 b ys)/\R (Itz K a b) H1
theorem El {a b:Expr}{ta:TA}{p pos:Pos}{es:List Expr}{x1:Nat}{pt:Pos}(hg:Gl X "zip")(hm:X.mg "zip" = none)(ha:PA X [a,b] ta)(hs:starEach [a,b] X.env = [(false,eval a X.env),(false,eval b X.env)]:=by rfl)(hs2:starEach [b] X.env = [(false,eval b X.env)]:=by rfl):
  PI X (.Tuple es x1 pt) (.Call (.Name "zip" p) [a,b] [] pos) (Pl X.K ta):=by
 intro pins s σ H R I h
 refine Call_ (qx I hg hm boot_zip (cD (thn (ha pos pins s σ H _ I h) λus s1 ⟨vs,H1,I1,r1,q1⟩=>?_) (by rw[hs,hs2]) (by rw[hs2];rfl)))
 obtain⟨a,b,e,⟨xs,hx⟩,⟨ys,hy⟩,q⟩:=q1
 subst e
 obtain⟨u,v,rfl,ru,rv⟩:=vals2 r1
 cases ru
 cases rv
 obtain⟨its,rv,p,hzx⟩:=I1.list hx
 obtain⟨jts,rw',p',hzy⟩:=I1.list hy
 have la:a<s1.heap.objs.size:=by obtain⟨o,n,e,_⟩:=p;exact aC e
 have lb:b<s1.heap.objs.size:=by obtain⟨o,n,e,_⟩:=p';exact aC e
 refine call_zip_2 p.isList p'.isList λh' k1 k2 k3 k4 k5 k6 k7=>?_
 refine wpAny_pyIter_zip (s:={s1 with heap:=h'}) k1 ?_
 have D:ZipApart (s1.heap.objs.size+4) (s1.heap.objs.size+2) (s1.heap.objs.size+3) s1.heap.objs.size (s1.heap.objs.size+1) a b:=by
  generalize s1.heap.objs.size=z at la lb
  have la':@LT.lt Nat _ a z:=la
  have lb':@LT.lt Nat _ b z:=lb
  constructor<;>first |exact(show @Ne Nat _ _ by omega)
 refine⟨s1.heap.objs.size+4,[s1.heap.objs.size+4,s1.heap.objs.size+2,s1.heap.objs.size+3,s1.heap.objs.size,s1.heap.objs.size+1],_,_,H1,rfl,I1.kept (t':=s1.toks) k7,DT D,⟨k1,k2,⟨_,_,k3⟩,k4,k5⟩,λc hc=>?_,q⟩
 have hb':s1.heap.objs.size<=c:=by
  simp only[aG,cS,or_false]at hc
  rcases hc with rfl |rfl |rfl |rfl |rfl
  ·exact dy _ _
  ·exact dy _ _
  ·exact dy _ _
  ·exact au _
  ·exact dy _ _
 exact I1.Ds hb' (I1.hok.fresh hb')
theorem GP {K:PySem.W.Frag}{a b:Addr}{xs ys:List V}{g:TG}{tb:TS}{D:Ends}{σ:St}{H:Hp}(n:Nat)(hn:n=min xs.length ys.length)(Pv:Nat->St->Hp->Prop)(h0:Pv 0 σ H)(hl:∀ i σ H,i<=n->Pv i σ H->SqL K H a xs/\SqL K H b ys)
  (hs:∀ i x y σ H p,xs[i]? = some x->ys[i]? = some y->Pv i σ H->H p=none->g (.ref p) σ (upd H p (.tup [x,y])) λσ2 H2=>tb {D with nx:=Pv (i+1),ct:=Pv (i+1),bk:=D.nx} σ2 H2) (hd:∀ σ H,Pv n σ H->D.nx σ H):
  ∃ W:Nat->Nat->St->Hp->Prop,(∃ m,W 0 m σ H)/\∀ i m σ H,W i m σ H->
   ((Itz K a b).stop i H/\D.nx σ H)\/((Itz K a b).go i H/\∃ N:St->Hp->Prop,(∀ σ' H',N σ' H'->∃ m',m'<m/\W (i+1) m' σ' H')/\∀ x H',(Itz K a b).yld i H x H'->g x σ H' λσ2 H2=>tb {D with nx:=N,ct:=N,bk:=D.nx} σ2 H2):=by
 refine⟨λi m σ H=>m=n-i/\i<=n/\Pv i σ H,⟨n,by simp,aK _,h0⟩,?_⟩
 rintro i m σ H ⟨rfl,hi,p⟩
 obtain⟨q1,q2⟩:=hl i σ H hi p
 by_cases hlt:i<n
 ·have h1:i<xs.length:=by omega
  have h2:i<ys.length:=by omega
  refine .inr ⟨⟨xs,ys,xs[i],ys[i],q1,q2,by simp[h1],by simp[h2]⟩,Pv (i+1),λσ' H' p'=>⟨n-(i+1),by omega,rfl,hlt,p'⟩,λx H' y=>?_⟩
  obtain⟨pa,hp,e,y⟩:=y
  subst e
  have hx:xs[i]? = some xs[i]:=by simp[h1]
  have hy:ys[i]? = some ys[i]:=by simp[h2]
  rw[y xs ys _ _ q1 q2 hx hy]
  exact hs i _ _ σ H pa hx hy p hp
 ·have e:i=n:=by omega
  subst e
  exact .inl ⟨⟨xs,ys,q1,q2,by omega⟩,hd σ H p⟩
theorem FG (hc:X.calm=true):jS X (.builtin "sum") (λxs H Q=>∃ (a:Addr) (ns:List Int),xs = [.ref a]/\SqL X.K H a (ns.map V.int)/\Q (.int ns.sum) H):=by
 intro pins s σ H xs us Q I r h
 obtain⟨a,ns,rfl,hx,q⟩:=h
 obtain⟨u,rfl,ru⟩:=vals1 r
 cases ru
 obtain⟨its,rv,p,hz⟩:=I.list hx
 have hi:IntsAre its ns:=intsAre_of rv
 obtain⟨xs,hx⟩:=hi.allInts.items
 have hl':s.heap.IsList a (intItems xs):=hx ▸ p.isList
 refine sum_intListG (I.ok.hd hc) hl' λh' tk t' hk=>?_
 have e1:ns=xs.toList.map (·.1):=by
  rw[<-nums_intItems,<-hx]
  exact(show numsOf its.toArray.toList=ns from hi.numsOf).symm
 have e2:preSum (numAt xs) xs.size=ns.sum:=by
  rw[preSum_eq,cg (by simp),e1]
 rw[e2]
 exact⟨.int ns.sum,H,I.kept (t':=tk) hk,⟨_,rfl⟩,q⟩
theorem sZ:∀ {bs:List Bool}{us:List Value},Vals (bs.map V.bl) us->us=bs.map Value.bool
 |[],_,.nil=>rfl
 |b::bs,_,.cons r t=>by
  cases r
  rw[sZ t];rfl
theorem Ac (hc:X.calm=true):jS X (.builtin "all") (λxs H Q=>∃ (a:Addr) (bs:List Bool),xs = [.ref a]/\SqL X.K H a (bs.map V.bl)/\Q (.bl (bs.all id)) H):=by
 intro pins s σ H xs us Q I r h
 obtain⟨a,bs,rfl,hx,q⟩:=h
 obtain⟨u,rfl,ru⟩:=vals1 r
 cases ru
 obtain⟨its,rv,p,hz⟩:=I.list hx
 have e:=sZ rv
 subst e
 have hl:=p.isList
 have hlt:a<s.heap.objs.size:=by obtain⟨_,e,_⟩:=hl;exact aC e
 refine call_all_walk (wpAny_pyIter_list hl ?_)
 refine⟨s.heap.objs.size,[s.heap.objs.size,a],[s.heap.objs.size],(bs.map Value.bool).toArray.size,_,_,λi=>(bs[i]?).getD true,rfl,Walks.list (A:=X.A.in1) (I.ok.hd hc) _ a (aL hlt) (bs.map Value.bool).toArray,
  ⟨⟨_,aQ _ rfl,rfl,rfl⟩,hl.push _⟩,λi v s' Q' E' hP hQ=>?_,λh' tk hk=>?_⟩
 ·have hP':(bs.map Value.bool)[i]? = some v:=by simpa using hP
  rw[aj]at hP'
  cases q:bs[i]? with
  |none=>rw[q]at hP';cases hP'
  |some b=>
   rw[q]at hP'
   cases hP'
   have hQ':Q' b s':=by simpa [q]using hQ
   exact cF hQ'
 ·have e:((List.range (bs.map Value.bool).toArray.size).all λi=>(bs[i]?).getD true)=bs.all id:=by
   rw[aM,aa];exact PyProof.Rows.LSm.range_all bs
  rw[e]
  have kk:∀ b x,s.heap.get? b=some x->h'.get? b=some x:=λb x e=>hk b x (λhm=>by rw[bx.mp hm]at e;exact cO _ (aC e)) (ax _ e)
  exact⟨.bl (bs.all id),H,I.kept (t':=tk) kk,rfl,q⟩
end
section
variable {K:PySem.W.Frag}{l:Addr}{g:TG}{tt:TT}{te:TE}{cap:List (Option Nat)}{σ:St}{Q:VK}{H1:Hp}{J:It}
theorem vc (n:Nat)(Pv:Nat->List V->Hp->Prop)(h0:Pv 0 [] (upd H1 l (.lst [])))(go:∀ i acc H,i<n->Pv i acc H->J.go i H)(st:∀ acc H,Pv n acc H->J.stop n H)
  (hs:∀ i x acc H H',i<n->Pv i acc H->J.yld i H x H'->g x (iG cap σ) H' λσ2 H2=>tt σ2 H2 λb H3=>
    if b=true then te σ2 H3 λy H4=>H4 l=some (.lst acc)/\acc.length<sizeLine/\Pv (i+1) (acc ++ [y]) (upd H4 l (.lst (acc ++ [y])))
    else Pv (i+1) acc H3) (hd:∀ acc H,Pv n acc H->Q (.ref l) H):LcW J g tt te cap σ Q l H1:=by
 refine⟨λi m acc H=>m=n-i/\i<=n/\Pv i acc H,⟨n,by simp,aK _,h0⟩,?_⟩
 rintro i m acc H ⟨rfl,hi,p⟩
 by_cases hlt:i<n
 ·exact .inr ⟨go i acc H hlt p,λwj H'=>Pv (i+1) wj H',λwj H' p'=>⟨n-(i+1),by omega,rfl,hlt,p'⟩,λx H' y=>hs i x acc H H' hlt p y⟩
 ·have e:i=n:=by omega
  subst e
  exact .inl ⟨st acc H p,hd acc H p⟩
theorem tM {α:Type}(n:Nat)(ds:List α)(p:α->Bool)(f:α->V)(hn:H1 l=none)(hlen:n=ds.length)(hz:n<sizeLine)(go:∀ i H,fI H1 H->i<n->J.go i H)(st:∀ H,fI H1 H->J.stop n H)
  (hs:∀ i x d H H',fI H1 H->J.yld i H x H'->ds[i]? = some d->∀ (P1:VK) (P0:Hp->Prop),(∀ H2,p d=true->fI H H2->P1 (f d) H2)->(∀ H2,p d=false->fI H H2->P0 H2)->
   g x (iG cap σ) H' λσ2 H2=>tt σ2 H2 λb H3=>if b=true then te σ2 H3 P1 else P0 H3)
  (hq:∀ H',fI H1 H'->H' l=some (.lst ((ds.filter p).map f))->Q (.ref l) H'):LcW J g tt te cap σ Q l H1:=by
 refine vc n (λi acc H=>acc=((ds.take i).filter p).map f/\fI H1 H/\H l=some (.lst acc)) ⟨rfl,fB hn,fC⟩ (λi acc H hi ⟨_,s,_⟩=>go i H s hi) (λacc H ⟨_,s,_⟩=>st H s) ?_ ?_
 ·rintro i x acc H H' hi ⟨e1,s,hl⟩ y
  have hd:ds[i]? = some (ds[i]'(by omega)):=by simp
  generalize ds[i]'(by omega)=d at hd
  have step:((ds.take (i+1)).filter p).map f=acc++(if p d=true then[f d]else[]):=by
   rw[bh,hd,List.filter_append,aB,e1]
   congr 1
   by_cases hp:p d=true
   ·simp[hp]
   ·have hp':p d=false:=by simpa using hp
    simp[hp']
  have la:acc.length<sizeLine:=by
   have h1:acc.length<=i:=by
    rw[e1,aa]
    exact bF (bS _ _) (by rw[aT];omega)
   omega
  refine hs i x d H H' s y hd _ _ (λH2 hp s2=>?_) (λH2 hp s2=>?_)
  ·refine⟨s2 _ _ hl,la,?_,fI.upd (s.trans s2) hn,fC⟩
   rw[step,aJ hp]
  ·refine⟨?_,s.trans s2,s2 _ _ hl⟩
   rw[step,aE (by rw[hp];exact aD),dN]
 ·rintro acc H ⟨e1,s,hl⟩
  rw[cg (by omega)]at e1
  subst e1
  exact hq H s hl
end
def Ea (S:Int->Bool)(k:Int):Int->Bool:=λk'=>S k'||decide (k'=k)
def EG (S:Int->Bool)(n:Nat)(k:Int):Nat:=if S k=true then n else n+1
section
variable {X:Cx}{pins:List (Addr×Obj)}{σ:St}{H:Hp}{s:Shared}
theorem Inv.setM {l:Addr}{S:Int->Bool}{n:Nat}(I:Inv X pins σ H s)(h:H l=some (.set S n)):s.heap.SetOf (intKind X.prog X.w) l S n:=I.hok l _ h
theorem isInt_self (k:Int)(t:Tok):Value.isInt k (.int k t)=true:=by simp[Value.isInt]
def JW:V->List V->Hp->VK->Prop:=λx vs H Q=>∃ l S n k,x = .ref l/\vs = [.int k]/\H l=some (.set S n)/\n+1<scanBound/\Q .non (upd H l (.set (Ea S k) (EG S n k)))
theorem GA:MtR X "set.add" JW:=by
 intro pins s σ H x vs v us Q I rx rv h
 obtain⟨l,S,n,k,rfl,rfl,hH,hb,q⟩:=h
 cases rx
 obtain⟨u,rfl,t,rfl⟩:=rv.one
 have hS:=Inv.setM I hH
 refine call_set_add (knd:=intKind X.prog X.w) (k:=k) (isInt_self k t) rfl hS hb λh' sb hS'=>?_
 refine⟨.non,_,I.write (t':=s.toks+1) (o:=.set (Ea S k) (EG S n k)) (x:=l) (e:=l) (by rw[hH];exact trivial) (.inl rfl) (λb u hb e=>sb.extBut b u hb e) ?_ ?_,rfl,q⟩
 ·obtain⟨o,_,_,_,e,_⟩:=hS';exact⟨o,e⟩
 ·exact hS'
theorem DF:jS X (.builtin "len") (λxs H Q=>∃ p S n,xs = [.ref p]/\H p=some (.set S n)/\Q (.int n) H):=by
 intro pins s σ H xs us Q I r h
 obtain⟨p,S,n,rfl,hH,q⟩:=h
 obtain⟨u,rfl,rx⟩:=vals1 r
 cases rx
 obtain⟨o,es,ep,t,e,hex,hd,hel,hm,hb,hf,hn⟩:=Inv.setM I hH
 refine call_len_set e hex hd hf ?_ ⟨.int n,H,I.tok _,⟨_,by rw[hn]⟩,q⟩
 have:scanBound=4096:=rfl
 omega
end
section
variable {X:Cx}{pins:List (Addr×Obj)}{σ:St}{H1:Hp}{s2:Shared}{scope:Scope}{N:List Str}{own:Nat}{cap:List (Option Nat)}{cl:List (Str×Addr)}{fp:List Addr}
 {tg iter elt:Expr}{ifs:List Expr}{pos:Pos}{g:TG}{tt:TT}{te:TE}{wi:TI}
def ScW (J:It)(g:TG)(tt:TT)(te:TE)(cap:List (Option Nat))(σ:St)(Q:VK)(l:Addr)(H1:Hp):Prop:=
 ∃ W:Nat->Nat->Hp->Prop,(∃ m,W 0 m (upd H1 l (.set (λ_=>false) 0)))/\∀ i m H,W i m H->
  (J.stop i H/\Q (.ref l) H)\/(J.go i H/\∃ N:Hp->Prop,(∀ H',N H'->∃ m',m'<m/\W (i+1) m' H')/\
   ∀ x H',J.yld i H x H'->g x (iG cap σ) H' λσ2 H2=>tt σ2 H2 λb H3=>
    if b=true then te σ2 H3 λy H4=>∃ S n k,y = .int k/\H4 l=some (.set S n)/\n+1<scanBound/\N (upd H4 l (.set (Ea S k) (EG S n k)))
    else N H3)
def tSC (wi:TI)(cap:List (Option Nat))(g:TG)(tt:TT)(te:TE):TE:=λσ H Q=>wi σ H λJ H1=>∀ l,H1 l=none->
 ScW J g tt te cap σ Q l H1
theorem DA {it:Addr}{tn:Nat->Heap->Prop}{J:It}{Q:VK}{RR:Value->Addr->Result->Shared->Prop}{E:Value->Shared->Prop}(I:Inv X pins σ H1 s2)(T:Turn X.prog X.w X.K tg J fp it tn)(t0:tn 0 s2.heap)
  (f:∀ b∈fp,lO X pins H1 b) (hc:X.calm=true) (C:gH X.env.scope X.N scope N own cap) (ho:qi own g)
  (jT:∀ x c,cl.lookup x=some c->X.env.cells.lookup x=some c) (lX:∀ y∈scope.names,y.2 = .free->∃ c,cl.lookup y.1=some c)
  (hg:∀ s3 H3,PG (fU X scope cl N fp s3 H3) tg g) (ht:∀ s3 H3,sF (fU X scope cl N fp s3 H3) ifs tt) (he:∀ s3 H3,PE (fU X scope cl N fp s3 H3) elt te)
  (hw:∀ l,H1 l=none->ScW J g tt te cap σ Q l H1)
  (fin:∀ l C s' H' m',Inv X pins σ H' s'->s'.heap.Ns C m'->H' C=none->Apart X pins C->Q (.ref l) H'->RR (.ref l) C (.ok .next) s'):
  wpAny (model X.prog X.w) X.A (newSet (.type "set")) (λacc s₃=>wpAny (model X.prog X.w) X.A (newFunctionEnv scope X.env.globals cl [] X.env.qual none .none (some X.env)) (λrG s₄=>
   codeAny (model X.prog X.w) X.A (.compStart (.SetComp elt [⟨tg,iter,ifs,0⟩] scope pos) 0 (.ref it) acc {rG with scope:=relabel scope X.env}) (RR acc rG.locals) s₄) E s₃) E s2:=by
 refine wpAny_newSet_of (knd:=intKind X.prog X.w) λled Kz=>?_
 refine dF C.sh (by intro y hy;simp at hy) (λh₁ jh jg=>?_) C.kind
 dsimp only at jh jg ⊢
 obtain⟨W,⟨m0,w0⟩,turn⟩:=hw s2.heap.objs.size I.fresh
 have I3:Inv X pins σ (upd H1 s2.heap.objs.size (.set (λ_=>false) 0)) {s2 with heap:=s2.heap.push {cls:=.type "set",dict:=none,data:=.set #[] 0 (.fresh 0 0 led)}} :=
  I.laid (t':=s2.toks) (λb u e=>ax _ e) (au _) Kz
 generalize hs3:({s2 with heap:=s2.heap.push {cls:=.type "set",dict:=none,data:=.set #[] 0 (.fresh 0 0 led)}} :Shared)=s3 at I3
 have hh3:s3.heap=s2.heap.push {cls:=.type "set",dict:=none,data:=.set #[] 0 (.fresh 0 0 led)} :=by rw[<-hs3]
 rw[<-hh3]at jh jg ⊢
 have e4:({s2 with heap:=h₁,toks:=s2.toks+([]:List (Str×Value)).length} :Shared) = {s3 with heap:=h₁,toks:=s2.toks} :=by rw[<-hs3];rfl
 rw[e4]
 have k4:∀ b u,s3.heap.get? b=some u->h₁.get? b=some u:=λb u e=>jg.extBut b u (aL (aC e)) (ax _ e)
 have k3:∀ b u,s2.heap.get? b=some u->s3.heap.get? b=some u:=λb u e=>by rw[hh3];exact ax _ e
 have hb2:∀ b∈fp,b<s2.heap.objs.size:=λb hb=>by obtain⟨o,e,_⟩:=T.obj _ _ t0 b hb;exact aC e
 have f3:∀ b∈fp,lO X pins (upd H1 s2.heap.objs.size (.set (λ_=>false) 0)) b:=λb hb=>by
  obtain⟨f0,fr⟩:=f b hb
  exact⟨by rw[fG (aL (hb2 b hb))];exact f0,fr⟩
 have hb3:∀ b∈fp,b<s3.heap.objs.size:=λb hb=>by obtain⟨o,e,_⟩:=T.obj _ _ t0 b hb;exact aC (k3 b o e)
 have I4:=oV (tk:=s2.toks) I3 C jT lX (λb hb=>⟨f3 b hb,hb3 b hb⟩) jh k4
 generalize hH3:upd H1 s2.heap.objs.size (.set (λ_=>false) 0)=H3 at *
 have st4:tn 0 h₁:=T.keep _ _ _ t0 λb hb o e=>k4 b o (k3 b o e)
 have fpX:∀ {H':Hp},(∀ b∈fp,H' b=none)->∀ b∈fp,lO (fU X scope cl N fp s3 H3) [] H' b:=λ{H'} hn b hb=>by
  obtain⟨f0,f1,f2,f3',f4,f5⟩:=f3 b hb
  refine⟨hn b hb,aL (hb3 b hb),λhz=>?_,.inl hb,λx c e=>f4 x c (jT x c e),λp hp=>absurd (show p∈([]:List (Addr×Obj)) from hp) (by simp)⟩
  rcases aG.mp (I3.mZ b hz)with z |z
  ·exact f1 z
  ·exact f2 z
 have loop:codeAny (model X.prog X.w) X.A (.compLoop (.SetComp elt [⟨tg,iter,ifs,0⟩] scope pos) 0 (.ref it) (.ref s2.heap.objs.size) (compEnvC scope cl s3.heap.objs.size X.env)) (RR (.ref s2.heap.objs.size) s3.heap.objs.size) {s3 with heap:=h₁,toks:=s2.toks} :=by
  refine rD (λn s'=>∃ i H',Inv (fU X scope cl N fp s3 H3) [] (iG cap σ) H' s'/\tn i s'.heap/\(∀ b∈fp,H' b=none)/\W i n H') ?_ m0 ⟨0,H3,I4,st4,λb hb=>(f3 b hb).1,w0⟩
  rintro n s' ⟨i,H',I',st,fr,w⟩
  rcases turn i n H' w with⟨stop,q⟩|⟨go,NN,hNN,step⟩
  ·refine thn (T.done (fU X scope cl N fp s3 H3) rfl rfl rfl hc i [] s' _ H' (λ_ _=>False) I' (fpX fr) st stop) λr s5 ⟨hr,I5⟩=>?_
   subst hr
   obtain⟨m5,hn5,_⟩:=id I5.loc
   exact fin _ _ s5 H' m5 (comp_back I3 f3 I5) hn5 I5.free (TL.Inv.apart I3) q
  ·refine thn (T.item (fU X scope cl N fp s3 H3) rfl rfl rfl hc i [] s' _ H' (λ_ _=>False) I' (fpX fr) st go) λr s5 ⟨u,hr,h5⟩=>?_
   subst hr
   refine thn h5 λ_ s6 ⟨x,H6,I6,r6,y6,st6,fr6⟩=>?_
   have I6':=I6.pinned (fpX fr6) (T.obj _ _ st6)
   refine thn (hg s3 H3 _ s6 _ H6 x u _ I6' r6 (ho.own _ _ _ _ (step x H6 y6))) λ_ s7 ⟨σ7,H7,I7,q7,l7,o7⟩=>?_
   have cov:∀ (i:Nat) v,(iG cap σ)[i]? = some (some v)->σ7[i]? = some (some v):=λi v e=>by
    obtain⟨j,c1,c2⟩:=mi e
    by_cases hi:i<own
    ·exact(C.oQ hi c1).elim
    ·rw[o7 i (by omega)];exact e
   have back:∀ {H8:Hp}{s8:Shared},Inv (fU X scope cl N fp s3 H3) ([]++nV fp s6.heap) σ7 H8 s8->Inv (fU X scope cl N fp s3 H3) [] (iG cap σ) H8 s8/\tn (i+1) s8.heap/\∀ b∈fp,H8 b=none:=λ{H8 s8} I8=>by
    refine⟨(Inv.lu (pins:=[]) I8).weak l7.symm cov,T.keep _ _ _ st6 λb hb o e=>(I8.pin (b,o) (ay _ (ay _ (iI hb e)))).1,λb hb=>?_⟩
    obtain⟨o,e,d⟩:=T.obj _ _ st6 b hb
    exact(I8.pin (b,o) (ay _ (ay _ (iI hb e)))).2.1
   refine thn (ht s3 H3 _ s7 σ7 H7 _ I7 q7) λb s8 ⟨H8,I8,q8⟩=>?_
   cases b with
   |false=>
    rw[aE aD]at q8 ⊢
    obtain⟨m',hm,w8⟩:=hNN _ q8
    obtain⟨J1,J2,J3⟩:=back I8
    exact⟨m',hm,i+1,H8,J1,J2,J3,w8⟩
   |true=>
    rw[aJ rfl]at q8 ⊢
    refine thn (he s3 H3 _ s8 σ7 H8 _ I8 q8) λv s9 ⟨y,H9,I9,r9,S,nn,k,ey,ha,hz,n9⟩=>?_
    obtain⟨m',hm,w9⟩:=hNN _ n9
    subst ey
    refine thn (GA _ s9 σ7 H9 (.ref s2.heap.objs.size) [.int k] (.ref s2.heap.objs.size) [v] (λ_ H10=>W (i+1) m' H10) I9 rfl (.cons r9 .nil) ⟨_,S,nn,k,rfl,rfl,ha,hz,w9⟩) λ_ s10 ⟨_,H10,I10,_,w10⟩=>?_
    obtain⟨J1,J2,J3⟩:=back I10
    exact⟨m',hm,i+1,H10,J1,J2,J3,w10⟩
 exact qp loop (T.self X.A 0 _ _ _ st4 loop)
theorem J5 (hi:PI X tg iter wi)(hc:X.calm=true)(C:gH X.env.scope X.N scope N own cap)(ho:qi own g)
  (hg:∀ cl fp s3 H3,PG (fU X scope cl N fp s3 H3) tg g) (ht:∀ cl fp s3 H3,sF (fU X scope cl N fp s3 H3) ifs tt) (he:∀ cl fp s3 H3,PE (fU X scope cl N fp s3 H3) elt te)
  (hs:∀ x,foldedSetIterable iter X.env x=pure x:=by intro _;rfl):PE X (.SetComp elt [⟨tg,iter,ifs,0⟩] scope pos) (tSC wi cap g tt te):=by
 intro pins s σ H Q I h
 obtain⟨cl,ecl,jT,lX⟩:=kO (scope:=scope) (env:=X.env) λy hy hf=>I.ok.has y.1 (C.fre y hy hf)
 rw[arm_eval_SetComp]
 refine cy (use:=none) rfl hs ecl C.kind C.loc (thn (hi pins s σ H _ I h) λxv s1 h1=>thn h1 λitv s2 h2=>?_)
 obtain⟨it,fp,tn,J,H2,e,I2,T,st2,f2,hw⟩:=h2
 subst e
 refine DA (RR:=λacc C=>compPost (model X.prog X.w) X.A X.xe none (EP X pins σ Q) acc C) I2 T st2 f2 hc C ho jT lX (hg cl fp) (ht cl fp) (he cl fp) hw λl Ca s' H' m' I' hn kG hP q=>?_
 exact⟨m',hn,λh'' vj=>⟨.ref l,H',mh I' hP kG vj,rfl,q⟩⟩
end
def dn (ks:List Int):Nat->Nat
 | 0=>0
 |i+1=>if ks.getD i 0∈ks.take i then dn ks i else dn ks i+1
theorem B6 (ks:List Int):∀ i,dn ks i<=i
 | 0=>au _
 |i+1=>by
  have:=B6 ks i
  unfold dn
  split<;>omega
theorem Hv {ks:List Int} :∀ {i},dn ks i=i↔∀ j,j<i->ks.getD j 0∉ks.take j
 | 0=>⟨λ_ j h=>absurd h (Nat.not_lt_zero j),λ_=>rfl⟩
 |i+1=>by
  have h1:=B6 ks i
  have h2:=@Hv ks i
  unfold dn
  constructor
  ·intro h j hj
   split at h
   ·omega
   ·rcases fq.mp hj with z |z
    ·exact h2.mp (by omega) j z
    ·subst z;assumption
  ·intro h
   rw[aE (h i (by omega)),h2.mpr λj hj=>h j (by omega)]
theorem AF (ks:List Int):ks.Nodup↔∀ j,j<ks.length->ks.getD j 0∉ks.take j:=by
 constructor
 ·intro h j hj hm
  obtain⟨i,hi,e⟩:=bj.mp hm
  rw[aT]at hi
  rw[fk]at e
  have e2:ks.getD j 0=ks[j]:=by rw[aN,ah hj];rfl
  rw[e2]at e
  have:=(cG h).mp e
  omega
 ·intro h
  rw[List.Nodup,dC]
  intro i j hi hj hij e
  refine h j hj ?_
  have e2:ks.getD j 0=ks[j]:=by rw[aN,ah hj];rfl
  rw[e2,<-e]
  exact bj.mpr ⟨i,by rw[aT];omega,by rw[fk]⟩
theorem Fq (ks:List Int):dn ks ks.length=ks.length↔ks.Nodup:=Hv.trans (AF ks).symm
theorem Hu (ks:List Int):dn ks ks.length<ks.length↔¬ks.Nodup:=by
 rw[<-Fq]
 have:=B6 ks ks.length
 omega
theorem take_snoc {ks:List Int}{i:Nat}(hi:i<ks.length):ks.take (i+1)=ks.take i ++ [ks.getD i 0]:=by
 rw[bh,aN,ah hi];rfl
theorem CF {ks:List Int}{i:Nat}(hi:i<ks.length):Ea (λk=>decide (k∈ks.take i)) (ks.getD i 0) = λk=>decide (k∈ks.take (i+1)):=by
 funext k
 rw[take_snoc hi]
 simp[Ea]
theorem CY (ks:List Int)(i:Nat):EG (λk=>decide (k∈ks.take i)) (dn ks i) (ks.getD i 0)=dn ks (i+1):=by
 unfold EG
 rw[dn]
 by_cases h:ks.getD i 0∈ks.take i
 ·rw[aJ h,aJ (by simpa using h)]
 ·rw[aE h,aE (by simpa using h)]
section
variable {X:Cx}
end
section
variable {l:Addr}{g:TG}{tt:TT}{te:TE}{cap:List (Option Nat)}{σ:St}{Q:VK}{H1:Hp}{J:It}
theorem D9 {α:Type}{n:Nat}{it:Nat->V->Prop}(S:JS J n H1 it)(ds:List α)(f:α->Int)(hn:H1 l=none)(hlen:n=ds.length)(hz:n+1<scanBound)
  (hs:∀ (i:Nat) x d H,it i x->ds[i]? = some d->fI H1 H->∀ (P1:VK) (P0:Hp->Prop),P1 (.int (f d)) H->
   g x (iG cap σ) H λσ2 H2=>tt σ2 H2 λb H3=>if b=true then te σ2 H3 P1 else P0 H3)
  (hq:Q (.ref l) (upd H1 l (.set (λk=>decide (k∈ds.map f)) (dn (ds.map f) n)))):ScW J g tt te cap σ Q l H1:=by
 refine⟨λi m H=>m=n-i/\i<=n/\H=upd H1 l (.set (λk=>decide (k∈(ds.map f).take i)) (dn (ds.map f) i)),⟨n,by simp,aK _,?_⟩,?_⟩
 ·congr 2
 rintro i m H ⟨rfl,hi,e2⟩
 have sm:fI H1 H:=by rw[e2];exact fB hn
 by_cases hlt:i<n
 ·refine .inr ⟨S.go i H sm hlt,λH'=>H'=upd H1 l (.set (λk=>decide (k∈(ds.map f).take (i+1))) (dn (ds.map f) (i+1))),λH' p2=>⟨n-(i+1),by omega,rfl,hlt,p2⟩,λx H' y0=>?_⟩
  obtain⟨e,y⟩:=S.yld i H x H' sm hlt y0
  clear y0
  subst e
  have hd:ds[i]? = some (ds[i]'(by omega)):=by simp
  generalize ds[i]'(by omega)=d at hd
  refine hs i x d H' y hd sm _ _ ⟨_,_,f d,rfl,by rw[e2];exact fC,?_,?_⟩
  ·have:=B6 (ds.map f) i
   omega
  ·have e3:(ds.map f).getD i 0=f d:=by rw[aN,aj,hd];rfl
   have h1:=CF (ks:=ds.map f) (i:=i) (by rw[aa];omega)
   have h2:=CY (ds.map f) i
   rw[e3]at h1 h2
   rw[h1,h2,e2,qM]
 ·have e:i=n:=by omega
  subst e
  refine .inl ⟨S.stop H sm,?_⟩
  rw[e2,cg (by rw[aa];omega)]
  exact hq
end
def hid (p:Addr)(H:Hp):Hp:=λb=>if b=p then none else H b
theorem gQ {p:Addr}{H:Hp} :fI (hid p H) H:=λb o h=>by
 unfold hid at h
 by_cases e:b=p
 ·rw[aJ e]at h;cases h
 ·rw[aE e]at h;exact h
theorem gY {p b:Addr}{H:Hp}(h:b≠p):hid p H b=H b:=by unfold hid;rw[aE h]
theorem jY {p:Addr}{H:Hp} :hid p H p=none:=by unfold hid;rw[aJ rfl]
theorem nI {p:Addr}{H H':Hp}(s:fI H H'):fI (hid p H) (hid p H'):=λb o h=>by
 by_cases e:b=p
 ·subst e;rw[jY]at h;cases h
 ·rw[gY e]at h ⊢;exact s _ _ h
theorem pY {p:Addr}{H:Hp}{o:HO} :hid p (upd H p o)=hid p H:=by
 funext b
 by_cases e:b=p
 ·subst e;rw[jY,jY]
 ·rw[gY e,gY e,fG e]
theorem yX {p:Addr}{H H':Hp}(s:fI H H')(hn:H p=none):fI H (hid p H'):=λb o h=>by
 rw[gY (fK h hn)];exact s _ _ h
theorem tO {K:PySem.W.Frag}{p a:Addr}{H:Hp}{vs xs:List V}(hp:H p=some (.lst vs))(h:SqT K H a xs):SqT K (hid p H) a xs:=by
 rcases h with(h |⟨o,h⟩)|h
 ·exact .inl (.inl (by rw[gY (gA h hp (by intro z;cases z))];exact h))
 ·exact .inl (.inr ⟨o,by rw[gY (gA h hp (by intro z;cases z))];exact h⟩)
 ·exact .inr h
theorem Fz (xs:List V){i:Int}(h:0<=i):qg xs (some i) none=xs.drop i.toNat:=by
 unfold qg
 rw[HT.uz]
 have e:HT.sIx xs.length 0 (some i)=min i.toNat xs.length:=by
  have:=HT.Bt xs.length 0 i.toNat
  rw[show((i.toNat:Nat):Int)=i by omega]at this
  exact this
 rw[e]
 by_cases h2:i.toNat<=xs.length
 ·rw[Nat.min_eq_left h2,cg (by rw[bE];omega)]
 ·rw[Nat.min_eq_right (by omega),List.drop_of_length_le (au _),List.drop_of_length_le (by omega),List.take_nil]
section
variable {L T:Addr->List V->Prop}
end
theorem qA {xs:List V}{v:V}{i:Int}(h0:0<=i)(h:xs[i.toNat]? = some v):atI xs i=some v:=by
 have:=mU h
 rw[show((i.toNat:Nat):Int)=i by omega]at this
 exact this
section
variable {K:PySem.W.Frag}{l:Addr}{g:TG}{tt:TT}{te:TE}{cap:List (Option Nat)}{σ:St}{Q:VK}{H1:Hp}{J:It}
theorem BO {α:Type}(n:Nat)(ds:List α)(d':α->PyData)(hn:H1 l=none)(hlen:n=ds.length)(hz:n<sizeLine)(go:∀ i H,fI H1 H->i<n->J.go i H)(st:∀ H,fI H1 H->J.stop n H)
  (hs:∀ i x d H H',fI H1 H->(∃ us,H l=some (.lst us))->J.yld i H x H'->ds[i]? = some d->∀ (P1:VK) (P0:Hp->Prop),(∀ v H2,fI H H2->Da K (hid l H2) (d' d) v->P1 v H2)->
   g x (iG cap σ) H' λσ2 H2=>tt σ2 H2 λb H3=>if b=true then te σ2 H3 P1 else P0 H3)
  (hq:∀ vs H',fI H1 H'->H' l=some (.lst vs)->Das K (hid l H') (ds.map d') vs->Q (.ref l) H'):LcW J g tt te cap σ Q l H1:=by
 refine vc n (λi acc H=>Das K (hid l H) ((ds.take i).map d') acc/\fI H1 H/\H l=some (.lst acc)) ⟨gS.mpr rfl,fB hn,fC⟩ (λi acc H hi ⟨_,s,_⟩=>go i H s hi) (λacc H ⟨_,s,_⟩=>st H s) ?_ ?_
 ·rintro i x acc H H' hi ⟨e1,s,hl⟩ y
  have hd:ds[i]? = some (ds[i]'(by omega)):=by simp
  generalize ds[i]'(by omega)=d at hd
  refine hs i x d H H' s ⟨_,hl⟩ y hd _ _ (λv H2 s2 dv=>?_)
  have la:=Dgs.length e1
  rw[aa,aT]at la
  refine⟨s2 _ _ hl,by omega,?_,fI.upd (s.trans s2) hn,fC⟩
  rw[pY,bh,hd,aB]
  exact Dgs.append (Das.same (nI s2) e1) (Dgs.one dv)
 ·rintro acc H ⟨e1,s,hl⟩
  rw[cg (by omega)]at e1
  exact hq acc H s hl e1
end
open PySem.W
section
variable {X:Cx}{pins:List (Addr×Obj)}{σ:St}{H H1:Hp}{s s':Shared}{e C:Addr}{B:Heap}
end
section
variable {prog:Program}{w:World}{A:Around}{R:Result->Shared->Prop}{s:Shared}{XE:Value->Shared->Prop}
end
section
variable {M:Model}{A:Around}{E:Value->Shared->Prop}{s:Shared}{env:Env}
end
section
variable {X:Cx}{pins:List (Addr×Obj)}{σ:St}{H H3:Hp}{s s3:Shared}{scope:Scope}{N:List Str}{own:Nat}{cap:List (Option Nat)}{cl:List (Str×Addr)}{fp:List Addr}{E:XK}
def XC (X:Cx)(scope:Scope)(cl:List (Str×Addr))(N:List Str)(fp:List Addr)(s3:Shared)(H3:Hp)(E:XK):Value->Shared->Prop:=λev s'=>∃ (sU:List (Addr×Obj)) (σ':St) (H':Hp) (s0:Shared),Inv (fU X scope cl N fp s3 H3) sU σ' H' s0/\CXr X.prog X.w X.base X.stack H' s0 E ev s'
abbrev LC (X:Cx)(scope:Scope)(cl:List (Str×Addr))(N:List Str)(fp:List Addr)(s3:Shared)(H3:Hp)(E:XK):Cx:=(fU X scope cl N fp s3 H3).tS (XC X scope cl N fp s3 H3 E)
end
section
variable {X:Cx}{pins:List (Addr×Obj)}{σ:St}{H1:Hp}{s2:Shared}{scope:Scope}{N:List Str}{own:Nat}{cap:List (Option Nat)}{cl:List (Str×Addr)}{fp:List Addr}
 {tg iter elt:Expr}{ifs:List Expr}{pos:Pos}{g:TG}{tt:TT}{te:TE}{wi:TI}{E:XK}
end
end TL
namespace TL
open PySem PySem.Spec PyProof.Rows L2
theorem pU {P:Program}{w:World}{base:Heap}{X:Cx} :Passes (CXr P w base) X E0:=λ_ _ _ _ _ _ _ hx=>by
 obtain⟨_,_,_,_,_,_,_,_,q⟩:=hx
 exact q.elim
section
variable {X:Cx}{pins:List (Addr×Obj)}{σ:St}{H:Hp}{s:Shared}{a:Addr}{kvs:List (List Key×V)}
theorem Inv.freeze (I:Inv X pins σ H s)(ha:H a=some (.dT kvs)):∃ o,Inv X pins σ (upd H a (.frz o (.dT kvs))) s:=by
 obtain⟨z,hm,xs,r,o,es,ep,e,c⟩:=I.hok a _ ha
 refine⟨o,?_⟩
 have h0:Inv X pins σ (upd H a (.frz o (.dT kvs))) {s with heap:=s.heap,toks:=s.toks} :=by
  refine I.un (t':=s.toks) ⟨λb o q _ _ _=>q,λb o q _ _ _=>⟨o.slots,q⟩,λb u q n _=>?_,λb o q _=>⟨o,q⟩,λb xs q=>?_,λb u x q=>?_,λb ps q=>⟨#[],?_⟩⟩ λb u q=>?_
  ·rw[fG (bI (fK ha n))];exact n
  ·rw[fG (gA q ha (by intro z;cases z))];exact q
  ·rw[fG (gA q ha (by intro z;cases z))];exact q
  ·rw[fG (gA q ha (by intro z;cases z)),q];simp
  ·have ho:∀ c b',H c=some (.own b')->upd H a (.frz o (.dT kvs)) c=some (.own b'):=λc b' q=>by rw[fG (gA q ha (by intro z;cases z))];exact q
   have ht:∀ c xs,H c=some (.tup xs)->upd H a (.frz o (.dT kvs)) c=some (.tup xs):=λc xs q=>by rw[fG (gA q ha (by intro z;cases z))];exact q
   by_cases hb:b=a
   ·subst hb
    rw[fC]at q
    cases q
    exact⟨e,(I.hok b _ ha).lA (λ_ _ _ q=>q) (λc q=>ho c _ q) ht⟩
   ·rw[fG hb]at q
    exact(I.hok b u q).lA (λ_ _ _ q=>q) (λc q=>ho c _ q) ht
 exact h0
theorem Inv.Iz {o:Obj}(I:Inv X pins σ H s)(ha:H a=some (.frz o (.dT kvs)))(h0:∀ o u,X.H₀ a≠some (.frz o u)):Inv X pins σ (upd H a (.dT kvs)) s:=by
 have ne:∀ b,H b=none->b≠a:=λb n=>bI (fK ha n)
 have hu:Un X.fs X.ex X.H₀ (upd H a (.dT kvs)) X.s₀.heap s.heap:=by
  refine⟨I.base.keep,I.base.slot,λb u q n hx=>?_,I.base.there,λb xs q=>?_,λb u x q=>?_,λb ps q=>?_⟩
  ·have:=I.base.free b u q n hx
   rw[fG (ne b this)];exact this
  ·have:=I.base.kD b xs q
   rw[fG (gA this ha (by intro z;cases z))];exact this
  ·have hb:b≠a:=λz=>by subst z;exact h0 _ _ q
   rw[fG hb];exact I.base.oE b u x q
  ·obtain⟨m,e⟩:=I.base.qu b ps q
   exact⟨m,by rw[fG (gA e ha (by intro z;cases z))];exact e⟩
 refine⟨I.ok,I.os,I.bare,hu,I.loc,I.cell,by rw[fG (ne _ I.free)];exact I.free,λx c e=>by rw[fG (ne _ (I.kC x c e))];exact I.kC x c e,λp hp=>?_,λb u q=>?_,I.len⟩
 ·obtain⟨p1,p2,p3⟩:=I.pin p hp
  exact⟨p1,by rw[fG (ne _ p2)];exact p2,p3⟩
 ·have ho:∀ c b',H c=some (.own b')->upd H a (.dT kvs) c=some (.own b'):=λc b' q=>by rw[fG (gA q ha (by intro z;cases z))];exact q
  have ht:∀ c xs,H c=some (.tup xs)->upd H a (.dT kvs) c=some (.tup xs):=λc xs q=>by rw[fG (gA q ha (by intro z;cases z))];exact q
  by_cases hb:b=a
  ·subst hb
   rw[fC]at q
   cases q
   exact(I.hok b _ ha).2.lA (λ_ _ _ q=>q) (λc q=>ho c _ q) ht
  ·rw[fG hb]at q
   exact(I.hok b u q).lA (λ_ _ _ q=>q) (λc q=>ho c _ q) ht
def LS (t:TE):TE:=λσ H Q=>∃ a kvs,H a=some (.dT kvs)/\∀ o,t σ (upd H a (.frz o (.dT kvs))) λv H'=>H' a=some (.frz o (.dT kvs))/\Q v (upd H' a (.dT kvs))
theorem Av {e:Expr}{t:TE}(h:PE X e t):PE X e (LS t):=by
 intro pins s σ H Q I q
 obtain⟨a,kvs,ha,q⟩:=q
 have h0:∀ o u,X.H₀ a≠some (.frz o u):=λo u z=>by have:=I.base.oE a o u z;rw[ha]at this;cases this
 obtain⟨o,I1⟩:=Inv.freeze I ha
 refine thn (h pins s σ _ _ I1 (q o)) λu s1 ⟨v,H1,I2,r,e1,q1⟩=>⟨v,_,Inv.Iz I2 e1 h0,r,q1⟩
def MF (t:TS):TS:=λD σ H=>∃ a kvs,H a=some (.dT kvs)/\∀ o,t ⟨λσ' H'=>H' a=some (.frz o (.dT kvs))/\D.nx σ' (upd H' a (.dT kvs)),λv H'=>H' a=some (.frz o (.dT kvs))/\D.rt v (upd H' a (.dT kvs)),λ_ _=>False,λ_ _=>False⟩ σ (upd H a (.frz o (.dT kvs)))
theorem Ib {st:Stmt}{t:TS}(h:PS X st t):PS X st (MF t):=by
 intro pins s σ H D I q
 obtain⟨a,kvs,ha,q⟩:=q
 have h0:∀ o u,X.H₀ a≠some (.frz o u):=λo u z=>by have:=I.base.oE a o u z;rw[ha]at this;cases this
 obtain⟨o,I1⟩:=Inv.freeze I ha
 refine thn (h pins s σ _ _ I1 (q o)) λf s1 hf=>?_
 match f,hf with
 |.next,⟨σ',H',I2,e1,q1⟩=>exact⟨σ',_,Inv.Iz I2 e1 h0,q1⟩
 |.brk,⟨_,_,_,q1⟩=>exact q1.elim
 |.cont,⟨_,_,_,q1⟩=>exact q1.elim
 |.ret u,⟨v,σ',H',I2,r,e1,q1⟩=>exact⟨v,σ',_,Inv.Iz I2 e1 h0,r,q1⟩
end
section
variable {prog:Program}{w:World}{A:Around}{E:Value->Shared->Prop}{s:Shared}{d it:Addr}{o:Obj}{es:Array DictEntry}{ep i:Nat}
theorem nv (ho:s.heap.get? d=some o)(hx:o.ExactDict):s.TypeIs (.ref d) "dict" :=⟨o,ho,hx.1⟩
theorem wN {Q:Value->Shared->Prop}(hn:(d==sysModules)=false)(ho:s.heap.get? d=some o)(hx:o.ExactDict)(hd:o.data = .dict es ep)
  (hQ:Q (.ref s.heap.objs.size) {s with heap:=s.heap.push {cls:=.type "dict_keyiterator",data:=.fields #[.ref d,.int 0 0,.int es.size 0,.int ep 0]}}):wpAny (model prog w) A (pyIter (.ref d)) Q E s:=by
 have hT:=nv ho hx
 refine wpAny_pyIter_slot hT F.slot_dict_iter (bR F.slot_dict_iter hT F.entry_dict_iter ?_ (F.args_dict_iter_1 _))
 unfold Builtin.«dict.__iter__»
 refine ae ?_
 unfold Builtin.Dict.dictSlotNone
 refine ae (wpAny_notOrdered_dict hT (ai ?_))
 show wpAny _ _ (Builtin.Dict.showsAll d >>= _) _ _ s
 unfold Builtin.Dict.showsAll
 rw[aE (by rw[hn];exact aD)]
 refine ae (ai (ae (dB ho hd (ae (eu ho hd ?_)))))
 refine ae (bX (ai ⟨_,rfl,"dict_keyiterator",_,⟨_,aQ _ rfl,rfl⟩,b8.lookup,?_⟩))
 simpa [rawInt]using hQ
theorem wM {Q:Option Value->Shared->Prop}{e:DictEntry}(hit:s.heap.IsKeyIter it d i es.size ep)(ho:s.heap.get? d=some o)(hd:o.data = .dict es ep)(hx:es[i]? = some e)
  (hQ:∀ h',h'.IsKeyIter it d (i+1) es.size ep->Heap.SameBut it s.heap h'->Q (some e.key) {s with heap:=h'}):wpAny (model prog w) A (pyNext (.ref it)) Q E s:=by
 obtain⟨oi,hoi,hc,hdi⟩:=id hit
 have hT:=hit.typeIs
 unfold pyNext
 refine ae (wpAny_attempt (eB (name:=Str.ofString "__next__") hT b8
  (bR b8 hT F.entry_dict_keyiterator_next ?_ (F.args_dict_keyiterator_next_1 _))))
 refine ae (ai (ae (ae ?_)))
 first |refine ae (de hT (ai ?_))|refine ae (dY hT (ai ?_))
 refine ae (wpAny_fieldsOf hoi hdi ?_)
 have yh:Builtin.Dict_items.ownsTuple "dict_keyiterator" = false:=by decide
 simp only[yh,aO,bG]
 show wpAny _ _ (if(Value.ref d==Value.none)=true then _ else _) _ _ s
 rw[aE (show ¬((Value.ref d==Value.none)=true) from aD)]
 refine ae (ai (ae (dB ho hd ?_)))
 rw[aE (by simp)]
 refine ae (ai (ae (eu ho hd ?_)))
 rw[aE (by simp)]
 refine ai ?_
 obtain⟨hlt,he⟩:=bC.mp hx
 simp only[show ¬((i:Int)<0) from by omega,bG,ef,bD hlt]
 refine ae ?_
 first |refine ae (de hT (ai ?_))|refine ae (dY hT (ai ?_))
 refine ae (wpAny_isOneOf_keyiter hT ?_)
 show wpAny _ _ (setField (.ref it) 1 (rawInt ((i:Int)+1)) >>= _) _ _ s
 refine ae (wpAny_setField hoi hdi (by simp) ?_)
 have GO:(s.heap.update it (Obj.mapFields (·.setIfInBounds 1 (rawInt ((i:Int)+1))))).IsKeyIter it d (i+1) es.size ep:=
  ⟨_,Heap.get?_update_self _ hoi (Obj.isFreed_of_fields (Obj.data_mapFields hdi _)),(Obj.cls_mapFields ..).trans hc,by rw[Obj.data_mapFields hdi];simp[rawInt]⟩
 refine ae (dw ?_)
 refine ae (wpAny_isOneOf_keyiter (s:={s with heap:=s.heap.update it (Obj.mapFields (·.setIfInBounds 1 (rawInt ((i:Int)+1))))}) GO.typeIs ?_)
 show wpAny _ _ (pure es[i].key) _ _ _
 rw[he]
 exact ai (ai ⟨_,rfl,ai (hQ _ GO (dX ..))⟩)
theorem yY {Q:Option Value->Shared->Prop}(hh:A.handled=none)(hit:s.heap.IsKeyIter it d i es.size ep)(ho:s.heap.get? d=some o)(hd:o.data = .dict es ep)(hx:es.size<=i)
  (hQ:∀ h',Heap.ExtBut it s.heap h'->Q none {s with heap:=h'}):wpAny (model prog w) A (pyNext (.ref it)) Q E s:=by
 obtain⟨oi,hoi,hc,hdi⟩:=id hit
 have hT:=hit.typeIs
 unfold pyNext
 refine ae (wpAny_attempt (eB (name:=Str.ofString "__next__") hT b8
  (bR b8 hT F.entry_dict_keyiterator_next ?_ (F.args_dict_keyiterator_next_1 _))))
 refine ae (ai (ae (ae ?_)))
 first |refine ae (de hT (ai ?_))|refine ae (dY hT (ai ?_))
 refine ae (wpAny_fieldsOf hoi hdi ?_)
 have yh:Builtin.Dict_items.ownsTuple "dict_keyiterator" = false:=by decide
 simp only[yh,aO,bG]
 show wpAny _ _ (if(Value.ref d==Value.none)=true then _ else _) _ _ s
 rw[aE (show ¬((Value.ref d==Value.none)=true) from aD)]
 refine ae (ai (ae (dB ho hd ?_)))
 rw[aE (by simp)]
 refine ae (ai (ae (eu ho hd ?_)))
 rw[aE (by simp)]
 refine ai ?_
 simp only[show ¬((i:Int)<0) from by omega,bG,ef,Array.getElem?_eq_none hx]
 refine ae ?_
 first |refine ae (de hT (ai ?_))|refine ae (dY hT (ai ?_))
 show wpAny _ _ (setField (.ref it) 0 .none >>= _) _ _ s
 refine ae (wpAny_setField hoi hdi (by simp) ?_)
 show wpAny _ _ (newExc (.type "StopIteration") [] >>= _) _ _ _
 refine ae ?_
 simp only[newExc,newTuple]
 refine ae (bX ?_ (by size_fits))
 refine ae (m:=firstArgMember _ _) (wpAny_of_eq (a:=Value.none) (by first |rfl |(simp only[firstArgMember];rfl)) ?_)
 refine bX ?_ (by size_fits)
 simp only[raiseNew]
 refine ae (wpAny_handled ?_)
 rw[show A.in1.handled=none from hh]
 refine ae (ai (wpAny_throw ?_))
 refine ae (eZ (T:= "StopIteration") (b:=true) ⟨_,aQ _ rfl,rfl⟩ isSubtype_stop ?_)
 exact ai (hQ _ (((dX ..).extBut.push _).push _))
theorem wL {Q:Value->Shared->Prop}{n:Nat}(hit:s.heap.IsKeyIter it d i n ep)(h:Q (.ref it) s):wpAny (model prog w) A (pyIter (.ref it)) Q E s:=by
 have hT:=hit.typeIs
 refine wpAny_pyIter_slot hT F.slot_dict_keyiterator_iter (bR F.slot_dict_keyiterator_iter hT F.entry_dict_keyiterator_iter ?_ (F.args_dict_keyiterator_iter_1 _))
 show wpAny _ _ (ret (.ref it)) _ _ s
 exact ai ⟨_,rfl,"dict_keyiterator",_,hT,b8.lookup,h⟩
end
theorem pV {α β:Type}{R:α->β->Prop} :∀ {l₁:List α}{l₂:List β}{i:Nat}{p:α},Paired R l₁ l₂->l₁[i]? = some p->∃ q,l₂[i]? = some q/\R p q
 |_,_,0,_,.cons r _,e=>by cases e;exact⟨_,rfl,r⟩
 |_,_,i+1,p,.cons _ t,e=>pV (i:=i) t e
def Itk (a:Addr)(o:Obj)(kvs:List (List Key×V)):It:=
 ⟨λi H=>H a=some (.frz o (.dT kvs))/\i<kvs.length,λi H x H'=>H'=H/\∃ b p,kvs[i]? = some p/\x = .ref b/\H b=some (.tup (p.1.map kV)),λi H=>H a=some (.frz o (.dT kvs))/\kvs.length<=i⟩
theorem Cu {P:Program}{w:World}{K:PySem.W.Frag}{tg:Expr}{hx:Heap}(htg:∀ it u,letOwnedTupleGo tg it u=pure ())(a it:Addr)(o:Obj)(kvs:List (List Key×V))(es:Array DictEntry)(ep:Nat)(hd:o.data = .dict es ep)(hl:es.size=kvs.length):
  Turn P w K tg (Itk a o kvs) [it] it (λi h=>h.IsKeyIter it a i es.size ep) where
 mem:=by simp
 obj:=λi h st b hb=>by
  have e:b=it:=by simpa using hb
  subst e
  obtain⟨oi,hoi,_,hdi⟩:=st
  exact⟨oi,hoi,λv z=>by rw[hdi]at z;cases z⟩
 keep:=λi h h' st k=>by
  obtain⟨oi,hoi,r⟩:=st
  exact⟨oi,k it (by simp) oi hoi,r⟩
 item:=by
  intro X hP hw hK hc i pins s σ H E I hf st hg
  subst hP hw hK
  obtain⟨ha,hi⟩:=hg
  obtain⟨ho,z,hm,xs,r,o',es',ep',e',_,hd',hes,_⟩:=I.hok a _ ha
  rw[ho]at e'
  cases e'
  rw[hd]at hd'
  cases hd'
  have hp:kvs[i]? = some kvs[i]:=by simp[hi]
  obtain⟨q,hq,q1,q2,q3⟩:=pV r hp
  have he:es[i]? = some (entryOfKey (tupleKind (gF X.prog X.w)) q):=by
   rw[<-bH,hes,aj,hq];rfl
  obtain⟨g0,g1,g2,g3,g4,g5⟩:=hf it (by simp)
  refine wM st ho hd he λh' k1 k2=>?_
  refine⟨_,rfl,?_⟩
  rw[htg]
  refine ai ⟨.ref q.2.1,H,I.turned (t':=s.toks) (λb u hb e=>k2.extBut b u hb e) g0 g1 g3 g4 g5,rfl,⟨rfl,q.2.1,_,hp,rfl,q2⟩,k1,λb hb=>?_⟩
  have e:b=it:=by simpa using hb
  subst e;exact g0
 done:=by
  intro X hP hw hK hc i pins s σ H E I hf st hg
  subst hP hw hK
  obtain⟨ha,hi⟩:=hg
  obtain⟨ho,_⟩:=I.hok a _ ha
  obtain⟨g0,g1,g2,g3,g4,g5⟩:=hf it (by simp)
  exact yY (I.ok.hd hc) st ho hd (by rw[hl];exact hi) λh' eb=>⟨rfl,I.turned (t':=s.toks) (λb u hb e=>eb b u hb e) g0 g1 g3 g4 g5⟩
 self:=λ_ _ _ _ _ st h=>wL st h
section
variable {X:Cx}
def Kw (tl:TE):TI:=λσ H R=>tl σ H λx H1=>∃ a o kvs,x = .ref a/\H1 a=some (.frz o (.dT kvs))/\R (Itk a o kvs) H1
theorem Bz {tg e:Expr}{tl:TE}(hl:PE X e tl)(htg:∀ it u,letOwnedTupleGo tg it u=pure ():=by intro _ _;rfl):PI X tg e (Kw tl):=by
 intro pins s σ H R I h
 refine thn (hl pins s σ H _ I h) λu s1 ⟨x,H1,I1,r1,a,o,kvs,ex,ha,q⟩=>?_
 subst ex
 cases(show u=Value.ref a from r1)
 obtain⟨ho,z,hm,xs,r,o',es,ep,e',hxd,hd,hes,_⟩:=I1.hok a _ ha
 rw[ho]at e'
 cases e'
 have hsz:es.size=kvs.length:=by
  have h1:=bL List.length hes
  rw[aW,aa,<-bZ r]at h1
  exact h1
 refine wN hm ho hxd hd ?_
 refine⟨s1.heap.objs.size,[s1.heap.objs.size],_,_,H1,rfl,I1.kept (t':=s1.toks) (λb u e=>ax _ e),Cu (hx:=s1.heap) htg a _ o kvs es ep hd hsz,⟨_,aQ _ rfl,rfl,rfl⟩,λb hb=>?_,q⟩
 have e:b=s1.heap.objs.size:=by simpa using hb
 subst e
 exact I1.Ds (au _) (I1.hok.fresh (au _))
end
section
variable {X:Cx}{pins:List (Addr×Obj)}{σ:St}{H:Hp}{s:Shared}{a b:Addr}{kvs:List (List Key×V)}{k:List Key}{v:V}{r:Value}{A:Around}{E:Value->Shared->Prop}
theorem Fy {Q:Unit->Shared->Prop}(hu:A.units<cLine)(I:Inv X pins σ H s)(e:H a=some (.dT kvs))(eb:H b=some (.tup (k.map kV)))(l:kvs.length<sizeLine)(rv:RelV v r)
  (h:∀ s',Inv X pins σ (upd H a (.dT (putK kvs k v))) s'->Q () s'):wpAny (model X.prog X.w) A (dictSet a (.ref b) r) Q E s:=by
 obtain⟨z,hd,xs,rel,dd⟩:=Fp I.hok e
 have hz:xs.length<=sizeLine:=by rw[<-bZ rel];exact z
 have hl:(putK kvs k v).length<=sizeLine:=by have:=oT kvs k v;omega
 refine wpAny_dictSet_heap (hsz:=hz) hu (qz I.hok eb) dd λh' dd' hs=>h _ ?_
 obtain⟨q,es,ep,hq,h2,h3,h4,_,h5⟩:=dd'
 refine rC I (by rw[e];exact True.intro) hs ⟨q,hq⟩ ⟨hl,hd,_,(rel.put k eb rv).keeps λc ys ec=>?_,q,es,ep,hq,h2,h3,h4,h5⟩
 rw[fG (gA ec e (λz=>nomatch z))]
 exact ec
def HK (tk tv:TE):TE:=λσ H Q=>∀ p,H p=none->Al [(tk,tv)] σ (upd H p (.dT [])) λps H2=>∃ (x y:V) (b:Addr) (ks:List Key),ps = [(x,y)]/\x=V.ref b/\H2 b=some (.tup (ks.map kV))/\H2 p=some (.dT [])/\Q (.ref p) (upd H2 p (.dT [(ks,y)]))
theorem zg {pos:Pos}{k v:Expr}{tk tv:TE}(hu:X.A.units+1<cLine)(hk:PE X k tk)(hv:PE X v tv):PE X (.Dict [some k] [v] pos) (HK tk tv):=by
 intro pins s σ H Q I q
 have hn:=I.hok.fresh (au s.heap.objs.size)
 have I1:=I.laid (a:=s.heap.objs.size) (o:=.dT []) (h':=s.heap.push {cls:=.type "dict",data:=.dict #[]}) (t':=s.toks) (λ_ _ q=>ax _ q) (au _) (vJ s.heap I.big)
 refine wpAny_Dict_any rfl rfl (by simp) (by simp) (thn (Ej hk hv Gj pins _ σ _ _ I1 (q _ hn)) λws s2 ⟨ps,H2,I2,rel,x,y,b,ks,ep,ex,hb,hp,q2⟩=>?_)
 subst ep ex
 cases rel with
 |@cons p w' ps ws r t=>
   cases t
   obtain⟨w1,w2⟩:=w'
   obtain⟨r1,r2⟩:=r
   cases(show w1=Value.ref b from r1)
   unfold storeAll
   rw[cK]
   refine ae (ae (Fy (by omega) I2 hp hb (by rw[eU];decide) r2 λs3 I3=>ai ?_))
   refine ai ⟨.ref s.heap.objs.size,_,I3,rfl,?_⟩
   exact q2
theorem Ep {x y n:Str}{i:Int}{u:Value}{k1 k2:Nat}{p1 p2 p3 p4 pos:Pos}(hg:Gl X n)(hm:X.mg n=some u)(r:RelV (.int i) u)(hi:i.natAbs.log2<1920)(hz:x.length<=1000/\y.length<=1000/\(Str.ofString (toString i)).length<=1000)
  (hd:(n==("__debug__" :Str))=false:=by decide):PE X (.JoinedStr [.Constant (.str x) k1 p1,.FormattedValue (.Name n p2) (-1) none p3,.Constant (.str y) k2 p4] pos) (λ_ H Q=>∀ z,Q (.str z) H):=by
 intro pins s σ H Q I q
 obtain⟨t,rfl⟩:=r
 have hl:∀ a b:Str,(a++b).length=a.length+b.length:=strLen_append
 have he:Str.empty.length=0:=rfl
 refine wpAny_JoinedStr ?_
 refine PySem.wpAny_Constant_str ⟨x,_,rfl,by rw[hl,he,cJ];omega,?_⟩
 refine wpAny_FormattedValue_plain (oj (I.tok _) hg hm (wpAny_formatField_int hi ⟨_,_,rfl,by rw[hl,hl,he,cJ];omega,?_⟩) hd)
 refine PySem.wpAny_Constant_str ⟨y,_,rfl,by rw[hl,hl,hl,he,cJ];omega,?_⟩
 refine⟨by rw[hl,hl,hl,he,cJ];omega,⟨.str _,H,?_,⟨_,rfl⟩,q _⟩⟩
 exact I.tok _
end
section
variable {X:Cx}{K:PySem.W.Frag}
theorem j4 (e:X.K=K):jS X (.type "list") (λxs H Q=>∃ p ys,xs = [.ref p]/\(SqL K H p ys\/SqT K H p ys)/\∀ l,H l=none->Q (.ref l) (upd H l (.lst ys))):=by subst e;exact iM
theorem pq (e:X.K=K):jS X (.type "tuple") (λxs H Q=>∃ p ys,xs = [.ref p]/\((SqL K H p ys/\∀ l,H l=none->Q (.ref l) (upd H l (.tup ys)))\/(SqT K H p ys/\Q (.ref p) H))):=by subst e;exact gw
end
abbrev Ln:=Int×List (Int×Int)
structure jm (l:Ln)(ns:List Int):Prop where
 ends:∀ e∈ns,0<=e/\e<2*l.1
 nd:(ns.map (· / 2)).Nodup
 ch:∀ (i:Nat) x y,ns[i]? = some x->ns[i+1]? = some y->y∈jn l.2 (oth x)
theorem AM {l:Ln}(ok:gv l){e x:Int} :x∈jn l.2 e↔(min e x,max e x)∈l.2:=by
 unfold jn
 rw[Ga,aF]
 constructor
 ·rintro(z |z)
  ·obtain⟨p,hp,rfl⟩:=ao.mp z
   obtain⟨h1,h2⟩:=bW.mp hp
   have h2:p.2=e:=by simpa using h2
   have:=ok.ends p h1
   have e1:(min e p.1,max e p.1)=p:=dj (by show min e p.1=p.1;omega) (by show max e p.1=p.2;omega)
   rw[e1];exact h1
  ·obtain⟨p,hp,rfl⟩:=ao.mp z
   obtain⟨h1,h2⟩:=bW.mp hp
   have h2:p.1=e:=by simpa using h2
   have:=ok.ends p h1
   have e1:(min e p.2,max e p.2)=p:=dj (by show min e p.2=p.1;omega) (by show max e p.2=p.2;omega)
   rw[e1];exact h1
 ·intro h
  by_cases hx:e<=x
  ·have e1:(min e x,max e x)=(e,x):=dj (by show min e x=e;omega) (by show max e x=x;omega)
   rw[e1]at h
   exact .inr (ao.mpr ⟨(e,x),bW.mpr ⟨h,by simp⟩,rfl⟩)
  ·have e1:(min e x,max e x)=(x,e):=dj (by show min e x=x;omega) (by show max e x=e;omega)
   rw[e1]at h
   exact .inl (ao.mpr ⟨(x,e),bW.mpr ⟨h,by simp⟩,rfl⟩)
theorem BV {l:Ln}(ok:gv l){e x:Int}(h:x∈jn l.2 e):e∈jn l.2 x:=by
 rw[AM ok]at h ⊢
 rw[show min x e=min e x by omega,show max x e=max e x by omega];exact h
theorem vf {l:Ln}(ok:gv l){e x:Int}(h:x∈jn l.2 e):0<=x/\x<2*l.1:=by
 have:=ok.ends _ ((AM ok).mp h)
 dsimp only at this
 omega
theorem yk {l:Ln}{ns:List Int}{e x:Int}(h:x∈fr l ns e):x∈jn l.2 e/\x/2∉ns.map (· / 2):=by
 obtain⟨h1,h2⟩:=bW.mp h
 exact⟨h1,by simpa using h2⟩
theorem jm.on {l:Ln}{ns:List Int}{e:Int}(ok:gv l)(T:jm l ns)(hne:ns≠ [])(he:e∈fr l ns (oth (ns.getLastD 0))):jm l (ns.drop 1 ++ [e]):=by
 obtain⟨h1,h2⟩:=yk he
 have hl:1<=ns.length:=by cases ns with |nil=>exact absurd rfl hne |cons x r=>simp
 refine⟨λx hx=>?_,?_,λi x y hx hy=>?_⟩
 ·rcases aF.mp hx with z |z
  ·exact T.ends x (eL z)
  ·have z:x=e:=by simpa using z
   rw[z];exact vf ok h1
 ·rw[aB,bQ]
  refine⟨by rw[eJ];exact T.nd.sublist (List.drop_sublist _ _),by simp,λa ha b hb z=>?_⟩
  have hb:b=e/2:=by simpa using hb
  rw[eJ]at ha
  exact h2 (by rw[<-hb,<-z];exact eL ha)
 ·have ld:(ns.drop 1).length=ns.length-1:=bE
  by_cases hi:i+1<(ns.drop 1).length
  ·rw[aq hi,cI]at hy
   rw[aq (by omega),cI]at hx
   exact T.ch (1+i) x y hx (by rw[<-hy];congr 1)
  ·have hlt:=(af.mp hy).1
   rw[ak,aI]at hlt
   have e1:i+1=(ns.drop 1).length:=by omega
   rw[e1,az (au _),bu]at hy
   cases hy
   rw[aq (by omega),cI]at hx
   have e2:ns.getLastD 0=x:=by
    rw[fi,List.getLast?_eq_getElem?,show ns.length-1=1+i by omega,hx];rfl
   rw[e2]at h1
   exact h1
theorem jm.back {l:Ln}{ns:List Int}{e:Int}(ok:gv l)(T:jm l ns)(hne:ns≠ [])(he:e∈fr l ns (ns.headD 0)):jm l (oth e::ns.dropLast):=by
 obtain⟨h1,h2⟩:=yk he
 have hl:1<=ns.length:=by cases ns with |nil=>exact absurd rfl hne |cons x r=>simp
 refine⟨λx hx=>?_,?_,λi x y hx hy=>?_⟩
 ·rcases aG.mp hx with z |z
  ·rw[z]
   have:=vf ok h1
   unfold oth
   omega
  ·exact T.ends x ((List.dropLast_sublist ns).subset z)
 ·rw[bg,bB]
  refine⟨λz=>h2 ?_,?_⟩
  ·rw[Ex]at z
   have:=(List.dropLast_sublist ns).map (· / 2)
   exact this.subset z
  ·exact T.nd.sublist ((List.dropLast_sublist ns).map _)
 ·cases i with
  |zero=>
   cases hx
   have hy:ns.dropLast[0]? = some y:=hy
   rw[tL]
   have hy2:ns[0]? = some y:=by
    have:=(af.mp hy).1
    rw[List.getElem?_dropLast]at hy
    split at hy
    ·exact hy
    ·cases hy
   have e2:ns.headD 0=y:=by cases ns with |nil=>cases hy2 |cons a r=>cases hy2;rfl
   rw[e2]at h1
   exact BV ok h1
  |succ j=>
   have hx:ns.dropLast[j]? = some x:=hx
   have hy:ns.dropLast[j+1]? = some y:=hy
   rw[List.getElem?_dropLast]at hx hy
   split at hx
   ·split at hy
    ·exact T.ch j x y hx hy
    ·cases hy
   ·cases hx
theorem AG {l:Ln}{ns:List Int}{m:Mv}(ok:gv l)(T:jm l ns)(hne:ns≠ [])(hm:m∈mvs l ns):jm l m.2/\m.2.length=ns.length/\m.2≠ []:=by
 have hl:1<=ns.length:=by cases ns with |nil=>exact absurd rfl hne |cons x r=>simp
 rcases aF.mp hm with z |z
 ·obtain⟨e,he,rfl⟩:=ao.mp z
  refine⟨T.on ok hne he,?_,λe=>?_⟩
  ·simp only[onM,ak,bE,aR,eU];omega
  ·simp[onM]at e
 ·obtain⟨e,he,rfl⟩:=ao.mp z
  refine⟨T.back ok hne he,?_,λe=>?_⟩
  ·simp only[vS,aR,eN];omega
  ·simp[vS]at e
theorem qw {α:Type} [DecidableEq α]:∀ {l1 l2:List α},l1.Nodup->(∀ x∈l1,x∈l2)->l1.length<=l2.length
 |[],_,_,_=>aK _
 |x::r,l2,nd,h=>by
  rw[bB]at nd
  have hx:=h x aA
  have:=qw (l1:=r) (l2:=l2.erase x) nd.2 λy hy=>by
   have:y≠x:=λz=>nd.1 (by rw[<-z];exact hy)
   exact(eM this).mpr (h y (aw _ hy))
  rw[dG hx]at this
  have h1:1<=l2.length:=by cases l2 with |nil=>cases hx |cons a b=>simp
  rw[aR]
  omega
def A9 (l:Ln):List (Int×Int):=l.2.map (λp=>(oth p.1,p.2))++l.2.map λp=>(oth p.2,p.1)
def ym (l:Ln):List Int:=(List.range (2*l.1).toNat).map λi:Nat=>(i:Int)
def yr (l:Ln):Nat->List (List Int)
 | 0=>[[]]
 | 1=>(ym l).map λe=>[e]
 |n+2=>(A9 l).flatMap λp=>(yr l n).map λr=>p.1::p.2::r
theorem G0 {l:Ln}(ok:gv l){x y:Int}(h:y∈jn l.2 (oth x)):(x,y)∈A9 l:=by
 have h:=(AM ok).mp h
 unfold A9
 rw[aF]
 by_cases hc:oth x<=y
 ·rw[show min (oth x) y=oth x by omega,show max (oth x) y=y by omega]at h
  exact .inl (ao.mpr ⟨_,h,by rw[tL]⟩)
 ·rw[show min (oth x) y=y by omega,show max (oth x) y=oth x by omega]at h
  exact .inr (ao.mpr ⟨_,h,by rw[tL]⟩)
theorem Aa {l:Ln}(ok:gv l):∀ (n:Nat) (ns:List Int),ns.length=n->(∀ e∈ns,0<=e/\e<2*l.1)->(∀ (i:Nat) x y,ns[i]? = some x->ns[i+1]? = some y->y∈jn l.2 (oth x))->ns∈yr l n
 | 0,ns,hl,_,_=>by rw[List.eq_nil_of_length_eq_zero hl];exact aA
 | 1,[e],_,he,_=>by
  have:=he e aA
  refine ao.mpr ⟨e,ao.mpr ⟨e.toNat,by rw[bP];omega,by omega⟩,rfl⟩
 |n+2,x::y::r,hl,he,hc=>by
  refine List.mem_flatMap.mpr ⟨(x,y),G0 ok (hc 0 x y rfl rfl),ao.mpr ⟨r,Aa ok n r (by simpa using hl) (λe h=>he e (aw _ (aw _ h))) (λi a b ha hb=>hc (i+2) a b ha hb),rfl⟩⟩
theorem Ab {l:Ln}(ok:gv l):∀ n,(yr l n).length<=160 ^ ((n+1)/2)
 | 0=>by simp[yr]
 | 1=>by
  simp only[yr,ym,aa,cj]
  have:=ok.most
  omega
 |n+2=>by
  have ih:=Ab ok n
  simp only[yr]
  rw[List.length_flatMap]
  have e1:(A9 l).map (λa=>((yr l n).map λr=>a.1::a.2::r).length)=(A9 l).map λ_=>(yr l n).length:=by
   refine List.map_congr_left λa _=>by rw[aa]
  rw[e1,List.map_const',List.sum_replicate_nat]
  have h1:(A9 l).length<=160:=by
   unfold A9
   rw[ak,aa,aa]
   have:=ok.len
   omega
  have e2:(n+2+1)/2=(n+1)/2+1:=by omega
  rw[e2,d9,Nat.mul_comm (160 ^ _)]
  exact Nat.mul_le_mul h1 ih
theorem Ak {l:Ln}(ok:gv l){n:Nat}(hn:n<=6){ts:List (List Int)}(nd:ts.Nodup)(h:∀ t∈ts,jm l t/\t.length=n):ts.length<=4096000:=by
 have h1:=qw nd (l2:=yr l n) λt ht=>Aa ok n t (h t ht).2 (h t ht).1.ends (h t ht).1.ch
 have h2:=Ab ok n
 have h3:160 ^ ((n+1)/2)<=160 ^ 3:=dq (by decide) (by omega)
 have h4:160 ^ 3=4096000:=by decide
 omega
abbrev Ent:=List Int×Option (List Int×(Str×Int))
def m8 (t:List Int)(o:List Ent)(m:Mv):List Ent:=if m.2∈o.map (·.1)then o else o ++ [(m.2,some (t,m.1))]
def gW (t:List Int)(ms:List Mv)(o:List Ent):List Ent:=ms.foldl (m8 t) o
def fO (l:Ln)(ns:List Int):Nat->List Ent
 | 0=>[(ns,none)]
 |i+1=>match (fO l ns i)[i]? with
  |some e=>gW e.1 (mvs l e.1) (fO l ns i)
  |none=>fO l ns i
theorem vU (t:List Int)(o:List Ent)(m:Mv):o <+:m8 t o m:=by
 unfold m8
 split
 ·exact List.prefix_rfl
 ·exact cW _ _
theorem pL (t:List Int)(ms:List Mv):∀ o,o <+:gW t ms o:=by
 induction ms with
 |nil=>exact λo=>List.prefix_rfl
 |cons m r ih=>exact λo=>(vU t o m).trans (ih _)
theorem um {t:List Int}{ms:List Mv}{o:List Ent}{j:Nat}{m:Mv}(h:ms[j]? = some m):gW t (ms.take (j+1)) o=m8 t (gW t (ms.take j) o) m:=by
 unfold gW
 rw[bh,h,dh];rfl
theorem oJ {t:List Int}(ms:List Mv)(o:List Ent)(j:Nat):gW t (ms.take j) o <+:gW t ms o:=by
 have:gW t ms o=gW t (ms.drop j) (gW t (ms.take j) o):=by
  unfold gW
  rw[<-dh,cZ]
 rw[this]
 exact pL _ _ _
theorem nh {l:Ln}{ns:List Int}{i:Nat}{e:Ent}(h:(fO l ns i)[i]? = some e):fO l ns (i+1)=gW e.1 (mvs l e.1) (fO l ns i):=by
 rw[fO,h]
theorem pI (l:Ln)(ns:List Int)(i:Nat):fO l ns i <+:fO l ns (i+1):=by
 rw[fO]
 split
 ·exact pL _ _ _
 ·exact List.prefix_rfl
theorem tT (l:Ln)(ns:List Int)(i:Nat):∀ k,fO l ns i <+:fO l ns (i+k)
 | 0=>List.prefix_rfl
 |k+1=>(tT l ns i k).trans (pI l ns (i+k))
theorem pH {l:Ln}{ns:List Int}{i:Nat}(h:(fO l ns i).length<=i):∀ k,fO l ns (i+k)=fO l ns i
 | 0=>rfl
 |k+1=>by
  have ih:=pH h k
  have:(fO l ns (i+k))[i+k]? = none:=bq (by rw[ih];omega)
  show fO l ns (i+k+1)=_
  rw[fO,this]
  exact ih
structure mY (l:Ln)(ns:List Int)(es:List Ent):Prop where
 tr:∀ e∈es,jm l e.1/\e.1.length=ns.length/\e.1≠ []
 nd:(es.map (·.1)).Nodup
 ne:es≠ []
theorem mY.add {l:Ln}{ns t:List Int}{es:List Ent}{m:Mv}(ok:gv l)(h:mY l ns es)(hm:m∈mvs l t)(ht:jm l t/\t.length=ns.length/\t≠ []):mY l ns (m8 t es m):=by
 unfold m8
 split
 ·exact h
 ·rename_i hn
  obtain⟨h1,h2,h3⟩:=AG ok ht.1 ht.2.2 hm
  refine⟨λe he=>?_,?_,by simp⟩
  ·rcases aF.mp he with z |z
   ·exact h.tr e z
   ·have z:e=(m.2,some (t,m.1)):=by simpa using z
    rw[z];exact⟨h1,by show m.2.length=ns.length;omega,h3⟩
  ·rw[aB,bQ]
   refine⟨h.nd,by simp,λa ha b hb z=>?_⟩
   have hb:b=m.2:=by simpa using hb
   exact hn (by rw[<-hb,<-z];exact ha)
theorem mY.scan {l:Ln}{ns t:List Int}(ok:gv l)(ht:jm l t/\t.length=ns.length/\t≠ []):∀ {ms:List Mv}{es:List Ent},(∀ m∈ms,m∈mvs l t)->mY l ns es->mY l ns (gW t ms es)
 |[],_,_,h=>h
 |m::r,es,hm,h=>mY.scan (ms:=r) ok ht (λx hx=>hm x (aw _ hx)) (h.add ok (hm m aA) ht)
theorem jd {l:Ln}{ns:List Int}(ok:gv l)(T:jm l ns)(hne:ns≠ []):∀ i,mY l ns (fO l ns i)
 | 0=>⟨λe he=>by have z:e=(ns,none):=(by simpa [fO]using he);rw[z];exact⟨T,rfl,hne⟩,by simp[fO],by simp[fO]⟩
 |i+1=>by
  have ih:=jd ok T hne i
  rw[fO]
  split
  ·rename_i e he
   exact mY.scan ok (ih.tr e (av he)) (λm hm=>hm) ih
  ·exact ih
theorem mY.len {l:Ln}{ns:List Int}{es:List Ent}(ok:gv l)(h:mY l ns es)(hn:ns.length<=6):es.length<=4096000:=by
 have:=Ak ok hn h.nd λt ht=>by
  obtain⟨e,he,rfl⟩:=ao.mp ht
  exact⟨(h.tr e he).1,(h.tr e he).2.1⟩
 rw[aa]at this
 exact this
theorem mY.OM {l:Ln}{ns:List Int}{es:List Ent}(h:mY l ns es)(hn:ns.length=1):es.length<=(2*l.1).toNat:=by
 have:=qw h.nd (l2:=(ym l).map λe=>[e]) λt ht=>by
  obtain⟨e,he,rfl⟩:=ao.mp ht
  obtain⟨h1,h2,_⟩:=h.tr e he
  rw[hn]at h2
  match hq:e.1,h2 with
  |[x],_=>
   have:=h1.ends x (by rw[hq];exact aA)
   exact ao.mpr ⟨x,ao.mpr ⟨x.toNat,by rw[bP];omega,by omega⟩,rfl⟩
 rw[aa,aa]at this
 unfold ym at this
 rw[aa,cj]at this
 exact this
def okJ (m:Int)(p:Int×Int):Prop:=(0<=p.1/\p.1<2*m)/\(0<=p.2/\p.2<2*m)/\p.1<=p.2/\p.1/2≠p.2/2
structure rN (l:Ln):Prop where
 one:1<=l.1
 most:l.1<=14
 len:l.2.length<=24
 ok:∀ p∈l.2,okJ l.1 p
 nd:l.2.Nodup
theorem rN.IB {l:Ln}(G:rN l):gv l:=by
 have h1:=G.len
 refine⟨G.one,by have:=G.most;omega,by omega,λe=>?_,λp hp=>?_⟩
 ·have:=inc_le l.2 e;omega
 ·obtain⟨a,b,c,_⟩:=G.ok p hp
  exact⟨a.1,c,b.2⟩
structure Ren (m:Int)(nm es:List Int):Prop where
 len:(nm.length:Int)=m
 nb:∀ x∈nm,0<=x/\x<m
 nd:nm.Nodup
 Dw:es.length=2*nm.length
 at_:∀ j,j<nm.length->∃ f:Int,(f=0\/f=1)/\es[2*j]? = some (2*nm.getD j 0+f)/\es[2*j+1]? = some (2*nm.getD j 0+1-f)
def rho (es:List Int)(e:Int):Int:=es.getD e.toNat 0
def rj (es:List Int)(p:Int×Int):Int×Int:=(min (rho es p.1) (rho es p.2),max (rho es p.1) (rho es p.2))
theorem Ren.rho {m:Int}{nm es:List Int}(R:Ren m nm es){e:Int}(h0:0<=e)(h1:e<2*m):
  ∃ f:Int,(f=0\/f=1)/\TL.rho es e=2*nm.getD (e/2).toNat 0+(if e%2=0 then f else 1-f)/\
   ∀ e',0<=e'->e'/2=e/2->TL.rho es e'=2*nm.getD (e/2).toNat 0+(if e'%2=0 then f else 1-f):=by
 have hl:=R.len
 obtain⟨f,hf,e1,e2⟩:=R.at_ (e/2).toNat (by omega)
 have key:∀ e',0<=e'->e'/2=e/2->TL.rho es e'=2*nm.getD (e/2).toNat 0+(if e'%2=0 then f else 1-f):=λe' h2 h3=>by
  unfold TL.rho
  by_cases c:e'%2=0
  ·rw[aJ c,aN,show e'.toNat=2*(e/2).toNat by omega,e1];rfl
  ·rw[aE c,aN,show e'.toNat=2*(e/2).toNat+1 by omega,e2]
   show 2*nm.getD (e/2).toNat 0+1-f=_
   omega
 exact⟨f,hf,key e h0 rfl,key⟩
theorem Ren.By {m:Int}{nm es:List Int}(R:Ren m nm es){e:Int}(h0:0<=e)(h1:e<2*m):TL.rho es e/2=nm.getD (e/2).toNat 0:=by
 obtain⟨f,hf,e1,_⟩:=R.rho h0 h1
 rw[e1]
 split<;>omega
theorem Ren.Kk {m:Int}{nm es:List Int}(R:Ren m nm es){p:Int}(h0:0<=p)(h1:p<m):0<=nm.getD p.toNat 0/\nm.getD p.toNat 0<m:=by
 have hl:=R.len
 have h2:p.toNat<nm.length:=by omega
 have:nm.getD p.toNat 0=nm[p.toNat]:=by rw[aN,ah h2];rfl
 rw[this]
 exact R.nb _ (eG h2)
theorem Ren.ED {m:Int}{nm es:List Int}(R:Ren m nm es){p q:Int}(h0:0<=p)(h1:p<m)(g0:0<=q)(g1:q<m)(e:nm.getD p.toNat 0=nm.getD q.toNat 0):p=q:=by
 have hl:=R.len
 have h2:p.toNat<nm.length:=by omega
 have h3:q.toNat<nm.length:=by omega
 have e1:nm.getD p.toNat 0=nm[p.toNat]:=by rw[aN,ah h2];rfl
 have e2:nm.getD q.toNat 0=nm[q.toNat]:=by rw[aN,ah h3];rfl
 rw[e1,e2]at e
 have:=(cG R.nd).mp e
 omega
theorem Ren.Ec {m:Int}{nm es:List Int}(R:Ren m nm es){e:Int}(h0:0<=e)(h1:e<2*m):0<=TL.rho es e/\TL.rho es e<2*m:=by
 obtain⟨f,hf,e1,_⟩:=R.rho h0 h1
 have:=R.Kk (p:=e/2) (by omega) (by omega)
 rw[e1]
 split<;>omega
theorem Ren.inj {m:Int}{nm es:List Int}(R:Ren m nm es){e e':Int}(h0:0<=e)(h1:e<2*m)(g0:0<=e')(g1:e'<2*m)(h:TL.rho es e=TL.rho es e'):e=e':=by
 have hp:e/2=e'/2:=by
  have a:=R.By h0 h1
  have b:=R.By g0 g1
  rw[h,b]at a
  exact(R.ED (by omega) (by omega) (by omega) (by omega) a).symm
 obtain⟨f,hf,e1,e2⟩:=R.rho h0 h1
 rw[e1,e2 e' g0 hp.symm]at h
 by_cases c:e%2=0<;>by_cases d:e'%2=0
 ·omega
 ·rw[aJ c,aE d]at h;omega
 ·rw[aE c,aJ d]at h;omega
 ·omega
theorem Ren.okJ {m:Int}{nm es:List Int}(R:Ren m nm es){p:Int×Int}(h:TL.okJ m p):TL.okJ m (rj es p):=by
 obtain⟨⟨a0,a1⟩,⟨b0,b1⟩,le,ne⟩:=h
 have ha:=R.Ec a0 a1
 have hb:=R.Ec b0 b1
 have pa:=R.By a0 a1
 have pb:=R.By b0 b1
 have hne:TL.rho es p.1/2≠TL.rho es p.2/2:=λz=>by
  rw[pa,pb]at z
  exact ne (R.ED (by omega) (by omega) (by omega) (by omega) z)
 unfold TL.okJ rj
 dsimp only
 generalize TL.rho es p.1=x at *
 generalize TL.rho es p.2=y at *
 refine⟨by omega,by omega,by omega,λz=>?_⟩
 by_cases c:x<=y
 ·rw[dO c,dA c]at z;exact hne z
 ·rw[dz (by omega),dQ (by omega)]at z;exact hne z.symm
theorem okJ.lt {m:Int}{p:Int×Int}(h:okJ m p):p.1<p.2:=by
 obtain⟨_,_,le,ne⟩:=h
 by_cases c:p.1=p.2
 ·rw[c]at ne;exact absurd rfl ne
 ·omega
theorem Km {a b c d:Int}(h1:min a b=min c d)(h2:max a b=max c d):(a=c/\b=d)\/(a=d/\b=c):=by
 rcases Int.le_total a b with x |x<;>rcases Int.le_total c d with y |y
 ·rw[dO x,dO y]at h1;rw[dA x,dA y]at h2;exact .inl ⟨h1,h2⟩
 ·rw[dO x,dz y]at h1;rw[dA x,dQ y]at h2;exact .inr ⟨h1,h2⟩
 ·rw[dz x,dO y]at h1;rw[dQ x,dA y]at h2;exact .inr ⟨h2,h1⟩
 ·rw[dz x,dz y]at h1;rw[dQ x,dQ y]at h2;exact .inl ⟨h2,h1⟩
theorem Ren.HU {m:Int}{nm es:List Int}(R:Ren m nm es){p q:Int×Int}(hp:TL.okJ m p)(hq:TL.okJ m q)(e:rj es p=rj es q):p=q:=by
 obtain⟨⟨a0,a1⟩,⟨b0,b1⟩,le,ne⟩:=id hp
 obtain⟨⟨c0,c1⟩,⟨d0,d1⟩,le',ne'⟩:=id hq
 have l1:=hp.lt
 have l2:=hq.lt
 unfold rj at e
 rw[Prod.mk.injEq]at e
 obtain⟨e1,e2⟩:=e
 obtain⟨pa,pb⟩:=p
 obtain⟨qa,qb⟩:=q
 dsimp only at *
 have hor:=Km e1 e2
 rcases hor with⟨x,y⟩|⟨x,y⟩
 ·rw[R.inj a0 a1 c0 c1 x,R.inj b0 b1 d0 d1 y]
 ·have:=R.inj a0 a1 d0 d1 x
  have:=R.inj b0 b1 c0 c1 y
  omega
theorem Ren.line {m:Int}{nm es:List Int}(R:Ren m nm es){js js':List (Int×Int)}(G:rN (m,js))(hp:js'.Perm (js.map (rj es))):rN (m,js'):=by
 refine⟨G.one,G.most,?_,λp h=>?_,?_⟩
 ·have:=hp.length_eq
  rw[aa]at this
  show js'.length<=24
  have:=G.len
  dsimp only at this
  omega
 ·obtain⟨q,hq,rfl⟩:=ao.mp (hp.mem_iff.mp h)
  exact R.okJ (G.ok q hq)
 ·refine hp.nodup_iff.mpr ?_
  rw[List.Nodup,cM]
  exact dH (λ{a b} ha hb hab z=>hab (R.HU (G.ok a ha) (G.ok b hb) z)) G.nd
def Ss (K:PySem.W.Frag)(H:Hp)(Q:VK):Prop:=∀ (v:V) (l:Ln) (H':Hp),fI H H'->Da K H' (dL l) v->rN l->Q v H'
end TL
namespace TL
theorem AY {m:Int}{js:List (Int×Int)}{a b:Int}(G:rN (m,js))(ne:a/2≠b/2)(a0:0<=a)(a1:a<2*m)(b0:0<=b)(b1:b<2*m)(hn:(min a b,max a b)∉js)(hl:js.length<24):rN (m,js ++ [(min a b,max a b)]):=by
 refine⟨G.one,G.most,?_,λp hp=>?_,?_⟩
 ·show(js ++ [(min a b,max a b)]).length<=24
  rw[ak];show js.length+1<=24;omega
 ·rcases aF.mp hp with z |z
  ·exact G.ok p z
  ·have z:p=(min a b,max a b):=by simpa using z
   subst z
   unfold okJ
   dsimp only
   refine⟨by omega,by omega,by omega,λz=>?_⟩
   by_cases c:a<=b
   ·rw[dO c,dA c]at z;exact ne z
   ·rw[dz (by omega),dQ (by omega)]at z;exact ne z.symm
 ·refine bQ.mpr ⟨G.nd,by simp,λx hx y hy=>?_⟩
  have hy:y=(min a b,max a b):=by simpa using hy
  rw[hy]
  exact λz=>hn (z ▸ hx)
open PySem PySem.Spec PyProof.Rows L2
section
variable {prog:Program}{w:World}{A:Around}{E:Value->Shared->Prop}{s:Shared}{l b:Addr}{items Pk:Array Value}{n n2:Nat}
end
section
variable {X:Cx}
end
abbrev TF:=St->Hp->Str->(Str->Hp->Prop)->Prop
section
variable {X:Cx}{e:Expr}{es:List Expr}{te:TE}{tf:TF}{pos:Pos}
end
section
variable {X:Cx}
end
section
variable {prog:Program}{w:World}{A:Around}{E:Value->Shared->Prop}{s:Shared}
end
section
variable {X:Cx}{pos:Pos}
end
section
variable {prog:Program}{w:World}{A:Around}{E:Value->Shared->Prop}{s:Shared}
end
section
variable {X:Cx}{pos:Pos}
end
section
variable {X:Cx}
end
section
variable {X:Cx}{tg e:Expr}{te:TE}
end
end TL
namespace TS
open PySem
def lcg:Nat->Nat->Nat
 | 0,x=>x
 |d+1,x=>5*lcg d x+1
theorem yc (d:Nat):∀ e x,lcg (e+d) x=lcg e (lcg d x)
 | 0,x=>by rw[Nat.zero_add];rfl
 |e+1,x=>by rw[Nat.add_right_comm];show 5*lcg (e+d) x+1=5*lcg e (lcg d x)+1;rw[yc d e x]
theorem BL:∀ k,∃ q,q%2=1/\∀ x,lcg (2 ^ k) x=x+2 ^ k*q*(4*x+1)
 | 0=>⟨1,rfl,λx=>by show 5*x+1=_;omega⟩
 |k+1=>by
  obtain⟨q,hq,h⟩:=BL k
  refine⟨q*(1+2*2 ^ k*q),?_,λx=>?_⟩
  ·have e:q*(1+2*2 ^ k*q)=q+2*(q*2 ^ k*q):=by
    rw[Nat.mul_add,Nat.mul_one,b9 2,Nat.mul_left_comm q 2,b9 q]
   rw[e,Nat.add_mul_mod_self_left];exact hq
  ·rw[d9,Nat.mul_two,yc,h x,h]
   generalize 2 ^ k=p
   have e:∀ y,p*q*(4*(x+y)+1)=p*q*(4*x+1)+4*(p*q*y):=λy=>by
    rw[show 4*(x+y)+1=(4*x+1)+4*y by omega,Nat.mul_add,Nat.mul_left_comm (p*q) 4 y]
   rw[e]
   have e2:(p+p)*(q*(1+2*p*q))*(4*x+1)=2*(p*q*(4*x+1))+4*(p*q*(p*q*(4*x+1))):=by
    have a1:(p+p)*(q*(1+2*p*q))=2*(p*q)+4*(p*q*(p*q)):=by
     rw[<-Nat.two_mul,b9,<-b9 p q,Nat.mul_add,Nat.mul_one,Nat.mul_add]
     congr 1
     rw[b9 2 p q,Nat.mul_left_comm (p*q) 2,<-b9]
    rw[a1,Nat.add_mul,b9 2,b9 4,b9 (p*q)]
   rw[e2]
   omega
theorem BM:∀ k x y,∃ d,d<2 ^ k/\lcg d x%2 ^ k=y%2 ^ k
 | 0,x,y=>⟨0,Nat.one_pos,by simp[Nat.mod_one]⟩
 |k+1,x,y=>by
  obtain⟨d,hd,e⟩:=BM k x y
  have hp:0<2 ^ k:=Nat.two_pow_pos k
  have h2:2 ^ (k+1)=2 ^ k*2:=d9 ..
  obtain⟨q,hq,h⟩:=BL k
  have split:∀ a,a%(2 ^ k*2)=a%2 ^ k+2 ^ k*(a/2 ^ k%2):=λa=>Nat.mod_mul
  by_cases c:lcg d x/2 ^ k%2=y/2 ^ k%2
  ·exact⟨d,by omega,by rw[h2,split,split,e,c]⟩
  ·refine⟨2 ^ k+d,by omega,?_⟩
   rw[yc,h,h2,split,split]
   generalize hz:lcg d x=z at *
   have h4:(q*(4*z+1))%2=1:=by
    rw[Nat.mul_mod,hq,show(4*z+1)%2=1 by omega]
   have e1:(z+2 ^ k*q*(4*z+1))%2 ^ k=z%2 ^ k:=by rw[b9,Nat.add_mul_mod_self_left]
   have e2:(z+2 ^ k*q*(4*z+1))/2 ^ k=z/2 ^ k+q*(4*z+1):=by rw[b9,Nat.add_mul_div_left _ _ hp]
   rw[e1,e2,e]
   congr 2
   have:=Nat.mod_two_eq_zero_or_one (z/2 ^ k)
   have:=Nat.mod_two_eq_zero_or_one (y/2 ^ k)
   omega
open SetTable
def adv (mask:Nat)(p:Probe):Probe:=
 if p.more>0 then {p with j:=p.j+1,more:=p.more-1} else
 {p with j:=(leap mask p.i p.perturb).1,more:=runEnd mask (leap mask p.i p.perturb).1-(leap mask p.i p.perturb).1,i:=(leap mask p.i p.perturb).1,perturb:=(leap mask p.i p.perturb).2}
theorem FK (t:SetTable)(p:Probe):t.advance p=adv t.mask p:=by unfold advance adv;split<;>rfl
def pAt (mask:Nat)(h:Int):Nat->Probe
 | 0=>{j:=bits h%(mask+1),more:=runEnd mask (bits h%(mask+1))-bits h%(mask+1),i:=bits h%(mask+1),perturb:=bits h,dummy:=none}
 |n+1=>adv mask (pAt mask h n)
theorem wV (mask:Nat)(h:Int):∀ n,(pAt mask h n).dummy=none
 | 0=>rfl
 |n+1=>by
  show(adv mask (pAt mask h n)).dummy=none
  unfold adv
  split<;>exact wV mask h n
def lpI (mask:Nat)(h:Int):Nat->Nat×Nat
 | 0=>(bits h%(mask+1),bits h)
 |r+1=>leap mask (lpI mask h r).1 (lpI mask h r).2
def lpT (mask:Nat)(h:Int):Nat->Nat
 | 0=>0
 |r+1=>lpT mask h r+(runEnd mask (lpI mask h r).1-(lpI mask h r).1)+1
theorem wH (mask i:Nat):i<=runEnd mask i:=by unfold runEnd;split<;>omega
theorem CG (mask i:Nat):runEnd mask i<=i+9:=by unfold runEnd;split<;>omega
theorem sT {mask i:Nat}(h:i<=mask):runEnd mask i<=mask:=by unfold runEnd;split<;>omega
theorem oP (mask:Nat)(h:Int):∀ r d,d<=runEnd mask (lpI mask h r).1-(lpI mask h r).1->
  pAt mask h (lpT mask h r+d) = {j:=(lpI mask h r).1+d,more:=runEnd mask (lpI mask h r).1-(lpI mask h r).1-d,i:=(lpI mask h r).1,perturb:=(lpI mask h r).2,dummy:=none}
 | 0,0,_=>rfl
 |r+1,0,_=>by
  have ih:=oP mask h r _ (au _)
  show pAt mask h (lpT mask h r+(runEnd mask (lpI mask h r).1-(lpI mask h r).1)+1)=_
  show adv mask (pAt mask h (lpT mask h r+(runEnd mask (lpI mask h r).1-(lpI mask h r).1)))=_
  rw[ih]
  unfold adv
  simp only[bu,gt_iff_lt,cO,bG]
  rfl
 |r,d+1,hd=>by
  have ih:=oP mask h r d (by omega)
  show adv mask (pAt mask h (lpT mask h r+d))=_
  rw[ih]
  unfold adv
  rw[aJ (by show _>0;simp only;omega)]
  simp only[Probe.mk.injEq,and_true,true_and]
  omega
theorem AJ (mask:Nat)(h:Int):∀ r,(lpI mask h r).1<=mask
 | 0=>Nat.le_of_lt_succ (Nat.mod_lt (bits h) (Nat.succ_pos mask))
 |r+1=>Nat.le_of_lt_succ (Nat.mod_lt ((lpI mask h r).1*5+1+(lpI mask h r).2/32) (Nat.succ_pos mask))
theorem GZ (h:Int):bits h<2 ^ 64:=by unfold bits;omega
theorem zz (mask:Nat)(h:Int):∀ r,(lpI mask h r).2=bits h/32 ^ r
 | 0=>by simp[lpI]
 |r+1=>by
  show(lpI mask h r).2/32=_
  rw[zz mask h r,Nat.div_div_eq_div_mul,d9]
theorem EV (mask:Nat)(h:Int){r:Nat}(hr:13<=r):(lpI mask h r).2=0:=by
 rw[zz]
 have h1:=GZ h
 have h2:32 ^ 13<=32 ^ r:=dq (by decide) hr
 exact Nat.div_eq_of_lt (aX h1 (bF (by decide) h2))
theorem BI (mask:Nat)(h:Int){s:Nat}(hs:13<=s):∀ d,(lpI mask h (s+d)).1=lcg d (lpI mask h s).1%(mask+1)
 | 0=>by show(lpI mask h s).1=(lpI mask h s).1%(mask+1);rw[Nat.mod_eq_of_lt (Nat.lt_succ_of_le (AJ mask h s))]
 |d+1=>by
  have ih:=BI mask h hs d
  show((lpI mask h (s+d)).1*5+1+(lpI mask h (s+d)).2/32)%(mask+1)=(5*lcg d (lpI mask h s).1+1)%(mask+1)
  rw[EV mask h (by omega),ih,Nat.zero_div,Nat.add_zero,Nat.mul_comm _ 5,Nat.add_mod,Nat.mul_mod_mod,<-Nat.add_mod]
theorem BJ {mask k:Nat}(hk:mask+1=2 ^ k)(h:Int)(r0:Nat){j:Nat}(hj:j<=mask):∃ r,r0+1<=r/\r<=r0+mask+14/\(lpI mask h r).1=j:=by
 obtain⟨s,h1,h2,h3⟩:∃ s,13<=s/\r0+1<=s/\s<=r0+14:=by
  by_cases c:13<=r0+1
  ·exact⟨r0+1,c,by omega,by omega⟩
  ·exact⟨13,by omega,by omega,by omega⟩
 obtain⟨d,hd,e⟩:=BM k (lpI mask h s).1 j
 refine⟨s+d,by omega,by omega,?_⟩
 rw[BI mask h h1,hk,e,Nat.mod_eq_of_lt (by omega)]
theorem EU (mask:Nat)(h:Int)(r:Nat):∀ e,lpT mask h (r+e)<=lpT mask h r+10*e
 | 0=>au _
 |e+1=>by
  have:=EU mask h r e
  have h2:=CG mask (lpI mask h (r+e)).1
  show lpT mask h (r+e)+(runEnd mask (lpI mask h (r+e)).1-(lpI mask h (r+e)).1)+1<=_
  omega
theorem ya (mask:Nat)(h:Int)(r:Nat):lpT mask h r<lpT mask h (r+1):=by
 show _<lpT mask h r+(runEnd mask (lpI mask h r).1-(lpI mask h r).1)+1
 omega
theorem zy (mask:Nat)(h:Int)(r:Nat):∀ e,lpT mask h r<=lpT mask h (r+e)
 | 0=>au _
 |e+1=>bF (zy mask h r e) (cf (ya mask h (r+e)))
theorem uX (mask:Nat)(h:Int):∀ n,∃ r,lpT mask h r<=n/\n<lpT mask h (r+1)
 | 0=>⟨0,au _,ya mask h 0⟩
 |n+1=>by
  obtain⟨r,h1,h2⟩:=uX mask h n
  by_cases c:n+1<lpT mask h (r+1)
  ·exact⟨r,by omega,c⟩
  ·exact⟨r+1,by omega,by have:=ya mask h (r+1);omega⟩
theorem BB {mask k:Nat}(hk:mask+1=2 ^ k)(h:Int)(n:Nat){j:Nat}(hj:j<=mask):∃ m,n<=m/\m<n+10*turns mask/\(pAt mask h m).j=j:=by
 obtain⟨r0,h1,h2⟩:=uX mask h n
 obtain⟨r,h3,h4,e⟩:=BJ hk h r0 hj
 refine⟨lpT mask h r,?_,?_,?_⟩
 ·obtain⟨x,rfl⟩:∃ x,r=r0+1+x:=⟨r-(r0+1),by omega⟩
  have:=zy mask h (r0+1) x
  omega
 ·obtain⟨x,rfl⟩:∃ x,r=r0+x:=⟨r-r0,by omega⟩
  have:=EU mask h r0 x
  unfold turns
  omega
 ·have:=oP mask h r 0 (aK _)
  rw[Nat.add_zero]at this
  rw[this]
  simpa using e
theorem Il (mask:Nat)(h:Int)(n:Nat):(pAt mask h n).j<=mask:=by
 obtain⟨r,h1,h2⟩:=uX mask h n
 have h3:=sT (AJ mask h r)
 have h4:=oP mask h r (n-lpT mask h r) (by
  have:n<lpT mask h r+(runEnd mask (lpI mask h r).1-(lpI mask h r).1)+1:=h2
  omega)
 rw[show lpT mask h r+(n-lpT mask h r)=n by omega]at h4
 rw[h4]
 have:n<lpT mask h r+(runEnd mask (lpI mask h r).1-(lpI mask h r).1)+1:=h2
 have h5:=wH mask (lpI mask h r).1
 show(lpI mask h r).1+(n-lpT mask h r)<=mask
 omega
open SetTable
theorem vR {xs:Array Nat}{j:Nat}(hs:xs.toList.Pairwise (· < ·)):∀ fuel lo hi,hi-lo<=fuel->lo<=hi->hi<=xs.size->(∀ i (h:i<xs.size),i<lo->xs[i]<j)->(∀ i (h:i<xs.size),hi<=i->j<=xs[i])->
  below.go xs j fuel lo hi<=xs.size/\(∀ i (h:i<xs.size),i<below.go xs j fuel lo hi->xs[i]<j)/\(∀ i (h:i<xs.size),below.go xs j fuel lo hi<=i->j<=xs[i])
 | 0,lo,hi,h1,h2,h3,h4,h5=>by
  have:lo=hi:=by omega
  subst this
  exact⟨h3,h4,h5⟩
 |fuel+1,lo,hi,h1,h2,h3,h4,h5=>by
  unfold below.go
  by_cases c:lo<hi
  ·rw[aJ c]
   dsimp only
   have hm:(lo+hi)/2<xs.size:=by omega
   have e:xs.getD ((lo+hi)/2) j=xs[(lo+hi)/2]:=by simp[Array.getD,hm]
   have mono:∀ a b (ha:a<xs.size) (hb:b<xs.size),a<b->xs[a]<xs[b]:=λa b ha hb hab=>by
    have:=dC.mp hs a b (by simpa using ha) (by simpa using hb) hab
    simpa using this
   rw[e]
   by_cases d:xs[(lo+hi)/2]<j
   ·rw[aJ d]
    refine vR hs fuel _ _ (by omega) (by omega) h3 (λi h hi'=>?_) h5
    by_cases q:i=(lo+hi)/2
    ·subst q;exact d
    ·exact Nat.lt_trans (mono i _ h hm (by omega)) d
   ·rw[aE d]
    refine vR hs fuel _ _ (by omega) (by omega) (by omega) h4 (λi h hi'=>?_)
    by_cases q:i=(lo+hi)/2
    ·subst q;omega
    ·have:=mono _ i hm h (by omega);omega
  ·rw[aE c]
   have:lo=hi:=by omega
   subst this
   exact⟨h3,h4,h5⟩
theorem ou {xs:Array Nat}(hs:xs.toList.Pairwise (· < ·))(j:Nat):
  below xs j<=xs.size/\(∀ i (h:i<xs.size),i<below xs j->xs[i]<j)/\(∀ i (h:i<xs.size),below xs j<=i->j<=xs[i]):=
 vR hs xs.size 0 xs.size (by omega) (by omega) (au _) (λi h c=>by omega) λi h c=>by omega
theorem below_at {xs:Array Nat}(hs:xs.toList.Pairwise (· < ·)){i j:Nat}(h:xs[i]? = some j):below xs j=i:=by
 obtain⟨h1,h2,h3⟩:=ou hs j
 obtain⟨hi,e⟩:=bC.mp h
 have mono:∀ a b (ha:a<xs.size) (hb:b<xs.size),a<b->xs[a]<xs[b]:=λa b ha hb hab=>by
  have:=dC.mp hs a b (by simpa using ha) (by simpa using hb) hab
  simpa using this
 rcases Nat.lt_trichotomy (below xs j) i with c |c |c
 ·have:=h3 (below xs j) (by omega) (au _)
  have:=mono _ _ (by omega) hi c
  omega
 ·exact c
 ·have:=h2 i hi c
  omega
theorem we {xs:Array Nat}(hs:xs.toList.Pairwise (· < ·)){j:Nat}(hj:j∉xs.toList):(insertAt xs (below xs j) j).toList.Pairwise (· < ·):=by
 obtain⟨h1,h2,h3⟩:=ou hs j
 rw[d8]
 have a:∀ y∈xs.toList.take (below xs j),y<j:=λy hy=>by
  obtain⟨i,hi,e⟩:=bj.mp hy
  rw[aT]at hi
  rw[fk]at e
  rw[<-e]
  exact h2 i (by simpa using(show i<xs.toList.length by omega)) (by omega)
 have b:∀ y∈xs.toList.drop (below xs j),j<y:=λy hy=>by
  obtain⟨i,hi,e⟩:=bj.mp hy
  rw[bE]at hi
  rw[List.getElem_drop]at e
  have hm:y∈xs.toList:=eL hy
  have:j≠y:=λz=>hj (z ▸ hm)
  have:=h3 (below xs j+i) (by simpa using(show below xs j+i<xs.toList.length by omega)) (by omega)
  rw[<-e]at *
  simp at *
  omega
 refine List.pairwise_append.mpr ⟨hs.sublist (List.take_sublist _ _),List.pairwise_cons.mpr ⟨b,hs.sublist (List.drop_sublist _ _)⟩,λx hx y hy=>?_⟩
 rcases aG.mp hy with rfl |hy
 ·exact a x hx
 ·exact Nat.lt_trans (a x hx) (b y hy)
theorem nj {t:SetTable}(hs:t.place.toList.Pairwise (· < ·)){i j:Nat}(h:t.place[i]? = some j):t.slot j = .live i:=by
 unfold slot
 dsimp only
 rw[below_at hs h,h]
 simp
theorem uk {t:SetTable}(hd:t.dummies = #[]){j:Nat}(h:j∉t.place.toList):t.slot j = .empty:=by
 unfold slot
 dsimp only
 rw[aE,hd,aE]
 ·simp[has]
 ·intro z
  have z':t.place[below t.place j]? = some j:=by simpa using z
  exact h (by rw[eS];exact Array.mem_of_getElem? z')
theorem sub_len:∀ {l m:List Nat},l.Nodup->(∀ x∈l,x∈m)->l.length<=m.length
 |[],m,_,_=>aK _
 |x::l,m,hn,hs=>by
  rw[bB]at hn
  have hx:=hs x aA
  have:=@sub_len l (m.erase x) hn.2 λy hy=>by
   refine(eM ?_).mpr (hs y (aw _ hy))
   rintro rfl
   exact hn.1 hy
  have h2:=dG hx
  have h3:0<m.length:=List.length_pos_of_mem hx
  rw[aR]
  omega
theorem wA {l:List Nat}{mask:Nat}(h:l.length<=mask):∃ j,j<=mask/\j∉l:=by
 refine aY λc=>?_
 have:=@sub_len (List.range (mask+1)) l List.nodup_range λx hx=>aY λq=>c ⟨x,by have:=bP.mp hx;omega,q⟩
 rw[cj]at this
 omega
def rM (mask:Nat)(taken:List Nat)(h:Int)(j:Nat):Prop:=∃ n,(pAt mask h n).j=j/\∀ m,m<n->(pAt mask h m).j∈taken
structure WFT (t:SetTable)(hs:List Int):Prop where
 pow:∃ k,3<=k/\t.mask+1=2 ^ k
 small:t.mask<=8191
 dum:t.dummies = #[]
 rise:t.place.toList.Pairwise (· < ·)
 all:∀ j∈t.place.toList,j<=t.mask
 len:t.place.size=hs.length
 room:hs.length*5<t.mask*3
 reach:∀ i (h:i<hs.length) j,t.place[i]? = some j->rM t.mask t.place.toList hs[i] j
theorem WFT.fits {t:SetTable}{hs:List Int}(W:WFT t hs):t.fits hs.length=true:=by
 have:=W.room
 simp only[SetTable.fits,SetTable.fill,W.len,W.dum,eE,Bool.true_and,dZ]
 show hs.length+0<=t.mask
 omega
theorem WFT.PU {t:SetTable}{hs:List Int}(W:WFT t hs):t.gaveWay=false:=by
 obtain⟨k,hk,e⟩:=W.pow
 obtain⟨k,rfl⟩:∃ q,k=q+1:=⟨k-1,by omega⟩
 rw[d9]at e
 unfold gaveWay
 have:t.mask%2=1:=by omega
 rw[this];rfl
theorem WFT.fresh (a b:Nat)(led:Bool):WFT (SetTable.fresh a b led) []:=
 ⟨⟨3,by decide,rfl⟩,(by show 7<=8191;decide),rfl,List.Pairwise.nil,λj hj=>by simp[SetTable.fresh]at hj,rfl,(by show 0*5<7*3;decide),λi h=>by simp at h⟩
def Hit (t:SetTable)(hs:List Int)(h:Int)(n:Nat):Prop:=(pAt t.mask h n).j∉t.place.toList\/∃ i,t.place[i]? = some (pAt t.mask h n).j/\hs.getD i 0=h
def vq (t:SetTable)(h:Int)(n:Nat):SetTable.Met:=match t.slot (pAt t.mask h n).j with
 |.live i=>.candidate (pAt t.mask h n).j i (pAt t.mask h (n+1))
 |_=>.empty (pAt t.mask h n).j none
theorem Ei {t:SetTable}{hs:List Int}(W:WFT t hs){ha:Nat->Int}{h:Int}(hh:∀ i,i<hs.length->ha i=hs.getD i 0):∀ (d fuel n:Nat),d<fuel->Hit t hs h (n+d)->(∀ m,n<=m->m<n+d->¬Hit t hs h m)->
  SetTable.probe.go t ha h fuel (pAt t.mask h n)=some (vq t h (n+d)):=by
 intro d
 induction d with
 |zero=>
  intro fuel n hf hit _
  obtain⟨f,rfl⟩:∃ f,fuel=f+1:=⟨fuel-1,by omega⟩
  unfold SetTable.probe.go vq
  rw[Nat.add_zero]at hit ⊢
  rcases hit with z |⟨i,z,e⟩
  ·rw[uk W.dum z,wV]
  ·rw[nj W.rise z]
   have hi:i<hs.length:=by rw[<-W.len];exact(bC.mp z).1
   dsimp only
   rw[hh i hi,e,eE,aJ rfl,FK]
   rfl
 |succ d ih=>
  intro fuel n hf hit hno
  obtain⟨f,rfl⟩:∃ f,fuel=f+1:=⟨fuel-1,by omega⟩
  have hn:=hno n (au _) (by omega)
  unfold Hit at hn
  rw[not_or,Classical.not_not]at hn
  obtain⟨n1,n2⟩:=hn
  obtain⟨i,hi⟩:=Array.mem_iff_getElem?.mp (eS.mp n1)
  have hi':i<hs.length:=by rw[<-W.len];exact(bC.mp hi).1
  unfold SetTable.probe.go
  rw[nj W.rise hi]
  dsimp only
  rw[hh i hi',aE (by intro z;exact n2 ⟨i,hi,by simpa using z⟩),FK]
  have:=ih f (n+1) (by omega) (by rw[show n+1+d=n+(d+1) by omega];exact hit) λm h1 h2=>hno m (by omega) (by omega)
  rw[show n+(d+1)=n+1+d by omega]
  exact this
theorem sx {P:Nat->Prop} :∀ d n,P (n+d)->∃ e,e<=d/\P (n+e)/\∀ m,n<=m->m<n+e->¬P m
 | 0,n,h=>⟨0,au _,h,λm h1 h2=>by omega⟩
 |d+1,n,h=>by
  by_cases c:P n
  ·exact⟨0,aK _,c,λm h1 h2=>by omega⟩
  ·obtain⟨e,h1,h2,h3⟩:=sx (P:=P) d (n+1) (by rw[show n+1+d=n+(d+1) by omega];exact h)
   refine⟨e+1,by omega,by rw[show n+(e+1)=n+1+e by omega];exact h2,λm h4 h5=>?_⟩
   by_cases q:m=n
   ·subst q;exact c
   ·exact h3 m (by omega) (by omega)
theorem Au {t:SetTable}{hs:List Int}(W:WFT t hs){ha:Nat->Int}{h:Int}(hh:∀ i,i<hs.length->ha i=hs.getD i 0)(n:Nat):
  ∃ m,n<=m/\Hit t hs h m/\(∀ q,n<=q->q<m->¬Hit t hs h q)/\t.probe ha h (pAt t.mask h n)=some (vq t h m):=by
 obtain⟨k,_,hk⟩:=W.pow
 obtain⟨j,hj,hf⟩:=@wA t.place.toList t.mask (by
  have:=W.room;have h1:=W.len
  rw[aW];omega)
 obtain⟨m,h1,h2,e⟩:=BB hk h n hj
 obtain⟨d,rfl⟩:∃ d,m=n+d:=⟨m-n,by omega⟩
 obtain⟨e',h3,h4,h5⟩:=sx (P:=Hit t hs h) d n (.inl (by rw[e];exact hf))
 exact⟨n+e',by omega,h4,h5,Ei W hh e' _ n (by omega) h4 h5⟩
theorem WFT.put {t:SetTable}{hs:List Int}(W:WFT t hs){h:Int}{n:Nat}(he:(pAt t.mask h n).j∉t.place.toList)(hn:∀ m,m<n->(pAt t.mask h m).j∈t.place.toList)(b:Bool)
  (hr:(hs.length+1)*5<t.mask*3):WFT {(t.put (pAt t.mask h n).j).1 with plain:=b} (hs.take (t.put (pAt t.mask h n).j).2++h::hs.drop (t.put (pAt t.mask h n).j).2):=by
 generalize hj:(pAt t.mask h n).j=j at he
 have hp:(t.put j).2=below t.place j:=rfl
 have hpl:(t.put j).1.place=insertAt t.place (below t.place j) j:=rfl
 have hle:=(ou W.rise j).1
 have hL:(insertAt t.place (below t.place j) j).toList=t.place.toList.take (below t.place j)++j::t.place.toList.drop (below t.place j):=d8 ..
 have sq:∀ x,x∈t.place.toList->x∈(insertAt t.place (below t.place j) j).toList:=λx hx=>by
  rw[hL]
  rw[<-cZ (below t.place j) t.place.toList]at hx
  rcases aF.mp hx with z |z
  ·exact aS _ z
  ·exact ay _ (aw _ z)
 have len:(hs.take (below t.place j)++h::hs.drop (below t.place j)).length=hs.length+1:=by
  rw[ak,aR,aT,bE]
  have:=W.len
  omega
 refine⟨W.pow,W.small,?_,we W.rise he,λx hx=>?_,?_,?_,λi hi x hx=>?_⟩
 ·show(if has t.dummies j then eraseAt t.dummies (below t.dummies j)else t.dummies) = #[]
  rw[W.dum]
  simp[has]
 ·have hx:x∈(insertAt t.place (below t.place j) j).toList:=hx
  show x<=t.mask
  rw[hL]at hx
  rcases aF.mp hx with z |z
  ·exact W.all x (List.mem_of_mem_take z)
  ·rcases aG.mp z with rfl |z
   ·rw[<-hj];exact Il t.mask h n
   ·exact W.all x (eL z)
 ·rw[hp,len]
  show(insertAt t.place (below t.place j) j).size=_
  rw[<-aW,hL,ak,aR,aT,bE,aW,W.len]
  have:=W.len
  omega
 ·rw[hp,len];exact hr
 ·rw[hp]at hi
  have hx:(insertAt t.place (below t.place j) j)[i]? = some x:=hx
  rw[<-bH,hL]at hx
  have hg:∀ (y:Int),(hs.take (below t.place j)++h::hs.drop (below t.place j))[i]? = some y->rM t.mask (insertAt t.place (below t.place j) j).toList y x:=by
   intro y hy
   have up:∀ {y x},rM t.mask t.place.toList y x->rM t.mask (insertAt t.place (below t.place j) j).toList y x:=λ{y x} ⟨n,a,b⟩=>⟨n,a,λm hm=>sq _ (b m hm)⟩
   have hlt:(hs.take (below t.place j)).length=below t.place j:=by rw[aT];have:=W.len;omega
   have KO:(t.place.toList.take (below t.place j)).length=below t.place j:=by rw[aT,aW];omega
   rcases Nat.lt_trichotomy i (below t.place j)with c |c |c
   ·rw[aq (by omega),fu c]at hx hy
    obtain⟨hl,e⟩:=af.mp hy
    have:=W.reach i hl x (by rw[<-bH];exact hx)
    rw[e]at this
    exact up this
   ·subst c
    rw[az (by omega),hlt,bu]at hy
    rw[az (by omega),KO,bu]at hx
    simp at hx hy
    subst hx hy
    exact⟨n,hj,λm hm=>sq _ (hn m hm)⟩
   ·obtain⟨i,rfl⟩:∃ q,i=q+1:=⟨i-1,by omega⟩
    rw[az (by omega),hlt,show i+1-below t.place j=(i-below t.place j)+1 by omega,cT,cI,show below t.place j+(i-below t.place j)=i by omega]at hy
    rw[az (by omega),KO,show i+1-below t.place j=(i-below t.place j)+1 by omega,cT,cI,show below t.place j+(i-below t.place j)=i by omega]at hx
    obtain⟨hl,e⟩:=af.mp hy
    have:=W.reach i hl x (by rw[<-bH];exact hx)
    rw[e]at this
    exact up this
  exact hg _ (ah hi)
open SetTable
def qN (owner:Array (Option Nat))(j:Nat):Prop:=∃ i,owner[j]? = some (some i)
theorem Dq {mask:Nat}{owner:Array (Option Nat)}(hz:owner.size=mask+1)(h:Int):∀ fuel r,(∃ r',r<=r'/\r'<r+fuel/\owner[(lpI mask h r').1]? = some none)->
  ∃ n j,layClean.free mask owner fuel (lpI mask h r).1 (lpI mask h r).2=some j/\lpT mask h r<=n/\(pAt mask h n).j=j/\owner[j]? = some none/\∀ m,lpT mask h r<=m->m<n->qN owner (pAt mask h m).j:=by
 intro fuel
 induction fuel with
 |zero=>rintro r ⟨r',h1,h2,_⟩;omega
 |succ fuel ih=>
  rintro r ⟨r',h1,h2,h3⟩
  have hrm:=sT (AJ mask h r)
  have hrg:=wH mask (lpI mask h r).1
  have Jb:∀ k,k<runEnd mask (lpI mask h r).1+1-(lpI mask h r).1->∃ o,owner[(lpI mask h r).1+k]? = some o/\owner.getD ((lpI mask h r).1+k) (some 0)=o:=λk hk=>by
   have hl:(lpI mask h r).1+k<owner.size:=by omega
   exact⟨owner[(lpI mask h r).1+k],bD hl,by simp[Array.getD,hl]⟩
  have hj:∀ k,k<runEnd mask (lpI mask h r).1+1-(lpI mask h r).1->(pAt mask h (lpT mask h r+k)).j=(lpI mask h r).1+k:=λk hk=>by
   rw[oP mask h r k (by omega)]
  unfold layClean.free
  cases hf:(List.range (runEnd mask (lpI mask h r).1+1-(lpI mask h r).1)).find? λk=>(owner.getD ((lpI mask h r).1+k) (some 0)).isNone with
  |some k=>
   dsimp only
   obtain⟨hk1,as,bs,hk2,hk3⟩:=List.find?_eq_some_iff_append.mp hf
   have hkm:k<runEnd mask (lpI mask h r).1+1-(lpI mask h r).1:=by
    have:=fh hf
    simpa using this
   obtain⟨o,o1,o2⟩:=Jb k hkm
   rw[o2]at hk1
   have:o=none:=by cases o with |none=>rfl |some _=>simp at hk1
   subst this
   refine⟨lpT mask h r+k,_,rfl,dy _ _,hj k hkm,o1,λm m1 m2=>?_⟩
   obtain⟨k',rfl⟩:∃ k',m=lpT mask h r+k':=⟨m-lpT mask h r,by omega⟩
   obtain⟨o',o3,o4⟩:=Jb k' (by omega)
   rw[hj k' (by omega)]
   have hin:k'∈as:=by
    have e1:(List.range (runEnd mask (lpI mask h r).1+1-(lpI mask h r).1))[as.length]? = some k:=by rw[hk2];simp
    have e2:as.length=k:=by
     rw[af]at e1
     obtain⟨_,e1⟩:=e1
     simpa using e1
    have e3:(List.range (runEnd mask (lpI mask h r).1+1-(lpI mask h r).1))[k']? = some k':=by
     rw[eY (by omega)]
    rw[hk2,aq (by omega)]at e3
    exact av e3
   have:=hk3 k' hin
   rw[o4]at this
   cases o' with
   |none=>simp at this
   |some i=>exact⟨i,o3⟩
  |none=>
   dsimp only
   have mB:=List.find?_eq_none.mp hf
   have hno:∀ k,k<runEnd mask (lpI mask h r).1+1-(lpI mask h r).1->qN owner ((lpI mask h r).1+k):=λk hk=>by
    obtain⟨o,o1,o2⟩:=Jb k hk
    have:=mB k (bP.mpr hk)
    rw[o2]at this
    cases o with
    |none=>simp at this
    |some i=>exact⟨i,o1⟩
   have hne:r'≠r:=by
    rintro rfl
    obtain⟨i,e⟩:=hno 0 (by omega)
    rw[Nat.add_zero,h3]at e
    cases e
   obtain⟨n,j,e1,e2,e3,e4,e5⟩:=ih (r+1) ⟨r',by omega,by omega,h3⟩
   refine⟨n,j,e1,bF (cf (ya mask h r)) e2,e3,e4,λm m1 m2=>?_⟩
   by_cases c:m<lpT mask h (r+1)
   ·have c':m<lpT mask h r+(runEnd mask (lpI mask h r).1-(lpI mask h r).1)+1:=c
    obtain⟨k',rfl⟩:∃ k',m=lpT mask h r+k':=⟨m-lpT mask h r,by omega⟩
    rw[hj k' (by omega)]
    exact hno k' (by omega)
   ·exact e5 m (by omega) m2
structure Laid (mask:Nat)(hs:List Int)(owner:Array (Option Nat))(k:Nat):Prop where
 size:owner.size=mask+1
 only:∀ (j i:Nat),owner[j]? = some (some i)->i<k
 one:∀ (i j j':Nat),owner[j]? = some (some i)->owner[j']? = some (some i)->j=j'
 each:∀ i (h:i<hs.length),i<k->∃ (j n:Nat),owner[j]? = some (some i)/\(pAt mask hs[i] n).j=j/\∀ m,m<n->qN owner (pAt mask hs[i] m).j
theorem C8 {mask:Nat}{hs:List Int}{owner:Array (Option Nat)}{k:Nat}(L:Laid mask hs owner k)(hk:k<=mask):∃ j,j<=mask/\owner[j]? = some none:=by
 refine aY λc=>?_
 have mB:∀ j,j<=mask->∃ i,owner[j]? = some (some i):=λj hj=>by
  have hl:j<owner.size:=by rw[L.size];omega
  cases e:owner[j]with
  |none=>exact(c ⟨j,hj,by rw[bD hl,e]⟩).elim
  |some i=>exact⟨i,by rw[bD hl,e]⟩
 let f:Nat->Nat:=λj=>match owner[j]? with |some (some i)=>i |_=>0
 have hf:∀ j,j<=mask->owner[j]? = some (some (f j)):=λj hj=>by
  obtain⟨i,e⟩:=mB j hj
  show _=some (some (match owner[j]? with |some (some i)=>i |_=>0))
  rw[e]
 have:=@sub_len ((List.range (mask+1)).map f) (List.range k) (by
  rw[List.Nodup,cM]
  refine dH (λ{a b} ha hb hab e=>?_) (List.nodup_range (n:=mask+1))
  have ha:=bP.mp ha
  have hb:=bP.mp hb
  have h1:=hf a (by omega)
  have h2:=hf b (by omega)
  rw[e]at h1
  exact hab (L.one _ _ _ h1 h2)) λx hx=>by
   obtain⟨j,hj,rfl⟩:=ao.mp hx
   exact bP.mpr (L.only j _ (hf j (by have:=bP.mp hj;omega)))
 rw[aa,cj,cj]at this
 omega
def BQ (mask:Nat)(acc:Option (Array (Option Nat)×Nat))(h:Int):Option (Array (Option Nat)×Nat):=do
  let (owner,k) <-acc
  let j <-layClean.free mask owner (turns mask) (bits h%(mask+1)) (bits h)
  pure (owner.setIfInBounds j (some k),k+1)
theorem EX {mask p:Nat}(hp:mask+1=2 ^ p){hs:List Int}{owner:Array (Option Nat)}{k:Nat}(L:Laid mask hs owner k)(hk:k<hs.length)(hm:hs.length<=mask):
  ∃ uJ,BQ mask (some (owner,k)) hs[k]=some (uJ,k+1)/\Laid mask hs uJ (k+1):=by
 obtain⟨j0,h1,h2⟩:=C8 L (by omega)
 obtain⟨r,r1,r2,r3⟩:=BJ hp hs[k] 0 h1
 obtain⟨n,j,e1,e2,e3,e4,e5⟩:=Dq L.size hs[k] (turns mask) 0 ⟨r,by omega,by unfold turns;omega,by rw[r3];exact h2⟩
 refine⟨owner.setIfInBounds j (some k),?_,?_⟩
 ·have e1':layClean.free mask owner (turns mask) (bits hs[k]%(mask+1)) (bits hs[k])=some j:=e1
  show(layClean.free mask owner (turns mask) (bits hs[k]%(mask+1)) (bits hs[k]) >>= λj=>pure (owner.setIfInBounds j (some k),k+1))=_
  rw[e1'];rfl
 have hj:j<owner.size:=(bC.mp e4).1
 have zD:(owner.setIfInBounds j (some k))[j]? = some (some k):=by simp[hj]
 have Di:∀ x,x≠j->(owner.setIfInBounds j (some k))[x]? = owner[x]? :=λx hx=>by simp[Array.getElem?_setIfInBounds,bI hx]
 have up:∀ x,qN owner x->qN (owner.setIfInBounds j (some k)) x:=λx ⟨i,hi⟩=>by
  by_cases c:x=j
  ·subst c;exact⟨k,zD⟩
  ·exact⟨i,by rw[Di x c];exact hi⟩
 refine⟨by simp[L.size],λx i hx=>?_,λi x y hx hy=>?_,λi hi hik=>?_⟩
 ·by_cases c:x=j
  ·subst c;rw[zD]at hx;cases hx;omega
  ·rw[Di x c]at hx;have:=L.only x i hx;omega
 ·by_cases c:x=j
  ·by_cases d:y=j
   ·rw[c,d]
   ·subst c;rw[zD]at hx;cases hx
    rw[Di y d]at hy;have:=L.only y _ hy;omega
  ·rw[Di x c]at hx
   by_cases d:y=j
   ·subst d;rw[zD]at hy;cases hy;have:=L.only x _ hx;omega
   ·rw[Di y d]at hy;exact L.one i x y hx hy
 ·by_cases c:i=k
  ·subst c
   exact⟨j,n,zD,e3,λm hm=>up _ (e5 m (aK _) hm)⟩
  ·obtain⟨x,n',q1,q2,q3⟩:=L.each i hi (by omega)
   refine⟨x,n',?_,q2,λm hm=>up _ (q3 m hm)⟩
   rw[Di x (λz=>by subst z;rw[e4]at q1;cases q1)]
   exact q1
theorem BP {mask p:Nat}(hp:mask+1=2 ^ p)(hs:List Int)(hm:hs.length<=mask):∀ (rest:List Int) (k:Nat) (owner:Array (Option Nat)),hs.drop k=rest->k<=hs.length->Laid mask hs owner k->
  ∃ uJ,rest.foldl (BQ mask) (some (owner,k))=some (uJ,hs.length)/\Laid mask hs uJ hs.length
 |[],k,owner,e,hk,L=>by
  have:k=hs.length:=by have:=bL List.length e;rw[bE]at this;simp at this;omega
  subst this
  exact⟨owner,rfl,L⟩
 |x::rest,k,owner,e,hk,L=>by
  have hlt:k<hs.length:=by have:=bL List.length e;rw[bE]at this;simp at this;omega
  have hx:hs[k]=x/\hs.drop (k+1)=rest:=by
   rw[List.drop_eq_getElem_cons hlt]at e
   injection e with a b
   exact⟨a,b⟩
  obtain⟨o',e1,L'⟩:=EX hp L hlt hm
  rw[hx.1]at e1
  obtain⟨o2,e2,L2⟩:=BP hp hs hm rest (k+1) o' hx.2 hlt L'
  exact⟨o2,by rw[List.foldl_cons,e1];exact e2,L2⟩
theorem zB {mask p:Nat}(hp:mask+1=2 ^ p){hs:Array Int}(hm:hs.size<=mask):∃ owner,layClean mask hs=some owner/\Laid mask hs.toList owner hs.size:=by
 obtain⟨o,e,L⟩:=BP hp hs.toList (by simpa using hm) hs.toList 0 (Array.replicate (mask+1) none) rfl (aK _)
  ⟨by simp,λj i h=>by simp[Array.getElem?_replicate]at h,λi j j' h=>by simp[Array.getElem?_replicate]at h,λi _ h=>by omega⟩
 refine⟨o,?_,by simpa using L⟩
 unfold layClean
 rw[<-Array.foldl_toList]
 have e':hs.toList.foldl (λacc h=>do
  let (owner,k) <-acc
  let j <-layClean.free mask owner (turns mask) (bits h%(mask+1)) (bits h)
  pure (owner.setIfInBounds j (some k),k+1)) (some (Array.replicate (mask+1) none,0))=some (o,hs.toList.length):=e
 rw[e']
 rfl
def iJ (mask:Nat)(owner:Array (Option Nat)):List (Nat×Nat):=(List.range (mask+1)).filterMap λj=>(owner.getD j none).map (j,·)
theorem jH {mask:Nat}{owner:Array (Option Nat)}(hz:owner.size=mask+1){j i:Nat} :(j,i)∈iJ mask owner↔owner[j]? = some (some i):=by
 unfold iJ
 rw[fb]
 constructor
 ·rintro⟨x,hx,e⟩
  have hx:=bP.mp hx
  have hl:x<owner.size:=by omega
  have:owner.getD x none=owner[x]:=by simp[Array.getD,hl]
  rw[this]at e
  cases q:owner[x]with
  |none=>rw[q]at e;simp at e
  |some y=>
   rw[q]at e
   simp at e
   obtain⟨rfl,rfl⟩:=e
   rw[bD hl,q]
 ·intro h
  obtain⟨hl,e⟩:=bC.mp h
  refine⟨j,bP.mpr (by omega),?_⟩
  simp[Array.getD,hl,e]
theorem sj (owner:Array (Option Nat))(mask:Nat):(iJ mask owner).Pairwise λa b=>a.1<b.1:=by
 unfold iJ
 rw[List.pairwise_filterMap]
 refine List.Pairwise.imp (λ{a b} hab x hx y hy=>?_) (List.pairwise_lt_range (n:=mask+1))
 rw[Option.map_eq_some_iff]at hx hy
 obtain⟨_,_,rfl⟩:=hx
 obtain⟨_,_,rfl⟩:=hy
 exact hab
theorem uF {l:List Nat}{n:Nat}(hn:l.Nodup)(h:∀ i,i∈l↔i<n):l.Perm (List.range n):=by
 refine(List.perm_ext_iff_of_nodup hn List.nodup_range).mpr λi=>?_
 rw[h i,bP]
theorem GC {mask p:Nat}(hp:mask+1=2 ^ p)(h3:3<=p){hs:Array Int}(hm:hs.size*5<mask*3)(hsm:mask<=8191)(fg mv:Nat)(led plain:Bool):
  ∃ t order,SetTable.laid mask fg mv led plain hs=some (t,order)/\t.led=led/\t.mask=mask/\order.toList.Perm (List.range hs.size)/\WFT t (order.toList.map λi=>hs.getD i 0):=by
 obtain⟨owner,e,L⟩:=zB hp (hs:=hs) (by omega)
 refine⟨_,_,by unfold SetTable.laid;rw[e];rfl,rfl,rfl,?_,?_⟩
 ·show((iJ mask owner).map (·.2)).toArray.toList.Perm _
  rw[cR]
  refine uF ?_ λi=>?_
  ·rw[List.Nodup,cM]
   refine dH (λ{a b} ha hb hab z=>?_) (sj owner mask)
   have ha:=(jH L.size (j:=a.1) (i:=a.2)).mp ha
   have hb:=(jH L.size (j:=b.1) (i:=b.2)).mp hb
   rw[z]at ha
   have:=L.one _ _ _ ha hb
   omega
  ·rw[ao]
   constructor
   ·rintro⟨⟨j,i'⟩,hj,rfl⟩
    exact L.only j i' ((jH L.size).mp hj)
   ·intro hi
    obtain⟨j,n,e1,_⟩:=L.each i (by simpa using hi) hi
    exact⟨(j,i),(jH L.size).mpr e1,rfl⟩
 ·have xg:((iJ mask owner).map (·.2)).Perm (List.range hs.size):=by
   refine uF ?_ λi=>?_
   ·rw[List.Nodup,cM]
    refine dH (λ{a b} ha hb hab z=>?_) (sj owner mask)
    have ha:=(jH L.size (j:=a.1) (i:=a.2)).mp ha
    have hb:=(jH L.size (j:=b.1) (i:=b.2)).mp hb
    rw[z]at ha
    have:=L.one _ _ _ ha hb
    omega
   ·rw[ao]
    constructor
    ·rintro⟨⟨j,i'⟩,hj,rfl⟩
     exact L.only j i' ((jH L.size).mp hj)
    ·intro hi
     obtain⟨j,n,e1,_⟩:=L.each i (by simpa using hi) hi
     exact⟨(j,i),(jH L.size).mpr e1,rfl⟩
  have hlen:(iJ mask owner).length=hs.size:=by
   have:=xg.length_eq
   rw[aa,cj]at this
   exact this
  refine⟨⟨p,h3,hp⟩,hsm,rfl,?_,λj hj=>?_,?_,?_,λi hi j hj=>?_⟩
  ·show((iJ mask owner).map (·.1)).toArray.toList.Pairwise (· < ·)
   rw[cR,cM]
   exact sj owner mask
  ·have hj:j∈((iJ mask owner).map (·.1)).toArray.toList:=hj
   rw[cR]at hj
   obtain⟨⟨a,b⟩,hab,rfl⟩:=ao.mp hj
   have:=(bC.mp ((jH L.size).mp hab)).1
   show a<=mask
   have:=L.size
   omega
  ·show((iJ mask owner).map (·.1)).toArray.size=(((iJ mask owner).map (·.2)).toArray.toList.map _).length
   simp
  ·show(((iJ mask owner).map (·.2)).toArray.toList.map _).length*5<mask*3
   rw[cR,aa,aa,hlen]
   exact hm
  ·have hj:((iJ mask owner).map (·.1)).toArray[i]? = some j:=hj
   rw[List.getElem?_toArray,aj]at hj
   have hi':i<(iJ mask owner).length:=by simpa [iJ]using hi
   rw[ah hi']at hj
   simp only[eT,Option.some.injEq]at hj
   have sq:(iJ mask owner)[i]∈iJ mask owner:=eG hi'
   have ho:=(jH L.size (j:=(iJ mask owner)[i].1) (i:=(iJ mask owner)[i].2)).mp sq
   have hlt:=L.only _ _ ho
   obtain⟨j',n,e1,e2,e3⟩:=L.each (iJ mask owner)[i].2 (by simpa using hlt) hlt
   have hjj:=L.one _ _ _ ho e1
   have hh:(((iJ mask owner).map (·.2)).toArray.toList.map λi=>hs.getD i 0)[i]'(by simpa using hi')=hs.toList[(iJ mask owner)[i].2]'(by simpa using hlt):=by
    simp[Array.getD,hlt]
   show rM mask _ _ j
   refine⟨n,?_,λm hm'=>?_⟩
   ·have:(pAt mask ((((iJ mask owner).map (·.2)).toArray.toList.map λi=>hs.getD i 0)[i]'(by simpa using hi')) n).j=j:=by rw[hh,e2,<-hj,hjj]
    exact this
   ·have h5:=e3 m hm'
    have:(pAt mask ((((iJ mask owner).map (·.2)).toArray.toList.map λi=>hs.getD i 0)[i]'(by simpa using hi')) m).j∈((iJ mask owner).map (·.1)).toArray.toList:=by
     rw[hh,cR]
     obtain⟨i2,h6⟩:=h5
     exact ao.mpr ⟨(_,i2),(jH L.size).mpr h6,rfl⟩
    exact this
theorem qR:∀ fuel size n,(∃ k,3<=k/\size=2 ^ k)->n<size*2 ^ fuel->∃ k,3<=k/\sizeAbove.go n fuel size=2 ^ k/\n<sizeAbove.go n fuel size
 | 0,size,n,⟨k,hk,e⟩,h=>⟨k,hk,e,by simpa [sizeAbove.go]using h⟩
 |fuel+1,size,n,⟨k,hk,e⟩,h=>by
  unfold sizeAbove.go
  by_cases c:size<=n
  ·rw[aJ c]
   exact qR fuel (size*2) n ⟨k+1,by omega,by rw[d9,e]⟩ (by rw[b9,<-Nat.pow_succ'];exact h)
  ·rw[aE c]
   exact⟨k,hk,e,by omega⟩
theorem xH {n:Nat}(h:n<2 ^ 60):∃ k,3<=k/\sizeAbove n=2 ^ k/\n<sizeAbove n:=
 qR 64 8 n ⟨3,by decide,rfl⟩ (Nat.lt_trans h (by decide))
theorem qQ:∀ fuel size n k,(∃ q,q<=k/\size=2 ^ q)->n<2 ^ k->sizeAbove.go n fuel size<=2 ^ k
 | 0,size,n,k,⟨q,h1,h2⟩,h=>by unfold sizeAbove.go;rw[h2];exact dq (by decide) h1
 |fuel+1,size,n,k,⟨q,h1,h2⟩,h=>by
  unfold sizeAbove.go
  by_cases c:size<=n
  ·rw[aJ c]
   refine qQ fuel (size*2) n k ⟨q+1,?_,by rw[h2,d9]⟩ h
   refine aY λz=>?_
   have:q=k:=by omega
   subst this
   omega
  ·rw[aE c,h2];exact dq (by decide) h1
end TS
namespace TL
open PySem TS
section
variable {prog:Program}{w:World}{K:Type} [DecidableEq K] {knd:KeyKind prog w K}{A:Around}{E:Value->Shared->Prop}{s:Shared}
theorem tD (n:Nat){v:Value}(h:carriedByValue v=true):ofAClassStatement n v=pure false:=by
 cases v with
 |ref a=>simp[carriedByValue]at h
 |_=>unfold ofAClassStatement;rfl
theorem tR {ks:List K}{a:Addr}{Q:Bool->Shared->Prop}(hk:IsTupleKey knd s.heap ks a)(h:Q false s):wpAny (model prog w) A (ofAClassStatement 8 (.ref a)) Q E s:=by
 have hT:=hk.typeIs
 obtain⟨o,items,n,ho,_,hd,hi⟩:=hk
 unfold ofAClassStatement
 refine ae (wpAny_typeOf hT ?_)
 dsimp only
 rw[aJ (eE _)]
 refine ae (ai ?_)
 simp only[bU,aO,bG]
 refine ae (wpAny_seqItems ho hd ?_)
 dsimp only
 refine ae ?_
 rw[<-dS]
 refine wpAny_forIn_list _ (λrest r s'=>r.1=none/\s'=s/\∀ v∈rest,carriedByValue v=true) _ ?_ ?_ _ _ ⟨rfl,rfl,hi.byValue⟩
 ·rintro v rest r s' ⟨hr,rfl,mB⟩
  rw[tD _ (mB v aA)]
  refine ae (ai ?_)
  simp only[aO,bG]
  exact ai ⟨rfl,rfl,λu hu'=>mB u (aw _ hu')⟩
 ·rintro⟨r1,r2⟩ s' ⟨hr,rfl,_⟩
  simp only at hr
  subst hr
  exact ai h
theorem zL (n:Nat){v:Value}(h:v.scannable=true):∃ b,hashByValue n v=pure b:=⟨_,hashByValue_scannable n h⟩
theorem Cq {ks:List K}{a:Addr}{Q:Bool->Shared->Prop}(hk:IsTupleKey knd s.heap ks a)(hsc:∀ k v,knd.is k v=true->v.scannable=true)(h:∀ b,Q b s):wpAny (model prog w) A (hashByValue 8 (.ref a)) Q E s:=by
 have hT:=hk.typeIs
 obtain⟨o,items,n,ho,_,hd,hi⟩:=hk
 have mB:∀ {x:List K}{vs:List Value},ItemsAre knd x vs->∀ v∈vs,v.scannable=true:=by
  intro x vs hx
  induction hx with
  |nil=>intro v hv;simp at hv
  |@cons k v' ks vs h1 _ ih=>
   intro v hv
   rcases aG.mp hv with rfl |hv
   ·exact hsc _ _ h1
   ·exact ih v hv
 unfold hashByValue
 refine ae (eh hT eQ.lookup ?_)
 show wpAny _ _ (seqItems? (.ref a) >>= _) _ _ s
 refine ae (wpAny_seqItems ho hd ?_)
 refine ae ?_
 show wpAny _ _ (forIn items _ _) _ _ s
 rw[<-dS]
 refine wpAny_forIn_list _ (λrest r s'=>r.1=none/\s'=s/\∀ v∈rest,v.scannable=true) _ ?_ ?_ _ _ ⟨rfl,rfl,mB hi⟩
 ·rintro v rest r s' ⟨hr,rfl,mB⟩
  obtain⟨b,e⟩:=zL 7 (mB v aA)
  rw[e]
  refine ae (ai ?_)
  cases b with
  |true=>
   simp only[bU,aO,bG]
   exact ai ⟨rfl,rfl,λu hu'=>mB u (aw _ hu')⟩
  |false=>
   simp only[fc,cP]
   exact ai (ai (h _))
 ·rintro⟨r1,r2⟩ s' ⟨hr,rfl,_⟩
  simp only at hr
  subst hr
  exact ai (h _)
theorem F0 {ks:List K}{a:Addr}{Q:Bool->Shared->Prop}(hk:IsTupleKey knd s.heap ks a){ys:List Value}(hy:∀ y∈ys,∃ b js,y = .ref b/\IsTupleKey knd s.heap js b)(h:Q false s):
  wpAny (model prog w) A (searchCouldBeSeen (.ref a) ys) Q E s:=by
 unfold searchCouldBeSeen
 refine ae ?_
 refine wpAny_forIn_list _ (λrest r s'=>r.1=none/\s'=s/\∀ v∈rest,v∈ys) _ ?_ ?_ _ _ ⟨rfl,rfl,λ_ h=>h⟩
 ·rintro v rest r s' ⟨hr,rfl,mB⟩
  obtain⟨b,js,rfl,hb⟩:=hy v (mB v aA)
  dsimp only
  by_cases c:(a==b||carriedByValue (Value.ref a)&&carriedByValue (Value.ref b))=true
  ·rw[aJ c]
   exact ai ⟨rfl,rfl,λu hu'=>mB u (aw _ hu')⟩
  ·rw[aE c]
   refine ae (wpAny_eqIsQuiet_tuple hk ?_)
   simp only[bU,aO,bG]
   refine ae (wpAny_eqIsQuiet_tuple hb ?_)
   simp only[bU,aO,bG]
   refine ae (tR hk ?_)
   simp only[aO,bG]
   refine ae (tR hb ?_)
   simp only[aO,bG]
   exact ai ⟨rfl,rfl,λu hu'=>mB u (aw _ hu')⟩
 ·rintro⟨r1,r2⟩ s' ⟨hr,rfl,_⟩
  simp only at hr
  subst hr
  exact ai h
theorem HE {α:Type}{c:Bool}{m:Sem Bool}{T U:Sem α}{Q:α->Shared->Prop}(h:wpAny (model prog w) A m (λb s'=>b=false/\s'=s) E s)(hT:wpAny (model prog w) A T Q E s):
  wpAny (model prog w) A (if c=true then m >>= λb=>if b=true then U else T else T) Q E s:=by
 cases c with
 |false=>rw[aE aD];exact hT
 |true=>
  rw[aJ rfl]
  refine ae (bo h (λb s' hb=>?_) λ_ _ h'=>h')
  obtain⟨rfl,rfl⟩:=hb
  rw[aE aD]
  exact hT
def yl (knd:KeyKind prog w K)(x:List K×Addr):Int×Value:=(tupleKeyHash knd x.1,.ref x.2)
def pA (knd:KeyKind prog w K)(h:Heap)(a:Addr)(xs:List (List K×Addr)):Prop:=
 ∃ o es ep t,h.get? a=some o/\o.ExactSet/\o.data = .set es ep t/\es.toList=xs.map (yl knd)/\(xs.map (·.1)).Nodup/\WFT t (xs.map λx=>tupleKeyHash knd x.1)
theorem Lb {es:Array (Int×Value)}{xs:List (List K×Addr)}(he:es.toList=xs.map (yl knd))(i:Nat):es[i]? = (xs[i]?).map (yl knd):=by
 rw[<-bH,he,aj]
theorem vW {a b:Addr}{o:Obj}{es:Array (Int×Value)}{ep:Nat}{t:SetTable}{xs:List (List K×Addr)}{k:List K}{sD:Bool}{Q:SetFound->Shared->Prop}(hu:A.units<cLine)
  (ho:s.heap.get? a=some o) (hd:o.data = .set es ep t) (he:es.toList=xs.map (yl knd)) (hnd:(xs.map (·.1)).Nodup) (W:WFT t (xs.map λx=>tupleKeyHash knd x.1))
  (hx:∀ x∈xs,IsTupleKey knd s.heap x.1 x.2) (hk:IsTupleKey knd s.heap k b) (m0:Nat) (hm0:(pAt t.mask (tupleKeyHash knd k) m0).j∉t.place.toList) (hm1:∀ m,m<m0->(pAt t.mask (tupleKeyHash knd k) m).j∈t.place.toList)
  (AR:∀ (i:Nat) y,xs[i]? = some (k,y)->Q (.there (if sD then none else some i)) s) (kG:k∉xs.map (·.1)->Q (.free (pAt t.mask (tupleKeyHash knd k) m0).j false) s):
  ∀ (fuel n:Nat) (st:Option SetTable.Probe),m0<fuel+n->n<=m0->st.getD (t.probeStart (tupleKeyHash knd k))=pAt t.mask (tupleKeyHash knd k) n->(∀ m,m<n->∀ (i:Nat) y,t.place[i]? = some (pAt t.mask (tupleKeyHash knd k) m).j->xs[i]? ≠some (k,y))->
   wpAny (model prog w) A (setSearchFrom a (.ref b) (tupleKeyHash knd k) sD fuel st) Q E s:=by
 intro fuel
 induction fuel with
 |zero=>intro n st h1 h2;omega
 |succ fuel ih=>
  intro n st h1 h2 hst PJ
  have hsz:es.size=xs.length:=by rw[<-aW,he,aa]
  have AU:t.fits es.size=true:=by have:=W.fits;rw[aa]at this;rw[hsz];exact this
  unfold setSearchFrom
  refine ae (eK ho hd AU ?_)
  dsimp only
  rw[W.PU]
  simp only[aO,bG]
  rw[hst]
  obtain⟨m,g1,g2,g3,g4⟩:=Au W (ha:=λi=>(es[i]?.map (·.1)).getD 0) (h:=tupleKeyHash knd k) (λi hi=>by
   rw[aa]at hi
   show((es[i]?).map (·.1)).getD 0=_
   rw[Lb he,ah hi,aN,aj,ah hi];rfl) n
  generalize hP:t.probe _ (tupleKeyHash knd k) (pAt t.mask (tupleKeyHash knd k) n)=P
  have hP':P=some (vq t (tupleKeyHash knd k) m):=by rw[<-hP];exact g4
  subst hP'
  dsimp only
  have hmm:m<=m0:=aY λc=>g3 m0 h2 (by omega) (.inl hm0)
  unfold vq
  have hno:∀ q,q<m->∀ (i:Nat) y,t.place[i]? = some (pAt t.mask (tupleKeyHash knd k) q).j->xs[i]? ≠some (k,y):=λq hq i y hp hxi=>by
   by_cases c:q<n
   ·exact PJ q c i y hp hxi
   ·refine g3 q (by omega) hq (.inr ⟨i,hp,?_⟩)
    rw[aN,aj,hxi];rfl
  by_cases hin:(pAt t.mask (tupleKeyHash knd k) m).j∈t.place.toList
  ·obtain⟨i,hi⟩:=Array.mem_iff_getElem?.mp (eS.mp hin)
   rw[nj W.rise hi]
   dsimp only
   have hil:i<xs.length:=by have:=(bC.mp hi).1;rw[W.len,aa]at this;exact this
   have hxi:xs[i]? = some (xs[i].1,xs[i].2):=ah hil
   have hei:es[i]? = some (tupleKeyHash knd xs[i].1,.ref xs[i].2):=by rw[Lb he,hxi];rfl
   have hki:=hx xs[i] (eG hil)
   refine HE (F0 hk (λy hy=>?_) ⟨rfl,rfl⟩) ?_
   ·obtain⟨z,hz,rfl⟩:=ao.mp hy
    rw[Array.toList_filter]at hz
    have hz:=(bW.mp hz).1
    rw[he]at hz
    obtain⟨q,hq,rfl⟩:=ao.mp hz
    exact⟨q.2,q.1,rfl,hx q hq⟩
   rw[hei]
   dsimp only
   refine ae (dw (wpAny_eqBool_tuple hu hki hk ?_))
   refine ae (eK ho hd AU ?_)
   dsimp only
   by_cases hkk:xs[i].1=k
   ·have E8:xs[i]? = some (k,xs[i].2):=by rw[<-hkk];exact hxi
    rw[bA hkk]
    have q:=AR i _ E8
    cases sD with
    |true=>
     simp only[Bool.and_self,cP]
     exact ai q
    |false=>
     simp only[Bool.false_and,aO,bG]
     have hsm:t.sameMemory t.moves t.mask=some true:=by unfold SetTable.sameMemory;simp
     rw[hsm]
     simp only[cP]
     rw[nj W.rise hi]
     dsimp only
     rw[hei]
     dsimp only
     refine ae (wpAny_isSame_ref_self ?_)
     refine ae (ai ?_)
     simp only[cP]
     exact ai q
   ·rw[aU hkk]
    simp only[Bool.and_false,aO,bG]
    have hsm:t.sameMemory t.moves t.mask=some true:=by unfold SetTable.sameMemory;simp
    rw[hsm]
    simp only[cP]
    rw[nj W.rise hi]
    dsimp only
    rw[hei]
    dsimp only
    refine ae (wpAny_isSame_ref_self ?_)
    refine ae (ai ?_)
    simp only[cP]
    have hne:m≠m0:=λz=>hm0 (by rw[<-z];exact hin)
    refine ih (m+1) (some _) (by omega) (by omega) rfl λq hq i' y hp E8=>?_
    by_cases c:q<m
    ·exact hno q c i' y hp E8
    ·have:q=m:=by omega
     subst this
     have e1:=below_at W.rise hp
     have e2:=below_at W.rise hi
     have:i'=i:=by omega
     subst this
     rw[hxi]at E8
     cases E8
     exact hkk rfl
  ·rw[uk W.dum hin]
   dsimp only
   have hme:m=m0:=aY λc=>hin (hm1 m (by omega))
   subst hme
   refine ai (kG λsq=>?_)
   obtain⟨x,hx1,hx2⟩:=ao.mp sq
   obtain⟨i,hi1⟩:=eC.mp hx1
   have hil:i<xs.length:=(af.mp hi1).1
   have hip:i<t.place.size:=by rw[W.len,aa];exact hil
   have hxk:xs[i].1=k:=by rw[<-hx2];congr 1;exact(af.mp hi1).2
   obtain⟨nn,r1,r2⟩:=W.reach i (by rw[aa];exact hil) _ (bD hip)
   have hh:(xs.map λx=>tupleKeyHash knd x.1)[i]'(by rw[aa];exact hil)=tupleKeyHash knd k:=by rw[cu,hxk]
   rw[hh]at r1 r2
   rcases Nat.lt_trichotomy nn m with c |c |c
   ·exact hno nn c i x.2 (by rw[r1];exact bD hip) (by rw[hi1,<-hx2])
   ·subst c
    exact hin (by rw[r1];simp)
   ·exact hin (r2 m c)
end
section
variable {prog:Program}{w:World}{K:Type} [DecidableEq K] {knd:KeyKind prog w K}{A:Around}{E:Value->Shared->Prop}{s:Shared}
theorem Cr {t:SetTable}{hs:List Int}(W:WFT t hs)(h:Int):∃ m0,m0<100000/\(pAt t.mask h m0).j∉t.place.toList/\∀ m,m<m0->(pAt t.mask h m).j∈t.place.toList:=by
 obtain⟨k,_,hk⟩:=W.pow
 obtain⟨j,hj,hf⟩:=@wA t.place.toList t.mask (by
  have:=W.room;have h1:=W.len
  rw[aW];omega)
 obtain⟨m,h1,h2,e⟩:=BB hk h 0 hj
 obtain⟨e',h3,h4,h5⟩:=sx (P:=λn=>(pAt t.mask h n).j∉t.place.toList) m 0 (by rw[Nat.zero_add,e];exact hf)
 rw[Nat.zero_add]at h4
 refine⟨e',?_,h4,λq hq=>aY λc=>h5 q (aK _) (by omega) c⟩
 have:=W.small
 unfold SetTable.turns at h2
 omega
theorem Cp {a b:Addr}{o:Obj}{es:Array (Int×Value)}{ep:Nat}{t:SetTable}{xs:List (List K×Addr)}{k:List K}{sD:Bool}{Q:SetFound->Shared->Prop}(hu:A.units<cLine)
  (ho:s.heap.get? a=some o) (hd:o.data = .set es ep t) (he:es.toList=xs.map (yl knd)) (hnd:(xs.map (·.1)).Nodup) (W:WFT t (xs.map λx=>tupleKeyHash knd x.1))
  (hx:∀ x∈xs,IsTupleKey knd s.heap x.1 x.2) (hk:IsTupleKey knd s.heap k b)
  (AR:∀ (i:Nat) y,xs[i]? = some (k,y)->Q (.there (if sD then none else some i)) s)
  (kG:k∉xs.map (·.1)->∀ m0,(pAt t.mask (tupleKeyHash knd k) m0).j∉t.place.toList->(∀ m,m<m0->(pAt t.mask (tupleKeyHash knd k) m).j∈t.place.toList)->Q (.free (pAt t.mask (tupleKeyHash knd k) m0).j false) s):
  wpAny (model prog w) A (setSearch a (.ref b) (tupleKeyHash knd k) sD) Q E s:=by
 obtain⟨m0,g1,g2,g3⟩:=Cr W (tupleKeyHash knd k)
 exact vW hu ho hd he hnd W hx hk m0 g2 g3 AR (λh=>kG h m0 g2 g3) 100000 0 none (by omega) (aK _) rfl λm hm=>by omega
theorem A8 (b:Addr)(es:Array (Int×Value)):byScan (.ref b) es=false:=by simp[byScan,Value.scannable]
theorem pA.typeIs {a:Addr}{xs:List (List K×Addr)}(hS:pA knd s.heap a xs):s.TypeIs (.ref a) "set" :=let ⟨o,_,_,_,ho,hc,_⟩:=hS;⟨o,ho,hc.1⟩
theorem DW {h:Heap}{a:Addr}{o:Obj}{es:Array (Int×Value)}{ep:Nat}{t:SetTable}(ho:h.get? a=some o)(hd:o.data = .set es ep t)(es':Array (Int×Value))(t':SetTable):
  (h.update a (Obj.putSet es' t')).get? a=some {o with data:=.set es' (ep+1) t'} :=by
 have:=Heap.get?_update_self (Obj.putSet es' t') ho (by rw[putSet_of es' t' hd];rfl)
 rw[putSet_of es' t' hd]at this;exact this
theorem v7 {α:Type}{order:List Nat}{xs:List α}(hp:order.Perm (List.range xs.length)):(order.filterMap λi=>xs[i]?).Perm xs:=by
 have:=hp.filterMap (λi=>xs[i]?)
 rw[List.filterMap_getElem?_range_length]at this
 exact this
theorem lR {α β:Type}(f:α->β){order:List Nat}{xs:List α} :(order.filterMap λi=>(xs.map f)[i]?)=(order.filterMap λi=>xs[i]?).map f:=by
 rw[List.map_filterMap]
 congr 1
 funext i
 rw[aj]
theorem Ax {order:List Nat}{hs:List Int}(hp:order.Perm (List.range hs.length)):(order.map λi=>hs.getD i 0)=order.filterMap λi=>hs[i]? :=by
 have mB:∀ i∈order,i<hs.length:=λi hi=>bP.mp (hp.mem_iff.mp hi)
 clear hp
 induction order with
 |nil=>rfl
 |cons x l ih=>
  have hx:=mB x aA
  rw[bg,dE,ah hx,ih λi hi=>mB i (aw _ hi),aN,ah hx]
  rfl
theorem vi {α β:Type}(f:α->β)(xs:List α)(x:α)(p:Nat):(xs.map f).take p++f x::(xs.map f).drop p=(xs.take p++x::xs.drop p).map f:=by
 rw[aB,bg,List.map_take,eJ]
theorem sN {a b:Addr}{o:Obj}{es:Array (Int×Value)}{ep:Nat}{t:SetTable}{xs:List (List K×Addr)}{k:List K}{Q:Bool->Shared->Prop}
  (ho:s.heap.get? a=some o) (hex:o.ExactSet) (hd:o.data = .set es ep t) (he:es.toList=xs.map (yl knd)) (hnd:(xs.map (·.1)).Nodup) (W:WFT t (xs.map λx=>tupleKeyHash knd x.1)) (vn:xs.length<2000)
  (hn:k∉xs.map (·.1)) {m0:Nat} (g1:(pAt t.mask (tupleKeyHash knd k) m0).j∉t.place.toList) (g2:∀ m,m<m0->(pAt t.mask (tupleKeyHash knd k) m).j∈t.place.toList)
  (vp:∀ h' xs',Heap.SameBut a s.heap h'->pA knd h' a xs'->xs'.Perm (xs ++ [(k,b)])->Q true {s with heap:=h'}) {t2:SetTable}{c:Bool} (ht:t2 = {(t.put (pAt t.mask (tupleKeyHash knd k) m0).j).1 with plain:=c}) {n:Nat} (hnn:n=es.size+1):
  wpAny (model prog w) A (do
   storeSet a (SetTable.insertAt es (t.put (pAt t.mask (tupleKeyHash knd k) m0).j).2 (tupleKeyHash knd k,Value.ref b)) t2
   if(!false&&t2.tooFull)=true then do
    setRelay a (SetTable.grown n)
    pure true
   else pure true) Q E s:=by
 have hsz:es.size=xs.length:=by rw[<-aW,he,aa]
 generalize hp:(t.put (pAt t.mask (tupleKeyHash knd k) m0).j).2=p
 have hp':p=SetTable.below t.place (pAt t.mask (tupleKeyHash knd k) m0).j:=by rw[<-hp];rfl
 have SM:p<=xs.length:=by
  have h1:=(ou W.rise (pAt t.mask (tupleKeyHash knd k) m0).j).1
  have h2:=W.len
  rw[aa]at h2
  omega
 generalize hes:SetTable.insertAt es p (tupleKeyHash knd k,Value.ref b)=es1
 have he1:es1.toList=(xs.take p++(k,b)::xs.drop p).map (yl knd):=by
  rw[<-hes,d8,he]
  exact vi (yl knd) xs (k,b) p
 have xg:(xs.take p++(k,b)::xs.drop p).Perm (xs ++ [(k,b)]):=by
  refine List.perm_middle.trans ?_
  rw[cZ]
  exact(List.perm_append_singleton (k,b) xs).symm
 have hl1:(xs.take p++(k,b)::xs.drop p).length=xs.length+1:=by rw[xg.length_eq];simp
 have hs1:es1.size=xs.length+1:=by rw[<-aW,he1,aa,hl1]
 have KJ:((xs.take p++(k,b)::xs.drop p).map (·.1)).Nodup:=by
  refine(xg.map (·.1)).nodup_iff.mpr ?_
  rw[aB]
  refine bQ.mpr ⟨hnd,by simp,λx hx y hy=>?_⟩
  simp at hy
  subst hy
  exact λz=>hn (z ▸ hx)
 have hh1:(xs.take p++(k,b)::xs.drop p).map (λx=>tupleKeyHash knd x.1)=(xs.map λx=>tupleKeyHash knd x.1).take p++tupleKeyHash knd k::(xs.map λx=>tupleKeyHash knd x.1).drop p:=
  (vi (λx=>tupleKeyHash knd x.1) xs (k,b) p).symm
 have Hk:t2.mask=t.mask:=by rw[ht];rfl
 have KG:t2.place.size=xs.length+1:=by
  have h2:=W.len
  rw[aa]at h2
  have:t2.place=SetTable.insertAt t.place p (pAt t.mask (tupleKeyHash knd k) m0).j:=by rw[ht,hp'];rfl
  rw[this,<-aW,d8,ak,aR,aT,bE,aW]
  omega
 have KW:t2.dummies = #[]:=by
  rw[ht]
  show(if SetTable.has t.dummies _ then SetTable.eraseAt t.dummies _ else t.dummies) = #[]
  rw[W.dum]
  simp[SetTable.has]
 have Hm:t2.fill=xs.length+1:=by unfold SetTable.fill;rw[KG,KW];rfl
 have IU:=W.room
 rw[aa]at IU
 have h7:7<=t.mask:=by
  obtain⟨q,q1,q2⟩:=W.pow
  have:2 ^ 3<=2 ^ q:=dq (by decide) q1
  omega
 have hz1:es1.size<=sizeLine:=by rw[hs1,cJ];omega
 refine ae (wpAny_storeSet_of ho hd ?_ hz1)
 have ho1:=DW ho hd es1 t2
 have sb1:Heap.SameBut a s.heap (s.heap.update a (Obj.putSet es1 t2)):=dX s.heap a (Obj.putSet es1 t2)
 by_cases full:t2.tooFull=true
 ·rw[full]
  simp only[fc,Bool.and_self,cP]
  unfold setRelay
  have KU:t2.fits es1.size=true:=by
   simp only[SetTable.fits,Hm,KG,hs1,eE,Bool.true_and,dZ,Hk]
   omega
  refine ae (ae (eK (s:={s with heap:=s.heap.update a (Obj.putSet es1 t2)}) ho1 rfl KU ?_))
  dsimp only
  have hgr:SetTable.grown n=4*(xs.length+1):=by
   unfold SetTable.grown
   rw[aE (by omega)]
   omega
  obtain⟨q,q1,q2,q3⟩:=xH (n:=SetTable.grown n) (by rw[hgr];omega)
  have hle:SetTable.sizeAbove (SetTable.grown n)<=2 ^ 13:=qQ 64 8 _ 13 ⟨3,by decide,rfl⟩ (by rw[hgr];omega)
  rw[aE (by rw[cJ];omega)]
  generalize KZ:SetTable.sizeAbove (SetTable.grown n)=big at q2 q3 hle
  have hhs:(es1.map (·.1)).toList=(xs.take p++(k,b)::xs.drop p).map (λx=>tupleKeyHash knd x.1):=by
   rw[Array.toList_map,he1,bz];rfl
  have KS:(es1.map (·.1)).size=xs.length+1:=by rw[Array.size_map];exact hs1
  have hb8:2 ^ 13=8192:=by decide
  obtain⟨t3,order,e3,_,_,pe,W3⟩:=GC (mask:=big-1) (p:=q) (by omega) q1 (hs:=es1.map (·.1)) (by rw[KS];omega) (by omega) t2.finger (t2.movedTo (big-1)) t2.led t2.plain
  have e3':t2.relaid (es1.map (·.1)) (SetTable.grown n)=some (t3,order):=by
   unfold SetTable.relaid
   rw[KZ];exact e3
  rw[e3']
  refine ae ?_
  have pe':order.toList.Perm (List.range (xs.take p++(k,b)::xs.drop p).length):=by rw[hl1,<-KS];exact pe
  have he2:(order.filterMap (es1[·]?)).toList=((order.toList.filterMap λi=>(xs.take p++(k,b)::xs.drop p)[i]?)).map (yl knd):=by
   rw[Array.toList_filterMap,<-lR,<-he1]
   congr 1
   funext i
   rw[bH]
  have hpm:=v7 pe'
  have hs2:(order.filterMap (es1[·]?)).size=es1.size:=by
   rw[<-aW,he2,aa,hpm.length_eq,hl1,hs1]
  have hne:((order.filterMap (es1[·]?)).size !=es1.size)=false:=by rw[hs2];simp
  show wpAny _ _ (if((order.filterMap (es1[·]?)).size !=es1.size)=true then _ else _) _ _ _
  rw[hne,aE aD]
  refine ai ?_
  dsimp only
  refine wpAny_storeSet_of (s:={s with heap:=s.heap.update a (Obj.putSet es1 t2)}) ho1 rfl ?_ (by rw[hs2];exact hz1)
  refine ai (vp _ _ (sb1.trans (dX _ a _)) ⟨_,_,_,t3,DW ho1 rfl _ _,hex,rfl,he2,?_,?_⟩ (hpm.trans xg))
  ·exact((hpm.map (·.1)).nodup_iff).mpr KJ
  ·have:(order.toList.map λi=>(es1.map (·.1)).getD i 0)=(order.toList.filterMap λi=>(xs.take p++(k,b)::xs.drop p)[i]?).map (λx=>tupleKeyHash knd x.1):=by
    rw[<-lR,<-hhs,<-Ax (by rw[hhs,aa];exact pe')]
    congr 1
    funext i
    simp[Array.getD_eq_getD_getElem?,aN]
   rw[<-this]
   exact W3
 ·have B0:t2.tooFull=false:=by cases h:t2.tooFull with |false=>rfl |true=>exact(full h).elim
  rw[B0]
  simp only[Bool.and_false,aO,bG]
  refine ai (vp _ _ sb1 ⟨_,es1,ep+1,t2,ho1,hex,rfl,he1,KJ,?_⟩ xg)
  rw[hh1,ht,<-hp]
  refine W.put g1 g2 c ?_
  rw[aa]
  unfold SetTable.tooFull at B0
  rw[Hm,Hk]at B0
  simp at B0
  omega
theorem vX {a b:Addr}{xs:List (List K×Addr)}{k:List K}{Q:Bool->Shared->Prop}(hu:A.units<cLine)(hsc:∀ k v,knd.is k v=true->v.scannable=true)(hS:pA knd s.heap a xs)
  (hx:∀ x∈xs,IsTupleKey knd s.heap x.1 x.2) (hk:IsTupleKey knd s.heap k b) (vn:xs.length<2000)
  (hold:k∈xs.map (·.1)->Q false s) (vp:k∉xs.map (·.1)->∀ h' xs',Heap.SameBut a s.heap h'->pA knd h' a xs'->xs'.Perm (xs ++ [(k,b)])->Q true {s with heap:=h'}):
  wpAny (model prog w) A (setAddHashed a (.ref b) (tupleKeyHash knd k)) Q E s:=by
 obtain⟨o,es,ep,t,ho,hex,hd,he,hnd,W⟩:=hS
 have hsz:es.size=xs.length:=by rw[<-aW,he,aa]
 have AU:t.fits es.size=true:=by have:=W.fits;rw[aa]at this;rw[hsz];exact this
 unfold setAddHashed setAddHashedIn
 refine dw (ae (eK ho hd AU ?_))
 dsimp only
 rw[A8]
 simp only[aO,bG]
 refine ae (Cp hu ho hd he hnd W hx hk (λi y hi=>?_) λhn m0 g1 g2=>?_)
 ·exact ai (hold (ao.mpr ⟨_,av hi,rfl⟩))
 ·dsimp only
  refine ae (eK ho hd AU ?_)
  dsimp only
  have tl:∀ (bv:Bool),wpAny (model prog w) A (do
   storeSet a (SetTable.insertAt es (t.put (pAt t.mask (tupleKeyHash knd k) m0).j).2 (tupleKeyHash knd k,Value.ref b)) (if bv=true then(t.put (pAt t.mask (tupleKeyHash knd k) m0).j).1 else {(t.put (pAt t.mask (tupleKeyHash knd k) m0).j).1 with plain:=false})
   if(!false&&(if bv=true then(t.put (pAt t.mask (tupleKeyHash knd k) m0).j).1 else {(t.put (pAt t.mask (tupleKeyHash knd k) m0).j).1 with plain:=false}).tooFull)=true then do
    setRelay a (SetTable.grown (es.size+1))
    pure true
   else pure true) Q E s:=λbv=>by
   cases bv with
   |true=>exact sN ho hex hd he hnd W vn hn g1 g2 (vp hn) (c:=(t.put (pAt t.mask (tupleKeyHash knd k) m0).j).1.plain) (by rw[aJ rfl]) rfl
   |false=>exact sN ho hex hd he hnd W vn hn g1 g2 (vp hn) (c:=false) (by rw[aE aD]) rfl
  split
  ·exact ae (Cq hk hsc tl)
  ·exact ae (ai (tl true))
theorem F1 {a b:Addr}{xs:List (List K×Addr)}{k:List K}{Q:Bool->Shared->Prop}(hu:A.units<cLine)(hsc:∀ k v,knd.is k v=true->v.scannable=true)(hS:pA knd s.heap a xs)
  (hx:∀ x∈xs,IsTupleKey knd s.heap x.1 x.2) (hk:IsTupleKey knd s.heap k b) (vn:xs.length<2000)
  (hold:k∈xs.map (·.1)->Q false {s with toks:=s.toks+(k.length+1)}) (vp:k∉xs.map (·.1)->∀ h' xs',Heap.SameBut a s.heap h'->pA knd h' a xs'->xs'.Perm (xs ++ [(k,b)])->Q true {s with heap:=h',toks:=s.toks+(k.length+1)}):
  wpAny (model prog w) A (setAdd a (.ref b)) Q E s:=by
 unfold setAdd
 refine dw ?_
 refine ae (wpAny_pyHash_tuple hu hk ?_)
 exact vX (s:={s with toks:=s.toks+(k.length+1)}) hu hsc hS hx hk vn hold vp
theorem wg {a b:Addr}{xs:List (List K×Addr)}{k:List K}{Q:Value->Shared->Prop}(hu:A.units+1<cLine)(hsc:∀ k v,knd.is k v=true->v.scannable=true)(hS:pA knd s.heap a xs)
  (hx:∀ x∈xs,IsTupleKey knd s.heap x.1 x.2) (hk:IsTupleKey knd s.heap k b) (vn:xs.length<2000)
  (hold:k∈xs.map (·.1)->Q .none {s with toks:=s.toks+(k.length+1)}) (vp:k∉xs.map (·.1)->∀ h' xs',Heap.SameBut a s.heap h'->pA knd h' a xs'->xs'.Perm (xs ++ [(k,b)])->Q .none {s with heap:=h',toks:=s.toks+(k.length+1)}):
  wpAny (model prog w) A (call (.builtin "set.add") [.ref a,.ref b]) Q E s:=by
 refine bR F.slot_set_add hS.typeIs F.entry_set_add ?_ (F.args_set_add_2 _ _)
 unfold Builtin.«set.add» Builtin.Frozenset.oneOther
 simp only[List.isEmpty_nil,bind_assoc]
 unfold Builtin.Frozenset.addrOf
 refine ae (ai ?_)
 try dsimp only
 refine ae (ai ?_)
 try dsimp only
 refine ae (F1 (eA (knd:=knd) hu) hsc hS hx hk vn (λz=>?_) λz h' xs' q1 q2 q3=>?_)
 ·show wpAny _ _ (ret Value.none) _ _ _
  exact ai ⟨_,rfl,hold z⟩
 ·show wpAny _ _ (ret Value.none) _ _ _
  exact ai ⟨_,rfl,vp z h' xs' q1 q2 q3⟩
end
open PySem.Spec PyProof.Rows L2
def qh (P:Program)(w:World)(a:Addr)(xs:List (List Key×Addr)):HO:=.ext λh=>pA (gF P w) h a xs
abbrev keysOf (xs:List (List Key×Addr)):List (List Key):=xs.map λx=>x.1
def px (K:PySem.W.Frag)(H:Hp)(xs:List (List Key×Addr)):Prop:=∀ x∈xs,SqT K H x.2 (x.1.map kV)
theorem ER {P:Program}{w:World} :∀ (k:Key) (v:Value),(gF P w).is k v=true->v.scannable=true:=λk v h=>by
 rcases iO (k:=k) (v:=v) h with⟨i,t,_,rfl⟩|⟨x,t,_,rfl⟩<;>rfl
theorem pA.lA {P:Program}{w:World}{h1 h2:Heap}{a:Addr}{xs:List (List Key×Addr)}(p:pA (gF P w) h1 a xs)(k:∀ o,h1.get? a=some o->h2.get? a=some o):pA (gF P w) h2 a xs:=by
 obtain⟨o,es,ep,t,ho,r⟩:=p
 exact⟨o,es,ep,t,k _ ho,r⟩
theorem pA.obj {P:Program}{w:World}{h:Heap}{H:Hp}{a:Addr}{xs:List (List Key×Addr)}(p:pA (gF P w) h a xs):iA P w H h a (qh P w a xs):=by
 obtain⟨o,es,ep,t,ho,r⟩:=id p
 exact⟨p,⟨o,ho⟩,λh1 h2 q k=>q.lA k⟩
section
variable {X:Cx}{pins:List (Addr×Obj)}{σ:St}{H:Hp}{s:Shared}
theorem Inv.JQ {l:Addr}{xs:List (List Key×Addr)}(I:Inv X pins σ H s)(h:H l=some (qh X.prog X.w l xs)):pA (gF X.prog X.w) s.heap l xs:=(I.hok l _ h).1
theorem Inv.Kp {b:Addr}{k:List Key}(I:Inv X pins σ H s)(h:SqT X.K H b (k.map kV)):IsTupleKey (gF X.prog X.w) s.heap k b:=by
 obtain⟨its,r,⟨o,h1,h2,n,h3⟩,z⟩:=I.tuple h
 exact⟨o,its.toArray,n,h1,h2,h3,by simpa using sk r⟩
theorem Inv.Ko {xs:List (List Key×Addr)}(I:Inv X pins σ H s)(h:px X.K H xs):∀ x∈xs,IsTupleKey (gF X.prog X.w) s.heap x.1 x.2:=λx hx=>Inv.Kp I (h x hx)
def HW (P:Program)(w:World)(K:PySem.W.Frag):V->List V->Hp->VK->Prop:=λx vs H Q=>∃ (l:Addr) (xs:List (List Key×Addr)) (k:List Key) (b:Addr),x = .ref l/\vs = [.ref b]/\H l=some (qh P w l xs)/\px K H xs/\SqT K H b (k.map kV)/\xs.length<2000/\
 (k∈keysOf xs->Q .non H)/\(k∉keysOf xs->∀ xs',xs'.Perm (xs ++ [(k,b)])->Q .non (upd H l (qh P w l xs')))
theorem EK (hu:X.A.units+1<cLine):MtR X "set.add" (HW X.prog X.w X.K):=by
 intro pins s σ H x vs v us Q I rx rv h
 obtain⟨l,xs,k,b,rfl,rfl,hH,ht,hb,hz,q1,q2⟩:=h
 cases rx
 obtain⟨u,rfl,rb⟩:=rv.one
 cases rb
 refine wg hu ER (Inv.JQ I hH) (Inv.Ko I ht) (Inv.Kp I hb) hz (λz=>⟨.non,H,I.tok _,rfl,q1 z⟩) λz h' xs' sb hS p=>?_
 refine⟨.non,_,I.write (t':=s.toks+(k.length+1)) (o:=qh X.prog X.w l xs') (x:=l) (e:=l) (by rw[hH];exact trivial) (.inl rfl) (λb u hb e=>sb.extBut b u hb e) ?_ hS.obj,rfl,q2 z xs' p⟩
 obtain⟨o,_,_,_,e,_⟩:=hS;exact⟨o,e⟩
theorem DE:jS X (.builtin "len") (λxs H Q=>∃ p ys,xs = [.ref p]/\H p=some (qh X.prog X.w p ys)/\Q (.int ys.length) H):=by
 intro pins s σ H xs us Q I r h
 obtain⟨p,ys,rfl,hH,q⟩:=h
 obtain⟨u,rfl,rx⟩:=vals1 r
 cases rx
 obtain⟨o,es,ep,t,ho,hex,hd,he,hnd,W⟩:=Inv.JQ I hH
 have hsz:es.size=ys.length:=by rw[<-aW,he,aa]
 have AU:t.fits es.size=true:=by have:=W.fits;rw[aa]at this;rw[hsz];exact this
 have h1:=W.room
 have h2:=W.small
 rw[aa]at h1
 exact call_len_set ho hex hd AU (by omega) ⟨.int ys.length,H,I.tok _,⟨_,by rw[hsz]⟩,q⟩
end
theorem t6 {α:Type} [DecidableEq α]:∀ {l m:List α},l.Nodup->(∀ x∈l,x∈m)->l.length<=m.length
 |[],m,_,_=>aK _
 |x::l,m,hn,hs=>by
  rw[bB]at hn
  have hx:=hs x aA
  have:=@t6 α _ l (m.erase x) hn.2 λy hy=>by
   refine(eM ?_).mpr (hs y (aw _ hy))
   rintro rfl
   exact hn.1 hy
  have h2:=dG hx
  have h3:0<m.length:=List.length_pos_of_mem hx
  rw[aR]
  omega
theorem xY {α:Type} [DecidableEq α]:∀ {l m:List α},l.Nodup->(∀ x∈l,x∈m)->m.length<=l.length->m.Nodup:=by
 intro l
 induction l with
 |nil=>
  intro m _ _ hl
  have:m = []:=List.eq_nil_of_length_eq_zero (by simpa using hl)
  subst this;exact cH
 |cons x l ih=>
  intro m hn hs hl
  rw[bB]at hn
  have hx:=hs x aA
  have h2:=dG hx
  have h3:0<m.length:=List.length_pos_of_mem hx
  have GJ:∀ y∈l,y∈m.erase x:=λy hy=>by
   refine(eM ?_).mpr (hs y (aw _ hy))
   rintro rfl
   exact hn.1 hy
  have he:=ih (m:=m.erase x) hn.2 GJ (by rw[aR]at hl;omega)
  refine(List.perm_cons_erase hx).nodup_iff.mpr (bB.mpr ⟨λz=>?_,he⟩)
  have:=t6 (l:=x::l) (m:=m.erase x) (bB.mpr hn) λy hy=>(aG.mp hy).elim (λe=>e ▸ z) (GJ y)
  rw[aR]at this hl
  omega
section
variable {prog:Program}{w:World}{A:Around}{R:Result->Shared->Prop}{I:Addr}{fp wr:List Addr}{G:Array GenState->Array GenState->Prop}{n:Nat}{P:Nat->Value->Prop}{St:Nat->Shared->Prop}
end
section
variable {prog:Program}{w:World}{A:Around}{E:Value->Shared->Prop}{s:Shared}
end
section
variable {X:Cx}
end
section
variable {X:Cx}{o e:Expr}{es:List Expr}{to:TE}{t:TA}{name:Str}{apos kE:Pos}{id:String}{r:V->List V->Hp->VK->Prop}
end
theorem px.same {K:PySem.W.Frag}{H H':Hp}{xs:List (List Key×Addr)}(h:px K H xs)(s:fI H H'):px K H' xs:=λx hx=>gd s (h x hx)
open HT
section
variable {prog:Program}{w:World}{A:Around}{E:Value->Shared->Prop}{s:Shared}
end
section
variable {X:Cx}{e:Expr}{te:TE}{pos p2:Pos}
end
section
variable {X:Cx}{a b c d:Expr}{ta tb tc td:TE}{pos:Pos}
end
end TL
namespace TL
open PySem PySem.Spec PyProof.Rows L2
section
variable {X:Cx}
theorem yu:jS X (.builtin "isinstance") (λxs H Q=>∃ a ys c b,xs = [.ref a,.ty c]/\SqT X.K H a ys/\PySem.W.kitOne X.K (.type "tuple") (.type c)=some b/\Q (.bl b) H):=by
 intro pins s σ H xs us Q I r h
 obtain⟨a,ys,c,b,rfl,hq,e,q⟩:=h
 obtain⟨u,u2,rfl,ru,rc⟩:=vals2 r
 cases rc
 cases ru
 obtain⟨its,rv,p,hz⟩:=I.tuple hq
 obtain⟨o,h1,h2,_⟩:=p
 exact bN PySem.W.kitx_tuple I.kIn ⟨o,h1,h2⟩ e (λz=>nomatch z) λtk=>⟨.bl b,H,I.tok tk,rfl,q⟩
theorem yv:jS X (.builtin "isinstance") (λxs H Q=>∃ a ys c b,xs = [.ref a,.ty c]/\SqL X.K H a ys/\PySem.W.kitOne X.K (.type "list") (.type c)=some b/\Q (.bl b) H):=by
 intro pins s σ H xs us Q I r h
 obtain⟨a,ys,c,b,rfl,hq,e,q⟩:=h
 obtain⟨u,u2,rfl,ru,rc⟩:=vals2 r
 cases rc
 cases ru
 obtain⟨its,rv,p,hz⟩:=I.list hq
 obtain⟨o,h1,h2,_⟩:=p.isList
 exact bN PySem.W.kitx_list I.kIn ⟨o,h1,h2⟩ e (λz=>nomatch z) λtk=>⟨.bl b,H,I.tok tk,rfl,q⟩
end
theorem CT {H H':Hp}(s:fI H H'){q:Addr}(h:H' q=none):H q=none:=by
 cases q0:H q with
 |none=>rfl
 |some o=>rw[s _ _ q0]at h;cases h
section
variable {X:Cx}
end
section
variable {X:Cx}{K:PySem.W.Frag}{T:String}{name:Str}{id:String}{r:V->List V->Hp->VK->Prop}{o e:Expr}{es:List Expr}{to:TE}{t:TA}{apos kE:Pos}
end
section
variable {K:PySem.W.Frag}{l:Addr}{g:TG}{tt:TT}{te:TE}{cap:List (Option Nat)}{σ:St}{Q:VK}{H1:Hp}{J:It}
end
section
variable {X:Cx}
end
open PySem.W
def ev {α:Type} :List α->List α
 |[]=>[]
 |[x]=>[x]
 |x::_::r=>x::ev r
section
variable {X:Cx}{e st lo:Expr}{te ts tl:TE}{pos p2:Pos}
end
section
variable {X:Cx}{tg:Expr}
end
section
variable {X:Cx}
end
section
variable {X:Cx}
end
section
variable {X:Cx}{tg:Expr}
end
end TL
namespace TL
open PySem PySem.Spec PyProof.Rows L2 TS
section
variable {prog:Program}{w:World}{A:Around}{R:Result->Shared->Prop}{s:Shared}
theorem rE {kx vx target iter:Expr}{ifs:List Expr}{scope:Scope}{pos:Pos}{it:Value}{D:Addr}{env:Env}(I:Nat->Shared->Prop)
  (turn:∀ n s,I n s->wpAny (model prog w) A (pyNext it) (λr s₁=>match r with
   |none=>R (.ok .next) s₁
   |some v=>wpAny (model prog w) A (letOwnedTupleGo target it v) (λ_ s₀=>wpAny (model prog w) A (assign target env v) (λ_ s₂=>
     wpAny (model prog w) A (tI ifs env) (λok s₃=>
      if ok=true then wpAny (model prog w) A (eval kx env) (λkv s₄=>wpAny (model prog w) A (eval vx env) (λvv s₅=>
       wpAny (model prog w) A (dictSet D kv vv) (λ_ s₆=>∃ m,m<n/\I m s₆) (λ_ _=>False) s₅) (λ_ _=>False) s₄) (λ_ _=>False) s₃
      else ∃ m,m<n/\I m s₃) (λ_ _=>False) s₂) (λ_ _=>False) s₀) (λ_ _=>False) s₁) (λ_ _=>False) s)
  (n:Nat) (h:I n s):
  codeAny (model prog w) A (.compLoop (.DictComp kx vx [⟨target,iter,ifs,0⟩] scope pos) 0 it (.ref D) env) R s:=by
 refine codeAny_loop rfl I (λn s hI=>?_) n h
 show wpAny _ A ((compTurn (.DictComp kx vx [⟨target,iter,ifs,0⟩] scope pos) 0 it (.ref D) env).onRaise (λx=>do noteFrame x env;theTreesLotGoes x)) _ _ s
 refine wpAny_noted ?_
 rw[compTurn_dict]
 refine ae (cU (ae (bo (turn n s hI) (λr s₁ h₁=>?_) λ_ _ h'=>h'.elim)))
 cases r with
 |none=>exact ai h₁
 |some v=>
  refine ae (bo h₁ (λ_ s₀ h₀=>?_) λ_ _ h'=>h'.elim)
  refine ae (bo h₀ (λ_ s₂ h₂=>ae (bo h₂ (λok s₃ h₃=>?_) λ_ _ h'=>h'.elim)) λ_ _ h'=>h'.elim)
  cases ok with
  |false=>exact ai ⟨rfl,h₃⟩
  |true=>
   exact ae (ae (bo h₃ (λkv s₄ h₄=>ae (dw (bo h₄ (λvv s₅ h₅=>ae (cU (dw (bo h₅ (λ_ s₆ h₆=>ai ⟨rfl,h₆⟩) λ_ _ h'=>h'.elim)))) λ_ _ h'=>h'.elim))) λ_ _ h'=>h'.elim))
end
section
variable {X:Cx}{pins:List (Addr×Obj)}{σ:St}{H1:Hp}{s2:Shared}{scope:Scope}{N:List Str}{own:Nat}{cap:List (Option Nat)}{cl:List (Str×Addr)}{fp:List Addr}
 {tg iter elt vlt:Expr}{ifs:List Expr}{pos:Pos}{g:TG}{tt:TT}{te tv:TE}{wi:TI}
def Lz (P:Program)(w:World)(K:PySem.W.Frag)(J:It)(g:TG)(tt:TT)(te:TE)(cap:List (Option Nat))(σ:St)(Q:VK)(l:Addr)(H1:Hp):Prop:=
 ∃ W:Nat->Nat->Hp->Prop,(∃ m,W 0 m (upd H1 l (qh P w l [])))/\∀ i m H,W i m H->
  (J.stop i H/\Q (.ref l) H)\/(J.go i H/\∃ N:Hp->Prop,(∀ H',N H'->∃ m',m'<m/\W (i+1) m' H')/\
   ∀ x H',J.yld i H x H'->g x (iG cap σ) H' λσ2 H2=>tt σ2 H2 λb H3=>
    if b=true then te σ2 H3 λy H4=>∃ (xs:List (List Key×Addr)) (k:List Key) (b:Addr),y = .ref b/\H4 l=some (qh P w l xs)/\px K H4 xs/\SqT K H4 b (k.map kV)/\xs.length<2000/\(k∈keysOf xs->N H4)/\(k∉keysOf xs->∀ xs',xs'.Perm (xs ++ [(k,b)])->N (upd H4 l (qh P w l xs')))
    else N H3)
def LK (P:Program)(w:World)(K:PySem.W.Frag)(wi:TI)(cap:List (Option Nat))(g:TG)(tt:TT)(te:TE):TE:=λσ H Q=>wi σ H λJ H1=>∀ l,H1 l=none->
 Lz P w K J g tt te cap σ Q l H1
theorem A5 {it:Addr}{tn:Nat->Heap->Prop}{J:It}{Q:VK}{RR:Value->Addr->Result->Shared->Prop}{E:Value->Shared->Prop}(hu:X.A.units+1<cLine)(I:Inv X pins σ H1 s2)(T:Turn X.prog X.w X.K tg J fp it tn)(t0:tn 0 s2.heap)
  (f:∀ b∈fp,lO X pins H1 b) (hc:X.calm=true) (C:gH X.env.scope X.N scope N own cap) (ho:qi own g)
  (jT:∀ x c,cl.lookup x=some c->X.env.cells.lookup x=some c) (lX:∀ y∈scope.names,y.2 = .free->∃ c,cl.lookup y.1=some c)
  (hg:∀ s3 H3,PG (fU X scope cl N fp s3 H3) tg g) (ht:∀ s3 H3,sF (fU X scope cl N fp s3 H3) ifs tt) (he:∀ s3 H3,PE (fU X scope cl N fp s3 H3) elt te)
  (hw:∀ l,H1 l=none->Lz X.prog X.w X.K J g tt te cap σ Q l H1)
  (fin:∀ l C s' H' m',Inv X pins σ H' s'->s'.heap.Ns C m'->H' C=none->Apart X pins C->Q (.ref l) H'->RR (.ref l) C (.ok .next) s'):
  wpAny (model X.prog X.w) X.A (newSet (.type "set")) (λacc s₃=>wpAny (model X.prog X.w) X.A (newFunctionEnv scope X.env.globals cl [] X.env.qual none .none (some X.env)) (λrG s₄=>
   codeAny (model X.prog X.w) X.A (.compStart (.SetComp elt [⟨tg,iter,ifs,0⟩] scope pos) 0 (.ref it) acc {rG with scope:=relabel scope X.env}) (RR acc rG.locals) s₄) E s₃) E s2:=by
 refine wpAny_newSet_of (knd:=intKind X.prog X.w) λled Kz=>?_
 refine dF C.sh (by intro y hy;simp at hy) (λh₁ jh jg=>?_) C.kind
 dsimp only at jh jg ⊢
 have hS:pA (gF X.prog X.w) (s2.heap.push {cls:=.type "set",dict:=none,data:=.set #[] 0 (.fresh 0 0 led)}) s2.heap.objs.size []:=
  ⟨_,#[],0,_,aQ _ rfl,⟨rfl,rfl,rfl⟩,rfl,rfl,cH,WFT.fresh _ _ _⟩
 obtain⟨W,⟨m0,w0⟩,turn⟩:=hw s2.heap.objs.size I.fresh
 have I3:Inv X pins σ (upd H1 s2.heap.objs.size (qh X.prog X.w s2.heap.objs.size [])) {s2 with heap:=s2.heap.push {cls:=.type "set",dict:=none,data:=.set #[] 0 (.fresh 0 0 led)}} :=
  I.laid (t':=s2.toks) (λb u e=>ax _ e) (au _) hS.obj
 generalize hs3:({s2 with heap:=s2.heap.push {cls:=.type "set",dict:=none,data:=.set #[] 0 (.fresh 0 0 led)}} :Shared)=s3 at I3
 have hh3:s3.heap=s2.heap.push {cls:=.type "set",dict:=none,data:=.set #[] 0 (.fresh 0 0 led)} :=by rw[<-hs3]
 rw[<-hh3]at jh jg ⊢
 have e4:({s2 with heap:=h₁,toks:=s2.toks+([]:List (Str×Value)).length} :Shared) = {s3 with heap:=h₁,toks:=s2.toks} :=by rw[<-hs3];rfl
 rw[e4]
 have k4:∀ b u,s3.heap.get? b=some u->h₁.get? b=some u:=λb u e=>jg.extBut b u (aL (aC e)) (ax _ e)
 have k3:∀ b u,s2.heap.get? b=some u->s3.heap.get? b=some u:=λb u e=>by rw[hh3];exact ax _ e
 have hb2:∀ b∈fp,b<s2.heap.objs.size:=λb hb=>by obtain⟨o,e,_⟩:=T.obj _ _ t0 b hb;exact aC e
 have f3:∀ b∈fp,lO X pins (upd H1 s2.heap.objs.size (qh X.prog X.w s2.heap.objs.size [])) b:=λb hb=>by
  obtain⟨f0,fr⟩:=f b hb
  exact⟨by rw[fG (aL (hb2 b hb))];exact f0,fr⟩
 have hb3:∀ b∈fp,b<s3.heap.objs.size:=λb hb=>by obtain⟨o,e,_⟩:=T.obj _ _ t0 b hb;exact aC (k3 b o e)
 have I4:=oV (tk:=s2.toks) I3 C jT lX (λb hb=>⟨f3 b hb,hb3 b hb⟩) jh k4
 generalize hH3:upd H1 s2.heap.objs.size (qh X.prog X.w s2.heap.objs.size [])=H3 at *
 have st4:tn 0 h₁:=T.keep _ _ _ t0 λb hb o e=>k4 b o (k3 b o e)
 have fpX:∀ {H':Hp},(∀ b∈fp,H' b=none)->∀ b∈fp,lO (fU X scope cl N fp s3 H3) [] H' b:=λ{H'} hn b hb=>by
  obtain⟨f0,f1,f2,f3',f4,f5⟩:=f3 b hb
  refine⟨hn b hb,aL (hb3 b hb),λhz=>?_,.inl hb,λx c e=>f4 x c (jT x c e),λp hp=>absurd (show p∈([]:List (Addr×Obj)) from hp) (by simp)⟩
  rcases aG.mp (I3.mZ b hz)with z |z
  ·exact f1 z
  ·exact f2 z
 have loop:codeAny (model X.prog X.w) X.A (.compLoop (.SetComp elt [⟨tg,iter,ifs,0⟩] scope pos) 0 (.ref it) (.ref s2.heap.objs.size) (compEnvC scope cl s3.heap.objs.size X.env)) (RR (.ref s2.heap.objs.size) s3.heap.objs.size) {s3 with heap:=h₁,toks:=s2.toks} :=by
  refine rD (λn s'=>∃ i H',Inv (fU X scope cl N fp s3 H3) [] (iG cap σ) H' s'/\tn i s'.heap/\(∀ b∈fp,H' b=none)/\W i n H') ?_ m0 ⟨0,H3,I4,st4,λb hb=>(f3 b hb).1,w0⟩
  rintro n s' ⟨i,H',I',st,fr,w⟩
  rcases turn i n H' w with⟨stop,q⟩|⟨go,NN,hNN,step⟩
  ·refine thn (T.done (fU X scope cl N fp s3 H3) rfl rfl rfl hc i [] s' _ H' (λ_ _=>False) I' (fpX fr) st stop) λr s5 ⟨hr,I5⟩=>?_
   subst hr
   obtain⟨m5,hn5,_⟩:=id I5.loc
   exact fin _ _ s5 H' m5 (comp_back I3 f3 I5) hn5 I5.free (TL.Inv.apart I3) q
  ·refine thn (T.item (fU X scope cl N fp s3 H3) rfl rfl rfl hc i [] s' _ H' (λ_ _=>False) I' (fpX fr) st go) λr s5 ⟨u,hr,h5⟩=>?_
   subst hr
   refine thn h5 λ_ s6 ⟨x,H6,I6,r6,y6,st6,fr6⟩=>?_
   have I6':=I6.pinned (fpX fr6) (T.obj _ _ st6)
   refine thn (hg s3 H3 _ s6 _ H6 x u _ I6' r6 (ho.own _ _ _ _ (step x H6 y6))) λ_ s7 ⟨σ7,H7,I7,q7,l7,o7⟩=>?_
   have cov:∀ (i:Nat) v,(iG cap σ)[i]? = some (some v)->σ7[i]? = some (some v):=λi v e=>by
    obtain⟨j,c1,c2⟩:=mi e
    by_cases hi:i<own
    ·exact(C.oQ hi c1).elim
    ·rw[o7 i (by omega)];exact e
   have back:∀ {H8:Hp}{s8:Shared},Inv (fU X scope cl N fp s3 H3) ([]++nV fp s6.heap) σ7 H8 s8->Inv (fU X scope cl N fp s3 H3) [] (iG cap σ) H8 s8/\tn (i+1) s8.heap/\∀ b∈fp,H8 b=none:=λ{H8 s8} I8=>by
    refine⟨(Inv.lu (pins:=[]) I8).weak l7.symm cov,T.keep _ _ _ st6 λb hb o e=>(I8.pin (b,o) (ay _ (ay _ (iI hb e)))).1,λb hb=>?_⟩
    obtain⟨o,e,d⟩:=T.obj _ _ st6 b hb
    exact(I8.pin (b,o) (ay _ (ay _ (iI hb e)))).2.1
   refine thn (ht s3 H3 _ s7 σ7 H7 _ I7 q7) λb s8 ⟨H8,I8,q8⟩=>?_
   cases b with
   |false=>
    rw[aE aD]at q8 ⊢
    obtain⟨m',hm,w8⟩:=hNN _ q8
    obtain⟨J1,J2,J3⟩:=back I8
    exact⟨m',hm,i+1,H8,J1,J2,J3,w8⟩
   |true=>
    rw[aJ rfl]at q8 ⊢
    refine thn (he s3 H3 _ s8 σ7 H8 _ I8 q8) λv s9 ⟨y,H9,I9,r9,xs,k,b,ey,ha,hT,hb,hz,n1,n2⟩=>?_
    subst ey
    refine thn (EK (X:=fU X scope cl N fp s3 H3) hu _ s9 σ7 H9 (.ref s2.heap.objs.size) [.ref b] (.ref s2.heap.objs.size) [v] (λ_ H10=>NN H10) I9 rfl (.cons r9 .nil) ⟨_,xs,k,b,rfl,rfl,ha,hT,hb,hz,n1,n2⟩) λ_ s10 ⟨_,H10,I10,_,w10⟩=>?_
    obtain⟨m',hm,w9⟩:=hNN _ w10
    obtain⟨J1,J2,J3⟩:=back I10
    exact⟨m',hm,i+1,H10,J1,J2,J3,w9⟩
 exact qp loop (T.self X.A 0 _ _ _ st4 loop)
theorem Ig (hu:X.A.units+1<cLine)(hi:PI X tg iter wi)(hc:X.calm=true)(C:gH X.env.scope X.N scope N own cap)(ho:qi own g)
  (hg:∀ cl fp s3 H3,PG (fU X scope cl N fp s3 H3) tg g) (ht:∀ cl fp s3 H3,sF (fU X scope cl N fp s3 H3) ifs tt) (he:∀ cl fp s3 H3,PE (fU X scope cl N fp s3 H3) elt te)
  (hs:∀ x,foldedSetIterable iter X.env x=pure x:=by intro _;rfl):PE X (.SetComp elt [⟨tg,iter,ifs,0⟩] scope pos) (LK X.prog X.w X.K wi cap g tt te):=by
 intro pins s σ H Q I h
 obtain⟨cl,ecl,jT,lX⟩:=kO (scope:=scope) (env:=X.env) λy hy hf=>I.ok.has y.1 (C.fre y hy hf)
 rw[arm_eval_SetComp]
 refine cy (use:=none) rfl hs ecl C.kind C.loc (thn (hi pins s σ H _ I h) λxv s1 h1=>thn h1 λitv s2 h2=>?_)
 obtain⟨it,fp,tn,J,H2,e,I2,T,st2,f2,hw⟩:=h2
 subst e
 refine A5 (RR:=λacc C=>compPost (model X.prog X.w) X.A X.xe none (EP X pins σ Q) acc C) hu I2 T st2 f2 hc C ho jT lX (hg cl fp) (ht cl fp) (he cl fp) hw λl Ca s' H' m' I' hn kG hP q=>?_
 exact⟨m',hn,λh'' vj=>⟨.ref l,H',mh I' hP kG vj,rfl,q⟩⟩
end
section
variable {X:Cx}{pins:List (Addr×Obj)}{σ:St}{H1:Hp}{s2:Shared}{scope:Scope}{N:List Str}{own:Nat}{cap:List (Option Nat)}{cl:List (Str×Addr)}{fp:List Addr}
 {tg iter elt vlt:Expr}{ifs:List Expr}{pos:Pos}{g:TG}{tt:TT}{te tv:TE}{wi:TI}
def DcW (J:It)(g:TG)(tt:TT)(te tv:TE)(cap:List (Option Nat))(σ:St)(Q:VK)(l:Addr)(H1:Hp):Prop:=
 ∃ W:Nat->Nat->Hp->Prop,(∃ m,W 0 m (upd H1 l (.dT [])))/\∀ i m H,W i m H->
  (J.stop i H/\Q (.ref l) H)\/(J.go i H/\∃ N:Hp->Prop,(∀ H',N H'->∃ m',m'<m/\W (i+1) m' H')/\
   ∀ x H',J.yld i H x H'->g x (iG cap σ) H' λσ2 H2=>tt σ2 H2 λb H3=>
    if b=true then te σ2 H3 λy H4=>tv σ2 H4 λv H5=>∃ (kvs:List (List Key×V)) (k:List Key) (b:Addr),y = .ref b/\H5 l=some (.dT kvs)/\H5 b=some (.tup (k.map kV))/\kvs.length<sizeLine/\N (upd H5 l (.dT (putK kvs k v)))
    else N H3)
def tDC (wi:TI)(cap:List (Option Nat))(g:TG)(tt:TT)(te tv:TE):TE:=λσ H Q=>wi σ H λJ H1=>∀ l,H1 l=none->
 DcW J g tt te tv cap σ Q l H1
theorem DB {it:Addr}{tn:Nat->Heap->Prop}{J:It}{Q:VK}{RR:Value->Addr->Result->Shared->Prop}{E:Value->Shared->Prop}(hu:X.A.units<cLine)(I:Inv X pins σ H1 s2)(T:Turn X.prog X.w X.K tg J fp it tn)(t0:tn 0 s2.heap)
  (f:∀ b∈fp,lO X pins H1 b) (hc:X.calm=true) (C:gH X.env.scope X.N scope N own cap) (ho:qi own g)
  (jT:∀ x c,cl.lookup x=some c->X.env.cells.lookup x=some c) (lX:∀ y∈scope.names,y.2 = .free->∃ c,cl.lookup y.1=some c)
  (hg:∀ s3 H3,PG (fU X scope cl N fp s3 H3) tg g) (ht:∀ s3 H3,sF (fU X scope cl N fp s3 H3) ifs tt) (he:∀ s3 H3,PE (fU X scope cl N fp s3 H3) elt te) (hv:∀ s3 H3,PE (fU X scope cl N fp s3 H3) vlt tv)
  (hw:∀ l,H1 l=none->DcW J g tt te tv cap σ Q l H1)
  (fin:∀ l C s' H' m',Inv X pins σ H' s'->s'.heap.Ns C m'->H' C=none->Apart X pins C->Q (.ref l) H'->RR (.ref l) C (.ok .next) s'):
  wpAny (model X.prog X.w) X.A newDict (λacc s₃=>wpAny (model X.prog X.w) X.A (newFunctionEnv scope X.env.globals cl [] X.env.qual none .none (some X.env)) (λrG s₄=>
   codeAny (model X.prog X.w) X.A (.compStart (.DictComp elt vlt [⟨tg,iter,ifs,0⟩] scope pos) 0 (.ref it) acc {rG with scope:=relabel scope X.env}) (RR acc rG.locals) s₄) E s₃) E s2:=by
 refine bX ?_
 refine dF C.sh (by intro y hy;simp at hy) (λh₁ jh jg=>?_) C.kind
 dsimp only at jh jg ⊢
 obtain⟨W,⟨m0,w0⟩,turn⟩:=hw s2.heap.objs.size I.fresh
 have I3:Inv X pins σ (upd H1 s2.heap.objs.size (.dT [])) {s2 with heap:=s2.heap.push {cls:=.type "dict",data:=.dict #[]}} :=
  I.laid (t':=s2.toks) (λb u e=>ax _ e) (au _) (vJ s2.heap I.big)
 generalize hs3:({s2 with heap:=s2.heap.push {cls:=.type "dict",data:=.dict #[]}} :Shared)=s3 at I3
 have hh3:s3.heap=s2.heap.push {cls:=.type "dict",data:=.dict #[]} :=by rw[<-hs3]
 rw[<-hh3]at jh jg ⊢
 have e4:({s2 with heap:=h₁,toks:=s2.toks+([]:List (Str×Value)).length} :Shared) = {s3 with heap:=h₁,toks:=s2.toks} :=by rw[<-hs3];rfl
 rw[e4]
 have k4:∀ b u,s3.heap.get? b=some u->h₁.get? b=some u:=λb u e=>jg.extBut b u (aL (aC e)) (ax _ e)
 have k3:∀ b u,s2.heap.get? b=some u->s3.heap.get? b=some u:=λb u e=>by rw[hh3];exact ax _ e
 have hb2:∀ b∈fp,b<s2.heap.objs.size:=λb hb=>by obtain⟨o,e,_⟩:=T.obj _ _ t0 b hb;exact aC e
 have f3:∀ b∈fp,lO X pins (upd H1 s2.heap.objs.size (.dT [])) b:=λb hb=>by
  obtain⟨f0,fr⟩:=f b hb
  exact⟨by rw[fG (aL (hb2 b hb))];exact f0,fr⟩
 have hb3:∀ b∈fp,b<s3.heap.objs.size:=λb hb=>by obtain⟨o,e,_⟩:=T.obj _ _ t0 b hb;exact aC (k3 b o e)
 have I4:=oV (tk:=s2.toks) I3 C jT lX (λb hb=>⟨f3 b hb,hb3 b hb⟩) jh k4
 generalize hH3:upd H1 s2.heap.objs.size (.dT [])=H3 at *
 have st4:tn 0 h₁:=T.keep _ _ _ t0 λb hb o e=>k4 b o (k3 b o e)
 have fpX:∀ {H':Hp},(∀ b∈fp,H' b=none)->∀ b∈fp,lO (fU X scope cl N fp s3 H3) [] H' b:=λ{H'} hn b hb=>by
  obtain⟨f0,f1,f2,f3',f4,f5⟩:=f3 b hb
  refine⟨hn b hb,aL (hb3 b hb),λhz=>?_,.inl hb,λx c e=>f4 x c (jT x c e),λp hp=>absurd (show p∈([]:List (Addr×Obj)) from hp) (by simp)⟩
  rcases aG.mp (I3.mZ b hz)with z |z
  ·exact f1 z
  ·exact f2 z
 have loop:codeAny (model X.prog X.w) X.A (.compLoop (.DictComp elt vlt [⟨tg,iter,ifs,0⟩] scope pos) 0 (.ref it) (.ref s2.heap.objs.size) (compEnvC scope cl s3.heap.objs.size X.env)) (RR (.ref s2.heap.objs.size) s3.heap.objs.size) {s3 with heap:=h₁,toks:=s2.toks} :=by
  refine rE (λn s'=>∃ i H',Inv (fU X scope cl N fp s3 H3) [] (iG cap σ) H' s'/\tn i s'.heap/\(∀ b∈fp,H' b=none)/\W i n H') ?_ m0 ⟨0,H3,I4,st4,λb hb=>(f3 b hb).1,w0⟩
  rintro n s' ⟨i,H',I',st,fr,w⟩
  rcases turn i n H' w with⟨stop,q⟩|⟨go,NN,hNN,step⟩
  ·refine thn (T.done (fU X scope cl N fp s3 H3) rfl rfl rfl hc i [] s' _ H' (λ_ _=>False) I' (fpX fr) st stop) λr s5 ⟨hr,I5⟩=>?_
   subst hr
   obtain⟨m5,hn5,_⟩:=id I5.loc
   exact fin _ _ s5 H' m5 (comp_back I3 f3 I5) hn5 I5.free (TL.Inv.apart I3) q
  ·refine thn (T.item (fU X scope cl N fp s3 H3) rfl rfl rfl hc i [] s' _ H' (λ_ _=>False) I' (fpX fr) st go) λr s5 ⟨u,hr,h5⟩=>?_
   subst hr
   refine thn h5 λ_ s6 ⟨x,H6,I6,r6,y6,st6,fr6⟩=>?_
   have I6':=I6.pinned (fpX fr6) (T.obj _ _ st6)
   refine thn (hg s3 H3 _ s6 _ H6 x u _ I6' r6 (ho.own _ _ _ _ (step x H6 y6))) λ_ s7 ⟨σ7,H7,I7,q7,l7,o7⟩=>?_
   have cov:∀ (i:Nat) v,(iG cap σ)[i]? = some (some v)->σ7[i]? = some (some v):=λi v e=>by
    obtain⟨j,c1,c2⟩:=mi e
    by_cases hi:i<own
    ·exact(C.oQ hi c1).elim
    ·rw[o7 i (by omega)];exact e
   have back:∀ {H8:Hp}{s8:Shared},Inv (fU X scope cl N fp s3 H3) ([]++nV fp s6.heap) σ7 H8 s8->Inv (fU X scope cl N fp s3 H3) [] (iG cap σ) H8 s8/\tn (i+1) s8.heap/\∀ b∈fp,H8 b=none:=λ{H8 s8} I8=>by
    refine⟨(Inv.lu (pins:=[]) I8).weak l7.symm cov,T.keep _ _ _ st6 λb hb o e=>(I8.pin (b,o) (ay _ (ay _ (iI hb e)))).1,λb hb=>?_⟩
    obtain⟨o,e,d⟩:=T.obj _ _ st6 b hb
    exact(I8.pin (b,o) (ay _ (ay _ (iI hb e)))).2.1
   refine thn (ht s3 H3 _ s7 σ7 H7 _ I7 q7) λb s8 ⟨H8,I8,q8⟩=>?_
   cases b with
   |false=>
    rw[aE aD]at q8 ⊢
    obtain⟨m',hm,w8⟩:=hNN _ q8
    obtain⟨J1,J2,J3⟩:=back I8
    exact⟨m',hm,i+1,H8,J1,J2,J3,w8⟩
   |true=>
    rw[aJ rfl]at q8 ⊢
    refine thn (he s3 H3 _ s8 σ7 H8 _ I8 q8) λu9 s9 ⟨y,H9,I9,r9,q9⟩=>?_
    refine thn (hv s3 H3 _ s9 σ7 H9 _ I9 q9) λv s10 ⟨v',H10,I10,r10,kvs,k,b,ey,ha,hb,hz,n10⟩=>?_
    obtain⟨m',hm,w10⟩:=hNN _ n10
    subst ey
    cases(show u9=Value.ref b from r9)
    refine Fy (X:=fU X scope cl N fp s3 H3) hu I10 ha hb hz r10 λs11 I11=>?_
    obtain⟨J1,J2,J3⟩:=back I11
    exact⟨m',hm,i+1,_,J1,J2,J3,w10⟩
 exact codeAny_compStart_dict loop (T.self X.A 0 _ _ _ st4 loop)
theorem Ii (hu:X.A.units<cLine)(hi:PI X tg iter wi)(hc:X.calm=true)(C:gH X.env.scope X.N scope N own cap)(ho:qi own g)
  (hg:∀ cl fp s3 H3,PG (fU X scope cl N fp s3 H3) tg g) (ht:∀ cl fp s3 H3,sF (fU X scope cl N fp s3 H3) ifs tt) (he:∀ cl fp s3 H3,PE (fU X scope cl N fp s3 H3) elt te) (hv:∀ cl fp s3 H3,PE (fU X scope cl N fp s3 H3) vlt tv)
  (hs:∀ x,foldedSetIterable iter X.env x=pure x:=by intro _;rfl):PE X (.DictComp elt vlt [⟨tg,iter,ifs,0⟩] scope pos) (tDC wi cap g tt te tv):=by
 intro pins s σ H Q I h
 obtain⟨cl,ecl,jT,lX⟩:=kO (scope:=scope) (env:=X.env) λy hy hf=>I.ok.has y.1 (C.fre y hy hf)
 rw[arm_eval_DictComp]
 refine cy (use:=none) rfl hs ecl C.kind C.loc (thn (hi pins s σ H _ I h) λxv s1 h1=>thn h1 λitv s2 h2=>?_)
 obtain⟨it,fp,tn,J,H2,e,I2,T,st2,f2,hw⟩:=h2
 subst e
 refine DB (RR:=λacc C=>compPost (model X.prog X.w) X.A X.xe none (EP X pins σ Q) acc C) hu I2 T st2 f2 hc C ho jT lX (hg cl fp) (ht cl fp) (he cl fp) (hv cl fp) hw λl Ca s' H' m' I' hn kG hP q=>?_
 exact⟨m',hn,λh'' vj=>⟨.ref l,H',mh I' hP kG vj,rfl,q⟩⟩
end
end TL
namespace L2
open PySem PySem.Spec PySem.Calls PyProof.Rows PySem.W
def Ht (K:Frag)(D:Addr)(th:TS)(Z:Ends):St->XK:=λσ c a H=>∃ e C,a=some e/\c = .ref C/\rO K D C/\th Z σ (upd H e (vG e C))
def JE (K:Frag)(D:Addr)(tb:(St->XK)->TS)(th:TS):TS:=λZ σ H=>tb (Ht K D th Z) Z σ H
section
variable {X:Cx}{body tZ:List Stmt}{b₀:Stmt}{x:Str}{np AS pos:Pos}{D:Addr}{tb:(St->XK)->TS}{th:TS}
theorem Gi (hst:X.stack=X.env::X.outer)(hfr:X.env.frame=some X.env.locals)(hex:X.ex = [])(hg:Gl X x)(hm:X.mg x=some (.ref D))
  (hb:∀ pn W (E:St->XK),yz (CXr X.prog X.w X.base) (X.nN pn W) E->PSs (X.nN pn W) body (tb E)) (hs:∀ e,PSs (X.lL e) (b₀::tZ) th) (hd:(x==("__debug__" :Str))=false:=by decide):
  PS X (.Try body [.ExceptHandler (some (.Name x np)) none (b₀::tZ) AS] [] [] pos) (JE X.K D tb th):=by
 intro pins s σ H Z I h
 refine wpAny_Try_except ?_
 refine bo (hb pins (λe s₁=>wpAny (model X.prog X.w) X.A (noteFrame e X.env) (λ_ s₂=>wpAny (model X.prog X.w) X.A (setFlight e none) (λ_ s₃=>wpAny (model X.prog X.w) X.A (handleBy e X.env [.ExceptHandler (some (.Name x np)) none (b₀::tZ) AS]) (SP X pins Z) X.xe s₃) X.xe s₂) X.xe s₁)
  (Ht X.K D th Z) ?_ pins s σ H Z (I.nN _) h) (λf s1 q=>?_) λe s1 q=>q
 ·intro sU σ1 H1 s1 ev s2 I1' hx
  have I1:Inv X pins σ1 H1 s1:=I1'.qj I.ok
  obtain⟨e,C',H2,B,rfl,ho,zI,x0,e',C,z1,z2,cat,q⟩:=hx
  obtain rfl:e=e':=aP z1
  obtain rfl:C'=C:=by injection z2
  have x0:Fl X.prog X.w X.base X.stack H1 H2 s1.heap e C' B s2.heap:=x0
  obtain⟨a0,f0⟩:=x0.fly
  have Fh:=I.ok.frames
  rw[hst]at Fh
  have f0':=f0
  rw[hst]at f0'
  show wpAny (model X.prog X.w) X.A (noteFrame (.ref e) X.env) _ _ s2
  refine wpAny_looks_onW Fh hfr f0' λh4 hh4 sm4=>?_
  refine wpAny_landsW hh4 λh5 f5 sm5=>?_
  have f5':Heap.FlyingW B X.stack e (.ref C') a0 h5:=by rw[hst];exact f5
  have x5:Fl X.prog X.w X.base X.stack H1 H2 s1.heap e C' B h5:=⟨x0.toFl0.step f5'.1 f0.2.2.1 f5'.2.2.1 (sm4.trans sm5),a0,f5'⟩
  have I5:Inv X pins σ1 (upd H2 e (vG e C')) {s2 with heap:=h5} :=Fl.kept (s':={s2 with heap:=h5}) x5 I1 hex ho zI
  obtain⟨oe,he,hec⟩:=f5'.there
  refine wpAny_handleBy_cons (codeAny_handlers_test (oj (X:=X.lL e) (I5.lL e) hg hm ?_ hd)) (by intro q;cases q)
  refine DK (K:=X.K) I5.kIn he hec cat.ty cat.isc cat.bex cat.mro (codeAny_handlers_suite ?_)
  refine lands_againW f5' λh6 f6 sm6=>?_
  have x6:Fl X.prog X.w X.base X.stack H1 H2 s1.heap e C' B h6:=⟨x5.toFl0.step f6.1 f5'.2.2.1 f6.2.2.1 sm6,a0,f6⟩
  have I6:Inv X pins σ1 (upd H2 e (vG e C')) {s2 with heap:=h6} :=Fl.kept (s':={s2 with heap:=h6}) x6 I1 hex ho zI
  refine bo (hs e pins {s2 with heap:=h6} σ1 _ Z (I6.lL e) q) (λf s8 q8=>?_) λ_ _ z=>False.elim z
  cases f with
  |next=>obtain⟨σ8,H8,I8,q8⟩:=q8;exact⟨σ8,H8,I8.uncaught I.ok,q8⟩
  |brk=>obtain⟨σ8,H8,I8,q8⟩:=q8;exact⟨σ8,H8,I8.uncaught I.ok,q8⟩
  |cont=>obtain⟨σ8,H8,I8,q8⟩:=q8;exact⟨σ8,H8,I8.uncaught I.ok,q8⟩
  |ret u=>obtain⟨v8,σ8,H8,I8,r8,q8⟩:=q8;exact⟨v8,σ8,H8,I8.uncaught I.ok,r8,q8⟩
 ·cases f with
  |next=>obtain⟨σ8,H8,I8,q8⟩:=q;exact en ⟨σ8,H8,I8.qj I.ok,q8⟩
  |brk=>obtain⟨σ8,H8,I8,q8⟩:=q;exact⟨σ8,H8,I8.qj I.ok,q8⟩
  |cont=>obtain⟨σ8,H8,I8,q8⟩:=q;exact⟨σ8,H8,I8.qj I.ok,q8⟩
  |ret u=>obtain⟨v8,σ8,H8,I8,r8,q8⟩:=q;exact⟨v8,σ8,H8,I8.qj I.ok,r8,q8⟩
end
end L2
namespace TL
open PySem PySem.Spec PyProof.Rows L2
theorem AL {l:Int×List (Int×Int)}(h:gv l)(e:Int):(jn l.2 e).length<=60:=by
 unfold jn
 rw[nO,ak]
 exact h.inc e
theorem vC {l:Int×List (Int×Int)}(h:gv l)(ns:List Int)(e:Int):(fr l ns e).length<=60:=bF (bS _ _) (AL h e)
theorem qk {α β:Type}(f:α->β)(l:List α)(i:Nat)(x:α)(h:l[i]? = some x):(l.take (i+1)).map f=(l.take i).map f ++ [f x]:=by
 rw[bh,h,aB];rfl
theorem mF:∀ (ds:List PyData),(∀ d∈ds,d.canLay0=true)->PyData.canLayAll0 ds=true
 |[],_=>by simp[PyData.canLayAll0]
 |d::ds,h=>by
  simp only[PyData.canLayAll0,fz]
  exact⟨h d aA,mF ds λx hx=>h x (aw _ hx)⟩
theorem Cz (l:Int×List (Int×Int))(ns:List Int):∀ m∈mvs l ns,PyData.strOk m.1.1=true:=λm hm=>by
 rcases aF.mp hm with z |z
 ·obtain⟨e,_,rfl⟩:=ao.mp z
  show PyData.strOk (Str.ofString "on")=true
  decide +kernel
 ·obtain⟨e,_,rfl⟩:=ao.mp z
  show PyData.strOk (Str.ofString "back")=true
  decide +kernel
def dM (k:Str×Int):PyData:=.tuple [.str k.1,.int k.2]
theorem EA {k:Str×Int}(h:PyData.strOk k.1=true):OkD (dM k):=by
 refine⟨?_,?_⟩
 ·simp only[dM,PyData.canLay0,PyData.canLayAll0,h,cY]
 ·simp only[dM,PyData.depth,PyData.depthAll];decide
theorem Ll (a b:Str×Int):PyData.eqv (dM a) (dM b)=decide (a=b):=by
 obtain⟨a1,a2⟩:=a
 obtain⟨b1,b2⟩:=b
 simp only[dM,PyData.eqv,PyData.eqvAll,cY]
 by_cases h:a1=b1<;>by_cases h':a2=b2<;>simp[h,h']
theorem zt {K:PySem.W.Frag}{H H1:Hp}{p:Addr}{ms:List Mv}{vs:List V}{i:Nat}{y:V}(D:Dgs (Lf H H1 p) (SqT K H1) (ms.map dMv) vs)(hy:vs[i]? = some y):
  ∃ m ad p1 b,ms[i]? = some m/\y = .ref ad/\SqT K H1 ad [.ref p1,.ref b]/\Da K H1 (dM m.1) (.ref p1)/\H1 b=some (.lst (m.2.map V.int))/\H b=none/\b≠p:=by
 obtain⟨d,e1,hd⟩:=Dgs.get D hy
 rw[aj]at e1
 cases q:ms[i]? with
 |none=>rw[q]at e1;cases e1
 |some m=>
  rw[q]at e1
  cases e1
  unfold dMv at hd
  obtain⟨ad,us,rfl,ht,q⟩:=gR.mp hd
  obtain⟨v1,r,rfl,h1,q⟩:=gm.mp q
  obtain⟨v2,r,rfl,h2,q⟩:=gm.mp q
  cases gS.mp q
  have h1':Da K H1 (dM m.1) v1:=Dg.mono (λa us h=>SqL.of h.1) (λ_ _ h=>h) h1
  obtain⟨p1,_,rfl,_,_⟩:=gR.mp h1
  unfold dI at h2
  obtain⟨b,zs,rfl,⟨l1,l2,l3⟩,hz⟩:=ia.mp h2
  rw[nJ.mp hz]at l1
  exact⟨m,ad,p1,b,rfl,rfl,ht,h1',l1,l2,l3⟩
def dLI (xss:List (List Int)):PyData:=.list (xss.map dI)
theorem sg (xss:List (List Int)):OkD (dLI xss):=by
 refine⟨?_,?_⟩
 ·simp only[dLI,PyData.canLay0]
  refine mF _ λd hd=>?_
  obtain⟨m,hm,rfl⟩:=ao.mp hd
  exact(jE m).1
 ·simp only[dLI,PyData.depth]
  have:=gL (f:=dI) (k:=1) (λm=>by
   simp only[dI,PyData.depth]
   have:=gL (f:=PyData.int) (k:=0) (λ_=>by simp[PyData.depth]) m
   omega) xss
  omega
def dR (run:List (Str×Int)):PyData:=.list (run.map dM)
theorem A0 {K:PySem.W.Frag}{H:Hp}{run:List (Str×Int)}{vs:List V}{i:Nat}{y:V}(h:Das K H (run.map dM) vs)(e:vs[i]? = some y):∃ k,run[i]? = some k/\Da K H (dM k) y:=by
 obtain⟨d,e1,hd⟩:=Dgs.get h e
 rw[aj]at e1
 cases q:run[i]? with
 |none=>rw[q]at e1;cases e1
 |some k=>rw[q]at e1;cases e1;exact⟨k,rfl,hd⟩
theorem Kf {run:List (Str×Int)}(h:∀ k∈run,PyData.strOk k.1=true):OkD (dR run):=by
 refine⟨?_,?_⟩
 ·simp only[dR,PyData.canLay0]
  refine mF _ λd hd=>?_
  obtain⟨m,hm,rfl⟩:=ao.mp hd
  exact(EA (h m hm)).1
 ·simp only[dR,PyData.depth]
  have:=gL (f:=dM) (k:=1) (λm=>by simp[dM,PyData.depth,PyData.depthAll]) run
  omega
structure rL (K:PySem.W.Frag)(H:Hp)(q:Addr)(run:List (Str×Int)):Prop where
 ex:∃ vs,H q=some (.lst vs)/\Das K (hid q H) (run.map dM) vs
 ok:∀ k∈run,PyData.strOk k.1=true
theorem rL.same {K:PySem.W.Frag}{H H':Hp}{q:Addr}{run:List (Str×Int)}(r:rL K H q run)(s:fI H H'):rL K H' q run:=by
 obtain⟨⟨vs,h1,h2⟩,h3⟩:=r
 exact⟨⟨vs,s _ _ h1,Das.same (nI s) h2⟩,h3⟩
abbrev Ma:=Mv×Addr×Addr
def Jq (K:PySem.W.Frag)(H H1:Hp)(p:Addr)(x:Ma):Prop:=(∃ p1,SqT K H1 x.2.1 [.ref p1,.ref x.2.2]/\Da K H1 (dM x.1.1) (.ref p1))/\H1 x.2.2=some (.lst (x.1.2.map V.int))/\H x.2.2=none/\x.2.2≠p
theorem ES {K:PySem.W.Frag}{H H1:Hp}{p:Addr}{ms:List Mv}{vs:List V}(D:Dgs (Lf H H1 p) (SqT K H1) (ms.map dMv) vs):
  ∃ bs:List Ma,bs.map (·.1)=ms/\vs=bs.map (λx=>V.ref x.2.1)/\∀ x∈bs,Jq K H H1 p x:=by
 have hl:vs.length=ms.length:=by have:=D.length;rw[aa]at this;exact this
 have ex:∀ i:Nat,∃ x:Ma,∀ y,vs[i]? = some y->ms[i]? = some x.1/\y = .ref x.2.1/\Jq K H H1 p x:=λi=>by
  cases q:vs[i]? with
  |none=>exact⟨(((Str.ofString "",0),[]),0,0),λy e=>nomatch e⟩
  |some y=>
   obtain⟨m,ad,p1,b,h1,h2,h3,h4,h5,h6,h7⟩:=zt D q
   exact⟨(m,ad,b),λy' e=>by cases e;exact⟨h1,h2,⟨p1,h3,h4⟩,h5,h6,h7⟩⟩
 let g:Nat->Ma:=λi=>Classical.choose (ex i)
 have hg:∀ i y,vs[i]? = some y->ms[i]? = some (g i).1/\y = .ref (g i).2.1/\Jq K H H1 p (g i):=λi=>Classical.choose_spec (ex i)
 refine⟨(List.range vs.length).map g,ed λi=>?_,ed λi=>?_,λx hx=>?_⟩
 ·by_cases hi:i<vs.length
  ·rw[aj,aj,eY hi]
   exact((hg i _ (ah hi)).1).symm
  ·rw[bq (by simp;omega),bq (by omega)]
 ·by_cases hi:i<vs.length
  ·rw[aj,aj,eY hi,ah hi]
   exact bL some (hg i _ (ah hi)).2.1
  ·rw[bq (by omega),bq (by simp;omega)]
 ·obtain⟨i,hi,rfl⟩:=ao.mp hx
  have hi:i<vs.length:=by simpa using hi
  exact(hg i _ (ah hi)).2.2
theorem Gy {l:Ln}(ok:gv l)(ns:List Int):(mvs l ns).length<=120:=by
 unfold mvs
 rw[ak,aa,aa]
 have h1:(TL.fr l ns (oth (ns.getLastD 0))).length<=60:=vC ok ns (oth (ns.getLastD 0))
 have h2:(TL.fr l ns (ns.headD 0)).length<=60:=vC ok ns (ns.headD 0)
 omega
theorem xO {K:PySem.W.Frag}{H:Hp} :∀ {as:List Addr}{ts:List (List Int)},as.length=ts.length->(∀ (i:Nat) b t,as[i]? = some b->ts[i]? = some t->H b=some (.lst (t.map V.int)))->Das K H (ts.map dI) (as.map V.ref)
 |[],[],_,_=>gS.mpr rfl
 |a::as,t::ts,hl,h=>gm.mpr ⟨_,_,rfl,iu (h 0 a t rfl rfl),xO (by simpa using hl) λi b t' h1 h2=>h (i+1) b t' h1 h2⟩
theorem jm.snoc {l:Int×List (Int×Int)}{ns:List Int}{x:Int}(ok:gv l)(T:jm l ns)(hne:ns≠ [])(hx:x∈fr l ns (oth (ns.getLastD 0))):jm l (ns ++ [x]):=by
 obtain⟨h1,h2⟩:=bW.mp hx
 have h2:¬x/2∈ns.map (· / 2):=by simpa using h2
 refine⟨λe he=>?_,?_,λi a b ha hb=>?_⟩
 ·rcases aF.mp he with z |z
  ·exact T.ends e z
  ·have z:e=x:=by simpa using z
   rw[z];exact vf ok h1
 ·rw[aB,bQ]
  refine⟨T.nd,by simp,λa ha b hb=>?_⟩
  have hb:b=x/2:=by simpa using hb
  intro z
  exact h2 (by rw[<-hb,<-z];exact ha)
 ·by_cases hi:i+1<ns.length
  ·rw[aq hi]at hb
   rw[aq (by omega)]at ha
   exact T.ch i a b ha hb
  ·have hlt:i+1<(ns ++ [x]).length:=(af.mp hb).1
   rw[ak,aI]at hlt
   have e1:i+1=ns.length:=by omega
   rw[e1,az (au _),bu]at hb
   cases hb
   rw[aq (by omega)]at ha
   have e2:ns.getLastD 0=a:=by
    rw[fi,List.getLast?_eq_getElem?]
    have:ns.length-1=i:=by omega
    rw[this,ha];rfl
   rw[e2]at h1
   exact h1
theorem zR {K:PySem.W.Frag}{H:Hp}{k:Str×Int}{v:V}(h:Da K H (dM k) v):∃ a,v = .ref a/\SqT K H a [.str k.1,.int k.2]:=by
 unfold dM at h
 obtain⟨a,vs,rfl,ht,q⟩:=gR.mp h
 obtain⟨v1,r,rfl,h1,q⟩:=gm.mp q
 obtain⟨v2,r,rfl,h2,q⟩:=gm.mp q
 cases gS.mp q
 cases lH.mp h1
 cases iC.mp h2
 exact⟨a,rfl,ht⟩
theorem Fx {K:PySem.W.Frag}{H:Hp}{k:Str×Int}{a:Addr}(h:SqT K H a [.str k.1,.int k.2]):Da K H (dM k) (.ref a):=gR.mpr ⟨a,_,rfl,h,Dgs.two (lH.mpr rfl) (iC.mpr rfl)⟩
abbrev SF (cs:List Ma):List Mv:=cs.map (·.1)
theorem pX {l:Ln}(ok:gv l){ns:List Int}{m:Mv}(hm:m∈mvs l ns):(m.1.1=Str.ofString "on" \/m.1.1=Str.ofString "back")/\0<=m.1.2/\m.1.2<2*l.1:=by
 rcases aF.mp hm with z |z
 ·obtain⟨e,he,h⟩:=ao.mp z
  rw[<-h]
  exact⟨.inl rfl,vf ok (yk he).1⟩
 ·obtain⟨e,he,h⟩:=ao.mp z
  rw[<-h]
  exact⟨.inr rfl,vf ok (yk he).1⟩
end TL
namespace TL
open PySem TS
section
variable {prog:Program}{w:World}{A:Around}{E:Value->Shared->Prop}{s:Shared}
end
open PyProof.Rows PySem.W
section
variable {prog:Program}{w:World}{A:Around}{E:Value->Shared->Prop}{s:Shared}{it a:Addr}{o:Obj}{es:Array (Int×Value)}{ep:Nat}{t:SetTable}{hs:List Int}{i j:Nat}
end
section
variable {prog:Program}{w:World}{A:Around}{E:Value->Shared->Prop}{s:Shared}{a:Addr}{ep:Nat}{xs:List (Int×Tok)}
end
end TL
namespace TL
open PySem PySem.Spec PyProof.Rows L2 TS
section
variable {X:Cx}{pins:List (Addr×Obj)}{σ:St}{H:Hp}{s:Shared}
end
section
variable {X:Cx}{o e:Expr}{es:List Expr}{to:TE}{t:TA}{name:Str}{apos kE:Pos}{id:String}{r:V->List V->Hp->VK->Prop}
end
end TL
namespace L2
open PySem PySem.Spec PyProof.Rows
section
variable {P:Program}{w:World}{K:PySem.W.Frag}{mg:Str->Option Value}{base:Heap}
end
end L2
namespace TL
open PySem PySem.Spec PyProof.Rows L2 TS
section
variable {X:Cx}
end
end TL
namespace TL
open PySem L2 PyProof.Rows
open PySem.Spec TS
def kyI (t:List Int):List Key:=t.map Sum.inl
theorem ip (t:List Int):(kyI t).map kV=t.map V.int:=by
 unfold kyI;rw[bz];rfl
theorem om {a b:List Int}(h:kyI a=kyI b):a=b:=by
 unfold kyI at h
 induction a generalizing b with
 |nil=>cases b with |nil=>rfl |cons y r=>cases h
 |cons x r ih=>
  cases b with
  |nil=>cases h
  |cons y s=>
   rw[bg,bg,List.cons.injEq]at h
   rw[Sum.inl.inj h.1,ih h.2]
theorem EB {ss:List (List Int)} :(ss.map kyI).Nodup↔ss.Nodup:=by
 unfold List.Nodup
 rw[cM]
 exact⟨λh=>h.imp λn e=>n (by rw[e]),λh=>h.imp λn e=>n (om e)⟩
abbrev Rows:=List (List Int×Int)
def xB (l:Ln)(tr s:List Int):Prop:=s.length=tr.length/\s≠ []/\jm l s
def tj (l:Ln)(tr:List Int)(ss:List (List Int)):Prop:=ss.Nodup/\∀ s∈ss,xB l tr s
def iz (rows:Rows)(s:List Int):Option Int:=(rows.find? λr=>decide (r.1=s)).map (·.2)
def JV (l:Ln)(rows:Rows)(r:List Int×Int):Prop:=∀ m∈mvs l r.1,∃ n,iz rows m.2=some n/\n<=r.2+1
def Lv (l:Ln)(tr:List Int)(rows:Rows):Prop:=tj l tr (rows.map (·.1))/\iz rows tr=some 0/\∀ r∈rows,JV l rows r
def kvR (rows:Rows):List (List Key×V):=rows.map λr=>(kyI r.1,V.int r.2)
theorem tN (rows:Rows)(s:List Int):jK (kvR rows) (kyI s)=(iz rows s).map V.int:=by
 unfold jK iz kvR
 rw[List.find?_map,Option.map_map,Option.map_map]
 have:((λkv:List Key×V=>decide (kv.1=kyI s)) ∘ λr:List Int×Int=>(kyI r.1,V.int r.2)) = λr=>decide (r.1=s):=by
  funext r
  show decide (kyI r.1=kyI s)=decide (r.1=s)
  by_cases h:r.1=s
  ·rw[bA h,bA (by rw[h])]
  ·rw[aU h,aU λz=>h (om z)]
 rw[this]
 rfl
theorem nG {rows:Rows}(nd:(rows.map (·.1)).Nodup){r:List Int×Int}(h:r∈rows):iz rows r.1=some r.2:=by
 unfold iz
 induction rows with
 |nil=>cases h
 |cons q qs ih=>
  rw[bg,bB]at nd
  by_cases e:q.1=r.1
  ·rw[cE (by simpa using e)]
   rcases aG.mp h with z |z
   ·rw[z];rfl
   ·exact absurd (ao.mpr ⟨r,z,e.symm⟩) nd.1
  ·rw[ck (by simpa using e)]
   rcases aG.mp h with z |z
   ·exact absurd (by rw[z]) e
   ·exact ih nd.2 z
theorem ka {rows:Rows}{s:List Int}{n:Int}(h:iz rows s=some n):(s,n)∈rows:=by
 unfold iz at h
 cases q:rows.find? λr=>decide (r.1=s)with
 |none=>rw[q]at h;cases h
 |some r=>
  rw[q]at h
  have h1:=fh q
  have h2:r.1=s:=by simpa using List.find?_some q
  have h3:r.2=n:=by simpa using h
  rw[<-h2,<-h3];exact h1
theorem uY {rows:Rows}{s:List Int}(h:iz rows s=none):s∉rows.map (·.1):=λz=>by
 obtain⟨r,hr,e⟩:=ao.mp z
 unfold iz at h
 rw[Option.map_eq_none_iff,List.find?_eq_none]at h
 exact h r hr (by simpa using e)
theorem IC {ks:List (List Key)}{ss:List (List Int)}(nd:ks.Nodup)(h:∀ k,k∈ks↔k∈ss.map kyI):ks.length<ss.length↔¬ss.Nodup:=by
 rw[<-EB,show ss.length=(ss.map kyI).length by rw[aa]]
 constructor
 ·intro hl nd2
  have:=t6 nd2 λx hx=>(h x).mpr hx
  omega
 ·intro hn
  by_cases hl:ks.length<(ss.map kyI).length
  ·exact hl
  ·exact absurd (xY nd (λx hx=>(h x).mp hx) (by omega)) hn
theorem Hj {K:PySem.W.Frag}{H:Hp}{ss:List (List Int)}{vs:List V}{i:Nat}{y:V}(D:Das K H (ss.map dI) vs)(h:vs[i]? = some y):∃ (s:List Int) (ad:Addr),ss[i]? = some s/\y = .ref ad/\SqL K H ad (s.map V.int):=by
 obtain⟨d,e1,hd⟩:=Dgs.get D h
 rw[aj]at e1
 cases q:ss[i]? with
 |none=>rw[q]at e1;cases e1
 |some s=>
  rw[q]at e1
  cases e1
  obtain⟨a,rfl,ha⟩:=ij.mp hd
  exact⟨s,a,rfl,rfl,ha⟩
theorem IM {A:Around}{k:Nat}(hr:mL k A):A.units<cLine:=bY (dy _ _) hr.units
theorem vH:∀ (a b:List Int),PyData.eqvAll (a.map PyData.int) (b.map PyData.int)=decide (a=b)
 |[],[]=>by simp[PyData.eqvAll]
 |[],y::b=>by simp[PyData.eqvAll]
 |x::a,[]=>by simp[PyData.eqvAll]
 |x::a,y::b=>by
  rw[bg,bg,PyData.eqvAll,vH a b,bJ]
  simp[PyData.eqv]
theorem Hs (a b:List Int):PyData.eqv (dI a) (dI b)=decide (a=b):=by
 unfold dI
 rw[PyData.eqv,vH]
theorem FJ (ss:List (List Int))(t:List Int):((ss.map dI).any λz=>PyData.eqv z (dI t))=decide (t∈ss):=by
 rw[List.any_map,bJ,eI,cq]
 constructor
 ·rintro⟨y,hy,e⟩
  have e:PyData.eqv (dI y) (dI t)=true:=e
  rw[Hs,cq]at e
  exact e ▸ hy
 ·exact λh=>⟨t,h,by show PyData.eqv (dI t) (dI t)=true;rw[Hs];exact bA rfl⟩
theorem BF (ss:List (List Int)):FO (ss.map dI):=by
 have h:=sg ss
 unfold dLI at h
 refine⟨by have:=h.1;rwa [PyData.canLay0]at this,?_⟩
 have:=h.2
 rw[PyData.depth]at this
 omega
def He (l:Ln)(tr:List Int)(ss:List (List Int)):Prop:=ss.Nodup/\tr∈ss/\∀ s∈ss,xB l tr s/\∀ m∈mvs l s,m.2∈ss
def HV (l:Ln)(tr:List Int)(rows:Rows):Prop:=∀ r∈rows,(r.1=tr->r.2=0)/\∀ q∈rows,q.1∈(mvs l r.1).map (·.2)->q.2<=r.2+1
theorem FI {l:Ln}{tr:List Int}{rows:Rows} :Lv l tr rows↔He l tr (rows.map (·.1))/\HV l tr rows:=by
 constructor
 ·rintro⟨⟨nd,st⟩,h0,h1⟩
  refine⟨⟨nd,ao.mpr ⟨_,ka h0,rfl⟩,λs hs=>⟨st s hs,λm hm=>?_⟩⟩,λr hr=>⟨λe=>?_,λq hq hm=>?_⟩⟩
  ·obtain⟨r,hr,rfl⟩:=ao.mp hs
   obtain⟨n,hn,_⟩:=h1 r hr m hm
   exact ao.mpr ⟨_,ka hn,rfl⟩
  ·have:=nG nd hr
   rw[e,h0]at this
   exact(aP this).symm
  ·obtain⟨m,hm1,hm2⟩:=ao.mp hm
   obtain⟨n,hn,hle⟩:=h1 r hr m hm1
   have:=nG nd hq
   rw[<-hm2,hn]at this
   cases this
   exact hle
 ·rintro⟨⟨nd,ht,st⟩,h1⟩
  obtain⟨r,hr,e⟩:=ao.mp ht
  refine⟨⟨nd,λs hs=>(st s hs).1⟩,?_,λr hr m hm=>?_⟩
  ·have:=nG nd hr
   rw[(h1 r hr).1 e,show r.1=tr from e]at this
   exact this
  ·obtain⟨q,hq,e⟩:=ao.mp ((st r.1 (ao.mpr ⟨r,hr,rfl⟩)).2 m hm)
   have e:q.1=m.2:=e
   exact⟨q.2,by rw[<-e];exact nG nd hq,(h1 r hr).2 q hq (ao.mpr ⟨m,hm,e.symm⟩)⟩
end TL
namespace TL
open PySem L2 PyProof.Rows
def swp (p:Int×Int):Int×Int:=(p.2,p.1)
def both (js:List (Int×Int)):List (Int×Int):=js++js.map swp
open PySem.Spec TS
def Pw {α:Type}(R:α->V->Prop):List α->List V->Prop
 |[],[]=>True
 |d::ds,v::vs=>R d v/\Pw R ds vs
 |_,_=>False
theorem Pw.len {α:Type}{R:α->V->Prop} :∀ {ds:List α}{vs:List V},Pw R ds vs->vs.length=ds.length
 |[],[],_=>rfl
 |d::ds,v::vs,h=>by rw[aR,aR,Pw.len h.2]
theorem Pw.imp {α:Type}{R S:α->V->Prop}(f:∀ d v,R d v->S d v):∀ {ds:List α}{vs:List V},Pw R ds vs->Pw S ds vs
 |[],[],_=>trivial
 |d::ds,v::vs,h=>⟨f _ _ h.1,Pw.imp f h.2⟩
theorem Pw.app {α:Type}{R:α->V->Prop} :∀ {ds es:List α}{vs us:List V},Pw R ds vs->Pw R es us->Pw R (ds++es) (vs++us)
 |[],_,[],_,_,h=>h
 |d::ds,_,v::vs,_,h,h2=>⟨h.1,Pw.app h.2 h2⟩
theorem Pw.one {α:Type}{R:α->V->Prop}{d:α}{v:V}(h:R d v):Pw R [d] [v]:=⟨h,trivial⟩
theorem Pw.get {α:Type}{R:α->V->Prop}{ds:List α} :∀ {vs:List V}{i:Nat}{v:V},Pw R ds vs->vs[i]? = some v->∃ d,ds[i]? = some d/\R d v:=by
 induction ds with
 |nil=>
  intro vs i v h e
  cases vs with
  |nil=>simp at e
  |cons a b=>exact h.elim
 |cons d ds ih=>
  intro vs i v h e
  cases vs with
  |nil=>exact h.elim
  |cons a b=>
   cases i with
   |zero=>cases e;exact⟨d,rfl,h.1⟩
   |succ i=>exact ih (i:=i) h.2 e
theorem Pw.das {α:Type}{K:PySem.W.Frag}{H:Hp}{R:α->V->Prop}{d':α->PyData}(f:∀ d v,R d v->Da K H (d' d) v):∀ {ds:List α}{vs:List V},Pw R ds vs->Das K H (ds.map d') vs
 |[],[],_=>gS.mpr rfl
 |_::_,_::_,h=>gm.mpr ⟨_,_,rfl,f _ _ h.1,Pw.das f h.2⟩
section
variable {K:PySem.W.Frag}{l:Addr}{g:TG}{tt:TT}{te:TE}{cap:List (Option Nat)}{σ:St}{Q:VK}{H1:Hp}{J:It}
theorem EW {α:Type}(n:Nat)(ds:List α)(Φ:Hp->α->V->Prop)(mono:∀ {H H':Hp} d v,fI H H'->Φ H d v->Φ H' d v)(hn:H1 l=none)(hlen:n=ds.length)(hz:n<sizeLine)(go:∀ i H,fI H1 H->i<n->J.go i H)(st:∀ H,fI H1 H->J.stop n H)
  (hs:∀ i x d H H',fI H1 H->(∃ us,H l=some (.lst us))->J.yld i H x H'->ds[i]? = some d->∀ (P1:VK) (P0:Hp->Prop),(∀ v H2,fI H H2->Φ (hid l H2) d v->P1 v H2)->
   g x (iG cap σ) H' λσ2 H2=>tt σ2 H2 λb H3=>if b=true then te σ2 H3 P1 else P0 H3)
  (hq:∀ vs H',fI H1 H'->H' l=some (.lst vs)->Pw (Φ (hid l H')) ds vs->Q (.ref l) H'):LcW J g tt te cap σ Q l H1:=by
 refine vc n (λi acc H=>Pw (Φ (hid l H)) (ds.take i) acc/\fI H1 H/\H l=some (.lst acc)) ⟨trivial,fB hn,fC⟩ (λi acc H hi ⟨_,s,_⟩=>go i H s hi) (λacc H ⟨_,s,_⟩=>st H s) ?_ ?_
 ·rintro i x acc H H' hi ⟨e1,s,hl⟩ y
  have hd:ds[i]? = some (ds[i]'(by omega)):=by simp
  generalize ds[i]'(by omega)=d at hd
  refine hs i x d H H' s ⟨_,hl⟩ y hd _ _ (λv H2 s2 dv=>?_)
  have la:=Pw.len e1
  rw[aT]at la
  refine⟨s2 _ _ hl,by omega,?_,fI.upd (s.trans s2) hn,fC⟩
  rw[pY,bh,hd]
  exact Pw.app (Pw.imp (λd v=>mono d v (nI s2)) e1) (Pw.one dv)
 ·rintro acc H ⟨e1,s,hl⟩
  rw[cg (by omega)]at e1
  exact hq acc H s hl e1
end
theorem Cw {l:Ln}{ns:List Int}(ok:gv l)(T:jm l ns):jm l (ns.reverse.map oth):=by
 refine⟨λe he=>?_,?_,λi x y hx hy=>?_⟩
 ·obtain⟨z,hz,rfl⟩:=ao.mp he
  have:=T.ends z (List.mem_reverse.mp hz)
  unfold oth;omega
 ·rw[bz,show((λx:Int=>x/2) ∘ oth)=(λx:Int=>x/2) from funext λe=>by show oth e/2=e/2;unfold oth;omega,fx]
  exact(List.reverse_perm _).nodup_iff.mpr T.nd
 ·rw[aj]at hx hy
  have hi:i+1<ns.length:=by
   by_cases z:i+1<ns.length
   ·exact z
   ·rw[bq (by rw[cB];omega)]at hy;cases hy
  rw[List.getElem?_reverse (by omega)]at hx
  rw[List.getElem?_reverse (by omega)]at hy
  cases q1:ns[ns.length-1-i]? with
  |none=>rw[q1]at hx;cases hx
  |some a=>
   cases q2:ns[ns.length-1-(i+1)]? with
   |none=>rw[q2]at hy;cases hy
   |some b=>
    rw[q1]at hx;rw[q2]at hy
    cases hx;cases hy
    have:=T.ch (ns.length-1-(i+1)) b a q2 (by rw[show ns.length-1-(i+1)+1=ns.length-1-i by omega];exact q1)
    rw[tL]
    exact BV ok this
end TL
namespace TL
open PySem PySem.Spec PyProof.Rows L2
section
variable {J:It}{l:Addr}{g:TG}{tt:TT}{te:TE}{cap:List (Option Nat)}{σ:L2.St}{Q:VK}{H1:Hp}
end
section
variable {D:Ends}{σ:L2.St}{H:Hp}
theorem nm {t R:TS}(h:∀ r:TS,(∀ D σ H,R D σ H->r D σ H)->lz t r D σ H):lz t R D σ H:=h R λ_ _ _ z=>z
theorem nm2 {t1 t2 R:TS}(h:∀ r:TS,(∀ D σ H,R D σ H->r D σ H)->lz t1 (lz t2 r) D σ H):lz t1 (lz t2 R) D σ H:=h R λ_ _ _ z=>z
theorem nm3 {t1 t2 t3 R:TS}(h:∀ r:TS,(∀ D σ H,R D σ H->r D σ H)->lz t1 (lz t2 (lz t3 r)) D σ H):lz t1 (lz t2 (lz t3 R)) D σ H:=h R λ_ _ _ z=>z
theorem nm5 {t1 t2 t3 t4 t5 R:TS}(h:∀ r:TS,(∀ D σ H,R D σ H->r D σ H)->lz t1 (lz t2 (lz t3 (lz t4 (lz t5 r)))) D σ H):lz t1 (lz t2 (lz t3 (lz t4 (lz t5 R)))) D σ H:=h R λ_ _ _ z=>z
theorem cut {t u:TS}(J:L2.St->Hp->Prop)(first:∀ (N:L2.St->Hp->Prop) (R:VK) (B C:L2.St->Hp->Prop),(∀ σ' H',J σ' H'->N σ' H')->(∀ v H',D.rt v H'->R v H')->t ⟨N,R,B,C⟩ σ H)(rest:∀ σ' H',J σ' H'->u D σ' H'):lz t u D σ H:=
 first (u D) D.rt D.bk D.ct rest λ_ _ z=>z
theorem iW {K:PySem.W.Frag}{a:Addr}{xs:List V}{g:TG}{tb:TS}(Pv:Nat->L2.St->Hp->Prop)(h0:Pv 0 σ H)(hl:∀ i σ H,i<=xs.length->Pv i σ H->SqL K H a xs)
  (hs:∀ i x σ H (N:L2.St->Hp->Prop) (R:VK) (B:L2.St->Hp->Prop),(∀ σ' H',Pv (i+1) σ' H'->N σ' H')->(∀ v H',D.rt v H'->R v H')->xs[i]? = some x->Pv i σ H->g x σ H λσ2 H2=>tb ⟨N,R,B,N⟩ σ2 H2) (hd:∀ σ H,Pv xs.length σ H->D.nx σ H):
  ∃ W:Nat->Nat->L2.St->Hp->Prop,(∃ m,W 0 m σ H)/\∀ i m σ H,W i m σ H->
   ((Itl K a).stop i H/\D.nx σ H)\/((Itl K a).go i H/\∃ N:L2.St->Hp->Prop,(∀ σ' H',N σ' H'->∃ m',m'<m/\W (i+1) m' σ' H')/\∀ x H',(Itl K a).yld i H x H'->g x σ H' λσ2 H2=>tb {D with nx:=N,ct:=N,bk:=D.nx} σ2 H2):=
 oX Pv h0 hl (λi x σ H hx p=>hs i x σ H _ _ _ (λ_ _ z=>z) (λ_ _ z=>z) hx p) hd
theorem vD {lo:Int}{n:Nat}{g:TG}{tb:TS}(Pv:Nat->L2.St->Hp->Prop)(h0:Pv 0 σ H)
  (hs:∀ i σ H (N:L2.St->Hp->Prop) (R:VK) (B:L2.St->Hp->Prop),(∀ σ' H',Pv (i+1) σ' H'->N σ' H')->(∀ v H',D.rt v H'->R v H')->i<n->Pv i σ H->g (.int (lo+i)) σ H λσ2 H2=>tb ⟨N,R,B,N⟩ σ2 H2) (hd:∀ σ H,Pv n σ H->D.nx σ H):
  ∃ W:Nat->Nat->L2.St->Hp->Prop,(∃ m,W 0 m σ H)/\∀ i m σ H,W i m σ H->
   ((Itr lo n).stop i H/\D.nx σ H)\/((Itr lo n).go i H/\∃ N:L2.St->Hp->Prop,(∀ σ' H',N σ' H'->∃ m',m'<m/\W (i+1) m' σ' H')/\∀ x H',(Itr lo n).yld i H x H'->g x σ H' λσ2 H2=>tb {D with nx:=N,ct:=N,bk:=D.nx} σ2 H2):=
 p7 Pv h0 (λi σ H hx p=>hs i σ H _ _ _ (λ_ _ z=>z) (λ_ _ z=>z) hx p) hd
theorem Dt {K:PySem.W.Frag}{a:Addr}{xs:List V}{g:TG}{tb:TS}(Pv:Nat->L2.St->Hp->Prop)(h0:Pv 0 σ H)(hl:∀ i σ H,i<=xs.length->Pv i σ H->SqL K H a xs)
  (hs:∀ i x σ H p (N:L2.St->Hp->Prop) (R:VK) (B:L2.St->Hp->Prop),(∀ σ' H',Pv (i+1) σ' H'->N σ' H')->(∀ v H',D.rt v H'->R v H')->xs[i]? = some x->Pv i σ H->H p=none->g (.ref p) σ (upd H p (.tup [.int i,x])) λσ2 H2=>tb ⟨N,R,B,N⟩ σ2 H2) (hd:∀ σ H,Pv xs.length σ H->D.nx σ H):
  ∃ W:Nat->Nat->L2.St->Hp->Prop,(∃ m,W 0 m σ H)/\∀ i m σ H,W i m σ H->
   ((Ite K a).stop i H/\D.nx σ H)\/((Ite K a).go i H/\∃ N:L2.St->Hp->Prop,(∀ σ' H',N σ' H'->∃ m',m'<m/\W (i+1) m' σ' H')/\∀ x H',(Ite K a).yld i H x H'->g x σ H' λσ2 H2=>tb {D with nx:=N,ct:=N,bk:=D.nx} σ2 H2):=
 Fm Pv h0 hl (λi x σ H p hx q np=>hs i x σ H p _ _ _ (λ_ _ z=>z) (λ_ _ z=>z) hx q np) hd
theorem pG {c:TT}{tb:TS}(Pv:L2.St->Hp->Prop)(μ:L2.St->Hp->Nat)(h0:Pv σ H)
  (hs:∀ σ H (N:L2.St->Hp->Prop) (R:VK) (B:L2.St->Hp->Prop),(∀ σ' H',Pv σ' H'->μ σ' H'<μ σ H->N σ' H')->(∀ v H',D.rt v H'->R v H')->(∀ σ' H',D.nx σ' H'->B σ' H')->Pv σ H->c σ H λb H1=>if b=true then tb ⟨N,R,B,N⟩ σ H1 else B σ H1)
  (mono:∀ σ H Q Q',(∀ b H1,Q b H1->Q' b H1)->c σ H Q->c σ H Q'):tY c tb D σ H:=
 DO Pv μ h0 (λσ H p=>hs σ H _ _ _ (λ_ _ a b=>⟨a,b⟩) (λ_ _ z=>z) (λ_ _ z=>z) p) mono
end
section
variable {prog:Program}{w:World}{A:Around}{E:Value->Shared->Prop}{s:Shared}{d it vw:Addr}{o:Obj}{es:Array DictEntry}{ep i:Nat}{ok ov:Value}
theorem Aq {Q:Value->Shared->Prop}(hn:(d==sysModules)=false)(ho:s.heap.get? d=some o)(hx:o.ExactDict)
  (hQ:Q (.ref s.heap.objs.size) {s with heap:=s.heap.push {cls:=.type "dict_items",data:=.fields #[.ref d]}}):wpAny (model prog w) A (call (.builtin "dict.items") [.ref d]) Q E s:=by
 have hT:=nv ho hx
 refine bR F.slot_dict_items hT F.entry_dict_items ?_ (F.args_dict_items_1 _)
 unfold Builtin.«dict.items»
 refine ae ?_
 unfold Builtin.Dict.noArgs
 refine ae (wpAny_notOrdered_dict hT (ai ?_))
 show wpAny _ _ (Builtin.Dict.showsAll d >>= _) _ _ s
 unfold Builtin.Dict.showsAll
 rw[aE (by rw[hn];exact aD)]
 exact ae (ai (ae (bX (ai ⟨_,rfl,hQ⟩))))
theorem CJ {Q:Value->Shared->Prop}(hv:s.heap.IsItemsView vw d)(ho:s.heap.get? d=some o)(hd:o.data = .dict es ep)
  (hQ:Q (.ref s.heap.objs.size) {s with heap:=s.heap.push {cls:=.type "dict_itemiterator",data:=.fields #[.none,.bool false,.ref d,.int 0 0,.int es.size 0,.int ep 0,.none,.none]}}):wpAny (model prog w) A (pyIter (.ref vw)) Q E s:=by
 obtain⟨ov,hov,hcv,hdv⟩:=id hv
 have hT:=hv.typeIs
 refine wpAny_pyIter_slot hT F.slot_dict_items_iter (bR F.slot_dict_items_iter hT F.entry_dict_items_iter ?_ (F.args_dict_items_iter_1 _))
 unfold Builtin.«dict_items.__iter__»
 refine ae (ai (ae ?_))
 unfold Builtin.Dict_items.dictOf
 refine ae (wpAny_field hov hdv (x:=.ref d) rfl (ai (ae ?_)))
 unfold Builtin.Dict_items.newIterator
 refine ae (dB ho hd (ae (eu ho hd ?_)))
 have yh:Builtin.Dict_items.ownsTuple "dict_itemiterator" = true:=by decide
 simp only[yh,cP]
 refine bX (ai ⟨_,rfl,"dict_itemiterator",_,⟨_,aQ _ rfl,rfl⟩,cC.lookup,?_⟩)
  (by simp only[sizeOk,Builtin.Dict_items.ownedTupleFields,aM,ak,aR,eU,cJ];omega)
 simpa [rawInt,Builtin.Dict_items.ownedTupleFields]using hQ
theorem CH {Q:Option Value->Shared->Prop}{e:DictEntry}(hit:IsItemIter s.heap it d i es.size ep ok ov)(ho:s.heap.get? d=some o)(hd:o.data = .dict es ep)(hx:es[i]? = some e)
  (hQ:∀ h',IsItemIterOut h' it d (i+1) es.size ep e.key e.val s.heap.objs.size->h'.get? s.heap.objs.size=some {cls:=.type "tuple",data:=.seq #[e.key,e.val]} ->
   (∀ b o,b≠it->s.heap.get? b=some o->h'.get? b=some o)->Q (some (.ref s.heap.objs.size)) {s with heap:=h'}):wpAny (model prog w) A (pyNext (.ref it)) Q E s:=by
 obtain⟨hp,g,dr,tk,os⟩:=s
 have hT:Shared.TypeIs ⟨hp,g,dr,tk,os⟩ (.ref it) "dict_itemiterator" :=⟨_,hit,rfl⟩
 unfold pyNext
 refine ae (wpAny_attempt (eB (name:=Str.ofString "__next__") hT cC
  (bR cC hT F.entry_dict_itemiterator_next ?_ (F.args_dict_itemiterator_next_1 _))))
 refine ae (ai (ae (ae ?_)))
 first |refine ae (cX hT (ai ?_))|refine ae (dU hT (ai ?_))
 refine ae (wpAny_fieldsOf hit rfl ?_)
 have yh:Builtin.Dict_items.ownsTuple "dict_itemiterator" = true:=by decide
 simp only[yh,cP]
 show wpAny _ _ (if(Value.ref d==Value.none)=true then _ else _) _ _ _
 rw[aE (show ¬((Value.ref d==Value.none)=true) from aD)]
 refine ae (ai (ae (dB ho hd ?_)))
 rw[aE (by simp)]
 refine ae (ai (ae (eu ho hd ?_)))
 rw[aE (by simp)]
 refine ai ?_
 obtain⟨hlt,he⟩:=bC.mp hx
 simp only[show ¬((i:Int)<0) from by omega,bG,ef,bD hlt]
 rw[he]
 refine ae ?_
 first |refine ae (cX hT (ai ?_))|refine ae (dU hT (ai ?_))
 refine ae (wpAny_isOneOf_itemiter hT ?_)
 show wpAny _ _ (setField (.ref it) 3 (rawInt ((i:Int)+1)) >>= _) _ _ ⟨hp,g,dr,tk,os⟩
 refine ae (ez hit (by simp) λh₁ he₁ hs₁=>?_)
 replace hs₁:Heap.SameBut it hp h₁:=hs₁
 replace he₁:IsItemIter h₁ it d (i+1) es.size ep ok ov:=by
  have e:((i+1:Nat):Int)=(i:Int)+1:=by omega
  unfold IsItemIter;rw[e];simpa [rawInt]using he₁
 have hT₁:Shared.TypeIs ⟨h₁,g,dr,tk,os⟩ (.ref it) "dict_itemiterator" :=⟨_,he₁,rfl⟩
 refine ae (dw ?_)
 refine ae (wpAny_isOneOf_itemiter hT₁ (ae (wpAny_isOneOf_itemiter hT₁ ?_)))
 show wpAny _ _ (Builtin.Dict_items.pairFromOwner (.ref it) 6 e.key e.val) _ _ ⟨h₁,g,dr,tk,os⟩
 unfold Builtin.Dict_items.pairFromOwner
 refine ae (wpAny_newTuple ?_)
 have he₂:IsItemIter (h₁.push {cls:=.type "tuple",data:=.seq #[e.key,e.val]}) it d (i+1) es.size ep ok ov:=ax _ he₁
 generalize hh₂:h₁.push {cls:=.type "tuple",data:=.seq #[e.key,e.val]} = h₂ at he₂
 have hz₁:h₁.objs.size=hp.objs.size:=hs₁.1
 have hil:it<hp.objs.size:=aC hit
 have ht₂:h₂.get? hp.objs.size=some {cls:=.type "tuple",data:=.seq #[e.key,e.val]} :=by rw[<-hh₂,<-hz₁];exact aQ _ rfl
 have hk₂:∀ b o,b≠it->hp.get? b=some o->h₂.get? b=some o:=λb o hb e=>by rw[<-hh₂];exact ax _ (hs₁.extBut b o hb e)
 show wpAny _ _ (Builtin.Dict_items.ownedTupleIsFree (.ref it) >>= _) _ _ ⟨h₂,g,dr,tk,os⟩
 rw[hz₁]
 clear hh₂ he₁ hs₁ hT₁ hz₁ h₁
 refine ae ?_
 unfold Builtin.Dict_items.ownedTupleIsFree
 refine ae (wpAny_field he₂ rfl (x:=.none) rfl (ai ?_))
 simp only[cP]
 refine ae (wpAny_field he₂ rfl (x:=ok) rfl (ae (wpAny_field he₂ rfl (x:=ov) rfl ?_)))
 refine ae (ez he₂ (by simp) λh₃ he₃ hs₃=>?_)
 replace hs₃:Heap.SameBut it h₂ h₃:=hs₃
 replace he₃:IsItemIter h₃ it d (i+1) es.size ep e.key ov:=he₃
 refine ae (ez he₃ (by simp) λh₄ he₄ hs₄=>?_)
 replace hs₄:Heap.SameBut it h₃ h₄:=hs₄
 replace he₄:IsItemIter h₄ it d (i+1) es.size ep e.key e.val:=he₄
 refine ae (ez he₄ (by simp) λh₅ he₅ hs₅=>?_)
 replace hs₅:Heap.SameBut it h₄ h₅:=hs₅
 replace he₅:IsItemIterOut h₅ it d (i+1) es.size ep e.key e.val hp.objs.size:=he₅
 refine ae (ez he₅ (by simp) λh₆ he₆ hs₆=>?_)
 replace hs₆:Heap.SameBut it h₅ h₆:=hs₆
 replace he₆:IsItemIterOut h₆ it d (i+1) es.size ep e.key e.val hp.objs.size:=he₆
 refine ae (wpAny_letGo (ai (ai ⟨_,rfl,ai (hQ h₆ he₆ ?_ ?_)⟩)))
 ·exact hs₆.extBut _ _ (cV hil) (hs₅.extBut _ _ (cV hil) (hs₄.extBut _ _ (cV hil) (hs₃.extBut _ _ (cV hil) ht₂)))
 ·exact λb o hb e=>hs₆.extBut b o hb (hs₅.extBut b o hb (hs₄.extBut b o hb (hs₃.extBut b o hb (hk₂ b o hb e))))
theorem Ee {Q:Option Value->Shared->Prop}(hh:A.handled=none)(hit:IsItemIter s.heap it d i es.size ep ok ov)(ho:s.heap.get? d=some o)(hd:o.data = .dict es ep)(hx:es.size<=i)
  (hQ:∀ h',Heap.ExtBut it s.heap h'->Q none {s with heap:=h'}):wpAny (model prog w) A (pyNext (.ref it)) Q E s:=by
 have hT:s.TypeIs (.ref it) "dict_itemiterator" :=⟨_,hit,rfl⟩
 unfold pyNext
 refine ae (wpAny_attempt (eB (name:=Str.ofString "__next__") hT cC
  (bR cC hT F.entry_dict_itemiterator_next ?_ (F.args_dict_itemiterator_next_1 _))))
 refine ae (ai (ae (ae ?_)))
 first |refine ae (cX hT (ai ?_))|refine ae (dU hT (ai ?_))
 refine ae (wpAny_fieldsOf hit rfl ?_)
 have yh:Builtin.Dict_items.ownsTuple "dict_itemiterator" = true:=by decide
 simp only[yh,cP]
 show wpAny _ _ (if(Value.ref d==Value.none)=true then _ else _) _ _ s
 rw[aE (show ¬((Value.ref d==Value.none)=true) from aD)]
 refine ae (ai (ae (dB ho hd ?_)))
 rw[aE (by simp)]
 refine ae (ai (ae (eu ho hd ?_)))
 rw[aE (by simp)]
 refine ai ?_
 simp only[show ¬((i:Int)<0) from by omega,bG,ef,Array.getElem?_eq_none hx]
 refine ae ?_
 first |refine ae (cX hT (ai ?_))|refine ae (dU hT (ai ?_))
 show wpAny _ _ (setField (.ref it) 2 .none >>= _) _ _ s
 refine ae (wpAny_setField hit rfl (by simp) ?_)
 show wpAny _ _ (newExc (.type "StopIteration") [] >>= _) _ _ _
 refine ae ?_
 simp only[newExc,newTuple]
 refine ae (bX ?_ (by size_fits))
 refine ae (m:=firstArgMember _ _) (wpAny_of_eq (a:=Value.none) (by first |rfl |(simp only[firstArgMember];rfl)) ?_)
 refine bX ?_ (by size_fits)
 simp only[raiseNew]
 refine ae (wpAny_handled ?_)
 rw[show A.in1.handled=none from hh]
 refine ae (ai (wpAny_throw ?_))
 refine ae (eZ (T:= "StopIteration") (b:=true) ⟨_,aQ _ rfl,rfl⟩ isSubtype_stop ?_)
 exact ai (hQ _ (((dX ..).extBut.push _).push _))
end
def Itm (a:Addr)(o:Obj)(kvs:List (List Key×V)):It:=
 ⟨λi H=>H a=some (.frz o (.dT kvs))/\i<kvs.length,λi H x H'=>∃ p b kv,H p=none/\x = .ref p/\kvs[i]? = some kv/\H b=some (.tup (kv.1.map kV))/\H'=upd H p (.tup [.ref b,kv.2]),λi H=>H a=some (.frz o (.dT kvs))/\kvs.length<=i⟩
theorem Aj {P:Program}{w:World}{K:PySem.W.Frag}{els:List Expr}{x1:Nat}{pt:Pos}(a it:Addr)(o:Obj)(kvs:List (List Key×V))(es:Array DictEntry)(ep:Nat)(hd:o.data = .dict es ep)(hl:es.size=kvs.length):
  Turn P w K (.Tuple els x1 pt) (Itm a o kvs) [it] it (λi h=>∃ ok ov,IsItemIter h it a i es.size ep ok ov) where
 mem:=by simp
 obj:=λi h st b hb=>by
  have e:b=it:=by simpa using hb
  subst e
  obtain⟨ok,ov,q⟩:=st
  exact⟨_,q,λv z=>by cases z⟩
 keep:=λi h h' ⟨ok,ov,q⟩ k=>⟨ok,ov,k it (by simp) _ q⟩
 item:=by
  intro X hP hw hK hc i pins s σ H E I hf st hg
  subst hP hw hK
  obtain⟨ok,ov,st⟩:=st
  obtain⟨ha,hi⟩:=hg
  obtain⟨ho,z,hm,xs,r,o',es',ep',e',_,hd',hes,_⟩:=I.hok a _ ha
  rw[ho]at e'
  cases e'
  rw[hd]at hd'
  cases hd'
  have hp:kvs[i]? = some kvs[i]:=by simp[hi]
  obtain⟨q,hq,q1,q2,q3⟩:=pV r hp
  have he:es[i]? = some (entryOfKey (tupleKind (gF X.prog X.w)) q):=by
   rw[<-bH,hes,aj,hq];rfl
  have lt1:it<s.heap.objs.size:=aC st
  refine CH st ho hd he λh' k1 k3 k5=>?_
  refine⟨_,rfl,?_⟩
  refine wpAny_letOwnedTupleGo_items (s:={s with heap:=h'}) k1 λh'' m1 m2=>?_
  have keep:∀ b o,b∉ [it]->s.heap.get? b=some o->h''.get? b=some o:=λb o hb q=>m2.extBut b o (λz=>hb (by simp[z])) (k5 b o (λz=>hb (by simp[z])) q)
  have ht:h''.get? s.heap.objs.size=some {cls:=.type "tuple",data:=.seq [Value.ref q.2.1,q.2.2].toArray} :=m2.extBut _ _ (cV lt1) k3
  have J1:Inv X pins σ (upd H s.heap.objs.size (.tup [.ref q.2.1,(kvs[i]).2])) {s with heap:=h'',toks:=s.toks} :=Inv.rS I hf keep (.cons rfl (.cons q3 .nil)) (by show 2<=sizeLine;decide) ht
  have hn:H s.heap.objs.size=none:=I.fresh
  refine⟨.ref s.heap.objs.size,_,J1,rfl,⟨_,q.2.1,_,hn,rfl,hp,q2,rfl⟩,⟨_,_,m1⟩,λb hb=>?_⟩
  have e:b=it:=by simpa using hb
  subst e
  rw[fG (aL lt1)]
  exact(hf b hb).1
 done:=by
  intro X hP hw hK hc i pins s σ H E I hf st hg
  subst hP hw hK
  obtain⟨ok,ov,st⟩:=st
  obtain⟨ha,hi⟩:=hg
  obtain⟨ho,_⟩:=I.hok a _ ha
  obtain⟨g0,g1,g2,g3,g4,g5⟩:=hf it (by simp)
  exact Ee (I.ok.hd hc) st ho hd (by rw[hl];exact hi) λh' eb=>⟨rfl,I.turned (t':=s.toks) (λb u hb e=>eb b u hb e) g0 g1 g3 g4 g5⟩
 self:=λ_ _ _ _ _ ⟨_,_,st⟩ h=>PySem.W.kcp_self st h
section
variable {X:Cx}
def IL (tl:TE):TI:=λσ H R=>tl σ H λx H1=>∃ a o kvs,x = .ref a/\H1 a=some (.frz o (.dT kvs))/\R (Itm a o kvs) H1
theorem zb {els:List Expr}{x1:Nat}{pt apos kE:Pos}{e:Expr}{tl:TE}(hl:PE X e tl)(zK:attributeBase e "items" X.env (eval e X.env)=eval e X.env:=by rfl)(zG:(apos.endLine==kE.line)=true:=by rfl):
  PI X (.Tuple els x1 pt) (.Call (.Attribute e "items" apos) [] [] kE) (IL tl):=by
 intro pins s σ H R I h
 refine wpAny_Call_method0_late zK zG (thn (hl pins s σ H _ I h) λu s1 ⟨x,H1,I1,r1,a,o,kvs,ex,ha,q⟩=>?_)
 subst ex
 cases(show u=Value.ref a from r1)
 obtain⟨ho,z,hm,xs,r,o',es,ep,e',hxd,hd,hes,_⟩:=I1.hok a _ ha
 rw[ho]at e'
 cases e'
 have hsz:es.size=kvs.length:=by
  have h1:=bL List.length hes
  rw[aW,aa,<-bZ r]at h1
  exact h1
 refine⟨"dict","dict.items",PySem.F.plainAttrs_dict,PySem.F.slot_dict_items,PySem.F.type_dict_items,nv ho hxd,λb eb=>by cases eb;exact⟨o,ho,hxd.2.1⟩,eR rfl (PySem.evalArgs_none (Aq hm ho hxd ?_))⟩
 have hv:({s1 with heap:=s1.heap.push {cls:=.type "dict_items",data:=.fields #[.ref a]}} :Shared).heap.IsItemsView s1.heap.objs.size a:=⟨_,aQ _ rfl,rfl,rfl⟩
 have k1:∀ b u,s1.heap.get? b=some u->(s1.heap.push {cls:=.type "dict_items",data:=.fields #[.ref a]}).get? b=some u:=λb u e=>ax _ e
 have I2:=I1.kept (t':=s1.toks) k1
 refine CJ hv (k1 _ _ ho) hd ?_
 have hz:(s1.heap.push {cls:=.type "dict_items",data:=.fields #[.ref a]}).objs.size=s1.heap.objs.size+1:=Heap.size_push ..
 refine⟨_,[_],_,_,H1,rfl,I2.kept (t':=s1.toks) (λb u e=>ax _ e),Aj a _ o kvs es ep hd hsz,⟨_,_,aQ _ rfl⟩,λb hb=>?_,q⟩
 have e:b=(s1.heap.push {cls:=.type "dict_items",data:=.fields #[.ref a]}).objs.size:=by simpa using hb
 subst e
 exact I2.Ds (au _) (I2.hok.fresh (au _))
end
theorem yD {c:TT}{tb:TS}{D:Ends}{σ:L2.St}{H:Hp}(Pv:Nat->L2.St->Hp->Prop)(n:Nat)(h0:Pv n σ H)
  (hs:∀ n σ H,Pv n σ H->c σ H λb H1=>if b=true then tb {D with nx:=λσ' H'=>∃ m,m<n/\Pv m σ' H',ct:=λσ' H'=>∃ m,m<n/\Pv m σ' H',bk:=D.nx} σ H1 else D.nx σ H1)
  (mono:∀ σ H Q Q',(∀ b H1,Q b H1->Q' b H1)->c σ H Q->c σ H Q'):tY c tb D σ H:=by
 refine⟨λm σ H=>Pv m σ H,⟨n,h0⟩,?_⟩
 intro m σ H p
 refine mono σ H _ _ (λb H1 q=>?_) (hs m σ H p)
 cases b with
 |true=>exact⟨_,λσ' H' h=>h,q⟩
 |false=>exact q
structure oD (es:List Ent):Prop where
 back:∀ (j:Nat) t' t k,es[j]? = some (t',some (t,k))->∃ i e,i<j/\es[i]? = some e/\e.1=t
 ok:∀ (j:Nat) t' t k,es[j]? = some (t',some (t,k))->PyData.strOk k.1=true
theorem yI {l:Ln}{ns:List Int}{m:Mv}(hm:m∈mvs l ns):PyData.strOk m.1.1=true:=by
 rcases aF.mp hm with z |z
 ·obtain⟨e,_,rfl⟩:=ao.mp z
  show PyData.strOk (Str.ofString "on")=true
  decide +kernel
 ·obtain⟨e,_,rfl⟩:=ao.mp z
  show PyData.strOk (Str.ofString "back")=true
  decide +kernel
theorem oD.add {t:List Int}{es:List Ent}{m:Mv}{i:Nat}{e:Ent}(h:oD es)(hi:es[i]? = some e)(he:e.1=t)(ok:PyData.strOk m.1.1=true):oD (m8 t es m):=by
 unfold m8
 split
 ·exact h
 ·have hlt:=(af.mp hi).1
  refine⟨λj t' u k hj=>?_,λj t' u k hj=>?_⟩
  ·by_cases hjl:j<es.length
   ·rw[aq hjl]at hj
    obtain⟨i2,e2,h1,h2,h3⟩:=h.back j t' u k hj
    exact⟨i2,e2,h1,by rw[aq (by omega)];exact h2,h3⟩
   ·have hj2:j=es.length:=by
     have:=(af.mp hj).1
     rw[ak,aI]at this
     omega
    rw[hj2,az (au _),bu]at hj
    cases hj
    exact⟨i,e,by omega,by rw[aq hlt];exact hi,he⟩
  ·by_cases hjl:j<es.length
   ·rw[aq hjl]at hj
    exact h.ok j t' u k hj
   ·have hj2:j=es.length:=by
     have:=(af.mp hj).1
     rw[ak,aI]at this
     omega
    rw[hj2,az (au _),bu]at hj
    cases hj
    exact ok
theorem oD.scan {t:List Int}{i:Nat}{e:Ent}(he:e.1=t):∀ {ms:List Mv}{es:List Ent},(∀ m∈ms,PyData.strOk m.1.1=true)->es[i]? = some e->oD es->oD (gW t ms es)
 |[],_,_,_,h=>h
 |m::r,es,ok,hi,h=>by
  refine oD.scan (ms:=r) (i:=i) he (λx hx=>ok x (aw _ hx)) ?_ (h.add hi he (ok m aA))
  obtain⟨u,hu⟩:=vU t es m
  rw[<-hu,aq (af.mp hi).1]
  exact hi
theorem pJ (l:Ln)(ns:List Int):∀ i,oD (fO l ns i)
 | 0=>by
  refine⟨λj t' t k hj=>?_,λj t' t k hj=>?_⟩
  ·match j,hj with
   | 0,hj=>cases hj
  ·match j,hj with
   | 0,hj=>cases hj
 |i+1=>by
  have ih:=pJ l ns i
  rw[fO]
  split
  ·rename_i e he
   exact oD.scan rfl (λm hm=>yI hm) he ih
  ·exact ih
inductive oy (es:List Ent):List Int->List (Str×Int)->Prop
 |nil {t:List Int} :(t,none)∈es->oy es t []
 |snoc {t' t:List Int}{k:Str×Int}{r:List (Str×Int)} :(t',some (t,k))∈es->oy es t r->oy es t' (r ++ [k])
open TS
def uU (rows:Rows)(e:Ent):Int:=match e.2 with
 |none=>0
 |some (t,_)=>(iz rows t).getD 0+1
def uA (acc:Rows)(es:List Ent):Rows:=es.foldl (λrows e=>rows ++ [(e.1,uU rows e)]) acc
def gi (es:List Ent):Rows:=uA [] es
theorem wJ:∀ (es:List Ent) (acc:Rows),(uA acc es).map (·.1)=acc.map (·.1)++es.map (·.1)
 |[],acc=>by simp[uA]
 |e::es,acc=>by
  have:=wJ es (acc ++ [(e.1,uU acc e)])
  show(uA (acc ++ [(e.1,uU acc e)]) es).map (·.1)=_
  rw[this,aB];simp
theorem iQ (es:List Ent):(gi es).map (·.1)=es.map (·.1):=by unfold gi;rw[wJ];rfl
theorem ke (es:List Ent):(gi es).length=es.length:=by have:=bL List.length (iQ es);rwa [aa,aa]at this
theorem wI:∀ (es:List Ent) (acc:Rows),acc <+:uA acc es
 |[],acc=>bK _
 |e::es,acc=>(cW acc [(e.1,uU acc e)]).trans (wI es _)
theorem wK (es more:List Ent):gi (es++more)=uA (gi es) more:=by unfold gi uA;rw[dh]
theorem pP {es es':List Ent}(h:es <+:es'):gi es <+:gi es':=by
 obtain⟨r,rfl⟩:=h
 rw[wK]
 exact wI _ _
theorem mx (es:List Ent)(e:Ent):gi (es ++ [e])=gi es ++ [(e.1,uU (gi es) e)]:=by rw[wK];rfl
theorem mf {rows Hf:Rows}(h:rows <+:Hf){t:List Int}{n:Int}(hl:iz rows t=some n):iz Hf t=some n:=by
 obtain⟨r,rfl⟩:=h
 unfold iz at hl ⊢
 rw[List.find?_append]
 cases q:rows.find? λr=>decide (r.1=t)with
 |none=>rw[q]at hl;cases hl
 |some x=>rw[q]at hl;exact hl
theorem uZ {rows:Rows}{t:List Int}(h:t∈rows.map (·.1)):∃ n,iz rows t=some n:=by
 cases q:iz rows t with
 |none=>exact absurd h (uY q)
 |some n=>exact⟨n,rfl⟩
theorem w5 {rows:Rows}{t:List Int}{n:Int}(h:t∉rows.map (·.1)):iz (rows ++ [(t,n)]) t=some n:=by
 have q:iz rows t=none:=by
  cases q:iz rows t with
  |none=>rfl
  |some x=>exact absurd (ao.mpr ⟨_,ka q,rfl⟩) h
 unfold iz at q ⊢
 rw[Option.map_eq_none_iff]at q
 rw[List.find?_append,q]
 simp
structure Lvl (es:List Ent)(d:Int):Prop where
 mono:(gi es).Pairwise λa b=>a.2<=b.2
 top:∀ r∈gi es,r.2<=d+1
theorem Lvl.add {es:List Ent}{d:Int}{t:List Int}{m:Mv}(h:Lvl es d)(ht:iz (gi es) t=some d):Lvl (m8 t es m) d/\∃ n,iz (gi (m8 t es m)) m.2=some n/\n<=d+1:=by
 unfold m8
 by_cases hm:m.2∈es.map (·.1)
 ·rw[aJ hm]
  obtain⟨n,hn⟩:=uZ (rows:=gi es) (by rw[iQ];exact hm)
  exact⟨h,n,hn,h.top _ (ka hn)⟩
 ·rw[aE hm]
  have hn:uU (gi es) (m.2,some (t,m.1))=d+1:=by
   show(iz (gi es) t).getD 0+1=d+1
   rw[ht];rfl
  refine⟨⟨?_,λr hr=>?_⟩,d+1,?_,Int.le_refl _⟩
  ·rw[mx,List.pairwise_append]
   refine⟨h.mono,by simp,λa ha b hb=>?_⟩
   rw[bx.mp hb]
   show a.2<=uU (gi es) (m.2,some (t,m.1))
   rw[hn]
   exact h.top a ha
  ·rw[mx]at hr
   rcases aF.mp hr with z |z
   ·exact h.top r z
   ·rw[bx.mp z]
    show uU (gi es) (m.2,some (t,m.1))<=d+1
    rw[hn];exact Int.le_refl _
  ·rw[mx]
   show iz (gi es ++ [(m.2,uU (gi es) (m.2,some (t,m.1)))]) m.2=some (d+1)
   rw[hn]
   exact w5 (by rw[iQ];exact hm)
theorem Lvl.scan {d:Int}{t:List Int} :∀ (ms:List Mv) {es:List Ent},Lvl es d->iz (gi es) t=some d->Lvl (gW t ms es) d/\∀ m∈ms,∃ n,iz (gi (gW t ms es)) m.2=some n/\n<=d+1
 |[],es,h,_=>⟨h,λm hm=>(nomatch hm)⟩
 |m::ms,es,h,ht=>by
  obtain⟨h1,n,hn,hle⟩:=h.add (m:=m) ht
  have hp:=pP (vU t es m)
  obtain⟨h2,h3⟩:=Lvl.scan ms h1 (mf hp ht)
  refine⟨h2,λm' hm'=>?_⟩
  rcases aG.mp hm' with rfl |z
  ·exact⟨n,mf (pP (pL t ms (m8 t es m'))) hn,hle⟩
  ·exact h3 m' z
theorem HY {rows:Rows}(h:rows.Pairwise λa b=>a.2<=b.2){i j:Nat}{a b:List Int×Int}(hij:i<j)(hi:rows[i]? = some a)(hj:rows[j]? = some b):a.2<=b.2:=by
 obtain⟨hj1,rfl⟩:=af.mp hj
 obtain⟨hi1,rfl⟩:=af.mp hi
 exact dC.mp h i j hi1 hj1 hij
theorem xM {es:List Ent}(nd:(es.map (·.1)).Nodup){j:Nat}{e:Ent}(h:es[j]? = some e):∃ d,(gi es)[j]? = some (e.1,d)/\iz (gi es) e.1=some d:=by
 have hl:=(af.mp h).1
 have hj:(gi es)[j]? = some ((gi es)[j]'(by rw[ke];exact hl)):=ah _
 have e1:((gi es)[j]'(by rw[ke];exact hl)).1=e.1:=by
  have a:=bL (·[j]?) (iQ es)
  rw[aj,aj,hj,h]at a
  exact aP a
 generalize (gi es)[j]'(by rw[ke];exact hl)=r at hj e1
 obtain⟨t,d⟩:=r
 have e1:t=e.1:=e1
 subst e1
 exact⟨d,hj,nG (r:=(e.1,d)) (by rw[iQ];exact nd) (av hj)⟩
structure Sq (l:Ln)(es:List Ent)(i:Nat):Prop where
 mono:(gi es).Pairwise λa b=>a.2<=b.2
 here:∀ e d,es[i]? = some e->iz (gi es) e.1=some d->∀ r∈gi es,r.2<=d+1
 done:∀ j e d,j<i->es[j]? = some e->iz (gi es) e.1=some d->∀ m∈mvs l e.1,∃ n,iz (gi es) m.2=some n/\n<=d+1
theorem Jw {l:Ln}{ns:List Int}(ok:gv l)(T:jm l ns)(hne:ns≠ []):∀ i,Sq l (fO l ns i) i
 | 0=>by
  have e0:gi (fO l ns 0) = [(ns,0)]:=rfl
  refine⟨by rw[e0];simp,λe d he hd r hr=>?_,λj e d hj=>absurd hj (Nat.not_lt_zero j)⟩
  rw[e0]at hd hr
  have:=ka hd
  have h1:=bx.mp hr
  have h2:=bx.mp this
  rw[h1]
  have h3:d=0:=by injection h2
  show(0:Int)<=d+1
  omega
 |i+1=>by
  have ih:=Jw ok T hne i
  have E:=jd ok T hne i
  have E1:=jd ok T hne (i+1)
  cases q:(fO l ns i)[i]? with
  |none=>
   have e1:fO l ns (i+1)=fO l ns i:=by rw[fO,q]
   have hl:(fO l ns i).length<=i:=by
    by_cases z:i<(fO l ns i).length
    ·rw[ah z]at q;cases q
    ·omega
   rw[e1]
   refine⟨ih.mono,λe d he=>?_,λj e d hj he=>?_⟩
   ·rw[bq (by omega)]at he;cases he
   ·have:=(af.mp he).1
    exact ih.done j e d (by omega) he
  |some e=>
   obtain⟨d,hd1,hd2⟩:=xM E.nd q
   have L0:Lvl (fO l ns i) d:=⟨ih.mono,ih.here e d q hd2⟩
   have e1:=nh q
   have pre:=pI l ns i
   obtain⟨L1,M1⟩:=Lvl.scan (mvs l e.1) L0 hd2
   rw[<-e1]at L1 M1
   have rp:=pP pre
   have Pn:(gi (fO l ns (i+1)))[i]? = some (e.1,d):=by
    obtain⟨z,hz⟩:=rp
    rw[<-hz,aq (af.mp hd1).1]
    exact hd1
   refine⟨L1.mono,λe' d' he' hd' r hr=>?_,λj e' d' hj he' hd' m hm=>?_⟩
   ·obtain⟨d2,h1,h2⟩:=xM E1.nd he'
    rw[hd']at h2
    cases h2
    have a:=HY L1.mono (Nat.lt_succ_self i) Pn h1
    have b:=L1.top r hr
    have a:d<=d':=a
    omega
   ·by_cases hji:j<i
    ·have hlen:j<(fO l ns i).length:=by have:=(af.mp q).1;omega
     have he0:(fO l ns i)[j]? = some e':=by
      obtain⟨z,hz⟩:=pre
      rw[<-hz,aq hlen]at he'
      exact he'
     obtain⟨d3,_,h3⟩:=xM E.nd he0
     have:=mf rp h3
     rw[hd']at this
     cases this
     obtain⟨n,hn,hle⟩:=ih.done j e' d' hji he0 h3 m hm
     exact⟨n,mf rp hn,hle⟩
    ·have ej:j=i:=by omega
     subst ej
     have he0:(fO l ns (j+1))[j]? = some e:=by
      obtain⟨z,hz⟩:=pre
      rw[<-hz,aq (af.mp q).1]
      exact q
     rw[he0]at he'
     cases he'
     have:=mf rp hd2
     rw[hd']at this
     cases this
     exact M1 m hm
theorem yE {l:Ln}{ns:List Int}(ok:gv l)(T:jm l ns)(hne:ns≠ []){i:Nat}(hi:(fO l ns i).length=i):Lv l ns (gi (fO l ns i)):=by
 have W:=Jw ok T hne i
 have E:=jd ok T hne i
 refine⟨⟨by rw[iQ];exact E.nd,λs hs=>?_⟩,?_,λr hr m hm=>?_⟩
 ·rw[iQ]at hs
  obtain⟨e,he,rfl⟩:=ao.mp hs
  obtain⟨a,b,c⟩:=E.tr e he
  exact⟨b,c,a⟩
 ·have h0:fO l ns 0 <+:fO l ns i:=by have:=tT l ns 0 i;rwa [Nat.zero_add]at this
  exact mf (pP h0) (show iz [(ns,0)] ns=some 0 from w5 (rows:=[]) (by simp))
 ·obtain⟨j,hj,e⟩:=bj.mp hr
  have hjl:j<(fO l ns i).length:=by rw[<-ke];exact hj
  obtain⟨d,h1,h2⟩:=xM E.nd (ah hjl)
  rw[ah hj,e]at h1
  cases h1
  exact W.done j _ d (by omega) (ah hjl) h2 m hm
theorem oG {l:Ln}{ns:List Int}(ok:gv l)(T:jm l ns)(hne:ns≠ []){i:Nat}(hi:(fO l ns i).length=i):He l ns ((fO l ns i).map (·.1)):=by
 have:=(FI.mp (yE ok T hne hi)).1
 rwa [iQ]at this
end TL
namespace TL
open PySem PySem.Spec PyProof.Rows L2
theorem GQ {J:It}{g:TG}{tb:TS}{D:Ends}{σ:L2.St}{H:Hp}(n:Nat)(Pv:Nat->L2.St->Hp->Prop)(h0:Pv 0 σ H)(go:∀ i σ H,i<n->Pv i σ H->J.go i H)(st:∀ σ H,Pv n σ H->J.stop n H)
  (hs:∀ i x σ H H',i<n->Pv i σ H->J.yld i H x H'->g x σ H' λσ2 H2=>tb {D with nx:=Pv (i+1),ct:=Pv (i+1),bk:=D.nx} σ2 H2) (hd:∀ σ H,Pv n σ H->D.nx σ H):
  ∃ W:Nat->Nat->L2.St->Hp->Prop,(∃ m,W 0 m σ H)/\∀ i m σ H,W i m σ H->
   (J.stop i H/\D.nx σ H)\/(J.go i H/\∃ N:L2.St->Hp->Prop,(∀ σ' H',N σ' H'->∃ m',m'<m/\W (i+1) m' σ' H')/\∀ x H',J.yld i H x H'->g x σ H' λσ2 H2=>tb {D with nx:=N,ct:=N,bk:=D.nx} σ2 H2):=by
 refine⟨λi m σ H=>m=n-i/\i<=n/\Pv i σ H,⟨n,by simp,aK _,h0⟩,?_⟩
 rintro i m σ H ⟨rfl,hi,p⟩
 by_cases hlt:i<n
 ·exact .inr ⟨go i σ H hlt p,Pv (i+1),λσ' H' p'=>⟨n-(i+1),by omega,rfl,hlt,p'⟩,λx H' y=>hs i x σ H H' hlt p y⟩
 ·have e:i=n:=by omega
  subst e
  exact .inl ⟨st σ H p,hd σ H p⟩
theorem Dgs.rev {L T:Addr->List V->Prop} :∀ {ds:List PyData}{vs:List V},Dgs L T ds vs->Dgs L T ds.reverse vs.reverse
 |[],_,h=>by rw[gS.mp h];exact gS.mpr rfl
 |d::ds,_,h=>by
  obtain⟨v,r,rfl,h1,h2⟩:=gm.mp h
  rw[df,df]
  exact Dgs.append (Dgs.rev h2) (Dgs.one h1)
theorem F5 {κ:Type} [DecidableEq κ] {kvs:List (κ×V)}{j:Nat}{k:κ}{v:V}(nd:(kvs.map (·.1)).Nodup)(h:kvs[j]? = some (k,v)):jK kvs k=some v:=by
 unfold jK
 obtain⟨hj,e⟩:=af.mp h
 have:kvs.find? (λkv=>decide (kv.1=k))=some (k,v):=by
  rw[List.find?_eq_some_iff_getElem]
  refine⟨by simp,j,hj,e,λi hi=>?_⟩
  have h1:(kvs[i]'(by omega)).1≠k:=λz=>by
   have h2:(kvs.map (·.1))[i]'(by rw[aa];omega)=(kvs.map (·.1))[j]'(by rw[aa];omega):=by
    rw[cu,cu,z,e]
   have:=(cG nd).mp h2
   omega
  simpa using h1
 rw[this];rfl
open TS
theorem i7 {n:Nat}(h:n<=10000000):n<sizeLine:=bY h (by decide)
theorem yL {K:PySem.W.Frag}{H:Hp}{t b:Addr}{kvs:List (List Key×V)}{xs:List V}{o:HO}(ht:H t=some (.dT kvs))(h:SqT K H b xs):SqT K (upd H t o) b xs:=by
 rcases h with(h |⟨o,h⟩)|h
 ·exact .inl (.inl (by rw[fG (gA h ht (by intro z;cases z))];exact h))
 ·exact .inl (.inr ⟨o,by rw[fG (gA h ht (by intro z;cases z))];exact h⟩)
 ·exact .inr h
def mH (K:PySem.W.Frag)(H:Hp)(e:Ent)(v:V):Prop:=match e.2 with
 |none=>v = .non
 |some (t,k)=>∃ a b c,v = .ref a/\H a=some (.tup [.ref b,.ref c])/\H b=some (.tup (t.map V.int))/\SqT K H c [.str k.1,.int k.2]
theorem mH.same {K:PySem.W.Frag}{H H':Hp}{e:Ent}{v:V}(h:mH K H e v)(s:fI H H'):mH K H' e v:=by
 unfold mH at h ⊢
 split at h
 ·exact h
 ·obtain⟨a,b,c,h1,h2,h3,h4⟩:=h
  exact⟨a,b,c,h1,s _ _ h2,s _ _ h3,gd s h4⟩
theorem mH.LF {K:PySem.W.Frag}{H:Hp}{e:Ent}{v:V}{p:Addr}{vs:List V}{o:HO}(h:mH K H e v)(hp:H p=some (.lst vs)):mH K (upd H p o) e v:=by
 unfold mH at h ⊢
 split at h
 ·exact h
 ·obtain⟨a,b,c,h1,h2,h3,h4⟩:=h
  exact⟨a,b,c,h1,by rw[fG (gA h2 hp (by intro z;cases z))];exact h2,by rw[fG (gA h3 hp (by intro z;cases z))];exact h3,lU hp h4⟩
theorem mH.Jy {K:PySem.W.Frag}{H:Hp}{e:Ent}{v:V}{p:Addr}{kvs:List (List Key×V)}{o:HO}(h:mH K H e v)(hp:H p=some (.dT kvs)):mH K (upd H p o) e v:=by
 unfold mH at h ⊢
 split at h
 ·exact h
 ·obtain⟨a,b,c,h1,h2,h3,h4⟩:=h
  exact⟨a,b,c,h1,by rw[fG (gA h2 hp (by intro z;cases z))];exact h2,by rw[fG (gA h3 hp (by intro z;cases z))];exact h3,yL hp h4⟩
structure mI (K:PySem.W.Frag)(H:Hp)(d:Addr)(es:List Ent)(vs:List V):Prop where
 at_:H d=some (.dT ((es.zip vs).map λp=>(kyI p.1.1,p.2)))
 len:vs.length=es.length
 each:∀ (i:Nat) e v,es[i]? = some e->vs[i]? = some v->mH K H e v
theorem mI.same {K:PySem.W.Frag}{H H':Hp}{d:Addr}{es:List Ent}{vs:List V}(h:mI K H d es vs)(s:fI H H'):mI K H' d es vs:=
 ⟨s _ _ h.at_,h.len,λi e v h1 h2=>(h.each i e v h1 h2).same s⟩
theorem vd {es:List Ent}{vs:List V}(hl:vs.length=es.length):((es.zip vs).map λp=>(kyI p.1.1,p.2)).map (·.1)=es.map λe=>kyI e.1:=by
 rw[bz]
 refine ed λi=>?_
 rw[aj,aj]
 by_cases hi:i<es.length
 ·rw[ah (by rw[cz];omega),ah hi,List.getElem_zip];rfl
 ·rw[bq (by rw[cz];omega),bq (by omega)];rfl
theorem Cs {κ:Type} [DecidableEq κ] {kvs:List (κ×V)}{k:κ} :(jK kvs k).isSome=decide (k∈kvs.map (·.1)):=by
 rw[<-qL,bJ,eI,cq,ao]
 constructor
 ·rintro⟨p,h1,h2⟩;exact⟨p,h1,by simpa using h2⟩
 ·rintro⟨p,h1,h2⟩;exact⟨p,h1,by simpa using h2⟩
theorem mI.mem {K:PySem.W.Frag}{H:Hp}{d:Addr}{es:List Ent}{vs:List V}(h:mI K H d es vs)(t:List Int):(jK ((es.zip vs).map λp=>(kyI p.1.1,p.2)) (kyI t)).isSome=decide (t∈es.map (·.1)):=by
 rw[Cs,vd h.len]
 congr 1
 refine propext ⟨λz=>?_,λz=>?_⟩
 ·obtain⟨e,h1,h2⟩:=ao.mp z
  exact ao.mpr ⟨e,h1,om h2⟩
 ·obtain⟨e,h1,h2⟩:=ao.mp z
  exact ao.mpr ⟨e,h1,by rw[h2]⟩
structure Ord (H:Hp)(p:Addr)(as:List Addr)(es:List Ent):Prop where
 at_:H p=some (.lst (as.map V.ref))
 len:as.length=es.length
 each:∀ (i:Nat) b e,as[i]? = some b->es[i]? = some e->H b=some (.tup (e.1.map V.int))
theorem Ord.same {H H':Hp}{p:Addr}{as:List Addr}{es:List Ent}(h:Ord H p as es)(s:fI H H'):Ord H' p as es:=
 ⟨s _ _ h.at_,h.len,λi b e h1 h2=>s _ _ (h.each i b e h1 h2)⟩
theorem CK {K:PySem.W.Frag}{H:Hp}{d p st tp ta tm:Addr}{es:List Ent}{vs:List V}{as:List Addr}{t t':List Int}{k:Str×Int}(hs:mI K H d es vs)(ho:Ord H p as es)(hst:H st=some (.tup (t'.map V.int)))
  (htp:H tp=some (.tup [.ref ta,.ref tm])) (hta:H ta=some (.tup (t.map V.int))) (htm:SqT K H tm [.str k.1,.int k.2]) (hn:t'∉es.map (·.1)):
  mI K (upd (upd H d (.dT (putK ((es.zip vs).map λp=>(kyI p.1.1,p.2)) (kyI t') (.ref tp)))) p (.lst (as.map V.ref ++ [V.ref st]))) d (es ++ [(t',some (t,k))]) (vs ++ [.ref tp])/\
  Ord (upd (upd H d (.dT (putK ((es.zip vs).map λp=>(kyI p.1.1,p.2)) (kyI t') (.ref tp)))) p (.lst (as.map V.ref ++ [V.ref st]))) p (as ++ [st]) (es ++ [(t',some (t,k))]):=by
 have hd:=hs.at_
 have hp:=ho.at_
 have dp:d≠p:=gA hd hp (by intro z;cases z)
 have hv:jK ((es.zip vs).map λp=>(kyI p.1.1,p.2)) (kyI t')=none:=by
  have:=hs.mem t'
  rw[aU hn]at this
  exact Option.isNone_iff_eq_none.mp (by rw[<-Option.not_isSome,this];rfl)
 have e1:putK ((es.zip vs).map λp=>(kyI p.1.1,p.2)) (kyI t') (.ref tp)=((es ++ [(t',some (t,k))]).zip (vs ++ [V.ref tp])).map λp=>(kyI p.1.1,p.2):=by
  rw[oN _ hv,List.zip_append hs.len.symm,aB];rfl
 have hp1:upd H d (.dT (putK ((es.zip vs).map λp=>(kyI p.1.1,p.2)) (kyI t') (.ref tp))) p=some (.lst (as.map V.ref)):=by rw[fG (bI dp)];exact hp
 have ht:∀ b xs,H b=some (.tup xs)->upd (upd H d (.dT (putK ((es.zip vs).map λp=>(kyI p.1.1,p.2)) (kyI t') (.ref tp)))) p (.lst (as.map V.ref ++ [V.ref st])) b=some (.tup xs):=λb xs q=>by
  rw[fG (gA q hp (by intro z;cases z)),fG (gA q hd (by intro z;cases z))];exact q
 refine⟨⟨by rw[fG dp,fC,e1],by rw[ak,ak,hs.len];rfl,λi e v he hv=>?_⟩,⟨by rw[fC,aB];rfl,by rw[ak,ak,ho.len];rfl,λi b e hb he=>?_⟩⟩
 ·by_cases hi:i<es.length
  ·rw[aq hi]at he
   rw[aq (by rw[hs.len];exact hi)]at hv
   exact((hs.each i e v he hv).Jy hd).LF hp1
  ·have hi2:i=es.length:=by
    have:=(af.mp he).1
    rw[ak,aI]at this
    omega
   rw[hi2,az (au _),bu]at he
   rw[hi2,<-hs.len,az (au _),bu]at hv
   cases he
   cases hv
   exact⟨tp,ta,tm,rfl,ht _ _ htp,ht _ _ hta,lU hp1 (yL hd htm)⟩
 ·by_cases hi:i<es.length
  ·rw[aq hi]at he
   rw[aq (by rw[ho.len];exact hi)]at hb
   exact ht _ _ (ho.each i b e hb he)
  ·have hi2:i=es.length:=by
    have:=(af.mp he).1
    rw[ak,aI]at this
    omega
   rw[hi2,az (au _),bu]at he
   rw[hi2,<-ho.len,az (au _),bu]at hb
   cases he
   cases hb
   exact ht _ _ hst
theorem Fe {K:PySem.W.Frag}{p a:Addr}{H:Hp}{kvs:List (List Key×V)}{xs:List V}(hp:H p=some (.dT kvs))(h:SqT K H a xs):SqT K (hid p H) a xs:=by
 rcases h with(h |⟨o,h⟩)|h
 ·exact .inl (.inl (by rw[gY (gA h hp (by intro z;cases z))];exact h))
 ·exact .inl (.inr ⟨o,by rw[gY (gA h hp (by intro z;cases z))];exact h⟩)
 ·exact .inr h
abbrev zH (d p:Addr)(H:Hp):Hp:=hid p (hid d H)
theorem vy {K:PySem.W.Frag}{d p a:Addr}{H:Hp}{kvs:List (List Key×V)}{vs xs:List V}(hd:H d=some (.dT kvs))(hp:H p=some (.lst vs))(h:SqT K H a xs):SqT K (zH d p H) a xs:=by
 have dp:p≠d:=gA hp hd (by intro z;cases z)
 exact tO (vs:=vs) (by rw[gY dp];exact hp) (Fe hd h)
theorem mR {d p a:Addr}{H:Hp}(h1:a≠d)(h2:a≠p):zH d p H a=H a:=by show hid p (hid d H) a=H a;rw[gY h2,gY h1]
theorem vt {d p:Addr}{H H':Hp}{o o':HO}(s:fI (zH d p H) H'):fI (zH d p H) (upd (upd H' d o) p o'):=λb u h=>by
 by_cases e1:b=p
 ·subst e1;have h:hid b (hid d H) b=some u:=h;rw[jY]at h;cases h
 ·have h':hid p (hid d H) b=some u:=h
  rw[gY e1]at h'
  by_cases e2:b=d
  ·subst e2;rw[jY]at h';cases h'
  ·rw[fG e1,fG e2];exact s _ _ h
structure lT (H H':Hp)(p:Addr)(bs:List Addr)(ts:List (List Int)):Prop where
 same:fI H H'
 new:H p=none
 at_:H' p=some (.lst (bs.map V.ref))
 len:bs.length=ts.length
 each:∀ (i:Nat) b t,bs[i]? = some b->ts[i]? = some t->H b=none/\b≠p/\H' b=some (.lst (t.map V.int))
 nd:bs.Nodup
theorem lT.pre {H0 H H':Hp}{p:Addr}{bs:List Addr}{ts:List (List Int)}(s:fI H0 H)(h:lT H H' p bs ts):lT H0 H' p bs ts:=
 ⟨s.trans h.same,fI.free s h.new,h.at_,h.len,λi b t h1 h2=>⟨fI.free s (h.each i b t h1 h2).1,(h.each i b t h1 h2).2⟩,h.nd⟩
structure sH (H:Hp)(p:Addr)(as:List Addr)(es:List Ent):Prop where
 at_:H p=some (.lst (as.map V.ref))
 len:as.length=es.length
 each:∀ (i:Nat) b e,as[i]? = some b->es[i]? = some e->b≠p/\H b=some (.lst (e.1.map V.int))
theorem sH.same {H H':Hp}{p:Addr}{as:List Addr}{es:List Ent}(h:sH H p as es)(s:fI H H'):sH H' p as es:=
 ⟨s _ _ h.at_,h.len,λi b e h1 h2=>⟨(h.each i b e h1 h2).1,s _ _ (h.each i b e h1 h2).2⟩⟩
theorem sH.get {H:Hp}{p:Addr}{as:List Addr}{es:List Ent}(h:sH H p as es){i:Nat}{e:Ent}(he:es[i]? = some e):∃ b,as[i]? = some b/\b≠p/\H b=some (.lst (e.1.map V.int)):=by
 have hi:i<as.length:=by rw[h.len];exact(af.mp he).1
 exact⟨as[i],ah hi,h.each i _ e (ah hi) he⟩
theorem sH.da {K:PySem.W.Frag}{H:Hp}{p:Addr}{as:List Addr}{es:List Ent}(h:sH H p as es):Da K H (dLI (es.map (·.1))) (.ref p):=
 ia.mpr ⟨p,_,rfl,SqL.of h.at_,xO (by rw[aa];exact h.len) λi b t h1 h2=>by
  rw[aj]at h2
  cases q:es[i]? with
  |none=>rw[q]at h2;cases h2
  |some e=>rw[q]at h2;cases h2;exact(h.each i b e h1 q).2⟩
theorem lT.da {K:PySem.W.Frag}{H H' H'':Hp}{p:Addr}{bs:List Addr}{ts:List (List Int)}(h:lT H H' p bs ts)(s:fI H' H''):Da K H'' (dLI ts) (.ref p):=
 ia.mpr ⟨p,_,rfl,SqL.of (s _ _ h.at_),xO h.len λi b t h1 h2=>s _ _ (h.each i b t h1 h2).2.2⟩
theorem mO {l:Ln}{ns:List Int}{i j:Nat}(hi:(fO l ns i).length=i)(hj:(fO l ns j).length=j):fO l ns i=fO l ns j:=by
 rcases Nat.le_total i j with z |z
 ·obtain⟨k,rfl⟩:=cx z
  exact(pH (by omega) k).symm
 ·obtain⟨k,rfl⟩:=cx z
  exact pH (by omega) k
theorem xw {l:Ln}{ns:List Int}{i:Nat}(hi:(fO l ns i).length=i)(j:Nat):(fO l ns j).length<=i:=by
 rcases Nat.le_total i j with z |z
 ·obtain⟨k,rfl⟩:=cx z
  rw[pH (by omega) k];omega
 ·obtain⟨k,hk⟩:=cx z
  have:=(tT l ns j k).length_le
  rw[<-hk]at this
  omega
theorem xx {l:Ln}{x:Int}(h:0<=x/\x<2*l.1):jm l [x]:=⟨λe he=>by have z:e=x:=(by simpa using he);rw[z];exact h,by simp,λi a b _ hb=>by simp at hb⟩
theorem BE {l:Ln}{x:Int}(ok:gv l)(h:0<=x/\x<2*l.1)(i:Nat):(fO l [x] i).length<=300:=by
 have:=(jd ok (xx h) (by simp) i).OM rfl
 have:=ok.most
 omega
theorem HB {α β:Type}{xs:List α}{ys:List β}{i:Nat}{x:α}{y:β}(h1:xs[i]? = some x)(h2:ys[i]? = some y):(xs.zip ys)[i]? = some (x,y):=dD.mpr ⟨h1,h2⟩
theorem GD {es:List Ent}(nd:(es.map (·.1)).Nodup):(es.map λe=>kyI e.1).Nodup:=by
 have:(es.map λe=>kyI e.1)=(es.map (·.1)).map kyI:=by rw[bz];rfl
 rw[this]
 unfold List.Nodup at nd ⊢
 rw[cM]
 exact nd.imp λh z=>h (om z)
theorem mI.get {K:PySem.W.Frag}{H:Hp}{d:Addr}{es:List Ent}{us:List V}(h:mI K H d es us)(nd:(es.map (·.1)).Nodup){j:Nat}{e:Ent}{v:V}(he:es[j]? = some e)(hv:us[j]? = some v):jK ((es.zip us).map λp=>(kyI p.1.1,p.2)) (kyI e.1)=some v:=by
 refine F5 (j:=j) ?_ ?_
 ·rw[vd h.len];exact GD nd
 ·rw[aj,HB he hv];rfl
theorem DR {H:Hp}{a b:Addr}{o o':HO}(h:a≠b):upd (upd H a o) b o'=upd (upd H b o') a o:=by
 funext c
 by_cases e1:c=a
 ·subst e1;rw[fG h,fC,fC]
 ·by_cases e2:c=b
  ·subst e2;rw[fC,fG e1,fC]
  ·rw[fG e2,fG e1,fG e1,fG e2]
theorem DU {σ:L2.St}{H:Hp}{te:TE}{P1:VK}{P0:Hp->Prop}(h:te σ H P1):Cy σ H (λb H3=>if b=true then te σ H3 P1 else P0 H3):=vg (A:=te σ H P1) (B:=P0 H) h
def mJ (H0 H:Hp)(r:List Int×Int)(v:V):Prop:=∃ ad a,v = .ref ad/\H ad=some (.tup [.ref a,.int r.2])/\H a=some (.lst (r.1.map V.int))/\H0 a=none
theorem mJ.mono {H0 H H':Hp}(r:List Int×Int)(v:V)(s:fI H H')(h:mJ H0 H r v):mJ H0 H' r v:=h.imp λ_ h=>h.imp λ_ h=>⟨h.1,s _ _ h.2.1,s _ _ h.2.2.1,h.2.2.2⟩
theorem mJ.pre {H00 H0 H:Hp}(s:fI H00 H0)(r:List Int×Int)(v:V)(h:mJ H0 H r v):mJ H00 H r v:=h.imp λ_ h=>h.imp λ_ h=>⟨h.1,h.2.1,h.2.2.1,fI.free s h.2.2.2⟩
theorem mJ.LH {H0 H:Hp}{n:Addr}{o:Obj}{x:HO}{y:HO}(r:List Int×Int)(v:V)(hn:H n=some (.frz o x))(h:mJ H0 H r v):mJ H0 (upd H n y) r v:=by
 obtain⟨ad,a,e,h1,h2,h3⟩:=h
 exact⟨ad,a,e,by rw[fG (gA h1 hn (by intro z;cases z))];exact h1,by rw[fG (gA h2 hn (by intro z;cases z))];exact h2,h3⟩
structure tu (H0 H:Hp)(q:Addr)(rows:Rows)(vs:List V):Prop where
 at_:H q=some (.lst vs)
 new:H0 q=none
 pw:Pw (mJ H0 (hid q H)) rows vs
theorem tu.same {H0 H H':Hp}{q:Addr}{rows:Rows}{vs:List V}(h:tu H0 H q rows vs)(s:fI H H'):tu H0 H' q rows vs:=⟨s _ _ h.at_,h.new,h.pw.imp λr v=>mJ.mono r v (nI s)⟩
theorem tu.pre {H00 H0 H:Hp}{q:Addr}{rows:Rows}{vs:List V}(h:tu H0 H q rows vs)(s:fI H00 H0):tu H00 H q rows vs:=⟨h.at_,fI.free s h.new,h.pw.imp (mJ.pre s)⟩
open Classical in
noncomputable def ro (p:Addr->Prop) (H:Hp):Hp:=λb=>if p b then none else H b
theorem lj {p:Addr->Prop}{H:Hp}{b:Addr}(h:¬p b):ro p H b=H b:=by unfold ro;rw[aE h]
theorem BW {p:Addr->Prop}{H:Hp}{b:Addr}(h:p b):ro p H b=none:=by unfold ro;rw[aJ h]
theorem Dn {p:Addr->Prop}{H:Hp} :fI (ro p H) H:=λb u h=>by
 by_cases z:p b
 ·rw[BW z]at h;cases h
 ·rw[lj z]at h;exact h
theorem sr {p:Addr->Prop}{G H:Hp}{a:Addr}{o:HO}(h:p a)(s:fI (ro p G) H):fI (ro p G) (upd H a o):=λb u hb=>by
 by_cases z:p b
 ·rw[BW z]at hb;cases hb
 ·rw[fG λe=>z (by rw[e];exact h)];exact s _ _ hb
end TL
namespace TL
open PySem PySem.Spec PyProof.Rows L2
section
variable {prog:Program}{w:World}{K:Type} [DecidableEq K] (knd:PySem.KeyKind prog w K)
def ix (h:Heap)(x:List K×K)(a:Addr):Prop:=∃ o n b v,h.get? a=some o/\o.cls = .type "tuple" /\o.data = .seq #[.ref b,v] n/\IsTupleKey knd h x.1 b/\knd.is x.2 v=true
variable {knd}
theorem ix.typeIs {s:Shared}{x:List K×K}{a:Addr}(h:ix knd s.heap x a):s.TypeIs (.ref a) "tuple" :=let ⟨o,_,_,_,ho,hc,_⟩:=h;⟨o,ho,hc⟩
theorem ix.inj {h:Heap}{a:Addr}{x y:List K×K}(hx:ix knd h x a)(hy:ix knd h y a):x=y:=by
 obtain⟨o,n,b,v,h1,_,h3,h4,h5⟩:=hx
 obtain⟨o',n',b',v',g1,_,g3,g4,g5⟩:=hy
 obtain rfl:o=o':=aP (h1.symm.trans g1)
 rw[h3]at g3
 injection g3 with e _
 have e1:Value.ref b=Value.ref b'/\v=v':=by simpa using e
 obtain⟨e1,rfl⟩:=e1
 injection e1 with e1
 subst e1
 exact dj (h4.inj g4) (knd.inj _ _ _ h5 g5)
theorem ix.keeps {h h':Heap}{x:List K×K}{a d:Addr}{o:Obj}{es ep}(k:ix knd h x a)(ho:h.get? d=some o)(hd:o.data = .dict es ep)(hs:Heap.SameBut d h h'):ix knd h' x a:=by
 obtain⟨o',n,b,v,h1,h2,h3,h4,h5⟩:=k
 have hne:a≠d:=by
  rintro rfl
  obtain rfl:o'=o:=aP (h1.symm.trans ho)
  rw[hd]at h3;exact nomatch h3
 exact⟨o',n,b,v,(hs.2 a hne).trans h1,h2,h3,h4.keeps ho hd hs,h5⟩
def uI (knd:PySem.KeyKind prog w K)(x:List K×K):Int:=reduceHash (Builtin.Tuple.tupleHashOf [tupleKeyHash knd x.1,knd.hash x.2])
variable {A:Around}{E:Value->Shared->Prop}{s:Shared}
theorem in1_units (A:Around):A.in1.units<=A.units+1:=by first |exact au _ |(simp[Around.in1];done)|omega
theorem qI {x:List K×K}{a:Addr}{Q:Int->Shared->Prop}(hu:A.units+1<cLine)(hk:ix knd s.heap x a)(h:Q (uI knd x) {s with toks:=s.toks+(x.1.length+3)}):
  wpAny (model prog w) A (pyHash (.ref a)) Q E s:=by
 have hT:=hk.typeIs
 obtain⟨o,n,b,v,ho,_,hd,hb,hv⟩:=hk
 unfold pyHash
 first |unfold pyHashByItsType |skip
 first |refine ae (wpAny_cRoomFor_or (.inr (by omega)) ?_)|skip
 refine ae (eh hT eQ.lookup ?_)
 show wpAny _ _ (if(some (Value.builtin "tuple.__hash__")==some Value.none)=true then _ else _) Q E s
 rw[aE (by rw[beq_builtin_none];exact aD)]
 refine ae (eh hT eQ.lookup ?_)
 show wpAny _ _ (callSpecialIfBoundUnlessNone? (.ref a) "__hash__" _ >>= _) Q E s
 refine ae (wpAny_callSpecialIfBoundUnlessNone?_slot hT eQ (bR eQ hT F.entry_tuple_hash ?_ (F.args_tuple_hash_1 _)))
 show wpAny _ _ (Builtin.Tuple.tupleItemsOf (.ref a) >>= _) _ _ s
 refine ae (wpAny_tupleItemsOf ho hd ?_)
 refine ae ?_
 rw[<-dS]
 show wpAny _ _ (forIn [Value.ref b,v] _ _) _ _ s
 rw[cK]
 refine ae ?_
 refine ae (wpAny_pyHash_tuple (bY (in1_units A) hu) hb ?_)
 refine ai ?_
 show wpAny _ _ (forIn [v] _ _) _ _ _
 rw[cK]
 refine ae ?_
 refine ae (knd.pyHash hv ?_)
 refine ai ?_
 show wpAny _ _ (forIn [] _ _) _ _ _
 rw[List.forIn_nil]
 refine ai ?_
 show wpAny _ _ (retInt (Builtin.Tuple.tupleHashOf [tupleKeyHash knd x.1,knd.hash x.2])) _ _ _
 refine wpAny_ret_mkInt ?_
 show wpAny _ _ (if(decide (-(2:Int) ^ 63<=Builtin.Tuple.tupleHashOf [tupleKeyHash knd x.1,knd.hash x.2])&&decide (Builtin.Tuple.tupleHashOf [tupleKeyHash knd x.1,knd.hash x.2]<2 ^ 63))=true then _ else _) Q E _
 unfold uI reduceHash at h
 by_cases hr:(decide (-(2:Int) ^ 63<=Builtin.Tuple.tupleHashOf [tupleKeyHash knd x.1,knd.hash x.2])&&decide (Builtin.Tuple.tupleHashOf [tupleKeyHash knd x.1,knd.hash x.2]<2 ^ 63))=true
 ·rw[aJ hr]
  rw[aJ hr]at h
  exact ai (by simpa [ft]using h)
 ·rw[aE hr]
  rw[aE hr]at h
  exact ae (wpAny_rule (ai (by simpa [ft]using h)))
theorem xQ {x y:List K×K}{a b:Addr}{P:Fin->Shared->Prop}(hu:A.units<cLine)(hx:ix knd s.heap x a)(hy:ix knd s.heap y b)(h:P (.done (.ret (.bool (decide (x=y))))) s):
  wpAny (model prog w) A (Builtin.«tuple.__eq__» ⟨[.ref a,.ref b],[]⟩) P E s:=by
 have hTb:=hy.typeIs
 obtain⟨oa,na,ba,va,hoa,_,hda,hia,hva⟩:=hx
 obtain⟨ob,nb,bb,vb,hob,_,hdb,hib,hvb⟩:=hy
 show wpAny _ _ (isInstance (.ref b) (.type "tuple") >>= _) _ _ s
 refine ae (eZ hTb isSubtype_tuple_tuple ?_)
 simp only[bU,aO,bG]
 refine ae (wpAny_tupleItemsOf hoa hda ?_)
 refine ae (wpAny_tupleItemsOf hob hdb ?_)
 refine ae ?_
 show wpAny _ _ (forIn [(Value.ref ba,Value.ref bb),(va,vb)] _ _) _ _ s
 rw[cK]
 refine ae ?_
 refine ae (wpAny_eqBool_tuple hu hia hib ?_)
 by_cases h1:x.1=y.1
 ·rw[bA h1]
  simp only[bU,aO,bG]
  refine ai ?_
  show wpAny _ _ (forIn [(va,vb)] _ _) _ _ s
  rw[cK]
  refine ae ?_
  refine ae (knd.eqBool (a:=x.2) (b:=y.2) hva hvb ?_)
  by_cases h2:x.2=y.2
  ·rw[bA h2]
   simp only[bU,aO,bG]
   refine ai ?_
   show wpAny _ _ (forIn [] _ _) _ _ s
   rw[List.forIn_nil]
   refine ai ?_
   have e:x=y:=dj h1 h2
   rw[bA e]at h
   exact ai h
  ·rw[aU h2]
   simp only[fc,cP]
   have hf:¬x=y:=λe=>h2 (by rw[e])
   rw[aU hf]at h
   exact ae (ai (ai (ai (ai h))))
 ·rw[aU h1]
  simp only[fc,cP]
  have hf:¬x=y:=λe=>h1 (by rw[e])
  rw[aU hf]at h
  exact ae (ai (ai (ai (ai h))))
theorem qJ {x y:List K×K}{a b:Addr}{Q:Bool->Shared->Prop}(hu:A.units+1<cLine)(hx:ix knd s.heap x a)(hy:ix knd s.heap y b)(h:Q (decide (x=y)) s):
  wpAny (model prog w) A (eqBool (.ref a) (.ref b)) Q E s:=by
 unfold eqBool
 try with_reducible refine dw ?_
 show wpAny _ _ (if(Value.ref a==Value.ref b)=true then _ else _) Q E s
 by_cases hab:(Value.ref a==Value.ref b)=true
 ·rw[aJ hab]
  have e:a=b:=by have:=eq_of_beq hab;injection this
  subst e
  obtain rfl:=hx.inj hy
  exact ae (wpAny_rule (ai (by simpa using h)))
 ·rw[aE hab]
  exact ae (wpAny_richCompare_same_room (op:=.Eq) hx.typeIs hy.typeIs F.slot_tuple_eq
   (bR F.slot_tuple_eq hx.typeIs F.entry_tuple_eq (xQ (bY (in1_units A) hu) hx hy ⟨_,rfl,(λe=>nomatch e),cF h⟩) (F.args_tuple_eq_2 _ _)) (by omega))
theorem y4 (m:Nat){ks:List K}{a:Addr}{Q:Bool->Shared->Prop}(hk:IsTupleKey knd s.heap ks a)(h:Q true s):wpAny (model prog w) A (eqIsQuiet (m+1) (.ref a)) Q E s:=by
 have hT:=hk.typeIs
 obtain⟨o,items,n,ho,_,hd,hi⟩:=hk
 unfold eqIsQuiet
 refine ae (eh hT F.slot_tuple_eq.lookup ?_)
 show wpAny _ _ (isInstance (.ref a) (.type "tuple") >>= _) _ _ s
 refine ae (eZ hT isSubtype_tuple_tuple ?_)
 simp only[bU,aO,bG]
 refine ae (wpAny_seqItems ho hd ?_)
 refine ae ?_
 show wpAny _ _ (forIn items _ _) _ _ s
 rw[<-dS]
 refine wpAny_forIn_list _ (λrest r s'=>r.1=none/\s'=s/\∀ v∈rest,carriedByValue v=true) _ ?_ ?_ _ _ ⟨rfl,rfl,hi.byValue⟩
 ·rintro v rest r s' ⟨hr,rfl,mB⟩
  rw[eqIsQuiet_byValue _ (mB v aA)]
  refine ae (ai ?_)
  simp only[bU,aO,bG]
  exact ai ⟨rfl,rfl,λu hu'=>mB u (aw _ hu')⟩
 ·rintro⟨r1,r2⟩ s' ⟨hr,rfl,_⟩
  simp only at hr
  subst hr
  exact ai h
theorem Ar (m:Nat){x:List K×K}{a:Addr}{Q:Bool->Shared->Prop}(hk:ix knd s.heap x a)(h:Q true s):wpAny (model prog w) A (eqIsQuiet (m+2) (.ref a)) Q E s:=by
 have hT:=hk.typeIs
 obtain⟨o,n,b,v,ho,_,hd,hb,hv⟩:=hk
 unfold eqIsQuiet
 refine ae (eh hT F.slot_tuple_eq.lookup ?_)
 show wpAny _ _ (isInstance (.ref a) (.type "tuple") >>= _) _ _ s
 refine ae (eZ hT isSubtype_tuple_tuple ?_)
 simp only[bU,aO,bG]
 refine ae (wpAny_seqItems ho hd ?_)
 refine ae ?_
 show wpAny _ _ (forIn #[Value.ref b,v] _ _) _ _ s
 rw[<-dS]
 show wpAny _ _ (forIn [Value.ref b,v] _ _) _ _ s
 rw[cK]
 refine ae ?_
 refine ae (y4 m hb ?_)
 simp only[bU,aO,bG]
 refine ai ?_
 show wpAny _ _ (forIn [v] _ _) _ _ s
 rw[cK]
 refine ae ?_
 rw[eqIsQuiet_byValue _ (knd.byValue _ _ hv)]
 refine ae (ai ?_)
 simp only[bU,aO,bG]
 refine ai ?_
 show wpAny _ _ (forIn [] _ _) _ _ s
 rw[List.forIn_nil]
 exact ai (ai h)
end
def oO {prog:Program}{w:World}{K:Type} [DecidableEq K] (knd:PySem.KeyKind prog w K):HeapKind prog w (List K×K) where
 is:=ix knd
 hash:=uI knd
 draws:=λx=>x.1.length+3
 room:=λA=>A.units+1<cLine
 inj:=λhx hy=>hx.inj hy
 keeps:=λx ho hd hs=>x.keeps ho hd hs
 pyHash:=λhu hk h=>qI hu hk h
 eqBool:=λhu hx hy h=>qJ hu hx hy h
 quiet:=λhk h=>Ar 6 hk h
abbrev SK:=List Key×Key
abbrev KvN:=List (SK×Addr×V)
abbrev PN:KvN->List (SK×Addr×Value)->Prop:=Paired λp q=>p.1=q.1/\p.2.1=q.2.1/\RelV p.2.2 q.2.2
def Em (P:Program)(w:World)(a:Addr)(kvs:KvN)(h:Heap):Prop:=kvs.length<=sizeLine/\(a==sysModules)=false/\∃ xs:List (SK×Addr×Value),PN kvs xs/\
 ∃ o es ep,h.get? a=some o/\o.ExactDict/\o.data = .dict es ep/\es.toList=xs.map (entryOfKey (oO (gF P w)))/\(xs.map (·.1)).Nodup
def nD (P:Program)(w:World)(a:Addr)(kvs:KvN):HO:=.ext (Em P w a kvs)
theorem Em.mono {P:Program}{w:World}{a:Addr}{kvs:KvN}{h1 h2:Heap}(p:Em P w a kvs h1)(e:∀ o,h1.get? a=some o->h2.get? a=some o):Em P w a kvs h2:=by
 obtain⟨p1,p2,xs,p3,o,es,ep,p4,p5⟩:=p
 exact⟨p1,p2,xs,p3,o,es,ep,e _ p4,p5⟩
theorem BH {P:Program}{w:World}{H:Hp}{h:Heap}{a:Addr}{kvs:KvN}(p:Em P w a kvs h):iA P w H h a (nD P w a kvs):=
 ⟨p,(by obtain⟨_,_,_,_,o,_,_,e,_⟩:=p;exact⟨o,e⟩),λh1 h2 q e=>q.mono e⟩
def jN (H:Hp)(c:Addr)(k:SK):Prop:=∃ b,H c=some (.tup [.ref b,kV k.2])/\H b=some (.tup (k.1.map kV))
theorem jN.same {H H':Hp}{c:Addr}{k:SK}(h:jN H c k)(s:fI H H'):jN H' c k:=h.imp λb h=>⟨s _ _ h.1,s _ _ h.2⟩
theorem jN.kD {H H':Hp}{c:Addr}{k:SK}(h:jN H c k)(s:∀ b ys,H b=some (.tup ys)->H' b=some (.tup ys)):jN H' c k:=h.imp λb h=>⟨s _ _ h.1,s _ _ h.2⟩
structure DN (P:Program)(w:World)(H:Hp)(a:Addr)(kvs:KvN):Prop where
 at_:H a=some (nD P w a kvs)
 keys:∀ p∈kvs,jN H p.2.1 p.1
theorem DN.same {P:Program}{w:World}{H H':Hp}{a:Addr}{kvs:KvN}(h:DN P w H a kvs)(s:fI H H'):DN P w H' a kvs:=⟨s _ _ h.at_,λp hp=>(h.keys p hp).same s⟩
def valN (kvs:KvN)(k:SK):Option V:=(kvs.find? λp=>decide (p.1=k)).map (·.2.2)
def putN (kvs:KvN)(k:SK)(c:Addr)(v:V):KvN:=if(valN kvs k).isSome then kvs.map (λp=>if p.1=k then(p.1,p.2.1,v)else p)else kvs ++ [(k,c,v)]
theorem jA {p:SK×Addr×V}{r:KvN}{k:SK}(e:p.1=k):valN (p::r) k=some p.2.2:=by simp[valN,cm,e]
theorem jB {p:SK×Addr×V}{r:KvN}{k:SK}(e:¬p.1=k):valN (p::r) k=valN r k:=by simp[valN,cm,e]
theorem tX (k j:SK)(y:V):∀ kvs:KvN,valN (kvs.map λp=>if p.1=k then(p.1,p.2.1,y)else p) j=(valN kvs j).map λx=>if j=k then y else x
 |[]=>rfl
 |p::r=>by
  rw[bg]
  by_cases e:p.1=k
  ·rw[aJ e]
   by_cases f:p.1=j
   ·rw[jA (p:=(p.1,p.2.1,y)) f,jA f,eT,aJ (f.symm.trans e)]
   ·rw[jB (p:=(p.1,p.2.1,y)) f,jB f];exact tX k j y r
  ·rw[aE e]
   by_cases f:p.1=j
   ·rw[jA f,jA f,eT,aE (λz=>e (f.trans z))]
   ·rw[jB f,jB f];exact tX k j y r
theorem wq (k j:SK)(c:Addr)(y:V):∀ kvs:KvN,valN kvs k=none->valN (kvs ++ [(k,c,y)]) j=if j=k then some y else valN kvs j
 |[],_=>by
  rw[List.nil_append]
  by_cases f:j=k
  ·rw[aJ f,jA (p:=(k,c,y)) f.symm]
  ·rw[aE f,jB (p:=(k,c,y)) (λz=>f z.symm)]
 |p::r,h=>by
  have hp:¬p.1=k:=λe=>by rw[jA e]at h;cases h
  rw[jB hp]at h
  rw[List.cons_append]
  by_cases f:p.1=j
  ·rw[jA f,jA f,aE (λz=>hp (f.trans z))]
  ·rw[jB f,jB f];exact wq k j c y r h
theorem yF (kvs:KvN)(k j:SK)(c:Addr)(y:V):valN (putN kvs k c y) j=if j=k then some y else valN kvs j:=by
 unfold putN
 split
 ·rename_i h
  rw[tX]
  by_cases f:j=k
  ·subst f
   obtain⟨v,hv⟩:=cN.mp h
   rw[hv,aJ rfl,eT,aJ rfl]
  ·rw[aE f]
   cases valN kvs j with
   |none=>rfl
   |some v=>rw[eT,aE f]
 ·rename_i h
  exact wq k j c y kvs (by simpa using h)
theorem uD (kvs:KvN)(k:SK)(c:Addr)(v:V):(putN kvs k c v).length<=kvs.length+1:=by
 unfold putN
 split
 ·rw[aa];omega
 ·rw[ak,aI];exact au _
theorem PN.val {kvs:KvN}{xs:List (SK×Addr×Value)}(r:PN kvs xs)(k:SK):qC (valN kvs k) ((atKey xs k).map (·.2)):=by
 induction r with
 |nil=>exact True.intro
 |@cons p q ps qs h t ih=>
  obtain⟨h1,_,h2⟩:=h
  by_cases e:p.1=k
  ·have e':q.1=k:=h1.symm.trans e
   have b:atKey (q::qs) k=some q.2:=by simp[atKey,cm,e']
   rw[jA e,b];exact h2
  ·have e':¬q.1=k:=λz=>e (h1.trans z)
   have b:atKey (q::qs) k=atKey qs k:=by simp[atKey,cm,e']
   rw[jB e,b];exact ih
theorem PN.Ed {kvs:KvN}{xs:List (SK×Addr×Value)}(r:PN kvs xs)(k:SK){y:V}{u:Value}(ry:RelV y u):PN (kvs.map λp=>if p.1=k then(p.1,p.2.1,y)else p) (xs.map (putAt k u)):=by
 induction r with
 |nil=>exact .nil
 |@cons p q ps qs h t ih=>
  rw[bg,bg]
  refine .cons ?_ ih
  obtain⟨h1,h2,h3⟩:=h
  unfold putAt
  by_cases e:p.1=k
  ·rw[aJ e,aJ (h1.symm.trans e)];exact⟨h1,h2,ry⟩
  ·rw[aE e,aE (λz=>e (h1.trans z))];exact⟨h1,h2,h3⟩
theorem PN.put {kvs:KvN}{xs:List (SK×Addr×Value)}(r:PN kvs xs)(k:SK)(c:Addr){y:V}{u:Value}(ry:RelV y u):PN (putN kvs k c y) (storedH xs k c u):=by
 have e:(valN kvs k).isSome=(atKey xs k).isSome:=by rw[(r.val k).nH,fj]
 unfold putN storedH
 rw[e]
 by_cases q:(atKey xs k).isSome=true
 ·rw[aJ q,aJ q];exact r.Ed k ry
 ·rw[aE q,aE q];exact Paired.snoc r ⟨rfl,rfl,ry⟩
section
variable {P:Program}{w:World}{H:Hp}{h:Heap}{a c:Addr}{kvs:KvN}{k:SK}
theorem rk (ok:HOk P w H h)(e:jN H c k):(oO (gF P w)).is h k c:=by
 obtain⟨b,e1,e2⟩:=e
 obtain⟨_,its,r,o,h1,h2,n,h3⟩:=(show iA P w H h c (.tup [.ref b,kV k.2]) from ok c _ e1)
 cases r with
 |cons r1 r2=>
  cases r2 with
  |cons r3 r4=>
   cases r4
   cases r1
   exact⟨o,n,b,_,h1,h2,h3,qz ok e2,oC r3⟩
theorem zP (ok:HOk P w H h)(e:DN P w H a kvs):kvs.length<=sizeLine/\(a==sysModules)=false/\∃ xs,PN kvs xs/\h.DictOfH (oO (gF P w)) a xs:=by
 obtain⟨⟨z,y,xs,r,o,es,ep,h1,h2,h3,h4,h5⟩,_,_⟩:=(show iA P w H h a (nD P w a kvs) from ok a _ e.at_)
 refine⟨z,y,xs,r,o,es,ep,h1,h2,h3,h4,λx hx=>?_,h5⟩
 have all:∀ {l:KvN}{m:List (SK×Addr×Value)},PN l m->(∀ p∈l,jN H p.2.1 p.1)->∀ x∈m,(oO (gF P w)).is h x.1 x.2.1:=by
  intro l m q
  induction q with
  |nil=>intro _ x hx;exact nomatch hx
  |@cons p q ps qs hq t ih=>
   intro hk x hx
   rcases aG.mp hx with e |hx
   ·subst e
    have:=rk ok (hk p aA)
    rw[hq.1,hq.2.1]at this
    exact this
   ·exact ih (λp hp=>hk p (aw _ hp)) x hx
 exact all r e.keys x hx
end
theorem m7 {P:Program}{w:World}{A:Around}(hu:A.units+2<cLine):(oO (gF P w)).room A.in1:=by
 show A.in1.units+1<cLine
 have:=in1_units A
 omega
section
variable {X:Cx}{pins:List (Addr×Obj)}{σ:St}{H:Hp}{s:Shared}{a c:Addr}{v:V}{r:Value}{k:SK}{kvs:KvN}{A:Around}{E:Value->Shared->Prop}
theorem CW {Q:Value->Shared->Prop}(hu:A.units+2<cLine)(I:Inv X pins σ H s)(e:DN X.prog X.w H a kvs)(ek:jN H c k)(l:valN kvs k=some v)(h:∀ w' s',Inv X pins σ H s'->RelV v w'->Q w' s'):
  wpAny (model X.prog X.w) A (getItem (.ref a) (.ref c)) Q E s:=by
 obtain⟨z,hd,xs,rel,dd⟩:=zP I.hok e
 obtain⟨w',hw,rw'⟩:=qC.some_of (v:=v) (o:=(atKey xs k).map (·.2)) (by rw[<-l];exact rel.val k)
 obtain⟨p,hp,hp2⟩:=Option.map_eq_some_iff.mp hw
 refine wpAny_getItem_heap (m7 hu) (rk I.hok ek) dd hp ?_
 rw[hp2]
 exact h w' _ (I.tok _) rw'
theorem Gw {Q:Value->Shared->Prop}(hu:A.units+2<cLine)(I:Inv X pins σ H s)(e:DN X.prog X.w H a kvs)(ek:jN H c k)(h:∀ s',Inv X pins σ H s'->Q (.bool (!(valN kvs k).isSome)) s'):
  wpAny (model X.prog X.w) A (compareOp .NotIn (.ref c) (.ref a)) Q E s:=by
 obtain⟨z,hd,xs,rel,dd⟩:=zP I.hok e
 refine wpAny_notIn_heap (m7 hu) (rk I.hok ek) hd dd ?_
 have q:=(rel.val k).nH
 rw[fj]at q
 rw[<-q]
 exact h _ (I.tok _)
theorem CV {Q:Unit->Shared->Prop}(hu:A.units+2<cLine)(I:Inv X pins σ H s)(e:DN X.prog X.w H a kvs)(ek:jN H c k)(l:kvs.length<sizeLine)(rv:RelV v r)(h:∀ s',Inv X pins σ (upd H a (nD X.prog X.w a (putN kvs k c v))) s'->Q () s'):
  wpAny (model X.prog X.w) A (setItem (.ref a) (.ref c) r) Q E s:=by
 obtain⟨z,hd,xs,rel,dd⟩:=zP I.hok e
 have hz:xs.length<=sizeLine:=by rw[<-bZ rel];exact z
 have hl:(putN kvs k c v).length<=sizeLine:=by have:=uD kvs k c v;omega
 refine wpAny_setItem_heap (hsz:=hz) (m7 hu) (rk I.hok ek) dd λh' dd' hs=>h _ ?_
 obtain⟨q,es,ep,hq,h2,h3,h4,_,h5⟩:=dd'
 exact rC I (by rw[e.at_];exact True.intro) hs ⟨q,hq⟩ (BH ⟨hl,hd,_,rel.put k c rv,q,es,ep,hq,h2,h3,h4,h5⟩)
end
theorem EH {P:Program}{w:World}{H:Hp}{a b:Addr}{kvs:KvN}{ys:List V}{o:HO}(h:H a=some (nD P w a kvs))(e:H b=some (.tup ys)):(upd H a o) b=some (.tup ys):=by
 rw[fG (gA e h (λz=>nomatch z))];exact e
theorem DN.put {P:Program}{w:World}{H:Hp}{a c:Addr}{kvs:KvN}{k:SK}{v:V}(h:DN P w H a kvs)(ek:jN H c k):DN P w (upd H a (nD P w a (putN kvs k c v))) a (putN kvs k c v):=by
 refine⟨fC,λp hp=>?_⟩
 refine jN.kD (H:=H) ?_ λb ys e=>EH h.at_ e
 unfold putN at hp
 split at hp
 ·obtain⟨q,hq,e⟩:=ao.mp hp
  by_cases f:q.1=k
  ·rw[aJ f]at e;rw[<-e];exact h.keys q hq
  ·rw[aE f]at e;rw[<-e];exact h.keys q hq
 ·rcases aF.mp hp with z |z
  ·exact h.keys p z
  ·rw[bx.mp z];exact ek
def Hd (P:Program)(w:World)(td ty:TE):TE:=λσ H Q=>td σ H λx H1=>ty σ H1 λy H2=>∃ a kvs c k v,x = .ref a/\y = .ref c/\DN P w H2 a kvs/\jN H2 c k/\valN kvs k=some v/\Q v H2
def F8 (P:Program)(w:World)(ty td:TE):TE:=λσ H Q=>ty σ H λy H1=>td σ H1 λx H2=>∃ a kvs c k,x = .ref a/\y = .ref c/\DN P w H2 a kvs/\jN H2 c k/\Q (.bl (!(valN kvs k).isSome)) H2
def JT (P:Program)(w:World)(td ty tv:TE):TS:=λD σ H=>tv σ H λv H1=>td σ H1 λx H2=>ty σ H2 λy H3=>∃ a kvs c k,x = .ref a/\y = .ref c/\DN P w H3 a kvs/\jN H3 c k/\kvs.length<sizeLine/\D.nx σ (upd H3 a (nD P w a (putN kvs k c v)))
def JJ (P:Program)(w:World):TE:=λ_ H Q=>∀ p,H p=none->Q (.ref p) (upd H p (nD P w p []))
section
variable {X:Cx}{o i e value:Expr}{pos pos' JB:Pos}{td ty tv:TE}
theorem Dx {pins:List (Addr×Obj)}{σ:St}{H:Hp}{s:Shared}{a:Addr}{kvs:KvN}(I:Inv X pins σ H s)(g:DN X.prog X.w H a kvs):s.TypeIs (.ref a) "dict" :=by
 obtain⟨_,_,xs,_,o,es,ep,h1,h2,_⟩:=zP I.hok g
 exact⟨o,h1,h2.1⟩
theorem qW (hu:X.A.units+2<cLine)(ho:PE X o td)(hi:PE X i ty)(hs:FQ i):PE X (.Subscript o i pos) (Hd X.prog X.w td ty):=by
 intro pins s σ H Q I h
 refine xy fe.lookup hs (thn (ho pins s σ H _ I h) λu s1 ⟨x,H1,I1,rx,q1⟩=>thn (hi pins s1 σ H1 _ I1 q1) λiv s2 ⟨y,H2,I2,ry,a,kvs,c,k,v,ex,ey,g,gk,l,q2⟩=>?_)
 subst ex ey
 obtain rfl:u=Value.ref a:=rx
 obtain rfl:iv=Value.ref c:=ry
 exact⟨Dx I2 g,CW hu I2 g gk l λw' s3 I3 rw'=>⟨v,H2,I3,rw',q2⟩⟩
theorem wR (hu:X.A.units+2<cLine)(hi:PE X i ty)(ho:PE X o td):PC X .NotIn i o (F8 X.prog X.w ty td):=by
 intro pins s σ H Q I h
 refine thn (hi pins s σ H _ I h) λiv s1 ⟨y,H1,I1,ry,q1⟩=>thn (ho pins s1 σ H1 _ I1 q1) λu s2 ⟨x,H2,I2,rx,a,kvs,c,k,ex,ey,g,gk,q2⟩=>?_
 subst ex ey
 obtain rfl:u=Value.ref a:=rx
 obtain rfl:iv=Value.ref c:=ry
 exact Gw hu I2 g gk λs3 I3=>⟨.bl (!(valN kvs k).isSome),H2,I3,rfl,q2⟩
theorem xP (hu:X.A.units+2<cLine)(ho:PE X o td)(hi:PE X i ty)(hv:PE X value tv)(hs:swapsWith value (some (.Subscript o i pos')) pos.line X.env=pure false):
  PS X (.Assign [.Subscript o i pos'] value pos) (JT X.prog X.w td ty tv):=by
 intro pins s σ H D I h
 refine wpAny_Assign_Subscript (thn (hv pins s σ H _ I h) λr s1 ⟨v,H1,I1,rv,q1⟩=>thn (ho pins s1 σ H1 _ I1 q1) λu s2 ⟨x,H2,I2,rx,q2⟩=>thn (hi pins s2 σ H2 _ I2 q2) λiv s3 ⟨y,H3,I3,ry,a,kvs,c,k,ex,ey,g,gk,l,q3⟩=>?_) hs
 subst ex ey
 obtain rfl:u=Value.ref a:=rx
 obtain rfl:iv=Value.ref c:=ry
 exact CV hu I3 g gk l rv λs4 I4=>⟨σ,_,I4,q3⟩
theorem Gn:PE X (.Dict [] [] pos) (JJ X.prog X.w):=λpins s σ H Q I h=>
 wpAny_Dict_empty ⟨.ref s.heap.objs.size,_,I.laid (a:=s.heap.objs.size) (o:=nD X.prog X.w s.heap.objs.size []) (t':=s.toks) (λ_ _ q=>ax _ q) (au _)
  (BH ⟨aK _,eV.mpr (bI (aL I.big)),[],.nil,_,#[],0,aQ _ rfl,⟨rfl,rfl,rfl⟩,rfl,rfl,cH⟩),rfl,h _ (I.hok.fresh (au _))⟩
end
open TS
theorem Iw {X:Cx}{pins:List (Addr×Obj)}{σ:St}{H:Hp}{s:Shared}{a c:Addr}{v:V}{r:Value}{k:SK}{kvs:KvN}{A:Around}{E:Value->Shared->Prop}{Q:Unit->Shared->Prop}(hu:A.units+1<cLine)(I:Inv X pins σ H s)(e:DN X.prog X.w H a kvs)(ek:jN H c k)(l:kvs.length<sizeLine)(rv:RelV v r)
  (h:∀ s',Inv X pins σ (upd H a (nD X.prog X.w a (putN kvs k c v))) s'->Q () s'):wpAny (model X.prog X.w) A (dictSet a (.ref c) r) Q E s:=by
 obtain⟨z,hd,xs,rel,dd⟩:=zP I.hok e
 have hz:xs.length<=sizeLine:=by rw[<-bZ rel];exact z
 have hl:(putN kvs k c v).length<=sizeLine:=by have:=uD kvs k c v;omega
 refine wpAny_dictSet_heap (hsz:=hz) hu (rk I.hok ek) dd λh' dd' hs=>h _ ?_
 obtain⟨q,es,ep,hq,h2,h3,h4,_,h5⟩:=dd'
 exact rC I (by rw[e.at_];exact True.intro) hs ⟨q,hq⟩ (BH ⟨hl,hd,_,rel.put k c rv,q,es,ep,hq,h2,h3,h4,h5⟩)
section
variable {X:Cx}{pins:List (Addr×Obj)}{σ:St}{H1:Hp}{s2:Shared}{scope:Scope}{N:List Str}{own:Nat}{cap:List (Option Nat)}{cl:List (Str×Addr)}{fp:List Addr}
 {tg iter elt vlt:Expr}{ifs:List Expr}{pos:Pos}{g:TG}{tt:TT}{te tv:TE}{wi:TI}
def Jr (P:Program)(w:World)(J:It)(g:TG)(tt:TT)(te tv:TE)(cap:List (Option Nat))(σ:St)(Q:VK)(l:Addr)(H1:Hp):Prop:=
 ∃ W:Nat->Nat->Hp->Prop,(∃ m,W 0 m (upd H1 l (nD P w l [])))/\∀ i m H,W i m H->
  (J.stop i H/\Q (.ref l) H)\/(J.go i H/\∃ N:Hp->Prop,(∀ H',N H'->∃ m',m'<m/\W (i+1) m' H')/\
   ∀ x H',J.yld i H x H'->g x (iG cap σ) H' λσ2 H2=>tt σ2 H2 λb H3=>
    if b=true then te σ2 H3 λy H4=>tv σ2 H4 λv H5=>∃ (kvs:KvN) (k:SK) (b:Addr),y = .ref b/\DN P w H5 l kvs/\jN H5 b k/\kvs.length<sizeLine/\N (upd H5 l (nD P w l (putN kvs k b v)))
    else N H3)
def LW (P:Program)(w:World)(wi:TI)(cap:List (Option Nat))(g:TG)(tt:TT)(te tv:TE):TE:=λσ H Q=>wi σ H λJ H1=>∀ l,H1 l=none->
 Jr P w J g tt te tv cap σ Q l H1
theorem A6 {it:Addr}{tn:Nat->Heap->Prop}{J:It}{Q:VK}{RR:Value->Addr->Result->Shared->Prop}{E:Value->Shared->Prop}(hu:X.A.units+1<cLine)(I:Inv X pins σ H1 s2)(T:Turn X.prog X.w X.K tg J fp it tn)(t0:tn 0 s2.heap)
  (f:∀ b∈fp,lO X pins H1 b) (hc:X.calm=true) (C:gH X.env.scope X.N scope N own cap) (ho:qi own g)
  (jT:∀ x c,cl.lookup x=some c->X.env.cells.lookup x=some c) (lX:∀ y∈scope.names,y.2 = .free->∃ c,cl.lookup y.1=some c)
  (hg:∀ s3 H3,PG (fU X scope cl N fp s3 H3) tg g) (ht:∀ s3 H3,sF (fU X scope cl N fp s3 H3) ifs tt) (he:∀ s3 H3,PE (fU X scope cl N fp s3 H3) elt te) (hv:∀ s3 H3,PE (fU X scope cl N fp s3 H3) vlt tv)
  (hw:∀ l,H1 l=none->Jr X.prog X.w J g tt te tv cap σ Q l H1)
  (fin:∀ l C s' H' m',Inv X pins σ H' s'->s'.heap.Ns C m'->H' C=none->Apart X pins C->Q (.ref l) H'->RR (.ref l) C (.ok .next) s'):
  wpAny (model X.prog X.w) X.A newDict (λacc s₃=>wpAny (model X.prog X.w) X.A (newFunctionEnv scope X.env.globals cl [] X.env.qual none .none (some X.env)) (λrG s₄=>
   codeAny (model X.prog X.w) X.A (.compStart (.DictComp elt vlt [⟨tg,iter,ifs,0⟩] scope pos) 0 (.ref it) acc {rG with scope:=relabel scope X.env}) (RR acc rG.locals) s₄) E s₃) E s2:=by
 refine bX ?_
 refine dF C.sh (by intro y hy;simp at hy) (λh₁ jh jg=>?_) C.kind
 dsimp only at jh jg ⊢
 obtain⟨W,⟨m0,w0⟩,turn⟩:=hw s2.heap.objs.size I.fresh
 have I3:Inv X pins σ (upd H1 s2.heap.objs.size (nD X.prog X.w s2.heap.objs.size [])) {s2 with heap:=s2.heap.push {cls:=.type "dict",data:=.dict #[]}} :=
  I.laid (t':=s2.toks) (λb u e=>ax _ e) (au _) (BH ⟨aK _,eV.mpr (bI (aL I.big)),[],.nil,_,#[],0,aQ _ rfl,⟨rfl,rfl,rfl⟩,rfl,rfl,cH⟩)
 generalize hs3:({s2 with heap:=s2.heap.push {cls:=.type "dict",data:=.dict #[]}} :Shared)=s3 at I3
 have hh3:s3.heap=s2.heap.push {cls:=.type "dict",data:=.dict #[]} :=by rw[<-hs3]
 rw[<-hh3]at jh jg ⊢
 have e4:({s2 with heap:=h₁,toks:=s2.toks+([]:List (Str×Value)).length} :Shared) = {s3 with heap:=h₁,toks:=s2.toks} :=by rw[<-hs3];rfl
 rw[e4]
 have k4:∀ b u,s3.heap.get? b=some u->h₁.get? b=some u:=λb u e=>jg.extBut b u (aL (aC e)) (ax _ e)
 have k3:∀ b u,s2.heap.get? b=some u->s3.heap.get? b=some u:=λb u e=>by rw[hh3];exact ax _ e
 have hb2:∀ b∈fp,b<s2.heap.objs.size:=λb hb=>by obtain⟨o,e,_⟩:=T.obj _ _ t0 b hb;exact aC e
 have f3:∀ b∈fp,lO X pins (upd H1 s2.heap.objs.size (nD X.prog X.w s2.heap.objs.size [])) b:=λb hb=>by
  obtain⟨f0,fr⟩:=f b hb
  exact⟨by rw[fG (aL (hb2 b hb))];exact f0,fr⟩
 have hb3:∀ b∈fp,b<s3.heap.objs.size:=λb hb=>by obtain⟨o,e,_⟩:=T.obj _ _ t0 b hb;exact aC (k3 b o e)
 have I4:=oV (tk:=s2.toks) I3 C jT lX (λb hb=>⟨f3 b hb,hb3 b hb⟩) jh k4
 generalize hH3:upd H1 s2.heap.objs.size (nD X.prog X.w s2.heap.objs.size [])=H3 at *
 have st4:tn 0 h₁:=T.keep _ _ _ t0 λb hb o e=>k4 b o (k3 b o e)
 have fpX:∀ {H':Hp},(∀ b∈fp,H' b=none)->∀ b∈fp,lO (fU X scope cl N fp s3 H3) [] H' b:=λ{H'} hn b hb=>by
  obtain⟨f0,f1,f2,f3',f4,f5⟩:=f3 b hb
  refine⟨hn b hb,aL (hb3 b hb),λhz=>?_,.inl hb,λx c e=>f4 x c (jT x c e),λp hp=>absurd (show p∈([]:List (Addr×Obj)) from hp) (by simp)⟩
  rcases aG.mp (I3.mZ b hz)with z |z
  ·exact f1 z
  ·exact f2 z
 have loop:codeAny (model X.prog X.w) X.A (.compLoop (.DictComp elt vlt [⟨tg,iter,ifs,0⟩] scope pos) 0 (.ref it) (.ref s2.heap.objs.size) (compEnvC scope cl s3.heap.objs.size X.env)) (RR (.ref s2.heap.objs.size) s3.heap.objs.size) {s3 with heap:=h₁,toks:=s2.toks} :=by
  refine rE (λn s'=>∃ i H',Inv (fU X scope cl N fp s3 H3) [] (iG cap σ) H' s'/\tn i s'.heap/\(∀ b∈fp,H' b=none)/\W i n H') ?_ m0 ⟨0,H3,I4,st4,λb hb=>(f3 b hb).1,w0⟩
  rintro n s' ⟨i,H',I',st,fr,w⟩
  rcases turn i n H' w with⟨stop,q⟩|⟨go,NN,hNN,step⟩
  ·refine thn (T.done (fU X scope cl N fp s3 H3) rfl rfl rfl hc i [] s' _ H' (λ_ _=>False) I' (fpX fr) st stop) λr s5 ⟨hr,I5⟩=>?_
   subst hr
   obtain⟨m5,hn5,_⟩:=id I5.loc
   exact fin _ _ s5 H' m5 (comp_back I3 f3 I5) hn5 I5.free (TL.Inv.apart I3) q
  ·refine thn (T.item (fU X scope cl N fp s3 H3) rfl rfl rfl hc i [] s' _ H' (λ_ _=>False) I' (fpX fr) st go) λr s5 ⟨u,hr,h5⟩=>?_
   subst hr
   refine thn h5 λ_ s6 ⟨x,H6,I6,r6,y6,st6,fr6⟩=>?_
   have I6':=I6.pinned (fpX fr6) (T.obj _ _ st6)
   refine thn (hg s3 H3 _ s6 _ H6 x u _ I6' r6 (ho.own _ _ _ _ (step x H6 y6))) λ_ s7 ⟨σ7,H7,I7,q7,l7,o7⟩=>?_
   have cov:∀ (i:Nat) v,(iG cap σ)[i]? = some (some v)->σ7[i]? = some (some v):=λi v e=>by
    obtain⟨j,c1,c2⟩:=mi e
    by_cases hi:i<own
    ·exact(C.oQ hi c1).elim
    ·rw[o7 i (by omega)];exact e
   have back:∀ {H8:Hp}{s8:Shared},Inv (fU X scope cl N fp s3 H3) ([]++nV fp s6.heap) σ7 H8 s8->Inv (fU X scope cl N fp s3 H3) [] (iG cap σ) H8 s8/\tn (i+1) s8.heap/\∀ b∈fp,H8 b=none:=λ{H8 s8} I8=>by
    refine⟨(Inv.lu (pins:=[]) I8).weak l7.symm cov,T.keep _ _ _ st6 λb hb o e=>(I8.pin (b,o) (ay _ (ay _ (iI hb e)))).1,λb hb=>?_⟩
    obtain⟨o,e,d⟩:=T.obj _ _ st6 b hb
    exact(I8.pin (b,o) (ay _ (ay _ (iI hb e)))).2.1
   refine thn (ht s3 H3 _ s7 σ7 H7 _ I7 q7) λb s8 ⟨H8,I8,q8⟩=>?_
   cases b with
   |false=>
    rw[aE aD]at q8 ⊢
    obtain⟨m',hm,w8⟩:=hNN _ q8
    obtain⟨J1,J2,J3⟩:=back I8
    exact⟨m',hm,i+1,H8,J1,J2,J3,w8⟩
   |true=>
    rw[aJ rfl]at q8 ⊢
    refine thn (he s3 H3 _ s8 σ7 H8 _ I8 q8) λu9 s9 ⟨y,H9,I9,r9,q9⟩=>?_
    refine thn (hv s3 H3 _ s9 σ7 H9 _ I9 q9) λv s10 ⟨v',H10,I10,r10,kvs,k,b,ey,ha,hb,hz,n10⟩=>?_
    obtain⟨m',hm,w10⟩:=hNN _ n10
    subst ey
    cases(show u9=Value.ref b from r9)
    refine Iw (X:=fU X scope cl N fp s3 H3) hu I10 ha hb hz r10 λs11 I11=>?_
    obtain⟨J1,J2,J3⟩:=back I11
    exact⟨m',hm,i+1,_,J1,J2,J3,w10⟩
 exact codeAny_compStart_dict loop (T.self X.A 0 _ _ _ st4 loop)
theorem Ic {i:Nat}{x:Str}{pos' DZ:Pos}(hu:X.A.units+1<cLine)(hN:X.N.Nodup)(hi':X.N[i]? = some x)(hx:X.env.scope.names.lookup x=some .local)(hi:PI X tg iter wi)(hc:X.calm=true)(C:gH X.env.scope X.N scope N own cap)(ho:qi own g)
  (hg:∀ cl fp s3 H3,PG (fU X scope cl N fp s3 H3) tg g) (ht:∀ cl fp s3 H3,sF (fU X scope cl N fp s3 H3) ifs tt) (he:∀ cl fp s3 H3,PE (fU X scope cl N fp s3 H3) elt te) (hv:∀ cl fp s3 H3,PE (fU X scope cl N fp s3 H3) vlt tv)
  (hsw:swapsWith (.DictComp elt vlt [⟨tg,iter,ifs,0⟩] scope pos) (some (.Name x pos')) DZ.line X.env=pure true:=by rfl)
  (hs:∀ x,foldedSetIterable iter X.env x=pure x:=by intro _;rfl):PS X (.Assign [.Name x pos'] (.DictComp elt vlt [⟨tg,iter,ifs,0⟩] scope pos) DZ) (DV (LW X.prog X.w wi cap g tt te tv) (oW i)):=by
 intro pins s σ H D I h
 obtain⟨cl,ecl,jT,lX⟩:=kO (scope:=scope) (env:=X.env) λy hy hf=>I.ok.has y.1 (C.fre y hy hf)
 rw[exec_Assign_Name_used _ _ _ _ hsw]
 refine ae (cU (ae ?_))
 show wpAny _ X.A (do let _ <-comprehension (.DictComp elt vlt [⟨tg,iter,ifs,0⟩] scope pos) scope X.env _ newDict false (eval iter X.env) (some (assign (.Name x pos') X.env))) _ _ s
 refine ae (bo (cy (use:=some (assign (.Name x pos') X.env)) (Q:=λ_ s'=>SP X pins D .next s') rfl hs ecl C.kind C.loc
  (thn (hi pins s σ H _ I h) λxv s1 h1=>thn h1 λitv s2 h2=>?_)) (λ_ s' hq=>ai (ai hq)) λ_ _ e=>e)
 obtain⟨it,fp,tn,J,H2,e,I2,T,st2,f2,hw⟩:=h2
 subst e
 refine A6 (RR:=λacc C=>compPost (model X.prog X.w) X.A X.xe (some (assign (.Name x pos') X.env)) (λ_ s'=>SP X pins D .next s') acc C) hu I2 T st2 f2 hc C ho jT lX (hg cl fp) (ht cl fp) (he cl fp) (hv cl fp) hw λl Ca s' H' m' I' hn kG hP q=>?_
 show wpAny _ X.A (assign (.Name x pos') X.env (.ref l)) _ _ _
 refine wpAny_assign_Name (rT I' hN hi' (.inl hx) (v:=.ref l) rfl (λs5 I5 ⟨a,sb,ha⟩=>?_) (.inr hx))
 have hne:Ca≠a:=by
  rcases ha with z |z
  ·rw[z];exact hP.loc
  ·exact λe=>hP.cel x a z e.symm
 refine⟨m',hn.sameBut sb hne,λh'' vj=>⟨_,H',mh I5 hP kG vj,q⟩⟩
end
end TL
namespace TL
open PySem PySem.Spec PyProof.Rows L2
theorem Gz {l:Ln}{ns:List Int}{m m':Mv}(h:m∈mvs l ns)(h':m'∈mvs l ns)(e:m.1=m'.1):m.2=m'.2:=by
 have hw:(Str.ofString "on")≠Str.ofString "back" :=by decide +kernel
 rcases aF.mp h with z |z<;>rcases aF.mp h' with z' |z'<;>
  obtain⟨x,_,rfl⟩:=ao.mp z<;>obtain⟨x',_,rfl⟩:=ao.mp z'
 ·have:x=x':=bL Prod.snd e
  rw[this]
 ·exact absurd (bL Prod.fst e) hw
 ·exact absurd (bL Prod.fst e).symm hw
 ·have:x=x':=bL Prod.snd e
  rw[this]
open TS
def oB (l:Ln)(ns:List Int)(es:List Ent):Prop:=∀ e∈es,match e.2 with
 |none=>e.1=ns
 |some (t,k)=>(k,e.1)∈mvs l t
theorem oB.scan {l:Ln}{ns t:List Int} :∀ {ms:List Mv}{es:List Ent},(∀ m∈ms,m∈mvs l t)->oB l ns es->oB l ns (gW t ms es)
 |[],_,_,h=>h
 |m::r,es,hm,h=>by
  refine oB.scan (ms:=r) (λx hx=>hm x (aw _ hx)) ?_
  unfold m8
  split
  ·exact h
  ·intro e he
   rcases aF.mp he with z |z
   ·exact h e z
   ·rw[bx.mp z]
    exact hm m aA
theorem tU (l:Ln)(ns:List Int):∀ i,oB l ns (fO l ns i)
 | 0=>λe he=>by have z:e=(ns,none):=(by simpa [fO]using he);rw[z]
 |i+1=>by
  have ih:=tU l ns i
  rw[fO]
  split
  ·exact oB.scan (λm hm=>hm) ih
  ·exact ih
structure Way (l:Ln)(ns:List Int)(run:List (Str×Int))(bs:List (List Int)):Prop where
 len:bs.length=run.length+1
 first:bs[0]? = some ns
 step:∀ (j:Nat) k b b',run[j]? = some k->bs[j]? = some b->bs[j+1]? = some b'->(k,b')∈mvs l b
theorem Way.snoc {l:Ln}{ns:List Int}{run:List (Str×Int)}{bs:List (List Int)}{m:Mv}(h:Way l ns run bs){b:List Int}(hb:bs[run.length]? = some b)(hm:m∈mvs l b):Way l ns (run ++ [m.1]) (bs ++ [m.2]):=by
 refine⟨by rw[ak,ak,h.len];rfl,?_,λj k c c' hk hc hc'=>?_⟩
 ·rw[aq (by rw[h.len];omega)];exact h.first
 ·by_cases hj:j<run.length
  ·rw[aq hj]at hk
   rw[aq (by rw[h.len];omega)]at hc hc'
   exact h.step j k c c' hk hc hc'
  ·have hj2:j=run.length:=by
    have:=(af.mp hk).1
    rw[ak,aI]at this
    omega
   subst hj2
   rw[az (au _),bu]at hk
   rw[aq (by rw[h.len];omega),hb]at hc
   rw[az (by rw[h.len];omega),h.len,bu]at hc'
   cases hk;cases hc;cases hc'
   exact hm
theorem Et {l:Ln}{ns:List Int}{es:List Ent}(bm:oB l ns es){t:List Int}{run:List (Str×Int)}(h:oy es t run):∃ bs,Way l ns run bs/\bs[run.length]? = some t:=by
 induction h with
 |@nil t hm=>
  have:t=ns:=bm _ hm
  subst this
  exact⟨[t],⟨rfl,rfl,λj k b b' hk=>by simp at hk⟩,rfl⟩
 |@snoc t' t k r hm _ ih=>
  obtain⟨bs,W,hb⟩:=ih
  have hk:(k,t')∈mvs l t:=bm _ hm
  refine⟨bs ++ [t'],W.snoc (m:=(k,t')) hb hk,?_⟩
  rw[ak,aI,az (by rw[W.len];omega),W.len,bu]
  rfl
end TL
namespace TL
open PySem PySem.Spec PyProof.Rows L2
abbrev Sta:=List Int×Str
abbrev Bk:=Option (Sta×Option (Str×Int))
abbrev EnS:=Sta×Bk
def kS (s:Sta):SK:=(kyI s.1,.inr s.2)
theorem ye {a b:Sta}(h:kS a=kS b):a=b:=by
 have h1:=om (bL Prod.fst h)
 have h2:a.2=b.2:=Sum.inr.inj (bL Prod.snd h)
 exact dj h1 h2
def jU (t:List Int)(w:Str)(x:List EnS×List Sta)(m:Mv):List EnS×List Sta:=
 open Classical in if m.1.1=w/\(m.2,w)∉x.1.map (·.1)then(x.1 ++ [((m.2,w),some ((t,w),some m.1))],x.2 ++ [(m.2,w)])else x
def g6 (t:List Int)(w:Str)(ms:List Mv)(x:List EnS×List Sta):List EnS×List Sta:=ms.foldl (jU t w) x
theorem Ao {t:List Int}{w:Str}{ms:List Mv}{x:List EnS×List Sta}{j:Nat}{m:Mv}(h:ms[j]? = some m):g6 t w (ms.take (j+1)) x=jU t w (g6 t w (ms.take j) x) m:=by
 unfold g6
 rw[bh,h,dh]
 rfl
theorem vT (t:List Int)(w:Str)(x:List EnS×List Sta)(m:Mv):x.2 <+:(jU t w x m).2/\x.1 <+:(jU t w x m).1:=by
 unfold jU
 split
 ·exact⟨cW _ _,cW _ _⟩
 ·exact⟨bK _,bK _⟩
theorem l0 (t:List Int)(w:Str):∀ (ms:List Mv) (x:List EnS×List Sta),x.2 <+:(g6 t w ms x).2/\x.1 <+:(g6 t w ms x).1
 |[],x=>⟨bK _,bK _⟩
 |m::r,x=>by
  have h1:=vT t w x m
  have h2:=l0 t w r (jU t w x m)
  exact⟨h1.1.trans h2.1,h1.2.trans h2.2⟩
theorem uo (t:List Int)(w:Str)(ms:List Mv)(x:List EnS×List Sta)(j:Nat):(g6 t w (ms.take j) x).2 <+:(g6 t w ms x).2/\(g6 t w (ms.take j) x).1 <+:(g6 t w ms x).1:=by
 have:=l0 t w (ms.drop j) (g6 t w (ms.take j) x)
 have e:g6 t w (ms.drop j) (g6 t w (ms.take j) x)=g6 t w ms x:=by
  unfold g6
  rw[<-dh,cZ]
 rw[e]at this
 exact this
def goS (l:Ln)(x:List EnS×List Sta):Nat->List EnS×List Sta
 | 0=>x
 |i+1=>match (goS l x i).2[i]? with
  |some s=>g6 s.1 s.2 (mvs l s.1) (goS l x i)
  |none=>goS l x i
theorem zO {l:Ln}{x:List EnS×List Sta}{i:Nat}{s:Sta}(h:(goS l x i).2[i]? = some s):goS l x (i+1)=g6 s.1 s.2 (mvs l s.1) (goS l x i):=by
 rw[goS,h]
theorem wF {l:Ln}{P:Sta->Prop}{t:List Int}{w:Str}(h:∀ m∈mvs l t,P (m.2,w)):∀ {ms:List Mv}{x:List EnS×List Sta},(∀ m∈ms,m∈mvs l t)->(∀ s∈x.2,P s)->∀ s∈(g6 t w ms x).2,P s
 |[],x,_,hx=>hx
 |m::r,x,hm,hx=>by
  refine wF h (ms:=r) (x:=jU t w x m) (λy hy=>hm y (aw _ hy)) ?_
  unfold jU
  split
  ·intro s hs
   rcases aF.mp hs with z |z
   ·exact hx s z
   ·rw[bx.mp z];exact h m (hm m aA)
  ·exact hx
theorem tQ {l:Ln}{P:Sta->Prop}(hP:∀ s m,P s->m∈mvs l s.1->P (m.2,s.2)){x:List EnS×List Sta}(hx:∀ s∈x.2,P s):∀ i,∀ s∈(goS l x i).2,P s
 | 0=>hx
 |i+1=>by
  rw[goS]
  split
  ·rename_i s hs
   exact wF (λm hm=>hP s m (tQ hP hx i s (av hs)) hm) (λm hm=>hm) (tQ hP hx i)
  ·exact tQ hP hx i
def Bc (K:PySem.W.Frag)(H:Hp):Bk->V->Prop
 |none,v=>v = .non
 |some (s,none),v=>∃ ad c,v = .ref ad/\H ad=some (.tup [.ref c,.non])/\jN H c (kS s)
 |some (s,some m),v=>∃ ad c p1,v = .ref ad/\H ad=some (.tup [.ref c,.ref p1])/\jN H c (kS s)/\SqT K H p1 [.str m.1,.int m.2]
theorem Bc.to {K:PySem.W.Frag}{H H':Hp}(f:∀ b ys,H b=some (.tup ys)->H' b=some (.tup ys))(g:∀ b ys,SqT K H b ys->SqT K H' b ys):∀ {b:Bk}{v:V},Bc K H b v->Bc K H' b v
 |none,v,h=>h
 |some (s,none),v,h=>by
  obtain⟨ad,c,e,h1,h2⟩:=h
  exact⟨ad,c,e,f _ _ h1,h2.kD f⟩
 |some (s,some m),v,h=>by
  obtain⟨ad,c,p1,e,h1,h2,h3⟩:=h
  exact⟨ad,c,p1,e,f _ _ h1,h2.kD f,g _ _ h3⟩
def kvN (es:List EnS)(cs:List Addr)(vs:List V):KvN:=(es.zip (cs.zip vs)).map λp=>(kS p.1.1,p.2.1,p.2.2)
structure StN (P:Program)(w:World)(K:PySem.W.Frag)(H:Hp)(d:Addr)(es:List EnS)(cs:List Addr)(vs:List V):Prop where
 dn:DN P w H d (kvN es cs vs)
 lc:cs.length=es.length
 lv:vs.length=es.length
 each:∀ (i:Nat) e v,es[i]? = some e->vs[i]? = some v->Bc K H e.2 v
structure StL (H:Hp)(p:Addr)(as:List Addr)(ss:List Sta):Prop where
 at_:H p=some (.lst (as.map V.ref))
 len:as.length=ss.length
 each:∀ (i:Nat) a s,as[i]? = some a->ss[i]? = some s->jN H a (kS s)
theorem StL.same {H H':Hp}{p:Addr}{as:List Addr}{ss:List Sta}(h:StL H p as ss)(s:fI H H'):StL H' p as ss:=⟨s _ _ h.at_,h.len,λi a t h1 h2=>(h.each i a t h1 h2).same s⟩
theorem StN.same {P:Program}{w:World}{K:PySem.W.Frag}{H H':Hp}{d:Addr}{es:List EnS}{cs:List Addr}{vs:List V}(h:StN P w K H d es cs vs)(s:fI H H'):StN P w K H' d es cs vs:=
 ⟨h.dn.same s,h.lc,h.lv,λi e v h1 h2=>(h.each i e v h1 h2).to (λb ys q=>s _ _ q) λb ys q=>gd s q⟩
theorem BR:∀ (es:List EnS) (cs:List Addr) (vs:List V),cs.length=es.length->vs.length=es.length->∀ s:Sta,(valN (kvN es cs vs) (kS s)).isSome=true↔s∈es.map (·.1)
 |[],_,_,_,_,s=>by simp[kvN,valN]
 |e::es,[],_,h,_,s=>by simp at h
 |e::es,c::cs,[],_,h,s=>by simp at h
 |e::es,c::cs,v::vs,h1,h2,s=>by
  have e0:kvN (e::es) (c::cs) (v::vs)=(kS e.1,c,v)::kvN es cs vs:=rfl
  have ih:=BR es cs vs (by simpa using h1) (by simpa using h2) s
  rw[e0,bg,aG]
  by_cases f:e.1=s
  ·rw[jA (p:=(kS e.1,c,v)) (by rw[f])]
   simp[f]
  ·rw[jB (p:=(kS e.1,c,v)) (λz=>f (ye z)),ih]
   exact⟨λz=>.inr z,λz=>z.resolve_left λy=>f y.symm⟩
theorem StN.mem {P:Program}{w:World}{K:PySem.W.Frag}{H:Hp}{d:Addr}{es:List EnS}{cs:List Addr}{vs:List V}(h:StN P w K H d es cs vs)(s:Sta):(valN (kvN es cs vs) (kS s)).isSome=true↔s∈es.map (·.1):=BR es cs vs h.lc h.lv s
theorem BS {es:List EnS}{cs:List Addr}{vs:List V}(h1:cs.length=es.length)(h2:vs.length=es.length):(kvN es cs vs).length=es.length:=by
 unfold kvN
 rw[aa,cz,cz]
 omega
theorem EZ {es:List EnS}{cs:List Addr}{vs:List V}(h1:cs.length=es.length)(h2:vs.length=es.length)(e:EnS)(c:Addr)(v:V):kvN (es ++ [e]) (cs ++ [c]) (vs ++ [v])=kvN es cs vs ++ [(kS e.1,c,v)]:=by
 unfold kvN
 rw[List.zip_append (by omega),List.zip_append (by rw[cz];omega),aB]
 rfl
theorem StN.push {P:Program}{w:World}{K:PySem.W.Frag}{H:Hp}{d c:Addr}{es:List EnS}{cs:List Addr}{vs:List V}{e:EnS}{v:V}(h:StN P w K H d es cs vs)(hn:e.1∉es.map (·.1))(hc:jN H c (kS e.1))(hb:Bc K H e.2 v):
  StN P w K (upd H d (nD P w d (putN (kvN es cs vs) (kS e.1) c v))) d (es ++ [e]) (cs ++ [c]) (vs ++ [v]):=by
 have hv:¬(valN (kvN es cs vs) (kS e.1)).isSome=true:=λz=>hn ((h.mem e.1).mp z)
 have ep:putN (kvN es cs vs) (kS e.1) c v=kvN (es ++ [e]) (cs ++ [c]) (vs ++ [v]):=by
  rw[EZ h.lc h.lv]
  unfold putN
  rw[aE hv]
 have dp:=h.dn.put (v:=v) hc
 have f:∀ b ys,H b=some (.tup ys)->(upd H d (nD P w d (putN (kvN es cs vs) (kS e.1) c v))) b=some (.tup ys):=λb ys q=>EH h.dn.at_ q
 have g:∀ b ys,SqT K H b ys->SqT K (upd H d (nD P w d (putN (kvN es cs vs) (kS e.1) c v))) b ys:=λb ys q=>by
  rcases q with(q |⟨o,q⟩)|q
  ·exact .inl (.inl (f _ _ q))
  ·exact .inl (.inr ⟨o,by rw[fG (gA q h.dn.at_ (λz=>nomatch z))];exact q⟩)
  ·exact .inr q
 refine⟨?_,by rw[ak,ak,h.lc];rfl,by rw[ak,ak,h.lv];rfl,λi e' v' he hv'=>?_⟩
 ·rw[<-ep];exact dp
 ·by_cases hi:i<es.length
  ·rw[aq hi]at he
   rw[aq (by rw[h.lv];exact hi)]at hv'
   exact(h.each i e' v' he hv').to f g
  ·have hi2:i=es.length:=by
    have:=(af.mp he).1
    rw[ak,aI]at this
    omega
   rw[hi2,az (au _),bu]at he
   rw[hi2,<-h.lv,az (au _),bu]at hv'
   cases he
   cases hv'
   exact hb.to f g
theorem StL.push {H H':Hp}{p a:Addr}{as:List Addr}{ss:List Sta}{s:Sta}(h:StL H p as ss)(f:∀ b ys,H b=some (.tup ys)->H' b=some (.tup ys))(hp:H' p=some (.lst (as.map V.ref ++ [.ref a])))(ha:jN H' a (kS s)):StL H' p (as ++ [a]) (ss ++ [s]):=by
 refine⟨by rw[hp,aB];rfl,by rw[ak,ak,h.len];rfl,λi b t hb ht=>?_⟩
 by_cases hi:i<as.length
 ·rw[aq hi]at hb
  rw[aq (by rw[<-h.len];exact hi)]at ht
  exact(h.each i b t hb ht).kD f
 ·have hi2:i=as.length:=by
   have:=(af.mp hb).1
   rw[ak,aI]at this
   omega
  rw[hi2,az (au _),bu]at hb
  rw[hi2,h.len,az (au _),bu]at ht
  cases hb
  cases ht
  exact ha
theorem mz {A:Around}{k:Nat}(hr:mL k A):A.units+2<cLine:=bY (Nat.add_le_add_left (by decide:2<=64) _) hr.units
theorem zd {X:Cx}{o i:Expr}{pos:Pos}{td ty:TE}{P:Program}{w:World}(eP:X.prog=P)(ew:X.w=w)(hu:X.A.units+2<cLine)(ho:PE X o td)(hi:PE X i ty)(hs:FQ i):PE X (.Subscript o i pos) (Hd P w td ty):=by subst eP ew;exact qW hu ho hi hs
def ow (w:Str):Str:=if w=Str.ofString "on" then Str.ofString "back" else Str.ofString "on"
def isW (w:Str):Prop:=w=Str.ofString "on" \/w=Str.ofString "back"
theorem isW.ow {w:Str}(h:isW w):isW (ow w):=by
 unfold TL.ow
 split
 ·exact .inr rfl
 ·exact .inl rfl
theorem Ew {w:Str}(h:isW w):ow (ow w)=w:=by
 have hn:¬Str.ofString "back" = Str.ofString "on" :=by decide +kernel
 rcases h with h |h
 ·rw[h];unfold ow;rw[aJ rfl,aE hn]
 ·rw[h];unfold ow;rw[aE hn,aJ rfl]
theorem J9 {w:Str}(h:isW w):ow w≠w:=by
 have hn:¬Str.ofString "back" = Str.ofString "on" :=by decide +kernel
 rcases h with h |h
 ·rw[h];unfold ow;rw[aJ rfl];exact hn
 ·rw[h];unfold ow;rw[aE hn];exact λz=>hn z.symm
structure Hb (P:Program)(w:World)(K:PySem.W.Frag)(mg:Str->Option Value)(od:Addr):Prop where
 m:mg "OTHER_WORD" = some (.ref od)
 d:∀ h:Heap,K.In h->∃ t u:Tok,h.DictOf (gF P w) od [(.inr (Str.ofString "on"),.str (Str.ofString "back") t),(.inr (Str.ofString "back"),.str (Str.ofString "on") u)]
def tOw (ty:TE):TE:=λσ H Q=>ty σ H λy H1=>∃ w,y = .str w/\isW w/\Q (.str (ow w)) H1
theorem J6 {X:Cx}{i:Expr}{p pos:Pos}{ty:TE}{od:Addr}(O:Hb X.prog X.w X.K X.mg od)(hg:Gl X "OTHER_WORD")(hi:PE X i ty)(hs:FQ i):PE X (.Subscript (.Name "OTHER_WORD" p) i pos) (tOw ty):=by
 intro pins s σ H Q I h
 have ho:PE X (.Name "OTHER_WORD" p) (tC (.ref od)):=lW hg O.m rfl
 refine xy fe.lookup hs (thn (ho pins s σ H _ I (show tC (.ref od) σ H (λx H1=>x = .ref od/\H1=H) from⟨rfl,rfl⟩)) λu s1 ⟨x,H1,I1,rx,ex,eH⟩=>?_)
 subst ex eH
 obtain rfl:u=Value.ref od:=rx
 refine thn (hi pins s1 σ H1 _ I1 h) λiv s2 ⟨y,H2,I2,ry,w,ey,hw,q⟩=>?_
 subst ey
 obtain⟨t,u,dd⟩:=O.d s2.heap I2.kIn
 have hT:s2.TypeIs (.ref od) "dict" :=by
  obtain⟨o,es,ep,h1,h2,_⟩:=dd
  exact⟨o,h1,h2.1⟩
 refine⟨hT,?_⟩
 have hn:¬Str.ofString "on" = Str.ofString "back" :=by decide +kernel
 rcases hw with rfl |rfl
 ·refine wpAny_getItem_of (k:=.inr (Str.ofString "on")) (oC (P:=X.prog) (w:=X.w) (k:=.inr (Str.ofString "on")) ry) dd.mapOf (v:=.str (Str.ofString "back") t) ?_ ⟨.str (ow (Str.ofString "on")),H2,I2.tok _,?_,q⟩
  ·unfold valueAt;simp
  ·unfold ow;rw[aJ rfl];exact⟨t,rfl⟩
 ·refine wpAny_getItem_of (k:=.inr (Str.ofString "back")) (oC (P:=X.prog) (w:=X.w) (k:=.inr (Str.ofString "back")) ry) dd.mapOf (v:=.str (Str.ofString "on") u) ?_ ⟨.str (ow (Str.ofString "back")),H2,I2.tok _,?_,q⟩
  ·unfold valueAt
   rw[ck (by simp;exact hn),cE (by simp)]
   rfl
  ·unfold ow;rw[aE (λz=>hn z.symm)];exact⟨u,rfl⟩
def iR (x:List EnS×List Sta)(s:Sta):List EnS×List Sta:=
 open Classical in if(s.1,ow s.2)∉x.1.map (·.1)then(x.1 ++ [((s.1,ow s.2),some (s,none))],x.2 ++ [(s.1,ow s.2)])else x
def chN (ss:List Sta)(es:List EnS):List EnS×List Sta:=ss.foldl iR (es,[])
theorem FE {ss:List Sta}{es:List EnS}{j:Nat}{s:Sta}(h:ss[j]? = some s):chN (ss.take (j+1)) es=iR (chN (ss.take j) es) s:=by
 unfold chN
 rw[bh,h,dh]
 rfl
theorem FD (x:List EnS×List Sta)(s:Sta):(iR x s).1.length<=x.1.length+1/\(iR x s).2.length<=x.2.length+1:=by
 unfold iR
 split
 ·rw[ak,ak];exact⟨au _,au _⟩
 ·exact⟨Nat.le_succ _,Nat.le_succ _⟩
theorem Cf (es:List EnS):∀ (ss:List Sta) (x:List EnS×List Sta),(ss.foldl iR x).1.length<=x.1.length+ss.length/\(ss.foldl iR x).2.length<=x.2.length+ss.length
 |[],x=>⟨au _,au _⟩
 |s::r,x=>by
  have h1:=FD x s
  have h2:=Cf es r (iR x s)
  rw[List.foldl_cons,aR]
  omega
theorem zM {l:Ln}{x:List EnS×List Sta}{i:Nat}(h:(goS l x i).2.length<=i):∀ k,goS l x (i+k)=goS l x i
 | 0=>rfl
 |k+1=>by
  have ih:=zM h k
  rw[<-ft,goS,ih,bq (by omega)]
def goF (l:Ln)(x:List EnS×List Sta):List EnS×List Sta:=goS l x 1000
theorem Jg {l:Ln}{x:List EnS×List Sta}{i:Nat}(h:(goS l x i).2.length=i)(hi:i<=1000):goF l x=goS l x i:=by
 have:=zM (Nat.le_of_eq h) (1000-i)
 rw[show i+(1000-i)=1000 by omega]at this
 exact this
def onW:Str:=Str.ofString "on"
def gE:Str:=Str.ofString "back"
def r0 (tr:List Int):List EnS×List Sta:=([((tr,onW),none),((tr,gE),none)],[(tr,onW),(tr,gE)])
def rnd (l:Ln)(tr:List Int):Nat->List EnS×List Sta
 | 0=>r0 tr
 |r+1=>chN (goF l (rnd l tr r)).2 (goF l (rnd l tr r)).1
def cnt (l:Ln)(tr:List Int):Nat->Sta->Option Nat
 | 0,_=>none
 |r+1,s=>open Classical in if s∈(goF l (rnd l tr r)).2 then some r else cnt l tr r s
structure RO (W:List (List Int))(x:List EnS×List Sta):Prop where
 nd:(x.1.map (·.1)).Nodup
 inW:∀ s∈x.1.map (·.1),s.1∈W/\isW s.2
 sub:∀ s∈x.2,s∈x.1.map (·.1)
 nd2:x.2.Nodup
theorem RO.push {W:List (List Int)}{x:List EnS×List Sta}{s:Sta}{b:Bk}(h:RO W x)(hn:s∉x.1.map (·.1))(hw:s.1∈W/\isW s.2):RO W (x.1 ++ [(s,b)],x.2 ++ [s]):=by
 refine⟨?_,λt ht=>?_,λt ht=>?_,?_⟩
 ·show((x.1 ++ [(s,b)]).map (·.1)).Nodup
  rw[aB]
  exact bQ.mpr ⟨h.nd,by simp,λa ha b hb=>by simp at hb;subst hb;exact λz=>hn (z ▸ ha)⟩
 ·rw[show((x.1 ++ [(s,b)],x.2 ++ [s]):List EnS×List Sta).1=x.1 ++ [(s,b)] from rfl,aB]at ht
  rcases aF.mp ht with z |z
  ·exact h.inW t z
  ·have:t=s:=by simpa using z
   rw[this];exact hw
 ·show t∈(x.1 ++ [(s,b)]).map (·.1)
  rw[aB]
  rcases aF.mp ht with z |z
  ·exact aS _ (h.sub t z)
  ·have:t=s:=by simpa using z
   rw[this];exact ay _ (by simp)
 ·exact bQ.mpr ⟨h.nd2,by simp,λa ha b hb=>by simp at hb;subst hb;exact λz=>hn (z ▸ h.sub a ha)⟩
theorem RO.add {W:List (List Int)}{x:List EnS×List Sta}{t:List Int}{w:Str}{m:Mv}(h:RO W x)(hm:m.2∈W)(hw:isW w):RO W (jU t w x m):=by
 unfold jU
 split
 ·rename_i c
  exact h.push c.2 ⟨hm,hw⟩
 ·exact h
theorem RO.scan {W:List (List Int)}{t:List Int}{w:Str}(hw:isW w):∀ {ms:List Mv}{x:List EnS×List Sta},RO W x->(∀ m∈ms,m.2∈W)->RO W (g6 t w ms x)
 |[],_,h,_=>h
 |m::r,x,h,hm=>RO.scan hw (ms:=r) (h.add (hm m aA) hw) λy hy=>hm y (aw _ hy)
theorem RO.go {l:Ln}{W:List (List Int)}(gG:∀ t∈W,∀ m∈mvs l t,m.2∈W){x:List EnS×List Sta}(h:RO W x):∀ i,RO W (goS l x i)
 | 0=>h
 |i+1=>by
  have ih:=RO.go gG h i
  rw[goS]
  split
  ·rename_i s hs
   have:=ih.inW s (ih.sub s (av hs))
   exact ih.scan this.2 (gG s.1 this.1)
  ·exact ih
theorem RO.chg {W:List (List Int)}{x:List EnS×List Sta}{s:Sta}(h:RO W x)(hs:s.1∈W/\isW s.2):RO W (iR x s):=by
 unfold iR
 split
 ·rename_i c
  exact h.push c ⟨hs.1,hs.2.ow⟩
 ·exact h
theorem RO.FC {W:List (List Int)} :∀ {ss:List Sta}{x:List EnS×List Sta},RO W x->(∀ s∈ss,s.1∈W/\isW s.2)->RO W (ss.foldl iR x)
 |[],_,h,_=>h
 |s::r,x,h,hs=>RO.FC (ss:=r) (h.chg (hs s aA)) λy hy=>hs y (aw _ hy)
theorem RO.change {W:List (List Int)}{x:List EnS×List Sta}(h:RO W x):RO W (chN x.2 x.1):=
 RO.FC (x:=(x.1,[])) ⟨h.nd,h.inW,λs hs=>(by cases hs),cH⟩ λs hs=>h.inW s (h.sub s hs)
theorem RO.rnd {l:Ln}{W:List (List Int)}(gG:∀ t∈W,∀ m∈mvs l t,m.2∈W){tr:List Int}(ht:tr∈W):∀ r,RO W (rnd l tr r)
 | 0=>by
  have hn:onW≠gE:=by unfold onW gE;decide +kernel
  refine⟨?_,λs hs=>?_,λs hs=>hs,?_⟩
  ·show[(tr,onW),(tr,gE)].Nodup
   simp[hn]
  ·have hs:s=(tr,onW)\/s=(tr,gE):=by
    have:s∈ [(tr,onW),(tr,gE)]:=hs
    simpa using this
   rcases hs with e |e
   ·rw[e];exact⟨ht,.inl rfl⟩
   ·rw[e];exact⟨ht,.inr rfl⟩
  ·show[(tr,onW),(tr,gE)].Nodup
   simp[hn]
 |r+1=>(RO.go gG (RO.rnd gG ht r) 1000).change
theorem qo {α:Type} :∀ {xs ys:List α},xs.Nodup->(∀ x∈xs,x∈ys)->xs.length<=ys.length
 |[],_,_,_=>aK _
 |x::xs,ys,hn,hs=>by
  obtain⟨a,b,e⟩:=List.append_of_mem (hs x aA)
  have hx:=bB.mp hn
  have:=qo (xs:=xs) (ys:=a++b) hx.2 λy hy=>by
   have h1:=hs y (aw _ hy)
   rw[e]at h1
   rcases aF.mp h1 with z |z
   ·exact aS _ z
   ·rcases aG.mp z with z |z
    ·exact absurd hy (by rw[z];exact hx.1)
    ·exact ay _ z
  rw[e,ak,aR,aR]
  rw[ak]at this
  omega
theorem RO.len {W:List (List Int)}{x:List EnS×List Sta}(h:RO W x):x.1.length<=2*W.length/\x.2.length<=2*W.length:=by
 have big:∀ ys:List Sta,ys.Nodup->(∀ s∈ys,s∈x.1.map (·.1))->ys.length<=2*W.length:=λys hy hs=>by
  have GJ:∀ s∈ys,s∈W.map (λt=>(t,onW))++W.map (λt=>(t,gE)):=λs hs'=>by
   obtain⟨h1,h2⟩:=h.inW s (hs s hs')
   rcases h2 with e |e
   ·exact aS _ (ao.mpr ⟨s.1,h1,dj rfl e.symm⟩)
   ·exact ay _ (ao.mpr ⟨s.1,h1,dj rfl e.symm⟩)
  have:=qo hy GJ
  rw[ak,aa,aa]at this
  omega
 refine⟨?_,big x.2 h.nd2 h.sub⟩
 have:=big (x.1.map (·.1)) h.nd λs hs=>hs
 rwa [aa]at this
theorem pZ (l:Ln)(x:List EnS×List Sta):∀ i,x.1 <+:(goS l x i).1
 | 0=>bK _
 |i+1=>by
  have ih:=pZ l x i
  rw[goS]
  split
  ·rename_i s _
   exact ih.trans (l0 s.1 s.2 (mvs l s.1) (goS l x i)).2
  ·exact ih
theorem xn:∀ (ss:List Sta) (x:List EnS×List Sta),(ss.foldl iR x).1.length+x.2.length=x.1.length+(ss.foldl iR x).2.length
 |[],x=>rfl
 |s::r,x=>by
  have h2:=xn r (iR x s)
  have h1:(iR x s).1.length+x.2.length=x.1.length+(iR x s).2.length:=by
   unfold iR
   split
   ·simp only[ak,aI];omega
   ·rfl
  rw[List.foldl_cons]
  omega
theorem FF (ss:List Sta)(es:List EnS):(chN ss es).1.length=es.length+(chN ss es).2.length:=by
 have:=xn ss (es,[])
 simpa [chN]using this
theorem EJ {P:Program}{w:World}{H:Hp}{a b:Addr}{kvs:KvN}{ys:List V}(h:H a=some (nD P w a kvs))(e:H b=some (.tup ys)):b≠a:=gA e h (λz=>nomatch z)
theorem StN.other {P:Program}{w:World}{K:PySem.W.Frag}{H:Hp}{d c:Addr}{es:List EnS}{cs:List Addr}{us:List V}{kvs:KvN}{o:HO}(h:StN P w K H d es cs us)(hc:H c=some (nD P w c kvs))(dc:d≠c):StN P w K (upd H c o) d es cs us:=by
 have f:∀ b zs,H b=some (.tup zs)->(upd H c o) b=some (.tup zs):=λb zs q=>by rw[fG (EJ hc q)];exact q
 refine⟨⟨by rw[fG dc];exact h.dn.at_,λq hq=>(h.dn.keys q hq).kD f⟩,h.lc,h.lv,λi e v h1 h2=>(h.each i e v h1 h2).to f λb zs q=>?_⟩
 rcases q with(q |⟨o',q⟩)|q
 ·exact .inl (.inl (f _ _ q))
 ·exact .inl (.inr ⟨o',by rw[fG (gA q hc (λz=>nomatch z))];exact q⟩)
 ·exact .inr q
theorem StL.other {P:Program}{w:World}{H:Hp}{p c:Addr}{as:List Addr}{ss:List Sta}{kvs:KvN}{o:HO}(h:StL H p as ss)(hc:H c=some (nD P w c kvs)):StL (upd H c o) p as ss:=
 ⟨by rw[fG (gA h.at_ hc (λz=>nomatch z))];exact h.at_,h.len,λi a s h1 h2=>(h.each i a s h1 h2).kD λb zs q=>by rw[fG (EJ hc q)];exact q⟩
theorem DN.hid {P:Program}{w:World}{H:Hp}{d c:Addr}{kvs tE:KvN}(h:DN P w H c kvs)(hd:H d=some (nD P w d tE))(cd:c≠d):DN P w (hid d H) c kvs:=
 ⟨by rw[gY cd];exact h.at_,λq hq=>(h.keys q hq).kD λb zs z=>by rw[gY (EJ hd z)];exact z⟩
theorem wG {H H4:Hp}{d:Addr}(s:fI H H4)(hd:H d=none):fI H (hid d H4):=λb o hb=>by
 have hbd:b≠d:=λz=>by rw[z,hd]at hb;cases hb
 rw[gY hbd];exact s _ _ hb
inductive j6 (es:List EnS):Sta->List (Str×Int)->Prop
 |nil {s:Sta} :(s,none)∈es->j6 es s []
 |ch {s s':Sta}{r:List (Str×Int)} :(s,some (s',none))∈es->j6 es s' r->j6 es s r
 |mv {s s':Sta}{k:Str×Int}{r:List (Str×Int)} :(s,some (s',some k))∈es->j6 es s' r->j6 es s (r ++ [k])
structure iy (es:List EnS):Prop where
 back:∀ (j:Nat) s s' b,es[j]? = some (s,some (s',b))->∃ i e,i<j/\es[i]? = some e/\e.1=s'
 ok:∀ (j:Nat) s s' k,es[j]? = some (s,some (s',some k))->PyData.strOk k.1=true
theorem iy.push {es:List EnS}{s s':Sta}{b:Option (Str×Int)}(h:iy es)(hs:s'∈es.map (·.1))(hb:∀ k,b=some k->PyData.strOk k.1=true):iy (es ++ [(s,some (s',b))]):=by
 refine⟨λj t t' c hj=>?_,λj t t' k hj=>?_⟩
 ·by_cases hi:j<es.length
  ·rw[aq hi]at hj
   obtain⟨i,e,h1,h2,h3⟩:=h.back j t t' c hj
   exact⟨i,e,h1,by rw[aq (by omega)];exact h2,h3⟩
  ·have hj2:j=es.length:=by
    have:=(af.mp hj).1
    rw[ak,aI]at this
    omega
   rw[hj2,az (au _),bu]at hj
   have hj:(s,some (s',b))=(t,some (t',c)):=by simpa using hj
   injection hj with e1 e2
   injection e2 with e2
   injection e2 with e2 e3
   obtain⟨e,he,ee⟩:=ao.mp hs
   obtain⟨i,hi',ei⟩:=bj.mp he
   exact⟨i,e,by omega,by rw[aq hi',ah hi',ei],by rw[ee,e2]⟩
 ·by_cases hi:j<es.length
  ·rw[aq hi]at hj
   exact h.ok j t t' k hj
  ·have hj2:j=es.length:=by
    have:=(af.mp hj).1
    rw[ak,aI]at this
    omega
   rw[hj2,az (au _),bu]at hj
   have hj:(s,some (s',b))=(t,some (t',some k)):=by simpa using hj
   injection hj with e1 e2
   injection e2 with e2
   injection e2 with e2 e3
   exact hb k e3
theorem CA {l:Ln}{t:List Int}{m:Mv}(h:m∈mvs l t):PyData.strOk m.1.1=true:=Cz l t m h
theorem iy.scan {l:Ln}{t:List Int}{w:Str} :∀ {ms:List Mv}{x:List EnS×List Sta},iy x.1->(t,w)∈x.1.map (·.1)->(∀ m∈ms,m∈mvs l t)->iy (g6 t w ms x).1
 |[],_,h,_,_=>h
 |m::r,x,h,ht,hm=>by
  have h1:iy (jU t w x m).1/\(t,w)∈(jU t w x m).1.map (·.1):=by
   unfold jU
   split
   ·exact⟨h.push ht λk e=>by cases e;exact CA (hm m aA),by rw[aB];exact aS _ ht⟩
   ·exact⟨h,ht⟩
  exact iy.scan (ms:=r) (x:=jU t w x m) h1.1 h1.2 λy hy=>hm y (aw _ hy)
theorem iy.go {l:Ln}{W:List (List Int)}(gG:∀ t∈W,∀ m∈mvs l t,m.2∈W){x:List EnS×List Sta}(R:RO W x)(h:iy x.1):∀ i,iy (goS l x i).1
 | 0=>h
 |i+1=>by
  have ih:=iy.go gG R h i
  rw[goS]
  split
  ·rename_i s hs
   exact ih.scan ((RO.go gG R i).sub s (av hs)) λm hm=>hm
  ·exact ih
theorem iy.FC:∀ {ss:List Sta}{x:List EnS×List Sta},iy x.1->(∀ s∈ss,s∈x.1.map (·.1))->iy (ss.foldl iR x).1
 |[],_,h,_=>h
 |s::r,x,h,hs=>by
  have h1:iy (iR x s).1/\∀ t∈r,t∈(iR x s).1.map (·.1):=by
   unfold iR
   split
   ·exact⟨h.push (hs s aA) λk e=>(by cases e),λt ht=>by rw[aB];exact aS _ (hs t (aw _ ht))⟩
   ·exact⟨h,λt ht=>hs t (aw _ ht)⟩
  exact iy.FC (ss:=r) h1.1 h1.2
theorem iy.rnd {l:Ln}{W:List (List Int)}(gG:∀ t∈W,∀ m∈mvs l t,m.2∈W){tr:List Int}(ht:tr∈W):∀ r,iy (rnd l tr r).1
 | 0=>⟨λj s s' b hj=>by
   have:(s,some (s',b))∈(r0 tr).1:=av hj
   simp[r0]at this,λj s s' b hj=>by
   have:(s,some (s',some b))∈(r0 tr).1:=av hj
   simp[r0]at this⟩
 |r+1=>by
  have R:=RO.rnd gG ht r
  have RG:RO W (goF l (TL.rnd l tr r)):=RO.go gG R 1000
  have h1:iy (goF l (TL.rnd l tr r)).1:=iy.go gG R (iy.rnd gG ht r) 1000
  have e:TL.rnd l tr (r+1)=chN (goF l (TL.rnd l tr r)).2 (goF l (TL.rnd l tr r)).1:=by rw[TL.rnd]
  rw[e]
  generalize goF l (TL.rnd l tr r)=gg at RG h1
  exact iy.FC (x:=(gg.1,[])) h1 λs hs=>RG.sub s hs
theorem BU:∀ {es:List EnS}{cs:List Addr}{vs:List V},cs.length=es.length->vs.length=es.length->(es.map (·.1)).Nodup->∀ {j:Nat}{e:EnS}{v:V},es[j]? = some e->vs[j]? = some v->valN (kvN es cs vs) (kS e.1)=some v
 |[],_,_,_,_,_,_,_,_,h,_=>by simp at h
 |_::_,[],_,h,_,_,_,_,_,_,_=>by simp at h
 |_::_,_::_,[],_,h,_,_,_,_,_,_=>by simp at h
 |e0::es,c::cs,v0::vs,h1,h2,nd,0,e,v,he,hv=>by
  cases he;cases hv
  have e0':kvN (e0::es) (c::cs) (v0::vs)=(kS e0.1,c,v0)::kvN es cs vs:=rfl
  rw[e0',jA (p:=(kS e0.1,c,v0)) rfl]
 |e0::es,c::cs,v0::vs,h1,h2,nd,j+1,e,v,he,hv=>by
  have e0':kvN (e0::es) (c::cs) (v0::vs)=(kS e0.1,c,v0)::kvN es cs vs:=rfl
  rw[cT]at he hv
  rw[bg,bB]at nd
  have hne:¬kS e0.1=kS e.1:=λz=>nd.1 (by rw[ye z];exact eX (av he))
  rw[e0',jB (p:=(kS e0.1,c,v0)) hne]
  exact BU (by simpa using h1) (by simpa using h2) nd.2 he hv
theorem StN.get {P:Program}{w:World}{K:PySem.W.Frag}{H:Hp}{d:Addr}{es:List EnS}{cs:List Addr}{us:List V}(h:StN P w K H d es cs us)(nd:(es.map (·.1)).Nodup){j:Nat}{e:EnS}{v:V}(he:es[j]? = some e)(hv:us[j]? = some v):valN (kvN es cs us) (kS e.1)=some v:=BU h.lc h.lv nd he hv
open PySem.W
section
variable {prog:Program}{w:World}{d:Addr}{o:Obj}{es:Array DictEntry}{ep:Nat}
theorem Ap {A:Around}(hh:A.handled=none)(hd:o.data = .dict es ep)(I d:Addr)(hne:d≠I):
  Walks prog w A I [I,d] [I] es.size (λi v=>∃ e:DictEntry,es[i]? = some e/\v=e.key) (λi h=>h.IsKeyIter I d i es.size ep/\h.get? d=some o) where
 sub:=λb hb=>by simp at hb;simp[hb]
 frame:=λ_ _ _ st hk=>⟨st.1.at λo e=>hk I (by simp) o e,hk d (by simp) _ st.2⟩
 item:=λi s Q E hi st hQ=>by
  obtain⟨e,hx⟩:∃ p,es[i]? = some p:=⟨es[i],by simp[hi]⟩
  refine wM st.1 st.2 hd hx λh' GO hs'=>?_
  exact hQ e.key h' s.toks ⟨e,hx,rfl⟩ ⟨GO,hs'.extBut d o hne st.2⟩ λb o hb e=>hs'.extBut b o (λh=>hb (by simp[h])) e
 done:=λs Q E st hQ=>yY hh st.1 st.2 hd (au _) λh' he'=>hQ h' s.toks λb o hb e=>he' b o (λh=>hb (by simp[h])) e
 self:=λ_ _ _ _ st hQ=>wL st.1 hQ
theorem Ef (lo:(d==sysModules)=false)(hx:o.ExactDict)(hd:o.data = .dict es ep):KdlSrc prog w "dict" d d es.size (λi v=>∃ e:DictEntry,es[i]? = some e/\v=e.key) (λh=>h.get? d=some o) where
 type:=λ_ hm=>nv hm hx
 there:=λ_ hm=>⟨aC hm,aC hm⟩
 keep:=λ_ _ hm hk=>hk d (.inl rfl) o hm
 notList:=by decide
 notTuple:=by decide
 hint:=λ_ _ _ _ hm hq=>kdl_hint_dict (nv hm hx) hq
 iter:=λ_ _ hh hm=>⟨_,_,(λ_ _ hq=>wN lo hm hx hd hq),Ap hh hd _ d (aL (aC hm)),⟨⟨_,aQ _ rfl,rfl,rfl⟩,ax _ hm⟩⟩
end
theorem wo:∀ {bs:List Addr}{vs:List Value},vs=bs.map Value.ref->Vals (bs.map V.ref) vs
 |[],_,h=>by rw[h];exact .nil
 |b::bs,_,h=>by rw[h];exact .cons rfl (wo rfl)
theorem yt {X:Cx}(hc:X.calm=true):jS X (.type "list") (λxs H Q=>∃ (d:Addr) (kvs:List (List Key×V)),xs = [.ref d]/\H d=some (.dT kvs)/\
  ∀ l (bs:List Addr),H l=none->bs.length=kvs.length->(∀ (i:Nat) b p,bs[i]? = some b->kvs[i]? = some p->H b=some (.tup (p.1.map kV)))->Q (.ref l) (upd H l (.lst (bs.map V.ref)))):=by
 intro pins s σ H xs us Q I r h
 obtain⟨d,kvs,rfl,hH,q⟩:=h
 obtain⟨u,rfl,ru⟩:=vals1 r
 cases ru
 obtain⟨z,lo,xs,rel,o,es,ep,h1,h2,h3,h4,h5,h6⟩:=Fp I.hok hH
 have hsz:es.size=kvs.length:=by
  have:=bL List.length h4
  rw[aW,aa]at this
  rw[this,<-bZ rel]
 refine kdl_call (Ef lo h2 h3) (I.ok.hd hc) h1 (by rw[hsz];exact z) λh' tk acc c hk hg K9=>?_
 have el:acc.toList=(xs.map (·.2.1)).map Value.ref:=by
  refine ed λj=>?_
  have hl:acc.size=xs.length:=by rw[K9.1,hsz,bZ rel]
  by_cases hj:j<xs.length
  ·have hx:acc[j]? = some acc[j]:=bD (by omega)
   obtain⟨e,he,hv⟩:=K9.2 j _ hx
   rw[<-bH,h4,aj,ah hj]at he
   have he:entryOfKey (tupleKind (gF X.prog X.w)) xs[j]=e:=by simpa using he
   rw[bH,hx,hv,<-he,bz,aj,ah hj]
   rfl
  ·rw[bq (by rw[aW];omega),bq (by rw[aa,aa];omega)]
 refine⟨.ref s.heap.objs.size,_,I.laid (t':=tk) (o:=.lst ((xs.map (·.2.1)).map V.ref)) (λb ob q=>hk b ob q) (au _) ⟨?_,acc.toList,c,wo el,?_⟩,rfl,q _ (xs.map (·.2.1)) I.fresh ?_ λi b p hb hp=>?_⟩
 ·rw[aa,aa,<-bZ rel];exact z
 ·rw[hg,Array.toArray_toList]
 ·rw[aa,bZ rel]
 ·obtain⟨y,hy,e1,e2,e3⟩:=pV rel hp
  rw[aj,hy]at hb
  have hb:y.2.1=b:=by simpa using hb
  rw[<-hb];exact e2
end TL
namespace TL
open PySem PySem.Spec PyProof.Rows L2 TS
theorem GU {es:List Ent}(nd:(es.map (·.1)).Nodup){a b:Ent}(ha:a∈es)(hb:b∈es)(e:a.1=b.1):a=b:=by
 obtain⟨i,hi,rfl⟩:=bj.mp ha
 obtain⟨j,hj,rfl⟩:=bj.mp hb
 have h:(es.map (·.1))[i]'(by rw[aa];exact hi)=(es.map (·.1))[j]'(by rw[aa];exact hj):=by
  rw[cu,cu];exact e
 have:=(cG nd).mp h
 subst this
 rfl
theorem Way.ok {l:Ln}{ns:List Int}{run:List (Str×Int)}{bs:List (List Int)}(ok:gv l)(T:jm l ns)(hne:ns≠ [])(h:Way l ns run bs):∀ (j:Nat) b,bs[j]? = some b->jm l b/\b.length=ns.length/\b≠ []
 | 0,b,hb=>by
  rw[h.first]at hb
  cases hb
  exact⟨T,rfl,hne⟩
 |j+1,b,hb=>by
  have hl:=(af.mp hb).1
  rw[h.len]at hl
  have hj:bs[j]? = some (bs[j]'(by rw[h.len];omega)):=ah _
  obtain⟨T1,T2,T3⟩:=Way.ok ok T hne h j _ hj
  have hm:=h.step j _ _ _ (ah (by omega)) hj hb
  obtain⟨U1,U2,U3⟩:=AG ok T1 T3 hm
  exact⟨U1,by rw[<-T2];exact U2,U3⟩
theorem Fg {K:PySem.W.Frag}{p:Addr->Prop}{H:Hp}{a:Addr}{xs:List V}(hp:∀ b,p b->∃ ys,H b=some (.lst ys))(h:SqT K H a xs):SqT K (ro p H) a xs:=by
 have hn:∀ {u:HO},H a=some u->(∀ ys,u≠ .lst ys)->¬p a:=λh1 h2 z=>by
  obtain⟨ys,hy⟩:=hp a z
  rw[h1]at hy
  exact h2 ys (aP hy)
 rcases h with(h |⟨o,h⟩)|h
 ·exact .inl (.inl (by rw[lj (hn h λys z=>by cases z)];exact h))
 ·exact .inl (.inr ⟨o,by rw[lj (hn h λys z=>by cases z)];exact h⟩)
 ·exact .inr h
theorem vK {K:PySem.W.Frag}{p:Addr->Prop}{H:Hp}(hp:∀ b,p b->∃ ys,H b=some (.lst ys)):∀ {run:List (Str×Int)}{vs:List V},Das K H (run.map dM) vs->Das K (ro p H) (run.map dM) vs
 |[],vs,h=>by cases gS.mp h;exact gS.mpr rfl
 |k::r,vs,h=>by
  obtain⟨v,ws,rfl,h1,h2⟩:=gm.mp h
  obtain⟨a,rfl,ha⟩:=zR h1
  exact gm.mpr ⟨_,_,rfl,Fx (Fg hp ha),vK hp h2⟩
end TL
namespace TL
open PySem L2 PyProof.Rows
theorem Bd {l:Ln}{ns:List Int}(P:List Int->Prop)(h0:P ns)(hs:∀ t m,P t->m∈mvs l t->P m.2):∀ i,∀ e∈fO l ns i,P e.1
 | 0=>λe he=>by have z:e=(ns,none):=(by simpa [fO]using he);rw[z];exact h0
 |i+1=>by
  have ih:=Bd P h0 hs i
  rw[fO]
  split
  ·rename_i e0 he0
   have r0:=ih e0 (av he0)
   have gen:∀ (ms:List Mv) (o:List Ent),(∀ m∈ms,m∈mvs l e0.1)->(∀ e∈o,P e.1)->∀ e∈gW e0.1 ms o,P e.1:=by
    intro ms
    induction ms with
    |nil=>intro o _ h;exact h
    |cons m ms ihm=>
     intro o hm h
     refine ihm (m8 e0.1 o m) (λx hx=>hm x (aw _ hx)) ?_
     unfold m8
     split
     ·exact h
     ·intro e he
      rcases aF.mp he with z |z
      ·exact h e z
      ·rw[bx.mp z]
       exact hs _ m r0 (hm m aA)
   exact gen _ _ (λm hm=>hm) ih
  ·exact ih
open PySem.Spec
abbrev sts (x:List EnS×List Sta):List Sta:=x.1.map (·.1)
theorem jM {α β:Type}{f:α->β}{a b:List α}(h:a <+:b){s:β}(hs:s∈a.map f):s∈b.map f:=by
 obtain⟨c,rfl⟩:=h
 rw[aB];exact aS _ hs
theorem FN {t:List Int}{w:Str}{x:List EnS×List Sta}{m:Mv}(hm:m.1.1=w):(m.2,w)∈sts (jU t w x m):=by
 unfold jU
 split
 ·show(m.2,w)∈(x.1 ++ [((m.2,w),some ((t,w),some m.1))]).map (·.1)
  rw[aB];exact ay _ (by simp)
 ·rename_i c
  exact aY λz=>c ⟨hm,z⟩
theorem wC {t:List Int}{w:Str} :∀ {ms:List Mv}{x:List EnS×List Sta},∀ m∈ms,m.1.1=w->(m.2,w)∈sts (g6 t w ms x)
 |m0::r,x,m,hm,hw=>by
  rcases aG.mp hm with e |e
  ·subst e
   exact jM (l0 t w r (jU t w x m)).2 (FN hw)
  ·exact wC (ms:=r) (x:=jU t w x m0) m e hw
theorem zN (l:Ln)(x:List EnS×List Sta)(i:Nat):(goS l x i).2 <+:(goS l x (i+1)).2/\(goS l x i).1 <+:(goS l x (i+1)).1:=by
 rw[goS]
 split
 ·exact l0 _ _ _ _
 ·exact⟨bK _,bK _⟩
theorem vz (l:Ln)(x:List EnS×List Sta):∀ i j,j<i->∀ s,(goS l x i).2[j]? = some s->∀ m∈mvs l s.1,m.1.1=s.2->(m.2,s.2)∈sts (goS l x i)
 | 0,j,h,_,_,_,_,_=>by omega
 |i+1,j,h,s,hs,m,hm,hw=>by
  have hp:=zN l x i
  by_cases hj:j<(goS l x i).2.length
  ·have hs':(goS l x i).2[j]? = some s:=by
    obtain⟨c,hc⟩:=hp.1
    rw[<-hc,aq hj]at hs
    exact hs
   by_cases e:j=i
   ·subst e
    rw[zO hs']
    exact wC m hm hw
   ·exact jM hp.2 (vz l x i j (by omega) s hs' m hm hw)
  ·have hn:(goS l x i).2[i]? = none:=bq (by omega)
   have e:goS l x (i+1)=goS l x i:=by rw[goS,hn]
   rw[e]at hs
   exact absurd (af.mp hs).1 hj
theorem vB {l:Ln}{x:List EnS×List Sta}(hl:(goF l x).2.length<=1000):∀ s∈(goF l x).2,∀ m∈mvs l s.1,m.1.1=s.2->(m.2,s.2)∈sts (goF l x):=λs hs m hm hw=>by
 obtain⟨j,hj⟩:=eC.mp hs
 have hlt:=(af.mp hj).1
 exact vz l x 1000 j (aX hlt hl) s hj m hm hw
theorem FL {t:List Int}{w:Str}{x:List EnS×List Sta}{m:Mv}{A:Sta->Prop}(h:∀ s∈sts x,A s\/s∈x.2):∀ s∈sts (jU t w x m),A s\/s∈(jU t w x m).2:=by
 unfold jU
 split
 ·intro s hs
  have hs:s∈(x.1 ++ [((m.2,w),some ((t,w),some m.1))]).map (·.1):=hs
  rw[aB]at hs
  rcases aF.mp hs with z |z
  ·exact(h s z).imp id λy=>aS _ y
  ·exact .inr (ay _ (by simpa using z))
 ·exact h
theorem wB {t:List Int}{w:Str}{A:Sta->Prop} :∀ {ms:List Mv}{x:List EnS×List Sta},(∀ s∈sts x,A s\/s∈x.2)->∀ s∈sts (g6 t w ms x),A s\/s∈(g6 t w ms x).2
 |[],_,h=>h
 |m::r,x,h=>wB (ms:=r) (x:=jU t w x m) (FL h)
theorem tP {l:Ln}{x:List EnS×List Sta}{A:Sta->Prop}(h:∀ s∈sts x,A s\/s∈x.2):∀ i,∀ s∈sts (goS l x i),A s\/s∈(goS l x i).2
 | 0=>h
 |i+1=>by
  rw[goS]
  split
  ·exact wB (tP h i)
  ·exact tP h i
theorem zX (x:List EnS×List Sta)(s:Sta):x.1 <+:(iR x s).1/\x.2 <+:(iR x s).2:=by
 unfold iR
 split
 ·exact⟨cW _ _,cW _ _⟩
 ·exact⟨bK _,bK _⟩
theorem rF:∀ (ss:List Sta) (x:List EnS×List Sta),x.1 <+:(ss.foldl iR x).1
 |[],_=>bK _
 |s::r,x=>(zX x s).1.trans (rF r (iR x s))
theorem vO:∀ {ss:List Sta}{x:List EnS×List Sta},∀ s∈ss,(s.1,ow s.2)∈sts (ss.foldl iR x)
 |s0::r,x,s,hs=>by
  rcases aG.mp hs with e |e
  ·subst e
   have h1:(s.1,ow s.2)∈sts (iR x s):=by
    unfold iR
    split
    ·show(s.1,ow s.2)∈(x.1 ++ [(((s.1,ow s.2),some (s,none)):EnS)]).map (λe:EnS=>e.1)
     rw[aB];exact ay _ (by simp)
    ·rename_i c
     exact aY c
   exact jM (rF r (iR x s)) h1
  ·exact vO (ss:=r) (x:=iR x s0) s e
theorem vN {A:Sta->Prop} :∀ {ss:List Sta}{x:List EnS×List Sta},(∀ s∈sts x,A s\/s∈x.2)->∀ s∈sts (ss.foldl iR x),A s\/s∈(ss.foldl iR x).2
 |[],_,h=>h
 |s0::r,x,h=>by
  refine vN (ss:=r) (x:=iR x s0) ?_
  unfold iR
  split
  ·intro s hs
   have hs:s∈(x.1 ++ [(((s0.1,ow s0.2),some (s0,none)):EnS)]).map (λe:EnS=>e.1):=hs
   rw[aB]at hs
   rcases aF.mp hs with z |z
   ·exact(h s z).imp id λy=>aS _ y
   ·exact .inr (ay _ (by simpa using z))
  ·exact h
theorem vA (l:Ln)(x:List EnS×List Sta):∀ i,x.2 <+:(goS l x i).2
 | 0=>bK _
 |i+1=>(vA l x i).trans (zN l x i).1
structure RC (l:Ln)(tr:List Int)(r:Nat):Prop where
 all:∀ s∈sts (rnd l tr r),(cnt l tr r s).isSome=true\/s∈(rnd l tr r).2
 gG:∀ s,(cnt l tr r s).isSome=true->s∈sts (rnd l tr r)/\(∀ m∈mvs l s.1,m.1.1=s.2->(m.2,s.2)∈sts (rnd l tr r))/\(s.1,ow s.2)∈sts (rnd l tr r)
 st:∀ w,isW w->(tr,w)∈sts (rnd l tr r)
theorem RC.of {l:Ln}{W:List (List Int)}(gG:∀ t∈W,∀ m∈mvs l t,m.2∈W){tr:List Int}(ht:tr∈W)(hW:W.length<=300):∀ r,RC l tr r
 | 0=>⟨λs hs=>.inr hs,λs hs=>by simp[cnt]at hs,λw hw=>by
   have:(tr,w)∈ [(tr,onW),(tr,gE)]:=by
    rcases hw with e |e
    ·rw[e];exact aA
    ·rw[e];exact aw _ aA
   exact this⟩
 |r+1=>by
  have ih:=RC.of gG ht hW r
  have R:=RO.rnd gG ht r
  have RG:RO W (goF l (rnd l tr r)):=RO.go gG R 1000
  have gl:=RG.len
  have gc:∀ s∈(goF l (rnd l tr r)).2,∀ m∈mvs l s.1,m.1.1=s.2->(m.2,s.2)∈sts (goF l (rnd l tr r)):=vB (by omega)
  have gn:∀ s∈sts (goF l (rnd l tr r)),(cnt l tr r s).isSome=true\/s∈(goF l (rnd l tr r)).2:=tP ih.all 1000
  have gp:(rnd l tr r).1 <+:(goF l (rnd l tr r)).1:=pZ l (rnd l tr r) 1000
  have er:rnd l tr (r+1)=chN (goF l (rnd l tr r)).2 (goF l (rnd l tr r)).1:=by rw[rnd]
  have ec:∀ s,cnt l tr (r+1) s=open Classical in if s∈(goF l (rnd l tr r)).2 then some r else cnt l tr r s:=λs=>by rw[cnt]
  generalize goF l (rnd l tr r)=gg at RG gl gc gn gp er ec
  have cp:gg.1 <+:(rnd l tr (r+1)).1:=by rw[er];exact rF gg.2 (gg.1,[])
  refine⟨λs hs=>?_,λs hs=>?_,λw hw=>jM (gp.trans cp) (ih.st w hw)⟩
  ·have h2:∀ s∈sts (rnd l tr (r+1)),s∈sts gg\/s∈(rnd l tr (r+1)).2:=by
    rw[er]
    exact vN (x:=(gg.1,[])) λs hs=>.inl hs
   rcases h2 s hs with z |z
   ·left
    rw[ec s]
    by_cases hm:s∈gg.2
    ·rw[aJ hm];rfl
    ·rw[aE hm];exact(gn s z).resolve_right hm
   ·exact .inr z
  ·rw[ec s]at hs
   by_cases hm:s∈gg.2
   ·refine⟨jM cp (RG.sub s hm),λm hm' hw=>jM cp (gc s hm m hm' hw),?_⟩
    rw[er];exact vO s hm
   ·rw[aE hm]at hs
    obtain⟨h1,h2,h3⟩:=ih.gG s hs
    exact⟨jM (gp.trans cp) h1,λm hm' hw=>jM (gp.trans cp) (h2 m hm' hw),jM (gp.trans cp) h3⟩
theorem RC.full {l:Ln}(ok:gv l){tr:List Int}{r:Nat}(h:RC l tr r)(he:(rnd l tr r).2 = [])(i:Nat):∀ e∈fO l tr i,∀ w,isW w->(e.1,w)∈sts (rnd l tr r)/\(cnt l tr r (e.1,w)).isSome=true:=by
 have al:∀ s∈sts (rnd l tr r),(cnt l tr r s).isSome=true:=λs hs=>(h.all s hs).resolve_right (by rw[he];simp)
 have key:=Bd (l:=l) (ns:=tr) (λt=>∀ w,isW w->(t,w)∈sts (rnd l tr r)) h.st (λt m ht hm w hw=>by
  have hmw:isW m.1.1:=(pX ok hm).1
  have h1:=(h.gG _ (al _ (ht m.1.1 hmw))).2.1 m hm rfl
  have h2:=(h.gG _ (al _ h1)).2.2
  have hw2:w=m.1.1\/w=ow m.1.1:=by
   have hn:¬Str.ofString "back" = Str.ofString "on" :=by decide +kernel
   unfold ow
   rcases hw with e |e<;>rcases hmw with f |f
   ·exact .inl (by rw[e,f])
   ·exact .inr (by rw[e,f,aE hn])
   ·exact .inr (by rw[e,f,aJ rfl])
   ·exact .inl (by rw[e,f])
  rcases hw2 with e |e
  ·rw[e];exact h1
  ·rw[e];exact h2) i
 exact λe he' w hw=>⟨key e he' w hw,al _ (key e he' w hw)⟩
theorem sP {t:List Int}{w:Str}{x0:List EnS×List Sta} :∀ {ms:List Mv}{x:List EnS×List Sta},(∀ s∈sts x0,s∈sts x)->(∀ s∈x.2,s∈x0.2\/s∉sts x0)->∀ s∈(g6 t w ms x).2,s∈x0.2\/s∉sts x0
 |[],_,_,h=>h
 |m::r,x,h0,h=>by
  refine sP (ms:=r) (x:=jU t w x m) (λs hs=>jM (vT t w x m).2 (h0 s hs)) ?_
  unfold jU
  split
  ·rename_i c
   intro s hs
   rcases aF.mp hs with z |z
   ·exact h s z
   ·rw[bx.mp z]
    exact .inr λy=>c.2 (h0 _ y)
  ·exact h
theorem p6 {l:Ln}{x:List EnS×List Sta} :∀ i,∀ s∈(goS l x i).2,s∈x.2\/s∉sts x
 | 0=>λs hs=>.inl hs
 |i+1=>by
  rw[goS]
  split
  ·exact sP (λs hs=>jM (pZ l x i) hs) (p6 i)
  ·exact p6 i
theorem vP {x0:List EnS×List Sta} :∀ {ss:List Sta}{x:List EnS×List Sta},(∀ s∈sts x0,s∈sts x)->(∀ s∈x.2,s∉sts x0)->∀ s∈(ss.foldl iR x).2,s∉sts x0
 |[],_,_,h=>h
 |s0::r,x,h0,h=>by
  refine vP (ss:=r) (x:=iR x s0) (λs hs=>jM (zX x s0).1 (h0 s hs)) ?_
  unfold iR
  split
  ·rename_i c
   intro s hs
   rcases aF.mp hs with z |z
   ·exact h s z
   ·rw[bx.mp z]
    exact λy=>c (h0 _ y)
  ·exact h
structure CI (l:Ln)(tr:List Int)(r:Nat):Prop where
 fresh:∀ s∈(rnd l tr r).2,cnt l tr r s=none
 lt:∀ s n,cnt l tr r s=some n->n<r
 mv:∀ s n m,cnt l tr r s=some n->m∈mvs l s.1->m.1.1=s.2->∃ n',cnt l tr r (m.2,s.2)=some n'/\n'<=n
 ch:∀ s n,cnt l tr r s=some n->(∃ n',cnt l tr r (s.1,ow s.2)=some n'/\n'<=n+1)\/((s.1,ow s.2)∈(rnd l tr r).2/\n+1=r)
 st:1<=r->∀ w,isW w->cnt l tr r (tr,w)=some 0
theorem CI.of {l:Ln}{W:List (List Int)}(gG:∀ t∈W,∀ m∈mvs l t,m.2∈W){tr:List Int}(ht:tr∈W)(hW:W.length<=300):∀ r,CI l tr r
 | 0=>⟨λs _=>rfl,λs n h=>(by cases h),λs n m h=>(by cases h),λs n h=>(by cases h),λh=>(by omega)⟩
 |r+1=>by
  have ih:=CI.of gG ht hW r
  have rc:=RC.of gG ht hW r
  have R:=RO.rnd gG ht r
  have RG:RO W (goF l (rnd l tr r)):=RO.go gG R 1000
  have gl:=RG.len
  have gc:∀ s∈(goF l (rnd l tr r)).2,∀ m∈mvs l s.1,m.1.1=s.2->(m.2,s.2)∈sts (goF l (rnd l tr r)):=vB (by omega)
  have gn:∀ s∈sts (goF l (rnd l tr r)),(cnt l tr r s).isSome=true\/s∈(goF l (rnd l tr r)).2:=tP rc.all 1000
  have gp:(rnd l tr r).1 <+:(goF l (rnd l tr r)).1:=pZ l (rnd l tr r) 1000
  have gp2:(rnd l tr r).2 <+:(goF l (rnd l tr r)).2:=vA l (rnd l tr r) 1000
  have gf:∀ s∈(goF l (rnd l tr r)).2,s∈(rnd l tr r).2\/s∉sts (rnd l tr r):=p6 1000
  have er:rnd l tr (r+1)=chN (goF l (rnd l tr r)).2 (goF l (rnd l tr r)).1:=by rw[rnd]
  have ec:∀ s,cnt l tr (r+1) s=open Classical in if s∈(goF l (rnd l tr r)).2 then some r else cnt l tr r s:=λs=>by rw[cnt]
  generalize goF l (rnd l tr r)=gg at RG gl gc gn gp gp2 gf er ec
  have unc:∀ s∈gg.2,cnt l tr r s=none:=λs hs=>by
   rcases gf s hs with z |z
   ·exact ih.fresh s z
   ·cases h:cnt l tr r s with
    |none=>rfl
    |some n=>exact absurd (rc.gG s (by rw[h];rfl)).1 z
  have lA:∀ s n,cnt l tr r s=some n->cnt l tr (r+1) s=some n:=λs n h=>by
   rw[ec s,aE (λz=>by rw[unc s z]at h;cases h)];exact h
  have now:∀ s∈gg.2,cnt l tr (r+1) s=some r:=λs hs=>by rw[ec s,aJ hs]
  have inG:∀ s∈sts gg,∃ n',cnt l tr (r+1) s=some n'/\n'<=r:=λs hs=>by
   rcases gn s hs with z |z
   ·obtain⟨n,hn⟩:=cN.mp z
    exact⟨n,lA s n hn,cf (ih.lt s n hn)⟩
   ·exact⟨r,now s z,au _⟩
  have two:∀ s n,cnt l tr (r+1) s=some n->(s∈gg.2/\n=r)\/cnt l tr r s=some n:=λs n h=>by
   by_cases hm:s∈gg.2
   ·rw[now s hm]at h;cases h;exact .inl ⟨hm,rfl⟩
   ·rw[ec s,aE hm]at h;exact .inr h
  refine⟨λs hs=>?_,λs n h=>?_,λs n m h hm hw=>?_,λs n h=>?_,λ_ w hw=>?_⟩
  ·have hf:s∉sts gg:=by
    rw[er]at hs
    exact vP (x0:=gg) (x:=(gg.1,[])) (λs hs=>hs) (λs hs=>by cases hs) s hs
   rw[ec s,aE (λz=>hf (RG.sub s z))]
   cases h:cnt l tr r s with
   |none=>rfl
   |some n=>exact absurd (jM gp (rc.gG s (by rw[h];rfl)).1) hf
  ·rcases two s n h with⟨_,e⟩|z
   ·omega
   ·have:=ih.lt s n z;omega
  ·rcases two s n h with⟨hs,e⟩|z
   ·obtain⟨n',h1,h2⟩:=inG _ (gc s hs m hm hw)
    exact⟨n',h1,by omega⟩
   ·obtain⟨n',h1,h2⟩:=ih.mv s n m z hm hw
    exact⟨n',lA _ _ h1,h2⟩
  ·rcases two s n h with⟨hs,e⟩|z
   ·have h2:∀ s∈sts (rnd l tr (r+1)),s∈sts gg\/s∈(rnd l tr (r+1)).2:=by
     rw[er]
     exact vN (x:=(gg.1,[])) λs hs=>.inl hs
    have h3:(s.1,ow s.2)∈sts (rnd l tr (r+1)):=by rw[er];exact vO s hs
    rcases h2 _ h3 with y |y
    ·obtain⟨n',h1,h4⟩:=inG _ y
     exact .inl ⟨n',h1,by omega⟩
    ·exact .inr ⟨y,by omega⟩
   ·rcases ih.ch s n z with⟨n',h1,h2⟩|⟨y,e⟩
    ·exact .inl ⟨n',lA _ _ h1,h2⟩
    ·obtain⟨c,hc⟩:=gp2
     exact .inl ⟨r,now _ (by rw[<-hc];exact aS _ y),by omega⟩
  ·by_cases hr:r=0
   ·subst hr
    obtain⟨c,hc⟩:=gp2
    refine now _ (by
     rw[<-hc]
     refine aS _ ?_
     have:(tr,w)∈ [(tr,onW),(tr,gE)]:=by
      rcases hw with e |e
      ·rw[e];exact aA
      ·rw[e];exact aw _ aA
     exact this)
   ·exact lA _ _ (ih.st (by omega) w hw)
def MvE (l:Ln)(s:Sta)(b:Bk)(A:Sta->Prop):Prop:=∃ s' k,b=some (s',some k)/\A s'/\A s/\s'.2=s.2/\k.1=s.2/\(k,s.1)∈mvs l s'.1
theorem MvE.imp {l:Ln}{s:Sta}{b:Bk}{A B:Sta->Prop}(f:∀ t,A t->B t)(h:MvE l s b A):MvE l s b B:=by
 obtain⟨s',k,h1,h2,h3,h4⟩:=h
 exact⟨s',k,h1,f _ h2,f _ h3,h4⟩
theorem wD {l:Ln}{t:List Int}{w:Str}{B:EnS->Prop} :∀ {ms:List Mv}{x:List EnS×List Sta},(∀ m∈ms,m∈mvs l t)->(t,w)∈x.2->(∀ e∈x.1,B e\/MvE l e.1 e.2 (· ∈x.2))->∀ e∈(g6 t w ms x).1,B e\/MvE l e.1 e.2 (· ∈(g6 t w ms x).2)
 |[],_,_,_,h=>h
 |m::r,x,hm,ht,h=>by
  have hp:=vT t w x m
  have up:∀ s∈x.2,s∈(jU t w x m).2:=λs hs=>by obtain⟨c,hc⟩:=hp.1;rw[<-hc];exact aS _ hs
  refine wD (ms:=r) (x:=jU t w x m) (λy hy=>hm y (aw _ hy)) (up _ ht) ?_
  intro e he
  by_cases c:m.1.1=w/\(m.2,w)∉x.1.map (·.1)
  ·have ea:jU t w x m=(x.1 ++ [((m.2,w),some ((t,w),some m.1))],x.2 ++ [(m.2,w)]):=by unfold jU;rw[aJ c]
   rw[ea]at he ⊢
   rcases aF.mp he with z |z
   ·exact(h e z).imp id λy=>y.imp λs hs=>aS _ hs
   ·rw[bx.mp z]
    exact .inr ⟨(t,w),m.1,rfl,aS _ ht,ay _ (by simp),rfl,c.1,hm m aA⟩
  ·have ea:jU t w x m=x:=by unfold jU;rw[aE c]
   rw[ea]at he ⊢
   exact h e he
theorem yj {l:Ln}{x:List EnS×List Sta} :∀ i,∀ e∈(goS l x i).1,e∈x.1\/MvE l e.1 e.2 (· ∈(goS l x i).2)
 | 0=>λe he=>.inl he
 |i+1=>by
  rw[goS]
  split
  ·rename_i s hs
   exact wD (B:=λe=>e∈x.1) (λm hm=>hm) (av hs) (yj i)
  ·exact yj i
theorem zW {B:EnS->Prop} :∀ {ss:List Sta}{x:List EnS×List Sta},∀ {A:Sta->Prop},(∀ s∈ss,A s)->(∀ e∈x.1,B e\/∃ s',A s'/\e=((s'.1,ow s'.2),some (s',none))/\e.1∈x.2)->∀ e∈(ss.foldl iR x).1,B e\/∃ s',A s'/\e=((s'.1,ow s'.2),some (s',none))/\e.1∈(ss.foldl iR x).2
 |[],_,_,_,h=>h
 |s0::r,x,A,hA,h=>by
  refine zW (ss:=r) (x:=iR x s0) (A:=A) (λs hs=>hA s (aw _ hs)) ?_
  intro e he
  by_cases c:(s0.1,ow s0.2)∉x.1.map (·.1)
  ·have ea:iR x s0=(x.1 ++ [((s0.1,ow s0.2),some (s0,none))],x.2 ++ [(s0.1,ow s0.2)]):=by unfold iR;rw[aJ c]
   rw[ea]at he ⊢
   rcases aF.mp he with z |z
   ·exact(h e z).imp id λ⟨s',h1,h2,h3⟩=>⟨s',h1,h2,aS _ h3⟩
   ·rw[bx.mp z]
    exact .inr ⟨s0,hA s0 aA,rfl,ay _ (by simp)⟩
  ·have ea:iR x s0=x:=by unfold iR;rw[aE c]
   rw[ea]at he ⊢
   exact h e he
inductive EE (l:Ln) (tr:List Int) (r:Nat):Sta->Bk->Prop
 |beg {s:Sta} :s.1=tr->isW s.2->EE l tr r s none
 |mv {s s':Sta}{k:Str×Int}{n:Nat} :s'.2=s.2->k.1=s.2->(k,s.1)∈mvs l s'.1->cnt l tr r s=some n->cnt l tr r s'=some n->EE l tr r s (some (s',some k))
 |ch {s s':Sta}{n:Nat} :s=(s'.1,ow s'.2)->cnt l tr r s'=some n->(cnt l tr r s=some (n+1)\/(s∈(rnd l tr r).2/\n+1=r))->EE l tr r s (some (s',none))
theorem EE.of {l:Ln}{W:List (List Int)}(gG:∀ t∈W,∀ m∈mvs l t,m.2∈W){tr:List Int}(ht:tr∈W)(hW:W.length<=300):∀ r,∀ e∈(rnd l tr r).1,EE l tr r e.1 e.2
 | 0=>λe he=>by
  have he:e=((tr,onW),none)\/e=((tr,gE),none):=by
   have:e∈ [((tr,onW),(none:Bk)),((tr,gE),none)]:=he
   simpa using this
  rcases he with z |z
  ·rw[z];exact .beg rfl (.inl rfl)
  ·rw[z];exact .beg rfl (.inr rfl)
 |r+1=>by
  have ih:=EE.of gG ht hW r
  have ci:=CI.of gG ht hW r
  have ci':=CI.of gG ht hW (r+1)
  have rc:=RC.of gG ht hW r
  have ge:∀ e∈(goF l (rnd l tr r)).1,e∈(rnd l tr r).1\/MvE l e.1 e.2 (· ∈(goF l (rnd l tr r)).2):=yj 1000
  have gp2:(rnd l tr r).2 <+:(goF l (rnd l tr r)).2:=vA l (rnd l tr r) 1000
  have gf:∀ s∈(goF l (rnd l tr r)).2,s∈(rnd l tr r).2\/s∉sts (rnd l tr r):=p6 1000
  have er:rnd l tr (r+1)=chN (goF l (rnd l tr r)).2 (goF l (rnd l tr r)).1:=by rw[rnd]
  have ec:∀ s,cnt l tr (r+1) s=open Classical in if s∈(goF l (rnd l tr r)).2 then some r else cnt l tr r s:=λs=>by rw[cnt]
  generalize goF l (rnd l tr r)=gg at ge gp2 gf er ec
  have unc:∀ s∈gg.2,cnt l tr r s=none:=λs hs=>by
   rcases gf s hs with z |z
   ·exact ci.fresh s z
   ·cases h:cnt l tr r s with
    |none=>rfl
    |some n=>exact absurd (rc.gG s (by rw[h];rfl)).1 z
  have lA:∀ s n,cnt l tr r s=some n->cnt l tr (r+1) s=some n:=λs n h=>by
   rw[ec s,aE (λz=>by rw[unc s z]at h;cases h)];exact h
  have now:∀ s∈gg.2,cnt l tr (r+1) s=some r:=λs hs=>by rw[ec s,aJ hs]
  have all:∀ e∈(rnd l tr (r+1)).1,e∈gg.1\/∃ s',s'∈gg.2/\e=((s'.1,ow s'.2),some (s',none))/\e.1∈(rnd l tr (r+1)).2:=by
   rw[er]
   exact zW (B:=λe=>e∈gg.1) (x:=(gg.1,[])) (A:=λs=>s∈gg.2) (λs hs=>hs) λe he=>.inl he
  intro e he
  rcases all e he with z |⟨s',hs',ee,hp⟩
  ·rcases ge e z with y |⟨s',k,h1,h2,h3,h4,h5,h6⟩
   ·have old:=ih e y
    cases hb:e.2 with
    |none=>
     rw[hb]at old
     cases old with
     |beg a b=>exact .beg a b
    |some q=>
     rw[hb]at old
     cases old with
     |mv a b c d f=>exact .mv a b c (lA _ _ d) (lA _ _ f)
     |ch a b c=>
      refine .ch a (lA _ _ b) (.inl ?_)
      rcases c with c |⟨c,e'⟩
      ·exact lA _ _ c
      ·obtain⟨cc,hc⟩:=gp2
       rw[now _ (by rw[<-hc];exact aS _ c),e']
   ·rw[h1]
    exact .mv h4 h5 h6 (now _ h3) (now _ h2)
  ·subst ee
   exact .ch rfl (now _ hs') (.inr ⟨hp,rfl⟩)
def oF:List Str->Nat
 |[]=>0
 |[_]=>0
 |a::b::r=>(if a=b then 0 else 1)+oF (b::r)
theorem sy:∀ (ws:List Str) (x w:Str),oF (ws ++ [x] ++ [w])=oF (ws ++ [x])+(if x=w then 0 else 1)
 |[],x,w=>by simp[oF]
 |[a],x,w=>by simp only[List.cons_append,List.nil_append,oF];omega
 |a::b::r,x,w=>by
  have ih:=sy (b::r) x w
  simp only[List.cons_append,oF]at ih ⊢
  omega
theorem jZ {es:List EnS}(nd:(es.map (·.1)).Nodup){s:Sta}{a b:Bk}(h1:(s,a)∈es)(h2:(s,b)∈es):a=b:=by
 induction es with
 |nil=>cases h1
 |cons e r ih=>
  rw[bg,bB]at nd
  rcases aG.mp h1 with z |z<;>rcases aG.mp h2 with y |y
  ·rw[<-z]at y;exact(bL Prod.snd y).symm
  ·exact absurd (eX (f:=(·.1)) y) (by rw[<-z]at nd;exact nd.1)
  ·exact absurd (eX (f:=(·.1)) z) (by rw[<-y]at nd;exact nd.1)
  ·exact ih nd.2 z y
section
variable {l:Ln}{W:List (List Int)}{tr:List Int}{r:Nat}
theorem Bw:∀ r,(r0 tr).1 <+:(rnd l tr r).1
 | 0=>bK _
 |r+1=>by
  have ih:=Bw r
  have gp:(rnd l tr r).1 <+:(goF l (rnd l tr r)).1:=pZ l (rnd l tr r) 1000
  have er:rnd l tr (r+1)=chN (goF l (rnd l tr r)).2 (goF l (rnd l tr r)).1:=by rw[rnd]
  generalize goF l (rnd l tr r)=gg at gp er
  rw[er]
  exact ih.trans (gp.trans (rF gg.2 (gg.1,[])))
theorem Hh (gG:∀ t∈W,∀ m∈mvs l t,m.2∈W)(ht:tr∈W)(hW:W.length<=300){s:Sta}{n:Nat}(h:cnt l tr r s=some n):s∈sts (rnd l tr r):=((RC.of gG ht hW r).gG s (by rw[h];rfl)).1
theorem j6.way (gG:∀ t∈W,∀ m∈mvs l t,m.2∈W)(ht:tr∈W)(hW:W.length<=300){s:Sta}{run:List (Str×Int)}(h:j6 (rnd l tr r).1 s run):∃ bs,Way l tr run bs/\bs[run.length]? = some s.1:=by
 have ee:=EE.of gG ht hW r
 induction h with
 |@nil s hm=>
  have:=ee _ hm
  cases this with
  |beg a b=>exact⟨[tr],⟨rfl,rfl,λj k b b' hk=>by simp at hk⟩,by rw[a];rfl⟩
 |@ch s s' run hm _ ih=>
  have:=ee _ hm
  cases this with
  |ch a b c=>
   obtain⟨bs,W,hb⟩:=ih
   have a:s=(s'.1,ow s'.2):=a
   exact⟨bs,W,by rw[hb,a]⟩
 |@mv s s' k run hm _ ih=>
  have:=ee _ hm
  cases this with
  |mv a b c d f=>
   obtain⟨bs,W,hb⟩:=ih
   refine⟨bs ++ [s.1],W.snoc (m:=(k,s.1)) hb c,?_⟩
   rw[ak,aI,az (by rw[W.len];exact au _),W.len,bu]
   rfl
theorem j6.chg (gG:∀ t∈W,∀ m∈mvs l t,m.2∈W)(ht:tr∈W)(hW:W.length<=300)(he:(rnd l tr r).2 = []){s:Sta}{run:List (Str×Int)}(h:j6 (rnd l tr r).1 s run):∀ n,cnt l tr r s=some n->
  (run = []/\n=0/\(s,none)∈(rnd l tr r).1)\/(∃ k run',run=run' ++ [k]/\k.1=s.2/\oF (run.map (·.1))=n/\∃ s',(s,some (s',some k))∈(rnd l tr r).1)\/(∃ k run',run=run' ++ [k]/\k.1=ow s.2/\oF (run.map (·.1))+1=n/\∃ s',(s,some (s',none))∈(rnd l tr r).1):=by
 have ee:=EE.of gG ht hW r
 have ci:=CI.of gG ht hW r
 have RN:=RO.rnd gG ht r
 have hr:1<=r:=by
  cases r with
  |zero=>simp[rnd,r0]at he
  |succ r=>omega
 have hw:∀ {s b},(s,b)∈(rnd l tr r).1->isW s.2:=λ{s b} hm=>(RN.inW s (eX (f:=(·.1)) hm)).2
 have beg:∀ w,isW w->((tr,w),none)∈(rnd l tr r).1:=λw hw=>by
  obtain⟨c,hc⟩:=Bw (l:=l) (tr:=tr) r
  rw[<-hc]
  refine aS _ ?_
  rcases hw with e |e
  ·rw[e];exact aA
  ·rw[e];exact aw _ aA
 have snoc:∀ (run':List (Str×Int)) (k k':Str×Int),oF ((run' ++ [k'] ++ [k]).map (·.1))=oF ((run' ++ [k']).map (·.1))+(if k'.1=k.1 then 0 else 1):=λrun' k k'=>by
  rw[aB,aB]
  exact sy _ _ _
 induction h with
 |@nil s hm=>
  intro n hn
  have:=ee _ hm
  cases this with
  |beg a b=>
   have e:s=(tr,s.2):=dj a rfl
   rw[e,ci.st hr s.2 b]at hn
   cases hn
   exact .inl ⟨rfl,rfl,hm⟩
 |@ch s s' run hm _ ih=>
  intro n hn
  have:=ee _ hm
  cases this with
  |ch a b c=>
   rename_i n'
   have a:s=(s'.1,ow s'.2):=a
   have c:cnt l tr r s=some (n'+1):=c.resolve_right λz=>by rw[he]at z;cases z.1
   rw[c]at hn
   cases hn
   rcases ih n' b with⟨_,_,z⟩|⟨k,run',e1,e2,e3,s2,z⟩|⟨k,run',e1,e2,e3,s2,z⟩
   ·have h1:s'.1=tr:=by
     have:=ee _ z
     cases this with
     |beg a b=>exact a
    have h2:=beg (ow s'.2) (hw z).ow
    have e9:(tr,ow s'.2)=s:=by rw[a,h1]
    rw[e9]at h2
    exact absurd (jZ RN.nd hm h2) (by intro y;cases y)
   ·refine .inr (.inr ⟨k,run',e1,?_,by rw[e3],s',hm⟩)
    rw[e2,a]
    exact(Ew (hw z)).symm
   ·exfalso
    have:=ee _ z
    cases this with
    |ch a2 b2 c2=>
     rename_i n2
     have a2:s'=(s2.1,ow s2.2):=a2
     have c2:cnt l tr r s'=some (n2+1):=c2.resolve_right λz=>by rw[he]at z;cases z.1
     have hs2:isW s2.2:=by
      have h3:=hw z
      have:(s2.1,ow s2.2).2=s'.2:=by rw[<-a2]
      have hin:=(Hh gG ht hW b2)
      exact(RN.inW s2 hin).2
     have e:s=s2:=by
      rw[a,a2]
      exact dj rfl (Ew hs2)
     rw[e]at c
     rw[b2]at c
     rw[b]at c2
     have c:=aP c
     have c2:=aP c2
     omega
 |@mv s s' k run hm _ ih=>
  intro n hn
  have:=ee _ hm
  cases this with
  |mv a b c d f=>
   rename_i n'
   rw[d]at hn
   cases hn
   refine .inr (.inl ⟨k,run,rfl,b,?_,s',hm⟩)
   rcases ih n f with⟨e1,e2,_⟩|⟨k',run',e1,e2,e3,_⟩|⟨k',run',e1,e2,e3,_,z⟩
   ·rw[e1,e2];rfl
   ·rw[e1]at e3 ⊢
    rw[snoc,aJ (by rw[e2,b];exact a),e3]
    rfl
   ·rw[e1]at e3 ⊢
    have hne:¬k'.1=k.1:=by
     rw[e2,b,<-a]
     exact J9 (hw z)
    rw[snoc,aE hne]
    exact e3
end
section
variable {l:Ln}{W:List (List Int)}{tr:List Int}{r:Nat}
theorem xN (he:(rnd l tr r).2 = []):1<=r:=by
 cases r with
 |zero=>simp[rnd,r0]at he
 |succ r=>omega
theorem A7 (gG:∀ t∈W,∀ m∈mvs l t,m.2∈W)(ht:tr∈W)(hW:W.length<=300)(he:(rnd l tr r).2 = []){s:Sta}{n:Nat}(h:cnt l tr r s=some n):∃ n',cnt l tr r (s.1,ow s.2)=some n'/\n'<=n+1:=
 ((CI.of gG ht hW r).ch s n h).resolve_right λz=>by rw[he]at z;cases z.1
theorem FA (gG:∀ t∈W,∀ m∈mvs l t,m.2∈W)(ht:tr∈W)(hW:W.length<=300)(he:(rnd l tr r).2 = []){t:List Int}{a b:Nat}(h1:cnt l tr r (t,onW)=some a)(h2:cnt l tr r (t,gE)=some b):a<=b+1/\b<=a+1:=by
 have hn:¬Str.ofString "back" = Str.ofString "on" :=by decide +kernel
 have e1:ow onW=gE:=by unfold ow onW gE;rw[aJ rfl]
 have e2:ow gE=onW:=by unfold ow onW gE;rw[aE hn]
 obtain⟨x,hx,lx⟩:=A7 gG ht hW he h1
 obtain⟨y,hy,ly⟩:=A7 gG ht hW he h2
 have hx:cnt l tr r (t,ow onW)=some x:=hx
 have hy:cnt l tr r (t,ow gE)=some y:=hy
 rw[e1,h2]at hx
 rw[e2,h1]at hy
 cases hx
 cases hy
 exact⟨ly,lx⟩
theorem Be (ok:gv l)(gG:∀ t∈W,∀ m∈mvs l t,m.2∈W)(ht:tr∈W)(hW:W.length<=300)(he:(rnd l tr r).2 = []){run:List (Str×Int)}{bs:List (List Int)}(h:Way l tr run bs):
  ∀ j,j+1<=run.length->∃ k b n,run[j]? = some k/\bs[j+1]? = some b/\isW k.1/\cnt l tr r (b,k.1)=some n/\n<=oF ((run.take (j+1)).map (·.1))
 | 0,hj=>by
  have ci:=CI.of gG ht hW r
  have hr:run[0]? = some run[0]:=ah (by omega)
  have hb:bs[1]? = some (bs[1]'(by rw[h.len];omega)):=ah _
  have hm:=h.step 0 _ _ _ hr h.first hb
  have hw:isW run[0].1:=(pX ok hm).1
  obtain⟨n',h1,h2⟩:=ci.mv (tr,run[0].1) 0 _ (ci.st (xN he) _ hw) hm rfl
  exact⟨_,_,n',hr,hb,hw,h1,by omega⟩
 |j+1,hj=>by
  obtain⟨k,b,n,h1,h2,h3,h4,h5⟩:=Be ok gG ht hW he h j (by omega)
  have ci:=CI.of gG ht hW r
  have hr:run[j+1]? = some run[j+1]:=ah (by omega)
  have hb:bs[j+1+1]? = some (bs[j+1+1]'(by rw[h.len];omega)):=ah _
  have hm:=h.step (j+1) _ _ _ hr h2 hb
  have hw:isW run[j+1].1:=(pX ok hm).1
  have et:(run.take (j+1+1)).map (·.1)=(run.take j).map (·.1) ++ [k.1] ++ [run[j+1].1]:=by
   rw[bh,bh,h1,hr]
   simp
  have et1:(run.take (j+1)).map (·.1)=(run.take j).map (·.1) ++ [k.1]:=by
   rw[bh,h1]
   simp
  have ec:oF ((run.take (j+1+1)).map (·.1))=oF ((run.take (j+1)).map (·.1))+(if k.1=run[j+1].1 then 0 else 1):=by
   rw[et,et1];exact sy _ _ _
  rw[ec]
  by_cases e:k.1=run[j+1].1
  ·obtain⟨n',g1,g2⟩:=ci.mv (b,k.1) n _ h4 hm e.symm
   rw[e]at g1
   refine⟨_,_,n',hr,hb,hw,g1,?_⟩
   rw[aJ e];omega
  ·have eo:ow k.1=run[j+1].1:=by
    have hn:¬Str.ofString "back" = Str.ofString "on" :=by decide +kernel
    unfold ow
    rcases h3 with f |f<;>rcases hw with g |g
    ·exact absurd (by rw[f,g]) e
    ·rw[f,aJ rfl,g]
    ·rw[f,aE hn,g]
    ·exact absurd (by rw[f,g]) e
   obtain⟨n1,g1,g2⟩:=A7 gG ht hW he h4
   have g1:cnt l tr r (b,ow k.1)=some n1:=g1
   rw[eo]at g1
   obtain⟨n2,g3,g4⟩:=ci.mv (b,run[j+1].1) n1 _ g1 hm rfl
   refine⟨_,_,n2,hr,hb,hw,g3,?_⟩
   rw[aE e];omega
end
theorem BZ {l:Ln}{x:List EnS×List Sta}(h:x.2 = []):∀ i,goS l x i=x
 | 0=>rfl
 |i+1=>by
  have ih:=BZ (l:=l) h i
  rw[goS,ih,h]
  rfl
theorem Eb {l:Ln}{tr:List Int}{r:Nat}(he:(rnd l tr r).2 = []):rnd l tr (r+1)=rnd l tr r/\∀ s,cnt l tr (r+1) s=cnt l tr r s:=by
 have eg:goF l (rnd l tr r)=rnd l tr r:=BZ he 1000
 have er:rnd l tr (r+1)=chN (goF l (rnd l tr r)).2 (goF l (rnd l tr r)).1:=by rw[rnd]
 have ec:∀ s,cnt l tr (r+1) s=open Classical in if s∈(goF l (rnd l tr r)).2 then some r else cnt l tr r s:=λs=>by rw[cnt]
 rw[eg]at er ec
 refine⟨?_,λs=>?_⟩
 ·rw[er,he]
  exact dj rfl he.symm
 ·rw[ec s,he,aE (by simp)]
theorem uC {l:Ln}{tr:List Int}{r:Nat}(he:(rnd l tr r).2 = []):∀ k,rnd l tr (r+k)=rnd l tr r/\∀ s,cnt l tr (r+k) s=cnt l tr r s
 | 0=>⟨rfl,λ_=>rfl⟩
 |k+1=>by
  obtain⟨h1,h2⟩:=uC he k
  obtain⟨g1,g2⟩:=Eb (l:=l) (tr:=tr) (r:=r+k) (by rw[h1];exact he)
  exact⟨by rw[<-ft,g1,h1],λs=>by rw[<-ft,g2,h2]⟩
theorem Bv {l:Ln}{tr:List Int}{r r':Nat}(he:(rnd l tr r).2 = [])(he':(rnd l tr r').2 = []):rnd l tr r=rnd l tr r'/\∀ s,cnt l tr r s=cnt l tr r' s:=by
 rcases Nat.le_total r r' with z |z
 ·obtain⟨k,rfl⟩:=cx z
  obtain⟨h1,h2⟩:=uC he k
  exact⟨h1.symm,λs=>(h2 s).symm⟩
 ·obtain⟨k,rfl⟩:=cx z
  obtain⟨h1,h2⟩:=uC he' k
  exact⟨h1,h2⟩
theorem CN {es:List EnS}(nd:(es.map (·.1)).Nodup):∀ {s:Sta}{run run':List (Str×Int)},j6 es s run->j6 es s run'->run=run':=by
 intro s run run' h
 induction h generalizing run' with
 |@nil s hm=>
  intro h'
  cases h' with
  |nil _=>rfl
  |ch hm' _=>exact absurd (jZ nd hm hm') (by intro z;cases z)
  |mv hm' _=>exact absurd (jZ nd hm hm') (by intro z;cases z)
 |@ch s s' r hm _ ih=>
  intro h'
  cases h' with
  |nil hm'=>exact absurd (jZ nd hm hm') (by intro z;cases z)
  |ch hm' h2=>
   have e:=jZ nd hm hm'
   injection e with e
   injection e with e1 e2
   subst e1
   exact ih h2
  |mv hm' _=>
   have e:=jZ nd hm hm'
   injection e with e
   injection e with e1 e2
   cases e2
 |@mv s s' k r hm _ ih=>
  intro h'
  cases h' with
  |nil hm'=>exact absurd (jZ nd hm hm') (by intro z;cases z)
  |ch hm' _=>
   have e:=jZ nd hm hm'
   injection e with e
   injection e with e1 e2
   cases e2
  |mv hm' h2=>
   have e:=jZ nd hm hm'
   injection e with e
   injection e with e1 e2
   injection e2 with e2
   subst e1 e2
   rw[ih h2]
theorem Ka {P:Program}{w:World}{K:PySem.W.Frag}{mg:Str->Option Value}{od:Addr}{t1 t2 t3 t4:Tok}{ep:Nat}(hm:mg "OTHER_WORD" = some (.ref od))
  (hk:K.lookup od=some {cls:=.type "dict",data:=.dict #[⟨PyData.keyHash w.params (Str.ofString "on"),.str (Str.ofString "on") t1,.str (Str.ofString "back") t2⟩,⟨PyData.keyHash w.params (Str.ofString "back"),.str (Str.ofString "back") t3,.str (Str.ofString "on") t4⟩] ep}):Hb P w K mg od:=by
 refine⟨hm,λh hK=>⟨t2,t4,_,_,ep,hK od _ hk,⟨rfl,rfl,rfl⟩,rfl,?_,?_,?_⟩⟩
 ·intro e he
  have he:e=⟨PyData.keyHash w.params (Str.ofString "on"),.str (Str.ofString "on") t1,.str (Str.ofString "back") t2⟩\/e=⟨PyData.keyHash w.params (Str.ofString "back"),.str (Str.ofString "back") t3,.str (Str.ofString "on") t4⟩:=by simpa using he
  rcases he with z |z
  ·rw[z];exact⟨.inr (Str.ofString "on"),oC (P:=P) (w:=w) (k:=.inr (Str.ofString "on")) ⟨t1,rfl⟩,rfl⟩
  ·rw[z];exact⟨.inr (Str.ofString "back"),oC (P:=P) (w:=w) (k:=.inr (Str.ofString "back")) ⟨t3,rfl⟩,rfl⟩
 ·exact .cons (oC (P:=P) (w:=w) (k:=.inr (Str.ofString "on")) ⟨t1,rfl⟩) rfl (.cons (oC (P:=P) (w:=w) (k:=.inr (Str.ofString "back")) ⟨t3,rfl⟩) rfl .nil)
 ·have hn:¬(Sum.inr (Str.ofString "on"):Key) = .inr (Str.ofString "back"):=by decide +kernel
  simp[hn]
def chp (ws:List Str):Nat->Bool:=λi=> !decide (ws[i]? = ws[i+1]?)
def chg (ws:List Str):Nat:=((List.range (ws.length-1)).filter (chp ws)).length
theorem yq:∀ ws:List Str,chg ws=oF ws
 |[]=>rfl
 |[_]=>rfl
 |a::b::r=>by
  have ih:=yq (b::r)
  unfold chg at ih ⊢
  have e1:(a::b::r).length-1=r.length+1:=by simp
  have e2:(b::r).length-1=r.length:=by simp
  rw[e2]at ih
  rw[e1,List.range_succ_eq_map,List.filter_cons,List.filter_map,oF]
  have e3:(chp (a::b::r) ∘ Nat.succ)=chp (b::r):=by
   funext i
   show(!decide ((a::b::r)[i+1]? = (a::b::r)[i+1+1]?))=_
   rw[cT,cT]
   rfl
  rw[e3]
  have e4:chp (a::b::r) 0 = !decide (a=b):=by
   unfold chp
   simp
  rw[e4]
  by_cases h:a=b
  ·rw[aJ h,bA h]
   simp only[bU,aO,bG,aa]
   omega
  ·rw[aE h,aU h]
   simp only[fc,cP,aR,aa]
   omega
section
variable {X:Cx}
theorem Gr:OpR X (compareOp .IsNot) (λx y H Q=>∃ a b,x = .bl a/\y = .bl b/\Q (.bl (!decide (a=b))) H):=by
 intro pins s σ H x y v u Q I rx ry h
 obtain⟨a,b,rfl,rfl,q⟩:=h
 cases rx
 cases ry
 exact wpAny_isNot_plain (by cases a<;>cases b<;>rfl) (hX I q (by cases a<;>cases b<;>rfl))
end
theorem DD {X:Cx}(hc:X.calm=true):jS X (.builtin "min") (λxs H Q=>∃ (a:Addr) (i j:Int),xs = [.ref a]/\SqT X.K H a [.int i,.int j]/\Q (.int (if j<i then j else i)) H):=by
 intro pins s σ H xs us Q I r h
 obtain⟨a,i,j,rfl,hx,q⟩:=h
 obtain⟨u,rfl,ru⟩:=vals1 r
 cases ru
 obtain⟨its,rv,⟨o,e,hcl,n,hd⟩,hz⟩:=I.tuple hx
 obtain⟨u1,u2,rfl,⟨t,rfl⟩,⟨t',rfl⟩⟩:=vals2 rv
 have hT:s.heap.IsTuple a (intItems #[(i,t),(j,t')]):=⟨o,e,hcl,n,by rw[hd];simp[intItems]⟩
 have hlt:a<s.heap.objs.size:=aC e
 refine call_min_walk (wpAny_pyIter_tuple hT ?_)
 refine⟨_,[_,a],[_],_,_,_,_,rfl,Walks.tuple (A:=X.A.in1) (I.ok.hd hc) _ a (aL hlt) (intItems #[(i,t),(j,t')]),
  ⟨⟨_,aQ _ rfl,rfl,rfl⟩,hT.push _⟩,λc hc=>?_,by simp[intItems],CmpOf.ints_lt (numAt #[(i,t),(j,t')]) (λ_ _=>intItems_at),λv h' tk hP hk=>?_⟩
 ·show c<(s.heap.push _).objs.size
  rw[Heap.size_push]
  rcases aG.mp hc with rfl |hc
  ·exact Nat.lt_succ_self _
  ·rcases aG.mp hc with rfl |hc
   ·exact Nat.lt_succ_of_lt hlt
   ·cases hc
 ·have hold:∀ c o,s.heap.get? c=some o->h'.get? c=some o:=λc o e=>by
   refine hk c o (λhm=>?_) (ax _ e)
   rcases aG.mp hm with e1 |hm
   ·exact absurd (e1 ▸ aC e) (cO _)
   ·cases hm
  have hP':(intItems #[(i,t),(j,t')])[argBest (λx y=>decide (numAt #[(i,t),(j,t')] x<numAt #[(i,t),(j,t')] y)) 1]? = some v:=by
   have Pm:(intItems #[(i,t),(j,t')]).size-1=1:=by simp[intItems]
   rw[<-Pm];exact hP
  by_cases hba:j<i
  ·have e:argBest (λx y=>decide (numAt #[(i,t),(j,t')] x<numAt #[(i,t),(j,t')] y)) 1=1:=by simp[argBest,numAt,hba]
   rw[e]at hP'
   have hv:v = .int j t':=by simpa [intItems]using hP'.symm
   rw[aJ hba]at q
   exact⟨.int _,H,I.kept hold,⟨_,hv⟩,q⟩
  ·have e:argBest (λx y=>decide (numAt #[(i,t),(j,t')] x<numAt #[(i,t),(j,t')] y)) 1=0:=by simp[argBest,numAt,hba]
   rw[e]at hP'
   have hv:v = .int i t:=by simpa [intItems]using hP'.symm
   rw[aE hba]at q
   exact⟨.int _,H,I.kept hold,⟨_,hv⟩,q⟩
section
variable {l:Ln}{W:List (List Int)}{tr:List Int}{r:Nat}
theorem j6.few (gG:∀ t∈W,∀ m∈mvs l t,m.2∈W)(ht:tr∈W)(hW:W.length<=300)(he:(rnd l tr r).2 = []){s:Sta}{run:List (Str×Int)}(h:j6 (rnd l tr r).1 s run){n n':Nat}(h1:cnt l tr r s=some n)(h2:cnt l tr r (s.1,ow s.2)=some n')(le:n<=n'):oF (run.map (·.1))=n:=by
 rcases h.chg gG ht hW he n h1 with⟨e,hn,_⟩|⟨_,_,_,_,e,_⟩|⟨k,run',_,_,e,s',hm⟩
 ·rw[e,hn];rfl
 ·exact e
 ·exfalso
  have ee:=EE.of gG ht hW r _ hm
  cases ee with
  |ch a b c=>
   rename_i n2
   have a:s=(s'.1,ow s'.2):=a
   have c:cnt l tr r s=some (n2+1):=c.resolve_right λz=>by rw[he]at z;cases z.1
   have hs':isW s'.2:=((RO.rnd gG ht r).inW s' (Hh gG ht hW b)).2
   have e2:(s.1,ow s.2)=s':=by
    rw[a]
    exact dj rfl (Ew hs')
   rw[e2,b]at h2
   rw[h1]at c
   have h2:=aP h2
   have c:=aP c
   omega
theorem F2 (ok:gv l)(gG:∀ t∈W,∀ m∈mvs l t,m.2∈W)(ht:tr∈W)(hW:W.length<=300)(he:(rnd l tr r).2 = []){run:List (Str×Int)}{bs:List (List Int)}(h:Way l tr run bs){gs:List Int}(hg:bs[run.length]? = some gs):∃ w n,isW w/\cnt l tr r (gs,w)=some n/\n<=oF (run.map (·.1)):=by
 by_cases z:run.length=0
 ·rw[z,h.first]at hg
  cases hg
  exact⟨onW,0,.inl rfl,(CI.of gG ht hW r).st (xN he) _ (.inl rfl),aK _⟩
 ·obtain⟨k,b,n,_,h2,h3,h4,h5⟩:=Be ok gG ht hW he h (run.length-1) (by omega)
  rw[show run.length-1+1=run.length by omega]at h2 h5
  rw[hg]at h2
  cases h2
  rw[br]at h5
  exact⟨k.1,n,h3,h4,h5⟩
theorem Eu {es:List EnS}(nd:(es.map (·.1)).Nodup)(bk:iy es){s:Sta}{run:List (Str×Int)}(h:j6 es s run):∀ (j:Nat) e,es[j]? = some e->e.1=s->run.length<=j:=by
 have one:∀ {j:Nat}{e:EnS}{b:Bk}{s:Sta},es[j]? = some e->e.1=s->(s,b)∈es->e=(s,b):=λ{j e b s} h1 h2 h3=>by
  have h4:(s,e.2)∈es:=by rw[<-h2];exact av h1
  have:=jZ nd h4 h3
  rw[<-this,<-h2]
 induction h with
 |nil _=>exact λj e _ _=>aK _
 |@ch s s' r hm _ ih=>
  intro j e he ee
  rw[one he ee hm]at he
  obtain⟨i,e1,hi,he1,e2⟩:=bk.back j s s' _ he
  have:=ih i e1 he1 e2
  omega
 |@mv s s' k r hm _ ih=>
  intro j e he ee
  rw[one he ee hm]at he
  obtain⟨i,e1,hi,he1,e2⟩:=bk.back j s s' _ he
  have:=ih i e1 he1 e2
  rw[ak,aI]
  omega
theorem j6.len (gG:∀ t∈W,∀ m∈mvs l t,m.2∈W)(ht:tr∈W)(hW:W.length<=300){s:Sta}{run:List (Str×Int)}(h:j6 (rnd l tr r).1 s run):run.length<=600:=by
 have R:=RO.rnd gG ht r
 have hm:s∈(rnd l tr r).1.map (·.1):=by
  cases h with
  |nil z=>exact ao.mpr ⟨_,z,rfl⟩
  |ch z _=>exact ao.mpr ⟨_,z,rfl⟩
  |mv z _=>exact ao.mpr ⟨_,z,rfl⟩
 obtain⟨e,he,ee⟩:=ao.mp hm
 obtain⟨j,hj,ej⟩:=bj.mp he
 have:=Eu R.nd (iy.rnd gG ht r) h j e (by rw[ah hj,ej]) ee
 have:=R.len.1
 omega
end
end TL
namespace K21
open PySem L2 TL PyProof.Rows
abbrev St:=L2.St
def top (i:Nat):Stmt:=PySem.Challenge.pw_turnline_k21_whole_fewest_changes.main.body.getD i (.Pass ⟨0,0,0,0⟩)
def kj:Sp:=λvs H Q _=>∃ e:Int,vs = [.int e]/\Q (.int (oth e)) H
def xD:Sp:=λvs H Q _=>∃ e:Int,vs = [.int e]/\Q (.int (e/2)) H
def xF (K:PySem.W.Frag):Sp:=λvs H Q _=>∃ (a:Addr) (ns:List Int) (k:Int),vs = [.ref a,.int k]/\SqL K H a (ns.map V.int)/\0<=k/\∀ c,Q (.int c) H
def ud:Sp:=λvs H Q _=>∃ c k:Int,vs = [.int c,.int k]/\0<=k/\k<=1000/\∀ n,0<=n->n<2147483648->Q (.int n) H
abbrev lC:Stmt:=top 10
theorem xI:gj ["end"] ["end"] (fJ lC):=⟨rfl,rfl,rfl,by decide +kernel,rfl,by decide +kernel,by decide +kernel⟩
abbrev mr:Stmt:=top 11
theorem yV:gj ["end"] ["end"] (fJ mr):=⟨rfl,rfl,rfl,by decide +kernel,rfl,by decide +kernel,by decide +kernel⟩
abbrev jc:Stmt:=top 42
theorem xK:gj ["_law_end"] ["_law_end"] (fJ jc):=⟨rfl,rfl,rfl,by decide +kernel,rfl,by decide +kernel,by decide +kernel⟩
abbrev jW:Stmt:=top 39
theorem uw:gj ["_law_script","_law_k"] ["_law_script","_law_k"] (fJ jW):=⟨rfl,rfl,rfl,by decide +kernel,rfl,by decide +kernel,by decide +kernel⟩
abbrev kJ:Stmt:=top 40
theorem mq:gj ["_law_cell","_law_k","_law_again","_law_number"] ["_law_cell","_law_k"] (fJ kJ):=⟨rfl,rfl,rfl,by decide +kernel,rfl,by decide +kernel,by decide +kernel⟩
section
variable {P:Program}{w:World}{K:PySem.W.Frag}{mg:Str->Option Value}{base:Heap}{f:Addr}{fd:FuncData}{D c1 c2 c3 c4 c5 c6 c7:Addr}
theorem rf (F:Fn K mg "other_end" lC ["end"] f fd):fV P w K mg base CX0 1 f fd ["end"] kj:=by
 refine F.F.ok xI (λvs H Q E h=>?_) (λcdv A outer s H vs Q E hr h=>?_)
 ·obtain⟨e,rfl,_⟩:=h;rfl
 ·obtain⟨e,rfl,k⟩:=h
  refine⟨_,(fH (fT (fX Im (pv 0) fF))),?_⟩
  refine⟨_,rfl,_,_,rfl,rfl,?_⟩
  show Q (.int (Builtin.bitXor e 1)) H
  rw[FY];exact k
theorem sV (F:Fn K mg "piece_of" mr ["end"] f fd):fV P w K mg base CX0 1 f fd ["end"] xD:=by
 refine F.F.ok yV (λvs H Q E h=>?_) (λcdv A outer s H vs Q E hr h=>?_)
 ·obtain⟨e,rfl,_⟩:=h;rfl
 ·obtain⟨e,rfl,k⟩:=h
  refine⟨_,(fH (fT (fX jz (pv 0) fF))),?_⟩
  exact⟨_,rfl,_,_,rfl,rfl,⟨by decide,by decide⟩,k⟩
theorem kA (F:Fn K mg "_law_other" jc ["_law_end"] f fd):fV P w K mg base CX0 1 f fd ["_law_end"] kj:=by
 refine F.F.ok xK (λvs H Q E h=>?_) (λcdv A outer s H vs Q E hr h=>?_)
 ·obtain⟨e,rfl,_⟩:=h;rfl
 ·obtain⟨e,rfl,k⟩:=h
  refine⟨_,(fH (fT (fX uK (fX i9 (pv 0) fF) (fX kL fF (fX iB (pv 0) fF))))),?_⟩
  exact⟨_,rfl,_,_,rfl,rfl,_,rfl,_,_,rfl,rfl,by show(0:Int)<2;decide,_,_,rfl,rfl,.inl ⟨by decide,by decide⟩,_,_,rfl,rfl,k⟩
theorem oS (F:Fn K mg "_law_cell_at" jW ["_law_script","_law_k"] f fd)(B:Bl mg):fV P w K mg base CX0 1 f fd ["_law_script","_law_k"] (xF K):=by
 refine F.F.ok uw (λvs H Q E h=>?_) (λcdv A outer s H vs Q E hr h=>?_)
 ·obtain⟨a,ns,k,rfl,_⟩:=h;rfl
 ·obtain⟨a,ns,k,rfl,hS,h0,q⟩:=h
  refine⟨_,(fE (gN (gB (qY (pv 1) (fQ gh rfl B.len bT (fA (pv 0) fD))))
 (fH (fT (gq hV (pv 0) (pv 1) (λ_ _=>rfl)))) fY)
 (fH (fT fF))),?_⟩
  refine⟨_,rfl,_,rfl,a,_,rfl,.inl hS,_,_,rfl,rfl,_,rfl,gT (λhlt=>?_) (λ_=>?_)⟩
  ·have hlt:k<((ns.map V.int).length:Int):=by simpa using hlt
   rw[aa]at hlt
   have hg:(ns.map V.int)[k.toNat]? = some (V.int (ns.getD k.toNat 0)):=by
    rw[aj,aN]
    have:k.toNat<ns.length:=by omega
    simp[this]
   have e1:((k.toNat:Nat):Int)=k:=by omega
   exact⟨_,rfl,_,rfl,a,_,k,_,rfl,rfl,hS,by have h:=mU hg;rw[e1]at h;exact h,q _⟩
  ·exact q _
theorem n8 (F:Fn K mg "_law_mix" kJ ["_law_cell","_law_k"] f fd)(B:Bl mg):fV P w K mg base CX0 1 f fd ["_law_cell","_law_k"] ud:=by
 refine F.F.ok mq (λvs H Q E h=>?_) (λcdv A outer s H vs Q E hr h=>?_)
 ·obtain⟨c,k,rfl,_⟩:=h;rfl
 ·obtain⟨c,k,rfl,h0,h1,q⟩:=h
  refine⟨_,(fE (gN (gB (J8 (pv 0) (fX Ay fF fF)))
 (fE (iL aV rfl (pS rfl B.range (fA (pv 1) fD)) (fL (i:=2) mq.nd rfl (Or.inl rfl))
 (fH (fR (i:=0) mq.nd rfl (Or.inl rfl) (fX jz (pv 0) (fX Ay fF fF)))))
 (fH (fT (fX iB (pv 0) (fX Ay fF fF))))) fY)
 (fE (fR (i:=3) mq.nd rfl (Or.inl rfl) (fX iB (fX kL (fX i9 (fX i9 (fX iB (pv 0) fF) (fX kL (fX kL (pv 1) (pv 1)) fF)) (pv 1)) fF) fF))
 (fE (fR (i:=3) mq.nd rfl (Or.inl rfl) (fX iB (fX kL (pv 3) (pv 3)) fF))
 (fH (fT (fX jz (fX iB (fX kL (pv 3) (fX i9 (pv 3) fF)) fF) fF)))))),?_⟩
  refine⟨_,rfl,_,_,rfl,rfl,⟨by decide,by decide,by decide⟩,_,_,rfl,rfl,_,rfl,gT (λhlt=>?_) (λ_=>?_)⟩
  ·refine⟨_,rfl,_,rfl,by omega,by omega,p7 (λi σ H2=>H2=H/\∃ (c:Int) (x:Option V),σ = [some (.int c),some (.int k),x,none]) ⟨rfl,c,none,rfl⟩ ?_ ?_⟩
   ·rintro i σ H2 hi ⟨rfl,c,x,rfl⟩
    exact⟨_,rfl,_,_,rfl,rfl,⟨by decide,by decide,by decide⟩,_,_,rfl,rfl,⟨by decide,by decide⟩,rfl,_,_,rfl⟩
   ·rintro σ H2 ⟨rfl,c,x,rfl⟩
    refine⟨_,rfl,_,_,rfl,rfl,⟨by decide,by decide,by decide⟩,_,_,rfl,rfl,(by show(0:Int)<_;decide),q _ ?_ ?_⟩
    ·show 0<=c%(10 ^ 6);omega
    ·show c%(10 ^ 6)<_;omega
  ·refine⟨_,rfl,_,_,rfl,rfl,(by show(0:Int)<_;decide),_,rfl,_,rfl,_,_,rfl,rfl,.inl ⟨by omega,by omega⟩,_,_,rfl,rfl,.inr ⟨by decide,by decide⟩,_,_,rfl,rfl,_,rfl,_,_,rfl,rfl,_,_,rfl,rfl,.inr ⟨by decide,by decide⟩,_,_,rfl,rfl,(by show(0:Int)<_;decide),?_⟩
   dsimp only
   generalize hn:(c%1000003+k*k*7919+k)*48271%2147483629=n
   have n0:0<=n:=by omega
   have n1:n<2147483629:=by omega
   refine⟨_,rfl,_,rfl,_,_,rfl,rfl,.inl ⟨by omega,by omega⟩,_,_,rfl,rfl,(by show(0:Int)<_;decide),?_⟩
   dsimp only
   generalize hm:n*n%2147483587=m
   have m0:0<=m:=by omega
   have m1:m<2147483587:=by omega
   refine⟨_,rfl,_,rfl,_,_,rfl,rfl,_,_,rfl,rfl,.inl ⟨by omega,by omega⟩,_,_,rfl,rfl,(by show(0:Int)<_;decide),_,_,rfl,rfl,⟨by decide,by decide⟩,q _ ?_ ?_⟩
   ·show 0<=m*(m+2)%2147483579/7;omega
   ·show m*(m+2)%2147483579/7<_;omega
end
theorem gX {n:Nat}(h:n<=1000):n<sizeLine:=bY h (by decide)
theorem rB {K:PySem.W.Frag}{H:Hp}{js:List (Int×Int)}{vs:List V}(h:Das K H (js.map dP) vs):vs.length=js.length:=by rw[Dgs.length h,aa]
theorem qc {l:Int×List (Int×Int)}(h:gv l)(e:Int):(below l.2 e).length+(above l.2 e).length<=60:=h.inc e
def lZ (K:PySem.W.Frag):Sp:=λvs H Q _=>∃ (v:V) (l:Int×List (Int×Int)) (e:Int),vs = [v,.int e]/\Da K H (dL l) v/\gv l/\yA H (jn l.2 e) Q
def yO (K:PySem.W.Frag):Sp:=λvs H Q _=>∃ (v:V) (ns:List Int),vs = [v]/\Da K H (dI ns) v/\ns.length<=1000/\yA H (ns.reverse.map oth) Q
def Bq (K:PySem.W.Frag):Sp:=λvs H Q _=>∃ (v u:V) (l:Int×List (Int×Int)) (ns:List Int) (e:Int),vs = [v,u,.int e]/\Da K H (dL l) v/\Da K H (dI ns) u/\gv l/\ns.length<=1000/\yA H (fr l ns e) Q
def lB (K:PySem.W.Frag):Sp:=λvs H Q _=>∃ (v u:V) (l:Int×List (Int×Int)) (ns:List Int),vs = [v,u]/\Da K H (dL l) v/\Da K H (dI ns) u/\gv l/\ns≠ []/\ns.length<=900/\FV K H (mvs l ns) Q
abbrev mw:Stmt:=top 13
theorem pM:gj ["line","end","joints","above","below"] ["line","end"] (fJ mw):=⟨rfl,rfl,rfl,by decide +kernel,rfl,by decide +kernel,by decide +kernel⟩
theorem pf:gH (fJ mw) ["line","end","joints","above","below"] {kind:=.function,names:=[(Str.ofString ".0",.local),(Str.ofString "low",.local),(Str.ofString "high",.local),(Str.ofString "end",.free)],isGenerator:=false,isCoroutine:=false,more:=[]} ["low","high","end"] 2 [none,none,some 1]:=⟨rfl,by decide +kernel,by decide +kernel,by decide +kernel,rfl,by decide +kernel,rfl,by decide +kernel⟩
theorem o9:gH (fJ mw) ["line","end","joints","above","below"] {kind:=.function,names:=[(Str.ofString ".0",.local),(Str.ofString "low",.local),(Str.ofString "high",.local),(Str.ofString "end",.free)],isGenerator:=false,isCoroutine:=false,more:=[]} ["low","high","end"] 2 [none,none,some 1]:=⟨rfl,by decide +kernel,by decide +kernel,by decide +kernel,rfl,by decide +kernel,rfl,by decide +kernel⟩
abbrev jf:Stmt:=top 43
theorem vZ:gj ["_law_line_here","_law_end"] ["_law_line_here","_law_end"] (fJ jf):=⟨rfl,rfl,rfl,by decide +kernel,rfl,by decide +kernel,by decide +kernel⟩
theorem lK:gH (fJ jf) ["_law_line_here","_law_end"] {kind:=.function,names:=[(Str.ofString ".0",.local),(Str.ofString "_law_a",.local),(Str.ofString "_law_b",.local),(Str.ofString "_law_end",.free)],isGenerator:=false,isCoroutine:=false,more:=[]} ["_law_a","_law_b","_law_end"] 2 [none,none,some 1]:=⟨rfl,by decide +kernel,by decide +kernel,by decide +kernel,rfl,by decide +kernel,rfl,by decide +kernel⟩
theorem lJ:gH (fJ jf) ["_law_line_here","_law_end"] {kind:=.function,names:=[(Str.ofString ".0",.local),(Str.ofString "_law_a",.local),(Str.ofString "_law_b",.local),(Str.ofString "_law_end",.free)],isGenerator:=false,isCoroutine:=false,more:=[]} ["_law_a","_law_b","_law_end"] 2 [none,none,some 1]:=⟨rfl,by decide +kernel,by decide +kernel,by decide +kernel,rfl,by decide +kernel,rfl,by decide +kernel⟩
abbrev lD:Stmt:=top 47
theorem xJ:gj ["_law_train_here"] ["_law_train_here"] (fJ lD):=⟨rfl,rfl,rfl,by decide +kernel,rfl,by decide +kernel,by decide +kernel⟩
theorem o6:gH (fJ lD) ["_law_train_here"] {kind:=.function,names:=[(Str.ofString ".0",.local),(Str.ofString "_law_end",.local),(Str.ofString "_law_other",.globalImplicit)],isGenerator:=false,isCoroutine:=false,more:=[]} ["_law_end"] 1 [none]:=⟨rfl,by decide +kernel,by decide +kernel,by decide +kernel,rfl,by decide +kernel,rfl,by decide +kernel⟩
abbrev kd:Stmt:=top 16
theorem qS:gj ["line","train","end","pieces"] ["line","train","end"] (fJ kd):=⟨rfl,rfl,rfl,by decide +kernel,rfl,by decide +kernel,by decide +kernel⟩
theorem pj:gH (fJ kd) ["line","train","end","pieces"] {kind:=.function,names:=[(Str.ofString ".0",.local),(Str.ofString "own",.local),(Str.ofString "piece_of",.globalImplicit)],isGenerator:=false,isCoroutine:=false,more:=[]} ["own"] 1 [none]:=⟨rfl,by decide +kernel,by decide +kernel,by decide +kernel,rfl,by decide +kernel,rfl,by decide +kernel⟩
theorem ph:gH (fJ kd) ["line","train","end","pieces"] {kind:=.function,names:=[(Str.ofString ".0",.local),(Str.ofString "there",.local),(Str.ofString "piece_of",.globalImplicit),(Str.ofString "pieces",.free)],isGenerator:=false,isCoroutine:=false,more:=[]} ["there","pieces"] 1 [none,some 3]:=⟨rfl,by decide +kernel,by decide +kernel,by decide +kernel,rfl,by decide +kernel,rfl,by decide +kernel⟩
abbrev kI:Stmt:=top 17
theorem mP:gj ["line","train","told","end"] ["line","train"] (fJ kI):=⟨rfl,rfl,rfl,by decide +kernel,rfl,by decide +kernel,by decide +kernel⟩
abbrev jD:Stmt:=top 48
theorem kn:gj ["_law_line_here","_law_train_here","_law_end","_law_pieces","_law_found"] ["_law_line_here","_law_train_here"] (fJ jD):=⟨rfl,rfl,rfl,by decide +kernel,rfl,by decide +kernel,by decide +kernel⟩
theorem o8:gH (fJ jD) ["_law_line_here","_law_train_here","_law_end","_law_pieces","_law_found"] {kind:=.function,names:=[(Str.ofString ".0",.local),(Str.ofString "_law_end",.local)],isGenerator:=false,isCoroutine:=false,more:=[]} ["_law_end"] 1 [none]:=⟨rfl,by decide +kernel,by decide +kernel,by decide +kernel,rfl,by decide +kernel,rfl,by decide +kernel⟩
section
variable {P:Program}{w:World}{K:PySem.W.Frag}{mg:Str->Option Value}{base:Heap}{f:Addr}{fd:FuncData}{D c1 c2 c3 c4 c5 c6 c7:Addr}
theorem wW (F:Fn K mg "joined" mw ["line","end"] f fd)(B:Bl mg):fV P w K mg base CX0 1 f fd ["line","end"] (lZ K):=by
 refine F.F.ok pM (λvs H Q E h=>?_) (λcdv A outer s H vs Q E hr h=>?_)
 ·obtain⟨v,l,e,rfl,_⟩:=h;rfl
 ·obtain⟨v,l,e,rfl,hv,ok,k⟩:=h
  obtain⟨a,b,rfl,ht,us,hl,hq⟩:=p9 hv
  have hlen:=rB hq
  have hz:us.length<sizeLine:=gX (by rw[hlen];have:=ok.len;omega)
  refine⟨_,(fE (fR (i:=2) pM.nd rfl (Or.inl rfl) (gq gD (pv 0) fF (λ_ _=>rfl)))
 (fE (uE (i:=3) pM.nd rfl rfl (gz (pv 2)) rfl pf (.tup (.cons (.name (by decide)) (.cons (.name (by decide)) .nil))) (λ_ _ _ _=>(ie (n:=2) rfl (fN (fL (i:=0) pf.nd rfl (Or.inl rfl)) (fN (fL (i:=1) pf.nd rfl (Or.inl rfl)) gP)))) (λ_ _ _ _=>(kz (gB (nY (pv 0) (pv 2))))) (λ_ _ _ _=>(pv 1)))
 (fE (uE (i:=4) pM.nd rfl rfl (gz (pv 2)) rfl o9 (.tup (.cons (.name (by decide)) (.cons (.name (by decide)) .nil))) (λ_ _ _ _=>(ie (n:=2) rfl (fN (fL (i:=0) o9.nd rfl (Or.inl rfl)) (fN (fL (i:=1) o9.nd rfl (Or.inl rfl)) gP)))) (λ_ _ _ _=>(kz (gB (nY (pv 1) (pv 2))))) (λ_ _ _ _=>(pv 0)))
 (fH (fT (fQ sY rfl B.sorted boot_sorted (fA (fX oR (pv 4) (pv 3)) fD))))))),?_⟩
  refine⟨_,rfl,a,_,_,_,rfl,rfl,ht,rfl,?_⟩
  refine⟨_,rfl,b,rfl,⟨us,hl⟩,λl1 n1=>lh l.2 (λp=>decide (p.1=e)) (λp=>V.int p.2) n1 hl hlen hz ?_ ?_⟩
  ·intro i x d H' hx hd sm P1 P0 k1 k0
   obtain⟨ad,p,e1,rfl,hp⟩:=oY (Das.same sm hq) hx
   rw[hd]at e1;cases e1
   refine⟨ad,_,rfl,hp,rfl,_,_,rfl,_,_,rfl,rfl,_,rfl,_,rfl,_,_,rfl,rfl,_,rfl,gT (λh=>⟨_,rfl,k1 h⟩) (λh=>k0 (by simpa using h))⟩
  have s1:fI H (upd H l1 (.lst (above l.2 e |>.map V.int))):=fB n1
  have e1:((l.2.filter λp=>decide (p.1=e)).map λp=>V.int p.2)=(above l.2 e).map V.int:=by unfold above;rw[bz];rfl
  rw[e1]
  refine⟨_,rfl,b,rfl,⟨us,s1.seq hl⟩,λl2 n2=>lh l.2 (λp=>decide (p.2=e)) (λp=>V.int p.1) n2 (s1.seq hl) hlen hz ?_ ?_⟩
  ·intro i x d H' hx hd sm P1 P0 k1 k0
   obtain⟨ad,p,e1,rfl,hp⟩:=oY (Das.same (s1.trans sm) hq) hx
   rw[hd]at e1;cases e1
   refine⟨ad,_,rfl,hp,rfl,_,_,rfl,_,_,rfl,rfl,_,rfl,_,rfl,_,_,rfl,rfl,_,rfl,gT (λh=>⟨_,rfl,k1 h⟩) (λh=>k0 (by simpa using h))⟩
  have e2:((l.2.filter λp=>decide (p.2=e)).map λp=>V.int p.1)=(below l.2 e).map V.int:=by unfold below;rw[bz];rfl
  rw[e2]
  have g1:(upd (upd H l1 (.lst (above l.2 e |>.map V.int))) l2 (.lst (below l.2 e |>.map V.int))) l1=some (.lst (above l.2 e |>.map V.int)):=by
   rw[fG (fK fC n2),fC]
  have hb:=qc ok e
  have s2:fI H (upd (upd H l1 (.lst (above l.2 e |>.map V.int))) l2 (.lst (below l.2 e |>.map V.int))):=s1.trans (fB n2)
  refine⟨_,rfl,_,rfl,l2,l1,_,_,rfl,rfl,fC,g1,cf (gX (by rw[aa,aa];omega)),λp hp=>?_⟩
  refine⟨p,below l.2 e++above l.2 e,rfl,SqL.of (by rw[fC,aB]),(by rw[ak];omega),λp2 hp2=>?_⟩
  refine k p2 _ (s2.trans ((fB hp).trans (fB hp2))) (fI.free (s2.trans (fB hp)) hp2) fC
theorem qm (F:Fn K mg "_law_joined" jf ["_law_line_here","_law_end"] f fd)(B:Bl mg):fV P w K mg base CX0 1 f fd ["_law_line_here","_law_end"] (lZ K):=by
 refine F.F.ok vZ (λvs H Q E h=>?_) (λcdv A outer s H vs Q E hr h=>?_)
 ·obtain⟨v,l,e,rfl,_⟩:=h;rfl
 ·obtain⟨v,l,e,rfl,hv,ok,k⟩:=h
  obtain⟨a,b,rfl,ht,us,hl,hq⟩:=p9 hv
  have hlen:=rB hq
  have hz:us.length<sizeLine:=gX (by rw[hlen];have:=ok.len;omega)
  refine⟨_,(fH (fT (fQ sY rfl B.sorted boot_sorted (fA (fX oR (lP (gz (gq gD (pv 0) fF (λ_ _=>rfl))) rfl lK (.tup (.cons (.name (by decide)) (.cons (.name (by decide)) .nil))) (λ_ _ _ _=>(ie (n:=2) rfl (fN (fL (i:=0) lK.nd rfl (Or.inl rfl)) (fN (fL (i:=1) lK.nd rfl (Or.inl rfl)) gP)))) (λ_ _ _ _=>(kz (gB (nY (pv 0) (pv 2))))) (λ_ _ _ _=>(pv 1))) (lP (gz (gq gD (pv 0) fF (λ_ _=>rfl))) rfl lJ (.tup (.cons (.name (by decide)) (.cons (.name (by decide)) .nil))) (λ_ _ _ _=>(ie (n:=2) rfl (fN (fL (i:=0) lJ.nd rfl (Or.inl rfl)) (fN (fL (i:=1) lJ.nd rfl (Or.inl rfl)) gP)))) (λ_ _ _ _=>(kz (gB (nY (pv 1) (pv 2))))) (λ_ _ _ _=>(pv 0)))) fD)))),?_⟩
  refine⟨_,rfl,a,_,_,_,rfl,rfl,ht,rfl,b,rfl,⟨us,hl⟩,λl1 n1=>lh l.2 (λp=>decide (p.1=e)) (λp=>V.int p.2) n1 hl hlen hz ?_ ?_⟩
  ·intro i x d H' hx hd sm P1 P0 k1 k0
   obtain⟨ad,p,e1,rfl,hp⟩:=oY (Das.same sm hq) hx
   rw[hd]at e1;cases e1
   refine⟨ad,_,rfl,hp,rfl,_,_,rfl,_,_,rfl,rfl,_,rfl,_,rfl,_,_,rfl,rfl,_,rfl,gT (λh=>⟨_,rfl,k1 h⟩) (λh=>k0 (by simpa using h))⟩
  have s1:fI H (upd H l1 (.lst (above l.2 e |>.map V.int))):=fB n1
  have e1:((l.2.filter λp=>decide (p.1=e)).map λp=>V.int p.2)=(above l.2 e).map V.int:=by unfold above;rw[bz];rfl
  rw[e1]
  refine⟨_,rfl,a,_,_,_,rfl,rfl,gd s1 ht,rfl,b,rfl,⟨us,s1.seq hl⟩,λl2 n2=>lh l.2 (λp=>decide (p.2=e)) (λp=>V.int p.1) n2 (s1.seq hl) hlen hz ?_ ?_⟩
  ·intro i x d H' hx hd sm P1 P0 k1 k0
   obtain⟨ad,p,e1,rfl,hp⟩:=oY (Das.same (s1.trans sm) hq) hx
   rw[hd]at e1;cases e1
   refine⟨ad,_,rfl,hp,rfl,_,_,rfl,_,_,rfl,rfl,_,rfl,_,rfl,_,_,rfl,rfl,_,rfl,gT (λh=>⟨_,rfl,k1 h⟩) (λh=>k0 (by simpa using h))⟩
  have e2:((l.2.filter λp=>decide (p.2=e)).map λp=>V.int p.1)=(below l.2 e).map V.int:=by unfold below;rw[bz];rfl
  rw[e2]
  have g1:(upd (upd H l1 (.lst (above l.2 e |>.map V.int))) l2 (.lst (below l.2 e |>.map V.int))) l1=some (.lst (above l.2 e |>.map V.int)):=by
   rw[fG (fK fC n2),fC]
  have hb:=qc ok e
  have s2:fI H (upd (upd H l1 (.lst (above l.2 e |>.map V.int))) l2 (.lst (below l.2 e |>.map V.int))):=s1.trans (fB n2)
  refine⟨l1,l2,_,_,rfl,rfl,g1,fC,cf (gX (by rw[aa,aa];omega)),λp hp=>?_⟩
  refine⟨p,above l.2 e++below l.2 e,rfl,SqL.of (by rw[fC,aB]),(by rw[ak];omega),λp2 hp2=>?_⟩
  rw[Kr]
  exact k p2 _ (s2.trans ((fB hp).trans (fB hp2))) (fI.free (s2.trans (fB hp)) hp2) fC
theorem xU {f1:Addr}{fd1:FuncData}(F:Fn K mg "_law_round" lD ["_law_train_here"] f fd)(fS:Fn K mg "_law_other" jc ["_law_end"] f1 fd1):fV P w K mg base CX0 2 f fd ["_law_train_here"] (yO K):=by
 have iP:fV P w K mg base CX0 1 f1 fd1 ["_law_end"] kj:=kA fS
 refine F.F.ok xJ (λvs H Q E h=>?_) (λcdv A outer s H vs Q E hr h=>?_)
 ·obtain⟨v,l,rfl,_⟩:=h;rfl
 ·obtain⟨v,ns,rfl,hv,hz,k⟩:=h
  obtain⟨a,rfl,hS⟩:=ij.mp hv
  refine⟨_,(fH (fT (lP (gz (Eo (pv 0) (wQ rR fF))) rfl o6 (.name (by decide)) (λ_ _ _ _=>(fL (i:=0) o6.nd rfl (Or.inl rfl))) (λ_ _ _ _=>iq) (λ_ _ _ _=>(fM iP (hr.mono (by decide)) rfl fS.m fS.F.kp fS.b .nil gu (fA (pv 0) fD)))))),?_⟩
  refine⟨_,rfl,_,rfl,_,rfl,a,_,rfl,rfl,hS,λp hp=>⟨p,rfl,⟨_,SqL.of fC⟩,λl1 n1=>lh ns.reverse (λ_=>true) (λe=>V.int (oth e)) n1 (SqL.of fC) (by rw[cB,aa,cB]) (by rw[cB,aa];exact gX hz) ?_ ?_⟩⟩
  ·intro i x d H' hx hd sm P1 P0 k1 k0
   rw[<-fx,aj,hd]at hx
   cases hx
   refine jF ?_
   exact⟨_,rfl,d,rfl,k1 rfl⟩
  rw[kM]
  refine k l1 _ ((fB hp).trans (fB n1)) (fI.free (fB hp) n1) ?_
  rw[fC,bz];rfl
theorem xX {f1 f2:Addr}{fd1 fd2:FuncData}(F:Fn K mg "free_ends" kd ["line","train","end"] f fd)(B:Bl mg)(hZ:Fn K mg "piece_of" mr ["end"] f1 fd1)(jo:Fn K mg "joined" mw ["line","end"] f2 fd2):
  fV P w K mg base CX0 2 f fd ["line","train","end"] (Bq K):=by
 have oz:fV P w K mg base CX0 1 f1 fd1 ["end"] xD:=sV hZ
 have vV:fV P w K mg base CX0 1 f2 fd2 ["line","end"] (lZ K):=wW jo B
 refine F.F.ok qS (λvs H Q E h=>?_) (λcdv A outer s H vs Q E hr h=>?_)
 ·obtain⟨v,u,l,ns,e,rfl,_⟩:=h;rfl
 ·obtain⟨v,u,l,ns,e,rfl,hv,hu,ok,hz,k⟩:=h
  obtain⟨a,rfl,hS⟩:=ij.mp hu
  refine⟨_,(fE (fR (i:=3) qS.nd rfl (Or.inr rfl) (lP (gz (pv 1)) rfl pj (.name (by decide)) (λ_ _ _ _=>(fL (i:=0) pj.nd rfl (Or.inl rfl))) (λ_ _ _ _=>iq) (λ_ _ _ _=>(fM oz (hr.mono (by decide)) rfl hZ.m hZ.F.kp hZ.b .nil gu (fA (pv 0) fD)))))
 (fH (fT (lP (gz (fM vV (hr.mono (by decide)) rfl jo.m jo.F.kp jo.b .nil gu (fA (pv 0) (fA (pv 2) fD)))) rfl ph (.name (by decide)) (λ_ _ _ _=>(fL (i:=0) ph.nd rfl (Or.inl rfl))) (λ_ _ _ _=>(kz (h9 (uL (K:=K) rfl hr.units) (fM oz (hr.mono (by decide)) rfl hZ.m hZ.F.kp hZ.b .nil gu (fA (pv 0) fD)) (pv 1) (by with_unfolding_all rfl)))) (λ_ _ _ _=>(pv 0)))))),?_⟩
  refine⟨_,rfl,a,rfl,⟨_,hS⟩,λl1 n1=>lh ns (λ_=>true) (λe=>V.int (e/2)) n1 hS (by rw[aa]) (by rw[aa];exact gX hz) ?_ ?_⟩
  ·intro i x d H' hx hd sm P1 P0 k1 k0
   rw[aj,hd]at hx
   cases hx
   refine jF ?_
   exact⟨_,rfl,d,rfl,k1 rfl⟩
  rw[kM]
  have e1:(ns.map λe=>V.int (e/2))=(ns.map (· / 2)).map V.int:=by rw[bz];rfl
  rw[e1]
  have s1:fI H (upd H l1 (.lst ((ns.map (· / 2)).map V.int))):=fB n1
  refine⟨_,rfl,_,rfl,v,l,e,rfl,Da.same s1 hv,ok,λp H2 s2 hp hp2=>⟨p,rfl,⟨_,SqL.of hp2⟩,λl2 n2=>lh (jn l.2 e) (λt=> !decide (t/2∈ns.map (· / 2))) (λt=>V.int t) n2 (SqL.of hp2) (by rw[aa]) ?_ ?_ ?_⟩⟩
  ·rw[aa]
   refine gX ?_
   unfold jn
   rw[nO,ak]
   have:=qc ok e
   omega
  ·intro i x d H' hx hd sm P1 P0 k1 k0
   rw[aj,hd]at hx
   cases hx
   have hD:Da K H' (.list ((ns.map (· / 2)).map .int)) (.ref l1):=Da.same (s2.trans sm) (iu fC)
   refine⟨_,rfl,d,rfl,_,rfl,_,.int (d/2),hD,iC.mpr rfl,uS _,rh _,_,rfl,?_⟩
   rw[Ag]
   exact gT (λh=>⟨_,rfl,k1 h⟩) (λh=>k0 (by simpa using h))
  exact k l2 _ ((s1.trans s2).trans (fB n2)) (fI.free (s1.trans s2) n2) fC
theorem zj {f1 f2:Addr}{fd1 fd2:FuncData}(F:Fn K mg "moves_of" kI ["line","train"] f fd)(gU:Fn K mg "other_end" lC ["end"] f1 fd1)(i4:Fn K mg "free_ends" kd ["line","train","end"] f2 fd2)
  (mW:fV P w K mg base CX0 2 f2 fd2 ["line","train","end"] (Bq K)):fV P w K mg base CX0 3 f fd ["line","train"] (lB K):=by
 have mV:fV P w K mg base CX0 1 f1 fd1 ["end"] kj:=rf gU
 refine F.F.ok mP (λvs H Q E h=>?_) (λcdv A outer s H vs Q E hr h=>?_)
 ·obtain⟨v,u,l,ns,rfl,_⟩:=h;rfl
 ·obtain⟨v,u,l,ns,rfl,hv,hu,ok,hne,hz,k⟩:=h
  obtain⟨a,rfl,hS⟩:=ij.mp hu
  refine⟨_,(fE (fR (i:=2) mP.nd rfl (Or.inl rfl) (iH fD))
 (fE (iL aV rfl (gz (fM mW (hr.mono (by decide)) rfl i4.m i4.F.kp i4.b .nil gu (fA (pv 0) (fA (pv 1) (fA (fM mV (hr.mono (by decide)) rfl gU.m gU.F.kp gU.b .nil gu (fA (gq hV (pv 1) (wQ rR fF) (λ_ _=>rfl)) fD)) fD))))) (fL (i:=3) mP.nd rfl (Or.inl rfl))
 (fH (g7 (kF aH bf bc ir (pv 2) (fA (gy (fA (gy (fA gK (fA (pv 3) fD))) (fA (fX oR (nC pK (pv 1) (nU fF) pR) (iH (fA (pv 3) fD))) fD))) fD)))))
 (fE (iL aV rfl (gz (fM mW (hr.mono (by decide)) rfl i4.m i4.F.kp i4.b .nil gu (fA (pv 0) (fA (pv 1) (fA (gq hV (pv 1) fF (λ_ _=>rfl)) fD))))) (fL (i:=3) mP.nd rfl (Or.inl rfl))
 (fH (g7 (kF aH bf bc ir (pv 2) (fA (gy (fA (gy (fA gK (fA (pv 3) fD))) (fA (fX oR (iH (fA (fM mV (hr.mono (by decide)) rfl gU.m gU.F.kp gU.b .nil gu (fA (pv 3) fD)) fD)) (nC pK (pv 1) pR (nU (wQ rR fF)))) fD))) fD)))))
 (fH (fT (pv 2)))))),?_⟩
  refine⟨aK _,λt ht=>?_⟩
  have s1:fI H (upd H t (.lst [])):=fB ht
  refine⟨_,rfl,_,rfl,_,rfl,_,rfl,a,_,_,_,rfl,rfl,s1.seq hS,yw hne,_,rfl,v,_,l,ns,_,rfl,Da.same s1 hv,Da.same s1 hu,ok,by omega,λp H2 s2 hp hp2=>?_⟩
  have nt:p≠t:=(fK fC hp).symm
  have OK:=vC ok ns (oth (ns.getLastD 0))
  have OL:=vC ok ns (ns.headD 0)
  refine⟨p,rfl,⟨_,SqL.of hp2⟩,iW (K:=K) (a:=p) (xs:=(fr l ns (oth (ns.getLastD 0))).map V.int) (λi σ H3=>∃ (vs:List V) (x:Option V),σ = [some v,some (.ref a),some (.ref t),x]/\fI H H3/\H3 p=some (.lst ((fr l ns (oth (ns.getLastD 0))).map V.int))/\H3 t=some (.lst vs)/\
    Dgs (Lf H H3 t) (SqT K H3) ((((fr l ns (oth (ns.getLastD 0))).take i).map (onM ns)).map dMv) vs)
   ⟨[],none,rfl,s1.trans s2,hp2,s2 _ _ fC,gS.mpr rfl⟩ (λi σ H3 _ ⟨_,_,_,_,h,_⟩=>SqL.of h) ?_ ?_⟩
  ·rintro i y σ H3 N R B kN _ hi ⟨vs,x,rfl,S3,hp3,ht3,D⟩
   rw[aj]at hi
   cases q:(fr l ns (oth (ns.getLastD 0)))[i]? with
   |none=>rw[q]at hi;cases hi
   |some e=>
    rw[q]at hi
    cases hi
    have hil:i<(fr l ns (oth (ns.getLastD 0))).length:=(af.mp q).1
    refine⟨_,rfl,.inl ⟨rfl,_,SqL.of ht3⟩,_,rfl,by show 2<=sizeLine;decide,λp1 n1=>?_⟩
    refine⟨_,rfl,_,rfl,a,_,rfl,(S3.trans (fB n1)).seq hS,λp2 n2=>?_⟩
    refine⟨_,rfl,by show 1<=sizeLine;decide,λp3 n3=>?_⟩
    rw[vM]at n3 ⊢
    refine⟨p2,p3,_,_,rfl,rfl,by rw[fG (fK fC n3),fC],fC,?_,λp4 n4=>?_⟩
    ·refine cf (gX ?_)
     rw[aa,bE]
     show ns.length-1+1<=1000
     omega
    refine⟨by show 2<=sizeLine;decide,λp5 n5=>?_⟩
    have S5:fI H3 _:=(fB n1).trans ((fB n2).trans ((fB n3).trans ((fB n4).trans (fB (o:=.tup [.ref p1,.ref p4]) n5))))
    have lv:vs.length<=60:=by rw[D.length,aa,aa,aT];omega
    refine⟨t,vs,_,rfl,rfl,S5 _ _ ht3,gX (by omega),?_⟩
    have g1:fI (upd H3 p1 (.tup [.str "on",.int e])) _:=(fB n2).trans ((fB n3).trans ((fB n4).trans (fB (o:=.tup [.ref p1,.ref p4]) n5)))
    have:=pQ (w:= "on") (e:=e) (xs:=ns.drop 1 ++ [e]) S3 ht ht3 D S5 (g1 _ _ fC) (fI.free ((fB n1).trans ((fB n2).trans (fB n3))) n4) (by rw[fG (fK fC n5),fC,aB];rfl) fC
    obtain⟨r1,r2,r3⟩:=this
    refine kN _ _ ⟨_,_,rfl,r1,?_,r2,?_⟩
    ·rw[fG nt];exact S5 _ _ hp3
    ·rw[qk (onM ns) _ i e q];exact r3
  rintro σ H3 ⟨vs,x,rfl,S3,hp3,ht3,D⟩
  rw[aa,br]at D
  refine⟨_,rfl,_,rfl,_,rfl,a,_,_,_,rfl,rfl,S3.seq hS,Af hne,v,_,l,ns,_,rfl,Da.same S3 hv,Da.same S3 hu,ok,by omega,λp' H4 s4 hp' hp4=>?_⟩
  have nt':p'≠t:=(fK ht3 hp').symm
  have D4:Dgs (Lf H H4 t) (SqT K H4) (((fr l ns (oth (ns.getLastD 0))).map (onM ns)).map dMv) vs:=Dgs.mono (λa us ⟨h1,h2,h3⟩=>⟨s4 _ _ h1,h2,h3⟩) (λa us h=>gd s4 h) D
  refine⟨p',rfl,⟨_,SqL.of hp4⟩,iW (K:=K) (a:=p') (xs:=(fr l ns (ns.headD 0)).map V.int) (λi σ H3=>∃ (vs:List V) (x:Option V),σ = [some v,some (.ref a),some (.ref t),x]/\fI H H3/\H3 p'=some (.lst ((fr l ns (ns.headD 0)).map V.int))/\H3 t=some (.lst vs)/\
    Dgs (Lf H H3 t) (SqT K H3) (((fr l ns (oth (ns.getLastD 0))).map (onM ns)++((fr l ns (ns.headD 0)).take i).map (vS ns)).map dMv) vs)
   ⟨vs,x,rfl,S3.trans s4,hp4,s4 _ _ ht3,by simpa using D4⟩ (λi σ H3 _ ⟨_,_,_,_,h,_⟩=>SqL.of h) ?_ ?_⟩
  ·rintro i y σ H3 N R B kN _ hi ⟨vs,x,rfl,S3,hp3,ht3,D⟩
   rw[aj]at hi
   cases q:(fr l ns (ns.headD 0))[i]? with
   |none=>rw[q]at hi;cases hi
   |some e=>
    rw[q]at hi
    cases hi
    have hil:i<(fr l ns (ns.headD 0)).length:=(af.mp q).1
    refine⟨_,rfl,.inl ⟨rfl,_,SqL.of ht3⟩,_,rfl,by show 2<=sizeLine;decide,λp1 n1=>?_⟩
    refine⟨_,rfl,e,rfl,by show 1<=sizeLine;decide,λp2 n2=>?_⟩
    refine⟨_,rfl,_,rfl,_,rfl,a,_,rfl,(S3.trans ((fB n1).trans (fB n2))).seq hS,λp3 n3=>?_⟩
    have ec:qg (ns.map V.int) none (some (-1))=ns.dropLast.map V.int:=zS ns
    refine⟨p2,p3,_,_,rfl,rfl,by rw[fG (fK fC n3),fC],fC,?_,λp4 n4=>?_⟩
    ·refine cf (gX ?_)
     show 1+(qg (ns.map V.int) none (some (-1))).length<=1000
     rw[ec,aa,eN]
     omega
    refine⟨by show 2<=sizeLine;decide,λp5 n5=>?_⟩
    have S5:fI H3 _:=(fB n1).trans ((fB n2).trans ((fB n3).trans ((fB n4).trans (fB (o:=.tup [.ref p1,.ref p4]) n5))))
    have lv:vs.length<=120:=by rw[D.length,aa,ak,aa,aa,aT];omega
    refine⟨t,vs,_,rfl,rfl,S5 _ _ ht3,gX (by omega),?_⟩
    have g1:fI (upd H3 p1 (.tup [.str "back",.int e])) _:=(fB n2).trans ((fB n3).trans ((fB n4).trans (fB (o:=.tup [.ref p1,.ref p4]) n5)))
    have:=pQ (w:= "back") (e:=e) (xs:=oth e::ns.dropLast) S3 ht ht3 D S5 (g1 _ _ fC) (fI.free ((fB n1).trans ((fB n2).trans (fB n3))) n4) (by
     rw[fG (fK fC n5),fC]
     show some (HO.lst ([V.int (oth e)]++qg (ns.map V.int) none (some (-1))))=_
     rw[ec];rfl) fC
    obtain⟨r1,r2,r3⟩:=this
    refine kN _ _ ⟨_,_,rfl,r1,?_,r2,?_⟩
    ·rw[fG nt'];exact S5 _ _ hp3
    ·rw[qk (vS ns) _ i e q,<-fm];exact r3
  rintro σ H3 ⟨vs,x,rfl,S3,hp3,ht3,D⟩
  rw[aa,br]at D
  exact⟨_,rfl,k t vs H3 S3 ht ht3 D⟩
theorem xV {f1 f2:Addr}{fd1 fd2:FuncData}(F:Fn K mg "_law_moves" jD ["_law_line_here","_law_train_here"] f fd)(fS:Fn K mg "_law_other" jc ["_law_end"] f1 fd1)(gM:Fn K mg "_law_joined" jf ["_law_line_here","_law_end"] f2 fd2)
  (B:Bl mg):fV P w K mg base CX0 2 f fd ["_law_line_here","_law_train_here"] (lB K):=by
 have iP:fV P w K mg base CX0 1 f1 fd1 ["_law_end"] kj:=kA fS
 have lY:fV P w K mg base CX0 1 f2 fd2 ["_law_line_here","_law_end"] (lZ K):=qm gM B
 refine F.F.ok kn (λvs H Q E h=>?_) (λcdv A outer s H vs Q E hr h=>?_)
 ·obtain⟨v,u,l,ns,rfl,_⟩:=h;rfl
 ·obtain⟨v,u,l,ns,rfl,hv,hu,ok,hne,hz,k⟩:=h
  obtain⟨a,rfl,hS⟩:=ij.mp hu
  refine⟨_,(fE (uE (i:=3) kn.nd rfl rfl (gz (pv 1)) rfl o8 (.name (by decide)) (λ_ _ _ _=>(fL (i:=0) o8.nd rfl (Or.inl rfl))) (λ_ _ _ _=>iq) (λ_ _ _ _=>(fX jz (pv 0) fF)))
 (fE (fR (i:=4) kn.nd rfl (Or.inl rfl) (iH fD))
 (fE (iL aV rfl (gz (fM lY (hr.mono (by decide)) rfl gM.m gM.F.kp gM.b .nil gu (fA (pv 0) (fA (fM iP (hr.mono (by decide)) rfl fS.m fS.F.kp fS.b .nil gu (fA (gq hV (pv 1) (wQ rR fF) (λ_ _=>rfl)) fD)) fD)))) (fL (i:=2) kn.nd rfl (Or.inl rfl))
 (fH (gN (h9 (kK hr.units) (fX jz (pv 2) fF) (pv 3) (by with_unfolding_all rfl))
 (fH (g7 (kF aH bf bc ir (pv 4) (fA (gy (fA (gy (fA gK (fA (pv 2) fD))) (fA (fX oR (nC pK (pv 1) (nU fF) pR) (iH (fA (pv 2) fD))) fD))) fD)))) fY)))
 (fE (iL aV rfl (gz (fM lY (hr.mono (by decide)) rfl gM.m gM.F.kp gM.b .nil gu (fA (pv 0) (fA (gq hV (pv 1) fF (λ_ _=>rfl)) fD)))) (fL (i:=2) kn.nd rfl (Or.inl rfl))
 (fH (gN (h9 (kK hr.units) (fX jz (pv 2) fF) (pv 3) (by with_unfolding_all rfl))
 (fH (g7 (kF aH bf bc ir (pv 4) (fA (gy (fA (gy (fA gK (fA (pv 2) fD))) (fA (fX oR (iH (fA (fM iP (hr.mono (by decide)) rfl fS.m fS.F.kp fS.b .nil gu (fA (pv 2) fD)) fD)) (nC pK (pv 1) pR (nU (wQ rR fF)))) fD))) fD)))) fY)))
 (fH (fT (pv 4))))))),?_⟩
  refine⟨_,rfl,a,rfl,⟨_,hS⟩,λpc n0=>lh ns (λ_=>true) (λe=>V.int (e/2)) n0 hS (by rw[aa]) (by rw[aa];exact gX (by omega)) ?_ ?_⟩
  ·intro i x d H' hx hd sm P1 P0 k1 k0
   rw[aj,hd]at hx
   cases hx
   refine jF ?_
   exact⟨_,rfl,_,_,rfl,rfl,⟨by decide,by decide⟩,k1 rfl⟩
  rw[kM]
  have e1:(ns.map λe=>V.int (e/2))=(ns.map (· / 2)).map V.int:=by rw[bz];rfl
  rw[e1]
  have s0:fI H (upd H pc (.lst ((ns.map (· / 2)).map V.int))):=fB n0
  have hpc:(upd H pc (.lst ((ns.map (· / 2)).map V.int))) pc=some (.lst ((ns.map (· / 2)).map V.int)):=fC
  generalize hH0:upd H pc (.lst ((ns.map (· / 2)).map V.int))=H0 at s0 hpc
  refine⟨aK _,λt ht=>?_⟩
  have s1:fI H0 (upd H0 t (.lst [])):=fB ht
  have S1:fI H (upd H0 t (.lst [])):=s0.trans s1
  refine⟨_,rfl,_,rfl,_,rfl,a,_,_,_,rfl,rfl,S1.seq hS,yw hne,_,rfl,v,l,_,rfl,Da.same S1 hv,ok,λp H2 s2 hp hp2=>?_⟩
  have nt:p≠t:=(fK fC hp).symm
  have OK:=AL ok (oth (ns.getLastD 0))
  have OL:=AL ok (ns.headD 0)
  refine⟨p,rfl,⟨_,SqL.of hp2⟩,iW (K:=K) (a:=p) (xs:=(jn l.2 (oth (ns.getLastD 0))).map V.int) (λi σ H3=>∃ (vs:List V) (x:Option V),σ = [some v,some (.ref a),x,some (.ref pc),some (.ref t)]/\fI H0 H3/\H3 p=some (.lst ((jn l.2 (oth (ns.getLastD 0))).map V.int))/\H3 t=some (.lst vs)/\
    Dgs (Lf H0 H3 t) (SqT K H3) (((((jn l.2 (oth (ns.getLastD 0))).take i).filter λt=> !decide (t/2∈ns.map (· / 2))).map (onM ns)).map dMv) vs)
   ⟨[],none,rfl,s1.trans s2,hp2,s2 _ _ fC,gS.mpr rfl⟩ (λi σ H3 _ ⟨_,_,_,_,h,_⟩=>SqL.of h) ?_ ?_⟩
  ·rintro i y σ H3 N R B kN _ hi ⟨vs,x,rfl,S3,hp3,ht3,D⟩
   rw[aj]at hi
   cases q:(jn l.2 (oth (ns.getLastD 0)))[i]? with
   |none=>rw[q]at hi;cases hi
   |some e=>
    rw[q]at hi
    cases hi
    have hil:i<(jn l.2 (oth (ns.getLastD 0))).length:=(af.mp q).1
    have st:=take_succ_filter (λt=> !decide (t/2∈ns.map (· / 2))) _ i e q
    refine⟨_,rfl,_,_,rfl,rfl,⟨by decide,by decide⟩,_,rfl,_,.int (e/2),iu (S3 _ _ hpc),iC.mpr rfl,uS _,rh _,_,rfl,?_⟩
    rw[Ag]
    refine gT (c:=(!decide (e/2∈ns.map (· / 2)))=true) (λhc=>?_) (λhc=>?_)
    ·refine⟨_,rfl,.inl ⟨rfl,_,SqL.of ht3⟩,_,rfl,by show 2<=sizeLine;decide,λp1 n1=>?_⟩
     refine⟨_,rfl,_,rfl,a,_,rfl,((s0.trans S3).trans (fB n1)).seq hS,λp2 n2=>?_⟩
     refine⟨_,rfl,by show 1<=sizeLine;decide,λp3 n3=>?_⟩
     rw[vM]at n3 ⊢
     refine⟨p2,p3,_,_,rfl,rfl,by rw[fG (fK fC n3),fC],fC,?_,λp4 n4=>?_⟩
     ·refine cf (gX ?_)
      rw[aa,bE]
      show ns.length-1+1<=1000
      omega
     refine⟨by show 2<=sizeLine;decide,λp5 n5=>?_⟩
     have S5:fI H3 _:=(fB n1).trans ((fB n2).trans ((fB n3).trans ((fB n4).trans (fB (o:=.tup [.ref p1,.ref p4]) n5))))
     have lv:vs.length<=60:=by
      rw[D.length,aa,aa]
      refine bF (bS _ _) ?_
      rw[aT];omega
     refine⟨t,vs,_,rfl,rfl,S5 _ _ ht3,gX (by omega),?_⟩
     have g1:fI (upd H3 p1 (.tup [.str "on",.int e])) _:=(fB n2).trans ((fB n3).trans ((fB n4).trans (fB (o:=.tup [.ref p1,.ref p4]) n5)))
     obtain⟨r1,r2,r3⟩:=pQ (w:= "on") (e:=e) (xs:=ns.drop 1 ++ [e]) S3 ht ht3 D S5 (g1 _ _ fC) (fI.free ((fB n1).trans ((fB n2).trans (fB n3))) n4) (by rw[fG (fK fC n5),fC,aB];rfl) fC
     refine kN _ _ ⟨_,_,rfl,r1,?_,r2,?_⟩
     ·rw[fG nt];exact S5 _ _ hp3
     ·rw[st,aJ hc,aB];exact r3
    ·refine kN _ _ ⟨vs,_,rfl,S3,hp3,ht3,?_⟩
     rw[st,aE hc,dN];exact D
  rintro σ H3 ⟨vs,x,rfl,S3,hp3,ht3,D⟩
  rw[aa,br]at D
  refine⟨_,rfl,_,rfl,a,_,_,_,rfl,rfl,(s0.trans S3).seq hS,Af hne,v,l,_,rfl,Da.same (s0.trans S3) hv,ok,λp' H4 s4 hp' hp4=>?_⟩
  have nt':p'≠t:=(fK ht3 hp').symm
  have D4:Dgs (Lf H0 H4 t) (SqT K H4) (((fr l ns (oth (ns.getLastD 0))).map (onM ns)).map dMv) vs:=Dgs.mono (λa us ⟨h1,h2,h3⟩=>⟨s4 _ _ h1,h2,h3⟩) (λa us h=>gd s4 h) D
  have SH:=vC ok ns (oth (ns.getLastD 0))
  refine⟨p',rfl,⟨_,SqL.of hp4⟩,iW (K:=K) (a:=p') (xs:=(jn l.2 (ns.headD 0)).map V.int) (λi σ H3=>∃ (vs:List V) (x:Option V),σ = [some v,some (.ref a),x,some (.ref pc),some (.ref t)]/\fI H0 H3/\H3 p'=some (.lst ((jn l.2 (ns.headD 0)).map V.int))/\H3 t=some (.lst vs)/\
    Dgs (Lf H0 H3 t) (SqT K H3) (((fr l ns (oth (ns.getLastD 0))).map (onM ns)++(((jn l.2 (ns.headD 0)).take i).filter λt=> !decide (t/2∈ns.map (· / 2))).map (vS ns)).map dMv) vs)
   ⟨vs,x,rfl,S3.trans s4,hp4,s4 _ _ ht3,by simpa using D4⟩ (λi σ H3 _ ⟨_,_,_,_,h,_⟩=>SqL.of h) ?_ ?_⟩
  ·rintro i y σ H3 N R B kN _ hi ⟨vs,x,rfl,S3,hp3,ht3,D⟩
   rw[aj]at hi
   cases q:(jn l.2 (ns.headD 0))[i]? with
   |none=>rw[q]at hi;cases hi
   |some e=>
    rw[q]at hi
    cases hi
    have hil:i<(jn l.2 (ns.headD 0)).length:=(af.mp q).1
    have st:=take_succ_filter (λt=> !decide (t/2∈ns.map (· / 2))) _ i e q
    refine⟨_,rfl,_,_,rfl,rfl,⟨by decide,by decide⟩,_,rfl,_,.int (e/2),iu (S3 _ _ hpc),iC.mpr rfl,uS _,rh _,_,rfl,?_⟩
    rw[Ag]
    refine gT (c:=(!decide (e/2∈ns.map (· / 2)))=true) (λhc=>?_) (λhc=>?_)
    ·refine⟨_,rfl,.inl ⟨rfl,_,SqL.of ht3⟩,_,rfl,by show 2<=sizeLine;decide,λp1 n1=>?_⟩
     refine⟨_,rfl,e,rfl,by show 1<=sizeLine;decide,λp2 n2=>?_⟩
     refine⟨_,rfl,_,rfl,_,rfl,a,_,rfl,((s0.trans S3).trans ((fB n1).trans (fB n2))).seq hS,λp3 n3=>?_⟩
     have ec:qg (ns.map V.int) none (some (-1))=ns.dropLast.map V.int:=zS ns
     refine⟨p2,p3,_,_,rfl,rfl,by rw[fG (fK fC n3),fC],fC,?_,λp4 n4=>?_⟩
     ·refine cf (gX ?_)
      show 1+(qg (ns.map V.int) none (some (-1))).length<=1000
      rw[ec,aa,eN]
      omega
     refine⟨by show 2<=sizeLine;decide,λp5 n5=>?_⟩
     have S5:fI H3 _:=(fB n1).trans ((fB n2).trans ((fB n3).trans ((fB n4).trans (fB (o:=.tup [.ref p1,.ref p4]) n5))))
     have lv:vs.length<=120:=by
      rw[D.length,aa,ak,aa,aa]
      have:=bS (λt=> !decide (t/2∈ns.map (· / 2))) ((jn l.2 (ns.headD 0)).take i)
      rw[aT]at this
      omega
     refine⟨t,vs,_,rfl,rfl,S5 _ _ ht3,gX (by omega),?_⟩
     have g1:fI (upd H3 p1 (.tup [.str "back",.int e])) _:=(fB n2).trans ((fB n3).trans ((fB n4).trans (fB (o:=.tup [.ref p1,.ref p4]) n5)))
     obtain⟨r1,r2,r3⟩:=pQ (w:= "back") (e:=e) (xs:=oth e::ns.dropLast) S3 ht ht3 D S5 (g1 _ _ fC) (fI.free ((fB n1).trans ((fB n2).trans (fB n3))) n4) (by
      rw[fG (fK fC n5),fC]
      show some (HO.lst ([V.int (oth e)]++qg (ns.map V.int) none (some (-1))))=_
      rw[ec];rfl) fC
     refine kN _ _ ⟨_,_,rfl,r1,?_,r2,?_⟩
     ·rw[fG nt'];exact S5 _ _ hp3
     ·rw[st,aJ hc,aB (f:=vS ns),<-fm];exact r3
    ·refine kN _ _ ⟨vs,_,rfl,S3,hp3,ht3,?_⟩
     rw[st,aE hc,dN];exact D
  rintro σ H3 ⟨vs,x,rfl,S3,hp3,ht3,D⟩
  rw[aa,br]at D
  exact⟨_,rfl,k t vs H3 (s0.trans S3) (fI.free s0 ht) ht3 (Dgs.mono (λa us ⟨h1,h2,h3⟩=>⟨h1,fI.free s0 h2,h3⟩) (λ_ _ h=>h) D)⟩
end
theorem nP {n:Nat}(h:n<=1000):n<sizeLine:=bY h (by decide)
def D7 (K:PySem.W.Frag):Sp:=λvs H Q _=>∃ n m:Int,vs = [.int n,.int m]/\0<=m/\m<=40/\∀ (p:Addr) (ns:List Int) (H':Hp),fI H H'->H p=none->H' p=some (.lst (ns.map V.int))->(ns.length:Int)=m->(∀ x∈ns,0<=x/\x<m)->ns.Nodup->Q (.ref p) H'
def uc (K:PySem.W.Frag):Sp:=λvs H Q _=>∃ (v:V) (l:Ln) (c:Int),vs = [v,.int c]/\Da K H (dL l) v/\rN l/\∀ (v':V) (js':List (Int×Int)) (nm es:List Int) (H':Hp),fI H H'->Da K H' (dL (l.1,js')) v'->Ren l.1 nm es->js'.Perm (l.2.map (rj es))->Q v' H'
abbrev jL:Stmt:=top 41
theorem jy:gj ["_law_number","_law_many","_law_told_here","_law_k"] ["_law_number","_law_many"] (fJ jL):=⟨rfl,rfl,rfl,by decide +kernel,rfl,by decide +kernel,by decide +kernel⟩
abbrev kY:Stmt:=top 45
theorem gJ:gj ["_law_line_here","_law_cell","_law_many","_law_joints","_law_names","_law_ends","_law_piece","_law_flip","_law_made","_law_k","_law_a","_law_b","_law_joint"] ["_law_line_here","_law_cell"] (fJ kY):=⟨rfl,rfl,rfl,by decide +kernel,rfl,by decide +kernel,by decide +kernel⟩
section
variable {P:Program}{w:World}{K:PySem.W.Frag}{mg:Str->Option Value}{base:Heap}{f:Addr}{fd:FuncData}
theorem rg (F:Fn K mg "_law_turned_row" jL ["_law_number","_law_many"] f fd)(B:Bl mg):fV P w K mg base CX0 1 f fd ["_law_number","_law_many"] (D7 K):=by
 refine F.F.ok jy (λvs H Q E h=>?_) (λcdv A outer s H vs Q E hr h=>?_)
 ·obtain⟨n,m,rfl,_⟩:=h;rfl
 ·obtain⟨n,m,rfl,h0,h1,k⟩:=h
  refine⟨_,(fE (fR (i:=2) jy.nd rfl (Or.inl rfl) (iH fD))
 (fE (iL aV rfl (pS rfl B.range (fA (pv 1) fD)) (fL (i:=3) jy.nd rfl (Or.inl rfl))
 (fE (g7 (kF aH fo PySem.F.type_list_insert wX (pv 2) (fA (fX iB (pv 0) (fX i9 (pv 3) fF)) (fA (pv 3) fD))))
 (fH (fR (i:=0) jy.nd rfl (Or.inl rfl) (fX jz (pv 0) (fX i9 (pv 3) fF))))))
 (fH (fT (pv 2))))),?_⟩
  refine⟨aK _,λt ht=>?_⟩
  refine⟨_,rfl,m,rfl,by omega,by omega,p7 (λi σ H3=>∃ (n:Int) (ns:List Int) (x:Option V),σ = [some (.int n),some (.int m),some (.ref t),x]/\H3=upd H t (.lst (ns.map V.int))/\ns.length=i/\(∀ x∈ns,0<=x/\x<(i:Int))/\ns.Nodup)
   ⟨n,[],none,rfl,rfl,rfl,λx hx=>(nomatch hx),cH⟩ ?_ ?_⟩
  ·rintro i σ H3 hi ⟨n,ns,x,rfl,rfl,hlen,hb,hnd⟩
   have i0:(0:Int)+(i:Nat)=(i:Int):=by omega
   rw[i0]
   have r0:0<=n%((i:Int)+1):=cL _ (by omega)
   have r1:n%((i:Int)+1)<(i:Int)+1:=cw _ (by omega)
   refine⟨_,rfl,.inl ⟨rfl,_,SqL.of fC⟩,_,rfl,_,rfl,_,_,rfl,rfl,_,_,rfl,rfl,(by show(0:Int)<(i:Int)+1;omega),_,rfl,t,_,_,_,rfl,rfl,fC,r0,?_,?_,?_⟩
   ·show n%((i:Int)+1)<=((ns.map V.int).length:Int)
    rw[aa,hlen];omega
   ·rw[aa,hlen];exact nP (by omega)
   refine⟨_,rfl,_,rfl,_,_,rfl,rfl,_,_,rfl,rfl,⟨by show(0:Int)<(i:Int)+1;omega,by show(i:Int)+1<1073741824;omega⟩,?_⟩
   have pm:=zc ns (n%((i:Int)+1)).toNat (i:Int)
   refine⟨_,ns.take (n%((i:Int)+1)).toNat++(i:Int)::ns.drop (n%((i:Int)+1)).toNat,_,rfl,?_,?_,?_,?_⟩
   ·rw[qM,aB,bg,List.map_take,eJ]
   ·rw[pm.length_eq,aR,hlen]
   ·intro x hx
    rcases aG.mp (pm.mem_iff.mp hx)with z |z
    ·omega
    ·have:=hb x z;omega
   ·refine pm.nodup_iff.mpr (bB.mpr ⟨λz=>?_,hnd⟩)
    have:=(hb _ z).2
    omega
  ·rintro σ H3 ⟨n,ns,x,rfl,rfl,hlen,hb,hnd⟩
   exact⟨_,rfl,k t ns _ (fB ht) ht fC (by omega) (λx hx=>by have:=hb x hx;omega) hnd⟩
end
section
variable {P:Program}{w:World}{K:PySem.W.Frag}{mg:Str->Option Value}{base:Heap}{f:Addr}{fd:FuncData}
theorem uN {f1 f2:Addr}{fd1 fd2:FuncData}(F:Fn K mg "_law_renamed" kY ["_law_line_here","_law_cell"] f fd)(fP:Fn K mg "_law_mix" kJ ["_law_cell","_law_k"] f1 fd1)(iS:Fn K mg "_law_turned_row" jL ["_law_number","_law_many"] f2 fd2)
  (B:Bl mg):fV P w K mg base CX0 2 f fd ["_law_line_here","_law_cell"] (uc K):=by
 have il:fV P w K mg base CX0 1 f1 fd1 ["_law_cell","_law_k"] ud:=n8 fP B
 have sJ:fV P w K mg base CX0 1 f2 fd2 ["_law_number","_law_many"] (D7 K):=rg iS B
 refine F.F.ok gJ (λvs H Q E h=>?_) (λcdv A outer s H vs Q E hr h=>?_)
 ·obtain⟨v,l,c,rfl,_⟩:=h;rfl
 ·obtain⟨v,⟨m,js⟩,c,rfl,hv,G,k⟩:=h
  have h1:1<=m:=G.one
  have h14:m<=14:=G.most
  have h40:m<=40:=by omega
  have hjl:js.length<=24:=G.len
  obtain⟨a,b,rfl,ht,us,hl,hq⟩:=p9 hv
  dsimp only at ht hq k
  refine⟨_,(fE (rY (pv 0) (ie (n:=2) rfl (fN (fL (i:=2) gJ.nd rfl (Or.inl rfl)) (fN (fL (i:=3) gJ.nd rfl (Or.inl rfl)) gP))))
 (fE (fR (i:=4) gJ.nd rfl (Or.inl rfl) (fM sJ (hr.mono (by decide)) rfl iS.m iS.F.kp iS.b .nil gu (fA (fM il (hr.mono (by decide)) rfl fP.m fP.F.kp fP.b .nil gu (fA (pv 1) (fA fF fD))) (fA (pv 2) fD))))
 (fE (fR (i:=5) gJ.nd rfl (Or.inl rfl) (iH fD))
 (fE (iL aV rfl (pS rfl B.range (fA (pv 2) fD)) (fL (i:=6) gJ.nd rfl (Or.inl rfl))
 (fE (fR (i:=7) gJ.nd rfl (Or.inl rfl) (fX iB (fM il (hr.mono (by decide)) rfl fP.m fP.F.kp fP.b .nil gu (fA (pv 1) (fA (fX i9 fF (pv 6)) fD))) fF))
 (fH (fR (i:=5) gJ.nd rfl (Or.inl rfl) (fX oR (pv 5) (iH (fA (fX i9 (fX kL fF (gq hV (pv 4) (pv 6) (λ_ _=>rfl))) (pv 7)) (fA (fX uK (fX i9 (fX kL fF (gq hV (pv 4) (pv 6) (λ_ _=>rfl))) fF) (pv 7)) fD))))))))
 (fE (fR (i:=8) gJ.nd rfl (Or.inl rfl) (iH fD))
 (fE (iL aV rfl (Gm rfl B.enumerate (fA (pv 3) fD)) (ie (n:=2) rfl (fN (fL (i:=9) gJ.nd rfl (Or.inl rfl)) (fN (ie (n:=2) rfl (fN (fL (i:=10) gJ.nd rfl (Or.inl rfl)) (fN (fL (i:=11) gJ.nd rfl (Or.inl rfl)) gP))) gP)))
 (fE (fR (i:=12) gJ.nd rfl (Or.inl rfl) (gy (fA (fQ (sA rfl) rfl B.min boot_min (fA (gq hV (pv 5) (pv 10) (λ_ _=>rfl)) (fA (gq hV (pv 5) (pv 11) (λ_ _=>rfl)) fD))) (fA (fQ (sC rfl) rfl B.max boot_max (fA (gq hV (pv 5) (pv 10) (λ_ _=>rfl)) (fA (gq hV (pv 5) (pv 11) (λ_ _=>rfl)) fD))) fD))))
 (fH (g7 (kF aH fo PySem.F.type_list_insert wX (pv 8) (fA (fX iB (fM il (hr.mono (by decide)) rfl fP.m fP.F.kp fP.b .nil gu (fA (pv 1) (fA (fX i9 fF (pv 9)) fD))) (fX i9 (pv 9) fF)) (fA (pv 12) fD)))))))
 (fH (fT (gy (fA (pv 2) (fA (pv 8) fD))))))))))),nm3 λR1 hR1=>?_⟩
  refine⟨_,rfl,a,_,rfl,ht,rfl,_,_,rfl,_,_,rfl,rfl,?_⟩
  refine⟨_,rfl,c,0,rfl,by decide,by decide,λn n0 n1=>⟨_,rfl,n,m,rfl,by omega,h40,λpn nm H1 s1 hn1 hn2 OH nb nnd=>?_⟩⟩
  refine⟨aK _,λq0 nq0=>?_⟩
  refine hR1 _ _ _ (nm2 λR2 hR2=>?_)
  refine⟨_,rfl,m,rfl,by omega,by omega,vD (λi σ H3=>∃ (q:Addr) (es:List Int) (x6 x7:Option V),σ = [some (.ref a),some (.int c),some (.int m),some (.ref b),some (.ref pn),some (.ref q),x6,x7,none,none,none,none,none]/\fI H1 H3/\H3 q=some (.lst (es.map V.int))/\es.length=2*i/\(∀ j,j<i->∃ f:Int,(f=0\/f=1)/\es[2*j]? = some (2*nm.getD j 0+f)/\es[2*j+1]? = some (2*nm.getD j 0+1-f)))
   ⟨q0,[],none,none,rfl,fB nq0,fC,rfl,λj hj=>absurd hj (Nat.not_lt_zero j)⟩ ?_ ?_⟩
  ·rintro i σ H3 N R B kN _ hi ⟨q,es,x6,x7,rfl,S3,hq3,Dw,eb⟩
   have i0:(0:Int)+(i:Nat)=(i:Int):=by omega
   rw[i0]
   obtain⟨nx,hnx,sq,hat⟩:=yx (ns:=nm) (i:=(i:Int)) (by omega) (by omega)
   have nbx:=nb nx sq
   have hSn:SqL K H3 pn (nm.map V.int):=SqL.of (S3 _ _ hn2)
   refine⟨_,rfl,_,rfl,_,_,rfl,rfl,c,_,rfl,by show(0:Int)<=20+i;omega,by show 20+(i:Int)<=1000;omega,λn n0 n1=>⟨_,_,rfl,rfl,(by show(0:Int)<_;decide),?_⟩⟩
   refine⟨_,rfl,_,rfl,_,rfl,pn,_,_,_,rfl,rfl,hSn,hat,_,_,rfl,rfl,.inl ⟨by decide,by decide⟩,_,rfl,_,_,rfl,rfl,_,rfl,_,rfl,pn,_,_,_,rfl,rfl,hSn,hat,_,_,rfl,rfl,.inl ⟨by decide,by decide⟩,_,_,rfl,rfl,_,rfl,_,_,rfl,rfl,by show 2<=sizeLine;decide,λq1 nq1=>?_⟩
   refine⟨q,q1,_,_,rfl,rfl,by rw[fG (fK hq3 nq1)];exact hq3,fC,?_,λq2 nq2=>?_⟩
   ·refine cf (nP ?_)
    rw[aa,Dw]
    show 2*i+2<=1000
    omega
   refine kN _ _ ⟨q2,es ++ [2*nx+n%2,2*nx+1-n%2],_,_,rfl,S3.trans ((fB nq1).trans (fB nq2)),?_,?_,?_⟩
   ·rw[fC,aB];rfl
   ·rw[ak,Dw];show 2*i+2=_;omega
   ·intro j hj
    have KI:nm.getD i 0=nx:=by rw[aN,show i=((i:Int)).toNat by omega,hnx];rfl
    rcases fq.mp hj with z |z
    ·obtain⟨f,hf,e1,e2⟩:=eb j z
     exact⟨f,hf,by rw[aq (by omega)];exact e1,by rw[aq (by omega)];exact e2⟩
    ·subst z
     refine⟨n%2,by omega,?_,?_⟩
     ·rw[az (by omega),Dw,bu,KI];rfl
     ·rw[az (by omega),Dw,show 2*j+1-2*j=1 by omega,KI];rfl
  rintro σ H3 ⟨q,es,x6,x7,rfl,S3,hq3,Dw,eb⟩
  have R:Ren m nm es:=⟨OH,nb,nnd,by omega,λj hj=>eb j (by omega)⟩
  refine⟨aK _,λt nt=>?_⟩
  have hl3:SqL K H3 b us:=(s1.trans S3).seq hl
  have hq4:Das K H3 (js.map dP) us:=Das.same (s1.trans S3) hq
  have hul:us.length=js.length:=by rw[Dgs.length hq,aa]
  refine hR2 _ _ _ ?_
  refine⟨_,rfl,b,rfl,⟨us,(fB nt).seq hl3⟩,Dt (K:=K) (a:=b) (xs:=us) (λi σ H4=>∃ (vs:List V) (js':List (Int×Int)) (x9 x10 x11 x12:Option V),σ = [some (.ref a),some (.int c),some (.int m),some (.ref b),some (.ref pn),some (.ref q),x6,x7,some (.ref t),x9,x10,x11,x12]/\fI H3 H4/\H4 t=some (.lst vs)/\Ps K H4 js' vs/\js'.length=i/\js'.Perm ((js.take i).map (rj es)))
   ⟨[],[],none,none,none,none,rfl,fB nt,fC,gS.mpr rfl,rfl,.refl _⟩ (λi σ H4 _ ⟨_,_,_,_,_,_,_,S4,_⟩=>S4.seq hl3) ?_ ?_⟩
  ·rintro i x σ H4 p0 N R B kN _ hi ⟨vs,js',x9,x10,x11,x12,rfl,S4,ht4,D,II,jb⟩ n0
   have hil:i<us.length:=(af.mp hi).1
   have S5:fI H3 (upd H4 p0 (.tup [.int i,x])):=S4.trans (fB n0)
   obtain⟨ad,⟨ea,eb'⟩,e1,rfl,hpr⟩:=oY (Das.same S5 hq4) hi
   dsimp only at hpr
   have hbd:=G.ok (ea,eb') (av e1)
   unfold okJ at hbd
   dsimp only at hbd
   obtain⟨xa,ga,ma,K8⟩:=yx (ns:=es) (i:=ea) hbd.1.1 (by omega)
   obtain⟨xb,gb,mb,K7⟩:=yx (ns:=es) (i:=eb') hbd.2.1.1 (by omega)
   have hrj:rj es (ea,eb')=(min xa xb,max xa xb):=by
    unfold rj rho
    dsimp only
    rw[aN,aN,ga,gb];rfl
   refine⟨p0,_,rfl,SqT.of fC,rfl,_,_,rfl,_,_,rfl,ad,_,rfl,hpr,rfl,_,_,rfl,_,_,rfl,rfl,rfl,?_⟩
   have hSe:SqL K (upd H4 p0 (.tup [.int i,.ref ad])) q (es.map V.int):=SqL.of (S5 _ _ hq3)
   refine⟨_,rfl,_,rfl,q,_,_,_,rfl,rfl,hSe,K8,_,rfl,_,rfl,q,_,_,_,rfl,rfl,hSe,K7,_,_,rfl,?_⟩
   refine⟨_,rfl,_,rfl,q,_,_,_,rfl,rfl,hSe,K8,_,rfl,_,rfl,q,_,_,_,rfl,rfl,hSe,K7,_,_,rfl,by show 2<=sizeLine;decide,λp1 n1=>?_⟩
   rw[AH,AI]
   have ht5:(upd (upd H4 p0 (.tup [.int i,.ref ad])) p1 (.tup [.int (min xa xb),.int (max xa xb)])) t=some (.lst vs):=((fB n0).trans (fB n1)) _ _ ht4
   have vl:vs.length=i:=by rw[D.len,II]
   refine⟨_,rfl,.inl ⟨rfl,_,SqL.of ht5⟩,_,rfl,_,rfl,_,_,rfl,rfl,c,_,rfl,by show(0:Int)<=40+i;omega,by show 40+(i:Int)<=1000;omega,λn n0' n1'=>⟨_,rfl,_,_,rfl,rfl,_,_,rfl,rfl,(by show(0:Int)<(i:Int)+1;omega),_,rfl,t,vs,_,_,rfl,rfl,ht5,?_,?_,nP (by omega),?_⟩⟩
   ·exact cL _ (by omega)
   ·have:=cw n (show(0:Int)<(i:Int)+1 by omega)
    show n%((i:Int)+1)<=(vs.length:Int)
    omega
   have pm:=zc js' (n%((i:Int)+1)).toNat (min xa xb,max xa xb)
   refine kN _ _ ⟨_,js'.take (n%((i:Int)+1)).toNat++(min xa xb,max xa xb)::js'.drop (n%((i:Int)+1)).toNat,_,_,_,_,rfl,fI.upd (S4.trans ((fB n0).trans (fB n1))) nt,fC,?_,?_,?_⟩
   ·exact Ps.ins (x:=(min xa xb,max xa xb)) _ (D.same ((fB n0).trans (fB n1))) ht5 fC
   ·rw[pm.length_eq,aR,II]
   ·rw[bh,e1,aB]
    refine pm.trans ?_
    show((min xa xb,max xa xb)::js').Perm ((js.take i).map (rj es) ++ [rj es (ea,eb')])
    rw[hrj]
    exact(jb.cons _).trans (List.perm_append_singleton _ _).symm
  rintro σ H4 ⟨vs,js',x9,x10,x11,x12,rfl,S4,ht4,D,II,jb⟩
  refine⟨_,rfl,_,rfl,by show 2<=sizeLine;decide,λp np=>?_⟩
  have S5:=(fB (o:=.tup [.int m,.ref t]) np)
  rw[hul,br]at jb
  exact k _ js' nm es _ (s1.trans (S3.trans (S4.trans S5))) (xj fC ((D.same S5).da (S5 _ _ ht4))) R jb
end
def Bh (K:PySem.W.Frag):Sp:=λvs H Q _=>∃ (a:Addr) (ns:List Int),vs = [.ref a]/\SqL K H a (ns.map V.int)/\Ss K H Q
abbrev nR:Stmt:=top 44
theorem iN:gj ["_law_script","_law_cell","_law_many","_law_joints","_law_k","_law_number","_law_one","_law_other_here"] ["_law_script"] (fJ nR):=⟨rfl,rfl,rfl,by decide +kernel,rfl,by decide +kernel,by decide +kernel⟩
section
variable {P:Program}{w:World}{K:PySem.W.Frag}{mg:Str->Option Value}{base:Heap}{f:Addr}{fd:FuncData}
theorem zm {f1 f2 f3 f4:Addr}{fd1 fd2 fd3 fd4:FuncData}(F:Fn K mg "_law_line" nR ["_law_script"] f fd)(fP:Fn K mg "_law_mix" kJ ["_law_cell","_law_k"] f1 fd1)(fW:Fn K mg "_law_cell_at" jW ["_law_script","_law_k"] f2 fd2)
  (fS:Fn K mg "_law_other" jc ["_law_end"] f3 fd3) (jv:Fn K mg "_law_renamed" kY ["_law_line_here","_law_cell"] f4 fd4) (m9:fV P w K mg base CX0 2 f4 fd4 ["_law_line_here","_law_cell"] (uc K))
  (B:Bl mg):fV P w K mg base CX0 3 f fd ["_law_script"] (Bh K):=by
 have il:fV P w K mg base CX0 1 f1 fd1 ["_law_cell","_law_k"] ud:=n8 fP B
 have i6:fV P w K mg base CX0 1 f2 fd2 ["_law_script","_law_k"] (xF K):=oS fW B
 have iP:fV P w K mg base CX0 1 f3 fd3 ["_law_end"] kj:=kA fS
 refine F.F.ok iN (λvs H Q E h=>?_) (λcdv A outer s H vs Q E hr h=>?_)
 ·obtain⟨a,ns,rfl,_⟩:=h;rfl
 ·obtain⟨a,ns,rfl,hS,k⟩:=h
  refine⟨_,(fE (fR (i:=1) iN.nd rfl (Or.inl rfl) (fM i6 (hr.mono (by decide)) rfl fW.m fW.F.kp fW.b .nil gu (fA (pv 0) (fA fF fD))))
 (fE (fR (i:=2) iN.nd rfl (Or.inl rfl) (fX i9 fF (fX iB (fM il (hr.mono (by decide)) rfl fP.m fP.F.kp fP.b .nil gu (fA (pv 1) (fA fF fD))) fF)))
 (fE (gN (gB (nY (fX iB (fM il (hr.mono (by decide)) rfl fP.m fP.F.kp fP.b .nil gu (fA (pv 1) (fA fF fD))) fF) fF))
 (fH (fR (i:=2) iN.nd rfl (Or.inl rfl) (fX i9 fF (fX iB (fM il (hr.mono (by decide)) rfl fP.m fP.F.kp fP.b .nil gu (fA (pv 1) (fA fF fD))) fF)))) fY)
 (fE (fR (i:=3) iN.nd rfl (Or.inl rfl) (iH fD))
 (fE (iL aV rfl (pS rfl B.range (fA (fX iB (fM il (hr.mono (by decide)) rfl fP.m fP.F.kp fP.b .nil gu (fA (pv 1) (fA fF fD))) (fX i9 (fX kL fF (pv 2)) fF)) fD)) (fL (i:=4) iN.nd rfl (Or.inl rfl))
 (fE (fR (i:=5) iN.nd rfl (Or.inl rfl) (fM il (hr.mono (by decide)) rfl fP.m fP.F.kp fP.b .nil gu (fA (fM i6 (hr.mono (by decide)) rfl fW.m fW.F.kp fW.b .nil gu (fA (pv 0) (fA (fX i9 fF (fX iB (pv 4) fF)) fD))) (fA (fX i9 fF (pv 4)) fD))))
 (fE (fR (i:=6) iN.nd rfl (Or.inl rfl) (fX iB (pv 5) (fX kL fF (pv 2))))
 (fE (fR (i:=7) iN.nd rfl (Or.inl rfl) (fX iB (fX jz (pv 5) fF) (fX kL fF (pv 2))))
 (fE (gN (PW.pt (rX (gB (nY (fX iB (fM il (hr.mono (by decide)) rfl fP.m fP.F.kp fP.b .nil gu (fA (pv 1) (fA fF fD))) fF) fF)) (qV (gB (nY (fX iB (pv 6) fF) (fX iB (pv 7) fF))))))
 (fH (fR (i:=7) iN.nd rfl (Or.inl rfl) (fM iP (hr.mono (by decide)) rfl fS.m fS.F.kp fS.b .nil gu (fA (pv 7) fD)))) fY)
 (fH (gN (PW.pt (rX (gB (qv (fX jz (pv 6) fF) (fX jz (pv 7) fF))) (rX (h9 (kK hr.units) (gy (fA (fQ (sA rfl) rfl B.min boot_min (fA (pv 6) (fA (pv 7) fD))) (fA (fQ (sC rfl) rfl B.max boot_max (fA (pv 6) (fA (pv 7) fD))) fD))) (pv 3) (by with_unfolding_all rfl)) (qV (gB (qY (fQ gh rfl B.len bT (fA (pv 3) fD)) fF))))))
 (fH (g7 (kF aH bf bc ir (pv 3) (fA (gy (fA (fQ (sA rfl) rfl B.min boot_min (fA (pv 6) (fA (pv 7) fD))) (fA (fQ (sC rfl) rfl B.max boot_max (fA (pv 6) (fA (pv 7) fD))) fD))) fD)))) fY)))))))
 (fH (fT (fM m9 (hr.mono (by decide)) rfl jv.m jv.F.kp jv.b .nil gu (fA (gy (fA (pv 2) (fA (pv 3) fD))) (fA (fM i6 (hr.mono (by decide)) rfl fW.m fW.F.kp fW.b .nil gu (fA (pv 0) (fA fF fD))) fD)))))))))),?_⟩
  refine⟨_,rfl,a,ns,0,rfl,hS,by decide,λcell=>?_⟩
  refine⟨_,rfl,cell,0,rfl,by decide,by decide,λn1 _ _=>⟨_,_,rfl,rfl,(by show(0:Int)<_;decide),_,_,rfl,rfl,?_⟩⟩
  dsimp only[oW]
  refine cut (λσ H'=>H'=H/\∃ m,1<=m/\m<=14/\σ = [some (.ref a),some (.int cell),some (.int m),none,none,none,none,none]) (λN R B C kN kR=>?_) ?_
  ·refine⟨_,rfl,cell,1,rfl,by decide,by decide,λn2 _ _=>⟨_,_,rfl,rfl,(by show(0:Int)<_;decide),_,_,rfl,rfl,_,rfl,gT (λ_=>?_) (λ_=>kN _ _ ⟨rfl,1+n1%8,by omega,by omega,rfl⟩)⟩⟩
   exact⟨_,rfl,cell,0,rfl,by decide,by decide,λn3 _ _=>⟨_,_,rfl,rfl,(by show(0:Int)<_;decide),_,_,rfl,rfl,kN _ _ ⟨rfl,9+n3%6,by omega,by omega,rfl⟩⟩⟩
  rintro σ H0 ⟨e,m,m1,m2,rfl⟩
  rw[e]
  clear e
  refine⟨aK _,λt nt=>?_⟩
  refine⟨_,rfl,cell,2,rfl,by decide,by decide,λn4 n40 _=>⟨_,rfl,_,_,rfl,rfl,.inl ⟨by decide,by decide⟩,_,_,rfl,rfl,_,_,rfl,rfl,(by show(0:Int)<2*m+4;omega),?_⟩⟩
  have q0:0<=n4%(2*m+4):=cL _ (by omega)
  have q1:n4%(2*m+4)<2*m+4:=cw _ (by omega)
  refine⟨_,rfl,by show -(2 ^ 62)<=n4%(2*m+4);omega,by show n4%(2*m+4)<2 ^ 62;omega,vD (λi σ H3=>∃ (vs:List V) (js:List (Int×Int)) (x4 x5 x6 x7:Option V),σ = [some (.ref a),some (.int cell),some (.int m),some (.ref t),x4,x5,x6,x7]/\fI H H3/\H3 t=some (.lst vs)/\Ps K H3 js vs/\rN (m,js))
   ⟨[],[],none,none,none,none,rfl,fB nt,fC,gS.mpr rfl,⟨m1,m2,aK _,λp hp=>(nomatch hp),cH⟩⟩ ?_ ?_⟩
  ·rintro i σ H3 N R B kN _ hi ⟨vs,js,x4,x5,x6,x7,rfl,S3,ht3,D,G⟩
   have i0:(0:Int)+(i:Nat)=(i:Int):=by omega
   rw[i0]
   have hi':(i:Int)<32:=by
    have:(i:Int)<n4%(2*m+4):=by
     have h:i<(n4%(2*m+4)).toNat:=hi
     omega
    omega
   refine⟨_,rfl,_,rfl,_,_,rfl,rfl,(by show(0:Int)<_;decide),_,_,rfl,rfl,a,ns,_,rfl,S3.seq hS,by show(0:Int)<=2+(i:Int)%8;omega,λc5=>⟨_,rfl,_,_,rfl,rfl,c5,_,rfl,by show(0:Int)<=10+(i:Int);omega,by show 10+(i:Int)<=1000;omega,λn5 n50 n51=>?_⟩⟩
   refine⟨_,rfl,_,rfl,_,_,rfl,rfl,.inl ⟨by decide,by decide⟩,_,_,rfl,rfl,(by show(0:Int)<2*m;omega),?_⟩
   refine⟨_,rfl,_,_,rfl,rfl,⟨by decide,by decide⟩,_,rfl,_,_,rfl,rfl,.inl ⟨by decide,by decide⟩,_,_,rfl,rfl,(by show(0:Int)<2*m;omega),?_⟩
   dsimp only
   have o0:0<=n5%(2*m):=cL _ (by omega)
   have o1:n5%(2*m)<2*m:=cw _ (by omega)
   have r0:0<=n5/64%(2*m):=cL _ (by omega)
   have r1:n5/64%(2*m)<2*m:=cw _ (by omega)
   generalize n5%(2*m)=one at o0 o1
   generalize n5/64%(2*m)=oh at r0 r1
   dsimp only[oW]
   refine cut (λσ H'=>H'=H3/\∃ oh',0<=oh'/\oh'<2*m/\σ = [some (.ref a),some (.int cell),some (.int m),some (.ref t),some (.int (i:Int)),some (.int n5),some (.int one),some (.int oh')]) (λN2 R2 B2 C2 k2 _=>?_) ?_
   ·refine⟨_,rfl,cell,3,rfl,by decide,by decide,λn6 _ _=>⟨_,_,rfl,rfl,(by show(0:Int)<_;decide),_,_,rfl,rfl,_,rfl,gT (λ_=>?_) (λ_=>kB (k2 _ _ ⟨rfl,oh,r0,r1,rfl⟩))⟩⟩
    refine⟨_,rfl,_,_,rfl,rfl,(by show(0:Int)<_;decide),_,rfl,_,_,rfl,rfl,(by show(0:Int)<_;decide),_,_,rfl,rfl,_,rfl,gT (λ_=>?_) (λ_=>k2 _ _ ⟨rfl,oh,r0,r1,rfl⟩)⟩
    exact⟨_,rfl,oh,rfl,k2 _ _ ⟨rfl,oth oh,Aw r0,by unfold oth;omega,rfl⟩⟩
   rintro σ H0 ⟨e,oh',r0',r1',rfl⟩
   rw[e]
   clear e r0 r1
   refine⟨_,rfl,_,_,rfl,rfl,⟨by decide,by decide⟩,_,rfl,_,_,rfl,rfl,⟨by decide,by decide⟩,_,_,rfl,rfl,_,rfl,?_⟩
   refine gT (λhne=>?_) (λ_=>kB (kN _ _ ⟨vs,js,_,_,_,_,rfl,S3,ht3,D,G⟩))
   refine⟨_,rfl,_,rfl,_,_,rfl,_,rfl,_,rfl,_,_,rfl,by show 2<=sizeLine;decide,λp1 n1=>?_⟩
   rw[AH,AI]
   have ht4:=(fB (o:=.tup [.int (min one oh'),.int (max one oh')]) n1) _ _ ht3
   have D4:=D.same (fB (o:=.tup [.int (min one oh'),.int (max one oh')]) n1)
   refine⟨_,rfl,_,_,D4.da ht4,gR.mpr ⟨p1,_,rfl,SqT.of fC,Dgs.two (iC.mpr rfl) (iC.mpr rfl)⟩,Iq js,sW (_,_),_,rfl,?_⟩
   refine gT (λhni=>?_) (λ_=>kB (kN _ _ ⟨vs,js,_,_,_,_,rfl,S3.trans (fB n1),ht4,D4,G⟩))
   refine⟨_,rfl,t,_,rfl,.inl (SqL.of ht4),_,_,rfl,rfl,_,rfl,?_⟩
   refine gT (λhlt=>?_) (λ_=>kN _ _ ⟨vs,js,_,_,_,_,rfl,S3.trans (fB n1),ht4,D4,G⟩)
   have hlt:(vs.length:Int)<24:=by simpa using hlt
   have vl:=D.len
   refine⟨_,rfl,.inl ⟨rfl,_,SqL.of ht4⟩,_,rfl,_,rfl,_,_,rfl,_,rfl,_,rfl,_,_,rfl,by show 2<=sizeLine;decide,λp2 n2=>?_⟩
   rw[AH,AI]
   have S5:=(fB n1).trans (fB (o:=.tup [.int (min one oh'),.int (max one oh')]) n2)
   refine⟨t,vs,_,rfl,rfl,S5 _ _ ht3,nP (by omega),?_⟩
   refine kN _ _ ⟨_,js ++ [(min one oh',max one oh')],_,_,_,_,rfl,fI.upd (S3.trans S5) nt,fC,Ps.push (x:=(min one oh',max one oh')) (D.same S5) (S5 _ _ ht3) fC,?_⟩
   have Pu:(min one oh',max one oh')∉js:=λz=>by
    have e:=Lw js (min one oh',max one oh')
    unfold dP at e
    dsimp only at e
    unfold dP at hni
    rw[e]at hni
    simp[z]at hni
   have Dj:one/2≠oh'/2:=by simpa using hne
   exact AY G Dj o0 o1 r0' r1' Pu (by omega)
  ·rintro σ H3 ⟨vs,js,x4,x5,x6,x7,rfl,S3,ht3,D,G⟩
   refine⟨_,rfl,_,rfl,by show 2<=sizeLine;decide,λp np=>?_⟩
   have S4:=fB (o:=.tup [.int m,.ref t]) np
   refine⟨_,rfl,a,ns,1,rfl,(S3.trans S4).seq hS,by decide,λc7=>?_⟩
   refine⟨_,(m,js),c7,rfl,xj fC ((D.same S4).da (S4 _ _ ht3)),G,λv' js' nm es H' s5 d5 R pm=>k v' (m,js') H' (S3.trans (S4.trans s5)) d5 (R.line G pm)⟩
end
structure Xr (K:PySem.W.Frag)(mg:Str->Option Value)(c2:Addr):Prop where
 ji:Xc K mg "NoTrain" c2
 cat:rO K c2 c2
def isT (l:Ln)(ns:List Int):Prop:=ns≠ []/\jm l ns
def yR (K:PySem.W.Frag):Sp:=λvs H Q _=>∃ (v:V) (l:Int×List (Int×Int)) (e:Int),vs = [v,.int e]/\Da K H (dL l) v/\Q (.bl (decide (0<=e/\e<2*l.1))) H
def ug (K:PySem.W.Frag)(C:Addr):Sp:=λvs H Q E=>∃ (v u:V) (l:Int×List (Int×Int)) (ns:List Int),vs = [v,u]/\Da K H (dL l) v/\Da K H (dI ns) u/\gv l/\ns.length<=900/\
 (isT l ns->∀ H',fI H H'->Q .non H')/\(¬isT l ns->∀ H',fI H H'->∀ e,H' e=none->E (.ref C) (some e) H')
abbrev qT:Stmt:=top 12
theorem CD:gj ["line","end"] ["line","end"] (fJ qT):=⟨rfl,rfl,rfl,by decide +kernel,rfl,by decide +kernel,by decide +kernel⟩
abbrev jr:Stmt:=top 15
theorem kq:gj ["line","train","end","following"] ["line","train"] (fJ jr):=⟨rfl,rfl,rfl,by decide +kernel,rfl,by decide +kernel,by decide +kernel⟩
theorem nL:gH (fJ jr) ["line","train","end","following"] {kind:=.function,names:=[(Str.ofString ".0",.local),(Str.ofString "end",.local),(Str.ofString "piece_of",.globalImplicit)],isGenerator:=false,isCoroutine:=false,more:=[]} ["end"] 1 [none]:=⟨rfl,by decide +kernel,by decide +kernel,by decide +kernel,rfl,by decide +kernel,rfl,by decide +kernel⟩
section
variable {P:Program}{w:World}{K:PySem.W.Frag}{mg:Str->Option Value}{base:Heap}{f:Addr}{fd:FuncData}{D c1 c2 c3 c4 c5 c6 c7:Addr}
theorem CO (F:Fn K mg "is_end" qT ["line","end"] f fd):fV P w K mg base CX0 1 f fd ["line","end"] (yR K):=by
 refine F.F.ok CD (λvs H Q E h=>?_) (λcdv A outer s H vs Q E hr h=>?_)
 ·obtain⟨v,l,e,rfl,_⟩:=h;rfl
 ·obtain⟨v,l,e,rfl,hv,k⟩:=h
  obtain⟨a,b,rfl,ht,us,hl,hq⟩:=p9 hv
  refine⟨_,(fH (fT (Es Kc Kb fF (pv 1) (fX kL fF (gq gD (pv 0) fF (λ_ _=>rfl)))))),?_⟩
  refine⟨_,rfl,_,_,rfl,rfl,_,rfl,gT (λh=>?_) (λh=>?_)⟩
  ·have h:0<=e:=by simpa using h
   refine⟨_,rfl,a,_,_,_,rfl,rfl,ht,rfl,_,_,rfl,rfl,.inl ⟨by decide,by decide⟩,_,_,rfl,rfl,?_⟩
   have e1:decide (0<=e/\e<2*l.1)=decide (e<2*l.1):=by simp[h]
   rw[e1]at k
   exact k
  ·have h:¬0<=e:=by simpa using h
   have e1:decide (0<=e/\e<2*l.1)=false:=by simp[h]
   rw[e1]at k
   exact k
theorem uR {f1 f2 f3 f4:Addr}{fd1 fd2 fd3 fd4:FuncData}(F:Fn K mg "check_train" jr ["line","train"] f fd)(XS:Xr K mg c2)(B:Bm mg)(nM:Fn K mg "is_end" qT ["line","end"] f1 fd1)
  (hZ:Fn K mg "piece_of" mr ["end"] f2 fd2) (jo:Fn K mg "joined" mw ["line","end"] f3 fd3) (gU:Fn K mg "other_end" lC ["end"] f4 fd4):fV P w K mg base (CXr P w base) 2 f fd ["line","train"] (ug K c2):=by
 have FW:fV P w K mg base CX0 1 f1 fd1 ["line","end"] (yR K):=CO nM
 have oz:fV P w K mg base CX0 1 f2 fd2 ["end"] xD:=sV hZ
 have vV:fV P w K mg base CX0 1 f3 fd3 ["line","end"] (lZ K):=wW jo B.toBl
 have mV:fV P w K mg base CX0 1 f4 fd4 ["end"] kj:=rf gU
 refine F.F.okX kq (λvs H Q E h=>?_) (λcdv A outer s H vs Q E hr h=>?_)
 ·obtain⟨v,u,l,ns,rfl,_⟩:=h;rfl
 ·obtain⟨v,u,l,ns,rfl,hv,hu,ok,hz,k1,k2⟩:=h
  obtain⟨a,rfl,ha⟩:=ij.mp hu
  refine⟨_,(fE (gN (m6 (za (pv 1) (λ_=>rfl)))
 (fH (nA me rfl rfl XS.ji.m XS.ji.q cb (fA gK fD))) fY)
 (fE (iL PassesOwn.leaving rfl (gz (pv 1)) (fL (i:=2) kq.nd rfl (Or.inl rfl))
 (fH (gN (m6 (my (fM FW (hr.mono (by decide)) rfl nM.m nM.F.kp nM.b .nil gu (fA (pv 0) (fA (pv 2) fD)))))
 (fH (nA me rfl rfl XS.ji.m XS.ji.q cb (fA gK fD))) fY)))
 (fE (gN (gB (qY (fQ DF rfl B.len bT (fA (J5 (gz (pv 1)) rfl nL (.name (by decide)) (λ_ _ _ _=>(fL (i:=0) nL.nd rfl (Or.inl rfl))) (λ_ _ _ _=>iq) (λ_ _ _ _=>(fM oz (hr.mono (by decide)) rfl hZ.m hZ.F.kp hZ.b .nil gu (fA (pv 0) fD)))) fD)) (fQ gh rfl B.len bT (fA (pv 1) fD))))
 (fH (nA me rfl rfl XS.ji.m XS.ji.q cb (fA gK fD))) fY)
 (fH (iL PassesOwn.leaving rfl (El rfl B.zip (fA (pv 1) (fA (nC pK (pv 1) (nU fF) pR) fD))) (ie (n:=2) rfl (fN (fL (i:=2) kq.nd rfl (Or.inl rfl)) (fN (fL (i:=3) kq.nd rfl (Or.inl rfl)) gP)))
 (fH (gN (h9 (kK hr.units) (pv 3) (fM vV (hr.mono (by decide)) rfl jo.m jo.F.kp jo.b .nil gu (fA (pv 0) (fA (fM mV (hr.mono (by decide)) rfl gU.m gU.F.kp gU.b .nil gu (fA (pv 2) fD)) fD))) (by with_unfolding_all rfl))
 (fH (nA me rfl rfl XS.ji.m XS.ji.q cb (fA gK fD))) fY))))))),?_⟩
  refine⟨_,rfl,_,.inl ⟨_,ha,rfl⟩,gT (λh=>?_) (λh=>?_)⟩
  ·have h:ns = []:=by simpa using h
   exact⟨by decide,λe he=>k2 (λz=>z.1 h) H (fI.refl _) e he⟩
  have hne:ns≠ []:=by simpa using h
  refine⟨_,rfl,a,rfl,⟨_,ha⟩,oX (K:=K) (a:=a) (xs:=ns.map V.int) (λi σ H3=>∃ (x2 x3:Option V),σ = [some v,some (.ref a),x2,x3]/\H3=H/\∀ e∈ns.take i,0<=e/\e<2*l.1)
   ⟨none,none,rfl,rfl,λe he=>by simp at he⟩ (λi σ H3 _ ⟨_,_,_,e,_⟩=>e ▸ ha) ?_ ?_⟩
  ·rintro i y σ H3 hi ⟨x2,x3,rfl,rfl,al⟩
   rw[aj]at hi
   obtain⟨e,he,rfl⟩:∃ e,ns[i]? = some e/\y = .int e:=by
    cases q:ns[i]? with
    |none=>rw[q]at hi;cases hi
    |some e=>rw[q]at hi;cases hi;exact⟨e,rfl,rfl⟩
   refine⟨_,rfl,_,rfl,v,l,e,rfl,hv,_,rfl,gT (λh=>?_) (λh=>?_)⟩
   ·have h:¬(0<=e/\e<2*l.1):=λz=>by simp[z]at h
    exact⟨by decide,λx hx=>k2 (λz=>h (z.2.ends e (av he))) H3 (fI.refl _) x hx⟩
   ·have h:0<=e/\e<2*l.1:=by simpa using h
    refine⟨_,_,rfl,rfl,λx hx=>?_⟩
    rw[bh,he]at hx
    rcases aF.mp hx with z |z
    ·exact al x z
    ·have z:x=e:=by simpa using z
     rw[z];exact h
  rintro σ H3 ⟨x2,x3,rfl,rfl,al⟩
  rw[aa,br]at al
  refine⟨_,rfl,a,rfl,⟨_,ha⟩,λq nq=>D9 (ig ha) ns (λe=>e/2) nq (by rw[aa]) (by rw[aa];show ns.length+1<4096;omega) ?_ ?_⟩
  ·intro i x d H' hx hd sm P1 P0 p1
   rw[aj,hd]at hx
   cases hx
   refine jF ?_
   exact⟨_,rfl,d,rfl,p1⟩
  have hq3:=fC (H:=H3) (a:=q) (o:=.set (λk=>decide (k∈ns.map λe=>e/2)) (dn (ns.map λe=>e/2) (ns.map V.int).length))
  have s4:=fB (o:=.set (λk=>decide (k∈ns.map λe=>e/2)) (dn (ns.map λe=>e/2) (ns.map V.int).length)) nq
  generalize upd H3 q _=H4 at hq3 s4 ⊢
  refine⟨q,_,_,rfl,hq3,_,rfl,a,_,rfl,.inl (s4.seq ha),_,_,rfl,rfl,_,rfl,gT (λh=>?_) (λh=>?_)⟩
  ·have h:dn (ns.map λe=>e/2) (ns.map V.int).length<(ns.map V.int).length:=by simpa using h
   rw[aa]at h
   have h2:=(Hu (ns.map λe=>e/2)).mp (by rw[aa];exact h)
   exact⟨by decide,λx hx=>k2 (λz=>h2 z.2.nd) H4 s4 x hx⟩
  have h:¬dn (ns.map λe=>e/2) (ns.map V.int).length<(ns.map V.int).length:=by simpa using h
  rw[aa]at h
  have nd:(ns.map λe=>e/2).Nodup:=by
   have h3:=(Hu (ns.map λe=>e/2))
   rw[aa]at h3
   exact Decidable.byContradiction λz=>h (h3.mpr z)
  refine⟨_,rfl,_,rfl,_,rfl,a,_,rfl,s4.seq ha,λt nt=>?_⟩
  rw[vM]
  have ht:=fC (H:=H4) (a:=t) (o:=.lst ((ns.drop 1).map V.int))
  have s5:=fB (o:=.lst ((ns.drop 1).map V.int)) nt
  generalize upd H4 t _=H5 at ht s5 ⊢
  have S5:=s4.trans s5
  refine⟨a,t,rfl,⟨_,S5.seq ha⟩,⟨_,SqL.of ht⟩,GP (K:=K) (a:=a) (b:=t) (xs:=ns.map V.int) (ys:=(ns.drop 1).map V.int) (ns.length-1) (by simp)
   (λi σ H6=>∃ (x2 x3:Option V),σ = [some v,some (.ref a),x2,x3]/\fI H5 H6/\∀ j,j<i->∀ x y,ns[j]? = some x->ns[j+1]? = some y->y∈jn l.2 (oth x))
   ⟨_,_,rfl,fI.refl _,λj hj=>absurd hj (Nat.not_lt_zero j)⟩ (λi σ H6 _ ⟨_,_,_,s,_⟩=>⟨(S5.trans s).seq ha,SqL.of (s _ _ ht)⟩) ?_ ?_⟩
  ·rintro i x y σ H6 p hx hy ⟨x2,x3,rfl,s6,al2⟩ np
   rw[aj]at hx hy
   rw[cI,Nat.add_comm]at hy
   obtain⟨d,hd,rfl⟩:∃ e,ns[i]? = some e/\x = .int e:=by
    cases q:ns[i]? with
    |none=>rw[q]at hx;cases hx
    |some e=>rw[q]at hx;cases hx;exact⟨e,rfl,rfl⟩
   obtain⟨e,he,rfl⟩:∃ e,ns[i+1]? = some e/\y = .int e:=by
    cases q:ns[i+1]? with
    |none=>rw[q]at hy;cases hy
    |some e=>rw[q]at hy;cases hy;exact⟨e,rfl,rfl⟩
   have S7:=(S5.trans s6).trans (fB (o:=.tup [.int d,.int e]) np)
   have s7:=s6.trans (fB (o:=.tup [.int d,.int e]) np)
   refine⟨p,_,rfl,SqT.of fC,rfl,_,_,rfl,_,_,rfl,rfl,?_⟩
   refine⟨_,rfl,_,rfl,_,rfl,d,rfl,v,l,_,rfl,Da.same S7 hv,ok,λr H8 s8 nr hr8=>?_⟩
   refine⟨(jn l.2 (oth d)).map PyData.int,.int e,iu hr8,iC.mpr rfl,uS _,rh _,_,rfl,?_⟩
   rw[Ag]
   refine gT (λh=>?_) (λh=>?_)
   ·have h:e∉jn l.2 (oth d):=by simpa using h
    exact⟨by decide,λx hx=>k2 (λz=>h (z.2.ch i d e hd he)) H8 (S7.trans s8) x hx⟩
   ·have h:e∈jn l.2 (oth d):=by simpa using h
    refine⟨_,_,rfl,s7.trans s8,λj hj x2 y2 hx2 hy2=>?_⟩
    rcases fq.mp hj with z |z
    ·exact al2 j z x2 y2 hx2 hy2
    ·subst z
     rw[hd]at hx2;rw[he]at hy2
     cases hx2;cases hy2
     exact h
  rintro σ H6 ⟨x2,x3,rfl,s6,al2⟩
  refine k1 ⟨hne,al,nd,λi x y hx hy=>al2 i ?_ x y hx hy⟩ H6 (S5.trans s6)
  have:=(af.mp hy).1
  omega
end
structure Cm (mg:Str->Option Value)(tk:Tok):Prop where
 pB:mg "MOST_STANDINGS" = some (.int 300 tk)
structure Xt (K:PySem.W.Frag)(mg:Str->Option Value)(c:Addr):Prop where
 qe:Xc K mg "TooMany" c
def t8 (K:PySem.W.Frag)(C:Addr):Sp:=λvs H Q E=>∃ (v u:V) (l:Ln) (ns:List Int),vs = [v,u]/\Da K H (dL l) v/\Da K H (dI ns) u/\gv l/\ns≠ []/\ns.length<=900/\jm l ns/\
 (∀ i d vs H',(fO l ns i).length=i->i<=300->fI H H'->H d=none->mI K H' d (fO l ns i) vs->Q (.ref d) H')/\
 ((∃ i,300<(fO l ns i).length)->∀ H',fI H H'->∀ e,H' e=none->E (.ref C) (some e) H')
def at5 (σ:L2.St)(_:Hp):Nat:=match (σ[5]? :Option (Option V))with
 |some (some (V.int i))=>(301-i).toNat
 |_=>0
def ue (K:PySem.W.Frag):Sp:=λvs H Q _=>∃ (d:Addr) (es:List Ent) (us:List V),vs = [.ref d]/\mI K H d es us/\es.length<=5000000/\∀ q bs H',lT H H' q bs (es.map (·.1))->Q (.ref q) H'
def Br (K:PySem.W.Frag):Sp:=λvs H Q _=>∃ (d g:Addr) (es:List Ent) (us:List V) (t:List Int),vs = [.ref d,.ref g]/\mI K H d es us/\H g=some (.tup (t.map V.int))/\t∈es.map (·.1)/\oD es/\(es.map (·.1)).Nodup/\es.length<=5000000/\
 ∀ q run H',fI H H'->H q=none->rL K H' q run->oy es t run->Q (.ref q) H'
abbrev jX:Stmt:=top 21
theorem g8:gj ["line","train","start","steps","order","at","ahead","move","behind","standing"] ["line","train"] (fJ jX):=⟨rfl,rfl,rfl,by decide +kernel,rfl,by decide +kernel,by decide +kernel⟩
abbrev j8:Stmt:=top 22
theorem sQ:gj ["standings"] ["standings"] (fJ j8):=⟨rfl,rfl,rfl,by decide +kernel,rfl,by decide +kernel,by decide +kernel⟩
theorem lp:gH (fJ j8) ["standings"] {kind:=.function,names:=[(Str.ofString ".0",.local),(Str.ofString "standing",.local),(Str.ofString "list",.globalImplicit)],isGenerator:=false,isCoroutine:=false,more:=[]} ["standing"] 1 [none]:=⟨rfl,by decide +kernel,by decide +kernel,by decide +kernel,rfl,by decide +kernel,rfl,by decide +kernel⟩
abbrev iU:Stmt:=top 23
theorem gC:gj ["steps","goal","run","step","ahead","move"] ["steps","goal"] (fJ iU):=⟨rfl,rfl,rfl,by decide +kernel,rfl,by decide +kernel,by decide +kernel⟩
section
variable {P:Program}{w:World}{K:PySem.W.Frag}{mg:Str->Option Value}{base:Heap}{f:Addr}{fd:FuncData}{c5:Addr}{tk:Tok}
theorem uQ {f1:Addr}{fd1:FuncData}(F:Fn K mg "first_steps" jX ["line","train"] f fd)(B:Bm mg)(C:Cm mg tk)(XS:Xt K mg c5)(gZ:Fn K mg "moves_of" kI ["line","train"] f1 fd1)
  (jk:fV P w K mg base CX0 3 f1 fd1 ["line","train"] (lB K)):fV P w K mg base (CXr P w base) 4 f fd ["line","train"] (t8 K c5):=by
 refine F.F.okX g8 (λvs H Q E h=>?_) (λcdv A outer s H vs Q E hr h=>?_)
 ·obtain⟨v,u,l,ns,rfl,_⟩:=h;rfl
 ·obtain⟨v,u,l,ns,rfl,hv,hu,ok,hne,hz,T,k1,k2⟩:=h
  obtain⟨a,rfl,ha⟩:=ij.mp hu
  refine⟨_,(fE (fR (i:=2) g8.nd rfl (Or.inl rfl) (fZ gw rfl B.tuple bV (fA (pv 1) fD)))
 (fE (fR (i:=3) g8.nd rfl (Or.inl rfl) (zg (jI hr) (pv 2) uG))
 (fE (fR (i:=4) g8.nd rfl (Or.inl rfl) (iH (fA (pv 2) fD)))
 (fE (fR (i:=5) g8.nd rfl (Or.inl rfl) fF)
 (fE (nz PassesOwn.leaving (gB (qY (pv 5) (fQ gh rfl B.len bT (fA (pv 4) fD))))
 (fE (fR (i:=6) g8.nd rfl (Or.inl rfl) (gq hV (pv 4) (pv 5) (λ_ _=>rfl)))
 (fE (As (i:=5) g8.nd rfl (Or.inl rfl) fF AQ)
 (fH (iL PassesOwn.leaving rfl (gz (fM jk (hr.mono (by decide)) rfl gZ.m gZ.F.kp gZ.b .nil gu (fA (pv 0) (fA (fZ iM rfl B.list cQ (fA (pv 6) fD)) fD)))) (ie (n:=2) rfl (fN (fL (i:=7) g8.nd rfl (Or.inl rfl)) (fN (fL (i:=8) g8.nd rfl (Or.inl rfl)) gP)))
 (fE (fR (i:=9) g8.nd rfl (Or.inl rfl) (fZ gw rfl B.tuple bV (fA (pv 8) fD)))
 (fH (gN (gB (pT (jI hr) (pv 9) (pv 3)))
 (fE (gN (gB (nY (fQ gh rfl B.len bT (fA (pv 4) fD)) (lW (v:=.int 300) rfl C.pB ⟨_,rfl⟩)))
 (fH (nA me rfl rfl XS.qe.m XS.qe.q cb (fA (Ep (i:=300) rfl C.pB ⟨_,rfl⟩ (by decide) (by decide)) fD))) fY)
 (fE (tK (jI hr) (pv 3) (pv 9) (gy (fA (pv 6) (fA (pv 7) fD))) rfl)
 (fH (g7 (kF aH bf bc ir (pv 4) (fA (pv 9) fD)))))) fY))))))))
 (fH (fT (pv 3)))))))),?_⟩
  refine⟨_,rfl,a,_,rfl,.inl ⟨ha,λt0 nt0=>?_⟩⟩
  have s1:=fB (o:=.tup (ns.map V.int)) nt0
  have h1:=fC (H:=H) (a:=t0) (o:=.tup (ns.map V.int))
  generalize upd H t0 _=H1 at s1 h1 ⊢
  refine λd nd=>⟨_,rfl,_,_,t0,kyI ns,rfl,rfl,by rw[ip];exact fB nd _ _ h1,fC,?_⟩
  rw[qM]
  have s2:=fB (o:=.dT [(kyI ns,V.non)]) nd
  have h2:=s2 _ _ h1
  have hd2:=fC (H:=H1) (a:=d) (o:=.dT [(kyI ns,V.non)])
  have nd0:=fI.free s1 nd
  generalize upd H1 d _=H2 at s2 h2 hd2 ⊢
  refine⟨_,rfl,by show 1<=sizeLine;decide,λp np=>?_⟩
  have s3:=fB (o:=.lst [V.ref t0]) np
  have h3:=s3 _ _ h2
  have hd3:=s3 _ _ hd2
  have hp3:=fC (H:=H2) (a:=p) (o:=.lst [V.ref t0])
  have np0:=fI.free (s1.trans s2) np
  have S3:=s1.trans (s2.trans s3)
  generalize upd H2 p _=H3 at s3 h3 hd3 hp3 S3 ⊢
  refine pG (λσ H4=>∃ (i:Nat) (as:List Addr) (vs:List V) (x6 x7 x8 x9:Option V),σ = [some v,some (.ref a),some (.ref t0),some (.ref d),some (.ref p),some (.int i),x6,x7,x8,x9]/\fI H H4/\mI K H4 d (fO l ns i) vs/\Ord H4 p as (fO l ns i)/\i<=(fO l ns i).length/\(fO l ns i).length<=300)
   at5 ⟨0,[t0],[.non],none,none,none,none,rfl,S3,⟨hd3,rfl,λi e v' he hv'=>?_⟩,⟨hp3,rfl,λi b e hb he=>?_⟩,aK _,by simp[fO]⟩ ?_ ?_
  ·match i,he,hv' with
   | 0,he,hv'=>cases he;cases hv';rfl
  ·match i,hb,he with
   | 0,hb,he=>cases hb;cases he;exact h3
  ·rintro σ H4 N1 R1 B1 kN1 _ kB1 ⟨i,as,vs,x6,x7,x8,x9,rfl,S4,hs4,ho4,hi,La⟩
   have E4:=jd ok T hne i
   refine⟨_,rfl,_,rfl,p,_,rfl,.inl (SqL.of ho4.at_),_,_,rfl,rfl,_,rfl,gT (λhlt=>?_) (λhlt=>?_)⟩
   ·have hlt:(i:Int)<((as.map V.ref).length:Int):=by simpa using hlt
    rw[aa,ho4.len]at hlt
    have hi2:i<(fO l ns i).length:=by omega
    have he:(fO l ns i)[i]? = some ((fO l ns i)[i]):=by simp
    generalize (fO l ns i)[i]=e at he
    obtain⟨b,hb⟩:∃ b,as[i]? = some b:=⟨as[i]'(by rw[ho4.len];exact hi2),ah _⟩
    have hbt:=ho4.each i b e hb he
    obtain⟨T1,T2,T3⟩:=E4.tr e (av he)
    refine⟨_,rfl,_,rfl,p,_,_,_,rfl,rfl,SqL.of ho4.at_,qA (v:=V.ref b) (by omega) (by rw[aj,show((i:Int)).toNat=i by omega,hb];rfl),?_⟩
    refine⟨_,rfl,_,_,rfl,rfl,?_⟩
    refine⟨_,rfl,_,rfl,b,_,rfl,.inr (SqT.of hbt),λq nq=>?_⟩
    have s5:=fB (o:=.lst (e.1.map V.int)) nq
    have hq5:=fC (H:=H4) (a:=q) (o:=.lst (e.1.map V.int))
    generalize upd H4 q _=H5 at s5 hq5 ⊢
    refine⟨_,_,l,e.1,rfl,Da.same (S4.trans s5) hv,iu hq5,ok,T3,by omega,λpm vm H6 s6 hpm zF Dm=>?_⟩
    have s46:=s5.trans s6
    have S6:=S4.trans s46
    have hs6:=hs4.same s46
    have ho6:=ho4.same s46
    have EN:(mvs l e.1).length=vm.length:=by have:=Dm.length;rw[aa]at this;exact this.symm
    have AV:=s46 _ _ hbt
    have pmp:pm≠p:=bI (fK (s5 _ _ ho4.at_) hpm)
    have pmd:pm≠d:=bI (fK (s5 _ _ hs4.at_) hpm)
    refine⟨pm,rfl,⟨_,SqL.of zF⟩,iW (K:=K) (a:=pm) (xs:=vm) (λj σ H7=>∃ (as':List Addr) (vs':List V) (x7 x8 x9:Option V),σ = [some v,some (.ref a),some (.ref t0),some (.ref d),some (.ref p),some (.int ((i:Int)+1)),some (.ref b),x7,x8,x9]/\
      fI H H7/\fI (zH d p H6) H7/\mI K H7 d (gW e.1 ((mvs l e.1).take j) (fO l ns i)) vs'/\Ord H7 p as' (gW e.1 ((mvs l e.1).take j) (fO l ns i))/\(gW e.1 ((mvs l e.1).take j) (fO l ns i)).length<=300)
     ⟨as,vs,x7,x8,x9,rfl,S6,λb u h=>gQ (p:=d) b u (gQ (p:=p) b u h),hs6,ho6,La⟩ (λj σ H7 _ ⟨_,_,_,_,_,_,_,sm,_⟩=>SqL.of (sm _ _ (by rw[mR pmd pmp];exact zF))) ?_ ?_⟩
    ·rintro j y σ H7 N R B kN _ hj ⟨as',vs',y7,y8,y9,rfl,S7,sm,hs7,ho7,BY⟩
     obtain⟨m,ad,p1,bb,hm,rfl,ht,dm,hbb,nbb,_⟩:=zt Dm hj
     obtain⟨a1,ea1,htm⟩:=zR dm
     cases ea1
     have bbp:bb≠p:=bI (fK (s5 _ _ ho4.at_) nbb)
     have bbd:bb≠d:=bI (fK (s5 _ _ hs4.at_) nbb)
     have ht7:=gd sm (vy hs6.at_ ho6.at_ ht)
     have IP:=gd sm (vy hs6.at_ ho6.at_ htm)
     have Dp:H7 bb=some (.lst (m.2.map V.int)):=sm _ _ (by rw[mR bbd bbp];exact hbb)
     have hb7:H7 b=some (.tup (e.1.map V.int)):=sm _ _ (by rw[mR (gA AV hs6.at_ (by intro z;cases z)) (gA AV ho6.at_ (by intro z;cases z))];exact AV)
     refine⟨ad,_,rfl,ht7,rfl,_,_,rfl,_,_,rfl,rfl,?_⟩
     refine⟨_,rfl,bb,_,rfl,.inl ⟨SqL.of Dp,λst nst=>?_⟩⟩
     have s8:=fB (o:=.tup (m.2.map V.int)) nst
     have hst:=fC (H:=H7) (a:=st) (o:=.tup (m.2.map V.int))
     have hs8:=hs7.same s8
     have ho8:=ho7.same s8
     have S8:=S7.trans s8
     have sm8:=sm.trans s8
     have hb8:=s8 _ _ hb7
     have Dh:=gd s8 IP
     generalize upd H7 st _=H8 at s8 hst hs8 ho8 S8 sm8 hb8 Dh ⊢
     refine⟨_,rfl,_,rfl,d,_,rfl,pF.t (k:=kyI m.2) hs8.at_ (by rw[ip];exact hst),_,rfl,?_⟩
     rw[hs8.mem m.2]
     have oI:gW e.1 ((mvs l e.1).take (j+1)) (fO l ns i)=m8 e.1 (gW e.1 ((mvs l e.1).take j) (fO l ns i)) m:=um hm
     refine gT (λhn=>?_) (λhn=>?_)
     ·have hn:m.2∉(gW e.1 ((mvs l e.1).take j) (fO l ns i)).map (·.1):=by simpa using hn
      have ni:gW e.1 ((mvs l e.1).take (j+1)) (fO l ns i)=gW e.1 ((mvs l e.1).take j) (fO l ns i) ++ [(m.2,some (e.1,m.1))]:=by
       rw[oI];unfold m8;rw[aE hn]
      refine⟨_,rfl,p,_,rfl,.inl (SqL.of ho8.at_),_,_,rfl,rfl,_,rfl,gT (λh3=>?_) (λh3=>?_)⟩
      ·have h3:((as'.map V.ref).length:Int)=300:=by simpa using h3
       rw[aa,ho8.len]at h3
       refine λz=>⟨by show 1<=sizeLine;decide,λx hx=>k2 ⟨i+1,?_⟩ H8 S8 x hx⟩
       rw[nh he]
       have:=(oJ (t:=e.1) (mvs l e.1) (fO l ns i) (j+1)).length_le
       rw[ni,ak,aI]at this
       omega
      ·have h3:¬((as'.map V.ref).length:Int)=300:=by simpa using h3
       rw[aa,ho8.len]at h3
       refine⟨_,rfl,_,rfl,by show 2<=sizeLine;decide,λtp ntp=>?_⟩
       have s9:=fB (o:=.tup [.ref b,.ref p1]) ntp
       have htp:=fC (H:=H8) (a:=tp) (o:=.tup [.ref b,.ref p1])
       have hs9:=hs8.same s9
       have ho9:=ho8.same s9
       have IS:=s9 _ _ hst
       have hb9:=s9 _ _ hb8
       have E9:=gd s9 Dh
       have S9:=S8.trans s9
       have sm9:=sm8.trans s9
       generalize upd H8 tp _=H9 at s9 htp hs9 ho9 IS hb9 E9 S9 sm9 ⊢
       have dl:((List.zip (gW e.1 ((mvs l e.1).take j) (fO l ns i)) vs').map λp=>(kyI p.1.1,p.2)).length<=300:=by rw[aa,cz];omega
       refine⟨_,rfl,_,rfl,d,_,rfl,Ah.t (k:=kyI m.2) hs9.at_ (by rw[ip];exact IS) (i7 (by omega)),?_⟩
       obtain⟨g1,g2⟩:=CK hs9 ho9 IS htp hb9 E9 hn
       have pd:p≠d:=gA ho9.at_ hs9.at_ (by intro z;cases z)
       have hp9:upd H9 d (.dT (putK ((List.zip (gW e.1 ((mvs l e.1).take j) (fO l ns i)) vs').map λp=>(kyI p.1.1,p.2)) (kyI m.2) (.ref tp))) p=some (.lst (as'.map V.ref)):=by rw[fG pd];exact ho9.at_
       refine⟨_,rfl,.inl ⟨rfl,_,SqL.of hp9⟩,_,rfl,p,_,_,rfl,rfl,hp9,i7 (by rw[aa,ho9.len];omega),?_⟩
       refine kN _ _ ⟨as' ++ [st],vs' ++ [.ref tp],_,_,_,rfl,fI.upd (fI.upd S9 nd0) np0,vt sm9,by rw[ni];exact g1,by rw[ni];exact g2,?_⟩
       rw[ni,ak,aI]
       omega
     ·have hn:m.2∈(gW e.1 ((mvs l e.1).take j) (fO l ns i)).map (·.1):=by simpa using hn
      have sO:gW e.1 ((mvs l e.1).take (j+1)) (fO l ns i)=gW e.1 ((mvs l e.1).take j) (fO l ns i):=by
       rw[oI];unfold m8;rw[aJ hn]
      exact kN _ _ ⟨as',vs',_,_,_,rfl,S8,sm8,by rw[sO];exact hs8,by rw[sO];exact ho8,by rw[sO];exact BY⟩
    ·rintro σ H7 ⟨as',vs',y7,y8,y9,rfl,S7,sm,hs7,ho7,BY⟩
     rw[<-EN,br,<-nh he]at hs7 ho7 BY
     have zE:=(pI l ns i).length_le
     refine kN1 _ _ ⟨i+1,as',vs',_,_,_,_,rfl,S7,hs7,ho7,by omega,BY⟩ ?_
     show(301-((i:Int)+1)).toNat<(301-(i:Int)).toNat
     omega
   ·have hlt:¬(i:Int)<((as.map V.ref).length:Int):=by simpa using hlt
    rw[aa,ho4.len]at hlt
    have e1:(fO l ns i).length=i:=by omega
    exact kB1 _ _ ⟨_,rfl,k1 i d vs H4 e1 (by omega) S4 nd0 hs4⟩
  ·rintro σ H Q Q' hq ⟨x,e1,y,e2,p',ys,e3,h4,i',j',e5,e6,c,e7,q⟩
   exact⟨x,e1,y,e2,p',ys,e3,h4,i',j',e5,e6,c,e7,hq _ _ q⟩
theorem zk (F:Fn K mg "lists_of" j8 ["standings"] f fd)(B:Bm mg):fV P w K mg base CX0 1 f fd ["standings"] (ue K):=by
 refine F.F.ok sQ (λvs H Q E h=>?_) (λcdv A outer s H vs Q E hr h=>?_)
 ·obtain⟨d,es,us,rfl,_⟩:=h;rfl
 ·obtain⟨d,es,us,rfl,hs,hl,k⟩:=h
  have hd:=hs.at_
  have kl:((es.zip us).map λp=>(kyI p.1.1,p.2)).length=es.length:=by rw[aa,cz,hs.len];omega
  have kat:∀ (i:Nat) (p:List Key×V),((es.zip us).map λp=>(kyI p.1.1,p.2))[i]? = some p->∃ t,(es.map (·.1))[i]? = some t/\p.1=kyI t:=λi p hp=>by
   have h1:(((es.zip us).map λp=>(kyI p.1.1,p.2)).map (·.1))[i]? = some p.1:=by rw[aj,hp];rfl
   rw[vd hs.len,aj]at h1
   cases q:es[i]? with
   |none=>rw[q]at h1;cases h1
   |some e=>rw[q]at h1;exact⟨e.1,by rw[aj,q];rfl,(aP h1).symm⟩
  generalize (es.zip us).map (λp=>(kyI p.1.1,p.2))=kvs at hd kl kat
  refine⟨_,(fH (fT (Av (lP (Bz (pv 0)) rfl lp (.name (by decide)) (λ_ _ _ _=>(fL (i:=0) lp.nd rfl (Or.inl rfl))) (λ_ _ _ _=>iq) (λ_ _ _ _=>(fZ (j4 (K:=K) rfl) rfl B.list cQ (fA (pv 0) fD))))))),?_⟩
  refine⟨d,kvs,hd,λo=>⟨_,rfl,d,o,kvs,rfl,fC,λq nq=>?_⟩⟩
  have qd:q≠d:=λz=>by subst z;rw[fC]at nq;cases nq
  have nq0:H q=none:=by rw[fG qd]at nq;exact nq
  have hf:=fC (H:=H) (a:=d) (o:=.frz o (.dT kvs))
  have hfo:∀ b,b≠d->upd H d (.frz o (.dT kvs)) b=H b:=λb hb=>fG hb
  generalize upd H d (.frz o (.dT kvs))=HF at nq hf hfo ⊢
  refine vc es.length (λi acc H'=>∃ bs:List Addr,acc=bs.map V.ref/\bs.length=i/\fI HF H'/\H' q=some (.lst acc)/\(∀ (j:Nat) b t,bs[j]? = some b->(es.map (·.1))[j]? = some t->HF b=none/\b≠q/\H' b=some (.lst (t.map V.int)))/\bs.Nodup)
   ⟨[],rfl,rfl,fB nq,fC,λj b t h=>by simp at h,by simp⟩ (λi acc H' hi ⟨_,_,_,sm,_⟩=>⟨sm _ _ hf,by rw[kl];exact hi⟩) (λacc H' ⟨_,_,_,sm,_⟩=>⟨sm _ _ hf,by rw[kl];exact au _⟩) ?_ ?_
  ·rintro i x acc H4 H5 hi ⟨bs,rfl,bl,sm,hq,ea,nd⟩ ⟨e5,b,p,hp,rfl,hb⟩
   subst e5
   obtain⟨t,ht,hpt⟩:=kat i p hp
   rw[hpt,ip]at hb
   refine jF ?_
   refine⟨_,rfl,b,_,rfl,.inr (SqT.of hb),λnb nnb=>?_⟩
   have s6:=fB (o:=.lst (t.map V.int)) nnb
   have nbq:nb≠q:=bI (fK hq nnb)
   refine⟨s6 _ _ hq,i7 (by rw[aa];omega),bs ++ [nb],by rw[aB];rfl,by rw[ak,bl];rfl,fI.upd (sm.trans s6) nq,fC,λj c u hc hu=>?_,?_⟩
   ·by_cases hj:j<bs.length
    ·rw[aq hj]at hc
     obtain⟨z1,z2,z3⟩:=ea j c u hc hu
     exact⟨z1,z2,by rw[fG z2];exact s6 _ _ z3⟩
    ·have hj2:j=bs.length:=by
      have:=(af.mp hc).1
      rw[ak,aI]at this
      omega
     rw[hj2,az (au _),bu]at hc
     cases hc
     rw[hj2,bl,ht]at hu
     cases hu
     exact⟨fI.free sm nnb,nbq,by rw[fG nbq];exact fC⟩
   ·rw[bQ]
    refine⟨nd,by simp,λx hx y hy=>?_⟩
    have hy:y=nb:=by simpa using hy
    subst hy
    obtain⟨j,hj,e⟩:=bj.mp hx
    have hje:j<(es.map (·.1)).length:=by rw[aa];omega
    obtain⟨_,_,z3⟩:=ea j x ((es.map (·.1))[j]'hje) (by rw[ah hj,e]) (ah _)
    exact fK z3 nnb
  ·rintro acc H' ⟨bs,rfl,bl,sm,hq,ea,nd⟩
   refine⟨sm _ _ hf,k q bs _ ⟨λb u h=>?_,nq0,by rw[fG qd];exact hq,by rw[aa];exact bl,λj b t hb ht=>?_,nd⟩⟩
   ·by_cases e:b=d
    ·subst e;rw[fC,<-hd];exact h
    ·rw[fG e];exact sm _ _ (by rw[hfo b e];exact h)
   ·obtain⟨z1,z2,z3⟩:=ea j b t hb ht
    have bd:b≠d:=λe=>by subst e;rw[hf]at z1;cases z1
    exact⟨by rw[<-hfo b bd];exact z1,z2,by rw[fG bd];exact z3⟩
theorem se (F:Fn K mg "run_back_from" iU ["steps","goal"] f fd):fV P w K mg base CX0 1 f fd ["steps","goal"] (Br K):=by
 refine F.F.ok gC (λvs H Q E h=>?_) (λcdv A outer s H vs Q E hr h=>?_)
 ·obtain⟨d,g,es,us,t,rfl,_⟩:=h;rfl
 ·obtain⟨d,g,es,us,t,rfl,hs,hg,ht,bk,nd,hl,k⟩:=h
  refine⟨_,(fE (fR (i:=2) gC.nd rfl (Or.inl rfl) (iH fD))
 (fE (fR (i:=3) gC.nd rfl (Or.inl rfl) (lg (jI hr) (pv 0) (pv 1) (λ_ _=>rfl)))
 (fE (nz aV (gB (qX (pv 3)))
 (fE (rY (pv 3) (ie (n:=2) rfl (fN (fL (i:=4) gC.nd rfl (Or.inl rfl)) (fN (fL (i:=5) gC.nd rfl (Or.inl rfl)) gP))))
 (fE (gN (gB (qX (pv 5)))
 (fH (g7 (kF aH bf bc ir (pv 2) (fA (pv 5) fD)))) fY)
 (fH (fR (i:=3) gC.nd rfl (Or.inl rfl) (lg (jI hr) (pv 0) (pv 4) (λ_ _=>rfl)))))))
 (fE (g7 (uH aH PySem.F.slot_list_reverse PySem.F.type_list_reverse uW (pv 2)))
 (fH (fT (pv 2))))))),?_⟩
  refine⟨aK _,λp np=>?_⟩
  have s1:=fB (o:=.lst []) np
  have hp1:=fC (H:=H) (a:=p) (o:=.lst [])
  generalize upd H p _=H1 at s1 hp1 ⊢
  obtain⟨e0,he0,rfl⟩:=ao.mp ht
  obtain⟨j0,hj0,ej0⟩:=bj.mp he0
  have Fd:es[j0]? = some e0:=by rw[ah hj0,ej0]
  have uat:∀ j,j<es.length->∃ v,us[j]? = some v:=λj hj=>⟨us[j]'(by rw[hs.len];exact hj),ah _⟩
  obtain⟨v0,hv0⟩:=uat j0 hj0
  have hs1:=hs.same s1
  refine⟨_,rfl,_,rfl,d,v0,rfl,by rw[<-hs1.get nd Fd hv0];exact pF.t (k:=kyI e0.1) hs1.at_ (by rw[ip];exact s1 _ _ hg),?_⟩
  refine yD (λn σ H3=>∃ (e:Ent) (sv:V) (rr:List (Str×Int)) (vs:List V) (x4 x5:Option V),σ = [some (.ref d),some (.ref g),some (.ref p),some sv,x4,x5]/\es[n]? = some e/\us[n]? = some sv/\fI H H3/\H3 p=some (.lst vs)/\Das K (hid p H3) (rr.map dM) vs/\
    (∀ k∈rr,PyData.strOk k.1=true)/\rr.length+n<=es.length/\∀ r,oy es e.1 r->oy es e0.1 (r++rr.reverse))
   j0 ⟨e0,v0,[],[],none,none,rfl,Fd,hv0,s1,hp1,gS.mpr rfl,(λk hk=>by cases hk),by simp;omega,λr hr=>by simpa using hr⟩ ?_ ?_
  ·rintro n σ H3 ⟨e,sv,rr,vs,x4,x5,rfl,hn,hsv,S3,hp3,D3,okr,ln,PT⟩
   have hs3:=hs.same S3
   have sv3:=hs3.each n e sv hn hsv
   have vl:vs.length=rr.length:=by have:=Dgs.length D3;rw[aa]at this;exact this
   refine⟨_,rfl,_,rfl,gT (λhb=>?_) (λhb=>?_)⟩
   ·obtain⟨t',o'⟩:=e
    cases o' with
    |none=>
     have z:sv = .non:=sv3
     rw[z]at hb
     exact absurd hb (by decide)
    |some tk=>
     obtain⟨t1,k1⟩:=tk
     obtain⟨a,b,c,rfl,ha,hb1,hc⟩:=sv3
     refine⟨_,rfl,a,_,rfl,SqT.of ha,rfl,_,_,rfl,_,_,rfl,rfl,?_⟩
     refine⟨_,rfl,_,rfl,vg ?_⟩
     refine⟨_,rfl,.inl ⟨rfl,_,SqL.of hp3⟩,_,rfl,p,_,_,rfl,rfl,hp3,i7 (by omega),?_⟩
     obtain⟨i,e1,hi,he1,rfl⟩:=bk.back n t' t1 k1 hn
     have hlt:=(af.mp he1).1
     obtain⟨v1,hv1⟩:=uat i hlt
     have dp:d≠p:=gA hs3.at_ hp3 (by intro z;cases z)
     have bp:b≠p:=gA hb1 hp3 (by intro z;cases z)
     have S4:=fI.upd (o:=.lst (vs ++ [V.ref c])) S3 np
     have hs4:=hs.same S4
     refine⟨_,rfl,_,rfl,d,v1,rfl,by rw[<-hs4.get nd he1 hv1];exact pF.t (k:=kyI e1.1) hs4.at_ (by rw[ip,fG bp];exact hb1),?_⟩
     refine⟨i,hi,e1,v1,rr ++ [k1],vs ++ [V.ref c],_,_,rfl,he1,hv1,S4,fC,?_,λk' hk'=>?_,by rw[ak,aI];omega,λr hr=>?_⟩
     ·rw[pY,aB]
      exact Dgs.append D3 (Dgs.one (Fx (tO hp3 hc)))
     ·rcases aF.mp hk' with z |z
      ·exact okr k' z
      ·have z:k'=k1:=by simpa using z
       rw[z];exact bk.ok n t' e1.1 k1 hn
     ·have:=PT (r ++ [k1]) (.snoc (av hn) hr)
      rw[List.reverse_append,df,List.reverse_nil,List.nil_append]
      rw[fm]at this
      exact this
   ·obtain⟨t',o'⟩:=e
    cases o' with
    |some tk=>
     obtain⟨t1,k1⟩:=tk
     obtain⟨a,b,c,rfl,ha,hb1,hc⟩:=sv3
     exact absurd rfl hb
    |none=>
     refine⟨_,rfl,.inl ⟨rfl,_,SqL.of hp3⟩,p,_,rfl,rfl,hp3,?_⟩
     refine⟨_,rfl,k p rr.reverse _ (fI.upd S3 np) np ⟨⟨_,fC,?_⟩,λk' hk'=>okr k' (by simpa using hk')⟩ ?_⟩
     ·rw[pY,fx]
      exact Dgs.rev D3
     ·have:=PT [] (.nil (av hn))
      simpa using this
  ·rintro σ H Q Q' hq ⟨x,e1,c,e2,q⟩
   exact⟨x,e1,c,e2,hq _ _ q⟩
end
def Bg (K:PySem.W.Frag):Sp:=λvs H Q _=>∃ (d:Addr) (es:List Ent) (us:List V),vs = [.ref d]/\mI K H d es us/\oD es/\(es.map (·.1)).Nodup/\es.length<=5000000/\∀ q us' H',fI H H'->tu H H' q (gi es) us'->Q (.ref q) H'
abbrev kr:Stmt:=top 24
theorem kX:gj ["steps","numbers","standing","step"] ["steps"] (fJ kr):=⟨rfl,rfl,rfl,by decide +kernel,rfl,by decide +kernel,by decide +kernel⟩
theorem lI:gH (fJ kr) ["steps","numbers","standing","step"] {kind:=.function,names:=[(Str.ofString ".0",.local),(Str.ofString "standing",.local),(Str.ofString "number",.local),(Str.ofString "list",.globalImplicit)],isGenerator:=false,isCoroutine:=false,more:=[]} ["standing","number"] 2 [none,none]:=⟨rfl,by decide +kernel,by decide +kernel,by decide +kernel,rfl,by decide +kernel,rfl,by decide +kernel⟩
section
variable {P:Program}{w:World}{K:PySem.W.Frag}{mg:Str->Option Value}{base:Heap}{f:Addr}{fd:FuncData}
theorem v9 (F:Fn K mg "numbers_of" kr ["steps"] f fd)(B:Bm mg):fV P w K mg base CX0 1 f fd ["steps"] (Bg K):=by
 refine F.F.ok kX (λvs H Q E h=>?_) (λcdv A outer s H vs Q E hr h=>?_)
 ·obtain⟨d,es,us,rfl,_⟩:=h;rfl
 ·obtain⟨d,es,us,rfl,hs,bk,nd,hl,k⟩:=h
  have hd:=hs.at_
  have kl:((es.zip us).map λp=>(kyI p.1.1,p.2)).length=es.length:=by rw[aa,cz,hs.len];omega
  have kat:∀ (i:Nat) (p:List Key×V),((es.zip us).map λp=>(kyI p.1.1,p.2))[i]? = some p->∃ e,es[i]? = some e/\p.1=kyI e.1/\mH K H e p.2:=λi p hp=>by
   rw[aj]at hp
   cases q:(es.zip us)[i]? with
   |none=>rw[q]at hp;cases hp
   |some r=>
    rw[q]at hp
    cases hp
    obtain⟨h1,h2⟩:=dD.mp (show(es.zip us)[i]? = some (r.1,r.2) from q)
    exact⟨r.1,h1,rfl,hs.each i _ _ h1 h2⟩
  generalize (es.zip us).map (λp=>(kyI p.1.1,p.2))=kvs at hd kl kat
  refine⟨_,(fE (fR (i:=1) kX.nd rfl (Or.inl rfl) zf)
 (fE (Ib (iL aV rfl (zb (pv 0)) (ie (n:=2) rfl (fN (fL (i:=2) kX.nd rfl (Or.inl rfl)) (fN (fL (i:=3) kX.nd rfl (Or.inl rfl)) gP)))
 (fH (tK (jI hr) (pv 1) (pv 2) (ze (gB (Ik (pv 3))) fF (fX i9 (lg (jI hr) (pv 1) (gq gD (pv 3) fF (λ_ _=>rfl)) (λ_ _=>rfl)) fF)) rfl))))
 (fH (fT (Av (lP (zb (pv 1)) rfl lI (.tup (.cons (.name (by decide)) (.cons (.name (by decide)) .nil))) (λ_ _ _ _=>(ie (n:=2) rfl (fN (fL (i:=0) lI.nd rfl (Or.inl rfl)) (fN (fL (i:=1) lI.nd rfl (Or.inl rfl)) gP)))) (λ_ _ _ _=>iq) (λ_ _ _ _=>(gy (fA (fZ (j4 (K:=K) rfl) rfl B.list cQ (fA (pv 0) fD)) (fA (pv 1) fD)))))))))),?_⟩
  refine λn nn=>?_
  have nd_:n≠d:=λz=>by subst z;rw[hd]at nn;cases nn
  refine⟨d,kvs,by rw[fG (bI nd_)];exact hd,λo=>⟨_,rfl,d,o,kvs,rfl,fC,?_⟩⟩
  rw[DR nd_]
  have hf:=fC (H:=H) (a:=d) (o:=.frz o (.dT kvs))
  have hfo:∀ b,b≠d->upd H d (.frz o (.dT kvs)) b=H b:=λb hb=>fG hb
  have st0:∀ (i:Nat) (p:List Key×V),kvs[i]? = some p->∃ e,es[i]? = some e/\p.1=kyI e.1/\mH K (upd H d (.frz o (.dT kvs))) e p.2:=λi p hp=>by
   obtain⟨e,h1,h2,h3⟩:=kat i p hp
   exact⟨e,h1,h2,h3.Jy hd⟩
  have nnF:upd H d (.frz o (.dT kvs)) n=none:=by rw[fG nd_];exact nn
  generalize upd H d (.frz o (.dT kvs))=HF at hf hfo st0 nnF ⊢
  refine GQ es.length (λi σ H3=>∃ (x2 x3:Option V),σ = [some (.ref d),some (.ref n),x2,x3]/\fI HF H3/\H3 n=some (.dT (kvR (gi (es.take i)))))
   ⟨none,none,rfl,fB nnF,fC⟩ (λi σ H3 hi ⟨_,_,_,sm,_⟩=>⟨sm _ _ hf,by rw[kl];exact hi⟩) (λσ H3 ⟨_,_,_,sm,_⟩=>⟨sm _ _ hf,by rw[kl];exact au _⟩) ?_ ?_
  ·rintro i x σ H4 H5 hi ⟨x2,x3,rfl,S4,N4⟩ ⟨p,b,kv,np,rfl,hkv,hb,rfl⟩
   obtain⟨e,he,hk,hst⟩:=st0 i kv hkv
   rw[hk,ip]at hb
   have s5:=fB (o:=.tup [.ref b,kv.2]) np
   have hp5:=fC (H:=H4) (a:=p) (o:=.tup [.ref b,kv.2])
   have N5:=s5 _ _ N4
   have S5:=S4.trans s5
   have hb5:=s5 _ _ hb
   generalize upd H4 p _=H5 at s5 hp5 N5 S5 hb5 ⊢
   have st5:=hst.same S5
   have rl:(gi (es.take i)).length=i:=by rw[ke,aT];omega
   refine⟨p,_,rfl,SqT.of hp5,rfl,_,_,rfl,_,_,rfl,rfl,?_⟩
   have vp:e.1∉(gi (es.take i)).map (·.1):=by
    rw[iQ]
    intro hm
    obtain⟨e',hm,hk⟩:=ao.mp hm
    obtain⟨j,hj,ej⟩:=bj.mp hm
    rw[aT]at hj
    rw[fk]at ej
    obtain⟨hi,ei⟩:=af.mp he
    have h2:(es.map (·.1))[j]'(by rw[aa];omega)=(es.map (·.1))[i]'(by rw[aa];omega):=by
     rw[cu,cu,ej,ei]
     exact hk
    have:=(cG nd).mp h2
    omega
   have yg:jK (kvR (gi (es.take i))) (kyI e.1)=none:=by
    rw[tN]
    cases q:iz (gi (es.take i)) e.1 with
    |none=>rfl
    |some z=>exact absurd (ao.mpr ⟨_,ka q,rfl⟩) vp
   have fin:∀ z:Int,z=uU (gi (es.take i)) e->∃ a H4,(V.ref n) = .ref a/\Ah H5 a (.ref b) (.int z) H4/\∃ (x2 x3:Option V),[some (V.ref d),some (.ref n),some (.ref b),some kv.2] = [some (.ref d),some (.ref n),x2,x3]/\fI HF H4/\H4 n=some (.dT (kvR (gi (es.take (i+1))))):=λz hz=>
    ⟨n,_,rfl,.inr ⟨_,kyI e.1,b,N5,rfl,by rw[ip];exact hb5,i7 (by unfold kvR;rw[aa];omega),rfl⟩,_,_,rfl,fI.upd S5 nnF,by
     rw[fC,oN _ yg,bh,he,hz]
     show _=some (HO.dT (kvR (gi (es.take i ++ [e]))))
     rw[mx]
     unfold kvR
     rw[aB]
     rfl⟩
   refine⟨_,rfl,_,rfl,gT (λhh=>?_) (λhh=>?_)⟩
   ·refine⟨_,rfl,_,rfl,fin _ ?_⟩
    obtain⟨t',o'⟩:=e
    cases o' with
    |none=>rfl
    |some tk=>
     exfalso
     obtain⟨t1,k1⟩:=tk
     obtain⟨a,b1,c,I0,_⟩:=st5
     rw[I0]at hh
     exact absurd (of_decide_eq_true hh) (by intro z;cases z)
   ·obtain⟨t',o'⟩:=e
    cases o' with
    |none=>
     have z:kv.2 = .non:=st5
     rw[z]at hh
     exact absurd rfl hh
    |some tk=>
     obtain⟨t1,k1⟩:=tk
     obtain⟨a,b1,c,I0,ha,hb1,hc⟩:=st5
     obtain⟨j,e1,hj,he1,rfl⟩:=bk.back i t' t1 k1 he
     obtain⟨z,hz⟩:=uZ (rows:=gi (es.take i)) (t:=e1.1) (by
      rw[iQ]
      exact ao.mpr ⟨e1,av (by rw[List.getElem?_take,aJ hj];exact he1),rfl⟩)
     refine⟨_,rfl,_,rfl,a,_,_,_,I0,rfl,SqT.of ha,rfl,n,V.int z,rfl,?_,_,_,rfl,rfl,?_⟩
     ·have g:=pF.t (k:=kyI e1.1) N5 (by rw[ip];exact hb1)
      rw[tN,hz]at g
      exact g
     ·refine⟨_,rfl,_,rfl,fin _ ?_⟩
      show z+1=(iz (gi (es.take i)) e1.1).getD 0+1
      rw[hz];rfl
  ·rintro σ H3 ⟨x2,x3,rfl,S3,N3⟩
   rw[br]at N3
   refine⟨S3 _ _ hf,?_⟩
   have S4:fI H (upd H3 d (.dT kvs)):=λb u h=>by
    by_cases e:b=d
    ·subst e;rw[fC,<-hd];exact h
    ·rw[fG e];exact S3 _ _ (by rw[hfo b e];exact h)
   have hn4:upd H3 d (.dT kvs) n=some (.dT (kvR (gi es))):=by rw[fG nd_];exact N3
   have nl:(kvR (gi es)).length=es.length:=by unfold kvR;rw[aa,ke]
   generalize upd H3 d (.dT kvs)=H4 at S4 hn4 ⊢
   refine⟨n,_,hn4,λo2=>⟨_,rfl,n,o2,_,rfl,fC,λq nq=>?_⟩⟩
   have S5:=fI.upd (o:=.frz o2 (.dT (kvR (gi es)))) S4 nn
   have hf5:=fC (H:=H4) (a:=n) (o:=.frz o2 (.dT (kvR (gi es))))
   generalize upd H4 n (.frz o2 (.dT (kvR (gi es))))=H5 at nq S5 hf5 ⊢
   have hqn:q≠n:=λe=>by rw[e,hf5]at nq;cases nq
   refine EW es.length (gi es) (mJ H) (λr v=>mJ.mono r v) nq (ke es).symm (i7 (by omega)) (λi H' sm hi=>⟨sm _ _ hf5,by rw[nl];exact hi⟩) (λH' sm=>⟨sm _ _ hf5,by rw[nl];exact au _⟩) ?_ ?_
   ·rintro i x r H6 H7 sm ⟨acc,hq⟩ ⟨p,b,kv,np,rfl,hkv,hb,rfl⟩ hr P1 P0 kk
    have ekv:kv=(kyI r.1,V.int r.2):=by
     unfold kvR at hkv
     rw[aj,hr]at hkv
     exact(aP hkv).symm
    subst ekv
    have hb:_=some (HO.tup ((kyI r.1).map kV)):=hb
    rw[ip]at hb
    have s7:=fB (o:=.tup [.ref b,.int r.2]) np
    have hp7:=fC (H:=H6) (a:=p) (o:=.tup [.ref b,.int r.2])
    have hb7:=s7 _ _ hb
    have hq7:=s7 _ _ hq
    have S7:=sm.trans s7
    dsimp only at hp7 ⊢
    generalize upd H6 p _=H7 at s7 hp7 hb7 hq7 S7 ⊢
    refine⟨p,_,rfl,SqT.of hp7,rfl,_,_,rfl,_,_,rfl,rfl,?_⟩
    refine DU ?_
    refine⟨_,rfl,b,_,rfl,.inr (SqT.of hb7),λnb nnb=>?_⟩
    have s8:=fB (o:=.lst (r.1.map V.int)) nnb
    refine⟨_,rfl,by show 2<=sizeLine;decide,λnt nnt=>kk _ _ (s7.trans (s8.trans (fB nnt))) ?_⟩
    have nbq:nb≠q:=(fK hq7 nnb).symm
    have ntq:nt≠q:=(fK (s8 _ _ hq7) nnt).symm
    exact⟨nt,nb,rfl,by rw[gY ntq,fC],by rw[gY nbq];exact fB nnt _ _ fC,fI.free (S5.trans S7) nnb⟩
   ·intro vs8 H8 sm h8 D8
    refine⟨sm _ _ hf5,k q vs8 _ (fI.upd (S5.trans sm) nn) ?_⟩
    refine⟨by rw[fG hqn];exact h8,fI.free S5 nq,?_⟩
    have hh:hid q (upd H8 n (.dT (kvR (gi es))))=upd (hid q H8) n (.dT (kvR (gi es))):=by
     funext c
     by_cases e1:c=q
     ·subst e1;rw[jY,fG hqn,jY]
     ·rw[gY e1]
      by_cases e2:c=n
      ·subst e2;rw[fC,fC]
      ·rw[fG e2,fG e2,gY e1]
    rw[hh]
    exact D8.imp λr v=>mJ.LH r v (by rw[gY (bI hqn)];exact sm _ _ hf5)
end
theorem lT.post {H H' H'':Hp}{p:Addr}{bs:List Addr}{ts:List (List Int)}(s:fI H' H'')(h:lT H H' p bs ts):lT H H'' p bs ts:=
 ⟨h.same.trans s,h.new,s _ _ h.at_,h.len,λi b t h1 h2=>⟨(h.each i b t h1 h2).1,(h.each i b t h1 h2).2.1,s _ _ (h.each i b t h1 h2).2.2⟩,h.nd⟩
def gOk (l:Ln)(ns gs:List Int):Prop:=isT l gs/\gs.length=ns.length
def xE (K:PySem.W.Frag)(c2:Addr):Sp:=λvs H Q E=>∃ (v u g:V) (l:Ln) (ns gs:List Int),vs = [v,u,g]/\Da K H (dL l) v/\Da K H (dI ns) u/\Da K H (dI gs) g/\gv l/\gs.length<=900/\
 (gOk l ns gs->∀ H',fI H H'->Q .non H')/\(¬gOk l ns gs->∀ H',fI H H'->∀ e,H' e=none->E (.ref c2) (some e) H')
structure LA (K:PySem.W.Frag)(c2 c5:Addr)(l:Ln)(ns gs:List Int)(H:Hp)(Q:VK)(E:XK):Prop where
 bad:¬gOk l ns gs->∀ H',fI H H'->∀ e,H' e=none->E (.ref c2) (some e) H'
 many:gOk l ns gs->(∃ i,300<(fO l ns i).length)->∀ H',fI H H'->∀ e,H' e=none->E (.ref c5) (some e) H'
 no:gOk l ns gs->∀ i,(fO l ns i).length=i->i<=300->gs∉(fO l ns i).map (·.1)->∀ r q bs H',lT H H' q bs ((fO l ns i).map (·.1))->H' r=some (.tup [.str "none",.ref q])->H r=none->Q (.ref r) H'
 yes:gOk l ns gs->∀ i,(fO l ns i).length=i->i<=300->gs∈(fO l ns i).map (·.1)->∀ r q1 run q2 us H',fI H H'->rL K H' q1 run->H q1=none->oy (fO l ns i) gs run->tu H H' q2 (gi (fO l ns i)) us->q1≠q2->H' r=some (.tup [.str "run",.ref q1,.ref q2])->H r=none->Q (.ref r) H'
def yP (K:PySem.W.Frag)(c2 c5:Addr):Sp:=λvs H Q E=>∃ (v u g:V) (l:Ln) (ns gs:List Int),vs = [v,u,g]/\Da K H (dL l) v/\Da K H (dI ns) u/\Da K H (dI gs) g/\gv l/\ns≠ []/\ns.length<=900/\jm l ns/\gs.length<=900/\LA K c2 c5 l ns gs H Q E
abbrev ku:Stmt:=top 20
theorem v5:gj ["line","train","goal"] ["line","train","goal"] (fJ ku):=⟨rfl,rfl,rfl,by decide +kernel,rfl,by decide +kernel,by decide +kernel⟩
abbrev tJ:Stmt:=top 25
theorem uq:gj ["line","train","goal","steps","aim"] ["line","train","goal"] (fJ tJ):=⟨rfl,rfl,rfl,by decide +kernel,rfl,by decide +kernel,by decide +kernel⟩
section
variable {P:Program}{w:World}{K:PySem.W.Frag}{mg:Str->Option Value}{base:Heap}{f:Addr}{fd:FuncData}{c2 c5:Addr}
theorem wb {f1:Addr}{fd1:FuncData}(F:Fn K mg "check_goal" ku ["line","train","goal"] f fd)(XS:Xr K mg c2)(B:Bm mg)
  (hG:Fn K mg "check_train" jr ["line","train"] f1 fd1) (ju:fV P w K mg base (CXr P w base) 2 f1 fd1 ["line","train"] (ug K c2)):fV P w K mg base (CXr P w base) 3 f fd ["line","train","goal"] (xE K c2):=by
 refine F.F.okX v5 (λvs H Q E h=>?_) (λcdv A outer s H vs Q E hr h=>?_)
 ·obtain⟨v,u,g,l,ns,gs,rfl,_⟩:=h;rfl
 ·obtain⟨v,u,g,l,ns,gs,rfl,hv,hu,hg,ok,gl,k1,k2⟩:=h
  obtain⟨a,rfl,ha⟩:=ij.mp hu
  obtain⟨b,rfl,hb⟩:=ij.mp hg
  refine⟨_,(fE (g7 (fM ju (hr.mono (by decide)) rfl hG.m hG.F.kp hG.b .nil nE (fA (pv 0) (fA (pv 2) fD))))
 (fH (gN (gB (qv (fQ gh rfl B.len bT (fA (pv 2) fD)) (fQ gh rfl B.len bT (fA (pv 1) fD))))
 (fH (nA me rfl rfl XS.ji.m XS.ji.q cb (fA gK fD))) fY))),?_⟩
  refine⟨_,rfl,_,rfl,_,_,l,gs,rfl,hv,hg,ok,gl,λit H1 s1=>?_,λz H1 s1 e he=>k2 (λy=>z y.1) H1 s1 e he⟩
  refine⟨_,rfl,b,_,rfl,.inl (s1.seq hb),_,rfl,a,_,rfl,.inl (s1.seq ha),_,_,rfl,rfl,_,rfl,gT (λh=>?_) (λh=>?_)⟩
  ·have h:((gs.map V.int).length:Int)≠((ns.map V.int).length:Int):=by simpa using h
   rw[aa,aa]at h
   exact⟨by decide,λe he=>k2 (λz=>h (by rw[z.2])) H1 s1 e he⟩
  ·have h:((gs.map V.int).length:Int)=((ns.map V.int).length:Int):=by simpa using h
   rw[aa,aa]at h
   exact k1 ⟨it,by omega⟩ _ s1
theorem Ey {f1 f2 f3 f4 f5:Addr}{fd1 fd2 fd3 fd4 fd5:FuncData}(F:Fn K mg "least" tJ ["line","train","goal"] f fd)(B:Bm mg)
  (ik:Fn K mg "check_goal" ku ["line","train","goal"] f1 fd1) (jO:fV P w K mg base (CXr P w base) 3 f1 fd1 ["line","train","goal"] (xE K c2))
  (g9:Fn K mg "first_steps" jX ["line","train"] f2 fd2) (jt:fV P w K mg base (CXr P w base) 4 f2 fd2 ["line","train"] (t8 K c5))
  (iK:Fn K mg "lists_of" j8 ["standings"] f3 fd3) (gI:Fn K mg "run_back_from" iU ["steps","goal"] f4 fd4) (jP:Fn K mg "numbers_of" kr ["steps"] f5 fd5):
  fV P w K mg base (CXr P w base) 5 f fd ["line","train","goal"] (yP K c2 c5):=by
 have qD:fV P w K mg base CX0 1 f3 fd3 ["standings"] (ue K):=zk iK B
 have lM:fV P w K mg base CX0 1 f4 fd4 ["steps","goal"] (Br K):=se gI
 have yB:fV P w K mg base CX0 1 f5 fd5 ["steps"] (Bg K):=v9 jP B
 refine F.F.okX uq (λvs H Q E h=>?_) (λcdv A outer s H vs Q E hr h=>?_)
 ·obtain⟨v,u,g,l,ns,gs,rfl,_⟩:=h;rfl
 ·obtain⟨v,u,g,l,ns,gs,rfl,hv,hu,hg,ok,hne,hz,T,gl,k⟩:=h
  obtain⟨b,rfl,hb⟩:=ij.mp hg
  refine⟨_,(fE (g7 (fM jO (hr.mono (by decide)) rfl ik.m ik.F.kp ik.b .nil nE (fA (pv 0) (fA (pv 1) (fA (pv 2) fD)))))
 (fE (fR (i:=3) uq.nd rfl (Or.inl rfl) (fM jt (hr.mono (by decide)) rfl g9.m g9.F.kp g9.b .nil nE (fA (pv 0) (fA (pv 1) fD))))
 (fE (fR (i:=4) uq.nd rfl (Or.inl rfl) (fZ gw rfl B.tuple bV (fA (pv 2) fD)))
 (fE (gN (gB (pT (jI hr) (pv 4) (pv 3)))
 (fH (fT (gy (fA gK (fA (fM qD (hr.mono (by decide)) rfl iK.m iK.F.kp iK.b .nil gu (fA (pv 3) fD)) fD))))) fY)
 (fH (fT (gy (fA gK (fA (fM lM (hr.mono (by decide)) rfl gI.m gI.F.kp gI.b .nil gu (fA (pv 3) (fA (pv 4) fD))) (fA (fM yB (hr.mono (by decide)) rfl jP.m jP.F.kp jP.b .nil gu (fA (pv 3) fD)) fD)))))))))),?_⟩
  refine⟨_,rfl,_,rfl,_,rfl,_,_,_,l,ns,gs,rfl,hv,hu,hg,ok,gl,λgo H1 s1=>?_,λgo H1 s1 e he=>k.bad go H1 s1 e he⟩
  refine⟨_,rfl,_,rfl,_,_,l,ns,rfl,Da.same s1 hv,Da.same s1 hu,ok,hne,hz,T,λi d us H2 hi Df s2 nd hs2=>?_,λz H2 s2 e he=>k.many go z H2 (s1.trans s2) e he⟩
  have E2:=jd ok T hne i
  have S2:=s1.trans s2
  refine⟨_,rfl,b,_,rfl,.inl ⟨S2.seq hb,λt nt=>?_⟩⟩
  have s3:=fB (o:=.tup (gs.map V.int)) nt
  have ht:=fC (H:=H2) (a:=t) (o:=.tup (gs.map V.int))
  have hs3:=hs2.same s3
  have S3:=S2.trans s3
  generalize upd H2 t _=H3 at s3 ht hs3 S3 ⊢
  refine⟨_,rfl,_,rfl,d,_,rfl,pF.t (k:=kyI gs) hs3.at_ (by rw[ip];exact ht),_,rfl,?_⟩
  rw[hs3.mem gs]
  refine gT (λhn=>?_) (λhn=>?_)
  ·have hn:gs∉(fO l ns i).map (·.1):=by simpa using hn
   refine⟨_,rfl,d,_,_,rfl,hs3,by omega,λq bs H4 FR=>⟨by show 2<=sizeLine;decide,λr nr=>?_⟩⟩
   have s5:=fB (o:=.tup [.str "none",.ref q]) nr
   exact k.no go i hi Df hn r q bs _ (lT.post s5 (FR.pre S3)) fC (fI.free (S3.trans FR.same) nr)
  ·have hn:gs∈(fO l ns i).map (·.1):=by simpa using hn
   refine⟨_,rfl,_,rfl,d,t,_,_,gs,rfl,hs3,ht,hn,pJ l ns i,E2.nd,by omega,λq run H4 s4 nq ra pt=>?_⟩
   refine⟨_,rfl,d,_,_,rfl,hs3.same s4,pJ l ns i,E2.nd,by omega,λq2 us2 H5 s5 R5=>⟨by show 3<=sizeLine;decide,λr nr=>?_⟩⟩
   have s6:=fB (o:=.tup [.str "run",.ref q,.ref q2]) nr
   have hqq:q≠q2:=by
    obtain⟨vs,h1,_⟩:=ra.ex
    exact fK h1 R5.new
   exact k.yes go i hi Df hn r q run q2 us2 _ (((S3.trans s4).trans s5).trans s6) (ra.same (s5.trans s6)) (fI.free S3 nq) pt ((R5.same s6).pre (S3.trans s4)) hqq fC (fI.free ((S3.trans s4).trans s5) nr)
end
def yJ (l:Ln)(s:Sta):Prop:=jm l s.1/\s.1≠ []/\s.1.length<=900
theorem yJ.step {l:Ln}(ok:gv l){s:Sta}{m:Mv}(h:yJ l s)(hm:m∈mvs l s.1):yJ l (m.2,s.2):=by
 obtain⟨h1,h2,h3⟩:=AG ok h.1 h.2.1 hm
 exact⟨h1,h3,by rw[h2];exact h.2.2⟩
theorem DY {P:Program}{w:World}{K:PySem.W.Frag}{H:Hp}{d b:Addr}{kvs:KvN}{xs:List V}(hd:H d=some (nD P w d kvs))(h:SqL K H b xs):SqL K (hid d H) b xs:=by
 rcases h with(h |⟨o,h⟩)|h
 ·exact .inl (.inl (by rw[gY (gA h hd (λz=>nomatch z))];exact h))
 ·exact .inl (.inr ⟨o,by rw[gY (gA h hd (λz=>nomatch z))];exact h⟩)
 ·exact .inr h
theorem yM {P:Program}{w:World}{K:PySem.W.Frag}{H:Hp}{d b:Addr}{kvs:KvN}{xs:List V}(hd:H d=some (nD P w d kvs))(h:SqT K H b xs):SqT K (hid d H) b xs:=by
 rcases h with(h |⟨o,h⟩)|h
 ·exact .inl (.inl (by rw[gY (gA h hd (λz=>nomatch z))];exact h))
 ·exact .inl (.inr ⟨o,by rw[gY (gA h hd (λz=>nomatch z))];exact h⟩)
 ·exact .inr h
theorem GW {P:Program}{w:World}{K:PySem.W.Frag}{H:Hp}{d:Addr}{kvs:KvN}{x:PyData}{v:V}(hd:H d=some (nD P w d kvs))(h:Da K H x v):Da K (hid d H) x v:=Dg.mono (λ_ _ q=>DY hd q) (λ_ _ q=>yM hd q) h
theorem CU {P:Program}{w:World}{H:Hp}{d c:Addr}{kvs:KvN}{k:SK}(hd:H d=some (nD P w d kvs))(h:jN H c k):jN (hid d H) c k:=h.kD λb ys q=>by rw[gY (gA q hd (λz=>nomatch z))];exact q
theorem StN.list {P:Program}{w:World}{K:PySem.W.Frag}{H:Hp}{d p:Addr}{es:List EnS}{cs:List Addr}{us xs ys:List V}(h:StN P w K H d es cs us)(hp:H p=some (.lst xs)):StN P w K (upd H p (.lst ys)) d es cs us:=by
 have pd:d≠p:=gA h.dn.at_ hp (λz=>nomatch z)
 have f:∀ b zs,H b=some (.tup zs)->(upd H p (.lst ys)) b=some (.tup zs):=λb zs q=>by rw[fG (gA q hp (λz=>nomatch z))];exact q
 refine⟨⟨by rw[fG pd];exact h.dn.at_,λq hq=>(h.dn.keys q hq).kD f⟩,h.lc,h.lv,λi e v h1 h2=>(h.each i e v h1 h2).to f λb zs q=>lU hp q⟩
def Bp (P:Program)(w:World)(K:PySem.W.Frag):Sp:=λvs H Q _=>∃ (v:V) (p d:Addr) (l:Ln) (es:List EnS) (cs:List Addr) (us:List V) (ss:List Sta) (as:List Addr),vs = [v,.ref p,.ref d]/\Da K H (dL l) v/\StL H p as ss/\StN P w K H d es cs us/\gv l/\
 (∀ s∈ss,yJ l s)/\(∀ i,(goS l (es,ss) i).2.length<=1000/\(goS l (es,ss) i).1.length<=1000)/\
 ∀ i q as' cs' us' H',(goS l (es,ss) i).2.length=i->fI (hid d H) H'->H q=none->StL H' q as' (goS l (es,ss) i).2->StN P w K H' d (goS l (es,ss) i).1 cs' us'->Q (.ref q) H'
def at4 (σ:L2.St)(_:Hp):Nat:=match (σ[4]? :Option (Option V))with
 |some (some (V.int i))=>(1001-i).toNat
 |_=>0
abbrev pO:Stmt:=top 30
theorem je:gj ["line","states","steps","found","at","standing","word","move","behind","state"] ["line","states","steps"] (fJ pO):=⟨rfl,rfl,rfl,by decide +kernel,rfl,by decide +kernel,by decide +kernel⟩
section
variable {P:Program}{w:World}{K:PySem.W.Frag}{mg:Str->Option Value}{base:Heap}{f:Addr}{fd:FuncData}
theorem AA {f1:Addr}{fd1:FuncData}(F:Fn K mg "gone_on" pO ["line","states","steps"] f fd)(B:Bm mg)(gZ:Fn K mg "moves_of" kI ["line","train"] f1 fd1)
  (jk:fV P w K mg base CX0 3 f1 fd1 ["line","train"] (lB K)):fV P w K mg base CX0 4 f fd ["line","states","steps"] (Bp P w K):=by
 refine F.F.ok je (λvs H Q E h=>?_) (λcdv A outer s H vs Q E hr h=>?_)
 ·obtain⟨v,p,d,l,es,cs,us,ss,as,rfl,_⟩:=h;rfl
 ·obtain⟨v,p0,d,l,es,cs,us,ss,as0,rfl,hv,hL,hN,ok,hss,hb,k⟩:=h
  have Hz:=tQ (l:=l) (P:=yJ l) (λs m h hm=>h.step ok hm) (x:=(es,ss)) hss
  generalize hgo:goS l (es,ss)=go at hb k Hz
  have go0:go 0=(es,ss):=by rw[<-hgo];rfl
  have AX:∀ {i s},(go i).2[i]? = some s->go (i+1)=g6 s.1 s.2 (mvs l s.1) (go i):=λ{i s} h=>by rw[<-hgo]at h ⊢;exact zO h
  refine⟨_,(fE (fR (i:=3) je.nd rfl (Or.inl rfl) (fZ iM rfl B.list cQ (fA (pv 1) fD)))
 (fE (fR (i:=4) je.nd rfl (Or.inl rfl) fF)
 (fE (nz aV (gB (qY (pv 4) (fQ gh rfl B.len bT (fA (pv 3) fD))))
 (fE (rY (gq hV (pv 3) (pv 4) (λ_ _=>rfl)) (ie (n:=2) rfl (fN (fL (i:=5) je.nd rfl (Or.inl rfl)) (fN (fL (i:=6) je.nd rfl (Or.inl rfl)) gP))))
 (fE (As (i:=4) je.nd rfl (Or.inl rfl) fF AQ)
 (fH (iL aV rfl (gz (fM jk (hr.mono (by decide)) rfl gZ.m gZ.F.kp gZ.b .nil gu (fA (pv 0) (fA (fZ iM rfl B.list cQ (fA (pv 5) fD)) fD)))) (ie (n:=2) rfl (fN (fL (i:=7) je.nd rfl (Or.inl rfl)) (fN (fL (i:=8) je.nd rfl (Or.inl rfl)) gP)))
 (fE (fR (i:=9) je.nd rfl (Or.inl rfl) (gy (fA (fZ gw rfl B.tuple bV (fA (pv 8) fD)) (fA (pv 6) fD))))
 (fH (gN (PW.pt (rX (h9 BD (gq gD (pv 7) fF (λ_ _=>rfl)) (pv 6) (iT _)) (qV (gB (wR (mz hr) (pv 9) (pv 2))))))
 (fE (xP (mz hr) (pv 2) (pv 9) (gy (fA (gy (fA (pv 5) (fA (pv 6) fD))) (fA (pv 7) fD))) rfl)
 (fH (g7 (kF aH bf bc ir (pv 3) (fA (pv 9) fD))))) fY))))))))
 (fH (fT (pv 3)))))),?_⟩
  refine⟨_,rfl,p0,_,rfl,.inl (SqL.of hL.at_),λp np=>?_⟩
  have s1:=fB (o:=.lst (as0.map V.ref)) np
  have hp1:=fC (H:=H) (a:=p) (o:=.lst (as0.map V.ref))
  have hN1:=hN.same s1
  have hL1:StL (upd H p (.lst (as0.map V.ref))) p as0 ss:=⟨hp1,hL.len,λi a t h1 h2=>(hL.each i a t h1 h2).same s1⟩
  have S1:fI (hid d H) (upd H p (.lst (as0.map V.ref))):=gQ.trans s1
  generalize upd H p _=H1 at s1 hp1 hN1 hL1 S1 ⊢
  refine pG (λσ H4=>∃ (i:Nat) (as cs:List Addr) (us:List V) (x5 x6 x7 x8 x9:Option V),σ = [some v,some (.ref p0),some (.ref d),some (.ref p),some (.int i),x5,x6,x7,x8,x9]/\fI (hid d H) H4/\StN P w K H4 d (go i).1 cs us/\StL H4 p as (go i).2/\i<=(go i).2.length)
   at4 ⟨0,as0,cs,us,none,none,none,none,none,rfl,S1,by rw[go0];exact hN1,by rw[go0];exact hL1,aK _⟩ ?_ ?_
  ·rintro σ H4 N1 R1 B1 kN1 _ kB1 ⟨i,as,cs,us,x5,x6,x7,x8,x9,rfl,S4,hN4,hL4,hi⟩
   have hbi:=hb i
   refine⟨_,rfl,_,rfl,p,_,rfl,.inl (SqL.of hL4.at_),_,_,rfl,rfl,_,rfl,gT (λhlt=>?_) (λhlt=>?_)⟩
   ·have hlt:(i:Int)<((as.map V.ref).length:Int):=by simpa using hlt
    rw[aa,hL4.len]at hlt
    have hi2:i<(go i).2.length:=by omega
    have he:(go i).2[i]? = some ((go i).2[i]):=by simp
    generalize (go i).2[i]=st at he
    have hst:=Hz i st (av he)
    obtain⟨b,hbi⟩:∃ b,as[i]? = some b:=⟨as[i]'(by rw[hL4.len];exact hi2),ah _⟩
    obtain⟨bt,hk1,hk2⟩:=hL4.each i b st hbi he
    have hk1:H4 b=some (.tup [.ref bt,.str st.2]):=hk1
    have hk2:H4 bt=some (.tup (st.1.map V.int)):=by have:=hk2;rw[show(kS st).1=kyI st.1 from rfl,ip]at this;exact this
    refine⟨_,rfl,_,rfl,p,_,_,_,rfl,rfl,SqL.of hL4.at_,qA (v:=V.ref b) (by omega) (by rw[aj,show((i:Int)).toNat=i by omega,hbi];rfl),?_⟩
    refine⟨b,_,rfl,SqT.of hk1,rfl,_,_,rfl,_,_,rfl,rfl,?_⟩
    refine⟨_,rfl,_,_,rfl,rfl,?_⟩
    refine⟨_,rfl,_,rfl,bt,_,rfl,.inr (SqT.of hk2),λq nq=>?_⟩
    have s5:=fB (o:=.lst (st.1.map V.int)) nq
    have hq5:=fC (H:=H4) (a:=q) (o:=.lst (st.1.map V.int))
    generalize upd H4 q _=H5 at s5 hq5 ⊢
    refine⟨_,_,l,st.1,rfl,Da.same (S4.trans s5) (GW hN.dn.at_ hv),iu hq5,ok,hst.2.1,hst.2.2,λpm vm H6 s6 hpm zF Dm=>?_⟩
    have s46:=s5.trans s6
    have S6:=S4.trans s46
    have hN6:=hN4.same s46
    have hL6:=hL4.same s46
    have EN:(mvs l st.1).length=vm.length:=by have:=Dm.length;rw[aa]at this;exact this.symm
    have AV:=s46 _ _ hk2
    have pmp:pm≠p:=bI (fK (s5 _ _ hL4.at_) hpm)
    have pmd:pm≠d:=bI (fK (s5 _ _ hN4.dn.at_) hpm)
    have Jz:∀ {a xs},SqT K H6 a xs->SqT K (zH d p H6) a xs:=λ{a xs} h=>tO (p:=p) (H:=hid d H6) (by rw[gY (gA hL6.at_ hN6.dn.at_ (λz=>nomatch z))];exact hL6.at_) (yM hN6.dn.at_ h)
    refine⟨pm,rfl,⟨_,SqL.of zF⟩,iW (K:=K) (a:=pm) (xs:=vm) (λj σ H7=>∃ (as' cs':List Addr) (us':List V) (x7 x8 x9:Option V),σ = [some v,some (.ref p0),some (.ref d),some (.ref p),some (.int ((i:Int)+1)),some (.ref bt),some (.str st.2),x7,x8,x9]/\
      fI (hid d H) H7/\fI (zH d p H6) H7/\StN P w K H7 d (g6 st.1 st.2 ((mvs l st.1).take j) (go i)).1 cs' us'/\StL H7 p as' (g6 st.1 st.2 ((mvs l st.1).take j) (go i)).2)
     ⟨as,cs,us,x7,x8,x9,rfl,S6,λb u h=>gQ (p:=d) b u (gQ (p:=p) b u h),hN6,hL6⟩ (λj σ H7 _ ⟨_,_,_,_,_,_,_,_,sm,_⟩=>SqL.of (sm _ _ (by rw[mR pmd pmp];exact zF))) ?_ ?_⟩
    ·rintro j y σ H7 N R B kN _ hj ⟨as',cs',us',y7,y8,y9,rfl,S7,sm,hN7,hL7⟩
     obtain⟨m,ad,p1,bb,hm,rfl,ht,dm,hbb,nbb,_⟩:=zt Dm hj
     obtain⟨a1,ea1,htm⟩:=zR dm
     cases ea1
     have bbp:bb≠p:=bI (fK (s5 _ _ hL4.at_) nbb)
     have bbd:bb≠d:=bI (fK (s5 _ _ hN4.dn.at_) nbb)
     have ht7:=gd sm (Jz ht)
     have IP:=gd sm (Jz htm)
     have Dp:H7 bb=some (.lst (m.2.map V.int)):=sm _ _ (by rw[mR bbd bbp];exact hbb)
     have hb7:H7 bt=some (.tup (st.1.map V.int)):=sm _ _ (by rw[mR (gA AV hN6.dn.at_ (λz=>nomatch z)) (gA AV hL6.at_ (λz=>nomatch z))];exact AV)
     refine⟨ad,_,rfl,ht7,rfl,_,_,rfl,_,_,rfl,rfl,?_⟩
     refine⟨_,rfl,bb,_,rfl,.inl ⟨SqL.of Dp,λt nt=>⟨_,rfl,by show 2<=sizeLine;decide,λc nc=>?_⟩⟩⟩
     have s8:=(fB (o:=.tup (m.2.map V.int)) nt).trans (fB (o:=.tup [.ref t,.str st.2]) nc)
     have hc8:=fC (H:=upd H7 t (.tup (m.2.map V.int))) (a:=c) (o:=.tup [.ref t,.str st.2])
     have ht8:=(fB (o:=.tup [.ref t,.str st.2]) nc) _ _ (fC (H:=H7) (a:=t) (o:=.tup (m.2.map V.int)))
     have hN8:=hN7.same s8
     have hL8:=hL7.same s8
     have S8:=S7.trans s8
     have sm8:=sm.trans s8
     have hb8:=s8 _ _ hb7
     have Dh:=gd s8 IP
     generalize upd (upd H7 t _) c _=H8 at s8 hc8 ht8 hN8 hL8 S8 sm8 hb8 Dh ⊢
     have E6:jN H8 c (kS (m.2,st.2)):=⟨t,hc8,by rw[show(kS (m.2,st.2)).1=kyI m.2 from rfl,ip];exact ht8⟩
     have oI:g6 st.1 st.2 ((mvs l st.1).take (j+1)) (go i)=jU st.1 st.2 (g6 st.1 st.2 ((mvs l st.1).take j) (go i)) m:=Ao hm
     have sl:(g6 st.1 st.2 ((mvs l st.1).take j) (go i)).2.length<=1000/\(g6 st.1 st.2 ((mvs l st.1).take j) (go i)).1.length<=1000:=by
      have h1:=uo st.1 st.2 (mvs l st.1) (go i) j
      have h2:=hb (i+1)
      rw[AX he]at h2
      exact⟨bF h1.1.length_le h2.1,bF h1.2.length_le h2.2⟩
     have old:¬(m.1.1=st.2/\(m.2,st.2)∉(g6 st.1 st.2 ((mvs l st.1).take j) (go i)).1.map (·.1))->N [some v,some (V.ref p0),some (.ref d),some (.ref p),some (.int ((i:Int)+1)),some (.ref bt),some (.str st.2),some (.ref p1),some (.ref bb),some (.ref c)] H8:=λh=>kN _ _ (by
      have e:g6 st.1 st.2 ((mvs l st.1).take (j+1)) (go i)=g6 st.1 st.2 ((mvs l st.1).take j) (go i):=by
       rw[oI];unfold jU;rw[aE h]
      rw[e]
      exact⟨as',cs',us',_,_,_,rfl,S8,sm8,hN8,hL8⟩)
     refine⟨_,rfl,p1,_,_,_,rfl,rfl,Dh,rfl,_,rfl,rfl,_,rfl,gT (λhw=>?_) (λhw=>?_)⟩
     ·have hw:m.1.1=st.2:=by simpa using hw
      refine⟨_,rfl,_,rfl,d,_,c,_,rfl,rfl,hN8.dn,E6,_,rfl,gT (λhn=>?_) (λhn=>?_)⟩
      ·have hn:(m.2,st.2)∉(g6 st.1 st.2 ((mvs l st.1).take j) (go i)).1.map (·.1):=λz=>by
        rw[(hN8.mem (m.2,st.2)).mpr z]at hn;cases hn
       have ni:g6 st.1 st.2 ((mvs l st.1).take (j+1)) (go i)=((g6 st.1 st.2 ((mvs l st.1).take j) (go i)).1 ++ [((m.2,st.2),some ((st.1,st.2),some m.1))],(g6 st.1 st.2 ((mvs l st.1).take j) (go i)).2 ++ [(m.2,st.2)]):=by
        rw[oI];unfold jU;rw[aJ ⟨hw,hn⟩]
       refine⟨_,rfl,_,rfl,by show 2<=sizeLine;decide,λc2 nc2=>⟨_,rfl,by show 2<=sizeLine;decide,λa2 na2=>?_⟩⟩
       have s9:=(fB (o:=.tup [.ref bt,.str st.2]) nc2).trans (fB (o:=.tup [.ref c2,.ref p1]) na2)
       have ha9:=fC (H:=upd H8 c2 (.tup [.ref bt,.str st.2])) (a:=a2) (o:=.tup [.ref c2,.ref p1])
       have hc9:=(fB (o:=.tup [.ref c2,.ref p1]) na2) _ _ (fC (H:=H8) (a:=c2) (o:=.tup [.ref bt,.str st.2]))
       have hN9:=hN8.same s9
       have hL9:=hL8.same s9
       have S9:=S8.trans s9
       have sm9:=sm8.trans s9
       have yd:=E6.same s9
       have hb9:=s9 _ _ hb8
       have E9:=gd s9 Dh
       generalize upd (upd H8 c2 _) a2 _=H9 at s9 ha9 hc9 hN9 hL9 S9 sm9 yd hb9 E9 ⊢
       have bk9:Bc K H9 (some ((st.1,st.2),some m.1)) (.ref a2):=⟨a2,c2,p1,rfl,ha9,⟨bt,hc9,by rw[show(kS (st.1,st.2)).1=kyI st.1 from rfl,ip];exact hb9⟩,E9⟩
       refine⟨_,rfl,_,rfl,d,_,c,_,rfl,rfl,hN9.dn,yd,i7 (by rw[BS hN9.lc hN9.lv];omega),?_⟩
       have g1:=hN9.push (e:=((m.2,st.2),some ((st.1,st.2),some m.1))) hn yd bk9
       have pd:p≠d:=gA hL9.at_ hN9.dn.at_ (λz=>nomatch z)
       have hp9:(upd H9 d (nD P w d (putN (kvN (g6 st.1 st.2 ((mvs l st.1).take j) (go i)).1 cs' us') (kS ((m.2,st.2):Sta)) c (.ref a2)))) p=some (.lst (as'.map V.ref)):=by rw[fG pd];exact hL9.at_
       refine⟨_,rfl,.inl ⟨rfl,_,SqL.of hp9⟩,_,rfl,p,_,_,rfl,rfl,hp9,i7 (by rw[aa,hL9.len];omega),?_⟩
       have tp:∀ b ys,(upd H9 d (nD P w d (putN (kvN (g6 st.1 st.2 ((mvs l st.1).take j) (go i)).1 cs' us') (kS ((m.2,st.2):Sta)) c (.ref a2)))) b=some (.tup ys)->(upd (upd H9 d (nD P w d (putN (kvN (g6 st.1 st.2 ((mvs l st.1).take j) (go i)).1 cs' us') (kS ((m.2,st.2):Sta)) c (.ref a2)))) p (.lst (as'.map V.ref ++ [.ref c]))) b=some (.tup ys):=λb ys q=>by rw[fG (gA q hp9 (λz=>nomatch z))];exact q
       have tq:∀ b ys,H9 b=some (.tup ys)->(upd (upd H9 d (nD P w d (putN (kvN (g6 st.1 st.2 ((mvs l st.1).take j) (go i)).1 cs' us') (kS ((m.2,st.2):Sta)) c (.ref a2)))) p (.lst (as'.map V.ref ++ [.ref c]))) b=some (.tup ys):=λb ys q=>tp b ys (by rw[fG (gA q hN9.dn.at_ (λz=>nomatch z))];exact q)
       refine kN _ _ ⟨as' ++ [c],cs' ++ [c],us' ++ [.ref a2],_,_,_,rfl,?_,vt sm9,?_,?_⟩
       ·intro b o hb'
        have hbd:b≠d:=λz=>by rw[z,jY]at hb';cases hb'
        have hbp:b≠p:=λz=>by
         rw[z,gY (λz=>pd z),np]at hb';cases hb'
        rw[fG hbp,fG hbd];exact S9 _ _ hb'
       ·rw[ni];exact StN.list g1 hp9
       ·rw[ni];exact hL9.push tq fC (yd.kD tq)
      ·refine old λz=>?_
       have:(valN (kvN (g6 st.1 st.2 ((mvs l st.1).take j) (go i)).1 cs' us') (kS (m.2,st.2))).isSome=true:=aY λy=>hn (by rw[Bool.not_eq_true]at y;rw[y];rfl)
       exact z.2 ((hN8.mem _).mp this)
     ·exact kB (old λz=>hw (by simp[z.1]))
    ·rintro σ H7 ⟨as',cs',us',y7,y8,y9,rfl,S7,sm,hN7,hL7⟩
     rw[<-EN,br,<-AX he]at hN7 hL7
     have zE:=(l0 st.1 st.2 (mvs l st.1) (go i)).1.length_le
     rw[<-AX he]at zE
     refine kN1 _ _ ⟨i+1,as',cs',us',_,_,_,_,_,rfl,S7,hN7,hL7,by omega⟩ ?_
     show(1001-((i:Int)+1)).toNat<(1001-(i:Int)).toNat
     omega
   ·have hlt:¬(i:Int)<((as.map V.ref).length:Int):=by simpa using hlt
    rw[aa,hL4.len]at hlt
    exact kB1 _ _ ⟨_,rfl,k i p as cs us H4 (by omega) S4 np hL4 hN4⟩
  ·rintro σ H Q Q' hq ⟨x,e1,y,e2,p',ys,e3,h4,i',j',e5,e6,c,e7,q⟩
   exact⟨x,e1,y,e2,p',ys,e3,h4,i',j',e5,e6,c,e7,hq _ _ q⟩
end
def wu (P:Program)(w:World)(K:PySem.W.Frag):Sp:=λvs H Q _=>∃ (p d:Addr) (es:List EnS) (cs:List Addr) (us:List V) (ss:List Sta) (as:List Addr),vs = [.ref p,.ref d]/\StL H p as ss/\StN P w K H d es cs us/\
 (∀ s∈ss,isW s.2)/\ss.length<=1000/\es.length<=1000/\
 ∀ q as' cs' us' H',fI (hid d H) H'->H q=none->StL H' q as' (chN ss es).2->StN P w K H' d (chN ss es).1 cs' us'->Q (.ref q) H'
abbrev ky:Stmt:=top 31
theorem jl:gj ["states","steps","found","standing","word","state"] ["states","steps"] (fJ ky):=⟨rfl,rfl,rfl,by decide +kernel,rfl,by decide +kernel,by decide +kernel⟩
section
variable {P:Program}{w:World}{K:PySem.W.Frag}{mg:Str->Option Value}{base:Heap}{f od:Addr}{fd:FuncData}
theorem tw (F:Fn K mg "changed_over" ky ["states","steps"] f fd)(O:Hb P w K mg od):fV P w K mg base CX0 1 f fd ["states","steps"] (wu P w K):=by
 refine F.F.ok jl (λvs H Q E h=>?_) (λcdv A outer s H vs Q E hr h=>?_)
 ·obtain⟨p,d,es,cs,us,ss,as,rfl,_⟩:=h;rfl
 ·obtain⟨p0,d,es,cs,us,ss,as0,rfl,hL,hN,hw,hsl,hel,k⟩:=h
  refine⟨_,(fE (fR (i:=2) jl.nd rfl (Or.inl rfl) (iH fD))
 (fE (iL aV rfl (gz (pv 0)) (ie (n:=2) rfl (fN (fL (i:=3) jl.nd rfl (Or.inl rfl)) (fN (fL (i:=4) jl.nd rfl (Or.inl rfl)) gP)))
 (fE (fR (i:=5) jl.nd rfl (Or.inl rfl) (gy (fA (pv 3) (fA (J6 O rfl (pv 4) (λ_ _=>rfl)) fD))))
 (fH (gN (gB (wR (mz hr) (pv 5) (pv 1)))
 (fE (xP (mz hr) (pv 1) (pv 5) (gy (fA (gy (fA (pv 3) (fA (pv 4) fD))) (fA uG fD))) rfl)
 (fH (g7 (kF aH bf bc ir (pv 2) (fA (pv 5) fD))))) fY))))
 (fH (fT (pv 2))))),?_⟩
  refine⟨by show 0<=sizeLine;decide,λp np=>?_⟩
  have s1:=fB (o:=.lst []) np
  have hp1:=fC (H:=H) (a:=p) (o:=.lst [])
  have hN1:=hN.same s1
  have S1:fI (hid d H) (upd H p (.lst [])):=gQ.trans s1
  generalize upd H p _=H1 at s1 hp1 hN1 S1 ⊢
  have p0d:p0≠d:=gA hL.at_ hN.dn.at_ (λz=>nomatch z)
  have hp0:∀ {H7},fI (hid d H) H7->H7 p0=some (.lst (as0.map V.ref)):=λ{H7} s=>s _ _ (by rw[gY p0d];exact hL.at_)
  refine⟨_,rfl,p0,rfl,⟨_,SqL.of (hp0 S1)⟩,oX (K:=K) (a:=p0) (xs:=as0.map V.ref) (λj σ H7=>∃ (as' cs':List Addr) (us':List V) (x3 x4 x5:Option V),σ = [some (.ref p0),some (.ref d),some (.ref p),x3,x4,x5]/\fI (hid d H) H7/\StN P w K H7 d (chN (ss.take j) es).1 cs' us'/\StL H7 p as' (chN (ss.take j) es).2)
   ⟨[],cs,us,none,none,none,rfl,S1,hN1,⟨hp1,rfl,λi a s h=>by simp at h⟩⟩ (λj σ H7 _ ⟨_,_,_,_,_,_,_,h,_⟩=>SqL.of (hp0 h)) ?_ ?_⟩
  ·rintro j y σ H7 hj ⟨as',cs',us',x3,x4,x5,rfl,S7,hN7,hL7⟩
   have hjl:j<ss.length:=by
    have:=(af.mp hj).1
    rwa [aa,hL.len]at this
   have he:ss[j]? = some ss[j]:=ah hjl
   generalize ss[j]=st at he
   obtain⟨b,hb⟩:∃ b,as0[j]? = some b:=⟨as0[j]'(by rw[hL.len];exact hjl),ah _⟩
   have ey:y=V.ref b:=by rw[aj,hb]at hj;simpa using hj.symm
   subst ey
   obtain⟨bt,hk1,hk2⟩:=(CU hN.dn.at_ (hL.each j b st hb he)).same S7
   have hk1:H7 b=some (.tup [.ref bt,.str st.2]):=hk1
   have hws:=hw st (av he)
   refine⟨b,_,rfl,SqT.of hk1,rfl,_,_,rfl,_,_,rfl,rfl,?_⟩
   refine⟨_,rfl,_,rfl,st.2,rfl,hws,by show 2<=sizeLine;decide,λc nc=>?_⟩
   have s8:=fB (o:=.tup [.ref bt,.str (ow st.2)]) nc
   have hc8:=fC (H:=H7) (a:=c) (o:=.tup [.ref bt,.str (ow st.2)])
   have hN8:=hN7.same s8
   have hL8:=hL7.same s8
   have S8:=S7.trans s8
   have hb8:=s8 _ _ hk2
   generalize upd H7 c _=H8 at s8 hc8 hN8 hL8 S8 hb8 ⊢
   have E6:jN H8 c (kS (st.1,ow st.2)):=⟨bt,hc8,hb8⟩
   have oI:chN (ss.take (j+1)) es=iR (chN (ss.take j) es) st:=FE he
   have sl:(chN (ss.take j) es).1.length<=2000/\(chN (ss.take j) es).2.length<=1000:=by
    have:=Cf es (ss.take j) (es,[])
    have h2:(ss.take j).length<=1000:=by rw[aT];omega
    unfold chN
    simp only[eU]at this
    omega
   refine⟨_,rfl,_,rfl,d,_,c,_,rfl,rfl,hN8.dn,E6,_,rfl,gT (λhn=>?_) (λhn=>?_)⟩
   ·have hn:(st.1,ow st.2)∉(chN (ss.take j) es).1.map (·.1):=λz=>by
     rw[(hN8.mem (st.1,ow st.2)).mpr z]at hn;cases hn
    have ni:chN (ss.take (j+1)) es=((chN (ss.take j) es).1 ++ [((st.1,ow st.2),some (st,none))],(chN (ss.take j) es).2 ++ [(st.1,ow st.2)]):=by
     rw[oI];unfold iR;rw[aJ hn]
    refine⟨_,rfl,_,rfl,by show 2<=sizeLine;decide,λc2 nc2=>⟨by show 2<=sizeLine;decide,λa2 na2=>?_⟩⟩
    have s9:=(fB (o:=.tup [.ref bt,.str st.2]) nc2).trans (fB (o:=.tup [.ref c2,.non]) na2)
    have ha9:=fC (H:=upd H8 c2 (.tup [.ref bt,.str st.2])) (a:=a2) (o:=.tup [.ref c2,.non])
    have hc9:=(fB (o:=.tup [.ref c2,.non]) na2) _ _ (fC (H:=H8) (a:=c2) (o:=.tup [.ref bt,.str st.2]))
    have hN9:=hN8.same s9
    have hL9:=hL8.same s9
    have S9:=S8.trans s9
    have yd:=E6.same s9
    have hb9:=s9 _ _ hb8
    generalize upd (upd H8 c2 _) a2 _=H9 at s9 ha9 hc9 hN9 hL9 S9 yd hb9 ⊢
    have bk9:Bc K H9 (some (st,none)) (.ref a2):=⟨a2,c2,rfl,ha9,⟨bt,hc9,hb9⟩⟩
    refine⟨_,rfl,_,rfl,d,_,c,_,rfl,rfl,hN9.dn,yd,i7 (by rw[BS hN9.lc hN9.lv];omega),?_⟩
    have g1:=hN9.push (e:=((st.1,ow st.2),some (st,none))) hn yd bk9
    have pd:p≠d:=gA hL9.at_ hN9.dn.at_ (λz=>nomatch z)
    have hp9:(upd H9 d (nD P w d (putN (kvN (chN (ss.take j) es).1 cs' us') (kS ((st.1,ow st.2):Sta)) c (.ref a2)))) p=some (.lst (as'.map V.ref)):=by rw[fG pd];exact hL9.at_
    refine⟨_,rfl,.inl ⟨rfl,_,SqL.of hp9⟩,_,rfl,p,_,_,rfl,rfl,hp9,i7 (by rw[aa,hL9.len];omega),?_⟩
    have tq:∀ b ys,H9 b=some (.tup ys)->(upd (upd H9 d (nD P w d (putN (kvN (chN (ss.take j) es).1 cs' us') (kS ((st.1,ow st.2):Sta)) c (.ref a2)))) p (.lst (as'.map V.ref ++ [.ref c]))) b=some (.tup ys):=λb ys q=>by
     have q2:(upd H9 d (nD P w d (putN (kvN (chN (ss.take j) es).1 cs' us') (kS ((st.1,ow st.2):Sta)) c (.ref a2)))) b=some (.tup ys):=by rw[fG (gA q hN9.dn.at_ (λz=>nomatch z))];exact q
     rw[fG (gA q2 hp9 (λz=>nomatch z))];exact q2
    refine⟨as' ++ [c],cs' ++ [c],us' ++ [.ref a2],_,_,_,rfl,?_,?_,?_⟩
    ·intro b o hb'
     have hbd:b≠d:=λz=>by rw[z,jY]at hb';cases hb'
     have hbp:b≠p:=λz=>by
      rw[z,gY (λz=>pd z),np]at hb';cases hb'
     rw[fG hbp,fG hbd];exact S9 _ _ hb'
    ·rw[ni];exact StN.list g1 hp9
    ·rw[ni];exact hL9.push tq fC (yd.kD tq)
   ·have hy:(valN (kvN (chN (ss.take j) es).1 cs' us') (kS (st.1,ow st.2))).isSome=true:=aY λy=>hn (by rw[Bool.not_eq_true]at y;rw[y];rfl)
    have sO:chN (ss.take (j+1)) es=chN (ss.take j) es:=by
     rw[oI];unfold iR;rw[aE (λz=>z ((hN8.mem _).mp hy))]
    rw[sO]
    exact⟨as',cs',us',_,_,_,rfl,S8,hN8,hL8⟩
  ·rintro σ H7 ⟨as',cs',us',x3,x4,x5,rfl,S7,hN7,hL7⟩
   rw[aa,hL.len,br]at hN7 hL7
   exact⟨_,rfl,k p as' cs' us' H7 S7 np hL7 hN7⟩
end
theorem Fu {P:Program}{w:World}{K:PySem.W.Frag}{p l:Addr}{xs:List V}{g:TG}{tt:TT}{te tv:TE}{cap:List (Option Nat)}{σ:L2.St}{Q:VK}{H1:Hp}(Pv:Nat->Hp->Prop)(h0:Pv 0 (upd H1 l (nD P w l [])))(hl:∀ i H,i<=xs.length->Pv i H->SqL K H p xs)
  (hs:∀ i x H,xs[i]? = some x->Pv i H->g x (iG cap σ) H λσ2 H2=>tt σ2 H2 λb H3=>
    if b=true then te σ2 H3 λy H4=>tv σ2 H4 λv H5=>∃ (kvs:KvN) (k:SK) (b:Addr),y = .ref b/\DN P w H5 l kvs/\jN H5 b k/\kvs.length<sizeLine/\Pv (i+1) (upd H5 l (nD P w l (putN kvs k b v)))
    else Pv (i+1) H3)
  (hd:∀ H,Pv xs.length H->Q (.ref l) H):Jr P w (Itl K p) g tt te tv cap σ Q l H1:=by
 refine⟨λi m H=>m=xs.length-i/\i<=xs.length/\Pv i H,⟨xs.length,by simp,aK _,h0⟩,?_⟩
 rintro i m H ⟨rfl,hi,p⟩
 have q:=hl i H hi p
 by_cases hlt:i<xs.length
 ·refine .inr ⟨⟨xs,xs[i],q,by simp[hlt]⟩,Pv (i+1),λH' p'=>⟨xs.length-(i+1),by omega,rfl,hlt,p'⟩,λx H' y=>?_⟩
  obtain⟨rfl,hy⟩:=y
  exact hs i x H' (hy xs q) p
 ·have:i=xs.length:=by omega
  subst this
  exact .inl ⟨⟨xs,q,au _⟩,hd H p⟩
def vI (n:Nat):V:=V.int n
def uf (P:Program)(w:World)(K:PySem.W.Frag):Sp:=λvs H Q _=>∃ (v u:V) (l:Ln) (tr:List Int) (i:Nat),vs = [v,u]/\Da K H (dL l) v/\Da K H (dI tr) u/\gv l/\tr≠ []/\tr.length<=900/\jm l tr/\(fO l tr i).length=i/\i<=300/\
 ∀ r t cd sd kvs cs us H',(rnd l tr r).2 = []->fI H H'->H' t=some (.tup [.ref cd,.ref sd])->StN P w K H' sd (rnd l tr r).1 cs us->DN P w H' cd kvs->(∀ s,valN kvs (kS s)=(cnt l tr r s).map vI)->Q (.ref t) H'
def at7 (σ:L2.St)(_:Hp):Nat:=match (σ[7]? :Option (Option V))with
 |some (some (V.int i))=>(2000-i).toNat
 |_=>0
abbrev nu:Stmt:=top 32
theorem i5:gj ["line","train","start","states","state","steps","counts","many"] ["line","train"] (fJ nu):=⟨rfl,rfl,rfl,by decide +kernel,rfl,by decide +kernel,by decide +kernel⟩
theorem rJ:gH (fJ nu) ["line","train","start","states","state","steps","counts","many"] {kind:=.function,names:=[(Str.ofString ".0",.local),(Str.ofString "state",.local)],isGenerator:=false,isCoroutine:=false,more:=[]} ["state"] 1 [none]:=⟨rfl,by decide +kernel,by decide +kernel,by decide +kernel,rfl,by decide +kernel,rfl,by decide +kernel⟩
section
variable {P:Program}{w:World}{K:PySem.W.Frag}{mg:Str->Option Value}{base:Heap}{f od:Addr}{fd:FuncData}
theorem AB {f1 f2:Addr}{fd1 fd2:FuncData}(F:Fn K mg "counted" nu ["line","train"] f fd)(B:Bm mg)(mm:Fn K mg "gone_on" pO ["line","states","steps"] f1 fd1)(sL:fV P w K mg base CX0 4 f1 fd1 ["line","states","steps"] (Bp P w K))
  (ja:Fn K mg "changed_over" ky ["states","steps"] f2 fd2) (mK:fV P w K mg base CX0 1 f2 fd2 ["states","steps"] (wu P w K)):fV P w K mg base CX0 5 f fd ["line","train"] (uf P w K):=by
 refine F.F.ok i5 (λvs H Q E h=>?_) (λcdv A outer s H vs Q E hr h=>?_)
 ·obtain⟨v,u,l,tr,i,rfl,_⟩:=h;rfl
 ·obtain⟨v,u,l,tr,iw,rfl,hv,hu,ok,hne,PR,T,hiw,La,k⟩:=h
  obtain⟨a,rfl,ha⟩:=ij.mp hu
  obtain⟨_,htr,hsh⟩:=oG ok T hne hiw
  have gG:∀ t∈(fO l tr iw).map (·.1),∀ m∈mvs l t,m.2∈(fO l tr iw).map (·.1):=λt ht=>(hsh t ht).2
  have Wl:((fO l tr iw).map (·.1)).length<=300:=by rw[aa];omega
  have EI:=jd ok T hne iw
  have trW:∀ t∈(fO l tr iw).map (·.1),jm l t/\t≠ []/\t.length<=900:=λt ht=>by
   obtain⟨e,he,rfl⟩:=ao.mp ht
   have:=EI.tr e he
   exact⟨this.1,this.2.2,by rw[this.2.1];exact PR⟩
  have RR:=RO.rnd gG htr
  generalize (fO l tr iw).map (·.1)=W at gG Wl trW RR htr hsh
  refine⟨_,(fE (fR (i:=2) i5.nd rfl (Or.inl rfl) (fZ gw rfl B.tuple bV (fA (pv 1) fD)))
 (fE (fR (i:=3) i5.nd rfl (Or.inl rfl) (iH (fA (gy (fA (pv 2) (fA gK fD))) (fA (gy (fA (pv 2) (fA gK fD))) fD))))
 (fE (Ic (i:=5) (jI hr) i5.nd rfl rfl (gz (pv 3)) rfl rJ (.name (by decide)) (λ_ _ _ _=>(fL (i:=0) rJ.nd rfl (Or.inl rfl))) (λ_ _ _ _=>iq) (λ_ _ _ _=>(pv 0)) (λ_ _ _ _=>uG))
 (fE (fR (i:=6) i5.nd rfl (Or.inl rfl) Gn)
 (fE (fR (i:=7) i5.nd rfl (Or.inl rfl) fF)
 (fE (nz aV (za (pv 3) (λ_=>rfl))
 (fE (fR (i:=3) i5.nd rfl (Or.inl rfl) (fM sL (hr.mono (by decide)) rfl mm.m mm.F.kp mm.b .nil gu (fA (pv 0) (fA (pv 3) (fA (pv 5) fD)))))
 (fE (iL aV rfl (gz (pv 3)) (fL (i:=4) i5.nd rfl (Or.inl rfl))
 (fH (xP (mz hr) (pv 6) (pv 4) (pv 7) rfl)))
 (fE (fR (i:=3) i5.nd rfl (Or.inl rfl) (fM mK (hr.mono (by decide)) rfl ja.m ja.F.kp ja.b .nil gu (fA (pv 3) (fA (pv 5) fD))))
 (fH (As (i:=7) i5.nd rfl (Or.inl rfl) fF AQ))))))
 (fH (fT (gy (fA (pv 6) (fA (pv 5) fD))))))))))),?_⟩
  refine⟨_,rfl,a,_,rfl,.inl ⟨ha,λt0 nt0=>?_⟩⟩
  have s1:=fB (o:=.tup (tr.map V.int)) nt0
  have h1:=fC (H:=H) (a:=t0) (o:=.tup (tr.map V.int))
  generalize upd H t0 _=H1 at s1 h1 ⊢
  refine⟨_,rfl,by show 2<=sizeLine;decide,λc1 nc1=>⟨_,rfl,by show 2<=sizeLine;decide,λc2 nc2=>⟨by show 2<=sizeLine;decide,λp np=>?_⟩⟩⟩
  have s2:=(fB (o:=.tup [.ref t0,.str "on"]) nc1).trans ((fB (o:=.tup [.ref t0,.str "back"]) nc2).trans (fB (o:=.lst [.ref c1,.ref c2]) np))
  have hp2:=fC (H:=upd (upd H1 c1 (.tup [.ref t0,.str "on"])) c2 (.tup [.ref t0,.str "back"])) (a:=p) (o:=.lst [.ref c1,.ref c2])
  have hc2:=(fB (o:=.lst [.ref c1,.ref c2]) np) _ _ (fC (H:=upd H1 c1 (.tup [.ref t0,.str "on"])) (a:=c2) (o:=.tup [.ref t0,.str "back"]))
  have hc1:=((fB (o:=.tup [.ref t0,.str "back"]) nc2).trans (fB (o:=.lst [.ref c1,.ref c2]) np)) _ _ (fC (H:=H1) (a:=c1) (o:=.tup [.ref t0,.str "on"]))
  generalize upd (upd (upd H1 c1 _) c2 _) p _=H2 at s2 hp2 hc2 hc1 ⊢
  have ht2:=s2 _ _ h1
  have k1:jN H2 c1 (kS (tr,onW)):=⟨t0,hc1,by rw[show(kS (tr,onW)).1=kyI tr from rfl,ip];exact ht2⟩
  have k2:jN H2 c2 (kS (tr,gE)):=⟨t0,hc2,by rw[show(kS (tr,gE)).1=kyI tr from rfl,ip];exact ht2⟩
  refine⟨_,rfl,p,rfl,⟨_,SqL.of hp2⟩,λsd nsd=>?_⟩
  have S2:=s1.trans s2
  have hn:onW≠gE:=by unfold onW gE;decide +kernel
  refine Fu (K:=K) (p:=p) (xs:=[.ref c1,.ref c2]) (λj G=>fI H2 G/\StN P w K G sd ((r0 tr).1.take j) ([c1,c2].take j) ([V.non,V.non].take j))
   ⟨fB nsd,⟨⟨fC,λq hq=>(by cases hq)⟩,rfl,rfl,λi e v he=>(by simp at he)⟩⟩ (λj G _ h=>SqL.of (h.1 _ _ hp2)) (λj x G hx h=>?_) (λG h=>?_)
  ·have Iu:H2 sd=none:=nsd
   match j,hx with
   | 0,hx=>
    cases hx
    refine⟨_,rfl,_,(kS (tr,onW)),c1,rfl,h.2.dn,k1.same h.1,by show 0<sizeLine;decide,fI.upd h.1 nsd,?_⟩
    exact StN.push (e:=((tr,onW),none)) h.2 (by simp) (k1.same h.1) rfl
   | 1,hx=>
    cases hx
    refine⟨_,rfl,_,(kS (tr,gE)),c2,rfl,h.2.dn,k2.same h.1,by show 1<sizeLine;decide,fI.upd h.1 nsd,?_⟩
    exact StN.push (e:=((tr,gE),none)) h.2 (by show(tr,gE)∉ [(tr,onW)];simp;exact λz=>hn z.symm) (k2.same h.1) rfl
  obtain⟨S3,N3⟩:=h
  have N3:StN P w K G sd (r0 tr).1 [c1,c2] [V.non,V.non]:=N3
  have L3:StL G p [c1,c2] (r0 tr).2:=⟨S3 _ _ hp2,rfl,λi a s h1 h2=>by
   match i,h1,h2 with
   | 0,h1,h2=>cases h1;cases h2;exact k1.same S3
   | 1,h1,h2=>cases h1;cases h2;exact k2.same S3⟩
  have S03:=S2.trans S3
  have Iu:H sd=none:=fI.free S2 nsd
  clear hp2 hc1 hc2 k1 k2 s2 ht2
  refine λcd ncd=>?_
  have s4:=fB (o:=nD P w cd []) ncd
  have hcd:=fC (H:=G) (a:=cd) (o:=nD P w cd [])
  have scd:sd≠cd:=λz=>by rw[<-z,N3.dn.at_]at ncd;cases ncd
  have D4:DN P w (upd G cd (nD P w cd [])) cd []:=⟨hcd,λq hq=>(by cases hq)⟩
  have OI:H cd=none:=fI.free S03 ncd
  dsimp only[lz,DV,tC,oW]
  show tY _ _ _ _ _
  refine pG (λσ H4=>∃ (r:Nat) (p':Addr) (as cs:List Addr) (us:List V) (kvs:KvN) (x4:Option V),σ = [some v,some (.ref a),some (.ref t0),some (.ref p'),x4,some (.ref sd),some (.ref cd),some (.int r)]/\fI H H4/\StL H4 p' as (rnd l tr r).2/\StN P w K H4 sd (rnd l tr r).1 cs us/\DN P w H4 cd kvs/\(∀ s,valN kvs (kS s)=(cnt l tr r s).map vI)/\kvs.length<=r*1000/\((rnd l tr r).2≠ []->r<=(rnd l tr r).1.length)/\r<=1001)
   at7 ⟨0,p,[c1,c2],[c1,c2],[V.non,V.non],[],none,rfl,S03.trans s4,L3.same s4,N3.same s4,D4,λs=>rfl,aK _,λ_=>aK _,aK _⟩ ?_ ?_
  ·rintro σ H4 N1 R1 B1 kN1 _ kB1 ⟨r,p',as,cs,us,kvs,x4,rfl,S4,L4,N4,D4,yg,hkl,hr1,hr2⟩
   have R:=RR r
   refine⟨_,rfl,_,.inl ⟨_,SqL.of L4.at_,rfl⟩,gT (λDj=>?_) (λhe=>?_)⟩
   ·have Dj:(rnd l tr r).2≠ []:=λz=>by
     have:=L4.len
     rw[z]at this
     have:as = []:=List.length_eq_zero_iff.mp this
     rw[this]at Dj
     cases Dj
    have hr3:=hr1 Dj
    have Rl:=R.len
    have bnd:∀ i,(goS l ((rnd l tr r).1,(rnd l tr r).2) i).2.length<=1000/\(goS l ((rnd l tr r).1,(rnd l tr r).2) i).1.length<=1000:=λi=>by
     have:=(RO.go gG R i).len
     exact⟨by show(goS l (rnd l tr r) i).2.length<=1000;omega,by show(goS l (rnd l tr r) i).1.length<=1000;omega⟩
    refine⟨_,rfl,_,rfl,_,rfl,v,p',sd,l,_,cs,us,_,as,rfl,Da.same S4 hv,L4,N4,ok,λs hs=>trW s.1 (R.inW s (R.sub s hs)).1,bnd,λi q as' cs' us' H5 hi S5 nq L5 N5=>?_⟩
    have hi:(goS l (rnd l tr r) i).2.length=i:=hi
    have eF:goS l ((rnd l tr r).1,(rnd l tr r).2) i=goF l (rnd l tr r):=(Jg hi (by have:=(bnd i).1;have h2:(goS l ((rnd l tr r).1,(rnd l tr r).2) i).2.length=i:=hi;omega)).symm
    rw[eF]at L5 N5
    have R5:RO W (goF l (rnd l tr r)):=RO.go gG R 1000
    have Rl5:=R5.len
    have D5:DN P w H5 cd kvs:=(D4.hid N4.dn.at_ scd.symm).same S5
    have S05:fI H H5:=(wG S4 Iu).trans S5
    have gp:(rnd l tr r).1.length<=(goF l (rnd l tr r)).1.length:=(pZ l (rnd l tr r) 1000).length_le
    have er:rnd l tr (r+1)=chN (goF l (rnd l tr r)).2 (goF l (rnd l tr r)).1:=rfl
    have ec:∀ s,cnt l tr (r+1) s=open Classical in if s∈(goF l (rnd l tr r)).2 then some r else cnt l tr r s:=λs=>rfl
    generalize goF l (rnd l tr r)=gg at L5 N5 R5 Rl5 gp er ec
    refine⟨_,rfl,q,rfl,⟨_,SqL.of L5.at_⟩,iW (K:=K) (a:=q) (xs:=as'.map V.ref) (λj σ G=>∃ (tE:KvN) (x4:Option V),σ = [some v,some (.ref a),some (.ref t0),some (.ref q),x4,some (.ref sd),some (.ref cd),some (.int r)]/\fI H G/\StL G q as' gg.2/\StN P w K G sd gg.1 cs' us'/\DN P w G cd tE/\(∀ s,(s∈gg.2.take j->valN tE (kS s)=some (vI r))/\(s∉gg.2.take j->valN tE (kS s)=valN kvs (kS s)))/\tE.length<=kvs.length+j)
     ⟨kvs,x4,rfl,S05,L5,N5,D5,λs=>⟨λz=>(by simp at z),λ_=>rfl⟩,au _⟩ (λj σ G _ ⟨_,_,_,_,h,_⟩=>SqL.of h.at_) ?_ ?_⟩
    ·rintro j y σ G N2 R2 B2 kN2 _ hj ⟨tE,x4',rfl,SG,LG,NG,DG,hv',hl'⟩
     have hjl:j<gg.2.length:=by
      have:=(af.mp hj).1
      rwa [aa,LG.len]at this
     have he:gg.2[j]? = some gg.2[j]:=ah hjl
     generalize gg.2[j]=st at he
     obtain⟨b,hb⟩:∃ b,as'[j]? = some b:=⟨as'[j]'(by rw[LG.len];exact hjl),ah _⟩
     have ey:y=V.ref b:=by rw[aj,hb]at hj;simpa using hj.symm
     subst ey
     have key:=LG.each j b st hb he
     refine⟨_,rfl,_,rfl,_,rfl,cd,tE,b,kS st,rfl,rfl,DG,key,i7 (by have:r*1000<=1001*1000:=Nat.mul_le_mul_right _ hr2;omega),?_⟩
     refine kN2 _ _ ⟨_,_,rfl,fI.upd SG OI,LG.other DG.at_,NG.other DG.at_ scd,DG.put key,λs'=>⟨λhm=>?_,λhm=>?_⟩,?_⟩
     ·rw[yF]
      by_cases e:s'=st
      ·rw[aJ (by rw[e])];rfl
      ·rw[aE (λz=>e (ye z))]
       rw[bh,he]at hm
       rcases aF.mp hm with z |z
       ·exact(hv' s').1 z
       ·exact absurd (by simpa using z) e
     ·rw[bh,he]at hm
      have e:s'≠st:=λz=>hm (ay _ (by rw[z];simp))
      rw[yF,aE (λz=>e (ye z))]
      exact(hv' s').2 λz=>hm (aS _ z)
     ·have:=uD tE (kS st) b (.int r)
      show(putN tE (kS st) b (.int r)).length<=kvs.length+(j+1)
      omega
    rintro σ G ⟨tE,x4',rfl,SG,LG,NG,DG,hv',hl'⟩
    rw[aa,LG.len]at hl'
    rw[aa,LG.len,br]at hv'
    refine⟨_,rfl,_,rfl,q,sd,gg.1,cs',us',gg.2,as',rfl,LG,NG,λs hs=>(R5.inW s (R5.sub s hs)).2,by omega,by omega,λq2 as2 cs2 us2 H7 S7 nq2 L7 N7=>?_⟩
    refine⟨_,rfl,_,_,rfl,rfl,?_⟩
    rw[<-er]at L7 N7
    have gr:=FF gg.2 gg.1
    rw[<-er]at gr
    refine kN1 _ _ ⟨r+1,q2,as2,cs2,us2,tE,_,rfl,(wG SG Iu).trans S7,L7,N7,(DG.hid NG.dn.at_ scd.symm).same S7,λs=>?_,by have:=Nat.succ_mul r 1000;omega,λhn'=>?_,by omega⟩ ?_
    ·rw[ec s]
     by_cases hm:s∈gg.2
     ·rw[aJ hm,(hv' s).1 hm];rfl
     ·rw[aE hm,(hv' s).2 hm];exact yg s
    ·have:1<=(rnd l tr (r+1)).2.length:=by
      cases h:(rnd l tr (r+1)).2 with
      |nil=>exact absurd h hn'
      |cons x y=>simp
     omega
    ·show(2000-((r:Int)+1)).toNat<(2000-(r:Int)).toNat
     omega
   ·have he:(rnd l tr r).2 = []:=by
     have:=L4.len
     have h0:as = []:=by
      have:(as.map V.ref).isEmpty=true:=by simpa using he
      simpa using this
     rw[h0]at this
     exact List.length_eq_zero_iff.mp this.symm
    refine kB1 _ _ ⟨_,rfl,_,rfl,by show 2<=sizeLine;decide,λt nt=>?_⟩
    have s9:=fB (o:=.tup [.ref cd,.ref sd]) nt
    exact k r t cd sd kvs cs us _ he (S4.trans s9) fC (N4.same s9) (D4.same s9) yg
  ·rintro σ H Q Q' hq ⟨x,e1,c,h2,q⟩
   exact⟨x,e1,c,h2,hq _ _ q⟩
end
def yT (P:Program)(w:World)(K:PySem.W.Frag):Sp:=λvs H Q _=>∃ (d g:Addr) (es:List EnS) (cs:List Addr) (us:List V) (s:Sta),vs = [.ref d,.ref g]/\StN P w K H d es cs us/\jN H g (kS s)/\s∈es.map (·.1)/\iy es/\(es.map (·.1)).Nodup/\es.length<=5000000/\
 ∀ q run H',fI H H'->H q=none->rL K H' q run->j6 es s run->Q (.ref q) H'
section
variable {P:Program}{w:World}{K:PySem.W.Frag}{mg:Str->Option Value}{base:Heap}{f:Addr}{fd:FuncData}
theorem qZ (F:Fn K mg "run_back_from" iU ["steps","goal"] f fd):fV P w K mg base CX0 1 f fd ["steps","goal"] (yT P w K):=by
 refine F.F.ok gC (λvs H Q E h=>?_) (λcdv A outer s H vs Q E hr h=>?_)
 ·obtain⟨d,g,es,cs,us,t,rfl,_⟩:=h;rfl
 ·obtain⟨d,g,es,cs,us,t,rfl,hs,hg,ht,bk,nd,hl,k⟩:=h
  refine⟨_,(fE (fR (i:=2) gC.nd rfl (Or.inl rfl) (iH fD))
 (fE (fR (i:=3) gC.nd rfl (Or.inl rfl) (qW (mz hr) (pv 0) (pv 1) (λ_ _=>rfl)))
 (fE (nz aV (gB (qX (pv 3)))
 (fE (rY (pv 3) (ie (n:=2) rfl (fN (fL (i:=4) gC.nd rfl (Or.inl rfl)) (fN (fL (i:=5) gC.nd rfl (Or.inl rfl)) gP))))
 (fE (gN (gB (qX (pv 5)))
 (fH (g7 (kF aH bf bc ir (pv 2) (fA (pv 5) fD)))) fY)
 (fH (fR (i:=3) gC.nd rfl (Or.inl rfl) (qW (mz hr) (pv 0) (pv 4) (λ_ _=>rfl)))))))
 (fE (g7 (uH aH PySem.F.slot_list_reverse PySem.F.type_list_reverse uW (pv 2)))
 (fH (fT (pv 2))))))),?_⟩
  refine⟨aK _,λp np=>?_⟩
  have s1:=fB (o:=.lst []) np
  have hp1:=fC (H:=H) (a:=p) (o:=.lst [])
  generalize upd H p _=H1 at s1 hp1 ⊢
  obtain⟨e0,he0,rfl⟩:=ao.mp ht
  obtain⟨j0,hj0,ej0⟩:=bj.mp he0
  have Fd:es[j0]? = some e0:=by rw[ah hj0,ej0]
  have uat:∀ j,j<es.length->∃ v,us[j]? = some v:=λj hj=>⟨us[j]'(by rw[hs.lv];exact hj),ah _⟩
  obtain⟨v0,hv0⟩:=uat j0 hj0
  have hs1:=hs.same s1
  refine⟨_,rfl,_,rfl,d,_,g,_,v0,rfl,rfl,hs1.dn,hg.same s1,hs1.get nd Fd hv0,?_⟩
  refine yD (λn σ H3=>∃ (e:EnS) (sv:V) (rr:List (Str×Int)) (vs:List V) (x4 x5:Option V),σ = [some (.ref d),some (.ref g),some (.ref p),some sv,x4,x5]/\es[n]? = some e/\us[n]? = some sv/\fI H H3/\H3 p=some (.lst vs)/\Das K (hid p H3) (rr.map dM) vs/\
    (∀ k∈rr,PyData.strOk k.1=true)/\rr.length+n<=es.length/\∀ r,j6 es e.1 r->j6 es e0.1 (r++rr.reverse))
   j0 ⟨e0,v0,[],[],none,none,rfl,Fd,hv0,s1,hp1,gS.mpr rfl,(λk hk=>by cases hk),by simp;omega,λr hr=>by simpa using hr⟩ ?_ ?_
  ·rintro n σ H3 ⟨e,sv,rr,vs,x4,x5,rfl,hn,hsv,S3,hp3,D3,okr,ln,PT⟩
   have hs3:=hs.same S3
   have sv3:=hs3.each n e sv hn hsv
   have vl:vs.length=rr.length:=by have:=Dgs.length D3;rw[aa]at this;exact this
   refine⟨_,rfl,_,rfl,gT (λhb=>?_) (λhb=>?_)⟩
   ·obtain⟨t',o'⟩:=e
    cases o' with
    |none=>
     have z:sv = .non:=sv3
     rw[z]at hb
     exact absurd hb (by decide)
    |some tk=>
     obtain⟨t1,mk⟩:=tk
     obtain⟨i,e1,hi,he1,rfl⟩:=bk.back n t' t1 mk hn
     have hlt:=(af.mp he1).1
     obtain⟨v1,hv1⟩:=uat i hlt
     cases mk with
     |none=>
      obtain⟨a,b,rfl,ha,hb1⟩:=sv3
      refine⟨_,rfl,a,_,rfl,SqT.of ha,rfl,_,_,rfl,_,_,rfl,rfl,?_⟩
      refine⟨_,rfl,_,rfl,kB ?_⟩
      refine⟨_,rfl,_,rfl,d,_,b,_,v1,rfl,rfl,hs3.dn,hb1,hs3.get nd he1 hv1,?_⟩
      exact⟨i,hi,e1,v1,rr,vs,_,_,rfl,he1,hv1,S3,hp3,D3,okr,by omega,λr hr=>PT r (.ch (av hn) hr)⟩
     |some k1=>
      obtain⟨a,b,c,rfl,ha,hb1,hc⟩:=sv3
      refine⟨_,rfl,a,_,rfl,SqT.of ha,rfl,_,_,rfl,_,_,rfl,rfl,?_⟩
      refine⟨_,rfl,_,rfl,vg ?_⟩
      refine⟨_,rfl,.inl ⟨rfl,_,SqL.of hp3⟩,_,rfl,p,_,_,rfl,rfl,hp3,i7 (by omega),?_⟩
      have S4:=fI.upd (o:=.lst (vs ++ [V.ref c])) S3 np
      have hs4:=hs.same S4
      have hb4:jN (upd H3 p (.lst (vs ++ [V.ref c]))) b (kS e1.1):=hb1.kD λx ys q=>by rw[fG (gA q hp3 (λz=>nomatch z))];exact q
      refine⟨_,rfl,_,rfl,d,_,b,_,v1,rfl,rfl,hs4.dn,hb4,hs4.get nd he1 hv1,?_⟩
      refine⟨i,hi,e1,v1,rr ++ [k1],vs ++ [V.ref c],_,_,rfl,he1,hv1,S4,fC,?_,λk' hk'=>?_,by rw[ak,aI];omega,λr hr=>?_⟩
      ·rw[pY,aB]
       exact Dgs.append D3 (Dgs.one (Fx (tO hp3 hc)))
      ·rcases aF.mp hk' with z |z
       ·exact okr k' z
       ·have z:k'=k1:=by simpa using z
        rw[z];exact bk.ok n t' e1.1 k1 hn
      ·have:=PT (r ++ [k1]) (.mv (av hn) hr)
       rw[List.reverse_append,df,List.reverse_nil,List.nil_append]
       rw[fm]at this
       exact this
   ·obtain⟨t',o'⟩:=e
    cases o' with
    |some tk=>
     obtain⟨t1,mk⟩:=tk
     cases mk with
     |none=>
      obtain⟨a,b,rfl,_⟩:=sv3
      exact absurd rfl hb
     |some k1=>
      obtain⟨a,b,c,rfl,_⟩:=sv3
      exact absurd rfl hb
    |none=>
     refine⟨_,rfl,.inl ⟨rfl,_,SqL.of hp3⟩,p,_,rfl,rfl,hp3,?_⟩
     refine⟨_,rfl,k p rr.reverse _ (fI.upd S3 np) np ⟨⟨_,fC,?_⟩,λk' hk'=>okr k' (by simpa using hk')⟩ ?_⟩
     ·rw[pY,fx]
      exact Dgs.rev D3
     ·have:=PT [] (.nil (av hn))
      simpa using this
  ·rintro σ H Q Q' hq ⟨x,e1,c,e2,q⟩
   exact⟨x,e1,c,e2,hq _ _ q⟩
end
def dTu (t:List Int):PyData:=.tuple (t.map .int)
theorem Fo (a b:List Int):PyData.eqv (dTu a) (dTu b)=decide (a=b):=by
 unfold dTu
 rw[PyData.eqv,vH]
theorem Jn (ss:List (List Int))(t:List Int):((ss.map dTu).any λz=>PyData.eqv z (dTu t))=decide (t∈ss):=by
 rw[List.any_map,bJ,eI,cq]
 constructor
 ·rintro⟨y,hy,e⟩
  have e:PyData.eqv (dTu y) (dTu t)=true:=e
  rw[Fo,cq]at e
  exact e ▸ hy
 ·exact λh=>⟨t,h,by show PyData.eqv (dTu t) (dTu t)=true;rw[Fo];exact bA rfl⟩
theorem Ez (ns:List Int):OkD (dTu ns):=⟨by simp only[dTu,PyData.canLay0];exact iD (λ_=>rfl) ns,by
 simp only[dTu,PyData.depth]
 have:=gL (f:=PyData.int) (k:=0) (λ_=>by simp[PyData.depth]) ns
 omega⟩
theorem Gu (ss:List (List Int)):FO (ss.map dTu):=by
 refine⟨iD (λt=>(Ez t).1) ss,?_⟩
 have:=gL (f:=dTu) (k:=1) (λt=>by
  simp only[dTu,PyData.depth]
  have:=gL (f:=PyData.int) (k:=0) (λ_=>by simp[PyData.depth]) t
  omega) ss
 omega
theorem Hw {K:PySem.W.Frag}{H:Hp}{b:Addr}{t:List Int}(h:H b=some (.tup (t.map V.int))):Da K H (dTu t) (.ref b):=by
 refine gR.mpr ⟨b,_,rfl,SqT.of h,?_⟩
 clear h
 induction t with
 |nil=>exact gS.mpr rfl
 |cons x r ih=>exact gm.mpr ⟨_,_,rfl,iC.mpr rfl,ih⟩
structure Ba (H:Hp)(p:Addr)(bs:List Addr)(ts:List (List Int)):Prop where
 at_:H p=some (.lst (bs.map V.ref))
 len:bs.length=ts.length
 each:∀ (i:Nat) b t,bs[i]? = some b->ts[i]? = some t->H b=some (.tup (t.map V.int))
theorem Ba.same {H H':Hp}{p:Addr}{bs:List Addr}{ts:List (List Int)}(h:Ba H p bs ts)(s:fI H H'):Ba H' p bs ts:=⟨s _ _ h.at_,h.len,λi b t h1 h2=>s _ _ (h.each i b t h1 h2)⟩
theorem yG {K:PySem.W.Frag}{H:Hp} :∀ {bs:List Addr}{ts:List (List Int)},bs.length=ts.length->(∀ (i:Nat) b t,bs[i]? = some b->ts[i]? = some t->H b=some (.tup (t.map V.int)))->Das K H (ts.map dTu) (bs.map V.ref)
 |[],[],_,_=>gS.mpr rfl
 |[],_::_,h,_=>by simp at h
 |_::_,[],h,_=>by simp at h
 |b::bs,t::ts,h,e=>gm.mpr ⟨_,_,rfl,Hw (e 0 b t rfl rfl),yG (by simpa using h) λi b' t' h1 h2=>e (i+1) b' t' (by simpa using h1) (by simpa using h2)⟩
theorem Ba.da {K:PySem.W.Frag}{H:Hp}{p:Addr}{bs:List Addr}{ts:List (List Int)}(h:Ba H p bs ts):Da K H (.list (ts.map dTu)) (.ref p):=ia.mpr ⟨p,_,rfl,SqL.of h.at_,yG h.len h.each⟩
def wt (K:PySem.W.Frag):Sp:=λvs H Q _=>∃ (p:Addr) (bs:List Addr) (ts:List (List Int)),vs = [.ref p]/\Ba H p bs ts/\ts.length<=5000000/\∀ q bs' H',lT H H' q bs' ts->Q (.ref q) H'
section
variable {P:Program}{w:World}{K:PySem.W.Frag}{mg:Str->Option Value}{base:Heap}{f:Addr}{fd:FuncData}
theorem xR (F:Fn K mg "lists_of" j8 ["standings"] f fd)(B:Bm mg):fV P w K mg base CX0 1 f fd ["standings"] (wt K):=by
 refine F.F.ok sQ (λvs H Q E h=>?_) (λcdv A outer s H vs Q E hr h=>?_)
 ·obtain⟨p,bs,ts,rfl,_⟩:=h;rfl
 ·obtain⟨p,bs0,ts,rfl,hT,hl,k⟩:=h
  refine⟨_,(fH (fT (lP (gz (pv 0)) rfl lp (.name (by decide)) (λ_ _ _ _=>(fL (i:=0) lp.nd rfl (Or.inl rfl))) (λ_ _ _ _=>iq) (λ_ _ _ _=>(fZ (j4 (K:=K) rfl) rfl B.list cQ (fA (pv 0) fD)))))),?_⟩
  refine⟨_,rfl,p,rfl,⟨_,SqL.of hT.at_⟩,λq nq=>?_⟩
  refine vc ts.length (λi acc H'=>∃ bs:List Addr,acc=bs.map V.ref/\bs.length=i/\fI H H'/\H' q=some (.lst acc)/\(∀ (j:Nat) b t,bs[j]? = some b->ts[j]? = some t->H b=none/\b≠q/\H' b=some (.lst (t.map V.int)))/\bs.Nodup)
   ⟨[],rfl,rfl,fB nq,fC,λj b t h=>by simp at h,by simp⟩ (λi acc H' hi ⟨_,_,_,sm,_⟩=>⟨_,(bs0.map V.ref)[i]'(by rw[aa,hT.len];exact hi),SqL.of (sm _ _ hT.at_),ah _⟩) (λacc H' ⟨_,_,_,sm,_⟩=>⟨_,SqL.of (sm _ _ hT.at_),by rw[aa,hT.len];exact au _⟩) ?_ ?_
  ·rintro i x acc H4 H5 hi ⟨bs,rfl,bl,sm,hq,ea,nd⟩ ⟨e5,hx⟩
   subst e5
   have hx:=hx _ (SqL.of (sm _ _ hT.at_))
   obtain⟨t,ht⟩:∃ t,ts[i]? = some t:=⟨ts[i],ah hi⟩
   obtain⟨b,hb0⟩:∃ b,bs0[i]? = some b:=⟨bs0[i]'(by rw[hT.len];exact hi),ah _⟩
   have ex:x=V.ref b:=by rw[aj,hb0]at hx;simpa using hx.symm
   subst ex
   have hb:=sm _ _ (hT.each i b t hb0 ht)
   refine jF ?_
   refine⟨_,rfl,b,_,rfl,.inr (SqT.of hb),λnb nnb=>?_⟩
   have s6:=fB (o:=.lst (t.map V.int)) nnb
   have nbq:nb≠q:=bI (fK hq nnb)
   refine⟨s6 _ _ hq,i7 (by rw[aa];omega),bs ++ [nb],by rw[aB];rfl,by rw[ak,bl];rfl,fI.upd (sm.trans s6) nq,fC,λj c u hc hu=>?_,?_⟩
   ·by_cases hj:j<bs.length
    ·rw[aq hj]at hc
     obtain⟨z1,z2,z3⟩:=ea j c u hc hu
     exact⟨z1,z2,by rw[fG z2];exact s6 _ _ z3⟩
    ·have hj2:j=bs.length:=by
      have:=(af.mp hc).1
      rw[ak,aI]at this
      omega
     rw[hj2,az (au _),bu]at hc
     cases hc
     rw[hj2,bl,ht]at hu
     cases hu
     exact⟨fI.free sm nnb,nbq,by rw[fG nbq];exact fC⟩
   ·rw[bQ]
    refine⟨nd,by simp,λx hx y hy=>?_⟩
    have hy:y=nb:=by simpa using hy
    subst hy
    obtain⟨j,hj,e⟩:=bj.mp hx
    obtain⟨_,_,z3⟩:=ea j x (ts[j]'(by omega)) (by rw[ah hj,e]) (ah _)
    exact fK z3 nnb
  ·rintro acc H' ⟨bs,rfl,bl,sm,hq,ea,nd⟩
   exact k q bs _ ⟨sm,nq,hq,bl,ea,nd⟩
end
theorem Gb {t u:TS}{D:Ends}{σ:St}{H:Hp}(J:St->Hp->Prop)(first:∀ nx:St->Hp->Prop,(∀ σ' H',J σ' H'->nx σ' H')->t {D with nx:=nx} σ H)(rest:∀ σ' H',J σ' H'->u D σ' H'):lz t u D σ H:=
 first (u D) rest
abbrev R3:=List Int×Nat×Nat
def lS (H0 H:Hp)(r:R3)(v:V):Prop:=∃ ad a,v = .ref ad/\H ad=some (.tup [.ref a,vI r.2.1,vI r.2.2])/\H a=some (.lst (r.1.map V.int))/\H0 a=none
theorem lS.mono {H0 H H':Hp}(r:R3)(v:V)(s:fI H H')(h:lS H0 H r v):lS H0 H' r v:=h.imp λ_ h=>h.imp λ_ h=>⟨h.1,s _ _ h.2.1,s _ _ h.2.2.1,h.2.2.2⟩
structure ox (H0 H:Hp)(q:Addr)(rows:List R3)(vs:List V):Prop where
 at_:H q=some (.lst vs)
 new:H0 q=none
 pw:Pw (lS H0 (hid q H)) rows vs
theorem ox.same {H0 H H':Hp}{q:Addr}{rows:List R3}{vs:List V}(h:ox H0 H q rows vs)(s:fI H H'):ox H0 H' q rows vs:=⟨s _ _ h.at_,h.new,h.pw.imp λr v=>lS.mono r v (nI s)⟩
def cn (l:Ln)(tr:List Int)(r:Nat)(t:List Int)(w:Str):Nat:=(cnt l tr r (t,w)).getD 0
def kb (l:Ln)(tr:List Int)(r:Nat)(ts:List (List Int)):List R3:=ts.map λt=>(t,cn l tr r t onW,cn l tr r t gE)
def mM (l:Ln)(tr:List Int)(r:Nat)(gs:List Int):Str:=if cn l tr r gs onW<=cn l tr r gs gE then onW else gE
structure FX (K:PySem.W.Frag)(c2 c5:Addr)(l:Ln)(ns gs:List Int)(H:Hp)(Q:VK)(E:XK):Prop where
 bad:¬gOk l ns gs->∀ H',fI H H'->∀ e,H' e=none->E (.ref c2) (some e) H'
 many:gOk l ns gs->(∃ i,300<(fO l ns i).length)->∀ H',fI H H'->∀ e,H' e=none->E (.ref c5) (some e) H'
 no:gOk l ns gs->∀ i,(fO l ns i).length=i->i<=300->gs∉(fO l ns i).map (·.1)->∀ r q bs H',lT H H' q bs ((fO l ns i).map (·.1))->H' r=some (.tup [.str "none",.ref q])->H r=none->Q (.ref r) H'
 yes:gOk l ns gs->∀ i,(fO l ns i).length=i->i<=300->gs∈(fO l ns i).map (·.1)->∀ r t q1 run q2 us H',(rnd l ns r).2 = []->fI H H'->rL K H' q1 run->H q1=none->j6 (rnd l ns r).1 (gs,mM l ns r gs) run->ox H H' q2 (kb l ns r ((fO l ns i).map (·.1))) us->q1≠q2->H' t=some (.tup [.str "run",.ref q1,.ref q2])->H t=none->Q (.ref t) H'
def rV (K:PySem.W.Frag)(c2 c5:Addr):Sp:=λvs H Q E=>∃ (v u g:V) (l:Ln) (ns gs:List Int),vs = [v,u,g]/\Da K H (dL l) v/\Da K H (dI ns) u/\Da K H (dI gs) g/\gv l/\ns≠ []/\ns.length<=900/\jm l ns/\gs.length<=900/\FX K c2 c5 l ns gs H Q E
abbrev nk:Stmt:=top 33
theorem kH:gj ["line","train","goal","standings","aim","counts","steps","word","ways"] ["line","train","goal"] (fJ nk):=⟨rfl,rfl,rfl,by decide +kernel,rfl,by decide +kernel,by decide +kernel⟩
theorem sX:gH (fJ nk) ["line","train","goal","standings","aim","counts","steps","word","ways"] {kind:=.function,names:=[(Str.ofString ".0",.local),(Str.ofString "standing",.local),(Str.ofString "list",.globalImplicit),(Str.ofString "counts",.free)],isGenerator:=false,isCoroutine:=false,more:=[]} ["standing","counts"] 1 [none,some 5]:=⟨rfl,by decide +kernel,by decide +kernel,by decide +kernel,rfl,by decide +kernel,rfl,by decide +kernel⟩
section
variable {P:Program}{w:World}{K:PySem.W.Frag}{mg:Str->Option Value}{base:Heap}{f:Addr}{fd:FuncData}{c2 c5:Addr}
theorem CP {f1 f2 f3 f4 f5:Addr}{fd1 fd2 fd3 fd4 fd5:FuncData}(F:Fn K mg "fewest" nk ["line","train","goal"] f fd)(B:Bm mg)
  (ik:Fn K mg "check_goal" ku ["line","train","goal"] f1 fd1) (jO:fV P w K mg base (CXr P w base) 3 f1 fd1 ["line","train","goal"] (xE K c2))
  (g9:Fn K mg "first_steps" jX ["line","train"] f2 fd2) (jt:fV P w K mg base (CXr P w base) 4 f2 fd2 ["line","train"] (t8 K c5))
  (iK:Fn K mg "lists_of" j8 ["standings"] f3 fd3) (gI:Fn K mg "run_back_from" iU ["steps","goal"] f4 fd4) (mn:Fn K mg "counted" nu ["line","train"] f5 fd5) (sM:fV P w K mg base CX0 5 f5 fd5 ["line","train"] (uf P w K)):
  fV P w K mg base (CXr P w base) 6 f fd ["line","train","goal"] (rV K c2 c5):=by
 have qD:fV P w K mg base CX0 1 f3 fd3 ["standings"] (wt K):=xR iK B
 have lM:fV P w K mg base CX0 1 f4 fd4 ["steps","goal"] (yT P w K):=qZ gI
 refine F.F.okX kH (λvs H Q E h=>?_) (λcdv A outer s H vs Q E hr h=>?_)
 ·obtain⟨v,u,g,l,ns,gs,rfl,_⟩:=h;rfl
 ·obtain⟨v,u,g,l,ns,gs,rfl,hv,hu,hg,ok,hne,hz,T,gl,k⟩:=h
  obtain⟨b,rfl,hb⟩:=ij.mp hg
  refine⟨_,(fE (g7 (fM jO (hr.mono (by decide)) rfl ik.m ik.F.kp ik.b .nil nE (fA (pv 0) (fA (pv 1) (fA (pv 2) fD)))))
 (fE (fR (i:=3) kH.nd rfl (Or.inl rfl) (fZ (yt rfl) rfl B.list cQ (fA (fM jt (hr.mono (by decide)) rfl g9.m g9.F.kp g9.b .nil nE (fA (pv 0) (fA (pv 1) fD))) fD)))
 (fE (fR (i:=4) kH.nd rfl (Or.inl rfl) (fZ gw rfl B.tuple bV (fA (pv 2) fD)))
 (fE (gN (h9 (kK hr.units) (pv 4) (pv 3) (by with_unfolding_all rfl))
 (fH (fT (gy (fA gK (fA (fM qD (hr.mono (by decide)) rfl iK.m iK.F.kp iK.b .nil gu (fA (pv 3) fD)) fD))))) fY)
 (fE (rY (fM sM (hr.mono (by decide)) rfl mn.m mn.F.kp mn.b .nil gu (fA (pv 0) (fA (pv 1) fD))) (ie (n:=2) rfl (fN (fL (i:=5) kH.nd rfl (Or.inr rfl)) (fN (fL (i:=6) kH.nd rfl (Or.inl rfl)) gP))))
 (fE (fR (i:=7) kH.nd rfl (Or.inl rfl) (ze (gB (J7 (qW (mz hr) (pv 5) (gy (fA (pv 4) (fA gK fD))) (λ_ _=>rfl)) (qW (mz hr) (pv 5) (gy (fA (pv 4) (fA gK fD))) (λ_ _=>rfl)))) gK gK))
 (fE (uE (i:=8) kH.nd rfl rfl (gz (pv 3)) rfl sX (.name (by decide)) (λ_ _ _ _=>(fL (i:=0) sX.nd rfl (Or.inl rfl))) (λ_ _ _ _=>iq) (λ_ _ _ _=>(gy (fA (fZ (j4 (K:=K) rfl) rfl B.list cQ (fA (pv 0) fD)) (fA (zd (P:=P) (w:=w) rfl rfl (mz hr) (pv 1) (gy (fA (pv 0) (fA gK fD))) (λ_ _=>rfl)) (fA (zd (P:=P) (w:=w) rfl rfl (mz hr) (pv 1) (gy (fA (pv 0) (fA gK fD))) (λ_ _=>rfl)) fD))))))
 (fH (fT (gy (fA gK (fA (fM lM (hr.mono (by decide)) rfl gI.m gI.F.kp gI.b .nil gu (fA (pv 6) (fA (gy (fA (pv 4) (fA (pv 7) fD))) fD))) (fA (pv 8) fD))))))))))))),?_⟩
  refine⟨_,rfl,_,rfl,_,rfl,_,_,_,l,ns,gs,rfl,hv,hu,hg,ok,gl,λgo H1 s1=>?_,λgo H1 s1 e he=>k.bad go H1 s1 e he⟩
  refine⟨_,rfl,_,rfl,_,_,l,ns,rfl,Da.same s1 hv,Da.same s1 hu,ok,hne,hz,T,λi d us H2 hi Df s2 nd hs2=>?_,λz H2 s2 e he=>k.many go z H2 (s1.trans s2) e he⟩
  have E2:=jd ok T hne i
  have S2:=s1.trans s2
  have kl:(((fO l ns i).zip us).map λp=>(kyI p.1.1,p.2)).length=(fO l ns i).length:=by rw[aa,cz,hs2.len];omega
  refine⟨d,_,rfl,hs2.at_,λp bs np bl be=>?_⟩
  have TL2:Ba (upd H2 p (.lst (bs.map V.ref))) p bs ((fO l ns i).map (·.1)):=by
   refine⟨fC,by rw[bl,kl,aa],λj c t hc ht=>fB np _ _ ?_⟩
   rw[aj]at ht
   cases q:(fO l ns i)[j]? with
   |none=>rw[q]at ht;cases ht
   |some e=>
    rw[q]at ht
    cases ht
    have hj:j<us.length:=by rw[hs2.len];exact(af.mp q).1
    have hz':((fO l ns i).zip us)[j]? = some (e,us[j]):=dD.mpr ⟨q,ah hj⟩
    have:=be j c (kyI e.1,us[j]) hc (by rw[aj,hz'];rfl)
    rwa [ip]at this
  have s3:=fB (o:=.lst (bs.map V.ref)) np
  have S3:=S2.trans s3
  generalize upd H2 p _=H3 at s3 S3 TL2 ⊢
  refine⟨_,rfl,b,_,rfl,.inl ⟨S3.seq hb,λt nt=>?_⟩⟩
  have s4:=fB (o:=.tup (gs.map V.int)) nt
  have ht:=fC (H:=H3) (a:=t) (o:=.tup (gs.map V.int))
  have TL4:=TL2.same s4
  have S4:=S3.trans s4
  generalize upd H3 t _=H4 at s4 ht TL4 S4 ⊢
  refine⟨_,rfl,_,rfl,_,dTu gs,TL4.da,Hw ht,Gu _,Ez _,_,rfl,?_⟩
  rw[Jn]
  refine gT (λhn=>?_) (λhn=>?_)
  ·have hn:gs∉(fO l ns i).map (·.1):=by simpa using hn
   refine⟨_,rfl,p,bs,_,rfl,TL4,by rw[aa];omega,λq bs' H5 FR=>⟨by show 2<=sizeLine;decide,λr nr=>?_⟩⟩
   have s5:=fB (o:=.tup [.str "none",.ref q]) nr
   exact k.no go i hi Df hn r q bs' _ (lT.post s5 (FR.pre S4)) fC (fI.free (S4.trans FR.same) nr)
  ·have hn:gs∈(fO l ns i).map (·.1):=by simpa using hn
   refine⟨_,rfl,_,rfl,v,u,l,ns,i,rfl,Da.same S4 hv,Da.same S4 hu,ok,hne,hz,T,hi,Df,λr t5 cd sd kvs cs us5 H5 he s5 ht5 N5 D5 yg=>?_⟩
   refine⟨t5,_,rfl,SqT.of ht5,rfl,_,_,rfl,_,_,rfl,rfl,?_⟩
   obtain⟨_,htr,hsh⟩:=oG ok T hne hi
   have gG:∀ t∈(fO l ns i).map (·.1),∀ m∈mvs l t,m.2∈(fO l ns i).map (·.1):=λt ht=>(hsh t ht).2
   have full:=RC.full ok (RC.of gG htr (by rw[aa];omega) r) he i
   have BN:=iy.rnd gG htr r
   have RN:=RO.rnd gG htr r
   have rl:=RN.len
   have both:∀ t∈(fO l ns i).map (·.1),∀ wd,isW wd->(t,wd)∈sts (rnd l ns r)/\valN kvs (kS (t,wd))=some (vI (cn l ns r t wd)):=λt ht wd hw=>by
    obtain⟨e,he',rfl⟩:=ao.mp ht
    obtain⟨h1,h2⟩:=full e he' wd hw
    refine⟨h1,?_⟩
    rw[yg]
    unfold cn
    obtain⟨n,hn'⟩:=cN.mp h2
    rw[hn'];rfl
   have S5:=S4.trans s5
   have TL5:=TL4.same s5
   have GI:=s5 _ _ ht
   have EF:∀ {G:Hp}{c b:Addr}{t:List Int}{wd:Str},G c=some (.tup [.ref b,.str wd])->G b=some (.tup (t.map V.int))->jN G c (kS (t,wd)):=λ{G c b t wd} h1 h2=>⟨b,h1,by rw[show(kS (t,wd)).1=kyI t from rfl,ip];exact h2⟩
   have hWd:isW (mM l ns r gs):=by
    unfold mM
    split
    ·exact .inl rfl
    ·exact .inr rfl
   dsimp only
   refine Gb (λσ G=>σ = [some v,some u,some (.ref b),some (.ref p),some (.ref t),some (.ref cd),some (.ref sd),some (.str (mM l ns r gs)),none]/\fI H5 G) (λnx hJ=>?_) (λσ' G hj=>?_)
   ·refine⟨_,rfl,_,rfl,by show 2<=sizeLine;decide,λc1 nc1=>?_⟩
    have z1:=fB (o:=.tup [.ref t,.str "on"]) nc1
    have y1:=fC (H:=H5) (a:=c1) (o:=.tup [.ref t,.str "on"])
    generalize upd H5 c1 _=G1 at z1 y1 ⊢
    refine⟨cd,kvs,c1,kS (gs,onW),_,rfl,rfl,D5.same z1,EF y1 (z1 _ _ GI),(both gs hn onW (.inl rfl)).2,?_⟩
    refine⟨_,rfl,_,rfl,by show 2<=sizeLine;decide,λc2' nc2=>?_⟩
    have z2:=z1.trans (fB (o:=.tup [.ref t,.str "back"]) nc2)
    have y2:=fC (H:=G1) (a:=c2') (o:=.tup [.ref t,.str "back"])
    generalize upd G1 c2' _=G2 at z2 y2 ⊢
    refine⟨cd,kvs,c2',kS (gs,gE),_,rfl,rfl,D5.same z2,EF y2 (z2 _ _ GI),(both gs hn gE (.inr rfl)).2,?_⟩
    refine⟨_,_,rfl,rfl,_,rfl,gT (λh=>?_) (λh=>?_)⟩
    ·have h:(cn l ns r gs onW:Int)<=(cn l ns r gs gE:Int):=by simpa using h
     refine hJ _ _ ⟨?_,z2⟩
     unfold mM
     rw[aJ (by omega)]
     rfl
    ·have h:¬(cn l ns r gs onW:Int)<=(cn l ns r gs gE:Int):=by simpa using h
     refine hJ _ _ ⟨?_,z2⟩
     unfold mM
     rw[aE (by omega)]
     rfl
   ·obtain⟨rfl,z5⟩:=hj
    have TL6:=TL5.same z5
    have D6:=D5.same z5
    have N6:=N5.same z5
    have ht6:=z5 _ _ GI
    have S6:=S5.trans z5
    clear yg D5 N5 TL5 TL4 GI
    refine⟨_,rfl,p,rfl,⟨_,SqL.of TL6.at_⟩,λq nq=>?_⟩
    refine EW ((fO l ns i).map (·.1)).length (kb l ns r ((fO l ns i).map (·.1))) (lS H) (λr v=>lS.mono r v) nq (by simp[kb]) (i7 (by rw[aa];omega)) (λj G' sm hj=>⟨_,(bs.map V.ref)[j]'(by rw[aa,TL6.len];exact hj),SqL.of (sm _ _ TL6.at_),ah _⟩) (λG' sm=>⟨_,SqL.of (sm _ _ TL6.at_),by rw[aa,TL6.len];exact au _⟩) ?_ ?_
    ·rintro j x rw3 G6 G7 sm ⟨acc,hq⟩ ⟨rfl,hx⟩ hr3 P1 P0 kk
     have hx:=hx _ (SqL.of (sm _ _ TL6.at_))
     unfold kb at hr3
     rw[aj]at hr3
     cases hts:((fO l ns i).map (·.1))[j]? with
     |none=>rw[hts]at hr3;cases hr3
     |some tt=>
      rw[hts]at hr3
      cases hr3
      have htm:=av hts
      have hjb:j<bs.length:=by rw[TL6.len];exact(af.mp hts).1
      have hb0:bs[j]? = some bs[j]:=ah hjb
      generalize bs[j]=bb at hb0
      have ex:x=V.ref bb:=by rw[aj,hb0]at hx;simpa using hx.symm
      subst ex
      have hbb:=sm _ _ (TL6.each j bb tt hb0 hts)
      refine jF ?_
      refine⟨_,rfl,bb,_,rfl,.inr (SqT.of hbb),λnb nnb=>?_⟩
      have w1:=fB (o:=.lst (tt.map V.int)) nnb
      have hnb:=fC (H:=G7) (a:=nb) (o:=.lst (tt.map V.int))
      generalize upd G7 nb _=G8 at w1 hnb ⊢
      refine⟨_,rfl,_,rfl,by show 2<=sizeLine;decide,λc1 nc1=>?_⟩
      have w2:=w1.trans (fB (o:=.tup [.ref bb,.str "on"]) nc1)
      have y1:=fC (H:=G8) (a:=c1) (o:=.tup [.ref bb,.str "on"])
      have KN:=fB (o:=.tup [.ref bb,.str "on"]) nc1 _ _ hnb
      generalize upd G8 c1 _=G9 at w2 y1 KN ⊢
      refine⟨cd,kvs,c1,kS (tt,onW),_,rfl,rfl,D6.same (sm.trans w2),EF y1 (w2 _ _ hbb),(both tt htm onW (.inl rfl)).2,?_⟩
      refine⟨_,rfl,_,rfl,by show 2<=sizeLine;decide,λc2' nc2=>?_⟩
      have w3:=w2.trans (fB (o:=.tup [.ref bb,.str "back"]) nc2)
      have y2:=fC (H:=G9) (a:=c2') (o:=.tup [.ref bb,.str "back"])
      have KL:=fB (o:=.tup [.ref bb,.str "back"]) nc2 _ _ KN
      generalize upd G9 c2' _=G10 at w3 y2 KL ⊢
      refine⟨cd,kvs,c2',kS (tt,gE),_,rfl,rfl,D6.same (sm.trans w3),EF y2 (w3 _ _ hbb),(both tt htm gE (.inr rfl)).2,?_⟩
      refine⟨by show 3<=sizeLine;decide,λnt nnt=>kk _ _ (w3.trans (fB nnt)) ?_⟩
      have nbq:nb≠q:=(fK hq nnb).symm
      have ntq:nt≠q:=(fK (w3 _ _ hq) nnt).symm
      exact⟨nt,nb,rfl,by rw[gY ntq,fC],by rw[gY nbq];exact fB nnt _ _ KL,fI.free (S6.trans sm) nnb⟩
    ·intro vs8 G8 sm h8 D8
     refine⟨_,rfl,_,rfl,_,rfl,by show 2<=sizeLine;decide,λc3 nc3=>?_⟩
     have w1:=fB (o:=.tup [.ref t,.str (mM l ns r gs)]) nc3
     have y3:=fC (H:=G8) (a:=c3) (o:=.tup [.ref t,.str (mM l ns r gs)])
     generalize upd G8 c3 _=G9 at w1 y3 ⊢
     have w2:=sm.trans w1
     refine⟨sd,c3,_,cs,us5,(gs,mM l ns r gs),rfl,N6.same w2,EF y3 (w2 _ _ ht6),(both gs hn _ hWd).1,BN,RN.nd,by rw[aa]at rl;omega,λq1 run G10 w3 nq1 ra pn=>⟨_,rfl,by show 3<=sizeLine;decide,λt9 nt9=>?_⟩⟩
     have w4:=fB (o:=.tup [.str "run",.ref q1,.ref q]) nt9
     have S8:=S6.trans w2
     have R8:ox H G9 q (kb l ns r ((fO l ns i).map (·.1))) vs8:=(ox.mk h8 (fI.free S6 nq) D8).same w1
     have hqq:q1≠q:=bI (fK R8.at_ nq1)
     exact k.yes go i hi Df hn r t9 q1 run q vs8 _ he ((S8.trans w3).trans w4) (ra.same w4) (fI.free S8 nq1) pn ((R8.same w3).same w4) hqq fC (fI.free (S8.trans w3) nt9)
end
def uh (K:PySem.W.Frag):Sp:=λvs H Q _=>∃ (r:V) (run:List (Str×Int)),vs = [r]/\Da K H (dR run) r/\run.length<=100000/\∀ H',fI H H'->Q (.int (chg (run.map (·.1)))) H'
theorem ones (xs:List Nat):(xs.map λ_=>V.int 1)=(List.replicate xs.length (1:Int)).map V.int:=by
 induction xs with
 |nil=>rfl
 |cons x r ih=>simp only[bg,aR,List.replicate_succ];rw[ih]
theorem yH:∀ n,(List.replicate n (1:Int)).sum=n
 | 0=>rfl
 |n+1=>by rw[List.replicate_succ,List.sum_cons,yH n];omega
abbrev md:Stmt:=top 37
theorem uy:gj ["run","words"] ["run"] (fJ md):=⟨rfl,rfl,rfl,by decide +kernel,rfl,by decide +kernel,by decide +kernel⟩
theorem ot:gH (fJ md) ["run","words"] {kind:=.function,names:=[(Str.ofString ".0",.local),(Str.ofString "word",.local),(Str.ofString "end",.local)],isGenerator:=false,isCoroutine:=false,more:=[]} ["word","end"] 2 [none,none]:=⟨rfl,by decide +kernel,by decide +kernel,by decide +kernel,rfl,by decide +kernel,rfl,by decide +kernel⟩
theorem oq:gH (fJ md) ["run","words"] {kind:=.function,names:=[(Str.ofString ".0",.local),(Str.ofString "ahead",.local),(Str.ofString "behind",.local)],isGenerator:=false,isCoroutine:=false,more:=[]} ["ahead","behind"] 2 [none,none]:=⟨rfl,by decide +kernel,by decide +kernel,by decide +kernel,rfl,by decide +kernel,rfl,by decide +kernel⟩
section
variable {P:Program}{w:World}{K:PySem.W.Frag}{mg:Str->Option Value}{base:Heap}{f:Addr}{fd:FuncData}
theorem AD (F:Fn K mg "changes" md ["run"] f fd)(B:Bm mg):fV P w K mg base CX0 1 f fd ["run"] (uh K):=by
 refine F.F.ok uy (λvs H Q E h=>?_) (λcdv A outer s H vs Q E hr h=>?_)
 ·obtain⟨r,run,rfl,_⟩:=h;rfl
 ·obtain⟨r,run,rfl,hr0,hz,k⟩:=h
  obtain⟨ar,vr,rfl,har,hvr⟩:=ia.mp hr0
  have hlr:vr.length=run.length:=by have:=Dgs.length hvr;rw[aa]at this;exact this
  refine⟨_,(fE (uE (i:=1) uy.nd rfl rfl (gz (pv 0)) rfl ot (.tup (.cons (.name (by decide)) (.cons (.name (by decide)) .nil))) (λ_ _ _ _=>(ie (n:=2) rfl (fN (fL (i:=0) ot.nd rfl (Or.inl rfl)) (fN (fL (i:=1) ot.nd rfl (Or.inl rfl)) gP)))) (λ_ _ _ _=>iq) (λ_ _ _ _=>(pv 0)))
 (fH (fT (fQ (FG rfl) rfl B.sum boot_sum (fA (lP (El rfl B.zip (fA (pv 1) (fA (nC pK (pv 1) (nU fF) pR) fD))) rfl oq (.tup (.cons (.name (by decide)) (.cons (.name (by decide)) .nil))) (λ_ _ _ _=>(ie (n:=2) rfl (fN (fL (i:=0) oq.nd rfl (Or.inl rfl)) (fN (fL (i:=1) oq.nd rfl (Or.inl rfl)) gP)))) (λ_ _ _ _=>(kz (h9 BC (pv 0) (pv 1) (iT _)))) (λ_ _ _ _=>fF)) fD))))),?_⟩
  refine⟨_,rfl,ar,rfl,⟨_,har⟩,λp np=>zA (ig har) run (λ_=>true) (λk=>V.str k.1) np hlr (i7 (by omega)) ?_ ?_⟩
  ·intro i x d H' hx hd sm P1 P0 p1 p0
   obtain⟨k',hk',dk⟩:=A0 hvr hx
   rw[hd]at hk';cases hk'
   obtain⟨ad,rfl,ht⟩:=zR dk
   refine⟨ad,_,rfl,gd sm ht,rfl,_,_,rfl,_,_,rfl,rfl,?_⟩
   refine HC ?_
   exact⟨_,rfl,p1 rfl⟩
  rw[kM]
  have e1:(run.map λk=>V.str k.1)=(run.map (·.1)).map V.str:=by rw[bz];rfl
  rw[e1]
  generalize hws:run.map (·.1)=ws at k ⊢
  have hwl:ws.length=run.length:=by rw[<-hws,aa]
  have s1:=fB (o:=.lst (ws.map V.str)) np
  have hp:=fC (H:=H) (a:=p) (o:=.lst (ws.map V.str))
  generalize upd H p _=H1 at s1 hp ⊢
  refine⟨_,rfl,_,rfl,_,rfl,p,_,rfl,SqL.of hp,λt nt=>?_⟩
  rw[Fz _ (by decide)]
  have s2:=fB (o:=.lst ((ws.map V.str).drop (1:Int).toNat)) nt
  have ht:=fC (H:=H1) (a:=t) (o:=.lst ((ws.map V.str).drop (1:Int).toNat))
  have hp2:=s2 _ _ hp
  generalize upd H1 t _=H2 at s2 ht hp2 ⊢
  have gx:∀ i,i<ws.length-1->∃ x y,ws[i]? = some x/\ws[i+1]? = some y/\(ws.map V.str)[i]? = some (V.str x)/\((ws.map V.str).drop (1:Int).toNat)[i]? = some (V.str y):=λi hi=>by
   have h1:i<ws.length:=by omega
   have h2:i+1<ws.length:=by omega
   refine⟨ws[i],ws[i+1],by simp,by simp,by rw[aj,ah h1];rfl,?_⟩
   rw[cI,show(1:Int).toNat+i=i+1 by have:(1:Int).toNat=1:=rfl;omega,aj,ah h2];rfl
  refine⟨p,t,rfl,⟨_,SqL.of hp2⟩,⟨_,SqL.of ht⟩,λq nq=>tM (ws.length-1) (List.range (ws.length-1)) (chp ws) (λ_=>V.int 1) nq (by simp) (i7 (by omega)) (λi H sm hi=>?_) (λH sm=>?_) ?_ ?_⟩
  ·obtain⟨x,y,_,_,g1,g2⟩:=gx i hi
   exact⟨_,_,_,_,SqL.of (sm _ _ hp2),SqL.of (sm _ _ ht),g1,g2⟩
  ·refine⟨_,_,SqL.of (sm _ _ hp2),SqL.of (sm _ _ ht),.inr ?_⟩
   rw[bE,aa]
   exact au _
  ·intro i x d H H' sm y hd P1 P0 p1 p0
   have hdi:d=i/\i<ws.length-1:=by
    have h1:=af.mp hd
    obtain⟨h2,h3⟩:=h1
    rw[List.getElem_range]at h3
    rw[cj]at h2
    exact⟨h3.symm,h2⟩
   obtain⟨rfl,hi⟩:=hdi
   obtain⟨wx,wy,w1,w2,g1,g2⟩:=gx d hi
   obtain⟨pt,npt,rfl,e⟩:=y
   have e:=e _ _ _ _ (SqL.of (sm _ _ hp2)) (SqL.of (sm _ _ ht)) g1 g2
   subst e
   have st:=fB (o:=.tup [V.str wx,V.str wy]) npt
   refine⟨pt,_,rfl,SqT.of fC,rfl,_,_,rfl,_,_,rfl,rfl,?_⟩
   have hc:chp ws d = !decide (V.str wx=V.str wy):=by
    unfold chp
    rw[w1,w2]
    congr 1
    by_cases h:wx=wy
    ·subst h;simp
    ·have h2:¬V.str wx=V.str wy:=λz=>h (V.str.inj z)
     have h3:¬some wx=some wy:=λz=>h (aP z)
     rw[aU h2,aU h3]
   refine⟨_,rfl,_,rfl,rfl,_,rfl,gT (λh=>?_) (λh=>?_)⟩
   ·exact p1 _ (hc.trans h) st
   ·exact p0 _ (hc.trans (by simpa using h)) st
  ·intro H3 s3 hq
   rw[ones]at hq
   refine⟨q,_,rfl,SqL.of hq,?_⟩
   rw[yH]
   exact k H3 (s1.trans (s2.trans s3))
end
noncomputable def dec (p:Prop):Bool:=@decide p (Classical.propDecidable p)
theorem B9 {p:Prop}(h:p):dec p=true:=by unfold dec;exact @decide_eq_true p (Classical.propDecidable p) h
theorem rA {p:Prop}(h:¬p):dec p=false:=by unfold dec;exact @decide_eq_false p (Classical.propDecidable p) h
theorem p8 {p:Prop} :dec p=true↔p:=by unfold dec;exact @decide_eq_true_iff p (Classical.propDecidable p)
def Bo (K:PySem.W.Frag):Sp:=λvs H Q _=>∃ (v u x:V) (l:Ln) (tr s:List Int),vs = [v,u,x]/\Da K H (dL l) v/\Da K H (dI tr) u/\Da K H (dI s) x/\gv l/\s.length<=900/\∀ H',fI H H'->Q (.bl (dec (xB l tr s))) H'
def yU (K:PySem.W.Frag):Sp:=λvs H Q _=>∃ (v u x:V) (l:Ln) (tr:List Int) (ss:List (List Int)),vs = [v,u,x]/\Da K H (dL l) v/\Da K H (dI tr) u/\Da K H (dLI ss) x/\gv l/\ss.length<=1500/\(∀ s∈ss,s.length<=900)/\∀ H',fI H H'->Q (.bl (dec (tj l tr ss))) H'
abbrev kZ:Stmt:=top 26
theorem ux:gj ["line","train","listed"] ["line","train","listed"] (fJ kZ):=⟨rfl,rfl,rfl,by decide +kernel,rfl,by decide +kernel,by decide +kernel⟩
abbrev iV:Stmt:=top 27
theorem rW:gj ["line","train","standings"] ["line","train","standings"] (fJ iV):=⟨rfl,rfl,rfl,by decide +kernel,rfl,by decide +kernel,by decide +kernel⟩
theorem mE:gH (fJ iV) ["line","train","standings"] {kind:=.function,names:=[(Str.ofString ".0",.local),(Str.ofString "standing",.local),(Str.ofString "tuple",.globalImplicit)],isGenerator:=false,isCoroutine:=false,more:=[]} ["standing"] 1 [none]:=⟨rfl,by decide +kernel,by decide +kernel,by decide +kernel,rfl,by decide +kernel,rfl,by decide +kernel⟩
theorem mD:gH (fJ iV) ["line","train","standings"] {kind:=.function,names:=[(Str.ofString ".0",.local),(Str.ofString "standing",.local),(Str.ofString "is_standing",.globalImplicit),(Str.ofString "line",.free),(Str.ofString "train",.free)],isGenerator:=false,isCoroutine:=false,more:=[]} ["standing","line","train"] 1 [none,some 0,some 1]:=⟨rfl,by decide +kernel,by decide +kernel,by decide +kernel,rfl,by decide +kernel,rfl,by decide +kernel⟩
section
variable {P:Program}{w:World}{K:PySem.W.Frag}{mg:Str->Option Value}{base:Heap}{f:Addr}{fd:FuncData}{c2:Addr}
theorem uP {f1:Addr}{fd1:FuncData}(F:Fn K mg "is_standing" kZ ["line","train","listed"] f fd)(XS:Xr K mg c2)(B:Bm mg)(hG:Fn K mg "check_train" jr ["line","train"] f1 fd1)(ju:fV P w K mg base (CXr P w base) 2 f1 fd1 ["line","train"] (ug K c2)):
  fV P w K mg base CX0 3 f fd ["line","train","listed"] (Bo K):=by
 refine F.F.ok ux (λvs H Q E h=>?_) (λcdv A outer s H vs Q E hr h=>?_)
 ·obtain⟨v,u,x,l,tr,s,rfl,_⟩:=h;rfl
 ·obtain⟨v,u,x,l,tr,s,rfl,hv,hu,hx,ok,hz,k⟩:=h
  obtain⟨a,rfl,hA⟩:=ij.mp hu
  obtain⟨b,rfl,hB⟩:=ij.mp hx
  refine⟨_,(fE (gN (gB (qv (fQ gh rfl B.len bT (fA (pv 2) fD)) (fQ gh rfl B.len bT (fA (pv 1) fD))))
 (fH (fT i8)) fY)
 (fE (Gi rfl rfl rfl rfl XS.ji.m (λpn W E hW=>(fH (g7 (zh ju (hr.mono (by decide)) rfl hG.m hG.F.kp hG.b .nil hW (fA (pv 0) (fA (pv 2) fD)))))) (λe=>(fH (fT i8))))
 (fH (fT i8)))),?_⟩
  refine⟨_,rfl,b,_,rfl,.inl hB,_,rfl,a,_,rfl,.inl hA,_,_,rfl,rfl,_,rfl,gT (λh=>?_) (λh=>?_)⟩
  ·have h:¬(s.length:Int)=tr.length:=by simpa using h
   have h:¬s.length=tr.length:=by omega
   have:=k H (fI.refl _)
   rw[rA λz:xB l tr s=>h z.1]at this
   exact this
  have h:(s.length:Int)=tr.length:=by simpa using h
  have h:s.length=tr.length:=by omega
  refine⟨_,rfl,_,rfl,_,_,l,s,rfl,hv,hx,ok,hz,λhT H1 s1=>?_,λhT H1 s1 e ne=>?_⟩
  ·have:=k H1 s1
   rw[B9 (show xB l tr s from⟨h,hT⟩)]at this
   exact this
  ·refine⟨e,c2,rfl,rfl,XS.cat,?_⟩
   have:=k _ (s1.trans (fB (o:=vG e c2) ne))
   rw[rA λz:xB l tr s=>hT z.2]at this
   exact this
theorem sf {f1:Addr}{fd1:FuncData}(F:Fn K mg "are_standings" iV ["line","train","standings"] f fd)(B:Bm mg)(jx:Fn K mg "is_standing" kZ ["line","train","listed"] f1 fd1)(ng:fV P w K mg base CX0 3 f1 fd1 ["line","train","listed"] (Bo K)):
  fV P w K mg base CX0 4 f fd ["line","train","standings"] (yU K):=by
 refine F.F.ok rW (λvs H Q E h=>?_) (λcdv A outer s H vs Q E hr h=>?_)
 ·obtain⟨v,u,x,l,tr,ss,rfl,_⟩:=h;rfl
 ·obtain⟨v,u,x,l,tr,ss,rfl,hv,hu,hx,ok,hz,hzs,k⟩:=h
  obtain⟨a,us,rfl,hA,D⟩:=ia.mp hx
  have ul:us.length=ss.length:=by have:=Dgs.length D;rw[aa]at this;exact this
  refine⟨_,(fE (gN (gB (qY (fQ DE rfl B.len bT (fA (Ig (jI hr) (gz (pv 2)) rfl mE (.name (by decide)) (λ_ _ _ _=>(fL (i:=0) mE.nd rfl (Or.inl rfl))) (λ_ _ _ _=>iq) (λ_ _ _ _=>(fZ (pq (K:=K) rfl) rfl B.tuple bV (fA (pv 0) fD)))) fD)) (fQ gh rfl B.len bT (fA (pv 2) fD))))
 (fH (fT i8)) fY)
 (fH (fT (fQ (Ac rfl) rfl B.all boot_all (fA (lP (gz (pv 2)) rfl mD (.name (by decide)) (λ_ _ _ _=>(fL (i:=0) mD.nd rfl (Or.inl rfl))) (λ_ _ _ _=>iq) (λ_ _ _ _=>(fM ng (hr.mono (by decide)) rfl jx.m jx.F.kp jx.b .nil gu (fA (pv 1) (fA (pv 2) (fA (pv 0) fD)))))) fD))))),?_⟩
  refine⟨_,rfl,a,rfl,⟨_,hA⟩,λp np=>?_⟩
  refine⟨λi m G=>m=ss.length-i/\i<=ss.length/\fI H G/\∃ xs:List (List Key×Addr),G p=some (qh P w p xs)/\px K G xs/\xs.length<=i/\(keysOf xs).Nodup/\∀ kk,kk∈keysOf xs↔kk∈(ss.take i).map kyI,⟨ss.length,by simp,aK _,fB np,[],fC,λx hx=>(nomatch hx),au _,cH,λkk=>by simp[keysOf]⟩,?_⟩
  ·rintro i m G ⟨rfl,hi,sG,xs,hp,hT,xl,xnd,xm⟩
   by_cases hlt:i<ss.length
   ·refine .inr ⟨(ig hA).go i G sG (by omega),λG'=>(i+1)<=ss.length/\fI H G'/\∃ xs:List (List Key×Addr),G' p=some (qh P w p xs)/\px K G' xs/\xs.length<=i+1/\(keysOf xs).Nodup/\∀ kk,kk∈keysOf xs↔kk∈(ss.take (i+1)).map kyI,λG' ⟨n1,n2,n3⟩=>⟨ss.length-(i+1),by omega,rfl,n1,n2,n3⟩,λy G' yy=>?_⟩
    obtain⟨rfl,hy⟩:=(ig hA).yld i G y G' sG (by omega) yy
    obtain⟨st,ad,hst,rfl,hL⟩:=Hj (Das.same sG D) hy
    have htk:∀ kk,kk∈(ss.take (i+1)).map kyI↔kk∈(ss.take i).map kyI\/kk=kyI st:=λkk=>by
     rw[bh,hst,aB,aF]
     simp
    unfold oW Cy
    dsimp only
    rw[aJ rfl]
    refine⟨_,rfl,ad,_,rfl,.inl ⟨hL,λb nb=>?_⟩⟩
    have sb:=fB (o:=.tup (st.map V.int)) nb
    refine⟨xs,kyI st,b,rfl,sb _ _ hp,hT.same sb,by rw[ip];exact SqT.of fC,by omega,λhk=>?_,λhk xs' pm=>?_⟩
    ·refine⟨hlt,sG.trans sb,xs,sb _ _ hp,hT.same sb,by omega,xnd,λkk=>?_⟩
     rw[htk,xm]
     exact⟨λz=>.inl z,λz=>z.elim id λe=>by rw[e];exact(xm _).mp hk⟩
    ·have hbp:(upd G' b (.tup (st.map V.int))) p=some (qh P w p xs):=sb _ _ hp
     refine⟨hlt,fI.upd (sG.trans sb) np,xs',fC,λz hz=>?_,by rw[pm.length_eq,ak];show xs.length+1<=_;omega,?_,λkk=>?_⟩
     ·have hz':SqT K (upd G' b (.tup (st.map V.int))) z.2 (z.1.map kV):=by
       rcases aF.mp (pm.mem_iff.mp hz)with q |q
       ·exact gd sb (hT z q)
       ·rw[bx.mp q,ip];exact SqT.of fC
      rcases hz' with(q |⟨o,q⟩)|q
      ·exact .inl (.inl (by rw[fG λe=>by rw[e,hbp]at q;cases q];exact q))
      ·exact .inl (.inr ⟨o,by rw[fG λe=>by rw[e,hbp]at q;cases q];exact q⟩)
      ·exact .inr q
     ·have:(keysOf (xs ++ [(kyI st,b)])).Nodup:=by
       unfold keysOf
       rw[aB,bQ]
       refine⟨xnd,by simp,λa ha b' hb'=>?_⟩
       have:b'=kyI st:=by simpa using hb'
       rw[this]
       exact λe=>hk (by rw[<-e];exact ha)
      exact(pm.map _).nodup_iff.mpr this
     ·have:kk∈keysOf xs'↔kk∈keysOf (xs ++ [(kyI st,b)]):=(pm.map _).mem_iff
      rw[this,htk,<-xm]
      unfold keysOf
      rw[aB,aF]
      simp
   ·have e:i=ss.length:=by omega
    subst e
    refine .inl ⟨by have:=(ig hA).stop G sG;rw[ul]at this;exact this,?_⟩
    rw[br]at xm
    have hlt:=IC xnd xm
    have kl:(keysOf xs).length=xs.length:=by unfold keysOf;rw[aa]
    rw[kl]at hlt
    refine⟨p,xs,rfl,hp,_,rfl,a,_,rfl,.inl (sG.seq hA),_,_,rfl,rfl,_,rfl,gT (λh=>?_) (λh=>?_)⟩
    ·have h:(xs.length:Int)<us.length:=by simpa using h
     have:=k G sG
     rw[rA λz:tj l tr ss=>hlt.mp (by omega) z.1]at this
     exact this
    have h:¬(xs.length:Int)<us.length:=by simpa using h
    have hnd:ss.Nodup:=aY λz=>by have:=hlt.mpr z;omega
    refine⟨_,rfl,a,rfl,⟨_,sG.seq hA⟩,λq nq=>tM ss.length ss (λ_=>true) (λst=>V.bl (dec (xB l tr st))) nq rfl (bY hz (by rw[cJ];decide)) (λi G2 s2 hi=>(ig hA).go i G2 (sG.trans s2) (by omega)) (λG2 s2=>by have:=(ig hA).stop G2 (sG.trans s2);rw[ul]at this;exact this) ?_ ?_⟩
    ·intro i y d G2 G2' s2 yy hd P1 P0 p1 p0
     obtain⟨rfl,hy⟩:=(ig hA).yld i G2 y G2' (sG.trans s2) (by have:=(af.mp hd).1;omega) yy
     obtain⟨st,ad,hst,rfl,hL⟩:=Hj (Das.same (sG.trans s2) D) hy
     rw[hd]at hst
     cases hst
     refine jF ?_
     exact⟨_,rfl,_,rfl,_,rfl,_,_,_,l,tr,d,rfl,Da.same (sG.trans s2) hv,Da.same (sG.trans s2) hu,ij.mpr ⟨ad,rfl,hL⟩,ok,hzs d (av hd),λG3 s3=>p1 G3 rfl s3⟩
    intro G2 s2 hq
    rw[kM]at hq
    refine⟨q,ss.map λst=>dec (xB l tr st),rfl,SqL.of (by rw[hq,bz];rfl),?_⟩
    have e:(ss.map λst=>dec (xB l tr st)).all id=dec (tj l tr ss):=by
     rw[bJ,fy,p8]
     constructor
     ·exact λz=>⟨hnd,λst hs=>p8.mp (z _ (ao.mpr ⟨st,hs,rfl⟩))⟩
     ·rintro z b hb
      obtain⟨st,hs,rfl⟩:=ao.mp hb
      exact p8.mpr (z.2 st hs)
    rw[e]
    exact k G2 (sG.trans s2)
end
def t7 (K:PySem.W.Frag):Sp:=λvs H Q _=>∃ (v:V) (l:Int×List (Int×Int)) (c n:Int),vs = [v,.int c,.int n]/\Da K H (dL l) v/\gv l/\0<=n/\n<=40/\
 ∀ (p:Addr) (ns:List Int) (H':Hp),fI H H'->H p=none->H' p=some (.lst (ns.map V.int))->ns≠ []->ns.length<=40->(ns.length:Int)<=max 1 n->jm l ns->Q (.ref p) H'
abbrev jC:Stmt:=top 46
theorem km:gj ["_law_line_here","_law_cell","_law_length","_law_train_here","_law_k","_law_pieces","_law_some"] ["_law_line_here","_law_cell","_law_length"] (fJ jC):=⟨rfl,rfl,rfl,by decide +kernel,rfl,by decide +kernel,by decide +kernel⟩
theorem o5:gH (fJ jC) ["_law_line_here","_law_cell","_law_length","_law_train_here","_law_k","_law_pieces","_law_some"] {kind:=.function,names:=[(Str.ofString ".0",.local),(Str.ofString "_law_end",.local)],isGenerator:=false,isCoroutine:=false,more:=[]} ["_law_end"] 1 [none]:=⟨rfl,by decide +kernel,by decide +kernel,by decide +kernel,rfl,by decide +kernel,rfl,by decide +kernel⟩
theorem oZ:gH (fJ jC) ["_law_line_here","_law_cell","_law_length","_law_train_here","_law_k","_law_pieces","_law_some"] {kind:=.function,names:=[(Str.ofString ".0",.local),(Str.ofString "_law_end",.local),(Str.ofString "_law_pieces",.free)],isGenerator:=false,isCoroutine:=false,more:=[]} ["_law_end","_law_pieces"] 1 [none,some 5]:=⟨rfl,by decide +kernel,by decide +kernel,by decide +kernel,rfl,by decide +kernel,rfl,by decide +kernel⟩
section
variable {P:Program}{w:World}{K:PySem.W.Frag}{mg:Str->Option Value}{base:Heap}{f:Addr}{fd:FuncData}{D c1 c2 c3 c4 c5 c6 c7:Addr}
theorem xS {f1 f2 f3:Addr}{fd1 fd2 fd3:FuncData}(F:Fn K mg "_law_train" jC ["_law_line_here","_law_cell","_law_length"] f fd)(fP:Fn K mg "_law_mix" kJ ["_law_cell","_law_k"] f1 fd1)(fS:Fn K mg "_law_other" jc ["_law_end"] f2 fd2)
  (gM:Fn K mg "_law_joined" jf ["_law_line_here","_law_end"] f3 fd3) (B:Bl mg):fV P w K mg base CX0 2 f fd ["_law_line_here","_law_cell","_law_length"] (t7 K):=by
 have il:fV P w K mg base CX0 1 f1 fd1 ["_law_cell","_law_k"] ud:=n8 fP B
 have iP:fV P w K mg base CX0 1 f2 fd2 ["_law_end"] kj:=kA fS
 have lY:fV P w K mg base CX0 1 f3 fd3 ["_law_line_here","_law_end"] (lZ K):=qm gM B
 refine F.F.ok km (λvs H Q E h=>?_) (λcdv A outer s H vs Q E hr h=>?_)
 ·obtain⟨v,l,c,n,rfl,_⟩:=h;rfl
 ·obtain⟨v,l,c,n,rfl,hv,ok,h1,h40,k⟩:=h
  obtain⟨a,b,rfl,ht,us,hl,hq⟩:=p9 hv
  have o1:=ok.one
  refine⟨_,(fE (fR (i:=3) km.nd rfl (Or.inl rfl) (iH (fA (fX iB (fM il (hr.mono (by decide)) rfl fP.m fP.F.kp fP.b .nil gu (fA (pv 1) (fA fF fD))) (fX kL fF (gq gD (pv 0) fF (λ_ _=>rfl)))) fD)))
 (fE (iL aV rfl (wO rfl B.range (fA fF (fA (pv 2) fD))) (fL (i:=4) km.nd rfl (Or.inl rfl))
 (fE (fR (i:=5) km.nd rfl (Or.inr rfl) (lP (gz (pv 3)) rfl o5 (.name (by decide)) (λ_ _ _ _=>(fL (i:=0) o5.nd rfl (Or.inl rfl))) (λ_ _ _ _=>iq) (λ_ _ _ _=>(fX jz (pv 0) fF))))
 (fE (uE (i:=6) km.nd rfl rfl (gz (fM lY (hr.mono (by decide)) rfl gM.m gM.F.kp gM.b .nil gu (fA (pv 0) (fA (fM iP (hr.mono (by decide)) rfl fS.m fS.F.kp fS.b .nil gu (fA (gq hV (pv 3) (wQ rR fF) (λ_ _=>rfl)) fD)) fD)))) rfl oZ (.name (by decide)) (λ_ _ _ _=>(fL (i:=0) oZ.nd rfl (Or.inl rfl))) (λ_ _ _ _=>(kz (h9 (uL (K:=K) rfl hr.units) (fX jz (pv 0) fF) (pv 1) (by with_unfolding_all rfl)))) (λ_ _ _ _=>(pv 0)))
 (fE (gN (h9 (nZ hr.units) (pv 6) (iH fD) (iT _))
 (fH (fT (pv 3))) fY)
 (fH (g7 (kF aH bf bc ir (pv 3) (fA (gq hV (pv 6) (fX iB (fM il (hr.mono (by decide)) rfl fP.m fP.F.kp fP.b .nil gu (fA (pv 1) (fA (pv 4) fD))) (fQ gh rfl B.len bT (fA (pv 6) fD))) (λ_ _=>rfl)) fD))))))))
 (fH (fT (pv 3))))),?_⟩
  refine⟨_,rfl,c,0,rfl,by decide,by decide,λm m0 m1=>⟨_,rfl,a,_,_,_,rfl,rfl,ht,rfl,_,_,rfl,rfl,.inl ⟨by decide,by decide⟩,_,_,rfl,rfl,(by show(0:Int)<2*l.1;omega),by show 1<=sizeLine;decide,λt nt=>?_⟩⟩
  have e0:0<=m%(2*l.1):=cL _ (by omega)
  have e1:m%(2*l.1)<2*l.1:=cw _ (by omega)
  refine⟨_,rfl,1,n,rfl,⟨by decide,by decide,by omega,by omega⟩,p7 (λi σ H3=>∃ (ns:List Int) (x4 x5 x6:Option V),σ = [some (.ref a),some (.int c),some (.int n),some (.ref t),x4,x5,x6]/\fI H H3/\H3 t=some (.lst (ns.map V.int))/\ns≠ []/\ns.length=i+1/\jm l ns)
   ⟨[m%(2*l.1)],none,none,none,rfl,fB nt,fC,by simp,rfl,⟨λe he=>(by rw[bx.mp he];exact⟨e0,e1⟩),by simp,λi x y hx hy=>by simp at hy⟩⟩ ?_ ?_⟩
  ·rintro i σ H3 hi ⟨ns,x4,x5,x6,rfl,S3,ht3,hne,nl,T⟩
   have hi':i+1<=39:=by
    have h:i<(n-1).toNat:=hi
    omega
   refine⟨_,rfl,t,rfl,⟨_,SqL.of ht3⟩,λpc npc=>lh ns (λ_=>true) (λe=>V.int (e/2)) npc (SqL.of ht3) (by rw[aa]) (by rw[aa];exact nP (by omega)) ?_ ?_⟩
   ·intro j x d H' hx hd sm P1 P0 k1 k0
    rw[aj,hd]at hx
    cases hx
    refine jF ?_
    exact⟨_,rfl,_,_,rfl,rfl,⟨by decide,by decide⟩,k1 rfl⟩
   rw[kM]
   have e1:(ns.map λe=>V.int (e/2))=(ns.map (· / 2)).map V.int:=by rw[bz];rfl
   rw[e1]
   have s4:fI H3 (upd H3 pc (.lst ((ns.map (· / 2)).map V.int))):=fB npc
   refine⟨_,rfl,_,rfl,_,rfl,t,_,_,_,rfl,rfl,SqL.of (s4 _ _ ht3),yw hne,_,rfl,_,l,_,rfl,Da.same (S3.trans s4) hv,ok,λp H5 s5 hp hp2=>⟨p,rfl,⟨_,SqL.of hp2⟩,λq nq=>lh (jn l.2 (oth (ns.getLastD 0))) (λt=> !decide (t/2∈ns.map (· / 2))) (λt=>V.int t) nq (SqL.of hp2) (by rw[aa]) ?_ ?_ ?_⟩⟩
   ·rw[aa]
    refine nP ?_
    unfold jn
    rw[nO,ak]
    have:=qc ok (oth (ns.getLastD 0))
    omega
   ·intro j x d H' hx hd sm P1 P0 k1 k0
    rw[aj,hd]at hx
    cases hx
    have hD:Da K H' (.list ((ns.map (· / 2)).map .int)) (.ref pc):=Da.same (s5.trans sm) (iu fC)
    refine⟨_,rfl,_,_,rfl,rfl,⟨by decide,by decide⟩,_,rfl,_,.int (d/2),hD,iC.mpr rfl,uS _,rh _,_,rfl,?_⟩
    rw[Ag]
    exact gT (λh=>⟨_,rfl,k1 h⟩) (λh=>k0 (by simpa using h))
   have efr:((jn l.2 (oth (ns.getLastD 0))).filter λt=> !decide (t/2∈ns.map (· / 2)))=fr l ns (oth (ns.getLastD 0)):=rfl
   rw[efr]
   have S6:fI H3 (upd H5 q (.lst ((fr l ns (oth (ns.getLastD 0))).map V.int))):=(s4.trans s5).trans (fB nq)
   refine⟨_,rfl,aK _,λe ne=>?_⟩
   have s7:=fB (o:=.lst []) ne
   have hq7:=s7 _ _ (fC (H:=H5) (a:=q) (o:=.lst ((fr l ns (oth (ns.getLastD 0))).map V.int)))
   refine⟨dI (fr l ns (oth (ns.getLastD 0))),.list [],iu hq7,iu (ns:=[]) fC,jE _,BG,_,rfl,?_⟩
   have ee:PyData.eqv (dI (fr l ns (oth (ns.getLastD 0)))) (.list [])=((fr l ns (oth (ns.getLastD 0))).map PyData.int).isEmpty:=rq _
   rw[ee]
   refine gT (λ_=>?_) (λhem=>?_)
   ·exact⟨_,rfl,k t ns _ (S3.trans (S6.trans s7)) nt (s7 _ _ (S6 _ _ ht3)) hne (by omega) (by have h:i<(n-1).toNat:=hi;omega) T⟩
   ·have AS:0<(fr l ns (oth (ns.getLastD 0))).length:=by
     cases hh:fr l ns (oth (ns.getLastD 0))with
     |nil=>rw[hh]at hem;exact absurd rfl hem
     |cons x r=>simp
    refine⟨_,rfl,.inl ⟨rfl,_,SqL.of (s7 _ _ (S6 _ _ ht3))⟩,_,rfl,_,rfl,_,rfl,c,_,rfl,by show(0:Int)<=1+(i:Int);omega,by show 1+(i:Int)<=1000;omega,λm m0 m1=>?_⟩
    have r0:0<=m%((fr l ns (oth (ns.getLastD 0))).length:Int):=cL _ (by omega)
    have r1:m%((fr l ns (oth (ns.getLastD 0))).length:Int)<((fr l ns (oth (ns.getLastD 0))).length:Int):=cw _ (by omega)
    obtain⟨x,_,sq,hat⟩:=yx r0 r1
    refine⟨_,rfl,q,_,rfl,.inl (SqL.of hq7),_,_,rfl,rfl,?_,q,_,_,V.int x,rfl,rfl,SqL.of hq7,?_,t,_,_,rfl,rfl,s7 _ _ (S6 _ _ ht3),?_,?_⟩
    ·show(0:Int)<(((fr l ns (oth (ns.getLastD 0))).map V.int).length:Int)
     rw[aa];omega
    ·show atI _ (m%(((fr l ns (oth (ns.getLastD 0))).map V.int).length:Int))=_
     rw[aa];exact hat
    ·rw[aa];exact nP (by omega)
    refine⟨ns ++ [x],_,_,_,rfl,fI.upd (S3.trans (S6.trans s7)) nt,?_,by simp,by rw[ak,nl];rfl,T.snoc ok hne sq⟩
    rw[fC,aB];rfl
  rintro σ H3 ⟨ns,x4,x5,x6,rfl,S3,ht3,hne,nl,T⟩
  refine⟨_,rfl,k t ns _ S3 nt ht3 hne ?_ (by rw[nl];omega) T⟩
  have h:ns.length=(n-1).toNat+1:=nl
  omega
end
structure tH (H:Hp)(d:Addr)(es:List Ent):Prop where
 at_:H d=some (.dT (kvR (gi es)))
theorem tH.same {H H':Hp}{d:Addr}{es:List Ent}(h:tH H d es)(s:fI H H'):tH H' d es:=⟨s _ _ h.at_⟩
theorem tH.mem {H:Hp}{d:Addr}{es:List Ent}(h:tH H d es)(t:List Int):(jK (kvR (gi es)) (kyI t)).isSome=decide (t∈es.map (·.1)):=by
 rw[tN,<-iQ]
 cases q:iz (gi es) t with
 |none=>rw[aU (uY q)];rfl
 |some n=>rw[bA (ao.mpr ⟨_,ka q,rfl⟩)];rfl
theorem tH.val {H:Hp}{d:Addr}{es:List Ent}(h:tH H d es){t:List Int}(ht:t∈es.map (·.1)):∃ n,iz (gi es) t=some n/\jK (kvR (gi es)) (kyI t)=some (.int n):=by
 obtain⟨n,hn⟩:=uZ (rows:=gi es) (t:=t) (by rw[iQ];exact ht)
 exact⟨n,hn,by rw[tN,hn];rfl⟩
theorem CL {H:Hp}{d p b:Addr}{es:List Ent}{as:List Addr}{t t':List Int}{k:Str×Int}{n:Int}(hs:tH H d es)(ho:sH H p as es)(hb:H b=some (.lst (t'.map V.int)))(bp:b≠p)(hn:t'∉es.map (·.1))(IZ:n=uU (gi es) (t',some (t,k))):
  tH (upd (upd H d (.dT (putK (kvR (gi es)) (kyI t') (.int n)))) p (.lst (as.map V.ref ++ [V.ref b]))) d (es ++ [(t',some (t,k))])/\
  sH (upd (upd H d (.dT (putK (kvR (gi es)) (kyI t') (.int n)))) p (.lst (as.map V.ref ++ [V.ref b]))) p (as ++ [b]) (es ++ [(t',some (t,k))]):=by
 have hd:=hs.at_
 have hp:=ho.at_
 have dp:d≠p:=gA hd hp (by intro z;cases z)
 have hv:jK (kvR (gi es)) (kyI t')=none:=by
  have:=hs.mem t'
  rw[aU hn]at this
  exact Option.isNone_iff_eq_none.mp (by rw[<-Option.not_isSome,this];rfl)
 have e1:putK (kvR (gi es)) (kyI t') (.int n)=kvR (gi (es ++ [(t',some (t,k))])):=by
  rw[oN _ hv,mx,IZ]
  unfold kvR
  rw[aB];rfl
 have hl:∀ c xs,c≠p->H c=some (.lst xs)->upd (upd H d (.dT (putK (kvR (gi es)) (kyI t') (.int n)))) p (.lst (as.map V.ref ++ [V.ref b])) c=some (.lst xs):=λc xs cp q=>by
  rw[fG cp,fG (gA q hd (by intro z;cases z))];exact q
 refine⟨⟨by rw[fG dp,fC,e1]⟩,⟨by rw[fC,aB];rfl,by rw[ak,ak,ho.len];rfl,λi c e hc he=>?_⟩⟩
 by_cases hi:i<es.length
 ·rw[aq hi]at he
  rw[aq (by rw[ho.len];exact hi)]at hc
  obtain⟨z1,z2⟩:=ho.each i c e hc he
  exact⟨z1,hl c _ z1 z2⟩
 ·have hi2:i=es.length:=by
   have:=(af.mp he).1
   rw[ak,aI]at this
   omega
  rw[hi2,az (au _),bu]at he
  rw[hi2,<-ho.len,az (au _),bu]at hc
  cases he
  cases hc
  exact⟨bp,hl b _ bp hb⟩
def D0 (K:PySem.W.Frag):Sp:=λvs H Q _=>∃ (v:V) (u:Addr) (l:Ln) (ns:List Int),vs = [v,.ref u]/\Da K H (dL l) v/\H u=some (.lst (ns.map V.int))/\gv l/\ns≠ []/\ns.length<=6/\jm l ns/\
 ∀ i t p d as H',(fO l ns i).length=i->fI H H'->H' t=some (.tup [.ref p,.ref d])->sH H' p as (fO l ns i)->tH H' d (fO l ns i)->Q (.ref t) H'
def RF (σ:L2.St)(_:Hp):Nat:=match (σ[4]? :Option (Option V))with
 |some (some (V.int i))=>(4096001-i).toNat
 |_=>0
abbrev pN:Stmt:=top 49
theorem j7:gj ["_law_line_here","_law_train_here","_law_order","_law_numbers","_law_at","_law_move","_law_behind"] ["_law_line_here","_law_train_here"] (fJ pN):=⟨rfl,rfl,rfl,by decide +kernel,rfl,by decide +kernel,by decide +kernel⟩
section
variable {P:Program}{w:World}{K:PySem.W.Frag}{mg:Str->Option Value}{base:Heap}{f:Addr}{fd:FuncData}
theorem Az {f1:Addr}{fd1:FuncData}(F:Fn K mg "_law_web" pN ["_law_line_here","_law_train_here"] f fd)(B:Bm mg)(gO:Fn K mg "_law_moves" jD ["_law_line_here","_law_train_here"] f1 fd1)
  (iZ:fV P w K mg base CX0 2 f1 fd1 ["_law_line_here","_law_train_here"] (lB K)):fV P w K mg base CX0 3 f fd ["_law_line_here","_law_train_here"] (D0 K):=by
 refine F.F.ok j7 (λvs H Q E h=>?_) (λcdv A outer s H vs Q E hr h=>?_)
 ·obtain⟨v,u,l,ns,rfl,_⟩:=h;rfl
 ·obtain⟨v,u,l,ns,rfl,hv,hu,ok,hne,hz,T,k⟩:=h
  refine⟨_,(fE (fR (i:=2) j7.nd rfl (Or.inl rfl) (iH (fA (pv 1) fD)))
 (fE (fR (i:=3) j7.nd rfl (Or.inl rfl) (zg (jI hr) (fZ gw rfl B.tuple bV (fA (pv 1) fD)) fF))
 (fE (fR (i:=4) j7.nd rfl (Or.inl rfl) fF)
 (fE (nz aV (gB (qY (pv 4) (fQ gh rfl B.len bT (fA (pv 2) fD))))
 (fE (iL aV rfl (gz (fM iZ (hr.mono (by decide)) rfl gO.m gO.F.kp gO.b .nil gu (fA (pv 0) (fA (gq hV (pv 2) (pv 4) (λ_ _=>rfl)) fD)))) (ie (n:=2) rfl (fN (fL (i:=5) j7.nd rfl (Or.inl rfl)) (fN (fL (i:=6) j7.nd rfl (Or.inl rfl)) gP)))
 (fH (gN (gB (pT (jI hr) (fZ gw rfl B.tuple bV (fA (pv 6) fD)) (pv 3)))
 (fE (tK (jI hr) (pv 3) (fZ gw rfl B.tuple bV (fA (pv 6) fD)) (fX i9 (lg (jI hr) (pv 3) (fZ gw rfl B.tuple bV (fA (gq hV (pv 2) (pv 4) (λ_ _=>rfl)) fD)) (λ_ _=>rfl)) fF) rfl)
 (fH (g7 (kF aH bf bc ir (pv 2) (fA (pv 6) fD))))) fY)))
 (fH (fR (i:=4) j7.nd rfl (Or.inl rfl) (fX i9 (pv 4) fF)))))
 (fH (fT (gy (fA (pv 2) (fA (pv 3) fD))))))))),?_⟩
  refine⟨_,rfl,by show 1<=sizeLine;decide,λp np=>?_⟩
  have s1:=fB (o:=.lst [V.ref u]) np
  have hp1:=fC (H:=H) (a:=p) (o:=.lst [V.ref u])
  have hu1:=s1 _ _ hu
  have up:u≠p:=fK hu np
  generalize upd H p _=H1 at s1 hp1 hu1 ⊢
  refine λd nd=>⟨_,rfl,u,_,rfl,.inl ⟨SqL.of (fB nd _ _ hu1),λt0 nt0=>?_⟩⟩
  have nd0:=fI.free s1 nd
  have s2:=fB (o:=.dT []) nd
  have s3:=fB (o:=.tup (ns.map V.int)) nt0
  refine⟨_,_,t0,kyI ns,rfl,rfl,by rw[ip];exact fC,s3 _ _ fC,?_⟩
  have hp3:=s3 _ _ (s2 _ _ hp1)
  have hu3:=s3 _ _ (s2 _ _ hu1)
  have S3:=s1.trans (s2.trans s3)
  have dp:p≠d:=fK hp1 nd
  have du:u≠d:=fK hu1 nd
  have S4:fI H (upd (upd (upd H1 d (.dT [])) t0 (.tup (ns.map V.int))) d (.dT [(kyI ns,V.int 0)])):=fI.upd S3 nd0
  have hp4:(upd (upd (upd H1 d (.dT [])) t0 (.tup (ns.map V.int))) d (.dT [(kyI ns,V.int 0)])) p=some (.lst [V.ref u]):=by rw[fG dp];exact hp3
  have hu4:(upd (upd (upd H1 d (.dT [])) t0 (.tup (ns.map V.int))) d (.dT [(kyI ns,V.int 0)])) u=some (.lst (ns.map V.int)):=by rw[fG du];exact hu3
  have hd4:=fC (H:=upd (upd H1 d (.dT [])) t0 (.tup (ns.map V.int))) (a:=d) (o:=.dT [(kyI ns,V.int 0)])
  generalize upd (upd (upd H1 d (.dT [])) t0 (.tup (ns.map V.int))) d (.dT [(kyI ns,V.int 0)])=H4 at S4 hp4 hu4 hd4 ⊢
  refine pG (λσ H4=>∃ (i:Nat) (as:List Addr) (x5 x6:Option V),σ = [some v,some (.ref u),some (.ref p),some (.ref d),some (.int i),x5,x6]/\fI H H4/\tH H4 d (fO l ns i)/\sH H4 p as (fO l ns i)/\i<=(fO l ns i).length)
   RF ⟨0,[u],none,none,rfl,S4,⟨hd4⟩,⟨hp4,rfl,λi b e hb he=>?_⟩,aK _⟩ ?_ ?_
  ·match i,hb,he with
   | 0,hb,he=>cases hb;cases he;exact⟨up,hu4⟩
  ·rintro σ H4 N1 R1 B1 kN1 _ kB1 ⟨i,as,x5,x6,rfl,S4,hs4,ho4,hi⟩
   have E4:=jd ok T hne i
   have b4:=E4.len ok hz
   refine⟨_,rfl,_,rfl,p,_,rfl,.inl (SqL.of ho4.at_),_,_,rfl,rfl,_,rfl,gT (λhlt=>?_) (λhlt=>?_)⟩
   ·have hlt:(i:Int)<((as.map V.ref).length:Int):=by simpa using hlt
    rw[aa,ho4.len]at hlt
    have hi2:i<(fO l ns i).length:=by omega
    have he:(fO l ns i)[i]? = some ((fO l ns i)[i]):=by simp
    generalize (fO l ns i)[i]=e at he
    obtain⟨b,hb,bp,hbt⟩:=ho4.get he
    obtain⟨T1,T2,T3⟩:=E4.tr e (av he)
    have em:e.1∈(fO l ns i).map (·.1):=ao.mpr ⟨e,av he,rfl⟩
    refine⟨_,rfl,_,rfl,_,rfl,p,_,_,_,rfl,rfl,SqL.of ho4.at_,qA (v:=V.ref b) (by omega) (by rw[aj,show((i:Int)).toNat=i by omega,hb];rfl),_,_,l,e.1,rfl,Da.same S4 hv,iu hbt,ok,T3,by omega,λpm vm H6 s6 hpm zF Dm=>?_⟩
    have S6:=S4.trans s6
    have hs6:=hs4.same s6
    have ho6:=ho4.same s6
    have EN:(mvs l e.1).length=vm.length:=by have:=Dm.length;rw[aa]at this;exact this.symm
    have pmp:pm≠p:=bI (fK ho4.at_ hpm)
    have pmd:pm≠d:=bI (fK hs4.at_ hpm)
    have b7:∀ j,(gW e.1 ((mvs l e.1).take j) (fO l ns i)).length<=4096000:=λj=>by
     have h1:=(oJ (t:=e.1) (mvs l e.1) (fO l ns i) j).length_le
     rw[<-nh he]at h1
     have h2:=(jd ok T hne (i+1)).len ok hz
     omega
    refine⟨pm,rfl,⟨_,SqL.of zF⟩,iW (K:=K) (a:=pm) (xs:=vm) (λj σ H7=>∃ (as':List Addr) (x5 x6:Option V),σ = [some v,some (.ref u),some (.ref p),some (.ref d),some (.int i),x5,x6]/\
      fI H H7/\fI (zH d p H6) H7/\tH H7 d (gW e.1 ((mvs l e.1).take j) (fO l ns i))/\sH H7 p as' (gW e.1 ((mvs l e.1).take j) (fO l ns i)))
     ⟨as,x5,x6,rfl,S6,λb u h=>gQ (p:=d) b u (gQ (p:=p) b u h),hs6,ho6⟩ (λj σ H7 _ ⟨_,_,_,_,_,sm,_⟩=>SqL.of (sm _ _ (by rw[mR pmd pmp];exact zF))) ?_ ?_⟩
    ·rintro j y σ H7 N R B kN _ hj ⟨as',y5,y6,rfl,S7,sm,hs7,ho7⟩
     obtain⟨m,ad,p1,bb,hm,rfl,ht,dm,hbb,nbb,_⟩:=zt Dm hj
     have bbp:bb≠p:=bI (fK ho4.at_ nbb)
     have bbd:bb≠d:=bI (fK hs4.at_ nbb)
     have ht7:=gd sm (vy hs6.at_ ho6.at_ ht)
     have Dp:H7 bb=some (.lst (m.2.map V.int)):=sm _ _ (by rw[mR bbd bbp];exact hbb)
     have b7j:=b7 j
     refine⟨ad,_,rfl,ht7,rfl,_,_,rfl,_,_,rfl,rfl,?_⟩
     refine⟨_,rfl,bb,_,rfl,.inl ⟨SqL.of Dp,λst nst=>?_⟩⟩
     have s8:=fB (o:=.tup (m.2.map V.int)) nst
     have hst:=fC (H:=H7) (a:=st) (o:=.tup (m.2.map V.int))
     have hs8:=hs7.same s8
     have ho8:=ho7.same s8
     have S8:=S7.trans s8
     have sm8:=sm.trans s8
     have K0:=s8 _ _ Dp
     generalize upd H7 st _=H8 at s8 hst hs8 ho8 S8 sm8 K0 ⊢
     refine⟨_,rfl,d,_,rfl,pF.t (k:=kyI m.2) hs8.at_ (by rw[ip];exact hst),_,rfl,?_⟩
     rw[hs8.mem m.2]
     have oI:gW e.1 ((mvs l e.1).take (j+1)) (fO l ns i)=m8 e.1 (gW e.1 ((mvs l e.1).take j) (fO l ns i)) m:=um hm
     have pre:fO l ns i <+:gW e.1 ((mvs l e.1).take j) (fO l ns i):=pL _ _ _
     refine gT (λhn=>?_) (λhn=>?_)
     ·have hn:m.2∉(gW e.1 ((mvs l e.1).take j) (fO l ns i)).map (·.1):=by simpa using hn
      have ni:gW e.1 ((mvs l e.1).take (j+1)) (fO l ns i)=gW e.1 ((mvs l e.1).take j) (fO l ns i) ++ [(m.2,some (e.1,m.1))]:=by
       rw[oI];unfold m8;rw[aE hn]
      have he7:(gW e.1 ((mvs l e.1).take j) (fO l ns i))[i]? = some e:=by
       obtain⟨r,hr⟩:=pre
       rw[<-hr,aq hi2];exact he
      have em7:e.1∈(gW e.1 ((mvs l e.1).take j) (fO l ns i)).map (·.1):=ao.mpr ⟨e,av he7,rfl⟩
      generalize gW e.1 ((mvs l e.1).take j) (fO l ns i)=es at *
      obtain⟨b2,g1,g2,g3⟩:=ho8.get he7
      refine⟨_,rfl,_,rfl,_,rfl,p,_,_,_,rfl,rfl,SqL.of ho8.at_,qA (v:=V.ref b2) (by omega) (by rw[aj,show((i:Int)).toNat=i by omega,g1];rfl),b2,_,rfl,.inl ⟨SqL.of g3,λst2 Ir=>?_⟩⟩
      have s9:=fB (o:=.tup (e.1.map V.int)) Ir
      have Fb:=fC (H:=H8) (a:=st2) (o:=.tup (e.1.map V.int))
      have hs9:=hs8.same s9
      have ho9:=ho8.same s9
      have S9:=S8.trans s9
      have sm9:=sm8.trans s9
      have Jf:=s9 _ _ K0
      generalize upd H8 st2 _=H9 at s9 Fb hs9 ho9 S9 sm9 Jf ⊢
      obtain⟨n,hl9,hn9⟩:=hs9.val em7
      refine⟨d,.int n,rfl,by rw[<-hn9];exact pF.t (k:=kyI e.1) hs9.at_ (by rw[ip];exact Fb),_,_,rfl,rfl,_,rfl,_,rfl,bb,_,rfl,.inl ⟨SqL.of Jf,λst3 OE=>?_⟩⟩
      have s10:=fB (o:=.tup (m.2.map V.int)) OE
      have Ky:=fC (H:=H9) (a:=st3) (o:=.tup (m.2.map V.int))
      have GL:=hs9.same s10
      have Fc:=ho9.same s10
      have S10:=S9.trans s10
      have JP:=sm9.trans s10
      have Hn:=s10 _ _ Jf
      generalize upd H9 st3 _=H10 at s10 Ky GL Fc S10 JP Hn ⊢
      have dl:(kvR (gi es)).length<=4096000:=by unfold kvR;rw[aa,ke];omega
      refine⟨d,_,rfl,Ah.t (k:=kyI m.2) GL.at_ (by rw[ip];exact Ky) (i7 (by omega)),?_⟩
      obtain⟨q1,q2⟩:=CL (t:=e.1) (k:=m.1) (n:=n+1) GL Fc Hn bbp hn (by show n+1=(iz (gi es) e.1).getD 0+1;rw[hl9];rfl)
      have pd:p≠d:=gA Fc.at_ GL.at_ (by intro z;cases z)
      have KH:upd H10 d (.dT (putK (kvR (gi es)) (kyI m.2) (.int (n+1)))) p=some (.lst (as'.map V.ref)):=by rw[fG pd];exact Fc.at_
      refine⟨_,rfl,.inl ⟨rfl,_,SqL.of KH⟩,_,rfl,p,_,_,rfl,rfl,KH,i7 (by rw[aa,Fc.len];omega),?_⟩
      exact kN _ _ ⟨as' ++ [bb],_,_,rfl,fI.upd (fI.upd S10 nd0) np,vt JP,by rw[ni];exact q1,by rw[ni];exact q2⟩
     ·have hn:m.2∈(gW e.1 ((mvs l e.1).take j) (fO l ns i)).map (·.1):=by simpa using hn
      have sO:gW e.1 ((mvs l e.1).take (j+1)) (fO l ns i)=gW e.1 ((mvs l e.1).take j) (fO l ns i):=by
       rw[oI];unfold m8;rw[aJ hn]
      exact kN _ _ ⟨as',_,_,rfl,S8,sm8,by rw[sO];exact hs8,by rw[sO];exact ho8⟩
    ·rintro σ H7 ⟨as',y5,y6,rfl,S7,sm,hs7,ho7⟩
     rw[<-EN,br,<-nh he]at hs7 ho7
     have zE:=(pI l ns i).length_le
     refine⟨_,rfl,_,_,rfl,rfl,kN1 _ _ ⟨i+1,as',_,_,rfl,S7,hs7,ho7,by omega⟩ ?_⟩
     show(4096001-((i:Int)+1)).toNat<(4096001-(i:Int)).toNat
     omega
   ·have hlt:¬(i:Int)<((as.map V.ref).length:Int):=by simpa using hlt
    rw[aa,ho4.len]at hlt
    have e1:(fO l ns i).length=i:=by omega
    refine kB1 _ _ ⟨_,rfl,_,rfl,by show 2<=sizeLine;decide,λt nt=>?_⟩
    exact k i t p d as _ e1 (S4.trans (fB nt)) fC (ho4.same (fB nt)) (hs4.same (fB nt))
  ·rintro σ H Q Q' hq ⟨x,e1,y,e2,p',ys,e3,h4,i',j',e5,e6,c,e7,q⟩
   exact⟨x,e1,y,e2,p',ys,e3,h4,i',j',e5,e6,c,e7,hq _ _ q⟩
end
structure WD (H:Hp)(d:Addr)(kvs:List (List Key×V))(lk:List Int->Option (Int×Int)):Prop where
 rd:Rd H d (.dT kvs)
 no:∀ s,lk s=none->jK kvs (kyI s)=none
 yes:∀ s a b,lk s=some (a,b)->∃ c,jK kvs (kyI s)=some (.ref c)/\H c=some (.tup [.int a,.int b])
theorem Gd {H H':Hp}{a:Addr}{u:HO}(h:Rd H a u)(s:fI H H'):Rd H' a u:=h.elim (λz=>.inl (s _ _ z)) λ⟨o,z⟩=>.inr ⟨o,s _ _ z⟩
theorem WD.same {H H':Hp}{d:Addr}{kvs:List (List Key×V)}{lk:List Int->Option (Int×Int)}(h:WD H d kvs lk)(s:fI H H'):WD H' d kvs lk:=⟨Gd h.rd s,h.no,λt a b e=>(h.yes t a b e).imp λc z=>⟨z.1,s _ _ z.2⟩⟩
theorem WD.get {H:Hp}{d b:Addr}{kvs:List (List Key×V)}{lk:List Int->Option (Int×Int)}(h:WD H d kvs lk){s:List Int}(hb:H b=some (.tup (s.map V.int))):pF H d (.ref b) (jK kvs (kyI s)):=.inr ⟨_,kyI s,b,h.rd,rfl,by rw[ip];exact hb,rfl⟩
def qK (l:Ln)(lk:List Int->Option (Int×Int))(t:List Int)(on bk:Int):Prop:=(on<=bk+1/\bk<=on+1)/\∀ m∈mvs l t,∃ a b,lk m.2=some (a,b)/\(m.1.1=Str.ofString "on" ->a<=on)/\(m.1.1=Str.ofString "back" ->b<=bk)
def wz (K:PySem.W.Frag):Sp:=λvs H Q _=>∃ (v:V) (d b:Addr) (l:Ln) (kvs:List (List Key×V)) (lk:List Int->Option (Int×Int)) (t:List Int) (on bk:Int),vs = [v,.ref d,.ref b]/\Da K H (dL l) v/\WD H d kvs lk/\H b=some (.tup (t.map V.int))/\gv l/\t≠ []/\t.length<=900/\lk t=some (on,bk)/\∀ H',fI H H'->Q (.bl (dec (qK l lk t on bk))) H'
abbrev lV:Stmt:=top 34
theorem jq:gj ["line","ways","standing","on","back","move","behind","there"] ["line","ways","standing"] (fJ lV):=⟨rfl,rfl,rfl,by decide +kernel,rfl,by decide +kernel,by decide +kernel⟩
section
variable {P:Program}{w:World}{K:PySem.W.Frag}{mg:Str->Option Value}{base:Heap}{f:Addr}{fd:FuncData}
theorem wc {f1:Addr}{fd1:FuncData}(F:Fn K mg "allow_ways" lV ["line","ways","standing"] f fd)(B:Bm mg)(gZ:Fn K mg "moves_of" kI ["line","train"] f1 fd1)(jk:fV P w K mg base CX0 3 f1 fd1 ["line","train"] (lB K)):
  fV P w K mg base CX0 4 f fd ["line","ways","standing"] (wz K):=by
 refine F.F.ok jq (λvs H Q E h=>?_) (λcdv A outer s H vs Q E hr h=>?_)
 ·obtain⟨v,d,b,l,kvs,lk,t,on,bk,rfl,_⟩:=h;rfl
 ·obtain⟨v,d,b,l,kvs,lk,t,on,bk,rfl,hv,hd,hb,ok,rne,rl,hr0,k⟩:=h
  refine⟨_,(fE (rY (lg (jI hr) (pv 1) (pv 2) (λ_ _=>rfl)) (ie (n:=2) rfl (fN (fL (i:=3) jq.nd rfl (Or.inl rfl)) (fN (fL (i:=4) jq.nd rfl (Or.inl rfl)) gP))))
 (fE (gN (gB (wU (fQ Ad rfl B.abs boot_abs (fA (fX uK (pv 3) (pv 4)) fD)) fF))
 (fH (fT i8)) fY)
 (fE (iL aV rfl (gz (fM jk (hr.mono (by decide)) rfl gZ.m gZ.F.kp gZ.b .nil gu (fA (pv 0) (fA (fZ iM rfl B.list cQ (fA (pv 2) fD)) fD)))) (ie (n:=2) rfl (fN (fL (i:=5) jq.nd rfl (Or.inl rfl)) (fN (fL (i:=6) jq.nd rfl (Or.inl rfl)) gP)))
 (fE (fR (i:=7) jq.nd rfl (Or.inl rfl) (fZ gw rfl B.tuple bV (fA (pv 6) fD)))
 (fE (gN (gB (pT (jI hr) (pv 7) (pv 1)))
 (fH (fT i8)) fY)
 (fE (gN (PW.pt (rX (h9 BD (gq gD (pv 5) fF (λ_ _=>rfl)) gK (iT _)) (qV (gB (wU (gq gD (lg (jI hr) (pv 1) (pv 7) (λ_ _=>rfl)) fF (λ_ _=>rfl)) (pv 3))))))
 (fH (fT i8)) fY)
 (fH (gN (PW.pt (rX (h9 BD (gq gD (pv 5) fF (λ_ _=>rfl)) gK (iT _)) (qV (gB (wU (gq gD (lg (jI hr) (pv 1) (pv 7) (λ_ _=>rfl)) fF (λ_ _=>rfl)) (pv 4))))))
 (fH (fT i8)) fY))))))
 (fH (fT i8))))),?_⟩
  obtain⟨c0,hc0,hc1⟩:=hd.yes t on bk hr0
  have g0:=hd.get hb
  rw[hc0]at g0
  refine⟨_,rfl,_,rfl,d,_,rfl,g0,c0,_,rfl,SqT.of hc1,rfl,_,_,rfl,_,_,rfl,rfl,?_⟩
  refine⟨_,rfl,_,rfl,_,_,rfl,rfl,_,rfl,_,_,rfl,rfl,_,rfl,gT (λh=>?_) (λh=>?_)⟩
  ·have h:1<(if on-bk<0 then -(on-bk)else on-bk):=by simpa using h
   have:=k H (fI.refl _)
   rw[rA λz:qK l lk t on bk=>by have:=z.1;split at h<;>omega]at this
   exact this
  have h:¬1<(if on-bk<0 then -(on-bk)else on-bk):=by simpa using h
  have near:on<=bk+1/\bk<=on+1:=by split at h<;>omega
  refine⟨_,rfl,_,rfl,b,_,rfl,.inr (SqT.of hb),λq nq=>?_⟩
  have s1:=fB (o:=.lst (t.map V.int)) nq
  refine⟨_,_,l,t,rfl,Da.same s1 hv,iu fC,ok,rne,rl,λpm vm H2 s2 npm hpm Dm=>?_⟩
  obtain⟨bs,hb1,hb2,hb3⟩:=ES Dm
  subst hb2
  have S2:=s1.trans s2
  generalize upd H q _=H1 at s1 s2 npm Dm hb3 nq
  have sq:∀ m,m∈mvs l t↔∃ x∈bs,x.1=m:=λm=>by
   rw[<-hb1,ao]
  refine⟨pm,rfl,⟨_,SqL.of hpm⟩,iW (K:=K) (a:=pm) (xs:=bs.map λx=>V.ref x.2.1) (λi σ H3=>∃ (x5 x6 x7:Option V),σ = [some v,some (.ref d),some (.ref b),some (.int on),some (.int bk),x5,x6,x7]/\fI H2 H3/\∀ x∈bs.take i,∃ a b,lk x.1.2=some (a,b)/\(x.1.1.1=Str.ofString "on" ->a<=on)/\(x.1.1.1=Str.ofString "back" ->b<=bk))
   ⟨none,none,none,rfl,fI.refl _,λx hx=>by simp at hx⟩ (λi σ H3 _ ⟨_,_,_,_,s,_⟩=>SqL.of (s _ _ hpm)) ?_ ?_⟩
  ·rintro i y σ H3 N R B kN kR hi ⟨x5,x6,x7,rfl,s3,al⟩
   rw[aj]at hi
   obtain⟨x,hx⟩:∃ x,bs[i]? = some x:=by
    cases q:bs[i]? with
    |none=>rw[q]at hi;cases hi
    |some x=>exact⟨x,rfl⟩
   rw[hx]at hi
   cases hi
   obtain⟨⟨p1,ht,hdm⟩,hbb,_,_⟩:=hb3 x (av hx)
   obtain⟨p1x,e1,htm⟩:=zR hdm
   cases e1
   have xin:x.1∈mvs l t:=(sq _).mpr ⟨x,av hx,rfl⟩
   refine⟨x.2.1,_,rfl,gd s3 ht,rfl,_,_,rfl,_,_,rfl,rfl,?_⟩
   refine⟨_,rfl,x.2.2,_,rfl,.inl ⟨SqL.of (s3 _ _ hbb),λtp ntp=>?_⟩⟩
   have s4:=s3.trans (fB (o:=.tup (x.1.2.map V.int)) ntp)
   have htp:=fC (H:=H3) (a:=tp) (o:=.tup (x.1.2.map V.int))
   generalize upd H3 tp _=H4 at s4 htp ⊢
   have hd4:=hd.same (S2.trans s4)
   have IQ:=gd s4 htm
   have g1:=hd4.get htp
   refine⟨_,rfl,_,rfl,d,_,rfl,g1,_,rfl,?_⟩
   cases q:lk x.1.2 with
   |none=>
    rw[hd4.no _ q]
    refine vg ?_
    have:=k H4 (S2.trans s4)
    rw[rA λz:qK l lk t on bk=>by
     obtain⟨a,b,h1,_⟩:=z.2 x.1 xin
     rw[q]at h1;cases h1]at this
    exact kR _ _ this
   |some ab=>
    obtain⟨a,b'⟩:=ab
    obtain⟨c,hv1,hc⟩:=hd4.yes _ a b' q
    rw[hv1]at g1 ⊢
    have bad:¬((x.1.1.1=Str.ofString "on" ->a<=on)/\(x.1.1.1=Str.ofString "back" ->b'<=bk))->R (.bl false) H4:=λhz=>kR _ _ (by
     have:=k H4 (S2.trans s4)
     rw[rA λz:qK l lk t on bk=>by
      obtain⟨a2,b2,h1,h2⟩:=z.2 x.1 xin
      rw[q]at h1;cases h1
      exact hz h2]at this
     exact this)
    have hn:¬Str.ofString "back" = Str.ofString "on" :=by decide +kernel
    have good:((x.1.1.1=Str.ofString "on" ->a<=on)/\(x.1.1.1=Str.ofString "back" ->b'<=bk))->N [some v,some (V.ref d),some (.ref b),some (.int on),some (.int bk),some (.ref p1),some (.ref x.2.2),some (.ref tp)] H4:=λhz=>kN _ _ ⟨_,_,_,rfl,s4,λz hz'=>by
     rw[bh,hx]at hz'
     rcases aF.mp hz' with w |w
     ·exact al z w
     ·have:z=x:=by simpa using w
      rw[this];exact⟨a,b',q,hz⟩⟩
    refine kB ?_
    refine⟨_,rfl,p1,_,_,_,rfl,rfl,IQ,rfl,rfl,_,rfl,gT (λhon=>?_) (λhon=>?_)⟩
    ·have hon:x.1.1.1=Str.ofString "on" :=by simpa using hon
     refine⟨_,rfl,_,rfl,d,_,rfl,g1,c,_,_,_,rfl,rfl,SqT.of hc,rfl,_,rfl,_,_,rfl,rfl,_,rfl,gT (λhgt=>?_) (λhgt=>?_)⟩
     ·have hgt:on<a:=by simpa using hgt
      exact bad λz=>by have:=z.1 hon;omega
     ·have hgt:¬on<a:=by simpa using hgt
      refine⟨_,rfl,p1,_,_,_,rfl,rfl,IQ,rfl,rfl,_,rfl,gT (λhbk=>?_) (λ_=>kB (good ⟨λ_=>by omega,λhbk=>absurd (by rw[<-hbk,hon]) hn⟩))⟩
      have hbk:x.1.1.1=Str.ofString "back" :=by simpa using hbk
      exact absurd (by rw[<-hbk,hon]) hn
    ·have hon:¬x.1.1.1=Str.ofString "on" :=by simpa using hon
     refine kB ?_
     refine⟨_,rfl,p1,_,_,_,rfl,rfl,IQ,rfl,rfl,_,rfl,gT (λhbk=>?_) (λhbk=>?_)⟩
     ·have hbk:x.1.1.1=Str.ofString "back" :=by simpa using hbk
      refine⟨_,rfl,_,rfl,d,_,rfl,g1,c,_,_,_,rfl,rfl,SqT.of hc,rfl,_,rfl,_,_,rfl,rfl,_,rfl,gT (λhgt=>?_) (λhgt=>?_)⟩
      ·have hgt:bk<b':=by simpa using hgt
       exact bad λz=>by have:=z.2 hbk;omega
      ·have hgt:¬bk<b':=by simpa using hgt
       exact good ⟨λz=>absurd z hon,λ_=>by omega⟩
     ·have hbk:¬x.1.1.1=Str.ofString "back" :=by simpa using hbk
      exact kB (good ⟨λz=>absurd z hon,λz=>absurd z hbk⟩)
  ·rintro σ H3 ⟨x5,x6,x7,rfl,s3,al⟩
   rw[aa,br]at al
   have:=k H3 (S2.trans s3)
   rw[B9 (show qK l lk t on bk from⟨near,λm hm=>by
    obtain⟨x,hx,rfl⟩:=(sq m).mp hm
    exact al x hx⟩)]at this
   exact this
end
abbrev W3:=List Int×Int×Int
def dW (r:W3):PyData:=.tuple [dI r.1,.int r.2.1,.int r.2.2]
def dWs (rows:List W3):PyData:=.list (rows.map dW)
def jG (rows:List W3)(s:List Int):Option (Int×Int):=(rows.find? λr=>decide (r.1=s)).map (·.2)
def DI (l:Ln)(tr:List Int)(rows:List W3):Prop:=tj l tr (rows.map (·.1))/\jG rows tr=some (0,0)/\∀ r∈rows,qK l (jG rows) r.1 r.2.1 r.2.2
theorem wZ {rows:List W3}(nd:(rows.map (·.1)).Nodup){r:W3}(h:r∈rows):jG rows r.1=some r.2:=by
 unfold jG
 induction rows with
 |nil=>cases h
 |cons q qs ih=>
  rw[bg,bB]at nd
  by_cases e:q.1=r.1
  ·rw[cE (by simpa using e)]
   rcases aG.mp h with z |z
   ·rw[z];rfl
   ·exact absurd (ao.mpr ⟨r,z,e.symm⟩) nd.1
  ·rw[ck (by simpa using e)]
   rcases aG.mp h with z |z
   ·exact absurd (by rw[z]) e
   ·exact ih nd.2 z
theorem AK {rows:List W3}{s:List Int}{n:Int×Int}(h:jG rows s=some n):(s,n)∈rows:=by
 unfold jG at h
 cases q:rows.find? λr=>decide (r.1=s)with
 |none=>rw[q]at h;cases h
 |some r=>
  rw[q]at h
  have h1:=fh q
  have h2:r.1=s:=by simpa using List.find?_some q
  have h3:r.2=n:=by simpa using h
  rw[<-h2,<-h3];exact h1
theorem F4 {K:PySem.W.Frag}{H:Hp}{rows:List W3}{vs:List V}{i:Nat}{y:V}(D:Das K H (rows.map dW) vs)(h:vs[i]? = some y):∃ (r:W3) (ad:Addr) (u:V),rows[i]? = some r/\y = .ref ad/\SqT K H ad [u,.int r.2.1,.int r.2.2]/\Da K H (dI r.1) u:=by
 obtain⟨d,e1,hd⟩:=Dgs.get D h
 rw[aj]at e1
 cases q:rows[i]? with
 |none=>rw[q]at e1;cases e1
 |some r=>
  rw[q]at e1
  cases e1
  unfold dW at hd
  obtain⟨ad,us,rfl,ht,q⟩:=gR.mp hd
  obtain⟨v1,r',rfl,h1,q⟩:=gm.mp q
  obtain⟨v2,r',rfl,h2,q⟩:=gm.mp q
  obtain⟨v3,r',rfl,h3,q⟩:=gm.mp q
  cases gS.mp q
  cases iC.mp h2
  cases iC.mp h3
  exact⟨r,ad,v1,rfl,rfl,ht,h1⟩
def WK (G:Hp):List W3->List (List Key×V)->Prop
 |[],[]=>True
 |r::rs,kv::ks=>(kv.1=kyI r.1/\∃ c,kv.2 = .ref c/\G c=some (.tup [.int r.2.1,.int r.2.2]))/\WK G rs ks
 |_,_=>False
theorem WK.snoc {G:Hp}{r:W3}{c:Addr}(hc:G c=some (.tup [.int r.2.1,.int r.2.2])):∀ {rs:List W3}{ks:List (List Key×V)},WK G rs ks->WK G (rs ++ [r]) (ks ++ [(kyI r.1,.ref c)])
 |[],[],_=>⟨⟨rfl,c,rfl,hc⟩,trivial⟩
 |_::_,_::_,h=>⟨h.1,WK.snoc hc h.2⟩
 |[],_::_,h=>h.elim
 |_::_,[],h=>h.elim
theorem WK.imp {G G':Hp}(f:∀ c a b,G c=some (.tup [.int a,.int b])->G' c=some (.tup [.int a,.int b])):∀ {rs:List W3}{ks:List (List Key×V)},WK G rs ks->WK G' rs ks
 |[],[],_=>trivial
 |_::_,_::_,h=>⟨⟨h.1.1,h.1.2.imp λc z=>⟨z.1,f _ _ _ z.2⟩⟩,WK.imp f h.2⟩
 |[],_::_,h=>h.elim
 |_::_,[],h=>h.elim
theorem WK.len {G:Hp} :∀ {rs:List W3}{ks:List (List Key×V)},WK G rs ks->ks.length=rs.length
 |[],[],_=>rfl
 |_::_,_::_,h=>by rw[aR,aR,WK.len h.2]
 |[],_::_,h=>h.elim
 |_::_,[],h=>h.elim
theorem WK.no {G:Hp}{s:List Int} :∀ {rs:List W3}{ks:List (List Key×V)},WK G rs ks->jG rs s=none->jK ks (kyI s)=none
 |[],[],_,_=>rfl
 |r::rs,kv::ks,h,e=>by
  by_cases z:r.1=s
  ·unfold jG at e;rw[cE (by simpa using z)]at e;cases e
  ·unfold jG at e;rw[ck (by simpa using z)]at e
   unfold jK;rw[ck (by rw[h.1.1];simpa using λy=>z (om y))]
   exact WK.no h.2 e
 |[],_::_,h,_=>h.elim
 |_::_,[],h,_=>h.elim
theorem WK.yes {G:Hp}{s:List Int}{a b:Int} :∀ {rs:List W3}{ks:List (List Key×V)},WK G rs ks->jG rs s=some (a,b)->∃ c,jK ks (kyI s)=some (.ref c)/\G c=some (.tup [.int a,.int b])
 |[],[],_,e=>by cases e
 |r::rs,kv::ks,h,e=>by
  by_cases z:r.1=s
  ·unfold jG at e;rw[cE (by simpa using z)]at e
   have e:r.2=(a,b):=by simpa using e
   obtain⟨h1,c,h2,h3⟩:=h.1
   refine⟨c,?_,by rw[h3,e]⟩
   unfold jK;rw[cE (by rw[h1,z];simp),<-h2];rfl
  ·unfold jG at e;rw[ck (by simpa using z)]at e
   unfold jK;rw[ck (by rw[h.1.1];simpa using λy=>z (om y))]
   exact WK.yes h.2 e
 |[],_::_,h,_=>h.elim
 |_::_,[],h,_=>h.elim
theorem WK.at {G:Hp} :∀ {rs:List W3}{ks:List (List Key×V)} (i:Nat) {r:W3}{kv:List Key×V},WK G rs ks->rs[i]? = some r->ks[i]? = some kv->kv.1=kyI r.1
 |[],[],_,_,_,_,e,_=>by cases e
 |r::rs,kv::ks,0,_,_,h,e1,e2=>by cases e1;cases e2;exact h.1.1
 |r::rs,kv::ks,i+1,_,_,h,e1,e2=>WK.at i h.2 e1 e2
 |[],_::_,_,_,_,h,_,_=>h.elim
 |_::_,[],_,_,_,h,_,_=>h.elim
theorem WK.wd {G:Hp}{d:Addr}{rs:List W3}{ks:List (List Key×V)}(h:WK G rs ks)(hd:Rd G d (.dT ks)):WD G d ks (jG rs):=⟨hd,λ_ e=>h.no e,λ_ _ _ e=>h.yes e⟩
theorem wY {rows:List W3}(nd:(rows.map (·.1)).Nodup){i:Nat}{r:W3}(h:rows[i]? = some r):jG (rows.take i) r.1=none:=by
 cases q:jG (rows.take i) r.1 with
 |none=>rfl
 |some n=>
  exfalso
  obtain⟨j,hj,ej⟩:=List.mem_take_iff_getElem.mp (AK q)
  obtain⟨hir,eir⟩:=af.mp h
  have e1:(rows.map (·.1))[j]'(by rw[aa];omega)=(rows.map (·.1))[i]'(by rw[aa];exact hir):=by
   rw[cu,cu,ej,eir]
  have:=(cG nd).mp e1
  omega
def dP (a b:Int):PyData:=.tuple [.int a,.int b]
theorem sW (a b:Int):OkD (dP a b):=⟨rfl,by simp[dP,PyData.depth,PyData.depthAll]⟩
theorem CQ:OkD .none:=⟨rfl,by simp[PyData.depth]⟩
theorem B5 (a b c d:Int):PyData.eqv (dP a b) (dP c d)=decide ((a,b)=(c,d)):=by
 rw[bJ]
 simp[dP,PyData.eqv,PyData.eqvAll]
theorem Dv (a b:Int):PyData.eqv .none (dP a b)=false:=rfl
theorem Fw {K:PySem.W.Frag}{H:Hp}{c:Addr}{a b:Int}(h:H c=some (.tup [.int a,.int b])):Da K H (dP a b) (.ref c):=gR.mpr ⟨c,_,rfl,SqT.of h,Dgs.two (iC.mpr rfl) (iC.mpr rfl)⟩
def Bs (K:PySem.W.Frag):Sp:=λvs H Q _=>∃ (v u x:V) (l:Ln) (tr:List Int) (rows:List W3),vs = [v,u,x]/\Da K H (dL l) v/\Da K H (dI tr) u/\Da K H (dWs rows) x/\gv l/\rows.length<=1500/\(∀ r∈rows,r.1.length<=900)/\∀ H',fI H H'->Q (.bl (dec (DI l tr rows))) H'
abbrev j9:Stmt:=top 35
theorem sR:gj ["line","train","rows","ways"] ["line","train","rows"] (fJ j9):=⟨rfl,rfl,rfl,by decide +kernel,rfl,by decide +kernel,by decide +kernel⟩
theorem lr:gH (fJ j9) ["line","train","rows","ways"] {kind:=.function,names:=[(Str.ofString ".0",.local),(Str.ofString "standing",.local),(Str.ofString "on",.local),(Str.ofString "back",.local)],isGenerator:=false,isCoroutine:=false,more:=[]} ["standing","on","back"] 3 [none,none,none]:=⟨rfl,by decide +kernel,by decide +kernel,by decide +kernel,rfl,by decide +kernel,rfl,by decide +kernel⟩
theorem lq:gH (fJ j9) ["line","train","rows","ways"] {kind:=.function,names:=[(Str.ofString ".0",.local),(Str.ofString "standing",.local),(Str.ofString "on",.local),(Str.ofString "back",.local),(Str.ofString "tuple",.globalImplicit)],isGenerator:=false,isCoroutine:=false,more:=[]} ["standing","on","back"] 3 [none,none,none]:=⟨rfl,by decide +kernel,by decide +kernel,by decide +kernel,rfl,by decide +kernel,rfl,by decide +kernel⟩
theorem qt:gH (fJ j9) ["line","train","rows","ways"] {kind:=.function,names:=[(Str.ofString ".0",.local),(Str.ofString "standing",.local),(Str.ofString "allow_ways",.globalImplicit),(Str.ofString "line",.free),(Str.ofString "ways",.free)],isGenerator:=false,isCoroutine:=false,more:=[]} ["standing","line","ways"] 1 [none,some 0,some 3]:=⟨rfl,by decide +kernel,by decide +kernel,by decide +kernel,rfl,by decide +kernel,rfl,by decide +kernel⟩
section
variable {P:Program}{w:World}{K:PySem.W.Frag}{mg:Str->Option Value}{base:Heap}{f:Addr}{fd:FuncData}
theorem zq {f1 f2:Addr}{fd1 fd2:FuncData}(F:Fn K mg "are_ways" j9 ["line","train","rows"] f fd)(B:Bm mg)(iX:Fn K mg "are_standings" iV ["line","train","standings"] f1 fd1)(lN:fV P w K mg base CX0 4 f1 fd1 ["line","train","standings"] (yU K))
  (jR:Fn K mg "allow_ways" lV ["line","ways","standing"] f2 fd2) (oA:fV P w K mg base CX0 4 f2 fd2 ["line","ways","standing"] (wz K)):
  fV P w K mg base CX0 5 f fd ["line","train","rows"] (Bs K):=by
 refine F.F.ok sR (λvs H Q E h=>?_) (λcdv A outer s H vs Q E hr h=>?_)
 ·obtain⟨v,u,x,l,tr,rows,rfl,_⟩:=h;rfl
 ·obtain⟨v,u,x,l,tr,rows,rfl,hv,hu,hx,ok,hz,hzs,k⟩:=h
  obtain⟨a,us,rfl,hA,D⟩:=ia.mp hx
  obtain⟨at0,rfl,hT0⟩:=ij.mp hu
  have ul:us.length=rows.length:=by have:=Dgs.length D;rw[aa]at this;exact this
  refine⟨_,(fE (gN (m6 (my (fM lN (hr.mono (by decide)) rfl iX.m iX.F.kp iX.b .nil gu (fA (pv 0) (fA (pv 1) (fA (lP (gz (pv 2)) rfl lr (.tup (.cons (.name (by decide)) (.cons (.name (by decide)) (.cons (.name (by decide)) .nil)))) (λ_ _ _ _=>(ie (n:=3) rfl (fN (fL (i:=0) lr.nd rfl (Or.inl rfl)) (fN (fL (i:=1) lr.nd rfl (Or.inl rfl)) (fN (fL (i:=2) lr.nd rfl (Or.inl rfl)) gP))))) (λ_ _ _ _=>iq) (λ_ _ _ _=>(pv 0))) fD))))))
 (fH (fT i8)) fY)
 (fE (fR (i:=3) sR.nd rfl (Or.inr rfl) (Ii (IM hr) (gz (pv 2)) rfl lq (.tup (.cons (.name (by decide)) (.cons (.name (by decide)) (.cons (.name (by decide)) .nil)))) (λ_ _ _ _=>(ie (n:=3) rfl (fN (fL (i:=0) lq.nd rfl (Or.inl rfl)) (fN (fL (i:=1) lq.nd rfl (Or.inl rfl)) (fN (fL (i:=2) lq.nd rfl (Or.inl rfl)) gP))))) (λ_ _ _ _=>iq) (λ_ _ _ _=>(fZ (pq (K:=K) rfl) rfl B.tuple bV (fA (pv 0) fD))) (λ_ _ _ _=>(gy (fA (pv 1) (fA (pv 2) fD))))))
 (fE (gN (h9 (uM hr.units) (Er (jI hr) (pv 3) (fZ gw rfl B.tuple bV (fA (pv 1) fD)) ⟨rfl,rfl,rfl,rfl⟩) (gy (fA fF (fA fF fD))) (iT _))
 (fH (fT i8)) fY)
 (fH (fT (fQ (Ac rfl) rfl B.all boot_all (fA (Av (lP (Bz (pv 3)) rfl qt (.name (by decide)) (λ_ _ _ _=>(fL (i:=0) qt.nd rfl (Or.inl rfl))) (λ_ _ _ _=>iq) (λ_ _ _ _=>(fM oA (hr.mono (by decide)) rfl jR.m jR.F.kp jR.b .nil gu (fA (pv 1) (fA (pv 2) (fA (pv 0) fD))))))) fD))))))),?_⟩
  refine⟨_,rfl,_,rfl,_,rfl,a,rfl,⟨_,hA⟩,λp np=>?_⟩
  refine BO (K:=K) rows.length rows (λr=>dI r.1) np rfl (i7 (by omega)) (λi G s hi=>(ig hA).go i G s (by omega)) (λG s=>by have:=(ig hA).stop G s;rw[ul]at this;exact this) ?_ ?_
  ·intro i y r G G' sG ⟨vs',hl'⟩ yy hd P1 P0 kk
   obtain⟨rfl,hy⟩:=(ig hA).yld i G y G' sG (by have:=(af.mp hd).1;omega) yy
   obtain⟨r',ad,uu,hr',rfl,hT,hU⟩:=F4 D hy
   rw[hd]at hr'
   cases hr'
   refine⟨ad,_,rfl,gd sG hT,rfl,_,_,rfl,_,_,rfl,_,_,rfl,rfl,?_⟩
   exact DU ⟨_,rfl,kk _ _ (fI.refl _) (Da.same (yX sG np) hU)⟩
  intro vs1 H1 s1 h1 D1
  have D1':Das K H1 ((rows.map (·.1)).map dI) vs1:=by rw[bz];exact Das.same gQ D1
  refine⟨_,_,_,l,tr,rows.map (·.1),rfl,Da.same s1 hv,Da.same s1 hu,ia.mpr ⟨p,vs1,rfl,SqL.of h1,D1'⟩,ok,by rw[aa];exact hz,λz hz=>?_,λH2 s2=>?_⟩
  ·obtain⟨r,hr,rfl⟩:=ao.mp hz
   exact hzs r hr
  have S2:=s1.trans s2
  refine⟨_,rfl,gT (λh=>?_) (λh=>?_)⟩
  ·have h:(!dec (tj l tr (rows.map (·.1))))=true:=h
   have:=k H2 S2
   rw[rA λz:DI l tr rows=>by rw[B9 z.1]at h;cases h]at this
   exact this
  have h:¬(!dec (tj l tr (rows.map (·.1))))=true:=h
  have hst:tj l tr (rows.map (·.1)):=aY λz=>h (by rw[rA z];rfl)
  clear h D1 D1' h1
  have hA2:SqL K H2 a us:=S2.seq hA
  have D2:=Das.same S2 D
  refine⟨_,rfl,a,rfl,⟨_,hA2⟩,λd nd=>?_⟩
  refine⟨λi m G=>m=rows.length-i/\i<=rows.length/\fI H2 G/\∃ ks,G d=some (.dT ks)/\WK G (rows.take i) ks,⟨rows.length,by simp,aK _,fB nd,[],fC,trivial⟩,?_⟩
  rintro i m G ⟨rfl,hi,sG,ks,hd,hw⟩
  by_cases hlt:i<rows.length
  ·refine .inr ⟨(ig hA2).go i G sG (by omega),λG'=>(i+1)<=rows.length/\fI H2 G'/\∃ ks,G' d=some (.dT ks)/\WK G' (rows.take (i+1)) ks,λG' ⟨n1,n2,n3⟩=>⟨rows.length-(i+1),by omega,rfl,n1,n2,n3⟩,λy G' yy=>?_⟩
   obtain⟨rfl,hy⟩:=(ig hA2).yld i G y G' sG (by omega) yy
   obtain⟨r,ad,uu,hr',rfl,hT,hU⟩:=F4 (Das.same sG D2) hy
   obtain⟨ub,rfl,hub⟩:=ij.mp hU
   refine⟨ad,_,rfl,hT,rfl,_,_,rfl,_,_,rfl,_,_,rfl,rfl,?_⟩
   unfold Cy
   dsimp only
   rw[aJ rfl]
   refine⟨_,rfl,ub,_,rfl,.inl ⟨hub,λb nb=>?_⟩⟩
   have sb:=fB (o:=.tup (r.1.map V.int)) nb
   have hb:=fC (H:=G') (a:=b) (o:=.tup (r.1.map V.int))
   have hd':=sb _ _ hd
   have hw':=hw.imp λc x y z=>sb _ _ z
   generalize upd G' b _=G1 at sb hb hd' hw' ⊢
   refine⟨_,rfl,_,rfl,by show 2<=sizeLine;decide,λc nc=>?_⟩
   have sc:=fB (o:=.tup [.int r.2.1,.int r.2.2]) nc
   have hc:=fC (H:=G1) (a:=c) (o:=.tup [.int r.2.1,.int r.2.2])
   have hd2:=sc _ _ hd'
   have hw2:=hw'.imp λc x y z=>sc _ _ z
   have hb2:=sc _ _ hb
   have s2':=sb.trans sc
   generalize upd G1 c _=G2 at sc hc hd2 hw2 hb2 s2' ⊢
   refine⟨ks,kyI r.1,b,rfl,hd2,by rw[ip];exact hb2,i7 (by rw[hw.len,aT];omega),hlt,fI.upd (sG.trans s2') nd,_,fC,?_⟩
   have hv0:jK ks (kyI r.1)=none:=hw.no (wY hst.1 hr')
   rw[L2.oN _ hv0,bh,hr']
   refine WK.imp (λc' x y z=>?_) (WK.snoc hc hw2)
   rw[fG (gA z hd2 (by intro z;cases z))];exact z
  have e:i=rows.length:=by omega
  subst e
  rw[br]at hw
  refine .inl ⟨by have:=(ig hA2).stop G sG;rw[ul]at this;exact this,?_⟩
  have SG:=S2.trans sG
  have nd0:H d=none:=CT S2 nd
  refine⟨_,rfl,d,rfl,.inr ⟨_,.inl hd⟩,_,rfl,at0,_,rfl,.inl ⟨SG.seq hT0,λb nb=>?_⟩⟩
  have sb:=fB (o:=.tup (tr.map V.int)) nb
  have hb:=fC (H:=G) (a:=b) (o:=.tup (tr.map V.int))
  have hd3:=sb _ _ hd
  have hw3:=hw.imp λc x y z=>sb _ _ z
  have S3:=SG.trans sb
  generalize upd G b _=G3 at sb hb hd3 hw3 S3 ⊢
  have W3':=hw3.wd (.inl hd3)
  refine⟨_,W3'.get hb,?_⟩
  refine⟨by show 2<=sizeLine;decide,λc0 nc0=>?_⟩
  have s4:=fB (o:=.tup [.int 0,.int 0]) nc0
  have hc0:=fC (H:=G3) (a:=c0) (o:=.tup [.int 0,.int 0])
  have hd4:=s4 _ _ hd3
  have hw4:=hw3.imp λc x y z=>s4 _ _ z
  have S4:=S3.trans s4
  generalize upd G3 c0 _=G4 at s4 hc0 hd4 hw4 S4 ⊢
  have Hl:jG rows tr≠some (0,0)->Q (.bl false) G4:=λhn=>by
   have:=k G4 S4
   rw[rA λz:DI l tr rows=>hn z.2.1]at this
   exact this
  cases q:jG rows tr with
  |none=>
   rw[hw4.no q]
   refine⟨.none,dP 0 0,(by show Dg _ _ PyData.none V.non;simp only[Dg]),Fw hc0,CQ,sW 0 0,_,rfl,?_⟩
   rw[Dv]
   exact vg (Hl (by rw[q];intro z;cases z))
  |some ab=>
   obtain⟨ra,rb⟩:=ab
   obtain⟨c,hc,hc'⟩:=hw4.yes q
   rw[hc]
   refine⟨dP ra rb,dP 0 0,Fw hc',Fw hc0,sW _ _,sW 0 0,_,rfl,?_⟩
   rw[B5]
   refine gT (λh=>?_) (λh=>?_)
   ·have h:¬(ra,rb)=(0,0):=λz=>by rw[bA z]at h;cases h
    exact Hl (by rw[q];intro z;exact h (aP z))
   have hn0:(ra,rb)=(0,0):=aY λz=>h (by rw[aU z];rfl)
   rw[hn0]at q
   refine⟨d,ks,hd4,λo=>?_⟩
   have n0:fI H (upd G4 d (.frz o (.dT ks))):=fI.upd S4 nd0
   have hf0:=fC (H:=G4) (a:=d) (o:=.frz o (.dT ks))
   have hw5:WK (upd G4 d (.frz o (.dT ks))) rows ks:=hw4.imp λc' x y z=>by rw[fG (gA z hd4 (by intro z;cases z))];exact z
   generalize upd G4 d _=G5 at n0 hf0 hw5 ⊢
   have kl:=hw5.len
   refine⟨_,rfl,d,o,ks,rfl,hf0,λq nq=>tM rows.length rows (λ_=>true) (λr=>V.bl (dec (qK l (jG rows) r.1 r.2.1 r.2.2))) nq rfl (i7 (by omega)) (λi G6 s6 hi=>⟨s6 _ _ hf0,by omega⟩) (λG6 s6=>⟨s6 _ _ hf0,by omega⟩) ?_ ?_⟩
   ·intro i y r G6 G6' s6 yy hdr P1 P0 p1 p0
    obtain⟨rfl,bb,pp,hpp,rfl,hbb⟩:=yy
    have ep:=hw5.at i hdr hpp
    rw[ep,ip]at hbb
    have hrm:=av hdr
    obtain⟨_,rne,_⟩:=hst.2 r.1 (ao.mpr ⟨r,hrm,rfl⟩)
    refine jF ?_
    exact⟨_,rfl,_,rfl,_,rfl,_,d,bb,l,ks,jG rows,r.1,r.2.1,r.2.2,rfl,Da.same (n0.trans s6) hv,(WK.wd hw5 (.inr ⟨o,hf0⟩)).same s6,hbb,ok,rne,hzs r hrm,wZ hst.1 hrm,λG7 s7=>p1 G7 rfl s7⟩
   intro G6 s6 hq
   rw[kM]at hq
   have hf6:=s6 _ _ hf0
   refine⟨hf6,q,rows.map λr=>dec (qK l (jG rows) r.1 r.2.1 r.2.2),rfl,SqL.of ?_,?_⟩
   ·have hqd:q≠d:=λe=>by rw[e,hf6]at hq;cases hq
    rw[fG hqd,hq,bz];rfl
   have e:(rows.map λr=>dec (qK l (jG rows) r.1 r.2.1 r.2.2)).all id=dec (DI l tr rows):=by
    rw[bJ,fy,p8]
    constructor
    ·exact λz=>⟨hst,by assumption,λr hr=>p8.mp (z _ (ao.mpr ⟨r,hr,rfl⟩))⟩
    ·rintro z b hb
     obtain⟨r,hr,rfl⟩:=ao.mp hb
     exact p8.mpr (z.2.2 r hr)
   rw[e]
   exact k _ (fI.upd (n0.trans s6) nd0)
end
def yS (K:PySem.W.Frag):Sp:=λvs H Q _=>∃ (v:V) (pt p:Addr) (as:List Addr) (es:List Ent) (l:Ln) (tr:List Int) (n:Int),vs = [v,.ref pt,.ref p,.int n]/\Da K H (dL l) v/\Da K H (dI tr) (.ref pt)/\sH H p as es/\mY l tr es/\gv l/\tr≠ []/\tr.length<=6/\0<=n/\
 ∀ g gs H',fI H H'->H' g=some (.lst (gs.map V.int))->isT l gs->gs.length<=6->Q (.ref g) H'
def yQ (K:PySem.W.Frag):Sp:=λvs H Q _=>∃ (v u g:V) (q:Addr) (l:Ln) (tr gs:List Int) (run:List (Str×Int)) (bs:List (List Int)),vs = [v,u,.ref q,g]/\Da K H (dL l) v/\Da K H (dI tr) u/\rL K H q run/\Da K H (dI gs) g/\gv l/\(∀ b∈bs,b≠ []/\b.length<=900)/\Way l tr run bs/\bs[run.length]? = some gs/\run.length<=5000/\
 ∀ H',fI H H'->Q (.bl true) H'
theorem Fv {K:PySem.W.Frag}{H:Hp} :∀ {cs:List Ma},(∀ x∈cs,H x.2.2=some (.lst (x.1.2.map V.int)))->Das K H ((cs.map λx=>x.1.2).map dI) (cs.map λx=>V.ref x.2.2)
 |[],_=>gS.mpr rfl
 |x::cs,h=>gm.mpr ⟨_,_,rfl,iu (h x aA),Fv λy hy=>h y (aw _ hy)⟩
abbrev nT:Stmt:=top 50
theorem yW:gj ["_law_line_here","_law_train_here","_law_order","_law_number"] ["_law_line_here","_law_train_here","_law_order","_law_number"] (fJ nT):=⟨rfl,rfl,rfl,by decide +kernel,rfl,by decide +kernel,by decide +kernel⟩
abbrev lE:Stmt:=top 53
theorem ko:gj ["_law_line_here","_law_train_here","_law_run","_law_goal_here","_law_here","_law_move","_law_some"] ["_law_line_here","_law_train_here","_law_run","_law_goal_here"] (fJ lE):=⟨rfl,rfl,rfl,by decide +kernel,rfl,by decide +kernel,by decide +kernel⟩
theorem mC:gH (fJ lE) ["_law_line_here","_law_train_here","_law_run","_law_goal_here","_law_here","_law_move","_law_some"] {kind:=.function,names:=[(Str.ofString ".0",.local),(Str.ofString "_law_one",.local),(Str.ofString "_law_behind",.local),(Str.ofString "_law_move",.free)],isGenerator:=false,isCoroutine:=false,more:=[]} ["_law_one","_law_behind","_law_move"] 2 [none,none,some 5]:=⟨rfl,by decide +kernel,by decide +kernel,by decide +kernel,rfl,by decide +kernel,rfl,by decide +kernel⟩
section
variable {P:Program}{w:World}{K:PySem.W.Frag}{mg:Str->Option Value}{base:Heap}{f:Addr}{fd:FuncData}
theorem zp {f1 f2:Addr}{fd1 fd2:FuncData}(F:Fn K mg "_law_goal" nT ["_law_line_here","_law_train_here","_law_order","_law_number"] f fd)(B:Bm mg)(kh:Fn K mg "_law_round" lD ["_law_train_here"] f1 fd1)(pD:fV P w K mg base CX0 2 f1 fd1 ["_law_train_here"] (yO K))
  (iE:Fn K mg "_law_train" jC ["_law_line_here","_law_cell","_law_length"] f2 fd2) (kf:fV P w K mg base CX0 2 f2 fd2 ["_law_line_here","_law_cell","_law_length"] (t7 K)):
  fV P w K mg base CX0 3 f fd ["_law_line_here","_law_train_here","_law_order","_law_number"] (yS K):=by
 refine F.F.ok yW (λvs H Q E h=>?_) (λcdv A outer s H vs Q E hr h=>?_)
 ·obtain⟨v,pt,p,as,es,l,tr,n,rfl,_⟩:=h;rfl
 ·obtain⟨v,pt,p,as,es,l,tr,n,rfl,hv,hu,O,EO,ok,hne,hl6,hn,k⟩:=h
  obtain⟨_,e,hS⟩:=ij.mp hu
  cases e
  have hel:1<=es.length:=by
   cases es with
   |nil=>exact absurd rfl EO.ne
   |cons x r=>simp
  have asl:(as.map V.ref).length=es.length:=by rw[aa];exact O.len
  have a0:0<=n/8%((as.map V.ref).length:Int):=cL _ (by omega)
  have a1:n/8%((as.map V.ref).length:Int)<((as.map V.ref).length:Int):=cw _ (by omega)
  have hi:(n/8%((as.map V.ref).length:Int)).toNat<es.length:=by omega
  obtain⟨b,hb,bp,hbl⟩:=O.get (ah hi)
  obtain⟨T1,T2,T3⟩:=EO.tr _ (eG hi)
  have gx:atI (as.map V.ref) (n/8%((as.map V.ref).length:Int))=some (.ref b):=qA a0 (by rw[aj,hb];rfl)
  generalize es[(n/8%((as.map V.ref).length:Int)).toNat]=e at hbl T1 T2 T3
  refine⟨_,(fE (gN (gB (qY (fX iB (pv 3) fF) fF))
 (fH (fT (gq hV (pv 2) (fX iB (fX jz (pv 3) fF) (fQ gh rfl B.len bT (fA (pv 2) fD))) (λ_ _=>rfl)))) fY)
 (fE (gN (gB (nY (fX iB (pv 3) fF) fF))
 (fH (fT (fM pD (hr.mono (by decide)) rfl kh.m kh.F.kp kh.b .nil gu (fA (gq hV (pv 2) (fX iB (fX jz (pv 3) fF) (fQ gh rfl B.len bT (fA (pv 2) fD))) (λ_ _=>rfl)) fD)))) fY)
 (fH (fT (fM kf (hr.mono (by decide)) rfl iE.m iE.F.kp iE.b .nil gu (fA (pv 0) (fA (pv 3) (fA (fQ gh rfl B.len bT (fA (pv 1) fD)) fD)))))))),?_⟩
  refine⟨_,rfl,_,_,rfl,rfl,by show(0:Int)<8;decide,_,_,rfl,rfl,_,rfl,gT (λ_=>?_) (λ_=>?_)⟩
  ·refine⟨_,rfl,_,rfl,_,_,rfl,rfl,⟨by decide,by decide⟩,_,rfl,p,_,rfl,.inl (SqL.of O.at_),_,_,rfl,rfl,by show(0:Int)<((as.map V.ref).length:Int);omega,p,_,_,_,rfl,rfl,SqL.of O.at_,gx,?_⟩
   exact k b e.1 H (fI.refl _) hbl ⟨T3,T1⟩ (by omega)
  refine⟨_,rfl,_,_,rfl,rfl,by show(0:Int)<8;decide,_,_,rfl,rfl,_,rfl,gT (λ_=>?_) (λ_=>?_)⟩
  ·refine⟨_,rfl,_,rfl,_,_,rfl,rfl,⟨by decide,by decide⟩,_,rfl,p,_,rfl,.inl (SqL.of O.at_),_,_,rfl,rfl,by show(0:Int)<((as.map V.ref).length:Int);omega,p,_,_,_,rfl,rfl,SqL.of O.at_,gx,?_⟩
   refine⟨_,e.1,rfl,iu hbl,by omega,λq1 H2 s2 n1 hq1=>?_⟩
   exact k q1 _ H2 s2 hq1 ⟨λz=>T3 (by simpa using z),Cw ok T1⟩ (by rw[aa,cB];omega)
  ·refine⟨_,rfl,_,rfl,_,rfl,pt,_,rfl,.inl hS,v,l,n,_,rfl,hv,ok,by omega,by rw[aa];omega,λq1 t2 H2 s2 n1 hq1 Px hl2 hn2 T=>?_⟩
   rw[aa]at hn2
   exact k q1 t2 H2 s2 hq1 ⟨Px,T⟩ (by omega)
theorem xW {f1:Addr}{fd1:FuncData}(F:Fn K mg "_law_leads" lE ["_law_line_here","_law_train_here","_law_run","_law_goal_here"] f fd)(gO:Fn K mg "_law_moves" jD ["_law_line_here","_law_train_here"] f1 fd1)
  (iZ:fV P w K mg base CX0 2 f1 fd1 ["_law_line_here","_law_train_here"] (lB K)):
  fV P w K mg base CX0 3 f fd ["_law_line_here","_law_train_here","_law_run","_law_goal_here"] (yQ K):=by
 refine F.F.ok ko (λvs H Q E h=>?_) (λcdv A outer s H vs Q E hr h=>?_)
 ·obtain⟨v,u,g,q,l,tr,gs,run,bs,rfl,_⟩:=h;rfl
 ·obtain⟨v,u,g,q,l,tr,gs,run,bs,rfl,hv,hu,ra,hg,ok,hb,W,hgs,hrl,k⟩:=h
  obtain⟨vr,hq,Dr⟩:=ra.ex
  have rl:vr.length=run.length:=by have:=Dgs.length Dr;rw[aa]at this;exact this
  refine⟨_,(fE (fR (i:=4) ko.nd rfl (Or.inl rfl) (pv 1))
 (fE (iL aV rfl (gz (pv 2)) (fL (i:=5) ko.nd rfl (Or.inr rfl))
 (fE (uE (i:=6) ko.nd rfl rfl (gz (fM iZ (hr.mono (by decide)) rfl gO.m gO.F.kp gO.b .nil gu (fA (pv 0) (fA (pv 4) fD)))) rfl mC (.tup (.cons (.name (by decide)) (.cons (.name (by decide)) .nil))) (λ_ _ _ _=>(ie (n:=2) rfl (fN (fL (i:=0) mC.nd rfl (Or.inl rfl)) (fN (fL (i:=1) mC.nd rfl (Or.inl rfl)) gP)))) (λ_ _ _ _=>(kz (h9 (Gs (K:=K) rfl hr.units) (pv 0) (pv 2) (iT _)))) (λ_ _ _ _=>(pv 1)))
 (fE (gN (h9 (nZ hr.units) (pv 6) (iH fD) (iT _))
 (fH (fT i8)) fY)
 (fH (fR (i:=4) ko.nd rfl (Or.inl rfl) (gq hV (pv 6) fF (λ_ _=>rfl)))))))
 (fH (fT (nW (nZ hr.units) (pv 4) (pv 3) (iT _)))))),?_⟩
  refine⟨_,rfl,?_⟩
  refine⟨_,rfl,q,rfl,⟨_,SqL.of hq⟩,oX (K:=K) (a:=q) (xs:=vr) (λi σ H3=>∃ (x4:V) (x5 x6:Option V) (b:List Int),σ = [some v,some u,some (.ref q),some g,some x4,x5,x6]/\fI H H3/\bs[i]? = some b/\Da K H3 (dI b) x4)
   ⟨u,none,none,tr,rfl,fI.refl _,W.first,hu⟩ (λi σ H3 _ ⟨_,_,_,_,_,s,_⟩=>SqL.of (s _ _ hq)) ?_ ?_⟩
  ·rintro i y σ H3 hy ⟨x4,x5,x6,b,rfl,S3,hbi,Db⟩
   have hil:i<run.length:=by rw[<-rl];exact(af.mp hy).1
   obtain⟨dm,e1,hdm⟩:=Dgs.get Dr hy
   rw[aj,ah hil]at e1
   cases e1
   have hk:run[i]? = some run[i]:=ah hil
   generalize run[i]=kx at hk hdm
   have hkx:PyData.strOk kx.1=true:=ra.ok kx (av hk)
   have hb1:bs[i+1]? = some (bs[i+1]'(by rw[W.len];omega)):=ah _
   generalize bs[i+1]'(by rw[W.len];omega)=b' at hb1
   have hm:=W.step i kx b b' hk hbi hb1
   obtain⟨bne,bl⟩:=hb b (av hbi)
   have Dk:Da K H3 (dM kx) y:=Da.same (gQ.trans S3) hdm
   refine⟨_,rfl,_,rfl,_,_,l,b,rfl,Da.same S3 hv,Db,ok,bne,bl,λpm vm H5 s5 npm hpm Dm=>?_⟩
   have ml:vm.length=(mvs l b).length:=by have:=Dm.length;rw[aa]at this;exact this
   have mb:=Gy ok b
   have GN:=SqL.of (K:=K) hpm
   refine⟨pm,rfl,⟨_,GN⟩,λps nps=>?_⟩
   obtain⟨cs,hc1,hc2,hc3⟩:=ES Dm
   subst hc2
   have cl:cs.length=(mvs l b).length:=by rw[<-hc1,aa]
   have SE:H3 ps=none:=fI.free s5 nps
   refine tM cs.length cs (λx=>decide (x.1.1=kx)) (λx=>V.ref x.2.2) nps rfl (i7 (by omega)) (λj G s hj=>(ig GN).go j G s (by omega)) (λG s=>by have:=(ig GN).stop G s;rw[ml,<-cl]at this;exact this) ?_ ?_
   ·intro j z x G G' sG yy hd P1 P0 p1 p0
    obtain⟨rfl,hz⟩:=(ig GN).yld j G z G' sG (by have:=(af.mp hd).1;omega) yy
    rw[aj,hd]at hz
    cases hz
    obtain⟨⟨pk,ht,hdk⟩,hbb,_,_⟩:=hc3 x (av hd)
    have hxm:x.1∈mvs l b:=by rw[<-hc1];exact ao.mpr ⟨x,av hd,rfl⟩
    refine⟨x.2.1,_,rfl,gd sG ht,rfl,_,_,rfl,_,_,rfl,rfl,?_⟩
    refine⟨_,rfl,_,rfl,dM x.1.1,dM kx,Da.same sG hdk,Da.same (s5.trans sG) Dk,EA (yI hxm),EA hkx,_,rfl,?_⟩
    rw[Ll]
    by_cases hh:x.1.1=kx
    ·rw[bA hh]
     exact vg ⟨_,rfl,p1 _ (bA hh) (fI.refl _)⟩
    ·rw[aU hh]
     exact kB (p0 _ (aU hh) (fI.refl _))
   intro H6 s6 h6
   have hcs:∀ x∈cs.filter λx=>decide (x.1.1=kx),H6 x.2.2=some (.lst (x.1.2.map V.int))/\x.1.2=b':=λx hx=>by
    obtain⟨h1,h2⟩:=bW.mp hx
    obtain⟨_,hbb,_,_⟩:=hc3 x h1
    refine⟨s6 _ _ hbb,Gz (by rw[<-hc1];exact ao.mpr ⟨x,h1,rfl⟩) hm (by simpa using h2)⟩
   have Jc:(cs.filter λx=>decide (x.1.1=kx))≠ []:=by
    rw[<-hc1]at hm
    obtain⟨x,hx,ex⟩:=ao.mp hm
    intro z
    have:x∈cs.filter λx=>decide (x.1.1=kx):=bW.mpr ⟨hx,by rw[ex];simp⟩
    rw[z]at this;cases this
   generalize (cs.filter λx=>decide (x.1.1=kx))=ds at h6 hcs Jc
   have S6:=(S3.trans s5).trans s6
   refine⟨_,rfl,aK _,λe3 ne3=>?_⟩
   have u1:=fB (o:=.lst []) ne3
   have Dds:Da K (upd H6 e3 (.lst [])) (dLI (ds.map λx=>x.1.2)) (.ref ps):=ia.mpr ⟨ps,_,rfl,SqL.of (u1 _ _ h6),Fv λx hx=>u1 _ _ (hcs x hx).1⟩
   refine⟨_,.list [],Dds,iu (ns:=[]) fC,sg _,BG,_,rfl,?_⟩
   have ee:PyData.eqv (dLI (ds.map λx=>x.1.2)) (.list [])=false:=by
    rw[dLI,rq]
    cases ds with
    |nil=>exact absurd rfl Jc
    |cons x r=>rfl
   rw[ee]
   refine kB ?_
   obtain⟨x0,r0,e0⟩:∃ x r,ds=x::r:=by
    cases ds with
    |nil=>exact absurd rfl Jc
    |cons x r=>exact⟨x,r,rfl⟩
   subst e0
   obtain⟨hx1,hx2⟩:=hcs x0 aA
   refine⟨_,rfl,ps,_,_,_,rfl,rfl,SqL.of (u1 _ _ h6),mU (j:=0) rfl,?_⟩
   exact⟨_,_,_,b',rfl,S6.trans u1,hb1,by rw[<-hx2];exact iu (u1 _ _ hx1)⟩
  ·rintro σ H3 ⟨x4,x5,x6,b,rfl,S3,hbi,Db⟩
   rw[rl,hgs]at hbi
   cases hbi
   refine⟨_,rfl,_,rfl,dI gs,dI gs,Db,Da.same S3 hg,jE _,jE _,?_⟩
   rw[jJ (jE gs)]
   exact k H3 S3
end
def words:List Str:=["line","train","move","piece","many","text","row"]
def Bj (cs:List Addr):Sp:=λvs H Q _=>∃ (e c:Addr) (j:Nat) (x:Str),vs = [.ref e]/\H e=some (vG e c)/\cs[j]? = some c/\words[j]? = some x/\∀ H',fI H H'->Q (.str x) H'
structure Told (K:PySem.W.Frag)(l:Ln)(ns gs:List Int)(H:Hp)(Q:VK):Prop where
 bad:¬gOk l ns gs->∀ H',fI H H'->Q (.str "train") H'
 many:gOk l ns gs->(∃ i,300<(fO l ns i).length)->∀ H',fI H H'->Q (.str "many") H'
 no:gOk l ns gs->∀ i,(fO l ns i).length=i->i<=300->gs∉(fO l ns i).map (·.1)->∀ r q bs H',lT H H' q bs ((fO l ns i).map (·.1))->H' r=some (.tup [.str "none",.ref q])->H r=none->Q (.ref r) H'
 yes:gOk l ns gs->∀ i,(fO l ns i).length=i->i<=300->gs∈(fO l ns i).map (·.1)->∀ r t q1 run q2 us H',(rnd l ns r).2 = []->fI H H'->rL K H' q1 run->H q1=none->j6 (rnd l ns r).1 (gs,mM l ns r gs) run->ox H H' q2 (kb l ns r ((fO l ns i).map (·.1))) us->q1≠q2->H' t=some (.tup [.str "run",.ref q1,.ref q2])->H t=none->Q (.ref t) H'
def Bf (K:PySem.W.Frag):Sp:=λvs H Q _=>∃ (v u g:V) (l:Ln) (ns gs:List Int),vs = [v,u,g]/\Da K H (dL l) v/\Da K H (dI ns) u/\Da K H (dI gs) g/\gv l/\ns≠ []/\ns.length<=900/\jm l ns/\gs.length<=900/\Told K l ns gs H Q
theorem vF {K:PySem.W.Frag}{c2 c5:Addr}{l:Ln}{ns gs:List Int}{H:Hp}{Q:VK}{E:XK}(go:gOk l ns gs)(few:∀ i,(fO l ns i).length<=300)(h:∀ r H',fI H H'->Q (.ref r) H'):FX K c2 c5 l ns gs H Q E:=
 ⟨λz=>absurd go z,λ_ ⟨j,hj⟩=>absurd (few j) (by omega),λ_ i _ _ _ r q bs H' FR _ _=>h r H' FR.same,λ_ i _ _ _ r t q1 run q2 us H' _ s' _ _ _ _ _ _ _=>h t H' s'⟩
abbrev nS:Stmt:=top 51
theorem oK:gj ["_law_kept_here","_law_found"] ["_law_kept_here"] (fJ nS):=⟨rfl,rfl,rfl,by decide +kernel,rfl,by decide +kernel,by decide +kernel⟩
abbrev nQ:Stmt:=top 52
theorem kc:gj ["_law_line_here","_law_train_here","_law_goal_here","_law_kept_here","_law_found","e"] ["_law_line_here","_law_train_here","_law_goal_here"] (fJ nQ):=⟨rfl,rfl,rfl,by decide +kernel,rfl,by decide +kernel,by decide +kernel⟩
section
variable {P:Program}{w:World}{K:PySem.W.Frag}{mg:Str->Option Value}{base:Heap}{f:Addr}{fd:FuncData}{D c1 c2 c3 c4 c5 c6 c7:Addr}
theorem Jh (XS:Xs K mg D c1 c2 c3 c4 c5 c6 c7):∀ c∈ [c1,c2,c3,c4,c5,c6,c7],ExC K c:=λc hc=>by
 simp only[aG,cS,or_false]at hc
 rcases hc with rfl |rfl |rfl |rfl |rfl |rfl |rfl
 ·exact XS.FU.e
 ·exact XS.ji.e
 ·exact XS.FT.e
 ·exact XS.Ck.e
 ·exact XS.qe.e
 ·exact XS.FP.e
 ·exact XS.HA.e
theorem bits {cs:List Addr}(nd:cs.Nodup){c:Addr}{j:Nat}(hj:cs[j]? = some c):cs.map (λd=>decide (c=d))=(List.range cs.length).map λi=>decide (i=j):=by
 refine ed λi=>?_
 rw[aj,aj]
 by_cases hi:i<cs.length
 ·rw[eY hi,ah hi]
  obtain⟨hl,e⟩:=af.mp hj
  show some (decide (c=cs[i]))=some (decide (i=j))
  congr 1
  by_cases h:i=j
  ·subst h;simp[e]
  ·have:c≠cs[i]:=λz=>h ((cG nd).mp (z.symm.trans e.symm))
   simp[h,this]
 ·rw[bq (by omega),bq (by simpa using hi)];rfl
theorem bit_count:∀ j,j<7->((List.range 7).map λi=>decide (i=j)).count true=1:=by decide
theorem Jl:∀ j,j<7->((List.range 7).map λi=>decide (i=j))[j]? = some true:=by decide
theorem Jk:∀ j,j<7->∀ m,m<j->((List.range 7).map λi=>decide (i=j))[m]? = some false:=by decide
theorem zo (F:Fn K mg "_law_kept" nS ["_law_kept_here"] f fd)(XS:Xs K mg D c1 c2 c3 c4 c5 c6 c7)(B:Bl mg):fV P w K mg base CX0 1 f fd ["_law_kept_here"] (Bj [c1,c2,c3,c4,c5,c6,c7]):=by
 refine F.F.ok oK (λvs H Q E h=>?_) (λcdv A outer s H vs Q E hr h=>?_)
 ·obtain⟨e,c,j,x,rfl,_⟩:=h;rfl
 ·obtain⟨e,c,j,x,rfl,he,hc,hx,q⟩:=h
  have hm:c∈ [c1,c2,c3,c4,c5,c6,c7]:=av hc
  have hj:j<7:=(af.mp hc).1
  have hE:=Jh XS c hm
  have k1:=XS.eq c hm
  have hb:=bits XS.nd hc
  refine⟨_,(fE (gN (m6 (my (fQ iY rfl B.isinstance bM (fA (pv 0) (fA (nX (v:=.ty "ValueError") rfl XS.VE tG rfl) fD)))))
 (fH (fT gK)) fY)
 (fE (fR (i:=1) oK.nd rfl (Or.inl rfl) (iH (fA (fQ iY rfl B.isinstance bM (fA (pv 0) (fA (lW (v:=.ref _) rfl XS.FU.m rfl) fD))) (fA (fQ iY rfl B.isinstance bM (fA (pv 0) (fA (lW (v:=.ref _) rfl XS.ji.m rfl) fD))) (fA (fQ iY rfl B.isinstance bM (fA (pv 0) (fA (lW (v:=.ref _) rfl XS.FT.m rfl) fD))) (fA (fQ iY rfl B.isinstance bM (fA (pv 0) (fA (lW (v:=.ref _) rfl XS.Ck.m rfl) fD))) fD))))))
 (fE (fR (i:=1) oK.nd rfl (Or.inl rfl) (fX oR (pv 1) (iH (fA (fQ iY rfl B.isinstance bM (fA (pv 0) (fA (lW (v:=.ref _) rfl XS.qe.m rfl) fD))) (fA (fQ iY rfl B.isinstance bM (fA (pv 0) (fA (lW (v:=.ref _) rfl XS.FP.m rfl) fD))) (fA (fQ iY rfl B.isinstance bM (fA (pv 0) (fA (lW (v:=.ref _) rfl XS.HA.m rfl) fD))) fD))))))
 (fE (gN (h9 BC (kF aH PySem.F.slot_list_count PySem.F.type_list_count EM (pv 1) (fA i8 fD)) fF (iT _))
 (fH (fT gK)) fY)
 (fH (fT (gq hV (iH (fA gK (fA gK (fA gK (fA gK (fA gK (fA gK (fA gK fD)))))))) (kF aH PySem.F.slot_list_index PySem.F.type_list_index EL (pv 1) (fA i8 fD)) (λ_ _=>rfl)))))))),?_⟩
  refine⟨_,rfl,e,c,_,_,true,rfl,he,hE,rfl,λ_ h=>h,XS.val c hm,_,rfl,?_⟩
  refine kB ?_
  refine⟨_,rfl,e,c,_,_,_,rfl,he,hE,rfl,λ_ h=>h,k1 c1 (by simp),_,rfl,e,c,_,_,_,rfl,he,hE,rfl,λ_ h=>h,k1 c2 (by simp),_,rfl,e,c,_,_,_,rfl,he,hE,rfl,λ_ h=>h,k1 c3 (by simp),
   _,rfl,e,c,_,_,_,rfl,he,hE,rfl,λ_ h=>h,k1 c4 (by simp),by show 4<=sizeLine;decide,λp1 n1=>?_⟩
  have s1:=fB (o:=.lst [.bl (decide (c=c1)),.bl (decide (c=c2)),.bl (decide (c=c3)),.bl (decide (c=c4))]) n1
  refine⟨_,rfl,_,rfl,e,c,_,_,_,rfl,s1 _ _ he,hE,rfl,λ_ h=>h,k1 c5 (by simp),_,rfl,e,c,_,_,_,rfl,s1 _ _ he,hE,rfl,λ_ h=>h,k1 c6 (by simp),_,rfl,e,c,_,_,_,rfl,s1 _ _ he,hE,rfl,λ_ h=>h,k1 c7 (by simp),
   by show 3<=sizeLine;decide,λp2 n2=>?_⟩
  have s2:=fB (o:=.lst [.bl (decide (c=c5)),.bl (decide (c=c6)),.bl (decide (c=c7))]) n2
  refine⟨p1,p2,_,_,rfl,rfl,s2 _ _ fC,fC,by show 7<=sizeLine;decide,λp3 n3=>?_⟩
  have S12:=s1.trans s2
  generalize upd (upd H p1 _) p2 _=G at n3 S12 ⊢
  have s3:=fB (o:=.lst (([c1,c2,c3,c4,c5,c6,c7].map λd=>decide (c=d)).map V.bl)) n3
  have hp3:upd G p3 (.lst (([c1,c2,c3,c4,c5,c6,c7].map λd=>decide (c=d)).map V.bl)) p3=some (.lst (((List.range 7).map λi=>decide (i=j)).map V.bl)):=by
   rw[fC,hb];rfl
  have S:=S12.trans s3
  refine⟨_,rfl,.inl ⟨rfl,_,SqL.of hp3⟩,p3,_,true,rfl,rfl,hp3,rfl,_,rfl,gT (λz=>?_) (λ_=>?_)⟩
  ·have PF:=bit_count j hj
   exact absurd z (by
    show ¬((!decide (V.int (((((List.range 7).map λi=>decide (i=j)).count true:Nat)):Int)=V.int 1))=true)
    rw[PF];simp)
  refine⟨by show 7<=sizeLine;decide,λp4 n4=>?_⟩
  have s4:=fB (o:=.lst [.str "line",.str "train",.str "move",.str "piece",.str "many",.str "text",.str "row"]) n4
  refine⟨_,rfl,.inl ⟨rfl,_,SqL.of (s4 _ _ hp3)⟩,p3,_,true,j,rfl,rfl,s4 _ _ hp3,Jl j hj,Jk j hj,?_⟩
  refine⟨p4,_,_,_,rfl,rfl,SqL.of fC,?_,q _ (S.trans s4)⟩
  have e:[V.str "line",.str "train",.str "move",.str "piece",.str "many",.str "text",.str "row"][j]? = some (V.str x):=by
   have e:[V.str "line",.str "train",.str "move",.str "piece",.str "many",.str "text",.str "row"]=words.map V.str:=rfl
   rw[e,aj,hx];rfl
  exact mU e
theorem zl {f1 f2 f3:Addr}{fd1 fd2 fd3:FuncData}(F:Fn K mg "_law_told" nQ ["_law_line_here","_law_train_here","_law_goal_here"] f fd)(XS:Xs K mg D c1 c2 c3 c4 c5 c6 c7)(B:Bm mg)(iF:Fn K mg "fewest" nk ["line","train","goal"] f1 fd1)(lG:fV P w K mg base (CXr P w base) 6 f1 fd1 ["line","train","goal"] (rV K c2 c5))
  (kT:Fn K mg "_law_kept" nS ["_law_kept_here"] f2 fd2) (fS:Fn K mg "_law_other" jc ["_law_end"] f3 fd3):fV P w K mg base CX0 7 f fd ["_law_line_here","_law_train_here","_law_goal_here"] (Bf K):=by
 have Bb:fV P w K mg base CX0 1 f2 fd2 ["_law_kept_here"] (Bj [c1,c2,c3,c4,c5,c6,c7]):=zo kT XS B.toBl
 have iP:fV P w K mg base CX0 1 f3 fd3 ["_law_end"] kj:=kA fS
 refine F.F.ok kc (λvs H Q E h=>?_) (λcdv A outer s H vs Q E hr h=>?_)
 ·obtain⟨v,u,g,l,ns,gs,rfl,_⟩:=h;rfl
 ·obtain⟨v,u,g,l,ns,gs,rfl,hv,hu,hg,ok,hne,hz,T,gl,k⟩:=h
  obtain⟨p,rfl,hp⟩:=ij.mp hu
  obtain⟨x0,Sw,etr⟩:∃ x r,ns=x::r:=by
   cases ns with
   |nil=>exact absurd rfl hne
   |cons x r=>exact⟨x,r,rfl⟩
  have gx0:atI (ns.map V.int) 0=some (V.int x0):=mU (j:=0) (by rw[etr];rfl)
  have hx0:0<=x0/\x0<2*l.1:=T.ends x0 (by rw[etr];exact aA)
  have hx1:0<=oth x0/\oth x0<2*l.1:=by unfold oth;omega
  have go1:gOk l [x0] [oth x0]:=⟨⟨by simp,xx hx1⟩,rfl⟩
  clear etr
  refine⟨_,(fE (fR (i:=3) kc.nd rfl (Or.inl rfl) uG)
 (fE (fR (i:=4) kc.nd rfl (Or.inl rfl) uG)
 (fE (Ia (j:=5) rfl rfl rfl kc.nd rfl rfl rfl XS.DJ.m (λpn W E hW=>(fH (fR (i:=4) kc.nd rfl (Or.inl rfl) (zh lG (hr.mono (by decide)) rfl iF.m iF.F.kp iF.b .nil hW (fA (pv 0) (fA (pv 1) (fA (pv 2) fD))))))) (λe=>(fH (fR (i:=3) kc.nd rfl (Or.inl rfl) (pv 5)))))
 (fE (gN (gB (qX (pv 3)))
 (fH (fT (fM Bb (hr.mono (by decide)) rfl kT.m kT.F.kp kT.b .nil gu (fA (pv 3) fD)))) fY)
 (fE (g7 (fM lG (hr.mono (by decide)) rfl iF.m iF.F.kp iF.b .nil pU (fA (pv 0) (fA (iH (fA (gq hV (pv 1) fF (λ_ _=>rfl)) fD)) (fA (iH (fA (fM iP (hr.mono (by decide)) rfl fS.m fS.F.kp fS.b .nil gu (fA (gq hV (pv 1) fF (λ_ _=>rfl)) fD)) fD)) fD)))))
 (fH (fT (pv 4)))))))),?_⟩
  refine⟨_,rfl,_,rfl,_,rfl,_,_,_,l,ns,gs,rfl,hv,hu,hg,ok,hne,hz,T,gl,?_⟩
  refine⟨λz H' s' e he=>?_,λz zi H' s' e he=>?_,λz i hi i3 hn r q bs H' FR hr0 nr=>?_,λz i hi i3 hn r t q1 run q2 us H' hrn s' ra nq pt R qq hr0 nr=>?_⟩
  ·refine⟨e,c2,rfl,rfl,XS.cat c2 (by simp),?_⟩
   refine⟨_,rfl,?_⟩
   refine⟨_,rfl,_,rfl,vg ?_⟩
   exact⟨_,rfl,e,c2,1,_,rfl,fC,rfl,rfl,λH2 s2=>k.bad z H2 (s'.trans ((fB he).trans s2))⟩
  ·refine⟨e,c5,rfl,rfl,XS.cat c5 (by simp),?_⟩
   refine⟨_,rfl,?_⟩
   refine⟨_,rfl,_,rfl,vg ?_⟩
   exact⟨_,rfl,e,c5,4,_,rfl,fC,rfl,rfl,λH2 s2=>k.many z zi H2 (s'.trans ((fB he).trans s2))⟩
  ·have s':=FR.same
   refine⟨_,rfl,_,rfl,kB ⟨_,rfl,_,rfl,p,_,_,_,rfl,rfl,s'.seq hp,gx0,by show 1<=sizeLine;decide,λe1 n1=>?_⟩⟩
   have v1:=fB (o:=.lst [V.int x0]) n1
   refine⟨_,rfl,p,_,_,_,rfl,rfl,(s'.trans v1).seq hp,gx0,x0,rfl,by show 1<=sizeLine;decide,λe2 n2=>?_⟩
   have v2:=fB (o:=.lst [V.int (oth x0)]) n2
   have V2:=s'.trans (v1.trans v2)
   refine⟨_,_,_,l,[x0],[oth x0],rfl,Da.same V2 hv,iu (ns:=[x0]) (v2 _ _ fC),iu (ns:=[oth x0]) fC,ok,by simp,by simp,xx hx0,by simp,vF go1 (BE ok hx0) λrr G sG=>?_⟩
   have W0:=v1.trans (v2.trans sG)
   exact⟨_,rfl,k.no z i hi i3 hn r q bs G (lT.post W0 FR) (W0 _ _ hr0) nr⟩
  ·refine⟨_,rfl,_,rfl,kB ⟨_,rfl,_,rfl,p,_,_,_,rfl,rfl,s'.seq hp,gx0,by show 1<=sizeLine;decide,λe1 n1=>?_⟩⟩
   have v1:=fB (o:=.lst [V.int x0]) n1
   refine⟨_,rfl,p,_,_,_,rfl,rfl,(s'.trans v1).seq hp,gx0,x0,rfl,by show 1<=sizeLine;decide,λe2 n2=>?_⟩
   have v2:=fB (o:=.lst [V.int (oth x0)]) n2
   have V2:=s'.trans (v1.trans v2)
   refine⟨_,_,_,l,[x0],[oth x0],rfl,Da.same V2 hv,iu (ns:=[x0]) (v2 _ _ fC),iu (ns:=[oth x0]) fC,ok,by simp,by simp,xx hx0,by simp,vF go1 (BE ok hx0) λrr G sG=>?_⟩
   have W0:=v1.trans (v2.trans sG)
   exact⟨_,rfl,k.yes z i hi i3 hn r t q1 run q2 us G hrn (s'.trans W0) (ra.same W0) nq pt (R.same W0) qq (W0 _ _ hr0) nr⟩
end
theorem rn {K:PySem.W.Frag} :PySem.W.kitOne K (.type "int") (.type "bool")=some false:=by
 unfold PySem.W.kitOne PySem.W.kitCls
 rw[aE (by decide)]
 dsimp only
 first
  |decide +kernel
  |(rw[aJ (by decide +kernel)];decide +kernel)
  |rfl
def asW (r:R3):W3:=(r.1,(r.2.1:Int),(r.2.2:Int))
theorem Cj (rs:List R3):(rs.map asW).map (·.1)=rs.map (·.1):=by rw[bz];rfl
theorem rP (l:Ln)(tr:List Int)(r:Nat)(ts:List (List Int)):(kb l tr r ts).map (·.1)=ts:=by
 unfold kb;rw[bz];exact List.map_id' _
theorem lS.da {K:PySem.W.Frag}{H0 H:Hp}(r:R3)(v:V)(h:lS H0 H r v):Da K H (dW (asW r)) v:=by
 obtain⟨ad,a,rfl,h1,h2,_⟩:=h
 exact gR.mpr ⟨ad,_,rfl,SqT.of h1,gm.mpr ⟨_,_,rfl,iu h2,Dgs.two (iC.mpr rfl) (iC.mpr rfl)⟩⟩
theorem ox.da {K:PySem.W.Frag}{H0 H:Hp}{q:Addr}{rows:List R3}{vs:List V}(h:ox H0 H q rows vs):Da K H (dWs (rows.map asW)) (.ref q):=by
 unfold dWs
 rw[bz]
 exact ia.mpr ⟨q,vs,rfl,SqL.of h.at_,h.pw.das λr v z=>Da.same gQ (lS.da r v z)⟩
theorem Ce {l:Ln}{tr:List Int}{r i:Nat}(ok:gv l)(T:jm l tr)(hne:tr≠ [])(hi:(fO l tr i).length=i)(i3:i<=300)(he:(rnd l tr r).2 = []){t:List Int}(ht:t∈(fO l tr i).map (·.1)){w:Str}(hw:isW w):cnt l tr r (t,w)=some (cn l tr r t w):=by
 obtain⟨_,htr,hsh⟩:=oG ok T hne hi
 obtain⟨e,he',rfl⟩:=ao.mp ht
 obtain⟨_,h2⟩:=RC.full ok (RC.of (λt ht=>(hsh t ht).2) htr (by rw[aa];omega) r) he i e he' w hw
 obtain⟨n,hn⟩:=cN.mp h2
 unfold cn
 rw[hn];rfl
theorem si {l:Ln}{tr:List Int}{r i:Nat}(nd:((fO l tr i).map (·.1)).Nodup){t:List Int}(ht:t∈(fO l tr i).map (·.1)):jG ((kb l tr r ((fO l tr i).map (·.1))).map asW) t=some ((cn l tr r t onW:Int),(cn l tr r t gE:Int)):=
 wZ (r:=(t,(cn l tr r t onW:Int),(cn l tr r t gE:Int))) (by rw[Cj,rP];exact nd) (ao.mpr ⟨(t,cn l tr r t onW,cn l tr r t gE),ao.mpr ⟨t,ht,rfl⟩,rfl⟩)
theorem DP {l:Ln}{tr:List Int}{r i:Nat}(ok:gv l)(T:jm l tr)(hne:tr≠ [])(hi:(fO l tr i).length=i)(i3:i<=300)(he:(rnd l tr r).2 = []):DI l tr ((kb l tr r ((fO l tr i).map (·.1))).map asW):=by
 have EO:=jd ok T hne i
 have AN:=yE ok T hne hi
 obtain⟨_,htr,hsh⟩:=oG ok T hne hi
 have gG:∀ t∈(fO l tr i).map (·.1),∀ m∈mvs l t,m.2∈(fO l tr i).map (·.1):=λt ht=>(hsh t ht).2
 have hW:((fO l tr i).map (·.1)).length<=300:=by rw[aa];omega
 have ci:=CI.of gG htr hW r
 have ce:∀ {t},t∈(fO l tr i).map (·.1)->∀ {w},isW w->cnt l tr r (t,w)=some (cn l tr r t w):=λht _ hw=>Ce ok T hne hi i3 he ht hw
 have z0:∀ w,isW w->cn l tr r tr w=0:=λw hw=>by
  have:=ce htr hw
  rw[ci.st (xN he) w hw]at this
  exact(aP this).symm
 refine⟨by rw[Cj,rP,<-iQ];exact AN.1,?_,λq hq=>?_⟩
 ·rw[si EO.nd htr,z0 onW (.inl rfl),z0 gE (.inr rfl)];rfl
 ·obtain⟨q3,hq3,rfl⟩:=ao.mp hq
  obtain⟨t,ht,rfl⟩:=ao.mp hq3
  obtain⟨n1,n2⟩:=FA gG htr hW he (ce ht (.inl rfl)) (ce ht (.inr rfl))
  refine⟨⟨by show((cn l tr r t onW:Int))<=(cn l tr r t gE:Int)+1;omega,by show((cn l tr r t gE:Int))<=(cn l tr r t onW:Int)+1;omega⟩,λm hm=>?_⟩
  have hm2:=gG t ht m hm
  refine⟨_,_,si EO.nd hm2,λe=>?_,λe=>?_⟩
  ·obtain⟨n',h1,h2⟩:=ci.mv (t,onW) _ m (ce ht (.inl rfl)) hm e
   have h1:cnt l tr r (m.2,onW)=some n':=h1
   rw[ce hm2 (w:=onW) (.inl rfl)]at h1
   cases h1
   show((cn l tr r m.2 onW:Int))<=(cn l tr r t onW:Int)
   omega
  ·obtain⟨n',h1,h2⟩:=ci.mv (t,gE) _ m (ce ht (.inr rfl)) hm e
   have h1:cnt l tr r (m.2,gE)=some n':=h1
   rw[ce hm2 (w:=gE) (.inr rfl)]at h1
   cases h1
   show((cn l tr r m.2 gE:Int))<=(cn l tr r t gE:Int)
   omega
def yN (K:PySem.W.Frag):Sp:=λvs H Q _=>∃ (v u g x:V) (l:Ln) (tr gs:List Int) (rows:List W3) (a b n:Int),vs = [v,u,g,x,.int n]/\Da K H (dL l) v/\Da K H (dI tr) u/\Da K H (dI gs) g/\Da K H (dWs rows) x/\gv l/\DI l tr rows/\rows.length<=1500/\tr.length<=900/\jG rows gs=some (a,b)/\n=(if b<a then b else a)/\
 ∀ H',fI H H'->Q (.bl true) H'
def Bi (K:PySem.W.Frag):Sp:=λvs H Q _=>∃ (r:V) (run:List (Str×Int)),vs = [r]/\Da K H (dR run) r/\run.length<=100000/\∀ H',fI H H'->Q (.int (chg (run.map (·.1)))) H'
abbrev mQ:Stmt:=top 54
theorem ic:gj ["_law_line_here","_law_train_here","_law_goal_here","_law_rows","_law_many","_law_ways","_law_standing","_law_one","_law_other_here","_law_move","_law_behind","_law_kind"] ["_law_line_here","_law_train_here","_law_goal_here","_law_rows","_law_many"] (fJ mQ):=⟨rfl,rfl,rfl,by decide +kernel,rfl,by decide +kernel,by decide +kernel⟩
abbrev jV:Stmt:=top 55
theorem uv:gj ["_law_run"] ["_law_run"] (fJ jV):=⟨rfl,rfl,rfl,by decide +kernel,rfl,by decide +kernel,by decide +kernel⟩
theorem nK:gH (fJ jV) ["_law_run"] {kind:=.function,names:=[(Str.ofString ".0",.local),(Str.ofString "_law_k",.local),(Str.ofString "_law_run",.free)],isGenerator:=false,isCoroutine:=false,more:=[]} ["_law_k","_law_run"] 1 [none,some 0]:=⟨rfl,by decide +kernel,by decide +kernel,by decide +kernel,rfl,by decide +kernel,rfl,by decide +kernel⟩
section
variable {P:Program}{w:World}{K:PySem.W.Frag}{mg:Str->Option Value}{base:Heap}{f:Addr}{fd:FuncData}
theorem uO (F:Fn K mg "_law_changes" jV ["_law_run"] f fd)(B:Bm mg):fV P w K mg base CX0 1 f fd ["_law_run"] (Bi K):=by
 refine F.F.ok uv (λvs H Q E h=>?_) (λcdv A outer s H vs Q E hr h=>?_)
 ·obtain⟨r,run,rfl,_⟩:=h;rfl
 ·obtain⟨r,run,rfl,hr0,hz,k⟩:=h
  obtain⟨ar,vr,rfl,har,hvr⟩:=ia.mp hr0
  have hlr:vr.length=run.length:=by have:=Dgs.length hvr;rw[aa]at this;exact this
  refine⟨_,(fH (fT (fQ gh rfl B.len bT (fA (lP (wO rfl B.range (fA fF (fA (fQ gh rfl B.len bT (fA (pv 0) fD)) fD))) rfl nK (.name (by decide)) (λ_ _ _ _=>(fL (i:=0) nK.nd rfl (Or.inl rfl))) (λ_ _ _ _=>(kz (h9 BC (gq (yf (K:=K) rfl) (gq (zC (K:=K) rfl) (pv 1) (pv 0) (λ_ _=>rfl)) fF (λ_ _=>rfl)) (gq (yf (K:=K) rfl) (gq (zC (K:=K) rfl) (pv 1) (fX uK (pv 0) fF) (λ_ _=>rfl)) fF (λ_ _=>rfl)) (iT _)))) (λ_ _ _ _=>(pv 0))) fD)))),?_⟩
  refine⟨_,rfl,ar,_,rfl,.inl har,1,_,rfl,⟨by decide,by decide,?_,?_⟩,λpn npn=>zA (n:=((vr.length:Int)-1).toNat) E7 (List.range (vr.length-1)) (chp (run.map (·.1))) (λj=>V.int (1+(j:Int))) npn ?_ ?_ ?_ ?_⟩
  ·omega
  ·omega
  ·rw[cj];omega
  ·exact i7 (by omega)
  ·intro j x d H' hx hd sm P1 P0 p1 p0
   have hx:x = .int (1+(j:Int)):=hx
   subst hx
   have hdi:d=j/\j<vr.length-1:=by
    obtain⟨h2,h3⟩:=af.mp hd
    rw[List.getElem_range]at h3
    rw[cj]at h2
    exact⟨h3.symm,h2⟩
   obtain⟨rfl,hj⟩:=hdi
   have v1:vr[d]? = some (vr[d]'(by omega)):=ah _
   have v2:vr[d+1]? = some (vr[d+1]'(by omega)):=ah _
   obtain⟨k1,hk1,dk1⟩:=A0 hvr v1
   obtain⟨k2,hk2,dk2⟩:=A0 hvr v2
   obtain⟨a1,e1,ht1⟩:=zR dk1
   obtain⟨a2,e2,ht2⟩:=zR dk2
   rw[e1]at v1
   rw[e2]at v2
   have g1:atI vr (1+(d:Int)-1)=some (V.ref a1):=qA (by omega) (by rw[show(1+(d:Int)-1).toNat=d by omega];exact v1)
   have g2:atI vr (1+(d:Int))=some (V.ref a2):=qA (by omega) (by rw[show(1+(d:Int)).toNat=d+1 by omega];exact v2)
   have hc:chp (run.map (·.1)) d = !decide (V.str k2.1=V.str k1.1):=by
    unfold chp
    rw[aj,aj,hk1,hk2]
    congr 1
    by_cases h:k1.1=k2.1
    ·have h2:V.str k2.1=V.str k1.1:=by rw[h]
     have h3:Option.map (·.1) (some k1)=Option.map (·.1) (some k2):=bL some h
     rw[bA h2,bA h3]
    ·have h2:¬V.str k2.1=V.str k1.1:=λz=>h (V.str.inj z).symm
     have h3:¬Option.map (·.1) (some k1)=Option.map (·.1) (some k2):=λz=>h (aP z)
     rw[aU h2,aU h3]
   refine⟨_,rfl,_,rfl,ar,_,_,_,rfl,rfl,sm.seq har,g2,a2,_,_,_,rfl,rfl,gd sm ht2,rfl,_,rfl,_,rfl,_,_,rfl,rfl,ar,_,_,_,rfl,rfl,sm.seq har,g1,a1,_,_,_,rfl,rfl,gd sm ht1,rfl,rfl,_,rfl,gT (λh=>?_) (λh=>?_)⟩
   ·exact⟨_,rfl,p1 (hc.trans h)⟩
   ·exact p0 (hc.trans (by simpa using h))
  ·refine⟨pn,_,rfl,.inl (SqL.of fC),?_⟩
   have e:((((List.range (vr.length-1)).filter (chp (run.map (·.1)))).map λj:Nat=>V.int (1+(j:Int))).length:Int)=(chg (run.map (·.1)):Nat):=by
    rw[aa,hlr];simp[chg]
   rw[e]
   exact k _ (fB npn)
theorem xT {f1:Addr}{fd1:FuncData}(F:Fn K mg "_law_shows" mQ ["_law_line_here","_law_train_here","_law_goal_here","_law_rows","_law_many"] f fd)(B:Bm mg)(gO:Fn K mg "_law_moves" jD ["_law_line_here","_law_train_here"] f1 fd1)
  (iZ:fV P w K mg base CX0 2 f1 fd1 ["_law_line_here","_law_train_here"] (lB K)):
  fV P w K mg base CX0 3 f fd ["_law_line_here","_law_train_here","_law_goal_here","_law_rows","_law_many"] (yN K):=by
 refine F.F.ok ic (λvs H Q E h=>?_) (λcdv A outer s H vs Q E hr h=>?_)
 ·obtain⟨v,u,g,x,l,tr,gs,rows,a,b,n,rfl,_⟩:=h;rfl
 ·obtain⟨v,u,g,x,l,tr,gs,rows,ga,gb,n,rfl,hv,hu,hg,hx,ok,AW,hz,tl,hgn,hn,k⟩:=h
  obtain⟨at0,rfl,hT0⟩:=ij.mp hu
  obtain⟨ag,rfl,hG0⟩:=ij.mp hg
  obtain⟨q,us,rfl,hR,D⟩:=ia.mp hx
  have ul:us.length=rows.length:=by have:=Dgs.length D;rw[aa]at this;exact this
  have rnd:=AW.1.1
  refine⟨_,(fE (fR (i:=5) ic.nd rfl (Or.inl rfl) zf)
 (fE (iL aV rfl (gz (pv 3)) (ie (n:=3) rfl (fN (fL (i:=6) ic.nd rfl (Or.inl rfl)) (fN (fL (i:=7) ic.nd rfl (Or.inl rfl)) (fN (fL (i:=8) ic.nd rfl (Or.inl rfl)) gP))))
 (fE (gN (PW.pt (qU (m6 (my (fQ mT rfl B.isinstance bM (fA (pv 7) (fA (nX (v:=.ty "int") rfl B.int boot_int rfl) fD))))) (oM (m6 (my (fQ mT rfl B.isinstance bM (fA (pv 8) (fA (nX (v:=.ty "int") rfl B.int boot_int rfl) fD))))))))
 (fH (fT i8)) fY)
 (fE (gN (PW.pt (qU (my (fQ mT rfl B.isinstance bM (fA (pv 7) (fA (nX (v:=.ty "bool") rfl B.bool boot_bool rfl) fD)))) (oM (my (fQ mT rfl B.isinstance bM (fA (pv 8) (fA (nX (v:=.ty "bool") rfl B.bool boot_bool rfl) fD)))))))
 (fH (fT i8)) fY)
 (fE (gN (gB (wU (fQ Ad rfl B.abs boot_abs (fA (fX uK (pv 7) (pv 8)) fD)) fF))
 (fH (fT i8)) fY)
 (fH (tK (jI hr) (pv 5) (fZ gw rfl B.tuple bV (fA (pv 6) fD)) (gy (fA (pv 7) (fA (pv 8) fD))) rfl))))))
 (fE (gN (PW.pt (qU (h9 (uM hr.units) (lg (jI hr) (pv 5) (fZ gw rfl B.tuple bV (fA (pv 1) fD)) (λ_ _=>rfl)) (gy (fA fF (fA fF fD))) (iT _)) (oM (gB (qv (fQ (DD rfl) rfl B.min boot_min (fA (lg (jI hr) (pv 5) (fZ gw rfl B.tuple bV (fA (pv 2) fD)) (λ_ _=>rfl)) fD)) (pv 4))))))
 (fH (fT i8)) fY)
 (fE (iL aV rfl (gz (pv 3)) (ie (n:=3) rfl (fN (fL (i:=6) ic.nd rfl (Or.inl rfl)) (fN (fL (i:=7) ic.nd rfl (Or.inl rfl)) (fN (fL (i:=8) ic.nd rfl (Or.inl rfl)) gP))))
 (fH (iL aV rfl (gz (fM iZ (hr.mono (by decide)) rfl gO.m gO.F.kp gO.b .nil gu (fA (pv 0) (fA (pv 6) fD)))) (ie (n:=2) rfl (fN (fL (i:=9) ic.nd rfl (Or.inl rfl)) (fN (fL (i:=10) ic.nd rfl (Or.inl rfl)) gP)))
 (fE (fR (i:=11) ic.nd rfl (Or.inl rfl) (fZ DH rfl B.int boot_int (fA (nW BD (gq gD (pv 9) fF (λ_ _=>rfl)) gK (iT _)) fD)))
 (fH (gN (gB (wU (gq gD (lg (jI hr) (pv 5) (fZ gw rfl B.tuple bV (fA (pv 10) fD)) (λ_ _=>rfl)) (pv 11) (λ_ _=>rfl)) (gq gD (gy (fA (pv 7) (fA (pv 8) fD))) (pv 11) (λ_ _=>rfl))))
 (fH (fT i8)) fY))))))
 (fH (fT i8)))))),?_⟩
  refine λd nd=>?_
  have s2:=fB (o:=.dT []) nd
  have hd2:=fC (H:=H) (a:=d) (o:=.dT [])
  generalize upd H d _=H2 at s2 hd2 ⊢
  dsimp only[oW]
  refine nm λR1 hR1=>?_
  refine⟨_,rfl,q,rfl,⟨_,s2.seq hR⟩,iW (K:=K) (a:=q) (xs:=us) (λj σ H3=>∃ (x6 x7 x8:Option V) (ks:List (List Key×V)),σ = [some v,some (.ref at0),some (.ref ag),some (.ref q),some (.int n),some (.ref d),x6,x7,x8,none,none,none]/\fI H H3/\H3 d=some (.dT ks)/\WK H3 (rows.take j) ks)
   ⟨none,none,none,[],rfl,s2,hd2,trivial⟩ (λj σ H3 _ ⟨_,_,_,_,_,s,_⟩=>s.seq hR) ?_ ?_⟩
  ·rintro j y σ H3 N R B kN _ hj ⟨x6,x7,x8,ks,rfl,S3,hd3,hw3⟩
   obtain⟨r,ad,ur,hr',rfl,hT,hU⟩:=F4 (Das.same S3 D) hj
   obtain⟨ua,rfl,hUa⟩:=ij.mp hU
   obtain⟨⟨n1,n2⟩,_⟩:=AW.2.2 r (av hr')
   refine⟨ad,_,rfl,hT,rfl,_,_,rfl,_,_,rfl,_,_,rfl,rfl,?_⟩
   refine⟨_,rfl,_,_,_,true,rfl,.int _,oU,_,rfl,kB ⟨_,rfl,_,_,_,true,rfl,.int _,oU,_,rfl,kB ?_⟩⟩
   refine⟨_,rfl,_,_,_,false,rfl,.int _,rn,_,rfl,kB ⟨_,rfl,_,_,_,false,rfl,.int _,rn,_,rfl,kB ?_⟩⟩
   refine⟨_,rfl,_,rfl,_,_,rfl,rfl,_,rfl,_,_,rfl,rfl,_,rfl,gT (λh=>?_) (λ_=>?_)⟩
   ·have h:1<(if r.2.1-r.2.2<0 then -(r.2.1-r.2.2)else r.2.1-r.2.2):=by simpa using h
    split at h<;>omega
   refine⟨_,rfl,_,rfl,by show 2<=sizeLine;decide,λc nc=>?_⟩
   have s4:=fB (o:=.tup [.int r.2.1,.int r.2.2]) nc
   have hc:=fC (H:=H3) (a:=c) (o:=.tup [.int r.2.1,.int r.2.2])
   have hd4:=s4 _ _ hd3
   have hw4:=hw3.imp λc x y z=>s4 _ _ z
   generalize upd H3 c _=H4 at s4 hc hd4 hw4 ⊢
   refine⟨_,rfl,_,rfl,ua,_,rfl,.inl ⟨s4.seq hUa,λst nst=>?_⟩⟩
   have s5:=fB (o:=.tup (r.1.map V.int)) nst
   have hst:=fC (H:=H4) (a:=st) (o:=.tup (r.1.map V.int))
   have hd5:=s5 _ _ hd4
   have hc5:=s5 _ _ hc
   have hw5:=hw4.imp λc x y z=>s5 _ _ z
   generalize upd H4 st _=H5 at s5 hst hd5 hc5 hw5 ⊢
   have yg:jK ks (kyI r.1)=none:=hw5.no (wY rnd hr')
   refine⟨d,_,rfl,Ah.t (k:=kyI r.1) hd5 (by rw[ip];exact hst) (i7 (by rw[hw3.len,aT];omega)),?_⟩
   refine kN _ _ ⟨_,_,_,_,rfl,fI.upd (S3.trans (s4.trans s5)) nd,fC,?_⟩
   rw[oN _ yg,bh,hr']
   refine WK.imp (λc' x y z=>?_) (WK.snoc hc5 hw5)
   rw[fG (gA z hd5 (by intro z;cases z))];exact z
  rintro σ H3 ⟨x6,x7,x8,ks,rfl,S3,hd3,hw3⟩
  rw[ul,br]at hw3
  have W3d:=hw3.wd (.inl hd3)
  refine hR1 _ _ _ (nm λR2 hR2=>?_)
  refine⟨_,rfl,_,rfl,at0,_,rfl,.inl ⟨S3.seq hT0,λst nst=>?_⟩⟩
  have u1:=fB (o:=.tup (tr.map V.int)) nst
  have hst:=fC (H:=H3) (a:=st) (o:=.tup (tr.map V.int))
  generalize upd H3 st _=H4 at u1 hst ⊢
  have W4:=W3d.same u1
  obtain⟨c0,hc0,hc1⟩:=W4.yes tr 0 0 AW.2.1
  have g0:=W4.get hst
  rw[hc0]at g0
  refine⟨d,_,rfl,g0,?_⟩
  refine⟨by show 2<=sizeLine;decide,λe0 ne0=>?_⟩
  have u2:=fB (o:=.tup [.int 0,.int 0]) ne0
  refine⟨dP 0 0,dP 0 0,Fw (u2 _ _ hc1),Fw fC,sW _ _,sW _ _,_,rfl,?_⟩
  rw[jJ (sW 0 0)]
  refine kB ?_
  have U2:=u1.trans u2
  generalize upd H4 e0 _=H5 at u2 U2 ⊢
  refine⟨_,rfl,_,rfl,ag,_,rfl,.inl ⟨(S3.trans U2).seq hG0,λst2 Ir=>?_⟩⟩
  have u3:=fB (o:=.tup (gs.map V.int)) Ir
  have Fb:=fC (H:=H5) (a:=st2) (o:=.tup (gs.map V.int))
  generalize upd H5 st2 _=H6 at u3 Fb ⊢
  have W6:=W3d.same (U2.trans u3)
  obtain⟨c1,hc2,hc3⟩:=W6.yes gs ga gb hgn
  have g1:=W6.get Fb
  rw[hc2]at g1
  refine⟨d,_,rfl,g1,c1,ga,gb,rfl,SqT.of hc3,_,rfl,_,_,rfl,rfl,_,rfl,gT (λh=>absurd h (by rw[hn];simp)) (λ_=>hR2 _ _ _ ?_)⟩
  have S6:=S3.trans (U2.trans u3)
  clear g0 g1 hc0 hc1 hc2 hc3
  refine⟨_,rfl,q,rfl,⟨_,S6.seq hR⟩,iW (K:=K) (a:=q) (xs:=us) (λj σ H7=>∃ (x6 x7 x8 x9 x10 x11:Option V),σ = [some v,some (.ref at0),some (.ref ag),some (.ref q),some (.int n),some (.ref d),x6,x7,x8,x9,x10,x11]/\fI H6 H7)
   ⟨_,_,_,none,none,none,rfl,fI.refl _⟩ (λj σ H7 _ ⟨_,_,_,_,_,_,_,s⟩=>(S6.trans s).seq hR) ?_ ?_⟩
  ·rintro j y σ H7 N R B kN _ hj ⟨x6,x7,x8,x9,x10,x11,rfl,s7⟩
   obtain⟨r,ad,ur,hr',rfl,hT,hU⟩:=F4 (Das.same (S6.trans s7) D) hj
   have hrm:=av hr'
   obtain⟨rl,rne,_⟩:=AW.1.2 r.1 (ao.mpr ⟨r,hrm,rfl⟩)
   obtain⟨_,way⟩:=AW.2.2 r hrm
   refine⟨ad,_,rfl,hT,rfl,_,_,rfl,_,_,rfl,_,_,rfl,rfl,?_⟩
   refine⟨_,rfl,_,rfl,_,_,l,r.1,rfl,Da.same (S6.trans s7) hv,hU,ok,rne,by omega,λpm vm H8 s8 npm hpm Dm=>?_⟩
   refine⟨pm,rfl,⟨_,SqL.of hpm⟩,iW (K:=K) (a:=pm) (xs:=vm) (λjj σ H9=>∃ (x9 x10 x11:Option V),σ = [some v,some (.ref at0),some (.ref ag),some (.ref q),some (.int n),some (.ref d),some ur,some (.int r.2.1),some (.int r.2.2),x9,x10,x11]/\fI H8 H9)
    ⟨_,_,_,rfl,fI.refl _⟩ (λjj σ H9 _ ⟨_,_,_,_,s⟩=>SqL.of (s _ _ hpm)) ?_ ?_⟩
   ·rintro jj y σ H9 N2 R2 B2 k2 _ hjj ⟨x9,x10,x11,rfl,s9⟩
    obtain⟨m,am,pk,bb,hm,rfl,ht,dm,hbb,nbb,_⟩:=zt Dm hjj
    have hmm:=av hm
    obtain⟨ma,mb,hlk,h1,h2⟩:=way m hmm
    obtain⟨pk',e1,htm⟩:=zR dm
    cases e1
    have S9:=(s7.trans s8).trans s9
    have W9:=W6.same S9
    refine⟨am,_,rfl,gd s9 ht,rfl,_,_,rfl,_,_,rfl,rfl,?_⟩
    have hn':¬Str.ofString "back" = Str.ofString "on" :=by decide +kernel
    rcases(pX ok hmm).1 with hon |hbk
    ·refine⟨_,rfl,pk,_,_,_,rfl,rfl,gd s9 htm,rfl,rfl,.inr ⟨false,by rw[hon];exact bL (λz=>[V.bl z]) (aU λz=>hn' (V.str.inj z).symm),?_⟩⟩
     refine⟨_,rfl,_,rfl,bb,_,rfl,.inl ⟨SqL.of (s9 _ _ hbb),λst nst=>?_⟩⟩
     have u1:=fB (o:=.tup (m.2.map V.int)) nst
     have hst:=fC (H:=H9) (a:=st) (o:=.tup (m.2.map V.int))
     generalize upd H9 st _=G1 at u1 hst ⊢
     have W10:=W9.same u1
     obtain⟨c,hc,hc'⟩:=W10.yes _ _ _ hlk
     have g:=W10.get hst
     rw[hc]at g
     refine⟨d,_,rfl,g,_,rfl,c,_,_,_,rfl,rfl,SqT.of hc',rfl,_,rfl,_,rfl,by show 2<=sizeLine;decide,λt nt=>⟨_,rfl,t,_,_,_,rfl,rfl,SqT.of fC,rfl,_,_,rfl,rfl,_,rfl,gT (λh=>?_) (λ_=>?_)⟩⟩
     ·have h:r.2.1<ma:=by simpa using h
      have:=h1 hon
      omega
     ·exact k2 _ _ ⟨_,_,_,rfl,s9.trans (u1.trans (fB nt))⟩
    ·refine⟨_,rfl,pk,_,_,_,rfl,rfl,gd s9 htm,rfl,rfl,.inr ⟨true,by rw[hbk];exact bL (λz=>[V.bl z]) (bA rfl),?_⟩⟩
     refine⟨_,rfl,_,rfl,bb,_,rfl,.inl ⟨SqL.of (s9 _ _ hbb),λst nst=>?_⟩⟩
     have u1:=fB (o:=.tup (m.2.map V.int)) nst
     have hst:=fC (H:=H9) (a:=st) (o:=.tup (m.2.map V.int))
     generalize upd H9 st _=G1 at u1 hst ⊢
     have W10:=W9.same u1
     obtain⟨c,hc,hc'⟩:=W10.yes _ _ _ hlk
     have g:=W10.get hst
     rw[hc]at g
     refine⟨d,_,rfl,g,_,rfl,c,_,_,_,rfl,rfl,SqT.of hc',rfl,_,rfl,_,rfl,by show 2<=sizeLine;decide,λt nt=>⟨_,rfl,t,_,_,_,rfl,rfl,SqT.of fC,rfl,_,_,rfl,rfl,_,rfl,gT (λh=>?_) (λ_=>?_)⟩⟩
     ·have h:r.2.2<mb:=by simpa using h
      have:=h2 hbk
      omega
     ·exact k2 _ _ ⟨_,_,_,rfl,s9.trans (u1.trans (fB nt))⟩
   ·rintro σ H9 ⟨x9,x10,x11,rfl,s9⟩
    exact kN _ _ ⟨_,_,_,_,_,_,rfl,(s7.trans s8).trans s9⟩
  rintro σ H7 ⟨x6,x7,x8,x9,x10,x11,rfl,s7⟩
  exact k H7 (S6.trans s7)
end
def xC (K:PySem.W.Frag):Sp:=λvs H Q _=>∃ (a:Addr) (ns:List Int),vs = [.ref a]/\SqL K H a (ns.map V.int)/\∀ H',Q (.bl true) H'
def dH3 (l:Ln)(tr gs:List Int):PyData:=.tuple [dL l,dI tr,dI gs]
theorem rz (ns:List Int):(dI ns).depth<=1:=by
 simp only[dI,PyData.depth]
 have:=gL (f:=PyData.int) (k:=0) (λ_=>by simp[PyData.depth]) ns
 omega
theorem Fs (ts:List (List Int)):(dLI ts).depth<=2:=by
 simp only[dLI,PyData.depth]
 have:=gL rz ts
 omega
theorem og (l:Ln)(tr gs:List Int):OkD (dH3 l tr gs):=by
 have h1:=Kg l
 have h2:=jE tr
 have h3:=jE gs
 refine⟨?_,?_⟩
 ·simp only[dH3,PyData.canLay0,PyData.canLayAll0,h1.1,h2.1,h3.1,cY]
 ·have d1:=B7 l
  have d2:=rz tr
  have d3:=rz gs
  simp only[dH3,PyData.depth,PyData.depthAll]
  omega
def vL (ts:List (List Int)):PyData:=.tuple [.str "none",dLI ts]
theorem nF (ts:List (List Int)):OkD (vL ts):=by
 have h1:=sg ts
 have hs:PyData.strOk (Str.ofString "none")=true:=by decide +kernel
 refine⟨?_,?_⟩
 ·simp only[vL,PyData.canLay0,PyData.canLayAll0,h1.1,hs,cY]
 ·have d1:=Fs ts
  simp only[vL,PyData.depth,PyData.depthAll]
  omega
theorem pW {x:Str}(h:PyData.strOk x=true):OkD (.str x):=⟨h,by simp[PyData.depth]⟩
theorem Gp {es:List Ent}(nd:(es.map (·.1)).Nodup)(bk:oD es){t:List Int}{run:List (Str×Int)}(h:oy es t run):∀ (j:Nat) e,es[j]? = some e->e.1=t->run.length<=j:=by
 induction h with
 |nil _=>exact λj e _ _=>aK _
 |@snoc t' t k r hm _ ih=>
  intro j e he ee
  have:=GU nd (av he) hm ee
  subst this
  obtain⟨i,e1,hi,he1,e2⟩:=bk.back j t' t k he
  have:=ih i e1 he1 e2
  rw[ak,aI]
  omega
theorem Ke (r:W3):OkD (dW r):=by
 have h2:=jE r.1
 refine⟨?_,?_⟩
 ·simp only[dW,PyData.canLay0,PyData.canLayAll0,h2.1,cY]
 ·have d2:=rz r.1
  simp only[dW,PyData.depth,PyData.depthAll]
  omega
theorem GV (r:W3):(dW r).depth<=3:=by
 have d2:=rz r.1
 simp only[dW,PyData.depth,PyData.depthAll]
 omega
def xk (run:List (Str×Int))(rows:List W3):PyData:=.tuple [.str "run",dR run,dWs rows]
theorem uT {run:List (Str×Int)}(rows:List W3)(h:∀ k∈run,PyData.strOk k.1=true):OkD (xk run rows):=by
 have h1:=Kf h
 have hs:PyData.strOk (Str.ofString "run")=true:=by decide +kernel
 have hc:PyData.canLay0 (dWs rows)=true:=by
  unfold dWs
  rw[PyData.canLay0]
  exact iD (λr=>(Ke r).1) rows
 refine⟨?_,?_⟩
 ·simp only[xk,PyData.canLay0,PyData.canLayAll0,h1.1,hc,hs,cY]
 ·have d1:(dR run).depth<=2:=by
   simp only[dR,PyData.depth]
   have:=gL (f:=dM) (k:=1) (λm=>by simp[dM,PyData.depth,PyData.depthAll]) run
   omega
  have d2:(dWs rows).depth<=4:=by
   simp only[dWs,PyData.depth]
   have:=gL GV rows
   omega
  simp only[xk,PyData.depth,PyData.depthAll]
  omega
theorem DQ {l:Ln}{tr:List Int}{r r':Nat}(he:(rnd l tr r).2 = [])(he':(rnd l tr r').2 = []):(∀ ts,kb l tr r ts=kb l tr r' ts)/\∀ gs,mM l tr r gs=mM l tr r' gs:=by
 obtain⟨_,h2⟩:=Bv he he'
 have e:∀ t w,cn l tr r t w=cn l tr r' t w:=λt w=>by unfold cn;rw[h2]
 exact⟨λts=>by unfold kb;exact List.map_congr_left λt _=>by rw[e,e],λgs=>by unfold mM;rw[e,e]⟩
abbrev sS:Stmt:=top 56
theorem m3:gj ["_law_script","_law_line_here","_law_train_here","_law_order","_law_goal_here","_law_handed","_law_found","_law_row","_law_many","_law_kept_here"] ["_law_script"] (fJ sS):=⟨rfl,rfl,rfl,by decide +kernel,rfl,by decide +kernel,by decide +kernel⟩
theorem zZ:gH (fJ sS) ["_law_script","_law_line_here","_law_train_here","_law_order","_law_goal_here","_law_handed","_law_found","_law_row","_law_many","_law_kept_here"] {kind:=.function,names:=[(Str.ofString ".0",.local),(Str.ofString "_law_row",.local)],isGenerator:=false,isCoroutine:=false,more:=[]} ["_law_row"] 1 [none]:=⟨rfl,by decide +kernel,by decide +kernel,by decide +kernel,rfl,by decide +kernel,rfl,by decide +kernel⟩
theorem rH:gH (fJ sS) ["_law_script","_law_line_here","_law_train_here","_law_order","_law_goal_here","_law_handed","_law_found","_law_row","_law_many","_law_kept_here"] {kind:=.function,names:=[(Str.ofString ".0",.local),(Str.ofString "_law_standing",.local),(Str.ofString "_law_one",.local),(Str.ofString "_law_other_here",.local),(Str.ofString "list",.globalImplicit)],isGenerator:=false,isCoroutine:=false,more:=[]} ["_law_standing","_law_one","_law_other_here"] 3 [none,none,none]:=⟨rfl,by decide +kernel,by decide +kernel,by decide +kernel,rfl,by decide +kernel,rfl,by decide +kernel⟩
section
variable {P:Program}{w:World}{K:PySem.W.Frag}{mg:Str->Option Value}{base:Heap}{f:Addr}{fd:FuncData}{c2 c5:Addr}
set_option maxHeartbeats 16000000 in
theorem Ip {f1 f2 f3 f4 f5 f7 f8 f9 f10 f11 f12 f13 f14 f15:Addr}{fd1 fd2 fd3 fd4 fd5 fd7 fd8 fd9 Lk Lj Li Lh Lg Le:FuncData}(F:Fn K mg "law" sS ["_law_script"] f fd)(B:Bm mg)
  (kQ:Fn K mg "_law_line" nR ["_law_script"] f1 fd1) (qF:fV P w K mg base CX0 3 f1 fd1 ["_law_script"] (Bh K))
  (fW:Fn K mg "_law_cell_at" jW ["_law_script","_law_k"] f2 fd2) (fP:Fn K mg "_law_mix" kJ ["_law_cell","_law_k"] f3 fd3)
  (iE:Fn K mg "_law_train" jC ["_law_line_here","_law_cell","_law_length"] f4 fd4) (kf:fV P w K mg base CX0 2 f4 fd4 ["_law_line_here","_law_cell","_law_length"] (t7 K))
  (mj:Fn K mg "_law_web" pN ["_law_line_here","_law_train_here"] f5 fd5) (sI:fV P w K mg base CX0 3 f5 fd5 ["_law_line_here","_law_train_here"] (D0 K))
  (kU:Fn K mg "_law_goal" nT ["_law_line_here","_law_train_here","_law_order","_law_number"] f7 fd7) (qG:fV P w K mg base CX0 3 f7 fd7 ["_law_line_here","_law_train_here","_law_order","_law_number"] (yS K))
  (kP:Fn K mg "_law_told" nQ ["_law_line_here","_law_train_here","_law_goal_here"] f8 fd8) (qE:fV P w K mg base CX0 7 f8 fd8 ["_law_line_here","_law_train_here","_law_goal_here"] (Bf K))
  (ki:Fn K mg "_law_leads" lE ["_law_line_here","_law_train_here","_law_run","_law_goal_here"] f9 fd9) (pE:fV P w K mg base CX0 3 f9 fd9 ["_law_line_here","_law_train_here","_law_run","_law_goal_here"] (yQ K))
  (kg:Fn K mg "_law_shows" mQ ["_law_line_here","_law_train_here","_law_goal_here","_law_rows","_law_many"] f10 Lk) (pC:fV P w K mg base CX0 3 f10 Lk ["_law_line_here","_law_train_here","_law_goal_here","_law_rows","_law_many"] (yN K))
  (qf:Fn K mg "least" tJ ["line","train","goal"] f11 Lj) (yC:fV P w K mg base (CXr P w base) 5 f11 Lj ["line","train","goal"] (yP K c2 c5))
  (iF:Fn K mg "fewest" nk ["line","train","goal"] f12 Li) (lG:fV P w K mg base (CXr P w base) 6 f12 Li ["line","train","goal"] (rV K c2 c5))
  (kW:Fn K mg "are_ways" j9 ["line","train","rows"] f13 Lh) (qH:fV P w K mg base CX0 5 f13 Lh ["line","train","rows"] (Bs K))
  (jQ:Fn K mg "changes" md ["run"] f14 Lg) (jw:Fn K mg "_law_changes" jV ["_law_run"] f15 Le):
  fV P w K mg base CX0 8 f fd ["_law_script"] (xC K):=by
 have il:fV P w K mg base CX0 1 f3 fd3 ["_law_cell","_law_k"] ud:=n8 fP B.toBl
 have i6:fV P w K mg base CX0 1 f2 fd2 ["_law_script","_law_k"] (xF K):=oS fW B.toBl
 have xu:fV P w K mg base CX0 1 f14 Lg ["run"] (uh K):=AD jQ B
 have wm:fV P w K mg base CX0 1 f15 Le ["_law_run"] (Bi K):=uO jw B
 refine F.F.ok m3 (λvs H Q E h=>?_) (λcdv A outer s H vs Q E hr h=>?_)
 ·obtain⟨a,ns,rfl,_⟩:=h;rfl
 ·obtain⟨a,ns,rfl,hS,k⟩:=h
  refine⟨_,(fE (fR (i:=1) m3.nd rfl (Or.inl rfl) (fM qF (hr.mono (by decide)) rfl kQ.m kQ.F.kp kQ.b .nil gu (fA (pv 0) fD)))
 (fE (fR (i:=2) m3.nd rfl (Or.inl rfl) (fM kf (hr.mono (by decide)) rfl iE.m iE.F.kp iE.b .nil gu (fA (pv 1) (fA (fM i6 (hr.mono (by decide)) rfl fW.m fW.F.kp fW.b .nil gu (fA (pv 0) (fA fF fD))) (fA (fX i9 fF (fX iB (fM il (hr.mono (by decide)) rfl fP.m fP.F.kp fP.b .nil gu (fA (fM i6 (hr.mono (by decide)) rfl fW.m fW.F.kp fW.b .nil gu (fA (pv 0) (fA fF fD))) (fA fF fD))) fF)) fD)))))
 (fE (fR (i:=3) m3.nd rfl (Or.inl rfl) (gq gD (fM sI (hr.mono (by decide)) rfl mj.m mj.F.kp mj.b .nil gu (fA (pv 1) (fA (pv 2) fD))) fF (λ_ _=>rfl)))
 (fE (fR (i:=4) m3.nd rfl (Or.inl rfl) (fM qG (hr.mono (by decide)) rfl kU.m kU.F.kp kU.b .nil gu (fA (pv 1) (fA (pv 2) (fA (pv 3) (fA (fM il (hr.mono (by decide)) rfl fP.m fP.F.kp fP.b .nil gu (fA (fM i6 (hr.mono (by decide)) rfl fW.m fW.F.kp fW.b .nil gu (fA (pv 0) (fA fF fD))) (fA fF fD))) fD))))))
 (fE (fR (i:=5) m3.nd rfl (Or.inl rfl) (gy (fA (gy (fA (gq gD (pv 1) fF (λ_ _=>rfl)) (fA (fZ iM rfl B.list cQ (fA (gq gD (pv 1) fF (λ_ _=>rfl)) fD)) fD))) (fA (fZ iM rfl B.list cQ (fA (pv 2) fD)) (fA (fZ iM rfl B.list cQ (fA (pv 4) fD)) fD)))))
 (fE (fR (i:=6) m3.nd rfl (Or.inl rfl) (fM qE (hr.mono (by decide)) rfl kP.m kP.F.kp kP.b .nil gu (fA (gq gD (pv 5) fF (λ_ _=>rfl)) (fA (gq gD (pv 5) fF (λ_ _=>rfl)) (fA (gq gD (pv 5) fF (λ_ _=>rfl)) fD)))))
 (fE (gN (gB (qv (fQ gh rfl B.len bT (fA (pv 4) fD)) (fQ gh rfl B.len bT (fA (pv 2) fD))))
 (fH (fT (nW (nZ hr.units) (pv 6) gK (iT _)))) fY)
 (fE (gN (gB (wU (fQ gh rfl B.len bT (fA (pv 3) fD)) fF))
 (fH (fT (nW (nZ hr.units) (pv 6) gK (iT _)))) fY)
 (fE (gN (PW.pt (qU (m6 (my (fQ yu rfl B.isinstance bM (fA (pv 6) (fA (nX (v:=.ty "tuple") rfl B.tuple bV rfl) fD))))) (oM (h9 (uM hr.units) (pv 5) (gy (fA (pv 1) (fA (pv 2) (fA (pv 4) fD)))) (iT _)))))
 (fH (fT i8)) fY)
 (fE (gN (h9 (kK hr.units) (pv 4) (pv 3) (by with_unfolding_all rfl))
 (fE (gN (h9 (uM hr.units) (pv 6) (gy (fA gK (fA (pv 3) fD))) (iT _))
 (fH (fT i8)) fY)
 (fE (g7 (kF aH bf bc ir (gq hV (gq gD (pv 6) fF (λ_ _=>rfl)) fF (λ_ _=>rfl)) (fA fF fD)))
 (fE (g7 (uH aH PySem.F.slot_list_pop PySem.F.type_list_pop Iy (gq gD (pv 6) fF (λ_ _=>rfl))))
 (fH (fT (Ij (nW (nZ hr.units) (fM lG (hr.mono (by decide)) rfl iF.m iF.F.kp iF.b .nil pU (fA (gq gD (pv 5) fF (λ_ _=>rfl)) (fA (gq gD (pv 5) fF (λ_ _=>rfl)) (fA (gq gD (pv 5) fF (λ_ _=>rfl)) fD)))) (gy (fA gK (fA (pv 3) fD))) (iT _)) (Ih (nW (nZ hr.units) (pv 5) (gy (fA (pv 1) (fA (pv 2) (fA (pv 4) fD)))) (iT _))))))))) fY)
 (fE (gN (PW.pt (qU (gB (qv (fQ gh rfl B.len bT (fA (pv 6) fD)) fF)) (qU (h9 BC (gq gD (pv 6) fF (λ_ _=>rfl)) gK (iT _)) (oM (m6 (my (fQ yv rfl B.isinstance bM (fA (gq gD (pv 6) fF (λ_ _=>rfl)) (fA (nX (v:=.ty "list") rfl B.list cQ rfl) fD)))))))))
 (fH (fT i8)) fY)
 (fE (gN (PW.pt (qU (m6 (my (fM pE (hr.mono (by decide)) rfl ki.m ki.F.kp ki.b .nil gu (fA (pv 1) (fA (pv 2) (fA (gq gD (pv 6) fF (λ_ _=>rfl)) (fA (pv 4) fD))))))) (oM (h9 (uM hr.units) (lP (gz (gq gD (pv 6) fF (λ_ _=>rfl))) rfl zZ (.name (by decide)) (λ_ _ _ _=>(fL (i:=0) zZ.nd rfl (Or.inl rfl))) (λ_ _ _ _=>iq) (λ_ _ _ _=>(gq (yf (K:=K) rfl) (pv 0) fF (λ_ _=>rfl)))) (pv 3) (iT _)))))
 (fH (fT i8)) fY)
 (fE (fR (i:=8) m3.nd rfl (Or.inl rfl) (fM wm (hr.mono (by decide)) rfl jw.m jw.F.kp jw.b .nil gu (fA (gq gD (pv 6) fF (λ_ _=>rfl)) fD)))
 (fE (gN (PW.pt (qU (m6 (my (fM pC (hr.mono (by decide)) rfl kg.m kg.F.kp kg.b .nil gu (fA (pv 1) (fA (pv 2) (fA (pv 4) (fA (gq gD (pv 6) fF (λ_ _=>rfl)) (fA (pv 8) fD)))))))) (oM (h9 Gr (fM qH (hr.mono (by decide)) rfl kW.m kW.F.kp kW.b .nil gu (fA (pv 1) (fA (pv 2) (fA (gq gD (pv 6) fF (λ_ _=>rfl)) fD)))) i8 (iT _)))))
 (fH (fT i8)) fY)
 (fE (gN (PW.pt (qU (gB (qv (fM xu (hr.mono (by decide)) rfl jQ.m jQ.F.kp jQ.b .nil gu (fA (gq gD (pv 6) fF (λ_ _=>rfl)) fD)) (pv 8))) (oM (gB (qY (fM xu (hr.mono (by decide)) rfl jQ.m jQ.F.kp jQ.b .nil gu (fA (gq gD (fM yC (hr.mono (by decide)) rfl qf.m qf.F.kp qf.b .nil pU (fA (pv 1) (fA (pv 2) (fA (pv 4) fD)))) fF (λ_ _=>rfl)) fD)) (pv 8))))))
 (fH (fT i8)) fY)
 (fE (fR (i:=9) m3.nd rfl (Or.inl rfl) (gy (fA gK (fA (fZ iM rfl B.list cQ (fA (gq gD (pv 6) fF (λ_ _=>rfl)) fD)) (fA (lP (gz (gq gD (pv 6) fF (λ_ _=>rfl))) rfl rH (.tup (.cons (.name (by decide)) (.cons (.name (by decide)) (.cons (.name (by decide)) .nil)))) (λ_ _ _ _=>(ie (n:=3) rfl (fN (fL (i:=0) rH.nd rfl (Or.inl rfl)) (fN (fL (i:=1) rH.nd rfl (Or.inl rfl)) (fN (fL (i:=2) rH.nd rfl (Or.inl rfl)) gP))))) (λ_ _ _ _=>iq) (λ_ _ _ _=>(gy (fA (fZ (j4 (K:=K) rfl) rfl B.list cQ (fA (pv 0) fD)) (fA (pv 1) (fA (pv 2) fD)))))) fD)))))
 (fE (g7 (kF aH bf bc ir (gq gD (pv 6) fF (λ_ _=>rfl)) (fA fF fD)))
 (fE (iL aV rfl (gz (gq gD (pv 6) fF (λ_ _=>rfl))) (fL (i:=7) m3.nd rfl (Or.inl rfl))
 (fH (g7 (uH aH PySem.F.slot_list_clear PySem.F.type_list_clear zu (gq gD (pv 7) fF (λ_ _=>rfl))))))
 (fE (g7 (uH aH PySem.F.slot_list_clear PySem.F.type_list_clear zu (gq gD (pv 6) fF (λ_ _=>rfl))))
 (fH (fT (nW (nZ hr.units) (fM lG (hr.mono (by decide)) rfl iF.m iF.F.kp iF.b .nil pU (fA (gq gD (pv 5) fF (λ_ _=>rfl)) (fA (gq gD (pv 5) fF (λ_ _=>rfl)) (fA (gq gD (pv 5) fF (λ_ _=>rfl)) fD)))) (pv 9) (iT _))))))))))))))))))))))),nm5 λR1 hR1=>?_⟩
  refine⟨_,rfl,a,ns,rfl,hS,λv l H1 s1 hv gl0=>?_⟩
  have ok:=gl0.IB
  obtain⟨al,bl,rfl,hlt,us,hll,hlq⟩:=p9 hv
  refine⟨_,rfl,_,rfl,a,ns,10,rfl,s1.seq hS,by decide,λc10=>⟨_,rfl,a,ns,11,rfl,s1.seq hS,by decide,λc11=>⟨c11,0,rfl,by decide,by decide,λn0 h00 h01=>?_⟩⟩⟩
  refine⟨_,_,rfl,rfl,(by show(0:Int)<6;decide),_,_,rfl,rfl,?_⟩
  refine⟨_,l,c10,_,rfl,hv,ok,by show 0<=1+n0%6;omega,by show 1+n0%6<=40;omega,λp tr H4 s4 hp hp2 hne tl tn T=>?_⟩
  have tl6:tr.length<=6:=by
   have:(tr.length:Int)<=max 1 (1+n0%6):=tn
   omega
  have S4:=s1.trans s4
  refine⟨_,rfl,_,rfl,_,p,l,tr,rfl,Da.same s4 hv,hp2,ok,hne,tl6,T,λi0 tt pd dd as H5 hi0 s5 htt O5 N5=>?_⟩
  refine⟨tt,_,_,_,rfl,rfl,SqT.of htt,rfl,?_⟩
  have S5:=S4.trans s5
  have E5:=jd ok T hne i0
  have hp5:=s5 _ _ hp2
  refine⟨_,rfl,_,rfl,_,rfl,_,rfl,a,ns,11,rfl,S5.seq hS,by decide,λc11=>⟨c11,1,rfl,by decide,by decide,λn1 h10 _=>⟨_,p,pd,as,_,l,tr,n1,rfl,Da.same (s4.trans s5) hv,iu hp5,O5,E5,ok,hne,tl6,h10,λg gs H6 s6 hg it gl=>?_⟩⟩⟩
  have T6:=s4.trans (s5.trans s6)
  have hp6:=s6 _ _ hp5
  refine⟨_,rfl,al,_,_,_,rfl,rfl,gd T6 hlt,rfl,_,rfl,al,_,_,_,rfl,rfl,gd T6 hlt,rfl,bl,us,rfl,.inl (T6.seq hll),λq1 nq1=>⟨by show 2<=sizeLine;decide,λq2 nq2=>?_⟩⟩
  have u1:=fB (o:=.lst us) nq1
  have u2:=fB (o:=.tup [.int l.1,.ref q1]) nq2
  refine⟨_,rfl,p,_,rfl,.inl (SqL.of ((u1.trans u2) _ _ hp6)),λq3 nq3=>?_⟩
  have u3:=fB (o:=.lst (tr.map V.int)) nq3
  refine⟨_,rfl,g,_,rfl,.inl (SqL.of ((u1.trans (u2.trans u3)) _ _ hg)),λq4 nq4=>⟨by show 3<=sizeLine;decide,λq5 nq5=>?_⟩⟩
  have u4:=fB (o:=.lst (gs.map V.int)) nq4
  have u5:=fB (o:=.tup [.ref q2,.ref q3,.ref q4]) nq5
  have g1:=(u2.trans (u3.trans (u4.trans u5))) _ _ (fC (H:=H6) (a:=q1) (o:=.lst us))
  have g2:=(u3.trans (u4.trans u5)) _ _ (fC (a:=q2) (o:=.tup [.int l.1,.ref q1]) (H:=upd H6 q1 (.lst us)))
  have g3:=(u4.trans u5) _ _ (fC (a:=q3) (o:=.lst (tr.map V.int)) (H:=upd (upd H6 q1 (.lst us)) q2 (.tup [.int l.1,.ref q1])))
  have g4:=u5 _ _ (fC (a:=q4) (o:=.lst (gs.map V.int)) (H:=upd (upd (upd H6 q1 (.lst us)) q2 (.tup [.int l.1,.ref q1])) q3 (.lst (tr.map V.int))))
  have g5:=fC (a:=q5) (o:=.tup [.ref q2,.ref q3,.ref q4]) (H:=upd (upd (upd (upd H6 q1 (.lst us)) q2 (.tup [.int l.1,.ref q1])) q3 (.lst (tr.map V.int))) q4 (.lst (gs.map V.int)))
  have u:=u1.trans (u2.trans (u3.trans (u4.trans u5)))
  clear u1 u2 u3 u4 u5
  generalize upd (upd (upd (upd (upd H6 q1 (.lst us)) q2 (.tup [.int l.1,.ref q1])) q3 (.lst (tr.map V.int))) q4 (.lst (gs.map V.int))) q5 (.tup [.ref q2,.ref q3,.ref q4])=HH at g1 g2 g3 g4 g5 u ⊢
  have TH:=T6.trans u
  have dl:Da K HH (dL l) (.ref al):=Da.same TH hv
  have dt:Da K HH (dI tr) (.ref p):=iu (u _ _ hp6)
  have hpH:=u _ _ hp6
  have hgH:=u _ _ hg
  have dg:Da K HH (dI gs) (.ref g):=iu hgH
  have O:=O5.same (s6.trans u)
  have Od:=O.da (K:=K)
  have dln:Da K HH (dL l) (.ref q2):=by
   unfold dL dJ
   exact gR.mpr ⟨q2,_,rfl,SqT.of g2,Dgs.two (iC.mpr rfl) (ia.mpr ⟨q1,us,rfl,SqL.of g1,Das.same TH hlq⟩)⟩
  have dtn:Da K HH (dI tr) (.ref q3):=iu g3
  have dgn:Da K HH (dI gs) (.ref q4):=iu g4
  have hand:∀ G,fI HH G->Da K G (dH3 l tr gs) (.ref q5):=λG s=>gR.mpr ⟨q5,_,rfl,SqT.of (s _ _ g5),gm.mpr ⟨_,_,rfl,Da.same s dln,Dgs.two (Da.same s dtn) (Da.same s dgn)⟩⟩
  have Fi:∀ G,fI HH G->∀ q',G q'=none->Da K (upd G q' (.tup [.ref al,.ref p,.ref g])) (dH3 l tr gs) (.ref q'):=λG s q' nq=>by
   have t:=s.trans (fB (o:=.tup [.ref al,.ref p,.ref g]) nq)
   exact gR.mpr ⟨q',_,rfl,SqT.of fC,gm.mpr ⟨_,_,rfl,Da.same t dl,Dgs.two (Da.same t dt) (Da.same t dg)⟩⟩
  have asl:(as.map V.ref).length=i0:=by rw[aa,O.len,hi0]
  have SO:as.length=i0:=by rw[O.len,hi0]
  refine hR1 _ _ _ (nm λR2 hR2=>?_)
  refine⟨_,rfl,q5,_,_,_,rfl,rfl,SqT.of g5,rfl,_,rfl,q5,_,_,_,rfl,rfl,SqT.of g5,rfl,_,rfl,q5,_,_,_,rfl,rfl,SqT.of g5,rfl,_,_,_,l,tr,gs,rfl,dln,dtn,dgn,ok,hne,by omega,T,by omega,?_⟩
  refine⟨λz H' s'=>?_,λz zi H' s'=>?_,λz i hi i3 hn r q bs H' FR hr0 nr=>?_,λz i hi i3 hn rr r qr run qn un H' hrn s' ra nqr pt RN qq hr0 nr=>?_⟩
  ·-- LD length
   refine hR2 _ _ _ (nm λR3 hR3=>?_)
   have hlen:gs.length≠tr.length:=λe=>z ⟨it,e⟩
   have W0:=fI.refl H'
   have W:=s'
   refine⟨_,rfl,g,_,rfl,.inl (SqL.of (W _ _ hgH)),_,rfl,p,_,rfl,.inl (SqL.of (W _ _ hpH)),_,_,rfl,rfl,_,rfl,?_⟩
   refine gT (λ_=>?_) (λh=>absurd (by simp;omega) h)
   refine⟨_,rfl,.str "train",.str "train",lH.mpr rfl,lH.mpr rfl,pW (by decide +kernel),pW (by decide +kernel),?_⟩
   rw[jJ (pW (by decide +kernel))]
   exact k H'
  ·-- too many
   refine hR2 _ _ _ (nm λR3 hR3=>?_)
   have hlen:gs.length=tr.length:=z.2
   have KZ:300<i0:=by
    obtain⟨j,hj⟩:=zi
    have:=xw hi0 j
    omega
   have W0:=fI.refl H'
   have W:=s'
   refine⟨_,rfl,g,_,rfl,.inl (SqL.of (W _ _ hgH)),_,rfl,p,_,rfl,.inl (SqL.of (W _ _ hpH)),_,_,rfl,rfl,_,rfl,?_⟩
   refine gT (λh=>absurd h (by simp[hlen])) (λ_=>hR3 _ _ _ (nm λR4 hR4=>?_))
   refine⟨_,rfl,pd,_,rfl,.inl (SqL.of (W _ _ O.at_)),_,_,rfl,rfl,_,rfl,gT (λ_=>?_) (λh=>absurd (by simp;omega) h)⟩
   refine⟨_,rfl,.str "many",.str "many",lH.mpr rfl,lH.mpr rfl,pW (by decide +kernel),pW (by decide +kernel),?_⟩
   rw[jJ (pW (by decide +kernel))]
   exact k H'
  ·-- it Sy be Q4 to
   refine hR2 _ _ _ (nm λR3 hR3=>?_)
   have hlen:gs.length=tr.length:=z.2
   have ei:=mO hi hi0
   have ii:i=i0:=by rw[<-hi,<-hi0,ei]
   have s':=FR.same
   have W0:=fI.refl H'
   have W:=s'
   refine⟨_,rfl,g,_,rfl,.inl (SqL.of (W _ _ hgH)),_,rfl,p,_,rfl,.inl (SqL.of (W _ _ hpH)),_,_,rfl,rfl,_,rfl,?_⟩
   refine gT (λh=>absurd h (by simp[hlen])) (λ_=>?_)
   refine hR3 _ _ _ (nm λR4 hR4=>?_)
   refine⟨_,rfl,pd,_,rfl,.inl (SqL.of (W _ _ O.at_)),_,_,rfl,rfl,_,rfl,gT (λh=>absurd h (by simp;omega)) (λ_=>?_)⟩
   refine hR4 _ _ _ (nm λR5 hR5=>?_)
   refine⟨_,rfl,r,_,_,true,rfl,SqT.of (W0 _ _ hr0),oU,_,rfl,kB ?_⟩
   refine⟨_,rfl,_,rfl,_,rfl,_,rfl,by show 3<=sizeLine;decide,λe6 n6=>⟨dH3 l tr gs,dH3 l tr gs,hand _ (W.trans (fB n6)),Fi H' W e6 n6,og _ _ _,og _ _ _,_,rfl,?_⟩⟩
   rw[jJ (og _ _ _)]
   refine kB (hR5 _ _ _ (nm λR6 hR6=>?_))
   have w6:=fB (o:=.tup [.ref al,.ref p,.ref g]) n6
   have W6:=W.trans w6
   have X6:=W0.trans w6
   generalize upd H' e6 _=G6 at w6 W6 X6 ⊢
   refine⟨_,rfl,_,rfl,_,dI gs,Da.same W6 Od,Da.same W6 dg,BF _,jE _,_,rfl,?_⟩
   rw[FJ,<-ei]
   refine gT (λ_=>nm λR7 hR7=>?_) (λh=>absurd (by simpa using hn) h)
   rw[<-ei]at Od
   have fda:∀ Gx,fI H' Gx->Da K Gx (vL ((fO l tr i).map (·.1))) (.ref r):=λGx s=>gR.mpr ⟨r,_,rfl,SqT.of (s _ _ hr0),Dgs.two (lH.mpr rfl) (FR.da s)⟩
   have oda:∀ Gx,fI HH Gx->∀ q',Gx q'=none->Da K (upd Gx q' (.tup [.str "none",.ref pd])) (vL ((fO l tr i).map (·.1))) (.ref q'):=λGx s q' nq=>gR.mpr ⟨q',_,rfl,SqT.of fC,Dgs.two (lH.mpr rfl) (Da.same (s.trans (fB nq)) Od)⟩
   refine⟨_,rfl,_,rfl,by show 2<=sizeLine;decide,λe7 n7=>⟨_,_,fda _ (X6.trans (fB n7)),oda G6 W6 e7 n7,nF _,nF _,_,rfl,?_⟩⟩
   rw[jJ (nF _)]
   refine kB (hR7 _ _ _ (nm2 λR8 hR8=>?_))
   have w7:=fB (o:=.tup [.str "none",.ref pd]) n7
   have W7:=W6.trans w7
   have X7:=X6.trans w7
   generalize upd G6 e7 _=G7 at w7 W7 X7 ⊢
   have W8:=W7
   have X8:=X7
   have AS:1<=i:=by
    cases i with
    |zero=>exact absurd hi (by simp[fO])
    |succ i=>omega
   have bl1:bs.length=i:=by rw[FR.len,aa,hi]
   have hb0:bs[0]? = some (bs[0]'(by omega)):=ah _
   have ht0:((fO l tr i).map (·.1))[0]? = some (((fO l tr i).map (·.1))[0]'(by rw[aa];omega)):=ah _
   obtain⟨nb0,b0q,Je⟩:=FR.each 0 _ _ hb0 ht0
   generalize bs[0]'(by omega)=b0 at hb0 nb0 b0q Je
   generalize ((fO l tr i).map (·.1))[0]'(by rw[aa];omega)=t0 at ht0 Je
   have hq8:=X8 _ _ FR.at_
   have hr8:=X8 _ _ hr0
   have hb8:=X8 _ _ Je
   have nq:=FR.new
   have t0l:t0.length<=900:=by
    obtain⟨e,he,rfl⟩:=ao.mp (av ht0)
    obtain⟨_,b,_⟩:=(jd ok T hne i).tr e he
    omega
   refine⟨_,rfl,r,_,_,_,rfl,rfl,SqT.of hr8,rfl,q,_,_,V.ref b0,rfl,rfl,SqL.of hq8,mU (j:=0) (by rw[aj,hb0];rfl),.inl ⟨rfl,_,SqL.of hb8⟩,b0,_,_,rfl,rfl,hb8,i7 (by rw[aa];omega),?_⟩
   have rb:r≠b0:=gA hr8 hb8 (by intro z;cases z)
   have M1:=fI.upd (o:=.lst (t0.map V.int ++ [V.int 0])) W8 nb0
   have hq9:upd G7 b0 (.lst (t0.map V.int ++ [V.int 0])) q=some (.lst (bs.map V.ref)):=by rw[fG (bI b0q)];exact hq8
   have hr9:upd G7 b0 (.lst (t0.map V.int ++ [V.int 0])) r=some (.tup [.str "none",.ref q]):=by rw[fG rb];exact hr8
   generalize upd G7 b0 _=G9 at M1 hq9 hr9 ⊢
   refine⟨_,rfl,r,_,_,_,rfl,rfl,SqT.of hr9,rfl,.inl ⟨rfl,_,SqL.of hq9⟩,q,_,_,rfl,rfl,hq9,ah (by rw[aa];omega),?_⟩
   have M2:=fI.upd (o:=.lst (bs.map V.ref).dropLast) M1 nq
   generalize upd G9 q _=G10 at M2 ⊢
   refine hR8 _ _ _ ?_
   refine⟨_,rfl,q5,_,_,_,rfl,rfl,SqT.of (M2 _ _ g5),rfl,_,rfl,q5,_,_,_,rfl,rfl,SqT.of (M2 _ _ g5),rfl,_,rfl,q5,_,_,_,rfl,rfl,SqT.of (M2 _ _ g5),rfl,_,_,_,l,tr,gs,rfl,Da.same M2 dln,Da.same M2 dtn,Da.same M2 dgn,ok,hne,by omega,T,by omega,?_⟩
   refine⟨λz'=>absurd z z',λ_ ⟨j,hj⟩=>absurd (xw hi0 j) (by omega),λ_ i' hi' i3' hn' r' q' bs' H' FR' hr' nr'=>?_,λ_ i' hi' _ PB=>absurd (by rw[mO hi hi'];exact PB) hn⟩
   have e':=mO hi' hi
   rw[e']at FR'
   have M3:=M2.trans FR'.same
   refine⟨_,rfl,by show 2<=sizeLine;decide,λe9 n9=>⟨vL ((fO l tr i).map λe:Ent=>e.1),vL ((fO l tr i).map λe:Ent=>e.1),gR.mpr ⟨r',_,rfl,SqT.of (fB n9 _ _ hr'),Dgs.two (lH.mpr rfl) (FR'.da (fB n9))⟩,oda H' M3 e9 n9,nF _,nF _,?_⟩⟩
   rw[jJ (nF _)]
   have M4:=M3.trans (fB (o:=.tup [.str "none",.ref pd]) n9)
   refine⟨true,rfl,vg ⟨_,rfl,_,rfl,_,rfl,_,rfl,by show 3<=sizeLine;decide,λe10 n10=>⟨dH3 l tr gs,dH3 l tr gs,hand _ (M4.trans (fB n10)),Fi _ M4 e10 n10,og _ _ _,og _ _ _,?_⟩⟩⟩
   rw[jJ (og _ _ _)]
   exact k _
  ·-- it can be Q4 to
   refine hR2 _ _ _ (nm λR3 hR3=>?_)
   have hlen:gs.length=tr.length:=z.2
   have ei:=mO hi hi0
   have ii:i=i0:=by rw[<-hi,<-hi0,ei]
   have EI:=jd ok T hne i
   have BK:=pJ l tr i
   have W0:=fI.refl H'
   have W:=s'
   refine⟨_,rfl,g,_,rfl,.inl (SqL.of (W _ _ hgH)),_,rfl,p,_,rfl,.inl (SqL.of (W _ _ hpH)),_,_,rfl,rfl,_,rfl,?_⟩
   refine gT (λh=>absurd h (by simp[hlen])) (λ_=>?_)
   refine hR3 _ _ _ (nm λR4 hR4=>?_)
   refine⟨_,rfl,pd,_,rfl,.inl (SqL.of (W _ _ O.at_)),_,_,rfl,rfl,_,rfl,gT (λh=>absurd h (by simp;omega)) (λ_=>?_)⟩
   refine hR4 _ _ _ (nm λR5 hR5=>?_)
   refine⟨_,rfl,r,_,_,true,rfl,SqT.of (W0 _ _ hr0),oU,_,rfl,kB ?_⟩
   refine⟨_,rfl,_,rfl,_,rfl,_,rfl,by show 3<=sizeLine;decide,λe6 n6=>⟨dH3 l tr gs,dH3 l tr gs,hand _ (W.trans (fB n6)),Fi H' W e6 n6,og _ _ _,og _ _ _,_,rfl,?_⟩⟩
   rw[jJ (og _ _ _)]
   refine kB (hR5 _ _ _ (nm λR6 hR6=>?_))
   have w6:=fB (o:=.tup [.ref al,.ref p,.ref g]) n6
   have W6:=W.trans w6
   have X6:=W0.trans w6
   generalize upd H' e6 _=G6 at w6 W6 X6 ⊢
   refine⟨_,rfl,_,rfl,_,dI gs,Da.same W6 Od,Da.same W6 dg,BF _,jE _,_,rfl,?_⟩
   rw[FJ,<-ei]
   refine gT (λh=>absurd h (by simpa using hn)) (λ_=>hR6 _ _ _ (nm λR7 hR7=>?_))
   rw[<-ei]at Od O
   obtain⟨_,htr,hsh⟩:=oG ok T hne hi
   have gG:∀ t∈(fO l tr i).map (·.1),∀ m∈mvs l t,m.2∈(fO l tr i).map (·.1):=λt ht=>(hsh t ht).2
   have hW3:((fO l tr i).map (·.1)).length<=300:=by rw[aa];omega
   have rle:=pt.len gG htr hW3
   obtain⟨vr,hqr,Dr⟩:=ra.ex
   have vl:vr.length=run.length:=by have:=Dgs.length Dr;rw[aa]at this;exact this
   have dru:∀ Gx,fI H' Gx->Da K Gx (dR run) (.ref qr):=λGx s=>ia.mpr ⟨qr,vr,rfl,SqL.of (s _ _ hqr),Das.same (gQ.trans s) Dr⟩
   have AW:=DP ok T hne hi i3 hrn
   have hlg:=si (l:=l) (tr:=tr) (r:=rr) EI.nd hn
   have hcg:oF (run.map (·.1))=(if cn l tr rr gs gE<cn l tr rr gs onW then cn l tr rr gs gE else cn l tr rr gs onW):=by
    have c1:=Ce ok T hne hi i3 hrn hn (w:=onW) (.inl rfl)
    have c2:=Ce ok T hne hi i3 hrn hn (w:=gE) (.inr rfl)
    have hnb:¬Str.ofString "back" = Str.ofString "on" :=by decide +kernel
    have o1:ow onW=gE:=by unfold ow onW gE;rw[aJ rfl]
    have o2:ow gE=onW:=by unfold ow onW gE;rw[aE hnb]
    unfold mM at pt
    by_cases z:cn l tr rr gs onW<=cn l tr rr gs gE
    ·rw[aJ z]at pt
     rw[aE (by omega)]
     exact pt.few gG htr hW3 hrn c1 (by show cnt l tr rr (gs,ow onW)=_;rw[o1];exact c2) z
    ·rw[aE z]at pt
     rw[aJ (by omega)]
     exact pt.few gG htr hW3 hrn c2 (by show cnt l tr rr (gs,ow gE)=_;rw[o2];exact c1) (by omega)
   have IZ:((chg (run.map (·.1)):Nat):Int)=if(cn l tr rr gs gE:Int)<(cn l tr rr gs onW:Int)then(cn l tr rr gs gE:Int)else(cn l tr rr gs onW:Int):=by
    rw[yq,hcg]
    by_cases z:cn l tr rr gs gE<cn l tr rr gs onW
    ·rw[aJ z,aJ (by omega)]
    ·rw[aE z,aE (by omega)]
   have uB:((kb l tr rr ((fO l tr i).map (·.1))).map asW).length<=1500:=by rw[aa,kb,aa,aa];omega
   have Bu:∀ q∈(kb l tr rr ((fO l tr i).map (·.1))).map asW,q.1.length<=900:=λq hq=>by
    have:=(AW.1.2 q.1 (ao.mpr ⟨q,hq,rfl⟩)).1
    omega
   have hr6:=X6 _ _ hr0
   have SJ:=X6 _ _ hqr
   have Pp:=X6 _ _ RN.at_
   refine⟨_,rfl,r,_,rfl,.inr (SqT.of hr6),_,_,rfl,rfl,_,rfl,gT (λh=>absurd h (by simp)) (λ_=>?_)⟩
   refine⟨_,rfl,r,_,_,_,rfl,rfl,SqT.of hr6,rfl,rfl,_,rfl,gT (λh=>absurd h (by simp)) (λ_=>?_)⟩
   refine⟨_,rfl,r,_,_,_,rfl,rfl,SqT.of hr6,rfl,qn,un,_,true,rfl,SqL.of Pp,oU,_,rfl,kB (hR7 _ _ _ (nm λR8 hR8=>?_))⟩
   obtain⟨bw,WY,hbw⟩:=pt.way gG htr hW3
   refine⟨_,rfl,_,rfl,_,rfl,r,_,_,_,rfl,rfl,SqT.of hr6,rfl,_,rfl,_,_,_,qr,l,tr,gs,run,bw,rfl,Da.same W6 dl,Da.same W6 dt,ra.same X6,Da.same W6 dg,ok,λb hb=>?_,WY,hbw,by omega,λG8 w8=>?_⟩
   ·obtain⟨j,hj,ej⟩:=bj.mp hb
    obtain⟨_,b2,b3⟩:=WY.ok ok T hne j b (by rw[ah hj,ej])
    exact⟨b3,by omega⟩
   refine⟨_,rfl,kB ?_⟩
   have W8:=W6.trans w8
   have X8:=X6.trans w8
   have R8:=RN.same X8
   have hN8:=SqL.of (K:=K) R8.at_
   have unl:un.length=(kb l tr rr ((fO l tr i).map (·.1))).length:=by
    have:=Dgs.length (Pw.das (K:=K) (λr v z=>lS.da r v z) R8.pw)
    rw[aa]at this;exact this
   have wl:(kb l tr rr ((fO l tr i).map (·.1))).length<=300:=by rw[kb,aa,aa];omega
   have Jv:=rP l tr rr ((fO l tr i).map (·.1))
   generalize KA:kb l tr rr ((fO l tr i).map (·.1))=rows at RN R8 AW hlg uB Bu unl wl Jv
   refine⟨_,rfl,r,_,_,_,rfl,rfl,SqT.of (X8 _ _ hr0),rfl,qn,rfl,⟨_,hN8⟩,λp1 np1=>?_⟩
   refine BO (K:=K) rows.length rows (λr=>dI r.1) np1 rfl (i7 (by omega)) (λj Gx s hj=>(ig hN8).go j Gx s (by omega)) (λGx s=>by have:=(ig hN8).stop Gx s;rw[unl]at this;exact this) ?_ ?_
   ·intro j y rw Gx Gx' sG ⟨vs',hl'⟩ yy hd P1 P0 kk
    obtain⟨rfl,hy⟩:=(ig hN8).yld j Gx y Gx' sG (by have:=(af.mp hd).1;omega) yy
    obtain⟨r',hr',ad,a',rfl,h1,h2,h3⟩:=R8.pw.get hy
    rw[hd]at hr'
    cases hr'
    have h1:=gQ _ _ h1
    have h2:=gQ _ _ h2
    refine jF ?_
    exact⟨_,rfl,ad,_,_,_,rfl,rfl,SqT.of (sG _ _ h1),rfl,kk _ _ (fI.refl _) (Da.same (yX sG np1) (iu h2))⟩
   intro vs1 H1 s1 h1 D1
   have dss:Da K H1 (dLI (rows.map (·.1))) (.ref p1):=ia.mpr ⟨p1,vs1,rfl,SqL.of h1,by rw[bz];exact Das.same gQ D1⟩
   rw[Jv]at dss
   refine⟨_,rfl,_,_,dss,Da.same (W8.trans s1) Od,sg _,sg _,_,rfl,?_⟩
   rw[jJ (sg _)]
   refine kB (hR8 _ _ _ (nm λR9 hR9=>?_))
   clear D1 dss h1
   have W9:=W8.trans s1
   have X9:=X8.trans s1
   clear s1 w8 np1
   refine⟨_,rfl,r,_,_,_,rfl,rfl,SqT.of (X9 _ _ hr0),rfl,_,run,rfl,dru _ X9,by omega,λG10 w10=>hR9 _ _ _ (nm λR10 PQ=>?_)⟩
   have W10:=W9.trans w10
   have X10:=X9.trans w10
   clear w10
   have Lp:∀ Gx,fI H' Gx->Da K Gx (dWs (rows.map asW)) (.ref qn):=λGx s=>(RN.same s).da
   refine⟨_,rfl,_,rfl,_,rfl,_,rfl,r,_,_,_,rfl,rfl,SqT.of (X10 _ _ hr0),rfl,_,rfl,_,_,_,_,l,tr,gs,rows.map asW,_,_,_,rfl,Da.same W10 dl,Da.same W10 dt,Da.same W10 dg,Lp _ X10,ok,AW,uB,by omega,hlg,IZ,λG11 w11=>?_⟩
   refine⟨_,rfl,kB ?_⟩
   have W11:=W10.trans w11
   have X11:=X10.trans w11
   clear w11
   refine⟨_,rfl,_,rfl,_,rfl,r,_,_,_,rfl,rfl,SqT.of (X11 _ _ hr0),rfl,_,_,_,l,tr,rows.map asW,rfl,Da.same W11 dl,Da.same W11 dt,Lp _ X11,ok,uB,Bu,λG12 w12=>?_⟩
   rw[B9 AW]
   refine⟨true,true,rfl,rfl,_,rfl,kB (PQ _ _ _ (nm λR11 PM=>?_))⟩
   have W12:=W11.trans w12
   have X12:=X11.trans w12
   clear w12
   refine⟨_,rfl,r,_,_,_,rfl,rfl,SqT.of (X12 _ _ hr0),rfl,_,run,rfl,dru _ X12,by omega,λG13 w13=>⟨_,rfl,_,_,rfl,rfl,_,rfl,gT (λh=>absurd h (by simp)) (λ_=>?_)⟩⟩
   have W13:=W12.trans w13
   have X13:=X12.trans w13
   clear w13
   refine⟨_,rfl,_,rfl,_,rfl,_,_,_,l,tr,gs,rfl,Da.same W13 dl,Da.same W13 dt,Da.same W13 dg,ok,hne,by omega,T,by omega,?_⟩
   refine⟨λz'=>absurd z z',λ_ ⟨j,hj⟩=>absurd (xw hi0 j) (by omega),λ_ i' hi' _ hn'=>absurd (by rw[<-mO hi hi'];exact hn) hn',λ_ i' hi' _ _ rl ql HR qnl SA H14 w14 ral _ ptl RNl _ hrl _=>?_⟩
   have e':=mO hi' hi
   rw[e']at ptl
   obtain⟨bl',WL,PH⟩:=Et (tU l tr i) ptl
   have rll:HR.length<=300:=by
    obtain⟨e,he,ee⟩:=ao.mp hn
    obtain⟨j,hj,ej⟩:=bj.mp he
    have:=Gp EI.nd BK ptl j e (by rw[ah hj,ej]) ee
    omega
   obtain⟨vrl,hql,Drl⟩:=ral.ex
   refine⟨rl,_,_,_,rfl,rfl,SqT.of hrl,rfl,_,HR,rfl,ia.mpr ⟨ql,vrl,rfl,SqL.of hql,Das.same gQ Drl⟩,by omega,λG9 w9=>⟨_,rfl,_,_,rfl,rfl,_,rfl,gT (λh=>?_) (λ_=>?_)⟩⟩
   ·exfalso
    have h:((chg (HR.map (·.1)):Nat):Int)<((chg (run.map (·.1)):Nat):Int):=by simpa using h
    rw[yq,yq,hcg]at h
    obtain⟨wd,n,hwd,hcn,hle⟩:=F2 ok gG htr hW3 hrn WL PH
    have ce:=Ce ok T hne hi i3 hrn hn hwd
    rw[hcn]at ce
    have ce:=aP ce
    rcases hwd with z |z
    ·have z:wd=onW:=z
     rw[z]at ce
     split at h<;>omega
    ·have z:wd=gE:=z
     rw[z]at ce
     split at h<;>omega
   have W9:=W13.trans (w14.trans w9)
   have X9:=X13.trans (w14.trans w9)
   clear w9 w14 W13 X13 W12 X12 W11 X11 W10 X10
   refine PM _ _ _ (nm λR12 PL=>?_)
   have hr9:=X9 _ _ hr0
   have IV:=X9 _ _ hqr
   have RN9:=RN.same X9
   have IW:=RN9.at_
   have nqn:=RN.new
   have hN9:=SqL.of (K:=K) IW
   refine⟨_,rfl,r,_,_,_,rfl,rfl,SqT.of hr9,rfl,qr,vr,rfl,.inl (SqL.of IV),λk1 nk1=>?_⟩
   have x1:=fB (o:=.lst vr) nk1
   have hk1:=fC (H:=G9) (a:=k1) (o:=.lst vr)
   generalize upd G9 k1 _=K1 at x1 hk1 ⊢
   have hN1:=x1.seq hN9
   refine⟨_,rfl,r,_,_,_,rfl,rfl,SqT.of (x1 _ _ hr9),rfl,qn,rfl,⟨_,hN1⟩,λk2 nk2=>?_⟩
   refine EW rows.length rows (lS G9) (λr v=>lS.mono r v) nk2 rfl (i7 (by omega)) (λj Gx s hj=>(ig hN1).go j Gx s (by omega)) (λGx s=>by have:=(ig hN1).stop Gx s;rw[unl]at this;exact this) ?_ ?_
   ·intro j y rw Gx Gx' sG ⟨vs',hl'⟩ yy hd P1 P0 kk
    obtain⟨rfl,hy⟩:=(ig hN1).yld j Gx y Gx' sG (by have:=(af.mp hd).1;omega) yy
    obtain⟨r',hr',ad,ua,rfl,h1,h2,h3⟩:=(RN9.same x1).pw.get hy
    rw[hd]at hr'
    cases hr'
    have h1:=sG _ _ (gQ _ _ h1)
    have h2:=sG _ _ (gQ _ _ h2)
    refine⟨ad,_,rfl,SqT.of h1,rfl,_,_,rfl,_,_,rfl,_,_,rfl,rfl,?_⟩
    refine DU ?_
    refine⟨_,rfl,ua,_,rfl,.inl (SqL.of h2),λc1 m1=>⟨_,rfl,_,rfl,by show 3<=sizeLine;decide,λt nt=>kk _ _ ((fB m1).trans (fB nt)) ?_⟩⟩
    have y1:=fB (o:=.lst (rw.1.map V.int)) m1
    have c1k:c1≠k2:=(fK hl' m1).symm
    have tk:t≠k2:=(fK (y1 _ _ hl') nt).symm
    exact⟨t,c1,rfl,by rw[gY tk,fC],by rw[gY c1k];exact fB nt _ _ fC,fI.free (x1.trans sG) m1⟩
   intro vs2 K2 x2 hk2 D2
   refine⟨by show 3<=sizeLine;decide,λk3 nk3=>?_⟩
   have x3:=fB (o:=.tup [.str "run",.ref k1,.ref k2]) nk3
   have hk3:=fC (H:=K2) (a:=k3) (o:=.tup [.str "run",.ref k1,.ref k2])
   have gk1:G9 k1=none:=nk1
   have gk2:G9 k2=none:=fI.free x1 nk2
   have gk3:G9 k3=none:=fI.free (x1.trans x2) nk3
   have Y:=x1.trans (x2.trans x3)
   have KR:=(x2.trans x3) _ _ hk1
   have KQ:=x3 _ _ hk2
   have D3:Pw (lS G9 (hid k2 (upd K2 k3 (.tup [.str "run",.ref k1,.ref k2])))) rows vs2:=D2.imp λr v=>lS.mono r v (nI x3)
   generalize upd K2 k3 _=K3 at x3 hk3 Y KR KQ D3 ⊢
   obtain⟨pz,hpz⟩:∃ pz:Addr->Prop,∀ b,pz b↔(HH b=none/\∃ ys,G9 b=some (.lst ys)):=⟨_,λb=>Iff.rfl⟩
   have Ek:∀ b,pz b->∃ ys,K3 b=some (.lst ys):=λb hb=>by
    obtain⟨_,ys,hy⟩:=(hpz b).mp hb
    exact⟨ys,Y _ _ hy⟩
   have Gk:∀ b,G9 b=none->¬pz b:=λb hb hz=>by
    obtain⟨_,ys,hy⟩:=(hpz b).mp hz
    rw[hb]at hy;cases hy
   have HZ:∀ b xs,K3 b=some (.tup xs)->¬pz b:=λb xs hb hz=>by
    obtain⟨ys,hy⟩:=Ek b hz
    rw[hb]at hy;cases hy
   have pqr:pz qr:=(hpz qr).mpr ⟨nqr,_,IV⟩
   have pqn:pz qn:=(hpz qn).mpr ⟨nqn,_,IW⟩
   have kda:∀ Gx,fI (ro pz K3) Gx->Da K Gx (xk run (rows.map asW)) (.ref k3):=λGx s=>by
    refine Da.same s (gR.mpr ⟨k3,_,rfl,SqT.of (by rw[lj (Gk k3 gk3)];exact hk3),gm.mpr ⟨_,_,rfl,lH.mpr rfl,Dgs.two ?_ ?_⟩⟩)
    ·exact ia.mpr ⟨k1,vr,rfl,SqL.of (by rw[lj (Gk k1 gk1)];exact KR),vK Ek (Das.same (gQ.trans (X9.trans Y)) Dr)⟩
    ·unfold dWs
     rw[bz]
     refine ia.mpr ⟨k2,vs2,rfl,SqL.of (by rw[lj (Gk k2 gk2)];exact KQ),D3.das λrw v h=>?_⟩
     obtain⟨ad,a',e,h1,h2,h3⟩:=h
     have h1:=gQ _ _ h1
     have h2:=gQ _ _ h2
     exact lS.da (H0:=G9) rw v ⟨ad,a',e,by rw[lj (HZ ad _ h1)];exact h1,by rw[lj (Gk a' h3)];exact h2,h3⟩
   have W3:=W9.trans Y
   have hr3:=Y _ _ hr9
   have nr3:¬pz r:=HZ r _ hr3
   have KD:=Y _ _ IV
   have Pq:=Y _ _ IW
   refine PL _ _ _ ?_
   refine⟨_,rfl,r,_,_,V.ref qr,rfl,rfl,SqT.of hr3,rfl,.inl ⟨rfl,_,SqL.of KD⟩,qr,_,_,rfl,rfl,KD,i7 (by omega),?_⟩
   have keepR:∀ Gx,fI (ro pz K3) Gx->Gx r=some (.tup [.str "run",.ref qr,.ref qn]):=λGx s=>s _ _ (by rw[lj nr3];exact hr3)
   have A1:fI HH (upd K3 qr (.lst (vr ++ [V.int 0]))):=fI.upd W3 nqr
   have A2:fI (ro pz K3) (upd K3 qr (.lst (vr ++ [V.int 0]))):=sr pqr Dn
   have A3:∀ b,pz b->∃ ys,(upd K3 qr (.lst (vr ++ [V.int 0]))) b=some (.lst ys):=λb hb=>by
    by_cases e:b=qr
    ·exact⟨_,by rw[e,fC]⟩
    ·rw[fG e];exact Ek b hb
   have A4:(upd K3 qr (.lst (vr ++ [V.int 0]))) qn=some (.lst un):=by rw[fG (bI qq)];exact Pq
   generalize upd K3 qr _=K4 at A1 A2 A3 A4 ⊢
   refine⟨_,rfl,r,_,_,V.ref qn,rfl,rfl,SqT.of (keepR K4 A2),rfl,qn,rfl,⟨_,SqL.of A4⟩,oX (K:=K) (a:=qn) (xs:=un) (λj σ Gx=>∃ (x7:Option V),σ = [some (.ref a),some (.ref al),some (.ref p),some (.ref pd),some (.ref g),some (.ref q5),some (.ref r),x7,some (.int ((chg (run.map (·.1)):Nat):Int)),some (.ref k3)]/\fI HH Gx/\fI (ro pz K3) Gx/\(∀ b,pz b->∃ ys,Gx b=some (.lst ys))/\Gx qn=some (.lst un))
    ⟨none,rfl,A1,A2,A3,A4⟩ (λj σ Gx _ ⟨_,_,_,_,_,h⟩=>SqL.of h) ?_ ?_⟩
   ·rintro j y σ Gx hj ⟨x7,rfl,B1,B2,B3,B4⟩
    obtain⟨rw,hrw,ad,a',rfl,h1,h2,h3⟩:=RN.pw.get hj
    have a'n:a'≠qn:=λe=>by rw[e,jY]at h2;cases h2
    have had:K3 ad=some (.tup [.ref a',vI rw.2.1,vI rw.2.2]):=(X9.trans Y) _ _ (gQ _ _ h1)
    have pa:pz a':=(hpz a').mpr ⟨h3,_,X9 _ _ (gQ _ _ h2)⟩
    have PK:Gx ad=some (.tup [.ref a',vI rw.2.1,vI rw.2.2]):=B2 _ _ (by rw[lj (HZ ad _ had)];exact had)
    obtain⟨ys,hy⟩:=B3 a' pa
    refine⟨_,rfl,ad,_,_,V.ref a',rfl,rfl,SqT.of PK,rfl,.inl ⟨rfl,_,SqL.of hy⟩,a',_,rfl,rfl,hy,?_⟩
    refine⟨_,rfl,fI.upd B1 h3,sr pa B2,λb hb=>?_,by rw[fG (bI a'n)];exact B4⟩
    by_cases e:b=a'
    ·exact⟨_,by rw[e,fC]⟩
    ·rw[fG e];exact B3 b hb
   rintro σ K5 ⟨x7,rfl,B1,B2,B3,B4⟩
   refine⟨_,rfl,r,_,_,V.ref qn,rfl,rfl,SqT.of (keepR K5 B2),rfl,.inl ⟨rfl,_,SqL.of B4⟩,qn,_,rfl,rfl,B4,?_⟩
   have C1:=fI.upd (o:=.lst []) B1 nqn
   have C2:fI (ro pz K3) (upd K5 qn (.lst [])):=sr pqn B2
   generalize upd K5 qn _=K6 at C1 C2 ⊢
   refine⟨_,rfl,q5,_,_,_,rfl,rfl,SqT.of (C1 _ _ g5),rfl,_,rfl,q5,_,_,_,rfl,rfl,SqT.of (C1 _ _ g5),rfl,_,rfl,q5,_,_,_,rfl,rfl,SqT.of (C1 _ _ g5),rfl,_,_,_,l,tr,gs,rfl,Da.same C1 dln,Da.same C1 dtn,Da.same C1 dgn,ok,hne,by omega,T,by omega,?_⟩
   refine⟨λz'=>absurd z z',λ_ ⟨j,hj⟩=>absurd (xw hi0 j) (by omega),λ_ i' hi' _ hn'=>absurd (by rw[<-mO hi hi'];exact hn) hn',λ_ i' hi' _ _ rr' r' qr' run' qn' un' H7 KC s7 ra' _ pt' RN' _ hr' _=>?_⟩
   have e':=mO hi' hi
   obtain⟨eW,eD⟩:=DQ hrn KC
   rw[e',<-eW,KA]at RN'
   rw[<-eD,<-(Bv hrn KC).1]at pt'
   have er:=CN (RO.rnd gG htr rr).nd pt' pt
   subst er
   obtain⟨vr',Po,Dr'⟩:=ra'.ex
   refine⟨_,rfl,xk run' (rows.map asW),xk run' (rows.map asW),gR.mpr ⟨r',_,rfl,SqT.of hr',gm.mpr ⟨_,_,rfl,lH.mpr rfl,Dgs.two (ia.mpr ⟨qr',vr',rfl,SqL.of Po,Das.same gQ Dr'⟩) RN'.da⟩⟩,kda H7 (C2.trans s7),uT _ ra.ok,uT _ ra.ok,?_⟩
   rw[jJ (uT _ ra.ok)]
   exact k _
end
structure En (K:PySem.W.Frag)(x:Str)(st:Stmt)(f:Addr)(oc:Value)(od:Option Addr)(osl:Array (Option Value))(kV doc pm:Value)(an:Option Addr)(cdv ct:Value):Prop where
 a:PySem.W.nsIn K mainGlobals x=some (some (.ref f))
 l:K.lookup f=some ⟨oc,od,.func (PySem.W.fnOf x x (mS st) (ll st) (fJ st) .none kV doc pm an cdv ct),osl⟩
 c:PySem.W.codeIn K cdv x=true
 k:PySem.W.keepIn K (.ref f)=true
theorem ib {K:PySem.W.Frag}{h:Heap}{mg:Str->Option Value}{x:Str}{st:Stmt}{ps:List Str}{f:Addr}{oc:Value}{od an:Option Addr}{osl:Array (Option Value)}{kV doc pm cdv ct:Value}(X:K.In h)(G:h.Ns mainGlobals mg)(e:En K x st f oc od osl kV doc pm an cdv ct)
  (hb:∀ (kV doc pm:Value) (an:Option Addr) (cdv ct:Value) (us:List Value),us.length=ps.length->bindArgs (PySem.W.fnOf x x (mS st) (ll st) (fJ st) .none kV doc pm an cdv ct) ⟨us,[]⟩=pure (ps.zip us)):
  Fn K mg x st ps f (PySem.W.fnOf x x (mS st) (ll st) (fJ st) .none kV doc pm an cdv ct):=⟨Fj (st:=st) e.l e.c e.k,PySem.W.mg_of X G e.a,(Fj (st:=st) e.l e.c e.k).binds (ps:=ps) hb⟩
theorem bn1 {F:FuncData}{p:List Str}(k:∀ a0,bindArgs F ⟨[a0],[]⟩=pure (p.zip [a0]))(us:List Value)(h:us.length=1):bindArgs F ⟨us,[]⟩=pure (p.zip us):=match us,h with |[a0],_=>k a0
theorem bn2 {F:FuncData}{p:List Str}(k:∀ a0 a1,bindArgs F ⟨[a0,a1],[]⟩=pure (p.zip [a0,a1]))(us:List Value)(h:us.length=2):bindArgs F ⟨us,[]⟩=pure (p.zip us):=match us,h with |[a0,a1],_=>k a0 a1
theorem bn3 {F:FuncData}{p:List Str}(k:∀ a0 a1 a2,bindArgs F ⟨[a0,a1,a2],[]⟩=pure (p.zip [a0,a1,a2]))(us:List Value)(h:us.length=3):bindArgs F ⟨us,[]⟩=pure (p.zip us):=match us,h with |[a0,a1,a2],_=>k a0 a1 a2
theorem bn4 {F:FuncData}{p:List Str}(k:∀ a0 a1 a2 a3,bindArgs F ⟨[a0,a1,a2,a3],[]⟩=pure (p.zip [a0,a1,a2,a3]))(us:List Value)(h:us.length=4):bindArgs F ⟨us,[]⟩=pure (p.zip us):=match us,h with |[a0,a1,a2,a3],_=>k a0 a1 a2 a3
theorem bn5 {F:FuncData}{p:List Str}(k:∀ a0 a1 a2 a3 a4,bindArgs F ⟨[a0,a1,a2,a3,a4],[]⟩=pure (p.zip [a0,a1,a2,a3,a4]))(us:List Value)(h:us.length=5):bindArgs F ⟨us,[]⟩=pure (p.zip us):=match us,h with |[a0,a1,a2,a3,a4],_=>k a0 a1 a2 a3 a4
theorem all_mk {l:PySem.W.OpenLaw}{w:World}{K:PySem.W.Frag}{h:Heap}{mg:Str->Option Value}{fa f1 f2 f3 f4 f5 f6 f7 f8 f9 f10 f11 f12 f13 f14 f15 f16 f17 f18 f19 f20 f21 f22 f23 f24 f25 f26 f27 f28 f29 f30 f31 f32 f33 f34 f35 f36 f37 f38 f39 f40:Addr}(X:K.In h)(G:h.Ns mainGlobals mg)(hfa:mg "law" = some (.ref fa))
  {od1 an1 od2 an2 od3 an3 od4 an4 od5 an5 od6 an6 od7 an7 od8 an8 od9 an9 NT Sn NS Sm NR Sl NQ Sk NP Sj NO Si NM Sh NL Sg NK Sf NJ Se NI Sd NH Sb NF Sa ND R0 NC RZ NB RY NA RX Nz RW Ny RV Nx RU Nw RT Nv RS Nu RQ Nt RP Nr RM Nq RL Np RK Nn RJ Nm RI Nl RH Nk Lx:Option Addr}{sl1 sl2 sl3 sl4 sl5 sl6 sl7 sl8 sl9 MD MC MB MA Mz My Mx Mw Mu Mt Ms Mr Mq Mp Mo Mn Mm Ml Mk Mj Mi Mh Mg Mf Me Md Mc Mb L9 L8 L6:Array (Option Value)}{oc1 kV1 dc1 pm1 cd1 ct1 oc2 kV2 dc2 pm2 cd2 ct2 oc3 kV3 dc3 pm3 cd3 ct3 oc4 kV4 dc4 pm4 cd4 ct4 oc5 kV5 dc5 pm5 cd5 ct5 oc6 kV6 dc6 pm6 cd6 ct6 oc7 kV7 dc7 pm7 cd7 ct7 oc8 kV8 dc8 pm8 cd8 ct8 oc9 kV9 dc9 pm9 cd9 ct9 OC Pj Qz Ni RD Q3 OB Ph Qy Nh RB Q2 OA Pg Qx Ng RA Q1 Oz Pf Qw Nf Rz Q0 Oy Pe Qv Nd Ry QZ Ox Pd Qu Nc Rx QY Ow Pc Qt Nb Rw QX Ov Pb Qs Na Rv QW Ou Pa Qr M9 Ru QV Ot O9 Qq M8 Rt QU Oq O8 Qp M7 Rr QT Oo O7 Qo M6 Rq QS Om O6 Qn M5 Rp QR Ol O4 Qm M0 Ro QQ Oj O3 Ql MZ Rn QP Oi O2 Qk MY Rm QO Oh O1 Qj MX Rk QN Og O0 Qi MW Rj QM Of OZ Qh MV Ri QL Oe OY Qg MU Rh QK Oc OX Qf MT Rg QJ Ob OW Qe MS Rf QI Oa OV Qd MR Rc QH N9 OU Qc MQ Rb QG N8 OT Qb MP Ra QF N0 OS Qa MO Q9 QE NZ OR PZ MN Q8 QD NY OQ PY MM Q7 QC NW OP PX ML Q6 QB NV OO PV MK Q5 QA NU Kq Lr J4 Lu Ls:Value}
  (e1:En K "other_end" lC f1 oc1 od1 sl1 kV1 dc1 pm1 an1 cd1 ct1)
  (e2:En K "piece_of" mr f2 oc2 od2 sl2 kV2 dc2 pm2 an2 cd2 ct2)
  (e3:En K "is_end" qT f3 oc3 od3 sl3 kV3 dc3 pm3 an3 cd3 ct3)
  (e4:En K "joined" mw f4 oc4 od4 sl4 kV4 dc4 pm4 an4 cd4 ct4)
  (e5:En K "check_train" jr f5 oc5 od5 sl5 kV5 dc5 pm5 an5 cd5 ct5)
  (e6:En K "free_ends" kd f6 oc6 od6 sl6 kV6 dc6 pm6 an6 cd6 ct6)
  (e7:En K "moves_of" kI f7 oc7 od7 sl7 kV7 dc7 pm7 an7 cd7 ct7)
  (e8:En K "check_goal" ku f8 oc8 od8 sl8 kV8 dc8 pm8 an8 cd8 ct8)
  (e9:En K "first_steps" jX f9 oc9 od9 sl9 kV9 dc9 pm9 an9 cd9 ct9)
  (e10:En K "lists_of" j8 f10 OC NT MD Pj Qz Ni Sn RD Q3)
  (e11:En K "run_back_from" iU f11 OB NS MC Ph Qy Nh Sm RB Q2)
  (e12:En K "numbers_of" kr f12 OA NR MB Pg Qx Ng Sl RA Q1)
  (e13:En K "least" tJ f13 Oz NQ MA Pf Qw Nf Sk Rz Q0)
  (e14:En K "is_standing" kZ f14 Oy NP Mz Pe Qv Nd Sj Ry QZ)
  (e15:En K "are_standings" iV f15 Ox NO My Pd Qu Nc Si Rx QY)
  (e16:En K "gone_on" pO f16 Ow NM Mx Pc Qt Nb Sh Rw QX)
  (e17:En K "changed_over" ky f17 Ov NL Mw Pb Qs Na Sg Rv QW)
  (e18:En K "counted" nu f18 Ou NK Mu Pa Qr M9 Sf Ru QV)
  (e19:En K "fewest" nk f19 Ot NJ Mt O9 Qq M8 Se Rt QU)
  (e20:En K "allow_ways" lV f20 Oq NI Ms O8 Qp M7 Sd Rr QT)
  (e21:En K "are_ways" j9 f21 Oo NH Mr O7 Qo M6 Sb Rq QS)
  (e22:En K "changes" md f22 Om NF Mq O6 Qn M5 Sa Rp QR)
  (e23:En K "_law_cell_at" jW f23 Ol ND Mp O4 Qm M0 R0 Ro QQ)
  (e24:En K "_law_mix" kJ f24 Oj NC Mo O3 Ql MZ RZ Rn QP)
  (e25:En K "_law_turned_row" jL f25 Oi NB Mn O2 Qk MY RY Rm QO)
  (e26:En K "_law_other" jc f26 Oh NA Mm O1 Qj MX RX Rk QN)
  (e27:En K "_law_joined" jf f27 Og Nz Ml O0 Qi MW RW Rj QM)
  (e28:En K "_law_line" nR f28 Of Ny Mk OZ Qh MV RV Ri QL)
  (e29:En K "_law_renamed" kY f29 Oe Nx Mj OY Qg MU RU Rh QK)
  (e30:En K "_law_train" jC f30 Oc Nw Mi OX Qf MT RT Rg QJ)
  (e31:En K "_law_round" lD f31 Ob Nv Mh OW Qe MS RS Rf QI)
  (e32:En K "_law_moves" jD f32 Oa Nu Mg OV Qd MR RQ Rc QH)
  (e33:En K "_law_web" pN f33 N9 Nt Mf OU Qc MQ RP Rb QG)
  (e34:En K "_law_goal" nT f34 N8 Nr Me OT Qb MP RM Ra QF)
  (e35:En K "_law_kept" nS f35 N0 Nq Md OS Qa MO RL Q9 QE)
  (e36:En K "_law_told" nQ f36 NZ Np Mc OR PZ MN RK Q8 QD)
  (e37:En K "_law_leads" lE f37 NY Nn Mb OQ PY MM RJ Q7 QC)
  (e38:En K "_law_shows" mQ f38 NW Nm L9 OP PX ML RI Q6 QB)
  (e39:En K "_law_changes" jV f39 NV Nl L8 OO PV MK RH Q5 QA)
  (e40:En K "law" sS f40 NU Nk L6 Kq Lr J4 Lx Lu Ls)
  (z1:PySem.W.nsIn K mainGlobals "len" = some none) (z2:PySem.W.nsIn K mainGlobals "range" = some none) (z3:PySem.W.nsIn K mainGlobals "sorted" = some none) (z4:PySem.W.nsIn K mainGlobals "enumerate" = some none) (z5:PySem.W.nsIn K mainGlobals "reversed" = some none) (z6:PySem.W.nsIn K mainGlobals "min" = some none) (z7:PySem.W.nsIn K mainGlobals "max" = some none) (z8:PySem.W.nsIn K mainGlobals "list" = some none) (z9:PySem.W.nsIn K mainGlobals "int" = some none) (z10:PySem.W.nsIn K mainGlobals "isinstance" = some none) (z11:PySem.W.nsIn K mainGlobals "zip" = some none) (z12:PySem.W.nsIn K mainGlobals "sum" = some none) (z13:PySem.W.nsIn K mainGlobals "all" = some none) (z14:PySem.W.nsIn K mainGlobals "set" = some none) (z15:PySem.W.nsIn K mainGlobals "tuple" = some none) (z16:PySem.W.nsIn K mainGlobals "abs" = some none) (z17:PySem.W.nsIn K mainGlobals "bool" = some none) (z18:PySem.W.nsIn K mainGlobals "dict" = some none) (z19:PySem.W.nsIn K mainGlobals "str" = some none)
  {C0 C1 C2 C3 C4 C5 C6 C7:Addr} (ve:PySem.W.nsIn K mainGlobals "ValueError" = some none) (xb0:mG K "TurnError" C0) (xb1:mG K "NoLine" C1) (xb2:mG K "NoTrain" C2) (xb3:mG K "NoMove" C3) (xb4:mG K "NoPiece" C4) (xb5:mG K "TooMany" C5) (xb6:mG K "NoText" C6) (xb7:mG K "NoRow" C7) (xd1:qB K C0 C1) (xd2:qB K C0 C2) (xd3:qB K C0 C3) (xd4:qB K C0 C4) (xd5:qB K C0 C5) (xd6:qB K C0 C6) (xd7:qB K C0 C7) (xe1:rK K C1 C2 C3 C4 C5 C6 C7) (xe2:rK K C2 C1 C3 C4 C5 C6 C7) (xe3:rK K C3 C1 C2 C4 C5 C6 C7) (xe4:rK K C4 C1 C2 C3 C5 C6 C7) (xe5:rK K C5 C1 C2 C3 C4 C6 C7) (xe6:rK K C6 C1 C2 C3 C4 C5 C7) (xe7:rK K C7 C1 C2 C3 C4 C5 C6) (nd:[C1,C2,C3,C4,C5,C6,C7].Nodup)
  (xm2:PySem.W.mroIn K C2 (.ref C2)=some true)
  {tk0:Tok} (ck0:PySem.W.nsIn K mainGlobals "MOST_STANDINGS" = some (some (.int 300 tk0)))
  {od:Addr}{ot1 ot2 ot3 ot4:Tok}{oep:Nat} (wa:PySem.W.nsIn K mainGlobals "OTHER_WORD" = some (some (.ref od))) (wk:K.lookup od=some {cls:=.type "dict",data:=.dict #[⟨PyData.keyHash w.params (Str.ofString "on"),.str (Str.ofString "on") ot1,.str (Str.ofString "back") ot2⟩,⟨PyData.keyHash w.params (Str.ofString "back"),.str (Str.ofString "back") ot3,.str (Str.ofString "on") ot4⟩] oep}):
  ∃ fd:FuncData,(∀ (s:Shared) (v:Value),BindsTo s fd ⟨[v],[]⟩ [("_law_script",v)])/\∀ base:Heap,K.In base->base.Ns mainGlobals mg->fV l.prog w K mg base CX0 8 fa fd ["_law_script"] (xC K):=by
 have e:=hfa.symm.trans (PySem.W.mg_of X G e40.a)
 cases e
 have B:Bm mg:=⟨⟨aZ X G z1,aZ X G z2,aZ X G z3,aZ X G z4,aZ X G z5,aZ X G z6,aZ X G z7,aZ X G z8,aZ X G z9,aZ X G z10⟩,aZ X G z11,aZ X G z12,aZ X G z13,aZ X G z14,aZ X G z15,aZ X G z16,aZ X G z17,aZ X G z18,aZ X G z19⟩
 have XS:=Jt X G ve xb0 xb1 xb2 xb3 xb4 xb5 xb6 xb7 xd1 xd2 xd3 xd4 xd5 xd6 xd7 xe1 xe2 xe3 xe4 xe5 xe6 xe7 nd
 have C:Cm mg tk0:=⟨PySem.W.mg_of X G ck0⟩
 have O:Hb l.prog w K mg od:=Ka (PySem.W.mg_of X G wa) wk
 have gU:=ib (ps:=["end"]) X G e1 λ_ _ _ _ _ _=>bn1 (λ_=>rfl)
 have hZ:=ib (ps:=["end"]) X G e2 λ_ _ _ _ _ _=>bn1 (λ_=>rfl)
 have nM:=ib (ps:=["line","end"]) X G e3 λ_ _ _ _ _ _=>bn2 (λ_ _=>rfl)
 have jo:=ib (ps:=["line","end"]) X G e4 λ_ _ _ _ _ _=>bn2 (λ_ _=>rfl)
 have hG:=ib (ps:=["line","train"]) X G e5 λ_ _ _ _ _ _=>bn2 (λ_ _=>rfl)
 have i4:=ib (ps:=["line","train","end"]) X G e6 λ_ _ _ _ _ _=>bn3 (λ_ _ _=>rfl)
 have gZ:=ib (ps:=["line","train"]) X G e7 λ_ _ _ _ _ _=>bn2 (λ_ _=>rfl)
 have ik:=ib (ps:=["line","train","goal"]) X G e8 λ_ _ _ _ _ _=>bn3 (λ_ _ _=>rfl)
 have g9:=ib (ps:=["line","train"]) X G e9 λ_ _ _ _ _ _=>bn2 (λ_ _=>rfl)
 have iK:=ib (ps:=["standings"]) X G e10 λ_ _ _ _ _ _=>bn1 (λ_=>rfl)
 have gI:=ib (ps:=["steps","goal"]) X G e11 λ_ _ _ _ _ _=>bn2 (λ_ _=>rfl)
 have jP:=ib (ps:=["steps"]) X G e12 λ_ _ _ _ _ _=>bn1 (λ_=>rfl)
 have qf:=ib (ps:=["line","train","goal"]) X G e13 λ_ _ _ _ _ _=>bn3 (λ_ _ _=>rfl)
 have jx:=ib (ps:=["line","train","listed"]) X G e14 λ_ _ _ _ _ _=>bn3 (λ_ _ _=>rfl)
 have iX:=ib (ps:=["line","train","standings"]) X G e15 λ_ _ _ _ _ _=>bn3 (λ_ _ _=>rfl)
 have mm:=ib (ps:=["line","states","steps"]) X G e16 λ_ _ _ _ _ _=>bn3 (λ_ _ _=>rfl)
 have ja:=ib (ps:=["states","steps"]) X G e17 λ_ _ _ _ _ _=>bn2 (λ_ _=>rfl)
 have mn:=ib (ps:=["line","train"]) X G e18 λ_ _ _ _ _ _=>bn2 (λ_ _=>rfl)
 have iF:=ib (ps:=["line","train","goal"]) X G e19 λ_ _ _ _ _ _=>bn3 (λ_ _ _=>rfl)
 have jR:=ib (ps:=["line","ways","standing"]) X G e20 λ_ _ _ _ _ _=>bn3 (λ_ _ _=>rfl)
 have kW:=ib (ps:=["line","train","rows"]) X G e21 λ_ _ _ _ _ _=>bn3 (λ_ _ _=>rfl)
 have jQ:=ib (ps:=["run"]) X G e22 λ_ _ _ _ _ _=>bn1 (λ_=>rfl)
 have fW:=ib (ps:=["_law_script","_law_k"]) X G e23 λ_ _ _ _ _ _=>bn2 (λ_ _=>rfl)
 have fP:=ib (ps:=["_law_cell","_law_k"]) X G e24 λ_ _ _ _ _ _=>bn2 (λ_ _=>rfl)
 have iS:=ib (ps:=["_law_number","_law_many"]) X G e25 λ_ _ _ _ _ _=>bn2 (λ_ _=>rfl)
 have fS:=ib (ps:=["_law_end"]) X G e26 λ_ _ _ _ _ _=>bn1 (λ_=>rfl)
 have gM:=ib (ps:=["_law_line_here","_law_end"]) X G e27 λ_ _ _ _ _ _=>bn2 (λ_ _=>rfl)
 have kQ:=ib (ps:=["_law_script"]) X G e28 λ_ _ _ _ _ _=>bn1 (λ_=>rfl)
 have jv:=ib (ps:=["_law_line_here","_law_cell"]) X G e29 λ_ _ _ _ _ _=>bn2 (λ_ _=>rfl)
 have iE:=ib (ps:=["_law_line_here","_law_cell","_law_length"]) X G e30 λ_ _ _ _ _ _=>bn3 (λ_ _ _=>rfl)
 have kh:=ib (ps:=["_law_train_here"]) X G e31 λ_ _ _ _ _ _=>bn1 (λ_=>rfl)
 have gO:=ib (ps:=["_law_line_here","_law_train_here"]) X G e32 λ_ _ _ _ _ _=>bn2 (λ_ _=>rfl)
 have mj:=ib (ps:=["_law_line_here","_law_train_here"]) X G e33 λ_ _ _ _ _ _=>bn2 (λ_ _=>rfl)
 have kU:=ib (ps:=["_law_line_here","_law_train_here","_law_order","_law_number"]) X G e34 λ_ _ _ _ _ _=>bn4 (λ_ _ _ _=>rfl)
 have kT:=ib (ps:=["_law_kept_here"]) X G e35 λ_ _ _ _ _ _=>bn1 (λ_=>rfl)
 have kP:=ib (ps:=["_law_line_here","_law_train_here","_law_goal_here"]) X G e36 λ_ _ _ _ _ _=>bn3 (λ_ _ _=>rfl)
 have ki:=ib (ps:=["_law_line_here","_law_train_here","_law_run","_law_goal_here"]) X G e37 λ_ _ _ _ _ _=>bn4 (λ_ _ _ _=>rfl)
 have kg:=ib (ps:=["_law_line_here","_law_train_here","_law_goal_here","_law_rows","_law_many"]) X G e38 λ_ _ _ _ _ _=>bn5 (λ_ _ _ _ _=>rfl)
 have jw:=ib (ps:=["_law_run"]) X G e39 λ_ _ _ _ _ _=>bn1 (λ_=>rfl)
 have LB:=ib (ps:=["_law_script"]) X G e40 λ_ _ _ _ _ _=>bn1 (λ_=>rfl)
 refine⟨PySem.W.fnOf "law" "law" (mS sS) (ll sS) (fJ sS) .none Kq Lr J4 Lx Lu Ls,λs v=>.of_eq rfl,λbase _ _=>?_⟩
 have XR:Xr K mg _:=⟨XS.ji,⟨xb2.t,xb2.isc,xb2.p,xm2⟩⟩
 have XT:Xt K mg _:=⟨XS.qe⟩
 have m9:fV l.prog w K mg base CX0 2 _ _ _ _:=uN jv fP iS B.toBl
 have qF:fV l.prog w K mg base CX0 3 _ _ _ _:=zm kQ fP fW fS jv m9 B.toBl
 have mW:fV l.prog w K mg base CX0 2 _ _ _ _:=xX i4 B.toBl hZ jo
 have jk:fV l.prog w K mg base CX0 3 _ _ _ _:=zj gZ gU i4 mW
 have iZ:fV l.prog w K mg base CX0 2 _ _ _ _:=xV gO fS gM B.toBl
 have pD:fV l.prog w K mg base CX0 2 _ _ _ _:=xU kh fS
 have kf:fV l.prog w K mg base CX0 2 _ _ _ _:=xS iE fP fS gM B.toBl
 have ju:fV l.prog w K mg base (CXr l.prog w base) 2 _ _ _ _:=uR hG XR B nM hZ jo gU
 have ng:fV l.prog w K mg base CX0 3 _ _ _ _:=uP jx XR B hG ju
 have lN:fV l.prog w K mg base CX0 4 _ _ _ _:=sf iX B jx ng
 have oA:fV l.prog w K mg base CX0 4 _ _ _ _:=wc jR B gZ jk
 have qH:fV l.prog w K mg base CX0 5 _ _ _ _:=zq kW B iX lN jR oA
 have jO:fV l.prog w K mg base (CXr l.prog w base) 3 _ _ _ _:=wb ik XR B hG ju
 have jt:fV l.prog w K mg base (CXr l.prog w base) 4 _ _ _ _:=uQ g9 B C XT gZ jk
 have yC:fV l.prog w K mg base (CXr l.prog w base) 5 _ _ _ _:=Ey qf B ik jO g9 jt iK gI jP
 have sL:fV l.prog w K mg base CX0 4 _ _ _ _:=AA mm B gZ jk
 have mK:fV l.prog w K mg base CX0 1 _ _ _ _:=tw ja O
 have sM:fV l.prog w K mg base CX0 5 _ _ _ _:=AB mn B mm sL ja mK
 have lG:fV l.prog w K mg base (CXr l.prog w base) 6 _ _ _ _:=CP iF B ik jO g9 jt iK gI mn sM
 have sI:fV l.prog w K mg base CX0 3 _ _ _ _:=Az mj B gO iZ
 have qG:fV l.prog w K mg base CX0 3 _ _ _ _:=zp kU B kh pD iE kf
 have pE:fV l.prog w K mg base CX0 3 _ _ _ _:=xW ki gO iZ
 have qE:fV l.prog w K mg base CX0 7 _ _ _ _:=zl kP XS B iF lG kT fS
 have pC:fV l.prog w K mg base CX0 3 _ _ _ _:=xT kg B gO iZ
 exact Ip LB B kQ qF fW fP iE kf mj sI kU qG kP qE ki pE kg pC qf yC iF lG kW qH jQ jw
theorem walk {l:PySem.W.OpenLaw}{q:Program}{loose:List Str}{XP:(Str->Option Value)->Heap->Prop}{YP:World->Heap->Prop}{d:DefRec}{K:Params->PySem.W.Frag}(hn:l.most=some 63)(hdf:d.params.defaults = [])
  (hY:∀ (w:World) (h:Heap),YP w h->(K w.params).In h)
  (F:∀ (w:World) (mg:Str->Option Value) (fa:Addr) (h:Heap),(K w.params).In h->h.Ns mainGlobals mg->mg d.name=some (.ref fa)->
   ∃ fd:FuncData,(∀ (s:Shared) (u:Value),BindsTo s fd ⟨[u],[]⟩ [("_law_script",u)])/\∀ base:Heap,(K w.params).In base->base.Ns mainGlobals mg->fV l.prog w (K w.params) mg base CX0 8 fa fd ["_law_script"] (xC (K w.params))):
  PySem.W.WalkO q loose XP YP l.row.toRowW d [] (λf vs=>PySem.call f vs):=
 L2.F3 (n:=63) (k:=8) (x:= "_law_script") (CX:=λ_=>CX0) (sp:=λw=>xC (K w.params)) hn (by decide) hdf ⟨rfl,by decide,by decide⟩ hY F (λ_ _ a ns hl _ hS=>⟨a,ns,rfl,hS,λ_=>rfl⟩) λ_ _ _ _ _ z=>z
end K21
namespace PySem.W.Fast
def tw10063966087088513550:=0
def tw10071571454096473380:=0
def tw10237843655649193921:=0
def tw10262909993371697724:=0
def tw10304809675935321255:=0
def tw10352091082958266099:=0
def tw1045781157297200792:=0
def tw10475225422886650721:=0
def tw10526910144508142939:=0
def tw10608599689426600372:=0
def tw10640089005703727375:=0
def tw10695976170289575868:=0
def tw10707651724276747543:=0
def tw1080048097899660882:=0
def tw10831042917993814881:=0
def tw10871716233325154034:=0
def tw10981011923897066879:=0
def tw11050310936412103351:=0
def tw11064744161994162213:=0
def tw11146232117058217179:=0
def tw11206421790536139676:=0
def tw1122578384795809382:=0
def tw11311925997517997455:=0
def tw11341617541351736677:=0
def tw11345310060763535954:=0
def tw1136377006231808782:=0
def tw11393201690343699384:=0
def tw11403757175191093594:=0
def tw115305925469772139:=0
def tw11607280340704113680:=0
def tw11615321178692358606:=0
def tw11651822582750873723:=0
def tw11691113370091731167:=0
def tw11702970839556715847:=0
def tw1178832935457827294:=0
def tw11947641074316411340:=0
def tw11959355530023640322:=0
def tw11990229087416252790:=0
def tw12003997330557173953:=0
def tw12008504014971856912:=0
def tw12030007073805883921:=0
def tw12046865671901076269:=0
def tw1205984756454299087:=0
def tw12080948905515556924:=0
def tw12083684430665222682:=0
def tw1209819975767403291:=0
def tw1211729636382818474:=0
def tw12184286490969788466:=0
def tw12230849207743019849:=0
def tw12236851468574956801:=0
def tw12276711946909849222:=0
def tw12284294836350789377:=0
def tw12289162425562135015:=0
def tw12352118260266298480:=0
def tw12369993307040164274:=0
def tw12464730714493455067:=0
def tw12472898220157038072:=0
def tw12499710873750457581:=0
def tw12704055437029564743:=0
def tw12888818590246317806:=0
def tw12970381973853865137:=0
def tw13166920613009326254:=0
def tw13196795526480596828:=0
def tw13207474359894969330:=0
def tw13210937390094592333:=0
def tw13271164977662308614:=0
def tw13291334339059057417:=0
def tw13303373104370676971:=0
def tw13320267401278956036:=0
def tw13374525439416461990:=0
def tw13402231929208148229:=0
def tw13451960009917099924:=0
def tw13479201617410707849:=0
def tw13517677588435909235:=0
def tw13630071130472559861:=0
def tw13646260692399724784:=0
def tw13692014955462202863:=0
def tw13725869187718174161:=0
def tw13734969747042512270:=0
def tw13769761976655110271:=0
def tw13837906084834825040:=0
def tw13889316264915018463:=0
def tw13939697371665336488:=0
def tw13967509637010721743:=0
def tw14011981252823399833:=0
def tw14014357752810556205:=0
def tw14111665990985161266:=0
def tw14145692553293793571:=0
def tw14214512563173321556:=0
def tw14246153605730152517:=0
def tw14308035108935894984:=0
def tw14319174748842419801:=0
def tw14342631954646516173:=0
def tw14481194442491585119:=0
def tw14482534542358153054:=0
def tw14531858101168224062:=0
def tw14715921381249457225:=0
def tw1473942629468408640:=0
def tw14762457931586885912:=0
def tw14846737393634624294:=0
def tw14988015237982055783:=0
def tw1506135579110143253:=0
def tw15153206312327332721:=0
def tw15211212386112311617:=0
def tw15242850797832890994:=0
def tw15244903208261677471:=0
def tw15335015024328314705:=0
def tw15346881030384881269:=0
def tw15362312422477815988:=0
def tw15450831227961035861:=0
def tw15537737451627065908:=0
def tw15541938707546370755:=0
def tw15643032757218564163:=0
def tw15643250748502621584:=0
def tw15748407657669099279:=0
def tw15753394601430314471:=0
def tw15755295539872544446:=0
def tw1575643147586417435:=0
def tw15765024897781217117:=0
def tw15790099233642213922:=0
def tw15819788969566735349:=0
def tw15983041741021378592:=0
def tw16003500081915665750:=0
def tw16003850235195315073:=0
def tw16030236756813885148:=0
def tw16112231891167849362:=0
def tw16269159386579876647:=0
def tw16336289518937957967:=0
def tw16402461586086782670:=0
def tw16406878381199862286:=0
def tw16447093418693437144:=0
def tw16469099822888210329:=0
def tw16536766227791752374:=0
def tw16618822747855826520:=0
def tw16629264272502789095:=0
def tw16631898516971268571:=0
def tw16704459517711158199:=0
def tw16765944139845460031:=0
def tw16807075635746766482:=0
def tw16836714737518508902:=0
def tw16944183347667934454:=0
def tw17010066637479691899:=0
def tw17076409862375697900:=0
def tw17078566568866281502:=0
def tw1713385474547637031:=0
def tw17175522117165739022:=0
def tw17179617169534600050:=0
def tw17199156583888917115:=0
def tw17237095458473822844:=0
def tw17334205961087280833:=0
def tw17493725007699723917:=0
def tw17505317479365321501:=0
def tw17640648945264229518:=0
def tw17677872969393731128:=0
def tw17680331581810069701:=0
def tw1771157159840159019:=0
def tw17711810679921954049:=0
def tw17792574889772864786:=0
def tw17865990785818985412:=0
def tw17926050487726134715:=0
def tw18042815899144800087:=0
def tw1812830853122754134:=0
def tw18138597994398192874:=0
def tw1818528222037878027:=0
def tw18191560147131558169:=0
def tw18226055398427042432:=0
def tw18238228837751972787:=0
def tw18272764147410214797:=0
def tw18334732688899427003:=0
def tw18374670549416253482:=0
def tw18411595554499170435:=0
def tw18438136577597668940:=0
def tw1888745187178018363:=0
def tw1891892907379513859:=0
def tw1943176255170591175:=0
def tw1949478275720833110:=0
def tw1955221943097804092:=0
def tw1966163927241308168:=0
def tw2082290789288396001:=0
def tw2119707051608784490:=0
def tw2132408796672471649:=0
def tw221614644358220938:=0
def tw2255975331780064744:=0
def tw2349711018635306678:=0
def tw2356676723992393852:=0
def tw2391830181817256114:=0
def tw2431493521518074013:=0
def tw2488016309670806338:=0
def tw2493309229048223431:=0
def tw250773759518860257:=0
def tw2542077556733801071:=0
def tw2584157588131494700:=0
def tw2642056559950971877:=0
def tw2665128910963739516:=0
def tw2712797072797121562:=0
def tw2752539738421657255:=0
def tw2832519936881301075:=0
def tw2892985247796851494:=0
def tw2936932302484858616:=0
def tw2976211282564136030:=0
def tw3197132514604028438:=0
def tw3203800691216827896:=0
def tw3267743543080888482:=0
def tw3493415124223870520:=0
def tw3515217444182343640:=0
def tw3591696174300315869:=0
def tw3754241293599760281:=0
def tw380987150998269201:=0
def tw3813860904699587068:=0
def tw3850919500622527106:=0
def tw3888735314766062895:=0
def tw3900823913904440435:=0
def tw396003866215135340:=0
def tw3999176988354423498:=0
def tw4023165839948286714:=0
def tw4063303181447695623:=0
def tw409391440667129674:=0
def tw4132354039601065270:=0
def tw4142282939746575979:=0
def tw415953320640029216:=0
def tw420108938043591566:=0
def tw4247479776254736720:=0
def tw4290512358028403328:=0
def tw4349380570659392137:=0
def tw4413347397349241454:=0
def tw4414760406963037898:=0
def tw4441313186289694298:=0
def tw4484436546505770396:=0
def tw4584302416042370530:=0
def tw4585364644388720807:=0
def tw4600465587716067291:=0
def tw4605858453339830190:=0
def tw4732988913780883265:=0
def tw4825054943419820863:=0
def tw4880478978505101675:=0
def tw4923479306158861167:=0
def tw4973501406203694755:=0
def tw5016684703294158606:=0
def tw502919805196663577:=0
def tw5041836114092364649:=0
def tw5044873639950740903:=0
def tw5209905234195795220:=0
def tw5215471420550388601:=0
def tw5254452441878235985:=0
def tw526129624223089692:=0
def tw5331102355399290184:=0
def tw544914329667553443:=0
def tw5489014708998440441:=0
def tw5514480455732900354:=0
def tw5534133560811812977:=0
def tw555766486546392073:=0
def tw5624012664053093575:=0
def tw5866435163134020999:=0
def tw58995939812738182:=0
def tw590131951434361893:=0
def tw5923117168961878435:=0
def tw5938994736307820334:=0
def tw5994997771390413142:=0
def tw6014957051693054327:=0
def tw6114734636260151415:=0
def tw6175290369205173776:=0
def tw6197817697472217349:=0
def tw6257963552320793733:=0
def tw6285745670168498783:=0
def tw6308848466381670533:=0
def tw6462893243700724923:=0
def tw6500328558595788015:=0
def tw6603168455493321393:=0
def tw6729366239553838455:=0
def tw675048452602522439:=0
def tw681382694475453540:=0
def tw6826899882139395430:=0
def tw6852010762285675754:=0
def tw6899959570328141318:=0
def tw6926591950400589717:=0
def tw6936128885081071518:=0
def tw6947185975699442011:=0
def tw6958178367191359511:=0
def tw6961217995599048998:=0
def tw7000306671333496828:=0
def tw7059837373283418927:=0
def tw7072085318417675119:=0
def tw7121506042915690394:=0
def tw7139711025912847745:=0
def tw7243882028209379417:=0
def tw7360107367696462833:=0
def tw7438157204862292006:=0
def tw7507096324654373127:=0
def tw7523595592612246167:=0
def tw7524690093000091256:=0
def tw7620018374748492165:=0
def tw7645573326182220124:=0
def tw771936821271188300:=0
def tw7757590923474546079:=0
def tw7788078023799466880:=0
def tw779690077655540737:=0
def tw7815227496524650341:=0
def tw7827772771689019112:=0
def tw792467667023741078:=0
def tw7948160587527230357:=0
def tw796938851682298790:=0
def tw7977875003533083679:=0
def tw823127654048319006:=0
def tw8323056010034720896:=0
def tw8357164881179574573:=0
def tw8368942308217142404:=0
def tw8454547431109630839:=0
def tw8522928116845157339:=0
def tw8527661526398711781:=0
def tw8534347537003345744:=0
def tw8553328466089240751:=0
def tw8766078707895860148:=0
def tw8816400185773638901:=0
def tw8904684981896352908:=0
def tw8930006500636231371:=0
def tw8943223836930857076:=0
def tw9012008616680749403:=0
def tw9027255896330164834:=0
def tw9040900554285072143:=0
def tw9156261429721027476:=0
def tw919354807743421990:=0
def tw9198617388850906092:=0
def tw9243336447776045573:=0
def tw9251687855616466041:=0
def tw9263754387196022205:=0
def tw9307731984582578432:=0
def tw9309304852580811459:=0
def tw9341176324064527815:=0
def tw9381590261906439969:=0
def tw9389664933532903970:=0
def tw9401053271407962722:=0
def tw9456592510111623617:=0
def tw9513876036328212925:=0
def tw9592939950460976574:=0
def tw9634676029277621700:=0
def tw9678200295311659742:=0
def tw97087847763829690:=0
def tw9754216147933596239:=0
def tw9808082850138262600:=0
def tw9868922748034276962:=0
def tw9873932493269632987:=0
def tw9890001927454988806:=0
def tw9890545551251321575:=0
def tw9893625024853527299:=0
def tw9954554592436991674:=0
def tw9962162610792651505:=0
def tw999906387690992769:=0
end PySem.W.Fast
open PySem PySem.W PyProof.Rows
set_option maxRecDepth 100000 in
set_option maxHeartbeats 0 in
theorem PySem.Challenge.cw_turnline_k21_whole_fewest_changes_holds : PySem.Challenge.rw_turnline_k21_whole_fewest_changes.Holds := by
 w_on;o_law;k_head;(case hw=>w_witness2)
 k_fill
 refine K21.walk (l:=PySem.Challenge.rw_turnline_k21_whole_fewest_changes) rfl rfl (λw h Y=>PySem.W.kIn_of Y) ?F
 case F=>
  intro w mg fa h KX G hmg
  refine' K21.all_mk KX G hmg ⟨?a1,?l1,?c1,?k1⟩ ⟨?a2,?l2,?c2,?k2⟩ ⟨?a3,?l3,?c3,?k3⟩ ⟨?a4,?l4,?c4,?k4⟩ ⟨?a5,?l5,?c5,?k5⟩ ⟨?a6,?l6,?c6,?k6⟩ ⟨?a7,?l7,?c7,?k7⟩ ⟨?a8,?l8,?c8,?k8⟩ ⟨?a9,?l9,?c9,?k9⟩ ⟨?a10,?l10,?c10,?k10⟩ ⟨?a11,?l11,?c11,?k11⟩ ⟨?a12,?l12,?c12,?k12⟩ ⟨?a13,?l13,?c13,?k13⟩ ⟨?a14,?l14,?c14,?k14⟩ ⟨?a15,?l15,?c15,?k15⟩ ⟨?a16,?l16,?c16,?k16⟩ ⟨?a17,?l17,?c17,?k17⟩ ⟨?a18,?l18,?c18,?k18⟩ ⟨?a19,?l19,?c19,?k19⟩ ⟨?a20,?l20,?c20,?k20⟩ ⟨?a21,?l21,?c21,?k21⟩ ⟨?a22,?l22,?c22,?k22⟩ ⟨?a23,?l23,?c23,?k23⟩ ⟨?a24,?l24,?c24,?k24⟩ ⟨?a25,?l25,?c25,?k25⟩ ⟨?a26,?l26,?c26,?k26⟩ ⟨?a27,?l27,?c27,?k27⟩ ⟨?a28,?l28,?c28,?k28⟩ ⟨?a29,?l29,?c29,?k29⟩ ⟨?a30,?l30,?c30,?k30⟩ ⟨?a31,?l31,?c31,?k31⟩ ⟨?a32,?l32,?c32,?k32⟩ ⟨?a33,?l33,?c33,?k33⟩ ⟨?a34,?l34,?c34,?k34⟩ ⟨?a35,?l35,?c35,?k35⟩ ⟨?a36,?l36,?c36,?k36⟩ ⟨?a37,?l37,?c37,?k37⟩ ⟨?a38,?l38,?c38,?k38⟩ ⟨?a39,?l39,?c39,?k39⟩ ⟨?a40,?l40,?c40,?k40⟩ ?z1 ?z2 ?z3 ?z4 ?z5 ?z6 ?z7 ?z8 ?z9 ?z10 ?z11 ?z12 ?z13 ?z14 ?z15 ?z16 ?z17 ?z18 ?z19 ?ve ?xb0 ?xb1 ?xb2 ?xb3 ?xb4 ?xb5 ?xb6 ?xb7 ?xd1 ?xd2 ?xd3 ?xd4 ?xd5 ?xd6 ?xd7 ?xe1 ?xe2 ?xe3 ?xe4 ?xe5 ?xe6 ?xe7 ?nd ?xm2 ?ck0 ?wa ?wk
  case a1|l1|c1|k1|a2|l2|c2|k2|a3|l3|c3|k3|a4|l4|c4|k4|a5|l5|c5|k5|a6|l6|c6|k6|a7|l7|c7|k7|a8|l8|c8|k8|a9|l9|c9|k9|a10|l10|c10|k10|a11|l11|c11|k11|a12|l12|c12|k12|a13|l13|c13|k13|a14|l14|c14|k14|a15|l15|c15|k15|a16|l16|c16|k16|a17|l17|c17|k17|a18|l18|c18|k18|a19|l19|c19|k19|a20|l20|c20|k20|a21|l21|c21|k21|a22|l22|c22|k22|a23|l23|c23|k23|a24|l24|c24|k24|a25|l25|c25|k25|a26|l26|c26|k26|a27|l27|c27|k27|a28|l28|c28|k28|a29|l29|c29|k29|a30|l30|c30|k30|a31|l31|c31|k31|a32|l32|c32|k32|a33|l33|c33|k33|a34|l34|c34|k34|a35|l35|c35|k35|a36|l36|c36|k36|a37|l37|c37|k37|a38|l38|c38|k38|a39|l39|c39|k39|a40|l40|c40|k40|z1|z2|z3|z4|z5|z6|z7|z8|z9|z10|z11|z12|z13|z14|z15|z16|z17|z18|z19=>k_is
  (case ve=>k_is)
  (case xb0=>refine'⟨?u1,?u2,?u3,?u4,?u5,?u6,?u7,?u8,?u9⟩;(case u1=>k_is);(case u2=>k_exc);(case u3=>k_is);(case u4=>k_is);(case u5=>k_is);(case u6=>k_is);(case u7=>k_is);(case u8=>k_is);(case u9=>k_is))
  (case xb1=>refine'⟨?u1,?u2,?u3,?u4,?u5,?u6,?u7,?u8,?u9⟩;(case u1=>k_is);(case u2=>k_exc);(case u3=>k_is);(case u4=>k_is);(case u5=>k_is);(case u6=>k_is);(case u7=>k_is);(case u8=>k_is);(case u9=>k_is))
  (case xb2=>refine'⟨?u1,?u2,?u3,?u4,?u5,?u6,?u7,?u8,?u9⟩;(case u1=>k_is);(case u2=>k_exc);(case u3=>k_is);(case u4=>k_is);(case u5=>k_is);(case u6=>k_is);(case u7=>k_is);(case u8=>k_is);(case u9=>k_is))
  (case xb3=>refine'⟨?u1,?u2,?u3,?u4,?u5,?u6,?u7,?u8,?u9⟩;(case u1=>k_is);(case u2=>k_exc);(case u3=>k_is);(case u4=>k_is);(case u5=>k_is);(case u6=>k_is);(case u7=>k_is);(case u8=>k_is);(case u9=>k_is))
  (case xb4=>refine'⟨?u1,?u2,?u3,?u4,?u5,?u6,?u7,?u8,?u9⟩;(case u1=>k_is);(case u2=>k_exc);(case u3=>k_is);(case u4=>k_is);(case u5=>k_is);(case u6=>k_is);(case u7=>k_is);(case u8=>k_is);(case u9=>k_is))
  (case xb5=>refine'⟨?u1,?u2,?u3,?u4,?u5,?u6,?u7,?u8,?u9⟩;(case u1=>k_is);(case u2=>k_exc);(case u3=>k_is);(case u4=>k_is);(case u5=>k_is);(case u6=>k_is);(case u7=>k_is);(case u8=>k_is);(case u9=>k_is))
  (case xb6=>refine'⟨?u1,?u2,?u3,?u4,?u5,?u6,?u7,?u8,?u9⟩;(case u1=>k_is);(case u2=>k_exc);(case u3=>k_is);(case u4=>k_is);(case u5=>k_is);(case u6=>k_is);(case u7=>k_is);(case u8=>k_is);(case u9=>k_is))
  (case xb7=>refine'⟨?u1,?u2,?u3,?u4,?u5,?u6,?u7,?u8,?u9⟩;(case u1=>k_is);(case u2=>k_exc);(case u3=>k_is);(case u4=>k_is);(case u5=>k_is);(case u6=>k_is);(case u7=>k_is);(case u8=>k_is);(case u9=>k_is))
  (case xd1=>refine'⟨?u1,?u2⟩;(case u1=>k_is);(case u2=>k_is))
  (case xd2=>refine'⟨?u1,?u2⟩;(case u1=>k_is);(case u2=>k_is))
  (case xd3=>refine'⟨?u1,?u2⟩;(case u1=>k_is);(case u2=>k_is))
  (case xd4=>refine'⟨?u1,?u2⟩;(case u1=>k_is);(case u2=>k_is))
  (case xd5=>refine'⟨?u1,?u2⟩;(case u1=>k_is);(case u2=>k_is))
  (case xd6=>refine'⟨?u1,?u2⟩;(case u1=>k_is);(case u2=>k_is))
  (case xd7=>refine'⟨?u1,?u2⟩;(case u1=>k_is);(case u2=>k_is))
  (case xe1=>refine'⟨?u1,?u2,?u3,?u4,?u5,?u6⟩;(case u1=>k_is);(case u2=>k_is);(case u3=>k_is);(case u4=>k_is);(case u5=>k_is);(case u6=>k_is))
  (case xe2=>refine'⟨?u1,?u2,?u3,?u4,?u5,?u6⟩;(case u1=>k_is);(case u2=>k_is);(case u3=>k_is);(case u4=>k_is);(case u5=>k_is);(case u6=>k_is))
  (case xe3=>refine'⟨?u1,?u2,?u3,?u4,?u5,?u6⟩;(case u1=>k_is);(case u2=>k_is);(case u3=>k_is);(case u4=>k_is);(case u5=>k_is);(case u6=>k_is))
  (case xe4=>refine'⟨?u1,?u2,?u3,?u4,?u5,?u6⟩;(case u1=>k_is);(case u2=>k_is);(case u3=>k_is);(case u4=>k_is);(case u5=>k_is);(case u6=>k_is))
  (case xe5=>refine'⟨?u1,?u2,?u3,?u4,?u5,?u6⟩;(case u1=>k_is);(case u2=>k_is);(case u3=>k_is);(case u4=>k_is);(case u5=>k_is);(case u6=>k_is))
  (case xe6=>refine'⟨?u1,?u2,?u3,?u4,?u5,?u6⟩;(case u1=>k_is);(case u2=>k_is);(case u3=>k_is);(case u4=>k_is);(case u5=>k_is);(case u6=>k_is))
  (case xe7=>refine'⟨?u1,?u2,?u3,?u4,?u5,?u6⟩;(case u1=>k_is);(case u2=>k_is);(case u3=>k_is);(case u4=>k_is);(case u5=>k_is);(case u6=>k_is))
  (case nd=>decide)
  (case xm2=>k_is)
  (case ck0=>k_is)
  (case wa=>k_is)
  (case wk=>first |k_is |rfl)

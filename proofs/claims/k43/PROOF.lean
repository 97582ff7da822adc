import PyProof.Rows.All
import Wide.All
import OpenK.AllK
import Wide.FinOn
import PyProof.EqAt
import PyProof.EqKinds
import PyProof.TupleCall
import PyProof.CompFree
import PyProof.EvalArms
import KE.BitLaws
import OpenK.KOwn
import KE.KIsAll
import PyProof.ExcArgsOwn
import PyProof.IsiH_list
import PyProof.NsDelKeeps
import PyProof.ExcAttrAll.ValueError
import PyProof.ExcBaseAll.ValueError
import PyProof.ZipIter
import PyProof.Rows.SumAny
import KE.LcSums
import PyProof.SetRoads
import PyProof.Rows.SetFrom
import KE.KSetDisp
import PyProof.DictIter
import PyProof.DictRoadsH
import PyProof.Rows.TupDisplay
import PyProof.FString
import PyProof.FactsAll.list_1
import PyProof.CollectWalk
import PyProof.StrWalks
import PyProof.StrLawsTight
import PyProof.StrLawsChain
import PyProof.StrLawsIn
import PyProof.StrCalls2
import PyProof.StrBlockG
import PyProof.SliceStr2
import KE.KIntText
import PyProof.CollectIter
import PyProof.Walks
import PyProof.SetKind
import PyProof.TupleKey
import PyProof.IsRules
import PyProof.SetNew
import PyProof.StrOps2
import PyProof.Rows.Range3
import PyProof.DictCompW
import KE.KDictSum
import PyProof.Rows.SeqMore
import PyProof.Rows.SortRuns
import KE.KSortAsk
import PyProof.DictItems
import KE.KPairComp
import PyProof.Rows.StrRules
import KE.KSortTup
import PyProof.NeKinds
import KE.KRevIter
import PyProof.FactsAll.range_2
import KE.KDictList
import PyProof.WalkInts
import PySem.Challenge.RW_turnline_k43_longest_train_turned
abbrev aa:=@List.length_map
abbrev ae:=@List.getElem?_eq_getElem
abbrev af:=@List.getElem?_eq_some_iff
abbrev ah:=@List.length_append
abbrev ai:=@PySem.wpAny_bind
abbrev aj:=@List.getElem?_map
abbrev ak:=@List.getElem?_append_left
abbrev ao:=@List.mem_map
abbrev aq:=@Nat.le_refl
abbrev ar:=@List.mem_cons_self
abbrev au:=@if_neg
abbrev aw:=@Array.length_toList
abbrev ax:=@List.map_append
abbrev ay:=@PyProof.Rows.wpS_bind
abbrev az:=@List.getElem?_append_right
abbrev aA:=@Array.getElem?_toList
abbrev aB:=@PySem.wpAny_pure
abbrev aC:=@List.mem_cons_of_mem
abbrev aD:=@if_pos
abbrev aE:=@List.size_toArray
abbrev aF:=@PyProof.Rows.wpS_pure
abbrev aG:=@List.mem_of_getElem?
abbrev aH:=@PySem.Heap.get?_push_of_some
abbrev aI:=@List.mem_append
abbrev aJ:=@List.mem_cons
abbrev aK:=@PySem.Heap.lt_size
abbrev aL:=@PySem.F.plainAttrs_list
abbrev aM:=@List.map_cons
abbrev aN:=@List.append_assoc
abbrev aO:=@List.mem_filter
abbrev aP:=@List.length_reverse
abbrev aQ:=@List.mem_singleton
abbrev aR:=@decide_eq_false
abbrev aS:=@PySem.W.mg_none_of
abbrev aT:=@Nat.lt_of_lt_of_le
abbrev aU:=@Bool.false_ne_true
abbrev aV:=@List.mem_append_right
abbrev aW:=@Nat.zero_le
abbrev aX:=@decide_eq_true
abbrev aY:=@List.length_cons
abbrev aZ:=@Array.getElem?_eq_getElem
abbrev ba:=@PySem.Heap.get?_push_size
abbrev bg:=@PySem.F.type_list_append
abbrev bh:=@PySem.F.slot_list_append
abbrev bj:=@List.pairwise_append
abbrev bo:=@Nat.ne_of_lt
abbrev bq:=@Array.getD_eq_getD_getElem?
abbrev br:=@List.take_of_length_le
abbrev bt:=@List.mem_iff_getElem
abbrev bw:=@List.length_take
abbrev bx:=@Option.some.inj
abbrev bz:=@PySem.PassesOwn.never
abbrev bA:=@List.mem_append_left
abbrev bB:=@Array.toList_extract
abbrev bC:=@List.take_length
abbrev bD:=@List.getD_eq_getElem?_getD
abbrev bE:=@List.length_singleton
abbrev bF:=@Nat.le_trans
abbrev bG:=@List.take_add_one
abbrev bH:=@List.length_filter_le
abbrev bI:=@List.getElem?_eq_none
abbrev bJ:=@List.map_map
abbrev bK:=@List.length_zip
abbrev bL:=@of_decide_eq_true
abbrev bM:=@List.pairwise_cons
abbrev bN:=@List.lookup_cons
abbrev bO:=@List.reverse_append
abbrev bP:=@PySem.wpAny_loadPart'
abbrev bQ:=@PyProof.Rows.wpS_forRange
abbrev bR:=@PySem.wpAny_mono
abbrev bS:=@List.pairwise_map
abbrev bT:=@List.nodup_append
abbrev bU:=@PySem.W.kia_one
abbrev bV:=@Nat.sub_self
abbrev bW:=@List.dropLast_concat_getLast
abbrev bX:=@List.append_nil
abbrev bY:=@List.filter_cons
abbrev bZ:=@PyProof.Rows.callWith_type1
abbrev b8:=@PySem.F.slot_dict_keyiterator_next
abbrev b9:=@Ne.symm
abbrev cb:=@Nat.le_of_lt
abbrev cc:=@Array.toList_push
abbrev cf:=@PyProof.Rows.boot_isinstance
abbrev cg:=@List.nodup_cons
abbrev cj:=@Bool.eq_iff_iff
abbrev ck:=@List.pairwise_iff_getElem
abbrev cm:=@List.drop_eq_getElem_cons
abbrev cn:=@List.getElem?_drop
abbrev cu:=@Bool.false_eq_true
abbrev cw:=@List.length_dropLast
abbrev cx:=@PySem.mem_of_lookup
abbrev cy:=@List.drop_eq_nil_of_le
abbrev cz:=@List.length_drop
abbrev cA:=@decide_eq_true_iff
abbrev cB:=@congrArg
abbrev cC:=@List.take_append_drop
abbrev cD:=@List.getElem?_reverse
abbrev cE:=@List.getLastD_eq_getLast?
abbrev cF:=@List.find?_cons
abbrev cG:=@List.flatMap_cons
abbrev cH:=@List.Pairwise.imp
abbrev cI:=@List.Pairwise.imp_of_mem
abbrev cJ:=@PySem.PassesOwn.leaving
abbrev cK:=@List.pairwise_singleton
abbrev cL:=@List.mem_reverse
abbrev cM:=@List.mem_flatten
abbrev cN:=@List.getElem_inj
abbrev cO:=@PyProof.Rows.wpS_mono
abbrev cP:=@List.of_mem_zip
abbrev cQ:=@List.foldl_cons
abbrev cR:=@Nat.lt_irrefl
abbrev cS:=@PySem.wpAny_typeNameOfWhole_keyiter
abbrev cT:=@PyProof.Rows.boot_tuple
abbrev cU:=@PySem.wpAny_passesOwn
abbrev cV:=@Int.le_refl
abbrev cW:=@Array.perm_iff_toList_perm
abbrev cX:=@Nat.zero_add
abbrev cY:=@List.map_reverse
abbrev cZ:=@List.getElem_zip
abbrev dc:=@Int.min_eq_right
abbrev de:=@Int.max_eq_right
abbrev df:=@List.getLast?_eq_getElem?
abbrev dg:=@List.take_succ_cons
abbrev dh:=@List.map_congr_left
abbrev di:=@if_false
abbrev dt:=@Int.min_eq_left
abbrev dw:=@Int.max_eq_left
abbrev dz:=@PySem.wpAny_call_entry
abbrev dC:=@Int.emod_lt_of_pos
abbrev dD:=@PySem.wpAny_typeNameOf_keyiter
abbrev dE:=@List.getElem?_dropLast
abbrev dF:=@List.ext_getElem?
abbrev dG:=@PySem.sizeLine_eq
abbrev dH:=@List.perm_append_comm
abbrev dN:=@List.Perm.append_left
abbrev dQ:=@List.not_mem_nil
abbrev dR:=@List.getElem_mem
abbrev dS:=@Bool.and_eq_true
abbrev dU:=@List.map_drop
abbrev dW:=@PySem.wpAny_truthy_bool
abbrev dX:=@PySem.wpAny_newObj_type
abbrev dY:=@PySem.boot_len
abbrev dZ:=@List.getElem?_set_ne
abbrev d8:=@Int.emod_nonneg
abbrev d9:=@List.flatten_append
abbrev ef:=@List.filterMap_cons
abbrev eh:=@PySem.F.slot_range_reversed
abbrev en:=@Nat.add_zero
abbrev er:=@PySem.Paired.length
abbrev eA:=@PySem.wpAny_of_eq
abbrev eB:=@Nat.lt_of_le_of_lt
abbrev eC:=@Nat.add_sub_cancel
abbrev eD:=@List.zip_cons_cons
abbrev eE:=@List.find?_eq_none
abbrev eF:=@PySem.wpAny_execs_nil
abbrev eG:=@List.getElem?_zip_eq_some
abbrev eI:=@decide_eq_true_eq
abbrev eJ:=@Nat.le_succ
abbrev eL:=@List.take_sublist
abbrev eM:=@List.foldl_append
abbrev eN:=@List.find?_append
abbrev eO:=@PySem.W.mg_of
abbrev eP:=@PySem.F.slot_list_insert
abbrev eQ:=@List.getElem?_take_of_lt
abbrev eR:=@PySem.wpAny_rule
abbrev eS:=@PySem.wpAny_Call_Name_kw
abbrev eT:=@PySem.call_meets
abbrev eU:=@List.any_eq_true
set_option Elab.async false
set_option linter.all false
set_option maxRecDepth 100000
namespace L2
open PySem PySem.Spec PyProof.Rows
abbrev Key:=Sum Int Str
def sk:Key->Value->Bool
 |.inl k,v=>Value.isInt k v
 |.inr x,v=>Value.isStrOf x v
def Ii (w:World):Key->Int
 |.inl k=>hashInt k
 |.inr x=>hashStr w x
theorem gH:∀ {k:Key}{v:Value},sk k v=true->(∃ i t,k=Sum.inl i/\v=Value.int i t)\/(∃ x t,k=Sum.inr x/\v=Value.str x t)
 |.inl i,v,h=>by
  obtain⟨t,e⟩:=Value.isInt_shape (k:=i) (v:=v) h
  exact .inl ⟨i,t,rfl,e⟩
 |.inr x,v,h=>by
  obtain⟨t,e⟩:=Value.isStrOf_shape (x:=x) (v:=v) h
  exact .inr ⟨x,t,rfl,e⟩
theorem yl (i:Int)(t:Tok):sk (.inl i) (.int i t)=true:=by simp[sk,Value.isInt]
theorem yk (x:Str)(t:Tok):sk (.inr x) (.str x t)=true:=by simp[sk,Value.isStrOf]
theorem CZ (a b:Int):decide ((Sum.inl a:Key)=Sum.inl b)=(a==b):=by
 by_cases e:a=b
 ·subst e;simp
 ·have h:¬(Sum.inl a:Key)=Sum.inl b:=λq=>e (Sum.inl.inj q)
  rw[aR h]
  exact(beq_eq_false_iff_ne.mpr e).symm
theorem CV (a b:Str):decide ((Sum.inr a:Key)=Sum.inr b)=decide (a=b):=by
 by_cases e:a=b
 ·subst e;simp
 ·have h:¬(Sum.inr a:Key)=Sum.inr b:=λq=>e (Sum.inr.inj q)
  rw[aR h,aR e]
theorem CY (a:Int)(b:Str):decide ((Sum.inl a:Key)=Sum.inr b)=false:=aR (λq=>nomatch q)
theorem CW (a:Str)(b:Int):decide ((Sum.inr a:Key)=Sum.inl b)=false:=aR (λq=>nomatch q)
def gP (prog:Program)(w:World):PySem.KeyKind prog w Key where
 is:=sk
 hash:=Ii w
 inj:=λv a b ha hb=>by
  rcases gH ha with⟨i,t,rfl,rfl⟩|⟨x,t,rfl,rfl⟩
  ·rcases gH hb with⟨j,u,rfl,e⟩|⟨y,u,rfl,e⟩
   ·injection e with e1 _;rw[e1]
   ·exact nomatch e
  ·rcases gH hb with⟨j,u,rfl,e⟩|⟨y,u,rfl,e⟩
   ·exact nomatch e
   ·injection e with e1 _;rw[e1]
 byValue:=λk v h=>by
  rcases gH h with⟨i,t,rfl,rfl⟩|⟨x,t,rfl,rfl⟩<;>rfl
 pyHash:=λhv h=>by
  rcases gH hv with⟨i,t,rfl,rfl⟩|⟨x,t,rfl,rfl⟩
  ·exact wpAny_pyHash_int h
  ·exact wpAny_pyHash_str h
 eqBool:=λhu hv h=>by
  rcases gH hu with⟨i,t,rfl,rfl⟩|⟨x,t,rfl,rfl⟩
  ·rcases gH hv with⟨j,u,rfl,rfl⟩|⟨y,u,rfl,rfl⟩
   ·rw[CZ]at h;exact wpAny_eqBool_int h
   ·rw[CY]at h;exact SeqAt.EqAt.int_str i t y u _ _ _ _ h
  ·rcases gH hv with⟨j,u,rfl,rfl⟩|⟨y,u,rfl,rfl⟩
   ·rw[CW]at h;exact SeqAt.EqAt.str_int x t j u _ _ _ _ h
   ·rw[CV]at h;exact wpAny_eqBool_str h
 «strs» :=λk x t v h=>by
  rcases gH h with⟨i,u,rfl,e⟩|⟨y,u,rfl,e⟩
  ·exact nomatch e
  ·injection e with e1 _
   subst e1
   cases v<;>rfl
theorem uT (prog:Program)(w:World)(i:Int)(t:Tok):(gP prog w).is (.inl i) (.int i t)=true:=yl i t
theorem uS (prog:Program)(w:World)(x:Str)(t:Tok):(gP prog w).is (.inr x) (.str x t)=true:=yk x t
inductive V where
 |non |bl (b:Bool)|int (i:Int)|str (x:Str)|byt (b:Array UInt8)|flt (b:UInt64)|ref (a:Addr)|ty (n:String)
 deriving DecidableEq
def RelV:V->Value->Prop
 |.non,u=>u=Value.none
 |.bl b,u=>u=Value.bool b
 |.int i,u=>∃ t,u=Value.int i t
 |.str x,u=>∃ t,u=Value.str x t
 |.byt b,u=>∃ t,u=Value.bytes b t
 |.flt b,u=>∃ t,u=Value.float b t
 |.ref a,u=>u=Value.ref a
 |.ty n,u=>u=Value.type n
abbrev Vals:List V->List Value->Prop:=Paired RelV
theorem Vals.length {xs:List V}{us:List Value}(r:Vals xs us):xs.length=us.length:=er r
theorem Vals.get:∀ {xs:List V}{us:List Value}{i:Nat}{x:V},Vals xs us->xs[i]? = some x->∃ u,us[i]? = some u/\RelV x u
 |_,_,_,_,.nil,e=>by simp at e
 |_,_,0,_,.cons r _,e=>by simp at e;subst e;exact⟨_,rfl,r⟩
 |_,_,i+1,x,.cons _ t,e=>by
  obtain⟨u,h1,h2⟩:=Vals.get (i:=i) (x:=x) t (by simpa using e)
  exact⟨u,by simpa using h1,h2⟩
theorem Vals.append:∀ {xs ys:List V}{us ws:List Value},Vals xs us->Vals ys ws->Vals (xs++ys) (us++ws)
 |_,_,_,_,.nil,s=>s
 |_,_,_,_,.cons r t,s=>.cons r (Vals.append t s)
theorem Vals.take:∀ {xs:List V}{us:List Value} (n:Nat),Vals xs us->Vals (xs.take n) (us.take n)
 |_,_,0,_=>.nil
 |_,_,_+1,.nil=>.nil
 |_,_,n+1,.cons r t=>.cons r (Vals.take n t)
theorem Vals.drop:∀ {xs:List V}{us:List Value} (n:Nat),Vals xs us->Vals (xs.drop n) (us.drop n)
 |_,_,0,r=>r
 |_,_,_+1,.nil=>.nil
 |_,_,n+1,.cons _ t=>Vals.drop n t
def qZ:Option V->Option Value->Prop
 |some v,some u=>RelV v u
 |none,none=>True
 |_,_=>False
def KV {κ:Type} :List (κ×V)->List (κ×Value)->Prop:=Paired λ(p:κ×V) (q:κ×Value)=>p.1=q.1/\RelV p.2 q.2
def kV:Key->V
 |.inl i=>.int i
 |.inr x=>.str x
inductive HO where
 /-- a list -/
 |lst (xs:List V)
 /-- a tuple (never changes) -/
 |tup (xs:List V)
 /-- a dict DX keys are ints and texts;one DX keys are tuples of ints and texts (the empty one is both) -/
 |dK (kvs:List (Key×V))|dT (kvs:List (List Key×V))
 /-- a set of ints:its members,its size -/
 |set (S:Int->Bool) (n:Nat)
 /-- an instance of the class at C,its dict at dx,its attributes -/
 |ins (C dx:Addr) (fs:List (Str×V))
 /-- the dict of the instance at x -/
 |own (x:Addr)
 /-- the dict of an exception -/
 |xd (fs:List (Str×V))
 /-- a bound method,f of x -/
 |met (f x:Addr)
 /-- a range object lo,lo+1,.. below hi -/
 |rng (lo hi:Int)
 /-- a D8 KZ is known to the object (the Gu;a dict while a loop walks it):read,never written while it is so -/
 |frz (o:Obj) (u:HO)
 /-- a code EA table -/
 |tbl (ps:Array Value)
 /-- any other D8,by KY is true of its one object (a def of KW own:KP a S n:=HO.ext λh=>..) -/
 |ext (φ:Heap->Prop)
abbrev Hp:=Addr->Option HO
def upd (H:Hp)(a:Addr)(o:HO):Hp:=λb=>if b=a then some o else H b
theorem eX {H:Hp}{a:Addr}{o:HO} :upd H a o a=some o:=by unfold upd;rw[aD rfl]
theorem fc {H:Hp}{a b:Addr}{o:HO}(h:b≠a):upd H a o b=H b:=by unfold upd;rw[au h]
theorem pM {H:Hp}{a:Addr}{o u:HO} :upd (upd H a o) a u=upd H a u:=by
 funext b;unfold upd;split<;>rfl
theorem gw {H:Hp}{a b:Addr}{o u:HO}(h:H a=some o)(h':H b=some u)(d:o≠u):a≠b:=by
 intro e;subst e;rw[h]at h';exact d (bx h')
theorem fb {H:Hp}{a b:Addr}{o:HO}(h:H a=some o)(h':H b=none):a≠b:=by
 intro e;subst e;rw[h]at h';cases h'
section
variable (P:Program)(w:World)
def gB (H:Hp)(h:Heap)(a:Addr):HO->Prop
 |.lst xs=>xs.length<=sizeLine/\∃ (its:List Value) (n:Nat),Vals xs its/\h.get? a=some {cls:=.type "list",data:=.seq its.toArray n}
 |.tup xs=>xs.length<=sizeLine/\∃ its:List Value,Vals xs its/\IsTup h a its.toArray
 |.dK kvs=>kvs.length<=sizeLine/\(a==sysModules)=false/\∃ vs,KV kvs vs/\h.DictOf (gP P w) a vs
 |.dT kvs=>kvs.length<=sizeLine/\(a==sysModules)=false/\∃ xs:List (List Key×Addr×Value),
   Paired (λ(p:List Key×V) (q:List Key×Addr×Value)=>p.1=q.1/\H q.2.1=some (.tup (p.1.map kV))/\RelV p.2 q.2.2) kvs xs/\
   ∃ o es ep,h.get? a=some o/\o.ExactDict/\o.data = .dict es ep/\es.toList=xs.map (entryOfKey (tupleKind (gP P w)))/\(xs.map (·.1)).Nodup
 |.set S n=>h.SetOf (intKind P w) a S n
 |.ins C dx fs=>H dx=some (.own a)/\fs.length<=1000/\dx≠a/\h.get? a=some (PySem.W.instObj C dx)/\
   ∃ mA,h.Ns1 dx mA/\(∀ f,qZ (fs.lookup f) (mA f))/\PySem.Within mA (fs.map (·.1))
 |.own _=>∃ o,h.get? a=some o
 |.xd fs=>∃ mA,h.Ns1 a mA/\∀ f,qZ (fs.lookup f) (mA f)
 |.rng lo hi=>∃ t u v,h.get? a=some {cls:=.type "range",data:=.fields #[.int lo t,.int hi u,.int 1 v]}
 |.frz o u=>h.get? a=some o/\gB H h a u
 |.tbl ps=>h.get? a=some {cls:=.none,data:=.fields ps}
 |.met f x=>h.get? a=some (PySem.W.methodObj (.ref f) (.ref x))
 |.ext φ=>φ h/\(∃ o,h.get? a=some o)/\∀ h1 h2:Heap,φ h1->(∀ o,h1.get? a=some o->h2.get? a=some o)->φ h2
def HOk (H:Hp)(h:Heap):Prop:=∀ a o,H a=some o->gB P w H h a o
end
section
variable {P:Program}{w:World}{H H':Hp}{h h':Heap}{a:Addr}{o:HO}
theorem gB.lt (x:gB P w H h a o):a<h.objs.size:=by
 cases o with
 |lst xs=>obtain⟨_,_,_,_,e⟩:=x;exact aK e
 |tup xs=>obtain⟨_,_,_,p⟩:=x;exact p.lt
 |dK kvs=>obtain⟨_,_,_,_,o,_,_,e,_⟩:=x;exact aK e
 |dT kvs=>obtain⟨_,_,_,_,o,_,_,e,_⟩:=x;exact aK e
 |set S n=>obtain⟨o,_,_,_,e,_⟩:=x;exact aK e
 |ins C dx fs=>obtain⟨_,_,_,e,_⟩:=x;exact aK e
 |own y=>obtain⟨_,e⟩:=x;exact aK e
 |xd fs=>obtain⟨_,⟨_,_,_,e,_⟩,_⟩:=x;exact aK e
 |rng lo hi=>obtain⟨_,_,_,e⟩:=x;exact aK e
 |frz ob u=>obtain⟨e,_⟩:=x;exact aK e
 |tbl ps=>exact aK (show h.get? a=some _ from x)
 |met f y=>exact aK (show h.get? a=some _ from x)
 |ext φ=>obtain⟨_,⟨_,e⟩,_⟩:=x;exact aK e
theorem Paired.CT {α β:Type}{F G:α->β->Prop} :∀ {l₁:List α}{l₂:List β},Paired F l₁ l₂->(∀ a b,F a b->G a b)->Paired G l₁ l₂
 |_,_,.nil,_=>.nil
 |_,_,.cons r t,f=>.cons (f _ _ r) (Paired.CT t f)
theorem gB.oE (x:gB P w H h a o)(k:∀ b u,(b=a\/H b=some (.own a))->h.get? b=some u->h'.get? b=some u)
  (ho:∀ b,H b=some (.own a)->H' b=some (.own a)) (ht:∀ b xs,H b=some (.tup xs)->H' b=some (.tup xs)):gB P w H' h' a o:=by
 induction o with
 |lst xs=>obtain⟨z,its,n,r,e⟩:=x;exact⟨z,its,n,r,k _ _ (.inl rfl) e⟩
 |tup xs=>obtain⟨z,its,r,ob,e,c⟩:=x;exact⟨z,its,r,ob,k _ _ (.inl rfl) e,c⟩
 |dK kvs=>obtain⟨z,y,vs,r,ob,es,ep,e,c⟩:=x;exact⟨z,y,vs,r,ob,es,ep,k _ _ (.inl rfl) e,c⟩
 |dT kvs=>
  obtain⟨z,y,xs,r,ob,es,ep,e,c⟩:=x
  exact⟨z,y,xs,Paired.CT r λp q z=>⟨z.1,ht _ _ z.2.1,z.2.2⟩,ob,es,ep,k _ _ (.inl rfl) e,c⟩
 |set S n=>obtain⟨ob,es,ep,t,e,c⟩:=x;exact⟨ob,es,ep,t,k _ _ (.inl rfl) e,c⟩
 |ins C dx fs=>
  obtain⟨d,z,ne,e,mA,⟨od,es,ep,e2,c⟩,r⟩:=x
  exact⟨ho _ d,z,ne,k _ _ (.inl rfl) e,mA,⟨od,es,ep,k _ _ (.inr d) e2,c⟩,r⟩
 |own y=>obtain⟨ob,e⟩:=x;exact⟨ob,k _ _ (.inl rfl) e⟩
 |xd fs=>obtain⟨mA,⟨od,es,ep,e,c⟩,r⟩:=x;exact⟨mA,⟨od,es,ep,k _ _ (.inl rfl) e,c⟩,r⟩
 |rng lo hi=>obtain⟨t,u,v,e⟩:=x;exact⟨t,u,v,k _ _ (.inl rfl) e⟩
 |frz ob u ih=>obtain⟨e,q⟩:=x;exact⟨k _ _ (.inl rfl) e,ih q⟩
 |tbl ps=>
  have e:h.get? a=some {cls:=.none,data:=.fields ps} :=x
  show h'.get? a=some {cls:=.none,data:=.fields ps}
  exact k a _ (.inl rfl) e
 |met f y=>
  have e:h.get? a=some (PySem.W.methodObj (.ref f) (.ref y)):=x
  show h'.get? a=some (PySem.W.methodObj (.ref f) (.ref y))
  exact k a _ (.inl rfl) e
 |ext φ=>obtain⟨p,⟨o,e⟩,st⟩:=x;exact⟨st _ _ p λo q=>k _ _ (.inl rfl) q,⟨o,k _ _ (.inl rfl) e⟩,st⟩
theorem HOk.lt (x:HOk P w H h)(e:H a=some o):a<h.objs.size:=(x a o e).lt
theorem HOk.fresh (x:HOk P w H h)(e:h.objs.size<=a):H a=none:=by
 cases q:H a with
 |none=>rfl
 |some u=>exact absurd (aT (x.lt q) e) (cR _)
theorem HOk.kept (x:HOk P w H h)(k:∀ b u,h.get? b=some u->h'.get? b=some u):HOk P w H h':=λa o e=>
 (x a o e).oE (λb u _ q=>k b u q) (λ_ q=>q) λ_ _ q=>q
theorem HOk.laid (x:HOk P w H h)(k:∀ b u,h.get? b=some u->h'.get? b=some u)(hp:h.objs.size<=a)(new:gB P w (upd H a o) h' a o):HOk P w (upd H a o) h':=λb u e=>by
 have hn:=x.fresh hp
 by_cases hb:b=a
 ·subst hb;rw[eX]at e;cases e;exact new
 ·rw[fc hb]at e
  exact(x b u e).oE (λc v _ q=>k c v q) (λc q=>by rw[fc (fb q hn)];exact q) λc xs q=>by rw[fc (fb q hn)];exact q
end
def Rd (H:Hp)(a:Addr)(u:HO):Prop:=H a=some u\/∃ o,H a=some (.frz o u)
theorem Rd.ok {P:Program}{w:World}{H:Hp}{h:Heap}{a:Addr}{u:HO}(r:Rd H a u)(x:HOk P w H h):gB P w H h a u:=by
 rcases r with r |⟨o,r⟩
 ·exact x a u r
 ·obtain⟨_,q⟩:=x a _ r
  exact q
def Mut:Option HO->Prop
 |some (.lst _)=>True
 |some (.dK _)=>True
 |some (.dT _)=>True
 |some (.set _ _)=>True
 |some (.ins _ _ _)=>True
 |some (.ext _)=>True
 |_=>False
section
variable {P:Program}{w:World}{H:Hp}{h h':Heap}{x e:Addr}{o':HO}
theorem HOk.write (ok:HOk P w H h)(mu:Mut (H x))(he:e=x\/H e=some (.own x))(k:∀ b u,b≠e->h.get? b=some u->h'.get? b=some u)(heo:∃ u,h'.get? e=some u)
  (new:gB P w (upd H x o') h' x o'):HOk P w (upd H x o') h':=λb u q=>by
 have ED:∀ c y,H c=some (.own y)->c≠x:=λc y r z=>by subst z;rw[r]at mu;exact mu
 have HW:∀ c xs,H c=some (.tup xs)->c≠x:=λc xs r z=>by subst z;rw[r]at mu;exact mu
 by_cases hb:b=x
 ·subst hb;rw[eX]at q;cases q;exact new
 ·rw[fc hb]at q
  by_cases hbe:b=e
  ·have q':H b=some (.own x):=by
    rcases he with z |z
    ·exact absurd (hbe.trans z) hb
    ·rw[hbe];exact z
   rw[q]at q';cases q'
   obtain⟨v,hv⟩:=heo
   exact⟨v,by rw[hbe];exact hv⟩
  ·refine(ok b u q).oE (λc v hc r=>k c v ?_ r) (λc r=>by rw[fc (ED c b r)];exact r) λc xs r=>by rw[fc (HW c xs r)];exact r
   rcases hc with rfl |hc
   ·exact hbe
   ·rintro rfl
    rcases he with z |z
    ·exact ED c b hc z
    ·rw[hc]at z;cases z;exact hb rfl
end
structure Un (fs ex:List Addr)(H H':Hp)(h h':Heap):Prop where
 keep:∀ b o,h.get? b=some o->H b=none->b∉fs->b∉ex->h'.get? b=some o
 slot:∀ b o,h.get? b=some o->H b=none->b∈fs->b∉ex->∃ sl,h'.get? b=some {o with slots:=sl}
 free:∀ b o,h.get? b=some o->H b=none->b∉ex->H' b=none
 there:∀ b o,h.get? b=some o->b∉ex->∃ o',h'.get? b=some o'
 nv:∀ b xs,H b=some (.tup xs)->H' b=some (.tup xs)
 lU:∀ b o u,H b=some (.frz o u)->H' b=some (.frz o u)
 nz:∀ b ps,H b=some (.tbl ps)->∃ more,H' b=some (.tbl (ps++more))
section
variable {fs fs' ex ex':List Addr}{H H1 H2:Hp}{h h1 h2 h':Heap}{a x e:Addr}{o:HO}
theorem Un.any (u:Un fs ex H H1 h h1){b:Addr}{ob:Obj}(q:h.get? b=some ob)(n:H b=none)(hx:b∉ex):∃ sl,h1.get? b=some {ob with slots:=sl} :=by
 by_cases hb:b∈fs
 ·exact u.slot b ob q n hb hx
 ·exact⟨ob.slots,u.keep b ob q n hb hx⟩
theorem Un.trans (a:Un fs ex H H1 h h1)(b:Un fs ex H1 H2 h1 h2):Un fs ex H H2 h h2 where
 keep:=λc ob q n hc hx=>b.keep c ob (a.keep c ob q n hc hx) (a.free c ob q n hx) hc hx
 slot:=λc ob q n hc hx=>by
  obtain⟨sl,e1⟩:=a.slot c ob q n hc hx
  obtain⟨sl',e2⟩:=b.slot c _ e1 (a.free c ob q n hx) hc hx
  exact⟨sl',e2⟩
 free:=λc ob q n hx=>by
  obtain⟨o',e1⟩:=a.there c ob q hx
  exact b.free c o' e1 (a.free c ob q n hx) hx
 there:=λc ob q hx=>by
  obtain⟨o',e1⟩:=a.there c ob q hx
  exact b.there c o' e1 hx
 nv:=λc xs q=>b.nv c xs (a.nv c xs q)
 lU:=λc ob xs q=>b.lU c ob xs (a.lU c ob xs q)
 nz:=λc ps q=>by
  obtain⟨m1,e1⟩:=a.nz c ps q
  obtain⟨m2,e2⟩:=b.nz c _ e1
  exact⟨m1++m2,by rw[e2,Array.append_assoc]⟩
theorem Un.kept (k:∀ b u,h.get? b=some u->h'.get? b=some u):Un fs ex H H h h':=
 ⟨λb ob q _ _ _=>k b ob q,λb ob q _ _ _=>⟨ob.slots,k b ob q⟩,λ_ _ _ n _=>n,λb ob q _=>⟨ob,k b ob q⟩,λ_ _ q=>q,λ_ _ _ q=>q,λ_ ps q=>⟨#[],by rw[q];simp⟩⟩
theorem Un.refl:Un fs ex H H h h:=Un.kept λ_ _ q=>q
theorem Un.laid (k:∀ b u,h.get? b=some u->h'.get? b=some u)(hp:h.objs.size<=a)(hn:H a=none):Un fs ex H (upd H a o) h h' where
 keep:=λb u q _ _ _=>k b u q
 slot:=λb u q _ _ _=>⟨u.slots,k b u q⟩
 free:=λb u q n _=>by rw[fc (bo (aT (aK q) hp))];exact n
 there:=λb u q _=>⟨u,k b u q⟩
 nv:=λb xs q=>by rw[fc (fb q hn)];exact q
 lU:=λb u xs q=>by rw[fc (fb q hn)];exact q
 nz:=λb ps q=>⟨#[],by rw[fc (fb q hn),q];simp⟩
theorem Un.write (mu:Mut (H x))(he:e=x\/H e=some (.own x))(k:∀ b u,b≠e->h.get? b=some u->h'.get? b=some u)(heo:∃ u,h'.get? e=some u):Un fs ex H (upd H x o) h h':=by
 have hx:∀ b,H b=none->b≠x:=λb n z=>by subst z;rw[n]at mu;exact mu
 have hb:∀ b,H b=none->b≠e:=λb n z=>by
  subst z
  rcases he with r |r
  ·exact hx b n r
  ·rw[n]at r;cases r
 have hm:∀ b u,H b=some u->¬Mut (some u)->b≠x:=λb u q nm z=>by subst z;rw[q]at mu;exact nm mu
 refine⟨λb u q n _ _=>k b u (hb b n) q,λb u q n _ _=>⟨u.slots,k b u (hb b n) q⟩,λb u q n _=>by rw[fc (hx b n)];exact n,λb u q _=>?_,
  λb xs q=>by rw[fc (hm b _ q λz=>z)];exact q,λb u xs q=>by rw[fc (hm b _ q λz=>z)];exact q,λb ps q=>⟨#[],by rw[fc (hm b _ q λz=>z),q];simp⟩⟩
 by_cases hbe:b=e
 ·subst hbe;exact heo
 ·exact⟨u,k b u hbe q⟩
end
def trk (h:Heap)(H:Hp):List Addr:=(List.range h.objs.size).filter λa=>(H a).isSome
def tQ (h:Heap)(H:Hp):Heap:=PySem.W.hideAll h (trk h H)
theorem yp (h:Heap)(H:Hp):(tQ h H).objs.size=h.objs.size:=PySem.W.hideAll_size _ _
theorem zX {h:Heap}{H:Hp}{b:Addr}{o:Obj}(e:h.get? b=some o)(n:H b=none):(tQ h H).get? b=some o:=
 PySem.W.hideAll_get _ e λhm=>by
  have q:(H b).isSome=true:=(aO.mp hm).2
  rw[n]at q;simp at q
theorem A5 {h:Heap}{H:Hp}{b:Addr}{o:Obj}(e:(tQ h H).get? b=some o):h.get? b=some o/\H b=none:=by
 have e':h.get? b=some o:=PySem.W.of_hideAll (trk h H) e
 refine⟨e',?_⟩
 cases q:H b with
 |none=>rfl
 |some x=>
  have hm:b∈trk h H:=aO.mpr ⟨List.mem_range.mpr (aK e'),by simp[q]⟩
  have z:(tQ h H).get? b=none:=PySem.W.hideAll_none (trk h H) hm
  rw[z]at e;cases e
structure Mod (K:PySem.W.Frag)(mg:Str->Option Value)(base:Heap):Prop where
 kin:K.In base
 glob:base.Ns mainGlobals mg
 blt:∃ mb,base.Ns builtinsNs mb/\∀ x:Str,x≠ "__name__" ->mb x=bootBuiltins x
 nolimit:base.NoLimit
structure Cx where
 prog:Program
 w:World
 K:PySem.W.Frag
 mg:Str->Option Value
 base:Heap
 A:Around
 N:List Str
 s₀:Shared
 H₀:Hp
 env:Env
 outer:List Env
 stack:List Env
 ex:List Addr
 fn:Str->Bool
 calm:Bool
 pn:List (Addr×Obj)
 xe:Value->Shared->Prop
def frs (l:List Env):List Addr:=l.filterMap (·.frame)
abbrev Cx.fs (X:Cx):List Addr:=frs X.outer
def Vis (sc:Scope)(x:Str):Prop:=sc.names.lookup x=some .local\/sc.names.lookup x=some .cell\/sc.names.lookup x=some .free
def Loc (sc:Scope)(x:Str):Prop:=sc.names.lookup x=some .local\/sc.names.lookup x=some .cell
def Look (env:Env)(h:Heap)(m:Str->Option Value)(x:Str)(u:Value):Prop:=
 (env.kindOf x=some .local/\m x=some u)\/((env.kindOf x=some .cell\/env.kindOf x=some .free)/\∃ c,env.cells.lookup x=some c/\h.IsCell c (some u))
structure Cx.Ok (X:Cx):Prop where
 mod:Mod X.K X.mg X.base
 kind:X.env.scope.kind = .function
 glob:X.env.globals=mainGlobals
 blt:X.env.builtins=builtinsNs
 above:X.s₀.heap.objs.size<=X.env.locals
 inj:∀ x y c,X.env.cells.lookup x=some c->X.env.cells.lookup y=some c->x=y
 has:∀ x,(X.env.kindOf x=some .cell\/X.env.kindOf x=some .free)->∃ c,X.env.cells.lookup x=some c
 cab:∀ x c,X.fn x=true->X.env.cells.lookup x=some c->X.s₀.heap.objs.size<=c
 hd:X.calm=true->X.A.handled=none
 frames:X.A.frames=some X.stack
 stk:X.stack=X.outer\/(X.stack=X.env::X.outer/\X.env.frame=some X.env.locals)
 exf:∀ b∈X.ex,b≠X.env.locals/\∀ x c,X.env.cells.lookup x=some c->c≠b
 bs:∀ b o,X.base.get? b=some o->X.s₀.heap.get? b=some o/\X.H₀ b=none
 bsz:X.base.objs.size<=X.s₀.heap.objs.size
 v7:∀ b o,X.base.get? b=some o->b∉X.ex
 yu:∀ b∈X.ex,b∉X.fs
 oQ:X.s₀.heap.FunFrames X.base X.outer
 frf:∀ b∈X.fs,X.H₀ b=none
structure Inv (X:Cx)(pins:List (Addr×Obj))(σ:List (Option V))(H:Hp)(s:Shared):Prop where
 ok:X.Ok
 os:s.os=X.s₀.os
 bare:AllBare s.gens
 base:Un X.fs X.ex X.H₀ H X.s₀.heap s.heap
 loc:∃ m,s.heap.Ns X.env.locals m/\∀ (i:Nat) (x:Str) (v:V),X.N[i]? = some x->σ[i]? = some (some v)->Vis X.env.scope x->∃ u,RelV v u/\Look X.env s.heap m x u
 cell:∀ x c,X.env.cells.lookup x=some c->∃ v,s.heap.IsCell c v
 free:H X.env.locals=none
 iU:∀ x c,X.env.cells.lookup x=some c->H c=none
 pin:∀ p∈X.pn++pins,s.heap.get? p.1=some p.2/\H p.1=none/\p.1≠X.env.locals/\p.1∉X.fs/\∀ v,p.2.data≠ .cell v
 hok:HOk X.prog X.w H s.heap
 len:σ.length=X.N.length
section
variable {X:Cx}{pins:List (Addr×Obj)}{σ:List (Option V)}{H H':Hp}{s:Shared}{h':Heap}
theorem Cx.Ok.HZ (ok:X.Ok){b:Addr}{o:Obj}(e:X.base.get? b=some o):b∉X.fs:=λhb=>by
 have:=(ok.oQ.mem hb).1
 rw[e]at this;cases this
theorem Inv.bs (I:Inv X pins σ H s):∀ b o,X.base.get? b=some o->s.heap.get? b=some o/\H b=none:=λb o e=>
 ⟨I.base.keep b o (I.ok.bs b o e).1 (I.ok.bs b o e).2 (I.ok.HZ e) (I.ok.v7 b o e),I.base.free b o (I.ok.bs b o e).1 (I.ok.bs b o e).2 (I.ok.v7 b o e)⟩
theorem Inv.bk (I:Inv X pins σ H s):∀ b o,X.base.get? b=some o->s.heap.get? b=some o:=λb o e=>(I.bs b o e).1
theorem Inv.mod (I:Inv X pins σ H s):Mod X.K X.mg X.base:=I.ok.mod
theorem Inv.kIn (I:Inv X pins σ H s):X.K.In s.heap:=I.ok.mod.kin.keeps I.bk
theorem Inv.lt (I:Inv X pins σ H s):X.env.locals<s.heap.objs.size:=let ⟨_,hn,_⟩:=I.loc;hn.lt
theorem Inv.sz (I:Inv X pins σ H s):X.s₀.heap.objs.size<=s.heap.objs.size:=bF I.ok.above (cb I.lt)
theorem Inv.HY (I:Inv X pins σ H s){a:Addr}(h:s.heap.objs.size<=a):a∉X.fs:=λhb=>by
 obtain⟨_,o,ho,_⟩:=I.ok.oQ.mem hb
 exact absurd (aT (aK ho) (bF I.sz h)) (cR _)
theorem Inv.cne (I:Inv X pins σ H s):∀ x c,X.env.cells.lookup x=some c->c≠X.env.locals:=λx c e z=>by
 obtain⟨v,o,ho,hd⟩:=I.cell x c e
 obtain⟨m,⟨o',es,ep,ho',hd',_⟩,_⟩:=I.loc
 rw[z,ho']at ho;cases ho;rw[hd']at hd;cases hd
theorem Inv.oQ (I:Inv X pins σ H s):s.heap.FunFrames X.base X.outer:=by
 have all:∀ (l:List Env),(∀ b∈frs l,b∈X.fs)->X.s₀.heap.FunFrames X.base l->s.heap.FunFrames X.base l:=by
  intro l
  induction l with
  |nil=>intro _ _;trivial
  |cons env r ih=>
   intro hs hl
   obtain⟨hk,⟨L,o,hf,hn,ho,hd⟩,hr⟩:=hl
   have hL:L∈X.fs:=hs L (by unfold frs;rw[ef,hf];exact ar)
   obtain⟨sl,e⟩:=I.base.slot L o ho (I.ok.frf L hL) hL λz=>I.ok.yu L z hL
   exact⟨hk,⟨L,_,hf,hn,e,hd⟩,ih (λb hb=>hs b (by unfold frs;rw[ef,hf];exact aC _ hb)) hr⟩
 exact all X.outer (λ_ hb=>hb) I.ok.oQ
theorem Inv.stack (I:Inv X pins σ H s):s.heap.FunFrames X.base X.stack:=by
 rcases I.ok.stk with e |⟨e,hf⟩
 ·rw[e];exact I.oQ
 ·rw[e]
  obtain⟨m,hn,_⟩:=I.loc
  refine .cons (by rw[I.ok.kind];decide) hf hn ?_ I.oQ
  exact Heap.get?_none_of_le (bF I.ok.bsz I.ok.above)
theorem Inv.oD (I:Inv X pins σ H s):∀ b∈frs X.stack,b∈X.env.locals::X.fs:=λb hb=>by
 rcases I.ok.stk with e |⟨e,hf⟩
 ·rw[e]at hb;exact aC _ hb
 ·rw[e]at hb
  unfold frs at hb
  rw[ef,hf]at hb
  exact hb
theorem Inv.sQ (I:Inv X pins σ H s):∀ b∈frs X.stack,H b=none:=λb hb=>by
 rcases aJ.mp (I.oD b hb)with e |hb
 ·rw[e];exact I.free
 ·obtain⟨_,o,ho,_⟩:=I.ok.oQ.mem hb
  exact I.base.free b o ho (I.ok.frf b hb) λz=>I.ok.yu b z hb
theorem Inv.step {g':Array GenState}{t':Nat}{d':Drawn}{ch:List Addr}(I:Inv X pins σ H s)
  (hch:∀ b∈ch,(b∈X.ex\/X.s₀.heap.objs.size<=b)/\b≠X.env.locals/\(∀ x c,X.env.cells.lookup x=some c->c≠b)/\∀ p∈X.pn++pins,p.1≠b)
  (keep:∀ b o,b≠X.env.locals->b∉X.fs->b∉ch->s.heap.get? b=some o->H b=none->h'.get? b=some o)
  (slot:∀ b o,b≠X.env.locals->b∈X.fs->b∉ch->s.heap.get? b=some o->H b=none->∃ sl,h'.get? b=some {o with slots:=sl}) (free:∀ b o,b∉ch->s.heap.get? b=some o->H b=none->H' b=none)
  (there:∀ b o,b∉ch->s.heap.get? b=some o->∃ o',h'.get? b=some o')
  (nv:∀ b xs,H b=some (.tup xs)->H' b=some (.tup xs)) (lU:∀ b o u,H b=some (.frz o u)->H' b=some (.frz o u)) (nz:∀ b ps,H b=some (.tbl ps)->∃ more,H' b=some (.tbl (ps++more)))
  (ns:∀ m,s.heap.Ns X.env.locals m->h'.Ns X.env.locals m) (hok:HOk X.prog X.w H' h') (hg:AllBare g'):
  Inv X pins σ H' {s with heap:=h',gens:=g',drawn:=d',toks:=t'} :=by
 have neL:∀ b o,X.s₀.heap.get? b=some o->b≠X.env.locals:=λb o e=>bo (aT (aK e) I.ok.above)
 have neC:∀ b o,X.s₀.heap.get? b=some o->b∉X.ex->b∉ch:=λb o e hx hb=>by
  rcases(hch b hb).1 with z |z
  ·exact hx z
  ·exact absurd (aT (aK e) z) (cR _)
 have cellK:∀ x c,X.env.cells.lookup x=some c->∀ v,s.heap.IsCell c v->h'.IsCell c v:=λx c e v ⟨o,ho,hd⟩=>by
  have nch:c∉ch:=λz=>(hch c z).2.2.1 x c e rfl
  by_cases hc:c∈X.fs
  ·obtain⟨sl,q⟩:=slot c o (I.cne x c e) hc nch ho (I.iU x c e)
   exact⟨_,q,hd⟩
  ·exact⟨o,keep c o (I.cne x c e) hc nch ho (I.iU x c e),hd⟩
 refine⟨I.ok,I.os,hg,⟨λb o e n hb hx=>?_,λb o e n hb hx=>?_,λb o e n hx=>?_,λb o e hx=>?_,λb xs e=>nv b xs (I.base.nv b xs e),λb o xs e=>lU b o xs (I.base.lU b o xs e),λb ps e=>?_⟩,?_,λx c e=>?_,?_,λx c e=>?_,λp hp=>?_,hok,I.len⟩
 ·exact keep b o (neL b o e) hb (neC b o e hx) (I.base.keep b o e n hb hx) (I.base.free b o e n hx)
 ·obtain⟨sl,e1⟩:=I.base.slot b o e n hb hx
  obtain⟨sl',e2⟩:=slot b _ (neL b o e) hb (neC b o e hx) e1 (I.base.free b o e n hx)
  exact⟨sl',e2⟩
 ·obtain⟨o',e1⟩:=I.base.there b o e hx
  exact free b o' (neC b o e hx) e1 (I.base.free b o e n hx)
 ·obtain⟨o',e1⟩:=I.base.there b o e hx
  exact there b o' (neC b o e hx) e1
 ·obtain⟨m1,e1⟩:=I.base.nz b ps e
  obtain⟨m2,e2⟩:=nz b _ e1
  exact⟨m1++m2,by rw[e2,Array.append_assoc]⟩
 ·obtain⟨m,hn,hl⟩:=I.loc
  refine⟨m,ns m hn,λi x v e1 e2 e3=>?_⟩
  obtain⟨u,r,l⟩:=hl i x v e1 e2 e3
  refine⟨u,r,?_⟩
  rcases l with l |⟨k,c,e,z⟩
  ·exact .inl l
  ·exact .inr ⟨k,c,e,cellK x c e _ z⟩
 ·obtain⟨v,z⟩:=I.cell x c e
  exact⟨v,cellK x c e v z⟩
 ·obtain⟨m,⟨o,_,_,ho,_⟩,_⟩:=I.loc
  exact free _ o (λz=>(hch _ z).2.1 rfl) ho I.free
 ·obtain⟨v,o,ho,hd⟩:=I.cell x c e
  exact free c o (λz=>(hch c z).2.2.1 x c e rfl) ho (I.iU x c e)
 ·obtain⟨e,n,ne,nf,d⟩:=I.pin p hp
  have nch:p.1∉ch:=λz=>(hch p.1 z).2.2.2 p hp rfl
  exact⟨keep p.1 p.2 ne nf nch e n,free p.1 p.2 nch e n,ne,nf,d⟩
theorem Inv.un {t':Nat}(I:Inv X pins σ H s)(u:Un X.fs [] H H' s.heap h')(hok:HOk X.prog X.w H' h'):Inv X pins σ H' {s with heap:=h',toks:=t'} :=by
 obtain⟨m,⟨o,es,ep,ho,r⟩,_⟩:=id I.loc
 obtain⟨sl,hL⟩:=u.any ho I.free (by simp)
 exact I.step (g':=s.gens) (d':=s.drawn) (ch:=[]) (λ_ z=>nomatch z) (λb o _ hb _ e n=>u.keep b o e n hb (by simp)) (λb o _ hb _ e n=>u.slot b o e n hb (by simp)) (λb o _ e n=>u.free b o e n (by simp)) (λb o _ e=>u.there b o e (by simp)) u.nv u.lU u.nz (λm' hm=>by
  obtain⟨o',es',ep',ho',r'⟩:=hm
  rw[ho]at ho';cases ho'
  exact⟨_,es',ep',hL,r'⟩) hok I.bare
theorem Inv.call {g':Array GenState}{t':Nat}{d':Drawn}{ch:List Addr}(I:Inv X pins σ H s)(u:Un (frs X.stack) ch H H' s.heap h')(hok:HOk X.prog X.w H' h')(hg:AllBare g')
  (hch:∀ b∈ch,(b∈X.ex\/X.s₀.heap.objs.size<=b)/\b≠X.env.locals/\(∀ x c,X.env.cells.lookup x=some c->c≠b)/\∀ p∈X.pn++pins,p.1≠b):
  Inv X pins σ H' {s with heap:=h',gens:=g',drawn:=d',toks:=t'} :=by
 obtain⟨m,⟨o,es,ep,ho,r⟩,_⟩:=id I.loc
 obtain⟨sl,hL⟩:=u.any ho I.free λz=>(hch _ z).2.1 rfl
 exact I.step (ch:=ch) hch (λb o hL hb hc e n=>u.keep b o e n (λz=>(aJ.mp (I.oD b z)).elim hL hb) hc) (λb o _ _ hc e n=>u.any e n hc) (λb o hc e n=>u.free b o e n hc) (λb o hc e=>u.there b o e hc) u.nv u.lU u.nz (λm' hm=>by
  obtain⟨o',es',ep',ho',r'⟩:=hm
  rw[ho]at ho';cases ho'
  exact⟨_,es',ep',hL,r'⟩) hok hg
theorem Inv.turned {t':Nat}{it:Addr}(I:Inv X pins σ H s)(k:∀ b o,b≠it->s.heap.get? b=some o->h'.get? b=some o)(hn:H it=none)(hL:it≠X.env.locals)
  (h1:it∈X.ex\/X.s₀.heap.objs.size<=it) (h2:∀ x c,X.env.cells.lookup x=some c->c≠it) (h3:∀ p∈X.pn++pins,p.1≠it):Inv X pins σ H {s with heap:=h',toks:=t'} :=by
 have nit:∀ b u,H b=some u->b≠it:=λb u e z=>by rw[z,hn]at e;cases e
 refine I.step (g':=s.gens) (d':=s.drawn) (ch:=[it]) (λb hb=>?_) (λb o _ _ hc e _=>k b o (λz=>hc (by simp[z])) e) (λb o _ _ hc e _=>⟨o.slots,k b o (λz=>hc (by simp[z])) e⟩) (λ_ _ _ _ n=>n)
  (λb o hc e=>⟨o,k b o (λz=>hc (by simp[z])) e⟩) (λ_ _ e=>e) (λ_ _ _ e=>e) (λb ps e=>⟨#[],by rw[e];simp⟩) (λm hm=>?_) (λb u e=>?_) I.bare
 ·have e:b=it:=by simpa using hb
  subst e
  exact⟨h1,hL,h2,h3⟩
 ·obtain⟨o,es,ep,ho,r⟩:=hm
  exact⟨o,es,ep,k _ o (b9 hL) ho,r⟩
 ·refine(I.hok b u e).oE (λc v hc q=>k c v ?_ q) (λ_ q=>q) λ_ _ q=>q
  rcases hc with z |z
  ·rw[z];exact nit b u e
  ·exact nit c _ z
theorem Inv.tok (I:Inv X pins σ H s)(t:Nat):Inv X pins σ H {s with toks:=t} :=I.un (h':=s.heap) (t':=t) Un.refl I.hok
theorem Inv.kept {t':Nat}(I:Inv X pins σ H s)(k:∀ b u,s.heap.get? b=some u->h'.get? b=some u):Inv X pins σ H {s with heap:=h',toks:=t'} :=I.un (Un.kept k) (I.hok.kept k)
theorem Inv.laid {a:Addr}{o:HO}{t':Nat}(I:Inv X pins σ H s)(k:∀ b u,s.heap.get? b=some u->h'.get? b=some u)(hp:s.heap.objs.size<=a)(new:gB X.prog X.w (upd H a o) h' a o):
  Inv X pins σ (upd H a o) {s with heap:=h',toks:=t'} :=I.un (Un.laid k hp (I.hok.fresh hp)) (I.hok.laid k hp new)
theorem Inv.write {x e:Addr}{o:HO}{t':Nat}(I:Inv X pins σ H s)(mu:Mut (H x))(he:e=x\/H e=some (.own x))(k:∀ b u,b≠e->s.heap.get? b=some u->h'.get? b=some u)(heo:∃ u,h'.get? e=some u)
  (new:gB X.prog X.w (upd H x o) h' x o):Inv X pins σ (upd H x o) {s with heap:=h',toks:=t'} :=I.un (Un.write mu he k heo) (I.hok.write mu he k heo new)
theorem Inv.weak {σ':List (Option V)}(I:Inv X pins σ H s)(hl:σ'.length=σ.length)(w:∀ (i:Nat) v,σ'[i]? = some (some v)->σ[i]? = some (some v)):Inv X pins σ' H s:=
 ⟨I.ok,I.os,I.bare,I.base,let ⟨m,hn,hl'⟩:=I.loc;⟨m,hn,λi x v e1 e2 e3=>hl' i x v e1 (w i v e2) e3⟩,I.cell,I.free,I.iU,I.pin,I.hok,hl.trans I.len⟩
theorem Inv.w6 {qq:List (Addr×Obj)}(I:Inv X pins σ H s)(h:∀ p∈qq,s.heap.get? p.1=some p.2/\H p.1=none/\p.1≠X.env.locals/\p.1∉X.fs/\∀ v,p.2.data≠ .cell v):Inv X qq σ H s:=
 ⟨I.ok,I.os,I.bare,I.base,I.loc,I.cell,I.free,I.iU,λp hp=>(aI.mp hp).elim (λz=>I.pin p (bA _ z)) (h p),I.hok,I.len⟩
theorem qC {N:List Str}(hN:N.Nodup){i j:Nat}{x:Str}(a:N[i]? = some x)(b:N[j]? = some x):i=j:=by
 obtain⟨h1,e1⟩:=af.mp a
 obtain⟨h2,e2⟩:=af.mp b
 exact(cN hN).mp (e1.trans e2.symm)
theorem rK {M:Model}{A:Around}{E:Value->Shared->Prop}{i:Nat}{x:Str}{v:V}{u:Value}{Q:Unit->Shared->Prop}(I:Inv X pins σ H s)(hN:X.N.Nodup)(hi:X.N[i]? = some x)(hx:Loc X.env.scope x)(r:RelV v u)
  (h:∀ s',Inv X pins (σ.set i (some v)) H s'->(∃ a,Heap.SameBut a s.heap s'.heap/\(a=X.env.locals\/X.env.cells.lookup x=some a))->Q () s') (hf:X.fn x=true\/X.env.scope.names.lookup x=some .local:=by first |exact .inl rfl |exact .inr rfl |assumption):wpAny M A (storeName X.env x u) Q E s:=by
 obtain⟨m,hn,hl⟩:=id I.loc
 have Dv:(X.env.scope.kind == .class||(X.env.scope.kind == .module&&X.env.locals !=X.env.globals))=false:=by rw[I.ok.kind];rfl
 have hiσ:i<σ.length:=by rw[I.len];exact(af.mp hi).1
 have cne:=I.cne
 have tracked:∀ {a:Addr}{h':Heap},(∃ o,s.heap.get? a=some o/\H a=none)->Heap.SameBut a s.heap h'->HOk X.prog X.w H h':=λ{a h'} ha hs b ob e=>by
  obtain⟨_,_,su⟩:=ha
  refine(I.hok b ob e).oE (λc w' hc q=>(hs.2 c ?_).trans q) (λ_ q=>q) λ_ _ q=>q
  rintro rfl
  rcases hc with rfl |hc
  ·rw[su]at e;cases e
  ·rw[su]at hc;cases hc
 rcases hx with hk |hk
 ·refine wpAny_storeName_local hk hn (λh' hn' hs=>?_) Dv
  obtain⟨oL,_,_,hoL,_⟩:=id hn
  refine h _ ⟨I.ok,I.os,I.bare,⟨λb o e n hb hx=>?_,λb o e n hb hx=>?_,I.base.free,λb o e hx=>?_,I.base.nv,I.base.lU,I.base.nz⟩,⟨_,hn',λj y v' e1 e2 e3=>?_⟩,λy c e=>?_,I.free,I.iU,λp hp=>?_,tracked ⟨oL,hoL,I.free⟩ hs,by simpa using I.len⟩ ⟨_,hs,.inl rfl⟩
  ·exact(hs.2 b (bo (aT (aK e) I.ok.above))).trans (I.base.keep b o e n hb hx)
  ·obtain⟨sl,e1⟩:=I.base.slot b o e n hb hx
   exact⟨sl,(hs.2 b (bo (aT (aK e) I.ok.above))).trans e1⟩
  ·obtain⟨o',e1⟩:=I.base.there b o e hx
   exact⟨o',(hs.2 b (bo (aT (aK e) I.ok.above))).trans e1⟩
  ·by_cases hj:j=i
   ·subst hj
    rw[hi]at e1;cases e1
    rw[List.getElem?_set_self hiσ]at e2
    cases e2
    exact⟨u,r,.inl ⟨hk,by simp⟩⟩
   ·rw[dZ (b9 hj)]at e2
    obtain⟨u',r',q⟩:=hl j y v' e1 e2 e3
    refine⟨u',r',?_⟩
    rcases q with⟨k,e⟩|⟨k,c,e,z⟩
    ·refine .inl ⟨k,?_⟩
     have:y≠x:=λe=>hj (qC hN e1 (e ▸ hi))
     simp[this,e]
    ·exact .inr ⟨k,c,e,z.sameBut hs (cne y c e)⟩
  ·obtain⟨w',z⟩:=I.cell y c e
   exact⟨w',z.sameBut hs (cne y c e)⟩
  ·obtain⟨e,n,ne,nf,d⟩:=I.pin p hp
   exact⟨(hs.2 p.1 ne).trans e,n,ne,nf,d⟩
 ·have hfn:X.fn x=true:=by
   rcases hf with z |z
   ·exact z
   ·rw[z]at hk;cases hk
  obtain⟨c,hc⟩:=I.ok.has x (.inl hk)
  obtain⟨w',z⟩:=I.cell x c hc
  refine wpAny_storeName_cell I.ok.kind hk hc z (λh' hc' hs=>?_)
  obtain⟨oc,hoc,IS⟩:=id z
  refine h {s with heap:=h'} ⟨I.ok,I.os,I.bare,⟨λb o e n hb hx=>?_,λb o e n hb hx=>?_,I.base.free,λb o e hx=>?_,I.base.nv,I.base.lU,I.base.nz⟩,⟨m,hn.sameBut hs (b9 (cne x c hc)),λj y v' e1 e2 e3=>?_⟩,λy c' e=>?_,I.free,I.iU,λp hp=>?_,tracked ⟨oc,hoc,I.iU x c hc⟩ hs,by simpa using I.len⟩ ⟨c,hs,.inr hc⟩
  ·exact(hs.2 b (bo (aT (aK e) (I.ok.cab x c hfn hc)))).trans (I.base.keep b o e n hb hx)
  ·obtain⟨sl,e1⟩:=I.base.slot b o e n hb hx
   exact⟨sl,(hs.2 b (bo (aT (aK e) (I.ok.cab x c hfn hc)))).trans e1⟩
  ·obtain⟨o',e1⟩:=I.base.there b o e hx
   exact⟨o',(hs.2 b (bo (aT (aK e) (I.ok.cab x c hfn hc)))).trans e1⟩
  ·by_cases hj:j=i
   ·subst hj
    rw[hi]at e1;cases e1
    rw[List.getElem?_set_self hiσ]at e2
    cases e2
    exact⟨u,r,.inr ⟨.inl hk,c,hc,hc'⟩⟩
   ·rw[dZ (b9 hj)]at e2
    obtain⟨u',r',q⟩:=hl j y v' e1 e2 e3
    refine⟨u',r',?_⟩
    rcases q with q |⟨k,c',e,z'⟩
    ·exact .inl q
    ·refine .inr ⟨k,c',e,z'.sameBut hs ?_⟩
     rintro rfl
     exact hj (qC hN e1 (I.ok.inj _ _ _ e hc ▸ hi))
  ·by_cases hcc:c'=c
   ·subst hcc;exact⟨_,hc'⟩
   ·obtain⟨w2,z2⟩:=I.cell y c' e
    exact⟨w2,z2.sameBut hs hcc⟩
  ·obtain⟨e,n,ne,nf,d⟩:=I.pin p hp
   refine⟨(hs.2 p.1 ?_).trans e,n,ne,nf,d⟩
   intro q
   rw[q,hoc]at e
   have q':oc=p.2:=bx e
   exact d w' (by rw[<-q'];exact IS)
theorem nO {M:Model}{A:Around}{E:Value->Shared->Prop}{i:Nat}{x:Str}{v:V}{u:Value}{Q:Unit->Shared->Prop}(I:Inv X pins σ H s)(hN:X.N.Nodup)(hi:X.N[i]? = some x)(hx:Loc X.env.scope x)(r:RelV v u)
  (h:∀ s',Inv X pins (σ.set i (some v)) H s'->Q () s') (hf:X.fn x=true\/X.env.scope.names.lookup x=some .local:=by first |exact .inl rfl |exact .inr rfl |assumption):wpAny M A (storeName X.env x u) Q E s:=
 rK I hN hi hx r (λs' I' _=>h s' I') hf
theorem Inv.B9 {s':Shared}{ch:List Addr}(I:Inv X pins σ H s)(ho:s'.os=s.os)(u:Un (frs X.stack) ch H H' s.heap s'.heap)(hok:HOk X.prog X.w H' s'.heap)(hg:AllBare s'.gens)
  (hch:∀ b∈ch,(b∈X.ex\/X.s₀.heap.objs.size<=b)/\b≠X.env.locals/\(∀ x c,X.env.cells.lookup x=some c->c≠b)/\∀ p∈X.pn++pins,p.1≠b):Inv X pins σ H' s':=by
 obtain⟨h',g',d',t',o'⟩:=s'
 have e:o'=s.os:=ho
 subst e
 exact I.call (g':=g') (t':=t') (d':=d') u hok hg hch
end
abbrev XK:=Value->Option Addr->Hp->Prop
abbrev St:=List (Option V)
abbrev VK:=V->Hp->Prop
abbrev TE:=St->Hp->VK->Prop
abbrev TT:=St->Hp->(Bool->Hp->Prop)->Prop
abbrev TA:=St->Hp->(List V->Hp->Prop)->Prop
structure Ends where
 nx:St->Hp->Prop
 rt:VK
 bk:St->Hp->Prop:=λ_ _=>False
 ct:St->Hp->Prop:=λ_ _=>False
abbrev TS:=Ends->St->Hp->Prop
def EP (X:Cx)(pins:List (Addr×Obj))(σ:St)(Q:VK)(u:Value)(s':Shared):Prop:=∃ v H',Inv X pins σ H' s'/\RelV v u/\Q v H'
def TP (X:Cx)(pins:List (Addr×Obj))(σ:St)(Q:Bool->Hp->Prop)(b:Bool)(s':Shared):Prop:=∃ H',Inv X pins σ H' s'/\Q b H'
def AP (X:Cx)(pins:List (Addr×Obj))(σ:St)(Q:List V->Hp->Prop)(us:List Value)(s':Shared):Prop:=∃ vs H',Inv X pins σ H' s'/\Vals vs us/\Q vs H'
def SP (X:Cx)(pins:List (Addr×Obj))(D:Ends)(f:Flow)(s':Shared):Prop:=
 match f with
 |.next=>∃ σ' H',Inv X pins σ' H' s'/\D.nx σ' H'
 |.brk=>∃ σ' H',Inv X pins σ' H' s'/\D.bk σ' H'
 |.cont=>∃ σ' H',Inv X pins σ' H' s'/\D.ct σ' H'
 |.ret u=>∃ v σ' H',Inv X pins σ' H' s'/\RelV v u/\D.rt v H'
def PE (X:Cx)(e:Expr)(t:TE):Prop:=
 ∀ (pins:List (Addr×Obj)) (s:Shared) (σ:St) (H:Hp) (Q:VK),Inv X pins σ H s->t σ H Q->wpAny (model X.prog X.w) X.A (eval e X.env) (EP X pins σ Q) X.xe s
def PT (X:Cx)(e:Expr)(t:TT):Prop:=
 ∀ (pins:List (Addr×Obj)) (s:Shared) (σ:St) (H:Hp) (Q:Bool->Hp->Prop),Inv X pins σ H s->t σ H Q->wpAny (model X.prog X.w) X.A (isTrue e X.env (eval e X.env)) (TP X pins σ Q) X.xe s
def PW (X:Cx)(e:Expr)(t:TT):Prop:=
 ∀ (whole:Sem Value) (pins:List (Addr×Obj)) (s:Shared) (σ:St) (H:Hp) (Q:Bool->Hp->Prop),Inv X pins σ H s->t σ H Q->wpAny (model X.prog X.w) X.A (isTrue e X.env whole) (TP X pins σ Q) X.xe s
theorem PW.pt {X:Cx}{e:Expr}{t:TT}(h:PW X e t):PT X e t:=h _
def PA (X:Cx)(es:List Expr)(t:TA):Prop:=
 ∀ (pos:Pos) (pins:List (Addr×Obj)) (s:Shared) (σ:St) (H:Hp) (Q:List V->Hp->Prop),Inv X pins σ H s->t σ H Q->wpAny (model X.prog X.w) X.A (spliced (backTo pos (starEach es X.env))) (AP X pins σ Q) X.xe s
def PS (X:Cx)(st:Stmt)(t:TS):Prop:=
 ∀ (pins:List (Addr×Obj)) (s:Shared) (σ:St) (H:Hp) (D:Ends),Inv X pins σ H s->t D σ H->wpAny (model X.prog X.w) X.A (exec st X.env) (SP X pins D) X.xe s
def PSs (X:Cx)(st:List Stmt)(t:TS):Prop:=
 ∀ (pins:List (Addr×Obj)) (s:Shared) (σ:St) (H:Hp) (D:Ends),Inv X pins σ H s->t D σ H->wpAny (model X.prog X.w) X.A (execs st X.env) (SP X pins D) X.xe s
theorem thn {α:Type}{t:Sem α}{Q Q':α->Shared->Prop}{M:Model}{A:Around}{E:Value->Shared->Prop}{s:Shared}(h:wpAny M A t Q E s)(hQ:∀ a s,Q a s->Q' a s):wpAny M A t Q' E s:=bR h hQ λ_ _ x=>x
section
variable {X:Cx}
theorem bin {a b:Expr}{ta tb:TE}(ha:PE X a ta)(hb:PE X b tb){pins:List (Addr×Obj)}{s:Shared}{σ:St}{H:Hp}{R:V->V->Hp->Prop}(I:Inv X pins σ H s)(h:ta σ H λx H1=>tb σ H1 λy H2=>R x y H2)
  {α:Type}{Q:α->Shared->Prop}{f:Value->Value->Sem α}
  (hf:∀ v u s2 x y H2,Inv X pins σ H2 s2->RelV x v->RelV y u->R x y H2->wpAny (model X.prog X.w) X.A (f v u) Q X.xe s2):
  wpAny (model X.prog X.w) X.A (eval a X.env) (λv s₁=>wpAny (model X.prog X.w) X.A (eval b X.env) (λu s₂=>wpAny (model X.prog X.w) X.A (f v u) Q X.xe s₂) X.xe s₁) X.xe s:=by
 refine thn (ha pins s σ H _ I h) λv s1 ⟨x,H1,I1,r1,q1⟩=>?_
 refine thn (hb pins s1 σ H1 _ I1 q1) λu s2 ⟨y,H2,I2,r2,q2⟩=>?_
 exact hf v u s2 x y H2 I2 r1 r2 q2
def Ea (i:Nat):TE:=λσ H Q=>∃ v,σ[i]? = some (some v)/\Q v H
def tC (v:V):TE:=λ_ H Q=>Q v H
theorem CF {i:Nat}{x:Str}{pos:Pos}(hN:X.N[i]? = some x)(hv:Vis X.env.scope x)(hd:(x==("__debug__" :Str))=false:=by decide)(hcd:(x==("__classdict__" :Str))=false:=by decide):PE X (.Name x pos) (Ea i):=by
 intro pins s σ H Q I h
 obtain⟨v,e,h⟩:=h
 obtain⟨m,hn,hl⟩:=I.loc
 obtain⟨u,r,l⟩:=hl i x v hN e hv
 have fin:EP X pins σ Q u s:=⟨v,H,I,r,h⟩
 rcases l with⟨hk,hm⟩|⟨hk,c,hc,xo⟩
 ·exact wpAny_Name (wpAny_loadName_local I.ok.kind hk hn hm fin) hd
 ·rcases hk with hk |hk
  ·exact wpAny_Name (wpAny_loadName_cell I.ok.kind hk hc xo fin) hd
  ·exact wpAny_Name (wpAny_loadName_free I.ok.kind hk hc xo fin hcd) hd
theorem fg {i j pos} :PE X (.Constant (.int i) j pos) (tC (.int i)):=λ_ _ _ H _ I h=>wpAny_Constant_int ⟨.int i,H,I.tok _,⟨_,rfl⟩,h⟩
theorem rZ {b j pos} :PE X (.Constant (.bool b) j pos) (tC (.bl b)):=λ_ _ _ H _ I h=>Constant_bool ⟨.bl b,H,I,rfl,h⟩
theorem nC {j pos} :PE X (.Constant .none j pos) (tC .non):=λ_ _ _ H _ I h=>Constant_none ⟨.non,H,I,rfl,h⟩
theorem iE {x j pos} :PE X (.Constant (.str x) j pos) (tC (.str x)):=λ_ _ _ H _ I h=>Calls.Constant_str ⟨.str x,H,I.tok _,⟨_,rfl⟩,h⟩
def Gl (X:Cx)(x:Str):Prop:=X.env.kindOf x=some .globalImplicit
theorem mU {E:Value->Shared->Prop}{pins:List (Addr×Obj)}{s:Shared}{σ:St}{H:Hp}{x:Str}{u:Value}{pos:Pos}{Q:Value->Shared->Prop}(I:Inv X pins σ H s)(hg:Gl X x)(hm:X.mg x=some u)(h:Q u s)
  (hd:(x==("__debug__" :Str))=false:=by decide):wpAny (model X.prog X.w) X.A (eval (.Name x pos) X.env) Q E s:=
 Calls.Name_function_global I.ok.kind hg (Calls.loadGlobal_global (by rw[I.ok.glob];exact I.mod.glob.keeps I.bk) hm h) hd
theorem lT {E:Value->Shared->Prop}{pins:List (Addr×Obj)}{s:Shared}{σ:St}{H:Hp}{x:Str}{u:Value}{pos:Pos}{Q:Value->Shared->Prop}(I:Inv X pins σ H s)(hg:Gl X x)(hm:X.mg x=none)(hv:bootBuiltins x=some u)(h:Q u s)
  (hn:x≠ "__name__" :=by decide) (hd:(x==("__debug__" :Str))=false:=by decide):wpAny (model X.prog X.w) X.A (eval (.Name x pos) X.env) Q E s:=by
 obtain⟨mb,h1,h2⟩:=I.mod.blt
 exact Calls.Name_function_global I.ok.kind hg (Calls.loadGlobal_builtin (by rw[I.ok.glob];exact I.mod.glob.keeps I.bk) hm (by rw[I.ok.blt];exact h1.keeps I.bk) ((h2 x hn).trans hv) h) hd
theorem jr {x:Str}{v:V}{u:Value}{pos:Pos}(hg:Gl X x)(hm:X.mg x=some u)(r:RelV v u)(hd:(x==("__debug__" :Str))=false:=by decide):PE X (.Name x pos) (tC v):=
 λ_ _ _ H _ I h=>mU I hg hm ⟨v,H,I,r,h⟩ hd
theorem pQ {x:Str}{v:V}{u:Value}{pos:Pos}(hg:Gl X x)(hm:X.mg x=none)(hv:bootBuiltins x=some u)(r:RelV v u)(hn:x≠ "__name__" :=by decide)(hd:(x==("__debug__" :Str))=false:=by decide):PE X (.Name x pos) (tC v):=
 λ_ _ _ H _ I h=>lT I hg hm hv ⟨v,H,I,r,h⟩ hn hd
def t2I (ta tb:TE)(k:Int->Int->Hp->Prop):St->Hp->Prop:=λσ H=>ta σ H λx H1=>tb σ H1 λy H2=>∃ i j,x = .int i/\y = .int j/\k i j H2
variable {a b:Expr}{ta tb:TE}{pos:Pos}
def PC (X:Cx)(op:CmpOp)(a b:Expr)(t:TE):Prop:=
 ∀ (pins:List (Addr×Obj)) (s:Shared) (σ:St) (H:Hp) (Q:VK),Inv X pins σ H s->t σ H Q->
  wpAny (model X.prog X.w) X.A (eval a X.env) (λv s₁=>wpAny (model X.prog X.w) X.A (eval b X.env) (λu s₂=>wpAny (model X.prog X.w) X.A (compareOp op v u) (EP X pins σ Q) X.xe s₂) X.xe s₁) X.xe s
theorem zE (b:Expr){op:CmpOp}(h:op≠ .In)(h2:op≠ .NotIn):behindInMarks op b=false:=by
 have e1:(op==CmpOp.In)=false:=by cases op<;>first |rfl |exact absurd rfl h
 have e2:(op==CmpOp.NotIn)=false:=by cases op<;>first |rfl |exact absurd rfl h2
 cases b<;>simp[behindInMarks,e1,e2]
def vM (p:Int->Int->Bool)(ta tb:TE):TE:=λσ H Q=>t2I ta tb (λi j H2=>Q (.bl (p i j)) H2) σ H
abbrev tLt:TE->TE->TE:=vM λi j=>decide (i<j)
abbrev tLe:TE->TE->TE:=vM λi j=>decide (i<=j)
abbrev tGt:TE->TE->TE:=vM λi j=>decide (j<i)
abbrev tGe:TE->TE->TE:=vM λi j=>decide (j<=i)
abbrev FY:TE->TE->TE:=vM λi j=>decide (i=j)
abbrev FQ:TE->TE->TE:=vM λi j=> !decide (i=j)
theorem qt {op:CmpOp}{p:Int->Int->Bool}(ha:PE X a ta)(hb:PE X b tb)
  (rule:∀ (i j:Int) (t u:Tok) (Q:Value->Shared->Prop) (s:Shared),Q (.bool (p i j)) s->wpAny (model X.prog X.w) X.A (compareOp op (.int i t) (.int j u)) Q X.xe s):PC X op a b (vM p ta tb):=by
 intro pins s σ H Q I h
 refine bin ha hb I h λv u s2 x y H2 I2 rx ry q=>?_
 obtain⟨i,j,rfl,rfl,q⟩:=q
 obtain⟨t,rfl⟩:=rx
 obtain⟨t',rfl⟩:=ry
 exact rule i j t t' _ s2 ⟨.bl _,H2,I2,rfl,q⟩
theorem uJ (ha:PE X a ta)(hb:PE X b tb):PC X .Lt a b (tLt ta tb):=qt ha hb λ_ _ _ _ _ _ h=>lt_int h
theorem Eu (ha:PE X a ta)(hb:PE X b tb):PC X .Gt a b (tGt ta tb):=qt ha hb λ_ _ _ _ _ _ h=>gt_int h
theorem Ew (ha:PE X a ta)(hb:PE X b tb):PC X .GtE a b (tGe ta tb):=qt ha hb λ_ _ _ _ _ _ h=>ge_int h
theorem j8 (ha:PE X a ta)(hb:PE X b tb):PC X .Eq a b (FY ta tb):=qt ha hb λ_ _ _ _ _ _ h=>eq_int (by rw[Bool.beq_eq_decide_eq];exact h)
theorem CI (ha:PE X a ta)(hb:PE X b tb):PC X .NotEq a b (FQ ta tb):=qt ha hb λ_ _ _ _ _ _ h=>ne_int (by rw[bne,Bool.beq_eq_decide_eq];exact h)
def FU (ta:TE):TE:=λσ H Q=>ta σ H λx H1=>Q (.bl (decide (x = .non))) H1
def Ed (ta:TE):TE:=λσ H Q=>ta σ H λx H1=>Q (.bl (!decide (x = .non))) H1
theorem RelV.uR {x:V}{v:Value}(r:RelV x v):(v==Value.none)=decide (x = .non):=by
 cases x with
 |non=>cases r;rfl
 |bl _=>cases r;rfl
 |int _=>obtain⟨t,rfl⟩:=r;rfl
 |str _=>obtain⟨t,rfl⟩:=r;rfl
 |byt _=>obtain⟨t,rfl⟩:=r;rfl
 |flt _=>obtain⟨t,rfl⟩:=r;rfl
 |ref _=>cases r;rfl
 |ty _=>cases r;rfl
theorem zr {j pos'}(ha:PE X a ta):PC X .Is a (.Constant .none j pos') (FU ta):=by
 intro pins s σ H Q I h
 refine thn (ha pins s σ H _ I h) λv s1 ⟨x,H1,I1,r1,q1⟩=>?_
 exact Constant_none (is_none_gen ⟨.bl _,H1,I1,by rw[r1.uR];rfl,q1⟩)
theorem pR {j pos'}(ha:PE X a ta):PC X .IsNot a (.Constant .none j pos') (Ed ta):=by
 intro pins s σ H Q I h
 refine thn (ha pins s σ H _ I h) λv s1 ⟨x,H1,I1,r1,q1⟩=>?_
 exact Constant_none (isnot_none_gen ⟨.bl _,H1,I1,by rw[r1.uR];rfl,q1⟩)
def tB (t:TE):TT:=λσ H Q=>t σ H λx H1=>∃ c,x = .bl c/\Q c H1
theorem fX {op:CmpOp}{t:TE}(h:PC X op a b t)(h1:behindInMarks op b=false:=by first |exact zE _ (by decide) (by decide)|rfl):PT X (.Compare a [op] [b] pos) (tB t):=by
 intro pins s σ H Q I hw
 refine wpAny_isTrue_Compare1 (thn (h pins s σ H _ I hw) λv s1 h1=>thn h1 λu s2 h2=>thn h2 λc s3 ⟨x,H1,I1,r1,q1⟩=>?_) h1
 obtain⟨d,rfl,q⟩:=q1
 cases r1
 exact dW ⟨H1,I1,q⟩
theorem tj {e:Expr}{t:TE}(h:PE X e t)(he:∀ whole,isTrue e X.env whole=(do let v <-whole;standAt e.pos;holding [v] (truthy v)):=by intro _;rfl):PT X e (tB t):=by
 intro pins s σ H Q I hw
 refine isTrue_plain (thn (h pins s σ H _ I hw) λv s1 ⟨x,H1,I1,r1,q1⟩=>?_) (he _)
 obtain⟨d,rfl,q⟩:=q1
 cases r1
 exact dW ⟨H1,I1,q⟩
variable {tA tB':TT}{rest:List Expr}
def F1 (t u:TT):TT:=λσ H Q=>t σ H λc H1=>if c=true then u σ H1 Q else Q false H1
def tOr (t u:TT):TT:=λσ H Q=>t σ H λc H1=>if c=true then Q true H1 else u σ H1 Q
def FN (t:TT):TT:=λσ H Q=>t σ H λc H1=>Q (!c) H1
theorem w5 (ha:PT X a tA):PW X (.BoolOp .And [a] pos) tA:=by
 intro wh pins s σ H Q I h
 refine isTrue_and (thn (ha pins s σ H Q I h) λc s1 e=>?_)
 cases c with
 |true=>exact isTrue_and_nil e
 |false=>exact e
theorem zc (ha:PT X a tA):PW X (.BoolOp .Or [a] pos) tA:=by
 intro wh pins s σ H Q I h
 refine isTrue_or (thn (ha pins s σ H Q I h) λc s1 e=>?_)
 cases c with
 |false=>exact isTrue_or_nil e
 |true=>exact e
theorem vR (ha:PT X a tA)(hb:PW X (.BoolOp .And (b::rest) pos) tB'):PW X (.BoolOp .And (a::b::rest) pos) (F1 tA tB'):=by
 intro wh pins s σ H Q I h
 refine isTrue_and (thn (ha pins s σ H _ I h) λc s1 ⟨H1,I1,q1⟩=>?_)
 cases c with
 |true=>exact hb wh pins s1 σ H1 Q I1 q1
 |false=>exact⟨H1,I1,q1⟩
theorem BS (ha:PT X a tA)(hb:PW X (.BoolOp .Or (b::rest) pos) tB'):PW X (.BoolOp .Or (a::b::rest) pos) (tOr tA tB'):=by
 intro wh pins s σ H Q I h
 refine isTrue_or (thn (ha pins s σ H _ I h) λc s1 ⟨H1,I1,q1⟩=>?_)
 cases c with
 |true=>exact⟨H1,I1,q1⟩
 |false=>exact hb wh pins s1 σ H1 Q I1 q1
theorem zg (ha:PT X a tA):PT X (.UnaryOp .Not a pos) (FN tA):=by
 intro pins s σ H Q I h
 exact isTrue_not (ha pins s σ H (λc H1=>Q (!c) H1) I h)
end
def SqL (K:PySem.W.Frag)(H:Hp)(a:Addr)(xs:List V):Prop:=
 Rd H a (.lst xs)\/
  ∃ (o:Obj) (its:Array Value) (n:Nat),K.lookup a=some o/\o.cls = .type "list" /\o.dict=none/\o.data = .seq its n/\its.size<=sizeLine/\Vals xs its.toList
def SqT (K:PySem.W.Frag)(H:Hp)(a:Addr)(xs:List V):Prop:=
 Rd H a (.tup xs)\/
  ∃ (o:Obj) (its:Array Value) (n:Nat),K.lookup a=some o/\o.cls = .type "tuple" /\o.data = .seq its n/\its.size<=sizeLine/\Vals xs its.toList
def KL:Value->Option V
 |.none=>some .non
 |.bool b=>some (.bl b)
 |.int i _=>some (.int i)
 |.str x _=>some (.str x)
 |.bytes b _=>some (.byt b)
 |.float b _=>some (.flt b)
 |.ref a=>some (.ref a)
 |.type n=>some (.ty n)
 |_=>none
theorem RelV.abs {x:V}{u:Value}(r:RelV x u):KL u=some x:=by
 cases x with
 |non=>cases r;rfl
 |bl _=>cases r;rfl
 |int _=>obtain⟨t,rfl⟩:=r;rfl
 |str _=>obtain⟨t,rfl⟩:=r;rfl
 |byt _=>obtain⟨t,rfl⟩:=r;rfl
 |flt _=>obtain⟨t,rfl⟩:=r;rfl
 |ref _=>cases r;rfl
 |ty _=>cases r;rfl
theorem RelV.inj {x y:V}{u:Value}(r:RelV x u)(q:RelV y u):x=y:=bx (r.abs.symm.trans q.abs)
theorem Vals.inj:∀ {xs ys:List V}{us:List Value},Vals xs us->Vals ys us->xs=ys
 |_,_,_,.nil,.nil=>rfl
 |_,_,_,.cons r t,.cons r' t'=>by rw[r.inj r',Vals.inj t t']
section
variable {X:Cx}{pins:List (Addr×Obj)}{σ:St}{H:Hp}{s:Shared}{a:Addr}{xs ys:List V}
theorem SqL.of {K:PySem.W.Frag}(h:H a=some (.lst xs)):SqL K H a xs:=.inl (.inl h)
theorem SqT.of {K:PySem.W.Frag}(h:H a=some (.tup xs)):SqT K H a xs:=.inl (.inl h)
theorem Inv.list (I:Inv X pins σ H s)(h:SqL X.K H a xs):∃ its:List Value,Vals xs its/\PlainL s.heap a its.toArray/\xs.length<=sizeLine:=by
 rcases h with h |⟨o,its,n,hk,hc,hd,hs,hz,r⟩
 ·obtain⟨z,its,n,r,e⟩:=h.ok I.hok
  exact⟨its,r,⟨_,n,e,rfl,rfl,rfl⟩,z⟩
 ·refine⟨its.toList,r,⟨o,n,I.kIn a o hk,hc,hd,by simpa using hs⟩,?_⟩
  have e:=r.length
  simp only[aw]at e
  omega
theorem Inv.tuple (I:Inv X pins σ H s)(h:SqT X.K H a xs):∃ its:List Value,Vals xs its/\IsTup s.heap a its.toArray/\xs.length<=sizeLine:=by
 rcases h with h |⟨o,its,n,hk,hc,hs,hz,r⟩
 ·obtain⟨z,its,r,p⟩:=h.ok I.hok
  exact⟨its,r,p,z⟩
 ·refine⟨its.toList,r,⟨o,I.kIn a o hk,hc,n,by simpa using hs⟩,?_⟩
  have e:=r.length
  simp only[aw]at e
  omega
theorem Inv.oa (I:Inv X pins σ H s)(h:SqL X.K H a xs)(h':SqL X.K H a ys):xs=ys:=by
 obtain⟨its,r,⟨o,n,e,_,_,d⟩,_⟩:=I.list h
 obtain⟨its',r',⟨o',n',e',_,_,d'⟩,_⟩:=I.list h'
 rw[e]at e';cases e'
 rw[d]at d'
 injection d' with d1 _
 have:its=its':=by simpa using cB Array.toList d1
 subst this
 exact r.inj r'
end
abbrev Cx.pY (X:Cx)(E:Value->Shared->Prop):Cx:={X with xe:=E}
abbrev Cx.nox (X:Cx):Cx:=X.pY λ_ _=>False
theorem Cx.Ok.pY {X:Cx}(ok:X.Ok)(E:Value->Shared->Prop):(X.pY E).Ok:=
 ⟨ok.mod,ok.kind,ok.glob,ok.blt,ok.above,ok.inj,ok.has,ok.cab,ok.hd,ok.frames,ok.stk,ok.exf,ok.bs,ok.bsz,ok.v7,ok.yu,ok.oQ,ok.frf⟩
theorem Cx.Ok.lK {X:Cx}{E:Value->Shared->Prop}(ok:(X.pY E).Ok):X.Ok:=
 ⟨ok.mod,ok.kind,ok.glob,ok.blt,ok.above,ok.inj,ok.has,ok.cab,ok.hd,ok.frames,ok.stk,ok.exf,ok.bs,ok.bsz,ok.v7,ok.yu,ok.oQ,ok.frf⟩
section
variable {X:Cx}{pins:List (Addr×Obj)}{σ:St}{H:Hp}{s:Shared}{E:Value->Shared->Prop}
theorem Inv.pY (I:Inv X pins σ H s)(E:Value->Shared->Prop):Inv (X.pY E) pins σ H s:=⟨I.ok.pY E,I.os,I.bare,I.base,I.loc,I.cell,I.free,I.iU,I.pin,I.hok,I.len⟩
theorem Inv.lK (I:Inv (X.pY E) pins σ H s):Inv X pins σ H s:=⟨I.ok.lK,I.os,I.bare,I.base,I.loc,I.cell,I.free,I.iU,I.pin,I.hok,I.len⟩
theorem SP.lK {D:Ends}{f:Flow}{s':Shared}(h:SP (X.pY E) pins D f s'):SP X pins D f s':=by
 cases f with
 |next=>obtain⟨σ',H',I,q⟩:=h;exact⟨σ',H',I.lK,q⟩
 |brk=>obtain⟨σ',H',I,q⟩:=h;exact⟨σ',H',I.lK,q⟩
 |cont=>obtain⟨σ',H',I,q⟩:=h;exact⟨σ',H',I.lK,q⟩
 |ret u=>obtain⟨v,σ',H',I,r,q⟩:=h;exact⟨v,σ',H',I.lK,r,q⟩
theorem PSs.nox {st:List Stmt}{t:TS}(h:PSs X.nox st t):PSs X st t:=λpins s σ H D I hw=>
 bR (h pins s σ H D (I.pY _) hw) (λ_ _ q=>q.lK) λ_ _ z=>False.elim z
end
section
variable {X:Cx}{st:Stmt}{rest:List Stmt}{t u:TS}{e:Expr}{te:TE}{pos:Pos}
def Ee:TS:=λD σ H=>D.nx σ H
def pD (t u:TS):TS:=λD σ H=>t {D with nx:=u D} σ H
theorem fP:PSs X [] Ee:=λ_ _ σ H _ I h=>eF ⟨σ,H,I,h⟩
theorem eZ (h1:PS X st t)(h2:PSs X rest u):PSs X (st::rest) (pD t u):=by
 intro pins s σ H D I h
 refine wpAny_execs_cons (thn (h1 pins s σ H {D with nx:=u D} I h) λf s1 q=>?_)
 cases f with
 |next=>
  obtain⟨σ',H',I',q⟩:=q
  exact h2 pins s1 σ' H' D I' q
 |ret v=>exact q
 |brk=>exact q
 |cont=>exact q
theorem fh (h1:PS X st t):PSs X [st] t:=by
 intro pins s σ H D I h
 refine wpAny_execs_cons (thn (h1 pins s σ H D I h) λf s1 q=>?_)
 cases f with
 |next=>exact eF q
 |ret v=>exact q
 |brk=>exact q
 |cont=>exact q
theorem Inv.quiet {pins:List (Addr×Obj)}{σ:St}{H:Hp}{s:Shared}(I:Inv X pins σ H s):interactive X.env=false:=by simp[interactive,I.ok.kind]
def Ef (te:TE):TS:=λD σ H=>te σ H λ_ H1=>D.nx σ H1
theorem gX (he:PE X e te)(hs:swapsWith e none pos.line X.env=pure false:=by rfl):PS X (.Expr e pos) (Ef te):=by
 intro pins s σ H D I h
 exact wpAny_Expr_any (thn (he pins s σ H _ I h) λv s1 ⟨x,H1,I1,r1,q1⟩=>⟨σ,H1,I1,q1⟩) I.quiet hs
def FL (te:TE):TS:=λD σ H=>te σ H D.rt
theorem fI (he:PE X e te):PS X (.Return (some e) pos) (FL te):=by
 intro pins s σ H D I h
 exact wpAny_Return_some (thn (he pins s σ H _ I h) λv s1 ⟨x,H1,I1,r1,q1⟩=>⟨x,σ,H1,I1,r1,q1⟩)
def FV (c:TT)(t u:TS):TS:=λD σ H=>c σ H λb H1=>if b=true then t D σ H1 else u D σ H1
theorem gO {c:Expr}{a b:List Stmt}{tc:TT}(hc:PT X c tc)(ha:PSs X a t)(hb:PSs X b u):PS X (.If c a b pos) (FV tc t u):=by
 intro pins s σ H D I h
 refine wpAny_If (thn (hc pins s σ H _ I h) λd s1 ⟨H1,I1,q1⟩=>?_)
 cases d with
 |true=>exact ha pins s1 σ H1 D I1 q1
 |false=>exact hb pins s1 σ H1 D I1 q1
end
abbrev TG:=V->St->Hp->(St->Hp->Prop)->Prop
abbrev TGs:=List V->St->Hp->(St->Hp->Prop)->Prop
def PG (X:Cx)(target:Expr)(t:TG):Prop:=
 ∀ (pins:List (Addr×Obj)) (s:Shared) (σ:St) (H:Hp) (v:V) (u:Value) (Q:St->Hp->Prop),Inv X pins σ H s->RelV v u->t v σ H Q->
  wpAny (model X.prog X.w) X.A (assign target X.env u) (λ_ s'=>∃ σ' H',Inv X pins σ' H' s'/\Q σ' H') X.xe s
def PGs (X:Cx)(ts:List Expr)(t:TGs):Prop:=
 ∀ (pins:List (Addr×Obj)) (s:Shared) (σ:St) (H:Hp) (vs:List V) (us:List Value) (Q:St->Hp->Prop),Inv X pins σ H s->Vals vs us->t vs σ H Q->
  wpAny (model X.prog X.w) X.A (assignInOrder ((assignEach ts X.env).map (·.2)) us) (λ_ s'=>∃ σ' H',Inv X pins σ' H' s'/\Q σ' H') X.xe s
abbrev K5:=V->V->V->Hp->(Hp->Prop)->Prop
abbrev TIp:=V->V->Hp->VK->Prop
def PIp (X:Cx)(op:Operator)(t:TIp):Prop:=
 ∀ (pins:List (Addr×Obj)) (s:Shared) (σ:St) (H:Hp) (x y:V) (v u:Value) (Q:VK),Inv X pins σ H s->RelV x v->RelV y u->t x y H Q->
  wpAny (model X.prog X.w) X.A (inplaceOp op v u) (EP X pins σ Q) X.xe s
section
variable {X:Cx}{pos:Pos}
def ni (i:Nat):TG:=λv σ H Q=>Q (σ.set i (some v)) H
theorem fm {i:Nat}{x:Str}(hN:X.N.Nodup)(hi:X.N[i]? = some x)(hx:Loc X.env.scope x)(hf:X.fn x=true\/X.env.scope.names.lookup x=some .local:=by first |exact .inl rfl |exact .inr rfl |assumption):PG X (.Name x pos) (ni i):=by
 intro pins s σ H v u Q I r h
 exact wpAny_assign_Name (nO I hN hi hx r (λs' I'=>⟨_,H,I',h⟩) hf)
def Ff:TGs:=λvs σ H Q=>vs = []/\Q σ H
def B3 (t:TG)(u:TGs):TGs:=λvs σ H Q=>∃ v r,vs=v::r/\t v σ H λσ' H'=>u r σ' H' Q
theorem iB:PGs X [] Ff:=by
 intro pins s σ H vs us Q I r h
 obtain⟨e,h⟩:=h
 subst e
 cases r
 exact assignInOrder_nil ⟨σ,H,I,h⟩
theorem fN {e:Expr}{es:List Expr}{t:TG}{u:TGs}(h1:PG X e t)(h2:PGs X es u)
  (hs:(assignEach (e::es) X.env).map (·.2)=assign e X.env::(assignEach es X.env).map (·.2):=by rfl):PGs X (e::es) (B3 t u):=by
 intro pins s σ H vs us Q I r h
 obtain⟨v,vr,e1,h⟩:=h
 subst e1
 cases r with
 |cons r rr=>
  rw[hs]
  refine assignInOrder_cons (thn (h1 pins s σ H _ _ _ I r h) λ_ s1 ⟨σ1,H1,I1,q1⟩=>?_)
  exact h2 pins s1 σ1 H1 _ _ Q I1 rr q1
def Fe (K:PySem.W.Frag)(n:Nat)(t:TGs):TG:=λv σ H Q=>∃ a xs,v = .ref a/\SqT K H a xs/\xs.length=n/\t xs σ H Q
theorem jD {es:List Expr}{k:Nat}{t:TGs}{n:Nat}(hc:X.calm=true)(h:PGs X es t)
  (hn:(assignEach es X.env).length=n:=by rfl) (hst:(assignEach es X.env).findIdx? (·.1)=none:=by rfl):PG X (.Tuple es k pos) (Fe X.K n t):=by
 intro pins s σ H v u Q I r hw
 obtain⟨a,xs,e1,hq,hl,hw⟩:=hw
 subst e1
 cases r
 obtain⟨its,rv,ht,hz⟩:=I.tuple hq
 refine assign_Tuple_tuple (I.ok.hd hc) ht (by simp[hn,<-hl,rv.length]) hst λh' hx=>?_
 have I1:Inv X pins σ H {s with heap:=h'} :=I.kept (t':=s.toks) λb o e=>hx b o (bo (aK e)) e
 exact h pins _ σ H xs _ Q I1 (by simpa using rv) hw
def Cp (te:TE)(g:TG):TS:=λD σ H=>te σ H λx H1=>g x σ H1 D.nx
theorem zh {tg e:Expr}{te:TE}{g:TG}(he:PE X e te)(hg:PG X tg g)(hs:swapsWithSole [tg] e pos.line X.env=pure false:=by rfl)(hw:swappedStores [tg] e X.env=pure none:=by rfl)
  (h1:(assignEach [tg] X.env).map (·.2) = [assign tg X.env]:=by rfl):PS X (.Assign [tg] e pos) (Cp te g):=by
 intro pins s σ H D I h
 refine wpAny_Assign_stores (thn (he pins s σ H _ I h) λv s1 ⟨x,H1,I1,r1,q1⟩=>?_) hs hw
 rw[h1]
 exact thn (hg pins s1 σ H1 x v _ I1 r1 q1) λ_ s2 q=>q
theorem fw {i:Nat}{x:Str}{e:Expr}{te:TE}{pos':Pos}(hN:X.N.Nodup)(hi:X.N[i]? = some x)(hx:Loc X.env.scope x)(he:PE X e te)(hs:swapsWith e (some (.Name x pos')) pos.line X.env=pure false:=by rfl)(hf:X.fn x=true\/X.env.scope.names.lookup x=some .local:=by first |exact .inl rfl |exact .inr rfl |assumption):
  PS X (.Assign [.Name x pos'] e pos) (Cp te (ni i)):=by
 intro pins s σ H D I h
 refine wpAny_Assign_Name (thn (he pins s σ H _ I h) λv s1 ⟨y,H1,I1,r1,q1⟩=>?_) hs
 exact nO I1 hN hi hx r1 (λs2 I2=>⟨_,H1,I2,q1⟩) hf
def F0 (i:Nat)(te:TE)(ti:TIp):TS:=λD σ H=>∃ x,σ[i]? = some (some x)/\te σ H λy H1=>ti x y H1 λz H2=>D.nx (σ.set i (some z)) H2
theorem CD {i:Nat}{x:Str}{e:Expr}{te:TE}{op:Operator}{ti:TIp}{pos':Pos}(hN:X.N.Nodup)(hi:X.N[i]? = some x)(hx:Loc X.env.scope x)(he:PE X e te)(ho:PIp X op ti)(hf:X.fn x=true\/X.env.scope.names.lookup x=some .local:=by first |exact .inl rfl |exact .inr rfl |assumption):
  PS X (.AugAssign (.Name x pos') op e pos) (F0 i te ti):=by
 intro pins s σ H D I h
 obtain⟨v,e1,h⟩:=h
 obtain⟨m,hn,hl⟩:=I.loc
 have vis:Vis X.env.scope x:=by rcases hx with k |k;exact .inl k;exact .inr (.inl k)
 obtain⟨u,r,l⟩:=hl i x v hi e1 vis
 refine wpAny_AugAssign_Name ?_
 have go:wpAny (model X.prog X.w) X.A (eval e X.env) (λw s₂=>wpAny (model X.prog X.w) X.A (inplaceOp op u w) (λr s₃=>wpAny (model X.prog X.w) X.A (storeName X.env x r) (λ_=>SP X pins D .next) X.xe s₃) X.xe s₂) X.xe s:=by
  refine thn (he pins s σ H _ I h) λw s1 ⟨y,H1,I1,r1,q1⟩=>?_
  refine thn (ho pins s1 σ H1 v y u w _ I1 r r1 q1) λz s2 ⟨zv,H2,I2,r2,q2⟩=>?_
  exact nO I2 hN hi hx r2 (λs3 I3=>⟨_,H2,I3,q2⟩) hf
 rcases l with⟨hk,hm⟩|⟨hk,c,hc,xo⟩
 ·exact wpAny_loadName_local I.ok.kind hk hn hm go
 ·rcases hk with hk |hk
  ·exact wpAny_loadName_cell I.ok.kind hk hc xo go
  ·rcases hx with k |k
   ·have:X.env.scope.names.lookup x=some .free:=hk
    rw[k]at this;cases this
   ·have:X.env.scope.names.lookup x=some .free:=hk
    rw[k]at this;cases this
def ipI (f:Int->Int->Int):TIp:=λx y H Q=>∃ i j,x = .int i/\y = .int j/\Q (.int (f i j)) H
theorem Dc:PIp X .Add (ipI λi j=>i+j):=by
 intro pins s σ H x y v u Q I r1 r2 h
 obtain⟨i,j,e1,e2,q⟩:=h
 subst e1;subst e2
 obtain⟨t,rfl⟩:=r1
 obtain⟨t',rfl⟩:=r2
 exact iadd_int ⟨.int _,H,I.tok _,⟨_,rfl⟩,q⟩
end
section
variable {X:Cx}{pos:Pos}
def oC (c:TT)(tb:TS):TS:=λD σ H=>∃ W:Nat->St->Hp->Prop,(∃ m,W m σ H)/\∀ m σ H,W m σ H->
 c σ H λb H1=>if b=true then ∃ N:St->Hp->Prop,(∀ σ' H',N σ' H'->∃ m',m'<m/\W m' σ' H')/\tb {D with nx:=N,ct:=N,bk:=D.nx} σ H1 else D.nx σ H1
theorem nV {c:Expr}{body:List Stmt}{tc:TT}{tb:TS}(hp:PassesOwn (model X.prog X.w) X.A X.env X.xe)(hc:PT X c tc)(hb:PSs X body tb):PS X (.While c body [] pos) (oC tc tb):=by
 intro pins s σ H D I h
 obtain⟨W,⟨m0,w0⟩,turn⟩:=h
 refine wpAny_While (codeAny_whileLoop (λn s'=>∃ σ' H',Inv X pins σ' H' s'/\W n σ' H') ?_ m0 ⟨σ,H,I,w0⟩)
 rintro n s1 ⟨σ1,H1,I1,w1⟩
 refine cU hp (thn (hc pins s1 σ1 H1 _ I1 (turn n σ1 H1 w1)) λb s2 ⟨H2,I2,q2⟩=>?_)
 cases b with
 |true=>
  obtain⟨N,hN,q2⟩:=q2
  rw[aD rfl]
  refine cU hp (thn (hb pins s2 σ1 H2 _ I2 q2) λf s3 q3=>?_)
  cases f with
  |next=>
   obtain⟨σ3,H3,I3,n3⟩:=q3
   obtain⟨m',hm,w3⟩:=hN σ3 H3 n3
   exact⟨m',hm,σ3,H3,I3,w3⟩
  |cont=>
   obtain⟨σ3,H3,I3,n3⟩:=q3
   obtain⟨m',hm,w3⟩:=hN σ3 H3 n3
   exact⟨m',hm,σ3,H3,I3,w3⟩
  |brk=>exact q3
  |ret v=>exact q3
 |false=>
  rw[au aU]
  exact eF ⟨σ1,H2,I2,q2⟩
end
structure It where
 go:Nat->Hp->Prop
 yld:Nat->Hp->V->Hp->Prop
 stop:Nat->Hp->Prop
def pK (X:Cx)(pins:List (Addr×Obj))(H:Hp)(b:Addr):Prop:=
 H b=none/\b≠X.env.locals/\b∉X.fs/\(b∈X.ex\/X.s₀.heap.objs.size<=b)/\(∀ x c,X.env.cells.lookup x=some c->c≠b)/\∀ p∈X.pn++pins,p.1≠b
theorem Inv.yr {X:Cx}{pins:List (Addr×Obj)}{σ:St}{H H':Hp}{s:Shared}{b:Addr}(I:Inv X pins σ H s)(hb:s.heap.objs.size<=b)(hn:H' b=none):pK X pins H' b:=by
 refine⟨hn,Nat.ne_of_gt (aT I.lt hb),I.HY hb,.inr (bF I.sz hb),λx c e z=>?_,λp hp z=>?_⟩
 ·obtain⟨v,q⟩:=I.cell x c e
  exact absurd (aT q.lt (by rw[z];exact hb)) (cR _)
 ·exact absurd (aT (aK (I.pin p hp).1) (by rw[z];exact hb)) (cR _)
structure Turn (P:Program)(w:World)(K:PySem.W.Frag)(tg:Expr)(J:It)(fp:List Addr)(it:Addr)(tn:Nat->Heap->Prop):Prop where
 mem:it∈fp
 obj:∀ i h,tn i h->∀ b∈fp,∃ o,h.get? b=some o/\∀ v,o.data≠ .cell v
 keep:∀ i h h',tn i h->(∀ b∈fp,∀ o,h.get? b=some o->h'.get? b=some o)->tn i h'
 item:∀ (X:Cx),X.prog=P->X.w=w->X.K=K->X.calm=true->∀ (i:Nat) (pins:List (Addr×Obj)) (s:Shared) (σ:St) (H:Hp) (E:Value->Shared->Prop),Inv X pins σ H s->(∀ b∈fp,pK X pins H b)->tn i s.heap->J.go i H->
  wpAny (model P w) X.A (pyNext (.ref it)) (λr s1=>∃ u,r=some u/\
   wpAny (model P w) X.A (letOwnedTupleGo tg (.ref it) u) (λ_ s2=>∃ x H',Inv X pins σ H' s2/\RelV x u/\J.yld i H x H'/\tn (i+1) s2.heap/\∀ b∈fp,H' b=none) E s1) E s
 done:∀ (X:Cx),X.prog=P->X.w=w->X.K=K->X.calm=true->∀ (i:Nat) (pins:List (Addr×Obj)) (s:Shared) (σ:St) (H:Hp) (E:Value->Shared->Prop),Inv X pins σ H s->(∀ b∈fp,pK X pins H b)->tn i s.heap->J.stop i H->
  wpAny (model P w) X.A (pyNext (.ref it)) (λr s1=>r=none/\Inv X pins σ H s1) E s
 self:∀ (A:Around) (i:Nat) (s:Shared) (Q:Value->Shared->Prop) (E:Value->Shared->Prop),tn i s.heap->Q (.ref it) s->wpAny (model P w) A (pyIter (.ref it)) Q E s
abbrev TI:=St->Hp->(It->Hp->Prop)->Prop
def PIE (X:Cx)(pins:List (Addr×Obj))(σ:St)(tg:Expr)(R:It->Hp->Prop)(itv:Value)(s2:Shared):Prop:=
 ∃ (it:Addr) (fp:List Addr) (tn:Nat->Heap->Prop) (J:It) (H':Hp),itv = .ref it/\Inv X pins σ H' s2/\Turn X.prog X.w X.K tg J fp it tn/\tn 0 s2.heap/\(∀ b∈fp,pK X pins H' b)/\R J H'
def PI (X:Cx)(tg iter:Expr)(wi:TI):Prop:=
 ∀ (pins:List (Addr×Obj)) (s:Shared) (σ:St) (H:Hp) (R:It->Hp->Prop),Inv X pins σ H s->wi σ H R->
  wpAny (model X.prog X.w) X.A (eval iter X.env) (λv s1=>wpAny (model X.prog X.w) X.A (pyIter v) (PIE X pins σ tg R) X.xe s1) X.xe s
theorem xq {M : Model} {A : Around} {E : Value → Shared → Prop} {s : Shared} {tg : Expr} {it : Addr} {u : Value} {o : Obj} {n : String} {vs : Array Value} {Q : Unit → Shared → Prop} (ho : s.heap.get? it = some o) (hc : o.cls = .type n) (hd : o.data = .fields vs)
    (hn : ["enumerate", "zip", "dict_itemiterator", "dict_reverseitemiterator", "odict_iterator", "itertools.zip_longest", "itertools.pairwise"].contains n = false) (hQ : Q () s) : wpAny M A (letOwnedTupleGo tg (.ref it) u) Q E s := by
  unfold letOwnedTupleGo
  cases tg <;> first
    | exact aB hQ
    | (cases u <;> first
        | exact aB hQ
        | (refine ai (wpAny_load ho ?_)
           rw [hc, hd]
           show wpAny M A (if (["enumerate", "zip", "dict_itemiterator", "dict_reverseitemiterator", "odict_iterator", "itertools.zip_longest", "itertools.pairwise"].contains n && vs[0]? == some (rawInt _)) = true then _ else _) Q E s
           rw [au (by intro h; rw [hn, Bool.false_and] at h; cases h)]
           exact aB hQ))
def Itl (K:PySem.W.Frag)(a:Addr):It:=
 ⟨λi H=>∃ xs x,SqL K H a xs/\xs[i]? = some x,λi H x H'=>H'=H/\∀ xs,SqL K H a xs->xs[i]? = some x,λi H=>∃ xs,SqL K H a xs/\xs.length<=i⟩
def Itr (lo:Int)(n:Nat):It:=⟨λi _=>i<n,λi H x H'=>H'=H/\x = .int (lo+i),λi _=>n<=i⟩
theorem xJ {P:Program}{w:World}{K:PySem.W.Frag}{tg:Expr}(a it:Addr):Turn P w K tg (Itl K a) [it] it (λi h=>h.IsListIter it a i) where
 mem:=by simp
 obj:=λi h st b hb=>by
  have e:b=it:=by simpa using hb
  subst e
  obtain⟨o,e,c,d⟩:=st
  exact⟨o,e,λv z=>by rw[d]at z;cases z⟩
 keep:=λi h h' st k=>st.at λo e=>k it (by simp) o e
 item:=by
  intro X hP hw hK hc i pins s σ H E I hf st hg
  subst hP hw hK
  obtain⟨xs,x,hq,hx⟩:=hg
  obtain⟨its,rv,p,hz⟩:=I.list hq
  obtain⟨u,hu,ru⟩:=rv.get hx
  obtain⟨f0,f1,f2,f3,f4,f5⟩:=hf it (by simp)
  refine wpAny_pyNext_list_item st p.isList (x:=u) (by simpa using hu) λh' st' sb=>?_
  have I1:Inv X pins σ H {s with heap:=h'} :=I.turned (t':=s.toks) (λb o hb e=>(sb.2 b hb).trans e) f0 f1 f3 f4 f5
  obtain⟨o,e,c,d⟩:=id st'
  exact⟨u,rfl,xq (s:={s with heap:=h'}) e c d (by decide) ⟨x,H,I1,ru,⟨rfl,λys hy=>by rw[I.oa hy hq];exact hx⟩,st',λb hb=>(hf b hb).1⟩⟩
 done:=by
  intro X hP hw hK hc i pins s σ H E I hf st hg
  subst hP hw hK
  obtain⟨xs,hq,hx⟩:=hg
  obtain⟨its,rv,p,hz⟩:=I.list hq
  obtain⟨f0,f1,f2,f3,f4,f5⟩:=hf it (by simp)
  have hl:=rv.length
  exact wpAny_pyNext_list_end (I.ok.hd hc) st p.isList (by simp;omega) λh' eb=>⟨rfl,I.turned (t':=s.toks) (λb o hb e=>eb b o hb e) f0 f1 f3 f4 f5⟩
 self:=λ_ _ _ _ _ st h=>wpAny_pyIter_listiter st h
theorem vJ {P:Program}{w:World}{K:PySem.W.Frag}{tg:Expr}(it:Addr)(lo:Int)(n:Nat):Turn P w K tg (Itr lo n) [it] it (λi h=>IsRangeIter h it (lo+(i:Nat)*1) ((n:Int)-(i:Nat)) 1) where
 mem:=by simp
 obj:=λi h st b hb=>by
  have e:b=it:=by simpa using hb
  subst e
  exact⟨_,st,λv z=>by
   have z':Data.fields _=Data.cell v:=z
   cases z'⟩
 keep:=λi h h' st k=>k it (by simp) _ st
 item:=by
  intro X hP hw hK hc i pins s σ H E I hf st hg
  subst hP hw hK
  obtain⟨f0,f1,f2,f3,f4,f5⟩:=hf it (by simp)
  have W:=Walks.range (prog:=X.prog) (w:=X.w) (I.ok.hd hc) it lo 1 n
  refine W.item i s _ _ hg st λv h' tk hv st' kk=>?_
  obtain⟨t,rfl⟩:=hv
  have I1:Inv X pins σ H {s with heap:=h',toks:=tk} :=I.turned (λb o hb e=>kk b o (by simpa using hb) e) f0 f1 f3 f4 f5
  refine⟨_,rfl,xq (s:={s with heap:=h',toks:=tk}) (n:= "range_iterator") st' rfl rfl (by decide) ⟨.int (lo+i),H,I1,⟨t,?_⟩,⟨rfl,rfl⟩,st',λb hb=>(hf b hb).1⟩⟩
  rw[Int.mul_one]
 done:=by
  intro X hP hw hK hc i pins s σ H E I hf st hg
  subst hP hw hK
  obtain⟨f0,f1,f2,f3,f4,f5⟩:=hf it (by simp)
  exact wpAny_pyNext_range_end (I.ok.hd hc) st (by have:n<=i:=hg;omega) λh' eb=>⟨rfl,I.turned (t':=s.toks) (λb o hb e=>eb b o hb e) f0 f1 f3 f4 f5⟩
 self:=λ_ _ _ _ _ st h=>wpAny_pyIter_rangeiter st h
section
variable {X:Cx}{tg:Expr}
def ER (K:PySem.W.Frag)(tl:TE):TI:=λσ H R=>tl σ H λx H1=>∃ a,x = .ref a/\(∃ xs,SqL K H1 a xs)/\R (Itl K a) H1
theorem fY {l:Expr}{tl:TE}(hl:PE X l tl):PI X tg l (ER X.K tl):=by
 intro pins s σ H R I h
 refine thn (hl pins s σ H _ I h) λv s1 ⟨x,H1,I1,r1,q1⟩=>?_
 obtain⟨a,e,⟨xs,hq⟩,q⟩:=q1
 subst e
 cases r1
 obtain⟨its,rv,p,hz⟩:=I1.list hq
 refine wpAny_pyIter_list p.isList ?_
 refine⟨s1.heap.objs.size,[s1.heap.objs.size],_,_,H1,rfl,I1.kept (t':=s1.toks) λb o e=>aH _ e,xJ a _,⟨_,ba _ rfl,rfl,rfl⟩,λb hb=>?_,q⟩
 have e:b=s1.heap.objs.size:=by simpa using hb
 subst e
 exact I1.yr (aq _) (I1.hok.fresh (aq _))
theorem uD {pins:List (Addr×Obj)}{σ:St}{H:Hp}{s:Shared}{R:It->Hp->Prop}{E:Value->Shared->Prop}{lo hi:Int}{t u v:Tok}{tk:Nat}(I:Inv X pins σ H s)(h1: -(2 ^ 62)<=lo)(h2:lo<2 ^ 62)(h3: -(2 ^ 62)<=hi)(h4:hi<2 ^ 62)
  (q:R (Itr lo (hi-lo).toNat) H):wpAny (model X.prog X.w) X.A (pyIter (.ref s.heap.objs.size)) (PIE X pins σ tg R) E {s with heap:=s.heap.push {cls:=.type "range",data:=.fields #[.int lo t,.int hi u,.int 1 v]},toks:=tk} :=by
 refine wpAny_pyIter_range (IsRange.new ..) (small_one h1 h2 h3 h4) ?_
 have I1:Inv X pins σ H {s with heap:=s.heap.push {cls:=.type "range",data:=.fields #[.int lo t,.int hi u,.int 1 v]},toks:=tk} :=I.kept λb o e=>aH _ e
 refine⟨(s.heap.push {cls:=.type "range",data:=.fields #[.int lo t,.int hi u,.int 1 v]}).objs.size,[(s.heap.push {cls:=.type "range",data:=.fields #[.int lo t,.int hi u,.int 1 v]}).objs.size],_,_,H,rfl,
  I1.kept (t':=tk) λb o e=>aH _ e,vJ _ lo (hi-lo).toNat,?_,λb hb=>?_,q⟩
 ·have e1:lo+((0:Nat):Int)*1=lo:=by simp
  have e2:(((hi-lo).toNat:Nat):Int)-((0:Nat):Int)=Builtin.Range.rangeSize lo hi 1:=by rw[rangeSize_one];split<;>omega
  show IsRangeIter _ _ (lo+((0:Nat):Int)*1) ((((hi-lo).toNat:Nat):Int)-((0:Nat):Int)) 1
  rw[e1,e2]
  exact ba _ rfl
 ·have e:b=(s.heap.push {cls:=.type "range",data:=.fields #[.int lo t,.int hi u,.int 1 v]}).objs.size:=by simpa using hb
  subst e
  exact I1.yr (aq _) (I1.hok.fresh (aq _))
def EN (ta:TA):TI:=λσ H R=>ta σ H λvs H1=>∃ j:Int,vs = [.int j]/\ -(2 ^ 62)<=j/\j<2 ^ 62/\R (Itr 0 j.toNat) H1
def EM (ta:TA):TI:=λσ H R=>ta σ H λvs H1=>∃ i j:Int,vs = [.int i,.int j]/\(-(2 ^ 62)<=i/\i<2 ^ 62/\ -(2 ^ 62)<=j/\j<2 ^ 62)/\R (Itr i (j-i).toNat) H1
theorem jQ {a:Expr}{ta:TA}{p pos:Pos}(hg:Gl X "range")(hm:X.mg "range" = none)(ha:PA X [a] ta)(hs:starEach [a] X.env = [(false,eval a X.env)]:=by rfl):PI X tg (.Call (.Name "range" p) [a] [] pos) (EN ta):=by
 intro pins s σ H R I h
 refine Call_ (lT I hg hm boot_range (bZ (thn (ha pos pins s σ H _ I h) λus s1 ⟨vs,H1,I1,r1,q1⟩=>?_) hs rfl))
 obtain⟨j,e,q1,q2,q⟩:=q1
 subst e
 cases r1 with
 |cons r rr=>
  cases rr
  obtain⟨t,rfl⟩:=r
  exact call_range_1 (uD I1 (by omega) (by omega) q1 q2 (by simpa using q))
theorem rY {a b:Expr}{ta:TA}{p pos:Pos}(hg:Gl X "range")(hm:X.mg "range" = none)(ha:PA X [a,b] ta)(hs:starEach [a,b] X.env = [(false,eval a X.env),(false,eval b X.env)]:=by rfl)(hs2:starEach [b] X.env = [(false,eval b X.env)]:=by rfl):
  PI X tg (.Call (.Name "range" p) [a,b] [] pos) (EM ta):=by
 intro pins s σ H R I h
 refine Call_ (lT I hg hm boot_range (bZ (thn (ha pos pins s σ H _ I h) λus s1 ⟨vs,H1,I1,r1,q1⟩=>?_) (by rw[hs,hs2]) (by rw[hs2];rfl)))
 obtain⟨i,j,e,⟨q1,q2,q3,q4⟩,q⟩:=q1
 subst e
 cases r1 with
 |cons r rr=>
  cases rr with
  |cons r' rr=>
   cases rr
   obtain⟨t,rfl⟩:=r
   obtain⟨t',rfl⟩:=r'
   exact call_range_2 (uD I1 q1 q2 q3 q4 q)
def FX (wi:TI)(g:TG)(tb:TS):TS:=λD σ H=>wi σ H λJ H1=>∃ W:Nat->Nat->St->Hp->Prop,(∃ m,W 0 m σ H1)/\∀ i m σ H,W i m σ H->
 (J.stop i H/\D.nx σ H)\/(J.go i H/\∃ N:St->Hp->Prop,(∀ σ' H',N σ' H'->∃ m',m'<m/\W (i+1) m' σ' H')/\∀ x H',J.yld i H x H'->g x σ H' λσ2 H2=>tb {D with nx:=N,ct:=N,bk:=D.nx} σ2 H2)
def qp (fp:List Addr)(h:Heap):List (Addr×Obj):=fp.filterMap λb=>(h.get? b).map λo=>(b,o)
theorem lu {fp:List Addr}{h:Heap}{b:Addr}{o:Obj}(hb:b∈fp)(e:h.get? b=some o):(b,o)∈qp fp h:=List.mem_filterMap.mpr ⟨b,hb,by rw[e];rfl⟩
theorem yf {fp:List Addr}{h:Heap}{p:Addr×Obj}(hp:p∈qp fp h):p.1∈fp/\h.get? p.1=some p.2:=by
 obtain⟨b,hb,e⟩:=List.mem_filterMap.mp hp
 cases q:h.get? b with
 |none=>rw[q]at e;cases e
 |some o=>
  rw[q]at e
  have e':(b,o)=p:=bx e
  subst e'
  exact⟨hb,q⟩
theorem Inv.pinned {pins:List (Addr×Obj)}{σ:St}{H:Hp}{s:Shared}{fp:List Addr}(I:Inv X pins σ H s)(hf:∀ b∈fp,pK X pins H b)(ho:∀ b∈fp,∃ o,s.heap.get? b=some o/\∀ v,o.data≠ .cell v):Inv X (pins++qp fp s.heap) σ H s:=
 I.w6 λp hp=>(aI.mp hp).elim (λz=>I.pin p (aV _ z)) λz=>by
  obtain⟨hb,e⟩:=yf z
  obtain⟨f0,f1,f2,_⟩:=hf p.1 hb
  obtain⟨o,e',d⟩:=ho p.1 hb
  rw[e]at e';cases e'
  exact⟨e,f0,f1,f2,d⟩
theorem Inv.nN {pins pl:List (Addr×Obj)}{σ:St}{H:Hp}{s:Shared}(I:Inv X (pins++pl) σ H s):Inv X pins σ H s:=I.w6 λp hp=>I.pin p (aV _ (bA _ hp))
theorem gQ {iter:Expr}{body:List Stmt}{wi:TI}{g:TG}{tb:TS}{pos:Pos}(hp:PassesOwn (model X.prog X.w) X.A X.env X.xe)(hc:X.calm=true)(hi:PI X tg iter wi)(hg:PG X tg g)(hb:PSs X body tb)
  (hs:∀ x,foldedSetIterable iter X.env x=pure x:=by intro _;rfl):PS X (.For tg iter body [] pos) (FX wi g tb):=by
 intro pins s σ H D I h
 refine wpAny_For (thn (hi pins s σ H _ I h) λv s1 h1=>thn h1 λitv s2 h2=>?_) hs
 obtain⟨it,fp,tn,J,H2,e,I2,T,st2,f2,W,⟨m0,w0⟩,turn⟩:=h2
 subst e
 have Cq:∀ {H':Hp},(∀ b∈fp,H' b=none)->∀ b∈fp,pK X pins H' b:=λhn b hb=>⟨hn b hb,(f2 b hb).2⟩
 refine codeAny_forLoop_any (λn s'=>∃ i σ' H',Inv X pins σ' H' s'/\tn i s'.heap/\(∀ b∈fp,H' b=none)/\W i n σ' H') ?_ m0 ⟨0,σ,H2,I2,st2,λb hb=>(f2 b hb).1,w0⟩
 rintro n s3 ⟨i,σ3,H3,I3,st3,fr3,w3⟩
 rcases turn i n σ3 H3 w3 with⟨stop,qn⟩|⟨go,N,hN,step⟩
 ·refine cU hp (thn (T.done X rfl rfl rfl hc i pins s3 σ3 H3 X.xe I3 (Cq fr3) st3 stop) λr s4 ⟨hr,I4⟩=>?_)
  subst hr
  exact eF ⟨σ3,H3,I4,qn⟩
 ·refine cU hp (thn (T.item X rfl rfl rfl hc i pins s3 σ3 H3 X.xe I3 (Cq fr3) st3 go) λr s4 ⟨u,hr,h4⟩=>?_)
  subst hr
  refine cU hp (thn h4 λ_ s5 ⟨x,H5,I5,r5,y5,st5,fr5⟩=>?_)
  have I5':=I5.pinned (Cq fr5) (T.obj _ _ st5)
  refine cU hp (thn (hg _ s5 σ3 H5 x u _ I5' r5 (step x H5 y5)) λ_ s6 ⟨σ6,H6,I6,q6⟩=>?_)
  refine cU hp (thn (hb _ s6 σ6 H6 _ I6 q6) λf s7 q7=>?_)
  have again:∀ {σ7:St}{H7:Hp},Inv X (pins++qp fp s5.heap) σ7 H7 s7->N σ7 H7->∃ m,m<n/\∃ i σ' H',Inv X pins σ' H' s7/\tn i s7.heap/\(∀ b∈fp,H' b=none)/\W i m σ' H':=λ{σ7 H7} I7 n7=>by
   obtain⟨m',hm,w7⟩:=hN σ7 H7 n7
   refine⟨m',hm,i+1,σ7,H7,I7.nN,T.keep _ _ _ st5 λb hb o e=>(I7.pin (b,o) (aV _ (aV _ (lu hb e)))).1,λb hb=>?_,w7⟩
   obtain⟨o,e,d⟩:=T.obj _ _ st5 b hb
   exact(I7.pin (b,o) (aV _ (aV _ (lu hb e)))).2.1
  cases f with
  |next=>obtain⟨σ7,H7,I7,n7⟩:=q7;exact again I7 n7
  |cont=>obtain⟨σ7,H7,I7,n7⟩:=q7;exact again I7 n7
  |brk=>obtain⟨σ7,H7,I7,q7⟩:=q7;exact⟨σ7,H7,I7.nN,q7⟩
  |ret v=>obtain⟨x7,σ7,H7,I7,r7,q7⟩:=q7;exact⟨x7,σ7,H7,I7.nN,r7,q7⟩
end
theorem Ah {K:PySem.W.Frag}{a:Addr}{xs:List V}{g:TG}{tb:TS}{D:Ends}{σ:St}{H:Hp}(Pv:Nat->St->Hp->Prop)(h0:Pv 0 σ H)(hl:∀ i σ H,i<=xs.length->Pv i σ H->SqL K H a xs)
  (hs:∀ i x σ H,xs[i]? = some x->Pv i σ H->g x σ H λσ2 H2=>tb {D with nx:=Pv (i+1),ct:=Pv (i+1),bk:=D.nx} σ2 H2) (hd:∀ σ H,Pv xs.length σ H->D.nx σ H):
  ∃ W:Nat->Nat->St->Hp->Prop,(∃ m,W 0 m σ H)/\∀ i m σ H,W i m σ H->
   ((Itl K a).stop i H/\D.nx σ H)\/((Itl K a).go i H/\∃ N:St->Hp->Prop,(∀ σ' H',N σ' H'->∃ m',m'<m/\W (i+1) m' σ' H')/\∀ x H',(Itl K a).yld i H x H'->g x σ H' λσ2 H2=>tb {D with nx:=N,ct:=N,bk:=D.nx} σ2 H2):=by
 refine⟨λi m σ H=>m=xs.length-i/\i<=xs.length/\Pv i σ H,⟨xs.length,by simp,aW _,h0⟩,?_⟩
 rintro i m σ H ⟨rfl,hi,p⟩
 have q:=hl i σ H hi p
 by_cases hlt:i<xs.length
 ·refine .inr ⟨⟨xs,xs[i],q,by simp[hlt]⟩,Pv (i+1),λσ' H' p'=>⟨xs.length-(i+1),by omega,rfl,hlt,p'⟩,λx H' y=>?_⟩
  obtain⟨e,y⟩:=y
  subst e
  exact hs i x σ _ (y xs q) p
 ·have e:i=xs.length:=by omega
  subst e
  exact .inl ⟨⟨xs,q,aq _⟩,hd σ H p⟩
theorem oR {lo:Int}{n:Nat}{g:TG}{tb:TS}{D:Ends}{σ:St}{H:Hp}(Pv:Nat->St->Hp->Prop)(h0:Pv 0 σ H)
  (hs:∀ i σ H,i<n->Pv i σ H->g (.int (lo+i)) σ H λσ2 H2=>tb {D with nx:=Pv (i+1),ct:=Pv (i+1),bk:=D.nx} σ2 H2) (hd:∀ σ H,Pv n σ H->D.nx σ H):
  ∃ W:Nat->Nat->St->Hp->Prop,(∃ m,W 0 m σ H)/\∀ i m σ H,W i m σ H->
   ((Itr lo n).stop i H/\D.nx σ H)\/((Itr lo n).go i H/\∃ N:St->Hp->Prop,(∀ σ' H',N σ' H'->∃ m',m'<m/\W (i+1) m' σ' H')/\∀ x H',(Itr lo n).yld i H x H'->g x σ H' λσ2 H2=>tb {D with nx:=N,ct:=N,bk:=D.nx} σ2 H2):=by
 refine⟨λi m σ H=>m=n-i/\i<=n/\Pv i σ H,⟨n,by simp,aW _,h0⟩,?_⟩
 rintro i m σ H ⟨rfl,hi,p⟩
 by_cases hlt:i<n
 ·refine .inr ⟨hlt,Pv (i+1),λσ' H' p'=>⟨n-(i+1),by omega,rfl,hlt,p'⟩,λx H' y=>?_⟩
  obtain⟨e,y⟩:=y
  subst e y
  exact hs i σ _ hlt p
 ·have e:i=n:=by omega
  subst e
  exact .inl ⟨aq _,hd σ H p⟩
theorem yI {c:TT}{tb:TS}{D:Ends}{σ:St}{H:Hp}(Pv:St->Hp->Prop)(μ:St->Hp->Nat)(h0:Pv σ H)
  (hs:∀ σ H,Pv σ H->c σ H λb H1=>if b=true then tb {D with nx:=λσ' H'=>Pv σ' H'/\μ σ' H'<μ σ H,ct:=λσ' H'=>Pv σ' H'/\μ σ' H'<μ σ H,bk:=D.nx} σ H1 else D.nx σ H1)
  (mono:∀ σ H Q Q',(∀ b H1,Q b H1->Q' b H1)->c σ H Q->c σ H Q'):oC c tb D σ H:=by
 refine⟨λm σ H=>m=μ σ H/\Pv σ H,⟨_,rfl,h0⟩,?_⟩
 rintro m σ H ⟨rfl,p⟩
 refine mono σ H _ _ (λb H1 q=>?_) (hs σ H p)
 cases b with
 |true=>exact⟨_,λσ' H' ⟨p',l⟩=>⟨_,l,rfl,p'⟩,q⟩
 |false=>exact q
abbrev R2:=V->V->Hp->VK->Prop
def OpR (X:Cx)(f:Value->Value->Sem Value)(r:R2):Prop:=
 ∀ (pins:List (Addr×Obj)) (s:Shared) (σ:St) (H:Hp) (x y:V) (v u:Value) (Q:VK),Inv X pins σ H s->RelV x v->RelV y u->r x y H Q->
  wpAny (model X.prog X.w) X.A (f v u) (EP X pins σ Q) X.xe s
def UnR (X:Cx)(f:Value->Sem Value)(r:V->Hp->VK->Prop):Prop:=
 ∀ (pins:List (Addr×Obj)) (s:Shared) (σ:St) (H:Hp) (x:V) (v:Value) (Q:VK),Inv X pins σ H s->RelV x v->r x H Q->
  wpAny (model X.prog X.w) X.A (f v) (EP X pins σ Q) X.xe s
def kd (X:Cx)(f:Value)(r:List V->Hp->VK->Prop):Prop:=
 ∀ (pins:List (Addr×Obj)) (s:Shared) (σ:St) (H:Hp) (xs:List V) (us:List Value) (Q:VK),Inv X pins σ H s->Vals xs us->r xs H Q->
  wpAny (model X.prog X.w) X.A (call f us) (EP X pins σ Q) X.xe s
def KO (X:Cx)(r:V->Hp->(Bool->Hp->Prop)->Prop):Prop:=
 ∀ (pins:List (Addr×Obj)) (s:Shared) (σ:St) (H:Hp) (x:V) (v:Value) (Q:Bool->Hp->Prop),Inv X pins σ H s->RelV x v->r x H Q->
  wpAny (model X.prog X.w) X.A (truthy v) (TP X pins σ Q) X.xe s
def tOp (r:R2)(ta tb:TE):TE:=λσ H Q=>ta σ H λx H1=>tb σ H1 λy H2=>r x y H2 Q
def tUn (r:V->Hp->VK->Prop)(ta:TE):TE:=λσ H Q=>ta σ H λx H1=>r x H1 Q
def rI (C:Int->Int->Prop)(g:Int->Int->V):R2:=λx y H Q=>∃ i j,x = .int i/\y = .int j/\C i j/\Q (g i j) H
def rI0 (g:Int->Int->V):R2:=λx y H Q=>∃ i j,x = .int i/\y = .int j/\Q (g i j) H
def rU (g:Int->V):V->Hp->VK->Prop:=λx H Q=>∃ i,x = .int i/\Q (g i) H
section
variable {X:Cx}{a b c:Expr}{ta tb tc:TE}{pos:Pos}
theorem Ft (ha:PE X a ta)(hb:PE X b tb){pins:List (Addr×Obj)}{s:Shared}{σ:St}{H:Hp}{R:V->V->Hp->Prop}(I:Inv X pins σ H s)
  (h:ta σ H λx H1=>tb σ H1 λy H2=>R x y H2) {Q:Value->Shared->Prop}{f:Value->Value->Sem Value}
  (hf:∀ v u s2 x y H2,Inv X pins σ H2 s2->RelV x v->RelV y u->R x y H2->wpAny (model X.prog X.w) X.A (f v u) Q X.xe s2):
  wpAny (model X.prog X.w) X.A (eval a X.env) (λv s₁=>wpAny (model X.prog X.w) X.A (eval b X.env) (λu s₂=>wpAny (model X.prog X.w) X.A (f v u) Q X.xe s₂) X.xe s₁) X.xe s:=by
 refine thn (ha pins s σ H _ I h) λv s1 ⟨x,H1,I1,r1,q1⟩=>?_
 refine thn (hb pins s1 σ H1 _ I1 q1) λu s2 ⟨y,H2,I2,r2,q2⟩=>?_
 exact hf v u s2 x y H2 I2 r1 r2 q2
theorem fu {op:Operator}{r:R2}(ho:OpR X (binaryOp op) r)(ha:PE X a ta)(hb:PE X b tb):PE X (.BinOp a op b pos) (tOp r ta tb):=by
 intro pins s σ H Q I h
 exact wpAny_BinOp (Ft ha hb I h λv u s2 x y H2 I2 rx ry q=>ho pins s2 σ H2 x y v u Q I2 rx ry q)
theorem qr {op:UnaryOp}{r:V->Hp->VK->Prop}(ho:UnR X (unaryOp op) r)(ha:PE X a ta):PE X (.UnaryOp op a pos) (tUn r ta):=by
 intro pins s σ H Q I h
 exact UnaryOp_ (thn (ha pins s σ H _ I h) λv s1 ⟨x,H1,I1,r1,q1⟩=>ho pins s1 σ H1 x v Q I1 r1 q1)
theorem opI {f:Value->Value->Sem Value}{C:Int->Int->Prop}{g:Int->Int->Int}
  (rule:∀ (i j:Int) (t u:Tok) (s:Shared) (Q:Value->Shared->Prop) (E:Value->Shared->Prop),C i j->Q (.int (g i j) s.toks) {s with toks:=s.toks+1} ->wpAny (model X.prog X.w) X.A (f (.int i t) (.int j u)) Q E s):
  OpR X f (rI C λi j=>.int (g i j)):=by
 intro pins s σ H x y v u Q I rx ry h
 obtain⟨i,j,rfl,rfl,hc,q⟩:=h
 obtain⟨t,rfl⟩:=rx
 obtain⟨t',rfl⟩:=ry
 exact rule i j t t' s _ _ hc ⟨.int (g i j),H,I.tok _,⟨_,rfl⟩,q⟩
theorem CL {f:Value->Value->Sem Value}{g:Int->Int->Int}
  (rule:∀ (i j:Int) (t u:Tok) (s:Shared) (Q:Value->Shared->Prop) (E:Value->Shared->Prop),Q (.int (g i j) s.toks) {s with toks:=s.toks+1} ->wpAny (model X.prog X.w) X.A (f (.int i t) (.int j u)) Q E s):
  OpR X f (rI0 λi j=>.int (g i j)):=by
 intro pins s σ H x y v u Q I rx ry h
 obtain⟨i,j,rfl,rfl,q⟩:=h
 obtain⟨t,rfl⟩:=rx
 obtain⟨t',rfl⟩:=ry
 exact rule i j t t' s _ _ ⟨.int (g i j),H,I.tok _,⟨_,rfl⟩,q⟩
def KU (i j:Int):Prop:=0<j/\j<1073741824
def KS (i j:Int):Prop:=0<=j/\j<=1000000/\i.natAbs<2 ^ 64
def DT (i j:Int):Prop:=(-(2 ^ 64)<i/\i<2 ^ 64)\/(-(2 ^ 64)<j/\j<2 ^ 64)
theorem DT.ok {i j:Int}(h:DT i j):IntMulOk i j:=by
 rcases h with⟨h1,h2⟩|⟨h1,h2⟩
 ·exact .of_left (intBits_le_64 h1 h2)
 ·exact .of_right (intBits_le_64 h1 h2)
theorem gZ:OpR X (binaryOp .Add) (rI0 λi j=>.int (i+j)):=CL λ_ _ _ _ _ _ _ q=>add_int q
theorem tq:OpR X (binaryOp .Sub) (rI0 λi j=>.int (i-j)):=CL λ_ _ _ _ _ _ _ q=>sub_int q
theorem i6:OpR X (binaryOp .Mult) (rI DT λi j=>.int (i*j)):=opI λ_ _ _ _ _ _ _ hc q=>mul_int q hc.ok
theorem iC:OpR X (binaryOp .FloorDiv) (rI KU λi j=>.int (i/j)):=opI λi j _ _ _ _ _ hc q=>by
 have h1:(0:Int)<j:=hc.1
 have h2:j<1073741824:=hc.2
 exact floordiv_int (by omega) (by rw[Int.fdiv_eq_ediv_of_nonneg i (by omega)];exact q) (.inl (PyProof.noPylong_small (by omega)))
theorem gY:OpR X (binaryOp .Mod) (rI (λ_ j=>0<j) λi j=>.int (i%j)):=opI λi j _ _ _ _ _ hc q=>by
 have h1:(0:Int)<j:=hc
 exact mod_int' (by omega) (by rw[Int.fmod_eq_emod_of_nonneg i (by omega)];exact q)
theorem vT:OpR X (binaryOp .Pow) (rI KS λi j=>.int (i ^ j.toNat)):=opI λ_ _ _ _ _ _ _ hc q=>pow_int_small hc.1 hc.2.1 hc.2.2 q
theorem CJ:OpR X (binaryOp .BitXor) (rI0 λi j=>.int (Builtin.bitXor i j)):=CL λ_ _ _ _ _ _ _ q=>xor_int q
theorem unI {f:Value->Sem Value}{g:Int->Int}
  (rule:∀ (i:Int) (t:Tok) (s:Shared) (Q:Value->Shared->Prop) (E:Value->Shared->Prop),Q (.int (g i) s.toks) {s with toks:=s.toks+1} ->wpAny (model X.prog X.w) X.A (f (.int i t)) Q E s):
  UnR X f (rU λi=>.int (g i)):=by
 intro pins s σ H x v Q I rx h
 obtain⟨i,rfl,q⟩:=h
 obtain⟨t,rfl⟩:=rx
 exact rule i t s _ _ ⟨.int (g i),H,I.tok _,⟨_,rfl⟩,q⟩
theorem nk:UnR X (unaryOp .USub) (rU λi=>.int (-i)):=unI λ_ _ _ _ _ q=>neg_int q
end
def Gv:V->V->Bool
 |.non,.non=>true |.non,.int _=>true |.int _,.non=>true |.non,.bl _=>true |.bl _,.non=>true |.non,.str _=>true |.str _,.non=>true
 |.int _,.int _=>true |.bl _,.bl _=>true |.str _,.str _=>true |.byt _,.byt _=>true
 |.int _,.str _=>true |.str _,.int _=>true |.bl _,.str _=>true |.str _,.bl _=>true
 |_,_=>false
def rNe:R2:=λx y H Q=>Gv x y=true/\Q (.bl (!decide (x=y))) H
theorem BC {i j:Int} :decide (V.int i=V.int j)=(i==j):=by
 rw[cj]
 simp
theorem DF {i j:Bool} :decide (V.bl i=V.bl j)=(i==j):=by
 rw[cj]
 simp
theorem BB {i j:Str} :decide (V.str i=V.str j)=(i==j):=by
 rw[cj]
 simp
theorem BD {i j:Array UInt8} :decide (V.byt i=V.byt j)=(i.toList==j.toList):=by
 rw[cj]
 cases i
 cases j
 simp
section
variable {X:Cx}{a b c:Expr}{ta tb tc:TE}{pos:Pos}
theorem iF {pins:List (Addr×Obj)}{σ:St}{H:Hp}{s:Shared}{Q:VK}{k k':Bool}(I:Inv X pins σ H s)(q:Q (.bl k) H)(e:k=k'):EP X pins σ Q (.bool k') s:=by
 subst e
 exact⟨.bl k,H,I,rfl,q⟩
theorem Ex:OpR X (compareOp .NotEq) rNe:=by
 intro pins s σ H x y v u Q I rx ry h
 obtain⟨hs,q⟩:=h
 cases x with
 |non=>
  cases rx
  cases y with
  |non=>cases ry;exact PySem.EqNone.ne_none_none (iF I q (by simp))
  |bl j=>cases ry;exact PySem.EqNone.ne_none_bool (iF I q (by simp))
  |int j=>obtain⟨t',rfl⟩:=ry;exact PySem.EqNone.ne_none_int (iF I q (by simp))
  |str j=>obtain⟨t',rfl⟩:=ry;exact PySem.EqNone.ne_none_str (iF I q (by simp))
  |_=>exact absurd (show false=true from hs) aU
 |bl i=>
  cases rx
  cases y with
  |non=>cases ry;exact PySem.EqNone.ne_bool_none (iF I q (by simp))
  |bl j=>cases ry;exact ne_bool (iF I q (cB not DF))
  |str j=>obtain⟨t',rfl⟩:=ry;exact PySem.EqMixed.ne_bool_str (iF I q (by simp))
  |_=>exact absurd (show false=true from hs) aU
 |int i=>
  obtain⟨t,rfl⟩:=rx
  cases y with
  |non=>cases ry;exact PySem.EqNone.ne_int_none (iF I q (by simp))
  |int j=>obtain⟨t',rfl⟩:=ry;exact ne_int (iF I q (cB not BC))
  |str j=>obtain⟨t',rfl⟩:=ry;exact PySem.EqMixed.ne_int_str (iF I q (by simp))
  |_=>exact absurd (show false=true from hs) aU
 |str i=>
  obtain⟨t,rfl⟩:=rx
  cases y with
  |non=>cases ry;exact PySem.EqNone.ne_str_none (iF I q (by simp))
  |bl j=>cases ry;exact PySem.EqMixed.ne_str_bool (iF I q (by simp))
  |int j=>obtain⟨t',rfl⟩:=ry;exact PySem.EqMixed.ne_str_int (iF I q (by simp))
  |str j=>obtain⟨t',rfl⟩:=ry;exact ne_str (iF I q (cB not BB))
  |_=>exact absurd (show false=true from hs) aU
 |byt i=>
  obtain⟨t,rfl⟩:=rx
  cases y with
  |byt j=>obtain⟨t',rfl⟩:=ry;exact PySem.W.ne_bytes (iF I q (cB not BD))
  |_=>exact absurd (show false=true from hs) aU
 |_=>cases y<;>exact absurd (show false=true from hs) aU
theorem tK (b:Expr){op:CmpOp}(h:op≠ .In:=by decide)(h2:op≠ .NotIn:=by decide):behindInMarks op b=false:=by
 have e1:(op==CmpOp.In)=false:=by cases op<;>first |rfl |exact absurd rfl h
 have e2:(op==CmpOp.NotIn)=false:=by cases op<;>first |rfl |exact absurd rfl h2
 cases b<;>simp[behindInMarks,e1,e2]
def Eb (t:TE):TT:=λσ H Q=>t σ H λx H'=>∃ k,x = .bl k/\Q k H'
theorem jq {op:CmpOp}{r:R2}(ho:OpR X (compareOp op) r)(ha:PE X a ta)(hb:PE X b tb)(hm:behindInMarks op b=false):PT X (.Compare a [op] [b] pos) (Eb (tOp r ta tb)):=by
 intro pins s σ H Q I h
 refine wpAny_isTrue_Compare1 (thn (ha pins s σ H _ I h) λv s1 ⟨x,H1,I1,r1,q1⟩=>thn (hb pins s1 σ H1 _ I1 q1) λu s2 ⟨y,H2,I2,r2,q2⟩=>
  thn (ho pins s2 σ H2 x y v u _ I2 r1 r2 q2) λc s3 ⟨z,H3,I3,r3,k,e,q3⟩=>?_) hm
 subst e
 cases r3
 exact dW ⟨H3,I3,q3⟩
def Fy (K:PySem.W.Frag)(x:V)(H:Hp)(k:Bool):Prop:=
 match x with
 |.non=>k=false
 |.bl b=>k=b
 |.int i=>k=(i !=0)
 |.str y=>y.length<=sizeLine/\k=((y.length:Int) !=0)
 |.byt y=>y.size<=sizeLine/\k=((y.size:Int) !=0)
 |.ref p=>(∃ xs,SqL K H p xs/\k = !xs.isEmpty)\/(∃ xs,SqT K H p xs/\k = !xs.isEmpty)\/∃ kvs,H p=some (.dK kvs)/\k = !kvs.isEmpty
 |_=>False
theorem wq {κ:Type}{kvs:List (κ×V)}{vs:List (κ×Value)}(r:KV kvs vs):(!vs.isEmpty) = !kvs.isEmpty:=by
 cases r<;>rfl
theorem qI {xs:List V}{its:List Value}(r:Vals xs its):(!its.toArray.isEmpty) = !xs.isEmpty:=by
 cases r<;>simp
theorem tN:(sizeLine:Nat)<2 ^ 63:=by rw[dG];decide
theorem Cf:KO X (λx H Q=>∃ k,Fy X.K x H k/\Q k H):=by
 intro pins s σ H x v Q I rx h
 obtain⟨k,e,q⟩:=h
 have hl:=tN
 have hs:sizeLine=16777216:=dG
 cases x with
 |non=>
  cases rx
  have e':k=false:=e
  subst e'
  exact truthy_none ⟨H,I,q⟩
 |bl b=>
  cases rx
  have e':k=b:=e
  subst e'
  exact dW ⟨H,I,q⟩
 |int i=>
  obtain⟨t,rfl⟩:=rx
  have e':k=(i !=0):=e
  subst e'
  exact PySem.P.truthy_int ⟨H,I,q⟩
 |str y=>
  obtain⟨t,rfl⟩:=rx
  obtain⟨hy,e'⟩:y.length<=sizeLine/\k=((y.length:Int) !=0):=e
  subst e'
  exact PySem.P.truthy_str (by omega) ⟨H,I.tok _,q⟩
 |byt y=>
  obtain⟨t,rfl⟩:=rx
  obtain⟨hy,e'⟩:y.size<=sizeLine/\k=((y.size:Int) !=0):=e
  subst e'
  exact PySem.W.truthy_bytes (by omega) ⟨H,I.tok _,q⟩
 |ref p=>
  cases rx
  have e':(∃ xs,SqL X.K H p xs/\k = !xs.isEmpty)\/(∃ xs,SqT X.K H p xs/\k = !xs.isEmpty)\/∃ kvs,H p=some (.dK kvs)/\k = !kvs.isEmpty:=e
  rcases e' with⟨xs,hx,e'⟩|⟨xs,hx,e'⟩|⟨kvs,hx,e'⟩
  ·subst e'
   obtain⟨its,r,pl,hz⟩:=I.list hx
   have hlen:=r.length
   exact wpAny_truthy_list pl.isList (by simp only[aE];omega) ⟨H,I.tok _,by rw[qI r];exact q⟩
  ·subst e'
   obtain⟨its,r,pl,hz⟩:=I.tuple hx
   have hlen:=r.length
   exact truthy_tuple pl (by simp only[aE];omega) ⟨H,I.tok _,by rw[qI r];exact q⟩
  ·subst e'
   obtain⟨hz,hS,vs,r,m⟩:kvs.length<=sizeLine/\(p==sysModules)=false/\∃ vs,KV kvs vs/\s.heap.DictOf (gP X.prog X.w) p vs:=I.hok p _ hx
   have hlen:kvs.length=vs.length:=er r
   exact wpAny_truthy_dict hS m (by omega) ⟨H,I.tok _,by rw[wq r];exact q⟩
 |_=>exact(show False from e).elim
theorem zd (ha:PE X a ta)(he:∀ whole,isTrue a X.env whole=(do let v <-whole;standAt a.pos;holding [v] (truthy v))):
  PT X a (λσ H Q=>ta σ H λx H'=>∃ k,Fy X.K x H' k/\Q k H'):=by
 intro pins s σ H Q I h
 exact isTrue_plain (thn (ha pins s σ H _ I h) λv s1 ⟨x,H1,I1,r1,q1⟩=>Cf pins s1 σ H1 x v Q I1 r1 q1) (he _)
theorem vals1 {x:V}{us:List Value}(r:Vals [x] us):∃ u,us = [u]/\RelV x u:=by
 cases r with
 |cons r1 r2=>cases r2;exact⟨_,rfl,r1⟩
theorem vals2 {x y:V}{us:List Value}(r:Vals [x,y] us):∃ u w',us = [u,w']/\RelV x u/\RelV y w':=by
 cases r with
 |cons r1 r2=>
  cases r2 with
  |cons r3 r4=>cases r4;exact⟨_,_,rfl,r1,r3⟩
theorem oV (hc:X.calm=true):kd X (.builtin "max") (λxs H Q=>∃ i j,xs = [.int i,.int j]/\Q (.int (if j>i then j else i)) H):=by
 intro pins s σ H xs us Q I r h
 obtain⟨i,j,rfl,q⟩:=h
 obtain⟨u,w',rfl,⟨t,rfl⟩,⟨t',rfl⟩⟩:=vals2 r
 refine max_two_ints (I.ok.hd hc) λh' tk k=>⟨_,H,I.kept k,?_,q⟩
 by_cases hj:j>i
 ·rw[aD hj,aD hj];exact⟨_,rfl⟩
 ·rw[au hj,au hj];exact⟨_,rfl⟩
theorem oU (hc:X.calm=true):kd X (.builtin "min") (λxs H Q=>∃ i j,xs = [.int i,.int j]/\Q (.int (if j<i then j else i)) H):=by
 intro pins s σ H xs us Q I r h
 obtain⟨i,j,rfl,q⟩:=h
 obtain⟨u,w',rfl,⟨t,rfl⟩,⟨t',rfl⟩⟩:=vals2 r
 refine min_two_ints (I.ok.hd hc) λh' tk k=>⟨_,H,I.kept k,?_,q⟩
 by_cases hj:j<i
 ·rw[aD hj,aD hj];exact⟨_,rfl⟩
 ·rw[au hj,au hj];exact⟨_,rfl⟩
end
structure DR (h:Heap)(x dx C:Addr)(mA:Str->Option Value):Prop where
 obj:h.get? x=some (PySem.W.instObj C dx)
 ns:h.Ns1 dx mA
 ne:dx≠x
theorem yh {h:Heap}{dx:Addr}{mA:Str->Option Value}(n:h.Ns1 dx mA):∃ od,h.get? dx=some od/\∀ name,PySem.W.lookIn name od=some (mA name):=by
 obtain⟨o,es,ep,ho,hd,hk,_,hm⟩:=n
 refine⟨o,ho,λname=>?_⟩
 have e:=hm name
 unfold nsFind findBy at e
 rw[<-Array.find?_toList]at e
 unfold PySem.W.lookIn
 rw[hd]
 dsimp only
 split
 ·rename_i y q
  rw[q]at e
  exact cB some e
 ·rename_i q
  rw[q]at e
  have a:es.toList.any (·.refKey)=false:=by
   rw[List.any_eq_false]
   intro y hy
   obtain⟨z,t,IY⟩:=hk y (Array.mem_toList_iff.mp hy)
   simp[DictEntry.refKey,IY]
  have a':¬es.toList.any (·.refKey)=true:=by rw[a];exact aU
  rw[au a']
  exact cB some e
theorem DR.look {h:Heap}{x dx C:Addr}{mA:Str->Option Value}(I:DR h x dx C mA):∃ od,PySem.W.InstAt h x (PySem.W.instObj C dx) C (some od)/\∀ name,PySem.W.lookIn name od=some (mA name):=
 let ⟨od,ho,hl⟩:=yh I.ns
 ⟨od,⟨I.obj,rfl,rfl,ho⟩,hl⟩
section
variable {prog:Program}{w:World}{A:Around}{E:Value->Shared->Prop}{s:Shared}{K:PySem.W.Frag}{x dx C f:Addr}{mA:Str->Option Value}{name:Str}{v:Value}
end
theorem qZ.some_of {v:V}{o:Option Value}(r:qZ (some v) o):∃ u,o=some u/\RelV v u:=by
 cases o with
 |none=>exact(show False from r).elim
 |some u=>exact⟨u,rfl,r⟩
section
variable {P:Program}{w:World}{H H':Hp}{h h':Heap}{a C dx:Addr}{fs fs':List (Str×V)}
theorem Bb (hok:HOk P w H h)(e:H a=some (.ins C dx fs)):∃ mA,DR h a dx C mA/\(∀ f,qZ (fs.lookup f) (mA f))/\PySem.Within mA (fs.map (·.1))/\fs.length<=1000/\H dx=some (.own a):=by
 obtain⟨d,z,ne,ob,mA,n,r,q⟩:=(show gB P w H h a (.ins C dx fs) from hok a _ e)
 exact⟨mA,⟨ob,n,ne⟩,r,q,z,d⟩
end
structure Cls (K:PySem.W.Frag)(C:Addr):Prop where
 pg:PySem.W.plainGet K C Str.empty=true
 hd:PySem.W.hasDictIn K C=true
 po:PySem.W.plainOver K C=true
 sa:PySem.W.findIn K (.ref C) "__setattr__" = some (some (.builtin "object.__setattr__"))
theorem Cls.get {K:PySem.W.Frag}{C:Addr}(c:Cls K C)(f:Str):PySem.W.plainGet K C f=true:=c.pg
section
variable {X:Cx}{pins:List (Addr×Obj)}{σ:St}{H:Hp}{s:Shared}{a C dx:Addr}{fs:List (Str×V)}{f:Str}{v:V}{A:Around}{E:Value->Shared->Prop}
end
section
variable {X:Cx}{o e value:Expr}{f:Str}{pos pos' D7:Pos}{ta tv:TE}
end
section
variable {X:Cx}{pins:List (Addr×Obj)}{σ:St}{H:Hp}{s:Shared}{A:Around}{E:Value->Shared->Prop}{Q:Value->Shared->Prop}{c:Value}{b:Bool}
inductive oY (K:PySem.W.Frag) (H:Hp):V->Value->Prop where
 |non:oY K H .non (.type "NoneType")
 |bl (x:Bool):oY K H (.bl x) (.type "bool")
 |int (i:Int):oY K H (.int i) (.type "int")
 |str (x:Str):oY K H (.str x) (.type "str")
 |flt (x:UInt64):oY K H (.flt x) (.type "float")
 |lst {a:Addr}{xs:List V} (e:H a=some (.lst xs)):oY K H (.ref a) (.type "list")
 |frz {a:Addr}{o:Obj}{xs:List V} (e:H a=some (.frz o (.lst xs))):oY K H (.ref a) (.type "list")
 |tup {a:Addr}{xs:List V} (e:H a=some (.tup xs)):oY K H (.ref a) (.type "tuple")
 |dK {a:Addr}{kvs:List (Key×V)} (e:H a=some (.dK kvs)):oY K H (.ref a) (.type "dict")
 |dT {a:Addr}{kvs:List (List Key×V)} (e:H a=some (.dT kvs)):oY K H (.ref a) (.type "dict")
 |ins {a C dx:Addr}{fs:List (Str×V)} (e:H a=some (.ins C dx fs)) (cl:Cls K C) (ha:PySem.W.findIn K (.ref C) "__class__" = some (some (.builtin "object.__class__")))
   (hn:PySem.W.specialIn K (.builtin "object.__class__") "__get__" = some (some (.builtin "getset_descriptor.__get__"))) (htk:PySem.W.takesIn K (.builtin "object.__class__")=some true)
   (hm:PySem.W.mroIn K C (.type "object")=some true):oY K H (.ref a) (.ref C)
theorem ym {x:V}{u t:Value}(I:Inv X pins σ H s)(rx:RelV x u)(ty:oY X.K H x t)(e:PySem.W.kitOne X.K t c=some b)(h:∀ tk,Q (.bool b) {s with toks:=tk}):
  wpAny (model X.prog X.w) A (call (.builtin "isinstance") [u,c]) Q E s:=by
 cases ty with
 |non=>cases(show u=Value.none from rx);exact bU PySem.W.kitx_none I.kIn True.intro e (λz=>nomatch z) h
 |bl y=>cases(show u=Value.bool y from rx);exact bU PySem.W.kitx_bool I.kIn True.intro e (λz=>nomatch z) h
 |int i=>obtain⟨t,q⟩:=(show ∃ t,u=Value.int i t from rx);cases q;exact bU PySem.W.kitx_int I.kIn True.intro e (λz=>nomatch z) h
 |str y=>obtain⟨t,q⟩:=(show ∃ t,u=Value.str y t from rx);cases q;exact bU PySem.W.kitx_str I.kIn True.intro e (λz=>nomatch z) h
 |flt y=>obtain⟨t,q⟩:=(show ∃ t,u=Value.float y t from rx);cases q;exact bU PySem.W.kitx_float I.kIn True.intro e (λz=>nomatch z) h
 |@lst a xs ea=>
  cases(show u=Value.ref a from rx)
  obtain⟨_,_,n,_,h1⟩:=(show gB X.prog X.w H s.heap a (.lst xs) from I.hok a _ ea)
  exact bU PySem.W.kitx_list I.kIn ⟨_,h1,rfl⟩ e (λz=>nomatch z) h
 |@frz a ob xs ea=>
  cases(show u=Value.ref a from rx)
  obtain⟨_,_,_,n,_,h1⟩:=(show gB X.prog X.w H s.heap a (.frz ob (.lst xs)) from I.hok a _ ea)
  exact bU PySem.W.kitx_list I.kIn ⟨_,h1,rfl⟩ e (λz=>nomatch z) h
 |@tup a xs ea=>
  cases(show u=Value.ref a from rx)
  obtain⟨_,_,_,p⟩:=(show gB X.prog X.w H s.heap a (.tup xs) from I.hok a _ ea)
  obtain⟨o,h1,h2,_⟩:=p
  exact bU PySem.W.kitx_tuple I.kIn ⟨o,h1,h2⟩ e (λz=>nomatch z) h
 |@dK a kvs ea=>
  cases(show u=Value.ref a from rx)
  obtain⟨_,_,vs,_,p⟩:=(show gB X.prog X.w H s.heap a (.dK kvs) from I.hok a _ ea)
  obtain⟨o,es,ep,h1,h2,_⟩:=p
  exact bU PySem.W.kitx_dict I.kIn ⟨o,h1,h2.1⟩ e (λz=>nomatch z) h
 |@dT a kvs ea=>
  cases(show u=Value.ref a from rx)
  obtain⟨_,_,xs,_,o,es,ep,h1,h2,_⟩:=(show gB X.prog X.w H s.heap a (.dT kvs) from I.hok a _ ea)
  exact bU PySem.W.kitx_dict I.kIn ⟨o,h1,h2.1⟩ e (λz=>nomatch z) h
 |@ins a C dx fs ea cl ha hn htk hm=>
  cases(show u=Value.ref a from rx)
  obtain⟨mA,O,_⟩:=Bb I.hok ea
  obtain⟨od,J,_⟩:=O.look
  exact bU (PySem.W.kitx_own (cl.get _) cl.hd ha hn htk hm) I.kIn J e (λz=>nomatch z) h
end
structure kP (k:Nat)(A:Around):Prop where
 hd:A.handled=none
 dp:A.depth+3*k+5<recursionLimit
 un:A.units+16*k+200<cLine
theorem kP.mono {j k:Nat}{A:Around}(r:kP k A)(h:j<=k):kP j A:=⟨r.hd,by have:=r.dp;omega,by have:=r.un;omega⟩
theorem kP.deeper {k:Nat}{A:Around}(r:kP (k+1) A)(env:Env):kP k (A.deeper env):=
 ⟨r.hd,by have:=r.dp;show A.depth+1+3*k+5<_;omega,by have:=r.un;show A.units+3+16*k+200<_;omega⟩
theorem kP.depth {k:Nat}{A:Around}(r:kP k A):A.depth<recursionLimit:=by have:=r.dp;omega
theorem kP.units {k:Nat}{A:Around}(r:kP k A):A.units+64<cLine:=by have:=r.un;omega
def FP:TA:=λ_ H Q=>Q [] H
def Eh (ta:TE)(tr:TA):TA:=λσ H Q=>ta σ H λx H1=>tr σ H1 λxs H2=>Q (x::xs) H2
section
variable {X:Cx}{e:Expr}{es:List Expr}{te:TE}{t:TA}{pos:Pos}
theorem eY:PA X [] FP:=λ_ _ _ _ H Q I h=>Calls.spliced_nil ⟨[],H,I,.nil,h⟩
theorem eV (ha:PE X e te)(hr:PA X es t)(hs:starEach (e::es) X.env=(false,eval e X.env)::starEach es X.env:=by rfl):PA X (e::es) (Eh te t):=by
 intro pos pins s σ H Q I h
 rw[hs]
 show wpAny _ _ (spliced ((false,eval e X.env)::backTo pos (starEach es X.env))) _ _ s
 refine Calls.spliced_cons (thn (ha pins s σ H _ I h) λu s1 ⟨x,H1,I1,r1,q1⟩=>?_)
 exact thn (hr pos pins s1 σ H1 _ I1 q1) λus s2 ⟨xs,H2,I2,r2,q2⟩=>⟨x::xs,H2,I2,.cons r1 r2,q2⟩
def FJ (t:TA):TE:=λσ H Q=>t σ H λxs H1=>xs.length<=sizeLine/\∀ p,H1 p=none->Q (.ref p) (upd H1 p (.tup xs))
def FT (t:TA):TE:=λσ H Q=>t σ H λxs H1=>xs.length<=sizeLine/\∀ p,H1 p=none->Q (.ref p) (upd H1 p (.lst xs))
theorem gG {x1}(h:PA X es t):PE X (.Tuple es x1 pos) (FJ t):=by
 intro pins s σ H Q I hq
 refine wpAny_Tuple_spliced (thn (h pos pins s σ H _ I hq) λus s1 ⟨xs,H1,I1,r,z,q⟩=>⟨by rw[<-r.length];exact z,?_⟩)
 have hf:H1 s1.heap.objs.size=none:=I1.hok.fresh (aq _)
 refine⟨.ref s1.heap.objs.size,upd H1 s1.heap.objs.size (.tup xs),I1.laid (t':=s1.toks) (λb u e=>aH _ e) (aq _) ?_,rfl,q _ hf⟩
 exact⟨z,us,r,⟨_,ba _ rfl,rfl,_,rfl⟩⟩
theorem gu (h:PA X es t):PE X (.List es pos) (FT t):=by
 intro pins s σ H Q I hq
 refine wpAny_List_spliced (thn (h pos pins s σ H _ I hq) λus s1 ⟨xs,H1,I1,r,z,q⟩=>⟨by rw[<-r.length];exact z,?_⟩)
 have hf:H1 s1.heap.objs.size=none:=I1.hok.fresh (aq _)
 refine⟨.ref s1.heap.objs.size,upd H1 s1.heap.objs.size (.lst xs),I1.laid (t':=s1.toks) (λb u e=>aH _ e) (aq _) ?_,rfl,q _ hf⟩
 exact⟨z,us,0,r,ba _ rfl⟩
end
abbrev Sp:=List V->Hp->VK->XK->Prop
abbrev CXT:=List Env->Hp->Shared->XK->Value->Shared->Prop
structure BM (P:Program)(w:World)(K:PySem.W.Frag)(mg:Str->Option Value)(base:Heap)(A:Around)(outer:List Env)(s:Shared)(H:Hp):Prop where
 frames:A.frames=some outer
 mod:Mod K mg base
 bs:∀ b o,base.get? b=some o->s.heap.get? b=some o/\H b=none
 bsz:base.objs.size<=s.heap.objs.size
 oQ:s.heap.FunFrames base outer
 frf:∀ b∈frs outer,H b=none
 hok:HOk P w H s.heap
 bare:AllBare s.gens
def CE (outer:List Env)(P:Program)(w:World)(H:Hp)(s:Shared)(Q:VK)(u:Value)(s':Shared):Prop:=
 ∃ v H',s'.os=s.os/\AllBare s'.gens/\Un (frs outer) [] H H' s.heap s'.heap/\HOk P w H' s'.heap/\RelV v u/\Q v H'
def CR (CX:CXT)(outer:List Env)(P:Program)(w:World)(H:Hp)(s:Shared)(Q:VK)(E:XK)(r:Result)(s':Shared):Prop:=
 match r with
 |.ok (.ret u)=>CE outer P w H s Q u s'
 |.ok _=>False
 |.error e=>CX outer H s E e s'
structure fE (P:Program)(w:World)(K:PySem.W.Frag)(mg:Str->Option Value)(base:Heap)(CX:CXT)(k:Nat)(f:Addr)(fd:FuncData)(ps:List Str)(sp:Sp):Prop where
 len:∀ vs H Q E,sp vs H Q E->vs.length=ps.length
 run:∀ (A:Around) (outer:List Env) (s:Shared) (H:Hp) (args:Args) (us:List Value) (vs:List V) (Q:VK) (E:XK),kP k A->BM P w K mg base A outer s H->BindsTo s fd args (ps.zip us)->Vals vs us->sp vs H Q E->
  codeAny (model P w) A (.call (.ref f) args) (CR CX outer P w H s Q E) s
section
variable {X:Cx}{pins:List (Addr×Obj)}{σ:St}{H:Hp}{s s':Shared}
theorem Inv.Fh (I:Inv X pins σ H s):BM X.prog X.w X.K X.mg X.base X.A X.stack s H:=
 ⟨I.ok.frames,I.ok.mod,I.bs,bF I.ok.bsz I.sz,I.stack,I.sQ,I.hok,I.bare⟩
theorem Inv.after {Q:VK}{u:Value}(I:Inv X pins σ H s)(h:CE X.stack X.prog X.w H s Q u s'):EP X pins σ Q u s':=by
 obtain⟨v,H',os,bare,un,hok,r,q⟩:=h
 obtain⟨hh,g,d,t,os'⟩:=s'
 obtain rfl:os'=s.os:=os
 exact⟨v,H',I.call (h':=hh) (g':=g) (d':=d) (t':=t) (ch:=[]) un hok bare (λb z=>absurd z (by simp)),r,q⟩
end
def Ei (sp:Sp)(dvs:List V)(E:XK)(t:TA):TE:=λσ H Q=>t σ H λvs H1=>sp (vs++dvs) H1 Q E
def Binds (K:PySem.W.Frag)(fd:FuncData)(ps:List Str)(ds:List Value):Prop:=
 ∀ (s:Shared) (us:List Value),K.In s.heap->(us++ds).length=ps.length->BindsTo s fd ⟨us,[]⟩ (ps.zip (us++ds))
theorem Binds.all {K:PySem.W.Frag}{fd:FuncData}{ps:List Str}(h:∀ us:List Value,us.length=ps.length->bindArgs fd ⟨us,[]⟩=pure (ps.zip us)):Binds K fd ps []:=λs us _ hl=>by
 rw[bX]at hl ⊢
 exact .of_eq (h us hl)
def Passes (CX:CXT)(X:Cx)(E:XK):Prop:=∀ (pins:List (Addr×Obj)) (σ:St) (H:Hp) (s:Shared) (e:Value) (s':Shared),Inv X pins σ H s->CX X.stack H s E e s'->X.xe e s'
section
variable {X:Cx}{CX:CXT}{k:Nat}{f C:Addr}{fd:FuncData}{ps:List Str}{sp:Sp}{dvs:List V}{ds:List Value}{E:XK}{x m:Str}{p pos apos:Pos}{e o:Expr}{es:List Expr}{ta:TE}{t:TA}
theorem Ct {pins:List (Addr×Obj)}{σ:St}{H:Hp}{s:Shared}{Q:VK}{us:List Value}{vs:List V}(F:fE X.prog X.w X.K X.mg X.base CX k f fd ps sp)(hr:kP k X.A)(hb:Binds X.K fd ps ds)(hd:Vals dvs ds)(hx:Passes CX X E)
  (I:Inv X pins σ H s) (r:Vals vs us) (h:sp (vs++dvs) H Q E):wpAny (model X.prog X.w) X.A (call (.ref f) us) (EP X pins σ Q) X.xe s:=by
 have r2:Vals (vs++dvs) (us++ds):=r.append hd
 have hl:(us++ds).length=ps.length:=by rw[<-r2.length];exact F.len _ _ _ _ h
 refine wpAny_call (codeAny_mono (F.run X.A X.stack s H ⟨us,[]⟩ (us++ds) (vs++dvs) Q E hr I.Fh (hb s us I.kIn hl) r2 h) λr s' hq=>?_)
 cases r with
 |error e=>exact hx pins σ H s e s' I hq
 |ok fl=>
  cases fl with
  |ret u=>exact I.after hq
  |next=>exact False.elim hq
  |brk=>exact False.elim hq
  |cont=>exact False.elim hq
theorem fq (F:fE X.prog X.w X.K X.mg X.base CX k f fd ps sp)(hr:kP k X.A)(hg:Gl X x)(hm:X.mg x=some (.ref f))(hk:PySem.W.keepIn X.K (.ref f)=true)(hb:Binds X.K fd ps ds)(hd:Vals dvs ds)(hx:Passes CX X E)
  (ha:PA X (e::es) t) (hdb:(x==("__debug__" :Str))=false:=by decide) (he:starEach (e::es) X.env=(false,eval e X.env)::starEach es X.env:=by rfl) (hpl:(backTo pos (starEach es X.env)).any (·.1)=false:=by rfl):
  PE X (.Call (.Name x p) (e::es) [] pos) (Ei sp dvs E t):=by
 intro pins s σ H Q I h
 refine eS (mU I hg hm ?_ hdb)
 refine PySem.W.callWith_K (h₀:=X.base) I.ok.mod.kin hk (thn (ha pos pins s σ H _ I h) λus s1 ⟨vs,H1,I1,r,q⟩=>⟨I1.kIn,?_⟩) he hpl
 exact Ct F hr hb hd hx I1 r q
end
section
variable {X:Cx}{CX:CXT}{k:Nat}{f C:Addr}{fd:FuncData}{ps ks:List Str}{sp:Sp}{E:XK}{x m:Str}{p pos apos K2:Pos}{e o:Expr}{es:List Expr}{kws:List Keyword}{te ta:TE}{t tk:TA}{nm:Option Str}
variable {g:List Value->List Value->List Value}{gV:List V->List V->List V}
end
structure fH (N P:List Str)(sc:Scope):Prop where
 kind:sc.kind = .function
 co:sc.isCoroutine=false
 gen:sc.isGenerator=false
 nd:N.Nodup
 pre:N.take P.length=P
 par:∀ x∈P,sc.names.lookup x=some .local\/sc.names.lookup x=some .cell
 CP:∀ y∈sc.names,y.2≠ .free
theorem sH {kindOf:Str->Option NameKind}{x:Str} :∀ {binds:List (Str×Value)}{m:Str->Option Value},(∀ v,(x,v)∉binds)->bindL kindOf binds m x=m x
 |[],_,_=>rfl
 |(n,v)::r,m,h=>by
  unfold bindL
  rw[sH λw hw=>h w (aC _ hw)]
  split
  ·have:x≠n:=by rintro rfl;exact h v ar
   simp[this]
  ·rfl
theorem sJ {kindOf:Str->Option NameKind}{x:Str} :∀ {binds:List (Str×Value)}{m:Str->Option Value},(∀ v,(x,v)∉binds)->bindC kindOf binds m x=m x
 |[],_,_=>rfl
 |(n,v)::r,m,h=>by
  unfold bindC
  rw[sJ λw hw=>h w (aC _ hw)]
  split
  ·rfl
  ·have:x≠n:=by rintro rfl;exact h v ar
   simp[this]
theorem sI {kindOf:Str->Option NameKind}{x:Str}{v:Value} :∀ {P:List Str}{vs:List Value}{i:Nat}{m:Str->Option Value},P.Nodup->P[i]? = some x->vs[i]? = some v->kindOf x=some .local->
  bindL kindOf (P.zip vs) m x=some v
 |[],_,_,_,_,h,_,_=>by simp at h
 |_::_,[],_,_,_,_,h,_=>by simp at h
 |p::P,w::vs,0,m,nd,h1,h2,hk=>by
  simp at h1 h2;subst h1;subst h2
  show bindL kindOf ((p,w)::P.zip vs) m p=_
  unfold bindL
  rw[sH λv hv=>(cg.mp nd).1 (cP hv).1,aD hk]
  simp
 |p::P,w::vs,i+1,m,nd,h1,h2,hk=>by
  show bindL kindOf ((p,w)::P.zip vs) m x=_
  unfold bindL
  exact sI (i:=i) (cg.mp nd).2 (by simpa using h1) (by simpa using h2) hk
theorem sL {kindOf:Str->Option NameKind}{x:Str}{v:Value} :∀ {P:List Str}{vs:List Value}{i:Nat}{m:Str->Option Value},P.Nodup->P[i]? = some x->vs[i]? = some v->kindOf x≠some .local->
  bindC kindOf (P.zip vs) m x=some v
 |[],_,_,_,_,h,_,_=>by simp at h
 |_::_,[],_,_,_,_,h,_=>by simp at h
 |p::P,w::vs,0,m,nd,h1,h2,hk=>by
  simp at h1 h2;subst h1;subst h2
  show bindC kindOf ((p,w)::P.zip vs) m p=_
  unfold bindC
  rw[sJ λv hv=>(cg.mp nd).1 (cP hv).1,au hk]
  simp
 |p::P,w::vs,i+1,m,nd,h1,h2,hk=>by
  show bindC kindOf ((p,w)::P.zip vs) m x=_
  unfold bindC
  exact sL (i:=i) (cg.mp nd).2 (by simpa using h1) (by simpa using h2) hk
def start (N:List Str)(vs:List V):St:=vs.map some++List.replicate (N.length-vs.length) none
def tX (CX:CXT)(P:Program)(w:World)(K:PySem.W.Frag)(mg:Str->Option Value)(base:Heap)(N:List Str)(qual:Str)(scope:Scope)(f:Addr)(cd:Value)(A:Around)(outer:List Env)(s:Shared)(H:Hp)(E:XK):Cx where
 prog:=P
 w:=w
 K:=K
 mg:=mg
 base:=base
 A:=A.deeper (envOfC qual scope s.heap.objs.size f cd)
 N:=N
 s₀:=s
 H₀:=H
 env:=envOfC qual scope s.heap.objs.size f cd
 outer:=outer
 stack:=envOfC qual scope s.heap.objs.size f cd::outer
 ex:=[]
 calm:=true
 fn:=λ_=>true
 pn:=[]
 xe:=λe s'=>wpAny (model P w) (A.deeper (envOfC qual scope s.heap.objs.size f cd)) (leaving (envOfC qual scope s.heap.objs.size f cd) e) (λ_ s''=>CX outer H s E e s'') (λe' s''=>CX outer H s E e' s'') s'
theorem vA {sc:Scope}{n:Nat}{x:Str}(h:sc.names.lookup x=some .cell):∃ c,(cellsFrom n sc.names []).lookup x=some c:=by
 have q:=PySem.W.cellsFrom_some sc.names n [] (.inl h)
 exact Option.isSome_iff_exists.mp q
theorem yn {CX:CXT}{P:Program}{w:World}{K:PySem.W.Frag}{mg:Str->Option Value}{base:Heap}{N ps:List Str}{qual:Str}{scope:Scope}{f:Addr}{cd:Value}{A:Around}{outer:List Env}{s s1:Shared}{H:Hp}{E:XK}{us:List Value}{vs:List V}
  (S:fH N ps scope) (hd:A.handled=none) (e0:BM P w K mg base A outer s H) (hl:vs.length=ps.length) (r:Vals vs us)
  (x:InCallC s s.heap.objs.size (bindL (envOfC qual scope s.heap.objs.size f cd).kindOf (ps.zip us) λ_=>none) (cellsFrom (s.heap.objs.size+1) scope.names []) (bindC (envOfC qual scope s.heap.objs.size f cd).kindOf (ps.zip us) λ_=>none) s1):
  Inv (tX CX P w K mg base N qual scope f cd A outer s H E) [] (start N vs) H s1:=by
 have hpl:ps.length<=N.length:=by have:=cB List.length S.pre;rw[bw]at this;omega
 obtain⟨h1,tk,rfl,hk⟩:=x.done
 have noA:∀ b:Addr,b∉(tX CX P w K mg base N qual scope f cd A outer s H E).ex:=λb z=>absurd (show b∈([]:List Addr) from z) (by simp)
 refine⟨⟨e0.mod,S.kind,rfl,rfl,aq _,λy z c h1 h2=>?_,λy hy=>?_,λy c _ h=>?_,λ_=>hd,Around.frames_deeper e0.frames,.inr ⟨rfl,rfl⟩,λb z=>absurd z (noA b),e0.bs,e0.bsz,λb _ _=>noA b,λb z=>absurd z (noA b),e0.oQ,e0.frf⟩,
  rfl,e0.bare,Un.kept hk,⟨_,x.toInCall.ns,λi y v h1 h2 h3=>?_⟩,λy c h=>⟨_,x.cell y c h⟩,e0.hok.fresh (aq _),λy c h=>?_,λp hp=>absurd (show p∈([]:List (Addr×Obj)) from hp) (by simp),e0.hok.kept hk,?_⟩
 ·exact name_of_addr x.apart (cx h1) (cx h2)
 ·have hy:scope.names.lookup y=some .cell\/scope.names.lookup y=some .free:=hy
  rcases hy with hy |hy
  ·exact vA hy
  ·exact absurd rfl (S.CP _ (cx hy))
 ·exact cb (x.above y c (cx h))
 ·have hi:i<vs.length:=by
   unfold start at h2
   by_cases hi:i<vs.length
   ·exact hi
   ·rw[az (by simpa using hi)]at h2
    rw[List.getElem?_replicate]at h2
    split at h2<;>cases h2
  have ha:vs[i]? = some v:=by
   unfold start at h2
   rw[ak (by simpa using hi),aj]at h2
   cases e:vs[i]? with
   |none=>rw[e]at h2;cases h2
   |some a=>rw[e]at h2;cases h2;rfl
  obtain⟨u,hu,rv⟩:=r.get ha
  have hp:ps[i]? = some y:=by
   rw[<-S.pre,eQ (by omega)];exact h1
  have ndP:ps.Nodup:=by rw[<-S.pre];exact S.nd.sublist (eL _ _)
  refine⟨u,rv,?_⟩
  rcases S.par y (aG hp)with k |k
  ·exact .inl ⟨k,sI ndP hp hu k⟩
  ·obtain⟨c,e⟩:=vA (n:=s.heap.objs.size+1) k
   refine .inr ⟨.inl k,c,e,?_⟩
   have q:=x.cell y c e
   rw[sL ndP hp hu (by show scope.names.lookup y≠_;rw[k];decide)]at q
   exact q
 ·exact e0.hok.fresh (cb (x.above y c (cx h)))
 ·unfold start
  show _=N.length
  rw[ah,aa,List.length_replicate]
  omega
theorem B4 {CX:CXT}{P:Program}{w:World}{K:PySem.W.Frag}{mg:Str->Option Value}{base:Heap}{k:Nat}{f:Addr}{name qual:Str}{params:Arguments}{body:List Stmt}{scope:Scope}{dV kV doc pm cdv ct oc:Value}{an od:Option Addr}
  {osl:Array (Option Value)}{N ps:List Str}{sp:Sp} (lk:K.lookup f=some ⟨oc,od,.func (PySem.W.fnOf name qual params body scope dV kV doc pm an cdv ct),osl⟩) (hcd:PySem.W.codeIn K cdv qual=true) (S:fH N ps scope)
  (len:∀ vs H Q E,sp vs H Q E->vs.length=ps.length)
  (u0:∀ (A:Around) (outer:List Env) (s:Shared) (H:Hp) (vs:List V) (Q:VK) (E:XK),kP k (A.deeper (envOfC qual scope s.heap.objs.size f cdv))->sp vs H Q E->
   ∃ t,PSs (tX CX P w K mg base N qual scope f cdv A outer s H E) body t/\t {nx:=λ_ H'=>Q .non H',rt:=Q} (start N vs) H):
  fE P w K mg base CX (k+1) f (PySem.W.fnOf name qual params body scope dV kV doc pm an cdv ct) ps sp:=by
 refine⟨len,λA outer s H args us vs Q E hr e0 hb r hsp=>?_⟩
 have hl:=len _ _ _ _ hsp
 have KX:K.In s.heap:=e0.mod.kin.keeps λb o e=>(e0.bs b o e).1
 have lim:s.heap.NoLimit:=e0.mod.nolimit.keeps λb o e=>(e0.bs b o e).1
 have E2:∀ y∈ps.zip us,scope.names.lookup y.1=some .local\/(scope.names.lookup y.1=some .cell/\((cellsFrom (s.heap.objs.size+1) scope.names []).lookup y.1).isSome=true):=λ⟨n,v⟩ hy=>by
  rcases S.par n (cP hy).1 with q |q
  ·exact .inl q
  ·exact .inr ⟨q,PySem.W.cellsFrom_some _ _ _ (.inl q)⟩
 refine codeAny_call_function hr.depth (KX _ _ lk) rfl S.co S.gen rfl (PySem.W.codeRec_of KX hcd) (hb _ _ _ _ ?_)
 refine wpAny_newFunctionEnv_cells S.kind E2 λenv he s1 x=>?_
 subst he
 refine⟨lim.keeps x.toInCall.keep,codeAny_func ?_⟩
 obtain⟨t,ht,hq⟩:=u0 A outer s H vs Q E (hr.deeper _) hsp
 have I:Inv (tX CX P w K mg base N qual scope f cdv A outer s H E) [] (start N vs) H s1:=yn S hr.hd e0 hl r x
 refine bR (ht [] s1 (start N vs) H _ I hq) (λfl s' hs=>?_) λe s' hs=>hs
 have fin:∀ {σ':St}{H':Hp}{v:V}{u:Value},Inv (tX CX P w K mg base N qual scope f cdv A outer s H E) [] σ' H' s'->RelV v u->Q v H'->CE outer P w H s Q u s':=
  λ{σ' H' v u} J rv q=>⟨v,H',J.os,J.bare,J.base,J.hok,rv,q⟩
 cases fl with
 |ret u=>
  obtain⟨v,σ',H',J,rv,q⟩:=hs
  exact fin J rv q
 |next=>
  obtain⟨σ',H',J,q⟩:=hs
  exact fin (v:=V.non) (u:=Value.none) J rfl q
 |brk=>
  obtain⟨_,_,_,q⟩:=hs
  exact False.elim q
 |cont=>
  obtain⟨_,_,_,q⟩:=hs
  exact False.elim q
section
variable {X:Cx}{x:Str}{p pos:Pos}{e:Expr}{es:List Expr}{t:TA}{id T:String}{r:List V->Hp->VK->Prop}
def tCB (r:List V->Hp->VK->Prop)(t:TA):TE:=λσ H Q=>t σ H λvs H1=>r vs H1 Q
theorem fC (hc:kd X (.builtin id) r)(hg:Gl X x)(hm:X.mg x=none)(hv:bootBuiltins x=some (.builtin id))(ha:PA X (e::es) t)(hn:x≠ "__name__" :=by decide)(hdb:(x==("__debug__" :Str))=false:=by decide)
  (he:starEach (e::es) X.env=(false,eval e X.env)::starEach es X.env:=by rfl) (hpl:(backTo pos (starEach es X.env)).any (·.1)=false:=by rfl):PE X (.Call (.Name x p) (e::es) [] pos) (tCB r t):=by
 intro pins s σ H Q I h
 refine eS (lT I hg hm hv ?_ hn hdb)
 exact PyProof.Rows.callWith_builtin1 (thn (ha pos pins s σ H _ I h) λus s1 ⟨vs,H1,I1,r1,q1⟩=>hc pins s1 σ H1 vs us Q I1 r1 q1) he hpl
theorem gf (hc:kd X (.type T) r)(hg:Gl X x)(hm:X.mg x=none)(hv:bootBuiltins x=some (.type T))(ha:PA X (e::es) t)(hn:x≠ "__name__" :=by decide)(hdb:(x==("__debug__" :Str))=false:=by decide)
  (he:starEach (e::es) X.env=(false,eval e X.env)::starEach es X.env:=by rfl) (hpl:(backTo pos (starEach es X.env)).any (·.1)=false:=by rfl):PE X (.Call (.Name x p) (e::es) [] pos) (tCB r t):=by
 intro pins s σ H Q I h
 refine eS (lT I hg hm hv ?_ hn hdb)
 exact bZ (thn (ha pos pins s σ H _ I h) λus s1 ⟨vs,H1,I1,r1,q1⟩=>hc pins s1 σ H1 vs us Q I1 r1 q1) he hpl
end
end L2
namespace HT
open PySem PyProof.Rows
section
open PySem.SeqAt
open PySem.AutoSeq1 (wpAny_loadPart')
open PySem.MeetsSeq PySem.MeetsSeq2 PySem.MeetsSeq3
end
section
variable {prog:Program}{w:World}{A:Around}{E:Value->Shared->Prop}{s:Shared}
def sIx (n d:Nat):Option Int->Nat
 |none=>d
 |some v=>if v<0 then(v+(n:Int)).toNat else min v.toNat n
theorem uy (n d:Nat):sIx n d none=d:=rfl
theorem AR (n d k:Nat):sIx n d (some (k:Int))=min k n:=by
 show(if(k:Int)<0 then((k:Int)+(n:Int)).toNat else min (k:Int).toNat n)=min k n
 rw[au (by omega),Int.toNat_natCast]
theorem BG (v:Int)(n d:Nat):(if v<0 then max (v+(n:Int)) 0 else min v (n:Int))=((sIx n d (some v):Nat):Int):=by
 show(if v<0 then max (v+(n:Int)) 0 else min v (n:Int))=(((if v<0 then(v+(n:Int)).toNat else min v.toNat n):Nat):Int)
 by_cases hv:v<0
 ·simp only[aD hv];omega
 ·simp only[au hv];omega
end
end HT
namespace L2
open PySem PySem.Spec PyProof.Rows
abbrev TO:=St->Hp->(Option Int->Hp->Prop)->Prop
def PO (X:Cx)(e:Option Expr)(t:TO):Prop:=
 ∀ (pins:List (Addr×Obj)) (s:Shared) (σ:St) (H:Hp) (Q:Option Int->Hp->Prop),Inv X pins σ H s->t σ H Q->
  wpAny (model X.prog X.w) X.A (evalPart e X.env) (λu s'=>∃ o H',Inv X pins σ H' s'/\IsPart u o/\Q o H') X.xe s
def AK:TO:=λ_ H Q=>Q none H
def Ec (t:TE):TO:=λσ H Q=>t σ H λx H1=>∃ i,x = .int i/\Q (some i) H1
theorem intsAre_of {ns:List Int} :∀ {us:List Value},Vals (ns.map V.int) us->IntsAre us ns:=by
 induction ns with
 |nil=>intro us r;rw[List.map_nil]at r;cases r;exact .nil
 |cons n ns ih=>
  intro us r
  rw[aM]at r
  cases r with
  |cons r1 r2=>
   obtain⟨t,e⟩:=r1
   subst e
   exact .cons n t (ih r2)
section
variable {X:Cx}{e:Expr}{te:TE}{lo hi:Option Expr}{tl th:TO}{pos p2:Pos}
theorem pP:PO X none AK:=by
 intro pins s σ H Q I h
 rw[evalPart_none]
 exact aB ⟨none,H,I,.none,h⟩
theorem nW (h:PE X e te):PO X (some e) (Ec te):=by
 intro pins s σ H Q I hw
 rw[evalPart_some]
 refine thn (h pins s σ H _ I hw) λu s1 ⟨x,H1,I1,r1,q1⟩=>?_
 obtain⟨i,rfl,q⟩:=q1
 obtain⟨t,rfl⟩:=r1
 exact⟨some i,H1,I1,.int i t,q⟩
def SlR (X:Cx)(r:V->Option Int->Option Int->Hp->VK->Prop):Prop:=
 ∀ (pins:List (Addr×Obj)) (s:Shared) (σ:St) (H:Hp) (x:V) (v vl vu:Value) (lo hi:Option Int) (sl:Addr) (Q:VK),Inv X pins σ H s->RelV x v->s.heap.IsSliceOf sl vl vu .none->IsPart vl lo->IsPart vu hi->r x lo hi H Q->
  ∃ T id,typeLookup (.type T) "__getitem__" = pure (some (.builtin id))/\s.TypeIs v T/\wpAny (model X.prog X.w) X.A (getItem v (.ref sl)) (EP X pins σ Q) X.xe s
def tSl (r:V->Option Int->Option Int->Hp->VK->Prop)(te:TE)(tl th:TO):TE:=λσ H Q=>te σ H λx H1=>tl σ H1 λl H2=>th σ H2 λu H3=>r x l u H3 Q
theorem nX {r:V->Option Int->Option Int->Hp->VK->Prop}(hr:SlR X r)(he:PE X e te)(hl:PO X lo tl)(hu:PO X hi th):PE X (.Subscript e (.Slice lo hi none p2) pos) (tSl r te tl th):=by
 intro pins s σ H Q I h
 refine Subscript_ (thn (he pins s σ H _ I h) λv s1 ⟨x,H1,I1,r1,q1⟩=>?_)
 refine wpAny_Slice (thn (hl pins s1 σ H1 _ I1 q1) λvl s2 ⟨l,H2,I2,pl,q2⟩=>thn (hu pins s2 σ H2 _ I2 q2) λvu s3 ⟨u,H3,I3,pu,q3⟩=>?_)
 rw[evalPart_none]
 refine aB ?_
 have I4:Inv X pins σ H3 {s3 with heap:=s3.heap.push {cls:=.type "slice",data:=.fields #[vl,vu,.none]}} :=I3.kept (t':=s3.toks) λb ob q=>aH _ q
 obtain⟨T,id,hT,ht,hg⟩:=hr pins {s3 with heap:=s3.heap.push {cls:=.type "slice",data:=.fields #[vl,vu,.none]}} σ H3 x v vl vu l u s3.heap.objs.size Q I4 r1 (Heap.IsSliceOf.new ..) pl pu q3
 show wpAny (model X.prog X.w) X.A (subscriptTail e (.Slice lo hi none p2) v (.ref s3.heap.objs.size)) (EP X pins σ Q) X.xe {s3 with heap:=s3.heap.push {cls:=.type "slice",data:=.fields #[vl,vu,.none]}}
 exact tail_any (ops:=[.ref s3.heap.objs.size,v]) ht hT hg (by with_unfolding_all rfl)
def oo (xs:List V)(lo hi:Option Int):List V:=(xs.drop (HT.sIx xs.length 0 lo)).take (HT.sIx xs.length xs.length hi-HT.sIx xs.length 0 lo)
theorem vq (xs:List V)(lo hi:Option Int):(oo xs lo hi).length<=xs.length:=by
 unfold oo
 rw[bw,cz]
 omega
end
def ixN (n:Nat)(i:Int):Option Nat:=if 0<=i then(if i<n then some i.toNat else none)else if -(n:Int)<=i then some (i+n).toNat else none
def atI {α:Type}(xs:List α)(i:Int):Option α:=(ixN xs.length i).bind λj=>xs[j]?
theorem Ba {n:Nat}{i:Int}{j:Nat}(h:ixN n i=some j):seqIndex? i n=some j/\j<n/\ -(n:Int)<=i/\i<n:=by
 unfold ixN at h
 by_cases h0:0<=i
 ·rw[aD h0]at h
  by_cases h1:i<n
  ·rw[aD h1]at h
   have e:i.toNat=j:=bx h
   exact⟨by rw[seqIndex_of h0 h1,e],by omega,by omega,h1⟩
  ·rw[au h1]at h;cases h
 ·rw[au h0]at h
  by_cases h1: -(n:Int)<=i
  ·rw[aD h1]at h
   have e:(i+n).toNat=j:=bx h
   exact⟨by rw[seqIndex_neg (by omega) h1,e],by omega,h1,by omega⟩
  ·rw[au h1]at h;cases h
theorem xA {α:Type}{xs:List α}{i:Int}{v:α}(h:atI xs i=some v):∃ j,seqIndex? i xs.length=some j/\xs[j]? = some v/\j<xs.length/\ -(xs.length:Int)<=i/\i<xs.length:=by
 unfold atI at h
 cases e:ixN xs.length i with
 |none=>rw[e]at h;cases h
 |some j=>
  rw[e]at h
  obtain⟨h1,h2,h3,h4⟩:=Ba e
  exact⟨j,h1,h,h2,h3,h4⟩
theorem ox {α:Type}{xs:List α}{j:Nat}{v:α}(h:xs[j]? = some v):atI xs (j:Int)=some v:=by
 have hj:j<xs.length:=(af.mp h).1
 have e:ixN xs.length (j:Int)=some j:=by
  unfold ixN
  rw[aD (by omega),aD (by omega)];simp
 unfold atI;rw[e];exact h
theorem Ar {α:Type}(xs:List α)(v:α):atI (xs ++ [v]) (-1)=some v:=by
 have hl:(xs ++ [v]).length=xs.length+1:=by simp
 have e:ixN (xs ++ [v]).length (-1)=some xs.length:=by
  unfold ixN
  rw[hl,au (by decide),aD (by omega)]
  congr 1
  omega
 unfold atI
 rw[e]
 show(xs ++ [v])[xs.length]? = some v
 simp
def BK (b:Expr):Prop:=∀ o i,subscripted b false o i=operate [o,i] (getItem o i)
def IxR (X:Cx)(r:R2):Prop:=
 ∀ (value slice:Expr) (pins:List (Addr×Obj)) (s:Shared) (σ:St) (H:Hp) (x y:V) (v u:Value) (Q:VK),Inv X pins σ H s->RelV x v->RelV y u->r x y H Q->
  subscripted slice false v u=operate [v,u] (getItem v u)->wpAny (model X.prog X.w) X.A (subscriptTail value slice v u) (EP X pins σ Q) X.xe s
def MtR (X:Cx)(id:String)(r:V->List V->Hp->VK->Prop):Prop:=
 ∀ (pins:List (Addr×Obj)) (s:Shared) (σ:St) (H:Hp) (x:V) (xs:List V) (v:Value) (us:List Value) (Q:VK),Inv X pins σ H s->RelV x v->Vals xs us->r x xs H Q->
  wpAny (model X.prog X.w) X.A (call (.builtin id) (v::us)) (EP X pins σ Q) X.xe s
section
variable {X:Cx}{a b:Expr}{ta tb:TE}{pos:Pos}
theorem gh {r:R2}(hr:IxR X r)(ha:PE X a ta)(hb:PE X b tb)(hs:BK b):PE X (.Subscript a b pos) (tOp r ta tb):=by
 intro pins s σ H Q I h
 exact Subscript_ (Ft ha hb I h λv u s2 x y H2 I2 rx ry q=>hr a b pins s2 σ H2 x y v u Q I2 rx ry q (hs _ _))
def Er (K:PySem.W.Frag):R2:=λx y H Q=>∃ p xs i v,x = .ref p/\y = .int i/\SqL K H p xs/\atI xs i=some v/\Q v H
def GC (K:PySem.W.Frag):R2:=λx y H Q=>∃ p xs i v,x = .ref p/\y = .int i/\SqT K H p xs/\atI xs i=some v/\Q v H
theorem fV:IxR X (Er X.K):=by
 intro value slice pins s σ H x y v u Q I rx ry h hs
 obtain⟨p,xs,i,z,rfl,rfl,hq,he,q⟩:=h
 cases rx
 obtain⟨t,rfl⟩:=ry
 obtain⟨its,r,pl,hz⟩:=I.list hq
 obtain⟨j,h1,h2,h3,h4,h5⟩:=xA he
 obtain⟨w,ew,rw'⟩:=r.get h2
 have hl:=r.length
 have hn:=tN
 have fin:EP X pins σ Q w s:=⟨z,H,I,rw',q⟩
 by_cases h0:0<=i
 ·have hj:i.toNat=j:=by
   rw[seqIndex_of h0 h5]at h1
   exact bx h1
  exact item_listR pl.isList h0 (by omega) (by rw[hj];simpa using ew) fin hs
 ·have hj:(i+(its.toArray.size:Int)).toNat=j:=by
   rw[seqIndex_neg (by omega) h4]at h1
   rw[aE,<-hl]
   exact bx h1
  exact subscriptTail_builtinR (x:=w) pl.isList.typeIs slot_list_getitem.lookup
   (wpAny_getItem_list_neg (Q:=λr s'=>r=w/\EP X pins σ Q r s') pl.isList (by omega) (by rw[aE]<;>omega) (by omega) (by rw[hj];simpa using ew) ⟨rfl,fin⟩) hs
theorem jE:IxR X (GC X.K):=by
 intro value slice pins s σ H x y v u Q I rx ry h hs
 obtain⟨p,xs,i,z,rfl,rfl,hq,he,q⟩:=h
 cases rx
 obtain⟨t,rfl⟩:=ry
 obtain⟨its,r,pl,hz⟩:=I.tuple hq
 obtain⟨j,h1,h2,h3,h4,h5⟩:=xA he
 obtain⟨w,ew,rw'⟩:=r.get h2
 have hl:=r.length
 have hn:=tN
 have fin:EP X pins σ Q w s:=⟨z,H,I,rw',q⟩
 exact subscriptTail_builtinR (x:=w) pl.typeIs slot_tuple_getitem.lookup
  (getItem_tuple (j:=j) (Q:=λr s'=>r=w/\EP X pins σ Q r s') pl (by omega) (by omega) (by rw[aE,<-hl];exact h1) (by simpa using ew) ⟨rfl,fin⟩) hs
theorem sT (lo hi:Option Int)(n:Nat):(sliceBounds lo hi none n).1=((HT.sIx n 0 lo:Nat):Int)/\(sliceBounds lo hi none n).2.1=((HT.sIx n n hi:Nat):Int)/\(sliceBounds lo hi none n).2.2=1:=by
 refine⟨?_,?_,rfl⟩
 ·cases lo with
  |none=>simp[sliceBounds,HT.sIx]
  |some i=>
   simp only[sliceBounds,HT.sIx,Option.getD_none,show(1:Int)>0 by decide,if_true]
   by_cases h:i<0
   ·simp only[h,if_true]<;>omega
   ·simp only[h,di]<;>omega
 ·cases hi with
  |none=>simp[sliceBounds,HT.sIx]
  |some i=>
   simp only[sliceBounds,HT.sIx,Option.getD_none,show(1:Int)>0 by decide,if_true]
   by_cases h:i<0
   ·simp only[h,if_true]<;>omega
   ·simp only[h,di]<;>omega
theorem rh (its:List Value)(lo hi:Option Int):slicePick its.toArray lo hi none=((its.drop (HT.sIx its.length 0 lo)).take (HT.sIx its.length its.length hi-HT.sIx its.length 0 lo)).toArray:=by
 obtain⟨h1,h2,h3⟩:=sT lo hi its.toArray.size
 unfold slicePick
 rw[h1,h2,h3]
 simp only[sliceRange_one,pick_run,aE]<;>rfl
def Gw (K:PySem.W.Frag):V->Option Int->Option Int->Hp->VK->Prop:=λx lo hi H Q=>∃ a xs,x = .ref a/\SqL K H a xs/\∀ p,H p=none->Q (.ref p) (upd H p (.lst (oo xs lo hi)))
theorem pN:SlR X (Gw X.K):=by
 intro pins s σ H x v vl vu lo hi sl Q I rx hs pl pu h
 obtain⟨a,xs,rfl,hx,q⟩:=h
 cases rx
 obtain⟨its,r,ht,hz⟩:=I.list hx
 have hlen:=r.length
 refine⟨"list",_,slot_list_getitem.lookup,ht.isList.typeIs,?_⟩
 refine wpAny_getItem_list_slice ht.isList hs pl pu .none (by simp) ?_ (by rw[aE]<;>omega)
 rw[rh,<-hlen]
 refine⟨.ref s.heap.objs.size,_,I.laid (t':=s.toks) (o:=.lst (oo xs lo hi)) (λb ob q=>aH _ q) (aq _) ?_,rfl,q _ (I.hok.fresh (aq _))⟩
 exact⟨bF (vq xs lo hi) hz,_,0,(r.drop (HT.sIx xs.length 0 lo)).take (HT.sIx xs.length xs.length hi-HT.sIx xs.length 0 lo),ba _ rfl⟩
theorem gc:kd X (.builtin "len") (λxs H Q=>∃ p ys,xs = [.ref p]/\(SqL X.K H p ys\/SqT X.K H p ys)/\Q (.int ys.length) H):=by
 intro pins s σ H xs us Q I r h
 obtain⟨p,ys,rfl,hq,q⟩:=h
 obtain⟨u,rfl,rx⟩:=vals1 r
 cases rx
 have hn:=tN
 rcases hq with hq |hq
 ·obtain⟨its,r',pl,hz⟩:=I.list hq
  have hlen:=r'.length
  exact Calls.call_len_list pl.isList (by simp only[aE]<;>omega) ⟨.int ys.length,H,I.tok _,⟨s.toks+1,by rw[aE,hlen]⟩,q⟩
 ·obtain⟨its,r',pl,hz⟩:=I.tuple hq
  have hlen:=r'.length
  exact len_tuple pl (by simp only[aE]<;>omega) ⟨.int ys.length,H,I.tok _,⟨s.toks+1,by rw[aE,hlen]⟩,q⟩
theorem jM:kd X (.type "list") (λxs H Q=>∃ p ys,xs = [.ref p]/\(SqL X.K H p ys\/SqT X.K H p ys)/\∀ l,H l=none->Q (.ref l) (upd H l (.lst ys))):=by
 intro pins s σ H xs us Q I r h
 obtain⟨p,ys,rfl,hq,q⟩:=h
 obtain⟨u,rfl,rx⟩:=vals1 r
 cases rx
 have fin:∀ (its:List Value),Vals ys its->ys.length<=sizeLine->∀ (h':Heap) (c':Nat),(∀ b o',s.heap.get? b=some o'->h'.get? b=some o')->
   h'.get? s.heap.objs.size=some {cls:=.type "list",dict:=none,data:=.seq its.toArray c',slots:= #[]} ->EP X pins σ Q (.ref s.heap.objs.size) {s with heap:=h'} :=λits r' hz h' c' kp e=>
  ⟨.ref s.heap.objs.size,_,I.laid (t':=s.toks) kp (aq _) (show gB X.prog X.w _ h' _ (.lst ys) from⟨hz,its,c',r',e⟩),rfl,q _ (I.hok.fresh (aq _))⟩
 rcases hq with hq |hq
 ·obtain⟨its,r',pl,hz⟩:=I.list hq
  have hlen:=r'.length
  obtain⟨o,ho,hc,n,hd⟩:=pl.isList
  exact call_list_seq p (.inl rfl) ho hc hd (λh' c' kp e=>fin its r' hz h' c' kp e) (by simp only[aE]<;>omega)
 ·obtain⟨its,r',pl,hz⟩:=I.tuple hq
  have hlen:=r'.length
  obtain⟨o,ho,hc,n,hd⟩:=pl
  exact call_list_seq p (.inr rfl) ho hc hd (λh' c' kp e=>fin its r' hz h' c' kp e) (by simp only[aE]<;>omega)
theorem fW:kd X (.type "tuple") (λxs H Q=>∃ p ys,xs = [.ref p]/\((SqL X.K H p ys/\∀ l,H l=none->Q (.ref l) (upd H l (.tup ys)))\/(SqT X.K H p ys/\Q (.ref p) H))):=by
 intro pins s σ H xs us Q I r h
 obtain⟨p,ys,rfl,h⟩:=h
 obtain⟨u,rfl,rx⟩:=vals1 r
 cases rx
 rcases h with⟨hq,q⟩|⟨hq,q⟩
 ·obtain⟨its,r',pl,hz⟩:=I.list hq
  have hlen:=r'.length
  refine call_tuple_list pl.isList (λh' kp=>?_) (by simp only[aE]<;>omega)
  have I1:Inv X pins σ H {s with heap:=h'} :=I.kept (t':=s.toks) kp
  have I2:Inv X pins σ (upd H h'.objs.size (.tup ys)) {s with heap:=h'.push {cls:=.type "tuple",data:=.seq its.toArray}} :=
   I1.laid (t':=s.toks) (λb o e=>aH _ e) (aq _) (show gB X.prog X.w _ _ _ (.tup ys) from⟨hz,its,r',IsTup.new _ _⟩)
  exact⟨.ref h'.objs.size,_,I2,rfl,q _ (I1.hok.fresh (aq _))⟩
 ·obtain⟨its,r',pl,hz⟩:=I.tuple hq
  exact call_tuple_same pl ⟨.ref p,H,I,rfl,q⟩
def tyV (K:PySem.W.Frag)(T:String)(x:V)(H:Hp):Prop:=match x with
 |.str _=>T = "str"
 |.int _=>T = "int"
 |.ref p=>(T = "list" /\∃ xs,SqL K H p xs)\/(T = "tuple" /\∃ o,K.lookup p=some o/\o.cls = .type "tuple" /\o.dict=none)\/
   (T = "dict" /\((∃ kvs,H p=some (.dK kvs))\/∃ kvs,H p=some (.dT kvs)))\/(T = "set" /\∃ S n,H p=some (.set S n))
 |_=>False
theorem yL {pins:List (Addr×Obj)}{σ:St}{H:Hp}{s:Shared}{T:String}{x:V}{v:Value}(I:Inv X pins σ H s)(r:RelV x v)(ty:tyV X.K T x H):
  s.TypeIs v T/\∀ a,v = .ref a->∃ ob,s.heap.get? a=some ob/\ob.dict=none:=by
 cases x with
 |str z=>
  obtain⟨t,rfl⟩:=r
  cases(show T = "str" from ty)
  exact⟨typeIs_str s z t,λ_ e=>nomatch e⟩
 |int i=>
  obtain⟨t,rfl⟩:=r
  cases(show T = "int" from ty)
  exact⟨typeIs_int s i t,λ_ e=>nomatch e⟩
 |ref p=>
  cases r
  rcases ty with⟨rfl,xs,hq⟩|⟨rfl,o,hk,hc,hd⟩|⟨rfl,hk⟩|⟨rfl,S,n,hk⟩
  ·obtain⟨its,_,pl,_⟩:=I.list hq
   refine⟨pl.isList.typeIs,λa e=>?_⟩
   cases e
   obtain⟨o,n,e,c,hd,_⟩:=pl
   exact⟨o,e,hd⟩
  ·refine⟨⟨o,I.kIn p o hk,hc⟩,λa e=>?_⟩
   cases e
   exact⟨o,I.kIn _ o hk,hd⟩
  ·have z:∃ o,s.heap.get? p=some o/\o.ExactDict:=by
    rcases hk with⟨kvs,hk⟩|⟨kvs,hk⟩
    ·obtain⟨_,_,_,_,o,_,_,e,ex,_⟩:=I.hok p _ hk
     exact⟨o,e,ex⟩
    ·obtain⟨_,_,_,_,o,_,_,e,ex,_⟩:=I.hok p _ hk
     exact⟨o,e,ex⟩
   obtain⟨o,e,ex⟩:=z
   refine⟨⟨o,e,ex.1⟩,λa e2=>?_⟩
   cases e2
   exact⟨o,e,ex.2.1⟩
  ·obtain⟨o,_,_,_,e,ex,_⟩:=I.hok p _ hk
   refine⟨⟨o,e,ex.1⟩,λa e2=>?_⟩
   cases e2
   exact⟨o,e,ex.2.1⟩
 |_=>exact False.elim ty
def FZ (K:PySem.W.Frag)(T:String)(r:V->List V->Hp->VK->Prop)(to:TE):TE:=λσ H Q=>to σ H λx H1=>tyV K T x H1/\r x [] H1 Q
def tBM (K:PySem.W.Frag)(T:String)(r:V->List V->Hp->VK->Prop)(to:TE)(t:TA):TE:=λσ H Q=>to σ H λx H1=>tyV K T x H1/\t σ H1 λxs H2=>r x xs H2 Q
variable {o e:Expr}{es:List Expr}{to:TE}{t:TA}{name:Str}{apos lI:Pos}{T id:String}{r:V->List V->Hp->VK->Prop}
theorem CH (pa:PlainAttrs T)(slot:Slot T name id)(hty:typeOf (.builtin id)=pure (.type "method_descriptor"))(hm:MtR X id r)(ho:PE X o to)
  (zZ:attributeBase o name X.env (eval o X.env)=eval o X.env:=by rfl) (zU:(apos.endLine==lI.line)=true:=by rfl):PE X (.Call (.Attribute o name apos) [] [] lI) (FZ X.K T r to):=by
 intro pins s σ H Q I h
 refine wpAny_Call_method0_late zZ zU (thn (ho pins s σ H _ I h) λv s1 ⟨x,H1,I1,r1,ty,q1⟩=>?_)
 obtain⟨h1,h2⟩:=yL I1 r1 ty
 exact⟨T,id,pa,slot,hty,h1,h2,Calls.callWith_builtin rfl (PySem.evalArgs_none (hm pins s1 σ H1 x [] v [] Q I1 r1 .nil q1))⟩
theorem jB (pa:PlainAttrs T)(slot:Slot T name id)(hty:typeOf (.builtin id)=pure (.type "method_descriptor"))(hm:MtR X id r)(ho:PE X o to)(ha:PA X (e::es) t)
  (zZ:attributeBase o name X.env (eval o X.env)=eval o X.env:=by rfl)
  (I0:((backTo lI (starEach (e::es) X.env)).all (λx=> !x.1)&&(backToKw lI (keywordEach [] X.env)).all (λx=>x.1.isSome)
   && decide ((e::es).length+([]:List Keyword).length+(if([]:List Keyword).isEmpty then 0 else 1)<30))=true:=by rfl)
  (zU:(apos.endLine==lI.line)=true:=by rfl) (hs:starEach (e::es) X.env=(false,eval e X.env)::starEach es X.env:=by rfl) (Dp:(backTo lI (starEach es X.env)).any (·.1)=false:=by rfl):
  PE X (.Call (.Attribute o name apos) (e::es) [] lI) (tBM X.K T r to t):=by
 intro pins s σ H Q I h
 refine wpAny_Call_method_late zZ I0 zU rfl (thn (ho pins s σ H _ I h) λv s1 ⟨x,H1,I1,r1,ty,q1⟩=>?_)
 obtain⟨h1,h2⟩:=yL I1 r1 ty
 refine⟨T,id,pa,slot,hty,h1,h2,?_⟩
 have hA:=ha lI pins s1 σ H1 _ I1 q1
 rw[hs]at hA ⊢
 refine Calls.callWith_builtin (by show(false||(backTo lI (starEach es X.env)).any (·.1))=false;rw[Dp]<;>rfl) (Calls.evalArgs_plain ?_)
 exact thn hA λus s2 ⟨vs,H2,I2,r2,q2⟩=>hm pins s2 σ H2 x vs v us Q I2 r1 r2 q2
/- xs.append(e),list.index on a EF tuple .. are MtR facts of 06m -/
end
def MtM (X:Cx)(id:String)(r:V->List V->Hp->VK->Prop):Prop:=
 ∀ (pins:List (Addr×Obj)) (s:Shared) (σ:St) (H:Hp) (x:V) (xs:List V) (v:Value) (us:List Value) (Q:VK),Inv X pins σ H s->RelV x v->Vals xs us->r x xs H Q->
  wpAny (model X.prog X.w) X.A (call (.builtin id) (v::us)) (EP X pins σ Q) X.xe s
theorem Vals.one:∀ {x:V}{us:List Value},Vals [x] us->∃ u,us = [u]/\RelV x u
 |_,_,.cons r .nil=>⟨_,rfl,r⟩
theorem Vals.two {x y:V}{us:List Value}(h:Vals [x,y] us):∃ u v,us = [u,v]/\RelV x u/\RelV y v:=by
 cases h with
 |cons r t=>
  cases t with
  |cons q n=>
   cases n
   exact⟨_,_,rfl,r,q⟩
theorem Vals.zero:∀ {us:List Value},Vals [] us->us = []
 |_,.nil=>rfl
theorem Vals.dropLast {xs:List V}{us:List Value}(h:Vals xs us):Vals xs.dropLast us.dropLast:=by
 induction h with
 |nil=>exact .nil
 |cons r t ih=>
  cases t with
  |nil=>exact .nil
  |cons q t'=>exact .cons r ih
theorem Vals.reverse {xs:List V}{us:List Value}(h:Vals xs us):Vals xs.reverse us.reverse:=by
 induction h with
 |nil=>exact .nil
 |cons r t ih=>rw[List.reverse_cons,List.reverse_cons];exact Vals.append ih (.cons r .nil)
theorem wC {α:Type}(l:List α):l.eraseIdx (l.length-1)=l.dropLast:=by
 induction l with
 |nil=>rfl
 |cons a r ih=>
  cases r with
  |nil=>rfl
  |cons b r=>
   have e:(a::b::r).length-1=((b::r).length-1)+1:=by
    have h1:(a::b::r).length=r.length+2:=rfl
    have h2:(b::r).length=r.length+1:=rfl
    omega
   rw[e,List.eraseIdx_cons_succ,ih]
   all_goals rfl
section
variable {X:Cx}{pins:List (Addr×Obj)}{σ:St}{H:Hp}{s:Shared}{l b:Addr}{xs ys zs:List V}
theorem Inv.A7 {its its':List Value}{n:Nat}{f:Array Value->Array Value}{t':Nat}(I:Inv X pins σ H s)(hH:H l=some (.lst xs))
  (e:s.heap.get? l=some {cls:=.type "list",data:=.seq its.toArray n}) (hf:f its.toArray=its'.toArray) (hv:Vals ys its') (hz:ys.length<=sizeLine):
  Inv X pins σ (upd H l (.lst ys)) {s with heap:=s.heap.update l (Obj.mapSeq f),toks:=t'} :=by
 have q:=PySem.IsL.update e f
 rw[hf]at q
 refine I.write (x:=l) (e:=l) (by rw[hH];exact trivial) (.inl rfl) (λb' u hb hu=>(Heap.get?_update_other s.heap (Obj.mapSeq f) (b9 hb)).trans hu) ⟨_,q⟩ ?_
 exact⟨hz,its',_,hv,q⟩
theorem Inv.EH {its:List Value}{t':Nat}(I:Inv X pins σ H s)(hv:Vals ys its)(hz:ys.length<=sizeLine):
  Inv X pins σ (upd H s.heap.objs.size (.lst ys)) {s with heap:=s.heap.push {cls:=.type "list",data:=.seq its.toArray},toks:=t'} :=
 I.laid (λ_ _ q=>aH _ q) (aq _) ⟨hz,its,0,hv,ba _ rfl⟩
theorem Inv.fresh (I:Inv X pins σ H s):H s.heap.objs.size=none:=I.hok.fresh (aq _)
theorem Inv.tM (I:Inv X pins σ H s)(hH:H l=some (.lst xs)):xs.length<=sizeLine/\∃ (its:List Value) (n:Nat),Vals xs its/\xs.length=its.length/\s.heap.get? l=some {cls:=.type "list",data:=.seq its.toArray n} :=by
 obtain⟨z,its,n,r,e⟩:=I.hok l _ hH
 exact⟨z,its,n,r,r.length,e⟩
theorem zC {n:Nat}(h:n<=sizeLine):Builtin.List.listTooLong n=false:=by
 unfold Builtin.List.listTooLong
 exact aR (by omega)
end
section
variable {X:Cx}
def AY:V->List V->Hp->VK->Prop:=λx vs H Q=>∃ l xs y,x = .ref l/\vs = [y]/\H l=some (.lst xs)/\xs.length<sizeLine/\Q .non (upd H l (.lst (xs ++ [y])))
theorem gC:MtM X "list.append" AY:=by
 intro pins s σ H x vs v us Q I rx rv h
 obtain⟨l,xs,y,rfl,rfl,hH,hz,q⟩:=h
 cases rx
 obtain⟨u,rfl,ru⟩:=rv.one
 obtain⟨z,its,n,r,hl,e⟩:=I.tM hH
 refine eT F.slot_list_append ⟨_,e,rfl⟩ F.entry_list_append (F.args_list_append_2 _ _) (PySem.list_append l its.toArray n u (by rw[aE];omega)) ⟨e,?_⟩
 refine⟨.non,_,I.A7 (its':=its ++ [u]) hH e (by simp) (r.append (.cons ru .nil)) ?_,rfl,q⟩
 rw[ah,bE]
 omega
def AW:V->List V->Hp->VK->Prop:=λx vs H Q=>∃ l b xs zs,x = .ref l/\vs = [.ref b]/\H l=some (.lst xs)/\H b=some (.lst zs)/\xs.length+zs.length<=sizeLine/\Q .non (upd H l (.lst (xs++zs)))
theorem yg:MtM X "list.extend" AW:=by
 intro pins s σ H x vs v us Q I rx rv h
 obtain⟨l,b,xs,zs,rfl,rfl,hH,hB,hz,q⟩:=h
 cases rx
 obtain⟨u,rfl,ru⟩:=rv.one
 cases ru
 obtain⟨z,its,n,r,hl,e⟩:=I.tM hH
 obtain⟨z2,wo,n2,r2,hl2,e2⟩:=I.tM hB
 have hsz:its.toArray.size+wo.toArray.size<=sizeLine:=by rw[aE,aE];omega
 have EZ:¬(!its.toArray.isEmpty&&Builtin.List.listTooLong (its.toArray.size+wo.toArray.size))=true:=by
  rw[zC hsz,Bool.and_false]
  exact aU
 refine eT F.slot_list_extend ⟨_,e,rfl⟩ F.entry_list_extend (F.args_list_extend_2 _ _)
  (AutoSeq1.list_extend_list_list_0 l its.toArray n b wo.toArray n2 EZ (by rw[aE];omega) (by omega)) ⟨e,e2,?_⟩
 refine⟨.non,_,I.A7 (its':=its++wo) hH e (by simp) (r.append r2) ?_,rfl,q⟩
 rw[ah]
 omega
def Gz:V->List V->Hp->VK->Prop:=λx vs H Q=>∃ l xs y,x = .ref l/\vs = []/\H l=some (.lst xs)/\xs[xs.length-1]? = some y/\Q y (upd H l (.lst xs.dropLast))
theorem CQ:MtM X "list.pop" Gz:=by
 intro pins s σ H x vs v us Q I rx rv h
 obtain⟨l,xs,y,rfl,rfl,hH,hy,q⟩:=h
 cases rx
 have hus:=rv.zero
 subst hus
 obtain⟨z,its,n,r,hl,e⟩:=I.tM hH
 obtain⟨u,hu,ru⟩:=r.get hy
 have hy':its.toArray[its.toArray.size-1]? = some u:=by
  show its.toArray[its.length-1]? = some u
  rw[<-aA,<-hl]
  exact hu
 refine eT F.slot_list_pop ⟨_,e,rfl⟩ F.entry_list_pop (F.args_list_pop_1 _) (MeetsSeq.list_pop_last l its.toArray n u hy' (by rw[aE];omega)) ⟨e,?_⟩
 refine⟨y,_,I.A7 (its':=its.dropLast) hH e ?_ r.dropLast ?_,ru,q⟩
 ·show its.toArray.eraseIdxIfInBounds (its.toArray.size-1)=its.dropLast.toArray
  rw[aE,List.eraseIdxIfInBounds_toArray,wC]
 ·rw[cw]
  omega
def GD:R2:=λx y H Q=>∃ l b xs zs,x = .ref l/\y = .ref b/\H l=some (.lst xs)/\H b=some (.lst zs)/\xs.length+zs.length<=sizeLine/\∀ p,H p=none->Q (.ref p) (upd H p (.lst (xs++zs)))
theorem kn:OpR X (binaryOp .Add) GD:=by
 intro pins s σ H x y v u Q I rx ry h
 obtain⟨l,b,xs,zs,rfl,rfl,hH,hB,hz,q⟩:=h
 cases rx
 cases ry
 obtain⟨z,its,n,r,hl,e⟩:=I.tM hH
 obtain⟨z2,wo,n2,r2,hl2,e2⟩:=I.tM hB
 refine PySem.P.add_list e e2 ?_ (by rw[aE,aE];omega)
 have ea:its.toArray++wo.toArray=(its++wo).toArray:=by simp
 rw[ea]
 exact⟨.ref _,_,I.EH (t':=s.toks) (r.append r2) (by rw[ah];omega),rfl,q _ I.fresh⟩
end
section
variable {prog:Program}{w:World}{A:Around}{E:Value->Shared->Prop}{s:Shared}
end
section
variable {X:Cx}
end
end L2
namespace Att
open PySem PySem.W PySem.Calls PyProof.Rows
theorem pG {P:Params}{h:Heap} :∀ (ns:List Int) (vs:List Value),WellAll P h vs (ns.map WData.int)->IntsAre vs ns:=by
 intro ns
 induction ns with
 |nil=>
  intro vs w
  rw[List.map_nil]at w
  cases w
  exact .nil
 |cons n ns ih=>
  intro vs w
  rw[aM]at w
  cases w with
  |cons a b=>
   cases a
   exact .cons _ _ (ih _ b)
theorem xQ {l:OpenLaw}{n:Nat}(hn:l.most=some n){P:Params}{h:Heap}{args:List WData}{vals:List Value}
  (yo:l.row.toRowW.claim.pre args=true) (hwl:WellAll P h vals args):
  ∃ a vs ns,vals = [Value.ref a]/\args = [WData.list (ns.map WData.int)]/\h.get? a=some {cls:=.type "list",data:=.seq vs.toArray} /\IntsAre vs ns/\ns.length<=n:=by
 have hsh:WShape.hasAll [] args [.list .int]=true:=(pre_splitW yo).1
 have hc:l.pre.holds [] {args:=args} = true:=(pre_splitW yo).2
 obtain⟨d,r,rfl,h1,h2⟩:=hasAllW_cons hsh
 obtain rfl:=hasAllW_nil h2
 obtain⟨xs,rfl,h3⟩:=hasW_list h1
 obtain⟨ns,rfl⟩:=items_int h3
 have hlen:ns.length<=n:=by
  unfold OpenLaw.pre at hc
  have h4:(WTm.not (.lt (.lit (.int (n:Int))) (.len (.arg 0)))).holds [] {args:=[.list (ns.map .int)]} = true:=by
   have h4:=(holds_andW hc).1
   rw[hn]at h4
   exact h4
  have h5:=condW_of h4 (w_not (w_lt w_lit (w_len_list (w_arg rfl))))
  rw[aa]at h5
  refine Nat.le_of_not_lt λq=>?_
  have q':(n:Int)<((ns.length:Nat):Int):=by omega
  first
   |(rw[aX q']at h5;exact absurd h5 (by decide))
   |(simp at h5;omega)
 cases hwl with
 |cons w1 w2=>
  cases w2
  cases w1 with
  |list ho Jd=>exact⟨_,_,ns,rfl,rfl,ho,pG ns _ Jd,hlen⟩
theorem xZ (l:OpenLaw)(args:List WData):l.row.toRowW.claim.post args (.bool true) args=true:=
 postW_of (r:=l.row.toRowW) (X:=(true==true))
  (show WShape.has [] (.bool true) .bool=true by first |rfl |decide |simp[WShape.has,WShape.arms,WShape.armsAll])
  (show(WTm.eq .res (.lit (.bool true))).value [] {args:=args,res:=some (.bool true),after:=args} = some (.bool (true==true)) from w_eq_bool (w_res rfl) w_lit) rfl
theorem vC {l:OpenLaw}{n:Nat}{q:Program}{loose:List Str}{XP:(Str->Option Value)->Heap->Prop}{YP:World->Heap->Prop}{d:DefRec}
  (hn:l.most=some n) (hdf:d.params.defaults = [])
  (call:∀ (w:World) (s₀ s₁:Shared) (mg mb:Str->Option Value) (fa:Addr) (o:Obj) (pm cd doc:Value) (a:Addr) (vs:List Value) (ns:List Int),
   Ground q loose [] XP w s₀ mg mb s₁.heap->YP w s₁.heap->
   s₁.heap.get? fa=some o->o.data = .func (docDef d.name d.params d.body d.scope pm cd doc)->s₁.heap.CodeRec cd d.name->mg d.name=some (.ref fa)->
   s₁.heap.get? a=some {cls:=.type "list",data:=.seq vs.toArray} ->IntsAre vs ns->ns.length<=n->s₁.gens = #[]->
   codeAny (model l.prog w) callerA (.call (.ref fa) ⟨[.ref a],[]⟩) (λr s'=>r = .ok (.ret (.bool true))/\OldK s₁.heap s'.heap/\s'.os=s₁.os/\AllBare s'.gens) s₁):
  WalkO q loose XP YP l.row.toRowW d [] (λf vs=>PySem.call f vs):=by
 intro w s₀ s₁ mg mb G Y fa o pm cd doc dV kV ho hd hcd hD hmg hg args vals as yo K4 hrd hwl hlo
 obtain rfl:dV = .none:=Dflts.none hD hdf
 obtain rfl:kV = .none:=Dflts.noKw hD
 obtain⟨a,vs,ns,rfl,rfl,Dr,hints,hlen⟩:=xQ hn yo hwl
 refine enter_call (codeAny_mono (call w s₀ s₁ mg mb fa o pm cd doc a vs ns G Y ho (fd_plain hd) hcd hmg Dr hints hlen hg) λr s' hq=>?_)
 obtain⟨rfl,h2,h3,h4⟩:=hq
 exact⟨.inl ⟨.bool true,.bool true,[],rfl,λ_=>rfl,.bool true,xZ l _,λ_=>⟨List.Pairwise.nil,λ_ hm=>(nomatch hm)⟩⟩,h2,h3,h4⟩
section
variable {prog:Program}{w:World}{A:Around}{E:Value->Shared->Prop}{s:Shared}{K:Frag}
end
end Att
namespace L2
open PySem PySem.Spec PyProof.Rows
theorem rF:∀ {vs:List Value}{ns:List Int},IntsAre vs ns->Vals (ns.map V.int) vs
 |_,_,.nil=>.nil
 |_,_,.cons n t h=>.cons ⟨t,rfl⟩ (rF h)
def DP (H:Hp):Prop:=∀ b,H b=none\/∃ o xs,H b=some (.frz o (.lst xs))
theorem zM {P:Program}{w:World}{K:PySem.W.Frag}{mg mb:Str->Option Value}{CX:CXT}{k:Nat}{fa a:Addr}{fd:FuncData}{x:Str}{sp:Sp}{s₁:Shared}{vs:List Value}{ns:List Int}
  (KX:K.In s₁.heap) (hns:s₁.heap.Ns mainGlobals mg) (hb:s₁.heap.Ns builtinsNs mb) (hbb:∀ x:Str,x≠ "__name__" ->mb x=bootBuiltins x) (IX:s₁.heap.NoLimit) (hg:s₁.gens = #[])
  (ha:s₁.heap.get? a=some {cls:=.type "list",data:=.seq vs.toArray}) (hi:IntsAre vs ns) (hl:ns.length<=sizeLine) (hr:kP k callerA)
  (F:∀ base:Heap,K.In base->base.Ns mainGlobals mg->fE P w K mg base CX k fa fd [x] sp) (E8:∀ (s:Shared) (u:Value),BindsTo s fd ⟨[u],[]⟩ [(x,u)])
  (hsp:∀ H:Hp,DP H->SqL K H a (ns.map V.int)->sp [.ref a] H (λv _=>v = .bl true) λ_ _ _=>False)
  (hCX:∀ H e s',CX [] H s₁ (λ_ _ _=>False) e s'->False):
  codeAny (model P w) callerA (.call (.ref fa) ⟨[.ref a],[]⟩) (λr s'=>r = .ok (.ret (.bool true))/\OldK s₁.heap s'.heap/\s'.os=s₁.os/\AllBare s'.gens) s₁:=by
 have rv:=rF hi
 have Ie:=hi.length
 have core:∀ H:Hp,DP H->SqL K H a (ns.map V.int)->HOk P w H s₁.heap->(∀ b,H b≠none->b=a)->(H a≠none->K.lookup a=none)->
   codeAny (model P w) callerA (.call (.ref fa) ⟨[.ref a],[]⟩) (λr s'=>r = .ok (.ret (.bool true))/\OldK s₁.heap s'.heap/\s'.os=s₁.os/\AllBare s'.gens) s₁:=by
  intro H hO hS hok hA hK
  have xy:∀ {b:Addr}{o:Obj},s₁.heap.get? b=some o->H b=none->(tQ s₁.heap H).get? b=some o:=λe n=>zX e n
  have noA:∀ {b:Addr}{o:Obj}{es:Array DictEntry}{ep:Nat},s₁.heap.get? b=some o->o.data = .dict es ep->H b=none:=λ{b o es ep} e d=>by
   cases q:H b with
   |none=>rfl
   |some u=>
    have e':b=a:=hA b (by rw[q];simp)
    subst e'
    rw[ha]at e;cases e
    have d':Data.seq vs.toArray _=Data.dict es ep:=d
    cases d'
  have nsK:∀ {b:Addr}{m:Str->Option Value},s₁.heap.Ns b m->(tQ s₁.heap H).Ns b m:=λ{b m} ⟨o,es,ep,e,d,r⟩=>⟨o,es,ep,xy e (noA e d),d,r⟩
  have hKb:K.In (tQ s₁.heap H):=λb o e=>xy (KX b o e) (by
   cases q:H b with
   |none=>rfl
   |some u=>
    have e':b=a:=hA b (by rw[q];simp)
    subst e'
    rw[hK (by rw[q];simp)]at e;cases e)
  have hM:Mod K mg (tQ s₁.heap H):=⟨hKb,nsK hns,⟨mb,nsK hb,hbb⟩,let ⟨mc,h1,h2⟩:=IX;⟨mc,nsK h1,h2⟩⟩
  have e0:BM P w K mg (tQ s₁.heap H) callerA [] s₁ H:=⟨rfl,hM,λb o e=>A5 e,Nat.le_of_eq (yp _ _),trivial,λb hb=>absurd (show b∈([]:List Addr) from hb) (by simp),hok,.of_eq hg⟩
  refine codeAny_mono ((F _ hKb (nsK hns)).run callerA [] s₁ H ⟨[.ref a],[]⟩ [.ref a] [.ref a] _ _ hr e0 (E8 s₁ (.ref a)) (.cons rfl .nil) (hsp H hO hS)) λr s' h=>?_
  cases r with
  |error e=>exact(hCX H e s' h).elim
  |ok fl=>
   cases fl with
   |next=>exact False.elim h
   |brk=>exact False.elim h
   |cont=>exact False.elim h
   |ret u=>
    obtain⟨v,H',os,bare,un,IQ,r',q⟩:=h
    have q':v = .bl true:=q
    subst q'
    obtain rfl:u=Value.bool true:=r'
    refine⟨rfl,OldK.of_keep λb o e=>?_,os,bare⟩
    cases q:H b with
    |none=>exact un.keep b o e q (by intro z;exact absurd (show b∈([]:List Addr) from z) (by simp)) (by simp)
    |some u=>
     rcases hO b with z |⟨ob,xs,z⟩
     ·rw[q]at z;cases z
     ·have z2:=un.lU b ob _ z
      obtain⟨e1,_⟩:=hok b _ z
      obtain⟨e2,_⟩:=IQ b _ z2
      rw[e]at e1;cases e1
      exact e2
 cases hk:K.lookup a with
 |some o=>
  have e:=KX a o hk
  rw[ha]at e
  cases e
  refine core (λ_=>none) (λ_=>.inl rfl) (.inr ⟨_,vs.toArray,_,hk,rfl,rfl,rfl,by rw[aE,Ie];exact hl,by simpa using rv⟩) (λb u z=>by have z':(none:Option HO)=some u:=z;cases z') (λb z=>absurd rfl z) λz=>absurd rfl z
 |none=>
  refine core (λb=>if b=a then some (.frz {cls:=.type "list",data:=.seq vs.toArray} (.lst (ns.map V.int)))else none) (λb=>?_) (.inl (.inr ⟨{cls:=.type "list",data:=.seq vs.toArray},aD rfl⟩)) (λb u z=>?_) (λb z=>?_) λ_=>hk
  ·by_cases hb:b=a
   ·exact .inr ⟨_,_,aD hb⟩
   ·exact .inl (au hb)
  ·by_cases hb:b=a
   ·have z':=(aD hb).symm.trans z
    cases z'
    subst hb
    exact⟨ha,by rw[aa];exact hl,vs,_,rv,ha⟩
   ·have z':=(au hb).symm.trans z
    cases z'
  ·by_cases hb:b=a
   ·exact hb
   ·exact absurd (au hb) z
abbrev KOf {K:PySem.W.Frag}{h:Heap}(_:K.In h):PySem.W.Frag:=K
theorem AF {l:PySem.W.OpenLaw}{n k:Nat}{q:Program}{loose:List Str}{XP:(Str->Option Value)->Heap->Prop}{YP:World->Heap->Prop}{d:DefRec}{K:Params->PySem.W.Frag}{CX:World->CXT}{sp:World->Sp}{x:Str}
  (hn:l.most=some n) (hn2:n<=sizeLine) (hdf:d.params.defaults = []) (hr:kP k callerA)
  (hY:∀ (w:World) (h:Heap),YP w h->(K w.params).In h)
  (F:∀ (w:World) (mg:Str->Option Value) (fa:Addr) (h:Heap),(K w.params).In h->h.Ns mainGlobals mg->mg d.name=some (.ref fa)->
   ∃ fd:FuncData,(∀ (s:Shared) (u:Value),BindsTo s fd ⟨[u],[]⟩ [(x,u)])/\
    ∀ base:Heap,(K w.params).In base->base.Ns mainGlobals mg->fE l.prog w (K w.params) mg base (CX w) k fa fd [x] (sp w))
  (hsp:∀ (w:World) (H:Hp) (a:Addr) (ns:List Int),ns.length<=n->DP H->SqL (K w.params) H a (ns.map V.int)->sp w [.ref a] H (λv _=>v = .bl true) λ_ _ _=>False)
  (hCX:∀ (w:World) (H:Hp) (s:Shared) (e:Value) (s':Shared),CX w [] H s (λ_ _ _=>False) e s'->False):
  PySem.W.WalkO q loose XP YP l.row.toRowW d [] (λf vs=>PySem.call f vs):=by
 refine Att.vC hn hdf λw s₀ s₁ mg mb fa o pm cd doc a vs ns G Y ho hd hcd hmg Dr hints hlen hg=>?_
 have KX:=hY w _ Y
 obtain⟨fd,hb,hF⟩:=F w mg fa _ KX G.T.g hmg
 exact zM KX G.T.g G.T.b G.T.builtins G.T.nolimit hg Dr hints (bF hlen hn2) hr hF hb (λH hO hS=>hsp w H a ns hlen hO hS) λH e s'=>hCX w H s₁ e s'
def kj (s:Stmt):Arguments:=match s with
 |.FunctionDef _ a _ _ _ _ _ _ _ _=>a
 |_=>{posonlyargs:=[],args:=[],vararg:=none,kwonlyargs:=[],kw_defaults:=[],kwarg:=none,defaults:=[]}
def ju (s:Stmt):List Stmt:=match s with
 |.FunctionDef _ _ b _ _ _ _ _ _ _=>b
 |_=>[]
def fj (s:Stmt):Scope:=match s with
 |.FunctionDef _ _ _ _ _ _ sc _ _ _=>sc
 |_=>{kind:=.function,names:=[],isGenerator:=false,isCoroutine:=false}
abbrev CX0:CXT:=λ_ _ _ _ _ _=>False
abbrev E0:XK:=λ_ _ _=>False
theorem fR {X:Cx} :Passes CX0 X E0:=λ_ _ _ _ _ _ _ h=>h.elim
structure Fun (K:PySem.W.Frag)(x qual:Str)(st:Stmt)(f:Addr)(fd:FuncData):Prop where
 ex:∃ (oc:Value) (od:Option Addr) (kV doc pm:Value) (an:Option Addr) (cdv ct:Value) (osl:Array (Option Value)),
  fd=PySem.W.fnOf x qual (kj st) (ju st) (fj st) .none kV doc pm an cdv ct/\K.lookup f=some ⟨oc,od,.func fd,osl⟩/\PySem.W.codeIn K cdv qual=true
 kp:PySem.W.keepIn K (.ref f)=true
section
variable {P:Program}{w:World}{K:PySem.W.Frag}{mg:Str->Option Value}{base:Heap}
theorem Fun.ok {x qual:Str}{st:Stmt}{f:Addr}{fd:FuncData}{N ps:List Str}{k:Nat}{sp:Sp}(F:Fun K x qual st f fd)(S:fH N ps (fj st))(len:∀ vs H Q E,sp vs H Q E->vs.length=ps.length)
  (u0:∀ (cdv:Value) (A:Around) (outer:List Env) (s:Shared) (H:Hp) (vs:List V) (Q:VK) (E:XK),kP k (A.deeper (envOfC qual (fj st) s.heap.objs.size f cdv))->sp vs H Q E->
   ∃ t,PSs (tX CX0 P w K mg base N qual (fj st) f cdv A outer s H E).nox (ju st) t/\t {nx:=λ_ H'=>Q .non H',rt:=Q} (start N vs) H):fE P w K mg base CX0 (k+1) f fd ps sp:=by
 obtain⟨oc,od,kV,doc,pm,an,cdv,ct,osl,rfl,lk,hcd⟩:=F.ex
 refine B4 lk hcd S len λA outer s H vs Q E hr hsp=>?_
 obtain⟨t,h,q⟩:=u0 cdv A outer s H vs Q E hr hsp
 exact⟨t,h.nox,q⟩
theorem Fun.binds {x qual:Str}{st:Stmt}{f:Addr}{fd:FuncData}{ps:List Str}(F:Fun K x qual st f fd)
  (h:∀ (kV doc pm:Value) (an:Option Addr) (cdv ct:Value) (us:List Value),us.length=ps.length->bindArgs (PySem.W.fnOf x qual (kj st) (ju st) (fj st) .none kV doc pm an cdv ct) ⟨us,[]⟩=pure (ps.zip us)):Binds K fd ps []:=by
 obtain⟨oc,od,kV,doc,pm,an,cdv,ct,osl,rfl,lk,hcd⟩:=F.ex
 exact .all (h kV doc pm an cdv ct)
theorem Ag {x qual:Str}{st:Stmt}{f:Addr}{oc:Value}{od an:Option Addr}{osl:Array (Option Value)}{kV doc pm cdv ct:Value}(l:K.lookup f=some ⟨oc,od,.func (PySem.W.fnOf x qual (kj st) (ju st) (fj st) .none kV doc pm an cdv ct),osl⟩)
  (c:PySem.W.codeIn K cdv qual=true) (k:PySem.W.keepIn K (.ref f)=true):Fun K x qual st f (PySem.W.fnOf x qual (kj st) (ju st) (fj st) .none kV doc pm an cdv ct):=⟨⟨oc,od,kV,doc,pm,an,cdv,ct,osl,rfl,l,c⟩,k⟩
end
theorem lH {A:Around}{k:Nat}(hr:kP k A):A.units+1<cLine:=eB (Nat.add_le_add_left (by decide:1<=64) _) hr.units
section
variable {X:Cx}
theorem pv (i:Nat){x:Str}{pos:Pos}(hN:X.N[i]? = some x:=by rfl)(hv:Vis X.env.scope x:=by first |exact Or.inl rfl |exact Or.inr (Or.inl rfl)|exact Or.inr (Or.inr rfl))(hd:(x==("__debug__" :Str))=false:=by decide)
  (hcd:(x==("__classdict__" :Str))=false:=by decide):PE X (.Name x pos) (Ea i):=CF hN hv hd hcd
end
theorem pF {A B:Prop}(h:B):if false=true then A else B:=by
 rw[au aU]
 exact h
theorem C9 {A B:Prop}(h:A):if true=true then A else B:=by
 rw[aD rfl]
 exact h
theorem gN {c A B:Prop} [Decidable c] (h1:c->A)(h2:¬c->B):if c then A else B:=by
 by_cases h:c
 ·rw[aD h]
  exact h1 h
 ·rw[au h]
  exact h2 h
def fi (H H':Hp):Prop:=∀ b o,H b=some o->H' b=some o
theorem fi.refl (H:Hp):fi H H:=λ_ _ h=>h
theorem fi.trans {H H1 H2:Hp}(a:fi H H1)(b:fi H1 H2):fi H H2:=λc o h=>b c o (a c o h)
theorem fi.free {H H':Hp}(e:fi H H'){l:Addr}(h:H' l=Option.none):H l=Option.none:=by
 cases q:H l with
 |none=>rfl
 |some o=>
  rw[e l o q]at h
  cases h
theorem fi.seq {K:PySem.W.Frag}{H H':Hp}{a:Addr}{xs:List V}(e:fi H H')(h:SqL K H a xs):SqL K H' a xs:=by
 rcases h with(h |⟨o,h⟩)|h
 ·exact .inl (.inl (e _ _ h))
 ·exact .inl (.inr ⟨o,e _ _ h⟩)
 ·exact .inr h
section
variable {κ:Type} [DecidableEq κ]
def ic (kvs:List (κ×V))(k:κ):Option V:=(kvs.find? λkv=>decide (kv.1=k)).map (·.2)
def putK (kvs:List (κ×V))(k:κ)(v:V):List (κ×V):=
 if(kvs.any λkv=>decide (kv.1=k))=true then kvs.map (λkv=>if kv.1=k then(kv.1,v)else kv)else kvs ++ [(k,v)]
theorem pZ {p:κ×V}{r:List (κ×V)}{k:κ}(e:p.1=k):ic (p::r) k=some p.2:=by simp[ic,cF,e]
theorem p6 {p:κ×V}{r:List (κ×V)}{k:κ}(e:¬p.1=k):ic (p::r) k=ic r k:=by simp[ic,cF,e]
theorem nM (k:κ):∀ kvs:List (κ×V),(kvs.any λkv=>decide (kv.1=k))=(ic kvs k).isSome
 |[]=>rfl
 |p::r=>by
  rw[List.any_cons]
  by_cases e:p.1=k
  ·simp only[pZ e,aX e,Bool.true_or,Option.isSome_some]
  ·rw[p6 e,aR e,Bool.false_or];exact nM k r
theorem lS (kvs:List (κ×V))(k:κ)(v:V):(putK kvs k v).length<=kvs.length+1:=by
 unfold putK
 split
 ·rw[aa];omega
 ·rw[ah,aY,List.length_nil];omega
theorem nU {kvs:List (κ×V)}{k:κ}(v:V)(h:ic kvs k=none):putK kvs k v=kvs ++ [(k,v)]:=by
 unfold putK
 rw[nM,h]
 exact au (by decide)
theorem qZ.oJ {o:Option V}{u:Option Value}(r:qZ o u):o.isSome=u.isSome:=by
 cases o with
 |none=>cases u with
  |none=>rfl
  |some _=>exact(show False from r).elim
 |some _=>cases u with
  |none=>exact(show False from r).elim
  |some _=>rfl
theorem KV.val {kvs:List (κ×V)}{vs:List (κ×Value)}(r:KV kvs vs)(k:κ):qZ (ic kvs k) (valueAt vs k):=by
 unfold KV at r
 induction r with
 |nil=>exact True.intro
 |@cons p q ps qs h t ih=>
  obtain⟨h1,h2⟩:=h
  by_cases e:p.1=k
  ·have e':q.1=k:=h1.symm.trans e
   have b:valueAt (q::qs) k=some q.2:=by simp[valueAt,cF,e']
   rw[pZ e,b];exact h2
  ·have e':¬q.1=k:=λz=>e (h1.trans z)
   have b:valueAt (q::qs) k=valueAt qs k:=by simp[valueAt,cF,e']
   rw[p6 e,b];exact ih
theorem KV.any {kvs:List (κ×V)}{vs:List (κ×Value)}(r:KV kvs vs)(k:κ):(kvs.any λkv=>decide (kv.1=k))=vs.any λkv=>decide (kv.1=k):=by
 unfold KV at r
 induction r with
 |nil=>rfl
 |cons h t ih=>rw[List.any_cons,List.any_cons,ih,h.1]
theorem KV.Cw {kvs:List (κ×V)}{vs:List (κ×Value)}(r:KV kvs vs)(k:κ){y:V}{u:Value}(ry:RelV y u):
  KV (kvs.map λkv=>if kv.1=k then(kv.1,y)else kv) (vs.map λkv=>if kv.1=k then(kv.1,u)else kv):=by
 unfold KV at r ⊢
 induction r with
 |nil=>exact .nil
 |@cons p q ps qs h t ih=>
  rw[aM,aM]
  refine .cons ?_ ih
  obtain⟨h1,h2⟩:=h
  by_cases e:p.1=k
  ·rw[aD e,aD (h1.symm.trans e)];exact⟨h1,ry⟩
  ·rw[au e,au (λz=>e (h1.trans z))];exact⟨h1,h2⟩
theorem KV.put {kvs:List (κ×V)}{vs:List (κ×Value)}(r:KV kvs vs)(k:κ){y:V}{u:Value}(ry:RelV y u):KV (putK kvs k y) (stored vs k u):=by
 unfold putK stored
 rw[r.any k]
 by_cases e:(vs.any λkv=>decide (kv.1=k))=true
 ·rw[aD e,aD e];exact r.Cw k ry
 ·rw[au e,au e];exact Paired.snoc r ⟨rfl,ry⟩
theorem KV.length {kvs:List (κ×V)}{vs:List (κ×Value)}(r:KV kvs vs):kvs.length=vs.length:=er r
end
theorem xl {P:Program}{w:World}{k:Key}{u:Value}(r:RelV (kV k) u):(gP P w).is k u=true:=by
 cases k with
 |inl i=>obtain⟨t,e⟩:=(show ∃ t,u=Value.int i t from r);subst e;exact uT P w i t
 |inr x=>obtain⟨t,e⟩:=(show ∃ t,u=Value.str x t from r);subst e;exact uS P w x t
theorem sq {P:Program}{w:World} :∀ {ks:List Key}{us:List Value},Vals (ks.map kV) us->ItemsAre (gP P w) ks us
 |[],_,r=>by rw[List.map_nil]at r;cases r;exact .nil
 |k::ks,_,r=>by
  rw[aM]at r
  cases r with
  |cons h t=>exact .cons (xl h) (sq t)
abbrev KT (H:Hp):List (List Key×V)->List (List Key×Addr×Value)->Prop:=Paired λp q=>p.1=q.1/\H q.2.1=some (.tup (p.1.map kV))/\RelV p.2 q.2.2
theorem KT.val {H:Hp}{kvs:List (List Key×V)}{xs:List (List Key×Addr×Value)}(r:KT H kvs xs)(k:List Key):qZ (ic kvs k) ((atKey xs k).map (·.2)):=by
 induction r with
 |nil=>exact True.intro
 |@cons p q ps qs h t ih=>
  obtain⟨h1,_,h2⟩:=h
  by_cases e:p.1=k
  ·have e':q.1=k:=h1.symm.trans e
   have b:atKey (q::qs) k=some q.2:=by simp[atKey,cF,e']
   rw[pZ e,b];exact h2
  ·have e':¬q.1=k:=λz=>e (h1.trans z)
   have b:atKey (q::qs) k=atKey qs k:=by simp[atKey,cF,e']
   rw[p6 e,b];exact ih
theorem KT.Cw {H:Hp}{kvs:List (List Key×V)}{xs:List (List Key×Addr×Value)}(r:KT H kvs xs)(k:List Key){y:V}{u:Value}(ry:RelV y u):
  KT H (kvs.map λkv=>if kv.1=k then(kv.1,y)else kv) (xs.map (putAt k u)):=by
 induction r with
 |nil=>exact .nil
 |@cons p q ps qs h t ih=>
  rw[aM,aM]
  refine .cons ?_ ih
  obtain⟨h1,h2,h3⟩:=h
  unfold putAt
  by_cases e:p.1=k
  ·rw[aD e,aD (h1.symm.trans e)];exact⟨h1,h2,ry⟩
  ·rw[au e,au (λz=>e (h1.trans z))];exact⟨h1,h2,h3⟩
theorem KT.put {H:Hp}{kvs:List (List Key×V)}{xs:List (List Key×Addr×Value)}(r:KT H kvs xs)(k:List Key){b:Addr}{y:V}{u:Value}(hb:H b=some (.tup (k.map kV)))(ry:RelV y u):
  KT H (putK kvs k y) (storedH xs k b u):=by
 have e:(kvs.any λkv=>decide (kv.1=k))=(atKey xs k).isSome:=by
  rw[nM,(r.val k).oJ,Option.isSome_map]
 unfold putK storedH
 rw[e]
 by_cases q:(atKey xs k).isSome=true
 ·rw[aD q,aD q];exact r.Cw k ry
 ·rw[au q,au q];exact Paired.snoc r ⟨rfl,hb,ry⟩
theorem KT.keeps {H H':Hp}{kvs:List (List Key×V)}{xs:List (List Key×Addr×Value)}(r:KT H kvs xs)(ht:∀ b ys,H b=some (.tup ys)->H' b=some (.tup ys)):KT H' kvs xs:=
 Paired.CT r λ_ _ z=>⟨z.1,ht _ _ z.2.1,z.2.2⟩
section
variable {P:Program}{w:World}{H:Hp}{h:Heap}{a:Addr}
theorem BR {u:HO}(ok:HOk P w H h)(e:Rd H a u):gB P w H h a u:=e.ok ok
theorem xw {kvs:List (Key×V)}(ok:HOk P w H h)(e:Rd H a (.dK kvs)):kvs.length<=sizeLine/\(a==sysModules)=false/\∃ vs,KV kvs vs/\h.DictOf (gP P w) a vs:=
 show gB P w H h a (.dK kvs) from BR ok e
theorem Fm {kvs:List (Key×V)}(ok:HOk P w H h)(e:H a=some (.dK kvs)):kvs.length<=sizeLine/\(a==sysModules)=false/\∃ vs,KV kvs vs/\h.DictOf (gP P w) a vs:=xw ok (.inl e)
theorem qH {ks:List Key}(ok:HOk P w H h)(e:H a=some (.tup (ks.map kV))):(tupleKind (gP P w)).is h ks a:=by
 obtain⟨_,its,r,o,h1,h2,n,h3⟩:=(show gB P w H h a (.tup (ks.map kV)) from ok a _ e)
 exact⟨o,its.toArray,n,h1,h2,h3,by simpa using sq r⟩
theorem xu {kvs:List (List Key×V)}(ok:HOk P w H h)(e:Rd H a (.dT kvs)):kvs.length<=sizeLine/\(a==sysModules)=false/\
  ∃ xs,KT H kvs xs/\h.DictOfH (tupleKind (gP P w)) a xs:=by
 obtain⟨z,y,xs,r,o,es,ep,h1,h2,h3,h4,h5⟩:=(show gB P w H h a (.dT kvs) from BR ok e)
 refine⟨z,y,xs,r,o,es,ep,h1,h2,h3,h4,λx hx=>?_,h5⟩
 have all:∀ {l:List (List Key×V)}{m:List (List Key×Addr×Value)},KT H l m->∀ x∈m,(tupleKind (gP P w)).is h x.1 x.2.1:=by
  intro l m q
  induction q with
  |nil=>intro x hx;exact nomatch hx
  |@cons p q ps qs hq t ih=>
   intro x hx
   rcases aJ.mp hx with e |hx
   ·subst e
    exact qH ok (by rw[<-hq.1];exact hq.2.1)
   ·exact ih x hx
 exact all r x hx
theorem B7 {kvs:List (List Key×V)}(ok:HOk P w H h)(e:H a=some (.dT kvs)):kvs.length<=sizeLine/\(a==sysModules)=false/\
  ∃ xs,KT H kvs xs/\h.DictOfH (tupleKind (gP P w)) a xs:=xu ok (.inl e)
end
def o9 (H:Hp)(a:Addr)(y:V)(r:Option V):Prop:=
 (∃ kvs k,Rd H a (.dK kvs)/\y=kV k/\r=ic kvs k)\/∃ kvs k b,Rd H a (.dT kvs)/\y = .ref b/\H b=some (.tup (k.map kV))/\r=ic kvs k
def vH (H:Hp)(a:Addr)(y v:V)(H':Hp):Prop:=
 (∃ kvs k,H a=some (.dK kvs)/\y=kV k/\kvs.length<sizeLine/\H'=upd H a (.dK (putK kvs k v)))\/
 ∃ kvs k b,H a=some (.dT kvs)/\y = .ref b/\H b=some (.tup (k.map kV))/\kvs.length<sizeLine/\H'=upd H a (.dT (putK kvs k v))
theorem o9.t {H:Hp}{a b:Addr}{kvs:List (List Key×V)}{k:List Key}(e:H a=some (.dT kvs))(eb:H b=some (.tup (k.map kV))):o9 H a (.ref b) (ic kvs k):=.inr ⟨kvs,k,b,.inl e,rfl,eb,rfl⟩
theorem vH.t {H:Hp}{a b:Addr}{kvs:List (List Key×V)}{k:List Key}{v:V}(e:H a=some (.dT kvs))(eb:H b=some (.tup (k.map kV)))(hl:kvs.length<sizeLine):
  vH H a (.ref b) v (upd H a (.dT (putK kvs k v))):=.inr ⟨kvs,k,b,e,rfl,eb,hl,rfl⟩
section
variable {X:Cx}{pins:List (Addr×Obj)}{σ:St}{H:Hp}{s:Shared}{a:Addr}{y v:V}{u r:Value}{o:Option V}{A:Around}{E:Value->Shared->Prop}
theorem Inv.big (I:Inv X pins σ H s):sysModules<s.heap.objs.size:=by
 have h:mainGlobals<s.heap.objs.size:=(I.mod.glob.keeps I.bk).lt
 exact Nat.lt_trans (by decide) h
theorem yx {Q:Value->Shared->Prop}(hu:A.units+1<cLine)(I:Inv X pins σ H s)(g:o9 H a y (some v))(ry:RelV y u)(h:∀ w' s',Inv X pins σ H s'->RelV v w'->Q w' s'):
  wpAny (model X.prog X.w) A (getItem (.ref a) u) Q E s:=by
 rcases g with⟨kvs,k,e,ey,l⟩|⟨kvs,k,b,e,ey,eb,l⟩
 ·subst ey
  obtain⟨z,hd,vs,rel,dd⟩:=xw I.hok e
  obtain⟨w',hw,rw'⟩:=qZ.some_of (v:=v) (o:=valueAt vs k) (by rw[l];exact rel.val k)
  exact wpAny_getItem_of (xl ry) dd.mapOf hw (h w' _ (I.tok _) rw')
 ·subst ey
  cases(show u=Value.ref b from ry)
  obtain⟨z,hd,xs,rel,dd⟩:=xu I.hok e
  obtain⟨w',hw,rw'⟩:=qZ.some_of (v:=v) (o:=(atKey xs k).map (·.2)) (by rw[l];exact rel.val k)
  obtain⟨p,hp,hp2⟩:=Option.map_eq_some_iff.mp hw
  refine wpAny_getItem_heap (tupleKind_room_in1 hu) (qH I.hok eb) dd hp ?_
  rw[hp2]
  exact h w' _ (I.tok _) rw'
theorem BE {Q:Value->Shared->Prop}(hu:A.units+1<cLine)(I:Inv X pins σ H s)(g:o9 H a y o)(ry:RelV y u)(h:∀ s',Inv X pins σ H s'->Q (.bool (!o.isSome)) s'):
  wpAny (model X.prog X.w) A (compareOp .NotIn u (.ref a)) Q E s:=by
 rcases g with⟨kvs,k,e,ey,l⟩|⟨kvs,k,b,e,ey,eb,l⟩
 ·subst ey
  obtain⟨z,hd,vs,rel,dd⟩:=xw I.hok e
  refine wpAny_notIn_of (xl ry) hd dd.mapOf ?_
  rw[<-(rel.val k).oJ,<-l]
  exact h _ (I.tok _)
 ·subst ey
  cases(show u=Value.ref b from ry)
  obtain⟨z,hd,xs,rel,dd⟩:=xu I.hok e
  refine wpAny_notIn_heap (tupleKind_room_in1 hu) (qH I.hok eb) hd dd ?_
  have q:=(rel.val k).oJ
  rw[Option.isSome_map]at q
  rw[<-q,<-l]
  exact h _ (I.tok _)
theorem tW {h':Heap}{t':Nat}{ob:HO}(I:Inv X pins σ H s)(mu:Mut (H a))(hs:Heap.SameBut a s.heap h')(he:∃ q,h'.get? a=some q)(new:gB X.prog X.w (upd H a ob) h' a ob):
  Inv X pins σ (upd H a ob) {s with heap:=h',toks:=t'} :=
 I.write (x:=a) (e:=a) mu (.inl rfl) (λb q hb z=>(hs.2 b hb).trans z) he new
theorem DE {P:Program}{w:World}{H':Hp}{h':Heap}{kvs:List (Key×V)}{vs:List (Key×Value)}(z:kvs.length<=sizeLine)(hd:(a==sysModules)=false)(rel:KV kvs vs)(dd:h'.DictOf (gP P w) a vs):
  gB P w H' h' a (.dK kvs):=⟨z,hd,vs,rel,dd⟩
theorem yw {H':Hp}{Q:Unit->Shared->Prop}(hu:A.units+1<cLine)(I:Inv X pins σ H s)(g:vH H a y v H')(ry:RelV y u)(rv:RelV v r)(h:∀ s',Inv X pins σ H' s'->Q () s'):
  wpAny (model X.prog X.w) A (setItem (.ref a) u r) Q E s:=by
 rcases g with⟨kvs,k,e,ey,l,eH⟩|⟨kvs,k,b,e,ey,eb,l,eH⟩
 ·subst ey eH
  obtain⟨z,hd,vs,rel,dd⟩:=Fm I.hok e
  have hz:vs.length<=sizeLine:=by rw[<-rel.length];exact z
  have hl:(putK kvs k v).length<=sizeLine:=by have:=lS kvs k v;omega
  refine wpAny_setItem_pairs (hsz:=hz) (xl ry) dd λh' dd' hs=>h _ ?_
  have he:∃ q,h'.get? a=some q:=let ⟨q,_,_,hq,_⟩:=dd';⟨q,hq⟩
  exact tW I (by rw[e];exact True.intro) hs he (DE hl hd (rel.put k rv) dd')
 ·subst ey eH
  cases(show u=Value.ref b from ry)
  obtain⟨z,hd,xs,rel,dd⟩:=B7 I.hok e
  have hz:xs.length<=sizeLine:=by rw[<-er rel];exact z
  have hl:(putK kvs k v).length<=sizeLine:=by have:=lS kvs k v;omega
  refine wpAny_setItem_heap (hsz:=hz) (tupleKind_room_in1 hu) (qH I.hok eb) dd λh' dd' hs=>h _ ?_
  obtain⟨q,es,ep,hq,h2,h3,h4,_,h5⟩:=dd'
  refine tW I (by rw[e];exact True.intro) hs ⟨q,hq⟩ ⟨hl,hd,_,(rel.put k eb rv).keeps λc ys ec=>?_,q,es,ep,hq,h2,h3,h4,h5⟩
  rw[fc (gw ec e (λz=>nomatch z))]
  exact ec
end
section
variable {X:Cx}{pins:List (Addr×Obj)}{σ:St}{H:Hp}{s:Shared}{a:Addr}{kvs:List (Key×V)}{k:Key}{u:Value}{A:Around}{E:Value->Shared->Prop}
end
def Fz (i:Expr):Prop:=∀ ov iv,subscripted i false ov iv=operate [ov,iv] (getItem ov iv)
theorem AM {prog:Program}{w:World}{A:Around}{E:Value->Shared->Prop}{s:Shared}{env:Env}{value slice:Expr}{pos:Pos}{T id:String}{Q:Value->Shared->Prop}
  (hl:typeLookup (.type T) "__getitem__" = pure (some (.builtin id))) (hs:Fz slice)
  (h:wpAny (model prog w) A (eval value env) (λo s₁=>wpAny (model prog w) A (eval slice env) (λi s₂=>s₂.TypeIs o T/\wpAny (model prog w) A (getItem o i) Q E s₂) E s₁) E s):
  wpAny (model prog w) A (eval (.Subscript value slice pos) env) Q E s:=by
 refine Subscript_ (bR h (λo s₁ h₁=>bR h₁ (λi s₂ h₂=>?_) λ_ _ x=>x) λ_ _ x=>x)
 obtain⟨hT,h₂⟩:=h₂
 unfold subscriptTail
 refine ai ?_
 rw[getitemInPython_of_ne hT.not_modules]
 refine ai (wpAny_specialOf hT hl ?_)
 have fin:wpAny (model prog w) A (subscripted slice false o i) (λr s₃=>wpAny (model prog w) A (letTemporaryGo value o r >>= λ_=>pure r) Q E s₃) E s₂:=by
  rw[hs o i]
  exact wpAny_operating (bR h₂ (λr s₃ h₃=>ai (wpAny_letTemporaryGo (aB h₃))) λ_ _ x=>x)
 first
  |exact aB (ai fin)
  |exact ai (aB (ai fin))
  |exact ai fin
theorem vj {X:Cx}{pins:List (Addr×Obj)}{σ:St}{H:Hp}{s:Shared}{a:Addr}{y:V}{o:Option V}(I:Inv X pins σ H s)(g:o9 H a y o):s.TypeIs (.ref a) "dict" :=by
 rcases g with⟨kvs,k,e,_,_⟩|⟨kvs,k,b,e,_,_,_⟩
 ·obtain⟨_,_,vs,_,dd⟩:=xw I.hok e
  exact dd.typeIs
 ·obtain⟨_,_,xs,_,dd⟩:=xu I.hok e
  exact dd.typeIs
def Eg (td ty:TE):TE:=λσ H Q=>td σ H λx H1=>ty σ H1 λy H2=>∃ a v,x = .ref a/\o9 H2 a y (some v)/\Q v H2
def AL (ty td:TE):TE:=λσ H Q=>ty σ H λy H1=>td σ H1 λx H2=>∃ a o,x = .ref a/\o9 H2 a y o/\Q (.bl (!o.isSome)) H2
def Eo (td ty tv:TE):TS:=λD σ H=>tv σ H λv H1=>td σ H1 λx H2=>ty σ H2 λy H3=>∃ a H4,x = .ref a/\vH H3 a y v H4/\D.nx σ H4
section
variable {X:Cx}{o i e value:Expr}{pos pos' D7:Pos}{td ty tv:TE}
theorem xh (hu:X.A.units+1<cLine)(ho:PE X o td)(hi:PE X i ty)(hs:Fz i):PE X (.Subscript o i pos) (Eg td ty):=by
 intro pins s σ H Q I h
 refine AM PySem.F.slot_dict_getitem.lookup hs (thn (ho pins s σ H _ I h) λu s1 ⟨x,H1,I1,rx,q1⟩=>thn (hi pins s1 σ H1 _ I1 q1) λiv s2 ⟨y,H2,I2,ry,a,v,ex,g,q2⟩=>?_)
 subst ex
 obtain rfl:u=Value.ref a:=rx
 exact⟨vj I2 g,yx hu I2 g ry λw' s3 I3 rw'=>⟨v,H2,I3,rw',q2⟩⟩
theorem mS (hu:X.A.units+1<cLine)(hi:PE X i ty)(ho:PE X o td):PC X .NotIn i o (AL ty td):=by
 intro pins s σ H Q I h
 refine thn (hi pins s σ H _ I h) λiv s1 ⟨y,H1,I1,ry,q1⟩=>thn (ho pins s1 σ H1 _ I1 q1) λu s2 ⟨x,H2,I2,rx,a,ov,ex,g,q2⟩=>?_
 subst ex
 obtain rfl:u=Value.ref a:=rx
 exact BE hu I2 g ry λs3 I3=>⟨.bl (!ov.isSome),H2,I3,rfl,q2⟩
theorem pO (hu:X.A.units+1<cLine)(ho:PE X o td)(hi:PE X i ty)(hv:PE X value tv)(hs:swapsWith value (some (.Subscript o i pos')) pos.line X.env=pure false):
  PS X (.Assign [.Subscript o i pos'] value pos) (Eo td ty tv):=by
 intro pins s σ H D I h
 refine wpAny_Assign_Subscript (thn (hv pins s σ H _ I h) λr s1 ⟨v,H1,I1,rv,q1⟩=>thn (ho pins s1 σ H1 _ I1 q1) λu s2 ⟨x,H2,I2,rx,q2⟩=>thn (hi pins s2 σ H2 _ I2 q2) λiv s3 ⟨y,H3,I3,ry,a,H4,ex,g,q3⟩=>?_) hs
 subst ex
 obtain rfl:u=Value.ref a:=rx
 exact yw hu I3 g ry rv λs4 I4=>⟨σ,H4,I4,q3⟩
end
theorem vi {P:Program}{w:World}{H:Hp}(h:Heap)(hb:sysModules<h.objs.size):gB P w H (h.push {cls:=.type "dict",data:=.dict #[]}) h.objs.size (.dT []):=
 ⟨aW _,beq_eq_false_iff_ne.mpr (b9 (bo hb)),[],.nil,_,#[],0,ba _ rfl,⟨rfl,rfl,rfl⟩,rfl,rfl,List.nodup_nil⟩
def Ck:TE:=λ_ H Q=>∀ p,H p=none->Q (.ref p) (upd H p (.dT []))
section
variable {X:Cx}{pos:Pos}
theorem uH:PE X (.Dict [] [] pos) Ck:=λpins s σ H Q I h=>
 wpAny_Dict_empty ⟨.ref s.heap.objs.size,_,I.laid (a:=s.heap.objs.size) (o:=.dT []) (t':=s.toks) (λ_ _ q=>aH _ q) (aq _) (vi s.heap I.big),rfl,h _ (I.hok.fresh (aq _))⟩
end
def vL:List (TE×TE)->St->Hp->(List (V×V)->Hp->Prop)->Prop
 |[],_,H,Q=>Q [] H
 |(tk,tv)::r,σ,H,Q=>tk σ H λx H1=>tv σ H1 λy H2=>vL r σ H2 λps H3=>Q ((x,y)::ps) H3
abbrev VV:List (V×V)->List (Value×Value)->Prop:=Paired λp q=>RelV p.1 q.1/\RelV p.2 q.2
def PPs (X:Cx)(pos:Pos)(keys:List (Option Expr))(values:List Expr)(trs:List (TE×TE)):Prop:=
 ∀ (pins:List (Addr×Obj)) (s:Shared) (σ:St) (H:Hp) (Q:List (V×V)->Hp->Prop),Inv X pins σ H s->vL trs σ H Q->
  wpAny (model X.prog X.w) X.A (evalPairs (pairTrees keys values X.env pos)) (λvs s'=>∃ ps H',Inv X pins σ H' s'/\VV ps vs/\Q ps H') X.xe s
theorem AZ {X:Cx}{pos:Pos} :PPs X pos [] [] []:=λpins s σ H Q I h=>pairTrees_nil_walk ⟨[],H,I,.nil,h⟩
theorem zj {X:Cx}{pos:Pos}{k v:Expr}{ks:List (Option Expr)}{vs:List Expr}{tk tv:TE}{trs:List (TE×TE)}(hk:PE X k tk)(hv:PE X v tv)(hr:PPs X pos ks vs trs):
  PPs X pos (some k::ks) (v::vs) ((tk,tv)::trs):=λpins s σ H Q I h=>
 pairTrees_cons_walk (thn (hk pins s σ H _ I h) λu s1 ⟨x,H1,I1,rx,q1⟩=>thn (hv pins s1 σ H1 _ I1 q1) λw2 s2 ⟨y,H2,I2,ry,q2⟩=>
  thn (hr pins s2 σ H2 _ I2 q2) λws s3 ⟨ps,H3,I3,rel,q3⟩=>⟨(x,y)::ps,H3,I3,.cons ⟨rx,ry⟩ rel,q3⟩)
section
variable {X:Cx}{pins:List (Addr×Obj)}{σ:St}{H:Hp}{s:Shared}{a:Addr}{y d:V}{u r:Value}{o:Option V}{A:Around}{E:Value->Shared->Prop}
end
section
variable {X:Cx}{o e f:Expr}{apos lI:Pos}{td ty tx:TE}
end
section
variable {X:Cx}{pins:List (Addr×Obj)}{σ:St}{H:Hp}{s:Shared}{a:Addr}{kvs:List (Key×V)}{A:Around}{E:Value->Shared->Prop}
end
section
variable {X:Cx}{pins:List (Addr×Obj)}{σ:St}{H:Hp}{s:Shared}{a:Addr}{y:V}{u:Value}{A:Around}{E:Value->Shared->Prop}
end
end L2
namespace TL
open PySem
theorem qM {α β:Type}{f:α->β->Sem (ForInStep β)}(P:List α->β->Prop)
  (step:∀ x l c,P (x::l) c->∃ c',f x c=pure (.yield c')/\P l c'):∀ (l:List α) (c:β),P l c->∃ c',forIn l c f=pure c'/\P [] c'
 |[],c,h=>⟨c,rfl,h⟩
 |x::l,c,h=>by
  obtain⟨c1,e,h1⟩:=step x l c h
  obtain⟨c2,e2,h2⟩:=qM P step l c1 h1
  refine⟨c2,?_,h2⟩
  rw[List.forIn_cons,e,pure_bind]
  exact e2
theorem qQ {scope:Scope}{env:Env}(h:∀ y∈scope.names,y.2 = .free->∃ c,env.cells.lookup y.1=some c):
  ∃ cl,closureFor scope env=pure cl/\(∀ x c,cl.lookup x=some c->env.cells.lookup x=some c)/\(∀ y∈scope.names,y.2 = .free->∃ c,cl.lookup y.1=some c):=by
 let P:List (Str×NameKind)->List (Str×Addr)->Prop:=λl c=>(∀ y∈l,y.2 = .free->∃ c,env.cells.lookup y.1=some c)/\(∀ x a,c.lookup x=some a->env.cells.lookup x=some a)/\
  (∀ y∈scope.names,y.2 = .free->y∈l\/∃ a,c.lookup y.1=some a)
 simp only[closureFor]
 obtain⟨cl,e,_,h2,h3⟩:=qM (f:=λ(x:Str×NameKind) (r:List (Str×Addr))=>if(x.2==NameKind.free)=true then cellOf env x.1 >>= λc=>pure (ForInStep.yield ((x.1,c)::r))else pure (ForInStep.yield r)) P (by
  rintro⟨n,k⟩ l c ⟨p1,p2,p3⟩
  by_cases hk:k = .free
  ·subst hk
   obtain⟨a,ha⟩:=p1 _ ar rfl
   refine⟨(n,a)::c,?_,λy hy=>p1 y (aC _ hy),λx b hb=>?_,λy hy hf=>?_⟩
   ·have ha':env.cells.lookup n=some a:=ha
    simp[cellOf,ha']
   ·rw[bN]at hb
    by_cases hx:(x==n)=true
    ·rw[hx]at hb
     have e1:x=n:=by simpa using hx
     subst e1
     cases hb
     exact ha
    ·have hx':(x==n)=false:=by simpa using hx
     rw[hx']at hb
     exact p2 x b hb
   ·by_cases hx:(y.1==n)=true
    ·exact .inr ⟨a,by rw[bN,hx]⟩
    ·have hx':(y.1==n)=false:=by simpa using hx
     rcases p3 y hy hf with q |⟨b,q⟩
     ·rcases aJ.mp q with q |q
      ·exact absurd (by rw[q];simp) hx
      ·exact .inl q
     ·exact .inr ⟨b,by rw[bN,hx'];exact q⟩
  ·refine⟨c,?_,λy hy=>p1 y (aC _ hy),p2,λy hy hf=>?_⟩
   ·have:(k==NameKind.free)=false:=by simpa using hk
    simp[this]
   ·rcases p3 y hy hf with q |q
    ·rcases aJ.mp q with q |q
     ·subst q;exact absurd hf hk
     ·exact .inl q
    ·exact .inr q) scope.names [] ⟨h,λx a hx=>by simp at hx,λy hy _=>.inl hy⟩
 refine⟨cl,?_,h2,λy hy hf=>?_⟩
 ·refine Eq.trans ?_ (cB (λt:Sem (List (Str×Addr))=>t >>= λr=>pure r) e)
  rfl
 ·rcases h3 y hy hf with q |q
  ·cases q
  ·exact q
theorem jH {env:Env} :∀ {names:List (Str×NameKind)}{x:Str},names.lookup x=some .free->
  (names.map λ(n,k)=>if(k==NameKind.free&&env.scope.kind == .function&&env.kindOf n==some .cell)then(n,NameKind.cell)else(n,k)).lookup x=some .cell\/
  (names.map λ(n,k)=>if(k==NameKind.free&&env.scope.kind == .function&&env.kindOf n==some .cell)then(n,NameKind.cell)else(n,k)).lookup x=some .free
 |[],_,h=>by simp at h
 |(n,k)::r,x,h=>by
  have ih:=@jH env r x
  show List.lookup x ((if(k==NameKind.free&&env.scope.kind == .function&&env.kindOf n==some .cell)=true then(n,NameKind.cell)else(n,k))::_)=_\/List.lookup x ((if(k==NameKind.free&&env.scope.kind == .function&&env.kindOf n==some .cell)=true then(n,NameKind.cell)else(n,k))::_)=_
  cases hx:x==n with
  |true=>
   simp only[bN,hx]at h
   cases h
   by_cases hc:(NameKind.free==NameKind.free&&env.scope.kind == .function&&env.kindOf n==some .cell)=true
   ·rw[aD hc];left;simp[bN,hx]
   ·rw[au hc];right;simp[bN,hx]
  |false=>
   simp only[bN,hx]at h
   by_cases hc:(k==NameKind.free&&env.scope.kind == .function&&env.kindOf n==some .cell)=true
   ·rw[aD hc];simp only[bN,hx];exact ih h
   ·rw[au hc];simp only[bN,hx];exact ih h
theorem jA {env:Env} :∀ {names:List (Str×NameKind)}{x:Str},(∀ y∈names,y.2≠ .cell)->
  ((names.map λ(n,k)=>if(k==NameKind.free&&env.scope.kind == .function&&env.kindOf n==some .cell)then(n,NameKind.cell)else(n,k)).lookup x=some .cell\/
  (names.map λ(n,k)=>if(k==NameKind.free&&env.scope.kind == .function&&env.kindOf n==some .cell)then(n,NameKind.cell)else(n,k)).lookup x=some .free)->∃ y∈names,y.1=x/\y.2 = .free
 |[],_,_,h=>by simp at h
 |(n,k)::r,x,hn,h=>by
  have ih:=@jA env r x (λy hy=>hn y (aC _ hy))
  change List.lookup x ((if(k==NameKind.free&&env.scope.kind == .function&&env.kindOf n==some .cell)=true then(n,NameKind.cell)else(n,k))::_)=_\/List.lookup x ((if(k==NameKind.free&&env.scope.kind == .function&&env.kindOf n==some .cell)=true then(n,NameKind.cell)else(n,k))::_)=_ at h
  cases hx:x==n with
  |true=>
   have e:x=n:=by simpa using hx
   by_cases hc:(k==NameKind.free&&env.scope.kind == .function&&env.kindOf n==some .cell)=true
   ·have hk:k = .free:=by
     simp only[dS,beq_iff_eq]at hc
     exact hc.1.1
    exact⟨(n,k),ar,e.symm,hk⟩
   ·rw[au hc]at h
    simp only[bN,hx]at h
    rcases h with h |h
    ·exact absurd (bx h) (hn (n,k) ar)
    ·exact⟨(n,k),ar,e.symm,bx h⟩
  |false=>
   have h':(r.map λ(n,k)=>if(k==NameKind.free&&env.scope.kind == .function&&env.kindOf n==some .cell)then(n,NameKind.cell)else(n,k)).lookup x=some .cell\/
     (r.map λ(n,k)=>if(k==NameKind.free&&env.scope.kind == .function&&env.kindOf n==some .cell)then(n,NameKind.cell)else(n,k)).lookup x=some .free:=by
    by_cases hc:(k==NameKind.free&&env.scope.kind == .function&&env.kindOf n==some .cell)=true
    ·rw[aD hc]at h;simpa only[bN,hx]using h
    ·rw[au hc]at h;simpa only[bN,hx]using h
   obtain⟨y,hy,e⟩:=ih h'
   exact⟨y,aC _ hy,e⟩
section
variable {prog:Program}{w:World}{A:Around}{R:Result->Shared->Prop}{s:Shared}
abbrev wN (ifs:List Expr)(env:Env):Sem Bool:=forIn ifs true λc r=>if r=true then do let ok <-isTrue c env (eval c env);pure (ForInStep.yield ok)else pure (ForInStep.yield r)
theorem vz {elt target iter:Expr}{ifs:List Expr}{scope:Scope}{pos:Pos}{it acc:Value}{env:Env}(I:Nat->Shared->Prop)
  (turn:∀ n s,I n s->wpAny (model prog w) A (pyNext it) (λr s₁=>match r with
   |none=>R (.ok .next) s₁
   |some v=>wpAny (model prog w) A (letOwnedTupleGo target it v) (λ_ s₀=>wpAny (model prog w) A (assign target env v) (λ_ s₂=>
     wpAny (model prog w) A (wN ifs env) (λok s₃=>
      if ok=true then wpAny (model prog w) A (eval elt env) (λx s₄=>
       wpAny (model prog w) A (call (.builtin "list.append") [acc,x]) (λ_ s₅=>∃ m,m<n/\I m s₅) (λ_ _=>False) s₄) (λ_ _=>False) s₃
      else ∃ m,m<n/\I m s₃) (λ_ _=>False) s₂) (λ_ _=>False) s₀) (λ_ _=>False) s₁) (λ_ _=>False) s)
  (n:Nat) (h:I n s):
  codeAny (model prog w) A (.compLoop (.ListComp elt [⟨target,iter,ifs,0⟩] scope pos) 0 it acc env) R s:=by
 refine codeAny_loop rfl I (λn s hI=>?_) n h
 show wpAny _ A ((compTurn (.ListComp elt [⟨target,iter,ifs,0⟩] scope pos) 0 it acc env).onRaise (λx=>do noteFrame x env;theTreesLotGoes x)) _ _ s
 refine wpAny_noted ?_
 rw[compTurn_list]
 refine ai (wpAny_standAt (ai (bR (turn n s hI) (λr s₁ h₁=>?_) λ_ _ h'=>h'.elim)))
 cases r with
 |none=>exact aB h₁
 |some v=>
  refine ai (bR h₁ (λ_ s₀ h₀=>?_) λ_ _ h'=>h'.elim)
  refine ai (bR h₀ (λ_ s₂ h₂=>ai (bR h₂ (λok s₃ h₃=>?_) λ_ _ h'=>h'.elim)) λ_ _ h'=>h'.elim)
  cases ok with
  |false=>exact aB ⟨rfl,h₃⟩
  |true=>
   exact ai (ai (bR h₃ (λx s₄ h₄=>ai (bR h₄ (λ_ s₅ h₅=>aB (aB ⟨rfl,h₅⟩)) λ_ _ h'=>h'.elim)) λ_ _ h'=>h'.elim))
end
open PyProof.Rows
def oth (e:Int):Int:=e+1-2*(e%2)
theorem AB (x:Int):Builtin.bitXor x 1=oth x:=by
 rw[bitXor_and,bitAnd_m1];unfold oth;omega
theorem jJ (e:Int):oth (oth e)=e:=by unfold oth;omega
theorem kF (e:Int):oth e/2=e/2:=by unfold oth;omega
theorem vS {e:Int}(h:0<=e):0<=oth e:=by unfold oth;omega
end TL
set_option maxHeartbeats 4000000
namespace TL
open PySem PySem.Spec PyProof.Rows L2
abbrev St:=L2.St
def g9 (X:Cx)(scope:Scope)(cl:List (Str×Addr))(N:List Str)(fp:List Addr)(s3:Shared)(H3:Hp):Cx where
 prog:=X.prog
 w:=X.w
 K:=X.K
 mg:=X.mg
 base:=X.base
 A:=X.A
 N:=N
 s₀:=s3
 H₀:=H3
 env:=compEnvC scope cl s3.heap.objs.size X.env
 outer:=X.stack
 stack:=X.stack
 ex:=fp
 fn:=λ_=>false
 calm:=X.calm
 pn:=[]
 xe:=λ_ _=>False
def B8 (NX:List Str)(scope:Scope)(N:List Str)(cap:List (Option Nat)):Bool:=
 (N.zip cap).all λp=>match p.2 with
  |none=>true
  |some j=>decide (NX[j]? = some p.1)&&decide (scope.names.lookup p.1=some .free)
structure gv (scX:Scope)(NX:List Str)(scope:Scope)(N:List Str)(own:Nat)(cap:List (Option Nat)):Prop where
 kind:scope.kind = .function
 zD:∀ y∈scope.names,y.2≠ .cell
 loc:∀ y∈scope.names,y.2 = .local->scope.names.lookup y.1=some .local
 fre:∀ y∈scope.names,y.2 = .free->scX.names.lookup y.1=some .cell\/scX.names.lookup y.1=some .free
 len:cap.length=N.length
 Kl:B8 NX scope N cap=true
 Hb:(cap.take own).all (·.isNone)=true
 nd:N.Nodup
def j9 (cap:List (Option Nat))(σ:St):St:=cap.map λo=>o.bind λj=>(σ[j]?).bind id
theorem yA {cap:List (Option Nat)}{σ:St} :(j9 cap σ).length=cap.length:=by simp[j9]
theorem sE {cap:List (Option Nat)}{σ:St}{i:Nat}{v:V}(h:(j9 cap σ)[i]? = some (some v)):∃ j,cap[i]? = some (some j)/\σ[j]? = some (some v):=by
 unfold j9 at h
 rw[aj]at h
 cases e:cap[i]? with
 |none=>rw[e]at h;cases h
 |some o=>
  rw[e]at h
  cases o with
  |none=>cases h
  |some j=>
   refine⟨j,rfl,?_⟩
   have h':(σ[j]?).bind id=some v:=by simpa using h
   cases q:σ[j]? with
   |none=>rw[q]at h';cases h'
   |some z=>rw[q]at h';exact cB some h'
theorem gv.at {scX:Scope}{NX:List Str}{scope:Scope}{N:List Str}{own:Nat}{cap:List (Option Nat)}(C:gv scX NX scope N own cap){i j:Nat}{x:Str}(h1:N[i]? = some x)(h2:cap[i]? = some (some j)):
  NX[j]? = some x/\scope.names.lookup x=some .free:=by
 have h:=C.Kl
 unfold B8 at h
 have hm:(x,some j)∈N.zip cap:=by
  refine List.mem_iff_getElem?.mpr ⟨i,?_⟩
  rw[eG]
  exact⟨h1,h2⟩
 have:=List.all_eq_true.mp h _ hm
 simpa using this
theorem gv.zu {scX:Scope}{NX:List Str}{scope:Scope}{N:List Str}{own:Nat}{cap:List (Option Nat)}(C:gv scX NX scope N own cap){i j:Nat}(hi:i<own)(h:cap[i]? = some (some j)):False:=by
 have hm:some j∈cap.take own:=by
  refine List.mem_iff_getElem?.mpr ⟨i,?_⟩
  rw[eQ hi]
  exact h
 have:=List.all_eq_true.mp C.Hb _ hm
 cases this
section
variable {X:Cx}{pins:List (Addr×Obj)}{σ:St}{H H3:Hp}{s s3:Shared}{scope:Scope}{N:List Str}{own:Nat}{cap:List (Option Nat)}{cl:List (Str×Addr)}{fp:List Addr}
theorem zQ (I3:Inv X pins σ H3 s3)(C:gv X.env.scope X.N scope N own cap)(oN:∀ x c,cl.lookup x=some c->X.env.cells.lookup x=some c)(uZ:∀ y∈scope.names,y.2 = .free->∃ c,cl.lookup y.1=some c)
  (hf:∀ b∈fp,pK X pins H3 b/\b<s3.heap.objs.size) {h4:Heap}{tk:Nat}{m4:Str->Option Value} (hn:h4.Ns s3.heap.objs.size m4) (hk:∀ b u,s3.heap.get? b=some u->h4.get? b=some u):
  Inv (g9 X scope cl N fp s3 H3) [] (j9 cap σ) H3 {s3 with heap:=h4,toks:=tk} :=by
 refine⟨⟨I3.ok.mod,C.kind,I3.ok.glob,I3.ok.blt,aq _,λx y c e1 e2=>I3.ok.inj x y c (oN _ _ e1) (oN _ _ e2),λx hx=>?_,λx c h=>?_,I3.ok.hd,I3.ok.frames,.inl rfl,λb hb=>?_,
  I3.bs,bF I3.ok.bsz I3.sz,λb o e hb=>?_,λb hb hz=>?_,I3.stack,I3.sQ⟩,rfl,I3.bare,Un.kept hk,⟨m4,hn,λi x v e1 e2 e3=>?_⟩,λx c e=>?_,I3.hok.fresh (aq _),λx c e=>I3.iU x c (oN x c e),
  λp hp=>absurd (show p∈([]:List (Addr×Obj)) from hp) (by simp),I3.hok.kept hk,?_⟩
 ·obtain⟨y,hy,e,f⟩:=jA (env:=X.env) C.zD hx
  obtain⟨c,q⟩:=uZ y hy f
  exact⟨c,by rw[<-e];exact q⟩
 ·exact absurd (show false=true from h) aU
 ·obtain⟨⟨f0,f1,f2,f3,f4,f5⟩,hlt⟩:=hf b hb
  exact⟨bo hlt,λx c e=>f4 x c (oN x c e)⟩
 ·obtain⟨⟨f0,f1,f2,f3,f4,f5⟩,hlt⟩:=hf b hb
  rcases f3 with z |z
  ·exact I3.ok.v7 b o e z
  ·exact absurd (aT (aK e) (bF I3.ok.bsz z)) (cR _)
 ·obtain⟨⟨f0,f1,f2,f3,f4,f5⟩,hlt⟩:=hf b hb
  rcases aJ.mp (I3.oD b hz)with z |z
  ·exact f1 z
  ·exact f2 z
 ·obtain⟨j,c1,c2⟩:=sE e2
  obtain⟨d1,d2⟩:=C.at e1 c1
  have hk2:=C.fre (x,.free) (cx d2) rfl
  obtain⟨mX,hnX,hl⟩:=I3.loc
  obtain⟨u,r,l⟩:=hl j x v d1 c2 (.inr hk2)
  refine⟨u,r,?_⟩
  rcases l with⟨k,_⟩|⟨k,c,e,z⟩
  ·exfalso
   have k':X.env.scope.names.lookup x=some .local:=k
   rcases hk2 with q |q
   ·rw[k']at q;cases q
   ·rw[k']at q;cases q
  ·obtain⟨c',q⟩:=uZ (x,.free) (cx d2) rfl
   have e':=oN x c' q
   rw[e]at e'
   cases e'
   obtain⟨o,ho,hd⟩:=z
   exact .inr ⟨jH (env:=X.env) d2,c,q,o,hk _ _ ho,hd⟩
 ·obtain⟨v,o,ho,hd⟩:=I3.cell x c (oN x c e)
  exact⟨v,o,hk _ _ ho,hd⟩
 ·rw[yA];exact C.len
theorem comp_back {qq:List (Addr×Obj)}{σ':St}{H':Hp}{s':Shared}(I3:Inv X pins σ H3 s3)(hf:∀ b∈fp,pK X pins H3 b)(I':Inv (g9 X scope cl N fp s3 H3) qq σ' H' s'):Inv X pins σ H' s':=
 I3.B9 (ch:=fp) I'.os I'.base I'.hok I'.bare λb hb=>by
  obtain⟨f0,f1,f2,f3,f4,f5⟩:=hf b hb
  exact⟨f3,f1,f4,f5⟩
structure Apart (X:Cx)(pins:List (Addr×Obj))(C:Addr):Prop where
 loc:C≠X.env.locals
 new:X.s₀.heap.objs.size<=C
 cel:∀ x c,X.env.cells.lookup x=some c->c≠C
 pin:∀ p∈X.pn++pins,p.1≠C
theorem Inv.apart (I3:Inv X pins σ H3 s3):Apart X pins s3.heap.objs.size:=
 ⟨Nat.ne_of_gt I3.lt,I3.sz,λx c e=>by obtain⟨v,o,ho,_⟩:=I3.cell x c e;exact bo (aK ho),λp hp=>bo (aK (I3.pin p hp).1)⟩
theorem sD {C:Addr}{h':Heap}(I:Inv X pins σ H s)(P:Apart X pins C)(hn:H C=none)(hs:Heap.SameBut C s.heap h'):Inv X pins σ H {s with heap:=h'} :=
 I.turned (t':=s.toks) (λb o hb e=>(hs.2 b hb).trans e) hn P.loc (.inr P.new) P.cel P.pin
end
structure vG (own:Nat)(g:TG):Prop where
 mono:∀ v σ H Q Q',(∀ σ' H',Q σ' H'->Q' σ' H')->g v σ H Q->g v σ H Q'
 own:∀ v σ H Q,g v σ H Q->g v σ H λσ' H'=>Q σ' H'/\σ'.length=σ.length/\∀ i,own<=i->σ'[i]? = σ[i]?
structure sM (own:Nat)(g:TGs):Prop where
 mono:∀ v σ H Q Q',(∀ σ' H',Q σ' H'->Q' σ' H')->g v σ H Q->g v σ H Q'
 own:∀ v σ H Q,g v σ H Q->g v σ H λσ' H'=>Q σ' H'/\σ'.length=σ.length/\∀ i,own<=i->σ'[i]? = σ[i]?
theorem vG.name {own i:Nat}(h:i<own):vG own (ni i):=
 ⟨λv σ H Q Q' f q=>f _ _ q,λv σ H Q q=>⟨q,List.length_set,λj hj=>dZ (by omega)⟩⟩
theorem sM.nil {own:Nat} :sM own Ff:=⟨λv σ H Q Q' f q=>⟨q.1,f _ _ q.2⟩,λv σ H Q q=>⟨q.1,q.2,rfl,λ_ _=>rfl⟩⟩
theorem sM.cons {own:Nat}{t:TG}{u:TGs}(h1:vG own t)(h2:sM own u):sM own (B3 t u) where
 mono:=λv σ H Q Q' f ⟨x,r,e,q⟩=>⟨x,r,e,h1.mono _ _ _ _ _ (λσ' H' q=>h2.mono _ _ _ _ _ f q) q⟩
 own:=λv σ H Q ⟨x,r,e,q⟩=>⟨x,r,e,h1.mono _ _ _ _ _ (λσ1 H1 ⟨q,l1,o1⟩=>h2.mono _ _ _ _ _ (λσ2 H2 ⟨q,l2,o2⟩=>⟨q,l2.trans l1,λi hi=>(o2 i hi).trans (o1 i hi)⟩) (h2.own _ _ _ _ q)) (h1.own _ _ _ _ q)⟩
theorem vG.tup {own n:Nat}{K:PySem.W.Frag}{t:TGs}(h:sM own t):vG own (Fe K n t) where
 mono:=λv σ H Q Q' f ⟨a,xs,e,q1,q2,q⟩=>⟨a,xs,e,q1,q2,h.mono _ _ _ _ _ f q⟩
 own:=λv σ H Q ⟨a,xs,e,q1,q2,q⟩=>⟨a,xs,e,q1,q2,h.own _ _ _ _ q⟩
def Au (X:Cx)(ifs:List Expr)(t:TT):Prop:=
 ∀ (pins:List (Addr×Obj)) (s:Shared) (σ:St) (H:Hp) (Q:Bool->Hp->Prop),Inv X pins σ H s->t σ H Q->wpAny (model X.prog X.w) X.A (wN ifs X.env) (TP X pins σ Q) X.xe s
def D9:TT:=λ_ H Q=>Q true H
theorem iz {X:Cx} :Au X [] D9:=λ_ _ _ H _ I h=>wpAny_tests_nil ⟨H,I,h⟩
theorem j7 {X:Cx}{c:Expr}{t:TT}(h:PT X c t):Au X [c] t:=λpins s σ H Q I q=>wpAny_tests_one (h pins s σ H Q I q)
def LcW (J:It)(g:TG)(tt:TT)(te:TE)(cap:List (Option Nat))(σ:St)(Q:VK)(l:Addr)(H1:Hp):Prop:=
 ∃ W:Nat->Nat->List V->Hp->Prop,(∃ m,W 0 m [] (upd H1 l (.lst [])))/\∀ i m acc H,W i m acc H->
  (J.stop i H/\Q (.ref l) H)\/(J.go i H/\∃ N:List V->Hp->Prop,(∀ rA H',N rA H'->∃ m',m'<m/\W (i+1) m' rA H')/\
   ∀ x H',J.yld i H x H'->g x (j9 cap σ) H' λσ2 H2=>tt σ2 H2 λb H3=>
    if b=true then te σ2 H3 λy H4=>H4 l=some (.lst acc)/\acc.length<sizeLine/\N (acc ++ [y]) (upd H4 l (.lst (acc ++ [y])))
    else N acc H3)
def tLC (wi:TI)(cap:List (Option Nat))(g:TG)(tt:TT)(te:TE):TE:=λσ H Q=>wi σ H λJ H1=>∀ l,H1 l=none->
 LcW J g tt te cap σ Q l H1
section
variable {X:Cx}{pins:List (Addr×Obj)}{σ:St}{H1:Hp}{s2:Shared}{scope:Scope}{N:List Str}{own:Nat}{cap:List (Option Nat)}{cl:List (Str×Addr)}{fp:List Addr}
 {tg iter elt:Expr}{ifs:List Expr}{pos:Pos}{g:TG}{tt:TT}{te:TE}{wi:TI}
theorem vv {it:Addr}{tn:Nat->Heap->Prop}{J:It}{Q:VK}{RR:Value->Addr->Result->Shared->Prop}{E:Value->Shared->Prop}(I:Inv X pins σ H1 s2)(T:Turn X.prog X.w X.K tg J fp it tn)(t0:tn 0 s2.heap)
  (f:∀ b∈fp,pK X pins H1 b) (hc:X.calm=true) (C:gv X.env.scope X.N scope N own cap) (ho:vG own g)
  (oN:∀ x c,cl.lookup x=some c->X.env.cells.lookup x=some c) (uZ:∀ y∈scope.names,y.2 = .free->∃ c,cl.lookup y.1=some c)
  (hg:∀ s3 H3,PG (g9 X scope cl N fp s3 H3) tg g) (ht:∀ s3 H3,Au (g9 X scope cl N fp s3 H3) ifs tt) (he:∀ s3 H3,PE (g9 X scope cl N fp s3 H3) elt te)
  (hw:∀ l,H1 l=none->LcW J g tt te cap σ Q l H1)
  (fin:∀ l C s' H' m',Inv X pins σ H' s'->s'.heap.Ns C m'->H' C=none->Apart X pins C->Q (.ref l) H'->RR (.ref l) C (.ok .next) s'):
  wpAny (model X.prog X.w) X.A (newList []) (λacc s₃=>wpAny (model X.prog X.w) X.A (newFunctionEnv scope X.env.globals cl [] X.env.qual none .none (some X.env)) (λFq s₄=>
   codeAny (model X.prog X.w) X.A (.compStart (.ListComp elt [⟨tg,iter,ifs,0⟩] scope pos) 0 (.ref it) acc {Fq with scope:=relabel scope X.env}) (RR acc Fq.locals) s₄) E s₃) E s2:=by
 refine dX (wpAny_newFunctionEnv C.zD (by intro y hy;simp at hy) (λh₁ wx wu=>?_) C.kind)
 dsimp only at wx wu ⊢
 obtain⟨W,⟨m0,w0⟩,turn⟩:=hw s2.heap.objs.size I.fresh
 have I3:Inv X pins σ (upd H1 s2.heap.objs.size (.lst [])) {s2 with heap:=s2.heap.push {cls:=.type "list",dict:=none,data:=.seq ([]:List Value).toArray}} :=I.EH (ys:=[]) (its:=[]) (t':=s2.toks) .nil (aW _)
 generalize hs3:({s2 with heap:=s2.heap.push {cls:=.type "list",dict:=none,data:=.seq ([]:List Value).toArray}} :Shared)=s3 at I3
 have hh3:s3.heap=s2.heap.push {cls:=.type "list",dict:=none,data:=.seq ([]:List Value).toArray} :=by rw[<-hs3]
 rw[<-hh3]at wx wu ⊢
 have e4:({s2 with heap:=h₁,toks:=s2.toks+([]:List (Str×Value)).length} :Shared) = {s3 with heap:=h₁,toks:=s2.toks} :=by rw[<-hs3];rfl
 rw[e4]
 have k4:∀ b u,s3.heap.get? b=some u->h₁.get? b=some u:=λb u e=>wu.extBut b u (bo (aK e)) (aH _ e)
 have k3:∀ b u,s2.heap.get? b=some u->s3.heap.get? b=some u:=λb u e=>by rw[hh3];exact aH _ e
 have hb2:∀ b∈fp,b<s2.heap.objs.size:=λb hb=>by obtain⟨o,e,_⟩:=T.obj _ _ t0 b hb;exact aK e
 have f3:∀ b∈fp,pK X pins (upd H1 s2.heap.objs.size (.lst [])) b:=λb hb=>by
  obtain⟨f0,fr⟩:=f b hb
  exact⟨by rw[fc (bo (hb2 b hb))];exact f0,fr⟩
 have hb3:∀ b∈fp,b<s3.heap.objs.size:=λb hb=>by obtain⟨o,e,_⟩:=T.obj _ _ t0 b hb;exact aK (k3 b o e)
 have I4:=zQ (tk:=s2.toks) I3 C oN uZ (λb hb=>⟨f3 b hb,hb3 b hb⟩) wx k4
 generalize hH3:upd H1 s2.heap.objs.size (.lst [])=H3 at *
 have st4:tn 0 h₁:=T.keep _ _ _ t0 λb hb o e=>k4 b o (k3 b o e)
 have fpX:∀ {H':Hp},(∀ b∈fp,H' b=none)->∀ b∈fp,pK (g9 X scope cl N fp s3 H3) [] H' b:=λ{H'} hn b hb=>by
  obtain⟨f0,f1,f2,f3',f4,f5⟩:=f3 b hb
  refine⟨hn b hb,bo (hb3 b hb),λhz=>?_,.inl hb,λx c e=>f4 x c (oN x c e),λp hp=>absurd (show p∈([]:List (Addr×Obj)) from hp) (by simp)⟩
  rcases aJ.mp (I3.oD b hz)with z |z
  ·exact f1 z
  ·exact f2 z
 have loop:codeAny (model X.prog X.w) X.A (.compLoop (.ListComp elt [⟨tg,iter,ifs,0⟩] scope pos) 0 (.ref it) (.ref s2.heap.objs.size) (compEnvC scope cl s3.heap.objs.size X.env)) (RR (.ref s2.heap.objs.size) s3.heap.objs.size) {s3 with heap:=h₁,toks:=s2.toks} :=by
  refine vz (λn s'=>∃ i acc H',Inv (g9 X scope cl N fp s3 H3) [] (j9 cap σ) H' s'/\tn i s'.heap/\(∀ b∈fp,H' b=none)/\W i n acc H') ?_ m0 ⟨0,[],H3,I4,st4,λb hb=>(f3 b hb).1,w0⟩
  rintro n s' ⟨i,acc,H',I',st,fr,w⟩
  rcases turn i n acc H' w with⟨stop,q⟩|⟨go,NN,hNN,step⟩
  ·refine thn (T.done (g9 X scope cl N fp s3 H3) rfl rfl rfl hc i [] s' _ H' (λ_ _=>False) I' (fpX fr) st stop) λr s5 ⟨hr,I5⟩=>?_
   subst hr
   obtain⟨m5,hn5,_⟩:=id I5.loc
   exact fin _ _ s5 H' m5 (comp_back I3 f3 I5) hn5 I5.free (TL.Inv.apart I3) q
  ·refine thn (T.item (g9 X scope cl N fp s3 H3) rfl rfl rfl hc i [] s' _ H' (λ_ _=>False) I' (fpX fr) st go) λr s5 ⟨u,hr,h5⟩=>?_
   subst hr
   refine thn h5 λ_ s6 ⟨x,H6,I6,r6,y6,st6,fr6⟩=>?_
   have I6':=I6.pinned (fpX fr6) (T.obj _ _ st6)
   refine thn (hg s3 H3 _ s6 _ H6 x u _ I6' r6 (ho.own _ _ _ _ (step x H6 y6))) λ_ s7 ⟨σ7,H7,I7,q7,l7,o7⟩=>?_
   have cov:∀ (i:Nat) v,(j9 cap σ)[i]? = some (some v)->σ7[i]? = some (some v):=λi v e=>by
    obtain⟨j,c1,c2⟩:=sE e
    by_cases hi:i<own
    ·exact(C.zu hi c1).elim
    ·rw[o7 i (by omega)];exact e
   have back:∀ {H8:Hp}{s8:Shared},Inv (g9 X scope cl N fp s3 H3) ([]++qp fp s6.heap) σ7 H8 s8->Inv (g9 X scope cl N fp s3 H3) [] (j9 cap σ) H8 s8/\tn (i+1) s8.heap/\∀ b∈fp,H8 b=none:=λ{H8 s8} I8=>by
    refine⟨(Inv.nN (pins:=[]) I8).weak l7.symm cov,T.keep _ _ _ st6 λb hb o e=>(I8.pin (b,o) (aV _ (aV _ (lu hb e)))).1,λb hb=>?_⟩
    obtain⟨o,e,d⟩:=T.obj _ _ st6 b hb
    exact(I8.pin (b,o) (aV _ (aV _ (lu hb e)))).2.1
   refine thn (ht s3 H3 _ s7 σ7 H7 _ I7 q7) λb s8 ⟨H8,I8,q8⟩=>?_
   cases b with
   |false=>
    rw[au aU]at q8 ⊢
    obtain⟨m',hm,w8⟩:=hNN _ _ q8
    obtain⟨J1,J2,J3⟩:=back I8
    exact⟨m',hm,i+1,acc,H8,J1,J2,J3,w8⟩
   |true=>
    rw[aD rfl]at q8 ⊢
    refine thn (he s3 H3 _ s8 σ7 H8 _ I8 q8) λv s9 ⟨y,H9,I9,r9,ha,hz,n9⟩=>?_
    obtain⟨m',hm,w9⟩:=hNN _ _ n9
    refine thn (gC _ s9 σ7 H9 (.ref s2.heap.objs.size) [y] (.ref s2.heap.objs.size) [v] (λ_ H10=>W (i+1) m' (acc ++ [y]) H10) I9 rfl (.cons r9 .nil) ⟨_,acc,y,rfl,rfl,ha,hz,w9⟩) λ_ s10 ⟨_,H10,I10,_,w10⟩=>?_
    obtain⟨J1,J2,J3⟩:=back I10
    exact⟨m',hm,i+1,acc ++ [y],H10,J1,J2,J3,w10⟩
 exact codeAny_compStart_list loop (T.self X.A 0 _ _ _ st4 loop)
theorem m8 (hi:PI X tg iter wi)(hc:X.calm=true)(C:gv X.env.scope X.N scope N own cap)(ho:vG own g)
  (hg:∀ cl fp s3 H3,PG (g9 X scope cl N fp s3 H3) tg g) (ht:∀ cl fp s3 H3,Au (g9 X scope cl N fp s3 H3) ifs tt) (he:∀ cl fp s3 H3,PE (g9 X scope cl N fp s3 H3) elt te)
  (hs:∀ x,foldedSetIterable iter X.env x=pure x:=by intro _;rfl):PE X (.ListComp elt [⟨tg,iter,ifs,0⟩] scope pos) (tLC wi cap g tt te):=by
 intro pins s σ H Q I h
 obtain⟨cl,ecl,oN,uZ⟩:=qQ (scope:=scope) (env:=X.env) λy hy hf=>I.ok.has y.1 (C.fre y hy hf)
 rw[eval_ListComp]
 refine wpAny_comprehension_free (use:=none) rfl hs ecl C.kind C.loc (thn (hi pins s σ H _ I h) λxv s1 h1=>thn h1 λitv s2 h2=>?_)
 obtain⟨it,fp,tn,J,H2,e,I2,T,st2,f2,hw⟩:=h2
 subst e
 refine vv (RR:=λacc C=>compPost (model X.prog X.w) X.A X.xe none (EP X pins σ Q) acc C) I2 T st2 f2 hc C ho oN uZ (hg cl fp) (ht cl fp) (he cl fp) hw λl Ca s' H' m' I' hn su hP q=>?_
 exact⟨m',hn,λh'' Dl=>⟨.ref l,H',sD I' hP su Dl,rfl,q⟩⟩
theorem qo {i:Nat}{x:Str}{pos' Ek:Pos}(hN:X.N.Nodup)(hi':X.N[i]? = some x)(hx:X.env.scope.names.lookup x=some .local)(hi:PI X tg iter wi)(hc:X.calm=true)(C:gv X.env.scope X.N scope N own cap)(ho:vG own g)
  (hg:∀ cl fp s3 H3,PG (g9 X scope cl N fp s3 H3) tg g) (ht:∀ cl fp s3 H3,Au (g9 X scope cl N fp s3 H3) ifs tt) (he:∀ cl fp s3 H3,PE (g9 X scope cl N fp s3 H3) elt te)
  (hsw:swapsWith (.ListComp elt [⟨tg,iter,ifs,0⟩] scope pos) (some (.Name x pos')) Ek.line X.env=pure true:=by rfl)
  (hs:∀ x,foldedSetIterable iter X.env x=pure x:=by intro _;rfl):PS X (.Assign [.Name x pos'] (.ListComp elt [⟨tg,iter,ifs,0⟩] scope pos) Ek) (Cp (tLC wi cap g tt te) (ni i)):=by
 intro pins s σ H D I h
 obtain⟨cl,ecl,oN,uZ⟩:=qQ (scope:=scope) (env:=X.env) λy hy hf=>I.ok.has y.1 (C.fre y hy hf)
 rw[exec_Assign_Name_used _ _ _ _ hsw]
 refine ai (wpAny_standAt (ai ?_))
 show wpAny _ X.A (do let _ <-comprehension (.ListComp elt [⟨tg,iter,ifs,0⟩] scope pos) scope X.env _ (newList []) false (eval iter X.env) (some (assign (.Name x pos') X.env))) _ _ s
 refine ai (bR (wpAny_comprehension_free (use:=some (assign (.Name x pos') X.env)) (Q:=λ_ s'=>SP X pins D .next s') rfl hs ecl C.kind C.loc
  (thn (hi pins s σ H _ I h) λxv s1 h1=>thn h1 λitv s2 h2=>?_)) (λ_ s' hq=>aB (aB hq)) λ_ _ e=>e)
 obtain⟨it,fp,tn,J,H2,e,I2,T,st2,f2,hw⟩:=h2
 subst e
 refine vv (RR:=λacc C=>compPost (model X.prog X.w) X.A X.xe (some (assign (.Name x pos') X.env)) (λ_ s'=>SP X pins D .next s') acc C) I2 T st2 f2 hc C ho oN uZ (hg cl fp) (ht cl fp) (he cl fp) hw λl Ca s' H' m' I' hn su hP q=>?_
 show wpAny _ X.A (assign (.Name x pos') X.env (.ref l)) _ _ _
 refine wpAny_assign_Name (rK I' hN hi' (.inl hx) (v:=.ref l) rfl (λs5 I5 ⟨a,sb,ha⟩=>?_) (.inr hx))
 have hne:Ca≠a:=by
  rcases ha with z |z
  ·rw[z];exact hP.loc
  ·exact λe=>hP.cel x a z e.symm
 refine⟨m',hn.sameBut sb hne,λh'' Dl=>⟨_,H',sD I5 hP su Dl,q⟩⟩
end
section
variable {K:PySem.W.Frag}{a l:Addr}{xs:List V}{g:TG}{tt:TT}{te:TE}{cap:List (Option Nat)}{σ:St}{Q:VK}{H1:Hp}
theorem A8 (Pv:Nat->List V->Hp->Prop)(h0:Pv 0 [] (upd H1 l (.lst [])))(hl:∀ i acc H,i<=xs.length->Pv i acc H->SqL K H a xs)
  (hs:∀ i x acc H,xs[i]? = some x->Pv i acc H->g x (j9 cap σ) H λσ2 H2=>tt σ2 H2 λb H3=>
    if b=true then te σ2 H3 λy H4=>H4 l=some (.lst acc)/\acc.length<sizeLine/\Pv (i+1) (acc ++ [y]) (upd H4 l (.lst (acc ++ [y])))
    else Pv (i+1) acc H3) (hd:∀ acc H,Pv xs.length acc H->Q (.ref l) H):LcW (Itl K a) g tt te cap σ Q l H1:=by
 refine⟨λi m acc H=>m=xs.length-i/\i<=xs.length/\Pv i acc H,⟨xs.length,by simp,aW _,h0⟩,?_⟩
 rintro i m acc H ⟨rfl,hi,p⟩
 have q:=hl i acc H hi p
 by_cases hlt:i<xs.length
 ·refine .inr ⟨⟨xs,xs[i],q,by simp[hlt]⟩,Pv (i+1),λrA H' p'=>⟨xs.length-(i+1),by omega,rfl,hlt,p'⟩,λx H' y=>?_⟩
  obtain⟨e,y⟩:=y
  subst e
  exact hs i x acc _ (y xs q) p
 ·have e:i=xs.length:=by omega
  subst e
  exact .inl ⟨⟨xs,q,aq _⟩,hd acc H p⟩
theorem eW {H:Hp}{l:Addr}{o:HO}(hn:H l=none):fi H (upd H l o):=λb u e=>by rw[fc (fb e hn)];exact e
theorem jt {α:Type}(ds:List α)(p:α->Bool)(f:α->V)(hn:H1 l=none)(hx:SqL K H1 a xs)(hlen:xs.length=ds.length)(hz:xs.length<sizeLine)
  (hs:∀ (i:Nat) x d H,xs[i]? = some x->ds[i]? = some d->fi H1 H->∀ (P1:VK) (P0:Hp->Prop),(p d=true->P1 (f d) H)->(p d=false->P0 H)->
   g x (j9 cap σ) H λσ2 H2=>tt σ2 H2 λb H3=>if b=true then te σ2 H3 P1 else P0 H3)
  (hq:Q (.ref l) (upd H1 l (.lst ((ds.filter p).map f)))):LcW (Itl K a) g tt te cap σ Q l H1:=by
 refine A8 (λi acc H=>acc=((ds.take i).filter p).map f/\H=upd H1 l (.lst acc)) ⟨rfl,rfl⟩ (λi acc H _ ⟨_,e⟩=>by rw[e];exact(eW hn).seq hx) ?_ ?_
 ·rintro i x acc H hi ⟨e1,e2⟩
  have hlt:i<xs.length:=(af.mp hi).1
  have hd:ds[i]? = some (ds[i]'(by omega)):=by simp
  generalize ds[i]'(by omega)=d at hd
  have step:((ds.take (i+1)).filter p).map f=acc++(if p d=true then[f d]else[]):=by
   rw[take_succ_filter p ds i d hd,ax,e1]
   cases p d<;>rfl
  refine hs i x d H hi hd (by rw[e2];exact eW hn) _ _ (λhp=>?_) (λhp=>?_)
  ·refine⟨by rw[e2,eX],?_,?_,?_⟩
   ·have h1:acc.length<=i:=by
     rw[e1,aa]
     exact bF (bH _ _) (by rw[bw];omega)
    omega
   ·rw[step,hp];rfl
   ·rw[e2,pM]
  ·refine⟨?_,e2⟩
   rw[step,hp,au aU,bX]
 ·rintro acc H ⟨e1,e2⟩
  rw[hlen,bC]at e1
  rw[e2,e1]
  exact hq
end
mutual
def Dg (L T:Addr->List V->Prop):PyData->V->Prop
 |.none,v=>v = .non
 |.bool b,v=>v = .bl b
 |.int i,v=>v = .int i
 |.str x,v=>v = .str x
 |.list ds,v=>∃ a vs,v = .ref a/\L a vs/\Dgs L T ds vs
 |.tuple ds,v=>∃ a vs,v = .ref a/\T a vs/\Dgs L T ds vs
 |.dict _,_=>False
def Dgs (L T:Addr->List V->Prop):List PyData->List V->Prop
 |[],vs=>vs = []
 |d::ds,vs=>∃ v r,vs=v::r/\Dg L T d v/\Dgs L T ds r
end
mutual
theorem Dg.mono {L T L' T':Addr->List V->Prop}(hL:∀ a vs,L a vs->L' a vs)(hT:∀ a vs,T a vs->T' a vs):∀ {d:PyData}{v:V},Dg L T d v->Dg L' T' d v
 |.none,_,h=>by simpa only[Dg]using h
 |.bool _,_,h=>by simpa only[Dg]using h
 |.int _,_,h=>by simpa only[Dg]using h
 |.str _,_,h=>by simpa only[Dg]using h
 |.list ds,_,h=>by
  simp only[Dg]at h ⊢
  obtain⟨a,vs,e,l,q⟩:=h
  exact⟨a,vs,e,hL a vs l,Dgs.mono hL hT q⟩
 |.tuple ds,_,h=>by
  simp only[Dg]at h ⊢
  obtain⟨a,vs,e,l,q⟩:=h
  exact⟨a,vs,e,hT a vs l,Dgs.mono hL hT q⟩
 |.dict _,_,h=>by simp only[Dg]at h
theorem Dgs.mono {L T L' T':Addr->List V->Prop}(hL:∀ a vs,L a vs->L' a vs)(hT:∀ a vs,T a vs->T' a vs):∀ {ds:List PyData}{vs:List V},Dgs L T ds vs->Dgs L' T' ds vs
 |[],_,h=>by simpa only[Dgs]using h
 |d::ds,_,h=>by
  simp only[Dgs]at h ⊢
  obtain⟨v,r,e,l,q⟩:=h
  exact⟨v,r,e,Dg.mono hL hT l,Dgs.mono hL hT q⟩
end
section
variable {L T:Addr->List V->Prop}
theorem ik {i:Int}{v:V} :Dg L T (.int i) v↔v = .int i:=by simp only[Dg]
theorem tU {i:Str}{v:V} :Dg L T (.str i) v↔v = .str i:=by simp only[Dg]
theorem jL {ds:List PyData}{v:V} :Dg L T (.list ds) v↔∃ a vs,v = .ref a/\L a vs/\Dgs L T ds vs:=by simp only[Dg]
theorem hJ {ds:List PyData}{v:V} :Dg L T (.tuple ds) v↔∃ a vs,v = .ref a/\T a vs/\Dgs L T ds vs:=by simp only[Dg]
theorem gJ {vs:List V} :Dgs L T [] vs↔vs = []:=by simp only[Dgs]
theorem fU {d:PyData}{ds:List PyData}{vs:List V} :Dgs L T (d::ds) vs↔∃ v r,vs=v::r/\Dg L T d v/\Dgs L T ds r:=by simp only[Dgs]
theorem Dgs.length:∀ {ds:List PyData}{vs:List V},Dgs L T ds vs->vs.length=ds.length
 |[],_,h=>by rw[gJ.mp h];rfl
 |d::ds,_,h=>by
  obtain⟨v,r,rfl,_,q⟩:=fU.mp h
  rw[aY,aY,Dgs.length q]
theorem kK:∀ {ns:List Int}{vs:List V},Dgs L T (ns.map .int) vs↔vs=ns.map V.int
 |[],vs=>gJ
 |n::ns,vs=>by
  rw[aM,fU]
  constructor
  ·rintro⟨v,r,rfl,h1,h2⟩
   rw[ik.mp h1,kK.mp h2];rfl
  ·rintro rfl
   exact⟨_,_,rfl,ik.mpr rfl,kK.mpr rfl⟩
theorem Dgs.append:∀ {ds es:List PyData}{vs us:List V},Dgs L T ds vs->Dgs L T es us->Dgs L T (ds++es) (vs++us)
 |[],_,_,_,h,k=>by rw[gJ.mp h];exact k
 |d::ds,_,_,_,h,k=>by
  obtain⟨v,r,rfl,h1,q⟩:=fU.mp h
  exact fU.mpr ⟨v,_,rfl,h1,Dgs.append q k⟩
theorem Dgs.one {d:PyData}{v:V}(h:Dg L T d v):Dgs L T [d] [v]:=fU.mpr ⟨v,[],rfl,h,gJ.mpr rfl⟩
theorem Dgs.two {d e:PyData}{v u:V}(h:Dg L T d v)(k:Dg L T e u):Dgs L T [d,e] [v,u]:=fU.mpr ⟨v,[u],rfl,h,.one k⟩
theorem Dgs.get:∀ {ds:List PyData}{vs:List V}{i:Nat}{v:V},Dgs L T ds vs->vs[i]? = some v->∃ d,ds[i]? = some d/\Dg L T d v
 |[],_,_,_,h,e=>by rw[gJ.mp h]at e;simp at e
 |d::ds,_,0,v,h,e=>by
  obtain⟨x,r,rfl,h1,q⟩:=fU.mp h
  simp at e;subst e
  exact⟨d,rfl,h1⟩
 |d::ds,_,i+1,v,h,e=>by
  obtain⟨x,r,rfl,h1,q⟩:=fU.mp h
  obtain⟨d',e1,e2⟩:=Dgs.get (i:=i) (v:=v) q (by simpa using e)
  exact⟨d',by simpa using e1,e2⟩
theorem Dgs.insert:∀ {ds:List PyData}{vs:List V} (i:Nat) {d:PyData}{v:V},Dgs L T ds vs->Dg L T d v->Dgs L T (ds.take i++d::ds.drop i) (vs.take i++v::vs.drop i)
 |ds,vs,0,d,v,h,k=>fU.mpr ⟨v,vs,by simp,k,by simpa using h⟩
 |[],vs,i+1,d,v,h,k=>by rw[gJ.mp h];simpa using Dgs.one k
 |x::ds,vs,i+1,d,v,h,k=>by
  obtain⟨y,r,rfl,h1,q⟩:=fU.mp h
  exact fU.mpr ⟨y,_,rfl,h1,Dgs.insert i q k⟩
end
abbrev Da (K:PySem.W.Frag)(H:Hp):PyData->V->Prop:=Dg (SqL K H) (SqT K H)
abbrev Das (K:PySem.W.Frag)(H:Hp):List PyData->List V->Prop:=Dgs (SqL K H) (SqT K H)
theorem gj {K:PySem.W.Frag}{H H':Hp}{a:Addr}{xs:List V}(e:fi H H')(h:SqT K H a xs):SqT K H' a xs:=by
 rcases h with(h |⟨o,h⟩)|h
 ·exact .inl (.inl (e _ _ h))
 ·exact .inl (.inr ⟨o,e _ _ h⟩)
 ·exact .inr h
theorem Da.same {K:PySem.W.Frag}{H H':Hp}(e:fi H H'){d:PyData}{v:V}(h:Da K H d v):Da K H' d v:=Dg.mono (λ_ _ q=>e.seq q) (λ_ _ q=>gj e q) h
theorem Das.same {K:PySem.W.Frag}{H H':Hp}(e:fi H H'){d:List PyData}{v:List V}(h:Das K H d v):Das K H' d v:=Dgs.mono (λ_ _ q=>e.seq q) (λ_ _ q=>gj e q) h
section
variable {X:Cx}{pins:List (Addr×Obj)}{σ:St}{H:Hp}{s:Shared}
mutual
theorem Da.reads (I:Inv X pins σ H s):∀ {d:PyData}{v:V}{u:Value},Da X.K H d v->RelV v u->∃ as,Reads s.heap u d as
 |.none,v,u,h,r=>by
  have e:v = .non:=by simpa only[Dg]using h
  subst e;cases r;exact⟨_,.none⟩
 |.bool b,v,u,h,r=>by
  have e:v = .bl b:=by simpa only[Dg]using h
  subst e;cases r;exact⟨_,.bool b⟩
 |.int i,v,u,h,r=>by
  have e:v = .int i:=by simpa only[Dg]using h
  subst e;obtain⟨t,rfl⟩:=r;exact⟨_,.int i t⟩
 |.str i,v,u,h,r=>by
  have e:v = .str i:=by simpa only[Dg]using h
  subst e;obtain⟨t,rfl⟩:=r;exact⟨_,.str i t⟩
 |.list ds,v,u,h,r=>by
  obtain⟨a,vs,rfl,l,q⟩:=jL.mp h
  cases r
  obtain⟨its,rv,p,hz⟩:=I.list l
  obtain⟨as,rs⟩:=Das.reads I q rv
  obtain⟨o,ho,hc,n,hd⟩:=p.isList
  exact⟨_,.list ho hc hd (by simpa using rs)⟩
 |.tuple ds,v,u,h,r=>by
  obtain⟨a,vs,rfl,l,q⟩:=hJ.mp h
  cases r
  obtain⟨its,rv,p,hz⟩:=I.tuple l
  obtain⟨as,rs⟩:=Das.reads I q rv
  obtain⟨o,ho,hc,n,hd⟩:=p
  exact⟨_,.tuple ho hc hd (by simpa using rs)⟩
 |.dict _,v,u,h,r=>by simp only[Dg]at h
theorem Das.reads (I:Inv X pins σ H s):∀ {ds:List PyData}{vs:List V}{us:List Value},Das X.K H ds vs->Vals vs us->∃ as,ReadsAll s.heap us ds as
 |[],vs,us,h,r=>by
  rw[gJ.mp h]at r;cases r;exact⟨_,.nil⟩
 |d::ds,vs,us,h,r=>by
  obtain⟨v,w,rfl,h1,q⟩:=fU.mp h
  cases r with
  |cons r1 r2=>
   obtain⟨as,e1⟩:=Da.reads I h1 r1
   obtain⟨bs,e2⟩:=Das.reads I q r2
   exact⟨_,.cons e1 e2⟩
end
end
section
variable {X:Cx}
def OkD (d:PyData):Prop:=d.canLay0=true/\d.depth<=20
def GB (K:PySem.W.Frag):R2:=λx y H Q=>∃ d e,Da K H d x/\Da K H e y/\OkD d/\OkD e/\Q (.bl (!PyData.eqv d e)) H
theorem vV (hu:X.A.units+64<cLine):OpR X (compareOp .NotEq) (GB X.K):=by
 intro pins s σ H x y v u Q I rx ry h
 obtain⟨d,e,h1,h2,o1,o2,q⟩:=h
 obtain⟨as,r1⟩:=Da.reads I h1 rx
 obtain⟨bs,r2⟩:=Da.reads I h2 ry
 exact SeqAt.compareNe_reads r1 r2 o1.1 o2.1 (by have:=o1.2;have:=o2.2;omega) ⟨.bl _,H,I,rfl,q⟩
def BL (ds:List PyData):Prop:=PyData.canLayAll0 ds=true/\PyData.depthAll ds<=20
def CA (K:PySem.W.Frag)(neg:Bool):R2:=λx y H Q=>∃ ds d,Da K H (.list ds) y/\Da K H d x/\BL ds/\OkD d/\Q (.bl (if neg then !(ds.any λz=>PyData.eqv z d)else ds.any λz=>PyData.eqv z d)) H
theorem CK (hu:X.A.units+64<cLine):OpR X (compareOp .In) (CA X.K false):=by
 intro pins s σ H x y v u Q I rx ry h
 obtain⟨ds,d,h1,h2,o1,o2,q⟩:=h
 obtain⟨as,r1⟩:=Da.reads I h1 ry
 obtain⟨bs,r2⟩:=Da.reads I h2 rx
 exact SeqAt.in_list_reads r1 r2 o1.1 o2.1 (by have:=o1.2;have:=o2.2;omega) ⟨.bl _,H,I,rfl,q⟩
theorem kG (hu:X.A.units+64<cLine):OpR X (compareOp .NotIn) (CA X.K true):=by
 intro pins s σ H x y v u Q I rx ry h
 obtain⟨ds,d,h1,h2,o1,o2,q⟩:=h
 obtain⟨as,r1⟩:=Da.reads I h1 ry
 obtain⟨bs,r2⟩:=Da.reads I h2 rx
 exact SeqAt.notIn_list_reads r1 r2 o1.1 o2.1 (by have:=o1.2;have:=o2.2;omega) ⟨.bl _,H,I,rfl,q⟩
end
theorem ip {α:Type}{f:α->PyData}(h:∀ x,(f x).canLay0=true):∀ l:List α,PyData.canLayAll0 (l.map f)=true
 |[]=>by simp[PyData.canLayAll0]
 |x::l=>by simp[PyData.canLayAll0,h x,ip h l]
theorem gK {α:Type}{f:α->PyData}{k:Nat}(h:∀ x,(f x).depth<=k):∀ l:List α,PyData.depthAll (l.map f)<=k
 |[]=>by simp[PyData.depthAll]
 |x::l=>by
  simp only[aM,PyData.depthAll]
  exact Nat.max_le.mpr ⟨h x,gK h l⟩
def dI (ns:List Int):PyData:=.list (ns.map .int)
def dP (p:Int×Int):PyData:=.tuple [.int p.1,.int p.2]
def dJ (js:List (Int×Int)):PyData:=.list (js.map dP)
def dL (l:Int×List (Int×Int)):PyData:=.tuple [.int l.1,dJ l.2]
theorem pS (i:Int):OkD (.int i):=⟨rfl,by simp[PyData.depth]⟩
theorem n8 (ns:List Int):OkD (dI ns):=⟨by simp only[dI,PyData.canLay0];exact ip (λ_=>rfl) ns,by
 simp only[dI,PyData.depth]
 have:=gK (f:=PyData.int) (k:=0) (λ_=>by simp[PyData.depth]) ns
 omega⟩
theorem qU (p:Int×Int):(dP p).canLay0=true:=by simp[dP,PyData.canLay0,PyData.canLayAll0]
theorem tV (p:Int×Int):(dP p).depth<=1:=by simp[dP,PyData.depth,PyData.depthAll]
theorem Ey (p:Int×Int):OkD (dP p):=⟨qU p,by have:=tV p;omega⟩
theorem CN (js:List (Int×Int)):BL (js.map dP):=⟨ip qU js,by have:=gK tV js;omega⟩
theorem xx (js:List (Int×Int)):(dJ js).depth<=2:=by simp only[dJ,PyData.depth];have:=gK tV js;omega
theorem Ez (js:List (Int×Int)):OkD (dJ js):=⟨by simp only[dJ,PyData.canLay0];exact ip qU js,by have:=xx js;omega⟩
theorem BA (l:Int×List (Int×Int)):(dL l).depth<=3:=by
 simp only[dL,PyData.depth,PyData.depthAll]
 have:=xx l.2
 omega
theorem se (l:Int×List (Int×Int)):OkD (dL l):=⟨by simp only[dL,PyData.canLay0,PyData.canLayAll0,Bool.and_true,Bool.true_and];exact(Ez l.2).1,by have:=BA l;omega⟩
theorem lV {d:PyData}(h:OkD d):PyData.eqv d d=true:=SeqAt.eqv_refl d h.1
theorem B5 (p q:Int×Int):PyData.eqv (dP p) (dP q)=decide (p=q):=by
 obtain⟨a,b⟩:=p
 obtain⟨c,d⟩:=q
 simp only[dP,PyData.eqv,PyData.eqvAll,Bool.and_true]
 rw[cj]
 simp
theorem Fw (js:List (Int×Int))(p:Int×Int):((js.map dP).any λz=>PyData.eqv z (dP p))=decide (p∈js):=by
 rw[List.any_map,cj,eU,cA]
 constructor
 ·rintro⟨x,hx,e⟩
  have e':PyData.eqv (dP x) (dP p)=true:=e
  rw[B5,cA]at e'
  rw[<-e'];exact hx
 ·intro h
  exact⟨p,h,by show PyData.eqv (dP p) (dP p)=true;rw[B5];simp⟩
theorem A4:OkD (.list []):=n8 []
section
variable {X:Cx}
theorem Bc (its:List Value)(k:Nat)(y:Value):(its.toArray.extract 0 k).push y++its.toArray.extract k=(its.take k++y::its.drop k).toArray:=PySem.W.kl_ins_eq its k y
def AU:V->List V->Hp->VK->Prop:=λx vs H Q=>∃ l xs i y,x = .ref l/\vs = [.int i,y]/\H l=some (.lst xs)/\0<=i/\i<=xs.length/\xs.length<sizeLine/\Q .non (upd H l (.lst (xs.take i.toNat++y::xs.drop i.toNat)))
theorem sf:MtM X "list.insert" AU:=by
 intro pins s σ H x vs v us Q I rx rv h
 obtain⟨l,xs,i,y,rfl,rfl,hH,h0,h1,hz,q⟩:=h
 cases rx
 obtain⟨ui,u,rfl,ri,ru⟩:=rv.two
 obtain⟨t,rfl⟩:=ri
 obtain⟨z,its,n,r,hl,e⟩:=I.tM hH
 have hs:its.toArray.size<=sizeLine:=by rw[aE];omega
 have hf:Builtin.List.listFitsIndex i=true:=by
  unfold Builtin.List.listFitsIndex
  have h63:(sizeLine:Nat)<2 ^ 62:=by rw[dG];decide
  simp only[dS,eI]
  constructor<;>omega
 refine eT eP ⟨_,e,rfl⟩ PySem.F.entry_list_insert (PySem.F.args_list_insert_3 _ _ _) (PySem.AutoSeq1.list_insert_list_int_val_1 l its.toArray n i t u (by simp[hf]) hs) ⟨e,?_⟩
 refine⟨.non,_,I.A7 (its':=its.take i.toNat++u::its.drop i.toNat) (ys:=xs.take i.toNat++y::xs.drop i.toNat) hH e ?_ ((r.take i.toNat).append (.cons ru (r.drop i.toNat))) ?_,rfl,q⟩
 ·have hk:(if i<0 then(i+(its.toArray.size:Int)).toNat else min i.toNat its.toArray.size)=i.toNat:=by
   rw[au (by omega),aE]
   omega
  show(its.toArray.extract 0 (if i<0 then(i+(its.toArray.size:Int)).toNat else min i.toNat its.toArray.size)).push u++its.toArray.extract (if i<0 then(i+(its.toArray.size:Int)).toNat else min i.toNat its.toArray.size)=_
  rw[hk,Bc]
 ·rw[ah,aY,bw,cz]
  omega
end
def srt (ns:List Int):List Int:=ns.mergeSort (λa b=>decide (a<=b))
theorem lM (ns:List Int):(srt ns).Perm ns:=List.mergeSort_perm ns _
theorem p9 (ns:List Int):(srt ns).Pairwise (· <= ·):=by
 have h:=List.pairwise_mergeSort (le:=λa b:Int=>decide (a<=b)) (by intro a b c h1 h2;simp only[eI]at *;omega) (by intro a b;simp only[Bool.or_eq_true,eI];omega) ns
 exact h.imp (by intro a b h;simpa using h)
theorem vN {a b:List Int}(hp:a.Perm b)(ha:a.Pairwise (· <= ·))(hb:b.Pairwise (· <= ·)):a=b:=PySem.W.ksm_same hp ha hb
theorem yQ {a ns:List Int}(hp:a.Perm ns)(ha:a.Pairwise (· <= ·)):a=srt ns:=vN (hp.trans (lM ns).symm) ha (p9 ns)
theorem xO {a b:List Int}(hp:a.Perm b):srt a=srt b:=yQ ((lM a).trans hp) (p9 a)
theorem AN {ns:List Int}{x:Int} :x∈srt ns↔x∈ns:=(lM ns).mem_iff
theorem nA (ns:List Int):(srt ns).length=ns.length:=(lM ns).length_eq
section
variable {X:Cx}
end
theorem Inv.xI {X:Cx}{pins:List (Addr×Obj)}{σ:St}{H:Hp}{s:Shared}{h':Heap}{t':Nat}{ch:List Addr}{xs:List V}{us:List Value}(I:Inv X pins σ H s)(hf:∀ b∈ch,pK X pins H b)
  (keep:∀ b o,b∉ch->s.heap.get? b=some o->h'.get? b=some o) (r:Vals xs us) (hz:xs.length<=sizeLine) (ht:h'.get? s.heap.objs.size=some {cls:=.type "tuple",data:=.seq us.toArray}):
  Inv X pins σ (upd H s.heap.objs.size (.tup xs)) {s with heap:=h',toks:=t'} :=by
 have hn:H s.heap.objs.size=none:=I.fresh
 have nch:∀ b u,H b=some u->b∉ch:=λb u q z=>by rw[(hf b z).1]at q;cases q
 refine I.step (g':=s.gens) (d':=s.drawn) (ch:=ch) (λb hb=>?_) (λb o _ _ hc q _=>keep b o hc q) (λb o _ _ hc q _=>⟨o.slots,keep b o hc q⟩) (λb o _ q n=>?_)
  (λb o hc q=>⟨o,keep b o hc q⟩) (λb ys q=>by rw[fc (fb q hn)];exact q) (λb o ys q=>by rw[fc (fb q hn)];exact q) (λb ps q=>⟨#[],by rw[fc (fb q hn),q];simp⟩) (λm hm=>?_) (λb u q=>?_) I.bare
 ·obtain⟨f0,f1,f2,f3,f4,f5⟩:=hf b hb
  exact⟨f3,f1,f4,f5⟩
 ·rw[fc (bo (aK q))];exact n
 ·obtain⟨o,es,ep,ho,r⟩:=hm
  exact⟨o,es,ep,keep _ o (λz=>(hf _ z).2.1 rfl) ho,r⟩
 ·by_cases hb:b=s.heap.objs.size
  ·subst hb
   rw[eX]at q
   cases q
   exact⟨hz,us,r,⟨_,ht,rfl,_,rfl⟩⟩
  ·rw[fc hb]at q
   refine(I.hok b u q).oE (λc v hc q'=>keep c v ?_ q') (λc z=>by rw[fc (fb z hn)];exact z) λc ys z=>by rw[fc (fb z hn)];exact z
   rcases hc with z |z
   ·rw[z];exact nch b u q
   ·exact nch c _ z
def Ite (K:PySem.W.Frag)(a:Addr):It:=
 ⟨λi H=>∃ xs x,SqL K H a xs/\xs[i]? = some x,λi H x H'=>∃ p,H p=none/\x = .ref p/\∀ xs y,SqL K H a xs->xs[i]? = some y->H'=upd H p (.tup [.int i,y]),λi H=>∃ xs,SqL K H a xs/\xs.length<=i⟩
theorem xM {P:Program}{w:World}{K:PySem.W.Frag}{es:List Expr}{x1:Nat}{pt:Pos}(a e it:Addr)(hne:e≠it):
  Turn P w K (.Tuple es x1 pt) (Ite K a) [e,it] e (λi h=>∃ old,IsEnum h e it i old/\h.IsListIter it a i) where
 mem:=by simp
 obj:=λi h st b hb=>by
  obtain⟨old,h1,h2⟩:=st
  rcases aJ.mp hb with z |z
  ·subst z;exact⟨_,h1,λv z=>by cases z⟩
  ·have z:b=it:=by simpa using z
   subst z
   obtain⟨o,ho,c,d⟩:=h2
   exact⟨o,ho,λv z=>by rw[d]at z;cases z⟩
 keep:=λi h h' ⟨old,h1,h2⟩ k=>⟨old,k e (by simp) _ h1,h2.at λo q=>k it (by simp) o q⟩
 item:=by
  intro X hP hw hK hc i pins s σ H E I hf st hg
  subst hP hw hK
  obtain⟨old,h1,h2⟩:=st
  obtain⟨xs,x,hq,hx⟩:=hg
  obtain⟨its,rv,p,hz⟩:=I.list hq
  obtain⟨u,hu,ru⟩:=rv.get hx
  have lt1:e<s.heap.objs.size:=aK h1
  refine wpAny_pyNext_enum_item h1 h2 p.isList (x:=u) (by simpa using hu) hne λh' k1 k2 k3 k4 k5=>?_
  refine⟨_,rfl,?_⟩
  refine wpAny_letOwnedTupleGo_enum (s:={s with heap:=h',toks:=s.toks+1}) k1 λh'' m1 m2=>?_
  have keep:∀ b o,b∉ [e,it]->s.heap.get? b=some o->h''.get? b=some o:=λb o hb q=>m2.extBut b o (λz=>hb (by simp[z])) (k5 b o (λz=>hb (by simp[z])) (λz=>hb (by simp[z])) q)
  have ht:h''.get? s.heap.objs.size=some {cls:=.type "tuple",data:=.seq [Value.int i s.toks,u].toArray} :=m2.extBut _ _ (Nat.ne_of_gt lt1) k3
  have J1:Inv X pins σ (upd H s.heap.objs.size (.tup [.int i,x])) {s with heap:=h'',toks:=s.toks+1} :=Inv.xI I hf keep (.cons ⟨_,rfl⟩ (.cons ru .nil)) (by show 2<=sizeLine;decide) ht
  have hn:H s.heap.objs.size=none:=I.fresh
  refine⟨.ref s.heap.objs.size,_,J1,rfl,⟨_,hn,rfl,λys y hy h=>?_⟩,⟨u,?_,?_⟩,λb hb=>?_⟩
  ·have e1:=I.oa hy hq
   subst e1
   rw[hx]at h
   cases h
   rfl
  ·have e1:((i+1:Nat):Int)=(i:Int)+1:=by omega
   rw[e1];exact m1
  ·exact k2.extBut m2.extBut (b9 hne)
  ·obtain⟨o,q,_⟩:∃ o,s.heap.get? b=some o/\True:=by
    rcases aJ.mp hb with z |z
    ·subst z;exact⟨_,h1,trivial⟩
    ·have z:b=it:=by simpa using z
     subst z
     obtain⟨o,ho,_⟩:=h2
     exact⟨o,ho,trivial⟩
   rw[fc (bo (aK q))]
   exact(hf b hb).1
 done:=by
  intro X hP hw hK hc i pins s σ H E I hf st hg
  subst hP hw hK
  obtain⟨old,h1,h2⟩:=st
  obtain⟨xs,hq,hx⟩:=hg
  obtain⟨its,rv,p,hz⟩:=I.list hq
  obtain⟨g0,g1,g2,g3,g4,g5⟩:=hf it (by simp)
  have hl:=rv.length
  exact wpAny_pyNext_enum_end (I.ok.hd hc) h1 h2 p.isList (by simp;omega) λh' eb=>⟨rfl,I.turned (t':=s.toks) (λb o hb e=>eb b o hb e) g0 g1 g3 g4 g5⟩
 self:=λ_ _ _ _ _ ⟨old,h1,h2⟩ h=>wpAny_pyIter_enum h1 h
section
variable {X:Cx}
def ET (K:PySem.W.Frag)(ta:TA):TI:=λσ H R=>ta σ H λvs H1=>∃ a,vs = [.ref a]/\(∃ xs,SqL K H1 a xs)/\R (Ite K a) H1
theorem xg {a:Expr}{ta:TA}{p pos:Pos}{es:List Expr}{x1:Nat}{pt:Pos}(hg:Gl X "enumerate")(hm:X.mg "enumerate" = none)(ha:PA X [a] ta)(hs:starEach [a] X.env = [(false,eval a X.env)]:=by rfl):PI X (.Tuple es x1 pt) (.Call (.Name "enumerate" p) [a] [] pos) (ET X.K ta):=by
 intro pins s σ H R I h
 refine Call_ (lT I hg hm boot_enumerate (bZ (thn (ha pos pins s σ H _ I h) λus s1 ⟨vs,H1,I1,r1,q1⟩=>?_) hs rfl))
 obtain⟨a,e,⟨xs,hq⟩,q⟩:=q1
 subst e
 obtain⟨u,rfl,ru⟩:=vals1 r1
 cases ru
 obtain⟨its,rv,pl,hz⟩:=I1.list hq
 refine call_enumerate_list pl.isList λh' k1 k2 k3 k4=>?_
 refine wpAny_pyIter_enum (s:={s1 with heap:=h'}) k1 ?_
 refine⟨s1.heap.objs.size+1,[s1.heap.objs.size+1,s1.heap.objs.size],_,_,H1,rfl,I1.kept (t':=s1.toks) k4,xM a _ _ (Nat.succ_ne_self _),⟨.none,k1,k2⟩,λb hb=>?_,q⟩
 have hb':s1.heap.objs.size<=b:=by
  rcases aJ.mp hb with z |z
  ·rw[z];exact eJ _
  ·have z:b=s1.heap.objs.size:=by simpa using z
   rw[z];exact aq _
 exact I1.yr hb' (I1.hok.fresh hb')
end
theorem Ai {K:PySem.W.Frag}{a:Addr}{xs:List V}{g:TG}{tb:TS}{D:Ends}{σ:St}{H:Hp}(Pv:Nat->St->Hp->Prop)(h0:Pv 0 σ H)(hl:∀ i σ H,i<=xs.length->Pv i σ H->SqL K H a xs)
  (hs:∀ i x σ H p,xs[i]? = some x->Pv i σ H->H p=none->g (.ref p) σ (upd H p (.tup [.int i,x])) λσ2 H2=>tb {D with nx:=Pv (i+1),ct:=Pv (i+1),bk:=D.nx} σ2 H2) (hd:∀ σ H,Pv xs.length σ H->D.nx σ H):
  ∃ W:Nat->Nat->St->Hp->Prop,(∃ m,W 0 m σ H)/\∀ i m σ H,W i m σ H->
   ((Ite K a).stop i H/\D.nx σ H)\/((Ite K a).go i H/\∃ N:St->Hp->Prop,(∀ σ' H',N σ' H'->∃ m',m'<m/\W (i+1) m' σ' H')/\∀ x H',(Ite K a).yld i H x H'->g x σ H' λσ2 H2=>tb {D with nx:=N,ct:=N,bk:=D.nx} σ2 H2):=by
 refine⟨λi m σ H=>m=xs.length-i/\i<=xs.length/\Pv i σ H,⟨xs.length,by simp,aW _,h0⟩,?_⟩
 rintro i m σ H ⟨rfl,hi,p⟩
 have q:=hl i σ H hi p
 by_cases hlt:i<xs.length
 ·refine .inr ⟨⟨xs,xs[i],q,by simp[hlt]⟩,Pv (i+1),λσ' H' p'=>⟨xs.length-(i+1),by omega,rfl,hlt,p'⟩,λx H' y=>?_⟩
  obtain⟨pa,hp,e,y⟩:=y
  subst e
  have hx:xs[i]? = some xs[i]:=by simp[hlt]
  rw[y xs _ q hx]
  exact hs i _ σ H pa hx p hp
 ·have e:i=xs.length:=by omega
  subst e
  exact .inl ⟨⟨xs,q,aq _⟩,hd σ H p⟩
def Itv (K:PySem.W.Frag)(a:Addr):It:=
 ⟨λi H=>∃ xs x,SqL K H a xs/\xs.reverse[i]? = some x,λi H x H'=>H'=H/\∀ xs,SqL K H a xs->xs.reverse[i]? = some x,λi H=>∃ xs,SqL K H a xs/\xs.length=i⟩
theorem yM {P:Program}{w:World}{K:PySem.W.Frag}{tg:Expr}(a it:Addr)(n:Nat):Turn P w K tg ⟨λi H=>(Itv K a).go i H/\∃ xs,SqL K H a xs/\xs.length=n,(Itv K a).yld,λi H=>i=n⟩ [it] it (λi h=>i<=n/\h.IsRevIter it a ((n:Int)-1-(i:Int))) where
 mem:=by simp
 obj:=λi h st b hb=>by
  have e:b=it:=by simpa using hb
  subst e
  obtain⟨_,o,e,c,d⟩:=st
  exact⟨o,e,λv z=>by rw[d]at z;cases z⟩
 keep:=λi h h' st k=>⟨st.1,st.2.at λo e=>k it (by simp) o e⟩
 item:=by
  intro X hP hw hK hc i pins s σ H E I hf st hg
  subst hP hw hK
  obtain⟨⟨xs,x,hq,hx⟩,ys,hq2,hn⟩:=hg
  have e0:=I.oa hq2 hq
  subst e0
  obtain⟨its,rv,p,hz⟩:=I.list hq
  have hil:i<ys.length:=by have:=(af.mp hx).1;rwa [aP]at this
  have hx':ys[ys.length-1-i]? = some x:=by rw[cD hil]at hx;exact hx
  obtain⟨u,hu,ru⟩:=rv.get hx'
  obtain⟨f0,f1,f2,f3,f4,f5⟩:=hf it (by simp)
  have e1:(n:Int)-1-(i:Int)=((ys.length-1-i:Nat):Int):=by omega
  have st2:=st.2
  rw[e1]at st2
  refine wpAny_pyNext_rev_item st2 p.isList (x:=u) (by simpa using hu) λh' st' sb=>?_
  have I1:Inv X pins σ H {s with heap:=h'} :=I.turned (t':=s.toks) (λb o hb e=>(sb.2 b hb).trans e) f0 f1 f3 f4 f5
  have e2:((ys.length-1-i:Nat):Int)-1=(n:Int)-1-((i+1:Nat):Int):=by omega
  rw[e2]at st'
  obtain⟨o,e,c,d⟩:=id st'
  exact⟨u,rfl,xq (s:={s with heap:=h'}) e c d (by decide) ⟨x,H,I1,ru,⟨rfl,λzs hy=>by rw[I.oa hy hq];exact hx⟩,⟨by omega,st'⟩,λb hb=>(hf b hb).1⟩⟩
 done:=by
  intro X hP hw hK hc i pins s σ H E I hf st hg
  subst hP hw hK
  have hg:i=n:=hg
  subst hg
  obtain⟨f0,f1,f2,f3,f4,f5⟩:=hf it (by simp)
  have e1:(i:Int)-1-(i:Int) = -1:=by omega
  have st2:=st.2
  rw[e1]at st2
  exact wpAny_pyNext_rev_end (I.ok.hd hc) st2 λh' eb=>⟨rfl,I.turned (t':=s.toks) (λb o hb e=>eb b o hb e) f0 f1 f3 f4 f5⟩
 self:=λ_ _ _ _ _ st h=>wpAny_pyIter_revIter st.2 h
section
variable {X:Cx}{tg:Expr}
def II (K:PySem.W.Frag)(ta:TA):TI:=λσ H R=>ta σ H λvs H1=>∃ a xs,vs = [.ref a]/\SqL K H1 a xs/\R ⟨λi H=>(Itv K a).go i H/\∃ ys,SqL K H a ys/\ys.length=xs.length,(Itv K a).yld,λi H=>i=xs.length⟩ H1
theorem zk {a:Expr}{ta:TA}{p pos:Pos}(hg:Gl X "reversed")(hm:X.mg "reversed" = none)(ha:PA X [a] ta)(hs:starEach [a] X.env = [(false,eval a X.env)]:=by rfl):PI X tg (.Call (.Name "reversed" p) [a] [] pos) (II X.K ta):=by
 intro pins s σ H R I h
 refine Call_ (lT I hg hm boot_reversed (bZ (thn (ha pos pins s σ H _ I h) λus s1 ⟨vs,H1,I1,r1,q1⟩=>?_) hs rfl))
 obtain⟨a,xs,e,hq,q⟩:=q1
 subst e
 obtain⟨u,rfl,ru⟩:=vals1 r1
 cases ru
 obtain⟨its,rv,pl,hz⟩:=I1.list hq
 have hl:=rv.length
 refine call_reversed_list pl.isList ?_
 have hit:Heap.IsRevIter (s1.heap.push (revObj a ((its.toArray.size:Int)-1))) s1.heap.objs.size a (((xs.length:Nat):Int)-1-((0:Nat):Int)):=by
  refine⟨_,ba _ rfl,rfl,?_⟩
  have e1:((xs.length:Nat):Int)-1-((0:Nat):Int)=(its.toArray.size:Int)-1:=by rw[aE];omega
  rw[e1];rfl
 refine wpAny_pyIter_revIter (s:={s1 with heap:=s1.heap.push (revObj a ((its.toArray.size:Int)-1))}) hit ?_
 refine⟨s1.heap.objs.size,[s1.heap.objs.size],_,_,H1,rfl,I1.kept (t':=s1.toks) (λb o e=>aH _ e),yM a _ xs.length,⟨aW _,hit⟩,λb hb=>?_,q⟩
 have e:b=s1.heap.objs.size:=by simpa using hb
 subst e
 exact I1.yr (aq _) (I1.hok.fresh (aq _))
end
section
variable {X:Cx}{e:Expr}{te:TE}{pos p2:Pos}
def Cg (K:PySem.W.Frag)(te ts:TE):TE:=λσ H Q=>te σ H λx H1=>ts σ H1 λy H2=>∃ i,y = .int i/\∃ a xs,some i=some (-1:Int)/\x = .ref a/\SqL K H2 a xs/\∀ p,H2 p=none->Q (.ref p) (upd H2 p (.lst xs.reverse))
theorem zo {st:Expr}{ts:TE}(he:PE X e te)(hs:PE X st ts):PE X (.Subscript e (.Slice none none (some st) p2) pos) (Cg X.K te ts):=by
 intro pins s σ H Q I h
 refine Subscript_ (thn (he pins s σ H _ I h) λv s1 ⟨x,H1,I1,r1,q1⟩=>?_)
 refine wpAny_Slice ?_
 rw[evalPart_none]
 refine aB (aB (thn (nW hs pins s1 σ H1 (λo H2=>∃ a xs,o=some (-1)/\x = .ref a/\SqL X.K H2 a xs/\∀ p,H2 p=none->Q (.ref p) (upd H2 p (.lst xs.reverse))) I1 q1) λvk s3 ⟨o,H3,I3,pk,q3⟩=>?_))
 ·obtain⟨a,xs,rfl,rfl,hq,q⟩:=q3
  cases r1
  have I4:Inv X pins σ H3 {s3 with heap:=s3.heap.push {cls:=.type "slice",data:=.fields #[.none,.none,vk]}} :=I3.kept (t':=s3.toks) λb ob q=>aH _ q
  obtain⟨its,r,ht,hz⟩:=I4.list hq
  have hlen:=r.length
  refine tail_any (ops:=[.ref a,.ref s3.heap.objs.size]) ht.isList.typeIs slot_list_getitem.lookup ?_ (by with_unfolding_all rfl)
  refine wpAny_getItem_list_slice ht.isList (Heap.IsSliceOf.new ..) .none .none pk (by simp) ?_ (by rw[aE]<;>omega)
  rw[PySem.W.krv_pick]
  refine⟨.ref _,_,I4.laid (t':=s3.toks) (o:=.lst xs.reverse) (λb ob q=>aH _ q) (aq _) ⟨by rw[aP];exact hz,its.reverse,0,r.reverse,?_⟩,rfl,q _ (I4.hok.fresh (aq _))⟩
  exact ba _ rfl
end
theorem mr {X:Cx} :kd X (.builtin "isinstance") (λxs H Q=>∃ x c t b,xs = [x,.ty c]/\oY X.K H x t/\PySem.W.kitOne X.K t (.type c)=some b/\Q (.bl b) H):=by
 intro pins s σ H xs us Q I r h
 obtain⟨x,c,t,b,rfl,ty,e,q⟩:=h
 obtain⟨u,u2,rfl,ru,rc⟩:=vals2 r
 cases rc
 exact ym I ru ty e λtk=>⟨.bl b,H,I.tok tk,rfl,q⟩
theorem uW {K:PySem.W.Frag}{t:Value} :PySem.W.kitOne K t t=some true:=by unfold PySem.W.kitOne;rw[aD (by simp)]
structure Bl (mg:Str->Option Value):Prop where
 len:mg "len" = none
 range:mg "range" = none
 sorted:mg "sorted" = none
 enumerate:mg "enumerate" = none
 reversed:mg "reversed" = none
 min:mg "min" = none
 max:mg "max" = none
 list:mg "list" = none
 int:mg "int" = none
 isinstance:mg "isinstance" = none
structure Fn (K:PySem.W.Frag)(mg:Str->Option Value)(x:Str)(st:Stmt)(ps:List Str)(f:Addr)(fd:FuncData):Prop where
 F:Fun K x x st f fd
 m:mg x=some (.ref f)
 b:Binds K fd ps []
def below (js:List (Int×Int))(e:Int):List Int:=(js.filter λp=>decide (p.2=e)).map (·.1)
def above (js:List (Int×Int))(e:Int):List Int:=(js.filter λp=>decide (p.1=e)).map (·.2)
def inc (js:List (Int×Int))(e:Int):Nat:=(below js e).length+(above js e).length
def jn (js:List (Int×Int))(e:Int):List Int:=srt (below js e++above js e)
theorem EL (js:List (Int×Int))(e:Int):srt (above js e++below js e)=jn js e:=xO dH
structure fk (l:Int×List (Int×Int)):Prop where
 one:1<=l.1
 most:l.1<=40
 len:l.2.length<=80
 inc:∀ e,inc l.2 e<=160
 ends:∀ p∈l.2,0<=p.1/\p.1<=p.2/\p.2<2*l.1
theorem inc_le (js:List (Int×Int))(e:Int):inc js e<=2*js.length:=by
 unfold inc below above
 rw[aa,aa]
 have h1:=bH (λp:Int×Int=>decide (p.2=e)) js
 have h2:=bH (λp:Int×Int=>decide (p.1=e)) js
 omega
def t5 (H:Hp)(ns:List Int)(Q:VK):Prop:=∀ (p:Addr) (H':Hp),fi H H'->H p=none->H' p=some (.lst (ns.map V.int))->Q (.ref p) H'
theorem fi.upd {H H':Hp}{l:Addr}{o:HO}(s:fi H H')(hn:H l=none):fi H (upd H' l o):=λb u e=>by rw[fc (fb e hn)];exact s b u e
theorem lF {K:PySem.W.Frag}{H:Hp}{ns:List Int}{v:V} :Da K H (dI ns) v↔∃ a,v = .ref a/\SqL K H a (ns.map V.int):=by
 unfold dI
 refine Iff.trans jL ?_
 constructor
 ·rintro⟨a,vs,rfl,h,q⟩
  rw[kK.mp q]at h
  exact⟨a,rfl,h⟩
 ·rintro⟨a,rfl,h⟩
  exact⟨a,_,rfl,h,kK.mpr rfl⟩
theorem jc {K:PySem.W.Frag}{H:Hp}{ns:List Int}{p:Addr}(h:H p=some (.lst (ns.map V.int))):Da K H (dI ns) (.ref p):=lF.mpr ⟨p,rfl,SqL.of h⟩
theorem mY {K:PySem.W.Frag}{H:Hp}{l:Int×List (Int×Int)}{v:V}(h:Da K H (dL l) v):∃ a b,v = .ref a/\SqT K H a [.int l.1,.ref b]/\∃ vs,SqL K H b vs/\Das K H (l.2.map dP) vs:=by
 unfold dL at h
 obtain⟨a,vs,rfl,ht,q⟩:=hJ.mp h
 obtain⟨v1,r,rfl,h1,q⟩:=fU.mp q
 obtain⟨v2,r,rfl,h2,q⟩:=fU.mp q
 cases gJ.mp q
 cases ik.mp h1
 unfold dJ at h2
 obtain⟨b,us,rfl,hl,q⟩:=jL.mp h2
 exact⟨a,b,rfl,ht,us,hl,q⟩
theorem lX {K:PySem.W.Frag}{H:Hp}{js:List (Int×Int)}{vs:List V}{i:Nat}{x:V}(h:Das K H (js.map dP) vs)(e:vs[i]? = some x):∃ a p,js[i]? = some p/\x = .ref a/\SqT K H a [.int p.1,.int p.2]:=by
 obtain⟨d,e1,hd⟩:=Dgs.get h e
 rw[aj]at e1
 cases q:js[i]? with
 |none=>rw[q]at e1;cases e1
 |some p=>
  rw[q]at e1
  cases e1
  unfold dP at hd
  obtain⟨a,us,rfl,ht,q⟩:=hJ.mp hd
  obtain⟨v1,r,rfl,h1,q⟩:=fU.mp q
  obtain⟨v2,r,rfl,h2,q⟩:=fU.mp q
  cases gJ.mp q
  cases ik.mp h1
  cases ik.mp h2
  exact⟨a,p,rfl,rfl,ht⟩
theorem tI (ms:List Int):BL (ms.map PyData.int):=⟨ip (λ_=>rfl) ms,by have:=gK (f:=PyData.int) (k:=0) (λ_=>by simp[PyData.depth]) ms;omega⟩
theorem xB (ms:List Int)(x:Int):((ms.map PyData.int).any λz=>PyData.eqv z (.int x))=decide (x∈ms):=by
 rw[List.any_map,cj,eU,cA]
 constructor
 ·rintro⟨y,hy,e⟩
  have e':PyData.eqv (.int y) (.int x)=true:=e
  simp only[PyData.eqv,beq_iff_eq]at e'
  rw[<-e'];exact hy
 ·intro h
  exact⟨x,h,by show PyData.eqv (.int x) (.int x)=true;simp[PyData.eqv]⟩
theorem iA {i:Nat}{x:V}{σ:St}{H:Hp}{te:TE}{P1:VK}{P0:Hp->Prop}(h:te (σ.set i (some x)) H P1):ni i x σ H (λσ2 H2=>D9 σ2 H2 λb H3=>if b=true then te σ2 H3 P1 else P0 H3):=C9 (A:=te (σ.set i (some x)) H P1) (B:=P0 H) h
theorem kJ {α:Type}(xs:List α):(xs.filter λ_=>true)=xs:=by simp
section
variable {X:Cx}{K:PySem.W.Frag}
theorem vU (hK:X.K=K)(hu:X.A.units+64<cLine):OpR X (compareOp .NotIn) (CA K true):=hK ▸ kG hu
theorem zP (hK:X.K=K):IxR X (Er K):=hK ▸ fV
end
structure JS (J:It)(n:Nat)(H1:Hp)(it:Nat->V->Prop):Prop where
 go:∀ i H,fi H1 H->i<n->J.go i H
 yld:∀ i H x H',fi H1 H->i<n->J.yld i H x H'->H'=H/\it i x
 stop:∀ H,fi H1 H->J.stop n H
theorem mV {K:PySem.W.Frag}{a:Addr}{xs:List V}{H1:Hp}(hx:SqL K H1 a xs):JS (Itl K a) xs.length H1 (λi x=>xs[i]? = some x):=
 ⟨λi H s hi=>⟨xs,xs[i],s.seq hx,by simp⟩,λi H x H' s hi y=>⟨y.1,y.2 xs (s.seq hx)⟩,λH s=>⟨xs,s.seq hx,aq _⟩⟩
theorem zO {K:PySem.W.Frag}{a:Addr}{xs:List V}{H1:Hp}(hx:SqL K H1 a xs):JS ⟨λi H=>(Itv K a).go i H/\∃ ys,SqL K H a ys/\ys.length=xs.length,(Itv K a).yld,λi H=>i=xs.length⟩ xs.length H1 (λi x=>xs.reverse[i]? = some x):=
 ⟨λi H s hi=>⟨⟨xs,xs.reverse[i]'(by rw[aP];exact hi),s.seq hx,ae _⟩,xs,s.seq hx,rfl⟩,λi H x H' s hi y=>⟨y.1,y.2 xs (s.seq hx)⟩,λH s=>rfl⟩
theorem zL {α:Type}{J:It}{n:Nat}{it:Nat->V->Prop}{l:Addr}{g:TG}{tt:TT}{te:TE}{cap:List (Option Nat)}{σ:St}{Q:VK}{H1:Hp}(S:JS J n H1 it)(ds:List α)(p:α->Bool)(f:α->V)(hn:H1 l=none)(hlen:n=ds.length)(hz:n<sizeLine)
  (hs:∀ (i:Nat) x d H,it i x->ds[i]? = some d->fi H1 H->∀ (P1:VK) (P0:Hp->Prop),(p d=true->P1 (f d) H)->(p d=false->P0 H)->
   g x (j9 cap σ) H λσ2 H2=>tt σ2 H2 λb H3=>if b=true then te σ2 H3 P1 else P0 H3)
  (hq:Q (.ref l) (upd H1 l (.lst ((ds.filter p).map f)))):LcW J g tt te cap σ Q l H1:=by
 refine⟨λi m acc H=>m=n-i/\i<=n/\acc=((ds.take i).filter p).map f/\H=upd H1 l (.lst acc),⟨n,by simp,aW _,rfl,rfl⟩,?_⟩
 rintro i m acc H ⟨rfl,hi,e1,e2⟩
 have sm:fi H1 H:=by rw[e2];exact eW hn
 by_cases hlt:i<n
 ·refine .inr ⟨S.go i H sm hlt,λrA H'=>rA=((ds.take (i+1)).filter p).map f/\H'=upd H1 l (.lst rA),λrA H' ⟨p1,p2⟩=>⟨n-(i+1),by omega,rfl,hlt,p1,p2⟩,λx H' y0=>?_⟩
  obtain⟨e,y⟩:=S.yld i H x H' sm hlt y0
  clear y0
  subst e
  have hd:ds[i]? = some (ds[i]'(by omega)):=by simp
  generalize ds[i]'(by omega)=d at hd
  have step:((ds.take (i+1)).filter p).map f=acc++(if p d=true then[f d]else[]):=by
   rw[take_succ_filter p ds i d hd,ax,e1]
   cases p d<;>rfl
  refine hs i x d H' y hd sm _ _ (λhp=>?_) (λhp=>?_)
  ·refine⟨by rw[e2,eX],?_,?_,?_⟩
   ·have h1:acc.length<=i:=by
     rw[e1,aa]
     exact bF (bH _ _) (by rw[bw];omega)
    omega
   ·rw[step,hp];rfl
   ·rw[e2,pM]
  ·refine⟨?_,e2⟩
   rw[step,hp,au aU,bX]
 ·have e:i=n:=by omega
  subst e
  refine .inl ⟨S.stop H sm,?_⟩
  rw[hlen,bC]at e1
  rw[e2,e1]
  exact hq
abbrev Mv:=(Str×Int)×List Int
def dMv (m:Mv):PyData:=.tuple [.tuple [.str m.1.1,.int m.1.2],dI m.2]
def fr (l:Int×List (Int×Int))(ns:List Int)(e:Int):List Int:=(jn l.2 e).filter λt=> !decide (t/2∈ns.map (· / 2))
def onM (ns:List Int)(e:Int):Mv:=(("on",e),ns.drop 1 ++ [e])
def jI (ns:List Int)(e:Int):Mv:=(("back",e),oth e::ns.dropLast)
def mvs (l:Int×List (Int×Int))(ns:List Int):List Mv:=(fr l ns (oth (ns.getLastD 0))).map (onM ns)++(fr l ns (ns.headD 0)).map (jI ns)
def Lf (H H2:Hp)(t:Addr):Addr->List V->Prop:=λa us=>H2 a=some (.lst us)/\H a=none/\a≠t
theorem kg {K:PySem.W.Frag}{H:Hp}{t b:Addr}{vs xs:List V}{o:HO}(ht:H t=some (.lst vs))(h:SqT K H b xs):SqT K (upd H t o) b xs:=by
 rcases h with(h |⟨o,h⟩)|h
 ·exact .inl (.inl (by rw[fc (gw h ht (by intro z;cases z))];exact h))
 ·exact .inl (.inr ⟨o,by rw[fc (gw h ht (by intro z;cases z))];exact h⟩)
 ·exact .inr h
theorem Dgs.grow {K:PySem.W.Frag}{H H2 H5:Hp}{t:Addr}{o:HO}{vs:List V}{ds:List PyData}{us:List V}(D:Dgs (Lf H H2 t) (SqT K H2) ds us)(S5:fi H2 H5)(ht:H5 t=some (.lst vs)):
  Dgs (Lf H (upd H5 t o) t) (SqT K (upd H5 t o)) ds us:=
 Dgs.mono (λa us ⟨h1,h2,h3⟩=>⟨by rw[fc h3];exact S5 _ _ h1,h2,h3⟩) (λa us h=>kg ht (gj S5 h)) D
theorem mR {K:PySem.W.Frag}{H H2 H5:Hp}{t p1 p4 p5:Addr}{vs:List V}{ms:List Mv}{w:Str}{e:Int}{xs:List Int}(S:fi H H2)(hn:H t=none)(ht:H2 t=some (.lst vs))(D:Dgs (Lf H H2 t) (SqT K H2) (ms.map dMv) vs)
  (S5:fi H2 H5) (h1:H5 p1=some (.tup [.str w,.int e])) (n4:H2 p4=none) (h4:H5 p4=some (.lst (xs.map V.int))) (h5:H5 p5=some (.tup [.ref p1,.ref p4])):
  fi H (upd H5 t (.lst (vs ++ [.ref p5])))/\(upd H5 t (.lst (vs ++ [.ref p5]))) t=some (.lst (vs ++ [.ref p5]))/\
   Dgs (Lf H (upd H5 t (.lst (vs ++ [.ref p5]))) t) (SqT K (upd H5 t (.lst (vs ++ [.ref p5])))) ((ms ++ [((w,e),xs)]).map dMv) (vs ++ [.ref p5]):=by
 have ht5:=S5 _ _ ht
 have q4:p4≠t:=(fb ht n4).symm
 refine⟨fi.upd (S.trans S5) hn,eX,?_⟩
 rw[ax]
 refine Dgs.append (D.grow S5 ht5) (Dgs.one ?_)
 refine hJ.mpr ⟨p5,_,rfl,kg ht5 (SqT.of h5),Dgs.two ?_ ?_⟩
 ·exact hJ.mpr ⟨p1,_,rfl,kg ht5 (SqT.of h1),Dgs.two (tU.mpr rfl) (ik.mpr rfl)⟩
 ·exact jL.mpr ⟨p4,_,rfl,⟨by rw[fc q4];exact h4,fi.free S n4,q4⟩,kK.mpr rfl⟩
def Ay (K:PySem.W.Frag)(H:Hp)(ms:List Mv)(Q:VK):Prop:=∀ (p:Addr) (vs:List V) (H':Hp),fi H H'->H p=none->H' p=some (.lst vs)->Dgs (Lf H H' p) (SqT K H') (ms.map dMv) vs->Q (.ref p) H'
theorem vn (ns:List Int):oo (ns.map V.int) (some 1) none=(ns.drop 1).map V.int:=by
 unfold oo
 rw[HT.uy]
 have e:HT.sIx (ns.map V.int).length 0 (some 1)=min 1 (ns.map V.int).length:=HT.AR _ _ 1
 rw[e,aa,dU]
 cases ns with
 |nil=>rfl
 |cons a r=>
  have e1:min 1 (a::r).length=1:=by simp
  rw[e1]
  simp
  exact br (by simp)
theorem vp (ns:List Int):oo (ns.map V.int) none (some (-1))=ns.dropLast.map V.int:=by
 unfold oo
 have e:HT.sIx (ns.map V.int).length (ns.map V.int).length (some (-1))=ns.length-1:=by
  have h:=HT.BG (-1) (ns.map V.int).length (ns.map V.int).length
  rw[aa]at h ⊢
  rw[aD (by decide)]at h
  omega
 rw[e,HT.uy,List.drop_zero,Nat.sub_zero,<-List.map_take,List.dropLast_eq_take]
theorem pW {ns:List Int}(h:ns≠ []):atI (ns.map V.int) (-1)=some (V.int (ns.getLastD 0)):=by
 obtain⟨r,x,rfl⟩:∃ r x,ns=r ++ [x]:=⟨ns.dropLast,ns.getLast h,(bW h).symm⟩
 rw[ax]
 show atI (r.map V.int ++ [V.int x]) (-1)=_
 rw[Ar]
 have e:(r ++ [x]).getLastD 0=x:=by simp[cE]
 rw[e]
theorem vD {ns:List Int}(h:ns≠ []):atI (ns.map V.int) 0=some (V.int (ns.headD 0)):=by
 cases ns with
 |nil=>exact absurd rfl h
 |cons a r=>exact ox (j:=0) rfl
abbrev NoL:Addr->List V->Prop:=λ_ _=>False
abbrev Ps (K:PySem.W.Frag)(H:Hp)(js:List (Int×Int))(vs:List V):Prop:=Dgs NoL (SqT K H) (js.map dP) vs
theorem Ps.same {K:PySem.W.Frag}{H H':Hp}{js:List (Int×Int)}{vs:List V}(D:Ps K H js vs)(S:fi H H'):Ps K H' js vs:=Dgs.mono (λ_ _ h=>h) (λ_ _ h=>gj S h) D
theorem Ps.DZ {K:PySem.W.Frag}{H:Hp}{js:List (Int×Int)}{vs us:List V}{t:Addr}{o:HO}(D:Ps K H js vs)(ht:H t=some (.lst us)):Ps K (upd H t o) js vs:=Dgs.mono (λ_ _ h=>h) (λ_ _ h=>kg ht h) D
theorem Ps.das {K:PySem.W.Frag}{H:Hp}{js:List (Int×Int)}{vs:List V}(D:Ps K H js vs):Das K H (js.map dP) vs:=Dgs.mono (λ_ _ h=>h.elim) (λ_ _ h=>h) D
theorem Ps.da {K:PySem.W.Frag}{H:Hp}{js:List (Int×Int)}{vs:List V}{t:Addr}(D:Ps K H js vs)(ht:H t=some (.lst vs)):Da K H (dJ js) (.ref t):=jL.mpr ⟨t,vs,rfl,SqL.of ht,D.das⟩
theorem Ps.len {K:PySem.W.Frag}{H:Hp}{js:List (Int×Int)}{vs:List V}(D:Ps K H js vs):vs.length=js.length:=by rw[D.length,aa]
theorem xi {K:PySem.W.Frag}{H:Hp}{p:Addr}{x:Int×Int}(h:H p=some (.tup [.int x.1,.int x.2])):Dg NoL (SqT K H) (dP x) (.ref p):=hJ.mpr ⟨p,_,rfl,SqT.of h,Dgs.two (ik.mpr rfl) (ik.mpr rfl)⟩
theorem Ps.push {K:PySem.W.Frag}{H:Hp}{js:List (Int×Int)}{vs:List V}{t p:Addr}{x:Int×Int}{o:HO}(D:Ps K H js vs)(ht:H t=some (.lst vs))(hp:H p=some (.tup [.int x.1,.int x.2])):Ps K (upd H t o) (js ++ [x]) (vs ++ [.ref p]):=by
 show Dgs _ _ ((js ++ [x]).map dP) _
 rw[ax]
 exact(D.DZ ht).append (.one (Dg.mono (λ_ _ h=>h) (λ_ _ h=>kg ht h) (xi hp)))
theorem Ps.ins {K:PySem.W.Frag}{H:Hp}{js:List (Int×Int)}{vs:List V}{t p:Addr}{x:Int×Int}{o:HO}(i:Nat)(D:Ps K H js vs)(ht:H t=some (.lst vs))(hp:H p=some (.tup [.int x.1,.int x.2])):Ps K (upd H t o) (js.take i++x::js.drop i) (vs.take i ++ .ref p::vs.drop i):=by
 show Dgs _ _ ((js.take i++x::js.drop i).map dP) _
 rw[ax,aM,List.map_take,dU]
 exact Dgs.insert i (D.DZ ht) (Dg.mono (λ_ _ h=>h) (λ_ _ h=>kg ht h) (xi hp))
theorem oS {K:PySem.W.Frag}{H:Hp}{l:Int×List (Int×Int)}{p t:Addr}(h:H p=some (.tup [.int l.1,.ref t]))(hd:Da K H (dJ l.2) (.ref t)):Da K H (dL l) (.ref p):=hJ.mpr ⟨p,_,rfl,SqT.of h,Dgs.two (ik.mpr rfl) hd⟩
theorem uF {α:Type}(l:List α)(i:Nat)(x:α):(l.take i++x::l.drop i).Perm (x::l):=by
 have h:=List.perm_middle (a:=x) (l₁:=l.take i) (l₂:=l.drop i)
 rw[cC]at h
 exact h
theorem v9 (i j:Int):(if j<i then j else i)=min i j:=by omega
theorem wc (i j:Int):(if j>i then j else i)=max i j:=by omega
theorem wF {ns:List Int}{i:Int}(h0:0<=i)(h1:i<ns.length):∃ x,ns[i.toNat]? = some x/\x∈ns/\atI (ns.map V.int) i=some (V.int x):=by
 have hlt:i.toNat<ns.length:=by omega
 refine⟨ns[i.toNat],by simp,dR _,?_⟩
 have h:=ox (xs:=ns.map V.int) (j:=i.toNat) (v:=V.int ns[i.toNat]) (by rw[aj];simp)
 have e1:((i.toNat:Nat):Int)=i:=by omega
 rw[e1]at h
 exact h
end TL
namespace L2
open PySem PySem.Spec PySem.Calls PyProof.Rows PySem.W
section
variable {prog:Program}{w:World}{A:Around}{E:Value->Shared->Prop}{s:Shared}{K:Frag}{a C:Addr}{o:Obj}
theorem xty {M:Model}{h:Heap}(hx:h.get? a=some o)(hc:o.cls = .ref C):Looks M h (typeOf (.ref a)) (.ref C):=hc ▸ (Looks.ld hx).andThen .now
open Builtin Builtin.ObjectAttr Builtin.Getset_descriptor in
theorem AD {R:Result->Shared->Prop}{tp:Value}(X:K.In s.heap)(hx:s.heap.get? a=some o)(hc:o.cls = .ref C)(hm:mroIn K C (.type "object")=some true)
  (h:R (.ok (.ret (.ref C))) s):codeAny (model prog w) A (.call (.builtin "getset_descriptor.__get__") ⟨[.builtin "object.__class__",.ref a,tp],[]⟩) R s:=by
 obtain⟨hh,g,dr,t,os⟩:=s
 have L0:=xty (M:=model prog w) hx hc
 have L1:=looks_mroIn (M:=model prog w) X hm
 refine codeAny_call_builtin KF.slot_gs.plain KF.entry_gs (KF.slot_gs.check _ _ _ _ _ _ _ _ KF.type_class (KF.args_gs _ _ _) ?_)
 unfold Builtin.«getset_descriptor.__get__» descrGet
 rw[dga_obj]
 refine ai (aB ?_)
 unfold descrGetter descrCheckInstance descrNameAndClass isInstance
 simp only[KF.owner_class]
 repeat lk
 refine⟨Code.quiet_builtin _ (by decide +kernel),codeAny_builtin KF.entry_class ?_⟩
 unfold Builtin.«object.__class__» shownTypeOf
 repeat lk
 exact h
theorem xF {tk:Tok}{Q:PySem.Fin->Shared->Prop}(X:K.In s.heap)(hx:s.heap.get? a=some o)(hc:o.cls = .ref C)(hm:mroIn K C (.type "object")=some true)
  (ha:findIn K (.ref C) "__class__" = some (some (.builtin "object.__class__"))) (hq:Q (.done (.ret (.ref C))) s):
  wpAny (model prog w) A (Builtin.«object.__getattribute__» ⟨[.ref a,.str "__class__" tk],[]⟩) Q E s:=by
 obtain⟨h,g,d,t,os⟩:=s
 have hT5:(⟨h,g,d,t,os⟩:Shared).TypeIs (.builtin "object.__class__") "getset_descriptor" :=F.typeOf_object_class
 have L0:=xty (M:=model prog w) hx hc
 have L1:=looks_findIn (M:=model prog w) X ha
 have f5:=F.typeOf_object_class
 have f6:=F.slot_gs_get.lookup
 have f7:=F.slot_gs_set.lookup
 repeat (any_goals (first |assumption |with_reducible refine L0.at ?_ |with_reducible refine L1.at ?_ |(with_reducible refine wpAny_loadPart_at hx ?_;rw[hc])|wp_step))
 refine AD (K:=K) X hx hc hm ?_
 repeat (any_goals (first |assumption |wp_step))
theorem xG {M:Model}{BU:Value}{Q:Unit->Shared->Prop}(X:K.In s.heap)(hx:s.heap.get? a=some o)(hc:o.cls = .ref C)(hb:mroIn K C (.type "BaseException")=some true)(hq:Q () s):
  wpAny M A (checkBuiltinCall "BaseException.__getattribute__" ⟨[.ref a,BU],[]⟩) Q E s:=by
 obtain⟨h,g,d,t,os⟩:=s
 have hk:builtinKind "BaseException.__getattribute__" = some .slot:=by decide +kernel
 have Dk:splitId "BaseException.__getattribute__" = some ("BaseException","__getattribute__"):=by decide +kernel
 have ha:=F.args_bexc_ga (.ref a) BU
 have L0:=xty (M:=M) hx hc
 have L1:=looks_mroIn (M:=M) X hb
 simp only[checkBuiltinCall,hk,Dk]
 refine ai ?_
 ·unfold isInstance
  repeat (first |with_reducible refine L0.at ?_ |with_reducible refine L1.at ?_ |wp_step)
  exact hq
theorem yF {tk:Tok}{R:Result->Shared->Prop}(X:K.In s.heap)(hx:s.heap.get? a=some o)(hc:o.cls = .ref C)(hm:mroIn K C (.type "object")=some true)(hb:mroIn K C (.type "BaseException")=some true)
  (ha:findIn K (.ref C) "__class__" = some (some (.builtin "object.__class__"))) (hq:R (.ok (.ret (.ref C))) s):
  codeAny (model prog w) A (.call (.builtin "BaseException.__getattribute__") ⟨[.ref a,.str "__class__" tk],[]⟩) R s:=
 codeAny_call_builtin (by decide +kernel) F.entry_bexc_ga (xG X hx hc hb (xF X hx hc hm ha hq))
theorem Cd {tk:Tok}{Q:Value->Shared->Prop}(X:K.In s.heap)(hx:s.heap.get? a=some o)(hc:o.cls = .ref C)(hm:mroIn K C (.type "object")=some true)(hb:mroIn K C (.type "BaseException")=some true)
  (ha:findIn K (.ref C) "__class__" = some (some (.builtin "object.__class__"))) (hg:findIn K (.ref C) "__getattribute__" = some (some (.builtin "BaseException.__getattribute__"))) (hn:findIn K (.ref C) "__getattr__" = some none)
  (hq:Q (.ref C) s):wpAny (model prog w) A (getAttrBy (.ref a) (.str "__class__" tk) false) Q E s:=by
 have X':=X
 have hx':=hx
 obtain⟨h,g,d,t,os⟩:=s
 have f3:=PySem.F.attr_ValueError.ga.bind (.ref a)
 have hx2:(Value.builtin "BaseException.__getattribute__" == Value.builtin "object.__getattribute__")=false:=by decide +kernel
 have hx1:(onTheHeap (Value.ref C)&&Value.builtin "BaseException.__getattribute__" == Value.builtin "object.__getattribute__")=false:=by rw[hx2];rfl
 have L0:=xty (M:=model prog w) hx hc
 have L1:=looks_findIn (M:=model prog w) X hg
 have L2:=looks_findIn (M:=model prog w) X hn
 repeat (any_goals (first |assumption |with_reducible refine L0.at ?_ |with_reducible refine L1.at ?_ |with_reducible refine L2.at ?_ |wp_step))
 refine yF (K:=K) X' hx' hc hm hb ha ?_
 repeat (any_goals (first |assumption |wp_step))
theorem yG {Q:Option Value->Shared->Prop}(X:K.In s.heap)(hx:s.heap.get? a=some o)(hc:o.cls = .ref C)(hm:mroIn K C (.type "object")=some true)(hb:mroIn K C (.type "BaseException")=some true)
  (ha:findIn K (.ref C) "__class__" = some (some (.builtin "object.__class__"))) (hg:findIn K (.ref C) "__getattribute__" = some (some (.builtin "BaseException.__getattribute__"))) (hn:findIn K (.ref C) "__getattr__" = some none)
  (hq:Q (some (.ref C)) {s with toks:=s.toks+1}):wpAny (model prog w) A (getAttr? (.ref a) "__class__") Q E s:=by
 have X':=X
 have hx':=hx
 obtain⟨h,g,d,t,os⟩:=s
 unfold getAttr? getAttrBy?
 repeat (any_goals (first |assumption |with_reducible apply Cd (K:=K) (s:=⟨h,g,d,t+1,os⟩) X' hx' hc hm hb ha hg hn |wp_step))
structure ExC (K:Frag)(C:Addr):Prop where
 obj:mroIn K C (.type "object")=some true
 bex:mroIn K C (.type "BaseException")=some true
 cls:findIn K (.ref C) "__class__" = some (some (.builtin "object.__class__"))
 ga:findIn K (.ref C) "__getattribute__" = some (some (.builtin "BaseException.__getattribute__"))
 gn:findIn K (.ref C) "__getattr__" = some none
 isc:(clsIn K C).isSome=true
def XAt (a:Addr)(C:Addr)(h:Heap):Prop:=∃ o,h.get? a=some o/\o.cls = .ref C
theorem zN (e:ExC K C):KitX K (.ref a) (.ref C) (XAt a C) where
 ty:=λ_ _ _ ⟨_,h1,h2⟩=>xty h1 h2
 it:=λ_ _ X _=>by
  have hC:=e.isc
  unfold clsIn at hC
  split at hC
  ·rename_i c' d' cd' sl' ho
   intro A' Q' E' s' k q
   unfold isType loadHead
   exact ai (wpAny_loadPart (k _ _ (X _ _ ho)) (aB q))
  ·cases hC
 ne:=λh tp dd its n sl X htp=>by
  have hC:=e.isc
  refine Bool.eq_false_iff.mpr λq=>?_
  have e':C=tp:=Value.ref.inj (beq_iff_eq.mp q)
  subst e'
  unfold clsIn at hC
  split at hC
  ·rename_i c' d' cd' sl' ho
   have z:=(X _ _ ho).symm.trans htp
   cases z
  ·cases hC
 ca:=λX ⟨_,h1,h2⟩ k=>yG X h1 h2 e.obj e.bex e.cls e.ga e.gn k
end
section
variable {P:Program}{w:World}{H H1:Hp}{h:Heap}{a:Addr}{o:HO}
theorem gB.some (x:gB P w H h a o):∃ u,h.get? a=Option.some u:=by
 cases o with
 |lst xs=>obtain⟨_,_,_,_,e⟩:=x;exact⟨_,e⟩
 |tup xs=>obtain⟨_,_,_,p⟩:=x;obtain⟨u,e,_⟩:=p;exact⟨u,e⟩
 |dK kvs=>obtain⟨_,_,_,_,o,_,_,e,_⟩:=x;exact⟨_,e⟩
 |dT kvs=>obtain⟨_,_,_,_,o,_,_,e,_⟩:=x;exact⟨_,e⟩
 |set S n=>obtain⟨o,_,_,_,e,_⟩:=x;exact⟨_,e⟩
 |ins C dx fs=>obtain⟨_,_,_,e,_⟩:=x;exact⟨_,e⟩
 |own y=>obtain⟨_,e⟩:=x;exact⟨_,e⟩
 |xd fs=>obtain⟨_,⟨_,_,_,e,_⟩,_⟩:=x;exact⟨_,e⟩
 |rng lo hi=>obtain⟨_,_,_,e⟩:=x;exact⟨_,e⟩
 |frz ob u=>obtain⟨e,_⟩:=x;exact⟨_,e⟩
 |tbl ps=>exact⟨_,(show h.get? a=Option.some _ from x)⟩
 |met f y=>exact⟨_,(show h.get? a=Option.some _ from x)⟩
 |ext φ=>obtain⟨_,⟨_,e⟩,_⟩:=x;exact⟨_,e⟩
theorem HOk.none_of (x:HOk P w H h)(e:h.get? a=Option.none):H a=Option.none:=by
 cases q:H a with
 |none=>rfl
 |some u=>obtain⟨v,z⟩:=(x a u q).some;rw[e]at z;cases z
end
structure Fl0 (P:Program)(w:World)(base:Heap)(l:List Env)(H H1:Hp)(h0 B h:Heap):Prop where
 bas:base.StaysIn B
 hok:HOk P w H1 B
 kp:∀ b o,h0.get? b=some o->H b=none->b∉frs l->B.get? b=some o
 thr:∀ b o,h0.get? b=some o->b∉frs l->∃ o',B.get? b=some o'
 un:Un (frs l) [] H H1 h0 h
theorem Fl0.step {P:Program}{w:World}{base:Heap}{l:List Env}{H H1:Hp}{h0 B h h':Heap}(x:Fl0 P w base l H H1 h0 B h)(st:B.StaysIn h')(ff:h.FunFrames B l)(ff':h'.FunFrames B l)(sm:h.UpToSlots h'):
  Fl0 P w base l H H1 h0 B h':=by
 refine⟨x.bas,x.hok,x.kp,x.thr,⟨λb o q n hb _=>st b o (x.kp b o q n hb),λb o q n hb _=>?_,x.un.free,λb o q _=>?_,x.un.nv,x.un.lU,x.un.nz⟩⟩
 ·obtain⟨sl,e⟩:=x.un.slot b o q n hb (by simp)
  obtain⟨_,o2,e2,nf⟩:=ff.mem hb
  rw[e]at e2;cases e2
  obtain⟨sl',e'⟩:=sm b _ e nf
  exact⟨sl',e'⟩
 ·by_cases hb:b∈frs l
  ·obtain⟨_,o2,e2,_⟩:=ff'.mem hb
   exact⟨o2,e2⟩
  ·obtain⟨o',e⟩:=x.thr b o q hb
   exact⟨o',st b o' e⟩
structure Fl (P:Program)(w:World)(base:Heap)(l:List Env)(H H1:Hp)(h0:Heap)(e C:Addr)(B h:Heap):Prop extends Fl0 P w base l H H1 h0 B h where
 fly:∃ a0,Heap.FlyingW B l e (.ref C) a0 h
def CXr (P:Program)(w:World)(base:Heap):CXT:=λl H s E ev s'=>
 ∃ e C H1 B,ev = .ref e/\s'.os=s.os/\AllBare s'.gens/\Fl P w base l H H1 s.heap e C B s'.heap/\E (.ref C) (some e) H1
section
variable {X:Cx}{pins:List (Addr×Obj)}{σ:St}{H H1:Hp}{s s':Shared}{e C:Addr}{B:Heap}
theorem Fl.inv (x:Fl X.prog X.w X.base X.stack H H1 s.heap e C B s'.heap)(I:Inv X pins σ H s)(ho:s'.os=s.os)(hg:AllBare s'.gens):Inv X pins σ H1 s':=by
 obtain⟨a0,f⟩:=x.fly
 exact I.B9 (ch:=[]) ho x.un (x.hok.kept f.1) hg (λb z=>absurd z (by simp))
theorem y4 {M:Model}{E:Value->Shared->Prop}{Q:Unit->Shared->Prop}{h':Heap}{vs:List Value}(I:Inv X pins σ H s)(hst:X.stack=X.env::X.outer)(hf:X.env.frame=some X.env.locals)(hex:X.ex = [])
  (hx:Heap.MadeExcOf s.heap h' e (.ref C) vs) (hQ:∀ B h'',Fl X.prog X.w X.base X.outer X.H₀ H X.s₀.heap e C B h''->Q () {s with heap:=h''}):
  wpAny M X.A (leaving X.env (.ref e)) Q E {s with heap:=h'} :=by
 have hfr:=I.ok.frames
 rw[hst]at hfr
 have Bf:=I.stack
 rw[hst]at Bf
 have hin:∀ env∈(X.env::X.outer),∀ b,env.frame=some b->b∈frs (X.env::X.outer):=λenv he b hb=>List.mem_filterMap.mpr ⟨env,he,hb⟩
 have nb:∀ b,b≠X.env.locals->b∉X.fs->b∉frs (X.env::X.outer):=λb h1 h2 hb=>by
  unfold frs at hb
  rw[ef,hf]at hb
  rcases aJ.mp hb with z |z
  ·exact h1 z
  ·exact h2 z
 have neL:∀ b o,X.s₀.heap.get? b=some o->b≠X.env.locals:=λb o e=>bo (aT (aK e) I.ok.above)
 refine wpAny_leaves_madeW (base:=hideAll s.heap (frs (X.env::X.outer))) hfr hf (λb o q=>of_hideAll _ q) (funFrames_hide Bf hin) hx λh'' t x1 x2 x3 x4=>?_
 have hok:HOk X.prog X.w H (hideAll s.heap (frs (X.env::X.outer))):=λb u q=>by
  refine(I.hok b u q).oE (λc v hc z=>hideAll_get _ z λhm=>?_) (λ_ z=>z) λ_ _ z=>z
  have hn:H c=none:=I.sQ c (by rw[hst];exact hm)
  rcases hc with rfl |hc
  ·rw[hn]at q;cases q
  ·rw[hn]at hc;cases hc
 have z0:Fl0 X.prog X.w X.base X.outer X.H₀ H X.s₀.heap (hideAll s.heap (frs (X.env::X.outer))) h':=by
  have ub:Un X.fs [] X.H₀ H X.s₀.heap s.heap:=by have:=I.base;rw[hex]at this;exact this
  refine⟨λb o q=>hideAll_get _ (I.bk b o q) λhm=>?_,hok,λb o q n hb=>hideAll_get _ (ub.keep b o q n hb (by simp)) (nb b (neL b o q) hb),λb o q hb=>?_,ub.trans (Un.kept hx.keeps)⟩
  ·have:=(Bf.mem hm).1
   rw[q]at this;cases this
  ·obtain⟨o',e1⟩:=ub.there b o q (by simp)
   exact⟨o',hideAll_get _ e1 (nb b (neL b o q) hb)⟩
 have ff:h'.FunFrames (hideAll s.heap (frs (X.env::X.outer))) X.outer:=by
  obtain⟨_,_,z⟩:=(funFrames_hide Bf hin).of_keeps λb o hb _=>⟨o,hx.keeps b o hb,rfl⟩
  exact z
 exact hQ _ h'' ⟨z0.step x1.1 ff x1.2.2.1 x4,_,x1⟩
theorem A2 {M:Model}{E:Value->Shared->Prop}{Q:Unit->Shared->Prop}(I:Inv X pins σ H s)(hst:X.stack=X.env::X.outer)(hf:X.env.frame=some X.env.locals)(hex:X.ex = [])
  (ho:s'.os=s.os) (hg:AllBare s'.gens) (x:Fl X.prog X.w X.base X.stack H H1 s.heap e C B s'.heap) (hQ:∀ B h'',Fl X.prog X.w X.base X.outer X.H₀ H1 X.s₀.heap e C B h''->Q () {s' with heap:=h''}):
  wpAny M X.A (leaving X.env (.ref e)) Q E s':=by
 have J:=x.inv I ho hg
 have hfr:=I.ok.frames
 obtain⟨a0,f⟩:=x.fly
 have nb:∀ b,b≠X.env.locals->b∉X.fs->b∉frs X.stack:=λb h1 h2 hb=>(aJ.mp (I.oD b hb)).elim h1 h2
 have neL:∀ b o,X.s₀.heap.get? b=some o->b≠X.env.locals:=λb o e=>bo (aT (aK e) I.ok.above)
 rw[hst]at hfr f
 have ub:Un X.fs [] X.H₀ H X.s₀.heap s.heap:=by have:=I.base;rw[hex]at this;exact this
 have uj:Un X.fs [] X.H₀ H1 X.s₀.heap s'.heap:=by have:=J.base;rw[hex]at this;exact this
 have z0:Fl0 X.prog X.w X.base X.outer X.H₀ H1 X.s₀.heap B s'.heap:=by
  refine⟨x.bas,x.hok,λb o q n hb=>x.kp b o (ub.keep b o q n hb (by simp)) (ub.free b o q n (by simp)) (nb b (neL b o q) hb),λb o q hb=>?_,uj⟩
  obtain⟨o',e1⟩:=ub.there b o q (by simp)
  exact x.thr b o' e1 (nb b (neL b o q) hb)
 have ff:s'.heap.FunFrames B X.outer:=f.2.2.1.2.2
 exact wpAny_leaves_onW hfr hf f λh'' x1 x2=>hQ B h'' ⟨z0.step x1.1 ff x1.2.2.1 x2,a0,x1⟩
end
section
variable {P:Program}{w:World}{K:PySem.W.Frag}{mg:Str->Option Value}{base:Heap}{N:List Str}{qual:Str}{scope:Scope}{f:Addr}{cd:Value}{A:Around}{outer:List Env}{s₀:Shared}{H₀:Hp}{E:XK}
def Raises (X:Cx)(E:XK):Prop:=∀ (pins:List (Addr×Obj)) (σ:St) (H:Hp) (s:Shared) (h':Heap) (e C:Addr) (vs:List Value),Inv X pins σ H s->Heap.MadeExcOf s.heap h' e (.ref C) vs->E (.ref C) (some e) H->X.xe (.ref e) {s with heap:=h'}
theorem rX:Raises (tX (CXr P w base) P w K mg base N qual scope f cd A outer s₀ H₀ E) E:=λpins σ H s h' e C vs I hx q=>
 y4 I rfl rfl rfl hx λB h'' z=>⟨e,C,H,B,rfl,I.os,I.bare,z,q⟩
theorem jR:Passes (CXr P w base) (tX (CXr P w base) P w K mg base N qual scope f cd A outer s₀ H₀ E) E:=λpins σ H s e s' I hx=>by
 obtain⟨a,C,H1,B,rfl,ho,hg,z,q⟩:=hx
 exact A2 I rfl rfl rfl ho hg z λB' h'' z'=>⟨a,C,H1,B',rfl,ho.trans I.os,hg,z',q⟩
end
theorem Bw {K:Frag}{h:Heap}{C:Addr}{bmB:List Value}{newId:String}(X:K.In h)(q:excIn K C bmB newId=true):
  ∃ bm N nm qn bs hdct sn sub ab col dd k0 k1 k2 k3 k5 mN,h.get? C=some (excClassObj nm qn C N bs bm hdct sn sub ab col dd k0 k1 k2 k3 k5 newId)/\h.Ns N mN/\mN "__init__" = none/\OwnTail h bmB bm:=by
 unfold excIn at q
 split at q
 ·rename_i d1 c1 l1 lk
  split at q
  ·rename_i D1 tl j0 j1 j2 j3 nn j5 e1 e2
   simp only[dS,beq_iff_eq,Bool.not_eq_true']at q
   obtain⟨⟨⟨⟨⟨q1,q2⟩,q3⟩,q4⟩,q5⟩,q6⟩:=q
   subst q1 q2
   cases c1
   dsimp only at e1 q3 q5 q6
   subst e1 q3
   cases l1
   dsimp only at e2
   subst e2
   exact⟨tl,_,_,_,_,_,_,_,_,_,d1,j0,j1,j2,j3,j5,_,X _ _ lk,.of_isNs (isNs_of_in X q5),nsMap_none_of_in X q5 q6,tail_of_in X q4⟩
  ·cases q
 ·cases q
section
variable {X:Cx}{E:XK}{x:Str}{np lI pos:Pos}{C:Addr}{bmB:List Value}{Bn newId Dd:String}{e₀:Expr}{rest:List Expr}{ta:TA}
def Ci (C:Addr)(E:XK)(ta:TA):TS:=λ_ σ H=>ta σ H λvs H1=>vs.length<=sizeLine/\∀ e,H1 e=none->E (.ref C) (some e) H1
theorem uE (hR:Raises X E)(hc:X.calm=true)(hg:Gl X x)(hm:X.mg x=some (.ref C))(q:excIn X.K C bmB newId=true)(FB:ExcBaseFacts Bn newId Dd bmB)(ha:PA X (e₀::rest) ta)
  (he:starEach (e₀::rest) X.env=(false,eval e₀ X.env)::starEach rest X.env:=by rfl) (hpl:(backTo lI (starEach rest X.env)).any (·.1)=false:=by rfl) (hd:(x==("__debug__" :Str))=false:=by decide):
  PS X (.Raise (some (.Call (.Name x np) (e₀::rest) [] lI)) none pos) (Ci C E ta):=by
 intro pins s σ H D I h
 obtain⟨tl,N,nm,qn,bs,hdct,sn,sub,ab,col,dd,k0,k1,k2,k3,k5,mN,hC,hN,hni,T⟩:=Bw I.mod.kin q
 refine wpAny_Raise_call_subT (C:=C) (nm:=nm) (q:=qn) (N:=N) (bs:=bs) (bm:=tl) (hdct:=hdct) (sn:=sn) (sub:=sub) (ab:=ab) (col:=col) (dd:=dd) (k0:=k0) (k1:=k1) (k2:=k2) (k3:=k3) (k5:=k5)
  FB (mN:=mN) (T.hasType FB.hasBase) (I.ok.hd hc) (by rw[he];show(false||(backTo lI (starEach rest X.env)).any (·.1))=false;rw[hpl];rfl) hni (mU I hg hm ⟨rfl,?_⟩ hd)
 have h2:=ha lI pins s σ H _ I h
 rw[he]at h2 ⊢
 exact Calls.evalArgs_plain (bR h2 (λus s1 ⟨vs,H1,I1,r,z1,z2⟩=>⟨rfl,r.length ▸ z1,I1.bk _ _ hC,hN.keeps I1.bk,T.keeps I1.bk,λh' e hx=>hR pins σ H1 s1 h' e C us I1 hx (z2 e (I1.hok.none_of hx.new))⟩) λ_ _ y=>y)
end
def wB (e C:Addr):HO:=.ext (XAt e C)
theorem Bx {P:Program}{w:World}{H:Hp}{h:Heap}{e C:Addr}{o:Obj}(ho:h.get? e=some o)(hc:o.cls = .ref C):gB P w H h e (wB e C):=
 ⟨⟨o,ho,hc⟩,⟨o,ho⟩,λh1 h2 ⟨o',e1,e2⟩ k=>⟨o',k o' e1,e2⟩⟩
section
variable {X:Cx}{pins:List (Addr×Obj)}{σ:St}{H H1:Hp}{s s':Shared}{e C:Addr}{B:Heap}
theorem Inv.D6 {u:HO}(I:Inv X pins σ H s)(hn:H e=none)(h0:X.s₀.heap.get? e=none)(ho:gB X.prog X.w (upd H e u) s.heap e u)(nl:e≠X.env.locals)(nc:∀ x c,X.env.cells.lookup x=some c->c≠e)
  (np:∀ p∈X.pn++pins,p.1≠e):Inv X pins σ (upd H e u) s:=by
 have ne0:∀ b o,X.s₀.heap.get? b=some o->b≠e:=λb o q z=>by rw[z,h0]at q;cases q
 have neT:∀ b v,H b=some v->b≠e:=λb v q z=>by rw[z,hn]at q;cases q
 refine⟨I.ok,I.os,I.bare,⟨I.base.keep,I.base.slot,λb o q n hx=>?_,I.base.there,λb xs q=>?_,λb o v q=>?_,λb ps q=>?_⟩,I.loc,I.cell,?_,λx c q=>?_,λp hp=>?_,λb v q=>?_,I.len⟩
 ·rw[fc (ne0 b o q)];exact I.base.free b o q n hx
 ·have z:=I.base.nv b xs q;rw[fc (neT _ _ z)];exact z
 ·have z:=I.base.lU b o v q;rw[fc (neT _ _ z)];exact z
 ·obtain⟨m,z⟩:=I.base.nz b ps q;exact⟨m,by rw[fc (neT _ _ z)];exact z⟩
 ·rw[fc (b9 nl)];exact I.free
 ·rw[fc (nc x c q)];exact I.iU x c q
 ·obtain⟨z1,z2,z3⟩:=I.pin p hp
  exact⟨z1,by rw[fc (np p hp)];exact z2,z3⟩
 ·by_cases hb:b=e
  ·subst hb;rw[eX]at q;cases q;exact ho
  ·rw[fc hb]at q
   exact(I.hok b v q).oE (λ_ _ _ z=>z) (λc z=>by rw[fc (neT _ _ z)];exact z) λc xs z=>by rw[fc (neT _ _ z)];exact z
theorem Fl.kept (x:Fl X.prog X.w X.base X.stack H H1 s.heap e C B s'.heap)(I:Inv X pins σ H s)(hex:X.ex = [])(ho:s'.os=s.os)(hg:AllBare s'.gens):Inv X pins σ (upd H1 e (wB e C)) s':=by
 have J:=x.inv I ho hg
 obtain⟨a0,f⟩:=x.fly
 obtain⟨oe,vs,he,hc,hd,_⟩:=f.first
 have nB:B.get? e=none:=f.2.1
 have nfr:e∉frs X.stack:=λhm=>by
  obtain⟨_,o,z,nf⟩:=f.2.2.1.mem hm
  rw[he]at z;cases z;exact nf vs hd
 refine J.D6 (x.hok.none_of nB) ?_ (Bx he hc) ?_ (λy c q z=>?_) λp hp z=>?_
 ·cases q:X.s₀.heap.get? e with
  |none=>rfl
  |some o=>
   obtain⟨o',z⟩:=I.base.there e o q (by rw[hex];simp)
   obtain⟨o2,z2⟩:=x.thr e o' z nfr
   rw[nB]at z2;cases z2
 ·rintro rfl
  obtain⟨m,⟨o,es,ep,z,hd',_⟩,_⟩:=J.loc
  rw[he]at z;cases z;rw[hd]at hd';cases hd'
 ·subst z
  obtain⟨v,o,z,hd'⟩:=J.cell y _ q
  rw[he]at z;cases z;rw[hd]at hd';cases hd'
 ·obtain⟨z1,z2,z3,z4,_⟩:=I.pin p hp
  have z5:=x.kp p.1 p.2 z1 z2 λhm=>(aJ.mp (I.oD _ hm)).elim z3 z4
  rw[z,nB]at z5;cases z5
abbrev Cx.mm (X:Cx)(e:Addr):Cx:={X with A:=X.A.mark (some (.ref e)),calm:=false,xe:=λ_ _=>False}
theorem Inv.mm (I:Inv X pins σ H s)(e:Addr):Inv (X.mm e) pins σ H s:=
 ⟨⟨I.ok.mod,I.ok.kind,I.ok.glob,I.ok.blt,I.ok.above,I.ok.inj,I.ok.has,I.ok.cab,(λz=>nomatch z),I.ok.frames,I.ok.stk,I.ok.exf,I.ok.bs,I.ok.bsz,I.ok.v7,I.ok.yu,I.ok.oQ,I.ok.frf⟩,I.os,I.bare,I.base,I.loc,I.cell,I.free,I.iU,I.pin,I.hok,I.len⟩
theorem Inv.uncaught (I:Inv (X.mm e) pins σ H s)(ok:X.Ok):Inv X pins σ H s:=⟨ok,I.os,I.bare,I.base,I.loc,I.cell,I.free,I.iU,I.pin,I.hok,I.len⟩
theorem name_goes {M:Model}{A:Around}{E:Value->Shared->Prop}{j:Nat}{n:Str}{pos:Pos}{Q:Unit->Shared->Prop}(I:Inv X pins σ H s)(hN:X.N.Nodup)(hj:X.N[j]? = some n)(hk:X.env.scope.names.lookup n=some .local)
  (h:∀ s',Inv X pins (σ.set j none) H s'->Q () s'):wpAny M A (do bindName X.env n .none;unbindBehindTheSuite X.env n pos) Q E s:=by
 obtain⟨m,hn,hl⟩:=id I.loc
 have Dv:(X.env.scope.kind == .class||(X.env.scope.kind == .module&&X.env.locals !=X.env.globals))=false:=by rw[I.ok.kind];rfl
 have hjσ:j<σ.length:=by rw[I.len];exact(af.mp hj).1
 refine wpAny_nameGoes_keeps hk hn Dv λh' v hn' hs=>h _ ?_
 have ne0:∀ b o,X.s₀.heap.get? b=some o->h'.get? b=s.heap.get? b:=λb o e=>hs.2 b (bo (aT (aK e) I.ok.above))
 refine⟨I.ok,I.os,I.bare,⟨λb o e n hb hx=>(ne0 b o e).trans (I.base.keep b o e n hb hx),λb o e n hb hx=>?_,I.base.free,λb o e hx=>?_,I.base.nv,I.base.lU,I.base.nz⟩,⟨_,hn',λi y v' e1 e2 e3=>?_⟩,
  λy c e=>?_,I.free,I.iU,λp hp=>?_,λb u e=>?_,by simpa using I.len⟩
 ·obtain⟨sl,z⟩:=I.base.slot b o e n hb hx
  exact⟨sl,(ne0 b o e).trans z⟩
 ·obtain⟨o',z⟩:=I.base.there b o e hx
  exact⟨o',(ne0 b o e).trans z⟩
 ·have hij:i≠j:=λz=>by subst z;rw[List.getElem?_set_self hjσ]at e2;cases e2
  rw[dZ (b9 hij)]at e2
  obtain⟨u',r',z⟩:=hl i y v' e1 e2 e3
  have ny:y≠n:=λz=>hij (qC hN e1 (z ▸ hj))
  refine⟨u',r',?_⟩
  rcases z with⟨k,z⟩|⟨k,c,z1,z2⟩
  ·exact .inl ⟨k,by show(if y=n then v else m y)=_;rw[au ny];exact z⟩
  ·exact .inr ⟨k,c,z1,z2.sameBut hs (I.cne y c z1)⟩
 ·obtain⟨v',z⟩:=I.cell y c e
  exact⟨v',z.sameBut hs (I.cne y c e)⟩
 ·obtain⟨z1,z2,z3,z4,z5⟩:=I.pin p hp
  exact⟨(hs.2 p.1 z3).trans z1,z2,z3,z4,z5⟩
 ·refine(I.hok b u e).oE (λc v hc q=>(hs.2 c ?_).trans q) (λ_ q=>q) λ_ _ q=>q
  rintro rfl
  rcases hc with rfl |hc
  ·rw[I.free]at e;cases e
  ·rw[I.free]at hc;cases hc
end
theorem Cc {M:Model}{A:Around}{E:Value->Shared->Prop}{K:Frag}{s:Shared}{e C D:Addr}{oe:Obj}{Q:Bool->Shared->Prop}(X:K.In s.heap)(he:s.heap.get? e=some oe)(hc:oe.cls = .ref C)
  (hty:typeIn K (.ref D)=some (.type "type")) (Ds:(clsIn K D).isSome=true) (hb:mroIn K D (.type "BaseException")=some true) (hm:mroIn K C (.ref D)=some true) (hq:Q true s):
  wpAny M A (excMatches (.ref e) (.ref D)) Q E s:=by
 obtain⟨h,g,d,t,os⟩:=s
 have L0:=xty (M:=M) he hc
 have L1:=looks_mroIn (M:=M) X hb
 have L2:=looks_mroIn (M:=M) X hm
 have L3:=looks_typeIn (M:=M) X hty
 have f:=tc_notTuple
 unfold clsIn at Ds
 split at Ds
 ·rename_i c' d' cd' sl' ho
  have hD:=X _ _ ho
  unfold excMatches
  repeat (first |with_reducible refine L0.at ?_ |with_reducible refine L3.at ?_ |with_reducible refine L1.at ?_ |with_reducible refine L2.at ?_ |with_reducible refine wpAny_loadPart_at hD ?_ |wp_step)
  exact hq
 ·cases Ds
def xC (CX:CXT)(X:Cx)(E:St->XK):Prop:=∀ (pins:List (Addr×Obj)) (σ:St) (H:Hp) (s:Shared) (e:Value) (s':Shared),Inv X pins σ H s->CX X.stack H s (E σ) e s'->X.xe e s'
def Co (sp:Sp)(dvs:List V)(E:St->XK)(t:TA):TE:=λσ H Q=>t σ H λvs H1=>sp (vs++dvs) H1 Q (E σ)
section
variable {X:Cx}{CX:CXT}{k:Nat}{f:Addr}{fd:FuncData}{ps:List Str}{sp:Sp}{dvs:List V}{ds:List Value}{E:St->XK}{x:Str}{p pos:Pos}{e:Expr}{es:List Expr}{t:TA}
theorem zq (F:fE X.prog X.w X.K X.mg X.base CX k f fd ps sp)(hr:kP k X.A)(hg:Gl X x)(hm:X.mg x=some (.ref f))(hk:PySem.W.keepIn X.K (.ref f)=true)(hb:Binds X.K fd ps ds)(hd:Vals dvs ds)(hx:xC CX X E)
  (ha:PA X (e::es) t) (hdb:(x==("__debug__" :Str))=false:=by decide) (he:starEach (e::es) X.env=(false,eval e X.env)::starEach es X.env:=by rfl) (hpl:(backTo pos (starEach es X.env)).any (·.1)=false:=by rfl):
  PE X (.Call (.Name x p) (e::es) [] pos) (Co sp dvs E t):=by
 intro pins s σ H Q I h
 refine eS (mU I hg hm ?_ hdb)
 refine PySem.W.callWith_K (h₀:=X.base) I.ok.mod.kin hk (thn (ha pos pins s σ H _ I h) λus s1 ⟨vs,H1,I1,r,q⟩=>⟨I1.kIn,?_⟩) he hpl
 have r2:Vals (vs++dvs) (us++ds):=r.append hd
 have hl:(us++ds).length=ps.length:=by rw[<-r2.length];exact F.len _ _ _ _ q
 refine wpAny_call (codeAny_mono (F.run X.A X.stack s1 H1 ⟨us,[]⟩ (us++ds) (vs++dvs) Q (E σ) hr I1.Fh (hb s1 us I1.kIn hl) r2 q) λr s' hq=>?_)
 cases r with
 |error e=>exact hx pins σ H1 s1 e s' I1 hq
 |ok fl=>
  cases fl with
  |ret u=>exact I1.after hq
  |next=>exact False.elim hq
  |brk=>exact False.elim hq
  |cont=>exact False.elim hq
end
abbrev Cx.oB (X:Cx)(pn:List (Addr×Obj))(W:Value->Shared->Prop):Cx:={X with pn:=X.pn++pn,xe:=W}
section
variable {X:Cx}{pins pn:List (Addr×Obj)}{σ:St}{H:Hp}{s:Shared}{W:Value->Shared->Prop}
theorem Inv.oB (I:Inv X pins σ H s)(W:Value->Shared->Prop):Inv (X.oB pins W) pins σ H s:=
 ⟨⟨I.ok.mod,I.ok.kind,I.ok.glob,I.ok.blt,I.ok.above,I.ok.inj,I.ok.has,I.ok.cab,I.ok.hd,I.ok.frames,I.ok.stk,I.ok.exf,I.ok.bs,I.ok.bsz,I.ok.v7,I.ok.yu,I.ok.oQ,I.ok.frf⟩,I.os,I.bare,I.base,I.loc,I.cell,I.free,I.iU,
  (λp hp=>I.pin p (by
   rcases aI.mp hp with z |z
   ·exact z
   ·exact aI.mpr (.inr z))),I.hok,I.len⟩
theorem Inv.uh (I:Inv (X.oB pn W) pins σ H s)(ok:X.Ok):Inv X pn σ H s:=
 ⟨ok,I.os,I.bare,I.base,I.loc,I.cell,I.free,I.iU,(λp hp=>I.pin p (aI.mpr (.inl hp))),I.hok,I.len⟩
end
structure t7 (K:Frag)(D C:Addr):Prop where
 ty:typeIn K (.ref D)=some (.type "type")
 isc:(clsIn K D).isSome=true
 bex:mroIn K D (.type "BaseException")=some true
 mro:mroIn K C (.ref D)=some true
abbrev Ends.gone (D:Ends)(j:Nat):Ends:={nx:=λσ H=>D.nx (σ.set j none) H,rt:=D.rt,bk:=λσ H=>D.bk (σ.set j none) H,ct:=λσ H=>D.ct (σ.set j none) H}
def Fi (K:Frag)(D:Addr)(j:Nat)(th:TS)(Z:Ends):St->XK:=λσ c a H=>∃ e C,a=some e/\c = .ref C/\t7 K D C/\th (Z.gone j) (σ.set j (some (.ref e))) (upd H e (wB e C))
def FK (K:Frag)(D:Addr)(j:Nat)(tb:(St->XK)->TS)(th:TS):TS:=λZ σ H=>tb (Fi K D j th Z) Z σ H
section
variable {X:Cx}{body wQ:List Stmt}{b₀:Stmt}{x n:Str}{np Dn pos:Pos}{D:Addr}{j:Nat}{tb:(St->XK)->TS}{th:TS}
theorem CC (hst:X.stack=X.env::X.outer)(hfr:X.env.frame=some X.env.locals)(hex:X.ex = [])(hN:X.N.Nodup)(hj:X.N[j]? = some n)(hn:X.env.scope.names.lookup n=some .local)(hg:Gl X x)(hm:X.mg x=some (.ref D))
  (hb:∀ pn W (E:St->XK),xC (CXr X.prog X.w X.base) (X.oB pn W) E->PSs (X.oB pn W) body (tb E)) (hs:∀ e,PSs (X.mm e) (b₀::wQ) th) (hd:(x==("__debug__" :Str))=false:=by decide):
  PS X (.Try body [.ExceptHandler (some (.Name x np)) (some n) (b₀::wQ) Dn] [] [] pos) (FK X.K D j tb th):=by
 intro pins s σ H Z I h
 refine wpAny_Try_except ?_
 refine bR (hb pins (λe s₁=>wpAny (model X.prog X.w) X.A (noteFrame e X.env) (λ_ s₂=>wpAny (model X.prog X.w) X.A (setFlight e none) (λ_ s₃=>wpAny (model X.prog X.w) X.A (handleBy e X.env [.ExceptHandler (some (.Name x np)) (some n) (b₀::wQ) Dn]) (SP X pins Z) X.xe s₃) X.xe s₂) X.xe s₁)
  (Fi X.K D j th Z) ?_ pins s σ H Z (I.oB _) h) (λf s1 q=>?_) λe s1 q=>q
 ·intro qq σ1 H1 s1 ev s2 I1' hx
  have I1:Inv X pins σ1 H1 s1:=I1'.uh I.ok
  obtain⟨e,C',H2,B,rfl,ho,BX,x0,e',C,z1,z2,cat,q⟩:=hx
  obtain rfl:e=e':=bx z1
  obtain rfl:C'=C:=by injection z2
  have x0:Fl X.prog X.w X.base X.stack H1 H2 s1.heap e C' B s2.heap:=x0
  obtain⟨a0,f0⟩:=x0.fly
  have E5:=I.ok.frames
  rw[hst]at E5
  have f0':=f0
  rw[hst]at f0'
  show wpAny (model X.prog X.w) X.A (noteFrame (.ref e) X.env) _ _ s2
  refine wpAny_looks_onW E5 hfr f0' λh4 hh4 sm4=>?_
  refine wpAny_landsW hh4 λh5 f5 sm5=>?_
  have f5':Heap.FlyingW B X.stack e (.ref C') a0 h5:=by rw[hst];exact f5
  have x5:Fl X.prog X.w X.base X.stack H1 H2 s1.heap e C' B h5:=⟨x0.toFl0.step f5'.1 f0.2.2.1 f5'.2.2.1 (sm4.trans sm5),a0,f5'⟩
  have I5:Inv X pins σ1 (upd H2 e (wB e C')) {s2 with heap:=h5} :=Fl.kept (s':={s2 with heap:=h5}) x5 I1 hex ho BX
  obtain⟨oe,he,hec⟩:=f5'.there
  refine wpAny_handleBy_cons (codeAny_handlers_test (mU (X:=X.mm e) (I5.mm e) hg hm ?_ hd)) (by intro q;cases q)
  refine Cc (K:=X.K) I5.kIn he hec cat.ty cat.isc cat.bex cat.mro (codeAny_handlers_suite_as ?_)
  refine lands_againW f5' λh6 f6 sm6=>?_
  have x6:Fl X.prog X.w X.base X.stack H1 H2 s1.heap e C' B h6:=⟨x5.toFl0.step f6.1 f5'.2.2.1 f6.2.2.1 sm6,a0,f6⟩
  have I6:Inv X pins σ1 (upd H2 e (wB e C')) {s2 with heap:=h6} :=Fl.kept (s':={s2 with heap:=h6}) x6 I1 hex ho BX
  refine nO (X:=X.mm e) (I6.mm e) hN hj (.inl hn) (v:=.ref e) rfl (λs7 I7=>?_) (.inr hn)
  refine bR (hs e pins s7 _ _ (Z.gone j) I7 q) (λf s8 q8=>?_) λ_ _ z=>False.elim z
  cases f with
  |next=>obtain⟨σ8,H8,I8,q8⟩:=q8;exact name_goes (I8.uncaught I.ok) hN hj hn λs9 I9=>⟨_,H8,I9,q8⟩
  |brk=>obtain⟨σ8,H8,I8,q8⟩:=q8;exact name_goes (I8.uncaught I.ok) hN hj hn λs9 I9=>⟨_,H8,I9,q8⟩
  |cont=>obtain⟨σ8,H8,I8,q8⟩:=q8;exact name_goes (I8.uncaught I.ok) hN hj hn λs9 I9=>⟨_,H8,I9,q8⟩
  |ret u=>obtain⟨v8,σ8,H8,I8,r8,q8⟩:=q8;exact name_goes (I8.uncaught I.ok) hN hj hn λs9 I9=>⟨v8,_,H8,I9,r8,q8⟩
 ·cases f with
  |next=>obtain⟨σ8,H8,I8,q8⟩:=q;exact eF ⟨σ8,H8,I8.uh I.ok,q8⟩
  |brk=>obtain⟨σ8,H8,I8,q8⟩:=q;exact⟨σ8,H8,I8.uh I.ok,q8⟩
  |cont=>obtain⟨σ8,H8,I8,q8⟩:=q;exact⟨σ8,H8,I8.uh I.ok,q8⟩
  |ret u=>obtain⟨v8,σ8,H8,I8,r8,q8⟩:=q;exact⟨v8,σ8,H8,I8.uh I.ok,r8,q8⟩
end
theorem gL {X:Cx} :kd X (.builtin "isinstance") (λxs H Q=>∃ e C c cv b,xs = [.ref e,c]/\H e=some (wB e C)/\ExC X.K C/\RelV c cv/\(∀ cv',RelV c cv'->cv'=cv)/\kitOne X.K (.ref C) cv=some b/\Q (.bl b) H):=by
 intro pins s σ H vs us Q I r h
 obtain⟨e,C,c,cv,b,rfl,he,ex,_,rc,hk,q⟩:=h
 cases r with
 |cons r1 r2=>
  cases r2 with
  |cons r2 r3=>
   cases r3
   obtain rfl:=(show _=Value.ref e from r1)
   rw[rc _ r2]
   obtain⟨p,_,_⟩:=(show gB X.prog X.w H s.heap e (.ext (XAt e C)) from I.hok e _ he)
   exact kia_one (zN ex) I.kIn p hk (λz=>nomatch z) λtk=>⟨.bl b,H,I.tok tk,rfl,q⟩
open TL
section
variable {P:Program}{w:World}{K:PySem.W.Frag}{mg:Str->Option Value}{base:Heap}
theorem Fun.okX {x qual:Str}{st:Stmt}{f:Addr}{fd:FuncData}{N ps:List Str}{k:Nat}{sp:Sp}(F:Fun K x qual st f fd)(S:fH N ps (fj st))(len:∀ vs H Q E,sp vs H Q E->vs.length=ps.length)
  (u0:∀ (cdv:Value) (A:Around) (outer:List Env) (s:Shared) (H:Hp) (vs:List V) (Q:VK) (E:XK),kP k (A.deeper (envOfC qual (fj st) s.heap.objs.size f cdv))->sp vs H Q E->
   ∃ t,PSs (tX (CXr P w base) P w K mg base N qual (fj st) f cdv A outer s H E) (ju st) t/\t {nx:=λ_ H'=>Q .non H',rt:=Q} (start N vs) H):fE P w K mg base (CXr P w base) (k+1) f fd ps sp:=by
 obtain⟨oc,od,kV,doc,pm,an,cdv,ct,osl,rfl,lk,hcd⟩:=F.ex
 exact B4 lk hcd S len λA outer s H vs Q E hr hsp=>u0 cdv A outer s H vs Q E hr hsp
end
abbrev bmV:List Value:=[.type "ValueError",.type "Exception",.type "BaseException",.type "object"]
structure Xc (K:Frag)(mg:Str->Option Value)(x:Str)(C:Addr):Prop where
 m:mg x=some (.ref C)
 q:excIn K C bmV "ValueError.__new__" = true
 e:ExC K C
structure Xs (K:Frag)(mg:Str->Option Value)(D c1 c2 c3 c4 c5 c6 c7:Addr):Prop where
 VE:mg "ValueError" = none
 yD:Xc K mg "TurnError" D
 Ax:Xc K mg "NoLine" c1
 xD:Xc K mg "NoTrain" c2
 Aw:Xc K mg "NoMove" c3
 xE:Xc K mg "NoPiece" c4
 km:Xc K mg "TooMany" c5
 Av:Xc K mg "NoText" c6
 Cb:Xc K mg "NoRow" c7
 cat:∀ c∈ [c1,c2,c3,c4,c5,c6,c7],t7 K D c
 val:∀ c∈ [c1,c2,c3,c4,c5,c6,c7],kitOne K (.ref c) (.type "ValueError")=some true
 eq:∀ c∈ [c1,c2,c3,c4,c5,c6,c7],∀ d∈ [c1,c2,c3,c4,c5,c6,c7],kitOne K (.ref c) (.ref d)=some (decide (c=d))
 nd:[c1,c2,c3,c4,c5,c6,c7].Nodup
theorem pH:bootBuiltins "ValueError" = some (.type "ValueError"):= PyProof.Rows.Boot.«ValueError»
theorem Vals.bls:∀ {bs:List Bool}{its:List Value},Vals (bs.map V.bl) its->its=bs.map Value.bool
 |[],_,.nil=>rfl
 |b::bs,_,.cons r t=>by rw[Vals.bls t,(show _=Value.bool b from r)];rfl
section
variable {X:Cx}
def AX:V->List V->Hp->VK->Prop:=λx vs H Q=>∃ (l:Addr) (bs:List Bool) (c:Bool),x = .ref l/\vs = [.bl c]/\H l=some (.lst (bs.map V.bl))/\Q (.int (bs.count c:Nat)) H
def vb (c:Bool):Value->Bool
 |.bool b=>b==c
 |_=>false
theorem zI:MtM X "list.count" AX:=by
 intro pins s σ H x vs v us Q I rx rv h
 obtain⟨l,bs,c,rfl,rfl,hH,q⟩:=h
 cases rx
 cases rv with
 |cons r1 r2=>
  cases r2
  obtain rfl:=(show _=Value.bool c from r1)
  obtain⟨z,its,n,r,hl,e⟩:=I.tM hH
  have hi:=r.bls
  subst hi
  refine eT PySem.F.slot_list_count ⟨_,e,rfl⟩ PySem.F.entry_list_count (PySem.F.args_list_count_2 _ _) (SeqAt.list_countAt l _ n none #[] (.bool c) (vb c)) ⟨e,λy hy=>?_,?_⟩
  ·rw[List.mem_toArray]at hy
   obtain⟨b,_,rfl⟩:=ao.mp hy
   exact SeqAt.EqAt.bool_bool b c
  ·have e1:((bs.map Value.bool).toArray.toList.countP (vb c))=bs.count c:=by
    simp only[List.toList_toArray]
    rw[List.countP_map]
    rfl
   rw[e1]
   exact⟨.int _,H,I.tok _,⟨_,rfl⟩,q⟩
def AV:V->List V->Hp->VK->Prop:=λx vs H Q=>∃ (l:Addr) (bs:List Bool) (c:Bool) (j:Nat),x = .ref l/\vs = [.bl c]/\H l=some (.lst (bs.map V.bl))/\bs[j]? = some c/\(∀ m,m<j->bs[m]? = some (!c))/\Q (.int (j:Nat)) H
theorem zH:MtM X "list.index" AV:=by
 intro pins s σ H x vs v us Q I rx rv h
 obtain⟨l,bs,c,j,rfl,rfl,hH,hj,hno,q⟩:=h
 cases rx
 cases rv with
 |cons r1 r2=>
  cases r2
  obtain rfl:=(show _=Value.bool c from r1)
  obtain⟨z,its,n,r,hl,e⟩:=I.tM hH
  have hi:=r.bls
  subst hi
  have hjl:j<bs.length:=(af.mp hj).1
  have hjs:j<(bs.map Value.bool).toArray.size:=by simpa using hjl
  have h63:(sizeLine:Nat)<2 ^ 62:=by rw[dG];decide
  have z':bs.length<=sizeLine:=by simpa using z
  refine eT PySem.F.slot_list_index ⟨_,e,rfl⟩ PySem.F.entry_list_index (PySem.F.args_list_index_2 _ _) (SeqAt.list_indexAt l _ n none #[] (.bool c) (vb c) j hjs (by omega) ?_ λm hm hmj=>?_) ⟨e,λy hy=>?_,?_⟩
  ·have:bs[j]=c:=(af.mp hj).2
   simp[vb,this]
  ·have hm':=hno m hmj
   have:bs[m]'(by omega) = !c:=(af.mp hm').2
   simp[vb,this]
  ·rw[List.mem_toArray]at hy
   obtain⟨b,_,rfl⟩:=ao.mp hy
   exact SeqAt.EqAt.bool_bool b c
  ·exact⟨.int _,H,I.tok _,⟨_,rfl⟩,q⟩
end
structure kc (K:Frag)(x:Str)(C:Addr):Prop where
 b:nsIn K mainGlobals x=some (some (.ref C))
 q:excIn K C bmV "ValueError.__new__" = true
 o:mroIn K C (.type "object")=some true
 p:mroIn K C (.type "BaseException")=some true
 r:findIn K (.ref C) "__class__" = some (some (.builtin "object.__class__"))
 g:findIn K (.ref C) "__getattribute__" = some (some (.builtin "BaseException.__getattribute__"))
 h:findIn K (.ref C) "__getattr__" = some none
 i:isClsIn K C=true
 t:typeIn K (.ref C)=some (.type "type")
structure nH (K:Frag)(D C:Addr):Prop where
 m:mroIn K C (.ref D)=some true
 v:subIn K (.ref C) (.type "ValueError")=some true
structure oy (K:Frag)(c d1 d2 d3 d4 d5 d6:Addr):Prop where
 e1:subIn K (.ref c) (.ref d1)=some false
 e2:subIn K (.ref c) (.ref d2)=some false
 e3:subIn K (.ref c) (.ref d3)=some false
 e4:subIn K (.ref c) (.ref d4)=some false
 e5:subIn K (.ref c) (.ref d5)=some false
 e6:subIn K (.ref c) (.ref d6)=some false
section
variable {K:Frag}{h:Heap}{mg:Str->Option Value}{x:Str}{C D:Addr}
theorem kc.isc (a:kc K x C):(clsIn K C).isSome=true:=by
 have:=a.i
 unfold isClsIn at this
 exact this
theorem kc.ex (a:kc K x C):ExC K C:=⟨a.o,a.p,a.r,a.g,a.h,a.isc⟩
theorem kc.xc (a:kc K x C)(X:K.In h)(G:h.Ns mainGlobals mg):Xc K mg x C:=⟨mg_of X G a.b,a.q,a.ex⟩
theorem nF {y:Str}{d:Addr}(a:kc K y d)(hne:C≠d)(e:subIn K (.ref C) (.ref d)=some false):kitOne K (.ref C) (.ref d)=some (decide (C=d)):=by
 have h1:(Value.ref C==Value.ref d)=false:=Bool.eq_false_iff.mpr λz=>hne (Value.ref.inj (beq_iff_eq.mp z))
 unfold kitOne kitCls
 rw[h1,au (by decide)]
 dsimp only
 rw[a.isc,a.t,aD (by rfl),e,aR hne]
theorem CU:kitOne K (.ref C) (.ref C)=some (decide (C=C)):=by
 unfold kitOne
 rw[aD (beq_self_eq_true _),aX rfl]
theorem lz (e:subIn K (.ref C) (.type "ValueError")=some true):kitOne K (.ref C) (.type "ValueError")=some true:=by
 unfold kitOne kitCls
 rw[au (by intro z;cases beq_iff_eq.mp z)]
 dsimp only
 rw[aD (by decide +kernel),e]
variable {c1 c2 c3 c4 c5 c6 c7:Addr}
theorem DV (X:K.In h)(G:h.Ns mainGlobals mg)(ve:nsIn K mainGlobals "ValueError" = some none)(b0:kc K "TurnError" D)(b1:kc K "NoLine" c1)(b2:kc K "NoTrain" c2)(b3:kc K "NoMove" c3)(b4:kc K "NoPiece" c4)
  (b5:kc K "TooMany" c5) (b6:kc K "NoText" c6) (b7:kc K "NoRow" c7) (d1:nH K D c1) (d2:nH K D c2) (d3:nH K D c3) (d4:nH K D c4) (d5:nH K D c5) (d6:nH K D c6) (d7:nH K D c7)
  (e1:oy K c1 c2 c3 c4 c5 c6 c7) (e2:oy K c2 c1 c3 c4 c5 c6 c7) (e3:oy K c3 c1 c2 c4 c5 c6 c7) (e4:oy K c4 c1 c2 c3 c5 c6 c7) (e5:oy K c5 c1 c2 c3 c4 c6 c7) (e6:oy K c6 c1 c2 c3 c4 c5 c7) (e7:oy K c7 c1 c2 c3 c4 c5 c6)
  (nd:[c1,c2,c3,c4,c5,c6,c7].Nodup):Xs K mg D c1 c2 c3 c4 c5 c6 c7:=by
 have ct:∀ {c:Addr},nH K D c->t7 K D c:=λd=>⟨b0.t,b0.isc,b0.p,d.m⟩
 refine⟨mg_none_of X G ve,b0.xc X G,b1.xc X G,b2.xc X G,b3.xc X G,b4.xc X G,b5.xc X G,b6.xc X G,b7.xc X G,λc hc=>?_,λc hc=>?_,λc hc d hd=>?_,nd⟩
 ·simp only[aJ,dQ,or_false]at hc
  rcases hc with rfl |rfl |rfl |rfl |rfl |rfl |rfl
  ·exact ct d1
  ·exact ct d2
  ·exact ct d3
  ·exact ct d4
  ·exact ct d5
  ·exact ct d6
  ·exact ct d7
 ·simp only[aJ,dQ,or_false]at hc
  rcases hc with rfl |rfl |rfl |rfl |rfl |rfl |rfl
  ·exact lz d1.v
  ·exact lz d2.v
  ·exact lz d3.v
  ·exact lz d4.v
  ·exact lz d5.v
  ·exact lz d6.v
  ·exact lz d7.v
 ·have hcd:c=d\/c≠d:=by by_cases h:c=d;exact .inl h;exact .inr h
  rcases hcd with rfl |hne
  ·exact CU
  ·simp only[aJ,dQ,or_false]at hc hd
   have ee:subIn K (.ref c) (.ref d)=some false:=by
    rcases hc with rfl |rfl |rfl |rfl |rfl |rfl |rfl<;>rcases hd with rfl |rfl |rfl |rfl |rfl |rfl |rfl<;>
     first |exact absurd rfl hne |exact e1.e1 |exact e1.e2 |exact e1.e3 |exact e1.e4 |exact e1.e5 |exact e1.e6 |exact e2.e1 |exact e2.e2 |exact e2.e3 |exact e2.e4 |exact e2.e5 |exact e2.e6 |exact e3.e1 |exact e3.e2 |exact e3.e3 |exact e3.e4 |exact e3.e5 |exact e3.e6 |exact e4.e1 |exact e4.e2 |exact e4.e3 |exact e4.e4 |exact e4.e5 |exact e4.e6 |exact e5.e1 |exact e5.e2 |exact e5.e3 |exact e5.e4 |exact e5.e5 |exact e5.e6 |exact e6.e1 |exact e6.e2 |exact e6.e3 |exact e6.e4 |exact e6.e5 |exact e6.e6 |exact e7.e1 |exact e7.e2 |exact e7.e3 |exact e7.e4 |exact e7.e5 |exact e7.e6
   rcases hd with rfl |rfl |rfl |rfl |rfl |rfl |rfl
   ·exact nF b1 hne ee
   ·exact nF b2 hne ee
   ·exact nF b3 hne ee
   ·exact nF b4 hne ee
   ·exact nF b5 hne ee
   ·exact nF b6 hne ee
   ·exact nF b7 hne ee
end
end L2
namespace TL
open PySem PySem.Spec PyProof.Rows L2
structure Bm (mg:Str->Option Value):Prop extends Bl mg where
 zip:mg "zip" = none
 sum:mg "sum" = none
 all:mg "all" = none
 set:mg "set" = none
 tuple:mg "tuple" = none
 abs:mg "abs" = none
 bool:mg "bool" = none
 dict:mg "dict" = none
 str:mg "str" = none
section
variable {X:Cx}
end
section
variable {K:PySem.W.Frag}{l:Addr}{g:TG}{tt:TT}{te:TE}{cap:List (Option Nat)}{σ:St}{Q:VK}{H1:Hp}{J:It}
theorem wg (n:Nat)(Pv:Nat->List V->Hp->Prop)(h0:Pv 0 [] (upd H1 l (.lst [])))(go:∀ i acc H,i<n->Pv i acc H->J.go i H)(st:∀ acc H,Pv n acc H->J.stop n H)
  (hs:∀ i x acc H H',i<n->Pv i acc H->J.yld i H x H'->g x (j9 cap σ) H' λσ2 H2=>tt σ2 H2 λb H3=>
    if b=true then te σ2 H3 λy H4=>H4 l=some (.lst acc)/\acc.length<sizeLine/\Pv (i+1) (acc ++ [y]) (upd H4 l (.lst (acc ++ [y])))
    else Pv (i+1) acc H3) (hd:∀ acc H,Pv n acc H->Q (.ref l) H):LcW J g tt te cap σ Q l H1:=by
 refine⟨λi m acc H=>m=n-i/\i<=n/\Pv i acc H,⟨n,by simp,aW _,h0⟩,?_⟩
 rintro i m acc H ⟨rfl,hi,p⟩
 by_cases hlt:i<n
 ·exact .inr ⟨go i acc H hlt p,λrA H'=>Pv (i+1) rA H',λrA H' p'=>⟨n-(i+1),by omega,rfl,hlt,p'⟩,λx H' y=>hs i x acc H H' hlt p y⟩
 ·have e:i=n:=by omega
  subst e
  exact .inl ⟨st acc H p,hd acc H p⟩
theorem A9 {α:Type}(n:Nat)(ds:List α)(p:α->Bool)(f:α->V)(hn:H1 l=none)(hlen:n=ds.length)(hz:n<sizeLine)(go:∀ i H,fi H1 H->i<n->J.go i H)(st:∀ H,fi H1 H->J.stop n H)
  (hs:∀ i x d H H',fi H1 H->J.yld i H x H'->ds[i]? = some d->∀ (P1:VK) (P0:Hp->Prop),(∀ H2,p d=true->fi H H2->P1 (f d) H2)->(∀ H2,p d=false->fi H H2->P0 H2)->
   g x (j9 cap σ) H' λσ2 H2=>tt σ2 H2 λb H3=>if b=true then te σ2 H3 P1 else P0 H3)
  (hq:∀ H',fi H1 H'->H' l=some (.lst ((ds.filter p).map f))->Q (.ref l) H'):LcW J g tt te cap σ Q l H1:=by
 refine wg n (λi acc H=>acc=((ds.take i).filter p).map f/\fi H1 H/\H l=some (.lst acc)) ⟨rfl,eW hn,eX⟩ (λi acc H hi ⟨_,s,_⟩=>go i H s hi) (λacc H ⟨_,s,_⟩=>st H s) ?_ ?_
 ·rintro i x acc H H' hi ⟨e1,s,hl⟩ y
  have hd:ds[i]? = some (ds[i]'(by omega)):=by simp
  generalize ds[i]'(by omega)=d at hd
  have step:((ds.take (i+1)).filter p).map f=acc++(if p d=true then[f d]else[]):=by
   rw[bG,hd,List.filter_append,ax,e1]
   congr 1
   by_cases hp:p d=true
   ·simp[hp]
   ·have hp':p d=false:=by simpa using hp
    simp[hp']
  have la:acc.length<sizeLine:=by
   have h1:acc.length<=i:=by
    rw[e1,aa]
    exact bF (bH _ _) (by rw[bw];omega)
   omega
  refine hs i x d H H' s y hd _ _ (λH2 hp s2=>?_) (λH2 hp s2=>?_)
  ·refine⟨s2 _ _ hl,la,?_,fi.upd (s.trans s2) hn,eX⟩
   rw[step,aD hp]
  ·refine⟨?_,s.trans s2,s2 _ _ hl⟩
   rw[step,au (by rw[hp];exact aU),bX]
 ·rintro acc H ⟨e1,s,hl⟩
  rw[br (by omega)]at e1
  subst e1
  exact hq H s hl
end
section
variable {X:Cx}{pins:List (Addr×Obj)}{σ:St}{H:Hp}{s:Shared}
end
section
variable {X:Cx}{pins:List (Addr×Obj)}{σ:St}{H1:Hp}{s2:Shared}{scope:Scope}{N:List Str}{own:Nat}{cap:List (Option Nat)}{cl:List (Str×Addr)}{fp:List Addr}
 {tg iter elt:Expr}{ifs:List Expr}{pos:Pos}{g:TG}{tt:TT}{te:TE}{wi:TI}
end
section
variable {X:Cx}
end
section
variable {l:Addr}{g:TG}{tt:TT}{te:TE}{cap:List (Option Nat)}{σ:St}{Q:VK}{H1:Hp}{J:It}
end
def hid (p:Addr)(H:Hp):Hp:=λb=>if b=p then none else H b
theorem gI {p:Addr}{H:Hp} :fi (hid p H) H:=λb o h=>by
 unfold hid at h
 by_cases e:b=p
 ·rw[aD e]at h;cases h
 ·rw[au e]at h;exact h
theorem gz {p b:Addr}{H:Hp}(h:b≠p):hid p H b=H b:=by unfold hid;rw[au h]
theorem ij {p:Addr}{H:Hp} :hid p H p=none:=by unfold hid;rw[aD rfl]
theorem kI {p:Addr}{H H':Hp}(s:fi H H'):fi (hid p H) (hid p H'):=λb o h=>by
 by_cases e:b=p
 ·subst e;rw[ij]at h;cases h
 ·rw[gz e]at h ⊢;exact s _ _ h
theorem pV {p:Addr}{H:Hp}{o:HO} :hid p (upd H p o)=hid p H:=by
 funext b
 by_cases e:b=p
 ·subst e;rw[ij,ij]
 ·rw[gz e,gz e,fc e]
theorem Bh {K:PySem.W.Frag}{p a:Addr}{H:Hp}{vs xs:List V}(hp:H p=some (.lst vs))(h:SqT K H a xs):SqT K (hid p H) a xs:=by
 rcases h with(h |⟨o,h⟩)|h
 ·exact .inl (.inl (by rw[gz (gw h hp (by intro z;cases z))];exact h))
 ·exact .inl (.inr ⟨o,by rw[gz (gw h hp (by intro z;cases z))];exact h⟩)
 ·exact .inr h
section
variable {L T:Addr->List V->Prop}
end
theorem mv {xs:List V}{v:V}{i:Int}(h0:0<=i)(h:xs[i.toNat]? = some v):atI xs i=some v:=by
 have:=ox h
 rw[show((i.toNat:Nat):Int)=i by omega]at this
 exact this
section
variable {K:PySem.W.Frag}{l:Addr}{g:TG}{tt:TT}{te:TE}{cap:List (Option Nat)}{σ:St}{Q:VK}{H1:Hp}{J:It}
end
open PySem.W
section
variable {X:Cx}{pins:List (Addr×Obj)}{σ:St}{H H1:Hp}{s s':Shared}{e C:Addr}{B:Heap}
end
section
variable {prog:Program}{w:World}{A:Around}{R:Result->Shared->Prop}{s:Shared}{XE:Value->Shared->Prop}
end
section
variable {M:Model}{A:Around}{E:Value->Shared->Prop}{s:Shared}{env:Env}
end
section
variable {X:Cx}{pins:List (Addr×Obj)}{σ:St}{H H3:Hp}{s s3:Shared}{scope:Scope}{N:List Str}{own:Nat}{cap:List (Option Nat)}{cl:List (Str×Addr)}{fp:List Addr}{E:XK}
def XC (X:Cx)(scope:Scope)(cl:List (Str×Addr))(N:List Str)(fp:List Addr)(s3:Shared)(H3:Hp)(E:XK):Value->Shared->Prop:=λev s'=>∃ (qq:List (Addr×Obj)) (σ':St) (H':Hp) (s0:Shared),Inv (g9 X scope cl N fp s3 H3) qq σ' H' s0/\CXr X.prog X.w X.base X.stack H' s0 E ev s'
abbrev FD (X:Cx)(scope:Scope)(cl:List (Str×Addr))(N:List Str)(fp:List Addr)(s3:Shared)(H3:Hp)(E:XK):Cx:=(g9 X scope cl N fp s3 H3).pY (XC X scope cl N fp s3 H3 E)
end
section
variable {X:Cx}{pins:List (Addr×Obj)}{σ:St}{H1:Hp}{s2:Shared}{scope:Scope}{N:List Str}{own:Nat}{cap:List (Option Nat)}{cl:List (Str×Addr)}{fp:List Addr}
 {tg iter elt:Expr}{ifs:List Expr}{pos:Pos}{g:TG}{tt:TT}{te:TE}{wi:TI}{E:XK}
end
end TL
namespace TL
open PySem PySem.Spec PyProof.Rows L2
section
variable {X:Cx}{pins:List (Addr×Obj)}{σ:St}{H:Hp}{s:Shared}{a:Addr}{kvs:List (List Key×V)}
theorem Inv.freeze (I:Inv X pins σ H s)(ha:H a=some (.dT kvs)):∃ o,Inv X pins σ (upd H a (.frz o (.dT kvs))) s:=by
 obtain⟨z,hm,xs,r,o,es,ep,e,c⟩:=I.hok a _ ha
 refine⟨o,?_⟩
 have h0:Inv X pins σ (upd H a (.frz o (.dT kvs))) {s with heap:=s.heap,toks:=s.toks} :=by
  refine I.un (t':=s.toks) ⟨λb o q _ _ _=>q,λb o q _ _ _=>⟨o.slots,q⟩,λb u q n _=>?_,λb o q _=>⟨o,q⟩,λb xs q=>?_,λb u x q=>?_,λb ps q=>⟨#[],?_⟩⟩ λb u q=>?_
  ·rw[fc (b9 (fb ha n))];exact n
  ·rw[fc (gw q ha (by intro z;cases z))];exact q
  ·rw[fc (gw q ha (by intro z;cases z))];exact q
  ·rw[fc (gw q ha (by intro z;cases z)),q];simp
  ·have ho:∀ c b',H c=some (.own b')->upd H a (.frz o (.dT kvs)) c=some (.own b'):=λc b' q=>by rw[fc (gw q ha (by intro z;cases z))];exact q
   have ht:∀ c xs,H c=some (.tup xs)->upd H a (.frz o (.dT kvs)) c=some (.tup xs):=λc xs q=>by rw[fc (gw q ha (by intro z;cases z))];exact q
   by_cases hb:b=a
   ·subst hb
    rw[eX]at q
    cases q
    exact⟨e,(I.hok b _ ha).oE (λ_ _ _ q=>q) (λc q=>ho c _ q) ht⟩
   ·rw[fc hb]at q
    exact(I.hok b u q).oE (λ_ _ _ q=>q) (λc q=>ho c _ q) ht
 exact h0
theorem Inv.Ic {o:Obj}(I:Inv X pins σ H s)(ha:H a=some (.frz o (.dT kvs)))(h0:∀ o u,X.H₀ a≠some (.frz o u)):Inv X pins σ (upd H a (.dT kvs)) s:=by
 have ne:∀ b,H b=none->b≠a:=λb n=>b9 (fb ha n)
 have hu:Un X.fs X.ex X.H₀ (upd H a (.dT kvs)) X.s₀.heap s.heap:=by
  refine⟨I.base.keep,I.base.slot,λb u q n hx=>?_,I.base.there,λb xs q=>?_,λb u x q=>?_,λb ps q=>?_⟩
  ·have:=I.base.free b u q n hx
   rw[fc (ne b this)];exact this
  ·have:=I.base.nv b xs q
   rw[fc (gw this ha (by intro z;cases z))];exact this
  ·have hb:b≠a:=λz=>by subst z;exact h0 _ _ q
   rw[fc hb];exact I.base.lU b u x q
  ·obtain⟨m,e⟩:=I.base.nz b ps q
   exact⟨m,by rw[fc (gw e ha (by intro z;cases z))];exact e⟩
 refine⟨I.ok,I.os,I.bare,hu,I.loc,I.cell,by rw[fc (ne _ I.free)];exact I.free,λx c e=>by rw[fc (ne _ (I.iU x c e))];exact I.iU x c e,λp hp=>?_,λb u q=>?_,I.len⟩
 ·obtain⟨p1,p2,p3⟩:=I.pin p hp
  exact⟨p1,by rw[fc (ne _ p2)];exact p2,p3⟩
 ·have ho:∀ c b',H c=some (.own b')->upd H a (.dT kvs) c=some (.own b'):=λc b' q=>by rw[fc (gw q ha (by intro z;cases z))];exact q
  have ht:∀ c xs,H c=some (.tup xs)->upd H a (.dT kvs) c=some (.tup xs):=λc xs q=>by rw[fc (gw q ha (by intro z;cases z))];exact q
  by_cases hb:b=a
  ·subst hb
   rw[eX]at q
   cases q
   exact(I.hok b _ ha).2.oE (λ_ _ _ q=>q) (λc q=>ho c _ q) ht
  ·rw[fc hb]at q
   exact(I.hok b u q).oE (λ_ _ _ q=>q) (λc q=>ho c _ q) ht
def FW (t:TE):TE:=λσ H Q=>∃ a kvs,H a=some (.dT kvs)/\∀ o,t σ (upd H a (.frz o (.dT kvs))) λv H'=>H' a=some (.frz o (.dT kvs))/\Q v (upd H' a (.dT kvs))
theorem CG {e:Expr}{t:TE}(h:PE X e t):PE X e (FW t):=by
 intro pins s σ H Q I q
 obtain⟨a,kvs,ha,q⟩:=q
 have h0:∀ o u,X.H₀ a≠some (.frz o u):=λo u z=>by have:=I.base.lU a o u z;rw[ha]at this;cases this
 obtain⟨o,I1⟩:=Inv.freeze I ha
 refine thn (h pins s σ _ _ I1 (q o)) λu s1 ⟨v,H1,I2,r,e1,q1⟩=>⟨v,_,Inv.Ic I2 e1 h0,r,q1⟩
end
section
variable {prog:Program}{w:World}{A:Around}{E:Value->Shared->Prop}{s:Shared}{d it:Addr}{o:Obj}{es:Array DictEntry}{ep i:Nat}
theorem xT (ho:s.heap.get? d=some o)(hx:o.ExactDict):s.TypeIs (.ref d) "dict" :=⟨o,ho,hx.1⟩
theorem xW {Q:Value->Shared->Prop}(hn:(d==sysModules)=false)(ho:s.heap.get? d=some o)(hx:o.ExactDict)(hd:o.data = .dict es ep)
  (hQ:Q (.ref s.heap.objs.size) {s with heap:=s.heap.push {cls:=.type "dict_keyiterator",data:=.fields #[.ref d,.int 0 0,.int es.size 0,.int ep 0]}}):wpAny (model prog w) A (pyIter (.ref d)) Q E s:=by
 have hT:=xT ho hx
 refine wpAny_pyIter_slot hT F.slot_dict_iter (dz F.slot_dict_iter hT F.entry_dict_iter ?_ (F.args_dict_iter_1 _))
 unfold Builtin.«dict.__iter__»
 refine ai ?_
 unfold Builtin.Dict.dictSlotNone
 refine ai (wpAny_notOrdered_dict hT (aB ?_))
 show wpAny _ _ (Builtin.Dict.showsAll d >>= _) _ _ s
 unfold Builtin.Dict.showsAll
 rw[au (by rw[hn];exact aU)]
 refine ai (aB (ai (wpAny_dictEntries ho hd (ai (wpAny_dictEpoch ho hd ?_)))))
 refine ai (dX (aB ⟨_,rfl,"dict_keyiterator",_,⟨_,ba _ rfl,rfl⟩,b8.lookup,?_⟩))
 simpa [rawInt]using hQ
theorem xV {Q:Option Value->Shared->Prop}{e:DictEntry}(hit:s.heap.IsKeyIter it d i es.size ep)(ho:s.heap.get? d=some o)(hd:o.data = .dict es ep)(hx:es[i]? = some e)
  (hQ:∀ h',h'.IsKeyIter it d (i+1) es.size ep->Heap.SameBut it s.heap h'->Q (some e.key) {s with heap:=h'}):wpAny (model prog w) A (pyNext (.ref it)) Q E s:=by
 obtain⟨oi,hoi,hc,hdi⟩:=id hit
 have hT:=hit.typeIs
 unfold pyNext
 refine ai (wpAny_attempt (wpAny_callSpecial?_slot (name:=Str.ofString "__next__") hT b8
  (dz b8 hT F.entry_dict_keyiterator_next ?_ (F.args_dict_keyiterator_next_1 _))))
 refine ai (aB (ai (ai ?_)))
 first |refine ai (cS hT (aB ?_))|refine ai (dD hT (aB ?_))
 refine ai (wpAny_fieldsOf hoi hdi ?_)
 have Dq:Builtin.Dict_items.ownsTuple "dict_keyiterator" = false:=by decide
 simp only[Dq,cu,di]
 show wpAny _ _ (if(Value.ref d==Value.none)=true then _ else _) _ _ s
 rw[au (show ¬((Value.ref d==Value.none)=true) from aU)]
 refine ai (aB (ai (wpAny_dictEntries ho hd ?_)))
 rw[au (by simp)]
 refine ai (aB (ai (wpAny_dictEpoch ho hd ?_)))
 rw[au (by simp)]
 refine aB ?_
 obtain⟨hlt,he⟩:=Array.getElem?_eq_some_iff.mp hx
 simp only[show ¬((i:Int)<0) from by omega,di,Int.toNat_natCast,aZ hlt]
 refine ai ?_
 first |refine ai (cS hT (aB ?_))|refine ai (dD hT (aB ?_))
 refine ai (wpAny_isOneOf_keyiter hT ?_)
 show wpAny _ _ (setField (.ref it) 1 (rawInt ((i:Int)+1)) >>= _) _ _ s
 refine ai (wpAny_setField hoi hdi (by simp) ?_)
 have E3:(s.heap.update it (Obj.mapFields (·.setIfInBounds 1 (rawInt ((i:Int)+1))))).IsKeyIter it d (i+1) es.size ep:=
  ⟨_,Heap.get?_update_self _ hoi (Obj.isFreed_of_fields (Obj.data_mapFields hdi _)),(Obj.cls_mapFields ..).trans hc,by rw[Obj.data_mapFields hdi];simp[rawInt]⟩
 refine ai (wpAny_holding ?_)
 refine ai (wpAny_isOneOf_keyiter (s:={s with heap:=s.heap.update it (Obj.mapFields (·.setIfInBounds 1 (rawInt ((i:Int)+1))))}) E3.typeIs ?_)
 show wpAny _ _ (pure es[i].key) _ _ _
 rw[he]
 exact aB (aB ⟨_,rfl,aB (hQ _ E3 (Heap.SameBut.update ..))⟩)
theorem y3 {Q:Option Value->Shared->Prop}(hh:A.handled=none)(hit:s.heap.IsKeyIter it d i es.size ep)(ho:s.heap.get? d=some o)(hd:o.data = .dict es ep)(hx:es.size<=i)
  (hQ:∀ h',Heap.ExtBut it s.heap h'->Q none {s with heap:=h'}):wpAny (model prog w) A (pyNext (.ref it)) Q E s:=by
 obtain⟨oi,hoi,hc,hdi⟩:=id hit
 have hT:=hit.typeIs
 unfold pyNext
 refine ai (wpAny_attempt (wpAny_callSpecial?_slot (name:=Str.ofString "__next__") hT b8
  (dz b8 hT F.entry_dict_keyiterator_next ?_ (F.args_dict_keyiterator_next_1 _))))
 refine ai (aB (ai (ai ?_)))
 first |refine ai (cS hT (aB ?_))|refine ai (dD hT (aB ?_))
 refine ai (wpAny_fieldsOf hoi hdi ?_)
 have Dq:Builtin.Dict_items.ownsTuple "dict_keyiterator" = false:=by decide
 simp only[Dq,cu,di]
 show wpAny _ _ (if(Value.ref d==Value.none)=true then _ else _) _ _ s
 rw[au (show ¬((Value.ref d==Value.none)=true) from aU)]
 refine ai (aB (ai (wpAny_dictEntries ho hd ?_)))
 rw[au (by simp)]
 refine ai (aB (ai (wpAny_dictEpoch ho hd ?_)))
 rw[au (by simp)]
 refine aB ?_
 simp only[show ¬((i:Int)<0) from by omega,di,Int.toNat_natCast,Array.getElem?_eq_none hx]
 refine ai ?_
 first |refine ai (cS hT (aB ?_))|refine ai (dD hT (aB ?_))
 show wpAny _ _ (setField (.ref it) 0 .none >>= _) _ _ s
 refine ai (wpAny_setField hoi hdi (by simp) ?_)
 show wpAny _ _ (newExc (.type "StopIteration") [] >>= _) _ _ _
 refine ai ?_
 simp only[newExc,newTuple]
 refine ai (dX ?_ (by size_fits))
 refine ai (m:=firstArgMember _ _) (eA (a:=Value.none) (by first |rfl |(simp only[firstArgMember];rfl)) ?_)
 refine dX ?_ (by size_fits)
 simp only[raiseNew]
 refine ai (wpAny_handled ?_)
 rw[show A.in1.handled=none from hh]
 refine ai (aB (wpAny_throw ?_))
 refine ai (wpAny_isInstance (T:= "StopIteration") (b:=true) ⟨_,ba _ rfl,rfl⟩ isSubtype_stop ?_)
 exact aB (hQ _ (((Heap.SameBut.update ..).extBut.push _).push _))
theorem xU {Q:Value->Shared->Prop}{n:Nat}(hit:s.heap.IsKeyIter it d i n ep)(h:Q (.ref it) s):wpAny (model prog w) A (pyIter (.ref it)) Q E s:=by
 have hT:=hit.typeIs
 refine wpAny_pyIter_slot hT F.slot_dict_keyiterator_iter (dz F.slot_dict_keyiterator_iter hT F.entry_dict_keyiterator_iter ?_ (F.args_dict_keyiterator_iter_1 _))
 show wpAny _ _ (ret (.ref it)) _ _ s
 exact aB ⟨_,rfl,"dict_keyiterator",_,hT,b8.lookup,h⟩
end
theorem sd {α β:Type}{R:α->β->Prop} :∀ {l₁:List α}{l₂:List β}{i:Nat}{p:α},Paired R l₁ l₂->l₁[i]? = some p->∃ q,l₂[i]? = some q/\R p q
 |_,_,0,_,.cons r _,e=>by cases e;exact⟨_,rfl,r⟩
 |_,_,i+1,p,.cons _ t,e=>sd (i:=i) t e
def Itk (a:Addr)(o:Obj)(kvs:List (List Key×V)):It:=
 ⟨λi H=>H a=some (.frz o (.dT kvs))/\i<kvs.length,λi H x H'=>H'=H/\∃ b p,kvs[i]? = some p/\x = .ref b/\H b=some (.tup (p.1.map kV)),λi H=>H a=some (.frz o (.dT kvs))/\kvs.length<=i⟩
theorem xK {P:Program}{w:World}{K:PySem.W.Frag}{tg:Expr}{hx:Heap}(htg:∀ it u,letOwnedTupleGo tg it u=pure ())(a it:Addr)(o:Obj)(kvs:List (List Key×V))(es:Array DictEntry)(ep:Nat)(hd:o.data = .dict es ep)(hl:es.size=kvs.length):
  Turn P w K tg (Itk a o kvs) [it] it (λi h=>h.IsKeyIter it a i es.size ep) where
 mem:=by simp
 obj:=λi h st b hb=>by
  have e:b=it:=by simpa using hb
  subst e
  obtain⟨oi,hoi,_,hdi⟩:=st
  exact⟨oi,hoi,λv z=>by rw[hdi]at z;cases z⟩
 keep:=λi h h' st k=>by
  obtain⟨oi,hoi,r⟩:=st
  exact⟨oi,k it (by simp) oi hoi,r⟩
 item:=by
  intro X hP hw hK hc i pins s σ H E I hf st hg
  subst hP hw hK
  obtain⟨ha,hi⟩:=hg
  obtain⟨ho,z,hm,xs,r,o',es',ep',e',_,hd',hes,_⟩:=I.hok a _ ha
  rw[ho]at e'
  cases e'
  rw[hd]at hd'
  cases hd'
  have hp:kvs[i]? = some kvs[i]:=by simp[hi]
  obtain⟨q,hq,q1,q2,q3⟩:=sd r hp
  have he:es[i]? = some (entryOfKey (tupleKind (gP X.prog X.w)) q):=by
   rw[<-aA,hes,aj,hq];rfl
  obtain⟨g0,g1,g2,g3,g4,g5⟩:=hf it (by simp)
  refine xV st ho hd he λh' k1 k2=>?_
  refine⟨_,rfl,?_⟩
  rw[htg]
  refine aB ⟨.ref q.2.1,H,I.turned (t':=s.toks) (λb u hb e=>k2.extBut b u hb e) g0 g1 g3 g4 g5,rfl,⟨rfl,q.2.1,_,hp,rfl,q2⟩,k1,λb hb=>?_⟩
  have e:b=it:=by simpa using hb
  subst e;exact g0
 done:=by
  intro X hP hw hK hc i pins s σ H E I hf st hg
  subst hP hw hK
  obtain⟨ha,hi⟩:=hg
  obtain⟨ho,_⟩:=I.hok a _ ha
  obtain⟨g0,g1,g2,g3,g4,g5⟩:=hf it (by simp)
  exact y3 (I.ok.hd hc) st ho hd (by rw[hl];exact hi) λh' eb=>⟨rfl,I.turned (t':=s.toks) (λb u hb e=>eb b u hb e) g0 g1 g3 g4 g5⟩
 self:=λ_ _ _ _ _ st h=>xU st h
section
variable {X:Cx}
def ES (tl:TE):TI:=λσ H R=>tl σ H λx H1=>∃ a o kvs,x = .ref a/\H1 a=some (.frz o (.dT kvs))/\R (Itk a o kvs) H1
theorem A1 {tg e:Expr}{tl:TE}(hl:PE X e tl)(htg:∀ it u,letOwnedTupleGo tg it u=pure ():=by intro _ _;rfl):PI X tg e (ES tl):=by
 intro pins s σ H R I h
 refine thn (hl pins s σ H _ I h) λu s1 ⟨x,H1,I1,r1,a,o,kvs,ex,ha,q⟩=>?_
 subst ex
 cases(show u=Value.ref a from r1)
 obtain⟨ho,z,hm,xs,r,o',es,ep,e',hxd,hd,hes,_⟩:=I1.hok a _ ha
 rw[ho]at e'
 cases e'
 have hsz:es.size=kvs.length:=by
  have h1:=cB List.length hes
  rw[aw,aa,<-er r]at h1
  exact h1
 refine xW hm ho hxd hd ?_
 refine⟨s1.heap.objs.size,[s1.heap.objs.size],_,_,H1,rfl,I1.kept (t':=s1.toks) (λb u e=>aH _ e),xK (hx:=s1.heap) htg a _ o kvs es ep hd hsz,⟨_,ba _ rfl,rfl,rfl⟩,λb hb=>?_,q⟩
 have e:b=s1.heap.objs.size:=by simpa using hb
 subst e
 exact I1.yr (aq _) (I1.hok.fresh (aq _))
end
section
variable {X:Cx}{pins:List (Addr×Obj)}{σ:St}{H:Hp}{s:Shared}{a b:Addr}{kvs:List (List Key×V)}{k:List Key}{v:V}{r:Value}{A:Around}{E:Value->Shared->Prop}
theorem DH {Q:Unit->Shared->Prop}(hu:A.units<cLine)(I:Inv X pins σ H s)(e:H a=some (.dT kvs))(eb:H b=some (.tup (k.map kV)))(l:kvs.length<sizeLine)(rv:RelV v r)
  (h:∀ s',Inv X pins σ (upd H a (.dT (putK kvs k v))) s'->Q () s'):wpAny (model X.prog X.w) A (dictSet a (.ref b) r) Q E s:=by
 obtain⟨z,hd,xs,rel,dd⟩:=B7 I.hok e
 have hz:xs.length<=sizeLine:=by rw[<-er rel];exact z
 have hl:(putK kvs k v).length<=sizeLine:=by have:=lS kvs k v;omega
 refine wpAny_dictSet_heap (hsz:=hz) hu (qH I.hok eb) dd λh' dd' hs=>h _ ?_
 obtain⟨q,es,ep,hq,h2,h3,h4,_,h5⟩:=dd'
 refine tW I (by rw[e];exact True.intro) hs ⟨q,hq⟩ ⟨hl,hd,_,(rel.put k eb rv).keeps λc ys ec=>?_,q,es,ep,hq,h2,h3,h4,h5⟩
 rw[fc (gw ec e (λz=>nomatch z))]
 exact ec
def Cj (tk tv:TE):TE:=λσ H Q=>∀ p,H p=none->vL [(tk,tv)] σ (upd H p (.dT [])) λps H2=>∃ (x y:V) (b:Addr) (ks:List Key),ps = [(x,y)]/\x=V.ref b/\H2 b=some (.tup (ks.map kV))/\H2 p=some (.dT [])/\Q (.ref p) (upd H2 p (.dT [(ks,y)]))
theorem uI {pos:Pos}{k v:Expr}{tk tv:TE}(hu:X.A.units+1<cLine)(hk:PE X k tk)(hv:PE X v tv):PE X (.Dict [some k] [v] pos) (Cj tk tv):=by
 intro pins s σ H Q I q
 have hn:=I.hok.fresh (aq s.heap.objs.size)
 have I1:=I.laid (a:=s.heap.objs.size) (o:=.dT []) (h':=s.heap.push {cls:=.type "dict",data:=.dict #[]}) (t':=s.toks) (λ_ _ q=>aH _ q) (aq _) (vi s.heap I.big)
 refine wpAny_Dict_any rfl rfl (by simp) (by simp) (thn (zj hk hv AZ pins _ σ _ _ I1 (q _ hn)) λws s2 ⟨ps,H2,I2,rel,x,y,b,ks,ep,ex,hb,hp,q2⟩=>?_)
 subst ep ex
 cases rel with
 |@cons p w' ps ws r t=>
   cases t
   obtain⟨w1,w2⟩:=w'
   obtain⟨r1,r2⟩:=r
   cases(show w1=Value.ref b from r1)
   unfold storeAll
   rw[List.forIn_cons]
   refine ai (ai (DH (by omega) I2 hp hb (by rw[List.length_nil];decide) r2 λs3 I3=>aB ?_))
   refine aB ⟨.ref s.heap.objs.size,_,I3,rfl,?_⟩
   exact q2
theorem uG {x y n:Str}{i:Int}{u:Value}{k1 k2:Nat}{p1 p2 p3 p4 pos:Pos}(hg:Gl X n)(hm:X.mg n=some u)(r:RelV (.int i) u)(hi:i.natAbs.log2<1920)(hz:x.length<=1000/\y.length<=1000/\(Str.ofString (toString i)).length<=1000)
  (hd:(n==("__debug__" :Str))=false:=by decide):PE X (.JoinedStr [.Constant (.str x) k1 p1,.FormattedValue (.Name n p2) (-1) none p3,.Constant (.str y) k2 p4] pos) (λ_ H Q=>∀ z,Q (.str z) H):=by
 intro pins s σ H Q I q
 obtain⟨t,rfl⟩:=r
 have hl:∀ a b:Str,(a++b).length=a.length+b.length:=strLen_append
 have he:Str.empty.length=0:=rfl
 refine wpAny_JoinedStr ?_
 refine PySem.wpAny_Constant_str ⟨x,_,rfl,by rw[hl,he,dG];omega,?_⟩
 refine wpAny_FormattedValue_plain (mU (I.tok _) hg hm (wpAny_formatField_int hi ⟨_,_,rfl,by rw[hl,hl,he,dG];omega,?_⟩) hd)
 refine PySem.wpAny_Constant_str ⟨y,_,rfl,by rw[hl,hl,hl,he,dG];omega,?_⟩
 refine⟨by rw[hl,hl,hl,he,dG];omega,⟨.str _,H,?_,⟨_,rfl⟩,q _⟩⟩
 exact I.tok _
end
section
variable {X:Cx}{K:PySem.W.Frag}
theorem rz (e:X.K=K):kd X (.type "list") (λxs H Q=>∃ p ys,xs = [.ref p]/\(SqL K H p ys\/SqT K H p ys)/\∀ l,H l=none->Q (.ref l) (upd H l (.lst ys))):=by subst e;exact jM
theorem mq (e:X.K=K):kd X (.type "tuple") (λxs H Q=>∃ p ys,xs = [.ref p]/\((SqL K H p ys/\∀ l,H l=none->Q (.ref l) (upd H l (.tup ys)))\/(SqT K H p ys/\Q (.ref p) H))):=by subst e;exact fW
end
abbrev Ln:=Int×List (Int×Int)
structure gi (l:Ln)(ns:List Int):Prop where
 ends:∀ e∈ns,0<=e/\e<2*l.1
 nd:(ns.map (· / 2)).Nodup
 ch:∀ (i:Nat) x y,ns[i]? = some x->ns[i+1]? = some y->y∈jn l.2 (oth x)
theorem wj {l:Ln}(ok:fk l){e x:Int} :x∈jn l.2 e↔(min e x,max e x)∈l.2:=by
 unfold jn
 rw[AN,aI]
 constructor
 ·rintro(z |z)
  ·obtain⟨p,hp,rfl⟩:=ao.mp z
   obtain⟨h1,h2⟩:=aO.mp hp
   have h2:p.2=e:=by simpa using h2
   have:=ok.ends p h1
   have e1:(min e p.1,max e p.1)=p:=Prod.ext (by show min e p.1=p.1;omega) (by show max e p.1=p.2;omega)
   rw[e1];exact h1
  ·obtain⟨p,hp,rfl⟩:=ao.mp z
   obtain⟨h1,h2⟩:=aO.mp hp
   have h2:p.1=e:=by simpa using h2
   have:=ok.ends p h1
   have e1:(min e p.2,max e p.2)=p:=Prod.ext (by show min e p.2=p.1;omega) (by show max e p.2=p.2;omega)
   rw[e1];exact h1
 ·intro h
  by_cases hx:e<=x
  ·have e1:(min e x,max e x)=(e,x):=Prod.ext (by show min e x=e;omega) (by show max e x=x;omega)
   rw[e1]at h
   exact .inr (ao.mpr ⟨(e,x),aO.mpr ⟨h,by simp⟩,rfl⟩)
  ·have e1:(min e x,max e x)=(x,e):=Prod.ext (by show min e x=x;omega) (by show max e x=e;omega)
   rw[e1]at h
   exact .inl (ao.mpr ⟨(x,e),aO.mpr ⟨h,by simp⟩,rfl⟩)
theorem mW {l:Ln}(ok:fk l){e x:Int}(h:x∈jn l.2 e):e∈jn l.2 x:=by
 rw[wj ok]at h ⊢
 rw[show min x e=min e x by omega,show max x e=max e x by omega];exact h
theorem wk {l:Ln}(ok:fk l){e x:Int}(h:x∈jn l.2 e):0<=x/\x<2*l.1:=by
 have:=ok.ends _ ((wj ok).mp h)
 dsimp only at this
 omega
theorem tT {l:Ln}{ns:List Int}{e x:Int}(h:x∈fr l ns e):x∈jn l.2 e/\x/2∉ns.map (· / 2):=by
 obtain⟨h1,h2⟩:=aO.mp h
 exact⟨h1,by simpa using h2⟩
theorem gi.on {l:Ln}{ns:List Int}{e:Int}(ok:fk l)(T:gi l ns)(hne:ns≠ [])(he:e∈fr l ns (oth (ns.getLastD 0))):gi l (ns.drop 1 ++ [e]):=by
 obtain⟨h1,h2⟩:=tT he
 have hl:1<=ns.length:=by cases ns with |nil=>exact absurd rfl hne |cons x r=>simp
 refine⟨λx hx=>?_,?_,λi x y hx hy=>?_⟩
 ·rcases aI.mp hx with z |z
  ·exact T.ends x (List.mem_of_mem_drop z)
  ·have z:x=e:=by simpa using z
   rw[z];exact wk ok h1
 ·rw[ax,bT]
  refine⟨by rw[dU];exact T.nd.sublist (List.drop_sublist _ _),by simp,λa ha b hb z=>?_⟩
  have hb:b=e/2:=by simpa using hb
  rw[dU]at ha
  exact h2 (by rw[<-hb,<-z];exact List.mem_of_mem_drop ha)
 ·have ld:(ns.drop 1).length=ns.length-1:=cz
  by_cases hi:i+1<(ns.drop 1).length
  ·rw[ak hi,cn]at hy
   rw[ak (by omega),cn]at hx
   exact T.ch (1+i) x y hx (by rw[<-hy];congr 1)
  ·have hlt:=(af.mp hy).1
   rw[ah,bE]at hlt
   have e1:i+1=(ns.drop 1).length:=by omega
   rw[e1,az (aq _),bV]at hy
   cases hy
   rw[ak (by omega),cn]at hx
   have e2:ns.getLastD 0=x:=by
    rw[cE,df,show ns.length-1=1+i by omega,hx];rfl
   rw[e2]at h1
   exact h1
theorem gi.back {l:Ln}{ns:List Int}{e:Int}(ok:fk l)(T:gi l ns)(hne:ns≠ [])(he:e∈fr l ns (ns.headD 0)):gi l (oth e::ns.dropLast):=by
 obtain⟨h1,h2⟩:=tT he
 have hl:1<=ns.length:=by cases ns with |nil=>exact absurd rfl hne |cons x r=>simp
 refine⟨λx hx=>?_,?_,λi x y hx hy=>?_⟩
 ·rcases aJ.mp hx with z |z
  ·rw[z]
   have:=wk ok h1
   unfold oth
   omega
  ·exact T.ends x ((List.dropLast_sublist ns).subset z)
 ·rw[aM,cg]
  refine⟨λz=>h2 ?_,?_⟩
  ·rw[kF]at z
   have:=(List.dropLast_sublist ns).map (· / 2)
   exact this.subset z
  ·exact T.nd.sublist ((List.dropLast_sublist ns).map _)
 ·cases i with
  |zero=>
   cases hx
   have hy:ns.dropLast[0]? = some y:=hy
   rw[jJ]
   have hy2:ns[0]? = some y:=by
    have:=(af.mp hy).1
    rw[dE]at hy
    split at hy
    ·exact hy
    ·cases hy
   have e2:ns.headD 0=y:=by cases ns with |nil=>cases hy2 |cons a r=>cases hy2;rfl
   rw[e2]at h1
   exact mW ok h1
  |succ j=>
   have hx:ns.dropLast[j]? = some x:=hx
   have hy:ns.dropLast[j+1]? = some y:=hy
   rw[dE]at hx hy
   split at hx
   ·split at hy
    ·exact T.ch j x y hx hy
    ·cases hy
   ·cases hx
theorem tL {l:Ln}{ns:List Int}{m:Mv}(ok:fk l)(T:gi l ns)(hne:ns≠ [])(hm:m∈mvs l ns):gi l m.2/\m.2.length=ns.length/\m.2≠ []:=by
 have hl:1<=ns.length:=by cases ns with |nil=>exact absurd rfl hne |cons x r=>simp
 rcases aI.mp hm with z |z
 ·obtain⟨e,he,rfl⟩:=ao.mp z
  refine⟨T.on ok hne he,?_,λe=>?_⟩
  ·simp only[onM,ah,cz,aY,List.length_nil];omega
  ·simp[onM]at e
 ·obtain⟨e,he,rfl⟩:=ao.mp z
  refine⟨T.back ok hne he,?_,λe=>?_⟩
  ·simp only[jI,aY,cw];omega
  ·simp[jI]at e
theorem ly {α:Type} [DecidableEq α]:∀ {l1 l2:List α},l1.Nodup->(∀ x∈l1,x∈l2)->l1.length<=l2.length
 |[],_,_,_=>aW _
 |x::r,l2,nd,h=>by
  rw[cg]at nd
  have hx:=h x ar
  have:=ly (l1:=r) (l2:=l2.erase x) nd.2 λy hy=>by
   have:y≠x:=λz=>nd.1 (by rw[<-z];exact hy)
   exact(List.mem_erase_of_ne this).mpr (h y (aC _ hy))
  rw[List.length_erase_of_mem hx]at this
  have h1:1<=l2.length:=by cases l2 with |nil=>cases hx |cons a b=>simp
  rw[aY]
  omega
def qY (l:Ln):List (Int×Int):=l.2.map (λp=>(oth p.1,p.2))++l.2.map λp=>(oth p.2,p.1)
def wD (l:Ln):List Int:=(List.range (2*l.1).toNat).map λi:Nat=>(i:Int)
def m6 (l:Ln):Nat->List (List Int)
 | 0=>[[]]
 | 1=>(wD l).map λe=>[e]
 |n+2=>(qY l).flatMap λp=>(m6 l n).map λr=>p.1::p.2::r
theorem BI {l:Ln}(ok:fk l){x y:Int}(h:y∈jn l.2 (oth x)):(x,y)∈qY l:=by
 have h:=(wj ok).mp h
 unfold qY
 rw[aI]
 by_cases hc:oth x<=y
 ·rw[show min (oth x) y=oth x by omega,show max (oth x) y=y by omega]at h
  exact .inl (ao.mpr ⟨_,h,by rw[jJ]⟩)
 ·rw[show min (oth x) y=y by omega,show max (oth x) y=oth x by omega]at h
  exact .inr (ao.mpr ⟨_,h,by rw[jJ]⟩)
theorem qT {l:Ln}(ok:fk l):∀ (n:Nat) (ns:List Int),ns.length=n->(∀ e∈ns,0<=e/\e<2*l.1)->(∀ (i:Nat) x y,ns[i]? = some x->ns[i+1]? = some y->y∈jn l.2 (oth x))->ns∈m6 l n
 | 0,ns,hl,_,_=>by rw[List.eq_nil_of_length_eq_zero hl];exact ar
 | 1,[e],_,he,_=>by
  have:=he e ar
  refine ao.mpr ⟨e,ao.mpr ⟨e.toNat,by rw[List.mem_range];omega,by omega⟩,rfl⟩
 |n+2,x::y::r,hl,he,hc=>by
  refine List.mem_flatMap.mpr ⟨(x,y),BI ok (hc 0 x y rfl rfl),ao.mpr ⟨r,qT ok n r (by simpa using hl) (λe h=>he e (aC _ (aC _ h))) (λi a b ha hb=>hc (i+2) a b ha hb),rfl⟩⟩
theorem vB {l:Ln}(ok:fk l):∀ n,(m6 l n).length<=160 ^ ((n+1)/2)
 | 0=>by simp[m6]
 | 1=>by
  simp only[m6,wD,aa,List.length_range]
  have:=ok.most
  omega
 |n+2=>by
  have ih:=vB ok n
  simp only[m6]
  rw[List.length_flatMap]
  have e1:(qY l).map (λa=>((m6 l n).map λr=>a.1::a.2::r).length)=(qY l).map λ_=>(m6 l n).length:=by
   refine dh λa _=>by rw[aa]
  rw[e1,List.map_const',List.sum_replicate_nat]
  have h1:(qY l).length<=160:=by
   unfold qY
   rw[ah,aa,aa]
   have:=ok.len
   omega
  have e2:(n+2+1)/2=(n+1)/2+1:=by omega
  rw[e2,Nat.pow_succ,Nat.mul_comm (160 ^ _)]
  exact Nat.mul_le_mul h1 ih
theorem vK {l:Ln}(ok:fk l){n:Nat}(hn:n<=6){ts:List (List Int)}(nd:ts.Nodup)(h:∀ t∈ts,gi l t/\t.length=n):ts.length<=4096000:=by
 have h1:=ly nd (l2:=m6 l n) λt ht=>qT ok n t (h t ht).2 (h t ht).1.ends (h t ht).1.ch
 have h2:=vB ok n
 have h3:160 ^ ((n+1)/2)<=160 ^ 3:=Nat.pow_le_pow_right (by decide) (by omega)
 have h4:160 ^ 3=4096000:=by decide
 omega
abbrev Ent:=List Int×Option (List Int×(Str×Int))
def lJ (t:List Int)(o:List Ent)(m:Mv):List Ent:=if m.2∈o.map (·.1)then o else o ++ [(m.2,some (t,m.1))]
def fQ (t:List Int)(ms:List Mv)(o:List Ent):List Ent:=ms.foldl (lJ t) o
def fy (l:Ln)(ns:List Int):Nat->List Ent
 | 0=>[(ns,none)]
 |i+1=>match (fy l ns i)[i]? with
  |some e=>fQ e.1 (mvs l e.1) (fy l ns i)
  |none=>fy l ns i
theorem vE (t:List Int)(o:List Ent)(m:Mv):o <+:lJ t o m:=by
 unfold lJ
 split
 ·exact List.prefix_rfl
 ·exact List.prefix_append _ _
theorem mK (t:List Int)(ms:List Mv):∀ o,o <+:fQ t ms o:=by
 induction ms with
 |nil=>exact λo=>List.prefix_rfl
 |cons m r ih=>exact λo=>(vE t o m).trans (ih _)
theorem qi {t:List Int}{ms:List Mv}{o:List Ent}{j:Nat}{m:Mv}(h:ms[j]? = some m):fQ t (ms.take (j+1)) o=lJ t (fQ t (ms.take j) o) m:=by
 unfold fQ
 rw[bG,h,eM];rfl
theorem lN {t:List Int}(ms:List Mv)(o:List Ent)(j:Nat):fQ t (ms.take j) o <+:fQ t ms o:=by
 have:fQ t ms o=fQ t (ms.drop j) (fQ t (ms.take j) o):=by
  unfold fQ
  rw[<-eM,cC]
 rw[this]
 exact mK _ _ _
theorem kz {l:Ln}{ns:List Int}{i:Nat}{e:Ent}(h:(fy l ns i)[i]? = some e):fy l ns (i+1)=fQ e.1 (mvs l e.1) (fy l ns i):=by
 rw[fy,h]
theorem mH (l:Ln)(ns:List Int)(i:Nat):fy l ns i <+:fy l ns (i+1):=by
 rw[fy]
 split
 ·exact mK _ _ _
 ·exact List.prefix_rfl
theorem ud (l:Ln)(ns:List Int)(i:Nat):∀ k,fy l ns i <+:fy l ns (i+k)
 | 0=>List.prefix_rfl
 |k+1=>(ud l ns i k).trans (mH l ns (i+k))
structure mG (l:Ln)(ns:List Int)(es:List Ent):Prop where
 tr:∀ e∈es,gi l e.1/\e.1.length=ns.length/\e.1≠ []
 nd:(es.map (·.1)).Nodup
 ne:es≠ []
theorem mG.add {l:Ln}{ns t:List Int}{es:List Ent}{m:Mv}(ok:fk l)(h:mG l ns es)(hm:m∈mvs l t)(ht:gi l t/\t.length=ns.length/\t≠ []):mG l ns (lJ t es m):=by
 unfold lJ
 split
 ·exact h
 ·rename_i hn
  obtain⟨h1,h2,h3⟩:=tL ok ht.1 ht.2.2 hm
  refine⟨λe he=>?_,?_,by simp⟩
  ·rcases aI.mp he with z |z
   ·exact h.tr e z
   ·have z:e=(m.2,some (t,m.1)):=by simpa using z
    rw[z];exact⟨h1,by show m.2.length=ns.length;omega,h3⟩
  ·rw[ax,bT]
   refine⟨h.nd,by simp,λa ha b hb z=>?_⟩
   have hb:b=m.2:=by simpa using hb
   exact hn (by rw[<-hb,<-z];exact ha)
theorem mG.scan {l:Ln}{ns t:List Int}(ok:fk l)(ht:gi l t/\t.length=ns.length/\t≠ []):∀ {ms:List Mv}{es:List Ent},(∀ m∈ms,m∈mvs l t)->mG l ns es->mG l ns (fQ t ms es)
 |[],_,_,h=>h
 |m::r,es,hm,h=>mG.scan (ms:=r) ok ht (λx hx=>hm x (aC _ hx)) (h.add ok (hm m ar) ht)
theorem jj {l:Ln}{ns:List Int}(ok:fk l)(T:gi l ns)(hne:ns≠ []):∀ i,mG l ns (fy l ns i)
 | 0=>⟨λe he=>by have z:e=(ns,none):=(by simpa [fy]using he);rw[z];exact⟨T,rfl,hne⟩,by simp[fy],by simp[fy]⟩
 |i+1=>by
  have ih:=jj ok T hne i
  rw[fy]
  split
  ·rename_i e he
   exact mG.scan ok (ih.tr e (aG he)) (λm hm=>hm) ih
  ·exact ih
theorem mG.len {l:Ln}{ns:List Int}{es:List Ent}(ok:fk l)(h:mG l ns es)(hn:ns.length<=6):es.length<=4096000:=by
 have:=vK ok hn h.nd λt ht=>by
  obtain⟨e,he,rfl⟩:=ao.mp ht
  exact⟨(h.tr e he).1,(h.tr e he).2.1⟩
 rw[aa]at this
 exact this
def okJ (m:Int)(p:Int×Int):Prop:=(0<=p.1/\p.1<2*m)/\(0<=p.2/\p.2<2*m)/\p.1<=p.2/\p.1/2≠p.2/2
structure gm (l:Ln):Prop where
 one:1<=l.1
 most:l.1<=14
 len:l.2.length<=24
 ok:∀ p∈l.2,okJ l.1 p
 nd:l.2.Nodup
theorem gm.gR {l:Ln}(G:gm l):fk l:=by
 have h1:=G.len
 refine⟨G.one,by have:=G.most;omega,by omega,λe=>?_,λp hp=>?_⟩
 ·have:=inc_le l.2 e;omega
 ·obtain⟨a,b,c,_⟩:=G.ok p hp
  exact⟨a.1,c,b.2⟩
structure Ren (m:Int)(nm es:List Int):Prop where
 len:(nm.length:Int)=m
 nb:∀ x∈nm,0<=x/\x<m
 nd:nm.Nodup
 yv:es.length=2*nm.length
 at_:∀ j,j<nm.length->∃ f:Int,(f=0\/f=1)/\es[2*j]? = some (2*nm.getD j 0+f)/\es[2*j+1]? = some (2*nm.getD j 0+1-f)
def rho (es:List Int)(e:Int):Int:=es.getD e.toNat 0
def rj (es:List Int)(p:Int×Int):Int×Int:=(min (rho es p.1) (rho es p.2),max (rho es p.1) (rho es p.2))
theorem Ren.rho {m:Int}{nm es:List Int}(R:Ren m nm es){e:Int}(h0:0<=e)(h1:e<2*m):
  ∃ f:Int,(f=0\/f=1)/\TL.rho es e=2*nm.getD (e/2).toNat 0+(if e%2=0 then f else 1-f)/\
   ∀ e',0<=e'->e'/2=e/2->TL.rho es e'=2*nm.getD (e/2).toNat 0+(if e'%2=0 then f else 1-f):=by
 have hl:=R.len
 obtain⟨f,hf,e1,e2⟩:=R.at_ (e/2).toNat (by omega)
 have key:∀ e',0<=e'->e'/2=e/2->TL.rho es e'=2*nm.getD (e/2).toNat 0+(if e'%2=0 then f else 1-f):=λe' h2 h3=>by
  unfold TL.rho
  by_cases c:e'%2=0
  ·rw[aD c,bD,show e'.toNat=2*(e/2).toNat by omega,e1];rfl
  ·rw[au c,bD,show e'.toNat=2*(e/2).toNat+1 by omega,e2]
   show 2*nm.getD (e/2).toNat 0+1-f=_
   omega
 exact⟨f,hf,key e h0 rfl,key⟩
theorem Ren.xf {m:Int}{nm es:List Int}(R:Ren m nm es){e:Int}(h0:0<=e)(h1:e<2*m):TL.rho es e/2=nm.getD (e/2).toNat 0:=by
 obtain⟨f,hf,e1,_⟩:=R.rho h0 h1
 rw[e1]
 split<;>omega
theorem Ren.EE {m:Int}{nm es:List Int}(R:Ren m nm es){p:Int}(h0:0<=p)(h1:p<m):0<=nm.getD p.toNat 0/\nm.getD p.toNat 0<m:=by
 have hl:=R.len
 have h2:p.toNat<nm.length:=by omega
 have:nm.getD p.toNat 0=nm[p.toNat]:=by rw[bD,ae h2];rfl
 rw[this]
 exact R.nb _ (dR h2)
theorem Ren.zF {m:Int}{nm es:List Int}(R:Ren m nm es){p q:Int}(h0:0<=p)(h1:p<m)(g0:0<=q)(g1:q<m)(e:nm.getD p.toNat 0=nm.getD q.toNat 0):p=q:=by
 have hl:=R.len
 have h2:p.toNat<nm.length:=by omega
 have h3:q.toNat<nm.length:=by omega
 have e1:nm.getD p.toNat 0=nm[p.toNat]:=by rw[bD,ae h2];rfl
 have e2:nm.getD q.toNat 0=nm[q.toNat]:=by rw[bD,ae h3];rfl
 rw[e1,e2]at e
 have:=(cN R.nd).mp e
 omega
theorem Ren.yY {m:Int}{nm es:List Int}(R:Ren m nm es){e:Int}(h0:0<=e)(h1:e<2*m):0<=TL.rho es e/\TL.rho es e<2*m:=by
 obtain⟨f,hf,e1,_⟩:=R.rho h0 h1
 have:=R.EE (p:=e/2) (by omega) (by omega)
 rw[e1]
 split<;>omega
theorem Ren.inj {m:Int}{nm es:List Int}(R:Ren m nm es){e e':Int}(h0:0<=e)(h1:e<2*m)(g0:0<=e')(g1:e'<2*m)(h:TL.rho es e=TL.rho es e'):e=e':=by
 have hp:e/2=e'/2:=by
  have a:=R.xf h0 h1
  have b:=R.xf g0 g1
  rw[h,b]at a
  exact(R.zF (by omega) (by omega) (by omega) (by omega) a).symm
 obtain⟨f,hf,e1,e2⟩:=R.rho h0 h1
 rw[e1,e2 e' g0 hp.symm]at h
 by_cases c:e%2=0<;>by_cases d:e'%2=0
 ·omega
 ·rw[aD c,au d]at h;omega
 ·rw[au c,aD d]at h;omega
 ·omega
theorem Ren.okJ {m:Int}{nm es:List Int}(R:Ren m nm es){p:Int×Int}(h:TL.okJ m p):TL.okJ m (rj es p):=by
 obtain⟨⟨a0,a1⟩,⟨b0,b1⟩,le,ne⟩:=h
 have ha:=R.yY a0 a1
 have hb:=R.yY b0 b1
 have pa:=R.xf a0 a1
 have pb:=R.xf b0 b1
 have hne:TL.rho es p.1/2≠TL.rho es p.2/2:=λz=>by
  rw[pa,pb]at z
  exact ne (R.zF (by omega) (by omega) (by omega) (by omega) z)
 unfold TL.okJ rj
 dsimp only
 generalize TL.rho es p.1=x at *
 generalize TL.rho es p.2=y at *
 refine⟨by omega,by omega,by omega,λz=>?_⟩
 by_cases c:x<=y
 ·rw[dt c,de c]at z;exact hne z
 ·rw[dc (by omega),dw (by omega)]at z;exact hne z.symm
theorem okJ.lt {m:Int}{p:Int×Int}(h:okJ m p):p.1<p.2:=by
 obtain⟨_,_,le,ne⟩:=h
 by_cases c:p.1=p.2
 ·rw[c]at ne;exact absurd rfl ne
 ·omega
theorem EG {a b c d:Int}(h1:min a b=min c d)(h2:max a b=max c d):(a=c/\b=d)\/(a=d/\b=c):=by
 rcases Int.le_total a b with x |x<;>rcases Int.le_total c d with y |y
 ·rw[dt x,dt y]at h1;rw[de x,de y]at h2;exact .inl ⟨h1,h2⟩
 ·rw[dt x,dc y]at h1;rw[de x,dw y]at h2;exact .inr ⟨h1,h2⟩
 ·rw[dc x,dt y]at h1;rw[dw x,de y]at h2;exact .inr ⟨h2,h1⟩
 ·rw[dc x,dc y]at h1;rw[dw x,dw y]at h2;exact .inl ⟨h2,h1⟩
theorem Ren.Cu {m:Int}{nm es:List Int}(R:Ren m nm es){p q:Int×Int}(hp:TL.okJ m p)(hq:TL.okJ m q)(e:rj es p=rj es q):p=q:=by
 obtain⟨⟨a0,a1⟩,⟨b0,b1⟩,le,ne⟩:=id hp
 obtain⟨⟨c0,c1⟩,⟨d0,d1⟩,le',ne'⟩:=id hq
 have l1:=hp.lt
 have l2:=hq.lt
 unfold rj at e
 rw[Prod.mk.injEq]at e
 obtain⟨e1,e2⟩:=e
 obtain⟨pa,pb⟩:=p
 obtain⟨qa,qb⟩:=q
 dsimp only at *
 have hor:=EG e1 e2
 rcases hor with⟨x,y⟩|⟨x,y⟩
 ·rw[R.inj a0 a1 c0 c1 x,R.inj b0 b1 d0 d1 y]
 ·have:=R.inj a0 a1 d0 d1 x
  have:=R.inj b0 b1 c0 c1 y
  omega
theorem Ren.line {m:Int}{nm es:List Int}(R:Ren m nm es){js js':List (Int×Int)}(G:gm (m,js))(hp:js'.Perm (js.map (rj es))):gm (m,js'):=by
 refine⟨G.one,G.most,?_,λp h=>?_,?_⟩
 ·have:=hp.length_eq
  rw[aa]at this
  show js'.length<=24
  have:=G.len
  dsimp only at this
  omega
 ·obtain⟨q,hq,rfl⟩:=ao.mp (hp.mem_iff.mp h)
  exact R.okJ (G.ok q hq)
 ·refine hp.nodup_iff.mpr ?_
  rw[List.Nodup,bS]
  exact cI (λ{a b} ha hb hab z=>hab (R.Cu (G.ok a ha) (G.ok b hb) z)) G.nd
def KR (K:PySem.W.Frag)(H:Hp)(Q:VK):Prop:=∀ (v:V) (l:Ln) (H':Hp),fi H H'->Da K H' (dL l) v->gm l->Q v H'
end TL
namespace TL
theorem wz {m:Int}{js:List (Int×Int)}{a b:Int}(G:gm (m,js))(ne:a/2≠b/2)(a0:0<=a)(a1:a<2*m)(b0:0<=b)(b1:b<2*m)(hn:(min a b,max a b)∉js)(hl:js.length<24):gm (m,js ++ [(min a b,max a b)]):=by
 refine⟨G.one,G.most,?_,λp hp=>?_,?_⟩
 ·show(js ++ [(min a b,max a b)]).length<=24
  rw[ah];show js.length+1<=24;omega
 ·rcases aI.mp hp with z |z
  ·exact G.ok p z
  ·have z:p=(min a b,max a b):=by simpa using z
   subst z
   unfold okJ
   dsimp only
   refine⟨by omega,by omega,by omega,λz=>?_⟩
   by_cases c:a<=b
   ·rw[dt c,de c]at z;exact ne z
   ·rw[dc (by omega),dw (by omega)]at z;exact ne z.symm
 ·refine bT.mpr ⟨G.nd,by simp,λx hx y hy=>?_⟩
  have hy:y=(min a b,max a b):=by simpa using hy
  rw[hy]
  exact λz=>hn (z ▸ hx)
open PySem PySem.Spec PyProof.Rows L2
section
variable {prog:Program}{w:World}{A:Around}{E:Value->Shared->Prop}{s:Shared}{l b:Addr}{items IH:Array Value}{n n2:Nat}
end
section
variable {X:Cx}
end
abbrev TF:=St->Hp->Str->(Str->Hp->Prop)->Prop
section
variable {X:Cx}{e:Expr}{es:List Expr}{te:TE}{tf:TF}{pos:Pos}
end
section
variable {X:Cx}
end
section
variable {prog:Program}{w:World}{A:Around}{E:Value->Shared->Prop}{s:Shared}
end
section
variable {X:Cx}{pos:Pos}
end
section
variable {prog:Program}{w:World}{A:Around}{E:Value->Shared->Prop}{s:Shared}
end
section
variable {X:Cx}{pos:Pos}
end
section
variable {X:Cx}
end
section
variable {X:Cx}{tg e:Expr}{te:TE}
end
end TL
namespace TS
open PySem
open SetTable
def adv (mask:Nat)(p:Probe):Probe:=
 if p.more>0 then {p with j:=p.j+1,more:=p.more-1} else
 {p with j:=(leap mask p.i p.perturb).1,more:=runEnd mask (leap mask p.i p.perturb).1-(leap mask p.i p.perturb).1,i:=(leap mask p.i p.perturb).1,perturb:=(leap mask p.i p.perturb).2}
def pAt (mask:Nat)(h:Int):Nat->Probe
 | 0=>{j:=bits h%(mask+1),more:=runEnd mask (bits h%(mask+1))-bits h%(mask+1),i:=bits h%(mask+1),perturb:=bits h,dummy:=none}
 |n+1=>adv mask (pAt mask h n)
open SetTable
def BJ (mask:Nat)(taken:List Nat)(h:Int)(j:Nat):Prop:=∃ n,(pAt mask h n).j=j/\∀ m,m<n->(pAt mask h m).j∈taken
structure WFT (t:SetTable)(hs:List Int):Prop where
 pow:∃ k,3<=k/\t.mask+1=2 ^ k
 small:t.mask<=8191
 dum:t.dummies = #[]
 rise:t.place.toList.Pairwise (· < ·)
 all:∀ j∈t.place.toList,j<=t.mask
 len:t.place.size=hs.length
 room:hs.length*5<t.mask*3
 reach:∀ i (h:i<hs.length) j,t.place[i]? = some j->BJ t.mask t.place.toList hs[i] j
open SetTable
end TS
namespace TL
open PySem TS
section
variable {prog:Program}{w:World}{K:Type} [DecidableEq K] {knd:KeyKind prog w K}{A:Around}{E:Value->Shared->Prop}{s:Shared}
def Jf (knd:KeyKind prog w K)(x:List K×Addr):Int×Value:=(tupleKeyHash knd x.1,.ref x.2)
def KQ (knd:KeyKind prog w K)(h:Heap)(a:Addr)(xs:List (List K×Addr)):Prop:=
 ∃ o es ep t,h.get? a=some o/\o.ExactSet/\o.data = .set es ep t/\es.toList=xs.map (Jf knd)/\(xs.map (·.1)).Nodup/\WFT t (xs.map λx=>tupleKeyHash knd x.1)
end
section
variable {prog:Program}{w:World}{K:Type} [DecidableEq K] {knd:KeyKind prog w K}{A:Around}{E:Value->Shared->Prop}{s:Shared}
end
open PySem.Spec PyProof.Rows L2
def KP (P:Program)(w:World)(a:Addr)(xs:List (List Key×Addr)):HO:=.ext λh=>KQ (gP P w) h a xs
abbrev keysOf (xs:List (List Key×Addr)):List (List Key):=xs.map λx=>x.1
section
variable {X:Cx}{pins:List (Addr×Obj)}{σ:St}{H:Hp}{s:Shared}
end
section
variable {prog:Program}{w:World}{A:Around}{R:Result->Shared->Prop}{I:Addr}{fp wr:List Addr}{G:Array GenState->Array GenState->Prop}{n:Nat}{P:Nat->Value->Prop}{St:Nat->Shared->Prop}
end
section
variable {prog:Program}{w:World}{A:Around}{E:Value->Shared->Prop}{s:Shared}
end
section
variable {X:Cx}
end
section
variable {X:Cx}{o e:Expr}{es:List Expr}{to:TE}{t:TA}{name:Str}{apos lI:Pos}{id:String}{r:V->List V->Hp->VK->Prop}
end
open HT
section
variable {prog:Program}{w:World}{A:Around}{E:Value->Shared->Prop}{s:Shared}
end
section
variable {X:Cx}{e:Expr}{te:TE}{pos p2:Pos}
end
section
variable {X:Cx}{a b c d:Expr}{ta tb tc td:TE}{pos:Pos}
end
end TL
namespace TL
open PySem PySem.Spec PyProof.Rows L2
section
variable {X:Cx}
theorem tO {K:PySem.W.Frag} :PySem.W.kitOne K (.type "int") (.type "bool")=some false:=by
 unfold PySem.W.kitOne PySem.W.kitCls
 rfl
end
section
variable {X:Cx}
end
section
variable {X:Cx}{K:PySem.W.Frag}{T:String}{name:Str}{id:String}{r:V->List V->Hp->VK->Prop}{o e:Expr}{es:List Expr}{to:TE}{t:TA}{apos lI:Pos}
end
section
variable {K:PySem.W.Frag}{l:Addr}{g:TG}{tt:TT}{te:TE}{cap:List (Option Nat)}{σ:St}{Q:VK}{H1:Hp}{J:It}
end
section
variable {X:Cx}
end
open PySem.W
def ev {α:Type} :List α->List α
 |[]=>[]
 |[x]=>[x]
 |x::_::r=>x::ev r
section
variable {X:Cx}{e st lo:Expr}{te ts tl:TE}{pos p2:Pos}
end
section
variable {X:Cx}{tg:Expr}
end
section
variable {X:Cx}
end
section
variable {X:Cx}
end
def ItD (hi:Int)(n:Nat):It:=⟨λi _=>i<n,λi H x H'=>H'=H/\x = .int (hi+(i:Int) * -1),λi _=>n<=i⟩
theorem uf {P:Program}{w:World}{K:PySem.W.Frag}{tg:Expr}(it:Addr)(hi:Int)(n:Nat):Turn P w K tg (ItD hi n) [it] it (λi h=>IsRangeIter h it (hi+(i:Nat) * -1) ((n:Int)-(i:Nat)) (-1)) where
 mem:=by simp
 obj:=λi h st b hb=>by
  have e:b=it:=by simpa using hb
  subst e
  exact⟨_,st,λv z=>by
   have z':Data.fields _=Data.cell v:=z
   cases z'⟩
 keep:=λi h h' st k=>k it (by simp) _ st
 item:=by
  intro X hP hw hK hc i pins s σ H E I hf st hg
  subst hP hw hK
  obtain⟨f0,f1,f2,f3,f4,f5⟩:=hf it (by simp)
  have W:=Walks.range (prog:=X.prog) (w:=X.w) (I.ok.hd hc) it hi (-1) n
  refine W.item i s _ _ hg st λv h' tk hv st' kk=>?_
  obtain⟨t,rfl⟩:=hv
  have I1:Inv X pins σ H {s with heap:=h',toks:=tk} :=I.turned (λb o hb e=>kk b o (by simpa using hb) e) f0 f1 f3 f4 f5
  exact⟨_,rfl,xq (s:={s with heap:=h',toks:=tk}) (n:= "range_iterator") st' rfl rfl (by decide) ⟨.int (hi+(i:Int) * -1),H,I1,⟨t,rfl⟩,⟨rfl,rfl⟩,st',λb hb=>(hf b hb).1⟩⟩
 done:=by
  intro X hP hw hK hc i pins s σ H E I hf st hg
  subst hP hw hK
  obtain⟨f0,f1,f2,f3,f4,f5⟩:=hf it (by simp)
  exact wpAny_pyNext_range_end (I.ok.hd hc) st (by have:n<=i:=hg;omega) λh' eb=>⟨rfl,I.turned (t':=s.toks) (λb o hb e=>eb b o hb e) f0 f1 f3 f4 f5⟩
 self:=λ_ _ _ _ _ st h=>wpAny_pyIter_rangeiter st h
section
variable {X:Cx}{tg:Expr}
end
end TL
namespace TL
open PySem PySem.Spec PyProof.Rows L2 TS
section
variable {prog:Program}{w:World}{A:Around}{R:Result->Shared->Prop}{s:Shared}
end
section
variable {X:Cx}{pins:List (Addr×Obj)}{σ:St}{H1:Hp}{s2:Shared}{scope:Scope}{N:List Str}{own:Nat}{cap:List (Option Nat)}{cl:List (Str×Addr)}{fp:List Addr}
 {tg iter elt vlt:Expr}{ifs:List Expr}{pos:Pos}{g:TG}{tt:TT}{te tv:TE}{wi:TI}
end
section
variable {X:Cx}{pins:List (Addr×Obj)}{σ:St}{H1:Hp}{s2:Shared}{scope:Scope}{N:List Str}{own:Nat}{cap:List (Option Nat)}{cl:List (Str×Addr)}{fp:List Addr}
 {tg iter elt vlt:Expr}{ifs:List Expr}{pos:Pos}{g:TG}{tt:TT}{te tv:TE}{wi:TI}
end
end TL
namespace L2
open PySem PySem.Spec PySem.Calls PyProof.Rows PySem.W
section
variable {X:Cx}{body wQ:List Stmt}{b₀:Stmt}{x:Str}{np Dn pos:Pos}{D:Addr}{tb:(St->XK)->TS}{th:TS}
end
end L2
namespace TL
open PySem PySem.Spec PyProof.Rows L2
theorem tP {l:Int×List (Int×Int)}(h:fk l)(e:Int):(jn l.2 e).length<=160:=by
 unfold jn
 rw[nA,ah]
 exact h.inc e
theorem qL {l:Int×List (Int×Int)}(h:fk l)(ns:List Int)(e:Int):(fr l ns e).length<=160:=bF (bH _ _) (tP h e)
theorem m7 {α β:Type}(f:α->β)(l:List α)(i:Nat)(x:α)(h:l[i]? = some x):(l.take (i+1)).map f=(l.take i).map f ++ [f x]:=by
 rw[bG,h,ax];rfl
theorem mn:∀ (ds:List PyData),(∀ d∈ds,d.canLay0=true)->PyData.canLayAll0 ds=true
 |[],_=>by simp[PyData.canLayAll0]
 |d::ds,h=>by
  simp only[PyData.canLayAll0,dS]
  exact⟨h d ar,mn ds λx hx=>h x (aC _ hx)⟩
def dM (k:Str×Int):PyData:=.tuple [.str k.1,.int k.2]
theorem BV {K:PySem.W.Frag}{H H1:Hp}{p:Addr}{ms:List Mv}{vs:List V}{i:Nat}{y:V}(D:Dgs (Lf H H1 p) (SqT K H1) (ms.map dMv) vs)(hy:vs[i]? = some y):
  ∃ m ad p1 b,ms[i]? = some m/\y = .ref ad/\SqT K H1 ad [.ref p1,.ref b]/\Da K H1 (dM m.1) (.ref p1)/\H1 b=some (.lst (m.2.map V.int))/\H b=none/\b≠p:=by
 obtain⟨d,e1,hd⟩:=Dgs.get D hy
 rw[aj]at e1
 cases q:ms[i]? with
 |none=>rw[q]at e1;cases e1
 |some m=>
  rw[q]at e1
  cases e1
  unfold dMv at hd
  obtain⟨ad,us,rfl,ht,q⟩:=hJ.mp hd
  obtain⟨v1,r,rfl,h1,q⟩:=fU.mp q
  obtain⟨v2,r,rfl,h2,q⟩:=fU.mp q
  cases gJ.mp q
  have h1':Da K H1 (dM m.1) v1:=Dg.mono (λa us h=>SqL.of h.1) (λ_ _ h=>h) h1
  obtain⟨p1,_,rfl,_,_⟩:=hJ.mp h1
  unfold dI at h2
  obtain⟨b,zs,rfl,⟨l1,l2,l3⟩,hz⟩:=jL.mp h2
  rw[kK.mp hz]at l1
  exact⟨m,ad,p1,b,rfl,rfl,ht,h1',l1,l2,l3⟩
def dLI (xss:List (List Int)):PyData:=.list (xss.map dI)
theorem v5 (xss:List (List Int)):OkD (dLI xss):=by
 refine⟨?_,?_⟩
 ·simp only[dLI,PyData.canLay0]
  refine mn _ λd hd=>?_
  obtain⟨m,hm,rfl⟩:=ao.mp hd
  exact(n8 m).1
 ·simp only[dLI,PyData.depth]
  have:=gK (f:=dI) (k:=1) (λm=>by
   simp only[dI,PyData.depth]
   have:=gK (f:=PyData.int) (k:=0) (λ_=>by simp[PyData.depth]) m
   omega) xss
  omega
abbrev Ma:=Mv×Addr×Addr
theorem gi.snoc {l:Int×List (Int×Int)}{ns:List Int}{x:Int}(ok:fk l)(T:gi l ns)(hne:ns≠ [])(hx:x∈fr l ns (oth (ns.getLastD 0))):gi l (ns ++ [x]):=by
 obtain⟨h1,h2⟩:=aO.mp hx
 have h2:¬x/2∈ns.map (· / 2):=by simpa using h2
 refine⟨λe he=>?_,?_,λi a b ha hb=>?_⟩
 ·rcases aI.mp he with z |z
  ·exact T.ends e z
  ·have z:e=x:=by simpa using z
   rw[z];exact wk ok h1
 ·rw[ax,bT]
  refine⟨T.nd,by simp,λa ha b hb=>?_⟩
  have hb:b=x/2:=by simpa using hb
  intro z
  exact h2 (by rw[<-hb,<-z];exact ha)
 ·by_cases hi:i+1<ns.length
  ·rw[ak hi]at hb
   rw[ak (by omega)]at ha
   exact T.ch i a b ha hb
  ·have hlt:i+1<(ns ++ [x]).length:=(af.mp hb).1
   rw[ah,bE]at hlt
   have e1:i+1=ns.length:=by omega
   rw[e1,az (aq _),bV]at hb
   cases hb
   rw[ak (by omega)]at ha
   have e2:ns.getLastD 0=a:=by
    rw[cE,df]
    have:ns.length-1=i:=by omega
    rw[this,ha];rfl
   rw[e2]at h1
   exact h1
theorem JA {K:PySem.W.Frag}{H:Hp}{k:Str×Int}{v:V}(h:Da K H (dM k) v):∃ a,v = .ref a/\SqT K H a [.str k.1,.int k.2]:=by
 unfold dM at h
 obtain⟨a,vs,rfl,ht,q⟩:=hJ.mp h
 obtain⟨v1,r,rfl,h1,q⟩:=fU.mp q
 obtain⟨v2,r,rfl,h2,q⟩:=fU.mp q
 cases gJ.mp q
 cases tU.mp h1
 cases ik.mp h2
 exact⟨a,rfl,ht⟩
abbrev K0 (cs:List Ma):List Mv:=cs.map (·.1)
open TS
def kyI (t:List Int):List Key:=t.map Sum.inl
theorem i8 (t:List Int):(kyI t).map kV=t.map V.int:=by
 unfold kyI;rw[bJ];rfl
theorem pT {a b:List Int}(h:kyI a=kyI b):a=b:=by
 unfold kyI at h
 induction a generalizing b with
 |nil=>cases b with |nil=>rfl |cons y r=>cases h
 |cons x r ih=>
  cases b with
  |nil=>cases h
  |cons y s=>
   rw[aM,aM,List.cons.injEq]at h
   rw[Sum.inl.inj h.1,ih h.2]
abbrev Rows:=List (List Int×Int)
def Ej (l:Ln)(tr s:List Int):Prop:=s.length=tr.length/\s≠ []/\gi l s
def Fu (l:Ln)(tr:List Int)(ss:List (List Int)):Prop:=ss.Nodup/\∀ s∈ss,Ej l tr s
def gk (rows:Rows)(s:List Int):Option Int:=(rows.find? λr=>decide (r.1=s)).map (·.2)
def Ep (l:Ln)(rows:Rows)(r:List Int×Int):Prop:=∀ m∈mvs l r.1,∃ n,gk rows m.2=some n/\n<=r.2+1
def Fv (l:Ln)(tr:List Int)(rows:Rows):Prop:=Fu l tr (rows.map (·.1))/\gk rows tr=some 0/\∀ r∈rows,Ep l rows r
def kvR (rows:Rows):List (List Key×V):=rows.map λr=>(kyI r.1,V.int r.2)
theorem xk (rows:Rows)(s:List Int):ic (kvR rows) (kyI s)=(gk rows s).map V.int:=by
 unfold ic gk kvR
 rw[List.find?_map,Option.map_map,Option.map_map]
 have:((λkv:List Key×V=>decide (kv.1=kyI s)) ∘ λr:List Int×Int=>(kyI r.1,V.int r.2)) = λr=>decide (r.1=s):=by
  funext r
  show decide (kyI r.1=kyI s)=decide (r.1=s)
  by_cases h:r.1=s
  ·rw[aX h,aX (by rw[h])]
  ·rw[aR h,aR λz=>h (pT z)]
 rw[this]
 rfl
theorem kH {rows:Rows}(nd:(rows.map (·.1)).Nodup){r:List Int×Int}(h:r∈rows):gk rows r.1=some r.2:=by
 unfold gk
 induction rows with
 |nil=>cases h
 |cons q qs ih=>
  rw[aM,cg]at nd
  by_cases e:q.1=r.1
  ·rw[List.find?_cons_of_pos (by simpa using e)]
   rcases aJ.mp h with z |z
   ·rw[z];rfl
   ·exact absurd (ao.mpr ⟨r,z,e.symm⟩) nd.1
  ·rw[List.find?_cons_of_neg (by simpa using e)]
   rcases aJ.mp h with z |z
   ·exact absurd (by rw[z]) e
   ·exact ih nd.2 z
theorem i7 {rows:Rows}{s:List Int}{n:Int}(h:gk rows s=some n):(s,n)∈rows:=by
 unfold gk at h
 cases q:rows.find? λr=>decide (r.1=s)with
 |none=>rw[q]at h;cases h
 |some r=>
  rw[q]at h
  have h1:=List.mem_of_find?_eq_some q
  have h2:r.1=s:=by simpa using List.find?_some q
  have h3:r.2=n:=by simpa using h
  rw[<-h2,<-h3];exact h1
theorem qF {rows:Rows}{s:List Int}(h:gk rows s=none):s∉rows.map (·.1):=λz=>by
 obtain⟨r,hr,e⟩:=ao.mp z
 unfold gk at h
 rw[Option.map_eq_none_iff,eE]at h
 exact h r hr (by simpa using e)
theorem vh:∀ (a b:List Int),PyData.eqvAll (a.map PyData.int) (b.map PyData.int)=decide (a=b)
 |[],[]=>by simp[PyData.eqvAll]
 |[],y::b=>by simp[PyData.eqvAll]
 |x::a,[]=>by simp[PyData.eqvAll]
 |x::a,y::b=>by
  rw[aM,aM,PyData.eqvAll,vh a b,cj]
  simp[PyData.eqv]
theorem B6 (a b:List Int):PyData.eqv (dI a) (dI b)=decide (a=b):=by
 unfold dI
 rw[PyData.eqv,vh]
theorem DM (ss:List (List Int))(t:List Int):((ss.map dI).any λz=>PyData.eqv z (dI t))=decide (t∈ss):=by
 rw[List.any_map,cj,eU,cA]
 constructor
 ·rintro⟨y,hy,e⟩
  have e:PyData.eqv (dI y) (dI t)=true:=e
  rw[B6,cA]at e
  exact e ▸ hy
 ·exact λh=>⟨t,h,by show PyData.eqv (dI t) (dI t)=true;rw[B6];exact aX rfl⟩
theorem A3 (ss:List (List Int)):BL (ss.map dI):=by
 have h:=v5 ss
 unfold dLI at h
 refine⟨by have:=h.1;rwa [PyData.canLay0]at this,?_⟩
 have:=h.2
 rw[PyData.depth]at this
 omega
def BP (l:Ln)(tr:List Int)(ss:List (List Int)):Prop:=ss.Nodup/\tr∈ss/\∀ s∈ss,Ej l tr s/\∀ m∈mvs l s,m.2∈ss
def Cv (l:Ln)(tr:List Int)(rows:Rows):Prop:=∀ r∈rows,(r.1=tr->r.2=0)/\∀ q∈rows,q.1∈(mvs l r.1).map (·.2)->q.2<=r.2+1
theorem As {l:Ln}{tr:List Int}{rows:Rows} :Fv l tr rows↔BP l tr (rows.map (·.1))/\Cv l tr rows:=by
 constructor
 ·rintro⟨⟨nd,st⟩,h0,h1⟩
  refine⟨⟨nd,ao.mpr ⟨_,i7 h0,rfl⟩,λs hs=>⟨st s hs,λm hm=>?_⟩⟩,λr hr=>⟨λe=>?_,λq hq hm=>?_⟩⟩
  ·obtain⟨r,hr,rfl⟩:=ao.mp hs
   obtain⟨n,hn,_⟩:=h1 r hr m hm
   exact ao.mpr ⟨_,i7 hn,rfl⟩
  ·have:=kH nd hr
   rw[e,h0]at this
   exact(bx this).symm
  ·obtain⟨m,hm1,hm2⟩:=ao.mp hm
   obtain⟨n,hn,hle⟩:=h1 r hr m hm1
   have:=kH nd hq
   rw[<-hm2,hn]at this
   cases this
   exact hle
 ·rintro⟨⟨nd,ht,st⟩,h1⟩
  obtain⟨r,hr,e⟩:=ao.mp ht
  refine⟨⟨nd,λs hs=>(st s hs).1⟩,?_,λr hr m hm=>?_⟩
  ·have:=kH nd hr
   rw[(h1 r hr).1 e,show r.1=tr from e]at this
   exact this
  ·obtain⟨q,hq,e⟩:=ao.mp ((st r.1 (ao.mpr ⟨r,hr,rfl⟩)).2 m hm)
   have e:q.1=m.2:=e
   exact⟨q.2,by rw[<-e];exact kH nd hq,(h1 r hr).2 q hq (ao.mpr ⟨m,hm,e.symm⟩)⟩
end TL
namespace TL
open PySem TS
section
variable {prog:Program}{w:World}{A:Around}{E:Value->Shared->Prop}{s:Shared}
end
open PyProof.Rows PySem.W
section
variable {prog:Program}{w:World}{A:Around}{E:Value->Shared->Prop}{s:Shared}{it a:Addr}{o:Obj}{es:Array (Int×Value)}{ep:Nat}{t:SetTable}{hs:List Int}{i j:Nat}
end
section
variable {prog:Program}{w:World}{A:Around}{E:Value->Shared->Prop}{s:Shared}{a:Addr}{ep:Nat}{xs:List (Int×Tok)}
end
end TL
namespace TL
open PySem PySem.Spec PyProof.Rows L2 TS
section
variable {X:Cx}{pins:List (Addr×Obj)}{σ:St}{H:Hp}{s:Shared}
end
section
variable {X:Cx}{o e:Expr}{es:List Expr}{to:TE}{t:TA}{name:Str}{apos lI:Pos}{id:String}{r:V->List V->Hp->VK->Prop}
end
end TL
namespace L2
open PySem PySem.Spec PyProof.Rows
section
variable {P:Program}{w:World}{K:PySem.W.Frag}{mg:Str->Option Value}{base:Heap}
end
end L2
namespace TL
open PySem PySem.Spec PyProof.Rows L2 TS
def sY (lo:Int)(n:Nat):List Int:=(List.range n).map λi:Nat=>lo+(i:Int)
theorem uA (lo:Int)(n:Nat):(sY lo n).length=n:=by simp[sY]
theorem uB {lo:Int}{n i:Nat}(h:i<n):(sY lo n)[i]? = some (lo+(i:Int)):=by simp[sY,h]
theorem uz {lo x:Int}{n:Nat} :x∈sY lo n↔lo<=x/\x<lo+n:=by
 unfold sY
 rw[ao]
 constructor
 ·rintro⟨i,hi,rfl⟩
  have:=List.mem_range.mp hi
  omega
 ·rintro⟨h1,h2⟩
  exact⟨(x-lo).toNat,List.mem_range.mpr (by omega),by omega⟩
theorem AS (lo:Int)(n:Nat):(sY lo n).Pairwise (· < ·):=by
 unfold sY
 rw[bS]
 exact cH (λ{a b} h=>by omega) (List.pairwise_lt_range)
section
variable {X:Cx}
theorem yB:kd X (.type "range") (λxs H Q=>∃ j:Int,xs = [.int j]/\∀ p,H p=none->Q (.ref p) (upd H p (.rng 0 j))):=by
 intro pins s σ H xs us Q I r h
 obtain⟨j,rfl,q⟩:=h
 obtain⟨u,rfl,ru⟩:=vals1 r
 obtain⟨t,rfl⟩:=ru
 refine call_range_1 ?_
 exact⟨.ref _,_,I.laid (t':=s.toks+1+1) (o:=.rng 0 j) (λb u e=>aH _ e) (aq _) ⟨_,_,_,ba _ rfl⟩,rfl,q _ I.fresh⟩
end
end TL
namespace TL
open PySem PySem.Spec PyProof.Rows PySem.W
def Bp:Bool->Keyed->Array Keyed->Nat->Nat->Nat->StateT SortSt Sem (Option Nat):=sortPriv% PySem.Builtin.gallop
def Orc (prog:Program)(w:World)(A:Around)(s:Shared)(κ:SortKind)(key:Keyed->Int)(D:Keyed->Prop):Prop:=
 ∀ x y,D x->D y->∀ Q:Bool->Shared->Prop,Q (decide (key x<key y)) s->wpAny (model prog w) A (keyLt' κ x.1 y.1) Q (λ_ _=>False) s
section
variable {prog:Program}{w:World}{A:Around}{E:Value->Shared->Prop}{s:Shared}{κ:SortKind}{key:Keyed->Int}{D:Keyed->Prop}
theorem iY {α:Type}{m:Sem α}{Q:α->SortSt->Prop}{st:SortSt}(h:wpAny (model prog w) A m (λa s'=>s'=s/\Q a st) E s):wpS (model prog w) A E s (liftM m:StateT SortSt Sem α) Q st:=by
 unfold wpS
 show wpAny (model prog w) A ((StateT.lift m:StateT SortSt Sem α).run st) _ E s
 rw[StateT.run_lift]
 exact ai (bR h (λa s' h'=>aB h') λ_ _ e=>e)
theorem qw (O:Orc prog w A s κ key D){x y:Keyed}(hx:D x)(hy:D y){st:SortSt}(hk:kindOf st=κ){Q:Option Bool->SortSt->Prop}(h:Q (some (decide (key x<key y))) st):wpS (model prog w) A E s (lt' x y) Q st:=by
 rw[lt'_eq]
 refine ay (wpS_get ?_)
 rw[hk]
 refine ay (iY (wpAny_attempt (bR (O x y hx hy (λb s'=>s'=s/\b=decide (key x<key y)) ⟨rfl,rfl⟩) (λc s' hc=>⟨hc.1,?_⟩) λ_ _ hF=>hF.elim)))
 rw[hc.2]
 exact aF h
theorem fZ {arr:Array Keyed}{i:Nat}{x:Keyed}(h:arr[i]? = some x){st:SortSt}{Q:Keyed->SortSt->Prop}(hq:Q x st):wpS (model prog w) A E s (elem' arr i) Q st:=by
 rw[elem'_eq,h]
 exact aF hq
def Ka (key:Keyed->Int)(arr:Array Keyed)(i:Nat):Int:=key (arr.getD i (Value.none,Value.none))
theorem gT {arr:Array Keyed}{i:Nat}{x:Keyed}(h:arr[i]? = some x):Ka key arr i=key x:=by
 unfold Ka
 rw[bq,h];rfl
theorem gg {arr:Array Keyed}{i:Nat}(h:i<arr.size):∃ x,arr[i]? = some x:=⟨_,aZ h⟩
def Bey (key:Keyed->Int)(left:Bool)(k:Keyed)(arr:Array Keyed)(base i:Nat):Bool:=if left=true then decide (Ka key arr (base+i)<key k)else !(decide (key k<Ka key arr (base+i)))
theorem yC (O:Orc prog w A s κ key D){left:Bool}{k:Keyed}(hkD:D k){arr:Array Keyed}(hA:∀ (i:Nat) x,arr[i]? = some x->D x){j:Nat}(hj:j<arr.size){base i:Nat}(e:j=base+i){st:SortSt}(hk:kindOf st=κ){Q:Option Bool->SortSt->Prop}(h:Q (some (Bey key left k arr base i)) st):
  wpS (model prog w) A E s (do let x <-elem' arr j;if left=true then lt' x k else do let r <-lt' k x;pure (r.map (!·)):StateT SortSt Sem (Option Bool)) Q st:=by
 obtain⟨x,hx⟩:=gg hj
 have hK:=gT (key:=key) hx
 refine ay (fZ hx ?_)
 unfold Bey at h
 rw[<-e,hK]at h
 cases left with
 |true=>
  rw[aD rfl]at h ⊢
  exact qw O (hA _ _ hx) hkD hk h
 |false=>
  rw[au (by decide)]at h ⊢
  exact ay (qw O hkD (hA _ _ hx) hk (aF h))
def Cut (P:Nat->Bool)(n k:Nat):Prop:=k<=n/\(∀ i,i<k->P i=true)/\∀ i,k<=i->i<n->P i=false
theorem jT (O:Orc prog w A s κ key D){left:Bool}{k:Keyed}(hkD:D k){arr:Array Keyed}(hA:∀ (i:Nat) x,arr[i]? = some x->D x){base n hint:Nat}(hn:base+n<=arr.size)(hh:hint<n)
  (mono:∀ i j,i<=j->j<n->Bey key left k arr base j=true->Bey key left k arr base i=true) {st:SortSt} (hk:kindOf st=κ) {Q:Option Nat->SortSt->Prop} (h:∀ m,Cut (Bey key left k arr base) n m->Q (some m) st):
  wpS (model prog w) A E s (Bp left k arr base n hint) Q st:=by
 have B:∀ i,i<n->∀ R:Option Bool->SortSt->Prop,R (some (Bey key left k arr base i)) st->wpS (model prog w) A E s (do let x <-elem' arr (base+i);if left=true then lt' x k else do let r <-lt' k x;pure (r.map (!·)):StateT SortSt Sem (Option Bool)) R st:=λi hi R hR=>yC O hkD hA (by omega) rfl hk hR
 generalize Bey key left k arr base=P at *
 have DO:∀ i j,i<=j->j<n->P i=false->P j=false:=λi j h1 h2 h3=>by
  cases q:P j with
  |false=>rfl
  |true=>rw[mono i j h1 h2 q]at h3;cases h3
 refine ay (B hint hh _ ?_)
 dsimp only
 cases hr:P hint
 case' true=>
  rw[aD rfl]
  refine ay (cO (bQ (I:=λx c st'=>st=st'/\∃ l o,c=(none,l,o)/\l<o/\hint+l<n/\P (hint+l)=true/\x+1<=o)
   (Q:=λc st'=>st=st'/\∃ l o,c=(none,l,o)/\l<o/\hint+l<n/\P (hint+l)=true/\(n-hint<=o\/(hint+o<n/\P (hint+o)=false))) ?_ ?_ ⟨rfl,0,1,rfl,by omega,by omega,hr,by omega⟩) ?_)
  ·rintro x c st' _ hx ⟨rfl,l,o,rfl,h1,h2,h3,h4⟩
   dsimp only
   by_cases g:o≥n-hint
   ·rw[aD g];exact aF ⟨rfl,l,o,rfl,h1,h2,h3,.inl g⟩
   ·rw[au g]
    refine ay (B (hint+o) (by omega) _ ?_)
    cases q:P (hint+o)with
    |false=>exact aF ⟨rfl,l,o,rfl,h1,h2,h3,.inr ⟨by omega,q⟩⟩
    |true=>exact aF ⟨rfl,o,2*o+1,rfl,by omega,by omega,q,by omega⟩
  ·rintro c st' ⟨rfl,l,o,rfl,h1,h2,h3,h4⟩
   exact⟨rfl,l,o,rfl,h1,h2,h3,.inl (by omega)⟩
  rintro c st' ⟨rfl,l,o,rfl,h1,h2,h3,h4⟩
  dsimp only
  have a1:hint+l+1<=hint+min o (n-hint):=by omega
  have a2:hint+min o (n-hint)<=n:=by omega
  have a3:∀ i,i<hint+l+1->P i=true:=λi hi=>mono i (hint+l) (by omega) h2 h3
  have a4:∀ i,hint+min o (n-hint)<=i->i<n->P i=false:=λi hi hn=>by
   rcases h4 with g |⟨g,g'⟩
   ·omega
   ·exact DO (hint+o) i (by omega) hn g'
  clear h4
  generalize hint+l+1=lo at a1 a3 ⊢
  generalize hint+min o (n-hint)=hi at a1 a2 a4 ⊢
  clear h1 h2 h3 hr
 case' false=>
  rw[au (by decide)]
  refine ay (cO (bQ (I:=λx c st'=>st=st'/\∃ l o,c=(none,l,o)/\l<o/\l<=hint/\P (hint-l)=false/\x+1<=o)
   (Q:=λc st'=>st=st'/\∃ l o,c=(none,l,o)/\l<o/\l<=hint/\P (hint-l)=false/\(hint+1<=o\/(o<=hint/\P (hint-o)=true))) ?_ ?_ ⟨rfl,0,1,rfl,by omega,by omega,hr,by omega⟩) ?_)
  ·rintro x c st' _ hx ⟨rfl,l,o,rfl,h1,h2,h3,h4⟩
   dsimp only
   by_cases g:o≥hint+1
   ·rw[aD g];exact aF ⟨rfl,l,o,rfl,h1,h2,h3,.inl g⟩
   ·rw[au g]
    refine ay (B (hint-o) (by omega) _ ?_)
    cases q:P (hint-o)with
    |true=>exact aF ⟨rfl,l,o,rfl,h1,h2,h3,.inr ⟨by omega,q⟩⟩
    |false=>exact aF ⟨rfl,o,2*o+1,rfl,by omega,by omega,q,by omega⟩
  ·rintro c st' ⟨rfl,l,o,rfl,h1,h2,h3,h4⟩
   exact⟨rfl,l,o,rfl,h1,h2,h3,.inl (by omega)⟩
  rintro c st' ⟨rfl,l,o,rfl,h1,h2,h3,h4⟩
  dsimp only
  have a1:hint+1-min o (hint+1)<=hint-l:=by omega
  have a2:hint-l<=n:=by omega
  have a3:∀ i,i<hint+1-min o (hint+1)->P i=true:=λi hi=>by
   rcases h4 with g |⟨g,g'⟩
   ·omega
   ·exact mono i (hint-o) (by omega) (by omega) g'
  have a4:∀ i,hint-l<=i->i<n->P i=false:=λi hi hn=>DO (hint-l) i (by omega) hn h3
  clear h4
  generalize hint+1-min o (hint+1)=lo at a1 a3 ⊢
  generalize hint-l=hi at a1 a2 a4 ⊢
  clear h1 h2 h3 hr
 all_goals
  refine ay (cO (bQ (I:=λx c st'=>st=st'/\∃ lo hi,c=(none,lo,hi)/\lo<=hi/\hi<=n/\(∀ i,i<lo->P i=true)/\(∀ i,hi<=i->i<n->P i=false)/\hi+x<=n+lo)
   (Q:=λc st'=>st=st'/\∃ lo hi,c=(none,lo,hi)/\Cut P n hi) ?_ ?_ ⟨rfl,lo,hi,rfl,a1,a2,a3,a4,by omega⟩) ?_)
  ·rintro x c st' _ hx ⟨rfl,lo,hi,rfl,h1,h2,h3,h4,h5⟩
   dsimp only
   by_cases g:lo≥hi
   ·rw[aD g];exact aF ⟨rfl,lo,hi,rfl,h2,λi hi=>h3 i (by omega),h4⟩
   ·rw[au g]
    refine ay (B (lo+(hi-lo)/2) (by omega) _ ?_)
    cases q:P (lo+(hi-lo)/2)with
    |true=>exact aF ⟨rfl,_,hi,rfl,by omega,h2,λi hi'=>mono i _ (by omega) (by omega) q,h4,by omega⟩
    |false=>exact aF ⟨rfl,lo,_,rfl,by omega,by omega,h3,λi h1' h2'=>DO _ i h1' h2' q,by omega⟩
  ·rintro c st' ⟨rfl,lo,hi,rfl,h1,h2,h3,h4,h5⟩
   exact⟨rfl,lo,hi,rfl,h2,λi hi=>h3 i (by omega),h4⟩
  rintro c st' ⟨rfl,lo,hi,rfl,hc⟩
  exact aF (h hi hc)
end
def zJ:Array Keyed->Array Keyed->StateT SortSt Sem (Array Keyed):=sortPriv% PySem.Builtin.mergeLo
def zK:Array Keyed->Array Keyed->StateT SortSt Sem (Array Keyed):=sortPriv% PySem.Builtin.mergeHi
section
variable {key:Keyed->Int}{a b out:List Keyed}{ia ib:Nat}
def iG (key:Keyed->Int)(l:List Keyed):Prop:=l.Pairwise λx y=>key x<=key y
structure ML (key:Keyed->Int)(a b out:List Keyed)(ia ib:Nat):Prop where
 srt:iG key out
 le:∀ x∈out,∀ y,y∈a.drop ia\/y∈b.drop ib->key x<=key y
 perm:(out++(a.drop ia++b.drop ib)).Perm (a++b)
def Mgd (key:Keyed->Int)(a b r:List Keyed):Prop:=iG key r/\r.Perm (a++b)
theorem lE {l:List Keyed}{i:Nat}{x:Keyed}(h:l[i]? = some x):l.drop i=x::l.drop (i+1):=by
 obtain⟨h1,h2⟩:=af.mp h
 rw[cm h1,h2]
theorem jv {l:List Keyed}(h:iG key l)(i:Nat):iG key (l.drop i):=h.sublist (List.drop_sublist _ _)
theorem ML.pf (m:ML key a b out ia ib)(sb:iG key b){y:Keyed}(h:b[ib]? = some y)(g:∀ x∈a.drop ia,key y<=key x):ML key a b (out ++ [y]) ia (ib+1):=by
 have e:=lE h
 have s2:=jv sb ib
 rw[e]at s2
 have m2:=m.le
 have m3:=m.perm
 rw[e]at m2 m3
 refine⟨bj.mpr ⟨m.srt,cK _ _,λx hx z hz=>?_⟩,λx hx z hz=>?_,?_⟩
 ·rw[aQ.mp hz];exact m2 x hx y (.inr ar)
 ·rcases aI.mp hx with hx |hx
  ·exact m2 x hx z (hz.imp_right λq=>aC _ q)
  ·rw[aQ.mp hx]
   rcases hz with q |q
   ·exact g z q
   ·exact(bM.mp s2).1 z q
 ·refine List.Perm.trans ?_ m3
  rw[aN]
  refine dN out ?_
  exact(List.perm_middle (a:=y) (l₁:=a.drop ia) (l₂:=b.drop (ib+1))).symm
theorem ML.ph (m:ML key a b out ia ib)(sa:iG key a){y:Keyed}(h:a[ia]? = some y)(g:∀ x∈b.drop ib,key y<=key x):ML key a b (out ++ [y]) (ia+1) ib:=by
 have e:=lE h
 have s2:=jv sa ia
 rw[e]at s2
 have m2:=m.le
 have m3:=m.perm
 rw[e]at m2 m3
 refine⟨bj.mpr ⟨m.srt,cK _ _,λx hx z hz=>?_⟩,λx hx z hz=>?_,?_⟩
 ·rw[aQ.mp hz];exact m2 x hx y (.inl ar)
 ·rcases aI.mp hx with hx |hx
  ·exact m2 x hx z (hz.imp_left λq=>aC _ q)
  ·rw[aQ.mp hx]
   rcases hz with q |q
   ·exact(bM.mp s2).1 z q
   ·exact g z q
 ·rw[aN];exact m3
theorem ML.qS (sa:iG key a):∀ (k:Nat) {out:List Keyed}{ia:Nat},ML key a b out ia ib->ia+k<=a.length->(∀ i y,ia<=i->i<ia+k->a[i]? = some y->∀ x∈b.drop ib,key y<=key x)->ML key a b (out++(a.drop ia).take k) (ia+k) ib
 | 0,out,ia,m,_,_=>by rw[List.take_zero,bX];exact m
 |k+1,out,ia,m,hk,g=>by
  have h:a[ia]? = some a[ia]:=ae (by omega)
  have m2:=m.ph sa h (g ia _ (aq _) (by omega) h)
  have m3:=ML.qS sa k m2 (by omega) λi y h1 h2=>g i y (by omega) (by omega)
  rw[lE h,dg]
  rw[aN]at m3
  rw[show ia+(k+1)=ia+1+k by omega]
  exact m3
theorem ML.qR (sb:iG key b):∀ (k:Nat) {out:List Keyed}{ib:Nat},ML key a b out ia ib->ib+k<=b.length->(∀ i y,ib<=i->i<ib+k->b[i]? = some y->∀ x∈a.drop ia,key y<=key x)->ML key a b (out++(b.drop ib).take k) ia (ib+k)
 | 0,out,ib,m,_,_=>by rw[List.take_zero,bX];exact m
 |k+1,out,ib,m,hk,g=>by
  have h:b[ib]? = some b[ib]:=ae (by omega)
  have m2:=m.pf sb h (g ib _ (aq _) (by omega) h)
  have m3:=ML.qR sb k m2 (by omega) λi y h1 h2=>g i y (by omega) (by omega)
  rw[lE h,dg]
  rw[aN]at m3
  rw[show ib+(k+1)=ib+1+k by omega]
  exact m3
theorem ML.done (m:ML key a b out ia ib)(sa:iG key a)(sb:iG key b)(h:∀ x∈a.drop ia,∀ y∈b.drop ib,key x<=key y):Mgd key a b (out++a.drop ia++b.drop ib):=by
 refine⟨?_,by rw[aN];exact m.perm⟩
 rw[aN]
 exact bj.mpr ⟨m.srt,bj.mpr ⟨jv sa _,jv sb _,h⟩,λx hx y hy=>m.le x hx y (aI.mp hy)⟩
theorem ML.Fj (m:ML key a b out ia ib)(sa:iG key a)(sb:iG key b)(h:∀ x∈a.drop ia,∀ y∈b.drop ib,key y<=key x):Mgd key a b (out++b.drop ib++a.drop ia):=by
 refine⟨?_,List.Perm.trans ?_ m.perm⟩
 ·rw[aN]
  exact bj.mpr ⟨m.srt,bj.mpr ⟨jv sb _,jv sa _,λx hx y hy=>h y hy x hx⟩,λx hx y hy=>m.le x hx y (aI.mp hy).symm⟩
 ·rw[aN];exact dN out dH
end
section
variable {prog:Program}{w:World}{A:Around}{E:Value->Shared->Prop}{s:Shared}{κ:SortKind}{key:Keyed->Int}{D:Keyed->Prop}
def SmS (st st':SortSt):Prop:=kindOf st'=kindOf st/\arrOf st'=arrOf st/\pendingOf st'=pendingOf st/\failedOf st'=failedOf st
theorem SmS.gal {st st':SortSt}(h:SmS st st')(g:Nat):SmS st (SortSt.mk' (kindOf st') (arrOf st') (pendingOf st') g (failedOf st')):=h
theorem fz {α:Type}{c:Prop} [Decidable c] {x y:StateT SortSt Sem α}{Q:α->SortSt->Prop}{st:SortSt}(h1:c->wpS (model prog w) A E s x Q st)(h2:¬c->wpS (model prog w) A E s y Q st):wpS (model prog w) A E s (if c then x else y) Q st:=by
 by_cases h:c
 ·rw[aD h];exact h1 h
 ·rw[au h];exact h2 h
def wZ:Nat->StateT SortSt Sem Unit:=sortPriv% PySem.Builtin.setMinGallop
theorem xP {g:Nat}{Q:Unit->SortSt->Prop}{st:SortSt}(h:Q () (SortSt.mk' (kindOf st) (arrOf st) (pendingOf st) g (failedOf st))):wpS (model prog w) A E s (wZ g) Q st:=wpS_modify h
theorem mJ {g:Nat}{Q:Unit->SortSt->Prop}{st0 st:SortSt}(S:SmS st0 st)(h:∀ st',SmS st0 st'->Q () st'):wpS (model prog w) A E s (wZ g) Q st:=xP (h _ (S.gal g))
theorem kM {left:Bool}{k:Keyed}{arr:Array Keyed}{base n:Nat}(h:∀ i j,i<=j->j<n->Ka key arr (base+i)<=Ka key arr (base+j)):∀ i j,i<=j->j<n->Bey key left k arr base j=true->Bey key left k arr base i=true:=by
 intro i j hij hj hb
 have:=h i j hij hj
 unfold Bey at hb ⊢
 cases left with
 |true=>
  rw[aD rfl]at hb ⊢
  have hb:Ka key arr (base+j)<key k:=by simpa using hb
  exact aX (by omega)
 |false=>
  rw[au (by decide)]at hb ⊢
  have hb:¬key k<Ka key arr (base+j):=by simpa using hb
  rw[aR (by omega)];rfl
theorem oW {k:Keyed}{arr:Array Keyed}{base i:Nat} :(Bey key false k arr base i=true) = ¬(key k<Ka key arr (base+i)):=by
 unfold Bey;rw[au (by decide)];simp
theorem lG {k:Keyed}{arr:Array Keyed}{base i:Nat} :(Bey key false k arr base i=false)=(key k<Ka key arr (base+i)):=by
 unfold Bey;rw[au (by decide)];simp
theorem qX {k:Keyed}{arr:Array Keyed}{base i:Nat} :(Bey key true k arr base i=true)=(Ka key arr (base+i)<key k):=by
 unfold Bey;rw[aD rfl];simp
theorem mZ {k:Keyed}{arr:Array Keyed}{base i:Nat} :(Bey key true k arr base i=false) = ¬(Ka key arr (base+i)<key k):=by
 unfold Bey;rw[aD rfl];simp
theorem pU {arr:Array Keyed}(h:iG key arr.toList){i j:Nat}(hij:i<=j)(hj:j<arr.size):Ka key arr i<=Ka key arr j:=by
 by_cases e:i=j
 ·rw[e];exact cV _
 ·obtain⟨x,hx⟩:=gg (show i<arr.size by omega)
  obtain⟨y,hy⟩:=gg hj
  rw[gT hx,gT hy]
  have h2:=ck.mp h i j (by rw[aw];omega) (by rw[aw];omega) (by omega)
  rw[Array.getElem?_eq_some_iff]at hx hy
  obtain⟨_,rfl⟩:=hx
  obtain⟨_,rfl⟩:=hy
  exact h2
theorem wa (O:Orc prog w A s κ key D){a b:Array Keyed}(hA:∀ (i:Nat) x,a[i]? = some x->D x)(hB:∀ (i:Nat) x,b[i]? = some x->D x)(sa:iG key a.toList)(sb:iG key b.toList)(na:1<=a.size)(nb:1<=b.size)
  (h0:∀ x∈a.toList,∀ y,b[0]? = some y->key y<=key x) (hl:∀ y∈b.toList,∀ x,a[a.size-1]? = some x->key y<=key x) {st:SortSt} (hk:kindOf st=κ) {Q:Array Keyed->SortSt->Prop} (h:∀ r st',Mgd key a.toList b.toList r.toList->SmS st st'->Q r st'):
  wpS (model prog w) A E s (zJ a b) Q st:=by
 obtain⟨y0,hy0⟩:=gg (show 0<b.size from nb)
 have la:a.toList.length=a.size:=aw
 have lb:b.toList.length=b.size:=aw
 have ga:∀ {i:Nat}{x:Keyed},a[i]? = some x->a.toList[i]? = some x:=λh=>by rw[aA];exact h
 have gb:∀ {i:Nat}{x:Keyed},b[i]? = some x->b.toList[i]? = some x:=λh=>by rw[aA];exact h
 have dA:∀ {i:Nat}{x:Keyed},a[i]? = some x->∀ z∈a.toList.drop i,key x<=key z:=λ{i x} hx z hz=>by
  have e:=lE (ga hx)
  have s2:=jv sa i
  rw[e]at s2 hz
  rcases aJ.mp hz with rfl |q
  ·exact cV _
  ·exact(bM.mp s2).1 z q
 have dB:∀ {i:Nat}{x:Keyed},b[i]? = some x->∀ z∈b.toList.drop i,key x<=key z:=λ{i x} hx z hz=>by
  have e:=lE (gb hx)
  have s2:=jv sb i
  rw[e]at s2 hz
  rcases aJ.mp hz with rfl |q
  ·exact cV _
  ·exact(bM.mp s2).1 z q
 have m0:ML key a.toList b.toList #[y0].toList 0 1:=by
  refine(show ML key a.toList b.toList ([] ++ [y0]) 0 (0+1) from ML.pf ⟨List.Pairwise.nil,λx hx=>(by cases hx),List.Perm.refl _⟩ sb (gb hy0) λx hx=>h0 x (by simpa using hx) y0 hy0)
 have fB:∀ {out:Array Keyed}{ia ib:Nat},ML key a.toList b.toList out.toList ia ib->ib=b.size->Mgd key a.toList b.toList (out++a.extract ia a.size++b.extract ib b.size).toList:=λ{out ia ib} m e=>by
  have eb:b.toList.drop ib = []:=cy (by omega)
  have:=m.done sa sb (λx _ y hy=>by rw[eb]at hy;cases hy)
  rw[eb]at this
  subst e
  simpa [bB,br]using this
 have fA:∀ {out:Array Keyed}{ia ib:Nat},ML key a.toList b.toList out.toList ia ib->ia=a.size->Mgd key a.toList b.toList (out++a.extract ia a.size++b.extract ib b.size).toList:=λ{out ia ib} m e=>by
  have ea:a.toList.drop ia = []:=cy (by omega)
  have:=m.done sa sb (λx hx=>by rw[ea]at hx;cases hx)
  rw[ea]at this
  subst e
  simpa [bB,br]using this
 have fL:∀ {out:Array Keyed}{ia ib:Nat},ML key a.toList b.toList out.toList ia ib->ia+1=a.size->Mgd key a.toList b.toList (out++b.extract ib b.size++a.extract ia a.size).toList:=λ{out ia ib} m e=>by
  obtain⟨z,hz⟩:=gg (show ia<a.size by omega)
  have ea:a.toList.drop ia = [z]:=by rw[lE (ga hz),cy (by omega)]
  have:=m.Fj sa sb (λx hx y hy=>by
   rw[ea]at hx
   rw[aQ.mp hx]
   exact hl y (List.mem_of_mem_drop hy) z (by rw[show a.size-1=ia by omega];exact hz))
  simpa [bB,br]using this
 refine ay (iY (eR ⟨rfl,?_⟩))
 refine ay (fZ hy0 ?_)
 dsimp only
 by_cases e1:1=b.size
 ·rw[aD (by simpa using e1)]
  exact aF (h _ _ (fB m0 e1) ⟨rfl,rfl,rfl,rfl⟩)
 rw[au (by simpa using e1)]
 by_cases e2:0+1=a.size
 ·rw[aD (by simpa using e2)]
  exact aF (h _ _ (fL m0 e2) ⟨rfl,rfl,rfl,rfl⟩)
 rw[au (by simpa using e2)]
 refine ay (wpS_get ?_)
 refine ay (cO (bQ (I:=λx c st'=>SmS st st'/\∃ out ia ib g,c=(none,out,ia,ib,g)/\ML key a.toList b.toList out.toList ia ib/\ia+1<a.size/\ib<b.size/\x+1<=ia+ib)
  (Q:=λc st'=>SmS st st'/\∃ r out ia ib g,c=(some r,out,ia,ib,g)/\Mgd key a.toList b.toList r.toList) ?_ ?_ ⟨⟨rfl,rfl,rfl,rfl⟩,_,0,1,_,rfl,m0,by omega,by omega,by omega⟩) ?_)
 ·rintro x c st1 _ hx ⟨S1,out,ia,ib,g,rfl,m,i1,i2,i3⟩
  dsimp only
  refine ay (cO (bQ (I:=λy c st'=>SmS st st'/\∃ out ia' ib' ac bc,c=(none,out,ia',ib',ac,bc)/\ML key a.toList b.toList out.toList ia' ib'/\ia'+1<a.size/\ib'<b.size/\ia+ib+y=ia'+ib')
   (Q:=λc st'=>SmS st st'/\∃ o out ia' ib' ac bc,c=(o,out,ia',ib',ac,bc)/\((∃ r,o=some r/\Mgd key a.toList b.toList r.toList)\/(o=none/\ML key a.toList b.toList out.toList ia' ib'/\ia'+1<a.size/\ib'<b.size/\ia+ib+1<=ia'+ib'))) ?_ ?_ ⟨S1,_,_,_,_,_,rfl,m,i1,i2,rfl⟩) ?_)
  ·clear m i1 i2 S1
   rintro y c st2 _ hy ⟨S2,out,ia',ib',ac,bc,rfl,m,i1,i2,i3⟩
   dsimp only
   obtain⟨u,hu⟩:=gg i2
   obtain⟨v,hv⟩:=gg (show ia'<a.size by omega)
   refine ay (fZ hu (ay (fZ hv (ay (qw O (hB _ _ hu) (hA _ _ hv) (S2.1.trans hk) ?_)))))
   dsimp only
   by_cases q:key u<key v
   ·rw[aD (by simpa using q)]
    refine ay (fZ hu ?_)
    have m2:ML key a.toList b.toList (out.push u).toList ia' (ib'+1):=by
     rw[cc]
     exact m.pf sb (gb hu) λz hz=>by have:=dA hv z hz;omega
    refine fz (λe=>?_) (λe=>?_)
    ·exact aF ⟨S2,_,_,_,_,_,_,rfl,.inl ⟨_,rfl,fB m2 (by simpa using e)⟩⟩
    ·have e:ib'+1≠b.size:=by simpa using e
     refine fz (λ_=>?_) (λ_=>?_)
     ·exact aF ⟨S2,_,_,_,_,_,_,rfl,.inr ⟨rfl,m2,i1,by omega,by omega⟩⟩
     ·exact aF ⟨S2,_,_,_,_,_,rfl,m2,i1,by omega,by omega⟩
   ·rw[au (by simpa using q)]
    refine ay (fZ hv ?_)
    have m2:ML key a.toList b.toList (out.push v).toList (ia'+1) ib':=by
     rw[cc]
     exact m.ph sa (ga hv) λz hz=>by have:=dB hu z hz;omega
    refine fz (λe=>?_) (λe=>?_)
    ·exact aF ⟨S2,_,_,_,_,_,_,rfl,.inl ⟨_,rfl,fL m2 (by simpa using e)⟩⟩
    ·have e:ia'+1+1≠a.size:=by simpa using e
     refine fz (λ_=>?_) (λ_=>?_)
     ·exact aF ⟨S2,_,_,_,_,_,_,rfl,.inr ⟨rfl,m2,by omega,i2,by omega⟩⟩
     ·exact aF ⟨S2,_,_,_,_,_,rfl,m2,by omega,i2,by omega⟩
  ·rintro c st2 ⟨S2,out,ia',ib',ac,bc,rfl,m,i1,i2,i3⟩
   omega
  clear m i1 i2 S1
  rintro c st2 ⟨S2,o,out,ia',ib',ac,bc,rfl,z⟩
  dsimp only
  rcases z with⟨r,rfl,z⟩|⟨rfl,m,i1,i2,i4⟩
  ·exact aF ⟨S2,_,_,_,_,_,rfl,z⟩
  dsimp only
  refine ay (iY (eR ⟨rfl,?_⟩))
  refine ay (cO (bQ (I:=λy c st'=>SmS st st'/\∃ out ja jb g ac bc,c=(none,out,ja,jb,g,ac,bc)/\ML key a.toList b.toList out.toList ja jb/\ja+1<a.size/\jb<b.size/\ia'+ib'<=ja+jb)
   (Q:=λc st'=>SmS st st'/\∃ o out ja jb g ac bc,c=(o,out,ja,jb,g,ac,bc)/\((∃ r,o=some r/\Mgd key a.toList b.toList r.toList)\/(o=none/\ML key a.toList b.toList out.toList ja jb/\ja+1<a.size/\jb<b.size/\ia'+ib'<=ja+jb))) ?_ ?_ ⟨S2,_,_,_,_,_,_,rfl,m,i1,i2,aq _⟩) ?_)
  ·clear m i1 i2 S2
   rintro y c st3 _ hy ⟨S3,out,ja,jb,g,ac,bc,rfl,m,i1,i2,i5⟩
   dsimp only
   obtain⟨u,hu⟩:=gg i2
   refine fz (λ_=>?_) (λ_=>?_)
   all_goals
    refine ay (mJ S3 λst4 S3=>?_)
    refine ay (fZ hu ?_)
    refine ay (jT O (base:=ja) (n:=a.size-ja) (hint:=0) (hB _ _ hu) hA (by omega) (by omega) (kM λi j h1 h2=>pU sa (by omega) (by omega)) (S3.1.trans hk) λk C=>?_)
    obtain⟨C0,C1,C2⟩:=C
    dsimp only
    apply fz
    case' h1=>
     intro g1
     have m2:ML key a.toList b.toList (out++a.extract ja (ja+k)).toList (ja+k) jb:=by
      have:=m.qS sa k (by omega) λi y' h1 h2 hy' x hx=>by
       have:=C1 (i-ja) (by omega)
       have e:=gT (key:=key) (show a[ja+(i-ja)]? = some y' by rw[show ja+(i-ja)=i by omega,<-aA];exact hy')
       rw[oW,e]at this
       have:=dB hu x hx
       omega
      simpa [bB,br]using this
     refine fz (λg2=>aF ⟨S3,_,_,_,_,_,_,_,rfl,.inl ⟨_,rfl,fL m2 (by simpa using g2)⟩⟩) (λg2=>?_)
     have g2:ja+k+1≠a.size:=by simpa using g2
     refine fz (λg3=>aF ⟨S3,_,_,_,_,_,_,_,rfl,.inl ⟨_,rfl,fA m2 (by simpa using g3)⟩⟩) (λg3=>?_)
     have g3:ja+k≠a.size:=by simpa using g3
     have j1:ja+k+1<a.size:=by omega
     obtain⟨v,hv⟩:=gg (show ja+k<a.size by omega)
     have uv:key u<key v:=by
      have:=C2 k (aq _) (by omega)
      rw[lG,gT (key:=key) hv]at this
      exact this
     have j2:ia'+ib'<=ja+k+jb:=by omega
     generalize out++a.extract ja (ja+k)=qv at m2 ⊢
     generalize ja+k=ja' at m2 j1 hv j2 ⊢
    case' h2=>
     intro g1
     have m2:ML key a.toList b.toList out.toList ja jb:=m
     have j1:ja+1<a.size:=i1
     obtain⟨v,hv⟩:=gg (show ja<a.size by omega)
     have uv:key u<key v:=by
      have:=C2 0 (by omega) (by omega)
      rw[lG,en,gT (key:=key) hv]at this
      exact this
     have j2:=i5
     generalize out=qv at m2 ⊢
     generalize ja=ja' at m2 j1 hv j2 ⊢
    all_goals
     refine ay (fZ hu ?_)
     have m3:ML key a.toList b.toList (qv.push u).toList ja' (jb+1):=by
      rw[cc]
      exact m2.pf sb (gb hu) λz hz=>by have:=dA hv z hz;omega
     refine fz (λg4=>aF ⟨S3,_,_,_,_,_,_,_,rfl,.inl ⟨_,rfl,fB m3 (by simpa using g4)⟩⟩) (λg4=>?_)
     have g4:jb+1≠b.size:=by simpa using g4
     refine ay (fZ hv ?_)
     refine ay (jT O (base:=jb+1) (n:=b.size-(jb+1)) (hint:=0) (hA _ _ hv) hB (by omega) (by omega) (kM λi j h1 h2=>pU sb (by omega) (by omega)) (S3.1.trans hk) λk2 C=>?_)
     obtain⟨B0,B1,B2⟩:=C
     dsimp only
     apply fz
     case' h1=>
      intro g5
      have m4:ML key a.toList b.toList (qv.push u++b.extract (jb+1) (jb+1+k2)).toList ja' (jb+1+k2):=by
       have:=m3.qR sb k2 (by omega) λi y' h1 h2 hy' x hx=>by
        have:=B1 (i-(jb+1)) (by omega)
        have e:=gT (key:=key) (show b[jb+1+(i-(jb+1))]? = some y' by rw[show jb+1+(i-(jb+1))=i by omega,<-aA];exact hy')
        rw[qX,e]at this
        have:=dA hv x hx
        omega
       simpa [bB,br]using this
      refine fz (λg6=>aF ⟨S3,_,_,_,_,_,_,_,rfl,.inl ⟨_,rfl,fB m4 (by simpa using g6)⟩⟩) (λg6=>?_)
      have g6:jb+1+k2≠b.size:=by simpa using g6
      have j3:jb+1+k2<b.size:=by omega
      have vb:∀ z∈b.toList.drop (jb+1+k2),key v<=key z:=λz hz=>by
       obtain⟨t,ht⟩:=gg j3
       have:=B2 k2 (aq _) (by omega)
       rw[mZ,gT (key:=key) ht]at this
       have:=dB ht z hz
       omega
      have j4:ia'+ib'<=ja'+(jb+1+k2):=by omega
      generalize qv.push u++b.extract (jb+1) (jb+1+k2)=zw at m4 ⊢
      generalize jb+1+k2=jb' at m4 j3 vb j4 ⊢
     case' h2=>
      intro g5
      have m4:=m3
      have j3:jb+1<b.size:=by omega
      have vb:∀ z∈b.toList.drop (jb+1),key v<=key z:=λz hz=>by
       obtain⟨t,ht⟩:=gg j3
       have:=B2 0 (by omega) (by omega)
       rw[mZ,en,gT (key:=key) ht]at this
       have:=dB ht z hz
       omega
      have j4:ia'+ib'<=ja'+(jb+1):=by omega
      generalize qv.push u=zw at m4 ⊢
      generalize jb+1=jb' at m4 j3 vb j4 ⊢
     all_goals
      refine ay (fZ hv ?_)
      have m5:ML key a.toList b.toList (zw.push v).toList (ja'+1) jb':=by
       rw[cc]
       exact m4.ph sa (ga hv) vb
      refine fz (λg7=>aF ⟨S3,_,_,_,_,_,_,_,rfl,.inl ⟨_,rfl,fL m5 (by simpa using g7)⟩⟩) (λg7=>?_)
      have g7:ja'+1+1≠a.size:=by simpa using g7
      refine fz (λ_=>?_) (λ_=>?_)
      ·exact aF ⟨S3,_,_,_,_,_,_,_,rfl,.inr ⟨rfl,m5,by omega,j3,by omega⟩⟩
      ·exact aF ⟨S3,_,_,_,_,_,_,rfl,m5,by omega,j3,by omega⟩
  ·rintro c st3 ⟨S3,out,ja,jb,g,ac,bc,rfl,m,i1,i2,i5⟩
   exact⟨S3,_,_,_,_,_,_,_,rfl,.inr ⟨rfl,m,i1,i2,i5⟩⟩
  rintro c st3 ⟨S3,o,out,ja,jb,g,ac,bc,rfl,z⟩
  rcases z with⟨r,rfl,z⟩|⟨rfl,m,i1,i2,i5⟩
  ·exact aF ⟨S3,_,_,_,_,_,rfl,z⟩
  ·exact ay (mJ S3 λst4 S3=>aF ⟨S3,_,_,_,_,rfl,m,i1,i2,(by show x+1+1<=ja+jb;omega)⟩)
 ·rintro c st' ⟨S1,out,ia,ib,g,rfl,m,i1,i2,i3⟩
  omega
 rintro c st' ⟨S1,r,out,ia,ib,g,rfl,z⟩
 exact aF (h r st' z S1)
end
section
variable {key:Keyed->Int}{a b out:List Keyed}{na nb:Nat}
structure MH (key:Keyed->Int)(a b out:List Keyed)(na nb:Nat):Prop where
 srt:iG key out.reverse
 le:∀ x∈out,∀ y,y∈a.take na\/y∈b.take nb->key y<=key x
 perm:(a.take na++b.take nb++out.reverse).Perm (a++b)
theorem mI {l:List Keyed}{i:Nat}{x:Keyed}(h1:1<=i)(h:l[i-1]? = some x):l.take i=l.take (i-1) ++ [x]:=by
 obtain⟨n,rfl⟩:∃ n,i=n+1:=⟨i-1,by omega⟩
 rw[eC]at h ⊢
 rw[bG,h];rfl
theorem lL {l:List Keyed}(h:iG key l)(i:Nat):iG key (l.take i):=h.sublist (eL _ _)
theorem nP {l:List Keyed}(h:iG key l){i:Nat}{x:Keyed}(h1:1<=i)(hx:l[i-1]? = some x):∀ z∈l.take i,key z<=key x:=λz hz=>by
 have s2:=lL h i
 rw[mI h1 hx]at s2 hz
 rcases aI.mp hz with q |q
 ·exact(bj.mp s2).2.2 z q x (aQ.mpr rfl)
 ·rw[aQ.mp q];exact cV _
theorem MH.ph (m:MH key a b out na nb)(sa:iG key a)(h1:1<=na){y:Keyed}(h:a[na-1]? = some y)(g:∀ x∈b.take nb,key x<=key y):MH key a b (out ++ [y]) (na-1) nb:=by
 have e:=mI h1 h
 have m2:=m.le
 have m3:=m.perm
 have sl:=nP sa h1 h
 rw[e]at m2 m3 sl
 refine⟨?_,λx hx z hz=>?_,?_⟩
 ·rw[bO]
  refine bj.mpr ⟨cK _ _,m.srt,λx hx z hz=>?_⟩
  rw[show x=y by simpa using hx]
  exact m2 z (cL.mp hz) y (.inl (by simp))
 ·rcases aI.mp hx with hx |hx
  ·exact m2 x hx z (hz.imp_left λq=>bA _ q)
  ·rw[aQ.mp hx]
   rcases hz with q |q
   ·exact sl z (bA _ q)
   ·exact g z q
 ·refine List.Perm.trans ?_ m3
  rw[bO]
  show(a.take (na-1)++b.take nb++([y]++out.reverse)).Perm _
  rw[<-aN]
  refine List.Perm.append_right _ ?_
  rw[aN,aN]
  exact dN _ dH
theorem MH.pf (m:MH key a b out na nb)(sb:iG key b)(h1:1<=nb){y:Keyed}(h:b[nb-1]? = some y)(g:∀ x∈a.take na,key x<=key y):MH key a b (out ++ [y]) na (nb-1):=by
 have e:=mI h1 h
 have m2:=m.le
 have m3:=m.perm
 have sl:=nP sb h1 h
 rw[e]at m2 m3 sl
 refine⟨?_,λx hx z hz=>?_,?_⟩
 ·rw[bO]
  refine bj.mpr ⟨cK _ _,m.srt,λx hx z hz=>?_⟩
  rw[show x=y by simpa using hx]
  exact m2 z (cL.mp hz) y (.inr (by simp))
 ·rcases aI.mp hx with hx |hx
  ·exact m2 x hx z (hz.imp_right λq=>bA _ q)
  ·rw[aQ.mp hx]
   rcases hz with q |q
   ·exact g z q
   ·exact sl z (bA _ q)
 ·refine List.Perm.trans ?_ m3
  rw[bO]
  show(a.take na++b.take (nb-1)++([y]++out.reverse)).Perm _
  rw[<-aN,aN (a.take na)]
theorem MH.qS (sa:iG key a):∀ (k p:Nat) {out:List Keyed}{na:Nat},na=p+k->MH key a b out na nb->na<=a.length->(∀ i y,p<=i->i<na->a[i]? = some y->∀ x∈b.take nb,key x<=key y)->MH key a b (out++((a.drop p).take (na-p)).reverse) p nb
 | 0,p,out,na,e,m,_,_=>by subst e;simpa using m
 |k+1,p,out,na,e,m,hk,g=>by
  have h:a[na-1]? = some a[na-1]:=ae (by omega)
  have m2:=m.ph sa (by omega) h (g (na-1) _ (by omega) (by omega) h)
  have m3:=MH.qS sa k p (by omega) m2 (by omega) λi y h1 h2=>g i y h1 (by omega)
  have e2:(a.drop p).take (na-p)=(a.drop p).take (na-1-p) ++ [a[na-1]]:=by
   rw[mI (i:=na-p) (by omega) (x:=a[na-1]) (by rw[cn,show p+(na-p-1)=na-1 by omega];exact h),show na-p-1=na-1-p by omega]
  rw[e2,bO]
  rw[aN]at m3
  exact m3
theorem MH.qR (sb:iG key b):∀ (k p:Nat) {out:List Keyed}{nb:Nat},nb=p+k->MH key a b out na nb->nb<=b.length->(∀ i y,p<=i->i<nb->b[i]? = some y->∀ x∈a.take na,key x<=key y)->MH key a b (out++((b.drop p).take (nb-p)).reverse) na p
 | 0,p,out,nb,e,m,_,_=>by subst e;simpa using m
 |k+1,p,out,nb,e,m,hk,g=>by
  have h:b[nb-1]? = some b[nb-1]:=ae (by omega)
  have m2:=m.pf sb (by omega) h (g (nb-1) _ (by omega) (by omega) h)
  have m3:=MH.qR sb k p (by omega) m2 (by omega) λi y h1 h2=>g i y h1 (by omega)
  have e2:(b.drop p).take (nb-p)=(b.drop p).take (nb-1-p) ++ [b[nb-1]]:=by
   rw[mI (i:=nb-p) (by omega) (x:=b[nb-1]) (by rw[cn,show p+(nb-p-1)=nb-1 by omega];exact h),show nb-p-1=nb-1-p by omega]
  rw[e2,bO]
  rw[aN]at m3
  exact m3
theorem MH.done (m:MH key a b out na nb)(sa:iG key a)(sb:iG key b)(h:∀ x∈a.take na,∀ y∈b.take nb,key x<=key y):Mgd key a b (a.take na++b.take nb++out.reverse):=
 ⟨bj.mpr ⟨bj.mpr ⟨lL sa _,lL sb _,h⟩,m.srt,λx hx y hy=>m.le y (cL.mp hy) x (aI.mp hx)⟩,m.perm⟩
theorem MH.doneF (m:MH key a b out na nb)(sa:iG key a)(sb:iG key b)(h:∀ x∈a.take na,∀ y∈b.take nb,key y<=key x):Mgd key a b (b.take nb++a.take na++out.reverse):=
 ⟨bj.mpr ⟨bj.mpr ⟨lL sb _,lL sa _,λx hx y hy=>h y hy x hx⟩,m.srt,λx hx y hy=>m.le y (cL.mp hy) x (aI.mp hx).symm⟩,(List.Perm.append_right _ dH).trans m.perm⟩
end
section
variable {prog:Program}{w:World}{A:Around}{E:Value->Shared->Prop}{s:Shared}{κ:SortKind}{key:Keyed->Int}{D:Keyed->Prop}
theorem wb (O:Orc prog w A s κ key D){a b:Array Keyed}(hA:∀ (i:Nat) x,a[i]? = some x->D x)(hB:∀ (i:Nat) x,b[i]? = some x->D x)(sa:iG key a.toList)(sb:iG key b.toList)(za:1<=a.size)(zb:1<=b.size)
  (h0:∀ x∈a.toList,∀ y,b[0]? = some y->key y<=key x) (hl:∀ y∈b.toList,∀ x,a[a.size-1]? = some x->key y<=key x) {st:SortSt} (hk:PyProof.Rows.kindOf st=κ) {Q:Array Keyed->SortSt->Prop} (h:∀ r st',Mgd key a.toList b.toList r.toList->SmS st st'->Q r st'):
  wpS (model prog w) A E s (zK a b) Q st:=by
 obtain⟨y0,hy0⟩:=gg (show a.size-1<a.size by omega)
 have la:a.toList.length=a.size:=aw
 have lb:b.toList.length=b.size:=aw
 have ga:∀ {i:Nat}{x:Keyed},a[i]? = some x->a.toList[i]? = some x:=λh=>by rw[aA];exact h
 have gb:∀ {i:Nat}{x:Keyed},b[i]? = some x->b.toList[i]? = some x:=λh=>by rw[aA];exact h
 have dA:∀ {i:Nat}{x:Keyed},1<=i->a[i-1]? = some x->∀ z∈a.toList.take i,key z<=key x:=λ{i x} h1 hx=>nP sa h1 (ga hx)
 have dB:∀ {i:Nat}{x:Keyed},1<=i->b[i-1]? = some x->∀ z∈b.toList.take i,key z<=key x:=λ{i x} h1 hx=>nP sb h1 (gb hx)
 have m0:MH key a.toList b.toList #[y0].toList (a.size-1) b.size:=by
  refine(show MH key a.toList b.toList ([] ++ [y0]) (a.size-1) b.size from MH.ph (out:=[]) ⟨List.Pairwise.nil,λx hx=>(by cases hx),?_⟩ sa za (ga hy0) λx hx=>hl x (List.mem_of_mem_take hx) y0 hy0)
  rw[br (by omega),br (by omega)]
  simp
 have fA:∀ {out:Array Keyed}{na nb:Nat},MH key a.toList b.toList out.toList na nb->na=0->Mgd key a.toList b.toList (a.extract 0 na++b.extract 0 nb++out.reverse).toList:=λ{out na nb} m e=>by
  subst e
  have:=m.done sa sb (λx hx=>by simp at hx)
  simpa [bB]using this
 have fB:∀ {out:Array Keyed}{na nb:Nat},MH key a.toList b.toList out.toList na nb->nb=0->Mgd key a.toList b.toList (a.extract 0 na++b.extract 0 nb++out.reverse).toList:=λ{out na nb} m e=>by
  subst e
  have:=m.done sa sb (λx _ y hy=>by simp at hy)
  simpa [bB]using this
 have fF:∀ {out:Array Keyed}{na nb:Nat},MH key a.toList b.toList out.toList na nb->nb=1->Mgd key a.toList b.toList (b.extract 0 nb++a.extract 0 na++out.reverse).toList:=λ{out na nb} m e=>by
  subst e
  obtain⟨z,hz⟩:=gg (show 0<b.size by omega)
  have:=m.doneF sa sb (λx hx y hy=>by
   have e1:b.toList.take 1 = [z]:=by rw[mI (aq 1) (gb hz)];simp
   rw[e1]at hy
   rw[aQ.mp hy]
   exact h0 x (List.mem_of_mem_take hx) z hz)
  simpa [bB]using this
 refine ay (iY (eR ⟨rfl,?_⟩))
 refine ay (fZ hy0 ?_)
 dsimp only
 refine fz (λe1=>aF (h _ _ (fA m0 (by simpa using e1)) ⟨rfl,rfl,rfl,rfl⟩)) (λe1=>?_)
 have e1:a.size-1≠0:=by simpa using e1
 refine fz (λe2=>aF (h _ _ (fF m0 (by simpa using e2)) ⟨rfl,rfl,rfl,rfl⟩)) (λe2=>?_)
 have e2:b.size≠1:=by simpa using e2
 refine ay (wpS_get ?_)
 refine ay (cO (bQ (I:=λx c st'=>SmS st st'/\∃ na nb out g,c=(none,na,nb,out,g)/\MH key a.toList b.toList out.toList na nb/\1<=na/\2<=nb/\na<=a.size/\nb<=b.size/\na+nb+(x+1)<=a.size+b.size)
  (Q:=λc st'=>SmS st st'/\∃ r na nb out g,c=(some r,na,nb,out,g)/\Mgd key a.toList b.toList r.toList) ?_ ?_ ⟨⟨rfl,rfl,rfl,rfl⟩,_,_,_,_,rfl,m0,by omega,by omega,by omega,by omega,by omega⟩) ?_)
 ·rintro x c st1 _ hx ⟨S1,na,nb,out,g,rfl,m,i1,i2,z1,z2,i3⟩
  dsimp only
  refine ay (cO (bQ (I:=λy c st'=>SmS st st'/\∃ na' nb' out ac bc,c=(none,na',nb',out,ac,bc)/\MH key a.toList b.toList out.toList na' nb'/\1<=na'/\2<=nb'/\na'<=a.size/\nb'<=b.size/\na'+nb'+y=na+nb)
   (Q:=λc st'=>SmS st st'/\∃ o na' nb' out ac bc,c=(o,na',nb',out,ac,bc)/\((∃ r,o=some r/\Mgd key a.toList b.toList r.toList)\/(o=none/\MH key a.toList b.toList out.toList na' nb'/\1<=na'/\2<=nb'/\na'<=a.size/\nb'<=b.size/\na'+nb'+1<=na+nb))) ?_ ?_ ⟨S1,_,_,_,_,_,rfl,m,i1,i2,z1,z2,rfl⟩) ?_)
  ·clear m i1 i2 S1
   rintro y c st2 _ hy ⟨S2,na',nb',out,ac,bc,rfl,m,i1,i2,y1,y2,i4⟩
   dsimp only
   obtain⟨u,hu⟩:=gg (show nb'-1<b.size by omega)
   obtain⟨v,hv⟩:=gg (show na'-1<a.size by omega)
   refine ay (fZ hu (ay (fZ hv (ay (qw O (hB _ _ hu) (hA _ _ hv) (S2.1.trans hk) ?_)))))
   dsimp only
   by_cases q:key u<key v
   ·rw[aD (by simpa using q)]
    refine ay (fZ hv ?_)
    have m2:MH key a.toList b.toList (out.push v).toList (na'-1) nb':=by
     rw[cc]
     exact m.ph sa i1 (ga hv) λz hz=>by have:=dB (by omega) hu z hz;omega
    refine fz (λe=>?_) (λe=>?_)
    ·exact aF ⟨S2,_,_,_,_,_,_,rfl,.inl ⟨_,rfl,fA m2 (by simpa using e)⟩⟩
    ·have e:na'-1≠0:=by simpa using e
     refine fz (λ_=>?_) (λ_=>?_)
     ·exact aF ⟨S2,_,_,_,_,_,_,rfl,.inr ⟨rfl,m2,by omega,i2,by omega,y2,by omega⟩⟩
     ·exact aF ⟨S2,_,_,_,_,_,rfl,m2,by omega,i2,by omega,y2,by omega⟩
   ·rw[au (by simpa using q)]
    refine ay (fZ hu ?_)
    have m2:MH key a.toList b.toList (out.push u).toList na' (nb'-1):=by
     rw[cc]
     exact m.pf sb (by omega) (gb hu) λz hz=>by have:=dA i1 hv z hz;omega
    refine fz (λe=>?_) (λe=>?_)
    ·exact aF ⟨S2,_,_,_,_,_,_,rfl,.inl ⟨_,rfl,fF m2 (by simpa using e)⟩⟩
    ·have e:nb'-1≠1:=by simpa using e
     refine fz (λ_=>?_) (λ_=>?_)
     ·exact aF ⟨S2,_,_,_,_,_,_,rfl,.inr ⟨rfl,m2,i1,by omega,y1,by omega,by omega⟩⟩
     ·exact aF ⟨S2,_,_,_,_,_,rfl,m2,i1,by omega,y1,by omega,by omega⟩
  ·rintro c st2 ⟨S2,na',nb',out,ac,bc,rfl,m,i1,i2,y1,y2,i4⟩
   omega
  clear m i1 i2 S1
  rintro c st2 ⟨S2,o,na',nb',out,ac,bc,rfl,z⟩
  dsimp only
  rcases z with⟨r,rfl,z⟩|⟨rfl,m,i1,i2,y1,y2,i4⟩
  ·exact aF ⟨S2,_,_,_,_,_,rfl,z⟩
  dsimp only
  refine ay (iY (eR ⟨rfl,?_⟩))
  refine ay (cO (bQ (I:=λy c st'=>SmS st st'/\∃ ja jb out g ac bc,c=(none,ja,jb,out,g,ac,bc)/\MH key a.toList b.toList out.toList ja jb/\1<=ja/\2<=jb/\ja<=a.size/\jb<=b.size/\ja+jb<=na'+nb')
   (Q:=λc st'=>SmS st st'/\∃ o ja jb out g ac bc,c=(o,ja,jb,out,g,ac,bc)/\((∃ r,o=some r/\Mgd key a.toList b.toList r.toList)\/(o=none/\MH key a.toList b.toList out.toList ja jb/\1<=ja/\2<=jb/\ja<=a.size/\jb<=b.size/\ja+jb<=na'+nb'))) ?_ ?_ ⟨S2,_,_,_,_,_,_,rfl,m,i1,i2,y1,y2,aq _⟩) ?_)
  ·clear m i1 i2 S2 z1 z2
   rintro y c st3 _ hy ⟨S3,ja,jb,out,g,ac,bc,rfl,m,i1,i2,z1,z2,i5⟩
   dsimp only
   obtain⟨u,hu⟩:=gg (show jb-1<b.size by omega)
   refine fz (λ_=>?_) (λ_=>?_)
   all_goals
    refine ay (mJ S3 λst4 S3=>?_)
    refine ay (fZ hu ?_)
    refine ay (jT O (base:=0) (n:=ja) (hint:=ja-1) (hB _ _ hu) hA (by omega) (by omega) (kM λi j h1 h2=>pU sa (by omega) (by omega)) (S3.1.trans hk) λk C=>?_)
    obtain⟨C0,C1,C2⟩:=C
    dsimp only
    have ka:∀ z∈a.toList.take k,key z<=key u:=λz hz=>by
     obtain⟨i,hi,e⟩:=bt.mp hz
     rw[bw]at hi
     have:=C1 i (by omega)
     rw[List.getElem_take]at e
     rw[oW,cX,gT (key:=key) (show a[i]? = some z by rw[<-aA,ae (by omega),e])]at this
     omega
    apply fz
    case' h1=>
     intro g1
     have m2:MH key a.toList b.toList (out++(a.extract k ja).reverse).toList k jb:=by
      have:=m.qS sa (ja-k) k (by omega) (by omega) λi y' h1 h2 hy' x hx=>by
       have:=C2 i h1 h2
       rw[lG,cX,gT (key:=key) (show a[i]? = some y' by rw[<-aA];exact hy')]at this
       have:=dB (by omega) hu x hx
       omega
      simpa [bB,br]using this
     refine fz (λg2=>aF ⟨S3,_,_,_,_,_,_,_,rfl,.inl ⟨_,rfl,fA m2 (by simpa using g2)⟩⟩) (λg2=>?_)
     have g2:k≠0:=by simpa using g2
     have j1:1<=k:=by omega
     have j0:k<=a.size:=by omega
     have j2:k+jb<=na'+nb':=by omega
     generalize ja-k=kk
     generalize out++(a.extract k ja).reverse=qv at m2 ⊢
     generalize k=ja' at m2 j1 j0 j2 ka ⊢
    case' h2=>
     intro g1
     have ek:k=ja:=by omega
     have m2:MH key a.toList b.toList out.toList ja jb:=m
     have j1:1<=ja:=i1
     have j0:ja<=a.size:=by omega
     have j2:=i5
     generalize ja-k=kk
     subst ek
     generalize out=qv at m2 ⊢
     generalize k=ja' at m2 j1 j0 j2 ka ⊢
    all_goals
     obtain⟨v,hv⟩:=gg (show ja'-1<a.size by omega)
     refine ay (fZ hu ?_)
     have m3:MH key a.toList b.toList (qv.push u).toList ja' (jb-1):=by
      rw[cc]
      exact m2.pf sb (by omega) (gb hu) ka
     refine fz (λg4=>aF ⟨S3,_,_,_,_,_,_,_,rfl,.inl ⟨_,rfl,fF m3 (by simpa using g4)⟩⟩) (λg4=>?_)
     have g4:jb-1≠1:=by simpa using g4
     refine ay (fZ hv ?_)
     refine ay (jT O (base:=0) (n:=jb-1) (hint:=jb-1-1) (hA _ _ hv) hB (by omega) (by omega) (kM λi j h1 h2=>pU sb (by omega) (by omega)) (S3.1.trans hk) λk2 C=>?_)
     obtain⟨B0,B1,B2⟩:=C
     dsimp only
     have kb:∀ z∈b.toList.take k2,key z<=key v:=λz hz=>by
      obtain⟨i,hi,e⟩:=bt.mp hz
      rw[bw]at hi
      have:=B1 i (by omega)
      rw[List.getElem_take]at e
      rw[qX,cX,gT (key:=key) (show b[i]? = some z by rw[<-aA,ae (by omega),e])]at this
      omega
     apply fz
     case' h1=>
      intro g5
      have m4:MH key a.toList b.toList (qv.push u++(b.extract k2 (jb-1)).reverse).toList ja' k2:=by
       have:=m3.qR sb (jb-1-k2) k2 (by omega) (by omega) λi y' h1 h2 hy' x hx=>by
        have:=B2 i h1 h2
        rw[mZ,cX,gT (key:=key) (show b[i]? = some y' by rw[<-aA];exact hy')]at this
        have:=dA (by omega) hv x hx
        omega
       simpa [bB,br]using this
      refine fz (λg6=>aF ⟨S3,_,_,_,_,_,_,_,rfl,.inl ⟨_,rfl,fF m4 (by simpa using g6)⟩⟩) (λg6=>?_)
      have g6:k2≠1:=by simpa using g6
      refine fz (λg8=>aF ⟨S3,_,_,_,_,_,_,_,rfl,.inl ⟨_,rfl,fB m4 (by simpa using g8)⟩⟩) (λg8=>?_)
      have g8:k2≠0:=by simpa using g8
      have j3:2<=k2:=by omega
      have j5:k2<=b.size:=by omega
      have j4:ja'+k2<=na'+nb':=by omega
      generalize jb-1-k2=kk2
      generalize qv.push u++(b.extract k2 (jb-1)).reverse=zw at m4 ⊢
      generalize k2=jb' at m4 j3 j5 kb j4 ⊢
     case' h2=>
      intro g5
      have ek:k2=jb-1:=by omega
      rw[ek]at kb
      have m4:=m3
      have j3:2<=jb-1:=by omega
      have j5:jb-1<=b.size:=by omega
      have j4:ja'+(jb-1)<=na'+nb':=by omega
      generalize jb-1-k2=kk2
      generalize qv.push u=zw at m4 ⊢
      generalize jb-1=jb' at m4 j3 j5 kb j4 ⊢
     all_goals
      refine ay (fZ hv ?_)
      have m5:MH key a.toList b.toList (zw.push v).toList (ja'-1) jb':=by
       rw[cc]
       exact m4.ph sa j1 (ga hv) kb
      refine fz (λg7=>aF ⟨S3,_,_,_,_,_,_,_,rfl,.inl ⟨_,rfl,fA m5 (by simpa using g7)⟩⟩) (λg7=>?_)
      have g7:ja'-1≠0:=by simpa using g7
      refine fz (λ_=>?_) (λ_=>?_)
      ·exact aF ⟨S3,_,_,_,_,_,_,_,rfl,.inr ⟨rfl,m5,by omega,j3,by omega,j5,by omega⟩⟩
      ·exact aF ⟨S3,_,_,_,_,_,_,rfl,m5,by omega,j3,by omega,j5,by omega⟩
  ·rintro c st3 ⟨S3,ja,jb,out,g,ac,bc,rfl,m,i1,i2,z1,z2,i5⟩
   exact⟨S3,_,_,_,_,_,_,_,rfl,.inr ⟨rfl,m,i1,i2,z1,z2,i5⟩⟩
  rintro c st3 ⟨S3,o,ja,jb,out,g,ac,bc,rfl,z⟩
  rcases z with⟨r,rfl,z⟩|⟨rfl,m,i1,i2,x1,x2,i5⟩
  ·exact aF ⟨S3,_,_,_,_,_,rfl,z⟩
  ·exact ay (mJ S3 λst4 S3=>aF ⟨S3,_,_,_,_,rfl,m,i1,i2,x1,x2,(by show ja+jb+(x+1+1)<=a.size+b.size;omega)⟩)
 ·rintro c st' ⟨S1,na,nb,out,g,rfl,m,i1,i2,x1,x2,i3⟩
  omega
 rintro c st' ⟨S1,r,na,nb,out,g,rfl,z⟩
 exact aF (h r st' z S1)
end
section
variable {key:Keyed->Int}
def kf (key:Keyed->Int)(arr:Array Keyed)(s n:Nat):Prop:=∀ i j,i<=j->j<n->Ka key arr (s+i)<=Ka key arr (s+j)
def Pd (key:Keyed->Int)(arr:Array Keyed):Nat->List (Nat×Nat×Nat)->Nat->Prop
 |s,[],lo=>s=lo
 |s,p::r,lo=>p.1=s/\1<=p.2.1/\kf key arr s p.2.1/\Pd key arr (s+p.2.1) r lo
theorem kf.congr {arr iW:Array Keyed}{s n:Nat}(h:kf key arr s n)(e:∀ i,s<=i->i<s+n->Ka key iW i=Ka key arr i):kf key iW s n:=λi j hij hj=>by
 rw[e _ (by omega) (by omega),e _ (by omega) (by omega)];exact h i j hij hj
theorem Pd.le {arr:Array Keyed} :∀ {p:List (Nat×Nat×Nat)}{s lo:Nat},Pd key arr s p lo->s+p.length<=lo
 |[],s,lo,h=>by have h:s=lo:=h;simp[h]
 |p::r,s,lo,h=>by
  have:=Pd.le h.2.2.2
  have:=h.2.1
  rw[aY];omega
theorem Pd.congr {arr iW:Array Keyed} :∀ {p:List (Nat×Nat×Nat)}{s lo:Nat},Pd key arr s p lo->(∀ i,s<=i->i<lo->Ka key iW i=Ka key arr i)->Pd key iW s p lo
 |[],s,lo,h,_=>h
 |p::r,s,lo,h,e=>⟨h.1,h.2.1,h.2.2.1.congr λi h1 h2=>e i h1 (by have:=Pd.le h.2.2.2;omega),Pd.congr h.2.2.2 λi h1 h2=>e i (by omega) h2⟩
theorem Pd.snoc {arr:Array Keyed} :∀ {p:List (Nat×Nat×Nat)}{s lo n pw:Nat},Pd key arr s p lo->1<=n->kf key arr lo n->Pd key arr s (p ++ [(lo,n,pw)]) (lo+n)
 |[],s,lo,n,pw,h,h1,h2=>by
  have h:s=lo:=h
  subst h
  exact⟨rfl,h1,h2,rfl⟩
 |p::r,s,lo,n,pw,h,h1,h2=>⟨h.1,h.2.1,h.2.2.1,Pd.snoc h.2.2.2 h1 h2⟩
theorem Pd.two {arr:Array Keyed} :∀ {p:List (Nat×Nat×Nat)}{s lo i:Nat}{a b:Nat×Nat×Nat},Pd key arr s p lo->p[i]? = some a->p[i+1]? = some b->
  s<=a.1/\b.1=a.1+a.2.1/\1<=a.2.1/\1<=b.2.1/\kf key arr a.1 a.2.1/\kf key arr b.1 b.2.1/\b.1+b.2.1<=lo/\
  ∀ iW,(∀ j,j<a.1\/b.1+b.2.1<=j->Ka key iW j=Ka key arr j)->kf key iW a.1 (a.2.1+b.2.1)->Pd key iW s ((p.set i (a.1,a.2.1+b.2.1,a.2.2)).eraseIdx (i+1)) lo
 |[],s,lo,i,a,b,h,h1,_=>by simp at h1
 |q::r,s,lo,0,a,b,h,h1,h2=>by
  have h1:q=a:=by simpa using h1
  subst h1
  cases r with
  |nil=>simp at h2
  |cons q2 r=>
   have h2:q2=b:=by simpa using h2
   subst h2
   obtain⟨e1,n1,g1,e2,n2,g2,t⟩:=h
   have l:=Pd.le t
   refine⟨by omega,by omega,n1,n2,by rw[e1];exact g1,by rw[e2];exact g2,by omega,λiW ag sg=>?_⟩
   show Pd key iW s ((q.1,q.2.1+q2.2.1,q.2.2)::r) lo
   refine⟨e1,by show 1<=q.2.1+q2.2.1;omega,by rw[e1]at sg;exact sg,?_⟩
   show Pd key iW (s+(q.2.1+q2.2.1)) r lo
   rw[<-Nat.add_assoc]
   exact t.congr λj h1 h2=>ag j (.inr (by omega))
 |q::r,s,lo,i+1,a,b,h,h1,h2=>by
  obtain⟨e1,n1,g1,t⟩:=h
  obtain⟨a1,a2,a3,a4,a5,a6,a7,a8⟩:=Pd.two t (by simpa using h1) (by simpa using h2)
  refine⟨by omega,a2,a3,a4,a5,a6,a7,λiW ag sg=>?_⟩
  show Pd key iW s (q::(r.set i _).eraseIdx (i+1)) lo
  exact⟨e1,n1,g1.congr λj h1 h2=>ag j (.inl (by omega)),a8 iW ag sg⟩
theorem vd (b:Nat):∀ (l:List Keyed) (o:Nat) (arr:Array Keyed),b+o+l.length<=arr.size->∀ i:Nat,((l.zipIdx o).foldl (λa (pj:Keyed×Nat)=>a.setIfInBounds (b+pj.2) pj.1) arr)[i]? = if b+o<=i/\i<b+o+l.length then l[i-(b+o)]? else arr[i]?
 |[],o,arr,h,i=>by rw[au (by simp)];rfl
 |x::l,o,arr,h,i=>by
  rw[aY]at h
  rw[List.zipIdx_cons,cQ,vd b l (o+1) _ (by rw[Array.size_setIfInBounds];omega) i,Array.getElem?_setIfInBounds]
  rw[aY]
  by_cases g:i=b+o
  ·subst g
   rw[au (by omega),aD rfl,aD (by omega),aD (by omega),bV];rfl
  ·by_cases g2:b+o<=i/\i<b+o+(l.length+1)
   ·rw[aD (by omega),aD g2]
    rw[show i-(b+o)=i-(b+(o+1))+1 by omega];rfl
   ·rw[au (by omega),au g2,au (λz=>g z.symm)]
end
section
variable {prog:Program}{w:World}{A:Around}{E:Value->Shared->Prop}{s:Shared}{κ:SortKind}{key:Keyed->Int}{D:Keyed->Prop}
structure Sok (κ:SortKind)(key:Keyed->Int)(D:Keyed->Prop)(a₀:Array Keyed)(lo:Nat)(st:SortSt):Prop where
 kind:PyProof.Rows.kindOf st=κ
 fail:failedOf st=none
 perm:(arrOf st).Perm a₀
 pend:Pd key (arrOf st) 0 (pendingOf st).toList lo
theorem Sok.size {a₀:Array Keyed}{lo:Nat}{st:SortSt}(h:Sok κ key D a₀ lo st):(arrOf st).size=a₀.size:=by
 have:=(cW.mp h.perm).length_eq
 simpa using this
theorem Sok.dom {a₀:Array Keyed}{lo:Nat}{st:SortSt}(h:Sok κ key D a₀ lo st)(hD:∀ x∈a₀.toList,D x)(i:Nat)(x:Keyed)(hx:(arrOf st)[i]? = some x):D x:=
 hD x ((cW.mp h.perm).mem_iff.mp (aG (by rw[aA];exact hx)))
theorem Cs {x:SortSt}{Q:PUnit->SortSt->Prop}{st:SortSt}(h:∀ st1,PyProof.Rows.kindOf st1=PyProof.Rows.kindOf x->arrOf st1=arrOf x->pendingOf st1=pendingOf x->failedOf st1=failedOf x->Q ⟨⟩ st1):wpS (model prog w) A E s (set x:StateT SortSt Sem PUnit) Q st:=by
 unfold wpS;rw[StateT.run_set];exact aB ⟨rfl,h x rfl rfl rfl rfl⟩
theorem qE (O:Orc prog w A s κ key D){a₀:Array Keyed}(hD:∀ x∈a₀.toList,D x){lo:Nat}{st:SortSt}(S:Sok κ key D a₀ lo st)(hlo:lo<=a₀.size){i:Nat}(hi:i+1<(pendingOf st).size){Q:Bool->SortSt->Prop}
  (h:∀ st',Sok κ key D a₀ lo st'->(pendingOf st').size+1=(pendingOf st).size->(∀ j,lo<=j->Ka key (arrOf st') j=Ka key (arrOf st) j)->Q true st'):wpS (model prog w) A E s (mergeAt' i) Q st:=by
 obtain⟨⟨sa,na,pw⟩,ea⟩:∃ a,(pendingOf st)[i]? = some a:=⟨_,aZ (by omega)⟩
 obtain⟨⟨sb,nb,pw2⟩,eb⟩:∃ b,(pendingOf st)[i+1]? = some b:=⟨_,aZ hi⟩
 have hs:=S.size
 have dm:=S.dom hD
 obtain⟨_,e1,n1,n2,g1,g2,le,mk⟩:=S.pend.two (by rw[aA];exact ea) (by rw[aA];exact eb)
 dsimp only at e1 n1 n2 g1 g2 le mk
 have lp:(((pendingOf st).setIfInBounds i (sa,na+nb,pw)).eraseIdxIfInBounds (i+1)).toList=((pendingOf st).toList.set i (sa,na+nb,pw)).eraseIdx (i+1):=by
  rw[Array.toList_eraseIdxIfInBounds,Array.toList_setIfInBounds]
 have sz:(((pendingOf st).setIfInBounds i (sa,na+nb,pw)).eraseIdxIfInBounds (i+1)).size+1=(pendingOf st).size:=by
  have:=cB List.length lp
  rw[aw,List.length_eraseIdx,List.length_set,aw,aD hi]at this
  omega
 refine ay (wpS_get ?_)
 dsimp only
 rw[ea,eb]
 dsimp only
 refine ay (Cs λst1 k1 k2 k3 k4=>?_)
 have k1:PyProof.Rows.kindOf st1=κ:=k1.trans S.kind
 have k2:arrOf st1=arrOf st:=k2
 have k3:pendingOf st1=((pendingOf st).setIfInBounds i (sa,na+nb,pw)).eraseIdxIfInBounds (i+1):=k3
 have k4:failedOf st1=none:=k4.trans S.fail
 have same:kf key (arrOf st) sa (na+nb)->Q true st1:=λsg=>h st1 ⟨k1,k4,by rw[k2];exact S.perm,by rw[k2,k3,lp];exact mk _ (λ_ _=>rfl) sg⟩ (by rw[k3];exact sz) (λj _=>by rw[k2])
 obtain⟨u,hu⟩:=gg (show sb<(arrOf st).size by omega)
 have ku:=gT (key:=key) hu
 refine ay (fZ hu ?_)
 refine ay (jT O (base:=sa) (n:=na) (hint:=0) (dm _ _ hu) dm (by omega) (by omega) (kM g1) k1 λk C=>?_)
 obtain⟨C0,C1,C2⟩:=C
 have C1:∀ i,i<k->Ka key (arrOf st) (sa+i)<=key u:=λi hi=>by have:=C1 i hi;rw[oW]at this;omega
 have C2:∀ i,k<=i->i<na->key u<Ka key (arrOf st) (sa+i):=λi hi h2=>by have:=C2 i hi h2;rw[lG]at this;exact this
 have bu:∀ i,i<nb->key u<=Ka key (arrOf st) (sb+i):=λi hi=>by
  have:=g2 0 i (by omega) hi
  rw[en,ku]at this
  exact this
 dsimp only
 refine fz (λe=>aF (same λi j hij hj=>?_)) (λe=>?_)
 ·have e:na-k=0:=by simpa using e
  by_cases q:j<na
  ·exact g1 i j hij q
  ·have h2:=bu (j-na) (by omega)
   rw[show sb+(j-na)=sa+j by omega]at h2
   by_cases q2:i<na
   ·have:=C1 i (by omega)
    omega
   ·have:=g2 (i-na) (j-na) (by omega) (by omega)
    rw[show sb+(j-na)=sa+j by omega,show sb+(i-na)=sa+i by omega]at this
    exact this
 have e:na-k≠0:=by simpa using e
 obtain⟨v,hv⟩:=gg (show sa+k+(na-k)-1<(arrOf st).size by omega)
 have kv:=gT (key:=key) hv
 refine ay (fZ hv ?_)
 refine ay (jT O (base:=sb) (n:=nb) (hint:=nb-1) (dm _ _ hv) dm (by omega) (by omega) (kM g2) k1 λm C=>?_)
 obtain⟨B0,B1,B2⟩:=C
 have B1:∀ i,i<m->Ka key (arrOf st) (sb+i)<key v:=λi hi=>by have:=B1 i hi;rw[qX]at this;exact this
 have B2:∀ i,m<=i->i<nb->key v<=Ka key (arrOf st) (sb+i):=λi hi h2=>by have:=B2 i hi h2;rw[mZ]at this;omega
 have av:∀ i,i<na->Ka key (arrOf st) (sa+i)<=key v:=λi hi=>by
  have:=g1 i (na-1) (by omega) (by omega)
  rw[show sa+(na-1)=sa+k+(na-k)-1 by omega,kv]at this
  exact this
 dsimp only
 refine fz (λe=>aF (same λi j hij hj=>?_)) (λe3=>?_)
 ·have e:m=0:=by simpa using e
  by_cases q:j<na
  ·exact g1 i j hij q
  ·have h2:=B2 (j-na) (by omega) (by omega)
   rw[show sb+(j-na)=sa+j by omega]at h2
   by_cases q2:i<na
   ·have:=av i q2
    omega
   ·have:=g2 (i-na) (j-na) (by omega) (by omega)
    rw[show sb+(j-na)=sa+j by omega,show sb+(i-na)=sa+i by omega]at this
    exact this
 have e3:m≠0:=by simpa using e3
 have zx:((arrOf st).extract (sa+k) sb).size=na-k:=by rw[Array.size_extract];omega
 have zy:((arrOf st).extract sb (sb+m)).size=m:=by rw[Array.size_extract];omega
 have gx:∀ t:Nat,t<na-k->((arrOf st).extract (sa+k) sb)[t]? = (arrOf st)[sa+k+t]? :=λt ht=>by rw[Array.getElem?_extract,aD (by omega)]
 have gy:∀ t:Nat,t<m->((arrOf st).extract sb (sb+m))[t]? = (arrOf st)[sb+t]? :=λt ht=>by rw[Array.getElem?_extract,aD (by omega)]
 have mx:∀ z∈((arrOf st).extract (sa+k) sb).toList,∃ t,t<na-k/\(arrOf st)[sa+k+t]? = some z:=λz hz=>by
  obtain⟨t,ht,et⟩:=bt.mp hz
  rw[aw,zx]at ht
  refine⟨t,ht,?_⟩
  rw[<-gx t ht,<-aA,ae (by rw[aw,zx];exact ht),et]
 have my:∀ z∈((arrOf st).extract sb (sb+m)).toList,∃ t,t<m/\(arrOf st)[sb+t]? = some z:=λz hz=>by
  obtain⟨t,ht,et⟩:=bt.mp hz
  rw[aw,zy]at ht
  refine⟨t,ht,?_⟩
  rw[<-gy t ht,<-aA,ae (by rw[aw,zy];exact ht),et]
 have px:∀ z∈((arrOf st).extract (sa+k) sb).toList,key u<=key z/\key z<=key v:=λz hz=>by
  obtain⟨t,ht,et⟩:=mx z hz
  have h1:=C2 (k+t) (by omega) (by omega)
  have h2:=av (k+t) (by omega)
  rw[show sa+(k+t)=sa+k+t by omega,gT et]at h1 h2
  omega
 have py:∀ z∈((arrOf st).extract sb (sb+m)).toList,key u<=key z/\key z<=key v:=λz hz=>by
  obtain⟨t,ht,et⟩:=my z hz
  have h1:=bu t (by omega)
  have h2:=B1 t ht
  rw[gT et]at h1 h2
  omega
 have sx:iG key ((arrOf st).extract (sa+k) sb).toList:=ck.mpr λi j hi hj hij=>by
  rw[aw,zx]at hi hj
  have h1:=g1 (k+i) (k+j) (by omega) (by omega)
  have e1:(arrOf st)[sa+k+i]? = some ((arrOf st).extract (sa+k) sb).toList[i]:=by rw[<-gx i hi,<-aA,ae (by rw[aw,zx];exact hi)]
  have e2:(arrOf st)[sa+k+j]? = some ((arrOf st).extract (sa+k) sb).toList[j]:=by rw[<-gx j hj,<-aA,ae (by rw[aw,zx];exact hj)]
  rw[show sa+(k+i)=sa+k+i by omega,show sa+(k+j)=sa+k+j by omega,gT e1,gT e2]at h1
  exact h1
 have sy:iG key ((arrOf st).extract sb (sb+m)).toList:=ck.mpr λi j hi hj hij=>by
  rw[aw,zy]at hi hj
  have h1:=g2 i j (by omega) (by omega)
  have e1:(arrOf st)[sb+i]? = some ((arrOf st).extract sb (sb+m)).toList[i]:=by rw[<-gy i hi,<-aA,ae (by rw[aw,zy];exact hi)]
  have e2:(arrOf st)[sb+j]? = some ((arrOf st).extract sb (sb+m)).toList[j]:=by rw[<-gy j hj,<-aA,ae (by rw[aw,zy];exact hj)]
  rw[gT e1,gT e2]at h1
  exact h1
 have hA:∀ (i:Nat) x,((arrOf st).extract (sa+k) sb)[i]? = some x->D x:=λi x hx=>by
  obtain⟨t,_,et⟩:=mx x (aG (by rw[aA];exact hx))
  exact dm _ _ et
 have hB:∀ (i:Nat) x,((arrOf st).extract sb (sb+m))[i]? = some x->D x:=λi x hx=>by
  obtain⟨t,_,et⟩:=my x (aG (by rw[aA];exact hx))
  exact dm _ _ et
 have h0:∀ x∈((arrOf st).extract (sa+k) sb).toList,∀ y,((arrOf st).extract sb (sb+m))[0]? = some y->key y<=key x:=λx hx y hy=>by
  rw[gy 0 (by omega),en,hu]at hy
  cases hy
  exact(px x hx).1
 have hl:∀ y∈((arrOf st).extract sb (sb+m)).toList,∀ x,((arrOf st).extract (sa+k) sb)[((arrOf st).extract (sa+k) sb).size-1]? = some x->key y<=key x:=λy hy x hx=>by
  rw[zx,gx _ (by omega),show sa+k+(na-k-1)=sa+k+(na-k)-1 by omega,hv]at hx
  cases hx
  exact(py y hy).2
 have back:∀ r:Array Keyed,Mgd key ((arrOf st).extract (sa+k) sb).toList ((arrOf st).extract sb (sb+m)).toList r.toList->∀ iW,iW=r.toList.zipIdx.foldl (λa (pj:Keyed×Nat)=>a.setIfInBounds (sa+k+pj.2) pj.1) (arrOf st)->iW.Perm (arrOf st)/\(∀ j,j<sa\/sb+nb<=j->Ka key iW j=Ka key (arrOf st) j)/\kf key iW sa (na+nb):=by
  rintro r ⟨rs,rp⟩ iW rfl
  have rl:r.toList.length=na-k+m:=by
   have:=rp.length_eq
   rw[ah,aw,aw,aw,zx,zy]at this
   rw[aw];exact this
  have G:=vd (sa+k) r.toList 0 (arrOf st) (by omega)
  rw[en,rl]at G
  have pr:∀ z∈r.toList,key u<=key z/\key z<=key v:=λz hz=>by
   rcases aI.mp (rp.mem_iff.mp hz)with q |q
   ·exact px z q
   ·exact py z q
  generalize r.toList.zipIdx.foldl (λa (pj:Keyed×Nat)=>a.setIfInBounds (sa+k+pj.2) pj.1) (arrOf st)=iW at G
  have Go:∀ j,j<sa+k\/sb+m<=j->Ka key iW j=Ka key (arrOf st) j:=λj hj=>by
   have:=G j
   rw[au (by omega)]at this
   unfold Ka
   rw[bq,this,bq]
  have Gi:∀ j,sa+k<=j->j<sb+m->∃ z,r.toList[j-(sa+k)]? = some z/\Ka key iW j=key z:=λj h1 h2=>by
   have:=G j
   rw[aD (by omega)]at this
   have hz:r.toList[j-(sa+k)]? = some r.toList[j-(sa+k)]:=ae (by omega)
   rw[hz]at this
   exact⟨_,hz,gT this⟩
  refine⟨?_,λj hj=>Go j (by omega),λi j hij hj=>?_⟩
  ·rw[cW]
   have es:iW.size=(arrOf st).size:=by
    refine Nat.le_antisymm (Nat.le_of_not_lt λz=>?_) (Nat.le_of_not_lt λz=>?_)
    ·have:=G (arrOf st).size
     rw[au (by omega),Array.getElem?_eq_none (aq _),aZ z]at this
     cases this
    ·have:=G iW.size
     rw[Array.getElem?_eq_none (aq _)]at this
     by_cases q:sa+k<=iW.size/\iW.size<sa+k+(na-k+m)
     ·rw[aD q,ae (by omega)]at this;cases this
     ·rw[au q,aZ z]at this;cases this
   have el:iW.toList=(arrOf st).toList.take (sa+k)++(r.toList++(arrOf st).toList.drop (sb+m)):=by
    refine dF λj=>?_
    rw[aA,G j]
    have ll:((arrOf st).toList.take (sa+k)).length=sa+k:=by rw[bw,aw];omega
    by_cases q1:j<sa+k
    ·rw[au (by omega),ak (by omega),List.getElem?_take,aD q1,aA]
    ·rw[az (by omega),ll]
     by_cases q2:j<sb+m
     ·rw[aD (by omega),ak (by omega)]
     ·rw[au (by omega),az (by omega),cn,aA]
      congr 1
      omega
   have eo:(arrOf st).toList=(arrOf st).toList.take (sa+k)++((((arrOf st).extract (sa+k) sb).toList++((arrOf st).extract sb (sb+m)).toList)++(arrOf st).toList.drop (sb+m)):=by
    rw[bB,bB,List.extract_eq_take_drop,List.extract_eq_take_drop]
    have a1:(arrOf st).toList.drop (sa+k)=((arrOf st).toList.drop (sa+k)).take (sb-(sa+k))++(arrOf st).toList.drop sb:=by
     have:=(cC (sb-(sa+k)) ((arrOf st).toList.drop (sa+k))).symm
     rw[List.drop_drop,show sa+k+(sb-(sa+k))=sb by omega]at this
     exact this
    have a2:(arrOf st).toList.drop sb=((arrOf st).toList.drop sb).take (sb+m-sb)++(arrOf st).toList.drop (sb+m):=by
     have:=(cC (sb+m-sb) ((arrOf st).toList.drop sb)).symm
     rw[List.drop_drop,show sb+(sb+m-sb)=sb+m by omega]at this
     exact this
    rw[aN,<-a2,<-a1,cC]
   rw[el]
   conv=>rhs;rw[eo]
   exact dN _ (List.Perm.append_right _ rp)
  ·-- rising
   by_cases i1:i<k
   ·rw[Go (sa+i) (by omega)]
    have c1:=C1 i i1
    by_cases j1:j<k
    ·rw[Go (sa+j) (by omega)];exact g1 i j hij (by omega)
    ·by_cases j2:j<na+m
     ·obtain⟨z,hz,ez⟩:=Gi (sa+j) (by omega) (by omega)
      have:=(pr z (aG hz)).1
      omega
     ·rw[Go (sa+j) (by omega)]
      have:=bu (j-na) (by omega)
      rw[show sb+(j-na)=sa+j by omega]at this
      omega
   ·by_cases i2:i<na+m
    ·obtain⟨z,hz,ez⟩:=Gi (sa+i) (by omega) (by omega)
     have c2:=(pr z (aG hz)).2
     by_cases j2:j<na+m
     ·obtain⟨z',hz',ez'⟩:=Gi (sa+j) (by omega) (by omega)
      rw[ez,ez']
      by_cases ee:i=j
      ·subst ee
       rw[hz]at hz';cases hz';exact cV _
      ·obtain⟨p1,rfl⟩:=af.mp hz
       obtain⟨p2,rfl⟩:=af.mp hz'
       exact ck.mp rs _ _ p1 p2 (by omega)
     ·rw[Go (sa+j) (by omega)]
      have:=B2 (j-na) (by omega) (by omega)
      rw[show sb+(j-na)=sa+j by omega]at this
      omega
    ·rw[Go (sa+i) (by omega),Go (sa+j) (by omega)]
     have:=g2 (i-na) (j-na) (by omega) (by omega)
     rw[show sb+(i-na)=sa+i by omega,show sb+(j-na)=sa+j by omega]at this
     exact this
 have last:∀ (r:Array Keyed) (st2:SortSt),Mgd key ((arrOf st).extract (sa+k) sb).toList ((arrOf st).extract sb (sb+m)).toList r.toList->SmS st1 st2->∀ st3,PyProof.Rows.kindOf st3=PyProof.Rows.kindOf st2->arrOf st3=r.toList.zipIdx.foldl (λa (pj:Keyed×Nat)=>a.setIfInBounds (sa+k+pj.2) pj.1) (arrOf st2)->pendingOf st3=pendingOf st2->failedOf st3=failedOf st2->Q (failedOf st3).isNone st3:=by
  intro r st2 M S2 st3 b1 b2 b3 b4
  rw[S2.2.1,k2]at b2
  obtain⟨c1,c2,c3⟩:=back r M _ b2
  have hf:failedOf st3=none:=b4.trans (S2.2.2.2.trans k4)
  rw[hf]
  refine h st3 ⟨b1.trans (S2.1.trans k1),hf,c1.trans S.perm,?_⟩ ?_ (λj hj=>c2 j (.inr (by omega)))
  ·rw[b3,S2.2.2.1,k3,lp];exact mk _ c2 c3
  ·rw[b3,S2.2.2.1,k3];exact sz
 refine fz (λ_=>ay (wa O hA hB sx sy (by omega) (by omega) h0 hl k1 λr st2 M S2=>?_)) (λ_=>ay (wb O hA hB sx sy (by omega) (by omega) h0 hl k1 λr st2 M S2=>?_))
 all_goals exact ay (wpS_modify (ay (wpS_get (aF (last r st2 M S2 _ rfl rfl rfl rfl)))))
end
section
variable {prog:Program}{w:World}{A:Around}{E:Value->Shared->Prop}{s:Shared}{κ:SortKind}{key:Keyed->Int}{D:Keyed->Prop}{a₀:Array Keyed}{lo:Nat}{st:SortSt}
theorem mT (O:Orc prog w A s κ key D)(hD:∀ x∈a₀.toList,D x)(S:Sok κ key D a₀ lo st){i j:Nat}(hi:i<a₀.size)(hj:j<a₀.size){Q:Option Bool->SortSt->Prop}(h:Q (some (decide (Ka key (arrOf st) i<Ka key (arrOf st) j))) st):wpS (model prog w) A E s (ltAt' i j) Q st:=by
 have hs:=S.size
 obtain⟨x,hx⟩:=gg (show i<(arrOf st).size by omega)
 obtain⟨y,hy⟩:=gg (show j<(arrOf st).size by omega)
 rw[gT hx,gT hy]at h
 rw[ltAt'_eq]
 refine ay (wpS_get ?_)
 refine ay (fZ hx (ay (fZ hy (qw O (S.dom hD _ _ hx) (S.dom hD _ _ hy) S.kind h))))
theorem t6 {arr:Array Keyed}{i j k:Nat}(hj:j<=arr.size):Ka key (mirror arr i j ((j-i)/2)) k=if i<=k/\k<j then Ka key arr (i+j-1-k)else Ka key arr k:=by
 unfold Ka
 rw[bq,getElem?_mirror_all hj]
 by_cases h:i<=k/\k<j
 ·rw[aD h,aD h,bq]
 ·rw[au h,au h,bq]
theorem oZ {arr:Array Keyed}{i j:Nat}(hj:j<=arr.size)(he:∀ k,i<=k->k<j->Ka key arr k=Ka key arr (j-1))(k:Nat):Ka key (mirror arr i j ((j-i)/2)) k=Ka key arr k:=by
 rw[t6 hj]
 by_cases h:i<=k/\k<j
 ·rw[aD h,he k h.1 h.2,he _ (by omega) (by omega)]
 ·rw[au h]
theorem sZ (S:Sok κ key D a₀ lo st){i j:Nat}(hi:lo<=i)(hj:j<=a₀.size){Q:Unit->SortSt->Prop}(h:∀ st',Sok κ key D a₀ lo st'->arrOf st'=mirror (arrOf st) i j ((j-i)/2)->Q () st'):wpS (model prog w) A E s (reverseSlice' i j) Q st:=by
 rw[reverseSlice'_eq]
 refine wpS_modify (h _ ⟨S.kind,S.fail,(mirror_perm _ _ _ _).trans S.perm,S.pend.congr λk _ hk=>?_⟩ rfl)
 show Ka key (mirror (arrOf st) i j ((j-i)/2)) k=_
 rw[t6 (by rw[S.size];exact hj),au (by omega)]
def t4 (key:Keyed->Int)(arr:Array Keyed)(lo n:Nat):Prop:=∀ i,1<=i->i<n->Ka key arr (lo+i-1)<=Ka key arr (lo+i)
def AA (key:Keyed->Int)(arr:Array Keyed)(lo n:Nat):Prop:=∀ i,1<=i->i<n->Ka key arr (lo+i)<=Ka key arr (lo+i-1)
theorem t4.seg {arr:Array Keyed}{lo n:Nat}(h:t4 key arr lo n):kf key arr lo n:=by
 intro i j
 induction j with
 |zero=>intro hij _;rw[show i=0 by omega];exact cV _
 |succ j ih=>
  intro hij hj
  by_cases e:i=j+1
  ·rw[e];exact cV _
  ·have h1:=ih (by omega) (by omega)
   have h2:=h (j+1) (by omega) hj
   rw[show lo+(j+1)-1=lo+j by omega]at h2
   omega
theorem kf.rise {arr:Array Keyed}{lo n:Nat}(h:kf key arr lo n):t4 key arr lo n:=λi h1 h2=>by
 have:=h (i-1) i (by omega) h2
 rw[show lo+(i-1)=lo+i-1 by omega]at this
 exact this
theorem yy (O:Orc prog w A s κ key D)(hD:∀ x∈a₀.toList,D x)(S:Sok κ key D a₀ lo st){oH:Nat}(h1:1<=oH)(hn:lo+oH<=a₀.size){Q:Option Nat->SortSt->Prop}
  (h:∀ n st',Sok κ key D a₀ lo st'->1<=n->n<=oH->kf key (arrOf st') lo n->Q (some n) st'):wpS (model prog w) A E s (countRun' lo oH) Q st:=by
 refine ay (cO (bQ (I:=λx c st'=>st=st'/\c=(none,x)/\t4 key (arrOf st) lo x)
  (Q:=λc st'=>st=st'/\∃ n,c=(none,n)/\1<=n/\n<=oH/\t4 key (arrOf st) lo n/\(n<oH->Ka key (arrOf st) (lo+n)<Ka key (arrOf st) (lo+n-1))) ?_ ?_ ⟨rfl,rfl,λi a b=>absurd b (by omega)⟩) ?_)
 ·rintro x c st' hx1 hx ⟨rfl,rfl,R⟩
  dsimp only
  refine ay (mT O hD S (by omega) (by omega) ?_)
  dsimp only
  by_cases q:Ka key (arrOf st) (lo+x)<Ka key (arrOf st) (lo+x-1)
  ·rw[aD (by simpa using q)]
   exact aF ⟨rfl,x,rfl,hx1,by omega,R,λ_=>q⟩
  ·rw[au (by simpa using q)]
   refine aF ⟨rfl,rfl,λi a b=>?_⟩
   by_cases e:i=x
   ·rw[e];omega
   ·exact R i a (by omega)
 ·rintro c st' ⟨rfl,rfl,R⟩
  rw[show max 1 oH=oH by omega]at R ⊢
  exact⟨rfl,oH,rfl,h1,aq _,R,λz=>absurd z (cR _)⟩
 rintro c st' ⟨rfl,n,rfl,n1,n2,R,dn⟩
 dsimp only
 refine fz (λe=>aF (h n st S n1 n2 R.seg)) (λe=>?_)
 have e:n≠oH:=by simpa using e
 have dn:=dn (by omega)
 have hs:=S.size
 apply fz
 case' h1=>
  intro g
  refine ay (mT O hD S (by omega) (by omega) ?_)
  dsimp only
  refine fz (λq=>aF (h n st S n1 n2 R.seg)) (λq=>?_)
  have q:Ka key (arrOf st) (lo+n-1)<=Ka key (arrOf st) lo:=by
   have q:¬(Ka key (arrOf st) lo<Ka key (arrOf st) (lo+n-1)):=by simpa using q
   omega
  refine ay (sZ S (aq _) (by omega) λst1 S1 e1=>?_)
  have F:AA key (arrOf st1) lo (n+1):=by
   have all:∀ k,lo<=k->k<lo+n->Ka key (arrOf st) k=Ka key (arrOf st) (lo+n-1):=λk a b=>by
    have c1:=R.seg 0 (k-lo) (by omega) (by omega)
    have c2:=R.seg (k-lo) (n-1) (by omega) (by omega)
    rw[show lo+(k-lo)=k by omega]at c1 c2
    rw[show lo+(n-1)=lo+n-1 by omega]at c2
    rw[en]at c1
    omega
   have G:=oZ (key:=key) (arr:=arrOf st) (i:=lo) (j:=lo+n) (by omega) all
   intro i a b
   rw[e1,G,G]
   by_cases z:i=n
   ·rw[z];omega
   ·have:=all (lo+i) (by omega) (by omega)
    have:=all (lo+i-1) (by omega) (by omega)
    omega
 case' h2=>
  intro g
  have S1:=S
  have F:AA key (arrOf st) lo (n+1):=λi a b=>by
   rw[show i=n by omega];omega
  generalize st=st1 at S1 F ⊢
 all_goals
  clear dn R hs S
  refine ay (iY (eR ⟨rfl,?_⟩))
  refine ay (cO (bQ (I:=λx c st'=>Sok κ key D a₀ lo st'/\∃ q,c=(none,x,q)/\q+1<=x/\x<=oH/\AA key (arrOf st') lo x/\∀ k,lo+x-(q+1)<=k->k<lo+x->Ka key (arrOf st') k=Ka key (arrOf st') (lo+x-1))
   (Q:=λc st'=>Sok κ key D a₀ lo st'/\∃ x q,c=(none,x,q)/\q+1<=x/\x<=oH/\AA key (arrOf st') lo x/\∀ k,lo+x-(q+1)<=k->k<lo+x->Ka key (arrOf st') k=Ka key (arrOf st') (lo+x-1)) ?_ ?_ ⟨S1,0,rfl,by omega,by omega,F,λk a b=>by rw[show k=lo+(n+1)-1 by omega]⟩) ?_)
  ·rintro x c st' hx1 hx ⟨S2,q,rfl,q1,q2,F,eq⟩
   dsimp only
   have hs:=S2.size
   refine ay (mT O hD S2 (by omega) (by omega) ?_)
   dsimp only
   by_cases z:Ka key (arrOf st') (lo+x)<Ka key (arrOf st') (lo+x-1)
   ·rw[aD (by simpa using z)]
    refine fz (λg2=>?_) (λg2=>?_)
    ·refine ay (sZ S2 (by omega) (by omega) λst3 S3 e3=>aF ⟨S3,0,rfl,by omega,by omega,λi a b=>?_,λk a b=>by rw[show k=lo+(x+1)-1 by omega]⟩)
     have G:=oZ (key:=key) (arr:=arrOf st') (i:=lo+x-(q+1)) (j:=lo+x) (by omega) eq
     rw[e3,G,G]
     by_cases y:i=x
     ·rw[y];omega
     ·exact F i a (by omega)
    ·refine aF ⟨S2,0,rfl,by omega,by omega,λi a b=>?_,λk a b=>by rw[show k=lo+(x+1)-1 by omega]⟩
     by_cases y:i=x
     ·rw[y];omega
     ·exact F i a (by omega)
   ·rw[au (by simpa using z)]
    refine ay (mT O hD S2 (by omega) (by omega) ?_)
    dsimp only
    by_cases y:Ka key (arrOf st') (lo+x-1)<Ka key (arrOf st') (lo+x)
    ·rw[aD (by simpa using y)]
     exact aF ⟨S2,x,q,rfl,q1,q2,F,eq⟩
    ·rw[au (by simpa using y)]
     refine aF ⟨S2,q+1,rfl,by omega,by omega,λi a b=>?_,λk a b=>?_⟩
     ·by_cases v:i=x
      ·rw[v];omega
      ·exact F i a (by omega)
     ·rw[show lo+(x+1)-1=lo+x by omega]
      by_cases v:k=lo+x
      ·rw[v]
      ·rw[eq k (by omega) (by omega)];omega
  ·rintro c st' ⟨S2,q,rfl,q1,q2,F,eq⟩
   exact⟨S2,_,q,rfl,q1,q2,F,eq⟩
  clear F S1
  rintro c st' ⟨S2,x,q,rfl,q1,q2,F,eq⟩
  dsimp only
  have hs:=S2.size
  apply fz
  case' h1=>
   intro g2
   refine ay (sZ S2 (by omega) (by omega) λst3 S3 e3=>?_)
   have F3:AA key (arrOf st3) lo x:=λi a b=>by
    have G:=oZ (key:=key) (arr:=arrOf st') (i:=lo+x-(q+1)) (j:=lo+x) (by omega) eq
    rw[e3,G,G];exact F i a b
  case' h2=>
   intro g2
   have S3:=S2
   have F3:=F
   generalize st'=st3 at S3 F3 ⊢
  all_goals
   clear F eq S2 hs
   have hs:=S3.size
   refine ay (sZ S3 (aq _) (by omega) λst4 S4 e4=>?_)
   have R4:t4 key (arrOf st4) lo x:=λi a b=>by
    rw[e4,t6 (by omega),t6 (by omega),aD (by omega),aD (by omega)]
    have:=F3 (x-i) (by omega) (by omega)
    rw[show lo+(lo+x)-1-(lo+i-1)=lo+(x-i) by omega,show lo+(lo+x)-1-(lo+i)=lo+(x-i)-1 by omega]
    exact this
   refine ay (cO (bQ (I:=λy c st'=>st4=st'/\c=(none,y)/\t4 key (arrOf st4) lo y)
    (Q:=λc st'=>st4=st'/\∃ n,c=(none,n)/\1<=n/\n<=oH/\t4 key (arrOf st4) lo n) ?_ ?_ ⟨rfl,rfl,R4⟩) ?_)
   ·rintro y c st' hx1 hx ⟨rfl,rfl,R⟩
    dsimp only
    refine ay (mT O hD S4 (by omega) (by omega) ?_)
    dsimp only
    by_cases z:Ka key (arrOf st4) (lo+y)<Ka key (arrOf st4) (lo+y-1)
    ·rw[aD (by simpa using z)]
     exact aF ⟨rfl,y,rfl,by omega,by omega,R⟩
    ·rw[au (by simpa using z)]
     refine aF ⟨rfl,rfl,λi a b=>?_⟩
     by_cases e:i=y
     ·rw[e];omega
     ·exact R i a (by omega)
   ·rintro c st' ⟨rfl,rfl,R⟩
    exact⟨rfl,_,rfl,by omega,by omega,R⟩
   rintro c st' ⟨rfl,n,rfl,n1,n2,R⟩
   exact aF (h n st4 S4 n1 n2 R.seg)
theorem DS {arr:Array Keyed}{k m i:Nat}(hk:k<arr.size)(hm:m<=k):Ka key (bubble arr k (k-m)) i=if i=m then Ka key arr k else if m<i/\i<=k then Ka key arr (i-1)else Ka key arr i:=by
 unfold Ka
 rw[bq,getElem?_bubble hk _ (by omega),show k-(k-m)=m by omega]
 by_cases h1:i=m
 ·rw[aD h1,aD h1,bq]
 ·rw[au h1,au h1]
  by_cases h2:m<i/\i<=k
  ·rw[aD h2,aD h2,bq]
  ·rw[au h2,au h2,bq]
theorem BH (O:Orc prog w A s κ key D)(hD:∀ x∈a₀.toList,D x)(S:Sok κ key D a₀ lo st){n ok:Nat}(h1:1<=ok)(h2:ok<=n)(hn:lo+n<=a₀.size)(sg:kf key (arrOf st) lo ok){Q:Bool->SortSt->Prop}
  (h:∀ st',Sok κ key D a₀ lo st'->kf key (arrOf st') lo n->Q true st'):wpS (model prog w) A E s (binarySort' lo n ok) Q st:=by
 refine ay (cO (bQ (I:=λk c st'=>Sok κ key D a₀ lo st'/\c=(none,())/\kf key (arrOf st') lo k) (Q:=λc st'=>Sok κ key D a₀ lo st'/\c=(none,())/\kf key (arrOf st') lo n) ?_ ?_ ⟨S,rfl,by rw[show max ok 1=ok by omega];exact sg⟩) ?_)
 ·rintro k c st' hk1 hk ⟨S1,rfl,sg⟩
  dsimp only
  have hs:=S1.size
  refine ay (cO (bQ (I:=λx c st2=>st'=st2/\∃ l r,c=(none,l,r)/\l<=r/\r<=k/\r+x<=k+l/\(∀ i,i<l->Ka key (arrOf st') (lo+i)<=Ka key (arrOf st') (lo+k))/\(∀ i,r<=i->i<k->Ka key (arrOf st') (lo+k)<=Ka key (arrOf st') (lo+i)))
   (Q:=λc st2=>st'=st2/\∃ l r,c=(none,l,r)/\l<=k/\(∀ i,i<l->Ka key (arrOf st') (lo+i)<=Ka key (arrOf st') (lo+k))/\(∀ i,l<=i->i<k->Ka key (arrOf st') (lo+k)<=Ka key (arrOf st') (lo+i))) ?_ ?_ ⟨rfl,0,k,rfl,aW _,aq _,by omega,λi z=>absurd z (by omega),λi a b=>absurd b (by omega)⟩) ?_)
  ·rintro x c st2 _ hx ⟨rfl,l,r,rfl,a1,a2,a3,a4,a5⟩
   dsimp only
   refine fz (λg=>aF ⟨rfl,l,r,rfl,by omega,a4,λi b1 b2=>a5 i (by omega) b2⟩) (λg=>?_)
   refine ay (mT O hD S1 (by omega) (by omega) ?_)
   dsimp only
   by_cases z:Ka key (arrOf st') (lo+k)<Ka key (arrOf st') (lo+(l+r)/2)
   ·rw[aD (by simpa using z)]
    refine aF ⟨rfl,l,_,rfl,by omega,by omega,by omega,a4,λi b1 b2=>?_⟩
    have:=sg ((l+r)/2) i b1 b2
    omega
   ·rw[au (by simpa using z)]
    refine aF ⟨rfl,_,r,rfl,by omega,by omega,by omega,λi b1=>?_,a5⟩
    have:=sg i ((l+r)/2) (by omega) (by omega)
    omega
  ·rintro c st2 ⟨rfl,l,r,rfl,a1,a2,a3,a4,a5⟩
   exact⟨rfl,l,r,rfl,by omega,a4,λi b1 b2=>a5 i (by omega) b2⟩
  rintro c st2 ⟨rfl,l,r,rfl,a1,a4,a5⟩
  dsimp only
  have G:∀ i,Ka key (bubble (arrOf st') (lo+k) (lo+k-(lo+l))) i=if i=lo+l then Ka key (arrOf st') (lo+k)else if lo+l<i/\i<=lo+k then Ka key (arrOf st') (i-1)else Ka key (arrOf st') i:=λi=>DS (by omega) (by omega)
  refine ay (wpS_modify (aF ⟨⟨S1.kind,S1.fail,(bubble_perm _ _ _).trans S1.perm,S1.pend.congr λj _ hj=>?_⟩,rfl,t4.seg λi b1 b2=>?_⟩))
  ·show Ka key (bubble (arrOf st') (lo+k) (lo+k-(lo+l))) j=_
   rw[G,au (by omega),au (by omega)]
  ·show Ka key (bubble (arrOf st') (lo+k) (lo+k-(lo+l))) (lo+i-1)<=Ka key (bubble (arrOf st') (lo+k) (lo+k-(lo+l))) (lo+i)
   rw[G,G]
   have R:=sg.rise
   by_cases c1:i<l
   ·rw[au (by omega),au (by omega),au (by omega),au (by omega)]
    exact R i b1 (by omega)
   ·by_cases c2:i=l
    ·rw[au (by omega),au (by omega),aD (by omega),show lo+i-1=lo+(i-1) by omega]
     exact a4 (i-1) (by omega)
    ·rw[au (show ¬lo+i=lo+l by omega),aD (show lo+l<lo+i/\lo+i<=lo+k by omega)]
     by_cases c3:i-1=l
     ·rw[aD (by omega),show lo+i-1=lo+(i-1) by omega]
      exact a5 (i-1) (by omega) (by omega)
     ·rw[au (by omega),aD (by omega)]
      have:=R (i-1) (by omega) (by omega)
      rw[show lo+(i-1)-1=lo+i-1-1 by omega,show lo+(i-1)=lo+i-1 by omega]at this
      exact this
 ·rintro c st' ⟨S1,rfl,sg⟩
  rw[show max (max ok 1) n=n by omega]at sg
  exact⟨S1,rfl,sg⟩
 rintro c st' ⟨S1,rfl,sg⟩
 exact aF (h st' S1 sg)
end
section
variable {prog:Program}{w:World}{A:Around}{E:Value->Shared->Prop}{s:Shared}{κ:SortKind}{key:Keyed->Int}{D:Keyed->Prop}{a₀:Array Keyed}{lo:Nat}{st:SortSt}
theorem Pd.mod {arr:Array Keyed}{f:Nat×Nat×Nat->Nat×Nat×Nat}(h1:∀ x,(f x).1=x.1)(h2:∀ x,(f x).2.1=x.2.1):∀ {p:List (Nat×Nat×Nat)}{s lo:Nat} (i:Nat),Pd key arr s p lo->Pd key arr s (p.modify i f) lo
 |[],s,lo,i,h=>by cases i<;>exact h
 |q::p,s,lo,0,h=>by
  show Pd key arr s (f q::p) lo
  exact⟨(h1 q).trans h.1,by rw[h2];exact h.2.1,by rw[h2];exact h.2.2.1,by rw[h2];exact h.2.2.2⟩
 |q::p,s,lo,i+1,h=>⟨h.1,h.2.1,h.2.2.1,Pd.mod h1 h2 i h.2.2.2⟩
theorem Sok.push (S:Sok κ key D a₀ lo st){m:Nat}(h1:1<=m)(sg:kf key (arrOf st) lo m){pw:Nat} :Sok κ key D a₀ (lo+m) (setPending st ((pendingOf st).push (lo,m,pw))):=
 ⟨S.kind,S.fail,S.perm,by
  show Pd key (arrOf st) 0 ((pendingOf st).push (lo,m,pw)).toList (lo+m)
  rw[cc]
  exact S.pend.snoc h1 sg⟩
theorem Sok.GF (S:Sok κ key D a₀ lo st){f:Nat×Nat×Nat->Nat×Nat×Nat}(h1:∀ x,(f x).1=x.1)(h2:∀ x,(f x).2.1=x.2.1){i:Nat} :Sok κ key D a₀ lo (setPending st ((pendingOf st).modify i f)):=
 ⟨S.kind,S.fail,S.perm,by
  show Pd key (arrOf st) 0 ((pendingOf st).modify i f).toList lo
  rw[Array.toList_modify]
  exact S.pend.mod h1 h2 i⟩
theorem Sok.Es (S:Sok κ key D a₀ lo st)(pw i:Nat):Sok κ key D a₀ lo (setPending st ((pendingOf st).modify i λx=>(x.1,x.2.1,pw))):=S.GF (f:=λx=>(x.1,x.2.1,pw)) (λ_=>rfl) (λ_=>rfl)
theorem qD:∀ (f n r:Nat),1<=n->1<=minRun' f n r
 | 0,n,r,h=>by show 1<=n+r;omega
 |f+1,n,r,h=>by
  rw[minRun'_succ]
  by_cases g:n<64
  ·rw[aD g];omega
  ·rw[au g];exact qD f _ _ (by omega)
theorem yX (O:Orc prog w A s κ key D)(hD:∀ x∈a₀.toList,D x)(S:Sok κ key D a₀ 0 st)(e0:arrOf st=a₀)(ep:pendingOf st = #[]){Q:Unit->SortSt->Prop}
  (h:∀ st',(arrOf st').Perm a₀->failedOf st'=none->kf key (arrOf st') 0 a₀.size->Q () st'):wpS (model prog w) A E s sortRuns' Q st:=by
 rw[sortRuns'_eq]
 refine ay (wpS_get ?_)
 dsimp only
 rw[e0]
 refine ay (cO (bQ (I:=λx c st'=>∃ lo,c=(none,lo)/\Sok κ key D a₀ lo st'/\lo<=a₀.size/\x<=lo)
  (Q:=λc st'=>c=(none,a₀.size)/\Sok κ key D a₀ a₀.size st') ?_ ?_ ⟨0,rfl,S,aW _,aq _⟩) ?_)
 ·rintro x c st1 _ hx ⟨lo,rfl,S1,l1,l2⟩
  dsimp only
  refine fz (λg=>aF ?_) (λg=>?_)
  ·have:lo=a₀.size:=by omega
   subst this
   exact⟨rfl,S1⟩
  refine ay (yy O hD S1 (by omega) (by omega) λn st2 S2 n1 n2 sg=>?_)
  dsimp only
  have mp:=qD a₀.size a₀.size 0 (by omega)
  apply fz
  case' h1=>
   intro g2
   refine ay (iY (eR ⟨rfl,?_⟩))
   refine ay (BH O hD S2 n1 (by omega) (by omega) sg λst3 S3 sg3=>?_)
   simp only[Bool.not_true,cu,di]
   have n3:1<=min (a₀.size-lo) (minRun' a₀.size a₀.size 0):=by omega
   have n4:min (a₀.size-lo) (minRun' a₀.size a₀.size 0)<=a₀.size-lo:=by omega
   generalize min (a₀.size-lo) (minRun' a₀.size a₀.size 0)=m at n3 n4 sg3 ⊢
  case' h2=>
   intro g2
   have S3:=S2
   have sg3:=sg
   have n3:=n1
   have n4:=n2
   generalize n=m at n3 n4 sg3 ⊢
   generalize st2=st3 at S3 sg3 ⊢
  all_goals
   refine ay (wpS_get ?_)
   split
   ·rename_i s1 nn1 _ _
    refine ay (cO (bQ (I:=λy c st'=>c=(none,())/\Sok κ key D a₀ lo st'/\kf key (arrOf st') lo m) (Q:=λc st'=>c=(none,())/\Sok κ key D a₀ lo st'/\kf key (arrOf st') lo m) ?_ (λc st' z=>z) ⟨rfl,S3,sg3⟩) ?_)
    ·rintro y c st4 _ hy ⟨rfl,S4,sg4⟩
     refine ay (wpS_get ?_)
     split
     ·rename_i q
      refine fz (λ_=>aF ⟨rfl,S4,sg4⟩) (λ_=>?_)
      have hz:1<(pendingOf st4).size:=by
       by_cases z:(pendingOf st4).size>1
       ·exact z
       ·rw[au z]at q;cases q
      refine ay (qE O hD S4 l1 (by omega) λst5 S5 _ k5=>?_)
      simp only[Bool.not_true,cu,di]
      exact aF ⟨rfl,S5,sg4.congr λj h1 _=>k5 j h1⟩
     ·exact aF ⟨rfl,S4,sg4⟩
    rintro c st4 ⟨rfl,S4,sg4⟩
    dsimp only
    refine ay (wpS_modify (ay (wpS_modify (aF ⟨lo+m,rfl,(S4.Es _ _).push n3 sg4,by omega,by omega⟩))))
   ·exact ay (wpS_modify (aF ⟨lo+m,rfl,S3.push n3 sg3,by omega,by omega⟩))
 ·rintro c st1 ⟨lo,rfl,S1,l1,l2⟩
  have:lo=a₀.size:=by omega
  subst this
  exact⟨rfl,S1⟩
 rintro c st1 ⟨rfl,S1⟩
 dsimp only
 have pl:∀ st',Sok κ key D a₀ a₀.size st'->(pendingOf st').size<=a₀.size:=λst' S'=>by
  have:=S'.pend.le
  rw[aw]at this
  omega
 refine ay (cO (bQ (I:=λx c st'=>c=(none,())/\Sok κ key D a₀ a₀.size st'/\(pendingOf st').size+x<=a₀.size+1)
  (Q:=λc st'=>c=(none,())/\Sok κ key D a₀ a₀.size st'/\(pendingOf st').size<=1) ?_ ?_ ⟨rfl,S1,by have:=pl _ S1;omega⟩) ?_)
 ·rintro x c st2 _ hx ⟨rfl,S2,p2⟩
  refine ay (wpS_get ?_)
  refine fz (λg=>aF ⟨rfl,S2,g⟩) (λg=>?_)
  refine ay (qE O hD S2 (aq _) ?_ λst5 S5 k5 _=>?_)
  ·generalize (if(pendingOf st2).size-2>0 then _ else _:Option Nat)=o
   split<;>omega
  ·simp only[Bool.not_true,cu,di]
   exact aF ⟨rfl,S5,by omega⟩
 ·rintro c st2 ⟨rfl,S2,p2⟩
  exact⟨rfl,S2,by omega⟩
 rintro c st2 ⟨rfl,S2,p2⟩
 refine aF (h st2 S2.perm S2.fail ?_)
 have pe:=S2.pend
 have pz:(pendingOf st2).toList.length<=1:=by rw[aw];exact p2
 generalize (pendingOf st2).toList=p at pe pz
 match p,pe,pz with
 |[],pe,_=>
  have pe:0=a₀.size:=pe
  intro i j _ hj
  omega
 |[q],pe,_=>
  obtain⟨_,_,sg,e⟩:=pe
  have e:0+q.2.1=a₀.size:=e
  rw[cX]at e
  rw[<-e];exact sg
end
end TL
namespace TL
open PySem PySem.W PyProof.Rows
section
variable {N:Nat}{key:Nat->Int}{cmp:Nat->Nat->(Bool->Shared->Prop)->Shared->Prop}{R:Shared->Prop}
end
end TL
namespace TL
open PySem PySem.Spec PyProof.Rows L2
section
variable {prog:Program}{w:World}{A:Around}{E:Value->Shared->Prop}{s:Shared}{d it vw:Addr}{o:Obj}{es:Array DictEntry}{ep i:Nat}{ok ov:Value}
end
section
variable {X:Cx}
end
section
variable {prog:Program}{w:World}{A:Around}{E:Value->Shared->Prop}{s:Shared}
end
open PySem.W
section
variable {prog:Program}{w:World}{A:Around}{E:Value->Shared->Prop}{s:Shared}
end
section
variable {prog:Program}{w:World}{A:Around}{E:Value->Shared->Prop}{s:Shared}
def BO (prog:Program)(w:World)(A:Around)(s:Shared)(vs:List Value)(kv:Value->Int):Prop:=
 ∃ κ,(∀ (E:Value->Shared->Prop) (Q:SortKind->Shared->Prop),Q κ s->wpAny (model prog w) A (keyKind' vs.toArray) Q E s)/\Orc prog w A s κ (λx=>kv x.1) (λx=>x.1∈vs)
theorem yE (vs:List Value):∀ x∈(vs.toArray.zip vs.toArray).toList,x.1=x.2/\x.1∈vs:=by
 intro x hx
 rw[Array.toList_zip]at hx
 have:∀ l:List Value,∀ x∈l.zip l,x.1=x.2/\x.1∈l:=by
  intro l
  induction l with
  |nil=>intro x hx;simp at hx
  |cons a l ih=>
   intro x hx
   rw[eD]at hx
   rcases aJ.mp hx with rfl |q
   ·exact⟨rfl,ar⟩
   ·exact⟨(ih x q).1,aC _ (ih x q).2⟩
 exact this vs x hx
theorem rq {a:Addr}{vs:List Value}{n:Nat}{P:Fin->Shared->Prop}{kv:Value->Int}(ho:s.heap.get? a=some (seqObj "list" vs.toArray n))(hz:vs.length<=sizeLine)
  (hk:2<=vs.length->∀ h',(∀ b ob,b≠a->s.heap.get? b=some ob->h'.get? b=some ob)->BO prog w A {s with heap:=h'} vs kv)
  (h:∀ ws:List Value,ws.Perm vs->ws.Pairwise (λx y=>kv x<=kv y)->P (.done (.ret .none)) {s with heap:=sortedHeap s.heap a vs ws.toArray}):
  wpAny (model prog w) A (Builtin.«list.sort» ⟨[.ref a],[]⟩) P E s:=by
 rw[list_sort_plain]
 have ha:a<s.heap.objs.size:=aK ho
 refine ai (listItems_at ho rfl ?_)
 refine ai (listUpdate_at ho rfl ?_ (by rw[aE];exact hz) (aW _))
 obtain⟨e1,ho1⟩:∃ e1,(s.heap.update a (Obj.mapSeq λ_=> #[])).get? a=some (seqObj "list" #[] e1):=⟨_,get?_update_seq ho (λ_=> #[])⟩
 refine ai (seqEpoch_at ho1 rfl ?_)
 refine ai (wpAny_newTuple ?_ (by show vs.length<=_;exact hz))
 refine ai (wpAny_newList ?_ (aW _))
 refine wpAny_holding ?_
 have ho6:(((s.heap.update a (Obj.mapSeq λ_=> #[])).push (seqObj "tuple" vs.toArray 0)).push (seqObj "list" #[] 0)).get? a=some (seqObj "list" #[] e1):=aH _ (aH _ ho1)
 have keep:∀ b ob,b≠a->s.heap.get? b=some ob->(((s.heap.update a (Obj.mapSeq λ_=> #[])).push (seqObj "tuple" vs.toArray 0)).push (seqObj "list" #[] 0)).get? b=some ob:=λb ob hb e=>
  aH _ (aH _ ((Heap.SameBut.update s.heap a (Obj.mapSeq λ_=>(#[]:Array Value))).extBut b ob hb e))
 show wpAny (model prog w) A _ P E {s with heap:=((s.heap.update a (Obj.mapSeq λ_=> #[])).push (seqObj "tuple" vs.toArray 0)).push (seqObj "list" #[] 0)}
 dsimp only
 by_cases h2:vs.toArray.size<2
 ·rw[aD h2,aD h2]
  refine ai (aB ?_)
  rw[StateT.run_pure]
  refine ai (aB ?_)
  dsimp only
  refine ai (seqEpoch_at ho6 rfl ?_)
  have eo:(arrOf (SortSt.mk' general' (vs.toArray.zip vs.toArray) #[] 7 none)).map (·.2)=vs.toArray:=by
   show(vs.toArray.zip vs.toArray).map (·.2)=vs.toArray
   exact Array.map_snd_zip (aq _)
  rw[eo]
  refine ai (listUpdate_at ho6 rfl ?_ (aW _) (by rw[aE];omega))
  simp only[bne_self_eq_false,cu,di]
  have h2':vs.length<2:=by rw[aE]at h2;exact h2
  refine aB (h vs (List.Perm.refl _) ?_)
  match vs,h2' with
  |[],_=>exact List.Pairwise.nil
  |[_],_=>exact cK _ _
 ·rw[au h2,au h2]
  have h2':2<=vs.length:=by rw[aE]at h2;omega
  obtain⟨κ,k1,k2⟩:=hk h2' _ keep
  refine ai (k1 _ _ ?_)
  have zs:=yE vs
  have zm:(vs.toArray.zip vs.toArray).map (·.2)=vs.toArray:=Array.map_snd_zip (aq _)
  have run:wpS (model prog w) A E {s with heap:=((s.heap.update a (Obj.mapSeq λ_=> #[])).push (seqObj "tuple" vs.toArray 0)).push (seqObj "list" #[] 0)} sortRuns' (λ_ st'=>∃ ws:List Value,(arrOf st').map (·.2)=ws.toArray/\ws.Perm vs/\ws.Pairwise (λx y=>kv x<=kv y)/\failedOf st'=none) (SortSt.mk' κ (vs.toArray.zip vs.toArray) #[] 7 none):=by
   refine yX k2 (a₀:=vs.toArray.zip vs.toArray) (λx hx=>(zs x hx).2) (st:=SortSt.mk' κ (vs.toArray.zip vs.toArray) #[] 7 none) ⟨rfl,rfl,Array.Perm.refl _,rfl⟩ rfl rfl λst' pm hf sg=>?_
   have pl:=cW.mp pm
   refine⟨(arrOf st').toList.map (·.2),by rw[<-Array.toList_inj];simp,?_,?_,hf⟩
   ·have:=pl.map (·.2)
    rw[<-Array.toList_map (xs:=vs.toArray.zip vs.toArray),zm]at this
    exact this
   ·rw[bS]
    refine ck.mpr λi j hi hj hij=>?_
    have zz:(arrOf st').size=(vs.toArray.zip vs.toArray).size:=by have:=pl.length_eq;rw[aw,aw]at this;exact this
    rw[aw]at hi hj
    have:=sg i j (by omega) (by omega)
    rw[cX,cX,gT (aZ hi),gT (aZ hj)]at this
    have x1:=(zs _ (pl.mem_iff.mp (dR (show i<(arrOf st').toList.length by rw[aw];exact hi)))).1
    have x2:=(zs _ (pl.mem_iff.mp (dR (show j<(arrOf st').toList.length by rw[aw];exact hj)))).1
    rw[<-x1,<-x2]
    exact this
  refine ai (bR run ?_ λ_ _ e=>e)
  rintro⟨⟨⟩,st'⟩ s' ⟨rfl,ws,IP,hp,hs,hf⟩
  dsimp only
  rw[IP]
  refine ai (seqEpoch_at ho6 rfl ?_)
  refine ai (listUpdate_at ho6 rfl ?_ (aW _) (by rw[aE,hp.length_eq];omega))
  rw[hf]
  simp only[bne_self_eq_false,cu,di]
  exact aB (h ws hp hs)
theorem qh {l:Addr}{vs:List Value}{Q:Value->Shared->Prop}{kv:Value->Int}(hl:s.heap.IsList l vs.toArray)(hz:vs.length<=sizeLine)
  (hk:2<=vs.length->∀ h',(∀ b ob,s.heap.get? b=some ob->h'.get? b=some ob)->BO prog w A.in1.in1 {s with heap:=h'} vs kv)
  (h:∀ ws:List Value,ws.Perm vs->ws.Pairwise (λx y=>kv x<=kv y)->Q (.ref (s.heap.objs.size+1)) {s with heap:=sortedAll s.heap vs ws.toArray}):
  wpAny (model prog w) A (call (.builtin "sorted") [.ref l]) Q E s:=by
 refine Calls.call_function_entry kind_sorted plain_sorted entry_sorted (args_sorted1 _) ?_
 unfold Builtin.«sorted»
 refine ai (m:=checkCount "sorted" 1 1 _) (aB ?_)
 refine ai (collect_list hl ?_ hz)
 refine ai (wpAny_newList ?_ hz)
 have hsz:((s.heap.push (seqObj "list" #[] 0)).update s.heap.objs.size (Obj.mapSeq (· ++ vs.toArray))).objs.size=s.heap.objs.size+1:=by
  rw[Heap.size_update,size_push']
 have hoL:(((s.heap.push (seqObj "list" #[] 0)).update s.heap.objs.size (Obj.mapSeq (· ++ vs.toArray))).push (seqObj "list" vs.toArray 0)).get? (s.heap.objs.size+1)=some (seqObj "list" vs.toArray 0):=by
  rw[<-hsz];exact ba _ rfl
 have keep:∀ b o,s.heap.get? b=some o->(((s.heap.push (seqObj "list" #[] 0)).update s.heap.objs.size (Obj.mapSeq (· ++ vs.toArray))).push (seqObj "list" vs.toArray 0)).get? b=some o:=λb o q=>by
  have hlt:b<s.heap.objs.size:=aK q
  rw[Heap.get?_push_ne _ _ _ (by rw[hsz];exact bo (Nat.lt_succ_of_lt hlt)),Heap.get?_update_ne _ _ _ _ (bo hlt),Heap.get?_push_ne _ _ _ (bo hlt)]
  exact q
 show wpAny _ _ _ _ _ {s with heap:=((s.heap.push (seqObj "list" #[] 0)).update s.heap.objs.size (Obj.mapSeq (· ++ vs.toArray))).push (seqObj "list" vs.toArray 0)}
 rw[hsz]
 have EI:∀ h':Heap,(∀ b ob,b≠s.heap.objs.size+1->(((s.heap.push (seqObj "list" #[] 0)).update s.heap.objs.size (Obj.mapSeq (· ++ vs.toArray))).push (seqObj "list" vs.toArray 0)).get? b=some ob->h'.get? b=some ob)->∀ b ob,s.heap.get? b=some ob->h'.get? b=some ob:=λh' k b ob e=>
  k b ob (λz=>cR b (aT (aK e) (by rw[z];exact eJ _))) (keep b ob e)
 refine ai (wpAny_holding (dz slot_list_sort ⟨_,hoL,rfl⟩ entry_list_sort (rq (kv:=kv) hoL hz (λh2 h' k=>hk h2 h' (EI h' k)) λws a1 a2=>⟨_,rfl,?_⟩) (args_list_sort _)))
 exact aB ⟨_,rfl,h ws a1 a2⟩
end
section
variable {prog:Program}{w:World}{A:Around}{s:Shared}
end
theorem uC {h:Heap} :∀ {vs:List Value}{ds:List PyData}{as:List Addr}{i:Nat}{v:Value}{d:PyData},ReadsAll h vs ds as->vs[i]? = some v->ds[i]? = some d->∃ as',Reads h v d as'
 |[],_,_,i,v,d,_,h1,_=>by simp at h1
 |x::vs,ds,as,i,v,d,r,h1,h2=>by
  cases r with
  |cons r1 r2=>
   cases i with
   |zero=>cases h1;cases h2;exact⟨_,r1⟩
   |succ i=>exact uC r2 (by simpa using h1) (by simpa using h2)
theorem rV {h:Heap} :∀ {vs:List Value}{ds:List PyData}{as:List Addr},ReadsAll h vs ds as->vs.length=ds.length
 |[],_,_,r=>by cases r;rfl
 |x::vs,ds,as,r=>by
  cases r with
  |cons r1 r2=>simp[rV r2]
section
variable {X:Cx}
end
def kvI:Value->Int
 |.int n _=>n
 |_=>0
theorem ints_of:∀ {ns:List Int}{its:List Value},Vals (ns.map V.int) its->(∀ v∈its,∃ t,v = .int (kvI v) t)/\its.map kvI=ns
 |[],its,r=>by cases r;exact⟨λv hv=>by(cases hv),rfl⟩
 |n::ns,its,r=>by
  cases r with
  |cons r1 r2=>
   obtain⟨h1,h2⟩:=ints_of r2
   obtain⟨t,rfl⟩:=r1
   refine⟨λv hv=>?_,by rw[aM,h2];rfl⟩
   rcases aJ.mp hv with rfl |q
   ·exact⟨_,rfl⟩
   ·exact h1 v q
theorem nL:∀ {its:List Value},(∀ v∈its,∃ t,v = .int (kvI v) t)->Vals ((its.map kvI).map V.int) its
 |[],_=>.nil
 |v::its,h=>by
  obtain⟨t,e⟩:=h v ar
  refine .cons ?_ (nL λu hu=>h u (aC _ hu))
  rw[e];exact⟨t,rfl⟩
theorem Ao {prog:Program}{w:World}{A:Around}{s:Shared}{ns:List Int}{its:List Value}(rv:Vals (ns.map V.int) its)(h2:2<=its.length):BO prog w A s its kvI:=by
 obtain⟨h1,_⟩:=ints_of rv
 have ia:=intsAre_of rv
 refine⟨oneType',λE Q hq=>?_,λx y hx hy Q hq=>?_⟩
 ·match its,h2,ia with
  |a::b::r,_,ia=>
   rw[keyKind_ints ia]
   exact aB hq
 ·obtain⟨t,ex⟩:=h1 _ hx
  obtain⟨u,ey⟩:=h1 _ hy
  dsimp only at hq
  rw[keyLt'_oneType,ex,ey]
  exact oneLt_int hq
section
variable {X:Cx}
theorem tY:kd X (.builtin "sorted") (λxs H Q=>∃ a ns,xs = [.ref a]/\SqL X.K H a (ns.map V.int)/\∀ p,H p=none->Q (.ref p) (upd H p (.lst ((srt ns).map V.int)))):=by
 intro pins s σ H xs us Q I r h
 obtain⟨a,ns,rfl,hx,q⟩:=h
 obtain⟨u,rfl,ru⟩:=vals1 r
 cases ru
 obtain⟨its,rv,p,hz⟩:=I.list hx
 have hlen:=rv.length
 rw[aa]at hlen hz
 obtain⟨iv,im⟩:=ints_of rv
 refine qh (kv:=kvI) p.isList (by omega) (λh2 h' _=>Ao rv h2) λws pm sp=>?_
 have e':ws.map kvI=srt ns:=yQ (by rw[<-im];exact pm.map _) (bS.mpr sp)
 obtain⟨e,he⟩:=sortedAll_at s.heap its ws.toArray
 have vo:Vals ((srt ns).map V.int) ws:=by rw[<-e'];exact nL λv hv=>iv v (pm.mem_iff.mp hv)
 refine⟨.ref (s.heap.objs.size+1),_,I.laid (t':=s.toks) (o:=.lst ((srt ns).map V.int)) (λb ob q=>sortedAll_old q) (eJ _) ⟨?_,ws,e,vo,?_⟩,rfl,q _ (I.hok.fresh (eJ _))⟩
 ·rw[aa,nA];exact hz
 ·rw[he]
end
def gM:List Int->List Int->Bool
 |[],[]=>false
 |[],_::_=>true
 |_::_,[]=>false
 |x::xs,y::ys=>if x=y then gM xs ys else decide (x<y)
def ILs (h:Heap)(v:Value)(ns:List Int):Prop:=∃ (a:Addr) (its:Array Value) (n:Nat) (dd:Option Addr) (sl:Array (Option Value)),v = .ref a/\h.get? a=some {cls:=.type "list",dict:=dd,data:=.seq its n,slots:=sl} /\Vals (ns.map V.int) its.toList
open PySem.SeqAt AutoSeq1 MeetsSeq MeetsSeq2 MeetsSeq3 in
theorem A6 (a b:Addr)(p q:Array Value)(n1 n2:Nat)(d1 d2:Option Addr)(l1 l2:Array (Option Value))(xs ys:List Int)(vx:Vals (xs.map V.int) p.toList)(vy:Vals (ys.map V.int) q.toList)(k:Nat):∀ i:Nat,xs.length-i=k->i<=xs.length->i<=ys.length->
  Meets (Builtin.«list.__eq__.loop» ⟨[.ref a,.ref b,rawInt i,rawInt 0],[]⟩) (λA R s=>s.heap.get? a=some {cls:=.type "list",dict:=d1,data:=.seq p n1,slots:=l1} /\s.heap.get? b=some {cls:=.type "list",dict:=d2,data:=.seq q n2,slots:=l2} /\
   R (.ok (.ret (.bool (gM (xs.drop i) (ys.drop i))))) s):=by
 have sx:p.size=xs.length:=by have:=vx.length;rw[aa,aw]at this;exact this.symm
 have sy:q.size=ys.length:=by have:=vy.length;rw[aa,aw]at this;exact this.symm
 obtain⟨ix,mx⟩:=ints_of vx
 obtain⟨iy,my⟩:=ints_of vy
 have gx:∀ j (h:j<xs.length),∃ t,p[j]? = some (.int xs[j] t):=λj h=>by
  have hj:j<p.size:=by omega
  obtain⟨t,e⟩:=ix p[j] (by simp)
  have:kvI p[j]=xs[j]:=by
   have h3:(p.toList.map kvI)[j]? = xs[j]? :=by rw[mx]
   rw[aj,aA,aZ hj,ae h]at h3
   simpa using h3
  exact⟨t,by rw[aZ hj,<-this,<-e]⟩
 have gy:∀ j (h:j<ys.length),∃ t,q[j]? = some (.int ys[j] t):=λj h=>by
  have hj:j<q.size:=by omega
  obtain⟨t,e⟩:=iy q[j] (by simp)
  have:kvI q[j]=ys[j]:=by
   have h3:(q.toList.map kvI)[j]? = ys[j]? :=by rw[my]
   rw[aj,aA,aZ hj,ae h]at h3
   simpa using h3
  exact⟨t,by rw[aZ hj,<-this,<-e]⟩
 induction k with
 |zero=>
  intro i hk i1 i2 prog w A R s h
  obtain⟨hp,g,d,tk,os⟩:=s
  obtain⟨h1,h2,h⟩:=h
  wp_walk using bP h1,bP h2
  have hn:p[((i:Nat):Int).toNat]? = none:=by simp;omega
  rw[hn]
  wp_walk using bP h1,bP h2
  have e1:xs.drop i = []:=cy (by omega)
  rw[e1]at h
  show R (.ok (.ret (.bool (decide (p.size<q.size))))) _
  cases hy:ys.drop i with
  |nil=>
   rw[hy]at h
   have:ys.length<=i:=List.drop_eq_nil_iff.mp hy
   rw[aR (by omega)];exact h
  |cons z r=>
   rw[hy]at h
   have:¬ys.length<=i:=λz'=>by rw[cy z']at hy;cases hy
   rw[aX (by omega)];exact h
 |succ k ih=>
  intro i hk i1 i2 prog w A R s h
  obtain⟨hp,g,d,tk,os⟩:=s
  obtain⟨h1,h2,h⟩:=h
  have hi:i<xs.length:=by omega
  obtain⟨t1,e1⟩:=gx i hi
  have ei1:p[((i:Nat):Int).toNat]? = some (.int xs[i] t1):=e1
  have dx:xs.drop i=xs[i]::xs.drop (i+1):=cm hi
  rw[dx]at h
  wp_walk using bP h1,bP h2
  by_cases hj:i<ys.length
  ·obtain⟨t2,e2⟩:=gy i hj
   have ei2:q[((i:Nat):Int).toNat]? = some (.int ys[i] t2):=e2
   have dy:ys.drop i=ys[i]::ys.drop (i+1):=cm hj
   rw[dy]at h
   rw[ei1,ei2]
   refine ai (wpAny_eqBool_int ?_)
   have h:R (.ok (.ret (.bool (if xs[i]=ys[i]then gM (xs.drop (i+1)) (ys.drop (i+1))else decide (xs[i]<ys[i]))))) _:=h
   by_cases c:xs[i]=ys[i]
   ·rw[aD c]at h
    rw[show(xs[i]==ys[i])=true by simp[c]]
    wp_walk
    rw[show((i:Int)+1)=((i+1:Nat):Int) by push_cast;rfl]
    exact⟨plainId_quiet plain_eq_loop _,codeAny_builtin entry_eq_loop (by
     rw[Around.under_plainId plain_eq_loop _]
     exact ih (i+1) (by omega) (by omega) (by omega) prog w A R _ ⟨h1,h2,h⟩)⟩
   ·rw[au c]at h
    rw[show(xs[i]==ys[i])=false by simp[c]]
    wp_walk using bP h1,bP h2
    rw[ei1,ei2]
    refine ai (wpAny_lt_int ?_)
    exact aB h
  ·have hn:q[((i:Nat):Int).toNat]? = none:=by simp;omega
   rw[cy (show ys.length<=i by omega)]at h
   rw[ei1,hn]
   wp_walk using bP h1,bP h2
   show R (.ok (.ret (.bool (decide (p.size<q.size))))) _
   rw[aR (by omega)];exact h
section
variable {prog:Program}{w:World}{A:Around}{E:Value->Shared->Prop}{s:Shared}
open PySem.SeqAt AutoSeq1 MeetsSeq MeetsSeq2 MeetsSeq3 in
theorem we {a b:Addr}{p q:Array Value}{n1 n2:Nat}{d1 d2:Option Addr}{l1 l2:Array (Option Value)}{xs ys:List Int}(vx:Vals (xs.map V.int) p.toList)(vy:Vals (ys.map V.int) q.toList):
  Meets (Builtin.«list.__lt__» ⟨[.ref a,.ref b],[]⟩) (λA R s=>s.heap.get? a=some {cls:=.type "list",dict:=d1,data:=.seq p n1,slots:=l1} /\s.heap.get? b=some {cls:=.type "list",dict:=d2,data:=.seq q n2,slots:=l2} /\R (.ok (.ret (.bool (gM xs ys)))) s):=by
 intro prog w A R s h
 obtain⟨hp,g,d,tk,os⟩:=s
 obtain⟨h1,h2,h⟩:=h
 have f3:=AutoSeq1.sub_list_list
 wp_walk using bP h1,bP h2
 exact⟨plainId_quiet plain_eq_loop _,codeAny_builtin entry_eq_loop (by
  rw[Around.under_plainId plain_eq_loop _]
  exact A6 a b p q n1 n2 d1 d2 l1 l2 xs ys vx vy _ 0 rfl (aW _) (aW _) prog w A R _ ⟨h1,h2,h⟩)⟩
end
theorem ou {X:Cx}{K:PySem.W.Frag}(eK:X.K=K):kd X (.builtin "sorted") (λxs H Q=>∃ a ns,xs = [.ref a]/\SqL K H a (ns.map V.int)/\ns.length<1000/\∀ p,H p=none->Q (.ref p) (upd H p (.lst ((srt ns).map V.int)))):=by
 subst eK
 intro pins s σ H xs us Q I r h
 obtain⟨a,ns,e,hx,_,q⟩:=h
 exact tY pins s σ H xs us Q I r ⟨a,ns,e,hx,q⟩
theorem lR:∀ xs:List Int,gM xs xs=false
 |[]=>rfl
 |x::xs=>by show(if x=x then gM xs xs else decide (x<x))=false;rw[aD rfl];exact lR xs
theorem qG:∀ xs ys:List Int,gM xs ys=false->gM ys xs=false->xs=ys
 |[],[],_,_=>rfl
 |[],_::_,h,_=>by cases h
 |_::_,[],_,h=>by cases h
 |x::xs,y::ys,h,k=>by
  have h:(if x=y then gM xs ys else decide (x<y))=false:=h
  have k:(if y=x then gM ys xs else decide (y<x))=false:=k
  by_cases e:x=y
  ·rw[aD e]at h
   rw[aD e.symm]at k
   rw[e,qG xs ys h k]
  ·rw[au e]at h
   rw[au (λz=>e z.symm)]at k
   have h:=of_decide_eq_false h
   have k:=of_decide_eq_false k
   omega
theorem lx:∀ xs ys zs:List Int,gM xs ys=true->gM ys zs=true->gM xs zs=true
 |[],_,[],_,h=>by rename_i ys _;cases ys<;>cases h
 |[],_,_::_,_,_=>rfl
 |_::_,[],_,h,_=>by cases h
 |_::_,_::_,[],_,h=>by cases h
 |x::xs,y::ys,z::zs,h,k=>by
  have h:(if x=y then gM xs ys else decide (x<y))=true:=h
  have k:(if y=z then gM ys zs else decide (y<z))=true:=k
  show(if x=z then gM xs zs else decide (x<z))=true
  by_cases e:x=y
  ·rw[aD e]at h
   by_cases f:y=z
   ·rw[aD f]at k
    rw[aD (e.trans f)]
    exact lx xs ys zs h k
   ·rw[au f]at k
    have k:=bL k
    rw[au (by omega)]
    exact aX (by omega)
  ·rw[au e]at h
   have h:=bL h
   by_cases f:y=z
   ·rw[au (by omega)]
    exact aX (by omega)
   ·rw[au f]at k
    have k:=bL k
    rw[au (by omega)]
    exact aX (by omega)
def rW (tss:List (List Int))(t:List Int):Int:=((tss.filter λu=>gM u t).length:Int)
theorem nh {α:Type}{p q:α->Bool} :∀ {l:List α},(∀ y∈l,p y=true->q y=true)->(l.filter p).length<=(l.filter q).length
 |[],_=>aq _
 |z::l,h=>by
  have ih:=nh (l:=l) λa ha=>h a (aC _ ha)
  have hz:=h z ar
  rw[bY,bY]
  cases pz:p z with
  |true=>rw[hz pz];simpa using ih
  |false=>cases q z<;>simp<;>omega
theorem ko {α:Type}{p q:α->Bool} :∀ {l:List α}{x:α},(∀ y∈l,p y=true->q y=true)->x∈l->p x=false->q x=true->(l.filter p).length<(l.filter q).length
 |[],x,_,hx,_,_=>by cases hx
 |y::l,x,h,hx,px,qx=>by
  have hl:∀ z∈l,p z=true->q z=true:=λz hz=>h z (aC _ hz)
  have le:(l.filter p).length<=(l.filter q).length:=nh hl
  rw[bY,bY]
  rcases aJ.mp hx with rfl |hx
  ·rw[px,qx];simp;omega
  ·have ih:=ko hl hx px qx
   cases py:p y with
   |true=>rw[h y ar py];simpa using ih
   |false=>cases q y<;>simp<;>omega
theorem w4 {tss:List (List Int)}{x y:List Int}(hx:x∈tss)(hy:y∈tss):decide (rW tss x<rW tss y)=gM x y:=by
 cases h:gM x y with
 |true=>
  refine aX ?_
  have:=ko (p:=λu=>gM u x) (q:=λu=>gM u y) (l:=tss) (λu _ hu=>lx u x y hu h) hx (lR x) h
  unfold rW
  omega
 |false=>
  refine aR ?_
  cases k:gM y x with
  |true=>
   have:=ko (p:=λu=>gM u y) (q:=λu=>gM u x) (l:=tss) (λu _ hu=>lx u y x hu k) hy (lR y) k
   unfold rW
   omega
  |false=>rw[qG x y h k];omega
theorem ya {α β:Type}{f:α->β}{l m:List β}(h:l.Perm m):∀ Z:List α,Z.map f=m->∃ Z':List α,Z'.Perm Z/\Z'.map f=l:=by
 induction h with
 |nil=>intro Z hZ;exact⟨Z,List.Perm.refl _,hZ⟩
 |@cons x l1 l2 _ ih=>
  intro Z hZ
  cases Z with
  |nil=>cases hZ
  |cons z Z=>
   rw[aM,List.cons.injEq]at hZ
   obtain⟨Z',p,e⟩:=ih Z hZ.2
   exact⟨z::Z',p.cons z,by rw[aM,e,hZ.1]⟩
 |@swap x y l1=>
  intro Z hZ
  match Z,hZ with
  |a::b::Z,hZ=>
   simp only[aM,List.cons.injEq]at hZ
   exact⟨b::a::Z,List.Perm.swap _ _ _,by rw[aM,aM,hZ.1,hZ.2.1,hZ.2.2]⟩
 |trans _ _ ih1 ih2=>
  intro Z hZ
  obtain⟨Z1,p1,e1⟩:=ih2 Z hZ
  obtain⟨Z2,p2,e2⟩:=ih1 Z1 e1
  exact⟨Z2,p2.trans p1,e2⟩
theorem qm {h:Heap} :∀ {t:List Int}{vs:List Value}{as:List Addr},ReadsAll h vs (t.map PyData.int) as->Vals (t.map V.int) vs
 |[],vs,as,r=>by cases r;exact .nil
 |x::t,vs,as,r=>by
  cases r with
  |cons r1 r2=>cases r1;exact .cons ⟨_,rfl⟩ (qm r2)
theorem De {h:Heap}{v:Value}{t:List Int}{as:List Addr}(r:Reads h v (dI t) as):ILs h v t:=by
 unfold dI at r
 cases r with
 |@list a o vs n xs as ho hc hd rs=>
  obtain⟨cls,dict,data,slots⟩:=o
  dsimp only at hc hd
  subst hc
  subst hd
  exact⟨a,vs,n,dict,slots,rfl,ho,qm rs⟩
theorem ILs.one {h:Heap}{v:Value}{t t':List Int}(a:ILs h v t)(b:ILs h v t'):t=t':=by
 obtain⟨p,its,n,dd,sl,rfl,ho,va⟩:=a
 obtain⟨p',its',n',dd',sl',e,ho',vb⟩:=b
 cases e
 rw[ho]at ho'
 cases ho'
 rw[<-(ints_of va).2,<-(ints_of vb).2]
theorem ILs.keep {h h':Heap}(k:∀ b o,h.get? b=some o->h'.get? b=some o){v:Value}{t:List Int}(a:ILs h v t):ILs h' v t:=by
 obtain⟨p,its,n,dd,sl,rfl,ho,va⟩:=a
 exact⟨p,its,n,dd,sl,rfl,k _ _ ho,va⟩
section
variable {prog:Program}{w:World}{A:Around}{E:Value->Shared->Prop}{s:Shared}
theorem vW {x y:Value}{xs ys:List Int}{Q:Bool->Shared->Prop}(hu:A.units<cLine)(hx:ILs s.heap x xs)(hy:ILs s.heap y ys)(h:Q (gM xs ys) s):wpAny (model prog w) A (oneLt' true x y) Q E s:=by
 obtain⟨a,p,n,d1,l1,rfl,ho,vx⟩:=hx
 obtain⟨b,q,m,d2,l2,rfl,ho2,vy⟩:=hy
 rw[oneLt'_eq]
 simp only[if_true]
 refine ai (wpAny_cRoomFor hu ?_)
 refine ai (wpAny_callSpecialIfBound?_slot ⟨_,ho,rfl⟩ F.slot_list_lt (eT F.slot_list_lt ⟨_,ho,rfl⟩ F.entry_list_lt (F.args_list_lt_2 _ _) (we vx vy) ⟨ho,ho2,?_⟩))
 exact dW h
noncomputable def qP (Z:List (Value×List Int)) (v:Value):List Int:=open Classical in if h:∃ t,(v,t)∈Z then h.choose else[]
theorem oT {Z:List (Value×List Int)}{v:Value}{t:List Int}(h:(v,t)∈Z):(v,qP Z v)∈Z:=by
 have hx:∃ t,(v,t)∈Z:=⟨t,h⟩
 unfold qP
 rw[dif_pos hx]
 exact hx.choose_spec
theorem yz {Z:List (Value×List Int)}(hu:A.units<cLine)(hz:∀ z∈Z,ILs s.heap z.1 z.2)(h2:2<=(Z.map (·.1)).length):BO prog w A s (Z.map (·.1)) (λv=>rW (Z.map (·.2)) (qP Z v)):=by
 refine⟨oneType',λE Q hq=>?_,λx y hx hy Q hq=>?_⟩
 ·refine kas_kind (T:=Value.type "list") h2 (λv hv=>?_) (by decide +kernel) (by decide +kernel) hq
  obtain⟨z,hz',rfl⟩:=ao.mp hv
  obtain⟨a,p,n,d1,l1,e,ho,_⟩:=hz z hz'
  rw[e]
  exact(Looks.ld ho).andThen .now
 ·obtain⟨z1,h1,e1⟩:=ao.mp hx
  obtain⟨z2,h3,e2⟩:=ao.mp hy
  have m1:(x.1,qP Z x.1)∈Z:=oT (t:=z1.2) (by rw[<-e1];exact h1)
  have m2:(y.1,qP Z y.1)∈Z:=oT (t:=z2.2) (by rw[<-e2];exact h3)
  rw[w4 (ao.mpr ⟨_,m1,rfl⟩) (ao.mpr ⟨_,m2,rfl⟩)]at hq
  rw[keyLt'_oneType]
  exact vW hu (hz _ m1) (hz _ m2) hq
end
theorem ue {vs:List V}{its:List Value} :Vals vs its->∀ {ts:List (List Int)},ts.length=vs.length->∀ z∈(vs.zip ts).zip its,RelV z.1.1 z.2
 |.nil,ts,_,z,hz=>by simp at hz
 |.cons r1 r2,[],h,z,hz=>by simp at h
 |.cons r1 r2,t::ts,h,z,hz=>by
  rw[eD,eD]at hz
  rcases aJ.mp hz with rfl |q
  ·exact r1
  ·exact ue r2 (by simpa using h) z q
section
variable {X:Cx}
def Cz (K:PySem.W.Frag):List V->Hp->VK->Prop:=λxs H Q=>∃ (p:Addr) (vs:List V) (ts:List (List Int)),xs = [.ref p]/\SqL K H p vs/\Das K H (ts.map dI) vs/\
 ∀ (q:Addr) (Z:List (V×List Int)),H q=none->Z.Perm (vs.zip ts)->(Z.map (·.2)).Pairwise (λa b=>gM b a=false)->Q (.ref q) (upd H q (.lst (Z.map (·.1))))
theorem qV (hu:X.A.units+64<cLine):kd X (.builtin "sorted") (Cz X.K):=by
 intro pins s σ H xs us Q I r h
 obtain⟨a,vs,ts,rfl,hx,hd,q⟩:=h
 obtain⟨u,rfl,ru⟩:=vals1 r
 cases ru
 obtain⟨its,rv,p,hz⟩:=I.list hx
 have hlen:=rv.length
 obtain⟨as,rds⟩:=Das.reads I hd rv
 have il:its.length=ts.length:=by rw[rV rds,aa]
 have zi:(its.zip ts).map (·.1)=its:=List.map_fst_zip (by omega)
 have zt:(its.zip ts).map (·.2)=ts:=List.map_snd_zip (by omega)
 have hI:∀ z∈its.zip ts,ILs s.heap z.1 z.2:=λz hz'=>by
  obtain⟨i,hi,e⟩:=bt.mp hz'
  rw[bK]at hi
  rw[cZ]at e
  obtain⟨as',rd⟩:=uC rds (i:=i) (v:=z.1) (d:=dI z.2) (by rw[<-e];exact ae (by omega)) (by rw[<-e,aj,ae (by omega)];rfl)
  exact De rd
 refine qh (kv:=λv=>rW ((its.zip ts).map (·.2)) (qP (its.zip ts) v)) p.isList (by omega) (λh2 h' keep=>?_) λws pm sp=>?_
 ·have:=yz (prog:=X.prog) (w:=X.w) (A:=X.A.in1.in1) (s:={s with heap:=h'}) (Z:=its.zip ts) (by simp only[Around.in1_units];omega) (λz hz'=>(hI z hz').keep keep) (by rw[zi];exact h2)
  rw[zi]at this
  exact this
 ·obtain⟨Z',zp,ze⟩:=ya (f:=λz:(V×List Int)×Value=>z.2) pm ((vs.zip ts).zip its) (List.map_snd_zip (by rw[bK];omega))
  obtain⟨e,he⟩:=sortedAll_at s.heap its ws.toArray
  have rel:=ue rv (ts:=ts) (by omega)
  have cont:∀ z∈Z',qP (its.zip ts) z.2=z.1.2:=λz hz'=>by
   obtain⟨i,hi,e⟩:=bt.mp (zp.mem_iff.mp hz')
   rw[bK,bK]at hi
   rw[cZ,cZ]at e
   have m:(z.2,z.1.2)∈its.zip ts:=by
    rw[<-e]
    exact bt.mpr ⟨i,by rw[bK];omega,by rw[cZ]⟩
   exact(hI _ (oT m)).one (hI _ m)
  have vo:Vals ((Z'.map (·.1)).map (·.1)) ws:=by
   rw[<-ze,bJ]
   have:∀ L:List ((V×List Int)×Value),(∀ z∈L,RelV z.1.1 z.2)->Vals (L.map λz=>z.1.1) (L.map λz=>z.2):=by
    intro L
    induction L with
    |nil=>intro _;exact .nil
    |cons z L ih=>intro hL;exact .cons (hL z ar) (ih λy hy=>hL y (aC _ hy))
   exact this Z' λz hz'=>rel z (zp.mem_iff.mp hz')
  refine⟨.ref (s.heap.objs.size+1),_,I.laid (t':=s.toks) (o:=.lst ((Z'.map (·.1)).map (·.1))) (λb ob q=>sortedAll_old q) (eJ _) ⟨?_,ws,e,vo,?_⟩,rfl,q _ (Z'.map (·.1)) (I.hok.fresh (eJ _)) ?_ ?_⟩
  ·rw[aa,aa,zp.length_eq,bK,bK];omega
  ·rw[he]
  ·have:=zp.map (·.1)
   rw[List.map_fst_zip (by rw[bK];omega)]at this
   exact this
  ·rw[<-ze,bS]at sp
   rw[bJ,bS]
   refine cI (λ{x y} hx' hy' hxy=>?_) sp
   rw[cont x hx',cont y hy']at hxy
   show gM y.1.2 x.1.2=false
   have m1:x.1.2∈(its.zip ts).map (·.2):=by rw[zt];exact(cP (cP (zp.mem_iff.mp hx')).1).2
   have m2:y.1.2∈(its.zip ts).map (·.2):=by rw[zt];exact(cP (cP (zp.mem_iff.mp hy')).1).2
   rw[<-w4 m2 m1]
   exact aR (by omega)
end
end TL
namespace TL
open PySem PySem.Spec PyProof.Rows L2
section
variable {X:Cx}{K:PySem.W.Frag}
end
open PySem.W
theorem pE:isSubtype (.type "range_iterator") (.type "reversed")=pure false:=by rw[isSubtype_type];kernel_rfl
theorem rP {j:Int}(h:0<=j):Builtin.Range.rangeSize 0 j 1=j:=by
 unfold Builtin.Range.rangeSize
 rw[aD (by decide)]
 split<;>omega
section
variable {prog:Program}{w:World}{A:Around}{E:Value->Shared->Prop}{s:Shared}
theorem xS {p:Addr}{j:Int}{t1 t2 t3:Tok}{Q:Value->Shared->Prop}(ho:s.heap.get? p=some {cls:=.type "range",data:=.fields #[.int 0 t1,.int j t2,.int 1 t3]})(j0:0<=j)(j1:j<=1000)
  (h:Q (.ref s.heap.objs.size) {s with heap:=s.heap.push {cls:=.type "range_iterator",data:=.fields #[rawInt (j-1),rawInt j,rawInt (-1)]}}):wpAny (model prog w) A (call (.builtin "range.__reversed__") [.ref p]) Q E s:=by
 refine dz eh ⟨_,ho,rfl⟩ PySem.F.entry_range_reversed ?_ (PySem.F.args_range_reversed_1 _)
 unfold Builtin.«range.__reversed__»
 refine ai (eA (a:=Value.ref p) rfl ?_)
 unfold Builtin.Range.rangeFields
 have e0:(0:Int)+(Builtin.Range.rangeSize 0 j 1-1)*1=j-1:=by rw[rP j0];omega
 have e1:Builtin.Range.rangeSize 0 j 1=j:=rP j0
 have e2:(Builtin.Range.rangeFitsLong 0&&Builtin.Range.rangeFitsLong j&&Builtin.Range.rangeFitsLong 1&&Builtin.Range.rangeFitsLong (-1)&&Builtin.Range.rangeFitsLong (0-1)&&Builtin.Range.rangeFitsLong (Builtin.Range.rangeSize 0 j 1))=true:=by
  rw[e1]
  simp only[Builtin.Range.rangeFitsLong,dS,eI]
  omega
 refine ai ?_
 refine ai (wpAny_field ho rfl (x:=.int 0 t1) rfl ?_)
 refine ai (m:=asInt? (.int 0 t1)) (aB ?_)
 refine ai (wpAny_field ho rfl (x:=.int j t2) rfl ?_)
 refine ai (m:=asInt? (.int j t2)) (aB ?_)
 refine ai (wpAny_field ho rfl (x:=.int 1 t3) rfl ?_)
 refine ai (m:=asInt? (.int 1 t3)) (aB ?_)
 refine aB ?_
 dsimp only
 rw[e2,e0,e1]
 simp only[Bool.not_true,cu,di,if_true]
 exact ai (dX (aB ⟨_,rfl,h⟩))
theorem ro {p:Addr}{j:Int}{t1 t2 t3:Tok}{Q:Value->Shared->Prop}(ho:s.heap.get? p=some {cls:=.type "range",data:=.fields #[.int 0 t1,.int j t2,.int 1 t3]})(j0:0<=j)(j1:j<=1000)
  (h:Q (.ref s.heap.objs.size) {s with heap:=s.heap.push {cls:=.type "range_iterator",data:=.fields #[rawInt (j-1),rawInt j,rawInt (-1)]}}):
  codeAny (model prog w) A (.call (.builtin "reversed.__new__") ⟨[.type "reversed",.ref p],[]⟩) (wants Q E) s:=by
 have hT:s.TypeIs (.ref p) "range" :=⟨_,ho,rfl⟩
 refine codeAny_of_tree ?_
 show wpAny _ A.in1 (checkBuiltinCall "reversed.__new__" ⟨[.type "reversed",.ref p],[]⟩ >>= λ_=>again (.builtin "reversed.__new__" ⟨[.type "reversed",.ref p],[]⟩)) _ _ s
 refine ai (eA (PySem.F.newCall_reversed_1 _) (aB ⟨plainId_quiet PySem.F.plain_reversed_new _,codeAny_builtin PySem.F.entry_reversed_new ?_⟩))
 rw[Around.under_plainId PySem.F.plain_reversed_new _]
 unfold Builtin.«reversed.__new__»
 refine ai (eA (newClass_reversed _) ?_)
 dsimp only
 refine ai (eA (a:=()) (by first |rfl |kernel_rfl) ?_)
 refine ai (eA (a:=()) (by first |rfl |kernel_rfl) ?_)
 try dsimp only
 refine ai (wpAny_specialOf hT eh.lookup ?_)
 try dsimp only
 refine ai (eA (eh.bind _) ?_)
 try dsimp only
 have hn:¬((Value.builtin "range.__reversed__" == Value.none)=true):=aU
 first
 |rw[au hn]
 |(show wpAny _ _ (if(Value.builtin "range.__reversed__" == Value.none)=true then _ else _) _ _ _;rw[au hn])
 refine ai (eR ?_)
 refine ai (m:=runValue (.call (.builtin "range.__reversed__") ⟨[.ref p],[]⟩)) (show wpAny _ _ (call (.builtin "range.__reversed__") [.ref p]) _ _ _ from xS ho j0 j1 ?_)
 first
 |exact aB h
 |exact ai (aB (aB h))
theorem qW {p:Addr}{j:Int}{t1 t2 t3:Tok}{Q:Value->Shared->Prop}(ho:s.heap.get? p=some {cls:=.type "range",data:=.fields #[.int 0 t1,.int j t2,.int 1 t3]})(j0:0<=j)(j1:j<=1000)
  (h:Q (.ref s.heap.objs.size) {s with heap:=s.heap.push {cls:=.type "range_iterator",data:=.fields #[rawInt (j-1),rawInt j,rawInt (-1)]}}):wpAny (model prog w) A (call (.type "reversed") [.ref p]) Q E s:=by
 refine callType_other (U:= "range_iterator") (Q₁:=λobj s₁=>obj = .ref s.heap.objs.size/\s₁ = {s with heap:=s.heap.push {cls:=.type "range_iterator",data:=.fields #[rawInt (j-1),rawInt j,rawInt (-1)]}}) (by decide +kernel) PySem.F.create_reversed ⟨_,_,PySem.F.mro_reversed⟩ PySem.F.made_reversed pE (PySem.F.typeCall_reversed_1 _) (ro ho j0 j1 ⟨rfl,rfl⟩) ?_
 rintro obj s₁ ⟨rfl,rfl⟩
 exact⟨⟨_,ba _ rfl,rfl⟩,h⟩
end
section
variable {X:Cx}{tg:Expr}
def EO (ta:TA):TI:=λσ H R=>ta σ H λvs H1=>∃ (p:Addr) (j:Int),vs = [.ref p]/\H1 p=some (.rng 0 j)/\0<=j/\j<=1000/\R (ItD (j-1) j.toNat) H1
theorem A0 {a:Expr}{ta:TA}{p pos:Pos}(hc:X.calm=true)(hg:Gl X "reversed")(hm:X.mg "reversed" = none)(ha:PA X [a] ta)(hs:starEach [a] X.env = [(false,eval a X.env)]:=by rfl):PI X tg (.Call (.Name "reversed" p) [a] [] pos) (EO ta):=by
 intro pins s σ H R I h
 refine Call_ (lT I hg hm boot_reversed (bZ (thn (ha pos pins s σ H _ I h) λus s1 ⟨vs,H1,I1,r1,q1⟩=>?_) hs rfl))
 obtain⟨a,j,e,hq,j0,j1,q⟩:=q1
 subst e
 obtain⟨u,rfl,ru⟩:=vals1 r1
 cases ru
 obtain⟨t1,t2,t3,ho⟩:=I1.hok a _ hq
 refine qW ho j0 j1 ?_
 have hit:IsRangeIter (s1.heap.push {cls:=.type "range_iterator",data:=.fields #[rawInt (j-1),rawInt j,rawInt (-1)]}) s1.heap.objs.size ((j-1)+((0:Nat):Int) * -1) (((j.toNat:Nat):Int)-((0:Nat):Int)) (-1):=by
  have e1:(j-1)+((0:Nat):Int) * -1=j-1:=by simp
  have e2:((j.toNat:Nat):Int)-((0:Nat):Int)=j:=by omega
  rw[e1,e2]
  exact ba _ rfl
 refine wpAny_pyIter_rangeiter (s:={s1 with heap:=s1.heap.push {cls:=.type "range_iterator",data:=.fields #[rawInt (j-1),rawInt j,rawInt (-1)]}}) hit ?_
 refine⟨s1.heap.objs.size,[s1.heap.objs.size],_,_,H1,rfl,I1.kept (t':=s1.toks) (λb o e=>aH _ e),uf _ (j-1) j.toNat,hit,λb hb=>?_,q⟩
 have e:b=s1.heap.objs.size:=by simpa using hb
 subst e
 exact I1.yr (aq _) (I1.hok.fresh (aq _))
end
end TL
namespace TL
open PySem PySem.Spec PyProof.Rows L2 TS
def Pw {α:Type}(R:α->V->Prop):List α->List V->Prop
 |[],[]=>True
 |d::ds,v::vs=>R d v/\Pw R ds vs
 |_,_=>False
theorem Pw.len {α:Type}{R:α->V->Prop} :∀ {ds:List α}{vs:List V},Pw R ds vs->vs.length=ds.length
 |[],[],_=>rfl
 |d::ds,v::vs,h=>by rw[aY,aY,Pw.len h.2]
theorem Pw.imp {α:Type}{R S:α->V->Prop}(f:∀ d v,R d v->S d v):∀ {ds:List α}{vs:List V},Pw R ds vs->Pw S ds vs
 |[],[],_=>trivial
 |d::ds,v::vs,h=>⟨f _ _ h.1,Pw.imp f h.2⟩
theorem Pw.app {α:Type}{R:α->V->Prop} :∀ {ds es:List α}{vs us:List V},Pw R ds vs->Pw R es us->Pw R (ds++es) (vs++us)
 |[],_,[],_,_,h=>h
 |d::ds,_,v::vs,_,h,h2=>⟨h.1,Pw.app h.2 h2⟩
theorem Pw.one {α:Type}{R:α->V->Prop}{d:α}{v:V}(h:R d v):Pw R [d] [v]:=⟨h,trivial⟩
section
variable {K:PySem.W.Frag}{l:Addr}{g:TG}{tt:TT}{te:TE}{cap:List (Option Nat)}{σ:St}{Q:VK}{H1:Hp}{J:It}
theorem xj {α:Type}(n:Nat)(ds:List α)(Φ:Hp->α->V->Prop)(mono:∀ {H H':Hp} d v,fi H H'->Φ H d v->Φ H' d v)(hn:H1 l=none)(hlen:n=ds.length)(hz:n<sizeLine)(go:∀ i H,fi H1 H->i<n->J.go i H)(st:∀ H,fi H1 H->J.stop n H)
  (hs:∀ i x d H H',fi H1 H->(∃ us,H l=some (.lst us))->J.yld i H x H'->ds[i]? = some d->∀ (P1:VK) (P0:Hp->Prop),(∀ v H2,fi H H2->Φ (hid l H2) d v->P1 v H2)->
   g x (j9 cap σ) H' λσ2 H2=>tt σ2 H2 λb H3=>if b=true then te σ2 H3 P1 else P0 H3)
  (hq:∀ vs H',fi H1 H'->H' l=some (.lst vs)->Pw (Φ (hid l H')) ds vs->Q (.ref l) H'):LcW J g tt te cap σ Q l H1:=by
 refine wg n (λi acc H=>Pw (Φ (hid l H)) (ds.take i) acc/\fi H1 H/\H l=some (.lst acc)) ⟨trivial,eW hn,eX⟩ (λi acc H hi ⟨_,s,_⟩=>go i H s hi) (λacc H ⟨_,s,_⟩=>st H s) ?_ ?_
 ·rintro i x acc H H' hi ⟨e1,s,hl⟩ y
  have hd:ds[i]? = some (ds[i]'(by omega)):=by simp
  generalize ds[i]'(by omega)=d at hd
  refine hs i x d H H' s ⟨_,hl⟩ y hd _ _ (λv H2 s2 dv=>?_)
  have la:=Pw.len e1
  rw[bw]at la
  refine⟨s2 _ _ hl,by omega,?_,fi.upd (s.trans s2) hn,eX⟩
  rw[pV,bG,hd]
  exact Pw.app (Pw.imp (λd v=>mono d v (kI s2)) e1) (Pw.one dv)
 ·rintro acc H ⟨e1,s,hl⟩
  rw[br (by omega)]at e1
  exact hq acc H s hl e1
end
theorem rJ {l:Ln}{ns:List Int}(ok:fk l)(T:gi l ns):gi l (ns.reverse.map oth):=by
 refine⟨λe he=>?_,?_,λi x y hx hy=>?_⟩
 ·obtain⟨z,hz,rfl⟩:=ao.mp he
  have:=T.ends z (cL.mp hz)
  unfold oth;omega
 ·rw[bJ,show((λx:Int=>x/2) ∘ oth)=(λx:Int=>x/2) from funext λe=>by show oth e/2=e/2;unfold oth;omega,cY]
  exact(List.reverse_perm _).nodup_iff.mpr T.nd
 ·rw[aj]at hx hy
  have hi:i+1<ns.length:=by
   by_cases z:i+1<ns.length
   ·exact z
   ·rw[bI (by rw[aP];omega)]at hy;cases hy
  rw[cD (by omega)]at hx
  rw[cD (by omega)]at hy
  cases q1:ns[ns.length-1-i]? with
  |none=>rw[q1]at hx;cases hx
  |some a=>
   cases q2:ns[ns.length-1-(i+1)]? with
   |none=>rw[q2]at hy;cases hy
   |some b=>
    rw[q1]at hx;rw[q2]at hy
    cases hx;cases hy
    have:=T.ch (ns.length-1-(i+1)) b a q2 (by rw[show ns.length-1-(i+1)+1=ns.length-1-i by omega];exact q1)
    rw[jJ]
    exact mW ok this
end TL
namespace TL
open PySem PySem.Spec PyProof.Rows L2
def gr (l:Ln)(t:List Int):List (List Int):=(fr l t (oth (t.getLastD 0))).map λe=>t ++ [e]
def exF (l:Ln):Nat->List Int->List (List Int)
 | 0,t=>[t]
 |d+1,t=>(gr l t).flatMap (exF l d)
def nD (m:Int):List (List Int):=(sY 0 (2*m).toNat).map λe=>[e]
def fv (l:Ln):Nat->List (List Int)
 | 0=>nD l.1
 |k+1=>(fv l k).flatMap (gr l)
theorem qN {α:Type} :∀ l:List α,(l.flatMap λt=>[t])=l
 |[]=>rfl
 |x::l=>by rw[cG,qN l];rfl
theorem vg (l:Ln):∀ (d:Nat) (t:List Int),exF l (d+1) t=(exF l d t).flatMap (gr l)
 | 0,t=>by
  show(gr l t).flatMap (exF l 0) = [t].flatMap (gr l)
  rw[List.flatMap_singleton]
  have:(exF l 0) = λt=>[t]:=rfl
  rw[this,qN]
 |d+1,t=>by
  show(gr l t).flatMap (exF l (d+1))=((gr l t).flatMap (exF l d)).flatMap (gr l)
  rw[List.flatMap_assoc]
  congr 1
  funext u
  exact vg l d u
theorem An (l:Ln):∀ k,fv l k=(nD l.1).flatMap (exF l k)
 | 0=>by
  show nD l.1=(nD l.1).flatMap λt=>[t]
  rw[qN]
 |k+1=>by
  show(fv l k).flatMap (gr l)=_
  rw[An l k,List.flatMap_assoc]
  congr 1
  funext t
  exact(vg l k t).symm
theorem Ad {l:Ln}(ok:fk l)(t:List Int):(gr l t).length<=160:=by unfold gr;rw[aa];exact qL ok _ _
theorem oP {l:Ln}{t u:List Int}(h:u∈gr l t):∃ e∈fr l t (oth (t.getLastD 0)),u=t ++ [e]:=by
 obtain⟨e,he,rfl⟩:=ao.mp h
 exact⟨e,he,rfl⟩
theorem lW {l:Ln}(ok:fk l):∀ k,∀ t∈fv l k,gi l t/\t.length=k+1
 | 0,t,h=>by
  obtain⟨e,he,rfl⟩:=ao.mp h
  have he:=uz.mp he
  have:=ok.one
  refine⟨⟨λx hx=>?_,by simp,λi x y _ hy=>by simp at hy⟩,rfl⟩
  rw[aQ.mp hx];omega
 |k+1,t,h=>by
  obtain⟨u,hu,ht⟩:=List.mem_flatMap.mp h
  obtain⟨T,hl⟩:=lW ok k u hu
  obtain⟨e,he,rfl⟩:=oP ht
  refine⟨T.snoc ok (λz=>by rw[z]at hl;cases hl) he,by rw[ah,hl];rfl⟩
theorem EK {l:Ln}(G:gm l)(e:Int):(jn l.2 e).Pairwise (· < ·):=by
 have h1:(jn l.2 e).Pairwise (· <= ·):=p9 _
 have nd:(below l.2 e++above l.2 e).Nodup:=by
  have n1:(below l.2 e).Nodup:=by
   unfold below
   rw[List.Nodup,bS]
   refine cI (λ{p q} hp hq h=>λz=>h (Prod.ext z ?_)) (List.Pairwise.filter _ G.nd)
   have a:=bL (aO.mp hp).2
   have b:=bL (aO.mp hq).2
   rw[a,b]
  have n2:(above l.2 e).Nodup:=by
   unfold above
   rw[List.Nodup,bS]
   refine cI (λ{p q} hp hq h=>λz=>h (Prod.ext ?_ z)) (List.Pairwise.filter _ G.nd)
   have a:=bL (aO.mp hp).2
   have b:=bL (aO.mp hq).2
   rw[a,b]
  refine bT.mpr ⟨n1,n2,λx hx y hy z=>?_⟩
  obtain⟨p,hp,rfl⟩:=ao.mp hx
  obtain⟨q,hq,rfl⟩:=ao.mp hy
  have a:=bL (aO.mp hp).2
  have b:=bL (aO.mp hq).2
  have g1:=(G.ok p (aO.mp hp).1).lt
  have g2:=(G.ok q (aO.mp hq).1).lt
  omega
 have nd2:(jn l.2 e).Nodup:=(lM _).nodup_iff.mpr nd
 exact cH (λ{a b} h=>by omega) (h1.and nd2)
theorem sj:∀ {a b:List Int}{x y:Int},a.length=b.length->gM a b=true->gM (a ++ [x]) (b ++ [y])=true
 |[],[],_,_,_,h=>by cases h
 |p::a,q::b,x,y,hl,h=>by
  have h:(if p=q then gM a b else decide (p<q))=true:=h
  show(if p=q then gM (a ++ [x]) (b ++ [y])else decide (p<q))=true
  by_cases e:p=q
  ·rw[aD e]at h ⊢
   exact sj (by simpa using hl) h
  ·rw[au e]at h ⊢
   exact h
theorem oI:∀ (a:List Int) {x y:Int},x<y->gM (a ++ [x]) (a ++ [y])=true
 |[],x,y,h=>by
  show(if x=y then gM [] []else decide (x<y))=true
  rw[au (by omega)];exact aX h
 |p::a,x,y,h=>by
  show(if p=p then gM (a ++ [x]) (a ++ [y])else decide (p<p))=true
  rw[aD rfl];exact oI a h
theorem qO {l:Ln}(G:gm l):∀ k,(fv l k).Pairwise (λa b=>gM a b=true)
 | 0=>by
  unfold fv nD
  rw[bS]
  refine cH (λ{a b} h=>?_) (AS 0 _)
  exact oI [] h
 |k+1=>by
  show((fv l k).flatMap (gr l)).Pairwise _
  have ok:=G.gR
  rw[List.pairwise_flatMap]
  refine⟨λt _=>?_,?_⟩
  ·unfold gr
   rw[bS]
   exact cH (λ{a b} h=>oI t h) (List.Pairwise.filter _ (EK G _))
  ·refine cI (λ{a b} ha hb h=>?_) (qO G k)
   intro x hx y hy
   obtain⟨e,_,rfl⟩:=oP hx
   obtain⟨f,_,rfl⟩:=oP hy
   exact sj ((lW ok k a ha).2.trans (lW ok k b hb).2.symm) h
theorem Am {l:Ln}(G:gm l)(k:Nat):(fv l k).Nodup:=cH (λ{a b} h=>λz=>by rw[z,lR]at h;cases h) (qO G k)
theorem sF {l:Ln}(G:gm l):∀ n,(m6 l n).length<=48 ^ ((n+1)/2)
 | 0=>by simp[m6]
 | 1=>by
  simp only[m6,wD,aa,List.length_range]
  have:=G.most
  omega
 |n+2=>by
  have ih:=sF G n
  simp only[m6]
  rw[List.length_flatMap]
  have e1:(qY l).map (λa=>((m6 l n).map λr=>a.1::a.2::r).length)=(qY l).map λ_=>(m6 l n).length:=by
   refine dh λa _=>by rw[aa]
  rw[e1,List.map_const',List.sum_replicate_nat]
  have h1:(qY l).length<=48:=by
   unfold qY
   rw[ah,aa,aa]
   have:=G.len
   omega
  rw[show(n+2+1)/2=(n+1)/2+1 by omega,Nat.pow_succ,Nat.mul_comm (48 ^ _)]
  exact Nat.mul_le_mul h1 ih
theorem Bz {l:Ln}(G:gm l){k:Nat}(hk:k<=6):(fv l k).length<=5308416:=by
 have h1:=ly (Am G k) (l2:=m6 l (k+1)) λt ht=>qT G.gR (k+1) t (lW G.gR k t ht).2 (lW G.gR k t ht).1.ends (lW G.gR k t ht).1.ch
 have h2:=sF G (k+1)
 have h3:48 ^ ((k+1+1)/2)<=48 ^ 4:=Nat.pow_le_pow_right (by decide) (by omega)
 have h4:48 ^ 4=5308416:=by decide
 omega
theorem vf {α β:Type}(f:α->List β):∀ {l:List α}{i:Nat}{x:α},l[i]? = some x->((l.take i).flatMap f).length+(f x).length<=(l.flatMap f).length
 |y::l,0,x,h=>by
  cases h
  rw[cG,ah];simp
 |y::l,i+1,x,h=>by
  have:=vf f (l:=l) (i:=i) (by simpa using h)
  rw[dg,cG,cG,ah,ah]
  omega
theorem nE {a b:List Int}(h:gM a b=true):gM b a=false:=by
 cases q:gM b a with
 |false=>rfl
 |true=>have:=lx a b a h q;rw[lR]at this;cases this
theorem kW:∀ {a b:List (List Int)},a.Perm b->a.Pairwise (λx y=>gM y x=false)->b.Pairwise (λx y=>gM y x=false)->a=b
 |[],b,p,_,_=>(List.nil_perm.mp p).symm
 |x::a,b,p,ha,hb=>by
  cases b with
  |nil=>exact absurd (p.length_eq) (by simp)
  |cons y b=>
   have hx:x∈y::b:=p.mem_iff.mp ar
   have hy:y∈x::a:=p.mem_iff.mpr ar
   have e:x=y:=by
    rcases aJ.mp hx with z |z
    ·exact z
    ·rcases aJ.mp hy with z' |z'
     ·exact z'.symm
     ·exact qG x y ((bM.mp hb).1 x z) ((bM.mp ha).1 y z')
   subst e
   rw[kW (List.Perm.cons_inv p) (bM.mp ha).2 (bM.mp hb).2]
section
variable {prog:Program}{w:World}{K:Type} [DecidableEq K] (knd:PySem.KeyKind prog w K)
variable {knd}
variable {A:Around}{E:Value->Shared->Prop}{s:Shared}
end
abbrev SK:=List Key×Key
abbrev KvN:=List (SK×Addr×V)
abbrev PN:KvN->List (SK×Addr×Value)->Prop:=Paired λp q=>p.1=q.1/\p.2.1=q.2.1/\RelV p.2.2 q.2.2
section
variable {P:Program}{w:World}{H:Hp}{h:Heap}{a c:Addr}{kvs:KvN}{k:SK}
end
section
variable {X:Cx}{pins:List (Addr×Obj)}{σ:St}{H:Hp}{s:Shared}{a c:Addr}{v:V}{r:Value}{k:SK}{kvs:KvN}{A:Around}{E:Value->Shared->Prop}
end
section
variable {X:Cx}{o i e value:Expr}{pos pos' D7:Pos}{td ty tv:TE}
end
open TS
section
variable {X:Cx}{pins:List (Addr×Obj)}{σ:St}{H1:Hp}{s2:Shared}{scope:Scope}{N:List Str}{own:Nat}{cap:List (Option Nat)}{cl:List (Str×Addr)}{fp:List Addr}
 {tg iter elt vlt:Expr}{ifs:List Expr}{pos:Pos}{g:TG}{tt:TT}{te tv:TE}{wi:TI}
end
def rn (rows:Rows)(e:Ent):Int:=match e.2 with
 |none=>0
 |some (t,_)=>(gk rows t).getD 0+1
def qk (acc:Rows)(es:List Ent):Rows:=es.foldl (λrows e=>rows ++ [(e.1,rn rows e)]) acc
def fK (es:List Ent):Rows:=qk [] es
theorem rS:∀ (es:List Ent) (acc:Rows),(qk acc es).map (·.1)=acc.map (·.1)++es.map (·.1)
 |[],acc=>by simp[qk]
 |e::es,acc=>by
  have:=rS es (acc ++ [(e.1,rn acc e)])
  show(qk (acc ++ [(e.1,rn acc e)]) es).map (·.1)=_
  rw[this,ax];simp
theorem hU (es:List Ent):(fK es).map (·.1)=es.map (·.1):=by unfold fK;rw[rS];rfl
theorem kE (es:List Ent):(fK es).length=es.length:=by have:=cB List.length (hU es);rwa [aa,aa]at this
theorem rR:∀ (es:List Ent) (acc:Rows),acc <+:qk acc es
 |[],acc=>List.prefix_refl _
 |e::es,acc=>(List.prefix_append acc [(e.1,rn acc e)]).trans (rR es _)
theorem rT (es more:List Ent):fK (es++more)=qk (fK es) more:=by unfold fK qk;rw[eM]
theorem mQ {es es':List Ent}(h:es <+:es'):fK es <+:fK es':=by
 obtain⟨r,rfl⟩:=h
 rw[rT]
 exact rR _ _
theorem lq (es:List Ent)(e:Ent):fK (es ++ [e])=fK es ++ [(e.1,rn (fK es) e)]:=by rw[rT];rfl
theorem jS {rows BQ:Rows}(h:rows <+:BQ){t:List Int}{n:Int}(hl:gk rows t=some n):gk BQ t=some n:=by
 obtain⟨r,rfl⟩:=h
 unfold gk at hl ⊢
 rw[eN]
 cases q:rows.find? λr=>decide (r.1=t)with
 |none=>rw[q]at hl;cases hl
 |some x=>rw[q]at hl;exact hl
theorem uU {rows:Rows}{t:List Int}(h:t∈rows.map (·.1)):∃ n,gk rows t=some n:=by
 cases q:gk rows t with
 |none=>exact absurd h (qF q)
 |some n=>exact⟨n,rfl⟩
theorem si {rows:Rows}{t:List Int}{n:Int}(h:t∉rows.map (·.1)):gk (rows ++ [(t,n)]) t=some n:=by
 have q:gk rows t=none:=by
  cases q:gk rows t with
  |none=>rfl
  |some x=>exact absurd (ao.mpr ⟨_,i7 q,rfl⟩) h
 unfold gk at q ⊢
 rw[Option.map_eq_none_iff]at q
 rw[eN,q]
 simp
structure Lvl (es:List Ent)(d:Int):Prop where
 mono:(fK es).Pairwise λa b=>a.2<=b.2
 top:∀ r∈fK es,r.2<=d+1
theorem Lvl.add {es:List Ent}{d:Int}{t:List Int}{m:Mv}(h:Lvl es d)(ht:gk (fK es) t=some d):Lvl (lJ t es m) d/\∃ n,gk (fK (lJ t es m)) m.2=some n/\n<=d+1:=by
 unfold lJ
 by_cases hm:m.2∈es.map (·.1)
 ·rw[aD hm]
  obtain⟨n,hn⟩:=uU (rows:=fK es) (by rw[hU];exact hm)
  exact⟨h,n,hn,h.top _ (i7 hn)⟩
 ·rw[au hm]
  have hn:rn (fK es) (m.2,some (t,m.1))=d+1:=by
   show(gk (fK es) t).getD 0+1=d+1
   rw[ht];rfl
  refine⟨⟨?_,λr hr=>?_⟩,d+1,?_,cV _⟩
  ·rw[lq,bj]
   refine⟨h.mono,by simp,λa ha b hb=>?_⟩
   rw[aQ.mp hb]
   show a.2<=rn (fK es) (m.2,some (t,m.1))
   rw[hn]
   exact h.top a ha
  ·rw[lq]at hr
   rcases aI.mp hr with z |z
   ·exact h.top r z
   ·rw[aQ.mp z]
    show rn (fK es) (m.2,some (t,m.1))<=d+1
    rw[hn];exact cV _
  ·rw[lq]
   show gk (fK es ++ [(m.2,rn (fK es) (m.2,some (t,m.1)))]) m.2=some (d+1)
   rw[hn]
   exact si (by rw[hU];exact hm)
theorem Lvl.scan {d:Int}{t:List Int} :∀ (ms:List Mv) {es:List Ent},Lvl es d->gk (fK es) t=some d->Lvl (fQ t ms es) d/\∀ m∈ms,∃ n,gk (fK (fQ t ms es)) m.2=some n/\n<=d+1
 |[],es,h,_=>⟨h,λm hm=>(nomatch hm)⟩
 |m::ms,es,h,ht=>by
  obtain⟨h1,n,hn,hle⟩:=h.add (m:=m) ht
  have hp:=mQ (vE t es m)
  obtain⟨h2,h3⟩:=Lvl.scan ms h1 (jS hp ht)
  refine⟨h2,λm' hm'=>?_⟩
  rcases aJ.mp hm' with rfl |z
  ·exact⟨n,jS (mQ (mK t ms (lJ t es m'))) hn,hle⟩
  ·exact h3 m' z
theorem CB {rows:Rows}(h:rows.Pairwise λa b=>a.2<=b.2){i j:Nat}{a b:List Int×Int}(hij:i<j)(hi:rows[i]? = some a)(hj:rows[j]? = some b):a.2<=b.2:=by
 obtain⟨hj1,rfl⟩:=af.mp hj
 obtain⟨hi1,rfl⟩:=af.mp hi
 exact ck.mp h i j hi1 hj1 hij
theorem sX {es:List Ent}(nd:(es.map (·.1)).Nodup){j:Nat}{e:Ent}(h:es[j]? = some e):∃ d,(fK es)[j]? = some (e.1,d)/\gk (fK es) e.1=some d:=by
 have hl:=(af.mp h).1
 have hj:(fK es)[j]? = some ((fK es)[j]'(by rw[kE];exact hl)):=ae _
 have e1:((fK es)[j]'(by rw[kE];exact hl)).1=e.1:=by
  have a:=cB (·[j]?) (hU es)
  rw[aj,aj,hj,h]at a
  exact bx a
 generalize (fK es)[j]'(by rw[kE];exact hl)=r at hj e1
 obtain⟨t,d⟩:=r
 have e1:t=e.1:=e1
 subst e1
 exact⟨d,hj,kH (r:=(e.1,d)) (by rw[hU];exact nd) (aG hj)⟩
structure KN (l:Ln)(es:List Ent)(i:Nat):Prop where
 mono:(fK es).Pairwise λa b=>a.2<=b.2
 here:∀ e d,es[i]? = some e->gk (fK es) e.1=some d->∀ r∈fK es,r.2<=d+1
 done:∀ j e d,j<i->es[j]? = some e->gk (fK es) e.1=some d->∀ m∈mvs l e.1,∃ n,gk (fK es) m.2=some n/\n<=d+1
theorem DY {l:Ln}{ns:List Int}(ok:fk l)(T:gi l ns)(hne:ns≠ []):∀ i,KN l (fy l ns i) i
 | 0=>by
  have e0:fK (fy l ns 0) = [(ns,0)]:=rfl
  refine⟨by rw[e0];simp,λe d he hd r hr=>?_,λj e d hj=>absurd hj (Nat.not_lt_zero j)⟩
  rw[e0]at hd hr
  have:=i7 hd
  have h1:=aQ.mp hr
  have h2:=aQ.mp this
  rw[h1]
  have h3:d=0:=by injection h2
  show(0:Int)<=d+1
  omega
 |i+1=>by
  have ih:=DY ok T hne i
  have E:=jj ok T hne i
  have E1:=jj ok T hne (i+1)
  cases q:(fy l ns i)[i]? with
  |none=>
   have e1:fy l ns (i+1)=fy l ns i:=by rw[fy,q]
   have hl:(fy l ns i).length<=i:=by
    by_cases z:i<(fy l ns i).length
    ·rw[ae z]at q;cases q
    ·omega
   rw[e1]
   refine⟨ih.mono,λe d he=>?_,λj e d hj he=>?_⟩
   ·rw[bI (by omega)]at he;cases he
   ·have:=(af.mp he).1
    exact ih.done j e d (by omega) he
  |some e=>
   obtain⟨d,hd1,hd2⟩:=sX E.nd q
   have L0:Lvl (fy l ns i) d:=⟨ih.mono,ih.here e d q hd2⟩
   have e1:=kz q
   have pre:=mH l ns i
   obtain⟨L1,M1⟩:=Lvl.scan (mvs l e.1) L0 hd2
   rw[<-e1]at L1 M1
   have rp:=mQ pre
   have IM:(fK (fy l ns (i+1)))[i]? = some (e.1,d):=by
    obtain⟨z,hz⟩:=rp
    rw[<-hz,ak (af.mp hd1).1]
    exact hd1
   refine⟨L1.mono,λe' d' he' hd' r hr=>?_,λj e' d' hj he' hd' m hm=>?_⟩
   ·obtain⟨d2,h1,h2⟩:=sX E1.nd he'
    rw[hd']at h2
    cases h2
    have a:=CB L1.mono (Nat.lt_succ_self i) IM h1
    have b:=L1.top r hr
    have a:d<=d':=a
    omega
   ·by_cases hji:j<i
    ·have hlen:j<(fy l ns i).length:=by have:=(af.mp q).1;omega
     have he0:(fy l ns i)[j]? = some e':=by
      obtain⟨z,hz⟩:=pre
      rw[<-hz,ak hlen]at he'
      exact he'
     obtain⟨d3,_,h3⟩:=sX E.nd he0
     have:=jS rp h3
     rw[hd']at this
     cases this
     obtain⟨n,hn,hle⟩:=ih.done j e' d' hji he0 h3 m hm
     exact⟨n,jS rp hn,hle⟩
    ·have ej:j=i:=by omega
     subst ej
     have he0:(fy l ns (j+1))[j]? = some e:=by
      obtain⟨z,hz⟩:=pre
      rw[<-hz,ak (af.mp q).1]
      exact q
     rw[he0]at he'
     cases he'
     have:=jS rp hd2
     rw[hd']at this
     cases this
     exact M1 m hm
theorem yK {l:Ln}{ns:List Int}(ok:fk l)(T:gi l ns)(hne:ns≠ []){i:Nat}(hi:(fy l ns i).length=i):Fv l ns (fK (fy l ns i)):=by
 have W:=DY ok T hne i
 have E:=jj ok T hne i
 refine⟨⟨by rw[hU];exact E.nd,λs hs=>?_⟩,?_,λr hr m hm=>?_⟩
 ·rw[hU]at hs
  obtain⟨e,he,rfl⟩:=ao.mp hs
  obtain⟨a,b,c⟩:=E.tr e he
  exact⟨b,c,a⟩
 ·have h0:fy l ns 0 <+:fy l ns i:=by have:=ud l ns 0 i;rwa [cX]at this
  exact jS (mQ h0) (show gk [(ns,0)] ns=some 0 from si (rows:=[]) (by simp))
 ·obtain⟨j,hj,e⟩:=bt.mp hr
  have hjl:j<(fy l ns i).length:=by rw[<-kE];exact hj
  obtain⟨d,h1,h2⟩:=sX E.nd (ae hjl)
  rw[ae hj,e]at h1
  cases h1
  exact W.done j _ d (by omega) (ae hjl) h2 m hm
theorem yJ {l:Ln}{ns:List Int}(ok:fk l)(T:gi l ns)(hne:ns≠ []){i:Nat}(hi:(fy l ns i).length=i):BP l ns ((fy l ns i).map (·.1)):=by
 have:=(As.mp (yK ok T hne hi)).1
 rwa [hU]at this
theorem kL {n:Nat}(h:n<=10000000):n<sizeLine:=eB h (by decide)
theorem uo {K:PySem.W.Frag}{H:Hp}{t b:Addr}{kvs:List (List Key×V)}{xs:List V}{o:HO}(ht:H t=some (.dT kvs))(h:SqT K H b xs):SqT K (upd H t o) b xs:=by
 rcases h with(h |⟨o,h⟩)|h
 ·exact .inl (.inl (by rw[fc (gw h ht (by intro z;cases z))];exact h))
 ·exact .inl (.inr ⟨o,by rw[fc (gw h ht (by intro z;cases z))];exact h⟩)
 ·exact .inr h
def kO (K:PySem.W.Frag)(H:Hp)(e:Ent)(v:V):Prop:=match e.2 with
 |none=>v = .non
 |some (t,k)=>∃ a b c,v = .ref a/\H a=some (.tup [.ref b,.ref c])/\H b=some (.tup (t.map V.int))/\SqT K H c [.str k.1,.int k.2]
theorem kO.same {K:PySem.W.Frag}{H H':Hp}{e:Ent}{v:V}(h:kO K H e v)(s:fi H H'):kO K H' e v:=by
 unfold kO at h ⊢
 split at h
 ·exact h
 ·obtain⟨a,b,c,h1,h2,h3,h4⟩:=h
  exact⟨a,b,c,h1,s _ _ h2,s _ _ h3,gj s h4⟩
theorem kO.FG {K:PySem.W.Frag}{H:Hp}{e:Ent}{v:V}{p:Addr}{vs:List V}{o:HO}(h:kO K H e v)(hp:H p=some (.lst vs)):kO K (upd H p o) e v:=by
 unfold kO at h ⊢
 split at h
 ·exact h
 ·obtain⟨a,b,c,h1,h2,h3,h4⟩:=h
  exact⟨a,b,c,h1,by rw[fc (gw h2 hp (by intro z;cases z))];exact h2,by rw[fc (gw h3 hp (by intro z;cases z))];exact h3,kg hp h4⟩
theorem kO.FH {K:PySem.W.Frag}{H:Hp}{e:Ent}{v:V}{p:Addr}{kvs:List (List Key×V)}{o:HO}(h:kO K H e v)(hp:H p=some (.dT kvs)):kO K (upd H p o) e v:=by
 unfold kO at h ⊢
 split at h
 ·exact h
 ·obtain⟨a,b,c,h1,h2,h3,h4⟩:=h
  exact⟨a,b,c,h1,by rw[fc (gw h2 hp (by intro z;cases z))];exact h2,by rw[fc (gw h3 hp (by intro z;cases z))];exact h3,uo hp h4⟩
structure mw (K:PySem.W.Frag)(H:Hp)(d:Addr)(es:List Ent)(vs:List V):Prop where
 at_:H d=some (.dT ((es.zip vs).map λp=>(kyI p.1.1,p.2)))
 len:vs.length=es.length
 each:∀ (i:Nat) e v,es[i]? = some e->vs[i]? = some v->kO K H e v
theorem mw.same {K:PySem.W.Frag}{H H':Hp}{d:Addr}{es:List Ent}{vs:List V}(h:mw K H d es vs)(s:fi H H'):mw K H' d es vs:=
 ⟨s _ _ h.at_,h.len,λi e v h1 h2=>(h.each i e v h1 h2).same s⟩
theorem uX {es:List Ent}{vs:List V}(hl:vs.length=es.length):((es.zip vs).map λp=>(kyI p.1.1,p.2)).map (·.1)=es.map λe=>kyI e.1:=by
 rw[bJ]
 refine dF λi=>?_
 rw[aj,aj]
 by_cases hi:i<es.length
 ·rw[ae (by rw[bK];omega),ae hi,cZ];rfl
 ·rw[bI (by rw[bK];omega),bI (by omega)];rfl
theorem xH {κ:Type} [DecidableEq κ] {kvs:List (κ×V)}{k:κ} :(ic kvs k).isSome=decide (k∈kvs.map (·.1)):=by
 rw[<-nM,cj,eU,cA,ao]
 constructor
 ·rintro⟨p,h1,h2⟩;exact⟨p,h1,by simpa using h2⟩
 ·rintro⟨p,h1,h2⟩;exact⟨p,h1,by simpa using h2⟩
theorem mw.mem {K:PySem.W.Frag}{H:Hp}{d:Addr}{es:List Ent}{vs:List V}(h:mw K H d es vs)(t:List Int):(ic ((es.zip vs).map λp=>(kyI p.1.1,p.2)) (kyI t)).isSome=decide (t∈es.map (·.1)):=by
 rw[xH,uX h.len]
 congr 1
 refine propext ⟨λz=>?_,λz=>?_⟩
 ·obtain⟨e,h1,h2⟩:=ao.mp z
  exact ao.mpr ⟨e,h1,pT h2⟩
 ·obtain⟨e,h1,h2⟩:=ao.mp z
  exact ao.mpr ⟨e,h1,by rw[h2]⟩
structure Ord (H:Hp)(p:Addr)(as:List Addr)(es:List Ent):Prop where
 at_:H p=some (.lst (as.map V.ref))
 len:as.length=es.length
 each:∀ (i:Nat) b e,as[i]? = some b->es[i]? = some e->H b=some (.tup (e.1.map V.int))
theorem Ord.same {H H':Hp}{p:Addr}{as:List Addr}{es:List Ent}(h:Ord H p as es)(s:fi H H'):Ord H' p as es:=
 ⟨s _ _ h.at_,h.len,λi b e h1 h2=>s _ _ (h.each i b e h1 h2)⟩
theorem xX {K:PySem.W.Frag}{H:Hp}{d p st tp ta tm:Addr}{es:List Ent}{vs:List V}{as:List Addr}{t t':List Int}{k:Str×Int}(hs:mw K H d es vs)(ho:Ord H p as es)(hst:H st=some (.tup (t'.map V.int)))
  (htp:H tp=some (.tup [.ref ta,.ref tm])) (hta:H ta=some (.tup (t.map V.int))) (htm:SqT K H tm [.str k.1,.int k.2]) (hn:t'∉es.map (·.1)):
  mw K (upd (upd H d (.dT (putK ((es.zip vs).map λp=>(kyI p.1.1,p.2)) (kyI t') (.ref tp)))) p (.lst (as.map V.ref ++ [V.ref st]))) d (es ++ [(t',some (t,k))]) (vs ++ [.ref tp])/\
  Ord (upd (upd H d (.dT (putK ((es.zip vs).map λp=>(kyI p.1.1,p.2)) (kyI t') (.ref tp)))) p (.lst (as.map V.ref ++ [V.ref st]))) p (as ++ [st]) (es ++ [(t',some (t,k))]):=by
 have hd:=hs.at_
 have hp:=ho.at_
 have dp:d≠p:=gw hd hp (by intro z;cases z)
 have hv:ic ((es.zip vs).map λp=>(kyI p.1.1,p.2)) (kyI t')=none:=by
  have:=hs.mem t'
  rw[aR hn]at this
  exact Option.isNone_iff_eq_none.mp (by rw[<-Option.not_isSome,this];rfl)
 have e1:putK ((es.zip vs).map λp=>(kyI p.1.1,p.2)) (kyI t') (.ref tp)=((es ++ [(t',some (t,k))]).zip (vs ++ [V.ref tp])).map λp=>(kyI p.1.1,p.2):=by
  rw[nU _ hv,List.zip_append hs.len.symm,ax];rfl
 have hp1:upd H d (.dT (putK ((es.zip vs).map λp=>(kyI p.1.1,p.2)) (kyI t') (.ref tp))) p=some (.lst (as.map V.ref)):=by rw[fc (b9 dp)];exact hp
 have ht:∀ b xs,H b=some (.tup xs)->upd (upd H d (.dT (putK ((es.zip vs).map λp=>(kyI p.1.1,p.2)) (kyI t') (.ref tp)))) p (.lst (as.map V.ref ++ [V.ref st])) b=some (.tup xs):=λb xs q=>by
  rw[fc (gw q hp (by intro z;cases z)),fc (gw q hd (by intro z;cases z))];exact q
 refine⟨⟨by rw[fc dp,eX,e1],by rw[ah,ah,hs.len];rfl,λi e v he hv=>?_⟩,⟨by rw[eX,ax];rfl,by rw[ah,ah,ho.len];rfl,λi b e hb he=>?_⟩⟩
 ·by_cases hi:i<es.length
  ·rw[ak hi]at he
   rw[ak (by rw[hs.len];exact hi)]at hv
   exact((hs.each i e v he hv).FH hd).FG hp1
  ·have hi2:i=es.length:=by
    have:=(af.mp he).1
    rw[ah,bE]at this
    omega
   rw[hi2,az (aq _),bV]at he
   rw[hi2,<-hs.len,az (aq _),bV]at hv
   cases he
   cases hv
   exact⟨tp,ta,tm,rfl,ht _ _ htp,ht _ _ hta,kg hp1 (uo hd htm)⟩
 ·by_cases hi:i<es.length
  ·rw[ak hi]at he
   rw[ak (by rw[ho.len];exact hi)]at hb
   exact ht _ _ (ho.each i b e hb he)
  ·have hi2:i=es.length:=by
    have:=(af.mp he).1
    rw[ah,bE]at this
    omega
   rw[hi2,az (aq _),bV]at he
   rw[hi2,<-ho.len,az (aq _),bV]at hb
   cases he
   cases hb
   exact ht _ _ hst
theorem zV {K:PySem.W.Frag}{p a:Addr}{H:Hp}{kvs:List (List Key×V)}{xs:List V}(hp:H p=some (.dT kvs))(h:SqT K H a xs):SqT K (hid p H) a xs:=by
 rcases h with(h |⟨o,h⟩)|h
 ·exact .inl (.inl (by rw[gz (gw h hp (by intro z;cases z))];exact h))
 ·exact .inl (.inr ⟨o,by rw[gz (gw h hp (by intro z;cases z))];exact h⟩)
 ·exact .inr h
abbrev lB (d p:Addr)(H:Hp):Hp:=hid p (hid d H)
theorem qJ {K:PySem.W.Frag}{d p a:Addr}{H:Hp}{kvs:List (List Key×V)}{vs xs:List V}(hd:H d=some (.dT kvs))(hp:H p=some (.lst vs))(h:SqT K H a xs):SqT K (lB d p H) a xs:=by
 have dp:p≠d:=gw hp hd (by intro z;cases z)
 exact Bh (vs:=vs) (by rw[gz dp];exact hp) (zV hd h)
theorem lA {d p a:Addr}{H:Hp}(h1:a≠d)(h2:a≠p):lB d p H a=H a:=by show hid p (hid d H) a=H a;rw[gz h2,gz h1]
theorem uY {d p:Addr}{H H':Hp}{o o':HO}(s:fi (lB d p H) H'):fi (lB d p H) (upd (upd H' d o) p o'):=λb u h=>by
 by_cases e1:b=p
 ·subst e1;have h:hid b (hid d H) b=some u:=h;rw[ij]at h;cases h
 ·have h':hid p (hid d H) b=some u:=h
  rw[gz e1]at h'
  by_cases e2:b=d
  ·subst e2;rw[ij]at h';cases h'
  ·rw[fc e1,fc e2];exact s _ _ h
structure sN (H H':Hp)(p:Addr)(bs:List Addr)(ts:List (List Int)):Prop where
 same:fi H H'
 new:H p=none
 at_:H' p=some (.lst (bs.map V.ref))
 len:bs.length=ts.length
 each:∀ (i:Nat) b t,bs[i]? = some b->ts[i]? = some t->H b=none/\b≠p/\H' b=some (.lst (t.map V.int))
 nd:bs.Nodup
theorem sN.pre {H0 H H':Hp}{p:Addr}{bs:List Addr}{ts:List (List Int)}(s:fi H0 H)(h:sN H H' p bs ts):sN H0 H' p bs ts:=
 ⟨s.trans h.same,fi.free s h.new,h.at_,h.len,λi b t h1 h2=>⟨fi.free s (h.each i b t h1 h2).1,(h.each i b t h1 h2).2⟩,h.nd⟩
structure rB (H:Hp)(p:Addr)(as:List Addr)(es:List Ent):Prop where
 at_:H p=some (.lst (as.map V.ref))
 len:as.length=es.length
 each:∀ (i:Nat) b e,as[i]? = some b->es[i]? = some e->b≠p/\H b=some (.lst (e.1.map V.int))
theorem rB.same {H H':Hp}{p:Addr}{as:List Addr}{es:List Ent}(h:rB H p as es)(s:fi H H'):rB H' p as es:=
 ⟨s _ _ h.at_,h.len,λi b e h1 h2=>⟨(h.each i b e h1 h2).1,s _ _ (h.each i b e h1 h2).2⟩⟩
theorem rB.get {H:Hp}{p:Addr}{as:List Addr}{es:List Ent}(h:rB H p as es){i:Nat}{e:Ent}(he:es[i]? = some e):∃ b,as[i]? = some b/\b≠p/\H b=some (.lst (e.1.map V.int)):=by
 have hi:i<as.length:=by rw[h.len];exact(af.mp he).1
 exact⟨as[i],ae hi,h.each i _ e (ae hi) he⟩
end TL
namespace TL
open PySem PySem.Spec PyProof.Rows L2
theorem wA {l:Ln}{ns:List Int}{e x:Int} :x∈fr l ns e↔x∈jn l.2 e/\x/2∉ns.map (· / 2):=by
 unfold fr
 rw[aO]
 constructor
 ·rintro⟨h1,h2⟩;exact⟨h1,by simpa using h2⟩
 ·rintro⟨h1,h2⟩;exact⟨h1,by simpa using h2⟩
theorem AH {l:Ln}{ns:List Int}{e:Int}(ok:fk l)(T:gi l ns)(hne:ns≠ [])(he:e∈fr l ns (oth (ns.getLastD 0))):(((("back" :Str),oth (ns.headD 0)),ns):Mv)∈mvs l (ns.drop 1 ++ [e]):=by
 obtain⟨h1,h2⟩:=tT he
 obtain⟨h,r,rfl⟩:∃ h r,ns=h::r:=by cases ns with |nil=>exact absurd rfl hne |cons x r=>exact⟨x,r,rfl⟩
 refine aI.mpr (.inr (ao.mpr ⟨oth h,wA.mpr ⟨?_,?_⟩,?_⟩))
 ·cases r with
  |nil=>exact mW ok h1
  |cons y r=>exact mW ok (T.ch 0 h y rfl rfl)
 ·rw[kF]
  have nd:=T.nd
  rw[aM,cg]at nd
  intro z
  rw[ax]at z
  rcases aI.mp z with z |z
  ·exact nd.1 z
  ·have z:h/2=e/2:=by simpa using z
   exact h2 (by rw[<-z];simp)
 ·unfold jI
  rw[jJ]
  simp
theorem rH {l:Ln}{ns:List Int}{e:Int}(ok:fk l)(T:gi l ns)(hne:ns≠ [])(he:e∈fr l ns (ns.headD 0)):(((("on" :Str),ns.getLastD 0),ns):Mv)∈mvs l (oth e::ns.dropLast):=by
 obtain⟨h1,h2⟩:=tT he
 obtain⟨r,z,rfl⟩:∃ r z,ns=r ++ [z]:=⟨ns.dropLast,ns.getLast hne,(bW hne).symm⟩
 have hz:(r ++ [z]).getLastD 0=z:=by simp
 have hd:(r ++ [z]).dropLast=r:=by simp
 rw[hz,hd]
 refine aI.mpr (.inl (ao.mpr ⟨z,wA.mpr ⟨?_,?_⟩,?_⟩))
 ·rcases List.eq_nil_or_concat r with e1 |⟨r',y,e1⟩
  ·subst e1
   show z∈jn l.2 (oth (oth e))
   rw[jJ]
   exact mW ok h1
  ·rw[List.concat_eq_append]at e1
   subst e1
   have:(oth e::(r' ++ [y])).getLastD 0=y:=by rw[<-List.cons_append,cE,List.getLast?_concat];rfl
   rw[this]
   exact T.ch r'.length y z (by simp) (by simp)
 ·intro q
  rw[aM,kF]at q
  rcases aJ.mp q with q |q
  ·exact h2 (by rw[<-q];simp)
  ·have nd:=T.nd
   rw[ax,bT]at nd
   exact nd.2.2 _ q (z/2) (by simp) rfl
 ·unfold onM;simp
def p7 (m:Mv):Mv:=((if m.1.1 = "on" then "back" else "on",m.1.2),m.2.reverse.map oth)
theorem AJ (ns:List Int)(e:Int):p7 (onM ns e)=jI (ns.reverse.map oth) e:=by
 unfold p7 onM jI
 simp[bO,<-List.map_dropLast,List.dropLast_reverse]
theorem xN {ns:List Int}(e:Int):p7 (jI ns e)=onM (ns.reverse.map oth) e:=by
 unfold p7 onM jI
 have:("back" :Str)≠ "on" :=by decide +kernel
 simp[this,jJ,dU,List.drop_reverse,List.dropLast_eq_take]
theorem xr (l:Ln)(ns:List Int)(x:Int):fr l (ns.reverse.map oth) x=fr l ns x:=by
 unfold fr
 congr 1
 funext t
 congr 2
 refine propext ?_
 rw[bJ]
 constructor
 ·intro h
  obtain⟨y,hy,e⟩:=ao.mp h
  exact ao.mpr ⟨y,by simpa using hy,by rw[<-e];exact(kF y).symm⟩
 ·intro h
  obtain⟨y,hy,e⟩:=ao.mp h
  exact ao.mpr ⟨y,by simpa using hy,by rw[<-e];exact kF y⟩
theorem yq {ns:List Int}(hne:ns≠ []):(ns.reverse.map oth).headD 0=oth (ns.getLastD 0):=by
 obtain⟨r,z,rfl⟩:∃ r z,ns=r ++ [z]:=⟨ns.dropLast,ns.getLast hne,(bW hne).symm⟩
 simp
theorem yi {ns:List Int}(hne:ns≠ []):oth ((ns.reverse.map oth).getLastD 0)=ns.headD 0:=by
 obtain⟨h,r,rfl⟩:∃ h r,ns=h::r:=by cases ns with |nil=>exact absurd rfl hne |cons x r=>exact⟨x,r,rfl⟩
 simp[jJ]
theorem zG {l:Ln}{ns:List Int}(hne:ns≠ []):mvs l (ns.reverse.map oth)=((fr l ns (ns.headD 0)).map (jI ns)).map p7++((fr l ns (oth (ns.getLastD 0))).map (onM ns)).map p7:=by
 unfold mvs
 rw[xr,xr,yq hne,yi hne,bJ,bJ]
 congr 1
 ·exact dh λe _=>(xN e).symm
 ·exact dh λe _=>(AJ ns e).symm
def und (k:Str×Int)(t:List Int):Str×Int:=if k.1=Str.ofString "on" then(Str.ofString "back",oth (t.headD 0))else(Str.ofString "on",t.getLastD 0)
theorem AI {l:Ln}{b:List Int}{m:Mv}(ok:fk l)(T:gi l b)(hne:b≠ [])(hm:m∈mvs l b):((und m.1 b,b):Mv)∈mvs l m.2:=by
 have hw:¬(Str.ofString "back")=Str.ofString "on" :=by decide +kernel
 rcases aI.mp hm with z |z
 ·obtain⟨e,he,rfl⟩:=ao.mp z
  have h:=AH ok T hne he
  unfold und
  rw[aD (show(onM b e).1.1=Str.ofString "on" from rfl)]
  exact h
 ·obtain⟨e,he,rfl⟩:=ao.mp z
  have h:=rH ok T hne he
  unfold und
  rw[au (show ¬(jI b e).1.1=Str.ofString "on" from hw)]
  exact h
open TS
end TL
namespace TL
open PySem PySem.Spec PyProof.Rows L2
abbrev Sta:=List Int×Str
abbrev Bk:=Option (Sta×Option (Str×Int))
abbrev EnS:=Sta×Bk
def ow (w:Str):Str:=if w=Str.ofString "on" then Str.ofString "back" else Str.ofString "on"
end TL
namespace TL
open PySem L2 PyProof.Rows
open PySem.Spec
open PySem.W
section
variable {prog:Program}{w:World}{d:Addr}{o:Obj}{es:Array DictEntry}{ep:Nat}
end
end TL
namespace TL
open PySem L2 PyProof.Rows
def swp (p:Int×Int):Int×Int:=(p.2,p.1)
def both (js:List (Int×Int)):List (Int×Int):=js++js.map swp
open PySem.Spec TS
end TL
namespace TL
open PySem L2 PyProof.Rows
def One (l:Ln)(a b:List Int):Prop:=∃ m∈mvs l a,m.2=b
def Gd (l:Ln)(a:List Int):Nat->List Int->Prop
 | 0,b=>b=a
 |k+1,b=>∃ c,Gd l a k c/\One l c b
theorem Gd.trans {l:Ln}{a b c:List Int}{j:Nat}(h:Gd l a j b):∀ {k:Nat},Gd l b k c->Gd l a (j+k) c:=by
 intro k
 induction k generalizing c with
 |zero=>intro z;have z:c=b:=z;subst z;exact h
 |succ k ih=>rintro⟨d,h1,h2⟩;exact⟨d,ih h1,h2⟩
def win (f p:Nat)(t:List Int):List Int:=(t.drop f).take p
theorem pL {f p:Nat}{t:List Int}(h:f+p<=t.length):(win f p t).length=p:=by
 unfold win
 rw[bw,cz]
 omega
theorem sO {f p i:Nat}{t:List Int}(h:i<p):(win f p t)[i]? = t[f+i]? :=by
 unfold win
 rw[eQ h,cn]
theorem wL (f p:Nat)(t:List Int):(win f p t).Sublist t:=(eL _ _).trans (List.drop_sublist _ _)
theorem gi.win {l:Ln}{t:List Int}(T:gi l t)(f p:Nat):gi l (win f p t):=by
 refine⟨λe he=>T.ends e ((wL f p t).subset he),T.nd.sublist ((wL f p t).map _),λi x y hx hy=>?_⟩
 have hi:i+1<p:=by
  have:=(af.mp hy).1
  unfold TL.win at this
  rw[bw]at this
  omega
 rw[sO (by omega)]at hx
 rw[sO hi]at hy
 exact T.ch (f+i) x y hx (by rw[<-hy];congr 1)
theorem Cr {l:Ln}(ok:fk l){h z:Int}{v:List Int}(T:gi l (h::(v ++ [z]))):One l (h::v) (v ++ [z])/\One l (v ++ [z]) (h::v):=by
 have nd:=T.nd
 rw[aM,ax,List.map_singleton,cg,bT]at nd
 obtain⟨n1,n2,_,n3⟩:=nd
 constructor
 ·refine⟨onM (h::v) z,bA _ (ao.mpr ⟨z,?_,rfl⟩),rfl⟩
  unfold fr
  rw[aO]
  have e1:(h::(v ++ [z]))[v.length]? = some ((h::v).getLastD 0):=by
   rw[<-List.cons_append,ak (by simp),cE,df,show(h::v).length-1=v.length by simp,ae (by simp)]
   rfl
  refine⟨T.ch v.length _ z e1 (by rw[List.getElem?_cons_succ,az (aq _),bV];rfl),?_⟩
  have k1:z/2≠h/2:=λe=>n1 (by rw[<-e];simp)
  have k2:z/2∉v.map (· / 2):=λe=>n3 _ e _ (by simp) rfl
  simp only[aM,aJ,Bool.not_eq_true',decide_eq_false_iff_not]
  exact λe=>e.elim k1 k2
 ·refine⟨jI (v ++ [z]) (oth h),aV _ (ao.mpr ⟨oth h,?_,rfl⟩),by show oth (oth h)::(v ++ [z]).dropLast=h::v;rw[jJ,List.dropLast_concat]⟩
  unfold fr
  rw[aO]
  obtain⟨y,hy⟩:∃ y,(v ++ [z])[0]? = some y:=⟨_,ae (by simp)⟩
  have e1:(v ++ [z]).headD 0=y:=by
   cases v with
   |nil=>simpa using hy
   |cons a r=>simpa using hy
  rw[e1]
  refine⟨mW ok (T.ch 0 h y rfl (by rw[List.getElem?_cons_succ];exact hy)),?_⟩
  rw[kF]
  simp only[Bool.not_eq_true',decide_eq_false_iff_not]
  intro e
  rw[ax,List.map_singleton]at e
  exact n1 e
theorem vP {l:Ln}(ok:fk l){U:List Int}(T:gi l U){f p:Nat}(hp:1<=p)(h:f+1+p<=U.length):One l (win f p U) (win (f+1) p U)/\One l (win (f+1) p U) (win f p U):=by
 have TM:=T.win f (p+1)
 obtain⟨q,rfl⟩:∃ q,p=q+1:=⟨p-1,by omega⟩
 have h1:win f (q+1) U=U[f]::win (f+1) q U:=by
  unfold win
  rw[cm (by omega),dg]
 have h2:win (f+1) (q+1) U=win (f+1) q U ++ [U[f+1+q]]:=by
  unfold win
  rw[bG,cn,ae (by omega)]
  rfl
 have h3:win f (q+1+1) U=U[f]::(win (f+1) q U ++ [U[f+1+q]]):=by
  rw[<-h2]
  unfold win
  rw[cm (by omega),dg]
 rw[h3]at TM
 rw[h1,h2]
 exact Cr ok TM
theorem yP {l:Ln}(ok:fk l){t:List Int}(T:gi l t)(hne:t≠ []){e:Int}(he:e∈fr l t (oth (t.getLastD 0))){f p:Nat}(hp:1<=p)(h:f+p<=t.length):
  One l (win f p t) (win f p (t.drop 1 ++ [e]))/\One l (win f p (t.drop 1 ++ [e])) (win f p t):=by
 have TU:=gi.snoc ok T hne he
 have e1:win f p t=win f p (t ++ [e]):=by
  unfold win
  rw[List.drop_append_of_le_length (by omega),List.take_append_of_le_length (by rw[cz];omega)]
 have e2:win f p (t.drop 1 ++ [e])=win (f+1) p (t ++ [e]):=by
  have:t.drop 1 ++ [e]=(t ++ [e]).drop 1:=by rw[List.drop_append_of_le_length (by omega)]
  unfold win
  rw[this,List.drop_drop,Nat.add_comm 1 f]
 rw[e1,e2]
 exact vP ok TU hp (by rw[ah,bE];omega)
theorem yO {l:Ln}(ok:fk l){t:List Int}(T:gi l t)(hne:t≠ []){m:Mv}(hm:m∈mvs l t){f p:Nat}(hp:1<=p)(h:f+p<=t.length):One l (win f p t) (win f p m.2):=by
 have hw:¬(Str.ofString "back")=Str.ofString "on" :=by decide +kernel
 have hmo:=tL ok T hne hm
 rcases aI.mp hm with z |z
 ·obtain⟨e,he,rfl⟩:=ao.mp z
  exact(yP ok T hne he hp h).1
 ·obtain⟨e,he,rfl⟩:=ao.mp z
  have hb:=rH ok T hne he
  rcases aI.mp hb with y |y
  ·obtain⟨e',he',ee⟩:=ao.mp y
   have et:(oth e::t.dropLast).drop 1 ++ [e']=t:=cB Prod.snd ee
   have:=(yP ok hmo.1 hmo.2.2 he' hp (by rw[hmo.2.1];exact h)).2
   have et':((jI t e).2).drop 1 ++ [e']=t:=et
   rw[et']at this
   exact this
  ·obtain⟨e',_,ee⟩:=ao.mp y
   exact absurd (cB (λm:Mv=>m.1.1) ee) hw
theorem Gd.ok {l:Ln}(ok:fk l){t:List Int}(T:gi l t)(hne:t≠ []):∀ {k:Nat}{b:List Int},Gd l t k b->gi l b/\b.length=t.length/\b≠ []
 | 0,b,h=>by have h:b=t:=h;subst h;exact⟨T,rfl,hne⟩
 |k+1,b,⟨c,h1,m,hm,e⟩=>by
  obtain⟨a1,a2,a3⟩:=Gd.ok ok T hne h1
  have:=tL ok a1 a3 hm
  rw[e]at this
  exact⟨this.1,by omega,this.2.2⟩
theorem Gd.win {l:Ln}(ok:fk l){t:List Int}(T:gi l t)(hne:t≠ []){f p:Nat}(hp:1<=p)(h:f+p<=t.length):∀ {k:Nat}{b:List Int},Gd l t k b->Gd l (win f p t) k (win f p b)
 | 0,b,g=>by have g:b=t:=g;subst g;exact rfl
 |k+1,b,⟨c,h1,m,hm,e⟩=>by
  obtain⟨a1,a2,a3⟩:=Gd.ok ok T hne h1
  refine⟨_,Gd.win ok T hne hp h h1,?_⟩
  rw[<-e]
  exact yO ok a1 a3 hm hp (by omega)
theorem yV {l:Ln}(ok:fk l){U:List Int}(T:gi l U){p:Nat}(hp:1<=p):∀ (k f:Nat),f+k+p<=U.length->Gd l (win f p U) k (win (f+k) p U)
 | 0,f,_=>rfl
 |k+1,f,h=>⟨_,yV ok T hp k f (by omega),(vP ok T hp (f:=f+k) (by omega)).1⟩
theorem yW {l:Ln}(ok:fk l){U:List Int}(T:gi l U){p:Nat}(hp:1<=p):∀ (k f:Nat),f+k+p<=U.length->Gd l (win (f+k) p U) k (win f p U)
 | 0,f,_=>rfl
 |k+1,f,h=>⟨win (f+1) p U,by have:=yW ok T hp k (f+1) (by omega);rwa [show f+1+k=f+(k+1) by omega]at this,(vP ok T hp (f:=f) (by omega)).2⟩
theorem yH {f p:Nat}{t:List Int}(h:f+p<=t.length):(win f p t).reverse.map oth=win (t.length-f-p) p (t.reverse.map oth):=by
 refine dF λi=>?_
 by_cases hi:i<p
 ·have hl:=pL h
  rw[sO hi,aj,aj,cD (by omega),cD (by omega),hl,sO (by omega)]
  congr 2
  omega
 ·rw[bI (by rw[aa,aP,pL h];omega),bI (by rw[pL (by rw[aa,aP];omega)];omega)]
theorem uK {l:Ln}(ok:fk l){t:List Int}(T:gi l t)(hne:t≠ []){k:Nat}(g:Gd l t k (t.reverse.map oth)){f p:Nat}(hp:1<=p)(h:f+p<=t.length):
  ∃ d,d<=k+t.length-p/\Gd l (win f p t) d ((win f p t).reverse.map oth):=by
 have g1:=Gd.win ok T hne hp h g
 have TU:=rJ ok T
 have ul:(t.reverse.map oth).length=t.length:=by rw[aa,aP]
 rw[yH h]
 by_cases c:f<=t.length-f-p
 ·have g2:=yV ok TU hp (t.length-f-p-f) f (by omega)
  rw[show f+(t.length-f-p-f)=t.length-f-p by omega]at g2
  exact⟨_,by omega,g1.trans g2⟩
 ·have g2:=yW ok TU hp (f-(t.length-f-p)) (t.length-f-p) (by omega)
  rw[show t.length-f-p+(f-(t.length-f-p))=f by omega]at g2
  exact⟨_,by omega,g1.trans g2⟩
theorem wM {l:Ln}{ns:List Int}(P:List Int->Prop)(h0:P ns)(hs:∀ t m,P t->m∈mvs l t->P m.2):∀ i,∀ e∈fy l ns i,P e.1
 | 0=>λe he=>by have z:e=(ns,none):=(by simpa [fy]using he);rw[z];exact h0
 |i+1=>by
  have ih:=wM P h0 hs i
  rw[fy]
  split
  ·rename_i e0 he0
   have r0:=ih e0 (aG he0)
   have gen:∀ (ms:List Mv) (o:List Ent),(∀ m∈ms,m∈mvs l e0.1)->(∀ e∈o,P e.1)->∀ e∈fQ e0.1 ms o,P e.1:=by
    intro ms
    induction ms with
    |nil=>intro o _ h;exact h
    |cons m ms ihm=>
     intro o hm h
     refine ihm (lJ e0.1 o m) (λx hx=>hm x (aC _ hx)) ?_
     unfold lJ
     split
     ·exact h
     ·intro e he
      rcases aI.mp he with z |z
      ·exact h e z
      ·rw[aQ.mp z]
       exact hs _ m r0 (hm m ar)
   exact gen _ _ (λm hm=>hm) ih
  ·exact ih
open PySem.Spec
abbrev sts (x:List EnS×List Sta):List Sta:=x.1.map (·.1)
section
variable {l:Ln}{W:List (List Int)}{tr:List Int}{r:Nat}
end
section
variable {l:Ln}{W:List (List Int)}{tr:List Int}{r:Nat}
end
section
variable {X:Cx}
end
section
variable {l:Ln}{W:List (List Int)}{tr:List Int}{r:Nat}
end
inductive Go (l:Ln) (s:List Int):List Str->List Int->Prop
 |nil:Go l s [] s
 |snoc {ws:List Str}{t:List Int}{m:Mv} :Go l s ws t->m∈mvs l t->Go l s (ws ++ [m.1.1]) m.2
section
variable {l:Ln}{s t u:List Int}{ws vs:List Str}
theorem Go.trans (h:Go l s ws t)(k:Go l t vs u):Go l s (ws++vs) u:=by
 induction k with
 |nil=>rw[bX];exact h
 |snoc _ hm ih=>rw[<-aN];exact ih.snoc hm
theorem Go.one {m:Mv}(hm:m∈mvs l s):Go l s [m.1.1] m.2:=Go.snoc (ws:=[]) .nil hm
theorem Go.ok (ok:fk l)(T:gi l s)(hne:s≠ [])(h:Go l s ws t):gi l t/\t.length=s.length/\t≠ []:=by
 induction h with
 |nil=>exact⟨T,rfl,hne⟩
 |snoc _ hm ih=>
  obtain⟨a,b,c⟩:=tL ok ih.1 ih.2.2 hm
  exact⟨a,b.trans ih.2.1,c⟩
theorem Ce (k:Str×Int)(t:List Int):(und k t).1=ow k.1:=by
 unfold und ow
 split<;>rfl
theorem Go.FI (ok:fk l)(T:gi l s)(hne:s≠ [])(h:Go l s ws t):Go l t (ws.reverse.map ow) s:=by
 induction h with
 |nil=>exact .nil
 |@snoc ws t m h hm ih=>
  obtain⟨T1,_,n1⟩:=h.ok ok T hne
  have g:=Go.one (AI ok T1 n1 hm)
  have e:(und m.1 t).1=ow m.1.1:=Ce _ _
  have g2:Go l m.2 [ow m.1.1] t:=by rw[<-e];exact g
  have:=g2.trans ih
  rw[bO,ax]
  exact this
theorem yN {m:Mv}(hne:t≠ [])(hm:m∈mvs l t):p7 m∈mvs l (t.reverse.map oth):=by
 rw[zG hne]
 rcases aI.mp hm with z |z
 ·exact aV _ (ao.mpr ⟨m,z,rfl⟩)
 ·exact bA _ (ao.mpr ⟨m,z,rfl⟩)
theorem Go.turn (ok:fk l)(T:gi l s)(hne:s≠ [])(h:Go l s ws t):Go l (s.reverse.map oth) (ws.map ow) (t.reverse.map oth):=by
 induction h with
 |nil=>exact .nil
 |@snoc ws t m h hm ih=>
  have n1:=(h.ok ok T hne).2.2
  have:=ih.snoc (yN n1 hm)
  rw[ax]
  exact this
theorem vI (i:Nat):∀ e∈fy l s i,∃ ws,Go l s ws e.1:=wM (λt=>∃ ws,Go l s ws t) ⟨[],.nil⟩ (λ_ _ ⟨_,h⟩ hm=>⟨_,h.snoc hm⟩) i
theorem Ae (ok:fk l)(T:gi l s)(hne:s≠ []){i:Nat}(hi:(fy l s i).length=i)(h:Go l s ws t):t∈(fy l s i).map (·.1):=by
 obtain⟨_,h0,hsh⟩:=yJ ok T hne hi
 induction h with
 |nil=>exact h0
 |snoc _ hm ih=>exact(hsh _ ih).2 _ hm
end
section
variable {m:Int}{nm es:List Int}{js js':List (Int×Int)}{s t u:List Int}{ws:List Str}
def In (m:Int)(t:List Int):Prop:=∀ e∈t,0<=e/\e<2*m
end
theorem gi.init {l:Ln}{u:List Int}{e:Int}(ok:fk l)(hne:u≠ [])(T:gi l (u ++ [e])):gi l u/\e∈fr l u (oth (u.getLastD 0)):=by
 have hc:∀ (i:Nat) x y,u[i]? = some x->u[i+1]? = some y->y∈jn l.2 (oth x):=λi x y hx hy=>by
  refine T.ch i x y ?_ ?_
  ·rw[ak (af.mp hx).1];exact hx
  ·rw[ak (af.mp hy).1];exact hy
 have nd:=T.nd
 rw[ax,bT]at nd
 refine⟨⟨λx hx=>T.ends x (bA _ hx),nd.1,hc⟩,wA.mpr ⟨?_,λz=>nd.2.2 _ z _ (by simp) rfl⟩⟩
 obtain⟨r,z,rfl⟩:∃ r z,u=r ++ [z]:=⟨u.dropLast,u.getLast hne,(bW hne).symm⟩
 have:=T.ch r.length z e (by simp) (by simp)
 simpa using this
theorem og {l:Ln}(ok:fk l):∀ (k:Nat) (t:List Int),gi l t->t.length=k+1->t∈fv l k
 | 0,t,T,hl=>by
  match t,hl with
  |[e],_=>
   have:=T.ends e ar
   exact ao.mpr ⟨e,uz.mpr (by omega),rfl⟩
 |k+1,t,T,hl=>by
  have hne:t≠ []:=λz=>by rw[z]at hl;cases hl
  obtain⟨u,e,rfl⟩:∃ r z,t=r ++ [z]:=⟨t.dropLast,t.getLast hne,(bW hne).symm⟩
  rw[ah]at hl
  have hl:u.length=k+1:=by simpa using hl
  obtain⟨T1,he⟩:=T.init ok λz=>by rw[z]at hl;cases hl
  exact List.mem_flatMap.mpr ⟨u,og ok k u T1 hl,ao.mpr ⟨e,he,rfl⟩⟩
def Rch (l:Ln)(t u:List Int):Prop:=∃ ws,Go l t ws u
theorem Rch.rfl' {l:Ln}(t:List Int):Rch l t t:=⟨[],.nil⟩
theorem Rch.symm {l:Ln}{t u:List Int}(ok:fk l)(T:gi l t)(hne:t≠ [])(h:Rch l t u):Rch l u t:=by
 obtain⟨ws,g⟩:=h
 exact⟨_,g.FI ok T hne⟩
theorem Rch.trans {l:Ln}{t u v:List Int}(h:Rch l t u)(k:Rch l u v):Rch l t v:=by
 obtain⟨ws,g⟩:=h
 obtain⟨vs,g'⟩:=k
 exact⟨_,g.trans g'⟩
open Classical in
noncomputable def grp (l:Ln) (k:Nat) (t:List Int):List (List Int):=(fv l k).filter λu=>decide (Rch l t u)
section
variable {l:Ln}{k:Nat}
theorem iV (ok:fk l){t:List Int}(h:t∈fv l k):gi l t/\t.length=k+1/\t≠ []:=by
 obtain⟨T,hl⟩:=lW ok k t h
 exact⟨T,hl,λz=>by rw[z]at hl;cases hl⟩
open Classical in
theorem lD (ok:fk l){t u:List Int}(h:t∈fv l k):u∈grp l k t↔Rch l t u:=by
 unfold grp
 rw[aO]
 obtain⟨T,hl,hne⟩:=iV ok h
 constructor
 ·exact λz=>bL z.2
 ·intro z
  obtain⟨ws,g⟩:=id z
  obtain⟨T1,l1,_⟩:=g.ok ok T hne
  exact⟨og ok k u T1 (l1.trans hl),aX z⟩
theorem tS {t u:List Int}(h:u∈grp l k t):u∈fv l k:=(aO.mp h).1
theorem Ac (G:gm l)(t:List Int):(grp l k t).Pairwise (λa b=>gM a b=true):=(qO G k).filter _
theorem Ab (G:gm l)(t:List Int):(grp l k t).Nodup:=(Am G k).filter _
theorem jC (ok:fk l){t:List Int}(h:t∈fv l k):t∈grp l k t:=(lD ok h).mpr (Rch.rfl' t)
open Classical in
theorem lC (ok:fk l){t u:List Int}(ht:t∈fv l k)(h:u∈grp l k t):grp l k u=grp l k t:=by
 have hu:=tS h
 have r:=(lD ok ht).mp h
 obtain⟨T,_,hne⟩:=iV ok ht
 unfold grp
 refine List.filter_congr λv hv=>?_
 refine decide_eq_decide.mpr ⟨λz=>r.trans z,λz=>(r.symm ok T hne).trans z⟩
theorem Bo (G:gm l){t:List Int}(h:t∈fv l k){i:Nat}(hi:(fy l t i).length=i){ts:List (List Int)}(pe:ts.Perm ((fy l t i).map (·.1)))(so:ts.Pairwise (λa b=>gM b a=false)):ts=grp l k t:=by
 have ok:=G.gR
 obtain⟨T,hl,hne⟩:=iV ok h
 have E:=jj ok T hne i
 refine kW (pe.trans ?_) so (cH (λ{a b} h=>nE h) (Ac G t))
 refine(List.perm_ext_iff_of_nodup E.nd (Ab G t)).mpr λu=>?_
 rw[lD ok h]
 constructor
 ·intro z
  obtain⟨e,he,rfl⟩:=ao.mp z
  exact vI i e he
 ·rintro⟨ws,g⟩
  exact Ae ok T hne hi g
noncomputable def iX (l:Ln) (k:Nat) (ts:List (List Int)):List (List (List Int)):=
 match ts with
 |[]=>[]
 |t::r=>grp l k t::iX l k (r.filter λu=>decide (u∉grp l k t))
termination_by ts.length
decreasing_by
 refine Nat.lt_succ_of_le ?_
 rw[List.length_unattach]
 exact bF (bH _ _) (Nat.le_of_eq List.length_attach)
theorem vc:iX l k [] = []:=by rw[iX]
theorem sv (t:List Int)(r:List (List Int)):iX l k (t::r)=grp l k t::iX l k (r.filter λu=>decide (u∉grp l k t)):=by rw[iX]
noncomputable def pst (l:Ln) (k:Nat) (F:List (List (List Int))) (t:List Int):List (List (List Int)):=if t∈F.flatten then F else F ++ [grp l k t]
theorem sC:∀ (ts:List (List Int)) (F:List (List (List Int))),ts.foldl (pst l k) F=F++iX l k (ts.filter λu=>decide (u∉F.flatten))
 |[],F=>by rw[List.filter_nil,vc,bX];rfl
 |t::r,F=>by
  rw[cQ,sC r]
  unfold pst
  by_cases h:t∈F.flatten
  ·rw[aD h,bY,au (by simp[h])]
  ·rw[au h,bY,aD (by simp[h]),sv,aN,List.filter_filter]
   have e:(r.filter λu=>decide (u∉(F ++ [grp l k t]).flatten))=r.filter λa=>decide (a∉grp l k t)&&decide (a∉F.flatten):=List.filter_congr λu _=>by
    rw[d9,List.flatten_singleton]
    by_cases a:u∈F.flatten<;>by_cases b:u∈grp l k t<;>simp[a,b]
   rw[e];rfl
theorem fold_all:(fv l k).foldl (pst l k) []=iX l k (fv l k):=by
 rw[sC,List.nil_append]
 congr 1
 rw[List.filter_eq_self]
 intro u _
 simp
end
section
variable {D:Ends}{σ:L2.St}{H:Hp}
theorem nm2 {t1 t2 R:TS}(h:∀ r:TS,(∀ D σ H,R D σ H->r D σ H)->pD t1 (pD t2 r) D σ H):pD t1 (pD t2 R) D σ H:=h R λ_ _ _ z=>z
theorem nm3 {t1 t2 t3 R:TS}(h:∀ r:TS,(∀ D σ H,R D σ H->r D σ H)->pD t1 (pD t2 (pD t3 r)) D σ H):pD t1 (pD t2 (pD t3 R)) D σ H:=h R λ_ _ _ z=>z
theorem cut {t u:TS}(J:L2.St->Hp->Prop)(first:∀ (N:L2.St->Hp->Prop) (R:VK) (B C:L2.St->Hp->Prop),(∀ σ' H',J σ' H'->N σ' H')->(∀ v H',D.rt v H'->R v H')->t ⟨N,R,B,C⟩ σ H)(rest:∀ σ' H',J σ' H'->u D σ' H'):pD t u D σ H:=
 first (u D) D.rt D.bk D.ct rest λ_ _ z=>z
theorem gS {K:PySem.W.Frag}{a:Addr}{xs:List V}{g:TG}{tb:TS}(Pv:Nat->L2.St->Hp->Prop)(h0:Pv 0 σ H)(hl:∀ i σ H,i<=xs.length->Pv i σ H->SqL K H a xs)
  (hs:∀ i x σ H (N:L2.St->Hp->Prop) (R:VK) (B:L2.St->Hp->Prop),(∀ σ' H',Pv (i+1) σ' H'->N σ' H')->(∀ v H',D.rt v H'->R v H')->xs[i]? = some x->Pv i σ H->g x σ H λσ2 H2=>tb ⟨N,R,B,N⟩ σ2 H2) (hd:∀ σ H,Pv xs.length σ H->D.nx σ H):
  ∃ W:Nat->Nat->L2.St->Hp->Prop,(∃ m,W 0 m σ H)/\∀ i m σ H,W i m σ H->
   ((Itl K a).stop i H/\D.nx σ H)\/((Itl K a).go i H/\∃ N:L2.St->Hp->Prop,(∀ σ' H',N σ' H'->∃ m',m'<m/\W (i+1) m' σ' H')/\∀ x H',(Itl K a).yld i H x H'->g x σ H' λσ2 H2=>tb {D with nx:=N,ct:=N,bk:=D.nx} σ2 H2):=
 Ah Pv h0 hl (λi x σ H hx p=>hs i x σ H _ _ _ (λ_ _ z=>z) (λ_ _ z=>z) hx p) hd
theorem i9 {lo:Int}{n:Nat}{g:TG}{tb:TS}(Pv:Nat->L2.St->Hp->Prop)(h0:Pv 0 σ H)
  (hs:∀ i σ H (N:L2.St->Hp->Prop) (R:VK) (B:L2.St->Hp->Prop),(∀ σ' H',Pv (i+1) σ' H'->N σ' H')->(∀ v H',D.rt v H'->R v H')->i<n->Pv i σ H->g (.int (lo+i)) σ H λσ2 H2=>tb ⟨N,R,B,N⟩ σ2 H2) (hd:∀ σ H,Pv n σ H->D.nx σ H):
  ∃ W:Nat->Nat->L2.St->Hp->Prop,(∃ m,W 0 m σ H)/\∀ i m σ H,W i m σ H->
   ((Itr lo n).stop i H/\D.nx σ H)\/((Itr lo n).go i H/\∃ N:L2.St->Hp->Prop,(∀ σ' H',N σ' H'->∃ m',m'<m/\W (i+1) m' σ' H')/\∀ x H',(Itr lo n).yld i H x H'->g x σ H' λσ2 H2=>tb {D with nx:=N,ct:=N,bk:=D.nx} σ2 H2):=
 oR Pv h0 (λi σ H hx p=>hs i σ H _ _ _ (λ_ _ z=>z) (λ_ _ z=>z) hx p) hd
theorem sA {K:PySem.W.Frag}{a:Addr}{xs:List V}{g:TG}{tb:TS}(Pv:Nat->L2.St->Hp->Prop)(h0:Pv 0 σ H)(hl:∀ i σ H,i<=xs.length->Pv i σ H->SqL K H a xs)
  (hs:∀ i x σ H p (N:L2.St->Hp->Prop) (R:VK) (B:L2.St->Hp->Prop),(∀ σ' H',Pv (i+1) σ' H'->N σ' H')->(∀ v H',D.rt v H'->R v H')->xs[i]? = some x->Pv i σ H->H p=none->g (.ref p) σ (upd H p (.tup [.int i,x])) λσ2 H2=>tb ⟨N,R,B,N⟩ σ2 H2) (hd:∀ σ H,Pv xs.length σ H->D.nx σ H):
  ∃ W:Nat->Nat->L2.St->Hp->Prop,(∃ m,W 0 m σ H)/\∀ i m σ H,W i m σ H->
   ((Ite K a).stop i H/\D.nx σ H)\/((Ite K a).go i H/\∃ N:L2.St->Hp->Prop,(∀ σ' H',N σ' H'->∃ m',m'<m/\W (i+1) m' σ' H')/\∀ x H',(Ite K a).yld i H x H'->g x σ H' λσ2 H2=>tb {D with nx:=N,ct:=N,bk:=D.nx} σ2 H2):=
 Ai Pv h0 hl (λi x σ H p hx q np=>hs i x σ H p _ _ _ (λ_ _ z=>z) (λ_ _ z=>z) hx q np) hd
theorem rE {c:TT}{tb:TS}(Pv:L2.St->Hp->Prop)(μ:L2.St->Hp->Nat)(h0:Pv σ H)
  (hs:∀ σ H (N:L2.St->Hp->Prop) (R:VK) (B:L2.St->Hp->Prop),(∀ σ' H',Pv σ' H'->μ σ' H'<μ σ H->N σ' H')->(∀ v H',D.rt v H'->R v H')->(∀ σ' H',D.nx σ' H'->B σ' H')->Pv σ H->c σ H λb H1=>if b=true then tb ⟨N,R,B,N⟩ σ H1 else B σ H1)
  (mono:∀ σ H Q Q',(∀ b H1,Q b H1->Q' b H1)->c σ H Q->c σ H Q'):oC c tb D σ H:=
 yI Pv μ h0 (λσ H p=>hs σ H _ _ _ (λ_ _ a b=>⟨a,b⟩) (λ_ _ z=>z) (λ_ _ z=>z) p) mono
end
section
variable {l:Ln}{k:Nat}
theorem sP (G:gm l){t:List Int}(h:t∈fv l k)(i:Nat):(fy l t i).length<=(fv l k).length:=by
 have ok:=G.gR
 obtain⟨T,hl,hne⟩:=iV ok h
 have E:=jj ok T hne i
 have:=ly E.nd (l2:=fv l k) λu hu=>by
  obtain⟨e,he,rfl⟩:=ao.mp hu
  obtain⟨ws,g⟩:=vI i e he
  obtain⟨T1,l1,_⟩:=g.ok ok T hne
  exact og ok k _ T1 (l1.trans hl)
 rwa [aa]at this
def wI (l:Ln)(k:Nat)(F:List (List (List Int))):Prop:=∀ g∈F,∃ t∈fv l k,g=grp l k t
theorem tR (ts:List (List Int))(hs:∀ t∈ts,t∈fv l k):∀ (F:List (List (List Int))),wI l k F->wI l k (ts.foldl (pst l k) F):=by
 induction ts with
 |nil=>exact λF h=>h
 |cons t r ih=>
  intro F h
  rw[cQ]
  refine ih (λu hu=>hs u (aC _ hu)) _ ?_
  unfold pst
  split
  ·exact h
  ·intro g hg
   rcases aI.mp hg with z |z
   ·exact h g z
   ·rw[aQ.mp z]
    exact⟨t,hs t ar,rfl⟩
theorem Dy (ok:fk l){F:List (List (List Int))}(h:wI l k F){t u:List Int}(ht:t∈fv l k)(nt:t∉F.flatten)(hu:u∈grp l k t):u∉F.flatten:=λz=>by
 obtain⟨g,hg,hug⟩:=cM.mp z
 obtain⟨t',ht',rfl⟩:=h g hg
 refine nt (cM.mpr ⟨_,hg,?_⟩)
 rw[<-lC ok ht' hug,lC ok ht hu]
 exact jC ok ht
theorem Aj (ts:List (List Int)):∀ (F:List (List (List Int))),∀ u∈F.flatten,u∈(ts.foldl (pst l k) F).flatten:=by
 induction ts with
 |nil=>exact λF u h=>h
 |cons t r ih=>
  intro F u h
  rw[cQ]
  refine ih _ u ?_
  unfold pst
  split
  ·exact h
  ·rw[d9];exact bA _ h
theorem Al (ok:fk l):∀ (ts:List (List Int)),(∀ t∈ts,t∈fv l k)->∀ (F:List (List (List Int))),∀ u∈ts,u∈(ts.foldl (pst l k) F).flatten:=by
 intro ts
 induction ts with
 |nil=>intro _ F u h;cases h
 |cons t r ih=>
  intro hs F u h
  rw[cQ]
  rcases aJ.mp h with rfl |q
  ·refine Aj r _ u ?_
   unfold pst
   split
   ·assumption
   ·rw[d9,List.flatten_singleton];exact aV _ (jC ok (hs u ar))
  ·exact ih (λv hv=>hs v (aC _ hv)) _ u q
theorem qK (l:Ln)(k:Nat):wI l k (iX l k (fv l k)):=by
 rw[<-fold_all]
 exact tR _ (λt h=>h) [] λg hg=>by cases hg
theorem wy (ok:fk l){u:List Int}(h:u∈fv l k):u∈(iX l k (fv l k)).flatten:=by
 rw[<-fold_all]
 exact Al ok _ (λt h=>h) [] u h
def oK (F:List (List (List Int)))(u:List Int):Nat:=F.findIdx λg=>decide (u∈g)
theorem Bd {F:List (List (List Int))}{g:List (List Int)}{u:List Int}(h:u∈F.flatten):oK (F ++ [g]) u=oK F u:=by
 unfold oK
 obtain⟨g',hg,hu⟩:=cM.mp h
 rw[List.findIdx_append,aD (List.findIdx_lt_length_of_exists ⟨g',hg,aX hu⟩)]
theorem Be {F:List (List (List Int))}{g:List (List Int)}{u:List Int}(h:u∉F.flatten)(hg:u∈g):oK (F ++ [g]) u=F.length:=by
 unfold oK
 have:F.findIdx (λg=>decide (u∈g))=F.length:=List.findIdx_eq_length.mpr λg' hg'=>aR λz=>h (cM.mpr ⟨g',hg',z⟩)
 rw[List.findIdx_append,au (by omega),List.findIdx_cons,aX hg];simp
end
theorem rG {κ:Type} [DecidableEq κ] (kvs:List (κ×V))(k k':κ)(v:V):ic (kvs ++ [(k,v)]) k'=if(ic kvs k').isSome then ic kvs k' else if k=k' then some v else none:=by
 unfold ic
 rw[eN]
 cases h:kvs.find? (λkv=>decide (kv.1=k'))with
 |some x=>simp
 |none=>by_cases e:k=k'<;>simp[e]
def rC (kvs:List (List Key×V))(F:List (List (List Int))):Prop:=∀ u,ic kvs (kyI u)=if u∈F.flatten then some (V.int (oK F u:Int))else none
def wG (kvs:List (List Key×V))(F:List (List (List Int)))(s:List (List Int)):Prop:=∀ u,ic kvs (kyI u)=if u∈F.flatten then some (V.int (oK F u:Int))else if u∈s then some (V.int (F.length:Int))else none
theorem rC.mem {kvs:List (List Key×V)}{F:List (List (List Int))}(h:rC kvs F)(u:List Int):(ic kvs (kyI u)).isSome=decide (u∈F.flatten):=by
 rw[h u]
 by_cases e:u∈F.flatten
 ·rw[aD e,aX e];rfl
 ·rw[au e,aR e];rfl
theorem rC.start {kvs:List (List Key×V)}{F:List (List (List Int))}(h:rC kvs F):wG kvs F []:=λu=>by rw[h u,au (dQ)]
theorem wG.put {kvs:List (List Key×V)}{F:List (List (List Int))}{s:List (List Int)}{t:List Int}(h:wG kvs F s)(h1:t∉F.flatten)(h2:t∉s):wG (putK kvs (kyI t) (V.int (F.length:Int))) F (s ++ [t])/\(putK kvs (kyI t) (V.int (F.length:Int))).length=kvs.length+1:=by
 have hn:ic kvs (kyI t)=none:=by rw[h t,au h1,au h2]
 rw[nU _ hn]
 refine⟨λu=>?_,by rw[ah];rfl⟩
 rw[rG,h u]
 by_cases e:u=t
 ·subst e
  rw[au h1,au h2,au h1,aD (aV _ ar)]
  simp
 ·have e':kyI t≠kyI u:=λz=>e (pT z).symm
  by_cases a:u∈F.flatten
  ·simp[a]
  ·by_cases b:u∈s
   ·simp[a,b]
   ·simp[a,b,e,e']
theorem wG.done {kvs:List (List Key×V)}{F:List (List (List Int))}{g:List (List Int)}(h:wG kvs F g)(dj:∀ u∈g,u∉F.flatten):rC kvs (F ++ [g]):=λu=>by
 rw[h u,d9,List.flatten_singleton]
 by_cases a:u∈F.flatten
 ·rw[aD a,aD (bA _ a),Bd a]
 ·by_cases b:u∈g
  ·rw[au a,aD b,aD (aV _ b),Be a b]
  ·rw[au a,au b,au (by simp[a,b])]
theorem rC.nil:rC [] []:=λu=>by simp[ic]
theorem oA {R:Addr->List Int->Prop} :∀ {Z:List (V×List Int)},(∀ z∈Z,∃ a,z.1 = .ref a/\R a z.2)->∃ as:List Addr,Z.map (·.1)=as.map V.ref/\as.length=(Z.map (·.2)).length/\∀ (i:Nat) a t,as[i]? = some a->(Z.map (·.2))[i]? = some t->R a t
 |[],_=>⟨[],rfl,rfl,λi a t h=>by simp at h⟩
 |z::Z,h=>by
  obtain⟨as,e1,e2,e3⟩:=oA (R:=R) (Z:=Z) λy hy=>h y (aC _ hy)
  obtain⟨a,e4,e5⟩:=h z ar
  refine⟨a::as,by rw[aM,aM,e1,e4],by rw[aM,aY,aY,e2],λi b t h1 h2=>?_⟩
  cases i with
  |zero=>cases h1;cases h2;exact e5
  |succ n=>exact e3 n b t (by simpa using h1) (by simpa using h2)
theorem t8 {R:Addr->List Int->Prop}{as:List Addr}{ts:List (List Int)}(hl:as.length=ts.length)(h:∀ (i:Nat) a t,as[i]? = some a->ts[i]? = some t->R a t):∀ z∈(as.map V.ref).zip ts,∃ a,z.1 = .ref a/\R a z.2:=λz hz=>by
 obtain⟨i,hi,e⟩:=bt.mp hz
 rw[bK,aa]at hi
 rw[cZ]at e
 refine⟨as[i]'(by omega),by rw[<-e];simp,h i _ _ (ae (by omega)) ?_⟩
 rw[<-e]
 exact ae (by omega)
theorem t9 {vs:List V}{ts:List (List Int)}{Z:List (V×List Int)}(hl:vs.length=ts.length)(zp:Z.Perm (vs.zip ts)):(Z.map (·.2)).Perm ts:=by
 have:=zp.map (·.2)
 rwa [List.map_snd_zip (by omega)]at this
theorem Fd {l:Ln}{k:Nat}(ok:fk l){g:List (List Int)}(h:∃ t∈fv l k,g=grp l k t):g≠ []:=by
 obtain⟨t,ht,rfl⟩:=h
 exact λz=>by have:=jC ok ht;rw[z]at this;cases this
theorem Br {l:Ln}{k:Nat}(ok:fk l)(ts:List (List Int)):∀ (F:List (List (List Int))),(∀ t∈ts,t∈fv l k)->wI l k F->F.Nodup->(ts.foldl (pst l k) F).Nodup:=by
 induction ts with
 |nil=>exact λF _ _ h=>h
 |cons t r ih=>
  intro F hs h nd
  rw[cQ]
  refine ih _ (λu hu=>hs u (aC _ hu)) (tR [t] (λu hu=>by rw[aQ.mp hu];exact hs t ar) F h) ?_
  unfold pst
  split
  ·exact nd
  ·rename_i c
   rw[bT]
   refine⟨nd,by simp,λg hg g' hg' e=>c ?_⟩
   rw[aQ.mp hg']at e
   exact cM.mpr ⟨g,hg,by rw[e];exact jC ok (hs t ar)⟩
theorem Bj {l:Ln}{k:Nat}(ok:fk l):(iX l k (fv l k)).Nodup:=by
 rw[<-fold_all]
 exact Br ok _ [] (λt h=>h) (λg hg=>by cases hg) (by simp)
theorem yt {l:Ln}{k:Nat}{i:Nat}{t:List Int}(h:(fv l k)[i]? = some t):((fv l k).take (i+1)).foldl (pst l k) []=pst l k (((fv l k).take i).foldl (pst l k) []) t:=by
 rw[bG,h,eM];rfl
def twn (gs:List (List (List Int)))(ts:List (List Int)):Int:=(oK gs ((ts.headD []).reverse.map oth):Nat)
section
variable {l:Ln}{k:Nat}
theorem oO (ok:fk l){F:List (List (List Int))}(h:wI l k F){g:List (List Int)}(hg:g∈F):∃ u r,g=u::r/\u∈fv l k/\g.headD []=u/\g=grp l k u:=by
 obtain⟨t,ht,e⟩:=h g hg
 cases q:g with
 |nil=>exact absurd q (Fd ok (h g hg))
 |cons u r=>
  have um:u∈grp l k t:=by rw[<-e,q];exact ar
  exact⟨u,r,rfl,tS um,rfl,by rw[<-q,e,lC ok ht um]⟩
theorem Ak (ts:List (List Int)):∀ F:List (List (List Int)),(ts.foldl (pst l k) F).length<=F.length+ts.length:=by
 induction ts with
 |nil=>exact λF=>aq _
 |cons t r ih=>
  intro F
  rw[cQ]
  have:=ih (pst l k F t)
  have h2:(pst l k F t).length<=F.length+1:=by
   unfold pst
   split
   ·omega
   ·rw[ah];exact aq _
  rw[aY]
  omega
theorem Aa (l:Ln)(k:Nat):(iX l k (fv l k)).length<=(fv l k).length:=by
 rw[<-TL.fold_all]
 have:=Ak (l:=l) (k:=k) (fv l k) []
 simpa using this
theorem ug (ok:fk l){t:List Int}(h:t∈fv l k):t.reverse.map oth∈fv l k:=by
 obtain⟨T,hl,_⟩:=iV ok h
 exact og ok k _ (rJ ok T) (by rw[aa,aP,hl])
end
theorem zW {l:Addr}{H G:Hp}(s:fi H G)(n:H l=none):fi H (hid l G):=λb o h=>by
 rw[gz (fb h n)];exact s b o h
theorem pX {α β:Type}(q:β->Bool):∀ {as:List α}{ts:List β},as.length=ts.length->((as.zip ts).filter λz=>q z.2).map (·.2)=ts.filter q
 |[],[],_=>rfl
 |a::as,t::ts,h=>by
  have ih:=pX q (as:=as) (ts:=ts) (by simpa using h)
  rw[eD,bY,bY]
  by_cases e:q t=true
  ·rw[aD e,aD e,aM,ih]
  ·rw[au e,au e,ih]
 |[],_::_,h=>by simp at h
 |_::_,[],h=>by simp at h
theorem By (t:List Int)(ts:List (List Int)):PyData.eqv (dLI (t::ts)) (.list [])=false:=by simp[dLI,PyData.eqv,PyData.eqvAll]
def qu (g:List (List Int)):Bool:=decide ((g.headD []).reverse.map oth∈g)
noncomputable def fo (l:Ln) (k:Nat) (ts:List (List Int)):Option (List Int):=((iX l k ts).find? qu).map (·.headD [])
section
variable {l:Ln}{k:Nat}
structure Lft (l:Ln)(k:Nat)(ts:List (List Int)):Prop where
 sub:∀ t∈ts,t∈fv l k
 so:ts.Pairwise (λa b=>gM a b=true)
 Em:∀ u∈ts,∀ v∈grp l k u,v∈ts
theorem Lft.all (G:gm l):Lft l k (fv l k):=⟨λt h=>h,qO G k,λu _ v hv=>tS hv⟩
theorem Lft.head (G:gm l){t:List Int}{r:List (List Int)}(h:Lft l k (t::r)):(grp l k t).headD []=t:=by
 have ok:=G.gR
 have tm:=h.sub t ar
 have st:=jC ok tm
 have lt:=Ac (k:=k) G t
 have sh:=h.Em t ar
 cases q:grp l k t with
 |nil=>rw[q]at st;cases st
 |cons x s=>
  rw[q]at st lt sh
  show x=t
  rcases aJ.mp st with e |e
  ·exact e.symm
  ·have h1:=(bM.mp lt).1 t e
   rcases aJ.mp (sh x ar)with e2 |e2
   ·exact e2
   ·have h2:=(bM.mp h.so).1 x e2
    rw[nE h1]at h2;cases h2
theorem Lft.next (G:gm l){t:List Int}{r:List (List Int)}(h:Lft l k (t::r)):Lft l k (r.filter λu=>decide (u∉grp l k t)):=by
 have ok:=G.gR
 have tm:=h.sub t ar
 refine⟨λu hu=>h.sub u (aC _ (aO.mp hu).1),(bM.mp h.so).2.filter _,λu hu v hv=>?_⟩
 obtain⟨u1,u2⟩:=aO.mp hu
 have u2:u∉grp l k t:=by simpa using u2
 have um:=h.sub u (aC _ u1)
 have vt:v∉grp l k t:=λz=>u2 (by rw[<-lC ok tm z,lC ok um hv];exact jC ok um)
 refine aO.mpr ⟨?_,by simpa using vt⟩
 rcases aJ.mp (h.Em u (aC _ u1) v hv)with e |e
 ·subst e;exact absurd (jC ok tm) vt
 ·exact e
theorem DA:fo l k []=none:=by unfold fo;rw[vc];rfl
theorem Bu (G:gm l){t:List Int}{r:List (List Int)}(h:Lft l k (t::r)):fo l k (t::r)=if t.reverse.map oth∈grp l k t then some t else fo l k (r.filter λu=>decide (u∉grp l k t)):=by
 unfold fo
 rw[sv,cF]
 unfold qu
 rw[h.head G]
 by_cases c:t.reverse.map oth∈grp l k t
 ·rw[aD c,aX c]
  show some ((grp l k t).headD [])=some t
  rw[h.head G]
 ·rw[au c,aR c]
theorem Cy {t u:List Int}(h:Rch l t u):∃ d,Gd l t d u:=by
 obtain⟨ws,g⟩:=h
 induction g with
 |nil=>exact⟨0,rfl⟩
 |snoc _ hm ih=>
  obtain⟨d,hd⟩:=ih
  exact⟨d+1,_,hd,_,hm,rfl⟩
theorem Af {t:List Int} :∀ {d:Nat}{u:List Int},Gd l t d u->Rch l t u
 | 0,u,h=>by have h:u=t:=h;subst h;exact Rch.rfl' _
 |d+1,u,⟨c,h1,m,hm,e⟩=>by
  obtain⟨ws,g⟩:=Af h1
  subst e
  exact⟨_,g.snoc hm⟩
theorem yZ (ok:fk l){t u:List Int}(T:gi l t)(hne:t≠ [])(h:Rch l t u):Rch l (t.reverse.map oth) (u.reverse.map oth):=by
 obtain⟨ws,g⟩:=h
 exact⟨_,g.turn ok T hne⟩
theorem Bs (G:gm l)(h:fo l k (fv l k)=none){u:List Int}(hu:u∈fv l k):¬Rch l u (u.reverse.map oth):=λown=>by
 have ok:=G.gR
 obtain⟨T,_,hne⟩:=iV ok hu
 obtain⟨g,hg,hug⟩:=cM.mp (wy ok hu)
 obtain⟨x,r,e1,xm,hh,e2⟩:=oO ok (qK l k) hg
 have h1:(iX l k (fv l k)).find? qu=none:=by
  unfold fo at h
  simpa using h
 have h2:=eE.mp h1 g hg
 refine h2 (aX ?_)
 rw[hh,e2]
 refine(lD ok xm).mpr ?_
 rw[e2]at hug
 have r1:=(lD ok xm).mp hug
 obtain⟨TX,_,xne⟩:=iV ok xm
 have r2:=yZ ok T hne (r1.symm ok TX xne)
 exact r1.trans (own.trans r2)
theorem xt (G:gm l){t:List Int}(h:fo l k (fv l k)=some t):t∈fv l k/\Rch l t (t.reverse.map oth):=by
 have ok:=G.gR
 unfold fo at h
 cases q:(iX l k (fv l k)).find? qu with
 |none=>rw[q]at h;cases h
 |some g=>
  rw[q]at h
  have hg:=List.mem_of_find?_eq_some q
  have hb:=List.find?_some q
  obtain⟨x,r,e1,xm,hh,e2⟩:=oO ok (qK l k) hg
  have h:g.headD []=t:=by simpa using h
  rw[hh]at h
  subst h
  unfold qu at hb
  have hb:=bL hb
  rw[hh,e2]at hb
  exact⟨xm,(lD ok xm).mp hb⟩
theorem Bt (G:gm l)(h:(fo l (k+1) (fv l (k+1))).isSome=true):(fo l k (fv l k)).isSome=true:=by
 have ok:=G.gR
 obtain⟨t,ht⟩:=Option.isSome_iff_exists.mp h
 obtain⟨tm,own⟩:=xt G ht
 obtain⟨T,tl,hne⟩:=iV ok tm
 obtain⟨d,hd⟩:=Cy own
 obtain⟨d',_,g⟩:=uK ok T hne hd (f:=0) (p:=k+1) (by omega) (by omega)
 have um:=og ok k _ (T.win 0 (k+1)) (pL (by omega))
 cases q:fo l k (fv l k)with
 |none=>exact absurd (Af g) (Bs G q um)
 |some x=>rfl
end
def bst (f:Nat->Option (List Int)):Nat->Nat×Option (List Int)
 | 0=>(0,none)
 |i+1=>match f i with
  |some t=>(i+1,some t)
  |none=>bst f i
theorem Ap (f:Nat->Option (List Int))(h:∀ k,(f (k+1)).isSome=true->(f k).isSome=true):∀ n,∃ M,M<=n/\((List.range n).map f).countP (·.isSome)=M/\(∀ i,i<n->((f i).isSome=true↔i<M))/\bst f n=(M,if M=0 then none else f (M-1))
 | 0=>⟨0,aq _,rfl,λi hi=>by omega,rfl⟩
 |n+1=>by
  obtain⟨M,h1,h2,h3,h4⟩:=Ap f h n
  rw[List.range_succ,ax,List.countP_append,h2]
  cases q:f n with
  |none=>
   refine⟨M,by omega,by simp[q],λi hi=>?_,by rw[bst,q];exact h4⟩
   by_cases e:i=n
   ·subst e;rw[q];simp;omega
   ·exact h3 i (by omega)
  |some t=>
   have all:∀ j i,i+j=n->(f i).isSome=true:=by
    intro j
    induction j with
    |zero=>intro i e;have e:i=n:=e;rw[e,q];rfl
    |succ j ih=>intro i e;exact h i (ih (i+1) (by omega))
   have hM:M=n:=by
    cases n with
    |zero=>omega
    |succ m=>have:=(h3 m (by omega)).mp (all 1 m rfl);omega
   subst hM
   refine⟨M+1,by omega,by simp[q],λi hi=>⟨λ_=>hi,λ_=>all (M-i) i (by omega)⟩,?_⟩
   rw[bst,q,au (by omega),eC,q]
section
variable {l:Ln}{k:Nat}
theorem twn_own (ok:fk l){i:Nat}{ts:List (List Int)}(h:(iX l k (fv l k))[i]? = some ts):twn (iX l k (fv l k)) ts=(i:Int)↔qu ts=true:=by
 have gok:=qK l k
 have gnd:=Bj (l:=l) (k:=k) ok
 have Dz:∀ u∈fv l k,u∈(iX l k (fv l k)).flatten:=λu hu=>wy ok hu
 generalize iX l k (fv l k)=gs at *
 obtain⟨u,r,e1,um,hh,e2⟩:=oO ok gok (aG h)
 have tm:=Dz _ (ug ok um)
 obtain⟨g0,hg0,hu0⟩:=cM.mp tm
 have hlt:oK gs (u.reverse.map oth)<gs.length:=List.findIdx_lt_length_of_exists ⟨g0,hg0,aX hu0⟩
 have hin:=List.findIdx_getElem (p:=λg=>decide (u.reverse.map oth∈g)) (xs:=gs) (w:=hlt)
 have hin:u.reverse.map oth∈gs[oK gs (u.reverse.map oth)]:=bL hin
 unfold twn qu
 rw[hh,cA]
 obtain⟨il,ei⟩:=af.mp h
 constructor
 ·intro e
  have e:oK gs (u.reverse.map oth)=i:=by omega
  have:gs[oK gs (u.reverse.map oth)]=ts:=by
   rw[<-ei]
   exact(cN gnd).mpr e
  rw[<-this];exact hin
 ·intro hm
  obtain⟨v,_,_,vm,_,e4⟩:=oO ok gok (dR hlt)
  rw[e4]at hin
  have e5:gs[oK gs (u.reverse.map oth)]=ts:=by
   rw[e4,<-lC ok vm hin]
   rw[e2]at hm
   rw[lC ok um hm,<-e2]
  have:=(cN gnd).mp (e5.trans ei.symm)
  omega
theorem Bv {α:Type}{p:α->Bool}{gs:List α}{i:Nat}{g:α}(h:gs[i]? = some g)(hp:p g=true)(hn:∀ x∈gs.take i,p x=false):gs.find? p=some g:=by
 obtain⟨il,ei⟩:=af.mp h
 have e:gs=gs.take i++g::gs.drop (i+1):=by
  conv=>lhs;rw[<-cC i gs]
  rw[cm il,ei]
 rw[e,eN,eE.mpr (λx hx=>by rw[hn x hx];decide),cF,hp];rfl
end
noncomputable def fof (l:Ln):Nat->Option (List Int):=λk=>fo l k (fv l k)
theorem AE {l:Ln}{k:Nat}(G:gm l){t:List Int}(h:t∈fv l k){i:Nat}(hi:(fy l t i).length=i)(u:List Int):u∈(fy l t i).map (·.1)↔u∈grp l k t:=by
 have ok:=G.gR
 obtain⟨T,hl,hne⟩:=iV ok h
 rw[lD ok h]
 constructor
 ·intro z
  obtain⟨e,he,rfl⟩:=ao.mp z
  exact vI i e he
 ·rintro⟨ws,g⟩
  exact Ae ok T hne hi g
def wH (kvs:List (List Key×V))(s:List (List Int)):Prop:=∀ u,(ic kvs (kyI u)).isSome=decide (u∈s)
theorem wH.nil:wH [] []:=λu=>by simp[ic]
theorem wH.put {kvs:List (List Key×V)}{s:List (List Int)}{t:List Int}{v:V}(h:wH kvs s)(h2:t∉s):wH (putK kvs (kyI t) v) (s ++ [t])/\(putK kvs (kyI t) v).length=kvs.length+1:=by
 have hn:ic kvs (kyI t)=none:=by
  have:=h t
  rw[aR h2]at this
  cases q:ic kvs (kyI t)with
  |none=>rfl
  |some x=>rw[q]at this;cases this
 rw[nU _ hn]
 refine⟨λu=>?_,by rw[ah];rfl⟩
 rw[rG]
 have hu:=h u
 by_cases b:u∈s
 ·rw[aX b]at hu
  rw[aD hu,hu]
  exact(aX (bA _ b)).symm
 ·rw[aR b]at hu
  rw[au (by rw[hu];decide)]
  by_cases e:u=t
  ·subst e;rw[aD rfl];exact(aX (aV _ ar)).symm
  ·rw[au λz=>e (pT z).symm]
   exact(aR (by simp[b,e])).symm
def tJ:V->Bool
 |.non=>false
 |_=>true
theorem xn {t:List Int}{rs:List V}(hne:t≠ [])(hr:∀ r∈rs,∀ i:Int,r≠ .int i):(HO.lst (t.map V.int))≠ .lst rs:=λe=>by
 have e:t.map V.int=rs:=by injection e
 cases t with
 |nil=>exact hne rfl
 |cons x r=>exact hr (.int x) (by rw[<-e];exact ar) x rfl
theorem count_eq {f:Nat->Option (List Int)}{rs:List V}{n:Nat}(hl:rs.length=n)(h:∀ (j:Nat) r,rs[j]? = some r->tJ r=(f j).isSome):(rs.filter tJ).length=((List.range n).map f).countP (·.isSome):=by
 rw[<-List.countP_eq_length_filter]
 have e:rs.map tJ=((List.range n).map f).map (·.isSome):=dF λj=>by
  rw[aj,aj,aj]
  by_cases c:j<n
  ·have c1:rs[j]? = some (rs[j]'(by omega)):=ae _
   rw[c1,List.getElem?_range c]
   exact cB some (h j _ c1)
  ·rw[bI (by omega),bI (by simpa using c)];rfl
 have e2:(rs.map tJ).countP id=rs.countP tJ:=by rw[List.countP_map];rfl
 have e3:(((List.range n).map f).map (·.isSome)).countP id=((List.range n).map f).countP (·.isSome):=by rw[List.countP_map];rfl
 rw[<-e2,<-e3,e]
end TL
namespace K43
open PySem L2 TL PyProof.Rows
abbrev St:=L2.St
def top (i:Nat):Stmt:=PySem.Challenge.pw_turnline_k43_longest_train_turned.main.body.getD i (.Pass ⟨0,0,0,0⟩)
def iQ:Sp:=λvs H Q _=>∃ e:Int,vs = [.int e]/\Q (.int (oth e)) H
def wW:Sp:=λvs H Q _=>∃ e:Int,vs = [.int e]/\Q (.int (e/2)) H
def wY (K:PySem.W.Frag):Sp:=λvs H Q _=>∃ (a:Addr) (ns:List Int) (k:Int),vs = [.ref a,.int k]/\SqL K H a (ns.map V.int)/\0<=k/\∀ c,Q (.int c) H
def vO:Sp:=λvs H Q _=>∃ c k:Int,vs = [.int c,.int k]/\0<=k/\k<=1000/\∀ n,0<=n->n<2147483648->Q (.int n) H
abbrev iJ:Stmt:=top 10
theorem sU:fH ["end"] ["end"] (fj iJ):=⟨rfl,rfl,rfl,by decide +kernel,rfl,by decide +kernel,by decide +kernel⟩
abbrev kX:Stmt:=top 11
theorem uw:fH ["end"] ["end"] (fj kX):=⟨rfl,rfl,rfl,by decide +kernel,rfl,by decide +kernel,by decide +kernel⟩
abbrev ie:Stmt:=top 34
theorem sW:fH ["_law_end"] ["_law_end"] (fj ie):=⟨rfl,rfl,rfl,by decide +kernel,rfl,by decide +kernel,by decide +kernel⟩
abbrev jm:Stmt:=top 31
theorem qj:fH ["_law_script","_law_k"] ["_law_script","_law_k"] (fj jm):=⟨rfl,rfl,rfl,by decide +kernel,rfl,by decide +kernel,by decide +kernel⟩
abbrev kC:Stmt:=top 32
theorem jZ:fH ["_law_cell","_law_k","_law_again","_law_number"] ["_law_cell","_law_k"] (fj kC):=⟨rfl,rfl,rfl,by decide +kernel,rfl,by decide +kernel,by decide +kernel⟩
section
variable {P:Program}{w:World}{K:PySem.W.Frag}{mg:Str->Option Value}{base:Heap}{f:Addr}{fd:FuncData}{D c1 c2 c3 c4 c5 c6 c7:Addr}
theorem lr (F:Fn K mg "other_end" iJ ["end"] f fd):fE P w K mg base CX0 1 f fd ["end"] iQ:=by
 refine F.F.ok sU (λvs H Q E h=>?_) (λcdv A outer s H vs Q E hr h=>?_)
 ·obtain⟨e,rfl,_⟩:=h;rfl
 ·obtain⟨e,rfl,k⟩:=h
  refine⟨_,(fh (fI (fu CJ (pv 0) fg))),?_⟩
  refine⟨_,rfl,_,_,rfl,rfl,?_⟩
  show Q (.int (Builtin.bitXor e 1)) H
  rw[AB];exact k
theorem uL (F:Fn K mg "piece_of" kX ["end"] f fd):fE P w K mg base CX0 1 f fd ["end"] wW:=by
 refine F.F.ok uw (λvs H Q E h=>?_) (λcdv A outer s H vs Q E hr h=>?_)
 ·obtain⟨e,rfl,_⟩:=h;rfl
 ·obtain⟨e,rfl,k⟩:=h
  refine⟨_,(fh (fI (fu iC (pv 0) fg))),?_⟩
  exact⟨_,rfl,_,_,rfl,rfl,⟨by decide,by decide⟩,k⟩
theorem jK (F:Fn K mg "_law_other" ie ["_law_end"] f fd):fE P w K mg base CX0 1 f fd ["_law_end"] iQ:=by
 refine F.F.ok sW (λvs H Q E h=>?_) (λcdv A outer s H vs Q E hr h=>?_)
 ·obtain⟨e,rfl,_⟩:=h;rfl
 ·obtain⟨e,rfl,k⟩:=h
  refine⟨_,(fh (fI (fu tq (fu gZ (pv 0) fg) (fu i6 fg (fu gY (pv 0) fg))))),?_⟩
  exact⟨_,rfl,_,_,rfl,rfl,_,rfl,_,_,rfl,rfl,by show(0:Int)<2;decide,_,_,rfl,rfl,.inl ⟨by decide,by decide⟩,_,_,rfl,rfl,k⟩
theorem qA (F:Fn K mg "_law_cell_at" jm ["_law_script","_law_k"] f fd)(B:Bl mg):fE P w K mg base CX0 1 f fd ["_law_script","_law_k"] (wY K):=by
 refine F.F.ok qj (λvs H Q E h=>?_) (λcdv A outer s H vs Q E hr h=>?_)
 ·obtain⟨a,ns,k,rfl,_⟩:=h;rfl
 ·obtain⟨a,ns,k,rfl,hS,h0,q⟩:=h
  refine⟨_,(eZ (gO (fX (uJ (pv 1) (fC gc rfl B.len dY (eV (pv 0) eY))))
 (fh (fI (gh fV (pv 0) (pv 1) (λ_ _=>rfl)))) fP)
 (fh (fI fg))),?_⟩
  refine⟨_,rfl,_,rfl,a,_,rfl,.inl hS,_,_,rfl,rfl,_,rfl,gN (λhlt=>?_) (λ_=>?_)⟩
  ·have hlt:k<((ns.map V.int).length:Int):=by simpa using hlt
   rw[aa]at hlt
   have hg:(ns.map V.int)[k.toNat]? = some (V.int (ns.getD k.toNat 0)):=by
    rw[aj,bD]
    have:k.toNat<ns.length:=by omega
    simp[this]
   have e1:((k.toNat:Nat):Int)=k:=by omega
   exact⟨_,rfl,_,rfl,a,_,k,_,rfl,rfl,hS,by have h:=ox hg;rw[e1]at h;exact h,q _⟩
  ·exact q _
theorem qz (F:Fn K mg "_law_mix" kC ["_law_cell","_law_k"] f fd)(B:Bl mg):fE P w K mg base CX0 1 f fd ["_law_cell","_law_k"] vO:=by
 refine F.F.ok jZ (λvs H Q E h=>?_) (λcdv A outer s H vs Q E hr h=>?_)
 ·obtain⟨c,k,rfl,_⟩:=h;rfl
 ·obtain⟨c,k,rfl,h0,h1,q⟩:=h
  refine⟨_,(eZ (gO (fX (Ew (pv 0) (fu vT fg fg)))
 (eZ (gQ bz rfl (jQ rfl B.range (eV (pv 1) eY)) (fm (i:=2) jZ.nd rfl (Or.inl rfl))
 (fh (fw (i:=0) jZ.nd rfl (Or.inl rfl) (fu iC (pv 0) (fu vT fg fg)))))
 (fh (fI (fu gY (pv 0) (fu vT fg fg))))) fP)
 (eZ (fw (i:=3) jZ.nd rfl (Or.inl rfl) (fu gY (fu i6 (fu gZ (fu gZ (fu gY (pv 0) fg) (fu i6 (fu i6 (pv 1) (pv 1)) fg)) (pv 1)) fg) fg))
 (eZ (fw (i:=3) jZ.nd rfl (Or.inl rfl) (fu gY (fu i6 (pv 3) (pv 3)) fg))
 (fh (fI (fu iC (fu gY (fu i6 (pv 3) (fu gZ (pv 3) fg)) fg) fg)))))),?_⟩
  refine⟨_,rfl,_,_,rfl,rfl,⟨by decide,by decide,by decide⟩,_,_,rfl,rfl,_,rfl,gN (λhlt=>?_) (λ_=>?_)⟩
  ·refine⟨_,rfl,_,rfl,by omega,by omega,oR (λi σ H2=>H2=H/\∃ (c:Int) (x:Option V),σ = [some (.int c),some (.int k),x,none]) ⟨rfl,c,none,rfl⟩ ?_ ?_⟩
   ·rintro i σ H2 hi ⟨rfl,c,x,rfl⟩
    exact⟨_,rfl,_,_,rfl,rfl,⟨by decide,by decide,by decide⟩,_,_,rfl,rfl,⟨by decide,by decide⟩,rfl,_,_,rfl⟩
   ·rintro σ H2 ⟨rfl,c,x,rfl⟩
    refine⟨_,rfl,_,_,rfl,rfl,⟨by decide,by decide,by decide⟩,_,_,rfl,rfl,(by show(0:Int)<_;decide),q _ ?_ ?_⟩
    ·show 0<=c%(10 ^ 6);omega
    ·show c%(10 ^ 6)<_;omega
  ·refine⟨_,rfl,_,_,rfl,rfl,(by show(0:Int)<_;decide),_,rfl,_,rfl,_,_,rfl,rfl,.inl ⟨by omega,by omega⟩,_,_,rfl,rfl,.inr ⟨by decide,by decide⟩,_,_,rfl,rfl,_,rfl,_,_,rfl,rfl,_,_,rfl,rfl,.inr ⟨by decide,by decide⟩,_,_,rfl,rfl,(by show(0:Int)<_;decide),?_⟩
   dsimp only
   generalize hn:(c%1000003+k*k*7919+k)*48271%2147483629=n
   have n0:0<=n:=by omega
   have n1:n<2147483629:=by omega
   refine⟨_,rfl,_,rfl,_,_,rfl,rfl,.inl ⟨by omega,by omega⟩,_,_,rfl,rfl,(by show(0:Int)<_;decide),?_⟩
   dsimp only
   generalize hm:n*n%2147483587=m
   have m0:0<=m:=by omega
   have m1:m<2147483587:=by omega
   refine⟨_,rfl,_,rfl,_,_,rfl,rfl,_,_,rfl,rfl,.inl ⟨by omega,by omega⟩,_,_,rfl,rfl,(by show(0:Int)<_;decide),_,_,rfl,rfl,⟨by decide,by decide⟩,q _ ?_ ?_⟩
   ·show 0<=m*(m+2)%2147483579/7;omega
   ·show m*(m+2)%2147483579/7<_;omega
end
theorem fG {n:Nat}(h:n<=1000):n<sizeLine:=eB h (by decide)
theorem om {K:PySem.W.Frag}{H:Hp}{js:List (Int×Int)}{vs:List V}(h:Das K H (js.map dP) vs):vs.length=js.length:=by rw[Dgs.length h,aa]
theorem oX {l:Int×List (Int×Int)}(h:fk l)(e:Int):(below l.2 e).length+(above l.2 e).length<=160:=h.inc e
def kA (K:PySem.W.Frag):Sp:=λvs H Q _=>∃ (v:V) (l:Int×List (Int×Int)) (e:Int),vs = [v,.int e]/\Da K H (dL l) v/\fk l/\t5 H (jn l.2 e) Q
def nQ (K:PySem.W.Frag):Sp:=λvs H Q _=>∃ (v:V) (ns:List Int),vs = [v]/\Da K H (dI ns) v/\ns.length<=1000/\t5 H (ns.reverse.map oth) Q
def sS (K:PySem.W.Frag):Sp:=λvs H Q _=>∃ (v u:V) (l:Int×List (Int×Int)) (ns:List Int) (e:Int),vs = [v,u,.int e]/\Da K H (dL l) v/\Da K H (dI ns) u/\fk l/\ns.length<=1000/\t5 H (fr l ns e) Q
def nR (K:PySem.W.Frag):Sp:=λvs H Q _=>∃ (v u:V) (l:Int×List (Int×Int)) (ns:List Int),vs = [v,u]/\Da K H (dL l) v/\Da K H (dI ns) u/\fk l/\ns≠ []/\ns.length<=900/\Ay K H (mvs l ns) Q
abbrev kD:Stmt:=top 12
theorem mL:fH ["line","end","joints","above","below"] ["line","end"] (fj kD):=⟨rfl,rfl,rfl,by decide +kernel,rfl,by decide +kernel,by decide +kernel⟩
theorem mi:gv (fj kD) ["line","end","joints","above","below"] {kind:=.function,names:=[(Str.ofString ".0",.local),(Str.ofString "low",.local),(Str.ofString "high",.local),(Str.ofString "end",.free)],isGenerator:=false,isCoroutine:=false,more:=[]} ["low","high","end"] 2 [none,none,some 1]:=⟨rfl,by decide +kernel,by decide +kernel,by decide +kernel,rfl,by decide +kernel,rfl,by decide +kernel⟩
theorem mh:gv (fj kD) ["line","end","joints","above","below"] {kind:=.function,names:=[(Str.ofString ".0",.local),(Str.ofString "low",.local),(Str.ofString "high",.local),(Str.ofString "end",.free)],isGenerator:=false,isCoroutine:=false,more:=[]} ["low","high","end"] 2 [none,none,some 1]:=⟨rfl,by decide +kernel,by decide +kernel,by decide +kernel,rfl,by decide +kernel,rfl,by decide +kernel⟩
abbrev gW:Stmt:=top 35
theorem rk:fH ["_law_line_here","_law_end"] ["_law_line_here","_law_end"] (fj gW):=⟨rfl,rfl,rfl,by decide +kernel,rfl,by decide +kernel,by decide +kernel⟩
theorem jG:gv (fj gW) ["_law_line_here","_law_end"] {kind:=.function,names:=[(Str.ofString ".0",.local),(Str.ofString "_law_a",.local),(Str.ofString "_law_b",.local),(Str.ofString "_law_end",.free)],isGenerator:=false,isCoroutine:=false,more:=[]} ["_law_a","_law_b","_law_end"] 2 [none,none,some 1]:=⟨rfl,by decide +kernel,by decide +kernel,by decide +kernel,rfl,by decide +kernel,rfl,by decide +kernel⟩
theorem jF:gv (fj gW) ["_law_line_here","_law_end"] {kind:=.function,names:=[(Str.ofString ".0",.local),(Str.ofString "_law_a",.local),(Str.ofString "_law_b",.local),(Str.ofString "_law_end",.free)],isGenerator:=false,isCoroutine:=false,more:=[]} ["_law_a","_law_b","_law_end"] 2 [none,none,some 1]:=⟨rfl,by decide +kernel,by decide +kernel,by decide +kernel,rfl,by decide +kernel,rfl,by decide +kernel⟩
abbrev lP:Stmt:=top 14
theorem xR:fH ["train"] ["train"] (fj lP):=⟨rfl,rfl,rfl,by decide +kernel,rfl,by decide +kernel,by decide +kernel⟩
theorem pA:gv (fj lP) ["train"] {kind:=.function,names:=[(Str.ofString ".0",.local),(Str.ofString "end",.local),(Str.ofString "other_end",.globalImplicit)],isGenerator:=false,isCoroutine:=false,more:=[]} ["end"] 1 [none]:=⟨rfl,by decide +kernel,by decide +kernel,by decide +kernel,rfl,by decide +kernel,rfl,by decide +kernel⟩
abbrev ig:Stmt:=top 15
theorem nS:fH ["line","train","end","pieces"] ["line","train","end"] (fj ig):=⟨rfl,rfl,rfl,by decide +kernel,rfl,by decide +kernel,by decide +kernel⟩
theorem ml:gv (fj ig) ["line","train","end","pieces"] {kind:=.function,names:=[(Str.ofString ".0",.local),(Str.ofString "own",.local),(Str.ofString "piece_of",.globalImplicit)],isGenerator:=false,isCoroutine:=false,more:=[]} ["own"] 1 [none]:=⟨rfl,by decide +kernel,by decide +kernel,by decide +kernel,rfl,by decide +kernel,rfl,by decide +kernel⟩
theorem mj:gv (fj ig) ["line","train","end","pieces"] {kind:=.function,names:=[(Str.ofString ".0",.local),(Str.ofString "there",.local),(Str.ofString "piece_of",.globalImplicit),(Str.ofString "pieces",.free)],isGenerator:=false,isCoroutine:=false,more:=[]} ["there","pieces"] 1 [none,some 3]:=⟨rfl,by decide +kernel,by decide +kernel,by decide +kernel,rfl,by decide +kernel,rfl,by decide +kernel⟩
abbrev kY:Stmt:=top 16
theorem ki:fH ["line","train","told","end"] ["line","train"] (fj kY):=⟨rfl,rfl,rfl,by decide +kernel,rfl,by decide +kernel,by decide +kernel⟩
abbrev jx:Stmt:=top 39
theorem iS:fH ["_law_line_here","_law_train","_law_end","_law_pieces","_law_found"] ["_law_line_here","_law_train"] (fj jx):=⟨rfl,rfl,rfl,by decide +kernel,rfl,by decide +kernel,by decide +kernel⟩
theorem md:gv (fj jx) ["_law_line_here","_law_train","_law_end","_law_pieces","_law_found"] {kind:=.function,names:=[(Str.ofString ".0",.local),(Str.ofString "_law_end",.local)],isGenerator:=false,isCoroutine:=false,more:=[]} ["_law_end"] 1 [none]:=⟨rfl,by decide +kernel,by decide +kernel,by decide +kernel,rfl,by decide +kernel,rfl,by decide +kernel⟩
section
variable {P:Program}{w:World}{K:PySem.W.Frag}{mg:Str->Option Value}{base:Heap}{f:Addr}{fd:FuncData}{D c1 c2 c3 c4 c5 c6 c7:Addr}
theorem yd (F:Fn K mg "joined" kD ["line","end"] f fd)(B:Bl mg):fE P w K mg base CX0 1 f fd ["line","end"] (kA K):=by
 refine F.F.ok mL (λvs H Q E h=>?_) (λcdv A outer s H vs Q E hr h=>?_)
 ·obtain⟨v,l,e,rfl,_⟩:=h;rfl
 ·obtain⟨v,l,e,rfl,hv,ok,k⟩:=h
  obtain⟨a,b,rfl,ht,us,hl,hq⟩:=mY hv
  have hlen:=om hq
  have hz:us.length<sizeLine:=fG (by rw[hlen];have:=ok.len;omega)
  refine⟨_,(eZ (fw (i:=2) mL.nd rfl (Or.inl rfl) (gh jE (pv 0) fg (λ_ _=>rfl)))
 (eZ (qo (i:=3) mL.nd rfl rfl (fY (pv 2)) rfl mi (.tup (.cons (.name (by decide)) (.cons (.name (by decide)) .nil))) (λ_ _ _ _=>(jD (n:=2) rfl (fN (fm (i:=0) mi.nd rfl (Or.inl rfl)) (fN (fm (i:=1) mi.nd rfl (Or.inl rfl)) iB)))) (λ_ _ _ _=>(j7 (fX (j8 (pv 0) (pv 2))))) (λ_ _ _ _=>(pv 1)))
 (eZ (qo (i:=4) mL.nd rfl rfl (fY (pv 2)) rfl mh (.tup (.cons (.name (by decide)) (.cons (.name (by decide)) .nil))) (λ_ _ _ _=>(jD (n:=2) rfl (fN (fm (i:=0) mh.nd rfl (Or.inl rfl)) (fN (fm (i:=1) mh.nd rfl (Or.inl rfl)) iB)))) (λ_ _ _ _=>(j7 (fX (j8 (pv 1) (pv 2))))) (λ_ _ _ _=>(pv 0)))
 (fh (fI (fC (ou rfl) rfl B.sorted boot_sorted (eV (fu kn (pv 4) (pv 3)) eY))))))),?_⟩
  refine⟨_,rfl,a,_,_,_,rfl,rfl,ht,rfl,?_⟩
  refine⟨_,rfl,b,rfl,⟨us,hl⟩,λl1 n1=>jt l.2 (λp=>decide (p.1=e)) (λp=>V.int p.2) n1 hl hlen hz ?_ ?_⟩
  ·intro i x d H' hx hd sm P1 P0 k1 k0
   obtain⟨ad,p,e1,rfl,hp⟩:=lX (Das.same sm hq) hx
   rw[hd]at e1;cases e1
   refine⟨ad,_,rfl,hp,rfl,_,_,rfl,_,_,rfl,rfl,_,rfl,_,rfl,_,_,rfl,rfl,_,rfl,gN (λh=>⟨_,rfl,k1 h⟩) (λh=>k0 (by simpa using h))⟩
  have s1:fi H (upd H l1 (.lst (above l.2 e |>.map V.int))):=eW n1
  have e1:((l.2.filter λp=>decide (p.1=e)).map λp=>V.int p.2)=(above l.2 e).map V.int:=by unfold above;rw[bJ];rfl
  rw[e1]
  refine⟨_,rfl,b,rfl,⟨us,s1.seq hl⟩,λl2 n2=>jt l.2 (λp=>decide (p.2=e)) (λp=>V.int p.1) n2 (s1.seq hl) hlen hz ?_ ?_⟩
  ·intro i x d H' hx hd sm P1 P0 k1 k0
   obtain⟨ad,p,e1,rfl,hp⟩:=lX (Das.same (s1.trans sm) hq) hx
   rw[hd]at e1;cases e1
   refine⟨ad,_,rfl,hp,rfl,_,_,rfl,_,_,rfl,rfl,_,rfl,_,rfl,_,_,rfl,rfl,_,rfl,gN (λh=>⟨_,rfl,k1 h⟩) (λh=>k0 (by simpa using h))⟩
  have e2:((l.2.filter λp=>decide (p.2=e)).map λp=>V.int p.1)=(below l.2 e).map V.int:=by unfold below;rw[bJ];rfl
  rw[e2]
  have g1:(upd (upd H l1 (.lst (above l.2 e |>.map V.int))) l2 (.lst (below l.2 e |>.map V.int))) l1=some (.lst (above l.2 e |>.map V.int)):=by
   rw[fc (fb eX n2),eX]
  have hb:=oX ok e
  have s2:fi H (upd (upd H l1 (.lst (above l.2 e |>.map V.int))) l2 (.lst (below l.2 e |>.map V.int))):=s1.trans (eW n2)
  refine⟨_,rfl,_,rfl,l2,l1,_,_,rfl,rfl,eX,g1,cb (fG (by rw[aa,aa];omega)),λp hp=>?_⟩
  refine⟨p,below l.2 e++above l.2 e,rfl,SqL.of (by rw[eX,ax]),(by rw[ah];omega),λp2 hp2=>?_⟩
  refine k p2 _ (s2.trans ((eW hp).trans (eW hp2))) (fi.free (s2.trans (eW hp)) hp2) eX
theorem m9 (F:Fn K mg "_law_joined" gW ["_law_line_here","_law_end"] f fd)(B:Bl mg):fE P w K mg base CX0 1 f fd ["_law_line_here","_law_end"] (kA K):=by
 refine F.F.ok rk (λvs H Q E h=>?_) (λcdv A outer s H vs Q E hr h=>?_)
 ·obtain⟨v,l,e,rfl,_⟩:=h;rfl
 ·obtain⟨v,l,e,rfl,hv,ok,k⟩:=h
  obtain⟨a,b,rfl,ht,us,hl,hq⟩:=mY hv
  have hlen:=om hq
  have hz:us.length<sizeLine:=fG (by rw[hlen];have:=ok.len;omega)
  refine⟨_,(fh (fI (fC (ou rfl) rfl B.sorted boot_sorted (eV (fu kn (m8 (fY (gh jE (pv 0) fg (λ_ _=>rfl))) rfl jG (.tup (.cons (.name (by decide)) (.cons (.name (by decide)) .nil))) (λ_ _ _ _=>(jD (n:=2) rfl (fN (fm (i:=0) jG.nd rfl (Or.inl rfl)) (fN (fm (i:=1) jG.nd rfl (Or.inl rfl)) iB)))) (λ_ _ _ _=>(j7 (fX (j8 (pv 0) (pv 2))))) (λ_ _ _ _=>(pv 1))) (m8 (fY (gh jE (pv 0) fg (λ_ _=>rfl))) rfl jF (.tup (.cons (.name (by decide)) (.cons (.name (by decide)) .nil))) (λ_ _ _ _=>(jD (n:=2) rfl (fN (fm (i:=0) jF.nd rfl (Or.inl rfl)) (fN (fm (i:=1) jF.nd rfl (Or.inl rfl)) iB)))) (λ_ _ _ _=>(j7 (fX (j8 (pv 1) (pv 2))))) (λ_ _ _ _=>(pv 0)))) eY)))),?_⟩
  refine⟨_,rfl,a,_,_,_,rfl,rfl,ht,rfl,b,rfl,⟨us,hl⟩,λl1 n1=>jt l.2 (λp=>decide (p.1=e)) (λp=>V.int p.2) n1 hl hlen hz ?_ ?_⟩
  ·intro i x d H' hx hd sm P1 P0 k1 k0
   obtain⟨ad,p,e1,rfl,hp⟩:=lX (Das.same sm hq) hx
   rw[hd]at e1;cases e1
   refine⟨ad,_,rfl,hp,rfl,_,_,rfl,_,_,rfl,rfl,_,rfl,_,rfl,_,_,rfl,rfl,_,rfl,gN (λh=>⟨_,rfl,k1 h⟩) (λh=>k0 (by simpa using h))⟩
  have s1:fi H (upd H l1 (.lst (above l.2 e |>.map V.int))):=eW n1
  have e1:((l.2.filter λp=>decide (p.1=e)).map λp=>V.int p.2)=(above l.2 e).map V.int:=by unfold above;rw[bJ];rfl
  rw[e1]
  refine⟨_,rfl,a,_,_,_,rfl,rfl,gj s1 ht,rfl,b,rfl,⟨us,s1.seq hl⟩,λl2 n2=>jt l.2 (λp=>decide (p.2=e)) (λp=>V.int p.1) n2 (s1.seq hl) hlen hz ?_ ?_⟩
  ·intro i x d H' hx hd sm P1 P0 k1 k0
   obtain⟨ad,p,e1,rfl,hp⟩:=lX (Das.same (s1.trans sm) hq) hx
   rw[hd]at e1;cases e1
   refine⟨ad,_,rfl,hp,rfl,_,_,rfl,_,_,rfl,rfl,_,rfl,_,rfl,_,_,rfl,rfl,_,rfl,gN (λh=>⟨_,rfl,k1 h⟩) (λh=>k0 (by simpa using h))⟩
  have e2:((l.2.filter λp=>decide (p.2=e)).map λp=>V.int p.1)=(below l.2 e).map V.int:=by unfold below;rw[bJ];rfl
  rw[e2]
  have g1:(upd (upd H l1 (.lst (above l.2 e |>.map V.int))) l2 (.lst (below l.2 e |>.map V.int))) l1=some (.lst (above l.2 e |>.map V.int)):=by
   rw[fc (fb eX n2),eX]
  have hb:=oX ok e
  have s2:fi H (upd (upd H l1 (.lst (above l.2 e |>.map V.int))) l2 (.lst (below l.2 e |>.map V.int))):=s1.trans (eW n2)
  refine⟨l1,l2,_,_,rfl,rfl,g1,eX,cb (fG (by rw[aa,aa];omega)),λp hp=>?_⟩
  refine⟨p,above l.2 e++below l.2 e,rfl,SqL.of (by rw[eX,ax]),(by rw[ah];omega),λp2 hp2=>?_⟩
  rw[EL]
  exact k p2 _ (s2.trans ((eW hp).trans (eW hp2))) (fi.free (s2.trans (eW hp)) hp2) eX
theorem yb {f1:Addr}{fd1:FuncData}(F:Fn K mg "turned" lP ["train"] f fd)(B:Bl mg)(fD:Fn K mg "other_end" iJ ["end"] f1 fd1):fE P w K mg base CX0 2 f fd ["train"] (nQ K):=by
 have iK:fE P w K mg base CX0 1 f1 fd1 ["end"] iQ:=lr fD
 refine F.F.ok xR (λvs H Q E h=>?_) (λcdv A outer s H vs Q E hr h=>?_)
 ·obtain⟨v,l,rfl,_⟩:=h;rfl
 ·obtain⟨v,ns,rfl,hv,hz,k⟩:=h
  obtain⟨a,rfl,hS⟩:=lF.mp hv
  refine⟨_,(fh (fI (m8 (zk rfl B.reversed (eV (pv 0) eY)) rfl pA (.name (by decide)) (λ_ _ _ _=>(fm (i:=0) pA.nd rfl (Or.inl rfl))) (λ_ _ _ _=>iz) (λ_ _ _ _=>(fq iK (hr.mono (by decide)) rfl fD.m fD.F.kp fD.b .nil fR (eV (pv 0) eY)))))),?_⟩
  refine⟨_,rfl,a,_,rfl,hS,λl1 n1=>zL (zO hS) ns.reverse (λ_=>true) (λe=>V.int (oth e)) n1 (by rw[aa,aP]) (by rw[aa];exact fG hz) ?_ ?_⟩
  ·intro i x d H' hx hd sm P1 P0 k1 k0
   rw[<-cY,aj,hd]at hx
   cases hx
   refine iA ?_
   exact⟨_,rfl,d,rfl,k1 rfl⟩
  rw[kJ]
  refine k l1 _ (eW n1) n1 ?_
  rw[eX,bJ];rfl
theorem tH {f1 f2:Addr}{fd1 fd2:FuncData}(F:Fn K mg "free_ends" ig ["line","train","end"] f fd)(B:Bl mg)(hG:Fn K mg "piece_of" kX ["end"] f1 fd1)(kT:Fn K mg "joined" kD ["line","end"] f2 fd2):
  fE P w K mg base CX0 2 f fd ["line","train","end"] (sS K):=by
 have ra:fE P w K mg base CX0 1 f1 fd1 ["end"] wW:=uL hG
 have Az:fE P w K mg base CX0 1 f2 fd2 ["line","end"] (kA K):=yd kT B
 refine F.F.ok nS (λvs H Q E h=>?_) (λcdv A outer s H vs Q E hr h=>?_)
 ·obtain⟨v,u,l,ns,e,rfl,_⟩:=h;rfl
 ·obtain⟨v,u,l,ns,e,rfl,hv,hu,ok,hz,k⟩:=h
  obtain⟨a,rfl,hS⟩:=lF.mp hu
  refine⟨_,(eZ (fw (i:=3) nS.nd rfl (Or.inr rfl) (m8 (fY (pv 1)) rfl ml (.name (by decide)) (λ_ _ _ _=>(fm (i:=0) ml.nd rfl (Or.inl rfl))) (λ_ _ _ _=>iz) (λ_ _ _ _=>(fq ra (hr.mono (by decide)) rfl hG.m hG.F.kp hG.b .nil fR (eV (pv 0) eY)))))
 (fh (fI (m8 (fY (fq Az (hr.mono (by decide)) rfl kT.m kT.F.kp kT.b .nil fR (eV (pv 0) (eV (pv 2) eY)))) rfl mj (.name (by decide)) (λ_ _ _ _=>(fm (i:=0) mj.nd rfl (Or.inl rfl))) (λ_ _ _ _=>(j7 (jq (vU (K:=K) rfl hr.units) (fq ra (hr.mono (by decide)) rfl hG.m hG.F.kp hG.b .nil fR (eV (pv 0) eY)) (pv 1) (by with_unfolding_all rfl)))) (λ_ _ _ _=>(pv 0)))))),?_⟩
  refine⟨_,rfl,a,rfl,⟨_,hS⟩,λl1 n1=>jt ns (λ_=>true) (λe=>V.int (e/2)) n1 hS (by rw[aa]) (by rw[aa];exact fG hz) ?_ ?_⟩
  ·intro i x d H' hx hd sm P1 P0 k1 k0
   rw[aj,hd]at hx
   cases hx
   refine iA ?_
   exact⟨_,rfl,d,rfl,k1 rfl⟩
  rw[kJ]
  have e1:(ns.map λe=>V.int (e/2))=(ns.map (· / 2)).map V.int:=by rw[bJ];rfl
  rw[e1]
  have s1:fi H (upd H l1 (.lst ((ns.map (· / 2)).map V.int))):=eW n1
  refine⟨_,rfl,_,rfl,v,l,e,rfl,Da.same s1 hv,ok,λp H2 s2 hp hp2=>⟨p,rfl,⟨_,SqL.of hp2⟩,λl2 n2=>jt (jn l.2 e) (λt=> !decide (t/2∈ns.map (· / 2))) (λt=>V.int t) n2 (SqL.of hp2) (by rw[aa]) ?_ ?_ ?_⟩⟩
  ·rw[aa]
   refine fG ?_
   unfold jn
   rw[nA,ah]
   have:=oX ok e
   omega
  ·intro i x d H' hx hd sm P1 P0 k1 k0
   rw[aj,hd]at hx
   cases hx
   have hD:Da K H' (.list ((ns.map (· / 2)).map .int)) (.ref l1):=Da.same (s2.trans sm) (jc eX)
   refine⟨_,rfl,d,rfl,_,rfl,_,.int (d/2),hD,ik.mpr rfl,tI _,pS _,_,rfl,?_⟩
   rw[xB]
   exact gN (λh=>⟨_,rfl,k1 h⟩) (λh=>k0 (by simpa using h))
  exact k l2 _ ((s1.trans s2).trans (eW n2)) (fi.free (s1.trans s2) n2) eX
theorem uM {f1 f2:Addr}{fd1 fd2:FuncData}(F:Fn K mg "moves_of" kY ["line","train"] f fd)(fD:Fn K mg "other_end" iJ ["end"] f1 fd1)(fS:Fn K mg "free_ends" ig ["line","train","end"] f2 fd2)
  (iq:fE P w K mg base CX0 2 f2 fd2 ["line","train","end"] (sS K)):fE P w K mg base CX0 3 f fd ["line","train"] (nR K):=by
 have iK:fE P w K mg base CX0 1 f1 fd1 ["end"] iQ:=lr fD
 refine F.F.ok ki (λvs H Q E h=>?_) (λcdv A outer s H vs Q E hr h=>?_)
 ·obtain⟨v,u,l,ns,rfl,_⟩:=h;rfl
 ·obtain⟨v,u,l,ns,rfl,hv,hu,ok,hne,hz,k⟩:=h
  obtain⟨a,rfl,hS⟩:=lF.mp hu
  refine⟨_,(eZ (fw (i:=2) ki.nd rfl (Or.inl rfl) (gu eY))
 (eZ (gQ bz rfl (fY (fq iq (hr.mono (by decide)) rfl fS.m fS.F.kp fS.b .nil fR (eV (pv 0) (eV (pv 1) (eV (fq iK (hr.mono (by decide)) rfl fD.m fD.F.kp fD.b .nil fR (eV (gh fV (pv 1) (qr nk fg) (λ_ _=>rfl)) eY)) eY))))) (fm (i:=3) ki.nd rfl (Or.inl rfl))
 (fh (gX (jB aL bh bg gC (pv 2) (eV (gG (eV (gG (eV iE (eV (pv 3) eY))) (eV (fu kn (nX pN (pv 1) (nW fg) pP) (gu (eV (pv 3) eY))) eY))) eY)))))
 (eZ (gQ bz rfl (fY (fq iq (hr.mono (by decide)) rfl fS.m fS.F.kp fS.b .nil fR (eV (pv 0) (eV (pv 1) (eV (gh fV (pv 1) fg (λ_ _=>rfl)) eY))))) (fm (i:=3) ki.nd rfl (Or.inl rfl))
 (fh (gX (jB aL bh bg gC (pv 2) (eV (gG (eV (gG (eV iE (eV (pv 3) eY))) (eV (fu kn (gu (eV (fq iK (hr.mono (by decide)) rfl fD.m fD.F.kp fD.b .nil fR (eV (pv 3) eY)) eY)) (nX pN (pv 1) pP (nW (qr nk fg)))) eY))) eY)))))
 (fh (fI (pv 2)))))),?_⟩
  refine⟨aW _,λt ht=>?_⟩
  have s1:fi H (upd H t (.lst [])):=eW ht
  refine⟨_,rfl,_,rfl,_,rfl,_,rfl,a,_,_,_,rfl,rfl,s1.seq hS,pW hne,_,rfl,v,_,l,ns,_,rfl,Da.same s1 hv,Da.same s1 hu,ok,by omega,λp H2 s2 hp hp2=>?_⟩
  have nt:p≠t:=(fb eX hp).symm
  have Ig:=qL ok ns (oth (ns.getLastD 0))
  have Ih:=qL ok ns (ns.headD 0)
  refine⟨p,rfl,⟨_,SqL.of hp2⟩,gS (K:=K) (a:=p) (xs:=(fr l ns (oth (ns.getLastD 0))).map V.int) (λi σ H3=>∃ (vs:List V) (x:Option V),σ = [some v,some (.ref a),some (.ref t),x]/\fi H H3/\H3 p=some (.lst ((fr l ns (oth (ns.getLastD 0))).map V.int))/\H3 t=some (.lst vs)/\
    Dgs (Lf H H3 t) (SqT K H3) ((((fr l ns (oth (ns.getLastD 0))).take i).map (onM ns)).map dMv) vs)
   ⟨[],none,rfl,s1.trans s2,hp2,s2 _ _ eX,gJ.mpr rfl⟩ (λi σ H3 _ ⟨_,_,_,_,h,_⟩=>SqL.of h) ?_ ?_⟩
  ·rintro i y σ H3 N R B kN _ hi ⟨vs,x,rfl,S3,hp3,ht3,D⟩
   rw[aj]at hi
   cases q:(fr l ns (oth (ns.getLastD 0)))[i]? with
   |none=>rw[q]at hi;cases hi
   |some e=>
    rw[q]at hi
    cases hi
    have hil:i<(fr l ns (oth (ns.getLastD 0))).length:=(af.mp q).1
    refine⟨_,rfl,.inl ⟨rfl,_,SqL.of ht3⟩,_,rfl,by show 2<=sizeLine;decide,λp1 n1=>?_⟩
    refine⟨_,rfl,_,rfl,a,_,rfl,(S3.trans (eW n1)).seq hS,λp2 n2=>?_⟩
    refine⟨_,rfl,by show 1<=sizeLine;decide,λp3 n3=>?_⟩
    rw[vn]at n3 ⊢
    refine⟨p2,p3,_,_,rfl,rfl,by rw[fc (fb eX n3),eX],eX,?_,λp4 n4=>?_⟩
    ·refine cb (fG ?_)
     rw[aa,cz]
     show ns.length-1+1<=1000
     omega
    refine⟨by show 2<=sizeLine;decide,λp5 n5=>?_⟩
    have S5:fi H3 _:=(eW n1).trans ((eW n2).trans ((eW n3).trans ((eW n4).trans (eW (o:=.tup [.ref p1,.ref p4]) n5))))
    have lv:vs.length<=160:=by rw[D.length,aa,aa,bw];omega
    refine⟨t,vs,_,rfl,rfl,S5 _ _ ht3,fG (by omega),?_⟩
    have g1:fi (upd H3 p1 (.tup [.str "on",.int e])) _:=(eW n2).trans ((eW n3).trans ((eW n4).trans (eW (o:=.tup [.ref p1,.ref p4]) n5)))
    have:=mR (w:= "on") (e:=e) (xs:=ns.drop 1 ++ [e]) S3 ht ht3 D S5 (g1 _ _ eX) (fi.free ((eW n1).trans ((eW n2).trans (eW n3))) n4) (by rw[fc (fb eX n5),eX,ax];rfl) eX
    obtain⟨r1,r2,r3⟩:=this
    refine kN _ _ ⟨_,_,rfl,r1,?_,r2,?_⟩
    ·rw[fc nt];exact S5 _ _ hp3
    ·rw[m7 (onM ns) _ i e q];exact r3
  rintro σ H3 ⟨vs,x,rfl,S3,hp3,ht3,D⟩
  rw[aa,bC]at D
  refine⟨_,rfl,_,rfl,_,rfl,a,_,_,_,rfl,rfl,S3.seq hS,vD hne,v,_,l,ns,_,rfl,Da.same S3 hv,Da.same S3 hu,ok,by omega,λp' H4 s4 hp' hp4=>?_⟩
  have nt':p'≠t:=(fb ht3 hp').symm
  have D4:Dgs (Lf H H4 t) (SqT K H4) (((fr l ns (oth (ns.getLastD 0))).map (onM ns)).map dMv) vs:=Dgs.mono (λa us ⟨h1,h2,h3⟩=>⟨s4 _ _ h1,h2,h3⟩) (λa us h=>gj s4 h) D
  refine⟨p',rfl,⟨_,SqL.of hp4⟩,gS (K:=K) (a:=p') (xs:=(fr l ns (ns.headD 0)).map V.int) (λi σ H3=>∃ (vs:List V) (x:Option V),σ = [some v,some (.ref a),some (.ref t),x]/\fi H H3/\H3 p'=some (.lst ((fr l ns (ns.headD 0)).map V.int))/\H3 t=some (.lst vs)/\
    Dgs (Lf H H3 t) (SqT K H3) (((fr l ns (oth (ns.getLastD 0))).map (onM ns)++((fr l ns (ns.headD 0)).take i).map (jI ns)).map dMv) vs)
   ⟨vs,x,rfl,S3.trans s4,hp4,s4 _ _ ht3,by simpa using D4⟩ (λi σ H3 _ ⟨_,_,_,_,h,_⟩=>SqL.of h) ?_ ?_⟩
  ·rintro i y σ H3 N R B kN _ hi ⟨vs,x,rfl,S3,hp3,ht3,D⟩
   rw[aj]at hi
   cases q:(fr l ns (ns.headD 0))[i]? with
   |none=>rw[q]at hi;cases hi
   |some e=>
    rw[q]at hi
    cases hi
    have hil:i<(fr l ns (ns.headD 0)).length:=(af.mp q).1
    refine⟨_,rfl,.inl ⟨rfl,_,SqL.of ht3⟩,_,rfl,by show 2<=sizeLine;decide,λp1 n1=>?_⟩
    refine⟨_,rfl,e,rfl,by show 1<=sizeLine;decide,λp2 n2=>?_⟩
    refine⟨_,rfl,_,rfl,_,rfl,a,_,rfl,(S3.trans ((eW n1).trans (eW n2))).seq hS,λp3 n3=>?_⟩
    have ec:oo (ns.map V.int) none (some (-1))=ns.dropLast.map V.int:=vp ns
    refine⟨p2,p3,_,_,rfl,rfl,by rw[fc (fb eX n3),eX],eX,?_,λp4 n4=>?_⟩
    ·refine cb (fG ?_)
     show 1+(oo (ns.map V.int) none (some (-1))).length<=1000
     rw[ec,aa,cw]
     omega
    refine⟨by show 2<=sizeLine;decide,λp5 n5=>?_⟩
    have S5:fi H3 _:=(eW n1).trans ((eW n2).trans ((eW n3).trans ((eW n4).trans (eW (o:=.tup [.ref p1,.ref p4]) n5))))
    have lv:vs.length<=320:=by rw[D.length,aa,ah,aa,aa,bw];omega
    refine⟨t,vs,_,rfl,rfl,S5 _ _ ht3,fG (by omega),?_⟩
    have g1:fi (upd H3 p1 (.tup [.str "back",.int e])) _:=(eW n2).trans ((eW n3).trans ((eW n4).trans (eW (o:=.tup [.ref p1,.ref p4]) n5)))
    have:=mR (w:= "back") (e:=e) (xs:=oth e::ns.dropLast) S3 ht ht3 D S5 (g1 _ _ eX) (fi.free ((eW n1).trans ((eW n2).trans (eW n3))) n4) (by
     rw[fc (fb eX n5),eX]
     show some (HO.lst ([V.int (oth e)]++oo (ns.map V.int) none (some (-1))))=_
     rw[ec];rfl) eX
    obtain⟨r1,r2,r3⟩:=this
    refine kN _ _ ⟨_,_,rfl,r1,?_,r2,?_⟩
    ·rw[fc nt'];exact S5 _ _ hp3
    ·rw[m7 (jI ns) _ i e q,<-aN];exact r3
  rintro σ H3 ⟨vs,x,rfl,S3,hp3,ht3,D⟩
  rw[aa,bC]at D
  exact⟨_,rfl,k t vs H3 S3 ht ht3 D⟩
theorem tE {f1 f2:Addr}{fd1 fd2:FuncData}(F:Fn K mg "_law_moves" jx ["_law_line_here","_law_train"] f fd)(ft:Fn K mg "_law_other" ie ["_law_end"] f1 fd1)(fM:Fn K mg "_law_joined" gW ["_law_line_here","_law_end"] f2 fd2)
  (B:Bl mg):fE P w K mg base CX0 2 f fd ["_law_line_here","_law_train"] (nR K):=by
 have gU:fE P w K mg base CX0 1 f1 fd1 ["_law_end"] iQ:=jK ft
 have jN:fE P w K mg base CX0 1 f2 fd2 ["_law_line_here","_law_end"] (kA K):=m9 fM B
 refine F.F.ok iS (λvs H Q E h=>?_) (λcdv A outer s H vs Q E hr h=>?_)
 ·obtain⟨v,u,l,ns,rfl,_⟩:=h;rfl
 ·obtain⟨v,u,l,ns,rfl,hv,hu,ok,hne,hz,k⟩:=h
  obtain⟨a,rfl,hS⟩:=lF.mp hu
  refine⟨_,(eZ (qo (i:=3) iS.nd rfl rfl (fY (pv 1)) rfl md (.name (by decide)) (λ_ _ _ _=>(fm (i:=0) md.nd rfl (Or.inl rfl))) (λ_ _ _ _=>iz) (λ_ _ _ _=>(fu iC (pv 0) fg)))
 (eZ (fw (i:=4) iS.nd rfl (Or.inl rfl) (gu eY))
 (eZ (gQ bz rfl (fY (fq jN (hr.mono (by decide)) rfl fM.m fM.F.kp fM.b .nil fR (eV (pv 0) (eV (fq gU (hr.mono (by decide)) rfl ft.m ft.F.kp ft.b .nil fR (eV (gh fV (pv 1) (qr nk fg) (λ_ _=>rfl)) eY)) eY)))) (fm (i:=2) iS.nd rfl (Or.inl rfl))
 (fh (gO (jq (kG hr.units) (fu iC (pv 2) fg) (pv 3) (by with_unfolding_all rfl))
 (fh (gX (jB aL bh bg gC (pv 4) (eV (gG (eV (gG (eV iE (eV (pv 2) eY))) (eV (fu kn (nX pN (pv 1) (nW fg) pP) (gu (eV (pv 2) eY))) eY))) eY)))) fP)))
 (eZ (gQ bz rfl (fY (fq jN (hr.mono (by decide)) rfl fM.m fM.F.kp fM.b .nil fR (eV (pv 0) (eV (gh fV (pv 1) fg (λ_ _=>rfl)) eY)))) (fm (i:=2) iS.nd rfl (Or.inl rfl))
 (fh (gO (jq (kG hr.units) (fu iC (pv 2) fg) (pv 3) (by with_unfolding_all rfl))
 (fh (gX (jB aL bh bg gC (pv 4) (eV (gG (eV (gG (eV iE (eV (pv 2) eY))) (eV (fu kn (gu (eV (fq gU (hr.mono (by decide)) rfl ft.m ft.F.kp ft.b .nil fR (eV (pv 2) eY)) eY)) (nX pN (pv 1) pP (nW (qr nk fg)))) eY))) eY)))) fP)))
 (fh (fI (pv 4))))))),?_⟩
  refine⟨_,rfl,a,rfl,⟨_,hS⟩,λpc n0=>jt ns (λ_=>true) (λe=>V.int (e/2)) n0 hS (by rw[aa]) (by rw[aa];exact fG (by omega)) ?_ ?_⟩
  ·intro i x d H' hx hd sm P1 P0 k1 k0
   rw[aj,hd]at hx
   cases hx
   refine iA ?_
   exact⟨_,rfl,_,_,rfl,rfl,⟨by decide,by decide⟩,k1 rfl⟩
  rw[kJ]
  have e1:(ns.map λe=>V.int (e/2))=(ns.map (· / 2)).map V.int:=by rw[bJ];rfl
  rw[e1]
  have s0:fi H (upd H pc (.lst ((ns.map (· / 2)).map V.int))):=eW n0
  have hpc:(upd H pc (.lst ((ns.map (· / 2)).map V.int))) pc=some (.lst ((ns.map (· / 2)).map V.int)):=eX
  generalize hH0:upd H pc (.lst ((ns.map (· / 2)).map V.int))=H0 at s0 hpc
  refine⟨aW _,λt ht=>?_⟩
  have s1:fi H0 (upd H0 t (.lst [])):=eW ht
  have S1:fi H (upd H0 t (.lst [])):=s0.trans s1
  refine⟨_,rfl,_,rfl,_,rfl,a,_,_,_,rfl,rfl,S1.seq hS,pW hne,_,rfl,v,l,_,rfl,Da.same S1 hv,ok,λp H2 s2 hp hp2=>?_⟩
  have nt:p≠t:=(fb eX hp).symm
  have Ig:=tP ok (oth (ns.getLastD 0))
  have Ih:=tP ok (ns.headD 0)
  refine⟨p,rfl,⟨_,SqL.of hp2⟩,gS (K:=K) (a:=p) (xs:=(jn l.2 (oth (ns.getLastD 0))).map V.int) (λi σ H3=>∃ (vs:List V) (x:Option V),σ = [some v,some (.ref a),x,some (.ref pc),some (.ref t)]/\fi H0 H3/\H3 p=some (.lst ((jn l.2 (oth (ns.getLastD 0))).map V.int))/\H3 t=some (.lst vs)/\
    Dgs (Lf H0 H3 t) (SqT K H3) (((((jn l.2 (oth (ns.getLastD 0))).take i).filter λt=> !decide (t/2∈ns.map (· / 2))).map (onM ns)).map dMv) vs)
   ⟨[],none,rfl,s1.trans s2,hp2,s2 _ _ eX,gJ.mpr rfl⟩ (λi σ H3 _ ⟨_,_,_,_,h,_⟩=>SqL.of h) ?_ ?_⟩
  ·rintro i y σ H3 N R B kN _ hi ⟨vs,x,rfl,S3,hp3,ht3,D⟩
   rw[aj]at hi
   cases q:(jn l.2 (oth (ns.getLastD 0)))[i]? with
   |none=>rw[q]at hi;cases hi
   |some e=>
    rw[q]at hi
    cases hi
    have hil:i<(jn l.2 (oth (ns.getLastD 0))).length:=(af.mp q).1
    have st:=take_succ_filter (λt=> !decide (t/2∈ns.map (· / 2))) _ i e q
    refine⟨_,rfl,_,_,rfl,rfl,⟨by decide,by decide⟩,_,rfl,_,.int (e/2),jc (S3 _ _ hpc),ik.mpr rfl,tI _,pS _,_,rfl,?_⟩
    rw[xB]
    refine gN (c:=(!decide (e/2∈ns.map (· / 2)))=true) (λhc=>?_) (λhc=>?_)
    ·refine⟨_,rfl,.inl ⟨rfl,_,SqL.of ht3⟩,_,rfl,by show 2<=sizeLine;decide,λp1 n1=>?_⟩
     refine⟨_,rfl,_,rfl,a,_,rfl,((s0.trans S3).trans (eW n1)).seq hS,λp2 n2=>?_⟩
     refine⟨_,rfl,by show 1<=sizeLine;decide,λp3 n3=>?_⟩
     rw[vn]at n3 ⊢
     refine⟨p2,p3,_,_,rfl,rfl,by rw[fc (fb eX n3),eX],eX,?_,λp4 n4=>?_⟩
     ·refine cb (fG ?_)
      rw[aa,cz]
      show ns.length-1+1<=1000
      omega
     refine⟨by show 2<=sizeLine;decide,λp5 n5=>?_⟩
     have S5:fi H3 _:=(eW n1).trans ((eW n2).trans ((eW n3).trans ((eW n4).trans (eW (o:=.tup [.ref p1,.ref p4]) n5))))
     have lv:vs.length<=160:=by
      rw[D.length,aa,aa]
      refine bF (bH _ _) ?_
      rw[bw];omega
     refine⟨t,vs,_,rfl,rfl,S5 _ _ ht3,fG (by omega),?_⟩
     have g1:fi (upd H3 p1 (.tup [.str "on",.int e])) _:=(eW n2).trans ((eW n3).trans ((eW n4).trans (eW (o:=.tup [.ref p1,.ref p4]) n5)))
     obtain⟨r1,r2,r3⟩:=mR (w:= "on") (e:=e) (xs:=ns.drop 1 ++ [e]) S3 ht ht3 D S5 (g1 _ _ eX) (fi.free ((eW n1).trans ((eW n2).trans (eW n3))) n4) (by rw[fc (fb eX n5),eX,ax];rfl) eX
     refine kN _ _ ⟨_,_,rfl,r1,?_,r2,?_⟩
     ·rw[fc nt];exact S5 _ _ hp3
     ·rw[st,aD hc,ax];exact r3
    ·refine kN _ _ ⟨vs,_,rfl,S3,hp3,ht3,?_⟩
     rw[st,au hc,bX];exact D
  rintro σ H3 ⟨vs,x,rfl,S3,hp3,ht3,D⟩
  rw[aa,bC]at D
  refine⟨_,rfl,_,rfl,a,_,_,_,rfl,rfl,(s0.trans S3).seq hS,vD hne,v,l,_,rfl,Da.same (s0.trans S3) hv,ok,λp' H4 s4 hp' hp4=>?_⟩
  have nt':p'≠t:=(fb ht3 hp').symm
  have D4:Dgs (Lf H0 H4 t) (SqT K H4) (((fr l ns (oth (ns.getLastD 0))).map (onM ns)).map dMv) vs:=Dgs.mono (λa us ⟨h1,h2,h3⟩=>⟨s4 _ _ h1,h2,h3⟩) (λa us h=>gj s4 h) D
  have K1:=qL ok ns (oth (ns.getLastD 0))
  refine⟨p',rfl,⟨_,SqL.of hp4⟩,gS (K:=K) (a:=p') (xs:=(jn l.2 (ns.headD 0)).map V.int) (λi σ H3=>∃ (vs:List V) (x:Option V),σ = [some v,some (.ref a),x,some (.ref pc),some (.ref t)]/\fi H0 H3/\H3 p'=some (.lst ((jn l.2 (ns.headD 0)).map V.int))/\H3 t=some (.lst vs)/\
    Dgs (Lf H0 H3 t) (SqT K H3) (((fr l ns (oth (ns.getLastD 0))).map (onM ns)++(((jn l.2 (ns.headD 0)).take i).filter λt=> !decide (t/2∈ns.map (· / 2))).map (jI ns)).map dMv) vs)
   ⟨vs,x,rfl,S3.trans s4,hp4,s4 _ _ ht3,by simpa using D4⟩ (λi σ H3 _ ⟨_,_,_,_,h,_⟩=>SqL.of h) ?_ ?_⟩
  ·rintro i y σ H3 N R B kN _ hi ⟨vs,x,rfl,S3,hp3,ht3,D⟩
   rw[aj]at hi
   cases q:(jn l.2 (ns.headD 0))[i]? with
   |none=>rw[q]at hi;cases hi
   |some e=>
    rw[q]at hi
    cases hi
    have hil:i<(jn l.2 (ns.headD 0)).length:=(af.mp q).1
    have st:=take_succ_filter (λt=> !decide (t/2∈ns.map (· / 2))) _ i e q
    refine⟨_,rfl,_,_,rfl,rfl,⟨by decide,by decide⟩,_,rfl,_,.int (e/2),jc (S3 _ _ hpc),ik.mpr rfl,tI _,pS _,_,rfl,?_⟩
    rw[xB]
    refine gN (c:=(!decide (e/2∈ns.map (· / 2)))=true) (λhc=>?_) (λhc=>?_)
    ·refine⟨_,rfl,.inl ⟨rfl,_,SqL.of ht3⟩,_,rfl,by show 2<=sizeLine;decide,λp1 n1=>?_⟩
     refine⟨_,rfl,e,rfl,by show 1<=sizeLine;decide,λp2 n2=>?_⟩
     refine⟨_,rfl,_,rfl,_,rfl,a,_,rfl,((s0.trans S3).trans ((eW n1).trans (eW n2))).seq hS,λp3 n3=>?_⟩
     have ec:oo (ns.map V.int) none (some (-1))=ns.dropLast.map V.int:=vp ns
     refine⟨p2,p3,_,_,rfl,rfl,by rw[fc (fb eX n3),eX],eX,?_,λp4 n4=>?_⟩
     ·refine cb (fG ?_)
      show 1+(oo (ns.map V.int) none (some (-1))).length<=1000
      rw[ec,aa,cw]
      omega
     refine⟨by show 2<=sizeLine;decide,λp5 n5=>?_⟩
     have S5:fi H3 _:=(eW n1).trans ((eW n2).trans ((eW n3).trans ((eW n4).trans (eW (o:=.tup [.ref p1,.ref p4]) n5))))
     have lv:vs.length<=320:=by
      rw[D.length,aa,ah,aa,aa]
      have:=bH (λt=> !decide (t/2∈ns.map (· / 2))) ((jn l.2 (ns.headD 0)).take i)
      rw[bw]at this
      omega
     refine⟨t,vs,_,rfl,rfl,S5 _ _ ht3,fG (by omega),?_⟩
     have g1:fi (upd H3 p1 (.tup [.str "back",.int e])) _:=(eW n2).trans ((eW n3).trans ((eW n4).trans (eW (o:=.tup [.ref p1,.ref p4]) n5)))
     obtain⟨r1,r2,r3⟩:=mR (w:= "back") (e:=e) (xs:=oth e::ns.dropLast) S3 ht ht3 D S5 (g1 _ _ eX) (fi.free ((eW n1).trans ((eW n2).trans (eW n3))) n4) (by
      rw[fc (fb eX n5),eX]
      show some (HO.lst ([V.int (oth e)]++oo (ns.map V.int) none (some (-1))))=_
      rw[ec];rfl) eX
     refine kN _ _ ⟨_,_,rfl,r1,?_,r2,?_⟩
     ·rw[fc nt'];exact S5 _ _ hp3
     ·rw[st,aD hc,ax (f:=jI ns),<-aN];exact r3
    ·refine kN _ _ ⟨vs,_,rfl,S3,hp3,ht3,?_⟩
     rw[st,au hc,bX];exact D
  rintro σ H3 ⟨vs,x,rfl,S3,hp3,ht3,D⟩
  rw[aa,bC]at D
  exact⟨_,rfl,k t vs H3 (s0.trans S3) (fi.free s0 ht) ht3 (Dgs.mono (λa us ⟨h1,h2,h3⟩=>⟨h1,fi.free s0 h2,h3⟩) (λ_ _ h=>h) D)⟩
end
structure Cm (mg:Str->Option Value)(tk:Tok):Prop where
 mz:mg "MOST_STANDINGS" = some (.int 300 tk)
structure Xt (K:PySem.W.Frag)(mg:Str->Option Value)(c:Addr):Prop where
 km:Xc K mg "TooMany" c
def uq (K:PySem.W.Frag)(C:Addr):Sp:=λvs H Q E=>∃ (v u:V) (l:Ln) (ns:List Int),vs = [v,u]/\Da K H (dL l) v/\Da K H (dI ns) u/\fk l/\ns≠ []/\ns.length<=900/\gi l ns/\
 (∀ i d vs H',(fy l ns i).length=i->i<=300->fi H H'->H d=none->mw K H' d (fy l ns i) vs->Q (.ref d) H')/\
 ((∃ i,300<(fy l ns i).length)->∀ H',fi H H'->∀ e,H' e=none->E (.ref C) (some e) H')
def at5 (σ:L2.St)(_:Hp):Nat:=match (σ[5]? :Option (Option V))with
 |some (some (V.int i))=>(301-i).toNat
 |_=>0
def qg (K:PySem.W.Frag):Sp:=λvs H Q _=>∃ (d:Addr) (es:List Ent) (us:List V),vs = [.ref d]/\mw K H d es us/\es.length<=5000000/\∀ q bs H',sN H H' q bs (es.map (·.1))->Q (.ref q) H'
abbrev jo:Stmt:=top 19
theorem fT:fH ["line","train","start","steps","order","at","ahead","move","behind","standing"] ["line","train"] (fj jo):=⟨rfl,rfl,rfl,by decide +kernel,rfl,by decide +kernel,by decide +kernel⟩
abbrev j6:Stmt:=top 20
theorem ux:fH ["standings"] ["standings"] (fj j6):=⟨rfl,rfl,rfl,by decide +kernel,rfl,by decide +kernel,by decide +kernel⟩
theorem nj:gv (fj j6) ["standings"] {kind:=.function,names:=[(Str.ofString ".0",.local),(Str.ofString "standing",.local),(Str.ofString "list",.globalImplicit)],isGenerator:=false,isCoroutine:=false,more:=[]} ["standing"] 1 [none]:=⟨rfl,by decide +kernel,by decide +kernel,by decide +kernel,rfl,by decide +kernel,rfl,by decide +kernel⟩
section
variable {P:Program}{w:World}{K:PySem.W.Frag}{mg:Str->Option Value}{base:Heap}{f:Addr}{fd:FuncData}{c5:Addr}{tk:Tok}
theorem qB {f1:Addr}{fd1:FuncData}(F:Fn K mg "first_steps" jo ["line","train"] f fd)(B:Bm mg)(C:Cm mg tk)(XS:Xt K mg c5)(je:Fn K mg "moves_of" kY ["line","train"] f1 fd1)
  (nI:fE P w K mg base CX0 3 f1 fd1 ["line","train"] (nR K)):fE P w K mg base (CXr P w base) 4 f fd ["line","train"] (uq K c5):=by
 refine F.F.okX fT (λvs H Q E h=>?_) (λcdv A outer s H vs Q E hr h=>?_)
 ·obtain⟨v,u,l,ns,rfl,_⟩:=h;rfl
 ·obtain⟨v,u,l,ns,rfl,hv,hu,ok,hne,hz,T,k1,k2⟩:=h
  obtain⟨a,rfl,ha⟩:=lF.mp hu
  refine⟨_,(eZ (fw (i:=2) fT.nd rfl (Or.inl rfl) (gf fW rfl B.tuple cT (eV (pv 1) eY)))
 (eZ (fw (i:=3) fT.nd rfl (Or.inl rfl) (uI (lH hr) (pv 2) nC))
 (eZ (fw (i:=4) fT.nd rfl (Or.inl rfl) (gu (eV (pv 2) eY)))
 (eZ (fw (i:=5) fT.nd rfl (Or.inl rfl) fg)
 (eZ (nV cJ (fX (uJ (pv 5) (fC gc rfl B.len dY (eV (pv 4) eY))))
 (eZ (fw (i:=6) fT.nd rfl (Or.inl rfl) (gh fV (pv 4) (pv 5) (λ_ _=>rfl)))
 (eZ (CD (i:=5) fT.nd rfl (Or.inl rfl) fg Dc)
 (fh (gQ cJ rfl (fY (fq nI (hr.mono (by decide)) rfl je.m je.F.kp je.b .nil fR (eV (pv 0) (eV (gf jM rfl B.list boot_list (eV (pv 6) eY)) eY)))) (jD (n:=2) rfl (fN (fm (i:=7) fT.nd rfl (Or.inl rfl)) (fN (fm (i:=8) fT.nd rfl (Or.inl rfl)) iB)))
 (eZ (fw (i:=9) fT.nd rfl (Or.inl rfl) (gf fW rfl B.tuple cT (eV (pv 8) eY)))
 (fh (gO (fX (mS (lH hr) (pv 9) (pv 3)))
 (eZ (gO (fX (j8 (fC gc rfl B.len dY (eV (pv 4) eY)) (jr (v:=.int 300) rfl C.mz ⟨_,rfl⟩)))
 (fh (uE rX rfl rfl XS.km.m XS.km.q PySem.F.excBase_ValueError (eV (uG (i:=300) rfl C.mz ⟨_,rfl⟩ (by decide) (by decide)) eY))) fP)
 (eZ (pO (lH hr) (pv 3) (pv 9) (gG (eV (pv 6) (eV (pv 7) eY))) rfl)
 (fh (gX (jB aL bh bg gC (pv 4) (eV (pv 9) eY)))))) fP))))))))
 (fh (fI (pv 3)))))))),?_⟩
  refine⟨_,rfl,a,_,rfl,.inl ⟨ha,λt0 nt0=>?_⟩⟩
  have s1:=eW (o:=.tup (ns.map V.int)) nt0
  have h1:=eX (H:=H) (a:=t0) (o:=.tup (ns.map V.int))
  generalize upd H t0 _=H1 at s1 h1 ⊢
  refine λd nd=>⟨_,rfl,_,_,t0,kyI ns,rfl,rfl,by rw[i8];exact eW nd _ _ h1,eX,?_⟩
  rw[pM]
  have s2:=eW (o:=.dT [(kyI ns,V.non)]) nd
  have h2:=s2 _ _ h1
  have hd2:=eX (H:=H1) (a:=d) (o:=.dT [(kyI ns,V.non)])
  have nd0:=fi.free s1 nd
  generalize upd H1 d _=H2 at s2 h2 hd2 ⊢
  refine⟨_,rfl,by show 1<=sizeLine;decide,λp np=>?_⟩
  have s3:=eW (o:=.lst [V.ref t0]) np
  have h3:=s3 _ _ h2
  have hd3:=s3 _ _ hd2
  have hp3:=eX (H:=H2) (a:=p) (o:=.lst [V.ref t0])
  have np0:=fi.free (s1.trans s2) np
  have S3:=s1.trans (s2.trans s3)
  generalize upd H2 p _=H3 at s3 h3 hd3 hp3 S3 ⊢
  refine rE (λσ H4=>∃ (i:Nat) (as:List Addr) (vs:List V) (x6 x7 x8 x9:Option V),σ = [some v,some (.ref a),some (.ref t0),some (.ref d),some (.ref p),some (.int i),x6,x7,x8,x9]/\fi H H4/\mw K H4 d (fy l ns i) vs/\Ord H4 p as (fy l ns i)/\i<=(fy l ns i).length/\(fy l ns i).length<=300)
   at5 ⟨0,[t0],[.non],none,none,none,none,rfl,S3,⟨hd3,rfl,λi e v' he hv'=>?_⟩,⟨hp3,rfl,λi b e hb he=>?_⟩,aW _,by simp[fy]⟩ ?_ ?_
  ·match i,he,hv' with
   | 0,he,hv'=>cases he;cases hv';rfl
  ·match i,hb,he with
   | 0,hb,he=>cases hb;cases he;exact h3
  ·rintro σ H4 N1 R1 B1 kN1 _ kB1 ⟨i,as,vs,x6,x7,x8,x9,rfl,S4,hs4,ho4,hi,Je⟩
   have E4:=jj ok T hne i
   refine⟨_,rfl,_,rfl,p,_,rfl,.inl (SqL.of ho4.at_),_,_,rfl,rfl,_,rfl,gN (λhlt=>?_) (λhlt=>?_)⟩
   ·have hlt:(i:Int)<((as.map V.ref).length:Int):=by simpa using hlt
    rw[aa,ho4.len]at hlt
    have hi2:i<(fy l ns i).length:=by omega
    have he:(fy l ns i)[i]? = some ((fy l ns i)[i]):=by simp
    generalize (fy l ns i)[i]=e at he
    obtain⟨b,hb⟩:∃ b,as[i]? = some b:=⟨as[i]'(by rw[ho4.len];exact hi2),ae _⟩
    have hbt:=ho4.each i b e hb he
    obtain⟨T1,T2,T3⟩:=E4.tr e (aG he)
    refine⟨_,rfl,_,rfl,p,_,_,_,rfl,rfl,SqL.of ho4.at_,mv (v:=V.ref b) (by omega) (by rw[aj,show((i:Int)).toNat=i by omega,hb];rfl),?_⟩
    refine⟨_,rfl,_,_,rfl,rfl,?_⟩
    refine⟨_,rfl,_,rfl,b,_,rfl,.inr (SqT.of hbt),λq nq=>?_⟩
    have s5:=eW (o:=.lst (e.1.map V.int)) nq
    have hq5:=eX (H:=H4) (a:=q) (o:=.lst (e.1.map V.int))
    generalize upd H4 q _=H5 at s5 hq5 ⊢
    refine⟨_,_,l,e.1,rfl,Da.same (S4.trans s5) hv,jc hq5,ok,T3,by omega,λpm vm H6 s6 hpm zS Dm=>?_⟩
    have s46:=s5.trans s6
    have S6:=S4.trans s46
    have hs6:=hs4.same s46
    have ho6:=ho4.same s46
    have CS:(mvs l e.1).length=vm.length:=by have:=Dm.length;rw[aa]at this;exact this.symm
    have Dw:=s46 _ _ hbt
    have pmp:pm≠p:=b9 (fb (s5 _ _ ho4.at_) hpm)
    have pmd:pm≠d:=b9 (fb (s5 _ _ hs4.at_) hpm)
    refine⟨pm,rfl,⟨_,SqL.of zS⟩,gS (K:=K) (a:=pm) (xs:=vm) (λj σ H7=>∃ (as':List Addr) (vs':List V) (x7 x8 x9:Option V),σ = [some v,some (.ref a),some (.ref t0),some (.ref d),some (.ref p),some (.int ((i:Int)+1)),some (.ref b),x7,x8,x9]/\
      fi H H7/\fi (lB d p H6) H7/\mw K H7 d (fQ e.1 ((mvs l e.1).take j) (fy l ns i)) vs'/\Ord H7 p as' (fQ e.1 ((mvs l e.1).take j) (fy l ns i))/\(fQ e.1 ((mvs l e.1).take j) (fy l ns i)).length<=300)
     ⟨as,vs,x7,x8,x9,rfl,S6,λb u h=>gI (p:=d) b u (gI (p:=p) b u h),hs6,ho6,Je⟩ (λj σ H7 _ ⟨_,_,_,_,_,_,_,sm,_⟩=>SqL.of (sm _ _ (by rw[lA pmd pmp];exact zS))) ?_ ?_⟩
    ·rintro j y σ H7 N R B kN _ hj ⟨as',vs',y7,y8,y9,rfl,S7,sm,hs7,ho7,xp⟩
     obtain⟨m,ad,p1,bb,hm,rfl,ht,dm,hbb,nbb,_⟩:=BV Dm hj
     obtain⟨a1,ea1,htm⟩:=JA dm
     cases ea1
     have bbp:bb≠p:=b9 (fb (s5 _ _ ho4.at_) nbb)
     have bbd:bb≠d:=b9 (fb (s5 _ _ hs4.at_) nbb)
     have ht7:=gj sm (qJ hs6.at_ ho6.at_ ht)
     have IL:=gj sm (qJ hs6.at_ ho6.at_ htm)
     have Bi:H7 bb=some (.lst (m.2.map V.int)):=sm _ _ (by rw[lA bbd bbp];exact hbb)
     have hb7:H7 b=some (.tup (e.1.map V.int)):=sm _ _ (by rw[lA (gw Dw hs6.at_ (by intro z;cases z)) (gw Dw ho6.at_ (by intro z;cases z))];exact Dw)
     refine⟨ad,_,rfl,ht7,rfl,_,_,rfl,_,_,rfl,rfl,?_⟩
     refine⟨_,rfl,bb,_,rfl,.inl ⟨SqL.of Bi,λst nst=>?_⟩⟩
     have s8:=eW (o:=.tup (m.2.map V.int)) nst
     have hst:=eX (H:=H7) (a:=st) (o:=.tup (m.2.map V.int))
     have hs8:=hs7.same s8
     have ho8:=ho7.same s8
     have S8:=S7.trans s8
     have sm8:=sm.trans s8
     have hb8:=s8 _ _ hb7
     have EV:=gj s8 IL
     generalize upd H7 st _=H8 at s8 hst hs8 ho8 S8 sm8 hb8 EV ⊢
     refine⟨_,rfl,_,rfl,d,_,rfl,o9.t (k:=kyI m.2) hs8.at_ (by rw[i8];exact hst),_,rfl,?_⟩
     rw[hs8.mem m.2]
     have uk:fQ e.1 ((mvs l e.1).take (j+1)) (fy l ns i)=lJ e.1 (fQ e.1 ((mvs l e.1).take j) (fy l ns i)) m:=qi hm
     refine gN (λhn=>?_) (λhn=>?_)
     ·have hn:m.2∉(fQ e.1 ((mvs l e.1).take j) (fy l ns i)).map (·.1):=by simpa using hn
      have p8:fQ e.1 ((mvs l e.1).take (j+1)) (fy l ns i)=fQ e.1 ((mvs l e.1).take j) (fy l ns i) ++ [(m.2,some (e.1,m.1))]:=by
       rw[uk];unfold lJ;rw[au hn]
      refine⟨_,rfl,p,_,rfl,.inl (SqL.of ho8.at_),_,_,rfl,rfl,_,rfl,gN (λh3=>?_) (λh3=>?_)⟩
      ·have h3:((as'.map V.ref).length:Int)=300:=by simpa using h3
       rw[aa,ho8.len]at h3
       refine λz=>⟨by show 1<=sizeLine;decide,λx hx=>k2 ⟨i+1,?_⟩ H8 S8 x hx⟩
       rw[kz he]
       have:=(lN (t:=e.1) (mvs l e.1) (fy l ns i) (j+1)).length_le
       rw[p8,ah,bE]at this
       omega
      ·have h3:¬((as'.map V.ref).length:Int)=300:=by simpa using h3
       rw[aa,ho8.len]at h3
       refine⟨_,rfl,_,rfl,by show 2<=sizeLine;decide,λtp ntp=>?_⟩
       have s9:=eW (o:=.tup [.ref b,.ref p1]) ntp
       have htp:=eX (H:=H8) (a:=tp) (o:=.tup [.ref b,.ref p1])
       have hs9:=hs8.same s9
       have ho9:=ho8.same s9
       have Dj:=s9 _ _ hst
       have hb9:=s9 _ _ hb8
       have EU:=gj s9 EV
       have S9:=S8.trans s9
       have sm9:=sm8.trans s9
       generalize upd H8 tp _=H9 at s9 htp hs9 ho9 Dj hb9 EU S9 sm9 ⊢
       have dl:((List.zip (fQ e.1 ((mvs l e.1).take j) (fy l ns i)) vs').map λp=>(kyI p.1.1,p.2)).length<=300:=by rw[aa,bK];omega
       refine⟨_,rfl,_,rfl,d,_,rfl,vH.t (k:=kyI m.2) hs9.at_ (by rw[i8];exact Dj) (kL (by omega)),?_⟩
       obtain⟨g1,g2⟩:=xX hs9 ho9 Dj htp hb9 EU hn
       have pd:p≠d:=gw ho9.at_ hs9.at_ (by intro z;cases z)
       have hp9:upd H9 d (.dT (putK ((List.zip (fQ e.1 ((mvs l e.1).take j) (fy l ns i)) vs').map λp=>(kyI p.1.1,p.2)) (kyI m.2) (.ref tp))) p=some (.lst (as'.map V.ref)):=by rw[fc pd];exact ho9.at_
       refine⟨_,rfl,.inl ⟨rfl,_,SqL.of hp9⟩,_,rfl,p,_,_,rfl,rfl,hp9,kL (by rw[aa,ho9.len];omega),?_⟩
       refine kN _ _ ⟨as' ++ [st],vs' ++ [.ref tp],_,_,_,rfl,fi.upd (fi.upd S9 nd0) np0,uY sm9,by rw[p8];exact g1,by rw[p8];exact g2,?_⟩
       rw[p8,ah,bE]
       omega
     ·have hn:m.2∈(fQ e.1 ((mvs l e.1).take j) (fy l ns i)).map (·.1):=by simpa using hn
      have rL:fQ e.1 ((mvs l e.1).take (j+1)) (fy l ns i)=fQ e.1 ((mvs l e.1).take j) (fy l ns i):=by
       rw[uk];unfold lJ;rw[aD hn]
      exact kN _ _ ⟨as',vs',_,_,_,rfl,S8,sm8,by rw[rL];exact hs8,by rw[rL];exact ho8,by rw[rL];exact xp⟩
    ·rintro σ H7 ⟨as',vs',y7,y8,y9,rfl,S7,sm,hs7,ho7,xp⟩
     rw[<-CS,bC,<-kz he]at hs7 ho7 xp
     have yo:=(mH l ns i).length_le
     refine kN1 _ _ ⟨i+1,as',vs',_,_,_,_,rfl,S7,hs7,ho7,by omega,xp⟩ ?_
     show(301-((i:Int)+1)).toNat<(301-(i:Int)).toNat
     omega
   ·have hlt:¬(i:Int)<((as.map V.ref).length:Int):=by simpa using hlt
    rw[aa,ho4.len]at hlt
    have e1:(fy l ns i).length=i:=by omega
    exact kB1 _ _ ⟨_,rfl,k1 i d vs H4 e1 (by omega) S4 nd0 hs4⟩
  ·rintro σ H Q Q' hq ⟨x,e1,y,e2,p',ys,e3,h4,i',j',e5,e6,c,e7,q⟩
   exact⟨x,e1,y,e2,p',ys,e3,h4,i',j',e5,e6,c,e7,hq _ _ q⟩
theorem uN (F:Fn K mg "lists_of" j6 ["standings"] f fd)(B:Bm mg):fE P w K mg base CX0 1 f fd ["standings"] (qg K):=by
 refine F.F.ok ux (λvs H Q E h=>?_) (λcdv A outer s H vs Q E hr h=>?_)
 ·obtain⟨d,es,us,rfl,_⟩:=h;rfl
 ·obtain⟨d,es,us,rfl,hs,hl,k⟩:=h
  have hd:=hs.at_
  have kl:((es.zip us).map λp=>(kyI p.1.1,p.2)).length=es.length:=by rw[aa,bK,hs.len];omega
  have kat:∀ (i:Nat) (p:List Key×V),((es.zip us).map λp=>(kyI p.1.1,p.2))[i]? = some p->∃ t,(es.map (·.1))[i]? = some t/\p.1=kyI t:=λi p hp=>by
   have h1:(((es.zip us).map λp=>(kyI p.1.1,p.2)).map (·.1))[i]? = some p.1:=by rw[aj,hp];rfl
   rw[uX hs.len,aj]at h1
   cases q:es[i]? with
   |none=>rw[q]at h1;cases h1
   |some e=>rw[q]at h1;exact⟨e.1,by rw[aj,q];rfl,(bx h1).symm⟩
  generalize (es.zip us).map (λp=>(kyI p.1.1,p.2))=kvs at hd kl kat
  refine⟨_,(fh (fI (CG (m8 (A1 (pv 0)) rfl nj (.name (by decide)) (λ_ _ _ _=>(fm (i:=0) nj.nd rfl (Or.inl rfl))) (λ_ _ _ _=>iz) (λ_ _ _ _=>(gf (rz (K:=K) rfl) rfl B.list boot_list (eV (pv 0) eY))))))),?_⟩
  refine⟨d,kvs,hd,λo=>⟨_,rfl,d,o,kvs,rfl,eX,λq nq=>?_⟩⟩
  have qd:q≠d:=λz=>by subst z;rw[eX]at nq;cases nq
  have nq0:H q=none:=by rw[fc qd]at nq;exact nq
  have hf:=eX (H:=H) (a:=d) (o:=.frz o (.dT kvs))
  have hfo:∀ b,b≠d->upd H d (.frz o (.dT kvs)) b=H b:=λb hb=>fc hb
  generalize upd H d (.frz o (.dT kvs))=HF at nq hf hfo ⊢
  refine wg es.length (λi acc H'=>∃ bs:List Addr,acc=bs.map V.ref/\bs.length=i/\fi HF H'/\H' q=some (.lst acc)/\(∀ (j:Nat) b t,bs[j]? = some b->(es.map (·.1))[j]? = some t->HF b=none/\b≠q/\H' b=some (.lst (t.map V.int)))/\bs.Nodup)
   ⟨[],rfl,rfl,eW nq,eX,λj b t h=>by simp at h,by simp⟩ (λi acc H' hi ⟨_,_,_,sm,_⟩=>⟨sm _ _ hf,by rw[kl];exact hi⟩) (λacc H' ⟨_,_,_,sm,_⟩=>⟨sm _ _ hf,by rw[kl];exact aq _⟩) ?_ ?_
  ·rintro i x acc H4 H5 hi ⟨bs,rfl,bl,sm,hq,ea,nd⟩ ⟨e5,b,p,hp,rfl,hb⟩
   subst e5
   obtain⟨t,ht,hpt⟩:=kat i p hp
   rw[hpt,i8]at hb
   refine iA ?_
   refine⟨_,rfl,b,_,rfl,.inr (SqT.of hb),λnb nnb=>?_⟩
   have s6:=eW (o:=.lst (t.map V.int)) nnb
   have nbq:nb≠q:=b9 (fb hq nnb)
   refine⟨s6 _ _ hq,kL (by rw[aa];omega),bs ++ [nb],by rw[ax];rfl,by rw[ah,bl];rfl,fi.upd (sm.trans s6) nq,eX,λj c u hc hu=>?_,?_⟩
   ·by_cases hj:j<bs.length
    ·rw[ak hj]at hc
     obtain⟨z1,z2,z3⟩:=ea j c u hc hu
     exact⟨z1,z2,by rw[fc z2];exact s6 _ _ z3⟩
    ·have hj2:j=bs.length:=by
      have:=(af.mp hc).1
      rw[ah,bE]at this
      omega
     rw[hj2,az (aq _),bV]at hc
     cases hc
     rw[hj2,bl,ht]at hu
     cases hu
     exact⟨fi.free sm nnb,nbq,by rw[fc nbq];exact eX⟩
   ·rw[bT]
    refine⟨nd,by simp,λx hx y hy=>?_⟩
    have hy:y=nb:=by simpa using hy
    subst hy
    obtain⟨j,hj,e⟩:=bt.mp hx
    have hje:j<(es.map (·.1)).length:=by rw[aa];omega
    obtain⟨_,_,z3⟩:=ea j x ((es.map (·.1))[j]'hje) (by rw[ae hj,e]) (ae _)
    exact fb z3 nnb
  ·rintro acc H' ⟨bs,rfl,bl,sm,hq,ea,nd⟩
   refine⟨sm _ _ hf,k q bs _ ⟨λb u h=>?_,nq0,by rw[fc qd];exact hq,by rw[aa];exact bl,λj b t hb ht=>?_,nd⟩⟩
   ·by_cases e:b=d
    ·subst e;rw[eX,<-hd];exact h
    ·rw[fc e];exact sm _ _ (by rw[hfo b e];exact h)
   ·obtain⟨z1,z2,z3⟩:=ea j b t hb ht
    have bd:b≠d:=λe=>by subst e;rw[hf]at z1;cases z1
    exact⟨by rw[<-hfo b bd];exact z1,z2,by rw[fc bd];exact z3⟩
end
structure pJ (H:Hp)(d:Addr)(es:List Ent):Prop where
 at_:H d=some (.dT (kvR (fK es)))
theorem pJ.same {H H':Hp}{d:Addr}{es:List Ent}(h:pJ H d es)(s:fi H H'):pJ H' d es:=⟨s _ _ h.at_⟩
theorem pJ.mem {H:Hp}{d:Addr}{es:List Ent}(h:pJ H d es)(t:List Int):(ic (kvR (fK es)) (kyI t)).isSome=decide (t∈es.map (·.1)):=by
 rw[xk,<-hU]
 cases q:gk (fK es) t with
 |none=>rw[aR (qF q)];rfl
 |some n=>rw[aX (ao.mpr ⟨_,i7 q,rfl⟩)];rfl
theorem pJ.val {H:Hp}{d:Addr}{es:List Ent}(h:pJ H d es){t:List Int}(ht:t∈es.map (·.1)):∃ n,gk (fK es) t=some n/\ic (kvR (fK es)) (kyI t)=some (.int n):=by
 obtain⟨n,hn⟩:=uU (rows:=fK es) (t:=t) (by rw[hU];exact ht)
 exact⟨n,hn,by rw[xk,hn];rfl⟩
theorem xY {H:Hp}{d p b:Addr}{es:List Ent}{as:List Addr}{t t':List Int}{k:Str×Int}{n:Int}(hs:pJ H d es)(ho:rB H p as es)(hb:H b=some (.lst (t'.map V.int)))(bp:b≠p)(hn:t'∉es.map (·.1))(IT:n=rn (fK es) (t',some (t,k))):
  pJ (upd (upd H d (.dT (putK (kvR (fK es)) (kyI t') (.int n)))) p (.lst (as.map V.ref ++ [V.ref b]))) d (es ++ [(t',some (t,k))])/\
  rB (upd (upd H d (.dT (putK (kvR (fK es)) (kyI t') (.int n)))) p (.lst (as.map V.ref ++ [V.ref b]))) p (as ++ [b]) (es ++ [(t',some (t,k))]):=by
 have hd:=hs.at_
 have hp:=ho.at_
 have dp:d≠p:=gw hd hp (by intro z;cases z)
 have hv:ic (kvR (fK es)) (kyI t')=none:=by
  have:=hs.mem t'
  rw[aR hn]at this
  exact Option.isNone_iff_eq_none.mp (by rw[<-Option.not_isSome,this];rfl)
 have e1:putK (kvR (fK es)) (kyI t') (.int n)=kvR (fK (es ++ [(t',some (t,k))])):=by
  rw[nU _ hv,lq,IT]
  unfold kvR
  rw[ax];rfl
 have hl:∀ c xs,c≠p->H c=some (.lst xs)->upd (upd H d (.dT (putK (kvR (fK es)) (kyI t') (.int n)))) p (.lst (as.map V.ref ++ [V.ref b])) c=some (.lst xs):=λc xs cp q=>by
  rw[fc cp,fc (gw q hd (by intro z;cases z))];exact q
 refine⟨⟨by rw[fc dp,eX,e1]⟩,⟨by rw[eX,ax];rfl,by rw[ah,ah,ho.len];rfl,λi c e hc he=>?_⟩⟩
 by_cases hi:i<es.length
 ·rw[ak hi]at he
  rw[ak (by rw[ho.len];exact hi)]at hc
  obtain⟨z1,z2⟩:=ho.each i c e hc he
  exact⟨z1,hl c _ z1 z2⟩
 ·have hi2:i=es.length:=by
   have:=(af.mp he).1
   rw[ah,bE]at this
   omega
  rw[hi2,az (aq _),bV]at he
  rw[hi2,<-ho.len,az (aq _),bV]at hc
  cases he
  cases hc
  exact⟨bp,hl b _ bp hb⟩
def yR (K:PySem.W.Frag):Sp:=λvs H Q _=>∃ (v:V) (u:Addr) (l:Ln) (ns:List Int),vs = [v,.ref u]/\Da K H (dL l) v/\H u=some (.lst (ns.map V.int))/\fk l/\ns≠ []/\ns.length<=6/\gi l ns/\
 ∀ i t p d as H',(fy l ns i).length=i->fi H H'->H' t=some (.tup [.ref p,.ref d])->rB H' p as (fy l ns i)->pJ H' d (fy l ns i)->Q (.ref t) H'
def Km (σ:L2.St)(_:Hp):Nat:=match (σ[4]? :Option (Option V))with
 |some (some (V.int i))=>(4096001-i).toNat
 |_=>0
abbrev mO:Stmt:=top 40
theorem iD:fH ["_law_line_here","_law_train","_law_order","_law_numbers","_law_at","_law_move","_law_behind"] ["_law_line_here","_law_train"] (fj mO):=⟨rfl,rfl,rfl,by decide +kernel,rfl,by decide +kernel,by decide +kernel⟩
section
variable {P:Program}{w:World}{K:PySem.W.Frag}{mg:Str->Option Value}{base:Heap}{f:Addr}{fd:FuncData}
theorem vY {f1:Addr}{fd1:FuncData}(F:Fn K mg "_law_web" mO ["_law_line_here","_law_train"] f fd)(B:Bm mg)(iN:Fn K mg "_law_moves" jx ["_law_line_here","_law_train"] f1 fd1)
  (mD:fE P w K mg base CX0 2 f1 fd1 ["_law_line_here","_law_train"] (nR K)):fE P w K mg base CX0 3 f fd ["_law_line_here","_law_train"] (yR K):=by
 refine F.F.ok iD (λvs H Q E h=>?_) (λcdv A outer s H vs Q E hr h=>?_)
 ·obtain⟨v,u,l,ns,rfl,_⟩:=h;rfl
 ·obtain⟨v,u,l,ns,rfl,hv,hu,ok,hne,hz,T,k⟩:=h
  refine⟨_,(eZ (fw (i:=2) iD.nd rfl (Or.inl rfl) (gu (eV (pv 1) eY)))
 (eZ (fw (i:=3) iD.nd rfl (Or.inl rfl) (uI (lH hr) (gf fW rfl B.tuple cT (eV (pv 1) eY)) fg))
 (eZ (fw (i:=4) iD.nd rfl (Or.inl rfl) fg)
 (eZ (nV bz (fX (uJ (pv 4) (fC gc rfl B.len dY (eV (pv 2) eY))))
 (eZ (gQ bz rfl (fY (fq mD (hr.mono (by decide)) rfl iN.m iN.F.kp iN.b .nil fR (eV (pv 0) (eV (gh fV (pv 2) (pv 4) (λ_ _=>rfl)) eY)))) (jD (n:=2) rfl (fN (fm (i:=5) iD.nd rfl (Or.inl rfl)) (fN (fm (i:=6) iD.nd rfl (Or.inl rfl)) iB)))
 (fh (gO (fX (mS (lH hr) (gf fW rfl B.tuple cT (eV (pv 6) eY)) (pv 3)))
 (eZ (pO (lH hr) (pv 3) (gf fW rfl B.tuple cT (eV (pv 6) eY)) (fu gZ (xh (lH hr) (pv 3) (gf fW rfl B.tuple cT (eV (gh fV (pv 2) (pv 4) (λ_ _=>rfl)) eY)) (λ_ _=>rfl)) fg) rfl)
 (fh (gX (jB aL bh bg gC (pv 2) (eV (pv 6) eY))))) fP)))
 (fh (fw (i:=4) iD.nd rfl (Or.inl rfl) (fu gZ (pv 4) fg)))))
 (fh (fI (gG (eV (pv 2) (eV (pv 3) eY))))))))),?_⟩
  refine⟨_,rfl,by show 1<=sizeLine;decide,λp np=>?_⟩
  have s1:=eW (o:=.lst [V.ref u]) np
  have hp1:=eX (H:=H) (a:=p) (o:=.lst [V.ref u])
  have hu1:=s1 _ _ hu
  have up:u≠p:=fb hu np
  generalize upd H p _=H1 at s1 hp1 hu1 ⊢
  refine λd nd=>⟨_,rfl,u,_,rfl,.inl ⟨SqL.of (eW nd _ _ hu1),λt0 nt0=>?_⟩⟩
  have nd0:=fi.free s1 nd
  have s2:=eW (o:=.dT []) nd
  have s3:=eW (o:=.tup (ns.map V.int)) nt0
  refine⟨_,_,t0,kyI ns,rfl,rfl,by rw[i8];exact eX,s3 _ _ eX,?_⟩
  have hp3:=s3 _ _ (s2 _ _ hp1)
  have hu3:=s3 _ _ (s2 _ _ hu1)
  have S3:=s1.trans (s2.trans s3)
  have dp:p≠d:=fb hp1 nd
  have du:u≠d:=fb hu1 nd
  have S4:fi H (upd (upd (upd H1 d (.dT [])) t0 (.tup (ns.map V.int))) d (.dT [(kyI ns,V.int 0)])):=fi.upd S3 nd0
  have hp4:(upd (upd (upd H1 d (.dT [])) t0 (.tup (ns.map V.int))) d (.dT [(kyI ns,V.int 0)])) p=some (.lst [V.ref u]):=by rw[fc dp];exact hp3
  have hu4:(upd (upd (upd H1 d (.dT [])) t0 (.tup (ns.map V.int))) d (.dT [(kyI ns,V.int 0)])) u=some (.lst (ns.map V.int)):=by rw[fc du];exact hu3
  have hd4:=eX (H:=upd (upd H1 d (.dT [])) t0 (.tup (ns.map V.int))) (a:=d) (o:=.dT [(kyI ns,V.int 0)])
  generalize upd (upd (upd H1 d (.dT [])) t0 (.tup (ns.map V.int))) d (.dT [(kyI ns,V.int 0)])=H4 at S4 hp4 hu4 hd4 ⊢
  refine rE (λσ H4=>∃ (i:Nat) (as:List Addr) (x5 x6:Option V),σ = [some v,some (.ref u),some (.ref p),some (.ref d),some (.int i),x5,x6]/\fi H H4/\pJ H4 d (fy l ns i)/\rB H4 p as (fy l ns i)/\i<=(fy l ns i).length)
   Km ⟨0,[u],none,none,rfl,S4,⟨hd4⟩,⟨hp4,rfl,λi b e hb he=>?_⟩,aW _⟩ ?_ ?_
  ·match i,hb,he with
   | 0,hb,he=>cases hb;cases he;exact⟨up,hu4⟩
  ·rintro σ H4 N1 R1 B1 kN1 _ kB1 ⟨i,as,x5,x6,rfl,S4,hs4,ho4,hi⟩
   have E4:=jj ok T hne i
   have b4:=E4.len ok hz
   refine⟨_,rfl,_,rfl,p,_,rfl,.inl (SqL.of ho4.at_),_,_,rfl,rfl,_,rfl,gN (λhlt=>?_) (λhlt=>?_)⟩
   ·have hlt:(i:Int)<((as.map V.ref).length:Int):=by simpa using hlt
    rw[aa,ho4.len]at hlt
    have hi2:i<(fy l ns i).length:=by omega
    have he:(fy l ns i)[i]? = some ((fy l ns i)[i]):=by simp
    generalize (fy l ns i)[i]=e at he
    obtain⟨b,hb,bp,hbt⟩:=ho4.get he
    obtain⟨T1,T2,T3⟩:=E4.tr e (aG he)
    have em:e.1∈(fy l ns i).map (·.1):=ao.mpr ⟨e,aG he,rfl⟩
    refine⟨_,rfl,_,rfl,_,rfl,p,_,_,_,rfl,rfl,SqL.of ho4.at_,mv (v:=V.ref b) (by omega) (by rw[aj,show((i:Int)).toNat=i by omega,hb];rfl),_,_,l,e.1,rfl,Da.same S4 hv,jc hbt,ok,T3,by omega,λpm vm H6 s6 hpm zS Dm=>?_⟩
    have S6:=S4.trans s6
    have hs6:=hs4.same s6
    have ho6:=ho4.same s6
    have CS:(mvs l e.1).length=vm.length:=by have:=Dm.length;rw[aa]at this;exact this.symm
    have pmp:pm≠p:=b9 (fb ho4.at_ hpm)
    have pmd:pm≠d:=b9 (fb hs4.at_ hpm)
    have b7:∀ j,(fQ e.1 ((mvs l e.1).take j) (fy l ns i)).length<=4096000:=λj=>by
     have h1:=(lN (t:=e.1) (mvs l e.1) (fy l ns i) j).length_le
     rw[<-kz he]at h1
     have h2:=(jj ok T hne (i+1)).len ok hz
     omega
    refine⟨pm,rfl,⟨_,SqL.of zS⟩,gS (K:=K) (a:=pm) (xs:=vm) (λj σ H7=>∃ (as':List Addr) (x5 x6:Option V),σ = [some v,some (.ref u),some (.ref p),some (.ref d),some (.int i),x5,x6]/\
      fi H H7/\fi (lB d p H6) H7/\pJ H7 d (fQ e.1 ((mvs l e.1).take j) (fy l ns i))/\rB H7 p as' (fQ e.1 ((mvs l e.1).take j) (fy l ns i)))
     ⟨as,x5,x6,rfl,S6,λb u h=>gI (p:=d) b u (gI (p:=p) b u h),hs6,ho6⟩ (λj σ H7 _ ⟨_,_,_,_,_,sm,_⟩=>SqL.of (sm _ _ (by rw[lA pmd pmp];exact zS))) ?_ ?_⟩
    ·rintro j y σ H7 N R B kN _ hj ⟨as',y5,y6,rfl,S7,sm,hs7,ho7⟩
     obtain⟨m,ad,p1,bb,hm,rfl,ht,dm,hbb,nbb,_⟩:=BV Dm hj
     have bbp:bb≠p:=b9 (fb ho4.at_ nbb)
     have bbd:bb≠d:=b9 (fb hs4.at_ nbb)
     have ht7:=gj sm (qJ hs6.at_ ho6.at_ ht)
     have Bi:H7 bb=some (.lst (m.2.map V.int)):=sm _ _ (by rw[lA bbd bbp];exact hbb)
     have b7j:=b7 j
     refine⟨ad,_,rfl,ht7,rfl,_,_,rfl,_,_,rfl,rfl,?_⟩
     refine⟨_,rfl,bb,_,rfl,.inl ⟨SqL.of Bi,λst nst=>?_⟩⟩
     have s8:=eW (o:=.tup (m.2.map V.int)) nst
     have hst:=eX (H:=H7) (a:=st) (o:=.tup (m.2.map V.int))
     have hs8:=hs7.same s8
     have ho8:=ho7.same s8
     have S8:=S7.trans s8
     have sm8:=sm.trans s8
     have E9:=s8 _ _ Bi
     generalize upd H7 st _=H8 at s8 hst hs8 ho8 S8 sm8 E9 ⊢
     refine⟨_,rfl,d,_,rfl,o9.t (k:=kyI m.2) hs8.at_ (by rw[i8];exact hst),_,rfl,?_⟩
     rw[hs8.mem m.2]
     have uk:fQ e.1 ((mvs l e.1).take (j+1)) (fy l ns i)=lJ e.1 (fQ e.1 ((mvs l e.1).take j) (fy l ns i)) m:=qi hm
     have pre:fy l ns i <+:fQ e.1 ((mvs l e.1).take j) (fy l ns i):=mK _ _ _
     refine gN (λhn=>?_) (λhn=>?_)
     ·have hn:m.2∉(fQ e.1 ((mvs l e.1).take j) (fy l ns i)).map (·.1):=by simpa using hn
      have p8:fQ e.1 ((mvs l e.1).take (j+1)) (fy l ns i)=fQ e.1 ((mvs l e.1).take j) (fy l ns i) ++ [(m.2,some (e.1,m.1))]:=by
       rw[uk];unfold lJ;rw[au hn]
      have he7:(fQ e.1 ((mvs l e.1).take j) (fy l ns i))[i]? = some e:=by
       obtain⟨r,hr⟩:=pre
       rw[<-hr,ak hi2];exact he
      have em7:e.1∈(fQ e.1 ((mvs l e.1).take j) (fy l ns i)).map (·.1):=ao.mpr ⟨e,aG he7,rfl⟩
      generalize fQ e.1 ((mvs l e.1).take j) (fy l ns i)=es at *
      obtain⟨b2,g1,g2,g3⟩:=ho8.get he7
      refine⟨_,rfl,_,rfl,_,rfl,p,_,_,_,rfl,rfl,SqL.of ho8.at_,mv (v:=V.ref b2) (by omega) (by rw[aj,show((i:Int)).toNat=i by omega,g1];rfl),b2,_,rfl,.inl ⟨SqL.of g3,λst2 CO=>?_⟩⟩
      have s9:=eW (o:=.tup (e.1.map V.int)) CO
      have zR:=eX (H:=H8) (a:=st2) (o:=.tup (e.1.map V.int))
      have hs9:=hs8.same s9
      have ho9:=ho8.same s9
      have S9:=S8.trans s9
      have sm9:=sm8.trans s9
      have Dx:=s9 _ _ E9
      generalize upd H8 st2 _=H9 at s9 zR hs9 ho9 S9 sm9 Dx ⊢
      obtain⟨n,hl9,hn9⟩:=hs9.val em7
      refine⟨d,.int n,rfl,by rw[<-hn9];exact o9.t (k:=kyI e.1) hs9.at_ (by rw[i8];exact zR),_,_,rfl,rfl,_,rfl,_,rfl,bb,_,rfl,.inl ⟨SqL.of Dx,λst3 HX=>?_⟩⟩
      have s10:=eW (o:=.tup (m.2.map V.int)) HX
      have EW:=eX (H:=H9) (a:=st3) (o:=.tup (m.2.map V.int))
      have Bg:=hs9.same s10
      have zT:=ho9.same s10
      have S10:=S9.trans s10
      have El:=sm9.trans s10
      have BY:=s10 _ _ Dx
      generalize upd H9 st3 _=H10 at s10 EW Bg zT S10 El BY ⊢
      have dl:(kvR (fK es)).length<=4096000:=by unfold kvR;rw[aa,kE];omega
      refine⟨d,_,rfl,vH.t (k:=kyI m.2) Bg.at_ (by rw[i8];exact EW) (kL (by omega)),?_⟩
      obtain⟨q1,q2⟩:=xY (t:=e.1) (k:=m.1) (n:=n+1) Bg zT BY bbp hn (by show n+1=(gk (fK es) e.1).getD 0+1;rw[hl9];rfl)
      have pd:p≠d:=gw zT.at_ Bg.at_ (by intro z;cases z)
      have EX:upd H10 d (.dT (putK (kvR (fK es)) (kyI m.2) (.int (n+1)))) p=some (.lst (as'.map V.ref)):=by rw[fc pd];exact zT.at_
      refine⟨_,rfl,.inl ⟨rfl,_,SqL.of EX⟩,_,rfl,p,_,_,rfl,rfl,EX,kL (by rw[aa,zT.len];omega),?_⟩
      exact kN _ _ ⟨as' ++ [bb],_,_,rfl,fi.upd (fi.upd S10 nd0) np,uY El,by rw[p8];exact q1,by rw[p8];exact q2⟩
     ·have hn:m.2∈(fQ e.1 ((mvs l e.1).take j) (fy l ns i)).map (·.1):=by simpa using hn
      have rL:fQ e.1 ((mvs l e.1).take (j+1)) (fy l ns i)=fQ e.1 ((mvs l e.1).take j) (fy l ns i):=by
       rw[uk];unfold lJ;rw[aD hn]
      exact kN _ _ ⟨as',_,_,rfl,S8,sm8,by rw[rL];exact hs8,by rw[rL];exact ho8⟩
    ·rintro σ H7 ⟨as',y5,y6,rfl,S7,sm,hs7,ho7⟩
     rw[<-CS,bC,<-kz he]at hs7 ho7
     have yo:=(mH l ns i).length_le
     refine⟨_,rfl,_,_,rfl,rfl,kN1 _ _ ⟨i+1,as',_,_,rfl,S7,hs7,ho7,by omega⟩ ?_⟩
     show(4096001-((i:Int)+1)).toNat<(4096001-(i:Int)).toNat
     omega
   ·have hlt:¬(i:Int)<((as.map V.ref).length:Int):=by simpa using hlt
    rw[aa,ho4.len]at hlt
    have e1:(fy l ns i).length=i:=by omega
    refine kB1 _ _ ⟨_,rfl,_,rfl,by show 2<=sizeLine;decide,λt nt=>?_⟩
    exact k i t p d as _ e1 (S4.trans (eW nt)) eX (ho4.same (eW nt)) (hs4.same (eW nt))
  ·rintro σ H Q Q' hq ⟨x,e1,y,e2,p',ys,e3,h4,i',j',e5,e6,c,e7,q⟩
   exact⟨x,e1,y,e2,p',ys,e3,h4,i',j',e5,e6,c,e7,hq _ _ q⟩
end
theorem kh {n:Nat}(h:n<=1000):n<sizeLine:=eB h (by decide)
def yS (K:PySem.W.Frag):Sp:=λvs H Q _=>∃ n m:Int,vs = [.int n,.int m]/\0<=m/\m<=40/\∀ (p:Addr) (ns:List Int) (H':Hp),fi H H'->H p=none->H' p=some (.lst (ns.map V.int))->(ns.length:Int)=m->(∀ x∈ns,0<=x/\x<m)->ns.Nodup->Q (.ref p) H'
def qc (K:PySem.W.Frag):Sp:=λvs H Q _=>∃ (v:V) (l:Ln) (c:Int),vs = [v,.int c]/\Da K H (dL l) v/\gm l/\∀ (v':V) (js':List (Int×Int)) (nm es:List Int) (H':Hp),fi H H'->Da K H' (dL (l.1,js')) v'->Ren l.1 nm es->js'.Perm (l.2.map (rj es))->Q v' H'
abbrev iu:Stmt:=top 33
theorem h8:fH ["_law_number","_law_many","_law_told_here","_law_k"] ["_law_number","_law_many"] (fj iu):=⟨rfl,rfl,rfl,by decide +kernel,rfl,by decide +kernel,by decide +kernel⟩
abbrev jk:Stmt:=top 37
theorem fJ:fH ["_law_line_here","_law_cell","_law_many","_law_joints","_law_names","_law_ends","_law_piece","_law_flip","_law_made","_law_k","_law_a","_law_b","_law_joint"] ["_law_line_here","_law_cell"] (fj jk):=⟨rfl,rfl,rfl,by decide +kernel,rfl,by decide +kernel,by decide +kernel⟩
section
variable {P:Program}{w:World}{K:PySem.W.Frag}{mg:Str->Option Value}{base:Heap}{f:Addr}{fd:FuncData}
theorem nY (F:Fn K mg "_law_turned_row" iu ["_law_number","_law_many"] f fd)(B:Bl mg):fE P w K mg base CX0 1 f fd ["_law_number","_law_many"] (yS K):=by
 refine F.F.ok h8 (λvs H Q E h=>?_) (λcdv A outer s H vs Q E hr h=>?_)
 ·obtain⟨n,m,rfl,_⟩:=h;rfl
 ·obtain⟨n,m,rfl,h0,h1,k⟩:=h
  refine⟨_,(eZ (fw (i:=2) h8.nd rfl (Or.inl rfl) (gu eY))
 (eZ (gQ bz rfl (jQ rfl B.range (eV (pv 1) eY)) (fm (i:=3) h8.nd rfl (Or.inl rfl))
 (eZ (gX (jB aL eP PySem.F.type_list_insert sf (pv 2) (eV (fu gY (pv 0) (fu gZ (pv 3) fg)) (eV (pv 3) eY))))
 (fh (fw (i:=0) h8.nd rfl (Or.inl rfl) (fu iC (pv 0) (fu gZ (pv 3) fg))))))
 (fh (fI (pv 2))))),?_⟩
  refine⟨aW _,λt ht=>?_⟩
  refine⟨_,rfl,m,rfl,by omega,by omega,oR (λi σ H3=>∃ (n:Int) (ns:List Int) (x:Option V),σ = [some (.int n),some (.int m),some (.ref t),x]/\H3=upd H t (.lst (ns.map V.int))/\ns.length=i/\(∀ x∈ns,0<=x/\x<(i:Int))/\ns.Nodup)
   ⟨n,[],none,rfl,rfl,rfl,λx hx=>(nomatch hx),List.nodup_nil⟩ ?_ ?_⟩
  ·rintro i σ H3 hi ⟨n,ns,x,rfl,rfl,hlen,hb,hnd⟩
   have i0:(0:Int)+(i:Nat)=(i:Int):=by omega
   rw[i0]
   have r0:0<=n%((i:Int)+1):=d8 _ (by omega)
   have r1:n%((i:Int)+1)<(i:Int)+1:=dC _ (by omega)
   refine⟨_,rfl,.inl ⟨rfl,_,SqL.of eX⟩,_,rfl,_,rfl,_,_,rfl,rfl,_,_,rfl,rfl,(by show(0:Int)<(i:Int)+1;omega),_,rfl,t,_,_,_,rfl,rfl,eX,r0,?_,?_,?_⟩
   ·show n%((i:Int)+1)<=((ns.map V.int).length:Int)
    rw[aa,hlen];omega
   ·rw[aa,hlen];exact kh (by omega)
   refine⟨_,rfl,_,rfl,_,_,rfl,rfl,_,_,rfl,rfl,⟨by show(0:Int)<(i:Int)+1;omega,by show(i:Int)+1<1073741824;omega⟩,?_⟩
   have pm:=uF ns (n%((i:Int)+1)).toNat (i:Int)
   refine⟨_,ns.take (n%((i:Int)+1)).toNat++(i:Int)::ns.drop (n%((i:Int)+1)).toNat,_,rfl,?_,?_,?_,?_⟩
   ·rw[pM,ax,aM,List.map_take,dU]
   ·rw[pm.length_eq,aY,hlen]
   ·intro x hx
    rcases aJ.mp (pm.mem_iff.mp hx)with z |z
    ·omega
    ·have:=hb x z;omega
   ·refine pm.nodup_iff.mpr (cg.mpr ⟨λz=>?_,hnd⟩)
    have:=(hb _ z).2
    omega
  ·rintro σ H3 ⟨n,ns,x,rfl,rfl,hlen,hb,hnd⟩
   exact⟨_,rfl,k t ns _ (eW ht) ht eX (by omega) (λx hx=>by have:=hb x hx;omega) hnd⟩
end
section
variable {P:Program}{w:World}{K:PySem.W.Frag}{mg:Str->Option Value}{base:Heap}{f:Addr}{fd:FuncData}
theorem qy {f1 f2:Addr}{fd1 fd2:FuncData}(F:Fn K mg "_law_renamed" jk ["_law_line_here","_law_cell"] f fd)(fx:Fn K mg "_law_mix" kC ["_law_cell","_law_k"] f1 fd1)(gD:Fn K mg "_law_turned_row" iu ["_law_number","_law_many"] f2 fd2)
  (B:Bl mg):fE P w K mg base CX0 2 f fd ["_law_line_here","_law_cell"] (qc K):=by
 have hV:fE P w K mg base CX0 1 f1 fd1 ["_law_cell","_law_k"] vO:=qz fx B
 have o5:fE P w K mg base CX0 1 f2 fd2 ["_law_number","_law_many"] (yS K):=nY gD B
 refine F.F.ok fJ (λvs H Q E h=>?_) (λcdv A outer s H vs Q E hr h=>?_)
 ·obtain⟨v,l,c,rfl,_⟩:=h;rfl
 ·obtain⟨v,⟨m,js⟩,c,rfl,hv,G,k⟩:=h
  have h1:1<=m:=G.one
  have h14:m<=14:=G.most
  have h40:m<=40:=by omega
  have hjl:js.length<=24:=G.len
  obtain⟨a,b,rfl,ht,us,hl,hq⟩:=mY hv
  dsimp only at ht hq k
  refine⟨_,(eZ (zh (pv 0) (jD (n:=2) rfl (fN (fm (i:=2) fJ.nd rfl (Or.inl rfl)) (fN (fm (i:=3) fJ.nd rfl (Or.inl rfl)) iB))))
 (eZ (fw (i:=4) fJ.nd rfl (Or.inl rfl) (fq o5 (hr.mono (by decide)) rfl gD.m gD.F.kp gD.b .nil fR (eV (fq hV (hr.mono (by decide)) rfl fx.m fx.F.kp fx.b .nil fR (eV (pv 1) (eV fg eY))) (eV (pv 2) eY))))
 (eZ (fw (i:=5) fJ.nd rfl (Or.inl rfl) (gu eY))
 (eZ (gQ bz rfl (jQ rfl B.range (eV (pv 2) eY)) (fm (i:=6) fJ.nd rfl (Or.inl rfl))
 (eZ (fw (i:=7) fJ.nd rfl (Or.inl rfl) (fu gY (fq hV (hr.mono (by decide)) rfl fx.m fx.F.kp fx.b .nil fR (eV (pv 1) (eV (fu gZ fg (pv 6)) eY))) fg))
 (fh (fw (i:=5) fJ.nd rfl (Or.inl rfl) (fu kn (pv 5) (gu (eV (fu gZ (fu i6 fg (gh fV (pv 4) (pv 6) (λ_ _=>rfl))) (pv 7)) (eV (fu tq (fu gZ (fu i6 fg (gh fV (pv 4) (pv 6) (λ_ _=>rfl))) fg) (pv 7)) eY))))))))
 (eZ (fw (i:=8) fJ.nd rfl (Or.inl rfl) (gu eY))
 (eZ (gQ bz rfl (xg rfl B.enumerate (eV (pv 3) eY)) (jD (n:=2) rfl (fN (fm (i:=9) fJ.nd rfl (Or.inl rfl)) (fN (jD (n:=2) rfl (fN (fm (i:=10) fJ.nd rfl (Or.inl rfl)) (fN (fm (i:=11) fJ.nd rfl (Or.inl rfl)) iB))) iB)))
 (eZ (fw (i:=12) fJ.nd rfl (Or.inl rfl) (gG (eV (fC (oU rfl) rfl B.min boot_min (eV (gh fV (pv 5) (pv 10) (λ_ _=>rfl)) (eV (gh fV (pv 5) (pv 11) (λ_ _=>rfl)) eY))) (eV (fC (oV rfl) rfl B.max boot_max (eV (gh fV (pv 5) (pv 10) (λ_ _=>rfl)) (eV (gh fV (pv 5) (pv 11) (λ_ _=>rfl)) eY))) eY))))
 (fh (gX (jB aL eP PySem.F.type_list_insert sf (pv 8) (eV (fu gY (fq hV (hr.mono (by decide)) rfl fx.m fx.F.kp fx.b .nil fR (eV (pv 1) (eV (fu gZ fg (pv 9)) eY))) (fu gZ (pv 9) fg)) (eV (pv 12) eY)))))))
 (fh (fI (gG (eV (pv 2) (eV (pv 8) eY))))))))))),nm3 λR1 hR1=>?_⟩
  refine⟨_,rfl,a,_,rfl,ht,rfl,_,_,rfl,_,_,rfl,rfl,?_⟩
  refine⟨_,rfl,c,0,rfl,by decide,by decide,λn n0 n1=>⟨_,rfl,n,m,rfl,by omega,h40,λpn nm H1 s1 hn1 hn2 Ia nb nnd=>?_⟩⟩
  refine⟨aW _,λq0 nq0=>?_⟩
  refine hR1 _ _ _ (nm2 λR2 hR2=>?_)
  refine⟨_,rfl,m,rfl,by omega,by omega,i9 (λi σ H3=>∃ (q:Addr) (es:List Int) (x6 x7:Option V),σ = [some (.ref a),some (.int c),some (.int m),some (.ref b),some (.ref pn),some (.ref q),x6,x7,none,none,none,none,none]/\fi H1 H3/\H3 q=some (.lst (es.map V.int))/\es.length=2*i/\(∀ j,j<i->∃ f:Int,(f=0\/f=1)/\es[2*j]? = some (2*nm.getD j 0+f)/\es[2*j+1]? = some (2*nm.getD j 0+1-f)))
   ⟨q0,[],none,none,rfl,eW nq0,eX,rfl,λj hj=>absurd hj (Nat.not_lt_zero j)⟩ ?_ ?_⟩
  ·rintro i σ H3 N R B kN _ hi ⟨q,es,x6,x7,rfl,S3,hq3,yv,eb⟩
   have i0:(0:Int)+(i:Nat)=(i:Int):=by omega
   rw[i0]
   obtain⟨nx,hnx,IW,hat⟩:=wF (ns:=nm) (i:=(i:Int)) (by omega) (by omega)
   have nbx:=nb nx IW
   have hSn:SqL K H3 pn (nm.map V.int):=SqL.of (S3 _ _ hn2)
   refine⟨_,rfl,_,rfl,_,_,rfl,rfl,c,_,rfl,by show(0:Int)<=20+i;omega,by show 20+(i:Int)<=1000;omega,λn n0 n1=>⟨_,_,rfl,rfl,(by show(0:Int)<_;decide),?_⟩⟩
   refine⟨_,rfl,_,rfl,_,rfl,pn,_,_,_,rfl,rfl,hSn,hat,_,_,rfl,rfl,.inl ⟨by decide,by decide⟩,_,rfl,_,_,rfl,rfl,_,rfl,_,rfl,pn,_,_,_,rfl,rfl,hSn,hat,_,_,rfl,rfl,.inl ⟨by decide,by decide⟩,_,_,rfl,rfl,_,rfl,_,_,rfl,rfl,by show 2<=sizeLine;decide,λq1 nq1=>?_⟩
   refine⟨q,q1,_,_,rfl,rfl,by rw[fc (fb hq3 nq1)];exact hq3,eX,?_,λq2 nq2=>?_⟩
   ·refine cb (kh ?_)
    rw[aa,yv]
    show 2*i+2<=1000
    omega
   refine kN _ _ ⟨q2,es ++ [2*nx+n%2,2*nx+1-n%2],_,_,rfl,S3.trans ((eW nq1).trans (eW nq2)),?_,?_,?_⟩
   ·rw[eX,ax];rfl
   ·rw[ah,yv];show 2*i+2=_;omega
   ·intro j hj
    have EY:nm.getD i 0=nx:=by rw[bD,show i=((i:Int)).toNat by omega,hnx];rfl
    rcases Nat.lt_succ_iff_lt_or_eq.mp hj with z |z
    ·obtain⟨f,hf,e1,e2⟩:=eb j z
     exact⟨f,hf,by rw[ak (by omega)];exact e1,by rw[ak (by omega)];exact e2⟩
    ·subst z
     refine⟨n%2,by omega,?_,?_⟩
     ·rw[az (by omega),yv,bV,EY];rfl
     ·rw[az (by omega),yv,show 2*j+1-2*j=1 by omega,EY];rfl
  rintro σ H3 ⟨q,es,x6,x7,rfl,S3,hq3,yv,eb⟩
  have R:Ren m nm es:=⟨Ia,nb,nnd,by omega,λj hj=>eb j (by omega)⟩
  refine⟨aW _,λt nt=>?_⟩
  have hl3:SqL K H3 b us:=(s1.trans S3).seq hl
  have hq4:Das K H3 (js.map dP) us:=Das.same (s1.trans S3) hq
  have hul:us.length=js.length:=by rw[Dgs.length hq,aa]
  refine hR2 _ _ _ ?_
  refine⟨_,rfl,b,rfl,⟨us,(eW nt).seq hl3⟩,sA (K:=K) (a:=b) (xs:=us) (λi σ H4=>∃ (vs:List V) (js':List (Int×Int)) (x9 x10 x11 x12:Option V),σ = [some (.ref a),some (.int c),some (.int m),some (.ref b),some (.ref pn),some (.ref q),x6,x7,some (.ref t),x9,x10,x11,x12]/\fi H3 H4/\H4 t=some (.lst vs)/\Ps K H4 js' vs/\js'.length=i/\js'.Perm ((js.take i).map (rj es)))
   ⟨[],[],none,none,none,none,rfl,eW nt,eX,gJ.mpr rfl,rfl,.refl _⟩ (λi σ H4 _ ⟨_,_,_,_,_,_,_,S4,_⟩=>S4.seq hl3) ?_ ?_⟩
  ·rintro i x σ H4 p0 N R B kN _ hi ⟨vs,js',x9,x10,x11,x12,rfl,S4,ht4,D,C8,jb⟩ n0
   have hil:i<us.length:=(af.mp hi).1
   have S5:fi H3 (upd H4 p0 (.tup [.int i,x])):=S4.trans (eW n0)
   obtain⟨ad,⟨ea,eb'⟩,e1,rfl,hpr⟩:=lX (Das.same S5 hq4) hi
   dsimp only at hpr
   have hbd:=G.ok (ea,eb') (aG e1)
   unfold okJ at hbd
   dsimp only at hbd
   obtain⟨xa,ga,ma,Fc⟩:=wF (ns:=es) (i:=ea) hbd.1.1 (by omega)
   obtain⟨xb,gb,mb,Fb⟩:=wF (ns:=es) (i:=eb') hbd.2.1.1 (by omega)
   have hrj:rj es (ea,eb')=(min xa xb,max xa xb):=by
    unfold rj rho
    dsimp only
    rw[bD,bD,ga,gb];rfl
   refine⟨p0,_,rfl,SqT.of eX,rfl,_,_,rfl,_,_,rfl,ad,_,rfl,hpr,rfl,_,_,rfl,_,_,rfl,rfl,rfl,?_⟩
   have hSe:SqL K (upd H4 p0 (.tup [.int i,.ref ad])) q (es.map V.int):=SqL.of (S5 _ _ hq3)
   refine⟨_,rfl,_,rfl,q,_,_,_,rfl,rfl,hSe,Fc,_,rfl,_,rfl,q,_,_,_,rfl,rfl,hSe,Fb,_,_,rfl,?_⟩
   refine⟨_,rfl,_,rfl,q,_,_,_,rfl,rfl,hSe,Fc,_,rfl,_,rfl,q,_,_,_,rfl,rfl,hSe,Fb,_,_,rfl,by show 2<=sizeLine;decide,λp1 n1=>?_⟩
   rw[v9,wc]
   have ht5:(upd (upd H4 p0 (.tup [.int i,.ref ad])) p1 (.tup [.int (min xa xb),.int (max xa xb)])) t=some (.lst vs):=((eW n0).trans (eW n1)) _ _ ht4
   have vl:vs.length=i:=by rw[D.len,C8]
   refine⟨_,rfl,.inl ⟨rfl,_,SqL.of ht5⟩,_,rfl,_,rfl,_,_,rfl,rfl,c,_,rfl,by show(0:Int)<=40+i;omega,by show 40+(i:Int)<=1000;omega,λn n0' n1'=>⟨_,rfl,_,_,rfl,rfl,_,_,rfl,rfl,(by show(0:Int)<(i:Int)+1;omega),_,rfl,t,vs,_,_,rfl,rfl,ht5,?_,?_,kh (by omega),?_⟩⟩
   ·exact d8 _ (by omega)
   ·have:=dC n (show(0:Int)<(i:Int)+1 by omega)
    show n%((i:Int)+1)<=(vs.length:Int)
    omega
   have pm:=uF js' (n%((i:Int)+1)).toNat (min xa xb,max xa xb)
   refine kN _ _ ⟨_,js'.take (n%((i:Int)+1)).toNat++(min xa xb,max xa xb)::js'.drop (n%((i:Int)+1)).toNat,_,_,_,_,rfl,fi.upd (S4.trans ((eW n0).trans (eW n1))) nt,eX,?_,?_,?_⟩
   ·exact Ps.ins (x:=(min xa xb,max xa xb)) _ (D.same ((eW n0).trans (eW n1))) ht5 eX
   ·rw[pm.length_eq,aY,C8]
   ·rw[bG,e1,ax]
    refine pm.trans ?_
    show((min xa xb,max xa xb)::js').Perm ((js.take i).map (rj es) ++ [rj es (ea,eb')])
    rw[hrj]
    exact(jb.cons _).trans (List.perm_append_singleton _ _).symm
  rintro σ H4 ⟨vs,js',x9,x10,x11,x12,rfl,S4,ht4,D,C8,jb⟩
  refine⟨_,rfl,_,rfl,by show 2<=sizeLine;decide,λp np=>?_⟩
  have S5:=(eW (o:=.tup [.int m,.ref t]) np)
  rw[hul,bC]at jb
  exact k _ js' nm es _ (s1.trans (S3.trans (S4.trans S5))) (oS eX ((D.same S5).da (S5 _ _ ht4))) R jb
end
def wU (K:PySem.W.Frag):Sp:=λvs H Q _=>∃ (a:Addr) (ns:List Int),vs = [.ref a]/\SqL K H a (ns.map V.int)/\KR K H Q
abbrev lh:Stmt:=top 36
theorem gA:fH ["_law_script","_law_cell","_law_many","_law_joints","_law_k","_law_number","_law_one","_law_other_here"] ["_law_script"] (fj lh):=⟨rfl,rfl,rfl,by decide +kernel,rfl,by decide +kernel,by decide +kernel⟩
section
variable {P:Program}{w:World}{K:PySem.W.Frag}{mg:Str->Option Value}{base:Heap}{f:Addr}{fd:FuncData}
theorem uP {f1 f2 f3 f4:Addr}{fd1 fd2 fd3 fd4:FuncData}(F:Fn K mg "_law_line" lh ["_law_script"] f fd)(fx:Fn K mg "_law_mix" kC ["_law_cell","_law_k"] f1 fd1)(fO:Fn K mg "_law_cell_at" jm ["_law_script","_law_k"] f2 fd2)
  (ft:Fn K mg "_law_other" ie ["_law_end"] f3 fd3) (hX:Fn K mg "_law_renamed" jk ["_law_line_here","_law_cell"] f4 fd4) (kr:fE P w K mg base CX0 2 f4 fd4 ["_law_line_here","_law_cell"] (qc K))
  (B:Bl mg):fE P w K mg base CX0 3 f fd ["_law_script"] (wU K):=by
 have hV:fE P w K mg base CX0 1 f1 fd1 ["_law_cell","_law_k"] vO:=qz fx B
 have kx:fE P w K mg base CX0 1 f2 fd2 ["_law_script","_law_k"] (wY K):=qA fO B
 have gU:fE P w K mg base CX0 1 f3 fd3 ["_law_end"] iQ:=jK ft
 refine F.F.ok gA (λvs H Q E h=>?_) (λcdv A outer s H vs Q E hr h=>?_)
 ·obtain⟨a,ns,rfl,_⟩:=h;rfl
 ·obtain⟨a,ns,rfl,hS,k⟩:=h
  refine⟨_,(eZ (fw (i:=1) gA.nd rfl (Or.inl rfl) (fq kx (hr.mono (by decide)) rfl fO.m fO.F.kp fO.b .nil fR (eV (pv 0) (eV fg eY))))
 (eZ (fw (i:=2) gA.nd rfl (Or.inl rfl) (fu gZ fg (fu gY (fq hV (hr.mono (by decide)) rfl fx.m fx.F.kp fx.b .nil fR (eV (pv 1) (eV fg eY))) fg)))
 (eZ (gO (fX (j8 (fu gY (fq hV (hr.mono (by decide)) rfl fx.m fx.F.kp fx.b .nil fR (eV (pv 1) (eV fg eY))) fg) fg))
 (fh (fw (i:=2) gA.nd rfl (Or.inl rfl) (fu gZ fg (fu gY (fq hV (hr.mono (by decide)) rfl fx.m fx.F.kp fx.b .nil fR (eV (pv 1) (eV fg eY))) fg)))) fP)
 (eZ (fw (i:=3) gA.nd rfl (Or.inl rfl) (gu eY))
 (eZ (gQ bz rfl (jQ rfl B.range (eV (fu gY (fq hV (hr.mono (by decide)) rfl fx.m fx.F.kp fx.b .nil fR (eV (pv 1) (eV fg eY))) (fu gZ (fu i6 fg (pv 2)) fg)) eY)) (fm (i:=4) gA.nd rfl (Or.inl rfl))
 (eZ (fw (i:=5) gA.nd rfl (Or.inl rfl) (fq hV (hr.mono (by decide)) rfl fx.m fx.F.kp fx.b .nil fR (eV (fq kx (hr.mono (by decide)) rfl fO.m fO.F.kp fO.b .nil fR (eV (pv 0) (eV (fu gZ fg (fu gY (pv 4) fg)) eY))) (eV (fu gZ fg (pv 4)) eY))))
 (eZ (fw (i:=6) gA.nd rfl (Or.inl rfl) (fu gY (pv 5) (fu i6 fg (pv 2))))
 (eZ (fw (i:=7) gA.nd rfl (Or.inl rfl) (fu gY (fu iC (pv 5) fg) (fu i6 fg (pv 2))))
 (eZ (gO (PW.pt (vR (fX (j8 (fu gY (fq hV (hr.mono (by decide)) rfl fx.m fx.F.kp fx.b .nil fR (eV (pv 1) (eV fg eY))) fg) fg)) (w5 (fX (j8 (fu gY (pv 6) fg) (fu gY (pv 7) fg))))))
 (fh (fw (i:=7) gA.nd rfl (Or.inl rfl) (fq gU (hr.mono (by decide)) rfl ft.m ft.F.kp ft.b .nil fR (eV (pv 7) eY)))) fP)
 (fh (gO (PW.pt (vR (fX (CI (fu iC (pv 6) fg) (fu iC (pv 7) fg))) (vR (jq (kG hr.units) (gG (eV (fC (oU rfl) rfl B.min boot_min (eV (pv 6) (eV (pv 7) eY))) (eV (fC (oV rfl) rfl B.max boot_max (eV (pv 6) (eV (pv 7) eY))) eY))) (pv 3) (by with_unfolding_all rfl)) (w5 (fX (uJ (fC gc rfl B.len dY (eV (pv 3) eY)) fg))))))
 (fh (gX (jB aL bh bg gC (pv 3) (eV (gG (eV (fC (oU rfl) rfl B.min boot_min (eV (pv 6) (eV (pv 7) eY))) (eV (fC (oV rfl) rfl B.max boot_max (eV (pv 6) (eV (pv 7) eY))) eY))) eY)))) fP)))))))
 (fh (fI (fq kr (hr.mono (by decide)) rfl hX.m hX.F.kp hX.b .nil fR (eV (gG (eV (pv 2) (eV (pv 3) eY))) (eV (fq kx (hr.mono (by decide)) rfl fO.m fO.F.kp fO.b .nil fR (eV (pv 0) (eV fg eY))) eY)))))))))),?_⟩
  refine⟨_,rfl,a,ns,0,rfl,hS,by decide,λcell=>?_⟩
  refine⟨_,rfl,cell,0,rfl,by decide,by decide,λn1 _ _=>⟨_,_,rfl,rfl,(by show(0:Int)<_;decide),_,_,rfl,rfl,?_⟩⟩
  dsimp only[ni]
  refine cut (λσ H'=>H'=H/\∃ m,1<=m/\m<=14/\σ = [some (.ref a),some (.int cell),some (.int m),none,none,none,none,none]) (λN R B C kN kR=>?_) ?_
  ·refine⟨_,rfl,cell,1,rfl,by decide,by decide,λn2 _ _=>⟨_,_,rfl,rfl,(by show(0:Int)<_;decide),_,_,rfl,rfl,_,rfl,gN (λ_=>?_) (λ_=>kN _ _ ⟨rfl,1+n1%8,by omega,by omega,rfl⟩)⟩⟩
   exact⟨_,rfl,cell,0,rfl,by decide,by decide,λn3 _ _=>⟨_,_,rfl,rfl,(by show(0:Int)<_;decide),_,_,rfl,rfl,kN _ _ ⟨rfl,9+n3%6,by omega,by omega,rfl⟩⟩⟩
  rintro σ H0 ⟨e,m,m1,m2,rfl⟩
  rw[e]
  clear e
  refine⟨aW _,λt nt=>?_⟩
  refine⟨_,rfl,cell,2,rfl,by decide,by decide,λn4 n40 _=>⟨_,rfl,_,_,rfl,rfl,.inl ⟨by decide,by decide⟩,_,_,rfl,rfl,_,_,rfl,rfl,(by show(0:Int)<2*m+4;omega),?_⟩⟩
  have q0:0<=n4%(2*m+4):=d8 _ (by omega)
  have q1:n4%(2*m+4)<2*m+4:=dC _ (by omega)
  refine⟨_,rfl,by show -(2 ^ 62)<=n4%(2*m+4);omega,by show n4%(2*m+4)<2 ^ 62;omega,i9 (λi σ H3=>∃ (vs:List V) (js:List (Int×Int)) (x4 x5 x6 x7:Option V),σ = [some (.ref a),some (.int cell),some (.int m),some (.ref t),x4,x5,x6,x7]/\fi H H3/\H3 t=some (.lst vs)/\Ps K H3 js vs/\gm (m,js))
   ⟨[],[],none,none,none,none,rfl,eW nt,eX,gJ.mpr rfl,⟨m1,m2,aW _,λp hp=>(nomatch hp),List.nodup_nil⟩⟩ ?_ ?_⟩
  ·rintro i σ H3 N R B kN _ hi ⟨vs,js,x4,x5,x6,x7,rfl,S3,ht3,D,G⟩
   have i0:(0:Int)+(i:Nat)=(i:Int):=by omega
   rw[i0]
   have hi':(i:Int)<32:=by
    have:(i:Int)<n4%(2*m+4):=by
     have h:i<(n4%(2*m+4)).toNat:=hi
     omega
    omega
   refine⟨_,rfl,_,rfl,_,_,rfl,rfl,(by show(0:Int)<_;decide),_,_,rfl,rfl,a,ns,_,rfl,S3.seq hS,by show(0:Int)<=2+(i:Int)%8;omega,λc5=>⟨_,rfl,_,_,rfl,rfl,c5,_,rfl,by show(0:Int)<=10+(i:Int);omega,by show 10+(i:Int)<=1000;omega,λn5 n50 n51=>?_⟩⟩
   refine⟨_,rfl,_,rfl,_,_,rfl,rfl,.inl ⟨by decide,by decide⟩,_,_,rfl,rfl,(by show(0:Int)<2*m;omega),?_⟩
   refine⟨_,rfl,_,_,rfl,rfl,⟨by decide,by decide⟩,_,rfl,_,_,rfl,rfl,.inl ⟨by decide,by decide⟩,_,_,rfl,rfl,(by show(0:Int)<2*m;omega),?_⟩
   dsimp only
   have o0:0<=n5%(2*m):=d8 _ (by omega)
   have o1:n5%(2*m)<2*m:=dC _ (by omega)
   have r0:0<=n5/64%(2*m):=d8 _ (by omega)
   have r1:n5/64%(2*m)<2*m:=dC _ (by omega)
   generalize n5%(2*m)=one at o0 o1
   generalize n5/64%(2*m)=oh at r0 r1
   dsimp only[ni]
   refine cut (λσ H'=>H'=H3/\∃ oh',0<=oh'/\oh'<2*m/\σ = [some (.ref a),some (.int cell),some (.int m),some (.ref t),some (.int (i:Int)),some (.int n5),some (.int one),some (.int oh')]) (λN2 R2 B2 C2 k2 _=>?_) ?_
   ·refine⟨_,rfl,cell,3,rfl,by decide,by decide,λn6 _ _=>⟨_,_,rfl,rfl,(by show(0:Int)<_;decide),_,_,rfl,rfl,_,rfl,gN (λ_=>?_) (λ_=>pF (k2 _ _ ⟨rfl,oh,r0,r1,rfl⟩))⟩⟩
    refine⟨_,rfl,_,_,rfl,rfl,(by show(0:Int)<_;decide),_,rfl,_,_,rfl,rfl,(by show(0:Int)<_;decide),_,_,rfl,rfl,_,rfl,gN (λ_=>?_) (λ_=>k2 _ _ ⟨rfl,oh,r0,r1,rfl⟩)⟩
    exact⟨_,rfl,oh,rfl,k2 _ _ ⟨rfl,oth oh,vS r0,by unfold oth;omega,rfl⟩⟩
   rintro σ H0 ⟨e,oh',r0',r1',rfl⟩
   rw[e]
   clear e r0 r1
   refine⟨_,rfl,_,_,rfl,rfl,⟨by decide,by decide⟩,_,rfl,_,_,rfl,rfl,⟨by decide,by decide⟩,_,_,rfl,rfl,_,rfl,?_⟩
   refine gN (λhne=>?_) (λ_=>pF (kN _ _ ⟨vs,js,_,_,_,_,rfl,S3,ht3,D,G⟩))
   refine⟨_,rfl,_,rfl,_,_,rfl,_,rfl,_,rfl,_,_,rfl,by show 2<=sizeLine;decide,λp1 n1=>?_⟩
   rw[v9,wc]
   have ht4:=(eW (o:=.tup [.int (min one oh'),.int (max one oh')]) n1) _ _ ht3
   have D4:=D.same (eW (o:=.tup [.int (min one oh'),.int (max one oh')]) n1)
   refine⟨_,rfl,_,_,D4.da ht4,hJ.mpr ⟨p1,_,rfl,SqT.of eX,Dgs.two (ik.mpr rfl) (ik.mpr rfl)⟩,CN js,Ey (_,_),_,rfl,?_⟩
   refine gN (λhni=>?_) (λ_=>pF (kN _ _ ⟨vs,js,_,_,_,_,rfl,S3.trans (eW n1),ht4,D4,G⟩))
   refine⟨_,rfl,t,_,rfl,.inl (SqL.of ht4),_,_,rfl,rfl,_,rfl,?_⟩
   refine gN (λhlt=>?_) (λ_=>kN _ _ ⟨vs,js,_,_,_,_,rfl,S3.trans (eW n1),ht4,D4,G⟩)
   have hlt:(vs.length:Int)<24:=by simpa using hlt
   have vl:=D.len
   refine⟨_,rfl,.inl ⟨rfl,_,SqL.of ht4⟩,_,rfl,_,rfl,_,_,rfl,_,rfl,_,rfl,_,_,rfl,by show 2<=sizeLine;decide,λp2 n2=>?_⟩
   rw[v9,wc]
   have S5:=(eW n1).trans (eW (o:=.tup [.int (min one oh'),.int (max one oh')]) n2)
   refine⟨t,vs,_,rfl,rfl,S5 _ _ ht3,kh (by omega),?_⟩
   refine kN _ _ ⟨_,js ++ [(min one oh',max one oh')],_,_,_,_,rfl,fi.upd (S3.trans S5) nt,eX,Ps.push (x:=(min one oh',max one oh')) (D.same S5) (S5 _ _ ht3) eX,?_⟩
   have IU:(min one oh',max one oh')∉js:=λz=>by
    have e:=Fw js (min one oh',max one oh')
    unfold dP at e
    dsimp only at e
    unfold dP at hni
    rw[e]at hni
    simp[z]at hni
   have IV:one/2≠oh'/2:=by simpa using hne
   exact wz G IV o0 o1 r0' r1' IU (by omega)
  ·rintro σ H3 ⟨vs,js,x4,x5,x6,x7,rfl,S3,ht3,D,G⟩
   refine⟨_,rfl,_,rfl,by show 2<=sizeLine;decide,λp np=>?_⟩
   have S4:=eW (o:=.tup [.int m,.ref t]) np
   refine⟨_,rfl,a,ns,1,rfl,(S3.trans S4).seq hS,by decide,λc7=>?_⟩
   refine⟨_,(m,js),c7,rfl,oS eX ((D.same S4).da (S4 _ _ ht3)),G,λv' js' nm es H' s5 d5 R pm=>k v' (m,js') H' (S3.trans (S4.trans s5)) d5 (R.line G pm)⟩
end
structure Cn (mg:Str->Option Value)(tk:Tok):Prop where
 pC:mg "MOST_TRAINS" = some (.int 300 tk)
structure LsW (H0 H:Hp)(q:Addr)(as:List Addr)(ts:List (List Int)):Prop where
 at_:H q=some (.lst (as.map V.ref))
 len:as.length=ts.length
 each:∀ (i:Nat) a t,as[i]? = some a->ts[i]? = some t->H0 a=none/\a≠q/\H a=some (.lst (t.map V.int))
theorem LsW.same {H0 H H':Hp}{q:Addr}{as:List Addr}{ts:List (List Int)}(h:LsW H0 H q as ts)(s:fi H H'):LsW H0 H' q as ts:=
 ⟨s _ _ h.at_,h.len,λi a t h1 h2=>⟨(h.each i a t h1 h2).1,(h.each i a t h1 h2).2.1,s _ _ (h.each i a t h1 h2).2.2⟩⟩
def Bes (H0 H:Hp)(p q:Addr)(as:List Addr)(ts:List (List Int)):Prop:=as.length=ts.length/\∀ (i:Nat) a t,as[i]? = some a->ts[i]? = some t->H0 a=none/\a≠p/\a≠q/\H a=some (.lst (t.map V.int))
theorem Bes.same {H0 H H':Hp}{p q:Addr}{as:List Addr}{ts:List (List Int)}(h:Bes H0 H p q as ts)(s:fi H H'):Bes H0 H' p q as ts:=
 ⟨h.1,λi a t h1 h2=>by obtain⟨a1,a2,a3,a4⟩:=h.2 i a t h1 h2;exact⟨a1,a2,a3,s _ _ a4⟩⟩
theorem Bes.D5 {H0 H:Hp}{p q:Addr}{as:List Addr}{ts:List (List Int)}{o:HO}(h:Bes H0 H p q as ts):Bes H0 (upd H p o) p q as ts:=
 ⟨h.1,λi a t h1 h2=>by obtain⟨a1,a2,a3,a4⟩:=h.2 i a t h1 h2;exact⟨a1,a2,a3,by rw[fc a2];exact a4⟩⟩
theorem Bes.AG {H0 H:Hp}{p q:Addr}{as:List Addr}{ts:List (List Int)}{o:HO}(h:Bes H0 H p q as ts):Bes H0 (upd H q o) p q as ts:=
 ⟨h.1,λi a t h1 h2=>by obtain⟨a1,a2,a3,a4⟩:=h.2 i a t h1 h2;exact⟨a1,a2,a3,by rw[fc a3];exact a4⟩⟩
theorem Bes.app {H0 H:Hp}{p q:Addr}{as bs:List Addr}{ts us:List (List Int)}(h:Bes H0 H p q as ts)(k:Bes H0 H p q bs us):Bes H0 H p q (as++bs) (ts++us):=by
 refine⟨by rw[ah,ah,h.1,k.1],λi a t h1 h2=>?_⟩
 by_cases c:i<as.length
 ·rw[ak c]at h1
  rw[ak (by rw[<-h.1];exact c)]at h2
  exact h.2 i a t h1 h2
 ·rw[az (by omega)]at h1
  rw[az (by rw[<-h.1];omega),<-h.1]at h2
  exact k.2 _ a t h1 h2
theorem Bes.drop {H0 H:Hp}{p q:Addr}{as:List Addr}{ts:List (List Int)}(h:Bes H0 H p q as ts):Bes H0 H p q as.dropLast ts.dropLast:=by
 refine⟨by rw[cw,cw,h.1],λi a t h1 h2=>?_⟩
 rw[dE]at h1 h2
 split at h1
 ·split at h2
  ·exact h.2 i a t h1 h2
  ·cases h2
 ·cases h1
def rD (H0:Hp)(p q:Addr)(H:Hp)(t:List Int)(v:V):Prop:=∃ a,v = .ref a/\H0 a=none/\a≠p/\a≠q/\H a=some (.lst (t.map V.int))
theorem rD.mono {H0:Hp}{p q:Addr}{H H':Hp}(t:List Int)(v:V)(s:fi H H')(h:rD H0 p q H t v):rD H0 p q H' t v:=by
 obtain⟨a,h1,h2,h3,h4,h5⟩:=h
 exact⟨a,h1,h2,h3,h4,s _ _ h5⟩
theorem tZ {H0:Hp}{p q:Addr}{H:Hp} :∀ {ts:List (List Int)}{vs:List V},Pw (rD H0 p q H) ts vs->∃ as,vs=as.map V.ref/\Bes H0 H p q as ts
 |[],[],_=>⟨[],rfl,rfl,λi a t h=>by simp at h⟩
 |t::ts,v::vs,h=>by
  obtain⟨a,rfl,h2,h3,h4,h5⟩:=h.1
  obtain⟨as,rfl,hb⟩:=tZ h.2
  refine⟨a::as,rfl,Bes.app (as:=[a]) (ts:=[t]) ⟨rfl,λi b u h1 h2'=>?_⟩ hb⟩
  match i,h1,h2' with
  | 0,h1,h2'=>cases h1;cases h2';exact⟨h2,h3,h4,h5⟩
def nodes (l:Ln):Nat->List Int->Nat
 | 0,_=>1
 |d+1,t=>1+((gr l t).map (nodes l d)).sum
def msz (l:Ln)(n:Nat)(ws:List (List Int)):Nat:=(ws.map λt=>nodes l (n-t.length) t).sum
theorem nG {α β:Type}{f g:α->List β} :∀ {l:List α},(∀ x∈l,f x=g x)->l.flatMap f=l.flatMap g
 |[],_=>rfl
 |x::l,h=>by rw[cG,cG,h x ar,nG λy hy=>h y (aC _ hy)]
theorem wO (a b:List Nat):(a++b).sum=a.sum+b.sum:=List.sum_append_nat ..
theorem uc {c:TT}{tb:TS}{D:Ends}{σ:L2.St}{H:Hp}(W:Nat->L2.St->Hp->Prop){m0:Nat}(h0:W m0 σ H)
  (hs:∀ m σ H (N:L2.St->Hp->Prop) (R:VK) (B:L2.St->Hp->Prop),(∀ m' σ' H',m'<m->W m' σ' H'->N σ' H')->(∀ v H',D.rt v H'->R v H')->(∀ σ' H',D.nx σ' H'->B σ' H')->W m σ H->c σ H λb H1=>if b=true then tb ⟨N,R,B,N⟩ σ H1 else B σ H1)
  (mono:∀ σ H Q Q',(∀ b H1,Q b H1->Q' b H1)->c σ H Q->c σ H Q'):oC c tb D σ H:=by
 refine⟨W,⟨m0,h0⟩,λm σ H w=>mono _ _ _ _ (λb H1 q=>?_) (hs m σ H (λσ' H'=>∃ m',m'<m/\W m' σ' H') D.rt D.nx (λm' σ' H' a b=>⟨m',a,b⟩) (λ_ _ z=>z) (λ_ _ z=>z) w)⟩
 by_cases e:b=true
 ·rw[aD e]at q ⊢
  exact⟨_,λ_ _ z=>z,q⟩
 ·rw[au e]at q ⊢
  exact q
def rM (K:PySem.W.Frag)(C:Addr):Sp:=λvs H Q E=>∃ (v:V) (l:Ln) (n:Nat),vs = [v,.int (n:Int)]/\Da K H (dL l) v/\fk l/\1<=n/\n<=6/\
 ((fv l (n-1)).length<=300->∀ p as H',fi H H'->H p=none->LsW H H' p as (fv l (n-1))->Q (.ref p) H')/\
 (300<(fv l (n-1)).length->∀ H',fi H H'->∀ e,H' e=none->E (.ref C) (some e) H')
def wX (K:PySem.W.Frag):Sp:=λvs H Q _=>∃ (v u:V) (l:Ln) (ns:List Int),vs = [v,u]/\Da K H (dL l) v/\Da K H (dI ns) u/\fk l/\ns≠ []/\ns.length<=900/\gi l ns/\(∀ i,(fy l ns i).length<=300)/\
 ∀ i q bs H',(fy l ns i).length=i->sN H H' q bs ((fy l ns i).map (·.1))->Q (.ref q) H'
abbrev iI:Stmt:=top 25
theorem iR:fH ["line","length","found","waiting","train","ends"] ["line","length"] (fj iI):=⟨rfl,rfl,rfl,by decide +kernel,rfl,by decide +kernel,by decide +kernel⟩
theorem lZ:gv (fj iI) ["line","length","found","waiting","train","ends"] {kind:=.function,names:=[(Str.ofString ".0",.local),(Str.ofString "end",.local)],isGenerator:=false,isCoroutine:=false,more:=[]} ["end"] 1 [none]:=⟨rfl,by decide +kernel,by decide +kernel,by decide +kernel,rfl,by decide +kernel,rfl,by decide +kernel⟩
theorem lY:gv (fj iI) ["line","length","found","waiting","train","ends"] {kind:=.function,names:=[(Str.ofString ".0",.local),(Str.ofString "end",.local),(Str.ofString "train",.free)],isGenerator:=false,isCoroutine:=false,more:=[]} ["end","train"] 1 [none,some 4]:=⟨rfl,by decide +kernel,by decide +kernel,by decide +kernel,rfl,by decide +kernel,rfl,by decide +kernel⟩
abbrev mP:Stmt:=top 21
theorem vQ:fH ["line","train"] ["line","train"] (fj mP):=⟨rfl,rfl,rfl,by decide +kernel,rfl,by decide +kernel,by decide +kernel⟩
abbrev jw:Stmt:=top 38
theorem sV:fH ["_law_train"] ["_law_train"] (fj jw):=⟨rfl,rfl,rfl,by decide +kernel,rfl,by decide +kernel,by decide +kernel⟩
theorem l0:gv (fj jw) ["_law_train"] {kind:=.function,names:=[(Str.ofString ".0",.local),(Str.ofString "_law_end",.local),(Str.ofString "_law_other",.globalImplicit)],isGenerator:=false,isCoroutine:=false,more:=[]} ["_law_end"] 1 [none]:=⟨rfl,by decide +kernel,by decide +kernel,by decide +kernel,rfl,by decide +kernel,rfl,by decide +kernel⟩
section
variable {P:Program}{w:World}{K:PySem.W.Frag}{mg:Str->Option Value}{base:Heap}{f:Addr}{fd:FuncData}{c5:Addr}{tk:Tok}
theorem tu {f1 f2:Addr}{fd1 fd2:FuncData}(F:Fn K mg "trains_of" iI ["line","length"] f fd)(B:Bm mg)(C:Cn mg tk)(XS:Xt K mg c5)
  (fS:Fn K mg "free_ends" ig ["line","train","end"] f1 fd1) (iq:fE P w K mg base CX0 2 f1 fd1 ["line","train","end"] (sS K))
  (fD:Fn K mg "other_end" iJ ["end"] f2 fd2):fE P w K mg base (CXr P w base) 3 f fd ["line","length"] (rM K c5):=by
 have iK:fE P w K mg base CX0 1 f2 fd2 ["end"] iQ:=lr fD
 refine F.F.okX iR (λvs H Q E h=>?_) (λcdv A outer s H vs Q E hr h=>?_)
 ·obtain⟨v,l,n,rfl,_⟩:=h;rfl
 ·obtain⟨v,l,n,rfl,hv,ok,n1,n6,kq,ke⟩:=h
  obtain⟨a,b,rfl,ht,us,hl,hq⟩:=mY hv
  have o1:=ok.one
  have o40:=ok.most
  refine⟨_,(eZ (fw (i:=2) iR.nd rfl (Or.inl rfl) (gu eY))
 (eZ (qo (i:=3) iR.nd rfl rfl (A0 rfl rfl B.reversed (eV (gf yB rfl B.range boot_range (eV (fu i6 fg (gh jE (pv 0) fg (λ_ _=>rfl))) eY)) eY)) rfl lZ (.name (by decide)) (λ_ _ _ _=>(fm (i:=0) lZ.nd rfl (Or.inl rfl))) (λ_ _ _ _=>iz) (λ_ _ _ _=>(gu (eV (pv 0) eY))))
 (eZ (nV cJ (zd (pv 3) (λ_=>rfl))
 (eZ (fw (i:=4) iR.nd rfl (Or.inr rfl) (CH aL PySem.F.slot_list_pop PySem.F.type_list_pop CQ (pv 3)))
 (fh (gO (fX (uJ (fC gc rfl B.len dY (eV (pv 4) eY)) (pv 1)))
 (eZ (fw (i:=5) iR.nd rfl (Or.inl rfl) (fq iq (hr.mono (by decide)) rfl fS.m fS.F.kp fS.b .nil fR (eV (pv 0) (eV (pv 4) (eV (fq iK (hr.mono (by decide)) rfl fD.m fD.F.kp fD.b .nil fR (eV (gh fV (pv 4) (qr nk fg) (λ_ _=>rfl)) eY)) eY)))))
 (fh (gX (jB aL PySem.F.slot_list_extend PySem.F.type_list_extend yg (pv 3) (eV (m8 (zk rfl B.reversed (eV (pv 5) eY)) rfl lY (.name (by decide)) (λ_ _ _ _=>(fm (i:=0) lY.nd rfl (Or.inl rfl))) (λ_ _ _ _=>iz) (λ_ _ _ _=>(fu kn (pv 1) (gu (eV (pv 0) eY))))) eY))))) (fh (gO (fX (j8 (fC gc rfl B.len dY (eV (pv 4) eY)) (pv 1)))
 (eZ (gO (fX (j8 (fC gc rfl B.len dY (eV (pv 2) eY)) (jr (v:=.int 300) rfl C.pC ⟨_,rfl⟩)))
 (fh (uE rX rfl rfl XS.km.m XS.km.q PySem.F.excBase_ValueError (eV (uG (i:=300) rfl C.pC ⟨_,rfl⟩ (by decide) (by decide)) eY))) fP)
 (fh (gX (jB aL bh bg gC (pv 2) (eV (pv 4) eY))))) fP))))))
 (fh (fI (pv 2)))))),?_⟩
  refine⟨aW _,λfd nfd=>?_⟩
  have s1:=eW (o:=.lst []) nfd
  have hfd:=eX (H:=H) (a:=fd) (o:=.lst [])
  generalize upd H fd _=H1 at s1 hfd ⊢
  refine⟨_,rfl,a,_,_,_,rfl,rfl,gj s1 ht,rfl,_,_,rfl,rfl,.inl ⟨by decide,by decide⟩,_,rfl,λrg nrg=>?_⟩
  have s2:=eW (o:=.rng 0 (2*l.1)) nrg
  refine⟨rg,_,rfl,eX,by omega,by omega,λwt nwt=>?_⟩
  have hfd:=s2 _ _ hfd
  have S2:=s1.trans s2
  generalize upd H1 rg _=H2 at s2 hfd S2 nwt ⊢
  have DC:fd≠wt:=fb hfd nwt
  have EB:=fi.free S2 nwt
  have ol:(nD l.1).length=(2*l.1).toNat:=by unfold nD;rw[aa,uA]
  refine xj (2*l.1).toNat (nD l.1).reverse (rD H fd wt) (λt v=>rD.mono t v) nwt (by rw[aP,ol]) (fG (by omega)) (λi G s hi=>hi) (λG s=>aq _) ?_ ?_
  ·rintro i x d G G' sG ⟨us',hus⟩ ⟨rfl,rfl⟩ hd P1 P0 k1
   have hi:i<(2*l.1).toNat:=by
    have:=(af.mp hd).1
    rw[aP,ol]at this
    exact this
   have ed:d = [2*l.1-1+(i:Int) * -1]:=by
    rw[cD (by omega),ol]at hd
    unfold nD at hd
    rw[aj,uB (by omega)]at hd
    have hd:[(0:Int)+(((2*l.1).toNat-1-i:Nat):Int)]=d:=by simpa using hd
    rw[<-hd]
    congr 1
    omega
   refine iA ?_
   refine⟨_,rfl,by show 1<=sizeLine;decide,λp np=>?_⟩
   refine k1 _ _ (eW np) ⟨p,rfl,fi.free (S2.trans sG) np,(fb (sG _ _ hfd) np).symm,(fb hus np).symm,?_⟩
   rw[gz (fb hus np).symm,eX,ed];rfl
  intro vs H3 s3 hwt PW
  obtain⟨FF,rfl,BW⟩:=tZ PW
  have BW:=BW.same gI
  have Jb:=s3 _ _ hfd
  have S3:=S2.trans s3
  have ex0:∀ t∈nD l.1,t.length=1:=λt h=>by
   obtain⟨e,_,rfl⟩:=ao.mp h
   rfl
  dsimp only[ni]
  show oC _ _ _ _ _
  refine uc (λm σ G=>∃ (was fas:List Addr) (ws fs:List (List Int)) (x4 x5:Option V),σ = [some (.ref a),some (.int (n:Int)),some (.ref fd),some (.ref wt),x4,x5]/\fi H G/\G fd=some (.lst (fas.map V.ref))/\G wt=some (.lst (was.map V.ref))/\Bes H G fd wt was ws/\Bes H G fd wt fas fs/\
    fs++ws.reverse.flatMap (λt=>exF l (n-t.length) t)=fv l (n-1)/\fs.length<=300/\(∀ (i:Nat) t,ws[i]? = some t->i<160*t.length/\1<=t.length/\t.length<=n)/\m=msz l n ws)
   ⟨FF,[],(nD l.1).reverse,[],none,none,rfl,S3,Jb,hwt,BW,⟨rfl,λi a t h=>by simp at h⟩,?_,by simp,λi t hi=>?_,rfl⟩ ?_ ?_
  ·rw[List.nil_append,List.reverse_reverse,An]
   refine nG λt ht=>?_
   rw[ex0 t ht]
  ·have h1:=ex0 t (cL.mp (aG hi))
   have h2:=(af.mp hi).1
   rw[aP,ol]at h2
   omega
  ·rintro m σ G N R Bq kN kR kB ⟨was,fas,ws,fs,x4,x5,rfl,S4,E7,Di,BW,BF,EQ,f3,PS,rfl⟩
   refine⟨_,rfl,!(was.map V.ref).isEmpty,.inl ⟨_,SqL.of Di,rfl⟩,?_⟩
   have bl:=BW.1
   by_cases em:ws = []
   ·subst em
    have wn:was = []:=List.eq_nil_of_length_eq_zero (by rw[bl];rfl)
    subst wn
    refine gN (λz=>absurd z (by decide)) (λ_=>kB _ _ ?_)
    have EQ:fs=fv l (n-1):=by simpa using EQ
    subst EQ
    refine⟨_,rfl,kq f3 fd fas G S4 nfd ⟨E7,BF.1,λi a t h1 h2=>?_⟩⟩
    obtain⟨a1,a2,a3,a4⟩:=BF.2 i a t h1 h2
    exact⟨a1,a2,a4⟩
   ·have wl:1<=ws.length:=by cases ws with |nil=>exact absurd rfl em |cons x r=>simp
    have lst:ws[ws.length-1]? = some (ws.getLast em):=by rw[<-df,List.getLast?_eq_some_getLast em]
    have lsw:was[ws.length-1]? = some was[ws.length-1]:=ae (by omega)
    obtain⟨ps1,ps2,ps3⟩:=PS _ _ lst
    obtain⟨b1,b2,b3,b4⟩:=BW.2 _ _ _ lsw lst
    have wd:ws=ws.dropLast ++ [ws.getLast em]:=(bW em).symm
    generalize was[ws.length-1]=ta at lsw b1 b2 b3 b4
    generalize ws.getLast em=t at lst ps1 ps2 ps3 b4 wd
    have tne:t≠ []:=λz=>by rw[z]at ps2;simp at ps2
    have rv:ws.reverse=t::ws.dropLast.reverse:=by
     conv=>lhs;rw[wd]
     rw[bO];rfl
    refine gN (λ_=>?_) (λz=>absurd (by cases was with |nil=>rw[<-bl]at wl;simp at wl |cons x r=>rfl) z)
    refine⟨_,rfl,.inl ⟨rfl,_,SqL.of Di⟩,wt,_,V.ref ta,rfl,rfl,Di,by rw[aa,bl,aj,lsw];rfl,?_⟩
    have S5:=fi.upd (o:=.lst (was.map V.ref).dropLast) S4 EB
    have zY:upd G wt (.lst (was.map V.ref).dropLast) fd=some (.lst (fas.map V.ref)):=by rw[fc DC];exact E7
    have Dh:upd G wt (.lst (was.map V.ref).dropLast) wt=some (.lst (was.dropLast.map V.ref)):=by rw[eX,List.map_dropLast]
    have BW5:=(BW.AG (o:=.lst (was.map V.ref).dropLast)).drop
    have BF5:=BF.AG (o:=.lst (was.map V.ref).dropLast)
    have ht5:upd G wt (.lst (was.map V.ref).dropLast) ta=some (.lst (t.map V.int)):=by rw[fc b3];exact b4
    generalize upd G wt (.lst (was.map V.ref).dropLast)=G5 at S5 zY Dh BW5 BF5 ht5 ⊢
    have PS5:∀ (i:Nat) u,ws.dropLast[i]? = some u->i<160*u.length/\1<=u.length/\u.length<=n:=λi u h=>by
     rw[dE]at h
     split at h
     ·exact PS i u h
     ·cases h
    have dl:ws.dropLast.length=ws.length-1:=cw
    have MZ:msz l n ws=msz l n ws.dropLast+nodes l (n-t.length) t:=by
     conv=>lhs;rw[wd]
     unfold msz
     rw[ax,wO];rfl
    rw[rv,cG]at EQ
    refine⟨_,rfl,ta,_,rfl,.inl (SqL.of ht5),_,rfl,_,_,rfl,rfl,_,rfl,gN (λc=>?_) (λc=>?_)⟩
    ·-- it grows
     have c:((t.map V.int).length:Int)<(n:Int):=by simpa using c
     rw[aa]at c
     obtain⟨d,hd⟩:∃ d,n-t.length=d+1:=⟨n-t.length-1,by omega⟩
     refine⟨_,rfl,_,rfl,_,rfl,_,rfl,ta,_,_,_,rfl,rfl,SqL.of ht5,pW tne,_,rfl,_,_,l,t,_,rfl,Da.same S5 hv,jc ht5,ok,by omega,λpe G6 s6 npe hpe=>?_⟩
     have fl:=qL ok t (oth (t.getLastD 0))
     have Df:=s6 _ _ Dh
     have E6:=s6 _ _ zY
     have ht6:=s6 _ _ ht5
     refine⟨_,rfl,.inl ⟨rfl,_,SqL.of Df⟩,_,rfl,pe,_,rfl,SqL.of hpe,λpl npl=>?_⟩
     have JR:=zO (SqL.of (K:=K) hpe)
     have el:((fr l t (oth (t.getLastD 0))).map V.int).length=(gr l t).length:=by unfold gr;rw[aa,aa]
     refine xj (gr l t).length (gr l t).reverse (rD H fd wt) (λt v=>rD.mono t v) npl (by rw[aP]) (fG (by have:=Ad ok t;omega)) (λi G s hi=>JR.go i G s (by omega)) (λG s=>el.symm) ?_ ?_
     ·rintro i x u G7 G8 s7 ⟨us',hus⟩ y hd' P1 P0 k1
      have hi:i<(gr l t).length:=by
       have:=(af.mp hd').1
       rw[aP]at this
       exact this
      obtain⟨rfl,hx⟩:=JR.yld i G7 x G8 s7 (by omega) y
      have eu:∃ e,x = .int e/\u=t ++ [e]:=by
       rw[<-cY,aj]at hx
       unfold gr at hd'
       rw[<-cY,aj]at hd'
       cases q:(fr l t (oth (t.getLastD 0))).reverse[i]? with
       |none=>rw[q]at hx;cases hx
       |some e=>
        rw[q]at hx hd'
        cases hx
        cases hd'
        exact⟨e,rfl,rfl⟩
      obtain⟨e,rfl,rfl⟩:=eu
      refine iA ?_
      have ht7:=s7 _ _ ht6
      refine⟨_,rfl,_,rfl,by show 1<=sizeLine;decide,λp1 np1=>?_⟩
      have s8:=eW (o:=.lst [V.int e]) np1
      refine⟨ta,p1,_,_,rfl,rfl,s8 _ _ ht7,eX,cb (fG (by rw[aa];show t.length+1<=1000;omega)),λp2 np2=>?_⟩
      have S7:=S5.trans (s6.trans (s7.trans s8))
      have nl:p2≠pl:=(fb (s8 _ _ hus) np2).symm
      refine k1 _ _ (s8.trans (eW np2)) ⟨p2,rfl,fi.free S7 np2,(fb ((s7.trans s8) _ _ E6) np2).symm,(fb ((s7.trans s8) _ _ Df) np2).symm,?_⟩
      rw[gz nl,eX,ax];rfl
     intro vs G7 s7 hpl PW
     obtain⟨nas,rfl,BN⟩:=tZ PW
     have BN:=BN.same gI
     have IJ:=s7 _ _ Df
     have Ja:=s7 _ _ E6
     have S7:=S5.trans (s6.trans s7)
     have nl:=BN.1
     rw[aP]at nl
     have gl:=Ad ok t
     have b5:=BW5.1
     refine⟨wt,pl,_,_,rfl,rfl,IJ,hpl,cb (fG (by rw[aa,aa];omega)),?_⟩
     refine kN (msz l n (ws.dropLast++(gr l t).reverse)) _ _ ?_ ⟨was.dropLast++nas,fas,ws.dropLast++(gr l t).reverse,fs,_,_,rfl,fi.upd S7 EB,by rw[fc DC];exact Ja,by rw[eX,ax],((BW5.same (s6.trans s7)).app BN).AG,(BF5.same (s6.trans s7)).AG,?_,f3,λi u hu=>?_,rfl⟩
     ·rw[MZ,hd]
      unfold msz
      rw[ax,wO,cY,List.sum_reverse]
      have:((gr l t).map λu=>nodes l (n-u.length) u)=(gr l t).map (nodes l d):=dh λu hu=>by
       obtain⟨e,_,rfl⟩:=oP hu
       rw[ah,show n-(t.length + [e].length)=d by show n-(t.length+1)=d;omega]
      rw[this]
      show _<_+(1+((gr l t).map (nodes l d)).sum)
      omega
     ·rw[bO,List.reverse_reverse,List.flatMap_append,<-EQ,hd]
      congr 2
      show _=(gr l t).flatMap (exF l d)
      refine nG λu hu=>?_
      obtain⟨e,_,rfl⟩:=oP hu
      rw[ah,show n-(t.length + [e].length)=d by show n-(t.length+1)=d;omega]
     ·by_cases q:i<ws.dropLast.length
      ·rw[ak q]at hu
       exact PS5 i u hu
      ·rw[az (by omega)]at hu
       have h2:=(af.mp hu).1
       rw[aP]at h2
       obtain⟨e,_,rfl⟩:=oP (cL.mp (aG hu))
       rw[ah]
       show i<160*(t.length+1)/\1<=t.length+1/\t.length+1<=n
       omega
    ·have c:¬((t.map V.int).length:Int)<(n:Int):=by simpa using c
     rw[aa]at c
     have tn:t.length=n:=by omega
     rw[tn,bV]at EQ MZ
     have EQ:fs++(t::(ws.dropLast.reverse.flatMap λt=>exF l (n-t.length) t))=fv l (n-1):=EQ
     refine⟨_,rfl,ta,_,rfl,.inl (SqL.of ht5),_,rfl,_,_,rfl,rfl,_,rfl,gN (λ_=>?_) (λc2=>absurd (by rw[aa,tn];simp) c2)⟩
     refine⟨_,rfl,fd,_,rfl,.inl (SqL.of zY),_,_,rfl,rfl,_,rfl,gN (λh3=>?_) (λh3=>?_)⟩
     ·have h3:((fas.map V.ref).length:Int)=300:=by simpa using h3
      rw[aa,BF.1]at h3
      refine λz=>⟨by show 1<=sizeLine;decide,λx hx=>ke ?_ G5 S5 x hx⟩
      rw[<-EQ,ah,aY]
      omega
     ·have h3:¬((fas.map V.ref).length:Int)=300:=by simpa using h3
      rw[aa,BF.1]at h3
      have bf:=BF.1
      refine⟨_,rfl,.inl ⟨rfl,_,SqL.of zY⟩,_,rfl,fd,_,_,rfl,rfl,zY,fG (by rw[aa];omega),?_⟩
      have B1:Bes H G5 fd wt [ta] [t]:=⟨rfl,λi a' u h1 h2=>by
       match i,h1,h2 with
       | 0,h1,h2=>cases h1;cases h2;exact⟨b1,b2,b3,ht5⟩⟩
      refine kN (msz l n ws.dropLast) _ _ (by rw[MZ];show _<_+1;omega) ⟨was.dropLast,fas ++ [ta],ws.dropLast,fs ++ [t],_,_,rfl,fi.upd S5 nfd,by rw[eX,ax];rfl,by rw[fc (b9 DC)];exact Dh,BW5.D5,(BF5.app B1).D5,by rw[aN];exact EQ,by rw[ah];show fs.length+1<=300;omega,PS5,rfl⟩
  ·rintro σ G Q1 Q2 hq ⟨x,e1,kk,tv,q⟩
   exact⟨x,e1,kk,tv,hq _ _ q⟩
theorem v3 {f1 f2:Addr}{fd1 fd2:FuncData}(F:Fn K mg "come_to" mP ["line","train"] f fd)(B:Bm mg)(h7:Fn K mg "first_steps" jo ["line","train"] f1 fd1)(ky:fE P w K mg base (CXr P w base) 4 f1 fd1 ["line","train"] (uq K c5))
  (jf:Fn K mg "lists_of" j6 ["standings"] f2 fd2):fE P w K mg base (CXr P w base) 5 f fd ["line","train"] (wX K):=by
 have wJ:fE P w K mg base CX0 1 f2 fd2 ["standings"] (qg K):=uN jf B
 refine F.F.okX vQ (λvs H Q E h=>?_) (λcdv A outer s H vs Q E hr h=>?_)
 ·obtain⟨v,u,l,ns,rfl,_⟩:=h;rfl
 ·obtain⟨v,u,l,ns,rfl,hv,hu,ok,hne,hz,T,few,k⟩:=h
  refine⟨_,(fh (fI (fq wJ (hr.mono (by decide)) rfl jf.m jf.F.kp jf.b .nil fR (eV (fq ky (hr.mono (by decide)) rfl h7.m h7.F.kp h7.b .nil jR (eV (pv 0) (eV (pv 1) eY))) eY)))),?_⟩
  refine⟨_,rfl,_,rfl,_,_,l,ns,rfl,hv,hu,ok,hne,hz,T,λi d us H2 hi K3 s2 nd hs2=>?_,λ⟨i,hi⟩=>absurd (few i) (by omega)⟩
  exact⟨d,_,us,rfl,hs2,by omega,λq bs H3 FR=>k i q bs H3 hi (FR.pre s2)⟩
theorem tD {f1:Addr}{fd1:FuncData}(F:Fn K mg "_law_round" jw ["_law_train"] f fd)(ft:Fn K mg "_law_other" ie ["_law_end"] f1 fd1):fE P w K mg base CX0 2 f fd ["_law_train"] (nQ K):=by
 have gU:fE P w K mg base CX0 1 f1 fd1 ["_law_end"] iQ:=jK ft
 refine F.F.ok sV (λvs H Q E h=>?_) (λcdv A outer s H vs Q E hr h=>?_)
 ·obtain⟨v,l,rfl,_⟩:=h;rfl
 ·obtain⟨v,ns,rfl,hv,hz,k⟩:=h
  obtain⟨a,rfl,hS⟩:=lF.mp hv
  refine⟨_,(fh (fI (m8 (fY (zo (pv 0) (qr nk fg))) rfl l0 (.name (by decide)) (λ_ _ _ _=>(fm (i:=0) l0.nd rfl (Or.inl rfl))) (λ_ _ _ _=>iz) (λ_ _ _ _=>(fq gU (hr.mono (by decide)) rfl ft.m ft.F.kp ft.b .nil fR (eV (pv 0) eY)))))),?_⟩
  refine⟨_,rfl,_,rfl,_,rfl,a,_,rfl,rfl,hS,λp hp=>⟨p,rfl,⟨_,SqL.of eX⟩,λl1 n1=>jt ns.reverse (λ_=>true) (λe=>V.int (oth e)) n1 (SqL.of eX) (by rw[aP,aa,aP]) (by rw[aP,aa];exact fG hz) ?_ ?_⟩⟩
  ·intro i x d H' hx hd sm P1 P0 k1 k0
   rw[<-cY,aj,hd]at hx
   cases hx
   refine iA ?_
   exact⟨_,rfl,d,rfl,k1 rfl⟩
  rw[kJ]
  refine k l1 _ ((eW hp).trans (eW n1)) (fi.free (eW hp) n1) ?_
  rw[eX,bJ];rfl
end
structure DuA (H:Hp)(q:Addr)(as:List Addr)(ts:List (List Int)):Prop where
 at_:H q=some (.lst (as.map V.ref))
 len:as.length=ts.length
 each:∀ (i:Nat) a t,as[i]? = some a->ts[i]? = some t->H a=some (.lst (t.map V.int))
theorem DuA.same {H H':Hp}{q:Addr}{as:List Addr}{ts:List (List Int)}(h:DuA H q as ts)(s:fi H H'):DuA H' q as ts:=⟨s _ _ h.at_,h.len,λi a t h1 h2=>s _ _ (h.each i a t h1 h2)⟩
theorem LsW.du {H0 H:Hp}{q:Addr}{as:List Addr}{ts:List (List Int)}(h:LsW H0 H q as ts):DuA H q as ts:=⟨h.at_,h.len,λi a t h1 h2=>(h.each i a t h1 h2).2.2⟩
theorem LsW.push {H0 H:Hp}{q p:Addr}{as:List Addr}{ts:List (List Int)}{t:List Int}(h:LsW H0 H q as ts)(hp:H p=some (.lst (t.map V.int)))(np:H0 p=none)(pq:p≠q):LsW H0 (upd H q (.lst (as.map V.ref ++ [V.ref p]))) q (as ++ [p]) (ts ++ [t]):=by
 refine⟨by rw[eX,ax];rfl,by rw[ah,ah,h.len];rfl,λj b u h1 h2=>?_⟩
 by_cases c:j<as.length
 ·rw[ak c]at h1
  rw[ak (by rw[<-h.len];exact c)]at h2
  obtain⟨a1,a2,a3⟩:=h.each j b u h1 h2
  exact⟨a1,a2,by rw[fc a2];exact a3⟩
 ·rw[az (by omega)]at h1
  rw[az (by rw[<-h.len];omega),<-h.len]at h2
  cases hd:j-as.length with
  |zero=>
   rw[hd]at h1 h2
   cases h1
   cases h2
   exact⟨np,pq,by rw[fc pq];exact hp⟩
  |succ n=>rw[hd]at h1;simp at h1
theorem oj {K:PySem.W.Frag}{H:Hp} :∀ {as:List Addr}{ts:List (List Int)},as.length=ts.length->(∀ (i:Nat) a t,as[i]? = some a->ts[i]? = some t->H a=some (.lst (t.map V.int)))->Das K H (ts.map dI) (as.map V.ref)
 |[],[],_,_=>gJ.mpr rfl
 |a::as,t::ts,hl,h=>fU.mpr ⟨_,_,rfl,jc (h 0 a t rfl rfl),oj (by simpa using hl) λi b u h1 h2=>h (i+1) b u h1 h2⟩
 |[],_::_,hl,_=>by simp at hl
 |_::_,[],hl,_=>by simp at hl
theorem DuA.da {K:PySem.W.Frag}{H:Hp}{q:Addr}{as:List Addr}{ts:List (List Int)}(h:DuA H q as ts):Da K H (dLI ts) (.ref q):=jL.mpr ⟨q,_,rfl,SqL.of h.at_,oj h.len h.each⟩
structure GrA (H0 G:Hp)(gas:List Addr)(gs:List (List (List Int))):Prop where
 len:gas.length=gs.length
 each:∀ (i:Nat) g ts,gas[i]? = some g->gs[i]? = some ts->H0 g=none/\∃ as,LsW H0 G g as ts
theorem GrA.same {H0 G G':Hp}{gas:List Addr}{gs:List (List (List Int))}(h:GrA H0 G gas gs)(s:fi G G'):GrA H0 G' gas gs:=⟨h.len,λi g ts h1 h2=>by
 obtain⟨a,as,L⟩:=h.each i g ts h1 h2
 exact⟨a,as,L.same s⟩⟩
theorem GrA.push {H0 G:Hp}{gas as:List Addr}{gs:List (List (List Int))}{g:Addr}{ts:List (List Int)}(h:GrA H0 G gas gs)(n:H0 g=none)(L:LsW H0 G g as ts):GrA H0 G (gas ++ [g]) (gs ++ [ts]):=⟨by rw[ah,ah,h.len];rfl,λi b u h1 h2=>by
 by_cases c:i<gas.length
 ·rw[ak c]at h1
  rw[ak (by rw[<-h.len];exact c)]at h2
  exact h.each i b u h1 h2
 ·rw[az (by omega)]at h1
  rw[az (by rw[<-h.len];omega),<-h.len]at h2
  cases hd:i-gas.length with
  |zero=>
   rw[hd]at h1 h2
   cases h1
   cases h2
   exact⟨n,as,L⟩
  |succ n=>rw[hd]at h1;simp at h1⟩
theorem Du {d q:Addr}{G:Hp}{o:HO} :lB d q (upd G d o)=lB d q G:=by show hid q (hid d (upd G d o))=_;rw[pV]
theorem Dt {d q:Addr}{G:Hp}{o:HO} :lB d q (upd G q o)=lB d q G:=by
 funext b
 by_cases e:b=q
 ·subst e;show hid b _ b=hid b _ b;rw[ij,ij]
 ·show hid q _ b=hid q _ b
  rw[gz e,gz e]
  by_cases c:b=d
  ·subst c;rw[ij,ij]
  ·rw[gz c,gz c,fc e]
theorem oM {d q:Addr}{G G':Hp}(s:fi G G'):fi (lB d q G) (lB d q G'):=kI (kI s)
theorem sr {d q:Addr}{G:Hp} :fi (lB d q G) G:=λb u h=>gI (p:=d) b u (gI (p:=q) b u h)
theorem AO {H0 G:Hp}{q p:Addr}{bs:List Addr}{ts:List (List Int)}{Z:List (V×List Int)}(FR:sN H0 G q bs ts)(np:G p=none)(zp:Z.Perm ((bs.map V.ref).zip ts)):∃ as,Z.map (·.1)=as.map V.ref/\LsW H0 (upd G p (.lst (Z.map (·.1)))) p as (Z.map (·.2)):=by
 have h:=t8 (R:=λa t=>H0 a=none/\a≠p/\G a=some (.lst (t.map V.int))) FR.len λi a t h1 h2=>by
  obtain⟨a1,a2,a3⟩:=FR.each i a t h1 h2
  exact⟨a1,fb a3 np,a3⟩
 obtain⟨as,e1,e2,e3⟩:=oA (R:=λa t=>H0 a=none/\a≠p/\G a=some (.lst (t.map V.int))) (Z:=Z) λz hz=>h z (zp.mem_iff.mp hz)
 refine⟨as,e1,⟨by rw[eX,e1],e2,λi a t h1 h2=>?_⟩⟩
 obtain⟨a1,a2,a3⟩:=e3 i a t h1 h2
 exact⟨a1,a2,by rw[fc a2];exact a3⟩
theorem LsW.pre {H0 H1 G:Hp}{p:Addr}{as:List Addr}{ts:List (List Int)}(h:LsW H1 G p as ts)(s:fi H0 H1):LsW H0 G p as ts:=⟨h.at_,h.len,λi a t h1 h2=>⟨fi.free s (h.each i a t h1 h2).1,(h.each i a t h1 h2).2⟩⟩
theorem LsW.hid {H0 G:Hp}{q p d:Addr}{as:List Addr}{ts:List (List Int)}(h:LsW H0 G p as ts)(pd:p≠d)(pq:p≠q)(ad:∀ a∈as,a≠d/\a≠q):LsW H0 (lB d q G) p as ts:=
 ⟨by rw[lA pd pq];exact h.at_,h.len,λi a t h1 h2=>by
  obtain⟨a1,a2,a3⟩:=h.each i a t h1 h2
  obtain⟨b1,b2⟩:=ad a (aG h1)
  exact⟨a1,a2,by rw[lA b1 b2];exact a3⟩⟩
def rN (K:PySem.W.Frag):Sp:=λvs H Q _=>∃ (v:V) (p:Addr) (l:Ln) (k:Nat) (as:List Addr),vs = [v,.ref p]/\Da K H (dL l) v/\gm l/\k<=5/\DuA H p as (fv l k)/\(fv l k).length<=300/\
 ∀ t q d gas kvs H',fi H H'->H' t=some (.tup [.ref q,.ref d])->H' q=some (.lst (gas.map V.ref))->GrA H H' gas (iX l k (fv l k))->H' d=some (.dT kvs)->rC kvs (iX l k (fv l k))->Q (.ref t) H'
abbrev nT:Stmt:=top 26
theorem jO:fH ["line","trains","numbers","found","train","group","standing"] ["line","trains"] (fj nT):=⟨rfl,rfl,rfl,by decide +kernel,rfl,by decide +kernel,by decide +kernel⟩
section
variable {P:Program}{w:World}{K:PySem.W.Frag}{mg:Str->Option Value}{base:Heap}{f:Addr}{fd:FuncData}
theorem yc {f1:Addr}{fd1:FuncData}(F:Fn K mg "parted" nT ["line","trains"] f fd)(B:Bm mg)(jX:Fn K mg "come_to" mP ["line","train"] f1 fd1)(o8:fE P w K mg base (CXr P w base) 5 f1 fd1 ["line","train"] (wX K)):
  fE P w K mg base (CXr P w base) 6 f fd ["line","trains"] (rN K):=by
 refine F.F.okX jO (λvs H Q E h=>?_) (λcdv A outer s H vs Q E hr h=>?_)
 ·obtain⟨v,p,l,k,as,rfl,_⟩:=h;rfl
 ·obtain⟨v,p,l,kk,as,rfl,hv,GL,k5,DU,D3,k⟩:=h
  have ok:=GL.gR
  refine⟨_,(eZ (fw (i:=2) jO.nd rfl (Or.inl rfl) uH)
 (eZ (fw (i:=3) jO.nd rfl (Or.inl rfl) (gu eY))
 (eZ (gQ cJ rfl (fY (pv 1)) (fm (i:=4) jO.nd rfl (Or.inl rfl))
 (fh (gO (fX (mS (lH hr) (gf fW rfl B.tuple cT (eV (pv 4) eY)) (pv 2)))
 (eZ (fw (i:=5) jO.nd rfl (Or.inl rfl) (fC (qV hr.units) rfl B.sorted boot_sorted (eV (fq o8 (hr.mono (by decide)) rfl jX.m jX.F.kp jX.b .nil jR (eV (pv 0) (eV (pv 4) eY))) eY)))
 (eZ (gQ cJ rfl (fY (pv 5)) (fm (i:=6) jO.nd rfl (Or.inl rfl))
 (fh (pO (lH hr) (pv 2) (gf fW rfl B.tuple cT (eV (pv 6) eY)) (fC gc rfl B.len dY (eV (pv 3) eY)) rfl)))
 (fh (gX (jB aL bh bg gC (pv 3) (eV (pv 5) eY)))))) fP)))
 (fh (fI (gG (eV (pv 3) (eV (pv 2) eY)))))))),?_⟩
  refine λd nd=>?_
  have s1:=eW (o:=.dT []) nd
  refine⟨aW _,λq nq=>?_⟩
  have s2:=eW (o:=.lst []) nq
  have hd2:=s2 _ _ (eX (H:=H) (a:=d) (o:=.dT []))
  have hq2:=eX (H:=upd H d (.dT [])) (a:=q) (o:=.lst [])
  have S2:=s1.trans s2
  have nq0:=fi.free s1 nq
  have dq:d≠q:=fb eX nq
  generalize upd (upd H d _) q _=H2 at hd2 hq2 S2 ⊢
  refine⟨_,rfl,p,rfl,⟨_,SqL.of (S2 _ _ DU.at_)⟩,gS (K:=K) (a:=p) (xs:=as.map V.ref) (λi σ G=>∃ (gas:List Addr) (kvs:List (List Key×V)) (x4 x5 x6:Option V),σ = [some v,some (.ref p),some (.ref d),some (.ref q),x4,x5,x6]/\fi H G/\G q=some (.lst (gas.map V.ref))/\G d=some (.dT kvs)/\
    GrA H (lB d q G) gas (((fv l kk).take i).foldl (pst l kk) [])/\kvs.length<=300*i/\gas.length<=i/\rC kvs (((fv l kk).take i).foldl (pst l kk) []))
   ⟨[],[],none,none,none,rfl,S2,hq2,hd2,⟨rfl,λi g ts h=>by simp at h⟩,aq _,aq _,rC.nil⟩ (λi σ G _ ⟨_,_,_,_,_,_,s,_⟩=>SqL.of (s _ _ DU.at_)) ?_ ?_⟩
  ·rintro i y σ G1 N R Bq kN _ hi ⟨gas,kvs,x4,x5,x6,rfl,S,hq,hd,GA,kl,gl,NK⟩
   have il:i<as.length:=by have:=(af.mp hi).1;rwa [aa]at this
   have il2:i<(fv l kk).length:=by rw[<-DU.len];exact il
   have ha:as[i]? = some as[i]:=ae il
   have ht:(fv l kk)[i]? = some (fv l kk)[i]:=ae il2
   have hta:=S _ _ (DU.each i _ _ ha ht)
   rw[aj,ha]at hi
   cases hi
   generalize as[i]=ta at ha hta
   generalize (fv l kk)[i]=t at ht hta
   have tm:=aG ht
   obtain⟨T,tl,tne⟩:=iV ok tm
   have stp:=yt (l:=l) (k:=kk) ht
   have FO:wI l kk (((fv l kk).take i).foldl (pst l kk) []):=tR _ (λu hu=>List.mem_of_mem_take hu) [] λg hg=>by cases hg
   generalize ((fv l kk).take i).foldl (pst l kk) []=F at GA NK stp FO
   refine⟨_,rfl,ta,_,rfl,.inl ⟨SqL.of hta,λst nst=>?_⟩⟩
   have u1:=eW (o:=.tup (t.map V.int)) nst
   have hst:=eX (H:=G1) (a:=st) (o:=.tup (t.map V.int))
   have S:=S.trans u1
   have hq:=u1 _ _ hq
   have hd:=u1 _ _ hd
   have hta:=u1 _ _ hta
   have GA:=GA.same (oM u1)
   generalize upd G1 st _=G2 at hst S hq hd hta GA ⊢
   refine⟨_,rfl,d,_,rfl,o9.t (k:=kyI t) hd (by rw[i8];exact hst),_,rfl,?_⟩
   rw[NK.mem t]
   refine gN (λhn=>?_) (λhn=>?_)
   ·have hn:t∉F.flatten:=by simpa using hn
    have stp:((fv l kk).take (i+1)).foldl (pst l kk) []=F ++ [grp l kk t]:=by rw[stp];unfold pst;rw[au hn]
    refine⟨_,rfl,_,rfl,_,_,l,t,rfl,Da.same S hv,jc hta,ok,tne,by omega,T,λi=>bF (sP GL tm i) D3,λwi cq bs G3 hw FR=>?_⟩
    have cl:=FR.len
    have wl:((fy l t wi).map (·.1)).length<=300:=by rw[aa];exact bF (sP GL tm wi) D3
    refine⟨cq,_,_,rfl,SqL.of FR.at_,oj cl λi a t h1 h2=>(FR.each i a t h1 h2).2.2,λg Z ng zp zs=>?_⟩
    obtain⟨gs,e1,LG⟩:=AO FR ng zp
    have pe:=t9 (by rw[aa];exact cl) zp
    have eg:=Bo GL tm hw pe zs
    rw[eg]at LG
    rw[e1]at LG ⊢
    have gl2:(grp l kk t).length<=300:=by rw[<-eg,pe.length_eq];exact wl
    have ng0:=fi.free FR.same ng
    have u2:=FR.same.trans (eW (o:=.lst (gs.map V.ref)) ng)
    have gd:g≠d:=(fb hd ng0).symm
    have gq:g≠q:=(fb hq ng0).symm
    have ad:∀ a∈gs,a≠d/\a≠q:=λa ham=>by
     obtain⟨j,hj,rfl⟩:=bt.mp ham
     have hj2:j<(grp l kk t).length:=by rw[<-LG.len];exact hj
     have:=LG.each j _ _ (ae hj) (ae hj2)
     exact⟨(fb hd this.1).symm,(fb hq this.1).symm⟩
    have LGh:=(LG.pre S).hid gd gq ad
    have ng1:=fi.free S ng0
    have S:=S.trans u2
    have hq:=u2 _ _ hq
    have hd:=u2 _ _ hd
    have GA:=(GA.same (oM u2)).push ng1 LGh
    generalize upd G3 g _=G4 at S hq hd GA LG LGh ⊢
    have Fl:=GA.len
    rw[ah,ah]at Fl
    have Fl:gas.length+1=F.length+1:=Fl
    have gnd:=Ab (k:=kk) GL t
    have dj:∀ u∈grp l kk t,u∉F.flatten:=λu hu=>Dy ok FO tm hn hu
    refine⟨_,rfl,g,rfl,⟨_,SqL.of LG.at_⟩,gS (K:=K) (a:=g) (xs:=gs.map V.ref) (λj σ G=>∃ (yj:List (List Key×V)) (x6:Option V),σ = [some v,some (.ref p),some (.ref d),some (.ref q),some (.ref ta),some (.ref g),x6]/\fi H G/\G q=some (.lst (gas.map V.ref))/\G d=some (.dT yj)/\fi (lB d q G4) G/\fi (lB d q G4) (lB d q G)/\yj.length<=300*i+j/\wG yj F ((grp l kk t).take j))
     ⟨kvs,x6,rfl,S,hq,hd,sr,fi.refl _,kl,NK.start⟩ (λj σ G _ ⟨_,_,_,_,_,_,sm,_⟩=>SqL.of (sm _ _ LGh.at_)) ?_ ?_⟩
    ·rintro j y σ G5 N2 R2 B2 kN2 _ hj ⟨yj,x6,rfl,S5,hq5,hd5,sm,sh,kl5,NJ⟩
     rw[aj]at hj
     cases q1:gs[j]? with
     |none=>rw[q1]at hj;cases hj
     |some b=>
      rw[q1]at hj
      cases hj
      have jl:j<(grp l kk t).length:=by rw[<-LG.len];exact(af.mp q1).1
      have h1:(grp l kk t)[j]? = some (grp l kk t)[j]:=ae jl
      have hb:=sm _ _ (LGh.each j b _ q1 h1).2.2
      have um:=aG h1
      have un:(grp l kk t)[j]∉(grp l kk t).take j:=λz=>by
       obtain⟨m,hm,e⟩:=List.mem_take_iff_getElem.mp z
       have:=(cN gnd).mp e
       omega
      have tk:(grp l kk t).take (j+1)=(grp l kk t).take j ++ [(grp l kk t)[j]]:=by rw[bG,h1];rfl
      generalize (grp l kk t)[j]=u at h1 hb um un tk
      refine⟨_,rfl,q,_,rfl,.inl (SqL.of hq5),_,rfl,_,rfl,b,_,rfl,.inl ⟨SqL.of hb,λst2 CO=>?_⟩⟩
      have u3:=eW (o:=.tup (u.map V.int)) CO
      have zR:=eX (H:=G5) (a:=st2) (o:=.tup (u.map V.int))
      have S6:=S5.trans u3
      have hq6:=u3 _ _ hq5
      have hd6:=u3 _ _ hd5
      have sm6:=sm.trans u3
      have sh6:=sh.trans (oM u3)
      generalize upd G5 st2 _=G6 at zR S6 hq6 hd6 sm6 sh6 ⊢
      obtain⟨NJ',kl'⟩:=NJ.put (dj u um) un
      refine⟨d,_,rfl,vH.t (k:=kyI u) hd6 (by rw[i8];exact zR) (kL (by omega)),?_⟩
      rw[aa,show gas.length=F.length by omega]
      refine kN2 _ _ ⟨_,_,rfl,fi.upd S6 nd,by rw[fc (b9 dq)];exact hq6,eX,?_,by rw[Du];exact sh6,by rw[kl'];omega,by rw[tk];exact NJ'⟩
      exact λc o hc=>by rw[fc (λz=>by rw[z]at hc;unfold lB at hc;rw[gz dq,ij]at hc;cases hc)];exact sm6 c o hc
    ·rintro σ G5 ⟨yj,x6,rfl,S5,hq5,hd5,sm,sh,kl5,NJ⟩
     rw[aa]at kl5
     rw[aa,LG.len,bC]at NJ
     have lg:=LG.len
     refine⟨_,rfl,.inl ⟨rfl,_,SqL.of hq5⟩,_,rfl,q,_,_,rfl,rfl,hq5,kL (by rw[aa];omega),?_⟩
     refine kN _ _ ⟨gas ++ [g],yj,_,_,_,rfl,fi.upd S5 nq0,by rw[eX,ax];rfl,by rw[fc dq];exact hd5,?_,by omega,by rw[ah];show gas.length+1<=i+1;omega,by rw[stp];exact NJ.done dj⟩
     rw[stp,Dt]
     exact GA.same sh
   ·have hn:t∈F.flatten:=by simpa using hn
    have stp:((fv l kk).take (i+1)).foldl (pst l kk) []=F:=by rw[stp];unfold pst;rw[aD hn]
    exact kN _ _ ⟨gas,kvs,_,_,_,rfl,S,hq,hd,by rw[stp];exact GA,by omega,by omega,by rw[stp];exact NK⟩
  ·rintro σ G ⟨gas,kvs,x4,x5,x6,rfl,S,hq,hd,GA,_,_,NK⟩
   rw[aa,DU.len,bC,TL.fold_all]at GA NK
   refine⟨_,rfl,_,rfl,by show 2<=sizeLine;decide,λtp ntp=>?_⟩
   have u:=eW (o:=.tup [.ref q,.ref d]) ntp
   exact k tp q d gas kvs _ (S.trans u) eX (u _ _ hq) ((GA.same sr).same u) (u _ _ hd) NK
end
def Gt1 (H0:Hp)(gs:List (List (List Int)))(G:Hp)(ts:List (List Int))(v:V):Prop:=∃ a g as,v = .ref a/\G a=some (.tup [.ref g,.int (twn gs ts)])/\H0 g=none/\LsW H0 G g as ts
theorem Gt1.mono {H0:Hp}{gs:List (List (List Int))}{G G':Hp}(ts:List (List Int))(v:V)(s:fi G G')(h:Gt1 H0 gs G ts v):Gt1 H0 gs G' ts v:=by
 obtain⟨a,g,as,h1,h2,h3,h4⟩:=h
 exact⟨a,g,as,h1,s _ _ h2,h3,h4.same s⟩
structure GtA (H0 G:Hp)(p:Addr)(ps:List Addr)(gs:List (List (List Int))):Prop where
 at_:G p=some (.lst (ps.map V.ref))
 len:ps.length=gs.length
 each:∀ (i:Nat) a ts,ps[i]? = some a->gs[i]? = some ts->∃ g as,g≠p/\G a=some (.tup [.ref g,.int (twn gs ts)])/\H0 g=none/\LsW H0 G g as ts
theorem BZ {H0 G:Hp}{gs0:List (List (List Int))} :∀ {gs:List (List (List Int))}{vs:List V},Pw (Gt1 H0 gs0 G) gs vs->∃ ps:List Addr,vs=ps.map V.ref/\ps.length=gs.length/\∀ (i:Nat) a ts,ps[i]? = some a->gs[i]? = some ts->∃ g as,G a=some (.tup [.ref g,.int (twn gs0 ts)])/\H0 g=none/\LsW H0 G g as ts
 |[],[],_=>⟨[],rfl,rfl,λi a t h=>by simp at h⟩
 |t::ts,v::vs,h=>by
  obtain⟨a,g,as,rfl,h2,h3,h4⟩:=h.1
  obtain⟨ps,rfl,hl,hb⟩:=BZ h.2
  refine⟨a::ps,rfl,by rw[aY,aY,hl],λi b u h1 h2'=>?_⟩
  cases i with
  |zero=>cases h1;cases h2';exact⟨g,as,h2,h3,h4⟩
  |succ n=>exact hb n b u (by simpa using h1) (by simpa using h2')
def rO (K:PySem.W.Frag)(C:Addr):Sp:=λvs H Q E=>∃ (v:V) (l:Ln) (n:Nat),vs = [v,.int (n:Int)]/\Da K H (dL l) v/\gm l/\1<=n/\n<=6/\
 ((fv l (n-1)).length<=300->∀ p ps H',fi H H'->H p=none->GtA H H' p ps (iX l (n-1) (fv l (n-1)))->Q (.ref p) H')/\
 (300<(fv l (n-1)).length->∀ H',fi H H'->∀ e,H' e=none->E (.ref C) (some e) H')
abbrev lQ:Stmt:=top 27
theorem oG:fH ["line","length","found","numbers"] ["line","length"] (fj lQ):=⟨rfl,rfl,rfl,by decide +kernel,rfl,by decide +kernel,by decide +kernel⟩
theorem pB:gv (fj lQ) ["line","length","found","numbers"] {kind:=.function,names:=[(Str.ofString ".0",.local),(Str.ofString "group",.local),(Str.ofString "tuple",.globalImplicit),(Str.ofString "turned",.globalImplicit),(Str.ofString "numbers",.free)],isGenerator:=false,isCoroutine:=false,more:=[]} ["group","numbers"] 1 [none,some 3]:=⟨rfl,by decide +kernel,by decide +kernel,by decide +kernel,rfl,by decide +kernel,rfl,by decide +kernel⟩
section
variable {P:Program}{w:World}{K:PySem.W.Frag}{mg:Str->Option Value}{base:Heap}{f:Addr}{fd:FuncData}{c5:Addr}{tk:Tok}
theorem ye {f1 f2 f3:Addr}{fd1 fd2 fd3:FuncData}(F:Fn K mg "groups" lQ ["line","length"] f fd)(B:Bm mg)(kS:Fn K mg "parted" nT ["line","trains"] f1 fd1)(rb:fE P w K mg base (CXr P w base) 6 f1 fd1 ["line","trains"] (rN K))
  (iL:Fn K mg "trains_of" iI ["line","length"] f2 fd2) (mB:fE P w K mg base (CXr P w base) 3 f2 fd2 ["line","length"] (rM K c5))
  (kQ:Fn K mg "turned" lP ["train"] f3 fd3) (q9:fE P w K mg base CX0 2 f3 fd3 ["train"] (nQ K)):fE P w K mg base (CXr P w base) 7 f fd ["line","length"] (rO K c5):=by
 refine F.F.okX oG (λvs H Q E h=>?_) (λcdv A outer s H vs Q E hr h=>?_)
 ·obtain⟨v,l,n,rfl,_⟩:=h;rfl
 ·obtain⟨v,l,n,rfl,hv,GL,n1,n6,kq,ke⟩:=h
  have ok:=GL.gR
  refine⟨_,(eZ (zh (fq rb (hr.mono (by decide)) rfl kS.m kS.F.kp kS.b .nil jR (eV (pv 0) (eV (fq mB (hr.mono (by decide)) rfl iL.m iL.F.kp iL.b .nil jR (eV (pv 0) (eV (pv 1) eY))) eY))) (jD (n:=2) rfl (fN (fm (i:=2) oG.nd rfl (Or.inl rfl)) (fN (fm (i:=3) oG.nd rfl (Or.inr rfl)) iB))))
 (fh (fI (m8 (fY (pv 2)) rfl pB (.name (by decide)) (λ_ _ _ _=>(fm (i:=0) pB.nd rfl (Or.inl rfl))) (λ_ _ _ _=>iz) (λ_ _ _ _=>(gG (eV (pv 0) (eV (xh (lH hr) (pv 1) (gf (mq (K:=K) rfl) rfl B.tuple cT (eV (fq q9 (hr.mono (by decide)) rfl kQ.m kQ.F.kp kQ.b .nil fR (eV (gh (zP (K:=K) rfl) (pv 0) fg (λ_ _=>rfl)) eY)) eY)) (λ_ _=>rfl)) eY)))))))),?_⟩
  refine⟨_,rfl,_,rfl,_,rfl,_,l,n,rfl,hv,ok,n1,n6,λh3 p as H1 s1 np L=>?_,ke⟩
  refine⟨_,p,l,n-1,as,rfl,Da.same s1 hv,GL,by omega,L.du,h3,λt q d gas kvs H2 s2 ht hq GA hd NK=>?_⟩
  refine⟨t,_,rfl,.inl (.inl ht),rfl,_,_,rfl,_,_,rfl,rfl,?_⟩
  have S2:=s1.trans s2
  have gok:=qK l (n-1)
  have Dz:∀ u∈fv l (n-1),u∈(iX l (n-1) (fv l (n-1))).flatten:=λu hu=>wy ok hu
  have gl:(iX l (n-1) (fv l (n-1))).length<=300:=bF (Aa _ _) h3
  generalize iX l (n-1) (fv l (n-1))=gs at *
  have hgl:=GA.len
  have ql:(gas.map V.ref).length=gs.length:=by rw[aa];exact hgl
  refine⟨_,rfl,q,rfl,⟨_,SqL.of hq⟩,λr nr=>xj gs.length gs (Gt1 H gs) (λt v=>Gt1.mono t v) nr rfl (kL (by omega)) (λi G s hi=>(mV (SqL.of (K:=K) hq)).go i G s (by omega)) (λG s=>by have:=(mV (SqL.of (K:=K) hq)).stop G s;rw[ql]at this;exact this) ?_ ?_⟩
  ·rintro i x ts G G' sG ⟨us',hus⟩ y hd' P1 P0 k1
   have hi:i<gs.length:=(af.mp hd').1
   obtain⟨rfl,hx⟩:=(mV (SqL.of (K:=K) hq)).yld i G x G' sG (by omega) y
   rw[aj]at hx
   cases q1:gas[i]? with
   |none=>rw[q1]at hx;cases hx
   |some g=>
    rw[q1]at hx
    cases hx
    obtain⟨ng,as',LG⟩:=GA.each i g ts q1 hd'
    have ng:=fi.free s1 ng
    have LG:=LG.pre s1
    have tm:=aG hd'
    obtain⟨u,r',e1,um,hh,e2⟩:=oO ok gok tm
    have ul:=(iV ok um).2.1
    have tl:=ug ok um
    have L0:=LG.same sG
    have hh0:as'[0]? = some (as'[0]'(by rw[LG.len,e1];simp)):=ae _
    obtain⟨_,_,hu⟩:=L0.each 0 _ u hh0 (by rw[e1];rfl)
    generalize as'[0]'(by rw[LG.len,e1];simp)=ua at hh0 hu
    refine iA ?_
    refine⟨_,rfl,_,rfl,_,rfl,g,_,_,_,rfl,rfl,SqL.of L0.at_,mv (v:=V.ref ua) (by decide) (by rw[aj];show(as'[0]?).map V.ref=_;rw[hh0];rfl),_,u,rfl,jc hu,by omega,λpt G3 s3 npt hpt=>?_⟩
    refine⟨pt,_,rfl,.inl ⟨SqL.of hpt,λst nst=>?_⟩⟩
    have s4:=eW (o:=.tup ((u.reverse.map oth).map V.int)) nst
    have hst:=eX (H:=G3) (a:=st) (o:=.tup ((u.reverse.map oth).map V.int))
    have S4:=s3.trans s4
    generalize upd G3 st _=G4 at s4 hst S4 ⊢
    have hd4:=(sG.trans S4) _ _ hd
    have IK:ic kvs (kyI (u.reverse.map oth))=some (V.int (twn gs ts)):=by
     rw[NK,aD (Dz _ tl)];unfold twn;rw[hh]
    refine⟨d,.int (twn gs ts),rfl,by rw[<-IK];exact o9.t (k:=kyI (u.reverse.map oth)) hd4 (by rw[i8];exact hst),by show 2<=sizeLine;decide,λtp ntp=>?_⟩
    have s5:=eW (o:=.tup [.ref g,.int (twn gs ts)]) ntp
    have tr:tp≠r:=(fb (S4 _ _ hus) ntp).symm
    refine k1 _ _ (S4.trans s5) ⟨tp,g,as',rfl,by rw[gz tr];exact eX,ng,LG.same (zW (sG.trans (S4.trans s5)) nr)⟩
  ·intro vs H3 s3 hr3 PW
   obtain⟨ps,rfl,hl,he⟩:=BZ PW
   exact kq h3 r ps H3 (S2.trans s3) (fi.free S2 nr) ⟨hr3,hl,λi a ts h1 h2=>by
    obtain⟨g,as,b1,b2,b3⟩:=he i a ts h1 h2
    exact⟨g,as,(λz=>by have:=b3.at_;rw[z,ij]at this;cases this),gI _ _ b1,b2,b3.same gI⟩⟩
end
structure Cl (mg:Str->Option Value)(tk:Tok):Prop where
 vF:mg "MOST_LENGTH" = some (.int 6 tk)
def pI (H0 G:Hp)(r:V)(o:Option (List Int)):Prop:=(o=none/\r = .non)\/∃ t a,o=some t/\r = .ref a/\H0 a=none/\G a=some (.lst (t.map V.int))/\t.length<=6
theorem pI.same {H0 G G':Hp}{r:V}{o:Option (List Int)}(h:pI H0 G r o)(s:fi G G'):pI H0 G' r o:=by
 rcases h with h |⟨t,a,h1,h2,h3,h4,h5⟩
 ·exact .inl h
 ·exact .inr ⟨t,a,h1,h2,h3,s _ _ h4,h5⟩
theorem pI.pre {H0 H1 G:Hp}{r:V}{o:Option (List Int)}(h:pI H1 G r o)(s:fi H0 H1):pI H0 G r o:=by
 rcases h with h |⟨t,a,h1,h2,h3,h4,h5⟩
 ·exact .inl h
 ·exact .inr ⟨t,a,h1,h2,fi.free s h3,h4,h5⟩
def yT (K:PySem.W.Frag)(C:Addr):Sp:=λvs H Q E=>∃ (v:V) (l:Ln) (n:Nat),vs = [v,.int (n:Int)]/\Da K H (dL l) v/\gm l/\1<=n/\n<=6/\
 ((fv l (n-1)).length<=300->∀ r H',fi H H'->pI H H' r (fof l (n-1))->Q r H')/\
 (300<(fv l (n-1)).length->∀ H',fi H H'->∀ e,H' e=none->E (.ref C) (some e) H')
def qe (K:PySem.W.Frag)(C:Addr):Sp:=λvs H Q E=>∃ (v:V) (l:Ln),vs = [v]/\Da K H (dL l) v/\gm l/\
 ((∀ k,k<6->(fv l k).length<=300)->∀ b r H',fi H H'->H' b=some (.tup [.int ((bst (fof l) 6).1:Nat),r])->pI H H' r (bst (fof l) 6).2->Q (.ref b) H')/\
 ((∃ k,k<6/\300<(fv l k).length)->∀ H',fi H H'->∀ e,H' e=none->E (.ref C) (some e) H')
abbrev iw:Stmt:=top 28
theorem h9:fH ["line","length","at","standings","twin"] ["line","length"] (fj iw):=⟨rfl,rfl,rfl,by decide +kernel,rfl,by decide +kernel,by decide +kernel⟩
abbrev mM:Stmt:=top 29
theorem jY:fH ["line","best","length","train"] ["line"] (fj mM):=⟨rfl,rfl,rfl,by decide +kernel,rfl,by decide +kernel,by decide +kernel⟩
section
variable {P:Program}{w:World}{K:PySem.W.Frag}{mg:Str->Option Value}{base:Heap}{f:Addr}{fd:FuncData}{c5:Addr}{tk:Tok}
theorem nZ {f1:Addr}{fd1:FuncData}(F:Fn K mg "first_own_twin" iw ["line","length"] f fd)(B:Bm mg)(kU:Fn K mg "groups" lQ ["line","length"] f1 fd1)(rf:fE P w K mg base (CXr P w base) 7 f1 fd1 ["line","length"] (rO K c5)):
  fE P w K mg base (CXr P w base) 8 f fd ["line","length"] (yT K c5):=by
 refine F.F.okX h9 (λvs H Q E h=>?_) (λcdv A outer s H vs Q E hr h=>?_)
 ·obtain⟨v,l,n,rfl,_⟩:=h;rfl
 ·obtain⟨v,l,n,rfl,hv,GL,n1,n6,kq,ke⟩:=h
  have ok:=GL.gR
  refine⟨_,(eZ (gQ cJ rfl (xg rfl B.enumerate (eV (fq rf (hr.mono (by decide)) rfl kU.m kU.F.kp kU.b .nil jR (eV (pv 0) (eV (pv 1) eY))) eY)) (jD (n:=2) rfl (fN (fm (i:=2) h9.nd rfl (Or.inl rfl)) (fN (jD (n:=2) rfl (fN (fm (i:=3) h9.nd rfl (Or.inl rfl)) (fN (fm (i:=4) h9.nd rfl (Or.inl rfl)) iB))) iB)))
 (fh (gO (fX (j8 (pv 4) (pv 2)))
 (fh (fI (gh fV (pv 3) fg (λ_ _=>rfl)))) fP)))
 (fh (fI nC))),?_⟩
  refine⟨_,rfl,_,rfl,_,l,n,rfl,hv,GL,n1,n6,λh3 gp ps H1 s1 ngp GT=>?_,ke⟩
  have tw:=λi ts h=>twn_own (l:=l) (k:=n-1) ok (i:=i) (ts:=ts) h
  have gok:=qK l (n-1)
  have fe:∀ g,(iX l (n-1) (fv l (n-1))).find? qu=some g->fof l (n-1)=some (g.headD []):=λg hg=>by unfold fof fo;rw[hg];rfl
  have fn:(iX l (n-1) (fv l (n-1))).find? qu=none->fof l (n-1)=none:=λhg=>by unfold fof fo;rw[hg];rfl
  generalize iX l (n-1) (fv l (n-1))=gs at *
  have hl:=GT.len
  refine⟨gp,rfl,⟨_,SqL.of GT.at_⟩,sA (K:=K) (a:=gp) (xs:=ps.map V.ref) (λi σ G=>∃ (x2 x3 x4:Option V),σ = [some v,some (.int (n:Int)),x2,x3,x4]/\fi H1 G/\∀ g∈gs.take i,qu g=false)
   ⟨none,none,none,rfl,fi.refl _,λg hg=>by simp at hg⟩ (λi σ G _ ⟨_,_,_,_,s,_⟩=>SqL.of (s _ _ GT.at_)) ?_ ?_⟩
  ·rintro i y σ G p N R Bq kN kR hi ⟨x2,x3,x4,rfl,S,no⟩ np
   rw[aj]at hi
   cases q1:ps[i]? with
   |none=>rw[q1]at hi;cases hi
   |some a=>
    rw[q1]at hi
    cases hi
    have il:i<gs.length:=by rw[<-hl];exact(af.mp q1).1
    have hts:gs[i]? = some gs[i]:=ae il
    have tk':gs.take (i+1)=gs.take i ++ [gs[i]]:=by rw[bG,hts];rfl
    generalize gs[i]=ts at hts tk'
    obtain⟨g,as,_,ha,ng,L⟩:=GT.each i a ts q1 hts
    have u:=eW (o:=.tup [.int (i:Int),.ref a]) np
    have hp:=eX (H:=G) (a:=p) (o:=.tup [.int (i:Int),.ref a])
    generalize upd G p _=G2 at u hp ⊢
    have S2:=S.trans u
    refine⟨p,_,rfl,.inl (.inl hp),rfl,_,_,rfl,_,_,rfl,a,_,rfl,.inl (.inl (S2 _ _ ha)),rfl,_,_,rfl,_,_,rfl,rfl,rfl,?_⟩
    refine⟨_,rfl,_,rfl,_,_,rfl,rfl,_,rfl,gN (λc=>?_) (λc=>?_)⟩
    ·have c:twn gs ts=(i:Int):=by simpa using c
     have ow:=(tw i ts hts).mp c
     obtain⟨x,r',e1,um,hh,_⟩:=oO ok gok (aG hts)
     have ul:=(iV ok um).2.1
     have hh0:as[0]? = some (as[0]'(by rw[L.len,e1];simp)):=ae _
     obtain⟨nu,_,hu⟩:=L.each 0 _ x hh0 (by rw[e1];rfl)
     generalize as[0]'(by rw[L.len,e1];simp)=ua at hh0 hu nu
     refine⟨_,rfl,g,_,_,_,rfl,rfl,SqL.of (S2 _ _ L.at_),mv (v:=V.ref ua) (by decide) (by rw[aj];show(as[0]?).map V.ref=_;rw[hh0];rfl),kR _ _ (kq h3 _ G2 (s1.trans S2) (.inr ⟨x,ua,?_,rfl,nu,S2 _ _ hu,by omega⟩))⟩
     rw[fe ts (Bv hts ow no),hh]
    ·have c:¬twn gs ts=(i:Int):=by simpa using c
     refine kN _ _ ⟨_,_,_,rfl,S2,λg' hg'=>?_⟩
     rw[tk']at hg'
     rcases aI.mp hg' with z |z
     ·exact no g' z
     ·rw[aQ.mp z]
      cases e:qu ts with
      |false=>rfl
      |true=>exact absurd ((tw i ts hts).mpr e) c
  ·rintro σ G ⟨x2,x3,x4,rfl,S,no⟩
   rw[aa,hl,bC]at no
   exact kq h3 _ G (s1.trans S) (.inl ⟨fn (eE.mpr λg hg=>by rw[no g hg];decide),rfl⟩)
theorem vX {f1:Addr}{fd1:FuncData}(F:Fn K mg "longest" mM ["line"] f fd)(B:Bm mg)(C:Cl mg tk)(gE:Fn K mg "first_own_twin" iw ["line","length"] f1 fd1)(jd:fE P w K mg base (CXr P w base) 8 f1 fd1 ["line","length"] (yT K c5)):
  fE P w K mg base (CXr P w base) 9 f fd ["line"] (qe K c5):=by
 refine F.F.okX jY (λvs H Q E h=>?_) (λcdv A outer s H vs Q E hr h=>?_)
 ·obtain⟨v,l,rfl,_⟩:=h;rfl
 ·obtain⟨v,l,rfl,hv,GL,kq,ke⟩:=h
  have ok:=GL.gR
  refine⟨_,(eZ (fw (i:=1) jY.nd rfl (Or.inl rfl) (gG (eV fg (eV nC eY))))
 (eZ (gQ cJ rfl (rY rfl B.range (eV fg (eV (fu gZ (jr (v:=.int 6) rfl C.vF ⟨_,rfl⟩) fg) eY))) (fm (i:=2) jY.nd rfl (Or.inl rfl))
 (eZ (fw (i:=3) jY.nd rfl (Or.inl rfl) (fq jd (hr.mono (by decide)) rfl gE.m gE.F.kp gE.b .nil jR (eV (pv 0) (eV (pv 2) eY))))
 (fh (gO (fX (pR (pv 3)))
 (fh (fw (i:=1) jY.nd rfl (Or.inl rfl) (gG (eV (pv 2) (eV (pv 3) eY))))) fP))))
 (fh (fI (pv 1))))),?_⟩
  refine⟨by show 2<=sizeLine;decide,λb nb=>?_⟩
  have s1:=eW (o:=.tup [.int 0,.non]) nb
  have hb:=eX (H:=H) (a:=b) (o:=.tup [.int 0,.non])
  generalize upd H b _=H1 at s1 hb ⊢
  refine⟨_,_,rfl,rfl,1,7,rfl,⟨by decide,by decide,by decide,by decide⟩,i9 (λi σ G=>∃ (b:Addr) (r:V) (x2 x3:Option V),σ = [some v,some (.ref b),x2,x3]/\fi H G/\G b=some (.tup [.int ((bst (fof l) i).1:Nat),r])/\pI H G r (bst (fof l) i).2/\∀ k,k<i->(fv l k).length<=300)
   ⟨b,.non,none,none,rfl,s1,hb,.inl ⟨rfl,rfl⟩,λk hk=>by omega⟩ ?_ ?_⟩
  ·rintro i σ G N R Bq kN kR hi ⟨b,r,x2,x3,rfl,S,hb,OF,few⟩
   have hi6:i<6:=hi
   have e1:((1:Int)+(i:Nat))=((i+1:Nat):Int):=by omega
   rw[e1]
   refine⟨_,rfl,_,rfl,_,l,i+1,rfl,Da.same S hv,GL,by omega,by omega,λh3 r' G2 s2 OF2=>?_,λh3 G2 s2 e he=>?_⟩
   ·rw[eC]at h3 OF2
    have OF2:=OF2.pre S
    have S2:=S.trans s2
    have Fg:∀ k,k<i+1->(fv l k).length<=300:=λk hk=>by
     by_cases e:k=i
     ·subst e;exact h3
     ·exact few k (by omega)
    rcases OF2 with⟨z1,rfl⟩|⟨t,a,z1,rfl,z3,z4,z5⟩
    ·have eb:bst (fof l) (i+1)=bst (fof l) i:=by rw[bst,z1]
     refine⟨_,rfl,_,rfl,gN (λc=>absurd c (by decide)) (λ_=>?_)⟩
     exact kN _ _ ⟨b,r,_,_,rfl,S2,by rw[eb];exact s2 _ _ hb,by rw[eb];exact OF.same s2,Fg⟩
    ·have eb:bst (fof l) (i+1)=(i+1,some t):=by rw[bst,z1]
     refine⟨_,rfl,_,rfl,gN (λ_=>?_) (λc=>absurd rfl c)⟩
     refine⟨_,rfl,_,rfl,by show 2<=sizeLine;decide,λb2 nb2=>?_⟩
     have u:=eW (o:=.tup [.int ((i+1:Nat):Int),.ref a]) nb2
     exact kN _ _ ⟨b2,.ref a,_,_,rfl,S2.trans u,by rw[eb];exact eX,by rw[eb];exact .inr ⟨t,a,rfl,rfl,z3,u _ _ z4,z5⟩,Fg⟩
   ·rw[eC]at h3
    exact ke ⟨i,hi6,h3⟩ G2 (S.trans s2) e he
  ·rintro σ G ⟨b,r,x2,x3,rfl,S,hb,OF,few⟩
   exact⟨_,rfl,kq few b r G S hb OF⟩
end
theorem AQ {H:Hp}{q:Addr}{as:List Addr}{ts:List (List Int)}{Z:List (V×List Int)}(hl:as.length=ts.length)(he:∀ (i:Nat) a t,as[i]? = some a->ts[i]? = some t->H a=some (.lst (t.map V.int)))(nq:H q=none)(zp:Z.Perm ((as.map V.ref).zip ts)):∃ bs,DuA (upd H q (.lst (Z.map (·.1)))) q bs (Z.map (·.2)):=by
 have h:=t8 (R:=λa t=>a≠q/\H a=some (.lst (t.map V.int))) hl λi a t h1 h2=>⟨fb (he i a t h1 h2) nq,he i a t h1 h2⟩
 obtain⟨bs,e1,e2,e3⟩:=oA (R:=λa t=>a≠q/\H a=some (.lst (t.map V.int))) (Z:=Z) λz hz=>h z (zp.mem_iff.mp hz)
 refine⟨bs,⟨by rw[eX,e1],e2,λi a t h1 h2=>?_⟩⟩
 obtain⟨a2,a3⟩:=e3 i a t h1 h2
 rw[fc a2];exact a3
def ur (K:PySem.W.Frag):Sp:=λvs H Q _=>∃ (v:V) (p:Addr) (l:Ln) (k:Nat) (as:List Addr),vs = [v,.ref p]/\Da K H (dL l) v/\gm l/\k<=5/\DuA H p as (fv l k)/\∀ q as' H',fi H H'->H q=none->DuA H' q as' (fv l (k+1))->Q (.ref q) H'
def oz (G:Hp)(r:V)(o:Option (List Int)):Prop:=(o=none/\r = .non)\/∃ t a,o=some t/\r = .ref a/\G a=some (.lst (t.map V.int))
theorem oz.same {G G':Hp}{r:V}{o:Option (List Int)}(h:oz G r o)(s:fi G G'):oz G' r o:=by
 rcases h with h |⟨t,a,h1,h2,h4⟩
 ·exact .inl h
 ·exact .inr ⟨t,a,h1,h2,s _ _ h4⟩
def uu (K:PySem.W.Frag):Sp:=λvs H Q _=>∃ (v:V) (p:Addr) (l:Ln) (k:Nat) (as:List Addr),vs = [v,.ref p]/\Da K H (dL l) v/\gm l/\k<=5/\DuA H p as (fv l k)/\(fv l k).length<=300/\∀ r H',fi H H'->oz H' r (fof l k)->Q r H'
abbrev jy:Stmt:=top 42
theorem iT:fH ["_law_line_here","_law_found","_law_told_here","_law_train","_law_end","_law_pieces"] ["_law_line_here","_law_found"] (fj jy):=⟨rfl,rfl,rfl,by decide +kernel,rfl,by decide +kernel,by decide +kernel⟩
theorem me:gv (fj jy) ["_law_line_here","_law_found","_law_told_here","_law_train","_law_end","_law_pieces"] {kind:=.function,names:=[(Str.ofString ".0",.local),(Str.ofString "_law_end",.local)],isGenerator:=false,isCoroutine:=false,more:=[]} ["_law_end"] 1 [none]:=⟨rfl,by decide +kernel,by decide +kernel,by decide +kernel,rfl,by decide +kernel,rfl,by decide +kernel⟩
abbrev jz:Stmt:=top 43
theorem ir:fH ["_law_line_here","_law_some","_law_left","_law_order","_law_met","_law_train"] ["_law_line_here","_law_some"] (fj jz):=⟨rfl,rfl,rfl,by decide +kernel,rfl,by decide +kernel,by decide +kernel⟩
theorem mf:gv (fj jz) ["_law_line_here","_law_some","_law_left","_law_order","_law_met","_law_train"] {kind:=.function,names:=[(Str.ofString ".0",.local),(Str.ofString "_law_train",.local),(Str.ofString "tuple",.globalImplicit),(Str.ofString "_law_met",.free)],isGenerator:=false,isCoroutine:=false,more:=[]} ["_law_train","_law_met"] 1 [none,some 4]:=⟨rfl,by decide +kernel,by decide +kernel,by decide +kernel,rfl,by decide +kernel,rfl,by decide +kernel⟩
section
variable {P:Program}{w:World}{K:PySem.W.Frag}{mg:Str->Option Value}{base:Heap}{f:Addr}{fd:FuncData}
theorem tF {f1 f2:Addr}{fd1 fd2:FuncData}(F:Fn K mg "_law_grown" jy ["_law_line_here","_law_found"] f fd)(B:Bm mg)(ft:Fn K mg "_law_other" ie ["_law_end"] f1 fd1)
  (fM:Fn K mg "_law_joined" gW ["_law_line_here","_law_end"] f2 fd2):fE P w K mg base CX0 2 f fd ["_law_line_here","_law_found"] (ur K):=by
 have gU:fE P w K mg base CX0 1 f1 fd1 ["_law_end"] iQ:=jK ft
 have jN:fE P w K mg base CX0 1 f2 fd2 ["_law_line_here","_law_end"] (kA K):=m9 fM B.toBl
 refine F.F.ok iT (λvs H Q E h=>?_) (λcdv A outer s H vs Q E hr h=>?_)
 ·obtain⟨v,p,l,k,as,rfl,_⟩:=h;rfl
 ·obtain⟨v,p,l,kk,as,rfl,hv,G,k5,DU,k⟩:=h
  have ok:=G.gR
  have dl:=Bz G (k:=kk+1) (by omega)
  refine⟨_,(eZ (fw (i:=2) iT.nd rfl (Or.inl rfl) (gu eY))
 (eZ (gQ bz rfl (fY (pv 1)) (fm (i:=3) iT.nd rfl (Or.inl rfl))
 (eZ (qo (i:=5) iT.nd rfl rfl (fY (pv 3)) rfl me (.name (by decide)) (λ_ _ _ _=>(fm (i:=0) me.nd rfl (Or.inl rfl))) (λ_ _ _ _=>iz) (λ_ _ _ _=>(fu iC (pv 0) fg)))
 (fh (gQ bz rfl (fY (fq jN (hr.mono (by decide)) rfl fM.m fM.F.kp fM.b .nil fR (eV (pv 0) (eV (fq gU (hr.mono (by decide)) rfl ft.m ft.F.kp ft.b .nil fR (eV (gh fV (pv 3) (qr nk fg) (λ_ _=>rfl)) eY)) eY)))) (fm (i:=4) iT.nd rfl (Or.inl rfl))
 (fh (gO (jq (kG hr.units) (fu iC (pv 4) fg) (pv 5) (by with_unfolding_all rfl))
 (fh (gX (jB aL bh bg gC (pv 2) (eV (fu kn (pv 3) (gu (eV (pv 4) eY))) eY)))) fP))))))
 (fh (fI (fC (qV hr.units) rfl B.sorted boot_sorted (eV (pv 2) eY)))))),?_⟩
  refine⟨aW _,λq nq=>?_⟩
  have s1:=eW (o:=.lst []) nq
  have hq:=eX (H:=H) (a:=q) (o:=.lst [])
  generalize upd H q _=H1 at s1 hq ⊢
  refine⟨_,rfl,p,rfl,⟨_,SqL.of (s1 _ _ DU.at_)⟩,gS (K:=K) (a:=p) (xs:=as.map V.ref) (λi σ G=>∃ (as':List Addr) (x3 x4 x5:Option V),σ = [some v,some (.ref p),some (.ref q),x3,x4,x5]/\fi H G/\LsW H G q as' (((fv l kk).take i).flatMap (gr l)))
   ⟨[],none,none,none,rfl,s1,⟨hq,rfl,λi b t h=>by simp at h⟩⟩ (λi σ G _ ⟨_,_,_,_,_,s,_⟩=>SqL.of (s _ _ DU.at_)) ?_ ?_⟩
  ·rintro i y σ G1 N R Bq kN _ hi ⟨as',x3,x4,x5,rfl,S,L⟩
   have il:i<as.length:=by have:=(af.mp hi).1;rwa [aa]at this
   have il2:i<(fv l kk).length:=by rw[<-DU.len];exact il
   have ha:as[i]? = some as[i]:=ae il
   have ht:(fv l kk)[i]? = some (fv l kk)[i]:=ae il2
   have hta:=S _ _ (DU.each i _ _ ha ht)
   have tok:=lW ok kk _ (aG ht)
   rw[aj,ha]at hi
   cases hi
   generalize as[i]=ta at ha hta
   generalize (fv l kk)[i]=t at ht hta tok
   obtain⟨T,tl⟩:=tok
   have tne:t≠ []:=λz=>by rw[z]at tl;cases tl
   have fp:=vf (gr l) ht
   have tk:(fv l kk).take (i+1)=(fv l kk).take i ++ [t]:=by rw[bG,ht];rfl
   refine⟨_,rfl,ta,rfl,⟨_,SqL.of hta⟩,λpc npc=>jt t (λ_=>true) (λe=>V.int (e/2)) npc (SqL.of hta) (by rw[aa]) (by rw[aa];exact kh (by omega)) ?_ ?_⟩
   ·intro j x d H' hx hd sm P1 P0 k1 k0
    rw[aj,hd]at hx
    cases hx
    refine iA ?_
    exact⟨_,rfl,_,_,rfl,rfl,⟨by decide,by decide⟩,k1 rfl⟩
   rw[kJ]
   have e1:(t.map λe=>V.int (e/2))=(t.map (· / 2)).map V.int:=by rw[bJ];rfl
   rw[e1]
   have s2:=eW (o:=.lst ((t.map (· / 2)).map V.int)) npc
   have qpc:q≠pc:=fb L.at_ npc
   have qta:ta≠q:=λz=>by rw[z]at ha;have:=DU.each i q t ha ht;rw[nq]at this;cases this
   have hpc:=eX (H:=G1) (a:=pc) (o:=.lst ((t.map (· / 2)).map V.int))
   have hta:=s2 _ _ hta
   have L:=L.same s2
   have S:=S.trans s2
   generalize upd G1 pc _=G2 at s2 hpc hta L S ⊢
   dsimp only[ni]
   refine⟨_,rfl,_,rfl,_,rfl,ta,_,_,_,rfl,rfl,SqL.of hta,pW tne,_,rfl,_,l,_,rfl,Da.same S hv,ok,λpj G3 s3 npj hpj=>?_⟩
   have qpj:q≠pj:=fb L.at_ npj
   have jl:=tP ok (oth (t.getLastD 0))
   have L:=L.same s3
   have S:=S.trans s3
   have hta:=s3 _ _ hta
   have hpc:=s3 _ _ hpc
   refine⟨pj,rfl,⟨_,SqL.of hpj⟩,gS (K:=K) (a:=pj) (xs:=(jn l.2 (oth (t.getLastD 0))).map V.int) (λj σ G=>∃ (as':List Addr) (x4:Option V),σ = [some v,some (.ref p),some (.ref q),some (.ref ta),x4,some (.ref pc)]/\fi H G/\G pj=some (.lst ((jn l.2 (oth (t.getLastD 0))).map V.int))/\G ta=some (.lst (t.map V.int))/\G pc=some (.lst ((t.map (· / 2)).map V.int))/\LsW H G q as' (((fv l kk).take i).flatMap (gr l)++(((jn l.2 (oth (t.getLastD 0))).take j).filter λe=> !decide (e/2∈t.map (· / 2))).map λe=>t ++ [e]))
    ⟨as',x4,rfl,S,hpj,hta,hpc,by simpa using L⟩ (λj σ G _ ⟨_,_,_,_,h,_⟩=>SqL.of h) ?_ ?_⟩
   ·rintro j y σ G4 N2 R2 B2 kN2 _ hj ⟨as',x4,rfl,S,hpj,hta,hpc,L⟩
    rw[aj]at hj
    cases q1:(jn l.2 (oth (t.getLastD 0)))[j]? with
    |none=>rw[q1]at hj;cases hj
    |some e=>
     rw[q1]at hj
     cases hj
     have tk2:(jn l.2 (oth (t.getLastD 0))).take (j+1)=(jn l.2 (oth (t.getLastD 0))).take j ++ [e]:=by rw[bG,q1];rfl
     refine⟨_,rfl,_,_,rfl,rfl,⟨by decide,by decide⟩,_,rfl,_,.int (e/2),jc hpc,ik.mpr rfl,tI _,pS _,_,rfl,?_⟩
     rw[xB]
     have stp:((jn l.2 (oth (t.getLastD 0))).take (j+1)).filter (λe=> !decide (e/2∈t.map (· / 2)))=((jn l.2 (oth (t.getLastD 0))).take j).filter (λe=> !decide (e/2∈t.map (· / 2)))++(if(!decide (e/2∈t.map (· / 2)))=true then[e]else[]):=by
      rw[tk2,List.filter_append]
      congr 1
      rw[bY];rfl
     refine gN (λh=>?_) (λh=>?_)
     ·have h:(!decide (e/2∈t.map (· / 2)))=true:=h
      rw[aD h]at stp
      refine⟨_,rfl,.inl ⟨rfl,_,SqL.of L.at_⟩,_,rfl,_,rfl,by show 1<=sizeLine;decide,λp1 np1=>?_⟩
      have s5:=eW (o:=.lst [V.int e]) np1
      refine⟨ta,p1,_,_,rfl,rfl,s5 _ _ hta,eX,cb (kh (by rw[aa];show t.length+1<=1000;omega)),λp2 np2=>?_⟩
      have s6:=s5.trans (eW (o:=.lst (t.map V.int ++ [V.int e])) np2)
      have hp2:=eX (H:=upd G4 p1 (.lst [V.int e])) (a:=p2) (o:=.lst (t.map V.int ++ [V.int e]))
      have EC:G4 p2=none:=fi.free s5 np2
      generalize upd (upd G4 p1 _) p2 _=G5 at s6 hp2 ⊢
      have L6:=L.same s6
      have p2q:p2≠q:=(fb L.at_ EC).symm
      have cl:as'.length+1<=(fv l (kk+1)).length:=by
       have h1:as'.length=_:=L.len
       have h2:((((jn l.2 (oth (t.getLastD 0))).take (j+1)).filter λe=> !decide (e/2∈t.map (· / 2))).map λe=>t ++ [e]).length<=(gr l t).length:=by
        unfold gr fr
        rw[aa,aa]
        exact((eL (j+1) _).filter _).length_le
       rw[stp,ax,ah]at h2
       have h2:_+1<=(gr l t).length:=h2
       rw[h1,ah]
       show _<=((fv l kk).flatMap (gr l)).length
       omega
      refine⟨q,_,_,rfl,rfl,L6.at_,kL (by rw[aa];omega),?_⟩
      refine kN2 _ _ ⟨as' ++ [p2],_,rfl,fi.upd (S.trans s6) nq,by rw[fc (b9 qpj)];exact s6 _ _ hpj,by rw[fc qta];exact s6 _ _ hta,by rw[fc (b9 qpc)];exact s6 _ _ hpc,?_⟩
      rw[stp,ax,<-aN]
      exact L6.push (t:=t ++ [e]) (by rw[ax];exact hp2) (fi.free S EC) p2q
     ·have h:¬(!decide (e/2∈t.map (· / 2)))=true:=h
      rw[au h,bX]at stp
      exact kN2 _ _ ⟨as',_,rfl,S,hpj,hta,hpc,by rw[stp];exact L⟩
   ·rintro σ G4 ⟨as',x4,rfl,S,hpj,hta,hpc,L⟩
    rw[aa,bC]at L
    refine kN _ _ ⟨as',_,_,_,rfl,S,?_⟩
    rw[tk,List.flatMap_append,List.flatMap_singleton]
    exact L
  ·rintro σ G1 ⟨as',x3,x4,x5,rfl,S,L⟩
   rw[aa,DU.len,bC]at L
   have D:=L.du
   refine⟨_,rfl,q,_,fv l (kk+1),rfl,SqL.of D.at_,oj D.len D.each,λq' Z nq' zp zs=>?_⟩
   obtain⟨bs,DB⟩:=AQ D.len D.each nq' zp
   have pe:=t9 (by rw[aa];exact D.len) zp
   rw[kW pe zs (cH (λ{a b} h=>nE h) (qO G (kk+1)))]at DB
   exact k q' bs _ (S.trans (eW nq')) (fi.free S nq') DB
theorem tG {f1 f2:Addr}{fd1 fd2:FuncData}(F:Fn K mg "_law_first" jz ["_law_line_here","_law_some"] f fd)(B:Bm mg)
  (jV:Fn K mg "_law_web" mO ["_law_line_here","_law_train"] f1 fd1) (o4:fE P w K mg base CX0 3 f1 fd1 ["_law_line_here","_law_train"] (yR K))
  (iM:Fn K mg "_law_round" jw ["_law_train"] f2 fd2) (mC:fE P w K mg base CX0 2 f2 fd2 ["_law_train"] (nQ K)):fE P w K mg base CX0 4 f fd ["_law_line_here","_law_some"] (uu K):=by
 refine F.F.ok ir (λvs H Q E h=>?_) (λcdv A outer s H vs Q E hr h=>?_)
 ·obtain⟨v,p,l,k,as,rfl,_⟩:=h;rfl
 ·obtain⟨v,p,l,kk,as,rfl,hv,GL,k5,DU,D3,k⟩:=h
  have ok:=GL.gR
  refine⟨_,(eZ (fw (i:=2) ir.nd rfl (Or.inl rfl) (gf jM rfl B.list boot_list (eV (pv 1) eY)))
 (eZ (nV bz (jq (vV hr.units) (pv 2) (gu eY) (tK _))
 (eZ (fw (i:=3) ir.nd rfl (Or.inl rfl) (gh jE (fq o4 (hr.mono (by decide)) rfl jV.m jV.F.kp jV.b .nil fR (eV (pv 0) (eV (gh fV (pv 2) fg (λ_ _=>rfl)) eY))) fg (λ_ _=>rfl)))
 (eZ (gO (jq (CK hr.units) (fq mC (hr.mono (by decide)) rfl iM.m iM.F.kp iM.b .nil fR (eV (gh fV (pv 2) fg (λ_ _=>rfl)) eY)) (pv 3) (by with_unfolding_all rfl))
 (fh (fI (gh fV (pv 2) fg (λ_ _=>rfl)))) fP)
 (eZ (fw (i:=4) ir.nd rfl (Or.inr rfl) uH)
 (eZ (gQ bz rfl (fY (pv 3)) (fm (i:=5) ir.nd rfl (Or.inl rfl))
 (fh (pO (lH hr) (pv 4) (gf fW rfl B.tuple cT (eV (pv 5) eY)) rZ rfl)))
 (fh (qo (i:=2) ir.nd rfl rfl (fY (pv 2)) rfl mf (.name (by decide)) (λ_ _ _ _=>(fm (i:=0) mf.nd rfl (Or.inl rfl))) (λ_ _ _ _=>(j7 (fX (mS (lH hr) (gf (mq (K:=K) rfl) rfl B.tuple cT (eV (pv 0) eY)) (pv 1))))) (λ_ _ _ _=>(pv 0)))))))))
 (fh (fI nC)))),?_⟩
  refine⟨_,rfl,p,_,rfl,.inl (SqL.of DU.at_),λla nla=>?_⟩
  have s1:=eW (o:=.lst (as.map V.ref)) nla
  have DL:DuA (upd H la (.lst (as.map V.ref))) la as (fv l kk):=⟨eX,DU.len,λi a t h1 h2=>s1 _ _ (DU.each i a t h1 h2)⟩
  generalize upd H la _=H1 at s1 DL ⊢
  show oC _ _ _ _ _
  refine uc (λm σ G=>∃ (las:List Addr) (la:Addr) (ts:List (List Int)) (x3 x4 x5:Option V),σ = [some v,some (.ref p),some (.ref la),x3,x4,x5]/\fi H G/\DuA G la las ts/\Lft l kk ts/\fo l kk ts=fof l kk/\ts.length<=300/\m=ts.length)
   ⟨as,la,fv l kk,none,none,none,rfl,s1,DL,Lft.all GL,rfl,D3,rfl⟩ ?_ ?_
  ·rintro m σ G N R Bq kN kR kB ⟨las,la,ts,x3,x4,x5,rfl,S,DL,LF,FE,t3,rfl⟩
   refine⟨_,rfl,aW _,λe ne=>?_⟩
   have u1:=eW (o:=.lst []) ne
   have he:=eX (H:=G) (a:=e) (o:=.lst [])
   have S:=S.trans u1
   have DL:=DL.same u1
   generalize upd G e _=G1 at he S DL ⊢
   refine⟨dLI ts,.list [],DL.da,jL.mpr ⟨e,[],rfl,SqL.of he,gJ.mpr rfl⟩,v5 _,A4,_,rfl,?_⟩
   cases ts with
   |nil=>
    have e0:(!PyData.eqv (dLI []) (.list []))=false:=by show(!PyData.eqv (dLI []) (dLI []))=false;rw[lV (v5 _)];rfl
    rw[e0]
    refine gN (λz=>absurd z (by decide)) (λ_=>kB _ _ ?_)
    exact k _ G1 S (.inl ⟨by rw[<-FE];exact DA,rfl⟩)
   |cons t ts=>
    rw[By]
    refine gN (λ_=>?_) (λz=>absurd rfl z)
    have tm:=LF.sub t ar
    obtain⟨T,tl,tn⟩:=iV ok tm
    have hl0:=DL.len
    have la0:las[0]? = some (las[0]'(by rw[hl0];simp)):=ae _
    have hta:=DL.each 0 _ t la0 rfl
    generalize las[0]'(by rw[hl0];simp)=ta at la0 hta
    have DK:atI (las.map V.ref) 0=some (V.ref ta):=mv (by decide) (by rw[aj];show(las[0]?).map V.ref=_;rw[la0];rfl)
    refine⟨_,rfl,_,rfl,la,_,_,_,rfl,rfl,SqL.of DL.at_,DK,_,ta,l,t,rfl,Da.same S hv,hta,ok,tn,by omega,T,λwi wt wp wd was G2 hw u2 hwt OL _=>?_⟩
    refine⟨wt,_,_,_,rfl,rfl,.inl (.inl hwt),rfl,?_⟩
    have oe:∀ (i:Nat) a t',was[i]? = some a->((fy l t wi).map (·.1))[i]? = some t'->G2 a=some (.lst (t'.map V.int)):=λi a t' h1 h2=>by
     rw[aj]at h2
     cases q:(fy l t wi)[i]? with
     |none=>rw[q]at h2;cases h2
     |some e=>rw[q]at h2;cases h2;exact(OL.each i a e h1 q).2
    have ol:was.length=((fy l t wi).map (·.1)).length:=by rw[aa];exact OL.len
    have DW:DuA G2 wp was ((fy l t wi).map (·.1)):=⟨OL.at_,ol,oe⟩
    have wm:=λu=>AE (k:=kk) GL tm hw u
    have wnd:=(jj ok T tn wi).nd
    have wl:((fy l t wi).map (·.1)).length<=300:=by rw[aa];exact bF (sP GL tm wi) D3
    generalize (fy l t wi).map (·.1)=ws at DW wm wnd wl ol oe
    have S:=S.trans u2
    have DL:=DL.same u2
    refine⟨_,rfl,la,_,_,_,rfl,rfl,SqL.of DL.at_,DK,_,t,rfl,jc (u2 _ _ hta),by omega,λpr G3 u3 npr hpr=>?_⟩
    have S:=S.trans u3
    have DL:=DL.same u3
    have DW:=DW.same u3
    refine⟨_,rfl,_,dI (t.reverse.map oth),DW.da,jc hpr,A3 _,n8 _,_,rfl,?_⟩
    rw[DM]
    have FC:=Bu GL LF
    refine gN (λc=>?_) (λc=>?_)
    ·have c:t.reverse.map oth∈ws:=by simpa using c
     rw[aD ((wm _).mp c),FE]at FC
     exact⟨_,rfl,la,_,_,_,rfl,rfl,SqL.of DL.at_,DK,kR _ _ (k _ G3 S (.inr ⟨t,ta,FC,rfl,u3 _ _ (u2 _ _ hta)⟩))⟩
    have c:t.reverse.map oth∉ws:=by simpa using c
    rw[au (λz=>c ((wm _).mpr z)),FE]at FC
    refine λd nd=>?_
    have u4:=eW (o:=.dT []) nd
    have hd4:=eX (H:=G3) (a:=d) (o:=.dT [])
    generalize upd G3 d _=G4 at u4 hd4 ⊢
    refine⟨_,rfl,wp,rfl,⟨_,SqL.of (u4 _ _ DW.at_)⟩,gS (K:=K) (a:=wp) (xs:=was.map V.ref) (λj σ G=>∃ (kvs:List (List Key×V)) (x5:Option V),σ = [some v,some (.ref p),some (.ref la),some (.ref wp),some (.ref d),x5]/\fi G3 G/\G d=some (.dT kvs)/\kvs.length<=j/\wH kvs (ws.take j))
     ⟨[],x5,rfl,u4,hd4,aq _,wH.nil⟩ (λj σ G _ ⟨_,_,_,s,_⟩=>SqL.of (s _ _ DW.at_)) ?_ ?_⟩
    ·rintro j y σ G5 N2 R2 B2 kN2 _ hj ⟨kvs,x5,rfl,u5,hd5,kl,MK⟩
     rw[aj]at hj
     cases q1:was[j]? with
     |none=>rw[q1]at hj;cases hj
     |some b=>
      rw[q1]at hj
      cases hj
      have jl:j<ws.length:=by rw[<-DW.len];exact(af.mp q1).1
      have h1:ws[j]? = some ws[j]:=ae jl
      have hb:=u5 _ _ (DW.each j b _ q1 h1)
      have un:ws[j]∉ws.take j:=λz=>by
       obtain⟨m,hm,e⟩:=List.mem_take_iff_getElem.mp z
       have:=(cN wnd).mp e
       omega
      have tk:ws.take (j+1)=ws.take j ++ [ws[j]]:=by rw[bG,h1];rfl
      generalize ws[j]=u at h1 hb un tk
      refine⟨_,rfl,_,rfl,b,_,rfl,.inl ⟨SqL.of hb,λst nst=>?_⟩⟩
      have u6:=eW (o:=.tup (u.map V.int)) nst
      have hst:=eX (H:=G5) (a:=st) (o:=.tup (u.map V.int))
      have hd6:=u6 _ _ hd5
      generalize upd G5 st _=G6 at u6 hst hd6 ⊢
      obtain⟨MK',kl'⟩:=MK.put (v:=V.bl true) un
      refine⟨d,_,rfl,vH.t (k:=kyI u) hd6 (by rw[i8];exact hst) (kL (by omega)),?_⟩
      exact kN2 _ _ ⟨_,_,rfl,fi.upd (u5.trans u6) nd,eX,by rw[kl'];omega,by rw[tk];exact MK'⟩
    ·rintro σ G5 ⟨kvs,x5,rfl,u5,hd5,kl,MK⟩
     rw[aa,DW.len,bC]at MK
     have MG:∀ u,(ic kvs (kyI u)).isSome=decide (u∈grp l kk t):=λu=>by rw[MK u];exact decide_eq_decide.mpr (wm u)
     have S:=S.trans u5
     have DL:=DL.same u5
     have zl:(las.map V.ref).length=(las.zip (t::ts)).length:=by rw[aa,bK,hl0,Nat.min_self]
     refine⟨_,rfl,la,rfl,⟨_,SqL.of DL.at_⟩,λlb nlb=>A9 (las.map V.ref).length (las.zip (t::ts)) (λz=>decide (z.2∉grp l kk t)) (λz=>V.ref z.1) nlb zl (kL (by rw[aa];omega)) (λj Gx s hj=>(mV (SqL.of (K:=K) DL.at_)).go j Gx s hj) (λGx s=>(mV (SqL.of (K:=K) DL.at_)).stop Gx s) ?_ ?_⟩
     ·intro j x dd Gx Gy sx y hd P1 P0 k1 k0
      have hj:j<(las.map V.ref).length:=by rw[zl];exact(af.mp hd).1
      obtain⟨rfl,hx⟩:=(mV (SqL.of (K:=K) DL.at_)).yld j Gx x Gy sx hj y
      obtain⟨d1,d2⟩:=(eG (l₁:=las) (l₂:=t::ts) (i:=j) (z:=dd)).mp hd
      rw[aj,d1]at hx
      cases hx
      have ha:=sx _ _ (DL.each j _ _ d1 d2)
      refine⟨_,rfl,dd.1,_,rfl,.inl ⟨SqL.of ha,λst nst=>?_⟩⟩
      have u6:=eW (o:=.tup (dd.2.map V.int)) nst
      refine⟨_,rfl,d,_,rfl,o9.t (k:=kyI dd.2) (u6 _ _ (sx _ _ hd5)) (by rw[i8];exact eX),_,rfl,?_⟩
      rw[MG]
      refine gN (λh=>?_) (λh=>?_)
      ·exact⟨_,rfl,k1 _ (by simpa using h) u6⟩
      ·exact k0 _ (by simpa using h) u6
     ·intro G6 u6 hlb
      have zf:=pX (λu=>decide (u∉grp l kk t)) hl0
      have tf:(t::ts).filter (λu=>decide (u∉grp l kk t))=ts.filter λu=>decide (u∉grp l kk t):=by
       rw[bY,au (by simpa using jC ok tm)]
      rw[tf]at zf
      have DN:DuA G6 lb (((las.zip (t::ts)).filter λz=>decide (z.2∉grp l kk t)).map (·.1)) (ts.filter λu=>decide (u∉grp l kk t)):=by
       refine⟨by rw[hlb,bJ];rfl,by rw[<-zf,aa,aa],λi a u h1 h2=>?_⟩
       rw[<-zf]at h2
       rw[aj]at h1 h2
       cases q:((las.zip (t::ts)).filter λz=>decide (z.2∉grp l kk t))[i]? with
       |none=>rw[q]at h1;cases h1
       |some z=>
        rw[q]at h1 h2
        cases h1
        cases h2
        obtain⟨j,hj,e⟩:=bt.mp (aO.mp (aG q)).1
        obtain⟨d1,d2⟩:=(eG (l₁:=las) (l₂:=t::ts) (i:=j) (z:=z)).mp (by rw[<-e];exact ae hj)
        exact u6 _ _ (DL.each j _ _ d1 d2)
      have fe:=bH (λu=>decide (u∉grp l kk t)) ts
      exact kN (ts.filter λu=>decide (u∉grp l kk t)).length _ _ (by show _<ts.length+1;omega) ⟨_,lb,_,_,_,_,rfl,S.trans u6,DN,LF.next GL,FC.symm,by have:ts.length+1<=300:=t3;omega,rfl⟩
  ·rintro σ G Q1 Q2 hq ⟨x,e1,z,f⟩
   refine⟨x,e1,z,λe ne=>?_⟩
   obtain⟨d,e',h1,h2,h3,h4,b,h5,h6⟩:=f e ne
   exact⟨d,e',h1,h2,h3,h4,b,h5,hq _ _ h6⟩
end
structure FoA (G:Hp)(l:Ln)(rs:List V)(i:Nat):Prop where
 len:rs.length=i
 each:∀ (j:Nat) r,rs[j]? = some r->oz G r (fof l j)
theorem FoA.same {G G':Hp}{l:Ln}{rs:List V}{i:Nat}(h:FoA G l rs i)(s:fi G G'):FoA G' l rs i:=⟨h.len,λj r hr=>(h.each j r hr).same s⟩
theorem oz.no {G:Hp}{r:V}{o:Option (List Int)}(h:oz G r o)(i:Int):r≠ .int i:=by
 rcases h with⟨_,rfl⟩|⟨t,a,_,rfl,_⟩<;>intro z<;>cases z
theorem FoA.no {G:Hp}{l:Ln}{rs:List V}{i:Nat}(h:FoA G l rs i):∀ r∈rs,∀ i:Int,r≠ .int i:=λr hr i=>by
 obtain⟨j,hj,rfl⟩:=bt.mp hr
 exact(h.each j _ (ae hj)).no i
theorem FoA.push {G:Hp}{l:Ln}{rs:List V}{i:Nat}{r:V}(h:FoA G l rs i)(o:oz G r (fof l i)):FoA G l (rs ++ [r]) (i+1):=⟨by rw[ah,h.len];rfl,λj x hx=>by
 by_cases c:j<rs.length
 ·rw[ak c]at hx;exact h.each j x hx
 ·have e:j=i:=by
   have:=(af.mp hx).1
   rw[ah,bE,h.len]at this
   rw[h.len]at c
   omega
  subst e
  rw[az (by omega),h.len,bV]at hx
  cases hx
  exact o⟩
theorem DuA.IZ {G:Hp}{q f:Addr}{as:List Addr}{rs:List V}{ts:List (List Int)}(h:DuA G q as ts)(qf:q≠f)(hf:G f=some (.lst rs))(hr:∀ r∈rs,∀ i:Int,r≠ .int i)(hne:∀ t∈ts,t≠ []):DuA (hid f G) q as ts:=
 ⟨by rw[gz qf];exact h.at_,h.len,λi a t h1 h2=>by
  have h3:=h.each i a t h1 h2
  rw[gz (λz=>by rw[z,hf]at h3;exact xn (hne t (aG h2)) hr (bx h3.symm))]
  exact h3⟩
def yU (K:PySem.W.Frag):Sp:=λvs H Q _=>∃ (v:V) (l:Ln),vs = [v]/\Da K H (dL l) v/\gm l/\
 ((∀ k,k<6->(fv l k).length<=300)->∀ b r H',fi H H'->H' b=some (.tup [.int ((bst (fof l) 6).1:Nat),r])->oz H' r (bst (fof l) 6).2->Q (.ref b) H')/\
 ((∃ k,k<6/\300<(fv l k).length)->∀ H',fi H H'->Q (.str "many") H')
abbrev jP:Stmt:=top 44
theorem iZ:fH ["_law_line_here","_law_some","_law_found","_law_length","_law_many"] ["_law_line_here"] (fj jP):=⟨rfl,rfl,rfl,by decide +kernel,rfl,by decide +kernel,by decide +kernel⟩
theorem ot:gv (fj jP) ["_law_line_here","_law_some","_law_found","_law_length","_law_many"] {kind:=.function,names:=[(Str.ofString ".0",.local),(Str.ofString "_law_end",.local)],isGenerator:=false,isCoroutine:=false,more:=[]} ["_law_end"] 1 [none]:=⟨rfl,by decide +kernel,by decide +kernel,by decide +kernel,rfl,by decide +kernel,rfl,by decide +kernel⟩
theorem oq:gv (fj jP) ["_law_line_here","_law_some","_law_found","_law_length","_law_many"] {kind:=.function,names:=[(Str.ofString ".0",.local),(Str.ofString "_law_train",.local)],isGenerator:=false,isCoroutine:=false,more:=[]} ["_law_train"] 1 [none]:=⟨rfl,by decide +kernel,by decide +kernel,by decide +kernel,rfl,by decide +kernel,rfl,by decide +kernel⟩
section
variable {P:Program}{w:World}{K:PySem.W.Frag}{mg:Str->Option Value}{base:Heap}{f:Addr}{fd:FuncData}
theorem vZ {f1 f2:Addr}{fd1 fd2:FuncData}(F:Fn K mg "_law_due" jP ["_law_line_here"] f fd)(B:Bm mg)
  (iP:Fn K mg "_law_first" jz ["_law_line_here","_law_some"] f1 fd1) (mF:fE P w K mg base CX0 4 f1 fd1 ["_law_line_here","_law_some"] (uu K))
  (iO:Fn K mg "_law_grown" jy ["_law_line_here","_law_found"] f2 fd2) (mE:fE P w K mg base CX0 2 f2 fd2 ["_law_line_here","_law_found"] (ur K)):fE P w K mg base CX0 5 f fd ["_law_line_here"] (yU K):=by
 refine F.F.ok iZ (λvs H Q E h=>?_) (λcdv A outer s H vs Q E hr h=>?_)
 ·obtain⟨v,l,rfl,_⟩:=h;rfl
 ·obtain⟨v,l,rfl,hv,GL,kq,ke⟩:=h
  have ok:=GL.gR
  have o1:1<=l.1:=ok.one
  have o14:l.1<=14:=GL.most
  obtain⟨al,bl,rfl,hlt,us,hll,hlq⟩:=mY hv
  have ol:(nD l.1).length=(2*l.1).toNat:=by unfold nD;rw[aa,uA]
  have tne:∀ k,∀ t∈fv l k,t≠ []:=λk t ht=>(iV ok ht).2.2
  refine⟨_,(eZ (qo (i:=1) iZ.nd rfl rfl (jQ rfl B.range (eV (fu i6 fg (gh jE (pv 0) fg (λ_ _=>rfl))) eY)) rfl ot (.name (by decide)) (λ_ _ _ _=>(fm (i:=0) ot.nd rfl (Or.inl rfl))) (λ_ _ _ _=>iz) (λ_ _ _ _=>(gu (eV (pv 0) eY))))
 (eZ (fw (i:=2) iZ.nd rfl (Or.inl rfl) (gu eY))
 (eZ (gQ bz rfl (rY rfl B.range (eV fg (eV fg eY))) (fm (i:=3) iZ.nd rfl (Or.inl rfl))
 (eZ (gO (fX (Eu (fC gc rfl B.len dY (eV (pv 1) eY)) fg))
 (fh (fI iE)) fP)
 (eZ (gX (jB aL bh bg gC (pv 2) (eV (fq mF (hr.mono (by decide)) rfl iP.m iP.F.kp iP.b .nil fR (eV (pv 0) (eV (pv 1) eY))) eY)))
 (fh (fw (i:=1) iZ.nd rfl (Or.inl rfl) (fq mE (hr.mono (by decide)) rfl iO.m iO.F.kp iO.b .nil fR (eV (pv 0) (eV (pv 1) eY))))))))
 (eZ (gO (fX (zr (gh fV (pv 2) fg (λ_ _=>rfl))))
 (fh (fI (gG (eV fg (eV nC eY))))) fP)
 (eZ (fw (i:=4) iZ.nd rfl (Or.inl rfl) (fC gc rfl B.len dY (eV (m8 (fY (pv 2)) rfl oq (.name (by decide)) (λ_ _ _ _=>(fm (i:=0) oq.nd rfl (Or.inl rfl))) (λ_ _ _ _=>(j7 (fX (pR (pv 0))))) (λ_ _ _ _=>(pv 0))) eY)))
 (eZ (gO (fX (zr (gh fV (pv 2) (fu tq (pv 4) fg) (λ_ _=>rfl))))
 (fh (fI iE)) fP)
 (fh (fI (gG (eV (pv 4) (eV (gh fV (pv 2) (fu tq (pv 4) fg) (λ_ _=>rfl)) eY))))))))))),?_⟩
  refine⟨_,rfl,al,_,_,_,rfl,rfl,hlt,rfl,_,_,rfl,rfl,.inl ⟨by decide,by decide⟩,_,rfl,by show -(2 ^ 62)<=2*l.1;omega,by show 2*l.1<2 ^ 62;omega,λpd npd=>?_⟩
  refine xj (2*l.1).toNat (nD l.1) (rD H pd pd) (λt v=>rD.mono t v) npd ol.symm (kh (by omega)) (λi G s hi=>hi) (λG s=>aq _) ?_ ?_
  ·rintro i x d G G' sG ⟨us',hus⟩ ⟨rfl,rfl⟩ hd P1 P0 k1
   have hi:i<(2*l.1).toNat:=by have:=(af.mp hd).1;rwa [ol]at this
   have ed:d = [(0:Int)+(i:Int)]:=by
    unfold nD at hd
    rw[aj,uB hi]at hd
    have hd:[(0:Int)+(i:Int)]=d:=by simpa using hd
    exact hd.symm
   refine iA ?_
   refine⟨_,rfl,by show 1<=sizeLine;decide,λp np=>?_⟩
   have ppd:p≠pd:=(fb hus np).symm
   refine k1 _ _ (eW np) ⟨p,rfl,fi.free sG np,ppd,ppd,?_⟩
   rw[gz ppd,eX,ed];rfl
  intro vs H1 s1 hpd PW
  obtain⟨as0,rfl,BW⟩:=tZ PW
  have BW:=BW.same gI
  have D0:DuA H1 pd as0 (fv l 0):=⟨hpd,BW.1,λi a t h1 h2=>(BW.2 i a t h1 h2).2.2.2⟩
  dsimp only[ni]
  refine⟨aW _,λfa nfa=>?_⟩
  have s2:=eW (o:=.lst []) nfa
  have hf2:=eX (H:=H1) (a:=fa) (o:=.lst [])
  have D2:DuA (hid fa (upd H1 fa (.lst []))) pd as0 (fv l 0):=by rw[pV];exact D0.same (zW (fi.refl _) nfa)
  generalize upd H1 fa _=H2 at s2 hf2 D2 ⊢
  have Ib:=fi.free s1 nfa
  refine⟨1,7,rfl,⟨by decide,by decide,by decide,by decide⟩,i9 (λi σ G=>∃ (p:Addr) (as:List Addr) (rs:List V) (x3:Option V),σ = [some (.ref al),some (.ref p),some (.ref fa),x3,none]/\fi H G/\DuA (hid fa G) p as (fv l i)/\G fa=some (.lst rs)/\FoA (hid fa G) l rs i/\∀ k,k<i->(fv l k).length<=300)
   ⟨pd,as0,[],none,rfl,s1.trans s2,D2,hf2,⟨rfl,λj r h=>by simp at h⟩,λk hk=>by omega⟩ ?_ ?_⟩
  ·rintro i σ G N R Bq kN kR hi ⟨p,as,rs,x3,rfl,S,D,hf,FO,few⟩
   have hi6:i<6:=hi
   have DG:=D.same gI
   refine⟨_,rfl,p,_,rfl,.inl (SqL.of DG.at_),_,_,rfl,rfl,_,rfl,gN (λc=>?_) (λc=>?_)⟩
   ·have c:(300:Int)<((as.map V.ref).length:Int):=by simpa using c
    rw[aa,DG.len]at c
    exact kR _ _ (ke ⟨i,hi6,by omega⟩ G S)
   have c:¬(300:Int)<((as.map V.ref).length:Int):=by simpa using c
   rw[aa,DG.len]at c
   have h3:(fv l i).length<=300:=by omega
   refine⟨_,rfl,.inl ⟨rfl,_,SqL.of hf⟩,_,rfl,_,rfl,_,p,l,i,as,rfl,Da.same S hv,GL,by omega,DG,h3,λr G2 s2 OD=>?_⟩
   have S:=S.trans s2
   have D:=D.same (kI s2)
   have hf:=s2 _ _ hf
   have FO:=FO.same (kI s2)
   have OH:oz (hid fa G2) r (fof l i):=by
    rcases OD with z |⟨t,a,z1,z2,z3⟩
    ·exact .inl z
    ·refine .inr ⟨t,a,z1,z2,?_⟩
     have:=tne i t (xt GL z1).1
     rw[gz (λz=>by rw[z,hf]at z3;exact xn this FO.no (bx z3.symm))]
     exact z3
   have FO:=FO.push OH
   have rl:=FO.len
   rw[ah]at rl
   have rl:rs.length+1=i+1:=rl
   refine⟨fa,_,_,rfl,rfl,hf,kL (by omega),?_⟩
   have S:=fi.upd (o:=.lst (rs ++ [r])) S Ib
   have hf:=eX (H:=G2) (a:=fa) (o:=.lst (rs ++ [r]))
   rw[<-pV (p:=fa) (H:=G2) (o:=.lst (rs ++ [r]))]at D FO
   generalize upd G2 fa _=G3 at S hf D FO ⊢
   have DG:=D.same gI
   refine⟨_,rfl,_,rfl,_,p,l,i,as,rfl,Da.same S hv,GL,by omega,DG,λq as' G4 s4 nq DQ=>?_⟩
   have hf4:=s4 _ _ hf
   refine kN _ _ ⟨q,as',rs ++ [r],_,rfl,S.trans s4,DQ.IZ (fb hf nq).symm hf4 FO.no (tne (i+1)),hf4,FO.same (kI s4),λk hk=>?_⟩
   by_cases e:k=i
   ·subst e;exact h3
   ·exact few k (by omega)
  ·rintro σ G ⟨p,as,rs,x3,rfl,S,D,hf,FO,few⟩
   have FO:=FO.same gI
   have rl:rs.length=6:=FO.len
   obtain⟨M,M6,cnt,iff,be⟩:=Ap (fof l) (λk=>Bt GL) 6
   have hN:∀ (j:Nat) r,rs[j]? = some r->tJ r=(fof l j).isSome:=λj r hr=>by
    rcases FO.each j r hr with⟨z,rfl⟩|⟨t,a,z,rfl,_⟩
    ·rw[z];rfl
    ·rw[z];rfl
   have ce:=count_eq (f:=fof l) rl hN
   rw[cnt]at ce
   have h0:rs[0]? = some (rs[0]'(by omega)):=ae _
   have i0:=iff 0 (by decide)
   have O0:=FO.each 0 _ h0
   generalize rs[0]'(by omega)=r0 at h0 O0
   refine⟨_,rfl,fa,_,_,_,rfl,rfl,SqL.of hf,mv (v:=r0) (by decide) h0,_,rfl,?_⟩
   rcases O0 with⟨z,rfl⟩|⟨t,a,z,rfl,z3⟩
   ·refine gN (λ_=>?_) (λc=>absurd rfl c)
    have hM:M=0:=by
     rw[z]at i0
     have:¬0<M:=λq=>by have:=i0.mpr q;cases this
     omega
    subst hM
    refine⟨by show 2<=sizeLine;decide,λb nb=>kq few b .non _ (S.trans (eW nb)) (by rw[be];exact eX) (.inl ⟨by rw[be];rfl,rfl⟩)⟩
   ·refine gN (λc=>absurd c (by simp)) (λ_=>?_)
    have hM:0<M:=i0.mp (by rw[z];rfl)
    refine⟨_,rfl,fa,rfl,⟨_,SqL.of hf⟩,λq nq=>jt rs tJ id nq (SqL.of hf) rfl (kL (by omega)) ?_ ?_⟩
    ·intro j x d H' hx hd sm P1 P0 k1 k0
     have ex:d=x:=by rw[hd]at hx;exact bx hx
     subst ex
     have OJ:=FO.each j d hd
     rcases OJ with⟨w,rfl⟩|⟨t',a',w,rfl,_⟩
     ·exact⟨_,rfl,_,rfl,gN (λc=>absurd c (by decide)) (λ_=>k0 rfl)⟩
     ·exact⟨_,rfl,_,rfl,gN (λ_=>⟨_,rfl,k1 rfl⟩) (λc=>absurd rfl c)⟩
    have u1:=eW (o:=.lst ((rs.filter tJ).map id)) nq
    have hq:=eX (H:=G) (a:=q) (o:=.lst ((rs.filter tJ).map id))
    generalize upd G q _=G1 at u1 hq ⊢
    refine⟨q,_,rfl,.inl (SqL.of hq),?_⟩
    rw[List.map_id,ce]
    have hm:rs[M-1]? = some (rs[M-1]'(by omega)):=ae _
    have OM:=FO.each (M-1) _ hm
    generalize rs[M-1]'(by omega)=rm at hm OM
    have im:=(iff (M-1) (by omega)).mpr (by omega)
    have am:atI rs ((M:Int)-1)=some rm:=mv (by omega) (by rw[show((M:Int)-1).toNat=M-1 by omega];exact hm)
    have hf1:=u1 _ _ hf
    rcases OM with⟨w,_⟩|⟨t',a',w,rfl,w3⟩
    ·rw[w]at im;cases im
    refine⟨_,rfl,_,rfl,_,_,rfl,rfl,fa,_,_,_,rfl,rfl,SqL.of hf1,am,_,rfl,gN (λc=>absurd c (by simp)) (λ_=>?_)⟩
    refine⟨_,rfl,_,rfl,_,rfl,_,_,rfl,rfl,fa,_,_,_,rfl,rfl,SqL.of hf1,am,by show 2<=sizeLine;decide,λb nb=>?_⟩
    have u2:=eW (o:=.tup [.int (M:Int),.ref a']) nb
    refine kq few b (.ref a') _ (S.trans (u1.trans u2)) (by rw[be];exact eX) (.inr ⟨t',a',?_,rfl,u2 _ _ (u1 _ _ w3)⟩)
    rw[be,au (by omega)];exact w
end
def words:List Str:=["line","train","move","piece","many","text","row"]
def wV (cs:List Addr):Sp:=λvs H Q _=>∃ (e c:Addr) (j:Nat) (x:Str),vs = [.ref e]/\H e=some (wB e c)/\cs[j]? = some c/\words[j]? = some x/\∀ H',fi H H'->Q (.str x) H'
def wR (K:PySem.W.Frag):Sp:=λvs H Q _=>∃ (v:V) (l:Ln),vs = [v]/\Da K H (dL l) v/\gm l/\
 ((∀ k,k<6->(fv l k).length<=300)->∀ b r H',fi H H'->H' b=some (.tup [.int ((bst (fof l) 6).1:Nat),r])->pI H H' r (bst (fof l) 6).2->Q (.ref b) H')/\
 ((∃ k,k<6/\300<(fv l k).length)->∀ H',fi H H'->Q (.str "many") H')
abbrev lj:Stmt:=top 41
theorem lO:fH ["_law_kept_here","_law_found"] ["_law_kept_here"] (fj lj):=⟨rfl,rfl,rfl,by decide +kernel,rfl,by decide +kernel,by decide +kernel⟩
abbrev kZ:Stmt:=top 45
theorem iH:fH ["_law_line_here","_law_kept_here","_law_found","e"] ["_law_line_here"] (fj kZ):=⟨rfl,rfl,rfl,by decide +kernel,rfl,by decide +kernel,by decide +kernel⟩
section
variable {P:Program}{w:World}{K:PySem.W.Frag}{mg:Str->Option Value}{base:Heap}{f:Addr}{fd:FuncData}{D c1 c2 c3 c4 c5 c6 c7:Addr}
theorem DD (XS:Xs K mg D c1 c2 c3 c4 c5 c6 c7):∀ c∈ [c1,c2,c3,c4,c5,c6,c7],ExC K c:=λc hc=>by
 simp only[aJ,dQ,or_false]at hc
 rcases hc with rfl |rfl |rfl |rfl |rfl |rfl |rfl
 ·exact XS.Ax.e
 ·exact XS.xD.e
 ·exact XS.Aw.e
 ·exact XS.xE.e
 ·exact XS.km.e
 ·exact XS.Av.e
 ·exact XS.Cb.e
theorem bits {cs:List Addr}(nd:cs.Nodup){c:Addr}{j:Nat}(hj:cs[j]? = some c):cs.map (λd=>decide (c=d))=(List.range cs.length).map λi=>decide (i=j):=by
 refine dF λi=>?_
 rw[aj,aj]
 by_cases hi:i<cs.length
 ·rw[List.getElem?_range hi,ae hi]
  obtain⟨hl,e⟩:=af.mp hj
  show some (decide (c=cs[i]))=some (decide (i=j))
  congr 1
  by_cases h:i=j
  ·subst h;simp[e]
  ·have:c≠cs[i]:=λz=>h ((cN nd).mp (z.symm.trans e.symm))
   simp[h,this]
 ·rw[bI (by omega),bI (by simpa using hi)];rfl
theorem bit_count:∀ j,j<7->((List.range 7).map λi=>decide (i=j)).count true=1:=by decide
theorem DJ:∀ j,j<7->((List.range 7).map λi=>decide (i=j))[j]? = some true:=by decide
theorem DI:∀ j,j<7->∀ m,m<j->((List.range 7).map λi=>decide (i=j))[m]? = some false:=by decide
theorem uQ (F:Fn K mg "_law_kept" lj ["_law_kept_here"] f fd)(XS:Xs K mg D c1 c2 c3 c4 c5 c6 c7)(B:Bl mg):fE P w K mg base CX0 1 f fd ["_law_kept_here"] (wV [c1,c2,c3,c4,c5,c6,c7]):=by
 refine F.F.ok lO (λvs H Q E h=>?_) (λcdv A outer s H vs Q E hr h=>?_)
 ·obtain⟨e,c,j,x,rfl,_⟩:=h;rfl
 ·obtain⟨e,c,j,x,rfl,he,hc,hx,q⟩:=h
  have hm:c∈ [c1,c2,c3,c4,c5,c6,c7]:=aG hc
  have hj:j<7:=(af.mp hc).1
  have hE:=DD XS c hm
  have k1:=XS.eq c hm
  have hb:=bits XS.nd hc
  refine⟨_,(eZ (gO (zg (tj (fC gL rfl B.isinstance cf (eV (pv 0) (eV (pQ (v:=.ty "ValueError") rfl XS.VE pH rfl) eY)))))
 (fh (fI iE)) fP)
 (eZ (fw (i:=1) lO.nd rfl (Or.inl rfl) (gu (eV (fC gL rfl B.isinstance cf (eV (pv 0) (eV (jr (v:=.ref _) rfl XS.Ax.m rfl) eY))) (eV (fC gL rfl B.isinstance cf (eV (pv 0) (eV (jr (v:=.ref _) rfl XS.xD.m rfl) eY))) (eV (fC gL rfl B.isinstance cf (eV (pv 0) (eV (jr (v:=.ref _) rfl XS.Aw.m rfl) eY))) (eV (fC gL rfl B.isinstance cf (eV (pv 0) (eV (jr (v:=.ref _) rfl XS.xE.m rfl) eY))) eY))))))
 (eZ (fw (i:=1) lO.nd rfl (Or.inl rfl) (fu kn (pv 1) (gu (eV (fC gL rfl B.isinstance cf (eV (pv 0) (eV (jr (v:=.ref _) rfl XS.km.m rfl) eY))) (eV (fC gL rfl B.isinstance cf (eV (pv 0) (eV (jr (v:=.ref _) rfl XS.Av.m rfl) eY))) (eV (fC gL rfl B.isinstance cf (eV (pv 0) (eV (jr (v:=.ref _) rfl XS.Cb.m rfl) eY))) eY))))))
 (eZ (gO (jq Ex (jB aL PySem.F.slot_list_count PySem.F.type_list_count zI (pv 1) (eV rZ eY)) fg (tK _))
 (fh (fI iE)) fP)
 (fh (fI (gh fV (gu (eV iE (eV iE (eV iE (eV iE (eV iE (eV iE (eV iE eY)))))))) (jB aL PySem.F.slot_list_index PySem.F.type_list_index zH (pv 1) (eV rZ eY)) (λ_ _=>rfl)))))))),?_⟩
  refine⟨_,rfl,e,c,_,_,true,rfl,he,hE,rfl,λ_ h=>h,XS.val c hm,_,rfl,?_⟩
  refine pF ?_
  refine⟨_,rfl,e,c,_,_,_,rfl,he,hE,rfl,λ_ h=>h,k1 c1 (by simp),_,rfl,e,c,_,_,_,rfl,he,hE,rfl,λ_ h=>h,k1 c2 (by simp),_,rfl,e,c,_,_,_,rfl,he,hE,rfl,λ_ h=>h,k1 c3 (by simp),
   _,rfl,e,c,_,_,_,rfl,he,hE,rfl,λ_ h=>h,k1 c4 (by simp),by show 4<=sizeLine;decide,λp1 n1=>?_⟩
  have s1:=eW (o:=.lst [.bl (decide (c=c1)),.bl (decide (c=c2)),.bl (decide (c=c3)),.bl (decide (c=c4))]) n1
  refine⟨_,rfl,_,rfl,e,c,_,_,_,rfl,s1 _ _ he,hE,rfl,λ_ h=>h,k1 c5 (by simp),_,rfl,e,c,_,_,_,rfl,s1 _ _ he,hE,rfl,λ_ h=>h,k1 c6 (by simp),_,rfl,e,c,_,_,_,rfl,s1 _ _ he,hE,rfl,λ_ h=>h,k1 c7 (by simp),
   by show 3<=sizeLine;decide,λp2 n2=>?_⟩
  have s2:=eW (o:=.lst [.bl (decide (c=c5)),.bl (decide (c=c6)),.bl (decide (c=c7))]) n2
  refine⟨p1,p2,_,_,rfl,rfl,s2 _ _ eX,eX,by show 7<=sizeLine;decide,λp3 n3=>?_⟩
  have S12:=s1.trans s2
  generalize upd (upd H p1 _) p2 _=G at n3 S12 ⊢
  have s3:=eW (o:=.lst (([c1,c2,c3,c4,c5,c6,c7].map λd=>decide (c=d)).map V.bl)) n3
  have hp3:upd G p3 (.lst (([c1,c2,c3,c4,c5,c6,c7].map λd=>decide (c=d)).map V.bl)) p3=some (.lst (((List.range 7).map λi=>decide (i=j)).map V.bl)):=by
   rw[eX,hb];rfl
  have S:=S12.trans s3
  refine⟨_,rfl,.inl ⟨rfl,_,SqL.of hp3⟩,p3,_,true,rfl,rfl,hp3,rfl,_,rfl,gN (λz=>?_) (λ_=>?_)⟩
  ·have Jc:=bit_count j hj
   exact absurd z (by
    show ¬((!decide (V.int (((((List.range 7).map λi=>decide (i=j)).count true:Nat)):Int)=V.int 1))=true)
    rw[Jc];simp)
  refine⟨by show 7<=sizeLine;decide,λp4 n4=>?_⟩
  have s4:=eW (o:=.lst [.str "line",.str "train",.str "move",.str "piece",.str "many",.str "text",.str "row"]) n4
  refine⟨_,rfl,.inl ⟨rfl,_,SqL.of (s4 _ _ hp3)⟩,p3,_,true,j,rfl,rfl,s4 _ _ hp3,DJ j hj,DI j hj,?_⟩
  refine⟨p4,_,_,_,rfl,rfl,SqL.of eX,?_,q _ (S.trans s4)⟩
  have e:[V.str "line",.str "train",.str "move",.str "piece",.str "many",.str "text",.str "row"][j]? = some (V.str x):=by
   have e:[V.str "line",.str "train",.str "move",.str "piece",.str "many",.str "text",.str "row"]=words.map V.str:=rfl
   rw[e,aj,hx];rfl
  exact ox e
theorem uO {f1 f2:Addr}{fd1 fd2:FuncData}(F:Fn K mg "_law_told" kZ ["_law_line_here"] f fd)(XS:Xs K mg D c1 c2 c3 c4 c5 c6 c7)(B:Bm mg)(jU:Fn K mg "longest" mM ["line"] f1 fd1)(o3:fE P w K mg base (CXr P w base) 9 f1 fd1 ["line"] (qe K c5))
  (ji:Fn K mg "_law_kept" lj ["_law_kept_here"] f2 fd2):fE P w K mg base CX0 10 f fd ["_law_line_here"] (wR K):=by
 have wK:fE P w K mg base CX0 1 f2 fd2 ["_law_kept_here"] (wV [c1,c2,c3,c4,c5,c6,c7]):=uQ ji XS B.toBl
 refine F.F.ok iH (λvs H Q E h=>?_) (λcdv A outer s H vs Q E hr h=>?_)
 ·obtain⟨v,l,rfl,_⟩:=h;rfl
 ·obtain⟨v,l,rfl,hv,GL,k1,k2⟩:=h
  refine⟨_,(eZ (fw (i:=1) iH.nd rfl (Or.inl rfl) nC)
 (eZ (fw (i:=2) iH.nd rfl (Or.inl rfl) nC)
 (eZ (CC (j:=3) rfl rfl rfl iH.nd rfl rfl rfl XS.yD.m (λpn W E hW=>(fh (fw (i:=2) iH.nd rfl (Or.inl rfl) (zq o3 (hr.mono (by decide)) rfl jU.m jU.F.kp jU.b .nil hW (eV (pv 0) eY))))) (λe=>(fh (fw (i:=1) iH.nd rfl (Or.inl rfl) (pv 3)))))
 (eZ (gO (fX (pR (pv 1)))
 (fh (fI (fq wK (hr.mono (by decide)) rfl ji.m ji.F.kp ji.b .nil fR (eV (pv 1) eY)))) fP)
 (fh (fI (pv 2))))))),?_⟩
  refine⟨_,rfl,_,l,rfl,hv,GL,λh3 b r H' s' hb OF=>?_,λh3 H' s' e he=>?_⟩
  ·exact⟨_,rfl,_,rfl,pF ⟨_,rfl,k1 h3 b r H' s' hb OF⟩⟩
  ·refine⟨e,c5,rfl,rfl,XS.cat c5 (by simp),?_⟩
   refine⟨_,rfl,?_⟩
   refine⟨_,rfl,_,rfl,C9 ?_⟩
   exact⟨_,rfl,e,c5,4,_,rfl,eX,rfl,rfl,λH2 s2=>k2 h3 H2 (s'.trans ((eW he).trans s2))⟩
end
def sR (K:PySem.W.Frag):Sp:=λvs H Q _=>∃ (a:Addr) (ns:List Int),vs = [.ref a]/\SqL K H a (ns.map V.int)/\∀ H',Q (.bl true) H'
theorem zA {x:Str}(h:PyData.strOk x=true):OkD (.str x):=⟨h,by simp[PyData.depth]⟩
theorem uV {K:PySem.W.Frag} :PySem.W.kitOne K (.type "str") (.type "tuple")=some false:=by
 unfold PySem.W.kitOne PySem.W.kitCls
 rfl
def dO:Option (List Int)->PyData
 |none=>.none
 |some t=>dI t
def dB (x:Nat×Option (List Int)):PyData:=.tuple [.int (x.1:Nat),dO x.2]
theorem zB (x:Nat×Option (List Int)):OkD (dB x):=by
 obtain⟨m,o⟩:=x
 cases o with
 |none=>exact⟨by simp[dB,dO,PyData.canLay0,PyData.canLayAll0],by simp[dB,dO,PyData.depth,PyData.depthAll]⟩
 |some t=>
  have h:=n8 t
  refine⟨by simp only[dB,dO,PyData.canLay0,PyData.canLayAll0,Bool.and_true,Bool.true_and];exact h.1,?_⟩
  have h2:PyData.depth (dI t)<=1:=by
   simp only[dI,PyData.depth]
   have:=gK (f:=PyData.int) (k:=0) (λ_=>by simp[PyData.depth]) t
   omega
  simp only[dB,dO,PyData.depth,PyData.depthAll]
  omega
theorem oz.da {K:PySem.W.Frag}{G:Hp}{r:V}{o:Option (List Int)}(h:oz G r o):Da K G (dO o) r:=by
 rcases h with⟨rfl,rfl⟩|⟨t,a,rfl,rfl,h⟩
 ·show Dg _ _ .none .non
  simp only[Dg]
 ·exact jc h
theorem pI.d {H0 G:Hp}{r:V}{o:Option (List Int)}(h:pI H0 G r o):oz G r o:=by
 rcases h with h |⟨t,a,h1,h2,h3,h4,h5⟩
 ·exact .inl h
 ·exact .inr ⟨t,a,h1,h2,h4⟩
theorem Aq {K:PySem.W.Frag}{G:Hp}{b:Addr}{r:V}{x:Nat×Option (List Int)}(hb:G b=some (.tup [.int (x.1:Nat),r]))(h:oz G r x.2):Da K G (dB x) (.ref b):=hJ.mpr ⟨b,_,rfl,SqT.of hb,Dgs.two (ik.mpr rfl) h.da⟩
abbrev rQ:Stmt:=top 46
theorem oF:fH ["_law_script","_law_line_here","_law_handed","_law_due_here","_law_again","_law_found"] ["_law_script"] (fj rQ):=⟨rfl,rfl,rfl,by decide +kernel,rfl,by decide +kernel,by decide +kernel⟩
section
variable {P:Program}{w:World}{K:PySem.W.Frag}{mg:Str->Option Value}{base:Heap}{f:Addr}{fd:FuncData}
set_option maxHeartbeats 16000000 in
theorem CM {f1 f6 f7:Addr}{fd1 fd6 fd7:FuncData}(F:Fn K mg "law" rQ ["_law_script"] f fd)(B:Bm mg)
  (jh:Fn K mg "_law_line" lh ["_law_script"] f1 fd1) (nK:fE P w K mg base CX0 3 f1 fd1 ["_law_script"] (wU K))
  (jg:Fn K mg "_law_told" kZ ["_law_line_here"] f6 fd6) (nJ:fE P w K mg base CX0 10 f6 fd6 ["_law_line_here"] (wR K))
  (jW:Fn K mg "_law_due" jP ["_law_line_here"] f7 fd7) (o6:fE P w K mg base CX0 5 f7 fd7 ["_law_line_here"] (yU K)):
  fE P w K mg base CX0 11 f fd ["_law_script"] (sR K):=by
 refine F.F.ok oF (λvs H Q E h=>?_) (λcdv A outer s H vs Q E hr h=>?_)
 ·obtain⟨a,ns,rfl,_⟩:=h;rfl
 ·obtain⟨a,ns,rfl,hS,k⟩:=h
  refine⟨_,(eZ (fw (i:=1) oF.nd rfl (Or.inl rfl) (fq nK (hr.mono (by decide)) rfl jh.m jh.F.kp jh.b .nil fR (eV (pv 0) eY)))
 (eZ (fw (i:=2) oF.nd rfl (Or.inl rfl) (gG (eV (gh jE (pv 1) fg (λ_ _=>rfl)) (eV (gf jM rfl B.list boot_list (eV (gh jE (pv 1) fg (λ_ _=>rfl)) eY)) eY))))
 (eZ (fw (i:=3) oF.nd rfl (Or.inl rfl) (fq o6 (hr.mono (by decide)) rfl jW.m jW.F.kp jW.b .nil fR (eV (pv 1) eY)))
 (eZ (gQ bz rfl (jQ rfl B.range (eV fg eY)) (fm (i:=4) oF.nd rfl (Or.inl rfl))
 (eZ (fw (i:=5) oF.nd rfl (Or.inl rfl) (fq nJ (hr.mono (by decide)) rfl jg.m jg.F.kp jg.b .nil fR (eV (pv 2) eY)))
 (eZ (gO (PW.pt (BS (jq (vV hr.units) (pv 5) (pv 3) (tK _)) (zc (jq (vV hr.units) (pv 2) (pv 1) (tK _)))))
 (fh (fI rZ)) fP)
 (fh (gO (tj (fC mr rfl B.isinstance cf (eV (pv 5) (eV (pQ (v:=.ty "tuple") rfl B.tuple cT rfl) eY))))
 (eZ (gO (PW.pt (BS (zg (tj (fC mr rfl B.isinstance cf (eV (gh jE (pv 5) fg (λ_ _=>rfl)) (eV (pQ (v:=.ty "int") rfl B.int boot_int rfl) eY))))) (zc (tj (fC mr rfl B.isinstance cf (eV (gh jE (pv 5) fg (λ_ _=>rfl)) (eV (pQ (v:=.ty "bool") rfl B.bool boot_bool rfl) eY)))))))
 (fh (fI rZ)) fP)
 (fh (gO (fX (pR (gh jE (pv 5) fg (λ_ _=>rfl))))
 (fh (gX (jB aL bh bg gC (gh jE (pv 5) fg (λ_ _=>rfl)) (eV fg eY)))) fP))) fP)))))
 (fh (fI rZ)))))),?_⟩
  refine⟨_,rfl,a,ns,rfl,hS,λv l H1 s1 hv GL=>?_⟩
  obtain⟨al,bl,rfl,hlt,us,hll,hlq⟩:=mY hv
  refine⟨_,rfl,al,_,_,_,rfl,rfl,hlt,rfl,_,rfl,al,_,_,_,rfl,rfl,hlt,rfl,bl,us,rfl,.inl hll,λq1 nq1=>⟨by show 2<=sizeLine;decide,λq2 nq2=>?_⟩⟩
  have u1:=eW (o:=.lst us) nq1
  have u2:=eW (o:=.tup [.int l.1,.ref q1]) nq2
  have s2:=u1.trans u2
  have dk:Da K (upd (upd H1 q1 (.lst us)) q2 (.tup [.int l.1,.ref q1])) (dL l) (.ref q2):=oS eX (jL.mpr ⟨q1,us,rfl,SqL.of (u2 _ _ eX),Das.same s2 hlq⟩)
  generalize upd (upd H1 q1 (.lst us)) q2 _=H2 at s2 dk ⊢
  clear u1 u2
  have dl2:=Da.same s2 hv
  clear hv hlt hll hlq s2 s1
  have os:PyData.strOk (Str.ofString "many")=true:=by decide +kernel
  refine⟨_,rfl,_,l,rfl,dl2,GL,λh3 db dr H3 s3 hdb dOD=>?_,λh3 H3 s3=>?_⟩
  ·have dd:Da K H3 (dB (bst (fof l) 6)) (.ref db):=Aq hdb dOD
   refine⟨2,rfl,by decide,by decide,i9 (λi σ G=>∃ (x4 x5:Option V),σ = [some (.ref a),some (.ref al),some (.ref q2),some (.ref db),x4,x5]/\fi H3 G) ⟨none,none,rfl,fi.refl _⟩ ?_ ?_⟩
   ·rintro i σ G N R Bq kN kR hi ⟨x4,x5,rfl,S⟩
    refine⟨_,rfl,_,l,rfl,Da.same (s3.trans S) dk,GL,λ_ b r G2 s2 hb OF=>?_,λ⟨z,z1,z2⟩=>absurd (h3 z z1) (by omega)⟩
    have S2:=S.trans s2
    have T2:=s3.trans S2
    have OF:=OF.pre S
    refine⟨_,rfl,_,rfl,dB _,dB _,Aq hb OF.d,Da.same S2 dd,zB _,zB _,_,rfl,?_⟩
    rw[lV (zB _)]
    refine pF ?_
    refine⟨_,rfl,_,rfl,dL l,dL l,Da.same T2 dk,Da.same T2 dl2,se _,se _,_,rfl,?_⟩
    rw[lV (se _)]
    refine pF ?_
    refine⟨_,rfl,_,_,_,true,rfl,.tup hb,uW,_,rfl,C9 ?_⟩
    refine⟨_,rfl,b,_,_,_,rfl,rfl,SqT.of hb,rfl,_,_,_,true,rfl,.int _,uW,_,rfl,pF ?_⟩
    refine⟨_,rfl,b,_,_,_,rfl,rfl,SqT.of hb,rfl,_,_,_,false,rfl,.int _,tO,_,rfl,pF ?_⟩
    refine⟨_,rfl,b,_,_,_,rfl,rfl,SqT.of hb,rfl,_,rfl,?_⟩
    rcases OF with⟨_,rfl⟩|⟨t,ta,_,rfl,nta,hta,tl⟩
    ·exact gN (λc=>absurd c (by simp)) (λ_=>kN _ _ ⟨_,_,rfl,S2⟩)
    ·refine gN (λ_=>?_) (λc=>absurd rfl c)
     refine⟨_,rfl,b,_,_,_,rfl,rfl,SqT.of hb,rfl,.inl ⟨rfl,_,SqL.of hta⟩,ta,_,_,rfl,rfl,hta,kh (by rw[aa];omega),?_⟩
     exact kN _ _ ⟨_,_,rfl,fi.upd S2 nta⟩
   ·rintro σ G ⟨x4,x5,rfl,S⟩
    exact k _
  ·refine⟨2,rfl,by decide,by decide,i9 (λi σ G=>∃ (x4 x5:Option V),σ = [some (.ref a),some (.ref al),some (.ref q2),some (.str "many"),x4,x5]/\fi H3 G) ⟨none,none,rfl,fi.refl _⟩ ?_ ?_⟩
   ·rintro i σ G N R Bq kN kR hi ⟨x4,x5,rfl,S⟩
    obtain⟨z,z1,z2⟩:=h3
    refine⟨_,rfl,_,l,rfl,Da.same (s3.trans S) dk,GL,λfew=>absurd (few z z1) (by omega),λ_ G2 s2=>?_⟩
    have S2:=S.trans s2
    have T2:=s3.trans S2
    refine⟨_,rfl,_,rfl,.str "many",.str "many",tU.mpr rfl,tU.mpr rfl,zA os,zA os,_,rfl,?_⟩
    rw[lV (zA os)]
    refine pF ?_
    refine⟨_,rfl,_,rfl,dL l,dL l,Da.same T2 dk,Da.same T2 dl2,se _,se _,_,rfl,?_⟩
    rw[lV (se _)]
    refine pF ?_
    exact⟨_,rfl,_,_,_,false,rfl,.str _,uV,_,rfl,pF (kN _ _ ⟨_,_,rfl,S2⟩)⟩
   ·rintro σ G ⟨x4,x5,rfl,S⟩
    exact k _
end
structure En (K:PySem.W.Frag)(x:Str)(st:Stmt)(f:Addr)(oc:Value)(od:Option Addr)(osl:Array (Option Value))(kV doc pm:Value)(an:Option Addr)(cdv ct:Value):Prop where
 a:PySem.W.nsIn K mainGlobals x=some (some (.ref f))
 l:K.lookup f=some ⟨oc,od,.func (PySem.W.fnOf x x (kj st) (ju st) (fj st) .none kV doc pm an cdv ct),osl⟩
 c:PySem.W.codeIn K cdv x=true
 k:PySem.W.keepIn K (.ref f)=true
theorem gF {K:PySem.W.Frag}{h:Heap}{mg:Str->Option Value}{x:Str}{st:Stmt}{ps:List Str}{f:Addr}{oc:Value}{od an:Option Addr}{osl:Array (Option Value)}{kV doc pm cdv ct:Value}(X:K.In h)(G:h.Ns mainGlobals mg)(e:En K x st f oc od osl kV doc pm an cdv ct)
  (hb:∀ (kV doc pm:Value) (an:Option Addr) (cdv ct:Value) (us:List Value),us.length=ps.length->bindArgs (PySem.W.fnOf x x (kj st) (ju st) (fj st) .none kV doc pm an cdv ct) ⟨us,[]⟩=pure (ps.zip us)):
  Fn K mg x st ps f (PySem.W.fnOf x x (kj st) (ju st) (fj st) .none kV doc pm an cdv ct):=⟨Ag (st:=st) e.l e.c e.k,eO X G e.a,(Ag (st:=st) e.l e.c e.k).binds (ps:=ps) hb⟩
theorem bn1 {F:FuncData}{p:List Str}(k:∀ a0,bindArgs F ⟨[a0],[]⟩=pure (p.zip [a0]))(us:List Value)(h:us.length=1):bindArgs F ⟨us,[]⟩=pure (p.zip us):=match us,h with |[a0],_=>k a0
theorem bn2 {F:FuncData}{p:List Str}(k:∀ a0 a1,bindArgs F ⟨[a0,a1],[]⟩=pure (p.zip [a0,a1]))(us:List Value)(h:us.length=2):bindArgs F ⟨us,[]⟩=pure (p.zip us):=match us,h with |[a0,a1],_=>k a0 a1
theorem bn3 {F:FuncData}{p:List Str}(k:∀ a0 a1 a2,bindArgs F ⟨[a0,a1,a2],[]⟩=pure (p.zip [a0,a1,a2]))(us:List Value)(h:us.length=3):bindArgs F ⟨us,[]⟩=pure (p.zip us):=match us,h with |[a0,a1,a2],_=>k a0 a1 a2
theorem all_mk {l:PySem.W.OpenLaw}{w:World}{K:PySem.W.Frag}{h:Heap}{mg:Str->Option Value}{fa f1 f2 f3 f4 f5 f6 f7 f8 f9 f10 f11 f12 f13 f14 f15 f16 f17 f18 f19 f20 f21 f22 f23 f24 f25 f26 f27 f28 f29 f30:Addr}(X:K.In h)(G:h.Ns mainGlobals mg)(hfa:mg "law" = some (.ref fa))
  {od1 an1 od2 an2 od3 an3 od4 an4 od5 an5 od6 an6 od7 an7 od8 an8 od9 an9 Hx KJ Hw KI Hv KH Hu KG Ht KD Hs KC Hr KA Hq Kz Ho Ky Hn Kx Hm Kw Hl Kv Hk Ku Hj Kt Hi Ks Hh Kr Hg Kq Hf Kp He Ko Hd Kn Hc Fx:Option Addr}{sl1 sl2 sl3 sl4 sl5 sl6 sl7 sl8 sl9 Gs Gr Gq Gp Gn Gm Gk Gj Gh Gg Gf Ge Gb Ga F9 F8 F7 F6 F5 F4 F2:Array (Option Value)}{oc1 kV1 dc1 pm1 cd1 ct1 oc2 kV2 dc2 pm2 cd2 ct2 oc3 kV3 dc3 pm3 cd3 ct3 oc4 kV4 dc4 pm4 cd4 ct4 oc5 kV5 dc5 pm5 cd5 ct5 oc6 kV6 dc6 pm6 cd6 ct6 oc7 kV7 dc7 pm7 cd7 ct7 oc8 kV8 dc8 pm8 cd8 ct8 oc9 kV9 dc9 pm9 cd9 ct9 HV IG Jz Ha Kk JW HU IF Jy G9 Kj JV HS IE Jx G0 Ki JU HR ID Jw GZ Kh JT HQ IC Jv GY Kg JQ HP IB Ju GX Kf JP HN IA Jt GW Ke JO HM Iz Js GV Kd JN HL Iy Jr GU Kc JM HK Iw Jq GS Kb JL HJ Iv Jp GR J9 JK HI Iu Jo GQ J8 JJ HH Ir Jn GP J7 JI HG Iq Jm GO J6 JH HE Ip Jl GN J5 JG HD Io Jk GK J4 JF HC Im Jj GJ J0 JE HB Il Ji GI JZ JD HA Ik Jh GH JY JC Hz Ij Jg GG JX JB Hy EJ Fo Et Fs Fp:Value}
  (e1:En K "other_end" iJ f1 oc1 od1 sl1 kV1 dc1 pm1 an1 cd1 ct1)
  (e2:En K "piece_of" kX f2 oc2 od2 sl2 kV2 dc2 pm2 an2 cd2 ct2)
  (e3:En K "joined" kD f3 oc3 od3 sl3 kV3 dc3 pm3 an3 cd3 ct3)
  (e4:En K "turned" lP f4 oc4 od4 sl4 kV4 dc4 pm4 an4 cd4 ct4)
  (e5:En K "free_ends" ig f5 oc5 od5 sl5 kV5 dc5 pm5 an5 cd5 ct5)
  (e6:En K "moves_of" kY f6 oc6 od6 sl6 kV6 dc6 pm6 an6 cd6 ct6)
  (e7:En K "first_steps" jo f7 oc7 od7 sl7 kV7 dc7 pm7 an7 cd7 ct7)
  (e8:En K "lists_of" j6 f8 oc8 od8 sl8 kV8 dc8 pm8 an8 cd8 ct8)
  (e9:En K "come_to" mP f9 oc9 od9 sl9 kV9 dc9 pm9 an9 cd9 ct9)
  (e10:En K "trains_of" iI f10 HV Hx Gs IG Jz Ha KJ Kk JW)
  (e11:En K "parted" nT f11 HU Hw Gr IF Jy G9 KI Kj JV)
  (e12:En K "groups" lQ f12 HS Hv Gq IE Jx G0 KH Ki JU)
  (e13:En K "first_own_twin" iw f13 HR Hu Gp ID Jw GZ KG Kh JT)
  (e14:En K "longest" mM f14 HQ Ht Gn IC Jv GY KD Kg JQ)
  (e15:En K "_law_cell_at" jm f15 HP Hs Gm IB Ju GX KC Kf JP)
  (e16:En K "_law_mix" kC f16 HN Hr Gk IA Jt GW KA Ke JO)
  (e17:En K "_law_turned_row" iu f17 HM Hq Gj Iz Js GV Kz Kd JN)
  (e18:En K "_law_other" ie f18 HL Ho Gh Iy Jr GU Ky Kc JM)
  (e19:En K "_law_joined" gW f19 HK Hn Gg Iw Jq GS Kx Kb JL)
  (e20:En K "_law_line" lh f20 HJ Hm Gf Iv Jp GR Kw J9 JK)
  (e21:En K "_law_renamed" jk f21 HI Hl Ge Iu Jo GQ Kv J8 JJ)
  (e22:En K "_law_round" jw f22 HH Hk Gb Ir Jn GP Ku J7 JI)
  (e23:En K "_law_moves" jx f23 HG Hj Ga Iq Jm GO Kt J6 JH)
  (e24:En K "_law_web" mO f24 HE Hi F9 Ip Jl GN Ks J5 JG)
  (e25:En K "_law_kept" lj f25 HD Hh F8 Io Jk GK Kr J4 JF)
  (e26:En K "_law_grown" jy f26 HC Hg F7 Im Jj GJ Kq J0 JE)
  (e27:En K "_law_first" jz f27 HB Hf F6 Il Ji GI Kp JZ JD)
  (e28:En K "_law_due" jP f28 HA He F5 Ik Jh GH Ko JY JC)
  (e29:En K "_law_told" kZ f29 Hz Hd F4 Ij Jg GG Kn JX JB)
  (e30:En K "law" rQ f30 Hy Hc F2 EJ Fo Et Fx Fs Fp)
  (z1:PySem.W.nsIn K mainGlobals "len" = some none) (z2:PySem.W.nsIn K mainGlobals "range" = some none) (z3:PySem.W.nsIn K mainGlobals "sorted" = some none) (z4:PySem.W.nsIn K mainGlobals "enumerate" = some none) (z5:PySem.W.nsIn K mainGlobals "reversed" = some none) (z6:PySem.W.nsIn K mainGlobals "min" = some none) (z7:PySem.W.nsIn K mainGlobals "max" = some none) (z8:PySem.W.nsIn K mainGlobals "list" = some none) (z9:PySem.W.nsIn K mainGlobals "int" = some none) (z10:PySem.W.nsIn K mainGlobals "isinstance" = some none) (z11:PySem.W.nsIn K mainGlobals "zip" = some none) (z12:PySem.W.nsIn K mainGlobals "sum" = some none) (z13:PySem.W.nsIn K mainGlobals "all" = some none) (z14:PySem.W.nsIn K mainGlobals "set" = some none) (z15:PySem.W.nsIn K mainGlobals "tuple" = some none) (z16:PySem.W.nsIn K mainGlobals "abs" = some none) (z17:PySem.W.nsIn K mainGlobals "bool" = some none) (z18:PySem.W.nsIn K mainGlobals "dict" = some none) (z19:PySem.W.nsIn K mainGlobals "str" = some none)
  {C0 C1 C2 C3 C4 C5 C6 C7:Addr} (ve:PySem.W.nsIn K mainGlobals "ValueError" = some none) (xb0:kc K "TurnError" C0) (xb1:kc K "NoLine" C1) (xb2:kc K "NoTrain" C2) (xb3:kc K "NoMove" C3) (xb4:kc K "NoPiece" C4) (xb5:kc K "TooMany" C5) (xb6:kc K "NoText" C6) (xb7:kc K "NoRow" C7) (xd1:nH K C0 C1) (xd2:nH K C0 C2) (xd3:nH K C0 C3) (xd4:nH K C0 C4) (xd5:nH K C0 C5) (xd6:nH K C0 C6) (xd7:nH K C0 C7) (xe1:oy K C1 C2 C3 C4 C5 C6 C7) (xe2:oy K C2 C1 C3 C4 C5 C6 C7) (xe3:oy K C3 C1 C2 C4 C5 C6 C7) (xe4:oy K C4 C1 C2 C3 C5 C6 C7) (xe5:oy K C5 C1 C2 C3 C4 C6 C7) (xe6:oy K C6 C1 C2 C3 C4 C5 C7) (xe7:oy K C7 C1 C2 C3 C4 C5 C6) (nd:[C1,C2,C3,C4,C5,C6,C7].Nodup)
  {tk0:Tok} (ck0:PySem.W.nsIn K mainGlobals "MOST_STANDINGS" = some (some (.int 300 tk0)))
  {tk1:Tok} (ck1:PySem.W.nsIn K mainGlobals "MOST_TRAINS" = some (some (.int 300 tk1)))
  {tk2:Tok} (ck2:PySem.W.nsIn K mainGlobals "MOST_LENGTH" = some (some (.int 6 tk2))):
  ∃ fd:FuncData,(∀ (s:Shared) (v:Value),BindsTo s fd ⟨[v],[]⟩ [("_law_script",v)])/\∀ base:Heap,K.In base->base.Ns mainGlobals mg->fE l.prog w K mg base CX0 11 fa fd ["_law_script"] (sR K):=by
 have e:=hfa.symm.trans (eO X G e30.a)
 cases e
 have B:Bm mg:=⟨⟨aS X G z1,aS X G z2,aS X G z3,aS X G z4,aS X G z5,aS X G z6,aS X G z7,aS X G z8,aS X G z9,aS X G z10⟩,aS X G z11,aS X G z12,aS X G z13,aS X G z14,aS X G z15,aS X G z16,aS X G z17,aS X G z18,aS X G z19⟩
 have XS:=DV X G ve xb0 xb1 xb2 xb3 xb4 xb5 xb6 xb7 xd1 xd2 xd3 xd4 xd5 xd6 xd7 xe1 xe2 xe3 xe4 xe5 xe6 xe7 nd
 have C:Cm mg tk0:=⟨eO X G ck0⟩
 have C2:Cn mg tk1:=⟨eO X G ck1⟩
 have C3:Cl mg tk2:=⟨eO X G ck2⟩
 have fD:=gF (ps:=["end"]) X G e1 λ_ _ _ _ _ _=>bn1 (λ_=>rfl)
 have hG:=gF (ps:=["end"]) X G e2 λ_ _ _ _ _ _=>bn1 (λ_=>rfl)
 have kT:=gF (ps:=["line","end"]) X G e3 λ_ _ _ _ _ _=>bn2 (λ_ _=>rfl)
 have kQ:=gF (ps:=["train"]) X G e4 λ_ _ _ _ _ _=>bn1 (λ_=>rfl)
 have fS:=gF (ps:=["line","train","end"]) X G e5 λ_ _ _ _ _ _=>bn3 (λ_ _ _=>rfl)
 have je:=gF (ps:=["line","train"]) X G e6 λ_ _ _ _ _ _=>bn2 (λ_ _=>rfl)
 have h7:=gF (ps:=["line","train"]) X G e7 λ_ _ _ _ _ _=>bn2 (λ_ _=>rfl)
 have jf:=gF (ps:=["standings"]) X G e8 λ_ _ _ _ _ _=>bn1 (λ_=>rfl)
 have jX:=gF (ps:=["line","train"]) X G e9 λ_ _ _ _ _ _=>bn2 (λ_ _=>rfl)
 have iL:=gF (ps:=["line","length"]) X G e10 λ_ _ _ _ _ _=>bn2 (λ_ _=>rfl)
 have kS:=gF (ps:=["line","trains"]) X G e11 λ_ _ _ _ _ _=>bn2 (λ_ _=>rfl)
 have kU:=gF (ps:=["line","length"]) X G e12 λ_ _ _ _ _ _=>bn2 (λ_ _=>rfl)
 have gE:=gF (ps:=["line","length"]) X G e13 λ_ _ _ _ _ _=>bn2 (λ_ _=>rfl)
 have jU:=gF (ps:=["line"]) X G e14 λ_ _ _ _ _ _=>bn1 (λ_=>rfl)
 have fO:=gF (ps:=["_law_script","_law_k"]) X G e15 λ_ _ _ _ _ _=>bn2 (λ_ _=>rfl)
 have fx:=gF (ps:=["_law_cell","_law_k"]) X G e16 λ_ _ _ _ _ _=>bn2 (λ_ _=>rfl)
 have gD:=gF (ps:=["_law_number","_law_many"]) X G e17 λ_ _ _ _ _ _=>bn2 (λ_ _=>rfl)
 have ft:=gF (ps:=["_law_end"]) X G e18 λ_ _ _ _ _ _=>bn1 (λ_=>rfl)
 have fM:=gF (ps:=["_law_line_here","_law_end"]) X G e19 λ_ _ _ _ _ _=>bn2 (λ_ _=>rfl)
 have jh:=gF (ps:=["_law_script"]) X G e20 λ_ _ _ _ _ _=>bn1 (λ_=>rfl)
 have hX:=gF (ps:=["_law_line_here","_law_cell"]) X G e21 λ_ _ _ _ _ _=>bn2 (λ_ _=>rfl)
 have iM:=gF (ps:=["_law_train"]) X G e22 λ_ _ _ _ _ _=>bn1 (λ_=>rfl)
 have iN:=gF (ps:=["_law_line_here","_law_train"]) X G e23 λ_ _ _ _ _ _=>bn2 (λ_ _=>rfl)
 have jV:=gF (ps:=["_law_line_here","_law_train"]) X G e24 λ_ _ _ _ _ _=>bn2 (λ_ _=>rfl)
 have ji:=gF (ps:=["_law_kept_here"]) X G e25 λ_ _ _ _ _ _=>bn1 (λ_=>rfl)
 have iO:=gF (ps:=["_law_line_here","_law_found"]) X G e26 λ_ _ _ _ _ _=>bn2 (λ_ _=>rfl)
 have iP:=gF (ps:=["_law_line_here","_law_some"]) X G e27 λ_ _ _ _ _ _=>bn2 (λ_ _=>rfl)
 have jW:=gF (ps:=["_law_line_here"]) X G e28 λ_ _ _ _ _ _=>bn1 (λ_=>rfl)
 have jg:=gF (ps:=["_law_line_here"]) X G e29 λ_ _ _ _ _ _=>bn1 (λ_=>rfl)
 have FA:=gF (ps:=["_law_script"]) X G e30 λ_ _ _ _ _ _=>bn1 (λ_=>rfl)
 refine⟨PySem.W.fnOf "law" "law" (kj rQ) (ju rQ) (fj rQ) .none EJ Fo Et Fx Fs Fp,λs v=>.of_eq rfl,λbase _ _=>?_⟩
 have XT:Xt K mg _:=⟨XS.km⟩
 have kr:fE l.prog w K mg base CX0 2 _ _ _ _:=qy hX fx gD B.toBl
 have nK:fE l.prog w K mg base CX0 3 _ _ _ _:=uP jh fx fO ft hX kr B.toBl
 have iq:fE l.prog w K mg base CX0 2 _ _ _ _:=tH fS B.toBl hG kT
 have nI:fE l.prog w K mg base CX0 3 _ _ _ _:=uM je fD fS iq
 have mD:fE l.prog w K mg base CX0 2 _ _ _ _:=tE iN ft fM B.toBl
 have q9:fE l.prog w K mg base CX0 2 _ _ _ _:=yb kQ B.toBl fD
 have ky:fE l.prog w K mg base (CXr l.prog w base) 4 _ _ _ _:=qB h7 B C XT je nI
 have o8:fE l.prog w K mg base (CXr l.prog w base) 5 _ _ _ _:=v3 jX B h7 ky jf
 have o4:fE l.prog w K mg base CX0 3 _ _ _ _:=vY jV B iN mD
 have mB:fE l.prog w K mg base (CXr l.prog w base) 3 _ _ _ _:=tu iL B C2 XT fS iq fD
 have rb:fE l.prog w K mg base (CXr l.prog w base) 6 _ _ _ _:=yc kS B jX o8
 have rf:fE l.prog w K mg base (CXr l.prog w base) 7 _ _ _ _:=ye kU B kS rb iL mB kQ q9
 have jd:fE l.prog w K mg base (CXr l.prog w base) 8 _ _ _ _:=nZ gE B kU rf
 have o3:fE l.prog w K mg base (CXr l.prog w base) 9 _ _ _ _:=vX jU B C3 gE jd
 have mC:fE l.prog w K mg base CX0 2 _ _ _ _:=tD iM ft
 have mE:fE l.prog w K mg base CX0 2 _ _ _ _:=tF iO B ft fM
 have mF:fE l.prog w K mg base CX0 4 _ _ _ _:=tG iP B jV o4 iM mC
 have o6:fE l.prog w K mg base CX0 5 _ _ _ _:=vZ jW B iP mF iO mE
 have nJ:fE l.prog w K mg base CX0 10 _ _ _ _:=uO jg XS B jU o3 ji
 exact CM FA B jh nK jg nJ jW o6
theorem walk {l:PySem.W.OpenLaw}{q:Program}{loose:List Str}{XP:(Str->Option Value)->Heap->Prop}{YP:World->Heap->Prop}{d:DefRec}{K:Params->PySem.W.Frag}(hn:l.most=some 63)(hdf:d.params.defaults = [])
  (hY:∀ (w:World) (h:Heap),YP w h->(K w.params).In h)
  (F:∀ (w:World) (mg:Str->Option Value) (fa:Addr) (h:Heap),(K w.params).In h->h.Ns mainGlobals mg->mg d.name=some (.ref fa)->
   ∃ fd:FuncData,(∀ (s:Shared) (u:Value),BindsTo s fd ⟨[u],[]⟩ [("_law_script",u)])/\∀ base:Heap,(K w.params).In base->base.Ns mainGlobals mg->fE l.prog w (K w.params) mg base CX0 11 fa fd ["_law_script"] (sR (K w.params))):
  PySem.W.WalkO q loose XP YP l.row.toRowW d [] (λf vs=>PySem.call f vs):=
 L2.AF (n:=63) (k:=11) (x:= "_law_script") (CX:=λ_=>CX0) (sp:=λw=>sR (K w.params)) hn (by decide) hdf ⟨rfl,by decide,by decide⟩ hY F (λ_ _ a ns hl _ hS=>⟨a,ns,rfl,hS,λ_=>rfl⟩) λ_ _ _ _ _ z=>z
end K43
namespace PySem.W.Fast
def tw10017549770785998301:=0
def tw10056722695030999800:=0
def tw10064566302026910406:=0
def tw10150509999498097178:=0
def tw10174318296109613896:=0
def tw10333316595138029563:=0
def tw10600326347822800310:=0
def tw10675186601221371339:=0
def tw10865645885630862243:=0
def tw10881091079455950324:=0
def tw10930659051381990348:=0
def tw1094111735749986857:=0
def tw10953617711327873986:=0
def tw10965092673053143509:=0
def tw11013239090255664155:=0
def tw11073037082313484818:=0
def tw11125420671604118140:=0
def tw11180256971206118362:=0
def tw11341046457500730459:=0
def tw11347561273226353330:=0
def tw11368006774522177090:=0
def tw11406708316479059722:=0
def tw11464388776040489446:=0
def tw11510294130113284660:=0
def tw11665396196011527726:=0
def tw1168655094675859923:=0
def tw11723761154386037821:=0
def tw11863539847893957133:=0
def tw11889506944539831274:=0
def tw11929458966141346064:=0
def tw11929782179623354089:=0
def tw11931541295495205975:=0
def tw11960424323237119319:=0
def tw12160660580655233997:=0
def tw1231522925569660976:=0
def tw12360104255564620899:=0
def tw12585603186512430068:=0
def tw12623776628668738347:=0
def tw12735222416591544765:=0
def tw12772736578331253437:=0
def tw12851473162410773041:=0
def tw12951897921107553627:=0
def tw13011308426846415348:=0
def tw13065628568310960213:=0
def tw13104904982795771410:=0
def tw13215129056854234217:=0
def tw13256258189371369973:=0
def tw13264387565390102885:=0
def tw13286231125605353826:=0
def tw13292300869194326101:=0
def tw13451038634586641317:=0
def tw13517383816260149861:=0
def tw13526053964336523491:=0
def tw13634570383726840435:=0
def tw13653821443885314840:=0
def tw13659720242279014654:=0
def tw13664300624802014904:=0
def tw13685827449982308006:=0
def tw13694544827136354768:=0
def tw13815550893842611693:=0
def tw1388364153349214115:=0
def tw13955644443877318613:=0
def tw14047803472316799731:=0
def tw14075981601305115767:=0
def tw1419733052892727607:=0
def tw14229952142292190771:=0
def tw14273736458590885488:=0
def tw14329016199819848786:=0
def tw14395050242951438073:=0
def tw14472866691479021252:=0
def tw14560449127865191232:=0
def tw14582055840134950706:=0
def tw14592579334558440208:=0
def tw14760522804150495993:=0
def tw14769411983282041277:=0
def tw14817056694722635586:=0
def tw14872032579153095112:=0
def tw1487585400298083087:=0
def tw14914851011995832867:=0
def tw14979056081996854926:=0
def tw15063054160953405645:=0
def tw15093973176746489852:=0
def tw15107784858847865791:=0
def tw15129151170592112974:=0
def tw15213755153676707710:=0
def tw1524650621942982120:=0
def tw15312036360999328728:=0
def tw15365806749107693066:=0
def tw15435659597797068198:=0
def tw15463802608985092904:=0
def tw15480743170614622969:=0
def tw15488127585439377633:=0
def tw15493172481998004995:=0
def tw1549326943347641836:=0
def tw1552137916771395351:=0
def tw15563809751643121832:=0
def tw15694551377821886840:=0
def tw15697625960366432265:=0
def tw15739197757661151093:=0
def tw15799679503674751807:=0
def tw1589580092510001355:=0
def tw15937741310144962842:=0
def tw16068780659710129259:=0
def tw16123042460999658195:=0
def tw16224004382540894183:=0
def tw16229822560994087170:=0
def tw16255815869359919736:=0
def tw16274808334874444919:=0
def tw16311960876070743230:=0
def tw16332345473261730256:=0
def tw16332364265390375358:=0
def tw16358061647053261917:=0
def tw16361771822036978252:=0
def tw16391695481649252203:=0
def tw16437520747944279907:=0
def tw1654515290177986322:=0
def tw16545570348857079594:=0
def tw16620767606966919851:=0
def tw16770411253866854850:=0
def tw1683447844471382147:=0
def tw16852131825379508279:=0
def tw16852700955756337035:=0
def tw1693674677381740059:=0
def tw1696050677271571322:=0
def tw17005496834411506476:=0
def tw17008382990009635355:=0
def tw17050781527628134131:=0
def tw17142209532025492880:=0
def tw17183050067331076592:=0
def tw17185344089701784265:=0
def tw17291270225012965942:=0
def tw17291657077200191093:=0
def tw17378563317576789550:=0
def tw17400554627626350515:=0
def tw17466953055813477273:=0
def tw17544239199306523869:=0
def tw17578167897612127753:=0
def tw17596441544248424941:=0
def tw17613410985121545740:=0
def tw17631295607310247085:=0
def tw17655773482623491800:=0
def tw1767151927412841451:=0
def tw17710341721897173169:=0
def tw17863889698979263773:=0
def tw17921682244748078793:=0
def tw17957048573937283514:=0
def tw17972175621017611526:=0
def tw18049261888588066977:=0
def tw18080312226985252797:=0
def tw18114324120932989632:=0
def tw18190138250829062460:=0
def tw18334018381614239251:=0
def tw18425675754500026286:=0
def tw1911625838956836651:=0
def tw1950375888468658602:=0
def tw2071985345167304339:=0
def tw2083798959560558887:=0
def tw2091496685447039613:=0
def tw2098440868156176590:=0
def tw2178628784593713034:=0
def tw2305716669336259965:=0
def tw234463057644877747:=0
def tw2469329262257394976:=0
def tw2494579699503419025:=0
def tw2516106225034127638:=0
def tw2524395035526489786:=0
def tw254148746242043844:=0
def tw2626094486845354609:=0
def tw2709251301951888575:=0
def tw2760327750963903063:=0
def tw2824004589067268036:=0
def tw2962812546247456001:=0
def tw3029686751049565468:=0
def tw3077370177012943926:=0
def tw3142257165633390688:=0
def tw3328605414205313453:=0
def tw3330029078773238366:=0
def tw3370281877409070774:=0
def tw3388836700412995783:=0
def tw3450809130901432476:=0
def tw3495876884736480807:=0
def tw351395924906388178:=0
def tw3584966543604756675:=0
def tw3659443288974067190:=0
def tw3672941256167065226:=0
def tw3718593661283410737:=0
def tw3826437051189561015:=0
def tw3915476678645895907:=0
def tw3987670099653875784:=0
def tw4004576382567925692:=0
def tw4020332001089410856:=0
def tw4025134435801341620:=0
def tw4027031192795647558:=0
def tw4083858955993617515:=0
def tw4233211754422011365:=0
def tw4300749216230168826:=0
def tw4301869742961578694:=0
def tw432502724400007677:=0
def tw4419930790586503848:=0
def tw4587868993292705816:=0
def tw4668315381841871065:=0
def tw4697726106351791101:=0
def tw4729890828202159256:=0
def tw4748886408560848066:=0
def tw483019376932827350:=0
def tw4854572838070027274:=0
def tw4859379038453686863:=0
def tw4860297955145473681:=0
def tw4881666643512963669:=0
def tw4940755722326893899:=0
def tw5052832219719026146:=0
def tw5068538453150203817:=0
def tw5069890296416093312:=0
def tw5248616001312872034:=0
def tw5305665527854292230:=0
def tw538209016873691462:=0
def tw5435083887348689151:=0
def tw5474392360242111956:=0
def tw5511596047337093943:=0
def tw5699184763768943190:=0
def tw5726575968649967210:=0
def tw5978933725730203828:=0
def tw605884179168474292:=0
def tw609870792564168038:=0
def tw6140875026742605658:=0
def tw6170356633000104696:=0
def tw6197460955708383410:=0
def tw620535622230642977:=0
def tw6208435600735283532:=0
def tw6411340837518110756:=0
def tw6455522790698381610:=0
def tw6460693664209223441:=0
def tw6608319890849655896:=0
def tw6731361286437289041:=0
def tw6806943217126378783:=0
def tw6807735190139478877:=0
def tw6816668395240723327:=0
def tw6825317806304250816:=0
def tw684988430961027767:=0
def tw6892032050452657798:=0
def tw6990726633724130488:=0
def tw7000745170135341438:=0
def tw707870020593038785:=0
def tw7108943100338264631:=0
def tw7212759160997718748:=0
def tw7252057198021909195:=0
def tw7471437948015728189:=0
def tw7473483737899977559:=0
def tw7545434178039661148:=0
def tw7596772383247648745:=0
def tw7754658642515243097:=0
def tw7944714610300891194:=0
def tw8001354558482614763:=0
def tw805339476139223913:=0
def tw8079334077905761522:=0
def tw8180931074116179043:=0
def tw8297784645435490029:=0
def tw8361687501918506875:=0
def tw839469285028014342:=0
def tw8491816991022018817:=0
def tw8506096308284148873:=0
def tw8519158103814392968:=0
def tw8576780824553197488:=0
def tw8794380865862077931:=0
def tw8844465153163973125:=0
def tw8846868715069055993:=0
def tw8888120545095196199:=0
def tw8901410408475179382:=0
def tw8924356190019740162:=0
def tw8987191803409074323:=0
def tw9046411339306820479:=0
def tw9084243108095240056:=0
def tw9137817614684471411:=0
def tw915686815518464548:=0
def tw9180127764247776377:=0
def tw9189752060105353772:=0
def tw9267808546579377220:=0
def tw9284652175864290255:=0
def tw9378792565062558331:=0
def tw9497255631792084279:=0
def tw9521494770692682621:=0
def tw9565001521699676440:=0
def tw9584508704078450936:=0
def tw9619126773467833131:=0
def tw9626063568804096279:=0
def tw9632529803530996541:=0
def tw9661715381655149946:=0
def tw9662236741041566251:=0
def tw9669684718902603354:=0
def tw9686199754127860662:=0
def tw9710831980582238142:=0
def tw9784842501792576560:=0
def tw9896864493956333285:=0
end PySem.W.Fast
open PySem PySem.W PyProof.Rows
set_option maxRecDepth 100000 in
set_option maxHeartbeats 0 in
theorem PySem.Challenge.cw_turnline_k43_longest_train_turned_holds : PySem.Challenge.rw_turnline_k43_longest_train_turned.Holds := by
 w_on;o_law;k_head;(case hw=>w_witness2)
 k_fill
 refine K43.walk (l:=PySem.Challenge.rw_turnline_k43_longest_train_turned) rfl rfl (λw h Y=>PySem.W.kIn_of Y) ?F
 case F=>
  intro w mg fa h KX G hmg
  refine' K43.all_mk KX G hmg ⟨?a1,?l1,?c1,?k1⟩ ⟨?a2,?l2,?c2,?k2⟩ ⟨?a3,?l3,?c3,?k3⟩ ⟨?a4,?l4,?c4,?k4⟩ ⟨?a5,?l5,?c5,?k5⟩ ⟨?a6,?l6,?c6,?k6⟩ ⟨?a7,?l7,?c7,?k7⟩ ⟨?a8,?l8,?c8,?k8⟩ ⟨?a9,?l9,?c9,?k9⟩ ⟨?a10,?l10,?c10,?k10⟩ ⟨?a11,?l11,?c11,?k11⟩ ⟨?a12,?l12,?c12,?k12⟩ ⟨?a13,?l13,?c13,?k13⟩ ⟨?a14,?l14,?c14,?k14⟩ ⟨?a15,?l15,?c15,?k15⟩ ⟨?a16,?l16,?c16,?k16⟩ ⟨?a17,?l17,?c17,?k17⟩ ⟨?a18,?l18,?c18,?k18⟩ ⟨?a19,?l19,?c19,?k19⟩ ⟨?a20,?l20,?c20,?k20⟩ ⟨?a21,?l21,?c21,?k21⟩ ⟨?a22,?l22,?c22,?k22⟩ ⟨?a23,?l23,?c23,?k23⟩ ⟨?a24,?l24,?c24,?k24⟩ ⟨?a25,?l25,?c25,?k25⟩ ⟨?a26,?l26,?c26,?k26⟩ ⟨?a27,?l27,?c27,?k27⟩ ⟨?a28,?l28,?c28,?k28⟩ ⟨?a29,?l29,?c29,?k29⟩ ⟨?a30,?l30,?c30,?k30⟩ ?z1 ?z2 ?z3 ?z4 ?z5 ?z6 ?z7 ?z8 ?z9 ?z10 ?z11 ?z12 ?z13 ?z14 ?z15 ?z16 ?z17 ?z18 ?z19 ?ve ?xb0 ?xb1 ?xb2 ?xb3 ?xb4 ?xb5 ?xb6 ?xb7 ?xd1 ?xd2 ?xd3 ?xd4 ?xd5 ?xd6 ?xd7 ?xe1 ?xe2 ?xe3 ?xe4 ?xe5 ?xe6 ?xe7 ?nd ?ck0 ?ck1 ?ck2
  case a1|l1|c1|k1|a2|l2|c2|k2|a3|l3|c3|k3|a4|l4|c4|k4|a5|l5|c5|k5|a6|l6|c6|k6|a7|l7|c7|k7|a8|l8|c8|k8|a9|l9|c9|k9|a10|l10|c10|k10|a11|l11|c11|k11|a12|l12|c12|k12|a13|l13|c13|k13|a14|l14|c14|k14|a15|l15|c15|k15|a16|l16|c16|k16|a17|l17|c17|k17|a18|l18|c18|k18|a19|l19|c19|k19|a20|l20|c20|k20|a21|l21|c21|k21|a22|l22|c22|k22|a23|l23|c23|k23|a24|l24|c24|k24|a25|l25|c25|k25|a26|l26|c26|k26|a27|l27|c27|k27|a28|l28|c28|k28|a29|l29|c29|k29|a30|l30|c30|k30|z1|z2|z3|z4|z5|z6|z7|z8|z9|z10|z11|z12|z13|z14|z15|z16|z17|z18|z19=>k_is
  (case ve=>k_is)
  (case xb0=>refine'⟨?u1,?u2,?u3,?u4,?u5,?u6,?u7,?u8,?u9⟩;(case u1=>k_is);(case u2=>k_exc);(case u3=>k_is);(case u4=>k_is);(case u5=>k_is);(case u6=>k_is);(case u7=>k_is);(case u8=>k_is);(case u9=>k_is))
  (case xb1=>refine'⟨?u1,?u2,?u3,?u4,?u5,?u6,?u7,?u8,?u9⟩;(case u1=>k_is);(case u2=>k_exc);(case u3=>k_is);(case u4=>k_is);(case u5=>k_is);(case u6=>k_is);(case u7=>k_is);(case u8=>k_is);(case u9=>k_is))
  (case xb2=>refine'⟨?u1,?u2,?u3,?u4,?u5,?u6,?u7,?u8,?u9⟩;(case u1=>k_is);(case u2=>k_exc);(case u3=>k_is);(case u4=>k_is);(case u5=>k_is);(case u6=>k_is);(case u7=>k_is);(case u8=>k_is);(case u9=>k_is))
  (case xb3=>refine'⟨?u1,?u2,?u3,?u4,?u5,?u6,?u7,?u8,?u9⟩;(case u1=>k_is);(case u2=>k_exc);(case u3=>k_is);(case u4=>k_is);(case u5=>k_is);(case u6=>k_is);(case u7=>k_is);(case u8=>k_is);(case u9=>k_is))
  (case xb4=>refine'⟨?u1,?u2,?u3,?u4,?u5,?u6,?u7,?u8,?u9⟩;(case u1=>k_is);(case u2=>k_exc);(case u3=>k_is);(case u4=>k_is);(case u5=>k_is);(case u6=>k_is);(case u7=>k_is);(case u8=>k_is);(case u9=>k_is))
  (case xb5=>refine'⟨?u1,?u2,?u3,?u4,?u5,?u6,?u7,?u8,?u9⟩;(case u1=>k_is);(case u2=>k_exc);(case u3=>k_is);(case u4=>k_is);(case u5=>k_is);(case u6=>k_is);(case u7=>k_is);(case u8=>k_is);(case u9=>k_is))
  (case xb6=>refine'⟨?u1,?u2,?u3,?u4,?u5,?u6,?u7,?u8,?u9⟩;(case u1=>k_is);(case u2=>k_exc);(case u3=>k_is);(case u4=>k_is);(case u5=>k_is);(case u6=>k_is);(case u7=>k_is);(case u8=>k_is);(case u9=>k_is))
  (case xb7=>refine'⟨?u1,?u2,?u3,?u4,?u5,?u6,?u7,?u8,?u9⟩;(case u1=>k_is);(case u2=>k_exc);(case u3=>k_is);(case u4=>k_is);(case u5=>k_is);(case u6=>k_is);(case u7=>k_is);(case u8=>k_is);(case u9=>k_is))
  (case xd1=>refine'⟨?u1,?u2⟩;(case u1=>k_is);(case u2=>k_is))
  (case xd2=>refine'⟨?u1,?u2⟩;(case u1=>k_is);(case u2=>k_is))
  (case xd3=>refine'⟨?u1,?u2⟩;(case u1=>k_is);(case u2=>k_is))
  (case xd4=>refine'⟨?u1,?u2⟩;(case u1=>k_is);(case u2=>k_is))
  (case xd5=>refine'⟨?u1,?u2⟩;(case u1=>k_is);(case u2=>k_is))
  (case xd6=>refine'⟨?u1,?u2⟩;(case u1=>k_is);(case u2=>k_is))
  (case xd7=>refine'⟨?u1,?u2⟩;(case u1=>k_is);(case u2=>k_is))
  (case xe1=>refine'⟨?u1,?u2,?u3,?u4,?u5,?u6⟩;(case u1=>k_is);(case u2=>k_is);(case u3=>k_is);(case u4=>k_is);(case u5=>k_is);(case u6=>k_is))
  (case xe2=>refine'⟨?u1,?u2,?u3,?u4,?u5,?u6⟩;(case u1=>k_is);(case u2=>k_is);(case u3=>k_is);(case u4=>k_is);(case u5=>k_is);(case u6=>k_is))
  (case xe3=>refine'⟨?u1,?u2,?u3,?u4,?u5,?u6⟩;(case u1=>k_is);(case u2=>k_is);(case u3=>k_is);(case u4=>k_is);(case u5=>k_is);(case u6=>k_is))
  (case xe4=>refine'⟨?u1,?u2,?u3,?u4,?u5,?u6⟩;(case u1=>k_is);(case u2=>k_is);(case u3=>k_is);(case u4=>k_is);(case u5=>k_is);(case u6=>k_is))
  (case xe5=>refine'⟨?u1,?u2,?u3,?u4,?u5,?u6⟩;(case u1=>k_is);(case u2=>k_is);(case u3=>k_is);(case u4=>k_is);(case u5=>k_is);(case u6=>k_is))
  (case xe6=>refine'⟨?u1,?u2,?u3,?u4,?u5,?u6⟩;(case u1=>k_is);(case u2=>k_is);(case u3=>k_is);(case u4=>k_is);(case u5=>k_is);(case u6=>k_is))
  (case xe7=>refine'⟨?u1,?u2,?u3,?u4,?u5,?u6⟩;(case u1=>k_is);(case u2=>k_is);(case u3=>k_is);(case u4=>k_is);(case u5=>k_is);(case u6=>k_is))
  (case nd=>decide)
  (case ck0=>k_is)
  (case ck1=>k_is)
  (case ck2=>k_is)

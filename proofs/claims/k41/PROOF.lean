import PyProof.Rows.All
import Wide.All
import OpenK.AllK
import Wide.FinOn
import PyProof.EqAt
import PyProof.EqKinds
import PyProof.TupleCall
import PyProof.CompFree
import PyProof.EvalArms
import KE.BitLaws
import OpenK.KOwn
import KE.KIsAll
import PyProof.ExcArgsOwn
import PyProof.IsiH_list
import PyProof.NsDelKeeps
import PyProof.ExcAttrAll.ValueError
import PyProof.ExcBaseAll.ValueError
import PyProof.ZipIter
import PyProof.Rows.SumAny
import KE.LcSums
import PyProof.SetRoads
import PyProof.Rows.SetFrom
import KE.KSetDisp
import PyProof.DictIter
import PyProof.DictRoadsH
import PyProof.Rows.TupDisplay
import PyProof.FString
import PyProof.FactsAll.list_1
import PyProof.CollectWalk
import PyProof.StrWalks
import PyProof.StrLawsTight
import PyProof.StrLawsChain
import PyProof.StrLawsIn
import PyProof.StrCalls2
import PyProof.StrBlockG
import PyProof.SliceStr2
import KE.KIntText
import PyProof.CollectIter
import PyProof.Walks
import PyProof.SetKind
import PyProof.TupleKey
import PyProof.IsRules
import PyProof.SetNew
import PyProof.StrOps2
import PyProof.Rows.Range3
import PyProof.DictCompW
import KE.KDictSum
import PyProof.Rows.SeqMore
import PyProof.Rows.SortRuns
import KE.KSortAsk
import PyProof.DictItems
import KE.KPairComp
import PyProof.Rows.StrRules
import KE.KSortTup
import PyProof.NeKinds
import KE.KRevIter
import PyProof.FactsAll.range_2
import PySem.Challenge.RW_turnline_k41_all_trains
abbrev aa:=@List.length_map
abbrev ae:=@List.getElem?_eq_getElem
abbrev af:=@List.getElem?_eq_some_iff
abbrev ah:=@Array.length_toList
abbrev aj:=@PyProof.Rows.wpS_bind
abbrev ak:=@Array.getElem?_toList
abbrev ao:=@List.length_append
abbrev aq:=@PyProof.Rows.wpS_pure
abbrev ar:=@Nat.le_refl
abbrev au:=@PySem.wpAny_bind
abbrev aw:=@List.size_toArray
abbrev ax:=@List.getElem?_map
abbrev ay:=@List.mem_cons_of_mem
abbrev az:=@if_neg
abbrev aA:=@PySem.Heap.lt_size
abbrev aB:=@List.mem_cons_self
abbrev aC:=@if_pos
abbrev aD:=@List.getElem?_append_left
abbrev aE:=@PySem.Heap.get?_push_of_some
abbrev aF:=@PySem.W.mg_none_of
abbrev aG:=@List.getElem?_append_right
abbrev aH:=@List.append_assoc
abbrev aI:=@Nat.lt_of_lt_of_le
abbrev aJ:=@List.mem_cons
abbrev aK:=@List.map_append
abbrev aL:=@PySem.F.plainAttrs_list
abbrev aM:=@Nat.zero_le
abbrev aN:=@List.mem_of_getElem?
abbrev aO:=@List.getD_eq_getElem?_getD
abbrev aP:=@List.mem_append
abbrev aQ:=@List.mem_map
abbrev aR:=@Array.getElem?_eq_getElem
abbrev aS:=@PySem.wpAny_pure
abbrev aT:=@Array.getD_eq_getD_getElem?
abbrev aU:=@List.pairwise_append
abbrev aV:=@Nat.ne_of_lt
abbrev aW:=@Array.toList_extract
abbrev aX:=@Bool.false_ne_true
abbrev aY:=@List.mem_filter
abbrev aZ:=@List.take_of_length_le
abbrev ba:=@List.mem_append_right
abbrev bb:=@List.length_cons
abbrev bg:=@PySem.Heap.get?_push_size
abbrev bh:=@List.mem_singleton
abbrev bj:=@List.lookup_cons
abbrev bo:=@PySem.wpAny_loadPart'
abbrev bp:=@PySem.PassesOwn.never
abbrev bq:=@PyProof.Rows.wpS_forRange
abbrev br:=@List.mem_iff_getElem
abbrev bt:=@decide_eq_false
abbrev bw:=@Option.some.inj
abbrev bx:=@List.length_reverse
abbrev bz:=@List.pairwise_map
abbrev bA:=@PyProof.Rows.callWith_type1
abbrev bB:=@List.map_cons
abbrev bC:=@of_decide_eq_true
abbrev bD:=@Array.toList_push
abbrev bE:=@List.reverse_append
abbrev bF:=@PySem.wpAny_mono
abbrev bG:=@List.pairwise_cons
abbrev bH:=@List.length_take
abbrev bI:=@PySem.F.type_list_append
abbrev bJ:=@PySem.F.slot_list_append
abbrev bK:=@List.take_add_one
abbrev bL:=@List.length_zip
abbrev bM:=@PySem.mem_of_lookup
abbrev bN:=@List.drop_eq_nil_of_le
abbrev bO:=@decide_eq_true
abbrev bP:=@List.pairwise_iff_getElem
abbrev bQ:=@PyProof.Rows.boot_isinstance
abbrev bR:=@Nat.le_trans
abbrev bS:=@List.mem_append_left
abbrev bT:=@List.flatMap_cons
abbrev bU:=@List.Pairwise.imp_of_mem
abbrev bV:=@List.take_length
abbrev bW:=@List.pairwise_singleton
abbrev bX:=@PyProof.Rows.wpS_mono
abbrev bY:=@Nat.zero_add
abbrev bZ:=@Nat.le_of_lt
abbrev b8:=@Bool.false_eq_true
abbrev b9:=@List.of_mem_zip
abbrev cb:=@Bool.eq_iff_iff
abbrev cc:=@Nat.lt_irrefl
abbrev cf:=@List.Pairwise.imp
abbrev cg:=@PySem.wpAny_passesOwn
abbrev cj:=@Array.perm_iff_toList_perm
abbrev ck:=@List.mem_reverse
abbrev cm:=@List.map_map
abbrev cn:=@Int.min_eq_right
abbrev cp:=@Int.max_eq_right
abbrev cq:=@PySem.sizeLine_eq
abbrev cu:=@List.nodup_cons
abbrev cw:=@Int.min_eq_left
abbrev cx:=@Int.max_eq_left
abbrev cy:=@Nat.add_sub_cancel
abbrev cz:=@Int.emod_lt_of_pos
abbrev cA:=@List.take_append_drop
abbrev cB:=@List.perm_append_comm
abbrev cC:=@List.length_filter_le
abbrev cD:=@List.Perm.append_left
abbrev cE:=@List.getElem_zip
abbrev cF:=@List.filter_cons
abbrev cG:=@Bool.and_eq_true
abbrev cH:=@Ne.symm
abbrev cI:=@PySem.wpAny_truthy_bool
abbrev cJ:=@List.length_dropLast
abbrev cK:=@List.getElem?_set_ne
abbrev cL:=@Int.le_refl
abbrev cM:=@List.append_nil
abbrev cN:=@Int.emod_nonneg
abbrev cO:=@List.flatMap_append
abbrev cP:=@List.filterMap_cons
abbrev cQ:=@PySem.call_meets
abbrev cR:=@PySem.F.slot_range_reversed
abbrev cS:=@Nat.add_zero
abbrev cT:=@congrArg
abbrev cU:=@PySem.wpAny_execs_nil
abbrev cV:=@List.drop_eq_getElem_cons
abbrev cW:=@decide_eq_true_eq
abbrev cX:=@Nat.le_succ
abbrev cY:=@PySem.F.slot_list_insert
abbrev cZ:=@PySem.wpAny_rule
abbrev dc:=@PySem.wpAny_Call_Name_kw
abbrev de:=@List.not_mem_nil
abbrev df:=@List.getElem_mem
set_option Elab.async false
set_option linter.all false
set_option maxRecDepth 100000
namespace L2
open PySem PySem.Spec PyProof.Rows
abbrev Key:=Sum Int Str
def sP:Key->Value->Bool
 |.inl k,v=>Value.isInt k v
 |.inr x,v=>Value.isStrOf x v
def xI (w:World):Key->Int
 |.inl k=>hashInt k
 |.inr x=>hashStr w x
theorem eC:∀ {k:Key}{v:Value},sP k v=true->(∃ i t,k=Sum.inl i/\v=Value.int i t)\/(∃ x t,k=Sum.inr x/\v=Value.str x t)
 |.inl i,v,h=>by
  obtain⟨t,e⟩:=Value.isInt_shape (k:=i) (v:=v) h
  exact .inl ⟨i,t,rfl,e⟩
 |.inr x,v,h=>by
  obtain⟨t,e⟩:=Value.isStrOf_shape (x:=x) (v:=v) h
  exact .inr ⟨x,t,rfl,e⟩
theorem t5 (a b:Int):decide ((Sum.inl a:Key)=Sum.inl b)=(a==b):=by
 by_cases e:a=b
 ·subst e;simp
 ·have h:¬(Sum.inl a:Key)=Sum.inl b:=λq=>e (Sum.inl.inj q)
  rw[bt h]
  exact(beq_eq_false_iff_ne.mpr e).symm
theorem tY (a b:Str):decide ((Sum.inr a:Key)=Sum.inr b)=decide (a=b):=by
 by_cases e:a=b
 ·subst e;simp
 ·have h:¬(Sum.inr a:Key)=Sum.inr b:=λq=>e (Sum.inr.inj q)
  rw[bt h,bt e]
theorem t4 (a:Int)(b:Str):decide ((Sum.inl a:Key)=Sum.inr b)=false:=bt (λq=>nomatch q)
theorem tZ (a:Str)(b:Int):decide ((Sum.inr a:Key)=Sum.inl b)=false:=bt (λq=>nomatch q)
def kh (prog:Program)(w:World):PySem.KeyKind prog w Key where
 is:=sP
 hash:=xI w
 inj:=λv a b ha hb=>by
  rcases eC ha with⟨i,t,rfl,rfl⟩|⟨x,t,rfl,rfl⟩
  ·rcases eC hb with⟨j,u,rfl,e⟩|⟨y,u,rfl,e⟩
   ·injection e with e1 _;rw[e1]
   ·exact nomatch e
  ·rcases eC hb with⟨j,u,rfl,e⟩|⟨y,u,rfl,e⟩
   ·exact nomatch e
   ·injection e with e1 _;rw[e1]
 byValue:=λk v h=>by
  rcases eC h with⟨i,t,rfl,rfl⟩|⟨x,t,rfl,rfl⟩<;>rfl
 pyHash:=λhv h=>by
  rcases eC hv with⟨i,t,rfl,rfl⟩|⟨x,t,rfl,rfl⟩
  ·exact wpAny_pyHash_int h
  ·exact wpAny_pyHash_str h
 eqBool:=λhu hv h=>by
  rcases eC hu with⟨i,t,rfl,rfl⟩|⟨x,t,rfl,rfl⟩
  ·rcases eC hv with⟨j,u,rfl,rfl⟩|⟨y,u,rfl,rfl⟩
   ·rw[t5]at h;exact wpAny_eqBool_int h
   ·rw[t4]at h;exact SeqAt.EqAt.int_str i t y u _ _ _ _ h
  ·rcases eC hv with⟨j,u,rfl,rfl⟩|⟨y,u,rfl,rfl⟩
   ·rw[tZ]at h;exact SeqAt.EqAt.str_int x t j u _ _ _ _ h
   ·rw[tY]at h;exact wpAny_eqBool_str h
 «strs» :=λk x t v h=>by
  rcases eC h with⟨i,u,rfl,e⟩|⟨y,u,rfl,e⟩
  ·exact nomatch e
  ·injection e with e1 _
   subst e1
   cases v<;>rfl
inductive V where
 |non |bl (b:Bool)|int (i:Int)|str (x:Str)|byt (b:Array UInt8)|flt (b:UInt64)|ref (a:Addr)|ty (n:String)
 deriving DecidableEq
def RelV:V->Value->Prop
 |.non,u=>u=Value.none
 |.bl b,u=>u=Value.bool b
 |.int i,u=>∃ t,u=Value.int i t
 |.str x,u=>∃ t,u=Value.str x t
 |.byt b,u=>∃ t,u=Value.bytes b t
 |.flt b,u=>∃ t,u=Value.float b t
 |.ref a,u=>u=Value.ref a
 |.ty n,u=>u=Value.type n
abbrev Vals:List V->List Value->Prop:=Paired RelV
theorem Vals.length {xs:List V}{us:List Value}(r:Vals xs us):xs.length=us.length:=Paired.length r
theorem Vals.get:∀ {xs:List V}{us:List Value}{i:Nat}{x:V},Vals xs us->xs[i]? = some x->∃ u,us[i]? = some u/\RelV x u
 |_,_,_,_,.nil,e=>by simp at e
 |_,_,0,_,.cons r _,e=>by simp at e;subst e;exact⟨_,rfl,r⟩
 |_,_,i+1,x,.cons _ t,e=>by
  obtain⟨u,h1,h2⟩:=Vals.get (i:=i) (x:=x) t (by simpa using e)
  exact⟨u,by simpa using h1,h2⟩
theorem Vals.append:∀ {xs ys:List V}{us ws:List Value},Vals xs us->Vals ys ws->Vals (xs++ys) (us++ws)
 |_,_,_,_,.nil,s=>s
 |_,_,_,_,.cons r t,s=>.cons r (Vals.append t s)
theorem Vals.take:∀ {xs:List V}{us:List Value} (n:Nat),Vals xs us->Vals (xs.take n) (us.take n)
 |_,_,0,_=>.nil
 |_,_,_+1,.nil=>.nil
 |_,_,n+1,.cons r t=>.cons r (Vals.take n t)
theorem Vals.drop:∀ {xs:List V}{us:List Value} (n:Nat),Vals xs us->Vals (xs.drop n) (us.drop n)
 |_,_,0,r=>r
 |_,_,_+1,.nil=>.nil
 |_,_,n+1,.cons _ t=>Vals.drop n t
def wa:Option V->Option Value->Prop
 |some v,some u=>RelV v u
 |none,none=>True
 |_,_=>False
def KV {κ:Type} :List (κ×V)->List (κ×Value)->Prop:=Paired λ(p:κ×V) (q:κ×Value)=>p.1=q.1/\RelV p.2 q.2
def kV:Key->V
 |.inl i=>.int i
 |.inr x=>.str x
inductive HO where
 /-- a list -/
 |lst (xs:List V)
 /-- a tuple (never changes) -/
 |tup (xs:List V)
 /-- a dict uG keys are ints and texts;one uG keys are tuples of ints and texts (the empty one is both) -/
 |dK (kvs:List (Key×V))|dT (kvs:List (List Key×V))
 /-- a set of ints:its members,its size -/
 |set (S:Int->Bool) (n:Nat)
 /-- an instance of the class at C,its dict at dx,its attributes -/
 |ins (C dx:Addr) (fs:List (Str×V))
 /-- the dict of the instance at x -/
 |own (x:Addr)
 /-- the dict of an exception -/
 |xd (fs:List (Str×V))
 /-- a bound method,f of x -/
 |met (f x:Addr)
 /-- a range object lo,lo+1,.. below hi -/
 |rng (lo hi:Int)
 /-- a uK yW is known to the object (the wN;a dict while a loop walks it):read,never written while it is so -/
 |frz (o:Obj) (u:HO)
 /-- a code vg table -/
 |tbl (ps:Array Value)
 /-- any other uK,by yV is true of its one object (a def of yU own:yP a S n:=HO.ext λh=>..) -/
 |ext (φ:Heap->Prop)
abbrev Hp:=Addr->Option HO
def upd (H:Hp)(a:Addr)(o:HO):Hp:=λb=>if b=a then some o else H b
theorem di {H:Hp}{a:Addr}{o:HO} :upd H a o a=some o:=by unfold upd;rw[aC rfl]
theorem dG {H:Hp}{a b:Addr}{o:HO}(h:b≠a):upd H a o b=H b:=by unfold upd;rw[az h]
theorem ot {H:Hp}{a:Addr}{o u:HO} :upd (upd H a o) a u=upd H a u:=by
 funext b;unfold upd;split<;>rfl
theorem sN {H:Hp}{a b:Addr}{o u:HO}(h:H a=some o)(h':H b=some u)(d:o≠u):a≠b:=by
 intro e;subst e;rw[h]at h';exact d (bw h')
theorem dF {H:Hp}{a b:Addr}{o:HO}(h:H a=some o)(h':H b=none):a≠b:=by
 intro e;subst e;rw[h]at h';cases h'
section
variable (P:Program)(w:World)
def fH (H:Hp)(h:Heap)(a:Addr):HO->Prop
 |.lst xs=>xs.length<=sizeLine/\∃ (its:List Value) (n:Nat),Vals xs its/\h.get? a=some {cls:=.type "list",data:=.seq its.toArray n}
 |.tup xs=>xs.length<=sizeLine/\∃ its:List Value,Vals xs its/\IsTup h a its.toArray
 |.dK kvs=>kvs.length<=sizeLine/\(a==sysModules)=false/\∃ vs,KV kvs vs/\h.DictOf (kh P w) a vs
 |.dT kvs=>kvs.length<=sizeLine/\(a==sysModules)=false/\∃ xs:List (List Key×Addr×Value),
   Paired (λ(p:List Key×V) (q:List Key×Addr×Value)=>p.1=q.1/\H q.2.1=some (.tup (p.1.map kV))/\RelV p.2 q.2.2) kvs xs/\
   ∃ o es ep,h.get? a=some o/\o.ExactDict/\o.data = .dict es ep/\es.toList=xs.map (entryOfKey (tupleKind (kh P w)))/\(xs.map (·.1)).Nodup
 |.set S n=>h.SetOf (intKind P w) a S n
 |.ins C dx fs=>H dx=some (.own a)/\fs.length<=1000/\dx≠a/\h.get? a=some (PySem.W.instObj C dx)/\
   ∃ mA,h.Ns1 dx mA/\(∀ f,wa (fs.lookup f) (mA f))/\PySem.Within mA (fs.map (·.1))
 |.own _=>∃ o,h.get? a=some o
 |.xd fs=>∃ mA,h.Ns1 a mA/\∀ f,wa (fs.lookup f) (mA f)
 |.rng lo hi=>∃ t u v,h.get? a=some {cls:=.type "range",data:=.fields #[.int lo t,.int hi u,.int 1 v]}
 |.frz o u=>h.get? a=some o/\fH H h a u
 |.tbl ps=>h.get? a=some {cls:=.none,data:=.fields ps}
 |.met f x=>h.get? a=some (PySem.W.methodObj (.ref f) (.ref x))
 |.ext φ=>φ h/\(∃ o,h.get? a=some o)/\∀ h1 h2:Heap,φ h1->(∀ o,h1.get? a=some o->h2.get? a=some o)->φ h2
def HOk (H:Hp)(h:Heap):Prop:=∀ a o,H a=some o->fH P w H h a o
end
section
variable {P:Program}{w:World}{H H':Hp}{h h':Heap}{a:Addr}{o:HO}
theorem fH.lt (x:fH P w H h a o):a<h.objs.size:=by
 cases o with
 |lst xs=>obtain⟨_,_,_,_,e⟩:=x;exact aA e
 |tup xs=>obtain⟨_,_,_,p⟩:=x;exact p.lt
 |dK kvs=>obtain⟨_,_,_,_,o,_,_,e,_⟩:=x;exact aA e
 |dT kvs=>obtain⟨_,_,_,_,o,_,_,e,_⟩:=x;exact aA e
 |set S n=>obtain⟨o,_,_,_,e,_⟩:=x;exact aA e
 |ins C dx fs=>obtain⟨_,_,_,e,_⟩:=x;exact aA e
 |own y=>obtain⟨_,e⟩:=x;exact aA e
 |xd fs=>obtain⟨_,⟨_,_,_,e,_⟩,_⟩:=x;exact aA e
 |rng lo hi=>obtain⟨_,_,_,e⟩:=x;exact aA e
 |frz ob u=>obtain⟨e,_⟩:=x;exact aA e
 |tbl ps=>exact aA (show h.get? a=some _ from x)
 |met f y=>exact aA (show h.get? a=some _ from x)
 |ext φ=>obtain⟨_,⟨_,e⟩,_⟩:=x;exact aA e
theorem Paired.vp {α β:Type}{F G:α->β->Prop} :∀ {l₁:List α}{l₂:List β},Paired F l₁ l₂->(∀ a b,F a b->G a b)->Paired G l₁ l₂
 |_,_,.nil,_=>.nil
 |_,_,.cons r t,f=>.cons (f _ _ r) (Paired.vp t f)
theorem fH.lV (x:fH P w H h a o)(k:∀ b u,(b=a\/H b=some (.own a))->h.get? b=some u->h'.get? b=some u)
  (ho:∀ b,H b=some (.own a)->H' b=some (.own a)) (ht:∀ b xs,H b=some (.tup xs)->H' b=some (.tup xs)):fH P w H' h' a o:=by
 induction o with
 |lst xs=>obtain⟨z,its,n,r,e⟩:=x;exact⟨z,its,n,r,k _ _ (.inl rfl) e⟩
 |tup xs=>obtain⟨z,its,r,ob,e,c⟩:=x;exact⟨z,its,r,ob,k _ _ (.inl rfl) e,c⟩
 |dK kvs=>obtain⟨z,y,vs,r,ob,es,ep,e,c⟩:=x;exact⟨z,y,vs,r,ob,es,ep,k _ _ (.inl rfl) e,c⟩
 |dT kvs=>
  obtain⟨z,y,xs,r,ob,es,ep,e,c⟩:=x
  exact⟨z,y,xs,Paired.vp r λp q z=>⟨z.1,ht _ _ z.2.1,z.2.2⟩,ob,es,ep,k _ _ (.inl rfl) e,c⟩
 |set S n=>obtain⟨ob,es,ep,t,e,c⟩:=x;exact⟨ob,es,ep,t,k _ _ (.inl rfl) e,c⟩
 |ins C dx fs=>
  obtain⟨d,z,ne,e,mA,⟨od,es,ep,e2,c⟩,r⟩:=x
  exact⟨ho _ d,z,ne,k _ _ (.inl rfl) e,mA,⟨od,es,ep,k _ _ (.inr d) e2,c⟩,r⟩
 |own y=>obtain⟨ob,e⟩:=x;exact⟨ob,k _ _ (.inl rfl) e⟩
 |xd fs=>obtain⟨mA,⟨od,es,ep,e,c⟩,r⟩:=x;exact⟨mA,⟨od,es,ep,k _ _ (.inl rfl) e,c⟩,r⟩
 |rng lo hi=>obtain⟨t,u,v,e⟩:=x;exact⟨t,u,v,k _ _ (.inl rfl) e⟩
 |frz ob u ih=>obtain⟨e,q⟩:=x;exact⟨k _ _ (.inl rfl) e,ih q⟩
 |tbl ps=>
  have e:h.get? a=some {cls:=.none,data:=.fields ps} :=x
  show h'.get? a=some {cls:=.none,data:=.fields ps}
  exact k a _ (.inl rfl) e
 |met f y=>
  have e:h.get? a=some (PySem.W.methodObj (.ref f) (.ref y)):=x
  show h'.get? a=some (PySem.W.methodObj (.ref f) (.ref y))
  exact k a _ (.inl rfl) e
 |ext φ=>obtain⟨p,⟨o,e⟩,st⟩:=x;exact⟨st _ _ p λo q=>k _ _ (.inl rfl) q,⟨o,k _ _ (.inl rfl) e⟩,st⟩
theorem HOk.lt (x:HOk P w H h)(e:H a=some o):a<h.objs.size:=(x a o e).lt
theorem HOk.fresh (x:HOk P w H h)(e:h.objs.size<=a):H a=none:=by
 cases q:H a with
 |none=>rfl
 |some u=>exact absurd (aI (x.lt q) e) (cc _)
theorem HOk.kept (x:HOk P w H h)(k:∀ b u,h.get? b=some u->h'.get? b=some u):HOk P w H h':=λa o e=>
 (x a o e).lV (λb u _ q=>k b u q) (λ_ q=>q) λ_ _ q=>q
theorem HOk.laid (x:HOk P w H h)(k:∀ b u,h.get? b=some u->h'.get? b=some u)(hp:h.objs.size<=a)(new:fH P w (upd H a o) h' a o):HOk P w (upd H a o) h':=λb u e=>by
 have hn:=x.fresh hp
 by_cases hb:b=a
 ·subst hb;rw[di]at e;cases e;exact new
 ·rw[dG hb]at e
  exact(x b u e).lV (λc v _ q=>k c v q) (λc q=>by rw[dG (dF q hn)];exact q) λc xs q=>by rw[dG (dF q hn)];exact q
end
def Rd (H:Hp)(a:Addr)(u:HO):Prop:=H a=some u\/∃ o,H a=some (.frz o u)
theorem Rd.ok {P:Program}{w:World}{H:Hp}{h:Heap}{a:Addr}{u:HO}(r:Rd H a u)(x:HOk P w H h):fH P w H h a u:=by
 rcases r with r |⟨o,r⟩
 ·exact x a u r
 ·obtain⟨_,q⟩:=x a _ r
  exact q
def Mut:Option HO->Prop
 |some (.lst _)=>True
 |some (.dK _)=>True
 |some (.dT _)=>True
 |some (.set _ _)=>True
 |some (.ins _ _ _)=>True
 |some (.ext _)=>True
 |_=>False
section
variable {P:Program}{w:World}{H:Hp}{h h':Heap}{x e:Addr}{o':HO}
theorem HOk.write (ok:HOk P w H h)(mu:Mut (H x))(he:e=x\/H e=some (.own x))(k:∀ b u,b≠e->h.get? b=some u->h'.get? b=some u)(heo:∃ u,h'.get? e=some u)
  (new:fH P w (upd H x o') h' x o'):HOk P w (upd H x o') h':=λb u q=>by
 have vj:∀ c y,H c=some (.own y)->c≠x:=λc y r z=>by subst z;rw[r]at mu;exact mu
 have xD:∀ c xs,H c=some (.tup xs)->c≠x:=λc xs r z=>by subst z;rw[r]at mu;exact mu
 by_cases hb:b=x
 ·subst hb;rw[di]at q;cases q;exact new
 ·rw[dG hb]at q
  by_cases hbe:b=e
  ·have q':H b=some (.own x):=by
    rcases he with z |z
    ·exact absurd (hbe.trans z) hb
    ·rw[hbe];exact z
   rw[q]at q';cases q'
   obtain⟨v,hv⟩:=heo
   exact⟨v,by rw[hbe];exact hv⟩
  ·refine(ok b u q).lV (λc v hc r=>k c v ?_ r) (λc r=>by rw[dG (vj c b r)];exact r) λc xs r=>by rw[dG (xD c xs r)];exact r
   rcases hc with rfl |hc
   ·exact hbe
   ·rintro rfl
    rcases he with z |z
    ·exact vj c b hc z
    ·rw[hc]at z;cases z;exact hb rfl
end
structure Un (fs ex:List Addr)(H H':Hp)(h h':Heap):Prop where
 keep:∀ b o,h.get? b=some o->H b=none->b∉fs->b∉ex->h'.get? b=some o
 slot:∀ b o,h.get? b=some o->H b=none->b∈fs->b∉ex->∃ sl,h'.get? b=some {o with slots:=sl}
 free:∀ b o,h.get? b=some o->H b=none->b∉ex->H' b=none
 there:∀ b o,h.get? b=some o->b∉ex->∃ o',h'.get? b=some o'
 jt:∀ b xs,H b=some (.tup xs)->H' b=some (.tup xs)
 ji:∀ b o u,H b=some (.frz o u)->H' b=some (.frz o u)
 ju:∀ b ps,H b=some (.tbl ps)->∃ more,H' b=some (.tbl (ps++more))
section
variable {fs fs' ex ex':List Addr}{H H1 H2:Hp}{h h1 h2 h':Heap}{a x e:Addr}{o:HO}
theorem Un.any (u:Un fs ex H H1 h h1){b:Addr}{ob:Obj}(q:h.get? b=some ob)(n:H b=none)(hx:b∉ex):∃ sl,h1.get? b=some {ob with slots:=sl} :=by
 by_cases hb:b∈fs
 ·exact u.slot b ob q n hb hx
 ·exact⟨ob.slots,u.keep b ob q n hb hx⟩
theorem Un.trans (a:Un fs ex H H1 h h1)(b:Un fs ex H1 H2 h1 h2):Un fs ex H H2 h h2 where
 keep:=λc ob q n hc hx=>b.keep c ob (a.keep c ob q n hc hx) (a.free c ob q n hx) hc hx
 slot:=λc ob q n hc hx=>by
  obtain⟨sl,e1⟩:=a.slot c ob q n hc hx
  obtain⟨sl',e2⟩:=b.slot c _ e1 (a.free c ob q n hx) hc hx
  exact⟨sl',e2⟩
 free:=λc ob q n hx=>by
  obtain⟨o',e1⟩:=a.there c ob q hx
  exact b.free c o' e1 (a.free c ob q n hx) hx
 there:=λc ob q hx=>by
  obtain⟨o',e1⟩:=a.there c ob q hx
  exact b.there c o' e1 hx
 jt:=λc xs q=>b.jt c xs (a.jt c xs q)
 ji:=λc ob xs q=>b.ji c ob xs (a.ji c ob xs q)
 ju:=λc ps q=>by
  obtain⟨m1,e1⟩:=a.ju c ps q
  obtain⟨m2,e2⟩:=b.ju c _ e1
  exact⟨m1++m2,by rw[e2,Array.append_assoc]⟩
theorem Un.kept (k:∀ b u,h.get? b=some u->h'.get? b=some u):Un fs ex H H h h':=
 ⟨λb ob q _ _ _=>k b ob q,λb ob q _ _ _=>⟨ob.slots,k b ob q⟩,λ_ _ _ n _=>n,λb ob q _=>⟨ob,k b ob q⟩,λ_ _ q=>q,λ_ _ _ q=>q,λ_ ps q=>⟨#[],by rw[q];simp⟩⟩
theorem Un.refl:Un fs ex H H h h:=Un.kept λ_ _ q=>q
theorem Un.laid (k:∀ b u,h.get? b=some u->h'.get? b=some u)(hp:h.objs.size<=a)(hn:H a=none):Un fs ex H (upd H a o) h h' where
 keep:=λb u q _ _ _=>k b u q
 slot:=λb u q _ _ _=>⟨u.slots,k b u q⟩
 free:=λb u q n _=>by rw[dG (aV (aI (aA q) hp))];exact n
 there:=λb u q _=>⟨u,k b u q⟩
 jt:=λb xs q=>by rw[dG (dF q hn)];exact q
 ji:=λb u xs q=>by rw[dG (dF q hn)];exact q
 ju:=λb ps q=>⟨#[],by rw[dG (dF q hn),q];simp⟩
theorem Un.write (mu:Mut (H x))(he:e=x\/H e=some (.own x))(k:∀ b u,b≠e->h.get? b=some u->h'.get? b=some u)(heo:∃ u,h'.get? e=some u):Un fs ex H (upd H x o) h h':=by
 have hx:∀ b,H b=none->b≠x:=λb n z=>by subst z;rw[n]at mu;exact mu
 have hb:∀ b,H b=none->b≠e:=λb n z=>by
  subst z
  rcases he with r |r
  ·exact hx b n r
  ·rw[n]at r;cases r
 have hm:∀ b u,H b=some u->¬Mut (some u)->b≠x:=λb u q nm z=>by subst z;rw[q]at mu;exact nm mu
 refine⟨λb u q n _ _=>k b u (hb b n) q,λb u q n _ _=>⟨u.slots,k b u (hb b n) q⟩,λb u q n _=>by rw[dG (hx b n)];exact n,λb u q _=>?_,
  λb xs q=>by rw[dG (hm b _ q λz=>z)];exact q,λb u xs q=>by rw[dG (hm b _ q λz=>z)];exact q,λb ps q=>⟨#[],by rw[dG (hm b _ q λz=>z),q];simp⟩⟩
 by_cases hbe:b=e
 ·subst hbe;exact heo
 ·exact⟨u,k b u hbe q⟩
end
def trk (h:Heap)(H:Hp):List Addr:=(List.range h.objs.size).filter λa=>(H a).isSome
def mB (h:Heap)(H:Hp):Heap:=PySem.W.hideAll h (trk h H)
theorem pJ (h:Heap)(H:Hp):(mB h H).objs.size=h.objs.size:=PySem.W.hideAll_size _ _
theorem qW {h:Heap}{H:Hp}{b:Addr}{o:Obj}(e:h.get? b=some o)(n:H b=none):(mB h H).get? b=some o:=
 PySem.W.hideAll_get _ e λhm=>by
  have q:(H b).isSome=true:=(aY.mp hm).2
  rw[n]at q;simp at q
theorem rW {h:Heap}{H:Hp}{b:Addr}{o:Obj}(e:(mB h H).get? b=some o):h.get? b=some o/\H b=none:=by
 have e':h.get? b=some o:=PySem.W.of_hideAll (trk h H) e
 refine⟨e',?_⟩
 cases q:H b with
 |none=>rfl
 |some x=>
  have hm:b∈trk h H:=aY.mpr ⟨List.mem_range.mpr (aA e'),by simp[q]⟩
  have z:(mB h H).get? b=none:=PySem.W.hideAll_none (trk h H) hm
  rw[z]at e;cases e
structure Mod (K:PySem.W.Frag)(mg:Str->Option Value)(base:Heap):Prop where
 kin:K.In base
 glob:base.Ns mainGlobals mg
 blt:∃ mb,base.Ns builtinsNs mb/\∀ x:Str,x≠ "__name__" ->mb x=bootBuiltins x
 nolimit:base.NoLimit
structure Cx where
 prog:Program
 w:World
 K:PySem.W.Frag
 mg:Str->Option Value
 base:Heap
 A:Around
 N:List Str
 s₀:Shared
 H₀:Hp
 env:Env
 outer:List Env
 stack:List Env
 ex:List Addr
 fn:Str->Bool
 calm:Bool
 pn:List (Addr×Obj)
 xe:Value->Shared->Prop
def frs (l:List Env):List Addr:=l.filterMap (·.frame)
abbrev Cx.fs (X:Cx):List Addr:=frs X.outer
def Vis (sc:Scope)(x:Str):Prop:=sc.names.lookup x=some .local\/sc.names.lookup x=some .cell\/sc.names.lookup x=some .free
def Loc (sc:Scope)(x:Str):Prop:=sc.names.lookup x=some .local\/sc.names.lookup x=some .cell
def Look (env:Env)(h:Heap)(m:Str->Option Value)(x:Str)(u:Value):Prop:=
 (env.kindOf x=some .local/\m x=some u)\/((env.kindOf x=some .cell\/env.kindOf x=some .free)/\∃ c,env.cells.lookup x=some c/\h.IsCell c (some u))
structure Cx.Ok (X:Cx):Prop where
 mod:Mod X.K X.mg X.base
 kind:X.env.scope.kind = .function
 glob:X.env.globals=mainGlobals
 blt:X.env.builtins=builtinsNs
 above:X.s₀.heap.objs.size<=X.env.locals
 inj:∀ x y c,X.env.cells.lookup x=some c->X.env.cells.lookup y=some c->x=y
 has:∀ x,(X.env.kindOf x=some .cell\/X.env.kindOf x=some .free)->∃ c,X.env.cells.lookup x=some c
 cab:∀ x c,X.fn x=true->X.env.cells.lookup x=some c->X.s₀.heap.objs.size<=c
 hd:X.calm=true->X.A.handled=none
 frames:X.A.frames=some X.stack
 stk:X.stack=X.outer\/(X.stack=X.env::X.outer/\X.env.frame=some X.env.locals)
 exf:∀ b∈X.ex,b≠X.env.locals/\∀ x c,X.env.cells.lookup x=some c->c≠b
 bs:∀ b o,X.base.get? b=some o->X.s₀.heap.get? b=some o/\X.H₀ b=none
 bsz:X.base.objs.size<=X.s₀.heap.objs.size
 nS:∀ b o,X.base.get? b=some o->b∉X.ex
 pK:∀ b∈X.ex,b∉X.fs
 jT:X.s₀.heap.FunFrames X.base X.outer
 frf:∀ b∈X.fs,X.H₀ b=none
structure Inv (X:Cx)(pins:List (Addr×Obj))(σ:List (Option V))(H:Hp)(s:Shared):Prop where
 ok:X.Ok
 os:s.os=X.s₀.os
 bare:AllBare s.gens
 base:Un X.fs X.ex X.H₀ H X.s₀.heap s.heap
 loc:∃ m,s.heap.Ns X.env.locals m/\∀ (i:Nat) (x:Str) (v:V),X.N[i]? = some x->σ[i]? = some (some v)->Vis X.env.scope x->∃ u,RelV v u/\Look X.env s.heap m x u
 cell:∀ x c,X.env.cells.lookup x=some c->∃ v,s.heap.IsCell c v
 free:H X.env.locals=none
 fV:∀ x c,X.env.cells.lookup x=some c->H c=none
 pin:∀ p∈X.pn++pins,s.heap.get? p.1=some p.2/\H p.1=none/\p.1≠X.env.locals/\p.1∉X.fs/\∀ v,p.2.data≠ .cell v
 hok:HOk X.prog X.w H s.heap
 len:σ.length=X.N.length
section
variable {X:Cx}{pins:List (Addr×Obj)}{σ:List (Option V)}{H H':Hp}{s:Shared}{h':Heap}
theorem Cx.Ok.xF (ok:X.Ok){b:Addr}{o:Obj}(e:X.base.get? b=some o):b∉X.fs:=λhb=>by
 have:=(ok.jT.mem hb).1
 rw[e]at this;cases this
theorem Inv.bs (I:Inv X pins σ H s):∀ b o,X.base.get? b=some o->s.heap.get? b=some o/\H b=none:=λb o e=>
 ⟨I.base.keep b o (I.ok.bs b o e).1 (I.ok.bs b o e).2 (I.ok.xF e) (I.ok.nS b o e),I.base.free b o (I.ok.bs b o e).1 (I.ok.bs b o e).2 (I.ok.nS b o e)⟩
theorem Inv.bk (I:Inv X pins σ H s):∀ b o,X.base.get? b=some o->s.heap.get? b=some o:=λb o e=>(I.bs b o e).1
theorem Inv.mod (I:Inv X pins σ H s):Mod X.K X.mg X.base:=I.ok.mod
theorem Inv.kIn (I:Inv X pins σ H s):X.K.In s.heap:=I.ok.mod.kin.keeps I.bk
theorem Inv.lt (I:Inv X pins σ H s):X.env.locals<s.heap.objs.size:=let ⟨_,hn,_⟩:=I.loc;hn.lt
theorem Inv.sz (I:Inv X pins σ H s):X.s₀.heap.objs.size<=s.heap.objs.size:=bR I.ok.above (bZ I.lt)
theorem Inv.xE (I:Inv X pins σ H s){a:Addr}(h:s.heap.objs.size<=a):a∉X.fs:=λhb=>by
 obtain⟨_,o,ho,_⟩:=I.ok.jT.mem hb
 exact absurd (aI (aA ho) (bR I.sz h)) (cc _)
theorem Inv.cne (I:Inv X pins σ H s):∀ x c,X.env.cells.lookup x=some c->c≠X.env.locals:=λx c e z=>by
 obtain⟨v,o,ho,hd⟩:=I.cell x c e
 obtain⟨m,⟨o',es,ep,ho',hd',_⟩,_⟩:=I.loc
 rw[z,ho']at ho;cases ho;rw[hd']at hd;cases hd
theorem Inv.jT (I:Inv X pins σ H s):s.heap.FunFrames X.base X.outer:=by
 have all:∀ (l:List Env),(∀ b∈frs l,b∈X.fs)->X.s₀.heap.FunFrames X.base l->s.heap.FunFrames X.base l:=by
  intro l
  induction l with
  |nil=>intro _ _;trivial
  |cons env r ih=>
   intro hs hl
   obtain⟨hk,⟨L,o,hf,hn,ho,hd⟩,hr⟩:=hl
   have hL:L∈X.fs:=hs L (by unfold frs;rw[cP,hf];exact aB)
   obtain⟨sl,e⟩:=I.base.slot L o ho (I.ok.frf L hL) hL λz=>I.ok.pK L z hL
   exact⟨hk,⟨L,_,hf,hn,e,hd⟩,ih (λb hb=>hs b (by unfold frs;rw[cP,hf];exact ay _ hb)) hr⟩
 exact all X.outer (λ_ hb=>hb) I.ok.jT
theorem Inv.stack (I:Inv X pins σ H s):s.heap.FunFrames X.base X.stack:=by
 rcases I.ok.stk with e |⟨e,hf⟩
 ·rw[e];exact I.jT
 ·rw[e]
  obtain⟨m,hn,_⟩:=I.loc
  refine .cons (by rw[I.ok.kind];decide) hf hn ?_ I.jT
  exact Heap.get?_none_of_le (bR I.ok.bsz I.ok.above)
theorem Inv.km (I:Inv X pins σ H s):∀ b∈frs X.stack,b∈X.env.locals::X.fs:=λb hb=>by
 rcases I.ok.stk with e |⟨e,hf⟩
 ·rw[e]at hb;exact ay _ hb
 ·rw[e]at hb
  unfold frs at hb
  rw[cP,hf]at hb
  exact hb
theorem Inv.lU (I:Inv X pins σ H s):∀ b∈frs X.stack,H b=none:=λb hb=>by
 rcases aJ.mp (I.km b hb)with e |hb
 ·rw[e];exact I.free
 ·obtain⟨_,o,ho,_⟩:=I.ok.jT.mem hb
  exact I.base.free b o ho (I.ok.frf b hb) λz=>I.ok.pK b z hb
theorem Inv.step {g':Array GenState}{t':Nat}{d':Drawn}{ch:List Addr}(I:Inv X pins σ H s)
  (hch:∀ b∈ch,(b∈X.ex\/X.s₀.heap.objs.size<=b)/\b≠X.env.locals/\(∀ x c,X.env.cells.lookup x=some c->c≠b)/\∀ p∈X.pn++pins,p.1≠b)
  (keep:∀ b o,b≠X.env.locals->b∉X.fs->b∉ch->s.heap.get? b=some o->H b=none->h'.get? b=some o)
  (slot:∀ b o,b≠X.env.locals->b∈X.fs->b∉ch->s.heap.get? b=some o->H b=none->∃ sl,h'.get? b=some {o with slots:=sl}) (free:∀ b o,b∉ch->s.heap.get? b=some o->H b=none->H' b=none)
  (there:∀ b o,b∉ch->s.heap.get? b=some o->∃ o',h'.get? b=some o')
  (jt:∀ b xs,H b=some (.tup xs)->H' b=some (.tup xs)) (ji:∀ b o u,H b=some (.frz o u)->H' b=some (.frz o u)) (ju:∀ b ps,H b=some (.tbl ps)->∃ more,H' b=some (.tbl (ps++more)))
  (ns:∀ m,s.heap.Ns X.env.locals m->h'.Ns X.env.locals m) (hok:HOk X.prog X.w H' h') (hg:AllBare g'):
  Inv X pins σ H' {s with heap:=h',gens:=g',drawn:=d',toks:=t'} :=by
 have neL:∀ b o,X.s₀.heap.get? b=some o->b≠X.env.locals:=λb o e=>aV (aI (aA e) I.ok.above)
 have neC:∀ b o,X.s₀.heap.get? b=some o->b∉X.ex->b∉ch:=λb o e hx hb=>by
  rcases(hch b hb).1 with z |z
  ·exact hx z
  ·exact absurd (aI (aA e) z) (cc _)
 have cellK:∀ x c,X.env.cells.lookup x=some c->∀ v,s.heap.IsCell c v->h'.IsCell c v:=λx c e v ⟨o,ho,hd⟩=>by
  have nch:c∉ch:=λz=>(hch c z).2.2.1 x c e rfl
  by_cases hc:c∈X.fs
  ·obtain⟨sl,q⟩:=slot c o (I.cne x c e) hc nch ho (I.fV x c e)
   exact⟨_,q,hd⟩
  ·exact⟨o,keep c o (I.cne x c e) hc nch ho (I.fV x c e),hd⟩
 refine⟨I.ok,I.os,hg,⟨λb o e n hb hx=>?_,λb o e n hb hx=>?_,λb o e n hx=>?_,λb o e hx=>?_,λb xs e=>jt b xs (I.base.jt b xs e),λb o xs e=>ji b o xs (I.base.ji b o xs e),λb ps e=>?_⟩,?_,λx c e=>?_,?_,λx c e=>?_,λp hp=>?_,hok,I.len⟩
 ·exact keep b o (neL b o e) hb (neC b o e hx) (I.base.keep b o e n hb hx) (I.base.free b o e n hx)
 ·obtain⟨sl,e1⟩:=I.base.slot b o e n hb hx
  obtain⟨sl',e2⟩:=slot b _ (neL b o e) hb (neC b o e hx) e1 (I.base.free b o e n hx)
  exact⟨sl',e2⟩
 ·obtain⟨o',e1⟩:=I.base.there b o e hx
  exact free b o' (neC b o e hx) e1 (I.base.free b o e n hx)
 ·obtain⟨o',e1⟩:=I.base.there b o e hx
  exact there b o' (neC b o e hx) e1
 ·obtain⟨m1,e1⟩:=I.base.ju b ps e
  obtain⟨m2,e2⟩:=ju b _ e1
  exact⟨m1++m2,by rw[e2,Array.append_assoc]⟩
 ·obtain⟨m,hn,hl⟩:=I.loc
  refine⟨m,ns m hn,λi x v e1 e2 e3=>?_⟩
  obtain⟨u,r,l⟩:=hl i x v e1 e2 e3
  refine⟨u,r,?_⟩
  rcases l with l |⟨k,c,e,z⟩
  ·exact .inl l
  ·exact .inr ⟨k,c,e,cellK x c e _ z⟩
 ·obtain⟨v,z⟩:=I.cell x c e
  exact⟨v,cellK x c e v z⟩
 ·obtain⟨m,⟨o,_,_,ho,_⟩,_⟩:=I.loc
  exact free _ o (λz=>(hch _ z).2.1 rfl) ho I.free
 ·obtain⟨v,o,ho,hd⟩:=I.cell x c e
  exact free c o (λz=>(hch c z).2.2.1 x c e rfl) ho (I.fV x c e)
 ·obtain⟨e,n,ne,nf,d⟩:=I.pin p hp
  have nch:p.1∉ch:=λz=>(hch p.1 z).2.2.2 p hp rfl
  exact⟨keep p.1 p.2 ne nf nch e n,free p.1 p.2 nch e n,ne,nf,d⟩
theorem Inv.un {t':Nat}(I:Inv X pins σ H s)(u:Un X.fs [] H H' s.heap h')(hok:HOk X.prog X.w H' h'):Inv X pins σ H' {s with heap:=h',toks:=t'} :=by
 obtain⟨m,⟨o,es,ep,ho,r⟩,_⟩:=id I.loc
 obtain⟨sl,hL⟩:=u.any ho I.free (by simp)
 exact I.step (g':=s.gens) (d':=s.drawn) (ch:=[]) (λ_ z=>nomatch z) (λb o _ hb _ e n=>u.keep b o e n hb (by simp)) (λb o _ hb _ e n=>u.slot b o e n hb (by simp)) (λb o _ e n=>u.free b o e n (by simp)) (λb o _ e=>u.there b o e (by simp)) u.jt u.ji u.ju (λm' hm=>by
  obtain⟨o',es',ep',ho',r'⟩:=hm
  rw[ho]at ho';cases ho'
  exact⟨_,es',ep',hL,r'⟩) hok I.bare
theorem Inv.call {g':Array GenState}{t':Nat}{d':Drawn}{ch:List Addr}(I:Inv X pins σ H s)(u:Un (frs X.stack) ch H H' s.heap h')(hok:HOk X.prog X.w H' h')(hg:AllBare g')
  (hch:∀ b∈ch,(b∈X.ex\/X.s₀.heap.objs.size<=b)/\b≠X.env.locals/\(∀ x c,X.env.cells.lookup x=some c->c≠b)/\∀ p∈X.pn++pins,p.1≠b):
  Inv X pins σ H' {s with heap:=h',gens:=g',drawn:=d',toks:=t'} :=by
 obtain⟨m,⟨o,es,ep,ho,r⟩,_⟩:=id I.loc
 obtain⟨sl,hL⟩:=u.any ho I.free λz=>(hch _ z).2.1 rfl
 exact I.step (ch:=ch) hch (λb o hL hb hc e n=>u.keep b o e n (λz=>(aJ.mp (I.km b z)).elim hL hb) hc) (λb o _ _ hc e n=>u.any e n hc) (λb o hc e n=>u.free b o e n hc) (λb o hc e=>u.there b o e hc) u.jt u.ji u.ju (λm' hm=>by
  obtain⟨o',es',ep',ho',r'⟩:=hm
  rw[ho]at ho';cases ho'
  exact⟨_,es',ep',hL,r'⟩) hok hg
theorem Inv.turned {t':Nat}{it:Addr}(I:Inv X pins σ H s)(k:∀ b o,b≠it->s.heap.get? b=some o->h'.get? b=some o)(hn:H it=none)(hL:it≠X.env.locals)
  (h1:it∈X.ex\/X.s₀.heap.objs.size<=it) (h2:∀ x c,X.env.cells.lookup x=some c->c≠it) (h3:∀ p∈X.pn++pins,p.1≠it):Inv X pins σ H {s with heap:=h',toks:=t'} :=by
 have nit:∀ b u,H b=some u->b≠it:=λb u e z=>by rw[z,hn]at e;cases e
 refine I.step (g':=s.gens) (d':=s.drawn) (ch:=[it]) (λb hb=>?_) (λb o _ _ hc e _=>k b o (λz=>hc (by simp[z])) e) (λb o _ _ hc e _=>⟨o.slots,k b o (λz=>hc (by simp[z])) e⟩) (λ_ _ _ _ n=>n)
  (λb o hc e=>⟨o,k b o (λz=>hc (by simp[z])) e⟩) (λ_ _ e=>e) (λ_ _ _ e=>e) (λb ps e=>⟨#[],by rw[e];simp⟩) (λm hm=>?_) (λb u e=>?_) I.bare
 ·have e:b=it:=by simpa using hb
  subst e
  exact⟨h1,hL,h2,h3⟩
 ·obtain⟨o,es,ep,ho,r⟩:=hm
  exact⟨o,es,ep,k _ o (cH hL) ho,r⟩
 ·refine(I.hok b u e).lV (λc v hc q=>k c v ?_ q) (λ_ q=>q) λ_ _ q=>q
  rcases hc with z |z
  ·rw[z];exact nit b u e
  ·exact nit c _ z
theorem Inv.tok (I:Inv X pins σ H s)(t:Nat):Inv X pins σ H {s with toks:=t} :=I.un (h':=s.heap) (t':=t) Un.refl I.hok
theorem Inv.kept {t':Nat}(I:Inv X pins σ H s)(k:∀ b u,s.heap.get? b=some u->h'.get? b=some u):Inv X pins σ H {s with heap:=h',toks:=t'} :=I.un (Un.kept k) (I.hok.kept k)
theorem Inv.laid {a:Addr}{o:HO}{t':Nat}(I:Inv X pins σ H s)(k:∀ b u,s.heap.get? b=some u->h'.get? b=some u)(hp:s.heap.objs.size<=a)(new:fH X.prog X.w (upd H a o) h' a o):
  Inv X pins σ (upd H a o) {s with heap:=h',toks:=t'} :=I.un (Un.laid k hp (I.hok.fresh hp)) (I.hok.laid k hp new)
theorem Inv.write {x e:Addr}{o:HO}{t':Nat}(I:Inv X pins σ H s)(mu:Mut (H x))(he:e=x\/H e=some (.own x))(k:∀ b u,b≠e->s.heap.get? b=some u->h'.get? b=some u)(heo:∃ u,h'.get? e=some u)
  (new:fH X.prog X.w (upd H x o) h' x o):Inv X pins σ (upd H x o) {s with heap:=h',toks:=t'} :=I.un (Un.write mu he k heo) (I.hok.write mu he k heo new)
theorem Inv.weak {σ':List (Option V)}(I:Inv X pins σ H s)(hl:σ'.length=σ.length)(w:∀ (i:Nat) v,σ'[i]? = some (some v)->σ[i]? = some (some v)):Inv X pins σ' H s:=
 ⟨I.ok,I.os,I.bare,I.base,let ⟨m,hn,hl'⟩:=I.loc;⟨m,hn,λi x v e1 e2 e3=>hl' i x v e1 (w i v e2) e3⟩,I.cell,I.free,I.fV,I.pin,I.hok,hl.trans I.len⟩
theorem Inv.oG {kC:List (Addr×Obj)}(I:Inv X pins σ H s)(h:∀ p∈kC,s.heap.get? p.1=some p.2/\H p.1=none/\p.1≠X.env.locals/\p.1∉X.fs/\∀ v,p.2.data≠ .cell v):Inv X kC σ H s:=
 ⟨I.ok,I.os,I.bare,I.base,I.loc,I.cell,I.free,I.fV,λp hp=>(aP.mp hp).elim (λz=>I.pin p (bS _ z)) (h p),I.hok,I.len⟩
theorem kH {N:List Str}(hN:N.Nodup){i j:Nat}{x:Str}(a:N[i]? = some x)(b:N[j]? = some x):i=j:=by
 obtain⟨h1,e1⟩:=af.mp a
 obtain⟨h2,e2⟩:=af.mp b
 exact(List.getElem_inj hN).mp (e1.trans e2.symm)
theorem lB {M:Model}{A:Around}{E:Value->Shared->Prop}{i:Nat}{x:Str}{v:V}{u:Value}{Q:Unit->Shared->Prop}(I:Inv X pins σ H s)(hN:X.N.Nodup)(hi:X.N[i]? = some x)(hx:Loc X.env.scope x)(r:RelV v u)
  (h:∀ s',Inv X pins (σ.set i (some v)) H s'->(∃ a,Heap.SameBut a s.heap s'.heap/\(a=X.env.locals\/X.env.cells.lookup x=some a))->Q () s') (hf:X.fn x=true\/X.env.scope.names.lookup x=some .local:=by first |exact .inl rfl |exact .inr rfl |assumption):wpAny M A (storeName X.env x u) Q E s:=by
 obtain⟨m,hn,hl⟩:=id I.loc
 have uo:(X.env.scope.kind == .class||(X.env.scope.kind == .module&&X.env.locals !=X.env.globals))=false:=by rw[I.ok.kind];rfl
 have hiσ:i<σ.length:=by rw[I.len];exact(af.mp hi).1
 have cne:=I.cne
 have tracked:∀ {a:Addr}{h':Heap},(∃ o,s.heap.get? a=some o/\H a=none)->Heap.SameBut a s.heap h'->HOk X.prog X.w H h':=λ{a h'} ha hs b ob e=>by
  obtain⟨_,_,lJ⟩:=ha
  refine(I.hok b ob e).lV (λc w' hc q=>(hs.2 c ?_).trans q) (λ_ q=>q) λ_ _ q=>q
  rintro rfl
  rcases hc with rfl |hc
  ·rw[lJ]at e;cases e
  ·rw[lJ]at hc;cases hc
 rcases hx with hk |hk
 ·refine wpAny_storeName_local hk hn (λh' hn' hs=>?_) uo
  obtain⟨oL,_,_,hoL,_⟩:=id hn
  refine h _ ⟨I.ok,I.os,I.bare,⟨λb o e n hb hx=>?_,λb o e n hb hx=>?_,I.base.free,λb o e hx=>?_,I.base.jt,I.base.ji,I.base.ju⟩,⟨_,hn',λj y v' e1 e2 e3=>?_⟩,λy c e=>?_,I.free,I.fV,λp hp=>?_,tracked ⟨oL,hoL,I.free⟩ hs,by simpa using I.len⟩ ⟨_,hs,.inl rfl⟩
  ·exact(hs.2 b (aV (aI (aA e) I.ok.above))).trans (I.base.keep b o e n hb hx)
  ·obtain⟨sl,e1⟩:=I.base.slot b o e n hb hx
   exact⟨sl,(hs.2 b (aV (aI (aA e) I.ok.above))).trans e1⟩
  ·obtain⟨o',e1⟩:=I.base.there b o e hx
   exact⟨o',(hs.2 b (aV (aI (aA e) I.ok.above))).trans e1⟩
  ·by_cases hj:j=i
   ·subst hj
    rw[hi]at e1;cases e1
    rw[List.getElem?_set_self hiσ]at e2
    cases e2
    exact⟨u,r,.inl ⟨hk,by simp⟩⟩
   ·rw[cK (cH hj)]at e2
    obtain⟨u',r',q⟩:=hl j y v' e1 e2 e3
    refine⟨u',r',?_⟩
    rcases q with⟨k,e⟩|⟨k,c,e,z⟩
    ·refine .inl ⟨k,?_⟩
     have:y≠x:=λe=>hj (kH hN e1 (e ▸ hi))
     simp[this,e]
    ·exact .inr ⟨k,c,e,z.sameBut hs (cne y c e)⟩
  ·obtain⟨w',z⟩:=I.cell y c e
   exact⟨w',z.sameBut hs (cne y c e)⟩
  ·obtain⟨e,n,ne,nf,d⟩:=I.pin p hp
   exact⟨(hs.2 p.1 ne).trans e,n,ne,nf,d⟩
 ·have hfn:X.fn x=true:=by
   rcases hf with z |z
   ·exact z
   ·rw[z]at hk;cases hk
  obtain⟨c,hc⟩:=I.ok.has x (.inl hk)
  obtain⟨w',z⟩:=I.cell x c hc
  refine wpAny_storeName_cell I.ok.kind hk hc z (λh' hc' hs=>?_)
  obtain⟨oc,hoc,xW⟩:=id z
  refine h {s with heap:=h'} ⟨I.ok,I.os,I.bare,⟨λb o e n hb hx=>?_,λb o e n hb hx=>?_,I.base.free,λb o e hx=>?_,I.base.jt,I.base.ji,I.base.ju⟩,⟨m,hn.sameBut hs (cH (cne x c hc)),λj y v' e1 e2 e3=>?_⟩,λy c' e=>?_,I.free,I.fV,λp hp=>?_,tracked ⟨oc,hoc,I.fV x c hc⟩ hs,by simpa using I.len⟩ ⟨c,hs,.inr hc⟩
  ·exact(hs.2 b (aV (aI (aA e) (I.ok.cab x c hfn hc)))).trans (I.base.keep b o e n hb hx)
  ·obtain⟨sl,e1⟩:=I.base.slot b o e n hb hx
   exact⟨sl,(hs.2 b (aV (aI (aA e) (I.ok.cab x c hfn hc)))).trans e1⟩
  ·obtain⟨o',e1⟩:=I.base.there b o e hx
   exact⟨o',(hs.2 b (aV (aI (aA e) (I.ok.cab x c hfn hc)))).trans e1⟩
  ·by_cases hj:j=i
   ·subst hj
    rw[hi]at e1;cases e1
    rw[List.getElem?_set_self hiσ]at e2
    cases e2
    exact⟨u,r,.inr ⟨.inl hk,c,hc,hc'⟩⟩
   ·rw[cK (cH hj)]at e2
    obtain⟨u',r',q⟩:=hl j y v' e1 e2 e3
    refine⟨u',r',?_⟩
    rcases q with q |⟨k,c',e,z'⟩
    ·exact .inl q
    ·refine .inr ⟨k,c',e,z'.sameBut hs ?_⟩
     rintro rfl
     exact hj (kH hN e1 (I.ok.inj _ _ _ e hc ▸ hi))
  ·by_cases hcc:c'=c
   ·subst hcc;exact⟨_,hc'⟩
   ·obtain⟨w2,z2⟩:=I.cell y c' e
    exact⟨w2,z2.sameBut hs hcc⟩
  ·obtain⟨e,n,ne,nf,d⟩:=I.pin p hp
   refine⟨(hs.2 p.1 ?_).trans e,n,ne,nf,d⟩
   intro q
   rw[q,hoc]at e
   have q':oc=p.2:=bw e
   exact d w' (by rw[<-q'];exact xW)
theorem kl {M:Model}{A:Around}{E:Value->Shared->Prop}{i:Nat}{x:Str}{v:V}{u:Value}{Q:Unit->Shared->Prop}(I:Inv X pins σ H s)(hN:X.N.Nodup)(hi:X.N[i]? = some x)(hx:Loc X.env.scope x)(r:RelV v u)
  (h:∀ s',Inv X pins (σ.set i (some v)) H s'->Q () s') (hf:X.fn x=true\/X.env.scope.names.lookup x=some .local:=by first |exact .inl rfl |exact .inr rfl |assumption):wpAny M A (storeName X.env x u) Q E s:=
 lB I hN hi hx r (λs' I' _=>h s' I') hf
theorem Inv.sW {s':Shared}{ch:List Addr}(I:Inv X pins σ H s)(ho:s'.os=s.os)(u:Un (frs X.stack) ch H H' s.heap s'.heap)(hok:HOk X.prog X.w H' s'.heap)(hg:AllBare s'.gens)
  (hch:∀ b∈ch,(b∈X.ex\/X.s₀.heap.objs.size<=b)/\b≠X.env.locals/\(∀ x c,X.env.cells.lookup x=some c->c≠b)/\∀ p∈X.pn++pins,p.1≠b):Inv X pins σ H' s':=by
 obtain⟨h',g',d',t',o'⟩:=s'
 have e:o'=s.os:=ho
 subst e
 exact I.call (g':=g') (t':=t') (d':=d') u hok hg hch
end
abbrev XK:=Value->Option Addr->Hp->Prop
abbrev St:=List (Option V)
abbrev VK:=V->Hp->Prop
abbrev TE:=St->Hp->VK->Prop
abbrev TT:=St->Hp->(Bool->Hp->Prop)->Prop
abbrev TA:=St->Hp->(List V->Hp->Prop)->Prop
structure Ends where
 nx:St->Hp->Prop
 rt:VK
 bk:St->Hp->Prop:=λ_ _=>False
 ct:St->Hp->Prop:=λ_ _=>False
abbrev TS:=Ends->St->Hp->Prop
def EP (X:Cx)(pins:List (Addr×Obj))(σ:St)(Q:VK)(u:Value)(s':Shared):Prop:=∃ v H',Inv X pins σ H' s'/\RelV v u/\Q v H'
def TP (X:Cx)(pins:List (Addr×Obj))(σ:St)(Q:Bool->Hp->Prop)(b:Bool)(s':Shared):Prop:=∃ H',Inv X pins σ H' s'/\Q b H'
def AP (X:Cx)(pins:List (Addr×Obj))(σ:St)(Q:List V->Hp->Prop)(us:List Value)(s':Shared):Prop:=∃ vs H',Inv X pins σ H' s'/\Vals vs us/\Q vs H'
def SP (X:Cx)(pins:List (Addr×Obj))(D:Ends)(f:Flow)(s':Shared):Prop:=
 match f with
 |.next=>∃ σ' H',Inv X pins σ' H' s'/\D.nx σ' H'
 |.brk=>∃ σ' H',Inv X pins σ' H' s'/\D.bk σ' H'
 |.cont=>∃ σ' H',Inv X pins σ' H' s'/\D.ct σ' H'
 |.ret u=>∃ v σ' H',Inv X pins σ' H' s'/\RelV v u/\D.rt v H'
def PE (X:Cx)(e:Expr)(t:TE):Prop:=
 ∀ (pins:List (Addr×Obj)) (s:Shared) (σ:St) (H:Hp) (Q:VK),Inv X pins σ H s->t σ H Q->wpAny (model X.prog X.w) X.A (eval e X.env) (EP X pins σ Q) X.xe s
def PT (X:Cx)(e:Expr)(t:TT):Prop:=
 ∀ (pins:List (Addr×Obj)) (s:Shared) (σ:St) (H:Hp) (Q:Bool->Hp->Prop),Inv X pins σ H s->t σ H Q->wpAny (model X.prog X.w) X.A (isTrue e X.env (eval e X.env)) (TP X pins σ Q) X.xe s
def PW (X:Cx)(e:Expr)(t:TT):Prop:=
 ∀ (whole:Sem Value) (pins:List (Addr×Obj)) (s:Shared) (σ:St) (H:Hp) (Q:Bool->Hp->Prop),Inv X pins σ H s->t σ H Q->wpAny (model X.prog X.w) X.A (isTrue e X.env whole) (TP X pins σ Q) X.xe s
theorem PW.pt {X:Cx}{e:Expr}{t:TT}(h:PW X e t):PT X e t:=h _
def PA (X:Cx)(es:List Expr)(t:TA):Prop:=
 ∀ (pos:Pos) (pins:List (Addr×Obj)) (s:Shared) (σ:St) (H:Hp) (Q:List V->Hp->Prop),Inv X pins σ H s->t σ H Q->wpAny (model X.prog X.w) X.A (spliced (backTo pos (starEach es X.env))) (AP X pins σ Q) X.xe s
def PS (X:Cx)(st:Stmt)(t:TS):Prop:=
 ∀ (pins:List (Addr×Obj)) (s:Shared) (σ:St) (H:Hp) (D:Ends),Inv X pins σ H s->t D σ H->wpAny (model X.prog X.w) X.A (exec st X.env) (SP X pins D) X.xe s
def PSs (X:Cx)(st:List Stmt)(t:TS):Prop:=
 ∀ (pins:List (Addr×Obj)) (s:Shared) (σ:St) (H:Hp) (D:Ends),Inv X pins σ H s->t D σ H->wpAny (model X.prog X.w) X.A (execs st X.env) (SP X pins D) X.xe s
theorem thn {α:Type}{t:Sem α}{Q Q':α->Shared->Prop}{M:Model}{A:Around}{E:Value->Shared->Prop}{s:Shared}(h:wpAny M A t Q E s)(hQ:∀ a s,Q a s->Q' a s):wpAny M A t Q' E s:=bF h hQ λ_ _ x=>x
section
variable {X:Cx}
theorem bin {a b:Expr}{ta tb:TE}(ha:PE X a ta)(hb:PE X b tb){pins:List (Addr×Obj)}{s:Shared}{σ:St}{H:Hp}{R:V->V->Hp->Prop}(I:Inv X pins σ H s)(h:ta σ H λx H1=>tb σ H1 λy H2=>R x y H2)
  {α:Type}{Q:α->Shared->Prop}{f:Value->Value->Sem α}
  (hf:∀ v u s2 x y H2,Inv X pins σ H2 s2->RelV x v->RelV y u->R x y H2->wpAny (model X.prog X.w) X.A (f v u) Q X.xe s2):
  wpAny (model X.prog X.w) X.A (eval a X.env) (λv s₁=>wpAny (model X.prog X.w) X.A (eval b X.env) (λu s₂=>wpAny (model X.prog X.w) X.A (f v u) Q X.xe s₂) X.xe s₁) X.xe s:=by
 refine thn (ha pins s σ H _ I h) λv s1 ⟨x,H1,I1,r1,q1⟩=>?_
 refine thn (hb pins s1 σ H1 _ I1 q1) λu s2 ⟨y,H2,I2,r2,q2⟩=>?_
 exact hf v u s2 x y H2 I2 r1 r2 q2
def uM (i:Nat):TE:=λσ H Q=>∃ v,σ[i]? = some (some v)/\Q v H
def tC (v:V):TE:=λ_ H Q=>Q v H
theorem tN {i:Nat}{x:Str}{pos:Pos}(hN:X.N[i]? = some x)(hv:Vis X.env.scope x)(hd:(x==("__debug__" :Str))=false:=by decide)(hcd:(x==("__classdict__" :Str))=false:=by decide):PE X (.Name x pos) (uM i):=by
 intro pins s σ H Q I h
 obtain⟨v,e,h⟩:=h
 obtain⟨m,hn,hl⟩:=I.loc
 obtain⟨u,r,l⟩:=hl i x v hN e hv
 have fin:EP X pins σ Q u s:=⟨v,H,I,r,h⟩
 rcases l with⟨hk,hm⟩|⟨hk,c,hc,sR⟩
 ·exact wpAny_Name (wpAny_loadName_local I.ok.kind hk hn hm fin) hd
 ·rcases hk with hk |hk
  ·exact wpAny_Name (wpAny_loadName_cell I.ok.kind hk hc sR fin) hd
  ·exact wpAny_Name (wpAny_loadName_free I.ok.kind hk hc sR fin hcd) hd
theorem dq {i j pos} :PE X (.Constant (.int i) j pos) (tC (.int i)):=λ_ _ _ H _ I h=>wpAny_Constant_int ⟨.int i,H,I.tok _,⟨_,rfl⟩,h⟩
theorem m7 {b j pos} :PE X (.Constant (.bool b) j pos) (tC (.bl b)):=λ_ _ _ H _ I h=>Constant_bool ⟨.bl b,H,I,rfl,h⟩
theorem qo {j pos} :PE X (.Constant .none j pos) (tC .non):=λ_ _ _ H _ I h=>Constant_none ⟨.non,H,I,rfl,h⟩
theorem gE {x j pos} :PE X (.Constant (.str x) j pos) (tC (.str x)):=λ_ _ _ H _ I h=>Calls.Constant_str ⟨.str x,H,I.tok _,⟨_,rfl⟩,h⟩
def Gl (X:Cx)(x:Str):Prop:=X.env.kindOf x=some .globalImplicit
theorem iV {E:Value->Shared->Prop}{pins:List (Addr×Obj)}{s:Shared}{σ:St}{H:Hp}{x:Str}{u:Value}{pos:Pos}{Q:Value->Shared->Prop}(I:Inv X pins σ H s)(hg:Gl X x)(hm:X.mg x=some u)(h:Q u s)
  (hd:(x==("__debug__" :Str))=false:=by decide):wpAny (model X.prog X.w) X.A (eval (.Name x pos) X.env) Q E s:=
 Calls.Name_function_global I.ok.kind hg (Calls.loadGlobal_global (by rw[I.ok.glob];exact I.mod.glob.keeps I.bk) hm h) hd
theorem iw {E:Value->Shared->Prop}{pins:List (Addr×Obj)}{s:Shared}{σ:St}{H:Hp}{x:Str}{u:Value}{pos:Pos}{Q:Value->Shared->Prop}(I:Inv X pins σ H s)(hg:Gl X x)(hm:X.mg x=none)(hv:bootBuiltins x=some u)(h:Q u s)
  (hn:x≠ "__name__" :=by decide) (hd:(x==("__debug__" :Str))=false:=by decide):wpAny (model X.prog X.w) X.A (eval (.Name x pos) X.env) Q E s:=by
 obtain⟨mb,h1,h2⟩:=I.mod.blt
 exact Calls.Name_function_global I.ok.kind hg (Calls.loadGlobal_builtin (by rw[I.ok.glob];exact I.mod.glob.keeps I.bk) hm (by rw[I.ok.blt];exact h1.keeps I.bk) ((h2 x hn).trans hv) h) hd
theorem gB {x:Str}{v:V}{u:Value}{pos:Pos}(hg:Gl X x)(hm:X.mg x=some u)(r:RelV v u)(hd:(x==("__debug__" :Str))=false:=by decide):PE X (.Name x pos) (tC v):=
 λ_ _ _ H _ I h=>iV I hg hm ⟨v,H,I,r,h⟩ hd
theorem oJ {x:Str}{v:V}{u:Value}{pos:Pos}(hg:Gl X x)(hm:X.mg x=none)(hv:bootBuiltins x=some u)(r:RelV v u)(hn:x≠ "__name__" :=by decide)(hd:(x==("__debug__" :Str))=false:=by decide):PE X (.Name x pos) (tC v):=
 λ_ _ _ H _ I h=>iw I hg hm hv ⟨v,H,I,r,h⟩ hn hd
def t2I (ta tb:TE)(k:Int->Int->Hp->Prop):St->Hp->Prop:=λσ H=>ta σ H λx H1=>tb σ H1 λy H2=>∃ i j,x = .int i/\y = .int j/\k i j H2
variable {a b:Expr}{ta tb:TE}{pos:Pos}
def PC (X:Cx)(op:CmpOp)(a b:Expr)(t:TE):Prop:=
 ∀ (pins:List (Addr×Obj)) (s:Shared) (σ:St) (H:Hp) (Q:VK),Inv X pins σ H s->t σ H Q->
  wpAny (model X.prog X.w) X.A (eval a X.env) (λv s₁=>wpAny (model X.prog X.w) X.A (eval b X.env) (λu s₂=>wpAny (model X.prog X.w) X.A (compareOp op v u) (EP X pins σ Q) X.xe s₂) X.xe s₁) X.xe s
theorem qE (b:Expr){op:CmpOp}(h:op≠ .In)(h2:op≠ .NotIn):behindInMarks op b=false:=by
 have e1:(op==CmpOp.In)=false:=by cases op<;>first |rfl |exact absurd rfl h
 have e2:(op==CmpOp.NotIn)=false:=by cases op<;>first |rfl |exact absurd rfl h2
 cases b<;>simp[behindInMarks,e1,e2]
def nL (p:Int->Int->Bool)(ta tb:TE):TE:=λσ H Q=>t2I ta tb (λi j H2=>Q (.bl (p i j)) H2) σ H
abbrev tLt:TE->TE->TE:=nL λi j=>decide (i<j)
abbrev tLe:TE->TE->TE:=nL λi j=>decide (i<=j)
abbrev tGt:TE->TE->TE:=nL λi j=>decide (j<i)
abbrev tGe:TE->TE->TE:=nL λi j=>decide (j<=i)
abbrev wB:TE->TE->TE:=nL λi j=>decide (i=j)
abbrev wx:TE->TE->TE:=nL λi j=> !decide (i=j)
theorem jK {op:CmpOp}{p:Int->Int->Bool}(ha:PE X a ta)(hb:PE X b tb)
  (rule:∀ (i j:Int) (t u:Tok) (Q:Value->Shared->Prop) (s:Shared),Q (.bool (p i j)) s->wpAny (model X.prog X.w) X.A (compareOp op (.int i t) (.int j u)) Q X.xe s):PC X op a b (nL p ta tb):=by
 intro pins s σ H Q I h
 refine bin ha hb I h λv u s2 x y H2 I2 rx ry q=>?_
 obtain⟨i,j,rfl,rfl,q⟩:=q
 obtain⟨t,rfl⟩:=rx
 obtain⟨t',rfl⟩:=ry
 exact rule i j t t' _ s2 ⟨.bl _,H2,I2,rfl,q⟩
theorem oK (ha:PE X a ta)(hb:PE X b tb):PC X .Lt a b (tLt ta tb):=jK ha hb λ_ _ _ _ _ _ h=>lt_int h
theorem uY (ha:PE X a ta)(hb:PE X b tb):PC X .LtE a b (tLe ta tb):=jK ha hb λ_ _ _ _ _ _ h=>le_int h
theorem uZ (ha:PE X a ta)(hb:PE X b tb):PC X .Gt a b (tGt ta tb):=jK ha hb λ_ _ _ _ _ _ h=>gt_int h
theorem u0 (ha:PE X a ta)(hb:PE X b tb):PC X .GtE a b (tGe ta tb):=jK ha hb λ_ _ _ _ _ _ h=>ge_int h
theorem gT (ha:PE X a ta)(hb:PE X b tb):PC X .Eq a b (wB ta tb):=jK ha hb λ_ _ _ _ _ _ h=>eq_int (by rw[Bool.beq_eq_decide_eq];exact h)
theorem tO (ha:PE X a ta)(hb:PE X b tb):PC X .NotEq a b (wx ta tb):=jK ha hb λ_ _ _ _ _ _ h=>ne_int (by rw[bne,Bool.beq_eq_decide_eq];exact h)
def uO (ta:TE):TE:=λσ H Q=>ta σ H λx H1=>Q (.bl (!decide (x = .non))) H1
theorem RelV.qC {x:V}{v:Value}(r:RelV x v):(v==Value.none)=decide (x = .non):=by
 cases x with
 |non=>cases r;rfl
 |bl _=>cases r;rfl
 |int _=>obtain⟨t,rfl⟩:=r;rfl
 |str _=>obtain⟨t,rfl⟩:=r;rfl
 |byt _=>obtain⟨t,rfl⟩:=r;rfl
 |flt _=>obtain⟨t,rfl⟩:=r;rfl
 |ref _=>cases r;rfl
 |ty _=>cases r;rfl
theorem rV {j pos'}(ha:PE X a ta):PC X .IsNot a (.Constant .none j pos') (uO ta):=by
 intro pins s σ H Q I h
 refine thn (ha pins s σ H _ I h) λv s1 ⟨x,H1,I1,r1,q1⟩=>?_
 exact Constant_none (isnot_none_gen ⟨.bl _,H1,I1,by rw[r1.qC];rfl,q1⟩)
def tB (t:TE):TT:=λσ H Q=>t σ H λx H1=>∃ c,x = .bl c/\Q c H1
theorem eS {op:CmpOp}{t:TE}(h:PC X op a b t)(h1:behindInMarks op b=false:=by first |exact qE _ (by decide) (by decide)|rfl):PT X (.Compare a [op] [b] pos) (tB t):=by
 intro pins s σ H Q I hw
 refine wpAny_isTrue_Compare1 (thn (h pins s σ H _ I hw) λv s1 h1=>thn h1 λu s2 h2=>thn h2 λc s3 ⟨x,H1,I1,r1,q1⟩=>?_) h1
 obtain⟨d,rfl,q⟩:=q1
 cases r1
 exact cI ⟨H1,I1,q⟩
theorem qi {e:Expr}{t:TE}(h:PE X e t)(he:∀ whole,isTrue e X.env whole=(do let v <-whole;standAt e.pos;holding [v] (truthy v)):=by intro _;rfl):PT X e (tB t):=by
 intro pins s σ H Q I hw
 refine isTrue_plain (thn (h pins s σ H _ I hw) λv s1 ⟨x,H1,I1,r1,q1⟩=>?_) (he _)
 obtain⟨d,rfl,q⟩:=q1
 cases r1
 exact cI ⟨H1,I1,q⟩
variable {tA tB':TT}{rest:List Expr}
def wD (t u:TT):TT:=λσ H Q=>t σ H λc H1=>if c=true then u σ H1 Q else Q false H1
def tOr (t u:TT):TT:=λσ H Q=>t σ H λc H1=>if c=true then Q true H1 else u σ H1 Q
def wq (t:TT):TT:=λσ H Q=>t σ H λc H1=>Q (!c) H1
theorem mf (ha:PT X a tA):PW X (.BoolOp .And [a] pos) tA:=by
 intro wh pins s σ H Q I h
 refine isTrue_and (thn (ha pins s σ H Q I h) λc s1 e=>?_)
 cases c with
 |true=>exact isTrue_and_nil e
 |false=>exact e
theorem tJ (ha:PT X a tA):PW X (.BoolOp .Or [a] pos) tA:=by
 intro wh pins s σ H Q I h
 refine isTrue_or (thn (ha pins s σ H Q I h) λc s1 e=>?_)
 cases c with
 |false=>exact isTrue_or_nil e
 |true=>exact e
theorem mh (ha:PT X a tA)(hb:PW X (.BoolOp .And (b::rest) pos) tB'):PW X (.BoolOp .And (a::b::rest) pos) (wD tA tB'):=by
 intro wh pins s σ H Q I h
 refine isTrue_and (thn (ha pins s σ H _ I h) λc s1 ⟨H1,I1,q1⟩=>?_)
 cases c with
 |true=>exact hb wh pins s1 σ H1 Q I1 q1
 |false=>exact⟨H1,I1,q1⟩
theorem uV (ha:PT X a tA)(hb:PW X (.BoolOp .Or (b::rest) pos) tB'):PW X (.BoolOp .Or (a::b::rest) pos) (tOr tA tB'):=by
 intro wh pins s σ H Q I h
 refine isTrue_or (thn (ha pins s σ H _ I h) λc s1 ⟨H1,I1,q1⟩=>?_)
 cases c with
 |true=>exact⟨H1,I1,q1⟩
 |false=>exact hb wh pins s1 σ H1 Q I1 q1
theorem qk (ha:PT X a tA):PT X (.UnaryOp .Not a pos) (wq tA):=by
 intro pins s σ H Q I h
 exact isTrue_not (ha pins s σ H (λc H1=>Q (!c) H1) I h)
end
def SqL (K:PySem.W.Frag)(H:Hp)(a:Addr)(xs:List V):Prop:=
 Rd H a (.lst xs)\/
  ∃ (o:Obj) (its:Array Value) (n:Nat),K.lookup a=some o/\o.cls = .type "list" /\o.dict=none/\o.data = .seq its n/\its.size<=sizeLine/\Vals xs its.toList
def SqT (K:PySem.W.Frag)(H:Hp)(a:Addr)(xs:List V):Prop:=
 Rd H a (.tup xs)\/
  ∃ (o:Obj) (its:Array Value) (n:Nat),K.lookup a=some o/\o.cls = .type "tuple" /\o.data = .seq its n/\its.size<=sizeLine/\Vals xs its.toList
def yN:Value->Option V
 |.none=>some .non
 |.bool b=>some (.bl b)
 |.int i _=>some (.int i)
 |.str x _=>some (.str x)
 |.bytes b _=>some (.byt b)
 |.float b _=>some (.flt b)
 |.ref a=>some (.ref a)
 |.type n=>some (.ty n)
 |_=>none
theorem RelV.abs {x:V}{u:Value}(r:RelV x u):yN u=some x:=by
 cases x with
 |non=>cases r;rfl
 |bl _=>cases r;rfl
 |int _=>obtain⟨t,rfl⟩:=r;rfl
 |str _=>obtain⟨t,rfl⟩:=r;rfl
 |byt _=>obtain⟨t,rfl⟩:=r;rfl
 |flt _=>obtain⟨t,rfl⟩:=r;rfl
 |ref _=>cases r;rfl
 |ty _=>cases r;rfl
theorem RelV.inj {x y:V}{u:Value}(r:RelV x u)(q:RelV y u):x=y:=bw (r.abs.symm.trans q.abs)
theorem Vals.inj:∀ {xs ys:List V}{us:List Value},Vals xs us->Vals ys us->xs=ys
 |_,_,_,.nil,.nil=>rfl
 |_,_,_,.cons r t,.cons r' t'=>by rw[r.inj r',Vals.inj t t']
section
variable {X:Cx}{pins:List (Addr×Obj)}{σ:St}{H:Hp}{s:Shared}{a:Addr}{xs ys:List V}
theorem SqL.of {K:PySem.W.Frag}(h:H a=some (.lst xs)):SqL K H a xs:=.inl (.inl h)
theorem SqT.of {K:PySem.W.Frag}(h:H a=some (.tup xs)):SqT K H a xs:=.inl (.inl h)
theorem Inv.list (I:Inv X pins σ H s)(h:SqL X.K H a xs):∃ its:List Value,Vals xs its/\PlainL s.heap a its.toArray/\xs.length<=sizeLine:=by
 rcases h with h |⟨o,its,n,hk,hc,hd,hs,hz,r⟩
 ·obtain⟨z,its,n,r,e⟩:=h.ok I.hok
  exact⟨its,r,⟨_,n,e,rfl,rfl,rfl⟩,z⟩
 ·refine⟨its.toList,r,⟨o,n,I.kIn a o hk,hc,hd,by simpa using hs⟩,?_⟩
  have e:=r.length
  simp only[ah]at e
  omega
theorem Inv.tuple (I:Inv X pins σ H s)(h:SqT X.K H a xs):∃ its:List Value,Vals xs its/\IsTup s.heap a its.toArray/\xs.length<=sizeLine:=by
 rcases h with h |⟨o,its,n,hk,hc,hs,hz,r⟩
 ·obtain⟨z,its,r,p⟩:=h.ok I.hok
  exact⟨its,r,p,z⟩
 ·refine⟨its.toList,r,⟨o,I.kIn a o hk,hc,n,by simpa using hs⟩,?_⟩
  have e:=r.length
  simp only[ah]at e
  omega
theorem Inv.jA (I:Inv X pins σ H s)(h:SqL X.K H a xs)(h':SqL X.K H a ys):xs=ys:=by
 obtain⟨its,r,⟨o,n,e,_,_,d⟩,_⟩:=I.list h
 obtain⟨its',r',⟨o',n',e',_,_,d'⟩,_⟩:=I.list h'
 rw[e]at e';cases e'
 rw[d]at d'
 injection d' with d1 _
 have:its=its':=by simpa using cT Array.toList d1
 subst this
 exact r.inj r'
end
abbrev Cx.kj (X:Cx)(E:Value->Shared->Prop):Cx:={X with xe:=E}
abbrev Cx.nox (X:Cx):Cx:=X.kj λ_ _=>False
theorem Cx.Ok.kj {X:Cx}(ok:X.Ok)(E:Value->Shared->Prop):(X.kj E).Ok:=
 ⟨ok.mod,ok.kind,ok.glob,ok.blt,ok.above,ok.inj,ok.has,ok.cab,ok.hd,ok.frames,ok.stk,ok.exf,ok.bs,ok.bsz,ok.nS,ok.pK,ok.jT,ok.frf⟩
theorem Cx.Ok.hX {X:Cx}{E:Value->Shared->Prop}(ok:(X.kj E).Ok):X.Ok:=
 ⟨ok.mod,ok.kind,ok.glob,ok.blt,ok.above,ok.inj,ok.has,ok.cab,ok.hd,ok.frames,ok.stk,ok.exf,ok.bs,ok.bsz,ok.nS,ok.pK,ok.jT,ok.frf⟩
section
variable {X:Cx}{pins:List (Addr×Obj)}{σ:St}{H:Hp}{s:Shared}{E:Value->Shared->Prop}
theorem Inv.kj (I:Inv X pins σ H s)(E:Value->Shared->Prop):Inv (X.kj E) pins σ H s:=⟨I.ok.kj E,I.os,I.bare,I.base,I.loc,I.cell,I.free,I.fV,I.pin,I.hok,I.len⟩
theorem Inv.hX (I:Inv (X.kj E) pins σ H s):Inv X pins σ H s:=⟨I.ok.hX,I.os,I.bare,I.base,I.loc,I.cell,I.free,I.fV,I.pin,I.hok,I.len⟩
theorem SP.hX {D:Ends}{f:Flow}{s':Shared}(h:SP (X.kj E) pins D f s'):SP X pins D f s':=by
 cases f with
 |next=>obtain⟨σ',H',I,q⟩:=h;exact⟨σ',H',I.hX,q⟩
 |brk=>obtain⟨σ',H',I,q⟩:=h;exact⟨σ',H',I.hX,q⟩
 |cont=>obtain⟨σ',H',I,q⟩:=h;exact⟨σ',H',I.hX,q⟩
 |ret u=>obtain⟨v,σ',H',I,r,q⟩:=h;exact⟨v,σ',H',I.hX,r,q⟩
theorem PSs.nox {st:List Stmt}{t:TS}(h:PSs X.nox st t):PSs X st t:=λpins s σ H D I hw=>
 bF (h pins s σ H D (I.kj _) hw) (λ_ _ q=>q.hX) λ_ _ z=>False.elim z
end
section
variable {X:Cx}{st:Stmt}{rest:List Stmt}{t u:TS}{e:Expr}{te:TE}{pos:Pos}
def uP:TS:=λD σ H=>D.nx σ H
def j9 (t u:TS):TS:=λD σ H=>t {D with nx:=u D} σ H
theorem eI:PSs X [] uP:=λ_ _ σ H _ I h=>cU ⟨σ,H,I,h⟩
theorem dt (h1:PS X st t)(h2:PSs X rest u):PSs X (st::rest) (j9 t u):=by
 intro pins s σ H D I h
 refine wpAny_execs_cons (thn (h1 pins s σ H {D with nx:=u D} I h) λf s1 q=>?_)
 cases f with
 |next=>
  obtain⟨σ',H',I',q⟩:=q
  exact h2 pins s1 σ' H' D I' q
 |ret v=>exact q
 |brk=>exact q
 |cont=>exact q
theorem dz (h1:PS X st t):PSs X [st] t:=by
 intro pins s σ H D I h
 refine wpAny_execs_cons (thn (h1 pins s σ H D I h) λf s1 q=>?_)
 cases f with
 |next=>exact cU q
 |ret v=>exact q
 |brk=>exact q
 |cont=>exact q
theorem Inv.quiet {pins:List (Addr×Obj)}{σ:St}{H:Hp}{s:Shared}(I:Inv X pins σ H s):interactive X.env=false:=by simp[interactive,I.ok.kind]
def uQ (te:TE):TS:=λD σ H=>te σ H λ_ H1=>D.nx σ H1
theorem fz (he:PE X e te)(hs:swapsWith e none pos.line X.env=pure false:=by rfl):PS X (.Expr e pos) (uQ te):=by
 intro pins s σ H D I h
 exact wpAny_Expr_any (thn (he pins s σ H _ I h) λv s1 ⟨x,H1,I1,r1,q1⟩=>⟨σ,H1,I1,q1⟩) I.quiet hs
def wo (te:TE):TS:=λD σ H=>te σ H D.rt
theorem ef (he:PE X e te):PS X (.Return (some e) pos) (wo te):=by
 intro pins s σ H D I h
 exact wpAny_Return_some (thn (he pins s σ H _ I h) λv s1 ⟨x,H1,I1,r1,q1⟩=>⟨x,σ,H1,I1,r1,q1⟩)
def wz (c:TT)(t u:TS):TS:=λD σ H=>c σ H λb H1=>if b=true then t D σ H1 else u D σ H1
theorem fU {c:Expr}{a b:List Stmt}{tc:TT}(hc:PT X c tc)(ha:PSs X a t)(hb:PSs X b u):PS X (.If c a b pos) (wz tc t u):=by
 intro pins s σ H D I h
 refine wpAny_If (thn (hc pins s σ H _ I h) λd s1 ⟨H1,I1,q1⟩=>?_)
 cases d with
 |true=>exact ha pins s1 σ H1 D I1 q1
 |false=>exact hb pins s1 σ H1 D I1 q1
end
abbrev TG:=V->St->Hp->(St->Hp->Prop)->Prop
abbrev TGs:=List V->St->Hp->(St->Hp->Prop)->Prop
def PG (X:Cx)(target:Expr)(t:TG):Prop:=
 ∀ (pins:List (Addr×Obj)) (s:Shared) (σ:St) (H:Hp) (v:V) (u:Value) (Q:St->Hp->Prop),Inv X pins σ H s->RelV v u->t v σ H Q->
  wpAny (model X.prog X.w) X.A (assign target X.env u) (λ_ s'=>∃ σ' H',Inv X pins σ' H' s'/\Q σ' H') X.xe s
def PGs (X:Cx)(ts:List Expr)(t:TGs):Prop:=
 ∀ (pins:List (Addr×Obj)) (s:Shared) (σ:St) (H:Hp) (vs:List V) (us:List Value) (Q:St->Hp->Prop),Inv X pins σ H s->Vals vs us->t vs σ H Q->
  wpAny (model X.prog X.w) X.A (assignInOrder ((assignEach ts X.env).map (·.2)) us) (λ_ s'=>∃ σ' H',Inv X pins σ' H' s'/\Q σ' H') X.xe s
abbrev y7:=V->V->V->Hp->(Hp->Prop)->Prop
abbrev TIp:=V->V->Hp->VK->Prop
section
variable {X:Cx}{pos:Pos}
def hU (i:Nat):TG:=λv σ H Q=>Q (σ.set i (some v)) H
theorem dS {i:Nat}{x:Str}(hN:X.N.Nodup)(hi:X.N[i]? = some x)(hx:Loc X.env.scope x)(hf:X.fn x=true\/X.env.scope.names.lookup x=some .local:=by first |exact .inl rfl |exact .inr rfl |assumption):PG X (.Name x pos) (hU i):=by
 intro pins s σ H v u Q I r h
 exact wpAny_assign_Name (kl I hN hi hx r (λs' I'=>⟨_,H,I',h⟩) hf)
def vS:TGs:=λvs σ H Q=>vs = []/\Q σ H
def sS (t:TG)(u:TGs):TGs:=λvs σ H Q=>∃ v r,vs=v::r/\t v σ H λσ' H'=>u r σ' H' Q
theorem gA:PGs X [] vS:=by
 intro pins s σ H vs us Q I r h
 obtain⟨e,h⟩:=h
 subst e
 cases r
 exact assignInOrder_nil ⟨σ,H,I,h⟩
theorem eh {e:Expr}{es:List Expr}{t:TG}{u:TGs}(h1:PG X e t)(h2:PGs X es u)
  (hs:(assignEach (e::es) X.env).map (·.2)=assign e X.env::(assignEach es X.env).map (·.2):=by rfl):PGs X (e::es) (sS t u):=by
 intro pins s σ H vs us Q I r h
 obtain⟨v,vr,e1,h⟩:=h
 subst e1
 cases r with
 |cons r rr=>
  rw[hs]
  refine assignInOrder_cons (thn (h1 pins s σ H _ _ _ I r h) λ_ s1 ⟨σ1,H1,I1,q1⟩=>?_)
  exact h2 pins s1 σ1 H1 _ _ Q I1 rr q1
def vR (K:PySem.W.Frag)(n:Nat)(t:TGs):TG:=λv σ H Q=>∃ a xs,v = .ref a/\SqT K H a xs/\xs.length=n/\t xs σ H Q
theorem ij {es:List Expr}{k:Nat}{t:TGs}{n:Nat}(hc:X.calm=true)(h:PGs X es t)
  (hn:(assignEach es X.env).length=n:=by rfl) (hst:(assignEach es X.env).findIdx? (·.1)=none:=by rfl):PG X (.Tuple es k pos) (vR X.K n t):=by
 intro pins s σ H v u Q I r hw
 obtain⟨a,xs,e1,hq,hl,hw⟩:=hw
 subst e1
 cases r
 obtain⟨its,rv,ht,hz⟩:=I.tuple hq
 refine assign_Tuple_tuple (I.ok.hd hc) ht (by simp[hn,<-hl,rv.length]) hst λh' hx=>?_
 have I1:Inv X pins σ H {s with heap:=h'} :=I.kept (t':=s.toks) λb o e=>hx b o (aV (aA e)) e
 exact h pins _ σ H xs _ Q I1 (by simpa using rv) hw
def tw (te:TE)(g:TG):TS:=λD σ H=>te σ H λx H1=>g x σ H1 D.nx
theorem tL {tg e:Expr}{te:TE}{g:TG}(he:PE X e te)(hg:PG X tg g)(hs:swapsWithSole [tg] e pos.line X.env=pure false:=by rfl)(hw:swappedStores [tg] e X.env=pure none:=by rfl)
  (h1:(assignEach [tg] X.env).map (·.2) = [assign tg X.env]:=by rfl):PS X (.Assign [tg] e pos) (tw te g):=by
 intro pins s σ H D I h
 refine wpAny_Assign_stores (thn (he pins s σ H _ I h) λv s1 ⟨x,H1,I1,r1,q1⟩=>?_) hs hw
 rw[h1]
 exact thn (hg pins s1 σ H1 x v _ I1 r1 q1) λ_ s2 q=>q
theorem dO {i:Nat}{x:Str}{e:Expr}{te:TE}{pos':Pos}(hN:X.N.Nodup)(hi:X.N[i]? = some x)(hx:Loc X.env.scope x)(he:PE X e te)(hs:swapsWith e (some (.Name x pos')) pos.line X.env=pure false:=by rfl)(hf:X.fn x=true\/X.env.scope.names.lookup x=some .local:=by first |exact .inl rfl |exact .inr rfl |assumption):
  PS X (.Assign [.Name x pos'] e pos) (tw te (hU i)):=by
 intro pins s σ H D I h
 refine wpAny_Assign_Name (thn (he pins s σ H _ I h) λv s1 ⟨y,H1,I1,r1,q1⟩=>?_) hs
 exact kl I1 hN hi hx r1 (λs2 I2=>⟨_,H1,I2,q1⟩) hf
end
section
variable {X:Cx}{pos:Pos}
def nK (c:TT)(tb:TS):TS:=λD σ H=>∃ W:Nat->St->Hp->Prop,(∃ m,W m σ H)/\∀ m σ H,W m σ H->
 c σ H λb H1=>if b=true then ∃ N:St->Hp->Prop,(∀ σ' H',N σ' H'->∃ m',m'<m/\W m' σ' H')/\tb {D with nx:=N,ct:=N,bk:=D.nx} σ H1 else D.nx σ H1
theorem ql {c:Expr}{body:List Stmt}{tc:TT}{tb:TS}(hp:PassesOwn (model X.prog X.w) X.A X.env X.xe)(hc:PT X c tc)(hb:PSs X body tb):PS X (.While c body [] pos) (nK tc tb):=by
 intro pins s σ H D I h
 obtain⟨W,⟨m0,w0⟩,turn⟩:=h
 refine wpAny_While (codeAny_whileLoop (λn s'=>∃ σ' H',Inv X pins σ' H' s'/\W n σ' H') ?_ m0 ⟨σ,H,I,w0⟩)
 rintro n s1 ⟨σ1,H1,I1,w1⟩
 refine cg hp (thn (hc pins s1 σ1 H1 _ I1 (turn n σ1 H1 w1)) λb s2 ⟨H2,I2,q2⟩=>?_)
 cases b with
 |true=>
  obtain⟨N,hN,q2⟩:=q2
  rw[aC rfl]
  refine cg hp (thn (hb pins s2 σ1 H2 _ I2 q2) λf s3 q3=>?_)
  cases f with
  |next=>
   obtain⟨σ3,H3,I3,n3⟩:=q3
   obtain⟨m',hm,w3⟩:=hN σ3 H3 n3
   exact⟨m',hm,σ3,H3,I3,w3⟩
  |cont=>
   obtain⟨σ3,H3,I3,n3⟩:=q3
   obtain⟨m',hm,w3⟩:=hN σ3 H3 n3
   exact⟨m',hm,σ3,H3,I3,w3⟩
  |brk=>exact q3
  |ret v=>exact q3
 |false=>
  rw[az aX]
  exact cU ⟨σ1,H2,I2,q2⟩
end
structure It where
 go:Nat->Hp->Prop
 yld:Nat->Hp->V->Hp->Prop
 stop:Nat->Hp->Prop
def kg (X:Cx)(pins:List (Addr×Obj))(H:Hp)(b:Addr):Prop:=
 H b=none/\b≠X.env.locals/\b∉X.fs/\(b∈X.ex\/X.s₀.heap.objs.size<=b)/\(∀ x c,X.env.cells.lookup x=some c->c≠b)/\∀ p∈X.pn++pins,p.1≠b
theorem Inv.rf {X:Cx}{pins:List (Addr×Obj)}{σ:St}{H H':Hp}{s:Shared}{b:Addr}(I:Inv X pins σ H s)(hb:s.heap.objs.size<=b)(hn:H' b=none):kg X pins H' b:=by
 refine⟨hn,Nat.ne_of_gt (aI I.lt hb),I.xE hb,.inr (bR I.sz hb),λx c e z=>?_,λp hp z=>?_⟩
 ·obtain⟨v,q⟩:=I.cell x c e
  exact absurd (aI q.lt (by rw[z];exact hb)) (cc _)
 ·exact absurd (aI (aA (I.pin p hp).1) (by rw[z];exact hb)) (cc _)
structure Turn (P:Program)(w:World)(K:PySem.W.Frag)(tg:Expr)(J:It)(fp:List Addr)(it:Addr)(tn:Nat->Heap->Prop):Prop where
 mem:it∈fp
 obj:∀ i h,tn i h->∀ b∈fp,∃ o,h.get? b=some o/\∀ v,o.data≠ .cell v
 keep:∀ i h h',tn i h->(∀ b∈fp,∀ o,h.get? b=some o->h'.get? b=some o)->tn i h'
 item:∀ (X:Cx),X.prog=P->X.w=w->X.K=K->X.calm=true->∀ (i:Nat) (pins:List (Addr×Obj)) (s:Shared) (σ:St) (H:Hp) (E:Value->Shared->Prop),Inv X pins σ H s->(∀ b∈fp,kg X pins H b)->tn i s.heap->J.go i H->
  wpAny (model P w) X.A (pyNext (.ref it)) (λr s1=>∃ u,r=some u/\
   wpAny (model P w) X.A (letOwnedTupleGo tg (.ref it) u) (λ_ s2=>∃ x H',Inv X pins σ H' s2/\RelV x u/\J.yld i H x H'/\tn (i+1) s2.heap/\∀ b∈fp,H' b=none) E s1) E s
 done:∀ (X:Cx),X.prog=P->X.w=w->X.K=K->X.calm=true->∀ (i:Nat) (pins:List (Addr×Obj)) (s:Shared) (σ:St) (H:Hp) (E:Value->Shared->Prop),Inv X pins σ H s->(∀ b∈fp,kg X pins H b)->tn i s.heap->J.stop i H->
  wpAny (model P w) X.A (pyNext (.ref it)) (λr s1=>r=none/\Inv X pins σ H s1) E s
 self:∀ (A:Around) (i:Nat) (s:Shared) (Q:Value->Shared->Prop) (E:Value->Shared->Prop),tn i s.heap->Q (.ref it) s->wpAny (model P w) A (pyIter (.ref it)) Q E s
abbrev TI:=St->Hp->(It->Hp->Prop)->Prop
def PIE (X:Cx)(pins:List (Addr×Obj))(σ:St)(tg:Expr)(R:It->Hp->Prop)(itv:Value)(s2:Shared):Prop:=
 ∃ (it:Addr) (fp:List Addr) (tn:Nat->Heap->Prop) (J:It) (H':Hp),itv = .ref it/\Inv X pins σ H' s2/\Turn X.prog X.w X.K tg J fp it tn/\tn 0 s2.heap/\(∀ b∈fp,kg X pins H' b)/\R J H'
def PI (X:Cx)(tg iter:Expr)(wi:TI):Prop:=
 ∀ (pins:List (Addr×Obj)) (s:Shared) (σ:St) (H:Hp) (R:It->Hp->Prop),Inv X pins σ H s->wi σ H R->
  wpAny (model X.prog X.w) X.A (eval iter X.env) (λv s1=>wpAny (model X.prog X.w) X.A (pyIter v) (PIE X pins σ tg R) X.xe s1) X.xe s
theorem oQ {M : Model} {A : Around} {E : Value → Shared → Prop} {s : Shared} {tg : Expr} {it : Addr} {u : Value} {o : Obj} {n : String} {vs : Array Value} {Q : Unit → Shared → Prop} (ho : s.heap.get? it = some o) (hc : o.cls = .type n) (hd : o.data = .fields vs)
    (hn : ["enumerate", "zip", "dict_itemiterator", "dict_reverseitemiterator", "odict_iterator", "itertools.zip_longest", "itertools.pairwise"].contains n = false) (hQ : Q () s) : wpAny M A (letOwnedTupleGo tg (.ref it) u) Q E s := by
  unfold letOwnedTupleGo
  cases tg <;> first
    | exact aS hQ
    | (cases u <;> first
        | exact aS hQ
        | (refine au (wpAny_load ho ?_)
           rw [hc, hd]
           show wpAny M A (if (["enumerate", "zip", "dict_itemiterator", "dict_reverseitemiterator", "odict_iterator", "itertools.zip_longest", "itertools.pairwise"].contains n && vs[0]? == some (rawInt _)) = true then _ else _) Q E s
           rw [az (by intro h; rw [hn, Bool.false_and] at h; cases h)]
           exact aS hQ))
def Itl (K:PySem.W.Frag)(a:Addr):It:=
 ⟨λi H=>∃ xs x,SqL K H a xs/\xs[i]? = some x,λi H x H'=>H'=H/\∀ xs,SqL K H a xs->xs[i]? = some x,λi H=>∃ xs,SqL K H a xs/\xs.length<=i⟩
def Itr (lo:Int)(n:Nat):It:=⟨λi _=>i<n,λi H x H'=>H'=H/\x = .int (lo+i),λi _=>n<=i⟩
theorem o9 {P:Program}{w:World}{K:PySem.W.Frag}{tg:Expr}(a it:Addr):Turn P w K tg (Itl K a) [it] it (λi h=>h.IsListIter it a i) where
 mem:=by simp
 obj:=λi h st b hb=>by
  have e:b=it:=by simpa using hb
  subst e
  obtain⟨o,e,c,d⟩:=st
  exact⟨o,e,λv z=>by rw[d]at z;cases z⟩
 keep:=λi h h' st k=>st.at λo e=>k it (by simp) o e
 item:=by
  intro X hP hw hK hc i pins s σ H E I hf st hg
  subst hP hw hK
  obtain⟨xs,x,hq,hx⟩:=hg
  obtain⟨its,rv,p,hz⟩:=I.list hq
  obtain⟨u,hu,ru⟩:=rv.get hx
  obtain⟨f0,f1,f2,f3,f4,f5⟩:=hf it (by simp)
  refine wpAny_pyNext_list_item st p.isList (x:=u) (by simpa using hu) λh' st' sb=>?_
  have I1:Inv X pins σ H {s with heap:=h'} :=I.turned (t':=s.toks) (λb o hb e=>(sb.2 b hb).trans e) f0 f1 f3 f4 f5
  obtain⟨o,e,c,d⟩:=id st'
  exact⟨u,rfl,oQ (s:={s with heap:=h'}) e c d (by decide) ⟨x,H,I1,ru,⟨rfl,λys hy=>by rw[I.jA hy hq];exact hx⟩,st',λb hb=>(hf b hb).1⟩⟩
 done:=by
  intro X hP hw hK hc i pins s σ H E I hf st hg
  subst hP hw hK
  obtain⟨xs,hq,hx⟩:=hg
  obtain⟨its,rv,p,hz⟩:=I.list hq
  obtain⟨f0,f1,f2,f3,f4,f5⟩:=hf it (by simp)
  have hl:=rv.length
  exact wpAny_pyNext_list_end (I.ok.hd hc) st p.isList (by simp;omega) λh' eb=>⟨rfl,I.turned (t':=s.toks) (λb o hb e=>eb b o hb e) f0 f1 f3 f4 f5⟩
 self:=λ_ _ _ _ _ st h=>wpAny_pyIter_listiter st h
theorem nJ {P:Program}{w:World}{K:PySem.W.Frag}{tg:Expr}(it:Addr)(lo:Int)(n:Nat):Turn P w K tg (Itr lo n) [it] it (λi h=>IsRangeIter h it (lo+(i:Nat)*1) ((n:Int)-(i:Nat)) 1) where
 mem:=by simp
 obj:=λi h st b hb=>by
  have e:b=it:=by simpa using hb
  subst e
  exact⟨_,st,λv z=>by
   have z':Data.fields _=Data.cell v:=z
   cases z'⟩
 keep:=λi h h' st k=>k it (by simp) _ st
 item:=by
  intro X hP hw hK hc i pins s σ H E I hf st hg
  subst hP hw hK
  obtain⟨f0,f1,f2,f3,f4,f5⟩:=hf it (by simp)
  have W:=Walks.range (prog:=X.prog) (w:=X.w) (I.ok.hd hc) it lo 1 n
  refine W.item i s _ _ hg st λv h' tk hv st' kk=>?_
  obtain⟨t,rfl⟩:=hv
  have I1:Inv X pins σ H {s with heap:=h',toks:=tk} :=I.turned (λb o hb e=>kk b o (by simpa using hb) e) f0 f1 f3 f4 f5
  refine⟨_,rfl,oQ (s:={s with heap:=h',toks:=tk}) (n:= "range_iterator") st' rfl rfl (by decide) ⟨.int (lo+i),H,I1,⟨t,?_⟩,⟨rfl,rfl⟩,st',λb hb=>(hf b hb).1⟩⟩
  rw[Int.mul_one]
 done:=by
  intro X hP hw hK hc i pins s σ H E I hf st hg
  subst hP hw hK
  obtain⟨f0,f1,f2,f3,f4,f5⟩:=hf it (by simp)
  exact wpAny_pyNext_range_end (I.ok.hd hc) st (by have:n<=i:=hg;omega) λh' eb=>⟨rfl,I.turned (t':=s.toks) (λb o hb e=>eb b o hb e) f0 f1 f3 f4 f5⟩
 self:=λ_ _ _ _ _ st h=>wpAny_pyIter_rangeiter st h
section
variable {X:Cx}{tg:Expr}
def vE (K:PySem.W.Frag)(tl:TE):TI:=λσ H R=>tl σ H λx H1=>∃ a,x = .ref a/\(∃ xs,SqL K H1 a xs)/\R (Itl K a) H1
theorem eZ {l:Expr}{tl:TE}(hl:PE X l tl):PI X tg l (vE X.K tl):=by
 intro pins s σ H R I h
 refine thn (hl pins s σ H _ I h) λv s1 ⟨x,H1,I1,r1,q1⟩=>?_
 obtain⟨a,e,⟨xs,hq⟩,q⟩:=q1
 subst e
 cases r1
 obtain⟨its,rv,p,hz⟩:=I1.list hq
 refine wpAny_pyIter_list p.isList ?_
 refine⟨s1.heap.objs.size,[s1.heap.objs.size],_,_,H1,rfl,I1.kept (t':=s1.toks) λb o e=>aE _ e,o9 a _,⟨_,bg _ rfl,rfl,rfl⟩,λb hb=>?_,q⟩
 have e:b=s1.heap.objs.size:=by simpa using hb
 subst e
 exact I1.rf (ar _) (I1.hok.fresh (ar _))
theorem mW {pins:List (Addr×Obj)}{σ:St}{H:Hp}{s:Shared}{R:It->Hp->Prop}{E:Value->Shared->Prop}{lo hi:Int}{t u v:Tok}{tk:Nat}(I:Inv X pins σ H s)(h1: -(2 ^ 62)<=lo)(h2:lo<2 ^ 62)(h3: -(2 ^ 62)<=hi)(h4:hi<2 ^ 62)
  (q:R (Itr lo (hi-lo).toNat) H):wpAny (model X.prog X.w) X.A (pyIter (.ref s.heap.objs.size)) (PIE X pins σ tg R) E {s with heap:=s.heap.push {cls:=.type "range",data:=.fields #[.int lo t,.int hi u,.int 1 v]},toks:=tk} :=by
 refine wpAny_pyIter_range (IsRange.new ..) (small_one h1 h2 h3 h4) ?_
 have I1:Inv X pins σ H {s with heap:=s.heap.push {cls:=.type "range",data:=.fields #[.int lo t,.int hi u,.int 1 v]},toks:=tk} :=I.kept λb o e=>aE _ e
 refine⟨(s.heap.push {cls:=.type "range",data:=.fields #[.int lo t,.int hi u,.int 1 v]}).objs.size,[(s.heap.push {cls:=.type "range",data:=.fields #[.int lo t,.int hi u,.int 1 v]}).objs.size],_,_,H,rfl,
  I1.kept (t':=tk) λb o e=>aE _ e,nJ _ lo (hi-lo).toNat,?_,λb hb=>?_,q⟩
 ·have e1:lo+((0:Nat):Int)*1=lo:=by simp
  have e2:(((hi-lo).toNat:Nat):Int)-((0:Nat):Int)=Builtin.Range.rangeSize lo hi 1:=by rw[rangeSize_one];split<;>omega
  show IsRangeIter _ _ (lo+((0:Nat):Int)*1) ((((hi-lo).toNat:Nat):Int)-((0:Nat):Int)) 1
  rw[e1,e2]
  exact bg _ rfl
 ·have e:b=(s.heap.push {cls:=.type "range",data:=.fields #[.int lo t,.int hi u,.int 1 v]}).objs.size:=by simpa using hb
  subst e
  exact I1.rf (ar _) (I1.hok.fresh (ar _))
def vC (ta:TA):TI:=λσ H R=>ta σ H λvs H1=>∃ j:Int,vs = [.int j]/\ -(2 ^ 62)<=j/\j<2 ^ 62/\R (Itr 0 j.toNat) H1
def vB (ta:TA):TI:=λσ H R=>ta σ H λvs H1=>∃ i j:Int,vs = [.int i,.int j]/\(-(2 ^ 62)<=i/\i<2 ^ 62/\ -(2 ^ 62)<=j/\j<2 ^ 62)/\R (Itr i (j-i).toNat) H1
theorem gI {a:Expr}{ta:TA}{p pos:Pos}(hg:Gl X "range")(hm:X.mg "range" = none)(ha:PA X [a] ta)(hs:starEach [a] X.env = [(false,eval a X.env)]:=by rfl):PI X tg (.Call (.Name "range" p) [a] [] pos) (vC ta):=by
 intro pins s σ H R I h
 refine Call_ (iw I hg hm boot_range (bA (thn (ha pos pins s σ H _ I h) λus s1 ⟨vs,H1,I1,r1,q1⟩=>?_) hs rfl))
 obtain⟨j,e,q1,q2,q⟩:=q1
 subst e
 cases r1 with
 |cons r rr=>
  cases rr
  obtain⟨t,rfl⟩:=r
  exact call_range_1 (mW I1 (by omega) (by omega) q1 q2 (by simpa using q))
theorem pD {a b:Expr}{ta:TA}{p pos:Pos}(hg:Gl X "range")(hm:X.mg "range" = none)(ha:PA X [a,b] ta)(hs:starEach [a,b] X.env = [(false,eval a X.env),(false,eval b X.env)]:=by rfl)(hs2:starEach [b] X.env = [(false,eval b X.env)]:=by rfl):
  PI X tg (.Call (.Name "range" p) [a,b] [] pos) (vB ta):=by
 intro pins s σ H R I h
 refine Call_ (iw I hg hm boot_range (bA (thn (ha pos pins s σ H _ I h) λus s1 ⟨vs,H1,I1,r1,q1⟩=>?_) (by rw[hs,hs2]) (by rw[hs2];rfl)))
 obtain⟨i,j,e,⟨q1,q2,q3,q4⟩,q⟩:=q1
 subst e
 cases r1 with
 |cons r rr=>
  cases rr with
  |cons r' rr=>
   cases rr
   obtain⟨t,rfl⟩:=r
   obtain⟨t',rfl⟩:=r'
   exact call_range_2 (mW I1 q1 q2 q3 q4 q)
def wA (wi:TI)(g:TG)(tb:TS):TS:=λD σ H=>wi σ H λJ H1=>∃ W:Nat->Nat->St->Hp->Prop,(∃ m,W 0 m σ H1)/\∀ i m σ H,W i m σ H->
 (J.stop i H/\D.nx σ H)\/(J.go i H/\∃ N:St->Hp->Prop,(∀ σ' H',N σ' H'->∃ m',m'<m/\W (i+1) m' σ' H')/\∀ x H',J.yld i H x H'->g x σ H' λσ2 H2=>tb {D with nx:=N,ct:=N,bk:=D.nx} σ2 H2)
def kA (fp:List Addr)(h:Heap):List (Addr×Obj):=fp.filterMap λb=>(h.get? b).map λo=>(b,o)
theorem gU {fp:List Addr}{h:Heap}{b:Addr}{o:Obj}(hb:b∈fp)(e:h.get? b=some o):(b,o)∈kA fp h:=List.mem_filterMap.mpr ⟨b,hb,by rw[e];rfl⟩
theorem pG {fp:List Addr}{h:Heap}{p:Addr×Obj}(hp:p∈kA fp h):p.1∈fp/\h.get? p.1=some p.2:=by
 obtain⟨b,hb,e⟩:=List.mem_filterMap.mp hp
 cases q:h.get? b with
 |none=>rw[q]at e;cases e
 |some o=>
  rw[q]at e
  have e':(b,o)=p:=bw e
  subst e'
  exact⟨hb,q⟩
theorem Inv.pinned {pins:List (Addr×Obj)}{σ:St}{H:Hp}{s:Shared}{fp:List Addr}(I:Inv X pins σ H s)(hf:∀ b∈fp,kg X pins H b)(ho:∀ b∈fp,∃ o,s.heap.get? b=some o/\∀ v,o.data≠ .cell v):Inv X (pins++kA fp s.heap) σ H s:=
 I.oG λp hp=>(aP.mp hp).elim (λz=>I.pin p (ba _ z)) λz=>by
  obtain⟨hb,e⟩:=pG z
  obtain⟨f0,f1,f2,_⟩:=hf p.1 hb
  obtain⟨o,e',d⟩:=ho p.1 hb
  rw[e]at e';cases e'
  exact⟨e,f0,f1,f2,d⟩
theorem Inv.jr {pins pl:List (Addr×Obj)}{σ:St}{H:Hp}{s:Shared}(I:Inv X (pins++pl) σ H s):Inv X pins σ H s:=I.oG λp hp=>I.pin p (ba _ (bS _ hp))
theorem fJ {iter:Expr}{body:List Stmt}{wi:TI}{g:TG}{tb:TS}{pos:Pos}(hp:PassesOwn (model X.prog X.w) X.A X.env X.xe)(hc:X.calm=true)(hi:PI X tg iter wi)(hg:PG X tg g)(hb:PSs X body tb)
  (hs:∀ x,foldedSetIterable iter X.env x=pure x:=by intro _;rfl):PS X (.For tg iter body [] pos) (wA wi g tb):=by
 intro pins s σ H D I h
 refine wpAny_For (thn (hi pins s σ H _ I h) λv s1 h1=>thn h1 λitv s2 h2=>?_) hs
 obtain⟨it,fp,tn,J,H2,e,I2,T,st2,f2,W,⟨m0,w0⟩,turn⟩:=h2
 subst e
 have tD:∀ {H':Hp},(∀ b∈fp,H' b=none)->∀ b∈fp,kg X pins H' b:=λhn b hb=>⟨hn b hb,(f2 b hb).2⟩
 refine codeAny_forLoop_any (λn s'=>∃ i σ' H',Inv X pins σ' H' s'/\tn i s'.heap/\(∀ b∈fp,H' b=none)/\W i n σ' H') ?_ m0 ⟨0,σ,H2,I2,st2,λb hb=>(f2 b hb).1,w0⟩
 rintro n s3 ⟨i,σ3,H3,I3,st3,fr3,w3⟩
 rcases turn i n σ3 H3 w3 with⟨stop,qn⟩|⟨go,N,hN,step⟩
 ·refine cg hp (thn (T.done X rfl rfl rfl hc i pins s3 σ3 H3 X.xe I3 (tD fr3) st3 stop) λr s4 ⟨hr,I4⟩=>?_)
  subst hr
  exact cU ⟨σ3,H3,I4,qn⟩
 ·refine cg hp (thn (T.item X rfl rfl rfl hc i pins s3 σ3 H3 X.xe I3 (tD fr3) st3 go) λr s4 ⟨u,hr,h4⟩=>?_)
  subst hr
  refine cg hp (thn h4 λ_ s5 ⟨x,H5,I5,r5,y5,st5,fr5⟩=>?_)
  have I5':=I5.pinned (tD fr5) (T.obj _ _ st5)
  refine cg hp (thn (hg _ s5 σ3 H5 x u _ I5' r5 (step x H5 y5)) λ_ s6 ⟨σ6,H6,I6,q6⟩=>?_)
  refine cg hp (thn (hb _ s6 σ6 H6 _ I6 q6) λf s7 q7=>?_)
  have again:∀ {σ7:St}{H7:Hp},Inv X (pins++kA fp s5.heap) σ7 H7 s7->N σ7 H7->∃ m,m<n/\∃ i σ' H',Inv X pins σ' H' s7/\tn i s7.heap/\(∀ b∈fp,H' b=none)/\W i m σ' H':=λ{σ7 H7} I7 n7=>by
   obtain⟨m',hm,w7⟩:=hN σ7 H7 n7
   refine⟨m',hm,i+1,σ7,H7,I7.jr,T.keep _ _ _ st5 λb hb o e=>(I7.pin (b,o) (ba _ (ba _ (gU hb e)))).1,λb hb=>?_,w7⟩
   obtain⟨o,e,d⟩:=T.obj _ _ st5 b hb
   exact(I7.pin (b,o) (ba _ (ba _ (gU hb e)))).2.1
  cases f with
  |next=>obtain⟨σ7,H7,I7,n7⟩:=q7;exact again I7 n7
  |cont=>obtain⟨σ7,H7,I7,n7⟩:=q7;exact again I7 n7
  |brk=>obtain⟨σ7,H7,I7,q7⟩:=q7;exact⟨σ7,H7,I7.jr,q7⟩
  |ret v=>obtain⟨x7,σ7,H7,I7,r7,q7⟩:=q7;exact⟨x7,σ7,H7,I7.jr,r7,q7⟩
end
theorem rh {K:PySem.W.Frag}{a:Addr}{xs:List V}{g:TG}{tb:TS}{D:Ends}{σ:St}{H:Hp}(Pv:Nat->St->Hp->Prop)(h0:Pv 0 σ H)(hl:∀ i σ H,i<=xs.length->Pv i σ H->SqL K H a xs)
  (hs:∀ i x σ H,xs[i]? = some x->Pv i σ H->g x σ H λσ2 H2=>tb {D with nx:=Pv (i+1),ct:=Pv (i+1),bk:=D.nx} σ2 H2) (hd:∀ σ H,Pv xs.length σ H->D.nx σ H):
  ∃ W:Nat->Nat->St->Hp->Prop,(∃ m,W 0 m σ H)/\∀ i m σ H,W i m σ H->
   ((Itl K a).stop i H/\D.nx σ H)\/((Itl K a).go i H/\∃ N:St->Hp->Prop,(∀ σ' H',N σ' H'->∃ m',m'<m/\W (i+1) m' σ' H')/\∀ x H',(Itl K a).yld i H x H'->g x σ H' λσ2 H2=>tb {D with nx:=N,ct:=N,bk:=D.nx} σ2 H2):=by
 refine⟨λi m σ H=>m=xs.length-i/\i<=xs.length/\Pv i σ H,⟨xs.length,by simp,aM _,h0⟩,?_⟩
 rintro i m σ H ⟨rfl,hi,p⟩
 have q:=hl i σ H hi p
 by_cases hlt:i<xs.length
 ·refine .inr ⟨⟨xs,xs[i],q,by simp[hlt]⟩,Pv (i+1),λσ' H' p'=>⟨xs.length-(i+1),by omega,rfl,hlt,p'⟩,λx H' y=>?_⟩
  obtain⟨e,y⟩:=y
  subst e
  exact hs i x σ _ (y xs q) p
 ·have e:i=xs.length:=by omega
  subst e
  exact .inl ⟨⟨xs,q,ar _⟩,hd σ H p⟩
theorem jU {lo:Int}{n:Nat}{g:TG}{tb:TS}{D:Ends}{σ:St}{H:Hp}(Pv:Nat->St->Hp->Prop)(h0:Pv 0 σ H)
  (hs:∀ i σ H,i<n->Pv i σ H->g (.int (lo+i)) σ H λσ2 H2=>tb {D with nx:=Pv (i+1),ct:=Pv (i+1),bk:=D.nx} σ2 H2) (hd:∀ σ H,Pv n σ H->D.nx σ H):
  ∃ W:Nat->Nat->St->Hp->Prop,(∃ m,W 0 m σ H)/\∀ i m σ H,W i m σ H->
   ((Itr lo n).stop i H/\D.nx σ H)\/((Itr lo n).go i H/\∃ N:St->Hp->Prop,(∀ σ' H',N σ' H'->∃ m',m'<m/\W (i+1) m' σ' H')/\∀ x H',(Itr lo n).yld i H x H'->g x σ H' λσ2 H2=>tb {D with nx:=N,ct:=N,bk:=D.nx} σ2 H2):=by
 refine⟨λi m σ H=>m=n-i/\i<=n/\Pv i σ H,⟨n,by simp,aM _,h0⟩,?_⟩
 rintro i m σ H ⟨rfl,hi,p⟩
 by_cases hlt:i<n
 ·refine .inr ⟨hlt,Pv (i+1),λσ' H' p'=>⟨n-(i+1),by omega,rfl,hlt,p'⟩,λx H' y=>?_⟩
  obtain⟨e,y⟩:=y
  subst e y
  exact hs i σ _ hlt p
 ·have e:i=n:=by omega
  subst e
  exact .inl ⟨ar _,hd σ H p⟩
abbrev R2:=V->V->Hp->VK->Prop
def OpR (X:Cx)(f:Value->Value->Sem Value)(r:R2):Prop:=
 ∀ (pins:List (Addr×Obj)) (s:Shared) (σ:St) (H:Hp) (x y:V) (v u:Value) (Q:VK),Inv X pins σ H s->RelV x v->RelV y u->r x y H Q->
  wpAny (model X.prog X.w) X.A (f v u) (EP X pins σ Q) X.xe s
def UnR (X:Cx)(f:Value->Sem Value)(r:V->Hp->VK->Prop):Prop:=
 ∀ (pins:List (Addr×Obj)) (s:Shared) (σ:St) (H:Hp) (x:V) (v:Value) (Q:VK),Inv X pins σ H s->RelV x v->r x H Q->
  wpAny (model X.prog X.w) X.A (f v) (EP X pins σ Q) X.xe s
def gD (X:Cx)(f:Value)(r:List V->Hp->VK->Prop):Prop:=
 ∀ (pins:List (Addr×Obj)) (s:Shared) (σ:St) (H:Hp) (xs:List V) (us:List Value) (Q:VK),Inv X pins σ H s->Vals xs us->r xs H Q->
  wpAny (model X.prog X.w) X.A (call f us) (EP X pins σ Q) X.xe s
def yO (X:Cx)(r:V->Hp->(Bool->Hp->Prop)->Prop):Prop:=
 ∀ (pins:List (Addr×Obj)) (s:Shared) (σ:St) (H:Hp) (x:V) (v:Value) (Q:Bool->Hp->Prop),Inv X pins σ H s->RelV x v->r x H Q->
  wpAny (model X.prog X.w) X.A (truthy v) (TP X pins σ Q) X.xe s
def tOp (r:R2)(ta tb:TE):TE:=λσ H Q=>ta σ H λx H1=>tb σ H1 λy H2=>r x y H2 Q
def tUn (r:V->Hp->VK->Prop)(ta:TE):TE:=λσ H Q=>ta σ H λx H1=>r x H1 Q
def rI (C:Int->Int->Prop)(g:Int->Int->V):R2:=λx y H Q=>∃ i j,x = .int i/\y = .int j/\C i j/\Q (g i j) H
def rI0 (g:Int->Int->V):R2:=λx y H Q=>∃ i j,x = .int i/\y = .int j/\Q (g i j) H
def rU (g:Int->V):V->Hp->VK->Prop:=λx H Q=>∃ i,x = .int i/\Q (g i) H
section
variable {X:Cx}{a b c:Expr}{ta tb tc:TE}{pos:Pos}
theorem uz (ha:PE X a ta)(hb:PE X b tb){pins:List (Addr×Obj)}{s:Shared}{σ:St}{H:Hp}{R:V->V->Hp->Prop}(I:Inv X pins σ H s)
  (h:ta σ H λx H1=>tb σ H1 λy H2=>R x y H2) {Q:Value->Shared->Prop}{f:Value->Value->Sem Value}
  (hf:∀ v u s2 x y H2,Inv X pins σ H2 s2->RelV x v->RelV y u->R x y H2->wpAny (model X.prog X.w) X.A (f v u) Q X.xe s2):
  wpAny (model X.prog X.w) X.A (eval a X.env) (λv s₁=>wpAny (model X.prog X.w) X.A (eval b X.env) (λu s₂=>wpAny (model X.prog X.w) X.A (f v u) Q X.xe s₂) X.xe s₁) X.xe s:=by
 refine thn (ha pins s σ H _ I h) λv s1 ⟨x,H1,I1,r1,q1⟩=>?_
 refine thn (hb pins s1 σ H1 _ I1 q1) λu s2 ⟨y,H2,I2,r2,q2⟩=>?_
 exact hf v u s2 x y H2 I2 r1 r2 q2
theorem dD {op:Operator}{r:R2}(ho:OpR X (binaryOp op) r)(ha:PE X a ta)(hb:PE X b tb):PE X (.BinOp a op b pos) (tOp r ta tb):=by
 intro pins s σ H Q I h
 exact wpAny_BinOp (uz ha hb I h λv u s2 x y H2 I2 rx ry q=>ho pins s2 σ H2 x y v u Q I2 rx ry q)
theorem sM {op:UnaryOp}{r:V->Hp->VK->Prop}(ho:UnR X (unaryOp op) r)(ha:PE X a ta):PE X (.UnaryOp op a pos) (tUn r ta):=by
 intro pins s σ H Q I h
 exact UnaryOp_ (thn (ha pins s σ H _ I h) λv s1 ⟨x,H1,I1,r1,q1⟩=>ho pins s1 σ H1 x v Q I1 r1 q1)
theorem opI {f:Value->Value->Sem Value}{C:Int->Int->Prop}{g:Int->Int->Int}
  (rule:∀ (i j:Int) (t u:Tok) (s:Shared) (Q:Value->Shared->Prop) (E:Value->Shared->Prop),C i j->Q (.int (g i j) s.toks) {s with toks:=s.toks+1} ->wpAny (model X.prog X.w) X.A (f (.int i t) (.int j u)) Q E s):
  OpR X f (rI C λi j=>.int (g i j)):=by
 intro pins s σ H x y v u Q I rx ry h
 obtain⟨i,j,rfl,rfl,hc,q⟩:=h
 obtain⟨t,rfl⟩:=rx
 obtain⟨t',rfl⟩:=ry
 exact rule i j t t' s _ _ hc ⟨.int (g i j),H,I.tok _,⟨_,rfl⟩,q⟩
theorem tR {f:Value->Value->Sem Value}{g:Int->Int->Int}
  (rule:∀ (i j:Int) (t u:Tok) (s:Shared) (Q:Value->Shared->Prop) (E:Value->Shared->Prop),Q (.int (g i j) s.toks) {s with toks:=s.toks+1} ->wpAny (model X.prog X.w) X.A (f (.int i t) (.int j u)) Q E s):
  OpR X f (rI0 λi j=>.int (g i j)):=by
 intro pins s σ H x y v u Q I rx ry h
 obtain⟨i,j,rfl,rfl,q⟩:=h
 obtain⟨t,rfl⟩:=rx
 obtain⟨t',rfl⟩:=ry
 exact rule i j t t' s _ _ ⟨.int (g i j),H,I.tok _,⟨_,rfl⟩,q⟩
def yT (i j:Int):Prop:=0<j/\j<1073741824
def yS (i j:Int):Prop:=0<=j/\j<=1000000/\i.natAbs<2 ^ 64
def uE (i j:Int):Prop:=(-(2 ^ 64)<i/\i<2 ^ 64)\/(-(2 ^ 64)<j/\j<2 ^ 64)
theorem uE.ok {i j:Int}(h:uE i j):IntMulOk i j:=by
 rcases h with⟨h1,h2⟩|⟨h1,h2⟩
 ·exact .of_left (intBits_le_64 h1 h2)
 ·exact .of_right (intBits_le_64 h1 h2)
theorem eG:OpR X (binaryOp .Add) (rI0 λi j=>.int (i+j)):=tR λ_ _ _ _ _ _ _ q=>add_int q
theorem qu:OpR X (binaryOp .Sub) (rI0 λi j=>.int (i-j)):=tR λ_ _ _ _ _ _ _ q=>sub_int q
theorem eV:OpR X (binaryOp .Mult) (rI uE λi j=>.int (i*j)):=opI λ_ _ _ _ _ _ _ hc q=>mul_int q hc.ok
theorem gf:OpR X (binaryOp .FloorDiv) (rI yT λi j=>.int (i/j)):=opI λi j _ _ _ _ _ hc q=>by
 have h1:(0:Int)<j:=hc.1
 have h2:j<1073741824:=hc.2
 exact floordiv_int (by omega) (by rw[Int.fdiv_eq_ediv_of_nonneg i (by omega)];exact q) (.inl (PyProof.noPylong_small (by omega)))
theorem eA:OpR X (binaryOp .Mod) (rI (λ_ j=>0<j) λi j=>.int (i%j)):=opI λi j _ _ _ _ _ hc q=>by
 have h1:(0:Int)<j:=hc
 exact mod_int' (by omega) (by rw[Int.fmod_eq_emod_of_nonneg i (by omega)];exact q)
theorem nO:OpR X (binaryOp .Pow) (rI yS λi j=>.int (i ^ j.toNat)):=opI λ_ _ _ _ _ _ _ hc q=>pow_int_small hc.1 hc.2.1 hc.2.2 q
theorem tP:OpR X (binaryOp .BitXor) (rI0 λi j=>.int (Builtin.bitXor i j)):=tR λ_ _ _ _ _ _ _ q=>xor_int q
theorem unI {f:Value->Sem Value}{g:Int->Int}
  (rule:∀ (i:Int) (t:Tok) (s:Shared) (Q:Value->Shared->Prop) (E:Value->Shared->Prop),Q (.int (g i) s.toks) {s with toks:=s.toks+1} ->wpAny (model X.prog X.w) X.A (f (.int i t)) Q E s):
  UnR X f (rU λi=>.int (g i)):=by
 intro pins s σ H x v Q I rx h
 obtain⟨i,rfl,q⟩:=h
 obtain⟨t,rfl⟩:=rx
 exact rule i t s _ _ ⟨.int (g i),H,I.tok _,⟨_,rfl⟩,q⟩
theorem pY:UnR X (unaryOp .USub) (rU λi=>.int (-i)):=unI λ_ _ _ _ _ q=>neg_int q
end
def wO:V->V->Bool
 |.non,.non=>true |.non,.int _=>true |.int _,.non=>true |.non,.bl _=>true |.bl _,.non=>true |.non,.str _=>true |.str _,.non=>true
 |.int _,.int _=>true |.bl _,.bl _=>true |.str _,.str _=>true |.byt _,.byt _=>true
 |.int _,.str _=>true |.str _,.int _=>true |.bl _,.str _=>true |.str _,.bl _=>true
 |_,_=>false
def rNe:R2:=λx y H Q=>wO x y=true/\Q (.bl (!decide (x=y))) H
theorem sv {i j:Int} :decide (V.int i=V.int j)=(i==j):=by
 rw[cb]
 simp
theorem uw {i j:Bool} :decide (V.bl i=V.bl j)=(i==j):=by
 rw[cb]
 simp
theorem su {i j:Str} :decide (V.str i=V.str j)=(i==j):=by
 rw[cb]
 simp
theorem sA {i j:Array UInt8} :decide (V.byt i=V.byt j)=(i.toList==j.toList):=by
 rw[cb]
 cases i
 cases j
 simp
section
variable {X:Cx}{a b c:Expr}{ta tb tc:TE}{pos:Pos}
theorem fi {pins:List (Addr×Obj)}{σ:St}{H:Hp}{s:Shared}{Q:VK}{k k':Bool}(I:Inv X pins σ H s)(q:Q (.bl k) H)(e:k=k'):EP X pins σ Q (.bool k') s:=by
 subst e
 exact⟨.bl k,H,I,rfl,q⟩
theorem vc:OpR X (compareOp .NotEq) rNe:=by
 intro pins s σ H x y v u Q I rx ry h
 obtain⟨hs,q⟩:=h
 cases x with
 |non=>
  cases rx
  cases y with
  |non=>cases ry;exact PySem.EqNone.ne_none_none (fi I q (by simp))
  |bl j=>cases ry;exact PySem.EqNone.ne_none_bool (fi I q (by simp))
  |int j=>obtain⟨t',rfl⟩:=ry;exact PySem.EqNone.ne_none_int (fi I q (by simp))
  |str j=>obtain⟨t',rfl⟩:=ry;exact PySem.EqNone.ne_none_str (fi I q (by simp))
  |_=>exact absurd (show false=true from hs) aX
 |bl i=>
  cases rx
  cases y with
  |non=>cases ry;exact PySem.EqNone.ne_bool_none (fi I q (by simp))
  |bl j=>cases ry;exact ne_bool (fi I q (cT not uw))
  |str j=>obtain⟨t',rfl⟩:=ry;exact PySem.EqMixed.ne_bool_str (fi I q (by simp))
  |_=>exact absurd (show false=true from hs) aX
 |int i=>
  obtain⟨t,rfl⟩:=rx
  cases y with
  |non=>cases ry;exact PySem.EqNone.ne_int_none (fi I q (by simp))
  |int j=>obtain⟨t',rfl⟩:=ry;exact ne_int (fi I q (cT not sv))
  |str j=>obtain⟨t',rfl⟩:=ry;exact PySem.EqMixed.ne_int_str (fi I q (by simp))
  |_=>exact absurd (show false=true from hs) aX
 |str i=>
  obtain⟨t,rfl⟩:=rx
  cases y with
  |non=>cases ry;exact PySem.EqNone.ne_str_none (fi I q (by simp))
  |bl j=>cases ry;exact PySem.EqMixed.ne_str_bool (fi I q (by simp))
  |int j=>obtain⟨t',rfl⟩:=ry;exact PySem.EqMixed.ne_str_int (fi I q (by simp))
  |str j=>obtain⟨t',rfl⟩:=ry;exact ne_str (fi I q (cT not su))
  |_=>exact absurd (show false=true from hs) aX
 |byt i=>
  obtain⟨t,rfl⟩:=rx
  cases y with
  |byt j=>obtain⟨t',rfl⟩:=ry;exact PySem.W.ne_bytes (fi I q (cT not sA))
  |_=>exact absurd (show false=true from hs) aX
 |_=>cases y<;>exact absurd (show false=true from hs) aX
theorem kG (b:Expr){op:CmpOp}(h:op≠ .In:=by decide)(h2:op≠ .NotIn:=by decide):behindInMarks op b=false:=by
 have e1:(op==CmpOp.In)=false:=by cases op<;>first |rfl |exact absurd rfl h
 have e2:(op==CmpOp.NotIn)=false:=by cases op<;>first |rfl |exact absurd rfl h2
 cases b<;>simp[behindInMarks,e1,e2]
theorem rT {op:CmpOp}{r:R2}(ho:OpR X (compareOp op) r)(ha:PE X a ta)(hb:PE X b tb)(hm:behindInMarks op b=false):PE X (.Compare a [op] [b] pos) (tOp r ta tb):=by
 intro pins s σ H Q I h
 exact wpAny_Compare1 (uz ha hb I h λv u s2 x y H2 I2 rx ry q=>ho pins s2 σ H2 x y v u Q I2 rx ry q) hm
def uN (t:TE):TT:=λσ H Q=>t σ H λx H'=>∃ k,x = .bl k/\Q k H'
theorem gR {op:CmpOp}{r:R2}(ho:OpR X (compareOp op) r)(ha:PE X a ta)(hb:PE X b tb)(hm:behindInMarks op b=false):PT X (.Compare a [op] [b] pos) (uN (tOp r ta tb)):=by
 intro pins s σ H Q I h
 refine wpAny_isTrue_Compare1 (thn (ha pins s σ H _ I h) λv s1 ⟨x,H1,I1,r1,q1⟩=>thn (hb pins s1 σ H1 _ I1 q1) λu s2 ⟨y,H2,I2,r2,q2⟩=>
  thn (ho pins s2 σ H2 x y v u _ I2 r1 r2 q2) λc s3 ⟨z,H3,I3,r3,k,e,q3⟩=>?_) hm
 subst e
 cases r3
 exact cI ⟨H3,I3,q3⟩
def v9 (K:PySem.W.Frag)(x:V)(H:Hp)(k:Bool):Prop:=
 match x with
 |.non=>k=false
 |.bl b=>k=b
 |.int i=>k=(i !=0)
 |.str y=>y.length<=sizeLine/\k=((y.length:Int) !=0)
 |.byt y=>y.size<=sizeLine/\k=((y.size:Int) !=0)
 |.ref p=>(∃ xs,SqL K H p xs/\k = !xs.isEmpty)\/(∃ xs,SqT K H p xs/\k = !xs.isEmpty)\/∃ kvs,H p=some (.dK kvs)/\k = !kvs.isEmpty
 |_=>False
theorem nY {κ:Type}{kvs:List (κ×V)}{vs:List (κ×Value)}(r:KV kvs vs):(!vs.isEmpty) = !kvs.isEmpty:=by
 cases r<;>rfl
theorem kM {xs:List V}{its:List Value}(r:Vals xs its):(!its.toArray.isEmpty) = !xs.isEmpty:=by
 cases r<;>simp
theorem mz:(sizeLine:Nat)<2 ^ 63:=by rw[cq];decide
theorem tm:yO X (λx H Q=>∃ k,v9 X.K x H k/\Q k H):=by
 intro pins s σ H x v Q I rx h
 obtain⟨k,e,q⟩:=h
 have hl:=mz
 have hs:sizeLine=16777216:=cq
 cases x with
 |non=>
  cases rx
  have e':k=false:=e
  subst e'
  exact truthy_none ⟨H,I,q⟩
 |bl b=>
  cases rx
  have e':k=b:=e
  subst e'
  exact cI ⟨H,I,q⟩
 |int i=>
  obtain⟨t,rfl⟩:=rx
  have e':k=(i !=0):=e
  subst e'
  exact PySem.P.truthy_int ⟨H,I,q⟩
 |str y=>
  obtain⟨t,rfl⟩:=rx
  obtain⟨hy,e'⟩:y.length<=sizeLine/\k=((y.length:Int) !=0):=e
  subst e'
  exact PySem.P.truthy_str (by omega) ⟨H,I.tok _,q⟩
 |byt y=>
  obtain⟨t,rfl⟩:=rx
  obtain⟨hy,e'⟩:y.size<=sizeLine/\k=((y.size:Int) !=0):=e
  subst e'
  exact PySem.W.truthy_bytes (by omega) ⟨H,I.tok _,q⟩
 |ref p=>
  cases rx
  have e':(∃ xs,SqL X.K H p xs/\k = !xs.isEmpty)\/(∃ xs,SqT X.K H p xs/\k = !xs.isEmpty)\/∃ kvs,H p=some (.dK kvs)/\k = !kvs.isEmpty:=e
  rcases e' with⟨xs,hx,e'⟩|⟨xs,hx,e'⟩|⟨kvs,hx,e'⟩
  ·subst e'
   obtain⟨its,r,pl,hz⟩:=I.list hx
   have hlen:=r.length
   exact wpAny_truthy_list pl.isList (by simp only[aw];omega) ⟨H,I.tok _,by rw[kM r];exact q⟩
  ·subst e'
   obtain⟨its,r,pl,hz⟩:=I.tuple hx
   have hlen:=r.length
   exact truthy_tuple pl (by simp only[aw];omega) ⟨H,I.tok _,by rw[kM r];exact q⟩
  ·subst e'
   obtain⟨hz,hS,vs,r,m⟩:kvs.length<=sizeLine/\(p==sysModules)=false/\∃ vs,KV kvs vs/\s.heap.DictOf (kh X.prog X.w) p vs:=I.hok p _ hx
   have hlen:kvs.length=vs.length:=Paired.length r
   exact wpAny_truthy_dict hS m (by omega) ⟨H,I.tok _,by rw[nY r];exact q⟩
 |_=>exact(show False from e).elim
theorem qj (ha:PE X a ta)(he:∀ whole,isTrue a X.env whole=(do let v <-whole;standAt a.pos;holding [v] (truthy v))):
  PT X a (λσ H Q=>ta σ H λx H'=>∃ k,v9 X.K x H' k/\Q k H'):=by
 intro pins s σ H Q I h
 exact isTrue_plain (thn (ha pins s σ H _ I h) λv s1 ⟨x,H1,I1,r1,q1⟩=>tm pins s1 σ H1 x v Q I1 r1 q1) (he _)
theorem vals1 {x:V}{us:List Value}(r:Vals [x] us):∃ u,us = [u]/\RelV x u:=by
 cases r with
 |cons r1 r2=>cases r2;exact⟨_,rfl,r1⟩
theorem vals2 {x y:V}{us:List Value}(r:Vals [x,y] us):∃ u w',us = [u,w']/\RelV x u/\RelV y w':=by
 cases r with
 |cons r1 r2=>
  cases r2 with
  |cons r3 r4=>cases r4;exact⟨_,_,rfl,r1,r3⟩
theorem iX (hc:X.calm=true):gD X (.builtin "max") (λxs H Q=>∃ i j,xs = [.int i,.int j]/\Q (.int (if j>i then j else i)) H):=by
 intro pins s σ H xs us Q I r h
 obtain⟨i,j,rfl,q⟩:=h
 obtain⟨u,w',rfl,⟨t,rfl⟩,⟨t',rfl⟩⟩:=vals2 r
 refine max_two_ints (I.ok.hd hc) λh' tk k=>⟨_,H,I.kept k,?_,q⟩
 by_cases hj:j>i
 ·rw[aC hj,aC hj];exact⟨_,rfl⟩
 ·rw[az hj,az hj];exact⟨_,rfl⟩
theorem iW (hc:X.calm=true):gD X (.builtin "min") (λxs H Q=>∃ i j,xs = [.int i,.int j]/\Q (.int (if j<i then j else i)) H):=by
 intro pins s σ H xs us Q I r h
 obtain⟨i,j,rfl,q⟩:=h
 obtain⟨u,w',rfl,⟨t,rfl⟩,⟨t',rfl⟩⟩:=vals2 r
 refine min_two_ints (I.ok.hd hc) λh' tk k=>⟨_,H,I.kept k,?_,q⟩
 by_cases hj:j<i
 ·rw[aC hj,aC hj];exact⟨_,rfl⟩
 ·rw[az hj,az hj];exact⟨_,rfl⟩
end
section
variable {prog:Program}{w:World}{A:Around}{E:Value->Shared->Prop}{s:Shared}{K:PySem.W.Frag}{x dx C f:Addr}{mA:Str->Option Value}{name:Str}{v:Value}
end
section
variable {P:Program}{w:World}{H H':Hp}{h h':Heap}{a C dx:Addr}{fs fs':List (Str×V)}
end
section
variable {X:Cx}{pins:List (Addr×Obj)}{σ:St}{H:Hp}{s:Shared}{a C dx:Addr}{fs:List (Str×V)}{f:Str}{v:V}{A:Around}{E:Value->Shared->Prop}
end
section
variable {X:Cx}{o e value:Expr}{f:Str}{pos pos' wj:Pos}{ta tv:TE}
end
section
variable {X:Cx}{pins:List (Addr×Obj)}{σ:St}{H:Hp}{s:Shared}{A:Around}{E:Value->Shared->Prop}{Q:Value->Shared->Prop}{c:Value}{b:Bool}
end
structure hJ (k:Nat)(A:Around):Prop where
 hd:A.handled=none
 dp:A.depth+3*k+5<recursionLimit
 un:A.units+16*k+200<cLine
theorem hJ.mono {j k:Nat}{A:Around}(r:hJ k A)(h:j<=k):hJ j A:=⟨r.hd,by have:=r.dp;omega,by have:=r.un;omega⟩
theorem hJ.deeper {k:Nat}{A:Around}(r:hJ (k+1) A)(env:Env):hJ k (A.deeper env):=
 ⟨r.hd,by have:=r.dp;show A.depth+1+3*k+5<_;omega,by have:=r.un;show A.units+3+16*k+200<_;omega⟩
theorem hJ.depth {k:Nat}{A:Around}(r:hJ k A):A.depth<recursionLimit:=by have:=r.dp;omega
theorem hJ.units {k:Nat}{A:Around}(r:hJ k A):A.units+64<cLine:=by have:=r.un;omega
def wu:TA:=λ_ H Q=>Q [] H
def uR (ta:TE)(tr:TA):TA:=λσ H Q=>ta σ H λx H1=>tr σ H1 λxs H2=>Q (x::xs) H2
section
variable {X:Cx}{e:Expr}{es:List Expr}{te:TE}{t:TA}{pos:Pos}
theorem dh:PA X [] wu:=λ_ _ _ _ H Q I h=>Calls.spliced_nil ⟨[],H,I,.nil,h⟩
theorem dg (ha:PE X e te)(hr:PA X es t)(hs:starEach (e::es) X.env=(false,eval e X.env)::starEach es X.env:=by rfl):PA X (e::es) (uR te t):=by
 intro pos pins s σ H Q I h
 rw[hs]
 show wpAny _ _ (spliced ((false,eval e X.env)::backTo pos (starEach es X.env))) _ _ s
 refine Calls.spliced_cons (thn (ha pins s σ H _ I h) λu s1 ⟨x,H1,I1,r1,q1⟩=>?_)
 exact thn (hr pos pins s1 σ H1 _ I1 q1) λus s2 ⟨xs,H2,I2,r2,q2⟩=>⟨x::xs,H2,I2,.cons r1 r2,q2⟩
def wk (t:TA):TE:=λσ H Q=>t σ H λxs H1=>xs.length<=sizeLine/\∀ p,H1 p=none->Q (.ref p) (upd H1 p (.tup xs))
def wy (t:TA):TE:=λσ H Q=>t σ H λxs H1=>xs.length<=sizeLine/\∀ p,H1 p=none->Q (.ref p) (upd H1 p (.lst xs))
theorem gS {x1}(h:PA X es t):PE X (.Tuple es x1 pos) (wk t):=by
 intro pins s σ H Q I hq
 refine wpAny_Tuple_spliced (thn (h pos pins s σ H _ I hq) λus s1 ⟨xs,H1,I1,r,z,q⟩=>⟨by rw[<-r.length];exact z,?_⟩)
 have hf:H1 s1.heap.objs.size=none:=I1.hok.fresh (ar _)
 refine⟨.ref s1.heap.objs.size,upd H1 s1.heap.objs.size (.tup xs),I1.laid (t':=s1.toks) (λb u e=>aE _ e) (ar _) ?_,rfl,q _ hf⟩
 exact⟨z,us,r,⟨_,bg _ rfl,rfl,_,rfl⟩⟩
theorem eL (h:PA X es t):PE X (.List es pos) (wy t):=by
 intro pins s σ H Q I hq
 refine wpAny_List_spliced (thn (h pos pins s σ H _ I hq) λus s1 ⟨xs,H1,I1,r,z,q⟩=>⟨by rw[<-r.length];exact z,?_⟩)
 have hf:H1 s1.heap.objs.size=none:=I1.hok.fresh (ar _)
 refine⟨.ref s1.heap.objs.size,upd H1 s1.heap.objs.size (.lst xs),I1.laid (t':=s1.toks) (λb u e=>aE _ e) (ar _) ?_,rfl,q _ hf⟩
 exact⟨z,us,0,r,bg _ rfl⟩
end
abbrev Sp:=List V->Hp->VK->XK->Prop
abbrev CXT:=List Env->Hp->Shared->XK->Value->Shared->Prop
structure sJ (P:Program)(w:World)(K:PySem.W.Frag)(mg:Str->Option Value)(base:Heap)(A:Around)(outer:List Env)(s:Shared)(H:Hp):Prop where
 frames:A.frames=some outer
 mod:Mod K mg base
 bs:∀ b o,base.get? b=some o->s.heap.get? b=some o/\H b=none
 bsz:base.objs.size<=s.heap.objs.size
 jT:s.heap.FunFrames base outer
 frf:∀ b∈frs outer,H b=none
 hok:HOk P w H s.heap
 bare:AllBare s.gens
def CE (outer:List Env)(P:Program)(w:World)(H:Hp)(s:Shared)(Q:VK)(u:Value)(s':Shared):Prop:=
 ∃ v H',s'.os=s.os/\AllBare s'.gens/\Un (frs outer) [] H H' s.heap s'.heap/\HOk P w H' s'.heap/\RelV v u/\Q v H'
def CR (CX:CXT)(outer:List Env)(P:Program)(w:World)(H:Hp)(s:Shared)(Q:VK)(E:XK)(r:Result)(s':Shared):Prop:=
 match r with
 |.ok (.ret u)=>CE outer P w H s Q u s'
 |.ok _=>False
 |.error e=>CX outer H s E e s'
structure d8 (P:Program)(w:World)(K:PySem.W.Frag)(mg:Str->Option Value)(base:Heap)(CX:CXT)(k:Nat)(f:Addr)(fd:FuncData)(ps:List Str)(sp:Sp):Prop where
 len:∀ vs H Q E,sp vs H Q E->vs.length=ps.length
 run:∀ (A:Around) (outer:List Env) (s:Shared) (H:Hp) (args:Args) (us:List Value) (vs:List V) (Q:VK) (E:XK),hJ k A->sJ P w K mg base A outer s H->BindsTo s fd args (ps.zip us)->Vals vs us->sp vs H Q E->
  codeAny (model P w) A (.call (.ref f) args) (CR CX outer P w H s Q E) s
section
variable {X:Cx}{pins:List (Addr×Obj)}{σ:St}{H:Hp}{s s':Shared}
theorem Inv.vT (I:Inv X pins σ H s):sJ X.prog X.w X.K X.mg X.base X.A X.stack s H:=
 ⟨I.ok.frames,I.ok.mod,I.bs,bR I.ok.bsz I.sz,I.stack,I.lU,I.hok,I.bare⟩
theorem Inv.after {Q:VK}{u:Value}(I:Inv X pins σ H s)(h:CE X.stack X.prog X.w H s Q u s'):EP X pins σ Q u s':=by
 obtain⟨v,H',os,bare,un,hok,r,q⟩:=h
 obtain⟨hh,g,d,t,os'⟩:=s'
 obtain rfl:os'=s.os:=os
 exact⟨v,H',I.call (h':=hh) (g':=g) (d':=d) (t':=t) (ch:=[]) un hok bare (λb z=>absurd z (by simp)),r,q⟩
end
def uS (sp:Sp)(dvs:List V)(E:XK)(t:TA):TE:=λσ H Q=>t σ H λvs H1=>sp (vs++dvs) H1 Q E
def Binds (K:PySem.W.Frag)(fd:FuncData)(ps:List Str)(ds:List Value):Prop:=
 ∀ (s:Shared) (us:List Value),K.In s.heap->(us++ds).length=ps.length->BindsTo s fd ⟨us,[]⟩ (ps.zip (us++ds))
theorem Binds.all {K:PySem.W.Frag}{fd:FuncData}{ps:List Str}(h:∀ us:List Value,us.length=ps.length->bindArgs fd ⟨us,[]⟩=pure (ps.zip us)):Binds K fd ps []:=λs us _ hl=>by
 rw[cM]at hl ⊢
 exact .of_eq (h us hl)
def Passes (CX:CXT)(X:Cx)(E:XK):Prop:=∀ (pins:List (Addr×Obj)) (σ:St) (H:Hp) (s:Shared) (e:Value) (s':Shared),Inv X pins σ H s->CX X.stack H s E e s'->X.xe e s'
section
variable {X:Cx}{CX:CXT}{k:Nat}{f C:Addr}{fd:FuncData}{ps:List Str}{sp:Sp}{dvs:List V}{ds:List Value}{E:XK}{x m:Str}{p pos apos:Pos}{e o:Expr}{es:List Expr}{ta:TE}{t:TA}
theorem tF {pins:List (Addr×Obj)}{σ:St}{H:Hp}{s:Shared}{Q:VK}{us:List Value}{vs:List V}(F:d8 X.prog X.w X.K X.mg X.base CX k f fd ps sp)(hr:hJ k X.A)(hb:Binds X.K fd ps ds)(hd:Vals dvs ds)(hx:Passes CX X E)
  (I:Inv X pins σ H s) (r:Vals vs us) (h:sp (vs++dvs) H Q E):wpAny (model X.prog X.w) X.A (call (.ref f) us) (EP X pins σ Q) X.xe s:=by
 have r2:Vals (vs++dvs) (us++ds):=r.append hd
 have hl:(us++ds).length=ps.length:=by rw[<-r2.length];exact F.len _ _ _ _ h
 refine wpAny_call (codeAny_mono (F.run X.A X.stack s H ⟨us,[]⟩ (us++ds) (vs++dvs) Q E hr I.vT (hb s us I.kIn hl) r2 h) λr s' hq=>?_)
 cases r with
 |error e=>exact hx pins σ H s e s' I hq
 |ok fl=>
  cases fl with
  |ret u=>exact I.after hq
  |next=>exact False.elim hq
  |brk=>exact False.elim hq
  |cont=>exact False.elim hq
theorem dQ (F:d8 X.prog X.w X.K X.mg X.base CX k f fd ps sp)(hr:hJ k X.A)(hg:Gl X x)(hm:X.mg x=some (.ref f))(hk:PySem.W.keepIn X.K (.ref f)=true)(hb:Binds X.K fd ps ds)(hd:Vals dvs ds)(hx:Passes CX X E)
  (ha:PA X (e::es) t) (hdb:(x==("__debug__" :Str))=false:=by decide) (he:starEach (e::es) X.env=(false,eval e X.env)::starEach es X.env:=by rfl) (hpl:(backTo pos (starEach es X.env)).any (·.1)=false:=by rfl):
  PE X (.Call (.Name x p) (e::es) [] pos) (uS sp dvs E t):=by
 intro pins s σ H Q I h
 refine dc (iV I hg hm ?_ hdb)
 refine PySem.W.callWith_K (h₀:=X.base) I.ok.mod.kin hk (thn (ha pos pins s σ H _ I h) λus s1 ⟨vs,H1,I1,r,q⟩=>⟨I1.kIn,?_⟩) he hpl
 exact tF F hr hb hd hx I1 r q
end
section
variable {X:Cx}{CX:CXT}{k:Nat}{f C:Addr}{fd:FuncData}{ps ks:List Str}{sp:Sp}{E:XK}{x m:Str}{p pos apos yY:Pos}{e o:Expr}{es:List Expr}{kws:List Keyword}{te ta:TE}{t tk:TA}{nm:Option Str}
variable {g:List Value->List Value->List Value}{gV:List V->List V->List V}
end
structure ec (N P:List Str)(sc:Scope):Prop where
 kind:sc.kind = .function
 co:sc.isCoroutine=false
 gen:sc.isGenerator=false
 nd:N.Nodup
 pre:N.take P.length=P
 par:∀ x∈P,sc.names.lookup x=some .local\/sc.names.lookup x=some .cell
 tU:∀ y∈sc.names,y.2≠ .free
theorem lP {kindOf:Str->Option NameKind}{x:Str} :∀ {binds:List (Str×Value)}{m:Str->Option Value},(∀ v,(x,v)∉binds)->bindL kindOf binds m x=m x
 |[],_,_=>rfl
 |(n,v)::r,m,h=>by
  unfold bindL
  rw[lP λw hw=>h w (ay _ hw)]
  split
  ·have:x≠n:=by rintro rfl;exact h v aB
   simp[this]
  ·rfl
theorem lR {kindOf:Str->Option NameKind}{x:Str} :∀ {binds:List (Str×Value)}{m:Str->Option Value},(∀ v,(x,v)∉binds)->bindC kindOf binds m x=m x
 |[],_,_=>rfl
 |(n,v)::r,m,h=>by
  unfold bindC
  rw[lR λw hw=>h w (ay _ hw)]
  split
  ·rfl
  ·have:x≠n:=by rintro rfl;exact h v aB
   simp[this]
theorem lQ {kindOf:Str->Option NameKind}{x:Str}{v:Value} :∀ {P:List Str}{vs:List Value}{i:Nat}{m:Str->Option Value},P.Nodup->P[i]? = some x->vs[i]? = some v->kindOf x=some .local->
  bindL kindOf (P.zip vs) m x=some v
 |[],_,_,_,_,h,_,_=>by simp at h
 |_::_,[],_,_,_,_,h,_=>by simp at h
 |p::P,w::vs,0,m,nd,h1,h2,hk=>by
  simp at h1 h2;subst h1;subst h2
  show bindL kindOf ((p,w)::P.zip vs) m p=_
  unfold bindL
  rw[lP λv hv=>(cu.mp nd).1 (b9 hv).1,aC hk]
  simp
 |p::P,w::vs,i+1,m,nd,h1,h2,hk=>by
  show bindL kindOf ((p,w)::P.zip vs) m x=_
  unfold bindL
  exact lQ (i:=i) (cu.mp nd).2 (by simpa using h1) (by simpa using h2) hk
theorem lS {kindOf:Str->Option NameKind}{x:Str}{v:Value} :∀ {P:List Str}{vs:List Value}{i:Nat}{m:Str->Option Value},P.Nodup->P[i]? = some x->vs[i]? = some v->kindOf x≠some .local->
  bindC kindOf (P.zip vs) m x=some v
 |[],_,_,_,_,h,_,_=>by simp at h
 |_::_,[],_,_,_,_,h,_=>by simp at h
 |p::P,w::vs,0,m,nd,h1,h2,hk=>by
  simp at h1 h2;subst h1;subst h2
  show bindC kindOf ((p,w)::P.zip vs) m p=_
  unfold bindC
  rw[lR λv hv=>(cu.mp nd).1 (b9 hv).1,az hk]
  simp
 |p::P,w::vs,i+1,m,nd,h1,h2,hk=>by
  show bindC kindOf ((p,w)::P.zip vs) m x=_
  unfold bindC
  exact lS (i:=i) (cu.mp nd).2 (by simpa using h1) (by simpa using h2) hk
def start (N:List Str)(vs:List V):St:=vs.map some++List.replicate (N.length-vs.length) none
def nz (CX:CXT)(P:Program)(w:World)(K:PySem.W.Frag)(mg:Str->Option Value)(base:Heap)(N:List Str)(qual:Str)(scope:Scope)(f:Addr)(cd:Value)(A:Around)(outer:List Env)(s:Shared)(H:Hp)(E:XK):Cx where
 prog:=P
 w:=w
 K:=K
 mg:=mg
 base:=base
 A:=A.deeper (envOfC qual scope s.heap.objs.size f cd)
 N:=N
 s₀:=s
 H₀:=H
 env:=envOfC qual scope s.heap.objs.size f cd
 outer:=outer
 stack:=envOfC qual scope s.heap.objs.size f cd::outer
 ex:=[]
 calm:=true
 fn:=λ_=>true
 pn:=[]
 xe:=λe s'=>wpAny (model P w) (A.deeper (envOfC qual scope s.heap.objs.size f cd)) (leaving (envOfC qual scope s.heap.objs.size f cd) e) (λ_ s''=>CX outer H s E e s'') (λe' s''=>CX outer H s E e' s'') s'
theorem nD {sc:Scope}{n:Nat}{x:Str}(h:sc.names.lookup x=some .cell):∃ c,(cellsFrom n sc.names []).lookup x=some c:=by
 have q:=PySem.W.cellsFrom_some sc.names n [] (.inl h)
 exact Option.isSome_iff_exists.mp q
theorem pI {CX:CXT}{P:Program}{w:World}{K:PySem.W.Frag}{mg:Str->Option Value}{base:Heap}{N ps:List Str}{qual:Str}{scope:Scope}{f:Addr}{cd:Value}{A:Around}{outer:List Env}{s s1:Shared}{H:Hp}{E:XK}{us:List Value}{vs:List V}
  (S:ec N ps scope) (hd:A.handled=none) (e0:sJ P w K mg base A outer s H) (hl:vs.length=ps.length) (r:Vals vs us)
  (x:InCallC s s.heap.objs.size (bindL (envOfC qual scope s.heap.objs.size f cd).kindOf (ps.zip us) λ_=>none) (cellsFrom (s.heap.objs.size+1) scope.names []) (bindC (envOfC qual scope s.heap.objs.size f cd).kindOf (ps.zip us) λ_=>none) s1):
  Inv (nz CX P w K mg base N qual scope f cd A outer s H E) [] (start N vs) H s1:=by
 have hpl:ps.length<=N.length:=by have:=cT List.length S.pre;rw[bH]at this;omega
 obtain⟨h1,tk,rfl,hk⟩:=x.done
 have noA:∀ b:Addr,b∉(nz CX P w K mg base N qual scope f cd A outer s H E).ex:=λb z=>absurd (show b∈([]:List Addr) from z) (by simp)
 refine⟨⟨e0.mod,S.kind,rfl,rfl,ar _,λy z c h1 h2=>?_,λy hy=>?_,λy c _ h=>?_,λ_=>hd,Around.frames_deeper e0.frames,.inr ⟨rfl,rfl⟩,λb z=>absurd z (noA b),e0.bs,e0.bsz,λb _ _=>noA b,λb z=>absurd z (noA b),e0.jT,e0.frf⟩,
  rfl,e0.bare,Un.kept hk,⟨_,x.toInCall.ns,λi y v h1 h2 h3=>?_⟩,λy c h=>⟨_,x.cell y c h⟩,e0.hok.fresh (ar _),λy c h=>?_,λp hp=>absurd (show p∈([]:List (Addr×Obj)) from hp) (by simp),e0.hok.kept hk,?_⟩
 ·exact name_of_addr x.apart (bM h1) (bM h2)
 ·have hy:scope.names.lookup y=some .cell\/scope.names.lookup y=some .free:=hy
  rcases hy with hy |hy
  ·exact nD hy
  ·exact absurd rfl (S.tU _ (bM hy))
 ·exact bZ (x.above y c (bM h))
 ·have hi:i<vs.length:=by
   unfold start at h2
   by_cases hi:i<vs.length
   ·exact hi
   ·rw[aG (by simpa using hi)]at h2
    rw[List.getElem?_replicate]at h2
    split at h2<;>cases h2
  have ha:vs[i]? = some v:=by
   unfold start at h2
   rw[aD (by simpa using hi),ax]at h2
   cases e:vs[i]? with
   |none=>rw[e]at h2;cases h2
   |some a=>rw[e]at h2;cases h2;rfl
  obtain⟨u,hu,rv⟩:=r.get ha
  have hp:ps[i]? = some y:=by
   rw[<-S.pre,List.getElem?_take_of_lt (by omega)];exact h1
  have ndP:ps.Nodup:=by rw[<-S.pre];exact S.nd.sublist (List.take_sublist _ _)
  refine⟨u,rv,?_⟩
  rcases S.par y (aN hp)with k |k
  ·exact .inl ⟨k,lQ ndP hp hu k⟩
  ·obtain⟨c,e⟩:=nD (n:=s.heap.objs.size+1) k
   refine .inr ⟨.inl k,c,e,?_⟩
   have q:=x.cell y c e
   rw[lS ndP hp hu (by show scope.names.lookup y≠_;rw[k];decide)]at q
   exact q
 ·exact e0.hok.fresh (bZ (x.above y c (bM h)))
 ·unfold start
  show _=N.length
  rw[ao,aa,List.length_replicate]
  omega
theorem sT {CX:CXT}{P:Program}{w:World}{K:PySem.W.Frag}{mg:Str->Option Value}{base:Heap}{k:Nat}{f:Addr}{name qual:Str}{params:Arguments}{body:List Stmt}{scope:Scope}{dV kV doc pm cdv ct oc:Value}{an od:Option Addr}
  {osl:Array (Option Value)}{N ps:List Str}{sp:Sp} (lk:K.lookup f=some ⟨oc,od,.func (PySem.W.fnOf name qual params body scope dV kV doc pm an cdv ct),osl⟩) (hcd:PySem.W.codeIn K cdv qual=true) (S:ec N ps scope)
  (len:∀ vs H Q E,sp vs H Q E->vs.length=ps.length)
  (nk:∀ (A:Around) (outer:List Env) (s:Shared) (H:Hp) (vs:List V) (Q:VK) (E:XK),hJ k (A.deeper (envOfC qual scope s.heap.objs.size f cdv))->sp vs H Q E->
   ∃ t,PSs (nz CX P w K mg base N qual scope f cdv A outer s H E) body t/\t {nx:=λ_ H'=>Q .non H',rt:=Q} (start N vs) H):
  d8 P w K mg base CX (k+1) f (PySem.W.fnOf name qual params body scope dV kV doc pm an cdv ct) ps sp:=by
 refine⟨len,λA outer s H args us vs Q E hr e0 hb r hsp=>?_⟩
 have hl:=len _ _ _ _ hsp
 have KX:K.In s.heap:=e0.mod.kin.keeps λb o e=>(e0.bs b o e).1
 have lim:s.heap.NoLimit:=e0.mod.nolimit.keeps λb o e=>(e0.bs b o e).1
 have vJ:∀ y∈ps.zip us,scope.names.lookup y.1=some .local\/(scope.names.lookup y.1=some .cell/\((cellsFrom (s.heap.objs.size+1) scope.names []).lookup y.1).isSome=true):=λ⟨n,v⟩ hy=>by
  rcases S.par n (b9 hy).1 with q |q
  ·exact .inl q
  ·exact .inr ⟨q,PySem.W.cellsFrom_some _ _ _ (.inl q)⟩
 refine codeAny_call_function hr.depth (KX _ _ lk) rfl S.co S.gen rfl (PySem.W.codeRec_of KX hcd) (hb _ _ _ _ ?_)
 refine wpAny_newFunctionEnv_cells S.kind vJ λenv he s1 x=>?_
 subst he
 refine⟨lim.keeps x.toInCall.keep,codeAny_func ?_⟩
 obtain⟨t,ht,hq⟩:=nk A outer s H vs Q E (hr.deeper _) hsp
 have I:Inv (nz CX P w K mg base N qual scope f cdv A outer s H E) [] (start N vs) H s1:=pI S hr.hd e0 hl r x
 refine bF (ht [] s1 (start N vs) H _ I hq) (λfl s' hs=>?_) λe s' hs=>hs
 have fin:∀ {σ':St}{H':Hp}{v:V}{u:Value},Inv (nz CX P w K mg base N qual scope f cdv A outer s H E) [] σ' H' s'->RelV v u->Q v H'->CE outer P w H s Q u s':=
  λ{σ' H' v u} J rv q=>⟨v,H',J.os,J.bare,J.base,J.hok,rv,q⟩
 cases fl with
 |ret u=>
  obtain⟨v,σ',H',J,rv,q⟩:=hs
  exact fin J rv q
 |next=>
  obtain⟨σ',H',J,q⟩:=hs
  exact fin (v:=V.non) (u:=Value.none) J rfl q
 |brk=>
  obtain⟨_,_,_,q⟩:=hs
  exact False.elim q
 |cont=>
  obtain⟨_,_,_,q⟩:=hs
  exact False.elim q
section
variable {X:Cx}{x:Str}{p pos:Pos}{e:Expr}{es:List Expr}{t:TA}{id T:String}{r:List V->Hp->VK->Prop}
def tCB (r:List V->Hp->VK->Prop)(t:TA):TE:=λσ H Q=>t σ H λvs H1=>r vs H1 Q
theorem dN (hc:gD X (.builtin id) r)(hg:Gl X x)(hm:X.mg x=none)(hv:bootBuiltins x=some (.builtin id))(ha:PA X (e::es) t)(hn:x≠ "__name__" :=by decide)(hdb:(x==("__debug__" :Str))=false:=by decide)
  (he:starEach (e::es) X.env=(false,eval e X.env)::starEach es X.env:=by rfl) (hpl:(backTo pos (starEach es X.env)).any (·.1)=false:=by rfl):PE X (.Call (.Name x p) (e::es) [] pos) (tCB r t):=by
 intro pins s σ H Q I h
 refine dc (iw I hg hm hv ?_ hn hdb)
 exact PyProof.Rows.callWith_builtin1 (thn (ha pos pins s σ H _ I h) λus s1 ⟨vs,H1,I1,r1,q1⟩=>hc pins s1 σ H1 vs us Q I1 r1 q1) he hpl
theorem iT (hc:gD X (.type T) r)(hg:Gl X x)(hm:X.mg x=none)(hv:bootBuiltins x=some (.type T))(ha:PA X (e::es) t)(hn:x≠ "__name__" :=by decide)(hdb:(x==("__debug__" :Str))=false:=by decide)
  (he:starEach (e::es) X.env=(false,eval e X.env)::starEach es X.env:=by rfl) (hpl:(backTo pos (starEach es X.env)).any (·.1)=false:=by rfl):PE X (.Call (.Name x p) (e::es) [] pos) (tCB r t):=by
 intro pins s σ H Q I h
 refine dc (iw I hg hm hv ?_ hn hdb)
 exact bA (thn (ha pos pins s σ H _ I h) λus s1 ⟨vs,H1,I1,r1,q1⟩=>hc pins s1 σ H1 vs us Q I1 r1 q1) he hpl
end
end L2
namespace HT
open PySem PyProof.Rows
section
open PySem.SeqAt
open PySem.AutoSeq1 (wpAny_loadPart')
open PySem.MeetsSeq PySem.MeetsSeq2 PySem.MeetsSeq3
end
section
variable {prog:Program}{w:World}{A:Around}{E:Value->Shared->Prop}{s:Shared}
end
end HT
namespace L2
open PySem PySem.Spec PyProof.Rows
abbrev TO:=St->Hp->(Option Int->Hp->Prop)->Prop
theorem intsAre_of {ns:List Int} :∀ {us:List Value},Vals (ns.map V.int) us->IntsAre us ns:=by
 induction ns with
 |nil=>intro us r;rw[List.map_nil]at r;cases r;exact .nil
 |cons n ns ih=>
  intro us r
  rw[bB]at r
  cases r with
  |cons r1 r2=>
   obtain⟨t,e⟩:=r1
   subst e
   exact .cons n t (ih r2)
section
variable {X:Cx}{e:Expr}{te:TE}{lo hi:Option Expr}{tl th:TO}{pos p2:Pos}
end
def ixN (n:Nat)(i:Int):Option Nat:=if 0<=i then(if i<n then some i.toNat else none)else if -(n:Int)<=i then some (i+n).toNat else none
def atI {α:Type}(xs:List α)(i:Int):Option α:=(ixN xs.length i).bind λj=>xs[j]?
theorem rZ {n:Nat}{i:Int}{j:Nat}(h:ixN n i=some j):seqIndex? i n=some j/\j<n/\ -(n:Int)<=i/\i<n:=by
 unfold ixN at h
 by_cases h0:0<=i
 ·rw[aC h0]at h
  by_cases h1:i<n
  ·rw[aC h1]at h
   have e:i.toNat=j:=bw h
   exact⟨by rw[seqIndex_of h0 h1,e],by omega,by omega,h1⟩
  ·rw[az h1]at h;cases h
 ·rw[az h0]at h
  by_cases h1: -(n:Int)<=i
  ·rw[aC h1]at h
   have e:(i+n).toNat=j:=bw h
   exact⟨by rw[seqIndex_neg (by omega) h1,e],by omega,h1,by omega⟩
  ·rw[az h1]at h;cases h
theorem oX {α:Type}{xs:List α}{i:Int}{v:α}(h:atI xs i=some v):∃ j,seqIndex? i xs.length=some j/\xs[j]? = some v/\j<xs.length/\ -(xs.length:Int)<=i/\i<xs.length:=by
 unfold atI at h
 cases e:ixN xs.length i with
 |none=>rw[e]at h;cases h
 |some j=>
  rw[e]at h
  obtain⟨h1,h2,h3,h4⟩:=rZ e
  exact⟨j,h1,h,h2,h3,h4⟩
theorem iZ {α:Type}{xs:List α}{j:Nat}{v:α}(h:xs[j]? = some v):atI xs (j:Int)=some v:=by
 have hj:j<xs.length:=(af.mp h).1
 have e:ixN xs.length (j:Int)=some j:=by
  unfold ixN
  rw[aC (by omega),aC (by omega)];simp
 unfold atI;rw[e];exact h
theorem rz {α:Type}(xs:List α)(v:α):atI (xs ++ [v]) (-1)=some v:=by
 have hl:(xs ++ [v]).length=xs.length+1:=by simp
 have e:ixN (xs ++ [v]).length (-1)=some xs.length:=by
  unfold ixN
  rw[hl,az (by decide),aC (by omega)]
  congr 1
  omega
 unfold atI
 rw[e]
 show(xs ++ [v])[xs.length]? = some v
 simp
def sI (b:Expr):Prop:=∀ o i,subscripted b false o i=operate [o,i] (getItem o i)
def IxR (X:Cx)(r:R2):Prop:=
 ∀ (value slice:Expr) (pins:List (Addr×Obj)) (s:Shared) (σ:St) (H:Hp) (x y:V) (v u:Value) (Q:VK),Inv X pins σ H s->RelV x v->RelV y u->r x y H Q->
  subscripted slice false v u=operate [v,u] (getItem v u)->wpAny (model X.prog X.w) X.A (subscriptTail value slice v u) (EP X pins σ Q) X.xe s
def MtR (X:Cx)(id:String)(r:V->List V->Hp->VK->Prop):Prop:=
 ∀ (pins:List (Addr×Obj)) (s:Shared) (σ:St) (H:Hp) (x:V) (xs:List V) (v:Value) (us:List Value) (Q:VK),Inv X pins σ H s->RelV x v->Vals xs us->r x xs H Q->
  wpAny (model X.prog X.w) X.A (call (.builtin id) (v::us)) (EP X pins σ Q) X.xe s
section
variable {X:Cx}{a b:Expr}{ta tb:TE}{pos:Pos}
theorem fC {r:R2}(hr:IxR X r)(ha:PE X a ta)(hb:PE X b tb)(hs:sI b):PE X (.Subscript a b pos) (tOp r ta tb):=by
 intro pins s σ H Q I h
 exact Subscript_ (uz ha hb I h λv u s2 x y H2 I2 rx ry q=>hr a b pins s2 σ H2 x y v u Q I2 rx ry q (hs _ _))
def wV (K:PySem.W.Frag):R2:=λx y H Q=>∃ p xs i v,x = .ref p/\y = .int i/\SqL K H p xs/\atI xs i=some v/\Q v H
def wU (K:PySem.W.Frag):R2:=λx y H Q=>∃ p xs i v,x = .ref p/\y = .int i/\SqT K H p xs/\atI xs i=some v/\Q v H
theorem fh:IxR X (wV X.K):=by
 intro value slice pins s σ H x y v u Q I rx ry h hs
 obtain⟨p,xs,i,z,rfl,rfl,hq,he,q⟩:=h
 cases rx
 obtain⟨t,rfl⟩:=ry
 obtain⟨its,r,pl,hz⟩:=I.list hq
 obtain⟨j,h1,h2,h3,h4,h5⟩:=oX he
 obtain⟨w,ew,rw'⟩:=r.get h2
 have hl:=r.length
 have hn:=mz
 have fin:EP X pins σ Q w s:=⟨z,H,I,rw',q⟩
 by_cases h0:0<=i
 ·have hj:i.toNat=j:=by
   rw[seqIndex_of h0 h5]at h1
   exact bw h1
  exact item_listR pl.isList h0 (by omega) (by rw[hj];simpa using ew) fin hs
 ·have hj:(i+(its.toArray.size:Int)).toNat=j:=by
   rw[seqIndex_neg (by omega) h4]at h1
   rw[aw,<-hl]
   exact bw h1
  exact subscriptTail_builtinR (x:=w) pl.isList.typeIs slot_list_getitem.lookup
   (wpAny_getItem_list_neg (Q:=λr s'=>r=w/\EP X pins σ Q r s') pl.isList (by omega) (by rw[aw]<;>omega) (by omega) (by rw[hj];simpa using ew) ⟨rfl,fin⟩) hs
theorem jh:IxR X (wU X.K):=by
 intro value slice pins s σ H x y v u Q I rx ry h hs
 obtain⟨p,xs,i,z,rfl,rfl,hq,he,q⟩:=h
 cases rx
 obtain⟨t,rfl⟩:=ry
 obtain⟨its,r,pl,hz⟩:=I.tuple hq
 obtain⟨j,h1,h2,h3,h4,h5⟩:=oX he
 obtain⟨w,ew,rw'⟩:=r.get h2
 have hl:=r.length
 have hn:=mz
 have fin:EP X pins σ Q w s:=⟨z,H,I,rw',q⟩
 exact subscriptTail_builtinR (x:=w) pl.typeIs slot_tuple_getitem.lookup
  (getItem_tuple (j:=j) (Q:=λr s'=>r=w/\EP X pins σ Q r s') pl (by omega) (by omega) (by rw[aw,<-hl];exact h1) (by simpa using ew) ⟨rfl,fin⟩) hs
theorem eE:gD X (.builtin "len") (λxs H Q=>∃ p ys,xs = [.ref p]/\(SqL X.K H p ys\/SqT X.K H p ys)/\Q (.int ys.length) H):=by
 intro pins s σ H xs us Q I r h
 obtain⟨p,ys,rfl,hq,q⟩:=h
 obtain⟨u,rfl,rx⟩:=vals1 r
 cases rx
 have hn:=mz
 rcases hq with hq |hq
 ·obtain⟨its,r',pl,hz⟩:=I.list hq
  have hlen:=r'.length
  exact Calls.call_len_list pl.isList (by simp only[aw]<;>omega) ⟨.int ys.length,H,I.tok _,⟨s.toks+1,by rw[aw,hlen]⟩,q⟩
 ·obtain⟨its,r',pl,hz⟩:=I.tuple hq
  have hlen:=r'.length
  exact len_tuple pl (by simp only[aw]<;>omega) ⟨.int ys.length,H,I.tok _,⟨s.toks+1,by rw[aw,hlen]⟩,q⟩
theorem mG:gD X (.type "list") (λxs H Q=>∃ p ys,xs = [.ref p]/\(SqL X.K H p ys\/SqT X.K H p ys)/\∀ l,H l=none->Q (.ref l) (upd H l (.lst ys))):=by
 intro pins s σ H xs us Q I r h
 obtain⟨p,ys,rfl,hq,q⟩:=h
 obtain⟨u,rfl,rx⟩:=vals1 r
 cases rx
 have fin:∀ (its:List Value),Vals ys its->ys.length<=sizeLine->∀ (h':Heap) (c':Nat),(∀ b o',s.heap.get? b=some o'->h'.get? b=some o')->
   h'.get? s.heap.objs.size=some {cls:=.type "list",dict:=none,data:=.seq its.toArray c',slots:= #[]} ->EP X pins σ Q (.ref s.heap.objs.size) {s with heap:=h'} :=λits r' hz h' c' kp e=>
  ⟨.ref s.heap.objs.size,_,I.laid (t':=s.toks) kp (ar _) (show fH X.prog X.w _ h' _ (.lst ys) from⟨hz,its,c',r',e⟩),rfl,q _ (I.hok.fresh (ar _))⟩
 rcases hq with hq |hq
 ·obtain⟨its,r',pl,hz⟩:=I.list hq
  have hlen:=r'.length
  obtain⟨o,ho,hc,n,hd⟩:=pl.isList
  exact call_list_seq p (.inl rfl) ho hc hd (λh' c' kp e=>fin its r' hz h' c' kp e) (by simp only[aw]<;>omega)
 ·obtain⟨its,r',pl,hz⟩:=I.tuple hq
  have hlen:=r'.length
  obtain⟨o,ho,hc,n,hd⟩:=pl
  exact call_list_seq p (.inr rfl) ho hc hd (λh' c' kp e=>fin its r' hz h' c' kp e) (by simp only[aw]<;>omega)
def tyV (K:PySem.W.Frag)(T:String)(x:V)(H:Hp):Prop:=match x with
 |.str _=>T = "str"
 |.int _=>T = "int"
 |.ref p=>(T = "list" /\∃ xs,SqL K H p xs)\/(T = "tuple" /\∃ o,K.lookup p=some o/\o.cls = .type "tuple" /\o.dict=none)\/
   (T = "dict" /\((∃ kvs,H p=some (.dK kvs))\/∃ kvs,H p=some (.dT kvs)))\/(T = "set" /\∃ S n,H p=some (.set S n))
 |_=>False
theorem pZ {pins:List (Addr×Obj)}{σ:St}{H:Hp}{s:Shared}{T:String}{x:V}{v:Value}(I:Inv X pins σ H s)(r:RelV x v)(ty:tyV X.K T x H):
  s.TypeIs v T/\∀ a,v = .ref a->∃ ob,s.heap.get? a=some ob/\ob.dict=none:=by
 cases x with
 |str z=>
  obtain⟨t,rfl⟩:=r
  cases(show T = "str" from ty)
  exact⟨typeIs_str s z t,λ_ e=>nomatch e⟩
 |int i=>
  obtain⟨t,rfl⟩:=r
  cases(show T = "int" from ty)
  exact⟨typeIs_int s i t,λ_ e=>nomatch e⟩
 |ref p=>
  cases r
  rcases ty with⟨rfl,xs,hq⟩|⟨rfl,o,hk,hc,hd⟩|⟨rfl,hk⟩|⟨rfl,S,n,hk⟩
  ·obtain⟨its,_,pl,_⟩:=I.list hq
   refine⟨pl.isList.typeIs,λa e=>?_⟩
   cases e
   obtain⟨o,n,e,c,hd,_⟩:=pl
   exact⟨o,e,hd⟩
  ·refine⟨⟨o,I.kIn p o hk,hc⟩,λa e=>?_⟩
   cases e
   exact⟨o,I.kIn _ o hk,hd⟩
  ·have z:∃ o,s.heap.get? p=some o/\o.ExactDict:=by
    rcases hk with⟨kvs,hk⟩|⟨kvs,hk⟩
    ·obtain⟨_,_,_,_,o,_,_,e,ex,_⟩:=I.hok p _ hk
     exact⟨o,e,ex⟩
    ·obtain⟨_,_,_,_,o,_,_,e,ex,_⟩:=I.hok p _ hk
     exact⟨o,e,ex⟩
   obtain⟨o,e,ex⟩:=z
   refine⟨⟨o,e,ex.1⟩,λa e2=>?_⟩
   cases e2
   exact⟨o,e,ex.2.1⟩
  ·obtain⟨o,_,_,_,e,ex,_⟩:=I.hok p _ hk
   refine⟨⟨o,e,ex.1⟩,λa e2=>?_⟩
   cases e2
   exact⟨o,e,ex.2.1⟩
 |_=>exact False.elim ty
def wC (K:PySem.W.Frag)(T:String)(r:V->List V->Hp->VK->Prop)(to:TE):TE:=λσ H Q=>to σ H λx H1=>tyV K T x H1/\r x [] H1 Q
def tBM (K:PySem.W.Frag)(T:String)(r:V->List V->Hp->VK->Prop)(to:TE)(t:TA):TE:=λσ H Q=>to σ H λx H1=>tyV K T x H1/\t σ H1 λxs H2=>r x xs H2 Q
variable {o e:Expr}{es:List Expr}{to:TE}{t:TA}{name:Str}{apos hV:Pos}{T id:String}{r:V->List V->Hp->VK->Prop}
theorem qr (pa:PlainAttrs T)(slot:Slot T name id)(hty:typeOf (.builtin id)=pure (.type "method_descriptor"))(hm:MtR X id r)(ho:PE X o to)
  (qY:attributeBase o name X.env (eval o X.env)=eval o X.env:=by rfl) (qU:(apos.endLine==hV.line)=true:=by rfl):PE X (.Call (.Attribute o name apos) [] [] hV) (wC X.K T r to):=by
 intro pins s σ H Q I h
 refine wpAny_Call_method0_late qY qU (thn (ho pins s σ H _ I h) λv s1 ⟨x,H1,I1,r1,ty,q1⟩=>?_)
 obtain⟨h1,h2⟩:=pZ I1 r1 ty
 exact⟨T,id,pa,slot,hty,h1,h2,Calls.callWith_builtin rfl (PySem.evalArgs_none (hm pins s1 σ H1 x [] v [] Q I1 r1 .nil q1))⟩
theorem ik (pa:PlainAttrs T)(slot:Slot T name id)(hty:typeOf (.builtin id)=pure (.type "method_descriptor"))(hm:MtR X id r)(ho:PE X o to)(ha:PA X (e::es) t)
  (qY:attributeBase o name X.env (eval o X.env)=eval o X.env:=by rfl)
  (yb:((backTo hV (starEach (e::es) X.env)).all (λx=> !x.1)&&(backToKw hV (keywordEach [] X.env)).all (λx=>x.1.isSome)
   && decide ((e::es).length+([]:List Keyword).length+(if([]:List Keyword).isEmpty then 0 else 1)<30))=true:=by rfl)
  (qU:(apos.endLine==hV.line)=true:=by rfl) (hs:starEach (e::es) X.env=(false,eval e X.env)::starEach es X.env:=by rfl) (uj:(backTo hV (starEach es X.env)).any (·.1)=false:=by rfl):
  PE X (.Call (.Attribute o name apos) (e::es) [] hV) (tBM X.K T r to t):=by
 intro pins s σ H Q I h
 refine wpAny_Call_method_late qY yb qU rfl (thn (ho pins s σ H _ I h) λv s1 ⟨x,H1,I1,r1,ty,q1⟩=>?_)
 obtain⟨h1,h2⟩:=pZ I1 r1 ty
 refine⟨T,id,pa,slot,hty,h1,h2,?_⟩
 have hA:=ha hV pins s1 σ H1 _ I1 q1
 rw[hs]at hA ⊢
 refine Calls.callWith_builtin (by show(false||(backTo hV (starEach es X.env)).any (·.1))=false;rw[uj]<;>rfl) (Calls.evalArgs_plain ?_)
 exact thn hA λus s2 ⟨vs,H2,I2,r2,q2⟩=>hm pins s2 σ H2 x vs v us Q I2 r1 r2 q2
/- xs.append(e),list.index on a vm tuple .. are MtR facts of 06m -/
end
def MtM (X:Cx)(id:String)(r:V->List V->Hp->VK->Prop):Prop:=
 ∀ (pins:List (Addr×Obj)) (s:Shared) (σ:St) (H:Hp) (x:V) (xs:List V) (v:Value) (us:List Value) (Q:VK),Inv X pins σ H s->RelV x v->Vals xs us->r x xs H Q->
  wpAny (model X.prog X.w) X.A (call (.builtin id) (v::us)) (EP X pins σ Q) X.xe s
theorem Vals.one:∀ {x:V}{us:List Value},Vals [x] us->∃ u,us = [u]/\RelV x u
 |_,_,.cons r .nil=>⟨_,rfl,r⟩
theorem Vals.two {x y:V}{us:List Value}(h:Vals [x,y] us):∃ u v,us = [u,v]/\RelV x u/\RelV y v:=by
 cases h with
 |cons r t=>
  cases t with
  |cons q n=>
   cases n
   exact⟨_,_,rfl,r,q⟩
theorem Vals.zero:∀ {us:List Value},Vals [] us->us = []
 |_,.nil=>rfl
theorem Vals.dropLast {xs:List V}{us:List Value}(h:Vals xs us):Vals xs.dropLast us.dropLast:=by
 induction h with
 |nil=>exact .nil
 |cons r t ih=>
  cases t with
  |nil=>exact .nil
  |cons q t'=>exact .cons r ih
theorem oi {α:Type}(l:List α):l.eraseIdx (l.length-1)=l.dropLast:=by
 induction l with
 |nil=>rfl
 |cons a r ih=>
  cases r with
  |nil=>rfl
  |cons b r=>
   have e:(a::b::r).length-1=((b::r).length-1)+1:=by
    have h1:(a::b::r).length=r.length+2:=rfl
    have h2:(b::r).length=r.length+1:=rfl
    omega
   rw[e,List.eraseIdx_cons_succ,ih]
   all_goals rfl
section
variable {X:Cx}{pins:List (Addr×Obj)}{σ:St}{H:Hp}{s:Shared}{l b:Addr}{xs ys zs:List V}
theorem Inv.qL {its its':List Value}{n:Nat}{f:Array Value->Array Value}{t':Nat}(I:Inv X pins σ H s)(hH:H l=some (.lst xs))
  (e:s.heap.get? l=some {cls:=.type "list",data:=.seq its.toArray n}) (hf:f its.toArray=its'.toArray) (hv:Vals ys its') (hz:ys.length<=sizeLine):
  Inv X pins σ (upd H l (.lst ys)) {s with heap:=s.heap.update l (Obj.mapSeq f),toks:=t'} :=by
 have q:=PySem.IsL.update e f
 rw[hf]at q
 refine I.write (x:=l) (e:=l) (by rw[hH];exact trivial) (.inl rfl) (λb' u hb hu=>(Heap.get?_update_other s.heap (Obj.mapSeq f) (cH hb)).trans hu) ⟨_,q⟩ ?_
 exact⟨hz,its',_,hv,q⟩
theorem Inv.vq {its:List Value}{t':Nat}(I:Inv X pins σ H s)(hv:Vals ys its)(hz:ys.length<=sizeLine):
  Inv X pins σ (upd H s.heap.objs.size (.lst ys)) {s with heap:=s.heap.push {cls:=.type "list",data:=.seq its.toArray},toks:=t'} :=
 I.laid (λ_ _ q=>aE _ q) (ar _) ⟨hz,its,0,hv,bg _ rfl⟩
theorem Inv.fresh (I:Inv X pins σ H s):H s.heap.objs.size=none:=I.hok.fresh (ar _)
theorem Inv.lx (I:Inv X pins σ H s)(hH:H l=some (.lst xs)):xs.length<=sizeLine/\∃ (its:List Value) (n:Nat),Vals xs its/\xs.length=its.length/\s.heap.get? l=some {cls:=.type "list",data:=.seq its.toArray n} :=by
 obtain⟨z,its,n,r,e⟩:=I.hok l _ hH
 exact⟨z,its,n,r,r.length,e⟩
theorem qB {n:Nat}(h:n<=sizeLine):Builtin.List.listTooLong n=false:=by
 unfold Builtin.List.listTooLong
 exact bt (by omega)
end
section
variable {X:Cx}
def rR:V->List V->Hp->VK->Prop:=λx vs H Q=>∃ l xs y,x = .ref l/\vs = [y]/\H l=some (.lst xs)/\xs.length<sizeLine/\Q .non (upd H l (.lst (xs ++ [y])))
theorem fK:MtM X "list.append" rR:=by
 intro pins s σ H x vs v us Q I rx rv h
 obtain⟨l,xs,y,rfl,rfl,hH,hz,q⟩:=h
 cases rx
 obtain⟨u,rfl,ru⟩:=rv.one
 obtain⟨z,its,n,r,hl,e⟩:=I.lx hH
 refine cQ F.slot_list_append ⟨_,e,rfl⟩ F.entry_list_append (F.args_list_append_2 _ _) (PySem.list_append l its.toArray n u (by rw[aw];omega)) ⟨e,?_⟩
 refine⟨.non,_,I.qL (its':=its ++ [u]) hH e (by simp) (r.append (.cons ru .nil)) ?_,rfl,q⟩
 rw[ao,List.length_singleton]
 omega
def rP:V->List V->Hp->VK->Prop:=λx vs H Q=>∃ l b xs zs,x = .ref l/\vs = [.ref b]/\H l=some (.lst xs)/\H b=some (.lst zs)/\xs.length+zs.length<=sizeLine/\Q .non (upd H l (.lst (xs++zs)))
theorem pH:MtM X "list.extend" rP:=by
 intro pins s σ H x vs v us Q I rx rv h
 obtain⟨l,b,xs,zs,rfl,rfl,hH,hB,hz,q⟩:=h
 cases rx
 obtain⟨u,rfl,ru⟩:=rv.one
 cases ru
 obtain⟨z,its,n,r,hl,e⟩:=I.lx hH
 obtain⟨z2,nX,n2,r2,hl2,e2⟩:=I.lx hB
 have hsz:its.toArray.size+nX.toArray.size<=sizeLine:=by rw[aw,aw];omega
 have vI:¬(!its.toArray.isEmpty&&Builtin.List.listTooLong (its.toArray.size+nX.toArray.size))=true:=by
  rw[qB hsz,Bool.and_false]
  exact aX
 refine cQ F.slot_list_extend ⟨_,e,rfl⟩ F.entry_list_extend (F.args_list_extend_2 _ _)
  (AutoSeq1.list_extend_list_list_0 l its.toArray n b nX.toArray n2 vI (by rw[aw];omega) (by omega)) ⟨e,e2,?_⟩
 refine⟨.non,_,I.qL (its':=its++nX) hH e (by simp) (r.append r2) ?_,rfl,q⟩
 rw[ao]
 omega
def wQ:V->List V->Hp->VK->Prop:=λx vs H Q=>∃ l xs y,x = .ref l/\vs = []/\H l=some (.lst xs)/\xs[xs.length-1]? = some y/\Q y (upd H l (.lst xs.dropLast))
theorem tV:MtM X "list.pop" wQ:=by
 intro pins s σ H x vs v us Q I rx rv h
 obtain⟨l,xs,y,rfl,rfl,hH,hy,q⟩:=h
 cases rx
 have hus:=rv.zero
 subst hus
 obtain⟨z,its,n,r,hl,e⟩:=I.lx hH
 obtain⟨u,hu,ru⟩:=r.get hy
 have hy':its.toArray[its.toArray.size-1]? = some u:=by
  show its.toArray[its.length-1]? = some u
  rw[<-ak,<-hl]
  exact hu
 refine cQ F.slot_list_pop ⟨_,e,rfl⟩ F.entry_list_pop (F.args_list_pop_1 _) (MeetsSeq.list_pop_last l its.toArray n u hy' (by rw[aw];omega)) ⟨e,?_⟩
 refine⟨y,_,I.qL (its':=its.dropLast) hH e ?_ r.dropLast ?_,ru,q⟩
 ·show its.toArray.eraseIdxIfInBounds (its.toArray.size-1)=its.dropLast.toArray
  rw[aw,List.eraseIdxIfInBounds_toArray,oi]
 ·rw[cJ]
  omega
def tI:V->List V->Hp->VK->Prop:=λx vs H Q=>∃ l xs,x = .ref l/\vs = []/\H l=some (.lst xs)/\Q .non (upd H l (.lst []))
theorem qI:MtM X "list.clear" tI:=by
 intro pins s σ H x vs v us Q I rx rv h
 obtain⟨l,xs,rfl,rfl,hH,q⟩:=h
 cases rx
 have hus:=rv.zero
 subst hus
 obtain⟨z,its,n,r,hl,e⟩:=I.lx hH
 refine cQ F.slot_list_clear ⟨_,e,rfl⟩ F.entry_list_clear (F.args_list_clear_1 _) (AutoSeq1.list_clear_list_0 l its.toArray n (by rw[aw];omega)) ⟨e,?_⟩
 exact⟨.non,_,I.qL (its':=[]) (ys:=[]) hH e rfl .nil (aM _),rfl,q⟩
def wX:R2:=λx y H Q=>∃ l b xs zs,x = .ref l/\y = .ref b/\H l=some (.lst xs)/\H b=some (.lst zs)/\xs.length+zs.length<=sizeLine/\∀ p,H p=none->Q (.ref p) (upd H p (.lst (xs++zs)))
theorem jM:OpR X (binaryOp .Add) wX:=by
 intro pins s σ H x y v u Q I rx ry h
 obtain⟨l,b,xs,zs,rfl,rfl,hH,hB,hz,q⟩:=h
 cases rx
 cases ry
 obtain⟨z,its,n,r,hl,e⟩:=I.lx hH
 obtain⟨z2,nX,n2,r2,hl2,e2⟩:=I.lx hB
 refine PySem.P.add_list e e2 ?_ (by rw[aw,aw];omega)
 have ea:its.toArray++nX.toArray=(its++nX).toArray:=by simp
 rw[ea]
 exact⟨.ref _,_,I.vq (t':=s.toks) (r.append r2) (by rw[ao];omega),rfl,q _ I.fresh⟩
end
section
variable {prog:Program}{w:World}{A:Around}{E:Value->Shared->Prop}{s:Shared}
end
section
variable {X:Cx}
end
end L2
namespace Att
open PySem PySem.W PySem.Calls PyProof.Rows
theorem kd {P:Params}{h:Heap} :∀ (ns:List Int) (vs:List Value),WellAll P h vs (ns.map WData.int)->IntsAre vs ns:=by
 intro ns
 induction ns with
 |nil=>
  intro vs w
  rw[List.map_nil]at w
  cases w
  exact .nil
 |cons n ns ih=>
  intro vs w
  rw[bB]at w
  cases w with
  |cons a b=>
   cases a
   exact .cons _ _ (ih _ b)
theorem pk {l:OpenLaw}{n:Nat}(hn:l.most=some n){P:Params}{h:Heap}{args:List WData}{vals:List Value}
  (sh:l.row.toRowW.claim.pre args=true) (hwl:WellAll P h vals args):
  ∃ a vs ns,vals = [Value.ref a]/\args = [WData.list (ns.map WData.int)]/\h.get? a=some {cls:=.type "list",data:=.seq vs.toArray} /\IntsAre vs ns/\ns.length<=n:=by
 have hsh:WShape.hasAll [] args [.list .int]=true:=(pre_splitW sh).1
 have hc:l.pre.holds [] {args:=args} = true:=(pre_splitW sh).2
 obtain⟨d,r,rfl,h1,h2⟩:=hasAllW_cons hsh
 obtain rfl:=hasAllW_nil h2
 obtain⟨xs,rfl,h3⟩:=hasW_list h1
 obtain⟨ns,rfl⟩:=items_int h3
 have hlen:ns.length<=n:=by
  unfold OpenLaw.pre at hc
  have h4:(WTm.not (.lt (.lit (.int (n:Int))) (.len (.arg 0)))).holds [] {args:=[.list (ns.map .int)]} = true:=by
   have h4:=(holds_andW hc).1
   rw[hn]at h4
   exact h4
  have h5:=condW_of h4 (w_not (w_lt w_lit (w_len_list (w_arg rfl))))
  rw[aa]at h5
  refine Nat.le_of_not_lt λq=>?_
  have q':(n:Int)<((ns.length:Nat):Int):=by omega
  first
   |(rw[bO q']at h5;exact absurd h5 (by decide))
   |(simp at h5;omega)
 cases hwl with
 |cons w1 w2=>
  cases w2
  cases w1 with
  |list ho yf=>exact⟨_,_,ns,rfl,rfl,ho,kd ns _ yf,hlen⟩
theorem pC (l:OpenLaw)(args:List WData):l.row.toRowW.claim.post args (.bool true) args=true:=
 postW_of (r:=l.row.toRowW) (X:=(true==true))
  (show WShape.has [] (.bool true) .bool=true by first |rfl |decide |simp[WShape.has,WShape.arms,WShape.armsAll])
  (show(WTm.eq .res (.lit (.bool true))).value [] {args:=args,res:=some (.bool true),after:=args} = some (.bool (true==true)) from w_eq_bool (w_res rfl) w_lit) rfl
theorem nG {l:OpenLaw}{n:Nat}{q:Program}{loose:List Str}{XP:(Str->Option Value)->Heap->Prop}{YP:World->Heap->Prop}{d:DefRec}
  (hn:l.most=some n) (hdf:d.params.defaults = [])
  (call:∀ (w:World) (s₀ s₁:Shared) (mg mb:Str->Option Value) (fa:Addr) (o:Obj) (pm cd doc:Value) (a:Addr) (vs:List Value) (ns:List Int),
   Ground q loose [] XP w s₀ mg mb s₁.heap->YP w s₁.heap->
   s₁.heap.get? fa=some o->o.data = .func (docDef d.name d.params d.body d.scope pm cd doc)->s₁.heap.CodeRec cd d.name->mg d.name=some (.ref fa)->
   s₁.heap.get? a=some {cls:=.type "list",data:=.seq vs.toArray} ->IntsAre vs ns->ns.length<=n->s₁.gens = #[]->
   codeAny (model l.prog w) callerA (.call (.ref fa) ⟨[.ref a],[]⟩) (λr s'=>r = .ok (.ret (.bool true))/\OldK s₁.heap s'.heap/\s'.os=s₁.os/\AllBare s'.gens) s₁):
  WalkO q loose XP YP l.row.toRowW d [] (λf vs=>PySem.call f vs):=by
 intro w s₀ s₁ mg mb G Y fa o pm cd doc dV kV ho hd hcd hD hmg hg args vals as sh yZ hrd hwl hlo
 obtain rfl:dV = .none:=Dflts.none hD hdf
 obtain rfl:kV = .none:=Dflts.noKw hD
 obtain⟨a,vs,ns,rfl,rfl,uk,hints,hlen⟩:=pk hn sh hwl
 refine enter_call (codeAny_mono (call w s₀ s₁ mg mb fa o pm cd doc a vs ns G Y ho (fd_plain hd) hcd hmg uk hints hlen hg) λr s' hq=>?_)
 obtain⟨rfl,h2,h3,h4⟩:=hq
 exact⟨.inl ⟨.bool true,.bool true,[],rfl,λ_=>rfl,.bool true,pC l _,λ_=>⟨List.Pairwise.nil,λ_ hm=>(nomatch hm)⟩⟩,h2,h3,h4⟩
section
variable {prog:Program}{w:World}{A:Around}{E:Value->Shared->Prop}{s:Shared}{K:Frag}
end
end Att
namespace L2
open PySem PySem.Spec PyProof.Rows
theorem jI:∀ {vs:List Value}{ns:List Int},IntsAre vs ns->Vals (ns.map V.int) vs
 |_,_,.nil=>.nil
 |_,_,.cons n t h=>.cons ⟨t,rfl⟩ (jI h)
def uB (H:Hp):Prop:=∀ b,H b=none\/∃ o xs,H b=some (.frz o (.lst xs))
theorem qN {P:Program}{w:World}{K:PySem.W.Frag}{mg mb:Str->Option Value}{CX:CXT}{k:Nat}{fa a:Addr}{fd:FuncData}{x:Str}{sp:Sp}{s₁:Shared}{vs:List Value}{ns:List Int}
  (KX:K.In s₁.heap) (hns:s₁.heap.Ns mainGlobals mg) (hb:s₁.heap.Ns builtinsNs mb) (hbb:∀ x:Str,x≠ "__name__" ->mb x=bootBuiltins x) (ya:s₁.heap.NoLimit) (hg:s₁.gens = #[])
  (ha:s₁.heap.get? a=some {cls:=.type "list",data:=.seq vs.toArray}) (hi:IntsAre vs ns) (hl:ns.length<=sizeLine) (hr:hJ k callerA)
  (F:∀ base:Heap,K.In base->base.Ns mainGlobals mg->d8 P w K mg base CX k fa fd [x] sp) (vN:∀ (s:Shared) (u:Value),BindsTo s fd ⟨[u],[]⟩ [(x,u)])
  (hsp:∀ H:Hp,uB H->SqL K H a (ns.map V.int)->sp [.ref a] H (λv _=>v = .bl true) λ_ _ _=>False)
  (hCX:∀ H e s',CX [] H s₁ (λ_ _ _=>False) e s'->False):
  codeAny (model P w) callerA (.call (.ref fa) ⟨[.ref a],[]⟩) (λr s'=>r = .ok (.ret (.bool true))/\OldK s₁.heap s'.heap/\s'.os=s₁.os/\AllBare s'.gens) s₁:=by
 have rv:=jI hi
 have xH:=hi.length
 have core:∀ H:Hp,uB H->SqL K H a (ns.map V.int)->HOk P w H s₁.heap->(∀ b,H b≠none->b=a)->(H a≠none->K.lookup a=none)->
   codeAny (model P w) callerA (.call (.ref fa) ⟨[.ref a],[]⟩) (λr s'=>r = .ok (.ret (.bool true))/\OldK s₁.heap s'.heap/\s'.os=s₁.os/\AllBare s'.gens) s₁:=by
  intro H hO hS hok hA hK
  have oV:∀ {b:Addr}{o:Obj},s₁.heap.get? b=some o->H b=none->(mB s₁.heap H).get? b=some o:=λe n=>qW e n
  have noA:∀ {b:Addr}{o:Obj}{es:Array DictEntry}{ep:Nat},s₁.heap.get? b=some o->o.data = .dict es ep->H b=none:=λ{b o es ep} e d=>by
   cases q:H b with
   |none=>rfl
   |some u=>
    have e':b=a:=hA b (by rw[q];simp)
    subst e'
    rw[ha]at e;cases e
    have d':Data.seq vs.toArray _=Data.dict es ep:=d
    cases d'
  have nsK:∀ {b:Addr}{m:Str->Option Value},s₁.heap.Ns b m->(mB s₁.heap H).Ns b m:=λ{b m} ⟨o,es,ep,e,d,r⟩=>⟨o,es,ep,oV e (noA e d),d,r⟩
  have hKb:K.In (mB s₁.heap H):=λb o e=>oV (KX b o e) (by
   cases q:H b with
   |none=>rfl
   |some u=>
    have e':b=a:=hA b (by rw[q];simp)
    subst e'
    rw[hK (by rw[q];simp)]at e;cases e)
  have hM:Mod K mg (mB s₁.heap H):=⟨hKb,nsK hns,⟨mb,nsK hb,hbb⟩,let ⟨mc,h1,h2⟩:=ya;⟨mc,nsK h1,h2⟩⟩
  have e0:sJ P w K mg (mB s₁.heap H) callerA [] s₁ H:=⟨rfl,hM,λb o e=>rW e,Nat.le_of_eq (pJ _ _),trivial,λb hb=>absurd (show b∈([]:List Addr) from hb) (by simp),hok,.of_eq hg⟩
  refine codeAny_mono ((F _ hKb (nsK hns)).run callerA [] s₁ H ⟨[.ref a],[]⟩ [.ref a] [.ref a] _ _ hr e0 (vN s₁ (.ref a)) (.cons rfl .nil) (hsp H hO hS)) λr s' h=>?_
  cases r with
  |error e=>exact(hCX H e s' h).elim
  |ok fl=>
   cases fl with
   |next=>exact False.elim h
   |brk=>exact False.elim h
   |cont=>exact False.elim h
   |ret u=>
    obtain⟨v,H',os,bare,un,xV,r',q⟩:=h
    have q':v = .bl true:=q
    subst q'
    obtain rfl:u=Value.bool true:=r'
    refine⟨rfl,OldK.of_keep λb o e=>?_,os,bare⟩
    cases q:H b with
    |none=>exact un.keep b o e q (by intro z;exact absurd (show b∈([]:List Addr) from z) (by simp)) (by simp)
    |some u=>
     rcases hO b with z |⟨ob,xs,z⟩
     ·rw[q]at z;cases z
     ·have z2:=un.ji b ob _ z
      obtain⟨e1,_⟩:=hok b _ z
      obtain⟨e2,_⟩:=xV b _ z2
      rw[e]at e1;cases e1
      exact e2
 cases hk:K.lookup a with
 |some o=>
  have e:=KX a o hk
  rw[ha]at e
  cases e
  refine core (λ_=>none) (λ_=>.inl rfl) (.inr ⟨_,vs.toArray,_,hk,rfl,rfl,rfl,by rw[aw,xH];exact hl,by simpa using rv⟩) (λb u z=>by have z':(none:Option HO)=some u:=z;cases z') (λb z=>absurd rfl z) λz=>absurd rfl z
 |none=>
  refine core (λb=>if b=a then some (.frz {cls:=.type "list",data:=.seq vs.toArray} (.lst (ns.map V.int)))else none) (λb=>?_) (.inl (.inr ⟨{cls:=.type "list",data:=.seq vs.toArray},aC rfl⟩)) (λb u z=>?_) (λb z=>?_) λ_=>hk
  ·by_cases hb:b=a
   ·exact .inr ⟨_,_,aC hb⟩
   ·exact .inl (az hb)
  ·by_cases hb:b=a
   ·have z':=(aC hb).symm.trans z
    cases z'
    subst hb
    exact⟨ha,by rw[aa];exact hl,vs,_,rv,ha⟩
   ·have z':=(az hb).symm.trans z
    cases z'
  ·by_cases hb:b=a
   ·exact hb
   ·exact absurd (az hb) z
abbrev KOf {K:PySem.W.Frag}{h:Heap}(_:K.In h):PySem.W.Frag:=K
theorem rJ {l:PySem.W.OpenLaw}{n k:Nat}{q:Program}{loose:List Str}{XP:(Str->Option Value)->Heap->Prop}{YP:World->Heap->Prop}{d:DefRec}{K:Params->PySem.W.Frag}{CX:World->CXT}{sp:World->Sp}{x:Str}
  (hn:l.most=some n) (hn2:n<=sizeLine) (hdf:d.params.defaults = []) (hr:hJ k callerA)
  (hY:∀ (w:World) (h:Heap),YP w h->(K w.params).In h)
  (F:∀ (w:World) (mg:Str->Option Value) (fa:Addr) (h:Heap),(K w.params).In h->h.Ns mainGlobals mg->mg d.name=some (.ref fa)->
   ∃ fd:FuncData,(∀ (s:Shared) (u:Value),BindsTo s fd ⟨[u],[]⟩ [(x,u)])/\
    ∀ base:Heap,(K w.params).In base->base.Ns mainGlobals mg->d8 l.prog w (K w.params) mg base (CX w) k fa fd [x] (sp w))
  (hsp:∀ (w:World) (H:Hp) (a:Addr) (ns:List Int),ns.length<=n->uB H->SqL (K w.params) H a (ns.map V.int)->sp w [.ref a] H (λv _=>v = .bl true) λ_ _ _=>False)
  (hCX:∀ (w:World) (H:Hp) (s:Shared) (e:Value) (s':Shared),CX w [] H s (λ_ _ _=>False) e s'->False):
  PySem.W.WalkO q loose XP YP l.row.toRowW d [] (λf vs=>PySem.call f vs):=by
 refine Att.nG hn hdf λw s₀ s₁ mg mb fa o pm cd doc a vs ns G Y ho hd hcd hmg uk hints hlen hg=>?_
 have KX:=hY w _ Y
 obtain⟨fd,hb,hF⟩:=F w mg fa _ KX G.T.g hmg
 exact qN KX G.T.g G.T.b G.T.builtins G.T.nolimit hg uk hints (bR hlen hn2) hr hF hb (λH hO hS=>hsp w H a ns hlen hO hS) λH e s'=>hCX w H s₁ e s'
def gC (s:Stmt):Arguments:=match s with
 |.FunctionDef _ a _ _ _ _ _ _ _ _=>a
 |_=>{posonlyargs:=[],args:=[],vararg:=none,kwonlyargs:=[],kw_defaults:=[],kwarg:=none,defaults:=[]}
def fP (s:Stmt):List Stmt:=match s with
 |.FunctionDef _ _ b _ _ _ _ _ _ _=>b
 |_=>[]
def dC (s:Stmt):Scope:=match s with
 |.FunctionDef _ _ _ _ _ _ sc _ _ _=>sc
 |_=>{kind:=.function,names:=[],isGenerator:=false,isCoroutine:=false}
abbrev CX0:CXT:=λ_ _ _ _ _ _=>False
abbrev E0:XK:=λ_ _ _=>False
theorem ei {X:Cx} :Passes CX0 X E0:=λ_ _ _ _ _ _ _ h=>h.elim
structure Fun (K:PySem.W.Frag)(x qual:Str)(st:Stmt)(f:Addr)(fd:FuncData):Prop where
 ex:∃ (oc:Value) (od:Option Addr) (kV doc pm:Value) (an:Option Addr) (cdv ct:Value) (osl:Array (Option Value)),
  fd=PySem.W.fnOf x qual (gC st) (fP st) (dC st) .none kV doc pm an cdv ct/\K.lookup f=some ⟨oc,od,.func fd,osl⟩/\PySem.W.codeIn K cdv qual=true
 kp:PySem.W.keepIn K (.ref f)=true
section
variable {P:Program}{w:World}{K:PySem.W.Frag}{mg:Str->Option Value}{base:Heap}
theorem Fun.ok {x qual:Str}{st:Stmt}{f:Addr}{fd:FuncData}{N ps:List Str}{k:Nat}{sp:Sp}(F:Fun K x qual st f fd)(S:ec N ps (dC st))(len:∀ vs H Q E,sp vs H Q E->vs.length=ps.length)
  (nk:∀ (cdv:Value) (A:Around) (outer:List Env) (s:Shared) (H:Hp) (vs:List V) (Q:VK) (E:XK),hJ k (A.deeper (envOfC qual (dC st) s.heap.objs.size f cdv))->sp vs H Q E->
   ∃ t,PSs (nz CX0 P w K mg base N qual (dC st) f cdv A outer s H E).nox (fP st) t/\t {nx:=λ_ H'=>Q .non H',rt:=Q} (start N vs) H):d8 P w K mg base CX0 (k+1) f fd ps sp:=by
 obtain⟨oc,od,kV,doc,pm,an,cdv,ct,osl,rfl,lk,hcd⟩:=F.ex
 refine sT lk hcd S len λA outer s H vs Q E hr hsp=>?_
 obtain⟨t,h,q⟩:=nk cdv A outer s H vs Q E hr hsp
 exact⟨t,h.nox,q⟩
theorem Fun.binds {x qual:Str}{st:Stmt}{f:Addr}{fd:FuncData}{ps:List Str}(F:Fun K x qual st f fd)
  (h:∀ (kV doc pm:Value) (an:Option Addr) (cdv ct:Value) (us:List Value),us.length=ps.length->bindArgs (PySem.W.fnOf x qual (gC st) (fP st) (dC st) .none kV doc pm an cdv ct) ⟨us,[]⟩=pure (ps.zip us)):Binds K fd ps []:=by
 obtain⟨oc,od,kV,doc,pm,an,cdv,ct,osl,rfl,lk,hcd⟩:=F.ex
 exact .all (h kV doc pm an cdv ct)
theorem ra {x qual:Str}{st:Stmt}{f:Addr}{oc:Value}{od an:Option Addr}{osl:Array (Option Value)}{kV doc pm cdv ct:Value}(l:K.lookup f=some ⟨oc,od,.func (PySem.W.fnOf x qual (gC st) (fP st) (dC st) .none kV doc pm an cdv ct),osl⟩)
  (c:PySem.W.codeIn K cdv qual=true) (k:PySem.W.keepIn K (.ref f)=true):Fun K x qual st f (PySem.W.fnOf x qual (gC st) (fP st) (dC st) .none kV doc pm an cdv ct):=⟨⟨oc,od,kV,doc,pm,an,cdv,ct,osl,rfl,l,c⟩,k⟩
end
section
variable {X:Cx}
theorem pv (i:Nat){x:Str}{pos:Pos}(hN:X.N[i]? = some x:=by rfl)(hv:Vis X.env.scope x:=by first |exact Or.inl rfl |exact Or.inr (Or.inl rfl)|exact Or.inr (Or.inr rfl))(hd:(x==("__debug__" :Str))=false:=by decide)
  (hcd:(x==("__classdict__" :Str))=false:=by decide):PE X (.Name x pos) (uM i):=tN hN hv hd hcd
end
theorem qS {A B:Prop}(h:B):if false=true then A else B:=by
 rw[az aX]
 exact h
theorem vA {A B:Prop}(h:A):if true=true then A else B:=by
 rw[aC rfl]
 exact h
theorem fD {c A B:Prop} [Decidable c] (h1:c->A)(h2:¬c->B):if c then A else B:=by
 by_cases h:c
 ·rw[aC h]
  exact h1 h
 ·rw[az h]
  exact h2 h
def dM (H H':Hp):Prop:=∀ b o,H b=some o->H' b=some o
theorem dM.refl (H:Hp):dM H H:=λ_ _ h=>h
theorem dM.trans {H H1 H2:Hp}(a:dM H H1)(b:dM H1 H2):dM H H2:=λc o h=>b c o (a c o h)
theorem dM.free {H H':Hp}(e:dM H H'){l:Addr}(h:H' l=Option.none):H l=Option.none:=by
 cases q:H l with
 |none=>rfl
 |some o=>
  rw[e l o q]at h
  cases h
theorem dM.seq {K:PySem.W.Frag}{H H':Hp}{a:Addr}{xs:List V}(e:dM H H')(h:SqL K H a xs):SqL K H' a xs:=by
 rcases h with(h |⟨o,h⟩)|h
 ·exact .inl (.inl (e _ _ h))
 ·exact .inl (.inr ⟨o,e _ _ h⟩)
 ·exact .inr h
section
variable {κ:Type} [DecidableEq κ]
end
abbrev KT (H:Hp):List (List Key×V)->List (List Key×Addr×Value)->Prop:=Paired λp q=>p.1=q.1/\H q.2.1=some (.tup (p.1.map kV))/\RelV p.2 q.2.2
section
variable {P:Program}{w:World}{H:Hp}{h:Heap}{a:Addr}
end
section
variable {X:Cx}{pins:List (Addr×Obj)}{σ:St}{H:Hp}{s:Shared}{a:Addr}{y v:V}{u r:Value}{o:Option V}{A:Around}{E:Value->Shared->Prop}
end
section
variable {X:Cx}{pins:List (Addr×Obj)}{σ:St}{H:Hp}{s:Shared}{a:Addr}{kvs:List (Key×V)}{k:Key}{u:Value}{A:Around}{E:Value->Shared->Prop}
end
section
variable {X:Cx}{o i e value:Expr}{pos pos' wj:Pos}{td ty tv:TE}
end
section
variable {X:Cx}{pos:Pos}
end
abbrev VV:List (V×V)->List (Value×Value)->Prop:=Paired λp q=>RelV p.1 q.1/\RelV p.2 q.2
section
variable {X:Cx}{pins:List (Addr×Obj)}{σ:St}{H:Hp}{s:Shared}{a:Addr}{y d:V}{u r:Value}{o:Option V}{A:Around}{E:Value->Shared->Prop}
end
section
variable {X:Cx}{o e f:Expr}{apos hV:Pos}{td ty tx:TE}
end
section
variable {X:Cx}{pins:List (Addr×Obj)}{σ:St}{H:Hp}{s:Shared}{a:Addr}{kvs:List (Key×V)}{A:Around}{E:Value->Shared->Prop}
end
section
variable {X:Cx}{pins:List (Addr×Obj)}{σ:St}{H:Hp}{s:Shared}{a:Addr}{y:V}{u:Value}{A:Around}{E:Value->Shared->Prop}
end
end L2
namespace TL
open PySem
theorem kQ {α β:Type}{f:α->β->Sem (ForInStep β)}(P:List α->β->Prop)
  (step:∀ x l c,P (x::l) c->∃ c',f x c=pure (.yield c')/\P l c'):∀ (l:List α) (c:β),P l c->∃ c',forIn l c f=pure c'/\P [] c'
 |[],c,h=>⟨c,rfl,h⟩
 |x::l,c,h=>by
  obtain⟨c1,e,h1⟩:=step x l c h
  obtain⟨c2,e2,h2⟩:=kQ P step l c1 h1
  refine⟨c2,?_,h2⟩
  rw[List.forIn_cons,e,pure_bind]
  exact e2
theorem kU {scope:Scope}{env:Env}(h:∀ y∈scope.names,y.2 = .free->∃ c,env.cells.lookup y.1=some c):
  ∃ cl,closureFor scope env=pure cl/\(∀ x c,cl.lookup x=some c->env.cells.lookup x=some c)/\(∀ y∈scope.names,y.2 = .free->∃ c,cl.lookup y.1=some c):=by
 let P:List (Str×NameKind)->List (Str×Addr)->Prop:=λl c=>(∀ y∈l,y.2 = .free->∃ c,env.cells.lookup y.1=some c)/\(∀ x a,c.lookup x=some a->env.cells.lookup x=some a)/\
  (∀ y∈scope.names,y.2 = .free->y∈l\/∃ a,c.lookup y.1=some a)
 simp only[closureFor]
 obtain⟨cl,e,_,h2,h3⟩:=kQ (f:=λ(x:Str×NameKind) (r:List (Str×Addr))=>if(x.2==NameKind.free)=true then cellOf env x.1 >>= λc=>pure (ForInStep.yield ((x.1,c)::r))else pure (ForInStep.yield r)) P (by
  rintro⟨n,k⟩ l c ⟨p1,p2,p3⟩
  by_cases hk:k = .free
  ·subst hk
   obtain⟨a,ha⟩:=p1 _ aB rfl
   refine⟨(n,a)::c,?_,λy hy=>p1 y (ay _ hy),λx b hb=>?_,λy hy hf=>?_⟩
   ·have ha':env.cells.lookup n=some a:=ha
    simp[cellOf,ha']
   ·rw[bj]at hb
    by_cases hx:(x==n)=true
    ·rw[hx]at hb
     have e1:x=n:=by simpa using hx
     subst e1
     cases hb
     exact ha
    ·have hx':(x==n)=false:=by simpa using hx
     rw[hx']at hb
     exact p2 x b hb
   ·by_cases hx:(y.1==n)=true
    ·exact .inr ⟨a,by rw[bj,hx]⟩
    ·have hx':(y.1==n)=false:=by simpa using hx
     rcases p3 y hy hf with q |⟨b,q⟩
     ·rcases aJ.mp q with q |q
      ·exact absurd (by rw[q];simp) hx
      ·exact .inl q
     ·exact .inr ⟨b,by rw[bj,hx'];exact q⟩
  ·refine⟨c,?_,λy hy=>p1 y (ay _ hy),p2,λy hy hf=>?_⟩
   ·have:(k==NameKind.free)=false:=by simpa using hk
    simp[this]
   ·rcases p3 y hy hf with q |q
    ·rcases aJ.mp q with q |q
     ·subst q;exact absurd hf hk
     ·exact .inl q
    ·exact .inr q) scope.names [] ⟨h,λx a hx=>by simp at hx,λy hy _=>.inl hy⟩
 refine⟨cl,?_,h2,λy hy hf=>?_⟩
 ·refine Eq.trans ?_ (cT (λt:Sem (List (Str×Addr))=>t >>= λr=>pure r) e)
  rfl
 ·rcases h3 y hy hf with q |q
  ·cases q
  ·exact q
theorem gc {env:Env} :∀ {names:List (Str×NameKind)}{x:Str},names.lookup x=some .free->
  (names.map λ(n,k)=>if(k==NameKind.free&&env.scope.kind == .function&&env.kindOf n==some .cell)then(n,NameKind.cell)else(n,k)).lookup x=some .cell\/
  (names.map λ(n,k)=>if(k==NameKind.free&&env.scope.kind == .function&&env.kindOf n==some .cell)then(n,NameKind.cell)else(n,k)).lookup x=some .free
 |[],_,h=>by simp at h
 |(n,k)::r,x,h=>by
  have ih:=@gc env r x
  show List.lookup x ((if(k==NameKind.free&&env.scope.kind == .function&&env.kindOf n==some .cell)=true then(n,NameKind.cell)else(n,k))::_)=_\/List.lookup x ((if(k==NameKind.free&&env.scope.kind == .function&&env.kindOf n==some .cell)=true then(n,NameKind.cell)else(n,k))::_)=_
  cases hx:x==n with
  |true=>
   simp only[bj,hx]at h
   cases h
   by_cases hc:(NameKind.free==NameKind.free&&env.scope.kind == .function&&env.kindOf n==some .cell)=true
   ·rw[aC hc];left;simp[bj,hx]
   ·rw[az hc];right;simp[bj,hx]
  |false=>
   simp only[bj,hx]at h
   by_cases hc:(k==NameKind.free&&env.scope.kind == .function&&env.kindOf n==some .cell)=true
   ·rw[aC hc];simp only[bj,hx];exact ih h
   ·rw[az hc];simp only[bj,hx];exact ih h
theorem fT {env:Env} :∀ {names:List (Str×NameKind)}{x:Str},(∀ y∈names,y.2≠ .cell)->
  ((names.map λ(n,k)=>if(k==NameKind.free&&env.scope.kind == .function&&env.kindOf n==some .cell)then(n,NameKind.cell)else(n,k)).lookup x=some .cell\/
  (names.map λ(n,k)=>if(k==NameKind.free&&env.scope.kind == .function&&env.kindOf n==some .cell)then(n,NameKind.cell)else(n,k)).lookup x=some .free)->∃ y∈names,y.1=x/\y.2 = .free
 |[],_,_,h=>by simp at h
 |(n,k)::r,x,hn,h=>by
  have ih:=@fT env r x (λy hy=>hn y (ay _ hy))
  change List.lookup x ((if(k==NameKind.free&&env.scope.kind == .function&&env.kindOf n==some .cell)=true then(n,NameKind.cell)else(n,k))::_)=_\/List.lookup x ((if(k==NameKind.free&&env.scope.kind == .function&&env.kindOf n==some .cell)=true then(n,NameKind.cell)else(n,k))::_)=_ at h
  cases hx:x==n with
  |true=>
   have e:x=n:=by simpa using hx
   by_cases hc:(k==NameKind.free&&env.scope.kind == .function&&env.kindOf n==some .cell)=true
   ·have hk:k = .free:=by
     simp only[cG,beq_iff_eq]at hc
     exact hc.1.1
    exact⟨(n,k),aB,e.symm,hk⟩
   ·rw[az hc]at h
    simp only[bj,hx]at h
    rcases h with h |h
    ·exact absurd (bw h) (hn (n,k) aB)
    ·exact⟨(n,k),aB,e.symm,bw h⟩
  |false=>
   have h':(r.map λ(n,k)=>if(k==NameKind.free&&env.scope.kind == .function&&env.kindOf n==some .cell)then(n,NameKind.cell)else(n,k)).lookup x=some .cell\/
     (r.map λ(n,k)=>if(k==NameKind.free&&env.scope.kind == .function&&env.kindOf n==some .cell)then(n,NameKind.cell)else(n,k)).lookup x=some .free:=by
    by_cases hc:(k==NameKind.free&&env.scope.kind == .function&&env.kindOf n==some .cell)=true
    ·rw[aC hc]at h;simpa only[bj,hx]using h
    ·rw[az hc]at h;simpa only[bj,hx]using h
   obtain⟨y,hy,e⟩:=ih h'
   exact⟨y,ay _ hy,e⟩
section
variable {prog:Program}{w:World}{A:Around}{R:Result->Shared->Prop}{s:Shared}
abbrev ou (ifs:List Expr)(env:Env):Sem Bool:=forIn ifs true λc r=>if r=true then do let ok <-isTrue c env (eval c env);pure (ForInStep.yield ok)else pure (ForInStep.yield r)
theorem nC {elt target iter:Expr}{ifs:List Expr}{scope:Scope}{pos:Pos}{it acc:Value}{env:Env}(I:Nat->Shared->Prop)
  (turn:∀ n s,I n s->wpAny (model prog w) A (pyNext it) (λr s₁=>match r with
   |none=>R (.ok .next) s₁
   |some v=>wpAny (model prog w) A (letOwnedTupleGo target it v) (λ_ s₀=>wpAny (model prog w) A (assign target env v) (λ_ s₂=>
     wpAny (model prog w) A (ou ifs env) (λok s₃=>
      if ok=true then wpAny (model prog w) A (eval elt env) (λx s₄=>
       wpAny (model prog w) A (call (.builtin "list.append") [acc,x]) (λ_ s₅=>∃ m,m<n/\I m s₅) (λ_ _=>False) s₄) (λ_ _=>False) s₃
      else ∃ m,m<n/\I m s₃) (λ_ _=>False) s₂) (λ_ _=>False) s₀) (λ_ _=>False) s₁) (λ_ _=>False) s)
  (n:Nat) (h:I n s):
  codeAny (model prog w) A (.compLoop (.ListComp elt [⟨target,iter,ifs,0⟩] scope pos) 0 it acc env) R s:=by
 refine codeAny_loop rfl I (λn s hI=>?_) n h
 show wpAny _ A ((compTurn (.ListComp elt [⟨target,iter,ifs,0⟩] scope pos) 0 it acc env).onRaise (λx=>do noteFrame x env;theTreesLotGoes x)) _ _ s
 refine wpAny_noted ?_
 rw[compTurn_list]
 refine au (wpAny_standAt (au (bF (turn n s hI) (λr s₁ h₁=>?_) λ_ _ h'=>h'.elim)))
 cases r with
 |none=>exact aS h₁
 |some v=>
  refine au (bF h₁ (λ_ s₀ h₀=>?_) λ_ _ h'=>h'.elim)
  refine au (bF h₀ (λ_ s₂ h₂=>au (bF h₂ (λok s₃ h₃=>?_) λ_ _ h'=>h'.elim)) λ_ _ h'=>h'.elim)
  cases ok with
  |false=>exact aS ⟨rfl,h₃⟩
  |true=>
   exact au (au (bF h₃ (λx s₄ h₄=>au (bF h₄ (λ_ s₅ h₅=>aS (aS ⟨rfl,h₅⟩)) λ_ _ h'=>h'.elim)) λ_ _ h'=>h'.elim))
end
open PyProof.Rows
def oth (e:Int):Int:=e+1-2*(e%2)
theorem rG (x:Int):Builtin.bitXor x 1=oth x:=by
 rw[bitXor_and,bitAnd_m1];unfold oth;omega
theorem oN (e:Int):oth (oth e)=e:=by unfold oth;omega
theorem nN {e:Int}(h:0<=e):0<=oth e:=by unfold oth;omega
end TL
set_option maxHeartbeats 4000000
namespace TL
open PySem PySem.Spec PyProof.Rows L2
abbrev St:=L2.St
def eO (X:Cx)(scope:Scope)(cl:List (Str×Addr))(N:List Str)(fp:List Addr)(s3:Shared)(H3:Hp):Cx where
 prog:=X.prog
 w:=X.w
 K:=X.K
 mg:=X.mg
 base:=X.base
 A:=X.A
 N:=N
 s₀:=s3
 H₀:=H3
 env:=compEnvC scope cl s3.heap.objs.size X.env
 outer:=X.stack
 stack:=X.stack
 ex:=fp
 fn:=λ_=>false
 calm:=X.calm
 pn:=[]
 xe:=λ_ _=>False
def sV (NX:List Str)(scope:Scope)(N:List Str)(cap:List (Option Nat)):Bool:=
 (N.zip cap).all λp=>match p.2 with
  |none=>true
  |some j=>decide (NX[j]? = some p.1)&&decide (scope.names.lookup p.1=some .free)
structure eT (scX:Scope)(NX:List Str)(scope:Scope)(N:List Str)(own:Nat)(cap:List (Option Nat)):Prop where
 kind:scope.kind = .function
 qD:∀ y∈scope.names,y.2≠ .cell
 loc:∀ y∈scope.names,y.2 = .local->scope.names.lookup y.1=some .local
 fre:∀ y∈scope.names,y.2 = .free->scX.names.lookup y.1=some .cell\/scX.names.lookup y.1=some .free
 len:cap.length=N.length
 yE:sV NX scope N cap=true
 xi:(cap.take own).all (·.isNone)=true
 nd:N.Nodup
def gK (cap:List (Option Nat))(σ:St):St:=cap.map λo=>o.bind λj=>(σ[j]?).bind id
theorem pO {cap:List (Option Nat)}{σ:St} :(gK cap σ).length=cap.length:=by simp[gK]
theorem lN {cap:List (Option Nat)}{σ:St}{i:Nat}{v:V}(h:(gK cap σ)[i]? = some (some v)):∃ j,cap[i]? = some (some j)/\σ[j]? = some (some v):=by
 unfold gK at h
 rw[ax]at h
 cases e:cap[i]? with
 |none=>rw[e]at h;cases h
 |some o=>
  rw[e]at h
  cases o with
  |none=>cases h
  |some j=>
   refine⟨j,rfl,?_⟩
   have h':(σ[j]?).bind id=some v:=by simpa using h
   cases q:σ[j]? with
   |none=>rw[q]at h';cases h'
   |some z=>rw[q]at h';exact cT some h'
theorem eT.at {scX:Scope}{NX:List Str}{scope:Scope}{N:List Str}{own:Nat}{cap:List (Option Nat)}(C:eT scX NX scope N own cap){i j:Nat}{x:Str}(h1:N[i]? = some x)(h2:cap[i]? = some (some j)):
  NX[j]? = some x/\scope.names.lookup x=some .free:=by
 have h:=C.yE
 unfold sV at h
 have hm:(x,some j)∈N.zip cap:=by
  refine List.mem_iff_getElem?.mpr ⟨i,?_⟩
  rw[List.getElem?_zip_eq_some]
  exact⟨h1,h2⟩
 have:=List.all_eq_true.mp h _ hm
 simpa using this
theorem eT.qs {scX:Scope}{NX:List Str}{scope:Scope}{N:List Str}{own:Nat}{cap:List (Option Nat)}(C:eT scX NX scope N own cap){i j:Nat}(hi:i<own)(h:cap[i]? = some (some j)):False:=by
 have hm:some j∈cap.take own:=by
  refine List.mem_iff_getElem?.mpr ⟨i,?_⟩
  rw[List.getElem?_take_of_lt hi]
  exact h
 have:=List.all_eq_true.mp C.xi _ hm
 cases this
section
variable {X:Cx}{pins:List (Addr×Obj)}{σ:St}{H H3:Hp}{s s3:Shared}{scope:Scope}{N:List Str}{own:Nat}{cap:List (Option Nat)}{cl:List (Str×Addr)}{fp:List Addr}
theorem qT (I3:Inv X pins σ H3 s3)(C:eT X.env.scope X.N scope N own cap)(jR:∀ x c,cl.lookup x=some c->X.env.cells.lookup x=some c)(nj:∀ y∈scope.names,y.2 = .free->∃ c,cl.lookup y.1=some c)
  (hf:∀ b∈fp,kg X pins H3 b/\b<s3.heap.objs.size) {h4:Heap}{tk:Nat}{m4:Str->Option Value} (hn:h4.Ns s3.heap.objs.size m4) (hk:∀ b u,s3.heap.get? b=some u->h4.get? b=some u):
  Inv (eO X scope cl N fp s3 H3) [] (gK cap σ) H3 {s3 with heap:=h4,toks:=tk} :=by
 refine⟨⟨I3.ok.mod,C.kind,I3.ok.glob,I3.ok.blt,ar _,λx y c e1 e2=>I3.ok.inj x y c (jR _ _ e1) (jR _ _ e2),λx hx=>?_,λx c h=>?_,I3.ok.hd,I3.ok.frames,.inl rfl,λb hb=>?_,
  I3.bs,bR I3.ok.bsz I3.sz,λb o e hb=>?_,λb hb hz=>?_,I3.stack,I3.lU⟩,rfl,I3.bare,Un.kept hk,⟨m4,hn,λi x v e1 e2 e3=>?_⟩,λx c e=>?_,I3.hok.fresh (ar _),λx c e=>I3.fV x c (jR x c e),
  λp hp=>absurd (show p∈([]:List (Addr×Obj)) from hp) (by simp),I3.hok.kept hk,?_⟩
 ·obtain⟨y,hy,e,f⟩:=fT (env:=X.env) C.qD hx
  obtain⟨c,q⟩:=nj y hy f
  exact⟨c,by rw[<-e];exact q⟩
 ·exact absurd (show false=true from h) aX
 ·obtain⟨⟨f0,f1,f2,f3,f4,f5⟩,hlt⟩:=hf b hb
  exact⟨aV hlt,λx c e=>f4 x c (jR x c e)⟩
 ·obtain⟨⟨f0,f1,f2,f3,f4,f5⟩,hlt⟩:=hf b hb
  rcases f3 with z |z
  ·exact I3.ok.nS b o e z
  ·exact absurd (aI (aA e) (bR I3.ok.bsz z)) (cc _)
 ·obtain⟨⟨f0,f1,f2,f3,f4,f5⟩,hlt⟩:=hf b hb
  rcases aJ.mp (I3.km b hz)with z |z
  ·exact f1 z
  ·exact f2 z
 ·obtain⟨j,c1,c2⟩:=lN e2
  obtain⟨d1,d2⟩:=C.at e1 c1
  have hk2:=C.fre (x,.free) (bM d2) rfl
  obtain⟨mX,hnX,hl⟩:=I3.loc
  obtain⟨u,r,l⟩:=hl j x v d1 c2 (.inr hk2)
  refine⟨u,r,?_⟩
  rcases l with⟨k,_⟩|⟨k,c,e,z⟩
  ·exfalso
   have k':X.env.scope.names.lookup x=some .local:=k
   rcases hk2 with q |q
   ·rw[k']at q;cases q
   ·rw[k']at q;cases q
  ·obtain⟨c',q⟩:=nj (x,.free) (bM d2) rfl
   have e':=jR x c' q
   rw[e]at e'
   cases e'
   obtain⟨o,ho,hd⟩:=z
   exact .inr ⟨gc (env:=X.env) d2,c,q,o,hk _ _ ho,hd⟩
 ·obtain⟨v,o,ho,hd⟩:=I3.cell x c (jR x c e)
  exact⟨v,o,hk _ _ ho,hd⟩
 ·rw[pO];exact C.len
theorem comp_back {kC:List (Addr×Obj)}{σ':St}{H':Hp}{s':Shared}(I3:Inv X pins σ H3 s3)(hf:∀ b∈fp,kg X pins H3 b)(I':Inv (eO X scope cl N fp s3 H3) kC σ' H' s'):Inv X pins σ H' s':=
 I3.sW (ch:=fp) I'.os I'.base I'.hok I'.bare λb hb=>by
  obtain⟨f0,f1,f2,f3,f4,f5⟩:=hf b hb
  exact⟨f3,f1,f4,f5⟩
structure Apart (X:Cx)(pins:List (Addr×Obj))(C:Addr):Prop where
 loc:C≠X.env.locals
 new:X.s₀.heap.objs.size<=C
 cel:∀ x c,X.env.cells.lookup x=some c->c≠C
 pin:∀ p∈X.pn++pins,p.1≠C
theorem Inv.apart (I3:Inv X pins σ H3 s3):Apart X pins s3.heap.objs.size:=
 ⟨Nat.ne_of_gt I3.lt,I3.sz,λx c e=>by obtain⟨v,o,ho,_⟩:=I3.cell x c e;exact aV (aA ho),λp hp=>aV (aA (I3.pin p hp).1)⟩
theorem lM {C:Addr}{h':Heap}(I:Inv X pins σ H s)(P:Apart X pins C)(hn:H C=none)(hs:Heap.SameBut C s.heap h'):Inv X pins σ H {s with heap:=h'} :=
 I.turned (t':=s.toks) (λb o hb e=>(hs.2 b hb).trans e) hn P.loc (.inr P.new) P.cel P.pin
end
structure nI (own:Nat)(g:TG):Prop where
 mono:∀ v σ H Q Q',(∀ σ' H',Q σ' H'->Q' σ' H')->g v σ H Q->g v σ H Q'
 own:∀ v σ H Q,g v σ H Q->g v σ H λσ' H'=>Q σ' H'/\σ'.length=σ.length/\∀ i,own<=i->σ'[i]? = σ[i]?
structure lT (own:Nat)(g:TGs):Prop where
 mono:∀ v σ H Q Q',(∀ σ' H',Q σ' H'->Q' σ' H')->g v σ H Q->g v σ H Q'
 own:∀ v σ H Q,g v σ H Q->g v σ H λσ' H'=>Q σ' H'/\σ'.length=σ.length/\∀ i,own<=i->σ'[i]? = σ[i]?
theorem nI.name {own i:Nat}(h:i<own):nI own (hU i):=
 ⟨λv σ H Q Q' f q=>f _ _ q,λv σ H Q q=>⟨q,List.length_set,λj hj=>cK (by omega)⟩⟩
theorem lT.nil {own:Nat} :lT own vS:=⟨λv σ H Q Q' f q=>⟨q.1,f _ _ q.2⟩,λv σ H Q q=>⟨q.1,q.2,rfl,λ_ _=>rfl⟩⟩
theorem lT.cons {own:Nat}{t:TG}{u:TGs}(h1:nI own t)(h2:lT own u):lT own (sS t u) where
 mono:=λv σ H Q Q' f ⟨x,r,e,q⟩=>⟨x,r,e,h1.mono _ _ _ _ _ (λσ' H' q=>h2.mono _ _ _ _ _ f q) q⟩
 own:=λv σ H Q ⟨x,r,e,q⟩=>⟨x,r,e,h1.mono _ _ _ _ _ (λσ1 H1 ⟨q,l1,o1⟩=>h2.mono _ _ _ _ _ (λσ2 H2 ⟨q,l2,o2⟩=>⟨q,l2.trans l1,λi hi=>(o2 i hi).trans (o1 i hi)⟩) (h2.own _ _ _ _ q)) (h1.own _ _ _ _ q)⟩
theorem nI.tup {own n:Nat}{K:PySem.W.Frag}{t:TGs}(h:lT own t):nI own (vR K n t) where
 mono:=λv σ H Q Q' f ⟨a,xs,e,q1,q2,q⟩=>⟨a,xs,e,q1,q2,h.mono _ _ _ _ _ f q⟩
 own:=λv σ H Q ⟨a,xs,e,q1,q2,q⟩=>⟨a,xs,e,q1,q2,h.own _ _ _ _ q⟩
def rA (X:Cx)(ifs:List Expr)(t:TT):Prop:=
 ∀ (pins:List (Addr×Obj)) (s:Shared) (σ:St) (H:Hp) (Q:Bool->Hp->Prop),Inv X pins σ H s->t σ H Q->wpAny (model X.prog X.w) X.A (ou ifs X.env) (TP X pins σ Q) X.xe s
def uL:TT:=λ_ H Q=>Q true H
theorem ig {X:Cx} :rA X [] uL:=λ_ _ _ H _ I h=>wpAny_tests_nil ⟨H,I,h⟩
theorem ie {X:Cx}{c:Expr}{t:TT}(h:PT X c t):rA X [c] t:=λpins s σ H Q I q=>wpAny_tests_one (h pins s σ H Q I q)
def LcW (J:It)(g:TG)(tt:TT)(te:TE)(cap:List (Option Nat))(σ:St)(Q:VK)(l:Addr)(H1:Hp):Prop:=
 ∃ W:Nat->Nat->List V->Hp->Prop,(∃ m,W 0 m [] (upd H1 l (.lst [])))/\∀ i m acc H,W i m acc H->
  (J.stop i H/\Q (.ref l) H)\/(J.go i H/\∃ N:List V->Hp->Prop,(∀ pS H',N pS H'->∃ m',m'<m/\W (i+1) m' pS H')/\
   ∀ x H',J.yld i H x H'->g x (gK cap σ) H' λσ2 H2=>tt σ2 H2 λb H3=>
    if b=true then te σ2 H3 λy H4=>H4 l=some (.lst acc)/\acc.length<sizeLine/\N (acc ++ [y]) (upd H4 l (.lst (acc ++ [y])))
    else N acc H3)
def tLC (wi:TI)(cap:List (Option Nat))(g:TG)(tt:TT)(te:TE):TE:=λσ H Q=>wi σ H λJ H1=>∀ l,H1 l=none->
 LcW J g tt te cap σ Q l H1
section
variable {X:Cx}{pins:List (Addr×Obj)}{σ:St}{H1:Hp}{s2:Shared}{scope:Scope}{N:List Str}{own:Nat}{cap:List (Option Nat)}{cl:List (Str×Addr)}{fp:List Addr}
 {tg iter elt:Expr}{ifs:List Expr}{pos:Pos}{g:TG}{tt:TT}{te:TE}{wi:TI}
theorem nA {it:Addr}{tn:Nat->Heap->Prop}{J:It}{Q:VK}{RR:Value->Addr->Result->Shared->Prop}{E:Value->Shared->Prop}(I:Inv X pins σ H1 s2)(T:Turn X.prog X.w X.K tg J fp it tn)(t0:tn 0 s2.heap)
  (f:∀ b∈fp,kg X pins H1 b) (hc:X.calm=true) (C:eT X.env.scope X.N scope N own cap) (ho:nI own g)
  (jR:∀ x c,cl.lookup x=some c->X.env.cells.lookup x=some c) (nj:∀ y∈scope.names,y.2 = .free->∃ c,cl.lookup y.1=some c)
  (hg:∀ s3 H3,PG (eO X scope cl N fp s3 H3) tg g) (ht:∀ s3 H3,rA (eO X scope cl N fp s3 H3) ifs tt) (he:∀ s3 H3,PE (eO X scope cl N fp s3 H3) elt te)
  (hw:∀ l,H1 l=none->LcW J g tt te cap σ Q l H1)
  (fin:∀ l C s' H' m',Inv X pins σ H' s'->s'.heap.Ns C m'->H' C=none->Apart X pins C->Q (.ref l) H'->RR (.ref l) C (.ok .next) s'):
  wpAny (model X.prog X.w) X.A (newList []) (λacc s₃=>wpAny (model X.prog X.w) X.A (newFunctionEnv scope X.env.globals cl [] X.env.qual none .none (some X.env)) (λvY s₄=>
   codeAny (model X.prog X.w) X.A (.compStart (.ListComp elt [⟨tg,iter,ifs,0⟩] scope pos) 0 (.ref it) acc {vY with scope:=relabel scope X.env}) (RR acc vY.locals) s₄) E s₃) E s2:=by
 refine wpAny_newObj_type (wpAny_newFunctionEnv C.qD (by intro y hy;simp at hy) (λh₁ n8 nZ=>?_) C.kind)
 dsimp only at n8 nZ ⊢
 obtain⟨W,⟨m0,w0⟩,turn⟩:=hw s2.heap.objs.size I.fresh
 have I3:Inv X pins σ (upd H1 s2.heap.objs.size (.lst [])) {s2 with heap:=s2.heap.push {cls:=.type "list",dict:=none,data:=.seq ([]:List Value).toArray}} :=I.vq (ys:=[]) (its:=[]) (t':=s2.toks) .nil (aM _)
 generalize hs3:({s2 with heap:=s2.heap.push {cls:=.type "list",dict:=none,data:=.seq ([]:List Value).toArray}} :Shared)=s3 at I3
 have hh3:s3.heap=s2.heap.push {cls:=.type "list",dict:=none,data:=.seq ([]:List Value).toArray} :=by rw[<-hs3]
 rw[<-hh3]at n8 nZ ⊢
 have e4:({s2 with heap:=h₁,toks:=s2.toks+([]:List (Str×Value)).length} :Shared) = {s3 with heap:=h₁,toks:=s2.toks} :=by rw[<-hs3];rfl
 rw[e4]
 have k4:∀ b u,s3.heap.get? b=some u->h₁.get? b=some u:=λb u e=>nZ.extBut b u (aV (aA e)) (aE _ e)
 have k3:∀ b u,s2.heap.get? b=some u->s3.heap.get? b=some u:=λb u e=>by rw[hh3];exact aE _ e
 have hb2:∀ b∈fp,b<s2.heap.objs.size:=λb hb=>by obtain⟨o,e,_⟩:=T.obj _ _ t0 b hb;exact aA e
 have f3:∀ b∈fp,kg X pins (upd H1 s2.heap.objs.size (.lst [])) b:=λb hb=>by
  obtain⟨f0,fr⟩:=f b hb
  exact⟨by rw[dG (aV (hb2 b hb))];exact f0,fr⟩
 have hb3:∀ b∈fp,b<s3.heap.objs.size:=λb hb=>by obtain⟨o,e,_⟩:=T.obj _ _ t0 b hb;exact aA (k3 b o e)
 have I4:=qT (tk:=s2.toks) I3 C jR nj (λb hb=>⟨f3 b hb,hb3 b hb⟩) n8 k4
 generalize hH3:upd H1 s2.heap.objs.size (.lst [])=H3 at *
 have st4:tn 0 h₁:=T.keep _ _ _ t0 λb hb o e=>k4 b o (k3 b o e)
 have fpX:∀ {H':Hp},(∀ b∈fp,H' b=none)->∀ b∈fp,kg (eO X scope cl N fp s3 H3) [] H' b:=λ{H'} hn b hb=>by
  obtain⟨f0,f1,f2,f3',f4,f5⟩:=f3 b hb
  refine⟨hn b hb,aV (hb3 b hb),λhz=>?_,.inl hb,λx c e=>f4 x c (jR x c e),λp hp=>absurd (show p∈([]:List (Addr×Obj)) from hp) (by simp)⟩
  rcases aJ.mp (I3.km b hz)with z |z
  ·exact f1 z
  ·exact f2 z
 have loop:codeAny (model X.prog X.w) X.A (.compLoop (.ListComp elt [⟨tg,iter,ifs,0⟩] scope pos) 0 (.ref it) (.ref s2.heap.objs.size) (compEnvC scope cl s3.heap.objs.size X.env)) (RR (.ref s2.heap.objs.size) s3.heap.objs.size) {s3 with heap:=h₁,toks:=s2.toks} :=by
  refine nC (λn s'=>∃ i acc H',Inv (eO X scope cl N fp s3 H3) [] (gK cap σ) H' s'/\tn i s'.heap/\(∀ b∈fp,H' b=none)/\W i n acc H') ?_ m0 ⟨0,[],H3,I4,st4,λb hb=>(f3 b hb).1,w0⟩
  rintro n s' ⟨i,acc,H',I',st,fr,w⟩
  rcases turn i n acc H' w with⟨stop,q⟩|⟨go,NN,hNN,step⟩
  ·refine thn (T.done (eO X scope cl N fp s3 H3) rfl rfl rfl hc i [] s' _ H' (λ_ _=>False) I' (fpX fr) st stop) λr s5 ⟨hr,I5⟩=>?_
   subst hr
   obtain⟨m5,hn5,_⟩:=id I5.loc
   exact fin _ _ s5 H' m5 (comp_back I3 f3 I5) hn5 I5.free (TL.Inv.apart I3) q
  ·refine thn (T.item (eO X scope cl N fp s3 H3) rfl rfl rfl hc i [] s' _ H' (λ_ _=>False) I' (fpX fr) st go) λr s5 ⟨u,hr,h5⟩=>?_
   subst hr
   refine thn h5 λ_ s6 ⟨x,H6,I6,r6,y6,st6,fr6⟩=>?_
   have I6':=I6.pinned (fpX fr6) (T.obj _ _ st6)
   refine thn (hg s3 H3 _ s6 _ H6 x u _ I6' r6 (ho.own _ _ _ _ (step x H6 y6))) λ_ s7 ⟨σ7,H7,I7,q7,l7,o7⟩=>?_
   have cov:∀ (i:Nat) v,(gK cap σ)[i]? = some (some v)->σ7[i]? = some (some v):=λi v e=>by
    obtain⟨j,c1,c2⟩:=lN e
    by_cases hi:i<own
    ·exact(C.qs hi c1).elim
    ·rw[o7 i (by omega)];exact e
   have back:∀ {H8:Hp}{s8:Shared},Inv (eO X scope cl N fp s3 H3) ([]++kA fp s6.heap) σ7 H8 s8->Inv (eO X scope cl N fp s3 H3) [] (gK cap σ) H8 s8/\tn (i+1) s8.heap/\∀ b∈fp,H8 b=none:=λ{H8 s8} I8=>by
    refine⟨(Inv.jr (pins:=[]) I8).weak l7.symm cov,T.keep _ _ _ st6 λb hb o e=>(I8.pin (b,o) (ba _ (ba _ (gU hb e)))).1,λb hb=>?_⟩
    obtain⟨o,e,d⟩:=T.obj _ _ st6 b hb
    exact(I8.pin (b,o) (ba _ (ba _ (gU hb e)))).2.1
   refine thn (ht s3 H3 _ s7 σ7 H7 _ I7 q7) λb s8 ⟨H8,I8,q8⟩=>?_
   cases b with
   |false=>
    rw[az aX]at q8 ⊢
    obtain⟨m',hm,w8⟩:=hNN _ _ q8
    obtain⟨J1,J2,J3⟩:=back I8
    exact⟨m',hm,i+1,acc,H8,J1,J2,J3,w8⟩
   |true=>
    rw[aC rfl]at q8 ⊢
    refine thn (he s3 H3 _ s8 σ7 H8 _ I8 q8) λv s9 ⟨y,H9,I9,r9,ha,hz,n9⟩=>?_
    obtain⟨m',hm,w9⟩:=hNN _ _ n9
    refine thn (fK _ s9 σ7 H9 (.ref s2.heap.objs.size) [y] (.ref s2.heap.objs.size) [v] (λ_ H10=>W (i+1) m' (acc ++ [y]) H10) I9 rfl (.cons r9 .nil) ⟨_,acc,y,rfl,rfl,ha,hz,w9⟩) λ_ s10 ⟨_,H10,I10,_,w10⟩=>?_
    obtain⟨J1,J2,J3⟩:=back I10
    exact⟨m',hm,i+1,acc ++ [y],H10,J1,J2,J3,w10⟩
 exact codeAny_compStart_list loop (T.self X.A 0 _ _ _ st4 loop)
theorem m6 (hi:PI X tg iter wi)(hc:X.calm=true)(C:eT X.env.scope X.N scope N own cap)(ho:nI own g)
  (hg:∀ cl fp s3 H3,PG (eO X scope cl N fp s3 H3) tg g) (ht:∀ cl fp s3 H3,rA (eO X scope cl N fp s3 H3) ifs tt) (he:∀ cl fp s3 H3,PE (eO X scope cl N fp s3 H3) elt te)
  (hs:∀ x,foldedSetIterable iter X.env x=pure x:=by intro _;rfl):PE X (.ListComp elt [⟨tg,iter,ifs,0⟩] scope pos) (tLC wi cap g tt te):=by
 intro pins s σ H Q I h
 obtain⟨cl,ecl,jR,nj⟩:=kU (scope:=scope) (env:=X.env) λy hy hf=>I.ok.has y.1 (C.fre y hy hf)
 rw[eval_ListComp]
 refine wpAny_comprehension_free (use:=none) rfl hs ecl C.kind C.loc (thn (hi pins s σ H _ I h) λxv s1 h1=>thn h1 λitv s2 h2=>?_)
 obtain⟨it,fp,tn,J,H2,e,I2,T,st2,f2,hw⟩:=h2
 subst e
 refine nA (RR:=λacc C=>compPost (model X.prog X.w) X.A X.xe none (EP X pins σ Q) acc C) I2 T st2 f2 hc C ho jR nj (hg cl fp) (ht cl fp) (he cl fp) hw λl Ca s' H' m' I' hn lJ hP q=>?_
 exact⟨m',hn,λh'' ug=>⟨.ref l,H',lM I' hP lJ ug,rfl,q⟩⟩
theorem mY {i:Nat}{x:Str}{pos' uT:Pos}(hN:X.N.Nodup)(hi':X.N[i]? = some x)(hx:X.env.scope.names.lookup x=some .local)(hi:PI X tg iter wi)(hc:X.calm=true)(C:eT X.env.scope X.N scope N own cap)(ho:nI own g)
  (hg:∀ cl fp s3 H3,PG (eO X scope cl N fp s3 H3) tg g) (ht:∀ cl fp s3 H3,rA (eO X scope cl N fp s3 H3) ifs tt) (he:∀ cl fp s3 H3,PE (eO X scope cl N fp s3 H3) elt te)
  (hsw:swapsWith (.ListComp elt [⟨tg,iter,ifs,0⟩] scope pos) (some (.Name x pos')) uT.line X.env=pure true:=by rfl)
  (hs:∀ x,foldedSetIterable iter X.env x=pure x:=by intro _;rfl):PS X (.Assign [.Name x pos'] (.ListComp elt [⟨tg,iter,ifs,0⟩] scope pos) uT) (tw (tLC wi cap g tt te) (hU i)):=by
 intro pins s σ H D I h
 obtain⟨cl,ecl,jR,nj⟩:=kU (scope:=scope) (env:=X.env) λy hy hf=>I.ok.has y.1 (C.fre y hy hf)
 rw[exec_Assign_Name_used _ _ _ _ hsw]
 refine au (wpAny_standAt (au ?_))
 show wpAny _ X.A (do let _ <-comprehension (.ListComp elt [⟨tg,iter,ifs,0⟩] scope pos) scope X.env _ (newList []) false (eval iter X.env) (some (assign (.Name x pos') X.env))) _ _ s
 refine au (bF (wpAny_comprehension_free (use:=some (assign (.Name x pos') X.env)) (Q:=λ_ s'=>SP X pins D .next s') rfl hs ecl C.kind C.loc
  (thn (hi pins s σ H _ I h) λxv s1 h1=>thn h1 λitv s2 h2=>?_)) (λ_ s' hq=>aS (aS hq)) λ_ _ e=>e)
 obtain⟨it,fp,tn,J,H2,e,I2,T,st2,f2,hw⟩:=h2
 subst e
 refine nA (RR:=λacc C=>compPost (model X.prog X.w) X.A X.xe (some (assign (.Name x pos') X.env)) (λ_ s'=>SP X pins D .next s') acc C) I2 T st2 f2 hc C ho jR nj (hg cl fp) (ht cl fp) (he cl fp) hw λl Ca s' H' m' I' hn lJ hP q=>?_
 show wpAny _ X.A (assign (.Name x pos') X.env (.ref l)) _ _ _
 refine wpAny_assign_Name (lB I' hN hi' (.inl hx) (v:=.ref l) rfl (λs5 I5 ⟨a,sb,ha⟩=>?_) (.inr hx))
 have hne:Ca≠a:=by
  rcases ha with z |z
  ·rw[z];exact hP.loc
  ·exact λe=>hP.cel x a z e.symm
 refine⟨m',hn.sameBut sb hne,λh'' ug=>⟨_,H',lM I5 hP lJ ug,q⟩⟩
end
section
variable {K:PySem.W.Frag}{a l:Addr}{xs:List V}{g:TG}{tt:TT}{te:TE}{cap:List (Option Nat)}{σ:St}{Q:VK}{H1:Hp}
theorem rY (Pv:Nat->List V->Hp->Prop)(h0:Pv 0 [] (upd H1 l (.lst [])))(hl:∀ i acc H,i<=xs.length->Pv i acc H->SqL K H a xs)
  (hs:∀ i x acc H,xs[i]? = some x->Pv i acc H->g x (gK cap σ) H λσ2 H2=>tt σ2 H2 λb H3=>
    if b=true then te σ2 H3 λy H4=>H4 l=some (.lst acc)/\acc.length<sizeLine/\Pv (i+1) (acc ++ [y]) (upd H4 l (.lst (acc ++ [y])))
    else Pv (i+1) acc H3) (hd:∀ acc H,Pv xs.length acc H->Q (.ref l) H):LcW (Itl K a) g tt te cap σ Q l H1:=by
 refine⟨λi m acc H=>m=xs.length-i/\i<=xs.length/\Pv i acc H,⟨xs.length,by simp,aM _,h0⟩,?_⟩
 rintro i m acc H ⟨rfl,hi,p⟩
 have q:=hl i acc H hi p
 by_cases hlt:i<xs.length
 ·refine .inr ⟨⟨xs,xs[i],q,by simp[hlt]⟩,Pv (i+1),λpS H' p'=>⟨xs.length-(i+1),by omega,rfl,hlt,p'⟩,λx H' y=>?_⟩
  obtain⟨e,y⟩:=y
  subst e
  exact hs i x acc _ (y xs q) p
 ·have e:i=xs.length:=by omega
  subst e
  exact .inl ⟨⟨xs,q,ar _⟩,hd acc H p⟩
theorem dj {H:Hp}{l:Addr}{o:HO}(hn:H l=none):dM H (upd H l o):=λb u e=>by rw[dG (dF e hn)];exact e
theorem gX {α:Type}(ds:List α)(p:α->Bool)(f:α->V)(hn:H1 l=none)(hx:SqL K H1 a xs)(hlen:xs.length=ds.length)(hz:xs.length<sizeLine)
  (hs:∀ (i:Nat) x d H,xs[i]? = some x->ds[i]? = some d->dM H1 H->∀ (P1:VK) (P0:Hp->Prop),(p d=true->P1 (f d) H)->(p d=false->P0 H)->
   g x (gK cap σ) H λσ2 H2=>tt σ2 H2 λb H3=>if b=true then te σ2 H3 P1 else P0 H3)
  (hq:Q (.ref l) (upd H1 l (.lst ((ds.filter p).map f)))):LcW (Itl K a) g tt te cap σ Q l H1:=by
 refine rY (λi acc H=>acc=((ds.take i).filter p).map f/\H=upd H1 l (.lst acc)) ⟨rfl,rfl⟩ (λi acc H _ ⟨_,e⟩=>by rw[e];exact(dj hn).seq hx) ?_ ?_
 ·rintro i x acc H hi ⟨e1,e2⟩
  have hlt:i<xs.length:=(af.mp hi).1
  have hd:ds[i]? = some (ds[i]'(by omega)):=by simp
  generalize ds[i]'(by omega)=d at hd
  have step:((ds.take (i+1)).filter p).map f=acc++(if p d=true then[f d]else[]):=by
   rw[take_succ_filter p ds i d hd,aK,e1]
   cases p d<;>rfl
  refine hs i x d H hi hd (by rw[e2];exact dj hn) _ _ (λhp=>?_) (λhp=>?_)
  ·refine⟨by rw[e2,di],?_,?_,?_⟩
   ·have h1:acc.length<=i:=by
     rw[e1,aa]
     exact bR (cC _ _) (by rw[bH];omega)
    omega
   ·rw[step,hp];rfl
   ·rw[e2,ot]
  ·refine⟨?_,e2⟩
   rw[step,hp,az aX,cM]
 ·rintro acc H ⟨e1,e2⟩
  rw[hlen,bV]at e1
  rw[e2,e1]
  exact hq
end
mutual
def Dg (L T:Addr->List V->Prop):PyData->V->Prop
 |.none,v=>v = .non
 |.bool b,v=>v = .bl b
 |.int i,v=>v = .int i
 |.str x,v=>v = .str x
 |.list ds,v=>∃ a vs,v = .ref a/\L a vs/\Dgs L T ds vs
 |.tuple ds,v=>∃ a vs,v = .ref a/\T a vs/\Dgs L T ds vs
 |.dict _,_=>False
def Dgs (L T:Addr->List V->Prop):List PyData->List V->Prop
 |[],vs=>vs = []
 |d::ds,vs=>∃ v r,vs=v::r/\Dg L T d v/\Dgs L T ds r
end
mutual
theorem Dg.mono {L T L' T':Addr->List V->Prop}(hL:∀ a vs,L a vs->L' a vs)(hT:∀ a vs,T a vs->T' a vs):∀ {d:PyData}{v:V},Dg L T d v->Dg L' T' d v
 |.none,_,h=>by simpa only[Dg]using h
 |.bool _,_,h=>by simpa only[Dg]using h
 |.int _,_,h=>by simpa only[Dg]using h
 |.str _,_,h=>by simpa only[Dg]using h
 |.list ds,_,h=>by
  simp only[Dg]at h ⊢
  obtain⟨a,vs,e,l,q⟩:=h
  exact⟨a,vs,e,hL a vs l,Dgs.mono hL hT q⟩
 |.tuple ds,_,h=>by
  simp only[Dg]at h ⊢
  obtain⟨a,vs,e,l,q⟩:=h
  exact⟨a,vs,e,hT a vs l,Dgs.mono hL hT q⟩
 |.dict _,_,h=>by simp only[Dg]at h
theorem Dgs.mono {L T L' T':Addr->List V->Prop}(hL:∀ a vs,L a vs->L' a vs)(hT:∀ a vs,T a vs->T' a vs):∀ {ds:List PyData}{vs:List V},Dgs L T ds vs->Dgs L' T' ds vs
 |[],_,h=>by simpa only[Dgs]using h
 |d::ds,_,h=>by
  simp only[Dgs]at h ⊢
  obtain⟨v,r,e,l,q⟩:=h
  exact⟨v,r,e,Dg.mono hL hT l,Dgs.mono hL hT q⟩
end
section
variable {L T:Addr->List V->Prop}
theorem fX {i:Int}{v:V} :Dg L T (.int i) v↔v = .int i:=by simp only[Dg]
theorem ro {i:Str}{v:V} :Dg L T (.str i) v↔v = .str i:=by simp only[Dg]
theorem gg {ds:List PyData}{v:V} :Dg L T (.list ds) v↔∃ a vs,v = .ref a/\L a vs/\Dgs L T ds vs:=by simp only[Dg]
theorem gJ {ds:List PyData}{v:V} :Dg L T (.tuple ds) v↔∃ a vs,v = .ref a/\T a vs/\Dgs L T ds vs:=by simp only[Dg]
theorem eJ {vs:List V} :Dgs L T [] vs↔vs = []:=by simp only[Dgs]
theorem dZ {d:PyData}{ds:List PyData}{vs:List V} :Dgs L T (d::ds) vs↔∃ v r,vs=v::r/\Dg L T d v/\Dgs L T ds r:=by simp only[Dgs]
theorem Dgs.length:∀ {ds:List PyData}{vs:List V},Dgs L T ds vs->vs.length=ds.length
 |[],_,h=>by rw[eJ.mp h];rfl
 |d::ds,_,h=>by
  obtain⟨v,r,rfl,_,q⟩:=dZ.mp h
  rw[bb,bb,Dgs.length q]
theorem jC:∀ {ns:List Int}{vs:List V},Dgs L T (ns.map .int) vs↔vs=ns.map V.int
 |[],vs=>eJ
 |n::ns,vs=>by
  rw[bB,dZ]
  constructor
  ·rintro⟨v,r,rfl,h1,h2⟩
   rw[fX.mp h1,jC.mp h2];rfl
  ·rintro rfl
   exact⟨_,_,rfl,fX.mpr rfl,jC.mpr rfl⟩
theorem Dgs.append:∀ {ds es:List PyData}{vs us:List V},Dgs L T ds vs->Dgs L T es us->Dgs L T (ds++es) (vs++us)
 |[],_,_,_,h,k=>by rw[eJ.mp h];exact k
 |d::ds,_,_,_,h,k=>by
  obtain⟨v,r,rfl,h1,q⟩:=dZ.mp h
  exact dZ.mpr ⟨v,_,rfl,h1,Dgs.append q k⟩
theorem Dgs.one {d:PyData}{v:V}(h:Dg L T d v):Dgs L T [d] [v]:=dZ.mpr ⟨v,[],rfl,h,eJ.mpr rfl⟩
theorem Dgs.two {d e:PyData}{v u:V}(h:Dg L T d v)(k:Dg L T e u):Dgs L T [d,e] [v,u]:=dZ.mpr ⟨v,[u],rfl,h,.one k⟩
theorem Dgs.get:∀ {ds:List PyData}{vs:List V}{i:Nat}{v:V},Dgs L T ds vs->vs[i]? = some v->∃ d,ds[i]? = some d/\Dg L T d v
 |[],_,_,_,h,e=>by rw[eJ.mp h]at e;simp at e
 |d::ds,_,0,v,h,e=>by
  obtain⟨x,r,rfl,h1,q⟩:=dZ.mp h
  simp at e;subst e
  exact⟨d,rfl,h1⟩
 |d::ds,_,i+1,v,h,e=>by
  obtain⟨x,r,rfl,h1,q⟩:=dZ.mp h
  obtain⟨d',e1,e2⟩:=Dgs.get (i:=i) (v:=v) q (by simpa using e)
  exact⟨d',by simpa using e1,e2⟩
theorem Dgs.insert:∀ {ds:List PyData}{vs:List V} (i:Nat) {d:PyData}{v:V},Dgs L T ds vs->Dg L T d v->Dgs L T (ds.take i++d::ds.drop i) (vs.take i++v::vs.drop i)
 |ds,vs,0,d,v,h,k=>dZ.mpr ⟨v,vs,by simp,k,by simpa using h⟩
 |[],vs,i+1,d,v,h,k=>by rw[eJ.mp h];simpa using Dgs.one k
 |x::ds,vs,i+1,d,v,h,k=>by
  obtain⟨y,r,rfl,h1,q⟩:=dZ.mp h
  exact dZ.mpr ⟨y,_,rfl,h1,Dgs.insert i q k⟩
end
abbrev Da (K:PySem.W.Frag)(H:Hp):PyData->V->Prop:=Dg (SqL K H) (SqT K H)
abbrev Das (K:PySem.W.Frag)(H:Hp):List PyData->List V->Prop:=Dgs (SqL K H) (SqT K H)
theorem gh {K:PySem.W.Frag}{H H':Hp}{a:Addr}{xs:List V}(e:dM H H')(h:SqT K H a xs):SqT K H' a xs:=by
 rcases h with(h |⟨o,h⟩)|h
 ·exact .inl (.inl (e _ _ h))
 ·exact .inl (.inr ⟨o,e _ _ h⟩)
 ·exact .inr h
theorem Da.same {K:PySem.W.Frag}{H H':Hp}(e:dM H H'){d:PyData}{v:V}(h:Da K H d v):Da K H' d v:=Dg.mono (λ_ _ q=>e.seq q) (λ_ _ q=>gh e q) h
theorem Das.same {K:PySem.W.Frag}{H H':Hp}(e:dM H H'){d:List PyData}{v:List V}(h:Das K H d v):Das K H' d v:=Dgs.mono (λ_ _ q=>e.seq q) (λ_ _ q=>gh e q) h
section
variable {X:Cx}{pins:List (Addr×Obj)}{σ:St}{H:Hp}{s:Shared}
mutual
theorem Da.reads (I:Inv X pins σ H s):∀ {d:PyData}{v:V}{u:Value},Da X.K H d v->RelV v u->∃ as,Reads s.heap u d as
 |.none,v,u,h,r=>by
  have e:v = .non:=by simpa only[Dg]using h
  subst e;cases r;exact⟨_,.none⟩
 |.bool b,v,u,h,r=>by
  have e:v = .bl b:=by simpa only[Dg]using h
  subst e;cases r;exact⟨_,.bool b⟩
 |.int i,v,u,h,r=>by
  have e:v = .int i:=by simpa only[Dg]using h
  subst e;obtain⟨t,rfl⟩:=r;exact⟨_,.int i t⟩
 |.str i,v,u,h,r=>by
  have e:v = .str i:=by simpa only[Dg]using h
  subst e;obtain⟨t,rfl⟩:=r;exact⟨_,.str i t⟩
 |.list ds,v,u,h,r=>by
  obtain⟨a,vs,rfl,l,q⟩:=gg.mp h
  cases r
  obtain⟨its,rv,p,hz⟩:=I.list l
  obtain⟨as,rs⟩:=Das.reads I q rv
  obtain⟨o,ho,hc,n,hd⟩:=p.isList
  exact⟨_,.list ho hc hd (by simpa using rs)⟩
 |.tuple ds,v,u,h,r=>by
  obtain⟨a,vs,rfl,l,q⟩:=gJ.mp h
  cases r
  obtain⟨its,rv,p,hz⟩:=I.tuple l
  obtain⟨as,rs⟩:=Das.reads I q rv
  obtain⟨o,ho,hc,n,hd⟩:=p
  exact⟨_,.tuple ho hc hd (by simpa using rs)⟩
 |.dict _,v,u,h,r=>by simp only[Dg]at h
theorem Das.reads (I:Inv X pins σ H s):∀ {ds:List PyData}{vs:List V}{us:List Value},Das X.K H ds vs->Vals vs us->∃ as,ReadsAll s.heap us ds as
 |[],vs,us,h,r=>by
  rw[eJ.mp h]at r;cases r;exact⟨_,.nil⟩
 |d::ds,vs,us,h,r=>by
  obtain⟨v,w,rfl,h1,q⟩:=dZ.mp h
  cases r with
  |cons r1 r2=>
   obtain⟨as,e1⟩:=Da.reads I h1 r1
   obtain⟨bs,e2⟩:=Das.reads I q r2
   exact⟨_,.cons e1 e2⟩
end
end
section
variable {X:Cx}
def OkD (d:PyData):Prop:=d.canLay0=true/\d.depth<=20
def wW (K:PySem.W.Frag):R2:=λx y H Q=>∃ d e,Da K H d x/\Da K H e y/\OkD d/\OkD e/\Q (.bl (PyData.eqv d e)) H
def wR (K:PySem.W.Frag):R2:=λx y H Q=>∃ d e,Da K H d x/\Da K H e y/\OkD d/\OkD e/\Q (.bl (!PyData.eqv d e)) H
theorem tQ (hu:X.A.units+64<cLine):OpR X (compareOp .Eq) (wW X.K):=by
 intro pins s σ H x y v u Q I rx ry h
 obtain⟨d,e,h1,h2,o1,o2,q⟩:=h
 obtain⟨as,r1⟩:=Da.reads I h1 rx
 obtain⟨bs,r2⟩:=Da.reads I h2 ry
 exact SeqAt.compareEq_reads r1 r2 o1.1 o2.1 (by have:=o1.2;have:=o2.2;omega) ⟨.bl _,H,I,rfl,q⟩
theorem nQ (hu:X.A.units+64<cLine):OpR X (compareOp .NotEq) (wR X.K):=by
 intro pins s σ H x y v u Q I rx ry h
 obtain⟨d,e,h1,h2,o1,o2,q⟩:=h
 obtain⟨as,r1⟩:=Da.reads I h1 rx
 obtain⟨bs,r2⟩:=Da.reads I h2 ry
 exact SeqAt.compareNe_reads r1 r2 o1.1 o2.1 (by have:=o1.2;have:=o2.2;omega) ⟨.bl _,H,I,rfl,q⟩
def uC (ds:List PyData):Prop:=PyData.canLayAll0 ds=true/\PyData.depthAll ds<=20
def uU (K:PySem.W.Frag)(neg:Bool):R2:=λx y H Q=>∃ ds d,Da K H (.list ds) y/\Da K H d x/\uC ds/\OkD d/\Q (.bl (if neg then !(ds.any λz=>PyData.eqv z d)else ds.any λz=>PyData.eqv z d)) H
theorem jL (hu:X.A.units+64<cLine):OpR X (compareOp .NotIn) (uU X.K true):=by
 intro pins s σ H x y v u Q I rx ry h
 obtain⟨ds,d,h1,h2,o1,o2,q⟩:=h
 obtain⟨as,r1⟩:=Da.reads I h1 ry
 obtain⟨bs,r2⟩:=Da.reads I h2 rx
 exact SeqAt.notIn_list_reads r1 r2 o1.1 o2.1 (by have:=o1.2;have:=o2.2;omega) ⟨.bl _,H,I,rfl,q⟩
end
theorem eW {α:Type}{f:α->PyData}(h:∀ x,(f x).canLay0=true):∀ l:List α,PyData.canLayAll0 (l.map f)=true
 |[]=>by simp[PyData.canLayAll0]
 |x::l=>by simp[PyData.canLayAll0,h x,eW h l]
theorem eN {α:Type}{f:α->PyData}{k:Nat}(h:∀ x,(f x).depth<=k):∀ l:List α,PyData.depthAll (l.map f)<=k
 |[]=>by simp[PyData.depthAll]
 |x::l=>by
  simp only[bB,PyData.depthAll]
  exact Nat.max_le.mpr ⟨h x,eN h l⟩
def dI (ns:List Int):PyData:=.list (ns.map .int)
def dP (p:Int×Int):PyData:=.tuple [.int p.1,.int p.2]
def dJ (js:List (Int×Int)):PyData:=.list (js.map dP)
def dL (l:Int×List (Int×Int)):PyData:=.tuple [.int l.1,dJ l.2]
theorem oP (i:Int):OkD (.int i):=⟨rfl,by simp[PyData.depth]⟩
theorem qz (ns:List Int):OkD (dI ns):=⟨by simp only[dI,PyData.canLay0];exact eW (λ_=>rfl) ns,by
 simp only[dI,PyData.depth]
 have:=eN (f:=PyData.int) (k:=0) (λ_=>by simp[PyData.depth]) ns
 omega⟩
theorem kY (p:Int×Int):(dP p).canLay0=true:=by simp[dP,PyData.canLay0,PyData.canLayAll0]
theorem mC (p:Int×Int):(dP p).depth<=1:=by simp[dP,PyData.depth,PyData.depthAll]
theorem vd (p:Int×Int):OkD (dP p):=⟨kY p,by have:=mC p;omega⟩
theorem tT (js:List (Int×Int)):uC (js.map dP):=⟨eW kY js,by have:=eN mC js;omega⟩
theorem oS (js:List (Int×Int)):(dJ js).depth<=2:=by simp only[dJ,PyData.depth];have:=eN mC js;omega
theorem vf (js:List (Int×Int)):OkD (dJ js):=⟨by simp only[dJ,PyData.canLay0];exact eW kY js,by have:=oS js;omega⟩
theorem sr (l:Int×List (Int×Int)):(dL l).depth<=3:=by
 simp only[dL,PyData.depth,PyData.depthAll]
 have:=oS l.2
 omega
theorem qA (l:Int×List (Int×Int)):OkD (dL l):=⟨by simp only[dL,PyData.canLay0,PyData.canLayAll0,Bool.and_true,Bool.true_and];exact(vf l.2).1,by have:=sr l;omega⟩
theorem jB {d:PyData}(h:OkD d):PyData.eqv d d=true:=SeqAt.eqv_refl d h.1
theorem sU (p q:Int×Int):PyData.eqv (dP p) (dP q)=decide (p=q):=by
 obtain⟨a,b⟩:=p
 obtain⟨c,d⟩:=q
 simp only[dP,PyData.eqv,PyData.eqvAll,Bool.and_true]
 rw[cb]
 simp
theorem v5 (js:List (Int×Int))(p:Int×Int):((js.map dP).any λz=>PyData.eqv z (dP p))=decide (p∈js):=by
 rw[List.any_map,cb,List.any_eq_true,decide_eq_true_iff]
 constructor
 ·rintro⟨x,hx,e⟩
  have e':PyData.eqv (dP x) (dP p)=true:=e
  rw[sU,decide_eq_true_iff]at e'
  rw[<-e'];exact hx
 ·intro h
  exact⟨p,h,by show PyData.eqv (dP p) (dP p)=true;rw[sU];simp⟩
section
variable {X:Cx}
theorem se (its:List Value)(k:Nat)(y:Value):(its.toArray.extract 0 k).push y++its.toArray.extract k=(its.take k++y::its.drop k).toArray:=PySem.W.kl_ins_eq its k y
def rN:V->List V->Hp->VK->Prop:=λx vs H Q=>∃ l xs i y,x = .ref l/\vs = [.int i,y]/\H l=some (.lst xs)/\0<=i/\i<=xs.length/\xs.length<sizeLine/\Q .non (upd H l (.lst (xs.take i.toNat++y::xs.drop i.toNat)))
theorem lH:MtM X "list.insert" rN:=by
 intro pins s σ H x vs v us Q I rx rv h
 obtain⟨l,xs,i,y,rfl,rfl,hH,h0,h1,hz,q⟩:=h
 cases rx
 obtain⟨ui,u,rfl,ri,ru⟩:=rv.two
 obtain⟨t,rfl⟩:=ri
 obtain⟨z,its,n,r,hl,e⟩:=I.lx hH
 have hs:its.toArray.size<=sizeLine:=by rw[aw];omega
 have hf:Builtin.List.listFitsIndex i=true:=by
  unfold Builtin.List.listFitsIndex
  have h63:(sizeLine:Nat)<2 ^ 62:=by rw[cq];decide
  simp only[cG,cW]
  constructor<;>omega
 refine cQ cY ⟨_,e,rfl⟩ PySem.F.entry_list_insert (PySem.F.args_list_insert_3 _ _ _) (PySem.AutoSeq1.list_insert_list_int_val_1 l its.toArray n i t u (by simp[hf]) hs) ⟨e,?_⟩
 refine⟨.non,_,I.qL (its':=its.take i.toNat++u::its.drop i.toNat) (ys:=xs.take i.toNat++y::xs.drop i.toNat) hH e ?_ ((r.take i.toNat).append (.cons ru (r.drop i.toNat))) ?_,rfl,q⟩
 ·have hk:(if i<0 then(i+(its.toArray.size:Int)).toNat else min i.toNat its.toArray.size)=i.toNat:=by
   rw[az (by omega),aw]
   omega
  show(its.toArray.extract 0 (if i<0 then(i+(its.toArray.size:Int)).toNat else min i.toNat its.toArray.size)).push u++its.toArray.extract (if i<0 then(i+(its.toArray.size:Int)).toNat else min i.toNat its.toArray.size)=_
  rw[hk,se]
 ·rw[ao,bb,bH,List.length_drop]
  omega
end
def srt (ns:List Int):List Int:=ns.mergeSort (λa b=>decide (a<=b))
theorem h8 (ns:List Int):(srt ns).Perm ns:=List.mergeSort_perm ns _
theorem kn (ns:List Int):(srt ns).Pairwise (· <= ·):=by
 have h:=List.pairwise_mergeSort (le:=λa b:Int=>decide (a<=b)) (by intro a b c h1 h2;simp only[cW]at *;omega) (by intro a b;simp only[Bool.or_eq_true,cW];omega) ns
 exact h.imp (by intro a b h;simpa using h)
theorem nM {a b:List Int}(hp:a.Perm b)(ha:a.Pairwise (· <= ·))(hb:b.Pairwise (· <= ·)):a=b:=PySem.W.ksm_same hp ha hb
theorem p6 {a ns:List Int}(hp:a.Perm ns)(ha:a.Pairwise (· <= ·)):a=srt ns:=nM (hp.trans (h8 ns).symm) ha (kn ns)
theorem pg {a b:List Int}(hp:a.Perm b):srt a=srt b:=p6 ((h8 a).trans hp) (kn a)
theorem rL {ns:List Int}{x:Int} :x∈srt ns↔x∈ns:=(h8 ns).mem_iff
theorem i9 (ns:List Int):(srt ns).length=ns.length:=(h8 ns).length_eq
section
variable {X:Cx}
end
theorem Inv.o8 {X:Cx}{pins:List (Addr×Obj)}{σ:St}{H:Hp}{s:Shared}{h':Heap}{t':Nat}{ch:List Addr}{xs:List V}{us:List Value}(I:Inv X pins σ H s)(hf:∀ b∈ch,kg X pins H b)
  (keep:∀ b o,b∉ch->s.heap.get? b=some o->h'.get? b=some o) (r:Vals xs us) (hz:xs.length<=sizeLine) (ht:h'.get? s.heap.objs.size=some {cls:=.type "tuple",data:=.seq us.toArray}):
  Inv X pins σ (upd H s.heap.objs.size (.tup xs)) {s with heap:=h',toks:=t'} :=by
 have hn:H s.heap.objs.size=none:=I.fresh
 have nch:∀ b u,H b=some u->b∉ch:=λb u q z=>by rw[(hf b z).1]at q;cases q
 refine I.step (g':=s.gens) (d':=s.drawn) (ch:=ch) (λb hb=>?_) (λb o _ _ hc q _=>keep b o hc q) (λb o _ _ hc q _=>⟨o.slots,keep b o hc q⟩) (λb o _ q n=>?_)
  (λb o hc q=>⟨o,keep b o hc q⟩) (λb ys q=>by rw[dG (dF q hn)];exact q) (λb o ys q=>by rw[dG (dF q hn)];exact q) (λb ps q=>⟨#[],by rw[dG (dF q hn),q];simp⟩) (λm hm=>?_) (λb u q=>?_) I.bare
 ·obtain⟨f0,f1,f2,f3,f4,f5⟩:=hf b hb
  exact⟨f3,f1,f4,f5⟩
 ·rw[dG (aV (aA q))];exact n
 ·obtain⟨o,es,ep,ho,r⟩:=hm
  exact⟨o,es,ep,keep _ o (λz=>(hf _ z).2.1 rfl) ho,r⟩
 ·by_cases hb:b=s.heap.objs.size
  ·subst hb
   rw[di]at q
   cases q
   exact⟨hz,us,r,⟨_,ht,rfl,_,rfl⟩⟩
  ·rw[dG hb]at q
   refine(I.hok b u q).lV (λc v hc q'=>keep c v ?_ q') (λc z=>by rw[dG (dF z hn)];exact z) λc ys z=>by rw[dG (dF z hn)];exact z
   rcases hc with z |z
   ·rw[z];exact nch b u q
   ·exact nch c _ z
def Ite (K:PySem.W.Frag)(a:Addr):It:=
 ⟨λi H=>∃ xs x,SqL K H a xs/\xs[i]? = some x,λi H x H'=>∃ p,H p=none/\x = .ref p/\∀ xs y,SqL K H a xs->xs[i]? = some y->H'=upd H p (.tup [.int i,y]),λi H=>∃ xs,SqL K H a xs/\xs.length<=i⟩
theorem pf {P:Program}{w:World}{K:PySem.W.Frag}{es:List Expr}{x1:Nat}{pt:Pos}(a e it:Addr)(hne:e≠it):
  Turn P w K (.Tuple es x1 pt) (Ite K a) [e,it] e (λi h=>∃ old,IsEnum h e it i old/\h.IsListIter it a i) where
 mem:=by simp
 obj:=λi h st b hb=>by
  obtain⟨old,h1,h2⟩:=st
  rcases aJ.mp hb with z |z
  ·subst z;exact⟨_,h1,λv z=>by cases z⟩
  ·have z:b=it:=by simpa using z
   subst z
   obtain⟨o,ho,c,d⟩:=h2
   exact⟨o,ho,λv z=>by rw[d]at z;cases z⟩
 keep:=λi h h' ⟨old,h1,h2⟩ k=>⟨old,k e (by simp) _ h1,h2.at λo q=>k it (by simp) o q⟩
 item:=by
  intro X hP hw hK hc i pins s σ H E I hf st hg
  subst hP hw hK
  obtain⟨old,h1,h2⟩:=st
  obtain⟨xs,x,hq,hx⟩:=hg
  obtain⟨its,rv,p,hz⟩:=I.list hq
  obtain⟨u,hu,ru⟩:=rv.get hx
  have lt1:e<s.heap.objs.size:=aA h1
  refine wpAny_pyNext_enum_item h1 h2 p.isList (x:=u) (by simpa using hu) hne λh' k1 k2 k3 k4 k5=>?_
  refine⟨_,rfl,?_⟩
  refine wpAny_letOwnedTupleGo_enum (s:={s with heap:=h',toks:=s.toks+1}) k1 λh'' m1 m2=>?_
  have keep:∀ b o,b∉ [e,it]->s.heap.get? b=some o->h''.get? b=some o:=λb o hb q=>m2.extBut b o (λz=>hb (by simp[z])) (k5 b o (λz=>hb (by simp[z])) (λz=>hb (by simp[z])) q)
  have ht:h''.get? s.heap.objs.size=some {cls:=.type "tuple",data:=.seq [Value.int i s.toks,u].toArray} :=m2.extBut _ _ (Nat.ne_of_gt lt1) k3
  have J1:Inv X pins σ (upd H s.heap.objs.size (.tup [.int i,x])) {s with heap:=h'',toks:=s.toks+1} :=Inv.o8 I hf keep (.cons ⟨_,rfl⟩ (.cons ru .nil)) (by show 2<=sizeLine;decide) ht
  have hn:H s.heap.objs.size=none:=I.fresh
  refine⟨.ref s.heap.objs.size,_,J1,rfl,⟨_,hn,rfl,λys y hy h=>?_⟩,⟨u,?_,?_⟩,λb hb=>?_⟩
  ·have e1:=I.jA hy hq
   subst e1
   rw[hx]at h
   cases h
   rfl
  ·have e1:((i+1:Nat):Int)=(i:Int)+1:=by omega
   rw[e1];exact m1
  ·exact k2.extBut m2.extBut (cH hne)
  ·obtain⟨o,q,_⟩:∃ o,s.heap.get? b=some o/\True:=by
    rcases aJ.mp hb with z |z
    ·subst z;exact⟨_,h1,trivial⟩
    ·have z:b=it:=by simpa using z
     subst z
     obtain⟨o,ho,_⟩:=h2
     exact⟨o,ho,trivial⟩
   rw[dG (aV (aA q))]
   exact(hf b hb).1
 done:=by
  intro X hP hw hK hc i pins s σ H E I hf st hg
  subst hP hw hK
  obtain⟨old,h1,h2⟩:=st
  obtain⟨xs,hq,hx⟩:=hg
  obtain⟨its,rv,p,hz⟩:=I.list hq
  obtain⟨g0,g1,g2,g3,g4,g5⟩:=hf it (by simp)
  have hl:=rv.length
  exact wpAny_pyNext_enum_end (I.ok.hd hc) h1 h2 p.isList (by simp;omega) λh' eb=>⟨rfl,I.turned (t':=s.toks) (λb o hb e=>eb b o hb e) g0 g1 g3 g4 g5⟩
 self:=λ_ _ _ _ _ ⟨old,h1,h2⟩ h=>wpAny_pyIter_enum h1 h
section
variable {X:Cx}
def vF (K:PySem.W.Frag)(ta:TA):TI:=λσ H R=>ta σ H λvs H1=>∃ a,vs = [.ref a]/\(∃ xs,SqL K H1 a xs)/\R (Ite K a) H1
theorem oI {a:Expr}{ta:TA}{p pos:Pos}{es:List Expr}{x1:Nat}{pt:Pos}(hg:Gl X "enumerate")(hm:X.mg "enumerate" = none)(ha:PA X [a] ta)(hs:starEach [a] X.env = [(false,eval a X.env)]:=by rfl):PI X (.Tuple es x1 pt) (.Call (.Name "enumerate" p) [a] [] pos) (vF X.K ta):=by
 intro pins s σ H R I h
 refine Call_ (iw I hg hm boot_enumerate (bA (thn (ha pos pins s σ H _ I h) λus s1 ⟨vs,H1,I1,r1,q1⟩=>?_) hs rfl))
 obtain⟨a,e,⟨xs,hq⟩,q⟩:=q1
 subst e
 obtain⟨u,rfl,ru⟩:=vals1 r1
 cases ru
 obtain⟨its,rv,pl,hz⟩:=I1.list hq
 refine call_enumerate_list pl.isList λh' k1 k2 k3 k4=>?_
 refine wpAny_pyIter_enum (s:={s1 with heap:=h'}) k1 ?_
 refine⟨s1.heap.objs.size+1,[s1.heap.objs.size+1,s1.heap.objs.size],_,_,H1,rfl,I1.kept (t':=s1.toks) k4,pf a _ _ (Nat.succ_ne_self _),⟨.none,k1,k2⟩,λb hb=>?_,q⟩
 have hb':s1.heap.objs.size<=b:=by
  rcases aJ.mp hb with z |z
  ·rw[z];exact cX _
  ·have z:b=s1.heap.objs.size:=by simpa using z
   rw[z];exact ar _
 exact I1.rf hb' (I1.hok.fresh hb')
end
theorem rk {K:PySem.W.Frag}{a:Addr}{xs:List V}{g:TG}{tb:TS}{D:Ends}{σ:St}{H:Hp}(Pv:Nat->St->Hp->Prop)(h0:Pv 0 σ H)(hl:∀ i σ H,i<=xs.length->Pv i σ H->SqL K H a xs)
  (hs:∀ i x σ H p,xs[i]? = some x->Pv i σ H->H p=none->g (.ref p) σ (upd H p (.tup [.int i,x])) λσ2 H2=>tb {D with nx:=Pv (i+1),ct:=Pv (i+1),bk:=D.nx} σ2 H2) (hd:∀ σ H,Pv xs.length σ H->D.nx σ H):
  ∃ W:Nat->Nat->St->Hp->Prop,(∃ m,W 0 m σ H)/\∀ i m σ H,W i m σ H->
   ((Ite K a).stop i H/\D.nx σ H)\/((Ite K a).go i H/\∃ N:St->Hp->Prop,(∀ σ' H',N σ' H'->∃ m',m'<m/\W (i+1) m' σ' H')/\∀ x H',(Ite K a).yld i H x H'->g x σ H' λσ2 H2=>tb {D with nx:=N,ct:=N,bk:=D.nx} σ2 H2):=by
 refine⟨λi m σ H=>m=xs.length-i/\i<=xs.length/\Pv i σ H,⟨xs.length,by simp,aM _,h0⟩,?_⟩
 rintro i m σ H ⟨rfl,hi,p⟩
 have q:=hl i σ H hi p
 by_cases hlt:i<xs.length
 ·refine .inr ⟨⟨xs,xs[i],q,by simp[hlt]⟩,Pv (i+1),λσ' H' p'=>⟨xs.length-(i+1),by omega,rfl,hlt,p'⟩,λx H' y=>?_⟩
  obtain⟨pa,hp,e,y⟩:=y
  subst e
  have hx:xs[i]? = some xs[i]:=by simp[hlt]
  rw[y xs _ q hx]
  exact hs i _ σ H pa hx p hp
 ·have e:i=xs.length:=by omega
  subst e
  exact .inl ⟨⟨xs,q,ar _⟩,hd σ H p⟩
def Itv (K:PySem.W.Frag)(a:Addr):It:=
 ⟨λi H=>∃ xs x,SqL K H a xs/\xs.reverse[i]? = some x,λi H x H'=>H'=H/\∀ xs,SqL K H a xs->xs.reverse[i]? = some x,λi H=>∃ xs,SqL K H a xs/\xs.length=i⟩
theorem p5 {P:Program}{w:World}{K:PySem.W.Frag}{tg:Expr}(a it:Addr)(n:Nat):Turn P w K tg ⟨λi H=>(Itv K a).go i H/\∃ xs,SqL K H a xs/\xs.length=n,(Itv K a).yld,λi H=>i=n⟩ [it] it (λi h=>i<=n/\h.IsRevIter it a ((n:Int)-1-(i:Int))) where
 mem:=by simp
 obj:=λi h st b hb=>by
  have e:b=it:=by simpa using hb
  subst e
  obtain⟨_,o,e,c,d⟩:=st
  exact⟨o,e,λv z=>by rw[d]at z;cases z⟩
 keep:=λi h h' st k=>⟨st.1,st.2.at λo e=>k it (by simp) o e⟩
 item:=by
  intro X hP hw hK hc i pins s σ H E I hf st hg
  subst hP hw hK
  obtain⟨⟨xs,x,hq,hx⟩,ys,hq2,hn⟩:=hg
  have e0:=I.jA hq2 hq
  subst e0
  obtain⟨its,rv,p,hz⟩:=I.list hq
  have hil:i<ys.length:=by have:=(af.mp hx).1;rwa [bx]at this
  have hx':ys[ys.length-1-i]? = some x:=by rw[List.getElem?_reverse hil]at hx;exact hx
  obtain⟨u,hu,ru⟩:=rv.get hx'
  obtain⟨f0,f1,f2,f3,f4,f5⟩:=hf it (by simp)
  have e1:(n:Int)-1-(i:Int)=((ys.length-1-i:Nat):Int):=by omega
  have st2:=st.2
  rw[e1]at st2
  refine wpAny_pyNext_rev_item st2 p.isList (x:=u) (by simpa using hu) λh' st' sb=>?_
  have I1:Inv X pins σ H {s with heap:=h'} :=I.turned (t':=s.toks) (λb o hb e=>(sb.2 b hb).trans e) f0 f1 f3 f4 f5
  have e2:((ys.length-1-i:Nat):Int)-1=(n:Int)-1-((i+1:Nat):Int):=by omega
  rw[e2]at st'
  obtain⟨o,e,c,d⟩:=id st'
  exact⟨u,rfl,oQ (s:={s with heap:=h'}) e c d (by decide) ⟨x,H,I1,ru,⟨rfl,λzs hy=>by rw[I.jA hy hq];exact hx⟩,⟨by omega,st'⟩,λb hb=>(hf b hb).1⟩⟩
 done:=by
  intro X hP hw hK hc i pins s σ H E I hf st hg
  subst hP hw hK
  have hg:i=n:=hg
  subst hg
  obtain⟨f0,f1,f2,f3,f4,f5⟩:=hf it (by simp)
  have e1:(i:Int)-1-(i:Int) = -1:=by omega
  have st2:=st.2
  rw[e1]at st2
  exact wpAny_pyNext_rev_end (I.ok.hd hc) st2 λh' eb=>⟨rfl,I.turned (t':=s.toks) (λb o hb e=>eb b o hb e) f0 f1 f3 f4 f5⟩
 self:=λ_ _ _ _ _ st h=>wpAny_pyIter_revIter st.2 h
section
variable {X:Cx}{tg:Expr}
def xS (K:PySem.W.Frag)(ta:TA):TI:=λσ H R=>ta σ H λvs H1=>∃ a xs,vs = [.ref a]/\SqL K H1 a xs/\R ⟨λi H=>(Itv K a).go i H/\∃ ys,SqL K H a ys/\ys.length=xs.length,(Itv K a).yld,λi H=>i=xs.length⟩ H1
theorem tM {a:Expr}{ta:TA}{p pos:Pos}(hg:Gl X "reversed")(hm:X.mg "reversed" = none)(ha:PA X [a] ta)(hs:starEach [a] X.env = [(false,eval a X.env)]:=by rfl):PI X tg (.Call (.Name "reversed" p) [a] [] pos) (xS X.K ta):=by
 intro pins s σ H R I h
 refine Call_ (iw I hg hm boot_reversed (bA (thn (ha pos pins s σ H _ I h) λus s1 ⟨vs,H1,I1,r1,q1⟩=>?_) hs rfl))
 obtain⟨a,xs,e,hq,q⟩:=q1
 subst e
 obtain⟨u,rfl,ru⟩:=vals1 r1
 cases ru
 obtain⟨its,rv,pl,hz⟩:=I1.list hq
 have hl:=rv.length
 refine call_reversed_list pl.isList ?_
 have hit:Heap.IsRevIter (s1.heap.push (revObj a ((its.toArray.size:Int)-1))) s1.heap.objs.size a (((xs.length:Nat):Int)-1-((0:Nat):Int)):=by
  refine⟨_,bg _ rfl,rfl,?_⟩
  have e1:((xs.length:Nat):Int)-1-((0:Nat):Int)=(its.toArray.size:Int)-1:=by rw[aw];omega
  rw[e1];rfl
 refine wpAny_pyIter_revIter (s:={s1 with heap:=s1.heap.push (revObj a ((its.toArray.size:Int)-1))}) hit ?_
 refine⟨s1.heap.objs.size,[s1.heap.objs.size],_,_,H1,rfl,I1.kept (t':=s1.toks) (λb o e=>aE _ e),p5 a _ xs.length,⟨aM _,hit⟩,λb hb=>?_,q⟩
 have e:b=s1.heap.objs.size:=by simpa using hb
 subst e
 exact I1.rf (ar _) (I1.hok.fresh (ar _))
end
section
variable {X:Cx}{e:Expr}{te:TE}{pos p2:Pos}
end
theorem qP {K:PySem.W.Frag}{t:Value} :PySem.W.kitOne K t t=some true:=by unfold PySem.W.kitOne;rw[aC (by simp)]
structure Bl (mg:Str->Option Value):Prop where
 len:mg "len" = none
 range:mg "range" = none
 sorted:mg "sorted" = none
 enumerate:mg "enumerate" = none
 reversed:mg "reversed" = none
 min:mg "min" = none
 max:mg "max" = none
 list:mg "list" = none
 int:mg "int" = none
 isinstance:mg "isinstance" = none
structure Fn (K:PySem.W.Frag)(mg:Str->Option Value)(x:Str)(st:Stmt)(ps:List Str)(f:Addr)(fd:FuncData):Prop where
 F:Fun K x x st f fd
 m:mg x=some (.ref f)
 b:Binds K fd ps []
def below (js:List (Int×Int))(e:Int):List Int:=(js.filter λp=>decide (p.2=e)).map (·.1)
def above (js:List (Int×Int))(e:Int):List Int:=(js.filter λp=>decide (p.1=e)).map (·.2)
def inc (js:List (Int×Int))(e:Int):Nat:=(below js e).length+(above js e).length
def jn (js:List (Int×Int))(e:Int):List Int:=srt (below js e++above js e)
theorem vz (js:List (Int×Int))(e:Int):srt (above js e++below js e)=jn js e:=pg cB
structure fc (l:Int×List (Int×Int)):Prop where
 one:1<=l.1
 most:l.1<=40
 len:l.2.length<=80
 inc:∀ e,inc l.2 e<=160
 ends:∀ p∈l.2,0<=p.1/\p.1<=p.2/\p.2<2*l.1
theorem inc_le (js:List (Int×Int))(e:Int):inc js e<=2*js.length:=by
 unfold inc below above
 rw[aa,aa]
 have h1:=cC (λp:Int×Int=>decide (p.2=e)) js
 have h2:=cC (λp:Int×Int=>decide (p.1=e)) js
 omega
def o4 (H:Hp)(ns:List Int)(Q:VK):Prop:=∀ (p:Addr) (H':Hp),dM H H'->H p=none->H' p=some (.lst (ns.map V.int))->Q (.ref p) H'
theorem dM.upd {H H':Hp}{l:Addr}{o:HO}(s:dM H H')(hn:H l=none):dM H (upd H' l o):=λb u e=>by rw[dG (dF e hn)];exact s b u e
theorem oU {K:PySem.W.Frag}{H:Hp}{ns:List Int}{v:V} :Da K H (dI ns) v↔∃ a,v = .ref a/\SqL K H a (ns.map V.int):=by
 unfold dI
 refine Iff.trans gg ?_
 constructor
 ·rintro⟨a,vs,rfl,h,q⟩
  rw[jC.mp q]at h
  exact⟨a,rfl,h⟩
 ·rintro⟨a,rfl,h⟩
  exact⟨a,_,rfl,h,jC.mpr rfl⟩
theorem mD {K:PySem.W.Frag}{H:Hp}{ns:List Int}{p:Addr}(h:H p=some (.lst (ns.map V.int))):Da K H (dI ns) (.ref p):=oU.mpr ⟨p,rfl,SqL.of h⟩
theorem jF {K:PySem.W.Frag}{H:Hp}{l:Int×List (Int×Int)}{v:V}(h:Da K H (dL l) v):∃ a b,v = .ref a/\SqT K H a [.int l.1,.ref b]/\∃ vs,SqL K H b vs/\Das K H (l.2.map dP) vs:=by
 unfold dL at h
 obtain⟨a,vs,rfl,ht,q⟩:=gJ.mp h
 obtain⟨v1,r,rfl,h1,q⟩:=dZ.mp q
 obtain⟨v2,r,rfl,h2,q⟩:=dZ.mp q
 cases eJ.mp q
 cases fX.mp h1
 unfold dJ at h2
 obtain⟨b,us,rfl,hl,q⟩:=gg.mp h2
 exact⟨a,b,rfl,ht,us,hl,q⟩
theorem iA {K:PySem.W.Frag}{H:Hp}{js:List (Int×Int)}{vs:List V}{i:Nat}{x:V}(h:Das K H (js.map dP) vs)(e:vs[i]? = some x):∃ a p,js[i]? = some p/\x = .ref a/\SqT K H a [.int p.1,.int p.2]:=by
 obtain⟨d,e1,hd⟩:=Dgs.get h e
 rw[ax]at e1
 cases q:js[i]? with
 |none=>rw[q]at e1;cases e1
 |some p=>
  rw[q]at e1
  cases e1
  unfold dP at hd
  obtain⟨a,us,rfl,ht,q⟩:=gJ.mp hd
  obtain⟨v1,r,rfl,h1,q⟩:=dZ.mp q
  obtain⟨v2,r,rfl,h2,q⟩:=dZ.mp q
  cases eJ.mp q
  cases fX.mp h1
  cases fX.mp h2
  exact⟨a,p,rfl,rfl,ht⟩
theorem qw (ms:List Int):uC (ms.map PyData.int):=⟨eW (λ_=>rfl) ms,by have:=eN (f:=PyData.int) (k:=0) (λ_=>by simp[PyData.depth]) ms;omega⟩
theorem sX (ms:List Int)(x:Int):((ms.map PyData.int).any λz=>PyData.eqv z (.int x))=decide (x∈ms):=by
 rw[List.any_map,cb,List.any_eq_true,decide_eq_true_iff]
 constructor
 ·rintro⟨y,hy,e⟩
  have e':PyData.eqv (.int y) (.int x)=true:=e
  simp only[PyData.eqv,beq_iff_eq]at e'
  rw[<-e'];exact hy
 ·intro h
  exact⟨x,h,by show PyData.eqv (.int x) (.int x)=true;simp[PyData.eqv]⟩
theorem ir {i:Nat}{x:V}{σ:St}{H:Hp}{te:TE}{P1:VK}{P0:Hp->Prop}(h:te (σ.set i (some x)) H P1):hU i x σ H (λσ2 H2=>uL σ2 H2 λb H3=>if b=true then te σ2 H3 P1 else P0 H3):=vA (A:=te (σ.set i (some x)) H P1) (B:=P0 H) h
theorem lL {α:Type}(xs:List α):(xs.filter λ_=>true)=xs:=by simp
section
variable {X:Cx}{K:PySem.W.Frag}
theorem nP (hK:X.K=K)(hu:X.A.units+64<cLine):OpR X (compareOp .NotIn) (uU K true):=hK ▸ jL hu
end
structure JS (J:It)(n:Nat)(H1:Hp)(it:Nat->V->Prop):Prop where
 go:∀ i H,dM H1 H->i<n->J.go i H
 yld:∀ i H x H',dM H1 H->i<n->J.yld i H x H'->H'=H/\it i x
 stop:∀ H,dM H1 H->J.stop n H
theorem t6 {K:PySem.W.Frag}{a:Addr}{xs:List V}{H1:Hp}(hx:SqL K H1 a xs):JS ⟨λi H=>(Itv K a).go i H/\∃ ys,SqL K H a ys/\ys.length=xs.length,(Itv K a).yld,λi H=>i=xs.length⟩ xs.length H1 (λi x=>xs.reverse[i]? = some x):=
 ⟨λi H s hi=>⟨⟨xs,xs.reverse[i]'(by rw[bx];exact hi),s.seq hx,ae _⟩,xs,s.seq hx,rfl⟩,λi H x H' s hi y=>⟨y.1,y.2 xs (s.seq hx)⟩,λH s=>rfl⟩
abbrev Mv:=(Str×Int)×List Int
def fr (l:Int×List (Int×Int))(ns:List Int)(e:Int):List Int:=(jn l.2 e).filter λt=> !decide (t/2∈ns.map (· / 2))
theorem lW {K:PySem.W.Frag}{H:Hp}{t b:Addr}{vs xs:List V}{o:HO}(ht:H t=some (.lst vs))(h:SqT K H b xs):SqT K (upd H t o) b xs:=by
 rcases h with(h |⟨o,h⟩)|h
 ·exact .inl (.inl (by rw[dG (sN h ht (by intro z;cases z))];exact h))
 ·exact .inl (.inr ⟨o,by rw[dG (sN h ht (by intro z;cases z))];exact h⟩)
 ·exact .inr h
theorem oW {ns:List Int}(h:ns≠ []):atI (ns.map V.int) (-1)=some (V.int (ns.getLastD 0)):=by
 obtain⟨r,x,rfl⟩:∃ r x,ns=r ++ [x]:=⟨ns.dropLast,ns.getLast h,(List.dropLast_concat_getLast h).symm⟩
 rw[aK]
 show atI (r.map V.int ++ [V.int x]) (-1)=_
 rw[rz]
 have e:(r ++ [x]).getLastD 0=x:=by simp[List.getLastD_eq_getLast?]
 rw[e]
abbrev NoL:Addr->List V->Prop:=λ_ _=>False
abbrev Ps (K:PySem.W.Frag)(H:Hp)(js:List (Int×Int))(vs:List V):Prop:=Dgs NoL (SqT K H) (js.map dP) vs
theorem Ps.same {K:PySem.W.Frag}{H H':Hp}{js:List (Int×Int)}{vs:List V}(D:Ps K H js vs)(S:dM H H'):Ps K H' js vs:=Dgs.mono (λ_ _ h=>h) (λ_ _ h=>gh S h) D
theorem Ps.uH {K:PySem.W.Frag}{H:Hp}{js:List (Int×Int)}{vs us:List V}{t:Addr}{o:HO}(D:Ps K H js vs)(ht:H t=some (.lst us)):Ps K (upd H t o) js vs:=Dgs.mono (λ_ _ h=>h) (λ_ _ h=>lW ht h) D
theorem Ps.das {K:PySem.W.Frag}{H:Hp}{js:List (Int×Int)}{vs:List V}(D:Ps K H js vs):Das K H (js.map dP) vs:=Dgs.mono (λ_ _ h=>h.elim) (λ_ _ h=>h) D
theorem Ps.da {K:PySem.W.Frag}{H:Hp}{js:List (Int×Int)}{vs:List V}{t:Addr}(D:Ps K H js vs)(ht:H t=some (.lst vs)):Da K H (dJ js) (.ref t):=gg.mpr ⟨t,vs,rfl,SqL.of ht,D.das⟩
theorem Ps.len {K:PySem.W.Frag}{H:Hp}{js:List (Int×Int)}{vs:List V}(D:Ps K H js vs):vs.length=js.length:=by rw[D.length,aa]
theorem oM {K:PySem.W.Frag}{H:Hp}{p:Addr}{x:Int×Int}(h:H p=some (.tup [.int x.1,.int x.2])):Dg NoL (SqT K H) (dP x) (.ref p):=gJ.mpr ⟨p,_,rfl,SqT.of h,Dgs.two (fX.mpr rfl) (fX.mpr rfl)⟩
theorem Ps.push {K:PySem.W.Frag}{H:Hp}{js:List (Int×Int)}{vs:List V}{t p:Addr}{x:Int×Int}{o:HO}(D:Ps K H js vs)(ht:H t=some (.lst vs))(hp:H p=some (.tup [.int x.1,.int x.2])):Ps K (upd H t o) (js ++ [x]) (vs ++ [.ref p]):=by
 show Dgs _ _ ((js ++ [x]).map dP) _
 rw[aK]
 exact(D.uH ht).append (.one (Dg.mono (λ_ _ h=>h) (λ_ _ h=>lW ht h) (oM hp)))
theorem Ps.ins {K:PySem.W.Frag}{H:Hp}{js:List (Int×Int)}{vs:List V}{t p:Addr}{x:Int×Int}{o:HO}(i:Nat)(D:Ps K H js vs)(ht:H t=some (.lst vs))(hp:H p=some (.tup [.int x.1,.int x.2])):Ps K (upd H t o) (js.take i++x::js.drop i) (vs.take i ++ .ref p::vs.drop i):=by
 show Dgs _ _ ((js.take i++x::js.drop i).map dP) _
 rw[aK,bB,List.map_take,List.map_drop]
 exact Dgs.insert i (D.uH ht) (Dg.mono (λ_ _ h=>h) (λ_ _ h=>lW ht h) (oM hp))
theorem gm {K:PySem.W.Frag}{H:Hp}{l:Int×List (Int×Int)}{p t:Addr}(h:H p=some (.tup [.int l.1,.ref t]))(hd:Da K H (dJ l.2) (.ref t)):Da K H (dL l) (.ref p):=gJ.mpr ⟨p,_,rfl,SqT.of h,Dgs.two (fX.mpr rfl) hd⟩
theorem mZ {α:Type}(l:List α)(i:Nat)(x:α):(l.take i++x::l.drop i).Perm (x::l):=by
 have h:=List.perm_middle (a:=x) (l₁:=l.take i) (l₂:=l.drop i)
 rw[cA]at h
 exact h
theorem mv (i j:Int):(if j<i then j else i)=min i j:=by omega
theorem mw (i j:Int):(if j>i then j else i)=max i j:=by omega
theorem om {ns:List Int}{i:Int}(h0:0<=i)(h1:i<ns.length):∃ x,ns[i.toNat]? = some x/\x∈ns/\atI (ns.map V.int) i=some (V.int x):=by
 have hlt:i.toNat<ns.length:=by omega
 refine⟨ns[i.toNat],by simp,df _,?_⟩
 have h:=iZ (xs:=ns.map V.int) (j:=i.toNat) (v:=V.int ns[i.toNat]) (by rw[ax];simp)
 have e1:((i.toNat:Nat):Int)=i:=by omega
 rw[e1]at h
 exact h
end TL
namespace L2
open PySem PySem.Spec PySem.Calls PyProof.Rows PySem.W
section
variable {prog:Program}{w:World}{A:Around}{E:Value->Shared->Prop}{s:Shared}{K:Frag}{a C:Addr}{o:Obj}
theorem xty {M:Model}{h:Heap}(hx:h.get? a=some o)(hc:o.cls = .ref C):Looks M h (typeOf (.ref a)) (.ref C):=hc ▸ (Looks.ld hx).andThen .now
open Builtin Builtin.ObjectAttr Builtin.Getset_descriptor in
theorem rH {R:Result->Shared->Prop}{tp:Value}(X:K.In s.heap)(hx:s.heap.get? a=some o)(hc:o.cls = .ref C)(hm:mroIn K C (.type "object")=some true)
  (h:R (.ok (.ret (.ref C))) s):codeAny (model prog w) A (.call (.builtin "getset_descriptor.__get__") ⟨[.builtin "object.__class__",.ref a,tp],[]⟩) R s:=by
 obtain⟨hh,g,dr,t,os⟩:=s
 have L0:=xty (M:=model prog w) hx hc
 have L1:=looks_mroIn (M:=model prog w) X hm
 refine codeAny_call_builtin KF.slot_gs.plain KF.entry_gs (KF.slot_gs.check _ _ _ _ _ _ _ _ KF.type_class (KF.args_gs _ _ _) ?_)
 unfold Builtin.«getset_descriptor.__get__» descrGet
 rw[dga_obj]
 refine au (aS ?_)
 unfold descrGetter descrCheckInstance descrNameAndClass isInstance
 simp only[KF.owner_class]
 repeat lk
 refine⟨Code.quiet_builtin _ (by decide +kernel),codeAny_builtin KF.entry_class ?_⟩
 unfold Builtin.«object.__class__» shownTypeOf
 repeat lk
 exact h
theorem o5 {tk:Tok}{Q:PySem.Fin->Shared->Prop}(X:K.In s.heap)(hx:s.heap.get? a=some o)(hc:o.cls = .ref C)(hm:mroIn K C (.type "object")=some true)
  (ha:findIn K (.ref C) "__class__" = some (some (.builtin "object.__class__"))) (hq:Q (.done (.ret (.ref C))) s):
  wpAny (model prog w) A (Builtin.«object.__getattribute__» ⟨[.ref a,.str "__class__" tk],[]⟩) Q E s:=by
 obtain⟨h,g,d,t,os⟩:=s
 have hT5:(⟨h,g,d,t,os⟩:Shared).TypeIs (.builtin "object.__class__") "getset_descriptor" :=F.typeOf_object_class
 have L0:=xty (M:=model prog w) hx hc
 have L1:=looks_findIn (M:=model prog w) X ha
 have f5:=F.typeOf_object_class
 have f6:=F.slot_gs_get.lookup
 have f7:=F.slot_gs_set.lookup
 repeat (any_goals (first |assumption |with_reducible refine L0.at ?_ |with_reducible refine L1.at ?_ |(with_reducible refine wpAny_loadPart_at hx ?_;rw[hc])|wp_step))
 refine rH (K:=K) X hx hc hm ?_
 repeat (any_goals (first |assumption |wp_step))
theorem o6 {M:Model}{sO:Value}{Q:Unit->Shared->Prop}(X:K.In s.heap)(hx:s.heap.get? a=some o)(hc:o.cls = .ref C)(hb:mroIn K C (.type "BaseException")=some true)(hq:Q () s):
  wpAny M A (checkBuiltinCall "BaseException.__getattribute__" ⟨[.ref a,sO],[]⟩) Q E s:=by
 obtain⟨h,g,d,t,os⟩:=s
 have hk:builtinKind "BaseException.__getattribute__" = some .slot:=by decide +kernel
 have uf:splitId "BaseException.__getattribute__" = some ("BaseException","__getattribute__"):=by decide +kernel
 have ha:=F.args_bexc_ga (.ref a) sO
 have L0:=xty (M:=M) hx hc
 have L1:=looks_mroIn (M:=M) X hb
 simp only[checkBuiltinCall,hk,uf]
 refine au ?_
 ·unfold isInstance
  repeat (first |with_reducible refine L0.at ?_ |with_reducible refine L1.at ?_ |wp_step)
  exact hq
theorem pV {tk:Tok}{R:Result->Shared->Prop}(X:K.In s.heap)(hx:s.heap.get? a=some o)(hc:o.cls = .ref C)(hm:mroIn K C (.type "object")=some true)(hb:mroIn K C (.type "BaseException")=some true)
  (ha:findIn K (.ref C) "__class__" = some (some (.builtin "object.__class__"))) (hq:R (.ok (.ret (.ref C))) s):
  codeAny (model prog w) A (.call (.builtin "BaseException.__getattribute__") ⟨[.ref a,.str "__class__" tk],[]⟩) R s:=
 codeAny_call_builtin (by decide +kernel) F.entry_bexc_ga (o6 X hx hc hb (o5 X hx hc hm ha hq))
theorem tj {tk:Tok}{Q:Value->Shared->Prop}(X:K.In s.heap)(hx:s.heap.get? a=some o)(hc:o.cls = .ref C)(hm:mroIn K C (.type "object")=some true)(hb:mroIn K C (.type "BaseException")=some true)
  (ha:findIn K (.ref C) "__class__" = some (some (.builtin "object.__class__"))) (hg:findIn K (.ref C) "__getattribute__" = some (some (.builtin "BaseException.__getattribute__"))) (hn:findIn K (.ref C) "__getattr__" = some none)
  (hq:Q (.ref C) s):wpAny (model prog w) A (getAttrBy (.ref a) (.str "__class__" tk) false) Q E s:=by
 have X':=X
 have hx':=hx
 obtain⟨h,g,d,t,os⟩:=s
 have f3:=PySem.F.attr_ValueError.ga.bind (.ref a)
 have hx2:(Value.builtin "BaseException.__getattribute__" == Value.builtin "object.__getattribute__")=false:=by decide +kernel
 have hx1:(onTheHeap (Value.ref C)&&Value.builtin "BaseException.__getattribute__" == Value.builtin "object.__getattribute__")=false:=by rw[hx2];rfl
 have L0:=xty (M:=model prog w) hx hc
 have L1:=looks_findIn (M:=model prog w) X hg
 have L2:=looks_findIn (M:=model prog w) X hn
 repeat (any_goals (first |assumption |with_reducible refine L0.at ?_ |with_reducible refine L1.at ?_ |with_reducible refine L2.at ?_ |wp_step))
 refine pV (K:=K) X' hx' hc hm hb ha ?_
 repeat (any_goals (first |assumption |wp_step))
theorem pW {Q:Option Value->Shared->Prop}(X:K.In s.heap)(hx:s.heap.get? a=some o)(hc:o.cls = .ref C)(hm:mroIn K C (.type "object")=some true)(hb:mroIn K C (.type "BaseException")=some true)
  (ha:findIn K (.ref C) "__class__" = some (some (.builtin "object.__class__"))) (hg:findIn K (.ref C) "__getattribute__" = some (some (.builtin "BaseException.__getattribute__"))) (hn:findIn K (.ref C) "__getattr__" = some none)
  (hq:Q (some (.ref C)) {s with toks:=s.toks+1}):wpAny (model prog w) A (getAttr? (.ref a) "__class__") Q E s:=by
 have X':=X
 have hx':=hx
 obtain⟨h,g,d,t,os⟩:=s
 unfold getAttr? getAttrBy?
 repeat (any_goals (first |assumption |with_reducible apply tj (K:=K) (s:=⟨h,g,d,t+1,os⟩) X' hx' hc hm hb ha hg hn |wp_step))
structure ExC (K:Frag)(C:Addr):Prop where
 obj:mroIn K C (.type "object")=some true
 bex:mroIn K C (.type "BaseException")=some true
 cls:findIn K (.ref C) "__class__" = some (some (.builtin "object.__class__"))
 ga:findIn K (.ref C) "__getattribute__" = some (some (.builtin "BaseException.__getattribute__"))
 gn:findIn K (.ref C) "__getattr__" = some none
 isc:(clsIn K C).isSome=true
def XAt (a:Addr)(C:Addr)(h:Heap):Prop:=∃ o,h.get? a=some o/\o.cls = .ref C
theorem qO (e:ExC K C):KitX K (.ref a) (.ref C) (XAt a C) where
 ty:=λ_ _ _ ⟨_,h1,h2⟩=>xty h1 h2
 it:=λ_ _ X _=>by
  have hC:=e.isc
  unfold clsIn at hC
  split at hC
  ·rename_i c' d' cd' sl' ho
   intro A' Q' E' s' k q
   unfold isType loadHead
   exact au (wpAny_loadPart (k _ _ (X _ _ ho)) (aS q))
  ·cases hC
 ne:=λh tp dd its n sl X htp=>by
  have hC:=e.isc
  refine Bool.eq_false_iff.mpr λq=>?_
  have e':C=tp:=Value.ref.inj (beq_iff_eq.mp q)
  subst e'
  unfold clsIn at hC
  split at hC
  ·rename_i c' d' cd' sl' ho
   have z:=(X _ _ ho).symm.trans htp
   cases z
  ·cases hC
 ca:=λX ⟨_,h1,h2⟩ k=>pW X h1 h2 e.obj e.bex e.cls e.ga e.gn k
end
section
variable {P:Program}{w:World}{H H1:Hp}{h:Heap}{a:Addr}{o:HO}
theorem fH.some (x:fH P w H h a o):∃ u,h.get? a=Option.some u:=by
 cases o with
 |lst xs=>obtain⟨_,_,_,_,e⟩:=x;exact⟨_,e⟩
 |tup xs=>obtain⟨_,_,_,p⟩:=x;obtain⟨u,e,_⟩:=p;exact⟨u,e⟩
 |dK kvs=>obtain⟨_,_,_,_,o,_,_,e,_⟩:=x;exact⟨_,e⟩
 |dT kvs=>obtain⟨_,_,_,_,o,_,_,e,_⟩:=x;exact⟨_,e⟩
 |set S n=>obtain⟨o,_,_,_,e,_⟩:=x;exact⟨_,e⟩
 |ins C dx fs=>obtain⟨_,_,_,e,_⟩:=x;exact⟨_,e⟩
 |own y=>obtain⟨_,e⟩:=x;exact⟨_,e⟩
 |xd fs=>obtain⟨_,⟨_,_,_,e,_⟩,_⟩:=x;exact⟨_,e⟩
 |rng lo hi=>obtain⟨_,_,_,e⟩:=x;exact⟨_,e⟩
 |frz ob u=>obtain⟨e,_⟩:=x;exact⟨_,e⟩
 |tbl ps=>exact⟨_,(show h.get? a=Option.some _ from x)⟩
 |met f y=>exact⟨_,(show h.get? a=Option.some _ from x)⟩
 |ext φ=>obtain⟨_,⟨_,e⟩,_⟩:=x;exact⟨_,e⟩
theorem HOk.none_of (x:HOk P w H h)(e:h.get? a=Option.none):H a=Option.none:=by
 cases q:H a with
 |none=>rfl
 |some u=>obtain⟨v,z⟩:=(x a u q).some;rw[e]at z;cases z
end
structure Fl0 (P:Program)(w:World)(base:Heap)(l:List Env)(H H1:Hp)(h0 B h:Heap):Prop where
 bas:base.StaysIn B
 hok:HOk P w H1 B
 kp:∀ b o,h0.get? b=some o->H b=none->b∉frs l->B.get? b=some o
 thr:∀ b o,h0.get? b=some o->b∉frs l->∃ o',B.get? b=some o'
 un:Un (frs l) [] H H1 h0 h
theorem Fl0.step {P:Program}{w:World}{base:Heap}{l:List Env}{H H1:Hp}{h0 B h h':Heap}(x:Fl0 P w base l H H1 h0 B h)(st:B.StaysIn h')(ff:h.FunFrames B l)(ff':h'.FunFrames B l)(sm:h.UpToSlots h'):
  Fl0 P w base l H H1 h0 B h':=by
 refine⟨x.bas,x.hok,x.kp,x.thr,⟨λb o q n hb _=>st b o (x.kp b o q n hb),λb o q n hb _=>?_,x.un.free,λb o q _=>?_,x.un.jt,x.un.ji,x.un.ju⟩⟩
 ·obtain⟨sl,e⟩:=x.un.slot b o q n hb (by simp)
  obtain⟨_,o2,e2,nf⟩:=ff.mem hb
  rw[e]at e2;cases e2
  obtain⟨sl',e'⟩:=sm b _ e nf
  exact⟨sl',e'⟩
 ·by_cases hb:b∈frs l
  ·obtain⟨_,o2,e2,_⟩:=ff'.mem hb
   exact⟨o2,e2⟩
  ·obtain⟨o',e⟩:=x.thr b o q hb
   exact⟨o',st b o' e⟩
structure Fl (P:Program)(w:World)(base:Heap)(l:List Env)(H H1:Hp)(h0:Heap)(e C:Addr)(B h:Heap):Prop extends Fl0 P w base l H H1 h0 B h where
 fly:∃ a0,Heap.FlyingW B l e (.ref C) a0 h
def CXr (P:Program)(w:World)(base:Heap):CXT:=λl H s E ev s'=>
 ∃ e C H1 B,ev = .ref e/\s'.os=s.os/\AllBare s'.gens/\Fl P w base l H H1 s.heap e C B s'.heap/\E (.ref C) (some e) H1
section
variable {X:Cx}{pins:List (Addr×Obj)}{σ:St}{H H1:Hp}{s s':Shared}{e C:Addr}{B:Heap}
theorem Fl.inv (x:Fl X.prog X.w X.base X.stack H H1 s.heap e C B s'.heap)(I:Inv X pins σ H s)(ho:s'.os=s.os)(hg:AllBare s'.gens):Inv X pins σ H1 s':=by
 obtain⟨a0,f⟩:=x.fly
 exact I.sW (ch:=[]) ho x.un (x.hok.kept f.1) hg (λb z=>absurd z (by simp))
theorem qh {M:Model}{E:Value->Shared->Prop}{Q:Unit->Shared->Prop}{h':Heap}{vs:List Value}(I:Inv X pins σ H s)(hst:X.stack=X.env::X.outer)(hf:X.env.frame=some X.env.locals)(hex:X.ex = [])
  (hx:Heap.MadeExcOf s.heap h' e (.ref C) vs) (hQ:∀ B h'',Fl X.prog X.w X.base X.outer X.H₀ H X.s₀.heap e C B h''->Q () {s with heap:=h''}):
  wpAny M X.A (leaving X.env (.ref e)) Q E {s with heap:=h'} :=by
 have hfr:=I.ok.frames
 rw[hst]at hfr
 have sf:=I.stack
 rw[hst]at sf
 have hin:∀ env∈(X.env::X.outer),∀ b,env.frame=some b->b∈frs (X.env::X.outer):=λenv he b hb=>List.mem_filterMap.mpr ⟨env,he,hb⟩
 have nb:∀ b,b≠X.env.locals->b∉X.fs->b∉frs (X.env::X.outer):=λb h1 h2 hb=>by
  unfold frs at hb
  rw[cP,hf]at hb
  rcases aJ.mp hb with z |z
  ·exact h1 z
  ·exact h2 z
 have neL:∀ b o,X.s₀.heap.get? b=some o->b≠X.env.locals:=λb o e=>aV (aI (aA e) I.ok.above)
 refine wpAny_leaves_madeW (base:=hideAll s.heap (frs (X.env::X.outer))) hfr hf (λb o q=>of_hideAll _ q) (funFrames_hide sf hin) hx λh'' t x1 x2 x3 x4=>?_
 have hok:HOk X.prog X.w H (hideAll s.heap (frs (X.env::X.outer))):=λb u q=>by
  refine(I.hok b u q).lV (λc v hc z=>hideAll_get _ z λhm=>?_) (λ_ z=>z) λ_ _ z=>z
  have hn:H c=none:=I.lU c (by rw[hst];exact hm)
  rcases hc with rfl |hc
  ·rw[hn]at q;cases q
  ·rw[hn]at hc;cases hc
 have z0:Fl0 X.prog X.w X.base X.outer X.H₀ H X.s₀.heap (hideAll s.heap (frs (X.env::X.outer))) h':=by
  have ub:Un X.fs [] X.H₀ H X.s₀.heap s.heap:=by have:=I.base;rw[hex]at this;exact this
  refine⟨λb o q=>hideAll_get _ (I.bk b o q) λhm=>?_,hok,λb o q n hb=>hideAll_get _ (ub.keep b o q n hb (by simp)) (nb b (neL b o q) hb),λb o q hb=>?_,ub.trans (Un.kept hx.keeps)⟩
  ·have:=(sf.mem hm).1
   rw[q]at this;cases this
  ·obtain⟨o',e1⟩:=ub.there b o q (by simp)
   exact⟨o',hideAll_get _ e1 (nb b (neL b o q) hb)⟩
 have ff:h'.FunFrames (hideAll s.heap (frs (X.env::X.outer))) X.outer:=by
  obtain⟨_,_,z⟩:=(funFrames_hide sf hin).of_keeps λb o hb _=>⟨o,hx.keeps b o hb,rfl⟩
  exact z
 exact hQ _ h'' ⟨z0.step x1.1 ff x1.2.2.1 x4,_,x1⟩
end
section
variable {P:Program}{w:World}{K:PySem.W.Frag}{mg:Str->Option Value}{base:Heap}{N:List Str}{qual:Str}{scope:Scope}{f:Addr}{cd:Value}{A:Around}{outer:List Env}{s₀:Shared}{H₀:Hp}{E:XK}
def Raises (X:Cx)(E:XK):Prop:=∀ (pins:List (Addr×Obj)) (σ:St) (H:Hp) (s:Shared) (h':Heap) (e C:Addr) (vs:List Value),Inv X pins σ H s->Heap.MadeExcOf s.heap h' e (.ref C) vs->E (.ref C) (some e) H->X.xe (.ref e) {s with heap:=h'}
theorem pB:Raises (nz (CXr P w base) P w K mg base N qual scope f cd A outer s₀ H₀ E) E:=λpins σ H s h' e C vs I hx q=>
 qh I rfl rfl rfl hx λB h'' z=>⟨e,C,H,B,rfl,I.os,I.bare,z,q⟩
end
theorem sk {K:Frag}{h:Heap}{C:Addr}{bmB:List Value}{newId:String}(X:K.In h)(q:excIn K C bmB newId=true):
  ∃ bm N nm qn bs hdct sn sub ab col dd k0 k1 k2 k3 k5 mN,h.get? C=some (excClassObj nm qn C N bs bm hdct sn sub ab col dd k0 k1 k2 k3 k5 newId)/\h.Ns N mN/\mN "__init__" = none/\OwnTail h bmB bm:=by
 unfold excIn at q
 split at q
 ·rename_i d1 c1 l1 lk
  split at q
  ·rename_i D1 tl j0 j1 j2 j3 nn j5 e1 e2
   simp only[cG,beq_iff_eq,Bool.not_eq_true']at q
   obtain⟨⟨⟨⟨⟨q1,q2⟩,q3⟩,q4⟩,q5⟩,q6⟩:=q
   subst q1 q2
   cases c1
   dsimp only at e1 q3 q5 q6
   subst e1 q3
   cases l1
   dsimp only at e2
   subst e2
   exact⟨tl,_,_,_,_,_,_,_,_,_,d1,j0,j1,j2,j3,j5,_,X _ _ lk,.of_isNs (isNs_of_in X q5),nsMap_none_of_in X q5 q6,tail_of_in X q4⟩
  ·cases q
 ·cases q
section
variable {X:Cx}{E:XK}{x:Str}{np hV pos:Pos}{C:Addr}{bmB:List Value}{Bn newId t9:String}{e₀:Expr}{rest:List Expr}{ta:TA}
def tq (C:Addr)(E:XK)(ta:TA):TS:=λ_ σ H=>ta σ H λvs H1=>vs.length<=sizeLine/\∀ e,H1 e=none->E (.ref C) (some e) H1
theorem qm (hR:Raises X E)(hc:X.calm=true)(hg:Gl X x)(hm:X.mg x=some (.ref C))(q:excIn X.K C bmB newId=true)(FB:ExcBaseFacts Bn newId t9 bmB)(ha:PA X (e₀::rest) ta)
  (he:starEach (e₀::rest) X.env=(false,eval e₀ X.env)::starEach rest X.env:=by rfl) (hpl:(backTo hV (starEach rest X.env)).any (·.1)=false:=by rfl) (hd:(x==("__debug__" :Str))=false:=by decide):
  PS X (.Raise (some (.Call (.Name x np) (e₀::rest) [] hV)) none pos) (tq C E ta):=by
 intro pins s σ H D I h
 obtain⟨tl,N,nm,qn,bs,hdct,sn,sub,ab,col,dd,k0,k1,k2,k3,k5,mN,hC,hN,hni,T⟩:=sk I.mod.kin q
 refine wpAny_Raise_call_subT (C:=C) (nm:=nm) (q:=qn) (N:=N) (bs:=bs) (bm:=tl) (hdct:=hdct) (sn:=sn) (sub:=sub) (ab:=ab) (col:=col) (dd:=dd) (k0:=k0) (k1:=k1) (k2:=k2) (k3:=k3) (k5:=k5)
  FB (mN:=mN) (T.hasType FB.hasBase) (I.ok.hd hc) (by rw[he];show(false||(backTo hV (starEach rest X.env)).any (·.1))=false;rw[hpl];rfl) hni (iV I hg hm ⟨rfl,?_⟩ hd)
 have h2:=ha hV pins s σ H _ I h
 rw[he]at h2 ⊢
 exact Calls.evalArgs_plain (bF h2 (λus s1 ⟨vs,H1,I1,r,z1,z2⟩=>⟨rfl,r.length ▸ z1,I1.bk _ _ hC,hN.keeps I1.bk,T.keeps I1.bk,λh' e hx=>hR pins σ H1 s1 h' e C us I1 hx (z2 e (I1.hok.none_of hx.new))⟩) λ_ _ y=>y)
end
def og (e C:Addr):HO:=.ext (XAt e C)
theorem sq {P:Program}{w:World}{H:Hp}{h:Heap}{e C:Addr}{o:Obj}(ho:h.get? e=some o)(hc:o.cls = .ref C):fH P w H h e (og e C):=
 ⟨⟨o,ho,hc⟩,⟨o,ho⟩,λh1 h2 ⟨o',e1,e2⟩ k=>⟨o',k o' e1,e2⟩⟩
section
variable {X:Cx}{pins:List (Addr×Obj)}{σ:St}{H H1:Hp}{s s':Shared}{e C:Addr}{B:Heap}
theorem Inv.uJ {u:HO}(I:Inv X pins σ H s)(hn:H e=none)(h0:X.s₀.heap.get? e=none)(ho:fH X.prog X.w (upd H e u) s.heap e u)(nl:e≠X.env.locals)(nc:∀ x c,X.env.cells.lookup x=some c->c≠e)
  (np:∀ p∈X.pn++pins,p.1≠e):Inv X pins σ (upd H e u) s:=by
 have ne0:∀ b o,X.s₀.heap.get? b=some o->b≠e:=λb o q z=>by rw[z,h0]at q;cases q
 have neT:∀ b v,H b=some v->b≠e:=λb v q z=>by rw[z,hn]at q;cases q
 refine⟨I.ok,I.os,I.bare,⟨I.base.keep,I.base.slot,λb o q n hx=>?_,I.base.there,λb xs q=>?_,λb o v q=>?_,λb ps q=>?_⟩,I.loc,I.cell,?_,λx c q=>?_,λp hp=>?_,λb v q=>?_,I.len⟩
 ·rw[dG (ne0 b o q)];exact I.base.free b o q n hx
 ·have z:=I.base.jt b xs q;rw[dG (neT _ _ z)];exact z
 ·have z:=I.base.ji b o v q;rw[dG (neT _ _ z)];exact z
 ·obtain⟨m,z⟩:=I.base.ju b ps q;exact⟨m,by rw[dG (neT _ _ z)];exact z⟩
 ·rw[dG (cH nl)];exact I.free
 ·rw[dG (nc x c q)];exact I.fV x c q
 ·obtain⟨z1,z2,z3⟩:=I.pin p hp
  exact⟨z1,by rw[dG (np p hp)];exact z2,z3⟩
 ·by_cases hb:b=e
  ·subst hb;rw[di]at q;cases q;exact ho
  ·rw[dG hb]at q
   exact(I.hok b v q).lV (λ_ _ _ z=>z) (λc z=>by rw[dG (neT _ _ z)];exact z) λc xs z=>by rw[dG (neT _ _ z)];exact z
theorem Fl.kept (x:Fl X.prog X.w X.base X.stack H H1 s.heap e C B s'.heap)(I:Inv X pins σ H s)(hex:X.ex = [])(ho:s'.os=s.os)(hg:AllBare s'.gens):Inv X pins σ (upd H1 e (og e C)) s':=by
 have J:=x.inv I ho hg
 obtain⟨a0,f⟩:=x.fly
 obtain⟨oe,vs,he,hc,hd,_⟩:=f.first
 have nB:B.get? e=none:=f.2.1
 have nfr:e∉frs X.stack:=λhm=>by
  obtain⟨_,o,z,nf⟩:=f.2.2.1.mem hm
  rw[he]at z;cases z;exact nf vs hd
 refine J.uJ (x.hok.none_of nB) ?_ (sq he hc) ?_ (λy c q z=>?_) λp hp z=>?_
 ·cases q:X.s₀.heap.get? e with
  |none=>rfl
  |some o=>
   obtain⟨o',z⟩:=I.base.there e o q (by rw[hex];simp)
   obtain⟨o2,z2⟩:=x.thr e o' z nfr
   rw[nB]at z2;cases z2
 ·rintro rfl
  obtain⟨m,⟨o,es,ep,z,hd',_⟩,_⟩:=J.loc
  rw[he]at z;cases z;rw[hd]at hd';cases hd'
 ·subst z
  obtain⟨v,o,z,hd'⟩:=J.cell y _ q
  rw[he]at z;cases z;rw[hd]at hd';cases hd'
 ·obtain⟨z1,z2,z3,z4,_⟩:=I.pin p hp
  have z5:=x.kp p.1 p.2 z1 z2 λhm=>(aJ.mp (I.km _ hm)).elim z3 z4
  rw[z,nB]at z5;cases z5
abbrev Cx.iI (X:Cx)(e:Addr):Cx:={X with A:=X.A.mark (some (.ref e)),calm:=false,xe:=λ_ _=>False}
theorem Inv.iI (I:Inv X pins σ H s)(e:Addr):Inv (X.iI e) pins σ H s:=
 ⟨⟨I.ok.mod,I.ok.kind,I.ok.glob,I.ok.blt,I.ok.above,I.ok.inj,I.ok.has,I.ok.cab,(λz=>nomatch z),I.ok.frames,I.ok.stk,I.ok.exf,I.ok.bs,I.ok.bsz,I.ok.nS,I.ok.pK,I.ok.jT,I.ok.frf⟩,I.os,I.bare,I.base,I.loc,I.cell,I.free,I.fV,I.pin,I.hok,I.len⟩
theorem Inv.uncaught (I:Inv (X.iI e) pins σ H s)(ok:X.Ok):Inv X pins σ H s:=⟨ok,I.os,I.bare,I.base,I.loc,I.cell,I.free,I.fV,I.pin,I.hok,I.len⟩
theorem name_goes {M:Model}{A:Around}{E:Value->Shared->Prop}{j:Nat}{n:Str}{pos:Pos}{Q:Unit->Shared->Prop}(I:Inv X pins σ H s)(hN:X.N.Nodup)(hj:X.N[j]? = some n)(hk:X.env.scope.names.lookup n=some .local)
  (h:∀ s',Inv X pins (σ.set j none) H s'->Q () s'):wpAny M A (do bindName X.env n .none;unbindBehindTheSuite X.env n pos) Q E s:=by
 obtain⟨m,hn,hl⟩:=id I.loc
 have uo:(X.env.scope.kind == .class||(X.env.scope.kind == .module&&X.env.locals !=X.env.globals))=false:=by rw[I.ok.kind];rfl
 have hjσ:j<σ.length:=by rw[I.len];exact(af.mp hj).1
 refine wpAny_nameGoes_keeps hk hn uo λh' v hn' hs=>h _ ?_
 have ne0:∀ b o,X.s₀.heap.get? b=some o->h'.get? b=s.heap.get? b:=λb o e=>hs.2 b (aV (aI (aA e) I.ok.above))
 refine⟨I.ok,I.os,I.bare,⟨λb o e n hb hx=>(ne0 b o e).trans (I.base.keep b o e n hb hx),λb o e n hb hx=>?_,I.base.free,λb o e hx=>?_,I.base.jt,I.base.ji,I.base.ju⟩,⟨_,hn',λi y v' e1 e2 e3=>?_⟩,
  λy c e=>?_,I.free,I.fV,λp hp=>?_,λb u e=>?_,by simpa using I.len⟩
 ·obtain⟨sl,z⟩:=I.base.slot b o e n hb hx
  exact⟨sl,(ne0 b o e).trans z⟩
 ·obtain⟨o',z⟩:=I.base.there b o e hx
  exact⟨o',(ne0 b o e).trans z⟩
 ·have hij:i≠j:=λz=>by subst z;rw[List.getElem?_set_self hjσ]at e2;cases e2
  rw[cK (cH hij)]at e2
  obtain⟨u',r',z⟩:=hl i y v' e1 e2 e3
  have ny:y≠n:=λz=>hij (kH hN e1 (z ▸ hj))
  refine⟨u',r',?_⟩
  rcases z with⟨k,z⟩|⟨k,c,z1,z2⟩
  ·exact .inl ⟨k,by show(if y=n then v else m y)=_;rw[az ny];exact z⟩
  ·exact .inr ⟨k,c,z1,z2.sameBut hs (I.cne y c z1)⟩
 ·obtain⟨v',z⟩:=I.cell y c e
  exact⟨v',z.sameBut hs (I.cne y c e)⟩
 ·obtain⟨z1,z2,z3,z4,z5⟩:=I.pin p hp
  exact⟨(hs.2 p.1 z3).trans z1,z2,z3,z4,z5⟩
 ·refine(I.hok b u e).lV (λc v hc q=>(hs.2 c ?_).trans q) (λ_ q=>q) λ_ _ q=>q
  rintro rfl
  rcases hc with rfl |hc
  ·rw[I.free]at e;cases e
  ·rw[I.free]at hc;cases hc
end
theorem ti {M:Model}{A:Around}{E:Value->Shared->Prop}{K:Frag}{s:Shared}{e C D:Addr}{oe:Obj}{Q:Bool->Shared->Prop}(X:K.In s.heap)(he:s.heap.get? e=some oe)(hc:oe.cls = .ref C)
  (hty:typeIn K (.ref D)=some (.type "type")) (um:(clsIn K D).isSome=true) (hb:mroIn K D (.type "BaseException")=some true) (hm:mroIn K C (.ref D)=some true) (hq:Q true s):
  wpAny M A (excMatches (.ref e) (.ref D)) Q E s:=by
 obtain⟨h,g,d,t,os⟩:=s
 have L0:=xty (M:=M) he hc
 have L1:=looks_mroIn (M:=M) X hb
 have L2:=looks_mroIn (M:=M) X hm
 have L3:=looks_typeIn (M:=M) X hty
 have f:=tc_notTuple
 unfold clsIn at um
 split at um
 ·rename_i c' d' cd' sl' ho
  have hD:=X _ _ ho
  unfold excMatches
  repeat (first |with_reducible refine L0.at ?_ |with_reducible refine L3.at ?_ |with_reducible refine L1.at ?_ |with_reducible refine L2.at ?_ |with_reducible refine wpAny_loadPart_at hD ?_ |wp_step)
  exact hq
 ·cases um
def oY (CX:CXT)(X:Cx)(E:St->XK):Prop:=∀ (pins:List (Addr×Obj)) (σ:St) (H:Hp) (s:Shared) (e:Value) (s':Shared),Inv X pins σ H s->CX X.stack H s (E σ) e s'->X.xe e s'
def tu (sp:Sp)(dvs:List V)(E:St->XK)(t:TA):TE:=λσ H Q=>t σ H λvs H1=>sp (vs++dvs) H1 Q (E σ)
section
variable {X:Cx}{CX:CXT}{k:Nat}{f:Addr}{fd:FuncData}{ps:List Str}{sp:Sp}{dvs:List V}{ds:List Value}{E:St->XK}{x:Str}{p pos:Pos}{e:Expr}{es:List Expr}{t:TA}
theorem qq (F:d8 X.prog X.w X.K X.mg X.base CX k f fd ps sp)(hr:hJ k X.A)(hg:Gl X x)(hm:X.mg x=some (.ref f))(hk:PySem.W.keepIn X.K (.ref f)=true)(hb:Binds X.K fd ps ds)(hd:Vals dvs ds)(hx:oY CX X E)
  (ha:PA X (e::es) t) (hdb:(x==("__debug__" :Str))=false:=by decide) (he:starEach (e::es) X.env=(false,eval e X.env)::starEach es X.env:=by rfl) (hpl:(backTo pos (starEach es X.env)).any (·.1)=false:=by rfl):
  PE X (.Call (.Name x p) (e::es) [] pos) (tu sp dvs E t):=by
 intro pins s σ H Q I h
 refine dc (iV I hg hm ?_ hdb)
 refine PySem.W.callWith_K (h₀:=X.base) I.ok.mod.kin hk (thn (ha pos pins s σ H _ I h) λus s1 ⟨vs,H1,I1,r,q⟩=>⟨I1.kIn,?_⟩) he hpl
 have r2:Vals (vs++dvs) (us++ds):=r.append hd
 have hl:(us++ds).length=ps.length:=by rw[<-r2.length];exact F.len _ _ _ _ q
 refine wpAny_call (codeAny_mono (F.run X.A X.stack s1 H1 ⟨us,[]⟩ (us++ds) (vs++dvs) Q (E σ) hr I1.vT (hb s1 us I1.kIn hl) r2 q) λr s' hq=>?_)
 cases r with
 |error e=>exact hx pins σ H1 s1 e s' I1 hq
 |ok fl=>
  cases fl with
  |ret u=>exact I1.after hq
  |next=>exact False.elim hq
  |brk=>exact False.elim hq
  |cont=>exact False.elim hq
end
abbrev Cx.jJ (X:Cx)(pn:List (Addr×Obj))(W:Value->Shared->Prop):Cx:={X with pn:=X.pn++pn,xe:=W}
section
variable {X:Cx}{pins pn:List (Addr×Obj)}{σ:St}{H:Hp}{s:Shared}{W:Value->Shared->Prop}
theorem Inv.jJ (I:Inv X pins σ H s)(W:Value->Shared->Prop):Inv (X.jJ pins W) pins σ H s:=
 ⟨⟨I.ok.mod,I.ok.kind,I.ok.glob,I.ok.blt,I.ok.above,I.ok.inj,I.ok.has,I.ok.cab,I.ok.hd,I.ok.frames,I.ok.stk,I.ok.exf,I.ok.bs,I.ok.bsz,I.ok.nS,I.ok.pK,I.ok.jT,I.ok.frf⟩,I.os,I.bare,I.base,I.loc,I.cell,I.free,I.fV,
  (λp hp=>I.pin p (by
   rcases aP.mp hp with z |z
   ·exact z
   ·exact aP.mpr (.inr z))),I.hok,I.len⟩
theorem Inv.mQ (I:Inv (X.jJ pn W) pins σ H s)(ok:X.Ok):Inv X pn σ H s:=
 ⟨ok,I.os,I.bare,I.base,I.loc,I.cell,I.free,I.fV,(λp hp=>I.pin p (aP.mpr (.inl hp))),I.hok,I.len⟩
end
structure mM (K:Frag)(D C:Addr):Prop where
 ty:typeIn K (.ref D)=some (.type "type")
 isc:(clsIn K D).isSome=true
 bex:mroIn K D (.type "BaseException")=some true
 mro:mroIn K C (.ref D)=some true
abbrev Ends.gone (D:Ends)(j:Nat):Ends:={nx:=λσ H=>D.nx (σ.set j none) H,rt:=D.rt,bk:=λσ H=>D.bk (σ.set j none) H,ct:=λσ H=>D.ct (σ.set j none) H}
def vU (K:Frag)(D:Addr)(j:Nat)(th:TS)(Z:Ends):St->XK:=λσ c a H=>∃ e C,a=some e/\c = .ref C/\mM K D C/\th (Z.gone j) (σ.set j (some (.ref e))) (upd H e (og e C))
def wm (K:Frag)(D:Addr)(j:Nat)(tb:(St->XK)->TS)(th:TS):TS:=λZ σ H=>tb (vU K D j th Z) Z σ H
section
variable {X:Cx}{body ox:List Stmt}{b₀:Stmt}{x n:Str}{np uh pos:Pos}{D:Addr}{j:Nat}{tb:(St->XK)->TS}{th:TS}
theorem tK (hst:X.stack=X.env::X.outer)(hfr:X.env.frame=some X.env.locals)(hex:X.ex = [])(hN:X.N.Nodup)(hj:X.N[j]? = some n)(hn:X.env.scope.names.lookup n=some .local)(hg:Gl X x)(hm:X.mg x=some (.ref D))
  (hb:∀ pn W (E:St->XK),oY (CXr X.prog X.w X.base) (X.jJ pn W) E->PSs (X.jJ pn W) body (tb E)) (hs:∀ e,PSs (X.iI e) (b₀::ox) th) (hd:(x==("__debug__" :Str))=false:=by decide):
  PS X (.Try body [.ExceptHandler (some (.Name x np)) (some n) (b₀::ox) uh] [] [] pos) (wm X.K D j tb th):=by
 intro pins s σ H Z I h
 refine wpAny_Try_except ?_
 refine bF (hb pins (λe s₁=>wpAny (model X.prog X.w) X.A (noteFrame e X.env) (λ_ s₂=>wpAny (model X.prog X.w) X.A (setFlight e none) (λ_ s₃=>wpAny (model X.prog X.w) X.A (handleBy e X.env [.ExceptHandler (some (.Name x np)) (some n) (b₀::ox) uh]) (SP X pins Z) X.xe s₃) X.xe s₂) X.xe s₁)
  (vU X.K D j th Z) ?_ pins s σ H Z (I.jJ _) h) (λf s1 q=>?_) λe s1 q=>q
 ·intro kC σ1 H1 s1 ev s2 I1' hx
  have I1:Inv X pins σ1 H1 s1:=I1'.mQ I.ok
  obtain⟨e,C',H2,B,rfl,ho,sQ,x0,e',C,z1,z2,cat,q⟩:=hx
  obtain rfl:e=e':=bw z1
  obtain rfl:C'=C:=by injection z2
  have x0:Fl X.prog X.w X.base X.stack H1 H2 s1.heap e C' B s2.heap:=x0
  obtain⟨a0,f0⟩:=x0.fly
  have vK:=I.ok.frames
  rw[hst]at vK
  have f0':=f0
  rw[hst]at f0'
  show wpAny (model X.prog X.w) X.A (noteFrame (.ref e) X.env) _ _ s2
  refine wpAny_looks_onW vK hfr f0' λh4 hh4 sm4=>?_
  refine wpAny_landsW hh4 λh5 f5 sm5=>?_
  have f5':Heap.FlyingW B X.stack e (.ref C') a0 h5:=by rw[hst];exact f5
  have x5:Fl X.prog X.w X.base X.stack H1 H2 s1.heap e C' B h5:=⟨x0.toFl0.step f5'.1 f0.2.2.1 f5'.2.2.1 (sm4.trans sm5),a0,f5'⟩
  have I5:Inv X pins σ1 (upd H2 e (og e C')) {s2 with heap:=h5} :=Fl.kept (s':={s2 with heap:=h5}) x5 I1 hex ho sQ
  obtain⟨oe,he,hec⟩:=f5'.there
  refine wpAny_handleBy_cons (codeAny_handlers_test (iV (X:=X.iI e) (I5.iI e) hg hm ?_ hd)) (by intro q;cases q)
  refine ti (K:=X.K) I5.kIn he hec cat.ty cat.isc cat.bex cat.mro (codeAny_handlers_suite_as ?_)
  refine lands_againW f5' λh6 f6 sm6=>?_
  have x6:Fl X.prog X.w X.base X.stack H1 H2 s1.heap e C' B h6:=⟨x5.toFl0.step f6.1 f5'.2.2.1 f6.2.2.1 sm6,a0,f6⟩
  have I6:Inv X pins σ1 (upd H2 e (og e C')) {s2 with heap:=h6} :=Fl.kept (s':={s2 with heap:=h6}) x6 I1 hex ho sQ
  refine kl (X:=X.iI e) (I6.iI e) hN hj (.inl hn) (v:=.ref e) rfl (λs7 I7=>?_) (.inr hn)
  refine bF (hs e pins s7 _ _ (Z.gone j) I7 q) (λf s8 q8=>?_) λ_ _ z=>False.elim z
  cases f with
  |next=>obtain⟨σ8,H8,I8,q8⟩:=q8;exact name_goes (I8.uncaught I.ok) hN hj hn λs9 I9=>⟨_,H8,I9,q8⟩
  |brk=>obtain⟨σ8,H8,I8,q8⟩:=q8;exact name_goes (I8.uncaught I.ok) hN hj hn λs9 I9=>⟨_,H8,I9,q8⟩
  |cont=>obtain⟨σ8,H8,I8,q8⟩:=q8;exact name_goes (I8.uncaught I.ok) hN hj hn λs9 I9=>⟨_,H8,I9,q8⟩
  |ret u=>obtain⟨v8,σ8,H8,I8,r8,q8⟩:=q8;exact name_goes (I8.uncaught I.ok) hN hj hn λs9 I9=>⟨v8,_,H8,I9,r8,q8⟩
 ·cases f with
  |next=>obtain⟨σ8,H8,I8,q8⟩:=q;exact cU ⟨σ8,H8,I8.mQ I.ok,q8⟩
  |brk=>obtain⟨σ8,H8,I8,q8⟩:=q;exact⟨σ8,H8,I8.mQ I.ok,q8⟩
  |cont=>obtain⟨σ8,H8,I8,q8⟩:=q;exact⟨σ8,H8,I8.mQ I.ok,q8⟩
  |ret u=>obtain⟨v8,σ8,H8,I8,r8,q8⟩:=q;exact⟨v8,σ8,H8,I8.mQ I.ok,r8,q8⟩
end
theorem eF {X:Cx} :gD X (.builtin "isinstance") (λxs H Q=>∃ e C c cv b,xs = [.ref e,c]/\H e=some (og e C)/\ExC X.K C/\RelV c cv/\(∀ cv',RelV c cv'->cv'=cv)/\kitOne X.K (.ref C) cv=some b/\Q (.bl b) H):=by
 intro pins s σ H vs us Q I r h
 obtain⟨e,C,c,cv,b,rfl,he,ex,_,rc,hk,q⟩:=h
 cases r with
 |cons r1 r2=>
  cases r2 with
  |cons r2 r3=>
   cases r3
   obtain rfl:=(show _=Value.ref e from r1)
   rw[rc _ r2]
   obtain⟨p,_,_⟩:=(show fH X.prog X.w H s.heap e (.ext (XAt e C)) from I.hok e _ he)
   exact kia_one (qO ex) I.kIn p hk (λz=>nomatch z) λtk=>⟨.bl b,H,I.tok tk,rfl,q⟩
open TL
section
variable {P:Program}{w:World}{K:PySem.W.Frag}{mg:Str->Option Value}{base:Heap}
theorem Fun.okX {x qual:Str}{st:Stmt}{f:Addr}{fd:FuncData}{N ps:List Str}{k:Nat}{sp:Sp}(F:Fun K x qual st f fd)(S:ec N ps (dC st))(len:∀ vs H Q E,sp vs H Q E->vs.length=ps.length)
  (nk:∀ (cdv:Value) (A:Around) (outer:List Env) (s:Shared) (H:Hp) (vs:List V) (Q:VK) (E:XK),hJ k (A.deeper (envOfC qual (dC st) s.heap.objs.size f cdv))->sp vs H Q E->
   ∃ t,PSs (nz (CXr P w base) P w K mg base N qual (dC st) f cdv A outer s H E) (fP st) t/\t {nx:=λ_ H'=>Q .non H',rt:=Q} (start N vs) H):d8 P w K mg base (CXr P w base) (k+1) f fd ps sp:=by
 obtain⟨oc,od,kV,doc,pm,an,cdv,ct,osl,rfl,lk,hcd⟩:=F.ex
 exact sT lk hcd S len λA outer s H vs Q E hr hsp=>nk cdv A outer s H vs Q E hr hsp
end
abbrev bmV:List Value:=[.type "ValueError",.type "Exception",.type "BaseException",.type "object"]
structure Xc (K:Frag)(mg:Str->Option Value)(x:Str)(C:Addr):Prop where
 m:mg x=some (.ref C)
 q:excIn K C bmV "ValueError.__new__" = true
 e:ExC K C
structure Xs (K:Frag)(mg:Str->Option Value)(D c1 c2 c3 c4 c5 c6 c7:Addr):Prop where
 VE:mg "ValueError" = none
 pT:Xc K mg "TurnError" D
 rD:Xc K mg "NoLine" c1
 oZ:Xc K mg "NoTrain" c2
 rC:Xc K mg "NoMove" c3
 o3:Xc K mg "NoPiece" c4
 i6:Xc K mg "TooMany" c5
 rB:Xc K mg "NoText" c6
 sY:Xc K mg "NoRow" c7
 cat:∀ c∈ [c1,c2,c3,c4,c5,c6,c7],mM K D c
 val:∀ c∈ [c1,c2,c3,c4,c5,c6,c7],kitOne K (.ref c) (.type "ValueError")=some true
 eq:∀ c∈ [c1,c2,c3,c4,c5,c6,c7],∀ d∈ [c1,c2,c3,c4,c5,c6,c7],kitOne K (.ref c) (.ref d)=some (decide (c=d))
 nd:[c1,c2,c3,c4,c5,c6,c7].Nodup
theorem kf:bootBuiltins "ValueError" = some (.type "ValueError"):= PyProof.Rows.Boot.«ValueError»
theorem Vals.bls:∀ {bs:List Bool}{its:List Value},Vals (bs.map V.bl) its->its=bs.map Value.bool
 |[],_,.nil=>rfl
 |b::bs,_,.cons r t=>by rw[Vals.bls t,(show _=Value.bool b from r)];rfl
section
variable {X:Cx}
def rQ:V->List V->Hp->VK->Prop:=λx vs H Q=>∃ (l:Addr) (bs:List Bool) (c:Bool),x = .ref l/\vs = [.bl c]/\H l=some (.lst (bs.map V.bl))/\Q (.int (bs.count c:Nat)) H
def vb (c:Bool):Value->Bool
 |.bool b=>b==c
 |_=>false
theorem qH:MtM X "list.count" rQ:=by
 intro pins s σ H x vs v us Q I rx rv h
 obtain⟨l,bs,c,rfl,rfl,hH,q⟩:=h
 cases rx
 cases rv with
 |cons r1 r2=>
  cases r2
  obtain rfl:=(show _=Value.bool c from r1)
  obtain⟨z,its,n,r,hl,e⟩:=I.lx hH
  have hi:=r.bls
  subst hi
  refine cQ PySem.F.slot_list_count ⟨_,e,rfl⟩ PySem.F.entry_list_count (PySem.F.args_list_count_2 _ _) (SeqAt.list_countAt l _ n none #[] (.bool c) (vb c)) ⟨e,λy hy=>?_,?_⟩
  ·rw[List.mem_toArray]at hy
   obtain⟨b,_,rfl⟩:=aQ.mp hy
   exact SeqAt.EqAt.bool_bool b c
  ·have e1:((bs.map Value.bool).toArray.toList.countP (vb c))=bs.count c:=by
    simp only[List.toList_toArray]
    rw[List.countP_map]
    rfl
   rw[e1]
   exact⟨.int _,H,I.tok _,⟨_,rfl⟩,q⟩
def rO:V->List V->Hp->VK->Prop:=λx vs H Q=>∃ (l:Addr) (bs:List Bool) (c:Bool) (j:Nat),x = .ref l/\vs = [.bl c]/\H l=some (.lst (bs.map V.bl))/\bs[j]? = some c/\(∀ m,m<j->bs[m]? = some (!c))/\Q (.int (j:Nat)) H
theorem qG:MtM X "list.index" rO:=by
 intro pins s σ H x vs v us Q I rx rv h
 obtain⟨l,bs,c,j,rfl,rfl,hH,hj,hno,q⟩:=h
 cases rx
 cases rv with
 |cons r1 r2=>
  cases r2
  obtain rfl:=(show _=Value.bool c from r1)
  obtain⟨z,its,n,r,hl,e⟩:=I.lx hH
  have hi:=r.bls
  subst hi
  have hjl:j<bs.length:=(af.mp hj).1
  have hjs:j<(bs.map Value.bool).toArray.size:=by simpa using hjl
  have h63:(sizeLine:Nat)<2 ^ 62:=by rw[cq];decide
  have z':bs.length<=sizeLine:=by simpa using z
  refine cQ PySem.F.slot_list_index ⟨_,e,rfl⟩ PySem.F.entry_list_index (PySem.F.args_list_index_2 _ _) (SeqAt.list_indexAt l _ n none #[] (.bool c) (vb c) j hjs (by omega) ?_ λm hm hmj=>?_) ⟨e,λy hy=>?_,?_⟩
  ·have:bs[j]=c:=(af.mp hj).2
   simp[vb,this]
  ·have hm':=hno m hmj
   have:bs[m]'(by omega) = !c:=(af.mp hm').2
   simp[vb,this]
  ·rw[List.mem_toArray]at hy
   obtain⟨b,_,rfl⟩:=aQ.mp hy
   exact SeqAt.EqAt.bool_bool b c
  ·exact⟨.int _,H,I.tok _,⟨_,rfl⟩,q⟩
end
structure gs (K:Frag)(x:Str)(C:Addr):Prop where
 b:nsIn K mainGlobals x=some (some (.ref C))
 q:excIn K C bmV "ValueError.__new__" = true
 o:mroIn K C (.type "object")=some true
 p:mroIn K C (.type "BaseException")=some true
 r:findIn K (.ref C) "__class__" = some (some (.builtin "object.__class__"))
 g:findIn K (.ref C) "__getattribute__" = some (some (.builtin "BaseException.__getattribute__"))
 h:findIn K (.ref C) "__getattr__" = some none
 i:isClsIn K C=true
 t:typeIn K (.ref C)=some (.type "type")
structure jm (K:Frag)(D C:Addr):Prop where
 m:mroIn K C (.ref D)=some true
 v:subIn K (.ref C) (.type "ValueError")=some true
structure jH (K:Frag)(c d1 d2 d3 d4 d5 d6:Addr):Prop where
 e1:subIn K (.ref c) (.ref d1)=some false
 e2:subIn K (.ref c) (.ref d2)=some false
 e3:subIn K (.ref c) (.ref d3)=some false
 e4:subIn K (.ref c) (.ref d4)=some false
 e5:subIn K (.ref c) (.ref d5)=some false
 e6:subIn K (.ref c) (.ref d6)=some false
section
variable {K:Frag}{h:Heap}{mg:Str->Option Value}{x:Str}{C D:Addr}
theorem gs.isc (a:gs K x C):(clsIn K C).isSome=true:=by
 have:=a.i
 unfold isClsIn at this
 exact this
theorem gs.ex (a:gs K x C):ExC K C:=⟨a.o,a.p,a.r,a.g,a.h,a.isc⟩
theorem gs.xc (a:gs K x C)(X:K.In h)(G:h.Ns mainGlobals mg):Xc K mg x C:=⟨mg_of X G a.b,a.q,a.ex⟩
theorem jg {y:Str}{d:Addr}(a:gs K y d)(hne:C≠d)(e:subIn K (.ref C) (.ref d)=some false):kitOne K (.ref C) (.ref d)=some (decide (C=d)):=by
 have h1:(Value.ref C==Value.ref d)=false:=Bool.eq_false_iff.mpr λz=>hne (Value.ref.inj (beq_iff_eq.mp z))
 unfold kitOne kitCls
 rw[h1,az (by decide)]
 dsimp only
 rw[a.isc,a.t,aC (by rfl),e,bt hne]
theorem tX:kitOne K (.ref C) (.ref C)=some (decide (C=C)):=by
 unfold kitOne
 rw[aC (beq_self_eq_true _),bO rfl]
theorem gY (e:subIn K (.ref C) (.type "ValueError")=some true):kitOne K (.ref C) (.type "ValueError")=some true:=by
 unfold kitOne kitCls
 rw[az (by intro z;cases beq_iff_eq.mp z)]
 dsimp only
 rw[aC (by decide +kernel),e]
variable {c1 c2 c3 c4 c5 c6 c7:Addr}
theorem uF (X:K.In h)(G:h.Ns mainGlobals mg)(ve:nsIn K mainGlobals "ValueError" = some none)(b0:gs K "TurnError" D)(b1:gs K "NoLine" c1)(b2:gs K "NoTrain" c2)(b3:gs K "NoMove" c3)(b4:gs K "NoPiece" c4)
  (b5:gs K "TooMany" c5) (b6:gs K "NoText" c6) (b7:gs K "NoRow" c7) (d1:jm K D c1) (d2:jm K D c2) (d3:jm K D c3) (d4:jm K D c4) (d5:jm K D c5) (d6:jm K D c6) (d7:jm K D c7)
  (e1:jH K c1 c2 c3 c4 c5 c6 c7) (e2:jH K c2 c1 c3 c4 c5 c6 c7) (e3:jH K c3 c1 c2 c4 c5 c6 c7) (e4:jH K c4 c1 c2 c3 c5 c6 c7) (e5:jH K c5 c1 c2 c3 c4 c6 c7) (e6:jH K c6 c1 c2 c3 c4 c5 c7) (e7:jH K c7 c1 c2 c3 c4 c5 c6)
  (nd:[c1,c2,c3,c4,c5,c6,c7].Nodup):Xs K mg D c1 c2 c3 c4 c5 c6 c7:=by
 have ct:∀ {c:Addr},jm K D c->mM K D c:=λd=>⟨b0.t,b0.isc,b0.p,d.m⟩
 refine⟨mg_none_of X G ve,b0.xc X G,b1.xc X G,b2.xc X G,b3.xc X G,b4.xc X G,b5.xc X G,b6.xc X G,b7.xc X G,λc hc=>?_,λc hc=>?_,λc hc d hd=>?_,nd⟩
 ·simp only[aJ,de,or_false]at hc
  rcases hc with rfl |rfl |rfl |rfl |rfl |rfl |rfl
  ·exact ct d1
  ·exact ct d2
  ·exact ct d3
  ·exact ct d4
  ·exact ct d5
  ·exact ct d6
  ·exact ct d7
 ·simp only[aJ,de,or_false]at hc
  rcases hc with rfl |rfl |rfl |rfl |rfl |rfl |rfl
  ·exact gY d1.v
  ·exact gY d2.v
  ·exact gY d3.v
  ·exact gY d4.v
  ·exact gY d5.v
  ·exact gY d6.v
  ·exact gY d7.v
 ·have hcd:c=d\/c≠d:=by by_cases h:c=d;exact .inl h;exact .inr h
  rcases hcd with rfl |hne
  ·exact tX
  ·simp only[aJ,de,or_false]at hc hd
   have ee:subIn K (.ref c) (.ref d)=some false:=by
    rcases hc with rfl |rfl |rfl |rfl |rfl |rfl |rfl<;>rcases hd with rfl |rfl |rfl |rfl |rfl |rfl |rfl<;>
     first |exact absurd rfl hne |exact e1.e1 |exact e1.e2 |exact e1.e3 |exact e1.e4 |exact e1.e5 |exact e1.e6 |exact e2.e1 |exact e2.e2 |exact e2.e3 |exact e2.e4 |exact e2.e5 |exact e2.e6 |exact e3.e1 |exact e3.e2 |exact e3.e3 |exact e3.e4 |exact e3.e5 |exact e3.e6 |exact e4.e1 |exact e4.e2 |exact e4.e3 |exact e4.e4 |exact e4.e5 |exact e4.e6 |exact e5.e1 |exact e5.e2 |exact e5.e3 |exact e5.e4 |exact e5.e5 |exact e5.e6 |exact e6.e1 |exact e6.e2 |exact e6.e3 |exact e6.e4 |exact e6.e5 |exact e6.e6 |exact e7.e1 |exact e7.e2 |exact e7.e3 |exact e7.e4 |exact e7.e5 |exact e7.e6
   rcases hd with rfl |rfl |rfl |rfl |rfl |rfl |rfl
   ·exact jg b1 hne ee
   ·exact jg b2 hne ee
   ·exact jg b3 hne ee
   ·exact jg b4 hne ee
   ·exact jg b5 hne ee
   ·exact jg b6 hne ee
   ·exact jg b7 hne ee
end
end L2
namespace TL
open PySem PySem.Spec PyProof.Rows L2
structure Bm (mg:Str->Option Value):Prop extends Bl mg where
 zip:mg "zip" = none
 sum:mg "sum" = none
 all:mg "all" = none
 set:mg "set" = none
 tuple:mg "tuple" = none
 abs:mg "abs" = none
 bool:mg "bool" = none
 dict:mg "dict" = none
 str:mg "str" = none
section
variable {X:Cx}
end
section
variable {K:PySem.W.Frag}{l:Addr}{g:TG}{tt:TT}{te:TE}{cap:List (Option Nat)}{σ:St}{Q:VK}{H1:Hp}{J:It}
theorem tW (n:Nat)(Pv:Nat->List V->Hp->Prop)(h0:Pv 0 [] (upd H1 l (.lst [])))(go:∀ i acc H,i<n->Pv i acc H->J.go i H)(st:∀ acc H,Pv n acc H->J.stop n H)
  (hs:∀ i x acc H H',i<n->Pv i acc H->J.yld i H x H'->g x (gK cap σ) H' λσ2 H2=>tt σ2 H2 λb H3=>
    if b=true then te σ2 H3 λy H4=>H4 l=some (.lst acc)/\acc.length<sizeLine/\Pv (i+1) (acc ++ [y]) (upd H4 l (.lst (acc ++ [y])))
    else Pv (i+1) acc H3) (hd:∀ acc H,Pv n acc H->Q (.ref l) H):LcW J g tt te cap σ Q l H1:=by
 refine⟨λi m acc H=>m=n-i/\i<=n/\Pv i acc H,⟨n,by simp,aM _,h0⟩,?_⟩
 rintro i m acc H ⟨rfl,hi,p⟩
 by_cases hlt:i<n
 ·exact .inr ⟨go i acc H hlt p,λpS H'=>Pv (i+1) pS H',λpS H' p'=>⟨n-(i+1),by omega,rfl,hlt,p'⟩,λx H' y=>hs i x acc H H' hlt p y⟩
 ·have e:i=n:=by omega
  subst e
  exact .inl ⟨st acc H p,hd acc H p⟩
end
section
variable {X:Cx}{pins:List (Addr×Obj)}{σ:St}{H:Hp}{s:Shared}
end
section
variable {X:Cx}{pins:List (Addr×Obj)}{σ:St}{H1:Hp}{s2:Shared}{scope:Scope}{N:List Str}{own:Nat}{cap:List (Option Nat)}{cl:List (Str×Addr)}{fp:List Addr}
 {tg iter elt:Expr}{ifs:List Expr}{pos:Pos}{g:TG}{tt:TT}{te:TE}{wi:TI}
end
section
variable {X:Cx}
end
section
variable {l:Addr}{g:TG}{tt:TT}{te:TE}{cap:List (Option Nat)}{σ:St}{Q:VK}{H1:Hp}{J:It}
end
def hid (p:Addr)(H:Hp):Hp:=λb=>if b=p then none else H b
theorem kP {p:Addr}{H:Hp} :dM (hid p H) H:=λb o h=>by
 unfold hid at h
 by_cases e:b=p
 ·rw[aC e]at h;cases h
 ·rw[az e]at h;exact h
theorem jQ {p b:Addr}{H:Hp}(h:b≠p):hid p H b=H b:=by unfold hid;rw[az h]
theorem kO {p:Addr}{H:Hp} :hid p H p=none:=by unfold hid;rw[aC rfl]
theorem qV {p:Addr}{H H':Hp}(s:dM H H'):dM (hid p H) (hid p H'):=λb o h=>by
 by_cases e:b=p
 ·subst e;rw[kO]at h;cases h
 ·rw[jQ e]at h ⊢;exact s _ _ h
theorem si {p:Addr}{H:Hp}{o:HO} :hid p (upd H p o)=hid p H:=by
 funext b
 by_cases e:b=p
 ·subst e;rw[kO,kO]
 ·rw[jQ e,jQ e,dG e]
section
variable {L T:Addr->List V->Prop}
end
section
variable {K:PySem.W.Frag}{l:Addr}{g:TG}{tt:TT}{te:TE}{cap:List (Option Nat)}{σ:St}{Q:VK}{H1:Hp}{J:It}
end
open PySem.W
section
variable {X:Cx}{pins:List (Addr×Obj)}{σ:St}{H H1:Hp}{s s':Shared}{e C:Addr}{B:Heap}
end
section
variable {prog:Program}{w:World}{A:Around}{R:Result->Shared->Prop}{s:Shared}{XE:Value->Shared->Prop}
end
section
variable {M:Model}{A:Around}{E:Value->Shared->Prop}{s:Shared}{env:Env}
end
section
variable {X:Cx}{pins:List (Addr×Obj)}{σ:St}{H H3:Hp}{s s3:Shared}{scope:Scope}{N:List Str}{own:Nat}{cap:List (Option Nat)}{cl:List (Str×Addr)}{fp:List Addr}{E:XK}
def XC (X:Cx)(scope:Scope)(cl:List (Str×Addr))(N:List Str)(fp:List Addr)(s3:Shared)(H3:Hp)(E:XK):Value->Shared->Prop:=λev s'=>∃ (kC:List (Addr×Obj)) (σ':St) (H':Hp) (s0:Shared),Inv (eO X scope cl N fp s3 H3) kC σ' H' s0/\CXr X.prog X.w X.base X.stack H' s0 E ev s'
abbrev we (X:Cx)(scope:Scope)(cl:List (Str×Addr))(N:List Str)(fp:List Addr)(s3:Shared)(H3:Hp)(E:XK):Cx:=(eO X scope cl N fp s3 H3).kj (XC X scope cl N fp s3 H3 E)
end
section
variable {X:Cx}{pins:List (Addr×Obj)}{σ:St}{H1:Hp}{s2:Shared}{scope:Scope}{N:List Str}{own:Nat}{cap:List (Option Nat)}{cl:List (Str×Addr)}{fp:List Addr}
 {tg iter elt:Expr}{ifs:List Expr}{pos:Pos}{g:TG}{tt:TT}{te:TE}{wi:TI}{E:XK}
end
end TL
namespace TL
open PySem PySem.Spec PyProof.Rows L2
section
variable {X:Cx}{pins:List (Addr×Obj)}{σ:St}{H:Hp}{s:Shared}{a:Addr}{kvs:List (List Key×V)}
end
section
variable {prog:Program}{w:World}{A:Around}{E:Value->Shared->Prop}{s:Shared}{d it:Addr}{o:Obj}{es:Array DictEntry}{ep i:Nat}
end
section
variable {X:Cx}
end
section
variable {X:Cx}{pins:List (Addr×Obj)}{σ:St}{H:Hp}{s:Shared}{a b:Addr}{kvs:List (List Key×V)}{k:List Key}{v:V}{r:Value}{A:Around}{E:Value->Shared->Prop}
theorem qp {x y n:Str}{i:Int}{u:Value}{k1 k2:Nat}{p1 p2 p3 p4 pos:Pos}(hg:Gl X n)(hm:X.mg n=some u)(r:RelV (.int i) u)(hi:i.natAbs.log2<1920)(hz:x.length<=1000/\y.length<=1000/\(Str.ofString (toString i)).length<=1000)
  (hd:(n==("__debug__" :Str))=false:=by decide):PE X (.JoinedStr [.Constant (.str x) k1 p1,.FormattedValue (.Name n p2) (-1) none p3,.Constant (.str y) k2 p4] pos) (λ_ H Q=>∀ z,Q (.str z) H):=by
 intro pins s σ H Q I q
 obtain⟨t,rfl⟩:=r
 have hl:∀ a b:Str,(a++b).length=a.length+b.length:=strLen_append
 have he:Str.empty.length=0:=rfl
 refine wpAny_JoinedStr ?_
 refine PySem.wpAny_Constant_str ⟨x,_,rfl,by rw[hl,he,cq];omega,?_⟩
 refine wpAny_FormattedValue_plain (iV (I.tok _) hg hm (wpAny_formatField_int hi ⟨_,_,rfl,by rw[hl,hl,he,cq];omega,?_⟩) hd)
 refine PySem.wpAny_Constant_str ⟨y,_,rfl,by rw[hl,hl,hl,he,cq];omega,?_⟩
 refine⟨by rw[hl,hl,hl,he,cq];omega,⟨.str _,H,?_,⟨_,rfl⟩,q _⟩⟩
 exact I.tok _
end
section
variable {X:Cx}{K:PySem.W.Frag}
end
abbrev Ln:=Int×List (Int×Int)
structure sE (l:Ln)(ns:List Int):Prop where
 ends:∀ e∈ns,0<=e/\e<2*l.1
 nd:(ns.map (· / 2)).Nodup
 ch:∀ (i:Nat) x y,ns[i]? = some x->ns[i+1]? = some y->y∈jn l.2 (oth x)
theorem qR {l:Ln}(ok:fc l){e x:Int} :x∈jn l.2 e↔(min e x,max e x)∈l.2:=by
 unfold jn
 rw[rL,aP]
 constructor
 ·rintro(z |z)
  ·obtain⟨p,hp,rfl⟩:=aQ.mp z
   obtain⟨h1,h2⟩:=aY.mp hp
   have h2:p.2=e:=by simpa using h2
   have:=ok.ends p h1
   have e1:(min e p.1,max e p.1)=p:=Prod.ext (by show min e p.1=p.1;omega) (by show max e p.1=p.2;omega)
   rw[e1];exact h1
  ·obtain⟨p,hp,rfl⟩:=aQ.mp z
   obtain⟨h1,h2⟩:=aY.mp hp
   have h2:p.1=e:=by simpa using h2
   have:=ok.ends p h1
   have e1:(min e p.2,max e p.2)=p:=Prod.ext (by show min e p.2=p.1;omega) (by show max e p.2=p.2;omega)
   rw[e1];exact h1
 ·intro h
  by_cases hx:e<=x
  ·have e1:(min e x,max e x)=(e,x):=Prod.ext (by show min e x=e;omega) (by show max e x=x;omega)
   rw[e1]at h
   exact .inr (aQ.mpr ⟨(e,x),aY.mpr ⟨h,by simp⟩,rfl⟩)
  ·have e1:(min e x,max e x)=(x,e):=Prod.ext (by show min e x=x;omega) (by show max e x=e;omega)
   rw[e1]at h
   exact .inl (aQ.mpr ⟨(x,e),aY.mpr ⟨h,by simp⟩,rfl⟩)
theorem t7 {l:Ln}(ok:fc l){e x:Int}(h:x∈jn l.2 e):0<=x/\x<2*l.1:=by
 have:=ok.ends _ ((qR ok).mp h)
 dsimp only at this
 omega
theorem kL {α:Type} [DecidableEq α]:∀ {l1 l2:List α},l1.Nodup->(∀ x∈l1,x∈l2)->l1.length<=l2.length
 |[],_,_,_=>aM _
 |x::r,l2,nd,h=>by
  rw[cu]at nd
  have hx:=h x aB
  have:=kL (l1:=r) (l2:=l2.erase x) nd.2 λy hy=>by
   have:y≠x:=λz=>nd.1 (by rw[<-z];exact hy)
   exact(List.mem_erase_of_ne this).mpr (h y (ay _ hy))
  rw[List.length_erase_of_mem hx]at this
  have h1:1<=l2.length:=by cases l2 with |nil=>cases hx |cons a b=>simp
  rw[bb]
  omega
def oo (l:Ln):List (Int×Int):=l.2.map (λp=>(oth p.1,p.2))++l.2.map λp=>(oth p.2,p.1)
def rm (l:Ln):List Int:=(List.range (2*l.1).toNat).map λi:Nat=>(i:Int)
def mE (l:Ln):Nat->List (List Int)
 | 0=>[[]]
 | 1=>(rm l).map λe=>[e]
 |n+2=>(oo l).flatMap λp=>(mE l n).map λr=>p.1::p.2::r
theorem sD {l:Ln}(ok:fc l){x y:Int}(h:y∈jn l.2 (oth x)):(x,y)∈oo l:=by
 have h:=(qR ok).mp h
 unfold oo
 rw[aP]
 by_cases hc:oth x<=y
 ·rw[show min (oth x) y=oth x by omega,show max (oth x) y=y by omega]at h
  exact .inl (aQ.mpr ⟨_,h,by rw[oN]⟩)
 ·rw[show min (oth x) y=y by omega,show max (oth x) y=oth x by omega]at h
  exact .inr (aQ.mpr ⟨_,h,by rw[oN]⟩)
theorem nF {l:Ln}(ok:fc l):∀ (n:Nat) (ns:List Int),ns.length=n->(∀ e∈ns,0<=e/\e<2*l.1)->(∀ (i:Nat) x y,ns[i]? = some x->ns[i+1]? = some y->y∈jn l.2 (oth x))->ns∈mE l n
 | 0,ns,hl,_,_=>by rw[List.eq_nil_of_length_eq_zero hl];exact aB
 | 1,[e],_,he,_=>by
  have:=he e aB
  refine aQ.mpr ⟨e,aQ.mpr ⟨e.toNat,by rw[List.mem_range];omega,by omega⟩,rfl⟩
 |n+2,x::y::r,hl,he,hc=>by
  refine List.mem_flatMap.mpr ⟨(x,y),sD ok (hc 0 x y rfl rfl),aQ.mpr ⟨r,nF ok n r (by simpa using hl) (λe h=>he e (ay _ (ay _ h))) (λi a b ha hb=>hc (i+2) a b ha hb),rfl⟩⟩
abbrev Ent:=List Int×Option (List Int×(Str×Int))
def okJ (m:Int)(p:Int×Int):Prop:=(0<=p.1/\p.1<2*m)/\(0<=p.2/\p.2<2*m)/\p.1<=p.2/\p.1/2≠p.2/2
structure fG (l:Ln):Prop where
 one:1<=l.1
 most:l.1<=14
 len:l.2.length<=24
 ok:∀ p∈l.2,okJ l.1 p
 nd:l.2.Nodup
theorem fG.jf {l:Ln}(G:fG l):fc l:=by
 have h1:=G.len
 refine⟨G.one,by have:=G.most;omega,by omega,λe=>?_,λp hp=>?_⟩
 ·have:=inc_le l.2 e;omega
 ·obtain⟨a,b,c,_⟩:=G.ok p hp
  exact⟨a.1,c,b.2⟩
structure Ren (m:Int)(nm es:List Int):Prop where
 len:(nm.length:Int)=m
 nb:∀ x∈nm,0<=x/\x<m
 nd:nm.Nodup
 pL:es.length=2*nm.length
 at_:∀ j,j<nm.length->∃ f:Int,(f=0\/f=1)/\es[2*j]? = some (2*nm.getD j 0+f)/\es[2*j+1]? = some (2*nm.getD j 0+1-f)
def rho (es:List Int)(e:Int):Int:=es.getD e.toNat 0
def rj (es:List Int)(p:Int×Int):Int×Int:=(min (rho es p.1) (rho es p.2),max (rho es p.1) (rho es p.2))
theorem Ren.rho {m:Int}{nm es:List Int}(R:Ren m nm es){e:Int}(h0:0<=e)(h1:e<2*m):
  ∃ f:Int,(f=0\/f=1)/\TL.rho es e=2*nm.getD (e/2).toNat 0+(if e%2=0 then f else 1-f)/\
   ∀ e',0<=e'->e'/2=e/2->TL.rho es e'=2*nm.getD (e/2).toNat 0+(if e'%2=0 then f else 1-f):=by
 have hl:=R.len
 obtain⟨f,hf,e1,e2⟩:=R.at_ (e/2).toNat (by omega)
 have key:∀ e',0<=e'->e'/2=e/2->TL.rho es e'=2*nm.getD (e/2).toNat 0+(if e'%2=0 then f else 1-f):=λe' h2 h3=>by
  unfold TL.rho
  by_cases c:e'%2=0
  ·rw[aC c,aO,show e'.toNat=2*(e/2).toNat by omega,e1];rfl
  ·rw[az c,aO,show e'.toNat=2*(e/2).toNat+1 by omega,e2]
   show 2*nm.getD (e/2).toNat 0+1-f=_
   omega
 exact⟨f,hf,key e h0 rfl,key⟩
theorem Ren.oH {m:Int}{nm es:List Int}(R:Ren m nm es){e:Int}(h0:0<=e)(h1:e<2*m):TL.rho es e/2=nm.getD (e/2).toNat 0:=by
 obtain⟨f,hf,e1,_⟩:=R.rho h0 h1
 rw[e1]
 split<;>omega
theorem Ren.vk {m:Int}{nm es:List Int}(R:Ren m nm es){p:Int}(h0:0<=p)(h1:p<m):0<=nm.getD p.toNat 0/\nm.getD p.toNat 0<m:=by
 have hl:=R.len
 have h2:p.toNat<nm.length:=by omega
 have:nm.getD p.toNat 0=nm[p.toNat]:=by rw[aO,ae h2];rfl
 rw[this]
 exact R.nb _ (df h2)
theorem Ren.qF {m:Int}{nm es:List Int}(R:Ren m nm es){p q:Int}(h0:0<=p)(h1:p<m)(g0:0<=q)(g1:q<m)(e:nm.getD p.toNat 0=nm.getD q.toNat 0):p=q:=by
 have hl:=R.len
 have h2:p.toNat<nm.length:=by omega
 have h3:q.toNat<nm.length:=by omega
 have e1:nm.getD p.toNat 0=nm[p.toNat]:=by rw[aO,ae h2];rfl
 have e2:nm.getD q.toNat 0=nm[q.toNat]:=by rw[aO,ae h3];rfl
 rw[e1,e2]at e
 have:=(List.getElem_inj R.nd).mp e
 omega
theorem Ren.qg {m:Int}{nm es:List Int}(R:Ren m nm es){e:Int}(h0:0<=e)(h1:e<2*m):0<=TL.rho es e/\TL.rho es e<2*m:=by
 obtain⟨f,hf,e1,_⟩:=R.rho h0 h1
 have:=R.vk (p:=e/2) (by omega) (by omega)
 rw[e1]
 split<;>omega
theorem Ren.inj {m:Int}{nm es:List Int}(R:Ren m nm es){e e':Int}(h0:0<=e)(h1:e<2*m)(g0:0<=e')(g1:e'<2*m)(h:TL.rho es e=TL.rho es e'):e=e':=by
 have hp:e/2=e'/2:=by
  have a:=R.oH h0 h1
  have b:=R.oH g0 g1
  rw[h,b]at a
  exact(R.qF (by omega) (by omega) (by omega) (by omega) a).symm
 obtain⟨f,hf,e1,e2⟩:=R.rho h0 h1
 rw[e1,e2 e' g0 hp.symm]at h
 by_cases c:e%2=0<;>by_cases d:e'%2=0
 ·omega
 ·rw[aC c,az d]at h;omega
 ·rw[az c,aC d]at h;omega
 ·omega
theorem Ren.okJ {m:Int}{nm es:List Int}(R:Ren m nm es){p:Int×Int}(h:TL.okJ m p):TL.okJ m (rj es p):=by
 obtain⟨⟨a0,a1⟩,⟨b0,b1⟩,le,ne⟩:=h
 have ha:=R.qg a0 a1
 have hb:=R.qg b0 b1
 have pa:=R.oH a0 a1
 have pb:=R.oH b0 b1
 have hne:TL.rho es p.1/2≠TL.rho es p.2/2:=λz=>by
  rw[pa,pb]at z
  exact ne (R.qF (by omega) (by omega) (by omega) (by omega) z)
 unfold TL.okJ rj
 dsimp only
 generalize TL.rho es p.1=x at *
 generalize TL.rho es p.2=y at *
 refine⟨by omega,by omega,by omega,λz=>?_⟩
 by_cases c:x<=y
 ·rw[cw c,cp c]at z;exact hne z
 ·rw[cn (by omega),cx (by omega)]at z;exact hne z.symm
theorem okJ.lt {m:Int}{p:Int×Int}(h:okJ m p):p.1<p.2:=by
 obtain⟨_,_,le,ne⟩:=h
 by_cases c:p.1=p.2
 ·rw[c]at ne;exact absurd rfl ne
 ·omega
theorem vn {a b c d:Int}(h1:min a b=min c d)(h2:max a b=max c d):(a=c/\b=d)\/(a=d/\b=c):=by
 rcases Int.le_total a b with x |x<;>rcases Int.le_total c d with y |y
 ·rw[cw x,cw y]at h1;rw[cp x,cp y]at h2;exact .inl ⟨h1,h2⟩
 ·rw[cw x,cn y]at h1;rw[cp x,cx y]at h2;exact .inr ⟨h1,h2⟩
 ·rw[cn x,cw y]at h1;rw[cx x,cp y]at h2;exact .inr ⟨h2,h1⟩
 ·rw[cn x,cn y]at h1;rw[cx x,cx y]at h2;exact .inl ⟨h2,h1⟩
theorem Ren.tG {m:Int}{nm es:List Int}(R:Ren m nm es){p q:Int×Int}(hp:TL.okJ m p)(hq:TL.okJ m q)(e:rj es p=rj es q):p=q:=by
 obtain⟨⟨a0,a1⟩,⟨b0,b1⟩,le,ne⟩:=id hp
 obtain⟨⟨c0,c1⟩,⟨d0,d1⟩,le',ne'⟩:=id hq
 have l1:=hp.lt
 have l2:=hq.lt
 unfold rj at e
 rw[Prod.mk.injEq]at e
 obtain⟨e1,e2⟩:=e
 obtain⟨pa,pb⟩:=p
 obtain⟨qa,qb⟩:=q
 dsimp only at *
 have hor:=vn e1 e2
 rcases hor with⟨x,y⟩|⟨x,y⟩
 ·rw[R.inj a0 a1 c0 c1 x,R.inj b0 b1 d0 d1 y]
 ·have:=R.inj a0 a1 d0 d1 x
  have:=R.inj b0 b1 c0 c1 y
  omega
theorem Ren.line {m:Int}{nm es:List Int}(R:Ren m nm es){js js':List (Int×Int)}(G:fG (m,js))(hp:js'.Perm (js.map (rj es))):fG (m,js'):=by
 refine⟨G.one,G.most,?_,λp h=>?_,?_⟩
 ·have:=hp.length_eq
  rw[aa]at this
  show js'.length<=24
  have:=G.len
  dsimp only at this
  omega
 ·obtain⟨q,hq,rfl⟩:=aQ.mp (hp.mem_iff.mp h)
  exact R.okJ (G.ok q hq)
 ·refine hp.nodup_iff.mpr ?_
  rw[List.Nodup,bz]
  exact bU (λ{a b} ha hb hab z=>hab (R.tG (G.ok a ha) (G.ok b hb) z)) G.nd
def yR (K:PySem.W.Frag)(H:Hp)(Q:VK):Prop:=∀ (v:V) (l:Ln) (H':Hp),dM H H'->Da K H' (dL l) v->fG l->Q v H'
end TL
namespace TL
theorem oa {m:Int}{js:List (Int×Int)}{a b:Int}(G:fG (m,js))(ne:a/2≠b/2)(a0:0<=a)(a1:a<2*m)(b0:0<=b)(b1:b<2*m)(hn:(min a b,max a b)∉js)(hl:js.length<24):fG (m,js ++ [(min a b,max a b)]):=by
 refine⟨G.one,G.most,?_,λp hp=>?_,?_⟩
 ·show(js ++ [(min a b,max a b)]).length<=24
  rw[ao];show js.length+1<=24;omega
 ·rcases aP.mp hp with z |z
  ·exact G.ok p z
  ·have z:p=(min a b,max a b):=by simpa using z
   subst z
   unfold okJ
   dsimp only
   refine⟨by omega,by omega,by omega,λz=>?_⟩
   by_cases c:a<=b
   ·rw[cw c,cp c]at z;exact ne z
   ·rw[cn (by omega),cx (by omega)]at z;exact ne z.symm
 ·refine List.nodup_append.mpr ⟨G.nd,by simp,λx hx y hy=>?_⟩
  have hy:y=(min a b,max a b):=by simpa using hy
  rw[hy]
  exact λz=>hn (z ▸ hx)
open PySem PySem.Spec PyProof.Rows L2
section
variable {prog:Program}{w:World}{A:Around}{E:Value->Shared->Prop}{s:Shared}{l b:Addr}{items xR:Array Value}{n n2:Nat}
end
section
variable {X:Cx}
end
abbrev TF:=St->Hp->Str->(Str->Hp->Prop)->Prop
section
variable {X:Cx}{e:Expr}{es:List Expr}{te:TE}{tf:TF}{pos:Pos}
end
section
variable {X:Cx}
end
section
variable {prog:Program}{w:World}{A:Around}{E:Value->Shared->Prop}{s:Shared}
end
section
variable {X:Cx}{pos:Pos}
end
section
variable {prog:Program}{w:World}{A:Around}{E:Value->Shared->Prop}{s:Shared}
end
section
variable {X:Cx}{pos:Pos}
end
section
variable {X:Cx}
end
section
variable {X:Cx}{tg e:Expr}{te:TE}
end
end TL
namespace TS
open PySem
open SetTable
def adv (mask:Nat)(p:Probe):Probe:=
 if p.more>0 then {p with j:=p.j+1,more:=p.more-1} else
 {p with j:=(leap mask p.i p.perturb).1,more:=runEnd mask (leap mask p.i p.perturb).1-(leap mask p.i p.perturb).1,i:=(leap mask p.i p.perturb).1,perturb:=(leap mask p.i p.perturb).2}
def pAt (mask:Nat)(h:Int):Nat->Probe
 | 0=>{j:=bits h%(mask+1),more:=runEnd mask (bits h%(mask+1))-bits h%(mask+1),i:=bits h%(mask+1),perturb:=bits h,dummy:=none}
 |n+1=>adv mask (pAt mask h n)
open SetTable
def sF (mask:Nat)(taken:List Nat)(h:Int)(j:Nat):Prop:=∃ n,(pAt mask h n).j=j/\∀ m,m<n->(pAt mask h m).j∈taken
structure WFT (t:SetTable)(hs:List Int):Prop where
 pow:∃ k,3<=k/\t.mask+1=2 ^ k
 small:t.mask<=8191
 dum:t.dummies = #[]
 rise:t.place.toList.Pairwise (· < ·)
 all:∀ j∈t.place.toList,j<=t.mask
 len:t.place.size=hs.length
 room:hs.length*5<t.mask*3
 reach:∀ i (h:i<hs.length) j,t.place[i]? = some j->sF t.mask t.place.toList hs[i] j
open SetTable
end TS
namespace TL
open PySem TS
section
variable {prog:Program}{w:World}{K:Type} [DecidableEq K] {knd:KeyKind prog w K}{A:Around}{E:Value->Shared->Prop}{s:Shared}
def yg (knd:KeyKind prog w K)(x:List K×Addr):Int×Value:=(tupleKeyHash knd x.1,.ref x.2)
def yQ (knd:KeyKind prog w K)(h:Heap)(a:Addr)(xs:List (List K×Addr)):Prop:=
 ∃ o es ep t,h.get? a=some o/\o.ExactSet/\o.data = .set es ep t/\es.toList=xs.map (yg knd)/\(xs.map (·.1)).Nodup/\WFT t (xs.map λx=>tupleKeyHash knd x.1)
end
section
variable {prog:Program}{w:World}{K:Type} [DecidableEq K] {knd:KeyKind prog w K}{A:Around}{E:Value->Shared->Prop}{s:Shared}
end
open PySem.Spec PyProof.Rows L2
def yP (P:Program)(w:World)(a:Addr)(xs:List (List Key×Addr)):HO:=.ext λh=>yQ (kh P w) h a xs
abbrev keysOf (xs:List (List Key×Addr)):List (List Key):=xs.map λx=>x.1
section
variable {X:Cx}{pins:List (Addr×Obj)}{σ:St}{H:Hp}{s:Shared}
end
section
variable {prog:Program}{w:World}{A:Around}{R:Result->Shared->Prop}{I:Addr}{fp wr:List Addr}{G:Array GenState->Array GenState->Prop}{n:Nat}{P:Nat->Value->Prop}{St:Nat->Shared->Prop}
end
section
variable {prog:Program}{w:World}{A:Around}{E:Value->Shared->Prop}{s:Shared}
end
section
variable {X:Cx}
end
section
variable {X:Cx}{o e:Expr}{es:List Expr}{to:TE}{t:TA}{name:Str}{apos hV:Pos}{id:String}{r:V->List V->Hp->VK->Prop}
end
open HT
section
variable {prog:Program}{w:World}{A:Around}{E:Value->Shared->Prop}{s:Shared}
end
section
variable {X:Cx}{e:Expr}{te:TE}{pos p2:Pos}
end
section
variable {X:Cx}{a b c d:Expr}{ta tb tc td:TE}{pos:Pos}
end
end TL
namespace TL
open PySem PySem.Spec PyProof.Rows L2
section
variable {X:Cx}
theorem mH:gD X (.builtin "isinstance") (λxs H Q=>∃ a ys c b,xs = [.ref a,.ty c]/\SqL X.K H a ys/\PySem.W.kitOne X.K (.type "list") (.type c)=some b/\Q (.bl b) H):=by
 intro pins s σ H xs us Q I r h
 obtain⟨a,ys,c,b,rfl,hq,e,q⟩:=h
 obtain⟨u,u2,rfl,ru,rc⟩:=vals2 r
 cases rc
 cases ru
 obtain⟨its,rv,p,hz⟩:=I.list hq
 obtain⟨o,h1,h2,_⟩:=p.isList
 exact PySem.W.kia_one PySem.W.kitx_list I.kIn ⟨o,h1,h2⟩ e (λz=>nomatch z) λtk=>⟨.bl b,H,I.tok tk,rfl,q⟩
end
section
variable {X:Cx}
end
section
variable {X:Cx}{K:PySem.W.Frag}{T:String}{name:Str}{id:String}{r:V->List V->Hp->VK->Prop}{o e:Expr}{es:List Expr}{to:TE}{t:TA}{apos hV:Pos}
end
section
variable {K:PySem.W.Frag}{l:Addr}{g:TG}{tt:TT}{te:TE}{cap:List (Option Nat)}{σ:St}{Q:VK}{H1:Hp}{J:It}
end
section
variable {X:Cx}
end
open PySem.W
def ev {α:Type} :List α->List α
 |[]=>[]
 |[x]=>[x]
 |x::_::r=>x::ev r
section
variable {X:Cx}{e st lo:Expr}{te ts tl:TE}{pos p2:Pos}
end
section
variable {X:Cx}{tg:Expr}
end
section
variable {X:Cx}
end
section
variable {X:Cx}
end
def ItD (hi:Int)(n:Nat):It:=⟨λi _=>i<n,λi H x H'=>H'=H/\x = .int (hi+(i:Int) * -1),λi _=>n<=i⟩
theorem mP {P:Program}{w:World}{K:PySem.W.Frag}{tg:Expr}(it:Addr)(hi:Int)(n:Nat):Turn P w K tg (ItD hi n) [it] it (λi h=>IsRangeIter h it (hi+(i:Nat) * -1) ((n:Int)-(i:Nat)) (-1)) where
 mem:=by simp
 obj:=λi h st b hb=>by
  have e:b=it:=by simpa using hb
  subst e
  exact⟨_,st,λv z=>by
   have z':Data.fields _=Data.cell v:=z
   cases z'⟩
 keep:=λi h h' st k=>k it (by simp) _ st
 item:=by
  intro X hP hw hK hc i pins s σ H E I hf st hg
  subst hP hw hK
  obtain⟨f0,f1,f2,f3,f4,f5⟩:=hf it (by simp)
  have W:=Walks.range (prog:=X.prog) (w:=X.w) (I.ok.hd hc) it hi (-1) n
  refine W.item i s _ _ hg st λv h' tk hv st' kk=>?_
  obtain⟨t,rfl⟩:=hv
  have I1:Inv X pins σ H {s with heap:=h',toks:=tk} :=I.turned (λb o hb e=>kk b o (by simpa using hb) e) f0 f1 f3 f4 f5
  exact⟨_,rfl,oQ (s:={s with heap:=h',toks:=tk}) (n:= "range_iterator") st' rfl rfl (by decide) ⟨.int (hi+(i:Int) * -1),H,I1,⟨t,rfl⟩,⟨rfl,rfl⟩,st',λb hb=>(hf b hb).1⟩⟩
 done:=by
  intro X hP hw hK hc i pins s σ H E I hf st hg
  subst hP hw hK
  obtain⟨f0,f1,f2,f3,f4,f5⟩:=hf it (by simp)
  exact wpAny_pyNext_range_end (I.ok.hd hc) st (by have:n<=i:=hg;omega) λh' eb=>⟨rfl,I.turned (t':=s.toks) (λb o hb e=>eb b o hb e) f0 f1 f3 f4 f5⟩
 self:=λ_ _ _ _ _ st h=>wpAny_pyIter_rangeiter st h
section
variable {X:Cx}{tg:Expr}
end
end TL
namespace TL
open PySem PySem.Spec PyProof.Rows L2 TS
section
variable {prog:Program}{w:World}{A:Around}{R:Result->Shared->Prop}{s:Shared}
end
section
variable {X:Cx}{pins:List (Addr×Obj)}{σ:St}{H1:Hp}{s2:Shared}{scope:Scope}{N:List Str}{own:Nat}{cap:List (Option Nat)}{cl:List (Str×Addr)}{fp:List Addr}
 {tg iter elt vlt:Expr}{ifs:List Expr}{pos:Pos}{g:TG}{tt:TT}{te tv:TE}{wi:TI}
end
section
variable {X:Cx}{pins:List (Addr×Obj)}{σ:St}{H1:Hp}{s2:Shared}{scope:Scope}{N:List Str}{own:Nat}{cap:List (Option Nat)}{cl:List (Str×Addr)}{fp:List Addr}
 {tg iter elt vlt:Expr}{ifs:List Expr}{pos:Pos}{g:TG}{tt:TT}{te tv:TE}{wi:TI}
end
end TL
namespace L2
open PySem PySem.Spec PySem.Calls PyProof.Rows PySem.W
section
variable {X:Cx}{body ox:List Stmt}{b₀:Stmt}{x:Str}{np uh pos:Pos}{D:Addr}{tb:(St->XK)->TS}{th:TS}
end
end L2
namespace TL
open PySem PySem.Spec PyProof.Rows L2
theorem qQ {l:Int×List (Int×Int)}(h:fc l)(e:Int):(jn l.2 e).length<=160:=by
 unfold jn
 rw[i9,ao]
 exact h.inc e
theorem rb {l:Int×List (Int×Int)}(h:fc l)(ns:List Int)(e:Int):(fr l ns e).length<=160:=bR (cC _ _) (qQ h e)
theorem iJ:∀ (ds:List PyData),(∀ d∈ds,d.canLay0=true)->PyData.canLayAll0 ds=true
 |[],_=>by simp[PyData.canLayAll0]
 |d::ds,h=>by
  simp only[PyData.canLayAll0,cG]
  exact⟨h d aB,iJ ds λx hx=>h x (ay _ hx)⟩
def dLI (xss:List (List Int)):PyData:=.list (xss.map dI)
theorem jN (xss:List (List Int)):OkD (dLI xss):=by
 refine⟨?_,?_⟩
 ·simp only[dLI,PyData.canLay0]
  refine iJ _ λd hd=>?_
  obtain⟨m,hm,rfl⟩:=aQ.mp hd
  exact(qz m).1
 ·simp only[dLI,PyData.depth]
  have:=eN (f:=dI) (k:=1) (λm=>by
   simp only[dI,PyData.depth]
   have:=eN (f:=PyData.int) (k:=0) (λ_=>by simp[PyData.depth]) m
   omega) xss
  omega
abbrev Ma:=Mv×Addr×Addr
theorem sE.snoc {l:Int×List (Int×Int)}{ns:List Int}{x:Int}(ok:fc l)(T:sE l ns)(hne:ns≠ [])(hx:x∈fr l ns (oth (ns.getLastD 0))):sE l (ns ++ [x]):=by
 obtain⟨h1,h2⟩:=aY.mp hx
 have h2:¬x/2∈ns.map (· / 2):=by simpa using h2
 refine⟨λe he=>?_,?_,λi a b ha hb=>?_⟩
 ·rcases aP.mp he with z |z
  ·exact T.ends e z
  ·have z:e=x:=by simpa using z
   rw[z];exact t7 ok h1
 ·rw[aK,List.nodup_append]
  refine⟨T.nd,by simp,λa ha b hb=>?_⟩
  have hb:b=x/2:=by simpa using hb
  intro z
  exact h2 (by rw[<-hb,<-z];exact ha)
 ·by_cases hi:i+1<ns.length
  ·rw[aD hi]at hb
   rw[aD (by omega)]at ha
   exact T.ch i a b ha hb
  ·have hlt:i+1<(ns ++ [x]).length:=(af.mp hb).1
   rw[ao,List.length_singleton]at hlt
   have e1:i+1=ns.length:=by omega
   rw[e1,aG (ar _),Nat.sub_self]at hb
   cases hb
   rw[aD (by omega)]at ha
   have e2:ns.getLastD 0=a:=by
    rw[List.getLastD_eq_getLast?,List.getLast?_eq_getElem?]
    have:ns.length-1=i:=by omega
    rw[this,ha];rfl
   rw[e2]at h1
   exact h1
abbrev yX (cs:List Ma):List Mv:=cs.map (·.1)
open TS
abbrev Rows:=List (List Int×Int)
end TL
namespace TL
open PySem TS
section
variable {prog:Program}{w:World}{A:Around}{E:Value->Shared->Prop}{s:Shared}
end
open PyProof.Rows PySem.W
section
variable {prog:Program}{w:World}{A:Around}{E:Value->Shared->Prop}{s:Shared}{it a:Addr}{o:Obj}{es:Array (Int×Value)}{ep:Nat}{t:SetTable}{hs:List Int}{i j:Nat}
end
section
variable {prog:Program}{w:World}{A:Around}{E:Value->Shared->Prop}{s:Shared}{a:Addr}{ep:Nat}{xs:List (Int×Tok)}
end
end TL
namespace TL
open PySem PySem.Spec PyProof.Rows L2 TS
section
variable {X:Cx}{pins:List (Addr×Obj)}{σ:St}{H:Hp}{s:Shared}
end
section
variable {X:Cx}{o e:Expr}{es:List Expr}{to:TE}{t:TA}{name:Str}{apos hV:Pos}{id:String}{r:V->List V->Hp->VK->Prop}
end
end TL
namespace L2
open PySem PySem.Spec PyProof.Rows
section
variable {P:Program}{w:World}{K:PySem.W.Frag}{mg:Str->Option Value}{base:Heap}
end
end L2
namespace TL
open PySem PySem.Spec PyProof.Rows L2 TS
def gd (lo:Int)(n:Nat):List Int:=(List.range n).map λi:Nat=>lo+(i:Int)
theorem gH (lo:Int)(n:Nat):(gd lo n).length=n:=by simp[gd]
theorem ky {lo:Int}{n i:Nat}(h:i<n):(gd lo n)[i]? = some (lo+(i:Int)):=by simp[gd,h]
theorem qf {lo x:Int}{n:Nat} :x∈gd lo n↔lo<=x/\x<lo+n:=by
 unfold gd
 rw[aQ]
 constructor
 ·rintro⟨i,hi,rfl⟩
  have:=List.mem_range.mp hi
  omega
 ·rintro⟨h1,h2⟩
  exact⟨(x-lo).toNat,List.mem_range.mpr (by omega),by omega⟩
theorem rM (lo:Int)(n:Nat):(gd lo n).Pairwise (· < ·):=by
 unfold gd
 rw[bz]
 exact cf (λ{a b} h=>by omega) (List.pairwise_lt_range)
section
variable {X:Cx}
theorem pQ:gD X (.type "range") (λxs H Q=>∃ j:Int,xs = [.int j]/\∀ p,H p=none->Q (.ref p) (upd H p (.rng 0 j))):=by
 intro pins s σ H xs us Q I r h
 obtain⟨j,rfl,q⟩:=h
 obtain⟨u,rfl,ru⟩:=vals1 r
 obtain⟨t,rfl⟩:=ru
 refine call_range_1 ?_
 exact⟨.ref _,_,I.laid (t':=s.toks+1+1) (o:=.rng 0 j) (λb u e=>aE _ e) (ar _) ⟨_,_,_,bg _ rfl⟩,rfl,q _ I.fresh⟩
theorem pP:gD X (.type "range") (λxs H Q=>∃ i j:Int,xs = [.int i,.int j]/\∀ p,H p=none->Q (.ref p) (upd H p (.rng i j))):=by
 intro pins s σ H xs us Q I r h
 obtain⟨i,j,rfl,q⟩:=h
 obtain⟨u,u2,rfl,ru,rc⟩:=vals2 r
 obtain⟨t,rfl⟩:=ru
 obtain⟨t2,rfl⟩:=rc
 refine call_range_2 ?_
 exact⟨.ref _,_,I.laid (o:=.rng i j) (λb u e=>aE _ e) (ar _) ⟨_,_,_,bg _ rfl⟩,rfl,q _ I.fresh⟩
theorem lz (hc:X.calm=true):gD X (.type "list") (λxs H Q=>∃ (p:Addr) (lo hi:Int),xs = [.ref p]/\H p=some (.rng lo hi)/\ -1000<=lo/\lo<=1000/\ -1000<=hi/\hi<=1000/\∀ l,H l=none->Q (.ref l) (upd H l (.lst ((gd lo (hi-lo).toNat).map V.int)))):=by
 intro pins s σ H xs us Q I r h
 obtain⟨p,lo,hi,rfl,hH,l1,l2,l3,l4,q⟩:=h
 obtain⟨u,rfl,ru⟩:=vals1 r
 cases ru
 obtain⟨t,u,v,e⟩:=I.hok p _ hH
 refine call_list_range (n:=(hi-lo).toNat) (I.ok.hd hc) e (small_one (by omega) (by omega) (by omega) (by omega)) (rangeSize_nat lo hi) (by omega) λh' tk acc c hk hg vQ=>?_
 have hv:Vals ((gd lo (hi-lo).toNat).map V.int) acc.toList:=by
  have hI:IntsAre acc.toList (gd lo (hi-lo).toNat):=by
   have hl:acc.toList.length=(gd lo (hi-lo).toNat).length:=by rw[ah,vQ.1,gH]
   have hg:∀ (j:Nat) (x:Value),acc.toList[j]? = some x->∃ t,x = .int (lo+(j:Int)) t:=λj x hx=>by
    obtain⟨t,e⟩:=vQ.2 j x (by rw[<-ak];exact hx)
    exact⟨t,by rw[e];simp⟩
   have hg2:∀ (j:Nat) (x:Int),(gd lo (hi-lo).toNat)[j]? = some x->x=lo+(j:Int):=λj x hx=>by
    have hj:j<(hi-lo).toNat:=by
     have:=(af.mp hx).1
     rwa [gH]at this
    rw[ky hj]at hx
    exact(bw hx).symm
   have gen:∀ (k:Nat) (vs:List Value) (ns:List Int),vs.length=ns.length->(∀ (j:Nat) (x:Value),vs[j]? = some x->∃ t,x = .int (lo+((k+j:Nat):Int)) t)->(∀ (j:Nat) (x:Int),ns[j]? = some x->x=lo+((k+j:Nat):Int))->IntsAre vs ns:=by
    intro k vs
    induction vs generalizing k with
    |nil=>intro ns hl _ _;cases ns with |nil=>exact .nil |cons _ _=>simp at hl
    |cons v vs ih=>
     intro ns hl h1 h2
     cases ns with
     |nil=>simp at hl
     |cons n ns=>
      obtain⟨t,e⟩:=h1 0 v rfl
      have e2:=h2 0 n rfl
      subst e
      rw[e2]
      exact .cons _ _ (ih (k+1) ns (by simpa using hl) (λj x hx=>by rw[show k+1+j=k+(j+1) by omega];exact h1 (j+1) x (by simpa using hx)) (λj x hx=>by rw[show k+1+j=k+(j+1) by omega];exact h2 (j+1) x (by simpa using hx)))
   exact gen 0 _ _ hl (λj x hx=>by rw[bY];exact hg j x hx) (λj x hx=>by rw[bY];exact hg2 j x hx)
  exact jI hI
 refine⟨.ref s.heap.objs.size,_,I.laid (t':=tk) (o:=.lst ((gd lo (hi-lo).toNat).map V.int)) (λb ob q=>hk b ob q) (ar _) ⟨?_,acc.toList,c,hv,?_⟩,rfl,q _ I.fresh⟩
 ·rw[aa,gH,cq];omega
 ·rw[hg,Array.toArray_toList]
end
end TL
namespace TL
open PySem PySem.Spec PyProof.Rows PySem.W
def sj:Bool->Keyed->Array Keyed->Nat->Nat->Nat->StateT SortSt Sem (Option Nat):=sortPriv% PySem.Builtin.gallop
def Orc (prog:Program)(w:World)(A:Around)(s:Shared)(κ:SortKind)(key:Keyed->Int)(D:Keyed->Prop):Prop:=
 ∀ x y,D x->D y->∀ Q:Bool->Shared->Prop,Q (decide (key x<key y)) s->wpAny (model prog w) A (keyLt' κ x.1 y.1) Q (λ_ _=>False) s
section
variable {prog:Program}{w:World}{A:Around}{E:Value->Shared->Prop}{s:Shared}{κ:SortKind}{key:Keyed->Int}{D:Keyed->Prop}
theorem fI {α:Type}{m:Sem α}{Q:α->SortSt->Prop}{st:SortSt}(h:wpAny (model prog w) A m (λa s'=>s'=s/\Q a st) E s):wpS (model prog w) A E s (liftM m:StateT SortSt Sem α) Q st:=by
 unfold wpS
 show wpAny (model prog w) A ((StateT.lift m:StateT SortSt Sem α).run st) _ E s
 rw[StateT.run_lift]
 exact au (bF h (λa s' h'=>aS h') λ_ _ e=>e)
theorem kE (O:Orc prog w A s κ key D){x y:Keyed}(hx:D x)(hy:D y){st:SortSt}(hk:kindOf st=κ){Q:Option Bool->SortSt->Prop}(h:Q (some (decide (key x<key y))) st):wpS (model prog w) A E s (lt' x y) Q st:=by
 rw[lt'_eq]
 refine aj (wpS_get ?_)
 rw[hk]
 refine aj (fI (wpAny_attempt (bF (O x y hx hy (λb s'=>s'=s/\b=decide (key x<key y)) ⟨rfl,rfl⟩) (λc s' hc=>⟨hc.1,?_⟩) λ_ _ hF=>hF.elim)))
 rw[hc.2]
 exact aq h
theorem dW {arr:Array Keyed}{i:Nat}{x:Keyed}(h:arr[i]? = some x){st:SortSt}{Q:Keyed->SortSt->Prop}(hq:Q x st):wpS (model prog w) A E s (elem' arr i) Q st:=by
 rw[elem'_eq,h]
 exact aq hq
def Ka (key:Keyed->Int)(arr:Array Keyed)(i:Nat):Int:=key (arr.getD i (Value.none,Value.none))
theorem eM {arr:Array Keyed}{i:Nat}{x:Keyed}(h:arr[i]? = some x):Ka key arr i=key x:=by
 unfold Ka
 rw[aT,h];rfl
theorem dY {arr:Array Keyed}{i:Nat}(h:i<arr.size):∃ x,arr[i]? = some x:=⟨_,aR h⟩
def Bey (key:Keyed->Int)(left:Bool)(k:Keyed)(arr:Array Keyed)(base i:Nat):Bool:=if left=true then decide (Ka key arr (base+i)<key k)else !(decide (key k<Ka key arr (base+i)))
theorem pR (O:Orc prog w A s κ key D){left:Bool}{k:Keyed}(hkD:D k){arr:Array Keyed}(hA:∀ (i:Nat) x,arr[i]? = some x->D x){j:Nat}(hj:j<arr.size){base i:Nat}(e:j=base+i){st:SortSt}(hk:kindOf st=κ){Q:Option Bool->SortSt->Prop}(h:Q (some (Bey key left k arr base i)) st):
  wpS (model prog w) A E s (do let x <-elem' arr j;if left=true then lt' x k else do let r <-lt' k x;pure (r.map (!·)):StateT SortSt Sem (Option Bool)) Q st:=by
 obtain⟨x,hx⟩:=dY hj
 have hK:=eM (key:=key) hx
 refine aj (dW hx ?_)
 unfold Bey at h
 rw[<-e,hK]at h
 cases left with
 |true=>
  rw[aC rfl]at h ⊢
  exact kE O (hA _ _ hx) hkD hk h
 |false=>
  rw[az (by decide)]at h ⊢
  exact aj (kE O hkD (hA _ _ hx) hk (aq h))
def Cut (P:Nat->Bool)(n k:Nat):Prop:=k<=n/\(∀ i,i<k->P i=true)/\∀ i,k<=i->i<n->P i=false
theorem gj (O:Orc prog w A s κ key D){left:Bool}{k:Keyed}(hkD:D k){arr:Array Keyed}(hA:∀ (i:Nat) x,arr[i]? = some x->D x){base n hint:Nat}(hn:base+n<=arr.size)(hh:hint<n)
  (mono:∀ i j,i<=j->j<n->Bey key left k arr base j=true->Bey key left k arr base i=true) {st:SortSt} (hk:kindOf st=κ) {Q:Option Nat->SortSt->Prop} (h:∀ m,Cut (Bey key left k arr base) n m->Q (some m) st):
  wpS (model prog w) A E s (sj left k arr base n hint) Q st:=by
 have B:∀ i,i<n->∀ R:Option Bool->SortSt->Prop,R (some (Bey key left k arr base i)) st->wpS (model prog w) A E s (do let x <-elem' arr (base+i);if left=true then lt' x k else do let r <-lt' k x;pure (r.map (!·)):StateT SortSt Sem (Option Bool)) R st:=λi hi R hR=>pR O hkD hA (by omega) rfl hk hR
 generalize Bey key left k arr base=P at *
 have uA:∀ i j,i<=j->j<n->P i=false->P j=false:=λi j h1 h2 h3=>by
  cases q:P j with
  |false=>rfl
  |true=>rw[mono i j h1 h2 q]at h3;cases h3
 refine aj (B hint hh _ ?_)
 dsimp only
 cases hr:P hint
 case' true=>
  rw[aC rfl]
  refine aj (bX (bq (I:=λx c st'=>st=st'/\∃ l o,c=(none,l,o)/\l<o/\hint+l<n/\P (hint+l)=true/\x+1<=o)
   (Q:=λc st'=>st=st'/\∃ l o,c=(none,l,o)/\l<o/\hint+l<n/\P (hint+l)=true/\(n-hint<=o\/(hint+o<n/\P (hint+o)=false))) ?_ ?_ ⟨rfl,0,1,rfl,by omega,by omega,hr,by omega⟩) ?_)
  ·rintro x c st' _ hx ⟨rfl,l,o,rfl,h1,h2,h3,h4⟩
   dsimp only
   by_cases g:o≥n-hint
   ·rw[aC g];exact aq ⟨rfl,l,o,rfl,h1,h2,h3,.inl g⟩
   ·rw[az g]
    refine aj (B (hint+o) (by omega) _ ?_)
    cases q:P (hint+o)with
    |false=>exact aq ⟨rfl,l,o,rfl,h1,h2,h3,.inr ⟨by omega,q⟩⟩
    |true=>exact aq ⟨rfl,o,2*o+1,rfl,by omega,by omega,q,by omega⟩
  ·rintro c st' ⟨rfl,l,o,rfl,h1,h2,h3,h4⟩
   exact⟨rfl,l,o,rfl,h1,h2,h3,.inl (by omega)⟩
  rintro c st' ⟨rfl,l,o,rfl,h1,h2,h3,h4⟩
  dsimp only
  have a1:hint+l+1<=hint+min o (n-hint):=by omega
  have a2:hint+min o (n-hint)<=n:=by omega
  have a3:∀ i,i<hint+l+1->P i=true:=λi hi=>mono i (hint+l) (by omega) h2 h3
  have a4:∀ i,hint+min o (n-hint)<=i->i<n->P i=false:=λi hi hn=>by
   rcases h4 with g |⟨g,g'⟩
   ·omega
   ·exact uA (hint+o) i (by omega) hn g'
  clear h4
  generalize hint+l+1=lo at a1 a3 ⊢
  generalize hint+min o (n-hint)=hi at a1 a2 a4 ⊢
  clear h1 h2 h3 hr
 case' false=>
  rw[az (by decide)]
  refine aj (bX (bq (I:=λx c st'=>st=st'/\∃ l o,c=(none,l,o)/\l<o/\l<=hint/\P (hint-l)=false/\x+1<=o)
   (Q:=λc st'=>st=st'/\∃ l o,c=(none,l,o)/\l<o/\l<=hint/\P (hint-l)=false/\(hint+1<=o\/(o<=hint/\P (hint-o)=true))) ?_ ?_ ⟨rfl,0,1,rfl,by omega,by omega,hr,by omega⟩) ?_)
  ·rintro x c st' _ hx ⟨rfl,l,o,rfl,h1,h2,h3,h4⟩
   dsimp only
   by_cases g:o≥hint+1
   ·rw[aC g];exact aq ⟨rfl,l,o,rfl,h1,h2,h3,.inl g⟩
   ·rw[az g]
    refine aj (B (hint-o) (by omega) _ ?_)
    cases q:P (hint-o)with
    |true=>exact aq ⟨rfl,l,o,rfl,h1,h2,h3,.inr ⟨by omega,q⟩⟩
    |false=>exact aq ⟨rfl,o,2*o+1,rfl,by omega,by omega,q,by omega⟩
  ·rintro c st' ⟨rfl,l,o,rfl,h1,h2,h3,h4⟩
   exact⟨rfl,l,o,rfl,h1,h2,h3,.inl (by omega)⟩
  rintro c st' ⟨rfl,l,o,rfl,h1,h2,h3,h4⟩
  dsimp only
  have a1:hint+1-min o (hint+1)<=hint-l:=by omega
  have a2:hint-l<=n:=by omega
  have a3:∀ i,i<hint+1-min o (hint+1)->P i=true:=λi hi=>by
   rcases h4 with g |⟨g,g'⟩
   ·omega
   ·exact mono i (hint-o) (by omega) (by omega) g'
  have a4:∀ i,hint-l<=i->i<n->P i=false:=λi hi hn=>uA (hint-l) i (by omega) hn h3
  clear h4
  generalize hint+1-min o (hint+1)=lo at a1 a3 ⊢
  generalize hint-l=hi at a1 a2 a4 ⊢
  clear h1 h2 h3 hr
 all_goals
  refine aj (bX (bq (I:=λx c st'=>st=st'/\∃ lo hi,c=(none,lo,hi)/\lo<=hi/\hi<=n/\(∀ i,i<lo->P i=true)/\(∀ i,hi<=i->i<n->P i=false)/\hi+x<=n+lo)
   (Q:=λc st'=>st=st'/\∃ lo hi,c=(none,lo,hi)/\Cut P n hi) ?_ ?_ ⟨rfl,lo,hi,rfl,a1,a2,a3,a4,by omega⟩) ?_)
  ·rintro x c st' _ hx ⟨rfl,lo,hi,rfl,h1,h2,h3,h4,h5⟩
   dsimp only
   by_cases g:lo≥hi
   ·rw[aC g];exact aq ⟨rfl,lo,hi,rfl,h2,λi hi=>h3 i (by omega),h4⟩
   ·rw[az g]
    refine aj (B (lo+(hi-lo)/2) (by omega) _ ?_)
    cases q:P (lo+(hi-lo)/2)with
    |true=>exact aq ⟨rfl,_,hi,rfl,by omega,h2,λi hi'=>mono i _ (by omega) (by omega) q,h4,by omega⟩
    |false=>exact aq ⟨rfl,lo,_,rfl,by omega,by omega,h3,λi h1' h2'=>uA _ i h1' h2' q,by omega⟩
  ·rintro c st' ⟨rfl,lo,hi,rfl,h1,h2,h3,h4,h5⟩
   exact⟨rfl,lo,hi,rfl,h2,λi hi=>h3 i (by omega),h4⟩
  rintro c st' ⟨rfl,lo,hi,rfl,hc⟩
  exact aq (h hi hc)
end
def qJ:Array Keyed->Array Keyed->StateT SortSt Sem (Array Keyed):=sortPriv% PySem.Builtin.mergeLo
def qK:Array Keyed->Array Keyed->StateT SortSt Sem (Array Keyed):=sortPriv% PySem.Builtin.mergeHi
section
variable {key:Keyed->Int}{a b out:List Keyed}{ia ib:Nat}
def fj (key:Keyed->Int)(l:List Keyed):Prop:=l.Pairwise λx y=>key x<=key y
structure ML (key:Keyed->Int)(a b out:List Keyed)(ia ib:Nat):Prop where
 srt:fj key out
 le:∀ x∈out,∀ y,y∈a.drop ia\/y∈b.drop ib->key x<=key y
 perm:(out++(a.drop ia++b.drop ib)).Perm (a++b)
def Mgd (key:Keyed->Int)(a b r:List Keyed):Prop:=fj key r/\r.Perm (a++b)
theorem gZ {l:List Keyed}{i:Nat}{x:Keyed}(h:l[i]? = some x):l.drop i=x::l.drop (i+1):=by
 obtain⟨h1,h2⟩:=af.mp h
 rw[cV h1,h2]
theorem fQ {l:List Keyed}(h:fj key l)(i:Nat):fj key (l.drop i):=h.sublist (List.drop_sublist _ _)
theorem ML.j6 (m:ML key a b out ia ib)(sb:fj key b){y:Keyed}(h:b[ib]? = some y)(g:∀ x∈a.drop ia,key y<=key x):ML key a b (out ++ [y]) ia (ib+1):=by
 have e:=gZ h
 have s2:=fQ sb ib
 rw[e]at s2
 have m2:=m.le
 have m3:=m.perm
 rw[e]at m2 m3
 refine⟨aU.mpr ⟨m.srt,bW _ _,λx hx z hz=>?_⟩,λx hx z hz=>?_,?_⟩
 ·rw[bh.mp hz];exact m2 x hx y (.inr aB)
 ·rcases aP.mp hx with hx |hx
  ·exact m2 x hx z (hz.imp_right λq=>ay _ q)
  ·rw[bh.mp hx]
   rcases hz with q |q
   ·exact g z q
   ·exact(bG.mp s2).1 z q
 ·refine List.Perm.trans ?_ m3
  rw[aH]
  refine cD out ?_
  exact(List.perm_middle (a:=y) (l₁:=a.drop ia) (l₂:=b.drop (ib+1))).symm
theorem ML.j7 (m:ML key a b out ia ib)(sa:fj key a){y:Keyed}(h:a[ia]? = some y)(g:∀ x∈b.drop ib,key y<=key x):ML key a b (out ++ [y]) (ia+1) ib:=by
 have e:=gZ h
 have s2:=fQ sa ia
 rw[e]at s2
 have m2:=m.le
 have m3:=m.perm
 rw[e]at m2 m3
 refine⟨aU.mpr ⟨m.srt,bW _ _,λx hx z hz=>?_⟩,λx hx z hz=>?_,?_⟩
 ·rw[bh.mp hz];exact m2 x hx y (.inl aB)
 ·rcases aP.mp hx with hx |hx
  ·exact m2 x hx z (hz.imp_left λq=>ay _ q)
  ·rw[bh.mp hx]
   rcases hz with q |q
   ·exact(bG.mp s2).1 z q
   ·exact g z q
 ·rw[aH];exact m3
theorem ML.kX (sa:fj key a):∀ (k:Nat) {out:List Keyed}{ia:Nat},ML key a b out ia ib->ia+k<=a.length->(∀ i y,ia<=i->i<ia+k->a[i]? = some y->∀ x∈b.drop ib,key y<=key x)->ML key a b (out++(a.drop ia).take k) (ia+k) ib
 | 0,out,ia,m,_,_=>by rw[List.take_zero,cM];exact m
 |k+1,out,ia,m,hk,g=>by
  have h:a[ia]? = some a[ia]:=ae (by omega)
  have m2:=m.j7 sa h (g ia _ (ar _) (by omega) h)
  have m3:=ML.kX sa k m2 (by omega) λi y h1 h2=>g i y (by omega) (by omega)
  rw[gZ h,List.take_succ_cons]
  rw[aH]at m3
  rw[show ia+(k+1)=ia+1+k by omega]
  exact m3
theorem ML.kW (sb:fj key b):∀ (k:Nat) {out:List Keyed}{ib:Nat},ML key a b out ia ib->ib+k<=b.length->(∀ i y,ib<=i->i<ib+k->b[i]? = some y->∀ x∈a.drop ia,key y<=key x)->ML key a b (out++(b.drop ib).take k) ia (ib+k)
 | 0,out,ib,m,_,_=>by rw[List.take_zero,cM];exact m
 |k+1,out,ib,m,hk,g=>by
  have h:b[ib]? = some b[ib]:=ae (by omega)
  have m2:=m.j6 sb h (g ib _ (ar _) (by omega) h)
  have m3:=ML.kW sb k m2 (by omega) λi y h1 h2=>g i y (by omega) (by omega)
  rw[gZ h,List.take_succ_cons]
  rw[aH]at m3
  rw[show ib+(k+1)=ib+1+k by omega]
  exact m3
theorem ML.done (m:ML key a b out ia ib)(sa:fj key a)(sb:fj key b)(h:∀ x∈a.drop ia,∀ y∈b.drop ib,key x<=key y):Mgd key a b (out++a.drop ia++b.drop ib):=by
 refine⟨?_,by rw[aH];exact m.perm⟩
 rw[aH]
 exact aU.mpr ⟨m.srt,aU.mpr ⟨fQ sa _,fQ sb _,h⟩,λx hx y hy=>m.le x hx y (aP.mp hy)⟩
theorem ML.vV (m:ML key a b out ia ib)(sa:fj key a)(sb:fj key b)(h:∀ x∈a.drop ia,∀ y∈b.drop ib,key y<=key x):Mgd key a b (out++b.drop ib++a.drop ia):=by
 refine⟨?_,List.Perm.trans ?_ m.perm⟩
 ·rw[aH]
  exact aU.mpr ⟨m.srt,aU.mpr ⟨fQ sb _,fQ sa _,λx hx y hy=>h y hy x hx⟩,λx hx y hy=>m.le x hx y (aP.mp hy).symm⟩
 ·rw[aH];exact cD out cB
end
section
variable {prog:Program}{w:World}{A:Around}{E:Value->Shared->Prop}{s:Shared}{κ:SortKind}{key:Keyed->Int}{D:Keyed->Prop}
def SmS (st st':SortSt):Prop:=kindOf st'=kindOf st/\arrOf st'=arrOf st/\pendingOf st'=pendingOf st/\failedOf st'=failedOf st
theorem SmS.gal {st st':SortSt}(h:SmS st st')(g:Nat):SmS st (SortSt.mk' (kindOf st') (arrOf st') (pendingOf st') g (failedOf st')):=h
theorem dH {α:Type}{c:Prop} [Decidable c] {x y:StateT SortSt Sem α}{Q:α->SortSt->Prop}{st:SortSt}(h1:c->wpS (model prog w) A E s x Q st)(h2:¬c->wpS (model prog w) A E s y Q st):wpS (model prog w) A E s (if c then x else y) Q st:=by
 by_cases h:c
 ·rw[aC h];exact h1 h
 ·rw[az h];exact h2 h
def oE:Nat->StateT SortSt Sem Unit:=sortPriv% PySem.Builtin.setMinGallop
theorem ph {g:Nat}{Q:Unit->SortSt->Prop}{st:SortSt}(h:Q () (SortSt.mk' (kindOf st) (arrOf st) (pendingOf st) g (failedOf st))):wpS (model prog w) A E s (oE g) Q st:=wpS_modify h
theorem iR {g:Nat}{Q:Unit->SortSt->Prop}{st0 st:SortSt}(S:SmS st0 st)(h:∀ st',SmS st0 st'->Q () st'):wpS (model prog w) A E s (oE g) Q st:=ph (h _ (S.gal g))
theorem gL {left:Bool}{k:Keyed}{arr:Array Keyed}{base n:Nat}(h:∀ i j,i<=j->j<n->Ka key arr (base+i)<=Ka key arr (base+j)):∀ i j,i<=j->j<n->Bey key left k arr base j=true->Bey key left k arr base i=true:=by
 intro i j hij hj hb
 have:=h i j hij hj
 unfold Bey at hb ⊢
 cases left with
 |true=>
  rw[aC rfl]at hb ⊢
  have hb:Ka key arr (base+j)<key k:=by simpa using hb
  exact bO (by omega)
 |false=>
  rw[az (by decide)]at hb ⊢
  have hb:¬key k<Ka key arr (base+j):=by simpa using hb
  rw[bt (by omega)];rfl
theorem jW {k:Keyed}{arr:Array Keyed}{base i:Nat} :(Bey key false k arr base i=true) = ¬(key k<Ka key arr (base+i)):=by
 unfold Bey;rw[az (by decide)];simp
theorem hG {k:Keyed}{arr:Array Keyed}{base i:Nat} :(Bey key false k arr base i=false)=(key k<Ka key arr (base+i)):=by
 unfold Bey;rw[az (by decide)];simp
theorem lh {k:Keyed}{arr:Array Keyed}{base i:Nat} :(Bey key true k arr base i=true)=(Ka key arr (base+i)<key k):=by
 unfold Bey;rw[aC rfl];simp
theorem iY {k:Keyed}{arr:Array Keyed}{base i:Nat} :(Bey key true k arr base i=false) = ¬(Ka key arr (base+i)<key k):=by
 unfold Bey;rw[aC rfl];simp
theorem ki {arr:Array Keyed}(h:fj key arr.toList){i j:Nat}(hij:i<=j)(hj:j<arr.size):Ka key arr i<=Ka key arr j:=by
 by_cases e:i=j
 ·rw[e];exact cL _
 ·obtain⟨x,hx⟩:=dY (show i<arr.size by omega)
  obtain⟨y,hy⟩:=dY hj
  rw[eM hx,eM hy]
  have h2:=bP.mp h i j (by rw[ah];omega) (by rw[ah];omega) (by omega)
  rw[Array.getElem?_eq_some_iff]at hx hy
  obtain⟨_,rfl⟩:=hx
  obtain⟨_,rfl⟩:=hy
  exact h2
theorem nT (O:Orc prog w A s κ key D){a b:Array Keyed}(hA:∀ (i:Nat) x,a[i]? = some x->D x)(hB:∀ (i:Nat) x,b[i]? = some x->D x)(sa:fj key a.toList)(sb:fj key b.toList)(na:1<=a.size)(nb:1<=b.size)
  (h0:∀ x∈a.toList,∀ y,b[0]? = some y->key y<=key x) (hl:∀ y∈b.toList,∀ x,a[a.size-1]? = some x->key y<=key x) {st:SortSt} (hk:kindOf st=κ) {Q:Array Keyed->SortSt->Prop} (h:∀ r st',Mgd key a.toList b.toList r.toList->SmS st st'->Q r st'):
  wpS (model prog w) A E s (qJ a b) Q st:=by
 obtain⟨y0,hy0⟩:=dY (show 0<b.size from nb)
 have la:a.toList.length=a.size:=ah
 have lb:b.toList.length=b.size:=ah
 have ga:∀ {i:Nat}{x:Keyed},a[i]? = some x->a.toList[i]? = some x:=λh=>by rw[ak];exact h
 have gb:∀ {i:Nat}{x:Keyed},b[i]? = some x->b.toList[i]? = some x:=λh=>by rw[ak];exact h
 have dA:∀ {i:Nat}{x:Keyed},a[i]? = some x->∀ z∈a.toList.drop i,key x<=key z:=λ{i x} hx z hz=>by
  have e:=gZ (ga hx)
  have s2:=fQ sa i
  rw[e]at s2 hz
  rcases aJ.mp hz with rfl |q
  ·exact cL _
  ·exact(bG.mp s2).1 z q
 have dB:∀ {i:Nat}{x:Keyed},b[i]? = some x->∀ z∈b.toList.drop i,key x<=key z:=λ{i x} hx z hz=>by
  have e:=gZ (gb hx)
  have s2:=fQ sb i
  rw[e]at s2 hz
  rcases aJ.mp hz with rfl |q
  ·exact cL _
  ·exact(bG.mp s2).1 z q
 have m0:ML key a.toList b.toList #[y0].toList 0 1:=by
  refine(show ML key a.toList b.toList ([] ++ [y0]) 0 (0+1) from ML.j6 ⟨List.Pairwise.nil,λx hx=>(by cases hx),List.Perm.refl _⟩ sb (gb hy0) λx hx=>h0 x (by simpa using hx) y0 hy0)
 have fB:∀ {out:Array Keyed}{ia ib:Nat},ML key a.toList b.toList out.toList ia ib->ib=b.size->Mgd key a.toList b.toList (out++a.extract ia a.size++b.extract ib b.size).toList:=λ{out ia ib} m e=>by
  have eb:b.toList.drop ib = []:=bN (by omega)
  have:=m.done sa sb (λx _ y hy=>by rw[eb]at hy;cases hy)
  rw[eb]at this
  subst e
  simpa [aW,aZ]using this
 have fA:∀ {out:Array Keyed}{ia ib:Nat},ML key a.toList b.toList out.toList ia ib->ia=a.size->Mgd key a.toList b.toList (out++a.extract ia a.size++b.extract ib b.size).toList:=λ{out ia ib} m e=>by
  have ea:a.toList.drop ia = []:=bN (by omega)
  have:=m.done sa sb (λx hx=>by rw[ea]at hx;cases hx)
  rw[ea]at this
  subst e
  simpa [aW,aZ]using this
 have fL:∀ {out:Array Keyed}{ia ib:Nat},ML key a.toList b.toList out.toList ia ib->ia+1=a.size->Mgd key a.toList b.toList (out++b.extract ib b.size++a.extract ia a.size).toList:=λ{out ia ib} m e=>by
  obtain⟨z,hz⟩:=dY (show ia<a.size by omega)
  have ea:a.toList.drop ia = [z]:=by rw[gZ (ga hz),bN (by omega)]
  have:=m.vV sa sb (λx hx y hy=>by
   rw[ea]at hx
   rw[bh.mp hx]
   exact hl y (List.mem_of_mem_drop hy) z (by rw[show a.size-1=ia by omega];exact hz))
  simpa [aW,aZ]using this
 refine aj (fI (cZ ⟨rfl,?_⟩))
 refine aj (dW hy0 ?_)
 dsimp only
 by_cases e1:1=b.size
 ·rw[aC (by simpa using e1)]
  exact aq (h _ _ (fB m0 e1) ⟨rfl,rfl,rfl,rfl⟩)
 rw[az (by simpa using e1)]
 by_cases e2:0+1=a.size
 ·rw[aC (by simpa using e2)]
  exact aq (h _ _ (fL m0 e2) ⟨rfl,rfl,rfl,rfl⟩)
 rw[az (by simpa using e2)]
 refine aj (wpS_get ?_)
 refine aj (bX (bq (I:=λx c st'=>SmS st st'/\∃ out ia ib g,c=(none,out,ia,ib,g)/\ML key a.toList b.toList out.toList ia ib/\ia+1<a.size/\ib<b.size/\x+1<=ia+ib)
  (Q:=λc st'=>SmS st st'/\∃ r out ia ib g,c=(some r,out,ia,ib,g)/\Mgd key a.toList b.toList r.toList) ?_ ?_ ⟨⟨rfl,rfl,rfl,rfl⟩,_,0,1,_,rfl,m0,by omega,by omega,by omega⟩) ?_)
 ·rintro x c st1 _ hx ⟨S1,out,ia,ib,g,rfl,m,i1,i2,i3⟩
  dsimp only
  refine aj (bX (bq (I:=λy c st'=>SmS st st'/\∃ out ia' ib' ac bc,c=(none,out,ia',ib',ac,bc)/\ML key a.toList b.toList out.toList ia' ib'/\ia'+1<a.size/\ib'<b.size/\ia+ib+y=ia'+ib')
   (Q:=λc st'=>SmS st st'/\∃ o out ia' ib' ac bc,c=(o,out,ia',ib',ac,bc)/\((∃ r,o=some r/\Mgd key a.toList b.toList r.toList)\/(o=none/\ML key a.toList b.toList out.toList ia' ib'/\ia'+1<a.size/\ib'<b.size/\ia+ib+1<=ia'+ib'))) ?_ ?_ ⟨S1,_,_,_,_,_,rfl,m,i1,i2,rfl⟩) ?_)
  ·clear m i1 i2 S1
   rintro y c st2 _ hy ⟨S2,out,ia',ib',ac,bc,rfl,m,i1,i2,i3⟩
   dsimp only
   obtain⟨u,hu⟩:=dY i2
   obtain⟨v,hv⟩:=dY (show ia'<a.size by omega)
   refine aj (dW hu (aj (dW hv (aj (kE O (hB _ _ hu) (hA _ _ hv) (S2.1.trans hk) ?_)))))
   dsimp only
   by_cases q:key u<key v
   ·rw[aC (by simpa using q)]
    refine aj (dW hu ?_)
    have m2:ML key a.toList b.toList (out.push u).toList ia' (ib'+1):=by
     rw[bD]
     exact m.j6 sb (gb hu) λz hz=>by have:=dA hv z hz;omega
    refine dH (λe=>?_) (λe=>?_)
    ·exact aq ⟨S2,_,_,_,_,_,_,rfl,.inl ⟨_,rfl,fB m2 (by simpa using e)⟩⟩
    ·have e:ib'+1≠b.size:=by simpa using e
     refine dH (λ_=>?_) (λ_=>?_)
     ·exact aq ⟨S2,_,_,_,_,_,_,rfl,.inr ⟨rfl,m2,i1,by omega,by omega⟩⟩
     ·exact aq ⟨S2,_,_,_,_,_,rfl,m2,i1,by omega,by omega⟩
   ·rw[az (by simpa using q)]
    refine aj (dW hv ?_)
    have m2:ML key a.toList b.toList (out.push v).toList (ia'+1) ib':=by
     rw[bD]
     exact m.j7 sa (ga hv) λz hz=>by have:=dB hu z hz;omega
    refine dH (λe=>?_) (λe=>?_)
    ·exact aq ⟨S2,_,_,_,_,_,_,rfl,.inl ⟨_,rfl,fL m2 (by simpa using e)⟩⟩
    ·have e:ia'+1+1≠a.size:=by simpa using e
     refine dH (λ_=>?_) (λ_=>?_)
     ·exact aq ⟨S2,_,_,_,_,_,_,rfl,.inr ⟨rfl,m2,by omega,i2,by omega⟩⟩
     ·exact aq ⟨S2,_,_,_,_,_,rfl,m2,by omega,i2,by omega⟩
  ·rintro c st2 ⟨S2,out,ia',ib',ac,bc,rfl,m,i1,i2,i3⟩
   omega
  clear m i1 i2 S1
  rintro c st2 ⟨S2,o,out,ia',ib',ac,bc,rfl,z⟩
  dsimp only
  rcases z with⟨r,rfl,z⟩|⟨rfl,m,i1,i2,i4⟩
  ·exact aq ⟨S2,_,_,_,_,_,rfl,z⟩
  dsimp only
  refine aj (fI (cZ ⟨rfl,?_⟩))
  refine aj (bX (bq (I:=λy c st'=>SmS st st'/\∃ out ja jb g ac bc,c=(none,out,ja,jb,g,ac,bc)/\ML key a.toList b.toList out.toList ja jb/\ja+1<a.size/\jb<b.size/\ia'+ib'<=ja+jb)
   (Q:=λc st'=>SmS st st'/\∃ o out ja jb g ac bc,c=(o,out,ja,jb,g,ac,bc)/\((∃ r,o=some r/\Mgd key a.toList b.toList r.toList)\/(o=none/\ML key a.toList b.toList out.toList ja jb/\ja+1<a.size/\jb<b.size/\ia'+ib'<=ja+jb))) ?_ ?_ ⟨S2,_,_,_,_,_,_,rfl,m,i1,i2,ar _⟩) ?_)
  ·clear m i1 i2 S2
   rintro y c st3 _ hy ⟨S3,out,ja,jb,g,ac,bc,rfl,m,i1,i2,i5⟩
   dsimp only
   obtain⟨u,hu⟩:=dY i2
   refine dH (λ_=>?_) (λ_=>?_)
   all_goals
    refine aj (iR S3 λst4 S3=>?_)
    refine aj (dW hu ?_)
    refine aj (gj O (base:=ja) (n:=a.size-ja) (hint:=0) (hB _ _ hu) hA (by omega) (by omega) (gL λi j h1 h2=>ki sa (by omega) (by omega)) (S3.1.trans hk) λk C=>?_)
    obtain⟨C0,C1,C2⟩:=C
    dsimp only
    apply dH
    case' h1=>
     intro g1
     have m2:ML key a.toList b.toList (out++a.extract ja (ja+k)).toList (ja+k) jb:=by
      have:=m.kX sa k (by omega) λi y' h1 h2 hy' x hx=>by
       have:=C1 (i-ja) (by omega)
       have e:=eM (key:=key) (show a[ja+(i-ja)]? = some y' by rw[show ja+(i-ja)=i by omega,<-ak];exact hy')
       rw[jW,e]at this
       have:=dB hu x hx
       omega
      simpa [aW,aZ]using this
     refine dH (λg2=>aq ⟨S3,_,_,_,_,_,_,_,rfl,.inl ⟨_,rfl,fL m2 (by simpa using g2)⟩⟩) (λg2=>?_)
     have g2:ja+k+1≠a.size:=by simpa using g2
     refine dH (λg3=>aq ⟨S3,_,_,_,_,_,_,_,rfl,.inl ⟨_,rfl,fA m2 (by simpa using g3)⟩⟩) (λg3=>?_)
     have g3:ja+k≠a.size:=by simpa using g3
     have j1:ja+k+1<a.size:=by omega
     obtain⟨v,hv⟩:=dY (show ja+k<a.size by omega)
     have uv:key u<key v:=by
      have:=C2 k (ar _) (by omega)
      rw[hG,eM (key:=key) hv]at this
      exact this
     have j2:ia'+ib'<=ja+k+jb:=by omega
     generalize out++a.extract ja (ja+k)=kD at m2 ⊢
     generalize ja+k=ja' at m2 j1 hv j2 ⊢
    case' h2=>
     intro g1
     have m2:ML key a.toList b.toList out.toList ja jb:=m
     have j1:ja+1<a.size:=i1
     obtain⟨v,hv⟩:=dY (show ja<a.size by omega)
     have uv:key u<key v:=by
      have:=C2 0 (by omega) (by omega)
      rw[hG,cS,eM (key:=key) hv]at this
      exact this
     have j2:=i5
     generalize out=kD at m2 ⊢
     generalize ja=ja' at m2 j1 hv j2 ⊢
    all_goals
     refine aj (dW hu ?_)
     have m3:ML key a.toList b.toList (kD.push u).toList ja' (jb+1):=by
      rw[bD]
      exact m2.j6 sb (gb hu) λz hz=>by have:=dA hv z hz;omega
     refine dH (λg4=>aq ⟨S3,_,_,_,_,_,_,_,rfl,.inl ⟨_,rfl,fB m3 (by simpa using g4)⟩⟩) (λg4=>?_)
     have g4:jb+1≠b.size:=by simpa using g4
     refine aj (dW hv ?_)
     refine aj (gj O (base:=jb+1) (n:=b.size-(jb+1)) (hint:=0) (hA _ _ hv) hB (by omega) (by omega) (gL λi j h1 h2=>ki sb (by omega) (by omega)) (S3.1.trans hk) λk2 C=>?_)
     obtain⟨B0,B1,B2⟩:=C
     dsimp only
     apply dH
     case' h1=>
      intro g5
      have m4:ML key a.toList b.toList (kD.push u++b.extract (jb+1) (jb+1+k2)).toList ja' (jb+1+k2):=by
       have:=m3.kW sb k2 (by omega) λi y' h1 h2 hy' x hx=>by
        have:=B1 (i-(jb+1)) (by omega)
        have e:=eM (key:=key) (show b[jb+1+(i-(jb+1))]? = some y' by rw[show jb+1+(i-(jb+1))=i by omega,<-ak];exact hy')
        rw[lh,e]at this
        have:=dA hv x hx
        omega
       simpa [aW,aZ]using this
      refine dH (λg6=>aq ⟨S3,_,_,_,_,_,_,_,rfl,.inl ⟨_,rfl,fB m4 (by simpa using g6)⟩⟩) (λg6=>?_)
      have g6:jb+1+k2≠b.size:=by simpa using g6
      have j3:jb+1+k2<b.size:=by omega
      have vb:∀ z∈b.toList.drop (jb+1+k2),key v<=key z:=λz hz=>by
       obtain⟨t,ht⟩:=dY j3
       have:=B2 k2 (ar _) (by omega)
       rw[iY,eM (key:=key) ht]at this
       have:=dB ht z hz
       omega
      have j4:ia'+ib'<=ja'+(jb+1+k2):=by omega
      generalize kD.push u++b.extract (jb+1) (jb+1+k2)=qt at m4 ⊢
      generalize jb+1+k2=jb' at m4 j3 vb j4 ⊢
     case' h2=>
      intro g5
      have m4:=m3
      have j3:jb+1<b.size:=by omega
      have vb:∀ z∈b.toList.drop (jb+1),key v<=key z:=λz hz=>by
       obtain⟨t,ht⟩:=dY j3
       have:=B2 0 (by omega) (by omega)
       rw[iY,cS,eM (key:=key) ht]at this
       have:=dB ht z hz
       omega
      have j4:ia'+ib'<=ja'+(jb+1):=by omega
      generalize kD.push u=qt at m4 ⊢
      generalize jb+1=jb' at m4 j3 vb j4 ⊢
     all_goals
      refine aj (dW hv ?_)
      have m5:ML key a.toList b.toList (qt.push v).toList (ja'+1) jb':=by
       rw[bD]
       exact m4.j7 sa (ga hv) vb
      refine dH (λg7=>aq ⟨S3,_,_,_,_,_,_,_,rfl,.inl ⟨_,rfl,fL m5 (by simpa using g7)⟩⟩) (λg7=>?_)
      have g7:ja'+1+1≠a.size:=by simpa using g7
      refine dH (λ_=>?_) (λ_=>?_)
      ·exact aq ⟨S3,_,_,_,_,_,_,_,rfl,.inr ⟨rfl,m5,by omega,j3,by omega⟩⟩
      ·exact aq ⟨S3,_,_,_,_,_,_,rfl,m5,by omega,j3,by omega⟩
  ·rintro c st3 ⟨S3,out,ja,jb,g,ac,bc,rfl,m,i1,i2,i5⟩
   exact⟨S3,_,_,_,_,_,_,_,rfl,.inr ⟨rfl,m,i1,i2,i5⟩⟩
  rintro c st3 ⟨S3,o,out,ja,jb,g,ac,bc,rfl,z⟩
  rcases z with⟨r,rfl,z⟩|⟨rfl,m,i1,i2,i5⟩
  ·exact aq ⟨S3,_,_,_,_,_,rfl,z⟩
  ·exact aj (iR S3 λst4 S3=>aq ⟨S3,_,_,_,_,rfl,m,i1,i2,(by show x+1+1<=ja+jb;omega)⟩)
 ·rintro c st' ⟨S1,out,ia,ib,g,rfl,m,i1,i2,i3⟩
  omega
 rintro c st' ⟨S1,r,out,ia,ib,g,rfl,z⟩
 exact aq (h r st' z S1)
end
section
variable {key:Keyed->Int}{a b out:List Keyed}{na nb:Nat}
structure MH (key:Keyed->Int)(a b out:List Keyed)(na nb:Nat):Prop where
 srt:fj key out.reverse
 le:∀ x∈out,∀ y,y∈a.take na\/y∈b.take nb->key y<=key x
 perm:(a.take na++b.take nb++out.reverse).Perm (a++b)
theorem iP {l:List Keyed}{i:Nat}{x:Keyed}(h1:1<=i)(h:l[i-1]? = some x):l.take i=l.take (i-1) ++ [x]:=by
 obtain⟨n,rfl⟩:∃ n,i=n+1:=⟨i-1,by omega⟩
 rw[cy]at h ⊢
 rw[bK,h];rfl
theorem h7 {l:List Keyed}(h:fj key l)(i:Nat):fj key (l.take i):=h.sublist (List.take_sublist _ _)
theorem jv {l:List Keyed}(h:fj key l){i:Nat}{x:Keyed}(h1:1<=i)(hx:l[i-1]? = some x):∀ z∈l.take i,key z<=key x:=λz hz=>by
 have s2:=h7 h i
 rw[iP h1 hx]at s2 hz
 rcases aP.mp hz with q |q
 ·exact(aU.mp s2).2.2 z q x (bh.mpr rfl)
 ·rw[bh.mp q];exact cL _
theorem MH.j7 (m:MH key a b out na nb)(sa:fj key a)(h1:1<=na){y:Keyed}(h:a[na-1]? = some y)(g:∀ x∈b.take nb,key x<=key y):MH key a b (out ++ [y]) (na-1) nb:=by
 have e:=iP h1 h
 have m2:=m.le
 have m3:=m.perm
 have sl:=jv sa h1 h
 rw[e]at m2 m3 sl
 refine⟨?_,λx hx z hz=>?_,?_⟩
 ·rw[bE]
  refine aU.mpr ⟨bW _ _,m.srt,λx hx z hz=>?_⟩
  rw[show x=y by simpa using hx]
  exact m2 z (ck.mp hz) y (.inl (by simp))
 ·rcases aP.mp hx with hx |hx
  ·exact m2 x hx z (hz.imp_left λq=>bS _ q)
  ·rw[bh.mp hx]
   rcases hz with q |q
   ·exact sl z (bS _ q)
   ·exact g z q
 ·refine List.Perm.trans ?_ m3
  rw[bE]
  show(a.take (na-1)++b.take nb++([y]++out.reverse)).Perm _
  rw[<-aH]
  refine List.Perm.append_right _ ?_
  rw[aH,aH]
  exact cD _ cB
theorem MH.j6 (m:MH key a b out na nb)(sb:fj key b)(h1:1<=nb){y:Keyed}(h:b[nb-1]? = some y)(g:∀ x∈a.take na,key x<=key y):MH key a b (out ++ [y]) na (nb-1):=by
 have e:=iP h1 h
 have m2:=m.le
 have m3:=m.perm
 have sl:=jv sb h1 h
 rw[e]at m2 m3 sl
 refine⟨?_,λx hx z hz=>?_,?_⟩
 ·rw[bE]
  refine aU.mpr ⟨bW _ _,m.srt,λx hx z hz=>?_⟩
  rw[show x=y by simpa using hx]
  exact m2 z (ck.mp hz) y (.inr (by simp))
 ·rcases aP.mp hx with hx |hx
  ·exact m2 x hx z (hz.imp_right λq=>bS _ q)
  ·rw[bh.mp hx]
   rcases hz with q |q
   ·exact g z q
   ·exact sl z (bS _ q)
 ·refine List.Perm.trans ?_ m3
  rw[bE]
  show(a.take na++b.take (nb-1)++([y]++out.reverse)).Perm _
  rw[<-aH,aH (a.take na)]
theorem MH.kX (sa:fj key a):∀ (k p:Nat) {out:List Keyed}{na:Nat},na=p+k->MH key a b out na nb->na<=a.length->(∀ i y,p<=i->i<na->a[i]? = some y->∀ x∈b.take nb,key x<=key y)->MH key a b (out++((a.drop p).take (na-p)).reverse) p nb
 | 0,p,out,na,e,m,_,_=>by subst e;simpa using m
 |k+1,p,out,na,e,m,hk,g=>by
  have h:a[na-1]? = some a[na-1]:=ae (by omega)
  have m2:=m.j7 sa (by omega) h (g (na-1) _ (by omega) (by omega) h)
  have m3:=MH.kX sa k p (by omega) m2 (by omega) λi y h1 h2=>g i y h1 (by omega)
  have e2:(a.drop p).take (na-p)=(a.drop p).take (na-1-p) ++ [a[na-1]]:=by
   rw[iP (i:=na-p) (by omega) (x:=a[na-1]) (by rw[List.getElem?_drop,show p+(na-p-1)=na-1 by omega];exact h),show na-p-1=na-1-p by omega]
  rw[e2,bE]
  rw[aH]at m3
  exact m3
theorem MH.kW (sb:fj key b):∀ (k p:Nat) {out:List Keyed}{nb:Nat},nb=p+k->MH key a b out na nb->nb<=b.length->(∀ i y,p<=i->i<nb->b[i]? = some y->∀ x∈a.take na,key x<=key y)->MH key a b (out++((b.drop p).take (nb-p)).reverse) na p
 | 0,p,out,nb,e,m,_,_=>by subst e;simpa using m
 |k+1,p,out,nb,e,m,hk,g=>by
  have h:b[nb-1]? = some b[nb-1]:=ae (by omega)
  have m2:=m.j6 sb (by omega) h (g (nb-1) _ (by omega) (by omega) h)
  have m3:=MH.kW sb k p (by omega) m2 (by omega) λi y h1 h2=>g i y h1 (by omega)
  have e2:(b.drop p).take (nb-p)=(b.drop p).take (nb-1-p) ++ [b[nb-1]]:=by
   rw[iP (i:=nb-p) (by omega) (x:=b[nb-1]) (by rw[List.getElem?_drop,show p+(nb-p-1)=nb-1 by omega];exact h),show nb-p-1=nb-1-p by omega]
  rw[e2,bE]
  rw[aH]at m3
  exact m3
theorem MH.done (m:MH key a b out na nb)(sa:fj key a)(sb:fj key b)(h:∀ x∈a.take na,∀ y∈b.take nb,key x<=key y):Mgd key a b (a.take na++b.take nb++out.reverse):=
 ⟨aU.mpr ⟨aU.mpr ⟨h7 sa _,h7 sb _,h⟩,m.srt,λx hx y hy=>m.le y (ck.mp hy) x (aP.mp hx)⟩,m.perm⟩
theorem MH.doneF (m:MH key a b out na nb)(sa:fj key a)(sb:fj key b)(h:∀ x∈a.take na,∀ y∈b.take nb,key y<=key x):Mgd key a b (b.take nb++a.take na++out.reverse):=
 ⟨aU.mpr ⟨aU.mpr ⟨h7 sb _,h7 sa _,λx hx y hy=>h y hy x hx⟩,m.srt,λx hx y hy=>m.le y (ck.mp hy) x (aP.mp hx).symm⟩,(List.Perm.append_right _ cB).trans m.perm⟩
end
section
variable {prog:Program}{w:World}{A:Around}{E:Value->Shared->Prop}{s:Shared}{κ:SortKind}{key:Keyed->Int}{D:Keyed->Prop}
theorem nU (O:Orc prog w A s κ key D){a b:Array Keyed}(hA:∀ (i:Nat) x,a[i]? = some x->D x)(hB:∀ (i:Nat) x,b[i]? = some x->D x)(sa:fj key a.toList)(sb:fj key b.toList)(za:1<=a.size)(zb:1<=b.size)
  (h0:∀ x∈a.toList,∀ y,b[0]? = some y->key y<=key x) (hl:∀ y∈b.toList,∀ x,a[a.size-1]? = some x->key y<=key x) {st:SortSt} (hk:PyProof.Rows.kindOf st=κ) {Q:Array Keyed->SortSt->Prop} (h:∀ r st',Mgd key a.toList b.toList r.toList->SmS st st'->Q r st'):
  wpS (model prog w) A E s (qK a b) Q st:=by
 obtain⟨y0,hy0⟩:=dY (show a.size-1<a.size by omega)
 have la:a.toList.length=a.size:=ah
 have lb:b.toList.length=b.size:=ah
 have ga:∀ {i:Nat}{x:Keyed},a[i]? = some x->a.toList[i]? = some x:=λh=>by rw[ak];exact h
 have gb:∀ {i:Nat}{x:Keyed},b[i]? = some x->b.toList[i]? = some x:=λh=>by rw[ak];exact h
 have dA:∀ {i:Nat}{x:Keyed},1<=i->a[i-1]? = some x->∀ z∈a.toList.take i,key z<=key x:=λ{i x} h1 hx=>jv sa h1 (ga hx)
 have dB:∀ {i:Nat}{x:Keyed},1<=i->b[i-1]? = some x->∀ z∈b.toList.take i,key z<=key x:=λ{i x} h1 hx=>jv sb h1 (gb hx)
 have m0:MH key a.toList b.toList #[y0].toList (a.size-1) b.size:=by
  refine(show MH key a.toList b.toList ([] ++ [y0]) (a.size-1) b.size from MH.j7 (out:=[]) ⟨List.Pairwise.nil,λx hx=>(by cases hx),?_⟩ sa za (ga hy0) λx hx=>hl x (List.mem_of_mem_take hx) y0 hy0)
  rw[aZ (by omega),aZ (by omega)]
  simp
 have fA:∀ {out:Array Keyed}{na nb:Nat},MH key a.toList b.toList out.toList na nb->na=0->Mgd key a.toList b.toList (a.extract 0 na++b.extract 0 nb++out.reverse).toList:=λ{out na nb} m e=>by
  subst e
  have:=m.done sa sb (λx hx=>by simp at hx)
  simpa [aW]using this
 have fB:∀ {out:Array Keyed}{na nb:Nat},MH key a.toList b.toList out.toList na nb->nb=0->Mgd key a.toList b.toList (a.extract 0 na++b.extract 0 nb++out.reverse).toList:=λ{out na nb} m e=>by
  subst e
  have:=m.done sa sb (λx _ y hy=>by simp at hy)
  simpa [aW]using this
 have fF:∀ {out:Array Keyed}{na nb:Nat},MH key a.toList b.toList out.toList na nb->nb=1->Mgd key a.toList b.toList (b.extract 0 nb++a.extract 0 na++out.reverse).toList:=λ{out na nb} m e=>by
  subst e
  obtain⟨z,hz⟩:=dY (show 0<b.size by omega)
  have:=m.doneF sa sb (λx hx y hy=>by
   have e1:b.toList.take 1 = [z]:=by rw[iP (ar 1) (gb hz)];simp
   rw[e1]at hy
   rw[bh.mp hy]
   exact h0 x (List.mem_of_mem_take hx) z hz)
  simpa [aW]using this
 refine aj (fI (cZ ⟨rfl,?_⟩))
 refine aj (dW hy0 ?_)
 dsimp only
 refine dH (λe1=>aq (h _ _ (fA m0 (by simpa using e1)) ⟨rfl,rfl,rfl,rfl⟩)) (λe1=>?_)
 have e1:a.size-1≠0:=by simpa using e1
 refine dH (λe2=>aq (h _ _ (fF m0 (by simpa using e2)) ⟨rfl,rfl,rfl,rfl⟩)) (λe2=>?_)
 have e2:b.size≠1:=by simpa using e2
 refine aj (wpS_get ?_)
 refine aj (bX (bq (I:=λx c st'=>SmS st st'/\∃ na nb out g,c=(none,na,nb,out,g)/\MH key a.toList b.toList out.toList na nb/\1<=na/\2<=nb/\na<=a.size/\nb<=b.size/\na+nb+(x+1)<=a.size+b.size)
  (Q:=λc st'=>SmS st st'/\∃ r na nb out g,c=(some r,na,nb,out,g)/\Mgd key a.toList b.toList r.toList) ?_ ?_ ⟨⟨rfl,rfl,rfl,rfl⟩,_,_,_,_,rfl,m0,by omega,by omega,by omega,by omega,by omega⟩) ?_)
 ·rintro x c st1 _ hx ⟨S1,na,nb,out,g,rfl,m,i1,i2,z1,z2,i3⟩
  dsimp only
  refine aj (bX (bq (I:=λy c st'=>SmS st st'/\∃ na' nb' out ac bc,c=(none,na',nb',out,ac,bc)/\MH key a.toList b.toList out.toList na' nb'/\1<=na'/\2<=nb'/\na'<=a.size/\nb'<=b.size/\na'+nb'+y=na+nb)
   (Q:=λc st'=>SmS st st'/\∃ o na' nb' out ac bc,c=(o,na',nb',out,ac,bc)/\((∃ r,o=some r/\Mgd key a.toList b.toList r.toList)\/(o=none/\MH key a.toList b.toList out.toList na' nb'/\1<=na'/\2<=nb'/\na'<=a.size/\nb'<=b.size/\na'+nb'+1<=na+nb))) ?_ ?_ ⟨S1,_,_,_,_,_,rfl,m,i1,i2,z1,z2,rfl⟩) ?_)
  ·clear m i1 i2 S1
   rintro y c st2 _ hy ⟨S2,na',nb',out,ac,bc,rfl,m,i1,i2,y1,y2,i4⟩
   dsimp only
   obtain⟨u,hu⟩:=dY (show nb'-1<b.size by omega)
   obtain⟨v,hv⟩:=dY (show na'-1<a.size by omega)
   refine aj (dW hu (aj (dW hv (aj (kE O (hB _ _ hu) (hA _ _ hv) (S2.1.trans hk) ?_)))))
   dsimp only
   by_cases q:key u<key v
   ·rw[aC (by simpa using q)]
    refine aj (dW hv ?_)
    have m2:MH key a.toList b.toList (out.push v).toList (na'-1) nb':=by
     rw[bD]
     exact m.j7 sa i1 (ga hv) λz hz=>by have:=dB (by omega) hu z hz;omega
    refine dH (λe=>?_) (λe=>?_)
    ·exact aq ⟨S2,_,_,_,_,_,_,rfl,.inl ⟨_,rfl,fA m2 (by simpa using e)⟩⟩
    ·have e:na'-1≠0:=by simpa using e
     refine dH (λ_=>?_) (λ_=>?_)
     ·exact aq ⟨S2,_,_,_,_,_,_,rfl,.inr ⟨rfl,m2,by omega,i2,by omega,y2,by omega⟩⟩
     ·exact aq ⟨S2,_,_,_,_,_,rfl,m2,by omega,i2,by omega,y2,by omega⟩
   ·rw[az (by simpa using q)]
    refine aj (dW hu ?_)
    have m2:MH key a.toList b.toList (out.push u).toList na' (nb'-1):=by
     rw[bD]
     exact m.j6 sb (by omega) (gb hu) λz hz=>by have:=dA i1 hv z hz;omega
    refine dH (λe=>?_) (λe=>?_)
    ·exact aq ⟨S2,_,_,_,_,_,_,rfl,.inl ⟨_,rfl,fF m2 (by simpa using e)⟩⟩
    ·have e:nb'-1≠1:=by simpa using e
     refine dH (λ_=>?_) (λ_=>?_)
     ·exact aq ⟨S2,_,_,_,_,_,_,rfl,.inr ⟨rfl,m2,i1,by omega,y1,by omega,by omega⟩⟩
     ·exact aq ⟨S2,_,_,_,_,_,rfl,m2,i1,by omega,y1,by omega,by omega⟩
  ·rintro c st2 ⟨S2,na',nb',out,ac,bc,rfl,m,i1,i2,y1,y2,i4⟩
   omega
  clear m i1 i2 S1
  rintro c st2 ⟨S2,o,na',nb',out,ac,bc,rfl,z⟩
  dsimp only
  rcases z with⟨r,rfl,z⟩|⟨rfl,m,i1,i2,y1,y2,i4⟩
  ·exact aq ⟨S2,_,_,_,_,_,rfl,z⟩
  dsimp only
  refine aj (fI (cZ ⟨rfl,?_⟩))
  refine aj (bX (bq (I:=λy c st'=>SmS st st'/\∃ ja jb out g ac bc,c=(none,ja,jb,out,g,ac,bc)/\MH key a.toList b.toList out.toList ja jb/\1<=ja/\2<=jb/\ja<=a.size/\jb<=b.size/\ja+jb<=na'+nb')
   (Q:=λc st'=>SmS st st'/\∃ o ja jb out g ac bc,c=(o,ja,jb,out,g,ac,bc)/\((∃ r,o=some r/\Mgd key a.toList b.toList r.toList)\/(o=none/\MH key a.toList b.toList out.toList ja jb/\1<=ja/\2<=jb/\ja<=a.size/\jb<=b.size/\ja+jb<=na'+nb'))) ?_ ?_ ⟨S2,_,_,_,_,_,_,rfl,m,i1,i2,y1,y2,ar _⟩) ?_)
  ·clear m i1 i2 S2 z1 z2
   rintro y c st3 _ hy ⟨S3,ja,jb,out,g,ac,bc,rfl,m,i1,i2,z1,z2,i5⟩
   dsimp only
   obtain⟨u,hu⟩:=dY (show jb-1<b.size by omega)
   refine dH (λ_=>?_) (λ_=>?_)
   all_goals
    refine aj (iR S3 λst4 S3=>?_)
    refine aj (dW hu ?_)
    refine aj (gj O (base:=0) (n:=ja) (hint:=ja-1) (hB _ _ hu) hA (by omega) (by omega) (gL λi j h1 h2=>ki sa (by omega) (by omega)) (S3.1.trans hk) λk C=>?_)
    obtain⟨C0,C1,C2⟩:=C
    dsimp only
    have ka:∀ z∈a.toList.take k,key z<=key u:=λz hz=>by
     obtain⟨i,hi,e⟩:=br.mp hz
     rw[bH]at hi
     have:=C1 i (by omega)
     rw[List.getElem_take]at e
     rw[jW,bY,eM (key:=key) (show a[i]? = some z by rw[<-ak,ae (by omega),e])]at this
     omega
    apply dH
    case' h1=>
     intro g1
     have m2:MH key a.toList b.toList (out++(a.extract k ja).reverse).toList k jb:=by
      have:=m.kX sa (ja-k) k (by omega) (by omega) λi y' h1 h2 hy' x hx=>by
       have:=C2 i h1 h2
       rw[hG,bY,eM (key:=key) (show a[i]? = some y' by rw[<-ak];exact hy')]at this
       have:=dB (by omega) hu x hx
       omega
      simpa [aW,aZ]using this
     refine dH (λg2=>aq ⟨S3,_,_,_,_,_,_,_,rfl,.inl ⟨_,rfl,fA m2 (by simpa using g2)⟩⟩) (λg2=>?_)
     have g2:k≠0:=by simpa using g2
     have j1:1<=k:=by omega
     have j0:k<=a.size:=by omega
     have j2:k+jb<=na'+nb':=by omega
     generalize ja-k=kk
     generalize out++(a.extract k ja).reverse=kD at m2 ⊢
     generalize k=ja' at m2 j1 j0 j2 ka ⊢
    case' h2=>
     intro g1
     have ek:k=ja:=by omega
     have m2:MH key a.toList b.toList out.toList ja jb:=m
     have j1:1<=ja:=i1
     have j0:ja<=a.size:=by omega
     have j2:=i5
     generalize ja-k=kk
     subst ek
     generalize out=kD at m2 ⊢
     generalize k=ja' at m2 j1 j0 j2 ka ⊢
    all_goals
     obtain⟨v,hv⟩:=dY (show ja'-1<a.size by omega)
     refine aj (dW hu ?_)
     have m3:MH key a.toList b.toList (kD.push u).toList ja' (jb-1):=by
      rw[bD]
      exact m2.j6 sb (by omega) (gb hu) ka
     refine dH (λg4=>aq ⟨S3,_,_,_,_,_,_,_,rfl,.inl ⟨_,rfl,fF m3 (by simpa using g4)⟩⟩) (λg4=>?_)
     have g4:jb-1≠1:=by simpa using g4
     refine aj (dW hv ?_)
     refine aj (gj O (base:=0) (n:=jb-1) (hint:=jb-1-1) (hA _ _ hv) hB (by omega) (by omega) (gL λi j h1 h2=>ki sb (by omega) (by omega)) (S3.1.trans hk) λk2 C=>?_)
     obtain⟨B0,B1,B2⟩:=C
     dsimp only
     have kb:∀ z∈b.toList.take k2,key z<=key v:=λz hz=>by
      obtain⟨i,hi,e⟩:=br.mp hz
      rw[bH]at hi
      have:=B1 i (by omega)
      rw[List.getElem_take]at e
      rw[lh,bY,eM (key:=key) (show b[i]? = some z by rw[<-ak,ae (by omega),e])]at this
      omega
     apply dH
     case' h1=>
      intro g5
      have m4:MH key a.toList b.toList (kD.push u++(b.extract k2 (jb-1)).reverse).toList ja' k2:=by
       have:=m3.kW sb (jb-1-k2) k2 (by omega) (by omega) λi y' h1 h2 hy' x hx=>by
        have:=B2 i h1 h2
        rw[iY,bY,eM (key:=key) (show b[i]? = some y' by rw[<-ak];exact hy')]at this
        have:=dA (by omega) hv x hx
        omega
       simpa [aW,aZ]using this
      refine dH (λg6=>aq ⟨S3,_,_,_,_,_,_,_,rfl,.inl ⟨_,rfl,fF m4 (by simpa using g6)⟩⟩) (λg6=>?_)
      have g6:k2≠1:=by simpa using g6
      refine dH (λg8=>aq ⟨S3,_,_,_,_,_,_,_,rfl,.inl ⟨_,rfl,fB m4 (by simpa using g8)⟩⟩) (λg8=>?_)
      have g8:k2≠0:=by simpa using g8
      have j3:2<=k2:=by omega
      have j5:k2<=b.size:=by omega
      have j4:ja'+k2<=na'+nb':=by omega
      generalize jb-1-k2=kk2
      generalize kD.push u++(b.extract k2 (jb-1)).reverse=qt at m4 ⊢
      generalize k2=jb' at m4 j3 j5 kb j4 ⊢
     case' h2=>
      intro g5
      have ek:k2=jb-1:=by omega
      rw[ek]at kb
      have m4:=m3
      have j3:2<=jb-1:=by omega
      have j5:jb-1<=b.size:=by omega
      have j4:ja'+(jb-1)<=na'+nb':=by omega
      generalize jb-1-k2=kk2
      generalize kD.push u=qt at m4 ⊢
      generalize jb-1=jb' at m4 j3 j5 kb j4 ⊢
     all_goals
      refine aj (dW hv ?_)
      have m5:MH key a.toList b.toList (qt.push v).toList (ja'-1) jb':=by
       rw[bD]
       exact m4.j7 sa j1 (ga hv) kb
      refine dH (λg7=>aq ⟨S3,_,_,_,_,_,_,_,rfl,.inl ⟨_,rfl,fA m5 (by simpa using g7)⟩⟩) (λg7=>?_)
      have g7:ja'-1≠0:=by simpa using g7
      refine dH (λ_=>?_) (λ_=>?_)
      ·exact aq ⟨S3,_,_,_,_,_,_,_,rfl,.inr ⟨rfl,m5,by omega,j3,by omega,j5,by omega⟩⟩
      ·exact aq ⟨S3,_,_,_,_,_,_,rfl,m5,by omega,j3,by omega,j5,by omega⟩
  ·rintro c st3 ⟨S3,ja,jb,out,g,ac,bc,rfl,m,i1,i2,z1,z2,i5⟩
   exact⟨S3,_,_,_,_,_,_,_,rfl,.inr ⟨rfl,m,i1,i2,z1,z2,i5⟩⟩
  rintro c st3 ⟨S3,o,ja,jb,out,g,ac,bc,rfl,z⟩
  rcases z with⟨r,rfl,z⟩|⟨rfl,m,i1,i2,x1,x2,i5⟩
  ·exact aq ⟨S3,_,_,_,_,_,rfl,z⟩
  ·exact aj (iR S3 λst4 S3=>aq ⟨S3,_,_,_,_,rfl,m,i1,i2,x1,x2,(by show ja+jb+(x+1+1)<=a.size+b.size;omega)⟩)
 ·rintro c st' ⟨S1,na,nb,out,g,rfl,m,i1,i2,x1,x2,i3⟩
  omega
 rintro c st' ⟨S1,r,na,nb,out,g,rfl,z⟩
 exact aq (h r st' z S1)
end
section
variable {key:Keyed->Int}
def gv (key:Keyed->Int)(arr:Array Keyed)(s n:Nat):Prop:=∀ i j,i<=j->j<n->Ka key arr (s+i)<=Ka key arr (s+j)
def Pd (key:Keyed->Int)(arr:Array Keyed):Nat->List (Nat×Nat×Nat)->Nat->Prop
 |s,[],lo=>s=lo
 |s,p::r,lo=>p.1=s/\1<=p.2.1/\gv key arr s p.2.1/\Pd key arr (s+p.2.1) r lo
theorem gv.congr {arr fE:Array Keyed}{s n:Nat}(h:gv key arr s n)(e:∀ i,s<=i->i<s+n->Ka key fE i=Ka key arr i):gv key fE s n:=λi j hij hj=>by
 rw[e _ (by omega) (by omega),e _ (by omega) (by omega)];exact h i j hij hj
theorem Pd.le {arr:Array Keyed} :∀ {p:List (Nat×Nat×Nat)}{s lo:Nat},Pd key arr s p lo->s+p.length<=lo
 |[],s,lo,h=>by have h:s=lo:=h;simp[h]
 |p::r,s,lo,h=>by
  have:=Pd.le h.2.2.2
  have:=h.2.1
  rw[bb];omega
theorem Pd.congr {arr fE:Array Keyed} :∀ {p:List (Nat×Nat×Nat)}{s lo:Nat},Pd key arr s p lo->(∀ i,s<=i->i<lo->Ka key fE i=Ka key arr i)->Pd key fE s p lo
 |[],s,lo,h,_=>h
 |p::r,s,lo,h,e=>⟨h.1,h.2.1,h.2.2.1.congr λi h1 h2=>e i h1 (by have:=Pd.le h.2.2.2;omega),Pd.congr h.2.2.2 λi h1 h2=>e i (by omega) h2⟩
theorem Pd.snoc {arr:Array Keyed} :∀ {p:List (Nat×Nat×Nat)}{s lo n pw:Nat},Pd key arr s p lo->1<=n->gv key arr lo n->Pd key arr s (p ++ [(lo,n,pw)]) (lo+n)
 |[],s,lo,n,pw,h,h1,h2=>by
  have h:s=lo:=h
  subst h
  exact⟨rfl,h1,h2,rfl⟩
 |p::r,s,lo,n,pw,h,h1,h2=>⟨h.1,h.2.1,h.2.2.1,Pd.snoc h.2.2.2 h1 h2⟩
theorem Pd.two {arr:Array Keyed} :∀ {p:List (Nat×Nat×Nat)}{s lo i:Nat}{a b:Nat×Nat×Nat},Pd key arr s p lo->p[i]? = some a->p[i+1]? = some b->
  s<=a.1/\b.1=a.1+a.2.1/\1<=a.2.1/\1<=b.2.1/\gv key arr a.1 a.2.1/\gv key arr b.1 b.2.1/\b.1+b.2.1<=lo/\
  ∀ fE,(∀ j,j<a.1\/b.1+b.2.1<=j->Ka key fE j=Ka key arr j)->gv key fE a.1 (a.2.1+b.2.1)->Pd key fE s ((p.set i (a.1,a.2.1+b.2.1,a.2.2)).eraseIdx (i+1)) lo
 |[],s,lo,i,a,b,h,h1,_=>by simp at h1
 |q::r,s,lo,0,a,b,h,h1,h2=>by
  have h1:q=a:=by simpa using h1
  subst h1
  cases r with
  |nil=>simp at h2
  |cons q2 r=>
   have h2:q2=b:=by simpa using h2
   subst h2
   obtain⟨e1,n1,g1,e2,n2,g2,t⟩:=h
   have l:=Pd.le t
   refine⟨by omega,by omega,n1,n2,by rw[e1];exact g1,by rw[e2];exact g2,by omega,λfE ag sg=>?_⟩
   show Pd key fE s ((q.1,q.2.1+q2.2.1,q.2.2)::r) lo
   refine⟨e1,by show 1<=q.2.1+q2.2.1;omega,by rw[e1]at sg;exact sg,?_⟩
   show Pd key fE (s+(q.2.1+q2.2.1)) r lo
   rw[<-Nat.add_assoc]
   exact t.congr λj h1 h2=>ag j (.inr (by omega))
 |q::r,s,lo,i+1,a,b,h,h1,h2=>by
  obtain⟨e1,n1,g1,t⟩:=h
  obtain⟨a1,a2,a3,a4,a5,a6,a7,a8⟩:=Pd.two t (by simpa using h1) (by simpa using h2)
  refine⟨by omega,a2,a3,a4,a5,a6,a7,λfE ag sg=>?_⟩
  show Pd key fE s (q::(r.set i _).eraseIdx (i+1)) lo
  exact⟨e1,n1,g1.congr λj h1 h2=>ag j (.inl (by omega)),a8 fE ag sg⟩
theorem nr (b:Nat):∀ (l:List Keyed) (o:Nat) (arr:Array Keyed),b+o+l.length<=arr.size->∀ i:Nat,((l.zipIdx o).foldl (λa (pj:Keyed×Nat)=>a.setIfInBounds (b+pj.2) pj.1) arr)[i]? = if b+o<=i/\i<b+o+l.length then l[i-(b+o)]? else arr[i]?
 |[],o,arr,h,i=>by rw[az (by simp)];rfl
 |x::l,o,arr,h,i=>by
  rw[bb]at h
  rw[List.zipIdx_cons,List.foldl_cons,nr b l (o+1) _ (by rw[Array.size_setIfInBounds];omega) i,Array.getElem?_setIfInBounds]
  rw[bb]
  by_cases g:i=b+o
  ·subst g
   rw[az (by omega),aC rfl,aC (by omega),aC (by omega),Nat.sub_self];rfl
  ·by_cases g2:b+o<=i/\i<b+o+(l.length+1)
   ·rw[aC (by omega),aC g2]
    rw[show i-(b+o)=i-(b+(o+1))+1 by omega];rfl
   ·rw[az (by omega),az g2,az (λz=>g z.symm)]
end
section
variable {prog:Program}{w:World}{A:Around}{E:Value->Shared->Prop}{s:Shared}{κ:SortKind}{key:Keyed->Int}{D:Keyed->Prop}
structure Sok (κ:SortKind)(key:Keyed->Int)(D:Keyed->Prop)(a₀:Array Keyed)(lo:Nat)(st:SortSt):Prop where
 kind:PyProof.Rows.kindOf st=κ
 fail:failedOf st=none
 perm:(arrOf st).Perm a₀
 pend:Pd key (arrOf st) 0 (pendingOf st).toList lo
theorem Sok.size {a₀:Array Keyed}{lo:Nat}{st:SortSt}(h:Sok κ key D a₀ lo st):(arrOf st).size=a₀.size:=by
 have:=(cj.mp h.perm).length_eq
 simpa using this
theorem Sok.dom {a₀:Array Keyed}{lo:Nat}{st:SortSt}(h:Sok κ key D a₀ lo st)(hD:∀ x∈a₀.toList,D x)(i:Nat)(x:Keyed)(hx:(arrOf st)[i]? = some x):D x:=
 hD x ((cj.mp h.perm).mem_iff.mp (aN (by rw[ak];exact hx)))
theorem tE {x:SortSt}{Q:PUnit->SortSt->Prop}{st:SortSt}(h:∀ st1,PyProof.Rows.kindOf st1=PyProof.Rows.kindOf x->arrOf st1=arrOf x->pendingOf st1=pendingOf x->failedOf st1=failedOf x->Q ⟨⟩ st1):wpS (model prog w) A E s (set x:StateT SortSt Sem PUnit) Q st:=by
 unfold wpS;rw[StateT.run_set];exact aS ⟨rfl,h x rfl rfl rfl rfl⟩
theorem kJ (O:Orc prog w A s κ key D){a₀:Array Keyed}(hD:∀ x∈a₀.toList,D x){lo:Nat}{st:SortSt}(S:Sok κ key D a₀ lo st)(hlo:lo<=a₀.size){i:Nat}(hi:i+1<(pendingOf st).size){Q:Bool->SortSt->Prop}
  (h:∀ st',Sok κ key D a₀ lo st'->(pendingOf st').size+1=(pendingOf st).size->(∀ j,lo<=j->Ka key (arrOf st') j=Ka key (arrOf st) j)->Q true st'):wpS (model prog w) A E s (mergeAt' i) Q st:=by
 obtain⟨⟨sa,na,pw⟩,ea⟩:∃ a,(pendingOf st)[i]? = some a:=⟨_,aR (by omega)⟩
 obtain⟨⟨sb,nb,pw2⟩,eb⟩:∃ b,(pendingOf st)[i+1]? = some b:=⟨_,aR hi⟩
 have hs:=S.size
 have dm:=S.dom hD
 obtain⟨_,e1,n1,n2,g1,g2,le,mk⟩:=S.pend.two (by rw[ak];exact ea) (by rw[ak];exact eb)
 dsimp only at e1 n1 n2 g1 g2 le mk
 have lp:(((pendingOf st).setIfInBounds i (sa,na+nb,pw)).eraseIdxIfInBounds (i+1)).toList=((pendingOf st).toList.set i (sa,na+nb,pw)).eraseIdx (i+1):=by
  rw[Array.toList_eraseIdxIfInBounds,Array.toList_setIfInBounds]
 have sz:(((pendingOf st).setIfInBounds i (sa,na+nb,pw)).eraseIdxIfInBounds (i+1)).size+1=(pendingOf st).size:=by
  have:=cT List.length lp
  rw[ah,List.length_eraseIdx,List.length_set,ah,aC hi]at this
  omega
 refine aj (wpS_get ?_)
 dsimp only
 rw[ea,eb]
 dsimp only
 refine aj (tE λst1 k1 k2 k3 k4=>?_)
 have k1:PyProof.Rows.kindOf st1=κ:=k1.trans S.kind
 have k2:arrOf st1=arrOf st:=k2
 have k3:pendingOf st1=((pendingOf st).setIfInBounds i (sa,na+nb,pw)).eraseIdxIfInBounds (i+1):=k3
 have k4:failedOf st1=none:=k4.trans S.fail
 have same:gv key (arrOf st) sa (na+nb)->Q true st1:=λsg=>h st1 ⟨k1,k4,by rw[k2];exact S.perm,by rw[k2,k3,lp];exact mk _ (λ_ _=>rfl) sg⟩ (by rw[k3];exact sz) (λj _=>by rw[k2])
 obtain⟨u,hu⟩:=dY (show sb<(arrOf st).size by omega)
 have ku:=eM (key:=key) hu
 refine aj (dW hu ?_)
 refine aj (gj O (base:=sa) (n:=na) (hint:=0) (dm _ _ hu) dm (by omega) (by omega) (gL g1) k1 λk C=>?_)
 obtain⟨C0,C1,C2⟩:=C
 have C1:∀ i,i<k->Ka key (arrOf st) (sa+i)<=key u:=λi hi=>by have:=C1 i hi;rw[jW]at this;omega
 have C2:∀ i,k<=i->i<na->key u<Ka key (arrOf st) (sa+i):=λi hi h2=>by have:=C2 i hi h2;rw[hG]at this;exact this
 have bu:∀ i,i<nb->key u<=Ka key (arrOf st) (sb+i):=λi hi=>by
  have:=g2 0 i (by omega) hi
  rw[cS,ku]at this
  exact this
 dsimp only
 refine dH (λe=>aq (same λi j hij hj=>?_)) (λe=>?_)
 ·have e:na-k=0:=by simpa using e
  by_cases q:j<na
  ·exact g1 i j hij q
  ·have h2:=bu (j-na) (by omega)
   rw[show sb+(j-na)=sa+j by omega]at h2
   by_cases q2:i<na
   ·have:=C1 i (by omega)
    omega
   ·have:=g2 (i-na) (j-na) (by omega) (by omega)
    rw[show sb+(j-na)=sa+j by omega,show sb+(i-na)=sa+i by omega]at this
    exact this
 have e:na-k≠0:=by simpa using e
 obtain⟨v,hv⟩:=dY (show sa+k+(na-k)-1<(arrOf st).size by omega)
 have kv:=eM (key:=key) hv
 refine aj (dW hv ?_)
 refine aj (gj O (base:=sb) (n:=nb) (hint:=nb-1) (dm _ _ hv) dm (by omega) (by omega) (gL g2) k1 λm C=>?_)
 obtain⟨B0,B1,B2⟩:=C
 have B1:∀ i,i<m->Ka key (arrOf st) (sb+i)<key v:=λi hi=>by have:=B1 i hi;rw[lh]at this;exact this
 have B2:∀ i,m<=i->i<nb->key v<=Ka key (arrOf st) (sb+i):=λi hi h2=>by have:=B2 i hi h2;rw[iY]at this;omega
 have av:∀ i,i<na->Ka key (arrOf st) (sa+i)<=key v:=λi hi=>by
  have:=g1 i (na-1) (by omega) (by omega)
  rw[show sa+(na-1)=sa+k+(na-k)-1 by omega,kv]at this
  exact this
 dsimp only
 refine dH (λe=>aq (same λi j hij hj=>?_)) (λe3=>?_)
 ·have e:m=0:=by simpa using e
  by_cases q:j<na
  ·exact g1 i j hij q
  ·have h2:=B2 (j-na) (by omega) (by omega)
   rw[show sb+(j-na)=sa+j by omega]at h2
   by_cases q2:i<na
   ·have:=av i q2
    omega
   ·have:=g2 (i-na) (j-na) (by omega) (by omega)
    rw[show sb+(j-na)=sa+j by omega,show sb+(i-na)=sa+i by omega]at this
    exact this
 have e3:m≠0:=by simpa using e3
 have zx:((arrOf st).extract (sa+k) sb).size=na-k:=by rw[Array.size_extract];omega
 have zy:((arrOf st).extract sb (sb+m)).size=m:=by rw[Array.size_extract];omega
 have gx:∀ t:Nat,t<na-k->((arrOf st).extract (sa+k) sb)[t]? = (arrOf st)[sa+k+t]? :=λt ht=>by rw[Array.getElem?_extract,aC (by omega)]
 have gy:∀ t:Nat,t<m->((arrOf st).extract sb (sb+m))[t]? = (arrOf st)[sb+t]? :=λt ht=>by rw[Array.getElem?_extract,aC (by omega)]
 have mx:∀ z∈((arrOf st).extract (sa+k) sb).toList,∃ t,t<na-k/\(arrOf st)[sa+k+t]? = some z:=λz hz=>by
  obtain⟨t,ht,et⟩:=br.mp hz
  rw[ah,zx]at ht
  refine⟨t,ht,?_⟩
  rw[<-gx t ht,<-ak,ae (by rw[ah,zx];exact ht),et]
 have my:∀ z∈((arrOf st).extract sb (sb+m)).toList,∃ t,t<m/\(arrOf st)[sb+t]? = some z:=λz hz=>by
  obtain⟨t,ht,et⟩:=br.mp hz
  rw[ah,zy]at ht
  refine⟨t,ht,?_⟩
  rw[<-gy t ht,<-ak,ae (by rw[ah,zy];exact ht),et]
 have px:∀ z∈((arrOf st).extract (sa+k) sb).toList,key u<=key z/\key z<=key v:=λz hz=>by
  obtain⟨t,ht,et⟩:=mx z hz
  have h1:=C2 (k+t) (by omega) (by omega)
  have h2:=av (k+t) (by omega)
  rw[show sa+(k+t)=sa+k+t by omega,eM et]at h1 h2
  omega
 have py:∀ z∈((arrOf st).extract sb (sb+m)).toList,key u<=key z/\key z<=key v:=λz hz=>by
  obtain⟨t,ht,et⟩:=my z hz
  have h1:=bu t (by omega)
  have h2:=B1 t ht
  rw[eM et]at h1 h2
  omega
 have sx:fj key ((arrOf st).extract (sa+k) sb).toList:=bP.mpr λi j hi hj hij=>by
  rw[ah,zx]at hi hj
  have h1:=g1 (k+i) (k+j) (by omega) (by omega)
  have e1:(arrOf st)[sa+k+i]? = some ((arrOf st).extract (sa+k) sb).toList[i]:=by rw[<-gx i hi,<-ak,ae (by rw[ah,zx];exact hi)]
  have e2:(arrOf st)[sa+k+j]? = some ((arrOf st).extract (sa+k) sb).toList[j]:=by rw[<-gx j hj,<-ak,ae (by rw[ah,zx];exact hj)]
  rw[show sa+(k+i)=sa+k+i by omega,show sa+(k+j)=sa+k+j by omega,eM e1,eM e2]at h1
  exact h1
 have sy:fj key ((arrOf st).extract sb (sb+m)).toList:=bP.mpr λi j hi hj hij=>by
  rw[ah,zy]at hi hj
  have h1:=g2 i j (by omega) (by omega)
  have e1:(arrOf st)[sb+i]? = some ((arrOf st).extract sb (sb+m)).toList[i]:=by rw[<-gy i hi,<-ak,ae (by rw[ah,zy];exact hi)]
  have e2:(arrOf st)[sb+j]? = some ((arrOf st).extract sb (sb+m)).toList[j]:=by rw[<-gy j hj,<-ak,ae (by rw[ah,zy];exact hj)]
  rw[eM e1,eM e2]at h1
  exact h1
 have hA:∀ (i:Nat) x,((arrOf st).extract (sa+k) sb)[i]? = some x->D x:=λi x hx=>by
  obtain⟨t,_,et⟩:=mx x (aN (by rw[ak];exact hx))
  exact dm _ _ et
 have hB:∀ (i:Nat) x,((arrOf st).extract sb (sb+m))[i]? = some x->D x:=λi x hx=>by
  obtain⟨t,_,et⟩:=my x (aN (by rw[ak];exact hx))
  exact dm _ _ et
 have h0:∀ x∈((arrOf st).extract (sa+k) sb).toList,∀ y,((arrOf st).extract sb (sb+m))[0]? = some y->key y<=key x:=λx hx y hy=>by
  rw[gy 0 (by omega),cS,hu]at hy
  cases hy
  exact(px x hx).1
 have hl:∀ y∈((arrOf st).extract sb (sb+m)).toList,∀ x,((arrOf st).extract (sa+k) sb)[((arrOf st).extract (sa+k) sb).size-1]? = some x->key y<=key x:=λy hy x hx=>by
  rw[zx,gx _ (by omega),show sa+k+(na-k-1)=sa+k+(na-k)-1 by omega,hv]at hx
  cases hx
  exact(py y hy).2
 have back:∀ r:Array Keyed,Mgd key ((arrOf st).extract (sa+k) sb).toList ((arrOf st).extract sb (sb+m)).toList r.toList->∀ fE,fE=r.toList.zipIdx.foldl (λa (pj:Keyed×Nat)=>a.setIfInBounds (sa+k+pj.2) pj.1) (arrOf st)->fE.Perm (arrOf st)/\(∀ j,j<sa\/sb+nb<=j->Ka key fE j=Ka key (arrOf st) j)/\gv key fE sa (na+nb):=by
  rintro r ⟨rs,rp⟩ fE rfl
  have rl:r.toList.length=na-k+m:=by
   have:=rp.length_eq
   rw[ao,ah,ah,ah,zx,zy]at this
   rw[ah];exact this
  have G:=nr (sa+k) r.toList 0 (arrOf st) (by omega)
  rw[cS,rl]at G
  have pr:∀ z∈r.toList,key u<=key z/\key z<=key v:=λz hz=>by
   rcases aP.mp (rp.mem_iff.mp hz)with q |q
   ·exact px z q
   ·exact py z q
  generalize r.toList.zipIdx.foldl (λa (pj:Keyed×Nat)=>a.setIfInBounds (sa+k+pj.2) pj.1) (arrOf st)=fE at G
  have Go:∀ j,j<sa+k\/sb+m<=j->Ka key fE j=Ka key (arrOf st) j:=λj hj=>by
   have:=G j
   rw[az (by omega)]at this
   unfold Ka
   rw[aT,this,aT]
  have Gi:∀ j,sa+k<=j->j<sb+m->∃ z,r.toList[j-(sa+k)]? = some z/\Ka key fE j=key z:=λj h1 h2=>by
   have:=G j
   rw[aC (by omega)]at this
   have hz:r.toList[j-(sa+k)]? = some r.toList[j-(sa+k)]:=ae (by omega)
   rw[hz]at this
   exact⟨_,hz,eM this⟩
  refine⟨?_,λj hj=>Go j (by omega),λi j hij hj=>?_⟩
  ·rw[cj]
   have es:fE.size=(arrOf st).size:=by
    refine Nat.le_antisymm (Nat.le_of_not_lt λz=>?_) (Nat.le_of_not_lt λz=>?_)
    ·have:=G (arrOf st).size
     rw[az (by omega),Array.getElem?_eq_none (ar _),aR z]at this
     cases this
    ·have:=G fE.size
     rw[Array.getElem?_eq_none (ar _)]at this
     by_cases q:sa+k<=fE.size/\fE.size<sa+k+(na-k+m)
     ·rw[aC q,ae (by omega)]at this;cases this
     ·rw[az q,aR z]at this;cases this
   have el:fE.toList=(arrOf st).toList.take (sa+k)++(r.toList++(arrOf st).toList.drop (sb+m)):=by
    refine List.ext_getElem? λj=>?_
    rw[ak,G j]
    have ll:((arrOf st).toList.take (sa+k)).length=sa+k:=by rw[bH,ah];omega
    by_cases q1:j<sa+k
    ·rw[az (by omega),aD (by omega),List.getElem?_take,aC q1,ak]
    ·rw[aG (by omega),ll]
     by_cases q2:j<sb+m
     ·rw[aC (by omega),aD (by omega)]
     ·rw[az (by omega),aG (by omega),List.getElem?_drop,ak]
      congr 1
      omega
   have eo:(arrOf st).toList=(arrOf st).toList.take (sa+k)++((((arrOf st).extract (sa+k) sb).toList++((arrOf st).extract sb (sb+m)).toList)++(arrOf st).toList.drop (sb+m)):=by
    rw[aW,aW,List.extract_eq_take_drop,List.extract_eq_take_drop]
    have a1:(arrOf st).toList.drop (sa+k)=((arrOf st).toList.drop (sa+k)).take (sb-(sa+k))++(arrOf st).toList.drop sb:=by
     have:=(cA (sb-(sa+k)) ((arrOf st).toList.drop (sa+k))).symm
     rw[List.drop_drop,show sa+k+(sb-(sa+k))=sb by omega]at this
     exact this
    have a2:(arrOf st).toList.drop sb=((arrOf st).toList.drop sb).take (sb+m-sb)++(arrOf st).toList.drop (sb+m):=by
     have:=(cA (sb+m-sb) ((arrOf st).toList.drop sb)).symm
     rw[List.drop_drop,show sb+(sb+m-sb)=sb+m by omega]at this
     exact this
    rw[aH,<-a2,<-a1,cA]
   rw[el]
   conv=>rhs;rw[eo]
   exact cD _ (List.Perm.append_right _ rp)
  ·-- rising
   by_cases i1:i<k
   ·rw[Go (sa+i) (by omega)]
    have c1:=C1 i i1
    by_cases j1:j<k
    ·rw[Go (sa+j) (by omega)];exact g1 i j hij (by omega)
    ·by_cases j2:j<na+m
     ·obtain⟨z,hz,ez⟩:=Gi (sa+j) (by omega) (by omega)
      have:=(pr z (aN hz)).1
      omega
     ·rw[Go (sa+j) (by omega)]
      have:=bu (j-na) (by omega)
      rw[show sb+(j-na)=sa+j by omega]at this
      omega
   ·by_cases i2:i<na+m
    ·obtain⟨z,hz,ez⟩:=Gi (sa+i) (by omega) (by omega)
     have c2:=(pr z (aN hz)).2
     by_cases j2:j<na+m
     ·obtain⟨z',hz',ez'⟩:=Gi (sa+j) (by omega) (by omega)
      rw[ez,ez']
      by_cases ee:i=j
      ·subst ee
       rw[hz]at hz';cases hz';exact cL _
      ·obtain⟨p1,rfl⟩:=af.mp hz
       obtain⟨p2,rfl⟩:=af.mp hz'
       exact bP.mp rs _ _ p1 p2 (by omega)
     ·rw[Go (sa+j) (by omega)]
      have:=B2 (j-na) (by omega) (by omega)
      rw[show sb+(j-na)=sa+j by omega]at this
      omega
    ·rw[Go (sa+i) (by omega),Go (sa+j) (by omega)]
     have:=g2 (i-na) (j-na) (by omega) (by omega)
     rw[show sb+(i-na)=sa+i by omega,show sb+(j-na)=sa+j by omega]at this
     exact this
 have last:∀ (r:Array Keyed) (st2:SortSt),Mgd key ((arrOf st).extract (sa+k) sb).toList ((arrOf st).extract sb (sb+m)).toList r.toList->SmS st1 st2->∀ st3,PyProof.Rows.kindOf st3=PyProof.Rows.kindOf st2->arrOf st3=r.toList.zipIdx.foldl (λa (pj:Keyed×Nat)=>a.setIfInBounds (sa+k+pj.2) pj.1) (arrOf st2)->pendingOf st3=pendingOf st2->failedOf st3=failedOf st2->Q (failedOf st3).isNone st3:=by
  intro r st2 M S2 st3 b1 b2 b3 b4
  rw[S2.2.1,k2]at b2
  obtain⟨c1,c2,c3⟩:=back r M _ b2
  have hf:failedOf st3=none:=b4.trans (S2.2.2.2.trans k4)
  rw[hf]
  refine h st3 ⟨b1.trans (S2.1.trans k1),hf,c1.trans S.perm,?_⟩ ?_ (λj hj=>c2 j (.inr (by omega)))
  ·rw[b3,S2.2.2.1,k3,lp];exact mk _ c2 c3
  ·rw[b3,S2.2.2.1,k3];exact sz
 refine dH (λ_=>aj (nT O hA hB sx sy (by omega) (by omega) h0 hl k1 λr st2 M S2=>?_)) (λ_=>aj (nU O hA hB sx sy (by omega) (by omega) h0 hl k1 λr st2 M S2=>?_))
 all_goals exact aj (wpS_modify (aj (wpS_get (aq (last r st2 M S2 _ rfl rfl rfl rfl)))))
end
section
variable {prog:Program}{w:World}{A:Around}{E:Value->Shared->Prop}{s:Shared}{κ:SortKind}{key:Keyed->Int}{D:Keyed->Prop}{a₀:Array Keyed}{lo:Nat}{st:SortSt}
theorem iU (O:Orc prog w A s κ key D)(hD:∀ x∈a₀.toList,D x)(S:Sok κ key D a₀ lo st){i j:Nat}(hi:i<a₀.size)(hj:j<a₀.size){Q:Option Bool->SortSt->Prop}(h:Q (some (decide (Ka key (arrOf st) i<Ka key (arrOf st) j))) st):wpS (model prog w) A E s (ltAt' i j) Q st:=by
 have hs:=S.size
 obtain⟨x,hx⟩:=dY (show i<(arrOf st).size by omega)
 obtain⟨y,hy⟩:=dY (show j<(arrOf st).size by omega)
 rw[eM hx,eM hy]at h
 rw[ltAt'_eq]
 refine aj (wpS_get ?_)
 refine aj (dW hx (aj (dW hy (kE O (S.dom hD _ _ hx) (S.dom hD _ _ hy) S.kind h))))
theorem mK {arr:Array Keyed}{i j k:Nat}(hj:j<=arr.size):Ka key (mirror arr i j ((j-i)/2)) k=if i<=k/\k<j then Ka key arr (i+j-1-k)else Ka key arr k:=by
 unfold Ka
 rw[aT,getElem?_mirror_all hj]
 by_cases h:i<=k/\k<j
 ·rw[aC h,aC h,aT]
 ·rw[az h,az h,aT]
theorem jY {arr:Array Keyed}{i j:Nat}(hj:j<=arr.size)(he:∀ k,i<=k->k<j->Ka key arr k=Ka key arr (j-1))(k:Nat):Ka key (mirror arr i j ((j-i)/2)) k=Ka key arr k:=by
 rw[mK hj]
 by_cases h:i<=k/\k<j
 ·rw[aC h,he k h.1 h.2,he _ (by omega) (by omega)]
 ·rw[az h]
theorem me (S:Sok κ key D a₀ lo st){i j:Nat}(hi:lo<=i)(hj:j<=a₀.size){Q:Unit->SortSt->Prop}(h:∀ st',Sok κ key D a₀ lo st'->arrOf st'=mirror (arrOf st) i j ((j-i)/2)->Q () st'):wpS (model prog w) A E s (reverseSlice' i j) Q st:=by
 rw[reverseSlice'_eq]
 refine wpS_modify (h _ ⟨S.kind,S.fail,(mirror_perm _ _ _ _).trans S.perm,S.pend.congr λk _ hk=>?_⟩ rfl)
 show Ka key (mirror (arrOf st) i j ((j-i)/2)) k=_
 rw[mK (by rw[S.size];exact hj),az (by omega)]
def mJ (key:Keyed->Int)(arr:Array Keyed)(lo n:Nat):Prop:=∀ i,1<=i->i<n->Ka key arr (lo+i-1)<=Ka key arr (lo+i)
def rF (key:Keyed->Int)(arr:Array Keyed)(lo n:Nat):Prop:=∀ i,1<=i->i<n->Ka key arr (lo+i)<=Ka key arr (lo+i-1)
theorem mJ.seg {arr:Array Keyed}{lo n:Nat}(h:mJ key arr lo n):gv key arr lo n:=by
 intro i j
 induction j with
 |zero=>intro hij _;rw[show i=0 by omega];exact cL _
 |succ j ih=>
  intro hij hj
  by_cases e:i=j+1
  ·rw[e];exact cL _
  ·have h1:=ih (by omega) (by omega)
   have h2:=h (j+1) (by omega) hj
   rw[show lo+(j+1)-1=lo+j by omega]at h2
   omega
theorem gv.rise {arr:Array Keyed}{lo n:Nat}(h:gv key arr lo n):mJ key arr lo n:=λi h1 h2=>by
 have:=h (i-1) i (by omega) h2
 rw[show lo+(i-1)=lo+i-1 by omega]at this
 exact this
theorem pM (O:Orc prog w A s κ key D)(hD:∀ x∈a₀.toList,D x)(S:Sok κ key D a₀ lo st){jO:Nat}(h1:1<=jO)(hn:lo+jO<=a₀.size){Q:Option Nat->SortSt->Prop}
  (h:∀ n st',Sok κ key D a₀ lo st'->1<=n->n<=jO->gv key (arrOf st') lo n->Q (some n) st'):wpS (model prog w) A E s (countRun' lo jO) Q st:=by
 refine aj (bX (bq (I:=λx c st'=>st=st'/\c=(none,x)/\mJ key (arrOf st) lo x)
  (Q:=λc st'=>st=st'/\∃ n,c=(none,n)/\1<=n/\n<=jO/\mJ key (arrOf st) lo n/\(n<jO->Ka key (arrOf st) (lo+n)<Ka key (arrOf st) (lo+n-1))) ?_ ?_ ⟨rfl,rfl,λi a b=>absurd b (by omega)⟩) ?_)
 ·rintro x c st' hx1 hx ⟨rfl,rfl,R⟩
  dsimp only
  refine aj (iU O hD S (by omega) (by omega) ?_)
  dsimp only
  by_cases q:Ka key (arrOf st) (lo+x)<Ka key (arrOf st) (lo+x-1)
  ·rw[aC (by simpa using q)]
   exact aq ⟨rfl,x,rfl,hx1,by omega,R,λ_=>q⟩
  ·rw[az (by simpa using q)]
   refine aq ⟨rfl,rfl,λi a b=>?_⟩
   by_cases e:i=x
   ·rw[e];omega
   ·exact R i a (by omega)
 ·rintro c st' ⟨rfl,rfl,R⟩
  rw[show max 1 jO=jO by omega]at R ⊢
  exact⟨rfl,jO,rfl,h1,ar _,R,λz=>absurd z (cc _)⟩
 rintro c st' ⟨rfl,n,rfl,n1,n2,R,dn⟩
 dsimp only
 refine dH (λe=>aq (h n st S n1 n2 R.seg)) (λe=>?_)
 have e:n≠jO:=by simpa using e
 have dn:=dn (by omega)
 have hs:=S.size
 apply dH
 case' h1=>
  intro g
  refine aj (iU O hD S (by omega) (by omega) ?_)
  dsimp only
  refine dH (λq=>aq (h n st S n1 n2 R.seg)) (λq=>?_)
  have q:Ka key (arrOf st) (lo+n-1)<=Ka key (arrOf st) lo:=by
   have q:¬(Ka key (arrOf st) lo<Ka key (arrOf st) (lo+n-1)):=by simpa using q
   omega
  refine aj (me S (ar _) (by omega) λst1 S1 e1=>?_)
  have F:rF key (arrOf st1) lo (n+1):=by
   have all:∀ k,lo<=k->k<lo+n->Ka key (arrOf st) k=Ka key (arrOf st) (lo+n-1):=λk a b=>by
    have c1:=R.seg 0 (k-lo) (by omega) (by omega)
    have c2:=R.seg (k-lo) (n-1) (by omega) (by omega)
    rw[show lo+(k-lo)=k by omega]at c1 c2
    rw[show lo+(n-1)=lo+n-1 by omega]at c2
    rw[cS]at c1
    omega
   have G:=jY (key:=key) (arr:=arrOf st) (i:=lo) (j:=lo+n) (by omega) all
   intro i a b
   rw[e1,G,G]
   by_cases z:i=n
   ·rw[z];omega
   ·have:=all (lo+i) (by omega) (by omega)
    have:=all (lo+i-1) (by omega) (by omega)
    omega
 case' h2=>
  intro g
  have S1:=S
  have F:rF key (arrOf st) lo (n+1):=λi a b=>by
   rw[show i=n by omega];omega
  generalize st=st1 at S1 F ⊢
 all_goals
  clear dn R hs S
  refine aj (fI (cZ ⟨rfl,?_⟩))
  refine aj (bX (bq (I:=λx c st'=>Sok κ key D a₀ lo st'/\∃ q,c=(none,x,q)/\q+1<=x/\x<=jO/\rF key (arrOf st') lo x/\∀ k,lo+x-(q+1)<=k->k<lo+x->Ka key (arrOf st') k=Ka key (arrOf st') (lo+x-1))
   (Q:=λc st'=>Sok κ key D a₀ lo st'/\∃ x q,c=(none,x,q)/\q+1<=x/\x<=jO/\rF key (arrOf st') lo x/\∀ k,lo+x-(q+1)<=k->k<lo+x->Ka key (arrOf st') k=Ka key (arrOf st') (lo+x-1)) ?_ ?_ ⟨S1,0,rfl,by omega,by omega,F,λk a b=>by rw[show k=lo+(n+1)-1 by omega]⟩) ?_)
  ·rintro x c st' hx1 hx ⟨S2,q,rfl,q1,q2,F,eq⟩
   dsimp only
   have hs:=S2.size
   refine aj (iU O hD S2 (by omega) (by omega) ?_)
   dsimp only
   by_cases z:Ka key (arrOf st') (lo+x)<Ka key (arrOf st') (lo+x-1)
   ·rw[aC (by simpa using z)]
    refine dH (λg2=>?_) (λg2=>?_)
    ·refine aj (me S2 (by omega) (by omega) λst3 S3 e3=>aq ⟨S3,0,rfl,by omega,by omega,λi a b=>?_,λk a b=>by rw[show k=lo+(x+1)-1 by omega]⟩)
     have G:=jY (key:=key) (arr:=arrOf st') (i:=lo+x-(q+1)) (j:=lo+x) (by omega) eq
     rw[e3,G,G]
     by_cases y:i=x
     ·rw[y];omega
     ·exact F i a (by omega)
    ·refine aq ⟨S2,0,rfl,by omega,by omega,λi a b=>?_,λk a b=>by rw[show k=lo+(x+1)-1 by omega]⟩
     by_cases y:i=x
     ·rw[y];omega
     ·exact F i a (by omega)
   ·rw[az (by simpa using z)]
    refine aj (iU O hD S2 (by omega) (by omega) ?_)
    dsimp only
    by_cases y:Ka key (arrOf st') (lo+x-1)<Ka key (arrOf st') (lo+x)
    ·rw[aC (by simpa using y)]
     exact aq ⟨S2,x,q,rfl,q1,q2,F,eq⟩
    ·rw[az (by simpa using y)]
     refine aq ⟨S2,q+1,rfl,by omega,by omega,λi a b=>?_,λk a b=>?_⟩
     ·by_cases v:i=x
      ·rw[v];omega
      ·exact F i a (by omega)
     ·rw[show lo+(x+1)-1=lo+x by omega]
      by_cases v:k=lo+x
      ·rw[v]
      ·rw[eq k (by omega) (by omega)];omega
  ·rintro c st' ⟨S2,q,rfl,q1,q2,F,eq⟩
   exact⟨S2,_,q,rfl,q1,q2,F,eq⟩
  clear F S1
  rintro c st' ⟨S2,x,q,rfl,q1,q2,F,eq⟩
  dsimp only
  have hs:=S2.size
  apply dH
  case' h1=>
   intro g2
   refine aj (me S2 (by omega) (by omega) λst3 S3 e3=>?_)
   have F3:rF key (arrOf st3) lo x:=λi a b=>by
    have G:=jY (key:=key) (arr:=arrOf st') (i:=lo+x-(q+1)) (j:=lo+x) (by omega) eq
    rw[e3,G,G];exact F i a b
  case' h2=>
   intro g2
   have S3:=S2
   have F3:=F
   generalize st'=st3 at S3 F3 ⊢
  all_goals
   clear F eq S2 hs
   have hs:=S3.size
   refine aj (me S3 (ar _) (by omega) λst4 S4 e4=>?_)
   have R4:mJ key (arrOf st4) lo x:=λi a b=>by
    rw[e4,mK (by omega),mK (by omega),aC (by omega),aC (by omega)]
    have:=F3 (x-i) (by omega) (by omega)
    rw[show lo+(lo+x)-1-(lo+i-1)=lo+(x-i) by omega,show lo+(lo+x)-1-(lo+i)=lo+(x-i)-1 by omega]
    exact this
   refine aj (bX (bq (I:=λy c st'=>st4=st'/\c=(none,y)/\mJ key (arrOf st4) lo y)
    (Q:=λc st'=>st4=st'/\∃ n,c=(none,n)/\1<=n/\n<=jO/\mJ key (arrOf st4) lo n) ?_ ?_ ⟨rfl,rfl,R4⟩) ?_)
   ·rintro y c st' hx1 hx ⟨rfl,rfl,R⟩
    dsimp only
    refine aj (iU O hD S4 (by omega) (by omega) ?_)
    dsimp only
    by_cases z:Ka key (arrOf st4) (lo+y)<Ka key (arrOf st4) (lo+y-1)
    ·rw[aC (by simpa using z)]
     exact aq ⟨rfl,y,rfl,by omega,by omega,R⟩
    ·rw[az (by simpa using z)]
     refine aq ⟨rfl,rfl,λi a b=>?_⟩
     by_cases e:i=y
     ·rw[e];omega
     ·exact R i a (by omega)
   ·rintro c st' ⟨rfl,rfl,R⟩
    exact⟨rfl,_,rfl,by omega,by omega,R⟩
   rintro c st' ⟨rfl,n,rfl,n1,n2,R⟩
   exact aq (h n st4 S4 n1 n2 R.seg)
theorem uD {arr:Array Keyed}{k m i:Nat}(hk:k<arr.size)(hm:m<=k):Ka key (bubble arr k (k-m)) i=if i=m then Ka key arr k else if m<i/\i<=k then Ka key arr (i-1)else Ka key arr i:=by
 unfold Ka
 rw[aT,getElem?_bubble hk _ (by omega),show k-(k-m)=m by omega]
 by_cases h1:i=m
 ·rw[aC h1,aC h1,aT]
 ·rw[az h1,az h1]
  by_cases h2:m<i/\i<=k
  ·rw[aC h2,aC h2,aT]
  ·rw[az h2,az h2,aT]
theorem sC (O:Orc prog w A s κ key D)(hD:∀ x∈a₀.toList,D x)(S:Sok κ key D a₀ lo st){n ok:Nat}(h1:1<=ok)(h2:ok<=n)(hn:lo+n<=a₀.size)(sg:gv key (arrOf st) lo ok){Q:Bool->SortSt->Prop}
  (h:∀ st',Sok κ key D a₀ lo st'->gv key (arrOf st') lo n->Q true st'):wpS (model prog w) A E s (binarySort' lo n ok) Q st:=by
 refine aj (bX (bq (I:=λk c st'=>Sok κ key D a₀ lo st'/\c=(none,())/\gv key (arrOf st') lo k) (Q:=λc st'=>Sok κ key D a₀ lo st'/\c=(none,())/\gv key (arrOf st') lo n) ?_ ?_ ⟨S,rfl,by rw[show max ok 1=ok by omega];exact sg⟩) ?_)
 ·rintro k c st' hk1 hk ⟨S1,rfl,sg⟩
  dsimp only
  have hs:=S1.size
  refine aj (bX (bq (I:=λx c st2=>st'=st2/\∃ l r,c=(none,l,r)/\l<=r/\r<=k/\r+x<=k+l/\(∀ i,i<l->Ka key (arrOf st') (lo+i)<=Ka key (arrOf st') (lo+k))/\(∀ i,r<=i->i<k->Ka key (arrOf st') (lo+k)<=Ka key (arrOf st') (lo+i)))
   (Q:=λc st2=>st'=st2/\∃ l r,c=(none,l,r)/\l<=k/\(∀ i,i<l->Ka key (arrOf st') (lo+i)<=Ka key (arrOf st') (lo+k))/\(∀ i,l<=i->i<k->Ka key (arrOf st') (lo+k)<=Ka key (arrOf st') (lo+i))) ?_ ?_ ⟨rfl,0,k,rfl,aM _,ar _,by omega,λi z=>absurd z (by omega),λi a b=>absurd b (by omega)⟩) ?_)
  ·rintro x c st2 _ hx ⟨rfl,l,r,rfl,a1,a2,a3,a4,a5⟩
   dsimp only
   refine dH (λg=>aq ⟨rfl,l,r,rfl,by omega,a4,λi b1 b2=>a5 i (by omega) b2⟩) (λg=>?_)
   refine aj (iU O hD S1 (by omega) (by omega) ?_)
   dsimp only
   by_cases z:Ka key (arrOf st') (lo+k)<Ka key (arrOf st') (lo+(l+r)/2)
   ·rw[aC (by simpa using z)]
    refine aq ⟨rfl,l,_,rfl,by omega,by omega,by omega,a4,λi b1 b2=>?_⟩
    have:=sg ((l+r)/2) i b1 b2
    omega
   ·rw[az (by simpa using z)]
    refine aq ⟨rfl,_,r,rfl,by omega,by omega,by omega,λi b1=>?_,a5⟩
    have:=sg i ((l+r)/2) (by omega) (by omega)
    omega
  ·rintro c st2 ⟨rfl,l,r,rfl,a1,a2,a3,a4,a5⟩
   exact⟨rfl,l,r,rfl,by omega,a4,λi b1 b2=>a5 i (by omega) b2⟩
  rintro c st2 ⟨rfl,l,r,rfl,a1,a4,a5⟩
  dsimp only
  have G:∀ i,Ka key (bubble (arrOf st') (lo+k) (lo+k-(lo+l))) i=if i=lo+l then Ka key (arrOf st') (lo+k)else if lo+l<i/\i<=lo+k then Ka key (arrOf st') (i-1)else Ka key (arrOf st') i:=λi=>uD (by omega) (by omega)
  refine aj (wpS_modify (aq ⟨⟨S1.kind,S1.fail,(bubble_perm _ _ _).trans S1.perm,S1.pend.congr λj _ hj=>?_⟩,rfl,mJ.seg λi b1 b2=>?_⟩))
  ·show Ka key (bubble (arrOf st') (lo+k) (lo+k-(lo+l))) j=_
   rw[G,az (by omega),az (by omega)]
  ·show Ka key (bubble (arrOf st') (lo+k) (lo+k-(lo+l))) (lo+i-1)<=Ka key (bubble (arrOf st') (lo+k) (lo+k-(lo+l))) (lo+i)
   rw[G,G]
   have R:=sg.rise
   by_cases c1:i<l
   ·rw[az (by omega),az (by omega),az (by omega),az (by omega)]
    exact R i b1 (by omega)
   ·by_cases c2:i=l
    ·rw[az (by omega),az (by omega),aC (by omega),show lo+i-1=lo+(i-1) by omega]
     exact a4 (i-1) (by omega)
    ·rw[az (show ¬lo+i=lo+l by omega),aC (show lo+l<lo+i/\lo+i<=lo+k by omega)]
     by_cases c3:i-1=l
     ·rw[aC (by omega),show lo+i-1=lo+(i-1) by omega]
      exact a5 (i-1) (by omega) (by omega)
     ·rw[az (by omega),aC (by omega)]
      have:=R (i-1) (by omega) (by omega)
      rw[show lo+(i-1)-1=lo+i-1-1 by omega,show lo+(i-1)=lo+i-1 by omega]at this
      exact this
 ·rintro c st' ⟨S1,rfl,sg⟩
  rw[show max (max ok 1) n=n by omega]at sg
  exact⟨S1,rfl,sg⟩
 rintro c st' ⟨S1,rfl,sg⟩
 exact aq (h st' S1 sg)
end
section
variable {prog:Program}{w:World}{A:Around}{E:Value->Shared->Prop}{s:Shared}{κ:SortKind}{key:Keyed->Int}{D:Keyed->Prop}{a₀:Array Keyed}{lo:Nat}{st:SortSt}
theorem Pd.mod {arr:Array Keyed}{f:Nat×Nat×Nat->Nat×Nat×Nat}(h1:∀ x,(f x).1=x.1)(h2:∀ x,(f x).2.1=x.2.1):∀ {p:List (Nat×Nat×Nat)}{s lo:Nat} (i:Nat),Pd key arr s p lo->Pd key arr s (p.modify i f) lo
 |[],s,lo,i,h=>by cases i<;>exact h
 |q::p,s,lo,0,h=>by
  show Pd key arr s (f q::p) lo
  exact⟨(h1 q).trans h.1,by rw[h2];exact h.2.1,by rw[h2];exact h.2.2.1,by rw[h2];exact h.2.2.2⟩
 |q::p,s,lo,i+1,h=>⟨h.1,h.2.1,h.2.2.1,Pd.mod h1 h2 i h.2.2.2⟩
theorem Sok.push (S:Sok κ key D a₀ lo st){m:Nat}(h1:1<=m)(sg:gv key (arrOf st) lo m){pw:Nat} :Sok κ key D a₀ (lo+m) (setPending st ((pendingOf st).push (lo,m,pw))):=
 ⟨S.kind,S.fail,S.perm,by
  show Pd key (arrOf st) 0 ((pendingOf st).push (lo,m,pw)).toList (lo+m)
  rw[bD]
  exact S.pend.snoc h1 sg⟩
theorem Sok.wY (S:Sok κ key D a₀ lo st){f:Nat×Nat×Nat->Nat×Nat×Nat}(h1:∀ x,(f x).1=x.1)(h2:∀ x,(f x).2.1=x.2.1){i:Nat} :Sok κ key D a₀ lo (setPending st ((pendingOf st).modify i f)):=
 ⟨S.kind,S.fail,S.perm,by
  show Pd key (arrOf st) 0 ((pendingOf st).modify i f).toList lo
  rw[Array.toList_modify]
  exact S.pend.mod h1 h2 i⟩
theorem Sok.uW (S:Sok κ key D a₀ lo st)(pw i:Nat):Sok κ key D a₀ lo (setPending st ((pendingOf st).modify i λx=>(x.1,x.2.1,pw))):=S.wY (f:=λx=>(x.1,x.2.1,pw)) (λ_=>rfl) (λ_=>rfl)
theorem kI:∀ (f n r:Nat),1<=n->1<=minRun' f n r
 | 0,n,r,h=>by show 1<=n+r;omega
 |f+1,n,r,h=>by
  rw[minRun'_succ]
  by_cases g:n<64
  ·rw[aC g];omega
  ·rw[az g];exact kI f _ _ (by omega)
theorem p8 (O:Orc prog w A s κ key D)(hD:∀ x∈a₀.toList,D x)(S:Sok κ key D a₀ 0 st)(e0:arrOf st=a₀)(ep:pendingOf st = #[]){Q:Unit->SortSt->Prop}
  (h:∀ st',(arrOf st').Perm a₀->failedOf st'=none->gv key (arrOf st') 0 a₀.size->Q () st'):wpS (model prog w) A E s sortRuns' Q st:=by
 rw[sortRuns'_eq]
 refine aj (wpS_get ?_)
 dsimp only
 rw[e0]
 refine aj (bX (bq (I:=λx c st'=>∃ lo,c=(none,lo)/\Sok κ key D a₀ lo st'/\lo<=a₀.size/\x<=lo)
  (Q:=λc st'=>c=(none,a₀.size)/\Sok κ key D a₀ a₀.size st') ?_ ?_ ⟨0,rfl,S,aM _,ar _⟩) ?_)
 ·rintro x c st1 _ hx ⟨lo,rfl,S1,l1,l2⟩
  dsimp only
  refine dH (λg=>aq ?_) (λg=>?_)
  ·have:lo=a₀.size:=by omega
   subst this
   exact⟨rfl,S1⟩
  refine aj (pM O hD S1 (by omega) (by omega) λn st2 S2 n1 n2 sg=>?_)
  dsimp only
  have mp:=kI a₀.size a₀.size 0 (by omega)
  apply dH
  case' h1=>
   intro g2
   refine aj (fI (cZ ⟨rfl,?_⟩))
   refine aj (sC O hD S2 n1 (by omega) (by omega) sg λst3 S3 sg3=>?_)
   simp only[Bool.not_true,b8,if_false]
   have n3:1<=min (a₀.size-lo) (minRun' a₀.size a₀.size 0):=by omega
   have n4:min (a₀.size-lo) (minRun' a₀.size a₀.size 0)<=a₀.size-lo:=by omega
   generalize min (a₀.size-lo) (minRun' a₀.size a₀.size 0)=m at n3 n4 sg3 ⊢
  case' h2=>
   intro g2
   have S3:=S2
   have sg3:=sg
   have n3:=n1
   have n4:=n2
   generalize n=m at n3 n4 sg3 ⊢
   generalize st2=st3 at S3 sg3 ⊢
  all_goals
   refine aj (wpS_get ?_)
   split
   ·rename_i s1 nn1 _ _
    refine aj (bX (bq (I:=λy c st'=>c=(none,())/\Sok κ key D a₀ lo st'/\gv key (arrOf st') lo m) (Q:=λc st'=>c=(none,())/\Sok κ key D a₀ lo st'/\gv key (arrOf st') lo m) ?_ (λc st' z=>z) ⟨rfl,S3,sg3⟩) ?_)
    ·rintro y c st4 _ hy ⟨rfl,S4,sg4⟩
     refine aj (wpS_get ?_)
     split
     ·rename_i q
      refine dH (λ_=>aq ⟨rfl,S4,sg4⟩) (λ_=>?_)
      have hz:1<(pendingOf st4).size:=by
       by_cases z:(pendingOf st4).size>1
       ·exact z
       ·rw[az z]at q;cases q
      refine aj (kJ O hD S4 l1 (by omega) λst5 S5 _ k5=>?_)
      simp only[Bool.not_true,b8,if_false]
      exact aq ⟨rfl,S5,sg4.congr λj h1 _=>k5 j h1⟩
     ·exact aq ⟨rfl,S4,sg4⟩
    rintro c st4 ⟨rfl,S4,sg4⟩
    dsimp only
    refine aj (wpS_modify (aj (wpS_modify (aq ⟨lo+m,rfl,(S4.uW _ _).push n3 sg4,by omega,by omega⟩))))
   ·exact aj (wpS_modify (aq ⟨lo+m,rfl,S3.push n3 sg3,by omega,by omega⟩))
 ·rintro c st1 ⟨lo,rfl,S1,l1,l2⟩
  have:lo=a₀.size:=by omega
  subst this
  exact⟨rfl,S1⟩
 rintro c st1 ⟨rfl,S1⟩
 dsimp only
 have pl:∀ st',Sok κ key D a₀ a₀.size st'->(pendingOf st').size<=a₀.size:=λst' S'=>by
  have:=S'.pend.le
  rw[ah]at this
  omega
 refine aj (bX (bq (I:=λx c st'=>c=(none,())/\Sok κ key D a₀ a₀.size st'/\(pendingOf st').size+x<=a₀.size+1)
  (Q:=λc st'=>c=(none,())/\Sok κ key D a₀ a₀.size st'/\(pendingOf st').size<=1) ?_ ?_ ⟨rfl,S1,by have:=pl _ S1;omega⟩) ?_)
 ·rintro x c st2 _ hx ⟨rfl,S2,p2⟩
  refine aj (wpS_get ?_)
  refine dH (λg=>aq ⟨rfl,S2,g⟩) (λg=>?_)
  refine aj (kJ O hD S2 (ar _) ?_ λst5 S5 k5 _=>?_)
  ·generalize (if(pendingOf st2).size-2>0 then _ else _:Option Nat)=o
   split<;>omega
  ·simp only[Bool.not_true,b8,if_false]
   exact aq ⟨rfl,S5,by omega⟩
 ·rintro c st2 ⟨rfl,S2,p2⟩
  exact⟨rfl,S2,by omega⟩
 rintro c st2 ⟨rfl,S2,p2⟩
 refine aq (h st2 S2.perm S2.fail ?_)
 have pe:=S2.pend
 have pz:(pendingOf st2).toList.length<=1:=by rw[ah];exact p2
 generalize (pendingOf st2).toList=p at pe pz
 match p,pe,pz with
 |[],pe,_=>
  have pe:0=a₀.size:=pe
  intro i j _ hj
  omega
 |[q],pe,_=>
  obtain⟨_,_,sg,e⟩:=pe
  have e:0+q.2.1=a₀.size:=e
  rw[bY]at e
  rw[<-e];exact sg
end
end TL
namespace TL
open PySem PySem.W PyProof.Rows
section
variable {N:Nat}{key:Nat->Int}{cmp:Nat->Nat->(Bool->Shared->Prop)->Shared->Prop}{R:Shared->Prop}
end
end TL
namespace TL
open PySem PySem.Spec PyProof.Rows L2
section
variable {prog:Program}{w:World}{A:Around}{E:Value->Shared->Prop}{s:Shared}{d it vw:Addr}{o:Obj}{es:Array DictEntry}{ep i:Nat}{ok ov:Value}
end
section
variable {X:Cx}
end
section
variable {prog:Program}{w:World}{A:Around}{E:Value->Shared->Prop}{s:Shared}
end
open PySem.W
section
variable {prog:Program}{w:World}{A:Around}{E:Value->Shared->Prop}{s:Shared}
end
section
variable {prog:Program}{w:World}{A:Around}{E:Value->Shared->Prop}{s:Shared}
def sL (prog:Program)(w:World)(A:Around)(s:Shared)(vs:List Value)(kv:Value->Int):Prop:=
 ∃ κ,(∀ (E:Value->Shared->Prop) (Q:SortKind->Shared->Prop),Q κ s->wpAny (model prog w) A (keyKind' vs.toArray) Q E s)/\Orc prog w A s κ (λx=>kv x.1) (λx=>x.1∈vs)
theorem pU (vs:List Value):∀ x∈(vs.toArray.zip vs.toArray).toList,x.1=x.2/\x.1∈vs:=by
 intro x hx
 rw[Array.toList_zip]at hx
 have:∀ l:List Value,∀ x∈l.zip l,x.1=x.2/\x.1∈l:=by
  intro l
  induction l with
  |nil=>intro x hx;simp at hx
  |cons a l ih=>
   intro x hx
   rw[List.zip_cons_cons]at hx
   rcases aJ.mp hx with rfl |q
   ·exact⟨rfl,aB⟩
   ·exact⟨(ih x q).1,ay _ (ih x q).2⟩
 exact this vs x hx
theorem ly {a:Addr}{vs:List Value}{n:Nat}{P:Fin->Shared->Prop}{kv:Value->Int}(ho:s.heap.get? a=some (seqObj "list" vs.toArray n))(hz:vs.length<=sizeLine)
  (hk:2<=vs.length->∀ h',(∀ b ob,b≠a->s.heap.get? b=some ob->h'.get? b=some ob)->sL prog w A {s with heap:=h'} vs kv)
  (h:∀ ws:List Value,ws.Perm vs->ws.Pairwise (λx y=>kv x<=kv y)->P (.done (.ret .none)) {s with heap:=sortedHeap s.heap a vs ws.toArray}):
  wpAny (model prog w) A (Builtin.«list.sort» ⟨[.ref a],[]⟩) P E s:=by
 rw[list_sort_plain]
 have ha:a<s.heap.objs.size:=aA ho
 refine au (listItems_at ho rfl ?_)
 refine au (listUpdate_at ho rfl ?_ (by rw[aw];exact hz) (aM _))
 obtain⟨e1,ho1⟩:∃ e1,(s.heap.update a (Obj.mapSeq λ_=> #[])).get? a=some (seqObj "list" #[] e1):=⟨_,get?_update_seq ho (λ_=> #[])⟩
 refine au (seqEpoch_at ho1 rfl ?_)
 refine au (wpAny_newTuple ?_ (by show vs.length<=_;exact hz))
 refine au (wpAny_newList ?_ (aM _))
 refine wpAny_holding ?_
 have ho6:(((s.heap.update a (Obj.mapSeq λ_=> #[])).push (seqObj "tuple" vs.toArray 0)).push (seqObj "list" #[] 0)).get? a=some (seqObj "list" #[] e1):=aE _ (aE _ ho1)
 have keep:∀ b ob,b≠a->s.heap.get? b=some ob->(((s.heap.update a (Obj.mapSeq λ_=> #[])).push (seqObj "tuple" vs.toArray 0)).push (seqObj "list" #[] 0)).get? b=some ob:=λb ob hb e=>
  aE _ (aE _ ((Heap.SameBut.update s.heap a (Obj.mapSeq λ_=>(#[]:Array Value))).extBut b ob hb e))
 show wpAny (model prog w) A _ P E {s with heap:=((s.heap.update a (Obj.mapSeq λ_=> #[])).push (seqObj "tuple" vs.toArray 0)).push (seqObj "list" #[] 0)}
 dsimp only
 by_cases h2:vs.toArray.size<2
 ·rw[aC h2,aC h2]
  refine au (aS ?_)
  rw[StateT.run_pure]
  refine au (aS ?_)
  dsimp only
  refine au (seqEpoch_at ho6 rfl ?_)
  have eo:(arrOf (SortSt.mk' general' (vs.toArray.zip vs.toArray) #[] 7 none)).map (·.2)=vs.toArray:=by
   show(vs.toArray.zip vs.toArray).map (·.2)=vs.toArray
   exact Array.map_snd_zip (ar _)
  rw[eo]
  refine au (listUpdate_at ho6 rfl ?_ (aM _) (by rw[aw];omega))
  simp only[bne_self_eq_false,b8,if_false]
  have h2':vs.length<2:=by rw[aw]at h2;exact h2
  refine aS (h vs (List.Perm.refl _) ?_)
  match vs,h2' with
  |[],_=>exact List.Pairwise.nil
  |[_],_=>exact bW _ _
 ·rw[az h2,az h2]
  have h2':2<=vs.length:=by rw[aw]at h2;omega
  obtain⟨κ,k1,k2⟩:=hk h2' _ keep
  refine au (k1 _ _ ?_)
  have zs:=pU vs
  have zm:(vs.toArray.zip vs.toArray).map (·.2)=vs.toArray:=Array.map_snd_zip (ar _)
  have run:wpS (model prog w) A E {s with heap:=((s.heap.update a (Obj.mapSeq λ_=> #[])).push (seqObj "tuple" vs.toArray 0)).push (seqObj "list" #[] 0)} sortRuns' (λ_ st'=>∃ ws:List Value,(arrOf st').map (·.2)=ws.toArray/\ws.Perm vs/\ws.Pairwise (λx y=>kv x<=kv y)/\failedOf st'=none) (SortSt.mk' κ (vs.toArray.zip vs.toArray) #[] 7 none):=by
   refine p8 k2 (a₀:=vs.toArray.zip vs.toArray) (λx hx=>(zs x hx).2) (st:=SortSt.mk' κ (vs.toArray.zip vs.toArray) #[] 7 none) ⟨rfl,rfl,Array.Perm.refl _,rfl⟩ rfl rfl λst' pm hf sg=>?_
   have pl:=cj.mp pm
   refine⟨(arrOf st').toList.map (·.2),by rw[<-Array.toList_inj];simp,?_,?_,hf⟩
   ·have:=pl.map (·.2)
    rw[<-Array.toList_map (xs:=vs.toArray.zip vs.toArray),zm]at this
    exact this
   ·rw[bz]
    refine bP.mpr λi j hi hj hij=>?_
    have zz:(arrOf st').size=(vs.toArray.zip vs.toArray).size:=by have:=pl.length_eq;rw[ah,ah]at this;exact this
    rw[ah]at hi hj
    have:=sg i j (by omega) (by omega)
    rw[bY,bY,eM (aR hi),eM (aR hj)]at this
    have x1:=(zs _ (pl.mem_iff.mp (df (show i<(arrOf st').toList.length by rw[ah];exact hi)))).1
    have x2:=(zs _ (pl.mem_iff.mp (df (show j<(arrOf st').toList.length by rw[ah];exact hj)))).1
    rw[<-x1,<-x2]
    exact this
  refine au (bF run ?_ λ_ _ e=>e)
  rintro⟨⟨⟩,st'⟩ s' ⟨rfl,ws,xU,hp,hs,hf⟩
  dsimp only
  rw[xU]
  refine au (seqEpoch_at ho6 rfl ?_)
  refine au (listUpdate_at ho6 rfl ?_ (aM _) (by rw[aw,hp.length_eq];omega))
  rw[hf]
  simp only[bne_self_eq_false,b8,if_false]
  exact aS (h ws hp hs)
theorem ko {l:Addr}{vs:List Value}{Q:Value->Shared->Prop}{kv:Value->Int}(hl:s.heap.IsList l vs.toArray)(hz:vs.length<=sizeLine)
  (hk:2<=vs.length->∀ h',(∀ b ob,s.heap.get? b=some ob->h'.get? b=some ob)->sL prog w A.in1.in1 {s with heap:=h'} vs kv)
  (h:∀ ws:List Value,ws.Perm vs->ws.Pairwise (λx y=>kv x<=kv y)->Q (.ref (s.heap.objs.size+1)) {s with heap:=sortedAll s.heap vs ws.toArray}):
  wpAny (model prog w) A (call (.builtin "sorted") [.ref l]) Q E s:=by
 refine Calls.call_function_entry kind_sorted plain_sorted entry_sorted (args_sorted1 _) ?_
 unfold Builtin.«sorted»
 refine au (m:=checkCount "sorted" 1 1 _) (aS ?_)
 refine au (collect_list hl ?_ hz)
 refine au (wpAny_newList ?_ hz)
 have hsz:((s.heap.push (seqObj "list" #[] 0)).update s.heap.objs.size (Obj.mapSeq (· ++ vs.toArray))).objs.size=s.heap.objs.size+1:=by
  rw[Heap.size_update,size_push']
 have hoL:(((s.heap.push (seqObj "list" #[] 0)).update s.heap.objs.size (Obj.mapSeq (· ++ vs.toArray))).push (seqObj "list" vs.toArray 0)).get? (s.heap.objs.size+1)=some (seqObj "list" vs.toArray 0):=by
  rw[<-hsz];exact bg _ rfl
 have keep:∀ b o,s.heap.get? b=some o->(((s.heap.push (seqObj "list" #[] 0)).update s.heap.objs.size (Obj.mapSeq (· ++ vs.toArray))).push (seqObj "list" vs.toArray 0)).get? b=some o:=λb o q=>by
  have hlt:b<s.heap.objs.size:=aA q
  rw[Heap.get?_push_ne _ _ _ (by rw[hsz];exact aV (Nat.lt_succ_of_lt hlt)),Heap.get?_update_ne _ _ _ _ (aV hlt),Heap.get?_push_ne _ _ _ (aV hlt)]
  exact q
 show wpAny _ _ _ _ _ {s with heap:=((s.heap.push (seqObj "list" #[] 0)).update s.heap.objs.size (Obj.mapSeq (· ++ vs.toArray))).push (seqObj "list" vs.toArray 0)}
 rw[hsz]
 have vt:∀ h':Heap,(∀ b ob,b≠s.heap.objs.size+1->(((s.heap.push (seqObj "list" #[] 0)).update s.heap.objs.size (Obj.mapSeq (· ++ vs.toArray))).push (seqObj "list" vs.toArray 0)).get? b=some ob->h'.get? b=some ob)->∀ b ob,s.heap.get? b=some ob->h'.get? b=some ob:=λh' k b ob e=>
  k b ob (λz=>cc b (aI (aA e) (by rw[z];exact cX _))) (keep b ob e)
 refine au (wpAny_holding (wpAny_call_entry slot_list_sort ⟨_,hoL,rfl⟩ entry_list_sort (ly (kv:=kv) hoL hz (λh2 h' k=>hk h2 h' (vt h' k)) λws a1 a2=>⟨_,rfl,?_⟩) (args_list_sort _)))
 exact aS ⟨_,rfl,h ws a1 a2⟩
end
section
variable {prog:Program}{w:World}{A:Around}{s:Shared}
end
theorem mV {h:Heap} :∀ {vs:List Value}{ds:List PyData}{as:List Addr}{i:Nat}{v:Value}{d:PyData},ReadsAll h vs ds as->vs[i]? = some v->ds[i]? = some d->∃ as',Reads h v d as'
 |[],_,_,i,v,d,_,h1,_=>by simp at h1
 |x::vs,ds,as,i,v,d,r,h1,h2=>by
  cases r with
  |cons r1 r2=>
   cases i with
   |zero=>cases h1;cases h2;exact⟨_,r1⟩
   |succ i=>exact mV r2 (by simpa using h1) (by simpa using h2)
theorem lE {h:Heap} :∀ {vs:List Value}{ds:List PyData}{as:List Addr},ReadsAll h vs ds as->vs.length=ds.length
 |[],_,_,r=>by cases r;rfl
 |x::vs,ds,as,r=>by
  cases r with
  |cons r1 r2=>simp[lE r2]
section
variable {X:Cx}
end
def kvI:Value->Int
 |.int n _=>n
 |_=>0
theorem ints_of:∀ {ns:List Int}{its:List Value},Vals (ns.map V.int) its->(∀ v∈its,∃ t,v = .int (kvI v) t)/\its.map kvI=ns
 |[],its,r=>by cases r;exact⟨λv hv=>by(cases hv),rfl⟩
 |n::ns,its,r=>by
  cases r with
  |cons r1 r2=>
   obtain⟨h1,h2⟩:=ints_of r2
   obtain⟨t,rfl⟩:=r1
   refine⟨λv hv=>?_,by rw[bB,h2];rfl⟩
   rcases aJ.mp hv with rfl |q
   ·exact⟨_,rfl⟩
   ·exact h1 v q
theorem jq:∀ {its:List Value},(∀ v∈its,∃ t,v = .int (kvI v) t)->Vals ((its.map kvI).map V.int) its
 |[],_=>.nil
 |v::its,h=>by
  obtain⟨t,e⟩:=h v aB
  refine .cons ?_ (jq λu hu=>h u (ay _ hu))
  rw[e];exact⟨t,rfl⟩
theorem rq {prog:Program}{w:World}{A:Around}{s:Shared}{ns:List Int}{its:List Value}(rv:Vals (ns.map V.int) its)(h2:2<=its.length):sL prog w A s its kvI:=by
 obtain⟨h1,_⟩:=ints_of rv
 have ia:=intsAre_of rv
 refine⟨oneType',λE Q hq=>?_,λx y hx hy Q hq=>?_⟩
 ·match its,h2,ia with
  |a::b::r,_,ia=>
   rw[keyKind_ints ia]
   exact aS hq
 ·obtain⟨t,ex⟩:=h1 _ hx
  obtain⟨u,ey⟩:=h1 _ hy
  dsimp only at hq
  rw[keyLt'_oneType,ex,ey]
  exact oneLt_int hq
section
variable {X:Cx}
theorem mF:gD X (.builtin "sorted") (λxs H Q=>∃ a ns,xs = [.ref a]/\SqL X.K H a (ns.map V.int)/\∀ p,H p=none->Q (.ref p) (upd H p (.lst ((srt ns).map V.int)))):=by
 intro pins s σ H xs us Q I r h
 obtain⟨a,ns,rfl,hx,q⟩:=h
 obtain⟨u,rfl,ru⟩:=vals1 r
 cases ru
 obtain⟨its,rv,p,hz⟩:=I.list hx
 have hlen:=rv.length
 rw[aa]at hlen hz
 obtain⟨iv,im⟩:=ints_of rv
 refine ko (kv:=kvI) p.isList (by omega) (λh2 h' _=>rq rv h2) λws pm sp=>?_
 have e':ws.map kvI=srt ns:=p6 (by rw[<-im];exact pm.map _) (bz.mpr sp)
 obtain⟨e,he⟩:=sortedAll_at s.heap its ws.toArray
 have vo:Vals ((srt ns).map V.int) ws:=by rw[<-e'];exact jq λv hv=>iv v (pm.mem_iff.mp hv)
 refine⟨.ref (s.heap.objs.size+1),_,I.laid (t':=s.toks) (o:=.lst ((srt ns).map V.int)) (λb ob q=>sortedAll_old q) (cX _) ⟨?_,ws,e,vo,?_⟩,rfl,q _ (I.hok.fresh (cX _))⟩
 ·rw[aa,i9];exact hz
 ·rw[he]
end
def eH:List Int->List Int->Bool
 |[],[]=>false
 |[],_::_=>true
 |_::_,[]=>false
 |x::xs,y::ys=>if x=y then eH xs ys else decide (x<y)
def ILs (h:Heap)(v:Value)(ns:List Int):Prop:=∃ (a:Addr) (its:Array Value) (n:Nat) (dd:Option Addr) (sl:Array (Option Value)),v = .ref a/\h.get? a=some {cls:=.type "list",dict:=dd,data:=.seq its n,slots:=sl} /\Vals (ns.map V.int) its.toList
open PySem.SeqAt AutoSeq1 MeetsSeq MeetsSeq2 MeetsSeq3 in
theorem rX (a b:Addr)(p q:Array Value)(n1 n2:Nat)(d1 d2:Option Addr)(l1 l2:Array (Option Value))(xs ys:List Int)(vx:Vals (xs.map V.int) p.toList)(vy:Vals (ys.map V.int) q.toList)(k:Nat):∀ i:Nat,xs.length-i=k->i<=xs.length->i<=ys.length->
  Meets (Builtin.«list.__eq__.loop» ⟨[.ref a,.ref b,rawInt i,rawInt 0],[]⟩) (λA R s=>s.heap.get? a=some {cls:=.type "list",dict:=d1,data:=.seq p n1,slots:=l1} /\s.heap.get? b=some {cls:=.type "list",dict:=d2,data:=.seq q n2,slots:=l2} /\
   R (.ok (.ret (.bool (eH (xs.drop i) (ys.drop i))))) s):=by
 have sx:p.size=xs.length:=by have:=vx.length;rw[aa,ah]at this;exact this.symm
 have sy:q.size=ys.length:=by have:=vy.length;rw[aa,ah]at this;exact this.symm
 obtain⟨ix,mx⟩:=ints_of vx
 obtain⟨iy,my⟩:=ints_of vy
 have gx:∀ j (h:j<xs.length),∃ t,p[j]? = some (.int xs[j] t):=λj h=>by
  have hj:j<p.size:=by omega
  obtain⟨t,e⟩:=ix p[j] (by simp)
  have:kvI p[j]=xs[j]:=by
   have h3:(p.toList.map kvI)[j]? = xs[j]? :=by rw[mx]
   rw[ax,ak,aR hj,ae h]at h3
   simpa using h3
  exact⟨t,by rw[aR hj,<-this,<-e]⟩
 have gy:∀ j (h:j<ys.length),∃ t,q[j]? = some (.int ys[j] t):=λj h=>by
  have hj:j<q.size:=by omega
  obtain⟨t,e⟩:=iy q[j] (by simp)
  have:kvI q[j]=ys[j]:=by
   have h3:(q.toList.map kvI)[j]? = ys[j]? :=by rw[my]
   rw[ax,ak,aR hj,ae h]at h3
   simpa using h3
  exact⟨t,by rw[aR hj,<-this,<-e]⟩
 induction k with
 |zero=>
  intro i hk i1 i2 prog w A R s h
  obtain⟨hp,g,d,tk,os⟩:=s
  obtain⟨h1,h2,h⟩:=h
  wp_walk using bo h1,bo h2
  have hn:p[((i:Nat):Int).toNat]? = none:=by simp;omega
  rw[hn]
  wp_walk using bo h1,bo h2
  have e1:xs.drop i = []:=bN (by omega)
  rw[e1]at h
  show R (.ok (.ret (.bool (decide (p.size<q.size))))) _
  cases hy:ys.drop i with
  |nil=>
   rw[hy]at h
   have:ys.length<=i:=List.drop_eq_nil_iff.mp hy
   rw[bt (by omega)];exact h
  |cons z r=>
   rw[hy]at h
   have:¬ys.length<=i:=λz'=>by rw[bN z']at hy;cases hy
   rw[bO (by omega)];exact h
 |succ k ih=>
  intro i hk i1 i2 prog w A R s h
  obtain⟨hp,g,d,tk,os⟩:=s
  obtain⟨h1,h2,h⟩:=h
  have hi:i<xs.length:=by omega
  obtain⟨t1,e1⟩:=gx i hi
  have ei1:p[((i:Nat):Int).toNat]? = some (.int xs[i] t1):=e1
  have dx:xs.drop i=xs[i]::xs.drop (i+1):=cV hi
  rw[dx]at h
  wp_walk using bo h1,bo h2
  by_cases hj:i<ys.length
  ·obtain⟨t2,e2⟩:=gy i hj
   have ei2:q[((i:Nat):Int).toNat]? = some (.int ys[i] t2):=e2
   have dy:ys.drop i=ys[i]::ys.drop (i+1):=cV hj
   rw[dy]at h
   rw[ei1,ei2]
   refine au (wpAny_eqBool_int ?_)
   have h:R (.ok (.ret (.bool (if xs[i]=ys[i]then eH (xs.drop (i+1)) (ys.drop (i+1))else decide (xs[i]<ys[i]))))) _:=h
   by_cases c:xs[i]=ys[i]
   ·rw[aC c]at h
    rw[show(xs[i]==ys[i])=true by simp[c]]
    wp_walk
    rw[show((i:Int)+1)=((i+1:Nat):Int) by push_cast;rfl]
    exact⟨plainId_quiet plain_eq_loop _,codeAny_builtin entry_eq_loop (by
     rw[Around.under_plainId plain_eq_loop _]
     exact ih (i+1) (by omega) (by omega) (by omega) prog w A R _ ⟨h1,h2,h⟩)⟩
   ·rw[az c]at h
    rw[show(xs[i]==ys[i])=false by simp[c]]
    wp_walk using bo h1,bo h2
    rw[ei1,ei2]
    refine au (wpAny_lt_int ?_)
    exact aS h
  ·have hn:q[((i:Nat):Int).toNat]? = none:=by simp;omega
   rw[bN (show ys.length<=i by omega)]at h
   rw[ei1,hn]
   wp_walk using bo h1,bo h2
   show R (.ok (.ret (.bool (decide (p.size<q.size))))) _
   rw[bt (by omega)];exact h
section
variable {prog:Program}{w:World}{A:Around}{E:Value->Shared->Prop}{s:Shared}
open PySem.SeqAt AutoSeq1 MeetsSeq MeetsSeq2 MeetsSeq3 in
theorem nV {a b:Addr}{p q:Array Value}{n1 n2:Nat}{d1 d2:Option Addr}{l1 l2:Array (Option Value)}{xs ys:List Int}(vx:Vals (xs.map V.int) p.toList)(vy:Vals (ys.map V.int) q.toList):
  Meets (Builtin.«list.__lt__» ⟨[.ref a,.ref b],[]⟩) (λA R s=>s.heap.get? a=some {cls:=.type "list",dict:=d1,data:=.seq p n1,slots:=l1} /\s.heap.get? b=some {cls:=.type "list",dict:=d2,data:=.seq q n2,slots:=l2} /\R (.ok (.ret (.bool (eH xs ys)))) s):=by
 intro prog w A R s h
 obtain⟨hp,g,d,tk,os⟩:=s
 obtain⟨h1,h2,h⟩:=h
 have f3:=AutoSeq1.sub_list_list
 wp_walk using bo h1,bo h2
 exact⟨plainId_quiet plain_eq_loop _,codeAny_builtin entry_eq_loop (by
  rw[Around.under_plainId plain_eq_loop _]
  exact rX a b p q n1 n2 d1 d2 l1 l2 xs ys vx vy _ 0 rfl (aM _) (aM _) prog w A R _ ⟨h1,h2,h⟩)⟩
end
theorem jG {X:Cx}{K:PySem.W.Frag}(eK:X.K=K):gD X (.builtin "sorted") (λxs H Q=>∃ a ns,xs = [.ref a]/\SqL K H a (ns.map V.int)/\ns.length<1000/\∀ p,H p=none->Q (.ref p) (upd H p (.lst ((srt ns).map V.int)))):=by
 subst eK
 intro pins s σ H xs us Q I r h
 obtain⟨a,ns,e,hx,_,q⟩:=h
 exact mF pins s σ H xs us Q I r ⟨a,ns,e,hx,q⟩
theorem iu:∀ xs:List Int,eH xs xs=false
 |[]=>rfl
 |x::xs=>by show(if x=x then eH xs xs else decide (x<x))=false;rw[aC rfl];exact iu xs
theorem kK:∀ xs ys:List Int,eH xs ys=false->eH ys xs=false->xs=ys
 |[],[],_,_=>rfl
 |[],_::_,h,_=>by cases h
 |_::_,[],_,h=>by cases h
 |x::xs,y::ys,h,k=>by
  have h:(if x=y then eH xs ys else decide (x<y))=false:=h
  have k:(if y=x then eH ys xs else decide (y<x))=false:=k
  by_cases e:x=y
  ·rw[aC e]at h
   rw[aC e.symm]at k
   rw[e,kK xs ys h k]
  ·rw[az e]at h
   rw[az (λz=>e z.symm)]at k
   have h:=of_decide_eq_false h
   have k:=of_decide_eq_false k
   omega
theorem gW:∀ xs ys zs:List Int,eH xs ys=true->eH ys zs=true->eH xs zs=true
 |[],_,[],_,h=>by rename_i ys _;cases ys<;>cases h
 |[],_,_::_,_,_=>rfl
 |_::_,[],_,h,_=>by cases h
 |_::_,_::_,[],_,h=>by cases h
 |x::xs,y::ys,z::zs,h,k=>by
  have h:(if x=y then eH xs ys else decide (x<y))=true:=h
  have k:(if y=z then eH ys zs else decide (y<z))=true:=k
  show(if x=z then eH xs zs else decide (x<z))=true
  by_cases e:x=y
  ·rw[aC e]at h
   by_cases f:y=z
   ·rw[aC f]at k
    rw[aC (e.trans f)]
    exact gW xs ys zs h k
   ·rw[az f]at k
    have k:=bC k
    rw[az (by omega)]
    exact bO (by omega)
  ·rw[az e]at h
   have h:=bC h
   by_cases f:y=z
   ·rw[az (by omega)]
    exact bO (by omega)
   ·rw[az f]at k
    have k:=bC k
    rw[az (by omega)]
    exact bO (by omega)
def lF (tss:List (List Int))(t:List Int):Int:=((tss.filter λu=>eH u t).length:Int)
theorem i8 {α:Type}{p q:α->Bool} :∀ {l:List α},(∀ y∈l,p y=true->q y=true)->(l.filter p).length<=(l.filter q).length
 |[],_=>ar _
 |z::l,h=>by
  have ih:=i8 (l:=l) λa ha=>h a (ay _ ha)
  have hz:=h z aB
  rw[cF,cF]
  cases pz:p z with
  |true=>rw[hz pz];simpa using ih
  |false=>cases q z<;>simp<;>omega
theorem gF {α:Type}{p q:α->Bool} :∀ {l:List α}{x:α},(∀ y∈l,p y=true->q y=true)->x∈l->p x=false->q x=true->(l.filter p).length<(l.filter q).length
 |[],x,_,hx,_,_=>by cases hx
 |y::l,x,h,hx,px,qx=>by
  have hl:∀ z∈l,p z=true->q z=true:=λz hz=>h z (ay _ hz)
  have le:(l.filter p).length<=(l.filter q).length:=i8 hl
  rw[cF,cF]
  rcases aJ.mp hx with rfl |hx
  ·rw[px,qx];simp;omega
  ·have ih:=gF hl hx px qx
   cases py:p y with
   |true=>rw[h y aB py];simpa using ih
   |false=>cases q y<;>simp<;>omega
theorem oF {tss:List (List Int)}{x y:List Int}(hx:x∈tss)(hy:y∈tss):decide (lF tss x<lF tss y)=eH x y:=by
 cases h:eH x y with
 |true=>
  refine bO ?_
  have:=gF (p:=λu=>eH u x) (q:=λu=>eH u y) (l:=tss) (λu _ hu=>gW u x y hu h) hx (iu x) h
  unfold lF
  omega
 |false=>
  refine bt ?_
  cases k:eH y x with
  |true=>
   have:=gF (p:=λu=>eH u y) (q:=λu=>eH u x) (l:=tss) (λu _ hu=>gW u y x hu k) hy (iu y) k
   unfold lF
   omega
  |false=>rw[kK x y h k];omega
theorem pE {α β:Type}{f:α->β}{l m:List β}(h:l.Perm m):∀ Z:List α,Z.map f=m->∃ Z':List α,Z'.Perm Z/\Z'.map f=l:=by
 induction h with
 |nil=>intro Z hZ;exact⟨Z,List.Perm.refl _,hZ⟩
 |@cons x l1 l2 _ ih=>
  intro Z hZ
  cases Z with
  |nil=>cases hZ
  |cons z Z=>
   rw[bB,List.cons.injEq]at hZ
   obtain⟨Z',p,e⟩:=ih Z hZ.2
   exact⟨z::Z',p.cons z,by rw[bB,e,hZ.1]⟩
 |@swap x y l1=>
  intro Z hZ
  match Z,hZ with
  |a::b::Z,hZ=>
   simp only[bB,List.cons.injEq]at hZ
   exact⟨b::a::Z,List.Perm.swap _ _ _,by rw[bB,bB,hZ.1,hZ.2.1,hZ.2.2]⟩
 |trans _ _ ih1 ih2=>
  intro Z hZ
  obtain⟨Z1,p1,e1⟩:=ih2 Z hZ
  obtain⟨Z2,p2,e2⟩:=ih1 Z1 e1
  exact⟨Z2,p2.trans p1,e2⟩
theorem kz {h:Heap} :∀ {t:List Int}{vs:List Value}{as:List Addr},ReadsAll h vs (t.map PyData.int) as->Vals (t.map V.int) vs
 |[],vs,as,r=>by cases r;exact .nil
 |x::t,vs,as,r=>by
  cases r with
  |cons r1 r2=>cases r1;exact .cons ⟨_,rfl⟩ (kz r2)
theorem ua {h:Heap}{v:Value}{t:List Int}{as:List Addr}(r:Reads h v (dI t) as):ILs h v t:=by
 unfold dI at r
 cases r with
 |@list a o vs n xs as ho hc hd rs=>
  obtain⟨cls,dict,data,slots⟩:=o
  dsimp only at hc hd
  subst hc
  subst hd
  exact⟨a,vs,n,dict,slots,rfl,ho,kz rs⟩
theorem ILs.one {h:Heap}{v:Value}{t t':List Int}(a:ILs h v t)(b:ILs h v t'):t=t':=by
 obtain⟨p,its,n,dd,sl,rfl,ho,va⟩:=a
 obtain⟨p',its',n',dd',sl',e,ho',vb⟩:=b
 cases e
 rw[ho]at ho'
 cases ho'
 rw[<-(ints_of va).2,<-(ints_of vb).2]
theorem ILs.keep {h h':Heap}(k:∀ b o,h.get? b=some o->h'.get? b=some o){v:Value}{t:List Int}(a:ILs h v t):ILs h' v t:=by
 obtain⟨p,its,n,dd,sl,rfl,ho,va⟩:=a
 exact⟨p,its,n,dd,sl,rfl,k _ _ ho,va⟩
section
variable {prog:Program}{w:World}{A:Around}{E:Value->Shared->Prop}{s:Shared}
theorem nR {x y:Value}{xs ys:List Int}{Q:Bool->Shared->Prop}(hu:A.units<cLine)(hx:ILs s.heap x xs)(hy:ILs s.heap y ys)(h:Q (eH xs ys) s):wpAny (model prog w) A (oneLt' true x y) Q E s:=by
 obtain⟨a,p,n,d1,l1,rfl,ho,vx⟩:=hx
 obtain⟨b,q,m,d2,l2,rfl,ho2,vy⟩:=hy
 rw[oneLt'_eq]
 simp only[if_true]
 refine au (wpAny_cRoomFor hu ?_)
 refine au (wpAny_callSpecialIfBound?_slot ⟨_,ho,rfl⟩ F.slot_list_lt (cQ F.slot_list_lt ⟨_,ho,rfl⟩ F.entry_list_lt (F.args_list_lt_2 _ _) (nV vx vy) ⟨ho,ho2,?_⟩))
 exact cI h
noncomputable def kT (Z:List (Value×List Int)) (v:Value):List Int:=open Classical in if h:∃ t,(v,t)∈Z then h.choose else[]
theorem jV {Z:List (Value×List Int)}{v:Value}{t:List Int}(h:(v,t)∈Z):(v,kT Z v)∈Z:=by
 have hx:∃ t,(v,t)∈Z:=⟨t,h⟩
 unfold kT
 rw[dif_pos hx]
 exact hx.choose_spec
theorem pN {Z:List (Value×List Int)}(hu:A.units<cLine)(hz:∀ z∈Z,ILs s.heap z.1 z.2)(h2:2<=(Z.map (·.1)).length):sL prog w A s (Z.map (·.1)) (λv=>lF (Z.map (·.2)) (kT Z v)):=by
 refine⟨oneType',λE Q hq=>?_,λx y hx hy Q hq=>?_⟩
 ·refine kas_kind (T:=Value.type "list") h2 (λv hv=>?_) (by decide +kernel) (by decide +kernel) hq
  obtain⟨z,hz',rfl⟩:=aQ.mp hv
  obtain⟨a,p,n,d1,l1,e,ho,_⟩:=hz z hz'
  rw[e]
  exact(Looks.ld ho).andThen .now
 ·obtain⟨z1,h1,e1⟩:=aQ.mp hx
  obtain⟨z2,h3,e2⟩:=aQ.mp hy
  have m1:(x.1,kT Z x.1)∈Z:=jV (t:=z1.2) (by rw[<-e1];exact h1)
  have m2:(y.1,kT Z y.1)∈Z:=jV (t:=z2.2) (by rw[<-e2];exact h3)
  rw[oF (aQ.mpr ⟨_,m1,rfl⟩) (aQ.mpr ⟨_,m2,rfl⟩)]at hq
  rw[keyLt'_oneType]
  exact nR hu (hz _ m1) (hz _ m2) hq
end
theorem mO {vs:List V}{its:List Value} :Vals vs its->∀ {ts:List (List Int)},ts.length=vs.length->∀ z∈(vs.zip ts).zip its,RelV z.1.1 z.2
 |.nil,ts,_,z,hz=>by simp at hz
 |.cons r1 r2,[],h,z,hz=>by simp at h
 |.cons r1 r2,t::ts,h,z,hz=>by
  rw[List.zip_cons_cons,List.zip_cons_cons]at hz
  rcases aJ.mp hz with rfl |q
  ·exact r1
  ·exact mO r2 (by simpa using h) z q
section
variable {X:Cx}
def tH (K:PySem.W.Frag):List V->Hp->VK->Prop:=λxs H Q=>∃ (p:Addr) (vs:List V) (ts:List (List Int)),xs = [.ref p]/\SqL K H p vs/\Das K H (ts.map dI) vs/\
 ∀ (q:Addr) (Z:List (V×List Int)),H q=none->Z.Perm (vs.zip ts)->(Z.map (·.2)).Pairwise (λa b=>eH b a=false)->Q (.ref q) (upd H q (.lst (Z.map (·.1))))
theorem kZ (hu:X.A.units+64<cLine):gD X (.builtin "sorted") (tH X.K):=by
 intro pins s σ H xs us Q I r h
 obtain⟨a,vs,ts,rfl,hx,hd,q⟩:=h
 obtain⟨u,rfl,ru⟩:=vals1 r
 cases ru
 obtain⟨its,rv,p,hz⟩:=I.list hx
 have hlen:=rv.length
 obtain⟨as,rds⟩:=Das.reads I hd rv
 have il:its.length=ts.length:=by rw[lE rds,aa]
 have zi:(its.zip ts).map (·.1)=its:=List.map_fst_zip (by omega)
 have zt:(its.zip ts).map (·.2)=ts:=List.map_snd_zip (by omega)
 have hI:∀ z∈its.zip ts,ILs s.heap z.1 z.2:=λz hz'=>by
  obtain⟨i,hi,e⟩:=br.mp hz'
  rw[bL]at hi
  rw[cE]at e
  obtain⟨as',rd⟩:=mV rds (i:=i) (v:=z.1) (d:=dI z.2) (by rw[<-e];exact ae (by omega)) (by rw[<-e,ax,ae (by omega)];rfl)
  exact ua rd
 refine ko (kv:=λv=>lF ((its.zip ts).map (·.2)) (kT (its.zip ts) v)) p.isList (by omega) (λh2 h' keep=>?_) λws pm sp=>?_
 ·have:=pN (prog:=X.prog) (w:=X.w) (A:=X.A.in1.in1) (s:={s with heap:=h'}) (Z:=its.zip ts) (by simp only[Around.in1_units];omega) (λz hz'=>(hI z hz').keep keep) (by rw[zi];exact h2)
  rw[zi]at this
  exact this
 ·obtain⟨Z',zp,ze⟩:=pE (f:=λz:(V×List Int)×Value=>z.2) pm ((vs.zip ts).zip its) (List.map_snd_zip (by rw[bL];omega))
  obtain⟨e,he⟩:=sortedAll_at s.heap its ws.toArray
  have rel:=mO rv (ts:=ts) (by omega)
  have cont:∀ z∈Z',kT (its.zip ts) z.2=z.1.2:=λz hz'=>by
   obtain⟨i,hi,e⟩:=br.mp (zp.mem_iff.mp hz')
   rw[bL,bL]at hi
   rw[cE,cE]at e
   have m:(z.2,z.1.2)∈its.zip ts:=by
    rw[<-e]
    exact br.mpr ⟨i,by rw[bL];omega,by rw[cE]⟩
   exact(hI _ (jV m)).one (hI _ m)
  have vo:Vals ((Z'.map (·.1)).map (·.1)) ws:=by
   rw[<-ze,cm]
   have:∀ L:List ((V×List Int)×Value),(∀ z∈L,RelV z.1.1 z.2)->Vals (L.map λz=>z.1.1) (L.map λz=>z.2):=by
    intro L
    induction L with
    |nil=>intro _;exact .nil
    |cons z L ih=>intro hL;exact .cons (hL z aB) (ih λy hy=>hL y (ay _ hy))
   exact this Z' λz hz'=>rel z (zp.mem_iff.mp hz')
  refine⟨.ref (s.heap.objs.size+1),_,I.laid (t':=s.toks) (o:=.lst ((Z'.map (·.1)).map (·.1))) (λb ob q=>sortedAll_old q) (cX _) ⟨?_,ws,e,vo,?_⟩,rfl,q _ (Z'.map (·.1)) (I.hok.fresh (cX _)) ?_ ?_⟩
  ·rw[aa,aa,zp.length_eq,bL,bL];omega
  ·rw[he]
  ·have:=zp.map (·.1)
   rw[List.map_fst_zip (by rw[bL];omega)]at this
   exact this
  ·rw[<-ze,bz]at sp
   rw[cm,bz]
   refine bU (λ{x y} hx' hy' hxy=>?_) sp
   rw[cont x hx',cont y hy']at hxy
   show eH y.1.2 x.1.2=false
   have m1:x.1.2∈(its.zip ts).map (·.2):=by rw[zt];exact(b9 (b9 (zp.mem_iff.mp hx')).1).2
   have m2:y.1.2∈(its.zip ts).map (·.2):=by rw[zt];exact(b9 (b9 (zp.mem_iff.mp hy')).1).2
   rw[<-oF m2 m1]
   exact bt (by omega)
end
end TL
namespace TL
open PySem PySem.Spec PyProof.Rows L2
section
variable {X:Cx}{K:PySem.W.Frag}
end
open PySem.W
theorem kc:isSubtype (.type "range_iterator") (.type "reversed")=pure false:=by rw[isSubtype_type];kernel_rfl
theorem lD {j:Int}(h:0<=j):Builtin.Range.rangeSize 0 j 1=j:=by
 unfold Builtin.Range.rangeSize
 rw[aC (by decide)]
 split<;>omega
section
variable {prog:Program}{w:World}{A:Around}{E:Value->Shared->Prop}{s:Shared}
theorem pA {p:Addr}{j:Int}{t1 t2 t3:Tok}{Q:Value->Shared->Prop}(ho:s.heap.get? p=some {cls:=.type "range",data:=.fields #[.int 0 t1,.int j t2,.int 1 t3]})(j0:0<=j)(j1:j<=1000)
  (h:Q (.ref s.heap.objs.size) {s with heap:=s.heap.push {cls:=.type "range_iterator",data:=.fields #[rawInt (j-1),rawInt j,rawInt (-1)]}}):wpAny (model prog w) A (call (.builtin "range.__reversed__") [.ref p]) Q E s:=by
 refine wpAny_call_entry cR ⟨_,ho,rfl⟩ PySem.F.entry_range_reversed ?_ (PySem.F.args_range_reversed_1 _)
 unfold Builtin.«range.__reversed__»
 refine au (wpAny_of_eq (a:=Value.ref p) rfl ?_)
 unfold Builtin.Range.rangeFields
 have e0:(0:Int)+(Builtin.Range.rangeSize 0 j 1-1)*1=j-1:=by rw[lD j0];omega
 have e1:Builtin.Range.rangeSize 0 j 1=j:=lD j0
 have e2:(Builtin.Range.rangeFitsLong 0&&Builtin.Range.rangeFitsLong j&&Builtin.Range.rangeFitsLong 1&&Builtin.Range.rangeFitsLong (-1)&&Builtin.Range.rangeFitsLong (0-1)&&Builtin.Range.rangeFitsLong (Builtin.Range.rangeSize 0 j 1))=true:=by
  rw[e1]
  simp only[Builtin.Range.rangeFitsLong,cG,cW]
  omega
 refine au ?_
 refine au (wpAny_field ho rfl (x:=.int 0 t1) rfl ?_)
 refine au (m:=asInt? (.int 0 t1)) (aS ?_)
 refine au (wpAny_field ho rfl (x:=.int j t2) rfl ?_)
 refine au (m:=asInt? (.int j t2)) (aS ?_)
 refine au (wpAny_field ho rfl (x:=.int 1 t3) rfl ?_)
 refine au (m:=asInt? (.int 1 t3)) (aS ?_)
 refine aS ?_
 dsimp only
 rw[e2,e0,e1]
 simp only[Bool.not_true,b8,if_false,if_true]
 exact au (wpAny_newObj_type (aS ⟨_,rfl,h⟩))
theorem lu {p:Addr}{j:Int}{t1 t2 t3:Tok}{Q:Value->Shared->Prop}(ho:s.heap.get? p=some {cls:=.type "range",data:=.fields #[.int 0 t1,.int j t2,.int 1 t3]})(j0:0<=j)(j1:j<=1000)
  (h:Q (.ref s.heap.objs.size) {s with heap:=s.heap.push {cls:=.type "range_iterator",data:=.fields #[rawInt (j-1),rawInt j,rawInt (-1)]}}):
  codeAny (model prog w) A (.call (.builtin "reversed.__new__") ⟨[.type "reversed",.ref p],[]⟩) (wants Q E) s:=by
 have hT:s.TypeIs (.ref p) "range" :=⟨_,ho,rfl⟩
 refine codeAny_of_tree ?_
 show wpAny _ A.in1 (checkBuiltinCall "reversed.__new__" ⟨[.type "reversed",.ref p],[]⟩ >>= λ_=>again (.builtin "reversed.__new__" ⟨[.type "reversed",.ref p],[]⟩)) _ _ s
 refine au (wpAny_of_eq (PySem.F.newCall_reversed_1 _) (aS ⟨plainId_quiet PySem.F.plain_reversed_new _,codeAny_builtin PySem.F.entry_reversed_new ?_⟩))
 rw[Around.under_plainId PySem.F.plain_reversed_new _]
 unfold Builtin.«reversed.__new__»
 refine au (wpAny_of_eq (newClass_reversed _) ?_)
 dsimp only
 refine au (wpAny_of_eq (a:=()) (by first |rfl |kernel_rfl) ?_)
 refine au (wpAny_of_eq (a:=()) (by first |rfl |kernel_rfl) ?_)
 try dsimp only
 refine au (wpAny_specialOf hT cR.lookup ?_)
 try dsimp only
 refine au (wpAny_of_eq (cR.bind _) ?_)
 try dsimp only
 have hn:¬((Value.builtin "range.__reversed__" == Value.none)=true):=aX
 first
 |rw[az hn]
 |(show wpAny _ _ (if(Value.builtin "range.__reversed__" == Value.none)=true then _ else _) _ _ _;rw[az hn])
 refine au (cZ ?_)
 refine au (m:=runValue (.call (.builtin "range.__reversed__") ⟨[.ref p],[]⟩)) (show wpAny _ _ (call (.builtin "range.__reversed__") [.ref p]) _ _ _ from pA ho j0 j1 ?_)
 first
 |exact aS h
 |exact au (aS (aS h))
theorem lg {p:Addr}{j:Int}{t1 t2 t3:Tok}{Q:Value->Shared->Prop}(ho:s.heap.get? p=some {cls:=.type "range",data:=.fields #[.int 0 t1,.int j t2,.int 1 t3]})(j0:0<=j)(j1:j<=1000)
  (h:Q (.ref s.heap.objs.size) {s with heap:=s.heap.push {cls:=.type "range_iterator",data:=.fields #[rawInt (j-1),rawInt j,rawInt (-1)]}}):wpAny (model prog w) A (call (.type "reversed") [.ref p]) Q E s:=by
 refine callType_other (U:= "range_iterator") (Q₁:=λobj s₁=>obj = .ref s.heap.objs.size/\s₁ = {s with heap:=s.heap.push {cls:=.type "range_iterator",data:=.fields #[rawInt (j-1),rawInt j,rawInt (-1)]}}) (by decide +kernel) PySem.F.create_reversed ⟨_,_,PySem.F.mro_reversed⟩ PySem.F.made_reversed kc (PySem.F.typeCall_reversed_1 _) (lu ho j0 j1 ⟨rfl,rfl⟩) ?_
 rintro obj s₁ ⟨rfl,rfl⟩
 exact⟨⟨_,bg _ rfl,rfl⟩,h⟩
end
section
variable {X:Cx}{tg:Expr}
def vD (ta:TA):TI:=λσ H R=>ta σ H λvs H1=>∃ (p:Addr) (j:Int),vs = [.ref p]/\H1 p=some (.rng 0 j)/\0<=j/\j<=1000/\R (ItD (j-1) j.toNat) H1
theorem rS {a:Expr}{ta:TA}{p pos:Pos}(hc:X.calm=true)(hg:Gl X "reversed")(hm:X.mg "reversed" = none)(ha:PA X [a] ta)(hs:starEach [a] X.env = [(false,eval a X.env)]:=by rfl):PI X tg (.Call (.Name "reversed" p) [a] [] pos) (vD ta):=by
 intro pins s σ H R I h
 refine Call_ (iw I hg hm boot_reversed (bA (thn (ha pos pins s σ H _ I h) λus s1 ⟨vs,H1,I1,r1,q1⟩=>?_) hs rfl))
 obtain⟨a,j,e,hq,j0,j1,q⟩:=q1
 subst e
 obtain⟨u,rfl,ru⟩:=vals1 r1
 cases ru
 obtain⟨t1,t2,t3,ho⟩:=I1.hok a _ hq
 refine lg ho j0 j1 ?_
 have hit:IsRangeIter (s1.heap.push {cls:=.type "range_iterator",data:=.fields #[rawInt (j-1),rawInt j,rawInt (-1)]}) s1.heap.objs.size ((j-1)+((0:Nat):Int) * -1) (((j.toNat:Nat):Int)-((0:Nat):Int)) (-1):=by
  have e1:(j-1)+((0:Nat):Int) * -1=j-1:=by simp
  have e2:((j.toNat:Nat):Int)-((0:Nat):Int)=j:=by omega
  rw[e1,e2]
  exact bg _ rfl
 refine wpAny_pyIter_rangeiter (s:={s1 with heap:=s1.heap.push {cls:=.type "range_iterator",data:=.fields #[rawInt (j-1),rawInt j,rawInt (-1)]}}) hit ?_
 refine⟨s1.heap.objs.size,[s1.heap.objs.size],_,_,H1,rfl,I1.kept (t':=s1.toks) (λb o e=>aE _ e),mP _ (j-1) j.toNat,hit,λb hb=>?_,q⟩
 have e:b=s1.heap.objs.size:=by simpa using hb
 subst e
 exact I1.rf (ar _) (I1.hok.fresh (ar _))
end
end TL
namespace TL
open PySem PySem.Spec PyProof.Rows L2
section
variable {D:Ends}{σ:L2.St}{H:Hp}
theorem nm2 {t1 t2 R:TS}(h:∀ r:TS,(∀ D σ H,R D σ H->r D σ H)->j9 t1 (j9 t2 r) D σ H):j9 t1 (j9 t2 R) D σ H:=h R λ_ _ _ z=>z
theorem nm3 {t1 t2 t3 R:TS}(h:∀ r:TS,(∀ D σ H,R D σ H->r D σ H)->j9 t1 (j9 t2 (j9 t3 r)) D σ H):j9 t1 (j9 t2 (j9 t3 R)) D σ H:=h R λ_ _ _ z=>z
theorem cut {t u:TS}(J:L2.St->Hp->Prop)(first:∀ (N:L2.St->Hp->Prop) (R:VK) (B C:L2.St->Hp->Prop),(∀ σ' H',J σ' H'->N σ' H')->(∀ v H',D.rt v H'->R v H')->t ⟨N,R,B,C⟩ σ H)(rest:∀ σ' H',J σ' H'->u D σ' H'):j9 t u D σ H:=
 first (u D) D.rt D.bk D.ct rest λ_ _ z=>z
theorem gk {K:PySem.W.Frag}{a:Addr}{xs:List V}{g:TG}{tb:TS}(Pv:Nat->L2.St->Hp->Prop)(h0:Pv 0 σ H)(hl:∀ i σ H,i<=xs.length->Pv i σ H->SqL K H a xs)
  (hs:∀ i x σ H (N:L2.St->Hp->Prop) (R:VK) (B:L2.St->Hp->Prop),(∀ σ' H',Pv (i+1) σ' H'->N σ' H')->(∀ v H',D.rt v H'->R v H')->xs[i]? = some x->Pv i σ H->g x σ H λσ2 H2=>tb ⟨N,R,B,N⟩ σ2 H2) (hd:∀ σ H,Pv xs.length σ H->D.nx σ H):
  ∃ W:Nat->Nat->L2.St->Hp->Prop,(∃ m,W 0 m σ H)/\∀ i m σ H,W i m σ H->
   ((Itl K a).stop i H/\D.nx σ H)\/((Itl K a).go i H/\∃ N:L2.St->Hp->Prop,(∀ σ' H',N σ' H'->∃ m',m'<m/\W (i+1) m' σ' H')/\∀ x H',(Itl K a).yld i H x H'->g x σ H' λσ2 H2=>tb {D with nx:=N,ct:=N,bk:=D.nx} σ2 H2):=
 rh Pv h0 hl (λi x σ H hx p=>hs i x σ H _ _ _ (λ_ _ z=>z) (λ_ _ z=>z) hx p) hd
theorem jj {lo:Int}{n:Nat}{g:TG}{tb:TS}(Pv:Nat->L2.St->Hp->Prop)(h0:Pv 0 σ H)
  (hs:∀ i σ H (N:L2.St->Hp->Prop) (R:VK) (B:L2.St->Hp->Prop),(∀ σ' H',Pv (i+1) σ' H'->N σ' H')->(∀ v H',D.rt v H'->R v H')->i<n->Pv i σ H->g (.int (lo+i)) σ H λσ2 H2=>tb ⟨N,R,B,N⟩ σ2 H2) (hd:∀ σ H,Pv n σ H->D.nx σ H):
  ∃ W:Nat->Nat->L2.St->Hp->Prop,(∃ m,W 0 m σ H)/\∀ i m σ H,W i m σ H->
   ((Itr lo n).stop i H/\D.nx σ H)\/((Itr lo n).go i H/\∃ N:L2.St->Hp->Prop,(∀ σ' H',N σ' H'->∃ m',m'<m/\W (i+1) m' σ' H')/\∀ x H',(Itr lo n).yld i H x H'->g x σ H' λσ2 H2=>tb {D with nx:=N,ct:=N,bk:=D.nx} σ2 H2):=
 jU Pv h0 (λi σ H hx p=>hs i σ H _ _ _ (λ_ _ z=>z) (λ_ _ z=>z) hx p) hd
theorem lK {K:PySem.W.Frag}{a:Addr}{xs:List V}{g:TG}{tb:TS}(Pv:Nat->L2.St->Hp->Prop)(h0:Pv 0 σ H)(hl:∀ i σ H,i<=xs.length->Pv i σ H->SqL K H a xs)
  (hs:∀ i x σ H p (N:L2.St->Hp->Prop) (R:VK) (B:L2.St->Hp->Prop),(∀ σ' H',Pv (i+1) σ' H'->N σ' H')->(∀ v H',D.rt v H'->R v H')->xs[i]? = some x->Pv i σ H->H p=none->g (.ref p) σ (upd H p (.tup [.int i,x])) λσ2 H2=>tb ⟨N,R,B,N⟩ σ2 H2) (hd:∀ σ H,Pv xs.length σ H->D.nx σ H):
  ∃ W:Nat->Nat->L2.St->Hp->Prop,(∃ m,W 0 m σ H)/\∀ i m σ H,W i m σ H->
   ((Ite K a).stop i H/\D.nx σ H)\/((Ite K a).go i H/\∃ N:L2.St->Hp->Prop,(∀ σ' H',N σ' H'->∃ m',m'<m/\W (i+1) m' σ' H')/\∀ x H',(Ite K a).yld i H x H'->g x σ H' λσ2 H2=>tb {D with nx:=N,ct:=N,bk:=D.nx} σ2 H2):=
 rk Pv h0 hl (λi x σ H p hx q np=>hs i x σ H p _ _ _ (λ_ _ z=>z) (λ_ _ z=>z) hx q np) hd
end
open TS
def Pw {α:Type}(R:α->V->Prop):List α->List V->Prop
 |[],[]=>True
 |d::ds,v::vs=>R d v/\Pw R ds vs
 |_,_=>False
theorem Pw.len {α:Type}{R:α->V->Prop} :∀ {ds:List α}{vs:List V},Pw R ds vs->vs.length=ds.length
 |[],[],_=>rfl
 |d::ds,v::vs,h=>by rw[bb,bb,Pw.len h.2]
theorem Pw.imp {α:Type}{R S:α->V->Prop}(f:∀ d v,R d v->S d v):∀ {ds:List α}{vs:List V},Pw R ds vs->Pw S ds vs
 |[],[],_=>trivial
 |d::ds,v::vs,h=>⟨f _ _ h.1,Pw.imp f h.2⟩
theorem Pw.app {α:Type}{R:α->V->Prop} :∀ {ds es:List α}{vs us:List V},Pw R ds vs->Pw R es us->Pw R (ds++es) (vs++us)
 |[],_,[],_,_,h=>h
 |d::ds,_,v::vs,_,h,h2=>⟨h.1,Pw.app h.2 h2⟩
theorem Pw.one {α:Type}{R:α->V->Prop}{d:α}{v:V}(h:R d v):Pw R [d] [v]:=⟨h,trivial⟩
section
variable {K:PySem.W.Frag}{l:Addr}{g:TG}{tt:TT}{te:TE}{cap:List (Option Nat)}{σ:St}{Q:VK}{H1:Hp}{J:It}
theorem qM {α:Type}(n:Nat)(ds:List α)(Φ:Hp->α->V->Prop)(mono:∀ {H H':Hp} d v,dM H H'->Φ H d v->Φ H' d v)(hn:H1 l=none)(hlen:n=ds.length)(hz:n<sizeLine)(go:∀ i H,dM H1 H->i<n->J.go i H)(st:∀ H,dM H1 H->J.stop n H)
  (hs:∀ i x d H H',dM H1 H->(∃ us,H l=some (.lst us))->J.yld i H x H'->ds[i]? = some d->∀ (P1:VK) (P0:Hp->Prop),(∀ v H2,dM H H2->Φ (hid l H2) d v->P1 v H2)->
   g x (gK cap σ) H' λσ2 H2=>tt σ2 H2 λb H3=>if b=true then te σ2 H3 P1 else P0 H3)
  (hq:∀ vs H',dM H1 H'->H' l=some (.lst vs)->Pw (Φ (hid l H')) ds vs->Q (.ref l) H'):LcW J g tt te cap σ Q l H1:=by
 refine tW n (λi acc H=>Pw (Φ (hid l H)) (ds.take i) acc/\dM H1 H/\H l=some (.lst acc)) ⟨trivial,dj hn,di⟩ (λi acc H hi ⟨_,s,_⟩=>go i H s hi) (λacc H ⟨_,s,_⟩=>st H s) ?_ ?_
 ·rintro i x acc H H' hi ⟨e1,s,hl⟩ y
  have hd:ds[i]? = some (ds[i]'(by omega)):=by simp
  generalize ds[i]'(by omega)=d at hd
  refine hs i x d H H' s ⟨_,hl⟩ y hd _ _ (λv H2 s2 dv=>?_)
  have la:=Pw.len e1
  rw[bH]at la
  refine⟨s2 _ _ hl,by omega,?_,dM.upd (s.trans s2) hn,di⟩
  rw[si,bK,hd]
  exact Pw.app (Pw.imp (λd v=>mono d v (qV s2)) e1) (Pw.one dv)
 ·rintro acc H ⟨e1,s,hl⟩
  rw[aZ (by omega)]at e1
  exact hq acc H s hl e1
end
end TL
namespace TL
open PySem PySem.Spec PyProof.Rows L2
def gr (l:Ln)(t:List Int):List (List Int):=(fr l t (oth (t.getLastD 0))).map λe=>t ++ [e]
def exF (l:Ln):Nat->List Int->List (List Int)
 | 0,t=>[t]
 |d+1,t=>(gr l t).flatMap (exF l d)
def jd (m:Int):List (List Int):=(gd 0 (2*m).toNat).map λe=>[e]
def eD (l:Ln):Nat->List (List Int)
 | 0=>jd l.1
 |k+1=>(eD l k).flatMap (gr l)
theorem kS {α:Type} :∀ l:List α,(l.flatMap λt=>[t])=l
 |[]=>rfl
 |x::l=>by rw[bT,kS l];rfl
theorem nv (l:Ln):∀ (d:Nat) (t:List Int),exF l (d+1) t=(exF l d t).flatMap (gr l)
 | 0,t=>by
  show(gr l t).flatMap (exF l 0) = [t].flatMap (gr l)
  rw[List.flatMap_singleton]
  have:(exF l 0) = λt=>[t]:=rfl
  rw[this,kS]
 |d+1,t=>by
  show(gr l t).flatMap (exF l (d+1))=((gr l t).flatMap (exF l d)).flatMap (gr l)
  rw[List.flatMap_assoc]
  congr 1
  funext u
  exact nv l d u
theorem rn (l:Ln):∀ k,eD l k=(jd l.1).flatMap (exF l k)
 | 0=>by
  show jd l.1=(jd l.1).flatMap λt=>[t]
  rw[kS]
 |k+1=>by
  show(eD l k).flatMap (gr l)=_
  rw[rn l k,List.flatMap_assoc]
  congr 1
  funext t
  exact(nv l k t).symm
theorem qZ {l:Ln}(ok:fc l)(t:List Int):(gr l t).length<=160:=by unfold gr;rw[aa];exact rb ok _ _
theorem jS {l:Ln}{t u:List Int}(h:u∈gr l t):∃ e∈fr l t (oth (t.getLastD 0)),u=t ++ [e]:=by
 obtain⟨e,he,rfl⟩:=aQ.mp h
 exact⟨e,he,rfl⟩
theorem iz {l:Ln}(ok:fc l):∀ k,∀ t∈eD l k,sE l t/\t.length=k+1
 | 0,t,h=>by
  obtain⟨e,he,rfl⟩:=aQ.mp h
  have he:=qf.mp he
  have:=ok.one
  refine⟨⟨λx hx=>?_,by simp,λi x y _ hy=>by simp at hy⟩,rfl⟩
  rw[bh.mp hx];omega
 |k+1,t,h=>by
  obtain⟨u,hu,ht⟩:=List.mem_flatMap.mp h
  obtain⟨T,hl⟩:=iz ok k u hu
  obtain⟨e,he,rfl⟩:=jS ht
  refine⟨T.snoc ok (λz=>by rw[z]at hl;cases hl) he,by rw[ao,hl];rfl⟩
theorem vv {l:Ln}(G:fG l)(e:Int):(jn l.2 e).Pairwise (· < ·):=by
 have h1:(jn l.2 e).Pairwise (· <= ·):=kn _
 have nd:(below l.2 e++above l.2 e).Nodup:=by
  have n1:(below l.2 e).Nodup:=by
   unfold below
   rw[List.Nodup,bz]
   refine bU (λ{p q} hp hq h=>λz=>h (Prod.ext z ?_)) (List.Pairwise.filter _ G.nd)
   have a:=bC (aY.mp hp).2
   have b:=bC (aY.mp hq).2
   rw[a,b]
  have n2:(above l.2 e).Nodup:=by
   unfold above
   rw[List.Nodup,bz]
   refine bU (λ{p q} hp hq h=>λz=>h (Prod.ext ?_ z)) (List.Pairwise.filter _ G.nd)
   have a:=bC (aY.mp hp).2
   have b:=bC (aY.mp hq).2
   rw[a,b]
  refine List.nodup_append.mpr ⟨n1,n2,λx hx y hy z=>?_⟩
  obtain⟨p,hp,rfl⟩:=aQ.mp hx
  obtain⟨q,hq,rfl⟩:=aQ.mp hy
  have a:=bC (aY.mp hp).2
  have b:=bC (aY.mp hq).2
  have g1:=(G.ok p (aY.mp hp).1).lt
  have g2:=(G.ok q (aY.mp hq).1).lt
  omega
 have nd2:(jn l.2 e).Nodup:=(h8 _).nodup_iff.mpr nd
 exact cf (λ{a b} h=>by omega) (h1.and nd2)
theorem lI:∀ {a b:List Int}{x y:Int},a.length=b.length->eH a b=true->eH (a ++ [x]) (b ++ [y])=true
 |[],[],_,_,_,h=>by cases h
 |p::a,q::b,x,y,hl,h=>by
  have h:(if p=q then eH a b else decide (p<q))=true:=h
  show(if p=q then eH (a ++ [x]) (b ++ [y])else decide (p<q))=true
  by_cases e:p=q
  ·rw[aC e]at h ⊢
   exact lI (by simpa using hl) h
  ·rw[az e]at h ⊢
   exact h
theorem jP:∀ (a:List Int) {x y:Int},x<y->eH (a ++ [x]) (a ++ [y])=true
 |[],x,y,h=>by
  show(if x=y then eH [] []else decide (x<y))=true
  rw[az (by omega)];exact bO h
 |p::a,x,y,h=>by
  show(if p=p then eH (a ++ [x]) (a ++ [y])else decide (p<p))=true
  rw[aC rfl];exact jP a h
theorem oj {l:Ln}(G:fG l):∀ k,(eD l k).Pairwise (λa b=>eH a b=true)
 | 0=>by
  unfold eD jd
  rw[bz]
  refine cf (λ{a b} h=>?_) (rM 0 _)
  exact jP [] h
 |k+1=>by
  show((eD l k).flatMap (gr l)).Pairwise _
  have ok:=G.jf
  rw[List.pairwise_flatMap]
  refine⟨λt _=>?_,?_⟩
  ·unfold gr
   rw[bz]
   exact cf (λ{a b} h=>jP t h) (List.Pairwise.filter _ (vv G _))
  ·refine bU (λ{a b} ha hb h=>?_) (oj G k)
   intro x hx y hy
   obtain⟨e,_,rfl⟩:=jS hx
   obtain⟨f,_,rfl⟩:=jS hy
   exact lI ((iz ok k a ha).2.trans (iz ok k b hb).2.symm) h
theorem uu {l:Ln}(G:fG l)(k:Nat):(eD l k).Nodup:=cf (λ{a b} h=>λz=>by rw[z,iu]at h;cases h) (oj G k)
theorem lO {l:Ln}(G:fG l):∀ n,(mE l n).length<=48 ^ ((n+1)/2)
 | 0=>by simp[mE]
 | 1=>by
  simp only[mE,rm,aa,List.length_range]
  have:=G.most
  omega
 |n+2=>by
  have ih:=lO G n
  simp only[mE]
  rw[List.length_flatMap]
  have e1:(oo l).map (λa=>((mE l n).map λr=>a.1::a.2::r).length)=(oo l).map λ_=>(mE l n).length:=by
   refine List.map_congr_left λa _=>by rw[aa]
  rw[e1,List.map_const',List.sum_replicate_nat]
  have h1:(oo l).length<=48:=by
   unfold oo
   rw[ao,aa,aa]
   have:=G.len
   omega
  rw[show(n+2+1)/2=(n+1)/2+1 by omega,Nat.pow_succ,Nat.mul_comm (48 ^ _)]
  exact Nat.mul_le_mul h1 ih
theorem oR {l:Ln}(G:fG l){k:Nat}(hk:k<=6):(eD l k).length<=5308416:=by
 have h1:=kL (uu G k) (l2:=mE l (k+1)) λt ht=>nF G.jf (k+1) t (iz G.jf k t ht).2 (iz G.jf k t ht).1.ends (iz G.jf k t ht).1.ch
 have h2:=lO G (k+1)
 have h3:48 ^ ((k+1+1)/2)<=48 ^ 4:=Nat.pow_le_pow_right (by decide) (by omega)
 have h4:48 ^ 4=5308416:=by decide
 omega
theorem nu {α β:Type}(f:α->List β):∀ {l:List α}{i:Nat}{x:α},l[i]? = some x->((l.take i).flatMap f).length+(f x).length<=(l.flatMap f).length
 |y::l,0,x,h=>by
  cases h
  rw[bT,ao];simp
 |y::l,i+1,x,h=>by
  have:=nu f (l:=l) (i:=i) (by simpa using h)
  rw[List.take_succ_cons,bT,bT,ao,ao]
  omega
theorem nW {a b:List Int}(h:eH a b=true):eH b a=false:=by
 cases q:eH b a with
 |false=>rfl
 |true=>have:=gW a b a h q;rw[iu]at this;cases this
theorem jw:∀ {a b:List (List Int)},a.Perm b->a.Pairwise (λx y=>eH y x=false)->b.Pairwise (λx y=>eH y x=false)->a=b
 |[],b,p,_,_=>(List.nil_perm.mp p).symm
 |x::a,b,p,ha,hb=>by
  cases b with
  |nil=>exact absurd (p.length_eq) (by simp)
  |cons y b=>
   have hx:x∈y::b:=p.mem_iff.mp aB
   have hy:y∈x::a:=p.mem_iff.mpr aB
   have e:x=y:=by
    rcases aJ.mp hx with z |z
    ·exact z
    ·rcases aJ.mp hy with z' |z'
     ·exact z'.symm
     ·exact kK x y ((bG.mp hb).1 x z) ((bG.mp ha).1 y z')
   subst e
   rw[jw (List.Perm.cons_inv p) (bG.mp ha).2 (bG.mp hb).2]
end TL
namespace K41
open PySem L2 TL PyProof.Rows
abbrev St:=L2.St
def top (i:Nat):Stmt:=PySem.Challenge.pw_turnline_k41_all_trains.main.body.getD i (.Pass ⟨0,0,0,0⟩)
def h9:Sp:=λvs H Q _=>∃ e:Int,vs = [.int e]/\Q (.int (oth e)) H
def oB:Sp:=λvs H Q _=>∃ e:Int,vs = [.int e]/\Q (.int (e/2)) H
def lZ (K:PySem.W.Frag):Sp:=λvs H Q _=>∃ (a:Addr) (ns:List Int) (k:Int),vs = [.ref a,.int k]/\SqL K H a (ns.map V.int)/\0<=k/\∀ c,Q (.int c) H
def lX:Sp:=λvs H Q _=>∃ c k:Int,vs = [.int c,.int k]/\0<=k/\k<=1000/\∀ n,0<=n->n<2147483648->Q (.int n) H
abbrev gw:Stmt:=top 10
theorem l0:ec ["end"] ["end"] (dC gw):=⟨rfl,rfl,rfl,by decide +kernel,rfl,by decide +kernel,by decide +kernel⟩
abbrev gN:Stmt:=top 11
theorem mT:ec ["end"] ["end"] (dC gN):=⟨rfl,rfl,rfl,by decide +kernel,rfl,by decide +kernel,by decide +kernel⟩
abbrev fR:Stmt:=top 22
theorem md:ec ["_law_end"] ["_law_end"] (dC fR):=⟨rfl,rfl,rfl,by decide +kernel,rfl,by decide +kernel,by decide +kernel⟩
abbrev fg:Stmt:=top 19
theorem kr:ec ["_law_script","_law_k"] ["_law_script","_law_k"] (dC fg):=⟨rfl,rfl,rfl,by decide +kernel,rfl,by decide +kernel,by decide +kernel⟩
abbrev gi:Stmt:=top 20
theorem gp:ec ["_law_cell","_law_k","_law_again","_law_number"] ["_law_cell","_law_k"] (dC gi):=⟨rfl,rfl,rfl,by decide +kernel,rfl,by decide +kernel,by decide +kernel⟩
section
variable {P:Program}{w:World}{K:PySem.W.Frag}{mg:Str->Option Value}{base:Heap}{f:Addr}{fd:FuncData}{D c1 c2 c3 c4 c5 c6 c7:Addr}
theorem mm (F:Fn K mg "other_end" gw ["end"] f fd):d8 P w K mg base CX0 1 f fd ["end"] h9:=by
 refine F.F.ok l0 (λvs H Q E h=>?_) (λcdv A outer s H vs Q E hr h=>?_)
 ·obtain⟨e,rfl,_⟩:=h;rfl
 ·obtain⟨e,rfl,k⟩:=h
  refine⟨_,(dz (ef (dD tP (pv 0) dq))),?_⟩
  refine⟨_,rfl,_,_,rfl,rfl,?_⟩
  show Q (.int (Builtin.bitXor e 1)) H
  rw[rG];exact k
theorem m9 (F:Fn K mg "piece_of" gN ["end"] f fd):d8 P w K mg base CX0 1 f fd ["end"] oB:=by
 refine F.F.ok mT (λvs H Q E h=>?_) (λcdv A outer s H vs Q E hr h=>?_)
 ·obtain⟨e,rfl,_⟩:=h;rfl
 ·obtain⟨e,rfl,k⟩:=h
  refine⟨_,(dz (ef (dD gf (pv 0) dq))),?_⟩
  exact⟨_,rfl,_,_,rfl,rfl,⟨by decide,by decide⟩,k⟩
theorem jz (F:Fn K mg "_law_other" fR ["_law_end"] f fd):d8 P w K mg base CX0 1 f fd ["_law_end"] h9:=by
 refine F.F.ok md (λvs H Q E h=>?_) (λcdv A outer s H vs Q E hr h=>?_)
 ·obtain⟨e,rfl,_⟩:=h;rfl
 ·obtain⟨e,rfl,k⟩:=h
  refine⟨_,(dz (ef (dD qu (dD eG (pv 0) dq) (dD eV dq (dD eA (pv 0) dq))))),?_⟩
  exact⟨_,rfl,_,_,rfl,rfl,_,rfl,_,_,rfl,rfl,by show(0:Int)<2;decide,_,_,rfl,rfl,.inl ⟨by decide,by decide⟩,_,_,rfl,rfl,k⟩
theorem iq (F:Fn K mg "_law_cell_at" fg ["_law_script","_law_k"] f fd)(B:Bl mg):d8 P w K mg base CX0 1 f fd ["_law_script","_law_k"] (lZ K):=by
 refine F.F.ok kr (λvs H Q E h=>?_) (λcdv A outer s H vs Q E hr h=>?_)
 ·obtain⟨a,ns,k,rfl,_⟩:=h;rfl
 ·obtain⟨a,ns,k,rfl,hS,h0,q⟩:=h
  refine⟨_,(dt (fU (eS (oK (pv 1) (dN eE rfl B.len boot_len (dg (pv 0) dh))))
 (dz (ef (fC fh (pv 0) (pv 1) (λ_ _=>rfl)))) eI)
 (dz (ef dq))),?_⟩
  refine⟨_,rfl,_,rfl,a,_,rfl,.inl hS,_,_,rfl,rfl,_,rfl,fD (λhlt=>?_) (λ_=>?_)⟩
  ·have hlt:k<((ns.map V.int).length:Int):=by simpa using hlt
   rw[aa]at hlt
   have hg:(ns.map V.int)[k.toNat]? = some (V.int (ns.getD k.toNat 0)):=by
    rw[ax,aO]
    have:k.toNat<ns.length:=by omega
    simp[this]
   have e1:((k.toNat:Nat):Int)=k:=by omega
   exact⟨_,rfl,_,rfl,a,_,k,_,rfl,rfl,hS,by have h:=iZ hg;rw[e1]at h;exact h,q _⟩
  ·exact q _
theorem je (F:Fn K mg "_law_mix" gi ["_law_cell","_law_k"] f fd)(B:Bl mg):d8 P w K mg base CX0 1 f fd ["_law_cell","_law_k"] lX:=by
 refine F.F.ok gp (λvs H Q E h=>?_) (λcdv A outer s H vs Q E hr h=>?_)
 ·obtain⟨c,k,rfl,_⟩:=h;rfl
 ·obtain⟨c,k,rfl,h0,h1,q⟩:=h
  refine⟨_,(dt (fU (eS (u0 (pv 0) (dD nO dq dq)))
 (dt (fJ bp rfl (gI rfl B.range (dg (pv 1) dh)) (dS (i:=2) gp.nd rfl (Or.inl rfl))
 (dz (dO (i:=0) gp.nd rfl (Or.inl rfl) (dD gf (pv 0) (dD nO dq dq)))))
 (dz (ef (dD eA (pv 0) (dD nO dq dq))))) eI)
 (dt (dO (i:=3) gp.nd rfl (Or.inl rfl) (dD eA (dD eV (dD eG (dD eG (dD eA (pv 0) dq) (dD eV (dD eV (pv 1) (pv 1)) dq)) (pv 1)) dq) dq))
 (dt (dO (i:=3) gp.nd rfl (Or.inl rfl) (dD eA (dD eV (pv 3) (pv 3)) dq))
 (dz (ef (dD gf (dD eA (dD eV (pv 3) (dD eG (pv 3) dq)) dq) dq)))))),?_⟩
  refine⟨_,rfl,_,_,rfl,rfl,⟨by decide,by decide,by decide⟩,_,_,rfl,rfl,_,rfl,fD (λhlt=>?_) (λ_=>?_)⟩
  ·refine⟨_,rfl,_,rfl,by omega,by omega,jU (λi σ H2=>H2=H/\∃ (c:Int) (x:Option V),σ = [some (.int c),some (.int k),x,none]) ⟨rfl,c,none,rfl⟩ ?_ ?_⟩
   ·rintro i σ H2 hi ⟨rfl,c,x,rfl⟩
    exact⟨_,rfl,_,_,rfl,rfl,⟨by decide,by decide,by decide⟩,_,_,rfl,rfl,⟨by decide,by decide⟩,rfl,_,_,rfl⟩
   ·rintro σ H2 ⟨rfl,c,x,rfl⟩
    refine⟨_,rfl,_,_,rfl,rfl,⟨by decide,by decide,by decide⟩,_,_,rfl,rfl,(by show(0:Int)<_;decide),q _ ?_ ?_⟩
    ·show 0<=c%(10 ^ 6);omega
    ·show c%(10 ^ 6)<_;omega
  ·refine⟨_,rfl,_,_,rfl,rfl,(by show(0:Int)<_;decide),_,rfl,_,rfl,_,_,rfl,rfl,.inl ⟨by omega,by omega⟩,_,_,rfl,rfl,.inr ⟨by decide,by decide⟩,_,_,rfl,rfl,_,rfl,_,_,rfl,rfl,_,_,rfl,rfl,.inr ⟨by decide,by decide⟩,_,_,rfl,rfl,(by show(0:Int)<_;decide),?_⟩
   dsimp only
   generalize hn:(c%1000003+k*k*7919+k)*48271%2147483629=n
   have n0:0<=n:=by omega
   have n1:n<2147483629:=by omega
   refine⟨_,rfl,_,rfl,_,_,rfl,rfl,.inl ⟨by omega,by omega⟩,_,_,rfl,rfl,(by show(0:Int)<_;decide),?_⟩
   dsimp only
   generalize hm:n*n%2147483587=m
   have m0:0<=m:=by omega
   have m1:m<2147483587:=by omega
   refine⟨_,rfl,_,rfl,_,_,rfl,rfl,_,_,rfl,rfl,.inl ⟨by omega,by omega⟩,_,_,rfl,rfl,(by show(0:Int)<_;decide),_,_,rfl,rfl,⟨by decide,by decide⟩,q _ ?_ ?_⟩
   ·show 0<=m*(m+2)%2147483579/7;omega
   ·show m*(m+2)%2147483579/7<_;omega
end
theorem fO {n:Nat}(h:n<=1000):n<sizeLine:=Nat.lt_of_le_of_lt h (by decide)
def p7 (K:PySem.W.Frag):Sp:=λvs H Q _=>∃ n m:Int,vs = [.int n,.int m]/\0<=m/\m<=40/\∀ (p:Addr) (ns:List Int) (H':Hp),dM H H'->H p=none->H' p=some (.lst (ns.map V.int))->(ns.length:Int)=m->(∀ x∈ns,0<=x/\x<m)->ns.Nodup->Q (.ref p) H'
def jc (K:PySem.W.Frag):Sp:=λvs H Q _=>∃ (v:V) (l:Ln) (c:Int),vs = [v,.int c]/\Da K H (dL l) v/\fG l/\∀ (v':V) (js':List (Int×Int)) (nm es:List Int) (H':Hp),dM H H'->Da K H' (dL (l.1,js')) v'->Ren l.1 nm es->js'.Perm (l.2.map (rj es))->Q v' H'
abbrev eX:Stmt:=top 21
theorem eU:ec ["_law_number","_law_many","_law_told_here","_law_k"] ["_law_number","_law_many"] (dC eX):=⟨rfl,rfl,rfl,by decide +kernel,rfl,by decide +kernel,by decide +kernel⟩
abbrev fe:Stmt:=top 26
theorem dR:ec ["_law_line_here","_law_cell","_law_many","_law_joints","_law_names","_law_ends","_law_piece","_law_flip","_law_made","_law_k","_law_a","_law_b","_law_joint"] ["_law_line_here","_law_cell"] (dC fe):=⟨rfl,rfl,rfl,by decide +kernel,rfl,by decide +kernel,by decide +kernel⟩
section
variable {P:Program}{w:World}{K:PySem.W.Frag}{mg:Str->Option Value}{base:Heap}{f:Addr}{fd:FuncData}
theorem jy (F:Fn K mg "_law_turned_row" eX ["_law_number","_law_many"] f fd)(B:Bl mg):d8 P w K mg base CX0 1 f fd ["_law_number","_law_many"] (p7 K):=by
 refine F.F.ok eU (λvs H Q E h=>?_) (λcdv A outer s H vs Q E hr h=>?_)
 ·obtain⟨n,m,rfl,_⟩:=h;rfl
 ·obtain⟨n,m,rfl,h0,h1,k⟩:=h
  refine⟨_,(dt (dO (i:=2) eU.nd rfl (Or.inl rfl) (eL dh))
 (dt (fJ bp rfl (gI rfl B.range (dg (pv 1) dh)) (dS (i:=3) eU.nd rfl (Or.inl rfl))
 (dt (fz (ik aL cY PySem.F.type_list_insert lH (pv 2) (dg (dD eA (pv 0) (dD eG (pv 3) dq)) (dg (pv 3) dh))))
 (dz (dO (i:=0) eU.nd rfl (Or.inl rfl) (dD gf (pv 0) (dD eG (pv 3) dq))))))
 (dz (ef (pv 2))))),?_⟩
  refine⟨aM _,λt ht=>?_⟩
  refine⟨_,rfl,m,rfl,by omega,by omega,jU (λi σ H3=>∃ (n:Int) (ns:List Int) (x:Option V),σ = [some (.int n),some (.int m),some (.ref t),x]/\H3=upd H t (.lst (ns.map V.int))/\ns.length=i/\(∀ x∈ns,0<=x/\x<(i:Int))/\ns.Nodup)
   ⟨n,[],none,rfl,rfl,rfl,λx hx=>(nomatch hx),List.nodup_nil⟩ ?_ ?_⟩
  ·rintro i σ H3 hi ⟨n,ns,x,rfl,rfl,hlen,hb,hnd⟩
   have i0:(0:Int)+(i:Nat)=(i:Int):=by omega
   rw[i0]
   have r0:0<=n%((i:Int)+1):=cN _ (by omega)
   have r1:n%((i:Int)+1)<(i:Int)+1:=cz _ (by omega)
   refine⟨_,rfl,.inl ⟨rfl,_,SqL.of di⟩,_,rfl,_,rfl,_,_,rfl,rfl,_,_,rfl,rfl,(by show(0:Int)<(i:Int)+1;omega),_,rfl,t,_,_,_,rfl,rfl,di,r0,?_,?_,?_⟩
   ·show n%((i:Int)+1)<=((ns.map V.int).length:Int)
    rw[aa,hlen];omega
   ·rw[aa,hlen];exact fO (by omega)
   refine⟨_,rfl,_,rfl,_,_,rfl,rfl,_,_,rfl,rfl,⟨by show(0:Int)<(i:Int)+1;omega,by show(i:Int)+1<1073741824;omega⟩,?_⟩
   have pm:=mZ ns (n%((i:Int)+1)).toNat (i:Int)
   refine⟨_,ns.take (n%((i:Int)+1)).toNat++(i:Int)::ns.drop (n%((i:Int)+1)).toNat,_,rfl,?_,?_,?_,?_⟩
   ·rw[ot,aK,bB,List.map_take,List.map_drop]
   ·rw[pm.length_eq,bb,hlen]
   ·intro x hx
    rcases aJ.mp (pm.mem_iff.mp hx)with z |z
    ·omega
    ·have:=hb x z;omega
   ·refine pm.nodup_iff.mpr (cu.mpr ⟨λz=>?_,hnd⟩)
    have:=(hb _ z).2
    omega
  ·rintro σ H3 ⟨n,ns,x,rfl,rfl,hlen,hb,hnd⟩
   exact⟨_,rfl,k t ns _ (dj ht) ht di (by omega) (λx hx=>by have:=hb x hx;omega) hnd⟩
end
section
variable {P:Program}{w:World}{K:PySem.W.Frag}{mg:Str->Option Value}{base:Heap}{f:Addr}{fd:FuncData}
theorem kF {f1 f2:Addr}{fd1 fd2:FuncData}(F:Fn K mg "_law_renamed" fe ["_law_line_here","_law_cell"] f fd)(dw:Fn K mg "_law_mix" gi ["_law_cell","_law_k"] f1 fd1)(en:Fn K mg "_law_turned_row" eX ["_law_number","_law_many"] f2 fd2)
  (B:Bl mg):d8 P w K mg base CX0 2 f fd ["_law_line_here","_law_cell"] (jc K):=by
 have eB:d8 P w K mg base CX0 1 f1 fd1 ["_law_cell","_law_k"] lX:=je dw B
 have jZ:d8 P w K mg base CX0 1 f2 fd2 ["_law_number","_law_many"] (p7 K):=jy en B
 refine F.F.ok dR (λvs H Q E h=>?_) (λcdv A outer s H vs Q E hr h=>?_)
 ·obtain⟨v,l,c,rfl,_⟩:=h;rfl
 ·obtain⟨v,⟨m,js⟩,c,rfl,hv,G,k⟩:=h
  have h1:1<=m:=G.one
  have h14:m<=14:=G.most
  have h40:m<=40:=by omega
  have hjl:js.length<=24:=G.len
  obtain⟨a,b,rfl,ht,us,hl,hq⟩:=jF hv
  dsimp only at ht hq k
  refine⟨_,(dt (tL (pv 0) (ij (n:=2) rfl (eh (dS (i:=2) dR.nd rfl (Or.inl rfl)) (eh (dS (i:=3) dR.nd rfl (Or.inl rfl)) gA))))
 (dt (dO (i:=4) dR.nd rfl (Or.inl rfl) (dQ jZ (hr.mono (by decide)) rfl en.m en.F.kp en.b .nil ei (dg (dQ eB (hr.mono (by decide)) rfl dw.m dw.F.kp dw.b .nil ei (dg (pv 1) (dg dq dh))) (dg (pv 2) dh))))
 (dt (dO (i:=5) dR.nd rfl (Or.inl rfl) (eL dh))
 (dt (fJ bp rfl (gI rfl B.range (dg (pv 2) dh)) (dS (i:=6) dR.nd rfl (Or.inl rfl))
 (dt (dO (i:=7) dR.nd rfl (Or.inl rfl) (dD eA (dQ eB (hr.mono (by decide)) rfl dw.m dw.F.kp dw.b .nil ei (dg (pv 1) (dg (dD eG dq (pv 6)) dh))) dq))
 (dz (dO (i:=5) dR.nd rfl (Or.inl rfl) (dD jM (pv 5) (eL (dg (dD eG (dD eV dq (fC fh (pv 4) (pv 6) (λ_ _=>rfl))) (pv 7)) (dg (dD qu (dD eG (dD eV dq (fC fh (pv 4) (pv 6) (λ_ _=>rfl))) dq) (pv 7)) dh))))))))
 (dt (dO (i:=8) dR.nd rfl (Or.inl rfl) (eL dh))
 (dt (fJ bp rfl (oI rfl B.enumerate (dg (pv 3) dh)) (ij (n:=2) rfl (eh (dS (i:=9) dR.nd rfl (Or.inl rfl)) (eh (ij (n:=2) rfl (eh (dS (i:=10) dR.nd rfl (Or.inl rfl)) (eh (dS (i:=11) dR.nd rfl (Or.inl rfl)) gA))) gA)))
 (dt (dO (i:=12) dR.nd rfl (Or.inl rfl) (gS (dg (dN (iW rfl) rfl B.min boot_min (dg (fC fh (pv 5) (pv 10) (λ_ _=>rfl)) (dg (fC fh (pv 5) (pv 11) (λ_ _=>rfl)) dh))) (dg (dN (iX rfl) rfl B.max boot_max (dg (fC fh (pv 5) (pv 10) (λ_ _=>rfl)) (dg (fC fh (pv 5) (pv 11) (λ_ _=>rfl)) dh))) dh))))
 (dz (fz (ik aL cY PySem.F.type_list_insert lH (pv 8) (dg (dD eA (dQ eB (hr.mono (by decide)) rfl dw.m dw.F.kp dw.b .nil ei (dg (pv 1) (dg (dD eG dq (pv 9)) dh))) (dD eG (pv 9) dq)) (dg (pv 12) dh)))))))
 (dz (ef (gS (dg (pv 2) (dg (pv 8) dh))))))))))),nm3 λR1 hR1=>?_⟩
  refine⟨_,rfl,a,_,rfl,ht,rfl,_,_,rfl,_,_,rfl,rfl,?_⟩
  refine⟨_,rfl,c,0,rfl,by decide,by decide,λn n0 n1=>⟨_,rfl,n,m,rfl,by omega,h40,λpn nm H1 s1 hn1 hn2 xG nb nnd=>?_⟩⟩
  refine⟨aM _,λq0 nq0=>?_⟩
  refine hR1 _ _ _ (nm2 λR2 hR2=>?_)
  refine⟨_,rfl,m,rfl,by omega,by omega,jj (λi σ H3=>∃ (q:Addr) (es:List Int) (x6 x7:Option V),σ = [some (.ref a),some (.int c),some (.int m),some (.ref b),some (.ref pn),some (.ref q),x6,x7,none,none,none,none,none]/\dM H1 H3/\H3 q=some (.lst (es.map V.int))/\es.length=2*i/\(∀ j,j<i->∃ f:Int,(f=0\/f=1)/\es[2*j]? = some (2*nm.getD j 0+f)/\es[2*j+1]? = some (2*nm.getD j 0+1-f)))
   ⟨q0,[],none,none,rfl,dj nq0,di,rfl,λj hj=>absurd hj (Nat.not_lt_zero j)⟩ ?_ ?_⟩
  ·rintro i σ H3 N R B kN _ hi ⟨q,es,x6,x7,rfl,S3,hq3,pL,eb⟩
   have i0:(0:Int)+(i:Nat)=(i:Int):=by omega
   rw[i0]
   obtain⟨nx,hnx,xZ,hat⟩:=om (ns:=nm) (i:=(i:Int)) (by omega) (by omega)
   have nbx:=nb nx xZ
   have hSn:SqL K H3 pn (nm.map V.int):=SqL.of (S3 _ _ hn2)
   refine⟨_,rfl,_,rfl,_,_,rfl,rfl,c,_,rfl,by show(0:Int)<=20+i;omega,by show 20+(i:Int)<=1000;omega,λn n0 n1=>⟨_,_,rfl,rfl,(by show(0:Int)<_;decide),?_⟩⟩
   refine⟨_,rfl,_,rfl,_,rfl,pn,_,_,_,rfl,rfl,hSn,hat,_,_,rfl,rfl,.inl ⟨by decide,by decide⟩,_,rfl,_,_,rfl,rfl,_,rfl,_,rfl,pn,_,_,_,rfl,rfl,hSn,hat,_,_,rfl,rfl,.inl ⟨by decide,by decide⟩,_,_,rfl,rfl,_,rfl,_,_,rfl,rfl,by show 2<=sizeLine;decide,λq1 nq1=>?_⟩
   refine⟨q,q1,_,_,rfl,rfl,by rw[dG (dF hq3 nq1)];exact hq3,di,?_,λq2 nq2=>?_⟩
   ·refine bZ (fO ?_)
    rw[aa,pL]
    show 2*i+2<=1000
    omega
   refine kN _ _ ⟨q2,es ++ [2*nx+n%2,2*nx+1-n%2],_,_,rfl,S3.trans ((dj nq1).trans (dj nq2)),?_,?_,?_⟩
   ·rw[di,aK];rfl
   ·rw[ao,pL];show 2*i+2=_;omega
   ·intro j hj
    have vG:nm.getD i 0=nx:=by rw[aO,show i=((i:Int)).toNat by omega,hnx];rfl
    rcases Nat.lt_succ_iff_lt_or_eq.mp hj with z |z
    ·obtain⟨f,hf,e1,e2⟩:=eb j z
     exact⟨f,hf,by rw[aD (by omega)];exact e1,by rw[aD (by omega)];exact e2⟩
    ·subst z
     refine⟨n%2,by omega,?_,?_⟩
     ·rw[aG (by omega),pL,Nat.sub_self,vG];rfl
     ·rw[aG (by omega),pL,show 2*j+1-2*j=1 by omega,vG];rfl
  rintro σ H3 ⟨q,es,x6,x7,rfl,S3,hq3,pL,eb⟩
  have R:Ren m nm es:=⟨xG,nb,nnd,by omega,λj hj=>eb j (by omega)⟩
  refine⟨aM _,λt nt=>?_⟩
  have hl3:SqL K H3 b us:=(s1.trans S3).seq hl
  have hq4:Das K H3 (js.map dP) us:=Das.same (s1.trans S3) hq
  have hul:us.length=js.length:=by rw[Dgs.length hq,aa]
  refine hR2 _ _ _ ?_
  refine⟨_,rfl,b,rfl,⟨us,(dj nt).seq hl3⟩,lK (K:=K) (a:=b) (xs:=us) (λi σ H4=>∃ (vs:List V) (js':List (Int×Int)) (x9 x10 x11 x12:Option V),σ = [some (.ref a),some (.int c),some (.int m),some (.ref b),some (.ref pn),some (.ref q),x6,x7,some (.ref t),x9,x10,x11,x12]/\dM H3 H4/\H4 t=some (.lst vs)/\Ps K H4 js' vs/\js'.length=i/\js'.Perm ((js.take i).map (rj es)))
   ⟨[],[],none,none,none,none,rfl,dj nt,di,eJ.mpr rfl,rfl,.refl _⟩ (λi σ H4 _ ⟨_,_,_,_,_,_,_,S4,_⟩=>S4.seq hl3) ?_ ?_⟩
  ·rintro i x σ H4 p0 N R B kN _ hi ⟨vs,js',x9,x10,x11,x12,rfl,S4,ht4,D,t8,jb⟩ n0
   have hil:i<us.length:=(af.mp hi).1
   have S5:dM H3 (upd H4 p0 (.tup [.int i,x])):=S4.trans (dj n0)
   obtain⟨ad,⟨ea,eb'⟩,e1,rfl,hpr⟩:=iA (Das.same S5 hq4) hi
   dsimp only at hpr
   have hbd:=G.ok (ea,eb') (aN e1)
   unfold okJ at hbd
   dsimp only at hbd
   obtain⟨xa,ga,ma,vP⟩:=om (ns:=es) (i:=ea) hbd.1.1 (by omega)
   obtain⟨xb,gb,mb,vO⟩:=om (ns:=es) (i:=eb') hbd.2.1.1 (by omega)
   have hrj:rj es (ea,eb')=(min xa xb,max xa xb):=by
    unfold rj rho
    dsimp only
    rw[aO,aO,ga,gb];rfl
   refine⟨p0,_,rfl,SqT.of di,rfl,_,_,rfl,_,_,rfl,ad,_,rfl,hpr,rfl,_,_,rfl,_,_,rfl,rfl,rfl,?_⟩
   have hSe:SqL K (upd H4 p0 (.tup [.int i,.ref ad])) q (es.map V.int):=SqL.of (S5 _ _ hq3)
   refine⟨_,rfl,_,rfl,q,_,_,_,rfl,rfl,hSe,vP,_,rfl,_,rfl,q,_,_,_,rfl,rfl,hSe,vO,_,_,rfl,?_⟩
   refine⟨_,rfl,_,rfl,q,_,_,_,rfl,rfl,hSe,vP,_,rfl,_,rfl,q,_,_,_,rfl,rfl,hSe,vO,_,_,rfl,by show 2<=sizeLine;decide,λp1 n1=>?_⟩
   rw[mv,mw]
   have ht5:(upd (upd H4 p0 (.tup [.int i,.ref ad])) p1 (.tup [.int (min xa xb),.int (max xa xb)])) t=some (.lst vs):=((dj n0).trans (dj n1)) _ _ ht4
   have vl:vs.length=i:=by rw[D.len,t8]
   refine⟨_,rfl,.inl ⟨rfl,_,SqL.of ht5⟩,_,rfl,_,rfl,_,_,rfl,rfl,c,_,rfl,by show(0:Int)<=40+i;omega,by show 40+(i:Int)<=1000;omega,λn n0' n1'=>⟨_,rfl,_,_,rfl,rfl,_,_,rfl,rfl,(by show(0:Int)<(i:Int)+1;omega),_,rfl,t,vs,_,_,rfl,rfl,ht5,?_,?_,fO (by omega),?_⟩⟩
   ·exact cN _ (by omega)
   ·have:=cz n (show(0:Int)<(i:Int)+1 by omega)
    show n%((i:Int)+1)<=(vs.length:Int)
    omega
   have pm:=mZ js' (n%((i:Int)+1)).toNat (min xa xb,max xa xb)
   refine kN _ _ ⟨_,js'.take (n%((i:Int)+1)).toNat++(min xa xb,max xa xb)::js'.drop (n%((i:Int)+1)).toNat,_,_,_,_,rfl,dM.upd (S4.trans ((dj n0).trans (dj n1))) nt,di,?_,?_,?_⟩
   ·exact Ps.ins (x:=(min xa xb,max xa xb)) _ (D.same ((dj n0).trans (dj n1))) ht5 di
   ·rw[pm.length_eq,bb,t8]
   ·rw[bK,e1,aK]
    refine pm.trans ?_
    show((min xa xb,max xa xb)::js').Perm ((js.take i).map (rj es) ++ [rj es (ea,eb')])
    rw[hrj]
    exact(jb.cons _).trans (List.perm_append_singleton _ _).symm
  rintro σ H4 ⟨vs,js',x9,x10,x11,x12,rfl,S4,ht4,D,t8,jb⟩
  refine⟨_,rfl,_,rfl,by show 2<=sizeLine;decide,λp np=>?_⟩
  have S5:=(dj (o:=.tup [.int m,.ref t]) np)
  rw[hul,bV]at jb
  exact k _ js' nm es _ (s1.trans (S3.trans (S4.trans S5))) (gm di ((D.same S5).da (S5 _ _ ht4))) R jb
end
def oz (K:PySem.W.Frag):Sp:=λvs H Q _=>∃ (a:Addr) (ns:List Int),vs = [.ref a]/\SqL K H a (ns.map V.int)/\yR K H Q
abbrev gP:Stmt:=top 24
theorem ej:ec ["_law_script","_law_cell","_law_many","_law_joints","_law_k","_law_number","_law_one","_law_other_here"] ["_law_script"] (dC gP):=⟨rfl,rfl,rfl,by decide +kernel,rfl,by decide +kernel,by decide +kernel⟩
section
variable {P:Program}{w:World}{K:PySem.W.Frag}{mg:Str->Option Value}{base:Heap}{f:Addr}{fd:FuncData}
theorem nh {f1 f2 f3 f4:Addr}{fd1 fd2 fd3 fd4:FuncData}(F:Fn K mg "_law_line" gP ["_law_script"] f fd)(dw:Fn K mg "_law_mix" gi ["_law_cell","_law_k"] f1 fd1)(dE:Fn K mg "_law_cell_at" fg ["_law_script","_law_k"] f2 fd2)
  (dX:Fn K mg "_law_other" fR ["_law_end"] f3 fd3) (dU:Fn K mg "_law_renamed" fe ["_law_line_here","_law_cell"] f4 fd4) (eQ:d8 P w K mg base CX0 2 f4 fd4 ["_law_line_here","_law_cell"] (jc K))
  (B:Bl mg):d8 P w K mg base CX0 3 f fd ["_law_script"] (oz K):=by
 have eB:d8 P w K mg base CX0 1 f1 fd1 ["_law_cell","_law_k"] lX:=je dw B
 have eR:d8 P w K mg base CX0 1 f2 fd2 ["_law_script","_law_k"] (lZ K):=iq dE B
 have iM:d8 P w K mg base CX0 1 f3 fd3 ["_law_end"] h9:=jz dX
 refine F.F.ok ej (λvs H Q E h=>?_) (λcdv A outer s H vs Q E hr h=>?_)
 ·obtain⟨a,ns,rfl,_⟩:=h;rfl
 ·obtain⟨a,ns,rfl,hS,k⟩:=h
  refine⟨_,(dt (dO (i:=1) ej.nd rfl (Or.inl rfl) (dQ eR (hr.mono (by decide)) rfl dE.m dE.F.kp dE.b .nil ei (dg (pv 0) (dg dq dh))))
 (dt (dO (i:=2) ej.nd rfl (Or.inl rfl) (dD eG dq (dD eA (dQ eB (hr.mono (by decide)) rfl dw.m dw.F.kp dw.b .nil ei (dg (pv 1) (dg dq dh))) dq)))
 (dt (fU (eS (gT (dD eA (dQ eB (hr.mono (by decide)) rfl dw.m dw.F.kp dw.b .nil ei (dg (pv 1) (dg dq dh))) dq) dq))
 (dz (dO (i:=2) ej.nd rfl (Or.inl rfl) (dD eG dq (dD eA (dQ eB (hr.mono (by decide)) rfl dw.m dw.F.kp dw.b .nil ei (dg (pv 1) (dg dq dh))) dq)))) eI)
 (dt (dO (i:=3) ej.nd rfl (Or.inl rfl) (eL dh))
 (dt (fJ bp rfl (gI rfl B.range (dg (dD eA (dQ eB (hr.mono (by decide)) rfl dw.m dw.F.kp dw.b .nil ei (dg (pv 1) (dg dq dh))) (dD eG (dD eV dq (pv 2)) dq)) dh)) (dS (i:=4) ej.nd rfl (Or.inl rfl))
 (dt (dO (i:=5) ej.nd rfl (Or.inl rfl) (dQ eB (hr.mono (by decide)) rfl dw.m dw.F.kp dw.b .nil ei (dg (dQ eR (hr.mono (by decide)) rfl dE.m dE.F.kp dE.b .nil ei (dg (pv 0) (dg (dD eG dq (dD eA (pv 4) dq)) dh))) (dg (dD eG dq (pv 4)) dh))))
 (dt (dO (i:=6) ej.nd rfl (Or.inl rfl) (dD eA (pv 5) (dD eV dq (pv 2))))
 (dt (dO (i:=7) ej.nd rfl (Or.inl rfl) (dD eA (dD gf (pv 5) dq) (dD eV dq (pv 2))))
 (dt (fU (PW.pt (mh (eS (gT (dD eA (dQ eB (hr.mono (by decide)) rfl dw.m dw.F.kp dw.b .nil ei (dg (pv 1) (dg dq dh))) dq) dq)) (mf (eS (gT (dD eA (pv 6) dq) (dD eA (pv 7) dq))))))
 (dz (dO (i:=7) ej.nd rfl (Or.inl rfl) (dQ iM (hr.mono (by decide)) rfl dX.m dX.F.kp dX.b .nil ei (dg (pv 7) dh)))) eI)
 (dz (fU (PW.pt (mh (eS (tO (dD gf (pv 6) dq) (dD gf (pv 7) dq))) (mh (gR (jL hr.units) (gS (dg (dN (iW rfl) rfl B.min boot_min (dg (pv 6) (dg (pv 7) dh))) (dg (dN (iX rfl) rfl B.max boot_max (dg (pv 6) (dg (pv 7) dh))) dh))) (pv 3) (by with_unfolding_all rfl)) (mf (eS (oK (dN eE rfl B.len boot_len (dg (pv 3) dh)) dq))))))
 (dz (fz (ik aL bJ bI fK (pv 3) (dg (gS (dg (dN (iW rfl) rfl B.min boot_min (dg (pv 6) (dg (pv 7) dh))) (dg (dN (iX rfl) rfl B.max boot_max (dg (pv 6) (dg (pv 7) dh))) dh))) dh)))) eI)))))))
 (dz (ef (dQ eQ (hr.mono (by decide)) rfl dU.m dU.F.kp dU.b .nil ei (dg (gS (dg (pv 2) (dg (pv 3) dh))) (dg (dQ eR (hr.mono (by decide)) rfl dE.m dE.F.kp dE.b .nil ei (dg (pv 0) (dg dq dh))) dh)))))))))),?_⟩
  refine⟨_,rfl,a,ns,0,rfl,hS,by decide,λcell=>?_⟩
  refine⟨_,rfl,cell,0,rfl,by decide,by decide,λn1 _ _=>⟨_,_,rfl,rfl,(by show(0:Int)<_;decide),_,_,rfl,rfl,?_⟩⟩
  dsimp only[hU]
  refine cut (λσ H'=>H'=H/\∃ m,1<=m/\m<=14/\σ = [some (.ref a),some (.int cell),some (.int m),none,none,none,none,none]) (λN R B C kN kR=>?_) ?_
  ·refine⟨_,rfl,cell,1,rfl,by decide,by decide,λn2 _ _=>⟨_,_,rfl,rfl,(by show(0:Int)<_;decide),_,_,rfl,rfl,_,rfl,fD (λ_=>?_) (λ_=>kN _ _ ⟨rfl,1+n1%8,by omega,by omega,rfl⟩)⟩⟩
   exact⟨_,rfl,cell,0,rfl,by decide,by decide,λn3 _ _=>⟨_,_,rfl,rfl,(by show(0:Int)<_;decide),_,_,rfl,rfl,kN _ _ ⟨rfl,9+n3%6,by omega,by omega,rfl⟩⟩⟩
  rintro σ H0 ⟨e,m,m1,m2,rfl⟩
  rw[e]
  clear e
  refine⟨aM _,λt nt=>?_⟩
  refine⟨_,rfl,cell,2,rfl,by decide,by decide,λn4 n40 _=>⟨_,rfl,_,_,rfl,rfl,.inl ⟨by decide,by decide⟩,_,_,rfl,rfl,_,_,rfl,rfl,(by show(0:Int)<2*m+4;omega),?_⟩⟩
  have q0:0<=n4%(2*m+4):=cN _ (by omega)
  have q1:n4%(2*m+4)<2*m+4:=cz _ (by omega)
  refine⟨_,rfl,by show -(2 ^ 62)<=n4%(2*m+4);omega,by show n4%(2*m+4)<2 ^ 62;omega,jj (λi σ H3=>∃ (vs:List V) (js:List (Int×Int)) (x4 x5 x6 x7:Option V),σ = [some (.ref a),some (.int cell),some (.int m),some (.ref t),x4,x5,x6,x7]/\dM H H3/\H3 t=some (.lst vs)/\Ps K H3 js vs/\fG (m,js))
   ⟨[],[],none,none,none,none,rfl,dj nt,di,eJ.mpr rfl,⟨m1,m2,aM _,λp hp=>(nomatch hp),List.nodup_nil⟩⟩ ?_ ?_⟩
  ·rintro i σ H3 N R B kN _ hi ⟨vs,js,x4,x5,x6,x7,rfl,S3,ht3,D,G⟩
   have i0:(0:Int)+(i:Nat)=(i:Int):=by omega
   rw[i0]
   have hi':(i:Int)<32:=by
    have:(i:Int)<n4%(2*m+4):=by
     have h:i<(n4%(2*m+4)).toNat:=hi
     omega
    omega
   refine⟨_,rfl,_,rfl,_,_,rfl,rfl,(by show(0:Int)<_;decide),_,_,rfl,rfl,a,ns,_,rfl,S3.seq hS,by show(0:Int)<=2+(i:Int)%8;omega,λc5=>⟨_,rfl,_,_,rfl,rfl,c5,_,rfl,by show(0:Int)<=10+(i:Int);omega,by show 10+(i:Int)<=1000;omega,λn5 n50 n51=>?_⟩⟩
   refine⟨_,rfl,_,rfl,_,_,rfl,rfl,.inl ⟨by decide,by decide⟩,_,_,rfl,rfl,(by show(0:Int)<2*m;omega),?_⟩
   refine⟨_,rfl,_,_,rfl,rfl,⟨by decide,by decide⟩,_,rfl,_,_,rfl,rfl,.inl ⟨by decide,by decide⟩,_,_,rfl,rfl,(by show(0:Int)<2*m;omega),?_⟩
   dsimp only
   have o0:0<=n5%(2*m):=cN _ (by omega)
   have o1:n5%(2*m)<2*m:=cz _ (by omega)
   have r0:0<=n5/64%(2*m):=cN _ (by omega)
   have r1:n5/64%(2*m)<2*m:=cz _ (by omega)
   generalize n5%(2*m)=one at o0 o1
   generalize n5/64%(2*m)=oh at r0 r1
   dsimp only[hU]
   refine cut (λσ H'=>H'=H3/\∃ oh',0<=oh'/\oh'<2*m/\σ = [some (.ref a),some (.int cell),some (.int m),some (.ref t),some (.int (i:Int)),some (.int n5),some (.int one),some (.int oh')]) (λN2 R2 B2 C2 k2 _=>?_) ?_
   ·refine⟨_,rfl,cell,3,rfl,by decide,by decide,λn6 _ _=>⟨_,_,rfl,rfl,(by show(0:Int)<_;decide),_,_,rfl,rfl,_,rfl,fD (λ_=>?_) (λ_=>qS (k2 _ _ ⟨rfl,oh,r0,r1,rfl⟩))⟩⟩
    refine⟨_,rfl,_,_,rfl,rfl,(by show(0:Int)<_;decide),_,rfl,_,_,rfl,rfl,(by show(0:Int)<_;decide),_,_,rfl,rfl,_,rfl,fD (λ_=>?_) (λ_=>k2 _ _ ⟨rfl,oh,r0,r1,rfl⟩)⟩
    exact⟨_,rfl,oh,rfl,k2 _ _ ⟨rfl,oth oh,nN r0,by unfold oth;omega,rfl⟩⟩
   rintro σ H0 ⟨e,oh',r0',r1',rfl⟩
   rw[e]
   clear e r0 r1
   refine⟨_,rfl,_,_,rfl,rfl,⟨by decide,by decide⟩,_,rfl,_,_,rfl,rfl,⟨by decide,by decide⟩,_,_,rfl,rfl,_,rfl,?_⟩
   refine fD (λhne=>?_) (λ_=>qS (kN _ _ ⟨vs,js,_,_,_,_,rfl,S3,ht3,D,G⟩))
   refine⟨_,rfl,_,rfl,_,_,rfl,_,rfl,_,rfl,_,_,rfl,by show 2<=sizeLine;decide,λp1 n1=>?_⟩
   rw[mv,mw]
   have ht4:=(dj (o:=.tup [.int (min one oh'),.int (max one oh')]) n1) _ _ ht3
   have D4:=D.same (dj (o:=.tup [.int (min one oh'),.int (max one oh')]) n1)
   refine⟨_,rfl,_,_,D4.da ht4,gJ.mpr ⟨p1,_,rfl,SqT.of di,Dgs.two (fX.mpr rfl) (fX.mpr rfl)⟩,tT js,vd (_,_),_,rfl,?_⟩
   refine fD (λhni=>?_) (λ_=>qS (kN _ _ ⟨vs,js,_,_,_,_,rfl,S3.trans (dj n1),ht4,D4,G⟩))
   refine⟨_,rfl,t,_,rfl,.inl (SqL.of ht4),_,_,rfl,rfl,_,rfl,?_⟩
   refine fD (λhlt=>?_) (λ_=>kN _ _ ⟨vs,js,_,_,_,_,rfl,S3.trans (dj n1),ht4,D4,G⟩)
   have hlt:(vs.length:Int)<24:=by simpa using hlt
   have vl:=D.len
   refine⟨_,rfl,.inl ⟨rfl,_,SqL.of ht4⟩,_,rfl,_,rfl,_,_,rfl,_,rfl,_,rfl,_,_,rfl,by show 2<=sizeLine;decide,λp2 n2=>?_⟩
   rw[mv,mw]
   have S5:=(dj n1).trans (dj (o:=.tup [.int (min one oh'),.int (max one oh')]) n2)
   refine⟨t,vs,_,rfl,rfl,S5 _ _ ht3,fO (by omega),?_⟩
   refine kN _ _ ⟨_,js ++ [(min one oh',max one oh')],_,_,_,_,rfl,dM.upd (S3.trans S5) nt,di,Ps.push (x:=(min one oh',max one oh')) (D.same S5) (S5 _ _ ht3) di,?_⟩
   have xX:(min one oh',max one oh')∉js:=λz=>by
    have e:=v5 js (min one oh',max one oh')
    unfold dP at e
    dsimp only at e
    unfold dP at hni
    rw[e]at hni
    simp[z]at hni
   have xY:one/2≠oh'/2:=by simpa using hne
   exact oa G xY o0 o1 r0' r1' xX (by omega)
  ·rintro σ H3 ⟨vs,js,x4,x5,x6,x7,rfl,S3,ht3,D,G⟩
   refine⟨_,rfl,_,rfl,by show 2<=sizeLine;decide,λp np=>?_⟩
   have S4:=dj (o:=.tup [.int m,.ref t]) np
   refine⟨_,rfl,a,ns,1,rfl,(S3.trans S4).seq hS,by decide,λc7=>?_⟩
   refine⟨_,(m,js),c7,rfl,gm di ((D.same S4).da (S4 _ _ ht3)),G,λv' js' nm es H' s5 d5 R pm=>k v' (m,js') H' (S3.trans (S4.trans s5)) d5 (R.line G pm)⟩
end
theorem er {n:Nat}(h:n<=1000):n<sizeLine:=Nat.lt_of_le_of_lt h (by decide)
theorem jE {K:PySem.W.Frag}{H:Hp}{js:List (Int×Int)}{vs:List V}(h:Das K H (js.map dP) vs):vs.length=js.length:=by rw[Dgs.length h,aa]
theorem jX {l:Int×List (Int×Int)}(h:fc l)(e:Int):(below l.2 e).length+(above l.2 e).length<=160:=h.inc e
def iQ (K:PySem.W.Frag):Sp:=λvs H Q _=>∃ (v:V) (l:Int×List (Int×Int)) (e:Int),vs = [v,.int e]/\Da K H (dL l) v/\fc l/\o4 H (jn l.2 e) Q
def oC (K:PySem.W.Frag):Sp:=λvs H Q _=>∃ (v u:V) (l:Int×List (Int×Int)) (ns:List Int) (e:Int),vs = [v,u,.int e]/\Da K H (dL l) v/\Da K H (dI ns) u/\fc l/\ns.length<=1000/\o4 H (fr l ns e) Q
abbrev gG:Stmt:=top 12
theorem iS:ec ["line","end","joints","above","below"] ["line","end"] (dC gG):=⟨rfl,rfl,rfl,by decide +kernel,rfl,by decide +kernel,by decide +kernel⟩
theorem iF:eT (dC gG) ["line","end","joints","above","below"] {kind:=.function,names:=[(Str.ofString ".0",.local),(Str.ofString "low",.local),(Str.ofString "high",.local),(Str.ofString "end",.free)],isGenerator:=false,isCoroutine:=false,more:=[]} ["low","high","end"] 2 [none,none,some 1]:=⟨rfl,by decide +kernel,by decide +kernel,by decide +kernel,rfl,by decide +kernel,rfl,by decide +kernel⟩
theorem iE:eT (dC gG) ["line","end","joints","above","below"] {kind:=.function,names:=[(Str.ofString ".0",.local),(Str.ofString "low",.local),(Str.ofString "high",.local),(Str.ofString "end",.free)],isGenerator:=false,isCoroutine:=false,more:=[]} ["low","high","end"] 2 [none,none,some 1]:=⟨rfl,by decide +kernel,by decide +kernel,by decide +kernel,rfl,by decide +kernel,rfl,by decide +kernel⟩
abbrev eY:Stmt:=top 23
theorem lq:ec ["_law_line_here","_law_end"] ["_law_line_here","_law_end"] (dC eY):=⟨rfl,rfl,rfl,by decide +kernel,rfl,by decide +kernel,by decide +kernel⟩
theorem fZ:eT (dC eY) ["_law_line_here","_law_end"] {kind:=.function,names:=[(Str.ofString ".0",.local),(Str.ofString "_law_a",.local),(Str.ofString "_law_b",.local),(Str.ofString "_law_end",.free)],isGenerator:=false,isCoroutine:=false,more:=[]} ["_law_a","_law_b","_law_end"] 2 [none,none,some 1]:=⟨rfl,by decide +kernel,by decide +kernel,by decide +kernel,rfl,by decide +kernel,rfl,by decide +kernel⟩
theorem fY:eT (dC eY) ["_law_line_here","_law_end"] {kind:=.function,names:=[(Str.ofString ".0",.local),(Str.ofString "_law_a",.local),(Str.ofString "_law_b",.local),(Str.ofString "_law_end",.free)],isGenerator:=false,isCoroutine:=false,more:=[]} ["_law_a","_law_b","_law_end"] 2 [none,none,some 1]:=⟨rfl,by decide +kernel,by decide +kernel,by decide +kernel,rfl,by decide +kernel,rfl,by decide +kernel⟩
abbrev fo:Stmt:=top 14
theorem jx:ec ["line","train","end","pieces"] ["line","train","end"] (dC fo):=⟨rfl,rfl,rfl,by decide +kernel,rfl,by decide +kernel,by decide +kernel⟩
theorem iH:eT (dC fo) ["line","train","end","pieces"] {kind:=.function,names:=[(Str.ofString ".0",.local),(Str.ofString "own",.local),(Str.ofString "piece_of",.globalImplicit)],isGenerator:=false,isCoroutine:=false,more:=[]} ["own"] 1 [none]:=⟨rfl,by decide +kernel,by decide +kernel,by decide +kernel,rfl,by decide +kernel,rfl,by decide +kernel⟩
theorem iG:eT (dC fo) ["line","train","end","pieces"] {kind:=.function,names:=[(Str.ofString ".0",.local),(Str.ofString "there",.local),(Str.ofString "piece_of",.globalImplicit),(Str.ofString "pieces",.free)],isGenerator:=false,isCoroutine:=false,more:=[]} ["there","pieces"] 1 [none,some 3]:=⟨rfl,by decide +kernel,by decide +kernel,by decide +kernel,rfl,by decide +kernel,rfl,by decide +kernel⟩
section
variable {P:Program}{w:World}{K:PySem.W.Frag}{mg:Str->Option Value}{base:Heap}{f:Addr}{fd:FuncData}{D c1 c2 c3 c4 c5 c6 c7:Addr}
theorem pF (F:Fn K mg "joined" gG ["line","end"] f fd)(B:Bl mg):d8 P w K mg base CX0 1 f fd ["line","end"] (iQ K):=by
 refine F.F.ok iS (λvs H Q E h=>?_) (λcdv A outer s H vs Q E hr h=>?_)
 ·obtain⟨v,l,e,rfl,_⟩:=h;rfl
 ·obtain⟨v,l,e,rfl,hv,ok,k⟩:=h
  obtain⟨a,b,rfl,ht,us,hl,hq⟩:=jF hv
  have hlen:=jE hq
  have hz:us.length<sizeLine:=er (by rw[hlen];have:=ok.len;omega)
  refine⟨_,(dt (dO (i:=2) iS.nd rfl (Or.inl rfl) (fC jh (pv 0) dq (λ_ _=>rfl)))
 (dt (mY (i:=3) iS.nd rfl rfl (eZ (pv 2)) rfl iF (.tup (.cons (.name (by decide)) (.cons (.name (by decide)) .nil))) (λ_ _ _ _=>(ij (n:=2) rfl (eh (dS (i:=0) iF.nd rfl (Or.inl rfl)) (eh (dS (i:=1) iF.nd rfl (Or.inl rfl)) gA)))) (λ_ _ _ _=>(ie (eS (gT (pv 0) (pv 2))))) (λ_ _ _ _=>(pv 1)))
 (dt (mY (i:=4) iS.nd rfl rfl (eZ (pv 2)) rfl iE (.tup (.cons (.name (by decide)) (.cons (.name (by decide)) .nil))) (λ_ _ _ _=>(ij (n:=2) rfl (eh (dS (i:=0) iE.nd rfl (Or.inl rfl)) (eh (dS (i:=1) iE.nd rfl (Or.inl rfl)) gA)))) (λ_ _ _ _=>(ie (eS (gT (pv 1) (pv 2))))) (λ_ _ _ _=>(pv 0)))
 (dz (ef (dN (jG rfl) rfl B.sorted boot_sorted (dg (dD jM (pv 4) (pv 3)) dh))))))),?_⟩
  refine⟨_,rfl,a,_,_,_,rfl,rfl,ht,rfl,?_⟩
  refine⟨_,rfl,b,rfl,⟨us,hl⟩,λl1 n1=>gX l.2 (λp=>decide (p.1=e)) (λp=>V.int p.2) n1 hl hlen hz ?_ ?_⟩
  ·intro i x d H' hx hd sm P1 P0 k1 k0
   obtain⟨ad,p,e1,rfl,hp⟩:=iA (Das.same sm hq) hx
   rw[hd]at e1;cases e1
   refine⟨ad,_,rfl,hp,rfl,_,_,rfl,_,_,rfl,rfl,_,rfl,_,rfl,_,_,rfl,rfl,_,rfl,fD (λh=>⟨_,rfl,k1 h⟩) (λh=>k0 (by simpa using h))⟩
  have s1:dM H (upd H l1 (.lst (above l.2 e |>.map V.int))):=dj n1
  have e1:((l.2.filter λp=>decide (p.1=e)).map λp=>V.int p.2)=(above l.2 e).map V.int:=by unfold above;rw[cm];rfl
  rw[e1]
  refine⟨_,rfl,b,rfl,⟨us,s1.seq hl⟩,λl2 n2=>gX l.2 (λp=>decide (p.2=e)) (λp=>V.int p.1) n2 (s1.seq hl) hlen hz ?_ ?_⟩
  ·intro i x d H' hx hd sm P1 P0 k1 k0
   obtain⟨ad,p,e1,rfl,hp⟩:=iA (Das.same (s1.trans sm) hq) hx
   rw[hd]at e1;cases e1
   refine⟨ad,_,rfl,hp,rfl,_,_,rfl,_,_,rfl,rfl,_,rfl,_,rfl,_,_,rfl,rfl,_,rfl,fD (λh=>⟨_,rfl,k1 h⟩) (λh=>k0 (by simpa using h))⟩
  have e2:((l.2.filter λp=>decide (p.2=e)).map λp=>V.int p.1)=(below l.2 e).map V.int:=by unfold below;rw[cm];rfl
  rw[e2]
  have g1:(upd (upd H l1 (.lst (above l.2 e |>.map V.int))) l2 (.lst (below l.2 e |>.map V.int))) l1=some (.lst (above l.2 e |>.map V.int)):=by
   rw[dG (dF di n2),di]
  have hb:=jX ok e
  have s2:dM H (upd (upd H l1 (.lst (above l.2 e |>.map V.int))) l2 (.lst (below l.2 e |>.map V.int))):=s1.trans (dj n2)
  refine⟨_,rfl,_,rfl,l2,l1,_,_,rfl,rfl,di,g1,bZ (er (by rw[aa,aa];omega)),λp hp=>?_⟩
  refine⟨p,below l.2 e++above l.2 e,rfl,SqL.of (by rw[di,aK]),(by rw[ao];omega),λp2 hp2=>?_⟩
  refine k p2 _ (s2.trans ((dj hp).trans (dj hp2))) (dM.free (s2.trans (dj hp)) hp2) di
theorem lr (F:Fn K mg "_law_joined" eY ["_law_line_here","_law_end"] f fd)(B:Bl mg):d8 P w K mg base CX0 1 f fd ["_law_line_here","_law_end"] (iQ K):=by
 refine F.F.ok lq (λvs H Q E h=>?_) (λcdv A outer s H vs Q E hr h=>?_)
 ·obtain⟨v,l,e,rfl,_⟩:=h;rfl
 ·obtain⟨v,l,e,rfl,hv,ok,k⟩:=h
  obtain⟨a,b,rfl,ht,us,hl,hq⟩:=jF hv
  have hlen:=jE hq
  have hz:us.length<sizeLine:=er (by rw[hlen];have:=ok.len;omega)
  refine⟨_,(dz (ef (dN (jG rfl) rfl B.sorted boot_sorted (dg (dD jM (m6 (eZ (fC jh (pv 0) dq (λ_ _=>rfl))) rfl fZ (.tup (.cons (.name (by decide)) (.cons (.name (by decide)) .nil))) (λ_ _ _ _=>(ij (n:=2) rfl (eh (dS (i:=0) fZ.nd rfl (Or.inl rfl)) (eh (dS (i:=1) fZ.nd rfl (Or.inl rfl)) gA)))) (λ_ _ _ _=>(ie (eS (gT (pv 0) (pv 2))))) (λ_ _ _ _=>(pv 1))) (m6 (eZ (fC jh (pv 0) dq (λ_ _=>rfl))) rfl fY (.tup (.cons (.name (by decide)) (.cons (.name (by decide)) .nil))) (λ_ _ _ _=>(ij (n:=2) rfl (eh (dS (i:=0) fY.nd rfl (Or.inl rfl)) (eh (dS (i:=1) fY.nd rfl (Or.inl rfl)) gA)))) (λ_ _ _ _=>(ie (eS (gT (pv 1) (pv 2))))) (λ_ _ _ _=>(pv 0)))) dh)))),?_⟩
  refine⟨_,rfl,a,_,_,_,rfl,rfl,ht,rfl,b,rfl,⟨us,hl⟩,λl1 n1=>gX l.2 (λp=>decide (p.1=e)) (λp=>V.int p.2) n1 hl hlen hz ?_ ?_⟩
  ·intro i x d H' hx hd sm P1 P0 k1 k0
   obtain⟨ad,p,e1,rfl,hp⟩:=iA (Das.same sm hq) hx
   rw[hd]at e1;cases e1
   refine⟨ad,_,rfl,hp,rfl,_,_,rfl,_,_,rfl,rfl,_,rfl,_,rfl,_,_,rfl,rfl,_,rfl,fD (λh=>⟨_,rfl,k1 h⟩) (λh=>k0 (by simpa using h))⟩
  have s1:dM H (upd H l1 (.lst (above l.2 e |>.map V.int))):=dj n1
  have e1:((l.2.filter λp=>decide (p.1=e)).map λp=>V.int p.2)=(above l.2 e).map V.int:=by unfold above;rw[cm];rfl
  rw[e1]
  refine⟨_,rfl,a,_,_,_,rfl,rfl,gh s1 ht,rfl,b,rfl,⟨us,s1.seq hl⟩,λl2 n2=>gX l.2 (λp=>decide (p.2=e)) (λp=>V.int p.1) n2 (s1.seq hl) hlen hz ?_ ?_⟩
  ·intro i x d H' hx hd sm P1 P0 k1 k0
   obtain⟨ad,p,e1,rfl,hp⟩:=iA (Das.same (s1.trans sm) hq) hx
   rw[hd]at e1;cases e1
   refine⟨ad,_,rfl,hp,rfl,_,_,rfl,_,_,rfl,rfl,_,rfl,_,rfl,_,_,rfl,rfl,_,rfl,fD (λh=>⟨_,rfl,k1 h⟩) (λh=>k0 (by simpa using h))⟩
  have e2:((l.2.filter λp=>decide (p.2=e)).map λp=>V.int p.1)=(below l.2 e).map V.int:=by unfold below;rw[cm];rfl
  rw[e2]
  have g1:(upd (upd H l1 (.lst (above l.2 e |>.map V.int))) l2 (.lst (below l.2 e |>.map V.int))) l1=some (.lst (above l.2 e |>.map V.int)):=by
   rw[dG (dF di n2),di]
  have hb:=jX ok e
  have s2:dM H (upd (upd H l1 (.lst (above l.2 e |>.map V.int))) l2 (.lst (below l.2 e |>.map V.int))):=s1.trans (dj n2)
  refine⟨l1,l2,_,_,rfl,rfl,g1,di,bZ (er (by rw[aa,aa];omega)),λp hp=>?_⟩
  refine⟨p,above l.2 e++below l.2 e,rfl,SqL.of (by rw[di,aK]),(by rw[ao];omega),λp2 hp2=>?_⟩
  rw[vz]
  exact k p2 _ (s2.trans ((dj hp).trans (dj hp2))) (dM.free (s2.trans (dj hp)) hp2) di
theorem mr {f1 f2:Addr}{fd1 fd2:FuncData}(F:Fn K mg "free_ends" fo ["line","train","end"] f fd)(B:Bl mg)(eP:Fn K mg "piece_of" gN ["end"] f1 fd1)(gM:Fn K mg "joined" gG ["line","end"] f2 fd2):
  d8 P w K mg base CX0 2 f fd ["line","train","end"] (oC K):=by
 have lj:d8 P w K mg base CX0 1 f1 fd1 ["end"] oB:=m9 eP
 have rE:d8 P w K mg base CX0 1 f2 fd2 ["line","end"] (iQ K):=pF gM B
 refine F.F.ok jx (λvs H Q E h=>?_) (λcdv A outer s H vs Q E hr h=>?_)
 ·obtain⟨v,u,l,ns,e,rfl,_⟩:=h;rfl
 ·obtain⟨v,u,l,ns,e,rfl,hv,hu,ok,hz,k⟩:=h
  obtain⟨a,rfl,hS⟩:=oU.mp hu
  refine⟨_,(dt (dO (i:=3) jx.nd rfl (Or.inr rfl) (m6 (eZ (pv 1)) rfl iH (.name (by decide)) (λ_ _ _ _=>(dS (i:=0) iH.nd rfl (Or.inl rfl))) (λ_ _ _ _=>ig) (λ_ _ _ _=>(dQ lj (hr.mono (by decide)) rfl eP.m eP.F.kp eP.b .nil ei (dg (pv 0) dh)))))
 (dz (ef (m6 (eZ (dQ rE (hr.mono (by decide)) rfl gM.m gM.F.kp gM.b .nil ei (dg (pv 0) (dg (pv 2) dh)))) rfl iG (.name (by decide)) (λ_ _ _ _=>(dS (i:=0) iG.nd rfl (Or.inl rfl))) (λ_ _ _ _=>(ie (gR (nP (K:=K) rfl hr.units) (dQ lj (hr.mono (by decide)) rfl eP.m eP.F.kp eP.b .nil ei (dg (pv 0) dh)) (pv 1) (by with_unfolding_all rfl)))) (λ_ _ _ _=>(pv 0)))))),?_⟩
  refine⟨_,rfl,a,rfl,⟨_,hS⟩,λl1 n1=>gX ns (λ_=>true) (λe=>V.int (e/2)) n1 hS (by rw[aa]) (by rw[aa];exact er hz) ?_ ?_⟩
  ·intro i x d H' hx hd sm P1 P0 k1 k0
   rw[ax,hd]at hx
   cases hx
   refine ir ?_
   exact⟨_,rfl,d,rfl,k1 rfl⟩
  rw[lL]
  have e1:(ns.map λe=>V.int (e/2))=(ns.map (· / 2)).map V.int:=by rw[cm];rfl
  rw[e1]
  have s1:dM H (upd H l1 (.lst ((ns.map (· / 2)).map V.int))):=dj n1
  refine⟨_,rfl,_,rfl,v,l,e,rfl,Da.same s1 hv,ok,λp H2 s2 hp hp2=>⟨p,rfl,⟨_,SqL.of hp2⟩,λl2 n2=>gX (jn l.2 e) (λt=> !decide (t/2∈ns.map (· / 2))) (λt=>V.int t) n2 (SqL.of hp2) (by rw[aa]) ?_ ?_ ?_⟩⟩
  ·rw[aa]
   refine er ?_
   unfold jn
   rw[i9,ao]
   have:=jX ok e
   omega
  ·intro i x d H' hx hd sm P1 P0 k1 k0
   rw[ax,hd]at hx
   cases hx
   have hD:Da K H' (.list ((ns.map (· / 2)).map .int)) (.ref l1):=Da.same (s2.trans sm) (mD di)
   refine⟨_,rfl,d,rfl,_,rfl,_,.int (d/2),hD,fX.mpr rfl,qw _,oP _,_,rfl,?_⟩
   rw[sX]
   exact fD (λh=>⟨_,rfl,k1 h⟩) (λh=>k0 (by simpa using h))
  exact k l2 _ ((s1.trans s2).trans (dj n2)) (dM.free (s1.trans s2) n2) di
end
structure Cm (mg:Str->Option Value)(tk:Tok):Prop where
 j8:mg "MOST_TRAINS" = some (.int 300 tk)
structure Xt (K:PySem.W.Frag)(mg:Str->Option Value)(c:Addr):Prop where
 i6:Xc K mg "TooMany" c
structure LsW (H0 H:Hp)(q:Addr)(as:List Addr)(ts:List (List Int)):Prop where
 at_:H q=some (.lst (as.map V.ref))
 len:as.length=ts.length
 each:∀ (i:Nat) a t,as[i]? = some a->ts[i]? = some t->H0 a=none/\a≠q/\H a=some (.lst (t.map V.int))
theorem LsW.same {H0 H H':Hp}{q:Addr}{as:List Addr}{ts:List (List Int)}(h:LsW H0 H q as ts)(s:dM H H'):LsW H0 H' q as ts:=
 ⟨s _ _ h.at_,h.len,λi a t h1 h2=>⟨(h.each i a t h1 h2).1,(h.each i a t h1 h2).2.1,s _ _ (h.each i a t h1 h2).2.2⟩⟩
def Bes (H0 H:Hp)(p q:Addr)(as:List Addr)(ts:List (List Int)):Prop:=as.length=ts.length/\∀ (i:Nat) a t,as[i]? = some a->ts[i]? = some t->H0 a=none/\a≠p/\a≠q/\H a=some (.lst (t.map V.int))
theorem Bes.same {H0 H H':Hp}{p q:Addr}{as:List Addr}{ts:List (List Int)}(h:Bes H0 H p q as ts)(s:dM H H'):Bes H0 H' p q as ts:=
 ⟨h.1,λi a t h1 h2=>by obtain⟨a1,a2,a3,a4⟩:=h.2 i a t h1 h2;exact⟨a1,a2,a3,s _ _ a4⟩⟩
theorem Bes.uI {H0 H:Hp}{p q:Addr}{as:List Addr}{ts:List (List Int)}{o:HO}(h:Bes H0 H p q as ts):Bes H0 (upd H p o) p q as ts:=
 ⟨h.1,λi a t h1 h2=>by obtain⟨a1,a2,a3,a4⟩:=h.2 i a t h1 h2;exact⟨a1,a2,a3,by rw[dG a2];exact a4⟩⟩
theorem Bes.rK {H0 H:Hp}{p q:Addr}{as:List Addr}{ts:List (List Int)}{o:HO}(h:Bes H0 H p q as ts):Bes H0 (upd H q o) p q as ts:=
 ⟨h.1,λi a t h1 h2=>by obtain⟨a1,a2,a3,a4⟩:=h.2 i a t h1 h2;exact⟨a1,a2,a3,by rw[dG a3];exact a4⟩⟩
theorem Bes.app {H0 H:Hp}{p q:Addr}{as bs:List Addr}{ts us:List (List Int)}(h:Bes H0 H p q as ts)(k:Bes H0 H p q bs us):Bes H0 H p q (as++bs) (ts++us):=by
 refine⟨by rw[ao,ao,h.1,k.1],λi a t h1 h2=>?_⟩
 by_cases c:i<as.length
 ·rw[aD c]at h1
  rw[aD (by rw[<-h.1];exact c)]at h2
  exact h.2 i a t h1 h2
 ·rw[aG (by omega)]at h1
  rw[aG (by rw[<-h.1];omega),<-h.1]at h2
  exact k.2 _ a t h1 h2
theorem Bes.drop {H0 H:Hp}{p q:Addr}{as:List Addr}{ts:List (List Int)}(h:Bes H0 H p q as ts):Bes H0 H p q as.dropLast ts.dropLast:=by
 refine⟨by rw[cJ,cJ,h.1],λi a t h1 h2=>?_⟩
 rw[List.getElem?_dropLast]at h1 h2
 split at h1
 ·split at h2
  ·exact h.2 i a t h1 h2
  ·cases h2
 ·cases h1
def lA (H0:Hp)(p q:Addr)(H:Hp)(t:List Int)(v:V):Prop:=∃ a,v = .ref a/\H0 a=none/\a≠p/\a≠q/\H a=some (.lst (t.map V.int))
theorem lA.mono {H0:Hp}{p q:Addr}{H H':Hp}(t:List Int)(v:V)(s:dM H H')(h:lA H0 p q H t v):lA H0 p q H' t v:=by
 obtain⟨a,h1,h2,h3,h4,h5⟩:=h
 exact⟨a,h1,h2,h3,h4,s _ _ h5⟩
theorem mI {H0:Hp}{p q:Addr}{H:Hp} :∀ {ts:List (List Int)}{vs:List V},Pw (lA H0 p q H) ts vs->∃ as,vs=as.map V.ref/\Bes H0 H p q as ts
 |[],[],_=>⟨[],rfl,rfl,λi a t h=>by simp at h⟩
 |t::ts,v::vs,h=>by
  obtain⟨a,rfl,h2,h3,h4,h5⟩:=h.1
  obtain⟨as,rfl,hb⟩:=mI h.2
  refine⟨a::as,rfl,Bes.app (as:=[a]) (ts:=[t]) ⟨rfl,λi b u h1 h2'=>?_⟩ hb⟩
  match i,h1,h2' with
  | 0,h1,h2'=>cases h1;cases h2';exact⟨h2,h3,h4,h5⟩
def nodes (l:Ln):Nat->List Int->Nat
 | 0,_=>1
 |d+1,t=>1+((gr l t).map (nodes l d)).sum
def msz (l:Ln)(n:Nat)(ws:List (List Int)):Nat:=(ws.map λt=>nodes l (n-t.length) t).sum
theorem jk {α β:Type}{f g:α->List β} :∀ {l:List α},(∀ x∈l,f x=g x)->l.flatMap f=l.flatMap g
 |[],_=>rfl
 |x::l,h=>by rw[bT,bT,h x aB,jk λy hy=>h y (ay _ hy)]
theorem ow (a b:List Nat):(a++b).sum=a.sum+b.sum:=List.sum_append_nat ..
theorem pX {c:TT}{tb:TS}{D:Ends}{σ:L2.St}{H:Hp}(W:Nat->L2.St->Hp->Prop){m0:Nat}(h0:W m0 σ H)
  (hs:∀ m σ H (N:L2.St->Hp->Prop) (R:VK) (B:L2.St->Hp->Prop),(∀ m' σ' H',m'<m->W m' σ' H'->N σ' H')->(∀ v H',D.rt v H'->R v H')->(∀ σ' H',D.nx σ' H'->B σ' H')->W m σ H->c σ H λb H1=>if b=true then tb ⟨N,R,B,N⟩ σ H1 else B σ H1)
  (mono:∀ σ H Q Q',(∀ b H1,Q b H1->Q' b H1)->c σ H Q->c σ H Q'):nK c tb D σ H:=by
 refine⟨W,⟨m0,h0⟩,λm σ H w=>mono _ _ _ _ (λb H1 q=>?_) (hs m σ H (λσ' H'=>∃ m',m'<m/\W m' σ' H') D.rt D.nx (λm' σ' H' a b=>⟨m',a,b⟩) (λ_ _ z=>z) (λ_ _ z=>z) w)⟩
 by_cases e:b=true
 ·rw[aC e]at q ⊢
  exact⟨_,λ_ _ z=>z,q⟩
 ·rw[az e]at q ⊢
  exact q
def lC (K:PySem.W.Frag)(C:Addr):Sp:=λvs H Q E=>∃ (v:V) (l:Ln) (n:Nat),vs = [v,.int (n:Int)]/\Da K H (dL l) v/\fc l/\1<=n/\n<=6/\
 ((eD l (n-1)).length<=300->∀ p as H',dM H H'->H p=none->LsW H H' p as (eD l (n-1))->Q (.ref p) H')/\
 (300<(eD l (n-1)).length->∀ H',dM H H'->∀ e,H' e=none->E (.ref C) (some e) H')
abbrev fm:Stmt:=top 17
theorem fx:ec ["line","length","found","waiting","train","ends"] ["line","length"] (dC fm):=⟨rfl,rfl,rfl,by decide +kernel,rfl,by decide +kernel,by decide +kernel⟩
theorem iC:eT (dC fm) ["line","length","found","waiting","train","ends"] {kind:=.function,names:=[(Str.ofString ".0",.local),(Str.ofString "end",.local)],isGenerator:=false,isCoroutine:=false,more:=[]} ["end"] 1 [none]:=⟨rfl,by decide +kernel,by decide +kernel,by decide +kernel,rfl,by decide +kernel,rfl,by decide +kernel⟩
theorem iB:eT (dC fm) ["line","length","found","waiting","train","ends"] {kind:=.function,names:=[(Str.ofString ".0",.local),(Str.ofString "end",.local),(Str.ofString "train",.free)],isGenerator:=false,isCoroutine:=false,more:=[]} ["end","train"] 1 [none,some 4]:=⟨rfl,by decide +kernel,by decide +kernel,by decide +kernel,rfl,by decide +kernel,rfl,by decide +kernel⟩
section
variable {P:Program}{w:World}{K:PySem.W.Frag}{mg:Str->Option Value}{base:Heap}{f:Addr}{fd:FuncData}{c5:Addr}{tk:Tok}
theorem ml {f1 f2:Addr}{fd1 fd2:FuncData}(F:Fn K mg "trains_of" fm ["line","length"] f fd)(B:Bm mg)(C:Cm mg tk)(XS:Xt K mg c5)
  (fw:Fn K mg "free_ends" fo ["line","train","end"] f1 fd1) (iO:d8 P w K mg base CX0 2 f1 fd1 ["line","train","end"] (oC K))
  (ft:Fn K mg "other_end" gw ["end"] f2 fd2):d8 P w K mg base (CXr P w base) 3 f fd ["line","length"] (lC K c5):=by
 have nH:d8 P w K mg base CX0 1 f2 fd2 ["end"] h9:=mm ft
 refine F.F.okX fx (λvs H Q E h=>?_) (λcdv A outer s H vs Q E hr h=>?_)
 ·obtain⟨v,l,n,rfl,_⟩:=h;rfl
 ·obtain⟨v,l,n,rfl,hv,ok,n1,n6,kq,ke⟩:=h
  obtain⟨a,b,rfl,ht,us,hl,hq⟩:=jF hv
  have o1:=ok.one
  have o40:=ok.most
  refine⟨_,(dt (dO (i:=2) fx.nd rfl (Or.inl rfl) (eL dh))
 (dt (mY (i:=3) fx.nd rfl rfl (rS rfl rfl B.reversed (dg (iT pQ rfl B.range boot_range (dg (dD eV dq (fC jh (pv 0) dq (λ_ _=>rfl))) dh)) dh)) rfl iC (.name (by decide)) (λ_ _ _ _=>(dS (i:=0) iC.nd rfl (Or.inl rfl))) (λ_ _ _ _=>ig) (λ_ _ _ _=>(eL (dg (pv 0) dh))))
 (dt (ql PassesOwn.leaving (qj (pv 3) (λ_=>rfl))
 (dt (dO (i:=4) fx.nd rfl (Or.inr rfl) (qr aL PySem.F.slot_list_pop PySem.F.type_list_pop tV (pv 3)))
 (dz (fU (eS (oK (dN eE rfl B.len boot_len (dg (pv 4) dh)) (pv 1)))
 (dt (dO (i:=5) fx.nd rfl (Or.inl rfl) (dQ iO (hr.mono (by decide)) rfl fw.m fw.F.kp fw.b .nil ei (dg (pv 0) (dg (pv 4) (dg (dQ nH (hr.mono (by decide)) rfl ft.m ft.F.kp ft.b .nil ei (dg (fC fh (pv 4) (sM pY dq) (λ_ _=>rfl)) dh)) dh)))))
 (dz (fz (ik aL PySem.F.slot_list_extend PySem.F.type_list_extend pH (pv 3) (dg (m6 (tM rfl B.reversed (dg (pv 5) dh)) rfl iB (.name (by decide)) (λ_ _ _ _=>(dS (i:=0) iB.nd rfl (Or.inl rfl))) (λ_ _ _ _=>ig) (λ_ _ _ _=>(dD jM (pv 1) (eL (dg (pv 0) dh))))) dh))))) (dz (fU (eS (gT (dN eE rfl B.len boot_len (dg (pv 4) dh)) (pv 1)))
 (dt (fU (eS (gT (dN eE rfl B.len boot_len (dg (pv 2) dh)) (gB (v:=.int 300) rfl C.j8 ⟨_,rfl⟩)))
 (dz (qm pB rfl rfl XS.i6.m XS.i6.q PySem.F.excBase_ValueError (dg (qp (i:=300) rfl C.j8 ⟨_,rfl⟩ (by decide) (by decide)) dh))) eI)
 (dz (fz (ik aL bJ bI fK (pv 2) (dg (pv 4) dh))))) eI))))))
 (dz (ef (pv 2)))))),?_⟩
  refine⟨aM _,λfd nfd=>?_⟩
  have s1:=dj (o:=.lst []) nfd
  have hfd:=di (H:=H) (a:=fd) (o:=.lst [])
  generalize upd H fd _=H1 at s1 hfd ⊢
  refine⟨_,rfl,a,_,_,_,rfl,rfl,gh s1 ht,rfl,_,_,rfl,rfl,.inl ⟨by decide,by decide⟩,_,rfl,λrg nrg=>?_⟩
  have s2:=dj (o:=.rng 0 (2*l.1)) nrg
  refine⟨rg,_,rfl,di,by omega,by omega,λwt nwt=>?_⟩
  have hfd:=s2 _ _ hfd
  have S2:=s1.trans s2
  generalize upd H1 rg _=H2 at s2 hfd S2 nwt ⊢
  have uq:fd≠wt:=dF hfd nwt
  have vh:=dM.free S2 nwt
  have ol:(jd l.1).length=(2*l.1).toNat:=by unfold jd;rw[aa,gH]
  refine qM (2*l.1).toNat (jd l.1).reverse (lA H fd wt) (λt v=>lA.mono t v) nwt (by rw[bx,ol]) (er (by omega)) (λi G s hi=>hi) (λG s=>ar _) ?_ ?_
  ·rintro i x d G G' sG ⟨us',hus⟩ ⟨rfl,rfl⟩ hd P1 P0 k1
   have hi:i<(2*l.1).toNat:=by
    have:=(af.mp hd).1
    rw[bx,ol]at this
    exact this
   have ed:d = [2*l.1-1+(i:Int) * -1]:=by
    rw[List.getElem?_reverse (by omega),ol]at hd
    unfold jd at hd
    rw[ax,ky (by omega)]at hd
    have hd:[(0:Int)+(((2*l.1).toNat-1-i:Nat):Int)]=d:=by simpa using hd
    rw[<-hd]
    congr 1
    omega
   refine ir ?_
   refine⟨_,rfl,by show 1<=sizeLine;decide,λp np=>?_⟩
   refine k1 _ _ (dj np) ⟨p,rfl,dM.free (S2.trans sG) np,(dF (sG _ _ hfd) np).symm,(dF hus np).symm,?_⟩
   rw[jQ (dF hus np).symm,di,ed];rfl
  intro vs H3 s3 hwt PW
  obtain⟨wg,rfl,BW⟩:=mI PW
  have BW:=BW.same kP
  have yd:=s3 _ _ hfd
  have S3:=S2.trans s3
  have ex0:∀ t∈jd l.1,t.length=1:=λt h=>by
   obtain⟨e,_,rfl⟩:=aQ.mp h
   rfl
  dsimp only[hU]
  show nK _ _ _ _ _
  refine pX (λm σ G=>∃ (was fas:List Addr) (ws fs:List (List Int)) (x4 x5:Option V),σ = [some (.ref a),some (.int (n:Int)),some (.ref fd),some (.ref wt),x4,x5]/\dM H G/\G fd=some (.lst (fas.map V.ref))/\G wt=some (.lst (was.map V.ref))/\Bes H G fd wt was ws/\Bes H G fd wt fas fs/\
    fs++ws.reverse.flatMap (λt=>exF l (n-t.length) t)=eD l (n-1)/\fs.length<=300/\(∀ (i:Nat) t,ws[i]? = some t->i<160*t.length/\1<=t.length/\t.length<=n)/\m=msz l n ws)
   ⟨wg,[],(jd l.1).reverse,[],none,none,rfl,S3,yd,hwt,BW,⟨rfl,λi a t h=>by simp at h⟩,?_,by simp,λi t hi=>?_,rfl⟩ ?_ ?_
  ·rw[List.nil_append,List.reverse_reverse,rn]
   refine jk λt ht=>?_
   rw[ex0 t ht]
  ·have h1:=ex0 t (ck.mp (aN hi))
   have h2:=(af.mp hi).1
   rw[bx,ol]at h2
   omega
  ·rintro m σ G N R Bq kN kR kB ⟨was,fas,ws,fs,x4,x5,rfl,S4,vM,ue,BW,BF,EQ,f3,PS,rfl⟩
   refine⟨_,rfl,!(was.map V.ref).isEmpty,.inl ⟨_,SqL.of ue,rfl⟩,?_⟩
   have bl:=BW.1
   by_cases em:ws = []
   ·subst em
    have wn:was = []:=List.eq_nil_of_length_eq_zero (by rw[bl];rfl)
    subst wn
    refine fD (λz=>absurd z (by decide)) (λ_=>kB _ _ ?_)
    have EQ:fs=eD l (n-1):=by simpa using EQ
    subst EQ
    refine⟨_,rfl,kq f3 fd fas G S4 nfd ⟨vM,BF.1,λi a t h1 h2=>?_⟩⟩
    obtain⟨a1,a2,a3,a4⟩:=BF.2 i a t h1 h2
    exact⟨a1,a2,a4⟩
   ·have wl:1<=ws.length:=by cases ws with |nil=>exact absurd rfl em |cons x r=>simp
    have lst:ws[ws.length-1]? = some (ws.getLast em):=by rw[<-List.getLast?_eq_getElem?,List.getLast?_eq_some_getLast em]
    have lsw:was[ws.length-1]? = some was[ws.length-1]:=ae (by omega)
    obtain⟨ps1,ps2,ps3⟩:=PS _ _ lst
    obtain⟨b1,b2,b3,b4⟩:=BW.2 _ _ _ lsw lst
    have wd:ws=ws.dropLast ++ [ws.getLast em]:=(List.dropLast_concat_getLast em).symm
    generalize was[ws.length-1]=ta at lsw b1 b2 b3 b4
    generalize ws.getLast em=t at lst ps1 ps2 ps3 b4 wd
    have tne:t≠ []:=λz=>by rw[z]at ps2;simp at ps2
    have rv:ws.reverse=t::ws.dropLast.reverse:=by
     conv=>lhs;rw[wd]
     rw[bE];rfl
    refine fD (λ_=>?_) (λz=>absurd (by cases was with |nil=>rw[<-bl]at wl;simp at wl |cons x r=>rfl) z)
    refine⟨_,rfl,.inl ⟨rfl,_,SqL.of ue⟩,wt,_,V.ref ta,rfl,rfl,ue,by rw[aa,bl,ax,lsw];rfl,?_⟩
    have S5:=dM.upd (o:=.lst (was.map V.ref).dropLast) S4 vh
    have qX:upd G wt (.lst (was.map V.ref).dropLast) fd=some (.lst (fas.map V.ref)):=by rw[dG uq];exact vM
    have ud:upd G wt (.lst (was.map V.ref).dropLast) wt=some (.lst (was.dropLast.map V.ref)):=by rw[di,List.map_dropLast]
    have BW5:=(BW.rK (o:=.lst (was.map V.ref).dropLast)).drop
    have BF5:=BF.rK (o:=.lst (was.map V.ref).dropLast)
    have ht5:upd G wt (.lst (was.map V.ref).dropLast) ta=some (.lst (t.map V.int)):=by rw[dG b3];exact b4
    generalize upd G wt (.lst (was.map V.ref).dropLast)=G5 at S5 qX ud BW5 BF5 ht5 ⊢
    have PS5:∀ (i:Nat) u,ws.dropLast[i]? = some u->i<160*u.length/\1<=u.length/\u.length<=n:=λi u h=>by
     rw[List.getElem?_dropLast]at h
     split at h
     ·exact PS i u h
     ·cases h
    have dl:ws.dropLast.length=ws.length-1:=cJ
    have MZ:msz l n ws=msz l n ws.dropLast+nodes l (n-t.length) t:=by
     conv=>lhs;rw[wd]
     unfold msz
     rw[aK,ow];rfl
    rw[rv,bT]at EQ
    refine⟨_,rfl,ta,_,rfl,.inl (SqL.of ht5),_,rfl,_,_,rfl,rfl,_,rfl,fD (λc=>?_) (λc=>?_)⟩
    ·-- it grows
     have c:((t.map V.int).length:Int)<(n:Int):=by simpa using c
     rw[aa]at c
     obtain⟨d,hd⟩:∃ d,n-t.length=d+1:=⟨n-t.length-1,by omega⟩
     refine⟨_,rfl,_,rfl,_,rfl,_,rfl,ta,_,_,_,rfl,rfl,SqL.of ht5,oW tne,_,rfl,_,_,l,t,_,rfl,Da.same S5 hv,mD ht5,ok,by omega,λpe G6 s6 npe hpe=>?_⟩
     have fl:=rb ok t (oth (t.getLastD 0))
     have uc:=s6 _ _ ud
     have vL:=s6 _ _ qX
     have ht6:=s6 _ _ ht5
     refine⟨_,rfl,.inl ⟨rfl,_,SqL.of uc⟩,_,rfl,pe,_,rfl,SqL.of hpe,λpl npl=>?_⟩
     have JR:=t6 (SqL.of (K:=K) hpe)
     have el:((fr l t (oth (t.getLastD 0))).map V.int).length=(gr l t).length:=by unfold gr;rw[aa,aa]
     refine qM (gr l t).length (gr l t).reverse (lA H fd wt) (λt v=>lA.mono t v) npl (by rw[bx]) (er (by have:=qZ ok t;omega)) (λi G s hi=>JR.go i G s (by omega)) (λG s=>el.symm) ?_ ?_
     ·rintro i x u G7 G8 s7 ⟨us',hus⟩ y hd' P1 P0 k1
      have hi:i<(gr l t).length:=by
       have:=(af.mp hd').1
       rw[bx]at this
       exact this
      obtain⟨rfl,hx⟩:=JR.yld i G7 x G8 s7 (by omega) y
      have eu:∃ e,x = .int e/\u=t ++ [e]:=by
       rw[<-List.map_reverse,ax]at hx
       unfold gr at hd'
       rw[<-List.map_reverse,ax]at hd'
       cases q:(fr l t (oth (t.getLastD 0))).reverse[i]? with
       |none=>rw[q]at hx;cases hx
       |some e=>
        rw[q]at hx hd'
        cases hx
        cases hd'
        exact⟨e,rfl,rfl⟩
      obtain⟨e,rfl,rfl⟩:=eu
      refine ir ?_
      have ht7:=s7 _ _ ht6
      refine⟨_,rfl,_,rfl,by show 1<=sizeLine;decide,λp1 np1=>?_⟩
      have s8:=dj (o:=.lst [V.int e]) np1
      refine⟨ta,p1,_,_,rfl,rfl,s8 _ _ ht7,di,bZ (er (by rw[aa];show t.length+1<=1000;omega)),λp2 np2=>?_⟩
      have S7:=S5.trans (s6.trans (s7.trans s8))
      have nl:p2≠pl:=(dF (s8 _ _ hus) np2).symm
      refine k1 _ _ (s8.trans (dj np2)) ⟨p2,rfl,dM.free S7 np2,(dF ((s7.trans s8) _ _ vL) np2).symm,(dF ((s7.trans s8) _ _ uc) np2).symm,?_⟩
      rw[jQ nl,di,aK];rfl
     intro vs G7 s7 hpl PW
     obtain⟨nas,rfl,BN⟩:=mI PW
     have BN:=BN.same kP
     have xT:=s7 _ _ uc
     have yc:=s7 _ _ vL
     have S7:=S5.trans (s6.trans s7)
     have nl:=BN.1
     rw[bx]at nl
     have gl:=qZ ok t
     have b5:=BW5.1
     refine⟨wt,pl,_,_,rfl,rfl,xT,hpl,bZ (er (by rw[aa,aa];omega)),?_⟩
     refine kN (msz l n (ws.dropLast++(gr l t).reverse)) _ _ ?_ ⟨was.dropLast++nas,fas,ws.dropLast++(gr l t).reverse,fs,_,_,rfl,dM.upd S7 vh,by rw[dG uq];exact yc,by rw[di,aK],((BW5.same (s6.trans s7)).app BN).rK,(BF5.same (s6.trans s7)).rK,?_,f3,λi u hu=>?_,rfl⟩
     ·rw[MZ,hd]
      unfold msz
      rw[aK,ow,List.map_reverse,List.sum_reverse]
      have:((gr l t).map λu=>nodes l (n-u.length) u)=(gr l t).map (nodes l d):=List.map_congr_left λu hu=>by
       obtain⟨e,_,rfl⟩:=jS hu
       rw[ao,show n-(t.length + [e].length)=d by show n-(t.length+1)=d;omega]
      rw[this]
      show _<_+(1+((gr l t).map (nodes l d)).sum)
      omega
     ·rw[bE,List.reverse_reverse,cO,<-EQ,hd]
      congr 2
      show _=(gr l t).flatMap (exF l d)
      refine jk λu hu=>?_
      obtain⟨e,_,rfl⟩:=jS hu
      rw[ao,show n-(t.length + [e].length)=d by show n-(t.length+1)=d;omega]
     ·by_cases q:i<ws.dropLast.length
      ·rw[aD q]at hu
       exact PS5 i u hu
      ·rw[aG (by omega)]at hu
       have h2:=(af.mp hu).1
       rw[bx]at h2
       obtain⟨e,_,rfl⟩:=jS (ck.mp (aN hu))
       rw[ao]
       show i<160*(t.length+1)/\1<=t.length+1/\t.length+1<=n
       omega
    ·have c:¬((t.map V.int).length:Int)<(n:Int):=by simpa using c
     rw[aa]at c
     have tn:t.length=n:=by omega
     rw[tn,Nat.sub_self]at EQ MZ
     have EQ:fs++(t::(ws.dropLast.reverse.flatMap λt=>exF l (n-t.length) t))=eD l (n-1):=EQ
     refine⟨_,rfl,ta,_,rfl,.inl (SqL.of ht5),_,rfl,_,_,rfl,rfl,_,rfl,fD (λ_=>?_) (λc2=>absurd (by rw[aa,tn];simp) c2)⟩
     refine⟨_,rfl,fd,_,rfl,.inl (SqL.of qX),_,_,rfl,rfl,_,rfl,fD (λh3=>?_) (λh3=>?_)⟩
     ·have h3:((fas.map V.ref).length:Int)=300:=by simpa using h3
      rw[aa,BF.1]at h3
      refine λz=>⟨by show 1<=sizeLine;decide,λx hx=>ke ?_ G5 S5 x hx⟩
      rw[<-EQ,ao,bb]
      omega
     ·have h3:¬((fas.map V.ref).length:Int)=300:=by simpa using h3
      rw[aa,BF.1]at h3
      have bf:=BF.1
      refine⟨_,rfl,.inl ⟨rfl,_,SqL.of qX⟩,_,rfl,fd,_,_,rfl,rfl,qX,er (by rw[aa];omega),?_⟩
      have B1:Bes H G5 fd wt [ta] [t]:=⟨rfl,λi a' u h1 h2=>by
       match i,h1,h2 with
       | 0,h1,h2=>cases h1;cases h2;exact⟨b1,b2,b3,ht5⟩⟩
      refine kN (msz l n ws.dropLast) _ _ (by rw[MZ];show _<_+1;omega) ⟨was.dropLast,fas ++ [ta],ws.dropLast,fs ++ [t],_,_,rfl,dM.upd S5 nfd,by rw[di,aK];rfl,by rw[dG (cH uq)];exact ud,BW5.uI,(BF5.app B1).uI,by rw[aH];exact EQ,by rw[ao];show fs.length+1<=300;omega,PS5,rfl⟩
  ·rintro σ G Q1 Q2 hq ⟨x,e1,kk,tv,q⟩
   exact⟨x,e1,kk,tv,hq _ _ q⟩
end
def ip:Int->List Int->List (List Int)
 |_,[]=>[]
 |m,w::r=>gd m w.toNat::ip (m+w) r
def qe (o:Int)(x:Int):Int×Int:=(min (2*o+1) (2*x),max (2*o+1) (2*x))
def i7 (pp:List (List Int))(k:Nat):List (Int×Int):=(pp.getD k []).flatMap λo=>(pp.getD ((k+1)%pp.length) []).map (qe o)
def mU (pp:List (List Int)):List (Int×Int):=(List.range pp.length).flatMap (i7 pp)
theorem mj:∀ (ws:List Int) (m:Int),(ip m ws).length=ws.length
 |[],_=>rfl
 |w::r,m=>by show(ip (m+w) r).length+1=_;rw[mj r];rfl
theorem m8:∀ (ws:List Int) (m w:Int),ip m (ws ++ [w])=ip m ws ++ [gd (m+ws.sum) w.toNat]
 |[],m,w=>by show[gd m w.toNat] = [gd (m+0) w.toNat];rw[Int.add_zero]
 |x::r,m,w=>by
  show gd m x.toNat::ip (m+x) (r ++ [w])=gd m x.toNat::(ip (m+x) r ++ [gd (m+(x::r).sum) w.toNat])
  rw[m8 r,List.sum_cons,Int.add_assoc]
theorem lG:∀ {ws:List Int}{m:Int},(∀ w∈ws,0<=w/\w<=9)->∀ p∈ip m ws,p.length<=9
 |[],_,_,p,hp=>by cases hp
 |w::r,m,h,p,hp=>by
  rcases aJ.mp hp with e |q
  ·rw[e,gH];have:=h w aB;omega
  ·exact lG (λx hx=>h x (ay _ hx)) p q
def mR (K:PySem.W.Frag):Sp:=λvs H Q _=>∃ (a:Addr) (ws:List Int),vs = [.ref a]/\SqL K H a (ws.map V.int)/\ws≠ []/\ws.length<=9/\(∀ w∈ws,0<=w/\w<=9)/\∀ v H',dM H H'->Da K H' (dL (ws.sum,mU (ip 0 ws))) v->Q v H'
structure PcW (H:Hp)(t ps:Addr)(as:List Addr)(pp:List (List Int)):Prop where
 ne:ps≠t
 at_:H ps=some (.lst (as.map V.ref))
 len:as.length=pp.length
 each:∀ (i:Nat) a p,as[i]? = some a->pp[i]? = some p->a≠t/\H a=some (.lst (p.map V.int))
theorem PcW.same {H H':Hp}{t ps:Addr}{as:List Addr}{pp:List (List Int)}(h:PcW H t ps as pp)(s:dM H H'):PcW H' t ps as pp:=
 ⟨h.ne,s _ _ h.at_,h.len,λi a p h1 h2=>⟨(h.each i a p h1 h2).1,s _ _ (h.each i a p h1 h2).2⟩⟩
theorem PcW.upd {H:Hp}{t ps:Addr}{as:List Addr}{pp:List (List Int)}{o:HO}(h:PcW H t ps as pp):PcW (L2.upd H t o) t ps as pp:=
 ⟨h.ne,by rw[dG h.ne];exact h.at_,h.len,λi a p h1 h2=>⟨(h.each i a p h1 h2).1,by rw[dG (h.each i a p h1 h2).1];exact(h.each i a p h1 h2).2⟩⟩
theorem PcW.get {H:Hp}{t ps:Addr}{as:List Addr}{pp:List (List Int)}(h:PcW H t ps as pp){i:Nat}(hi:i<pp.length):∃ a,as[i]? = some a/\pp[i]? = some (pp.getD i [])/\H a=some (.lst ((pp.getD i []).map V.int)):=by
 have hi':i<as.length:=by rw[h.len];exact hi
 have h1:as[i]? = some as[i]:=ae hi'
 have h2:pp[i]? = some (pp.getD i []):=by rw[aO,ae hi];rfl
 exact⟨_,h1,h2,(h.each i _ _ h1 h2).2⟩
abbrev gz:Stmt:=top 25
theorem d9:ec ["_law_rungs_here","_law_pieces","_law_many","_law_wide","_law_joints","_law_k","_law_some","_law_one","_law_other_here"] ["_law_rungs_here"] (dC gz):=⟨rfl,rfl,rfl,by decide +kernel,rfl,by decide +kernel,by decide +kernel⟩
section
variable {P:Program}{w:World}{K:PySem.W.Frag}{mg:Str->Option Value}{base:Heap}{f:Addr}{fd:FuncData}
theorem mn (F:Fn K mg "_law_rungs" gz ["_law_rungs_here"] f fd)(B:Bm mg):d8 P w K mg base CX0 1 f fd ["_law_rungs_here"] (mR K):=by
 refine F.F.ok d9 (λvs H Q E h=>?_) (λcdv A outer s H vs Q E hr h=>?_)
 ·obtain⟨a,ws,rfl,_⟩:=h;rfl
 ·obtain⟨a,ws,rfl,ha,wne,w9,wb,k⟩:=h
  refine⟨_,(dt (dO (i:=1) d9.nd rfl (Or.inl rfl) (eL dh))
 (dt (dO (i:=2) d9.nd rfl (Or.inl rfl) dq)
 (dt (fJ bp rfl (eZ (pv 0)) (dS (i:=3) d9.nd rfl (Or.inl rfl))
 (dt (fz (ik aL bJ bI fK (pv 1) (dg (iT (lz rfl) rfl B.list boot_list (dg (iT pP rfl B.range boot_range (dg (pv 2) (dg (dD eG (pv 2) (pv 3)) dh))) dh)) dh)))
 (dz (dO (i:=2) d9.nd rfl (Or.inl rfl) (dD eG (pv 2) (pv 3))))))
 (dt (dO (i:=4) d9.nd rfl (Or.inl rfl) (eL dh))
 (dt (fJ bp rfl (oI rfl B.enumerate (dg (pv 1) dh)) (ij (n:=2) rfl (eh (dS (i:=5) d9.nd rfl (Or.inl rfl)) (eh (dS (i:=6) d9.nd rfl (Or.inl rfl)) gA)))
 (dz (fJ bp rfl (eZ (pv 6)) (dS (i:=7) d9.nd rfl (Or.inl rfl))
 (dz (fJ bp rfl (eZ (fC fh (pv 1) (dD eA (dD eG (pv 5) dq) (dN eE rfl B.len boot_len (dg (pv 1) dh))) (λ_ _=>rfl))) (dS (i:=8) d9.nd rfl (Or.inl rfl))
 (dz (fz (ik aL bJ bI fK (pv 4) (dg (gS (dg (dN (iW rfl) rfl B.min boot_min (dg (dD eG (dD eV dq (pv 7)) dq) (dg (dD eV dq (pv 8)) dh))) (dg (dN (iX rfl) rfl B.max boot_max (dg (dD eG (dD eV dq (pv 7)) dq) (dg (dD eV dq (pv 8)) dh))) dh))) dh)))))))))
 (dz (ef (gS (dg (pv 2) (dg (pv 4) dh)))))))))),?_⟩
  refine⟨aM _,λps nps=>?_⟩
  have s1:=dj (o:=.lst []) nps
  have hps:=di (H:=H) (a:=ps) (o:=.lst [])
  generalize upd H ps _=H1 at s1 hps ⊢
  dsimp only[hU]
  refine⟨_,rfl,a,rfl,⟨_,s1.seq ha⟩,gk (K:=K) (a:=a) (xs:=ws.map V.int) (λi σ G=>∃ (as:List Addr) (x3:Option V),σ = [some (.ref a),some (.ref ps),some (.int ((ws.take i).sum)),x3,none,none,none,none,none]/\dM H G/\LsW H G ps as (ip 0 (ws.take i)))
   ⟨[],none,rfl,s1,⟨hps,rfl,λi b t h=>by simp at h⟩⟩ (λi σ G _ ⟨_,_,_,s,_⟩=>s.seq ha) ?_ ?_⟩
  ·rintro i y σ G N R Bq kN _ hi ⟨as,x3,rfl,S,L⟩
   rw[ax]at hi
   cases q:ws[i]? with
   |none=>rw[q]at hi;cases hi
   |some x=>
    rw[q]at hi
    cases hi
    have xb:=wb x (aN q)
    have il:i<ws.length:=(af.mp q).1
    have tk:ws.take (i+1)=ws.take i ++ [x]:=by rw[bK,q];rfl
    have sb:∀ (r:List Int),(∀ w∈r,0<=w/\w<=9)->0<=r.sum/\r.sum<=9*r.length:=by
     intro r
     induction r with
     |nil=>intro _;simp
     |cons z r ih=>
      intro hz
      have h1:=ih λw hw=>hz w (ay _ hw)
      have h2:=hz z aB
      rw[List.sum_cons,bb]
      omega
    have sm:=sb (ws.take i) λw hw=>wb w (List.mem_of_mem_take hw)
    rw[bH]at sm
    have hl:=L.at_
    refine⟨_,rfl,.inl ⟨rfl,_,SqL.of hl⟩,_,rfl,_,rfl,_,rfl,_,_,rfl,rfl,_,_,rfl,λrg nrg=>?_⟩
    have s2:=dj (o:=.rng ((ws.take i).sum) ((ws.take i).sum+x)) nrg
    refine⟨rg,_,_,rfl,di,by omega,by omega,by omega,by omega,λp np=>?_⟩
    rw[show(ws.take i).sum+x-(ws.take i).sum=x by omega]
    have s3:=s2.trans (dj (o:=.lst ((gd ((ws.take i).sum) x.toNat).map V.int)) np)
    have hp:=di (H:=upd G rg (.rng ((ws.take i).sum) ((ws.take i).sum+x))) (a:=p) (o:=.lst ((gd ((ws.take i).sum) x.toNat).map V.int))
    have npG:G p=none:=dM.free s2 np
    generalize upd (upd G rg _) p _=G2 at s3 hp ⊢
    have L2':=L.same s3
    refine⟨ps,_,_,rfl,rfl,L2'.at_,fO (by rw[aa,L.len,mj,bH];omega),?_⟩
    have pps:p≠ps:=(dF hl npG).symm
    refine⟨_,rfl,_,rfl,_,_,rfl,rfl,kN _ _ ⟨as ++ [p],some (.int x),?_,dM.upd (S.trans s3) nps,?_⟩⟩
    ·rw[tk,List.sum_append,List.sum_singleton];rfl
    ·rw[tk,m8,Int.zero_add]
     refine⟨by rw[di,aK];rfl,by rw[ao,ao,L.len];rfl,λj b t h1 h2=>?_⟩
     by_cases c:j<as.length
     ·rw[aD c]at h1
      rw[aD (by rw[<-L.len];exact c)]at h2
      obtain⟨a1,a2,a3⟩:=L2'.each j b t h1 h2
      exact⟨a1,a2,by rw[dG a2];exact a3⟩
     ·rw[aG (by omega)]at h1
      rw[aG (by rw[<-L.len];omega),<-L.len]at h2
      cases hd:j-as.length with
      |zero=>
       rw[hd]at h1 h2
       cases h1
       cases h2
       exact⟨dM.free S npG,pps,by rw[dG pps];exact hp⟩
      |succ n=>rw[hd]at h1;simp at h1
  rintro σ G ⟨as,x3,rfl,S,L⟩
  rw[aa,bV]at L ⊢
  have pl:(ip 0 ws).length=ws.length:=mj ws 0
  have pb:=lG (m:=0) wb
  have pp1:1<=(ip 0 ws).length:=by rw[pl];cases ws with |nil=>exact absurd rfl wne |cons x r=>simp
  generalize hpp:ip 0 ws=pp at L pl pb pp1 k
  refine⟨aM _,λt nt=>?_⟩
  have s2:=dj (o:=.lst []) nt
  have ht:=di (H:=G) (a:=t) (o:=.lst [])
  have W0:PcW (upd G t (.lst [])) t ps as pp:=⟨dF L.at_ nt,s2 _ _ L.at_,L.len,λi a p h1 h2=>⟨dF (L.each i a p h1 h2).2.2 nt,s2 _ _ (L.each i a p h1 h2).2.2⟩⟩
  have S2:=S.trans s2
  have nt0:=dM.free S nt
  generalize upd G t _=G1 at s2 ht W0 S2 ⊢
  have pbd:∀ i,(pp.getD i []).length<=9:=λi=>by
   rw[aO]
   cases q:pp[i]? with
   |none=>simp
   |some x=>exact pb x (aN q)
  refine⟨_,rfl,ps,rfl,⟨_,SqL.of W0.at_⟩,lK (K:=K) (a:=ps) (xs:=as.map V.ref) (λi σ G=>∃ (us:List V) (x3 x5 x6 x7 x8:Option V),σ = [some (.ref a),some (.ref ps),some (.int ws.sum),x3,some (.ref t),x5,x6,x7,x8]/\dM H G/\PcW G t ps as pp/\G t=some (.lst us)/\Ps K G ((List.range i).flatMap (i7 pp)) us/\((List.range i).flatMap (i7 pp)).length<=100*i)
   ⟨[],x3,none,none,none,none,rfl,S2,W0,ht,eJ.mpr rfl,ar _⟩ (λi σ G _ ⟨_,_,_,_,_,_,_,_,h,_⟩=>SqL.of h.at_) ?_ ?_⟩
  ·rintro i y σ G p N R Bq kN _ hi ⟨us,x3,x5,x6,x7,x8,rfl,S,W,ht,D,jl⟩ np
   have il:i<pp.length:=by
    have:=(af.mp hi).1
    rw[aa,W.len]at this
    exact this
   obtain⟨ai,h1,h2,h3⟩:=W.get il
   rw[ax,h1]at hi
   cases hi
   have s3:=dj (o:=.tup [.int (i:Int),.ref ai]) np
   have hp:=di (H:=G) (a:=p) (o:=.tup [.int (i:Int),.ref ai])
   have W:=W.same s3
   have ht:=s3 _ _ ht
   have D:=D.same s3
   have h3:=s3 _ _ h3
   have S:=S.trans s3
   generalize upd G p _=G2 at s3 hp W ht D h3 S ⊢
   refine⟨p,_,rfl,SqT.of hp,rfl,_,_,rfl,_,_,rfl,rfl,?_⟩
   have mi:(i+1)%pp.length<pp.length:=Nat.mod_lt _ (by omega)
   obtain⟨bi,g1,g2,_⟩:=W.get mi
   have l1:=pbd i
   have l2:=pbd ((i+1)%pp.length)
   refine⟨_,rfl,ai,rfl,⟨_,SqL.of h3⟩,gk (K:=K) (a:=ai) (xs:=(pp.getD i []).map V.int) (λj σ G=>∃ (us:List V) (x7 x8:Option V),σ = [some (.ref a),some (.ref ps),some (.int ws.sum),x3,some (.ref t),some (.int (i:Int)),some (.ref ai),x7,x8]/\dM H G/\PcW G t ps as pp/\G t=some (.lst us)/\Ps K G ((List.range i).flatMap (i7 pp)++((pp.getD i []).take j).flatMap λo=>(pp.getD ((i+1)%pp.length) []).map (qe o)) us/\us.length<=100*i+10*j)
    ⟨us,x7,x8,rfl,S,W,ht,by simpa using D,by have:=D.len;omega⟩ (λj σ G _ ⟨_,_,_,_,_,h,_⟩=>SqL.of (h.each i ai _ h1 h2).2) ?_ ?_⟩
   ·rintro j y σ G3 N2 R2 B2 kN2 _ hj ⟨us,x7,x8,rfl,S,W,ht,D,ul⟩
    rw[ax]at hj
    cases q:(pp.getD i [])[j]? with
    |none=>rw[q]at hj;cases hj
    |some o=>
     rw[q]at hj
     cases hj
     have jl2:j<(pp.getD i []).length:=(af.mp q).1
     have tk:(pp.getD i []).take (j+1)=(pp.getD i []).take j ++ [o]:=by rw[bK,q];rfl
     have hb3:=(W.each _ bi _ g1 g2).2
     have am:((i:Int)+1)%((as.map V.ref).length:Int)=(((i+1)%pp.length:Nat):Int):=by rw[aa,W.len,Int.natCast_emod];rfl
     refine⟨_,rfl,_,rfl,_,_,rfl,rfl,_,rfl,ps,_,rfl,.inl (SqL.of W.at_),_,_,rfl,rfl,(by show(0:Int)<((as.map V.ref).length:Int);rw[aa,W.len];omega),ps,_,_,V.ref bi,rfl,rfl,SqL.of W.at_,(by show atI (as.map V.ref) (((i:Int)+1)%((as.map V.ref).length:Int))=_;rw[am];exact iZ (by rw[ax,g1];rfl)),bi,rfl,⟨_,SqL.of hb3⟩,gk (K:=K) (a:=bi) (xs:=(pp.getD ((i+1)%pp.length) []).map V.int) (λz σ G=>∃ (us:List V) (x8:Option V),σ = [some (.ref a),some (.ref ps),some (.int ws.sum),x3,some (.ref t),some (.int (i:Int)),some (.ref ai),some (.int o),x8]/\dM H G/\PcW G t ps as pp/\G t=some (.lst us)/\Ps K G (((List.range i).flatMap (i7 pp)++((pp.getD i []).take j).flatMap λo=>(pp.getD ((i+1)%pp.length) []).map (qe o))++((pp.getD ((i+1)%pp.length) []).take z).map (qe o)) us/\us.length<=100*i+10*j+z)
      ⟨us,x8,rfl,S,W,ht,by simpa using D,by omega⟩ (λz σ G _ ⟨_,_,_,_,h,_⟩=>SqL.of (h.each _ bi _ g1 g2).2) ?_ ?_⟩
     ·rintro z y σ G4 N3 R3 B3 kN3 _ hz ⟨us,x8,rfl,S,W,ht,D,ul⟩
      rw[ax]at hz
      cases q2:(pp.getD ((i+1)%pp.length) [])[z]? with
      |none=>rw[q2]at hz;cases hz
      |some x=>
       rw[q2]at hz
       cases hz
       have zl:z<(pp.getD ((i+1)%pp.length) []).length:=(af.mp q2).1
       have tk2:(pp.getD ((i+1)%pp.length) []).take (z+1)=(pp.getD ((i+1)%pp.length) []).take z ++ [x]:=by rw[bK,q2];rfl
       refine⟨_,rfl,.inl ⟨rfl,_,SqL.of ht⟩,_,rfl,_,_,rfl,rfl,.inl ⟨by decide,by decide⟩,_,_,rfl,rfl,_,rfl,_,_,rfl,rfl,.inl ⟨by decide,by decide⟩,_,_,rfl,_,rfl,_,_,rfl,rfl,.inl ⟨by decide,by decide⟩,_,_,rfl,rfl,_,rfl,_,_,rfl,rfl,.inl ⟨by decide,by decide⟩,_,_,rfl,by show 2<=sizeLine;decide,λp2 np2=>?_⟩
       rw[mv,mw]
       have s5:=dj (o:=.tup [.int (min (2*o+1) (2*x)),.int (max (2*o+1) (2*x))]) np2
       have p9:pp.length<=9:=by omega
       refine⟨t,us,_,rfl,rfl,s5 _ _ ht,fO (by omega),?_⟩
       refine kN3 _ _ ⟨us ++ [.ref p2],_,rfl,dM.upd (S.trans s5) nt0,(W.same s5).upd,di,?_,by rw[ao];show us.length+1<=_;omega⟩
       have:=Ps.push (o:=.lst (us ++ [V.ref p2])) (x:=qe o x) (D.same s5) (s5 _ _ ht) di
       rw[tk2,aK,<-aH]
       exact this
     ·rintro σ G4 ⟨us,x8,rfl,S,W,ht,D,ul⟩
      rw[aa]at ul D
      rw[bV]at D
      refine kN2 _ _ ⟨us,_,_,rfl,S,W,ht,?_,by omega⟩
      rw[tk,cO,<-aH]
      simpa using D
   ·rintro σ G3 ⟨us,x7,x8,rfl,S,W,ht,D,ul⟩
    rw[aa]at ul D
    rw[bV]at D
    have e:(List.range (i+1)).flatMap (i7 pp)=(List.range i).flatMap (i7 pp)++i7 pp i:=by rw[List.range_succ,cO];simp
    refine kN _ _ ⟨us,_,_,_,_,_,rfl,S,W,ht,by rw[e];exact D,?_⟩
    have dl:=D.len
    have dl:us.length=((List.range i).flatMap (i7 pp)++i7 pp i).length:=dl
    rw[e,<-dl]
    omega
  ·rintro σ G2 ⟨us,x3,x5,x6,x7,x8,rfl,S,W,ht,D,jl⟩
   rw[aa,L.len]at D
   refine⟨_,rfl,_,rfl,by show 2<=sizeLine;decide,λp np=>?_⟩
   have s3:=dj (o:=.tup [.int ws.sum,.ref t]) np
   exact k _ _ (S.trans s3) (gm di ((D.same s3).da (s3 _ _ ht)))
end
theorem v3 {n:Nat}(h:n<=10000000):n<sizeLine:=Nat.lt_of_le_of_lt h (by decide)
structure DuA (H:Hp)(q:Addr)(as:List Addr)(ts:List (List Int)):Prop where
 at_:H q=some (.lst (as.map V.ref))
 len:as.length=ts.length
 each:∀ (i:Nat) a t,as[i]? = some a->ts[i]? = some t->H a=some (.lst (t.map V.int))
theorem DuA.same {H H':Hp}{q:Addr}{as:List Addr}{ts:List (List Int)}(h:DuA H q as ts)(s:dM H H'):DuA H' q as ts:=⟨s _ _ h.at_,h.len,λi a t h1 h2=>s _ _ (h.each i a t h1 h2)⟩
theorem LsW.du {H0 H:Hp}{q:Addr}{as:List Addr}{ts:List (List Int)}(h:LsW H0 H q as ts):DuA H q as ts:=⟨h.at_,h.len,λi a t h1 h2=>(h.each i a t h1 h2).2.2⟩
theorem LsW.push {H0 H:Hp}{q p:Addr}{as:List Addr}{ts:List (List Int)}{t:List Int}(h:LsW H0 H q as ts)(hp:H p=some (.lst (t.map V.int)))(np:H0 p=none)(pq:p≠q):LsW H0 (upd H q (.lst (as.map V.ref ++ [V.ref p]))) q (as ++ [p]) (ts ++ [t]):=by
 refine⟨by rw[di,aK];rfl,by rw[ao,ao,h.len];rfl,λj b u h1 h2=>?_⟩
 by_cases c:j<as.length
 ·rw[aD c]at h1
  rw[aD (by rw[<-h.len];exact c)]at h2
  obtain⟨a1,a2,a3⟩:=h.each j b u h1 h2
  exact⟨a1,a2,by rw[dG a2];exact a3⟩
 ·rw[aG (by omega)]at h1
  rw[aG (by rw[<-h.len];omega),<-h.len]at h2
  cases hd:j-as.length with
  |zero=>
   rw[hd]at h1 h2
   cases h1
   cases h2
   exact⟨np,pq,by rw[dG pq];exact hp⟩
  |succ n=>rw[hd]at h1;simp at h1
def mS (K:PySem.W.Frag):Sp:=λvs H Q _=>∃ (v:V) (p:Addr) (l:Ln) (k:Nat) (as:List Addr),vs = [v,.ref p]/\Da K H (dL l) v/\fG l/\k<=5/\DuA H p as (eD l k)/\∀ q as' H',dM H H'->H q=none->LsW H H' q as' (eD l (k+1))->Q (.ref q) H'
abbrev fS:Stmt:=top 28
theorem fy:ec ["_law_line_here","_law_found","_law_told_here","_law_train","_law_end","_law_pieces"] ["_law_line_here","_law_found"] (dC fS):=⟨rfl,rfl,rfl,by decide +kernel,rfl,by decide +kernel,by decide +kernel⟩
theorem iD:eT (dC fS) ["_law_line_here","_law_found","_law_told_here","_law_train","_law_end","_law_pieces"] {kind:=.function,names:=[(Str.ofString ".0",.local),(Str.ofString "_law_end",.local)],isGenerator:=false,isCoroutine:=false,more:=[]} ["_law_end"] 1 [none]:=⟨rfl,by decide +kernel,by decide +kernel,by decide +kernel,rfl,by decide +kernel,rfl,by decide +kernel⟩
section
variable {P:Program}{w:World}{K:PySem.W.Frag}{mg:Str->Option Value}{base:Heap}{f:Addr}{fd:FuncData}
theorem mq {f1 f2:Addr}{fd1 fd2:FuncData}(F:Fn K mg "_law_grown" fS ["_law_line_here","_law_found"] f fd)(B:Bm mg)(dX:Fn K mg "_law_other" fR ["_law_end"] f1 fd1)
  (fb:Fn K mg "_law_joined" eY ["_law_line_here","_law_end"] f2 fd2):d8 P w K mg base CX0 2 f fd ["_law_line_here","_law_found"] (mS K):=by
 have iM:d8 P w K mg base CX0 1 f1 fd1 ["_law_end"] h9:=jz dX
 have mL:d8 P w K mg base CX0 1 f2 fd2 ["_law_line_here","_law_end"] (iQ K):=lr fb B.toBl
 refine F.F.ok fy (λvs H Q E h=>?_) (λcdv A outer s H vs Q E hr h=>?_)
 ·obtain⟨v,p,l,k,as,rfl,_⟩:=h;rfl
 ·obtain⟨v,p,l,kk,as,rfl,hv,G,k5,DU,k⟩:=h
  have ok:=G.jf
  have dl:=oR G (k:=kk+1) (by omega)
  refine⟨_,(dt (dO (i:=2) fy.nd rfl (Or.inl rfl) (eL dh))
 (dt (fJ bp rfl (eZ (pv 1)) (dS (i:=3) fy.nd rfl (Or.inl rfl))
 (dt (mY (i:=5) fy.nd rfl rfl (eZ (pv 3)) rfl iD (.name (by decide)) (λ_ _ _ _=>(dS (i:=0) iD.nd rfl (Or.inl rfl))) (λ_ _ _ _=>ig) (λ_ _ _ _=>(dD gf (pv 0) dq)))
 (dz (fJ bp rfl (eZ (dQ mL (hr.mono (by decide)) rfl fb.m fb.F.kp fb.b .nil ei (dg (pv 0) (dg (dQ iM (hr.mono (by decide)) rfl dX.m dX.F.kp dX.b .nil ei (dg (fC fh (pv 3) (sM pY dq) (λ_ _=>rfl)) dh)) dh)))) (dS (i:=4) fy.nd rfl (Or.inl rfl))
 (dz (fU (gR (jL hr.units) (dD gf (pv 4) dq) (pv 5) (by with_unfolding_all rfl))
 (dz (fz (ik aL bJ bI fK (pv 2) (dg (dD jM (pv 3) (eL (dg (pv 4) dh))) dh)))) eI))))))
 (dz (ef (pv 2))))),?_⟩
  refine⟨aM _,λq nq=>?_⟩
  have s1:=dj (o:=.lst []) nq
  have hq:=di (H:=H) (a:=q) (o:=.lst [])
  generalize upd H q _=H1 at s1 hq ⊢
  refine⟨_,rfl,p,rfl,⟨_,SqL.of (s1 _ _ DU.at_)⟩,gk (K:=K) (a:=p) (xs:=as.map V.ref) (λi σ G=>∃ (as':List Addr) (x3 x4 x5:Option V),σ = [some v,some (.ref p),some (.ref q),x3,x4,x5]/\dM H G/\LsW H G q as' (((eD l kk).take i).flatMap (gr l)))
   ⟨[],none,none,none,rfl,s1,⟨hq,rfl,λi b t h=>by simp at h⟩⟩ (λi σ G _ ⟨_,_,_,_,_,s,_⟩=>SqL.of (s _ _ DU.at_)) ?_ ?_⟩
  ·rintro i y σ G1 N R Bq kN _ hi ⟨as',x3,x4,x5,rfl,S,L⟩
   have il:i<as.length:=by have:=(af.mp hi).1;rwa [aa]at this
   have il2:i<(eD l kk).length:=by rw[<-DU.len];exact il
   have ha:as[i]? = some as[i]:=ae il
   have ht:(eD l kk)[i]? = some (eD l kk)[i]:=ae il2
   have hta:=S _ _ (DU.each i _ _ ha ht)
   have tok:=iz ok kk _ (aN ht)
   rw[ax,ha]at hi
   cases hi
   generalize as[i]=ta at ha hta
   generalize (eD l kk)[i]=t at ht hta tok
   obtain⟨T,tl⟩:=tok
   have tne:t≠ []:=λz=>by rw[z]at tl;cases tl
   have fp:=nu (gr l) ht
   have tk:(eD l kk).take (i+1)=(eD l kk).take i ++ [t]:=by rw[bK,ht];rfl
   refine⟨_,rfl,ta,rfl,⟨_,SqL.of hta⟩,λpc npc=>gX t (λ_=>true) (λe=>V.int (e/2)) npc (SqL.of hta) (by rw[aa]) (by rw[aa];exact fO (by omega)) ?_ ?_⟩
   ·intro j x d H' hx hd sm P1 P0 k1 k0
    rw[ax,hd]at hx
    cases hx
    refine ir ?_
    exact⟨_,rfl,_,_,rfl,rfl,⟨by decide,by decide⟩,k1 rfl⟩
   rw[lL]
   have e1:(t.map λe=>V.int (e/2))=(t.map (· / 2)).map V.int:=by rw[cm];rfl
   rw[e1]
   have s2:=dj (o:=.lst ((t.map (· / 2)).map V.int)) npc
   have qpc:q≠pc:=dF L.at_ npc
   have qta:ta≠q:=λz=>by rw[z]at ha;have:=DU.each i q t ha ht;rw[nq]at this;cases this
   have hpc:=di (H:=G1) (a:=pc) (o:=.lst ((t.map (· / 2)).map V.int))
   have hta:=s2 _ _ hta
   have L:=L.same s2
   have S:=S.trans s2
   generalize upd G1 pc _=G2 at s2 hpc hta L S ⊢
   dsimp only[hU]
   refine⟨_,rfl,_,rfl,_,rfl,ta,_,_,_,rfl,rfl,SqL.of hta,oW tne,_,rfl,_,l,_,rfl,Da.same S hv,ok,λpj G3 s3 npj hpj=>?_⟩
   have qpj:q≠pj:=dF L.at_ npj
   have jl:=qQ ok (oth (t.getLastD 0))
   have L:=L.same s3
   have S:=S.trans s3
   have hta:=s3 _ _ hta
   have hpc:=s3 _ _ hpc
   refine⟨pj,rfl,⟨_,SqL.of hpj⟩,gk (K:=K) (a:=pj) (xs:=(jn l.2 (oth (t.getLastD 0))).map V.int) (λj σ G=>∃ (as':List Addr) (x4:Option V),σ = [some v,some (.ref p),some (.ref q),some (.ref ta),x4,some (.ref pc)]/\dM H G/\G pj=some (.lst ((jn l.2 (oth (t.getLastD 0))).map V.int))/\G ta=some (.lst (t.map V.int))/\G pc=some (.lst ((t.map (· / 2)).map V.int))/\LsW H G q as' (((eD l kk).take i).flatMap (gr l)++(((jn l.2 (oth (t.getLastD 0))).take j).filter λe=> !decide (e/2∈t.map (· / 2))).map λe=>t ++ [e]))
    ⟨as',x4,rfl,S,hpj,hta,hpc,by simpa using L⟩ (λj σ G _ ⟨_,_,_,_,h,_⟩=>SqL.of h) ?_ ?_⟩
   ·rintro j y σ G4 N2 R2 B2 kN2 _ hj ⟨as',x4,rfl,S,hpj,hta,hpc,L⟩
    rw[ax]at hj
    cases q1:(jn l.2 (oth (t.getLastD 0)))[j]? with
    |none=>rw[q1]at hj;cases hj
    |some e=>
     rw[q1]at hj
     cases hj
     have tk2:(jn l.2 (oth (t.getLastD 0))).take (j+1)=(jn l.2 (oth (t.getLastD 0))).take j ++ [e]:=by rw[bK,q1];rfl
     refine⟨_,rfl,_,_,rfl,rfl,⟨by decide,by decide⟩,_,rfl,_,.int (e/2),mD hpc,fX.mpr rfl,qw _,oP _,_,rfl,?_⟩
     rw[sX]
     have stp:((jn l.2 (oth (t.getLastD 0))).take (j+1)).filter (λe=> !decide (e/2∈t.map (· / 2)))=((jn l.2 (oth (t.getLastD 0))).take j).filter (λe=> !decide (e/2∈t.map (· / 2)))++(if(!decide (e/2∈t.map (· / 2)))=true then[e]else[]):=by
      rw[tk2,List.filter_append]
      congr 1
      rw[cF];rfl
     refine fD (λh=>?_) (λh=>?_)
     ·have h:(!decide (e/2∈t.map (· / 2)))=true:=h
      rw[aC h]at stp
      refine⟨_,rfl,.inl ⟨rfl,_,SqL.of L.at_⟩,_,rfl,_,rfl,by show 1<=sizeLine;decide,λp1 np1=>?_⟩
      have s5:=dj (o:=.lst [V.int e]) np1
      refine⟨ta,p1,_,_,rfl,rfl,s5 _ _ hta,di,bZ (fO (by rw[aa];show t.length+1<=1000;omega)),λp2 np2=>?_⟩
      have s6:=s5.trans (dj (o:=.lst (t.map V.int ++ [V.int e])) np2)
      have hp2:=di (H:=upd G4 p1 (.lst [V.int e])) (a:=p2) (o:=.lst (t.map V.int ++ [V.int e]))
      have vi:G4 p2=none:=dM.free s5 np2
      generalize upd (upd G4 p1 _) p2 _=G5 at s6 hp2 ⊢
      have L6:=L.same s6
      have p2q:p2≠q:=(dF L.at_ vi).symm
      have cl:as'.length+1<=(eD l (kk+1)).length:=by
       have h1:as'.length=_:=L.len
       have h2:((((jn l.2 (oth (t.getLastD 0))).take (j+1)).filter λe=> !decide (e/2∈t.map (· / 2))).map λe=>t ++ [e]).length<=(gr l t).length:=by
        unfold gr fr
        rw[aa,aa]
        exact((List.take_sublist (j+1) _).filter _).length_le
       rw[stp,aK,ao]at h2
       have h2:_+1<=(gr l t).length:=h2
       rw[h1,ao]
       show _<=((eD l kk).flatMap (gr l)).length
       omega
      refine⟨q,_,_,rfl,rfl,L6.at_,v3 (by rw[aa];omega),?_⟩
      refine kN2 _ _ ⟨as' ++ [p2],_,rfl,dM.upd (S.trans s6) nq,by rw[dG (cH qpj)];exact s6 _ _ hpj,by rw[dG qta];exact s6 _ _ hta,by rw[dG (cH qpc)];exact s6 _ _ hpc,?_⟩
      rw[stp,aK,<-aH]
      exact L6.push (t:=t ++ [e]) (by rw[aK];exact hp2) (dM.free S vi) p2q
     ·have h:¬(!decide (e/2∈t.map (· / 2)))=true:=h
      rw[az h,cM]at stp
      exact kN2 _ _ ⟨as',_,rfl,S,hpj,hta,hpc,by rw[stp];exact L⟩
   ·rintro σ G4 ⟨as',x4,rfl,S,hpj,hta,hpc,L⟩
    rw[aa,bV]at L
    refine kN _ _ ⟨as',_,_,_,rfl,S,?_⟩
    rw[tk,cO,List.flatMap_singleton]
    exact L
  ·rintro σ G1 ⟨as',x3,x4,x5,rfl,S,L⟩
   rw[aa,DU.len,bV]at L
   exact⟨_,rfl,k q as' G1 S nq L⟩
end
def words:List Str:=["line","train","move","piece","many","text","row"]
def oA (cs:List Addr):Sp:=λvs H Q _=>∃ (e c:Addr) (j:Nat) (x:Str),vs = [.ref e]/\H e=some (og e c)/\cs[j]? = some c/\words[j]? = some x/\∀ H',dM H H'->Q (.str x) H'
def oy (K:PySem.W.Frag):Sp:=λvs H Q _=>∃ (v:V) (l:Ln) (n:Nat),vs = [v,.int (n:Int)]/\Da K H (dL l) v/\fc l/\1<=n/\n<=6/\
 ((eD l (n-1)).length<=300->∀ p as H',dM H H'->H p=none->LsW H H' p as (eD l (n-1))->Q (.ref p) H')/\
 (300<(eD l (n-1)).length->∀ H',dM H H'->Q (.str "many") H')
abbrev gQ:Stmt:=top 27
theorem ic:ec ["_law_kept_here","_law_found"] ["_law_kept_here"] (dC gQ):=⟨rfl,rfl,rfl,by decide +kernel,rfl,by decide +kernel,by decide +kernel⟩
abbrev gO:Stmt:=top 29
theorem fk:ec ["_law_line_here","_law_length","_law_kept_here","_law_found","e"] ["_law_line_here","_law_length"] (dC gO):=⟨rfl,rfl,rfl,by decide +kernel,rfl,by decide +kernel,by decide +kernel⟩
section
variable {P:Program}{w:World}{K:PySem.W.Frag}{mg:Str->Option Value}{base:Heap}{f:Addr}{fd:FuncData}{D c1 c2 c3 c4 c5 c6 c7:Addr}
theorem ur (XS:Xs K mg D c1 c2 c3 c4 c5 c6 c7):∀ c∈ [c1,c2,c3,c4,c5,c6,c7],ExC K c:=λc hc=>by
 simp only[aJ,de,or_false]at hc
 rcases hc with rfl |rfl |rfl |rfl |rfl |rfl |rfl
 ·exact XS.rD.e
 ·exact XS.oZ.e
 ·exact XS.rC.e
 ·exact XS.o3.e
 ·exact XS.i6.e
 ·exact XS.rB.e
 ·exact XS.sY.e
theorem bits {cs:List Addr}(nd:cs.Nodup){c:Addr}{j:Nat}(hj:cs[j]? = some c):cs.map (λd=>decide (c=d))=(List.range cs.length).map λi=>decide (i=j):=by
 refine List.ext_getElem? λi=>?_
 rw[ax,ax]
 by_cases hi:i<cs.length
 ·rw[List.getElem?_range hi,ae hi]
  obtain⟨hl,e⟩:=af.mp hj
  show some (decide (c=cs[i]))=some (decide (i=j))
  congr 1
  by_cases h:i=j
  ·subst h;simp[e]
  ·have:c≠cs[i]:=λz=>h ((List.getElem_inj nd).mp (z.symm.trans e.symm))
   simp[h,this]
 ·rw[List.getElem?_eq_none (by omega),List.getElem?_eq_none (by simpa using hi)];rfl
theorem bit_count:∀ j,j<7->((List.range 7).map λi=>decide (i=j)).count true=1:=by decide
theorem uy:∀ j,j<7->((List.range 7).map λi=>decide (i=j))[j]? = some true:=by decide
theorem ux:∀ j,j<7->∀ m,m<j->((List.range 7).map λi=>decide (i=j))[m]? = some false:=by decide
theorem ni (F:Fn K mg "_law_kept" gQ ["_law_kept_here"] f fd)(XS:Xs K mg D c1 c2 c3 c4 c5 c6 c7)(B:Bl mg):d8 P w K mg base CX0 1 f fd ["_law_kept_here"] (oA [c1,c2,c3,c4,c5,c6,c7]):=by
 refine F.F.ok ic (λvs H Q E h=>?_) (λcdv A outer s H vs Q E hr h=>?_)
 ·obtain⟨e,c,j,x,rfl,_⟩:=h;rfl
 ·obtain⟨e,c,j,x,rfl,he,hc,hx,q⟩:=h
  have hm:c∈ [c1,c2,c3,c4,c5,c6,c7]:=aN hc
  have hj:j<7:=(af.mp hc).1
  have hE:=ur XS c hm
  have k1:=XS.eq c hm
  have hb:=bits XS.nd hc
  refine⟨_,(dt (fU (qk (qi (dN eF rfl B.isinstance bQ (dg (pv 0) (dg (oJ (v:=.ty "ValueError") rfl XS.VE kf rfl) dh)))))
 (dz (ef gE)) eI)
 (dt (dO (i:=1) ic.nd rfl (Or.inl rfl) (eL (dg (dN eF rfl B.isinstance bQ (dg (pv 0) (dg (gB (v:=.ref _) rfl XS.rD.m rfl) dh))) (dg (dN eF rfl B.isinstance bQ (dg (pv 0) (dg (gB (v:=.ref _) rfl XS.oZ.m rfl) dh))) (dg (dN eF rfl B.isinstance bQ (dg (pv 0) (dg (gB (v:=.ref _) rfl XS.rC.m rfl) dh))) (dg (dN eF rfl B.isinstance bQ (dg (pv 0) (dg (gB (v:=.ref _) rfl XS.o3.m rfl) dh))) dh))))))
 (dt (dO (i:=1) ic.nd rfl (Or.inl rfl) (dD jM (pv 1) (eL (dg (dN eF rfl B.isinstance bQ (dg (pv 0) (dg (gB (v:=.ref _) rfl XS.i6.m rfl) dh))) (dg (dN eF rfl B.isinstance bQ (dg (pv 0) (dg (gB (v:=.ref _) rfl XS.rB.m rfl) dh))) (dg (dN eF rfl B.isinstance bQ (dg (pv 0) (dg (gB (v:=.ref _) rfl XS.sY.m rfl) dh))) dh))))))
 (dt (fU (gR vc (ik aL PySem.F.slot_list_count PySem.F.type_list_count qH (pv 1) (dg m7 dh)) dq (kG _))
 (dz (ef gE)) eI)
 (dz (ef (fC fh (eL (dg gE (dg gE (dg gE (dg gE (dg gE (dg gE (dg gE dh)))))))) (ik aL PySem.F.slot_list_index PySem.F.type_list_index qG (pv 1) (dg m7 dh)) (λ_ _=>rfl)))))))),?_⟩
  refine⟨_,rfl,e,c,_,_,true,rfl,he,hE,rfl,λ_ h=>h,XS.val c hm,_,rfl,?_⟩
  refine qS ?_
  refine⟨_,rfl,e,c,_,_,_,rfl,he,hE,rfl,λ_ h=>h,k1 c1 (by simp),_,rfl,e,c,_,_,_,rfl,he,hE,rfl,λ_ h=>h,k1 c2 (by simp),_,rfl,e,c,_,_,_,rfl,he,hE,rfl,λ_ h=>h,k1 c3 (by simp),
   _,rfl,e,c,_,_,_,rfl,he,hE,rfl,λ_ h=>h,k1 c4 (by simp),by show 4<=sizeLine;decide,λp1 n1=>?_⟩
  have s1:=dj (o:=.lst [.bl (decide (c=c1)),.bl (decide (c=c2)),.bl (decide (c=c3)),.bl (decide (c=c4))]) n1
  refine⟨_,rfl,_,rfl,e,c,_,_,_,rfl,s1 _ _ he,hE,rfl,λ_ h=>h,k1 c5 (by simp),_,rfl,e,c,_,_,_,rfl,s1 _ _ he,hE,rfl,λ_ h=>h,k1 c6 (by simp),_,rfl,e,c,_,_,_,rfl,s1 _ _ he,hE,rfl,λ_ h=>h,k1 c7 (by simp),
   by show 3<=sizeLine;decide,λp2 n2=>?_⟩
  have s2:=dj (o:=.lst [.bl (decide (c=c5)),.bl (decide (c=c6)),.bl (decide (c=c7))]) n2
  refine⟨p1,p2,_,_,rfl,rfl,s2 _ _ di,di,by show 7<=sizeLine;decide,λp3 n3=>?_⟩
  have S12:=s1.trans s2
  generalize upd (upd H p1 _) p2 _=G at n3 S12 ⊢
  have s3:=dj (o:=.lst (([c1,c2,c3,c4,c5,c6,c7].map λd=>decide (c=d)).map V.bl)) n3
  have hp3:upd G p3 (.lst (([c1,c2,c3,c4,c5,c6,c7].map λd=>decide (c=d)).map V.bl)) p3=some (.lst (((List.range 7).map λi=>decide (i=j)).map V.bl)):=by
   rw[di,hb];rfl
  have S:=S12.trans s3
  refine⟨_,rfl,.inl ⟨rfl,_,SqL.of hp3⟩,p3,_,true,rfl,rfl,hp3,rfl,_,rfl,fD (λz=>?_) (λ_=>?_)⟩
  ·have ye:=bit_count j hj
   exact absurd z (by
    show ¬((!decide (V.int (((((List.range 7).map λi=>decide (i=j)).count true:Nat)):Int)=V.int 1))=true)
    rw[ye];simp)
  refine⟨by show 7<=sizeLine;decide,λp4 n4=>?_⟩
  have s4:=dj (o:=.lst [.str "line",.str "train",.str "move",.str "piece",.str "many",.str "text",.str "row"]) n4
  refine⟨_,rfl,.inl ⟨rfl,_,SqL.of (s4 _ _ hp3)⟩,p3,_,true,j,rfl,rfl,s4 _ _ hp3,uy j hj,ux j hj,?_⟩
  refine⟨p4,_,_,_,rfl,rfl,SqL.of di,?_,q _ (S.trans s4)⟩
  have e:[V.str "line",.str "train",.str "move",.str "piece",.str "many",.str "text",.str "row"][j]? = some (V.str x):=by
   have e:[V.str "line",.str "train",.str "move",.str "piece",.str "many",.str "text",.str "row"]=words.map V.str:=rfl
   rw[e,ax,hx];rfl
  exact iZ e
theorem ng {f1 f2:Addr}{fd1 fd2:FuncData}(F:Fn K mg "_law_told" gO ["_law_line_here","_law_length"] f fd)(XS:Xs K mg D c1 c2 c3 c4 c5 c6 c7)(B:Bm mg)(fq:Fn K mg "trains_of" fm ["line","length"] f1 fd1)(iK:d8 P w K mg base (CXr P w base) 3 f1 fd1 ["line","length"] (lC K c5))
  (fN:Fn K mg "_law_kept" gQ ["_law_kept_here"] f2 fd2):d8 P w K mg base CX0 4 f fd ["_law_line_here","_law_length"] (oy K):=by
 have oq:d8 P w K mg base CX0 1 f2 fd2 ["_law_kept_here"] (oA [c1,c2,c3,c4,c5,c6,c7]):=ni fN XS B.toBl
 refine F.F.ok fk (λvs H Q E h=>?_) (λcdv A outer s H vs Q E hr h=>?_)
 ·obtain⟨v,l,n,rfl,_⟩:=h;rfl
 ·obtain⟨v,l,n,rfl,hv,ok,n1,n6,k1,k2⟩:=h
  refine⟨_,(dt (dO (i:=2) fk.nd rfl (Or.inl rfl) qo)
 (dt (dO (i:=3) fk.nd rfl (Or.inl rfl) qo)
 (dt (tK (j:=4) rfl rfl rfl fk.nd rfl rfl rfl XS.pT.m (λpn W E hW=>(dz (dO (i:=3) fk.nd rfl (Or.inl rfl) (qq iK (hr.mono (by decide)) rfl fq.m fq.F.kp fq.b .nil hW (dg (pv 0) (dg (pv 1) dh)))))) (λe=>(dz (dO (i:=2) fk.nd rfl (Or.inl rfl) (pv 4)))))
 (dt (fU (eS (rV (pv 2)))
 (dz (ef (dQ oq (hr.mono (by decide)) rfl fN.m fN.F.kp fN.b .nil ei (dg (pv 2) dh)))) eI)
 (dz (ef (pv 3))))))),?_⟩
  refine⟨_,rfl,_,rfl,_,l,n,rfl,hv,ok,n1,n6,λh3 p as H' s' np L=>?_,λh3 H' s' e he=>?_⟩
  ·exact⟨_,rfl,_,rfl,qS ⟨_,rfl,k1 h3 p as H' s' np L⟩⟩
  ·refine⟨e,c5,rfl,rfl,XS.cat c5 (by simp),?_⟩
   refine⟨_,rfl,?_⟩
   refine⟨_,rfl,_,rfl,vA ?_⟩
   exact⟨_,rfl,e,c5,4,_,rfl,di,rfl,rfl,λH2 s2=>k2 h3 H2 (s'.trans ((dj he).trans s2))⟩
end
def lY (K:PySem.W.Frag):Sp:=λvs H Q _=>∃ (a:Addr) (ns:List Int),vs = [.ref a]/\SqL K H a (ns.map V.int)/\∀ H',Q (.bl true) H'
theorem jD {K:PySem.W.Frag}{H:Hp} :∀ {as:List Addr}{ts:List (List Int)},as.length=ts.length->(∀ (i:Nat) a t,as[i]? = some a->ts[i]? = some t->H a=some (.lst (t.map V.int)))->Das K H (ts.map dI) (as.map V.ref)
 |[],[],_,_=>eJ.mpr rfl
 |a::as,t::ts,hl,h=>dZ.mpr ⟨_,_,rfl,mD (h 0 a t rfl rfl),jD (by simpa using hl) λi b u h1 h2=>h (i+1) b u h1 h2⟩
 |[],_::_,hl,_=>by simp at hl
 |_::_,[],hl,_=>by simp at hl
theorem DuA.da {K:PySem.W.Frag}{H:Hp}{q:Addr}{as:List Addr}{ts:List (List Int)}(h:DuA H q as ts):Da K H (dLI ts) (.ref q):=gg.mpr ⟨q,_,rfl,SqL.of h.at_,jD h.len h.each⟩
theorem oT {K:PySem.W.Frag}{H:Hp} :∀ {Z:List (V×List Int)},(∀ z∈Z,Da K H (dI z.2) z.1)->Das K H ((Z.map (·.2)).map dI) (Z.map (·.1))
 |[],_=>eJ.mpr rfl
 |z::Z,h=>dZ.mpr ⟨_,_,rfl,h z aB,oT λy hy=>h y (ay _ hy)⟩
theorem sZ {K:PySem.W.Frag}{H:Hp}{vs:List V}{ts:List (List Int)}(D:Das K H (ts.map dI) vs):∀ z∈vs.zip ts,Da K H (dI z.2) z.1:=λz hz=>by
 obtain⟨i,hi,e⟩:=br.mp hz
 rw[bL]at hi
 rw[cE]at e
 obtain⟨d,h1,h2⟩:=Dgs.get D (i:=i) (v:=z.1) (by rw[<-e];exact ae (by omega))
 rw[ax,ae (by omega)]at h1
 have h1:dI ts[i]=d:=by simpa using h1
 rw[<-h1]at h2
 rw[<-e]at h2 ⊢
 exact h2
theorem oD {K:PySem.W.Frag}{H:Hp}{q:Addr}{vs:List V}{ts:List (List Int)}{Z:List (V×List Int)}(D:Das K H (ts.map dI) vs)(hl:vs.length=ts.length)(nq:H q=none)(zp:Z.Perm (vs.zip ts))(zs:(Z.map (·.2)).Pairwise (λa b=>eH b a=false))(ss:ts.Pairwise (λa b=>eH a b=true)):
  Da K (upd H q (.lst (Z.map (·.1)))) (dLI ts) (.ref q):=by
 have pe:(Z.map (·.2)).Perm ts:=by
  have:=zp.map (·.2)
  rwa [List.map_snd_zip (by omega)]at this
 have e:=jw pe zs (cf (λ{a b} h=>nW h) ss)
 have d:=oT (K:=K) (H:=H) (Z:=Z) λz hz=>sZ D z (zp.mem_iff.mp hz)
 rw[e]at d
 exact gg.mpr ⟨q,_,rfl,SqL.of di,Das.same (dj nq) d⟩
theorem qd:fG ([1,2,3,1,5].sum,mU (ip 0 [1,2,3,1,5])):=⟨by decide,by decide,by decide +kernel,by unfold okJ;decide +kernel,by decide +kernel⟩
theorem qc:fG ([1,1,2,1,3,1,5].sum,mU (ip 0 [1,1,2,1,3,1,5])):=⟨by decide,by decide,by decide +kernel,by unfold okJ;decide +kernel,by decide +kernel⟩
theorem qv:fc (1,[]):=⟨by decide,by decide,by decide,λe=>aM _,λp hp=>by cases hp⟩
theorem oO:(eD (1,[]) (1-1)).length<=300:=by decide +kernel
theorem qy {x:Str}(h:PyData.strOk x=true):OkD (.str x):=⟨h,by simp[PyData.depth]⟩
abbrev kx:Stmt:=top 30
theorem gq:ec ["_law_script","_law_line_here","_law_number","_law_rungs_here","_law_handed","_law_due","_law_length","_law_found","_law_train"] ["_law_script"] (dC kx):=⟨rfl,rfl,rfl,by decide +kernel,rfl,by decide +kernel,by decide +kernel⟩
theorem nE:eT (dC kx) ["_law_script","_law_line_here","_law_number","_law_rungs_here","_law_handed","_law_due","_law_length","_law_found","_law_train"] {kind:=.function,names:=[(Str.ofString ".0",.local),(Str.ofString "_law_end",.local)],isGenerator:=false,isCoroutine:=false,more:=[]} ["_law_end"] 1 [none]:=⟨rfl,by decide +kernel,by decide +kernel,by decide +kernel,rfl,by decide +kernel,rfl,by decide +kernel⟩
section
variable {P:Program}{w:World}{K:PySem.W.Frag}{mg:Str->Option Value}{base:Heap}{f:Addr}{fd:FuncData}
set_option maxHeartbeats 16000000 in
theorem tS {f1 f2 f3 f4 f5 f6 f7:Addr}{fd1 fd2 fd3 fd4 fd5 fd6 fd7:FuncData}(F:Fn K mg "law" kx ["_law_script"] f fd)(B:Bm mg)
  (fM:Fn K mg "_law_line" gP ["_law_script"] f1 fd1) (jo:d8 P w K mg base CX0 3 f1 fd1 ["_law_script"] (oz K))
  (dE:Fn K mg "_law_cell_at" fg ["_law_script","_law_k"] f2 fd2) (dw:Fn K mg "_law_mix" gi ["_law_cell","_law_k"] f3 fd3)
  (fu:Fn K mg "_law_rungs" gz ["_law_rungs_here"] f4 fd4) (iL:d8 P w K mg base CX0 1 f4 fd4 ["_law_rungs_here"] (mR K))
  (dU:Fn K mg "_law_renamed" fe ["_law_line_here","_law_cell"] f5 fd5) (eQ:d8 P w K mg base CX0 2 f5 fd5 ["_law_line_here","_law_cell"] (jc K))
  (eg:Fn K mg "_law_told" gO ["_law_line_here","_law_length"] f6 fd6) (gu:d8 P w K mg base CX0 4 f6 fd6 ["_law_line_here","_law_length"] (oy K))
  (fv:Fn K mg "_law_grown" fS ["_law_line_here","_law_found"] f7 fd7) (iN:d8 P w K mg base CX0 2 f7 fd7 ["_law_line_here","_law_found"] (mS K)):
  d8 P w K mg base CX0 5 f fd ["_law_script"] (lY K):=by
 have eB:d8 P w K mg base CX0 1 f3 fd3 ["_law_cell","_law_k"] lX:=je dw B.toBl
 have eR:d8 P w K mg base CX0 1 f2 fd2 ["_law_script","_law_k"] (lZ K):=iq dE B.toBl
 refine F.F.ok gq (λvs H Q E h=>?_) (λcdv A outer s H vs Q E hr h=>?_)
 ·obtain⟨a,ns,rfl,_⟩:=h;rfl
 ·obtain⟨a,ns,rfl,hS,k⟩:=h
  refine⟨_,(@dt _ _ _ _ _ (@dO _ _ (1) _ _ _ _ gq.nd rfl (Or.inl rfl) (@dQ _ _ _ _ _ _ _ _ _ _ _ _ _ _ _ _ jo (hr.mono (by decide)) rfl fM.m fM.F.kp fM.b .nil (@ei _) (@dg _ _ _ _ _ (@pv _ 0 _ _ (by rfl) (by first |exact Or.inl rfl |exact Or.inr (Or.inl rfl)|exact Or.inr (Or.inr rfl)) (by decide) (by decide)) (@dh _) (by rfl)) (by decide) (by rfl) (by rfl)) (by rfl) (by first |exact .inl rfl |exact .inr rfl |assumption)) (@dt _ _ _ _ _ (@dO _ _ (2) _ _ _ _ gq.nd rfl (Or.inl rfl) (@dQ _ _ _ _ _ _ _ _ _ _ _ _ _ _ _ _ eB (hr.mono (by decide)) rfl dw.m dw.F.kp dw.b .nil (@ei _) (@dg _ _ _ _ _ (@dQ _ _ _ _ _ _ _ _ _ _ _ _ _ _ _ _ eR (hr.mono (by decide)) rfl dE.m dE.F.kp dE.b .nil (@ei _) (@dg _ _ _ _ _ (@pv _ 0 _ _ (by rfl) (by first |exact Or.inl rfl |exact Or.inr (Or.inl rfl)|exact Or.inr (Or.inr rfl)) (by decide) (by decide)) (@dg _ _ _ _ _ (@dq _ _ _ _) (@dh _) (by rfl)) (by rfl)) (by decide) (by rfl) (by rfl)) (@dg _ _ _ _ _ (@dq _ _ _ _) (@dh _) (by rfl)) (by rfl)) (by decide) (by rfl) (by rfl)) (by rfl) (by first |exact .inl rfl |exact .inr rfl |assumption)) (@dt _ _ _ _ _ (@fU _ _ _ _ _ _ _ _ (eS (@oK _ _ _ _ _ (@dD _ _ _ _ _ _ _ _ (@eA _) (@pv _ 2 _ _ (by rfl) (by first |exact Or.inl rfl |exact Or.inr (Or.inl rfl)|exact Or.inr (Or.inr rfl)) (by decide) (by decide)) (@dq _ _ _ _)) (@dq _ _ _ _))) (@dt _ _ _ _ _ (@dO _ _ (3) _ _ _ _ gq.nd rfl (Or.inl rfl) (@fC _ _ _ _ _ _ _ (@fh _) (@eL _ _ _ _ (@dg _ _ _ _ _ (@eL _ _ _ _ (@dg _ _ _ _ _ (@dq _ _ _ _) (@dg _ _ _ _ _ (@dq _ _ _ _) (@dg _ _ _ _ _ (@dq _ _ _ _) (@dg _ _ _ _ _ (@dq _ _ _ _) (@dg _ _ _ _ _ (@dq _ _ _ _) (@dh _) (by rfl)) (by rfl)) (by rfl)) (by rfl)) (by rfl))) (@dg _ _ _ _ _ (@eL _ _ _ _ (@dg _ _ _ _ _ (@dq _ _ _ _) (@dg _ _ _ _ _ (@dq _ _ _ _) (@dg _ _ _ _ _ (@dq _ _ _ _) (@dg _ _ _ _ _ (@dq _ _ _ _) (@dg _ _ _ _ _ (@dq _ _ _ _) (@dg _ _ _ _ _ (@dq _ _ _ _) (@dg _ _ _ _ _ (@dq _ _ _ _) (@dh _) (by rfl)) (by rfl)) (by rfl)) (by rfl)) (by rfl)) (by rfl)) (by rfl))) (@dh _) (by rfl)) (by rfl))) (@dD _ _ _ _ _ _ _ _ (@eA _) (@pv _ 2 _ _ (by rfl) (by first |exact Or.inl rfl |exact Or.inr (Or.inl rfl)|exact Or.inr (Or.inr rfl)) (by decide) (by decide)) (@dq _ _ _ _)) (λ_ _=>rfl)) (by rfl) (by first |exact .inl rfl |exact .inr rfl |assumption)) (@dz _ _ _ (@dO _ _ (1) _ _ _ _ gq.nd rfl (Or.inl rfl) (@dQ _ _ _ _ _ _ _ _ _ _ _ _ _ _ _ _ eQ (hr.mono (by decide)) rfl dU.m dU.F.kp dU.b .nil (@ei _) (@dg _ _ _ _ _ (@dQ _ _ _ _ _ _ _ _ _ _ _ _ _ _ _ _ iL (hr.mono (by decide)) rfl fu.m fu.F.kp fu.b .nil (@ei _) (@dg _ _ _ _ _ (@pv _ 3 _ _ (by rfl) (by first |exact Or.inl rfl |exact Or.inr (Or.inl rfl)|exact Or.inr (Or.inr rfl)) (by decide) (by decide)) (@dh _) (by rfl)) (by decide) (by rfl) (by rfl)) (@dg _ _ _ _ _ (@dQ _ _ _ _ _ _ _ _ _ _ _ _ _ _ _ _ eR (hr.mono (by decide)) rfl dE.m dE.F.kp dE.b .nil (@ei _) (@dg _ _ _ _ _ (@pv _ 0 _ _ (by rfl) (by first |exact Or.inl rfl |exact Or.inr (Or.inl rfl)|exact Or.inr (Or.inr rfl)) (by decide) (by decide)) (@dg _ _ _ _ _ (@dq _ _ _ _) (@dh _) (by rfl)) (by rfl)) (by decide) (by rfl) (by rfl)) (@dh _) (by rfl)) (by rfl)) (by decide) (by rfl) (by rfl)) (by rfl) (by first |exact .inl rfl |exact .inr rfl |assumption)))) (@eI _)) (@dt _ _ _ _ _ (@dO _ _ (4) _ _ _ _ gq.nd rfl (Or.inl rfl) (@gS _ _ _ _ _ (@dg _ _ _ _ _ (@fC _ _ _ _ _ _ _ (@jh _) (@pv _ 1 _ _ (by rfl) (by first |exact Or.inl rfl |exact Or.inr (Or.inl rfl)|exact Or.inr (Or.inr rfl)) (by decide) (by decide)) (@dq _ _ _ _) (λ_ _=>rfl)) (@dg _ _ _ _ _ (@iT _ _ _ _ _ _ _ _ _ (@mG _) rfl B.list boot_list (@dg _ _ _ _ _ (@fC _ _ _ _ _ _ _ (@jh _) (@pv _ 1 _ _ (by rfl) (by first |exact Or.inl rfl |exact Or.inr (Or.inl rfl)|exact Or.inr (Or.inr rfl)) (by decide) (by decide)) (@dq _ _ _ _) (λ_ _=>rfl)) (@dh _) (by rfl)) (by decide) (by decide) (by rfl) (by rfl)) (@dh _) (by rfl)) (by rfl))) (by rfl) (by first |exact .inl rfl |exact .inr rfl |assumption)) (@dt _ _ _ _ _ (@mY _ _ _ _ _ _ _ _ _ _ _ _ _ _ (5) _ _ _ gq.nd rfl rfl (@gI _ _ _ _ _ _ rfl B.range (@dg _ _ _ _ _ (@dD _ _ _ _ _ _ _ _ (@eV _) (@dq _ _ _ _) (@fC _ _ _ _ _ _ _ (@jh _) (@pv _ 1 _ _ (by rfl) (by first |exact Or.inl rfl |exact Or.inr (Or.inl rfl)|exact Or.inr (Or.inr rfl)) (by decide) (by decide)) (@dq _ _ _ _) (λ_ _=>rfl))) (@dh _) (by rfl)) (by rfl)) rfl nE (.name (by decide)) (λ_ _ _ _=>(@dS _ _ (0) _ nE.nd rfl (Or.inl rfl) (by first |exact .inl rfl |exact .inr rfl |assumption))) (λ_ _ _ _=>@ig _) (λ_ _ _ _=>(@eL _ _ _ _ (@dg _ _ _ _ _ (@pv _ 0 _ _ (by rfl) (by first |exact Or.inl rfl |exact Or.inr (Or.inl rfl)|exact Or.inr (Or.inr rfl)) (by decide) (by decide)) (@dh _) (by rfl)))) (by rfl) (by intros;rfl)) (@dt _ _ _ _ _ (@fJ _ _ _ _ _ _ _ _ bp rfl (@pD _ _ _ _ _ _ _ rfl B.range (@dg _ _ _ _ _ (@dq _ _ _ _) (@dg _ _ _ _ _ (@dq _ _ _ _) (@dh _) (by rfl)) (by rfl)) (by rfl) (by rfl)) (@dS _ _ (6) _ gq.nd rfl (Or.inl rfl) (by first |exact .inl rfl |exact .inr rfl |assumption)) (@dt _ _ _ _ _ (@dO _ _ (7) _ _ _ _ gq.nd rfl (Or.inl rfl) (@dQ _ _ _ _ _ _ _ _ _ _ _ _ _ _ _ _ gu (hr.mono (by decide)) rfl eg.m eg.F.kp eg.b .nil (@ei _) (@dg _ _ _ _ _ (@pv _ 4 _ _ (by rfl) (by first |exact Or.inl rfl |exact Or.inr (Or.inl rfl)|exact Or.inr (Or.inr rfl)) (by decide) (by decide)) (@dg _ _ _ _ _ (@pv _ 6 _ _ (by rfl) (by first |exact Or.inl rfl |exact Or.inr (Or.inl rfl)|exact Or.inr (Or.inr rfl)) (by decide) (by decide)) (@dh _) (by rfl)) (by rfl)) (by decide) (by rfl) (by rfl)) (by rfl) (by first |exact .inl rfl |exact .inr rfl |assumption)) (@dt _ _ _ _ _ (@fz _ _ _ _ (@dQ _ _ _ _ _ _ _ _ _ _ _ _ _ _ _ _ gu (hr.mono (by decide)) rfl eg.m eg.F.kp eg.b .nil (@ei _) (@dg _ _ _ _ _ (@gS _ _ _ _ _ (@dg _ _ _ _ _ (@dq _ _ _ _) (@dg _ _ _ _ _ (@eL _ _ _ _ (@dh _)) (@dh _) (by rfl)) (by rfl))) (@dg _ _ _ _ _ (@dq _ _ _ _) (@dh _) (by rfl)) (by rfl)) (by decide) (by rfl) (by rfl)) (by rfl)) (@dt _ _ _ _ _ (@fU _ _ _ _ _ _ _ _ (PW.pt (@mh _ _ _ _ _ _ _ (eS (@uZ _ _ _ _ _ (@dN _ _ _ _ _ _ _ _ _ (@eE _) rfl B.len boot_len (@dg _ _ _ _ _ (@pv _ 5 _ _ (by rfl) (by first |exact Or.inl rfl |exact Or.inr (Or.inl rfl)|exact Or.inr (Or.inr rfl)) (by decide) (by decide)) (@dh _) (by rfl)) (by decide) (by decide) (by rfl) (by rfl)) (@dq _ _ _ _))) (@mf _ _ _ _ (@gR _ _ _ _ _ _ _ _ (@nQ _ hr.units) (@pv _ 7 _ _ (by rfl) (by first |exact Or.inl rfl |exact Or.inr (Or.inl rfl)|exact Or.inr (Or.inr rfl)) (by decide) (by decide)) (@gE _ _ _ _) (@kG _ _ (by decide) (by decide)))))) (@dz _ _ _ (@ef _ _ _ _ (@m7 _ _ _ _))) (@eI _)) (@dt _ _ _ _ _ (@fU _ _ _ _ _ _ _ _ (eS (@uY _ _ _ _ _ (@dN _ _ _ _ _ _ _ _ _ (@eE _) rfl B.len boot_len (@dg _ _ _ _ _ (@pv _ 5 _ _ (by rfl) (by first |exact Or.inl rfl |exact Or.inr (Or.inl rfl)|exact Or.inr (Or.inr rfl)) (by decide) (by decide)) (@dh _) (by rfl)) (by decide) (by decide) (by rfl) (by rfl)) (@dq _ _ _ _))) (@dt _ _ _ _ _ (@fU _ _ _ _ _ _ _ _ (PW.pt (@uV _ _ _ _ _ _ _ (@qk _ _ _ _ (@qi _ _ _ (@dN _ _ _ _ _ _ _ _ _ (@mH _) rfl B.isinstance bQ (@dg _ _ _ _ _ (@pv _ 7 _ _ (by rfl) (by first |exact Or.inl rfl |exact Or.inr (Or.inl rfl)|exact Or.inr (Or.inr rfl)) (by decide) (by decide)) (@dg _ _ _ _ _ (@oJ _ _ (.ty "list") _ _ rfl B.list boot_list rfl (by decide) (by decide)) (@dh _) (by rfl)) (by rfl)) (by decide) (by decide) (by rfl) (by rfl)) (by intros;rfl))) (@tJ _ _ _ _ (@gR _ _ _ _ _ _ _ _ (@nQ _ hr.units) (@pv _ 7 _ _ (by rfl) (by first |exact Or.inl rfl |exact Or.inr (Or.inl rfl)|exact Or.inr (Or.inr rfl)) (by decide) (by decide)) (@dN _ _ _ _ _ _ _ _ _ (@kZ _ hr.units) rfl B.sorted boot_sorted (@dg _ _ _ _ _ (@pv _ 5 _ _ (by rfl) (by first |exact Or.inl rfl |exact Or.inr (Or.inl rfl)|exact Or.inr (Or.inr rfl)) (by decide) (by decide)) (@dh _) (by rfl)) (by decide) (by decide) (by rfl) (by rfl)) (@kG _ _ (by decide) (by decide)))))) (@dz _ _ _ (@ef _ _ _ _ (@m7 _ _ _ _))) (@eI _)) (@dt _ _ _ _ _ (@fJ _ _ _ _ _ _ _ _ bp rfl (@eZ _ _ _ _ (@pv _ 7 _ _ (by rfl) (by first |exact Or.inl rfl |exact Or.inr (Or.inl rfl)|exact Or.inr (Or.inr rfl)) (by decide) (by decide))) (@dS _ _ (8) _ gq.nd rfl (Or.inl rfl) (by first |exact .inl rfl |exact .inr rfl |assumption)) (@dz _ _ _ (@fz _ _ _ _ (@ik _ _ _ _ _ _ _ _ _ _ _ _ aL bJ bI (@fK _) (@pv _ 8 _ _ (by rfl) (by first |exact Or.inl rfl |exact Or.inr (Or.inl rfl)|exact Or.inr (Or.inr rfl)) (by decide) (by decide)) (@dg _ _ _ _ _ (@dq _ _ _ _) (@dh _) (by rfl)) (by rfl) (by rfl) (by rfl) (by rfl) (by rfl)) (by rfl))) (by intros;rfl)) (@dt _ _ _ _ _ (@fz _ _ _ _ (@qr _ _ _ _ _ _ _ _ _ aL PySem.F.slot_list_clear PySem.F.type_list_clear (@qI _) (@pv _ 7 _ _ (by rfl) (by first |exact Or.inl rfl |exact Or.inr (Or.inl rfl)|exact Or.inr (Or.inr rfl)) (by decide) (by decide)) (by rfl) (by rfl)) (by rfl)) (@dz _ _ _ (@fU _ _ _ _ _ _ _ _ (@gR _ _ _ _ _ _ _ _ (@nQ _ hr.units) (@dQ _ _ _ _ _ _ _ _ _ _ _ _ _ _ _ _ gu (hr.mono (by decide)) rfl eg.m eg.F.kp eg.b .nil (@ei _) (@dg _ _ _ _ _ (@pv _ 4 _ _ (by rfl) (by first |exact Or.inl rfl |exact Or.inr (Or.inl rfl)|exact Or.inr (Or.inr rfl)) (by decide) (by decide)) (@dg _ _ _ _ _ (@pv _ 6 _ _ (by rfl) (by first |exact Or.inl rfl |exact Or.inr (Or.inl rfl)|exact Or.inr (Or.inr rfl)) (by decide) (by decide)) (@dh _) (by rfl)) (by rfl)) (by decide) (by rfl) (by rfl)) (@dN _ _ _ _ _ _ _ _ _ (@kZ _ hr.units) rfl B.sorted boot_sorted (@dg _ _ _ _ _ (@pv _ 5 _ _ (by rfl) (by first |exact Or.inl rfl |exact Or.inr (Or.inl rfl)|exact Or.inr (Or.inr rfl)) (by decide) (by decide)) (@dh _) (by rfl)) (by decide) (by decide) (by rfl) (by rfl)) (@kG _ _ (by decide) (by decide))) (@dz _ _ _ (@ef _ _ _ _ (@m7 _ _ _ _))) (@eI _)))))) (@eI _)) (@dz _ _ _ (@dO _ _ (5) _ _ _ _ gq.nd rfl (Or.inl rfl) (@dQ _ _ _ _ _ _ _ _ _ _ _ _ _ _ _ _ iN (hr.mono (by decide)) rfl fv.m fv.F.kp fv.b .nil (@ei _) (@dg _ _ _ _ _ (@pv _ 1 _ _ (by rfl) (by first |exact Or.inl rfl |exact Or.inr (Or.inl rfl)|exact Or.inr (Or.inr rfl)) (by decide) (by decide)) (@dg _ _ _ _ _ (@pv _ 5 _ _ (by rfl) (by first |exact Or.inl rfl |exact Or.inr (Or.inl rfl)|exact Or.inr (Or.inr rfl)) (by decide) (by decide)) (@dh _) (by rfl)) (by rfl)) (by decide) (by rfl) (by rfl)) (by rfl) (by first |exact .inl rfl |exact .inr rfl |assumption))))))) (by intros;rfl)) (@dz _ _ _ (@ef _ _ _ _ (@rT _ _ _ _ _ _ _ _ (@tQ _ hr.units) (@pv _ 4 _ _ (by rfl) (by first |exact Or.inl rfl |exact Or.inr (Or.inl rfl)|exact Or.inr (Or.inr rfl)) (by decide) (by decide)) (@pv _ 1 _ _ (by rfl) (by first |exact Or.inl rfl |exact Or.inr (Or.inl rfl)|exact Or.inr (Or.inr rfl)) (by decide) (by decide)) (@kG _ _ (by decide) (by decide))))))))))),?_⟩
  refine⟨_,rfl,a,ns,rfl,hS,λv l H1 s1 hv GL=>?_⟩
  refine⟨_,rfl,a,ns,20,rfl,s1.seq hS,by decide,λc20=>⟨c20,0,rfl,by decide,by decide,λn0 h00 h01=>?_⟩⟩
  dsimp only[hU]
  refine cut (λσ G=>∃ (v:V) (l:Ln) (x3:Option V),σ = [some (.ref a),some v,some (.int n0),x3,none,none,none,none,none]/\dM H G/\Da K G (dL l) v/\fG l) (λN R B2 C2 kN _=>?_) ?_
  ·refine⟨_,rfl,_,_,rfl,rfl,(by show(0:Int)<16;decide),_,_,rfl,rfl,_,rfl,fD (λc=>?_) (λ_=>kN _ _ ⟨v,l,none,rfl,s1,hv,GL⟩)⟩
   have c:n0%16<2:=by simpa using c
   refine⟨by show 5<=sizeLine;decide,λr1 nr1=>⟨by show 7<=sizeLine;decide,λr2 nr2=>⟨by show 2<=sizeLine;decide,λr3 nr3=>?_⟩⟩⟩
   have u1:=dj (o:=.lst [V.int 1,V.int 2,V.int 3,V.int 1,V.int 5]) nr1
   have u2:=dj (o:=.lst [V.int 1,V.int 1,V.int 2,V.int 1,V.int 3,V.int 1,V.int 5]) nr2
   have u3:=dj (o:=.lst [V.ref r1,V.ref r2]) nr3
   have g3:=di (H:=upd (upd H1 r1 (.lst [V.int 1,V.int 2,V.int 3,V.int 1,V.int 5])) r2 (.lst [V.int 1,V.int 1,V.int 2,V.int 1,V.int 3,V.int 1,V.int 5])) (a:=r3) (o:=.lst [V.ref r1,V.ref r2])
   have g2:=u3 _ _ (di (H:=upd H1 r1 (.lst [V.int 1,V.int 2,V.int 3,V.int 1,V.int 5])) (a:=r2) (o:=.lst [V.int 1,V.int 1,V.int 2,V.int 1,V.int 3,V.int 1,V.int 5]))
   have g1:=(u2.trans u3) _ _ (di (H:=H1) (a:=r1) (o:=.lst [V.int 1,V.int 2,V.int 3,V.int 1,V.int 5]))
   have U:=s1.trans (u1.trans (u2.trans u3))
   generalize upd (upd (upd H1 r1 _) r2 _) r3 _=H2 at U g1 g2 g3 ⊢
   obtain⟨r,ws,hr',hw,wne,w9,wb,GW⟩:∃ (r:Addr) (ws:List Int),atI [V.ref r1,V.ref r2] (n0%16)=some (V.ref r)/\H2 r=some (.lst (ws.map V.int))/\ws≠ []/\ws.length<=9/\(∀ w∈ws,0<=w/\w<=9)/\fG (ws.sum,mU (ip 0 ws)):=by
    have c2:n0%16=0\/n0%16=1:=by omega
    rcases c2 with e |e
    ·rw[e];exact⟨r1,[1,2,3,1,5],iZ (j:=0) rfl,g1,by decide,by decide,by decide,qd⟩
    ·rw[e];exact⟨r2,[1,1,2,1,3,1,5],iZ (j:=1) rfl,g2,by decide,by decide,by decide,qc⟩
   refine⟨_,rfl,_,_,rfl,rfl,(by show(0:Int)<16;decide),r3,_,_,V.ref r,rfl,rfl,SqL.of g3,hr',?_⟩
   refine⟨_,rfl,r,ws,rfl,SqL.of hw,wne,w9,wb,λv1 H3 s3 d3=>?_⟩
   refine⟨_,rfl,a,ns,1,rfl,(U.trans s3).seq hS,by decide,λc1=>?_⟩
   refine⟨v1,(ws.sum,mU (ip 0 ws)),c1,rfl,d3,GW,λv' js' nm es H4 s4 d4 R4 pm=>?_⟩
   exact kN _ _ ⟨v',(ws.sum,js'),_,rfl,U.trans (s3.trans s4),d4,R4.line GW pm⟩
  clear hv GL s1
  rintro σ H1 ⟨v,l,x3,rfl,s1,hv,GL⟩
  have ok:=GL.jf
  have o1:1<=l.1:=ok.one
  have o14:l.1<=14:=GL.most
  obtain⟨al,bl,rfl,hlt,us,hll,hlq⟩:=jF hv
  refine⟨_,rfl,al,_,_,_,rfl,rfl,hlt,rfl,_,rfl,al,_,_,_,rfl,rfl,hlt,rfl,bl,us,rfl,.inl hll,λq1 nq1=>⟨by show 2<=sizeLine;decide,λq2 nq2=>?_⟩⟩
  have u1:=dj (o:=.lst us) nq1
  have u2:=dj (o:=.tup [.int l.1,.ref q1]) nq2
  have s2:=u1.trans u2
  have dk:Da K (upd (upd H1 q1 (.lst us)) q2 (.tup [.int l.1,.ref q1])) (dL l) (.ref q2):=gm di (gg.mpr ⟨q1,us,rfl,SqL.of (u2 _ _ di),Das.same s2 hlq⟩)
  generalize upd (upd H1 q1 (.lst us)) q2 _=H2 at s2 dk ⊢
  clear u1 u2
  have dl2:=Da.same s2 hv
  have vH:=gh s2 hlt
  have ol:(jd l.1).length=(2*l.1).toNat:=by unfold jd;rw[aa,gH]
  refine⟨_,rfl,al,_,_,_,rfl,rfl,vH,rfl,_,_,rfl,rfl,.inl ⟨by decide,by decide⟩,_,rfl,by show -(2 ^ 62)<=2*l.1;omega,by show 2*l.1<2 ^ 62;omega,λpd npd=>?_⟩
  refine qM (2*l.1).toNat (jd l.1) (lA H2 pd pd) (λt v=>lA.mono t v) npd ol.symm (fO (by omega)) (λi G s hi=>hi) (λG s=>ar _) ?_ ?_
  ·rintro i x d G G' sG ⟨us',hus⟩ ⟨rfl,rfl⟩ hd P1 P0 k1
   have hi:i<(2*l.1).toNat:=by have:=(af.mp hd).1;rwa [ol]at this
   have ed:d = [(0:Int)+(i:Int)]:=by
    unfold jd at hd
    rw[ax,ky hi]at hd
    have hd:[(0:Int)+(i:Int)]=d:=by simpa using hd
    exact hd.symm
   refine ir ?_
   refine⟨_,rfl,by show 1<=sizeLine;decide,λp np=>?_⟩
   have ppd:p≠pd:=(dF hus np).symm
   refine k1 _ _ (dj np) ⟨p,rfl,dM.free sG np,ppd,ppd,?_⟩
   rw[jQ ppd,di,ed];rfl
  intro vs H3 s3 hpd PW
  obtain⟨as0,rfl,BW⟩:=mI PW
  have BW:=BW.same kP
  have D0:DuA H3 pd as0 (eD l 0):=⟨hpd,BW.1,λi a t h1 h2=>(BW.2 i a t h1 h2).2.2.2⟩
  have S3:=s1.trans (s2.trans s3)
  have dl3:=Da.same s3 dl2
  have dk3:=Da.same s3 dk
  clear dl2 dk vH hv hlt hll hlq s2 s1
  dsimp only[hU]
  refine⟨1,7,rfl,⟨by decide,by decide,by decide,by decide⟩,jj (λi σ G=>∃ (p:Addr) (as:List Addr) (x6 x7 x8:Option V),σ = [some (.ref a),some (.ref al),some (.int n0),x3,some (.ref q2),some (.ref p),x6,x7,x8]/\dM H3 G/\DuA G p as (eD l i))
   ⟨pd,as0,none,none,none,rfl,dM.refl _,D0⟩ ?_ ?_⟩
  ·rintro i σ G N R Bq kN kR hi ⟨p,as,x6,x7,x8,rfl,S,D⟩
   have hi6:i<6:=hi
   have e1:((1:Int)+(i:Nat))=((i+1:Nat):Int):=by omega
   rw[e1]
   have y4:=oR GL (k:=i) (by omega)
   have dlt:=oj GL i
   refine⟨_,rfl,_,rfl,_,l,i+1,rfl,Da.same S dk3,ok,by omega,by omega,?_,?_⟩
   ·intro h3 fp fas G1 g1 nfp L
    rw[cy]at h3 L
    refine⟨aM _,λe1 ne1=>⟨by show 2<=sizeLine;decide,λe2 ne2=>?_⟩⟩
    have t1:=(dj (o:=.lst []) ne1).trans (dj (o:=.tup [.int 1,.ref e1]) ne2)
    have t2:Da K (upd (upd G1 e1 (.lst [])) e2 (.tup [.int 1,.ref e1])) (dL (1,[])) (.ref e2):=gm (l:=(1,[])) di (gg.mpr ⟨e1,[],rfl,SqL.of ((dj (o:=.tup [.int 1,.ref e1]) ne2) _ _ di),eJ.mpr rfl⟩)
    refine⟨_,(1,[]),1,rfl,t2,qv,by decide,by decide,λ_ p0 yF G2 g2 _ _=>?_,λz=>absurd z (by have:=oO;omega)⟩
    have L:=L.same (t1.trans g2)
    have T2:=g1.trans (t1.trans g2)
    clear t1 t2 g2 g1
    have D2:=D.same T2
    have S2:=S.trans T2
    have D2q:=SqL.of (K:=K) D2.at_
    have dd2:=jD (K:=K) D2.len D2.each
    refine⟨_,rfl,p,_,rfl,.inl D2q,_,_,rfl,rfl,_,rfl,fD (λc=>absurd c (by rw[aa,D.len];simp;omega)) (λ_=>?_)⟩
    refine⟨_,rfl,p,_,rfl,.inl D2q,_,_,rfl,rfl,_,rfl,fD (λ_=>?_) (λc=>absurd (by rw[aa,D.len];simp;omega) c)⟩
    have Lq:=SqL.of (K:=K) L.at_
    refine⟨_,rfl,fp,_,_,true,rfl,Lq,qP,_,rfl,fD (λz=>absurd z (by decide)) (λ_=>?_)⟩
    refine⟨_,rfl,_,rfl,p,_,eD l i,rfl,D2q,dd2,λq5 Z nq5 zp zs=>?_⟩
    have sd:=oD dd2 (by rw[aa];exact D.len) nq5 zp zs dlt
    have g5:=dj (o:=.lst (Z.map (·.1))) nq5
    have L5:=L.same g5
    have T5:=T2.trans g5
    generalize upd G2 q5 (.lst (Z.map (·.1)))=G5 at sd g5 L5 T5 ⊢
    refine⟨dLI (eD l i),dLI (eD l i),L5.du.da,sd,jN _,jN _,_,rfl,?_⟩
    rw[jB (jN _)]
    refine fD (λz=>absurd z (by decide)) (λ_=>?_)
    have fl:=L.len
    refine⟨_,rfl,fp,rfl,⟨_,SqL.of L5.at_⟩,gk (K:=K) (a:=fp) (xs:=fas.map V.ref) (λj σ Gj=>∃ x8:Option V,σ = [some (.ref a),some (.ref al),some (.int n0),x3,some (.ref q2),some (.ref p),some (.int ((i+1:Nat):Int)),some (.ref fp),x8]/\dM G Gj/\Gj fp=some (.lst (fas.map V.ref))/\∀ b∈fas,∃ xs,Gj b=some (.lst xs)/\xs.length<=10+j)
     ⟨x8,rfl,T5,L5.at_,λb hb=>?_⟩ (λj σ Gj _ ⟨_,_,_,h,_⟩=>SqL.of h) ?_ ?_⟩
    ·obtain⟨z,hz,rfl⟩:=br.mp hb
     have hz2:z<(eD l i).length:=by rw[<-fl];exact hz
     have h1:(eD l i)[z]? = some (eD l i)[z]:=ae hz2
     have h2:=(iz ok i _ (aN h1)).2
     refine⟨_,(L5.each z _ _ (ae hz) h1).2.2,?_⟩
     rw[aa,h2];omega
    ·rintro j y σ Gj N2 R2 B2 kN2 _ hj ⟨x8,rfl,Tj,hfp,hx⟩
     rw[ax]at hj
     cases q1:fas[j]? with
     |none=>rw[q1]at hj;cases hj
     |some b=>
      rw[q1]at hj
      cases hj
      have jl:j<fas.length:=(af.mp q1).1
      have h1:(eD l i)[j]? = some ((eD l i)[j]'(by rw[<-fl];exact jl)):=ae _
      obtain⟨b1,b2,_⟩:=L5.each j b _ q1 h1
      obtain⟨xs,hb,xl⟩:=hx b (aN q1)
      refine⟨_,rfl,.inl ⟨rfl,_,SqL.of hb⟩,b,_,_,rfl,rfl,hb,fO (by omega),?_⟩
      refine kN2 _ _ ⟨_,rfl,dM.upd Tj b1,by rw[dG (cH b2)];exact hfp,λb' hb'=>?_⟩
      by_cases e:b'=b
      ·subst e
       exact⟨_,di,by rw[ao];show xs.length+1<=_;omega⟩
      ·obtain⟨ys,hy,yl⟩:=hx b' hb'
       exact⟨ys,by rw[dG e];exact hy,by omega⟩
    ·rintro σ G6 ⟨x8,rfl,T6,hfp,_⟩
     refine⟨_,rfl,.inl ⟨rfl,_,SqL.of hfp⟩,fp,_,rfl,rfl,hfp,?_⟩
     have T7:=dM.upd (o:=.lst []) T6 nfp
     generalize upd G6 fp _=G7 at T7 ⊢
     refine⟨_,rfl,_,rfl,_,l,i+1,rfl,Da.same (S.trans T7) dk3,ok,by omega,by omega,?_,λz=>absurd z (by rw[cy];omega)⟩
     intro _ fp' y3 G8 g8 _ L8
     rw[cy]at L8
     have T8:=T7.trans g8
     have D8:=D.same T8
     have dd8:=jD (K:=K) D8.len D8.each
     refine⟨_,rfl,p,_,eD l i,rfl,SqL.of D8.at_,dd8,λq9 Z9 nq9 zp9 zs9=>?_⟩
     have sd9:=oD dd8 (by rw[aa];exact D.len) nq9 zp9 zs9 dlt
     have g9:=dj (o:=.lst (Z9.map (·.1))) nq9
     have L9:=L8.same g9
     have T9:=T8.trans g9
     generalize upd G8 q9 (.lst (Z9.map (·.1)))=G9 at sd9 g9 L9 T9 ⊢
     refine⟨dLI (eD l i),dLI (eD l i),L9.du.da,sd9,jN _,jN _,_,rfl,?_⟩
     rw[jB (jN _)]
     refine fD (λz=>absurd z (by decide)) (λ_=>?_)
     exact⟨_,rfl,_,rfl,_,p,l,i,as,rfl,Da.same (S.trans T9) dl3,GL,by omega,D.same T9,λq' as' H' sH _ LH=>kN _ _ ⟨q',as',_,_,_,rfl,S.trans (T9.trans sH),LH.du⟩⟩
   ·intro h3 G1 g1
    rw[cy]at h3
    refine⟨aM _,λe1 ne1=>⟨by show 2<=sizeLine;decide,λe2 ne2=>?_⟩⟩
    have t1:=(dj (o:=.lst []) ne1).trans (dj (o:=.tup [.int 1,.ref e1]) ne2)
    have t2:Da K (upd (upd G1 e1 (.lst [])) e2 (.tup [.int 1,.ref e1])) (dL (1,[])) (.ref e2):=gm (l:=(1,[])) di (gg.mpr ⟨e1,[],rfl,SqL.of ((dj (o:=.tup [.int 1,.ref e1]) ne2) _ _ di),eJ.mpr rfl⟩)
    refine⟨_,(1,[]),1,rfl,t2,qv,by decide,by decide,λ_ p0 yF G2 g2 _ _=>?_,λz=>absurd z (by have:=oO;omega)⟩
    have T2:=g1.trans (t1.trans g2)
    have D2:=D.same T2
    have D2q:=SqL.of (K:=K) D2.at_
    have os:PyData.strOk (Str.ofString "many")=true:=by decide +kernel
    refine⟨_,rfl,p,_,rfl,.inl D2q,_,_,rfl,rfl,_,rfl,fD (λ_=>?_) (λc=>absurd (by rw[aa,D.len];simp;omega) c)⟩
    refine⟨_,rfl,.str "many",.str "many",ro.mpr rfl,ro.mpr rfl,qy os,qy os,_,rfl,?_⟩
    rw[jB (qy os)]
    refine fD (λz=>absurd z (by decide)) (λ_=>?_)
    refine⟨_,rfl,p,_,rfl,.inl D2q,_,_,rfl,rfl,_,rfl,fD (λc=>absurd c (by rw[aa,D.len];simp;omega)) (λ_=>?_)⟩
    exact⟨_,rfl,_,rfl,_,p,l,i,as,rfl,Da.same (S.trans T2) dl3,GL,by omega,D2,λq' as' H' sH _ LH=>kN _ _ ⟨q',as',_,_,_,rfl,S.trans (T2.trans sH),LH.du⟩⟩
  ·rintro σ G ⟨p,as,x6,x7,x8,rfl,S,D⟩
   refine⟨_,rfl,_,rfl,dL l,dL l,Da.same S dk3,Da.same S dl3,qA _,qA _,?_⟩
   rw[jB (qA _)]
   exact k _
end
structure En (K:PySem.W.Frag)(x:Str)(st:Stmt)(f:Addr)(oc:Value)(od:Option Addr)(osl:Array (Option Value))(kV doc pm:Value)(an:Option Addr)(cdv ct:Value):Prop where
 a:PySem.W.nsIn K mainGlobals x=some (some (.ref f))
 l:K.lookup f=some ⟨oc,od,.func (PySem.W.fnOf x x (gC st) (fP st) (dC st) .none kV doc pm an cdv ct),osl⟩
 c:PySem.W.codeIn K cdv x=true
 k:PySem.W.keepIn K (.ref f)=true
theorem fW {K:PySem.W.Frag}{h:Heap}{mg:Str->Option Value}{x:Str}{st:Stmt}{ps:List Str}{f:Addr}{oc:Value}{od an:Option Addr}{osl:Array (Option Value)}{kV doc pm cdv ct:Value}(X:K.In h)(G:h.Ns mainGlobals mg)(e:En K x st f oc od osl kV doc pm an cdv ct)
  (hb:∀ (kV doc pm:Value) (an:Option Addr) (cdv ct:Value) (us:List Value),us.length=ps.length->bindArgs (PySem.W.fnOf x x (gC st) (fP st) (dC st) .none kV doc pm an cdv ct) ⟨us,[]⟩=pure (ps.zip us)):
  Fn K mg x st ps f (PySem.W.fnOf x x (gC st) (fP st) (dC st) .none kV doc pm an cdv ct):=⟨ra (st:=st) e.l e.c e.k,PySem.W.mg_of X G e.a,(ra (st:=st) e.l e.c e.k).binds (ps:=ps) hb⟩
theorem bn1 {F:FuncData}{p:List Str}(k:∀ a0,bindArgs F ⟨[a0],[]⟩=pure (p.zip [a0]))(us:List Value)(h:us.length=1):bindArgs F ⟨us,[]⟩=pure (p.zip us):=match us,h with |[a0],_=>k a0
theorem bn2 {F:FuncData}{p:List Str}(k:∀ a0 a1,bindArgs F ⟨[a0,a1],[]⟩=pure (p.zip [a0,a1]))(us:List Value)(h:us.length=2):bindArgs F ⟨us,[]⟩=pure (p.zip us):=match us,h with |[a0,a1],_=>k a0 a1
theorem bn3 {F:FuncData}{p:List Str}(k:∀ a0 a1 a2,bindArgs F ⟨[a0,a1,a2],[]⟩=pure (p.zip [a0,a1,a2]))(us:List Value)(h:us.length=3):bindArgs F ⟨us,[]⟩=pure (p.zip us):=match us,h with |[a0,a1,a2],_=>k a0 a1 a2
theorem all_mk {l:PySem.W.OpenLaw}{w:World}{K:PySem.W.Frag}{h:Heap}{mg:Str->Option Value}{fa f1 f2 f3 f4 f5 f6 f7 f8 f9 f10 f11 f12 f13 f14 f15 f16 f17:Addr}(X:K.In h)(G:h.Ns mainGlobals mg)(hfa:mg "law" = some (.ref fa))
  {od1 an1 od2 an2 od3 an3 od4 an4 od5 an5 od6 an6 od7 an7 od8 an8 od9 an9 xr yM xq yL xp yK xo yJ xn yI xm yH xk yG xj v7:Option Addr}{sl1 sl2 sl3 sl4 sl5 sl6 sl7 sl8 sl9 wM wL wK wJ wI wH wG wF:Array (Option Value)}{oc1 kV1 dc1 pm1 cd1 ct1 oc2 kV2 dc2 pm2 cd2 ct2 oc3 kV3 dc3 pm3 cd3 ct3 oc4 kV4 dc4 pm4 cd4 ct4 oc5 kV5 dc5 pm5 cd5 ct5 oc6 kV6 dc6 pm6 cd6 ct6 oc7 kV7 dc7 pm7 cd7 ct7 oc8 kV8 dc8 pm8 cd8 ct8 oc9 kV9 dc9 pm9 cd9 ct9 xC xQ yo xh yD yw xB xP yn xg yC yv xA xO ym xf yB yu xy xN yk w6 yA yt xx xM yj w5 yz yr xw xK yi w4 yy yq xu xJ yh wZ yx yp xt vu vW uX vZ vX:Value}
  (e1:En K "other_end" gw f1 oc1 od1 sl1 kV1 dc1 pm1 an1 cd1 ct1)
  (e2:En K "piece_of" gN f2 oc2 od2 sl2 kV2 dc2 pm2 an2 cd2 ct2)
  (e3:En K "joined" gG f3 oc3 od3 sl3 kV3 dc3 pm3 an3 cd3 ct3)
  (e4:En K "free_ends" fo f4 oc4 od4 sl4 kV4 dc4 pm4 an4 cd4 ct4)
  (e5:En K "trains_of" fm f5 oc5 od5 sl5 kV5 dc5 pm5 an5 cd5 ct5)
  (e6:En K "_law_cell_at" fg f6 oc6 od6 sl6 kV6 dc6 pm6 an6 cd6 ct6)
  (e7:En K "_law_mix" gi f7 oc7 od7 sl7 kV7 dc7 pm7 an7 cd7 ct7)
  (e8:En K "_law_turned_row" eX f8 oc8 od8 sl8 kV8 dc8 pm8 an8 cd8 ct8)
  (e9:En K "_law_other" fR f9 oc9 od9 sl9 kV9 dc9 pm9 an9 cd9 ct9)
  (e10:En K "_law_joined" eY f10 xC xr wM xQ yo xh yM yD yw)
  (e11:En K "_law_line" gP f11 xB xq wL xP yn xg yL yC yv)
  (e12:En K "_law_rungs" gz f12 xA xp wK xO ym xf yK yB yu)
  (e13:En K "_law_renamed" fe f13 xy xo wJ xN yk w6 yJ yA yt)
  (e14:En K "_law_kept" gQ f14 xx xn wI xM yj w5 yI yz yr)
  (e15:En K "_law_grown" fS f15 xw xm wH xK yi w4 yH yy yq)
  (e16:En K "_law_told" gO f16 xu xk wG xJ yh wZ yG yx yp)
  (e17:En K "law" kx f17 xt xj wF vu vW uX v7 vZ vX)
  (z1:PySem.W.nsIn K mainGlobals "len" = some none) (z2:PySem.W.nsIn K mainGlobals "range" = some none) (z3:PySem.W.nsIn K mainGlobals "sorted" = some none) (z4:PySem.W.nsIn K mainGlobals "enumerate" = some none) (z5:PySem.W.nsIn K mainGlobals "reversed" = some none) (z6:PySem.W.nsIn K mainGlobals "min" = some none) (z7:PySem.W.nsIn K mainGlobals "max" = some none) (z8:PySem.W.nsIn K mainGlobals "list" = some none) (z9:PySem.W.nsIn K mainGlobals "int" = some none) (z10:PySem.W.nsIn K mainGlobals "isinstance" = some none) (z11:PySem.W.nsIn K mainGlobals "zip" = some none) (z12:PySem.W.nsIn K mainGlobals "sum" = some none) (z13:PySem.W.nsIn K mainGlobals "all" = some none) (z14:PySem.W.nsIn K mainGlobals "set" = some none) (z15:PySem.W.nsIn K mainGlobals "tuple" = some none) (z16:PySem.W.nsIn K mainGlobals "abs" = some none) (z17:PySem.W.nsIn K mainGlobals "bool" = some none) (z18:PySem.W.nsIn K mainGlobals "dict" = some none) (z19:PySem.W.nsIn K mainGlobals "str" = some none)
  {C0 C1 C2 C3 C4 C5 C6 C7:Addr} (ve:PySem.W.nsIn K mainGlobals "ValueError" = some none) (xb0:gs K "TurnError" C0) (xb1:gs K "NoLine" C1) (xb2:gs K "NoTrain" C2) (xb3:gs K "NoMove" C3) (xb4:gs K "NoPiece" C4) (xb5:gs K "TooMany" C5) (xb6:gs K "NoText" C6) (xb7:gs K "NoRow" C7) (xd1:jm K C0 C1) (xd2:jm K C0 C2) (xd3:jm K C0 C3) (xd4:jm K C0 C4) (xd5:jm K C0 C5) (xd6:jm K C0 C6) (xd7:jm K C0 C7) (xe1:jH K C1 C2 C3 C4 C5 C6 C7) (xe2:jH K C2 C1 C3 C4 C5 C6 C7) (xe3:jH K C3 C1 C2 C4 C5 C6 C7) (xe4:jH K C4 C1 C2 C3 C5 C6 C7) (xe5:jH K C5 C1 C2 C3 C4 C6 C7) (xe6:jH K C6 C1 C2 C3 C4 C5 C7) (xe7:jH K C7 C1 C2 C3 C4 C5 C6) (nd:[C1,C2,C3,C4,C5,C6,C7].Nodup)
  {tk0:Tok} (ck0:PySem.W.nsIn K mainGlobals "MOST_TRAINS" = some (some (.int 300 tk0))):
  ∃ fd:FuncData,(∀ (s:Shared) (v:Value),BindsTo s fd ⟨[v],[]⟩ [("_law_script",v)])/\∀ base:Heap,K.In base->base.Ns mainGlobals mg->d8 l.prog w K mg base CX0 5 fa fd ["_law_script"] (lY K):=by
 have e:=hfa.symm.trans (PySem.W.mg_of X G e17.a)
 cases e
 have B:Bm mg:=⟨⟨aF X G z1,aF X G z2,aF X G z3,aF X G z4,aF X G z5,aF X G z6,aF X G z7,aF X G z8,aF X G z9,aF X G z10⟩,aF X G z11,aF X G z12,aF X G z13,aF X G z14,aF X G z15,aF X G z16,aF X G z17,aF X G z18,aF X G z19⟩
 have XS:=uF X G ve xb0 xb1 xb2 xb3 xb4 xb5 xb6 xb7 xd1 xd2 xd3 xd4 xd5 xd6 xd7 xe1 xe2 xe3 xe4 xe5 xe6 xe7 nd
 have C:Cm mg tk0:=⟨PySem.W.mg_of X G ck0⟩
 have ft:=fW (ps:=["end"]) X G e1 λ_ _ _ _ _ _=>bn1 (λ_=>rfl)
 have eP:=fW (ps:=["end"]) X G e2 λ_ _ _ _ _ _=>bn1 (λ_=>rfl)
 have gM:=fW (ps:=["line","end"]) X G e3 λ_ _ _ _ _ _=>bn2 (λ_ _=>rfl)
 have fw:=fW (ps:=["line","train","end"]) X G e4 λ_ _ _ _ _ _=>bn3 (λ_ _ _=>rfl)
 have fq:=fW (ps:=["line","length"]) X G e5 λ_ _ _ _ _ _=>bn2 (λ_ _=>rfl)
 have dE:=fW (ps:=["_law_script","_law_k"]) X G e6 λ_ _ _ _ _ _=>bn2 (λ_ _=>rfl)
 have dw:=fW (ps:=["_law_cell","_law_k"]) X G e7 λ_ _ _ _ _ _=>bn2 (λ_ _=>rfl)
 have en:=fW (ps:=["_law_number","_law_many"]) X G e8 λ_ _ _ _ _ _=>bn2 (λ_ _=>rfl)
 have dX:=fW (ps:=["_law_end"]) X G e9 λ_ _ _ _ _ _=>bn1 (λ_=>rfl)
 have fb:=fW (ps:=["_law_line_here","_law_end"]) X G e10 λ_ _ _ _ _ _=>bn2 (λ_ _=>rfl)
 have fM:=fW (ps:=["_law_script"]) X G e11 λ_ _ _ _ _ _=>bn1 (λ_=>rfl)
 have fu:=fW (ps:=["_law_rungs_here"]) X G e12 λ_ _ _ _ _ _=>bn1 (λ_=>rfl)
 have dU:=fW (ps:=["_law_line_here","_law_cell"]) X G e13 λ_ _ _ _ _ _=>bn2 (λ_ _=>rfl)
 have fN:=fW (ps:=["_law_kept_here"]) X G e14 λ_ _ _ _ _ _=>bn1 (λ_=>rfl)
 have fv:=fW (ps:=["_law_line_here","_law_found"]) X G e15 λ_ _ _ _ _ _=>bn2 (λ_ _=>rfl)
 have eg:=fW (ps:=["_law_line_here","_law_length"]) X G e16 λ_ _ _ _ _ _=>bn2 (λ_ _=>rfl)
 have wc:=fW (ps:=["_law_script"]) X G e17 λ_ _ _ _ _ _=>bn1 (λ_=>rfl)
 refine⟨PySem.W.fnOf "law" "law" (gC kx) (fP kx) (dC kx) .none vu vW uX v7 vZ vX,λs v=>.of_eq rfl,λbase _ _=>?_⟩
 have XT:Xt K mg _:=⟨XS.i6⟩
 have eQ:d8 l.prog w K mg base CX0 2 _ _ _ _:=kF dU dw en B.toBl
 have jo:d8 l.prog w K mg base CX0 3 _ _ _ _:=nh fM dw dE dX dU eQ B.toBl
 have iO:d8 l.prog w K mg base CX0 2 _ _ _ _:=mr fw B.toBl eP gM
 have iK:d8 l.prog w K mg base (CXr l.prog w base) 3 _ _ _ _:=ml fq B C XT fw iO ft
 have iL:d8 l.prog w K mg base CX0 1 _ _ _ _:=mn fu B
 have iN:d8 l.prog w K mg base CX0 2 _ _ _ _:=mq fv B dX fb
 have gu:d8 l.prog w K mg base CX0 4 _ _ _ _:=ng eg XS B fq iK fN
 exact tS wc B fM jo dE dw fu iL dU eQ eg gu fv iN
theorem walk {l:PySem.W.OpenLaw}{q:Program}{loose:List Str}{XP:(Str->Option Value)->Heap->Prop}{YP:World->Heap->Prop}{d:DefRec}{K:Params->PySem.W.Frag}(hn:l.most=some 63)(hdf:d.params.defaults = [])
  (hY:∀ (w:World) (h:Heap),YP w h->(K w.params).In h)
  (F:∀ (w:World) (mg:Str->Option Value) (fa:Addr) (h:Heap),(K w.params).In h->h.Ns mainGlobals mg->mg d.name=some (.ref fa)->
   ∃ fd:FuncData,(∀ (s:Shared) (u:Value),BindsTo s fd ⟨[u],[]⟩ [("_law_script",u)])/\∀ base:Heap,(K w.params).In base->base.Ns mainGlobals mg->d8 l.prog w (K w.params) mg base CX0 5 fa fd ["_law_script"] (lY (K w.params))):
  PySem.W.WalkO q loose XP YP l.row.toRowW d [] (λf vs=>PySem.call f vs):=
 L2.rJ (n:=63) (k:=5) (x:= "_law_script") (CX:=λ_=>CX0) (sp:=λw=>lY (K w.params)) hn (by decide) hdf ⟨rfl,by decide,by decide⟩ hY F (λ_ _ a ns hl _ hS=>⟨a,ns,rfl,hS,λ_=>rfl⟩) λ_ _ _ _ _ z=>z
end K41
namespace PySem.W.Fast
def tw10102801141551461575:=0
def tw1018572592565697568:=0
def tw10197490495763857364:=0
def tw10202939275408314092:=0
def tw10344694558825745152:=0
def tw10369119597909629556:=0
def tw10535867651049130268:=0
def tw10553931012133508813:=0
def tw10646242865088154749:=0
def tw10653199922265168410:=0
def tw10739087905413164075:=0
def tw10878399657659583306:=0
def tw1088958806893153146:=0
def tw10897458261766968216:=0
def tw10931475588666555391:=0
def tw11026692666898341192:=0
def tw11154735808447430826:=0
def tw11254744307904027862:=0
def tw11329566946446300189:=0
def tw11343665190252468360:=0
def tw11386877156966084482:=0
def tw11400555244352961286:=0
def tw11462304112802709107:=0
def tw11561660792979722712:=0
def tw11606564178839674315:=0
def tw11667745579126248745:=0
def tw11848945327724694494:=0
def tw1185957422695525782:=0
def tw11910683849703640775:=0
def tw12058278866059392110:=0
def tw12285571641574482817:=0
def tw12501005017875107980:=0
def tw12716314800911613561:=0
def tw12719307502650954463:=0
def tw12744506162494055154:=0
def tw12763242197693010842:=0
def tw12776936778716142675:=0
def tw12863030339495345250:=0
def tw12999330122311827502:=0
def tw13051507366779965513:=0
def tw13108500118565544853:=0
def tw13124412747295125536:=0
def tw13146216629502892617:=0
def tw13220103575623266873:=0
def tw13229806456351385360:=0
def tw13294800667939020674:=0
def tw13410107713999121300:=0
def tw13572577287930300749:=0
def tw13715354923686278091:=0
def tw13760625992414922340:=0
def tw13778627927642002708:=0
def tw13808179129769149661:=0
def tw13814472733303523850:=0
def tw13831773913932827236:=0
def tw13891383925074059739:=0
def tw1397133756353312:=0
def tw14042836279728013187:=0
def tw14061046372355683713:=0
def tw14116026591770093588:=0
def tw14128158372603074694:=0
def tw14138553081908528114:=0
def tw14498616708173167870:=0
def tw1463584697753298239:=0
def tw14655505889237230541:=0
def tw14858637465632239524:=0
def tw14894880503884219834:=0
def tw14895277001532070155:=0
def tw14940696445582445001:=0
def tw14999528924811619510:=0
def tw15042551196846454783:=0
def tw15182379923926196646:=0
def tw15220381955715106119:=0
def tw15222482225852232170:=0
def tw15306954976077315476:=0
def tw15311740637784524032:=0
def tw15386087828222973198:=0
def tw15424658420944788492:=0
def tw15483786292324101804:=0
def tw15556050767783313247:=0
def tw15594410020270660249:=0
def tw15654053134480708012:=0
def tw15734131117461497329:=0
def tw15872881181547694706:=0
def tw15874065708599895898:=0
def tw15881799836242647636:=0
def tw15918373243506147082:=0
def tw16037603324206755645:=0
def tw1616017909462149753:=0
def tw1628818509833953492:=0
def tw16391491028388851413:=0
def tw16417137734436246767:=0
def tw16424252182952277360:=0
def tw1644932913494146837:=0
def tw16624305933454001021:=0
def tw16663158841485475202:=0
def tw16819008956239983284:=0
def tw16827805206333704556:=0
def tw16883119237321732476:=0
def tw17014948695361334151:=0
def tw17045538951098371160:=0
def tw17045699673352851888:=0
def tw171504387833536022:=0
def tw17160548890902007194:=0
def tw17178312215998089079:=0
def tw17182205005661553204:=0
def tw17187524184987211958:=0
def tw17314829806816702401:=0
def tw17339711347151935718:=0
def tw17343625150079877159:=0
def tw17686688183700104255:=0
def tw17697996025527832666:=0
def tw17784405527809764698:=0
def tw17811994707219739747:=0
def tw178987609247042508:=0
def tw17998436308491705231:=0
def tw18022280251886941148:=0
def tw18024810025964587884:=0
def tw18188666676716459783:=0
def tw18249339886140927535:=0
def tw18295033715039406236:=0
def tw18428946183021108555:=0
def tw18440899170840233009:=0
def tw1961122918812563888:=0
def tw2106567351909661125:=0
def tw2140265289867795745:=0
def tw2342106918407669679:=0
def tw2377196062703954105:=0
def tw2386396041721730078:=0
def tw2403488476768033842:=0
def tw2490996117136694189:=0
def tw2494965830260808196:=0
def tw2636536096233587829:=0
def tw2700303163030017685:=0
def tw2872642667610497397:=0
def tw2884253501025802453:=0
def tw2991482186560742707:=0
def tw3059643226079716684:=0
def tw310823686022492394:=0
def tw3237143241063097334:=0
def tw3285621999713797625:=0
def tw3420891470937553529:=0
def tw3438386947146461875:=0
def tw3525033695614041901:=0
def tw3603608588219134075:=0
def tw3657266764051312209:=0
def tw3736118162352561031:=0
def tw3841270154270137877:=0
def tw3863008970315119967:=0
def tw3871385084417102762:=0
def tw3961416644542013031:=0
def tw4107785649664728964:=0
def tw4121818384304677869:=0
def tw4151594555144280028:=0
def tw4164798545431888378:=0
def tw4217602616132890801:=0
def tw4420037800507840267:=0
def tw4425044371335453134:=0
def tw4469883176989535796:=0
def tw4493279299524535628:=0
def tw4550587070123363921:=0
def tw4581715105968878286:=0
def tw4599983885425948625:=0
def tw4675717516153191621:=0
def tw4742638003357400031:=0
def tw4745782251299658915:=0
def tw4966852984847045640:=0
def tw4968077179679343642:=0
def tw5111976802299502335:=0
def tw515185553488901315:=0
def tw5186214034980794555:=0
def tw5361626225011737535:=0
def tw5472456304385460890:=0
def tw5482402520466516255:=0
def tw5512980754472762941:=0
def tw5672710843925393778:=0
def tw5760561981349941981:=0
def tw5769243979075281467:=0
def tw5790242849500648938:=0
def tw5845245664559355392:=0
def tw5892094432470723516:=0
def tw5896943514628338201:=0
def tw5899337355685556481:=0
def tw5971585735959779533:=0
def tw615489666257125541:=0
def tw6182439609462314971:=0
def tw6417830814464539329:=0
def tw6428402274216747913:=0
def tw6482414852733992415:=0
def tw7030922649622522683:=0
def tw7114848180871413078:=0
def tw7224961168074603461:=0
def tw724287059611390899:=0
def tw7333597956832587374:=0
def tw7348705037423004512:=0
def tw7386428824027048137:=0
def tw7439402198498969792:=0
def tw7501694825966246044:=0
def tw7542388210387507364:=0
def tw7653890502560894739:=0
def tw77596278943128614:=0
def tw7854977380286980311:=0
def tw7877913087350818516:=0
def tw8627872586237878843:=0
def tw8675639700839680536:=0
def tw8686068510261393423:=0
def tw8688260368008678671:=0
def tw8716210828211684703:=0
def tw8800164086286050786:=0
def tw8846360905343207925:=0
def tw8958776162811846885:=0
def tw9035511514269598829:=0
def tw90672480026019520:=0
def tw9305379795036965801:=0
def tw9361588691948594864:=0
def tw9420863462952279379:=0
def tw9460033952470116986:=0
def tw9528062941478679103:=0
def tw9537626670267643159:=0
def tw966965844054080035:=0
def tw9675662979988825347:=0
def tw9737260903973201475:=0
def tw9787678206259266557:=0
def tw9875051639604944278:=0
def tw9942519784187395694:=0
end PySem.W.Fast
open PySem PySem.W PyProof.Rows
set_option maxRecDepth 100000 in
set_option maxHeartbeats 0 in
theorem PySem.Challenge.cw_turnline_k41_all_trains_holds : PySem.Challenge.rw_turnline_k41_all_trains.Holds := by
 w_on;o_law;k_head;(case hw=>w_witness2)
 k_fill
 refine K41.walk (l:=PySem.Challenge.rw_turnline_k41_all_trains) rfl rfl (λw h Y=>PySem.W.kIn_of Y) ?F
 case F=>
  intro w mg fa h KX G hmg
  refine' K41.all_mk KX G hmg ⟨?a1,?l1,?c1,?k1⟩ ⟨?a2,?l2,?c2,?k2⟩ ⟨?a3,?l3,?c3,?k3⟩ ⟨?a4,?l4,?c4,?k4⟩ ⟨?a5,?l5,?c5,?k5⟩ ⟨?a6,?l6,?c6,?k6⟩ ⟨?a7,?l7,?c7,?k7⟩ ⟨?a8,?l8,?c8,?k8⟩ ⟨?a9,?l9,?c9,?k9⟩ ⟨?a10,?l10,?c10,?k10⟩ ⟨?a11,?l11,?c11,?k11⟩ ⟨?a12,?l12,?c12,?k12⟩ ⟨?a13,?l13,?c13,?k13⟩ ⟨?a14,?l14,?c14,?k14⟩ ⟨?a15,?l15,?c15,?k15⟩ ⟨?a16,?l16,?c16,?k16⟩ ⟨?a17,?l17,?c17,?k17⟩ ?z1 ?z2 ?z3 ?z4 ?z5 ?z6 ?z7 ?z8 ?z9 ?z10 ?z11 ?z12 ?z13 ?z14 ?z15 ?z16 ?z17 ?z18 ?z19 ?ve ?xb0 ?xb1 ?xb2 ?xb3 ?xb4 ?xb5 ?xb6 ?xb7 ?xd1 ?xd2 ?xd3 ?xd4 ?xd5 ?xd6 ?xd7 ?xe1 ?xe2 ?xe3 ?xe4 ?xe5 ?xe6 ?xe7 ?nd ?ck0
  case a1|l1|c1|k1|a2|l2|c2|k2|a3|l3|c3|k3|a4|l4|c4|k4|a5|l5|c5|k5|a6|l6|c6|k6|a7|l7|c7|k7|a8|l8|c8|k8|a9|l9|c9|k9|a10|l10|c10|k10|a11|l11|c11|k11|a12|l12|c12|k12|a13|l13|c13|k13|a14|l14|c14|k14|a15|l15|c15|k15|a16|l16|c16|k16|a17|l17|c17|k17|z1|z2|z3|z4|z5|z6|z7|z8|z9|z10|z11|z12|z13|z14|z15|z16|z17|z18|z19=>k_is
  (case ve=>k_is)
  (case xb0=>refine'⟨?u1,?u2,?u3,?u4,?u5,?u6,?u7,?u8,?u9⟩;(case u1=>k_is);(case u2=>k_exc);(case u3=>k_is);(case u4=>k_is);(case u5=>k_is);(case u6=>k_is);(case u7=>k_is);(case u8=>k_is);(case u9=>k_is))
  (case xb1=>refine'⟨?u1,?u2,?u3,?u4,?u5,?u6,?u7,?u8,?u9⟩;(case u1=>k_is);(case u2=>k_exc);(case u3=>k_is);(case u4=>k_is);(case u5=>k_is);(case u6=>k_is);(case u7=>k_is);(case u8=>k_is);(case u9=>k_is))
  (case xb2=>refine'⟨?u1,?u2,?u3,?u4,?u5,?u6,?u7,?u8,?u9⟩;(case u1=>k_is);(case u2=>k_exc);(case u3=>k_is);(case u4=>k_is);(case u5=>k_is);(case u6=>k_is);(case u7=>k_is);(case u8=>k_is);(case u9=>k_is))
  (case xb3=>refine'⟨?u1,?u2,?u3,?u4,?u5,?u6,?u7,?u8,?u9⟩;(case u1=>k_is);(case u2=>k_exc);(case u3=>k_is);(case u4=>k_is);(case u5=>k_is);(case u6=>k_is);(case u7=>k_is);(case u8=>k_is);(case u9=>k_is))
  (case xb4=>refine'⟨?u1,?u2,?u3,?u4,?u5,?u6,?u7,?u8,?u9⟩;(case u1=>k_is);(case u2=>k_exc);(case u3=>k_is);(case u4=>k_is);(case u5=>k_is);(case u6=>k_is);(case u7=>k_is);(case u8=>k_is);(case u9=>k_is))
  (case xb5=>refine'⟨?u1,?u2,?u3,?u4,?u5,?u6,?u7,?u8,?u9⟩;(case u1=>k_is);(case u2=>k_exc);(case u3=>k_is);(case u4=>k_is);(case u5=>k_is);(case u6=>k_is);(case u7=>k_is);(case u8=>k_is);(case u9=>k_is))
  (case xb6=>refine'⟨?u1,?u2,?u3,?u4,?u5,?u6,?u7,?u8,?u9⟩;(case u1=>k_is);(case u2=>k_exc);(case u3=>k_is);(case u4=>k_is);(case u5=>k_is);(case u6=>k_is);(case u7=>k_is);(case u8=>k_is);(case u9=>k_is))
  (case xb7=>refine'⟨?u1,?u2,?u3,?u4,?u5,?u6,?u7,?u8,?u9⟩;(case u1=>k_is);(case u2=>k_exc);(case u3=>k_is);(case u4=>k_is);(case u5=>k_is);(case u6=>k_is);(case u7=>k_is);(case u8=>k_is);(case u9=>k_is))
  (case xd1=>refine'⟨?u1,?u2⟩;(case u1=>k_is);(case u2=>k_is))
  (case xd2=>refine'⟨?u1,?u2⟩;(case u1=>k_is);(case u2=>k_is))
  (case xd3=>refine'⟨?u1,?u2⟩;(case u1=>k_is);(case u2=>k_is))
  (case xd4=>refine'⟨?u1,?u2⟩;(case u1=>k_is);(case u2=>k_is))
  (case xd5=>refine'⟨?u1,?u2⟩;(case u1=>k_is);(case u2=>k_is))
  (case xd6=>refine'⟨?u1,?u2⟩;(case u1=>k_is);(case u2=>k_is))
  (case xd7=>refine'⟨?u1,?u2⟩;(case u1=>k_is);(case u2=>k_is))
  (case xe1=>refine'⟨?u1,?u2,?u3,?u4,?u5,?u6⟩;(case u1=>k_is);(case u2=>k_is);(case u3=>k_is);(case u4=>k_is);(case u5=>k_is);(case u6=>k_is))
  (case xe2=>refine'⟨?u1,?u2,?u3,?u4,?u5,?u6⟩;(case u1=>k_is);(case u2=>k_is);(case u3=>k_is);(case u4=>k_is);(case u5=>k_is);(case u6=>k_is))
  (case xe3=>refine'⟨?u1,?u2,?u3,?u4,?u5,?u6⟩;(case u1=>k_is);(case u2=>k_is);(case u3=>k_is);(case u4=>k_is);(case u5=>k_is);(case u6=>k_is))
  (case xe4=>refine'⟨?u1,?u2,?u3,?u4,?u5,?u6⟩;(case u1=>k_is);(case u2=>k_is);(case u3=>k_is);(case u4=>k_is);(case u5=>k_is);(case u6=>k_is))
  (case xe5=>refine'⟨?u1,?u2,?u3,?u4,?u5,?u6⟩;(case u1=>k_is);(case u2=>k_is);(case u3=>k_is);(case u4=>k_is);(case u5=>k_is);(case u6=>k_is))
  (case xe6=>refine'⟨?u1,?u2,?u3,?u4,?u5,?u6⟩;(case u1=>k_is);(case u2=>k_is);(case u3=>k_is);(case u4=>k_is);(case u5=>k_is);(case u6=>k_is))
  (case xe7=>refine'⟨?u1,?u2,?u3,?u4,?u5,?u6⟩;(case u1=>k_is);(case u2=>k_is);(case u3=>k_is);(case u4=>k_is);(case u5=>k_is);(case u6=>k_is))
  (case nd=>decide)
  (case ck0=>k_is)

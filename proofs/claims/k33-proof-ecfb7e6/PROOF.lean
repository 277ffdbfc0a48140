import PyProof.Rows.All
import Wide.All
import OpenK.AllK
import Wide.FinOn
import Lean
import PyProof.EqAt
import PyProof.EqKinds
import PyProof.TupleCall
import KE.KRevIter
import PyProof.StationsW
import PyProof.ExcClass2
import PyProof.ExcInit
import PyProof.ExcBaseAll.ValueError
import PyProof.ExcArgsOwn
import OpenK.KMake
import KE.KIsAll
import PyProof.InstStoreFacts
import PyProof.FString2
import KE.KTryMore
import PyProof.NsDelKeeps
import PyProof.Rows.StrSplitJoin
import PyProof.StrLawsTight
import PyProof.ListMulRoad
import PyProof.ZipIter
import PyProof.TupleIter
import PyProof.WalksMore
import KE.KSortAsk
import KE.KSortTup
import KE.KDictLaws
import PyProof.NeKinds
import PyProof.EnumFor
import PyProof.EnumMake
import PyProof.DictItems
import PyProof.Draws
import PyProof.Rows.CallKwBuiltin
import PySem.Challenge.RW_codemend_k33_what_counts
set_option compiler.extract_closed false
set_option linter.all false
def yy:=trivial
noncomputable section
section
open PySem PySem.Spec PySem.Calls PyProof.Rows
def yA:=@wpAny_bind
def yB:=@List.getElem?_eq_getElem
def yC:=@Heap.get?_push_of_some
def yD:=@List.getElem?_eq_some_iff
def yE:=@List.getElem?_map
def yF:=@List.length_map
def yG:=@wpAny_pure
def yH:=@Nat.le_refl
def yI:=@Heap.get?_push_size
def yJ:=@Option.map_eq_some_iff
def yK:=@if_neg
def yL:=@List.size_toArray
def yM:=@Heap.lt_size
def yN:=@if_pos
def yO:=@List.mem_cons
def yP:=@List.mem_cons_of_mem
def yQ:=@absurd
def yR:=@Bool.false_ne_true
def yS:=@List.map_cons
def yT:=@List.mem_cons_self
def yU:=@Nat.ne_of_lt
def yV:=@List.getElem?_append_left
def yW:=@List.mem_of_getElem?
def yX:=@List.getElem?_set_ne
def yY:=@List.length_append
def yZ:=@Nat.lt_of_lt_of_le
def ya:=@List.getElem?_append_right
def yb:=@Nat.zero_le
def yc:=@List.mem_append_right
def yd:=@List.not_mem_nil
def ye:=@List.length_take
def yf:=@List.length_cons
def yg:=@PyProof.Rows.boot_isinstance
def yh:=@wpAny_newObj_type
def yi:=@List.length_range
def yj:=@List.mem_singleton
def yk:=@decide_eq_false
def ym:=@List.append_nil
def yn:=@Bool.false_eq_true
def yo:=@congrArg
def yp:=@List.getElem_of_mem
def yq:=@List.mem_map
def yr:=@Or.inr
def yt:=@Nat.le_trans
def yu:=@wpAny_call_entry
def yw:=@List.find?_cons
def yx:=@List.filter_cons
def yz:=@Array.length_toList
def YA:=@Int.eq_ofNat_of_zero_le
def YB:=@wpAny_field
def YC:=@Array.getElem?_eq_getElem
def YD:=@wpAny_setField_rec
def YE:=@List.getElem?_set_self
def YF:=@List.lookup_cons
def YG:=@List.map_map
def YH:=@wpAny_holding
def YI:=@List.map_append
def YJ:=@Or.inl
def YK:=@PyProof.Rows.callWith_type1
def YL:=@wpAny_dictEntries
def YM:=@List.drop_eq_nil_of_le
def YN:=@Int.toNat_natCast
def YO:=@List.getElem?_range
def YQ:=@List.foldl_cons
def YR:=@List.pairwise_iff_getElem
def YS:=@List.drop_eq_getElem_cons
def YT:=@Heap.get?_update_self
def YU:=@wpAny_mono
def YV:=@PySem.boot_len
def YW:=@Heap.size_push
def YX:=@decide_eq_true_eq
def YY:=@List.mem_append
def YZ:=@PySem.mem_of_lookup
def Ya:=@List.replicate_succ
def Yb:=@List.map_congr_left
def Yc:=@Heap.get?_update_other
def Yd:=@Calls.callWith_builtin
def Ye:=@Bool.and_eq_true
def Yf:=@wpAny_seqItems
def Yg:=@List.nodup_cons
def Yh:=@PySem.F.slot_tuple_iterator_next
def Yi:=@Option.isSome_map
def Yj:=@wpAny_attempt
def Yk:=@PyProof.Rows.slot_tuple_getitem
def Yl:=@wpAny_typeNameOfWhole_itemiter
def Ym:=@wpAny_fieldsOf
def Yn:=@decide_eq_false_iff_not
def Yo:=@PySem.F.plainAttrs_list
def Yp:=@List.length_drop
def Yq:=@List.getElem?_replicate
def Yr:=@List.all_eq_true
def Ys:=@wpAny_typeNameOfWhole_keyiter
def Yt:=@wpAny_Call_Name_kw
def Yu:=@List.length_nil
def Yv:=@Bool.eq_iff_iff
def Yw:=@Nat.lt_irrefl
def Yx:=@List.any_cons
def Yy:=@List.length_replicate
def Yz:=@wpAny_truthy_bool
def JA:=@List.flatten_cons
end
set_option Elab.async false
set_option maxRecDepth 100000
namespace L2
open PySem PySem.Spec PyProof.Rows
abbrev Key:=Sum Int Str
def zjP:Key->Value->Bool
 | .inl k,v=>Value.isInt k v
 | .inr x,v=>Value.isStrOf x v
def zvn (w:World):Key->Int
 | .inl k=>hashInt k
 | .inr x=>hashStr w x
theorem zaY:∀ {k:Key} {v:Value},zjP k v=true->(∃ i t,k=Sum.inl i/\v=Value.int i t)\/(∃ x t,k=Sum.inr x/\v=Value.str x t)
 | .inl i,v,h=>by
  obtain ⟨t,e⟩:=Value.isInt_shape (k:=i) (v:=v) h; exact .inl ⟨i,t,rfl,e⟩
 | .inr x,v,h=>by
  obtain ⟨t,e⟩:=Value.isStrOf_shape (x:=x) (v:=v) h; exact .inr ⟨x,t,rfl,e⟩
theorem zlh (i:Int) (t:Tok):zjP (.inl i) (.int i t)=true:=by simp [zjP,Value.isInt]
theorem zlg (x:Str) (t:Tok):zjP (.inr x) (.str x t)=true:=by simp [zjP,Value.isStrOf]
theorem zrQ (a b:Int):decide ((Sum.inl a:Key)=Sum.inl b)=(a == b):=by
 by_cases e:a=b
 ·subst e; simp
 ·have h:¬ (Sum.inl a:Key)=Sum.inl b:=fun q=>e (Sum.inl.inj q)
  rw [yk h]; exact (beq_eq_false_iff_ne.mpr e).symm
theorem zrN (a b:Str):decide ((Sum.inr a:Key)=Sum.inr b)=decide (a=b):=by
 by_cases e:a=b
 ·subst e; simp
 ·have h:¬ (Sum.inr a:Key)=Sum.inr b:=fun q=>e (Sum.inr.inj q)
  rw [yk h,yk e]
theorem zrP (a:Int) (b:Str):decide ((Sum.inl a:Key)=Sum.inr b)=false:=yk (fun q=>nomatch q)
theorem zrO (a:Str) (b:Int):decide ((Sum.inr a:Key)=Sum.inl b)=false:=yk (fun q=>nomatch q)
def zaR (prog:Program) (w:World):PySem.KeyKind prog w Key where
 is:=zjP
 hash:=zvn w
 inj:=fun v a b ha hb=>by
  rcases zaY ha with ⟨i,t,rfl,rfl⟩ | ⟨x,t,rfl,rfl⟩
  ·rcases zaY hb with ⟨j,u,rfl,e⟩ | ⟨y,u,rfl,e⟩
   ·injection e with e1 _; rw [e1]
   ·exact nomatch e
  ·rcases zaY hb with ⟨j,u,rfl,e⟩ | ⟨y,u,rfl,e⟩
   ·exact nomatch e
   ·injection e with e1 _; rw [e1]
 byValue:=fun k v h=>by
  rcases zaY h with ⟨i,t,rfl,rfl⟩ | ⟨x,t,rfl,rfl⟩ <;> rfl
 pyHash:=fun hv h=>by
  rcases zaY hv with ⟨i,t,rfl,rfl⟩ | ⟨x,t,rfl,rfl⟩
  ·exact wpAny_pyHash_int h
  ·exact wpAny_pyHash_str h
 eqBool:=fun hu hv h=>by
  rcases zaY hu with ⟨i,t,rfl,rfl⟩ | ⟨x,t,rfl,rfl⟩
  ·rcases zaY hv with ⟨j,u,rfl,rfl⟩ | ⟨y,u,rfl,rfl⟩
   ·rw [zrQ] at h; exact wpAny_eqBool_int h
   ·rw [zrP] at h; exact SeqAt.EqAt.int_str i t y u _ _ _ _ h
  ·rcases zaY hv with ⟨j,u,rfl,rfl⟩ | ⟨y,u,rfl,rfl⟩
   ·rw [zrO] at h; exact SeqAt.EqAt.str_int x t j u _ _ _ _ h
   ·rw [zrN] at h; exact wpAny_eqBool_str h
 «strs»:=fun k x t v h=>by
  rcases zaY h with ⟨i,u,rfl,e⟩ | ⟨y,u,rfl,e⟩
  ·exact nomatch e
  ·injection e with e1 _
   subst e1
   cases v <;> rfl
theorem zig (prog:Program) (w:World) (i:Int) (t:Tok):(zaR prog w).is (.inl i) (.int i t)=true:=zlh i t
theorem zif (prog:Program) (w:World) (x:Str) (t:Tok):(zaR prog w).is (.inr x) (.str x t)=true:=zlg x t
inductive V where
 | non | bl (b:Bool) | int (i:Int) | str (x:Str) | byt (b:Array UInt8) | flt (b:UInt64) | ref (a:Addr) | ty (n:String)
 deriving DecidableEq
def zaV:V->Value->Prop
 | .non,u=>u=Value.none
 | .bl b,u=>u=Value.bool b
 | .int i,u=>∃ t,u=Value.int i t
 | .str x,u=>∃ t,u=Value.str x t
 | .byt b,u=>∃ t,u=Value.bytes b t
 | .flt b,u=>∃ t,u=Value.float b t
 | .ref a,u=>u=Value.ref a
 | .ty n,u=>u=Value.type n
abbrev zaK:List V->List Value->Prop:=Paired zaV
theorem zaK.length {xs:List V} {us:List Value} (r:zaK xs us):xs.length=us.length:=Paired.length r
theorem zaK.get:∀ {xs:List V} {us:List Value} {i:Nat} {x:V},zaK xs us->xs[i]?=some x->∃ u,us[i]?=some u/\zaV x u
 | _,_,_,_,.nil,e=>by simp at e
 | _,_,0,_,.cons r _,e=>by simp at e; subst e; exact ⟨_,rfl,r⟩
 | _,_,i+1,x,.cons _ t,e=>by
  obtain ⟨u,h1,h2⟩:=zaK.get (i:=i) (x:=x) t (by simpa using e)
  exact ⟨u,by simpa using h1,h2⟩
theorem zaK.set {x:V} {u:Value} (r:zaV x u):∀ {xs:List V} {us:List Value} (i:Nat),zaK xs us->zaK (xs.set i x) (us.set i u)
 | _,_,_,.nil=>.nil
 | _,_,0,.cons _ t=>.cons r t
 | _,_,i+1,.cons q t=>.cons q (zaK.set r i t)
theorem zaK.append:∀ {xs ys:List V} {us ws:List Value},zaK xs us->zaK ys ws->zaK (xs ++ ys) (us ++ ws)
 | _,_,_,_,.nil,s=>s
 | _,_,_,_,.cons r t,s=>.cons r (zaK.append t s)
theorem zaK.take:∀ {xs:List V} {us:List Value} (n:Nat),zaK xs us->zaK (xs.take n) (us.take n)
 | _,_,0,_=>.nil
 | _,_,_+1,.nil=>.nil
 | _,_,n+1,.cons r t=>.cons r (zaK.take n t)
theorem zaK.drop:∀ {xs:List V} {us:List Value} (n:Nat),zaK xs us->zaK (xs.drop n) (us.drop n)
 | _,_,0,r=>r
 | _,_,_+1,.nil=>.nil
 | _,_,n+1,.cons _ t=>zaK.drop n t
def zgC:Option V->Option Value->Prop
 | some v,some u=>zaV v u
 | none,none=>True
 | _,_=>False
def KV {κ:Type}:List (κ × V)->List (κ × Value)->Prop:=Paired fun (p:κ × V) (q:κ × Value)=>p.1=q.1/\zaV p.2 q.2
def kV:Key->V
 | .inl i=>.int i
 | .inr x=>.str x
inductive HO where
 | lst (xs:List V)
 | tup (xs:List V)
 | dK (kvs:List (Key × V)) | dT (kvs:List (List Key × V))
 | dE (kvs:List (List Key × V)) (ep:Nat)
 | set (S:Int->Bool) (n:Nat)
 | ins (C dx:Addr) (fs:List (Str × V))
 | own (x:Addr)
 | xd (fs:List (Str × V))
 | met (f x:Addr)
 | rng (lo hi:Int)
 | frz (o:Obj) (u:HO)
 | tbl (ps:Array Value)
 | ext (φ:Heap->Prop)
abbrev zuk:HO:=.ext fun _=>True
def zce:List V ⊕ Obj->HO
 | .inl xs=>.tup xs
 | .inr o=>.frz o zuk
abbrev Hp:=Addr->Option HO
def upd (H:Hp) (a:Addr) (o:HO):Hp:=fun b=>if b=a then some o else H b
theorem zo {H:Hp} {a:Addr} {o:HO}:upd H a o a=some o:=by unfold upd; rw [yN rfl]
theorem zr {H:Hp} {a b:Addr} {o:HO} (h:b≠a):upd H a o b=H b:=by unfold upd; rw [yK h]
theorem zen {H:Hp} {a:Addr} {o u:HO}:upd (upd H a o) a u=upd H a u:=by
 funext b; unfold upd; split <;> rfl
theorem zpx {H:Hp} {a b:Addr} {o u:HO} (h:H a=some o) (h':H b=some u) (d:o≠u):a≠b:=by
 intro e; subst e; rw [h] at h'; exact d (Option.some.inj h')
theorem zX {H:Hp} {a b:Addr} {o:HO} (h:H a=some o) (h':H b=none):a≠b:=by
 intro e; subst e; rw [h] at h'; cases h'
section
variable (P:Program) (w:World)
def zbG (H:Hp) (h:Heap) (a:Addr):HO->Prop
 | .lst xs=>xs.length<=sizeLine/\∃ (its:List Value) (n:Nat),zaK xs its/\h.get? a=some { cls:=.type "list",data:=.seq its.toArray n }
 | .tup xs=>xs.length<=sizeLine/\∃ its:List Value,zaK xs its/\IsTup h a its.toArray
 | .dK kvs=>kvs.length<=sizeLine/\(a == sysModules)=false/\∃ vs,KV kvs vs/\h.DictOf (zaR P w) a vs
 | .dT kvs=>kvs.length<=sizeLine/\(a == sysModules)=false/\∃ xs:List (List Key × Addr × Value),
   Paired (fun (p:List Key × V) (q:List Key × Addr × Value)=>p.1=q.1/\H q.2.1=some (.tup (p.1.map kV))/\zaV p.2 q.2.2) kvs xs /\
   ∃ o es ep,h.get? a=some o/\o.ExactDict/\o.data=.dict es ep/\es.toList=xs.map (entryOfKey (tupleKind (zaR P w)))/\(xs.map (·.1)).Nodup
 | .dE kvs ep=>kvs.length<=sizeLine/\(a == sysModules)=false/\∃ xs:List (List Key × Addr × Value),
   Paired (fun (p:List Key × V) (q:List Key × Addr × Value)=>p.1=q.1/\H q.2.1=some (.tup (p.1.map kV))/\zaV p.2 q.2.2) kvs xs /\
   ∃ o es,h.get? a=some o/\o.ExactDict/\o.data=.dict es ep/\es.toList=xs.map (entryOfKey (tupleKind (zaR P w)))/\(xs.map (·.1)).Nodup
 | .set S n=>h.SetOf (intKind P w) a S n
 | .ins C dx fs=>H dx=some (.own a)/\fs.length<=1000/\dx≠a/\h.get? a=some (W.instObj C dx) /\
   ∃ mA,h.Ns1 dx mA/\(∀ f,zgC (fs.lookup f) (mA f))/\PySem.Within mA (fs.map (·.1))
 | .own _=>∃ o,h.get? a=some o
 | .xd fs=>∃ mA,h.Ns1 a mA/\∀ f,zgC (fs.lookup f) (mA f)
 | .rng lo hi=>∃ t u v,h.get? a=some { cls:=.type "range",data:=.fields #[.int lo t,.int hi u,.int 1 v] }
 | .frz o u=>h.get? a=some o/\zbG H h a u
 | .tbl ps=>∃ ts:Array Value,h.get? a=some { cls:=.none,data:=.fields ts }/\TriplesOk ts.toList/\∀ pos cv,codeAmong pos ts.toList=some cv->∃ c oc vs t q t0,cv=.ref c/\H c=some (zce (.inr oc))/\oc.data=.fields vs/\vs[1]?=some (.str q t)/\ps[0]?=some (.str q t0)
 | .met f x=>h.get? a=some (W.methodObj (.ref f) (.ref x))
 | .ext φ=>φ h/\(∃ o,h.get? a=some o)/\∀ h1 h2:Heap,φ h1->(∀ o,h1.get? a=some o->h2.get? a=some o)->φ h2
def HOk (H:Hp) (h:Heap):Prop:=∀ a o,H a=some o->zbG P w H h a o
end
section
variable {P:Program} {w:World} {H H':Hp} {h h':Heap} {a:Addr} {o:HO}
theorem zbG.lt (x:zbG P w H h a o):a<h.objs.size:=by
 cases o with
 | lst xs=>obtain ⟨_,_,_,_,e⟩:=x; exact yM e
 | tup xs=>obtain ⟨_,_,_,p⟩:=x; exact p.lt
 | dK kvs=>obtain ⟨_,_,_,_,o,_,_,e,_⟩:=x; exact yM e
 | dT kvs=>obtain ⟨_,_,_,_,o,_,_,e,_⟩:=x; exact yM e
 | dE kvs ep=>obtain ⟨_,_,_,_,o,_,e,_⟩:=x; exact yM e
 | set S n=>obtain ⟨o,_,_,_,e,_⟩:=x; exact yM e
 | ins C dx fs=>obtain ⟨_,_,_,e,_⟩:=x; exact yM e
 | own y=>obtain ⟨_,e⟩:=x; exact yM e
 | xd fs=>obtain ⟨_,⟨_,_,_,e,_⟩,_⟩:=x; exact yM e
 | rng lo hi=>obtain ⟨_,_,_,e⟩:=x; exact yM e
 | frz ob u=>obtain ⟨e,_⟩:=x; exact yM e
 | tbl ps=>obtain ⟨_,e,_⟩:=x; exact yM e
 | met f y=>exact yM (show h.get? a=some _ from x)
 | ext φ=>obtain ⟨_,⟨_,e⟩,_⟩:=x; exact yM e
theorem Paired.mapP {α β:Type} {F G:α->β->Prop}:∀ {l₁:List α} {l₂:List β},Paired F l₁ l₂->(∀ a b,F a b->G a b)->Paired G l₁ l₂
 | _,_,.nil,_=>.nil
 | _,_,.cons r t,f=>.cons (f _ _ r) (Paired.mapP t f)
theorem zbG.stay (x:zbG P w H h a o) (k:∀ b u,(b=a\/H b=some (.own a))->h.get? b=some u->h'.get? b=some u)
  (ho:∀ b,H b=some (.own a)->H' b=some (.own a)) (ht:∀ b xs,H b=some (zce xs)->H' b=some (zce xs)):zbG P w H' h' a o:=by
 induction o with
 | lst xs=>obtain ⟨z,its,n,r,e⟩:=x; exact ⟨z,its,n,r,k _ _ (.inl rfl) e⟩
 | tup xs=>obtain ⟨z,its,r,ob,e,c⟩:=x; exact ⟨z,its,r,ob,k _ _ (.inl rfl) e,c⟩
 | dK kvs=>obtain ⟨z,y,vs,r,ob,es,ep,e,c⟩:=x; exact ⟨z,y,vs,r,ob,es,ep,k _ _ (.inl rfl) e,c⟩
 | dT kvs =>
  obtain ⟨z,y,xs,r,ob,es,ep,e,c⟩:=x
  exact ⟨z,y,xs,Paired.mapP r fun p q z=>⟨z.1,ht _ (.inl _) z.2.1,z.2.2⟩,ob,es,ep,k _ _ (.inl rfl) e,c⟩
 | dE kvs ep =>
  obtain ⟨z,y,xs,r,ob,es,e,c⟩:=x
  exact ⟨z,y,xs,Paired.mapP r fun p q z=>⟨z.1,ht _ (.inl _) z.2.1,z.2.2⟩,ob,es,k _ _ (.inl rfl) e,c⟩
 | set S n=>obtain ⟨ob,es,ep,t,e,c⟩:=x; exact ⟨ob,es,ep,t,k _ _ (.inl rfl) e,c⟩
 | ins C dx fs =>
  obtain ⟨d,z,ne,e,mA,⟨od,es,ep,e2,c⟩,r⟩:=x
  exact ⟨ho _ d,z,ne,k _ _ (.inl rfl) e,mA,⟨od,es,ep,k _ _ (.inr d) e2,c⟩,r⟩
 | own y=>obtain ⟨ob,e⟩:=x; exact ⟨ob,k _ _ (.inl rfl) e⟩
 | xd fs=>obtain ⟨mA,⟨od,es,ep,e,c⟩,r⟩:=x; exact ⟨mA,⟨od,es,ep,k _ _ (.inl rfl) e,c⟩,r⟩
 | rng lo hi=>obtain ⟨t,u,v,e⟩:=x; exact ⟨t,u,v,k _ _ (.inl rfl) e⟩
 | frz ob u ih=>obtain ⟨e,q⟩:=x; exact ⟨k _ _ (.inl rfl) e,ih q⟩
 | tbl ps=>obtain ⟨ts,e,t,c⟩:=x; exact ⟨ts,k _ _ (.inl rfl) e,t,fun pos cv z=>let ⟨c,oc,vs,t,q,t0,z1,z2,z3⟩:=c pos cv z; ⟨c,oc,vs,t,q,t0,z1,ht _ _ z2,z3⟩⟩
 | met f y =>
  have e:h.get? a=some (W.methodObj (.ref f) (.ref y)):=x
  show h'.get? a=some (W.methodObj (.ref f) (.ref y))
  exact k a _ (.inl rfl) e
 | ext φ=>obtain ⟨p,⟨o,e⟩,st⟩:=x; exact ⟨st _ _ p fun o q=>k _ _ (.inl rfl) q,⟨o,k _ _ (.inl rfl) e⟩,st⟩
theorem HOk.lt (x:HOk P w H h) (e:H a=some o):a<h.objs.size:=(x a o e).lt
theorem HOk.fresh (x:HOk P w H h) (e:h.objs.size<=a):H a=none:=by
 cases q:H a with
 | none=>rfl
 | some u=>exact yQ (yZ (x.lt q) e) (Yw _)
theorem HOk.kept (x:HOk P w H h) (k:∀ b u,h.get? b=some u->h'.get? b=some u):HOk P w H h':=fun a o e =>
 (x a o e).stay (fun b u _ q=>k b u q) (fun _ q=>q) fun _ _ q=>q
theorem HOk.laid (x:HOk P w H h) (k:∀ b u,h.get? b=some u->h'.get? b=some u) (hp:h.objs.size<=a) (new:zbG P w (upd H a o) h' a o):HOk P w (upd H a o) h':=fun b u e=>by
 have hn:=x.fresh hp
 by_cases hb:b=a
 ·subst hb; rw [zo] at e; cases e; exact new
 ·rw [zr hb] at e
  exact (x b u e).stay (fun c v _ q=>k c v q) (fun c q=>by rw [zr (zX q hn)]; exact q) fun c xs q=>by rw [zr (zX q hn)]; exact q
end
def Rd (H:Hp) (a:Addr) (u:HO):Prop:=H a=some u\/∃ o,H a=some (.frz o u)
theorem Rd.ok {P:Program} {w:World} {H:Hp} {h:Heap} {a:Addr} {u:HO} (r:Rd H a u) (x:HOk P w H h):zbG P w H h a u:=by
 rcases r with r | ⟨o,r⟩
 ·exact x a u r
 ·obtain ⟨_,q⟩:=x a _ r
  exact q
def Mut:Option HO->Prop
 | some (.lst _)=>True
 | some (.dK _)=>True
 | some (.dT _)=>True
 | some (.dE _ _)=>True
 | some (.set _ _)=>True
 | some (.ins _ _ _)=>True
 | some (.ext _)=>True
 | _=>False
section
variable {P:Program} {w:World} {H:Hp} {h h':Heap} {x e:Addr} {o':HO}
theorem HOk.write (ok:HOk P w H h) (mu:Mut (H x)) (he:e=x\/H e=some (.own x)) (k:∀ b u,b≠e->h.get? b=some u->h'.get? b=some u) (heo:∃ u,h'.get? e=some u)
  (new:zbG P w (upd H x o') h' x o'):HOk P w (upd H x o') h':=fun b u q=>by
 have nown:∀ c y,H c=some (.own y)->c≠x:=fun c y r z=>by subst z; rw [r] at mu; exact mu
 have ntup:∀ c xs,H c=some (zce xs)->c≠x:=fun c xs r z=>by subst z; rw [r] at mu; cases xs <;> exact mu
 by_cases hb:b=x
 ·subst hb; rw [zo] at q; cases q; exact new
 ·rw [zr hb] at q
  by_cases hbe:b=e
  ·have q':H b=some (.own x):=by
    rcases he with z | z
    ·exact yQ (hbe.trans z) hb
    ·rw [hbe]; exact z
   rw [q] at q'; cases q'
   obtain ⟨v,hv⟩:=heo
   exact ⟨v,by rw [hbe]; exact hv⟩
  ·refine (ok b u q).stay (fun c v hc r=>k c v ?_ r) (fun c r=>by rw [zr (nown c b r)]; exact r) fun c xs r=>by rw [zr (ntup c xs r)]; exact r
   rcases hc with rfl | hc
   ·exact hbe
   ·rintro rfl
    rcases he with z | z
    ·exact nown c b hc z
    ·rw [hc] at z; cases z; exact hb rfl
end
structure Un (fs ex:List Addr) (H H':Hp) (h h':Heap):Prop where
 keep:∀ b o,h.get? b=some o->H b=none->b ∉ fs->b ∉ ex->h'.get? b=some o
 slot:∀ b o,h.get? b=some o->H b=none->b ∈ fs->b ∉ ex->∃ sl,h'.get? b=some { o with slots:=sl }
 free:∀ b o,h.get? b=some o->H b=none->b ∉ ex->H' b=none
 there:∀ b o,h.get? b=some o->b ∉ ex->∃ o',h'.get? b=some o'
 tups:∀ b xs,H b=some (.tup xs)->H' b=some (.tup xs)
 frzs:∀ b o u,H b=some (.frz o u)->H' b=some (.frz o u)
 tbls:∀ b ps,H b=some (.tbl ps)->∃ more,H' b=some (.tbl (ps ++ more))
section
variable {fs fs' ex ex':List Addr} {H H1 H2:Hp} {h h1 h2 h':Heap} {a x e:Addr} {o:HO}
theorem Un.any (u:Un fs ex H H1 h h1) {b:Addr} {ob:Obj} (q:h.get? b=some ob) (n:H b=none) (hx:b ∉ ex):∃ sl,h1.get? b=some { ob with slots:=sl }:=by
 by_cases hb:b ∈ fs
 ·exact u.slot b ob q n hb hx
 ·exact ⟨ob.slots,u.keep b ob q n hb hx⟩
theorem Un.kept (k:∀ b u,h.get? b=some u->h'.get? b=some u):Un fs ex H H h h' :=
 ⟨fun b ob q _ _ _=>k b ob q,fun b ob q _ _ _=>⟨ob.slots,k b ob q⟩,fun _ _ _ n _=>n,fun b ob q _=>⟨ob,k b ob q⟩,fun _ _ q=>q,fun _ _ _ q=>q,fun _ ps q=>⟨#[],by rw [q]; simp⟩⟩
theorem Un.refl:Un fs ex H H h h:=Un.kept fun _ _ q=>q
theorem Un.laid (k:∀ b u,h.get? b=some u->h'.get? b=some u) (hp:h.objs.size<=a) (hn:H a=none):Un fs ex H (upd H a o) h h' where
 keep:=fun b u q _ _ _=>k b u q
 slot:=fun b u q _ _ _=>⟨u.slots,k b u q⟩
 free:=fun b u q n _=>by rw [zr (yU (yZ (yM q) hp))]; exact n
 there:=fun b u q _=>⟨u,k b u q⟩
 tups:=fun b xs q=>by rw [zr (zX q hn)]; exact q
 frzs:=fun b u xs q=>by rw [zr (zX q hn)]; exact q
 tbls:=fun b ps q=>⟨#[],by rw [zr (zX q hn),q]; simp⟩
theorem Un.write (mu:Mut (H x)) (he:e=x\/H e=some (.own x)) (k:∀ b u,b≠e->h.get? b=some u->h'.get? b=some u) (heo:∃ u,h'.get? e=some u):Un fs ex H (upd H x o) h h':=by
 have hx:∀ b,H b=none->b≠x:=fun b n z=>by subst z; rw [n] at mu; exact mu
 have hb:∀ b,H b=none->b≠e:=fun b n z=>by
  subst z
  rcases he with r | r
  ·exact hx b n r
  ·rw [n] at r; cases r
 have hm:∀ b u,H b=some u->¬ Mut (some u)->b≠x:=fun b u q nm z=>by subst z; rw [q] at mu; exact nm mu
 refine ⟨fun b u q n _ _=>k b u (hb b n) q,fun b u q n _ _=>⟨u.slots,k b u (hb b n) q⟩,fun b u q n _=>by rw [zr (hx b n)]; exact n,fun b u q _=>?_,
  fun b xs q=>by rw [zr (hm b _ q fun z=>z)]; exact q,fun b u xs q=>by rw [zr (hm b _ q fun z=>z)]; exact q,fun b ps q=>⟨#[],by rw [zr (hm b _ q fun z=>z),q]; simp⟩⟩
 by_cases hbe:b=e
 ·subst hbe; exact heo
 ·exact ⟨u,k b u hbe q⟩
end
def zqa (g h:Heap) (L:Addr):List (Addr × Obj):=(List.range h.objs.size).filterMap fun a=>if a=L\/(g.get? a).isSome=true then none else (h.get? a).map fun o=>(a,o)
def zd1 (g h:Heap) (L d:Addr):List (Addr × Obj):=(zqa g h L).filter fun p=>decide (p.1≠d)
def zeM (q:Str):Obj:=⟨.str q 0,none,.freed,#[]⟩
def zj1 (base:Heap) (H:Hp):Prop:=∀ P q,base.objs[P]?=some (zeM q)->∃ ps,H P=some (.tbl ps)/\ps[0]?=some (.str q 0)
theorem zj1.un {base:Heap} {H H':Hp} (t:zj1 base H) (u:∀ b ps,H b=some (.tbl ps)->∃ more,H' b=some (.tbl (ps ++ more))):zj1 base H':=fun P q e=>by
 obtain ⟨ps,e1,e2⟩:=t P q e; obtain ⟨more,e3⟩:=u P ps e1; refine ⟨_,e3,?_⟩
 rw [Array.getElem?_append_left (by rw [Array.getElem?_eq_some_iff] at e2; exact e2.1)]
 exact e2
def zsK:Obj:=⟨.none,none,.freed,#[]⟩
def zm6 (o:Obj):Option HO->Obj
 | some (.tbl ps)=>match (ps[0]?:Option Value) with
  | some (.str q 0)=>zeM q
  | _=>zsK
 | some _=>zsK
 | none=>match o.data with
  | .freed=>zsK
  | _=>o
def nrm (h:Heap) (H:Hp):Heap:=⟨h.objs.mapIdx fun a o=>zm6 o (H a),h.life⟩
theorem zm5 (h:Heap) (H:Hp):(nrm h H).objs.size=h.objs.size:=by unfold nrm; simp
theorem ziN (h:Heap) (H:Hp) (b:Addr):(nrm h H).objs[b]?=(h.objs[b]?).map fun o=>zm6 o (H b):=by unfold nrm; simp
theorem zfn {h:Heap} {b:Addr} {o:Obj} (e:h.objs[b]?=some o) (n:o.data≠.freed):h.get? b=some o:=by
 unfold Heap.get?
 rw [e]; obtain ⟨c,d,dt,sl⟩:=o
 cases dt <;> first | rfl | exact yQ rfl n
theorem zdV {h:Heap} {b:Addr} {o:Obj} (e:h.get? b=some o):h.objs[b]?=some o/\o.data≠.freed:=by
 unfold Heap.get? at e
 cases q:h.objs[b]? with
 | none=>rw [q] at e; cases e
 | some u =>
  rw [q] at e; obtain ⟨c,d,dt,sl⟩:=u
  cases dt <;> first | (cases e; exact ⟨rfl,fun z=>nomatch z⟩) | cases e
theorem zpv {h:Heap} {H:Hp} {b:Addr} {o:Obj} (e:h.get? b=some o) (n:H b=none):(nrm h H).get? b=some o:=by
 obtain ⟨e1,e2⟩:=zdV e; refine zfn ?_ e2; rw [ziN,e1,n]
 show some (zm6 o none)=some o
 obtain ⟨c,d,dt,sl⟩:=o
 cases dt <;> first | rfl | exact yQ rfl e2
theorem zrx {h:Heap} {H:Hp} {b:Addr} {o:Obj} (e:(nrm h H).get? b=some o):h.get? b=some o/\H b=none:=by
 obtain ⟨e1,e2⟩:=zdV e; rw [ziN] at e1
 cases q:h.objs[b]? with
 | none=>rw [q] at e1; cases e1
 | some u =>
  rw [q] at e1
  have e3:zm6 u (H b)=o:=Option.some.inj e1
  cases z:H b with
  | some t =>
   rw [z] at e3
   exfalso
   unfold zm6 at e3; split at e3
   ·split at e3 <;> exact e2 (by rw [<- e3]; rfl)
   ·exact e2 (by rw [<- e3]; rfl)
   ·rename_i y; cases y
  | none =>
   rw [z] at e3; refine ⟨?_,rfl⟩; obtain ⟨c,d,dt,sl⟩:=u; unfold zm6 at e3
   cases dt <;> first | (cases e3; exact zfn q fun y=>nomatch y) | exact yQ (show o.data=.freed by rw [<- e3]; rfl) e2
theorem zm4 (h:Heap) (H:Hp):zj1 (nrm h H) H:=fun P q e=>by
 rw [ziN] at e
 cases z:h.objs[P]? with
 | none=>rw [z] at e; cases e
 | some u =>
  rw [z] at e
  have e3:zm6 u (H P)=zeM q:=Option.some.inj e
  cases y:H P with
  | none =>
   rw [y] at e3
   exfalso
   obtain ⟨c,d,dt,sl⟩:=u; unfold zm6 zeM zsK at e3
   cases dt <;> cases e3
  | some t =>
   rw [y] at e3; unfold zm6 at e3; split at e3
   ·rename_i ps hps
    cases hps; split at e3
    ·rename_i q' hq
     cases e3; exact ⟨_,rfl,hq⟩
    ·cases e3
   ·cases e3
   ·rename_i hh; cases hh
structure Mod (K:W.Frag) (mg:Str->Option Value) (base:Heap):Prop where
 kin:K.In base
 glob:base.Ns mainGlobals mg
 blt:∃ mb,base.Ns builtinsNs mb/\∀ x:Str,x≠"__name__"->mb x=bootBuiltins x
 nolimit:base.NoLimit
 bm:∃ bm ob,mg "__builtins__"=some (.ref bm)/\bm≠builtinsNs/\base.get? bm=some ob/\ob.cls=.type "module"/\ob.dict=some builtinsNs/\ob.data=.plain
/-- the context: a def's body (or a comprehension's block) running. base: fixed through the whole law; s₀, H₀: the entry; outer: the frames whose slots others may change (a def's callers); stack: all frames that run;
   ex: iterators that were made ahead of the entry and are walked here (a comprehension's); fn: the names whose cells were made at the entry (a def: all; a comprehension's block: its own); calm: not within an except suite; pn: pins that every state bears; xe: what is wanted of an exception that leaves the code -/
structure Cx where
 prog:Program
 w:World
 K:W.Frag
 mg:Str->Option Value
 base:Heap
 A:Around
 N:List Str
 s₀:Shared
 H₀:Hp
 env:Env
 outer:List Env
 stack:List Env
 ex:List Addr
 fn:Str->Bool
 calm:Bool
 pn:List (Addr × Obj)
 xe:Value->Shared->Prop
def frs (l:List Env):List Addr:=l.filterMap (·.frame)
abbrev Cx.fs (X:Cx):List Addr:=frs X.outer
def Vis (sc:Scope) (x:Str):Prop:=sc.names.lookup x=some .local\/sc.names.lookup x=some .cell\/sc.names.lookup x=some .free
def Loc (sc:Scope) (x:Str):Prop:=sc.names.lookup x=some .local\/sc.names.lookup x=some .cell
def zvC (env:Env) (h:Heap) (m:Str->Option Value) (x:Str) (u:Value):Prop :=
 (env.kindOf x=some .local/\m x=some u)\/((env.kindOf x=some .cell\/env.kindOf x=some .free)/\∃ c,env.cells.lookup x=some c/\h.IsCell c (some u))
structure Cx.Ok (X:Cx):Prop where
 mod:Mod X.K X.mg X.base
 kind:X.env.scope.kind=.function
 glob:X.env.globals=mainGlobals
 blt:X.env.builtins=builtinsNs
 above:X.s₀.heap.objs.size<=X.env.locals
 inj:∀ x y c,X.env.cells.lookup x=some c->X.env.cells.lookup y=some c->x=y
 has:∀ x,(X.env.kindOf x=some .cell\/X.env.kindOf x=some .free)->∃ c,X.env.cells.lookup x=some c
 cab:∀ x c,X.fn x=true->X.env.cells.lookup x=some c->X.s₀.heap.objs.size<=c
 hd:X.calm=true->X.A.handled=none
 frames:X.A.frames=some X.stack
 stk:X.stack=X.outer\/(X.stack=X.env :: X.outer/\X.env.frame=some X.env.locals)
 exf:∀ b ∈ X.ex,b≠X.env.locals/\∀ x c,X.env.cells.lookup x=some c->c≠b
 bs:∀ b o,X.base.get? b=some o->X.s₀.heap.get? b=some o/\X.H₀ b=none
 bsz:X.base.objs.size<=X.s₀.heap.objs.size
 noex:∀ b o,X.base.get? b=some o->b ∉ X.ex
 exfs:∀ b ∈ X.ex,b ∉ X.fs
 funs:X.s₀.heap.FunFrames X.base X.outer
 frf:∀ b ∈ X.fs,X.H₀ b=none
 tab:zj1 X.base X.H₀
structure Inv (X:Cx) (pins:List (Addr × Obj)) (σ:List (Option V)) (H:Hp) (s:Shared):Prop where
 ok:X.Ok
 os:s.os=X.s₀.os
 bare:AllBare s.gens
 base:Un X.fs X.ex X.H₀ H X.s₀.heap s.heap
 loc:∃ m,s.heap.Ns X.env.locals m/\∀ (i:Nat) (x:Str) (v:V),X.N[i]?=some x->σ[i]?=some (some v)->Vis X.env.scope x->∃ u,zaV v u/\zvC X.env s.heap m x u
 cell:∀ x c,X.env.cells.lookup x=some c->∃ v,s.heap.IsCell c v
 free:H X.env.locals=none
 freeC:∀ x c,X.env.cells.lookup x=some c->H c=none
 pin:∀ p ∈ X.pn ++ pins,s.heap.get? p.1=some p.2/\H p.1=none/\p.1≠X.env.locals/\p.1 ∉ X.fs/\∀ v,p.2.data≠.cell v
 hok:HOk X.prog X.w H s.heap
 len:σ.length=X.N.length
section
variable {X:Cx} {pins:List (Addr × Obj)} {σ:List (Option V)} {H H':Hp} {s:Shared} {h':Heap}
theorem Cx.Ok.nofr (ok:X.Ok) {b:Addr} {o:Obj} (e:X.base.get? b=some o):b ∉ X.fs:=fun hb=>by
 have:=(ok.funs.mem hb).1
 rw [e] at this; cases this
theorem Inv.bs (I:Inv X pins σ H s):∀ b o,X.base.get? b=some o->s.heap.get? b=some o/\H b=none:=fun b o e =>
 ⟨I.base.keep b o (I.ok.bs b o e).1 (I.ok.bs b o e).2 (I.ok.nofr e) (I.ok.noex b o e),I.base.free b o (I.ok.bs b o e).1 (I.ok.bs b o e).2 (I.ok.noex b o e)⟩
theorem Inv.bk (I:Inv X pins σ H s):∀ b o,X.base.get? b=some o->s.heap.get? b=some o:=fun b o e=>(I.bs b o e).1
theorem Inv.mod (I:Inv X pins σ H s):Mod X.K X.mg X.base:=I.ok.mod
theorem Inv.kIn (I:Inv X pins σ H s):X.K.In s.heap:=I.ok.mod.kin.keeps I.bk
theorem Inv.lt (I:Inv X pins σ H s):X.env.locals<s.heap.objs.size:=let ⟨_,hn,_⟩:=I.loc; hn.lt
theorem Inv.sz (I:Inv X pins σ H s):X.s₀.heap.objs.size<=s.heap.objs.size:=yt I.ok.above (Nat.le_of_lt I.lt)
theorem Inv.nofs (I:Inv X pins σ H s) {a:Addr} (h:s.heap.objs.size<=a):a ∉ X.fs:=fun hb=>by
 obtain ⟨_,o,ho,_⟩:=I.ok.funs.mem hb; exact yQ (yZ (yM ho) (yt I.sz h)) (Yw _)
theorem Inv.cne (I:Inv X pins σ H s):∀ x c,X.env.cells.lookup x=some c->c≠X.env.locals:=fun x c e z=>by
 obtain ⟨v,o,ho,hd⟩:=I.cell x c e
 obtain ⟨m,⟨o',es,ep,ho',hd',_⟩,_⟩:=I.loc
 rw [z,ho'] at ho; cases ho; rw [hd'] at hd; cases hd
theorem Inv.funs (I:Inv X pins σ H s):s.heap.FunFrames X.base X.outer:=by
 have all:∀ (l:List Env),(∀ b ∈ frs l,b ∈ X.fs)->X.s₀.heap.FunFrames X.base l->s.heap.FunFrames X.base l:=by
  intro l
  induction l with
  | nil=>intro _ _; trivial
  | cons env r ih =>
   intro hs hl
   obtain ⟨hk,⟨L,o,hf,hn,ho,hd⟩,hr⟩:=hl
   have hL:L ∈ X.fs:=hs L (by unfold frs; rw [List.filterMap_cons,hf]; exact yT)
   obtain ⟨sl,e⟩:=I.base.slot L o ho (I.ok.frf L hL) hL fun z=>I.ok.exfs L z hL
   exact ⟨hk,⟨L,_,hf,hn,e,hd⟩,ih (fun b hb=>hs b (by unfold frs; rw [List.filterMap_cons,hf]; exact yP _ hb)) hr⟩
 exact all X.outer (fun _ hb=>hb) I.ok.funs
theorem Inv.stack (I:Inv X pins σ H s):s.heap.FunFrames X.base X.stack:=by
 rcases I.ok.stk with e | ⟨e,hf⟩
 ·rw [e]; exact I.funs
 ·rw [e]
  obtain ⟨m,hn,_⟩:=I.loc
  refine .cons (by rw [I.ok.kind]; decide) hf hn ?_ I.funs
  exact Heap.get?_none_of_le (yt I.ok.bsz I.ok.above)
theorem Inv.stkSub (I:Inv X pins σ H s):∀ b ∈ frs X.stack,b ∈ X.env.locals :: X.fs:=fun b hb=>by
 rcases I.ok.stk with e | ⟨e,hf⟩
 ·rw [e] at hb; exact yP _ hb
 ·rw [e] at hb
  unfold frs at hb; rw [List.filterMap_cons,hf] at hb; exact hb
theorem Inv.stkFree (I:Inv X pins σ H s):∀ b ∈ frs X.stack,H b=none:=fun b hb=>by
 rcases yO.mp (I.stkSub b hb) with e | hb
 ·rw [e]; exact I.free
 ·obtain ⟨_,o,ho,_⟩:=I.ok.funs.mem hb
  exact I.base.free b o ho (I.ok.frf b hb) fun z=>I.ok.exfs b z hb
theorem Inv.step {g':Array GenState} {t':Nat} {d':Drawn} {ch:List Addr} (I:Inv X pins σ H s)
  (hch:∀ b ∈ ch,(b ∈ X.ex\/X.s₀.heap.objs.size<=b)/\b≠X.env.locals/\(∀ x c,X.env.cells.lookup x=some c->c≠b)/\∀ p ∈ X.pn ++ pins,p.1≠b)
  (keep:∀ b o,b≠X.env.locals->b ∉ X.fs->b ∉ ch->s.heap.get? b=some o->H b=none->h'.get? b=some o)
  (slot:∀ b o,b≠X.env.locals->b ∈ X.fs->b ∉ ch->s.heap.get? b=some o->H b=none->∃ sl,h'.get? b=some { o with slots:=sl }) (free:∀ b o,b ∉ ch->s.heap.get? b=some o->H b=none->H' b=none)
  (there:∀ b o,b ∉ ch->s.heap.get? b=some o->∃ o',h'.get? b=some o')
  (tups:∀ b xs,H b=some (.tup xs)->H' b=some (.tup xs)) (frzs:∀ b o u,H b=some (.frz o u)->H' b=some (.frz o u)) (tbls:∀ b ps,H b=some (.tbl ps)->∃ more,H' b=some (.tbl (ps ++ more)))
  (ns:∀ m,s.heap.Ns X.env.locals m->h'.Ns X.env.locals m) (hok:HOk X.prog X.w H' h') (hg:AllBare g') :
  Inv X pins σ H' { s with heap:=h',gens:=g',drawn:=d',toks:=t' }:=by
 have neL:∀ b o,X.s₀.heap.get? b=some o->b≠X.env.locals:=fun b o e=>yU (yZ (yM e) I.ok.above)
 have neC:∀ b o,X.s₀.heap.get? b=some o->b ∉ X.ex->b ∉ ch:=fun b o e hx hb=>by
  rcases (hch b hb).1 with z | z
  ·exact hx z
  ·exact yQ (yZ (yM e) z) (Yw _)
 have cellK:∀ x c,X.env.cells.lookup x=some c->∀ v,s.heap.IsCell c v->h'.IsCell c v:=fun x c e v ⟨o,ho,hd⟩=>by
  have nch:c ∉ ch:=fun z=>(hch c z).2.2.1 x c e rfl
  by_cases hc:c ∈ X.fs
  ·obtain ⟨sl,q⟩:=slot c o (I.cne x c e) hc nch ho (I.freeC x c e)
   exact ⟨_,q,hd⟩
  ·exact ⟨o,keep c o (I.cne x c e) hc nch ho (I.freeC x c e),hd⟩
 refine ⟨I.ok,I.os,hg,⟨fun b o e n hb hx=>?_,fun b o e n hb hx=>?_,fun b o e n hx=>?_,fun b o e hx=>?_,fun b xs e=>tups b xs (I.base.tups b xs e),fun b o xs e=>frzs b o xs (I.base.frzs b o xs e),fun b ps e=>?_⟩,?_,fun x c e=>?_,?_,fun x c e=>?_,fun p hp=>?_,hok,I.len⟩
 ·exact keep b o (neL b o e) hb (neC b o e hx) (I.base.keep b o e n hb hx) (I.base.free b o e n hx)
 ·obtain ⟨sl,e1⟩:=I.base.slot b o e n hb hx
  obtain ⟨sl',e2⟩:=slot b _ (neL b o e) hb (neC b o e hx) e1 (I.base.free b o e n hx); exact ⟨sl',e2⟩
 ·obtain ⟨o',e1⟩:=I.base.there b o e hx
  exact free b o' (neC b o e hx) e1 (I.base.free b o e n hx)
 ·obtain ⟨o',e1⟩:=I.base.there b o e hx
  exact there b o' (neC b o e hx) e1
 ·obtain ⟨m1,e1⟩:=I.base.tbls b ps e
  obtain ⟨m2,e2⟩:=tbls b _ e1
  exact ⟨m1 ++ m2,by rw [e2,Array.append_assoc]⟩
 ·obtain ⟨m,hn,hl⟩:=I.loc
  refine ⟨m,ns m hn,fun i x v e1 e2 e3=>?_⟩
  obtain ⟨u,r,l⟩:=hl i x v e1 e2 e3; refine ⟨u,r,?_⟩
  rcases l with l | ⟨k,c,e,z⟩
  ·exact .inl l
  ·exact .inr ⟨k,c,e,cellK x c e _ z⟩
 ·obtain ⟨v,z⟩:=I.cell x c e
  exact ⟨v,cellK x c e v z⟩
 ·obtain ⟨m,⟨o,_,_,ho,_⟩,_⟩:=I.loc
  exact free _ o (fun z=>(hch _ z).2.1 rfl) ho I.free
 ·obtain ⟨v,o,ho,hd⟩:=I.cell x c e
  exact free c o (fun z=>(hch c z).2.2.1 x c e rfl) ho (I.freeC x c e)
 ·obtain ⟨e,n,ne,nf,d⟩:=I.pin p hp
  have nch:p.1 ∉ ch:=fun z=>(hch p.1 z).2.2.2 p hp rfl
  exact ⟨keep p.1 p.2 ne nf nch e n,free p.1 p.2 nch e n,ne,nf,d⟩
theorem Inv.un {t':Nat} (I:Inv X pins σ H s) (u:Un X.fs [] H H' s.heap h') (hok:HOk X.prog X.w H' h'):Inv X pins σ H' { s with heap:=h',toks:=t' }:=by
 obtain ⟨m,⟨o,es,ep,ho,r⟩,_⟩:=id I.loc
 obtain ⟨sl,hL⟩:=u.any ho I.free (by simp)
 exact I.step (g':=s.gens) (d':=s.drawn) (ch:=[]) (fun _ z=>nomatch z) (fun b o _ hb _ e n=>u.keep b o e n hb (by simp)) (fun b o _ hb _ e n=>u.slot b o e n hb (by simp)) (fun b o _ e n=>u.free b o e n (by simp)) (fun b o _ e=>u.there b o e (by simp)) u.tups u.frzs u.tbls (fun m' hm=>by
  obtain ⟨o',es',ep',ho',r'⟩:=hm
  rw [ho] at ho'; cases ho'
  exact ⟨_,es',ep',hL,r'⟩) hok I.bare
theorem Inv.call {g':Array GenState} {t':Nat} {d':Drawn} {ch:List Addr} (I:Inv X pins σ H s) (u:Un (frs X.stack) ch H H' s.heap h') (hok:HOk X.prog X.w H' h') (hg:AllBare g')
  (hch:∀ b ∈ ch,(b ∈ X.ex\/X.s₀.heap.objs.size<=b)/\b≠X.env.locals/\(∀ x c,X.env.cells.lookup x=some c->c≠b)/\∀ p ∈ X.pn ++ pins,p.1≠b) :
  Inv X pins σ H' { s with heap:=h',gens:=g',drawn:=d',toks:=t' }:=by
 obtain ⟨m,⟨o,es,ep,ho,r⟩,_⟩:=id I.loc
 obtain ⟨sl,hL⟩:=u.any ho I.free fun z=>(hch _ z).2.1 rfl
 exact I.step (ch:=ch) hch (fun b o hL hb hc e n=>u.keep b o e n (fun z=>(yO.mp (I.stkSub b z)).elim hL hb) hc) (fun b o _ _ hc e n=>u.any e n hc) (fun b o hc e n=>u.free b o e n hc) (fun b o hc e=>u.there b o e hc) u.tups u.frzs u.tbls (fun m' hm=>by
  obtain ⟨o',es',ep',ho',r'⟩:=hm
  rw [ho] at ho'; cases ho'
  exact ⟨_,es',ep',hL,r'⟩) hok hg
theorem Inv.turned {t':Nat} {it:Addr} (I:Inv X pins σ H s) (k:∀ b o,b≠it->s.heap.get? b=some o->h'.get? b=some o) (hn:H it=none) (hL:it≠X.env.locals)
  (h1:it ∈ X.ex\/X.s₀.heap.objs.size<=it) (h2:∀ x c,X.env.cells.lookup x=some c->c≠it) (h3:∀ p ∈ X.pn ++ pins,p.1≠it):Inv X pins σ H { s with heap:=h',toks:=t' }:=by
 have nit:∀ b u,H b=some u->b≠it:=fun b u e z=>by rw [z,hn] at e; cases e
 refine I.step (g':=s.gens) (d':=s.drawn) (ch:=[it]) (fun b hb=>?_) (fun b o _ _ hc e _=>k b o (fun z=>hc (by simp [z])) e) (fun b o _ _ hc e _=>⟨o.slots,k b o (fun z=>hc (by simp [z])) e⟩) (fun _ _ _ _ n=>n)
  (fun b o hc e=>⟨o,k b o (fun z=>hc (by simp [z])) e⟩) (fun _ _ e=>e) (fun _ _ _ e=>e) (fun b ps e=>⟨#[],by rw [e]; simp⟩) (fun m hm=>?_) (fun b u e=>?_) I.bare
 ·have e:b=it:=by simpa using hb
  subst e; exact ⟨h1,hL,h2,h3⟩
 ·obtain ⟨o,es,ep,ho,r⟩:=hm
  exact ⟨o,es,ep,k _ o (Ne.symm hL) ho,r⟩
 ·refine (I.hok b u e).stay (fun c v hc q=>k c v ?_ q) (fun _ q=>q) fun _ _ q=>q
  rcases hc with z | z
  ·rw [z]; exact nit b u e
  ·exact nit c _ z
theorem Inv.tok (I:Inv X pins σ H s) (t:Nat):Inv X pins σ H { s with toks:=t }:=I.un (h':=s.heap) (t':=t) Un.refl I.hok
theorem Inv.kept {t':Nat} (I:Inv X pins σ H s) (k:∀ b u,s.heap.get? b=some u->h'.get? b=some u):Inv X pins σ H { s with heap:=h',toks:=t' }:=I.un (Un.kept k) (I.hok.kept k)
theorem Inv.laid {a:Addr} {o:HO} {t':Nat} (I:Inv X pins σ H s) (k:∀ b u,s.heap.get? b=some u->h'.get? b=some u) (hp:s.heap.objs.size<=a) (new:zbG X.prog X.w (upd H a o) h' a o) :
  Inv X pins σ (upd H a o) { s with heap:=h',toks:=t' }:=I.un (Un.laid k hp (I.hok.fresh hp)) (I.hok.laid k hp new)
theorem Inv.write {x e:Addr} {o:HO} {t':Nat} (I:Inv X pins σ H s) (mu:Mut (H x)) (he:e=x\/H e=some (.own x)) (k:∀ b u,b≠e->s.heap.get? b=some u->h'.get? b=some u) (heo:∃ u,h'.get? e=some u)
  (new:zbG X.prog X.w (upd H x o) h' x o):Inv X pins σ (upd H x o) { s with heap:=h',toks:=t' }:=I.un (Un.write mu he k heo) (I.hok.write mu he k heo new)
theorem Inv.pins_of {pins':List (Addr × Obj)} (I:Inv X pins σ H s) (h:∀ p ∈ pins',s.heap.get? p.1=some p.2/\H p.1=none/\p.1≠X.env.locals/\p.1 ∉ X.fs/\∀ v,p.2.data≠.cell v):Inv X pins' σ H s :=
 ⟨I.ok,I.os,I.bare,I.base,I.loc,I.cell,I.free,I.freeC,fun p hp=>(YY.mp hp).elim (fun z=>I.pin p (List.mem_append_left _ z)) (h p),I.hok,I.len⟩
theorem ziO {N:List Str} (hN:N.Nodup) {i j:Nat} {x:Str} (a:N[i]?=some x) (b:N[j]?=some x):i=j:=by
 obtain ⟨h1,e1⟩:=yD.mp a; obtain ⟨h2,e2⟩:=yD.mp b; exact (List.getElem_inj hN).mp (e1.trans e2.symm)
theorem zgJ {M:Model} {A:Around} {E:Value->Shared->Prop} {i:Nat} {x:Str} {v:V} {u:Value} {Q:Unit->Shared->Prop} (I:Inv X pins σ H s) (hN:X.N.Nodup) (hi:X.N[i]?=some x) (hx:Loc X.env.scope x) (r:zaV v u)
  (h:∀ s',Inv X pins (σ.set i (some v)) H s'->(∃ a,Heap.SameBut a s.heap s'.heap/\(a=X.env.locals\/X.env.cells.lookup x=some a))->Q () s') (hf:X.fn x=true\/X.env.scope.names.lookup x=some .local:=by first | exact .inl rfl | exact .inr rfl | assumption):wpAny M A (storeName X.env x u) Q E s:=by
 obtain ⟨m,hn,hl⟩:=id I.loc
 have hcls:(X.env.scope.kind == .class || (X.env.scope.kind == .module && X.env.locals != X.env.globals))=false:=by rw [I.ok.kind]; rfl
 have hiσ:i<σ.length:=by rw [I.len]; exact (yD.mp hi).1
 have cne:=I.cne
 have tracked:∀ {a:Addr} {h':Heap},(∃ o,s.heap.get? a=some o/\H a=none)->Heap.SameBut a s.heap h'->HOk X.prog X.w H h':=fun {a h'} ha hs b ob e=>by
  obtain ⟨_,_,hfree⟩:=ha
  refine (I.hok b ob e).stay (fun c w' hc q=>(hs.2 c ?_).trans q) (fun _ q=>q) fun _ _ q=>q
  rintro rfl
  rcases hc with rfl | hc
  ·rw [hfree] at e; cases e
  ·rw [hfree] at hc; cases hc
 rcases hx with hk | hk
 ·refine wpAny_storeName_local hk hn (fun h' hn' hs=>?_) hcls
  obtain ⟨oL,_,_,hoL,_⟩:=id hn
  refine h _ ⟨I.ok,I.os,I.bare,⟨fun b o e n hb hx=>?_,fun b o e n hb hx=>?_,I.base.free,fun b o e hx=>?_,I.base.tups,I.base.frzs,I.base.tbls⟩,⟨_,hn',fun j y v' e1 e2 e3=>?_⟩,fun y c e=>?_,I.free,I.freeC,fun p hp=>?_,tracked ⟨oL,hoL,I.free⟩ hs,by simpa using I.len⟩ ⟨_,hs,.inl rfl⟩
  ·exact (hs.2 b (yU (yZ (yM e) I.ok.above))).trans (I.base.keep b o e n hb hx)
  ·obtain ⟨sl,e1⟩:=I.base.slot b o e n hb hx
   exact ⟨sl,(hs.2 b (yU (yZ (yM e) I.ok.above))).trans e1⟩
  ·obtain ⟨o',e1⟩:=I.base.there b o e hx
   exact ⟨o',(hs.2 b (yU (yZ (yM e) I.ok.above))).trans e1⟩
  ·by_cases hj:j=i
   ·subst hj
    rw [hi] at e1; cases e1
    rw [YE hiσ] at e2; cases e2
    exact ⟨u,r,.inl ⟨hk,by simp⟩⟩
   ·rw [yX (Ne.symm hj)] at e2
    obtain ⟨u',r',q⟩:=hl j y v' e1 e2 e3; refine ⟨u',r',?_⟩
    rcases q with ⟨k,e⟩ | ⟨k,c,e,z⟩
    ·refine .inl ⟨k,?_⟩
     have:y≠x:=fun e=>hj (ziO hN e1 (e ▸ hi))
     simp [this,e]
    ·exact .inr ⟨k,c,e,z.sameBut hs (cne y c e)⟩
  ·obtain ⟨w',z⟩:=I.cell y c e
   exact ⟨w',z.sameBut hs (cne y c e)⟩
  ·obtain ⟨e,n,ne,nf,d⟩:=I.pin p hp
   exact ⟨(hs.2 p.1 ne).trans e,n,ne,nf,d⟩
 ·have hfn:X.fn x=true:=by
   rcases hf with z | z
   ·exact z
   ·rw [z] at hk; cases hk
  obtain ⟨c,hc⟩:=I.ok.has x (.inl hk); obtain ⟨w',z⟩:=I.cell x c hc
  refine wpAny_storeName_cell I.ok.kind hk hc z (fun h' hc' hs=>?_)
  obtain ⟨oc,hoc,hocd⟩:=id z
  refine h { s with heap:=h' } ⟨I.ok,I.os,I.bare,⟨fun b o e n hb hx=>?_,fun b o e n hb hx=>?_,I.base.free,fun b o e hx=>?_,I.base.tups,I.base.frzs,I.base.tbls⟩,⟨m,hn.sameBut hs (Ne.symm (cne x c hc)),fun j y v' e1 e2 e3=>?_⟩,fun y c' e=>?_,I.free,I.freeC,fun p hp=>?_,tracked ⟨oc,hoc,I.freeC x c hc⟩ hs,by simpa using I.len⟩ ⟨c,hs,.inr hc⟩
  ·exact (hs.2 b (yU (yZ (yM e) (I.ok.cab x c hfn hc)))).trans (I.base.keep b o e n hb hx)
  ·obtain ⟨sl,e1⟩:=I.base.slot b o e n hb hx
   exact ⟨sl,(hs.2 b (yU (yZ (yM e) (I.ok.cab x c hfn hc)))).trans e1⟩
  ·obtain ⟨o',e1⟩:=I.base.there b o e hx
   exact ⟨o',(hs.2 b (yU (yZ (yM e) (I.ok.cab x c hfn hc)))).trans e1⟩
  ·by_cases hj:j=i
   ·subst hj
    rw [hi] at e1; cases e1
    rw [YE hiσ] at e2; cases e2; exact ⟨u,r,.inr ⟨.inl hk,c,hc,hc'⟩⟩
   ·rw [yX (Ne.symm hj)] at e2
    obtain ⟨u',r',q⟩:=hl j y v' e1 e2 e3; refine ⟨u',r',?_⟩
    rcases q with q | ⟨k,c',e,z'⟩
    ·exact .inl q
    ·refine .inr ⟨k,c',e,z'.sameBut hs ?_⟩
     rintro rfl
     exact hj (ziO hN e1 (I.ok.inj _ _ _ e hc ▸ hi))
  ·by_cases hcc:c'=c
   ·subst hcc; exact ⟨_,hc'⟩
   ·obtain ⟨w2,z2⟩:=I.cell y c' e
    exact ⟨w2,z2.sameBut hs hcc⟩
  ·obtain ⟨e,n,ne,nf,d⟩:=I.pin p hp
   refine ⟨(hs.2 p.1 ?_).trans e,n,ne,nf,d⟩; intro q; rw [q,hoc] at e
   have q':oc=p.2:=Option.some.inj e
   exact d w' (by rw [<- q']; exact hocd)
theorem ziz {M:Model} {A:Around} {E:Value->Shared->Prop} {i:Nat} {x:Str} {v:V} {u:Value} {Q:Unit->Shared->Prop} (I:Inv X pins σ H s) (hN:X.N.Nodup) (hi:X.N[i]?=some x) (hx:Loc X.env.scope x) (r:zaV v u)
  (h:∀ s',Inv X pins (σ.set i (some v)) H s'->Q () s') (hf:X.fn x=true\/X.env.scope.names.lookup x=some .local:=by first | exact .inl rfl | exact .inr rfl | assumption):wpAny M A (storeName X.env x u) Q E s :=
 zgJ I hN hi hx r (fun s' I' _=>h s' I') hf
theorem Inv.call' {s':Shared} {ch:List Addr} (I:Inv X pins σ H s) (ho:s'.os=s.os) (u:Un (frs X.stack) ch H H' s.heap s'.heap) (hok:HOk X.prog X.w H' s'.heap) (hg:AllBare s'.gens)
  (hch:∀ b ∈ ch,(b ∈ X.ex\/X.s₀.heap.objs.size<=b)/\b≠X.env.locals/\(∀ x c,X.env.cells.lookup x=some c->c≠b)/\∀ p ∈ X.pn ++ pins,p.1≠b):Inv X pins σ H' s':=by
 obtain ⟨h',g',d',t',o'⟩:=s'
 have e:o'=s.os:=ho
 subst e; exact I.call (g':=g') (t':=t') (d':=d') u hok hg hch
end
abbrev XK:=Value->Option Addr->Hp->Prop
abbrev St:=List (Option V)
abbrev VK:=V->Hp->Prop
abbrev TE:=St->Hp->VK->Prop
abbrev TT:=St->Hp->(Bool->Hp->Prop)->Prop
abbrev TA:=St->Hp->(List V->Hp->Prop)->Prop
structure Ends where
 nx:St->Hp->Prop
 rt:VK
 bk:St->Hp->Prop:=fun _ _=>False
 ct:St->Hp->Prop:=fun _ _=>False
abbrev TS:=Ends->St->Hp->Prop
def EP (X:Cx) (pins:List (Addr × Obj)) (σ:St) (Q:VK) (u:Value) (s':Shared):Prop:=∃ v H',Inv X pins σ H' s'/\zaV v u/\Q v H'
def TP (X:Cx) (pins:List (Addr × Obj)) (σ:St) (Q:Bool->Hp->Prop) (b:Bool) (s':Shared):Prop:=∃ H',Inv X pins σ H' s'/\Q b H'
def AP (X:Cx) (pins:List (Addr × Obj)) (σ:St) (Q:List V->Hp->Prop) (us:List Value) (s':Shared):Prop:=∃ vs H',Inv X pins σ H' s'/\zaK vs us/\Q vs H'
def SP (X:Cx) (pins:List (Addr × Obj)) (D:Ends) (f:Flow) (s':Shared):Prop :=
 match f with
 | .next=>∃ σ' H',Inv X pins σ' H' s'/\D.nx σ' H'
 | .brk=>∃ σ' H',Inv X pins σ' H' s'/\D.bk σ' H'
 | .cont=>∃ σ' H',Inv X pins σ' H' s'/\D.ct σ' H'
 | .ret u=>∃ v σ' H',Inv X pins σ' H' s'/\zaV v u/\D.rt v H'
def PE (X:Cx) (e:Expr) (t:TE):Prop :=
 ∀ (pins:List (Addr × Obj)) (s:Shared) (σ:St) (H:Hp) (Q:VK),Inv X pins σ H s->t σ H Q->wpAny (model X.prog X.w) X.A (eval e X.env) (EP X pins σ Q) X.xe s
def PT (X:Cx) (e:Expr) (t:TT):Prop :=
 ∀ (pins:List (Addr × Obj)) (s:Shared) (σ:St) (H:Hp) (Q:Bool->Hp->Prop),Inv X pins σ H s->t σ H Q->wpAny (model X.prog X.w) X.A (isTrue e X.env (eval e X.env)) (TP X pins σ Q) X.xe s
def PW (X:Cx) (e:Expr) (t:TT):Prop :=
 ∀ (whole:Sem Value) (pins:List (Addr × Obj)) (s:Shared) (σ:St) (H:Hp) (Q:Bool->Hp->Prop),Inv X pins σ H s->t σ H Q->wpAny (model X.prog X.w) X.A (isTrue e X.env whole) (TP X pins σ Q) X.xe s
def PA (X:Cx) (es:List Expr) (t:TA):Prop :=
 ∀ (pos:Pos) (pins:List (Addr × Obj)) (s:Shared) (σ:St) (H:Hp) (Q:List V->Hp->Prop),Inv X pins σ H s->t σ H Q->wpAny (model X.prog X.w) X.A (spliced (backTo pos (starEach es X.env))) (AP X pins σ Q) X.xe s
def PS (X:Cx) (st:Stmt) (t:TS):Prop :=
 ∀ (pins:List (Addr × Obj)) (s:Shared) (σ:St) (H:Hp) (D:Ends),Inv X pins σ H s->t D σ H->wpAny (model X.prog X.w) X.A (exec st X.env) (SP X pins D) X.xe s
def PSs (X:Cx) (st:List Stmt) (t:TS):Prop :=
 ∀ (pins:List (Addr × Obj)) (s:Shared) (σ:St) (H:Hp) (D:Ends),Inv X pins σ H s->t D σ H->wpAny (model X.prog X.w) X.A (execs st X.env) (SP X pins D) X.xe s
theorem thn {α:Type} {t:Sem α} {Q Q':α->Shared->Prop} {M:Model} {A:Around} {E:Value->Shared->Prop} {s:Shared} (h:wpAny M A t Q E s) (hQ:∀ a s,Q a s->Q' a s):wpAny M A t Q' E s:=YU h hQ fun _ _ x=>x
section
variable {X:Cx}
def zuF (i:Nat):TE:=fun σ H Q=>∃ v,σ[i]?=some (some v)/\Q v H
def tC (v:V):TE:=fun _ H Q=>Q v H
theorem zcj {i:Nat} {x:Str} {pos:Pos} (hN:X.N[i]?=some x) (hv:Vis X.env.scope x) (hd:(x == ("__debug__":Str))=false:=by decide) (hcd:(x == ("__classdict__":Str))=false:=by decide):PE X (.Name x pos) (zuF i):=by
 intro pins s σ H Q I h; obtain ⟨v,e,h⟩:=h; obtain ⟨m,hn,hl⟩:=I.loc; obtain ⟨u,r,l⟩:=hl i x v hN e hv
 have fin:EP X pins σ Q u s:=⟨v,H,I,r,h⟩
 rcases l with ⟨hk,hm⟩ | ⟨hk,c,hc,hcell⟩
 ·exact wpAny_Name (wpAny_loadName_local I.ok.kind hk hn hm fin) hd
 ·rcases hk with hk | hk
  ·exact wpAny_Name (wpAny_loadName_cell I.ok.kind hk hc hcell fin) hd
  ·exact wpAny_Name (wpAny_loadName_free I.ok.kind hk hc hcell fin hcd) hd
theorem zkV {i j pos}:PE X (.Constant (.int i) j pos) (tC (.int i)):=fun _ _ _ H _ I h=>wpAny_Constant_int ⟨.int i,H,I.tok _,⟨_,rfl⟩,h⟩
theorem ztz {b j pos}:PE X (.Constant (.bool b) j pos) (tC (.bl b)):=fun _ _ _ H _ I h=>Constant_bool ⟨.bl b,H,I,rfl,h⟩
theorem zrf {j pos}:PE X (.Constant .none j pos) (tC .non):=fun _ _ _ H _ I h=>Constant_none ⟨.non,H,I,rfl,h⟩
theorem zrb {x j pos}:PE X (.Constant (.str x) j pos) (tC (.str x)):=fun _ _ _ H _ I h=>Calls.Constant_str ⟨.str x,H,I.tok _,⟨_,rfl⟩,h⟩
def Gl (X:Cx) (x:Str):Prop:=X.env.kindOf x=some .globalImplicit
theorem zih {E:Value->Shared->Prop} {pins:List (Addr × Obj)} {s:Shared} {σ:St} {H:Hp} {x:Str} {u:Value} {pos:Pos} {Q:Value->Shared->Prop} (I:Inv X pins σ H s) (hg:Gl X x) (hm:X.mg x=some u) (h:Q u s)
  (hd:(x == ("__debug__":Str))=false:=by decide):wpAny (model X.prog X.w) X.A (eval (.Name x pos) X.env) Q E s :=
 Calls.Name_function_global I.ok.kind hg (Calls.loadGlobal_global (by rw [I.ok.glob]; exact I.mod.glob.keeps I.bk) hm h) hd
theorem zdB {E:Value->Shared->Prop} {pins:List (Addr × Obj)} {s:Shared} {σ:St} {H:Hp} {x:Str} {u:Value} {pos:Pos} {Q:Value->Shared->Prop} (I:Inv X pins σ H s) (hg:Gl X x) (hm:X.mg x=none) (hv:bootBuiltins x=some u) (h:Q u s)
  (hn:x≠"__name__":=by decide) (hd:(x == ("__debug__":Str))=false:=by decide):wpAny (model X.prog X.w) X.A (eval (.Name x pos) X.env) Q E s:=by
 obtain ⟨mb,h1,h2⟩:=I.mod.blt
 exact Calls.Name_function_global I.ok.kind hg (Calls.loadGlobal_builtin (by rw [I.ok.glob]; exact I.mod.glob.keeps I.bk) hm (by rw [I.ok.blt]; exact h1.keeps I.bk) ((h2 x hn).trans hv) h) hd
theorem zpb {x:Str} {v:V} {u:Value} {pos:Pos} (hg:Gl X x) (hm:X.mg x=some u) (r:zaV v u) (hd:(x == ("__debug__":Str))=false:=by decide):PE X (.Name x pos) (tC v) :=
 fun _ _ _ H _ I h=>zih I hg hm ⟨v,H,I,r,h⟩ hd
theorem zpi {x:Str} {v:V} {u:Value} {pos:Pos} (hg:Gl X x) (hm:X.mg x=none) (hv:bootBuiltins x=some u) (r:zaV v u) (hn:x≠"__name__":=by decide) (hd:(x == ("__debug__":Str))=false:=by decide):PE X (.Name x pos) (tC v) :=
 fun _ _ _ H _ I h=>zdB I hg hm hv ⟨v,H,I,r,h⟩ hn hd
variable {a b:Expr} {ta tb:TE} {pos:Pos}
def tB (t:TE):TT:=fun σ H Q=>t σ H fun x H1=>∃ c,x=.bl c/\Q c H1
theorem zq0 {e:Expr} {t:TE} (h:PE X e t) (he:∀ whole,isTrue e X.env whole=(do let v <- whole; standAt e.pos; holding [v] (truthy v)):=by intro _; rfl):PT X e (tB t):=by
 intro pins s σ H Q I hw
 refine isTrue_plain (thn (h pins s σ H _ I hw) fun v s1 ⟨x,H1,I1,r1,q1⟩=>?_) (he _)
 obtain ⟨d,rfl,q⟩:=q1; cases r1; exact Yz ⟨H1,I1,q⟩
variable {tA tB':TT} {zd1:List Expr}
def zvc (t u:TT):TT:=fun σ H Q=>t σ H fun c H1=>if c=true then u σ H1 Q else Q false H1
def tOr (t u:TT):TT:=fun σ H Q=>t σ H fun c H1=>if c=true then Q true H1 else u σ H1 Q
def zu5 (t:TT):TT:=fun σ H Q=>t σ H fun c H1=>Q (!c) H1
theorem zoQ (ha:PT X a tA):PW X (.BoolOp .And [a] pos) tA:=by
 intro wh pins s σ H Q I h
 refine isTrue_and (thn (ha pins s σ H Q I h) fun c s1 e=>?_)
 cases c with
 | true=>exact isTrue_and_nil e
 | false=>exact e
theorem zqY (ha:PT X a tA):PW X (.BoolOp .Or [a] pos) tA:=by
 intro wh pins s σ H Q I h
 refine isTrue_or (thn (ha pins s σ H Q I h) fun c s1 e=>?_)
 cases c with
 | false=>exact isTrue_or_nil e
 | true=>exact e
theorem zqZ (ha:PT X a tA) (hb:PW X (.BoolOp .And (b :: zd1) pos) tB'):PW X (.BoolOp .And (a :: b :: zd1) pos) (zvc tA tB'):=by
 intro wh pins s σ H Q I h
 refine isTrue_and (thn (ha pins s σ H _ I h) fun c s1 ⟨H1,I1,q1⟩=>?_)
 cases c with
 | true=>exact hb wh pins s1 σ H1 Q I1 q1
 | false=>exact ⟨H1,I1,q1⟩
theorem ztu (ha:PT X a tA) (hb:PW X (.BoolOp .Or (b :: zd1) pos) tB'):PW X (.BoolOp .Or (a :: b :: zd1) pos) (tOr tA tB'):=by
 intro wh pins s σ H Q I h
 refine isTrue_or (thn (ha pins s σ H _ I h) fun c s1 ⟨H1,I1,q1⟩=>?_)
 cases c with
 | true=>exact ⟨H1,I1,q1⟩
 | false=>exact hb wh pins s1 σ H1 Q I1 q1
theorem zq1 (ha:PT X a tA):PT X (.UnaryOp .Not a pos) (zu5 tA):=by
 intro pins s σ H Q I h
 exact isTrue_not (ha pins s σ H (fun c H1=>Q (!c) H1) I h)
def ztc (ta tb:TE):TE:=fun σ H Q=>ta σ H fun x H1=>∃ c,x=.bl c/\if c=true then tb σ H1 Q else Q (.bl false) H1
def zs2 (ta:TE):TE:=fun σ H Q=>ta σ H fun x H1=>∃ c,x=.bl c/\Q (.bl (!c)) H1
theorem zrd {op} {t:TE} (h:PE X a t):PE X (.BoolOp op [a] pos) t:=fun pins s σ H Q I hw=>BoolOp_one (h pins s σ H Q I hw)
theorem zro (ha:PE X a ta) (hb:PE X (.BoolOp .And (b :: zd1) pos) tb):PE X (.BoolOp .And (a :: b :: zd1) pos) (ztc ta tb):=by
 intro pins s σ H Q I h
 refine BoolOp_and (thn (ha pins s σ H _ I h) fun v s1 ⟨x,H1,I1,r1,q1⟩=>?_)
 obtain ⟨c,rfl,q1⟩:=q1; cases r1; refine Yz ?_
 cases c with
 | true=>exact hb pins s1 σ H1 Q I1 q1
 | false=>exact ⟨.bl false,H1,I1,rfl,q1⟩
theorem zre (ha:PE X a ta):PE X (.UnaryOp .Not a pos) (zs2 ta):=by
 intro pins s σ H Q I h
 refine UnaryOp_ (thn (ha pins s σ H _ I h) fun v s1 ⟨x,H1,I1,r1,q1⟩=>?_)
 obtain ⟨c,rfl,q1⟩:=q1; cases r1; exact not_of (Yz ⟨.bl (!c),H1,I1,rfl,q1⟩)
end
def SqL (K:W.Frag) (H:Hp) (a:Addr) (xs:List V):Prop :=
 Rd H a (.lst xs) \/
  ∃ (o:Obj) (its:Array Value) (n:Nat),K.lookup a=some o/\o.cls=.type "list"/\o.dict=none/\o.data=.seq its n/\its.size<=sizeLine/\zaK xs its.toList
def SqT (K:W.Frag) (H:Hp) (a:Addr) (xs:List V):Prop :=
 Rd H a (.tup xs) \/
  ∃ (o:Obj) (its:Array Value) (n:Nat),K.lookup a=some o/\o.cls=.type "tuple"/\o.data=.seq its n/\its.size<=sizeLine/\zaK xs its.toList
def zvz:Value->Option V
 | .none=>some .non
 | .bool b=>some (.bl b)
 | .int i _=>some (.int i)
 | .str x _=>some (.str x)
 | .bytes b _=>some (.byt b)
 | .float b _=>some (.flt b)
 | .ref a=>some (.ref a)
 | .type n=>some (.ty n)
 | _=>none
theorem zaV.abs {x:V} {u:Value} (r:zaV x u):zvz u=some x:=by
 cases x with
 | non=>cases r; rfl
 | bl _=>cases r; rfl
 | int _=>obtain ⟨t,rfl⟩:=r; rfl
 | str _=>obtain ⟨t,rfl⟩:=r; rfl
 | byt _=>obtain ⟨t,rfl⟩:=r; rfl
 | flt _=>obtain ⟨t,rfl⟩:=r; rfl
 | ref _=>cases r; rfl
 | ty _=>cases r; rfl
theorem zaV.inj {x y:V} {u:Value} (r:zaV x u) (q:zaV y u):x=y:=Option.some.inj (r.abs.symm.trans q.abs)
theorem zaK.inj:∀ {xs ys:List V} {us:List Value},zaK xs us->zaK ys us->xs=ys
 | _,_,_,.nil,.nil=>rfl
 | _,_,_,.cons r t,.cons r' t'=>by rw [r.inj r',zaK.inj t t']
section
variable {X:Cx} {pins:List (Addr × Obj)} {σ:St} {H:Hp} {s:Shared} {a:Addr} {xs ys:List V}
theorem SqL.of {K:W.Frag} (h:H a=some (.lst xs)):SqL K H a xs:=.inl (.inl h)
theorem SqT.of {K:W.Frag} (h:H a=some (.tup xs)):SqT K H a xs:=.inl (.inl h)
theorem Inv.list (I:Inv X pins σ H s) (h:SqL X.K H a xs):∃ its:List Value,zaK xs its/\PlainL s.heap a its.toArray/\xs.length<=sizeLine:=by
 rcases h with h | ⟨o,its,n,hk,hc,hd,hs,hz,r⟩
 ·obtain ⟨z,its,n,r,e⟩:=h.ok I.hok
  exact ⟨its,r,⟨_,n,e,rfl,rfl,rfl⟩,z⟩
 ·refine ⟨its.toList,r,⟨o,n,I.kIn a o hk,hc,hd,by simpa using hs⟩,?_⟩
  have e:=r.length; simp only [yz] at e; omega
theorem Inv.tuple (I:Inv X pins σ H s) (h:SqT X.K H a xs):∃ its:List Value,zaK xs its/\IsTup s.heap a its.toArray/\xs.length<=sizeLine:=by
 rcases h with h | ⟨o,its,n,hk,hc,hs,hz,r⟩
 ·obtain ⟨z,its,r,p⟩:=h.ok I.hok
  exact ⟨its,r,p,z⟩
 ·refine ⟨its.toList,r,⟨o,I.kIn a o hk,hc,n,by simpa using hs⟩,?_⟩
  have e:=r.length; simp only [yz] at e; omega
theorem Inv.list_inj (I:Inv X pins σ H s) (h:SqL X.K H a xs) (h':SqL X.K H a ys):xs=ys:=by
 obtain ⟨its,r,⟨o,n,e,_,_,d⟩,_⟩:=I.list h
 obtain ⟨its',r',⟨o',n',e',_,_,d'⟩,_⟩:=I.list h'
 rw [e] at e'; cases e'
 rw [d] at d'
 injection d' with d1 _
 have:its=its':=by simpa using yo Array.toList d1
 subst this; exact r.inj r'
theorem Inv.tuple_inj (I:Inv X pins σ H s) (h:SqT X.K H a xs) (h':SqT X.K H a ys):xs=ys:=by
 obtain ⟨its,r,⟨o,e,_,n,d⟩,_⟩:=I.tuple h
 obtain ⟨its',r',⟨o',e',_,n',d'⟩,_⟩:=I.tuple h'
 rw [e] at e'; cases e'
 rw [d] at d'
 injection d' with d1 _
 have:its=its':=by simpa using yo Array.toList d1
 subst this; exact r.inj r'
end
abbrev Cx.wish (X:Cx) (E:Value->Shared->Prop):Cx:={ X with xe:=E }
abbrev Cx.nox (X:Cx):Cx:=X.wish fun _ _=>False
theorem Cx.Ok.wish {X:Cx} (ok:X.Ok) (E:Value->Shared->Prop):(X.wish E).Ok :=
 ⟨ok.mod,ok.kind,ok.glob,ok.blt,ok.above,ok.inj,ok.has,ok.cab,ok.hd,ok.frames,ok.stk,ok.exf,ok.bs,ok.bsz,ok.noex,ok.exfs,ok.funs,ok.frf,ok.tab⟩
theorem Cx.Ok.unwish {X:Cx} {E:Value->Shared->Prop} (ok:(X.wish E).Ok):X.Ok :=
 ⟨ok.mod,ok.kind,ok.glob,ok.blt,ok.above,ok.inj,ok.has,ok.cab,ok.hd,ok.frames,ok.stk,ok.exf,ok.bs,ok.bsz,ok.noex,ok.exfs,ok.funs,ok.frf,ok.tab⟩
section
variable {X:Cx} {pins:List (Addr × Obj)} {σ:St} {H:Hp} {s:Shared} {E:Value->Shared->Prop}
theorem Inv.wish (I:Inv X pins σ H s) (E:Value->Shared->Prop):Inv (X.wish E) pins σ H s:=⟨I.ok.wish E,I.os,I.bare,I.base,I.loc,I.cell,I.free,I.freeC,I.pin,I.hok,I.len⟩
theorem Inv.unwish (I:Inv (X.wish E) pins σ H s):Inv X pins σ H s:=⟨I.ok.unwish,I.os,I.bare,I.base,I.loc,I.cell,I.free,I.freeC,I.pin,I.hok,I.len⟩
theorem SP.unwish {D:Ends} {f:Flow} {s':Shared} (h:SP (X.wish E) pins D f s'):SP X pins D f s':=by
 cases f with
 | next=>obtain ⟨σ',H',I,q⟩:=h; exact ⟨σ',H',I.unwish,q⟩
 | brk=>obtain ⟨σ',H',I,q⟩:=h; exact ⟨σ',H',I.unwish,q⟩
 | cont=>obtain ⟨σ',H',I,q⟩:=h; exact ⟨σ',H',I.unwish,q⟩
 | ret u=>obtain ⟨v,σ',H',I,r,q⟩:=h; exact ⟨v,σ',H',I.unwish,r,q⟩
theorem PE.nox {e:Expr} {t:TE} (h:PE X.nox e t):PE X e t:=fun pins s σ H Q I hw =>
 YU (h pins s σ H Q (I.wish _) hw) (fun _ _ ⟨v,H',I',r,q⟩=>⟨v,H',I'.unwish,r,q⟩) fun _ _ z=>False.elim z
theorem PSs.nox {st:List Stmt} {t:TS} (h:PSs X.nox st t):PSs X st t:=fun pins s σ H D I hw =>
 YU (h pins s σ H D (I.wish _) hw) (fun _ _ q=>q.unwish) fun _ _ z=>False.elim z
end
section
variable {X:Cx} {st:Stmt} {zd1:List Stmt} {t u:TS} {e:Expr} {te:TE} {pos:Pos}
def zs4:TS:=fun D σ H=>D.nx σ H
def zu3 (t u:TS):TS:=fun D σ H=>t { D with nx:=u D } σ H
theorem zoV:PSs X [] zs4:=fun _ _ σ H _ I h=>wpAny_execs_nil ⟨σ,H,I,h⟩
theorem zdu (h1:PS X st t) (h2:PSs X zd1 u):PSs X (st :: zd1) (zu3 t u):=by
 intro pins s σ H D I h
 refine wpAny_execs_cons (thn (h1 pins s σ H { D with nx:=u D } I h) fun f s1 q=>?_)
 cases f with
 | next =>
  obtain ⟨σ',H',I',q⟩:=q; exact h2 pins s1 σ' H' D I' q
 | ret v=>exact q
 | brk=>exact q
 | cont=>exact q
theorem zdQ (h1:PS X st t):PSs X [st] t:=by
 intro pins s σ H D I h
 refine wpAny_execs_cons (thn (h1 pins s σ H D I h) fun f s1 q=>?_)
 cases f with
 | next=>exact wpAny_execs_nil q
 | ret v=>exact q
 | brk=>exact q
 | cont=>exact q
theorem Inv.quiet {pins:List (Addr × Obj)} {σ:St} {H:Hp} {s:Shared} (I:Inv X pins σ H s):interactive X.env=false:=by simp [interactive,I.ok.kind]
def zta (te:TE):TS:=fun D σ H=>te σ H fun _ H1=>D.nx σ H1
theorem zeu (he:PE X e te) (hs:swapsWith e none pos.line X.env=pure false:=by rfl):PS X (.Expr e pos) (zta te):=by
 intro pins s σ H D I h
 exact wpAny_Expr_any (thn (he pins s σ H _ I h) fun v s1 ⟨x,H1,I1,r1,q1⟩=>⟨σ,H1,I1,q1⟩) I.quiet hs
def zu4 (te:TE):TS:=fun D σ H=>te σ H D.rt
theorem zkG (he:PE X e te):PS X (.Return (some e) pos) (zu4 te):=by
 intro pins s σ H D I h
 exact wpAny_Return_some (thn (he pins s σ H _ I h) fun v s1 ⟨x,H1,I1,r1,q1⟩=>⟨x,σ,H1,I1,r1,q1⟩)
def zu8 (c:TT) (t u:TS):TS:=fun D σ H=>c σ H fun b H1=>if b=true then t D σ H1 else u D σ H1
theorem ztv {c:Expr} {a b:List Stmt} {tc:TT} (hc:PT X c tc) (ha:PSs X a t) (hb:PSs X b u):PS X (.If c a b pos) (zu8 tc t u):=by
 intro pins s σ H D I h
 refine wpAny_If (thn (hc pins s σ H _ I h) fun d s1 ⟨H1,I1,q1⟩=>?_)
 cases d with
 | true=>exact ha pins s1 σ H1 D I1 q1
 | false=>exact hb pins s1 σ H1 D I1 q1
end
abbrev TG:=V->St->Hp->(St->Hp->Prop)->Prop
abbrev TGs:=List V->St->Hp->(St->Hp->Prop)->Prop
def PG (X:Cx) (target:Expr) (t:TG):Prop :=
 ∀ (pins:List (Addr × Obj)) (s:Shared) (σ:St) (H:Hp) (v:V) (u:Value) (Q:St->Hp->Prop),Inv X pins σ H s->zaV v u->t v σ H Q ->
  wpAny (model X.prog X.w) X.A (assign target X.env u) (fun _ s'=>∃ σ' H',Inv X pins σ' H' s'/\Q σ' H') X.xe s
def PGs (X:Cx) (ts:List Expr) (t:TGs):Prop :=
 ∀ (pins:List (Addr × Obj)) (s:Shared) (σ:St) (H:Hp) (vs:List V) (us:List Value) (Q:St->Hp->Prop),Inv X pins σ H s->zaK vs us->t vs σ H Q ->
  wpAny (model X.prog X.w) X.A (assignInOrder ((assignEach ts X.env).map (·.2)) us) (fun _ s'=>∃ σ' H',Inv X pins σ' H' s'/\Q σ' H') X.xe s
abbrev zuv:=V->V->V->Hp->(Hp->Prop)->Prop
def zuX (X:Cx) (t:zuv):Prop :=
 ∀ (pins:List (Addr × Obj)) (s:Shared) (σ:St) (H:Hp) (o i v:V) (ov iv u:Value) (Q:Hp->Prop),Inv X pins σ H s->zaV o ov->zaV i iv->zaV v u->t o i v H Q ->
  wpAny (model X.prog X.w) X.A (setItem ov iv u) (fun _ s'=>∃ H',Inv X pins σ H' s'/\Q H') X.xe s
section
variable {X:Cx} {pos:Pos}
def zrY (i:Nat):TG:=fun v σ H Q=>Q (σ.set i (some v)) H
theorem zo8 {i:Nat} {x:Str} (hN:X.N.Nodup) (hi:X.N[i]?=some x) (hx:Loc X.env.scope x) (hf:X.fn x=true\/X.env.scope.names.lookup x=some .local:=by first | exact .inl rfl | exact .inr rfl | assumption):PG X (.Name x pos) (zrY i):=by
 intro pins s σ H v u Q I r h
 exact wpAny_assign_Name (ziz I hN hi hx r (fun s' I'=>⟨_,H,I',h⟩) hf)
def zvt:TGs:=fun vs σ H Q=>vs=[]/\Q σ H
def ztZ (t:TG) (u:TGs):TGs:=fun vs σ H Q=>∃ v r,vs=v :: r/\t v σ H fun σ' H'=>u r σ' H' Q
theorem zo7:PGs X [] zvt:=by
 intro pins s σ H vs us Q I r h; obtain ⟨e,h⟩:=h; subst e; cases r; exact assignInOrder_nil ⟨σ,H,I,h⟩
theorem zmF {e:Expr} {es:List Expr} {t:TG} {u:TGs} (h1:PG X e t) (h2:PGs X es u)
  (hs:(assignEach (e :: es) X.env).map (·.2)=assign e X.env :: (assignEach es X.env).map (·.2):=by rfl):PGs X (e :: es) (ztZ t u):=by
 intro pins s σ H vs us Q I r h; obtain ⟨v,vr,e1,h⟩:=h; subst e1
 cases r with
 | cons r rr =>
  rw [hs]
  refine assignInOrder_cons (thn (h1 pins s σ H _ _ _ I r h) fun _ s1 ⟨σ1,H1,I1,q1⟩=>?_)
  exact h2 pins s1 σ1 H1 _ _ Q I1 rr q1
def zvr (K:W.Frag) (n:Nat) (t:TGs):TG:=fun v σ H Q=>∃ a xs,v=.ref a/\SqT K H a xs/\xs.length=n/\t xs σ H Q
theorem zq8 {es:List Expr} {k:Nat} {t:TGs} {n:Nat} (hc:X.calm=true) (h:PGs X es t)
  (hn:(assignEach es X.env).length=n:=by rfl) (hst:(assignEach es X.env).findIdx? (·.1)=none:=by rfl):PG X (.Tuple es k pos) (zvr X.K n t):=by
 intro pins s σ H v u Q I r hw; obtain ⟨a,xs,e1,hq,hl,hw⟩:=hw; subst e1; cases r; obtain ⟨its,rv,ht,hz⟩:=I.tuple hq
 refine assign_Tuple_tuple (I.ok.hd hc) ht (by simp [hn,<- hl,rv.length]) hst fun h' hx=>?_
 have I1:Inv X pins σ H { s with heap:=h' }:=I.kept (t':=s.toks) fun b o e=>hx b o (yU (yM e)) e
 exact h pins _ σ H xs _ Q I1 (by simpa using rv) hw
def zvs (to ti:TE) (t:zuv):TG:=fun v σ H Q=>to σ H fun o H1=>ti σ H1 fun i H2=>t o i v H2 fun H3=>Q σ H3
theorem zq9 {o i:Expr} {to ti:TE} {t:zuv} (ho:PE X o to) (hi:PE X i ti) (hs:zuX X t)
  (ha:∀ v,assign (.Subscript o i pos) X.env v=(do
   let ov <- holding [v] (eval o X.env)
   let iv <- holding [v,ov] (eval i X.env)
   standAt pos
   holding [v,ov,iv] (setItem ov iv v)
   release [v,ov,iv] []):=by intro _; rfl):PG X (.Subscript o i pos) (zvs to ti t):=by
 intro pins s σ H v u Q I r h; rw [ha]
 refine yA (YH (thn (ho pins s σ H _ I h) fun ov s1 ⟨x,H1,I1,r1,q1⟩=>?_))
 refine yA (YH (thn (hi pins s1 σ H1 _ I1 q1) fun iv s2 ⟨y,H2,I2,r2,q2⟩=>?_))
 refine yA (wpAny_standAt (yA (YH (thn (hs pins s2 σ H2 x y v ov iv u _ I2 r1 r2 r q2) fun _ s3 ⟨H3,I3,q3⟩=>?_))))
 exact wpAny_release ⟨σ,H3,I3,q3⟩
def zuG (te:TE) (g:TG):TS:=fun D σ H=>te σ H fun x H1=>g x σ H1 D.nx
theorem zq4 {tg e:Expr} {te:TE} {g:TG} (he:PE X e te) (hg:PG X tg g) (hs:swapsWithSole [tg] e pos.line X.env=pure false:=by rfl) (hw:swappedStores [tg] e X.env=pure none:=by rfl)
  (h1:(assignEach [tg] X.env).map (·.2)=[assign tg X.env]:=by rfl):PS X (.Assign [tg] e pos) (zuG te g):=by
 intro pins s σ H D I h
 refine wpAny_Assign_stores (thn (he pins s σ H _ I h) fun v s1 ⟨x,H1,I1,r1,q1⟩=>?_) hs hw
 rw [h1]
 exact thn (hg pins s1 σ H1 x v _ I1 r1 q1) fun _ s2 q=>q
theorem zkF {i:Nat} {x:Str} {e:Expr} {te:TE} {pos':Pos} (hN:X.N.Nodup) (hi:X.N[i]?=some x) (hx:Loc X.env.scope x) (he:PE X e te) (hs:swapsWith e (some (.Name x pos')) pos.line X.env=pure false:=by rfl) (hf:X.fn x=true\/X.env.scope.names.lookup x=some .local:=by first | exact .inl rfl | exact .inr rfl | assumption) :
  PS X (.Assign [.Name x pos'] e pos) (zuG te (zrY i)):=by
 intro pins s σ H D I h
 refine wpAny_Assign_Name (thn (he pins s σ H _ I h) fun v s1 ⟨y,H1,I1,r1,q1⟩=>?_) hs
 exact ziz I1 hN hi hx r1 (fun s2 I2=>⟨_,H1,I2,q1⟩) hf
end
structure It where
 go:Nat->Hp->Prop
 yld:Nat->Hp->V->Hp->Prop
 stop:Nat->Hp->Prop
def zgD (X:Cx) (pins:List (Addr × Obj)) (H:Hp) (b:Addr):Prop :=
 H b=none/\b≠X.env.locals/\b ∉ X.fs/\(b ∈ X.ex\/X.s₀.heap.objs.size<=b)/\(∀ x c,X.env.cells.lookup x=some c->c≠b)/\∀ p ∈ X.pn ++ pins,p.1≠b
theorem Inv.fpOk {X:Cx} {pins:List (Addr × Obj)} {σ:St} {H H':Hp} {s:Shared} {b:Addr} (I:Inv X pins σ H s) (hb:s.heap.objs.size<=b) (hn:H' b=none):zgD X pins H' b:=by
 refine ⟨hn,Nat.ne_of_gt (yZ I.lt hb),I.nofs hb,.inr (yt I.sz hb),fun x c e z=>?_,fun p hp z=>?_⟩
 ·obtain ⟨v,q⟩:=I.cell x c e
  exact yQ (yZ q.lt (by rw [z]; exact hb)) (Yw _)
 ·exact yQ (yZ (yM (I.pin p hp).1) (by rw [z]; exact hb)) (Yw _)
structure Turn (P:Program) (w:World) (K:W.Frag) (tg:Expr) (J:It) (fp:List Addr) (it:Addr) (tn:Nat->Heap->Prop):Prop where
 mem:it ∈ fp
 obj:∀ i h,tn i h->∀ b ∈ fp,∃ o,h.get? b=some o/\∀ v,o.data≠.cell v
 keep:∀ i h h',tn i h->(∀ b ∈ fp,∀ o,h.get? b=some o->h'.get? b=some o)->tn i h'
 item:∀ (X:Cx),X.prog=P->X.w=w->X.K=K->X.calm=true->∀ (i:Nat) (pins:List (Addr × Obj)) (s:Shared) (σ:St) (H:Hp) (E:Value->Shared->Prop),Inv X pins σ H s->(∀ b ∈ fp,zgD X pins H b)->tn i s.heap->J.go i H ->
  wpAny (model P w) X.A (pyNext (.ref it)) (fun r s1=>∃ u,r=some u /\
   wpAny (model P w) X.A (letOwnedTupleGo tg (.ref it) u) (fun _ s2=>∃ x H',Inv X pins σ H' s2/\zaV x u/\J.yld i H x H'/\tn (i+1) s2.heap/\∀ b ∈ fp,H' b=none) E s1) E s
 done:∀ (X:Cx),X.prog=P->X.w=w->X.K=K->X.calm=true->∀ (i:Nat) (pins:List (Addr × Obj)) (s:Shared) (σ:St) (H:Hp) (E:Value->Shared->Prop),Inv X pins σ H s->(∀ b ∈ fp,zgD X pins H b)->tn i s.heap->J.stop i H ->
  wpAny (model P w) X.A (pyNext (.ref it)) (fun r s1=>r=none/\Inv X pins σ H s1) E s
 self:∀ (A:Around) (i:Nat) (s:Shared) (Q:Value->Shared->Prop) (E:Value->Shared->Prop),tn i s.heap->Q (.ref it) s->wpAny (model P w) A (pyIter (.ref it)) Q E s
abbrev TI:=St->Hp->(It->Hp->Prop)->Prop
def PIE (X:Cx) (pins:List (Addr × Obj)) (σ:St) (tg:Expr) (R:It->Hp->Prop) (itv:Value) (s2:Shared):Prop :=
 ∃ (it:Addr) (fp:List Addr) (tn:Nat->Heap->Prop) (J:It) (H':Hp),itv=.ref it/\Inv X pins σ H' s2/\Turn X.prog X.w X.K tg J fp it tn/\tn 0 s2.heap/\(∀ b ∈ fp,zgD X pins H' b)/\R J H'
def PI (X:Cx) (tg iter:Expr) (wi:TI):Prop :=
 ∀ (pins:List (Addr × Obj)) (s:Shared) (σ:St) (H:Hp) (R:It->Hp->Prop),Inv X pins σ H s->wi σ H R ->
  wpAny (model X.prog X.w) X.A (eval iter X.env) (fun v s1=>wpAny (model X.prog X.w) X.A (pyIter v) (PIE X pins σ tg R) X.xe s1) X.xe s
theorem zjT {M:Model} {A:Around} {E:Value->Shared->Prop} {s:Shared} {tg:Expr} {it:Addr} {u:Value} {o:Obj} {n:String} {vs:Array Value} {Q:Unit->Shared->Prop} (ho:s.heap.get? it=some o) (hc:o.cls=.type n) (hd:o.data=.fields vs)
    (hn:["enumerate","zip","dict_itemiterator","dict_reverseitemiterator","odict_iterator","itertools.zip_longest","itertools.pairwise"].contains n=false) (hQ:Q () s):wpAny M A (letOwnedTupleGo tg (.ref it) u) Q E s:=by
  unfold letOwnedTupleGo
  cases tg <;> first
    | exact yG hQ
    | (cases u <;> first
        | exact yG hQ
        | (refine yA (wpAny_load ho ?_)
           rw [hc,hd]
           show wpAny M A (if (["enumerate","zip","dict_itemiterator","dict_reverseitemiterator","odict_iterator","itertools.zip_longest","itertools.pairwise"].contains n && vs[0]? == some (rawInt _))=true then _ else _) Q E s
           rw [yK (by intro h; rw [hn,Bool.false_and] at h; cases h)]
           exact yG hQ))
def Itl (K:W.Frag) (a:Addr):It :=
 ⟨fun i H=>∃ xs x,SqL K H a xs/\xs[i]?=some x,fun i H x H'=>H'=H/\∀ xs,SqL K H a xs->xs[i]?=some x,fun i H=>∃ xs,SqL K H a xs/\xs.length<=i⟩
def Itt (K:W.Frag) (a:Addr):It :=
 ⟨fun i H=>∃ xs x,SqT K H a xs/\xs[i]?=some x,fun i H x H'=>H'=H/\∀ xs,SqT K H a xs->xs[i]?=some x,fun i H=>∃ xs,SqT K H a xs/\xs.length<=i⟩
def Itr (lo:Int) (n:Nat):It:=⟨fun i _=>i<n,fun i H x H'=>H'=H/\x=.int (lo+i),fun i _=>n<=i⟩
theorem zkd {P:Program} {w:World} {K:W.Frag} {tg:Expr} (a it:Addr):Turn P w K tg (Itl K a) [it] it (fun i h=>h.IsListIter it a i) where
 mem:=by simp
 obj:=fun i h st b hb=>by
  have e:b=it:=by simpa using hb
  subst e; obtain ⟨o,e,c,d⟩:=st
  exact ⟨o,e,fun v z=>by rw [d] at z; cases z⟩
 keep:=fun i h h' st k=>st.at fun o e=>k it (by simp) o e
 item:=by
  intro X hP hw hK hc i pins s σ H E I hf st hg
  subst hP hw hK
  obtain ⟨xs,x,hq,hx⟩:=hg; obtain ⟨its,rv,p,hz⟩:=I.list hq; obtain ⟨u,hu,ru⟩:=rv.get hx
  obtain ⟨f0,f1,f2,f3,f4,f5⟩:=hf it (by simp)
  refine wpAny_pyNext_list_item st p.isList (x:=u) (by simpa using hu) fun h' st' sb=>?_
  have I1:Inv X pins σ H { s with heap:=h' }:=I.turned (t':=s.toks) (fun b o hb e=>(sb.2 b hb).trans e) f0 f1 f3 f4 f5
  obtain ⟨o,e,c,d⟩:=id st'
  exact ⟨u,rfl,zjT (s:={ s with heap:=h' }) e c d (by decide) ⟨x,H,I1,ru,⟨rfl,fun ys hy=>by rw [I.list_inj hy hq]; exact hx⟩,st',fun b hb=>(hf b hb).1⟩⟩
 done:=by
  intro X hP hw hK hc i pins s σ H E I hf st hg
  subst hP hw hK
  obtain ⟨xs,hq,hx⟩:=hg; obtain ⟨its,rv,p,hz⟩:=I.list hq
  obtain ⟨f0,f1,f2,f3,f4,f5⟩:=hf it (by simp)
  have hl:=rv.length
  exact wpAny_pyNext_list_end (I.ok.hd hc) st p.isList (by simp; omega) fun h' eb=>⟨rfl,I.turned (t':=s.toks) (fun b o hb e=>eb b o hb e) f0 f1 f3 f4 f5⟩
 self:=fun _ _ _ _ _ st h=>wpAny_pyIter_listiter st h
theorem zjb {P:Program} {w:World} {K:W.Frag} {tg:Expr} (a it:Addr):Turn P w K tg (Itt K a) [it] it (fun i h=>h.IsTupleIter it a i) where
 mem:=by simp
 obj:=fun i h st b hb=>by
  have e:b=it:=by simpa using hb
  subst e; obtain ⟨o,e,c,d⟩:=st
  exact ⟨o,e,fun v z=>by rw [d] at z; cases z⟩
 keep:=fun i h h' st k=>st.at fun o e=>k it (by simp) o e
 item:=by
  intro X hP hw hK hc i pins s σ H E I hf st hg
  subst hP hw hK
  obtain ⟨xs,x,hq,hx⟩:=hg; obtain ⟨its,rv,p,hz⟩:=I.tuple hq; obtain ⟨u,hu,ru⟩:=rv.get hx
  obtain ⟨f0,f1,f2,f3,f4,f5⟩:=hf it (by simp)
  refine wpAny_pyNext_tuple_item st (show s.heap.IsTuple a its.toArray from p) (x:=u) (by simpa using hu) fun h' st' sb=>?_
  have I1:Inv X pins σ H { s with heap:=h' }:=I.turned (t':=s.toks) (fun b o hb e=>(sb.2 b hb).trans e) f0 f1 f3 f4 f5
  obtain ⟨o,e,c,d⟩:=id st'
  exact ⟨u,rfl,zjT (s:={ s with heap:=h' }) e c d (by decide) ⟨x,H,I1,ru,⟨rfl,fun ys hy=>by rw [I.tuple_inj hy hq]; exact hx⟩,st',fun b hb=>(hf b hb).1⟩⟩
 done:=by
  intro X hP hw hK hc i pins s σ H E I hf st hg
  subst hP hw hK
  obtain ⟨xs,hq,hx⟩:=hg; obtain ⟨its,rv,p,hz⟩:=I.tuple hq
  obtain ⟨f0,f1,f2,f3,f4,f5⟩:=hf it (by simp)
  have hl:=rv.length
  exact wpAny_pyNext_tuple_end (I.ok.hd hc) st (show s.heap.IsTuple a its.toArray from p) (by simp; omega) fun h' eb=>⟨rfl,I.turned (t':=s.toks) (fun b o hb e=>eb b o hb e) f0 f1 f3 f4 f5⟩
 self:=fun _ _ _ _ _ st h=>wpAny_pyIter_tupleiter st h
theorem zjc {P:Program} {w:World} {K:W.Frag} {tg:Expr} (it:Addr) (lo:Int) (n:Nat):Turn P w K tg (Itr lo n) [it] it (fun i h=>IsRangeIter h it (lo+(i:Nat) * 1) ((n:Int)-(i:Nat)) 1) where
 mem:=by simp
 obj:=fun i h st b hb=>by
  have e:b=it:=by simpa using hb
  subst e
  exact ⟨_,st,fun v z=>by
   have z':Data.fields _=Data.cell v:=z
   cases z'⟩
 keep:=fun i h h' st k=>k it (by simp) _ st
 item:=by
  intro X hP hw hK hc i pins s σ H E I hf st hg
  subst hP hw hK
  obtain ⟨f0,f1,f2,f3,f4,f5⟩:=hf it (by simp)
  have W:=Walks.range (prog:=X.prog) (w:=X.w) (I.ok.hd hc) it lo 1 n
  refine W.item i s _ _ hg st fun v h' tk hv st' kk=>?_
  obtain ⟨t,rfl⟩:=hv
  have I1:Inv X pins σ H { s with heap:=h',toks:=tk }:=I.turned (fun b o hb e=>kk b o (by simpa using hb) e) f0 f1 f3 f4 f5
  refine ⟨_,rfl,zjT (s:={ s with heap:=h',toks:=tk }) (n:="range_iterator") st' rfl rfl (by decide) ⟨.int (lo+i),H,I1,⟨t,?_⟩,⟨rfl,rfl⟩,st',fun b hb=>(hf b hb).1⟩⟩
  rw [Int.mul_one]
 done:=by
  intro X hP hw hK hc i pins s σ H E I hf st hg
  subst hP hw hK
  obtain ⟨f0,f1,f2,f3,f4,f5⟩:=hf it (by simp)
  exact wpAny_pyNext_range_end (I.ok.hd hc) st (by have:n<=i:=hg; omega) fun h' eb=>⟨rfl,I.turned (t':=s.toks) (fun b o hb e=>eb b o hb e) f0 f1 f3 f4 f5⟩
 self:=fun _ _ _ _ _ st h=>wpAny_pyIter_rangeiter st h
section
variable {X:Cx} {tg:Expr}
theorem zmp {pins:List (Addr × Obj)} {σ:St} {H:Hp} {s:Shared} {R:It->Hp->Prop} {E:Value->Shared->Prop} {lo hi:Int} {t u v:Tok} {tk:Nat} (I:Inv X pins σ H s) (h1:-(2 ^ 62)<=lo) (h2:lo<2 ^ 62) (h3:-(2 ^ 62)<=hi) (h4:hi<2 ^ 62)
  (q:R (Itr lo (hi-lo).toNat) H):wpAny (model X.prog X.w) X.A (pyIter (.ref s.heap.objs.size)) (PIE X pins σ tg R) E { s with heap:=s.heap.push { cls:=.type "range",data:=.fields #[.int lo t,.int hi u,.int 1 v] },toks:=tk }:=by
 refine wpAny_pyIter_range (IsRange.new ..) (small_one h1 h2 h3 h4) ?_
 have I1:Inv X pins σ H { s with heap:=s.heap.push { cls:=.type "range",data:=.fields #[.int lo t,.int hi u,.int 1 v] },toks:=tk }:=I.kept fun b o e=>yC _ e
 refine ⟨(s.heap.push { cls:=.type "range",data:=.fields #[.int lo t,.int hi u,.int 1 v] }).objs.size,[(s.heap.push { cls:=.type "range",data:=.fields #[.int lo t,.int hi u,.int 1 v] }).objs.size],_,_,H,rfl,
  I1.kept (t':=tk) fun b o e=>yC _ e,zjc _ lo (hi-lo).toNat,?_,fun b hb=>?_,q⟩
 ·have e1:lo+((0:Nat):Int) * 1=lo:=by simp
  have e2:(((hi-lo).toNat:Nat):Int)-((0:Nat):Int)=Builtin.Range.rangeSize lo hi 1:=by rw [rangeSize_one]; split <;> omega
  show IsRangeIter _ _ (lo+((0:Nat):Int) * 1) ((((hi-lo).toNat:Nat):Int)-((0:Nat):Int)) 1
  rw [e1,e2]; exact yI _ rfl
 ·have e:b=(s.heap.push { cls:=.type "range",data:=.fields #[.int lo t,.int hi u,.int 1 v] }).objs.size:=by simpa using hb
  subst e; exact I1.fpOk (yH _) (I1.hok.fresh (yH _))
def ztX (ta:TA):TI:=fun σ H R=>ta σ H fun vs H1=>∃ j:Int,vs=[.int j]/\-(2 ^ 62)<=j/\j<2 ^ 62/\R (Itr 0 j.toNat) H1
theorem zkO {a:Expr} {ta:TA} {p pos:Pos} (hg:Gl X "range") (hm:X.mg "range"=none) (ha:PA X [a] ta) (hs:starEach [a] X.env=[(false,eval a X.env)]:=by rfl):PI X tg (.Call (.Name "range" p) [a] [] pos) (ztX ta):=by
 intro pins s σ H R I h
 refine Call_ (zdB I hg hm boot_range (YK (thn (ha pos pins s σ H _ I h) fun us s1 ⟨vs,H1,I1,r1,q1⟩=>?_) hs rfl))
 obtain ⟨j,e,q1,q2,q⟩:=q1; subst e
 cases r1 with
 | cons r rr =>
  cases rr; obtain ⟨t,rfl⟩:=r
  exact call_range_1 (zmp I1 (by omega) (by omega) q1 q2 (by simpa using q))
def zu9 (wi:TI) (g:TG) (tb:TS):TS:=fun D σ H=>wi σ H fun J H1=>∃ W:Nat->Nat->St->Hp->Prop,(∃ m,W 0 m σ H1)/\∀ i m σ H,W i m σ H ->
 (J.stop i H/\D.nx σ H)\/(J.go i H/\∃ N:St->Hp->Prop,(∀ σ' H',N σ' H'->∃ m',m'<m/\W (i+1) m' σ' H')/\∀ x H',J.yld i H x H'->g x σ H' fun σ2 H2=>tb { D with nx:=N,ct:=N,bk:=D.nx } σ2 H2)
def zfN (fp:List Addr) (h:Heap):List (Addr × Obj):=fp.filterMap fun b=>(h.get? b).map fun o=>(b,o)
theorem zdv {fp:List Addr} {h:Heap} {b:Addr} {o:Obj} (hb:b ∈ fp) (e:h.get? b=some o):(b,o) ∈ zfN fp h:=List.mem_filterMap.mpr ⟨b,hb,by rw [e]; rfl⟩
theorem zk3 {fp:List Addr} {h:Heap} {p:Addr × Obj} (hp:p ∈ zfN fp h):p.1 ∈ fp/\h.get? p.1=some p.2:=by
 obtain ⟨b,hb,e⟩:=List.mem_filterMap.mp hp
 cases q:h.get? b with
 | none=>rw [q] at e; cases e
 | some o =>
  rw [q] at e
  have e':(b,o)=p:=Option.some.inj e
  subst e'
  exact ⟨hb,q⟩
theorem Inv.pinned {pins:List (Addr × Obj)} {σ:St} {H:Hp} {s:Shared} {fp:List Addr} (I:Inv X pins σ H s) (hf:∀ b ∈ fp,zgD X pins H b) (ho:∀ b ∈ fp,∃ o,s.heap.get? b=some o/\∀ v,o.data≠.cell v):Inv X (pins ++ zfN fp s.heap) σ H s :=
 I.pins_of fun p hp=>(YY.mp hp).elim (fun z=>I.pin p (yc _ z)) fun z=>by
  obtain ⟨hb,e⟩:=zk3 z; obtain ⟨f0,f1,f2,_⟩:=hf p.1 hb; obtain ⟨o,e',d⟩:=ho p.1 hb
  rw [e] at e'; cases e'
  exact ⟨e,f0,f1,f2,d⟩
theorem Inv.unpinned {pins pl:List (Addr × Obj)} {σ:St} {H:Hp} {s:Shared} (I:Inv X (pins ++ pl) σ H s):Inv X pins σ H s:=I.pins_of fun p hp=>I.pin p (yc _ (List.mem_append_left _ hp))
theorem zq3 {iter:Expr} {body:List Stmt} {wi:TI} {g:TG} {tb:TS} {pos:Pos} (hp:PassesOwn (model X.prog X.w) X.A X.env X.xe) (hc:X.calm=true) (hi:PI X tg iter wi) (hg:PG X tg g) (hb:PSs X body tb)
  (hs:∀ x,foldedSetIterable iter X.env x=pure x:=by intro _; rfl):PS X (.For tg iter body [] pos) (zu9 wi g tb):=by
 intro pins s σ H D I h
 refine wpAny_For (thn (hi pins s σ H _ I h) fun v s1 h1=>thn h1 fun itv s2 h2=>?_) hs
 obtain ⟨it,fp,tn,J,H2,e,I2,T,st2,f2,W,⟨m0,w0⟩,turn⟩:=h2
 subst e
 -- what stays true of the iterator's objects through the loop
 have stat:∀ {H':Hp},(∀ b ∈ fp,H' b=none)->∀ b ∈ fp,zgD X pins H' b:=fun hn b hb=>⟨hn b hb,(f2 b hb).2⟩
 refine codeAny_forLoop_any (fun n s'=>∃ i σ' H',Inv X pins σ' H' s'/\tn i s'.heap/\(∀ b ∈ fp,H' b=none)/\W i n σ' H') ?_ m0 ⟨0,σ,H2,I2,st2,fun b hb=>(f2 b hb).1,w0⟩
 rintro n s3 ⟨i,σ3,H3,I3,st3,fr3,w3⟩
 rcases turn i n σ3 H3 w3 with ⟨stop,qn⟩ | ⟨go,N,hN,step⟩
 ·refine wpAny_passesOwn hp (thn (T.done X rfl rfl rfl hc i pins s3 σ3 H3 X.xe I3 (stat fr3) st3 stop) fun r s4 ⟨hr,I4⟩=>?_)
  subst hr; exact wpAny_execs_nil ⟨σ3,H3,I4,qn⟩
 ·refine wpAny_passesOwn hp (thn (T.item X rfl rfl rfl hc i pins s3 σ3 H3 X.xe I3 (stat fr3) st3 go) fun r s4 ⟨u,hr,h4⟩=>?_)
  subst hr
  refine wpAny_passesOwn hp (thn h4 fun _ s5 ⟨x,H5,I5,r5,y5,st5,fr5⟩=>?_)
  have I5':=I5.pinned (stat fr5) (T.obj _ _ st5)
  refine wpAny_passesOwn hp (thn (hg _ s5 σ3 H5 x u _ I5' r5 (step x H5 y5)) fun _ s6 ⟨σ6,H6,I6,q6⟩=>?_)
  refine wpAny_passesOwn hp (thn (hb _ s6 σ6 H6 _ I6 q6) fun f s7 q7=>?_)
  have again:∀ {σ7:St} {H7:Hp},Inv X (pins ++ zfN fp s5.heap) σ7 H7 s7->N σ7 H7->∃ m,m<n/\∃ i σ' H',Inv X pins σ' H' s7/\tn i s7.heap/\(∀ b ∈ fp,H' b=none)/\W i m σ' H':=fun {σ7 H7} I7 n7=>by
   obtain ⟨m',hm,w7⟩:=hN σ7 H7 n7
   refine ⟨m',hm,i+1,σ7,H7,I7.unpinned,T.keep _ _ _ st5 fun b hb o e=>(I7.pin (b,o) (yc _ (yc _ (zdv hb e)))).1,fun b hb=>?_,w7⟩
   obtain ⟨o,e,d⟩:=T.obj _ _ st5 b hb; exact (I7.pin (b,o) (yc _ (yc _ (zdv hb e)))).2.1
  cases f with
  | next=>obtain ⟨σ7,H7,I7,n7⟩:=q7; exact again I7 n7
  | cont=>obtain ⟨σ7,H7,I7,n7⟩:=q7; exact again I7 n7
  | brk=>obtain ⟨σ7,H7,I7,q7⟩:=q7; exact ⟨σ7,H7,I7.unpinned,q7⟩
  | ret v=>obtain ⟨x7,σ7,H7,I7,r7,q7⟩:=q7; exact ⟨x7,σ7,H7,I7.unpinned,r7,q7⟩
end
abbrev R2:=V->V->Hp->VK->Prop
def OpR (X:Cx) (f:Value->Value->Sem Value) (r:R2):Prop :=
 ∀ (pins:List (Addr × Obj)) (s:Shared) (σ:St) (H:Hp) (x y:V) (v u:Value) (Q:VK),Inv X pins σ H s->zaV x v->zaV y u->r x y H Q ->
  wpAny (model X.prog X.w) X.A (f v u) (EP X pins σ Q) X.xe s
def UnR (X:Cx) (f:Value->Sem Value) (r:V->Hp->VK->Prop):Prop :=
 ∀ (pins:List (Addr × Obj)) (s:Shared) (σ:St) (H:Hp) (x:V) (v:Value) (Q:VK),Inv X pins σ H s->zaV x v->r x H Q ->
  wpAny (model X.prog X.w) X.A (f v) (EP X pins σ Q) X.xe s
def zcW (X:Cx) (f:Value) (r:List V->Hp->VK->Prop):Prop :=
 ∀ (pins:List (Addr × Obj)) (s:Shared) (σ:St) (H:Hp) (xs:List V) (us:List Value) (Q:VK),Inv X pins σ H s->zaK xs us->r xs H Q ->
  wpAny (model X.prog X.w) X.A (call f us) (EP X pins σ Q) X.xe s
def tOp (r:R2) (ta tb:TE):TE:=fun σ H Q=>ta σ H fun x H1=>tb σ H1 fun y H2=>r x y H2 Q
def tUn (r:V->Hp->VK->Prop) (ta:TE):TE:=fun σ H Q=>ta σ H fun x H1=>r x H1 Q
def rI (C:Int->Int->Prop) (g:Int->Int->V):R2:=fun x y H Q=>∃ i j,x=.int i/\y=.int j/\C i j/\Q (g i j) H
def rI0 (g:Int->Int->V):R2:=fun x y H Q=>∃ i j,x=.int i/\y=.int j/\Q (g i j) H
def rU (g:Int->V):V->Hp->VK->Prop:=fun x H Q=>∃ i,x=.int i/\Q (g i) H
section
variable {X:Cx} {a b c:Expr} {ta tb tc:TE} {pos:Pos}
theorem zut (ha:PE X a ta) (hb:PE X b tb) {pins:List (Addr × Obj)} {s:Shared} {σ:St} {H:Hp} {R:V->V->Hp->Prop} (I:Inv X pins σ H s)
  (h:ta σ H fun x H1=>tb σ H1 fun y H2=>R x y H2) {Q:Value->Shared->Prop} {f:Value->Value->Sem Value}
  (hf:∀ v u s2 x y H2,Inv X pins σ H2 s2->zaV x v->zaV y u->R x y H2->wpAny (model X.prog X.w) X.A (f v u) Q X.xe s2) :
  wpAny (model X.prog X.w) X.A (eval a X.env) (fun v s₁=>wpAny (model X.prog X.w) X.A (eval b X.env) (fun u s₂=>wpAny (model X.prog X.w) X.A (f v u) Q X.xe s₂) X.xe s₁) X.xe s:=by
 refine thn (ha pins s σ H _ I h) fun v s1 ⟨x,H1,I1,r1,q1⟩=>?_
 refine thn (hb pins s1 σ H1 _ I1 q1) fun u s2 ⟨y,H2,I2,r2,q2⟩=>?_
 exact hf v u s2 x y H2 I2 r1 r2 q2
theorem zrc {op:Operator} {r:R2} (ho:OpR X (binaryOp op) r) (ha:PE X a ta) (hb:PE X b tb):PE X (.BinOp a op b pos) (tOp r ta tb):=by
 intro pins s σ H Q I h
 exact wpAny_BinOp (zut ha hb I h fun v u s2 x y H2 I2 rx ry q=>ho pins s2 σ H2 x y v u Q I2 rx ry q)
theorem zty {op:UnaryOp} {r:V->Hp->VK->Prop} (ho:UnR X (unaryOp op) r) (ha:PE X a ta):PE X (.UnaryOp op a pos) (tUn r ta):=by
 intro pins s σ H Q I h
 exact UnaryOp_ (thn (ha pins s σ H _ I h) fun v s1 ⟨x,H1,I1,r1,q1⟩=>ho pins s1 σ H1 x v Q I1 r1 q1)
theorem opI {f:Value->Value->Sem Value} {C:Int->Int->Prop} {g:Int->Int->Int}
  (rule:∀ (i j:Int) (t u:Tok) (s:Shared) (Q:Value->Shared->Prop) (E:Value->Shared->Prop),C i j->Q (.int (g i j) s.toks) { s with toks:=s.toks+1 }->wpAny (model X.prog X.w) X.A (f (.int i t) (.int j u)) Q E s) :
  OpR X f (rI C fun i j=>.int (g i j)):=by
 intro pins s σ H x y v u Q I rx ry h; obtain ⟨i,j,rfl,rfl,hc,q⟩:=h; obtain ⟨t,rfl⟩:=rx; obtain ⟨t',rfl⟩:=ry; exact rule i j t t' s _ _ hc ⟨.int (g i j),H,I.tok _,⟨_,rfl⟩,q⟩
theorem zuO {f:Value->Value->Sem Value} {g:Int->Int->Int}
  (rule:∀ (i j:Int) (t u:Tok) (s:Shared) (Q:Value->Shared->Prop) (E:Value->Shared->Prop),Q (.int (g i j) s.toks) { s with toks:=s.toks+1 }->wpAny (model X.prog X.w) X.A (f (.int i t) (.int j u)) Q E s) :
  OpR X f (rI0 fun i j=>.int (g i j)):=by
 intro pins s σ H x y v u Q I rx ry h; obtain ⟨i,j,rfl,rfl,q⟩:=h; obtain ⟨t,rfl⟩:=rx; obtain ⟨t',rfl⟩:=ry; exact rule i j t t' s _ _ ⟨.int (g i j),H,I.tok _,⟨_,rfl⟩,q⟩
theorem ztG {f:Value->Value->Sem Value} {g:Int->Int->Bool}
  (rule:∀ (i j:Int) (t u:Tok) (s:Shared) (Q:Value->Shared->Prop) (E:Value->Shared->Prop),Q (.bool (g i j)) s->wpAny (model X.prog X.w) X.A (f (.int i t) (.int j u)) Q E s) :
  OpR X f (rI0 fun i j=>.bl (g i j)):=by
 intro pins s σ H x y v u Q I rx ry h; obtain ⟨i,j,rfl,rfl,q⟩:=h; obtain ⟨t,rfl⟩:=rx; obtain ⟨t',rfl⟩:=ry; exact rule i j t t' s _ _ ⟨.bl (g i j),H,I,rfl,q⟩
def znK (i j:Int):Prop:=0<j/\j<1073741824
def zl5 (i j:Int):Prop:=0<=j/\j<=1000000/\i.natAbs<2 ^ 64
def zj7 (i j:Int):Prop:=(-(2 ^ 64)<i/\i<2 ^ 64)\/(-(2 ^ 64)<j/\j<2 ^ 64)
theorem zj7.ok {i j:Int} (h:zj7 i j):IntMulOk i j:=by
 rcases h with ⟨h1,h2⟩ | ⟨h1,h2⟩
 ·exact .of_left (intBits_le_64 h1 h2)
 ·exact .of_right (intBits_le_64 h1 h2)
theorem zrv:OpR X (binaryOp .Add) (rI0 fun i j=>.int (i+j)):=zuO fun _ _ _ _ _ _ _ q=>add_int q
theorem zrp:OpR X (binaryOp .Sub) (rI0 fun i j=>.int (i-j)):=zuO fun _ _ _ _ _ _ _ q=>sub_int q
theorem zrr:OpR X (binaryOp .Mult) (rI zj7 fun i j=>.int (i * j)):=opI fun _ _ _ _ _ _ _ hc q=>mul_int q hc.ok
theorem zpp:OpR X (binaryOp .FloorDiv) (rI znK fun i j=>.int (i / j)):=opI fun i j _ _ _ _ _ hc q=>by
 have h1:(0:Int)<j:=hc.1
 have h2:j<1073741824:=hc.2
 exact floordiv_int (by omega) (by rw [Int.fdiv_eq_ediv_of_nonneg i (by omega)]; exact q) (.inl (PyProof.noPylong_small (by omega)))
theorem zrs:OpR X (binaryOp .Mod) (rI (fun _ j=>0<j) fun i j=>.int (i % j)):=opI fun i j _ _ _ _ _ hc q=>by
 have h1:(0:Int)<j:=hc
 exact mod_int' (by omega) (by rw [Int.fmod_eq_emod_of_nonneg i (by omega)]; exact q)
theorem zrq:OpR X (binaryOp .Pow) (rI zl5 fun i j=>.int (i ^ j.toNat)):=opI fun _ _ _ _ _ _ _ hc q=>pow_int_small hc.1 hc.2.1 hc.2.2 q
theorem unI {f:Value->Sem Value} {g:Int->Int}
  (rule:∀ (i:Int) (t:Tok) (s:Shared) (Q:Value->Shared->Prop) (E:Value->Shared->Prop),Q (.int (g i) s.toks) { s with toks:=s.toks+1 }->wpAny (model X.prog X.w) X.A (f (.int i t)) Q E s) :
  UnR X f (rU fun i=>.int (g i)):=by
 intro pins s σ H x v Q I rx h; obtain ⟨i,rfl,q⟩:=h; obtain ⟨t,rfl⟩:=rx; exact rule i t s _ _ ⟨.int (g i),H,I.tok _,⟨_,rfl⟩,q⟩
theorem zqn:UnR X (unaryOp .USub) (rU fun i=>.int (-i)):=unI fun _ _ _ _ _ q=>neg_int q
end
def zoB:V->V->Bool
 | .non,.non=>true | .non,.int _=>true | .int _,.non=>true | .non,.bl _=>true | .bl _,.non=>true | .non,.str _=>true | .str _,.non=>true
 | .int _,.int _=>true | .bl _,.bl _=>true | .str _,.str _=>true | .byt _,.byt _=>true
 | .int _,.str _=>true | .str _,.int _=>true | .bl _,.str _=>true | .str _,.bl _=>true
 | _,_=>false
def rEq:R2:=fun x y H Q=>zoB x y=true/\Q (.bl (decide (x=y))) H
def rNe:R2:=fun x y H Q=>zoB x y=true/\Q (.bl (!decide (x=y))) H
theorem zlC {i j:Int}:decide (V.int i=V.int j)=(i == j):=by
 rw [Yv]; simp
theorem zon {i j:Bool}:decide (V.bl i=V.bl j)=(i == j):=by
 rw [Yv]; simp
theorem zlB {i j:Str}:decide (V.str i=V.str j)=(i == j):=by
 rw [Yv]; simp
theorem zlD {i j:Array UInt8}:decide (V.byt i=V.byt j)=(i.toList == j.toList):=by
 rw [Yv]; cases i; cases j; simp
section
variable {X:Cx} {a b c:Expr} {ta tb tc:TE} {pos:Pos}
theorem zaE {pins:List (Addr × Obj)} {σ:St} {H:Hp} {s:Shared} {Q:VK} {k k':Bool} (I:Inv X pins σ H s) (q:Q (.bl k) H) (e:k=k'):EP X pins σ Q (.bool k') s:=by
 subst e; exact ⟨.bl k,H,I,rfl,q⟩
theorem ztF:OpR X (compareOp .Eq) rEq:=by
 intro pins s σ H x y v u Q I rx ry h; obtain ⟨hs,q⟩:=h
 cases x with
 | non =>
  cases rx
  cases y with
  | non=>cases ry; exact PySem.EqNone.eq_none_none (zaE I q (by simp))
  | bl j=>cases ry; exact PySem.EqNone.eq_none_bool (zaE I q (by simp))
  | int j=>obtain ⟨t',rfl⟩:=ry; exact PySem.EqNone.eq_none_int (zaE I q (by simp))
  | str j=>obtain ⟨t',rfl⟩:=ry; exact PySem.EqNone.eq_none_str (zaE I q (by simp))
  | _=>exact yQ (show false=true from hs) yR
 | bl i =>
  cases rx
  cases y with
  | non=>cases ry; exact PySem.EqNone.eq_bool_none (zaE I q (by simp))
  | bl j=>cases ry; exact eq_bool (zaE I q zon)
  | str j=>obtain ⟨t',rfl⟩:=ry; exact PySem.EqMixed.eq_bool_str (zaE I q (by simp))
  | _=>exact yQ (show false=true from hs) yR
 | int i =>
  obtain ⟨t,rfl⟩:=rx
  cases y with
  | non=>cases ry; exact PySem.EqNone.eq_int_none (zaE I q (by simp))
  | int j=>obtain ⟨t',rfl⟩:=ry; exact eq_int (zaE I q zlC)
  | str j=>obtain ⟨t',rfl⟩:=ry; exact PySem.EqMixed.eq_int_str (zaE I q (by simp))
  | _=>exact yQ (show false=true from hs) yR
 | str i =>
  obtain ⟨t,rfl⟩:=rx
  cases y with
  | non=>cases ry; exact PySem.EqNone.eq_str_none (zaE I q (by simp))
  | bl j=>cases ry; exact PySem.EqMixed.eq_str_bool (zaE I q (by simp))
  | int j=>obtain ⟨t',rfl⟩:=ry; exact PySem.EqMixed.eq_str_int (zaE I q (by simp))
  | str j=>obtain ⟨t',rfl⟩:=ry; exact eq_str (zaE I q zlB)
  | _=>exact yQ (show false=true from hs) yR
 | byt i =>
  obtain ⟨t,rfl⟩:=rx
  cases y with
  | byt j=>obtain ⟨t',rfl⟩:=ry; exact W.eq_bytes (zaE I q zlD)
  | _=>exact yQ (show false=true from hs) yR
 | _=>cases y <;> exact yQ (show false=true from hs) yR
theorem ztB:OpR X (compareOp .NotEq) rNe:=by
 intro pins s σ H x y v u Q I rx ry h; obtain ⟨hs,q⟩:=h
 cases x with
 | non =>
  cases rx
  cases y with
  | non=>cases ry; exact PySem.EqNone.ne_none_none (zaE I q (by simp))
  | bl j=>cases ry; exact PySem.EqNone.ne_none_bool (zaE I q (by simp))
  | int j=>obtain ⟨t',rfl⟩:=ry; exact PySem.EqNone.ne_none_int (zaE I q (by simp))
  | str j=>obtain ⟨t',rfl⟩:=ry; exact PySem.EqNone.ne_none_str (zaE I q (by simp))
  | _=>exact yQ (show false=true from hs) yR
 | bl i =>
  cases rx
  cases y with
  | non=>cases ry; exact PySem.EqNone.ne_bool_none (zaE I q (by simp))
  | bl j=>cases ry; exact ne_bool (zaE I q (yo not zon))
  | str j=>obtain ⟨t',rfl⟩:=ry; exact PySem.EqMixed.ne_bool_str (zaE I q (by simp))
  | _=>exact yQ (show false=true from hs) yR
 | int i =>
  obtain ⟨t,rfl⟩:=rx
  cases y with
  | non=>cases ry; exact PySem.EqNone.ne_int_none (zaE I q (by simp))
  | int j=>obtain ⟨t',rfl⟩:=ry; exact ne_int (zaE I q (yo not zlC))
  | str j=>obtain ⟨t',rfl⟩:=ry; exact PySem.EqMixed.ne_int_str (zaE I q (by simp))
  | _=>exact yQ (show false=true from hs) yR
 | str i =>
  obtain ⟨t,rfl⟩:=rx
  cases y with
  | non=>cases ry; exact PySem.EqNone.ne_str_none (zaE I q (by simp))
  | bl j=>cases ry; exact PySem.EqMixed.ne_str_bool (zaE I q (by simp))
  | int j=>obtain ⟨t',rfl⟩:=ry; exact PySem.EqMixed.ne_str_int (zaE I q (by simp))
  | str j=>obtain ⟨t',rfl⟩:=ry; exact ne_str (zaE I q (yo not zlB))
  | _=>exact yQ (show false=true from hs) yR
 | byt i =>
  obtain ⟨t,rfl⟩:=rx
  cases y with
  | byt j=>obtain ⟨t',rfl⟩:=ry; exact W.ne_bytes (zaE I q (yo not zlD))
  | _=>exact yQ (show false=true from hs) yR
 | _=>cases y <;> exact yQ (show false=true from hs) yR
theorem ztC:OpR X (compareOp .Lt) (rI0 fun i j=>.bl (decide (i<j))):=ztG fun _ _ _ _ _ _ _ q=>lt_int q
theorem ztD:OpR X (compareOp .LtE) (rI0 fun i j=>.bl (decide (i<=j))):=ztG fun _ _ _ _ _ _ _ q=>le_int q
theorem ztE:OpR X (compareOp .Gt) (rI0 fun i j=>.bl (decide (j<i))):=ztG fun _ _ _ _ _ _ _ q=>gt_int q
theorem zkZ:OpR X (compareOp .In) (fun x y H Q=>∃ i j,x=.str i/\y=.str j/\Q (.bl (!(Builtin.Str.occurrences j i 0 j.length 1).isEmpty)) H):=by
 intro pins s σ H x y v u Q I rx ry h; obtain ⟨i,j,rfl,rfl,q⟩:=h; obtain ⟨t,rfl⟩:=rx; obtain ⟨t',rfl⟩:=ry; exact in_str (zaE I q rfl)
theorem zrt:OpR X (compareOp .Is) (fun x y H Q=>y=.non/\Q (.bl (decide (x=.non))) H):=by
 intro pins s σ H x y v u Q I rx ry h; obtain ⟨rfl,q⟩:=h; cases ry; refine is_none_gen (zaE I q ?_)
 cases x <;> first
  | (cases rx; rfl)
  | (obtain ⟨t,rfl⟩:=rx; rfl)
theorem zpo:OpR X (compareOp .IsNot) (fun x y H Q=>y=.non/\Q (.bl (!decide (x=.non))) H):=by
 intro pins s σ H x y v u Q I rx ry h; obtain ⟨rfl,q⟩:=h; cases ry; refine isnot_none_gen (zaE I q ?_)
 cases x <;> first
  | (cases rx; rfl)
  | (obtain ⟨t,rfl⟩:=rx; rfl)
theorem zg0:OpR X (compareOp .NotIn) (fun x y H Q=>∃ i j,x=.str i/\y=.str j/\Q (.bl (!(!(Builtin.Str.occurrences j i 0 j.length 1).isEmpty))) H):=by
 intro pins s σ H x y v u Q I rx ry h; obtain ⟨i,j,rfl,rfl,q⟩:=h; obtain ⟨t,rfl⟩:=rx; obtain ⟨t',rfl⟩:=ry; exact notIn_str (zaE I q rfl)
theorem OpR.or {f:Value->Value->Sem Value} {r r':R2} (h:OpR X f r) (h':OpR X f r'):OpR X f (fun x y H Q=>r x y H Q\/r' x y H Q):=by
 intro pins s σ H x y v u Q I rx ry q
 rcases q with q | q
 ·exact h pins s σ H x y v u Q I rx ry q
 ·exact h' pins s σ H x y v u Q I rx ry q
theorem znY (b:Expr) {op:CmpOp} (h:op≠.In:=by decide) (h2:op≠.NotIn:=by decide):behindInMarks op b=false:=by
 have e1:(op == CmpOp.In)=false:=by cases op <;> first | rfl | exact yQ rfl h
 have e2:(op == CmpOp.NotIn)=false:=by cases op <;> first | rfl | exact yQ rfl h2
 cases b <;> simp [behindInMarks,e1,e2]
theorem zph {op:CmpOp} {r:R2} (ho:OpR X (compareOp op) r) (ha:PE X a ta) (hb:PE X b tb) (hm:behindInMarks op b=false):PE X (.Compare a [op] [b] pos) (tOp r ta tb):=by
 intro pins s σ H Q I h
 exact wpAny_Compare1 (zut ha hb I h fun v u s2 x y H2 I2 rx ry q=>ho pins s2 σ H2 x y v u Q I2 rx ry q) hm
def zs0 (t:TE):TT:=fun σ H Q=>t σ H fun x H'=>∃ k,x=.bl k/\Q k H'
theorem zoU {op:CmpOp} {r:R2} (ho:OpR X (compareOp op) r) (ha:PE X a ta) (hb:PE X b tb) (hm:behindInMarks op b=false):PT X (.Compare a [op] [b] pos) (zs0 (tOp r ta tb)):=by
 intro pins s σ H Q I h
 refine wpAny_isTrue_Compare1 (thn (ha pins s σ H _ I h) fun v s1 ⟨x,H1,I1,r1,q1⟩=>thn (hb pins s1 σ H1 _ I1 q1) fun u s2 ⟨y,H2,I2,r2,q2⟩ =>
  thn (ho pins s2 σ H2 x y v u _ I2 r1 r2 q2) fun c s3 ⟨z,H3,I3,r3,k,e,q3⟩=>?_) hm
 subst e; cases r3; exact Yz ⟨H3,I3,q3⟩
def znM (r r':R2) (ta tb tc:TE):TE:=fun σ H Q=>ta σ H fun x H1=>tb σ H1 fun y H2=>r x y H2 fun z H3=>∃ k,z=.bl k /\
 (if k=true then tc σ H3 fun w' H4=>r' y w' H4 Q else Q (.bl false) H3)
theorem zmP {op op':CmpOp} {r r':R2} (ho:OpR X (compareOp op) r) (ho':OpR X (compareOp op') r') (ha:PE X a ta) (hb:PE X b tb) (hc:PE X c tc)
  (hm:lastMarks [op,op'] [b,c]=false:=by with_unfolding_all rfl):PE X (.Compare a [op,op'] [b,c] pos) (znM r r' ta tb tc):=by
 intro pins s σ H Q I h
 refine Compare_chain (thn (ha pins s σ H _ I h) fun v s1 ⟨x,H1,I1,r1,q1⟩=>chain_link (thn (hb pins s1 σ H1 _ I1 q1) fun u s2 ⟨y,H2,I2,r2,q2⟩ =>
  thn (ho pins s2 σ H2 x y v u _ I2 r1 r2 q2) fun d s3 ⟨z,H3,I3,r3,k,e,q3⟩=>?_)) hm
 subst e; cases r3; refine Yz ?_
 cases k with
 | false=>exact ite_ff ⟨.bl false,H3,I3,rfl,q3⟩
 | true=>exact ite_tt (chain_last (thn (hc pins s3 σ H3 _ I3 q3) fun w' s4 ⟨z',H4,I4,r4,q4⟩=>ho' pins s4 σ H4 y z' u w' Q I4 r2 r4 q4))
theorem zfP:(sizeLine:Nat)<2 ^ 63:=by rw [sizeLine_eq]; decide
theorem zjA:OpR X (binaryOp .Add) (fun x y H Q=>∃ i j,x=.str i/\y=.str j/\i.length+j.length<=sizeLine/\Q (.str (i ++ j)) H):=by
 intro pins s σ H x y v u Q I rx ry h; obtain ⟨i,j,rfl,rfl,hz,q⟩:=h; obtain ⟨t,rfl⟩:=rx; obtain ⟨t',rfl⟩:=ry
 exact add_str (fun t' tk=>⟨.str (i ++ j),H,I.tok _,⟨_,rfl⟩,q⟩) hz
theorem zcZ {x:V} {us:List Value} (r:zaK [x] us):∃ u,us=[u]/\zaV x u:=by
 cases r with
 | cons r1 r2=>cases r2; exact ⟨_,rfl,r1⟩
theorem zl9 {x y:V} {us:List Value} (r:zaK [x,y] us):∃ u w',us=[u,w']/\zaV x u/\zaV y w':=by
 cases r with
 | cons r1 r2 =>
  cases r2 with
  | cons r3 r4=>cases r4; exact ⟨_,_,rfl,r1,r3⟩
theorem zlN:zcW X (.type "int") (fun xs H Q=>(∃ i,xs=[.int i]/\Q (.int i) H)\/∃ k,xs=[.bl k]/\Q (.int (if k then 1 else 0)) H):=by
 intro pins s σ H xs us Q I r h
 rcases h with ⟨i,rfl,q⟩ | ⟨k,rfl,q⟩
 ·obtain ⟨u,rfl,t,rfl⟩:=zcZ r
  exact call_int_int ⟨.int i,H,I,⟨_,rfl⟩,q⟩
 ·obtain ⟨u,rfl,r1⟩:=zcZ r
  cases r1
  exact call_int_bool ⟨.int (if k then 1 else 0),H,I.tok _,⟨_,rfl⟩,q⟩
theorem zhB:zcW X (.type "str") (fun xs H Q=>∃ i,xs=[.int i]/\i.natAbs.log2<1920/\Q (.str (toString i)) H):=by
 intro pins s σ H xs us Q I r h; obtain ⟨i,rfl,hz,q⟩:=h; obtain ⟨u,rfl,t,rfl⟩:=zcZ r; exact PySem.P.str_of_int hz ⟨.str _,H,I.tok _,⟨_,rfl⟩,q⟩
end
structure ObjM (h:Heap) (x dx C:Addr) (mA:Str->Option Value):Prop where
 obj:h.get? x=some (W.instObj C dx)
 ns:h.Ns1 dx mA
 ne:dx≠x
theorem zhc {h:Heap} {dx:Addr} {mA:Str->Option Value} (n:h.Ns1 dx mA):∃ od,h.get? dx=some od/\∀ name,W.lookIn name od=some (mA name):=by
 obtain ⟨o,es,ep,ho,hd,hk,_,hm⟩:=n
 refine ⟨o,ho,fun name=>?_⟩
 have e:=hm name; unfold nsFind findBy at e; rw [<- Array.find?_toList] at e; unfold W.lookIn; rw [hd]
 dsimp only
 split
 ·rename_i y q
  rw [q] at e; exact yo some e
 ·rename_i q
  rw [q] at e
  have a:es.toList.any (·.refKey)=false:=by
   rw [List.any_eq_false]; intro y hy; obtain ⟨z,t,hkey⟩:=hk y (Array.mem_toList_iff.mp hy); simp [DictEntry.refKey,hkey]
  have a':¬ es.toList.any (·.refKey)=true:=by rw [a]; exact yR
  rw [yK a']; exact yo some e
theorem ObjM.look {h:Heap} {x dx C:Addr} {mA:Str->Option Value} (I:ObjM h x dx C mA):∃ od,W.InstAt h x (W.instObj C dx) C (some od)/\∀ name,W.lookIn name od=some (mA name) :=
 let ⟨od,ho,hl⟩:=zhc I.ns
 ⟨od,⟨I.obj,rfl,rfl,ho⟩,hl⟩
section
variable {prog:Program} {w:World} {A:Around} {E:Value->Shared->Prop} {s:Shared} {K:W.Frag} {x dx C f:Addr} {mA:Str->Option Value} {name:Str} {v:Value}
theorem zpU {expr:Bool} {Q:Value->Shared->Prop} (X:K.In s.heap) (I:ObjM s.heap x dx C mA) (hg:W.plainGet K C name=true) (hh:W.hasDictIn K C=true)
  (ha:W.findIn K (.ref C) name=some none) (hv:mA name=some v) (hv':W.handedIn v=true) (h:Q v { s with toks:=s.toks+1 }) :
  wpAny (model prog w) A (getAttr (.ref x) name expr) Q E s:=by
 obtain ⟨od,J,hl⟩:=I.look
 exact W.get_value X J (W.plainGet_of hg).1 (W.findObj_own hh ha rfl (by rw [hl,hv])) hv' h
theorem znu {pl:Sem Bool} {Q:Value × List Value->Shared->Prop} (X:K.In s.heap) (I:ObjM s.heap x dx C mA) (hg:W.plainGet K C name=true)
  (hf:W.findIn K (.ref C) name=some (some (.ref f))) (ht:W.isFn K (.ref f)=true) (hv:mA name=none) (h:Q (.ref f,[.ref x]) s) :
  wpAny (model prog w) A (getMethod (.ref x) name pl) Q E s:=by
 obtain ⟨od,J,hl⟩:=I.look
 exact W.method_fn X J (W.plainGet_of hg).1 (W.plainGet_of hg).2 hf (beq_iff_eq.mp ht) (by show (W.lookIn name od).map (·.isSome)=some false; rw [hl,hv]; rfl) h
theorem zoA {ns:List Str} {Q:Unit->Shared->Prop} (X:K.In s.heap) (I:ObjM s.heap x dx C mA)
  (hs:W.findIn K (.ref C) "__setattr__"=some (some (.builtin "object.__setattr__"))) (hp:W.plainOver K C=true) (ht:W.takerIn K C name=some none) (hh:W.hasDictIn K C=true)
  (hw:PySem.Within mA ns) (hsz:ns.length<=sizeLine)
  (h:∀ h',ObjM h' x dx C (fun y=>if y=name then some v else mA y)->Heap.SameBut dx s.heap h'->Q () { s with heap:=h',toks:=s.toks+2 }) :
  wpAny (model prog w) A (setAttr (.ref x) name v) Q E s:=by
 obtain ⟨od,J,hl⟩:=I.look
 refine W.set_plain X J hs (W.osa_open (s:={ s with toks:=s.toks+1 }) (r:=none) X J hp ht fun b=>?_)
 obtain ⟨cd,hc,hd'⟩:=W.any_some hh
 have hx:s.heap.get? x=some ⟨.ref C,some dx,.plain,#[]⟩:=I.obj
 refine yA (yG (yA (yA (wpAny_loadPart hx (yA (W.Looks.here (s:={ s with toks:=s.toks+1 }) (W.looks_clsIn X hc) ?_))))))
 rw [hd']; refine yG (a:=some dx) (yA (yG (yA ?_)))
 refine wpAny_nsSet1 (s:={ s with toks:=s.toks+1 }) I.ns fun h' hn2 hs2=>?_
 obtain ⟨oD,esD,epD,hoD,hdD,hcD⟩:=hn2.count (PySem.Within.cons name v hw)
 refine yA (wpAny_lookBehind hoD (by rw [hdD]; exact pastItsLine_dict (yt hcD (by rw [yf]; omega))) ?_)
 exact yG (h _ ⟨(hs2.2 _ (Ne.symm I.ne)).trans I.obj,hn2,I.ne⟩ hs2)
theorem zm8 {R:Result->Shared->Prop} {vs:List Value} {kw:List (Str × Value)} (X:K.In s.heap) (hm:W.makesIn K C=true)
  (hi:W.findIn K (.ref C) "__init__"=some (some (.ref f))) (hf:W.typeIn K (.ref f)=some (.type "function"))
  (h:codeAny (model prog w) (A.under (.builtin "type.__call__" ⟨.ref C :: vs,kw⟩)) (.call (.ref f) ⟨.ref (s.heap.objs.size+1) :: vs,kw⟩) (W.InitBack (s.heap.objs.size+1) R)
   { s with heap:=(s.heap.push W.emptyDict).push (W.instObj C s.heap.objs.size) }) :
  codeAny (model prog w) A (.call (.ref C) ⟨vs,kw⟩) R s:=by
 obtain ⟨hh,g,d,t,os⟩:=s
 exact W.make_core (W.makes_of X hm) (W.looks_findIn X hi) (fun self=>W.bind_fn X self hf) (.inl rfl) h
end
def zdP (f:Str) (v:V):List (Str × V)->List (Str × V)
 | []=>[(f,v)]
 | (g,x) :: r=>if g=f then (g,v) :: r else (g,x) :: zdP f v r
theorem zff (f g:Str) (v:V):∀ fs:List (Str × V),(zdP f v fs).lookup g=if g=f then some v else fs.lookup g
 | []=>by
  show List.lookup g [(f,v)]=_
  by_cases h:g=f
  ·have hb:(g == f)=true:=beq_iff_eq.mpr h
   simp only [List.lookup,hb,yN h]
  ·have hb:(g == f)=false:=beq_eq_false_iff_ne.mpr h
   simp only [List.lookup,hb,yK h]
 | (k,x) :: r=>by
  have ih:=zff f g v r
  rw [show zdP f v ((k,x) :: r)=(if k=f then (k,v) :: r else (k,x) :: zdP f v r) from rfl]
  by_cases hk:k=f
  ·rw [yN hk]
   by_cases h:g=k
   ·have hb:(g == k)=true:=beq_iff_eq.mpr h
    simp only [List.lookup,hb,yN (h.trans hk)]
   ·have hb:(g == k)=false:=beq_eq_false_iff_ne.mpr h
    simp only [List.lookup,hb,yK (fun e:g=f=>h (e.trans hk.symm))]
  ·rw [yK hk]
   by_cases h:g=k
   ·have hb:(g == k)=true:=beq_iff_eq.mpr h
    simp only [List.lookup,hb,yK (fun e:g=f=>hk (h.symm.trans e))]
   ·have hb:(g == k)=false:=beq_eq_false_iff_ne.mpr h
    simp only [List.lookup,hb]; exact ih
theorem zfl (f:Str) (v:V):∀ fs:List (Str × V),f ∈ (zdP f v fs).map (·.1)/\∀ g,g ∈ fs.map (·.1)->g ∈ (zdP f v fs).map (·.1)
 | []=>⟨by simp [zdP],fun g h=>by simp at h⟩
 | (k,x) :: r=>by
  obtain ⟨i1,i2⟩:=zfl f v r
  rw [show zdP f v ((k,x) :: r)=(if k=f then (k,v) :: r else (k,x) :: zdP f v r) from rfl]
  by_cases hk:k=f
  ·rw [yN hk]
   subst hk
   exact ⟨by simp,fun g h=>by simpa using h⟩
  ·rw [yK hk]
   refine ⟨?_,fun g h=>?_⟩
   ·rw [yS]
    exact yP _ i1
   ·rw [yS] at h ⊢
    rcases yO.mp h with e | e
    ·exact yO.mpr (.inl e)
    ·exact yP _ (i2 g e)
theorem zfi (f:Str) (v:V):∀ fs:List (Str × V),(zdP f v fs).length<=fs.length+1
 | []=>by simp [zdP]
 | (k,x) :: r=>by
  have ih:=zfi f v r
  rw [show zdP f v ((k,x) :: r)=(if k=f then (k,v) :: r else (k,x) :: zdP f v r) from rfl]
  by_cases hk:k=f
  ·rw [yN hk,yf,yf]; omega
  ·rw [yK hk,yf,yf]; omega
theorem zgC.some_of {v:V} {o:Option Value} (r:zgC (some v) o):∃ u,o=some u/\zaV v u:=by
 cases o with
 | none=>exact (show False from r).elim
 | some u=>exact ⟨u,rfl,r⟩
theorem zgC.none_of {o:Option Value} (r:zgC none o):o=none:=by
 cases o with
 | none=>rfl
 | some u=>exact (show False from r).elim
theorem zhm {v:V} {u:Value} (r:zaV v u):W.handedIn u=true:=by
 cases v with
 | non=>cases (show u=Value.none from r); rfl
 | bl b=>cases (show u=Value.bool b from r); rfl
 | int i=>obtain ⟨t,e⟩:=(show ∃ t,u=Value.int i t from r); cases e; rfl
 | str x=>obtain ⟨t,e⟩:=(show ∃ t,u=Value.str x t from r); cases e; rfl
 | byt b=>obtain ⟨t,e⟩:=(show ∃ t,u=Value.bytes b t from r); cases e; rfl
 | flt b=>obtain ⟨t,e⟩:=(show ∃ t,u=Value.float b t from r); cases e; rfl
 | ref a=>cases (show u=Value.ref a from r); rfl
 | ty n=>cases (show u=Value.type n from r); rfl
section
variable {P:Program} {w:World} {H H':Hp} {h h':Heap} {a C dx:Addr} {fs fs':List (Str × V)}
theorem zgt (hok:HOk P w H h) (e:H a=some (.ins C dx fs)):∃ mA,ObjM h a dx C mA/\(∀ f,zgC (fs.lookup f) (mA f))/\PySem.Within mA (fs.map (·.1))/\fs.length<=1000/\H dx=some (.own a):=by
 obtain ⟨d,z,ne,ob,mA,n,r,q⟩:=(show zbG P w H h a (.ins C dx fs) from hok a _ e)
 exact ⟨mA,⟨ob,n,ne⟩,r,q,z,d⟩
end
structure Cls (K:W.Frag) (C:Addr):Prop where
 pg:W.plainGet K C Str.empty=true
 hd:W.hasDictIn K C=true
 po:W.plainOver K C=true
 sa:W.findIn K (.ref C) "__setattr__"=some (some (.builtin "object.__setattr__"))
theorem Cls.get {K:W.Frag} {C:Addr} (c:Cls K C) (f:Str):W.plainGet K C f=true:=c.pg
def zaG (K:W.Frag) (C:Addr) (f:Str):Prop:=W.findIn K (.ref C) f=some none
theorem zaG.taker {K:W.Frag} {C:Addr} {f:Str} (n:zaG K C f):W.takerIn K C f=some none:=by
 unfold W.takerIn
 rw [show W.findIn K (.ref C) f=some none from n]
 rfl
structure Meth (K:W.Frag) (C:Addr) (m:Str) (f:Addr):Prop where
 at_:W.findIn K (.ref C) m=some (some (.ref f))
 fn:W.isFn K (.ref f)=true
 kp:W.keepIn K (.ref f)=true
section
variable {X:Cx} {pins:List (Addr × Obj)} {σ:St} {H:Hp} {s:Shared} {a C dx:Addr} {fs:List (Str × V)} {f:Str} {v:V} {A:Around} {E:Value->Shared->Prop}
theorem zfS {b:Bool} {Q:Value->Shared->Prop} (I:Inv X pins σ H s) (e:H a=some (.ins C dx fs)) (c:Cls X.K C) (n:zaG X.K C f) (l:fs.lookup f=some v)
  (h:∀ u s',Inv X pins σ H s'->zaV v u->Q u s'):wpAny (model X.prog X.w) A (getAttr (.ref a) f b) Q E s:=by
 obtain ⟨mA,O,r,_,_,_⟩:=zgt I.hok e
 obtain ⟨u,hu,ru⟩:=zgC.some_of (v:=v) (o:=mA f) (by rw [<- l]; exact r f)
 exact zpU I.kIn O (c.get f) c.hd n hu (zhm ru) (h u _ (I.tok _) ru)
theorem zfR {m:Str} {g:Addr} {pl:Sem Bool} {Q:Value × List Value->Shared->Prop} (I:Inv X pins σ H s) (e:H a=some (.ins C dx fs)) (c:Cls X.K C) (k:Meth X.K C m g) (l:fs.lookup m=none)
  (h:Q (.ref g,[.ref a]) s):wpAny (model X.prog X.w) A (getMethod (.ref a) m pl) Q E s:=by
 obtain ⟨mA,O,r,_,_,_⟩:=zgt I.hok e
 have hn:mA m=none:=zgC.none_of (by rw [<- l]; exact r m)
 exact znu I.kIn O (c.get m) k.at_ k.fn hn h
theorem zjk {y:V} {u:Value} {Q:Unit->Shared->Prop} (I:Inv X pins σ H s) (e:H a=some (.ins C dx fs)) (c:Cls X.K C) (n:zaG X.K C f) (hl:fs.length<1000) (ry:zaV y u)
  (h:∀ s',Inv X pins σ (upd H a (.ins C dx (zdP f y fs))) s'->Q () s'):wpAny (model X.prog X.w) A (setAttr (.ref a) f u) Q E s:=by
 obtain ⟨mA,O,r,wi,_,ho⟩:=zgt I.hok e
 have hz:(fs.map (·.1)).length<=sizeLine:=by rw [yF,sizeLine_eq]; omega
 refine zoA I.kIn O c.sa c.po n.taker c.hd wi hz fun h' O' sb=>h _ ?_
 have hd:∃ o,h'.get? dx=some o:=let ⟨o,_,_,e',_⟩:=O'.ns; ⟨o,e'⟩
 refine I.write (x:=a) (e:=dx) (by rw [e]; exact True.intro) (.inr ho) (fun b q hb z=>(sb.2 b hb).trans z) hd ?_
 refine ⟨by rw [zr O.ne]; exact ho,?_,O.ne,O'.obj,_,O'.ns,fun g=>?_,fun g hg=>?_⟩
 ·have:=zfi f y fs; omega
 ·show zgC ((zdP f y fs).lookup g) (if g=f then some u else mA g)
  rw [zff]
  by_cases q:g=f
  ·rw [yN q,yN q]; exact ry
  ·rw [yK q,yK q]; exact r g
 ·by_cases q:g=f
  ·rw [q]; exact (zfl f y fs).1
  ·refine (zfl f y fs).2 g (wi g fun z=>hg ?_)
   show (if g=f then some u else mA g)=none
   rw [yK q]; exact z
theorem Inv.made (I:Inv X pins σ H s):Inv X pins σ (upd (upd H s.heap.objs.size (.own (s.heap.objs.size+1))) (s.heap.objs.size+1) (.ins C s.heap.objs.size []))
  { s with heap:=(s.heap.push W.emptyDict).push (W.instObj C s.heap.objs.size) }:=by
 have e1:(s.heap.push W.emptyDict).get? s.heap.objs.size=some W.emptyDict:=yI s.heap rfl
 have e2:((s.heap.push W.emptyDict).push (W.instObj C s.heap.objs.size)).get? (s.heap.objs.size+1)=some (W.instObj C s.heap.objs.size):=by
  have:=yI (s.heap.push W.emptyDict) (o:=W.instObj C s.heap.objs.size) rfl
  rwa [YW] at this
 have e3:(s.heap.push W.emptyDict).Ns s.heap.objs.size (fun _=>none):=⟨W.emptyDict,#[],_,e1,rfl,(fun e he=>yQ he (by simp)),fun _=>rfl⟩
 have I1:=I.laid (a:=s.heap.objs.size) (o:=.own (s.heap.objs.size+1)) (h':=s.heap.push W.emptyDict) (t':=s.toks) (fun b u q=>yC _ q) (yH _) ⟨_,e1⟩
 refine I1.laid (a:=s.heap.objs.size+1) (o:=.ins C s.heap.objs.size []) (t':=s.toks) (fun b u q=>yC _ q) (Nat.le_of_eq (YW _ _)) ?_
 have ne:s.heap.objs.size≠s.heap.objs.size+1:=yU (Nat.lt_succ_self _)
 refine ⟨by rw [zr ne,zo],yb _,ne,e2,fun _=>none,(Heap.Ns1.of_empty e3).at fun o q=>yC _ q,fun _=>True.intro,fun y hy=>yQ rfl hy⟩
theorem zlQ {prog:Program} {w:World} {env:Env} {e:Expr} {f:Str} {pos:Pos} {s:Shared} {Q:Value->Shared->Prop} (hb:attributeBase e f env (eval e env)=eval e env)
  (h:wpAny (model prog w) A (eval e env) (fun o s₁=>wpAny (model prog w) A (getAttr o f true) Q E s₁) E s):wpAny (model prog w) A (eval (.Attribute e f pos) env) Q E s :=
 Attribute_any_ h (by rw [arm_eval_Attribute,hb])
end
def zva (K:W.Frag) (ta:TE) (f:Str):TE:=fun σ H Q=>ta σ H fun x H1=>∃ a C dx fs v,x=.ref a/\H1 a=some (.ins C dx fs)/\Cls K C/\zaG K C f/\fs.lookup f=some v/\Q v H1
def zvf (K:W.Frag) (ta tv:TE) (f:Str):TS:=fun D σ H=>tv σ H fun y H1=>ta σ H1 fun x H2=>∃ a C dx fs,x=.ref a/\H2 a=some (.ins C dx fs)/\Cls K C/\zaG K C f/\fs.length<1000 /\
 D.nx σ (upd H2 a (.ins C dx (zdP f y fs)))
section
variable {X:Cx} {o e value:Expr} {f:Str} {pos pos' tpos:Pos} {ta tv:TE}
theorem zrl (he:PE X e ta) (hb:attributeBase e f X.env (eval e X.env)=eval e X.env):PE X (.Attribute e f pos) (zva X.K ta f):=by
 intro pins s σ H Q I h
 refine zlQ hb (thn (he pins s σ H _ I h) fun u s1 ⟨x,H1,I1,rx,a,C,dx,fs,v,ex,ea,c,n,l,q⟩=>?_)
 subst ex
 obtain rfl:u=Value.ref a:=rx
 exact zfS I1 ea c n l fun u' s2 I2 ru=>⟨v,H1,I2,ru,q⟩
theorem zdh (ha:PE X o ta) (hv:PE X value tv) (hs:swapsWith value (some (.Attribute o f pos')) pos.line X.env=pure false):PS X (.Assign [.Attribute o f pos'] value pos) (zvf X.K ta tv f):=by
 intro pins s σ H D I h
 refine plainObj_wpAny_Assign_Attribute (thn (hv pins s σ H _ I h) fun u s1 ⟨y,H1,I1,ry,q⟩=>thn (ha pins s1 σ H1 _ I1 q) fun ov s2 ⟨x,H2,I2,rx,a,C,dx,fs,ex,ea,c,n,l,q2⟩=>?_) hs
 subst ex
 obtain rfl:ov=Value.ref a:=rx
 exact zjk I2 ea c n l ry fun s3 I3=>⟨σ,_,I3,q2⟩
end
section
variable {X:Cx} {pins:List (Addr × Obj)} {σ:St} {H:Hp} {s:Shared} {A:Around} {E:Value->Shared->Prop} {Q:Value->Shared->Prop} {c:Value} {b:Bool}
end
structure Room (k:Nat) (A:Around):Prop where
 hd:A.handled=none
 dp:A.depth+3 * k+5<recursionLimit
 un:A.units+16 * k+200<cLine
theorem Room.mono {j k:Nat} {A:Around} (r:Room k A) (h:j<=k):Room j A:=⟨r.hd,by have:=r.dp; omega,by have:=r.un; omega⟩
theorem Room.deeper {k:Nat} {A:Around} (r:Room (k+1) A) (env:Env):Room k (A.deeper env) :=
 ⟨r.hd,by have:=r.dp; show A.depth+1+3 * k+5<_; omega,by have:=r.un; show A.units+3+16 * k+200<_; omega⟩
theorem Room.in1 {k:Nat} {A:Around} (r:Room (k+1) A):Room k A.in1 :=
 ⟨r.hd,by have:=r.dp; show A.depth+3 * k+5<_; omega,by have:=r.un; show A.units+1+16 * k+200<_; omega⟩
theorem zjJ {A:Around} {C:Addr} {us:List Value} {kw:List (Str × Value)}:(A.under (.builtin "type.__call__" ⟨.ref C :: us,kw⟩)).depth=A.depth+1:=by
 first | rfl | simp [Around.under,Code.weight,Code.isCreation,Code.isGuard,Code.isCaller,Code.frames,Code.isFrame,guardIds]
theorem zjI {A:Around} {C:Addr} {us:List Value} {kw:List (Str × Value)}:(A.under (.builtin "type.__call__" ⟨.ref C :: us,kw⟩)).units=A.units+1:=by
 first | rfl | simp [Around.under,Code.cUnits,Code.frames,Code.isFrame]
theorem Room.make {k:Nat} {A:Around} (r:Room (k+1) A) (C:Addr) (us:List Value) (kw:List (Str × Value)):Room k (A.under (.builtin "type.__call__" ⟨.ref C :: us,kw⟩)) :=
 ⟨r.hd,by have:=r.dp; rw [zjJ]; omega,by have:=r.un; rw [zjI]; omega⟩
theorem Room.depth {k:Nat} {A:Around} (r:Room k A):A.depth<recursionLimit:=by have:=r.dp; omega
theorem Room.units {k:Nat} {A:Around} (r:Room k A):A.units+64<cLine:=by have:=r.un; omega
def zs3:TA:=fun _ H Q=>Q [] H
def zqw (ta:TE) (tr:TA):TA:=fun σ H Q=>ta σ H fun x H1=>tr σ H1 fun xs H2=>Q (x :: xs) H2
section
variable {X:Cx} {e:Expr} {es:List Expr} {te:TE} {t:TA} {pos:Pos}
theorem zgZ:PA X [] zs3:=fun _ _ _ _ H Q I h=>Calls.spliced_nil ⟨[],H,I,.nil,h⟩
theorem zdU (ha:PE X e te) (hr:PA X es t) (hs:starEach (e :: es) X.env=(false,eval e X.env) :: starEach es X.env:=by rfl):PA X (e :: es) (zqw te t):=by
 intro pos pins s σ H Q I h; rw [hs]
 show wpAny _ _ (spliced ((false,eval e X.env) :: backTo pos (starEach es X.env))) _ _ s
 refine Calls.spliced_cons (thn (ha pins s σ H _ I h) fun u s1 ⟨x,H1,I1,r1,q1⟩=>?_)
 exact thn (hr pos pins s1 σ H1 _ I1 q1) fun us s2 ⟨xs,H2,I2,r2,q2⟩=>⟨x :: xs,H2,I2,.cons r1 r2,q2⟩
def zu2 (t:TA):TE:=fun σ H Q=>t σ H fun xs H1=>xs.length<=sizeLine/\∀ p,H1 p=none->Q (.ref p) (upd H1 p (.tup xs))
def zu6 (t:TA):TE:=fun σ H Q=>t σ H fun xs H1=>xs.length<=sizeLine/\∀ p,H1 p=none->Q (.ref p) (upd H1 p (.lst xs))
theorem zra {x1} (h:PA X es t):PE X (.Tuple es x1 pos) (zu2 t):=by
 intro pins s σ H Q I hq
 refine wpAny_Tuple_spliced (thn (h pos pins s σ H _ I hq) fun us s1 ⟨xs,H1,I1,r,z,q⟩=>⟨by rw [<- r.length]; exact z,?_⟩)
 have hf:H1 s1.heap.objs.size=none:=I1.hok.fresh (yH _)
 refine ⟨.ref s1.heap.objs.size,upd H1 s1.heap.objs.size (.tup xs),I1.laid (t':=s1.toks) (fun b u e=>yC _ e) (yH _) ?_,rfl,q _ hf⟩
 exact ⟨z,us,r,⟨_,yI _ rfl,rfl,_,rfl⟩⟩
theorem znW (h:PA X es t):PE X (.List es pos) (zu6 t):=by
 intro pins s σ H Q I hq
 refine wpAny_List_spliced (thn (h pos pins s σ H _ I hq) fun us s1 ⟨xs,H1,I1,r,z,q⟩=>⟨by rw [<- r.length]; exact z,?_⟩)
 have hf:H1 s1.heap.objs.size=none:=I1.hok.fresh (yH _)
 refine ⟨.ref s1.heap.objs.size,upd H1 s1.heap.objs.size (.lst xs),I1.laid (t':=s1.toks) (fun b u e=>yC _ e) (yH _) ?_,rfl,q _ hf⟩
 exact ⟨z,us,0,r,yI _ rfl⟩
end
abbrev Sp:=List V->Hp->VK->XK->Prop
abbrev CXT:=List Env->Hp->Shared->XK->Value->Shared->Prop
structure Env0 (P:Program) (w:World) (K:W.Frag) (mg:Str->Option Value) (base:Heap) (A:Around) (outer:List Env) (s:Shared) (H:Hp):Prop where
 frames:A.frames=some outer
 mod:Mod K mg base
 bs:∀ b o,base.get? b=some o->s.heap.get? b=some o/\H b=none
 bsz:base.objs.size<=s.heap.objs.size
 funs:s.heap.FunFrames base outer
 frf:∀ b ∈ frs outer,H b=none
 hok:HOk P w H s.heap
 bare:AllBare s.gens
 tab:zj1 base H
def CE (outer:List Env) (P:Program) (w:World) (H:Hp) (s:Shared) (Q:VK) (u:Value) (s':Shared):Prop :=
 ∃ v H',s'.os=s.os/\AllBare s'.gens/\Un (frs outer) [] H H' s.heap s'.heap/\HOk P w H' s'.heap/\zaV v u/\Q v H'
def CR (CX:CXT) (outer:List Env) (P:Program) (w:World) (H:Hp) (s:Shared) (Q:VK) (E:XK) (r:Result) (s':Shared):Prop :=
 match r with
 | .ok (.ret u)=>CE outer P w H s Q u s'
 | .ok _=>False
 | .error e=>CX outer H s E e s'
structure FnOk (P:Program) (w:World) (K:W.Frag) (mg:Str->Option Value) (base:Heap) (CX:CXT) (k:Nat) (f:Addr) (fd:FuncData) (ps:List Str) (sp:Sp):Prop where
 len:∀ vs H Q E,sp vs H Q E->vs.length=ps.length
 run:∀ (A:Around) (outer:List Env) (s:Shared) (H:Hp) (args:Args) (us:List Value) (vs:List V) (Q:VK) (E:XK),Room k A->Env0 P w K mg base A outer s H->BindsTo s fd args (ps.zip us)->zaK vs us->sp vs H Q E ->
  codeAny (model P w) A (.call (.ref f) args) (CR CX outer P w H s Q E) s
theorem Env0.make {P:Program} {w:World} {K:W.Frag} {mg:Str->Option Value} {base:Heap} {A:Around} {outer:List Env} {s:Shared} {H:Hp} (e:Env0 P w K mg base A outer s H) (C:Addr) (us:List Value) (kw:List (Str × Value)) :
  Env0 P w K mg base (A.under (.builtin "type.__call__" ⟨.ref C :: us,kw⟩)) outer s H:=⟨by first | exact e.frames | (simpa [Around.under,Code.envs,Code.isFrame,pushEnvs] using e.frames),e.mod,e.bs,e.bsz,e.funs,e.frf,e.hok,e.bare,e.tab⟩
theorem Env0.in1 {P:Program} {w:World} {K:W.Frag} {mg:Str->Option Value} {base:Heap} {A:Around} {outer:List Env} {s:Shared} {H:Hp} (e:Env0 P w K mg base A outer s H) :
  Env0 P w K mg base A.in1 outer s H:=⟨e.frames,e.mod,e.bs,e.bsz,e.funs,e.frf,e.hok,e.bare,e.tab⟩
section
variable {X:Cx} {pins:List (Addr × Obj)} {σ:St} {H:Hp} {s s':Shared}
theorem Inv.env0 (I:Inv X pins σ H s):Env0 X.prog X.w X.K X.mg X.base X.A X.stack s H :=
 ⟨I.ok.frames,I.ok.mod,I.bs,yt I.ok.bsz I.sz,I.stack,I.stkFree,I.hok,I.bare,I.ok.tab.un I.base.tbls⟩
theorem Inv.after {Q:VK} {u:Value} (I:Inv X pins σ H s) (h:CE X.stack X.prog X.w H s Q u s'):EP X pins σ Q u s':=by
 obtain ⟨v,H',os,bare,un,hok,r,q⟩:=h; obtain ⟨hh,g,d,t,os'⟩:=s'
 obtain rfl:os'=s.os:=os
 exact ⟨v,H',I.call (h':=hh) (g':=g) (d':=d) (t':=t) (ch:=[]) un hok bare (fun b z=>yQ z (by simp)),r,q⟩
end
def ztb (sp:Sp) (dvs:List V) (E:XK) (t:TA):TE:=fun σ H Q=>t σ H fun vs H1=>sp (vs ++ dvs) H1 Q E
def zqs (C:Addr) (m:Str) (sp:Sp) (dvs:List V) (E:XK) (ta:TE) (t:TA):TE:=fun σ H Q=>ta σ H fun x H1=>∃ a dx fs,x=.ref a/\H1 a=some (.ins C dx fs)/\fs.lookup m=none /\
 t σ H1 fun vs H2=>sp (x :: (vs ++ dvs)) H2 Q E
def zs5 (C:Addr) (sp:Sp) (dvs:List V) (E:XK) (t:TA):TE:=fun σ H Q=>t σ H fun vs H1=>∀ x dx,H1 x=none->H1 dx=none->dx≠x ->
 sp (.ref x :: (vs ++ dvs)) (upd (upd H1 dx (.own x)) x (.ins C dx [])) (fun v H2=>v=.non/\Q (.ref x) H2) E
def zcb (K:W.Frag) (fd:FuncData) (ps:List Str) (ds:List Value):Prop :=
 ∀ (s:Shared) (us:List Value),K.In s.heap->(us ++ ds).length=ps.length->BindsTo s fd ⟨us,[]⟩ (ps.zip (us ++ ds))
theorem zcb.all {K:W.Frag} {fd:FuncData} {ps:List Str} (h:∀ us:List Value,us.length=ps.length->bindArgs fd ⟨us,[]⟩=pure (ps.zip us)):zcb K fd ps []:=fun s us _ hl=>by
 rw [ym] at hl ⊢; exact .of_eq (h us hl)
def zfw (CX:CXT) (X:Cx) (E:XK):Prop:=∀ (pins:List (Addr × Obj)) (σ:St) (H:Hp) (s:Shared) (e:Value) (s':Shared),Inv X pins σ H s->CX X.stack H s E e s'->X.xe e s'
section
variable {X:Cx} {CX:CXT} {k:Nat} {f C:Addr} {fd:FuncData} {ps:List Str} {sp:Sp} {dvs:List V} {ds:List Value} {E:XK} {x m:Str} {p pos apos:Pos} {e o:Expr} {es:List Expr} {ta:TE} {t:TA}
theorem zku {pins:List (Addr × Obj)} {σ:St} {H:Hp} {s:Shared} {Q:VK} {us:List Value} {vs:List V} (F:FnOk X.prog X.w X.K X.mg X.base CX k f fd ps sp) (hr:Room k X.A) (hb:zcb X.K fd ps ds) (hd:zaK dvs ds) (hx:zfw CX X E)
  (I:Inv X pins σ H s) (r:zaK vs us) (h:sp (vs ++ dvs) H Q E):wpAny (model X.prog X.w) X.A (call (.ref f) us) (EP X pins σ Q) X.xe s:=by
 have r2:zaK (vs ++ dvs) (us ++ ds):=r.append hd
 have hl:(us ++ ds).length=ps.length:=by rw [<- r2.length]; exact F.len _ _ _ _ h
 refine wpAny_call (codeAny_mono (F.run X.A X.stack s H ⟨us,[]⟩ (us ++ ds) (vs ++ dvs) Q E hr I.env0 (hb s us I.kIn hl) r2 h) fun r s' hq=>?_)
 cases r with
 | error e=>exact hx pins σ H s e s' I hq
 | ok fl =>
  cases fl with
  | ret u=>exact I.after hq
  | next=>exact False.elim hq
  | brk=>exact False.elim hq
  | cont=>exact False.elim hq
theorem zgh (F:FnOk X.prog X.w X.K X.mg X.base CX k f fd ps sp) (hr:Room k X.A) (hg:Gl X x) (hm:X.mg x=some (.ref f)) (hk:W.keepIn X.K (.ref f)=true) (hb:zcb X.K fd ps ds) (hd:zaK dvs ds) (hx:zfw CX X E)
  (ha:PA X (e :: es) t) (hdb:(x == ("__debug__":Str))=false:=by decide) (he:starEach (e :: es) X.env=(false,eval e X.env) :: starEach es X.env:=by rfl) (hpl:(backTo pos (starEach es X.env)).any (·.1)=false:=by rfl) :
  PE X (.Call (.Name x p) (e :: es) [] pos) (ztb sp dvs E t):=by
 intro pins s σ H Q I h; refine Yt (zih I hg hm ?_ hdb)
 refine W.callWith_K (h₀:=X.base) I.ok.mod.kin hk (thn (ha pos pins s σ H _ I h) fun us s1 ⟨vs,H1,I1,r,q⟩=>⟨I1.kIn,?_⟩) he hpl
 exact zku F hr hb hd hx I1 r q
theorem zkT {pl:Sem Bool} (he:PE X o ta) (c:Cls X.K C) (hm:Meth X.K C m f) (F:FnOk X.prog X.w X.K X.mg X.base CX k f fd ps sp) (hr:Room k X.A) (hb:zcb X.K fd ps ds) (hd:zaK dvs ds) (hx:zfw CX X E) (ha:PA X (e :: es) t)
  (hst:starEach (e :: es) X.env=(false,eval e X.env) :: starEach es X.env:=by rfl) (hpl:(backTo pos (starEach es X.env)).any (·.1)=false:=by rfl)
  (ht:eval (.Call (.Attribute o m apos) (e :: es) [] pos) X.env=(do
   let ov <- eval o X.env
   standAt apos.atName
   let (f,first) <- holding [ov] (getMethod ov m pl)
   callWith pos f first (backTo pos (starEach (e :: es) X.env)) (backToKw pos (keywordEach [] X.env))):=by rfl) :
  PE X (.Call (.Attribute o m apos) (e :: es) [] pos) (zqs C m sp dvs E ta t):=by
 intro pins s σ H Q I h
 refine W.methodCall_KW (pl:=pl) (thn (he pins s σ H _ I h) fun u s1 ⟨x,H1,I1,rx,a,dx,fs,ex,ea,l,q⟩=>?_) ht
 subst ex
 obtain rfl:u=Value.ref a:=rx
 refine zfR I1 ea c hm l ?_
 refine W.callWith_K (first:=[.ref a]) (h₀:=X.base) I.ok.mod.kin hm.kp (thn (ha pos pins s1 σ H1 _ I1 q) fun us s2 ⟨vs,H2,I2,r,q2⟩=>⟨I2.kIn,?_⟩) hst hpl
 exact zku (us:=.ref a :: us) (vs:=.ref a :: vs) F hr hb hd hx I2 (.cons rfl r) q2
theorem zmK {pl:Sem Bool} (he:PE X o ta) (c:Cls X.K C) (hm:Meth X.K C m f) (F:FnOk X.prog X.w X.K X.mg X.base CX k f fd ps sp) (hr:Room k X.A) (hb:zcb X.K fd ps ds) (hd:zaK dvs ds) (hx:zfw CX X E)
  (ht:eval (.Call (.Attribute o m apos) [] [] pos) X.env=(do
   let ov <- eval o X.env
   standAt apos.atName
   let (f,first) <- holding [ov] (getMethod ov m pl)
   callWith pos f first (backTo pos (starEach [] X.env)) (backToKw pos (keywordEach [] X.env))):=by rfl) :
  PE X (.Call (.Attribute o m apos) [] [] pos) (zqs C m sp dvs E ta zs3):=by
 intro pins s σ H Q I h
 refine W.methodCall_KW (pl:=pl) (thn (he pins s σ H _ I h) fun u s1 ⟨x,H1,I1,rx,a,dx,fs,ex,ea,l,q⟩=>?_) ht
 subst ex
 obtain rfl:u=Value.ref a:=rx
 refine zfR I1 ea c hm l ?_
 exact W.callWith_K0 (first:=[.ref a]) I1.kIn hm.kp (zku (us:=[.ref a]) (vs:=[.ref a]) F hr hb hd hx I1 (.cons rfl .nil) q)
structure Mk (K:W.Frag) (C f:Addr):Prop where
 makes:W.makesIn K C=true
 init:W.findIn K (.ref C) "__init__"=some (some (.ref f))
 fn:W.isFn K (.ref f)=true
 kp:W.keepIn K (.ref C)=true
theorem zmn {pins:List (Addr × Obj)} {σ:St} {H:Hp} {s:Shared} {Q:VK} {us:List Value} {vs:List V} (M:Mk X.K C f) (F:FnOk X.prog X.w X.K X.mg X.base CX k f fd ps sp) (hr:Room (k+1) X.A) (hb:zcb X.K fd ps ds) (hd:zaK dvs ds)
  (hx:zfw CX X E) (I:Inv X pins σ H s) (r:zaK vs us)
  (h:∀ x dx,H x=none->H dx=none->dx≠x->sp (.ref x :: (vs ++ dvs)) (upd (upd H dx (.own x)) x (.ins C dx [])) (fun v H2=>v=.non/\Q (.ref x) H2) E) :
  wpAny (model X.prog X.w) X.A (call (.ref C) us) (EP X pins σ Q) X.xe s:=by
 have hq:=h (s.heap.objs.size+1) s.heap.objs.size (I.hok.fresh (Nat.le_succ _)) (I.hok.fresh (yH _)) (yU (Nat.lt_succ_self _)); have I2:=Inv.made (C:=C) I
 have r2:zaK (V.ref (s.heap.objs.size+1) :: (vs ++ dvs)) (Value.ref (s.heap.objs.size+1) :: (us ++ ds)):=.cons rfl (r.append hd)
 have hl:(Value.ref (s.heap.objs.size+1) :: us ++ ds).length=ps.length:=by
  have e:=r2.length; rw [F.len _ _ _ _ hq] at e; exact e.symm
 refine wpAny_call (zm8 (f:=f) I.kIn M.makes M.init (beq_iff_eq.mp M.fn) (codeAny_mono (F.run _ X.stack _ _ ⟨Value.ref (s.heap.objs.size+1) :: us,[]⟩ (Value.ref (s.heap.objs.size+1) :: (us ++ ds)) _ _ E (hr.make C us [])
  (I2.env0.make C us []) (hb _ (Value.ref (s.heap.objs.size+1) :: us) I2.kIn hl) r2 hq) fun r s' hq'=>?_))
 cases r with
 | error e=>exact hx pins σ _ _ e s' I2 hq'
 | ok fl =>
  cases fl with
  | ret u =>
   obtain ⟨v,H',I3,rv,ev,q3⟩:=I2.after hq'; subst ev; exact ⟨rv,⟨V.ref (s.heap.objs.size+1),H',I3,rfl,q3⟩⟩
  | next=>exact False.elim hq'
  | brk=>exact False.elim hq'
  | cont=>exact False.elim hq'
theorem zkU (M:Mk X.K C f) (F:FnOk X.prog X.w X.K X.mg X.base CX k f fd ps sp) (hr:Room (k+1) X.A) (hg:Gl X x) (hm:X.mg x=some (.ref C)) (hb:zcb X.K fd ps ds) (hd:zaK dvs ds) (hx:zfw CX X E)
  (ha:PA X (e :: es) t) (hdb:(x == ("__debug__":Str))=false:=by decide) (he:starEach (e :: es) X.env=(false,eval e X.env) :: starEach es X.env:=by rfl) (hpl:(backTo pos (starEach es X.env)).any (·.1)=false:=by rfl) :
  PE X (.Call (.Name x p) (e :: es) [] pos) (zs5 C sp dvs E t):=by
 intro pins s σ H Q I h; refine Yt (zih I hg hm ?_ hdb)
 refine W.callWith_K (h₀:=X.base) I.ok.mod.kin M.kp (thn (ha pos pins s σ H _ I h) fun us s1 ⟨vs,H1,I1,r,q⟩=>⟨I1.kIn,?_⟩) he hpl
 exact zmn M F hr hb hd hx I1 r q
end
def PK (X:Cx) (kws:List Keyword) (t:TA):Prop :=
 ∀ (pos:Pos) (pins:List (Addr × Obj)) (s:Shared) (σ:St) (H:Hp) (Q:List V->Hp->Prop),Inv X pins σ H s->t σ H Q->wpAny (model X.prog X.w) X.A (evalAll ((backToKw pos (keywordEach kws X.env)).map (·.2))) (AP X pins σ Q) X.xe s
section
variable {X:Cx} {CX:CXT} {k:Nat} {f C:Addr} {fd:FuncData} {ps ks:List Str} {sp:Sp} {E:XK} {x m:Str} {p pos apos kpos:Pos} {e o:Expr} {es:List Expr} {kws:List Keyword} {te ta:TE} {t tk:TA} {nm:Option Str}
theorem znV:PK X [] zs3:=fun _ _ _ _ H Q I h=>wpAny_evalAll_nil ⟨[],H,I,.nil,h⟩
theorem zkM (ha:PE X e te) (hr:PK X kws t):PK X (⟨nm,e,kpos⟩ :: kws) (zqw te t):=by
 intro pos pins s σ H Q I h
 show wpAny _ _ (evalAll ((do let v <- eval e X.env; standAt pos; pure v) :: (backToKw pos (keywordEach kws X.env)).map (·.2))) _ _ s
 refine wpAny_evalAll_cons (yA (thn (ha pins s σ H _ I h) fun u s1 ⟨x,H1,I1,r1,q1⟩=>yA (wpAny_standAt (yG ?_))))
 exact thn (hr pos pins s1 σ H1 _ I1 q1) fun us s2 ⟨xs,H2,I2,r2,q2⟩=>⟨x :: xs,H2,I2,.cons r1 r2,q2⟩
variable {g:List Value->List Value->List Value} {gV:List V->List V->List V}
end
structure FnScope (N P:List Str) (sc:Scope):Prop where
 kind:sc.kind=.function
 co:sc.isCoroutine=false
 gen:sc.isGenerator=false
 nd:N.Nodup
 pre:N.take P.length=P
 par:∀ x ∈ P,sc.names.lookup x=some .local\/sc.names.lookup x=some .cell
 nofree:∀ y ∈ sc.names,y.2≠.free
theorem zhH {kindOf:Str->Option NameKind} {x:Str}:∀ {binds:List (Str × Value)} {m:Str->Option Value},(∀ v,(x,v) ∉ binds)->bindL kindOf binds m x=m x
 | [],_,_=>rfl
 | (n,v) :: r,m,h=>by
  unfold bindL
  rw [zhH fun w hw=>h w (yP _ hw)]
  split
  ·have:x≠n:=by rintro rfl; exact h v yT
   simp [this]
  ·rfl
theorem zhJ {kindOf:Str->Option NameKind} {x:Str}:∀ {binds:List (Str × Value)} {m:Str->Option Value},(∀ v,(x,v) ∉ binds)->bindC kindOf binds m x=m x
 | [],_,_=>rfl
 | (n,v) :: r,m,h=>by
  unfold bindC
  rw [zhJ fun w hw=>h w (yP _ hw)]
  split
  ·rfl
  ·have:x≠n:=by rintro rfl; exact h v yT
   simp [this]
theorem zhI {kindOf:Str->Option NameKind} {x:Str} {v:Value}:∀ {P:List Str} {vs:List Value} {i:Nat} {m:Str->Option Value},P.Nodup->P[i]?=some x->vs[i]?=some v->kindOf x=some .local ->
  bindL kindOf (P.zip vs) m x=some v
 | [],_,_,_,_,h,_,_=>by simp at h
 | _ :: _,[],_,_,_,_,h,_=>by simp at h
 | p :: P,w :: vs,0,m,nd,h1,h2,hk=>by
  simp at h1 h2; subst h1; subst h2
  show bindL kindOf ((p,w) :: P.zip vs) m p=_
  unfold bindL
  rw [zhH fun v hv=>(Yg.mp nd).1 (List.of_mem_zip hv).1,yN hk]
  simp
 | p :: P,w :: vs,i+1,m,nd,h1,h2,hk=>by
  show bindL kindOf ((p,w) :: P.zip vs) m x=_
  unfold bindL
  exact zhI (i:=i) (Yg.mp nd).2 (by simpa using h1) (by simpa using h2) hk
theorem zhK {kindOf:Str->Option NameKind} {x:Str} {v:Value}:∀ {P:List Str} {vs:List Value} {i:Nat} {m:Str->Option Value},P.Nodup->P[i]?=some x->vs[i]?=some v->kindOf x≠some .local ->
  bindC kindOf (P.zip vs) m x=some v
 | [],_,_,_,_,h,_,_=>by simp at h
 | _ :: _,[],_,_,_,_,h,_=>by simp at h
 | p :: P,w :: vs,0,m,nd,h1,h2,hk=>by
  simp at h1 h2; subst h1; subst h2
  show bindC kindOf ((p,w) :: P.zip vs) m p=_
  unfold bindC
  rw [zhJ fun v hv=>(Yg.mp nd).1 (List.of_mem_zip hv).1,yK hk]
  simp
 | p :: P,w :: vs,i+1,m,nd,h1,h2,hk=>by
  show bindC kindOf ((p,w) :: P.zip vs) m x=_
  unfold bindC
  exact zhK (i:=i) (Yg.mp nd).2 (by simpa using h1) (by simpa using h2) hk
def start (N:List Str) (vs:List V):St:=vs.map some ++ List.replicate (N.length-vs.length) none
def zfU (CX:CXT) (P:Program) (w:World) (K:W.Frag) (mg:Str->Option Value) (base:Heap) (N:List Str) (qual:Str) (scope:Scope) (f:Addr) (cd:Value) (A:Around) (outer:List Env) (s:Shared) (H:Hp) (E:XK):Cx where
 prog:=P
 w:=w
 K:=K
 mg:=mg
 base:=base
 A:=A.deeper (envOfC qual scope s.heap.objs.size f cd)
 N:=N
 s₀:=s
 H₀:=H
 env:=envOfC qual scope s.heap.objs.size f cd
 outer:=outer
 stack:=envOfC qual scope s.heap.objs.size f cd :: outer
 ex:=[]
 calm:=true
 fn:=fun _=>true
 pn:=[]
 xe:=fun e s'=>wpAny (model P w) (A.deeper (envOfC qual scope s.heap.objs.size f cd)) (leaving (envOfC qual scope s.heap.objs.size f cd) e) (fun _ s''=>CX outer H s E e s'') (fun e' s''=>CX outer H s E e' s'') s'
theorem zi7 {sc:Scope} {n:Nat} {x:Str} (h:sc.names.lookup x=some .cell):∃ c,(cellsFrom n sc.names []).lookup x=some c:=by
 have q:=W.cellsFrom_some sc.names n [] (.inl h); exact Option.isSome_iff_exists.mp q
theorem zhk {CX:CXT} {P:Program} {w:World} {K:W.Frag} {mg:Str->Option Value} {base:Heap} {N ps:List Str} {qual:Str} {scope:Scope} {f:Addr} {cd:Value} {A:Around} {outer:List Env} {s s1:Shared} {H:Hp} {E:XK} {us:List Value} {vs:List V}
  (S:FnScope N ps scope) (hd:A.handled=none) (e0:Env0 P w K mg base A outer s H) (hl:vs.length=ps.length) (r:zaK vs us)
  (x:InCallC s s.heap.objs.size (bindL (envOfC qual scope s.heap.objs.size f cd).kindOf (ps.zip us) fun _=>none) (cellsFrom (s.heap.objs.size+1) scope.names []) (bindC (envOfC qual scope s.heap.objs.size f cd).kindOf (ps.zip us) fun _=>none) s1) :
  Inv (zfU CX P w K mg base N qual scope f cd A outer s H E) [] (start N vs) H s1:=by
 have hpl:ps.length<=N.length:=by have:=yo List.length S.pre; rw [ye] at this; omega
 obtain ⟨h1,tk,rfl,hk⟩:=x.done
 have noA:∀ b:Addr,b ∉ (zfU CX P w K mg base N qual scope f cd A outer s H E).ex:=fun b z=>yQ (show b ∈ ([]:List Addr) from z) (by simp)
 refine ⟨⟨e0.mod,S.kind,rfl,rfl,yH _,fun y z c h1 h2=>?_,fun y hy=>?_,fun y c _ h=>?_,fun _=>hd,Around.frames_deeper e0.frames,.inr ⟨rfl,rfl⟩,fun b z=>yQ z (noA b),e0.bs,e0.bsz,fun b _ _=>noA b,fun b z=>yQ z (noA b),e0.funs,e0.frf,e0.tab⟩,
  rfl,e0.bare,Un.kept hk,⟨_,x.toInCall.ns,fun i y v h1 h2 h3=>?_⟩,fun y c h=>⟨_,x.cell y c h⟩,e0.hok.fresh (yH _),fun y c h=>?_,fun p hp=>yQ (show p ∈ ([]:List (Addr × Obj)) from hp) (by simp),e0.hok.kept hk,?_⟩
 ·exact name_of_addr x.apart (YZ h1) (YZ h2)
 ·have hy:scope.names.lookup y=some .cell\/scope.names.lookup y=some .free:=hy
  rcases hy with hy | hy
  ·exact zi7 hy
  ·exact yQ rfl (S.nofree _ (YZ hy))
 ·exact Nat.le_of_lt (x.above y c (YZ h))
 ·have hi:i<vs.length:=by
   unfold start at h2
   by_cases hi:i<vs.length
   ·exact hi
   ·rw [ya (by simpa using hi)] at h2
    rw [Yq] at h2
    split at h2 <;> cases h2
  have ha:vs[i]?=some v:=by
   unfold start at h2
   rw [yV (by simpa using hi),yE] at h2
   cases e:vs[i]? with
   | none=>rw [e] at h2; cases h2
   | some a=>rw [e] at h2; cases h2; rfl
  obtain ⟨u,hu,rv⟩:=r.get ha
  have hp:ps[i]?=some y:=by
   rw [<- S.pre,List.getElem?_take_of_lt (by omega)]; exact h1
  have ndP:ps.Nodup:=by rw [<- S.pre]; exact S.nd.sublist (List.take_sublist _ _)
  refine ⟨u,rv,?_⟩
  rcases S.par y (yW hp) with k | k
  ·exact .inl ⟨k,zhI ndP hp hu k⟩
  ·obtain ⟨c,e⟩:=zi7 (n:=s.heap.objs.size+1) k
   refine .inr ⟨.inl k,c,e,?_⟩; have q:=x.cell y c e
   rw [zhK ndP hp hu (by show scope.names.lookup y≠_; rw [k]; decide)] at q
   exact q
 ·exact e0.hok.fresh (Nat.le_of_lt (x.above y c (YZ h)))
 ·unfold start
  show _=N.length
  rw [yY,yF,Yy]; omega
theorem zrZ {CX:CXT} {P:Program} {w:World} {K:W.Frag} {mg:Str->Option Value} {base:Heap} {k:Nat} {f:Addr} {name qual:Str} {params:Arguments} {body:List Stmt} {scope:Scope} {dV kV doc pm cdv ct oc:Value} {an od:Option Addr}
  {osl:Array (Option Value)} {N ps:List Str} {sp:Sp} (lk:K.lookup f=some ⟨oc,od,.func (W.fnOf name qual params body scope dV kV doc pm an cdv ct),osl⟩) (hcd:W.codeIn K cdv qual=true) (S:FnScope N ps scope)
  (len:∀ vs H Q E,sp vs H Q E->vs.length=ps.length)
  (hbody:∀ (A:Around) (outer:List Env) (s:Shared) (H:Hp) (vs:List V) (Q:VK) (E:XK),Room k (A.deeper (envOfC qual scope s.heap.objs.size f cdv))->sp vs H Q E ->
   ∃ t,PSs (zfU CX P w K mg base N qual scope f cdv A outer s H E) body t/\t { nx:=fun _ H'=>Q .non H',rt:=Q } (start N vs) H) :
  FnOk P w K mg base CX (k+1) f (W.fnOf name qual params body scope dV kV doc pm an cdv ct) ps sp:=by
 refine ⟨len,fun A outer s H args us vs Q E hr e0 hb r hsp=>?_⟩
 have hl:=len _ _ _ _ hsp
 have KX:K.In s.heap:=e0.mod.kin.keeps fun b o e=>(e0.bs b o e).1
 have lim:s.heap.NoLimit:=e0.mod.nolimit.keeps fun b o e=>(e0.bs b o e).1
 have hkind:∀ y ∈ ps.zip us,scope.names.lookup y.1=some .local\/(scope.names.lookup y.1=some .cell/\((cellsFrom (s.heap.objs.size+1) scope.names []).lookup y.1).isSome=true):=fun ⟨n,v⟩ hy=>by
  rcases S.par n (List.of_mem_zip hy).1 with q | q
  ·exact .inl q
  ·exact .inr ⟨q,W.cellsFrom_some _ _ _ (.inl q)⟩
 refine codeAny_call_function hr.depth (KX _ _ lk) rfl S.co S.gen rfl (W.codeRec_of KX hcd) (hb _ _ _ _ ?_)
 refine wpAny_newFunctionEnv_cells S.kind hkind fun env he s1 x=>?_
 subst he; refine ⟨lim.keeps x.toInCall.keep,codeAny_func ?_⟩; obtain ⟨t,ht,hq⟩:=hbody A outer s H vs Q E (hr.deeper _) hsp
 have I:Inv (zfU CX P w K mg base N qual scope f cdv A outer s H E) [] (start N vs) H s1:=zhk S hr.hd e0 hl r x
 refine YU (ht [] s1 (start N vs) H _ I hq) (fun fl s' hs=>?_) fun e s' hs=>hs
 have fin:∀ {σ':St} {H':Hp} {v:V} {u:Value},Inv (zfU CX P w K mg base N qual scope f cdv A outer s H E) [] σ' H' s'->zaV v u->Q v H'->CE outer P w H s Q u s' :=
  fun {σ' H' v u} J rv q=>⟨v,H',J.os,J.bare,J.base,J.hok,rv,q⟩
 cases fl with
 | ret u =>
  obtain ⟨v,σ',H',J,rv,q⟩:=hs; exact fin J rv q
 | next =>
  obtain ⟨σ',H',J,q⟩:=hs; exact fin (v:=V.non) (u:=Value.none) J rfl q
 | brk =>
  obtain ⟨_,_,_,q⟩:=hs; exact False.elim q
 | cont =>
  obtain ⟨_,_,_,q⟩:=hs; exact False.elim q
section
variable {X:Cx} {x:Str} {p pos:Pos} {e:Expr} {es:List Expr} {t:TA} {id T:String} {r:List V->Hp->VK->Prop}
def tCB (r:List V->Hp->VK->Prop) (t:TA):TE:=fun σ H Q=>t σ H fun vs H1=>r vs H1 Q
theorem pe_callB (hc:zcW X (.builtin id) r) (hg:Gl X x) (hm:X.mg x=none) (hv:bootBuiltins x=some (.builtin id)) (ha:PA X (e :: es) t) (hn:x≠"__name__":=by decide) (hdb:(x == ("__debug__":Str))=false:=by decide)
  (he:starEach (e :: es) X.env=(false,eval e X.env) :: starEach es X.env:=by rfl) (hpl:(backTo pos (starEach es X.env)).any (·.1)=false:=by rfl):PE X (.Call (.Name x p) (e :: es) [] pos) (tCB r t):=by
 intro pins s σ H Q I h; refine Yt (zdB I hg hm hv ?_ hn hdb)
 exact PyProof.Rows.callWith_builtin1 (thn (ha pos pins s σ H _ I h) fun us s1 ⟨vs,H1,I1,r1,q1⟩=>hc pins s1 σ H1 vs us Q I1 r1 q1) he hpl
theorem zgX (hc:zcW X (.type T) r) (hg:Gl X x) (hm:X.mg x=none) (hv:bootBuiltins x=some (.type T)) (ha:PA X (e :: es) t) (hn:x≠"__name__":=by decide) (hdb:(x == ("__debug__":Str))=false:=by decide)
  (he:starEach (e :: es) X.env=(false,eval e X.env) :: starEach es X.env:=by rfl) (hpl:(backTo pos (starEach es X.env)).any (·.1)=false:=by rfl):PE X (.Call (.Name x p) (e :: es) [] pos) (tCB r t):=by
 intro pins s σ H Q I h; refine Yt (zdB I hg hm hv ?_ hn hdb)
 exact YK (thn (ha pos pins s σ H _ I h) fun us s1 ⟨vs,H1,I1,r1,q1⟩=>hc pins s1 σ H1 vs us Q I1 r1 q1) he hpl
end
end L2
namespace HT
open PySem PyProof.Rows
section
open PySem.SeqAt
open PySem.AutoSeq1 (wpAny_loadPart')
open PySem.MeetsSeq PySem.MeetsSeq2 PySem.MeetsSeq3
end
section
variable {prog:Program} {w:World} {A:Around} {E:Value->Shared->Prop} {s:Shared}
theorem cat_tup {t b:Addr} {vs ws:List Value} {Q:Value->Shared->Prop} (ht:IsTup s.heap t vs.toArray) (hb:IsTup s.heap b ws.toArray) (hv:vs≠[])
  (h1:ws=[]->Q (.ref t) s) (h2:ws≠[]->Q (.ref s.heap.objs.size) { s with heap:=s.heap.push { cls:=.type "tuple",data:=.seq (vs ++ ws).toArray } })
  (hsz:vs.length+ws.length<=sizeLine):wpAny (model prog w) A (binaryOp .Add (.ref t) (.ref b)) Q E s:=by
 obtain ⟨⟨cls,dd,data,sl⟩,ho,hc,n,hd⟩:=id ht
 obtain ⟨⟨cls2,dd2,data2,sl2⟩,ho2,hc2,n2,hd2⟩:=id hb
 simp only at hc hd hc2 hd2
 subst hc hd hc2 hd2
 have e:vs.toArray ++ ws.toArray=(vs ++ ws).toArray:=by simp
 by_cases hw:ws=[]
 ·exact concat_meets ⟨_,ho,rfl⟩ ⟨_,ho2,rfl⟩ noFill_tuple_add seq_tuple_add PySem.F.slot_tuple_add PySem.F.entry_tuple_add (PySem.F.args_tuple_add_2 _ _)
   (tuple_addW1 t b vs.toArray ws.toArray n n2 dd dd2 sl sl2 (by simpa using hv) (by simp [hw])) ⟨ho,ho2,h1 hw⟩
 ·refine concat_meets ⟨_,ho,rfl⟩ ⟨_,ho2,rfl⟩ noFill_tuple_add seq_tuple_add PySem.F.slot_tuple_add PySem.F.entry_tuple_add (PySem.F.args_tuple_add_2 _ _)
   (tuple_addW2 t b vs.toArray ws.toArray n n2 dd dd2 sl sl2 (by simpa using hv) (by simpa using hw) (by rw [yL,yL]; exact hsz)) ⟨ho,ho2,?_⟩
  rw [e]; exact h2 hw
def sIx (n d:Nat):Option Int->Nat
 | none=>d
 | some v=>if v<0 then (v+(n:Int)).toNat else min v.toNat n
theorem sIx_none (n d:Nat):sIx n d none=d:=rfl
theorem sIx_nat (n d k:Nat):sIx n d (some (k:Int))=min k n:=by
 show (if (k:Int)<0 then ((k:Int)+(n:Int)).toNat else min (k:Int).toNat n)=min k n
 rw [yK (by omega),YN]
theorem zqK (n d:Nat) (hd:d<=n) (o:Option Int):sIx n d o<=n:=by
 cases o with
 | none=>exact hd
 | some v =>
  show (if v<0 then (v+(n:Int)).toNat else min v.toNat n)<=n
  by_cases hv:v<0
  ·rw [yN hv]; omega
  ·rw [yK hv]; exact Nat.min_le_right _ _
theorem zlK (v:Int) (n d:Nat):(if v<0 then max (v+(n:Int)) 0 else min v (n:Int))=((sIx n d (some v):Nat):Int):=by
 show (if v<0 then max (v+(n:Int)) 0 else min v (n:Int))=(((if v<0 then (v+(n:Int)).toNat else min v.toNat n):Nat):Int)
 by_cases hv:v<0
 ·simp only [yN hv]; omega
 ·simp only [yK hv]; omega
theorem zj0 (lo hi:Option Int) (n:Nat):Builtin.Slice.sliceAdjust lo hi 1 (n:Int)=(((sIx n 0 lo:Nat):Int),((sIx n n hi:Nat):Int)):=by
 have h1:¬ ((1:Int)<0):=by omega
 unfold Builtin.Slice.sliceAdjust; simp only [h1,if_false]; refine Prod.ext ?_ ?_
 ·cases lo with
  | none=>rfl
  | some v=>exact zlK v n 0
 ·cases hi with
  | none=>rfl
  | some v=>exact zlK v n n
theorem zjv (i j:Nat):Builtin.Slice.slicePlaces (i:Int) (j:Int) 1=j-i:=by
 unfold Builtin.Slice.slicePlaces
 have h1:(1:Int) > 0:=by omega
 simp only [h1,if_true,Int.ediv_one]
 split <;> omega
theorem zfJ {v:Value} {o:Option Int} {Q:Option Int->Shared->Prop} (p:IsPart v o) (h:Q o s):wpAny (model prog w) A (Builtin.Slice.slicePartIndex v) Q E s:=by
 cases p with
 | none=>exact slicePart_none h
 | int i t=>exact slicePart_int h
theorem zcX {sl:Addr} {vl vu:Value} {lo hi:Option Int} {n:Nat} {Q:Int × Int × Nat->Shared->Prop} (hs:s.heap.IsSliceOf sl vl vu .none) (pl:IsPart vl lo) (pu:IsPart vu hi)
  (h:Q (((sIx n 0 lo:Nat):Int),1,sIx n n hi-sIx n 0 lo) s):wpAny (model prog w) A (Builtin.Slice.sliceApplied (.ref sl) (pure (n:Int))) Q E s:=by
 obtain ⟨os,hos,hcs,hds⟩:=id hs; unfold Builtin.Slice.sliceApplied Builtin.Slice.sliceFields; refine yA (yA (YB hos hds (x:=vl) rfl (yA (YB hos hds (x:=vu) rfl (yA (YB hos hds (x:=.none) rfl (yG ?_))))))); refine yA (slicePart_none ?_)
 show wpAny _ _ (if ((1:Int) == 0)=true then _ else _) _ _ s
 rw [yK (by decide)]
 refine yA (zfJ pl (yA (zfJ pu (yA (yG ?_)))))
 show wpAny _ _ (match Builtin.Slice.sliceAdjust lo hi 1 (n:Int) with | (lo,hi)=>pure (lo,(1:Int),Builtin.Slice.slicePlaces lo hi 1)) _ _ s
 rw [zj0 lo hi n]
 show wpAny _ _ (pure (((sIx n 0 lo:Nat):Int),(1:Int),Builtin.Slice.slicePlaces ((sIx n 0 lo:Nat):Int) ((sIx n n hi:Nat):Int) 1)) _ _ s
 rw [zjv]; exact yG h
theorem zmC (xs:Array Value) (i k:Nat):((List.range k).filterMap fun (m:Nat)=>xs[((i:Int)+(m:Int) * 1).toNat]?).toArray=((xs.toList.drop i).take k).toArray:=by
 have e:(fun (m:Nat)=>xs[((i:Int)+(m:Int) * 1).toNat]?)=fun m=>xs[i+m]?:=by
  funext m
  have:((i:Int)+(m:Int) * 1).toNat=i+m:=by omega
  rw [this]
 rw [e]
 have:=pick_run xs i k
 rw [List.filterMap_map] at this
 have e2:((fun x=>xs[x]?) ∘ fun x=>i+x)=fun m=>xs[i+m]?:=rfl
 rw [e2] at this; rw [this]
theorem getItem_tuple_cut {t sl:Addr} {items:Array Value} {vl vu:Value} {lo hi:Option Int} {Q:Value->Shared->Prop} (ht:IsTup s.heap t items) (hs:s.heap.IsSliceOf sl vl vu .none) (pl:IsPart vl lo) (pu:IsPart vu hi)
  (hw:¬ (sIx items.size 0 lo=0/\sIx items.size items.size hi=items.size))
  (h:Q (.ref s.heap.objs.size) { s with heap:=s.heap.push { cls:=.type "tuple",data:=.seq ((items.toList.drop (sIx items.size 0 lo)).take (sIx items.size items.size hi-sIx items.size 0 lo)).toArray } })
  (hsz:items.size<=sizeLine):wpAny (model prog w) A (getItem (.ref t) (.ref sl)) Q E s:=by
 have htake:sizeOk (.seq ((items.toList.drop (sIx items.size 0 lo)).take (sIx items.size items.size hi-sIx items.size 0 lo)).toArray):=by
  show ((items.toList.drop (sIx items.size 0 lo)).take (sIx items.size items.size hi-sIx items.size 0 lo)).toArray.size<=sizeLine
  rw [yL,ye,Yp,yz]; omega
 have hj:sIx items.size items.size hi<=items.size:=zqK _ _ (yH _) hi
 obtain ⟨os,hos,hcs,hds⟩:=id hs
 have hTs:s.TypeIs (.ref sl) "slice":=⟨os,hos,hcs⟩
 unfold getItem
 try with_reducible refine YH ?_
 first | refine yA (yG ?_) | skip
 refine yA (wpAny_sequenceKey ht.typeIs (by decide) ?_)
 refine yA (wpAny_callSpecial?_slot (name:=Str.ofString "__getitem__") ht.typeIs Yk
  (yu Yk ht.typeIs entry_tuple_getitem ?_ (args_tuple_getitem _ _)))
 show wpAny _ _ (Builtin.Tuple.tupleItemsOf (.ref t) >>= _) _ _ s
 refine yA (tupleItemsOf_ ht ?_); refine yA (wpAny_typeOf hTs ?_)
 rw [yN (by decide)]
 refine yA (zcX hs pl pu ?_)
 have hno:¬ ((((sIx items.size 0 lo:Nat):Int) == 0 && (1:Int) == 1 && (sIx items.size items.size hi-sIx items.size 0 lo) == items.size)=true):=by
  intro q; rw [Ye,Ye] at q
  have q1:((sIx items.size 0 lo:Nat):Int)=0:=eq_of_beq q.1.1
  have q2:sIx items.size items.size hi-sIx items.size 0 lo=items.size:=eq_of_beq q.2
  exact hw ⟨by omega,by omega⟩
 show wpAny _ _ (if (((sIx items.size 0 lo:Nat):Int) == 0 && (1:Int) == 1 && (sIx items.size items.size hi-sIx items.size 0 lo) == items.size)=true then _ else _) _ _ s
 rw [yK hno,zmC]
 first
  | exact yA (m:=Builtin.Tuple.tupleExact _) (yh (yG ⟨_,rfl,yG h⟩) htake)
  | exact yA (m:=Builtin.Tuple.tupleExact _) (yh (yA (yG (yG ⟨_,rfl,yG h⟩))) htake)
  | exact yA (yA (m:=Builtin.Tuple.tupleExact _) (yh (yG (yG ⟨_,rfl,yG h⟩)) htake))
  | exact yA (yA (m:=Builtin.Tuple.tupleExact _) (yh (yG ⟨_,rfl,yG h⟩) htake))
end
end HT
namespace L2
open PySem PySem.Spec PyProof.Rows
abbrev TO:=St->Hp->(Option Int->Hp->Prop)->Prop
def PO (X:Cx) (e:Option Expr) (t:TO):Prop :=
 ∀ (pins:List (Addr × Obj)) (s:Shared) (σ:St) (H:Hp) (Q:Option Int->Hp->Prop),Inv X pins σ H s->t σ H Q ->
  wpAny (model X.prog X.w) X.A (evalPart e X.env) (fun u s'=>∃ o H',Inv X pins σ H' s'/\IsPart u o/\Q o H') X.xe s
def zov:TO:=fun _ H Q=>Q none H
def zs1 (t:TE):TO:=fun σ H Q=>t σ H fun x H1=>∃ i,x=.int i/\Q (some i) H1
section
variable {X:Cx} {e:Expr} {te:TE} {lo hi:Option Expr} {tl th:TO} {pos p2:Pos}
theorem zo0:PO X none zov:=by
 intro pins s σ H Q I h; rw [evalPart_none]; exact yG ⟨none,H,I,.none,h⟩
theorem zoZ (h:PE X e te):PO X (some e) (zs1 te):=by
 intro pins s σ H Q I hw; rw [evalPart_some]
 refine thn (h pins s σ H _ I hw) fun u s1 ⟨x,H1,I1,r1,q1⟩=>?_
 obtain ⟨i,rfl,q⟩:=q1; obtain ⟨t,rfl⟩:=r1; exact ⟨some i,H1,I1,.int i t,q⟩
def SlR (X:Cx) (r:V->Option Int->Option Int->Hp->VK->Prop):Prop :=
 ∀ (pins:List (Addr × Obj)) (s:Shared) (σ:St) (H:Hp) (x:V) (v vl vu:Value) (lo hi:Option Int) (sl:Addr) (Q:VK),Inv X pins σ H s->zaV x v->s.heap.IsSliceOf sl vl vu .none->IsPart vl lo->IsPart vu hi->r x lo hi H Q ->
  ∃ T id,typeLookup (.type T) "__getitem__"=pure (some (.builtin id))/\s.TypeIs v T/\wpAny (model X.prog X.w) X.A (getItem v (.ref sl)) (EP X pins σ Q) X.xe s
theorem SlR.or {r r':V->Option Int->Option Int->Hp->VK->Prop} (h:SlR X r) (h':SlR X r'):SlR X (fun x lo hi H Q=>r x lo hi H Q\/r' x lo hi H Q):=by
 intro pins s σ H x v vl vu lo hi sl Q I rx hs pl pu q
 rcases q with q | q
 ·exact h pins s σ H x v vl vu lo hi sl Q I rx hs pl pu q
 ·exact h' pins s σ H x v vl vu lo hi sl Q I rx hs pl pu q
def tSl (r:V->Option Int->Option Int->Hp->VK->Prop) (te:TE) (tl th:TO):TE:=fun σ H Q=>te σ H fun x H1=>tl σ H1 fun l H2=>th σ H2 fun u H3=>r x l u H3 Q
theorem zmI {r:V->Option Int->Option Int->Hp->VK->Prop} (hr:SlR X r) (he:PE X e te) (hl:PO X lo tl) (hu:PO X hi th):PE X (.Subscript e (.Slice lo hi none p2) pos) (tSl r te tl th):=by
 intro pins s σ H Q I h
 refine Subscript_ (thn (he pins s σ H _ I h) fun v s1 ⟨x,H1,I1,r1,q1⟩=>?_)
 refine wpAny_Slice (thn (hl pins s1 σ H1 _ I1 q1) fun vl s2 ⟨l,H2,I2,pl,q2⟩=>thn (hu pins s2 σ H2 _ I2 q2) fun vu s3 ⟨u,H3,I3,pu,q3⟩=>?_)
 rw [evalPart_none]; refine yG ?_
 have I4:Inv X pins σ H3 { s3 with heap:=s3.heap.push { cls:=.type "slice",data:=.fields #[vl,vu,.none] } }:=I3.kept (t':=s3.toks) fun b ob q=>yC _ q
 obtain ⟨T,id,hT,ht,hg⟩:=hr pins { s3 with heap:=s3.heap.push { cls:=.type "slice",data:=.fields #[vl,vu,.none] } } σ H3 x v vl vu l u s3.heap.objs.size Q I4 r1 (Heap.IsSliceOf.new ..) pl pu q3
 show wpAny (model X.prog X.w) X.A (subscriptTail e (.Slice lo hi none p2) v (.ref s3.heap.objs.size)) (EP X pins σ Q) X.xe { s3 with heap:=s3.heap.push { cls:=.type "slice",data:=.fields #[vl,vu,.none] } }
 exact tail_any (ops:=[.ref s3.heap.objs.size,v]) ht hT hg (by with_unfolding_all rfl)
def zlG (xs:List V) (lo hi:Option Int):List V:=(xs.drop (HT.sIx xs.length 0 lo)).take (HT.sIx xs.length xs.length hi-HT.sIx xs.length 0 lo)
theorem zfs (xs:List V) (lo hi:Option Int):(zlG xs lo hi).length<=xs.length:=by
 unfold zlG; rw [ye,Yp]; omega
def zvg (K:W.Frag):V->Option Int->Option Int->Hp->VK->Prop:=fun x lo hi H Q=>∃ a xs,x=.ref a/\SqT K H a xs /\
 ¬ (HT.sIx xs.length 0 lo=0/\HT.sIx xs.length xs.length hi=xs.length)/\∀ p,H p=none->Q (.ref p) (upd H p (.tup (zlG xs lo hi)))
theorem zqG:SlR X (zvg X.K):=by
 intro pins s σ H x v vl vu lo hi sl Q I rx hs pl pu h; obtain ⟨a,xs,rfl,hx,hw,q⟩:=h; cases rx; obtain ⟨its,r,ht,hz⟩:=I.tuple hx
 have hlen:its.toArray.size=xs.length:=by rw [yL]; exact r.length.symm
 refine ⟨"tuple",_,PyProof.Rows.slot_tuple_getitem.lookup,ht.typeIs,?_⟩
 refine HT.getItem_tuple_cut ht hs pl pu (by rw [hlen]; exact hw) ?_ (by rw [hlen]; exact hz)
 rw [hlen]
 refine ⟨.ref s.heap.objs.size,_,I.laid (t':=s.toks) (o:=.tup (zlG xs lo hi)) (fun b ob q=>yC _ q) (yH _) ?_,rfl,q _ (I.hok.fresh (yH _))⟩
 exact ⟨yt (zfs xs lo hi) hz,_,(r.drop (HT.sIx xs.length 0 lo)).take (HT.sIx xs.length xs.length hi-HT.sIx xs.length 0 lo),IsTup.new _ _⟩
def ztt (K:W.Frag):R2:=fun x y H Q=>∃ a b xs ys,x=.ref a/\y=.ref b/\SqT K H a xs/\SqT K H b ys/\xs≠[]/\xs.length+ys.length<=sizeLine /\
 (ys=[]->Q (.ref a) H)/\(ys≠[]->∀ p,H p=none->Q (.ref p) (upd H p (.tup (xs ++ ys))))
theorem zaK.nil_iff {xs:List V} {us:List Value} (r:zaK xs us):us=[]↔xs=[]:=by
 cases r with
 | nil=>simp
 | cons _ _=>simp
theorem zpq:OpR X (binaryOp .Add) (ztt X.K):=by
 intro pins s σ H x y v u Q I rx ry h; obtain ⟨a,b,xs,ys,rfl,rfl,ha,hb,hx,hz,q1,q2⟩:=h; cases rx; cases ry; obtain ⟨its,r1,p1,_⟩:=I.tuple ha; obtain ⟨its2,r2,p2,_⟩:=I.tuple hb
 refine HT.cat_tup p1 p2 (fun z=>hx (r1.nil_iff.mp z)) (fun z=>⟨.ref a,H,I,rfl,q1 (r2.nil_iff.mp z)⟩) (fun z=>?_) (by rw [<- r1.length,<- r2.length]; exact hz)
 refine ⟨.ref s.heap.objs.size,_,I.laid (t':=s.toks) (o:=.tup (xs ++ ys)) (fun b ob q=>yC _ q) (yH _) ?_,rfl,q2 (fun w=>z (r2.nil_iff.mpr w)) _ (I.hok.fresh (yH _))⟩
 exact ⟨by rw [yY]; exact hz,_,r1.append r2,IsTup.new _ _⟩
end
def ixN (n:Nat) (i:Int):Option Nat:=if 0<=i then (if i<n then some i.toNat else none) else if -(n:Int)<=i then some (i+n).toNat else none
def atI {α:Type} (xs:List α) (i:Int):Option α:=(ixN xs.length i).bind fun j=>xs[j]?
theorem zlk {n:Nat} {i:Int} {j:Nat} (h:ixN n i=some j):seqIndex? i n=some j/\j<n/\-(n:Int)<=i/\i<n:=by
 unfold ixN at h
 by_cases h0:0<=i
 ·rw [yN h0] at h
  by_cases h1:i<n
  ·rw [yN h1] at h
   have e:i.toNat=j:=Option.some.inj h
   exact ⟨by rw [seqIndex_of h0 h1,e],by omega,by omega,h1⟩
  ·rw [yK h1] at h; cases h
 ·rw [yK h0] at h
  by_cases h1:-(n:Int)<=i
  ·rw [yN h1] at h
   have e:(i+n).toNat=j:=Option.some.inj h
   exact ⟨by rw [seqIndex_neg (by omega) h1,e],by omega,h1,by omega⟩
  ·rw [yK h1] at h; cases h
theorem ziq {α:Type} {xs:List α} {i:Int} {v:α} (h:atI xs i=some v):∃ j,seqIndex? i xs.length=some j/\xs[j]?=some v/\j<xs.length/\-(xs.length:Int)<=i/\i<xs.length:=by
 unfold atI at h
 cases e:ixN xs.length i with
 | none=>rw [e] at h; cases h
 | some j =>
  rw [e] at h; obtain ⟨h1,h2,h3,h4⟩:=zlk e; exact ⟨j,h1,h,h2,h3,h4⟩
theorem zbu {α:Type} {xs:List α} {j:Nat} {v:α} (h:xs[j]?=some v):atI xs (j:Int)=some v:=by
 have hj:j<xs.length:=(yD.mp h).1
 have e:ixN xs.length (j:Int)=some j:=by
  unfold ixN
  rw [yN (by omega),yN (by omega)]; simp
 unfold atI; rw [e]; exact h
theorem znI {α:Type} (xs:List α) (v:α):atI (xs ++ [v]) (-1)=some v:=by
 have hl:(xs ++ [v]).length=xs.length+1:=by simp
 have e:ixN (xs ++ [v]).length (-1)=some xs.length:=by
  unfold ixN
  rw [hl,yK (by decide),yN (by omega)]
  congr 1
  omega
 unfold atI; rw [e]
 show (xs ++ [v])[xs.length]?=some v
 simp
def zir (b:Expr):Prop:=∀ o i,subscripted b false o i=operate [o,i] (getItem o i)
def IxR (X:Cx) (r:R2):Prop :=
 ∀ (value slice:Expr) (pins:List (Addr × Obj)) (s:Shared) (σ:St) (H:Hp) (x y:V) (v u:Value) (Q:VK),Inv X pins σ H s->zaV x v->zaV y u->r x y H Q ->
  subscripted slice false v u=operate [v,u] (getItem v u)->wpAny (model X.prog X.w) X.A (subscriptTail value slice v u) (EP X pins σ Q) X.xe s
def MtR (X:Cx) (id:String) (r:V->List V->Hp->VK->Prop):Prop :=
 ∀ (pins:List (Addr × Obj)) (s:Shared) (σ:St) (H:Hp) (x:V) (xs:List V) (v:Value) (us:List Value) (Q:VK),Inv X pins σ H s->zaV x v->zaK xs us->r x xs H Q ->
  wpAny (model X.prog X.w) X.A (call (.builtin id) (v :: us)) (EP X pins σ Q) X.xe s
section
variable {X:Cx} {a b:Expr} {ta tb:TE} {pos:Pos}
theorem IxR.or {r r':R2} (h:IxR X r) (h':IxR X r'):IxR X (fun x y H Q=>r x y H Q\/r' x y H Q):=by
 intro value slice pins s σ H x y v u Q I rx ry q hs
 rcases q with q | q
 ·exact h value slice pins s σ H x y v u Q I rx ry q hs
 ·exact h' value slice pins s σ H x y v u Q I rx ry q hs
theorem zri {r:R2} (hr:IxR X r) (ha:PE X a ta) (hb:PE X b tb) (hs:zir b):PE X (.Subscript a b pos) (tOp r ta tb):=by
 intro pins s σ H Q I h
 exact Subscript_ (zut ha hb I h fun v u s2 x y H2 I2 rx ry q=>hr a b pins s2 σ H2 x y v u Q I2 rx ry q (hs _ _))
def zuL (K:W.Frag):R2:=fun x y H Q=>∃ p xs i v,x=.ref p/\y=.int i/\SqL K H p xs/\atI xs i=some v/\Q v H
def zuJ (K:W.Frag):R2:=fun x y H Q=>∃ p xs i v,x=.ref p/\y=.int i/\SqT K H p xs/\atI xs i=some v/\Q v H
def zuK:R2:=fun x y H Q=>∃ z i c,x=.str z/\y=.int i/\z.length<=sizeLine/\atI z.cps.toList i=some c/\Q (.str ⟨#[c]⟩) H
theorem zpN:IxR X (zuL X.K):=by
 intro value slice pins s σ H x y v u Q I rx ry h hs; obtain ⟨p,xs,i,z,rfl,rfl,hq,he,q⟩:=h; cases rx; obtain ⟨t,rfl⟩:=ry; obtain ⟨its,r,pl,hz⟩:=I.list hq; obtain ⟨j,h1,h2,h3,h4,h5⟩:=ziq he; obtain ⟨w,ew,rw'⟩:=r.get h2; have hl:=r.length; have hn:=zfP
 have fin:EP X pins σ Q w s:=⟨z,H,I,rw',q⟩
 by_cases h0:0<=i
 ·have hj:i.toNat=j:=by
   rw [seqIndex_of h0 h5] at h1; exact Option.some.inj h1
  exact item_listR pl.isList h0 (by omega) (by rw [hj]; simpa using ew) fin hs
 ·have hj:(i+(its.toArray.size:Int)).toNat=j:=by
   rw [seqIndex_neg (by omega) h4] at h1
   rw [yL,<- hl]; exact Option.some.inj h1
  exact subscriptTail_builtinR (x:=w) pl.isList.typeIs slot_list_getitem.lookup
   (wpAny_getItem_list_neg (Q:=fun r s'=>r=w/\EP X pins σ Q r s') pl.isList (by omega) (by rw [yL] <;> omega) (by omega) (by rw [hj]; simpa using ew) ⟨rfl,fin⟩) hs
theorem zrR:IxR X (zuJ X.K):=by
 intro value slice pins s σ H x y v u Q I rx ry h hs; obtain ⟨p,xs,i,z,rfl,rfl,hq,he,q⟩:=h; cases rx; obtain ⟨t,rfl⟩:=ry; obtain ⟨its,r,pl,hz⟩:=I.tuple hq; obtain ⟨j,h1,h2,h3,h4,h5⟩:=ziq he; obtain ⟨w,ew,rw'⟩:=r.get h2; have hl:=r.length; have hn:=zfP
 have fin:EP X pins σ Q w s:=⟨z,H,I,rw',q⟩
 exact subscriptTail_builtinR (x:=w) pl.typeIs slot_tuple_getitem.lookup
  (getItem_tuple (j:=j) (Q:=fun r s'=>r=w/\EP X pins σ Q r s') pl (by omega) (by omega) (by rw [yL,<- hl]; exact h1) (by simpa using ew) ⟨rfl,fin⟩) hs
theorem zrS:IxR X zuK:=by
 intro value slice pins s σ H x y v u Q I rx ry h hs; obtain ⟨z,i,c,rfl,rfl,hz,he,q⟩:=h; obtain ⟨t,rfl⟩:=rx; obtain ⟨t',rfl⟩:=ry; obtain ⟨j,h1,h2,h3,h4,h5⟩:=ziq he
 have hl:z.cps.toList.length=z.length:=by simp [Str.length]
 rw [hl] at h1 h4 h5; have hn:=zfP
 exact tail_any (typeIs_str s z t) slot_str_getitem.lookup (getItem_str (c:=c) (by
  have e1:decide (i< -(2 ^ 63:Int))=false:=yk (by omega)
  have e2:decide (i >= 2 ^ 63)=false:=yk (by omega)
  rw [e1,e2,Bool.or_false]) (by rw [h1]; simpa using h2) ⟨.str ⟨#[c]⟩,H,I.tok _,⟨_,rfl⟩,q⟩) hs
def rIx (K:W.Frag):R2:=fun x y H Q=>zuL K x y H Q\/zuJ K x y H Q\/zuK x y H Q
theorem zrT:IxR X (rIx X.K):=zpN.or (zrR.or zrS)
theorem zjH (its:List Value) (n j:Nat) (u:Value):Obj.mapSeq (·.setIfInBounds j u) { cls:=.type "list",data:=.seq its.toArray n }={ cls:=.type "list",data:=.seq (its.set j u).toArray n }:=by
 simp [Obj.mapSeq]
theorem Inv.lst {pins:List (Addr × Obj)} {σ:St} {H:Hp} {s:Shared} {p:Addr} {xs:List V} (I:Inv X pins σ H s) (h:H p=some (.lst xs)) :
  ∃ (its:List Value) (n:Nat),zaK xs its/\s.heap.get? p=some { cls:=.type "list",data:=.seq its.toArray n }/\xs.length<=sizeLine:=by
 obtain ⟨z,its,n,r,e⟩:=I.hok p _ h; exact ⟨its,n,r,e,z⟩
theorem Inv.lstUpd {pins:List (Addr × Obj)} {σ:St} {H:Hp} {s:Shared} {p:Addr} {xs ys:List V} {its its':List Value} {n n':Nat} {f:Obj->Obj} (I:Inv X pins σ H s) (h:H p=some (.lst xs))
  (ho:s.heap.get? p=some { cls:=.type "list",data:=.seq its.toArray n }) (hf:f { cls:=.type "list",data:=.seq its.toArray n }={ cls:=.type "list",data:=.seq its'.toArray n' }) (r:zaK ys its') (hz:ys.length<=sizeLine) (t:Nat) :
  Inv X pins σ (upd H p (.lst ys)) { s with heap:=s.heap.update p f,toks:=t }:=by
 have e:(s.heap.update p f).get? p=some { cls:=.type "list",data:=.seq its'.toArray n' }:=by
  rw [YT f ho (by rw [hf] <;> rfl),hf]
 refine I.write (x:=p) (e:=p) (by rw [h]; trivial) (.inl rfl) (fun b u hb q=>(Yc _ _ (Ne.symm hb)).trans q) ⟨_,e⟩ ?_
 exact ⟨hz,its',n',r,e⟩
def ztk:V->V->V->Hp->(Hp->Prop)->Prop:=fun o i v H Q=>∃ p xs k j,o=.ref p/\i=.int k/\H p=some (.lst xs)/\ixN xs.length k=some j/\Q (upd H p (.lst (xs.set j v)))
theorem zmk:zuX X ztk:=by
 intro pins s σ H o i v ov iv u Q I ro ri rv h; obtain ⟨p,xs,k,j,rfl,rfl,hp,hj,q⟩:=h; cases ro; obtain ⟨t,rfl⟩:=ri; obtain ⟨its,n,r,ho,hz⟩:=I.lst hp; obtain ⟨h1,h2,h3,h4⟩:=zlk hj; have hl:=r.length; have hn:=zfP
 have I':Inv X pins σ (upd H p (.lst (xs.set j v))) { s with heap:=s.heap.update p (Obj.mapSeq (·.setIfInBounds j u)) } :=
  I.lstUpd hp ho (zjH its n j u) (r.set rv j) (by rw [List.length_set]; exact hz) s.toks
 by_cases h0:0<=k
 ·have hk:k.toNat=j:=by
   rw [seqIndex_of h0 h4] at h1; exact Option.some.inj h1
  exact W.ki_setAt ho h0 (by omega) (by rw [yL,<- hl]; exact h4) (by rw [hk]; exact ⟨_,I',q⟩)
 ·have hk:(k+(its.toArray.size:Int)).toNat=j:=by
   rw [seqIndex_neg (by omega) h3] at h1
   rw [yL,<- hl]; exact Option.some.inj h1
  exact W.ki_setBack ho (by omega) (by rw [yL,<- hl]; exact h3) (by omega) (by rw [hk]; exact ⟨_,I',q⟩)
theorem zgL (lo hi:Option Int) (n:Nat):(sliceBounds lo hi none n).1=((HT.sIx n 0 lo:Nat):Int)/\(sliceBounds lo hi none n).2.1=((HT.sIx n n hi:Nat):Int)/\(sliceBounds lo hi none n).2.2=1:=by
 refine ⟨?_,?_,rfl⟩
 ·cases lo with
  | none=>simp [sliceBounds,HT.sIx]
  | some i =>
   simp only [sliceBounds,HT.sIx,Option.getD_none,show (1:Int) > 0 by decide,if_true]
   by_cases h:i<0
   ·simp only [h,if_true] <;> omega
   ·simp only [h,if_false] <;> omega
 ·cases hi with
  | none=>simp [sliceBounds,HT.sIx]
  | some i =>
   simp only [sliceBounds,HT.sIx,Option.getD_none,show (1:Int) > 0 by decide,if_true]
   by_cases h:i<0
   ·simp only [h,if_true] <;> omega
   ·simp only [h,if_false] <;> omega
theorem zf1 (its:List Value) (lo hi:Option Int):slicePick its.toArray lo hi none=((its.drop (HT.sIx its.length 0 lo)).take (HT.sIx its.length its.length hi-HT.sIx its.length 0 lo)).toArray:=by
 obtain ⟨h1,h2,h3⟩:=zgL lo hi its.toArray.size; unfold slicePick; rw [h1,h2,h3]
 simp only [sliceRange_one,pick_run,yL] <;> rfl
def zvi (K:W.Frag):V->Option Int->Option Int->Hp->VK->Prop:=fun x lo hi H Q=>∃ a xs,x=.ref a/\SqL K H a xs/\∀ p,H p=none->Q (.ref p) (upd H p (.lst (zlG xs lo hi)))
theorem zoz:SlR X (zvi X.K):=by
 intro pins s σ H x v vl vu lo hi sl Q I rx hs pl pu h; obtain ⟨a,xs,rfl,hx,q⟩:=h; cases rx; obtain ⟨its,r,ht,hz⟩:=I.list hx; have hlen:=r.length; refine ⟨"list",_,slot_list_getitem.lookup,ht.isList.typeIs,?_⟩
 refine wpAny_getItem_list_slice ht.isList hs pl pu .none (by simp) ?_ (by rw [yL] <;> omega)
 rw [zf1,<- hlen]
 refine ⟨.ref s.heap.objs.size,_,I.laid (t':=s.toks) (o:=.lst (zlG xs lo hi)) (fun b ob q=>yC _ q) (yH _) ?_,rfl,q _ (I.hok.fresh (yH _))⟩
 exact ⟨yt (zfs xs lo hi) hz,_,0,(r.drop (HT.sIx xs.length 0 lo)).take (HT.sIx xs.length xs.length hi-HT.sIx xs.length 0 lo),yI _ rfl⟩
def zfr:V->Bool
 | .non=>true
 | .bl _=>true
 | .int _=>true
 | .str _=>true
 | _=>false
def eqV:V->V->Bool
 | .non,.non=>true
 | .bl a,.bl b=>a == b
 | .bl a,.int b=>(if a then 1 else 0) == b
 | .int a,.bl b=>a == (if b then 1 else 0)
 | .int a,.int b=>a == b
 | .str a,.str b=>a == b
 | _,_=>false
theorem zlx {A:Around} {s:Shared} {y x:V} {u v:Value} (ry:zaV y u) (rx:zaV x v) (fy:zfr y=true) (fx:zfr x=true):SeqAt.EqAt A s u v (eqV y x):=by
 cases y with
 | non =>
  cases ry
  cases x with
  | non=>cases rx; exact SeqAt.EqAt.same _
  | bl b=>cases rx; exact SeqAt.EqAt.none_bool b
  | int b=>obtain ⟨t,rfl⟩:=rx; exact SeqAt.EqAt.none_int b t
  | str b=>obtain ⟨t,rfl⟩:=rx; exact SeqAt.EqAt.none_str b t
  | _=>exact yQ (show false=true from fx) yR
 | bl a =>
  cases ry
  cases x with
  | non=>cases rx; exact SeqAt.EqAt.bool_none a
  | bl b=>cases rx; exact SeqAt.EqAt.bool_bool a b
  | int b=>obtain ⟨t,rfl⟩:=rx; exact SeqAt.EqAt.bool_int a b t
  | str b=>obtain ⟨t,rfl⟩:=rx; exact SeqAt.EqAt.bool_str a b t
  | _=>exact yQ (show false=true from fx) yR
 | int a =>
  obtain ⟨t',rfl⟩:=ry
  cases x with
  | non=>cases rx; exact SeqAt.EqAt.int_none a t'
  | bl b=>cases rx; exact SeqAt.EqAt.int_bool a t' b
  | int b=>obtain ⟨t,rfl⟩:=rx; exact SeqAt.EqAt.int_int a t' b t
  | str b=>obtain ⟨t,rfl⟩:=rx; exact SeqAt.EqAt.int_str a t' b t
  | _=>exact yQ (show false=true from fx) yR
 | str a =>
  obtain ⟨t',rfl⟩:=ry
  cases x with
  | non=>cases rx; exact SeqAt.EqAt.str_none a t'
  | bl b=>cases rx; exact SeqAt.EqAt.str_bool a t' b
  | int b=>obtain ⟨t,rfl⟩:=rx; exact SeqAt.EqAt.str_int a t' b t
  | str b=>obtain ⟨t,rfl⟩:=rx; exact SeqAt.EqAt.str_str a t' b t
  | _=>exact yQ (show false=true from fx) yR
 | _=>exact yQ (show false=true from fy) yR
def eqU (x:V) (u:Value):Bool:=match u with
 | .none=>eqV .non x
 | .bool b=>eqV (.bl b) x
 | .int i _=>eqV (.int i) x
 | .str z _=>eqV (.str z) x
 | _=>false
theorem zol {x y:V} {u:Value} (r:zaV y u) (f:zfr y=true):eqU x u=eqV y x:=by
 cases y with
 | non=>cases r; rfl
 | bl b=>cases r; rfl
 | int i=>obtain ⟨t,rfl⟩:=r; rfl
 | str z=>obtain ⟨t,rfl⟩:=r; rfl
 | _=>exact yQ (show false=true from f) yR
theorem zfu {x:V}:∀ {xs:List V} {us:List Value},zaK xs us->xs.all zfr=true->us.any (eqU x)=xs.any fun y=>eqV y x
 | _,_,.nil,_=>rfl
 | y :: xs,u :: us,.cons r t,f=>by
  rw [List.all_cons,Ye] at f; rw [Yx,Yx,zol r f.1,zfu t f.2]
theorem zeg {A:Around} {s:Shared} {x:V} {v:Value} (rx:zaV x v) (fx:zfr x=true):∀ {xs:List V} {us:List Value},zaK xs us->xs.all zfr=true->∀ u ∈ us,SeqAt.EqAt A s u v (eqU x u)
 | _,_,.nil,_=>fun u hu=>by cases hu
 | y :: xs,u :: us,.cons r t,f=>fun u' hu=>by
  rw [List.all_cons,Ye] at f
  rcases yO.mp hu with rfl | hu
  ·rw [zol r f.1]; exact zlx r rx f.1 fx
  ·exact zeg rx fx t f.2 u' hu
def inV (x:V) (xs:List V):Bool:=xs.any fun y=>eqV y x
def rIn (K:W.Frag) (neg:Bool):R2:=fun x y H Q=>∃ p xs,y=.ref p/\(SqL K H p xs\/SqT K H p xs)/\zfr x=true/\xs.all zfr=true/\Q (.bl (if neg then !inV x xs else inV x xs)) H
theorem zk0:OpR X (compareOp .In) (rIn X.K false):=by
 intro pins s σ H x y v u Q I rx ry h; obtain ⟨p,xs,rfl,hq,fx,fs,q⟩:=h; cases ry
 rcases hq with hq | hq
 ·obtain ⟨its,r,pl,hz⟩:=I.list hq
  refine SeqAt.in_listAt (eqU x) pl.isList (fun w hw=>zeg rx fx r fs w (by simpa using hw)) ⟨.bl _,H,I,rfl,?_⟩
  rw [show its.toArray.any (eqU x)=its.any (eqU x) by simp,zfu r fs]
  exact q
 ·obtain ⟨its,r,pl,hz⟩:=I.tuple hq
  refine SeqAt.in_tupleAt (eqU x) pl (fun w hw=>zeg rx fx r fs w (by simpa using hw)) ⟨.bl _,H,I,rfl,?_⟩
  rw [show its.toArray.any (eqU x)=its.any (eqU x) by simp,zfu r fs]
  exact q
theorem zeJ:OpR X (compareOp .NotIn) (rIn X.K true):=by
 intro pins s σ H x y v u Q I rx ry h; obtain ⟨p,xs,rfl,hq,fx,fs,q⟩:=h; cases ry
 rcases hq with hq | hq
 ·obtain ⟨its,r,pl,hz⟩:=I.list hq
  refine SeqAt.notIn_listAt (eqU x) pl.isList (fun w hw=>zeg rx fx r fs w (by simpa using hw)) ⟨.bl _,H,I,rfl,?_⟩
  rw [show its.toArray.any (eqU x)=its.any (eqU x) by simp,zfu r fs]
  exact q
 ·obtain ⟨its,r,pl,hz⟩:=I.tuple hq
  refine SeqAt.notIn_tupleAt (eqU x) pl (fun w hw=>zeg rx fx r fs w (by simpa using hw)) ⟨.bl _,H,I,rfl,?_⟩
  rw [show its.toArray.any (eqU x)=its.any (eqU x) by simp,zfu r fs]
  exact q
theorem zhF:zcW X (.builtin "len") (fun xs H Q=>∃ p ys,xs=[.ref p]/\(SqL X.K H p ys\/SqT X.K H p ys)/\Q (.int ys.length) H):=by
 intro pins s σ H xs us Q I r h; obtain ⟨p,ys,rfl,hq,q⟩:=h; obtain ⟨u,rfl,rx⟩:=zcZ r; cases rx; have hn:=zfP
 rcases hq with hq | hq
 ·obtain ⟨its,r',pl,hz⟩:=I.list hq
  have hlen:=r'.length
  exact Calls.call_len_list pl.isList (by simp only [yL] <;> omega) ⟨.int ys.length,H,I.tok _,⟨s.toks+1,by rw [yL,hlen]⟩,q⟩
 ·obtain ⟨its,r',pl,hz⟩:=I.tuple hq
  have hlen:=r'.length
  exact len_tuple pl (by simp only [yL] <;> omega) ⟨.int ys.length,H,I.tok _,⟨s.toks+1,by rw [yL,hlen]⟩,q⟩
theorem zhE:zcW X (.builtin "len") (fun xs H Q=>∃ z,xs=[.str z]/\z.length<=sizeLine/\Q (.int z.length) H):=by
 intro pins s σ H xs us Q I r h; obtain ⟨z,rfl,hz,q⟩:=h; obtain ⟨u,rfl,t,rfl⟩:=zcZ r; have hn:=zfP
 exact len_str (by omega) ⟨.int z.length,H,I.tok _,⟨_,rfl⟩,q⟩
theorem zcW.or {f:Value} {r r':List V->Hp->VK->Prop} (h:zcW X f r) (h':zcW X f r'):zcW X f (fun xs H Q=>r xs H Q\/r' xs H Q):=by
 intro pins s σ H xs us Q I rs q
 rcases q with q | q
 ·exact h pins s σ H xs us Q I rs q
 ·exact h' pins s σ H xs us Q I rs q
theorem zhD:zcW X (.type "list") (fun xs H Q=>∃ p ys,xs=[.ref p]/\(SqL X.K H p ys\/SqT X.K H p ys)/\∀ l,H l=none->Q (.ref l) (upd H l (.lst ys))):=by
 intro pins s σ H xs us Q I r h; obtain ⟨p,ys,rfl,hq,q⟩:=h; obtain ⟨u,rfl,rx⟩:=zcZ r; cases rx
 have fin:∀ (its:List Value),zaK ys its->ys.length<=sizeLine->∀ (h':Heap) (c':Nat),(∀ b o',s.heap.get? b=some o'->h'.get? b=some o') ->
   h'.get? s.heap.objs.size=some { cls:=.type "list",dict:=none,data:=.seq its.toArray c',slots:=#[] }->EP X pins σ Q (.ref s.heap.objs.size) { s with heap:=h' }:=fun its r' hz h' c' kp e =>
  ⟨.ref s.heap.objs.size,_,I.laid (t':=s.toks) kp (yH _) (show zbG X.prog X.w _ h' _ (.lst ys) from ⟨hz,its,c',r',e⟩),rfl,q _ (I.hok.fresh (yH _))⟩
 rcases hq with hq | hq
 ·obtain ⟨its,r',pl,hz⟩:=I.list hq
  have hlen:=r'.length; obtain ⟨o,ho,hc,n,hd⟩:=pl.isList
  exact call_list_seq p (.inl rfl) ho hc hd (fun h' c' kp e=>fin its r' hz h' c' kp e) (by simp only [yL] <;> omega)
 ·obtain ⟨its,r',pl,hz⟩:=I.tuple hq
  have hlen:=r'.length; obtain ⟨o,ho,hc,n,hd⟩:=pl
  exact call_list_seq p (.inr rfl) ho hc hd (fun h' c' kp e=>fin its r' hz h' c' kp e) (by simp only [yL] <;> omega)
theorem zgA:zcW X (.type "tuple") (fun xs H Q=>∃ p ys,xs=[.ref p]/\((SqL X.K H p ys/\∀ l,H l=none->Q (.ref l) (upd H l (.tup ys)))\/(SqT X.K H p ys/\Q (.ref p) H))):=by
 intro pins s σ H xs us Q I r h; obtain ⟨p,ys,rfl,h⟩:=h; obtain ⟨u,rfl,rx⟩:=zcZ r; cases rx
 rcases h with ⟨hq,q⟩ | ⟨hq,q⟩
 ·obtain ⟨its,r',pl,hz⟩:=I.list hq
  have hlen:=r'.length
  refine call_tuple_list pl.isList (fun h' kp=>?_) (by simp only [yL] <;> omega)
  have I1:Inv X pins σ H { s with heap:=h' }:=I.kept (t':=s.toks) kp
  have I2:Inv X pins σ (upd H h'.objs.size (.tup ys)) { s with heap:=h'.push { cls:=.type "tuple",data:=.seq its.toArray } } :=
   I1.laid (t':=s.toks) (fun b o e=>yC _ e) (yH _) (show zbG X.prog X.w _ _ _ (.tup ys) from ⟨hz,its,r',IsTup.new _ _⟩)
  exact ⟨.ref h'.objs.size,_,I2,rfl,q _ (I1.hok.fresh (yH _))⟩
 ·obtain ⟨its,r',pl,hz⟩:=I.tuple hq
  exact call_tuple_same pl ⟨.ref p,H,I,rfl,q⟩
def tyV (K:W.Frag) (T:String) (x:V) (H:Hp):Prop:=match x with
 | .str _=>T="str"
 | .int _=>T="int"
 | .ref p=>(T="list"/\∃ xs,SqL K H p xs)\/(T="tuple"/\∃ o,K.lookup p=some o/\o.cls=.type "tuple"/\o.dict=none) \/
   (T="dict"/\((∃ kvs,H p=some (.dK kvs))\/∃ kvs,H p=some (.dT kvs)))\/(T="set"/\∃ S n,H p=some (.set S n))
 | _=>False
theorem znL {pins:List (Addr × Obj)} {σ:St} {H:Hp} {s:Shared} {T:String} {x:V} {v:Value} (I:Inv X pins σ H s) (r:zaV x v) (ty:tyV X.K T x H) :
  s.TypeIs v T/\∀ a,v=.ref a->∃ ob,s.heap.get? a=some ob/\ob.dict=none:=by
 cases x with
 | str z =>
  obtain ⟨t,rfl⟩:=r
  cases (show T="str" from ty)
  exact ⟨typeIs_str s z t,fun _ e=>nomatch e⟩
 | int i =>
  obtain ⟨t,rfl⟩:=r
  cases (show T="int" from ty)
  exact ⟨typeIs_int s i t,fun _ e=>nomatch e⟩
 | ref p =>
  cases r
  rcases ty with ⟨rfl,xs,hq⟩ | ⟨rfl,o,hk,hc,hd⟩ | ⟨rfl,hk⟩ | ⟨rfl,S,n,hk⟩
  ·obtain ⟨its,_,pl,_⟩:=I.list hq
   refine ⟨pl.isList.typeIs,fun a e=>?_⟩
   cases e; obtain ⟨o,n,e,c,hd,_⟩:=pl; exact ⟨o,e,hd⟩
  ·refine ⟨⟨o,I.kIn p o hk,hc⟩,fun a e=>?_⟩
   cases e; exact ⟨o,I.kIn _ o hk,hd⟩
  ·have z:∃ o,s.heap.get? p=some o/\o.ExactDict:=by
    rcases hk with ⟨kvs,hk⟩ | ⟨kvs,hk⟩
    ·obtain ⟨_,_,_,_,o,_,_,e,ex,_⟩:=I.hok p _ hk
     exact ⟨o,e,ex⟩
    ·obtain ⟨_,_,_,_,o,_,_,e,ex,_⟩:=I.hok p _ hk
     exact ⟨o,e,ex⟩
   obtain ⟨o,e,ex⟩:=z
   refine ⟨⟨o,e,ex.1⟩,fun a e2=>?_⟩
   cases e2; exact ⟨o,e,ex.2.1⟩
  ·obtain ⟨o,_,_,_,e,ex,_⟩:=I.hok p _ hk
   refine ⟨⟨o,e,ex.1⟩,fun a e2=>?_⟩
   cases e2; exact ⟨o,e,ex.2.1⟩
 | _=>exact False.elim ty
def zvb (K:W.Frag) (T:String) (r:V->List V->Hp->VK->Prop) (to:TE):TE:=fun σ H Q=>to σ H fun x H1=>tyV K T x H1/\r x [] H1 Q
def tBM (K:W.Frag) (T:String) (r:V->List V->Hp->VK->Prop) (to:TE) (t:TA):TE:=fun σ H Q=>to σ H fun x H1=>tyV K T x H1/\t σ H1 fun xs H2=>r x xs H2 Q
variable {o e:Expr} {es:List Expr} {to:TE} {t:TA} {name:Str} {apos cpos:Pos} {T id:String} {r:V->List V->Hp->VK->Prop}
theorem zrm (pa:PlainAttrs T) (slot:Slot T name id) (hty:typeOf (.builtin id)=pure (.type "method_descriptor")) (hm:MtR X id r) (ho:PE X o to)
  (hbase:attributeBase o name X.env (eval o X.env)=eval o X.env:=by rfl) (hline:(apos.endLine == cpos.line)=true:=by rfl):PE X (.Call (.Attribute o name apos) [] [] cpos) (zvb X.K T r to):=by
 intro pins s σ H Q I h
 refine wpAny_Call_method0_late hbase hline (thn (ho pins s σ H _ I h) fun v s1 ⟨x,H1,I1,r1,ty,q1⟩=>?_)
 obtain ⟨h1,h2⟩:=znL I1 r1 ty; exact ⟨T,id,pa,slot,hty,h1,h2,Yd rfl (PySem.evalArgs_none (hm pins s1 σ H1 x [] v [] Q I1 r1 .nil q1))⟩
theorem zmR (pa:PlainAttrs T) (slot:Slot T name id) (hty:typeOf (.builtin id)=pure (.type "method_descriptor")) (hm:MtR X id r) (ho:PE X o to) (ha:PA X (e :: es) t)
  (hbase:attributeBase o name X.env (eval o X.env)=eval o X.env:=by rfl)
  (hfew:((backTo cpos (starEach (e :: es) X.env)).all (fun x=>!x.1) && (backToKw cpos (keywordEach [] X.env)).all (fun x=>x.1.isSome)
   && decide ((e :: es).length+([]:List Keyword).length+(if ([]:List Keyword).isEmpty then 0 else 1)<30))=true:=by rfl)
  (hline:(apos.endLine == cpos.line)=true:=by rfl) (hs:starEach (e :: es) X.env=(false,eval e X.env) :: starEach es X.env:=by rfl) (hplain:(backTo cpos (starEach es X.env)).any (·.1)=false:=by rfl) :
  PE X (.Call (.Attribute o name apos) (e :: es) [] cpos) (tBM X.K T r to t):=by
 intro pins s σ H Q I h
 refine wpAny_Call_method_late hbase hfew hline rfl (thn (ho pins s σ H _ I h) fun v s1 ⟨x,H1,I1,r1,ty,q1⟩=>?_)
 obtain ⟨h1,h2⟩:=znL I1 r1 ty; refine ⟨T,id,pa,slot,hty,h1,h2,?_⟩; have hA:=ha cpos pins s1 σ H1 _ I1 q1; rw [hs] at hA ⊢
 refine Yd (by show (false || (backTo cpos (starEach es X.env)).any (·.1))=false; rw [hplain] <;> rfl) (Calls.evalArgs_plain ?_)
 exact thn hA fun us s2 ⟨vs,H2,I2,r2,q2⟩=>hm pins s2 σ H2 x vs v us Q I2 r1 r2 q2
end
def MtM (X:Cx) (id:String) (r:V->List V->Hp->VK->Prop):Prop :=
 ∀ (pins:List (Addr × Obj)) (s:Shared) (σ:St) (H:Hp) (x:V) (xs:List V) (v:Value) (us:List Value) (Q:VK),Inv X pins σ H s->zaV x v->zaK xs us->r x xs H Q ->
  wpAny (model X.prog X.w) X.A (call (.builtin id) (v :: us)) (EP X pins σ Q) X.xe s
theorem zaK.one:∀ {x:V} {us:List Value},zaK [x] us->∃ u,us=[u]/\zaV x u
 | _,_,.cons r .nil=>⟨_,rfl,r⟩
theorem zaK.zero:∀ {us:List Value},zaK [] us->us=[]
 | _,.nil=>rfl
theorem zaK.reverse {xs:List V} {us:List Value} (h:zaK xs us):zaK xs.reverse us.reverse:=by
 induction h with
 | nil=>exact .nil
 | cons r t ih=>rw [List.reverse_cons,List.reverse_cons]; exact zaK.append ih (.cons r .nil)
theorem zaK.rep {xs:List V} {us:List Value} (h:zaK xs us):∀ k:Nat,zaK (List.replicate k xs).flatten (List.replicate k us).flatten
 | 0=>.nil
 | k+1=>by
  rw [Ya,Ya,JA,JA]; exact zaK.append h (zaK.rep h k)
theorem foldl_rep (its:List Value):∀ (k:Nat) (acc:List Value),
  List.foldl (fun x1 x2=>x1 ++ x2) acc.toArray (List.replicate k its.toArray)=(acc ++ (List.replicate k its).flatten).toArray
 | 0,acc=>by simp
 | k+1,acc=>by
  have e:acc.toArray ++ its.toArray=(acc ++ its).toArray:=by simp
  have e2:(acc ++ its) ++ (List.replicate k its).flatten=acc ++ (List.replicate (k+1) its).flatten:=by
   rw [Ya,JA,List.append_assoc]
  rw [<- e2,<- foldl_rep its k (acc ++ its),<- e,Ya,YQ]
section
variable {X:Cx} {pins:List (Addr × Obj)} {σ:St} {H:Hp} {s:Shared} {l b:Addr} {xs ys zs:List V}
theorem Inv.lset {its its':List Value} {n:Nat} {f:Array Value->Array Value} {t':Nat} (I:Inv X pins σ H s) (hH:H l=some (.lst xs))
  (e:s.heap.get? l=some { cls:=.type "list",data:=.seq its.toArray n }) (hf:f its.toArray=its'.toArray) (hv:zaK ys its') (hz:ys.length<=sizeLine) :
  Inv X pins σ (upd H l (.lst ys)) { s with heap:=s.heap.update l (Obj.mapSeq f),toks:=t' }:=by
 have q:=PySem.IsL.update e f; rw [hf] at q
 refine I.write (x:=l) (e:=l) (by rw [hH]; exact trivial) (.inl rfl) (fun b' u hb hu=>(Yc s.heap (Obj.mapSeq f) (Ne.symm hb)).trans hu) ⟨_,q⟩ ?_
 exact ⟨hz,its',_,hv,q⟩
theorem Inv.lnew {its:List Value} {t':Nat} (I:Inv X pins σ H s) (hv:zaK ys its) (hz:ys.length<=sizeLine) :
  Inv X pins σ (upd H s.heap.objs.size (.lst ys)) { s with heap:=s.heap.push { cls:=.type "list",data:=.seq its.toArray },toks:=t' } :=
 I.laid (fun _ _ q=>yC _ q) (yH _) ⟨hz,its,0,hv,yI _ rfl⟩
theorem Inv.fresh (I:Inv X pins σ H s):H s.heap.objs.size=none:=I.hok.fresh (yH _)
theorem Inv.lstM (I:Inv X pins σ H s) (hH:H l=some (.lst xs)):xs.length<=sizeLine/\∃ (its:List Value) (n:Nat),zaK xs its/\xs.length=its.length/\s.heap.get? l=some { cls:=.type "list",data:=.seq its.toArray n }:=by
 obtain ⟨z,its,n,r,e⟩:=I.hok l _ hH; exact ⟨z,its,n,r,r.length,e⟩
end
section
variable {X:Cx}
def zoO:V->List V->Hp->VK->Prop:=fun x vs H Q=>∃ l xs y,x=.ref l/\vs=[y]/\H l=some (.lst xs)/\xs.length<sizeLine/\Q .non (upd H l (.lst (xs ++ [y])))
theorem zef:MtM X "list.append" zoO:=by
 intro pins s σ H x vs v us Q I rx rv h; obtain ⟨l,xs,y,rfl,rfl,hH,hz,q⟩:=h; cases rx; obtain ⟨u,rfl,ru⟩:=rv.one; obtain ⟨z,its,n,r,hl,e⟩:=I.lstM hH
 refine call_meets F.slot_list_append ⟨_,e,rfl⟩ F.entry_list_append (F.args_list_append_2 _ _) (PySem.list_append l its.toArray n u (by rw [yL]; omega)) ⟨e,?_⟩
 refine ⟨.non,_,I.lset (its':=its ++ [u]) hH e (by simp) (r.append (.cons ru .nil)) ?_,rfl,q⟩
 rw [yY,List.length_singleton]; omega
def zms:V->List V->Hp->VK->Prop:=fun x vs H Q=>∃ l xs,x=.ref l/\vs=[]/\H l=some (.lst xs)/\Q .non (upd H l (.lst xs.reverse))
theorem zjG:MtM X "list.reverse" zms:=by
 intro pins s σ H x vs v us Q I rx rv h; obtain ⟨l,xs,rfl,rfl,hH,q⟩:=h; cases rx; have hus:=rv.zero; subst hus; obtain ⟨z,its,n,r,hl,e⟩:=I.lstM hH
 refine call_meets F.slot_list_reverse ⟨_,e,rfl⟩ F.entry_list_reverse (F.args_list_reverse_1 _) (AutoSeq1.list_reverse_list_0 l its.toArray n (by rw [yL]; omega)) ⟨e,?_⟩
 refine ⟨.non,_,I.lset (its':=its.reverse) hH e (by simp) r.reverse ?_,rfl,q⟩
 rw [List.length_reverse]; omega
theorem len_rep {α:Type} (xs:List α) (k:Nat):(List.replicate k xs).flatten.length=k * xs.length:=by
 induction k with
 | zero=>simp
 | succ k ih=>rw [Ya,JA,yY,ih,Nat.succ_mul,Nat.add_comm]
end
section
variable {prog:Program} {w:World} {A:Around} {E:Value->Shared->Prop} {s:Shared}
set_option maxRecDepth 100000 in
end
section
variable {X:Cx}
end
end L2
namespace Att
open PySem PySem.W PySem.Calls PyProof.Rows
theorem zfm {P:Params} {h:Heap}:∀ (ns:List Int) (vs:List Value),WellAll P h vs (ns.map WData.int)->IntsAre vs ns:=by
 intro ns
 induction ns with
 | nil =>
  intro vs w; rw [List.map_nil] at w; cases w; exact .nil
 | cons n ns ih =>
  intro vs w; rw [yS] at w
  cases w with
  | cons a b =>
   cases a; exact .cons _ _ (ih _ b)
theorem zks {l:OpenLaw} {n:Nat} (hn:l.most=some n) {P:Params} {h:Heap} {args:List WData} {vals:List Value}
  (hpre:l.row.toRowW.claim.pre args=true) (hwl:WellAll P h vals args) :
  ∃ a vs ns,vals=[Value.ref a]/\args=[WData.list (ns.map WData.int)]/\h.get? a=some { cls:=.type "list",data:=.seq vs.toArray }/\IntsAre vs ns/\ns.length<=n:=by
 have hsh:WShape.hasAll [] args [.list .int]=true:=(pre_splitW hpre).1
 have hc:l.pre.holds [] { args:=args }=true:=(pre_splitW hpre).2
 obtain ⟨d,r,rfl,h1,h2⟩:=hasAllW_cons hsh
 obtain rfl:=hasAllW_nil h2
 obtain ⟨xs,rfl,h3⟩:=hasW_list h1; obtain ⟨ns,rfl⟩:=items_int h3
 have hlen:ns.length<=n:=by
  unfold OpenLaw.pre at hc
  have h4:(WTm.not (.lt (.lit (.int (n:Int))) (.len (.arg 0)))).holds [] { args:=[.list (ns.map .int)] }=true:=by
   have h4:=(holds_andW hc).1; rw [hn] at h4; exact h4
  have h5:=condW_of h4 (w_not (w_lt w_lit (w_len_list (w_arg rfl)))); rw [yF] at h5
  refine Nat.le_of_not_lt fun q=>?_
  have q':(n:Int)<((ns.length:Nat):Int):=by omega
  first
   | (rw [decide_eq_true q'] at h5; exact yQ h5 (by decide))
   | (simp at h5; omega)
 cases hwl with
 | cons w1 w2 =>
  cases w2
  cases w1 with
  | list ho hall=>exact ⟨_,_,ns,rfl,rfl,ho,zfm ns _ hall,hlen⟩
theorem zkJ (l:OpenLaw) (args:List WData):l.row.toRowW.claim.post args (.bool true) args=true :=
 postW_of (r:=l.row.toRowW) (X:=(true == true))
  (show WShape.has [] (.bool true) .bool=true by first | rfl | decide | simp [WShape.has,WShape.arms,WShape.armsAll])
  (show (WTm.eq .res (.lit (.bool true))).value [] { args:=args,res:=some (.bool true),after:=args }=some (.bool (true == true)) from w_eq_bool (w_res rfl) w_lit) rfl
theorem attach_call {l:OpenLaw} {n:Nat} {q:Program} {loose:List Str} {XP:(Str->Option Value)->Heap->Prop} {YP:World->Heap->Prop} {d:DefRec}
  (hn:l.most=some n) (hdf:d.params.defaults=[])
  (call:∀ (w:World) (s₀ s₁:Shared) (mg mb:Str->Option Value) (fa:Addr) (o:Obj) (pm cd doc:Value) (a:Addr) (vs:List Value) (ns:List Int),
   Ground q loose [] XP w s₀ mg mb s₁.heap->YP w s₁.heap ->
   s₁.heap.get? fa=some o->o.data=.func (docDef d.name d.params d.body d.scope pm cd doc)->s₁.heap.CodeRec cd d.name->mg d.name=some (.ref fa) ->
   s₁.heap.get? a=some { cls:=.type "list",data:=.seq vs.toArray }->IntsAre vs ns->ns.length<=n->s₁.gens=#[] ->
   codeAny (model l.prog w) callerA (.call (.ref fa) ⟨[.ref a],[]⟩) (fun r s'=>r=.ok (.ret (.bool true))/\OldK s₁.heap s'.heap/\s'.os=s₁.os/\AllBare s'.gens) s₁) :
  WalkO q loose XP YP l.row.toRowW d [] (fun f vs=>PySem.call f vs):=by
 intro w s₀ s₁ mg mb G Y fa o pm cd doc dV kV ho hd hcd hD hmg hg args vals as hpre hlay hrd hwl hlo
 obtain rfl:dV=.none:=Dflts.none hD hdf
 obtain rfl:kV=.none:=Dflts.noKw hD
 obtain ⟨a,vs,ns,rfl,rfl,hobj,hints,hlen⟩:=zks hn hpre hwl
 refine enter_call (codeAny_mono (call w s₀ s₁ mg mb fa o pm cd doc a vs ns G Y ho (fd_plain hd) hcd hmg hobj hints hlen hg) fun r s' hq=>?_)
 obtain ⟨rfl,h2,h3,h4⟩:=hq
 exact ⟨.inl ⟨.bool true,.bool true,[],rfl,fun _=>rfl,.bool true,zkJ l _,fun _=>⟨List.Pairwise.nil,fun _ hm=>(nomatch hm)⟩⟩,h2,h3,h4⟩
section
variable {prog:Program} {w:World} {A:Around} {E:Value->Shared->Prop} {s:Shared} {K:Frag}
def zuS (h:Heap) (L d:Addr):List (Addr × Obj):=(List.range h.objs.size).filterMap fun a=>if a=L\/a=d then none else (h.get? a).map fun o=>(a,o)
end
end Att
namespace L2
open PySem PySem.Spec PyProof.Rows
theorem zgF:∀ {vs:List Value} {ns:List Int},IntsAre vs ns->zaK (ns.map V.int) vs
 | _,_,.nil=>.nil
 | _,_,.cons n t h=>.cons ⟨t,rfl⟩ (zgF h)
def zcy (s:Stmt) (j:Nat):Stmt:=match s with
 | .ClassDef _ _ _ body _ _ _ _ _ _ _=>body.getD j (.Pass ⟨0,0,0,0⟩)
 | _=>.Pass ⟨0,0,0,0⟩
def zaS (s:Stmt):Arguments:=match s with
 | .FunctionDef _ a _ _ _ _ _ _ _ _=>a
 | _=>{ posonlyargs:=[],args:=[],vararg:=none,kwonlyargs:=[],kw_defaults:=[],kwarg:=none,defaults:=[] }
def zY (s:Stmt):List Stmt:=match s with
 | .FunctionDef _ _ b _ _ _ _ _ _ _=>b
 | _=>[]
def zm (s:Stmt):Scope:=match s with
 | .FunctionDef _ _ _ _ _ _ sc _ _ _=>sc
 | _=>{ kind:=.function,names:=[],isGenerator:=false,isCoroutine:=false }
abbrev CX0:CXT:=fun _ _ _ _ _ _=>False
abbrev E0:XK:=fun _ _ _=>False
theorem zgi {X:Cx}:zfw CX0 X E0:=fun _ _ _ _ _ _ _ h=>h.elim
structure Fun (K:W.Frag) (x qual:Str) (st:Stmt) (f:Addr) (fd:FuncData):Prop where
 ex:∃ (oc:Value) (od:Option Addr) (kV doc pm:Value) (an:Option Addr) (cdv ct:Value) (osl:Array (Option Value)),
  fd=W.fnOf x qual (zaS st) (zY st) (zm st) .none kV doc pm an cdv ct/\K.lookup f=some ⟨oc,od,.func fd,osl⟩/\W.codeIn K cdv qual=true
 kp:W.keepIn K (.ref f)=true
section
variable {P:Program} {w:World} {K:W.Frag} {mg:Str->Option Value} {base:Heap}
theorem Fun.ok {x qual:Str} {st:Stmt} {f:Addr} {fd:FuncData} {N ps:List Str} {k:Nat} {sp:Sp} (F:Fun K x qual st f fd) (S:FnScope N ps (zm st)) (len:∀ vs H Q E,sp vs H Q E->vs.length=ps.length)
  (hbody:∀ (cdv:Value) (A:Around) (outer:List Env) (s:Shared) (H:Hp) (vs:List V) (Q:VK) (E:XK),Room k (A.deeper (envOfC qual (zm st) s.heap.objs.size f cdv))->sp vs H Q E ->
   ∃ t,PSs (zfU CX0 P w K mg base N qual (zm st) f cdv A outer s H E).nox (zY st) t/\t { nx:=fun _ H'=>Q .non H',rt:=Q } (start N vs) H):FnOk P w K mg base CX0 (k+1) f fd ps sp:=by
 obtain ⟨oc,od,kV,doc,pm,an,cdv,ct,osl,rfl,lk,hcd⟩:=F.ex
 refine zrZ lk hcd S len fun A outer s H vs Q E hr hsp=>?_
 obtain ⟨t,h,q⟩:=hbody cdv A outer s H vs Q E hr hsp; exact ⟨t,h.nox,q⟩
theorem Fun.binds {x qual:Str} {st:Stmt} {f:Addr} {fd:FuncData} {ps:List Str} (F:Fun K x qual st f fd)
  (h:∀ (kV doc pm:Value) (an:Option Addr) (cdv ct:Value) (us:List Value),us.length=ps.length->bindArgs (W.fnOf x qual (zaS st) (zY st) (zm st) .none kV doc pm an cdv ct) ⟨us,[]⟩=pure (ps.zip us)):zcb K fd ps []:=by
 obtain ⟨oc,od,kV,doc,pm,an,cdv,ct,osl,rfl,lk,hcd⟩:=F.ex; exact .all (h kV doc pm an cdv ct)
theorem zct {x qual:Str} {st:Stmt} {f:Addr} {oc:Value} {od an:Option Addr} {osl:Array (Option Value)} {kV doc pm cdv ct:Value} (l:K.lookup f=some ⟨oc,od,.func (W.fnOf x qual (zaS st) (zY st) (zm st) .none kV doc pm an cdv ct),osl⟩)
  (c:W.codeIn K cdv qual=true) (k:W.keepIn K (.ref f)=true):Fun K x qual st f (W.fnOf x qual (zaS st) (zY st) (zm st) .none kV doc pm an cdv ct):=⟨⟨oc,od,kV,doc,pm,an,cdv,ct,osl,rfl,l,c⟩,k⟩
end
theorem zq {A:Around} {k:Nat} (hr:Room k A):A.units+1<cLine:=Nat.lt_of_le_of_lt (Nat.add_le_add_left (by decide:1<=64) _) hr.units
theorem zap {n:Nat} (h:n<=1000):n<sizeLine:=Nat.lt_of_le_of_lt h (by decide)
section
variable {X:Cx}
theorem pv (i:Nat) {x:Str} {pos:Pos} (hN:X.N[i]?=some x:=by rfl) (hv:Vis X.env.scope x:=by first | exact YJ rfl | exact yr (YJ rfl) | exact yr (yr rfl)) (hd:(x == ("__debug__":Str))=false:=by decide)
  (hcd:(x == ("__classdict__":Str))=false:=by decide):PE X (.Name x pos) (zuF i):=zcj hN hv hd hcd
end
def zaI (H H':Hp):Prop:=∀ b o,H b=some o->H' b=some o
theorem zaI.refl (H:Hp):zaI H H:=fun _ _ h=>h
theorem zaI.trans {H H1 H2:Hp} (a:zaI H H1) (b:zaI H1 H2):zaI H H2:=fun c o h=>b c o (a c o h)
theorem zaI.free {H H':Hp} (e:zaI H H') {l:Addr} (h:H' l=Option.none):H l=Option.none:=by
 cases q:H l with
 | none=>rfl
 | some o =>
  rw [e l o q] at h; cases h
section
variable {κ:Type} [DecidableEq κ]
def zf0 (kvs:List (κ × V)) (k:κ):Option V:=(kvs.find? fun kv=>decide (kv.1=k)).map (·.2)
def zgV (kvs:List (κ × V)) (k:κ) (v:V):List (κ × V) :=
 if (kvs.any fun kv=>decide (kv.1=k))=true then kvs.map (fun kv=>if kv.1=k then (kv.1,v) else kv) else kvs ++ [(k,v)]
theorem zeQ {p:κ × V} {r:List (κ × V)} {k:κ} (e:p.1=k):zf0 (p :: r) k=some p.2:=by simp [zf0,yw,e]
theorem zeR {p:κ × V} {r:List (κ × V)} {k:κ} (e:¬ p.1=k):zf0 (p :: r) k=zf0 r k:=by simp [zf0,yw,e]
theorem zfZ (k:κ):∀ kvs:List (κ × V),(kvs.any fun kv=>decide (kv.1=k))=(zf0 kvs k).isSome
 | []=>rfl
 | p :: r=>by
  rw [Yx]
  by_cases e:p.1=k
  ·simp only [zeQ e,decide_eq_true e,Bool.true_or,Option.isSome_some]
  ·rw [zeR e,yk e,Bool.false_or]; exact zfZ k r
theorem zdW (kvs:List (κ × V)) (k:κ) (v:V):(zgV kvs k v).length<=kvs.length+1:=by
 unfold zgV; split
 ·rw [yF]; omega
 ·rw [yY,yf,Yu]; omega
theorem zgC.isSome_eq {o:Option V} {u:Option Value} (r:zgC o u):o.isSome=u.isSome:=by
 cases o with
 | none=>cases u with
  | none=>rfl
  | some _=>exact (show False from r).elim
 | some _=>cases u with
  | none=>exact (show False from r).elim
  | some _=>rfl
theorem zgC.getD {o:Option V} {u:Option Value} {d:V} {d':Value} (r:zgC o u) (rd:zaV d d'):zaV (o.getD d) (u.getD d'):=by
 cases o with
 | none=>cases u with
  | none=>exact rd
  | some _=>exact (show False from r).elim
 | some _=>cases u with
  | none=>exact (show False from r).elim
  | some _=>exact r
theorem KV.val {kvs:List (κ × V)} {vs:List (κ × Value)} (r:KV kvs vs) (k:κ):zgC (zf0 kvs k) (valueAt vs k):=by
 unfold KV at r
 induction r with
 | nil=>exact True.intro
 | @cons p q ps qs h t ih =>
  obtain ⟨h1,h2⟩:=h
  by_cases e:p.1=k
  ·have e':q.1=k:=h1.symm.trans e
   have b:valueAt (q :: qs) k=some q.2:=by simp [valueAt,yw,e']
   rw [zeQ e,b]; exact h2
  ·have e':¬ q.1=k:=fun z=>e (h1.trans z)
   have b:valueAt (q :: qs) k=valueAt qs k:=by simp [valueAt,yw,e']
   rw [zeR e,b]; exact ih
theorem KV.any {kvs:List (κ × V)} {vs:List (κ × Value)} (r:KV kvs vs) (k:κ):(kvs.any fun kv=>decide (kv.1=k))=vs.any fun kv=>decide (kv.1=k):=by
 unfold KV at r
 induction r with
 | nil=>rfl
 | cons h t ih=>rw [Yx,Yx,ih,h.1]
theorem KV.repl {kvs:List (κ × V)} {vs:List (κ × Value)} (r:KV kvs vs) (k:κ) {y:V} {u:Value} (ry:zaV y u) :
  KV (kvs.map fun kv=>if kv.1=k then (kv.1,y) else kv) (vs.map fun kv=>if kv.1=k then (kv.1,u) else kv):=by
 unfold KV at r ⊢
 induction r with
 | nil=>exact .nil
 | @cons p q ps qs h t ih =>
  rw [yS,yS]; refine .cons ?_ ih; obtain ⟨h1,h2⟩:=h
  by_cases e:p.1=k
  ·rw [yN e,yN (h1.symm.trans e)]; exact ⟨h1,ry⟩
  ·rw [yK e,yK (fun z=>e (h1.trans z))]; exact ⟨h1,h2⟩
theorem KV.put {kvs:List (κ × V)} {vs:List (κ × Value)} (r:KV kvs vs) (k:κ) {y:V} {u:Value} (ry:zaV y u):KV (zgV kvs k y) (stored vs k u):=by
 unfold zgV stored; rw [r.any k]
 by_cases e:(vs.any fun kv=>decide (kv.1=k))=true
 ·rw [yN e,yN e]; exact r.repl k ry
 ·rw [yK e,yK e]; exact Paired.snoc r ⟨rfl,ry⟩
theorem KV.length {kvs:List (κ × V)} {vs:List (κ × Value)} (r:KV kvs vs):kvs.length=vs.length:=Paired.length r
end
theorem zpL {P:Program} {w:World} {k:Key} {u:Value} (r:zaV (kV k) u):(zaR P w).is k u=true:=by
 cases k with
 | inl i=>obtain ⟨t,e⟩:=(show ∃ t,u=Value.int i t from r); subst e; exact zig P w i t
 | inr x=>obtain ⟨t,e⟩:=(show ∃ t,u=Value.str x t from r); subst e; exact zif P w x t
theorem zhj {P:Program} {w:World}:∀ {ks:List Key} {us:List Value},zaK (ks.map kV) us->ItemsAre (zaR P w) ks us
 | [],_,r=>by rw [List.map_nil] at r; cases r; exact .nil
 | k :: ks,_,r=>by
  rw [yS] at r
  cases r with
  | cons h t=>exact .cons (zpL h) (zhj t)
abbrev KT (H:Hp):List (List Key × V)->List (List Key × Addr × Value)->Prop:=Paired fun p q=>p.1=q.1/\H q.2.1=some (.tup (p.1.map kV))/\zaV p.2 q.2.2
theorem KT.val {H:Hp} {kvs:List (List Key × V)} {xs:List (List Key × Addr × Value)} (r:KT H kvs xs) (k:List Key):zgC (zf0 kvs k) ((atKey xs k).map (·.2)):=by
 induction r with
 | nil=>exact True.intro
 | @cons p q ps qs h t ih =>
  obtain ⟨h1,_,h2⟩:=h
  by_cases e:p.1=k
  ·have e':q.1=k:=h1.symm.trans e
   have b:atKey (q :: qs) k=some q.2:=by simp [atKey,yw,e']
   rw [zeQ e,b]; exact h2
  ·have e':¬ q.1=k:=fun z=>e (h1.trans z)
   have b:atKey (q :: qs) k=atKey qs k:=by simp [atKey,yw,e']
   rw [zeR e,b]; exact ih
theorem KT.repl {H:Hp} {kvs:List (List Key × V)} {xs:List (List Key × Addr × Value)} (r:KT H kvs xs) (k:List Key) {y:V} {u:Value} (ry:zaV y u) :
  KT H (kvs.map fun kv=>if kv.1=k then (kv.1,y) else kv) (xs.map (putAt k u)):=by
 induction r with
 | nil=>exact .nil
 | @cons p q ps qs h t ih =>
  rw [yS,yS]; refine .cons ?_ ih; obtain ⟨h1,h2,h3⟩:=h; unfold putAt
  by_cases e:p.1=k
  ·rw [yN e,yN (h1.symm.trans e)]; exact ⟨h1,h2,ry⟩
  ·rw [yK e,yK (fun z=>e (h1.trans z))]; exact ⟨h1,h2,h3⟩
theorem KT.put {H:Hp} {kvs:List (List Key × V)} {xs:List (List Key × Addr × Value)} (r:KT H kvs xs) (k:List Key) {b:Addr} {y:V} {u:Value} (hb:H b=some (.tup (k.map kV))) (ry:zaV y u) :
  KT H (zgV kvs k y) (storedH xs k b u):=by
 have e:(kvs.any fun kv=>decide (kv.1=k))=(atKey xs k).isSome:=by
  rw [zfZ,(r.val k).isSome_eq,Yi]
 unfold zgV storedH; rw [e]
 by_cases q:(atKey xs k).isSome=true
 ·rw [yN q,yN q]; exact r.repl k ry
 ·rw [yK q,yK q]; exact Paired.snoc r ⟨rfl,hb,ry⟩
theorem KT.keeps {H H':Hp} {kvs:List (List Key × V)} {xs:List (List Key × Addr × Value)} (r:KT H kvs xs) (ht:∀ b ys,H b=some (.tup ys)->H' b=some (.tup ys)):KT H' kvs xs :=
 Paired.mapP r fun _ _ z=>⟨z.1,ht _ _ z.2.1,z.2.2⟩
section
variable {P:Program} {w:World} {H:Hp} {h:Heap} {a:Addr}
theorem zqL {u:HO} (ok:HOk P w H h) (e:Rd H a u):zbG P w H h a u:=e.ok ok
theorem zr3 {kvs:List (Key × V)} (ok:HOk P w H h) (e:Rd H a (.dK kvs)):kvs.length<=sizeLine/\(a == sysModules)=false/\∃ vs,KV kvs vs/\h.DictOf (zaR P w) a vs :=
 show zbG P w H h a (.dK kvs) from zqL ok e
theorem zud {kvs:List (Key × V)} (ok:HOk P w H h) (e:H a=some (.dK kvs)):kvs.length<=sizeLine/\(a == sysModules)=false/\∃ vs,KV kvs vs/\h.DictOf (zaR P w) a vs:=zr3 ok (.inl e)
theorem zdC {ks:List Key} (ok:HOk P w H h) (e:H a=some (.tup (ks.map kV))):(tupleKind (zaR P w)).is h ks a:=by
 obtain ⟨_,its,r,o,h1,h2,n,h3⟩:=(show zbG P w H h a (.tup (ks.map kV)) from ok a _ e)
 exact ⟨o,its.toArray,n,h1,h2,h3,by simpa using zhj r⟩
theorem zr2 {kvs:List (List Key × V)} (ok:HOk P w H h) (e:Rd H a (.dT kvs)):kvs.length<=sizeLine/\(a == sysModules)=false /\
  ∃ xs,KT H kvs xs/\h.DictOfH (tupleKind (zaR P w)) a xs:=by
 obtain ⟨z,y,xs,r,o,es,ep,h1,h2,h3,h4,h5⟩:=(show zbG P w H h a (.dT kvs) from zqL ok e)
 refine ⟨z,y,xs,r,o,es,ep,h1,h2,h3,h4,fun x hx=>?_,h5⟩
 have all:∀ {l:List (List Key × V)} {m:List (List Key × Addr × Value)},KT H l m->∀ x ∈ m,(tupleKind (zaR P w)).is h x.1 x.2.1:=by
  intro l m q
  induction q with
  | nil=>intro x hx; exact nomatch hx
  | @cons p q ps qs hq t ih =>
   intro x hx
   rcases yO.mp hx with e | hx
   ·subst e
    exact zdC ok (by rw [<- hq.1]; exact hq.2.1)
   ·exact ih x hx
 exact all r x hx
theorem zub {kvs:List (List Key × V)} (ok:HOk P w H h) (e:H a=some (.dT kvs)):kvs.length<=sizeLine/\(a == sysModules)=false /\
  ∃ xs,KT H kvs xs/\h.DictOfH (tupleKind (zaR P w)) a xs:=zr2 ok (.inl e)
end
def zuC (H:Hp) (a:Addr) (y:V) (r:Option V):Prop :=
 (∃ kvs k,Rd H a (.dK kvs)/\y=kV k/\r=zf0 kvs k)\/∃ kvs k b,Rd H a (.dT kvs)/\y=.ref b/\H b=some (.tup (k.map kV))/\r=zf0 kvs k
def zuY (H:Hp) (a:Addr) (y v:V) (H':Hp):Prop :=
 (∃ kvs k,H a=some (.dK kvs)/\y=kV k/\kvs.length<sizeLine/\H'=upd H a (.dK (zgV kvs k v))) \/
 ∃ kvs k b,H a=some (.dT kvs)/\y=.ref b/\H b=some (.tup (k.map kV))/\kvs.length<sizeLine/\H'=upd H a (.dT (zgV kvs k v))
section
variable {X:Cx} {pins:List (Addr × Obj)} {σ:St} {H:Hp} {s:Shared} {a:Addr} {y v:V} {u r:Value} {o:Option V} {A:Around} {E:Value->Shared->Prop}
theorem Inv.big (I:Inv X pins σ H s):sysModules<s.heap.objs.size:=by
 have h:mainGlobals<s.heap.objs.size:=(I.mod.glob.keeps I.bk).lt
 exact Nat.lt_trans (by decide) h
theorem zp3 {Q:Value->Shared->Prop} (hu:A.units+1<cLine) (I:Inv X pins σ H s) (g:zuC H a y o) (ry:zaV y u) (h:∀ s',Inv X pins σ H s'->Q (.bool (!o.isSome)) s') :
  wpAny (model X.prog X.w) A (compareOp .NotIn u (.ref a)) Q E s:=by
 rcases g with ⟨kvs,k,e,ey,l⟩ | ⟨kvs,k,b,e,ey,eb,l⟩
 ·subst ey
  obtain ⟨z,hd,vs,rel,dd⟩:=zr3 I.hok e; refine wpAny_notIn_of (zpL ry) hd dd.mapOf ?_; rw [<- (rel.val k).isSome_eq,<- l]; exact h _ (I.tok _)
 ·subst ey
  cases (show u=Value.ref b from ry)
  obtain ⟨z,hd,xs,rel,dd⟩:=zr2 I.hok e; refine wpAny_notIn_heap (tupleKind_room_in1 hu) (zdC I.hok eb) hd dd ?_; have q:=(rel.val k).isSome_eq; rw [Yi] at q; rw [<- q,<- l]; exact h _ (I.tok _)
theorem zgw {h':Heap} {t':Nat} {ob:HO} (I:Inv X pins σ H s) (mu:Mut (H a)) (hs:Heap.SameBut a s.heap h') (he:∃ q,h'.get? a=some q) (new:zbG X.prog X.w (upd H a ob) h' a ob) :
  Inv X pins σ (upd H a ob) { s with heap:=h',toks:=t' } :=
 I.write (x:=a) (e:=a) mu (.inl rfl) (fun b q hb z=>(hs.2 b hb).trans z) he new
theorem zr4 {P:Program} {w:World} {H':Hp} {h':Heap} {kvs:List (Key × V)} {vs:List (Key × Value)} (z:kvs.length<=sizeLine) (hd:(a == sysModules)=false) (rel:KV kvs vs) (dd:h'.DictOf (zaR P w) a vs) :
  zbG P w H' h' a (.dK kvs):=⟨z,hd,vs,rel,dd⟩
theorem zlE {H':Hp} {Q:Unit->Shared->Prop} (hu:A.units+1<cLine) (I:Inv X pins σ H s) (g:zuY H a y v H') (ry:zaV y u) (rv:zaV v r) (h:∀ s',Inv X pins σ H' s'->Q () s') :
  wpAny (model X.prog X.w) A (setItem (.ref a) u r) Q E s:=by
 rcases g with ⟨kvs,k,e,ey,l,eH⟩ | ⟨kvs,k,b,e,ey,eb,l,eH⟩
 ·subst ey eH
  obtain ⟨z,hd,vs,rel,dd⟩:=zud I.hok e
  have hz:vs.length<=sizeLine:=by rw [<- rel.length]; exact z
  have hl:(zgV kvs k v).length<=sizeLine:=by have:=zdW kvs k v; omega
  refine wpAny_setItem_pairs (hsz:=hz) (zpL ry) dd fun h' dd' hs=>h _ ?_
  have he:∃ q,h'.get? a=some q:=let ⟨q,_,_,hq,_⟩:=dd'; ⟨q,hq⟩
  exact zgw I (by rw [e]; exact True.intro) hs he (zr4 hl hd (rel.put k rv) dd')
 ·subst ey eH
  cases (show u=Value.ref b from ry)
  obtain ⟨z,hd,xs,rel,dd⟩:=zub I.hok e
  have hz:xs.length<=sizeLine:=by rw [<- Paired.length rel]; exact z
  have hl:(zgV kvs k v).length<=sizeLine:=by have:=zdW kvs k v; omega
  refine wpAny_setItem_heap (hsz:=hz) (tupleKind_room_in1 hu) (zdC I.hok eb) dd fun h' dd' hs=>h _ ?_
  obtain ⟨q,es,ep,hq,h2,h3,h4,_,h5⟩:=dd'
  refine zgw I (by rw [e]; exact True.intro) hs ⟨q,hq⟩ ⟨hl,hd,_,(rel.put k eb rv).keeps fun c ys ec=>?_,q,es,ep,hq,h2,h3,h4,h5⟩
  rw [zr (zpx ec e (fun z=>nomatch z))]
  exact ec
end
section
variable {X:Cx} {pins:List (Addr × Obj)} {σ:St} {H:Hp} {s:Shared} {a:Addr} {kvs:List (Key × V)} {k:Key} {u:Value} {A:Around} {E:Value->Shared->Prop}
end
def ztg (td ty tv:TE):TS:=fun D σ H=>tv σ H fun v H1=>td σ H1 fun x H2=>ty σ H2 fun y H3=>∃ a H4,x=.ref a/\zuY H3 a y v H4/\D.nx σ H4
section
variable {X:Cx} {o i e value:Expr} {pos pos' tpos:Pos} {td ty tv:TE}
theorem zoY (hu:X.A.units+1<cLine) (ho:PE X o td) (hi:PE X i ty) (hv:PE X value tv) (hs:swapsWith value (some (.Subscript o i pos')) pos.line X.env=pure false) :
  PS X (.Assign [.Subscript o i pos'] value pos) (ztg td ty tv):=by
 intro pins s σ H D I h
 refine wpAny_Assign_Subscript (thn (hv pins s σ H _ I h) fun r s1 ⟨v,H1,I1,rv,q1⟩=>thn (ho pins s1 σ H1 _ I1 q1) fun u s2 ⟨x,H2,I2,rx,q2⟩=>thn (hi pins s2 σ H2 _ I2 q2) fun iv s3 ⟨y,H3,I3,ry,a,H4,ex,g,q3⟩=>?_) hs
 subst ex
 obtain rfl:u=Value.ref a:=rx
 exact zlE hu I3 g ry rv fun s4 I4=>⟨σ,H4,I4,q3⟩
end
theorem zny {P:Program} {w:World} {H:Hp} (h:Heap) (hb:sysModules<h.objs.size):zbG P w H (h.push { cls:=.type "dict",data:=.dict #[] }) h.objs.size (.dK []) :=
 ⟨yb _,beq_eq_false_iff_ne.mpr (Ne.symm (yU hb)),[],.nil,Heap.DictOf.new h⟩
def zqv:TE:=fun _ H Q=>∀ p,H p=none->Q (.ref p) (upd H p (.dK []))
section
variable {X:Cx} {pos:Pos}
theorem zmO:PE X (.Dict [] [] pos) zqv:=fun pins s σ H Q I h =>
 wpAny_Dict_empty ⟨.ref s.heap.objs.size,_,I.laid (a:=s.heap.objs.size) (o:=.dK []) (t':=s.toks) (fun _ _ q=>yC _ q) (yH _) (zny s.heap I.big),rfl,h _ (I.hok.fresh (yH _))⟩
end
structure M1 (X:Cx) (o:Expr) (m:Str) (apos:Pos) (e:Expr) (cpos:Pos):Prop where
 base:attributeBase o m X.env (eval o X.env)=eval o X.env
 few:((backTo cpos (starEach [e] X.env)).all (fun x=>!x.1) && (backToKw cpos (keywordEach [] X.env)).all (fun x=>x.1.isSome)
  && decide (([e]:List Expr).length+([]:List Keyword).length+(if ([]:List Keyword).isEmpty then 0 else 1)<30))=true
 line:(apos.endLine == cpos.line)=true
 trees:backTo cpos (starEach [e] X.env)=[(false,eval e X.env)]
section
variable {X:Cx} {pins:List (Addr × Obj)} {σ:St} {H:Hp} {s:Shared} {a:Addr} {y d:V} {u r:Value} {o:Option V} {A:Around} {E:Value->Shared->Prop}
end
section
variable {X:Cx} {o e f:Expr} {apos cpos:Pos} {td ty tx:TE}
end
section
variable {X:Cx} {pins:List (Addr × Obj)} {σ:St} {H:Hp} {s:Shared} {a:Addr} {kvs:List (Key × V)} {A:Around} {E:Value->Shared->Prop}
end
section
variable {X:Cx} {pins:List (Addr × Obj)} {σ:St} {H:Hp} {s:Shared} {a:Addr} {y:V} {u:Value} {A:Around} {E:Value->Shared->Prop}
end
end L2
set_option maxHeartbeats 4000000
namespace L2
open PySem PySem.Spec PyProof.Rows
def st (l:List Nat):Str:=⟨l.toArray⟩
theorem zaX (l:List Nat):(st l).cps.toList=l:=by simp [st]
theorem zc9 (l:List Nat):(st l).length=l.length:=by simp [st,Str.length]
theorem zqA (x:Str):x=st x.cps.toList:=by cases x; simp [st]
theorem st_inj {a b:List Nat} (h:st a=st b):a=b:=by
 have e:=yo (fun x:Str=>x.cps.toList) h
 simpa [st] using e
theorem zqB (a b:List Nat):st a ++ st b=st (a ++ b):=by
 show Str.append (st a) (st b)=st (a ++ b)
 unfold Str.append st; simp
theorem zoi (l:List Nat) (c:Nat):(!(Builtin.Str.occurrences (st l) (st [c]) 0 (st l).length 1).isEmpty)=decide (c ∈ l):=by
 have e:=StrLaws.found_one (st l) c; rw [zaX] at e; exact e
theorem zmj (l:List Nat) (n:Nat):Txt.slice (st l) none (some (n:Int))=st (l.take n):=by
 by_cases h:n<=l.length
 ·have q:Txt.slice (st l) none (some (n:Int))=⟨(((st l).cps.toList.drop 0).take ((n:Int)-0).toNat).toArray⟩:=StrLaws.sliceText_to ⟨by omega,by rw [zaX]; omega⟩
  rw [q,zaX]; simp [st]
 ·have e:Txt.slice (st l) none (some (n:Int))=Txt.slice (st l) none (some (l.length:Int)):=by
   unfold Txt.slice
   have z:Builtin.Str.strSliceIndices none (some (n:Int)) 1 (st l).length=Builtin.Str.strSliceIndices none (some (l.length:Int)) 1 (st l).length:=by
    rw [zc9]
    have h0:¬ (n:Int)<0:=by omega
    have h1:¬ ((l.length:Int)<0):=by omega
    have h2:(1:Int) > 0:=by decide
    have h3:min (n:Int) (l.length:Int)=(l.length:Int):=by omega
    simp only [Builtin.Str.strSliceIndices,h0,h1,h2,if_false,if_true,h3,Int.min_self]
   rw [z]
  have q:Txt.slice (st l) none (some (l.length:Int))=⟨(((st l).cps.toList.drop 0).take ((l.length:Int)-0).toNat).toArray⟩:=StrLaws.sliceText_to ⟨by omega,by rw [zaX]; omega⟩
  rw [e,q,zaX,List.take_of_length_le (by omega:l.length<=n)]
  simp [st]
theorem zjj (l:List Nat) (n:Nat):Txt.slice (st l) (some (n:Int)) none=st (l.drop n):=by
 by_cases h:n<=l.length
 ·have q:Txt.slice (st l) (some (n:Int)) none=⟨(((st l).cps.toList.drop (n:Int).toNat).take (((st l).cps.toList.length:Int)-(n:Int)).toNat).toArray⟩:=StrLaws.sliceText_from ⟨by omega,by rw [zaX]; omega⟩
  rw [q,zaX]
  have e1:(n:Int).toNat=n:=by omega
  have e2:((l.length:Int)-(n:Int)).toNat=l.length-n:=by omega
  rw [e1,e2,List.take_of_length_le (by rw [Yp]; omega)]
  rfl
 ·rw [slice_beyond (by rw [zc9]; omega),YM (by omega)]
  rfl
section
variable {X:Cx}
theorem zhG:zcW X (.type "int") (fun xs H Q=>∃ x n,xs=[.str x]/\PySem.intText? x=some n/\x.length<=640/\Q (.int n) H):=by
 intro pins s σ H xs us Q I r h; obtain ⟨x,n,rfl,hn,hl,q⟩:=h; obtain ⟨u,rfl,t,rfl⟩:=zcZ r; exact W.KIN.call_text hn hl ⟨.int n,H,I.tok _,⟨_,rfl⟩,q⟩
def zvh:V->Option Int->Option Int->Hp->VK->Prop:=fun x lo hi H Q=>∃ z,x=.str z/\z.length<=sizeLine/\Q (.str (Txt.slice z lo hi)) H
theorem zqH:SlR X zvh:=by
 intro pins s σ H x v vl vu lo hi sl Q I rx hs pl pu h; obtain ⟨z,rfl,hz,q⟩:=h; obtain ⟨t,rfl⟩:=rx; refine ⟨"str",_,PySem.F.slot_str_getitem.lookup,typeIs_str _ _ _,?_⟩
 have fin:∀ t' k,EP X pins σ Q (.str (Txt.slice z lo hi) t') { s with toks:=k }:=fun t' k=>⟨.str (Txt.slice z lo hi),H,I.tok _,⟨_,rfl⟩,q⟩
 cases pl with
 | none =>
  cases pu with
  | none=>exact wpAny_getItem_str_slice (l:=none) (u:=none) (st:=none) hs rfl (post_val_or_str ⟨yt (Txt.slice_le z _ _) hz,fin⟩)
  | int j u=>exact wpAny_getItem_str_slice (l:=none) (u:=some (j,u)) (st:=none) hs rfl (post_val_or_str ⟨yt (Txt.slice_le z _ _) hz,fin⟩)
 | int i u' =>
  cases pu with
  | none=>exact wpAny_getItem_str_slice (l:=some (i,u')) (u:=none) (st:=none) hs rfl (post_val_or_str ⟨yt (Txt.slice_le z _ _) hz,fin⟩)
  | int j u=>exact wpAny_getItem_str_slice (l:=some (i,u')) (u:=some (j,u)) (st:=none) hs rfl (post_val_or_str ⟨yt (Txt.slice_le z _ _) hz,fin⟩)
end
def zvv:V->V->Bool
 | .int _,.int _=>true
 | .str _,.str _=>true
 | _,_=>false
def zuj:List V->List V->Prop
 | x :: xs,y :: ys=>zvv x y=true/\zuj xs ys
 | _,_=>True
end L2
namespace HT
open PySem PyProof.Rows L2
section
open PySem.SeqAt
open PySem.AutoSeq1 (wpAny_loadPart')
open PySem.MeetsSeq PySem.MeetsSeq2 PySem.MeetsSeq3
end
section
variable {prog:Program} {w:World} {A:Around} {E:Value->Shared->Prop} {s:Shared}
end
end HT
namespace L2
open PySem PySem.Spec PyProof.Rows
section
variable {X:Cx}
end
def Its (l:List Nat):It:=⟨fun i _=>i<l.length,fun i H x H'=>H'=H/\∃ c,l[i]?=some c/\x=.str (st [c]),fun i _=>i=l.length⟩
theorem ziu {P:Program} {w:World} {A:Around} {cls:String} (hA:A.handled=none) (it:Addr) (x:Str) (t:Tok) (hcls:cls="str_ascii_iterator"\/cls="str_iterator"):Walks P w A it [it] [it] x.cps.size (SignAt x) (fun i h=>h.IsStrIter it cls x t i):=by
 rcases hcls with rfl | rfl
 ·exact Walks.strAscii hA it x t
 ·exact Walks.strWide hA it x t
theorem zix {P:Program} {w:World} {K:W.Frag} {tg:Expr} {cls:String} (x:Str) (t:Tok) (it:Addr) (hcls:cls="str_ascii_iterator"\/cls="str_iterator"):Turn P w K tg (Its x.cps.toList) [it] it (fun i h=>h.IsStrIter it cls x t i) where
 mem:=by simp
 obj:=fun i h stt b hb=>by
  have e:b=it:=by simpa using hb
  subst e; obtain ⟨o,e,c,d⟩:=stt
  exact ⟨o,e,fun v z=>by rw [d] at z; cases z⟩
 keep:=fun i h h' stt k=>by
  obtain ⟨o,e,r⟩:=stt
  exact ⟨o,k it (by simp) o e,r⟩
 item:=by
  intro X hP hw hK hc i pins s σ H E I hf stt hg
  subst hP hw hK
  obtain ⟨f0,f1,f2,f3,f4,f5⟩:=hf it (by simp)
  have hg':i<x.cps.toList.length:=hg
  refine (ziu (I.ok.hd hc) it x t hcls).item i s _ _ (by simpa using hg') stt fun v h' tk hv st' kk=>?_
  obtain ⟨c,u,hc',rfl⟩:=hv
  have I1:Inv X pins σ H { s with heap:=h',toks:=tk }:=I.turned (fun b o hb e=>kk b o (by simpa using hb) e) f0 f1 f3 f4 f5
  obtain ⟨o,e,hcl,d⟩:=id st'
  exact ⟨_,rfl,zjT (s:={ s with heap:=h',toks:=tk }) e hcl d (by rcases hcls with rfl | rfl <;> decide) ⟨.str (st [c]),H,I1,⟨u,rfl⟩,⟨rfl,c,by simpa using hc',rfl⟩,st',fun b hb=>(hf b hb).1⟩⟩
 done:=by
  intro X hP hw hK hc i pins s σ H E I hf stt hg
  subst hP hw hK
  obtain ⟨f0,f1,f2,f3,f4,f5⟩:=hf it (by simp)
  have hg':i=x.cps.toList.length:=hg
  subst hg'
  refine (ziu (I.ok.hd hc) it x t hcls).done s _ _ (by simpa using stt) fun h' tk kk=>?_
  exact ⟨rfl,I.turned (fun b o hb e=>kk b o (by simpa using hb) e) f0 f1 f3 f4 f5⟩
 self:=fun A i s Q E stt h=>by
  rcases hcls with rfl | rfl
  ·exact wpAny_pyIter_striter_ascii stt h
  ·exact wpAny_pyIter_striter_wide stt h
section
variable {X:Cx} {tg:Expr}
end
def zdD (cells:List (Str × Addr)):List (Str × NameKind)->List (Str × Addr)->List (Str × Addr)
 | [],acc=>acc
 | (n,k) :: r,acc=>if k == .free then zdD cells r ((n,(cells.lookup n).getD 0) :: acc) else zdD cells r acc
theorem zfX {env:Env}:∀ (l:List (Str × NameKind)) (acc:List (Str × Addr)),(∀ y ∈ l,y.2=.free->∃ c,env.cells.lookup y.1=some c) ->
  (forIn (m:=Sem) l acc fun x r=>if (x.2 == NameKind.free)=true then do let a <- cellOf env x.1; pure (ForInStep.yield ((x.1,a) :: r)) else pure (ForInStep.yield r))=pure (zdD env.cells l acc)
 | [],acc,_=>rfl
 | (n,k) :: r,acc,h=>by
  rw [List.forIn_cons]
  have ih:=fun acc'=>zfX r acc' fun y hy=>h y (yP _ hy)
  by_cases hk:k=.free
  ·subst hk
   obtain ⟨c,hc⟩:=h (n,.free) (yT ..) rfl
   have e:cellOf env n=pure c:=by
    unfold cellOf
    rw [show env.cells.lookup n=some c from hc]
   show ((if ((NameKind.free:NameKind) == NameKind.free)=true then _ else _) >>= _)=_
   rw [yN (by decide),e]
   unfold zdD
   rw [yN (by decide),show env.cells.lookup n=some c from hc]
   exact ih _
  ·have hb:(k == NameKind.free)=false:=by simpa using hk
   show ((if (k == NameKind.free)=true then _ else _) >>= _)=_
   rw [yK (by rw [hb]; decide)]
   unfold zdD
   rw [yK (by rw [hb]; decide)]
   exact ih _
theorem zfW {scope:Scope} {env:Env} (h:∀ y ∈ scope.names,y.2=.free->∃ c,env.cells.lookup y.1=some c):closureFor scope env=pure (zdD env.cells scope.names []):=by
 unfold closureFor; have e:=zfX scope.names [] h
 refine Eq.trans ?_ (yo (fun z=>z >>= fun cs=>(pure cs:Sem (List (Str × Addr)))) e)
 rfl
theorem zem {cells:List (Str × Addr)} {x:Str} {c:Addr}:∀ (l:List (Str × NameKind)) (acc:List (Str × Addr)),(∀ y ∈ l,y.2=.free->∃ c,cells.lookup y.1=some c)->(∀ x c,acc.lookup x=some c->cells.lookup x=some c)->(zdD cells l acc).lookup x=some c->cells.lookup x=some c
 | [],acc,_,ha,h=>ha x c h
 | (n,k) :: r,acc,hl,ha,h=>by
  unfold zdD at h; split at h
  ·rename_i hk
   obtain ⟨c',hc'⟩:=hl (n,k) (yT ..) (by simpa using hk)
   refine zem r _ (fun y hy=>hl y (yP _ hy)) (fun z d hz=>?_) h
   rw [show cells.lookup n=some c' from hc'] at hz
   rw [YF] at hz
   cases hzn:z == n with
   | true =>
    rw [hzn] at hz
    have e1:z=n:=by simpa using hzn
    rw [e1,show cells.lookup n=some c' from hc']
    simpa using hz
   | false =>
    rw [hzn] at hz; exact ha z d hz
  ·exact zem r acc (fun y hy=>hl y (yP _ hy)) ha h
theorem zgz {cells:List (Str × Addr)} {x:Str}:∀ (l:List (Str × NameKind)) (acc:List (Str × Addr)),(∃ c,acc.lookup x=some c)->∃ c,(zdD cells l acc).lookup x=some c
 | [],_,h=>h
 | (n,k) :: r,acc,h=>by
  unfold zdD; split
  ·refine zgz r _ ?_
   rw [YF]; split
   ·exact ⟨_,rfl⟩
   ·exact h
  ·exact zgz r acc h
theorem zgy {cells:List (Str × Addr)} {x:Str}:∀ (l:List (Str × NameKind)) (acc:List (Str × Addr)),(x,NameKind.free) ∈ l->∃ c,(zdD cells l acc).lookup x=some c
 | [],_,h=>yQ h yd
 | (n,k) :: r,acc,h=>by
  unfold zdD
  rcases yO.mp h with e | e
  ·cases e
   rw [yN (by decide)]
   refine zgz r _ ?_; rw [YF,beq_self_eq_true]; exact ⟨_,rfl⟩
  ·split
   ·exact zgy r _ e
   ·exact zgy r _ e
theorem zex {x:Str} {k:NameKind}:∀ {l:List (Str × NameKind)},l.lookup x=some k->(x,k) ∈ l
 | [],h=>by simp at h
 | (n,j) :: r,h=>by
  rw [YF] at h
  cases e:x == n with
  | true =>
   rw [e] at h
   have e1:x=n:=by simpa using e
   have e2:j=k:=by simpa using h
   rw [e1,e2]; exact yT ..
  | false =>
   rw [e] at h; exact yP _ (zex h)
theorem zfK {env:Env} (hk:env.scope.kind=.function) {x:Str} (hx:env.kindOf x=some .cell):∀ {l:List (Str × NameKind)},l.lookup x=some .free ->
  (l.map fun (n,k)=>if (k == NameKind.free && env.scope.kind == .function && env.kindOf n == some .cell) then (n,NameKind.cell) else (n,k)).lookup x=some .cell
 | [],h=>by simp at h
 | (n,k) :: r,h=>by
  rw [YF] at h; rw [yS]
  show List.lookup x ((if (k == NameKind.free && env.scope.kind == .function && env.kindOf n == some .cell)=true then (n,NameKind.cell) else (n,k)) :: _)=_
  cases e:x == n with
  | true =>
   rw [e] at h
   have e1:x=n:=by simpa using e
   have e2:k=.free:=by simpa using h
   subst e1 e2
   have z:((NameKind.free == NameKind.free && env.scope.kind == .function && env.kindOf x == some .cell):Bool)=true:=by rw [hk,hx]; decide
   rw [yN z,YF,beq_self_eq_true]
  | false =>
   rw [e] at h; have ih:=zfK hk hx (l:=r) h
   by_cases z:(k == NameKind.free && env.scope.kind == .function && env.kindOf n == some .cell)=true
   ·rw [yN z,YF,e]
    exact ih
   ·rw [yK z,YF,e]
    exact ih
theorem zfL {env:Env} {x:Str}:∀ {l:List (Str × NameKind)},(∀ y ∈ l,y.2≠.cell)->((l.map fun (n,k)=>if (k == NameKind.free && env.scope.kind == .function && env.kindOf n == some .cell) then (n,NameKind.cell) else (n,k)).lookup x=some .cell \/
  (l.map fun (n,k)=>if (k == NameKind.free && env.scope.kind == .function && env.kindOf n == some .cell) then (n,NameKind.cell) else (n,k)).lookup x=some .free)->(x,NameKind.free) ∈ l
 | [],_,h=>by simp at h
 | (n,k) :: r,hc,h=>by
  have again:∀ (z:(r.map fun (n,k)=>if (k == NameKind.free && env.scope.kind == .function && env.kindOf n == some .cell) then (n,NameKind.cell) else (n,k)).lookup x=some .cell\/(r.map fun (n,k)=>if (k == NameKind.free && env.scope.kind == .function && env.kindOf n == some .cell) then (n,NameKind.cell) else (n,k)).lookup x=some .free),(x,NameKind.free) ∈ (n,k) :: r :=
   fun z=>yP _ (zfL (fun y hy=>hc y (yP _ hy)) z)
  rw [yS] at h
  change List.lookup x ((if (k == NameKind.free && env.scope.kind == .function && env.kindOf n == some .cell)=true then (n,NameKind.cell) else (n,k)) :: _)=some NameKind.cell\/List.lookup x ((if (k == NameKind.free && env.scope.kind == .function && env.kindOf n == some .cell)=true then (n,NameKind.cell) else (n,k)) :: _)=some NameKind.free at h
  by_cases z:(k == NameKind.free && env.scope.kind == .function && env.kindOf n == some .cell)=true
  ·have hk:k=.free:=by
    simp only [Ye,beq_iff_eq] at z; exact z.1.1
   rw [yN z,YF] at h
   cases e:x == n with
   | true =>
    have e1:x=n:=by simpa using e
    rw [e1,hk]; exact yT ..
   | false =>
    rw [e] at h; exact again h
  ·rw [yK z,YF] at h
   cases e:x == n with
   | true =>
    rw [e] at h
    have e1:x=n:=by simpa using e
    rcases h with h | h
    ·exact yQ (by simpa using h) (hc (n,k) (yT ..))
    ·have e2:k=.free:=by simpa using h
     rw [e1,e2]; exact yT ..
   | false =>
    rw [e] at h; exact again h
structure Blk (N N':List Str) (src:List (Option Nat)) (fsc sc:Scope):Prop where
 kind:sc.kind=.function
 cell:∀ y ∈ sc.names,y.2≠.cell
 names:∀ y ∈ sc.names,y.2=.local->sc.names.lookup y.1=some .local
 free:∀ y ∈ sc.names,y.2=.free->fsc.names.lookup y.1=some .cell
 len:src.length=N'.length
 sees:((N'.zip src).all fun y=>match y.2 with | none=>true | some i=>decide (N[i]?=some y.1) && decide (sc.names.lookup y.1=some .free))=true
def zt (src:List (Option Nat)) (σ:St):St:=src.map fun o=>o.bind fun i=>(σ[i]?).join
abbrev blk (X:Cx) (N':List Str) (sc:Scope) (cl:List (Str × Addr)) (C:Addr) (s:Shared) (H:Hp) (fp:List Addr) (pn:List (Addr × Obj)):Cx :=
 { X with N:=N',s₀:=s,H₀:=H,env:=compEnvC sc cl C X.env,outer:=X.stack,ex:=fp,fn:=fun _=>false,pn:=pn }
theorem zop {X:Cx} {N N':List Str} {src:List (Option Nat)} {fsc sc:Scope} {pins:List (Addr × Obj)} {σ:St} {H:Hp} {s:Shared} {fp:List Addr} {h':Heap} {tk:Nat} {m:Str->Option Value} (I:Inv X pins σ H s) (B:Blk N N' src fsc sc) (hN:X.N=N) (hs:X.env.scope=fsc)
  (f2:∀ b ∈ fp,zgD X pins H b) (fb:∀ b ∈ fp,b<s.heap.objs.size) (hn:h'.Ns s.heap.objs.size m) (kp:∀ b o,s.heap.get? b=some o->h'.get? b=some o) :
  Inv (blk X N' sc (zdD X.env.cells sc.names []) s.heap.objs.size s H fp (X.pn ++ pins)) [] (zt src σ) H { s with heap:=h',toks:=tk }:=by
 subst hN hs
 have hfr:∀ y ∈ sc.names,y.2=.free->∃ c,X.env.cells.lookup y.1=some c:=fun y hy e=>I.ok.has y.1 (.inl (B.free y hy e))
 have sub:∀ x c,(zdD X.env.cells sc.names []).lookup x=some c->X.env.cells.lookup x=some c:=fun x c e=>zem sc.names [] hfr (fun _ _ z=>by simp at z) e
 have has:∀ x,(x,NameKind.free) ∈ sc.names->∃ c,(zdD X.env.cells sc.names []).lookup x=some c:=fun x hx=>zgy sc.names [] hx
 have ok:Cx.Ok (blk X N' sc (zdD X.env.cells sc.names []) s.heap.objs.size s H fp (X.pn ++ pins)):=by
  refine ⟨I.ok.mod,B.kind,I.ok.glob,I.ok.blt,yH _,fun x y c e1 e2=>I.ok.inj x y c (sub x c e1) (sub y c e2),fun x hx=>has x (zfL B.cell hx),fun x c e=>(nomatch e),I.ok.hd,I.ok.frames,.inl rfl,fun b hb=>⟨yU (fb b hb),fun x c e=>(f2 b hb).2.2.2.2.1 x c (sub x c e)⟩,
   I.bs,yt I.ok.bsz I.sz,fun b o e hb=>?_,fun b hb z=>?_,I.stack,I.stkFree,I.ok.tab.un I.base.tbls⟩
  ·rcases (f2 b hb).2.2.2.1 with z | z
   ·exact I.ok.noex b o e z
   ·exact yQ (yZ (yM e) (yt I.ok.bsz z)) (Yw _)
  ·rcases yO.mp (I.stkSub b z) with e | e
   ·exact (f2 b hb).2.1 e
   ·exact (f2 b hb).2.2.1 e
 refine ⟨ok,rfl,I.bare,Un.kept kp,⟨m,hn,fun j x v e1 e2 e3=>?_⟩,fun x c e=>?_,I.hok.fresh (yH _),fun x c e=>I.freeC x c (sub x c e),fun p hp=>?_,I.hok.kept kp,?_⟩
 ·have e2':(src[j]?).map (fun o=>o.bind fun i=>(σ[i]?).join)=some (some v):=by
   have z:=e2; unfold zt at z; rw [yE] at z; exact z
  cases hj:src[j]? with
  | none=>rw [hj] at e2'; cases e2'
  | some o =>
   rw [hj] at e2'
   cases o with
   | none=>cases e2'
   | some i =>
    have hσ:σ[i]?=some (some v):=by
     have z:(σ[i]?).join=some v:=by simpa using e2'
     cases hz:σ[i]? with
     | none=>rw [hz] at z; cases z
     | some w=>rw [hz] at z; exact yo some z
    have hz:(x,some i) ∈ N'.zip src:=by
     have q:(N'.zip src)[j]?=some (x,some i):=by
      rw [List.getElem?_zip_eq_some]; exact ⟨e1,hj⟩
     exact yW q
    have q:=Yr.mp B.sees _ hz; simp only [Ye,YX] at q; obtain ⟨q1,q2⟩:=q
    have hkc:X.env.kindOf x=some .cell:=B.free _ (zex q2) rfl
    obtain ⟨m0,_,hl⟩:=I.loc; obtain ⟨u,ru,lk⟩:=hl i x v q1 hσ (.inr (.inl hkc)); refine ⟨u,ru,.inr ⟨.inl (zfK I.ok.kind hkc q2),?_⟩⟩
    rcases lk with ⟨k,_⟩ | ⟨_,c,e,z⟩
    ·rw [hkc] at k; cases k
    ·obtain ⟨c',hc'⟩:=has x (zex q2)
     have e':=sub x c' hc'; rw [e] at e'; cases e'; obtain ⟨o,ho,hd⟩:=z; exact ⟨c,hc',o,kp _ _ ho,hd⟩
 ·obtain ⟨v,o,ho,hd⟩:=I.cell x c (sub x c e)
  exact ⟨v,o,kp _ _ ho,hd⟩
 ·rw [ym] at hp
  obtain ⟨e,n,ne,nf,d⟩:=I.pin p hp
  refine ⟨kp _ _ e,n,yU (yM e),fun z=>?_,d⟩
  rcases yO.mp (I.stkSub p.1 z) with q | q
  ·exact ne q
  ·exact nf q
 ·show (zt src σ).length=N'.length
  unfold zt; rw [yF,B.len]
theorem Un.same {fs ex:List Addr} {H H1:Hp} {h h1 h2:Heap} {a:Addr} (u:Un fs ex H H1 h h1) (hs:Heap.SameBut a h1 h2) (ha:h.objs.size<=a):Un fs ex H H1 h h2:=by
 have ne:∀ b o,h.get? b=some o->b≠a:=fun b o e=>yU (yZ (yM e) ha)
 refine ⟨fun b o e n h1 h2=>?_,fun b o e n h1 h2=>?_,u.free,fun b o e h1=>?_,u.tups,u.frzs,u.tbls⟩
 ·exact (hs.2 b (ne b o e)).trans (u.keep b o e n h1 h2)
 ·obtain ⟨sl,q⟩:=u.slot b o e n h1 h2
  exact ⟨sl,(hs.2 b (ne b o e)).trans q⟩
 ·obtain ⟨o',q⟩:=u.there b o e h1
  exact ⟨o',(hs.2 b (ne b o e)).trans q⟩
theorem HOk.same {P:Program} {w:World} {H:Hp} {h h':Heap} {a:Addr} (x:HOk P w H h) (hs:Heap.SameBut a h h') (ha:H a=none):HOk P w H h':=fun b o e=>by
 refine (x b o e).stay (fun c u hc q=>(hs.2 c ?_).trans q) (fun _ q=>q) fun _ _ q=>q
 rintro rfl
 rcases hc with rfl | hc
 ·rw [ha] at e; cases e
 ·rw [ha] at hc; cases hc
def PTs (X:Cx) (ifs:List Expr) (t:TT):Prop :=
 ∀ (pins:List (Addr × Obj)) (s:Shared) (σ:St) (H:Hp) (Q:Bool->Hp->Prop),Inv X pins σ H s->t σ H Q ->
  wpAny (model X.prog X.w) X.A (forIn ifs true fun c r=>if r=true then do let ok <- isTrue c X.env (eval c X.env); pure (ForInStep.yield ok) else pure (ForInStep.yield r)) (TP X pins σ Q) X.xe s
theorem zoT {X:Cx}:PTs X [] (fun _ H Q=>Q true H):=fun _ _ _ H _ I h=>yG ⟨H,I,h⟩
theorem zoS {X:Cx} {c:Expr} {t:TT} (h:PT X c t):PTs X [c] t:=fun pins s σ H Q I q=>wpAny_tests_one (h pins s σ H Q I q)
theorem zhA {P:Program} {w:World} {A:Around} {R:Result->Shared->Prop} {s:Shared} {elt tg iter:Expr} {ifs:List Expr} {sc:Scope} {pos:Pos} {it acc:Value} {env:Env} (J:Nat->Shared->Prop)
  (turn:∀ k s',J k s'->wpAny (model P w) A (pyNext it) (fun r s1=>match r with
   | none=>R (.ok .next) s1
   | some v=>wpAny (model P w) A (letOwnedTupleGo tg it v) (fun _ s2=>wpAny (model P w) A (assign tg env v) (fun _ s3 =>
     wpAny (model P w) A (forIn ifs true fun c r=>if r=true then do let ok <- isTrue c env (eval c env); pure (ForInStep.yield ok) else pure (ForInStep.yield r)) (fun b s4 =>
      if b=true then wpAny (model P w) A (eval elt env) (fun y s5=>wpAny (model P w) A (call (.builtin "list.append") [acc,y]) (fun _ s6=>∃ m,m<k/\J m s6) (fun _ _=>False) s5) (fun _ _=>False) s4
      else ∃ m,m<k/\J m s4) (fun _ _=>False) s3) (fun _ _=>False) s2) (fun _ _=>False) s1) (fun _ _=>False) s')
  (k:Nat) (h:J k s):codeAny (model P w) A (.compLoop (.ListComp elt [⟨tg,iter,ifs,0⟩] sc pos) 0 it acc env) R s:=by
 have no:∀ {α:Type} {t:Sem α} {Q Q':α->Shared->Prop} {E:Value->Shared->Prop} {z:Shared},wpAny (model P w) A t Q (fun _ _=>False) z->(∀ a z',Q a z'->Q' a z')->wpAny (model P w) A t Q' E z:=fun g1 g2=>YU g1 g2 fun _ _ f=>f.elim
 refine codeAny_loop rfl J (fun k s' hJ=>?_) k h
 show wpAny _ A ((compTurn (.ListComp elt [⟨tg,iter,ifs,0⟩] sc pos) 0 it acc env).onRaise (fun x=>do noteFrame x env; theTreesLotGoes x)) _ _ s'
 refine wpAny_noted ?_; rw [compTurn_list]
 refine yA (wpAny_standAt (yA (no (turn k s' hJ) fun r s1 h1=>?_)))
 cases r with
 | none=>exact yG h1
 | some v =>
  refine yA (no h1 fun _ s2 h2=>yA (no h2 fun _ s3 h3=>yA (no h3 fun b s4 h4=>?_)))
  cases b with
  | false=>exact yG ⟨rfl,h4⟩
  | true=>exact yA (yA (no h4 fun y s5 h5=>yA (no h5 fun _ s6 h6=>yG (yG ⟨rfl,h6⟩))))
def zqx (wi:TI) (src:List (Option Nat)) (g:TG) (tc:TT) (te:TE):TE:=fun σ H Q=>wi σ H fun J H1=>∀ D,H1 D=none->∃ W:Nat->Nat->St->Hp->Prop,(∃ m,W 0 m (zt src σ) (upd H1 D (.lst [])))/\∀ i m σ2 H2,W i m σ2 H2 ->
 (J.stop i H2/\Q (.ref D) H2)\/(J.go i H2/\∃ M:St->Hp->Prop,(∀ σ' H',M σ' H'->∃ m',m'<m/\W (i+1) m' σ' H')/\∀ x H',J.yld i H2 x H'->g x σ2 H' fun σ3 H3=>tc σ3 H3 fun b H4 =>
  if b=true then te σ3 H4 fun y H5=>∃ ys,H5 D=some (.lst ys)/\ys.length<sizeLine/\M σ3 (upd H5 D (.lst (ys ++ [y]))) else M σ3 H4)
theorem zpg {X:Cx} {elt tg iter:Expr} {ifs:List Expr} {sc fsc:Scope} {pos:Pos} {wi:TI} {g:TG} {tc:TT} {te:TE} {N N':List Str} {src:List (Option Nat)} (B:Blk N N' src fsc sc) (hi:PI X tg iter wi)
  (hg:∀ cl C s H fp pn,PG (blk X N' sc cl C s H fp pn) tg g) (ht:∀ cl C s H fp pn,PTs (blk X N' sc cl C s H fp pn) ifs tc) (he:∀ cl C s H fp pn,PE (blk X N' sc cl C s H fp pn) elt te)
  (hx:X.xe=(fun _ _=>False):=by rfl) (hc:X.calm=true:=by rfl) (hN:X.N=N:=by rfl) (hs:X.env.scope=fsc:=by rfl)
  (hf:∀ x,foldedSetIterable iter X.env x=pure x:=by intro _; rfl):PE X (.ListComp elt [⟨tg,iter,ifs,0⟩] sc pos) (zqx wi src g tc te):=by
 intro pins s σ H Q I h; rw [eval_ListComp]
 have hfr:∀ y ∈ sc.names,y.2=.free->∃ c,X.env.cells.lookup y.1=some c:=fun y hy e=>I.ok.has y.1 (.inl (by have:=B.free y hy e; rw [<- hs] at this; exact this))
 refine wpAny_comprehension_free (use:=none) (cl:=zdD X.env.cells sc.names []) rfl hf (zfW hfr) B.kind B.names ?_
 refine thn (hi pins s σ H _ I h) fun v s1 h1=>thn h1 fun itv s2 h2=>?_
 obtain ⟨it,fp,tn,J,H2,e,I2,T,st2,f2,q⟩:=h2; subst e
 obtain ⟨W,⟨m0,w0⟩,turn⟩:=q s2.heap.objs.size (I2.hok.fresh (yH _))
 refine yh (wpAny_newFunctionEnv B.cell (by intro y hy; simp at hy) (fun h1 hns hsb=>?_) B.kind)
 dsimp only at hns hsb ⊢
 have I3:Inv X pins σ (upd H2 s2.heap.objs.size (.lst [])) { s2 with heap:=s2.heap.push { cls:=.type "list",dict:=none,data:=.seq ([]:List Value).toArray } } :=
  I2.laid (t':=s2.toks) (fun b o e=>yC _ e) (yH _) ⟨yb _,[],0,.nil,yI _ rfl⟩
 have fb:∀ b ∈ fp,b<s2.heap.objs.size:=fun b hb=>by
  obtain ⟨o,e,_⟩:=T.obj 0 _ st2 b hb; exact yM e
 have f3:∀ b ∈ fp,zgD X pins (upd H2 s2.heap.objs.size (.lst [])) b:=fun b hb=>by
  refine ⟨?_,(f2 b hb).2⟩; rw [zr (yU (fb b hb))]; exact (f2 b hb).1
 generalize hh3:s2.heap.push { cls:=.type "list",dict:=none,data:=.seq ([]:List Value).toArray }=h3 at hns hsb I3 ⊢
 have z3:s2.heap.objs.size<h3.objs.size:=by rw [<- hh3,YW]; exact Nat.lt_succ_self _
 have k3:∀ b o,h3.get? b=some o->h1.get? b=some o:=fun b o e=>hsb.extBut b o (yU (yM e)) (yC _ e)
 have I4:=zop (tk:=s2.toks+([]:List (Str × Value)).length) I3 B hN hs f3 (fun b hb=>Nat.lt_trans (fb b hb) z3) hns k3
 have st4:tn 0 h1:=T.keep 0 _ _ st2 fun b hb o e=>k3 b o (by rw [<- hh3]; exact yC _ e)
 have fok:∀ {H':Hp},(∀ b ∈ fp,H' b=none)->∀ b ∈ fp,zgD (blk X N' sc (zdD X.env.cells sc.names []) h3.objs.size { s2 with heap:=h3 } (upd H2 s2.heap.objs.size (.lst [])) fp (X.pn ++ pins)) [] H' b:=fun hn b hb=>by
  obtain ⟨_,g1,g2,g3,g4,g5⟩:=f3 b hb
  refine ⟨hn b hb,yU (Nat.lt_trans (fb b hb) z3),fun z=>?_,.inl hb,fun x c e=>g4 x c (zem sc.names [] hfr (fun _ _ z=>by simp at z) e),fun p hp=>g5 p (by rw [ym] at hp; exact hp)⟩
  rcases yO.mp (I3.stkSub b z) with e | e
  ·exact g1 e
  ·exact g2 e
 have loop:∀ s4:Shared,s4={ s2 with heap:=h1,toks:=s2.toks+([]:List (Str × Value)).length } ->
   codeAny (model X.prog X.w) X.A (.compLoop (.ListComp elt [⟨tg,iter,ifs,0⟩] sc pos) 0 (.ref it) (.ref s2.heap.objs.size) (compEnvC sc (zdD X.env.cells sc.names []) h3.objs.size X.env))
    (compPost (model X.prog X.w) X.A X.xe none (EP X pins σ Q) (.ref s2.heap.objs.size) h3.objs.size) s4:=by
  rintro s4 rfl
  refine zhA (fun k s'=>∃ i σ5 H5,Inv (blk X N' sc (zdD X.env.cells sc.names []) h3.objs.size { s2 with heap:=h3 } (upd H2 s2.heap.objs.size (.lst [])) fp (X.pn ++ pins)) [] σ5 H5 s'/\tn i s'.heap/\(∀ b ∈ fp,H5 b=none)/\W i k σ5 H5) ?_ m0
   ⟨0,_,_,I4,st4,fun b hb=>(f3 b hb).1,w0⟩
  rintro k s5 ⟨i,σ5,H5,I5,st5,fr5,w5⟩
  rcases turn i k σ5 H5 w5 with ⟨stop,qd⟩ | ⟨go,M,hM,step⟩
  ·refine thn (T.done (blk X N' sc (zdD X.env.cells sc.names []) h3.objs.size { s2 with heap:=h3 } (upd H2 s2.heap.objs.size (.lst [])) fp (X.pn ++ pins)) rfl rfl rfl hc i [] s5 σ5 H5 _ I5 (fok fr5) st5 stop) fun r s6 ⟨hr,I6⟩=>?_
   subst hr; obtain ⟨m6,hn6,_⟩:=id I6.loc
   refine ⟨m6,hn6,fun h' hsb'=>⟨.ref s2.heap.objs.size,H5,?_,rfl,qd⟩⟩
   exact I3.call' (s':={ s6 with heap:=h' }) (ch:=fp) I6.os (Un.same I6.base hsb' (yH _)) (HOk.same I6.hok hsb' I6.free) I6.bare fun b hb=>⟨(f3 b hb).2.2.2.1,(f3 b hb).2.1,(f3 b hb).2.2.2.2.1,(f3 b hb).2.2.2.2.2⟩
  ·refine thn (T.item (blk X N' sc (zdD X.env.cells sc.names []) h3.objs.size { s2 with heap:=h3 } (upd H2 s2.heap.objs.size (.lst [])) fp (X.pn ++ pins)) rfl rfl rfl hc i [] s5 σ5 H5 _ I5 (fok fr5) st5 go) fun r s6 ⟨u,hr,h6⟩=>?_
   subst hr
   refine thn h6 fun _ s7 ⟨x,H7,I7,r7,y7,st7,fr7⟩=>?_
   have I7':=I7.pinned (fok fr7) (T.obj _ _ st7)
   have back:∀ {σ8:St} {H8:Hp} {s8:Shared},Inv (blk X N' sc (zdD X.env.cells sc.names []) h3.objs.size { s2 with heap:=h3 } (upd H2 s2.heap.objs.size (.lst [])) fp (X.pn ++ pins)) ([] ++ zfN fp s7.heap) σ8 H8 s8->tn (i+1) s8.heap/\∀ b ∈ fp,H8 b=none:=fun {σ8 H8 s8} I8=>by
    have pn8:∀ b ∈ fp,∀ o,s7.heap.get? b=some o->s8.heap.get? b=some o/\H8 b=none:=fun b hb o e=>by
     have q:=I8.pin (b,o) (yc _ (yc _ (zdv hb e))); exact ⟨q.1,q.2.1⟩
    refine ⟨T.keep _ _ _ st7 fun b hb o e=>(pn8 b hb o e).1,fun b hb=>?_⟩
    obtain ⟨o,e,_⟩:=T.obj _ _ st7 b hb; exact (pn8 b hb o e).2
   have xf:∀ {α:Type} {t:Sem α} {Q1 Q2:α->Shared->Prop} {z:Shared},wpAny (model X.prog X.w) X.A t Q1 X.xe z->(∀ a z',Q1 a z'->Q2 a z')->wpAny (model X.prog X.w) X.A t Q2 (fun _ _=>False) z:=fun g1 g2=>by
    rw [hx] at g1; exact thn g1 g2
   refine xf (hg _ _ _ _ _ _ _ s7 σ5 H7 x u _ I7' r7 (step x H7 y7)) fun _ s8 ⟨σ8,H8,I8,q8⟩=>?_
   refine xf (ht _ _ _ _ _ _ _ s8 σ8 H8 _ I8 q8) fun b s9 ⟨H9,I9,q9⟩=>?_
   cases b with
   | false =>
    obtain ⟨m',hm,w'⟩:=hM σ8 H9 (by simpa using q9)
    obtain ⟨g1,g2⟩:=back I9; exact ⟨m',hm,i+1,σ8,H9,I9.unpinned,g1,g2,w'⟩
   | true =>
    rw [yN rfl] at q9 ⊢
    refine xf (he _ _ _ _ _ _ _ s9 σ8 H9 _ I9 q9) fun y s10 ⟨yv,H10,I10,r10,ys,hy,hz,w⟩=>?_
    obtain ⟨m',hm,w'⟩:=hM _ _ w
    refine xf (zef (X:=(blk X N' sc (zdD X.env.cells sc.names []) h3.objs.size { s2 with heap:=h3 } (upd H2 s2.heap.objs.size (.lst [])) fp (X.pn ++ pins))) _ s10 σ8 H10 (.ref s2.heap.objs.size) [yv] _ [y] (fun _ H11=>H11=upd H10 s2.heap.objs.size (.lst (ys ++ [yv]))) I10 rfl (.cons r10 .nil) ⟨_,ys,yv,rfl,rfl,hy,hz,rfl⟩) fun _ s11 ⟨_,H11,I11,_,e11⟩=>?_
    subst e11; obtain ⟨g1,g2⟩:=back I11; exact ⟨m',hm,i+1,σ8,_,I11.unpinned,g1,g2,w'⟩
 exact codeAny_compStart_list (loop _ rfl) (T.self _ 0 _ _ _ st4 (loop _ rfl))
theorem zhy {J:It} {n:Nat} {g:TG} {tc:TT} {te:TE} {Q:VK} {D:Addr} {σ0:St} {H0:Hp} (Pv:Nat->St->Hp->Prop) (h0:Pv 0 σ0 H0)
  (hs:∀ i σ H,i<n->Pv i σ H->J.go i H/\∀ x H',J.yld i H x H'->g x σ H' fun σ3 H3=>tc σ3 H3 fun b H4=>if b=true then te σ3 H4 fun y H5=>∃ ys,H5 D=some (.lst ys)/\ys.length<sizeLine/\Pv (i+1) σ3 (upd H5 D (.lst (ys ++ [y]))) else Pv (i+1) σ3 H4)
  (hd:∀ σ H,Pv n σ H->J.stop n H/\Q (.ref D) H) :
  ∃ W:Nat->Nat->St->Hp->Prop,(∃ m,W 0 m σ0 H0)/\∀ i m σ2 H2,W i m σ2 H2 ->
   (J.stop i H2/\Q (.ref D) H2)\/(J.go i H2/\∃ M:St->Hp->Prop,(∀ σ' H',M σ' H'->∃ m',m'<m/\W (i+1) m' σ' H')/\∀ x H',J.yld i H2 x H'->g x σ2 H' fun σ3 H3=>tc σ3 H3 fun b H4 =>
    if b=true then te σ3 H4 fun y H5=>∃ ys,H5 D=some (.lst ys)/\ys.length<sizeLine/\M σ3 (upd H5 D (.lst (ys ++ [y]))) else M σ3 H4):=by
 refine ⟨fun i m σ H=>m=n-i/\i<=n/\Pv i σ H,⟨n,by simp,yb _,h0⟩,?_⟩
 rintro i m σ2 H2 ⟨rfl,hi,p⟩
 by_cases hlt:i<n
 ·obtain ⟨go,stp⟩:=hs i σ2 H2 hlt p
  exact .inr ⟨go,Pv (i+1),fun σ' H' p'=>⟨n-(i+1),by omega,rfl,hlt,p'⟩,stp⟩
 ·have e:i=n:=by omega
  subst e; exact .inl (hd σ2 H2 p)
end L2
namespace L2
open PySem
def XAt (a C:Addr) (dd:Option Addr):Heap->Prop:=fun h=>∃ vs sl,h.get? a=some ⟨.ref C,dd,.fields vs,sl⟩
end L2
namespace PL
open PySem L2
inductive D where
 | non | bl (b:Bool) | int (i:Int) | str (l:List Nat) | ty (n:String) | rng (lo hi:Int) | cls (C:Addr) | adr (b:Addr)
 | tup (l:List D) | lst (l:List D) | dic (l:List (D × D)) | dit (l:List (D × D)) | obj (C:Addr) (fs:List (Str × D)) | exc (C:Addr) (fs:List (Str × D))
inductive OD where
 | lst (l:List D) | dic (l:List (D × D)) | dit (l:List (D × D)) | obj (C:Addr) (fs:List (Str × D))
def OD.toD:OD->D
 | .lst l=>.lst l
 | .dic l=>.dic l
 | .dit l=>.dit l
 | .obj C fs=>.obj C fs
theorem paired_of {α β:Type} {R:α->β->Prop}:∀ {l:List α} {m:List β},l.length=m.length->(∀ (i:Nat) a b,l[i]?=some a->m[i]?=some b->R a b)->Paired R l m
 | [],[],_,_=>.nil
 | a :: l,b :: m,h,r=>.cons (r 0 a b rfl rfl) (paired_of (by simpa using h) fun i x y hx hy=>r (i+1) x y (by simpa using hx) (by simpa using hy))
 | [],_ :: _,h,_=>by simp at h
 | _ :: _,[],h,_=>by simp at h
theorem paired_get {α β:Type} {R:α->β->Prop}:∀ {l:List α} {m:List β} (i:Nat) {a:α} {b:β},Paired R l m->l[i]?=some a->m[i]?=some b->R a b
 | _,_,_,_,_,.nil,h,_=>by simp at h
 | _,_,0,_,_,.cons r _,h1,h2=>by simp at h1 h2; subst h1; subst h2; exact r
 | _,_,i+1,_,_,.cons _ t,h1,h2=>paired_get i t (by simpa using h1) (by simpa using h2)
theorem zn {α β:Type} {R:α->β->Prop} {l:List α} {m:List β} (h:Paired R l m):l.length=m.length:=Paired.length h
theorem zR {α β:Type} {R:α->β->Prop} {l:List α} {m:List β} (h:Paired R l m) {i:Nat} {b:β} (e:m[i]?=some b):∃ a,l[i]?=some a/\R a b:=by
 have hl:=zn h
 have hi:i<l.length:=by rw [hl]; exact (yD.mp e).1
 exact ⟨l[i],yB hi,paired_get i h (yB hi) e⟩
theorem zcV {α β:Type} {R:α->β->Prop} {l:List α} {m:List β} (h:Paired R l m) {i:Nat} {a:α} (e:l[i]?=some a):∃ b,m[i]?=some b/\R a b:=by
 have hl:=zn h
 have hi:i<m.length:=by rw [<- hl]; exact (yD.mp e).1
 exact ⟨m[i],yB hi,paired_get i h e (yB hi)⟩
theorem zaM {α β:Type} {R:α->β->Prop}:∀ {l l':List α} {m m':List β},Paired R l m->Paired R l' m'->Paired R (l ++ l') (m ++ m')
 | _,_,_,_,.nil,h=>h
 | _,_,_,_,.cons r t,h=>.cons r (zaM t h)
theorem zfb {α β:Type} {R:α->β->Prop}:∀ {l:List α} {m:List β} (n:Nat),Paired R l m->Paired R (l.take n) (m.take n)
 | _,_,0,_=>.nil
 | _,_,_+1,.nil=>.nil
 | _,_,n+1,.cons r t=>.cons r (zfb n t)
theorem zfc {α β:Type} {R:α->β->Prop}:∀ {l:List α} {m:List β} (n:Nat),Paired R l m->Paired R (l.drop n) (m.drop n)
 | _,_,0,h=>h
 | _,_,_+1,.nil=>.nil
 | _,_,n+1,.cons _ t=>zfc n t
def zdY:Key->D
 | .inl i=>.int i
 | .inr x=>.str x.cps.toList
inductive Den (K:W.Frag) (H:Hp):V->D->Prop where
 | non:Den K H .non .non
 | bl (b:Bool):Den K H (.bl b) (.bl b)
 | int (i:Int):Den K H (.int i) (.int i)
 | str (l:List Nat):Den K H (.str (st l)) (.str l)
 | ty (n:String):Den K H (.ty n) (.ty n)
 | rng {a:Addr} {lo hi:Int} (h:Rd H a (.rng lo hi)):Den K H (.ref a) (.rng lo hi)
 | cls (C:Addr):Den K H (.ref C) (.cls C)
 | adr (b:Addr):Den K H (.ref b) (.adr b)
 | tup {a:Addr} {vs:List V} {ds:List D} (h:H a=some (.tup vs)) (l:vs.length=ds.length) (r:∀ (i:Nat) v d,vs[i]?=some v->ds[i]?=some d->Den K H v d):Den K H (.ref a) (.tup ds)
 | lst {a:Addr} {vs:List V} {ds:List D} (h:SqL K H a vs) (l:vs.length=ds.length) (r:∀ (i:Nat) v d,vs[i]?=some v->ds[i]?=some d->Den K H v d):Den K H (.ref a) (.lst ds)
 | dicK {a:Addr} {kvs:List (Key × V)} {ds:List (D × D)} (h:Rd H a (.dK kvs)) (l:kvs.length=ds.length) (r:∀ (i:Nat) p q,kvs[i]?=some p->ds[i]?=some q->q.1=zdY p.1) (r2:∀ (i:Nat) p q,kvs[i]?=some p->ds[i]?=some q->Den K H p.2 q.2):Den K H (.ref a) (.dic ds)
 | dicT {a:Addr} {kvs:List (List Key × V)} {ep:Nat} {ds:List (D × D)} (h:H a=some (.dE kvs ep)) (l:kvs.length=ds.length) (r:∀ (i:Nat) p q,kvs[i]?=some p->ds[i]?=some q->q.1=.tup (p.1.map zdY)) (r2:∀ (i:Nat) p q,kvs[i]?=some p->ds[i]?=some q->Den K H p.2 q.2):Den K H (.ref a) (.dit ds)
 | obj {a C dx:Addr} {fs:List (Str × V)} {ds:List (Str × D)} (h:H a=some (.ins C dx fs)) (l:fs.length=ds.length) (r:∀ (i:Nat) p q,fs[i]?=some p->ds[i]?=some q->q.1=p.1) (r2:∀ (i:Nat) p q,fs[i]?=some p->ds[i]?=some q->Den K H p.2 q.2):Den K H (.ref a) (.obj C ds)
 | excN {a C:Addr} (h:H a=some (.ext (XAt a C none))):Den K H (.ref a) (.exc C [])
 | exc {a C dx:Addr} {fs:List (Str × V)} {ds:List (Str × D)} (h:H a=some (.ext (XAt a C (some dx)))) (h2:H dx=some (.xd fs)) (l:fs.length=ds.length) (r:∀ (i:Nat) p q,fs[i]?=some p->ds[i]?=some q->q.1=p.1) (r2:∀ (i:Nat) p q,fs[i]?=some p->ds[i]?=some q->Den K H p.2 q.2):Den K H (.ref a) (.exc C ds)
abbrev zos (K:W.Frag) (H:Hp):List (Key × V)->List (D × D)->Prop:=Paired fun p q=>q.1=zdY p.1/\Den K H p.2 q.2
abbrev zi8 (K:W.Frag) (H:Hp):List (List Key × V)->List (D × D)->Prop:=Paired fun p q=>q.1=.tup (p.1.map zdY)/\Den K H p.2 q.2
abbrev zj6 (K:W.Frag) (H:Hp):List (Str × V)->List (Str × D)->Prop:=Paired fun p q=>q.1=p.1/\Den K H p.2 q.2
abbrev zbv (K:W.Frag) (H:Hp):List V->List D->Prop:=Paired (Den K H)
section
variable {K:W.Frag} {H H':Hp} {v:V} {a:Addr} {vs:List V} {ds:List D}
theorem zdO {u:HO} (e:zaI H H') (h:Rd H a u):Rd H' a u:=by
 rcases h with h | ⟨o,h⟩
 ·exact .inl (e _ _ h)
 ·exact .inr ⟨o,e _ _ h⟩
theorem zaf (e:zaI H H') (h:SqT K H a vs):SqT K H' a vs:=by
 rcases h with h | h
 ·exact .inl (zdO e h)
 ·exact .inr h
theorem zy (e:zaI H H') (h:SqL K H a vs):SqL K H' a vs:=by
 rcases h with h | h
 ·exact .inl (zdO e h)
 ·exact .inr h
theorem Den.mono {d:D} (h:Den K H v d) (e:zaI H H'):Den K H' v d:=by
 induction h with
 | non=>exact .non
 | bl b=>exact .bl b
 | int i=>exact .int i
 | str l=>exact .str l
 | ty n=>exact .ty n
 | rng h=>exact .rng (zdO e h)
 | cls C=>exact .cls C
 | adr C=>exact .adr C
 | tup h l r ih=>exact .tup (e _ _ h) l ih
 | lst h l r ih=>exact .lst (zy e h) l ih
 | dicK h l r r2 ih=>exact .dicK (zdO e h) l r ih
 | dicT h l r r2 ih=>exact .dicT (e _ _ h) l r ih
 | obj h l r r2 ih=>exact .obj (e _ _ h) l r ih
 | excN h=>exact .excN (e _ _ h)
 | exc h h2 l r r2 ih=>exact .exc (e _ _ h) (e _ _ h2) l r ih
theorem zbv.mono (h:zbv K H vs ds) (e:zaI H H'):zbv K H' vs ds:=Paired.mapP h fun _ _ q=>q.mono e
theorem zos.mono {kvs:List (Key × V)} {es:List (D × D)} (h:zos K H kvs es) (e:zaI H H'):zos K H' kvs es:=Paired.mapP h fun _ _ q=>⟨q.1,q.2.mono e⟩
theorem zi8.mono {kvs:List (List Key × V)} {es:List (D × D)} (h:zi8 K H kvs es) (e:zaI H H'):zi8 K H' kvs es:=Paired.mapP h fun _ _ q=>⟨q.1,q.2.mono e⟩
theorem zj6.mono {fs:List (Str × V)} {es:List (Str × D)} (h:zj6 K H fs es) (e:zaI H H'):zj6 K H' fs es:=Paired.mapP h fun _ _ q=>⟨q.1,q.2.mono e⟩
theorem Den.mkO {C dx:Addr} {fs:List (Str × V)} {es:List (Str × D)} (h:H a=some (.ins C dx fs)) (r:zj6 K H fs es):Den K H (.ref a) (.obj C es):=.obj h (zn r) (fun i _ _ h1 h2=>(paired_get i r h1 h2).1) fun i _ _ h1 h2=>(paired_get i r h1 h2).2
theorem Den.objI {C:Addr} {es:List (Str × D)} (h:Den K H v (.obj C es)):∃ a dx fs,v=.ref a/\H a=some (.ins C dx fs)/\zj6 K H fs es:=by
 cases h with
 | obj h l r r2=>exact ⟨_,_,_,rfl,h,paired_of l fun i p q h1 h2=>⟨r i p q h1 h2,r2 i p q h1 h2⟩⟩
def zvA (K:W.Frag) (H:Hp) (dd:Option Addr) (es:List (Str × D)):Prop:=(dd=none/\es=[])\/∃ dx fs,dd=some dx/\H dx=some (.xd fs)/\zj6 K H fs es
theorem Den.excI {C:Addr} {es:List (Str × D)} (h:Den K H v (.exc C es)):∃ a dd,v=.ref a/\H a=some (.ext (XAt a C dd))/\zvA K H dd es:=by
 cases h with
 | excN h=>exact ⟨_,_,rfl,h,.inl ⟨rfl,rfl⟩⟩
 | exc h h2 l r r2=>exact ⟨_,_,rfl,h,.inr ⟨_,_,rfl,h2,paired_of l fun i p q h1 h2=>⟨r i p q h1 h2,r2 i p q h1 h2⟩⟩⟩
theorem Den.adrI {b:Addr} (h:Den K H v (.adr b)):v=.ref b:=by cases h; rfl
theorem Den.mkDK {kvs:List (Key × V)} {es:List (D × D)} (h:Rd H a (.dK kvs)) (r:zos K H kvs es):Den K H (.ref a) (.dic es):=.dicK h (zn r) (fun i _ _ h1 h2=>(paired_get i r h1 h2).1) fun i _ _ h1 h2=>(paired_get i r h1 h2).2
theorem Den.mkDT {kvs:List (List Key × V)} {ep:Nat} {es:List (D × D)} (h:H a=some (.dE kvs ep)) (r:zi8 K H kvs es):Den K H (.ref a) (.dit es):=.dicT h (zn r) (fun i _ _ h1 h2=>(paired_get i r h1 h2).1) fun i _ _ h1 h2=>(paired_get i r h1 h2).2
theorem Den.dicI {es:List (D × D)} (h:Den K H v (.dic es)):∃ a kvs,v=.ref a/\Rd H a (.dK kvs)/\zos K H kvs es:=by
 cases h with
 | dicK h l r r2=>exact ⟨_,_,rfl,h,paired_of l fun i p q h1 h2=>⟨r i p q h1 h2,r2 i p q h1 h2⟩⟩
theorem Den.ditI {es:List (D × D)} (h:Den K H v (.dit es)):∃ a kvs ep,v=.ref a/\H a=some (.dE kvs ep)/\zi8 K H kvs es:=by
 cases h with
 | dicT h l r r2=>exact ⟨_,_,_,rfl,h,paired_of l fun i p q h1 h2=>⟨r i p q h1 h2,r2 i p q h1 h2⟩⟩
theorem Den.mkT (h:H a=some (.tup vs)) (r:zbv K H vs ds):Den K H (.ref a) (.tup ds):=.tup h (zn r) fun i _ _ h1 h2=>paired_get i r h1 h2
theorem Den.mkL (h:SqL K H a vs) (r:zbv K H vs ds):Den K H (.ref a) (.lst ds):=.lst h (zn r) fun i _ _ h1 h2=>paired_get i r h1 h2
theorem Den.tupJ (h:Den K H v (.tup ds)):∃ a vs,v=.ref a/\H a=some (.tup vs)/\zbv K H vs ds:=by
 cases h with
 | tup h l r=>exact ⟨_,_,rfl,h,paired_of l r⟩
theorem Den.tupI (h:Den K H v (.tup ds)):∃ a vs,v=.ref a/\SqT K H a vs/\zbv K H vs ds:=by
 cases h with
 | tup h l r=>exact ⟨_,_,rfl,SqT.of h,paired_of l r⟩
theorem Den.lstI (h:Den K H v (.lst ds)):∃ a vs,v=.ref a/\SqL K H a vs/\zbv K H vs ds:=by
 cases h with
 | lst h l r=>exact ⟨_,_,rfl,h,paired_of l r⟩
theorem Den.intI {i:Int} (h:Den K H v (.int i)):v=.int i:=by cases h; rfl
theorem Den.blI {b:Bool} (h:Den K H v (.bl b)):v=.bl b:=by cases h; rfl
theorem Den.strI {l:List Nat} (h:Den K H v (.str l)):v=.str (st l):=by cases h; rfl
theorem Den.nonI (h:Den K H v .non):v=.non:=by cases h; rfl
theorem Den.non_iff {d:D} (h:Den K H v d):v=.non↔d=.non:=by cases h <;> simp
end
inductive Slot where
 | emp | val (d:D) | own (o:OD)
 | bk (d:D->D) (b:Addr) (xs:OD)
abbrev Sts:=List Slot
structure Wd where
 H₀:Hp
 Hi₀:Hp
 F:List Addr
def zbM (K:W.Frag) (Hi H:Hp) (a:Addr):OD->Prop
 | .lst ds=>∃ vs,H a=some (.lst vs)/\zbv K Hi vs ds
 | .dic ds=>∃ kvs,H a=some (.dK kvs)/\zos K Hi kvs ds
 | .dit ds=>∃ kvs ep,H a=some (.dE kvs ep)/\zi8 K Hi kvs ds
 | .obj C ds=>∃ dx fs,H a=some (.ins C dx fs)/\zj6 K Hi fs ds
def zoK:Option (Option V)->Option Addr
 | some (some (.ref a))=>some a
 | _=>none
def adr (n:Nat) (W:Wd) (σ:St) (i:Nat):Option Addr:=if i<n then zoK σ[i]? else W.F[i-n]?
structure Free (n:Nat) (W:Wd) (Γ:Sts) (σ:St) (a:Addr):Prop where
 own:∀ (j:Nat) o',Γ[j]?=some (.own o')->adr n W σ j≠some a
 bk:∀ (j:Nat) d xs,Γ[j]?≠some (.bk d a xs)
def Hol (K:W.Frag) (d:D->D):Prop:=∀ (b:Addr) (Hi:Hp) (v:V) (o:OD),Den K Hi (.ref b) o.toD->Den K Hi v (d (.adr b))->Den K Hi v (d o.toD)
structure BkAt (K:W.Frag) (n:Nat) (W:Wd) (Hi:Hp) (Γ:Sts) (σ:St) (H:Hp) (i:Nat) (d:D->D) (b:Addr) (xs:OD):Prop where
 val:∃ v,σ[i]?=some (some v)/\Den K Hi v (d (.adr b))
 hol:Hol K d
 hi:Hi b=none
 h0:b ∉ W.F->W.H₀ b=none
 at_:zbM K Hi H b xs
 one:∀ (j:Nat) d' xs',Γ[j]?=some (.bk d' b xs')->j=i
 ne:∀ (j:Nat) o',Γ[j]?=some (.own o')->adr n W σ j≠some b
structure Fz (Hi H:Hp):Prop where
 sub:zaI Hi H
 tups:∀ a xs,H a=some (.tup xs)->Hi a=some (.tup xs)
structure Good (K:W.Frag) (n:Nat) (W:Wd) (Hi:Hp) (Γ:Sts) (σ:St) (H:Hp):Prop where
 len:σ.length=n
 fz:Fz Hi H
 keep:∀ a o,W.H₀ a=some o->a ∉ W.F->H a=some o
 there:∀ a o,W.H₀ a=some o->∃ o',H a=some o'
 fro:∀ a o,W.H₀ a=some o->Hi a=W.Hi₀ a
 val:∀ (i:Nat) d,Γ[i]?=some (.val d)->∃ v,σ[i]?=some (some v)/\Den K Hi v d
 own:∀ (i:Nat) o,Γ[i]?=some (.own o)->∃ a,adr n W σ i=some a/\Hi a=none/\(i<n->W.H₀ a=none)/\zbM K Hi H a o
 apart:∀ (i j:Nat) o o' a,Γ[i]?=some (.own o)->Γ[j]?=some (.own o')->adr n W σ i=some a->adr n W σ j=some a->i=j
 bk:∀ (i:Nat) d b xs,Γ[i]?=some (.bk d b xs)->BkAt K n W Hi Γ σ H i d b xs
theorem Good.sub {K:W.Frag} {n:Nat} {W:Wd} {Hi:Hp} {Γ:Sts} {σ:St} {H:Hp} (g:Good K n W Hi Γ σ H):zaI Hi H:=g.fz.sub
structure Ext (Hi H Hi' H':Hp):Prop where
 hi:zaI Hi Hi'
 h:zaI H H'
 fz:Fz Hi' H'
 fro:∀ a o,H a=some o->Hi' a=Hi a
theorem Ext.refl {Hi H:Hp} (s:Fz Hi H):Ext Hi H Hi H:=⟨zaI.refl _,zaI.refl _,s,fun _ _ _=>rfl⟩
theorem Ext.trans {A B A1 B1 A2 B2:Hp} (x:Ext A B A1 B1) (y:Ext A1 B1 A2 B2):Ext A B A2 B2 :=
 ⟨x.hi.trans y.hi,x.h.trans y.h,y.fz,fun a o e=>(y.fro a o (x.h a o e)).trans (x.fro a o e)⟩
theorem zW {H:Hp} {p:Addr} (h:H p=none) (o:HO):zaI H (upd H p o):=fun b u q=>by rw [zr (zX q h)]; exact q
theorem Ext.new {Hi H:Hp} {p:Addr} (s:Fz Hi H) (h:H p=none) (o:HO):Ext Hi H (upd Hi p o) (upd H p o):=by
 have hi:Hi p=none:=s.sub.free h
 refine ⟨zW hi o,zW h o,⟨fun b u q=>?_,fun b xs q=>?_⟩,fun b u q=>?_⟩
 ·by_cases e:b=p
  ·subst e; rw [zo] at q ⊢; exact q
  ·rw [zr e] at q ⊢; exact s.sub b u q
 ·by_cases e:b=p
  ·subst e; rw [zo] at q ⊢; exact q
  ·rw [zr e] at q ⊢; exact s.tups b xs q
 ·exact zr (zX q h)
theorem Ext.newO {Hi H:Hp} {p:Addr} (s:Fz Hi H) (h:H p=none) (o:HO) (ho:∀ xs,o≠.tup xs):Ext Hi H Hi (upd H p o) :=
 ⟨zaI.refl _,zW h o,⟨s.sub.trans (zW h o),fun b xs q=>by
  by_cases e:b=p
  ·subst e; rw [zo] at q; exact yQ (Option.some.inj q) (ho xs)
  ·rw [zr e] at q; exact s.tups b xs q⟩,fun _ _ _=>rfl⟩
section
variable {K:W.Frag} {n:Nat} {W:Wd} {Hi Hi' H H':Hp} {Γ:Sts} {σ:St} {a:Addr} {o:OD}
theorem zbM.there (h:zbM K Hi H a o):∃ u,H a=some u:=by
 cases o with
 | lst ds=>obtain ⟨vs,e,_⟩:=h; exact ⟨_,e⟩
 | dic ds=>obtain ⟨kvs,e,_⟩:=h; exact ⟨_,e⟩
 | dit ds=>obtain ⟨kvs,ep,e,_⟩:=h; exact ⟨_,e⟩
 | obj C ds=>obtain ⟨dx,fs,e,_⟩:=h; exact ⟨_,e⟩
theorem zbM.mono (h:zbM K Hi H a o) (hi:zaI Hi Hi') (e:∀ u,H a=some u->H' a=some u):zbM K Hi' H' a o:=by
 cases o with
 | lst ds=>obtain ⟨vs,q,r⟩:=h; exact ⟨vs,e _ q,r.mono hi⟩
 | dic ds=>obtain ⟨kvs,q,r⟩:=h; exact ⟨kvs,e _ q,r.mono hi⟩
 | dit ds=>obtain ⟨kvs,ep,q,r⟩:=h; exact ⟨kvs,ep,e _ q,r.mono hi⟩
 | obj C ds=>obtain ⟨dx,fs,q,r⟩:=h; exact ⟨dx,fs,e _ q,r.mono hi⟩
theorem zbM.notTup (h:zbM K Hi H a o):∀ xs,H a≠some (.tup xs):=fun xs z=>by
 cases o with
 | lst ds=>obtain ⟨vs,e,_⟩:=h; rw [e] at z; cases z
 | dic ds=>obtain ⟨kvs,e,_⟩:=h; rw [e] at z; cases z
 | dit ds=>obtain ⟨kvs,ep,e,_⟩:=h; rw [e] at z; cases z
 | obj C ds=>obtain ⟨dx,fs,e,_⟩:=h; rw [e] at z; cases z
theorem Good.ext (g:Good K n W Hi Γ σ H) (e:Ext Hi H Hi' H'):Good K n W Hi' Γ σ H' where
 len:=g.len
 fz:=e.fz
 keep:=fun a o h n=>e.h a o (g.keep a o h n)
 there:=fun a o h=>by
  obtain ⟨o',q⟩:=g.there a o h; exact ⟨o',e.h a o' q⟩
 fro:=fun a o h=>by
  obtain ⟨o',q⟩:=g.there a o h; exact (e.fro a o' q).trans (g.fro a o h)
 val:=fun i d h=>by
  obtain ⟨v,h1,h2⟩:=g.val i d h; exact ⟨v,h1,h2.mono e.hi⟩
 own:=fun i o h=>by
  obtain ⟨a,h1,h2,h3,h4⟩:=g.own i o h; obtain ⟨u,hu⟩:=h4.there
  exact ⟨a,h1,(e.fro a u hu).trans h2,h3,h4.mono e.hi fun u q=>e.h a u q⟩
 apart:=g.apart
 bk:=fun i d b xs h=>by
  obtain ⟨⟨v,h0,h1⟩,h2,h3,h4,h5,h6,h7⟩:=g.bk i d b xs h
  obtain ⟨u,hu⟩:=h5.there
  exact ⟨⟨v,h0,h1.mono e.hi⟩,h2,(e.fro b u hu).trans h3,h4,h5.mono e.hi fun u q=>e.h b u q,h6,h7⟩
theorem Good.weak (g:Good K n W Hi Γ σ H) {Γ':Sts} (h:∀ (i:Nat) s,Γ'[i]?=some s->s=.emp\/Γ[i]?=some s):Good K n W Hi Γ' σ H where
 len:=g.len
 fz:=g.fz
 keep:=g.keep
 there:=g.there
 fro:=g.fro
 val:=fun i d e=>by
  rcases h i _ e with z | z
  ·cases z
  ·exact g.val i d z
 own:=fun i d e=>by
  rcases h i _ e with z | z
  ·cases z
  ·exact g.own i d z
 apart:=fun i j o o' a e1 e2=>by
  rcases h i _ e1 with z | z
  ·cases z
  ·rcases h j _ e2 with y | y
   ·cases y
   ·exact g.apart i j o o' a z y
 bk:=fun i d b xs e=>by
  rcases h i _ e with z | z
  ·cases z
  ·obtain ⟨h0,h1,h2,h3,h4,h5,h6⟩:=g.bk i d b xs z
   refine ⟨h0,h1,h2,h3,h4,fun j d' xs' q=>?_,fun j o' q=>?_⟩
   ·rcases h j _ q with y | y
    ·cases y
    ·exact h5 j _ _ y
   ·rcases h j _ q with y | y
    ·cases y
    ·exact h6 j o' y
theorem zet {o:Option (Option V)} (h:zoK o=some a):o=some (some (.ref a)):=by
 unfold zoK at h; split at h
 ·cases h; rfl
 ·cases h
theorem Good.set (g:Good K n W Hi Γ σ H) {i:Nat} {v:V} {d:D} (hi:i<n) (r:Den K Hi v d):Good K n W Hi (Γ.set i (.val d)) (σ.set i (some v)) H:=by
 have ad:∀ j,j≠i->adr n W (σ.set i (some v)) j=adr n W σ j:=fun j hj=>by
  unfold adr
  rw [yX (fun z=>hj z.symm)]
 have inv:∀ (j:Nat) (s:Slot),(Γ.set i (.val d))[j]?=some s->(j=i/\s=.val d)\/(j≠i/\Γ[j]?=some s):=fun j s e=>by
  by_cases hj:j=i
  ·subst hj
   refine .inl ⟨rfl,?_⟩; rw [List.getElem?_set] at e; simp only [if_true] at e; split at e
   ·exact (Option.some.inj e).symm
   ·cases e
  ·rw [yX (fun z=>hj z.symm)] at e
   exact .inr ⟨hj,e⟩
 refine ⟨by rw [List.length_set]; exact g.len,g.fz,g.keep,g.there,g.fro,fun j d' e=>?_,fun j o e=>?_,fun j k o o' a e1 e2 h1 h2=>?_,fun j d' b xs e=>?_⟩
 ·rcases inv j _ e with ⟨rfl,z⟩ | ⟨hj,z⟩
  ·cases z
   exact ⟨v,by rw [YE (by rw [g.len]; exact hi)],r⟩
  ·obtain ⟨w,h1,h2⟩:=g.val j d' z
   exact ⟨w,by rw [yX (fun z=>hj z.symm)]; exact h1,h2⟩
 ·rcases inv j _ e with ⟨rfl,z⟩ | ⟨hj,z⟩
  ·cases z
  ·obtain ⟨a,h1,h2⟩:=g.own j o z
   exact ⟨a,by rw [ad j hj]; exact h1,h2⟩
 ·rcases inv j _ e1 with ⟨rfl,z⟩ | ⟨hj,z⟩
  ·cases z
  ·rcases inv k _ e2 with ⟨rfl,y⟩ | ⟨hk,y⟩
   ·cases y
   ·exact g.apart j k o o' a z y (by rw [<- ad j hj]; exact h1) (by rw [<- ad k hk]; exact h2)
 ·rcases inv j _ e with ⟨rfl,z⟩ | ⟨hj,z⟩
  ·cases z
  ·obtain ⟨⟨w,w1,w2⟩,h1,h2,h3,h4,h5,h6⟩:=g.bk j d' b xs z
   refine ⟨⟨w,by rw [yX (fun z=>hj z.symm)]; exact w1,w2⟩,h1,h2,h3,h4,fun k d' xs' q=>?_,fun k o' q=>?_⟩
   ·rcases inv k _ q with ⟨rfl,y⟩ | ⟨hk,y⟩
    ·cases y
    ·exact h5 k _ _ y
   ·rcases inv k _ q with ⟨rfl,y⟩ | ⟨hk,y⟩
    ·cases y
    ·rw [ad k hk]
     exact h6 k o' y
theorem Good.setO (g:Good K n W Hi Γ σ H) {i:Nat} (hi:i<n) (h0:Hi a=none) (h1:W.H₀ a=none) (fr:Free n W Γ σ a) (h3:zbM K Hi H a o):Good K n W Hi (Γ.set i (.own o)) (σ.set i (some (.ref a))) H:=by
 have ad:∀ j,j≠i->adr n W (σ.set i (some (.ref a))) j=adr n W σ j:=fun j hj=>by
  unfold adr
  rw [yX (fun z=>hj z.symm)]
 have ai:adr n W (σ.set i (some (.ref a))) i=some a:=by
  unfold adr
  rw [yN hi,YE (by rw [g.len]; exact hi)]
  rfl
 have inv:∀ (j:Nat) (s:Slot),(Γ.set i (.own o))[j]?=some s->(j=i/\s=.own o)\/(j≠i/\Γ[j]?=some s):=fun j s e=>by
  by_cases hj:j=i
  ·subst hj
   refine .inl ⟨rfl,?_⟩; rw [List.getElem?_set] at e; simp only [if_true] at e; split at e
   ·exact (Option.some.inj e).symm
   ·cases e
  ·rw [yX (fun z=>hj z.symm)] at e
   exact .inr ⟨hj,e⟩
 refine ⟨by rw [List.length_set]; exact g.len,g.fz,g.keep,g.there,g.fro,fun j d' e=>?_,fun j o e=>?_,fun j k o o' b e1 e2 q1 q2=>?_,fun j d' b xs e=>?_⟩
 ·rcases inv j _ e with ⟨rfl,z⟩ | ⟨hj,z⟩
  ·cases z
  ·obtain ⟨w,h1,h2⟩:=g.val j d' z
   exact ⟨w,by rw [yX (fun z=>hj z.symm)]; exact h1,h2⟩
 ·rcases inv j _ e with ⟨rfl,z⟩ | ⟨hj,z⟩
  ·cases z
   exact ⟨a,ai,h0,fun _=>h1,h3⟩
  ·obtain ⟨b,q1,q2⟩:=g.own j o z
   exact ⟨b,by rw [ad j hj]; exact q1,q2⟩
 ·rcases inv j _ e1 with ⟨rfl,z⟩ | ⟨hj,z⟩
  ·rcases inv k _ e2 with ⟨rfl,y⟩ | ⟨hk,y⟩
   ·rfl
   ·rw [ai] at q1
    cases q1; rw [ad k hk] at q2; exact yQ q2 (fr.own k _ y)
  ·rcases inv k _ e2 with ⟨rfl,y⟩ | ⟨hk,y⟩
   ·rw [ai] at q2
    cases q2; rw [ad j hj] at q1; exact yQ q1 (fr.own j _ z)
   ·exact g.apart j k o o' b z y (by rw [<- ad j hj]; exact q1) (by rw [<- ad k hk]; exact q2)
 ·rcases inv j _ e with ⟨rfl,z⟩ | ⟨hj,z⟩
  ·cases z
  ·obtain ⟨⟨w,w1,w2⟩,h1,h2,h3,h4,h5,h6⟩:=g.bk j d' b xs z
   refine ⟨⟨w,by rw [yX (fun z=>hj z.symm)]; exact w1,w2⟩,h1,h2,h3,h4,fun k d' xs' q=>?_,fun k o' q=>?_⟩
   ·rcases inv k _ q with ⟨rfl,y⟩ | ⟨hk,y⟩
    ·cases y
    ·exact h5 k _ _ y
   ·rcases inv k _ q with ⟨rfl,y⟩ | ⟨hk,y⟩
    ·rw [ai]
     intro w; cases w; exact fr.bk j _ _ z
    ·rw [ad k hk]
     exact h6 k o' y
theorem Good.put (g:Good K n W Hi Γ σ H) {i:Nat} {o0:OD} {u:HO} (e0:Γ[i]?=some (.own o0)) (ha:adr n W σ i=some a) (hn:zbM K Hi (upd H a u) a o):Good K n W Hi (Γ.set i (.own o)) σ (upd H a u):=by
 obtain ⟨a',h1,h2,h3,h4⟩:=g.own i _ e0; rw [ha] at h1; cases h1
 have hF:i<n\/a ∈ W.F:=by
  by_cases hi:i<n
  ·exact .inl hi
  ·unfold adr at ha
   rw [yK hi] at ha; exact .inr (yW ha)
 have inv:∀ (j:Nat) (s:Slot),(Γ.set i (.own o))[j]?=some s->(j=i/\s=.own o)\/(j≠i/\Γ[j]?=some s):=fun j s e=>by
  by_cases hj:j=i
  ·subst hj
   refine .inl ⟨rfl,?_⟩; rw [List.getElem?_set] at e; simp only [if_true] at e; split at e
   ·exact (Option.some.inj e).symm
   ·cases e
  ·rw [yX (fun z=>hj z.symm)] at e
   exact .inr ⟨hj,e⟩
 refine ⟨g.len,⟨fun b w q=>?_,fun b xs q=>?_⟩,fun b w q nf=>?_,fun b w q=>?_,g.fro,fun j d' e=>?_,fun j o' e=>?_,fun j k o1 o2 b e1 e2 q1 q2=>?_,fun j d' b xs e=>?_⟩
 ·rw [zr (fun z=>by rw [z,h2] at q; cases q)]
  exact g.sub b w q
 ·by_cases hb:b=a
  ·subst hb
   exact yQ q (hn.notTup xs)
  ·rw [zr hb] at q
   exact g.fz.tups b xs q
 ·have hb:b≠a:=fun z=>by
   subst z
   rcases hF with hi | hf
   ·rw [h3 hi] at q; cases q
   ·exact nf hf
  rw [zr hb]; exact g.keep b w q nf
 ·by_cases hb:b=a
  ·exact ⟨u,by rw [hb,zo]⟩
  ·obtain ⟨w',hw⟩:=g.there b w q
   exact ⟨w',by rw [zr hb]; exact hw⟩
 ·rcases inv j _ e with ⟨rfl,z⟩ | ⟨hj,z⟩
  ·cases z
  ·exact g.val j d' z
 ·rcases inv j _ e with ⟨rfl,z⟩ | ⟨hj,z⟩
  ·cases z
   exact ⟨a,ha,h2,h3,hn⟩
  ·obtain ⟨b,q1,q2,q3,q4⟩:=g.own j o' z
   have hb:b≠a:=fun w=>hj (g.apart j i _ _ a z e0 (by rw [<- w]; exact q1) ha)
   exact ⟨b,q1,q2,q3,q4.mono (zaI.refl _) fun w hw=>by rw [zr hb]; exact hw⟩
 ·have e1':∃ oo,Γ[j]?=some (.own oo):=by
   rcases inv j _ e1 with ⟨rfl,z⟩ | ⟨hj,z⟩
   ·exact ⟨_,e0⟩
   ·exact ⟨_,z⟩
  have e2':∃ oo,Γ[k]?=some (.own oo):=by
   rcases inv k _ e2 with ⟨rfl,z⟩ | ⟨hj,z⟩
   ·exact ⟨_,e0⟩
   ·exact ⟨_,z⟩
  obtain ⟨_,z1⟩:=e1'; obtain ⟨_,z2⟩:=e2'; exact g.apart j k _ _ b z1 z2 q1 q2
 ·rcases inv j _ e with ⟨rfl,z⟩ | ⟨hj,z⟩
  ·cases z
  ·obtain ⟨p0,p1,p2,p3,p4,p5,p6⟩:=g.bk j d' b xs z
   have hb:b≠a:=fun w=>p6 i _ e0 (by rw [w]; exact ha)
   refine ⟨p0,p1,p2,p3,p4.mono (zaI.refl _) fun w hw=>by rw [zr hb]; exact hw,fun k d' xs' q=>?_,fun k o' q=>?_⟩
   ·rcases inv k _ q with ⟨rfl,y⟩ | ⟨hk,y⟩
    ·cases y
    ·exact p5 k _ _ y
   ·rcases inv k _ q with ⟨rfl,y⟩ | ⟨hk,y⟩
    ·exact p6 k _ e0
    ·exact p6 k o' y
theorem Good.freezeA (g:Good K n W Hi Γ σ H) (h0:Hi a=none) (h1:W.H₀ a=none) (fr:Free n W Γ σ a) {u:HO} (hu:H a=some u):Good K n W (upd Hi a u) Γ σ H:=by
 have hs:zaI Hi (upd Hi a u):=zW h0 u
 refine ⟨g.len,⟨fun b w q=>?_,fun b xs q=>?_⟩,g.keep,g.there,fun b w q=>?_,fun j d' e=>?_,fun j o' e=>?_,g.apart,fun j d' b xs e=>?_⟩
 ·by_cases hb:b=a
  ·subst hb; rw [zo] at q; cases q; exact hu
  ·rw [zr hb] at q; exact g.sub b w q
 ·have hb:b≠a:=fun z=>by
   have:=g.fz.tups b xs q
   rw [z,h0] at this; cases this
  rw [zr hb]; exact g.fz.tups b xs q
 ·have hb:b≠a:=fun z=>by subst z; rw [h1] at q; cases q
  rw [zr hb]; exact g.fro b w q
 ·obtain ⟨w,q1,q2⟩:=g.val j d' e
  exact ⟨w,q1,q2.mono hs⟩
 ·obtain ⟨b,q1,q2,q3,q4⟩:=g.own j o' e
  have hb:b≠a:=fun z=>fr.own j o' e (by rw [<- z]; exact q1)
  exact ⟨b,q1,by rw [zr hb]; exact q2,q3,q4.mono hs fun _ z=>z⟩
 ·obtain ⟨⟨w,w1,w2⟩,p1,p2,p3,p4,p5,p6⟩:=g.bk j d' b xs e
  have hb:b≠a:=fun z=>fr.bk j _ _ (by rw [<- z]; exact e)
  exact ⟨⟨w,w1,w2.mono hs⟩,p1,by rw [zr hb]; exact p2,p3,p4.mono hs fun _ z=>z,p5,p6⟩
theorem zbM.den (h:zbM K Hi H a o) (h0:Hi a=none) {u:HO} (hu:H a=some u):Den K (upd Hi a u) (.ref a) o.toD:=by
 cases o with
 | lst ds =>
  obtain ⟨vs,q,r⟩:=h; rw [hu] at q; cases q; exact Den.mkL (SqL.of zo) (r.mono (zW h0 _))
 | dic ds =>
  obtain ⟨kvs,q,r⟩:=h; rw [hu] at q; cases q; exact Den.mkDK (.inl zo) (r.mono (zW h0 _))
 | dit ds =>
  obtain ⟨kvs,ep,q,r⟩:=h; rw [hu] at q; cases q; exact Den.mkDT zo (r.mono (zW h0 _))
 | obj C ds =>
  obtain ⟨dx,fs,q,r⟩:=h; rw [hu] at q; cases q; exact Den.mkO zo (r.mono (zW h0 _))
end
abbrev TE':=Sts->(D->Sts->Prop)->Prop
abbrev TT':=Sts->(Bool->Sts->Prop)->Prop
abbrev TA':=Sts->(List D->Sts->Prop)->Prop
abbrev TO':=Sts->(OD->Sts->Prop)->Prop
abbrev TI':=Sts->(List D->Sts->Prop)->Prop
abbrev TG':=D->Sts->(Sts->Prop)->Prop
inductive Res where
 | val (d:D) | own (o:OD)
 | bk (d:D->D) (o:OD)
def Res.toD:Res->D
 | .val d=>d
 | .own o=>o.toD
 | .bk d o=>d o.toD
structure Ends' where
 nx:Sts->Prop
 rt:Res->Sts->Prop
 bk:Sts->Prop:=fun _=>False
 ct:Sts->Prop:=fun _=>False
abbrev TS':=Ends'->Sts->Prop
def zux (K:W.Frag) (n:Nat) (W:Wd) (Hi:Hp) (σ:St) (Q:D->Sts->Prop):VK:=fun v H'=>∃ Hi' d Γ',zaI Hi Hi'/\Good K n W Hi' Γ' σ H'/\Den K Hi' v d/\Q d Γ'
def tOf (K:W.Frag) (n:Nat) (t:TE'):TE:=fun σ H Q2=>∃ W Hi Γ Q,Good K n W Hi Γ σ H/\t Γ Q/\∀ v H',zux K n W Hi σ Q v H'->Q2 v H'
def zqe (K:W.Frag) (n:Nat) (t:TT'):TT:=fun σ H Q2=>∃ W Hi Γ Q,Good K n W Hi Γ σ H/\t Γ Q/\∀ b H' Hi' Γ',zaI Hi Hi'->Good K n W Hi' Γ' σ H'->Q b Γ'->Q2 b H'
def zsZ (K:W.Frag) (n:Nat) (t:TA'):TA:=fun σ H Q2=>∃ W Hi Γ Q,Good K n W Hi Γ σ H/\t Γ Q/\∀ vs H' Hi' Γ' ds,zaI Hi Hi'->Good K n W Hi' Γ' σ H'->zbv K Hi' vs ds->Q ds Γ'->Q2 vs H'
structure New (K:W.Frag) (n:Nat) (W:Wd) (Hi:Hp) (Γ:Sts) (σ:St) (H:Hp) (a:Addr) (o:OD):Prop where
 hi:Hi a=none
 h0:W.H₀ a=none
 ne:Free n W Γ σ a
 own:zbM K Hi H a o
def oOf (K:W.Frag) (n:Nat) (t:TO'):TE:=fun σ H Q2=>∃ W Hi Γ Q,Good K n W Hi Γ σ H/\t Γ Q/\∀ a H' Hi' Γ' o,zaI Hi Hi'->Good K n W Hi' Γ' σ H'->New K n W Hi' Γ' σ H' a o->Q o Γ'->Q2 (.ref a) H'
def gOf (K:W.Frag) (n:Nat) (g:TG'):TG:=fun v σ H Q2=>∃ W Hi Γ d Q,Good K n W Hi Γ σ H/\Den K Hi v d/\g d Γ Q/\∀ σ' H' Hi' Γ',zaI Hi Hi'->Good K n W Hi' Γ' σ' H'->Q Γ'->Q2 σ' H'
def zsg (K:W.Frag) (H₀ Hi H:Hp) (v:V):Res->Prop
 | .val d=>Den K Hi v d
 | .own o=>∃ a,v=.ref a/\Hi a=none/\H₀ a=none/\zbM K Hi H a o
 | .bk d o=>∃ b,Den K Hi v (d (.adr b))/\Hol K d/\Hi b=none/\H₀ b=none/\zbM K Hi H b o
structure Lifts (K:W.Frag) (n:Nat) (W:Wd) (Hi:Hp) (N:Ends') (N2:Ends):Prop where
 nx:∀ σ' H' Hi' Γ',zaI Hi Hi'->Good K n W Hi' Γ' σ' H'->N.nx Γ'->N2.nx σ' H'
 bk:∀ σ' H' Hi' Γ',zaI Hi Hi'->Good K n W Hi' Γ' σ' H'->N.bk Γ'->N2.bk σ' H'
 ct:∀ σ' H' Hi' Γ',zaI Hi Hi'->Good K n W Hi' Γ' σ' H'->N.ct Γ'->N2.ct σ' H'
 rt:∀ v σ' H' Hi' Γ' r,zaI Hi Hi'->Good K n W Hi' Γ' σ' H'->zsg K W.H₀ Hi' H' v r->N.rt r Γ'->N2.rt v H'
theorem Lifts.mono {K:W.Frag} {n:Nat} {W:Wd} {Hi Hi':Hp} {N:Ends'} {N2:Ends} (l:Lifts K n W Hi N N2) (s:zaI Hi Hi'):Lifts K n W Hi' N N2 :=
 ⟨fun σ' H' Hi2 Γ' e=>l.nx σ' H' Hi2 Γ' (s.trans e),fun σ' H' Hi2 Γ' e=>l.bk σ' H' Hi2 Γ' (s.trans e),fun σ' H' Hi2 Γ' e=>l.ct σ' H' Hi2 Γ' (s.trans e),fun v σ' H' Hi2 Γ' r e=>l.rt v σ' H' Hi2 Γ' r (s.trans e)⟩
def sOf (K:W.Frag) (n:Nat) (t:TS'):TS:=fun N2 σ H=>∃ W Hi Γ N,Good K n W Hi Γ σ H/\t N Γ/\Lifts K n W Hi N N2
def ItD (K:W.Frag) (Hi:Hp) (J:It) (ds:List D):Prop:=∀ Hi' H',zaI Hi Hi'->Fz Hi' H' ->
 (∀ (i:Nat) d,ds[i]?=some d->J.go i H'/\∀ x H'',J.yld i H' x H''->∃ Hi'',Ext Hi' H' Hi'' H''/\Den K Hi'' x d)/\J.stop ds.length H'
def iOf (K:W.Frag) (n:Nat) (t:TI'):TI:=fun σ H R=>∃ W Hi Γ Q,Good K n W Hi Γ σ H/\t Γ Q/\∀ J H' Hi' Γ' ds,zaI Hi Hi'->Good K n W Hi' Γ' σ H'->ItD K Hi' J ds->Q ds Γ'->R J H'
structure PE' (X:Cx) (e:Expr) (t:TE'):Prop where
 h:PE X e (tOf X.K X.N.length t)
structure PO' (X:Cx) (e:Expr) (t:TO'):Prop where
 h:PE X e (oOf X.K X.N.length t)
structure PT' (X:Cx) (e:Expr) (t:TT'):Prop where
 h:PT X e (zqe X.K X.N.length t)
structure PW' (X:Cx) (e:Expr) (t:TT'):Prop where
 h:PW X e (zqe X.K X.N.length t)
def zeK:Expr->Bool
 | .Starred _ _=>true
 | _=>false
def zbR:List Expr->Bool
 | []=>true
 | e :: es=>!zeK e && zbR es
theorem zP {e:Expr} {es:List Expr} {env:Env} (h:zeK e=false):starEach (e :: es) env=(false,eval e env) :: starEach es env:=by
 cases e <;> first | rfl | (exact yQ (show true=false from h) Bool.noConfusion)
theorem zaa {pos:Pos} {env:Env}:∀ {es:List Expr},zbR es=true->(backTo pos (starEach es env)).any (·.1)=false
 | [],_=>rfl
 | e :: es,h=>by
  have h1:zeK e=false/\zbR es=true:=by
   unfold zbR at h
   simpa using h
  rw [zP h1.1]
  show (false || (backTo pos (starEach es env)).any (·.1))=false
  rw [zaa h1.2]; rfl
theorem zB {e:Expr} {es:List Expr} (h:zbR (e :: es)=true):zeK e=false/\zbR es=true:=by
 unfold zbR at h
 simpa using h
structure PA' (X:Cx) (es:List Expr) (t:TA'):Prop where
 pa:PA X es (zsZ X.K X.N.length t)
 pl:zbR es=true
structure PS' (X:Cx) (s:Stmt) (t:TS'):Prop where
 h:PS X s (sOf X.K X.N.length t)
structure PSs' (X:Cx) (s:List Stmt) (t:TS'):Prop where
 h:PSs X s (sOf X.K X.N.length t)
structure PG' (X:Cx) (tg:Expr) (g:TG'):Prop where
 h:PG X tg (gOf X.K X.N.length g)
structure PI' (X:Cx) (tg iter:Expr) (t:TI'):Prop where
 h:PI X tg iter (iOf X.K X.N.length t)
section
variable {X:Cx}
theorem PE.weak {e:Expr} {t t2:TE} (h:PE X e t) (w:∀ σ H Q,t2 σ H Q->t σ H Q):PE X e t2:=fun pins s σ H Q I q=>h pins s σ H Q I (w _ _ _ q)
theorem PT.weak {e:Expr} {t t2:TT} (h:PT X e t) (w:∀ σ H Q,t2 σ H Q->t σ H Q):PT X e t2:=fun pins s σ H Q I q=>h pins s σ H Q I (w _ _ _ q)
theorem PW.weak {e:Expr} {t t2:TT} (h:PW X e t) (w:∀ σ H Q,t2 σ H Q->t σ H Q):PW X e t2:=fun wh pins s σ H Q I q=>h wh pins s σ H Q I (w _ _ _ q)
theorem PA.weak {es:List Expr} {t t2:TA} (h:PA X es t) (w:∀ σ H Q,t2 σ H Q->t σ H Q):PA X es t2:=fun pos pins s σ H Q I q=>h pos pins s σ H Q I (w _ _ _ q)
theorem PS.weak {st:Stmt} {t t2:TS} (h:PS X st t) (w:∀ N σ H,t2 N σ H->t N σ H):PS X st t2:=fun pins s σ H N I q=>h pins s σ H N I (w _ _ _ q)
theorem PSs.weak {st:List Stmt} {t t2:TS} (h:PSs X st t) (w:∀ N σ H,t2 N σ H->t N σ H):PSs X st t2:=fun pins s σ H N I q=>h pins s σ H N I (w _ _ _ q)
theorem PG.weak {tg:Expr} {t t2:TG} (h:PG X tg t) (w:∀ v σ H Q,t2 v σ H Q->t v σ H Q):PG X tg t2:=fun pins s σ H v u Q I r q=>h pins s σ H v u Q I r (w _ _ _ _ q)
theorem PI.weak {tg iter:Expr} {t t2:TI} (h:PI X tg iter t) (w:∀ σ H Q,t2 σ H Q->t σ H Q):PI X tg iter t2:=fun pins s σ H Q I q=>h pins s σ H Q I (w _ _ _ q)
def zaT (i:Nat):TE':=fun Γ Q=>∃ d,Γ[i]?=some (.val d)/\Q d Γ
def tC' (d:D):TE':=fun Γ Q=>Q d Γ
theorem pv' (i:Nat) {x:Str} {pos:Pos} (hN:X.N[i]?=some x:=by rfl) (hv:Vis X.env.scope x:=by first | exact YJ rfl | exact yr (YJ rfl) | exact yr (yr rfl)) (hd:(x == ("__debug__":Str))=false:=by decide)
  (hcd:(x == ("__classdict__":Str))=false:=by decide):PE' X (.Name x pos) (zaT i):=by
 refine ⟨PE.weak (zcj (i:=i) hN hv hd hcd) ?_⟩
 rintro σ H Q ⟨W,Hi,Γ,Q',g,⟨d,e,q⟩,fin⟩
 obtain ⟨v,h1,h2⟩:=g.val i d e; exact ⟨v,h1,fin v H ⟨Hi,d,Γ,zaI.refl _,g,h2,q⟩⟩
theorem zh6 {e:Expr} {v:V} {d:D} (h:PE X e (tC v)) (r:∀ Hi,Den X.K Hi v d):PE' X e (tC' d):=by
 refine ⟨PE.weak h ?_⟩
 rintro σ H Q ⟨W,Hi,Γ,Q',g,q,fin⟩
 exact fin v H ⟨Hi,d,Γ,zaI.refl _,g,r Hi,q⟩
theorem zi {i j pos}:PE' X (.Constant (.int i) j pos) (tC' (.int i)):=zh6 zkV fun _=>.int i
theorem zeb {b j pos}:PE' X (.Constant (.bool b) j pos) (tC' (.bl b)):=zh6 ztz fun _=>.bl b
theorem zck {j pos}:PE' X (.Constant .none j pos) (tC' .non):=zh6 zrf fun _=>.non
theorem zaF (l:List Nat) {x j pos} (h:x=st l:=by decide +kernel):PE' X (.Constant (.str x) j pos) (tC' (.str l)):=by
 subst h
 exact zh6 zrb fun _=>.str l
theorem zpc {x:Str} {v:V} {u:Value} {d:D} {pos:Pos} (hm:X.mg x=some u) (r:zaV v u) (rd:∀ Hi,Den X.K Hi v d) (hg:Gl X x:=by rfl) (hd:(x == ("__debug__":Str))=false:=by decide):PE' X (.Name x pos) (tC' d):=zh6 (zpb hg hm r hd) rd
theorem zrj {x:Str} {l:List Nat} {t:Tok} {pos:Pos} (hm:X.mg x=some (.str (st l) t)) (hg:Gl X x:=by rfl) (hd:(x == ("__debug__":Str))=false:=by decide):PE' X (.Name x pos) (tC' (.str l)):=zpc (v:=.str (st l)) hm ⟨_,rfl⟩ (fun _=>.str l) hg hd
theorem zrk {x:Str} {i:Int} {t:Tok} {pos:Pos} (hm:X.mg x=some (.int i t)) (hg:Gl X x:=by rfl) (hd:(x == ("__debug__":Str))=false:=by decide):PE' X (.Name x pos) (tC' (.int i)):=zpc (v:=.int i) hm ⟨_,rfl⟩ (fun _=>.int i) hg hd
theorem zgW {x:Str} {c:String} {pos:Pos} (hm:X.mg x=none) (hv:bootBuiltins x=some (.type c)) (hg:Gl X x:=by rfl) (hn:x≠"__name__":=by decide) (hd:(x == ("__debug__":Str))=false:=by decide):PE' X (.Name x pos) (tC' (.ty c)) :=
 zh6 (zpi (v:=.ty c) hg hm hv rfl hn hd) fun _=>.ty c
def zbB (t:TO'):TE':=fun Γ Q=>t Γ fun o Γ1=>Q o.toD Γ1
theorem zcs {e:Expr} {t:TO'} (h:PO' X e t):PE' X e (zbB t):=by
 refine ⟨PE.weak h.h ?_⟩
 rintro σ H Q ⟨W,Hi,Γ,Q',g,q,fin⟩
 refine ⟨W,Hi,Γ,_,g,q,?_⟩; intro a H' Hi' Γ' o s1 g1 nw q1; obtain ⟨u,hu⟩:=nw.own.there; exact fin _ _ ⟨upd Hi' a u,_,Γ',s1.trans (zW nw.hi u),g1.freezeA nw.hi nw.h0 nw.ne hu,nw.own.den nw.hi hu,q1⟩
abbrev R2':=D->D->(D->Prop)->Prop
def zhL (K:W.Frag) (r:R2) (r':R2'):Prop:=∀ (Hi H:Hp) (x y:V) (dx dy:D) (Q:D->Prop) (Q2:VK),Fz Hi H->Den K Hi x dx->Den K Hi y dy->r' dx dy Q->(∀ Hi' H' v d,Ext Hi H Hi' H'->Den K Hi' v d->Q d->Q2 v H')->r x y H Q2
def zcA (r:R2') (ta tb:TE'):TE':=fun Γ Q=>ta Γ fun x Γ1=>tb Γ1 fun y Γ2=>r x y fun d=>Q d Γ2
theorem ziy {K:W.Frag} {n:Nat} {r:R2} {r':R2'} {ta tb:TE'} {σ:St} {H:Hp} {Q:VK} (l:zhL K r r') (h:tOf K n (zcA r' ta tb) σ H Q):tOp r (tOf K n ta) (tOf K n tb) σ H Q:=by
 obtain ⟨W,Hi,Γ,Q',g,h,fin⟩:=h; refine ⟨W,Hi,Γ,_,g,h,?_⟩
 rintro x H1 ⟨Hi1,dx,Γ1,s1,g1,den1,h1⟩
 refine ⟨W,Hi1,Γ1,_,g1,h1,?_⟩
 rintro y H2 ⟨Hi2,dy,Γ2,s2,g2,den2,h2⟩
 refine l Hi2 H2 x y dx dy _ _ g2.fz (den1.mono s2) den2 h2 ?_
 rintro Hi3 H3 v d e den q
 exact fin v H3 ⟨Hi3,d,Γ2,s1.trans (s2.trans e.hi),g2.ext e,den,q⟩
structure Op2 (X:Cx) (f:Value->Value->Sem Value) (r':R2'):Prop where
 ex:∃ r,OpR X f r/\zhL X.K r r'
theorem Op2.or {f:Value->Value->Sem Value} {r r':R2'} (h:Op2 X f r) (h':Op2 X f r'):Op2 X f (fun x y Q=>r x y Q\/r' x y Q):=by
 obtain ⟨a,ha,la⟩:=h.ex; obtain ⟨b,hb,lb⟩:=h'.ex
 refine ⟨_,ha.or hb,fun Hi H x y dx dy Q Q2 s d1 d2 q fin=>?_⟩
 rcases q with q | q
 ·exact .inl (la Hi H x y dx dy Q Q2 s d1 d2 q fin)
 ·exact .inr (lb Hi H x y dx dy Q Q2 s d1 d2 q fin)
theorem zv {a b:Expr} {op:Operator} {r':R2'} {ta tb:TE'} {pos:Pos} (h:Op2 X (binaryOp op) r') (ha:PE' X a ta) (hb:PE' X b tb):PE' X (.BinOp a op b pos) (zcA r' ta tb):=by
 obtain ⟨r,ho,l⟩:=h.ex
 exact ⟨PE.weak (zrc ho ha.h hb.h) fun σ H Q q=>ziy l q⟩
theorem zca {a b:Expr} {op:CmpOp} {r':R2'} {ta tb:TE'} {pos:Pos} (h:Op2 X (compareOp op) r') (ha:PE' X a ta) (hb:PE' X b tb) (hm:behindInMarks op b=false:=by first | exact znY _ | rfl):PE' X (.Compare a [op] [b] pos) (zcA r' ta tb):=by
 obtain ⟨r,ho,l⟩:=h.ex
 exact ⟨PE.weak (zph ho ha.h hb.h hm) fun σ H Q q=>ziy l q⟩
def tB' (t:TE'):TT':=fun Γ Q=>t Γ fun d Γ1=>∃ b,d=.bl b/\Q b Γ1
theorem zqy {K:W.Frag} {n:Nat} {t:TE'} {σ:St} {H:Hp} {Q:Bool->Hp->Prop} (h:zqe K n (tB' t) σ H Q):tOf K n t σ H fun x H1=>∃ c,x=.bl c/\Q c H1:=by
 obtain ⟨W,Hi,Γ,Q',g,h,fin⟩:=h; refine ⟨W,Hi,Γ,_,g,h,?_⟩
 rintro x H1 ⟨Hi1,dx,Γ1,s1,g1,den1,b,rfl,h1⟩
 exact ⟨b,den1.blI,fin b H1 Hi1 Γ1 s1 g1 h1⟩
theorem zcw {e:Expr} {t:TE'} (h:PE' X e t) (he:∀ whole,isTrue e X.env whole=(do let v <- whole; standAt e.pos; holding [v] (truthy v)):=by intro _; rfl):PT' X e (tB' t) :=
 ⟨PT.weak (zq0 h.h he) fun σ H Q q=>zqy q⟩
theorem zx {a b:Expr} {op:CmpOp} {r':R2'} {ta tb:TE'} {pos:Pos} (h:Op2 X (compareOp op) r') (ha:PE' X a ta) (hb:PE' X b tb) (hm:behindInMarks op b=false:=by first | exact znY _ | rfl):PT' X (.Compare a [op] [b] pos) (tB' (zcA r' ta tb)):=by
 obtain ⟨r,ho,l⟩:=h.ex
 exact ⟨PT.weak (zoU ho ha.h hb.h hm) fun σ H Q q=>ziy l (zqy q)⟩
def zbn (t u:TT'):TT':=fun Γ Q=>t Γ fun c Γ1=>if c=true then u Γ1 Q else Q false Γ1
def zc6 (t u:TT'):TT':=fun Γ Q=>t Γ fun c Γ1=>if c=true then Q true Γ1 else u Γ1 Q
def zbe (t:TT'):TT':=fun Γ Q=>t Γ fun c Γ1=>Q (!c) Γ1
variable {a b c:Expr} {tA tB2:TT'} {zd1:List Expr} {pos:Pos} {ta tb:TE'}
theorem zcR (ha:PT' X a tA):PW' X (.BoolOp .And [a] pos) tA:=⟨zoQ ha.h⟩
theorem ze7 (ha:PT' X a tA):PW' X (.BoolOp .Or [a] pos) tA:=⟨zqY ha.h⟩
theorem zdg (ha:PT' X a tA) (hb:PW' X (.BoolOp .And (b :: zd1) pos) tB2):PW' X (.BoolOp .And (a :: b :: zd1) pos) (zbn tA tB2):=by
 refine ⟨PW.weak (zqZ ha.h hb.h) ?_⟩
 rintro σ H Q ⟨W,Hi,Γ,Q',g,h,fin⟩
 refine ⟨W,Hi,Γ,_,g,h,?_⟩; intro k H1 Hi1 Γ1 s1 g1 h1
 cases k with
 | true=>exact ⟨W,Hi1,Γ1,_,g1,h1,fun b H2 Hi2 Γ2 s2 g2 q=>fin b H2 Hi2 Γ2 (s1.trans s2) g2 q⟩
 | false=>exact fin false H1 Hi1 Γ1 s1 g1 h1
theorem ze8 (ha:PT' X a tA) (hb:PW' X (.BoolOp .Or (b :: zd1) pos) tB2):PW' X (.BoolOp .Or (a :: b :: zd1) pos) (zc6 tA tB2):=by
 refine ⟨PW.weak (ztu ha.h hb.h) ?_⟩
 rintro σ H Q ⟨W,Hi,Γ,Q',g,h,fin⟩
 refine ⟨W,Hi,Γ,_,g,h,?_⟩; intro k H1 Hi1 Γ1 s1 g1 h1
 cases k with
 | false=>exact ⟨W,Hi1,Γ1,_,g1,h1,fun b H2 Hi2 Γ2 s2 g2 q=>fin b H2 Hi2 Γ2 (s1.trans s2) g2 q⟩
 | true=>exact fin true H1 Hi1 Γ1 s1 g1 h1
theorem PW'.pt {e:Expr} {t:TT'} (h:PW' X e t):PT' X e t:=⟨h.h _⟩
theorem zcS (ha:PT' X a tA):PT' X (.UnaryOp .Not a pos) (zbe tA):=by
 refine ⟨PT.weak (zq1 ha.h) ?_⟩
 rintro σ H Q ⟨W,Hi,Γ,Q',g,h,fin⟩
 exact ⟨W,Hi,Γ,_,g,h,fun k H1 Hi1 Γ1 s1 g1 h1=>fin _ H1 Hi1 Γ1 s1 g1 h1⟩
def zaC (ta tb:TE'):TE':=fun Γ Q=>ta Γ fun x Γ1=>∃ c,x=.bl c/\if c=true then tb Γ1 Q else Q (.bl false) Γ1
def zbH (ta tb:TE'):TE':=fun Γ Q=>ta Γ fun x Γ1=>∃ c,x=.bl c/\if c=true then Q (.bl true) Γ1 else tb Γ1 Q
def zaw (ta:TE'):TE':=fun Γ Q=>ta Γ fun x Γ1=>∃ c,x=.bl c/\Q (.bl (!c)) Γ1
theorem zcU {op} (h:PE' X a ta):PE' X (.BoolOp op [a] pos) ta:=⟨zrd h.h⟩
theorem zcl (ha:PE' X a ta) (hb:PE' X (.BoolOp .And (b :: zd1) pos) tb):PE' X (.BoolOp .And (a :: b :: zd1) pos) (zaC ta tb):=by
 refine ⟨PE.weak (zro ha.h hb.h) ?_⟩
 rintro σ H Q ⟨W,Hi,Γ,Q',g,h,fin⟩
 refine ⟨W,Hi,Γ,_,g,h,?_⟩
 rintro x H1 ⟨Hi1,dx,Γ1,s1,g1,den1,k,rfl,h1⟩
 refine ⟨k,den1.blI,?_⟩
 cases k with
 | true=>exact ⟨W,Hi1,Γ1,_,g1,h1,fun v H2 ⟨Hi2,d,Γ2,s2,g2,d2,q⟩=>fin v H2 ⟨Hi2,d,Γ2,s1.trans s2,g2,d2,q⟩⟩
 | false=>exact fin _ H1 ⟨Hi1,_,Γ1,s1,g1,.bl false,h1⟩
theorem zo9 (ha:PE' X a ta):PE' X (.UnaryOp .Not a pos) (zaw ta):=by
 refine ⟨PE.weak (zre ha.h) ?_⟩
 rintro σ H Q ⟨W,Hi,Γ,Q',g,h,fin⟩
 refine ⟨W,Hi,Γ,_,g,h,?_⟩
 rintro x H1 ⟨Hi1,dx,Γ1,s1,g1,den1,k,rfl,h1⟩
 exact ⟨k,den1.blI,fin _ H1 ⟨Hi1,_,Γ1,s1,g1,.bl _,h1⟩⟩
def zdy (t:TT') (ta tb:TE'):TE':=fun Γ Q=>t Γ fun c Γ1=>if c=true then ta Γ1 Q else tb Γ1 Q
def za5:TA':=fun Γ Q=>Q [] Γ
def zal (ta:TE') (tr:TA'):TA':=fun Γ Q=>ta Γ fun x Γ1=>tr Γ1 fun xs Γ2=>Q (x :: xs) Γ2
theorem zj:PA' X [] za5:=by
 refine ⟨PA.weak zgZ ?_,rfl⟩
 rintro σ H Q ⟨W,Hi,Γ,Q',g,h,fin⟩
 exact fin [] H Hi Γ [] (zaI.refl _) g .nil h
theorem zc {e:Expr} {es:List Expr} {te:TE'} {t:TA'} (ha:PE' X e te) (hr:PA' X es t) (hs:zeK e=false:=by rfl):PA' X (e :: es) (zal te t):=by
 refine ⟨PA.weak (zdU ha.h hr.pa (zP hs)) ?_,by unfold zbR; rw [hs,hr.pl]; rfl⟩
 rintro σ H Q ⟨W,Hi,Γ,Q',g,h,fin⟩
 refine ⟨W,Hi,Γ,_,g,h,?_⟩
 rintro x H1 ⟨Hi1,dx,Γ1,s1,g1,den1,h1⟩
 refine ⟨W,Hi1,Γ1,_,g1,h1,?_⟩; intro vs H2 Hi2 Γ2 ds s2 g2 dl q; exact fin (x :: vs) H2 Hi2 Γ2 (dx :: ds) (s1.trans s2) g2 (.cons (den1.mono s2) dl) q
def zba (t:TA'):TE':=fun Γ Q=>t Γ fun ds Γ1=>ds.length<=sizeLine/\Q (.tup ds) Γ1
theorem zu {es:List Expr} {t:TA'} {x1} (h:PA' X es t):PE' X (.Tuple es x1 pos) (zba t):=by
 refine ⟨PE.weak (zra h.pa) ?_⟩
 rintro σ H Q ⟨W,Hi,Γ,Q',g,h,fin⟩
 refine ⟨W,Hi,Γ,_,g,h,?_⟩
 rintro vs H1 Hi1 Γ1 ds s1 g1 dl ⟨hl,q⟩
 refine ⟨by rw [zn dl]; exact hl,fun p hp=>?_⟩
 have e:=Ext.new g1.fz hp (.tup vs); exact fin _ _ ⟨_,_,Γ1,s1.trans e.hi,g1.ext e,Den.mkT zo (dl.mono e.hi),q⟩
theorem New.mk' {K:W.Frag} {n:Nat} {W:Wd} {Hi H:Hp} {Γ:Sts} {σ:St} {p:Addr} {u:HO} {o:OD} (g:Good K n W Hi Γ σ H) (hp:H p=none) (own:zbM K Hi (upd H p u) p o):New K n W Hi Γ σ (upd H p u) p o:=by
 refine ⟨g.sub.free hp,?_,⟨fun j o' e z=>?_,fun j d xs e=>?_⟩,own⟩
 ·cases q:W.H₀ p with
  | none=>rfl
  | some w =>
   obtain ⟨w',hw⟩:=g.there p w q
   rw [hp] at hw; cases hw
 ·obtain ⟨a,h1,_,_,h4⟩:=g.own j o' e
  rw [z] at h1; cases h1; obtain ⟨w,hw⟩:=h4.there
  rw [hp] at hw; cases hw
 ·obtain ⟨w,hw⟩:=(g.bk j d p xs e).at_.there
  rw [hp] at hw; cases hw
def zbh (t:TA'):TO':=fun Γ Q=>t Γ fun ds Γ1=>ds.length<=sizeLine/\Q (.lst ds) Γ1
theorem zcC {es:List Expr} {t:TA'} (h:PA' X es t):PO' X (.List es pos) (zbh t):=by
 refine ⟨PE.weak (znW h.pa) ?_⟩
 rintro σ H Q ⟨W,Hi,Γ,Q',g,h,fin⟩
 refine ⟨W,Hi,Γ,_,g,h,?_⟩
 rintro vs H1 Hi1 Γ1 ds s1 g1 dl ⟨hl,q⟩
 refine ⟨by rw [zn dl]; exact hl,fun p hp=>?_⟩
 exact fin p _ Hi1 Γ1 (.lst ds) s1 (g1.ext (Ext.newO g1.fz hp _ (fun _ z=>by cases z))) (New.mk' g1 hp ⟨vs,zo,dl⟩) q
abbrev RC':=List D->(D->Prop)->Prop
def zsh (K:W.Frag) (r:List V->Hp->VK->Prop) (r':RC'):Prop:=∀ (Hi H:Hp) (vs:List V) (ds:List D) (Q:D->Prop) (Q2:VK),Fz Hi H->zbv K Hi vs ds->r' ds Q->(∀ Hi' H' v d,Ext Hi H Hi' H'->Den K Hi' v d->Q d->Q2 v H')->r vs H Q2
structure Cal (X:Cx) (f:Value) (r':RC'):Prop where
 ex:∃ r,zcW X f r/\zsh X.K r r'
theorem Cal.or {f:Value} {r r':RC'} (h:Cal X f r) (h':Cal X f r'):Cal X f (fun x Q=>r x Q\/r' x Q):=by
 obtain ⟨a,ha,la⟩:=h.ex; obtain ⟨b,hb,lb⟩:=h'.ex
 refine ⟨_,ha.or hb,fun Hi H vs ds Q Q2 s d q fin=>?_⟩
 rcases q with q | q
 ·exact .inl (la Hi H vs ds Q Q2 s d q fin)
 ·exact .inr (lb Hi H vs ds Q Q2 s d q fin)
def zc1 (r:RC') (t:TA'):TE':=fun Γ Q=>t Γ fun ds Γ1=>r ds fun d=>Q d Γ1
theorem znN {K:W.Frag} {n:Nat} {r:List V->Hp->VK->Prop} {r':RC'} {t:TA'} {σ:St} {H:Hp} {Q:VK} (l:zsh K r r') (h:tOf K n (zc1 r' t) σ H Q):tCB r (zsZ K n t) σ H Q:=by
 obtain ⟨W,Hi,Γ,Q',g,h,fin⟩:=h; refine ⟨W,Hi,Γ,_,g,h,?_⟩; intro vs H1 Hi1 Γ1 ds s1 g1 dl h1; refine l Hi1 H1 vs ds _ _ g1.fz dl h1 ?_; intro Hi2 H2 v d e den q; exact fin v H2 ⟨Hi2,d,Γ1,s1.trans e.hi,g1.ext e,den,q⟩
variable {x:Str} {p:Pos} {e:Expr} {es:List Expr} {t:TA'} {id T:String}
theorem zO {r':RC'} (hc:Cal X (.builtin id) r') (hm:X.mg x=none) (hv:bootBuiltins x=some (.builtin id)) (ha:PA' X (e :: es) t) (hg:Gl X x:=by rfl) (hn:x≠"__name__":=by decide) (hdb:(x == ("__debug__":Str))=false:=by decide):PE' X (.Call (.Name x p) (e :: es) [] pos) (zc1 r' t):=by
 obtain ⟨r,ho,l⟩:=hc.ex; obtain ⟨p1,p2⟩:=zB ha.pl
 exact ⟨PE.weak (pe_callB ho hg hm hv ha.pa hn hdb (zP p1) (zaa p2)) fun σ H Q q=>znN l q⟩
theorem zev {r':RC'} (hc:Cal X (.type T) r') (hm:X.mg x=none) (hv:bootBuiltins x=some (.type T)) (ha:PA' X (e :: es) t) (hg:Gl X x:=by rfl) (hn:x≠"__name__":=by decide) (hdb:(x == ("__debug__":Str))=false:=by decide):PE' X (.Call (.Name x p) (e :: es) [] pos) (zc1 r' t):=by
 obtain ⟨r,ho,l⟩:=hc.ex; obtain ⟨p1,p2⟩:=zB ha.pl
 exact ⟨PE.weak (zgX ho hg hm hv ha.pa hn hdb (zP p1) (zaa p2)) fun σ H Q q=>znN l q⟩
end
section
variable {X:Cx} {a b c:Expr} {pos:Pos} {ta tb:TE'}
structure Ixs (X:Cx) (r':R2'):Prop where
 ex:∃ r,IxR X r/\zhL X.K r r'
theorem Ixs.or {r r':R2'} (h:Ixs X r) (h':Ixs X r'):Ixs X (fun x y Q=>r x y Q\/r' x y Q):=by
 obtain ⟨a,ha,la⟩:=h.ex; obtain ⟨b,hb,lb⟩:=h'.ex
 refine ⟨_,ha.or hb,fun Hi H x y dx dy Q Q2 s d1 d2 q fin=>?_⟩
 rcases q with q | q
 ·exact .inl (la Hi H x y dx dy Q Q2 s d1 d2 q fin)
 ·exact .inr (lb Hi H x y dx dy Q Q2 s d1 d2 q fin)
theorem zp {r':R2'} (h:Ixs X r') (ha:PE' X a ta) (hb:PE' X b tb) (hs:zir b:=by intro _ _; rfl):PE' X (.Subscript a b pos) (zcA r' ta tb):=by
 obtain ⟨r,ho,l⟩:=h.ex
 exact ⟨PE.weak (zri ho ha.h hb.h hs) fun σ H Q q=>ziy l q⟩
abbrev TP':=Sts->(Option Int->Sts->Prop)->Prop
def zu0 (K:W.Frag) (n:Nat) (t:TP'):TO:=fun σ H Q2=>∃ W Hi Γ Q,Good K n W Hi Γ σ H/\t Γ Q/\∀ i H' Hi' Γ',zaI Hi Hi'->Good K n W Hi' Γ' σ H'->Q i Γ'->Q2 i H'
structure PB' (X:Cx) (e:Option Expr) (t:TP'):Prop where
 h:PO X e (zu0 X.K X.N.length t)
def zbf:TP':=fun Γ Q=>Q none Γ
def zc8 (t:TE'):TP':=fun Γ Q=>t Γ fun d Γ1=>∃ i,d=.int i/\Q (some i) Γ1
theorem PO.weak {e:Option Expr} {t t2:TO} (h:PO X e t) (w:∀ σ H Q,t2 σ H Q->t σ H Q):PO X e t2:=fun pins s σ H Q I q=>h pins s σ H Q I (w _ _ _ q)
theorem zjy:PB' X none zbf:=by
 refine ⟨PO.weak zo0 ?_⟩
 rintro σ H Q ⟨W,Hi,Γ,Q',g,h,fin⟩
 exact fin none H Hi Γ (zaI.refl _) g h
theorem zgY {e:Expr} {te:TE'} (h:PE' X e te):PB' X (some e) (zc8 te):=by
 refine ⟨PO.weak (zoZ h.h) ?_⟩
 rintro σ H Q ⟨W,Hi,Γ,Q',g,h,fin⟩
 refine ⟨W,Hi,Γ,_,g,h,?_⟩
 rintro v H1 ⟨Hi1,d,Γ1,s1,g1,den,i,rfl,q⟩
 exact ⟨i,den.intI,fin _ H1 Hi1 Γ1 s1 g1 q⟩
abbrev RS':=D->Option Int->Option Int->(D->Prop)->Prop
def zuz (K:W.Frag) (r:V->Option Int->Option Int->Hp->VK->Prop) (r':RS'):Prop:=∀ (Hi H:Hp) (x:V) (dx:D) (lo hi:Option Int) (Q:D->Prop) (Q2:VK),Fz Hi H->Den K Hi x dx->r' dx lo hi Q->(∀ Hi' H' v d,Ext Hi H Hi' H'->Den K Hi' v d->Q d->Q2 v H')->r x lo hi H Q2
structure Sli (X:Cx) (r':RS'):Prop where
 ex:∃ r,SlR X r/\zuz X.K r r'
theorem Sli.or {r r':RS'} (h:Sli X r) (h':Sli X r'):Sli X (fun x lo hi Q=>r x lo hi Q\/r' x lo hi Q):=by
 obtain ⟨a,ha,la⟩:=h.ex; obtain ⟨b,hb,lb⟩:=h'.ex
 refine ⟨_,ha.or hb,fun Hi H x dx lo hi Q Q2 s d1 q fin=>?_⟩
 rcases q with q | q
 ·exact .inl (la Hi H x dx lo hi Q Q2 s d1 q fin)
 ·exact .inr (lb Hi H x dx lo hi Q Q2 s d1 q fin)
def zc5 (r:RS') (te:TE') (tl th:TP'):TE':=fun Γ Q=>te Γ fun x Γ1=>tl Γ1 fun l Γ2=>th Γ2 fun u Γ3=>r x l u fun d=>Q d Γ3
theorem ze9 {e:Expr} {lo hi:Option Expr} {p2:Pos} {te:TE'} {tl th:TP'} {r':RS'} (h:Sli X r') (he:PE' X e te) (hl:PB' X lo tl) (hu:PB' X hi th):PE' X (.Subscript e (.Slice lo hi none p2) pos) (zc5 r' te tl th):=by
 obtain ⟨r,ho,l⟩:=h.ex; refine ⟨PE.weak (zmI ho he.h hl.h hu.h) ?_⟩
 rintro σ H Q ⟨W,Hi,Γ,Q',g,h,fin⟩
 refine ⟨W,Hi,Γ,_,g,h,?_⟩
 rintro x H1 ⟨Hi1,dx,Γ1,s1,g1,den1,h1⟩
 refine ⟨W,Hi1,Γ1,_,g1,h1,?_⟩; intro i H2 Hi2 Γ2 s2 g2 h2; refine ⟨W,Hi2,Γ2,_,g2,h2,?_⟩; intro j H3 Hi3 Γ3 s3 g3 h3; refine l Hi3 H3 x dx i j _ _ g3.fz (den1.mono (s2.trans s3)) h3 ?_; intro Hi4 H4 v d e den q; exact fin v H4 ⟨Hi4,d,Γ3,s1.trans (s2.trans (s3.trans e.hi)),g3.ext e,den,q⟩
abbrev RM':=D->List D->(D->Prop)->Prop
def zuA (K:W.Frag) (T:String) (r:V->List V->Hp->VK->Prop) (r':RM'):Prop:=∀ (Hi H:Hp) (x:V) (vs:List V) (dx:D) (ds:List D) (Q:D->Prop) (Q2:VK),Fz Hi H->Den K Hi x dx->zbv K Hi vs ds->r' dx ds Q->(∀ Hi' H' v d,Ext Hi H Hi' H'->Den K Hi' v d->Q d->Q2 v H')->r x vs H Q2
def tyD (T:String):D->Prop
 | .str _=>T="str"
 | .int _=>T="int"
 | .lst _=>T="list"
 | _=>False
theorem zqo {K:W.Frag} {Hi H:Hp} {x:V} {dx:D} (s:zaI Hi H) (den:Den K Hi x dx) (h:tyD T dx):tyV K T x H:=by
 cases den with
 | str l=>exact h
 | int i=>exact h
 | lst hq l r =>
  refine .inl ⟨h,_,zy s hq⟩
 | _=>exact h.elim
structure Met (X:Cx) (T:String) (id:String) (r':RM'):Prop where
 ex:∃ r,MtR X id r/\zuA X.K T r r'
def zc7 (T:String) (r:RM') (to:TE') (t:TA'):TE':=fun Γ Q=>to Γ fun x Γ1=>tyD T x/\t Γ1 fun ds Γ2=>r x ds fun d=>Q d Γ2
theorem zrn {o e:Expr} {es:List Expr} {to:TE'} {t:TA'} {name:Str} {apos cpos:Pos} {T id:String} {r':RM'} (h:Met X T id r') (pa:PlainAttrs T) (slot:PySem.Slot T name id) (hty:typeOf (.builtin id)=pure (.type "method_descriptor")) (ho:PE' X o to) (ha:PA' X (e :: es) t)
  (hbase:attributeBase o name X.env (eval o X.env)=eval o X.env:=by rfl) (hlen:(e :: es).length<30:=by decide)
  (hline:(apos.endLine == cpos.line)=true:=by rfl) :
  PE' X (.Call (.Attribute o name apos) (e :: es) [] cpos) (zc7 T r' to t):=by
 obtain ⟨r,hm,l⟩:=h.ex; obtain ⟨p1,p2⟩:=zB ha.pl
 have hfew:((backTo cpos (starEach (e :: es) X.env)).all (fun x=>!x.1) && (backToKw cpos (keywordEach [] X.env)).all (fun x=>x.1.isSome)
   && decide ((e :: es).length+([]:List Keyword).length+(if ([]:List Keyword).isEmpty then 0 else 1)<30))=true:=by
  have h1:(backTo cpos (starEach (e :: es) X.env)).all (fun x=>!x.1)=true:=by
   rw [Yr]; intro y hy
   have:=zaa (pos:=cpos) (env:=X.env) ha.pl
   rw [List.any_eq_false] at this
   simpa using this y hy
  rw [h1,decide_eq_true (by simpa using hlen)]
  rfl
 refine ⟨PE.weak (zmR pa slot hty hm ho.h ha.pa hbase hfew hline (zP p1) (zaa p2)) ?_⟩
 rintro σ H Q ⟨W,Hi,Γ,Q',g,h,fin⟩
 refine ⟨W,Hi,Γ,_,g,h,?_⟩
 rintro x H1 ⟨Hi1,dx,Γ1,s1,g1,den1,ty,h1⟩
 refine ⟨zqo g1.sub den1 ty,W,Hi1,Γ1,_,g1,h1,?_⟩; intro vs H2 Hi2 Γ2 ds s2 g2 dl h2; refine l Hi2 H2 x vs dx ds _ _ g2.fz (den1.mono s2) dl h2 ?_; intro Hi3 H3 v d e den q; exact fin v H3 ⟨Hi3,d,Γ2,s1.trans (s2.trans e.hi),g2.ext e,den,q⟩
def zac:TS':=fun N Γ=>N.nx Γ
def zbb (t u:TS'):TS':=fun N Γ=>t { N with nx:=u N } Γ
theorem zA:PSs' X [] zac:=by
 refine ⟨PSs.weak zoV ?_⟩
 rintro N2 σ H ⟨W,Hi,Γ,N,g,h,l⟩
 exact l.nx σ H Hi Γ (zaI.refl _) g h
theorem zk {s:Stmt} {zd1:List Stmt} {t u:TS'} (h1:PS' X s t) (h2:PSs' X zd1 u):PSs' X (s :: zd1) (zbb t u):=by
 refine ⟨PSs.weak (zdu h1.h h2.h) ?_⟩
 rintro N2 σ H ⟨W,Hi,Γ,N,g,h,l⟩
 refine ⟨W,Hi,Γ,_,g,h,?_,l.bk,l.ct,l.rt⟩; intro σ1 H1 Hi1 Γ1 s1 g1 q; exact ⟨W,Hi1,Γ1,N,g1,q,l.mono s1⟩
theorem zl {s:Stmt} {t:TS'} (h1:PS' X s t):PSs' X [s] t:=⟨zdQ h1.h⟩
def zbc (te:TE'):TS':=fun N Γ=>te Γ fun d Γ1=>N.rt (.val d) Γ1
def zav (te:TO'):TS':=fun N Γ=>te Γ fun o Γ1=>N.rt (.own o) Γ1
theorem zD {e:Expr} {te:TE'} (he:PE' X e te):PS' X (.Return (some e) pos) (zbc te):=by
 refine ⟨PS.weak (zkG he.h) ?_⟩
 rintro N2 σ H ⟨W,Hi,Γ,N,g,h,l⟩
 refine ⟨W,Hi,Γ,_,g,h,?_⟩
 rintro v H1 ⟨Hi1,d,Γ1,s1,g1,den,q⟩
 exact l.rt v σ H1 Hi1 Γ1 (.val d) s1 g1 den q
theorem ziK {e:Expr} {te:TO'} (he:PO' X e te):PS' X (.Return (some e) pos) (zav te):=by
 refine ⟨PS.weak (zkG he.h) ?_⟩
 rintro N2 σ H ⟨W,Hi,Γ,N,g,h,l⟩
 refine ⟨W,Hi,Γ,_,g,h,?_⟩; intro a H1 Hi1 Γ1 o s1 g1 nw q; exact l.rt _ σ H1 Hi1 Γ1 (.own o) s1 g1 ⟨a,rfl,nw.hi,nw.h0,nw.own⟩ q
def zau (n i:Nat):TS':=fun N Γ=>i<n/\∃ o,Γ[i]?=some (.own o)/\N.rt (.own o) Γ
theorem zeX (i:Nat) {x:Str} {p:Pos} (hN:X.N[i]?=some x:=by rfl) (hv:Vis X.env.scope x:=by first | exact YJ rfl | exact yr (YJ rfl) | exact yr (yr rfl)) (hd:(x == ("__debug__":Str))=false:=by decide)
  (hcd:(x == ("__classdict__":Str))=false:=by decide):PS' X (.Return (some (.Name x p)) pos) (zau X.N.length i):=by
 refine ⟨PS.weak (zkG (zcj (i:=i) hN hv hd hcd)) ?_⟩
 rintro N2 σ H ⟨W,Hi,Γ,N,g,⟨hi,o,e,q⟩,l⟩
 obtain ⟨a,h1,h2,h3,h4⟩:=g.own i o e; unfold adr at h1; rw [yN hi] at h1; exact ⟨.ref a,zet h1,l.rt _ σ H Hi Γ (.own o) (zaI.refl _) g ⟨a,rfl,h2,h3 hi,h4⟩ q⟩
def za7 (c:TT') (t u:TS'):TS':=fun N Γ=>c Γ fun b Γ1=>if b=true then t N Γ1 else u N Γ1
theorem zQ {c:Expr} {sa sb:List Stmt} {tc:TT'} {t u:TS'} (hc:PT' X c tc) (ha:PSs' X sa t) (hb:PSs' X sb u):PS' X (.If c sa sb pos) (za7 tc t u):=by
 refine ⟨PS.weak (ztv hc.h ha.h hb.h) ?_⟩
 rintro N2 σ H ⟨W,Hi,Γ,N,g,h,l⟩
 refine ⟨W,Hi,Γ,_,g,h,?_⟩; intro k H1 Hi1 Γ1 s1 g1 q
 cases k with
 | true=>exact ⟨W,Hi1,Γ1,N,g1,q,l.mono s1⟩
 | false=>exact ⟨W,Hi1,Γ1,N,g1,q,l.mono s1⟩
def zaj (te:TE'):TS':=fun N Γ=>te Γ fun _ Γ1=>N.nx Γ1
theorem zd9 {e:Expr} {te:TE'} (he:PE' X e te) (hs:swapsWith e none pos.line X.env=pure false:=by rfl):PS' X (.Expr e pos) (zaj te):=by
 refine ⟨PS.weak (zeu he.h hs) ?_⟩
 rintro N2 σ H ⟨W,Hi,Γ,N,g,h,l⟩
 refine ⟨W,Hi,Γ,_,g,h,?_⟩
 rintro v H1 ⟨Hi1,d,Γ1,s1,g1,den,q⟩
 exact l.nx σ H1 Hi1 Γ1 s1 g1 q
def zS (i:Nat):TG':=fun d Γ Q=>Q (Γ.set i (.val d))
theorem zw (i:Nat) {x:Str} (hN:X.N.Nodup) (hi:X.N[i]?=some x:=by rfl) (hx:Loc X.env.scope x:=by first | exact YJ rfl | exact yr rfl) (hf:X.fn x=true\/X.env.scope.names.lookup x=some .local:=by first | exact .inl rfl | exact .inr rfl | assumption):PG' X (.Name x pos) (zS i):=by
 refine ⟨PG.weak (zo8 (i:=i) hN hi hx hf) ?_⟩
 rintro v σ H Q ⟨W,Hi,Γ,d,Q',g,den,q,fin⟩
 exact fin _ H Hi _ (zaI.refl _) (g.set (yD.mp hi).1 den) q
def za9 (te:TE') (g:TG'):TS':=fun N Γ=>te Γ fun d Γ1=>g d Γ1 N.nx
theorem zaq (i:Nat) {x:Str} {e:Expr} {te:TE'} {pos':Pos} (hN:X.N.Nodup) (he:PE' X e te) (hi:X.N[i]?=some x:=by rfl) (hx:Loc X.env.scope x:=by first | exact YJ rfl | exact yr rfl) (hs:swapsWith e (some (.Name x pos')) pos.line X.env=pure false:=by rfl)
  (hf:X.fn x=true\/X.env.scope.names.lookup x=some .local:=by first | exact .inl rfl | exact .inr rfl | assumption):PS' X (.Assign [.Name x pos'] e pos) (za9 te (zS i)):=by
 refine ⟨PS.weak (zkF (i:=i) hN hi hx he.h hs hf) ?_⟩
 rintro N2 σ H ⟨W,Hi,Γ,N,g,h,l⟩
 refine ⟨W,Hi,Γ,_,g,h,?_⟩
 rintro v H1 ⟨Hi1,d,Γ1,s1,g1,den,q⟩
 exact l.nx _ H1 Hi1 _ s1 (g1.set (yD.mp hi).1 den) q
def zao (te:TO') (i:Nat):TS':=fun N Γ=>te Γ fun o Γ1=>N.nx (Γ1.set i (.own o))
theorem zbP (i:Nat) {x:Str} {e:Expr} {te:TO'} {pos':Pos} (hN:X.N.Nodup) (he:PO' X e te) (hi:X.N[i]?=some x:=by rfl) (hx:Loc X.env.scope x:=by first | exact YJ rfl | exact yr rfl) (hs:swapsWith e (some (.Name x pos')) pos.line X.env=pure false:=by rfl)
  (hf:X.fn x=true\/X.env.scope.names.lookup x=some .local:=by first | exact .inl rfl | exact .inr rfl | assumption):PS' X (.Assign [.Name x pos'] e pos) (zao te i):=by
 refine ⟨PS.weak (zkF (i:=i) hN hi hx he.h hs hf) ?_⟩
 rintro N2 σ H ⟨W,Hi,Γ,N,g,h,l⟩
 refine ⟨W,Hi,Γ,_,g,h,?_⟩; intro a H1 Hi1 Γ1 o s1 g1 nw q; exact l.nx _ H1 Hi1 _ s1 (g1.setO (yD.mp hi).1 nw.hi nw.h0 nw.ne nw.own) q
def zgE (g:TG') (tb:TS') (N:Ends'):List D->Sts->Prop
 | [],Γ=>N.nx Γ
 | d :: ds,Γ=>g d Γ fun Γ2=>tb { N with nx:=zgE g tb N ds,ct:=zgE g tb N ds,bk:=N.nx } Γ2
def zbl (ti:TI') (g:TG') (tb:TS'):TS':=fun N Γ=>ti Γ fun ds Γ1=>zgE g tb N ds Γ1
theorem zbQ {tg iter:Expr} {body:List Stmt} {ti:TI'} {g:TG'} {tb:TS'} (hi:PI' X tg iter ti) (hg:PG' X tg g) (hb:PSs' X body tb) (hp:PassesOwn (model X.prog X.w) X.A X.env X.xe:=by exact PassesOwn.never) (hc:X.calm=true:=by rfl)
  (hs:∀ x,foldedSetIterable iter X.env x=pure x:=by intro _; rfl):PS' X (.For tg iter body [] pos) (zbl ti g tb):=by
 refine ⟨PS.weak (zq3 hp hc hi.h hg.h hb.h hs) ?_⟩
 rintro N2 σ H ⟨W,Hi,Γ,N,gd,h,l⟩
 refine ⟨W,Hi,Γ,_,gd,h,?_⟩; intro J H1 Hi1 Γ1 ds s1 g1 itd q
 refine ⟨fun i m σ' H'=>m=ds.length-i/\i<=ds.length/\∃ Hi' Γ',zaI Hi1 Hi'/\Good X.K X.N.length W Hi' Γ' σ' H'/\zgE g tb N (ds.drop i) Γ',⟨ds.length,by simp,yb _,Hi1,Γ1,zaI.refl _,g1,by simpa using q⟩,?_⟩
 rintro i m σ' H' ⟨rfl,hi',Hi',Γ',s2,g2,q2⟩
 have wk:=itd Hi' H' s2 g2.fz
 by_cases hlt:i<ds.length
 ·have hd:ds.drop i=ds[i] :: ds.drop (i+1):=YS hlt
  rw [hd] at q2; obtain ⟨go,yl⟩:=wk.1 i ds[i] (yB hlt)
  refine .inr ⟨go,fun σ3 H3=>∃ Hi3 Γ3,zaI Hi' Hi3/\Good X.K X.N.length W Hi3 Γ3 σ3 H3/\zgE g tb N (ds.drop (i+1)) Γ3,fun σ3 H3 ⟨Hi3,Γ3,s3,g3,q3⟩=>⟨ds.length-(i+1),by omega,rfl,hlt,Hi3,Γ3,s2.trans s3,g3,q3⟩,fun x H'' y=>?_⟩
  obtain ⟨Hi'',ex,den⟩:=yl x H'' y; refine ⟨W,Hi'',Γ',ds[i],_,g2.ext ex,den,q2,?_⟩; intro σ4 H4 Hi4 Γ4 s4 g4 q4
  have sx:zaI Hi' Hi4:=ex.hi.trans s4
  refine ⟨W,Hi4,Γ4,_,g4,q4,?_⟩
  refine ⟨fun σ5 H5 Hi5 Γ5 s5 g5 q5=>⟨Hi5,Γ5,sx.trans s5,g5,q5⟩,fun σ5 H5 Hi5 Γ5 s5 g5 q5=>l.nx σ5 H5 Hi5 Γ5 (s1.trans (s2.trans (sx.trans s5))) g5 q5,fun σ5 H5 Hi5 Γ5 s5 g5 q5=>⟨Hi5,Γ5,sx.trans s5,g5,q5⟩,fun v σ5 H5 Hi5 Γ5 r s5 g5 ro q5=>l.rt v σ5 H5 Hi5 Γ5 r (s1.trans (s2.trans (sx.trans s5))) g5 ro q5⟩
 ·have e:i=ds.length:=by omega
  subst e; rw [YM (yH _)] at q2; exact .inl ⟨wk.2,l.nx σ' H' Hi' Γ' (s1.trans s2) g2 q2⟩
theorem znr {K:W.Frag} {Hi:Hp} {a:Addr} {vs:List V} {ds:List D} (h:SqL K Hi a vs) (r:zbv K Hi vs ds):ItD K Hi (Itl K a) ds:=by
 intro Hi' H' s1 s2
 have hq:SqL K H' a vs:=zy (s1.trans s2.sub) h
 refine ⟨fun i d e=>?_,vs,hq,by rw [zn r]; exact yH _⟩
 obtain ⟨v,e1,e2⟩:=zR r e; refine ⟨⟨vs,v,hq,e1⟩,?_⟩
 rintro x H'' ⟨rfl,y⟩
 have:=y vs hq
 rw [e1] at this; cases this; exact ⟨Hi',Ext.refl s2,e2.mono s1⟩
theorem zpP {K:W.Frag} {Hi:Hp} {a:Addr} {vs:List V} {ds:List D} (h:SqT K Hi a vs) (r:zbv K Hi vs ds):ItD K Hi (Itt K a) ds:=by
 intro Hi' H' s1 s2
 have hq:SqT K H' a vs:=zaf (s1.trans s2.sub) h
 refine ⟨fun i d e=>?_,vs,hq,by rw [zn r]; exact yH _⟩
 obtain ⟨v,e1,e2⟩:=zR r e; refine ⟨⟨vs,v,hq,e1⟩,?_⟩
 rintro x H'' ⟨rfl,y⟩
 have:=y vs hq
 rw [e1] at this; cases this; exact ⟨Hi',Ext.refl s2,e2.mono s1⟩
theorem zpQ {K:W.Frag} {Hi:Hp} (l:List Nat):ItD K Hi (Its l) (l.map fun c=>.str [c]):=by
 intro Hi' H' s1 s2
 refine ⟨fun i d e=>?_,by rw [yF]; rfl⟩
 rw [yE] at e
 cases hc:l[i]? with
 | none=>rw [hc] at e; cases e
 | some c =>
  rw [hc] at e; cases e; refine ⟨(yD.mp hc).1,?_⟩
  rintro x H'' ⟨rfl,c',e',rfl⟩
  rw [hc] at e'; cases e'; exact ⟨Hi',Ext.refl s2,.str [c]⟩
theorem zpR {K:W.Frag} {Hi:Hp} (lo:Int) (n:Nat):ItD K Hi (Itr lo n) ((List.range n).map fun k=>.int (lo+(k:Nat))):=by
 intro Hi' H' s1 s2
 refine ⟨fun i d e=>?_,by rw [yF,yi]; exact yH _⟩
 rw [yE] at e
 cases hc:(List.range n)[i]? with
 | none=>rw [hc] at e; cases e
 | some c =>
  rw [hc] at e; cases e
  have hi:i<n:=by
   have:=(yD.mp hc).1
   rwa [yi] at this
  have ec:c=i:=by
   rw [YO hi] at hc; exact (Option.some.inj hc).symm
  subst ec; refine ⟨hi,?_⟩
  rintro x H'' ⟨rfl,rfl⟩
  exact ⟨Hi',Ext.refl s2,.int _⟩
def zqI:D->Option (List D)
 | .lst ds=>some ds
 | .tup ds=>some ds
 | .str l=>some (l.map fun c=>.str [c])
 | _=>none
def zbq (t:TE'):TI':=fun Γ Q=>t Γ fun d Γ1=>∃ ds,zqI d=some ds/\Q ds Γ1
theorem zo5 {l tg:Expr} {tl:TE} (hl:PE X l tl):PI X tg l (fun σ H R=>tl σ H fun x H1=>(∃ a,x=.ref a/\(∃ xs,SqL X.K H1 a xs)/\R (Itl X.K a) H1)\/(∃ a,x=.ref a/\(∃ xs,SqT X.K H1 a xs)/\R (Itt X.K a) H1)\/(∃ z,x=.str z/\R (Its z.cps.toList) H1)):=by
 intro pins s σ H R I h
 refine thn (hl pins s σ H _ I h) fun v s1 ⟨x,H1,I1,r1,q1⟩=>?_
 have fin:∀ b ∈ [s1.heap.objs.size],zgD X pins H1 b:=fun b hb=>by
  have e:b=s1.heap.objs.size:=by simpa using hb
  subst e; exact I1.fpOk (yH _) (I1.hok.fresh (yH _))
 rcases q1 with ⟨a,rfl,⟨xs,hq⟩,q⟩ | ⟨a,rfl,⟨xs,hq⟩,q⟩ | ⟨z,rfl,q⟩
 ·cases r1
  obtain ⟨its,rv,p,hz⟩:=I1.list hq; refine wpAny_pyIter_list p.isList ?_
  exact ⟨s1.heap.objs.size,[s1.heap.objs.size],_,_,H1,rfl,I1.kept (t':=s1.toks) fun b o e=>yC _ e,zkd a _,⟨_,yI _ rfl,rfl,rfl⟩,fin,q⟩
 ·cases r1
  obtain ⟨its,rv,p,hz⟩:=I1.tuple hq
  refine wpAny_pyIter_tuple (show s1.heap.IsTuple a its.toArray from p) ?_
  exact ⟨s1.heap.objs.size,[s1.heap.objs.size],_,_,H1,rfl,I1.kept (t':=s1.toks) fun b o e=>yC _ e,zjb a _,⟨_,yI _ rfl,rfl,rfl⟩,fin,q⟩
 ·obtain ⟨t,rfl⟩:=r1
  cases ha:z.cps.all (·<128)
  ·refine wpAny_pyIter_wide ha ?_
   exact ⟨s1.heap.objs.size,[s1.heap.objs.size],_,_,H1,rfl,I1.kept (t':=s1.toks) fun b o e=>yC _ e,zix z t _ (.inr rfl),⟨_,yI _ rfl,rfl,rfl⟩,fin,q⟩
  ·refine wpAny_pyIter_ascii ha ?_
   exact ⟨s1.heap.objs.size,[s1.heap.objs.size],_,_,H1,rfl,I1.kept (t':=s1.toks) fun b o e=>yC _ e,zix z t _ (.inl rfl),⟨_,yI _ rfl,rfl,rfl⟩,fin,q⟩
theorem zb3 {l tg:Expr} {t:TE'} (hl:PE' X l t):PI' X tg l (zbq t):=by
 refine ⟨PI.weak (zo5 hl.h) ?_⟩
 rintro σ H R ⟨W,Hi,Γ,Q',g,h,fin⟩
 refine ⟨W,Hi,Γ,_,g,h,?_⟩
 rintro v H1 ⟨Hi1,d,Γ1,s1,g1,den,ds,e,q⟩
 cases d with
 | lst es =>
  cases e; obtain ⟨a,vs,rfl,h1,h2⟩:=den.lstI; exact .inl ⟨a,rfl,⟨vs,zy g1.sub h1⟩,fin _ H1 Hi1 Γ1 _ s1 g1 (znr h1 h2) q⟩
 | tup es =>
  cases e; obtain ⟨a,vs,rfl,h1,h2⟩:=den.tupI; exact .inr (.inl ⟨a,rfl,⟨vs,zaf g1.sub h1⟩,fin _ H1 Hi1 Γ1 _ s1 g1 (zpP h1 h2) q⟩)
 | str l =>
  cases e; refine .inr (.inr ⟨_,den.strI,?_⟩); rw [zaX]; exact fin _ H1 Hi1 Γ1 _ s1 g1 (zpQ l) q
 | _=>cases e
def zar (t:TA'):TI':=fun Γ Q=>t Γ fun ds Γ1=>∃ j:Int,ds=[.int j]/\-(2 ^ 62)<=j/\j<2 ^ 62/\Q ((List.range j.toNat).map fun k=>.int (0+(k:Nat))) Γ1
theorem zdl {K:W.Frag} {H:Hp} {vs:List V} {d:D} (h:zbv K H vs [d]):∃ v,vs=[v]/\Den K H v d:=by
 cases h with
 | cons r t=>cases t; exact ⟨_,rfl,r⟩
theorem znB {K:W.Frag} {H:Hp} {vs:List V} {d e:D} (h:zbv K H vs [d,e]):∃ v w,vs=[v,w]/\Den K H v d/\Den K H w e:=by
 cases h with
 | cons r t =>
  obtain ⟨w,rfl,q⟩:=zdl t; exact ⟨_,w,rfl,r,q⟩
theorem zch {a tg:Expr} {t:TA'} {p pos:Pos} (hm:X.mg "range"=none) (ha:PA' X [a] t) (hg:Gl X "range":=by rfl):PI' X tg (.Call (.Name "range" p) [a] [] pos) (zar t):=by
 refine ⟨PI.weak (zkO hg hm ha.pa (zP (zB ha.pl).1)) ?_⟩
 rintro σ H R ⟨W,Hi,Γ,Q',g,h,fin⟩
 refine ⟨W,Hi,Γ,_,g,h,?_⟩
 rintro vs H1 Hi1 Γ1 ds s1 g1 dl ⟨j,rfl,b1,b2,q⟩
 obtain ⟨v,rfl,den⟩:=zdl dl; rw [den.intI]; exact ⟨j,rfl,b1,b2,fin _ H1 Hi1 Γ1 _ s1 g1 (zpR 0 _) q⟩
def zl3 (src:List (Option Nat)) (Γ:Sts):Sts:=src.map fun o=>match o with
 | none=>.emp
 | some i=>match Γ[i]? with
  | some (.val d)=>.val d
  | _=>.emp
def voS:Slot->Slot
 | .val d=>.val d
 | _=>.emp
def vo (Γ:Sts):Sts:=Γ.map voS
def zeE (g:TG') (tc:TT') (te:TE') (Q:List D->Prop):List D->List D->Sts->Prop
 | [],acc,_=>Q acc
 | d :: ds,acc,Γ=>g d Γ fun Γ2=>tc Γ2 fun b Γ3=>if b=true then te Γ3 fun y Γ4=>zeE g tc te Q ds (acc ++ [y]) (vo Γ4) else zeE g tc te Q ds acc (vo Γ3)
def zad (ti:TI') (src:List (Option Nat)) (g:TG') (tc:TT') (te:TE'):TO':=fun Γ Q=>ti Γ fun ds Γ1=>ds.length<=sizeLine/\zeE g tc te (fun acc=>Q (.lst acc) Γ1) ds [] (zl3 src Γ1)
structure PTs' (X:Cx) (ifs:List Expr) (t:TT'):Prop where
 h:PTs X ifs (zqe X.K X.N.length t)
def zc0:TT':=fun Γ Q=>Q true Γ
theorem zb4:PTs' X [] zc0:=by
 refine ⟨?_⟩; intro pins s σ H Q I h; obtain ⟨W,Hi,Γ,Q',g,h,fin⟩:=h; exact zoT pins s σ H Q I (fin true H Hi Γ (zaI.refl _) g h)
theorem zmw {c:Expr} {t:TT'} (h:PT' X c t):PTs' X [c] t:=⟨zoS h.h⟩
theorem zdR {elt tg iter:Expr} {ifs:List Expr} {sc fsc:Scope} {ti:TI'} {g:TG'} {tc:TT'} {te:TE'} {N N':List Str} {src:List (Option Nat)} (B:Blk N N' src fsc sc) (hi:PI' X tg iter ti)
  (hg:∀ cl C s H fp pn,PG' (blk X N' sc cl C s H fp pn) tg g) (ht:∀ cl C s H fp pn,PTs' (blk X N' sc cl C s H fp pn) ifs tc) (he:∀ cl C s H fp pn,PE' (blk X N' sc cl C s H fp pn) elt te)
  (hx:X.xe=(fun _ _=>False):=by rfl) (hc:X.calm=true:=by rfl) (hN:X.N=N:=by rfl) (hs:X.env.scope=fsc:=by rfl)
  (hf:∀ x,foldedSetIterable iter X.env x=pure x:=by intro _; rfl):PO' X (.ListComp elt [⟨tg,iter,ifs,0⟩] sc pos) (zad ti src g tc te):=by
 refine ⟨PE.weak (zpg (g:=gOf X.K N'.length g) (tc:=zqe X.K N'.length tc) (te:=tOf X.K N'.length te) B hi.h (fun a b c d e f=>(hg a b c d e f).h) (fun a b c d e f=>(ht a b c d e f).h) (fun a b c d e f=>(he a b c d e f).h) hx hc hN hs hf) ?_⟩
 rintro σ H Q2 ⟨W,Hi,Γ,Q,gd,h,fin⟩
 refine ⟨W,Hi,Γ,_,gd,h,?_⟩
 rintro J H1 Hi1 Γ1 ds s1 g1 itd ⟨hlen,q⟩
 intro A hA
 -- the state between two turns
 have hn':src.length=N'.length:=B.len
 refine zhy (n:=ds.length) (fun i σ' H'=>∃ Hi' acc vs Γ',zaI Hi1 Hi'/\Fz Hi' H'/\(∀ b o,H1 b=some o->H' b=some o)/\(∀ b o,H1 b=some o->Hi' b=Hi1 b)/\Hi' A=none/\H' A=some (.lst vs)/\zbv X.K Hi' vs acc/\vs.length<=i/\σ'.length=N'.length /\
   (∀ (j:Nat) s,Γ'[j]?=some s->s=.emp\/∃ d,s=.val d/\∃ v,σ'[j]?=some (some v)/\Den X.K Hi' v d)/\zeE g tc te (fun acc=>Q (.lst acc) Γ1) (ds.drop i) acc Γ') ?_ ?_ ?_
 ·refine ⟨Hi1,[],[],zl3 src Γ1,zaI.refl _,(Ext.newO g1.fz hA _ (fun _ z=>by cases z)).fz,fun b o e=>zW hA _ b o e,fun b o e=>rfl,g1.sub.free hA,zo,.nil,yb _,?_,fun j s e=>?_,by simpa using q⟩
  ·unfold zt; rw [yF,hn']
  ·unfold zl3 at e
   rw [yE] at e
   cases hj:src[j]? with
   | none=>rw [hj] at e; cases e
   | some o =>
    rw [hj] at e
    cases o with
    | none=>cases e; exact .inl rfl
    | some i =>
     have e':(match Γ1[i]? with | some (.val d)=>Slot.val d | _=>.emp)=s:=Option.some.inj e
     cases hΓ:Γ1[i]? with
     | none=>rw [hΓ] at e'; exact .inl e'.symm
     | some sl =>
      rw [hΓ] at e'
      cases sl with
      | val d =>
       refine .inr ⟨d,e'.symm,?_⟩; obtain ⟨v,h1,h2⟩:=g1.val i d hΓ; refine ⟨v,?_,h2⟩; unfold zt; rw [yE,hj]
       show some ((some i).bind fun i=>(σ[i]?).join)=some (some v)
       show some ((σ[i]?).join)=some (some v)
       rw [h1]; rfl
      | emp=>exact .inl e'.symm
      | own o=>exact .inl e'.symm
      | bk _ _ _=>exact .inl e'.symm
 ·rintro i σ' H' hlt ⟨Hi',acc,vs,Γ',s2,s3,k1,k2,hA1,hA2,dl,hv,hl,hsl,q⟩
  have hd:ds.drop i=ds[i] :: ds.drop (i+1):=YS hlt
  rw [hd] at q; obtain ⟨go,yl⟩:=(itd Hi' H' s2 s3).1 i ds[i] (yB hlt)
  refine ⟨go,fun x H'' y=>?_⟩
  obtain ⟨Hi'',ex,den⟩:=yl x H'' y
  have gb:Good X.K N'.length ⟨H'',Hi'',[]⟩ Hi'' Γ' σ' H'':=by
   refine ⟨hl,ex.fz,fun b o e _=>e,fun b o e=>⟨o,e⟩,fun b o e=>rfl,fun j d e=>?_,fun j o e=>?_,fun j k o o' b e=>?_,fun j d b xs e=>?_⟩
   ·rcases hsl j _ e with z | ⟨d',z,v,h1,h2⟩
    ·cases z
    ·cases z; exact ⟨v,h1,h2.mono ex.hi⟩
   ·rcases hsl j _ e with z | ⟨d',z,_⟩ <;> cases z
   ·rcases hsl j _ e with z | ⟨d',z,_⟩ <;> cases z
   ·rcases hsl j _ e with z | ⟨d',z,_⟩ <;> cases z
  refine ⟨⟨H'',Hi'',[]⟩,Hi'',Γ',ds[i],_,gb,den,q,?_⟩; intro σ3 H3 Hi3 Γ3 s4 g3 q3; refine ⟨⟨H'',Hi'',[]⟩,Hi3,Γ3,_,g3,q3,?_⟩; intro b H4 Hi4 Γ4 s5 g4 q4
  -- what the state is behind a turn
  have back:∀ {Γ5:Sts} {Hi5 H5:Hp},zaI Hi4 Hi5->Good X.K N'.length ⟨H'',Hi'',[]⟩ Hi5 Γ5 σ3 H5 ->
    zaI Hi1 Hi5/\Fz Hi5 H5/\(∀ b o,H1 b=some o->H5 b=some o)/\(∀ b o,H1 b=some o->Hi5 b=Hi1 b)/\Hi5 A=none/\H5 A=some (.lst vs)/\zaI Hi' Hi5:=fun {Γ5 Hi5 H5} s6 g5=>by
   have sx:zaI Hi' Hi5:=ex.hi.trans (s4.trans (s5.trans s6))
   have hA3:H'' A=some (.lst vs):=ex.h _ _ hA2
   refine ⟨s2.trans sx,g5.fz,fun b o e=>g5.keep b o (ex.h _ _ (k1 b o e)) (by simp),fun b o e=>?_,?_,g5.keep A _ hA3 (by simp),sx⟩
   ·rw [g5.fro b o (ex.h _ _ (k1 b o e))]
    show Hi'' b=Hi1 b
    rw [ex.fro b o (k1 b o e),k2 b o e]
   ·rw [g5.fro A _ hA3]
    show Hi'' A=none
    rw [ex.fro A _ hA2,hA1]
  have sl:∀ {Γ5:Sts} {Hi5 H5:Hp},Good X.K N'.length ⟨H'',Hi'',[]⟩ Hi5 Γ5 σ3 H5->∀ (j:Nat) s,(vo Γ5)[j]?=some s->s=.emp\/∃ d,s=.val d/\∃ v,σ3[j]?=some (some v)/\Den X.K Hi5 v d:=fun {Γ5 Hi5 H5} g5 j s e=>by
   unfold vo at e; rw [yE] at e
   cases hj:Γ5[j]? with
   | none=>rw [hj] at e; cases e
   | some sl =>
    rw [hj] at e
    cases sl with
    | val d =>
     cases e; exact .inr ⟨d,rfl,g5.val j d hj⟩
    | emp=>cases e; exact .inl rfl
    | own o=>cases e; exact .inl rfl
    | bk _ _ _=>cases e; exact .inl rfl
  cases b with
  | false =>
   simp only [yn,if_false] at q4 ⊢; obtain ⟨b1,b2,b3,b4,b5,b6,b7⟩:=back (zaI.refl _) g4
   exact ⟨Hi4,acc,vs,vo Γ4,b1,b2,b3,b4,b5,b6,dl.mono b7,by omega,g4.len,sl g4,q4⟩
  | true =>
   simp only [if_true] at q4 ⊢; refine ⟨⟨H'',Hi'',[]⟩,Hi4,Γ4,_,g4,q4,?_⟩
   rintro y' H5 ⟨Hi5,dy,Γ5,s6,g5,den5,q5⟩
   obtain ⟨b1,b2,b3,b4,b5,b6,b7⟩:=back s6 g5
   refine ⟨vs,b6,by omega,Hi5,acc ++ [dy],vs ++ [y'],vo Γ5,b1,?_,?_,b4,b5,zo,zaM (dl.mono b7) (.cons den5 .nil),by rw [yY]; simp; omega,g5.len,sl g5,q5⟩
   ·refine ⟨fun b o e=>?_,fun b xs e=>?_⟩
    ·rw [zr (fun z=>by rw [z,b5] at e; cases e)]
     exact b2.sub b o e
    ·by_cases hb:b=A
     ·subst hb; rw [zo] at e; cases e
     ·rw [zr hb] at e; exact b2.tups b xs e
   ·intro b o e
    rw [zr (zX e hA)]; exact b3 b o e
 ·rintro σ' H' ⟨Hi',acc,vs,Γ',s2,s3,k1,k2,hA1,hA2,dl,hv,hl,hsl,q⟩
  refine ⟨(itd Hi' H' s2 s3).2,?_⟩; rw [YM (yH _)] at q
  have ex:Ext Hi1 H1 Hi' H':=⟨s2,k1,s3,k2⟩
  refine fin A H' Hi' Γ1 (.lst acc) (s1.trans s2) (g1.ext ex) ⟨hA1,?_,⟨fun j o' e z=>?_,fun j d xs e=>?_⟩,vs,hA2,dl⟩ q
  ·cases hq:W.H₀ A with
   | none=>rfl
   | some w =>
    obtain ⟨w',hw⟩:=g1.there A w hq
    rw [hA] at hw; cases hw
  ·obtain ⟨a,h1,_,_,h4⟩:=g1.own j o' e
   rw [z] at h1; cases h1; obtain ⟨w,hw⟩:=h4.there
   rw [hA] at hw; cases hw
  ·obtain ⟨w,hw⟩:=(g1.bk j d A xs e).at_.there
   rw [hA] at hw; cases hw
abbrev Sp':=List D->(Res->Prop)->Prop
def zhS (K:W.Frag) (sp:Sp'):Sp:=fun vs H Q2 _=>∃ Hi ds Q,Fz Hi H/\zbv K Hi vs ds/\sp ds Q/\∀ Hi' H' v r,Ext Hi H Hi' H'->zsg K H Hi' H' v r->Q r->Q2 v H'
def zae (sp:Sp') (t:TA'):TE':=fun Γ Q=>t Γ fun ds Γ1=>sp ds fun r=>Q r.toD Γ1
def zF (sp:Sp') (t:TA'):TO':=fun Γ Q=>t Γ fun ds Γ1=>sp ds fun r=>∃ o,r=.own o/\Q o Γ1
variable {k:Nat} {f:Addr} {fd:FuncData} {ps:List Str} {sp:Sp'} {x:Str} {p:Pos} {e:Expr} {es:List Expr} {t:TA'}
theorem zcQ {K:W.Frag} {n:Nat} {W:Wd} {Hi H Hi' H':Hp} {Γ:Sts} {σ:St} {a:Addr} {o:OD} (g:Good K n W Hi Γ σ H) (ex:Ext Hi H Hi' H') (h1:Hi' a=none) (h2:H a=none) (h3:zbM K Hi' H' a o):New K n W Hi' Γ σ H' a o:=by
 refine ⟨h1,?_,⟨fun j o' e z=>?_,fun j d xs e=>?_⟩,h3⟩
 ·cases q:W.H₀ a with
  | none=>rfl
  | some w =>
   obtain ⟨w',hw⟩:=g.there a w q
   rw [h2] at hw; cases hw
 ·obtain ⟨b,q1,_,_,q4⟩:=g.own j o' e
  rw [z] at q1; cases q1; obtain ⟨w,hw⟩:=q4.there
  rw [h2] at hw; cases hw
 ·obtain ⟨w,hw⟩:=(g.bk j d a xs e).at_.there
  rw [h2] at hw; cases hw
theorem zmQ (F:FnOk X.prog X.w X.K X.mg X.base CX0 k f fd ps (zhS X.K sp)) (hr:Room k X.A) (hm:X.mg x=some (.ref f)) (hk:W.keepIn X.K (.ref f)=true) (hb:zcb X.K fd ps [])
  (ha:PA' X (e :: es) t) (hg:Gl X x:=by rfl) (hdb:(x == ("__debug__":Str))=false:=by decide) :
  PE' X (.Call (.Name x p) (e :: es) [] pos) (zae sp t):=by
 refine ⟨PE.weak (zgh (E:=E0) (dvs:=[]) F hr hg hm hk hb .nil zgi ha.pa hdb (zP (zB ha.pl).1) (zaa (zB ha.pl).2)) ?_⟩
 rintro σ H Q ⟨W,Hi,Γ,Q',g,h,fin⟩
 refine ⟨W,Hi,Γ,_,g,h,?_⟩; intro vs H1 Hi1 Γ1 ds s1 g1 dl q; rw [ym]; refine ⟨Hi1,ds,_,g1.fz,dl,q,?_⟩; intro Hi2 H2 v r ex ro q2
 cases r with
 | val d=>exact fin v H2 ⟨Hi2,d,Γ1,s1.trans ex.hi,g1.ext ex,ro,q2⟩
 | own o =>
  obtain ⟨a,rfl,h1,h2,h3⟩:=ro; have nw:=zcQ g1 ex h1 h2 h3; obtain ⟨u,hu⟩:=h3.there; exact fin _ H2 ⟨upd Hi2 a u,_,Γ1,s1.trans (ex.hi.trans (zW h1 u)),(g1.ext ex).freezeA nw.hi nw.h0 nw.ne hu,h3.den h1 hu,q2⟩
 | bk d o =>
  obtain ⟨b,dv,hol,h1,h2,h3⟩:=ro; have nw:=zcQ g1 ex h1 h2 h3; obtain ⟨u,hu⟩:=h3.there; exact fin _ H2 ⟨upd Hi2 b u,_,Γ1,s1.trans (ex.hi.trans (zW h1 u)),(g1.ext ex).freezeA nw.hi nw.h0 nw.ne hu,hol b _ v o (h3.den h1 hu) (dv.mono (zW h1 u)),q2⟩
theorem zo3 (F:FnOk X.prog X.w X.K X.mg X.base CX0 k f fd ps (zhS X.K sp)) (hr:Room k X.A) (hm:X.mg x=some (.ref f)) (hk:W.keepIn X.K (.ref f)=true) (hb:zcb X.K fd ps [])
  (ha:PA' X (e :: es) t) (hg:Gl X x:=by rfl) (hdb:(x == ("__debug__":Str))=false:=by decide) :
  PO' X (.Call (.Name x p) (e :: es) [] pos) (zF sp t):=by
 refine ⟨PE.weak (zgh (E:=E0) (dvs:=[]) F hr hg hm hk hb .nil zgi ha.pa hdb (zP (zB ha.pl).1) (zaa (zB ha.pl).2)) ?_⟩
 rintro σ H Q ⟨W,Hi,Γ,Q',g,h,fin⟩
 refine ⟨W,Hi,Γ,_,g,h,?_⟩; intro vs H1 Hi1 Γ1 ds s1 g1 dl q; rw [ym]; refine ⟨Hi1,ds,_,g1.fz,dl,q,?_⟩
 rintro Hi2 H2 v r ex ro ⟨o,rfl,q2⟩
 obtain ⟨a,rfl,h1,h2,h3⟩:=ro; exact fin a H2 Hi2 Γ1 o (s1.trans ex.hi) (g1.ext ex) (zcQ g1 ex h1 h2 h3) q2
end
def zcp (N:List Str) (ds:List D):Sts:=ds.map .val ++ List.replicate (N.length-ds.length) .emp
section
variable {P:Program} {w:World} {K:W.Frag} {mg:Str->Option Value} {base:Heap}
theorem Fun.ok' {x qual:Str} {st:Stmt} {f:Addr} {fd:FuncData} {N ps:List Str} {k:Nat} {sp:Sp'} (F:Fun K x qual st f fd) (S:FnScope N ps (zm st)) (len:∀ ds Q,sp ds Q->ds.length=ps.length)
  (hbody:∀ (cdv:Value) (A:Around) (outer:List Env) (s:Shared) (H:Hp) (E:XK),Room k (A.deeper (PyProof.Rows.envOfC qual (zm st) s.heap.objs.size f cdv))->∀ ds Q,sp ds Q ->
   ∃ t,PSs' (zfU CX0 P w K mg base N qual (zm st) f cdv A outer s H E).nox (zY st) t/\t { nx:=fun _=>Q (.val .non),rt:=fun r _=>Q r } (zcp N ds)):FnOk P w K mg base CX0 (k+1) f fd ps (zhS K sp):=by
 refine F.ok S (fun vs H Q E h=>?_) (fun cdv A outer s H vs Q E hr h=>?_)
 ·obtain ⟨Hi,ds,Q',_,dl,h,_⟩:=h
  rw [zn dl]; exact len ds Q' h
 obtain ⟨Hi,ds,Q',sb,dl,h,fin⟩:=h; obtain ⟨t,h1,h2⟩:=hbody cdv A outer s H E hr ds Q' h
 have hlen:ds.length=ps.length:=len ds Q' h
 have hpl:ps.length<=N.length:=by have:=yo List.length S.pre; rw [ye] at this; omega
 have hvl:=zn dl; refine ⟨_,h1.h,⟨H,Hi,[]⟩,Hi,zcp N ds,_,?_,h2,?_⟩
 ·refine ⟨?_,sb,fun b o e _=>e,fun b o e=>⟨o,e⟩,fun b o e=>rfl,fun j d e=>?_,fun j o e=>?_,fun j k o o' b e=>?_,fun j d b xs e=>?_⟩
  ·unfold L2.start
   show _=N.length
   rw [yY,yF,Yy]; omega
  all_goals
   unfold zcp at e
   by_cases hj:j<ds.length
   ·rw [yV (by simpa using hj),yE,yB hj] at e
    try cases e
    try
     obtain ⟨v,e1,e2⟩:=zR dl (yB hj); refine ⟨v,?_,e2⟩; unfold L2.start
     rw [yV (by rw [yF]; omega),yE,e1]
     rfl
   ·rw [ya (by simpa using hj),Yq] at e
    split at e <;> cases e
 ·refine ⟨fun σ' H' Hi' Γ' s1 g1 q=>?_,fun _ _ _ _ _ _ q=>q.elim,fun _ _ _ _ _ _ q=>q.elim,fun v σ' H' Hi' Γ' r s1 g1 ro q=>?_⟩
  ·exact fin Hi' H' .non (.val .non) ⟨s1,fun b o e=>g1.keep b o e (by simp),g1.fz,fun b o e=>g1.fro b o e⟩ .non q
  ·exact fin Hi' H' v r ⟨s1,fun b o e=>g1.keep b o e (by simp),g1.fz,fun b o e=>g1.fro b o e⟩ ro q
end
end PL
namespace L2
open PySem PySem.Spec PyProof.Rows
section
variable {X:Cx}
theorem znH {vs:List Value} {bs:List Bool} (r:zaK (bs.map V.bl) vs) {i:Nat} {v:Value} (h:vs[i]?=some v):v=.bool (bs.getD i false):=by
 obtain ⟨b,hb⟩:∃ b,bs[i]?=some b:=by
  have hl:=r.length; rw [yF] at hl
  have hi:i<bs.length:=by rw [hl]; exact (yD.mp h).1
  exact ⟨bs[i],yB hi⟩
 obtain ⟨u,e1,e2⟩:=zaK.get (i:=i) (x:=.bl b) r (by rw [yE,hb]; rfl)
 rw [h] at e1; cases e1; cases e2; rw [List.getD_eq_getElem?_getD,hb]; rfl
theorem zlS (bs:List Bool):((List.range bs.length).all fun i=>bs.getD i false)=bs.all id:=by
 rw [Yv,Yr,Yr]; constructor
 ·intro h b hb
  obtain ⟨i,hi,e⟩:=yp hb
  have:=h i (List.mem_range.mpr hi)
  rw [List.getD_eq_getElem?_getD,yB hi,e] at this; exact this
 ·intro h i hi
  have hi':=List.mem_range.mp hi; rw [List.getD_eq_getElem?_getD,yB hi']; exact h _ (List.getElem_mem hi')
theorem zjY {pins:List (Addr × Obj)} {σ:St} {H:Hp} {s:Shared} {a:Addr} {bs:List Bool} (hc:X.calm=true) (I:Inv X pins σ H s) (hq:SqL X.K H a (bs.map V.bl)) {E:Value->Shared->Prop} (R:Bool->Bool->Prop) (f:(Nat->Bool)->List Nat->Bool) {Q:Value->Shared->Prop}
  (fin:∀ h' tk,Inv X pins σ H { s with heap:=h',toks:=tk }->Q (.bool (f (fun i=>bs.getD i false) (List.range bs.length))) { s with heap:=h',toks:=tk }) :
  wpAny (model X.prog X.w) X.A.in1 (pyIter (.ref a)) (fun it s₂=>∃ I fp wr n P St tr,it=.ref I/\Walks X.prog X.w X.A.in1 I fp wr n P St/\St 0 s₂.heap/\TruthOf X.prog X.w X.A.in1 P tr /\
   ∀ h' tk,(∀ b o,b ∉ wr->s₂.heap.get? b=some o->h'.get? b=some o)->Q (.bool (f tr (List.range n))) { s₂ with heap:=h',toks:=tk }) E s:=by
 obtain ⟨its,rv,p,hz⟩:=I.list hq
 have hlen:its.length=bs.length:=by have:=rv.length; rw [yF] at this; exact this.symm
 have hne:a≠s.heap.objs.size:=by
  obtain ⟨o,ho,_⟩:=p.isList; exact yU (yM ho)
 refine wpAny_pyIter_list p.isList ?_
 refine ⟨s.heap.objs.size,_,_,_,_,_,fun i=>bs.getD i false,rfl,Walks.list (show X.A.in1.handled=none from I.ok.hd hc) s.heap.objs.size a hne its.toArray,⟨⟨_,yI _ rfl,rfl,rfl⟩,p.isList.at fun o e=>yC _ e⟩,?_,?_⟩
 ·intro i v s' Q' E' hP hQ
  have hv:its[i]?=some v:=by simpa using hP
  rw [znH rv hv]; exact Yz hQ
 ·intro h' tk kp
  have z:=fin h' tk (I.kept (t':=tk) fun b o e=>kp b o (by simp; exact yU (yM e)) (yC _ e))
  have e:its.toArray.size=bs.length:=by simpa using hlen
  rw [e]; exact z
theorem zfH (hc:X.calm=true):zcW X (.builtin "all") (fun xs H Q=>∃ (a:Addr) (bs:List Bool),xs=[.ref a]/\SqL X.K H a (bs.map V.bl)/\Q (.bl (bs.all id)) H):=by
 intro pins s σ H xs us Q I r h; obtain ⟨a,bs,rfl,hq,q⟩:=h; obtain ⟨u,rfl,rx⟩:=zcZ r; cases rx
 refine PySem.call_all_walk (zjY hc I hq (fun _ _=>True) (fun tr l=>l.all tr) fun h' tk I'=>⟨.bl _,H,I',rfl,?_⟩)
 rw [zlS]; exact q
theorem zkz (r:Addr) (a b:Int) (t u v:Tok) (i:Int) (t':Tok):Meets (Builtin.«range.__contains__» ⟨[.ref r,.int i t'],[]⟩) (fun _ R s=>s.heap.get? r=some { cls:=.type "range",dict:=none,data:=.fields #[.int a t,.int b u,.int 1 v],slots:=#[] } /\
  R (.ok (.ret (.bool (Builtin.Range.rangePlace? a b 1 i).isSome))) s) :=
 .of_wp fun prog w A R s h=>by obtain ⟨hp,g,d,tk,os⟩:=s; obtain ⟨hl,h⟩:=h; wp_walk; exact ⟨_,rfl,h⟩
theorem zjw (a b i:Int):(Builtin.Range.rangePlace? a b 1 i).isSome=decide (a<=i/\i<b):=by
 unfold Builtin.Range.rangePlace?
 have h1:(1:Int) > 0:=by decide
 have h2:(i-a) % 1=0:=Int.emod_one _
 simp only [h1,if_true,h2,beq_self_eq_true,Bool.and_true]
 by_cases h:a<=i/\i<b
 ·have e:(decide (a<=i) && decide (i<b))=true:=by simp [h.1,h.2]
  rw [yN e,decide_eq_true h]; rfl
 ·have e:¬ (decide (a<=i) && decide (i<b))=true:=by
   intro z; simp only [Ye,YX] at z; exact h z
  rw [yK e,yk h]; rfl
def zvj (neg:Bool):R2:=fun x y H Q=>∃ i p lo hi,x=.int i/\y=.ref p/\Rd H p (.rng lo hi)/\Q (.bl (if neg then !decide (lo<=i/\i<hi) else decide (lo<=i/\i<hi))) H
theorem zg1:OpR X (compareOp .NotIn) (zvj true):=by
 intro pins s σ H x y v u Q I rx ry h; obtain ⟨i,p,lo,hi,rfl,rfl,hp,q⟩:=h; obtain ⟨t,rfl⟩:=rx; cases ry; obtain ⟨t1,t2,t3,e⟩:=hp.ok I.hok; refine PySem.SeqRoads2.notIn_meets ⟨_,e,rfl⟩ F.slot_range_contains F.entry_range_contains (F.args_range_contains_2 _ _) (zkz p lo hi t1 t2 t3 i t) ⟨e,_,rfl,⟨.bl _,H,I,rfl,?_⟩⟩; rw [zjw]; exact q
def zsk (K:W.Frag) (H:Hp):V->String->Prop
 | .non,t=>t="NoneType"
 | .bl _,t=>t="bool"
 | .int _,t=>t="int"
 | .str _,t=>t="str"
 | .ref a,t=>(t="list"/\∃ xs,SqL K H a xs)\/(t="tuple"/\∃ xs,SqT K H a xs)\/(t="dict"/\((∃ kvs,Rd H a (.dK kvs))\/∃ kvs,Rd H a (.dT kvs)))
 | _,_=>False
end
end L2
namespace PL
open PySem L2
section
variable {X:Cx} {K:W.Frag}
theorem zfh {g:Int->Int->V} (g':Int->Int->D) (hg:∀ i j Hi,Den K Hi (g i j) (g' i j)):zhL K (rI0 g) (fun x y Q=>∃ i j,x=.int i/\y=.int j/\Q (g' i j)):=by
 rintro Hi H x y dx dy Q Q2 s d1 d2 ⟨i,j,rfl,rfl,q⟩ fin
 exact ⟨i,j,d1.intI,d2.intI,fin Hi H _ _ (Ext.refl s) (hg i j Hi) q⟩
theorem ziR {C:Int->Int->Prop} {g:Int->Int->V} (g':Int->Int->D) (hg:∀ i j Hi,Den K Hi (g i j) (g' i j)):zhL K (rI C g) (fun x y Q=>∃ i j,x=.int i/\y=.int j/\C i j/\Q (g' i j)):=by
 rintro Hi H x y dx dy Q Q2 s d1 d2 ⟨i,j,rfl,rfl,c,q⟩ fin
 exact ⟨i,j,d1.intI,d2.intI,c,fin Hi H _ _ (Ext.refl s) (hg i j Hi) q⟩
def znT (g:Int->Int->D):R2':=fun x y Q=>∃ i j,x=.int i/\y=.int j/\Q (g i j)
def rI' (C:Int->Int->Prop) (g:Int->Int->D):R2':=fun x y Q=>∃ i j,x=.int i/\y=.int j/\C i j/\Q (g i j)
theorem ztM:Op2 X (binaryOp .Add) (znT fun i j=>.int (i+j)):=⟨_,zrv,zfh _ fun i j _=>.int _⟩
theorem zmV:Op2 X (binaryOp .Sub) (znT fun i j=>.int (i-j)):=⟨_,zrp,zfh _ fun i j _=>.int _⟩
theorem ztH:Op2 X (binaryOp .Mult) (rI' zj7 fun i j=>.int (i * j)):=⟨_,zrr,ziR _ fun i j _=>.int _⟩
theorem zdA:Op2 X (binaryOp .FloorDiv) (rI' znK fun i j=>.int (i / j)):=⟨_,zpp,ziR _ fun i j _=>.int _⟩
theorem zcx:Op2 X (binaryOp .Mod) (rI' (fun _ j=>0<j) fun i j=>.int (i % j)):=⟨_,zrs,ziR _ fun i j _=>.int _⟩
theorem ztI:Op2 X (compareOp .Lt) (znT fun i j=>.bl (decide (i<j))):=⟨_,ztC,zfh _ fun i j _=>.bl _⟩
theorem zsI:Op2 X (compareOp .LtE) (znT fun i j=>.bl (decide (i<=j))):=⟨_,ztD,zfh _ fun i j _=>.bl _⟩
theorem zrz:Op2 X (compareOp .Gt) (znT fun i j=>.bl (decide (j<i))):=⟨_,ztE,zfh _ fun i j _=>.bl _⟩
def zjs:R2':=fun x y Q=>∃ l m,x=.str l/\y=.str m/\l.length+m.length<=sizeLine/\Q (.str (l ++ m))
theorem zrB:Op2 X (binaryOp .Add) zjs:=⟨_,zjA,by
 rintro Hi H x y dx dy Q Q2 s d1 d2 ⟨l,m,rfl,rfl,hl,q⟩ fin
 refine ⟨_,_,d1.strI,d2.strI,by rw [zc9,zc9]; exact hl,?_⟩
 rw [zqB]; exact fin Hi H _ _ (Ext.refl s) (.str _) q⟩
def eqS:D->D->Option Bool
 | .non,.non=>some true
 | .non,.int _=>some false
 | .non,.bl _=>some false
 | .non,.str _=>some false
 | .int _,.non=>some false
 | .bl _,.non=>some false
 | .str _,.non=>some false
 | .int i,.int j=>some (decide (i=j))
 | .bl i,.bl j=>some (decide (i=j))
 | .str i,.str j=>some (decide (i=j))
 | .int _,.str _=>some false
 | .str _,.int _=>some false
 | .bl _,.str _=>some false
 | .str _,.bl _=>some false
 | _,_=>none
inductive Scl (K:W.Frag) (Hi:Hp) (x:V):D->Prop where
 | n (h:x=.non):Scl K Hi x .non
 | b (b:Bool) (h:x=.bl b):Scl K Hi x (.bl b)
 | i (i:Int) (h:x=.int i):Scl K Hi x (.int i)
 | s (l:List Nat) (h:x=.str (st l)):Scl K Hi x (.str l)
theorem zej {dx dy:D} {b:Bool} (h:eqS dx dy=some b):dx=.non\/(∃ b,dx=.bl b)\/(∃ i,dx=.int i)\/∃ l,dx=.str l:=by
 cases dx with
 | non=>exact .inl rfl
 | bl b=>exact .inr (.inl ⟨b,rfl⟩)
 | int i=>exact .inr (.inr (.inl ⟨i,rfl⟩))
 | str l=>exact .inr (.inr (.inr ⟨l,rfl⟩))
 | _=>cases dy <;> exact nomatch h
theorem zlu (dx dy:D) {b:Bool} (h:eqS dx dy=some b):∃ c,eqS dy dx=some c:=by
 rcases zej h with rfl | ⟨i,rfl⟩ | ⟨i,rfl⟩ | ⟨i,rfl⟩ <;> cases dy <;> first | exact ⟨_,rfl⟩ | exact nomatch h
theorem Den.scl {Hi:Hp} {x:V} {d:D} (d1:Den K Hi x d) (h:d=.non\/(∃ b,d=.bl b)\/(∃ i,d=.int i)\/∃ l,d=.str l):Scl K Hi x d:=by
 rcases h with rfl | ⟨i,rfl⟩ | ⟨i,rfl⟩ | ⟨i,rfl⟩
 ·exact .n d1.nonI
 ·exact .b _ d1.blI
 ·exact .i _ d1.intI
 ·exact .s _ d1.strI
theorem zom {Hi:Hp} {x y:V} {dx dy:D} {b:Bool} (d1:Den K Hi x dx) (d2:Den K Hi y dy) (h:eqS dx dy=some b):zoB x y=true/\decide (x=y)=b:=by
  have s1:=d1.scl (zej h); have s2:=d2.scl (zej (zlu _ _ h).choose_spec)
  cases s1 <;> rename_i e1 <;> subst e1 <;> cases s2 <;> rename_i e2 <;> subst e2 <;> first
    | (exact yQ (show (none:Option Bool)=some b from h) (fun z=>nomatch z))
    | (refine ⟨rfl,?_⟩
       have h':=Option.some.inj h
       subst h'
       first
         | rfl
         | (exact decide_eq_decide.mpr ⟨fun z=>V.int.inj z,fun z=>yo V.int z⟩)
         | (exact decide_eq_decide.mpr ⟨fun z=>V.bl.inj z,fun z=>yo V.bl z⟩)
         | (exact decide_eq_decide.mpr ⟨fun z=>st_inj (V.str.inj z),fun z=>yo (fun l=>V.str (st l)) z⟩)
         | (exact yk (fun z=>nomatch z)))
def znS (neg:Bool):R2':=fun x y Q=>∃ c l,x=.str [c]/\y=.str l/\Q (.bl (if neg then !decide (c ∈ l) else decide (c ∈ l)))
theorem ztL:Op2 X (compareOp .In) (znS false):=⟨_,zkZ,by
 rintro Hi H x y dx dy Q Q2 s d1 d2 ⟨c,l,rfl,rfl,q⟩ fin
 refine ⟨_,_,d1.strI,d2.strI,?_⟩; rw [zoi]; exact fin Hi H _ _ (Ext.refl s) (.bl _) q⟩
theorem zmX:Op2 X (compareOp .NotIn) (znS true):=⟨_,zg0,by
 rintro Hi H x y dx dy Q Q2 s d1 d2 ⟨c,l,rfl,rfl,q⟩ fin
 refine ⟨_,_,d1.strI,d2.strI,?_⟩; rw [zoi]; exact fin Hi H _ _ (Ext.refl s) (.bl _) q⟩
def zmv (neg:Bool):R2':=fun x y Q=>∃ i lo hi,x=.int i/\y=.rng lo hi/\Q (.bl (if neg then !decide (lo<=i/\i<hi) else decide (lo<=i/\i<hi)))
theorem zmY:Op2 X (compareOp .NotIn) (zmv true):=⟨_,zg1,by
 rintro Hi H x y dx dy Q Q2 s d1 d2 ⟨i,lo,hi,rfl,rfl,q⟩ fin
 cases d2 with
 | rng h=>exact ⟨i,_,lo,hi,d1.intI,rfl,zdO s.sub h,fin Hi H _ _ (Ext.refl s) (.bl _) q⟩⟩
def zgS (neg:Bool):R2':=fun x y Q=>y=.non/\∃ b:Bool,(b=true↔x=.non)/\Q (.bl (if neg then !b else b))
theorem ztJ:Op2 X (compareOp .Is) (zgS false):=⟨_,zrt,by
 rintro Hi H x y dx dy Q Q2 s d1 d2 ⟨rfl,b,e,q⟩ fin
 refine ⟨d2.nonI,?_⟩
 have z:decide (x=.non)=b:=by
  rw [Yv,e,YX]; exact d1.non_iff
 rw [z]; exact fin Hi H _ _ (Ext.refl s) (.bl _) q⟩
theorem zee:Op2 X (compareOp .IsNot) (zgS true):=⟨_,zpo,by
 rintro Hi H x y dx dy Q Q2 s d1 d2 ⟨rfl,b,e,q⟩ fin
 refine ⟨d2.nonI,?_⟩
 have z:decide (x=.non)=b:=by
  rw [Yv,e,YX]; exact d1.non_iff
 rw [z]; exact fin Hi H _ _ (Ext.refl s) (.bl _) q⟩
def zlW:R2':=fun x y Q=>∃ i,y=.int i/\((∃ ds d,x=.lst ds/\atI ds i=some d/\Q d)\/(∃ ds d,x=.tup ds/\atI ds i=some d/\Q d)\/∃ l c,x=.str l/\l.length<=sizeLine/\atI l i=some c/\Q (.str [c]))
theorem zlR {Hi:Hp} {vs:List V} {ds:List D} {i:Int} {d:D} (r:zbv K Hi vs ds) (h:atI ds i=some d):∃ v,atI vs i=some v/\Den K Hi v d:=by
 unfold atI at h ⊢
 rw [zn r]
 cases e:ixN ds.length i with
 | none=>rw [e] at h; cases h
 | some j =>
  rw [e] at h
  obtain ⟨v,h1,h2⟩:=zR r (show ds[j]?=some d from h)
  exact ⟨v,h1,h2⟩
theorem ztU:Ixs X zlW:=⟨_,zrT,by
 rintro Hi H x y dx dy Q Q2 s d1 d2 ⟨i,rfl,h⟩ fin
 rcases h with ⟨ds,d,rfl,e,q⟩ | ⟨ds,d,rfl,e,q⟩ | ⟨l,c,rfl,hl,e,q⟩
 ·obtain ⟨a,vs,rfl,h1,h2⟩:=d1.lstI
  obtain ⟨v,h3,h4⟩:=zlR h2 e; exact .inl ⟨a,vs,i,v,rfl,d2.intI,zy s.sub h1,h3,fin Hi H _ _ (Ext.refl s) h4 q⟩
 ·obtain ⟨a,vs,rfl,h1,h2⟩:=d1.tupI
  obtain ⟨v,h3,h4⟩:=zlR h2 e; exact .inr (.inl ⟨a,vs,i,v,rfl,d2.intI,zaf s.sub h1,h3,fin Hi H _ _ (Ext.refl s) h4 q⟩)
 ·refine .inr (.inr ⟨_,i,c,d1.strI,d2.intI,by rw [zc9]; exact hl,by rw [zaX]; exact e,fin Hi H _ _ (Ext.refl s) (.str [c]) q⟩)⟩
def ze2 {α:Type} (xs:List α) (lo hi:Option Int):List α:=(xs.drop (HT.sIx xs.length 0 lo)).take (HT.sIx xs.length xs.length hi-HT.sIx xs.length 0 lo)
def zmq:RS':=fun x lo hi Q=>∃ l,x=.str l/\l.length<=sizeLine/\((lo=none/\∃ n,hi=some n/\0<=n/\Q (.str (l.take n.toNat)))\/(hi=none/\∃ n,lo=some n/\0<=n/\Q (.str (l.drop n.toNat))))
theorem zte:Sli X zmq:=⟨_,zqH,by
 rintro Hi H x dx lo hi Q Q2 s d1 ⟨l,rfl,hl,h⟩ fin
 refine ⟨st l,d1.strI,by rw [zc9]; exact hl,?_⟩
 rcases h with ⟨rfl,n,rfl,hn,q⟩ | ⟨rfl,n,rfl,hn,q⟩
 ·obtain ⟨m,rfl⟩:=YA hn
  rw [zmj]; exact fin Hi H _ _ (Ext.refl s) (.str _) q
 ·obtain ⟨m,rfl⟩:=YA hn
  rw [zjj]; exact fin Hi H _ _ (Ext.refl s) (.str _) q⟩
def zjo:RS':=fun x lo hi Q=>∃ ds,x=.tup ds/\Q (.tup (ze2 ds lo hi))
def zmr:RS':=fun x lo hi Q=>∃ ds,x=.lst ds/\Q (.lst (ze2 ds lo hi))
theorem zlF {Hi:Hp} {vs:List V} {ds:List D} {lo hi:Option Int} (r:zbv K Hi vs ds):zbv K Hi (zlG vs lo hi) (ze2 ds lo hi):=by
 unfold zlG ze2; rw [zn r]; exact zfb _ (zfc _ r)
theorem zqJ:Sli X zmr:=⟨_,zoz,by
 rintro Hi H x dx lo hi Q Q2 s d1 ⟨ds,rfl,q⟩ fin
 obtain ⟨a,vs,rfl,h1,h2⟩:=d1.lstI
 refine ⟨a,vs,rfl,zy s.sub h1,fun p hp=>?_⟩
 have e:=Ext.new s hp (.lst (zlG vs lo hi)); exact fin _ _ _ _ e (Den.mkL (SqL.of zo) (zlF (h2.mono e.hi))) q⟩
def zfB:RC':=fun ds Q=>∃ d,ds=[d]/\((∃ l,d=.str l/\l.length<=sizeLine/\Q (.int (l.length:Nat)))\/(∃ es,d=.lst es/\Q (.int (es.length:Nat)))\/∃ es,d=.tup es/\Q (.int (es.length:Nat)))
theorem zup:Cal X (.builtin "len") zfB:=⟨_,zhE.or zhF,by
 rintro Hi H vs ds Q Q2 s dl ⟨d,rfl,h⟩ fin
 obtain ⟨v,rfl,den⟩:=zdl dl
 rcases h with ⟨l,rfl,hl,q⟩ | ⟨es,rfl,q⟩ | ⟨es,rfl,q⟩
 ·refine .inl ⟨_,by rw [den.strI],by rw [zc9]; exact hl,?_⟩
  rw [zc9]; exact fin Hi H _ _ (Ext.refl s) (.int _) q
 ·obtain ⟨a,us,rfl,h1,h2⟩:=den.lstI
  refine .inr ⟨a,us,rfl,.inl (zy s.sub h1),?_⟩; rw [zn h2]; exact fin Hi H _ _ (Ext.refl s) (.int _) q
 ·obtain ⟨a,us,rfl,h1,h2⟩:=den.tupI
  refine .inr ⟨a,us,rfl,.inr (zaf s.sub h1),?_⟩; rw [zn h2]; exact fin Hi H _ _ (Ext.refl s) (.int _) q⟩
def zkC:RC':=fun ds Q=>∃ l n,ds=[.str l]/\PySem.intText? (st l)=some n/\l.length<=640/\Q (.int n)
theorem zuq:Cal X (.type "int") zkC:=⟨_,zhG,by
 rintro Hi H vs ds Q Q2 s dl ⟨l,n,rfl,e,hl,q⟩ fin
 obtain ⟨v,rfl,den⟩:=zdl dl
 exact ⟨_,n,by rw [den.strI],e,by rw [zc9]; exact hl,fin Hi H _ _ (Ext.refl s) (.int _) q⟩⟩
def zpu (i:Int):List Nat:=(Str.ofString (toString i)).cps.toList
def zoL:RC':=fun ds Q=>∃ i,ds=[.int i]/\i.natAbs.log2<1920/\Q (.str (zpu i))
theorem zuo:Cal X (.type "str") zoL:=⟨_,zhB,by
 rintro Hi H vs ds Q Q2 s dl ⟨i,rfl,hl,q⟩ fin
 obtain ⟨v,rfl,den⟩:=zdl dl
 refine ⟨i,by rw [den.intI],hl,?_⟩
 refine fin Hi H _ (.str (zpu i)) (Ext.refl s) ?_ q
 have e:(V.str (toString i))=.str (st (zpu i)):=by
  unfold zpu; rw [<- zqA]
 rw [e]; exact .str _⟩
def zuN:RC':=fun ds Q=>∃ bs:List Bool,ds=[.lst (bs.map .bl)]/\Q (.bl (bs.all id))
theorem zhv {Hi:Hp}:∀ {vs:List V} {bs:List Bool},zbv K Hi vs (bs.map .bl)->vs=bs.map .bl
 | _,[],h=>by cases h; rfl
 | _,b :: bs,h=>by
  cases h with
  | cons r t=>rw [r.blI,zhv t]; rfl
theorem zur (hc:X.calm=true):Cal X (.builtin "all") zuN:=⟨_,zfH hc,by
 rintro Hi H vs ds Q Q2 s dl ⟨bs,rfl,q⟩ fin
 obtain ⟨v,rfl,den⟩:=zdl dl; obtain ⟨a,us,rfl,h1,h2⟩:=den.lstI; rw [zhv h2] at h1; exact ⟨a,bs,rfl,zy s.sub h1,fin Hi H _ _ (Ext.refl s) (.bl _) q⟩⟩
def zkA:RC':=fun ds Q=>∃ d es,ds=[d]/\(d=.lst es\/d=.tup es)/\Q (.tup es)
theorem zp7:Cal X (.type "tuple") zkA:=⟨_,zgA,by
 rintro Hi H vs ds Q Q2 s dl ⟨d,es,rfl,h,q⟩ fin
 obtain ⟨v,rfl,den⟩:=zdl dl
 rcases h with rfl | rfl
 ·obtain ⟨a,us,rfl,h1,h2⟩:=den.lstI
  refine ⟨a,us,rfl,.inl ⟨zy s.sub h1,fun l hl=>?_⟩⟩
  have e:=Ext.new s hl (.tup us); exact fin _ _ _ _ e (Den.mkT zo (h2.mono e.hi)) q
 ·obtain ⟨a,us,rfl,h1,h2⟩:=den.tupI
  exact ⟨a,us,rfl,.inr ⟨zaf s.sub h1,fin Hi H _ _ (Ext.refl s) den q⟩⟩⟩
def zpK:D->Option String
 | .non=>some "NoneType"
 | .bl _=>some "bool"
 | .int _=>some "int"
 | .str _=>some "str"
 | .lst _=>some "list"
 | .tup _=>some "tuple"
 | .dic _=>some "dict"
 | _=>none
theorem zno {Hi H:Hp} {x:V} {d:D} {t:String} (s:zaI Hi H) (den:Den K Hi x d) (h:zpK d=some t):zsk K H x t:=by
 cases den with
 | non=>exact (Option.some.inj h).symm
 | bl b=>exact (Option.some.inj h).symm
 | int i=>exact (Option.some.inj h).symm
 | str l=>exact (Option.some.inj h).symm
 | ty n=>cases h
 | adr b=>cases h
 | rng h'=>cases h
 | tup hq l r=>exact .inr (.inl ⟨(Option.some.inj h).symm,_,SqT.of (s _ _ hq)⟩)
 | lst hq l r=>exact .inl ⟨(Option.some.inj h).symm,_,zy s hq⟩
 | dicK hq l r r2=>exact .inr (.inr ⟨(Option.some.inj h).symm,.inl ⟨_,zdO s hq⟩⟩)
 | dicT hq l r r2=>cases h
 | cls C=>cases h
 | obj hq l r r2=>cases h
 | excN hq=>cases h
 | exc hq h2 l r r2=>cases h
end
section
variable {X:Cx} {a b c:Expr} {pos:Pos} {ta tb tc:TE'}
def zE (r r':R2') (ta tb tc:TE'):TE':=fun Γ Q=>ta Γ fun x Γ1=>tb Γ1 fun y Γ2=>r x y fun z=>∃ k,z=.bl k/\(if k=true then tc Γ2 fun w Γ3=>r' y w fun d=>Q d Γ3 else Q (.bl false) Γ2)
theorem zkf {K:W.Frag} {n:Nat} {r s:R2} {r' s':R2'} {σ:St} {H:Hp} {Q:VK} (l:zhL K r r') (l2:zhL K s s') (h:tOf K n (zE r' s' ta tb tc) σ H Q):znM r s (tOf K n ta) (tOf K n tb) (tOf K n tc) σ H Q:=by
 obtain ⟨W,Hi,Γ,Q',g,h,fin⟩:=h; refine ⟨W,Hi,Γ,_,g,h,?_⟩
 rintro x H1 ⟨Hi1,dx,Γ1,s1,g1,den1,h1⟩
 refine ⟨W,Hi1,Γ1,_,g1,h1,?_⟩
 rintro y H2 ⟨Hi2,dy,Γ2,s2,g2,den2,h2⟩
 refine l Hi2 H2 x y dx dy _ _ g2.fz (den1.mono s2) den2 h2 ?_
 rintro Hi3 H3 v d e den ⟨k,rfl,q⟩
 refine ⟨k,den.blI,?_⟩
 cases k with
 | false=>exact fin _ H3 ⟨Hi3,_,Γ2,s1.trans (s2.trans e.hi),g2.ext e,.bl false,q⟩
 | true =>
  refine ⟨W,Hi3,Γ2,_,g2.ext e,q,?_⟩
  rintro w H4 ⟨Hi4,dw,Γ4,s4,g4,den4,q4⟩
  refine l2 Hi4 H4 y w dy dw _ _ g4.fz (den2.mono (e.hi.trans s4)) den4 q4 ?_; intro Hi5 H5 v5 d5 e5 den5 q5; exact fin _ H5 ⟨Hi5,d5,Γ4,s1.trans (s2.trans (e.hi.trans (s4.trans e5.hi))),g4.ext e5,den5,q5⟩
theorem zkX {op op':CmpOp} {r r':R2'} (ho:Op2 X (compareOp op) r) (ho':Op2 X (compareOp op') r') (ha:PE' X a ta) (hb:PE' X b tb) (hc:PE' X c tc)
  (hm:lastMarks [op,op'] [b,c]=false:=by with_unfolding_all rfl):PE' X (.Compare a [op,op'] [b,c] pos) (zE r r' ta tb tc):=by
 obtain ⟨q,h1,l1⟩:=ho.ex; obtain ⟨q',h2,l2⟩:=ho'.ex
 exact ⟨PE.weak (zmP h1 h2 ha.h hb.h hc.h hm) fun σ H Q z=>zkf l1 l2 z⟩
def zgU:R2':=fun x y Q=>(∃ i j,x=.int i/\y=.int j/\Q (.int (i+j)))\/zjs x y Q
theorem ztN:Op2 X (binaryOp .Add) zgU:=ztM.or zrB
def zgc:R2':=fun x y Q=>znS true x y Q\/zmv true x y Q
theorem zpt:Op2 X (compareOp .NotIn) zgc:=zmX.or zmY
end
structure Df (K:W.Frag) (mg:Str->Option Value) (x:Str) (st:Stmt) (ps:List Str):Prop where
 ex:∃ f fd,Fun K x x st f fd/\zcb K fd ps []/\mg x=some (.ref f)
structure Fn (P:Program) (w:World) (K:W.Frag) (mg:Str->Option Value) (base:Heap) (k:Nat) (x:Str) (ps:List Str) (sp:Sp'):Prop where
 ex:∃ f fd,FnOk P w K mg base CX0 k f fd ps (zhS K sp)/\zcb K fd ps []/\W.keepIn K (.ref f)=true/\mg x=some (.ref f)/\∃ oc od osl,K.lookup f=some ⟨oc,od,.func fd,osl⟩
section
variable {P:Program} {w:World} {K:W.Frag} {mg:Str->Option Value} {base:Heap} {k:Nat} {x:Str} {ps:List Str} {sp:Sp'}
theorem Df.ok {st:Stmt} {N:List Str} (d:Df K mg x st ps) (S:FnScope N ps (zm st)) (len:∀ ds Q,sp ds Q->ds.length=ps.length)
  (hbody:∀ (f:Addr) (cdv:Value) (A:Around) (outer:List Env) (s:Shared) (H:Hp) (E:XK),Room k (A.deeper (PyProof.Rows.envOfC x (zm st) s.heap.objs.size f cdv))->∀ ds Q,sp ds Q ->
   ∃ t,PSs' (zfU CX0 P w K mg base N x (zm st) f cdv A outer s H E).nox (zY st) t/\t { nx:=fun _=>Q (.val .non),rt:=fun r _=>Q r } (zcp N ds)):Fn P w K mg base (k+1) x ps sp:=by
 obtain ⟨f,fd,F,b,m⟩:=d.ex; obtain ⟨oc,od,kV,doc,pm,an,cdv,ct,osl,e,lk,_⟩:=F.ex; exact ⟨f,fd,PL.Fun.ok' F S len (hbody f),b,F.kp,m,oc,od,osl,lk⟩
end
section
variable {X:Cx} {k:Nat} {x:Str} {ps:List Str} {sp:Sp'} {p pos:Pos} {e:Expr} {es:List Expr} {t:TA'}
theorem zbS (h:Fn X.prog X.w X.K X.mg X.base k x ps sp) (hr:Room k X.A) (ha:PA' X (e :: es) t) (hg:Gl X x:=by rfl) (hdb:(x == ("__debug__":Str))=false:=by decide) :
  PE' X (.Call (.Name x p) (e :: es) [] pos) (zae sp t):=by
 obtain ⟨f,fd,F,b,kp,m,_⟩:=h.ex; exact zmQ F hr m kp b ha hg hdb
theorem ztx (h:Fn X.prog X.w X.K X.mg X.base k x ps sp) (hr:Room k X.A) (ha:PA' X (e :: es) t) (hg:Gl X x:=by rfl) (hdb:(x == ("__debug__":Str))=false:=by decide) :
  PO' X (.Call (.Name x p) (e :: es) [] pos) (zF sp t):=by
 obtain ⟨f,fd,F,b,kp,m,_⟩:=h.ex; exact zo3 F hr m kp b ha hg hdb
end
section
variable {X:Cx} {pos:Pos}
def zoM:RS':=fun x lo hi Q=>zmq x lo hi Q\/zmr x lo hi Q
theorem zve:Sli X zoM:=zte.or zqJ
end
@[simp] theorem ex2 {α β:Type} {x:α} {y:β} {P:α->β->Prop}:(∃ a b,(x=a/\y=b)/\P a b)↔P x y:=⟨fun ⟨_,_,⟨e1,e2⟩,h⟩=>e1 ▸ e2 ▸ h,fun h=>⟨x,y,⟨rfl,rfl⟩,h⟩⟩
@[simp] theorem ex3 {α β γ:Type} {x:α} {y:β} {z:γ} {P:α->β->γ->Prop}:(∃ a b c,(x=a/\y=b/\z=c)/\P a b c)↔P x y z:=⟨fun ⟨_,_,_,⟨e1,e2,e3⟩,h⟩=>e1 ▸ e2 ▸ e3 ▸ h,fun h=>⟨x,y,z,⟨rfl,rfl,rfl⟩,h⟩⟩
@[simp] theorem zsX (d:D):(Res.val d).toD=d:=rfl
@[simp] theorem zsY (o:OD):(Res.own o).toD=o.toD:=rfl
@[simp] theorem zuE (d:D->D) (o:OD):(Res.bk d o).toD=d o.toD:=rfl
@[simp] theorem zuP (l:List D):(OD.lst l).toD=.lst l:=rfl
@[simp] theorem zuR (l:List (D × D)):(OD.dic l).toD=.dic l:=rfl
@[simp] theorem zuQ (l:List (D × D)):(OD.dit l).toD=.dit l:=rfl
@[simp] theorem zqz (N:List Str) (ds:List D):zcp N ds=ds.map .val ++ List.replicate (N.length-ds.length) .emp:=rfl
@[simp] theorem zsR (d:D):voS (.val d)=.val d:=rfl
@[simp] theorem zsT:voS .emp=.emp:=rfl
@[simp] theorem zsS (o:OD):voS (.own o)=.emp:=rfl
@[simp] theorem zuD:vo []=[]:=rfl
@[simp] theorem zsQ (s:Slot) (Γ:Sts):vo (s :: Γ)=voS s :: vo Γ:=rfl
@[simp] theorem zsp (ds:List D):zqI (.lst ds)=some ds:=rfl
@[simp] theorem zsm (ds:List D):zqI (.tup ds)=some ds:=rfl
@[simp] theorem zsn (l:List Nat):zqI (.str l)=some (l.map fun c=>.str [c]):=rfl
@[simp] theorem zus (Γ:Sts):zl3 [] Γ=[]:=rfl
@[simp] theorem zsN (src:List (Option Nat)) (Γ:Sts):zl3 (none :: src) Γ=.emp :: zl3 src Γ:=rfl
@[simp] theorem zsM (i:Nat) (src:List (Option Nat)) (Γ:Sts):zl3 (some i :: src) Γ=(match Γ[i]? with | some (.val d)=>.val d | _=>.emp) :: zl3 src Γ:=rfl
@[simp] theorem zr6 (g:TG') (tc:TT') (te:TE') (Q:List D->Prop) (acc:List D) (Γ:Sts):zeE g tc te Q [] acc Γ↔Q acc:=Iff.rfl
@[simp] theorem zsJ (g:TG') (tb:TS') (N:Ends') (Γ:Sts):zgE g tb N [] Γ↔N.nx Γ:=Iff.rfl
section
variable {Q:D->Prop}
@[simp] theorem zuM (g:Int->Int->D) (i j:Int):znT g (.int i) (.int j) Q↔Q (g i j):=by simp [znT]
@[simp] theorem zvk (C:Int->Int->Prop) (g:Int->Int->D) (i j:Int):rI' C g (.int i) (.int j) Q↔C i j/\Q (g i j):=by simp [rI']
@[simp] theorem zsH (i j:Int):zgU (.int i) (.int j) Q↔Q (.int (i+j)):=by simp [zgU,zjs]
@[simp] theorem zsG (l m:List Nat):zgU (.str l) (.str m) Q↔l.length+m.length<=sizeLine/\Q (.str (l ++ m)):=by simp [zgU,zjs]
@[simp] theorem zt8 (i j:Int):eqS (.int i) (.int j)=some (decide (i=j)):=rfl
@[simp] theorem zt6 (i j:List Nat):eqS (.str i) (.str j)=some (decide (i=j)):=rfl
@[simp] theorem zuT (i j:Bool):eqS (.bl i) (.bl j)=some (decide (i=j)):=rfl
@[simp] theorem zt7:eqS .non .non=some true:=rfl
@[simp] theorem zpW (i:List Nat):eqS .non (.str i)=some false:=rfl
@[simp] theorem zpX (i:Int):eqS .non (.int i)=some false:=rfl
@[simp] theorem zpV (i:List Nat):eqS (.str i) .non=some false:=rfl
@[simp] theorem zpY (i:Int):eqS (.int i) .non=some false:=rfl
@[simp] theorem ztq (c:Nat) (l:List Nat):znS false (.str [c]) (.str l) Q↔Q (.bl (decide (c ∈ l))):=by simp [znS]
@[simp] theorem zto (ds:List D) (i:Int):zlW (.lst ds) (.int i) Q↔∃ d,atI ds i=some d/\Q d:=by simp [zlW]
@[simp] theorem ztm (ds:List D) (i:Int):zlW (.tup ds) (.int i) Q↔∃ d,atI ds i=some d/\Q d:=by simp [zlW]
@[simp] theorem ztn (l:List Nat) (i:Int):zlW (.str l) (.int i) Q↔l.length<=sizeLine/\∃ c,atI l i=some c/\Q (.str [c]):=by simp [zlW]
@[simp] theorem ztj (ds:List D) (lo hi:Option Int):zoM (.lst ds) lo hi Q↔Q (.lst (ze2 ds lo hi)):=by simp [zoM,zmq,zmr]
@[simp] theorem zsy (l:List Nat):zfB [.str l] Q↔l.length<=sizeLine/\Q (.int (l.length:Nat)):=by simp [zfB]
@[simp] theorem zsz (l:List D):zfB [.lst l] Q↔Q (.int (l.length:Nat)):=by simp [zfB]
@[simp] theorem zsx (l:List D):zfB [.tup l] Q↔Q (.int (l.length:Nat)):=by simp [zfB]
@[simp] theorem zti (i:Int):zoL [.int i] Q↔i.natAbs.log2<1920/\Q (.str (zpu i)):=by simp [zoL]
@[simp] theorem zsr (ds:List D):zkA [.lst ds] Q↔Q (.tup ds):=by simp [zkA]
@[simp] theorem zsU (l:List Nat):tyD "str" (.str l)↔True:=by simp [tyD]
theorem zoP {ds:List D} {bs:List Bool} (e:ds=bs.map .bl):zuN [.lst ds] Q↔Q (.bl (bs.all id)):=by
 subst e; constructor
 ·rintro ⟨cs,e,q⟩
  have e':bs.map D.bl=cs.map D.bl:=by simpa using e
  have:bs=cs:=(List.map_inj_right (fun a b h=>D.bl.inj h)).mp e'
  rw [this]; exact q
 ·intro q
  exact ⟨bs,rfl,q⟩
end
@[simp] theorem zj4 (K:W.Frag):W.kitOne K (.type "NoneType") (.type "str")=some false:=by rfl
@[simp] theorem zof (K:W.Frag):W.kitOne K (.type "bool") (.type "str")=some false:=by rfl
@[simp] theorem zpI (K:W.Frag):W.kitOne K (.type "int") (.type "str")=some false:=by rfl
@[simp] theorem zpG (K:W.Frag):W.kitOne K (.type "str") (.type "str")=some true:=by rfl
@[simp] theorem zn8 (K:W.Frag):W.kitOne K (.type "list") (.type "str")=some false:=by rfl
@[simp] theorem znb (K:W.Frag):W.kitOne K (.type "tuple") (.type "str")=some false:=by rfl
@[simp] theorem zod (K:W.Frag):W.kitOne K (.type "dict") (.type "str")=some false:=by rfl
@[simp] theorem zjN (K:W.Frag):W.kitOne K (.type "NoneType") (.type "bool")=some false:=by rfl
@[simp] theorem znn (K:W.Frag):W.kitOne K (.type "bool") (.type "bool")=some true:=by rfl
@[simp] theorem zoc (K:W.Frag):W.kitOne K (.type "int") (.type "bool")=some false:=by rfl
@[simp] theorem zn7 (K:W.Frag):W.kitOne K (.type "str") (.type "bool")=some false:=by rfl
@[simp] theorem zng (K:W.Frag):W.kitOne K (.type "list") (.type "bool")=some false:=by rfl
@[simp] theorem zlZ (K:W.Frag):W.kitOne K (.type "tuple") (.type "bool")=some false:=by rfl
@[simp] theorem znk (K:W.Frag):W.kitOne K (.type "dict") (.type "bool")=some false:=by rfl
@[simp] theorem zj5 (K:W.Frag):W.kitOne K (.type "NoneType") (.type "int")=some false:=by rfl
@[simp] theorem zog (K:W.Frag):W.kitOne K (.type "bool") (.type "int")=some true:=by rfl
@[simp] theorem zpJ (K:W.Frag):W.kitOne K (.type "int") (.type "int")=some true:=by rfl
@[simp] theorem zpH (K:W.Frag):W.kitOne K (.type "str") (.type "int")=some false:=by rfl
@[simp] theorem zn9 (K:W.Frag):W.kitOne K (.type "list") (.type "int")=some false:=by rfl
@[simp] theorem znc (K:W.Frag):W.kitOne K (.type "tuple") (.type "int")=some false:=by rfl
@[simp] theorem zoe (K:W.Frag):W.kitOne K (.type "dict") (.type "int")=some false:=by rfl
@[simp] theorem zjL (K:W.Frag):W.kitOne K (.type "NoneType") (.type "list")=some false:=by rfl
@[simp] theorem znl (K:W.Frag):W.kitOne K (.type "bool") (.type "list")=some false:=by rfl
@[simp] theorem zoa (K:W.Frag):W.kitOne K (.type "int") (.type "list")=some false:=by rfl
@[simp] theorem zn5 (K:W.Frag):W.kitOne K (.type "str") (.type "list")=some false:=by rfl
@[simp] theorem zne (K:W.Frag):W.kitOne K (.type "list") (.type "list")=some true:=by rfl
@[simp] theorem zlX (K:W.Frag):W.kitOne K (.type "tuple") (.type "list")=some false:=by rfl
@[simp] theorem zni (K:W.Frag):W.kitOne K (.type "dict") (.type "list")=some false:=by rfl
@[simp] theorem ziS (K:W.Frag):W.kitOne K (.type "NoneType") (.type "tuple")=some false:=by rfl
@[simp] theorem zl2 (K:W.Frag):W.kitOne K (.type "bool") (.type "tuple")=some false:=by rfl
@[simp] theorem znh (K:W.Frag):W.kitOne K (.type "int") (.type "tuple")=some false:=by rfl
@[simp] theorem znd (K:W.Frag):W.kitOne K (.type "str") (.type "tuple")=some false:=by rfl
@[simp] theorem zl0 (K:W.Frag):W.kitOne K (.type "list") (.type "tuple")=some false:=by rfl
@[simp] theorem zlf (K:W.Frag):W.kitOne K (.type "tuple") (.type "tuple")=some true:=by rfl
@[simp] theorem zl1 (K:W.Frag):W.kitOne K (.type "dict") (.type "tuple")=some false:=by rfl
@[simp] theorem zjM (K:W.Frag):W.kitOne K (.type "NoneType") (.type "dict")=some false:=by rfl
@[simp] theorem znm (K:W.Frag):W.kitOne K (.type "bool") (.type "dict")=some false:=by rfl
@[simp] theorem zob (K:W.Frag):W.kitOne K (.type "int") (.type "dict")=some false:=by rfl
@[simp] theorem zn6 (K:W.Frag):W.kitOne K (.type "str") (.type "dict")=some false:=by rfl
@[simp] theorem znf (K:W.Frag):W.kitOne K (.type "list") (.type "dict")=some false:=by rfl
@[simp] theorem zlY (K:W.Frag):W.kitOne K (.type "tuple") (.type "dict")=some false:=by rfl
@[simp] theorem znj (K:W.Frag):W.kitOne K (.type "dict") (.type "dict")=some true:=by rfl
section
variable {Q:D->Prop}
end
class ME (t:TE'):Prop where
 mono:∀ Γ Q Q',(∀ d Γ',Q d Γ'->Q' d Γ')->t Γ Q->t Γ Q'
class MT (t:TT'):Prop where
 mono:∀ Γ Q Q',(∀ d Γ',Q d Γ'->Q' d Γ')->t Γ Q->t Γ Q'
class MA (t:TA'):Prop where
 mono:∀ Γ Q Q',(∀ d Γ',Q d Γ'->Q' d Γ')->t Γ Q->t Γ Q'
class MO (t:TO'):Prop where
 mono:∀ Γ Q Q',(∀ d Γ',Q d Γ'->Q' d Γ')->t Γ Q->t Γ Q'
class MP (t:TP'):Prop where
 mono:∀ Γ Q Q',(∀ d Γ',Q d Γ'->Q' d Γ')->t Γ Q->t Γ Q'
class MI (t:TI'):Prop where
 mono:∀ Γ Q Q',(∀ d Γ',Q d Γ'->Q' d Γ')->t Γ Q->t Γ Q'
class MG (g:TG'):Prop where
 mono:∀ d Γ Q Q',(∀ Γ',Q Γ'->Q' Γ')->g d Γ Q->g d Γ Q'
class MR2 (r:R2'):Prop where
 mono:∀ x y Q Q',(∀ d,Q d->Q' d)->r x y Q->r x y Q'
class MRC (r:RC'):Prop where
 mono:∀ x Q Q',(∀ d,Q d->Q' d)->r x Q->r x Q'
class MRM (r:RM'):Prop where
 mono:∀ x y Q Q',(∀ d,Q d->Q' d)->r x y Q->r x y Q'
class MRS (r:RS'):Prop where
 mono:∀ x y z Q Q',(∀ d,Q d->Q' d)->r x y z Q->r x y z Q'
class MSp (sp:Sp'):Prop where
 mono:∀ x Q Q',(∀ d,Q d->Q' d)->sp x Q->sp x Q'
structure Ends'.le (N N':Ends'):Prop where
 nx:∀ Γ,N.nx Γ->N'.nx Γ
 rt:∀ r Γ,N.rt r Γ->N'.rt r Γ
 bk:∀ Γ,N.bk Γ->N'.bk Γ
 ct:∀ Γ,N.ct Γ->N'.ct Γ
class MS (t:TS'):Prop where
 mono:∀ N N' Γ,N.le N'->t N Γ->t N' Γ
instance {i:Nat}:ME (zaT i):=⟨fun _ _ _ h ⟨d,e,q⟩=>⟨d,e,h _ _ q⟩⟩
instance {d:D}:ME (tC' d):=⟨fun _ _ _ h q=>h _ _ q⟩
instance {t:TO'} [MO t]:ME (zbB t):=⟨fun Γ _ _ h q=>MO.mono (t:=t) Γ _ _ (fun _ _ z=>h _ _ z) q⟩
instance {r:R2'} {a b:TE'} [MR2 r] [ME a] [ME b]:ME (zcA r a b):=⟨fun Γ _ _ h q=>ME.mono (t:=a) Γ _ _ (fun _ _ z=>ME.mono (t:=b) _ _ _ (fun _ _ z=>MR2.mono (r:=r) _ _ _ _ (fun _ z=>h _ _ z) z) z) q⟩
instance {t:TE'} [ME t]:MT (tB' t):=⟨fun Γ _ _ h q=>ME.mono (t:=t) Γ _ _ (fun _ _ ⟨b,e,z⟩=>⟨b,e,h _ _ z⟩) q⟩
instance {t u:TT'} [MT t] [MT u]:MT (zbn t u):=⟨fun Γ _ _ h q=>MT.mono (t:=t) Γ _ _ (fun b _ z=>by
 cases b with
 | true=>exact MT.mono (t:=u) _ _ _ h z
 | false=>exact h _ _ z) q⟩
instance {t u:TT'} [MT t] [MT u]:MT (zc6 t u):=⟨fun Γ _ _ h q=>MT.mono (t:=t) Γ _ _ (fun b _ z=>by
 cases b with
 | false=>exact MT.mono (t:=u) _ _ _ h z
 | true=>exact h _ _ z) q⟩
instance {t:TT'} [MT t]:MT (zbe t):=⟨fun Γ _ _ h q=>MT.mono (t:=t) Γ _ _ (fun b _ z=>h _ _ z) q⟩
instance:MT zc0:=⟨fun _ _ _ h q=>h _ _ q⟩
instance:MA za5:=⟨fun _ _ _ h q=>h _ _ q⟩
instance {a:TE'} {r:TA'} [ME a] [MA r]:MA (zal a r):=⟨fun Γ _ _ h q=>ME.mono (t:=a) Γ _ _ (fun _ _ z=>MA.mono (t:=r) _ _ _ (fun _ _ z=>h _ _ z) z) q⟩
instance {t:TA'} [MA t]:ME (zba t):=⟨fun Γ _ _ h q=>MA.mono (t:=t) Γ _ _ (fun _ _ ⟨a,z⟩=>⟨a,h _ _ z⟩) q⟩
instance {t:TA'} [MA t]:MO (zbh t):=⟨fun Γ _ _ h q=>MA.mono (t:=t) Γ _ _ (fun _ _ ⟨a,z⟩=>⟨a,h _ _ z⟩) q⟩
instance {r:RC'} {t:TA'} [MRC r] [MA t]:ME (zc1 r t):=⟨fun Γ _ _ h q=>MA.mono (t:=t) Γ _ _ (fun _ _ z=>MRC.mono (r:=r) _ _ _ (fun _ z=>h _ _ z) z) q⟩
instance {T:String} {r:RM'} {o:TE'} {t:TA'} [MRM r] [ME o] [MA t]:ME (zc7 T r o t):=⟨fun Γ _ _ h q=>ME.mono (t:=o) Γ _ _ (fun _ _ ⟨a,z⟩=>⟨a,MA.mono (t:=t) _ _ _ (fun _ _ z=>MRM.mono (r:=r) _ _ _ _ (fun _ z=>h _ _ z) z) z⟩) q⟩
instance:MP zbf:=⟨fun _ _ _ h q=>h _ _ q⟩
instance {t:TE'} [ME t]:MP (zc8 t):=⟨fun Γ _ _ h q=>ME.mono (t:=t) Γ _ _ (fun _ _ ⟨i,e,z⟩=>⟨i,e,h _ _ z⟩) q⟩
instance {r:RS'} {e:TE'} {l u:TP'} [MRS r] [ME e] [MP l] [MP u]:ME (zc5 r e l u):=⟨fun Γ _ _ h q=>ME.mono (t:=e) Γ _ _ (fun _ _ z=>MP.mono (t:=l) _ _ _ (fun _ _ z=>MP.mono (t:=u) _ _ _ (fun _ _ z=>MRS.mono (r:=r) _ _ _ _ _ (fun _ z=>h _ _ z) z) z) z) q⟩
instance {sp:Sp'} {t:TA'} [MSp sp] [MA t]:ME (zae sp t):=⟨fun Γ _ _ h q=>MA.mono (t:=t) Γ _ _ (fun _ _ z=>MSp.mono (sp:=sp) _ _ _ (fun _ z=>h _ _ z) z) q⟩
instance {t:TE'} [ME t]:MI (zbq t):=⟨fun Γ _ _ h q=>ME.mono (t:=t) Γ _ _ (fun _ _ ⟨i,e,z⟩=>⟨i,e,h _ _ z⟩) q⟩
instance {t:TA'} [MA t]:MI (zar t):=⟨fun Γ _ _ h q=>MA.mono (t:=t) Γ _ _ (fun _ _ ⟨i,e,a,b,z⟩=>⟨i,e,a,b,h _ _ z⟩) q⟩
instance {i:Nat}:MG (zS i):=⟨fun _ _ _ _ h q=>h _ q⟩
theorem zeC {g:TG'} {tc:TT'} {te:TE'} [MG g] [MT tc] [ME te] {Q Q':List D->Prop} (h:∀ l,Q l->Q' l):∀ (ds acc:List D) (Γ:Sts),zeE g tc te Q ds acc Γ->zeE g tc te Q' ds acc Γ
 | [],acc,Γ,q=>h acc q
 | d :: ds,acc,Γ,q=>MG.mono (g:=g) _ _ _ _ (fun Γ2 z=>MT.mono (t:=tc) _ _ _ (fun b Γ3 z=>by
  cases b with
  | true=>exact ME.mono (t:=te) _ _ _ (fun y Γ4 z=>zeC h ds _ _ z) z
  | false=>exact zeC h ds _ _ z) z) q
instance {ti:TI'} {src:List (Option Nat)} {g:TG'} {tc:TT'} {te:TE'} [MI ti] [MG g] [MT tc] [ME te]:MO (zad ti src g tc te):=⟨fun Γ _ _ h q=>MI.mono (t:=ti) Γ _ _ (fun ds Γ1 ⟨a,z⟩=>⟨a,zeC (fun l=>h _ _) _ _ _ z⟩) q⟩
theorem Ends'.le.nxt {N N':Ends'} (h:N.le N') {P P':Sts->Prop} (hp:∀ Γ,P Γ->P' Γ):Ends'.le { N with nx:=P } { N' with nx:=P' }:=⟨hp,h.rt,h.bk,h.ct⟩
instance:MS zac:=⟨fun _ _ _ h q=>h.nx _ q⟩
instance {t u:TS'} [MS t] [MS u]:MS (zbb t u):=⟨fun N N' Γ h q=>MS.mono (t:=t) _ _ _ (h.nxt fun Γ' z=>MS.mono (t:=u) N N' Γ' h z) q⟩
instance {t:TE'} [ME t]:MS (zbc t):=⟨fun N N' Γ h q=>ME.mono (t:=t) _ _ _ (fun _ _ z=>h.rt _ _ z) q⟩
instance {c:TT'} {t u:TS'} [MT c] [MS t] [MS u]:MS (za7 c t u):=⟨fun N N' Γ h q=>MT.mono (t:=c) _ _ _ (fun b Γ1 z=>by
 cases b with
 | true=>exact MS.mono (t:=t) N N' Γ1 h z
 | false=>exact MS.mono (t:=u) N N' Γ1 h z) q⟩
instance {t:TE'} [ME t]:MS (zaj t):=⟨fun N N' Γ h q=>ME.mono (t:=t) _ _ _ (fun _ _ z=>h.nx _ z) q⟩
instance {t:TE'} {g:TG'} [ME t] [MG g]:MS (za9 t g):=⟨fun N N' Γ h q=>ME.mono (t:=t) _ _ _ (fun _ _ z=>MG.mono (g:=g) _ _ _ _ (fun _ z=>h.nx _ z) z) q⟩
instance {t:TO'} {i:Nat} [MO t]:MS (zao t i):=⟨fun N N' Γ h q=>MO.mono (t:=t) _ _ _ (fun _ _ z=>h.nx _ z) q⟩
theorem zfq {g:TG'} {tb:TS'} [MG g] [MS tb] {N N':Ends'} (h:N.le N'):∀ (ds:List D) (Γ:Sts),zgE g tb N ds Γ->zgE g tb N' ds Γ
 | [],Γ,q=>h.nx Γ q
 | d :: ds,Γ,q=>MG.mono (g:=g) _ _ _ _ (fun Γ2 z=>MS.mono (t:=tb) { N with nx:=zgE g tb N ds,ct:=zgE g tb N ds,bk:=N.nx } { N' with nx:=zgE g tb N' ds,ct:=zgE g tb N' ds,bk:=N'.nx } _ ⟨fun Γ3 z=>zfq h ds Γ3 z,h.rt,h.nx,fun Γ3 z=>zfq h ds Γ3 z⟩ z) q
instance {ti:TI'} {g:TG'} {tb:TS'} [MI ti] [MG g] [MS tb]:MS (zbl ti g tb):=⟨fun N N' Γ h q=>MI.mono (t:=ti) _ _ _ (fun ds Γ1 z=>zfq h ds Γ1 z) q⟩
theorem zim {g:TG'} {tb:TS'} [MG g] [MS tb] {N:Ends'} (I:List D->Sts->Prop) (h0:∀ Γ,I [] Γ->N.nx Γ) (hs:∀ d ds Γ,I (d :: ds) Γ->g d Γ fun Γ2=>tb { N with nx:=I ds,ct:=I ds,bk:=N.nx } Γ2) :
  ∀ (ds:List D) (Γ:Sts),I ds Γ->zgE g tb N ds Γ
 | [],Γ,h=>h0 Γ h
 | d :: ds,Γ,h=>MG.mono (g:=g) _ _ _ _ (fun Γ2 z=>MS.mono (t:=tb) { N with nx:=I ds,ct:=I ds,bk:=N.nx } { N with nx:=zgE g tb N ds,ct:=zgE g tb N ds,bk:=N.nx } _ ⟨fun Γ3 z=>zim I h0 hs ds Γ3 z,fun _ _ z=>z,fun _ z=>z,fun Γ3 z=>zim I h0 hs ds Γ3 z⟩ z) (hs d ds Γ h)
theorem zcD {g:TG'} {tb:TS'} [MG g] [MS tb] {N:Ends'} {ds:List D} {Γ:Sts} (I:Nat->Sts->Prop) (h:I 0 Γ) (hs:∀ (i:Nat) d Γ,ds[i]?=some d->I i Γ->g d Γ fun Γ2=>tb { N with nx:=I (i+1),ct:=I (i+1),bk:=N.nx } Γ2) (h0:∀ Γ,I ds.length Γ->N.nx Γ):zgE g tb N ds Γ:=by
 refine zim (fun es Γ=>∃ i,es=ds.drop i/\i<=ds.length/\I i Γ) ?_ ?_ ds Γ ⟨0,rfl,yb _,h⟩
 ·rintro Γ ⟨i,e,hi,q⟩
  have:i=ds.length:=by
   have:=yo List.length e
   rw [Yp] at this
   simp at this
   omega
  subst this; exact h0 Γ q
 ·rintro d es Γ ⟨i,e,hi,q⟩
  have hlt:i<ds.length:=by
   have:=yo List.length e
   rw [Yp] at this
   simp at this
   omega
  rw [YS hlt] at e
  injection e with e1 e2
  subst e1
  have go:∀ Γ',I (i+1) Γ'->∃ j,es=ds.drop j/\j<=ds.length/\I j Γ':=fun Γ' z=>⟨i+1,e2,hlt,z⟩
  exact MG.mono (g:=g) _ _ _ _ (fun Γ2 z=>MS.mono (t:=tb) { N with nx:=I (i+1),ct:=I (i+1),bk:=N.nx } _ _ ⟨go,fun _ _ z=>z,fun _ z=>z,go⟩ z) (hs i _ Γ (yB hlt) q)
theorem zcz {g:TG'} {tc:TT'} {te:TE'} [MG g] [MT tc] [ME te] {Q:List D->Prop} {ds:List D} {Γ:Sts} (I:Nat->List D->Sts->Prop) (h:I 0 [] Γ)
  (hs:∀ (i:Nat) d acc Γ,ds[i]?=some d->I i acc Γ->g d Γ fun Γ2=>tc Γ2 fun b Γ3=>if b=true then te Γ3 fun y Γ4=>I (i+1) (acc ++ [y]) (vo Γ4) else I (i+1) acc (vo Γ3)) (h0:∀ acc Γ,I ds.length acc Γ->Q acc):zeE g tc te Q ds [] Γ:=by
 have key:∀ (n i:Nat) (acc:List D) (Γ:Sts),n=ds.length-i->i<=ds.length->I i acc Γ->zeE g tc te Q (ds.drop i) acc Γ:=by
  intro n
  induction n with
  | zero =>
   intro i acc Γ hn hi q
   have:i=ds.length:=by omega
   subst this; rw [YM (yH _)]; exact h0 acc Γ q
  | succ n ih =>
   intro i acc Γ hn hi q
   have hlt:i<ds.length:=by omega
   rw [YS hlt]
   refine MG.mono (g:=g) _ _ _ _ (fun Γ2 z=>MT.mono (t:=tc) _ _ _ (fun b Γ3 z=>?_) z) (hs i _ acc Γ (yB hlt) q)
   cases b with
   | true=>exact ME.mono (t:=te) _ _ _ (fun y Γ4 z=>ih (i+1) _ _ (by omega) hlt z) z
   | false=>exact ih (i+1) _ _ (by omega) hlt z
 exact key _ 0 [] Γ rfl (yb _) h
instance {g:Int->Int->D}:MR2 (znT g):=⟨fun _ _ _ _ h ⟨i,j,a,b,q⟩=>⟨i,j,a,b,h _ q⟩⟩
instance {C:Int->Int->Prop} {g:Int->Int->D}:MR2 (rI' C g):=⟨fun _ _ _ _ h ⟨i,j,a,b,c,q⟩=>⟨i,j,a,b,c,h _ q⟩⟩
instance:MR2 zjs:=⟨fun _ _ _ _ h ⟨i,j,a,b,c,q⟩=>⟨i,j,a,b,c,h _ q⟩⟩
instance:MR2 zgU:=⟨fun _ _ _ _ h q=>by
 rcases q with ⟨i,j,a,b,q⟩ | q
 ·exact .inl ⟨i,j,a,b,h _ q⟩
 ·exact .inr (MR2.mono (r:=zjs) _ _ _ _ h q)⟩
instance {neg:Bool}:MR2 (znS neg):=⟨fun _ _ _ _ h ⟨c,l,a,b,q⟩=>⟨c,l,a,b,h _ q⟩⟩
instance {neg:Bool}:MR2 (zmv neg):=⟨fun _ _ _ _ h ⟨i,c,l,a,b,q⟩=>⟨i,c,l,a,b,h _ q⟩⟩
instance:MR2 zgc:=⟨fun _ _ _ _ h q=>by
 rcases q with q | q
 ·exact .inl (MR2.mono (r:=znS true) _ _ _ _ h q)
 ·exact .inr (MR2.mono (r:=zmv true) _ _ _ _ h q)⟩
instance {neg:Bool}:MR2 (zgS neg):=⟨fun _ _ _ _ h ⟨a,b,e,q⟩=>⟨a,b,e,h _ q⟩⟩
instance:MR2 zlW:=⟨fun _ _ _ _ h ⟨i,e,q⟩=>⟨i,e,by
 rcases q with ⟨ds,d,a,b,q⟩ | ⟨ds,d,a,b,q⟩ | ⟨l,c,a,b,e,q⟩
 ·exact .inl ⟨ds,d,a,b,h _ q⟩
 ·exact .inr (.inl ⟨ds,d,a,b,h _ q⟩)
 ·exact .inr (.inr ⟨l,c,a,b,e,h _ q⟩)⟩⟩
instance:MRS zoM:=⟨fun _ _ _ _ _ h q=>by
 rcases q with ⟨l,a,b,q⟩ | ⟨l,a,q⟩
 ·refine .inl ⟨l,a,b,?_⟩
  rcases q with ⟨c,n,d,e,q⟩ | ⟨c,n,d,e,q⟩
  ·exact .inl ⟨c,n,d,e,h _ q⟩
  ·exact .inr ⟨c,n,d,e,h _ q⟩
 ·exact .inr ⟨l,a,h _ q⟩⟩
instance:MRC zfB:=⟨fun _ _ _ h ⟨d,e,q⟩=>⟨d,e,by
 rcases q with ⟨l,a,b,q⟩ | ⟨l,a,q⟩ | ⟨l,a,q⟩
 ·exact .inl ⟨l,a,b,h _ q⟩
 ·exact .inr (.inl ⟨l,a,h _ q⟩)
 ·exact .inr (.inr ⟨l,a,h _ q⟩)⟩⟩
def zjh:Sp':=fun ds Q=>∃ ns:List Int,ds=[.lst (ns.map .int)]/\ns.length<=63/\Q (.val (.bl true))
theorem zi5 {K:W.Frag} {H:Hp}:∀ ns:List Int,zbv K H (ns.map V.int) (ns.map D.int)
 | []=>.nil
 | n :: ns=>.cons (.int n) (zi5 ns)
theorem zrK {P:Program} {w:World} {K:W.Frag} {mg:Str->Option Value} {k:Nat} {fa:Addr} {oc:Value} {od:Option Addr} {fd:FuncData} {sl:Array (Option Value)} {ps:List Str}
  (hfa:mg "law"=some (.ref fa)) (lk:K.lookup fa=some ⟨oc,od,.func fd,sl⟩) (base:Heap) (G:Fn P w K mg base k "law" ps zjh):FnOk P w K mg base CX0 k fa fd ps (zhS K zjh):=by
 obtain ⟨f,fd',F,_,_,m,oc',od',sl',lk'⟩:=G.ex; rw [hfa] at m; cases m; rw [lk] at lk'; cases lk'; exact F
end PL
namespace L2
open PySem PySem.Spec PyProof.Rows
section
variable {X:Cx}
theorem zps:OpR X (binaryOp .Add) (fun x y H Q=>∃ a b xs ys,x=.ref a/\y=.ref b/\SqT X.K H a xs/\SqT X.K H b ys/\xs.length+ys.length<=sizeLine/\(xs=[]->Q (.ref b) H)/\(xs≠[]->ys=[]->Q (.ref a) H) /\
  (xs≠[]->ys≠[]->∀ p,H p=none->Q (.ref p) (upd H p (.tup (xs ++ ys))))):=by
 intro pins s σ H x y v u Q I rx ry h; obtain ⟨a,b,xs,ys,rfl,rfl,ha,hb,hz,q0,q1,q2⟩:=h
 by_cases hx:xs=[]
 ·cases rx
  cases ry; obtain ⟨its,r1,p1,_⟩:=I.tuple ha; obtain ⟨its2,r2,p2,_⟩:=I.tuple hb
  obtain ⟨⟨cls,dd,data,sl⟩,ho,hc,n,hd⟩:=id p1
  obtain ⟨⟨cls2,dd2,data2,sl2⟩,ho2,hc2,n2,hd2⟩:=id p2
  simp only at hc hd hc2 hd2
  subst hc hd hc2 hd2
  have hi:its=[]:=r1.nil_iff.mpr hx
  refine concat_meets ⟨_,ho,rfl⟩ ⟨_,ho2,rfl⟩ noFill_tuple_add seq_tuple_add PySem.F.slot_tuple_add PySem.F.entry_tuple_add (PySem.F.args_tuple_add_2 _ _)
   (tuple_addW0 a b its.toArray its2.toArray n n2 dd dd2 sl sl2 (by simp [hi])) ⟨ho,ho2,?_⟩
  exact ⟨.ref b,H,I,rfl,q0 hx⟩
 ·exact zpq pins s σ H _ _ v u Q I rx ry ⟨a,b,xs,ys,rfl,rfl,ha,hb,hx,hz,q1 hx,q2 hx⟩
end
end L2
namespace HT
open PySem PyProof.Rows
section
variable {prog:Program} {w:World} {A:Around} {E:Value->Shared->Prop} {s:Shared}
theorem getItem_tuple_whole {t sl:Addr} {items:Array Value} {vl vu:Value} {lo hi:Option Int} {Q:Value->Shared->Prop} (ht:IsTup s.heap t items) (hs:s.heap.IsSliceOf sl vl vu .none) (pl:IsPart vl lo) (pu:IsPart vu hi)
  (hw:sIx items.size 0 lo=0/\sIx items.size items.size hi=items.size) (h:Q (.ref t) s):wpAny (model prog w) A (getItem (.ref t) (.ref sl)) Q E s:=by
 obtain ⟨os,hos,hcs,hds⟩:=id hs
 have hTs:s.TypeIs (.ref sl) "slice":=⟨os,hos,hcs⟩
 unfold getItem
 try with_reducible refine YH ?_
 first | refine yA (yG ?_) | skip
 refine yA (wpAny_sequenceKey ht.typeIs (by decide) ?_)
 refine yA (wpAny_callSpecial?_slot (name:=Str.ofString "__getitem__") ht.typeIs Yk
  (yu Yk ht.typeIs entry_tuple_getitem ?_ (args_tuple_getitem _ _)))
 show wpAny _ _ (Builtin.Tuple.tupleItemsOf (.ref t) >>= _) _ _ s
 refine yA (tupleItemsOf_ ht ?_); refine yA (wpAny_typeOf hTs ?_)
 rw [yN (by decide)]
 refine yA (zcX hs pl pu ?_)
 have hyes:((((sIx items.size 0 lo:Nat):Int) == 0 && (1:Int) == 1 && (sIx items.size items.size hi-sIx items.size 0 lo) == items.size)=true):=by
  rw [hw.1,hw.2]; simp
 show wpAny _ _ (if (((sIx items.size 0 lo:Nat):Int) == 0 && (1:Int) == 1 && (sIx items.size items.size hi-sIx items.size 0 lo) == items.size)=true then _ else _) _ _ s
 rw [yN hyes]; refine yA (m:=Builtin.Tuple.tupleIsExact (.ref t)) ?_; unfold Builtin.Tuple.tupleIsExact; refine yA (wpAny_typeOf ht.typeIs ?_); refine yG ?_
 rw [yN (by decide)]
 exact yA (wpAny_rule (yG ⟨_,rfl,yG h⟩))
end
end HT
namespace L2
open PySem PySem.Spec PyProof.Rows
section
variable {X:Cx}
theorem zoy:SlR X (fun x lo hi H Q=>∃ a xs,x=.ref a/\SqT X.K H a xs/\((HT.sIx xs.length 0 lo=0/\HT.sIx xs.length xs.length hi=xs.length)->Q (.ref a) H) /\
  (¬ (HT.sIx xs.length 0 lo=0/\HT.sIx xs.length xs.length hi=xs.length)->∀ p,H p=none->Q (.ref p) (upd H p (.tup (zlG xs lo hi))))):=by
 intro pins s σ H x v vl vu lo hi sl Q I rx hs pl pu h; obtain ⟨a,xs,rfl,hx,q1,q2⟩:=h
 by_cases hw:HT.sIx xs.length 0 lo=0/\HT.sIx xs.length xs.length hi=xs.length
 ·cases rx
  obtain ⟨its,r,ht,hz⟩:=I.tuple hx
  have hlen:its.toArray.size=xs.length:=by rw [yL]; exact r.length.symm
  refine ⟨"tuple",_,PyProof.Rows.slot_tuple_getitem.lookup,ht.typeIs,?_⟩
  exact HT.getItem_tuple_whole ht hs pl pu (by rw [hlen]; exact hw) ⟨.ref a,H,I,rfl,q1 hw⟩
 ·exact zqG pins s σ H _ v vl vu lo hi sl Q I rx hs pl pu ⟨a,xs,rfl,hx,hw,q2 hw⟩
end
end L2
namespace PL
open PySem L2
section
variable {X:Cx} {K:W.Frag}
def zjr:R2':=fun x y Q=>∃ xs ys,x=.tup xs/\y=.tup ys/\xs.length+ys.length<=sizeLine/\Q (.tup (xs ++ ys))
theorem zrA:Op2 X (binaryOp .Add) zjr:=⟨_,zps,by
 rintro Hi H x y dx dy Q Q2 s d1 d2 ⟨xs,ys,rfl,rfl,hl,q⟩ fin
 obtain ⟨a,vs,rfl,h1,h2⟩:=d1.tupI; obtain ⟨b,us,rfl,h3,h4⟩:=d2.tupI
 refine ⟨a,b,vs,us,rfl,rfl,zaf s.sub h1,zaf s.sub h3,by rw [zn h2,zn h4]; exact hl,fun e=>?_,fun _ e=>?_,fun _ _ p hp=>?_⟩
 ·subst e
  cases h2; exact fin Hi H _ _ (Ext.refl s) d2 q
 ·subst e
  cases h4; rw [ym] at q; exact fin Hi H _ _ (Ext.refl s) d1 q
 ·have e:=Ext.new s hp (.tup (vs ++ us))
  exact fin _ _ _ _ e (Den.mkT zo (zaM (h2.mono e.hi) (h4.mono e.hi))) q⟩
theorem ztd:Sli X zjo:=⟨_,zoy,by
 rintro Hi H x dx lo hi Q Q2 s d1 ⟨ds,rfl,q⟩ fin
 obtain ⟨a,vs,rfl,h1,h2⟩:=d1.tupI; have hl:=zn h2
 refine ⟨a,vs,rfl,zaf s.sub h1,fun hw=>?_,fun _ p hp=>?_⟩
 ·have e:ze2 ds lo hi=ds:=by
   unfold ze2; rw [<- hl,hw.1,hw.2,List.drop_zero,Nat.sub_zero,hl,List.take_length]
  rw [e] at q; exact fin Hi H _ _ (Ext.refl s) d1 q
 ·have e:=Ext.new s hp (.tup (zlG vs lo hi))
  exact fin _ _ _ _ e (Den.mkT zo (zlF (h2.mono e.hi))) q⟩
def eqL (f:D->D->Option Bool):List D->List D->Option Bool
 | x :: xs,y :: ys=>match f x y,eqL f xs ys with
  | some a,some b=>some (a && b)
  | _,_=>none
 | [],[]=>some true
 | _,_=>some false
def eqD:Nat->D->D->Option Bool
 | n+1,.tup xs,.tup ys=>eqL (eqD n) xs ys
 | n+1,.lst xs,.lst ys=>if xs.length=ys.length then eqL (eqD n) xs ys else some false
 | _,x,y=>eqS x y
theorem zpZ {x y:V} {dx dy:D} {b:Bool} {Hi:Hp} (d1:Den K Hi x dx) (d2:Den K Hi y dy) (h:eqS dx dy=some b):zfr x=true/\zfr y=true/\eqV x y=b:=by
  have s1:=d1.scl (zej h); have s2:=d2.scl (zej (zlu _ _ h).choose_spec)
  cases s1 <;> rename_i e1 <;> subst e1 <;> cases s2 <;> rename_i e2 <;> subst e2 <;> first
    | (exact yQ (show (none:Option Bool)=some b from h) (fun z=>nomatch z))
    | (refine ⟨rfl,rfl,?_⟩
       have h':=Option.some.inj h
       subst h'
       first
         | rfl
         | (show ((_:Int) == _)=decide _; rw [Bool.beq_eq_decide_eq])
         | (show ((_:Bool) == _)=decide _; rw [Bool.beq_eq_decide_eq])
         | (show ((_:Str) == _)=decide _
            rw [Bool.beq_eq_decide_eq]
            exact decide_eq_decide.mpr ⟨fun z=>st_inj z,fun z=>yo st z⟩))
theorem zeY {x:V} {dx dy:D} {b:Bool} {Hi:Hp} (d1:Den K Hi x dx) (d2:Den K Hi x dy) (h:eqS dx dy=some b):b=true:=by
 obtain ⟨f1,f2,e⟩:=zpZ d1 d2 h; rw [<- e]
 cases x <;> first | rfl | (exact yQ (show false=true from f1) yR) | (show ((_:_) == _)=true; exact beq_self_eq_true _)
theorem zek {f:D->D->Option Bool} {Hi:Hp} (hf:∀ v x y b,Den K Hi v x->Den K Hi v y->f x y=some b->b=true):∀ {vs:List V} {xs ys:List D} {b:Bool},zbv K Hi vs xs->zbv K Hi vs ys->eqL f xs ys=some b->b=true
 | [],_,_,b,.nil,.nil,h=>(Option.some.inj h).symm
 | v :: vs,x :: xs,y :: ys,b,.cons r1 t1,.cons r2 t2,h=>by
  unfold eqL at h
  cases e1:f x y with
  | none=>rw [e1] at h; cases h
  | some a =>
   cases e2:eqL f xs ys with
   | none=>rw [e1,e2] at h; cases h
   | some c =>
    rw [e1,e2] at h; rw [<- Option.some.inj h,hf v x y a r1 r2 e1,zek hf t1 t2 e2]; rfl
theorem zeZ (x y:D):eqD 0 x y=eqS x y:=by cases x <;> cases y <;> rfl
section
variable {pins:List (Addr × Obj)} {σ:St} {H Hi:Hp} {s:Shared}
theorem zi0 (I:L2.Inv X pins σ H s) (sub:zaI Hi H):∀ (n:Nat) (v:V) (x y:D) (b:Bool),Den X.K Hi v x->Den X.K Hi v y->eqD n x y=some b->b=true:=by
 intro n
 induction n with
 | zero =>
  intro v x y b d1 d2 h; rw [zeZ] at h; exact zeY d1 d2 h
 | succ n ih =>
  intro v x y b d1 d2 h
  cases x with
  | tup xs =>
   cases y with
   | tup ys =>
    obtain ⟨a,vs,rfl,h1,h2⟩:=d1.tupI; obtain ⟨a',us,e,h3,h4⟩:=d2.tupI; cases e; have e:=I.tuple_inj (zaf sub h1) (zaf sub h3); subst e; exact zek ih h2 h4 h
   | _=>exact zeY d1 d2 h
  | lst xs =>
   cases y with
   | lst ys =>
    obtain ⟨a,vs,rfl,h1,h2⟩:=d1.lstI; obtain ⟨a',us,e,h3,h4⟩:=d2.lstI; cases e; have e:=I.list_inj (zy sub h1) (zy sub h3); subst e
    have hl:xs.length=ys.length:=by rw [<- zn h2,<- zn h4]
    unfold eqD at h; rw [yN hl] at h; exact zek ih h2 h4 h
   | _=>exact zeY d1 d2 h
  | _=>exact zeY d1 d2 h
theorem zdk {f:D->D->Option Bool}:∀ {xs ys:List D} {b:Bool},eqL f xs ys=some b->∃ e:Nat->Bool,(∀ (j:Nat) x y,xs[j]?=some x->ys[j]?=some y->f x y=some (e j))/\b=((List.range (min xs.length ys.length)).all e && xs.length == ys.length)
 | [],[],b,h=>⟨fun _=>true,fun j x y h1 _=>by simp at h1,by simpa [eqL] using h.symm⟩
 | [],y :: ys,b,h=>⟨fun _=>true,fun j x y h1 _=>by simp at h1,by simpa [eqL] using h.symm⟩
 | x :: xs,[],b,h=>⟨fun _=>true,fun j x y _ h2=>by simp at h2,by simpa [eqL] using h.symm⟩
 | x :: xs,y :: ys,b,h=>by
  unfold eqL at h
  cases e1:f x y with
  | none=>rw [e1] at h; cases h
  | some a =>
   cases e2:eqL f xs ys with
   | none=>rw [e1,e2] at h; cases h
   | some c =>
    rw [e1,e2] at h; obtain ⟨e,h1,h2⟩:=zdk e2
    refine ⟨fun j=>match j with | 0=>a | j+1=>e j,fun j x' y' hx hy=>?_,?_⟩
    ·cases j with
     | zero=>simp at hx hy; subst hx; subst hy; exact e1
     | succ j=>exact h1 j x' y' (by simpa using hx) (by simpa using hy)
    ·rw [<- Option.some.inj h,h2]
     have hm:min (x :: xs).length (y :: ys).length=min xs.length ys.length+1:=by simp [Nat.succ_min_succ]
     rw [hm,List.range_succ_eq_map,List.all_cons,List.all_map]
     show (a && ((List.range (min xs.length ys.length)).all e && xs.length == ys.length))=((a && (List.range (min xs.length ys.length)).all e) && (x :: xs).length == (y :: ys).length)
     rw [Bool.and_assoc]
     congr 2
     simp
theorem zr0 (I:L2.Inv X pins σ H s) (sub:zaI Hi H):∀ (n:Nat) (A:Around) (x y:V) (u v:Value) (dx dy:D) (b:Bool),A.units+n<cLine->Den X.K Hi x dx->Den X.K Hi y dy->zaV x u->zaV y v->eqD n dx dy=some b->SeqAt.EqAt A s u v b:=by
 intro n
 induction n with
 | zero =>
  intro A x y u v dx dy b hu d1 d2 rx ry h; rw [zeZ] at h; obtain ⟨f1,f2,e⟩:=zpZ d1 d2 h; rw [<- e]; exact zlx rx ry f1 f2
 | succ n ih =>
  intro A x y u v dx dy b hu d1 d2 rx ry h
  have zoB:eqS dx dy=some b->SeqAt.EqAt A s u v b:=fun h=>by
   obtain ⟨f1,f2,e⟩:=zpZ d1 d2 h; rw [<- e]; exact zlx rx ry f1 f2
  have items:∀ {vs ws:List V} {its jts:List Value} {xs ys:List D} {e:Nat->Bool},zbv X.K Hi vs xs->zbv X.K Hi ws ys->zaK vs its->zaK ws jts->(∀ (j:Nat) x y,xs[j]?=some x->ys[j]?=some y->eqD n x y=some (e j)) ->
    ∀ j (h1:j<its.toArray.size) (h2:j<jts.toArray.size),SeqAt.EqAt A.in1 s its.toArray[j] jts.toArray[j] (e j):=fun {vs ws its jts xs ys e} r1 r2 v1 v2 he j h1 h2=>by
   have l1:j<vs.length:=by rw [v1.length]; simpa using h1
   have l2:j<ws.length:=by rw [v2.length]; simpa using h2
   obtain ⟨dx',e1,q1⟩:=zcV r1 (yB l1); obtain ⟨dy',e2,q2⟩:=zcV r2 (yB l2); obtain ⟨u1,e3,q3⟩:=v1.get (yB l1); obtain ⟨u2,e4,q4⟩:=v2.get (yB l2)
   have z1:its.toArray[j]=u1:=by
    have:=yD.mp e3
    obtain ⟨_,z⟩:=this
    simpa using z
   have z2:jts.toArray[j]=u2:=by
    have:=yD.mp e4
    obtain ⟨_,z⟩:=this
    simpa using z
   rw [z1,z2]
   exact ih A.in1 _ _ u1 u2 dx' dy' (e j) (by show A.units+1+n<cLine; omega) q1 q2 q3 q4 (he j dx' dy' e1 e2)
  cases dx with
  | tup xs =>
   cases dy with
   | tup ys =>
    obtain ⟨a,vs,rfl,h1,h2⟩:=d1.tupI; obtain ⟨c,ws,rfl,h3,h4⟩:=d2.tupI; cases rx; cases ry
    by_cases hac:a=c
    ·subst hac
     have e:=I.tuple_inj (zaf sub h1) (zaf sub h3); subst e; rw [zek (zi0 I sub n) h2 h4 h]; exact SeqAt.EqAt.same _
    ·obtain ⟨its,r1,p1,_⟩:=I.tuple (zaf sub h1)
     obtain ⟨jts,r2,p2,_⟩:=I.tuple (zaf sub h3); obtain ⟨e,he,hb⟩:=zdk h
     have lx:xs.length=its.length:=by rw [<- zn h2,r1.length]
     have ly:ys.length=jts.length:=by rw [<- zn h4,r2.length]
     have hb':b=((List.range (min its.toArray.size jts.toArray.size)).all e && its.toArray.size == jts.toArray.size):=by
      rw [hb,lx,ly]; simp
     rw [hb']
     exact SeqAt.EqAt.of_refs hac (SeqAt.RcAt.tuples (show s.heap.IsTuple a its.toArray from p1) (show s.heap.IsTuple c jts.toArray from p2) (by omega) (items h2 h4 r1 r2 he))
   | _=>exact zoB h
  | lst xs =>
   cases dy with
   | lst ys =>
    obtain ⟨a,vs,rfl,h1,h2⟩:=d1.lstI; obtain ⟨c,ws,rfl,h3,h4⟩:=d2.lstI; cases rx; cases ry; unfold eqD at h
    by_cases hac:a=c
    ·subst hac
     have e:=I.list_inj (zy sub h1) (zy sub h3); subst e
     have hl:xs.length=ys.length:=by rw [<- zn h2,<- zn h4]
     rw [yN hl] at h; rw [zek (zi0 I sub n) h2 h4 h]; exact SeqAt.EqAt.same _
    ·obtain ⟨its,r1,p1,_⟩:=I.list (zy sub h1)
     obtain ⟨jts,r2,p2,_⟩:=I.list (zy sub h3)
     have lx:xs.length=its.length:=by rw [<- zn h2,r1.length]
     have ly:ys.length=jts.length:=by rw [<- zn h4,r2.length]
     by_cases hl:xs.length=ys.length
     ·rw [yN hl] at h
      obtain ⟨e,he,hb⟩:=zdk h
      have hs:its.toArray.size=jts.toArray.size:=by simp; omega
      have hb':b=((List.range its.toArray.size).all e):=by
       rw [hb,lx,ly]
       have z:(its.length == jts.length)=true:=by simp; omega
       have z2:min its.length jts.length=its.length:=by omega
       rw [z,z2,Bool.and_true]; simp
      rw [hb']
      exact SeqAt.EqAt.of_refs hac (SeqAt.RcAt.lists p1.isList p2.isList hs (by omega) (items h2 h4 r1 r2 he))
     ·rw [yK hl] at h
      cases h
      exact SeqAt.EqAt.of_refs hac (SeqAt.RcAt.lists_lengths p1.isList p2.isList (by simp; omega) (by omega))
   | _=>exact zoB h
  | _=>exact zoB h
end
section
variable {pins:List (Addr × Obj)} {σ:St} {H Hi:Hp} {s:Shared}
theorem ziW (I:L2.Inv X pins σ H s) (sub:zaI Hi H) {n:Nat} {A:Around} (hu:A.units+1+n<cLine) {vs ws:List V} {its jts:List Value} {xs ys:List D} {e:Nat->Bool} (r1:zbv X.K Hi vs xs) (r2:zbv X.K Hi ws ys) (v1:zaK vs its) (v2:zaK ws jts) (he:∀ (j:Nat) x y,xs[j]?=some x->ys[j]?=some y->eqD n x y=some (e j)) :
  ∀ j (h1:j<its.toArray.size) (h2:j<jts.toArray.size),SeqAt.EqAt A.in1 s its.toArray[j] jts.toArray[j] (e j):=fun j h1 h2=>by
 have l1:j<vs.length:=by rw [v1.length]; simpa using h1
 have l2:j<ws.length:=by rw [v2.length]; simpa using h2
 obtain ⟨dx',e1,q1⟩:=zcV r1 (yB l1); obtain ⟨dy',e2,q2⟩:=zcV r2 (yB l2); obtain ⟨u1,e3,q3⟩:=v1.get (yB l1); obtain ⟨u2,e4,q4⟩:=v2.get (yB l2)
 have z1:its.toArray[j]=u1:=by
  obtain ⟨_,z⟩:=yD.mp e3
  simpa using z
 have z2:jts.toArray[j]=u2:=by
  obtain ⟨_,z⟩:=yD.mp e4
  simpa using z
 rw [z1,z2]
 exact zr0 I sub n A.in1 _ _ u1 u2 dx' dy' (e j) (by show A.units+1+n<cLine; omega) q1 q2 q3 q4 (he j dx' dy' e1 e2)
theorem zuI (I:L2.Inv X pins σ H s) (sub:zaI Hi H) {n:Nat} {A:Around} {x y:V} {u v:Value} {dx dy:D} {b:Bool} (hu:A.units+n<cLine) (d1:Den X.K Hi x dx) (d2:Den X.K Hi y dy) (rx:zaV x u) (ry:zaV y v) (h:eqD n dx dy=some b) (hn:eqS dx dy=none) :
  SeqAt.RcAt A s u v b/\SeqAt.RcNeAt A s u v (!b):=by
 cases n with
 | zero=>rw [zeZ,hn] at h; cases h
 | succ n =>
  cases dx with
  | tup xs =>
   cases dy with
   | tup ys =>
    obtain ⟨a,vs,rfl,h1,h2⟩:=d1.tupI; obtain ⟨c,ws,rfl,h3,h4⟩:=d2.tupI; cases rx; cases ry; obtain ⟨its,r1,p1,_⟩:=I.tuple (zaf sub h1); obtain ⟨jts,r2,p2,_⟩:=I.tuple (zaf sub h3); obtain ⟨e,he,hb⟩:=zdk h
    have lx:xs.length=its.length:=by rw [<- zn h2,r1.length]
    have ly:ys.length=jts.length:=by rw [<- zn h4,r2.length]
    have hb':b=((List.range (min its.toArray.size jts.toArray.size)).all e && its.toArray.size == jts.toArray.size):=by
     rw [hb,lx,ly]; simp
    have hi:=ziW (A:=A) I sub (by omega) h2 h4 r1 r2 he
    rw [hb']
    exact ⟨SeqAt.RcAt.tuples (show s.heap.IsTuple a its.toArray from p1) (show s.heap.IsTuple c jts.toArray from p2) (by omega) hi,SeqAt.RcNeAt.tuples (show s.heap.IsTuple a its.toArray from p1) (show s.heap.IsTuple c jts.toArray from p2) (by omega) hi⟩
   | _=>exact yQ (hn.symm.trans h) (fun z=>nomatch z)
  | lst xs =>
   cases dy with
   | lst ys =>
    obtain ⟨a,vs,rfl,h1,h2⟩:=d1.lstI; obtain ⟨c,ws,rfl,h3,h4⟩:=d2.lstI; cases rx; cases ry; unfold eqD at h; obtain ⟨its,r1,p1,_⟩:=I.list (zy sub h1); obtain ⟨jts,r2,p2,_⟩:=I.list (zy sub h3)
    have lx:xs.length=its.length:=by rw [<- zn h2,r1.length]
    have ly:ys.length=jts.length:=by rw [<- zn h4,r2.length]
    by_cases hl:xs.length=ys.length
    ·rw [yN hl] at h
     obtain ⟨e,he,hb⟩:=zdk h
     have hs:its.toArray.size=jts.toArray.size:=by simp; omega
     have hb':b=((List.range its.toArray.size).all e):=by
      rw [hb,lx,ly]
      have z:(its.length == jts.length)=true:=by simp; omega
      have z2:min its.length jts.length=its.length:=by omega
      rw [z,z2,Bool.and_true]; simp
     have hi:=ziW (A:=A) I sub (by omega) h2 h4 r1 r2 he
     rw [hb']
     exact ⟨SeqAt.RcAt.lists p1.isList p2.isList hs (by omega) hi,SeqAt.RcNeAt.lists p1.isList p2.isList hs (by omega) hi⟩
    ·rw [yK hl] at h
     cases h
     exact ⟨SeqAt.RcAt.lists_lengths p1.isList p2.isList (by simp; omega) (by omega),SeqAt.RcNeAt.lists_lengths p1.isList p2.isList (by simp; omega) (by omega)⟩
   | _=>exact yQ (hn.symm.trans h) (fun z=>nomatch z)
  | _=>exact yQ (hn.symm.trans h) (fun z=>nomatch z)
end
def zkE:R2':=fun x y Q=>∃ b,eqD 100 x y=some b/\Q (.bl b)
def znQ:R2':=fun x y Q=>∃ b,eqD 100 x y=some b/\Q (.bl (!b))
theorem ziZ {n:Nat} {x y:D} {b c:Bool} (h:eqD n x y=some b) (e:eqS x y=some c):b=c:=by
 cases n with
 | zero=>rw [zeZ,e] at h; exact (Option.some.inj h).symm
 | succ n =>
  have z:eqD (n+1) x y=eqS x y:=by
   cases x <;> first | rfl | (cases y <;> first | rfl | (exact yQ (show (none:Option Bool)=some c from e) (fun z=>nomatch z)))
  rw [z,e] at h; exact (Option.some.inj h).symm
theorem zbJ (hu:X.A.units+100<cLine):Op2 X (compareOp .Eq) zkE:=by
 refine ⟨fun x y H Q=>∃ Hi dx dy b,zaI Hi H/\Den X.K Hi x dx/\Den X.K Hi y dy/\eqD 100 dx dy=some b/\Q (.bl b) H,?_,?_⟩
 ·intro pins s σ H x y v u Q I rx ry h
  obtain ⟨Hi,dx,dy,b,sub,d1,d2,e,q⟩:=h
  cases hn:eqS dx dy with
  | some c =>
   obtain ⟨h1,h2⟩:=zom d1 d2 hn; refine ztF pins s σ H x y v u Q I rx ry ⟨h1,?_⟩; rw [h2,<- ziZ e hn]; exact q
  | none=>exact (zuI I sub hu d1 d2 rx ry e hn).1 X.prog X.w X.xe _ ⟨.bl b,H,I,rfl,q⟩
 ·rintro Hi H x y dx dy Q Q2 s d1 d2 ⟨b,e,q⟩ fin
  exact ⟨Hi,dx,dy,b,s.sub,d1,d2,e,fin Hi H _ _ (Ext.refl s) (.bl b) q⟩
theorem zjD (hu:X.A.units+100<cLine):Op2 X (compareOp .NotEq) znQ:=by
 refine ⟨fun x y H Q=>∃ Hi dx dy b,zaI Hi H/\Den X.K Hi x dx/\Den X.K Hi y dy/\eqD 100 dx dy=some b/\Q (.bl (!b)) H,?_,?_⟩
 ·intro pins s σ H x y v u Q I rx ry h
  obtain ⟨Hi,dx,dy,b,sub,d1,d2,e,q⟩:=h
  cases hn:eqS dx dy with
  | some c =>
   obtain ⟨h1,h2⟩:=zom d1 d2 hn; refine ztB pins s σ H x y v u Q I rx ry ⟨h1,?_⟩; rw [h2,<- ziZ e hn]; exact q
  | none=>exact (zuI I sub hu d1 d2 rx ry e hn).2 X.prog X.w X.xe _ ⟨.bl (!b),H,I,rfl,q⟩
 ·rintro Hi H x y dx dy Q Q2 s d1 d2 ⟨b,e,q⟩ fin
  exact ⟨Hi,dx,dy,b,s.sub,d1,d2,e,fin Hi H _ _ (Ext.refl s) (.bl (!b)) q⟩
instance:MR2 zkE:=⟨fun _ _ _ _ h ⟨b,e,q⟩=>⟨b,e,h _ q⟩⟩
instance:MR2 znQ:=⟨fun _ _ _ _ h ⟨b,e,q⟩=>⟨b,e,h _ q⟩⟩
@[simp] theorem zt9 (n:Nat) (i j:Int):eqD n (.int i) (.int j)=some (decide (i=j)):=by cases n <;> rfl
@[simp] theorem zlv (n:Nat) (i j:List Nat):eqD n (.str i) (.str j)=some (decide (i=j)):=by cases n <;> rfl
@[simp] theorem zp0 (n:Nat):eqD n .non .non=some true:=by cases n <;> rfl
@[simp] theorem zsF {Q:D->Prop} (i j:Int):zkE (.int i) (.int j) Q↔Q (.bl (decide (i=j))):=by simp [zkE]
@[simp] theorem zsD {Q:D->Prop} (i j:List Nat):zkE (.str i) (.str j) Q↔Q (.bl (decide (i=j))):=by simp [zkE]
@[simp] theorem zsw {Q:D->Prop} (i j:Int):znQ (.int i) (.int j) Q↔Q (.bl (!decide (i=j))):=by simp [znQ]
@[simp] theorem zsu {Q:D->Prop} (i j:List Nat):znQ (.str i) (.str j) Q↔Q (.bl (!decide (i=j))):=by simp [znQ]
def plc (p:List (List Nat)):D:=.tup (p.map .str)
theorem ziX (f:D->D->Option Bool) (hf:∀ i j:List Nat,f (.str i) (.str j)=some (decide (i=j))):∀ p q:List (List Nat),eqL f (p.map .str) (q.map .str)=some (decide (p=q))
 | [],[]=>rfl
 | [],_ :: _=>by simp [eqL]
 | _ :: _,[]=>by simp [eqL]
 | a :: p,b :: q=>by
  simp only [yS,eqL,hf,ziX f hf p q]
  by_cases h1:a=b <;> by_cases h2:p=q <;> simp [h1,h2]
theorem zlw (n:Nat) (p q:List (List Nat)):eqD (n+1) (plc p) (plc q)=some (decide (p=q)):=ziX _ (fun i j=>zlv n i j) p q
@[simp] theorem zsE {Q:D->Prop} (p q:List (List Nat)):zkE (plc p) (plc q) Q↔Q (.bl (decide (p=q))):=by
 unfold zkE; rw [zlw]; simp
@[simp] theorem zsv {Q:D->Prop} (p q:List (List Nat)):znQ (plc p) (plc q) Q↔Q (.bl (!decide (p=q))):=by
 unfold znQ; rw [zlw]; simp
end
section
variable {K:W.Frag} {n:Nat} {W:Wd} {Hi Hi' H H':Hp} {Γ:Sts} {σ:St} {a:Addr} {o:OD}
theorem zfv {i:Nat} (h:i<n) (e:adr n W σ i=some a):σ[i]?=some (some (.ref a)):=by
 unfold adr at e; rw [yN h] at e; exact zet e
theorem Good.freeze (g:Good K n W Hi Γ σ H) {i:Nat} (hi:i<n) (e:Γ[i]?=some (.own o)):∃ Hi',zaI Hi Hi'/\Good K n W Hi' (Γ.set i (.val o.toD)) σ H:=by
 obtain ⟨a,h1,h2,h3,h4⟩:=g.own i o e; obtain ⟨u,hu⟩:=h4.there
 have hil:i<Γ.length:=(yD.mp e).1
 have g1:Good K n W Hi (Γ.set i .emp) σ H:=g.weak fun j s hs=>by
  by_cases hj:j=i
  ·subst hj
   rw [YE hil] at hs; exact .inl (Option.some.inj hs).symm
  ·rw [yX (fun z=>hj z.symm)] at hs
   exact .inr hs
 have g2:=g1.freezeA h2 (h3 hi) ⟨fun j o' hj z=>by
  by_cases hji:j=i
  ·subst hji
   rw [YE hil] at hj; cases hj
  ·rw [yX (fun z=>hji z.symm)] at hj
   exact hji (g.apart j i _ _ a hj e z h1),fun j d xs hj=>by
  by_cases hji:j=i
  ·subst hji
   rw [YE hil] at hj; cases hj
  ·rw [yX (fun z=>hji z.symm)] at hj
   exact (g.bk j d a xs hj).ne i _ e h1⟩ hu
 refine ⟨upd Hi a u,zW h2 u,?_⟩; have hv:=zfv hi h1; have g3:=g2.set (i:=i) (v:=.ref a) (d:=o.toD) hi (h4.den h2 hu)
 have es:σ.set i (some (.ref a))=σ:=by
  apply List.ext_getElem?
  intro j
  by_cases hj:j=i
  ·subst hj
   rw [YE (by rw [g.len]; exact hi),hv]
  ·rw [yX (fun z=>hj z.symm)]
 rw [es,List.set_set] at g3; exact g3
end
section
variable {X:Cx}
def zL (n i:Nat) (t:TS'):TS':=fun N Γ=>i<n/\∃ o,Γ[i]?=some (.own o)/\t N (Γ.set i (.val o.toD))
theorem zfM (i:Nat) {sts:List Stmt} {t:TS'} (h:PSs' X sts t):PSs' X sts (zL X.N.length i t):=by
 refine ⟨PSs.weak h.h ?_⟩
 rintro N2 σ H ⟨W,Hi,Γ,N,g,⟨hi,o,e,q⟩,l⟩
 obtain ⟨Hi',s1,g1⟩:=g.freeze hi e; exact ⟨W,Hi',_,N,g1,q,l.mono s1⟩
def zbm (i:Nat) (te:TE'):TS':=fun N Γ=>(∃ ds0,Γ[i]?=some (.own (.lst ds0)))/\te Γ fun d Γ1=>∃ ds,Γ1[i]?=some (.own (.lst ds))/\ds.length<sizeLine/\N.nx (Γ1.set i (.own (.lst (ds ++ [d]))))
theorem zb2 (i:Nat) {x:Str} {e:Expr} {te:TE'} {pos p apos cpos:Pos} (he:PE' X e te) (hN:X.N[i]?=some x:=by rfl) (hv:Vis X.env.scope x:=by first | exact YJ rfl | exact yr (YJ rfl) | exact yr (yr rfl)) (hd:(x == ("__debug__":Str))=false:=by decide)
  (hcd:(x == ("__classdict__":Str))=false:=by decide) (hst:zeK e=false:=by rfl)
  (hbase:attributeBase (.Name x p) "append" X.env (eval (.Name x p) X.env)=eval (.Name x p) X.env:=by rfl) (hline:(apos.endLine == cpos.line)=true:=by rfl)
  (hs:swapsWith (.Call (.Attribute (.Name x p) "append" apos) [e] [] cpos) none pos.line X.env=pure false:=by rfl) :
  PS' X (.Expr (.Call (.Attribute (.Name x p) "append" apos) [e] [] cpos) pos) (zbm i te):=by
 have pl:zbR [e]=true:=by unfold zbR; rw [hst]; rfl
 have hfew:((backTo cpos (starEach [e] X.env)).all (fun x=>!x.1) && (backToKw cpos (keywordEach [] X.env)).all (fun x=>x.1.isSome)
   && decide ([e].length+([]:List Keyword).length+(if ([]:List Keyword).isEmpty then 0 else 1)<30))=true:=by
  rw [zP hst]; rfl
 have base:=zeu (zmR Yo PySem.F.slot_list_append PySem.F.type_list_append (zef (X:=X)) (zcj (i:=i) (pos:=p) hN hv hd hcd) (zdU he.h zgZ (zP hst)) hbase hfew hline (zP hst) rfl) hs; refine ⟨PS.weak base ?_⟩
 rintro N2 σ H ⟨W,Hi,Γ,N,g,⟨⟨ds0,e0⟩,q⟩,l⟩
 have hi:i<X.N.length:=(yD.mp hN).1
 obtain ⟨a,h1,h2,h3,vs0,h4,h5⟩:=g.own i _ e0; refine ⟨.ref a,zfv hi h1,.inl ⟨rfl,vs0,SqL.of h4⟩,W,Hi,Γ,_,g,q,?_⟩
 rintro v H1 ⟨Hi1,d,Γ1,s1,g1,den,ds,e1,hl,q1⟩
 obtain ⟨a',k1,k2,k3,vs,k4,k5⟩:=g1.own i _ e1; rw [h1] at k1; cases k1
 refine ⟨a,vs,v,rfl,rfl,k4,by rw [zn k5]; exact hl,?_⟩
 exact l.nx σ _ Hi1 _ s1 (g1.put (o:=.lst (ds ++ [d])) e1 h1 ⟨vs ++ [v],zo,zaM k5 (.cons den .nil)⟩) q1
instance {i:Nat} {te:TE'} [ME te]:MS (zbm i te):=⟨fun N N' Γ h ⟨a,q⟩=>⟨a,ME.mono (t:=te) _ _ _ (fun _ _ ⟨ds,e,l,z⟩=>⟨ds,e,l,h.nx _ z⟩) q⟩⟩
end
inductive Imm:D->Prop where
 | non:Imm .non
 | bl (b:Bool):Imm (.bl b)
 | int (i:Int):Imm (.int i)
 | str (l:List Nat):Imm (.str l)
 | ty (n:String):Imm (.ty n)
 | cls (C:Addr):Imm (.cls C)
 | tup {ds:List D} (h:∀ d,d ∈ ds->Imm d):Imm (.tup ds)
theorem Imm.den {K:W.Frag} {H H':Hp} {v:V} {d:D} (im:Imm d) (h:Den K H v d) (e:∀ a xs,(H a=some (.tup xs)->H' a=some (.tup xs))/\∀ o,H a=some (.frz o (.tup xs))->H' a=some (.frz o (.tup xs))):Den K H' v d:=by
 induction h with
 | non=>exact .non
 | bl b=>exact .bl b
 | int i=>exact .int i
 | str l=>exact .str l
 | ty n=>exact .ty n
 | cls C=>exact .cls C
 | tup h l r ih =>
  cases im with
  | tup hi =>
   exact .tup ((e _ _).1 h) l fun j v d h1 h2=>ih j v d h1 h2 (hi d (yW h2))
 | _=>cases im
def zc2:Slot->Slot
 | .own o=>.val o.toD
 | .val d=>.val d
 | .bk d _ xs=>.val (d xs.toD)
 | _=>.emp
section
variable {K:W.Frag} {n:Nat} {W:Wd} {Hi Hi' H H':Hp} {Γ:Sts} {σ:St} {a:Addr} {o:OD}
def zeD (n:Nat) (W:Wd) (Γ:Sts) (σ:St) (b:Addr):Prop:=(∃ (i:Nat) (o:OD),i<n/\Γ[i]?=some (.own o)/\adr n W σ i=some b)\/∃ (i:Nat) (d:D->D) (xs:OD),Γ[i]?=some (.bk d b xs)
open Classical in
noncomputable def zcm (n:Nat) (W:Wd) (Γ:Sts) (σ:St) (Hi H:Hp):Hp:=fun b=>if zeD n W Γ σ b then H b else Hi b
open Classical in
noncomputable def zcu (n:Nat) (W:Wd) (Γ:Sts) (σ:St) (Hb:Hp):Hp:=fun b=>if zeD n W Γ σ b then none else Hb b
theorem zeD.hi (g:Good K n W Hi Γ σ H) {b:Addr} (h:zeD n W Γ σ b):Hi b=none/\∃ u,H b=some u/\(∀ xs,u≠.tup xs)/\∀ o xs,u≠.frz o xs:=by
 have key:∃ o,Hi b=none/\zbM K Hi H b o:=by
  rcases h with ⟨i,o,hi,e,ad⟩ | ⟨i,d,xs,e⟩
  ·obtain ⟨a,h1,h2,h3,h4⟩:=g.own i o e
   rw [ad] at h1; cases h1; exact ⟨o,h2,h4⟩
  ·exact ⟨xs,(g.bk i d b xs e).hi,(g.bk i d b xs e).at_⟩
 obtain ⟨o,h2,h4⟩:=key; refine ⟨h2,?_⟩
 cases o with
 | lst ds=>obtain ⟨vs,q,_⟩:=h4; exact ⟨_,q,⟨fun _ z=>(by cases z),fun _ _ z=>(by cases z)⟩⟩
 | dic ds=>obtain ⟨kvs,q,_⟩:=h4; exact ⟨_,q,⟨fun _ z=>(by cases z),fun _ _ z=>(by cases z)⟩⟩
 | dit ds=>obtain ⟨kvs,ep,q,_⟩:=h4; exact ⟨_,q,⟨fun _ z=>(by cases z),fun _ _ z=>(by cases z)⟩⟩
 | obj C ds=>obtain ⟨dx,fs,q,_⟩:=h4; exact ⟨_,q,⟨fun _ z=>(by cases z),fun _ _ z=>(by cases z)⟩⟩
def zaU (n:Nat) (Γ:Sts):Sts:=(Γ.take n).map zc2
theorem Good.look (g:Good K n W Hi Γ σ H):zaI Hi (zcm n W Γ σ Hi H)/\Good K n ⟨H,zcm n W Γ σ Hi H,[]⟩ (zcm n W Γ σ Hi H) (zaU n Γ) σ H:=by
 have s1:zaI Hi (zcm n W Γ σ Hi H):=fun b u e=>by
  unfold zcm
  rw [yK (fun z=>by rw [(zeD.hi g z).1] at e; cases e)]
  exact e
 have inv:∀ (i:Nat) (sl:Slot),(zaU n Γ)[i]?=some sl->∃ s0,Γ[i]?=some s0/\i<n/\sl=zc2 s0:=fun i sl e=>by
  unfold zaU at e; rw [yE] at e
  cases hj:(Γ.take n)[i]? with
  | none=>rw [hj] at e; cases e
  | some s0 =>
   rw [hj] at e; rw [List.getElem?_take] at hj; split at hj
   ·exact ⟨s0,hj,by assumption,(Option.some.inj e).symm⟩
   ·cases hj
 refine ⟨s1,g.len,⟨fun b u e=>?_,fun b xs e=>s1 _ _ (g.fz.tups b xs e)⟩,fun b u e _=>e,fun b u e=>⟨u,e⟩,fun b u e=>rfl,fun i d e=>?_,fun i o e=>?_,fun i j o o' a e=>?_,fun i d b xs e=>?_⟩
 ·unfold zcm at e
  split at e
  ·exact e
  ·exact g.sub b u e
 ·obtain ⟨s0,hj,hi,hs⟩:=inv i _ e
  cases s0 with
  | val d' =>
   cases hs; obtain ⟨v,h1,h2⟩:=g.val i d hj; exact ⟨v,h1,h2.mono s1⟩
  | own o =>
   cases hs; obtain ⟨a,h1,h2,h3,h4⟩:=g.own i o hj; refine ⟨.ref a,zfv hi h1,?_⟩
   have hO:zeD n W Γ σ a:=.inl ⟨i,o,hi,hj,h1⟩
   have hl:zcm n W Γ σ Hi H a=H a:=by unfold zcm; rw [yN hO]
   cases o with
   | lst ds=>obtain ⟨vs,q,r⟩:=h4; exact Den.mkL (SqL.of (hl.trans q)) (r.mono s1)
   | dic ds=>obtain ⟨kvs,q,r⟩:=h4; exact Den.mkDK (.inl (hl.trans q)) (r.mono s1)
   | dit ds=>obtain ⟨kvs,ep,q,r⟩:=h4; exact Den.mkDT (hl.trans q) (r.mono s1)
   | obj C ds=>obtain ⟨dx,fs,q,r⟩:=h4; exact Den.mkO (hl.trans q) (r.mono s1)
  | emp=>cases hs
  | bk d' b xs =>
   cases hs
   obtain ⟨⟨v,h1,h2⟩,hol,_,_,h4,_⟩:=g.bk i d' b xs hj
   have hl:zcm n W Γ σ Hi H b=H b:=by unfold zcm; rw [yN (.inr ⟨i,d',xs,hj⟩)]
   refine ⟨v,h1,hol b _ v xs ?_ (h2.mono s1)⟩
   cases xs with
   | lst ds=>obtain ⟨vs,q,r⟩:=h4; exact Den.mkL (SqL.of (hl.trans q)) (r.mono s1)
   | dic ds=>obtain ⟨kvs,q,r⟩:=h4; exact Den.mkDK (.inl (hl.trans q)) (r.mono s1)
   | dit ds=>obtain ⟨kvs,ep,q,r⟩:=h4; exact Den.mkDT (hl.trans q) (r.mono s1)
   | obj C ds=>obtain ⟨dx,fs,q,r⟩:=h4; exact Den.mkO (hl.trans q) (r.mono s1)
 all_goals
  obtain ⟨s0,hj,hi,hs⟩:=inv i _ e
  cases s0 <;> cases hs
theorem Good.unlook (g:Good K n W Hi Γ σ H) {Hb:Hp} {Γ':Sts} (sb:zaI (zcm n W Γ σ Hi H) Hb) (g':Good K n ⟨H,zcm n W Γ σ Hi H,[]⟩ Hb Γ' σ H') :
  Ext Hi H (zcu n W Γ σ Hb) H'/\Good K n W (zcu n W Γ σ Hb) Γ σ H'/\∀ v d,Imm d->Den K Hb v d->Den K (zcu n W Γ σ Hb) v d:=by
 have kp:∀ b u,H b=some u->H' b=some u:=fun b u e=>g'.keep b u e (by simp)
 have s1:zaI Hi (zcu n W Γ σ Hb):=fun b u e=>by
  have no:¬ zeD n W Γ σ b:=fun z=>by rw [(zeD.hi g z).1] at e; cases e
  unfold zcu; rw [yK no]; refine sb b u ?_; unfold zcm; rw [yK no]; exact e
 have ex:Ext Hi H (zcu n W Γ σ Hb) H':=by
  refine ⟨s1,kp,⟨fun b u e=>?_,fun b xs e=>?_⟩,fun b u e=>?_⟩
  ·unfold zcu at e
   split at e
   ·cases e
   ·exact g'.sub b u e
  ·have z:=g'.fz.tups b xs e
   have no:¬ zeD n W Γ σ b:=fun z=>by
    obtain ⟨_,w,hw,w1,_⟩:=zeD.hi g z; rw [kp b w hw] at e; cases e; exact w1 xs rfl
   unfold zcu; rw [yK no]; exact z
  ·unfold zcu
   split
   ·rename_i z
    exact (zeD.hi g z).1.symm
   ·rename_i z
    rw [g'.fro b u e]
    show zcm n W Γ σ Hi H b=Hi b
    unfold zcm; rw [yK z]
 refine ⟨ex,g.ext ex,fun v d im den=>im.den den fun b xs=>?_⟩
 have no:∀ u,Hb b=some u->((∃ xs,u=.tup xs)\/∃ o xs,u=.frz o xs)->¬ zeD n W Γ σ b:=fun u e hu z=>by
  obtain ⟨_,w,hw,w1,w2⟩:=zeD.hi g z; have e2:=g'.sub b u e; rw [kp b w hw] at e2; cases e2
  rcases hu with ⟨xs,hu⟩ | ⟨o,xs,hu⟩
  ·exact w1 xs hu
  ·exact w2 o xs hu
 constructor
 ·intro e
  unfold zcu; rw [yK (no _ e (.inl ⟨_,rfl⟩))]; exact e
 ·intro o e
  unfold zcu; rw [yK (no _ e (.inr ⟨_,_,rfl⟩))]; exact e
end
section
variable {X:Cx}
def zbi (n:Nat) (t:TE'):TE':=fun Γ Q=>t (zaU n Γ) fun d _=>Imm d/\Q d Γ
def zah (n:Nat) (t:TT'):TT':=fun Γ Q=>t (zaU n Γ) fun b _=>Q b Γ
theorem zdT {e:Expr} {t:TE'} (h:PE' X e t):PE' X e (zbi X.N.length t):=by
 refine ⟨PE.weak h.h ?_⟩
 rintro σ H Q ⟨W,Hi,Γ,Q',g,q,fin⟩
 obtain ⟨s1,g1⟩:=g.look; refine ⟨_,_,_,_,g1,q,?_⟩
 rintro v H' ⟨Hb,d,Γ',sb,g',den,im,q'⟩
 obtain ⟨s2,g2,hd⟩:=g.unlook sb g'; exact fin v H' ⟨_,d,Γ,s2.hi,g2,hd v d im den,q'⟩
theorem zgd {e:Expr} {t:TT'} (h:PT' X e t):PT' X e (zah X.N.length t):=by
 refine ⟨PT.weak h.h ?_⟩
 rintro σ H Q ⟨W,Hi,Γ,Q',g,q,fin⟩
 obtain ⟨s1,g1⟩:=g.look; refine ⟨_,_,_,_,g1,q,?_⟩; intro b H' Hb Γ' sb g' q'; obtain ⟨s2,g2,hd⟩:=g.unlook sb g'; exact fin b H' _ Γ s2.hi g2 q'
instance {n:Nat} {t:TE'} [ME t]:ME (zbi n t):=⟨fun Γ _ _ h q=>ME.mono (t:=t) _ _ _ (fun _ _ ⟨a,z⟩=>⟨a,h _ _ z⟩) q⟩
instance {n:Nat} {t:TT'} [MT t]:MT (zah n t):=⟨fun Γ _ _ h q=>MT.mono (t:=t) _ _ _ (fun _ _ z=>h _ _ z) q⟩
end
end PL
namespace L2
open PySem PySem.Spec PyProof.Rows
section
variable {P:Program} {w:World} {H:Hp} {h:Heap} {a:Addr} {kvs:List (List Key × V)} {ep:Nat}
theorem zeP (ok:HOk P w H h) (e:H a=some (.dE kvs ep)):kvs.length<=sizeLine/\(a == sysModules)=false /\
  ∃ xs,KT H kvs xs/\h.DictOfH (tupleKind (zaR P w)) a xs/\∃ o es,h.get? a=some o/\o.ExactDict/\o.data=.dict es ep/\es.toList=xs.map (entryOfKey (tupleKind (zaR P w))):=by
 obtain ⟨z,y,xs,r,o,es,h1,h2,h3,h4,h5⟩:=(show zbG P w H h a (.dE kvs ep) from ok a _ e)
 refine ⟨z,y,xs,r,⟨o,es,ep,h1,h2,h3,h4,fun x hx=>?_,h5⟩,o,es,h1,h2,h3,h4⟩
 obtain ⟨j,hj⟩:=List.getElem?_of_mem hx
 have hl:j<kvs.length:=by
  rw [Paired.length r]; exact (yD.mp hj).1
 have q:=PL.paired_get j r (yB hl) hj
 exact zdC ok (by rw [<- q.1]; exact q.2.1)
end
def zl4 (H:Hp) (a:Addr) (y:V) (r:Option V):Prop:=∃ kvs ep k b,H a=some (.dE kvs ep)/\y=.ref b/\H b=some (.tup (k.map kV))/\r=zf0 kvs k
section
variable {X:Cx} {pins:List (Addr × Obj)} {σ:St} {H:Hp} {s:Shared} {a:Addr} {y v:V} {u r:Value} {o:Option V} {A:Around} {E:Value->Shared->Prop}
theorem znx (I:Inv X pins σ H s) (g:zl4 H a y o):s.TypeIs (.ref a) "dict":=by
 obtain ⟨kvs,ep,k,b,e,_⟩:=g; obtain ⟨_,_,xs,_,dd,_⟩:=zeP I.hok e; exact dd.typeIs
theorem zlz {Q:Value->Shared->Prop} (hu:A.units+1<cLine) (I:Inv X pins σ H s) (g:zl4 H a y (some v)) (ry:zaV y u) (h:∀ w' s',Inv X pins σ H s'->zaV v w'->Q w' s') :
  wpAny (model X.prog X.w) A (getItem (.ref a) u) Q E s:=by
 obtain ⟨kvs,ep,k,b,e,ey,eb,l⟩:=g; subst ey
 cases (show u=Value.ref b from ry)
 obtain ⟨z,hd,xs,rel,dd,_⟩:=zeP I.hok e
 obtain ⟨w',hw,rw'⟩:=zgC.some_of (v:=v) (o:=(atKey xs k).map (·.2)) (by rw [l]; exact rel.val k)
 obtain ⟨p,hp,hp2⟩:=yJ.mp hw; refine wpAny_getItem_heap (tupleKind_room_in1 hu) (zdC I.hok eb) dd hp ?_; rw [hp2]; exact h w' _ (I.tok _) rw'
theorem zvu {Q:Value->Shared->Prop} (hu:A.units+1<cLine) (I:Inv X pins σ H s) (g:zl4 H a y o) (ry:zaV y u) (h:∀ s',Inv X pins σ H s'->Q (.bool o.isSome) s') :
  wpAny (model X.prog X.w) A (compareOp .In u (.ref a)) Q E s:=by
 obtain ⟨kvs,ep,k,b,e,ey,eb,l⟩:=g; subst ey
 cases (show u=Value.ref b from ry)
 obtain ⟨z,hd,xs,rel,dd,_⟩:=zeP I.hok e; refine wpAny_in_heap (tupleKind_room_in1 hu) (zdC I.hok eb) hd dd ?_; have q:=(rel.val k).isSome_eq; rw [Yi] at q; rw [<- q,<- l]; exact h _ (I.tok _)
theorem zp1 {Q:Value->Shared->Prop} (hu:A.units+1<cLine) (I:Inv X pins σ H s) (g:zl4 H a y o) (ry:zaV y u) (h:∀ s',Inv X pins σ H s'->Q (.bool (!o.isSome)) s') :
  wpAny (model X.prog X.w) A (compareOp .NotIn u (.ref a)) Q E s:=by
 obtain ⟨kvs,ep,k,b,e,ey,eb,l⟩:=g; subst ey
 cases (show u=Value.ref b from ry)
 obtain ⟨z,hd,xs,rel,dd,_⟩:=zeP I.hok e; refine wpAny_notIn_heap (tupleKind_room_in1 hu) (zdC I.hok eb) hd dd ?_; have q:=(rel.val k).isSome_eq; rw [Yi] at q; rw [<- q,<- l]; exact h _ (I.tok _)
theorem zly {kvs:List (List Key × V)} {ep:Nat} {k:List Key} {b:Addr} {Q:Unit->Shared->Prop} (hu:A.units+1<cLine) (I:Inv X pins σ H s) (e:H a=some (.dE kvs ep)) (eb:H b=some (.tup (k.map kV))) (l:kvs.length<sizeLine) (rv:zaV v r)
  (h:∀ ep' s',Inv X pins σ (upd H a (.dE (zgV kvs k v) ep')) s'->Q () s'):wpAny (model X.prog X.w) A (setItem (.ref a) (.ref b) r) Q E s:=by
 obtain ⟨z,hd,xs,rel,dd,_⟩:=zeP I.hok e
 have hz:xs.length<=sizeLine:=by rw [<- Paired.length rel]; exact z
 have hl:(zgV kvs k v).length<=sizeLine:=by have:=zdW kvs k v; omega
 refine wpAny_setItem_heap (hsz:=hz) (tupleKind_room_in1 hu) (zdC I.hok eb) dd fun h' dd' hs=>?_
 obtain ⟨q,es,ep',hq,h2,h3,h4,_,h5⟩:=dd'
 refine h ep' _ (zgw I (by rw [e]; exact True.intro) hs ⟨q,hq⟩ ⟨hl,hd,_,(rel.put k eb rv).keeps fun c ys ec=>?_,q,es,hq,h2,h3,h4,h5⟩)
 rw [zr (zpx ec e (fun z=>nomatch z))]
 exact ec
end
section
variable {X:Cx}
theorem zlj (hu:X.A.units+1<cLine):IxR X (fun x y H Q=>∃ a v,x=.ref a/\zl4 H a y (some v)/\Q v H):=by
 intro value slice pins s σ H x y v u Q I rx ry h hs; obtain ⟨a,w,rfl,g,q⟩:=h; cases rx
 exact tail_any (znx I g) PySem.F.slot_dict_getitem.lookup (zlz hu I g ry fun w' s3 I3 rw'=>⟨w,H,I3,rw',q⟩) hs
theorem zru (hu:X.A.units+1<cLine):OpR X (compareOp .In) (fun x y H Q=>∃ a o,y=.ref a/\zl4 H a x o/\Q (.bl o.isSome) H):=by
 intro pins s σ H x y v u Q I rx ry h; obtain ⟨a,o,rfl,g,q⟩:=h; cases ry
 exact zvu hu I g rx fun s' I'=>⟨.bl _,H,I',rfl,q⟩
theorem zk1 (hu:X.A.units+1<cLine):OpR X (compareOp .NotIn) (fun x y H Q=>∃ a o,y=.ref a/\zl4 H a x o/\Q (.bl (!o.isSome)) H):=by
 intro pins s σ H x y v u Q I rx ry h; obtain ⟨a,o,rfl,g,q⟩:=h; cases ry
 exact zp1 hu I g rx fun s' I'=>⟨.bl _,H,I',rfl,q⟩
def ztf (td ty tv:TE):TS:=fun D σ H=>tv σ H fun v H1=>td σ H1 fun x H2=>ty σ H2 fun y H3=>∃ a kvs ep k b,x=.ref a/\H3 a=some (.dE kvs ep)/\y=.ref b/\H3 b=some (.tup (k.map kV))/\kvs.length<sizeLine/\∀ ep',D.nx σ (upd H3 a (.dE (zgV kvs k v) ep'))
theorem zoX {o i value:Expr} {pos pos':Pos} {td ty tv:TE} (hu:X.A.units+1<cLine) (ho:PE X o td) (hi:PE X i ty) (hv:PE X value tv) (hs:swapsWith value (some (.Subscript o i pos')) pos.line X.env=pure false) :
  PS X (.Assign [.Subscript o i pos'] value pos) (ztf td ty tv):=by
 intro pins s σ H D I h
 refine wpAny_Assign_Subscript (thn (hv pins s σ H _ I h) fun r s1 ⟨v,H1,I1,rv,q1⟩=>thn (ho pins s1 σ H1 _ I1 q1) fun u s2 ⟨x,H2,I2,rx,q2⟩=>thn (hi pins s2 σ H2 _ I2 q2) fun iv s3 ⟨y,H3,I3,ry,a,kvs,ep,k,b,ex,e,ey,eb,l,q3⟩=>?_) hs
 subst ex ey
 obtain rfl:u=Value.ref a:=rx
 obtain rfl:iv=Value.ref b:=ry
 exact zly hu I3 e eb l rv fun ep' s4 I4=>⟨σ,_,I4,q3 ep'⟩
theorem znC {P:Program} {w:World} {H:Hp} (h:Heap) (hb:sysModules<h.objs.size):zbG P w H (h.push { cls:=.type "dict",data:=.dict #[] }) h.objs.size (.dE [] 0) :=
 ⟨yb _,beq_eq_false_iff_ne.mpr (Ne.symm (yU hb)),[],.nil,_,#[],yI _ rfl,⟨rfl,rfl,rfl⟩,rfl,rfl,List.nodup_nil⟩
def zs9:TE:=fun _ H Q=>∀ p,H p=none->Q (.ref p) (upd H p (.dE [] 0))
theorem zpf {pos:Pos}:PE X (.Dict [] [] pos) zs9:=fun pins s σ H Q I h =>
 wpAny_Dict_empty ⟨.ref s.heap.objs.size,_,I.laid (a:=s.heap.objs.size) (o:=.dE [] 0) (t':=s.toks) (fun _ _ q=>yC _ q) (yH _) (znC s.heap I.big),rfl,h _ (I.hok.fresh (yH _))⟩
end
end L2
namespace PL
open PySem L2
section
variable {K:W.Frag} {H Hi:Hp}
theorem zp2 {v:V}:∀ {k:Key},Den K H v (zdY k)->v=kV k
 | .inl i,h=>h.intI
 | .inr x,h=>h.strI
theorem zi4:∀ {vs:List V} {ks:List Key},zbv K H vs (ks.map zdY)->vs=ks.map kV
 | [],[],_=>rfl
 | [],_ :: _,h=>nomatch h
 | _ :: _,[],h=>nomatch h
 | v :: vs,k :: ks,.cons r t=>by rw [yS,<- zp2 r,<- zi4 t]
theorem znp {a b:Key} (h:zdY a=zdY b):a=b:=by
 cases a with
 | inl i=>cases b with
  | inl j=>injection h with h; rw [h]
  | inr y=>cases h
 | inr x=>cases b with
  | inl j=>cases h
  | inr y =>
   injection h with h
   obtain ⟨⟨x⟩⟩:=x
   obtain ⟨⟨y⟩⟩:=y
   exact yo (fun l=>Sum.inr (Str.mk ⟨l⟩)) h
theorem zei:∀ {a b:List Key},a.map zdY=b.map zdY->a=b
 | [],[],_=>rfl
 | [],_ :: _,h=>nomatch h
 | _ :: _,[],h=>nomatch h
 | x :: a,y :: b,h=>by
  injection h with h1 h2
  rw [znp h1,zei h2]
theorem ze1 {v:V} {ks:List Key} (h:Den K Hi v (.tup (ks.map zdY))):∃ b,v=.ref b/\Hi b=some (.tup (ks.map kV)):=by
 obtain ⟨a,vs,rfl,h1,h2⟩:=h.tupJ; rw [zi4 h2] at h1; exact ⟨a,rfl,h1⟩
open Classical in
noncomputable def zdZ (ds:List (D × D)) (k:D):Option D:=(ds.find? fun p=>decide (p.1=k)).map (·.2)
open Classical in
noncomputable def zqj (ds:List (D × D)) (k v:D):List (D × D):=if (zdZ ds k).isSome=true then ds.map (fun p=>if p.1=k then (p.1,v) else p) else ds ++ [(k,v)]
theorem zhw {p:D × D} {r:List (D × D)} {k:D} (e:p.1=k):zdZ (p :: r) k=some p.2:=by simp [zdZ,yw,e]
theorem zhx {p:D × D} {r:List (D × D)} {k:D} (e:¬ p.1=k):zdZ (p :: r) k=zdZ r k:=by simp [zdZ,yw,e]
inductive OptD (K:W.Frag) (H:Hp):Option V->Option D->Prop where
 | none:OptD K H none none
 | some {v:V} {d:D} (h:Den K H v d):OptD K H (some v) (some d)
theorem znw {kvs:List (List Key × V)} {ds:List (D × D)} (r:zi8 K H kvs ds) (ks:List Key):OptD K H (zf0 kvs ks) (zdZ ds (.tup (ks.map zdY))):=by
 induction r with
 | nil=>exact .none
 | @cons p q ps qs h t ih =>
  by_cases e:p.1=ks
  ·rw [zeQ e,zhw (h.1.trans (by rw [e]))]
   exact .some h.2
  ·rw [zeR e,zhx (fun z=>e (zei (by
    have:=h.1.symm.trans z
    injection this)))]
   exact ih
theorem OptD.isSome {o:Option V} {d:Option D} (h:OptD K H o d):o.isSome=d.isSome:=by cases h <;> rfl
open Classical in
theorem zth {ks:List Key} {v:V} {d:D} (h:Den K H v d) {kvs:List (List Key × V)} {ds:List (D × D)} (r:zi8 K H kvs ds):zi8 K H (kvs.map fun kv=>if kv.1=ks then (kv.1,v) else kv) (ds.map fun p=>if p.1=.tup (ks.map zdY) then (p.1,d) else p):=by
 induction r with
 | nil=>exact .nil
 | @cons p q ps qs hh t ih =>
  rw [yS,yS]; refine .cons ?_ ih
  by_cases e:p.1=ks
  ·rw [yN e,yN (hh.1.trans (by rw [e]))]
   exact ⟨hh.1,h⟩
  ·rw [yK e,yK (fun z=>e (zei (by
    have:=hh.1.symm.trans z
    injection this)))]
   exact hh
theorem zvl {kvs:List (List Key × V)} {ds:List (D × D)} (r:zi8 K H kvs ds) (ks:List Key) {v:V} {d:D} (h:Den K H v d):zi8 K H (zgV kvs ks v) (zqj ds (.tup (ks.map zdY)) d):=by
 unfold zgV zqj; rw [zfZ,(znw r ks).isSome]; split
 ·exact zth h r
 ·exact zaM r (.cons ⟨rfl,h⟩ .nil)
end
section
variable {X:Cx}
def zh1:R2':=fun x y Q=>∃ (ds:List (D × D)) (ks:List Key) (v:D),x=.dit ds/\y=.tup (ks.map zdY)/\zdZ ds y=some v/\Q v
def zoN (neg:Bool):R2':=fun x y Q=>∃ (ks:List Key) (ds:List (D × D)),x=.tup (ks.map zdY)/\y=.dit ds/\Q (.bl (if neg then !(zdZ ds x).isSome else (zdZ ds x).isSome))
theorem znz {K:W.Frag} {Hi H:Hp} {x y:V} {ds:List (D × D)} {ks:List Key} (s:Fz Hi H) (d1:Den K Hi x (.dit ds)) (d2:Den K Hi y (.tup (ks.map zdY))):∃ a o,x=.ref a/\zl4 H a y o/\OptD K Hi o (zdZ ds (.tup (ks.map zdY))):=by
 obtain ⟨a,kvs,ep,rfl,h1,h2⟩:=d1.ditI; obtain ⟨b,rfl,h3⟩:=ze1 d2; exact ⟨a,_,rfl,⟨kvs,ep,ks,b,s.sub _ _ h1,rfl,s.sub _ _ h3,rfl⟩,znw h2 ks⟩
theorem ztV (hu:X.A.units+1<cLine):Ixs X zh1:=⟨_,zlj hu,by
 rintro Hi H x y dx dy Q Q2 s d1 d2 ⟨ds,ks,v,rfl,rfl,e,q⟩ fin
 obtain ⟨a,o,rfl,g,r⟩:=znz s d1 d2; rw [e] at r
 cases r with
 | some h=>exact ⟨a,_,rfl,g,fin Hi H _ _ (Ext.refl s) h q⟩⟩
theorem ztK (hu:X.A.units+1<cLine):Op2 X (compareOp .In) (zoN false):=⟨_,zru hu,by
 rintro Hi H x y dx dy Q Q2 s d1 d2 ⟨ks,ds,rfl,rfl,q⟩ fin
 obtain ⟨a,o,rfl,g,r⟩:=znz s d2 d1; refine ⟨a,o,rfl,g,?_⟩; rw [r.isSome]; exact fin Hi H _ _ (Ext.refl s) (.bl _) q⟩
theorem zmW (hu:X.A.units+1<cLine):Op2 X (compareOp .NotIn) (zoN true):=⟨_,zk1 hu,by
 rintro Hi H x y dx dy Q Q2 s d1 d2 ⟨ks,ds,rfl,rfl,q⟩ fin
 obtain ⟨a,o,rfl,g,r⟩:=znz s d2 d1; refine ⟨a,o,rfl,g,?_⟩; rw [r.isSome]; exact fin Hi H _ _ (Ext.refl s) (.bl _) q⟩
end
end PL
namespace PySem
section
variable {prog:Program} {w:World} {A:Around} {E:Value->Shared->Prop} {s:Shared} {dd kk:Addr} {ob:Obj} {ens:Array DictEntry} {tick nn:Nat}
theorem zcE (hob:s.heap.get? dd=some ob) (hex:ob.ExactDict):s.TypeIs (.ref dd) "dict":=⟨ob,hob,hex.1⟩
theorem zhh {Q:Value->Shared->Prop} (hsys:(dd == sysModules)=false) (hob:s.heap.get? dd=some ob) (hex:ob.ExactDict) (hdt:ob.data=.dict ens tick)
  (fin:Q (.ref s.heap.objs.size) { s with heap:=s.heap.push { cls:=.type "dict_keyiterator",data:=.fields #[.ref dd,.int 0 0,.int ens.size 0,.int tick 0] } }) :
  wpAny (model prog w) A (pyIter (.ref dd)) Q E s:=by
 have ty:=zcE hob hex; refine wpAny_pyIter_slot ty F.slot_dict_iter (yu F.slot_dict_iter ty F.entry_dict_iter ?_ (F.args_dict_iter_1 _))
 unfold Builtin.«dict.__iter__» Builtin.Dict.dictSlotNone
 refine yA (yA (wpAny_notOrdered_dict ty ?_))
 show wpAny _ _ (pure (Value.ref dd)) _ _ s
 refine yG (show wpAny _ _ (Builtin.Dict.showsAll dd >>= _) _ _ s from ?_)
 unfold Builtin.Dict.showsAll
 rw [yK (by rw [hsys]; exact yR)]
 refine yA (yG (yA (YL hob hdt (yA (wpAny_dictEpoch hob hdt ?_))))); refine yA (yh (yG ⟨_,rfl,"dict_keyiterator",_,⟨_,yI _ rfl,rfl⟩,F.slot_dict_keyiterator_next.lookup,?_⟩))
 simpa [rawInt] using fin
theorem zij {ii:Nat} {Q:Option Value->Shared->Prop} (st:s.heap.IsKeyIter kk dd ii ens.size tick) (hob:s.heap.get? dd=some ob) (hdt:ob.data=.dict ens tick) (lt:ii<ens.size)
  (fin:∀ h2,h2.IsKeyIter kk dd (ii+1) ens.size tick->Heap.SameBut kk s.heap h2->Q (some ens[ii].key) { s with heap:=h2 }):wpAny (model prog w) A (pyNext (.ref kk)) Q E s:=by
 obtain ⟨ki,hki,hkc,hkd⟩:=id st; have ty:=st.typeIs; unfold pyNext; refine yA (Yj (wpAny_callSpecial?_slot (name:=Str.ofString "__next__") ty F.slot_dict_keyiterator_next (yu F.slot_dict_keyiterator_next ty F.entry_dict_keyiterator_next ?_ (F.args_dict_keyiterator_next_1 _)))); refine yA (yG (yA (yA ?_)))
 first
  | refine yA (Ys ty (yG (yA (Ym hki hkd ?_))))
  | refine yA (wpAny_typeNameOf_keyiter ty (yG (yA (Ym hki hkd ?_))))
 simp only [show Builtin.Dict_items.ownsTuple "dict_keyiterator"=false by decide,yn,if_false]
 show wpAny _ _ (if (Value.ref dd == Value.none)=true then _ else _) _ _ s
 rw [yK (show ¬ ((Value.ref dd == Value.none)=true) from yR)]
 refine yA (yG (yA (YL hob hdt ?_)))
 rw [yK (by simp)]
 refine yA (yG (yA (wpAny_dictEpoch hob hdt ?_)))
 rw [yK (by simp)]
 refine yG ?_
 simp only [show ¬ ((ii:Int)<0) from by omega,if_false,YN,YC lt]
 refine yA ?_
 first
  | refine yA (Ys ty (yG (yA (wpAny_isOneOf_keyiter ty ?_))))
  | refine yA (wpAny_typeNameOf_keyiter ty (yG (yA (wpAny_isOneOf_keyiter ty ?_))))
 show wpAny _ _ (setField (.ref kk) 1 (rawInt ((ii:Int)+1)) >>= _) _ _ s
 have st2:(s.heap.update kk (Obj.mapFields (·.setIfInBounds 1 (rawInt ((ii:Int)+1))))).IsKeyIter kk dd (ii+1) ens.size tick :=
  ⟨_,YT _ hki (Obj.isFreed_of_fields (Obj.data_mapFields hkd _)),(Obj.cls_mapFields ..).trans hkc,by rw [Obj.data_mapFields hkd]; simp [rawInt]⟩
 refine yA (wpAny_setField hki hkd (by simp) (yA (YH ?_)))
 refine yA (wpAny_isOneOf_keyiter (s:={ s with heap:=s.heap.update kk (Obj.mapFields (·.setIfInBounds 1 (rawInt ((ii:Int)+1)))) }) st2.typeIs ?_)
 show wpAny _ _ (pure ens[ii].key) _ _ _
 exact yG (yG ⟨_,rfl,yG (fin _ st2 (Heap.SameBut.update ..))⟩)
theorem zjO {ii:Nat} {Q:Option Value->Shared->Prop} (calm:A.handled=none) (st:s.heap.IsKeyIter kk dd ii ens.size tick) (hob:s.heap.get? dd=some ob) (hdt:ob.data=.dict ens tick) (ge:ens.size<=ii)
  (fin:∀ h2,Heap.ExtBut kk s.heap h2->Q none { s with heap:=h2 }):wpAny (model prog w) A (pyNext (.ref kk)) Q E s:=by
 obtain ⟨ki,hki,hkc,hkd⟩:=id st; have ty:=st.typeIs; unfold pyNext; refine yA (Yj (wpAny_callSpecial?_slot (name:=Str.ofString "__next__") ty F.slot_dict_keyiterator_next (yu F.slot_dict_keyiterator_next ty F.entry_dict_keyiterator_next ?_ (F.args_dict_keyiterator_next_1 _)))); refine yA (yG (yA (yA ?_)))
 first
  | refine yA (Ys ty (yG (yA (Ym hki hkd ?_))))
  | refine yA (wpAny_typeNameOf_keyiter ty (yG (yA (Ym hki hkd ?_))))
 simp only [show Builtin.Dict_items.ownsTuple "dict_keyiterator"=false by decide,yn,if_false]
 show wpAny _ _ (if (Value.ref dd == Value.none)=true then _ else _) _ _ s
 rw [yK (show ¬ ((Value.ref dd == Value.none)=true) from yR)]
 refine yA (yG (yA (YL hob hdt ?_)))
 rw [yK (by simp)]
 refine yA (yG (yA (wpAny_dictEpoch hob hdt ?_)))
 rw [yK (by simp)]
 refine yG ?_
 simp only [show ¬ ((ii:Int)<0) from by omega,if_false,YN,Array.getElem?_eq_none ge]
 refine yA ?_
 first
  | refine yA (Ys ty (yG ?_))
  | refine yA (wpAny_typeNameOf_keyiter ty (yG ?_))
 show wpAny _ _ (setField (.ref kk) 0 .none >>= _) _ _ s
 refine yA (wpAny_setField hki hkd (by simp) (show wpAny _ _ (newExc (.type "StopIteration") [] >>= _) _ _ _ from yA ?_))
 simp only [newExc,newTuple]
 apply yA
 refine yh ?_ (by size_fits)
 refine yA (m:=firstArgMember _ _) (wpAny_of_eq (a:=Value.none) (by first | rfl | (simp only [firstArgMember]; rfl)) (yh ?_ (by size_fits)))
 simp only [raiseNew]; refine yA (wpAny_handled ?_)
 rw [show A.in1.handled=none from calm]
 refine (yA (yG (wpAny_throw ?_))); refine yA (wpAny_isInstance (T:="StopIteration") (b:=true) ⟨_,yI _ rfl,rfl⟩ isSubtype_stop (yG (fin _ ?_))); exact ((Heap.SameBut.update ..).extBut.push _).push _
end
end PySem
namespace L2
open PySem PySem.Spec PyProof.Rows
section
variable {X:Cx} {tg:Expr}
end
end L2
namespace PL
open PySem L2
theorem zpM {K:W.Frag} {Hi:Hp}:∀ k:Key,Den K Hi (kV k) (zdY k)
 | .inl i=>.int i
 | .inr x=>by
  have e:kV (.inr x)=.str (st x.cps.toList):=by
   show V.str x=_
   rfl
  rw [e]; exact .str _
theorem zli {K:W.Frag} {Hi:Hp}:∀ ks:List Key,zbv K Hi (ks.map kV) (ks.map zdY)
 | []=>.nil
 | k :: ks=>.cons (zpM k) (zli ks)
end PL
namespace PySem
section
variable {prog:Program} {w:World} {A:Around} {E:Value->Shared->Prop} {s:Shared} {dd kk:Addr} {ob:Obj} {ens:Array DictEntry} {tick nn:Nat}
theorem zqM {Q:Value->Shared->Prop} (hsys:(dd == sysModules)=false) (hob:s.heap.get? dd=some ob) (hex:ob.ExactDict) (hdt:ob.data=.dict ens tick) (fin:Q (.int ens.size s.toks) { s with toks:=s.toks+1 }) :
  wpAny (model prog w) A (call (.builtin "dict.__len__") [.ref dd]) Q E s:=by
 have ty:=zcE hob hex; refine yu F.slot_dict_len ty F.entry_dict_len ?_ (F.args_dict_len_1 _)
 show wpAny _ _ (dictSize dd >>= _) _ _ s
 unfold dictSize
 refine yA (yA (YL hob hdt (yG (show wpAny _ _ (Builtin.Dict.pendingCount dd >>= _) _ _ s from yA (wpAny_pendingCount_other hsys ?_)))))
 refine wpAny_ret_mkInt ?_
 have z:((ens.size:Int)+((0:Nat):Int))=ens.size:=by omega
 first
  | exact fin
  | (rw [z]; exact fin)
  | (refine ⟨_,rfl,?_⟩; simpa using fin)
theorem ztP {Q:Value->Shared->Prop} (hsys:(dd == sysModules)=false) (hob:s.heap.get? dd=some ob) (hex:ob.ExactDict) (hdt:ob.data=.dict ens tick) (few:ens.size<=sizeLine) (fin:Q (.int ens.size (s.toks+1)) { s with toks:=s.toks+1+1 }) :
  wpAny (model prog w) A (call (.builtin "len") [.ref dd]) Q E s :=
 PyProof.Rows.call_len_slot (n:=ens.size) (zcE hob hex) F.slot_dict_len (fun Q' hq=>zqM hsys hob hex hdt hq) (by omega) (by rw [sizeLine_eq] at few; omega) fin
theorem zrX {Q:Bool->Shared->Prop} (hob:s.heap.get? dd=some ob) (hex:ob.ExactDict) (fin:Q false s):wpAny (model prog w) A (Builtin.List.listLengthHint (.ref dd)) Q E s:=by
 have ty:=zcE hob hex; unfold Builtin.List.listLengthHint; refine yA (wpAny_specialOf ty F.slot_dict_len.lookup ?_); generalize hid:("dict.__len__":String)=id0
 wp_delta
 rw [show splitId id0=some ("dict","__len__") from by subst hid; decide +kernel]
 subst hid
 refine yA (wpAny_isInstance (T:="dict") (b:=true) ty (by rw [isSubtype_type]; kernel_rfl) ?_)
 refine wpAny_ite_split (fun z=>yQ z (by decide)) (fun _=>?_)
 refine wpAny_ite_split (fun _=>?_) (fun z=>yQ (by decide +kernel) z)
 refine yA (wpAny_typeOf ty ?_); exact yG fin
theorem zl8 (calm:A.handled=none) (hne:dd≠kk) (hdt:ob.data=.dict ens tick):Walks prog w A kk [kk,dd] [kk] ens.size (fun i v=>∃ e,ens[i]?=some e/\v=e.key) (fun i h=>h.IsKeyIter kk dd i ens.size tick/\h.get? dd=some ob) where
 sub:=fun b hb=>by
  have e:b=kk:=by simpa using hb
  simp [e]
 frame:=fun _ _ _ st hk=>⟨st.1.at fun o e=>hk kk (by simp) o e,hk dd (by simp) _ st.2⟩
 item:=fun i s Q E hi st hQ=>zij st.1 st.2 hdt hi fun h2 st2 sb=>hQ _ h2 s.toks ⟨_,YC hi,rfl⟩ ⟨st2,(sb.2 dd hne).trans st.2⟩ fun b o hb e=>(sb.2 b (fun z=>hb (by simp [z]))).trans e
 done:=fun s Q E st hQ=>zjO calm st.1 st.2 hdt (yH _) fun h2 eb=>hQ h2 s.toks fun b o hb e=>eb b o (fun z=>hb (by simp [z])) e
 self:=fun _ _ _ _ st hQ=>wpAny_pyIter_keyiter st.1 hQ
theorem zjU {R:Result->Shared->Prop} {S:Addr} {res:Value} {c₀:Nat} (calm:A.handled=none) (hsys:(dd == sysModules)=false) (hob:s.heap.get? dd=some ob) (hex:ob.ExactDict) (hdt:ob.data=.dict ens tick) (few:ens.size<=sizeLine) (hne:S≠dd) (hS:s.heap.get? S=some { cls:=.type "list",data:=.seq #[] c₀ })
  (fin:∀ h2 tk acc c2,(∀ b o,b≠S->s.heap.get? b=some o->h2.get? b=some o)->h2.get? S=some { cls:=.type "list",dict:=none,data:=.seq acc c2,slots:=#[] }->ItemsOf (fun i v=>∃ e,ens[i]?=some e/\v=e.key) acc ens.size->R (.ok (.ret res)) { s with heap:=h2,toks:=tk }) :
  wpAny (model prog w) A.in1 (Builtin.List.listExtendWith (.ref S) (.ref dd) res) (fun f s'=>match f with | .done f=>R (.ok f) s' | .again c'=>c'.quiet=true/\codeAny (model prog w) A c' R s') (fun e s'=>R (.error e) s') s:=by
 have hSlt:S<s.heap.objs.size:=yM hS
 have hSI:S≠s.heap.objs.size:=yU hSlt
 have hdI:dd≠s.heap.objs.size:=yU (yM hob)
 have hSf:S ∉ [s.heap.objs.size,dd]:=fun hm=>by
  rcases yO.mp hm with z | z
  ·exact hSI z
  ·exact hne (yj.mp z)
 have W:=(zl8 (prog:=prog) (w:=w) (A:=A.in1) (kk:=s.heap.objs.size) calm hdI hdt).toS
 have loop:∀ (h:Heap) (c₁ tk:Nat),h.IsKeyIter s.heap.objs.size dd 0 ens.size tick->h.get? dd=some ob->(∀ b o,b≠S->s.heap.get? b=some o->h.get? b=some o) ->
   h.get? S=some { cls:=.type "list",data:=.seq #[] c₁ }->codeAny (model prog w) A (.builtin "list.extend.loop" ⟨[.ref S,.ref s.heap.objs.size,res],[]⟩) R { s with heap:=h,toks:=tk }:=by
  intro h c₁ tk hit hod hk hS₁
  refine codeAny_extend_loopS W few S hSf res ens.size 0 _ #[] c₁ rfl (yb _) ⟨hit,hod⟩ hS₁ (ItemsOf.nil _) fun s' acc' c' hm hS' hacc=>?_
  rw [Moved.eq_with hm]
  refine fin s'.heap s'.toks acc' c' (fun b o hb e=>hm.heap b o (fun z=>?_) (hk b o hb e)) hS' hacc
  rcases yO.mp z with e' | z
  ·exact hb e'
  ·exact yQ (yM e) (by rw [yj.mp z]; exact Yw _)
 unfold Builtin.List.listExtendWith; refine yA (wpAny_typeOf (zcE hob hex) ?_)
 have h1:Builtin.List.listSameRef (.ref S) (.ref dd)=false:=by simp [Builtin.List.listSameRef,hne]
 simp only [h1,show (Value.type "dict" == Value.type "list")=false by decide,show (Value.type "dict" == Value.type "tuple")=false by decide,Bool.or_false,yn,if_false]
 refine yA (zhh hsys hob hex hdt ?_); refine yA (YH (zrX (yC _ hob) hex ?_))
 have hit₁:(s.heap.push { cls:=.type "dict_keyiterator",data:=.fields #[.ref dd,.int 0 0,.int ens.size 0,.int tick 0] }).IsKeyIter s.heap.objs.size dd 0 ens.size tick:=⟨_,yI _ rfl,rfl,rfl⟩
 have hS₁:=yC { cls:=.type "dict_keyiterator",data:=.fields #[.ref dd,.int 0 0,.int ens.size 0,.int tick 0] } hS
 refine wpAny_ite_split (fun _=>?_) (fun _=>yG ⟨plainId_quiet F.plain_extend_loop _,loop _ c₀ _ hit₁ (yC _ hob) (fun b o _ e=>yC _ e) hS₁⟩)
 refine yA (wpAny_rule (yA ?_))
 show wpAny _ _ (updateSeq S (·.push .none) >>= fun _=>updateSeq S (·.pop)) _ _ _
 refine yA (wpAny_updateSeq hS₁ rfl ?_); have hS₂:=YT (Obj.mapSeq (·.push Value.none)) hS₁ rfl
 refine wpAny_updateSeq (hz:=by seq_fits) hS₂ rfl ?_
 have hS₃:=YT (Obj.mapSeq (·.pop)) hS₂ rfl
 have oth:∀ b o,b≠S->(s.heap.push { cls:=.type "dict_keyiterator",data:=.fields #[.ref dd,.int 0 0,.int ens.size 0,.int tick 0] }).get? b=some o->(((s.heap.push { cls:=.type "dict_keyiterator",data:=.fields #[.ref dd,.int 0 0,.int ens.size 0,.int tick 0] }).update S (Obj.mapSeq (·.push Value.none))).update S (Obj.mapSeq (·.pop))).get? b=some o :=
  fun b o hb e=>(Yc _ _ (Ne.symm hb)).trans ((Yc _ _ (Ne.symm hb)).trans e)
 exact yG ⟨plainId_quiet F.plain_extend_loop _,loop _ _ _ (hit₁.at fun o e=>oth _ o (Ne.symm hSI) e) (oth _ _ (Ne.symm hne) (yC _ hob)) (fun b o hb e=>oth b o hb (yC _ e)) hS₃⟩
theorem znt {R:Result->Shared->Prop} {S:Addr} (calm:A.handled=none) (hsys:(dd == sysModules)=false) (hob:s.heap.get? dd=some ob) (hex:ob.ExactDict) (hdt:ob.data=.dict ens tick) (few:ens.size<=sizeLine) (hne:S≠dd) (hS:s.heap.get? S=some { cls:=.type "list",data:=.seq #[] })
  (fin:∀ h2 tk acc c2,(∀ b o,b≠S->s.heap.get? b=some o->h2.get? b=some o)->h2.get? S=some { cls:=.type "list",dict:=none,data:=.seq acc c2,slots:=#[] }->ItemsOf (fun i v=>∃ e,ens[i]?=some e/\v=e.key) acc ens.size->R (.ok (.ret .none)) { s with heap:=h2,toks:=tk }) :
  wpAny (model prog w) A.in1 (Builtin.«list.__init__» ⟨[.ref S,.ref dd],[]⟩) (fun f s'=>match f with | .done f=>R (.ok f) s' | .again c'=>c'.quiet=true/\codeAny (model prog w) A c' R s') (fun e s'=>R (.error e) s') s:=by
 show wpAny _ _ (Builtin.List.listItems (.ref S) >>= fun old=>Builtin.List.listUpdate (.ref S) (fun _=>#[]) >>= fun _=>letGo old.toList.reverse >>= fun _=>Builtin.List.listExtendWith (.ref S) (.ref dd) .none) _ _ s
 unfold Builtin.List.listItems; refine yA (yA (Yf hS rfl (yG ?_)))
 show wpAny _ _ (updateSeq S (fun _=>#[]) >>= fun _=>letGo (#[]:Array Value).toList.reverse >>= fun _=>Builtin.List.listExtendWith (.ref S) (.ref dd) .none) _ _ s
 have hS₂:=YT (Obj.mapSeq (fun _=>(#[]:Array Value))) hS rfl
 have oth:∀ b o,b≠S->s.heap.get? b=some o->(s.heap.update S (Obj.mapSeq (fun _=>(#[]:Array Value)))).get? b=some o:=fun b o hb e=>(Yc _ _ (Ne.symm hb)).trans e
 refine yA (wpAny_updateSeq hS rfl (yA (wpAny_letGo ?_)))
 exact zjU calm hsys (oth dd _ (Ne.symm hne) hob) hex hdt few hne hS₂ fun h2 tk acc c2 hk hS' hacc=>fin h2 tk acc c2 (fun b o hb e=>hk b o hb (oth b o hb e)) hS' hacc
theorem zm9 {Q:Value->Shared->Prop} (calm:A.handled=none) (hsys:(dd == sysModules)=false) (hob:s.heap.get? dd=some ob) (hex:ob.ExactDict) (hdt:ob.data=.dict ens tick) (few:ens.size<=sizeLine)
  (fin:∀ h2 tk acc c2,(∀ b o,s.heap.get? b=some o->h2.get? b=some o)->h2.get? s.heap.objs.size=some { cls:=.type "list",dict:=none,data:=.seq acc c2,slots:=#[] }->ItemsOf (fun i v=>∃ e,ens[i]?=some e/\v=e.key) acc ens.size->Q (.ref s.heap.objs.size) { s with heap:=h2,toks:=tk }) :
  wpAny (model prog w) A (call (.type "list") [.ref dd]) Q E s:=by
 refine callType_codes (Q₁:=fun obj s₁=>obj=.ref s.heap.objs.size/\s₁={ s with heap:=s.heap.push { cls:=.type "list",data:=.seq #[] } }) F.called_list (F.typeCall_list_1 _) F.entry_list_init (code_list_new _ ⟨rfl,rfl⟩) fun obj s₁ h₁=>?_
 obtain ⟨rfl,rfl⟩:=h₁
 have hS:(s.heap.push { cls:=.type "list",data:=.seq #[] }).get? s.heap.objs.size=some { cls:=.type "list",data:=.seq #[] }:=yI _ rfl
 refine ⟨⟨_,hS,rfl⟩,F.args_list_init_2 _ _,znt (A:=A.in1) calm hsys (yC _ hob) hex hdt few (Ne.symm (yU (yM hob))) hS fun h2 tk acc c2 hk hS' hacc=>?_⟩
 exact ⟨rfl,fin h2 tk acc c2 (fun b o e=>hk b o (yU (yM e)) (yC _ e)) hS' hacc⟩
end
end PySem
namespace L2
open PySem PySem.Spec PyProof.Rows
section
variable {X:Cx}
def zsq:Value->V
 | .ref b=>.ref b
 | _=>.non
theorem Inv.keys {pins:List (Addr × Obj)} {σ:St} {H:Hp} {s:Shared} {a:Addr} {kvs:List (List Key × V)} {ep:Nat} (I:Inv X pins σ H s) (e:H a=some (.dE kvs ep)):kvs.length<=sizeLine/\(a == sysModules)=false/\∃ (o:Obj) (es:Array DictEntry),s.heap.get? a=some o/\o.ExactDict/\o.data=.dict es ep/\es.size=kvs.length /\
  ∀ (i:Nat) k y,kvs[i]?=some (k,y)->∃ b x,es[i]?=some x/\x.key=.ref b/\H b=some (.tup (k.map kV)):=by
 obtain ⟨z,hd,xs,rel,_,o,es,ho,hx,hdat,he⟩:=zeP I.hok e
 have hl:kvs.length=xs.length:=Paired.length rel
 have hs:es.size=kvs.length:=by
  have:=yo List.length he
  rw [yF,yz] at this; rw [this,hl]
 refine ⟨z,hd,o,es,ho,hx,hdat,hs,fun i k y hk=>?_⟩
 have hi:i<kvs.length:=(yD.mp hk).1
 have hix:i<xs.length:=by rw [<- hl]; exact hi
 have hi':i<es.size:=by rw [hs]; exact hi
 have q:=PL.paired_get i rel hk (yB hix); refine ⟨xs[i].2.1,es[i],YC hi',?_,q.2.1⟩
 have e1:es.toList[i]?=(xs.map (entryOfKey (tupleKind (zaR X.prog X.w))))[i]?:=by rw [he]
 rw [yE,yB hix,Array.getElem?_toList,YC hi'] at e1; rw [Option.some.inj e1]; rfl
theorem zlL:zcW X (.builtin "len") (fun xs H Q=>∃ a kvs ep,xs=[.ref a]/\H a=some (.dE kvs ep)/\Q (.int kvs.length) H):=by
 intro pins s σ H xs us Q I r h; obtain ⟨a,kvs,ep,rfl,e,q⟩:=h; obtain ⟨u,rfl,rx⟩:=zcZ r; cases rx; obtain ⟨z,hd,o,es,ho,hx,hdat,hs,_⟩:=I.keys e
 refine ztP hd ho hx hdat (by rw [hs]; exact z) ?_
 rw [hs]; exact ⟨.int kvs.length,H,I.tok _,⟨_,rfl⟩,q⟩
theorem zjX (hc:X.calm=true):zcW X (.type "list") (fun xs H Q=>∃ a kvs ep,xs=[.ref a]/\H a=some (.dE kvs ep)/\∀ l ys,H l=none->ys.length=kvs.length->(∀ (i:Nat) k y,kvs[i]?=some (k,y)->∃ b,ys[i]?=some (.ref b)/\H b=some (.tup (k.map kV)))->Q (.ref l) (upd H l (.lst ys))):=by
 intro pins s σ H xs us Q I r h; obtain ⟨a,kvs,ep,rfl,e,q⟩:=h; obtain ⟨u,rfl,rx⟩:=zcZ r; cases rx; obtain ⟨z,hd,o,es,ho,hx,hdat,hs,hk⟩:=I.keys e
 refine zm9 (I.ok.hd hc) hd ho hx hdat (by rw [hs]; exact z) fun h2 tk acc c2 kp e2 hit=>?_
 obtain ⟨hsz,hit⟩:=hit
 have each:∀ (j:Nat) v,acc[j]?=some v->∃ b k y,v=.ref b/\kvs[j]?=some (k,y)/\H b=some (.tup (k.map kV)):=fun j v hj=>by
  obtain ⟨x,hx1,rfl⟩:=hit j v hj
  have hjl:j<kvs.length:=by
   rw [<- hs]; exact (Array.getElem?_eq_some_iff.mp hx1).1
  obtain ⟨b,x',hx2,hb,ht⟩:=hk j kvs[j].1 kvs[j].2 (yB hjl); rw [hx1] at hx2; cases hx2; exact ⟨b,kvs[j].1,kvs[j].2,hb,yB hjl,ht⟩
 have hys:zaK (acc.toList.map zsq) acc.toList:=by
  refine PL.paired_of (by rw [yF]) fun j x v h1 h2=>?_
  rw [yE,h2] at h1
  obtain ⟨b,_,_,rfl,_⟩:=each j v (by rw [<- Array.getElem?_toList]; exact h2)
  cases h1; exact rfl
 have hl:(acc.toList.map zsq).length=kvs.length:=by rw [yF,yz,hsz,hs]
 have I2:=I.laid (t':=tk) (o:=.lst (acc.toList.map zsq)) kp (yH _) (show zbG X.prog X.w _ h2 _ (.lst (acc.toList.map zsq)) from ⟨by rw [hl]; exact z,acc.toList,c2,hys,by simpa using e2⟩)
 refine ⟨.ref s.heap.objs.size,_,I2,rfl,q _ _ (I.hok.fresh (yH _)) hl fun i k y hi=>?_⟩
 have hil:i<acc.size:=by rw [hsz,hs]; exact (yD.mp hi).1
 obtain ⟨b,k',y',hv,hk',ht⟩:=each i acc[i] (YC hil); rw [hi] at hk'; cases hk'; refine ⟨b,?_,ht⟩; rw [yE,Array.getElem?_toList,YC hil,hv]; rfl
end
end L2
namespace PL
open PySem L2
section
variable {X:Cx}
abbrev zlU:=List D->(OD->Prop)->Prop
def zoq (K:W.Frag) (r:List V->Hp->VK->Prop) (r':zlU):Prop:=∀ (Hi H:Hp) (vs:List V) (ds:List D) (Q:OD->Prop) (Q2:VK),Fz Hi H->zbv K Hi vs ds->r' ds Q ->
 (∀ Hi1 H1 p u o,Ext Hi H Hi1 H1->H1 p=none->(∀ xs,u≠.tup xs)->zbM K Hi1 (upd H1 p u) p o->Q o->Q2 (.ref p) (upd H1 p u))->r vs H Q2
structure CalO (X:Cx) (f:Value) (r':zlU):Prop where
 ex:∃ r,zcW X f r/\zoq X.K r r'
theorem CalO.or {f:Value} {r r':zlU} (h:CalO X f r) (h':CalO X f r'):CalO X f (fun x Q=>r x Q\/r' x Q):=by
 obtain ⟨a,ha,la⟩:=h.ex; obtain ⟨b,hb,lb⟩:=h'.ex
 refine ⟨_,ha.or hb,fun Hi H vs ds Q Q2 s d q fin=>?_⟩
 rcases q with q | q
 ·exact .inl (la Hi H vs ds Q Q2 s d q fin)
 ·exact .inr (lb Hi H vs ds Q Q2 s d q fin)
def za8 (r:zlU) (t:TA'):TO':=fun Γ Q=>t Γ fun ds Γ1=>r ds fun o=>Q o Γ1
theorem zow {K:W.Frag} {n:Nat} {r:List V->Hp->VK->Prop} {r':zlU} {t:TA'} {σ:St} {H:Hp} {Q:VK} (l:zoq K r r') (h:oOf K n (za8 r' t) σ H Q):tCB r (zsZ K n t) σ H Q:=by
 obtain ⟨W,Hi,Γ,Q',g,h,fin⟩:=h; refine ⟨W,Hi,Γ,_,g,h,?_⟩; intro vs H1 Hi1 Γ1 ds s1 g1 dl h1; refine l Hi1 H1 vs ds _ _ g1.fz dl h1 ?_; intro Hi2 H2 p u o e hp hu own q; have g2:=g1.ext e; exact fin p _ Hi2 Γ1 o (s1.trans e.hi) (g2.ext (Ext.newO g2.fz hp u hu)) (New.mk' g2 hp own) q
variable {x:Str} {p pos:Pos} {e:Expr} {es:List Expr} {t:TA'} {id T:String}
theorem zju {r':zlU} (hc:CalO X (.type T) r') (hm:X.mg x=none) (hv:bootBuiltins x=some (.type T)) (ha:PA' X (e :: es) t) (hg:Gl X x:=by rfl) (hn:x≠"__name__":=by decide) (hdb:(x == ("__debug__":Str))=false:=by decide):PO' X (.Call (.Name x p) (e :: es) [] pos) (za8 r' t):=by
 obtain ⟨r,ho,l⟩:=hc.ex; obtain ⟨p1,p2⟩:=zB ha.pl
 exact ⟨PE.weak (zgX ho hg hm hv ha.pa hn hdb (zP p1) (zaa p2)) fun σ H Q q=>zow l q⟩
class MRCO (r:zlU):Prop where
 mono:∀ ds (Q Q':OD->Prop),(∀ o,Q o->Q' o)->r ds Q->r ds Q'
instance {r:zlU} {t:TA'} [MRCO r] [MA t]:MO (za8 r t):=⟨fun Γ _ _ h q=>MA.mono (t:=t) _ _ _ (fun _ _ z=>MRCO.mono (r:=r) _ _ _ (fun _ w=>h _ _ w) z) q⟩
def ze5:zlU:=fun ds Q=>∃ d es,ds=[d]/\(d=.lst es\/d=.tup es)/\Q (.lst es)
theorem zsa:CalO X (.type "list") ze5:=⟨_,zhD,by
 rintro Hi H vs ds Q Q2 s dl ⟨d,es,rfl,h,q⟩ fin
 obtain ⟨v,rfl,den⟩:=zdl dl
 rcases h with rfl | rfl
 ·obtain ⟨a,us,rfl,h1,h2⟩:=den.lstI
  exact ⟨a,us,rfl,.inl (zy s.sub h1),fun l hl=>fin Hi H l _ (.lst es) (Ext.refl s) hl (fun _ z=>by cases z) ⟨us,zo,h2⟩ q⟩
 ·obtain ⟨a,us,rfl,h1,h2⟩:=den.tupI
  exact ⟨a,us,rfl,.inr (zaf s.sub h1),fun l hl=>fin Hi H l _ (.lst es) (Ext.refl s) hl (fun _ z=>by cases z) ⟨us,zo,h2⟩ q⟩⟩
def zd8:zlU:=fun ds Q=>∃ es,ds=[.dit es]/\Q (.lst (es.map (·.1)))
theorem zp8 (hc:X.calm=true):CalO X (.type "list") zd8:=⟨_,zjX hc,by
 rintro Hi H vs ds Q Q2 s dl ⟨es,rfl,q⟩ fin
 obtain ⟨v,rfl,den⟩:=zdl dl; obtain ⟨a,kvs,ep,rfl,h1,h2⟩:=den.ditI
 refine ⟨a,kvs,ep,rfl,s.sub _ _ h1,fun l ys hl hy hk=>fin Hi H l _ (.lst (es.map (·.1))) (Ext.refl s) hl (fun _ z=>by cases z) ⟨ys,zo,?_⟩ q⟩
 refine paired_of (by rw [hy,yF,zn h2]) fun i v d e1 e2=>?_
 rw [yE] at e2
 cases hc2:es[i]? with
 | none=>rw [hc2] at e2; cases e2
 | some q =>
  rw [hc2] at e2; cases e2; obtain ⟨p,ep,ep2⟩:=zR h2 hc2; obtain ⟨b,eb,hb⟩:=hk i p.1 p.2 ep; rw [e1] at eb; cases eb
  show Den X.K Hi (.ref b) q.1
  rw [ep2.1]; exact Den.mkT (s.tups _ _ hb) (zli _)⟩
def zh0:RC':=fun ds Q=>∃ es,ds=[.dit es]/\Q (.int es.length)
theorem zsb:Cal X (.builtin "len") zh0:=⟨_,zlL,by
 rintro Hi H vs ds Q Q2 s dl ⟨es,rfl,q⟩ fin
 obtain ⟨v,rfl,den⟩:=zdl dl; obtain ⟨a,kvs,ep,rfl,h1,h2⟩:=den.ditI; refine ⟨a,kvs,ep,rfl,s.sub _ _ h1,?_⟩; rw [zn h2]; exact fin Hi H _ _ (Ext.refl s) (.int _) q⟩
instance:MRCO ze5:=⟨fun _ _ _ h ⟨d,es,a,b,q⟩=>⟨d,es,a,b,h _ q⟩⟩
instance:MRCO zd8:=⟨fun _ _ _ h ⟨es,a,q⟩=>⟨es,a,h _ q⟩⟩
instance:MRC zh0:=⟨fun _ _ _ h ⟨es,a,q⟩=>⟨es,a,h _ q⟩⟩
end
end PL
namespace PySem
section
variable {prog:Program} {w:World} {A:Around} {E:Value->Shared->Prop} {s:Shared} {S tt:Addr} {ob:Obj} {mine items:Array Value} {n c₀:Nat} {T:String}
end
end PySem
namespace L2
open PySem PySem.Spec PyProof.Rows
section
variable {X:Cx}
theorem zpr:OpR X (binaryOp .Add) (fun x y H Q=>∃ a b xs ys,x=.ref a/\y=.ref b/\SqL X.K H a xs/\SqL X.K H b ys/\xs.length+ys.length<=sizeLine/\∀ p,H p=none->Q (.ref p) (upd H p (.lst (xs ++ ys)))):=by
 intro pins s σ H x y v u Q I rx ry h; obtain ⟨a,b,xs,ys,rfl,rfl,ha,hb,hz,q⟩:=h; cases rx; cases ry; obtain ⟨its,r1,p1,_⟩:=I.list ha; obtain ⟨its2,r2,p2,_⟩:=I.list hb
 obtain ⟨⟨cls,dd,data,sl⟩,ho,hc,n,hd⟩:=id p1.isList
 obtain ⟨⟨cls2,dd2,data2,sl2⟩,ho2,hc2,n2,hd2⟩:=id p2.isList
 simp only at hc hd hc2 hd2
 subst hc hd hc2 hd2
 have ea:its.toArray ++ its2.toArray=(its ++ its2).toArray:=by simp
 refine concat_meets ⟨_,ho,rfl⟩ ⟨_,ho2,rfl⟩ noFill_list_add seq_list_add PySem.F.slot_list_add PySem.F.entry_list_add (PySem.F.args_list_add_2 _ _)
  (list_addW a b its.toArray its2.toArray n n2 dd dd2 sl sl2 (by rw [yL,yL,<- r1.length,<- r2.length]; exact hz)) ⟨ho,ho2,?_⟩
 rw [ea]
 exact ⟨.ref _,_,I.lnew (t':=s.toks) (r1.append r2) (by rw [yY]; exact hz),rfl,q _ I.fresh⟩
end
end L2
namespace PL
open PySem L2
section
variable {X:Cx}
abbrev zqc:=D->D->(OD->Prop)->Prop
def zsi (K:W.Frag) (r:R2) (r':zqc):Prop:=∀ (Hi H:Hp) (x y:V) (dx dy:D) (Q:OD->Prop) (Q2:VK),Fz Hi H->Den K Hi x dx->Den K Hi y dy->r' dx dy Q ->
 (∀ Hi1 H1 p u o,Ext Hi H Hi1 H1->H1 p=none->(∀ xs,u≠.tup xs)->zbM K Hi1 (upd H1 p u) p o->Q o->Q2 (.ref p) (upd H1 p u))->r x y H Q2
structure Op2O (X:Cx) (f:Value->Value->Sem Value) (r':zqc):Prop where
 ex:∃ r,OpR X f r/\zsi X.K r r'
def zbd (r:zqc) (ta tb:TE'):TO':=fun Γ Q=>ta Γ fun x Γ1=>tb Γ1 fun y Γ2=>r x y fun o=>Q o Γ2
theorem zq5 {a b:Expr} {op:Operator} {r':zqc} {ta tb:TE'} {pos:Pos} (h:Op2O X (binaryOp op) r') (ha:PE' X a ta) (hb:PE' X b tb):PO' X (.BinOp a op b pos) (zbd r' ta tb):=by
 obtain ⟨r,ho,l⟩:=h.ex; refine ⟨PE.weak (zrc ho ha.h hb.h) ?_⟩
 rintro σ H Q ⟨W,Hi,Γ,Q',g,h,fin⟩
 refine ⟨W,Hi,Γ,_,g,h,?_⟩
 rintro x H1 ⟨Hi1,dx,Γ1,s1,g1,den1,h1⟩
 refine ⟨W,Hi1,Γ1,_,g1,h1,?_⟩
 rintro y H2 ⟨Hi2,dy,Γ2,s2,g2,den2,h2⟩
 refine l Hi2 H2 x y dx dy _ _ g2.fz (den1.mono s2) den2 h2 ?_; intro Hi3 H3 p u o e hp hu own q; have g3:=g2.ext e; exact fin p _ Hi3 Γ2 o (s1.trans (s2.trans e.hi)) (g3.ext (Ext.newO g3.fz hp u hu)) (New.mk' g3 hp own) q
class MR2O (r:zqc):Prop where
 mono:∀ x y (Q Q':OD->Prop),(∀ o,Q o->Q' o)->r x y Q->r x y Q'
instance {r:zqc} {ta tb:TE'} [MR2O r] [ME ta] [ME tb]:MO (zbd r ta tb):=⟨fun Γ _ _ h q=>ME.mono (t:=ta) _ _ _ (fun _ _ z=>ME.mono (t:=tb) _ _ _ (fun _ _ y=>MR2O.mono (r:=r) _ _ _ _ (fun _ w=>h _ _ w) y) z) q⟩
def zqW:zqc:=fun x y Q=>∃ xs ys,x=.lst xs/\y=.lst ys/\xs.length+ys.length<=sizeLine/\Q (.lst (xs ++ ys))
theorem zrC:Op2O X (binaryOp .Add) zqW:=⟨_,zpr,by
 rintro Hi H x y dx dy Q Q2 s d1 d2 ⟨xs,ys,rfl,rfl,hl,q⟩ fin
 obtain ⟨a,vs,rfl,h1,h2⟩:=d1.lstI; obtain ⟨b,us,rfl,h3,h4⟩:=d2.lstI
 exact ⟨a,b,vs,us,rfl,rfl,zy s.sub h1,zy s.sub h3,by rw [zn h2,zn h4]; exact hl,fun p hp=>fin Hi H p _ (.lst (xs ++ ys)) (Ext.refl s) hp (fun _ z=>by cases z) ⟨_,zo,zaM h2 h4⟩ q⟩⟩
instance:MR2O zqW:=⟨fun _ _ _ _ h ⟨xs,ys,a,b,c,q⟩=>⟨xs,ys,a,b,c,h _ q⟩⟩
end
end PL
namespace L2
open PySem PySem.Spec PyProof.Rows
section
variable {X:Cx}
end
end L2
namespace PL
open PySem L2
section
variable {X:Cx}
end
end PL
namespace PySem
open PyProof.Rows
namespace F
end F
section
variable {prog:Program} {w:World} {A:Around} {E:Value->Shared->Prop} {s:Shared} {tt rr:Addr} {items:Array Value}
end
end PySem
namespace L2
open PySem PySem.Spec PyProof.Rows
section
variable {X:Cx} {tg:Expr}
end
end L2
namespace PL
open PySem L2
end PL
namespace X1
open PySem
def Ex (h:Heap) (e:Addr) (cl:Value) (dd:Option Addr) (vs:Array Value):Prop:=∃ sl,h.get? e=some ⟨cl,dd,.fields vs,sl⟩
def Ent (h:Heap) (T:Addr) (fl:Value):Prop:=∃ c d ts sl,h.get? T=some ⟨c,d,.fields ts,sl⟩/\ts[3]?=some fl
def Hd (h:Heap) (e:Addr) (vs:Array Value) (fl:Value) (R:Addr->Prop):Prop:=(vs[1]?=some .none/\fl=.none)\/∃ T,vs[1]?=some (.ref T)/\T≠e/\R T/\Ent h T fl
section
variable {M:Model} {A:Around} {E:Value->Shared->Prop} {s:Shared} {base:Heap} {env:Env} {outer:List Env} {L e:Addr} {cl fl:Value} {dd:Option Addr} {vs:Array Value} {R:Addr->Prop}
end
section
variable {prog:Program} {w:World} {A:Around} {E:Value->Shared->Prop} {h:Heap} {g:Array GenState} {d:Drawn} {t:Nat} {os:OsState} {C N fI:Addr} {oI:Obj} {bm bmB:List Value} {B nid iid:String} {mN:Str->Option Value} {zd1:List Value}
end
section
variable {M:Model} {A:Around} {E:Value->Shared->Prop} {env:Env} {s:Shared} {C N:Addr} {bm:List Value} {nid:String}
end
end X1
namespace X1
open PySem PySem.W
section
variable {prog:Program} {w:World} {A:Around} {E:Value->Shared->Prop} {s:Shared} {K:Frag} {x C:Addr} {ox:Obj} {od:Option Obj} {name:Str}
structure XGet (K:Frag) (C:Addr):Prop where
 ga:findIn K (.ref C) "__getattribute__"=some (some (.builtin "BaseException.__getattribute__"))
 gr:findIn K (.ref C) "__getattr__"=some none
 sub:mroIn K C (.type "BaseException")=some true
theorem zi9 {tk:Tok} {v:Value} {R:Result->Shared->Prop} (X:K.In s.heap) (I:InstAt s.heap x ox C od) (T:XGet K C) (hf:findObj K C od name=some (.value v)) (h:R (.ok (.ret v)) s) :
  codeAny (model prog w) A (.call (.builtin "BaseException.__getattribute__") ⟨[.ref x,.str name tk],[]⟩) R s:=by
 obtain ⟨hh',g,d,t,os⟩:=s; have L0:=I.type (M:=model prog w); have L1:=looks_find (M:=model prog w) X I hf
 have LI:Looks (model prog w) hh' (isInstance (.ref x) (.type "BaseException")) true:=L0.andThen (looks_mroIn X T.sub)
 have hk:builtinKind "BaseException.__getattribute__"=some .slot:=by decide +kernel
 have hsp:splitId "BaseException.__getattribute__"=some ("BaseException","__getattribute__"):=by decide +kernel
 refine codeAny_call_builtin F.excAttr_ValueError.ga.plain F.entry_bexc_ga (@check_slot (model prog w) _ _ _ "BaseException.__getattribute__" "BaseException" "__getattribute__" (.ref x) [.str name tk] [] _ hk hsp LI (F.args_bexc_ga (.ref x) (.str name tk)) ?_); refine yA (yG (yA (yG (yA (L0.at (yA (L1.at ?_))))))); exact yG h
theorem zj9 {tk:Tok} {fill expr:Bool} {v:Value} {Q:Value->Shared->Prop} (X:K.In s.heap) (I:InstAt s.heap x ox C od) (T:XGet K C) (h:∀ R:Result->Shared->Prop,R (.ok (.ret v)) s->codeAny (model prog w) A (.call (.builtin "BaseException.__getattribute__") ⟨[.ref x,.str name tk],[]⟩) R s)
  (hh:handedIn v=true) (q:Q v s):wpAny (model prog w) A (getAttrBy (.ref x) (.str name tk) fill expr) Q E s:=by
 obtain ⟨hh',g,d,t,os⟩:=s; have L0:=I.type (M:=model prog w); have L1:=looks_findIn (M:=model prog w) X T.ga; have L2:=looks_findIn (M:=model prog w) X T.gr; unfold getAttrBy; refine YH (yA (L0.at (yA (L1.at ?_))))
 show wpAny _ _ (if (onTheHeap (.ref C) && Value.builtin "BaseException.__getattribute__" == Value.builtin "object.__getattribute__")=true then _ else _) _ _ _
 rw [yK (by
  have z:(Value.builtin "BaseException.__getattribute__" == Value.builtin "object.__getattribute__")=false:=by decide +kernel
  rw [z,Bool.and_false]; exact yR)]
 unfold getAttrByItsOwn hookBefore; refine yA (L2.at ?_); refine yA (Yj (YH ?_)); unfold callGetattribute
 rw [yK (by cases expr <;> decide)]
 unfold boundAndCalled; rw [F.excAttr_ValueError.ga.bind]; refine yA (yG (wpAny_call (h _ ?_)))
 show wpAny _ _ (handedOut v) _ _ _
 rw [handedOut_of hh]; exact yG q
theorem xget {expr:Bool} {v:Value} {Q:Value->Shared->Prop} (X:K.In s.heap) (I:InstAt s.heap x ox C od) (T:XGet K C) (hf:findObj K C od name=some (.value v)) (hh:handedIn v=true) (q:Q v { s with toks:=s.toks+1 }):wpAny (model prog w) A (getAttr (.ref x) name expr) Q E s:=by
 unfold getAttr
 exact yA (wpAny_mkText (zj9 (s:={ s with toks:=s.toks+1 }) X I T (fun R hR=>zi9 (s:={ s with toks:=s.toks+1 }) X I T hf hR) hh q))
theorem zja {tk:Tok} {R:Result->Shared->Prop} (X:K.In s.heap) (I:InstAt s.heap x ox C od) (T:XGet K C) (hf:findObj K C od "__class__"=some (.bind (.builtin "getset_descriptor.__get__") (.builtin "object.__class__"))) (hm:mroIn K C (.type "object")=some true)
  (h:R (.ok (.ret (.ref C))) s):codeAny (model prog w) A (.call (.builtin "BaseException.__getattribute__") ⟨[.ref x,.str "__class__" tk],[]⟩) R s:=by
 obtain ⟨hh',g,d,t,os⟩:=s; have L0:=I.type (M:=model prog w); have L1:=looks_find (M:=model prog w) X I hf
 have LI:Looks (model prog w) hh' (isInstance (.ref x) (.type "BaseException")) true:=L0.andThen (looks_mroIn X T.sub)
 have hk:builtinKind "BaseException.__getattribute__"=some .slot:=by decide +kernel
 have hsp:splitId "BaseException.__getattribute__"=some ("BaseException","__getattribute__"):=by decide +kernel
 refine codeAny_call_builtin F.excAttr_ValueError.ga.plain F.entry_bexc_ga (@check_slot (model prog w) _ _ _ "BaseException.__getattribute__" "BaseException" "__getattribute__" (.ref x) [.str "__class__" tk] [] _ hk hsp LI (F.args_bexc_ga (.ref x) (.str "__class__" tk)) ?_); refine yA (yG (yA (yG (yA (L0.at (yA (L1.at ?_)))))))
 show wpAny _ _ (Builtin.ObjectAttr.bindTo (.builtin "getset_descriptor.__get__") (.builtin "object.__class__") (.ref x) (.ref C)) _ _ _
 show wpAny _ _ (do let r <- holding [Value.builtin "object.__class__"] (call (.builtin "getset_descriptor.__get__") [.builtin "object.__class__",.ref x,.ref C]); ret r) _ _ _
 exact yA (YH (wpAny_call (class_get (ox:=ox) (od:=od) X I hm (yG h))))
theorem xget_class? {Q:Option Value->Shared->Prop} (X:K.In s.heap) (I:InstAt s.heap x ox C od) (T:XGet K C) (hf:findObj K C od "__class__"=some (.bind (.builtin "getset_descriptor.__get__") (.builtin "object.__class__"))) (hm:mroIn K C (.type "object")=some true)
  (h:Q (some (.ref C)) { s with toks:=s.toks+1 }):wpAny (model prog w) A (getAttr? (.ref x) "__class__") Q E s:=by
 unfold getAttr? getAttrBy?
 refine yA (wpAny_mkText (yA (Yj ?_)))
 exact zj9 (s:={ s with toks:=s.toks+1 }) X I T (fun R hR=>zja (s:={ s with toks:=s.toks+1 }) X I T hf hm hR) rfl (yG h)
end
structure XIs (K:Frag) (C:Addr):Prop extends XGet K C where
 cl:(clsIn K C).isSome=true
 ha:findIn K (.ref C) "__class__"=some (some (.builtin "object.__class__"))
 hn:specialIn K (.builtin "object.__class__") "__get__"=some (some (.builtin "getset_descriptor.__get__"))
 tk:takesIn K (.builtin "object.__class__")=some true
 ob:mroIn K C (.type "object")=some true
theorem zin {K:Frag} {C:Addr} {a g:Value} {od:Option Obj} {name:Str} (hc:(clsIn K C).isSome=true) (ha:findIn K (.ref C) name=some (some a)) (hg:specialIn K a "__get__"=some (some g)) (ht:takesIn K a=some true):findObj K C od name=some (.bind g a):=by
 obtain ⟨cd,e⟩:=Option.isSome_iff_exists.mp hc; unfold findObj; rw [e,Option.bind_some,ha]; simp [hg,ht]
theorem kitx_exc {K:Frag} {x C:Addr} (T:XIs K C):KitX K (.ref x) (.ref C) (fun h=>∃ ox od,InstAt h x ox C od) where
 ty:=fun _ _ _ ⟨_,_,I⟩=>I.type
 it:=fun _ _ X _=>by
  have hcD:=T.cl; unfold clsIn at hcD; split at hcD
  ·rename_i c' d' cd' sl' ho
   intro A' Q' E' s' k q; unfold isType loadHead; exact yA (wpAny_loadPart (k _ _ (X _ _ ho)) (yG q))
  ·cases hcD
 ne:=fun h tp dd its n sl X htp=>by
  have hcD:=T.cl
  refine Bool.eq_false_iff.mpr fun q=>?_
  have e:C=tp:=Value.ref.inj (beq_iff_eq.mp q)
  subst e; unfold clsIn at hcD; split at hcD
  ·rename_i c' d' cd' sl' ho
   have z:=(X _ _ ho).symm.trans htp; cases z
  ·cases hcD
 ca:=fun X ⟨_,_,I⟩ k=>xget_class? X I T.toXGet (zin T.cl T.ha T.hn T.tk) T.ob k
end X1
namespace L2
open PySem PySem.Spec PyProof.Rows
structure InsT (K:W.Frag) (C:Addr):Prop where
 cl:Cls K C
 ha:W.findIn K (.ref C) "__class__"=some (some (.builtin "object.__class__"))
 hn:W.specialIn K (.builtin "object.__class__") "__get__"=some (some (.builtin "getset_descriptor.__get__"))
 htk:W.takesIn K (.builtin "object.__class__")=some true
 hm:W.mroIn K C (.type "object")=some true
def TyA (K:W.Frag) (H:Hp) (x:V) (t:Value):Prop:=(∃ n,t=.type n/\zsk K H x n)\/(∃ a C dx fs,x=.ref a/\H a=some (.ins C dx fs)/\t=.ref C/\InsT K C)\/∃ a C dd,x=.ref a/\H a=some (.ext (XAt a C dd))/\(∀ dx,dd=some dx->∃ fs,H dx=some (.xd fs))/\t=.ref C/\X1.XIs K C
def zul:V->Option Value
 | .ty n=>some (.type n)
 | .ref C=>some (.ref C)
 | _=>none
theorem znE {c:V} {u v:Value} (r:zaV c u) (h:zul c=some v):u=v:=by
 cases c with
 | ty n=>cases h; exact r
 | ref C=>cases h; exact r
 | _=>cases h
section
variable {X:Cx}
theorem zou {pins:List (Addr × Obj)} {σ:St} {H:Hp} {s:Shared} {x:V} {u t:Value} (I:Inv X pins σ H s) (r1:zaV x u) (ty:TyA X.K H x t):∃ Hh,W.KitX X.K u t Hh/\Hh s.heap/\u≠.builtin "__main__.__loader__#opaque":=by
 rcases ty with ⟨n,rfl,ty⟩ | ⟨a,C,dx,fs,rfl,ea,rfl,T⟩ | ⟨a,C,dd,rfl,ea,hdd,rfl,T⟩
 ·cases x with
  | non=>cases (show n=_ from ty); cases (show u=Value.none from r1); exact ⟨_,W.kitx_none,True.intro,fun z=>nomatch z⟩
  | bl y=>cases (show n=_ from ty); cases (show u=Value.bool y from r1); exact ⟨_,W.kitx_bool,True.intro,fun z=>nomatch z⟩
  | int i=>cases (show n=_ from ty); obtain ⟨tk,z⟩:=(show ∃ t,u=Value.int i t from r1); cases z; exact ⟨_,W.kitx_int,True.intro,fun z=>nomatch z⟩
  | str y=>cases (show n=_ from ty); obtain ⟨tk,z⟩:=(show ∃ t,u=Value.str y t from r1); cases z; exact ⟨_,W.kitx_str,True.intro,fun z=>nomatch z⟩
  | ref a =>
   cases (show u=Value.ref a from r1)
   rcases ty with ⟨rfl,xs,hq⟩ | ⟨rfl,xs,hq⟩ | ⟨rfl,hq⟩
   ·obtain ⟨its,_,p,_⟩:=I.list hq
    obtain ⟨o,n,e1,c1,_⟩:=p
    exact ⟨_,W.kitx_list,⟨o,e1,c1⟩,fun z=>nomatch z⟩
   ·obtain ⟨its,_,p,_⟩:=I.tuple hq
    obtain ⟨o,h1,h2,_⟩:=p
    exact ⟨_,W.kitx_tuple,⟨o,h1,h2⟩,fun z=>nomatch z⟩
   ·have z:∃ o,s.heap.get? a=some o/\o.ExactDict:=by
     rcases hq with ⟨kvs,hq⟩ | ⟨kvs,hq⟩
     ·obtain ⟨_,_,_,_,o,_,_,e,ex,_⟩:=hq.ok I.hok
      exact ⟨o,e,ex⟩
     ·obtain ⟨_,_,_,_,o,_,_,e,ex,_⟩:=hq.ok I.hok
      exact ⟨o,e,ex⟩
    obtain ⟨o,h1,h2⟩:=z
    exact ⟨_,W.kitx_dict,⟨o,h1,h2.1⟩,fun z=>nomatch z⟩
  | _=>exact False.elim ty
 ·cases (show u=Value.ref a from r1)
  obtain ⟨mA,O,_⟩:=zgt I.hok ea; obtain ⟨od,J,_⟩:=O.look
  exact ⟨_,W.kitx_own (T.cl.get _) T.cl.hd T.ha T.hn T.htk T.hm,J,fun z=>nomatch z⟩
 ·cases (show u=Value.ref a from r1)
  obtain ⟨⟨vs,sl,hx⟩,_⟩:=(show zbG X.prog X.w H s.heap a (.ext (XAt a C dd)) from I.hok a _ ea)
  refine ⟨_,X1.kitx_exc T,?_,fun z=>nomatch z⟩
  cases dd with
  | none=>exact ⟨_,none,hx,rfl,rfl,True.intro⟩
  | some dx =>
   obtain ⟨fs,hf⟩:=hdd dx rfl
   obtain ⟨mA,⟨o,es,ep,ho,_⟩,_⟩:=(show zbG X.prog X.w H s.heap dx (.xd fs) from I.hok dx _ hf)
   exact ⟨_,some o,hx,rfl,rfl,ho⟩
theorem zlM:zcW X (.builtin "isinstance") (fun xs H Q=>∃ x t cv c b,xs=[x,cv]/\zul cv=some c/\TyA X.K H x t/\W.kitOne X.K t c=some b/\Q (.bl b) H):=by
 intro pins s σ H xs us Q I r h; obtain ⟨x,t,cv,c,b,rfl,hc,ty,e,q⟩:=h; obtain ⟨u,w',rfl,r1,r2⟩:=zl9 r
 cases znE r2 hc
 obtain ⟨Hh,kx,hp,ne⟩:=zou I r1 ty
 exact W.kia_one kx I.kIn hp e ne fun tk=>⟨.bl b,H,I.tok _,rfl,q⟩
def zfI (C:Addr) (fs:List Str):Sp:=fun vs H Q _=>∃ a dx us,vs=.ref a :: us/\us.length=fs.length/\H a=some (.ins C dx [])/\Q .non (upd H a (.ins C dx (fs.zip us)))
end
end L2
namespace PL
open PySem L2
section
variable {X:Cx} {pos:Pos}
theorem zj6.look {K:W.Frag} {H:Hp} {f:Str} {d:D}:∀ {fs:List (Str × V)} {ds:List (Str × D)},zj6 K H fs ds->ds.lookup f=some d->∃ v,fs.lookup f=some v/\Den K H v d
 | _,_,.nil,h=>by simp at h
 | p :: fs,q :: ds,.cons r t,h=>by
  obtain ⟨p1,p2⟩:=p; obtain ⟨q1,q2⟩:=q; obtain ⟨r1,r2⟩:=r
  dsimp only at r1 r2
  subst r1
  by_cases e:f=q1
  ·have hb:(f == q1)=true:=beq_iff_eq.mpr e
   simp only [List.lookup,hb] at h ⊢; cases h; exact ⟨_,rfl,r2⟩
  ·have hb:(f == q1)=false:=beq_eq_false_iff_ne.mpr e
   simp only [List.lookup,hb] at h ⊢; exact zj6.look t h
theorem zj8 {K:W.Frag} {H:Hp}:∀ (fs:List Str) {vs:List V} {ds:List D},zbv K H vs ds->zj6 K H (fs.zip vs) (fs.zip ds)
 | [],_,_,_=>.nil
 | f :: fs,_,_,.nil=>by simp only [List.zip_nil_right]; exact .nil
 | f :: fs,_,_,.cons r t=>.cons ⟨rfl,r⟩ (zj8 fs t)
theorem zfa {x:Str} {C:Addr} (hm:X.mg x=some (.ref C)) (hg:Gl X x:=by rfl) (hd:(x == ("__debug__":Str))=false:=by decide):PE' X (.Name x pos) (tC' (.cls C)):=zpc (v:=.ref C) hm rfl (fun _=>.cls C) hg hd
def zum:D->Option Value
 | .ty n=>some (.type n)
 | .cls C=>some (.ref C)
 | _=>none
theorem zp5 {K:W.Frag} {H:Hp} {v:V} {d:D} {c:Value} (h:Den K H v d) (e:zum d=some c):zul v=some c:=by
 cases h with
 | ty n=>exact e
 | cls C=>exact e
 | _=>cases e
def TyD (K:W.Frag) (d:D) (t:Value):Prop:=(∃ n,t=.type n/\zpK d=some n)\/(∃ C fs,d=.obj C fs/\t=.ref C/\InsT K C)\/∃ C fs,d=.exc C fs/\t=.ref C/\X1.XIs K C
theorem TyD.ok {K:W.Frag} {Hi H:Hp} {x:V} {d:D} {t:Value} (s:zaI Hi H) (den:Den K Hi x d) (h:TyD K d t):TyA K H x t:=by
 rcases h with ⟨n,rfl,h⟩ | ⟨C,fs,rfl,rfl,T⟩ | ⟨C,fs,rfl,rfl,T⟩
 ·exact .inl ⟨n,rfl,zno s den h⟩
 ·obtain ⟨a,dx,fvs,rfl,ha,_⟩:=den.objI
  exact .inr (.inl ⟨a,C,dx,fvs,rfl,s _ _ ha,rfl,T⟩)
 ·obtain ⟨a,dd,rfl,ha,xd⟩:=den.excI
  refine .inr (.inr ⟨a,C,dd,rfl,s _ _ ha,fun dx e=>?_,rfl,T⟩)
  rcases xd with ⟨e',_⟩ | ⟨dx',fs',e',hf,_⟩
  ·rw [e'] at e; cases e
  ·rw [e'] at e
   cases e; exact ⟨fs',s _ _ hf⟩
def zfC (K:W.Frag):RC':=fun ds Q=>∃ d t cd c b,ds=[d,cd]/\zum cd=some c/\TyD K d t/\W.kitOne K t c=some b/\Q (.bl b)
theorem zsc:Cal X (.builtin "isinstance") (zfC X.K):=⟨_,zlM,by
 rintro Hi H vs ds Q Q2 s dl ⟨d,t,cd,c,b,rfl,hc,ty,e,q⟩ fin
 obtain ⟨v,w,rfl,d1,d2⟩:=znB dl; exact ⟨v,t,w,c,b,rfl,zp5 d2 hc,ty.ok s.sub d1,e,fin Hi H _ _ (Ext.refl s) (.bl _) q⟩⟩
instance {K:W.Frag}:MRC (zfC K):=⟨fun _ _ _ h ⟨d,t,cd,c,b,x,y,z,w,q⟩=>⟨d,t,cd,c,b,x,y,z,w,h _ q⟩⟩
structure Mak (P:Program) (w:World) (K:W.Frag) (mg:Str->Option Value) (base:Heap) (k:Nat) (x:Str) (C:Addr) (fs:List Str):Prop where
 ex:∃ f fd ps,Mk K C f/\FnOk P w K mg base CX0 k f fd ps (zfI C fs)/\zcb K fd ps []/\mg x=some (.ref C)
def zax (C:Addr) (fs:List Str) (t:TA'):TE':=fun Γ Q=>t Γ fun ds Γ1=>ds.length=fs.length/\Q (.obj C (fs.zip ds)) Γ1
theorem zea {k:Nat} {x:Str} {C:Addr} {fs:List Str} {p:Pos} {e:Expr} {es:List Expr} {t:TA'} (M:Mak X.prog X.w X.K X.mg X.base k x C fs) (hr:Room (k+1) X.A) (ha:PA' X (e :: es) t) (hg:Gl X x:=by rfl) (hdb:(x == ("__debug__":Str))=false:=by decide) :
  PE' X (.Call (.Name x p) (e :: es) [] pos) (zax C fs t):=by
 obtain ⟨f,fd,ps,mk,F,b,hm⟩:=M.ex; refine ⟨PE.weak (zkU (E:=E0) (dvs:=[]) mk F hr hg hm b .nil zgi ha.pa hdb (zP (zB ha.pl).1) (zaa (zB ha.pl).2)) ?_⟩
 rintro σ H Q ⟨W,Hi,Γ,Q',g,h,fin⟩
 refine ⟨W,Hi,Γ,_,g,h,?_⟩
 rintro vs H1 Hi1 Γ1 ds s1 g1 dl ⟨hl,q⟩
 intro a dx hna hdx ne; rw [ym]
 refine ⟨a,dx,vs,rfl,by rw [zn dl]; exact hl,zo,rfl,?_⟩
 rw [zen]
 have e1:=Ext.newO g1.fz hdx (.own a) (fun _ z=>by cases z)
 have hna':upd H1 dx (.own a) a=none:=by rw [zr (fun z=>ne z.symm)]; exact hna
 have e2:=Ext.new e1.fz hna' (.ins C dx (fs.zip vs)); have e3:=e1.trans e2; exact fin _ _ ⟨_,_,Γ1,s1.trans e3.hi,g1.ext e3,Den.mkO zo ((zj8 fs dl).mono e3.hi),q⟩
end
end PL
namespace L2
open PySem PySem.Spec PyProof.Rows
section
variable {X:Cx} {pins:List (Addr × Obj)} {σ:St} {H:Hp} {s:Shared} {a:Addr} {y d:V} {u r:Value} {o:Option V} {A:Around} {E:Value->Shared->Prop}
theorem zln (I:Inv X pins σ H s) {kvs:List (List Key × V)} {ep:Nat} (e:H a=some (.dE kvs ep)) :
  s.TypeIs (.ref a) "dict"/\(∀ b,Value.ref a=.ref b->∃ ob,s.heap.get? b=some ob/\ob.dict=none):=by
 obtain ⟨_,hd,xs,_,dd,_⟩:=zeP I.hok e
 refine ⟨dd.typeIs,fun b q=>?_⟩
 cases q; obtain ⟨ob,_,_,h1,h2,_⟩:=dd; exact ⟨ob,h1,h2.2.1⟩
end
section
variable {X:Cx} {o e f:Expr} {apos cpos:Pos} {td ty tx:TE}
end
theorem zji {a b c:Int} (ha:-(2 ^ 60)<=a) (ha':a<2 ^ 60) (hb:-(2 ^ 60)<=b) (hb':b<2 ^ 60) (hc:-(2 ^ 30)<c) (hc':c<2 ^ 30):Builtin.Range.small a b c=true:=by
 have h1:=PyProof.Rows.rangeSize_toNat a b c; have h2:=PyProof.Rows.rangeSize_toNat_le a b c; unfold Builtin.Range.small; simp only [Builtin.Range.rangeFitsLong,Ye,Bool.or_eq_true,YX,beq_iff_eq]
 refine ⟨⟨⟨⟨by omega,by omega⟩,by omega⟩,by omega⟩,.inr ?_⟩
 split <;> (simp [Builtin.Range.rangeFitsLong]; omega)
def zsP (lo c:Int) (n:Nat):It:=⟨fun i _=>i<n,fun i H x H'=>H'=H/\x=.int (lo+(i:Nat) * c),fun i _=>n<=i⟩
theorem zhP {P:Program} {w:World} {K:W.Frag} {tg:Expr} (it:Addr) (lo c:Int) (n:Nat):Turn P w K tg (zsP lo c n) [it] it (fun i h=>IsRangeIter h it (lo+(i:Nat) * c) ((n:Int)-(i:Nat)) c) where
 mem:=by simp
 obj:=fun i h st b hb=>by
  have e:b=it:=by simpa using hb
  subst e
  exact ⟨_,st,fun v z=>by
   have z':Data.fields _=Data.cell v:=z
   cases z'⟩
 keep:=fun i h h' st k=>k it (by simp) _ st
 item:=by
  intro X hP hw hK hc i pins s σ H E I hf st hg
  subst hP hw hK
  obtain ⟨f0,f1,f2,f3,f4,f5⟩:=hf it (by simp)
  have W:=Walks.range (prog:=X.prog) (w:=X.w) (I.ok.hd hc) it lo c n
  refine W.item i s _ _ hg st fun v h' tk hv st' kk=>?_
  obtain ⟨t,rfl⟩:=hv
  have I1:Inv X pins σ H { s with heap:=h',toks:=tk }:=I.turned (fun b o hb e=>kk b o (by simpa using hb) e) f0 f1 f3 f4 f5
  exact ⟨_,rfl,zjT (s:={ s with heap:=h',toks:=tk }) (n:="range_iterator") st' rfl rfl (by decide) ⟨.int (lo+(i:Nat) * c),H,I1,⟨t,rfl⟩,⟨rfl,rfl⟩,st',fun b hb=>(hf b hb).1⟩⟩
 done:=by
  intro X hP hw hK hc i pins s σ H E I hf st hg
  subst hP hw hK
  obtain ⟨f0,f1,f2,f3,f4,f5⟩:=hf it (by simp)
  exact wpAny_pyNext_range_end (I.ok.hd hc) st (by have:n<=i:=hg; omega) fun h' eb=>⟨rfl,I.turned (t':=s.toks) (fun b o hb e=>eb b o hb e) f0 f1 f3 f4 f5⟩
 self:=fun _ _ _ _ _ st h=>wpAny_pyIter_rangeiter st h
section
variable {X:Cx} {tg:Expr}
theorem zky {pins:List (Addr × Obj)} {σ:St} {H:Hp} {s:Shared} {R:It->Hp->Prop} {E:Value->Shared->Prop} {lo hi c:Int} {t u v:Tok} {tk:Nat} (I:Inv X pins σ H s) (h1:-(2 ^ 60)<=lo) (h2:lo<2 ^ 60) (h3:-(2 ^ 60)<=hi) (h4:hi<2 ^ 60) (h5:-(2 ^ 30)<c) (h6:c<2 ^ 30)
  (q:R (zsP lo c (Builtin.Range.rangeSize lo hi c).toNat) H):wpAny (model X.prog X.w) X.A (pyIter (.ref s.heap.objs.size)) (PIE X pins σ tg R) E { s with heap:=s.heap.push { cls:=.type "range",data:=.fields #[.int lo t,.int hi u,.int c v] },toks:=tk }:=by
 refine wpAny_pyIter_range (IsRange.new ..) (zji h1 h2 h3 h4 h5 h6) ?_
 have I1:Inv X pins σ H { s with heap:=s.heap.push { cls:=.type "range",data:=.fields #[.int lo t,.int hi u,.int c v] },toks:=tk }:=I.kept fun b o e=>yC _ e
 refine ⟨(s.heap.push { cls:=.type "range",data:=.fields #[.int lo t,.int hi u,.int c v] }).objs.size,[(s.heap.push { cls:=.type "range",data:=.fields #[.int lo t,.int hi u,.int c v] }).objs.size],_,_,H,rfl,
  I1.kept (t':=tk) fun b o e=>yC _ e,zhP _ lo c (Builtin.Range.rangeSize lo hi c).toNat,?_,fun b hb=>?_,q⟩
 ·have e1:lo+((0:Nat):Int) * c=lo:=by simp
  have e2:(((Builtin.Range.rangeSize lo hi c).toNat:Nat):Int)-((0:Nat):Int)=Builtin.Range.rangeSize lo hi c:=by rw [<- PyProof.Rows.rangeSize_toNat]; simp
  show IsRangeIter _ _ (lo+((0:Nat):Int) * c) ((((Builtin.Range.rangeSize lo hi c).toNat:Nat):Int)-((0:Nat):Int)) c
  rw [e1,e2]; exact yI _ rfl
 ·have e:b=(s.heap.push { cls:=.type "range",data:=.fields #[.int lo t,.int hi u,.int c v] }).objs.size:=by simpa using hb
  subst e; exact I1.fpOk (yH _) (I1.hok.fresh (yH _))
def ztW (ta:TA):TI:=fun σ H R=>ta σ H fun vs H1=>∃ i j c:Int,vs=[.int i,.int j,.int c]/\(-(2 ^ 60)<=i/\i<2 ^ 60/\-(2 ^ 60)<=j/\j<2 ^ 60/\-(2 ^ 30)<c/\c<2 ^ 30/\c≠0)/\R (zsP i c (Builtin.Range.rangeSize i j c).toNat) H1
theorem zkN {a b c:Expr} {ta:TA} {p pos:Pos} (hg:Gl X "range") (hm:X.mg "range"=none) (ha:PA X [a,b,c] ta) (hs:starEach [a,b,c] X.env=(false,eval a X.env) :: starEach [b,c] X.env) (hpl:(backTo pos (starEach [b,c] X.env)).any (·.1)=false) :
  PI X tg (.Call (.Name "range" p) [a,b,c] [] pos) (ztW ta):=by
 intro pins s σ H R I h
 refine Call_ (zdB I hg hm boot_range (YK (thn (ha pos pins s σ H _ I h) fun us s1 ⟨vs,H1,I1,r1,q1⟩=>?_) hs hpl))
 obtain ⟨i,j,k,e,⟨q1,q2,q3,q4,q5,q6,q7⟩,q⟩:=q1
 subst e
 cases r1 with
 | cons r rr =>
  cases rr with
  | cons r' rr =>
   cases rr with
   | cons r'' rr =>
    cases rr; obtain ⟨t,rfl⟩:=r; obtain ⟨t',rfl⟩:=r'; obtain ⟨t'',rfl⟩:=r''
    exact call_range_3 q7 (zky I1 q1 q2 q3 q4 q5 q6 q) (YJ (PyProof.noPylong_small (by omega)))
end
end L2
namespace PL
open PySem L2
section
variable {X:Cx} {pos:Pos}
theorem OptD.getD {K:W.Frag} {H:Hp} {o:Option V} {d:Option D} {v:V} {e:D} (h:OptD K H o d) (r:Den K H v e):Den K H (o.getD v) (d.getD e):=by
 cases h with
 | none=>exact r
 | some h=>exact h
def zgT (neg:Bool):R2':=fun x y Q=>∃ (l:List Nat) (ms:List (List Nat)),x=.str l/\(y=.tup (ms.map .str)\/y=.lst (ms.map .str))/\Q (.bl (if neg then !decide (l ∈ ms) else decide (l ∈ ms)))
theorem ze0 {K:W.Frag} {Hi:Hp}:∀ {vs:List V} {ms:List (List Nat)},zbv K Hi vs (ms.map .str)->vs=ms.map fun m=>V.str (st m)
 | [],[],_=>rfl
 | v :: vs,m :: ms,.cons r t=>by rw [yS,<- r.strI,<- ze0 t]
 | [],_ :: _,h=>nomatch h
 | _ :: _,[],h=>nomatch h
theorem zgv (l:List Nat):∀ ms:List (List Nat),inV (.str (st l)) (ms.map fun m=>V.str (st m))=decide (l ∈ ms)
 | []=>rfl
 | m :: ms=>by
  have ih:=zgv l ms
  unfold inV at ih ⊢
  rw [yS,Yx,ih]
  have e:eqV (.str (st m)) (.str (st l))=decide (m=l):=by
   show decide (st m=st l)=_
   by_cases h:m=l
   ·rw [h]; simp
   ·rw [yk h,yk (fun z=>h (by
     have:=yo (fun x:Str=>x.cps.toList) z
     simpa [st] using this))]
  rw [e]
  by_cases h:m=l
  ·subst h; simp
  ·have h':¬ l=m:=fun z=>h z.symm
   simp [h,h']
theorem zho (ms:List (List Nat)):(ms.map fun m=>V.str (st m)).all zfr=true:=by
 rw [Yr]; intro x hx; obtain ⟨m,_,rfl⟩:=yq.mp hx; rfl
theorem ziQ {K:W.Frag} (neg:Bool):zhL K (rIn K neg) (zgT neg):=by
 rintro Hi H x y dx dy Q Q2 s d1 d2 ⟨l,ms,rfl,hy,q⟩ fin
 cases d1.strI
 rcases hy with rfl | rfl
 ·obtain ⟨a,vs,rfl,h1,h2⟩:=d2.tupJ
  rw [ze0 h2] at h1; refine ⟨a,_,rfl,.inr (SqT.of (s.sub _ _ h1)),rfl,zho ms,?_⟩; rw [zgv]; exact fin Hi H _ _ (Ext.refl s) (.bl _) q
 ·obtain ⟨a,vs,rfl,h1,h2⟩:=d2.lstI
  rw [ze0 h2] at h1; refine ⟨a,_,rfl,.inl (zy s.sub h1),rfl,zho ms,?_⟩; rw [zgv]; exact fin Hi H _ _ (Ext.refl s) (.bl _) q
theorem zm1:Op2 X (compareOp .In) (zgT false):=⟨_,zk0,ziQ false⟩
theorem zid:Op2 X (compareOp .NotIn) (zgT true):=⟨_,zeJ,ziQ true⟩
instance {neg:Bool}:MR2 (zgT neg):=⟨fun _ _ _ _ h ⟨l,ms,a,b,q⟩=>⟨l,ms,a,b,h _ q⟩⟩
theorem znq {K:W.Frag} {Hi:Hp} (lo c:Int) (n:Nat):ItD K Hi (zsP lo c n) ((List.range n).map fun k=>.int (lo+(k:Nat) * c)):=by
 intro Hi' H' s f
 refine ⟨fun i d e=>?_,by show n<=_; simp⟩
 have hi:i<n:=by
  have:=(yD.mp e).1
  simpa using this
 rw [yE,YO hi] at e; cases e; refine ⟨hi,?_⟩
 rintro x H'' ⟨rfl,rfl⟩
 exact ⟨Hi',Ext.refl f,.int _⟩
def zuH (i j c:Int):List D:=(List.range (Builtin.Range.rangeSize i j c).toNat).map fun k=>.int (i+(k:Nat) * c)
def zaD (t:TA'):TI':=fun Γ Q=>t Γ fun ds Γ1=>∃ i j c:Int,ds=[.int i,.int j,.int c]/\(-(2 ^ 60)<=i/\i<2 ^ 60/\-(2 ^ 60)<=j/\j<2 ^ 60/\-(2 ^ 30)<c/\c<2 ^ 30/\c≠0)/\Q (zuH i j c) Γ1
theorem zuf {K:W.Frag} {H:Hp} {vs:List V} {d e f:D} (h:zbv K H vs [d,e,f]):∃ v w u,vs=[v,w,u]/\Den K H v d/\Den K H w e/\Den K H u f:=by
 cases h with
 | cons r t =>
  cases t with
  | cons r' t=>
   cases t with
   | cons r'' t=>cases t; exact ⟨_,_,_,rfl,r,r',r''⟩
theorem zjx {a b c tg:Expr} {t:TA'} {p pos:Pos} (hm:X.mg "range"=none) (ha:PA' X [a,b,c] t) (hg:Gl X "range":=by rfl):PI' X tg (.Call (.Name "range" p) [a,b,c] [] pos) (zaD t):=by
 refine ⟨PI.weak (zkN hg hm ha.pa (zP (zB ha.pl).1) (zaa (zB ha.pl).2)) ?_⟩
 rintro σ H R ⟨W,Hi,Γ,Q',g,h,fin⟩
 refine ⟨W,Hi,Γ,_,g,h,?_⟩
 rintro vs H1 Hi1 Γ1 ds s1 g1 dl ⟨i,j,c,rfl,b,q⟩
 obtain ⟨v,w,u,rfl,d1,d2,d3⟩:=zuf dl
 exact ⟨i,j,c,by rw [d1.intI,d2.intI,d3.intI],b,fin _ H1 Hi1 Γ1 _ s1 g1 (znq i c _) q⟩
end
section
variable {X:Cx} {Q:D->Prop}
instance:MR2 zjr:=⟨fun _ _ _ _ h ⟨i,j,a,b,c,q⟩=>⟨i,j,a,b,c,h _ q⟩⟩
def zh2:R2':=fun x y Q=>zgU x y Q\/zjr x y Q
theorem zbT:Op2 X (binaryOp .Add) zh2:=ztN.or zrA
instance:MR2 zh2:=⟨fun _ _ _ _ h q=>q.imp (MR2.mono (r:=zgU) _ _ _ _ h) (MR2.mono (r:=zjr) _ _ _ _ h)⟩
instance {neg:Bool}:MR2 (zoN neg):=⟨fun _ _ _ _ h ⟨i,j,a,b,q⟩=>⟨i,j,a,b,h _ q⟩⟩
def zqV:R2':=fun x y Q=>znS false x y Q\/zoN false x y Q\/zgT false x y Q
theorem zrD (hu:X.A.units+1<cLine):Op2 X (compareOp .In) zqV:=ztL.or ((ztK hu).or zm1)
def zgb:R2':=fun x y Q=>zgc x y Q\/zoN true x y Q\/zgT true x y Q
theorem zm2 (hu:X.A.units+1<cLine):Op2 X (compareOp .NotIn) zgb:=zpt.or ((zmW hu).or zid)
instance:MR2 zgb:=⟨fun _ _ _ _ h q=>q.imp (MR2.mono (r:=zgc) _ _ _ _ h) (fun q=>q.imp (MR2.mono (r:=zoN true) _ _ _ _ h) (MR2.mono (r:=zgT true) _ _ _ _ h))⟩
instance:MR2 zh1:=⟨fun _ _ _ _ h ⟨i,j,v,a,b,c,q⟩=>⟨i,j,v,a,b,c,h _ q⟩⟩
def zjq:R2':=fun x y Q=>zlW x y Q\/zh1 x y Q
theorem i_A (hu:X.A.units+1<cLine):Ixs X zjq:=ztU.or (ztV hu)
instance:MR2 zjq:=⟨fun _ _ _ _ h q=>q.imp (MR2.mono (r:=zlW) _ _ _ _ h) (MR2.mono (r:=zh1) _ _ _ _ h)⟩
instance:MRS zjo:=⟨fun _ _ _ _ _ h ⟨ds,e,q⟩=>⟨ds,e,h _ q⟩⟩
def zqf:RS':=fun x lo hi Q=>zoM x lo hi Q\/zjo x lo hi Q
theorem s_A:Sli X zqf:=zve.or ztd
instance:MRS zqf:=⟨fun _ _ _ _ _ h q=>q.imp (MRS.mono (r:=zoM) _ _ _ _ _ h) (MRS.mono (r:=zjo) _ _ _ _ _ h)⟩
def zgR:RC':=fun ds Q=>zfB ds Q\/zh0 ds Q
theorem zdE:Cal X (.builtin "len") zgR:=zup.or zsb
instance:MRC zgR:=⟨fun _ _ _ h q=>q.imp (MRC.mono (r:=zfB) _ _ _ h) (MRC.mono (r:=zh0) _ _ _ h)⟩
def ziI:zlU:=fun ds Q=>ze5 ds Q\/zd8 ds Q
theorem zp9 (hc:X.calm=true):CalO X (.type "list") ziI:=zsa.or (zp8 hc)
instance:MRCO ziI:=⟨fun _ _ _ h q=>q.imp (MRCO.mono (r:=ze5) _ _ _ h) (MRCO.mono (r:=zd8) _ _ _ h)⟩
@[simp] theorem zsW:D.tup []=plc []:=rfl
@[simp] theorem zsV (l:List Nat):D.tup [.str l]=plc [l]:=rfl
@[simp] theorem ze6 (i j:Int):zh2 (.int i) (.int j) Q↔Q (.int (i+j)):=by simp [zh2,zjr]
@[simp] theorem zqX (l m:List Nat):zh2 (.str l) (.str m) Q↔l.length+m.length<=sizeLine/\Q (.str (l ++ m)):=by simp [zh2,zjr]
@[simp] theorem zts (c:Nat) (l:List Nat):zqV (.str [c]) (.str l) Q↔Q (.bl (decide (c ∈ l))):=by simp [zqV,zoN,zgT]
@[simp] theorem zsB (ds:List D) (i:Int):zjq (.lst ds) (.int i) Q↔∃ d,atI ds i=some d/\Q d:=by simp [zjq,zh1]
@[simp] theorem zeU (ds:List D) (i:Int):zjq (.tup ds) (.int i) Q↔∃ d,atI ds i=some d/\Q d:=by simp [zjq,zh1]
@[simp] theorem zsA (l:List Nat) (i:Int):zjq (.str l) (.int i) Q↔l.length<=sizeLine/\∃ c,atI l i=some c/\Q (.str [c]):=by simp [zjq,zh1]
@[simp] theorem zst (ds:List D) (lo hi:Option Int):zqf (.lst ds) lo hi Q↔Q (.lst (ze2 ds lo hi)):=by simp [zqf,zjo]
@[simp] theorem zss (ds:List D) (lo hi:Option Int):zqf (.tup ds) lo hi Q↔Q (.tup (ze2 ds lo hi)):=by simp [zqf,zjo,zoM,zmq,zmr]
theorem znD {α β:Type} (f:α->β) (xs:List α) (lo hi:Option Int):ze2 (xs.map f) lo hi=(ze2 xs lo hi).map f:=by
 unfold ze2; rw [yF,List.map_take,List.map_drop]
@[simp] theorem zqP (l:List Nat):zgR [.str l] Q↔l.length<=sizeLine/\Q (.int (l.length:Nat)):=by simp [zgR,zh0]
@[simp] theorem zqQ (l:List D):zgR [.lst l] Q↔Q (.int (l.length:Nat)):=by simp [zgR,zh0]
@[simp] theorem zqO (l:List D):zgR [.tup l] Q↔Q (.int (l.length:Nat)):=by simp [zgR,zh0]
@[simp] theorem zso (p:List (List Nat)):zqI (plc p)=some (p.map .str):=rfl
@[simp] theorem zjp {Q:OD->Prop} (l:List D):ziI [.tup l] Q↔Q (.lst l):=by simp [ziI,ze5,zd8]
theorem zp4 {α:Type} (xs:List α) (n:Nat):ze2 xs none (some (n:Int))=xs.take n:=by
 unfold ze2; rw [HT.sIx_none,HT.sIx_nat,List.drop_zero,Nat.sub_zero]
 by_cases h:n<=xs.length
 ·rw [Nat.min_eq_left h]
 ·rw [Nat.min_eq_right (by omega),List.take_length,List.take_of_length_le (by omega)]
theorem zlH {α:Type} (xs:List α) (n:Nat):ze2 xs (some (n:Int)) none=xs.drop n:=by
 unfold ze2; rw [HT.sIx_none,HT.sIx_nat]
 by_cases h:n<=xs.length
 ·rw [Nat.min_eq_left h,List.take_of_length_le (by rw [Yp]; exact yH _)]
 ·rw [Nat.min_eq_right (by omega),List.drop_length,List.take_nil,YM (by omega)]
theorem zh5 {i:Int} {j:Nat} {p pos:Pos}:PE' X (.UnaryOp .USub (.Constant (.int i) j p) pos) (tC' (.int (-i))):=by
 refine zh6 (v:=.int (-i)) (PE.weak (zty zqn zkV) ?_) fun _=>.int _
 intro σ H Q q; exact ⟨i,rfl,q⟩
theorem za0 {A:Around} {k:Nat} (hr:Room k A):A.units+100<cLine:=by have:=hr.un; omega
@[simp] theorem zvy {α:Type} (a:α) (l:List α):atI (a :: l) 0=some a:=zbu (j:=0) rfl
@[simp] theorem zuu {α:Type} (a b:α) (l:List α):atI (a :: b :: l) 1=some b:=zbu (j:=1) rfl
@[simp] theorem zvx {α:Type} (a b c:α) (l:List α):atI (a :: b :: c :: l) 2=some c:=zbu (j:=2) rfl
@[simp] theorem zvw {α:Type} (a b c d:α) (l:List α):atI (a :: b :: c :: d :: l) 3=some d:=zbu (j:=3) rfl
@[simp] theorem zuV {CX:CXT} {P:Program} {w:World} {K:W.Frag} {mg:Str->Option Value} {base:Heap} {N:List Str} {q:Str} {sc:Scope} {f:Addr} {cd:Value} {A:Around} {o:List Env} {s:Shared} {H:Hp} {E:XK}:(zfU CX P w K mg base N q sc f cd A o s H E).K=K:=rfl
@[simp] theorem zuU {CX:CXT} {P:Program} {w:World} {K:W.Frag} {mg:Str->Option Value} {base:Heap} {N:List Str} {q:Str} {sc:Scope} {f:Addr} {cd:Value} {A:Around} {o:List Env} {s:Shared} {H:Hp} {E:XK}:(zfU CX P w K mg base N q sc f cd A o s H E).N=N:=rfl
@[simp] theorem zkB (K:W.Frag) (C c:Addr) (fs:List (Str × D)):zfC K [.obj C fs,.cls c] Q↔InsT K C/\∃ b,W.kitOne K (.ref C) (.ref c)=some b/\Q (.bl b):=by
 constructor
 ·rintro ⟨d,t,cd,v,b,e,h1,h2,h3,q⟩
  injection e with e1 e2
  injection e2 with e2 _
  subst e1 e2
  cases h1
  rcases h2 with ⟨n,_,h2⟩ | ⟨C',fs',e,rfl,T⟩ | ⟨C',fs',e,_,_⟩
  ·cases h2
  ·cases e
   exact ⟨T,b,h3,q⟩
  ·cases e
 ·rintro ⟨T,b,h,q⟩
  exact ⟨_,_,_,_,b,rfl,rfl,.inr (.inl ⟨C,fs,rfl,rfl,T⟩),h,q⟩
theorem zdt (K:W.Frag) {d:D} {n:String} (hk:zpK d=some n) {cd:D} {c:Value} (hc:zum cd=some c):zfC K [d,cd] Q↔∃ b,W.kitOne K (.type n) c=some b/\Q (.bl b):=by
 constructor
 ·rintro ⟨d',t,cd',v,b,e,h1,h2,h3,q⟩
  injection e with e1 e2
  injection e2 with e2 _
  subst e1 e2
  rw [hc] at h1; cases h1
  rcases h2 with ⟨m,rfl,h2⟩ | ⟨C',fs',rfl,rfl,T⟩ | ⟨C',fs',rfl,rfl,T⟩
  ·rw [hk] at h2
   cases h2; exact ⟨b,h3,q⟩
  ·cases hk
  ·cases hk
 ·rintro ⟨b,h,q⟩
  exact ⟨d,_,cd,c,b,rfl,hc,.inl ⟨n,rfl,hk⟩,h,q⟩
@[simp] theorem zqU (K:W.Frag) (c:String) (x:Int):zfC K [(.int x),.ty c] Q↔∃ b,W.kitOne K (.type "int") (.type c)=some b/\Q (.bl b):=zdt K rfl rfl
@[simp] theorem zqS (K:W.Frag) (c:String) (x:List Nat):zfC K [(.str x),.ty c] Q↔∃ b,W.kitOne K (.type "str") (.type c)=some b/\Q (.bl b):=zdt K rfl rfl
@[simp] theorem zqT (K:W.Frag) (c:String) (x:List D):zfC K [(.lst x),.ty c] Q↔∃ b,W.kitOne K (.type "list") (.type c)=some b/\Q (.bl b):=zdt K rfl rfl
@[simp] theorem zqR (K:W.Frag) (c:String) (x:List D):zfC K [(.tup x),.ty c] Q↔∃ b,W.kitOne K (.type "tuple") (.type c)=some b/\Q (.bl b):=zdt K rfl rfl
end
end PL
namespace X1
open PySem PySem.W
section
variable {prog:Program} {w:World} {A:Around} {E:Value->Shared->Prop} {s:Shared} {K:Frag} {x C:Addr} {vs:Array Value} {sl:Array (Option Value)} {name:Str} {v:Value}
end
section
variable {prog:Program} {w:World} {A:Around} {E:Value->Shared->Prop} {h:Heap} {g:Array GenState} {d:Drawn} {t:Nat} {os:OsState} {C N e:Addr} {bm bmB:List Value} {B nid iid:String} {zd1:List Value} {vs:Array Value} {dd:Option Addr} {sl:Array (Option Value)}
end
end X1
namespace L2
open PySem PySem.Spec PyProof.Rows
section
variable {P:Program} {w:World} {K:W.Frag} {mg:Str->Option Value} {base:Heap} {N:List Str} {qual:Str} {scope:Scope} {f:Addr} {cd:Value} {A:Around} {outer:List Env} {s s':Shared} {H H':Hp} {E:XK} {pins:List (Addr × Obj)} {σ:St} {e C:Addr} {dd:Option Addr}
end
structure FlyI (X:Cx) (pins:List (Addr × Obj)) (H:Hp) (h:Heap) (e C:Addr) (dd:Option Addr):Prop where
 fe:zgD X pins H e
 ex:∃ vs,X1.Ex h e (.ref C) dd vs/\1<vs.size/\X1.Hd h e vs .none (zgD X pins H)
abbrev XS:=St->XK
def XP (X:Cx) (pins:List (Addr × Obj)) (E:XS) (e:Value) (s':Shared):Prop:=∃ ae C dd σ' H',e=.ref ae/\Inv X pins σ' H' s'/\FlyI X pins H' s'.heap ae C dd/\E σ' (.ref C) dd H'
abbrev TEx:=St->Hp->VK->XK->Prop
abbrev TSx:=Ends->XS->St->Hp->Prop
section
variable {X:Cx} {st:Stmt} {zd1:List Stmt} {t u:TSx} {e:Expr} {te:TEx} {pos:Pos}
end
section
variable {P:Program} {w:World} {K:W.Frag} {mg:Str->Option Value} {base:Heap}
end
def del (H:Hp) (a:Addr):Hp:=fun b=>if b=a then none else H b
section
variable {X:Cx}
end
section
variable {X:Cx} {pins:List (Addr × Obj)} {σ:St} {H:Hp} {s:Shared}
end
section
variable {X:Cx}
end
end L2
namespace PL
open PySem L2
abbrev XW:=Addr->List (Str × D)->Sts->Prop
abbrev zvB:=Sts->(D->Sts->Prop)->XW->Prop
abbrev zuW:=Ends'->XW->Sts->Prop
section
variable {X:Cx} {pos:Pos} {e:Expr} {te:zvB} {st:Stmt} {zd1:List Stmt} {t u:zuW}
abbrev zuw:=List D->(Res->Prop)->(Addr->List (Str × D)->Prop)->Prop
end
section
variable {X:Cx} {k:Nat} {x:Str} {ps:List Str} {sp:zuw} {p pos:Pos} {e:Expr} {es:List Expr} {t:TA'}
end
section
variable {P:Program} {w:World} {K:W.Frag} {mg:Str->Option Value} {base:Heap}
theorem zez {N ps:List Str} {vs:List V} {ds:List D} {Hi H:Hp} (hlen:ds.length=ps.length) (hpl:ps.length<=N.length) (sb:Fz Hi H) (dl:zbv K Hi vs ds):Good K N.length ⟨H,Hi,[]⟩ Hi (zcp N ds) (L2.start N vs) H:=by
 have hvl:=zn dl
 refine ⟨?_,sb,fun b o e _=>e,fun b o e=>⟨o,e⟩,fun b o e=>rfl,fun j d e=>?_,fun j o e=>?_,fun j k o o' b e=>?_,fun j d b xs e=>?_⟩
 ·unfold L2.start
  rw [yY,yF,Yy]; omega
 all_goals
  unfold zcp at e
  by_cases hj:j<ds.length
  ·rw [yV (by simpa using hj),yE,yB hj] at e
   try cases e
   try
    obtain ⟨v,e1,e2⟩:=zR dl (yB hj); refine ⟨v,?_,e2⟩; unfold L2.start
    rw [yV (by rw [yF]; omega),yE,e1]
    rfl
  ·rw [ya (by simpa using hj),Yq] at e
   split at e <;> cases e
end
section
variable {X:Cx} {k:Nat} {x fld:Str} {C:Addr} {ok:V->Hp->Prop} {okD:D->Prop} {p cpos pos:Pos} {e:Expr} {ta:TA'}
end
section
variable {X:Cx} {M:Addr} {x n:Str} {body suite:List Stmt} {b0:Stmt} {tb:zuW} {ts:TS'} {p hpos pos:Pos}
end
end PL
namespace L2
open PySem PySem.Spec PyProof.Rows PySem.Builtin PySem.Builtin.Str
structure XFl (K:W.Frag) (C:Addr):Prop where
 get:X1.XGet K C
 hd:W.hasDictIn K C=true
section
variable {X:Cx}
def zs7 (K:W.Frag) (ta:TE) (f:Str):TE:=fun σ H Q=>ta σ H fun x H1=>(∃ a C dx fs v,x=.ref a/\H1 a=some (.ins C dx fs)/\Cls K C/\zaG K C f/\fs.lookup f=some v/\Q v H1) \/
 ∃ a C dx fs v,x=.ref a/\H1 a=some (.ext (XAt a C (some dx)))/\H1 dx=some (.xd fs)/\XFl K C/\zaG K C f/\fs.lookup f=some v/\Q v H1
theorem zpd {e:Expr} {f:Str} {pos:Pos} {ta:TE} (he:PE X e ta) (hb:attributeBase e f X.env (eval e X.env)=eval e X.env):PE X (.Attribute e f pos) (zs7 X.K ta f):=by
 intro pins s σ H Q I h
 refine zlQ hb (thn (he pins s σ H _ I h) fun u s1 ⟨x,H1,I1,rx,q⟩=>?_)
 rcases q with ⟨a,C,dx,fs,v,rfl,ea,c,n,l,q⟩ | ⟨a,C,dx,fs,v,rfl,ea,ed,c,n,l,q⟩
 ·obtain rfl:u=Value.ref a:=rx
  exact zfS I1 ea c n l fun u' s2 I2 ru=>⟨v,H1,I2,ru,q⟩
 ·obtain rfl:u=Value.ref a:=rx
  obtain ⟨⟨vs,sl,hx⟩,_⟩:=(show zbG X.prog X.w H1 s1.heap a (.ext (XAt a C (some dx))) from I1.hok a _ ea)
  obtain ⟨mA,ns,r⟩:=(show zbG X.prog X.w H1 s1.heap dx (.xd fs) from I1.hok dx _ ed)
  obtain ⟨od,ho,hl⟩:=zhc ns
  obtain ⟨w',hw,rw'⟩:=zgC.some_of (v:=v) (o:=mA f) (by rw [<- l]; exact r f)
  have J:W.InstAt s1.heap a ⟨.ref C,some dx,.fields vs,sl⟩ C (some od):=⟨hx,rfl,rfl,ho⟩
  exact X1.xget I1.kIn J c.get (W.findObj_own c.hd n rfl (by rw [hl,hw])) (zhm rw') ⟨v,H1,I1.tok _,rw',q⟩
theorem zeo:∀ {ys:List Str} {its:List Value},zaK (ys.map V.str) its->StrsAre its ys
 | [],_,.nil=>.nil
 | y :: r,_,.cons h t=>by
  obtain ⟨tk,rfl⟩:=h; exact .cons y tk (zeo t)
theorem zpy:MtR X "str.join" (fun x xs H Q=>∃ z a ys,x=.str z/\xs=[.ref a]/\(SqL X.K H a (ys.map .str)\/SqT X.K H a (ys.map .str))/\(ys.map (·.length)).sum+ys.length * z.length<=16777216/\Q (.str (Txt.join z ys)) H):=by
 intro pins s σ H x xs v us Q I rx rs h; obtain ⟨z,a,ys,rfl,rfl,hs,hz,q⟩:=h; obtain ⟨t,rfl⟩:=rx; obtain ⟨u,rfl,ru⟩:=zcZ rs
 obtain rfl:u=Value.ref a:=ru
 rcases hs with hs | hs
 ·obtain ⟨its,r,p,_⟩:=I.list hs
  obtain ⟨o,n,e1,e2,e3,e4⟩:=p
  exact join_list (items:=its.toArray) ⟨o,e1,e2,n,by first | exact e3 | exact e4⟩ (zeo (by simpa using r)) hz fun t' k=>⟨.str _,H,I.tok _,⟨_,rfl⟩,q⟩
 ·obtain ⟨its,r,p,_⟩:=I.tuple hs
  exact join_tuple p (zeo (by simpa using r)) hz fun t' k=>⟨.str _,H,I.tok _,⟨_,rfl⟩,q⟩
end
end L2
namespace PL
open PySem L2
section
variable {X:Cx}
theorem zhs {K:W.Frag} {H:Hp}:∀ {vs:List V} {ls:List (List Nat)},zbv K H vs (ls.map .str)->vs=(ls.map st).map V.str
 | _,[],.nil=>rfl
 | _,l :: ls,.cons r t=>by rw [r.strI,zhs t]; rfl
def zaA (K:W.Frag) (t:TE') (f:Str):TE':=fun Γ Q=>t Γ fun d Γ1=>(∃ C fs v,d=.obj C fs/\Cls K C/\zaG K C f/\fs.lookup f=some v/\Q v Γ1)\/∃ C fs v,d=.exc C fs/\XFl K C/\zaG K C f/\fs.lookup f=some v/\Q v Γ1
theorem zbD {e:Expr} {t:TE'} {f:Str} {pos:Pos} (he:PE' X e t) (hb:attributeBase e f X.env (eval e X.env)=eval e X.env:=by rfl):PE' X (.Attribute e f pos) (zaA X.K t f):=by
 refine ⟨PE.weak (zpd he.h hb) ?_⟩
 rintro σ H Q ⟨W,Hi,Γ,Q',g,h,fin⟩
 refine ⟨W,Hi,Γ,_,g,h,?_⟩
 rintro x H1 ⟨Hi1,d,Γ1,s1,g1,den1,h1⟩
 rcases h1 with ⟨C,fs,v,rfl,cl,na,lk,q⟩ | ⟨C,fs,v,rfl,cl,na,lk,q⟩
 ·obtain ⟨a,dx,fvs,rfl,ha,df⟩:=den1.objI
  obtain ⟨u,hu,du⟩:=df.look lk; exact .inl ⟨a,C,dx,fvs,u,rfl,g1.sub _ _ ha,cl,na,hu,fin u H1 ⟨Hi1,v,Γ1,s1,g1,du,q⟩⟩
 ·obtain ⟨a,dd,rfl,ha,xd⟩:=den1.excI
  rcases xd with ⟨_,rfl⟩ | ⟨dx,fvs,rfl,hd,df⟩
  ·cases lk
  ·obtain ⟨u,hu,du⟩:=df.look lk
   exact .inr ⟨a,C,dx,fvs,u,rfl,g1.sub _ _ ha,g1.sub _ _ hd,cl,na,hu,fin u H1 ⟨Hi1,v,Γ1,s1,g1,du,q⟩⟩
theorem zkv {K:W.Frag} {H:Hp} {vs:List V} {ds:List D} (h:zbv K H vs ds):∀ k,zbv K H (List.replicate k vs).flatten (List.replicate k ds).flatten
 | 0=>.nil
 | k+1=>by
  rw [Ya,Ya,JA,JA]; exact zaM h (zkv h k)
end
section
variable {X:Cx} {k:Nat} {x:Str} {ps:List Str} {sp:zuw} {p pos:Pos} {e:Expr} {es:List Expr} {t:TA'}
end
theorem zdF {X:Cx} (K:W.Frag) (h:X.K=K):Cal X (.builtin "isinstance") (zfC K):=by
 subst h; exact zsc
end PL
namespace L2
open PySem PySem.Spec PyProof.Rows
section
variable {K:W.Frag} {C M N NM f:Addr} {c cM:Value} {d dM od:Option Addr} {es eM:Array DictEntry} {ep epM:Nat} {sl slM sf:Array (Option Value)}
theorem zeh:W.kitOne K (.ref C) (.ref C)=some true:=by
 unfold W.kitOne
 rw [yN (by simp)]
end
end L2
namespace L2
open PySem
end L2
namespace L2
open PySem PySem.Spec PyProof.Rows
section
variable {X:Cx}
end
end L2
namespace PL
open PySem L2
structure Mth (P:Program) (w:World) (K:W.Frag) (mg:Str->Option Value) (base:Heap) (k:Nat) (C:Addr) (m:Str) (ps:List Str) (sp:Sp'):Prop where
 ex:∃ f fd,FnOk P w K mg base CX0 k f fd ps (zhS K sp)/\zcb K fd ps []/\Meth K C m f/\Cls K C
section
variable {X:Cx} {k:Nat} {C:Addr} {m:Str} {ps:List Str} {sp:Sp'} {spx:zuw} {apos pos:Pos} {o e:Expr} {es:List Expr} {to:TE'} {t:TA'}
def zbg (C:Addr) (m:Str) (sp:Sp') (to:TE') (t:TA'):TE':=fun Γ Q=>to Γ fun d Γ1=>∃ fs,d=.obj C fs/\fs.lookup m=none/\t Γ1 fun ds Γ2=>sp (.obj C fs :: ds) fun r=>Q r.toD Γ2
theorem zel {K:W.Frag} {H:Hp} {f:Str}:∀ {fs:List (Str × V)} {ds:List (Str × D)},zj6 K H fs ds->ds.lookup f=none->fs.lookup f=none
 | _,_,.nil,_=>rfl
 | p :: fs,q :: ds,.cons r t,h=>by
  obtain ⟨p1,p2⟩:=p; obtain ⟨q1,q2⟩:=q; obtain ⟨r1,r2⟩:=r
  dsimp only at r1
  subst r1
  by_cases e:f=q1
  ·have hb:(f == q1)=true:=beq_iff_eq.mpr e
   simp only [List.lookup,hb] at h; cases h
  ·have hb:(f == q1)=false:=beq_eq_false_iff_ne.mpr e
   simp only [List.lookup,hb] at h ⊢; exact zel t h
theorem zkS (h:Mth X.prog X.w X.K X.mg X.base k C m ps sp) (hr:Room k X.A) (ho:PE' X o to) (ha:PA' X (e :: es) t) {pl:Sem Bool}
  (ht:eval (.Call (.Attribute o m apos) (e :: es) [] pos) X.env=(do
   let ov <- eval o X.env
   standAt apos.atName
   let (f,first) <- holding [ov] (getMethod ov m pl)
   callWith pos f first (backTo pos (starEach (e :: es) X.env)) (backToKw pos (keywordEach [] X.env))):=by rfl) :
  PE' X (.Call (.Attribute o m apos) (e :: es) [] pos) (zbg C m sp to t):=by
 obtain ⟨f,fd,F,b,hm,cl⟩:=h.ex; refine ⟨PE.weak (zkT (E:=E0) (dvs:=[]) ho.h cl hm F hr b .nil zgi ha.pa (zP (zB ha.pl).1) (zaa (zB ha.pl).2) ht) ?_⟩
 rintro σ H Q ⟨W,Hi,Γ,Q',g,h,fin⟩
 refine ⟨W,Hi,Γ,_,g,h,?_⟩
 rintro x H1 ⟨Hi1,d,Γ1,s1,g1,den1,fs,rfl,lk,q⟩
 obtain ⟨a,dx,fvs,rfl,ha',df⟩:=id den1.objI; refine ⟨a,dx,fvs,rfl,g1.sub _ _ ha',zel df lk,?_⟩; refine ⟨W,Hi1,Γ1,_,g1,q,?_⟩; intro vs H2 Hi2 Γ2 ds s2 g2 dl q2; rw [ym]; refine ⟨Hi2,_,_,g2.fz,.cons (den1.mono s2) dl,q2,?_⟩; intro Hi3 H3 v r ex ro q3; have s12:=s1.trans s2
 cases r with
 | val d=>exact fin v H3 ⟨Hi3,d,Γ2,s12.trans ex.hi,g2.ext ex,ro,q3⟩
 | own o =>
  obtain ⟨a,rfl,h1,h2,h3⟩:=ro; have nw:=zcQ g2 ex h1 h2 h3; obtain ⟨u,hu⟩:=h3.there; exact fin _ H3 ⟨upd Hi3 a u,_,Γ2,s12.trans (ex.hi.trans (zW h1 u)),(g2.ext ex).freezeA nw.hi nw.h0 nw.ne hu,h3.den h1 hu,q3⟩
 | bk d o =>
  obtain ⟨b',dv,hol,h1,h2,h3⟩:=ro; have nw:=zcQ g2 ex h1 h2 h3; obtain ⟨u,hu⟩:=h3.there; exact fin _ H3 ⟨upd Hi3 b' u,_,Γ2,s12.trans (ex.hi.trans (zW h1 u)),(g2.ext ex).freezeA nw.hi nw.h0 nw.ne hu,hol b' _ v o (h3.den h1 hu) (dv.mono (zW h1 u)),q3⟩
abbrev zlT:=List D->Sts->(Sts->Prop)->Prop
def zvq (K:W.Frag) (n:Nat) (g:zlT):TGs:=fun vs σ H Q2=>∃ W Hi Γ ds Q,Good K n W Hi Γ σ H/\zbv K Hi vs ds/\g ds Γ Q/\∀ σ' H' Hi' Γ',zaI Hi Hi'->Good K n W Hi' Γ' σ' H'->Q Γ'->Q2 σ' H'
structure PGs' (X:Cx) (es:List Expr) (g:zlT):Prop where
 h:PGs X es (zvq X.K X.N.length g)
theorem PGs.weak {es:List Expr} {t t2:TGs} (h:PGs X es t) (w:∀ vs σ H Q,t2 vs σ H Q->t vs σ H Q):PGs X es t2:=fun pins s σ H vs us Q I r q=>h pins s σ H vs us Q I r (w _ _ _ _ q)
def zbs:zlT:=fun ds Γ Q=>ds=[]/\Q Γ
def zat (t:TG') (u:zlT):zlT:=fun ds Γ Q=>∃ d r,ds=d :: r/\t d Γ fun Γ1=>u r Γ1 Q
def zbr (n:Nat) (t:zlT):TG':=fun d Γ Q=>∃ ds,d=.tup ds/\ds.length=n/\t ds Γ Q
theorem zcT:PGs' X [] zbs:=by
 refine ⟨PGs.weak zo7 ?_⟩
 rintro vs σ H Q ⟨W,Hi,Γ,ds,Q',g,dl,⟨rfl,q⟩,fin⟩
 cases dl; exact ⟨rfl,fin σ H Hi Γ (zaI.refl _) g q⟩
theorem zN {e:Expr} {es:List Expr} {t:TG'} {u:zlT} (h1:PG' X e t) (h2:PGs' X es u) (hs:(assignEach (e :: es) X.env).map (·.2)=assign e X.env :: (assignEach es X.env).map (·.2):=by rfl):PGs' X (e :: es) (zat t u):=by
 refine ⟨PGs.weak (zmF h1.h h2.h hs) ?_⟩
 rintro vs σ H Q ⟨W,Hi,Γ,ds,Q',g,dl,⟨d,r,rfl,q⟩,fin⟩
 cases dl with
 | cons r0 rr =>
  refine ⟨_,_,rfl,W,Hi,Γ,d,_,g,r0,q,?_⟩; intro σ1 H1 Hi1 Γ1 s1 g1 q1
  exact ⟨W,Hi1,Γ1,r,Q',g1,zbv.mono rr s1,q1,fun σ2 H2 Hi2 Γ2 s2=>fin σ2 H2 Hi2 Γ2 (s1.trans s2)⟩
theorem zdS {es:List Expr} {k n:Nat} {t:zlT} (h:PGs' X es t) (hc:X.calm=true:=by rfl) (hn:(assignEach es X.env).length=n:=by rfl) (hst:(assignEach es X.env).findIdx? (·.1)=none:=by rfl):PG' X (.Tuple es k pos) (zbr n t):=by
 refine ⟨PG.weak (zq8 hc h.h hn hst) ?_⟩
 rintro v σ H Q ⟨W,Hi,Γ,d,Q',g,den,⟨ds,rfl,hl,q⟩,fin⟩
 obtain ⟨a,vs,rfl,ha,dl⟩:=den.tupI
 exact ⟨a,vs,rfl,zaf g.sub ha,by rw [zn dl]; exact hl,W,Hi,Γ,ds,Q',g,dl,q,fin⟩
end
section
variable {X:Cx}
def za6:TS':=fun _ _=>False
theorem zge {st:Stmt}:PS' X st za6:=⟨fun pins s σ H N I q=>by
 obtain ⟨_,_,_,_,_,h,_⟩:=q; exact h.elim⟩
end
section
variable {P:Program} {w:World} {K:W.Frag} {mg:Str->Option Value} {base:Heap}
end
end PL
namespace Mu
open PySem PySem.Builtin
theorem noFill_tup:fillsNumberSlot (.type "tuple") "mul"=pure false :=
 fillsNumberSlot_seq (id:="tuple.__mul__") (r:=some (.builtin "tuple.__rmul__")) PySem.F.slot_tuple_mul.lookup (by decide +kernel) PySem.F.slot_tuple_rmul.lookup (by decide +kernel)
theorem rep_tup:seqRepeat? (.type "tuple")=pure (some (.builtin "tuple.__mul__")):=by
 unfold seqRepeat?
 rw [seqSlot_of (T:="tuple") (name:="__mul__") (id:="tuple.__mul__") PySem.F.slot_tuple_mul.lookup (by decide +kernel),seqSlot_of (T:="tuple") (name:="__rmul__") (id:="tuple.__rmul__") PySem.F.slot_tuple_rmul.lookup (by decide +kernel)]
 rfl
theorem rmul_tup (a:Int) (t:Tok) (l:Addr) (o:Obj) (xs:Array Value) (n:Nat) (hc:o.cls=.type "tuple") (hd:o.data=.seq xs n):Meets (Builtin.«int.__rmul__» ⟨[.int a t,.ref l],[]⟩) (fun _ R s=>s.heap.get? l=some o/\R (.ok (.ret Value.notImplemented)) s) :=
 .of_wp fun prog w A R s h=>by
  obtain ⟨hp,g,d,tk,os⟩:=s; obtain ⟨hl,h⟩:=h; obtain ⟨oc,od,dt,sl⟩:=o
  dsimp only at hc hd
  subst hc hd
  wp_walk
  exact ⟨_,rfl,h⟩
theorem mul_tup (k:Nat) (t:Tok) (l:Addr) (o:Obj) (xs:Array Value) (n:Nat) (hc:o.cls=.type "tuple") (hd:o.data=.seq xs n) (hk:2<=k) (hk2:k<=100) (hz:xs.size * k<=10000) :
  Meets (Builtin.«tuple.__mul__» ⟨[.ref l,.int k t],[]⟩) (fun _ R s=>s.heap.get? l=some o/\(xs.isEmpty=true->R (.ok (.ret (.ref l))) s) /\
   (xs.isEmpty=false->R (.ok (.ret (.ref s.heap.objs.size))) { s with heap:=s.heap.push { cls:=.type "tuple",data:=.seq ((List.replicate k xs).foldl (· ++ ·) #[]) } })) :=
 .of_wp fun prog w A R s h=>by
  obtain ⟨hp,g,d,tk,os⟩:=s; obtain ⟨hl,h1,h2⟩:=h; obtain ⟨oc,od,dt,sl⟩:=o
  dsimp only at hc hd
  subst hc hd
  have e1:(decide ((k:Int)< -(2 ^ 63)) || decide ((k:Int) >= 2 ^ 63))=false:=by
   rw [yk (by omega),yk (by omega)]
   rfl
  have e2:((k:Int) == 1)=false:=by rw [beq_eq_false_iff_ne]; omega
  have e3:decide ((k:Int)<=0)=false:=yk (by omega)
  have e4:¬ ((xs.size:Int) * (k:Int) > (2 ^ 63-1) / 8):=by
   have:((xs.size * k:Nat):Int)<=10000:=by omega
   rw [Int.natCast_mul] at this; omega
  have e5:Builtin.Tuple.tupleTooMany ((xs.size:Int) * (k:Int))=false:=by
   unfold Builtin.Tuple.tupleTooMany
   have:((xs.size * k:Nat):Int)<=10000:=by omega
   rw [Int.natCast_mul] at this
   have b:10000<sizeLine:=by decide
   exact yk (by omega)
  wp_walk
  rw [yK (by rw [e1]; exact yR)]
  wp_walk
  cases he:xs.isEmpty with
  | true =>
   wp_walk
   exact ⟨_,rfl,h1 he⟩
  | false =>
   wp_walk
   rw [yK (by rw [e3]; decide)]
   dsimp only
   rw [yK e4,yK (by rw [e5]; decide),YN]
   have hsz:(List.foldl (fun x1 x2=>x1 ++ x2) #[] (List.replicate k xs)).size<=sizeLine:=by
    have e:=L2.foldl_rep xs.toList k []
    have e':List.foldl (fun x1 x2=>x1 ++ x2) #[] (List.replicate k xs)=([] ++ (List.replicate k xs.toList).flatten).toArray:=by simpa using e
    rw [e',yL,List.nil_append,L2.len_rep,yz,Nat.mul_comm]
    have b:10000<sizeLine:=by decide
    omega
   unfold Builtin.Tuple.tupleExact; exact yA (yh (yG ⟨_,rfl,h2 he⟩) hsz)
end Mu
namespace L2
open PySem PySem.Spec PyProof.Rows
section
variable {X:Cx}
def ztl:R2:=fun x y H Q=>∃ (l:Addr) (k:Nat) (xs:List V),x=.ref l/\y=.int k/\H l=some (.tup xs)/\2<=k/\k<=100/\xs.length * k<=10000/\(xs=[]->Q (.ref l) H)/\(xs≠[]->∀ p,H p=none->Q (.ref p) (upd H p (.tup (List.replicate k xs).flatten)))
theorem zpn:OpR X (binaryOp .Mult) ztl:=by
 intro pins s σ H x y v u Q I rx ry h; obtain ⟨l,k,xs,rfl,rfl,hH,h1,h2,hz,q1,q2⟩:=h; cases rx; obtain ⟨t,rfl⟩:=ry
 obtain ⟨z,its,r,o,ho,hc,n,hd⟩:=(show zbG X.prog X.w H s.heap l (.tup xs) from I.hok l _ hH)
 have hl:=r.length
 refine wpAny_binaryOp_repeat_ref (T:="tuple") (U:="int") (by decide) ⟨_,ho,hc⟩ (fun s'=>typeIs_int s' k t) Mu.noFill_tup PySem.F.fills_int_mul PySem.F.slot_int_rmul Mu.rep_tup PySem.F.slot_int_index.lookup
  (call_meets PySem.F.slot_int_rmul (typeIs_int s k t) PySem.F.entry_int_rmul (PySem.F.args_int_rmul_2 _ _) (Mu.rmul_tup k t l o its.toArray n hc hd) ⟨ho,rfl,⟨_,ho,hc⟩,call_meets PySem.F.slot_tuple_mul ⟨_,ho,hc⟩ PySem.F.entry_tuple_mul (PySem.F.args_tuple_mul_2 _ _) (Mu.mul_tup k t l o its.toArray n hc hd h1 h2 (by rw [yL,<- hl]; exact hz)) ⟨ho,fun e=>?_,fun e=>?_⟩⟩)
 ·have:xs=[]:=List.eq_nil_of_length_eq_zero (by rw [hl]; simpa using e)
  exact ⟨.ref l,H,I,rfl,q1 this⟩
 ·have hne:xs≠[]:=fun z=>by
   rw [z] at hl
   have:its=[]:=List.eq_nil_of_length_eq_zero hl.symm
   rw [this] at e
   simp at e
  have e':List.foldl (fun x1 x2=>x1 ++ x2) #[] (List.replicate k its.toArray)=(List.replicate k its).flatten.toArray:=by
   have:=foldl_rep its k []
   rw [List.nil_append] at this; exact this
  rw [e']
  have hlen:(List.replicate k xs).flatten.length<=sizeLine:=by
   rw [len_rep,Nat.mul_comm]
   have b:10000<sizeLine:=by decide
   omega
  refine ⟨.ref _,upd H s.heap.objs.size (.tup (List.replicate k xs).flatten),I.laid (t':=s.toks) (fun _ _ q=>yC _ q) (yH _) ⟨hlen,(List.replicate k its).flatten,r.rep k,⟨_,yI _ rfl,rfl,_,rfl⟩⟩,rfl,q2 hne _ I.fresh⟩
end
end L2
namespace PL
open PySem L2
section
variable {X:Cx}
def zgQ:R2':=fun x y Q=>∃ (ds:List D) (k:Nat),x=.tup ds/\y=.int k/\2<=k/\k<=100/\ds.length * k<=10000/\Q (.tup (List.replicate k ds).flatten)
theorem zry:Op2 X (binaryOp .Mult) zgQ:=⟨_,zpn,by
 rintro Hi H x y dx dy Q Q2 s d1 d2 ⟨ds,k,rfl,rfl,h1,h2,h3,q⟩ fin
 obtain ⟨a,vs,rfl,ha,dl⟩:=d1.tupJ; have hl:=zn dl
 refine ⟨a,k,vs,rfl,d2.intI,s.sub _ _ ha,h1,h2,by rw [hl]; exact h3,fun e=>?_,fun _ p hp=>?_⟩
 ·have:ds=[]:=List.eq_nil_of_length_eq_zero (by rw [<- hl,e]; rfl)
  subst this; refine fin Hi H _ (.tup []) (Ext.refl s) d1 ?_
  simpa using q
 ·have e:=Ext.new s hp (.tup (List.replicate k vs).flatten)
  exact fin _ _ _ _ e (Den.mkT zo (zkv (dl.mono e.hi) k)) q⟩
instance:MR2 zgQ:=⟨fun _ _ _ _ h ⟨ds,k,a,b,c,d,e,q⟩=>⟨ds,k,a,b,c,d,e,h _ q⟩⟩
end
section
variable {X:Cx} {Q:D->Prop}
def zmt:R2':=fun x y Q=>rI' zj7 (fun i j=>.int (i * j)) x y Q\/zgQ x y Q
theorem zg9:Op2 X (binaryOp .Mult) zmt:=ztH.or zry
instance:MR2 zmt:=⟨fun _ _ _ _ h q=>q.imp (MR2.mono (r:=rI' zj7 fun i j=>.int (i * j)) _ _ _ _ h) (MR2.mono (r:=zgQ) _ _ _ _ h)⟩
@[simp] theorem zqN (i j:Int):zmt (.int i) (.int j) Q↔zj7 i j/\Q (.int (i * j)):=by simp [zmt,zgQ]
def zkD:RC':=fun ds Q=>∃ b:Bool,ds=[.bl b]/\Q (.int (if b then 1 else 0))
theorem zsd:Cal X (.type "int") zkD:=⟨_,zlN,by
 rintro Hi H vs ds Q Q2 s dl ⟨b,rfl,q⟩ fin
 obtain ⟨v,rfl,den⟩:=zdl dl
 exact .inr ⟨b,by rw [den.blI],fin Hi H _ _ (Ext.refl s) (.int _) q⟩⟩
instance:MRC zkD:=⟨fun _ _ _ h ⟨b,e,q⟩=>⟨b,e,h _ q⟩⟩
instance:MRC zkC:=⟨fun _ _ _ h ⟨l,n,a,b,c,q⟩=>⟨l,n,a,b,c,h _ q⟩⟩
def zmu:RC':=fun ds Q=>zkC ds Q\/zkD ds Q
theorem zse:Cal X (.type "int") zmu:=zuq.or zsd
instance:MRC zmu:=⟨fun _ _ _ h q=>q.imp (MRC.mono (r:=zkC) _ _ _ h) (MRC.mono (r:=zkD) _ _ _ h)⟩
@[simp] theorem zsC (b:Bool):zmu [.bl b] Q↔Q (.int (if b then 1 else 0)):=by simp [zmu,zkC,zkD]
end
end PL
namespace Zp
open PySem
structure Src (prog:Program) (w:World) (it:Addr) (xs:List Value) (fp:List Addr) (nx:Nat->Heap->Prop):Prop where
 mem:it ∈ fp
 fr:∀ i h h',nx i h->(∀ c ∈ fp,∀ o,h.get? c=some o->h'.get? c=some o)->nx i h'
 at_:∀ i h,nx i h->∃ o,h.get? it=some o/\∀ v,o.data≠.cell v
 item:∀ (A:Around) (s:Shared) (i:Nat) (x:Value) (Q:Value->Shared->Prop) (E:Value->Shared->Prop),nx i s.heap->xs[i]?=some x->(∀ h',nx (i+1) h'->Heap.SameBut it s.heap h'->Q x { s with heap:=h' })->wpAny (model prog w) A (Builtin.SmallTypes.nextOf (.ref it)) Q E s
 stop:∀ (A:Around) (s:Shared) (i:Nat) (Q:Value->Shared->Prop) (E:Value->Shared->Prop),A.handled=none->nx i s.heap->xs[i]?=none ->
  (∀ h' e,Heap.ExtBut it s.heap h'->(∃ o,h'.get? e=some o/\o.cls=.type "StopIteration")->E (.ref e) { s with heap:=h' })->wpAny (model prog w) A (Builtin.SmallTypes.nextOf (.ref it)) Q E s
theorem zC {a:Addr} {h h':Heap} (x:Heap.SameBut a h h'):∀ c o,c≠a->h.get? c=some o->h'.get? c=some o:=fun c o n e=>x.extBut _ _ n e
theorem zmi {prog:Program} {w:World} {it l:Addr} {xs:List Value} (ne:l≠it):Src prog w it xs [it,l] (fun i h=>h.IsListIter it l i/\h.IsList l xs.toArray) where
 mem:=by simp
 fr:=fun i h h' ⟨a,b⟩ k=>⟨a.at fun o e=>k it (by simp) o e,b.at fun o e=>k l (by simp) o e⟩
 at_:=fun i h ⟨⟨o,e,_,d⟩,_⟩=>⟨o,e,fun v z=>by rw [d] at z; cases z⟩
 item:=fun A s i x Q E ⟨a,b⟩ hx q=>wpAny_nextOf_list_item a b (by simpa using hx) fun h' n sb=>q h' ⟨n,b.at fun o e=>zC sb _ o ne e⟩ sb
 stop:=fun A s i Q E hh ⟨a,b⟩ hx q=>wpAny_nextOf_list_end hh a b (by simpa using hx) q
theorem zkh {prog:Program} {w:World} {it l:Addr} {xs:List Value} (ne:l≠it):Src prog w it xs [it,l] (fun i h=>h.IsTupleIter it l i/\h.IsTuple l xs.toArray) where
 mem:=by simp
 fr:=fun i h h' ⟨a,⟨ol,e,r⟩⟩ k=>⟨a.at fun o e=>k it (by simp) o e,⟨ol,k l (by simp) ol e,r⟩⟩
 at_:=fun i h ⟨⟨o,e,_,d⟩,_⟩=>⟨o,e,fun v z=>by rw [d] at z; cases z⟩
 item:=by
  intro A s i x Q E ⟨a,b⟩ hx q
  obtain ⟨oi,gi,ci,di⟩:=id a; obtain ⟨ot,gt,ct,nt,dt⟩:=id b; unfold Builtin.SmallTypes.nextOf; refine yA (wpAny_callSpecial?_slot (name:=Str.ofString "__next__") a.typeIs Yh (yu Yh a.typeIs PySem.F.entry_tuple_iterator_next ?_ (PySem.F.args_tuple_iterator_next_1 _)))
  show wpAny _ _ (field (.ref it) 0 >>= _) _ _ _
  refine yA (YB gi di (x:=.ref l) rfl ?_)
  show wpAny _ _ (if (Value.ref l == Value.none)=true then _ else _) _ _ _
  rw [yK (by simp)]
  show wpAny _ _ (field (.ref it) 1 >>= _) _ _ _
  refine yA (YB gi di (x:=.int i 0) rfl ?_)
  show wpAny _ _ (seqItems? (.ref l) >>= _) _ _ _
  refine yA (Yf gt dt ?_)
  have hx':xs.toArray[i]?=some x:=by simpa using hx
  simp only [YN,hx']
  refine yA (wpAny_setField gi di (by simp) (yG ⟨x,rfl,yG (q _ ⟨⟨_,YT _ gi (Obj.isFreed_of_fields (Obj.data_mapFields di _)),(Obj.cls_mapFields ..).trans ci,by rw [Obj.data_mapFields di]; simp [rawInt]⟩,?_⟩ (Heap.SameBut.update ..))⟩))
  exact ⟨ot,(Yc _ _ (Ne.symm ne)).trans gt,ct,nt,dt⟩
 stop:=by
  intro A s i Q E hh ⟨a,b⟩ hx q
  obtain ⟨oi,gi,ci,di⟩:=id a; obtain ⟨ot,gt,ct,nt,dt⟩:=id b; unfold Builtin.SmallTypes.nextOf; refine yA (wpAny_callSpecial?_slot (name:=Str.ofString "__next__") a.typeIs Yh (yu Yh a.typeIs PySem.F.entry_tuple_iterator_next ?_ (PySem.F.args_tuple_iterator_next_1 _)))
  show wpAny _ _ (field (.ref it) 0 >>= _) _ _ _
  refine yA (YB gi di (x:=.ref l) rfl ?_)
  show wpAny _ _ (if (Value.ref l == Value.none)=true then _ else _) _ _ _
  rw [yK (by simp)]
  show wpAny _ _ (field (.ref it) 1 >>= _) _ _ _
  refine yA (YB gi di (x:=.int i 0) rfl ?_)
  show wpAny _ _ (seqItems? (.ref l) >>= _) _ _ _
  refine yA (Yf gt dt ?_)
  have hx':xs.toArray[i]?=none:=by simpa using hx
  simp only [YN,hx']
  refine yA (wpAny_rule (yA (wpAny_setField gi di (by simp) ?_)))
  show wpAny _ _ (newExc (.type "StopIteration") [] >>= _) _ _ _
  refine yA ?_; simp only [newExc,newTuple]
  refine yA (yh ?_ (by size_fits))
  refine yA (m:=firstArgMember _ _) (wpAny_of_eq (a:=Value.none) (by first | rfl | (simp only [firstArgMember]; rfl)) ?_)
  refine yh ?_ (by size_fits)
  simp only [raiseNew]; refine yA (wpAny_handled ?_)
  first | rw [show A.in1.handled=none from hh] | rw [hh]
  exact yA (yG (wpAny_throw (q _ _ (((Heap.SameBut.update ..).extBut.push _).push _) ⟨_,yI _ rfl,rfl⟩)))
structure Apart (z TI TO i1 i2:Addr) (f1 f2:List Addr):Prop where
 z1:z ∉ f1
 z2:z ∉ f2
 o1:TO ∉ f1
 o2:TO ∉ f2
 i21:i2 ∉ f1
 i12:i1 ∉ f2
 iz:TI≠z
 oz:TO≠z
 io:TI≠TO
 ii1:TI≠i1
 ii2:TI≠i2
section
variable {prog:Program} {w:World} {A:Around} {E:Value->Shared->Prop} {s:Shared} {z TI TO i1 i2:Addr} {f1 f2:List Addr} {n1 n2:Nat->Heap->Prop} {xs ys:List Value} {k:Nat} {a b x y:Value}
theorem Src.but {it:Addr} {zs:List Value} {fp:List Addr} {nx:Nat->Heap->Prop} (S:Src prog w it zs fp nx) {i:Nat} {h h':Heap} {c:Addr} (g:nx i h) (sb:Heap.SameBut c h h') (hc:c ∉ fp):nx i h':=S.fr i h h' g fun d hd o e=>zC sb d o (fun q=>hc (q ▸ hd)) e
theorem zl7 {Q:Value->Shared->Prop} (S1:Src prog w i1 xs f1 n1) (S2:Src prog w i2 ys f2 n2) (D:Apart z TI TO i1 i2 f1 f2) (wz:IsZip s.heap z TI TO .none) (wI:IsPair s.heap TI (.ref i1) (.ref i2)) (wO:IsPair s.heap TO a b) (g1:n1 k s.heap) (g2:n2 k s.heap) (hx:xs[k]?=some x) (hy:ys[k]?=some y)
  (q:∀ h',IsZip h' z TI TO (rawInt s.heap.objs.size)->IsPair h' TO x y->n1 (k+1) h'->n2 (k+1) h'->IsPair h' s.heap.objs.size x y->h'.objs.size=s.heap.objs.size+1->(∀ c o,c≠z->c≠TO->c≠i1->c≠i2->s.heap.get? c=some o->h'.get? c=some o)->Q (.ref s.heap.objs.size) { s with heap:=h' }) :
  wpAny (model prog w) A (Builtin.«zip.__next__» ⟨[.ref z],[]⟩) (fun fin s'=>∃ v,fin=.done (.ret v)/\Q v s') E s:=by
 have ne1:i1≠z:=fun e=>D.z1 (e ▸ S1.mem)
 have ne2:i2≠z:=fun e=>D.z2 (e ▸ S2.mem)
 have no1:i1≠TO:=fun e=>D.o1 (e ▸ S1.mem)
 have no2:i2≠TO:=fun e=>D.o2 (e ▸ S2.mem)
 show wpAny _ _ (field (.ref z) 2 >>= _) _ _ _
 refine yA (YB wz rfl (x:=.bool false) rfl ?_)
 show wpAny _ _ (field (.ref z) 3 >>= _) _ _ _
 refine yA (YB wz rfl (x:=.ref TI) rfl ?_); refine yA (Yf wI rfl ?_)
 show wpAny _ _ (Builtin.SmallTypes.ownedTupleIsFree (.ref z) >>= _) _ _ _
 refine yA ?_; unfold Builtin.SmallTypes.ownedTupleIsFree; refine yA (YB wz rfl (x:=.none) rfl (yG ?_)); simp only [if_true]; refine yA (wpAny_rule ?_); refine yA (YB wz rfl (x:=.ref TO) rfl ?_)
 refine yA (YD wz (by simp) fun ha za sa=>?_)
 have za:IsZip ha z TI TO .ellipsis:=za
 refine yA ?_; simp only [List.zipIdx_cons,List.zipIdx_nil,List.forIn_cons,List.forIn_nil]; refine yA (yA (wpAny_onRaise ?_))
 show wpAny _ _ (Builtin.SmallTypes.nextOf (.ref i1) >>= _) _ _ _
 refine yA (S1.item _ { s with heap:=ha } k x _ _ (S1.but g1 sa D.z1) hx fun hb g1b sb=>yG ?_)
 have ob:IsPair hb TO a b:=zC sb _ _ (Ne.symm no1) (zC sa _ _ D.oz wO)
 refine yA (Yf ob rfl ?_)
 refine yA (wpAny_updateSeq_pair ob fun hc oc sc=>?_)
 have oc:IsPair hc TO x b:=oc
 refine yA (wpAny_letGo (yG ?_)); refine yA (yA (wpAny_onRaise ?_))
 show wpAny _ _ (Builtin.SmallTypes.nextOf (.ref i2) >>= _) _ _ _
 refine yA (S2.item _ { s with heap:=hc } k y _ _ (S2.but (S2.but (S2.but g2 sa D.z2) sb D.i12) sc D.o2) hy fun hd g2d sd=>yG ?_)
 have od:IsPair hd TO x b:=zC sd _ _ (Ne.symm no2) oc
 refine yA (Yf od rfl ?_)
 refine yA (wpAny_updateSeq_pair od fun he oe se=>?_)
 have oe:IsPair he TO x y:=oe
 refine yA (wpAny_letGo (yG (yG ?_))); refine yA (Yf oe rfl ?_); refine yA (wpAny_newTuple ?_)
 have hsz:he.objs.size=s.heap.objs.size:=by rw [se.1,sd.1,sc.1,sb.1,sa.1]
 have ze:IsZip he z TI TO .ellipsis:=zC se _ _ (Ne.symm D.oz) (zC sd _ _ (Ne.symm ne2) (zC sc _ _ (Ne.symm D.oz) (zC sb _ _ (Ne.symm ne1) za)))
 have hk:∀ c o,c≠z->c≠TO->c≠i1->c≠i2->s.heap.get? c=some o->he.get? c=some o:=fun c o c1 c2 c3 c4 e=>zC se _ _ c2 (zC sd _ _ c4 (zC sc _ _ c2 (zC sb _ _ c3 (zC sa _ _ c1 e))))
 have g1e:n1 (k+1) he:=S1.but (S1.but (S1.but g1b sc D.o1) sd D.i21) se D.o1
 have g2e:n2 (k+1) he:=S2.but g2d se D.o2
 have zlt:z<he.objs.size:=yM ze
 show wpAny _ _ (Builtin.SmallTypes.ownedTupleHandOut (.ref z) (.ref he.objs.size) >>= _) _ _ _
 refine yA ?_; unfold Builtin.SmallTypes.ownedTupleHandOut
 have zf:IsZip (he.push { cls:=.type "tuple",data:=.seq #[x,y] }) z TI TO .ellipsis:=yC _ ze
 refine yA (YD zf (by simp) fun hg zg sg=>?_)
 have zg:IsZip hg z TI TO (rawInt he.objs.size):=zg
 refine YD zg (by simp) fun hh zh sh=>?_
 have zh:IsZip hh z TI TO (rawInt he.objs.size):=zh
 have up:∀ c o,c≠z->he.get? c=some o->hh.get? c=some o:=fun c o c1 e=>zC sh _ _ c1 (zC sg _ _ c1 (yC _ e))
 have tp:IsPair hh he.objs.size x y:=zC sh _ _ (Nat.ne_of_gt zlt) (zC sg _ _ (Nat.ne_of_gt zlt) (yI _ rfl))
 have hs8:hh.objs.size=he.objs.size+1:=by rw [sh.1,sg.1,YW]
 rw [hsz] at zh tp hs8; refine yG ⟨_,rfl,?_⟩
 show Q (.ref he.objs.size) _
 rw [hsz]
 exact q hh zh (up _ _ D.oz oe) (S1.fr _ he hh g1e fun c hc o e=>up c o (fun z'=>D.z1 (z' ▸ hc)) e) (S2.fr _ he hh g2e fun c hc o e=>up c o (fun z'=>D.z2 (z' ▸ hc)) e) tp hs8 fun c o c1 c2 c3 c4 e=>up c o c1 (hk c o c1 c2 c3 c4 e)
theorem zl6 {Q:PySem.Fin->Shared->Prop} (hh:A.handled=none) (S1:Src prog w i1 xs f1 n1) (S2:Src prog w i2 ys f2 n2) (D:Apart z TI TO i1 i2 f1 f2) (wz:IsZip s.heap z TI TO .none) (wI:IsPair s.heap TI (.ref i1) (.ref i2)) (wO:IsPair s.heap TO a b) (g1:n1 k s.heap) (g2:n2 k s.heap) (hend:xs[k]?=none\/ys[k]?=none)
  (q:∀ h' e,(∀ c o,c≠z->c≠TO->c≠i1->c≠i2->s.heap.get? c=some o->h'.get? c=some o)->(∃ o,h'.get? e=some o/\o.cls=.type "StopIteration")->E (.ref e) { s with heap:=h' }) :
  wpAny (model prog w) A (Builtin.«zip.__next__» ⟨[.ref z],[]⟩) Q E s:=by
 have ne1:i1≠z:=fun e=>D.z1 (e ▸ S1.mem)
 have ne2:i2≠z:=fun e=>D.z2 (e ▸ S2.mem)
 have no1:i1≠TO:=fun e=>D.o1 (e ▸ S1.mem)
 show wpAny _ _ (field (.ref z) 2 >>= _) _ _ _
 refine yA (YB wz rfl (x:=.bool false) rfl ?_)
 show wpAny _ _ (field (.ref z) 3 >>= _) _ _ _
 refine yA (YB wz rfl (x:=.ref TI) rfl ?_); refine yA (Yf wI rfl ?_)
 show wpAny _ _ (Builtin.SmallTypes.ownedTupleIsFree (.ref z) >>= _) _ _ _
 refine yA ?_; unfold Builtin.SmallTypes.ownedTupleIsFree; refine yA (YB wz rfl (x:=.none) rfl (yG ?_)); simp only [if_true]; refine yA (wpAny_rule ?_); refine yA (YB wz rfl (x:=.ref TO) rfl ?_)
 refine yA (YD wz (by simp) fun ha za sa=>?_)
 have za:IsZip ha z TI TO .ellipsis:=za
 refine yA ?_; simp only [List.zipIdx_cons,List.zipIdx_nil,List.forIn_cons,List.forIn_nil]; refine yA (yA (wpAny_onRaise ?_))
 show wpAny _ _ (Builtin.SmallTypes.nextOf (.ref i1) >>= _) _ _ _
 cases hx:xs[k]? with
 | none =>
  refine yA (S1.stop _ { s with heap:=ha } k _ _ hh (S1.but g1 sa D.z1) hx fun hb e sb st=>?_)
  obtain ⟨ox,gx,cx⟩:=st
  have zb:IsZip hb z TI TO .ellipsis:=sb _ _ (Ne.symm ne1) za
  have ez:e≠z:=fun c=>by subst c; rw [zb] at gx; cases gx; simp at cx
  exact YD zb (by simp) fun hc _ sc=>q hc e (fun c o c1 _ c3 _ v=>zC sc _ _ c1 (sb _ _ c3 (zC sa _ _ c1 v))) ⟨ox,zC sc _ _ ez gx,cx⟩
 | some x =>
  have hy:ys[k]?=none:=by rcases hend with h | h; rw [hx] at h; cases h; exact h
  refine yA (S1.item _ { s with heap:=ha } k x _ _ (S1.but g1 sa D.z1) hx fun hb g1b sb=>yG ?_)
  have ob:IsPair hb TO a b:=zC sb _ _ (Ne.symm no1) (zC sa _ _ D.oz wO)
  refine yA (Yf ob rfl ?_)
  refine yA (wpAny_updateSeq_pair ob fun hc oc sc=>?_)
  refine yA (wpAny_letGo (yG ?_)); refine yA (yA (wpAny_onRaise ?_))
  show wpAny _ _ (Builtin.SmallTypes.nextOf (.ref i2) >>= _) _ _ _
  refine yA (S2.stop _ { s with heap:=hc } k _ _ hh (S2.but (S2.but (S2.but g2 sa D.z2) sb D.i12) sc D.o2) hy fun hd e sd st=>?_)
  obtain ⟨ox,gx,cx⟩:=st
  have zd:IsZip hd z TI TO .ellipsis:=sd _ _ (Ne.symm ne2) (zC sc _ _ (Ne.symm D.oz) (zC sb _ _ (Ne.symm ne1) za))
  have ez:e≠z:=fun c=>by subst c; rw [zd] at gx; cases gx; simp at cx
  exact YD zd (by simp) fun he _ se=>q he e (fun c o c1 c2 c3 c4 v=>zC se _ _ c1 (sd _ _ c4 (zC sc _ _ c2 (zC sb _ _ c3 (zC sa _ _ c1 v))))) ⟨ox,zC se _ _ ez gx,cx⟩
theorem zk5 {Q:Option Value->Shared->Prop} (S1:Src prog w i1 xs f1 n1) (S2:Src prog w i2 ys f2 n2) (D:Apart z TI TO i1 i2 f1 f2) (wz:IsZip s.heap z TI TO .none) (wI:IsPair s.heap TI (.ref i1) (.ref i2)) (wO:IsPair s.heap TO a b) (g1:n1 k s.heap) (g2:n2 k s.heap) (hx:xs[k]?=some x) (hy:ys[k]?=some y)
  (q:∀ h',IsZip h' z TI TO (rawInt s.heap.objs.size)->IsPair h' TO x y->n1 (k+1) h'->n2 (k+1) h'->IsPair h' s.heap.objs.size x y->h'.objs.size=s.heap.objs.size+1->(∀ c o,c≠z->c≠TO->c≠i1->c≠i2->s.heap.get? c=some o->h'.get? c=some o)->Q (some (.ref s.heap.objs.size)) { s with heap:=h' }) :
  wpAny (model prog w) A (pyNext (.ref z)) Q E s:=by
 have ty:s.TypeIs (.ref z) "zip":=⟨_,wz,rfl⟩
 unfold pyNext
 exact yA (Yj (wpAny_callSpecial?_slot (name:=Str.ofString "__next__") ty PySem.F.slot_zip_next (yu PySem.F.slot_zip_next ty PySem.F.entry_zip_next (zl7 S1 S2 D wz wI wO g1 g2 hx hy fun h' c1 c2 c3 c4 c5 c6 c7=>yG (q h' c1 c2 c3 c4 c5 c6 c7)) (PySem.F.args_zip_next_1 _))))
theorem zk4 {Q:Option Value->Shared->Prop} (hh:A.handled=none) (S1:Src prog w i1 xs f1 n1) (S2:Src prog w i2 ys f2 n2) (D:Apart z TI TO i1 i2 f1 f2) (wz:IsZip s.heap z TI TO .none) (wI:IsPair s.heap TI (.ref i1) (.ref i2)) (wO:IsPair s.heap TO a b) (g1:n1 k s.heap) (g2:n2 k s.heap) (hend:xs[k]?=none\/ys[k]?=none)
  (q:∀ h',(∀ c o,c≠z->c≠TO->c≠i1->c≠i2->s.heap.get? c=some o->h'.get? c=some o)->Q none { s with heap:=h' }):wpAny (model prog w) A (pyNext (.ref z)) Q E s:=by
 have ty:s.TypeIs (.ref z) "zip":=⟨_,wz,rfl⟩
 unfold pyNext
 refine yA (Yj (wpAny_callSpecial?_slot (name:=Str.ofString "__next__") ty PySem.F.slot_zip_next (yu PySem.F.slot_zip_next ty PySem.F.entry_zip_next (zl6 hh S1 S2 D wz wI wO g1 g2 hend fun h' e ke st=>?_) (PySem.F.args_zip_next_1 _))))
 obtain ⟨ox,gx,cx⟩:=st; exact yA (wpAny_isInstance (T:="StopIteration") (b:=true) ⟨ox,gx,cx⟩ isSubtype_stop (yG (q _ ke)))
end
abbrev tIt (l:Addr):Obj:={ cls:=.type "tuple_iterator",data:=.fields #[.ref l,.int 0 0] }
abbrev zt1 (h:Heap) (l1:Addr):Heap:=h.push (tIt l1)
abbrev zt2 (h:Heap) (l1 l2:Addr):Heap:=(zt1 h l1).push (tIt l2)
abbrev zt3 (h:Heap) (l1 l2:Addr):Heap:=(zt2 h l1 l2).push { cls:=.type "tuple",data:=.seq #[.ref h.objs.size,.ref (zt1 h l1).objs.size] }
abbrev zt4 (h:Heap) (l1 l2:Addr):Heap:=(zt3 h l1 l2).push { cls:=.type "tuple",data:=.seq #[.none,.none] }
abbrev zt5 (h:Heap) (l1 l2:Addr):Heap:=(zt4 h l1 l2).push { cls:=.type "zip",data:=.fields #[.none,.bool false,.bool false,.ref (zt2 h l1 l2).objs.size,.ref (zt3 h l1 l2).objs.size] }
theorem zrJ (l1 l2:Addr) (us vs:Array Value):Meets (Builtin.«zip.__new__» ⟨[.type "zip",.ref l1,.ref l2],[]⟩) (fun _ R s=>s.heap.IsTuple l1 us/\s.heap.IsTuple l2 vs/\R (.ok (.ret (.ref (zt4 s.heap l1 l2).objs.size))) { s with heap:=zt5 s.heap l1 l2 }) :=
 .of_wp fun prog w A R s h=>by
  obtain ⟨hp,g,d,tk,os⟩:=s; obtain ⟨t1,t2,h⟩:=h; have sb:=sub_zip
  have T1:Heap.IsTuple (Shared.heap ⟨hp,g,d,tk,os⟩) l1 us:=t1
  have T2:Heap.IsTuple (Shared.heap ⟨hp.push (tIt l1),g,d,tk,os⟩) l2 vs:=Heap.IsTuple.push t2 _
  wp_walk using wpAny_pyIter_tuple T1,wpAny_pyIter_tuple T2
  exact ⟨_,rfl,h⟩
section
variable {prog:Program} {w:World} {A:Around} {E:Value->Shared->Prop} {s:Shared}
theorem zp6 {l1 l2:Addr} {us vs:Array Value} {Q:Value->Shared->Prop} (t1:s.heap.IsTuple l1 us) (t2:s.heap.IsTuple l2 vs)
  (q:∀ h',IsZip h' (s.heap.objs.size+4) (s.heap.objs.size+2) (s.heap.objs.size+3) .none->IsPair h' (s.heap.objs.size+2) (.ref s.heap.objs.size) (.ref (s.heap.objs.size+1))->IsPair h' (s.heap.objs.size+3) .none .none ->
   h'.IsTupleIter s.heap.objs.size l1 0->h'.IsTupleIter (s.heap.objs.size+1) l2 0->(∀ c o,s.heap.get? c=some o->h'.get? c=some o)->Q (.ref (s.heap.objs.size+4)) { s with heap:=h' }) :
  wpAny (model prog w) A (call (.type "zip") [.ref l1,.ref l2]) Q E s:=by
 refine callType_new PySem.F.called_zip (by decide) (PySem.F.typeCall_zip_2 _ _) (PySem.F.newCall_zip_2 _ _) (fun obj=>PySem.F.args_object_init_3 obj _ _) PySem.F.entry_zip_new (zrJ l1 l2 us vs) ⟨t1,t2,?_⟩
 have s1:(zt1 s.heap l1).objs.size=s.heap.objs.size+1:=YW ..
 have s2:(zt2 s.heap l1 l2).objs.size=s.heap.objs.size+2:=by rw [YW,s1]
 have s3:(zt3 s.heap l1 l2).objs.size=s.heap.objs.size+3:=by rw [YW,s2]
 have s4:(zt4 s.heap l1 l2).objs.size=s.heap.objs.size+4:=by rw [YW,s3]
 have e5:(zt5 s.heap l1 l2).get? (zt4 s.heap l1 l2).objs.size=some _:=yI _ rfl
 have e4:(zt5 s.heap l1 l2).get? (zt3 s.heap l1 l2).objs.size=some _:=yC _ (yI _ rfl)
 have e3:(zt5 s.heap l1 l2).get? (zt2 s.heap l1 l2).objs.size=some _:=yC _ (yC _ (yI _ rfl))
 have e2:(zt5 s.heap l1 l2).get? (zt1 s.heap l1).objs.size=some _:=yC _ (yC _ (yC _ (yI _ rfl)))
 have e1:(zt5 s.heap l1 l2).get? s.heap.objs.size=some _:=yC _ (yC _ (yC _ (yC _ (yI _ rfl))))
 show _/\_
 rw [s2,s3,s4] at e5; rw [s1,s2] at e3; rw [s3] at e4; rw [s1] at e2; rw [s4]
 exact ⟨⟨_,e5,rfl⟩,q _ e5 e3 e4 ⟨_,e1,rfl,rfl⟩ ⟨_,e2,rfl,rfl⟩ fun c o v=>yC _ (yC _ (yC _ (yC _ (yC _ v))))⟩
end
end Zp
namespace L2
open PySem PySem.Spec PyProof.Rows
section
variable {X:Cx} {pins:List (Addr × Obj)} {σ:St} {H:Hp} {s:Shared} {h':Heap}
theorem Inv.turnedNew {t':Nat} {ch:List Addr} {p:Addr} {o:HO} (I:Inv X pins σ H s) (hch:∀ b ∈ ch,zgD X pins H b) (k:∀ b u,b ∉ ch->s.heap.get? b=some u->h'.get? b=some u) (hp:s.heap.objs.size<=p) (new:zbG X.prog X.w (upd H p o) h' p o) :
  Inv X pins σ (upd H p o) { s with heap:=h',toks:=t' }:=by
 have fr:H p=none:=I.hok.fresh hp
 have sm:∀ b u,H b=some u->upd H p o b=some u:=fun b u e=>by rw [zr (zX e fr)]; exact e
 have nch:∀ b u,H b=some u->b ∉ ch:=fun b u e z=>by rw [(hch b z).1] at e; cases e
 refine I.step (g':=s.gens) (d':=s.drawn) (ch:=ch) (fun b hb=>?_) (fun b u _ _ hc e _=>k b u hc e) (fun b u _ _ hc e _=>⟨u.slots,k b u hc e⟩) (fun b u hc e n=>?_) (fun b u hc e=>⟨u,k b u hc e⟩) (fun b xs e=>sm _ _ e) (fun b ob u e=>sm _ _ e) (fun b ps e=>⟨#[],by rw [sm _ _ e]; simp⟩) (fun m hm=>?_) (fun b u e=>?_) I.bare
 ·obtain ⟨_,y1,_,y3,y4,y5⟩:=hch b hb
  exact ⟨y3,y1,y4,y5⟩
 ·rw [zr (yU (yZ (yM e) hp))]
  exact n
 ·obtain ⟨ob,es,ep,ho,r⟩:=hm
  exact ⟨ob,es,ep,k _ ob (fun z=>(hch _ z).2.1 rfl) ho,r⟩
 ·by_cases z:b=p
  ·subst z
   rw [zo] at e; cases e; exact new
  ·rw [zr z] at e
   refine (I.hok b u e).stay (fun c v hc q=>k c v ?_ q) (fun c q=>sm _ _ q) fun c xs q=>sm _ _ q
   rcases hc with rfl | hc
   ·exact nch _ u e
   ·exact nch c _ hc
theorem Inv.turnedL {t':Nat} {ch:List Addr} (I:Inv X pins σ H s) (hch:∀ b ∈ ch,zgD X pins H b) (k:∀ b u,b ∉ ch->s.heap.get? b=some u->h'.get? b=some u):Inv X pins σ H { s with heap:=h',toks:=t' }:=by
 have nch:∀ b u,H b=some u->b ∉ ch:=fun b u e z=>by rw [(hch b z).1] at e; cases e
 refine I.step (g':=s.gens) (d':=s.drawn) (ch:=ch) (fun b hb=>?_) (fun b u _ _ hc e _=>k b u hc e) (fun b u _ _ hc e _=>⟨u.slots,k b u hc e⟩) (fun b u hc e n=>n) (fun b u hc e=>⟨u,k b u hc e⟩) (fun b xs e=>e) (fun b ob u e=>e) (fun b ps e=>⟨#[],by rw [e]; simp⟩) (fun m hm=>?_) (fun b u e=>?_) I.bare
 ·obtain ⟨_,y1,_,y3,y4,y5⟩:=hch b hb
  exact ⟨y3,y1,y4,y5⟩
 ·obtain ⟨ob,es,ep,ho,r⟩:=hm
  exact ⟨ob,es,ep,k _ ob (fun z=>(hch _ z).2.1 rfl) ho,r⟩
 ·refine (I.hok b u e).stay (fun c v hc q=>k c v ?_ q) (fun c q=>q) fun c xs q=>q
  rcases hc with rfl | hc
  ·exact nch _ u e
  ·exact nch c _ hc
end
end L2
namespace L2
open PySem PySem.Spec PyProof.Rows Zp
def SqB (lb:Bool) (K:W.Frag) (H:Hp) (a:Addr) (xs:List V):Prop:=match lb with | true=>SqL K H a xs | false=>SqT K H a xs
def ItB (lb:Bool) (h:Heap) (it l:Addr) (i:Nat):Prop:=match lb with | true=>h.IsListIter it l i | false=>h.IsTupleIter it l i
def LsB (lb:Bool) (h:Heap) (l:Addr) (its:List Value):Prop:=match lb with | true=>h.IsList l its.toArray | false=>h.IsTuple l its.toArray
theorem zsl {prog:Program} {w:World} {it l:Addr} {its:List Value} (lb:Bool) (ne:l≠it):Src prog w it its [it,l] (fun i h=>ItB lb h it l i/\LsB lb h l its):=by
 cases lb with
 | true=>exact zmi ne
 | false=>exact zkh ne
theorem ItB.at {lb:Bool} {h h':Heap} {it l:Addr} {i:Nat} (x:ItB lb h it l i) (k:∀ o,h.get? it=some o->h'.get? it=some o):ItB lb h' it l i:=by
 cases lb with
 | true=>exact Heap.IsListIter.at x k
 | false=>exact Heap.IsTupleIter.at x k
theorem ItB.obj {lb:Bool} {h:Heap} {it l:Addr} {i:Nat} (x:ItB lb h it l i):∃ o,h.get? it=some o/\∀ v,o.data≠.cell v:=by
 cases lb with
 | true=>obtain ⟨o,e,_,d⟩:=x; exact ⟨o,e,fun v z=>by rw [d] at z; cases z⟩
 | false=>obtain ⟨o,e,_,d⟩:=x; exact ⟨o,e,fun v z=>by rw [d] at z; cases z⟩
section
variable {X:Cx} {pins:List (Addr × Obj)} {σ:St} {H:Hp} {s:Shared} {a b:Addr} {xs ys:List V} {lb:Bool}
theorem zkx {u:HO} (h:Rd H a u):∃ o,H a=some o:=by
 rcases h with h | ⟨o,h⟩
 ·exact ⟨_,h⟩
 ·exact ⟨_,h⟩
theorem zlP (I:Inv X pins σ H s) {o:Obj} (e:X.K.lookup a=some o) (f:zgD X pins H b):a≠b:=by
 have g:=I.ok.mod.kin _ _ e; obtain ⟨_,_,_,f3,_⟩:=f
 rintro rfl
 rcases f3 with z | z
 ·exact I.ok.noex _ _ g z
 ·exact yQ (yZ (yM g) (yt I.ok.bsz z)) (Yw _)
theorem zki (I:Inv X pins σ H s) (h:SqB lb X.K H a xs) (f:zgD X pins H b):a≠b:=by
 have tr:∀ o,H a=some o->a≠b:=fun o e z=>by rw [z,f.1] at e; cases e
 cases lb with
 | true =>
  rcases h with h | ⟨o,its,n,hk,_⟩
  ·obtain ⟨o,e⟩:=zkx h; exact tr o e
  ·exact zlP I hk f
 | false =>
  rcases h with h | ⟨o,its,n,hk,_⟩
  ·obtain ⟨o,e⟩:=zkx h; exact tr o e
  ·exact zlP I hk f
theorem zjg (I:Inv X pins σ H s) (h:SqB lb X.K H a xs):∃ its:List Value,zaK xs its/\LsB lb s.heap a its:=by
 cases lb with
 | true =>
  obtain ⟨its,r,p,_⟩:=I.list h; exact ⟨its,r,p.isList⟩
 | false =>
  obtain ⟨its,r,p,_⟩:=I.tuple h; exact ⟨its,r,p⟩
theorem zkj (I:Inv X pins σ H s) (h:SqB lb X.K H a xs) (h':SqB lb X.K H a ys):ys=xs:=by
 cases lb with
 | true=>exact I.list_inj h' h
 | false=>exact I.tuple_inj h' h
end
def Itz (lb:Bool) (K:W.Frag) (a b:Addr):It :=
  ⟨fun i H=>∃ xs ys x y,SqB lb K H a xs/\SqB lb K H b ys/\xs[i]?=some x/\ys[i]?=some y,
   fun i H v H'=>∃ p x y,H p=none/\v=.ref p/\H'=upd H p (.tup [x,y])/\(∀ xs,SqB lb K H a xs->xs[i]?=some x)/\∀ ys,SqB lb K H b ys->ys[i]?=some y,
   fun i H=>∃ xs ys,SqB lb K H a xs/\SqB lb K H b ys/\(xs.length<=i\/ys.length<=i)⟩
structure Ap5 (z TI TO i1 i2:Addr):Prop where
 iz:TI≠z
 oz:TO≠z
 io:TI≠TO
 ii1:TI≠i1
 ii2:TI≠i2
 z1:z≠i1
 z2:z≠i2
 o1:TO≠i1
 o2:TO≠i2
 i12:i1≠i2
theorem zma {P:Program} {w:World} {K:W.Frag} {elts:List Expr} {c:Nat} {pos:Pos} (lb:Bool) (a b z TI TO i1 i2:Addr) (D:Ap5 z TI TO i1 i2):Turn P w K (.Tuple elts c pos) (Itz lb K a b) [z,TI,TO,i1,i2] z
  (fun i h=>IsZip h z TI TO .none/\IsPair h TI (.ref i1) (.ref i2)/\(∃ u v,IsPair h TO u v)/\ItB lb h i1 a i/\ItB lb h i2 b i) where
 mem:=by simp
 obj:=by
  rintro i h ⟨wz,wI,⟨u,v,wO⟩,g1,g2⟩ d hd
  simp only [yO,yd,or_false] at hd
  rcases hd with rfl | rfl | rfl | rfl | rfl
  ·exact ⟨_,wz,fun v z=>by cases z⟩
  ·exact ⟨_,wI,fun v z=>by cases z⟩
  ·exact ⟨_,wO,fun v z=>by cases z⟩
  ·exact g1.obj
  ·exact g2.obj
 keep:=by
  rintro i h h' ⟨wz,wI,⟨u,v,wO⟩,g1,g2⟩ k
  exact ⟨k z (by simp) _ wz,k TI (by simp) _ wI,⟨u,v,k TO (by simp) _ wO⟩,g1.at fun o e=>k i1 (by simp) o e,g2.at fun o e=>k i2 (by simp) o e⟩
 item:=by
  intro X hP hw hK hc i pins s σ H E I hf st hg
  subst hP hw hK
  obtain ⟨wz,wI,⟨u,v,wO⟩,g1,g2⟩:=st
  obtain ⟨xs,ys,x,y,sx,sy,hx,hy⟩:=hg; obtain ⟨us,rx,lx⟩:=zjg I sx; obtain ⟨vs,ry,ly⟩:=zjg I sy; obtain ⟨ux,hux,rux⟩:=rx.get hx; obtain ⟨vy,hvy,rvy⟩:=ry.get hy
  have ne:∀ d,d ∈ [z,TI,TO,i1,i2]->a≠d/\b≠d:=fun d hd=>⟨zki I sx (hf d hd),zki I sy (hf d hd)⟩
  have A0:Apart z TI TO i1 i2 [i1,a] [i2,b]:=by
   have nz:=ne z (by simp)
   have no:=ne TO (by simp)
   have n1:=ne i1 (by simp)
   have n2:=ne i2 (by simp)
   refine ⟨?_,?_,?_,?_,?_,?_,D.iz,D.oz,D.io,D.ii1,D.ii2⟩ <;> simp only [yO,yd,or_false,not_or]
   ·exact ⟨D.z1,Ne.symm nz.1⟩
   ·exact ⟨D.z2,Ne.symm nz.2⟩
   ·exact ⟨D.o1,Ne.symm no.1⟩
   ·exact ⟨D.o2,Ne.symm no.2⟩
   ·exact ⟨Ne.symm D.i12,Ne.symm n2.1⟩
   ·exact ⟨D.i12,Ne.symm n1.2⟩
  refine zk5 (zsl lb (ne i1 (by simp)).1) (zsl lb (ne i2 (by simp)).2) A0 wz wI wO ⟨g1,lx⟩ ⟨g2,ly⟩ hux hvy fun h' c1 c2 c3 c4 c5 c6 c7=>⟨_,rfl,?_⟩
  refine wpAny_letOwnedTupleGo_zip (s:={ s with heap:=h' }) c1 fun h2 e1 e2=>?_
  have ext:=zC e2
  have pz:s.heap.objs.size≠z:=Nat.ne_of_gt (yM wz)
  have kk:∀ d o,d ∉ [z,TO,i1,i2]->s.heap.get? d=some o->h2.get? d=some o:=fun d o hd e=>by
   simp only [yO,yd,or_false,not_or] at hd; exact ext d o hd.1 (c7 d o hd.1 hd.2.1 hd.2.2.1 hd.2.2.2 e)
  have fr:H s.heap.objs.size=none:=I.hok.fresh (yH _)
  have tp:IsPair h2 s.heap.objs.size ux vy:=ext _ _ pz c5
  have I2:Inv X pins σ (upd H s.heap.objs.size (.tup [x,y])) { s with heap:=h2 }:=I.turnedNew (t':=s.toks) (ch:=[z,TO,i1,i2]) (fun d hd=>hf d (by simp at hd ⊢; rcases hd with h | h | h | h <;> simp [h])) kk (yH _)
   ⟨by show 2<=sizeLine; exact Nat.le_of_lt (zap (by decide)),[ux,vy],.cons rux (.cons rvy .nil),⟨_,tp,rfl,_,rfl⟩⟩
  refine ⟨.ref s.heap.objs.size,_,I2,rfl,⟨_,x,y,fr,rfl,rfl,fun xs' h=>by rw [zkj I sx h]; exact hx,fun ys' h=>by rw [zkj I sy h]; exact hy⟩,⟨e1,?_,⟨_,_,ext _ _ D.oz c2⟩,?_,?_⟩,fun d hd=>?_⟩
  ·exact kk _ _ (by simp [D.iz,D.io,D.ii1,D.ii2]) wI
  ·exact c3.1.at fun o e=>ext _ o (Ne.symm D.z1) e
  ·exact c4.1.at fun o e=>ext _ o (Ne.symm D.z2) e
  ·obtain ⟨od,gd,_⟩:∃ o,s.heap.get? d=some o/\True:=by
    simp only [yO,yd,or_false] at hd
    rcases hd with rfl | rfl | rfl | rfl | rfl
    ·exact ⟨_,wz,trivial⟩
    ·exact ⟨_,wI,trivial⟩
    ·exact ⟨_,wO,trivial⟩
    ·obtain ⟨o,e,_⟩:=g1.obj; exact ⟨o,e,trivial⟩
    ·obtain ⟨o,e,_⟩:=g2.obj; exact ⟨o,e,trivial⟩
   rw [zr (yU (yM gd))]; exact (hf d hd).1
 done:=by
  intro X hP hw hK hc i pins s σ H E I hf st hg
  subst hP hw hK
  obtain ⟨wz,wI,⟨u,v,wO⟩,g1,g2⟩:=st
  obtain ⟨xs,ys,sx,sy,hend⟩:=hg; obtain ⟨us,rx,lx⟩:=zjg I sx; obtain ⟨vs,ry,ly⟩:=zjg I sy
  have ne:∀ d,d ∈ [z,TI,TO,i1,i2]->a≠d/\b≠d:=fun d hd=>⟨zki I sx (hf d hd),zki I sy (hf d hd)⟩
  have A0:Apart z TI TO i1 i2 [i1,a] [i2,b]:=by
   have nz:=ne z (by simp)
   have no:=ne TO (by simp)
   have n1:=ne i1 (by simp)
   have n2:=ne i2 (by simp)
   refine ⟨?_,?_,?_,?_,?_,?_,D.iz,D.oz,D.io,D.ii1,D.ii2⟩ <;> simp only [yO,yd,or_false,not_or]
   ·exact ⟨D.z1,Ne.symm nz.1⟩
   ·exact ⟨D.z2,Ne.symm nz.2⟩
   ·exact ⟨D.o1,Ne.symm no.1⟩
   ·exact ⟨D.o2,Ne.symm no.2⟩
   ·exact ⟨Ne.symm D.i12,Ne.symm n2.1⟩
   ·exact ⟨D.i12,Ne.symm n1.2⟩
  have he:us[i]?=none\/vs[i]?=none:=by
   rcases hend with h | h
   ·exact .inl (List.getElem?_eq_none (by rw [<- rx.length]; exact h))
   ·exact .inr (List.getElem?_eq_none (by rw [<- ry.length]; exact h))
  refine zk4 (I.ok.hd hc) (zsl lb (ne i1 (by simp)).1) (zsl lb (ne i2 (by simp)).2) A0 wz wI wO ⟨g1,lx⟩ ⟨g2,ly⟩ he fun h' k=>⟨rfl,?_⟩
  refine I.turnedL (t':=s.toks) (ch:=[z,TO,i1,i2]) (fun d hd=>hf d (by simp at hd ⊢; rcases hd with h | h | h | h <;> simp [h])) fun d o hd e=>?_
  simp only [yO,yd,or_false,not_or] at hd; exact k d o hd.1 hd.2.1 hd.2.2.1 hd.2.2.2 e
 self:=fun A i s Q E st q=>wpAny_pyIter_zip st.1 q
theorem zdi {a b:Nat} (h:a≠b):(a:Addr)≠(b:Addr):=h
theorem ap5 (n:Nat):Ap5 (n+4:Nat) (n+2:Nat) (n+3:Nat) n (n+1:Nat):=⟨zdi (by omega),zdi (by omega),zdi (by omega),zdi (by omega),zdi (by omega),zdi (by omega),zdi (by omega),zdi (by omega),zdi (by omega),zdi (by omega)⟩
theorem znG:bootBuiltins "zip"=some (.type "zip"):=by rfl
section
variable {X:Cx}
def zvo (K:W.Frag) (ta:TA):TI:=fun σ H R=>ta σ H fun vs H1=>∃ a b xs ys lb,vs=[.ref a,.ref b]/\SqB lb K H1 a xs/\SqB lb K H1 b ys/\R (Itz lb K a b) H1
theorem zq6 {e1 e2:Expr} {elts:List Expr} {c:Nat} {ta:TA} {p pos tp:Pos} (hg:Gl X "zip") (hm:X.mg "zip"=none) (ha:PA X [e1,e2] ta) (hs:starEach [e1,e2] X.env=(false,eval e1 X.env) :: starEach [e2] X.env:=by rfl) (hpl:(backTo pos (starEach [e2] X.env)).any (·.1)=false:=by rfl) :
  PI X (.Tuple elts c tp) (.Call (.Name "zip" p) [e1,e2] [] pos) (zvo X.K ta):=by
 intro pins s σ H R I h
 refine Call_ (zdB I hg hm znG (YK (thn (ha pos pins s σ H _ I h) fun us s1 ⟨vs,H1,I1,r1,q1⟩=>?_) hs hpl))
 obtain ⟨a,b,xs,ys,lb,e,sx,sy,q⟩:=q1; subst e; obtain ⟨u,v,rfl,ru,rv⟩:=zl9 r1
 obtain rfl:u=Value.ref a:=ru
 obtain rfl:v=Value.ref b:=rv
 obtain ⟨us,rx,lx⟩:=zjg I1 sx; obtain ⟨vs,ry,ly⟩:=zjg I1 sy
 have fin:∀ h',IsZip h' (s1.heap.objs.size+4) (s1.heap.objs.size+2) (s1.heap.objs.size+3) .none->IsPair h' (s1.heap.objs.size+2) (.ref s1.heap.objs.size) (.ref (s1.heap.objs.size+1))->IsPair h' (s1.heap.objs.size+3) .none .none ->
   ItB lb h' s1.heap.objs.size a 0->ItB lb h' (s1.heap.objs.size+1) b 0->(∀ c o,s1.heap.get? c=some o->h'.get? c=some o) ->
   wpAny (model X.prog X.w) X.A (pyIter (.ref (s1.heap.objs.size+4))) (PIE X pins σ (.Tuple elts c tp) R) X.xe { s1 with heap:=h' }:=by
  intro h' z1 z2 z3 z4 z5 k
  refine wpAny_pyIter_zip (s:={ s1 with heap:=h' }) z1 ?_
  refine ⟨s1.heap.objs.size+4,[s1.heap.objs.size+4,s1.heap.objs.size+2,s1.heap.objs.size+3,s1.heap.objs.size,s1.heap.objs.size+1],_,_,H1,rfl,I1.kept (t':=s1.toks) k,zma lb a b _ _ _ _ _ (ap5 _),⟨z1,z2,⟨_,_,z3⟩,z4,z5⟩,fun d hd=>?_,q⟩
  have hd':s1.heap.objs.size<=d:=by
   simp only [yO,yd,or_false] at hd
   rcases hd with rfl | rfl | rfl | rfl | rfl <;> omega
  exact I1.fpOk hd' (I1.hok.fresh hd')
 cases lb with
 | true=>exact call_zip_2 lx ly fun h' z1 z2 z3 z4 z5 _ k=>fin h' z1 z2 z3 z4 z5 k
 | false=>exact zp6 lx ly fun h' z1 z2 z3 z4 z5 k=>fin h' z1 z2 z3 z4 z5 k
end
end L2
namespace PL
open PySem L2
theorem ziD {lb:Bool} {K:W.Frag} {H H':Hp} {a:Addr} {vs:List V} (s:zaI H H') (h:SqB lb K H a vs):SqB lb K H' a vs:=by
 cases lb with
 | true=>exact zy s h
 | false=>exact zaf s h
theorem zll {K:W.Frag} {Hi:Hp} {a b:Addr} {us vs:List V} {ds es:List D} {lb:Bool} (h1:SqB lb K Hi a us) (r1:zbv K Hi us ds) (h2:SqB lb K Hi b vs) (r2:zbv K Hi vs es):ItD K Hi (Itz lb K a b) ((ds.zip es).map fun p=>.tup [p.1,p.2]):=by
 intro Hi' H' s1 s2
 have q1:SqB lb K H' a us:=ziD (s1.trans s2.sub) h1
 have q2:SqB lb K H' b vs:=ziD (s1.trans s2.sub) h2
 refine ⟨fun i d e=>?_,us,vs,q1,q2,?_⟩
 ·rw [yE] at e
  obtain ⟨⟨d1,d2⟩,hz,rfl⟩:=yJ.mp e
  obtain ⟨e1,e2⟩:=List.getElem?_zip_eq_some.mp hz; obtain ⟨u,hu,ru⟩:=zR r1 e1; obtain ⟨v,hv,rv⟩:=zR r2 e2; refine ⟨⟨us,vs,u,v,q1,q2,hu,hv⟩,?_⟩
  rintro x H'' ⟨p,x1,y1,hp,rfl,rfl,k1,k2⟩
  have ex:x1=u:=by have:=k1 us q1; rw [hu] at this; exact (Option.some.inj this).symm
  have ey:y1=v:=by have:=k2 vs q2; rw [hv] at this; exact (Option.some.inj this).symm
  subst ex ey
  have ex:=Ext.new s2 hp (.tup [x1,y1]); exact ⟨_,ex,Den.mkT zo (.cons (ru.mono (s1.trans ex.hi)) (.cons (rv.mono (s1.trans ex.hi)) .nil))⟩
 ·rw [yF,List.length_zip,zn r1,zn r2]
  omega
section
variable {X:Cx}
def zbE (t:TA'):TI':=fun Γ Q=>t Γ fun ds Γ1=>∃ xs ys,(ds=[.tup xs,.tup ys]\/ds=[.lst xs,.lst ys])/\Q ((xs.zip ys).map fun p=>.tup [p.1,p.2]) Γ1
theorem zo4 {e1 e2:Expr} {elts:List Expr} {c:Nat} {t:TA'} {p pos tp:Pos} (hm:X.mg "zip"=none) (ha:PA' X [e1,e2] t) (hg:Gl X "zip":=by rfl):PI' X (.Tuple elts c tp) (.Call (.Name "zip" p) [e1,e2] [] pos) (zbE t):=by
 refine ⟨PI.weak (zq6 hg hm ha.pa (zP (zB ha.pl).1) (zaa (zB ha.pl).2)) ?_⟩
 rintro σ H R ⟨W,Hi,Γ,Q,g,h,fin⟩
 refine ⟨W,Hi,Γ,_,g,h,?_⟩
 rintro vs H1 Hi1 Γ1 ds s1 g1 dl ⟨xs,ys,hd,q⟩
 rcases hd with rfl | rfl
 ·obtain ⟨v,w,rfl,d1,d2⟩:=znB dl
  obtain ⟨a,us,rfl,h1,r1⟩:=d1.tupI; obtain ⟨b,ws,rfl,h2,r2⟩:=d2.tupI; exact ⟨a,b,us,ws,false,rfl,zaf g1.sub h1,zaf g1.sub h2,fin _ H1 Hi1 Γ1 _ s1 g1 (zll (lb:=false) h1 r1 h2 r2) q⟩
 ·obtain ⟨v,w,rfl,d1,d2⟩:=znB dl
  obtain ⟨a,us,rfl,h1,r1⟩:=d1.lstI; obtain ⟨b,ws,rfl,h2,r2⟩:=d2.lstI; exact ⟨a,b,us,ws,true,rfl,zy g1.sub h1,zy g1.sub h2,fin _ H1 Hi1 Γ1 _ s1 g1 (zll (lb:=true) h1 r1 h2 r2) q⟩
end
end PL
namespace Lb
def zhO:List Nat:=[97,98,99,100,101,102,103,104,105,106,107,108,109,110,111,112,113,114,115,116,117,118,119,120,121,122]
end Lb
namespace M11
open PySem L2 Lb PL
end M11
namespace MT
open PySem L2 PL
abbrev Pl:=List (List Nat)
inductive Tr where
 | node (l:List Nat) (ws:Pl) (ks:List Tr)
def Tr.lab:Tr->List Nat
 | .node l _ _=>l
end MT
namespace L2
open PySem PySem.Spec PyProof.Rows
def PU (X:Cx) (e:Expr) (t:TE):Prop:=∀ (pins:List (Addr × Obj)) (s:Shared) (σ:St) (H:Hp) (Q:VK) (i:Nat) (x:Str) (pos pos':Pos) (D:Ends),Inv X pins σ H s->t σ H Q->X.N.Nodup->X.N[i]?=some x->X.env.scope.names.lookup x=some .local ->
 swapsWith e (some (.Name x pos')) pos.line X.env=pure true->(∀ v H',Q v H'->D.nx (σ.set i (some v)) H')->wpAny (model X.prog X.w) X.A (exec (.Assign [.Name x pos'] e pos) X.env) (SP X pins D) X.xe s
theorem PU.weak {X:Cx} {e:Expr} {t t2:TE} (h:PU X e t) (w:∀ σ H Q,t2 σ H Q->t σ H Q):PU X e t2:=fun pins s σ H Q i x pos pos' D I q=>h pins s σ H Q i x pos pos' D I (w _ _ _ q)
theorem zoR {X:Cx} {elt tg iter:Expr} {ifs:List Expr} {sc fsc:Scope} {pos:Pos} {wi:TI} {g:TG} {tc:TT} {te:TE} {N N':List Str} {src:List (Option Nat)} (B:Blk N N' src fsc sc) (hi:PI X tg iter wi)
  (hg:∀ cl C s H fp pn,PG (blk X N' sc cl C s H fp pn) tg g) (ht:∀ cl C s H fp pn,PTs (blk X N' sc cl C s H fp pn) ifs tc) (he:∀ cl C s H fp pn,PE (blk X N' sc cl C s H fp pn) elt te)
  (hx:X.xe=(fun _ _=>False):=by rfl) (hc:X.calm=true:=by rfl) (hN:X.N=N:=by rfl) (hs:X.env.scope=fsc:=by rfl)
  (hf:∀ x,foldedSetIterable iter X.env x=pure x:=by intro _; rfl):PU X (.ListComp elt [⟨tg,iter,ifs,0⟩] sc pos) (zqx wi src g tc te):=by
 intro pins s σ H Q i0 x0 p0 p1 D0 I h hNd hi0 hx0 hsw fin; rw [exec_Assign_Name_used _ _ _ _ hsw]; refine yA (wpAny_standAt (yA ?_))
 show wpAny _ _ (do let _ <- comprehension (.ListComp elt [⟨tg,iter,ifs,0⟩] sc pos) sc X.env _ (newList []) false (eval iter X.env) (some (assign (.Name x0 p1) X.env))) _ _ _
 have hfr:∀ y ∈ sc.names,y.2=.free->∃ c,X.env.cells.lookup y.1=some c:=fun y hy e=>I.ok.has y.1 (.inl (by have:=B.free y hy e; rw [<- hs] at this; exact this))
 refine yA (YU (wpAny_comprehension_free (use:=some (assign (.Name x0 p1) X.env)) (Q:=fun _ s'=>SP X pins D0 .next s') (cl:=zdD X.env.cells sc.names []) rfl hf (zfW hfr) B.kind B.names ?_) (fun _ s' hq=>yG (yG hq)) fun _ _ e=>e)
 refine thn (hi pins s σ H _ I h) fun v s1 h1=>thn h1 fun itv s2 h2=>?_
 obtain ⟨it,fp,tn,J,H2,e,I2,T,st2,f2,q⟩:=h2; subst e
 obtain ⟨W,⟨m0,w0⟩,turn⟩:=q s2.heap.objs.size (I2.hok.fresh (yH _))
 refine yh (wpAny_newFunctionEnv B.cell (by intro y hy; simp at hy) (fun h1 hns hsb=>?_) B.kind)
 dsimp only at hns hsb ⊢
 have I3:Inv X pins σ (upd H2 s2.heap.objs.size (.lst [])) { s2 with heap:=s2.heap.push { cls:=.type "list",dict:=none,data:=.seq ([]:List Value).toArray } } :=
  I2.laid (t':=s2.toks) (fun b o e=>yC _ e) (yH _) ⟨yb _,[],0,.nil,yI _ rfl⟩
 have fb:∀ b ∈ fp,b<s2.heap.objs.size:=fun b hb=>by
  obtain ⟨o,e,_⟩:=T.obj 0 _ st2 b hb; exact yM e
 have f3:∀ b ∈ fp,zgD X pins (upd H2 s2.heap.objs.size (.lst [])) b:=fun b hb=>by
  refine ⟨?_,(f2 b hb).2⟩; rw [zr (yU (fb b hb))]; exact (f2 b hb).1
 generalize hh3:s2.heap.push { cls:=.type "list",dict:=none,data:=.seq ([]:List Value).toArray }=h3 at hns hsb I3 ⊢
 have z3:s2.heap.objs.size<h3.objs.size:=by rw [<- hh3,YW]; exact Nat.lt_succ_self _
 have k3:∀ b o,h3.get? b=some o->h1.get? b=some o:=fun b o e=>hsb.extBut b o (yU (yM e)) (yC _ e)
 have I4:=zop (tk:=s2.toks+([]:List (Str × Value)).length) I3 B hN hs f3 (fun b hb=>Nat.lt_trans (fb b hb) z3) hns k3
 have st4:tn 0 h1:=T.keep 0 _ _ st2 fun b hb o e=>k3 b o (by rw [<- hh3]; exact yC _ e)
 have fok:∀ {H':Hp},(∀ b ∈ fp,H' b=none)->∀ b ∈ fp,zgD (blk X N' sc (zdD X.env.cells sc.names []) h3.objs.size { s2 with heap:=h3 } (upd H2 s2.heap.objs.size (.lst [])) fp (X.pn ++ pins)) [] H' b:=fun hn b hb=>by
  obtain ⟨_,g1,g2,g3,g4,g5⟩:=f3 b hb
  refine ⟨hn b hb,yU (Nat.lt_trans (fb b hb) z3),fun z=>?_,.inl hb,fun x c e=>g4 x c (zem sc.names [] hfr (fun _ _ z=>by simp at z) e),fun p hp=>g5 p (by rw [ym] at hp; exact hp)⟩
  rcases yO.mp (I3.stkSub b z) with e | e
  ·exact g1 e
  ·exact g2 e
 have loop:∀ s4:Shared,s4={ s2 with heap:=h1,toks:=s2.toks+([]:List (Str × Value)).length } ->
   codeAny (model X.prog X.w) X.A (.compLoop (.ListComp elt [⟨tg,iter,ifs,0⟩] sc pos) 0 (.ref it) (.ref s2.heap.objs.size) (compEnvC sc (zdD X.env.cells sc.names []) h3.objs.size X.env))
    (compPost (model X.prog X.w) X.A X.xe (some (assign (.Name x0 p1) X.env)) (fun _ s'=>SP X pins D0 .next s') (.ref s2.heap.objs.size) h3.objs.size) s4:=by
  rintro s4 rfl
  refine zhA (fun k s'=>∃ i σ5 H5,Inv (blk X N' sc (zdD X.env.cells sc.names []) h3.objs.size { s2 with heap:=h3 } (upd H2 s2.heap.objs.size (.lst [])) fp (X.pn ++ pins)) [] σ5 H5 s'/\tn i s'.heap/\(∀ b ∈ fp,H5 b=none)/\W i k σ5 H5) ?_ m0
   ⟨0,_,_,I4,st4,fun b hb=>(f3 b hb).1,w0⟩
  rintro k s5 ⟨i,σ5,H5,I5,st5,fr5,w5⟩
  rcases turn i k σ5 H5 w5 with ⟨stop,qd⟩ | ⟨go,M,hM,step⟩
  ·refine thn (T.done (blk X N' sc (zdD X.env.cells sc.names []) h3.objs.size { s2 with heap:=h3 } (upd H2 s2.heap.objs.size (.lst [])) fp (X.pn ++ pins)) rfl rfl rfl hc i [] s5 σ5 H5 _ I5 (fok fr5) st5 stop) fun r s6 ⟨hr,I6⟩=>?_
   subst hr; obtain ⟨m6,hn6,_⟩:=id I6.loc
   have I7:Inv X pins σ H5 s6:=I3.call' (s':=s6) (ch:=fp) I6.os (Un.same I6.base (Heap.SameBut.refl ..) (yH _)) (HOk.same I6.hok (Heap.SameBut.refl ..) I6.free) I6.bare fun b hb=>⟨(f3 b hb).2.2.2.1,(f3 b hb).2.1,(f3 b hb).2.2.2.2.1,(f3 b hb).2.2.2.2.2⟩
   obtain ⟨c0,c1,c2,c3,c4,c5⟩:=I3.fpOk (H':=H5) (b:=h3.objs.size) (yH _) I6.free
   show wpAny _ _ (assign (.Name x0 p1) X.env (.ref s2.heap.objs.size)) _ _ _
   refine wpAny_assign_Name (zgJ (v:=.ref s2.heap.objs.size) I7 hNd hi0 (.inl hx0) rfl (fun s8 I8 sb=>?_) (.inr hx0))
   obtain ⟨a8,sb8,ha8⟩:=sb
   have ne8:h3.objs.size≠a8:=by
    rcases ha8 with e | e
    ·rw [e]; exact c1
    ·exact fun z=>c4 _ _ e z.symm
   exact ⟨m6,hn6.sameBut sb8 ne8,fun h' hsb'=>⟨_,H5,I8.turned (t':=s8.toks) (fun b o hb e=>(hsb'.2 b hb).trans e) c0 c1 c3 c4 c5,fin _ _ qd⟩⟩
  ·refine thn (T.item (blk X N' sc (zdD X.env.cells sc.names []) h3.objs.size { s2 with heap:=h3 } (upd H2 s2.heap.objs.size (.lst [])) fp (X.pn ++ pins)) rfl rfl rfl hc i [] s5 σ5 H5 _ I5 (fok fr5) st5 go) fun r s6 ⟨u,hr,h6⟩=>?_
   subst hr
   refine thn h6 fun _ s7 ⟨x,H7,I7,r7,y7,st7,fr7⟩=>?_
   have I7':=I7.pinned (fok fr7) (T.obj _ _ st7)
   have back:∀ {σ8:St} {H8:Hp} {s8:Shared},Inv (blk X N' sc (zdD X.env.cells sc.names []) h3.objs.size { s2 with heap:=h3 } (upd H2 s2.heap.objs.size (.lst [])) fp (X.pn ++ pins)) ([] ++ zfN fp s7.heap) σ8 H8 s8->tn (i+1) s8.heap/\∀ b ∈ fp,H8 b=none:=fun {σ8 H8 s8} I8=>by
    have pn8:∀ b ∈ fp,∀ o,s7.heap.get? b=some o->s8.heap.get? b=some o/\H8 b=none:=fun b hb o e=>by
     have q:=I8.pin (b,o) (yc _ (yc _ (zdv hb e))); exact ⟨q.1,q.2.1⟩
    refine ⟨T.keep _ _ _ st7 fun b hb o e=>(pn8 b hb o e).1,fun b hb=>?_⟩
    obtain ⟨o,e,_⟩:=T.obj _ _ st7 b hb; exact (pn8 b hb o e).2
   have xf:∀ {α:Type} {t:Sem α} {Q1 Q2:α->Shared->Prop} {z:Shared},wpAny (model X.prog X.w) X.A t Q1 X.xe z->(∀ a z',Q1 a z'->Q2 a z')->wpAny (model X.prog X.w) X.A t Q2 (fun _ _=>False) z:=fun g1 g2=>by
    rw [hx] at g1; exact thn g1 g2
   refine xf (hg _ _ _ _ _ _ _ s7 σ5 H7 x u _ I7' r7 (step x H7 y7)) fun _ s8 ⟨σ8,H8,I8,q8⟩=>?_
   refine xf (ht _ _ _ _ _ _ _ s8 σ8 H8 _ I8 q8) fun b s9 ⟨H9,I9,q9⟩=>?_
   cases b with
   | false =>
    obtain ⟨m',hm,w'⟩:=hM σ8 H9 (by simpa using q9)
    obtain ⟨g1,g2⟩:=back I9; exact ⟨m',hm,i+1,σ8,H9,I9.unpinned,g1,g2,w'⟩
   | true =>
    rw [yN rfl] at q9 ⊢
    refine xf (he _ _ _ _ _ _ _ s9 σ8 H9 _ I9 q9) fun y s10 ⟨yv,H10,I10,r10,ys,hy,hz,w⟩=>?_
    obtain ⟨m',hm,w'⟩:=hM _ _ w
    refine xf (zef (X:=(blk X N' sc (zdD X.env.cells sc.names []) h3.objs.size { s2 with heap:=h3 } (upd H2 s2.heap.objs.size (.lst [])) fp (X.pn ++ pins))) _ s10 σ8 H10 (.ref s2.heap.objs.size) [yv] _ [y] (fun _ H11=>H11=upd H10 s2.heap.objs.size (.lst (ys ++ [yv]))) I10 rfl (.cons r10 .nil) ⟨_,ys,yv,rfl,rfl,hy,hz,rfl⟩) fun _ s11 ⟨_,H11,I11,_,e11⟩=>?_
    subst e11; obtain ⟨g1,g2⟩:=back I11; exact ⟨m',hm,i+1,σ8,_,I11.unpinned,g1,g2,w'⟩
 exact codeAny_compStart_list (loop _ rfl) (T.self _ 0 _ _ _ st4 (loop _ rfl))
end L2
namespace PL
open PySem L2
structure PU' (X:Cx) (e:Expr) (t:TO'):Prop where
 h:PU X e (oOf X.K X.N.length t)
section
variable {X:Cx} {pos:Pos}
theorem zeV {elt tg iter:Expr} {ifs:List Expr} {sc fsc:Scope} {ti:TI'} {g:TG'} {tc:TT'} {te:TE'} {N N':List Str} {src:List (Option Nat)} (B:Blk N N' src fsc sc) (hi:PI' X tg iter ti)
  (hg:∀ cl C s H fp pn,PG' (blk X N' sc cl C s H fp pn) tg g) (ht:∀ cl C s H fp pn,PTs' (blk X N' sc cl C s H fp pn) ifs tc) (he:∀ cl C s H fp pn,PE' (blk X N' sc cl C s H fp pn) elt te)
  (hx:X.xe=(fun _ _=>False):=by rfl) (hc:X.calm=true:=by rfl) (hN:X.N=N:=by rfl) (hs:X.env.scope=fsc:=by rfl)
  (hf:∀ x,foldedSetIterable iter X.env x=pure x:=by intro _; rfl):PU' X (.ListComp elt [⟨tg,iter,ifs,0⟩] sc pos) (zad ti src g tc te):=by
 refine ⟨PU.weak (zoR (g:=gOf X.K N'.length g) (tc:=zqe X.K N'.length tc) (te:=tOf X.K N'.length te) B hi.h (fun a b c d e f=>(hg a b c d e f).h) (fun a b c d e f=>(ht a b c d e f).h) (fun a b c d e f=>(he a b c d e f).h) hx hc hN hs hf) ?_⟩
 rintro σ H Q2 ⟨W,Hi,Γ,Q,gd,h,fin⟩
 refine ⟨W,Hi,Γ,_,gd,h,?_⟩
 rintro J H1 Hi1 Γ1 ds s1 g1 itd ⟨hlen,q⟩
 intro A hA
 -- the state between two turns
 have hn':src.length=N'.length:=B.len
 refine zhy (n:=ds.length) (fun i σ' H'=>∃ Hi' acc vs Γ',zaI Hi1 Hi'/\Fz Hi' H'/\(∀ b o,H1 b=some o->H' b=some o)/\(∀ b o,H1 b=some o->Hi' b=Hi1 b)/\Hi' A=none/\H' A=some (.lst vs)/\zbv X.K Hi' vs acc/\vs.length<=i/\σ'.length=N'.length /\
   (∀ (j:Nat) s,Γ'[j]?=some s->s=.emp\/∃ d,s=.val d/\∃ v,σ'[j]?=some (some v)/\Den X.K Hi' v d)/\zeE g tc te (fun acc=>Q (.lst acc) Γ1) (ds.drop i) acc Γ') ?_ ?_ ?_
 ·refine ⟨Hi1,[],[],zl3 src Γ1,zaI.refl _,(Ext.newO g1.fz hA _ (fun _ z=>by cases z)).fz,fun b o e=>zW hA _ b o e,fun b o e=>rfl,g1.sub.free hA,zo,.nil,yb _,?_,fun j s e=>?_,by simpa using q⟩
  ·unfold zt; rw [yF,hn']
  ·unfold zl3 at e
   rw [yE] at e
   cases hj:src[j]? with
   | none=>rw [hj] at e; cases e
   | some o =>
    rw [hj] at e
    cases o with
    | none=>cases e; exact .inl rfl
    | some i =>
     have e':(match Γ1[i]? with | some (.val d)=>Slot.val d | _=>.emp)=s:=Option.some.inj e
     cases hΓ:Γ1[i]? with
     | none=>rw [hΓ] at e'; exact .inl e'.symm
     | some sl =>
      rw [hΓ] at e'
      cases sl with
      | val d =>
       refine .inr ⟨d,e'.symm,?_⟩; obtain ⟨v,h1,h2⟩:=g1.val i d hΓ; refine ⟨v,?_,h2⟩; unfold zt; rw [yE,hj]
       show some ((some i).bind fun i=>(σ[i]?).join)=some (some v)
       show some ((σ[i]?).join)=some (some v)
       rw [h1]; rfl
      | emp=>exact .inl e'.symm
      | own o=>exact .inl e'.symm
      | bk _ _ _=>exact .inl e'.symm
 ·rintro i σ' H' hlt ⟨Hi',acc,vs,Γ',s2,s3,k1,k2,hA1,hA2,dl,hv,hl,hsl,q⟩
  have hd:ds.drop i=ds[i] :: ds.drop (i+1):=YS hlt
  rw [hd] at q; obtain ⟨go,yl⟩:=(itd Hi' H' s2 s3).1 i ds[i] (yB hlt)
  refine ⟨go,fun x H'' y=>?_⟩
  obtain ⟨Hi'',ex,den⟩:=yl x H'' y
  have gb:Good X.K N'.length ⟨H'',Hi'',[]⟩ Hi'' Γ' σ' H'':=by
   refine ⟨hl,ex.fz,fun b o e _=>e,fun b o e=>⟨o,e⟩,fun b o e=>rfl,fun j d e=>?_,fun j o e=>?_,fun j k o o' b e=>?_,fun j d b xs e=>?_⟩
   ·rcases hsl j _ e with z | ⟨d',z,v,h1,h2⟩
    ·cases z
    ·cases z; exact ⟨v,h1,h2.mono ex.hi⟩
   ·rcases hsl j _ e with z | ⟨d',z,_⟩ <;> cases z
   ·rcases hsl j _ e with z | ⟨d',z,_⟩ <;> cases z
   ·rcases hsl j _ e with z | ⟨d',z,_⟩ <;> cases z
  refine ⟨⟨H'',Hi'',[]⟩,Hi'',Γ',ds[i],_,gb,den,q,?_⟩; intro σ3 H3 Hi3 Γ3 s4 g3 q3; refine ⟨⟨H'',Hi'',[]⟩,Hi3,Γ3,_,g3,q3,?_⟩; intro b H4 Hi4 Γ4 s5 g4 q4
  -- what the state is behind a turn
  have back:∀ {Γ5:Sts} {Hi5 H5:Hp},zaI Hi4 Hi5->Good X.K N'.length ⟨H'',Hi'',[]⟩ Hi5 Γ5 σ3 H5 ->
    zaI Hi1 Hi5/\Fz Hi5 H5/\(∀ b o,H1 b=some o->H5 b=some o)/\(∀ b o,H1 b=some o->Hi5 b=Hi1 b)/\Hi5 A=none/\H5 A=some (.lst vs)/\zaI Hi' Hi5:=fun {Γ5 Hi5 H5} s6 g5=>by
   have sx:zaI Hi' Hi5:=ex.hi.trans (s4.trans (s5.trans s6))
   have hA3:H'' A=some (.lst vs):=ex.h _ _ hA2
   refine ⟨s2.trans sx,g5.fz,fun b o e=>g5.keep b o (ex.h _ _ (k1 b o e)) (by simp),fun b o e=>?_,?_,g5.keep A _ hA3 (by simp),sx⟩
   ·rw [g5.fro b o (ex.h _ _ (k1 b o e))]
    show Hi'' b=Hi1 b
    rw [ex.fro b o (k1 b o e),k2 b o e]
   ·rw [g5.fro A _ hA3]
    show Hi'' A=none
    rw [ex.fro A _ hA2,hA1]
  have sl:∀ {Γ5:Sts} {Hi5 H5:Hp},Good X.K N'.length ⟨H'',Hi'',[]⟩ Hi5 Γ5 σ3 H5->∀ (j:Nat) s,(vo Γ5)[j]?=some s->s=.emp\/∃ d,s=.val d/\∃ v,σ3[j]?=some (some v)/\Den X.K Hi5 v d:=fun {Γ5 Hi5 H5} g5 j s e=>by
   unfold vo at e; rw [yE] at e
   cases hj:Γ5[j]? with
   | none=>rw [hj] at e; cases e
   | some sl =>
    rw [hj] at e
    cases sl with
    | val d =>
     cases e; exact .inr ⟨d,rfl,g5.val j d hj⟩
    | emp=>cases e; exact .inl rfl
    | own o=>cases e; exact .inl rfl
    | bk _ _ _=>cases e; exact .inl rfl
  cases b with
  | false =>
   simp only [yn,if_false] at q4 ⊢; obtain ⟨b1,b2,b3,b4,b5,b6,b7⟩:=back (zaI.refl _) g4
   exact ⟨Hi4,acc,vs,vo Γ4,b1,b2,b3,b4,b5,b6,dl.mono b7,by omega,g4.len,sl g4,q4⟩
  | true =>
   simp only [if_true] at q4 ⊢; refine ⟨⟨H'',Hi'',[]⟩,Hi4,Γ4,_,g4,q4,?_⟩
   rintro y' H5 ⟨Hi5,dy,Γ5,s6,g5,den5,q5⟩
   obtain ⟨b1,b2,b3,b4,b5,b6,b7⟩:=back s6 g5
   refine ⟨vs,b6,by omega,Hi5,acc ++ [dy],vs ++ [y'],vo Γ5,b1,?_,?_,b4,b5,zo,zaM (dl.mono b7) (.cons den5 .nil),by rw [yY]; simp; omega,g5.len,sl g5,q5⟩
   ·refine ⟨fun b o e=>?_,fun b xs e=>?_⟩
    ·rw [zr (fun z=>by rw [z,b5] at e; cases e)]
     exact b2.sub b o e
    ·by_cases hb:b=A
     ·subst hb; rw [zo] at e; cases e
     ·rw [zr hb] at e; exact b2.tups b xs e
   ·intro b o e
    rw [zr (zX e hA)]; exact b3 b o e
 ·rintro σ' H' ⟨Hi',acc,vs,Γ',s2,s3,k1,k2,hA1,hA2,dl,hv,hl,hsl,q⟩
  refine ⟨(itd Hi' H' s2 s3).2,?_⟩; rw [YM (yH _)] at q
  have ex:Ext Hi1 H1 Hi' H':=⟨s2,k1,s3,k2⟩
  refine fin A H' Hi' Γ1 (.lst acc) (s1.trans s2) (g1.ext ex) ⟨hA1,?_,⟨fun j o' e z=>?_,fun j d xs e=>?_⟩,vs,hA2,dl⟩ q
  ·cases hq:W.H₀ A with
   | none=>rfl
   | some w =>
    obtain ⟨w',hw⟩:=g1.there A w hq
    rw [hA] at hw; cases hw
  ·obtain ⟨a,h1,_,_,h4⟩:=g1.own j o' e
   rw [z] at h1; cases h1; obtain ⟨w,hw⟩:=h4.there
   rw [hA] at hw; cases hw
  ·obtain ⟨w,hw⟩:=(g1.bk j d A xs e).at_.there
   rw [hA] at hw; cases hw
theorem zeW (i:Nat) {x:Str} {e:Expr} {te:TO'} {pos':Pos} (hN:X.N.Nodup) (he:PU' X e te) (hi:X.N[i]?=some x:=by rfl) (hx:X.env.scope.names.lookup x=some .local:=by rfl) (hs:swapsWith e (some (.Name x pos')) pos.line X.env=pure true:=by rfl):PS' X (.Assign [.Name x pos'] e pos) (za9 (zbB te) (zS i)):=by
 refine ⟨fun pins s σ H N2 I q=>?_⟩
 obtain ⟨W,Hi,Γ,N,g,h,l⟩:=q
 refine he.h pins s σ H (fun v H'=>N2.nx (σ.set i (some v)) H') i x pos pos' N2 I ⟨W,Hi,Γ,_,g,h,?_⟩ hN hi hx hs fun _ _ z=>z
 intro a H1 Hi1 Γ1 o s1 g1 nw q; obtain ⟨u,hu⟩:=nw.own.there; exact l.nx _ H1 (upd Hi1 a u) _ (s1.trans (zW nw.hi u)) ((g1.freezeA nw.hi nw.h0 nw.ne hu).set (yD.mp hi).1 (nw.own.den nw.hi hu)) q
end
def zvD:OD->Prop
 | .lst ds=>∀ d,d ∈ ds->Imm d
 | _=>False
def zai (n:Nat) (t:TO'):TO':=fun Γ Q=>t (zaU n Γ) fun o _=>zvD o/\Q o Γ
theorem zkK {X:Cx} {e:Expr} {t:TO'} (h:PO' X e t):PO' X e (zai X.N.length t):=by
 refine ⟨PE.weak h.h ?_⟩
 rintro σ H Q ⟨W,Hi,Γ,Q',g,q,fin⟩
 obtain ⟨s1,g1⟩:=g.look; refine ⟨_,_,_,_,g1,q,?_⟩
 rintro a H' Hb Γ' o sb g' nw ⟨im,q'⟩
 obtain ⟨s2,g2,hd⟩:=g.unlook sb g'
 have ha:H a=none:=nw.h0
 refine fin a H' _ Γ o s2.hi g2 ⟨?_,?_,⟨fun j o' e z=>?_,fun j d xs e=>?_⟩,?_⟩ q'
 ·unfold zcu
  split
  ·rfl
  ·exact nw.hi
 ·cases hq:W.H₀ a with
  | none=>rfl
  | some w =>
   obtain ⟨w',hw⟩:=g.there a w hq
   rw [ha] at hw; cases hw
 ·obtain ⟨b,h1,_,_,h4⟩:=g.own j o' e
  rw [z] at h1; cases h1; obtain ⟨w,hw⟩:=h4.there
  rw [ha] at hw; cases hw
 ·obtain ⟨w,hw⟩:=(g.bk j d a _ e).at_.there
  rw [ha] at hw; cases hw
 ·cases o with
  | lst ds =>
   obtain ⟨vs,e,dl⟩:=nw.own
   exact ⟨vs,e,paired_of (zn dl) fun i v d h1 h2=>hd v d (im d (yW h2)) (paired_get i dl h1 h2)⟩
  | dic ds=>exact im.elim
  | dit ds=>exact im.elim
  | obj C ds=>exact im.elim
structure ExtB (b:Addr) (Hi H Hi' H':Hp):Prop where
 hi:zaI Hi Hi'
 h:∀ a o,a≠b->H a=some o->H' a=some o
 fz:Fz Hi' H'
 fro:∀ a o,H a=some o->Hi' a=Hi a
theorem zG {Γ:Sts} {i:Nat} {t:Slot} {j:Nat} {s:Slot} (e:(Γ.set i t)[j]?=some s):(j=i/\s=t)\/(j≠i/\Γ[j]?=some s):=by
 by_cases hj:j=i
 ·subst hj
  refine .inl ⟨rfl,?_⟩; rw [List.getElem?_set] at e; simp only [if_true] at e; split at e
  ·exact (Option.some.inj e).symm
  ·cases e
 ·rw [yX (fun z=>hj z.symm)] at e
  exact .inr ⟨hj,e⟩
theorem Good.extB {K:W.Frag} {n:Nat} {W:Wd} {Hi Hi' H H':Hp} {Γ:Sts} {σ:St} {i:Nat} {d:D->D} {b:Addr} {xs xs':OD} (g:Good K n W Hi Γ σ H) (e0:Γ[i]?=some (.bk d b xs)) (e:ExtB b Hi H Hi' H') (at_:zbM K Hi' H' b xs'):Good K n W Hi' (Γ.set i (.bk d b xs')) σ H':=by
 have B:=g.bk i d b _ e0
 have hbi:Hi' b=none:=by
  obtain ⟨u,hu⟩:=B.at_.there; exact (e.fro b u hu).trans B.hi
 have mv:∀ {a:Addr} {o:OD},a≠b->zbM K Hi H a o->zbM K Hi' H' a o:=fun ne h=>h.mono e.hi fun u q=>e.h _ u ne q
 refine ⟨g.len,e.fz,fun a o q nf=>?_,fun a o q=>?_,fun a o q=>?_,fun j d' q=>?_,fun j o q=>?_,fun j k o o' a q1 q2 h1 h2=>?_,fun j d' b' ys q=>?_⟩
 ·refine e.h a o (fun z=>?_) (g.keep a o q nf)
  rw [z] at q nf; rw [B.h0 nf] at q; cases q
 ·by_cases z:a=b
  ·rw [z]
   exact at_.there
  ·obtain ⟨o',h⟩:=g.there a o q
   exact ⟨o',e.h a o' z h⟩
 ·obtain ⟨o',h⟩:=g.there a o q
  exact (e.fro a o' h).trans (g.fro a o q)
 ·rcases zG q with ⟨_,z⟩ | ⟨_,z⟩
  ·cases z
  ·obtain ⟨v,h1,h2⟩:=g.val j d' z
   exact ⟨v,h1,h2.mono e.hi⟩
 ·rcases zG q with ⟨_,z⟩ | ⟨_,z⟩
  ·cases z
  ·obtain ⟨a,h1,h2,h3,h4⟩:=g.own j o z
   have ne:a≠b:=fun w=>B.ne j o z (by rw [<- w]; exact h1)
   obtain ⟨u,hu⟩:=h4.there; exact ⟨a,h1,(e.fro a u hu).trans h2,h3,mv ne h4⟩
 ·rcases zG q1 with ⟨_,z⟩ | ⟨_,z⟩
  ·cases z
  ·rcases zG q2 with ⟨_,y⟩ | ⟨_,y⟩
   ·cases y
   ·exact g.apart j k o o' a z y h1 h2
 ·rcases zG q with ⟨rfl,z⟩ | ⟨hj,z⟩
  ·cases z
   obtain ⟨⟨v,v1,v2⟩,p1,p2,p3,p4,p5,p6⟩:=B
   refine ⟨⟨v,v1,v2.mono e.hi⟩,p1,hbi,p3,at_,fun k d2 ys q=>?_,fun k o' q=>?_⟩
   ·rcases zG q with ⟨rfl,y⟩ | ⟨_,y⟩
    ·rfl
    ·exact p5 k _ _ y
   ·rcases zG q with ⟨_,y⟩ | ⟨_,y⟩
    ·cases y
    ·exact p6 k o' y
  ·obtain ⟨⟨v,v1,v2⟩,p1,p2,p3,p4,p5,p6⟩:=g.bk j d' b' _ z
   have ne:b'≠b:=fun w=>hj (B.one j d' ys (by rw [<- w]; exact z))
   obtain ⟨u,hu⟩:=p4.there
   refine ⟨⟨v,v1,v2.mono e.hi⟩,p1,(e.fro b' u hu).trans p2,p3,mv ne p4,fun k d2 ys q=>?_,fun k o' q=>?_⟩
   ·rcases zG q with ⟨rfl,y⟩ | ⟨_,y⟩
    ·cases y
     exact yQ rfl ne
    ·exact p5 k _ _ y
   ·rcases zG q with ⟨_,y⟩ | ⟨_,y⟩
    ·cases y
    ·exact p6 k o' y
theorem ExtB.put {Hi H:Hp} {b:Addr} {ws:List V} (s:Fz Hi H) (hb:Hi b=none) {u:HO} (hu:H b=some u) (nt:∀ xs,u≠.tup xs):ExtB b Hi H Hi (upd H b (.lst ws)):=by
 refine ⟨zaI.refl _,fun a o ne q=>by rw [zr ne]; exact q,⟨fun a o q=>?_,fun a xs q=>?_⟩,fun _ _ _=>rfl⟩
 ·rw [zr (fun z=>by rw [z,hb] at q; cases q)]
  exact s.sub a o q
 ·by_cases z:a=b
  ·subst z
   rw [zo] at q; cases q
  ·rw [zr z] at q
   exact s.tups a xs q
section
variable {X:Cx}
def zbC (K:W.Frag) (i:Nat) (f:Str) (te:TE'):TS':=fun N Γ=>∃ d b xs,Γ[i]?=some (.bk d b (.lst xs))/\(∃ C fs,d (.adr b)=.obj C fs/\Cls K C/\zaG K C f/\fs.lookup f=some (.adr b))/\te Γ fun v Γ1=>∃ ys,Γ1[i]?=some (.bk d b (.lst ys))/\ys.length<sizeLine/\N.nx (Γ1.set i (.bk d b (.lst (ys ++ [v]))))
theorem zkI (i:Nat) {x f:Str} {e:Expr} {te:TE'} {pos p p2 apos cpos:Pos} (he:PE' X e te) (hN:X.N[i]?=some x:=by rfl) (hv:Vis X.env.scope x:=by first | exact YJ rfl | exact yr (YJ rfl) | exact yr (yr rfl)) (hd:(x == ("__debug__":Str))=false:=by decide)
  (hcd:(x == ("__classdict__":Str))=false:=by decide) (hst:zeK e=false:=by rfl)
  (hb0:attributeBase (.Name x p) f X.env (eval (.Name x p) X.env)=eval (.Name x p) X.env:=by rfl)
  (hbase:attributeBase (.Attribute (.Name x p) f p2) "append" X.env (eval (.Attribute (.Name x p) f p2) X.env)=eval (.Attribute (.Name x p) f p2) X.env:=by rfl) (hline:(apos.endLine == cpos.line)=true:=by rfl)
  (hs:swapsWith (.Call (.Attribute (.Attribute (.Name x p) f p2) "append" apos) [e] [] cpos) none pos.line X.env=pure false:=by rfl) :
  PS' X (.Expr (.Call (.Attribute (.Attribute (.Name x p) f p2) "append" apos) [e] [] cpos) pos) (zbC X.K i f te):=by
 have pl:zbR [e]=true:=by unfold zbR; rw [hst]; rfl
 have hfew:((backTo cpos (starEach [e] X.env)).all (fun x=>!x.1) && (backToKw cpos (keywordEach [] X.env)).all (fun x=>x.1.isSome)
   && decide ([e].length+([]:List Keyword).length+(if ([]:List Keyword).isEmpty then 0 else 1)<30))=true:=by
  rw [zP hst]; rfl
 have base:=zeu (zmR Yo PySem.F.slot_list_append PySem.F.type_list_append (zef (X:=X)) (zrl (zcj (i:=i) (pos:=p) hN hv hd hcd) hb0) (zdU he.h zgZ (zP hst)) hbase hfew hline (zP hst) rfl) hs; refine ⟨PS.weak base ?_⟩
 rintro N2 σ H ⟨W,Hi,Γ,N,g,⟨d,b,xs,e0,⟨C,fs,ed,cl,na,lk⟩,q⟩,l⟩
 have B:=g.bk i d b _ e0; obtain ⟨v0,hv0,den0⟩:=B.val; rw [ed] at den0; obtain ⟨a,dx,fvs,rfl,ha,df⟩:=den0.objI; obtain ⟨u,hu,du⟩:=df.look lk
 cases du.adrI
 obtain ⟨vs0,hb4,_⟩:=B.at_; refine ⟨.ref a,hv0,a,C,dx,fvs,.ref b,rfl,g.sub _ _ ha,cl,na,hu,.inl ⟨rfl,vs0,SqL.of hb4⟩,W,Hi,Γ,_,g,q,?_⟩
 rintro v H1 ⟨Hi1,d1,Γ1,s1,g1,den,ys,e1,hl,q1⟩
 have B1:=g1.bk i d b _ e1; obtain ⟨vs,k4,k5⟩:=B1.at_
 refine ⟨b,vs,v,rfl,rfl,k4,by rw [zn k5]; exact hl,?_⟩
 exact l.nx σ _ Hi1 _ s1 (g1.extB (xs':=.lst (ys ++ [d1])) e1 (ExtB.put g1.fz B1.hi k4 (fun _ z=>by cases z)) ⟨vs ++ [v],zo,zaM k5 (.cons den .nil)⟩) q1
end
abbrev SpB:=(D->D)->List D->List D->(D->List D->Prop)->Prop
def zox (K:W.Frag) (sp:SpB):Sp:=fun vs H Q2 _=>∃ Hi d b xs v zd1 ds Q,vs=v :: zd1/\Fz Hi H/\Den K Hi v (d (.adr b))/\Hol K d/\Hi b=none/\zbM K Hi H b (.lst xs)/\zbv K Hi zd1 ds/\sp d xs ds Q /\
 ∀ Hi' H' v' r xs',ExtB b Hi H Hi' H'->Den K Hi' v' r->zbM K Hi' H' b (.lst xs')->Q r xs'->Q2 v' H'
structure FnB (P:Program) (w:World) (K:W.Frag) (mg:Str->Option Value) (base:Heap) (k:Nat) (x:Str) (ps:List Str) (sp:SpB):Prop where
 ex:∃ f fd,FnOk P w K mg base CX0 k f fd ps (zox K sp)/\zcb K fd ps []/\W.keepIn K (.ref f)=true/\mg x=some (.ref f)
structure MthB (P:Program) (w:World) (K:W.Frag) (mg:Str->Option Value) (base:Heap) (k:Nat) (C:Addr) (m:Str) (ps:List Str) (sp:SpB):Prop where
 ex:∃ f fd,FnOk P w K mg base CX0 k f fd ps (zox K sp)/\zcb K fd ps []/\Meth K C m f/\Cls K C
section
variable {X:Cx} {k:Nat} {C:Addr} {m x y:Str} {ps:List Str} {sp:SpB} {apos pos p q:Pos} {e:Expr} {es:List Expr} {t:TA'}
def zan (i:Nat) (sp:SpB) (t:TA'):TE':=fun Γ Q=>(∃ d b xs,Γ[i]?=some (.bk d b (.lst xs)))/\t Γ fun ds Γ1=>∃ d b xs,Γ1[i]?=some (.bk d b (.lst xs))/\sp d xs ds fun r ys=>Q r (Γ1.set i (.bk d b (.lst ys)))
def zbA (C:Addr) (m:Str) (i:Nat) (sp:SpB) (t:TA'):TE':=fun Γ Q=>∃ d b xs,Γ[i]?=some (.bk d b (.lst xs))/\(∃ fs,d (.adr b)=.obj C fs/\fs.lookup m=none)/\t Γ fun ds Γ1=>∃ xs,Γ1[i]?=some (.bk d b (.lst xs))/\sp d xs ds fun r ys=>Q r (Γ1.set i (.bk d b (.lst ys)))
theorem pe_callB (i:Nat) (h:FnB X.prog X.w X.K X.mg X.base k x ps sp) (hr:Room k X.A) (ha:PA' X es t) (hN:X.N[i]?=some y:=by rfl) (hv:Vis X.env.scope y:=by first | exact YJ rfl | exact yr (YJ rfl) | exact yr (yr rfl)) (hd:(y == ("__debug__":Str))=false:=by decide)
  (hcd:(y == ("__classdict__":Str))=false:=by decide) (hg:Gl X x:=by rfl) (hdb:(x == ("__debug__":Str))=false:=by decide) :
  PE' X (.Call (.Name x p) (.Name y q :: es) [] pos) (zan i sp t):=by
 obtain ⟨f,fd,F,b,hk,hm⟩:=h.ex; refine ⟨PE.weak (zgh (E:=E0) (dvs:=[]) F hr hg hm hk b .nil zgi (zdU (zcj (i:=i) (pos:=q) hN hv hd hcd) ha.pa (zP rfl)) hdb (zP rfl) (zaa ha.pl)) ?_⟩
 rintro σ H Q ⟨W,Hi,Γ,Q',g,⟨⟨d0,b0,xs0,e0⟩,h⟩,fin⟩
 obtain ⟨v0,hv0,_⟩:=(g.bk i _ _ _ e0).val; refine ⟨v0,hv0,W,Hi,Γ,_,g,h,?_⟩
 rintro vs H1 Hi1 Γ1 ds s1 g1 dl ⟨d,b',xs,e1,q1⟩
 have B:=g1.bk i d b' _ e1; obtain ⟨v1,hv1,den1⟩:=B.val; rw [hv0] at hv1; cases hv1; rw [ym]; refine ⟨Hi1,d,b',xs,v0,vs,ds,_,rfl,g1.fz,den1,B.hol,B.hi,B.at_,dl,q1,?_⟩; intro Hi2 H2 v' r ys ex den at_ q2; exact fin v' H2 ⟨Hi2,r,_,s1.trans ex.hi,g1.extB e1 ex at_,den,q2⟩
theorem zkR (i:Nat) (h:MthB X.prog X.w X.K X.mg X.base k C m ps sp) (hr:Room k X.A) (ha:PA' X (e :: es) t) (hN:X.N[i]?=some y:=by rfl) (hv:Vis X.env.scope y:=by first | exact YJ rfl | exact yr (YJ rfl) | exact yr (yr rfl)) (hd:(y == ("__debug__":Str))=false:=by decide)
  (hcd:(y == ("__classdict__":Str))=false:=by decide) {pl:Sem Bool}
  (ht:eval (.Call (.Attribute (.Name y q) m apos) (e :: es) [] pos) X.env=(do
   let ov <- eval (.Name y q) X.env
   standAt apos.atName
   let (f,first) <- holding [ov] (getMethod ov m pl)
   callWith pos f first (backTo pos (starEach (e :: es) X.env)) (backToKw pos (keywordEach [] X.env))):=by rfl) :
  PE' X (.Call (.Attribute (.Name y q) m apos) (e :: es) [] pos) (zbA C m i sp t):=by
 obtain ⟨f,fd,F,b,hm,cl⟩:=h.ex; refine ⟨PE.weak (zkT (E:=E0) (dvs:=[]) (zcj (i:=i) (pos:=q) hN hv hd hcd) cl hm F hr b .nil zgi ha.pa (zP (zB ha.pl).1) (zaa (zB ha.pl).2) ht) ?_⟩
 rintro σ H Q ⟨W,Hi,Γ,Q',g,⟨d,b',xs0,e0,⟨fs,ed,lk⟩,h⟩,fin⟩
 obtain ⟨v0,hv0,den0⟩:=(g.bk i _ _ _ e0).val; rw [ed] at den0; obtain ⟨a,dx,fvs,rfl,ha',df⟩:=den0.objI; refine ⟨.ref a,hv0,a,dx,fvs,rfl,g.sub _ _ ha',zel df lk,W,Hi,Γ,_,g,h,?_⟩
 rintro vs H1 Hi1 Γ1 ds s1 g1 dl ⟨xs,e1,q1⟩
 have B:=g1.bk i d b' _ e1; obtain ⟨v1,hv1,den1⟩:=B.val; rw [hv0] at hv1; cases hv1; rw [ym]; refine ⟨Hi1,d,b',xs,.ref a,vs,ds,_,rfl,g1.fz,den1,B.hol,B.hi,B.at_,dl,q1,?_⟩; intro Hi2 H2 v' r ys ex den at_ q2; exact fin v' H2 ⟨Hi2,r,_,s1.trans ex.hi,g1.extB e1 ex at_,den,q2⟩
class MSpB (sp:SpB):Prop where
 mono:∀ d xs ds Q Q',(∀ r ys,Q r ys->Q' r ys)->sp d xs ds Q->sp d xs ds Q'
instance {i:Nat} {sp:SpB} {t:TA'} [MSpB sp] [MA t]:ME (zan i sp t):=⟨fun Γ _ _ h ⟨a,q⟩=>⟨a,MA.mono (t:=t) Γ _ _ (fun _ _ ⟨d,b,xs,e,z⟩=>⟨d,b,xs,e,MSpB.mono (sp:=sp) _ _ _ _ _ (fun _ _ w=>h _ _ w) z⟩) q⟩⟩
end
def zU (N:List Str) (d:D->D) (b:Addr) (xs:List D) (ds:List D):Sts:=.bk d b (.lst xs) :: (ds.map .val ++ List.replicate (N.length-(ds.length+1)) .emp)
theorem zil {K:W.Frag} {N ps:List Str} {v:V} {vs:List V} {d:D->D} {b:Addr} {xs ds:List D} {Hi H:Hp} (hlen:ds.length+1=ps.length) (hpl:ps.length<=N.length) (sb:Fz Hi H) (dv:Den K Hi v (d (.adr b))) (hol:Hol K d) (hb:Hi b=none) (at_:zbM K Hi H b (.lst xs)) (dl:zbv K Hi vs ds) :
  Good K N.length ⟨H,Hi,[b]⟩ Hi (zU N d b xs ds) (L2.start N (v :: vs)) H:=by
 have hvl:=zn dl
 have inv:∀ (j:Nat) s,(zU N d b xs ds)[j]?=some s->(j=0/\s=.bk d b (.lst xs))\/s=.emp\/∃ j' d',j=j'+1/\ds[j']?=some d'/\s=.val d':=fun j s e=>by
  cases j with
  | zero=>exact .inl ⟨rfl,(Option.some.inj e).symm⟩
  | succ j =>
   right
   have e':(ds.map Slot.val ++ List.replicate (N.length-(ds.length+1)) Slot.emp)[j]?=some s:=by simpa [zU] using e
   by_cases hj:j<ds.length
   ·rw [yV (by simpa using hj),yE,yB hj] at e'
    exact .inr ⟨j,_,rfl,yB hj,(Option.some.inj e').symm⟩
   ·rw [ya (by simpa using hj),Yq] at e'
    split at e'
    ·exact .inl (Option.some.inj e').symm
    ·cases e'
 refine ⟨?_,sb,fun a o e _=>e,fun a o e=>⟨o,e⟩,fun a o e=>rfl,fun j d' e=>?_,fun j o e=>?_,fun j k o o' a e=>?_,fun j d' b' ys e=>?_⟩
 ·unfold L2.start
  rw [yY,yF,Yy]; simp; omega
 ·rcases inv j _ e with ⟨_,z⟩ | z | ⟨j',d2,rfl,e2,z⟩
  ·cases z
  ·cases z
  ·cases z
   obtain ⟨w,e1,dw⟩:=zR dl e2; refine ⟨w,?_,dw⟩; unfold L2.start
   have hj':j'<vs.length:=(yD.mp e1).1
   rw [yV (by rw [yF]; simp; omega),yE]
   simp [e1]
 ·rcases inv j _ e with ⟨_,z⟩ | z | ⟨j',d2,rfl,e2,z⟩ <;> cases z
 ·rcases inv j _ e with ⟨_,z⟩ | z | ⟨j',d2,rfl,e2,z⟩ <;> cases z
 ·rcases inv j _ e with ⟨rfl,z⟩ | z | ⟨j',d2,rfl,e2,z⟩
  ·cases z
   refine ⟨⟨v,?_,dv⟩,hol,hb,fun z=>yQ (yj.mpr rfl) z,at_,fun k d2 zs q=>?_,fun k o' q=>?_⟩
   ·unfold L2.start
    simp
   ·rcases inv k _ q with ⟨rfl,z⟩ | z | ⟨j',d2,rfl,e2,z⟩
    ·rfl
    ·cases z
    ·cases z
   ·rcases inv k _ q with ⟨rfl,z⟩ | z | ⟨j',d2,rfl,e2,z⟩ <;> cases z
  ·cases z
  ·cases z
section
variable {P:Program} {w:World} {K:W.Frag} {mg:Str->Option Value} {base:Heap}
theorem Fun.okB {x qual:Str} {st:Stmt} {f:Addr} {fd:FuncData} {N ps:List Str} {k:Nat} {sp:SpB} (F:Fun K x qual st f fd) (S:FnScope N ps (zm st)) (len:∀ d xs ds Q,sp d xs ds Q->ds.length+1=ps.length)
  (hbody:∀ (cdv:Value) (A:Around) (outer:List Env) (s:Shared) (H:Hp) (E:XK),Room k (A.deeper (PyProof.Rows.envOfC qual (zm st) s.heap.objs.size f cdv))->∀ d b xs ds Q,sp d xs ds Q ->
   ∃ t,PSs' (zfU CX0 P w K mg base N qual (zm st) f cdv A outer s H E).nox (zY st) t/\t { nx:=fun Γ=>∃ ys,Γ[0]?=some (.bk d b (.lst ys))/\Q .non ys,rt:=fun r Γ=>∃ ys d',r=.val d'/\Γ[0]?=some (.bk d b (.lst ys))/\Q d' ys } (zU N d b xs ds)):FnOk P w K mg base CX0 (k+1) f fd ps (zox K sp):=by
 refine F.ok S (fun vs H Q E h=>?_) (fun cdv A outer s H vs Q E hr h=>?_)
 ·obtain ⟨Hi,d,b,xs,v,zd1,ds,Q',rfl,_,_,_,_,_,dl,h,_⟩:=h
  have:=len d xs ds Q' h
  rw [yf,zn dl]; exact this
 obtain ⟨Hi,d,b,xs,v,zd1,ds,Q',rfl,sb,dv,hol,hb,at_,dl,h,fin⟩:=h; obtain ⟨t,h1,h2⟩:=hbody cdv A outer s H E hr d b xs ds Q' h; have hlen:=len d xs ds Q' h
 have hpl:ps.length<=N.length:=by have:=yo List.length S.pre; rw [ye] at this; omega
 refine ⟨_,h1.h,⟨H,Hi,[b]⟩,Hi,zU N d b xs ds,_,zil hlen hpl sb dv hol hb at_ dl,h2,?_⟩
 have ex:∀ {σ':St} {H' Hi':Hp} {Γ':Sts},zaI Hi Hi'->Good K N.length ⟨H,Hi,[b]⟩ Hi' Γ' σ' H'->ExtB b Hi H Hi' H':=fun s1 g1 =>
  ⟨s1,fun a o ne e=>g1.keep a o e (by simpa using ne),g1.fz,fun a o e=>g1.fro a o e⟩
 refine ⟨fun σ' H' Hi' Γ' s1 g1 q=>?_,fun _ _ _ _ _ _ q=>q.elim,fun _ _ _ _ _ _ q=>q.elim,fun v σ' H' Hi' Γ' r s1 g1 ro q=>?_⟩
 ·obtain ⟨ys,e,q⟩:=q
  exact fin Hi' H' .non .non ys (ex s1 g1) .non (g1.bk 0 d b _ e).at_ q
 ·obtain ⟨ys,d',rfl,e,q⟩:=q
  exact fin Hi' H' v d' ys (ex s1 g1) ro (g1.bk 0 d b _ e).at_ q
theorem Df.okB {k:Nat} {x:Str} {ps:List Str} {sp:SpB} {st:Stmt} {N:List Str} (d:Df K mg x st ps) (S:FnScope N ps (zm st)) (len:∀ d xs ds Q,sp d xs ds Q->ds.length+1=ps.length)
  (hbody:∀ (f:Addr) (cdv:Value) (A:Around) (outer:List Env) (s:Shared) (H:Hp) (E:XK),Room k (A.deeper (PyProof.Rows.envOfC x (zm st) s.heap.objs.size f cdv))->∀ d b xs ds Q,sp d xs ds Q ->
   ∃ t,PSs' (zfU CX0 P w K mg base N x (zm st) f cdv A outer s H E).nox (zY st) t/\t { nx:=fun Γ=>∃ ys,Γ[0]?=some (.bk d b (.lst ys))/\Q .non ys,rt:=fun r Γ=>∃ ys d',r=.val d'/\Γ[0]?=some (.bk d b (.lst ys))/\Q d' ys } (zU N d b xs ds)):FnB P w K mg base (k+1) x ps sp:=by
 obtain ⟨f,fd,F,b,m⟩:=d.ex; exact ⟨f,fd,PL.Fun.okB F S len (hbody f),b,F.kp,m⟩
end
end PL
namespace L2
open PySem PySem.Spec PyProof.Rows
def Itw (K:W.Frag) (a:Addr) (vs:List V):It :=
 ⟨fun i H=>SqL K H a vs/\i<vs.length,fun i H x H'=>H'=H/\vs[vs.length-1-i]?=some x,fun i H=>SqL K H a vs/\vs.length<=i⟩
theorem zgg {h:Heap} {a:Addr} {its:Array Value} (p:PlainL h a its):h.IsList a its:=by
 obtain ⟨o,n,e,c,d,e2⟩:=p
 first | exact ⟨o,e,c,n,e2⟩ | exact ⟨o,e,c,n,d⟩
theorem zmb {P:Program} {w:World} {K:W.Frag} {tg:Expr} (a it:Addr) (vs:List V):Turn P w K tg (Itw K a vs) [it] it (fun i h=>i<=vs.length/\h.IsRevIter it a ((vs.length:Int)-1-(i:Int))) where
 mem:=by simp
 obj:=fun i h st b hb=>by
  have e:b=it:=by simpa using hb
  subst e; obtain ⟨o,ho,hc,hd⟩:=st.2
  exact ⟨o,ho,fun v z=>by rw [hd] at z; cases z⟩
 keep:=fun i h h' st k=>⟨st.1,st.2.at fun o e=>k it (by simp) o e⟩
 item:=by
  intro X hP hw hK hc i pins s σ H E I hf st hg
  subst hP hw hK
  obtain ⟨hq,hi⟩:=hg; obtain ⟨its,rv,p,hz⟩:=I.list hq
  obtain ⟨f0,f1,f2,f3,f4,f5⟩:=hf it (by simp)
  have hl:=rv.length
  have hx:vs[vs.length-1-i]?=some (vs[vs.length-1-i]'(by omega)):=yB (by omega)
  obtain ⟨u,hu,ru⟩:=rv.get hx; have st2:=st.2
  rw [show (vs.length:Int)-1-(i:Int)=((vs.length-1-i:Nat):Int) by omega] at st2
  refine wpAny_pyNext_rev_item st2 (zgg p) (x:=u) (by simpa using hu) fun h' st' sb=>?_
  have I1:Inv X pins σ H { s with heap:=h',toks:=s.toks }:=I.turned (t':=s.toks) (fun b o hb e=>(sb.2 b hb).trans e) f0 f1 f3 f4 f5
  have st3:h'.IsRevIter it a ((vs.length:Int)-1-((i+1:Nat):Int)):=by
   rw [show (vs.length:Int)-1-((i+1:Nat):Int)=((vs.length-1-i:Nat):Int)-1 by omega]
   exact st'
  obtain ⟨o,ho,hc',hd⟩:=id st3
  exact ⟨u,rfl,zjT (s:={ s with heap:=h',toks:=s.toks }) (n:="list_reverseiterator") ho hc' hd (by decide) ⟨_,H,I1,ru,⟨rfl,hx⟩,⟨by omega,st3⟩,fun b hb=>(hf b hb).1⟩⟩
 done:=by
  intro X hP hw hK hc i pins s σ H E I hf st hg
  subst hP hw hK
  obtain ⟨hq,hi⟩:=hg
  obtain ⟨f0,f1,f2,f3,f4,f5⟩:=hf it (by simp)
  have st2:=st.2
  rw [show (vs.length:Int)-1-(i:Int)=-1 by have:=st.1; omega] at st2
  exact wpAny_pyNext_rev_end (I.ok.hd hc) st2 fun h' eb=>⟨rfl,I.turned (t':=s.toks) (fun b o hb e=>eb b o hb e) f0 f1 f3 f4 f5⟩
 self:=fun _ _ _ _ _ st h=>wpAny_pyIter_revIter st.2 h
section
variable {X:Cx} {tg:Expr}
def zvp (K:W.Frag) (ta:TA):TI:=fun σ H R=>ta σ H fun xs H1=>∃ a vs,xs=[.ref a]/\SqL K H1 a vs/\R (Itw K a vs) H1
theorem zq7 {a:Expr} {ta:TA} {p pos:Pos} (hg:Gl X "reversed") (hm:X.mg "reversed"=none) (ha:PA X [a] ta) (hs:starEach [a] X.env=[(false,eval a X.env)]:=by rfl):PI X tg (.Call (.Name "reversed" p) [a] [] pos) (zvp X.K ta):=by
 intro pins s σ H R I h
 refine Call_ (zdB I hg hm boot_reversed (YK (thn (ha pos pins s σ H _ I h) fun us s1 ⟨vs,H1,I1,r1,q1⟩=>?_) hs rfl))
 obtain ⟨b,xs,e,hq,q⟩:=q1; subst e; obtain ⟨u,rfl,rx⟩:=zcZ r1; cases rx; obtain ⟨its,rv,p,hz⟩:=I1.list hq; have hl:=rv.length; refine call_reversed_list (zgg p) ?_
 have st:(s1.heap.push (revObj b ((its.toArray.size:Int)-1))).IsRevIter s1.heap.objs.size b ((xs.length:Int)-1-((0:Nat):Int)):=by
  have e:(xs.length:Int)-1-((0:Nat):Int)=(its.toArray.size:Int)-1:=by rw [yL,<- hl]; omega
  rw [e]; exact ⟨_,yI _ rfl,rfl,rfl⟩
 refine wpAny_pyIter_revIter (s:={ s1 with heap:=s1.heap.push (revObj b ((its.toArray.size:Int)-1)) }) st ?_
 refine ⟨s1.heap.objs.size,[s1.heap.objs.size],_,_,H1,rfl,I1.kept (t':=s1.toks) fun b o e=>yC _ e,zmb b _ xs,⟨yb _,st⟩,fun c hc=>?_,q⟩
 have e:c=s1.heap.objs.size:=by simpa using hc
 subst e; exact I1.fpOk (yH _) (I1.hok.fresh (yH _))
def ztp:V->List V->Hp->VK->Prop:=fun x vs H Q=>∃ l xs y,x=.ref l/\vs=[.int 0,y]/\H l=some (.lst xs)/\xs.length<sizeLine/\Q .non (upd H l (.lst (y :: xs)))
theorem zkY (hu:X.A.units+1<cLine):OpR X (compareOp .NotIn) (fun x y H Q=>∃ a o,y=.ref a/\zuC H a x o/\Q (.bl (!o.isSome)) H):=by
 intro pins s σ H x y v u Q I rx ry h; obtain ⟨a,o,rfl,g,q⟩:=h; cases ry
 exact zp3 hu I g rx fun s' I'=>⟨.bl _,H,I',rfl,q⟩
end
end L2
namespace PL
open PySem L2
theorem zpS {K:W.Frag} {Hi:Hp} {a:Addr} {vs:List V} {ds:List D} (h:SqL K Hi a vs) (r:zbv K Hi vs ds):ItD K Hi (Itw K a vs) ds.reverse:=by
 intro Hi' H' s1 s2
 have hq:SqL K H' a vs:=zy (s1.trans s2.sub) h
 have hl:=zn r
 refine ⟨fun i d e=>?_,hq,by rw [List.length_reverse,hl]; exact yH _⟩
 have hi:i<ds.length:=by
  have:=(yD.mp e).1
  rwa [List.length_reverse] at this
 refine ⟨⟨hq,by omega⟩,?_⟩
 rintro x H'' ⟨rfl,hx⟩
 rw [List.getElem?_reverse hi] at e; refine ⟨Hi',Ext.refl s2,(paired_get _ r hx ?_).mono s1⟩; rw [hl]; exact e
def zbF (t:TA'):TI':=fun Γ Q=>t Γ fun ds Γ1=>∃ es,ds=[.lst es]/\Q es.reverse Γ1
theorem zkP {X:Cx} {tg a:Expr} {t:TA'} {p pos:Pos} (hg:Gl X "reversed") (hm:X.mg "reversed"=none) (ha:PA' X [a] t) (hs:starEach [a] X.env=[(false,eval a X.env)]:=by rfl):PI' X tg (.Call (.Name "reversed" p) [a] [] pos) (zbF t):=by
 refine ⟨PI.weak (zq7 hg hm ha.pa hs) ?_⟩
 rintro σ H R ⟨W,Hi,Γ,Q',g,h,fin⟩
 refine ⟨W,Hi,Γ,_,g,h,?_⟩
 rintro vs H1 Hi1 Γ1 ds s1 g1 dl ⟨es,rfl,q⟩
 obtain ⟨v,rfl,den⟩:=zdl dl; obtain ⟨a,us,rfl,h1,h2⟩:=den.lstI; exact ⟨a,us,rfl,zy g1.sub h1,fin _ H1 Hi1 Γ1 _ s1 g1 (zpS h1 h2) q⟩
section
variable {X:Cx}
theorem zgp:Op2 X (binaryOp .Pow) (rI' zl5 fun i j=>.int (i ^ j.toNat)):=⟨_,zrq,ziR _ fun i j _=>.int _⟩
def zbI (t:TE'):TE':=fun Γ Q=>t Γ fun d Γ1=>∃ i:Int,d=.int i/\Q (.int (-i)) Γ1
theorem zmJ {k:Nat} {C:Addr} {m:Str} {ps:List Str} {sp:Sp'} {apos pos:Pos} {o:Expr} {to:TE'} (h:Mth X.prog X.w X.K X.mg X.base k C m ps sp) (hr:Room k X.A) (ho:PE' X o to) {pl:Sem Bool}
  (ht:eval (.Call (.Attribute o m apos) [] [] pos) X.env=(do
   let ov <- eval o X.env
   standAt apos.atName
   let (f,first) <- holding [ov] (getMethod ov m pl)
   callWith pos f first (backTo pos (starEach [] X.env)) (backToKw pos (keywordEach [] X.env))):=by rfl) :
  PE' X (.Call (.Attribute o m apos) [] [] pos) (zbg C m sp to za5):=by
 obtain ⟨f,fd,F,b,hm,cl⟩:=h.ex; refine ⟨PE.weak (zmK (E:=E0) (dvs:=[]) ho.h cl hm F hr b .nil zgi ht) ?_⟩
 rintro σ H Q ⟨W,Hi,Γ,Q',g,h,fin⟩
 refine ⟨W,Hi,Γ,_,g,h,?_⟩
 rintro x H1 ⟨Hi1,d,Γ1,s1,g1,den1,fs,rfl,lk,q⟩
 obtain ⟨a,dx,fvs,rfl,ha',df⟩:=id den1.objI; refine ⟨a,dx,fvs,rfl,g1.sub _ _ ha',zel df lk,?_⟩
 show zhS X.K sp [V.ref a] H1 Q E0
 refine ⟨Hi1,_,_,g1.fz,.cons den1 .nil,q,?_⟩; intro Hi3 H3 v r ex ro q3
 cases r with
 | val d=>exact fin v H3 ⟨Hi3,d,Γ1,s1.trans ex.hi,g1.ext ex,ro,q3⟩
 | own o =>
  obtain ⟨a,rfl,h1,h2,h3⟩:=ro; have nw:=zcQ g1 ex h1 h2 h3; obtain ⟨u,hu⟩:=h3.there; exact fin _ H3 ⟨upd Hi3 a u,_,Γ1,s1.trans (ex.hi.trans (zW h1 u)),(g1.ext ex).freezeA nw.hi nw.h0 nw.ne hu,h3.den h1 hu,q3⟩
 | bk d o =>
  obtain ⟨b',dv,hol,h1,h2,h3⟩:=ro; have nw:=zcQ g1 ex h1 h2 h3; obtain ⟨u,hu⟩:=h3.there; exact fin _ H3 ⟨upd Hi3 b' u,_,Γ1,s1.trans (ex.hi.trans (zW h1 u)),(g1.ext ex).freezeA nw.hi nw.h0 nw.ne hu,hol b' _ v o (h3.den h1 hu) (dv.mono (zW h1 u)),q3⟩
def zbw (i:Nat):TS':=fun N Γ=>∃ ds,Γ[i]?=some (.own (.lst ds))/\N.nx (Γ.set i (.own (.lst ds.reverse)))
theorem zjz {α β:Type} {R:α->β->Prop} {l:List α} {m:List β} (h:Paired R l m):Paired R l.reverse m.reverse:=by
 have hl:=zn h
 refine paired_of (by simp [hl]) fun i a b h1 h2=>?_
 have i1:i<l.length:=by have:=(yD.mp h1).1; simpa using this
 rw [List.getElem?_reverse i1] at h1
 rw [List.getElem?_reverse (by omega)] at h2
 rw [<- hl] at h2; exact paired_get _ h h1 h2
theorem zh4 (i:Nat) {x:Str} {pos p apos cpos:Pos} (hN:X.N[i]?=some x:=by rfl) (hv:Vis X.env.scope x:=by first | exact YJ rfl | exact yr (YJ rfl) | exact yr (yr rfl)) (hd:(x == ("__debug__":Str))=false:=by decide)
  (hcd:(x == ("__classdict__":Str))=false:=by decide)
  (hbase:attributeBase (.Name x p) "reverse" X.env (eval (.Name x p) X.env)=eval (.Name x p) X.env:=by rfl) (hline:(apos.endLine == cpos.line)=true:=by rfl)
  (hs:swapsWith (.Call (.Attribute (.Name x p) "reverse" apos) [] [] cpos) none pos.line X.env=pure false:=by rfl) :
  PS' X (.Expr (.Call (.Attribute (.Name x p) "reverse" apos) [] [] cpos) pos) (zbw i):=by
 refine ⟨PS.weak (zeu (zrm Yo PySem.F.slot_list_reverse PySem.F.type_list_reverse (zjG (X:=X)) (zcj (i:=i) (pos:=p) hN hv hd hcd) hbase hline) hs) ?_⟩
 rintro N2 σ H ⟨W,Hi,Γ,N,g,⟨ds,e0,q⟩,l⟩
 have hi:i<X.N.length:=(yD.mp hN).1
 obtain ⟨a,h1,h2,h3,vs,h4,h5⟩:=g.own i _ e0; refine ⟨.ref a,zfv hi h1,.inl ⟨rfl,vs,SqL.of h4⟩,a,vs,rfl,rfl,h4,?_⟩; exact l.nx σ _ Hi _ (zaI.refl _) (g.put (o:=.lst ds.reverse) e0 h1 ⟨vs.reverse,zo,zjz h5⟩) q
def nmD (ms:List (List Nat)):List (D × D):=ms.map fun m=>(.str m,.bl true)
def nmV (ms:List (List Nat)):List (Key × V):=ms.map fun m=>(.inr (st m),.bl true)
theorem znZ {K:W.Frag} {H:Hp}:∀ (ms:List (List Nat)),zos K H (nmV ms) (nmD ms)
 | []=>.nil
 | m :: ms=>.cons ⟨by show D.str m=.str (st m).cps.toList; rw [zaX],.bl true⟩ (znZ ms)
theorem zpw {K:W.Frag} {H:Hp}:∀ {kvs:List (Key × V)} {ms:List (List Nat)},zos K H kvs (nmD ms)->kvs=nmV ms
 | [],[],_=>rfl
 | p :: kvs,m :: ms,.cons r t=>by
  obtain ⟨k,v⟩:=p; obtain ⟨r1,r2⟩:=r
  cases r2.blI
  cases k with
  | inl i=>cases r1
  | inr x =>
   have e:m=x.cps.toList:=by injection r1
   show _=(Sum.inr (st m),V.bl true) :: nmV ms
   rw [<- zpw t,e,<- zqA x]
 | [],_ :: _,h=>nomatch h
 | _ :: _,[],h=>nomatch h
theorem st_inj {l m:List Nat}:st l=st m↔l=m:=⟨fun h=>by rw [<- zaX l,h,zaX],fun h=>by rw [h]⟩
theorem zrH {l m:List Nat}:((Sum.inr (st m):Key)=.inr (st l))↔m=l:=⟨fun h=>st_inj.mp (Sum.inr.inj h),fun h=>by rw [h]⟩
theorem zn0 (l:List Nat) (ms:List (List Nat)):((nmV ms).any fun kv=>decide (kv.1=.inr (st l)))=decide (l ∈ ms):=by
 induction ms with
 | nil=>rfl
 | cons m ms ih =>
  show (decide ((Sum.inr (st m):Key)=.inr (st l)) || (nmV ms).any _)=_
  rw [ih]
  by_cases e:m=l
  ·subst e; simp
  ·have h1:¬ ((Sum.inr (st m):Key)=.inr (st l)):=fun z=>e (zrH.mp z)
   have h2:¬ l=m:=fun z=>e z.symm
   simp [h1,h2]
theorem zrF (l:List Nat) (ms:List (List Nat)):(zf0 (nmV ms) (.inr (st l))).isSome=decide (l ∈ ms):=by
 rw [<- zn0]; unfold zf0; rw [Yi]; generalize nmV ms=kvs
 induction kvs with
 | nil=>rfl
 | cons kv kvs ih =>
  rw [yw,Yx]
  cases decide (kv.1=(.inr (st l):Key)) with
  | true=>rfl
  | false=>simpa using ih
def zie (ms:List (List Nat)) (l:List Nat):List (List Nat):=if l ∈ ms then ms else ms ++ [l]
theorem zrG (l:List Nat) (ms:List (List Nat)):zgV (nmV ms) (.inr (st l)) (.bl true)=nmV (zie ms l):=by
 unfold zgV zie; rw [zn0]
 by_cases e:l ∈ ms
 ·simp only [e,decide_true,if_true]
  unfold nmV; rw [YG]
  refine Yb fun m _=>?_
  show (if (Sum.inr (st m):Key)=.inr (st l) then _ else _)=_
  split <;> rfl
 ·simp only [e,decide_false,yn,if_false]
  unfold nmV; simp
def ztr (neg:Bool):R2':=fun x y Q=>∃ (l:List Nat) (ms:List (List Nat)),x=.str l/\y=.dic (nmD ms)/\Q (.bl (if neg then !decide (l ∈ ms) else decide (l ∈ ms)))
theorem zue {K:W.Frag} {Hi H:Hp} {x y:V} {l:List Nat} {ms:List (List Nat)} (s:Fz Hi H) (d1:Den K Hi x (.str l)) (d2:Den K Hi y (.dic (nmD ms))):∃ a,y=.ref a/\zuC H a x (zf0 (nmV ms) (.inr (st l))):=by
 obtain ⟨a,kvs,rfl,h1,h2⟩:=d2.dicI
 cases d1.strI
 have e:=zpw h2; subst e; exact ⟨a,rfl,.inl ⟨_,.inr (st l),zdO s.sub h1,rfl,rfl⟩⟩
theorem zm0 (hu:X.A.units+1<cLine):Op2 X (compareOp .NotIn) (ztr true):=⟨_,zkY hu,by
 rintro Hi H x y dx dy Q Q2 s d1 d2 ⟨l,ms,rfl,rfl,q⟩ fin
 obtain ⟨a,rfl,g⟩:=zue s d1 d2; refine ⟨a,_,rfl,g,?_⟩; rw [zrF]; exact fin Hi H _ _ (Ext.refl s) (.bl _) q⟩
instance {neg:Bool}:MR2 (ztr neg):=⟨fun _ _ _ _ h ⟨l,ms,a,b,q⟩=>⟨l,ms,a,b,h _ q⟩⟩
def zbz:TO':=fun Γ Q=>Q (.dic (nmD [])) Γ
theorem zo2 {pos:Pos}:PO' X (.Dict [] [] pos) zbz:=by
 refine ⟨PE.weak zmO ?_⟩
 rintro σ H Q ⟨W,Hi,Γ,Q',g,q,fin⟩
 intro p hp
 exact fin p _ Hi Γ (.dic (nmD [])) (zaI.refl _) (g.ext (Ext.newO g.fz hp _ (fun _ z=>by cases z))) (New.mk' g hp ⟨[],zo,.nil⟩) q
def zak (i:Nat) (tk tv:TE'):TS':=fun N Γ=>tv Γ fun v Γ1=>v=.bl true/\(∃ ms0,Γ1[i]?=some (.own (.dic (nmD ms0))))/\tk Γ1 fun k Γ2=>∃ (ms:List (List Nat)) (l:List Nat),Γ2[i]?=some (.own (.dic (nmD ms)))/\k=.str l/\ms.length<sizeLine/\N.nx (Γ2.set i (.own (.dic (nmD (zie ms l)))))
theorem zmx (hu:X.A.units+1<cLine) (i:Nat) {x:Str} {k value:Expr} {tk tv:TE'} {p pos pos':Pos} (hk:PE' X k tk) (hv:PE' X value tv) (hN:X.N[i]?=some x:=by rfl) (hvi:Vis X.env.scope x:=by first | exact YJ rfl | exact yr (YJ rfl) | exact yr (yr rfl)) (hd:(x == ("__debug__":Str))=false:=by decide)
  (hcd:(x == ("__classdict__":Str))=false:=by decide) (hs:swapsWith value (some (.Subscript (.Name x p) k pos')) pos.line X.env=pure false:=by rfl) :
  PS' X (.Assign [.Subscript (.Name x p) k pos'] value pos) (zak i tk tv):=by
 refine ⟨PS.weak (zoY hu (zcj (i:=i) (pos:=p) hN hvi hd hcd) hk.h hv.h hs) ?_⟩
 rintro N2 σ H ⟨W,Hi,Γ,N,g,q,l⟩
 have hi:i<X.N.length:=(yD.mp hN).1
 refine ⟨W,Hi,Γ,_,g,q,?_⟩
 rintro v H1 ⟨Hi1,d,Γ1,s1,g1,den,rfl,⟨ms0,e0⟩,q1⟩
 obtain ⟨a,h1,h2,h3,kvs0,h4,h5⟩:=g1.own i _ e0; refine ⟨.ref a,zfv hi h1,W,Hi1,Γ1,_,g1,q1,?_⟩
 rintro y H2 ⟨Hi2,dk,Γ2,s2,g2,den2,ms,lk,e2,rfl,hl,q2⟩
 obtain ⟨a',k1,k2,k3,kvs,k4,k5⟩:=g2.own i _ e2; rw [h1] at k1; cases k1
 cases den2.strI
 cases den.blI
 have e:=zpw k5; subst e
 refine ⟨a,_,rfl,.inl ⟨_,.inr (st lk),k4,rfl,by unfold nmV; rw [yF]; exact hl,rfl⟩,?_⟩
 rw [zrG]; exact l.nx σ _ Hi2 _ (s1.trans s2) (g2.put (o:=.dic (nmD (zie ms lk))) e2 h1 ⟨_,zo,znZ _⟩) q2
instance {i:Nat} {tk tv:TE'} [ME tk] [ME tv]:MS (zak i tk tv):=⟨fun N N' Γ h q=>ME.mono (t:=tv) _ _ _ (fun _ _ ⟨a,b,z⟩=>⟨a,b,ME.mono (t:=tk) _ _ _ (fun _ _ ⟨ds,ks,e1,e2,e3,w⟩=>⟨ds,ks,e1,e2,e3,h.nx _ w⟩) z⟩) q⟩
end
end PL
namespace L2
open PySem PySem.Spec PyProof.Rows
section
variable {X:Cx}
theorem zpz:MtM X "list.insert" ztp:=by
 intro pins s σ H x vs v us Q I rx rv h; obtain ⟨l,xs,y,rfl,rfl,hH,hz,q⟩:=h; cases rx; obtain ⟨u,w,rfl,ru,rw'⟩:=zl9 rv; obtain ⟨t,rfl⟩:=ru; obtain ⟨z,its,n,r,hl,e⟩:=I.lstM hH
 refine call_meets F.slot_list_insert ⟨_,e,rfl⟩ F.entry_list_insert (F.args_list_insert_3 _ _ _) (AutoSeq1.list_insert_list_int_val_1 l its.toArray n 0 t w (by decide) (by rw [yL]; omega)) ⟨e,?_⟩
 refine ⟨.non,_,I.lset (its':=w :: its) hH e (by simp) (.cons rw' r) ?_,rfl,q⟩
 rw [yf]; omega
def zkn (C:Addr) (f1 f2:Str):Sp:=fun vs H Q _=>∃ a dx u,vs=[.ref a,u]/\H a=some (.ins C dx [])/\∀ p,p≠a->H p=none->Q .non (upd (upd H p (.lst [])) a (.ins C dx [(f1,u),(f2,.ref p)]))
theorem ziw {H:Hp} {a p:Addr} {x y z:HO} (ne:p≠a):upd (upd (upd H a x) p y) a z=upd (upd H p y) a z:=by
 funext b
 by_cases e:b=a
 ·subst e; rw [zo,zo]
 ·rw [zr e,zr e]
  by_cases e2:b=p
  ·subst e2; rw [zo,zo]
  ·rw [zr e2,zr e2,zr e]
end
end L2
namespace PL
open PySem L2
theorem Good.setB {K:W.Frag} {n:Nat} {W:Wd} {Hi H:Hp} {Γ:Sts} {σ:St} {i:Nat} {v:V} {d:D->D} {b:Addr} {xs:OD} (g:Good K n W Hi Γ σ H) (hi:i<n) (dv:Den K Hi v (d (.adr b))) (hol:Hol K d) (hb:Hi b=none) (h0:W.H₀ b=none) (fr:Free n W Γ σ b) (at_:zbM K Hi H b xs) :
  Good K n W Hi (Γ.set i (.bk d b xs)) (σ.set i (some v)) H:=by
 have ad:∀ j,j≠i->adr n W (σ.set i (some v)) j=adr n W σ j:=fun j hj=>by
  unfold adr
  rw [yX (fun z=>hj z.symm)]
 refine ⟨by rw [List.length_set]; exact g.len,g.fz,g.keep,g.there,g.fro,fun j d' e=>?_,fun j o e=>?_,fun j k o o' a e1 e2 h1 h2=>?_,fun j d' b' ys e=>?_⟩
 ·rcases zG e with ⟨rfl,z⟩ | ⟨hj,z⟩
  ·cases z
  ·obtain ⟨w,h1,h2⟩:=g.val j d' z
   exact ⟨w,by rw [yX (fun z=>hj z.symm)]; exact h1,h2⟩
 ·rcases zG e with ⟨rfl,z⟩ | ⟨hj,z⟩
  ·cases z
  ·obtain ⟨a,h1,h2⟩:=g.own j o z
   exact ⟨a,by rw [ad j hj]; exact h1,h2⟩
 ·rcases zG e1 with ⟨rfl,z⟩ | ⟨hj,z⟩
  ·cases z
  ·rcases zG e2 with ⟨rfl,y⟩ | ⟨hk,y⟩
   ·cases y
   ·exact g.apart j k o o' a z y (by rw [<- ad j hj]; exact h1) (by rw [<- ad k hk]; exact h2)
 ·rcases zG e with ⟨rfl,z⟩ | ⟨hj,z⟩
  ·cases z
   refine ⟨⟨v,by rw [YE (by rw [g.len]; exact hi)],dv⟩,hol,hb,fun _=>h0,at_,fun k d2 zs q=>?_,fun k o' q=>?_⟩
   ·rcases zG q with ⟨rfl,y⟩ | ⟨hk,y⟩
    ·rfl
    ·exact yQ y (fr.bk k _ _)
   ·rcases zG q with ⟨rfl,y⟩ | ⟨hk,y⟩
    ·cases y
    ·rw [ad k hk]
     exact fr.own k o' y
  ·obtain ⟨⟨w,w1,w2⟩,h1,h2,h3,h4,h5,h6⟩:=g.bk j d' b' _ z
   refine ⟨⟨w,by rw [yX (fun z=>hj z.symm)]; exact w1,w2⟩,h1,h2,h3,h4,fun k d2 zs q=>?_,fun k o' q=>?_⟩
   ·rcases zG q with ⟨rfl,y⟩ | ⟨hk,y⟩
    ·cases y
     exact yQ z (fr.bk j _ _)
    ·exact h5 k _ _ y
   ·rcases zG q with ⟨rfl,y⟩ | ⟨hk,y⟩
    ·cases y
    ·rw [ad k hk]
     exact h6 k o' y
theorem zrW {K:W.Frag} {C:Addr} {f1 f2:Str} {t:D}:Hol K fun z=>.obj C [(f1,t),(f2,z)]:=by
 intro b Hi v o hb den; obtain ⟨a,dx,fvs,rfl,ha,df⟩:=den.objI
 cases df with
 | @cons p q ps qs r t1 =>
  cases t1 with
  | @cons p2 q2 ps2 qs2 r2 t2 =>
   cases t2; obtain ⟨p21,p22⟩:=p2; obtain ⟨r21,r22⟩:=r2
   dsimp only at r21 r22
   cases r22.adrI
   exact Den.mkO ha (.cons r (.cons ⟨r21,hb⟩ .nil))
section
variable {X:Cx}
structure MakB (P:Program) (w:World) (K:W.Frag) (mg:Str->Option Value) (base:Heap) (k:Nat) (x:Str) (C:Addr) (f1 f2:Str):Prop where
 ex:∃ f fd ps,Mk K C f/\FnOk P w K mg base CX0 k f fd ps (zkn C f1 f2)/\zcb K fd ps []/\mg x=some (.ref C)
def zdm (i:Nat) (C:Addr) (f1 f2:Str) (t:TA'):TS':=fun N Γ=>t Γ fun ds Γ1=>∃ d,ds=[d]/\∀ b:Addr,N.nx (Γ1.set i (.bk (fun z=>.obj C [(f1,d),(f2,z)]) b (.lst [])))
theorem zq2 {k:Nat} {x y f1 f2:Str} {C:Addr} (i:Nat) {p q pos pos':Pos} {e:Expr} {t:TA'} (nd:X.N.Nodup) (M:MakB X.prog X.w X.K X.mg X.base k x C f1 f2) (hr:Room (k+1) X.A) (ha:PA' X [e] t) (hi:X.N[i]?=some y:=by rfl) (hx:Loc X.env.scope y:=by first | exact YJ rfl | exact yr rfl)
  (hf:X.fn y=true\/X.env.scope.names.lookup y=some .local:=by first | exact .inl rfl | exact .inr rfl | assumption) (hg:Gl X x:=by rfl) (hdb:(x == ("__debug__":Str))=false:=by decide) (hs:swapsWith (.Call (.Name x p) [e] [] pos) (some (.Name y q)) pos'.line X.env=pure false:=by rfl) :
  PS' X (.Assign [.Name y q] (.Call (.Name x p) [e] [] pos) pos') (zdm i C f1 f2 t):=by
 obtain ⟨f,fd,ps,mk,F,b,hm⟩:=M.ex; refine ⟨PS.weak (zkF (i:=i) nd hi hx (zkU (E:=E0) (dvs:=[]) mk F hr hg hm b .nil zgi ha.pa hdb (zP (zB ha.pl).1) (zaa (zB ha.pl).2)) hs hf) ?_⟩
 rintro N2 σ H ⟨W,Hi,Γ,N,g,h,l⟩
 refine ⟨W,Hi,Γ,_,g,h,?_⟩
 rintro vs H1 Hi1 Γ1 ds s1 g1 dl ⟨d,rfl,q⟩
 obtain ⟨u,rfl,du⟩:=zdl dl; intro a dx hna hdx ne; rw [ym]
 refine ⟨a,dx,u,rfl,zo,fun p hpa hp=>⟨rfl,?_⟩⟩
 rw [ziw hpa]; rw [zr hpa] at hp
 have hpd:p≠dx:=fun z=>by rw [z,zo] at hp; cases hp
 rw [zr hpd] at hp; have fr:=(New.mk' (u:=.lst []) (o:=.lst []) g1 hp ⟨[],zo,.nil⟩)
 have e1:=Ext.newO g1.fz hdx (.own a) (fun _ z=>by cases z)
 have hp1:upd H1 dx (.own a) p=none:=by rw [zr hpd]; exact hp
 have e2:=Ext.newO e1.fz hp1 (.lst []) (fun _ z=>by cases z)
 have hna':upd (upd H1 dx (.own a)) p (.lst []) a=none:=by rw [zr (fun z=>hpa z.symm),zr (fun z=>ne z.symm)]; exact hna
 have e3:=Ext.new e2.fz hna' (.ins C dx [(f1,u),(f2,.ref p)]); have ex:=e1.trans (e2.trans e3); have g2:=g1.ext ex
 have dv:Den X.K (upd Hi1 a (.ins C dx [(f1,u),(f2,.ref p)])) (.ref a) (.obj C [(f1,d),(f2,.adr p)]):=Den.mkO zo (.cons ⟨rfl,du.mono ex.hi⟩ (.cons ⟨rfl,.adr p⟩ .nil))
 refine l.nx _ _ _ _ (s1.trans ex.hi) (g2.setB (d:=fun z=>.obj C [(f1,d),(f2,z)]) (b:=p) (xs:=.lst []) (yD.mp hi).1 dv zrW ?_ fr.h0 fr.ne ⟨[],?_,.nil⟩) (q p)
 ·rw [zr hpa]
  exact fr.hi
 ·rw [zr hpa,zo]
def zbk (i:Nat) (te:TE'):TS':=fun N Γ=>(∃ ds0,Γ[i]?=some (.own (.lst ds0)))/\te Γ fun d Γ1=>∃ ds,Γ1[i]?=some (.own (.lst ds))/\ds.length<sizeLine/\N.nx (Γ1.set i (.own (.lst (d :: ds))))
theorem zjt (i:Nat) {x:Str} {e:Expr} {te:TE'} {j:Nat} {pos p p0 apos cpos:Pos} (he:PE' X e te) (hN:X.N[i]?=some x:=by rfl) (hv:Vis X.env.scope x:=by first | exact YJ rfl | exact yr (YJ rfl) | exact yr (yr rfl)) (hd:(x == ("__debug__":Str))=false:=by decide)
  (hcd:(x == ("__classdict__":Str))=false:=by decide) (hst:zeK e=false:=by rfl)
  (hbase:attributeBase (.Name x p) "insert" X.env (eval (.Name x p) X.env)=eval (.Name x p) X.env:=by rfl) (hline:(apos.endLine == cpos.line)=true:=by rfl)
  (hs:swapsWith (.Call (.Attribute (.Name x p) "insert" apos) [.Constant (.int 0) j p0,e] [] cpos) none pos.line X.env=pure false:=by rfl) :
  PS' X (.Expr (.Call (.Attribute (.Name x p) "insert" apos) [.Constant (.int 0) j p0,e] [] cpos) pos) (zbk i te):=by
 have pl:zbR [.Constant (.int 0) j p0,e]=true:=by unfold zbR zbR; rw [hst]; rfl
 have hfew:((backTo cpos (starEach [.Constant (.int 0) j p0,e] X.env)).all (fun x=>!x.1) && (backToKw cpos (keywordEach [] X.env)).all (fun x=>x.1.isSome)
   && decide ([Expr.Constant (.int 0) j p0,e].length+([]:List Keyword).length+(if ([]:List Keyword).isEmpty then 0 else 1)<30))=true:=by
  rw [zP rfl,zP hst]; rfl
 have base:=zeu (zmR Yo PySem.F.slot_list_insert PySem.F.type_list_insert (zpz (X:=X)) (zcj (i:=i) (pos:=p) hN hv hd hcd) (zdU zkV (zdU he.h zgZ (zP hst)) (zP rfl)) hbase hfew hline (zP rfl) (zaa (by unfold zbR; rw [hst]; rfl))) hs
 refine ⟨PS.weak base ?_⟩
 rintro N2 σ H ⟨W,Hi,Γ,N,g,⟨⟨ds0,e0⟩,q⟩,l⟩
 have hi:i<X.N.length:=(yD.mp hN).1
 obtain ⟨a,h1,h2,h3,vs0,h4,h5⟩:=g.own i _ e0; refine ⟨.ref a,zfv hi h1,.inl ⟨rfl,vs0,SqL.of h4⟩,W,Hi,Γ,_,g,q,?_⟩
 rintro v H1 ⟨Hi1,d,Γ1,s1,g1,den,ds,e1,hl,q1⟩
 obtain ⟨a',k1,k2,k3,vs,k4,k5⟩:=g1.own i _ e1; rw [h1] at k1; cases k1
 refine ⟨a,vs,v,rfl,rfl,k4,by rw [zn k5]; exact hl,?_⟩
 exact l.nx σ _ Hi1 _ s1 (g1.put (o:=.lst (d :: ds)) e1 h1 ⟨v :: vs,zo,.cons den k5⟩) q1
instance {i:Nat} {te:TE'} [ME te]:MS (zbk i te):=⟨fun N N' Γ h ⟨a,q⟩=>⟨a,ME.mono (t:=te) _ _ _ (fun _ _ ⟨ds,e,l,z⟩=>⟨ds,e,l,h.nx _ z⟩) q⟩⟩
end
instance:MS za6:=⟨fun _ _ _ _ h=>h.elim⟩
class MGs (t:zlT):Prop where
 mono:∀ ds Γ (Q Q':Sts->Prop),(∀ Γ,Q Γ->Q' Γ)->t ds Γ Q->t ds Γ Q'
instance:MGs zbs:=⟨fun _ _ _ _ h ⟨a,q⟩=>⟨a,h _ q⟩⟩
instance {t:TG'} {u:zlT} [MG t] [MGs u]:MGs (zat t u):=⟨fun _ _ _ _ h ⟨d,r,e,q⟩=>⟨d,r,e,MG.mono (g:=t) _ _ _ _ (fun _ z=>MGs.mono (t:=u) _ _ _ _ h z) q⟩⟩
instance {n:Nat} {t:zlT} [MGs t]:MG (zbr n t):=⟨fun _ _ _ _ h ⟨ds,e,l,q⟩=>⟨ds,e,l,MGs.mono (t:=t) _ _ _ _ h q⟩⟩
instance {n:Nat} {t:TO'} [MO t]:MO (zai n t):=⟨fun Γ _ _ h q=>MO.mono (t:=t) _ _ _ (fun _ _ ⟨a,z⟩=>⟨a,h _ _ z⟩) q⟩
theorem zkc:∀ L:List (List Nat),Txt.join (st []) (L.map st)=st L.flatten:=by
 intro L
 show PySem.Builtin.Str.glued (st []) (L.map st)=_
 rw [StrLaws.glued_eq_join]
 induction L with
 | nil=>rfl
 | cons a t ih =>
  cases t with
  | nil=>show st a=st [a].flatten; simp
  | cons b r =>
   show st a ++ st [] ++ Str.join (st []) (st b :: r.map st)=st (a :: b :: r).flatten
   rw [show Str.join (st []) (st b :: r.map st)=st (b :: r).flatten from ih]
   show (⟨(a.toArray ++ #[]) ++ ((b :: r).flatten).toArray⟩:Str)=⟨((a :: b :: r).flatten).toArray⟩
   simp
def znR:RM':=fun x ds Q=>∃ ls:List (List Nat),x=.str []/\ds=[.lst (ls.map .str)]/\(ls.map (·.length)).sum<=16777216/\Q (.str ls.flatten)
theorem zpB {X:Cx}:Met X "str" "str.join" znR:=⟨_,zpy,by
 rintro Hi H x vs dx ds Q Q2 s d1 dl ⟨ls,rfl,rfl,hl,q⟩ fin
 have hz:(((ls.map st).map (·.length)).sum+(ls.map st).length * (st []).length)<=16777216:=by
  rw [YG,zc9]
  have:(ls.map ((fun z:Str=>z.length) ∘ st))=ls.map (·.length):=Yb fun z _=>zc9 z
  rw [this,yF]
  simpa using hl
 obtain ⟨v,rfl,den⟩:=zdl dl; obtain ⟨a,us,rfl,h1,h2⟩:=den.lstI; rw [zhs h2] at h1; refine ⟨_,a,ls.map st,d1.strI,rfl,.inl (zy s.sub h1),hz,?_⟩; rw [zkc]; exact fin Hi H _ _ (Ext.refl s) (.str _) q⟩
instance:MRM znR:=⟨fun _ _ _ _ h ⟨l,a,b,d,q⟩=>⟨l,a,b,d,h _ q⟩⟩
end PL
namespace So
open PySem PySem.W PyProof.Rows
def run (lt:Nat->Nat->Bool) {α:Type}:KasT α->α
 | .ret a=>a
 | .ask i j k=>run lt (k (lt i j))
theorem zdr (lt:Nat->Nat->Bool) {α β:Type} (f:α->KasT β):∀ t:KasT α,run lt (t.bind f)=run lt (f (run lt t))
 | .ret _=>rfl
 | .ask i j k=>zdr lt f (k (lt i j))
def g (p:Array Nat) (i:Nat):Nat:=p.getD i 0
theorem g_eq (p:Array Nat) (i:Nat):g p i=(p[i]?).getD 0:=by
 unfold g; simp [Array.getD_eq_getD_getElem?]
theorem zaL {p:Array Nat} {i j:Nat} (hj:j<=p.size) (k:Nat):g (kas_rev p i j) k=if i<=k/\k<j then g p (i+j-1-k) else g p k:=by
 unfold kas_rev; rw [g_eq,getElem?_mirror_all hj]
 split <;> rw [g_eq]
theorem znv {p:Array Nat} {src d:Nat} (hs:src<p.size) (hd:d<=src) (k:Nat):g (bubble p src d) k=if k=src-d then g p src else if src-d<k/\k<=src then g p (k-1) else g p k:=by
 rw [g_eq,getElem?_bubble hs d hd]; split
 ·rw [g_eq]
 ·split <;> rw [g_eq]
structure Ord (lt:Nat->Nat->Bool):Prop where
 asym:∀ a b,lt a b=true->lt b a=false
 tr:∀ a b c,lt b a=false->lt c b=false->lt c a=false
def L (lt:Nat->Nat->Bool) (a b:Nat):Prop:=lt a b=true\/(lt b a=false/\a<b)
section
variable {lt:Nat->Nat->Bool}
theorem L.le (o:Ord lt) {a b:Nat} (h:L lt a b):lt b a=false:=by
 rcases h with h | h
 ·exact o.asym _ _ h
 ·exact h.1
theorem zk6 (o:Ord lt) {a b c:Nat} (h:lt a b=true) (k:lt c b=false):lt a c=true:=by
 cases e:lt a c with
 | true=>rfl
 | false=>exact yQ (o.tr b c a k e) (by rw [h]; exact fun z=>nomatch z)
theorem zpE (o:Ord lt) {a b c:Nat} (h:lt b a=false) (k:lt b c=true):lt a c=true:=by
 cases e:lt a c with
 | true=>rfl
 | false=>exact yQ (o.tr c a b e h) (by rw [k]; exact fun z=>nomatch z)
theorem L.trans (o:Ord lt) {a b c:Nat} (h:L lt a b) (k:L lt b c):L lt a c:=by
 rcases h with h | ⟨h,h'⟩
 ·exact .inl (zk6 o h (L.le o k))
 ·rcases k with k | ⟨k,k'⟩
  ·exact .inl (zpE o h k)
  ·exact .inr ⟨o.tr _ _ _ h k,Nat.lt_trans h' k'⟩
end
def Srt (lt:Nat->Nat->Bool) (p:Array Nat) (n:Nat):Prop:=∀ i j,i<j->j<n->L lt (g p i) (g p j)
structure B (p:Array Nat) (N n:Nat):Prop where
 size:p.size=N
 low:∀ k,k<n->g p k<n
 high:∀ k,n<=k->k<N->g p k=k
theorem B.succ {p:Array Nat} {N n:Nat} (b:B p N n) (h:n<N):B p N (n+1) where
 size:=b.size
 low:=fun k hk=>by
  by_cases e:k=n
  ·subst e; rw [b.high k (yH _) h]; omega
  ·have:=b.low k (by omega); omega
 high:=fun k h1 h2=>b.high k (by omega) h2
theorem B.mirror {p:Array Nat} {N n i j:Nat} (b:B p N n) (hj:j<=n) (hn:n<=N):B (kas_rev p i j) N n where
 size:=by rw [kas_rev_size,b.size]
 low:=fun k hk=>by
  rw [zaL (by rw [b.size]; omega)]
  split
  ·exact b.low _ (by omega)
  ·exact b.low _ hk
 high:=fun k h1 h2=>by
  rw [zaL (by rw [b.size]; omega),yK (by omega)]
  exact b.high k h1 h2
section
variable {lt:Nat->Nat->Bool} (o:Ord lt)
include o
theorem Srt.succ {p:Array Nat} {N n:Nat} (b:B p N n) (h1:1<=n) (hn:n<N) (s:Srt lt p n) (q:lt (g p n) (g p (n-1))=false):Srt lt p (n+1):=fun i j hij hj=>by
 by_cases e:j=n
 ·subst e
  have l1:L lt (g p (j-1)) (g p j):=.inr ⟨q,by
   rw [b.high j (yH _) hn]
   exact b.low _ (by omega)⟩
  by_cases e2:i=j-1
  ·subst e2; exact l1
  ·exact (s i (j-1) (by omega) (by omega)).trans o l1
 ·exact s i j hij (by omega)
theorem asc {p:Array Nat} {N:Nat}:∀ (f n:Nat),n+f=N->1<=n->B p N n->Srt lt p n->n<=run lt (kas_asc p f n)/\run lt (kas_asc p f n)<=N/\B p N (run lt (kas_asc p f n))/\Srt lt p (run lt (kas_asc p f n)) /\
  (run lt (kas_asc p f n)<N->lt (g p (run lt (kas_asc p f n))) (g p (run lt (kas_asc p f n)-1))=true)
 | 0,n,h,h1,b,s=>⟨yH _,by show n<=N; omega,b,s,fun z=>yQ (show n<N from z) (by omega)⟩
 | f+1,n,h,h1,b,s=>by
  have e:run lt (kas_asc p (f+1) n)=run lt (if lt (g p n) (g p (n-1))=true then KasT.ret n else kas_asc p f (n+1)):=rfl
  rw [e]
  cases q:lt (g p n) (g p (n-1)) with
  | true =>
   rw [yN rfl]
   exact ⟨yH _,by show n<=N; omega,b,s,fun _=>q⟩
  | false =>
   rw [yK (by decide)]
   obtain ⟨a1,a2,a3,a4,a5⟩:=asc (N:=N) f (n+1) (by omega) (by omega) (b.succ (by omega)) (Srt.succ o b h1 (by omega) s q)
   exact ⟨by omega,a2,a3,a4,a5⟩
structure De (lt:Nat->Nat->Bool) (p:Array Nat) (N n q:Nat):Prop where
 b:B p N n
 le:n<=N
 q1:q+1<=n
 blk:∀ i j,n-(q+1)<=i->i<j->j<n->L lt (g p i) (g p j)/\lt (g p i) (g p j)=false
 str:∀ i j,i<n-(q+1)->n-(q+1)<=j->j<n->lt (g p j) (g p i)=true
 old:∀ i j,i<j->j<n-(q+1)->L lt (g p j) (g p i)
def Fal (lt:Nat->Nat->Bool) (p:Array Nat) (n:Nat):Prop:=∀ i j,i<j->j<n->L lt (g p j) (g p i)
theorem De.turned {p:Array Nat} {N n q:Nat} (d:De lt p N n q):Fal lt (kas_rev p (n-(q+1)) n) n:=fun i j hij hj=>by
 have hs:n<=p.size:=by rw [d.b.size]; exact d.le
 have hq:=d.q1; rw [zaL hs,zaL hs]
 by_cases hi:n-(q+1)<=i
 ·rw [yN ⟨by omega,hj⟩,yN ⟨hi,by omega⟩]
  exact (d.blk _ _ (by omega) (by omega) (by omega)).1
 ·rw [yK (show ¬ (n-(q+1)<=i/\i<n) by omega)]
  by_cases hj2:n-(q+1)<=j
  ·rw [yN ⟨hj2,hj⟩]
   exact .inl (d.str _ _ (by omega) (by omega) (by omega))
  ·rw [yK (show ¬ (n-(q+1)<=j/\j<n) by omega)]
   exact d.old i j hij (by omega)
theorem De.fal0 {p:Array Nat} {N n:Nat} (d:De lt p N n 0):Fal lt p n:=fun i j hij hj=>by
 by_cases e:n-1<=j
 ·exact .inl (d.str i j (by omega) (by omega) hj)
 ·exact d.old i j hij (by omega)
theorem De.next {p:Array Nat} {N n:Nat} (b:B p N n) (hn:n<N) (h1:1<=n) (fa:Fal lt p n) (st:∀ i,i<n->lt (g p n) (g p i)=true):De lt p N (n+1) 0 where
 b:=b.succ hn
 le:=hn
 q1:=by omega
 blk:=fun i j h1 h2 h3=>by omega
 str:=fun i j h1 h2 h3=>by
  have e:j=n:=by omega
  subst e
  exact st i (by omega)
 old:=fun i j h1 h2=>fa i j h1 (by omega)
theorem De.st {p:Array Nat} {N n q:Nat} (d:De lt p N n q) (h:lt (g p n) (g p (n-1))=true):∀ i,i<n->lt (g p n) (g p i)=true:=fun i hi=>by
 have hq:=d.q1
 by_cases e:i=n-1
 ·subst e; exact h
 ·refine zk6 o h ?_
  by_cases hb:n-(q+1)<=i
  ·exact (d.blk i (n-1) hb (by omega) (by omega)).2
  ·exact o.asym _ _ (d.str i (n-1) (by omega) (by omega) (by omega))
theorem zr5 {N:Nat}:∀ (f:Nat) (p:Array Nat) (n q:Nat),n+f=N->De lt p N n q->∃ p' n' q',run lt (kas_desc f p n q)=(p',n',q')/\De lt p' N n' q'
 | 0,p,n,q,_,d=>⟨p,n,q,rfl,d⟩
 | f+1,p,n,q,h,d=>by
  have hn:n<N:=by omega
  have hq:=d.q1
  have e:run lt (kas_desc (f+1) p n q)=run lt (if lt (g p n) (g p (n-1))=true then (if q > 0 then kas_desc f (kas_rev p (n-(q+1)) n) (n+1) 0 else kas_desc f p (n+1) 0)
   else KasT.ask (p.getD (n-1) 0) (p.getD n 0) fun c=>if c=true then .ret (p,n,q) else kas_desc f p (n+1) (q+1)):=rfl
  rw [e]
  cases c:lt (g p n) (g p (n-1)) with
  | true =>
   rw [yN rfl]
   by_cases hq0:q > 0
   ·rw [yN hq0]
    refine zr5 f _ (n+1) 0 (by omega) (De.next o (d.b.mirror (yH _) d.le) hn (by omega) (De.turned o d) fun i hi=>?_)
    have hs:n<=p.size:=by rw [d.b.size]; exact d.le
    rw [zaL hs,zaL hs,yK (show ¬ (n-(q+1)<=n/\n<n) by omega)]
    split
    ·exact De.st o d c _ (by omega)
    ·exact De.st o d c _ hi
   ·rw [yK hq0]
    have e0:q=0:=by omega
    subst e0
    exact zr5 f _ (n+1) 0 (by omega) (De.next o d.b hn (by omega) (De.fal0 o d) (De.st o d c))
  | false =>
   rw [yK (by decide)]
   have e2:run lt (KasT.ask (p.getD (n-1) 0) (p.getD n 0) fun c=>if c=true then KasT.ret (p,n,q) else kas_desc f p (n+1) (q+1))=run lt (if lt (g p (n-1)) (g p n)=true then KasT.ret (p,n,q) else kas_desc f p (n+1) (q+1)):=rfl
   rw [e2]
   cases c2:lt (g p (n-1)) (g p n) with
   | true=>rw [yN rfl]; exact ⟨p,n,q,rfl,d⟩
   | false =>
    rw [yK (by decide)]
    have hb:n+1-(q+1+1)=n-(q+1):=by omega
    have gn:g p n=n:=d.b.high n (yH _) hn
    refine zr5 f _ (n+1) (q+1) (by omega) ⟨d.b.succ hn,hn,by omega,fun i j h1 h2 h3=>?_,fun i j h1 h2 h3=>?_,fun i j h1 h2=>?_⟩
    ·rw [hb] at h1
     by_cases ej:j=n
     ·subst ej
      have lo:g p i<g p j:=by rw [gn]; exact d.b.low i h2
      by_cases ei:i=j-1
      ·subst ei; exact ⟨.inr ⟨c,lo⟩,c2⟩
      ·obtain ⟨u1,u2⟩:=d.blk i (j-1) h1 (by omega) (by omega)
       exact ⟨.inr ⟨o.tr _ _ _ (L.le o u1) c,lo⟩,o.tr _ _ _ c2 u2⟩
     ·exact d.blk i j h1 h2 (by omega)
    ·rw [hb] at h1 h2
     by_cases ej:j=n
     ·subst ej
      exact zpE o c2 (d.str i (j-1) h1 (by omega) (by omega))
     ·exact d.str i j h1 h2 (by omega)
    ·rw [hb] at h2
     exact d.old i j h1 h2
theorem zqp {p:Array Nat} {N n:Nat} (b:B p N n) (hn:n<=N) (h1:1<=n) (fa:Fal lt p n):∃ m p',run lt (kas_tail3 n N p)=(m,p')/\1<=m/\m<=N/\B p' N m/\Srt lt p' m:=by
 unfold kas_tail3; rw [zdr]
 have hs:n<=p.size:=by rw [b.size]; exact hn
 obtain ⟨a1,a2,a3,a4,_⟩:=asc o (p:=kas_rev p 0 n) (N:=N) (N-n) n (by omega) h1 (b.mirror (yH _) hn) (fun i j hij hj=>by
  rw [zaL hs,zaL hs,yN ⟨by omega,by omega⟩,yN ⟨by omega,hj⟩]
  exact fa _ _ (by omega) (by omega))
 exact ⟨_,_,rfl,by omega,a2,a3,a4⟩
theorem zi2 {p:Array Nat} {N n:Nat} (hn:n<N) (d:De lt p N (n+1) 0):∃ m p',run lt (kas_descPart n N p)=(m,p')/\1<=m/\m<=N/\B p' N m/\Srt lt p' m:=by
 unfold kas_descPart; rw [zdr]
 obtain ⟨p',n',q',e,d'⟩:=zr5 o (N:=N) (N-(n+1)) p (n+1) 0 (by omega) d
 rw [e]; have hq:=d'.q1
 by_cases h:q' > 0
 ·show ∃ m p'',run lt (if q' > 0 then kas_tail3 n' N (kas_rev p' (n'-(q'+1)) n') else kas_tail3 n' N p')=(m,p'')/\_
  rw [yN h]
  exact zqp o (d'.b.mirror (yH _) d'.le) d'.le (by omega) (De.turned o d')
 ·show ∃ m p'',run lt (if q' > 0 then kas_tail3 n' N (kas_rev p' (n'-(q'+1)) n') else kas_tail3 n' N p')=(m,p'')/\_
  rw [yK h]
  have e0:q'=0:=by omega
  subst e0
  exact zqp o d'.b d'.le (by omega) (De.fal0 o d')
theorem count {p:Array Nat} {N:Nat} (hN:1<=N) (b:B p N 1):∃ m p',run lt (kas_count N p)=(m,p')/\1<=m/\m<=N/\B p' N m/\Srt lt p' m:=by
 unfold kas_count; rw [zdr]
 obtain ⟨a1,a2,a3,a4,a5⟩:=asc o (p:=p) (N:=N) (N-1) 1 (by omega) (yH _) b (fun i j hij hj=>by omega)
 generalize run lt (kas_asc p (N-1) 1)=n at a1 a2 a3 a4 a5 ⊢
 by_cases e:n=N
 ·rw [yN (by rw [e]; exact beq_self_eq_true _)]
  exact ⟨n,p,rfl,a1,a2,a3,a4⟩
 ·have hn:n<N:=by omega
  have hs:n<=p.size:=by rw [a3.size]; exact a2
  rw [yK (by simpa using e)]
  by_cases h1:n > 1
  ·rw [yN h1]
   show ∃ m p',run lt (if lt (g p 0) (g p (n-1))=true then KasT.ret (n,p) else kas_descPart n N (kas_rev p 0 n))=(m,p')/\_
   cases c:lt (g p 0) (g p (n-1)) with
   | true=>rw [yN rfl]; exact ⟨n,p,rfl,a1,a2,a3,a4⟩
   | false =>
    rw [yK (by decide)]
    refine zi2 o hn (De.next o (a3.mirror (yH _) a2) hn a1 (fun i j hij hj=>?_) fun i hi=>?_)
    ·rw [zaL hs,zaL hs,yN ⟨by omega,hj⟩,yN ⟨by omega,by omega⟩]
     exact a4 _ _ (by omega) (by omega)
    ·rw [zaL hs,zaL hs,yK (show ¬ (0<=n/\n<n) by omega),yN ⟨by omega,hi⟩]
     refine zk6 o (a5 hn) ?_; generalize hk:0+n-1-i=k
     have hkn:k<n:=by omega
     by_cases k0:k=0
     ·subst k0; exact c
     ·exact o.tr _ _ _ c (L.le o (a4 0 k (by omega) hkn))
  ·rw [yK h1]
   have e1:n=1:=by omega
   subst e1
   exact zi2 o hn (De.next o a3 hn (yH _) (fun i j h1 h2=>by omega) fun i hi=>by
    have e0:i=0:=by omega
    subst e0; exact a5 hn)
theorem zmB {p:Array Nat} {k:Nat} (s:Srt lt p k):∀ (f l r:Nat),r-l<=f->l<=r->r<=k->(∀ i,i<l->lt (g p k) (g p i)=false)->(∀ i,r<=i->i<k->lt (g p k) (g p i)=true) ->
  run lt (kas_place p k f l r)<=k/\(∀ i,i<run lt (kas_place p k f l r)->lt (g p k) (g p i)=false)/\∀ i,run lt (kas_place p k f l r)<=i->i<k->lt (g p k) (g p i)=true
 | 0,l,r,h,h1,h2,a,c=>⟨show l<=k by omega,a,fun i (hi:l<=i)=>c i (by omega)⟩
 | f+1,l,r,h,h1,h2,a,c=>by
  have e:run lt (kas_place p k (f+1) l r)=run lt (if l >= r then KasT.ret l else KasT.ask (p.getD k 0) (p.getD ((l+r) / 2) 0) fun c=>if c=true then kas_place p k f l ((l+r) / 2) else kas_place p k f ((l+r) / 2+1) r):=rfl
  rw [e]
  by_cases hlr:l >= r
  ·rw [yN hlr]
   exact ⟨show l<=k by omega,a,fun i (hi:l<=i)=>c i (by omega)⟩
  ·rw [yK hlr]
   show run lt (if lt (g p k) (g p ((l+r) / 2))=true then kas_place p k f l ((l+r) / 2) else kas_place p k f ((l+r) / 2+1) r)<=k/\(∀ i,i<run lt (if lt (g p k) (g p ((l+r) / 2))=true then kas_place p k f l ((l+r) / 2) else kas_place p k f ((l+r) / 2+1) r)->_)/\∀ i,run lt (if lt (g p k) (g p ((l+r) / 2))=true then kas_place p k f l ((l+r) / 2) else kas_place p k f ((l+r) / 2+1) r)<=i->_
   cases q:lt (g p k) (g p ((l+r) / 2)) with
   | true =>
    rw [yN rfl]
    refine zmB s f l _ (by omega) (by omega) (by omega) a fun i hi hk=>?_
    by_cases ei:i=(l+r) / 2
    ·subst ei; exact q
    ·exact zk6 o q (L.le o (s _ i (by omega) hk))
   | false =>
    rw [yK (by decide)]
    refine zmB s f _ r (by omega) (by omega) h2 (fun i hi=>?_) c
    by_cases ei:i=(l+r) / 2
    ·subst ei; exact q
    ·exact o.tr _ _ _ (L.le o (s i ((l+r) / 2) (by omega) (by omega))) q
theorem ins {p:Array Nat} {N k l:Nat} (b:B p N k) (hk:k<N) (s:Srt lt p k) (hl:l<=k) (a:∀ i,i<l->lt (g p k) (g p i)=false) (c:∀ i,l<=i->i<k->lt (g p k) (g p i)=true):B (bubble p k (k-l)) N (k+1)/\Srt lt (bubble p k (k-l)) (k+1):=by
 have hs:k<p.size:=by rw [b.size]; exact hk
 have gk:g p k=k:=b.high k (yH _) hk
 have e:∀ i,g (bubble p k (k-l)) i=if i=l then g p k else if l<i/\i<=k then g p (i-1) else g p i:=fun i=>by
  rw [znv hs (by omega),show k-(k-l)=l by omega]
 refine ⟨⟨by rw [bubble_size,b.size],fun i hi=>?_,fun i h1 h2=>?_⟩,fun i j hij hj=>?_⟩
 ·rw [e]
  split
  ·omega
  ·split
   ·have:=b.low (i-1) (by omega); omega
   ·have:=b.low i (by omega); omega
 ·rw [e,yK (by omega),yK (by omega)]
  exact b.high i (by omega) h2
 ·rw [e,e]
  have lo:∀ x,x<k->g p x<g p k:=fun x hx=>by rw [gk]; exact b.low x hx
  by_cases h1:i=l
  ·subst h1
   rw [yN rfl,yK (by omega),yN ⟨hij,by omega⟩]
   exact .inl (c _ (by omega) (by omega))
  ·rw [yK h1]
   by_cases h2:j=l
   ·subst h2
    rw [yN rfl,yK (by omega)]
    exact .inr ⟨a i hij,lo i (by omega)⟩
   ·rw [yK h2]
    split <;> split <;> exact s _ _ (by omega) (by omega)
theorem bin {N:Nat}:∀ (f:Nat) (p:Array Nat) (k:Nat),k+f=N->B p N k->Srt lt p k->B (run lt (kas_bin f p k)) N N/\Srt lt (run lt (kas_bin f p k)) N
 | 0,p,k,h,b,s=>by
  have e:k=N:=by omega
  subst e; exact ⟨b,s⟩
 | f+1,p,k,h,b,s=>by
  have e:run lt (kas_bin (f+1) p k)=run lt ((kas_place p k k 0 k).bind fun l=>kas_bin f (bubble p k (k-l)) (k+1)):=rfl
  rw [e,zdr]
  obtain ⟨a1,a2,a3⟩:=zmB o s k 0 k (by omega) (yb _) (yH _) (fun i hi=>yQ hi (Nat.not_lt_zero _)) fun i h1 h2=>yQ h1 (by omega)
  obtain ⟨b',s'⟩:=ins o b (by omega) s a1 a2 a3
  exact bin f _ (k+1) (by omega) b' s'
theorem sort {N:Nat} (hN:1<=N):B (run lt (kas_sort N)) N N/\Srt lt (run lt (kas_sort N)) N:=by
 unfold kas_sort; rw [zdr]
 have g0:∀ k,k<N->g (List.toArray (List.range N)) k=k:=fun k hk=>by
  rw [g_eq]; simp [hk]
 obtain ⟨m,p',e,h1,h2,b,s⟩:=count o hN (p:=List.toArray (List.range N)) ⟨by simp,fun k hk=>by rw [g0 k (by omega)]; exact hk,fun k h1 h2=>g0 k h2⟩
 rw [e]
 show B (run lt (if m<N then kas_bin (N-max m 1) p' (max m 1) else KasT.ret p')) N N/\Srt lt (run lt (if m<N then kas_bin (N-max m 1) p' (max m 1) else KasT.ret p')) N
 by_cases hm:m<N
 ·rw [yN hm,Nat.max_eq_left h1]
  exact bin o _ _ _ (by omega) b s
 ·rw [yK hm]
  have e:m=N:=by omega
  subst e; exact ⟨b,s⟩
end
def Ok (lt:Nat->Nat->Bool) (N:Nat) {α:Type}:KasT α->Prop
 | .ret _=>True
 | .ask i j k=>i<N/\j<N/\Ok lt N (k (lt i j))
theorem Ok.bind {lt:Nat->Nat->Bool} {N:Nat} {α β:Type} {f:α->KasT β}:∀ {t:KasT α},Ok lt N t->Ok lt N (f (run lt t))->Ok lt N (t.bind f)
 | .ret _,_,h=>h
 | .ask i j k,⟨h1,h2,h3⟩,h=>⟨h1,h2,Ok.bind (t:=k (lt i j)) h3 h⟩
theorem B.lt {p:Array Nat} {N n k:Nat} (b:B p N n) (hn:n<=N) (hk:k<N):g p k<N:=by
 by_cases h:k<n
 ·have:=b.low k h; omega
 ·rw [b.high k (by omega) hk]; exact hk
section
variable {lt:Nat->Nat->Bool} (o:Ord lt)
include o
theorem zk2 {p:Array Nat} {N:Nat} {n0:Nat} (b:B p N n0) (h0:n0<=N):∀ (f n:Nat),n+f=N->Ok lt N (kas_asc p f n)
 | 0,_,_=>trivial
 | f+1,n,h=>⟨b.lt h0 (k:=n) (by omega),b.lt h0 (k:=n-1) (by omega),by
  show Ok lt N (if lt (g p n) (g p (n-1))=true then KasT.ret n else kas_asc p f (n+1))
  split
  ·trivial
  ·exact zk2 b h0 f (n+1) (by omega)⟩
theorem zgo {N:Nat}:∀ (f:Nat) (p:Array Nat) (n q:Nat),n+f=N->De lt p N n q->Ok lt N (kas_desc f p n q)
 | 0,_,_,_,_,_=>trivial
 | f+1,p,n,q,h,d=>⟨d.b.lt d.le (k:=n) (by omega),d.b.lt d.le (k:=n-1) (by omega),by
  show Ok lt N (if lt (g p n) (g p (n-1))=true then (if q > 0 then kas_desc f (kas_rev p (n-(q+1)) n) (n+1) 0 else kas_desc f p (n+1) 0)
   else KasT.ask (p.getD (n-1) 0) (p.getD n 0) fun c=>if c=true then .ret (p,n,q) else kas_desc f p (n+1) (q+1))
  have hn:n<N:=by omega
  have hq:=d.q1
  cases c:lt (g p n) (g p (n-1)) with
  | true =>
   rw [yN rfl]
   by_cases hq0:q > 0
   ·rw [yN hq0]
    refine zgo f _ (n+1) 0 (by omega) (De.next o (d.b.mirror (yH _) d.le) hn (by omega) (De.turned o d) fun i hi=>?_)
    have hs:n<=p.size:=by rw [d.b.size]; exact d.le
    rw [zaL hs,zaL hs,yK (show ¬ (n-(q+1)<=n/\n<n) by omega)]
    split
    ·exact De.st o d c _ (by omega)
    ·exact De.st o d c _ hi
   ·rw [yK hq0]
    have e0:q=0:=by omega
    subst e0
    exact zgo f _ (n+1) 0 (by omega) (De.next o d.b hn (by omega) (De.fal0 o d) (De.st o d c))
  | false =>
   rw [yK (by decide)]
   refine ⟨d.b.lt d.le (k:=n-1) (by omega),d.b.lt d.le (k:=n) (by omega),?_⟩
   show Ok lt N (if lt (g p (n-1)) (g p n)=true then KasT.ret (p,n,q) else kas_desc f p (n+1) (q+1))
   cases c2:lt (g p (n-1)) (g p n) with
   | true=>rw [yN rfl]; trivial
   | false =>
    rw [yK (by decide)]
    have hb:n+1-(q+1+1)=n-(q+1):=by omega
    have gn:g p n=n:=d.b.high n (yH _) hn
    refine zgo f _ (n+1) (q+1) (by omega) ⟨d.b.succ hn,hn,by omega,fun i j h1 h2 h3=>?_,fun i j h1 h2 h3=>?_,fun i j h1 h2=>?_⟩
    ·rw [hb] at h1
     by_cases ej:j=n
     ·subst ej
      have lo:g p i<g p j:=by rw [gn]; exact d.b.low i h2
      by_cases ei:i=j-1
      ·subst ei; exact ⟨.inr ⟨c,lo⟩,c2⟩
      ·obtain ⟨u1,u2⟩:=d.blk i (j-1) h1 (by omega) (by omega)
       exact ⟨.inr ⟨o.tr _ _ _ (L.le o u1) c,lo⟩,o.tr _ _ _ c2 u2⟩
     ·exact d.blk i j h1 h2 (by omega)
    ·rw [hb] at h1 h2
     by_cases ej:j=n
     ·subst ej
      exact zpE o c2 (d.str i (j-1) h1 (by omega) (by omega))
     ·exact d.str i j h1 h2 (by omega)
    ·rw [hb] at h2
     exact d.old i j h1 h2⟩
theorem ziM {p:Array Nat} {N n:Nat} (b:B p N n) (hn:n<=N):Ok lt N (kas_tail3 n N p):=by
 unfold kas_tail3
 exact Ok.bind (zk2 o (b.mirror (yH _) hn) hn _ n (by omega)) trivial
theorem zfd {p:Array Nat} {N n:Nat} (hn:n<N) (d:De lt p N (n+1) 0):Ok lt N (kas_descPart n N p):=by
 unfold kas_descPart
 refine Ok.bind (zgo o _ p (n+1) 0 (by omega) d) ?_
 obtain ⟨p',n',q',e,d'⟩:=zr5 o (N:=N) (N-(n+1)) p (n+1) 0 (by omega) d
 rw [e]
 show Ok lt N (if q' > 0 then kas_tail3 n' N (kas_rev p' (n'-(q'+1)) n') else kas_tail3 n' N p')
 split
 ·exact ziM o (d'.b.mirror (yH _) d'.le) d'.le
 ·exact ziM o d'.b d'.le
theorem zmU {p:Array Nat} {N:Nat} (hN:1<=N) (b:B p N 1):Ok lt N (kas_count N p):=by
 unfold kas_count
 refine Ok.bind (zk2 o b hN _ 1 (by omega)) ?_
 obtain ⟨a1,a2,a3,a4,a5⟩:=asc o (p:=p) (N:=N) (N-1) 1 (by omega) (yH _) b (fun i j hij hj=>by omega)
 generalize run lt (kas_asc p (N-1) 1)=n at a1 a2 a3 a4 a5 ⊢
 by_cases e:n=N
 ·rw [yN (by rw [e]; exact beq_self_eq_true _)]
  trivial
 ·have hn:n<N:=by omega
  have hs:n<=p.size:=by rw [a3.size]; exact a2
  rw [yK (by simpa using e)]
  by_cases h1:n > 1
  ·rw [yN h1]
   refine ⟨a3.lt a2 (k:=0) (by omega),a3.lt a2 (k:=n-1) (by omega),?_⟩
   show Ok lt N (if lt (g p 0) (g p (n-1))=true then KasT.ret (n,p) else kas_descPart n N (kas_rev p 0 n))
   cases c:lt (g p 0) (g p (n-1)) with
   | true=>rw [yN rfl]; trivial
   | false =>
    rw [yK (by decide)]
    refine zfd o hn (De.next o (a3.mirror (yH _) a2) hn a1 (fun i j hij hj=>?_) fun i hi=>?_)
    ·rw [zaL hs,zaL hs,yN ⟨by omega,hj⟩,yN ⟨by omega,by omega⟩]
     exact a4 _ _ (by omega) (by omega)
    ·rw [zaL hs,zaL hs,yK (show ¬ (0<=n/\n<n) by omega),yN ⟨by omega,hi⟩]
     refine zk6 o (a5 hn) ?_; generalize hk:0+n-1-i=k
     have hkn:k<n:=by omega
     by_cases k0:k=0
     ·subst k0; exact c
     ·exact o.tr _ _ _ c (L.le o (a4 0 k (by omega) hkn))
  ·rw [yK h1]
   have e1:n=1:=by omega
   subst e1
   exact zfd o hn (De.next o a3 hn (yH _) (fun i j h1 h2=>by omega) fun i hi=>by
    have e0:i=0:=by omega
    subst e0; exact a5 hn)
theorem zgj {p:Array Nat} {N k:Nat} (b:B p N k) (hk:k<N):∀ (f l r:Nat),r<=k->Ok lt N (kas_place p k f l r)
 | 0,_,_,_=>trivial
 | f+1,l,r,h=>by
  show Ok lt N (if l >= r then KasT.ret l else KasT.ask (p.getD k 0) (p.getD ((l+r) / 2) 0) fun c=>if c=true then kas_place p k f l ((l+r) / 2) else kas_place p k f ((l+r) / 2+1) r)
  by_cases hlr:l >= r
  ·rw [yN hlr]; trivial
  ·rw [yK hlr]
   refine ⟨b.lt (by omega) (k:=k) hk,b.lt (by omega) (k:=(l+r) / 2) (by omega),?_⟩
   show Ok lt N (if lt (g p k) (g p ((l+r) / 2))=true then kas_place p k f l ((l+r) / 2) else kas_place p k f ((l+r) / 2+1) r)
   split
   ·exact zgj b hk f _ _ (by omega)
   ·exact zgj b hk f _ _ h
theorem znX {N:Nat}:∀ (f:Nat) (p:Array Nat) (k:Nat),k+f=N->B p N k->Srt lt p k->Ok lt N (kas_bin f p k)
 | 0,_,_,_,_,_=>trivial
 | f+1,p,k,h,b,s=>by
  refine Ok.bind (zgj o b (by omega) k 0 k (yH _)) ?_
  obtain ⟨a1,a2,a3⟩:=zmB o s k 0 k (by omega) (yb _) (yH _) (fun i hi=>yQ hi (Nat.not_lt_zero _)) fun i h1 h2=>yQ h1 (by omega)
  obtain ⟨b',s'⟩:=ins o b (by omega) s a1 a2 a3
  exact znX f _ (k+1) (by omega) b' s'
theorem ok_sort {N:Nat} (hN:1<=N):Ok lt N (kas_sort N):=by
 unfold kas_sort
 have g0:∀ k,k<N->g (List.toArray (List.range N)) k=k:=fun k hk=>by
  rw [g_eq]; simp [hk]
 have b0:B (List.toArray (List.range N)) N 1:=⟨by simp,fun k hk=>by rw [g0 k (by omega)]; exact hk,fun k h1 h2=>g0 k h2⟩
 refine Ok.bind (zmU o hN b0) ?_; obtain ⟨m,p',e,h1,h2,b,s⟩:=count o hN b0; rw [e]
 show Ok lt N (if m<N then kas_bin (N-max m 1) p' (max m 1) else KasT.ret p')
 split
 ·rw [Nat.max_eq_left h1]
  exact znX o _ _ _ (by omega) b s
 ·trivial
end
theorem wp_of {lt:Nat->Nat->Bool} {N:Nat} {J:Shared->Prop} {cmp:Nat->Nat->(Bool->Shared->Prop)->Shared->Prop} (hc:∀ i j C s,i<N->j<N->J s->(∀ s',J s'->C (lt i j) s')->cmp i j C s) {α:Type} {Q:α->Shared->Prop} :
  ∀ (t:KasT α) (s:Shared),Ok lt N t->J s->(∀ s',J s'->Q (run lt t) s')->t.kasWp cmp Q s
 | .ret _,s,_,hj,h=>h s hj
 | .ask i j k,s,⟨h1,h2,h3⟩,hj,h=>hc i j _ s h1 h2 hj fun s' hj'=>wp_of hc (k (lt i j)) s' h3 hj' h
section
variable {prog:Program} {w:World} {A:Around} {E:Value->Shared->Prop} {s:Shared} {a kS:Addr} {vs ks:List Value} {κ:SortKind}
def Fin3 (a kS:Addr) (ks:List Value) (e e1:Nat) (out:List Value) (C:Shared->Prop) (s:Shared):Prop :=
 s.heap.get? kS=some (seqObj "list" ks.toArray e)/\s.heap.get? a=some (seqObj "list" #[] e1) /\
  ∀ h' c c2,(∀ b o,b≠kS->b≠a->s.heap.get? b=some o->h'.get? b=some o)->h'.objs.size=s.heap.objs.size->h'.get? kS=some (seqObj "list" #[] c)->h'.get? a=some (seqObj "list" out.toArray c2)->C { s with heap:=h' }
theorem Fin3.mono {e e1:Nat} {out:List Value} {C C':Shared->Prop} (h:Fin3 a kS ks e e1 out C s) (hc:∀ s,C s->C' s):Fin3 a kS ks e e1 out C' s :=
 ⟨h.1,h.2.1,fun h' c c2 k z x y=>hc _ (h.2.2 h' c c2 k z x y)⟩
theorem ziA {st:SortSt} {e e1:Nat} {out:List Value} {P:PySem.Fin->Shared->Prop} (ne:kS≠a) (hout:(arrOf st).map (·.2)=List.toArray out) (hz:out.length<64) (hkz:ks.length<64) (hf:failedOf st=none)
  (h:Fin3 a kS ks e e1 out (fun s'=>P (.done (.ret .none)) s') s):wpAny (model prog w) A (ksk_tail a false e1 (.ref kS) st) P E s:=by
 obtain ⟨hk,ha,k⟩:=h
 have s1:=Heap.SameBut.update s.heap kS (Obj.mapSeq fun _=>(#[]:Array Value))
 obtain ⟨ck,hck⟩:∃ ck,(s.heap.update kS (Obj.mapSeq fun _=>(#[]:Array Value))).get? kS=some (seqObj "list" #[] ck):=⟨_,get?_update_seq hk fun _=>#[]⟩
 have ha1:(s.heap.update kS (Obj.mapSeq fun _=>(#[]:Array Value))).get? a=some (seqObj "list" #[] e1):=(s1.2 a (Ne.symm ne)).trans ha
 have s2:=Heap.SameBut.update (s.heap.update kS (Obj.mapSeq fun _=>(#[]:Array Value))) a (Obj.mapSeq fun _=>List.toArray out)
 obtain ⟨c2,hc2⟩:∃ c2,((s.heap.update kS (Obj.mapSeq fun _=>(#[]:Array Value))).update a (Obj.mapSeq fun _=>List.toArray out)).get? a=some (seqObj "list" (List.toArray out) c2):=⟨_,get?_update_seq ha1 fun _=>List.toArray out⟩
 unfold ksk_tail
 try dsimp only
 rw [hout]
 refine yA (listUpdate_at hk rfl ?_ (by rw [yL,sizeLine_eq]; omega) (yb _))
 refine yA (wpAny_letGo ?_); refine yA (seqEpoch_at ha1 rfl ?_)
 refine yA (listUpdate_at ha1 rfl ?_ (yb _) (by simp only [yn,if_false]; rw [yL,sizeLine_eq]; omega))
 rw [hf]; simp only [bne_self_eq_false,yn,if_false]
 refine yG (k _ ck c2 (fun b o h1 h2 q=>(s2.2 b h2).trans ((s1.2 b h1).trans q)) (by rw [Heap.size_update,Heap.size_update]) ((s2.2 kS ne).trans hck) hc2)
theorem srt_end {e e1:Nat} {P:PySem.Fin->Shared->Prop} (ne:kS≠a) (hl:ks.length=vs.length) (h2:2<=vs.length) (h64:vs.length<64)
  (h:wpAny (model prog w) A (keyKind' (List.toArray ks)) (fun κ s'=>(kas_sort vs.length).kasWp (kas_ask prog w A κ ks) (fun p s''=>Fin3 a kS ks e e1 (p.toList.map fun i=>vs.getD i Value.none) (fun s3=>P (.done (.ret .none)) s3) s'') s') (fun _ _=>False) s) :
  wpAny (model prog w) A (ksk_end a false vs.toArray e1 (.ref kS) (List.toArray ks)) P E s:=by
 have hn2:¬ vs.toArray.size<2:=by rw [yL]; omega
 unfold ksk_end
 try dsimp only
 simp only [yn,if_false]; rw [yK hn2,yK hn2]
 refine yA (YU h (fun κ s0 hk=>?_) fun _ _ x=>x.elim)
 refine yA (YU (kat_run (Q:=fun st' s'=>∃ p:Array Nat,p.size=vs.length/\arrOf st'=p.map (kas_item ((List.toArray ks).zip (List.toArray vs)))/\failedOf st'=none /\
   Fin3 a kS ks e e1 (p.toList.map fun i=>vs.getD i Value.none) (fun s3=>P (.done (.ret .none)) s3) s')
  hl h2 h64 (fun p' st' s' a1 a2 a3 a4=>⟨p',a1,a2,a3,a4⟩) hk) ?_ fun _ _ x=>x)
 rintro ⟨⟨⟩,st'⟩ s' ⟨p,hp,har,hf,fin⟩
 try dsimp only
 exact ziA ne (kat_snds hl har) (by rw [yF,yz,hp]; exact h64) (by omega) hf fin
theorem srt_end1 {e e1:Nat} {P:PySem.Fin->Shared->Prop} (ne:kS≠a) (hl:ks.length=vs.length) (h2:vs.length<2)
  (h:Fin3 a kS ks e e1 vs (fun s3=>P (.done (.ret .none)) s3) s):wpAny (model prog w) A (ksk_end a false vs.toArray e1 (.ref kS) (List.toArray ks)) P E s:=by
 have hn2:vs.toArray.size<2:=by rw [yL]; omega
 unfold ksk_end
 try dsimp only
 simp only [yn,if_false]; rw [yN hn2,yN hn2]; refine yA (yG ?_); refine yA (m:=StateT.run (pure ()) _) (yG ?_)
 try dsimp only
 refine ziA ne ?_ (by omega) (by omega) rfl h
 apply Array.toList_inj.mp
 show (((List.toArray ks).zip (List.toArray vs)).map (·.2)).toList=_
 rw [Array.toList_map,ksk_zip]
 clear h hn2
 cases vs with
 | nil =>
  cases ks with
  | nil=>rfl
  | cons k r=>simp at hl
 | cons v r =>
  cases r with
  | cons v2 r=>exact yQ h2 (by simp)
  | nil =>
   cases ks with
   | nil=>simp at hl
   | cons k r =>
    cases r with
    | nil=>rfl
    | cons k2 r=>simp at hl
theorem ziB {f:Value} {n:Nat} {body:Value->PUnit->Sem (ForInStep PUnit)} (J:List Value->Nat->Shared->Prop) (hn:n<64) (all:List Value) (hall:all.length=n)
  (hb:∀ x ks e (s:Shared) (C:Value->Nat->Shared->Prop),List.length ks<64->wpAny (model prog w) A (call f [x]) (fun k s'=>s'.heap.get? kS=some (seqObj "list" ks.toArray e)/\∀ c,(s'.heap.update kS (Obj.mapSeq (·.push k))).get? kS=some (seqObj "list" (List.toArray (ks ++ [k])) c)->C k c { s' with heap:=s'.heap.update kS (Obj.mapSeq (·.push k)) }) (fun _ _=>False) s ->
   wpAny (model prog w) A (body x ⟨⟩) (fun r s'=>r=.yield ⟨⟩/\∃ k c,C k c s') E s)
  (step:∀ ks e s x,all[ks.length]?=some x->J ks e s->wpAny (model prog w) A (call f [x]) (fun k s'=>s'.heap.get? kS=some (seqObj "list" ks.toArray e)/\∀ c,(s'.heap.update kS (Obj.mapSeq (·.push k))).get? kS=some (seqObj "list" (List.toArray (ks ++ [k])) c)->J (ks ++ [k]) c { s' with heap:=s'.heap.update kS (Obj.mapSeq (·.push k)) }) (fun _ _=>False) s) :
  ∀ (r ks:List Value) (e:Nat) (s:Shared),all.drop ks.length=r->ks.length<=n->J ks e s ->
   wpAny (model prog w) A (forIn r PUnit.unit body) (fun _ s'=>∃ ks e,ks.length=n/\J ks e s') E s
 | [],ks,e,s,hl,hle,h=>by
  rw [List.forIn_nil]
  have:all.length<=ks.length:=List.drop_eq_nil_iff.mp hl
  exact yG ⟨ks,e,by omega,h⟩
 | x :: r,ks,e,s,hl,hle,h=>by
  rw [List.forIn_cons]
  have hx:all[ks.length]?=some x:=by
   have:=yo (fun l=>l[0]?) hl
   simpa using this
  have hlt:ks.length<n:=by rw [<- hall]; exact (yD.mp hx).1
  refine yA (YU (hb x ks e s (fun k c s'=>J (ks ++ [k]) c s') (by omega) (step ks e s x hx h)) (fun q s' hq=>?_) fun _ _ x=>x)
  obtain ⟨rfl,k,c,h2⟩:=hq
  show wpAny (model prog w) A (forIn r PUnit.unit body) _ E s'
  refine ziB J hn all hall hb step r (ks ++ [k]) c s' ?_ (by rw [yY,List.length_singleton]; omega) h2
  rw [yY,List.length_singleton,<- List.drop_drop,hl]; rfl
theorem srt_rest {f:Value} {e1:Nat} {P:PySem.Fin->Shared->Prop} (J:List Value->Nat->Shared->Prop) (h64:vs.length<64) (hJ:∀ ks e s,J ks e s->s.heap.get? kS=some (seqObj "list" ks.toArray e))
  (step:∀ ks e s x,vs[ks.length]?=some x->J ks e s->wpAny (model prog w) A (call f [x]) (fun k s'=>s'.heap.get? kS=some (seqObj "list" ks.toArray e)/\∀ c,(s'.heap.update kS (Obj.mapSeq (·.push k))).get? kS=some (seqObj "list" (List.toArray (ks ++ [k])) c)->J (ks ++ [k]) c { s' with heap:=s'.heap.update kS (Obj.mapSeq (·.push k)) }) (fun _ _=>False) s)
  (fin:∀ ks e s,ks.length=vs.length->J ks e s->wpAny (model prog w) A (ksk_end a false vs.toArray e1 (.ref kS) (List.toArray ks)) P E s) (h0:J [] 0 s) :
  wpAny (model prog w) A (ksk_rest a f false vs.toArray e1 (.ref kS)) P E s:=by
 unfold ksk_rest; refine yA (wpAny_rule ?_)
 first
  | rw [List.forIn_toArray]
  | (rw [<- Array.forIn_toList]; simp only [List.toList_toArray])
  | rw [<- Array.forIn_toList]
 refine yA (YU (ziB (f:=f) (kS:=kS) J h64 vs rfl (fun x ks e s' C hz hx=>?_) step vs [] 0 s rfl (yb _) h0) (fun _ s' hd=>?_) fun _ _ x=>x)
 ·refine yA (Yj (YU hx (fun k s'' hk=>?_) fun _ _ hF=>hF.elim))
  obtain ⟨nk,c⟩:=hk
  have ea:(List.toArray ks).push k=List.toArray (ks ++ [k]):=by simp
  obtain ⟨c2,hc2⟩:∃ c2,(s''.heap.update kS (Obj.mapSeq (·.push k))).get? kS=some (seqObj "list" (List.toArray (ks ++ [k])) c2):=⟨_,by rw [<- ea]; exact get?_update_seq nk (·.push k)⟩
  try dsimp only
  refine yA (listUpdate_at nk rfl ?_ (by rw [yL,sizeLine_eq]; omega) (yt (Nat.le_of_eq (Array.size_push ..)) (by rw [yL,sizeLine_eq]; omega)))
  exact yG ⟨rfl,k,c2,c c2 hc2⟩
 ·obtain ⟨ks,e,hl,fj⟩:=hd
  try dsimp only
  refine yA (listItems_at (hJ _ _ _ fj) rfl ?_); exact fin ks e s' hl fj
theorem srt_tree {f:Value} {n:Nat} {P:PySem.Fin->Shared->Prop} (ho:s.heap.get? a=some (seqObj "list" vs.toArray n)) (h64:vs.length<64)
  (h:∀ e1 h',(∀ b o,b≠a->s.heap.get? b=some o->h'.get? b=some o)->h'.objs.size=s.heap.objs.size+2->h'.get? (s.heap.objs.size+1)=some (seqObj "list" #[] 0)->h'.get? a=some (seqObj "list" #[] e1) ->
   wpAny (model prog w) A (ksk_rest a f false vs.toArray e1 (.ref (s.heap.objs.size+1))) P E { s with heap:=h' }) :
  wpAny (model prog w) A (ksk_tree a f false) P E s:=by
 have ha:a<s.heap.objs.size:=yM ho
 have s1:=Heap.SameBut.update s.heap a (Obj.mapSeq fun _=>(#[]:Array Value))
 obtain ⟨e1,ho1⟩:∃ e1,(s.heap.update a (Obj.mapSeq fun _=>(#[]:Array Value))).get? a=some (seqObj "list" #[] e1):=⟨_,get?_update_seq ho fun _=>#[]⟩
 have hkS:((s.heap.update a (Obj.mapSeq fun _=>(#[]:Array Value))).push (seqObj "tuple" vs.toArray 0)).objs.size=s.heap.objs.size+1:=by rw [size_push',Heap.size_update]
 unfold ksk_tree; refine yA (listItems_at ho rfl ?_)
 refine yA (listUpdate_at ho rfl ?_ (by rw [yL,sizeLine_eq]; omega) (yb _))
 refine yA (seqEpoch_at ho1 rfl ?_)
 refine yA (wpAny_newTuple ?_ (by show vs.length<=_; rw [sizeLine_eq]; omega))
 refine yA (wpAny_newList ?_ (yb _)); refine YH ?_
 have h':=h e1 (((s.heap.update a (Obj.mapSeq fun _=>(#[]:Array Value))).push (seqObj "tuple" vs.toArray 0)).push (seqObj "list" #[] 0)) (fun b o hb q=>yC _ (yC _ ((s1.2 b hb).trans q)))
  (by rw [size_push',hkS]) (by rw [<- hkS]; exact yI _ rfl) (yC _ (yC _ ho1))
 rw [<- hkS] at h'; exact h'
end
end So
namespace L2
open PySem PySem.Spec PyProof.Rows PySem.W
section
variable {X:Cx} {pins:List (Addr × Obj)} {σ:St} {H:Hp} {s:Shared} {h':Heap}
theorem Inv.turnedOwn {t':Nat} {ch:List Addr} {p:Addr} {o:HO} (I:Inv X pins σ H s) (hch:∀ b ∈ ch,zgD X pins H b) (hp:p ∈ ch) (k:∀ b u,b ∉ ch->s.heap.get? b=some u->h'.get? b=some u) (new:zbG X.prog X.w (upd H p o) h' p o) :
  Inv X pins σ (upd H p o) { s with heap:=h',toks:=t' }:=by
 have fr:H p=none:=(hch p hp).1
 have sm:∀ b u,H b=some u->upd H p o b=some u:=fun b u e=>by rw [zr (zX e fr)]; exact e
 have nch:∀ b u,H b=some u->b ∉ ch:=fun b u e z=>by rw [(hch b z).1] at e; cases e
 refine I.step (g':=s.gens) (d':=s.drawn) (ch:=ch) (fun b hb=>?_) (fun b u _ _ hc e _=>k b u hc e) (fun b u _ _ hc e _=>⟨u.slots,k b u hc e⟩) (fun b u hc e n=>?_) (fun b u hc e=>⟨u,k b u hc e⟩) (fun b xs e=>sm _ _ e) (fun b ob u e=>sm _ _ e) (fun b ps e=>⟨#[],by rw [sm _ _ e]; simp⟩) (fun m hm=>?_) (fun b u e=>?_) I.bare
 ·obtain ⟨_,y1,_,y3,y4,y5⟩:=hch b hb
  exact ⟨y3,y1,y4,y5⟩
 ·rw [zr (fun z=>hc (by rw [z]; exact hp))]
  exact n
 ·obtain ⟨ob,es,ep,ho,r⟩:=hm
  exact ⟨ob,es,ep,k _ ob (fun z=>(hch _ z).2.1 rfl) ho,r⟩
 ·by_cases z:b=p
  ·subst z
   rw [zo] at e; cases e; exact new
  ·rw [zr z] at e
   refine (I.hok b u e).stay (fun c v hc q=>k c v ?_ q) (fun c q=>sm _ _ q) fun c xs q=>sm _ _ q
   rcases hc with rfl | hc
   ·exact nch _ u e
   ·exact nch c _ hc
theorem zoH {A':Around} {k:Nat} {f:Addr} {fd:FuncData} {ps:List Str} {sp:Sp} {Q:VK} {us:List Value} {vs:List V} (F:FnOk X.prog X.w X.K X.mg X.base CX0 k f fd ps sp) (hr:Room k A') (hA:Env0 X.prog X.w X.K X.mg X.base A' X.stack s H) (hb:zcb X.K fd ps [])
  (I:Inv X pins σ H s) (r:zaK vs us) (h:sp vs H Q E0):wpAny (model X.prog X.w) A' (call (.ref f) us) (EP X pins σ Q) (fun _ _=>False) s:=by
 have hl:(us ++ []).length=ps.length:=by rw [ym,<- r.length]; exact F.len _ _ _ _ h
 have hb':=hb s us I.kIn hl; rw [ym] at hb'
 refine wpAny_call (codeAny_mono (F.run A' X.stack s H ⟨us,[]⟩ us vs Q E0 hr hA hb' r h) fun r s' hq=>?_)
 cases r with
 | error e=>exact hq.elim
 | ok fl =>
  cases fl with
  | ret u=>exact I.after hq
  | next=>exact False.elim hq
  | brk=>exact False.elim hq
  | cont=>exact False.elim hq
def zor (sp:Sp) (Fin:List V->Hp->Prop):List V->List V->Hp->Prop
 | [],ks,H=>Fin ks H
 | v :: r,ks,H=>sp [v] H (fun k H'=>zor sp Fin r (ks ++ [k]) H') E0
def zhM (X:Cx) (ks:List V) (H:Hp) (lt:Nat->Nat->Bool):Prop:=∀ (A':Around) (pins:List (Addr × Obj)) (σ:St) (s:Shared) (kss:List Value),Inv X pins σ H s->zaK ks kss->2<=ks.length ->
 wpAny (model X.prog X.w) A' (keyKind' kss.toArray) (fun κ s'=>Inv X pins σ H s'/\∀ (i j:Nat) (C:Bool->Shared->Prop) s'',i<ks.length->j<ks.length->Inv X pins σ H s''->(∀ s3,Inv X pins σ H s3->C (lt i j) s3)->kas_ask X.prog X.w A' κ kss i j C s'') (fun _ _=>False) s
def zeq (lt:Nat->Nat->Bool) (xs:List V):List V:=if xs.length<2 then xs else (So.run lt (kas_sort xs.length)).toList.map fun i=>xs.getD i .non
theorem zhn {xs:List V} {us:List Value} (r:zaK xs us) (i:Nat) (hi:i<xs.length):zaV (xs.getD i .non) (us.getD i Value.none):=by
 have hl:=r.length; obtain ⟨u,hu,ru⟩:=r.get (yB hi); simp only [List.getD,yB hi,Option.getD_some]; rw [hu]; exact ru
theorem ziv {xs:List V} {us:List Value} (r:zaK xs us):∀ (l:List Nat),(∀ i,i ∈ l->i<xs.length)->zaK (l.map fun i=>xs.getD i .non) (l.map fun i=>us.getD i Value.none)
 | [],_=>.nil
 | i :: l,h=>.cons (zhn r i (h i (by simp))) (ziv r l fun j hj=>h j (by simp [hj]))
theorem zd3 {lt:Nat->Nat->Bool} (o:So.Ord lt) {n:Nat} (hn:1<=n):((So.run lt (kas_sort n)).toList.length=n)/\∀ i,i ∈ (So.run lt (kas_sort n)).toList->i<n:=by
 obtain ⟨b,_⟩:=So.sort o hn
 refine ⟨by rw [yz]; exact b.size,fun i hi=>?_⟩
 obtain ⟨k,hk,e⟩:=yp hi
 have hk':k<(So.run lt (kas_sort n)).size:=by simpa using hk
 have:=b.low k (by rw [b.size] at hk'; exact hk')
 rw [So.g_eq] at this; simp only [Array.getElem_toList] at e; rw [YC hk',e] at this; exact this
theorem zeL {f:Addr} {sp:Sp} {l:Addr} {xs:List V} {Q:VK} {E':Value->Shared->Prop}
  (hrun:∀ (pins':List (Addr × Obj)) (H':Hp) (s':Shared) (x:V) (u:Value) (Q':VK),Inv X pins' σ H' s'->zaV x u->sp [x] H' Q' E0->wpAny (model X.prog X.w) X.A.in1.in1 (call (.ref f) [u]) (EP X pins' σ Q') (fun _ _=>False) s')
  (I:Inv X pins σ H s) (hl:SqL X.K H l xs) (h64:xs.length<64)
  (h:zor sp (fun ks H'=>∃ lt,So.Ord lt/\zhM X ks H' lt/\∀ p,H' p=none->Q (.ref p) (upd H' p (.lst (zeq lt xs)))) xs [] H) :
  wpAny (model X.prog X.w) X.A (call (.builtin "sorted") [.ref l] [(Str.ofString "key",.ref f)]) (EP X pins σ Q) E' s:=by
 obtain ⟨vs,rv,pl,hz⟩:=I.list hl; have hlen:=rv.length
 have h64':vs.length<64:=by omega
 refine call_function_entry_kw kind_sorted plain_sorted entry_sorted (ksk_s1 _ _) ?_
 unfold Builtin.«sorted»
 refine yA (m:=checkCount "sorted" 1 1 _) (yG ?_)
 refine yA (collect_list (zgg pl) ?_ (by rw [sizeLine_eq]; omega))
 refine yA (wpAny_newList ?_ (by rw [sizeLine_eq]; omega))
 have hsz:((s.heap.push (seqObj "list" #[] 0)).update s.heap.objs.size (Obj.mapSeq (· ++ vs.toArray))).objs.size=s.heap.objs.size+1:=by
  rw [Heap.size_update,size_push']
 have hoL:(((s.heap.push (seqObj "list" #[] 0)).update s.heap.objs.size (Obj.mapSeq (· ++ vs.toArray))).push (seqObj "list" vs.toArray 0)).get? (s.heap.objs.size+1)=some (seqObj "list" vs.toArray 0):=by
  rw [<- hsz]; exact yI _ rfl
 have hsz2:(((s.heap.push (seqObj "list" #[] 0)).update s.heap.objs.size (Obj.mapSeq (· ++ vs.toArray))).push (seqObj "list" vs.toArray 0)).objs.size=s.heap.objs.size+2:=by rw [size_push',hsz]
 have keep:∀ b o,s.heap.get? b=some o->(((s.heap.push (seqObj "list" #[] 0)).update s.heap.objs.size (Obj.mapSeq (· ++ vs.toArray))).push (seqObj "list" vs.toArray 0)).get? b=some o:=fun b o q=>by
  have hlt:b<s.heap.objs.size:=yM q
  rw [Heap.get?_push_ne _ _ _ (by rw [hsz]; exact yU (Nat.lt_succ_of_lt hlt)),Heap.get?_update_ne _ _ _ _ (yU hlt),Heap.get?_push_ne _ _ _ (yU hlt)]
  exact q
 show wpAny _ _ _ _ _ { s with heap:=((s.heap.push (seqObj "list" #[] 0)).update s.heap.objs.size (Obj.mapSeq (· ++ vs.toArray))).push (seqObj "list" vs.toArray 0) }
 rw [hsz]; refine yA (YH (wpAny_call_entry_kw slot_list_sort ⟨_,hoL,rfl⟩ entry_list_sort ?body (ksk_l1 _ _)))
 case body =>
  show wpAny (model X.prog X.w) X.A.in1.in1 (Builtin.«list.sort» ⟨[.ref (s.heap.objs.size+1)],[(Str.ofString "key",.ref f)]⟩) _ _ _
  rw [ksk_t1]
  refine So.srt_tree (s:={ s with heap:=((s.heap.push (seqObj "list" #[] 0)).update s.heap.objs.size (Obj.mapSeq (· ++ vs.toArray))).push (seqObj "list" vs.toArray 0) }) hoL h64' fun e1 h' keep' size' hk0 ha0=>?_
  dsimp only at keep' size' hk0
  rw [hsz2] at size' hk0
  have hDk:s.heap.objs.size+2+1≠s.heap.objs.size+1:=by omega
  have hD0:s.heap.objs.size<=s.heap.objs.size+1:=by omega
  have hK0:s.heap.objs.size<=s.heap.objs.size+2+1:=by omega
  have fD:=I.fpOk (H':=H) hD0 (I.hok.fresh hD0); have fK:=I.fpOk (H':=H) hK0 (I.hok.fresh hK0); rw [hsz2]; generalize hkS:s.heap.objs.size+2+1=kS at hk0 hDk fK; generalize hDD:s.heap.objs.size+1=D at ha0 hDk fD
  have I0:Inv X pins σ H { s with heap:=h' }:=I.kept (t':=s.toks) fun b u q=>keep' b u (fun z=>yQ (yM q) (by rw [z]; exact Nat.not_lt.mpr (Nat.le_succ _))) (keep b u q)
  have pin2:∀ {H':Hp} {s':Shared} {ks:List Value} {e:Nat},Inv X pins σ H' s'->s'.heap.get? kS=some (seqObj "list" ks.toArray e)->s'.heap.get? D=some (seqObj "list" #[] e1)->H' kS=none->H' D=none->Inv X ((kS,seqObj "list" ks.toArray e) :: (D,seqObj "list" #[] e1) :: pins) σ H' s':=fun I' g1 g2 n1 n2 =>
   I'.pins_of fun p hp=>by
    rcases yO.mp hp with rfl | hp
    ·exact ⟨g1,n1,fK.2.1,fK.2.2.1,fun v z=>by cases z⟩
    ·rcases yO.mp hp with rfl | hp
     ·exact ⟨g2,n2,fD.2.1,fD.2.2.1,fun v z=>by cases z⟩
     ·exact I'.pin p (yc _ hp)
  have unpin:∀ {H':Hp} {s':Shared} {ks:List Value} {e:Nat},Inv X ((kS,seqObj "list" ks.toArray e) :: (D,seqObj "list" #[] e1) :: pins) σ H' s'->Inv X pins σ H' s'/\(s'.heap.get? kS=some (seqObj "list" ks.toArray e)/\H' kS=none)/\(s'.heap.get? D=some (seqObj "list" #[] e1)/\H' D=none):=fun I'=>by
   have p1:=I'.pin (kS,_) (yc _ (.head _)); have p2:=I'.pin (D,_) (yc _ (.tail _ (.head _)))
   exact ⟨I'.pins_of fun p hp=>I'.pin p (yc _ (.tail _ (.tail _ hp))),⟨p1.1,p1.2.1⟩,⟨p2.1,p2.2.1⟩⟩
  have fin3:∀ {H':Hp} {s':Shared} {ks:List Value} {e:Nat} {ys:List V} {out:List Value},Inv X ((kS,seqObj "list" ks.toArray e) :: (D,seqObj "list" #[] e1) :: pins) σ H' s'->zaK ys out->ys.length<64->(∀ p,H' p=none->Q (.ref p) (upd H' p (.lst ys)))->So.Fin3 D kS ks e e1 out (EP X pins σ Q (.ref D)) s':=fun {H' s' ks e ys out} I' r hy hq=>by
   obtain ⟨I2,⟨g1,n1⟩,⟨g2,n2⟩⟩:=unpin I'
   refine ⟨g1,g2,fun h2 c c2 kp sz q1 q2=>⟨.ref D,upd H' D (.lst ys),?_,rfl,hq D n2⟩⟩
   refine I2.turnedOwn (t':=s'.toks) (ch:=[kS,D]) (fun b hb=>?_) (by simp) (fun b u hb e=>kp b u (fun z=>hb (by simp [z])) (fun z=>hb (by simp [z])) e) ⟨by rw [sizeLine_eq]; omega,out,c2,r,q2⟩
   simp at hb
   rcases hb with rfl | rfl
   ·exact ⟨n1,fK.2⟩
   ·exact ⟨n2,fD.2⟩
  refine So.srt_rest (J:=fun ks e s'=>∃ (kv:List V) (H':Hp),zaK kv ks/\Inv X ((kS,seqObj "list" ks.toArray e) :: (D,seqObj "list" #[] e1) :: pins) σ H' s'/\zor sp (fun ks H'=>∃ lt,So.Ord lt/\zhM X ks H' lt/\∀ p,H' p=none->Q (.ref p) (upd H' p (.lst (zeq lt xs)))) (xs.drop ks.length) kv H') h64' ?_ ?_ ?_ ?_
  ·rintro ks e s' ⟨kv,H',_,I',_⟩
   exact (unpin I').2.1.1
  ·rintro ks e s' x hx ⟨kv,H',rk,I',hk⟩
   have hlt:ks.length<xs.length:=by rw [hlen]; exact (yD.mp hx).1
   obtain ⟨x',hx',rx⟩:=rv.get (yB hlt); rw [hx] at hx'; cases hx'; rw [YS hlt] at hk
   refine YU (hrun _ _ _ _ _ _ I' rx hk) (fun kk s3 he=>?_) fun _ _ z=>z
   obtain ⟨v,H3,I3,r3,hk3⟩:=he
   obtain ⟨I4,⟨g1,n1⟩,⟨g2,n2⟩⟩:=unpin I3
   refine ⟨g1,fun c hc=>⟨kv ++ [v],H3,rk.append (.cons r3 .nil),?_,?_⟩⟩
   ·have sb:=Heap.SameBut.update s3.heap kS (Obj.mapSeq (·.push kk))
    have I5:Inv X pins σ H3 { s3 with heap:=s3.heap.update kS (Obj.mapSeq (·.push kk)) }:=I4.turned (t':=s3.toks) (it:=kS) (fun b o hb e=>(sb.2 b hb).trans e) n1 fK.2.1 fK.2.2.2.1 fK.2.2.2.2.1 fK.2.2.2.2.2
    exact pin2 I5 hc ((sb.2 D (fun z=>hDk z.symm)).trans g2) n1 n2
   ·rw [yY,List.length_singleton]
    exact hk3
  ·rintro ks e s' hkl ⟨kv,H',rk,I',hk⟩
   have hkl2:kv.length=xs.length:=by rw [rk.length,hkl,hlen]
   rw [show xs.drop ks.length=[] from YM (by omega)] at hk
   obtain ⟨lt,od,cmp,hq⟩:=hk
   by_cases hn:vs.length<2
   ·refine So.srt_end1 hDk hkl hn ((fin3 (ys:=zeq lt xs) I' ?_ ?_ hq).mono fun s4 hq=>⟨_,rfl,yG ⟨_,rfl,hq⟩⟩)
    ·unfold zeq
     rw [yN (by omega)]
     exact rv
    ·unfold zeq
     rw [yN (by omega)]
     exact h64
   ·have hN:1<=vs.length:=by omega
    have hsm:=zd3 od hN
    refine So.srt_end (e:=e) hDk hkl (by omega) h64' (YU (cmp X.A.in1.in1 _ σ s' ks I' rk (by omega)) (fun κ s3 hc=>?_) fun _ _ z=>z)
    obtain ⟨I3,hc⟩:=hc
    refine So.wp_of (lt:=lt) (N:=vs.length) (J:=fun s=>Inv X ((kS,seqObj "list" ks.toArray e) :: (D,seqObj "list" #[] e1) :: pins) σ H' s) (fun i j C s4 hi hj I4 hC=>hc i j C s4 (by omega) (by omega) I4 hC) (kas_sort vs.length) s3 (So.ok_sort od hN) I3 fun s4 I4=>?_
    refine (fin3 (ys:=zeq lt xs) I4 ?_ ?_ hq).mono fun s4 hq=>⟨_,rfl,yG ⟨_,rfl,hq⟩⟩
    ·unfold zeq
     rw [yK (by omega),hlen]
     exact ziv rv _ fun i hi=>by rw [hlen]; exact hsm.2 i hi
    ·unfold zeq
     rw [yK (by omega),yF,hlen,hsm.1]
     exact h64'
  ·exact ⟨[],H,.nil,pin2 I0 hk0 ha0 fK.1 fD.1,h⟩
theorem zhC {k:Nat} {f:Addr} {fd:FuncData} {ps:List Str} {sp:Sp} {l:Addr} {xs:List V} {Q:VK} {E':Value->Shared->Prop} (F:FnOk X.prog X.w X.K X.mg X.base CX0 k f fd ps sp) (hr:Room (k+2) X.A) (hb:zcb X.K fd ps []) (I:Inv X pins σ H s) (hl:SqL X.K H l xs) (h64:xs.length<64)
  (h:zor sp (fun ks H'=>∃ lt,So.Ord lt/\zhM X ks H' lt/\∀ p,H' p=none->Q (.ref p) (upd H' p (.lst (zeq lt xs)))) xs [] H) :
  wpAny (model X.prog X.w) X.A (call (.builtin "sorted") [.ref l] [(Str.ofString "key",.ref f)]) (EP X pins σ Q) E' s :=
 zeL (fun _ _ _ _ _ _ I' rx hk=>zoH F hr.in1.in1 I'.env0.in1.in1 hb I' (.cons rx .nil) hk) I hl h64 h
end
section
variable {X:Cx}
def ltI (is:List Int):Nat->Nat->Bool:=fun i j=>decide (is.getD i 0<is.getD j 0)
theorem zmS (is:List Int):So.Ord (ltI is):=⟨fun a b h=>by
  unfold ltI at h ⊢
  simp at h ⊢
  omega,fun a b c h1 h2=>by
  unfold ltI at h1 h2 ⊢
  simp at h1 h2 ⊢
  omega⟩
theorem ziT:∀ {is:List Int} {us:List Value},zaK (is.map V.int) us->IntsAre us is
 | [],_,.nil=>.nil
 | i :: is,_,.cons r t=>by
  obtain ⟨tk,rfl⟩:=r; exact .cons i tk (ziT t)
theorem zui (is:List Int) {H:Hp}:zhM X (is.map V.int) H (ltI is):=by
 intro A' pins σ s kss I r h2; rw [yF] at h2; have hi:=ziT r
 have hl:kss.length=is.length:=by have:=r.length; simpa using this.symm
 rw [ksk_kind (keys:=kss.toArray) (kz:=is) (by simpa using hi) (by rw [yL]; omega)]
 refine yG ⟨I,fun i j C s'' h1 h2 I2 hC=>?_⟩
 rw [yF] at h1 h2; unfold kas_ask
 have g:∀ i,i<is.length->∃ t,kss.getD i Value.none=.int (is.getD i 0) t:=fun i h=>by
  have:=zhn r i (by rw [yF]; exact h)
  rw [show (is.map V.int).getD i .non=V.int (is.getD i 0) by simp [List.getD,yE,yB h]] at this
  exact this
 obtain ⟨t1,e1⟩:=g i h1; obtain ⟨t2,e2⟩:=g j h2; rw [e1,e2]; exact kat_lt_int (hC _ I2)
def ltP (ps:List (Int × List Nat)):Nat->Nat->Bool:=fun i j=>decide ((ps.getD i (0,[])).1<(ps.getD j (0,[])).1\/((ps.getD i (0,[])).1=(ps.getD j (0,[])).1/\(ps.getD i (0,[])).2<(ps.getD j (0,[])).2))
theorem ztA (ps:List (Int × List Nat)):So.Ord (ltP ps):=⟨fun a b h=>by
  unfold ltP at h ⊢
  simp only [YX,Yn] at h ⊢; generalize ps.getD a (0,[])=x at h ⊢; generalize ps.getD b (0,[])=y at h ⊢
  rintro (h' | ⟨h',h''⟩)
  ·rcases h with h | ⟨h,_⟩ <;> omega
  ·rcases h with h | ⟨_,h⟩
   ·omega
   ·exact List.lt_irrefl _ (List.lt_trans h h''),fun a b c h1 h2=>by
  unfold ltP at h1 h2 ⊢
  simp only [Yn,not_or,not_and] at h1 h2 ⊢; generalize ps.getD a (0,[])=x at h1 h2 ⊢; generalize ps.getD b (0,[])=y at h1 h2 ⊢; generalize ps.getD c (0,[])=z at h1 h2 ⊢
  refine ⟨by omega,fun e=>?_⟩
  have e1:y.1=x.1:=by omega
  have e2:z.1=y.1:=by omega
  have q1:=h1.2 e1; have q2:=h2.2 e2; intro q; rw [List.not_lt] at q1 q2; exact yQ q (List.not_lt.mpr (List.le_trans q1 q2))⟩
def zql (H:Hp):List Addr->List (Int × List Nat)->Prop:=Paired fun a p=>H a=some (.tup [.int p.1,.str (st p.2)])
theorem zii {s:Shared} {pins:List (Addr × Obj)} {σ:St} {H:Hp} (I:Inv X pins σ H s) {a:Addr} {p:Int × List Nat} (h:H a=some (.tup [.int p.1,.str (st p.2)])) :
  ∃ o n t1 t2,s.heap.get? a=some o/\o.cls=.type "tuple"/\o.data=.seq (List.toArray [Value.int p.1 t1,Value.str (st p.2) t2]) n:=by
 obtain ⟨its,r,⟨o,e,c,n,d⟩,_⟩:=I.tuple (SqT.of h)
 obtain ⟨u,w',rfl,r1,r2⟩:=zl9 r; obtain ⟨t1,rfl⟩:=r1; obtain ⟨t2,rfl⟩:=r2; exact ⟨o,n,t1,t2,e,c,d⟩
theorem zrM {s:Shared} {pins:List (Addr × Obj)} {σ:St} {H:Hp} (I:Inv X pins σ H s):∀ {as:List Addr} {ps:List (Int × List Nat)},zql H as ps->∃ fs:List Value,fs.length=as.length/\KatTups s.heap (as.map Value.ref) fs/\∀ v,v ∈ fs->∃ i t,v=Value.int i t
 | [],[],_=>⟨[],rfl,trivial,fun _ z=>by simp at z⟩
 | a :: as,p :: ps,.cons h t=>by
  obtain ⟨fs,hl,kt,hf⟩:=zrM I t; obtain ⟨o,n,t1,t2,e,c,d⟩:=zii I h
  refine ⟨.int p.1 t1 :: fs,by simp [hl],KatTups.cons e c d rfl kt,fun v hv=>?_⟩
  rcases yO.mp hv with rfl | hv
  ·exact ⟨_,_,rfl⟩
  ·exact hf v hv
theorem zga:∀ {as:List Addr} {us:List Value},zaK (as.map V.ref) us->us=as.map Value.ref
 | [],_,.nil=>rfl
 | a :: as,_,.cons r t=>by rw [zga t]; cases r; rfl
theorem zgr {H:Hp}:∀ {as:List Addr} {ps:List (Int × List Nat)} (i:Nat),zql H as ps->i<as.length->H (as.getD i 0)=some (.tup [.int (ps.getD i (0,[])).1,.str (st (ps.getD i (0,[])).2)])
 | _ :: _,_ :: _,0,.cons h _,_=>h
 | _ :: _,_ :: _,i+1,.cons _ t,hi=>by
  have:=zgr i t (by simpa using hi)
  simpa using this
theorem zuh {H:Hp} {as:List Addr} {ps:List (Int × List Nat)} (k:zql H as ps):zhM X (as.map V.ref) H (ltP ps):=by
 intro A' pins σ s kss I r h2; rw [yF] at h2; have e:=zga r; subst e; obtain ⟨fs,hl,kt,hf⟩:=zrM I k
 refine kat_kind (T:=.type "int") kt (by omega) (fun v hv=>?_) rfl ⟨I,fun i j C s'' h1 h2 I2 hC=>?_⟩
 ·obtain ⟨i,t,rfl⟩:=hf v hv
  exact Looks.of_pure rfl
 ·rw [yF] at h1 h2
  unfold kas_ask
  have g:∀ i,i<as.length->(as.map Value.ref).getD i Value.none=.ref (as.getD i 0):=fun i h=>by simp [List.getD,yE,yB h]
  rw [g i h1,g j h2]; obtain ⟨o,n,t1,t2,e1,c1,d1⟩:=zii I2 (zgr i k h1); obtain ⟨o',n',t1',t2',e1',c1',d1'⟩:=zii I2 (zgr j k h2); unfold ltP at hC; generalize ps.getD i (0,[])=p at *; generalize ps.getD j (0,[])=q at *; refine kat_lt e1 d1 e1' d1' ?_; refine kat_cons (wpAny_eqBool_int ?_)
  refine kat_go (fun he=>kat_yes (kat_cons (wpAny_eqBool_str (kat_go (fun he2=>kat_yes (kat_nil ?_)) fun he2=>kat_no ?_)))) fun he=>kat_no ?_
  ·have e1:p.1=q.1:=by simpa using he
   have e2:st p.2=st q.2:=by simpa using he2
   have e3:p.2=q.2:=by rw [<- zaX p.2,e2,zaX]
   have hz:=hC _ I2
   rw [show decide (p.1<q.1\/p.1=q.1/\p.2<q.2)=false by rw [e1,e3]; simp] at hz
   exact hz
  ·have e1:p.1=q.1:=by simpa using he
   have hz:=hC _ I2; refine kat_one _ _ (lt_str ?_)
   show C (decide ((st p.2).cps.toList<(st q.2).cps.toList)) s''
   simp only [zaX]
   rw [show decide (p.1<q.1\/p.1=q.1/\p.2<q.2)=decide (p.2<q.2) by rw [e1]; simp] at hz
   exact hz
  ·have e1:¬ p.1=q.1:=by simpa using he
   have hz:=hC _ I2; refine oneLt_int ?_
   rw [show decide (p.1<q.1\/p.1=q.1/\p.2<q.2)=decide (p.1<q.1) by simp [e1]] at hz
   exact hz
end
end L2
namespace PL
open PySem L2
def zuB (ks:List D) (lt:Nat->Nat->Bool):Prop:=(∃ is:List Int,ks=is.map .int/\lt=ltI is)\/∃ ps:List (Int × List Nat),ks=ps.map (fun p=>.tup [.int p.1,.str p.2])/\lt=ltP ps
def zdJ (lt:Nat->Nat->Bool) (ds:List D):List D:=if ds.length<2 then ds else (So.run lt (W.kas_sort ds.length)).toList.map fun i=>ds.getD i .non
theorem zuB.ord {ks:List D} {lt:Nat->Nat->Bool} (h:zuB ks lt):So.Ord lt:=by
 rcases h with ⟨is,_,rfl⟩ | ⟨ps,_,rfl⟩
 ·exact zmS is
 ·exact ztA ps
theorem zhu {K:W.Frag} {H:Hp}:∀ {vs:List V} {is:List Int},zbv K H vs (is.map .int)->vs=is.map V.int
 | [],[],_=>rfl
 | v :: vs,i :: is,.cons r t=>by rw [r.intI,zhu t]; rfl
 | [],_ :: _,h=>nomatch h
 | _ :: _,[],h=>nomatch h
theorem zht {K:W.Frag} {H:Hp}:∀ {vs:List V} {ps:List (Int × List Nat)},zbv K H vs (ps.map fun p=>.tup [.int p.1,.str p.2])->∃ as:List Addr,vs=as.map V.ref/\zql H as ps
 | [],[],_=>⟨[],rfl,.nil⟩
 | v :: vs,p :: ps,.cons r t=>by
  obtain ⟨as,rfl,k⟩:=zht t; obtain ⟨a,us,rfl,ha,dl⟩:=r.tupJ; obtain ⟨v1,v2,rfl,d1,d2⟩:=znB dl; rw [d1.intI,d2.strI] at ha; exact ⟨a :: as,rfl,.cons ha k⟩
 | [],_ :: _,h=>nomatch h
 | _ :: _,[],h=>nomatch h
theorem zhe {H H':Hp} (e:zaI H H'):∀ {as:List Addr} {ps:List (Int × List Nat)},zql H as ps->zql H' as ps
 | _,_,.nil=>.nil
 | _,_,.cons h t=>.cons (e _ _ h) (zhe e t)
theorem znA {K:W.Frag} {H:Hp} {vs:List V} {ds:List D} (h:zbv K H vs ds) (i:Nat) (hi:i<vs.length):Den K H (vs.getD i .non) (ds.getD i .non):=by
 have hl:=zn h
 have:=paired_get i h (yB hi) (yB (by omega:i<ds.length))
 simpa [List.getD,yB hi,yB (by omega:i<ds.length)] using this
theorem zlA {K:W.Frag} {H:Hp} {vs:List V} {ds:List D} (h:zbv K H vs ds):∀ (l:List Nat),(∀ i,i ∈ l->i<vs.length)->zbv K H (l.map fun i=>vs.getD i .non) (l.map fun i=>ds.getD i .non)
 | [],_=>.nil
 | i :: l,q=>.cons (znA h i (q i (by simp))) (zlA h l fun j hj=>q j (by simp [hj]))
theorem ziF {K:W.Frag} {H:Hp} {lt:Nat->Nat->Bool} (o:So.Ord lt) {vs:List V} {ds:List D} (h:zbv K H vs ds):zbv K H (zeq lt vs) (zdJ lt ds):=by
 have hl:=zn h; unfold zeq zdJ; rw [hl]; split
 ·exact h
 ·rename_i hn
  exact zlA h _ fun i hi=>by rw [hl]; exact (zd3 o (by omega)).2 i hi
section
variable {X:Cx}
def zI (sp:Sp') (t:TA'):TO':=fun Γ Q=>t Γ fun as Γ1=>∃ ds ks lt,as=[.lst ds]/\ds.length<64/\ks.length=ds.length/\(∀ (i:Nat) x k,ds[i]?=some x->ks[i]?=some k->sp [x] fun r=>r=.val k)/\zuB ks lt/\Q (.lst (zdJ lt ds)) Γ1
end
end PL
namespace L2
open PySem PySem.Spec PyProof.Rows
abbrev zfj (qual:Str) (params:Arguments) (body:Expr) (scope:Scope) (pm:Value) (c:Addr) (ctv:Value):Obj:=W.kla_obj "<lambda>" qual params body scope [] pm c ctv
abbrev zdj (cl:List (Str × Addr)) (qual:Str) (params:Arguments) (body:Expr) (scope:Scope) (pm:Value) (c:Addr) (ctv:Value):Obj:=W.kla_obj "<lambda>" qual params body scope cl pm c ctv
abbrev zle (qual:Str) (params:Arguments) (body:Expr) (scope:Scope) (pm:Value) (c:Addr) (ctv:Value):FuncData:=W.kla_fn "<lambda>" qual params body scope [] pm (.ref c) ctv
def zgK (f c:Addr) (fo oc:Obj) (sp:Sp):Sp:=fun vs H Q E=>H f=some (zce (.inr fo))/\H c=some (zce (.inr oc))/\sp vs H Q E
section
variable {P:Program} {w:World} {K:W.Frag} {mg:Str->Option Value} {base:Heap}
theorem zrL {CX:CXT} {k:Nat} {f c:Addr} {qual:Str} {params:Arguments} {body:Expr} {scope:Scope} {pm ctv:Value} {oc:Obj} {vs0:Array Value} {t0:Tok} {N ps:List Str} {sp:Sp}
  (S:FnScope N ps scope) (hd:oc.data=.fields vs0) (hv:vs0[1]?=some (.str qual t0)) (len:∀ vs H Q E,sp vs H Q E->vs.length=ps.length)
  (hbody:∀ (A:Around) (outer:List Env) (s:Shared) (H:Hp) (vs:List V) (Q:VK) (E:XK),Room k (A.deeper (envOfC qual scope s.heap.objs.size f (.ref c)))->sp vs H Q E ->
   ∃ t,PE (zfU CX P w K mg base N qual scope f (.ref c) A outer s H E) body t/\t (start N vs) H Q) :
  FnOk P w K mg base CX (k+1) f (zle qual params body scope pm c ctv) ps (zgK f c (zfj qual params body scope pm c ctv) oc sp):=by
 refine ⟨fun vs H Q E h=>len _ _ _ _ h.2.2,fun A outer s H args us vs Q E hr e0 hb r hsp=>?_⟩
 obtain ⟨hf,hc,hsp⟩:=hsp; have hl:=len _ _ _ _ hsp
 have of:s.heap.get? f=some (zfj qual params body scope pm c ctv):=(e0.hok f _ hf).1
 have oc':s.heap.get? c=some oc:=(e0.hok c _ hc).1
 have lim:s.heap.NoLimit:=e0.mod.nolimit.keeps fun b o e=>(e0.bs b o e).1
 have hkind:∀ y ∈ ps.zip us,scope.names.lookup y.1=some .local\/(scope.names.lookup y.1=some .cell/\((cellsFrom (s.heap.objs.size+1) scope.names []).lookup y.1).isSome=true):=fun ⟨n,v⟩ hy=>by
  rcases S.par n (List.of_mem_zip hy).1 with q | q
  ·exact .inl q
  ·exact .inr ⟨q,W.cellsFrom_some _ _ _ (.inl q)⟩
 refine W.kla_callFunE hr.depth of rfl S.co S.gen rfl ⟨c,oc,vs0,t0,rfl,oc',hd,hv⟩ (hb _ _ _ _ ?_)
 refine wpAny_newFunctionEnv_cells S.kind hkind fun env he s1 x=>?_
 subst he; refine ⟨lim.keeps x.toInCall.keep,W.kla_codeExpr ?_⟩; obtain ⟨t,ht,hq⟩:=hbody A outer s H vs Q E (hr.deeper _) hsp
 have I:Inv (zfU CX P w K mg base N qual scope f (.ref c) A outer s H E) [] (start N vs) H s1:=zhk S hr.hd e0 hl r x
 refine YU (ht [] s1 (start N vs) H _ I hq) (fun u s' hs=>?_) fun e s' hs=>hs
 obtain ⟨v,H',J,rv,q⟩:=hs; exact ⟨v,H',J.os,J.bare,J.base,J.hok,rv,q⟩
end
theorem zjZ {pos:Pos} {c cv:Value} {a b:Int} (l:List Value) (h:TriplesOk l) (e:codeAmong pos (l ++ [rawInt a,rawInt b,c])=some cv):codeAmong pos l=some cv\/cv=c:=by
 fun_induction TriplesOk l with
 | case1 =>
  simp only [List.nil_append,codeAmong,rawInt] at e; split at e
  ·exact .inr (Option.some.inj e).symm
  ·cases e
 | case2 a' t b' u x zd1 ih =>
  simp only [List.cons_append,codeAmong] at e ⊢; split at e
  ·rename_i hc
   rw [yN hc]; exact .inl e
  ·rename_i hc
   rw [yK hc]; exact ih h e
 | case3 l h1 h2=>exact h.elim
theorem zgx {P:Program} {w:World} {H:Hp} {h:Heap} {a:Addr} {o:Obj} (e:h.get? a=some o):zbG P w H h a (zce (.inr o)):=⟨e,trivial,⟨o,e⟩,fun _ _ _ _=>trivial⟩
def NewLam (H H2:Hp) (f c:Addr) (fo oc:Obj):Prop:=∃ H1,(H1=H\/(H c=none/\H1=upd H c (zce (.inr oc))))/\H1 c=some (zce (.inr oc))/\H1 f=none/\H2=upd H1 f (zce (.inr fo))
section
variable {X:Cx} {pins:List (Addr × Obj)} {σ:St} {H:Hp} {s:Shared}
theorem zhd {cl:List (Str × Addr)} {params:Arguments} {body:Expr} {scope:Scope} {lpos:Pos} {c Pt:Addr} {Q:VK} {E':Value->Shared->Prop} (I:Inv X pins σ H s) (hc:X.env.code=.ref c) (hC:W.codeHdIn X.K c Pt=true)
  (hT:X.base.objs[Pt]?=some (zeM (X.env.qual ++ "<lambda>"))) (hdef:defaultsOf params X.env=([],[])) (hcl:closureFor scope X.env=pure cl)
  (q:∀ (f c':Addr) (oc:Obj) (vs:Array Value) (t:Tok) (pm ctv:Value) (H2:Hp),oc.data=.fields vs->vs[1]?=some (.str (X.env.qual ++ "<lambda>") t)->NewLam H H2 f c' (zdj cl (X.env.qual ++ "<lambda>") params body scope pm c' ctv) oc->Q (.ref f) H2) :
  wpAny (model X.prog X.w) X.A (eval (.Lambda params body scope lpos) X.env) (EP X pins σ Q) E' s:=by
 obtain ⟨ps,hP,hq⟩:=I.env0.tab Pt _ hT; obtain ⟨ts,ht1,ht2,ht3⟩:=I.hok Pt _ hP
 have hg:s.heap.Ns mainGlobals X.mg:=I.mod.glob.keeps I.bk
 have C:=W.codeHd_of_K I.kIn hC; obtain ⟨bm,ob,b1,b2,b3,b4,b5,b6⟩:=I.mod.bm; have hbm:=I.bk _ _ b3
 have hgP:mainGlobals≠Pt:=fun z=>by
  obtain ⟨o,es,ep,e,_⟩:=I.mod.glob; have y:=(I.bs _ _ e).2; rw [z,hP] at y; cases y
 have hbP:bm≠Pt:=fun z=>by
  have y:=(I.bs _ _ b3).2; rw [z,hP] at y; cases y
 have hbG:bm≠mainGlobals:=fun z=>by
  obtain ⟨o,es,ep,e,hd,_⟩:=I.mod.glob; rw [<- z,b3] at e; cases e; rw [b6] at hd; cases hd
 refine W.kla_eval hdef ?_
 cases hf:codeAmong lpos ts.toList with
 | none =>
  refine W.kla_makeFunction (mg:=X.mg) hcl I.ok.glob hg hc C ht1 ht2 hf hgP ⟨bm,ob,b1,b2,hbG,hbP,hbm,b4,b5,b6⟩ fun c' ctv h' tk hx hge hlt hrec htb=>?_
  obtain ⟨c2,oc,vs,t,e2,hoc,hd,hv⟩:=hrec; cases e2
  have fr:H c'=none:=I.hok.fresh hge
  have nP:∀ b,H b=none->b≠Pt:=fun b n z=>by rw [z,hP] at n; cases n
  have sm:∀ b u,H b=some u->upd H c' (zce (.inr oc)) b=some u:=fun b u e=>by rw [zr (zX e fr)]; exact e
  have cP:c'≠Pt:=fun z=>by rw [z,hP] at fr; cases fr
  have un:Un X.fs [] H (upd H c' (zce (.inr oc))) s.heap h':=by
   refine ⟨fun b o e n _ _=>hx b o (nP b n) e,fun b o e n _ _=>⟨o.slots,hx b o (nP b n) e⟩,fun b o e n _=>?_,fun b o e _=>?_,fun b xs e=>sm _ _ e,fun b o u e=>sm _ _ e,fun b ps e=>⟨#[],by rw [sm _ _ e]; simp⟩⟩
   ·rw [zr (yU (yZ (yM e) hge))]
    exact n
   ·by_cases z:b=Pt
    ·rw [z]; exact ⟨_,htb⟩
    ·exact ⟨o,hx b o z e⟩
  have hok:HOk X.prog X.w (upd H c' (zce (.inr oc))) h':=fun b u e=>by
   by_cases z:b=c'
   ·subst z
    rw [zo] at e; cases e; exact zgx hoc
   ·rw [zr z] at e
    by_cases y:b=Pt
    ·subst y
     rw [hP] at e; cases e
     refine ⟨_,htb,?_,fun pos cv ee=>?_⟩
     ·rw [Array.toList_append]
      exact TriplesOk_snoc _ _ _ _ ht2
     ·rw [Array.toList_append] at ee
      rcases zjZ _ ht2 ee with y | y
      ·obtain ⟨c3,oc3,vs3,t3,q3,t4,z1,z2,z3⟩:=ht3 pos cv y
       exact ⟨c3,oc3,vs3,t3,q3,t4,z1,sm _ _ z2,z3⟩
      ·exact ⟨c',oc,vs,t,_,_,y,zo,hd,hv,hq⟩
    ·refine (I.hok b u e).stay (fun d v hd r=>hx d v ?_ r) (fun d r=>sm _ _ r) fun d xs r=>sm _ _ r
     rcases hd with rfl | hd
     ·exact y
     ·intro zz
      rw [zz,hP] at hd; cases hd
  have I1:=I.un (t':=tk) un hok
  refine ⟨.ref h'.objs.size,_,I1.laid (a:=h'.objs.size) (o:=zce (.inr (zdj cl (X.env.qual ++ "<lambda>") params body scope ((X.mg "__name__").getD .none) c' ctv))) (t':=tk) (fun b u e=>yC _ e) (yH _) (zgx (yI _ rfl)),rfl,?_⟩
  exact q _ c' oc vs t _ ctv _ hd hv ⟨_,.inr ⟨fr,rfl⟩,zo,hok.fresh (yH _),rfl⟩
 | some cv =>
  obtain ⟨c',oc,vs,t,q',t0,rfl,hc',hd,hv,hq'⟩:=ht3 lpos cv hf; rw [hq] at hq'; cases hq'
  refine W.kla_makeFunctionHit (mg:=X.mg) hcl I.ok.glob hg hc C ht1 ht2 hf ⟨bm,ob,b1,b2,hbG,hbP,hbm,b4,b5,b6⟩ fun ctv h' tk hk hsz=>?_
  have I1:=I.kept (t':=tk) hk
  refine ⟨.ref h'.objs.size,_,I1.laid (a:=h'.objs.size) (o:=zce (.inr (zdj cl (X.env.qual ++ "<lambda>") params body scope ((X.mg "__name__").getD .none) c' ctv))) (t':=tk) (fun b u e=>yC _ e) (yH _) (zgx (yI _ rfl)),rfl,?_⟩
  exact q _ c' oc vs t _ ctv _ hd hv ⟨_,.inl rfl,hc',I1.hok.fresh (yH _),rfl⟩
theorem zna {params:Arguments} {body:Expr} {scope:Scope} {lpos:Pos} {c Pt:Addr} {Q:VK} {E':Value->Shared->Prop} (I:Inv X pins σ H s) (hc:X.env.code=.ref c) (hC:W.codeHdIn X.K c Pt=true)
  (hT:X.base.objs[Pt]?=some (zeM (X.env.qual ++ "<lambda>"))) (hdef:defaultsOf params X.env=([],[])) (hcl:closureFor scope X.env=pure [])
  (q:∀ (f c':Addr) (oc:Obj) (vs:Array Value) (t:Tok) (pm ctv:Value) (H2:Hp),oc.data=.fields vs->vs[1]?=some (.str (X.env.qual ++ "<lambda>") t)->NewLam H H2 f c' (zfj (X.env.qual ++ "<lambda>") params body scope pm c' ctv) oc->Q (.ref f) H2) :
  wpAny (model X.prog X.w) X.A (eval (.Lambda params body scope lpos) X.env) (EP X pins σ Q) E' s :=
 zhd I hc hC hT hdef hcl q
end
section
variable {X:Cx}
def zu7 (qual:Str) (params:Arguments) (body:Expr) (scope:Scope):TE:=fun _ H Q=>∀ (f c:Addr) (oc:Obj) (vs:Array Value) (t:Tok) (pm ctv:Value) (H2:Hp),oc.data=.fields vs->vs[1]?=some (.str qual t)->NewLam H H2 f c (zfj qual params body scope pm c ctv) oc->Q (.ref f) H2
structure LamAt (X:Cx) (qual:Str):Prop where
 ex:∃ c Pt,X.env.code=.ref c/\W.codeHdIn X.K c Pt=true/\X.base.objs[Pt]?=some (zeM qual)
 qu:X.env.qual ++ "<lambda>"=qual
theorem zrg {qual:Str} {params:Arguments} {body:Expr} {scope:Scope} {lpos:Pos} (L:LamAt X qual) (hdef:defaultsOf params X.env=([],[]):=by rfl) (hcl:closureFor scope X.env=pure []:=by rfl):PE X (.Lambda params body scope lpos) (zu7 qual params body scope):=by
 obtain ⟨⟨c,Pt,hc,hC,hT⟩,rfl⟩:=L
 intro pins s σ H Q I h; exact zna I hc hC hT hdef hcl h
theorem NewLam.same {H H2:Hp} {f c:Addr} {fo oc:Obj} (n:NewLam H H2 f c fo oc):zaI H H2:=by
 obtain ⟨H1,h1,_,h3,rfl⟩:=n; intro b u e
 rcases h1 with rfl | ⟨h1,rfl⟩
 ·rw [zr (zX e h3)]; exact e
 ·have e1:upd H c (zce (.inr oc)) b=some u:=by rw [zr (zX e h1)]; exact e
  rw [zr (zX e1 h3)]; exact e1
theorem NewLam.has {H H2:Hp} {f c:Addr} {fo oc:Obj} (n:NewLam H H2 f c fo oc):H2 f=some (zce (.inr fo))/\H2 c=some (zce (.inr oc)):=by
 obtain ⟨H1,h1,h2,h3,rfl⟩:=n
 exact ⟨zo,by rw [zr (zX h2 h3)]; exact h2⟩
def zqq (K:W.Frag) (X:Cx) (sp:Sp) (t:TA):TE:=fun σ H Q=>t σ H fun vs H1=>∃ l xs,vs=[.ref l]/\SqL K H1 l xs/\xs.length<64/\∀ f c fo oc H2,NewLam H1 H2 f c fo oc ->
 zor (zgK f c fo oc sp) (fun ks H'=>∃ lt,So.Ord lt/\zhM X ks H' lt/\∀ p,H' p=none->Q (.ref p) (upd H' p (.lst (zeq lt xs)))) xs [] H2
theorem ziC {K:W.Frag} {H H':Hp} {a:Addr} {vs:List V} (e:zaI H H') (h:SqL K H a vs):SqL K H' a vs:=by
 rcases h with h | h
 ·rcases h with h | ⟨o,h⟩
  ·exact .inl (.inl (e _ _ h))
  ·exact .inl (.inr ⟨o,e _ _ h⟩)
 ·exact .inr h
theorem zmG {k:Nat} {qual:Str} {params:Arguments} {body:Expr} {scope:Scope} {ps:List Str} {sp:Sp} {e:Expr} {t:TA} {p kpos lpos pos:Pos} (L:LamAt X qual)
  (hF:∀ (f c:Addr) (oc:Obj) (vs:Array Value) (t:Tok) (pm ctv:Value),oc.data=.fields vs->vs[1]?=some (.str qual t)->FnOk X.prog X.w X.K X.mg X.base CX0 k f (zle qual params body scope pm c ctv) ps (zgK f c (zfj qual params body scope pm c ctv) oc sp))
  (hb:∀ (pm:Value) (c:Addr) (ctv:Value) (us:List Value),us.length=ps.length->bindArgs (zle qual params body scope pm c ctv) ⟨us,[]⟩=pure (ps.zip us))
  (hr:Room (k+2) X.A) (hm:X.mg "sorted"=none) (ha:PA X [e] t) (hgs:Gl X "sorted":=by rfl)
  (hdef:defaultsOf params X.env=([],[]):=by rfl) (hcl:closureFor scope X.env=pure []:=by rfl)
  (he:backTo pos (starEach [e] X.env)=(false,eval e X.env) :: backTo pos (starEach [] X.env):=by rfl)
  (hplain:(backTo pos (starEach [e] X.env)).any (·.1)=false:=by rfl) :
  PE X (.Call (.Name "sorted" p) [e] [⟨some "key",.Lambda params body scope lpos,kpos⟩] pos) (zqq X.K X sp t):=by
 intro pins s σ H Q I h; refine Yt (zdB I hgs hm boot_sorted ?_)
 refine callWith_kw (thn (ha pos pins s σ H _ I h) fun us s1 ⟨vs,H1,I1,r,q⟩=>?_) he hplain rfl rfl
 obtain ⟨l,xs,rfl,hl,h64,hk⟩:=q; obtain ⟨u,rfl,ru⟩:=zcZ r; cases ru
 refine thn (zkM (nm:=some "key") (kpos:=kpos) (zrg (lpos:=lpos) L hdef hcl) znV pos pins s1 σ H1 (fun zs H2=>∃ (f c:Addr) (oc:Obj) (vs:Array Value) (t:Tok) (pm ctv:Value),zs=[.ref f]/\oc.data=.fields vs/\vs[1]?=some (.str qual t)/\NewLam H1 H2 f c (zfj qual params body scope pm c ctv) oc) I1 ?_) fun ws s2 ⟨zs,H2,I2,rz,f,c,oc,vs,t0,pm,ctv,e1,hd,hv,nl⟩=>?_
 ·intro f c oc vs t0 pm ctv H2 hd hv nl
  exact ⟨f,c,oc,vs,t0,pm,ctv,rfl,hd,hv,nl⟩
 ·subst e1
  obtain ⟨w',rfl,rw'⟩:=zcZ rz; cases rw'; exact zhC (hF f c oc vs t0 pm ctv hd hv) hr (.all (hb pm c ctv)) I2 (ziC nl.same hl) h64 (hk _ _ _ _ _ nl)
end
end L2
namespace PL
open PySem L2
section
variable {P:Program} {w:World} {K:W.Frag} {mg:Str->Option Value} {base:Heap}
theorem zpF {k:Nat} {f c:Addr} {qual:Str} {params:Arguments} {body:Expr} {scope:Scope} {pm ctv:Value} {oc:Obj} {vs0:Array Value} {t0:Tok} {N ps:List Str} {sp:Sp'}
  (S:FnScope N ps scope) (hd:oc.data=.fields vs0) (hv:vs0[1]?=some (.str qual t0)) (len:∀ ds Q,sp ds Q->ds.length=ps.length)
  (hbody:∀ (A:Around) (outer:List Env) (s:Shared) (H:Hp) (E:XK),Room k (A.deeper (PyProof.Rows.envOfC qual scope s.heap.objs.size f (.ref c)))->∀ ds Q,sp ds Q ->
   ∃ t,PE' (zfU CX0 P w K mg base N qual scope f (.ref c) A outer s H E).nox body t/\t (zcp N ds) fun d _=>Q (.val d)) :
  FnOk P w K mg base CX0 (k+1) f (zle qual params body scope pm c ctv) ps (zgK f c (zfj qual params body scope pm c ctv) oc (zhS K sp)):=by
 refine zrL S hd hv (fun vs H Q E h=>?_) fun A outer s H vs Q E hr h=>?_
 ·obtain ⟨Hi,ds,Q',_,dl,h,_⟩:=h
  rw [zn dl]; exact len ds Q' h
 ·obtain ⟨Hi,ds,Q',sb,dl,h,fin⟩:=h
  obtain ⟨t,h1,h2⟩:=hbody A outer s H E hr ds Q' h
  have hpl:ps.length<=N.length:=by have:=yo List.length S.pre; rw [ye] at this; omega
  refine ⟨_,h1.h.nox,⟨H,Hi,[]⟩,Hi,zcp N ds,_,zez (len ds Q' h) hpl sb dl,h2,?_⟩
  rintro v H' ⟨Hi',d,Γ',s1,g1,dv,q⟩
  exact fin Hi' H' v (.val d) ⟨s1,fun b o e=>g1.keep b o e (by simp),g1.fz,fun b o e=>g1.fro b o e⟩ dv q
end
theorem zhg {K:W.Frag} {sp:Sp'} {Fin:List V->Hp->Prop} {Hi1 H1:Hp} {f c:Addr} {fo oc:Obj} (hf:H1 f=some (zce (.inr fo))) (hc:H1 c=some (zce (.inr oc))):∀ (r:List V) (rd kd:List D) (acc:List V) (accD:List D) (Hi H:Hp),Ext Hi1 H1 Hi H->zbv K Hi r rd->kd.length=rd.length->(∀ (i:Nat) x k,rd[i]?=some x->kd[i]?=some k->sp [x] fun r=>r=.val k)->zbv K Hi acc accD ->
  (∀ acc Hi H,Ext Hi1 H1 Hi H->zbv K Hi acc (accD ++ kd)->Fin acc H)->zor (zgK f c fo oc (zhS K sp)) Fin r acc H
 | [],[],kd,acc,accD,Hi,H,ex,_,hl,_,da,fin=>by
  have:kd=[]:=List.length_eq_zero_iff.mp (by simpa using hl)
  subst this
  exact fin acc Hi H ex (by rw [ym]; exact da)
 | v :: r,d :: rd,k :: kd,acc,accD,Hi,H,ex,.cons d1 t,hl,hsp,da,fin=>by
  refine ⟨ex.h _ _ hf,ex.h _ _ hc,Hi,[d],fun r=>r=.val k,ex.fz,.cons d1 .nil,hsp 0 d k rfl rfl,fun Hi' H' v' r' e2 ro hq=>?_⟩
  subst hq
  refine zhg hf hc r rd kd (acc ++ [v']) (accD ++ [k]) Hi' H' (ex.trans e2) (zbv.mono t e2.hi) (by simpa using hl) (fun i x k h1 h2=>hsp (i+1) x k (by simpa using h1) (by simpa using h2)) (zaM (da.mono e2.hi) (.cons ro .nil)) fun acc Hi H e3 da=>?_
  exact fin acc Hi H e3 (by simpa using da)
 | [],_ :: _,_,_,_,_,_,_,h,_,_,_,_=>nomatch h
 | _ :: _,[],_,_,_,_,_,_,h,_,_,_,_=>nomatch h
 | _ :: _,_ :: _,[],_,_,_,_,_,_,hl,_,_,_=>by simp at hl
theorem NewLam.ext {Hi H H2:Hp} {f c:Addr} {fo oc:Obj} (n:NewLam H H2 f c fo oc) (fz:Fz Hi H):Ext Hi H Hi H2:=by
 obtain ⟨H1,h1,h2,h3,rfl⟩:=n
 have e1:Ext Hi H Hi H1:=by
  rcases h1 with rfl | ⟨h1,rfl⟩
  ·exact Ext.refl fz
  ·exact Ext.newO fz h1 _ fun _ z=>nomatch z
 exact e1.trans (Ext.newO e1.fz h3 _ fun _ z=>nomatch z)
section
variable {X:Cx}
theorem zmy {k:Nat} {qual:Str} {params:Arguments} {body:Expr} {scope:Scope} {N ps:List Str} {sp:Sp'} {e:Expr} {t:TA'} {p kpos lpos pos:Pos} (L:LamAt X qual) (S:FnScope N ps scope) (len:∀ ds Q,sp ds Q->ds.length=ps.length)
  (hbody:∀ (f c:Addr) (A:Around) (outer:List Env) (s:Shared) (H:Hp) (E:XK),Room k (A.deeper (PyProof.Rows.envOfC qual scope s.heap.objs.size f (.ref c)))->∀ ds Q,sp ds Q ->
   ∃ t,PE' (zfU CX0 X.prog X.w X.K X.mg X.base N qual scope f (.ref c) A outer s H E).nox body t/\t (zcp N ds) fun d _=>Q (.val d))
  (hb:∀ (pm:Value) (c:Addr) (ctv:Value) (us:List Value),us.length=ps.length->bindArgs (zle qual params body scope pm c ctv) ⟨us,[]⟩=pure (ps.zip us))
  (hr:Room (k+3) X.A) (hm:X.mg "sorted"=none) (ha:PA' X [e] t) (hgs:Gl X "sorted":=by rfl)
  (hdef:defaultsOf params X.env=([],[]):=by rfl) (hcl:closureFor scope X.env=pure []:=by rfl)
  (he:backTo pos (starEach [e] X.env)=(false,eval e X.env) :: backTo pos (starEach [] X.env):=by rfl)
  (hplain:(backTo pos (starEach [e] X.env)).any (·.1)=false:=by rfl) :
  PO' X (.Call (.Name "sorted" p) [e] [⟨some "key",.Lambda params body scope lpos,kpos⟩] pos) (zI sp t):=by
 refine ⟨PE.weak (zmG (k:=k+1) (sp:=zhS X.K sp) L (fun f c oc vs t pm ctv hd hv=>zpF S hd hv len (hbody f c)) hb hr hm ha.pa hgs hdef hcl he hplain) ?_⟩
 rintro σ H Q ⟨W,Hi,Γ,Q',g,h,fin⟩
 refine ⟨W,Hi,Γ,_,g,h,?_⟩
 rintro vs H1 Hi1 Γ1 as s1 g1 dl ⟨ds,ks,lt,rfl,h64,hkl,hsp,hkd,q⟩
 obtain ⟨v,rfl,den⟩:=zdl dl; obtain ⟨l,xs,rfl,hl,dx⟩:=den.lstI
 refine ⟨l,xs,rfl,zy g1.sub hl,by rw [zn dx]; exact h64,fun f c fo oc H2 nl=>?_⟩
 have ex0:=PL.NewLam.ext nl g1.fz
 refine zhg nl.has.1 nl.has.2 xs ds ks [] [] Hi1 H2 (Ext.refl ex0.fz) dx hkl hsp .nil fun acc Hi2 H3 ex da=>?_
 rw [List.nil_append] at da
 refine ⟨lt,hkd.ord,?_,fun p hp=>?_⟩
 ·rcases hkd with ⟨is,rfl,rfl⟩ | ⟨ps,rfl,rfl⟩
  ·rw [zhu da]
   exact zui is
  ·obtain ⟨as,rfl,kt⟩:=zht da
   exact zuh (zhe ex.fz.sub kt)
 ·have g2:=(g1.ext ex0).ext ex
  exact fin p _ Hi2 Γ1 (.lst (zdJ lt ds)) (s1.trans ex.hi) (g2.ext (Ext.newO g2.fz hp _ (fun _ z=>by cases z))) (New.mk' g2 hp ⟨_,zo,ziF hkd.ord (dx.mono ex.hi)⟩) q
end
end PL
namespace L2
open PySem PySem.Spec PyProof.Rows
def zuy (T:List (Addr × Str)) (a:Addr) (H:Hp):Prop:=∀ b u,H b=some u->(b=a/\∃ o xs,u=.frz o (.lst xs))\/∃ q,T.lookup b=some q/\u=.tbl #[.str q 0]
theorem zld {P:Program} {w:World} {K:W.Frag} {mg mb:Str->Option Value} {CX:CXT} {k:Nat} {fa a:Addr} {fd:FuncData} {x:Str} {sp:Sp} {s₁:Shared} {vs:List Value} {ns:List Int} (T:List (Addr × Str))
  (KX:K.In s₁.heap) (hns:s₁.heap.Ns mainGlobals mg) (hb:s₁.heap.Ns builtinsNs mb) (hbb:∀ x:Str,x≠"__name__"->mb x=bootBuiltins x) (hlim:s₁.heap.NoLimit)
  (hbm:∃ bm ob,mg "__builtins__"=some (.ref bm)/\bm≠builtinsNs/\s₁.heap.get? bm=some ob/\ob.cls=.type "module"/\ob.dict=some builtinsNs/\ob.data=.plain) (hg:s₁.gens=#[])
  (ha:s₁.heap.get? a=some { cls:=.type "list",data:=.seq vs.toArray }) (hi:IntsAre vs ns) (hl:ns.length<=sizeLine) (hr:Room k callerA)
  (hT:∀ b q,T.lookup b=some q->s₁.heap.get? b=some (W.tabObj #[])/\(∃ c,W.codeHdIn K c b=true)/\K.lookup b=none)
  (F:∀ base:Heap,K.In base->base.Ns mainGlobals mg->(∀ b q,T.lookup b=some q->base.objs[b]?=some (zeM q))->FnOk P w K mg base CX k fa fd [x] sp) (hbind:∀ (s:Shared) (u:Value),BindsTo s fd ⟨[u],[]⟩ [(x,u)])
  (hsp:∀ H:Hp,SqL K H a (ns.map V.int)->sp [.ref a] H (fun v _=>v=.bl true) fun _ _ _=>False)
  (hCX:∀ H e s',CX [] H s₁ (fun _ _ _=>False) e s'->False) :
  codeAny (model P w) callerA (.call (.ref fa) ⟨[.ref a],[]⟩) (fun r s'=>r=.ok (.ret (.bool true))/\OldK s₁.heap s'.heap/\s'.os=s₁.os/\AllBare s'.gens) s₁:=by
 have rv:=zgF hi; have lenV:=hi.length
 have naT:T.lookup a=none:=by
  cases q:T.lookup a with
  | none=>rfl
  | some z =>
   have e:=(hT a z q).1; rw [ha] at e; cases e
 have core:∀ H:Hp,zuy T a H->(∀ b q,T.lookup b=some q->H b=some (.tbl #[.str q 0]))->SqL K H a (ns.map V.int)->HOk P w H s₁.heap->(H a≠none->K.lookup a=none) ->
   codeAny (model P w) callerA (.call (.ref fa) ⟨[.ref a],[]⟩) (fun r s'=>r=.ok (.ret (.bool true))/\OldK s₁.heap s'.heap/\s'.os=s₁.os/\AllBare s'.gens) s₁:=by
  intro H hO hO2 hS hok hK
  have base_of:∀ {b:Addr} {o:Obj},s₁.heap.get? b=some o->H b=none->(nrm s₁.heap H).get? b=some o:=fun e n=>zpv e n
  have isL:∀ {b:Addr} {u:HO} {o:Obj},H b=some u->s₁.heap.get? b=some o->(∃ its n,o.data=.seq its n)\/o.data=.fields #[]:=fun {b u o} q e=>by
   rcases hO b u q with ⟨rfl,_⟩ | ⟨z,y,_⟩
   ·rw [ha] at e; cases e
    exact .inl ⟨_,_,rfl⟩
   ·rw [(hT b z y).1] at e; cases e
    exact .inr rfl
  have noA:∀ {b:Addr} {o:Obj},s₁.heap.get? b=some o->(∀ its n,o.data≠.seq its n)->o.data≠.fields #[]->H b=none:=fun {b o} e d1 d2=>by
   cases q:H b with
   | none=>rfl
   | some u =>
    rcases isL q e with ⟨its,n,z⟩ | z
    ·exact yQ z (d1 _ _)
    ·exact yQ z d2
  have nsK:∀ {b:Addr} {m:Str->Option Value},s₁.heap.Ns b m->(nrm s₁.heap H).Ns b m:=fun {b m} ⟨o,es,ep,e,d,r⟩=>⟨o,es,ep,base_of e (noA e (fun _ _ z=>by rw [d] at z; cases z) (fun z=>by rw [d] at z; cases z)),d,r⟩
  have hKb:K.In (nrm s₁.heap H):=fun b o e=>base_of (KX b o e) (by
   cases q:H b with
   | none=>rfl
   | some u =>
    rcases hO b u q with ⟨rfl,_⟩ | ⟨z,y,_⟩
    ·rw [hK (by rw [q]; simp)] at e; cases e
    ·rw [(hT b z y).2.2] at e; cases e)
  have hM:Mod K mg (nrm s₁.heap H):=⟨hKb,nsK hns,⟨mb,nsK hb,hbb⟩,(let ⟨mc,h1,h2⟩:=hlim; ⟨mc,nsK h1,h2⟩),(let ⟨bm,ob,b1,b2,b3,b4,b5,b6⟩:=hbm; ⟨bm,ob,b1,b2,base_of b3 (noA b3 (fun _ _ z=>by rw [b6] at z; cases z) (fun z=>by rw [b6] at z; cases z)),b4,b5,b6⟩)⟩
  have hmk:∀ b q,T.lookup b=some q->(nrm s₁.heap H).objs[b]?=some (zeM q):=fun b q e=>by
   rw [ziN,(zdV (hT b q e).1).1,hO2 b q e]; rfl
  have e0:Env0 P w K mg (nrm s₁.heap H) callerA [] s₁ H:=⟨rfl,hM,fun b o e=>zrx e,Nat.le_of_eq (zm5 _ _),trivial,fun b hb=>yQ (show b ∈ ([]:List Addr) from hb) (by simp),hok,.of_eq hg,zm4 _ _⟩
  refine codeAny_mono ((F _ hKb (nsK hns) hmk).run callerA [] s₁ H ⟨[.ref a],[]⟩ [.ref a] [.ref a] _ _ hr e0 (hbind s₁ (.ref a)) (.cons rfl .nil) (hsp H hS)) fun r s' h=>?_
  cases r with
  | error e=>exact (hCX H e s' h).elim
  | ok fl =>
   cases fl with
   | next=>exact False.elim h
   | brk=>exact False.elim h
   | cont=>exact False.elim h
   | ret u =>
    obtain ⟨v,H',os,bare,un,hok',r',q⟩:=h
    have q':v=.bl true:=q
    subst q'
    obtain rfl:u=Value.bool true:=r'
    have old:∀ b o,s₁.heap.get? b=some o->asItWas s₁.heap s'.heap b o/\∃ o',s'.heap.get? b=some o':=fun b o e=>by
     cases q:H b with
     | none =>
      have z:=un.keep b o e q (by intro z; exact yQ (show b ∈ ([]:List Addr) from z) (by simp)) (by simp)
      exact ⟨.inl z,o,z⟩
     | some u =>
      rcases hO b u q with ⟨_,ob,xs,rfl⟩ | ⟨z,y,rfl⟩
      ·have z2:=un.frzs b ob _ q
       obtain ⟨e1,_⟩:=hok b _ q; obtain ⟨e2,_⟩:=hok' b _ z2
       rw [e] at e1; cases e1
       exact ⟨.inl e2,o,e2⟩
      ·obtain ⟨h1,⟨c,h2⟩,_⟩:=hT b z y
       rw [e] at h1; cases h1; obtain ⟨more,z2⟩:=un.tbls b _ q; obtain ⟨ts,e2,_⟩:=hok' b _ z2; refine ⟨.inr (.inl ⟨((W.codeHd_of_K KX h2).tab e).isCodeTable,rfl,#[],ts,rfl,?_⟩),_,e2⟩; rw [e2]; simp
    exact ⟨rfl,⟨fun b o e=>(old b o e).1,fun b o e=>(old b o e).2⟩,os,bare⟩
 have tb_ok:∀ (H:Hp) (b:Addr) (q:Str),T.lookup b=some q->zbG P w H s₁.heap b (.tbl #[.str q 0]):=fun H b q e=>⟨#[],(hT b q e).1,trivial,fun pos cv z=>by cases z⟩
 cases hk:K.lookup a with
 | some o =>
  have e:=KX a o hk; rw [ha] at e; cases e
  refine core (fun b=>(T.lookup b).map fun q=>.tbl #[.str q 0]) (fun b u z=>?_) (fun b q z=>by show (T.lookup b).map _=_; rw [z]; rfl) (.inr ⟨_,vs.toArray,_,hk,rfl,rfl,rfl,by rw [yL,lenV]; exact hl,by simpa using rv⟩) (fun b u z=>?_) fun z=>yQ (by show (T.lookup a).map _=none; rw [naT]; rfl) z
  ·have z':(T.lookup b).map (fun q=>HO.tbl #[.str q 0])=some u:=z
   cases y:T.lookup b with
   | none=>rw [y] at z'; cases z'
   | some q=>rw [y] at z'; cases z'; exact .inr ⟨q,rfl,rfl⟩
  ·have z':(T.lookup b).map (fun q=>HO.tbl #[.str q 0])=some u:=z
   cases y:T.lookup b with
   | none=>rw [y] at z'; cases z'
   | some q=>rw [y] at z'; cases z'; exact tb_ok _ b q y
 | none =>
  refine core (fun b=>if b=a then some (.frz { cls:=.type "list",data:=.seq vs.toArray } (.lst (ns.map V.int))) else (T.lookup b).map fun q=>.tbl #[.str q 0]) (fun b u z=>?_) (fun b q z=>?_) (.inl (.inr ⟨{ cls:=.type "list",data:=.seq vs.toArray },yN rfl⟩)) (fun b u z=>?_) fun _=>hk
  ·by_cases hb:b=a
   ·have z':=(yN hb).symm.trans z
    cases z'; exact .inl ⟨hb,_,_,rfl⟩
   ·have z':=(yK hb).symm.trans z
    cases y:T.lookup b with
    | none=>rw [y] at z'; cases z'
    | some q=>rw [y] at z'; cases z'; exact .inr ⟨q,rfl,rfl⟩
  ·have hb:b≠a:=fun y=>by rw [y,naT] at z; cases z
   show (if b=a then _ else _)=_
   rw [yK hb,z]; rfl
  ·by_cases hb:b=a
   ·have z':=(yN hb).symm.trans z
    cases z'; subst hb
    exact ⟨ha,by rw [yF]; exact hl,vs,_,rv,ha⟩
   ·have z':=(yK hb).symm.trans z
    cases y:T.lookup b with
    | none=>rw [y] at z'; cases z'
    | some q=>rw [y] at z'; cases z'; exact tb_ok _ b q y
end L2
namespace PL
open PySem L2
structure LamOf (K:W.Frag) (mg:Str->Option Value) (base:Heap) (x qual:Str):Prop where
 ex:∃ c Pt,(∀ f fd oc od sl,mg x=some (.ref f)->K.lookup f=some ⟨oc,od,.func fd,sl⟩->fd.code=.ref c)/\W.codeHdIn K c Pt=true/\base.objs[Pt]?=some (zeM qual)
 qu:x ++ ".<locals>." ++ "<lambda>"=qual
section
variable {P:Program} {w:World} {K:W.Frag} {mg:Str->Option Value} {base:Heap} {k:Nat} {x qual:Str} {ps:List Str} {sp:Sp'}
theorem Df.okL {st:Stmt} {N:List Str} (d:Df K mg x st ps) (lo:LamOf K mg base x qual) (S:FnScope N ps (zm st)) (len:∀ ds Q,sp ds Q->ds.length=ps.length)
  (hbody:∀ (f:Addr) (cdv:Value) (A:Around) (outer:List Env) (s:Shared) (H:Hp) (E:XK),LamAt (zfU CX0 P w K mg base N x (zm st) f cdv A outer s H E).nox qual->Room k (A.deeper (PyProof.Rows.envOfC x (zm st) s.heap.objs.size f cdv))->∀ ds Q,sp ds Q ->
   ∃ t,PSs' (zfU CX0 P w K mg base N x (zm st) f cdv A outer s H E).nox (zY st) t/\t { nx:=fun _=>Q (.val .non),rt:=fun r _=>Q r } (zcp N ds)):Fn P w K mg base (k+1) x ps sp:=by
 obtain ⟨f,fd,F,b,m⟩:=d.ex; obtain ⟨oc,od,kV,doc,pm,an,cdv,ct,osl,e,lk,hcd⟩:=id F.ex
 obtain ⟨⟨c,Pt,hc,hC,hT⟩,qu⟩:=lo
 have hcd':=hc f fd oc od osl m lk; subst e; refine ⟨f,_,?_,b,F.kp,m,oc,od,osl,lk⟩
 refine zrZ lk hcd S (fun vs H Q E h=>?_) fun A outer s H vs Q E hr h=>?_
 ·obtain ⟨Hi,ds,Q',_,dl,h,_⟩:=h
  rw [zn dl]; exact len ds Q' h
 ·obtain ⟨Hi,ds,Q',sb,dl,h,fin⟩:=h
  obtain ⟨t,h1,h2⟩:=hbody f cdv A outer s H E ⟨⟨c,Pt,hcd',hC,hT⟩,qu⟩ hr ds Q' h
  have hpl:ps.length<=N.length:=by have:=yo List.length S.pre; rw [ye] at this; omega
  refine ⟨_,h1.h.nox,⟨H,Hi,[]⟩,Hi,zcp N ds,_,zez (len ds Q' h) hpl sb dl,h2,?_⟩
  refine ⟨fun σ' H' Hi' Γ' s1 g1 q=>?_,fun _ _ _ _ _ _ q=>q.elim,fun _ _ _ _ _ _ q=>q.elim,fun v σ' H' Hi' Γ' r s1 g1 ro q=>?_⟩
  ·exact fin Hi' H' .non (.val .non) ⟨s1,fun b o e=>g1.keep b o e (by simp),g1.fz,fun b o e=>g1.fro b o e⟩ .non q
  ·exact fin Hi' H' v r ⟨s1,fun b o e=>g1.keep b o e (by simp),g1.fz,fun b o e=>g1.fro b o e⟩ ro q
end
theorem zkm (K:W.Frag) (H:Hp) (a:Addr) (ns:List Int) (hl:ns.length<=63) (hS:SqL K H a (ns.map V.int)):zhS K zjh [.ref a] H (fun v _=>v=.bl true) (fun _ _ _=>False):=by
 refine ⟨H,[.lst (ns.map .int)],fun r=>r=.val (.bl true),⟨zaI.refl _,fun b xs q=>q⟩,.cons (Den.mkL hS (zi5 ns)) .nil,⟨ns,rfl,hl,rfl⟩,?_⟩
 rintro Hi' H' v r ex ro rfl
 exact Den.blI ro
theorem walk_lawT {l:W.OpenLaw} {k:Nat} {q:Program} {loose:List Str} {XP:(Str->Option Value)->Heap->Prop} {YP:World->Heap->Prop} {d:DefRec} {K:Params->W.Frag} {x:Str} (T:List (Addr × Str)) (hn:l.most=some 63) (hdf:d.params.defaults=[]) (hr:Room k callerA)
  (hY:∀ (w:World) (h:Heap),YP w h->(K w.params).In h)
  (hYT:∀ (w:World) (h:Heap),YP w h->∀ b q,T.lookup b=some q->h.get? b=some (W.tabObj #[]))
  (F:∀ (w:World) (mg:Str->Option Value) (fa:Addr) (h:Heap),(K w.params).In h->h.Ns mainGlobals mg->mg d.name=some (.ref fa) ->
   (∀ b q,T.lookup b=some q->(∃ c,W.codeHdIn (K w.params) c b=true)/\(K w.params).lookup b=none) /\
   ∃ fd:FuncData,(∀ (s:Shared) (u:Value),BindsTo s fd ⟨[u],[]⟩ [(x,u)])/\∀ base:Heap,(K w.params).In base->base.Ns mainGlobals mg->(∀ b q,T.lookup b=some q->base.objs[b]?=some (zeM q))->FnOk l.prog w (K w.params) mg base CX0 k fa fd [x] (zhS (K w.params) zjh)) :
  W.WalkO q loose XP YP l.row.toRowW d [] (fun f vs=>PySem.call f vs):=by
 refine Att.attach_call hn hdf fun w s₀ s₁ mg mb fa o pm cd doc a vs ns G Y ho hd hcd hmg hobj hints hlen hg=>?_
 have KX:=hY w _ Y; obtain ⟨hT,fd,hb,hF⟩:=F w mg fa _ KX G.T.g hmg
 exact zld T KX G.T.g G.T.b G.T.builtins G.T.nolimit G.T.bmain hg hobj hints (yt hlen (by decide)) hr (fun b q e=>⟨hYT w _ Y b q e,hT b q e⟩) hF hb (fun H hS=>zkm _ H a ns hlen hS) fun _ _ _ z=>z
def zqF (R:D->D->Prop):Sp':=fun ds Q=>∃ d k,ds=[d]/\R d k/\Q (.val k)
theorem zkk (R:D->D->Prop) {x:Str}:∀ ds Q,zqF R ds Q->ds.length=[x].length:=fun _ _ ⟨_,_,e,_⟩=>by rw [e]; rfl
section
variable {X:Cx} {pos:Pos}
end
end PL
namespace PySem
section
variable {prog:Program} {w:World} {A:Around} {E:Value->Shared->Prop} {s:Shared} {dd:Addr} {ob:Obj} {ens:Array DictEntry} {tick:Nat}
open PyProof.Rows in
end
end PySem
namespace L2
open PySem PySem.Spec PyProof.Rows PySem.W
section
variable {X:Cx} {pins:List (Addr × Obj)} {σ:St} {H:Hp} {s:Shared} {a:Addr}
end
section
variable {X:Cx} {o e f:Expr} {apos cpos:Pos} {td ty tx:TE}
end
section
variable {X:Cx} {pins:List (Addr × Obj)} {σ:St} {H:Hp} {s:Shared} {h':Heap}
end
end L2
namespace PL
open PySem L2
section
variable {X:Cx}
theorem zfO {α β:Type} {R:α->β->Prop}:∀ {l:List α} {m:List β} (i:Nat) {a:α} {b:β},Paired R l m->R a b->Paired R (l.set i a) (m.set i b)
 | [],[],_,_,_,.nil,_=>.nil
 | _ :: _,_ :: _,0,_,_,.cons _ t,r=>.cons r t
 | _ :: _,_ :: _,i+1,_,_,.cons r0 t,r=>.cons r0 (zfO i t r)
def zbj (i:Nat) (tk tv:TE'):TS':=fun N Γ=>tv Γ fun v Γ1=>(∃ ds0,Γ1[i]?=some (.own (.lst ds0)))/\tk Γ1 fun k Γ2=>∃ (ds:List D) (j:Int) (m:Nat),Γ2[i]?=some (.own (.lst ds))/\k=.int j/\ixN ds.length j=some m/\N.nx (Γ2.set i (.own (.lst (ds.set m v))))
theorem zkH (i:Nat) {x:Str} {k value:Expr} {tk tv:TE'} {p pos pos':Pos} (hk:PE' X k tk) (hv:PE' X value tv) (hN:X.N[i]?=some x:=by rfl) (hvi:Vis X.env.scope x:=by first | exact YJ rfl | exact yr (YJ rfl) | exact yr (yr rfl)) (hd:(x == ("__debug__":Str))=false:=by decide)
  (hcd:(x == ("__classdict__":Str))=false:=by decide) (hs:swapsWithSole [.Subscript (.Name x p) k pos'] value pos.line X.env=pure false:=by rfl) (hw:swappedStores [.Subscript (.Name x p) k pos'] value X.env=pure none:=by rfl)
  (h1:(assignEach [.Subscript (.Name x p) k pos'] X.env).map (·.2)=[assign (.Subscript (.Name x p) k pos') X.env]:=by rfl)
  (ha:∀ v,assign (.Subscript (.Name x p) k pos') X.env v=(do
   let ov <- holding [v] (eval (.Name x p) X.env)
   let iv <- holding [v,ov] (eval k X.env)
   standAt pos'
   holding [v,ov,iv] (setItem ov iv v)
   release [v,ov,iv] []):=by intro _; rfl) :
  PS' X (.Assign [.Subscript (.Name x p) k pos'] value pos) (zbj i tk tv):=by
 refine ⟨PS.weak (zq4 hv.h (zq9 (pos:=pos') (zcj (i:=i) (pos:=p) hN hvi hd hcd) hk.h zmk ha) hs hw h1) ?_⟩
 rintro N2 σ H ⟨W,Hi,Γ,N,g,q,l⟩
 have hi:i<X.N.length:=(yD.mp hN).1
 refine ⟨W,Hi,Γ,_,g,q,?_⟩
 rintro v H1 ⟨Hi1,d,Γ1,s1,g1,den,⟨ds0,e0⟩,q1⟩
 obtain ⟨a,b1,b2,b3,vs0,b4,b5⟩:=g1.own i _ e0; refine ⟨.ref a,zfv hi b1,W,Hi1,Γ1,_,g1,q1,?_⟩
 rintro y H2 ⟨Hi2,dk,Γ2,s2,g2,den2,ds,j,m,e2,rfl,hm,q2⟩
 obtain ⟨a',k1,k2,k3,vs,k4,k5⟩:=g2.own i _ e2; rw [b1] at k1; cases k1
 cases den2.intI
 refine ⟨a,vs,j,m,rfl,rfl,k4,by rw [zn k5]; exact hm,?_⟩
 exact l.nx σ _ Hi2 _ (s1.trans s2) (g2.put (o:=.lst (ds.set m d)) e2 b1 ⟨vs.set m v,zo,zfO m k5 (den.mono s2)⟩) q2
instance {i:Nat} {tk tv:TE'} [ME tk] [ME tv]:MS (zbj i tk tv):=⟨fun N N' Γ h q=>ME.mono (t:=tv) _ _ _ (fun _ _ ⟨a,z⟩=>⟨a,ME.mono (t:=tk) _ _ _ (fun _ _ ⟨ds,j,m,e1,e2,e3,w⟩=>⟨ds,j,m,e1,e2,e3,h.nx _ w⟩) z⟩) q⟩
end
end PL
namespace MS
open PySem L2 PL
section
variable {α:Type} {lt:Nat->Nat->Bool}
end
end MS
namespace M04
open PySem L2 Lb PL MT MS
abbrev Nd:=List (Pl × Pl)
def keys (ns:Nd):List Pl:=ns.map (·.1)
def zuZ (ns:Nd) (p:Pl):Pl:=(ns.lookup p).getD []
end M04
namespace M70
open PySem L2 Lb PL MT MS M04
open PySem.NumText (digitsVal)
end M70
namespace M71
open PySem L2 Lb PL MT MS M04 M70
end M71
namespace L2
open PySem PySem.Spec PyProof.Rows
section
variable {X:Cx}
end
end L2
namespace PL
open PySem L2
section
variable {X:Cx}
end
end PL
namespace M71
open PySem L2 Lb PL MT MS M04 M70
end M71
namespace PL
open PySem L2
section
variable {K:W.Frag} {n:Nat} {W:Wd} {Hi H:Hp} {Γ:Sts} {σ:St} {i:Nat} {o:OD} {b:Addr}
theorem zoj:Hol K fun z=>z:=fun b Hi v o h dv=>by
 cases dv.adrI
 exact h
theorem Good.ownBk (g:Good K n W Hi Γ σ H) (hi:i<n) (e:Γ[i]?=some (.own o)):∃ a,σ[i]?=some (some (.ref a))/\W.H₀ a=none/\Good K n W Hi (Γ.set i (.bk (fun z=>z) a o)) σ H:=by
 obtain ⟨a,h1,h2,h3,h4⟩:=g.own i _ e
 have h1':σ[i]?=some (some (.ref a)):=by
  unfold adr at h1; rw [yN hi] at h1; exact zet h1
 refine ⟨a,h1',h3 hi,g.len,g.fz,g.keep,g.there,g.fro,fun j d' q=>?_,fun j o2 q=>?_,fun j k o o' c q1 q2 p1 p2=>?_,fun j d' c xs q=>?_⟩
 ·rcases zG q with ⟨_,z⟩ | ⟨_,z⟩
  ·cases z
  ·exact g.val j d' z
 ·rcases zG q with ⟨_,z⟩ | ⟨_,z⟩
  ·cases z
  ·exact g.own j o2 z
 ·rcases zG q1 with ⟨_,z⟩ | ⟨_,z⟩
  ·cases z
  ·rcases zG q2 with ⟨_,y⟩ | ⟨_,y⟩
   ·cases y
   ·exact g.apart j k o o' c z y p1 p2
 ·rcases zG q with ⟨ej,z⟩ | ⟨hj,z⟩
  ·cases z
   subst ej
   refine ⟨⟨_,h1',.adr a⟩,zoj,h2,fun _=>h3 hi,h4,fun k d2 ys q=>?_,fun k o' q w=>?_⟩
   ·rcases zG q with ⟨z,_⟩ | ⟨_,y⟩
    ·exact z
    ·exact yQ h1 ((g.bk k _ _ _ y).ne _ _ e)
   ·rcases zG q with ⟨_,y⟩ | ⟨hk,y⟩
    ·cases y
    ·exact hk (g.apart k _ _ _ _ y e w h1)
  ·obtain ⟨p0,p1,p2,p3,p4,p5,p6⟩:=g.bk j d' c _ z
   refine ⟨p0,p1,p2,p3,p4,fun k d2 ys q=>?_,fun k o' q=>?_⟩
   ·rcases zG q with ⟨_,y⟩ | ⟨_,y⟩
    ·cases y
     exact yQ h1 (p6 _ _ e)
    ·exact p5 k _ _ y
   ·rcases zG q with ⟨_,y⟩ | ⟨_,y⟩
    ·cases y
    ·exact p6 k o' y
theorem Good.bkOwn (g:Good K n W Hi Γ σ H) (hi:i<n) (e:Γ[i]?=some (.bk (fun z=>z) b o)) (h0:W.H₀ b=none):Good K n W Hi (Γ.set i (.own o)) σ H:=by
 have B:=g.bk i _ _ _ e
 have ai:adr n W σ i=some b:=by
  obtain ⟨v,v1,v2⟩:=B.val
  cases v2.adrI
  unfold adr; rw [yN hi,v1]; rfl
 refine ⟨g.len,g.fz,g.keep,g.there,g.fro,fun j d' q=>?_,fun j o2 q=>?_,fun j k o o' c q1 q2 p1 p2=>?_,fun j d' c xs q=>?_⟩
 ·rcases zG q with ⟨_,z⟩ | ⟨_,z⟩
  ·cases z
  ·exact g.val j d' z
 ·rcases zG q with ⟨ej,z⟩ | ⟨_,z⟩
  ·cases z
   subst ej
   exact ⟨b,ai,B.hi,fun _=>h0,B.at_⟩
  ·exact g.own j o2 z
 ·rcases zG q1 with ⟨e1,z⟩ | ⟨h1,z⟩
  ·rcases zG q2 with ⟨e2,y⟩ | ⟨_,y⟩
   ·rw [e1,e2]
   ·rw [e1,ai] at p1
    cases p1; exact yQ p2 (B.ne k o' y)
  ·rcases zG q2 with ⟨e2,y⟩ | ⟨_,y⟩
   ·rw [e2,ai] at p2
    cases p2; exact yQ p1 (B.ne j o z)
   ·exact g.apart j k o o' c z y p1 p2
 ·rcases zG q with ⟨_,z⟩ | ⟨hj,z⟩
  ·cases z
  ·obtain ⟨p0,p1,p2,p3,p4,p5,p6⟩:=g.bk j d' c _ z
   refine ⟨p0,p1,p2,p3,p4,fun k d2 ys q=>?_,fun k o' q w=>?_⟩
   ·rcases zG q with ⟨_,y⟩ | ⟨_,y⟩
    ·cases y
    ·exact p5 k _ _ y
   ·rcases zG q with ⟨ek,y⟩ | ⟨_,y⟩
    ·rw [ek,ai] at w
     cases w; exact hj (B.one j _ _ z)
    ·exact p6 k o' y w
end
section
variable {X:Cx}
def brN (i:Nat) (b:Addr) (N:Ends'):Ends':={ nx:=fun Γ1=>∃ o',Γ1[i]?=some (.bk (fun z=>z) b o')/\N.nx (Γ1.set i (.own o')),rt:=N.rt,bk:=fun Γ1=>∃ o',Γ1[i]?=some (.bk (fun z=>z) b o')/\N.bk (Γ1.set i (.own o')),ct:=fun Γ1=>∃ o',Γ1[i]?=some (.bk (fun z=>z) b o')/\N.ct (Γ1.set i (.own o')) }
def tBr (n i:Nat) (t:TS'):TS':=fun N Γ=>i<n/\∃ o,Γ[i]?=some (.own o)/\∀ b,t (brN i b N) (Γ.set i (.bk (fun z=>z) b o))
theorem ztw (i:Nat) {s:Stmt} {t:TS'} (h:PS' X s t):PS' X s (tBr X.N.length i t):=by
 refine ⟨PS.weak h.h ?_⟩
 rintro N2 σ H ⟨W,Hi,Γ,N,g,⟨hi,o,e,q⟩,l⟩
 obtain ⟨b,hσ,h0,g1⟩:=g.ownBk hi e; refine ⟨W,Hi,_,_,g1,q b,?_⟩
 exact ⟨fun σ' H' Hi' Γ' s1 g' ⟨o',e',q'⟩=>l.nx σ' H' Hi' _ s1 (g'.bkOwn hi e' h0) q',fun σ' H' Hi' Γ' s1 g' ⟨o',e',q'⟩=>l.bk σ' H' Hi' _ s1 (g'.bkOwn hi e' h0) q',fun σ' H' Hi' Γ' s1 g' ⟨o',e',q'⟩=>l.ct σ' H' Hi' _ s1 (g'.bkOwn hi e' h0) q',fun v σ' H' Hi' Γ' r s1 g' ro q'=>l.rt v σ' H' Hi' Γ' r s1 g' ro q'⟩
theorem zsf {i:Nat} {b:Addr} {N N':Ends'} (h:N.le N'):(brN i b N).le (brN i b N'):=⟨fun _ ⟨o',e',z⟩=>⟨o',e',h.nx _ z⟩,h.rt,fun _ ⟨o',e',z⟩=>⟨o',e',h.bk _ z⟩,fun _ ⟨o',e',z⟩=>⟨o',e',h.ct _ z⟩⟩
instance {n i:Nat} {t:TS'} [MS t]:MS (tBr n i t):=⟨fun N N' Γ h ⟨a,o,e,q⟩=>⟨a,o,e,fun b=>MS.mono (t:=t) _ _ _ (zsf h) (q b)⟩⟩
end
abbrev SpM:=OD->List D->(D->OD->Prop)->Prop
def zqC (K:W.Frag) (j:Nat) (sp:SpM):Sp:=fun vs H Q2 _=>∃ Hi b o v1 v2 ds Q,vs=v1 ++ .ref b :: v2/\v1.length=j/\zbv K Hi (v1 ++ v2) ds/\Fz Hi H/\Hi b=none/\zbM K Hi H b o/\sp o ds Q /\
 ∀ Hi' H' v' r o',ExtB b Hi H Hi' H'->Den K Hi' v' r->zbM K Hi' H' b o'->Q r o'->Q2 v' H'
structure FnM (P:Program) (w:World) (K:W.Frag) (mg:Str->Option Value) (base:Heap) (k:Nat) (x:Str) (ps:List Str) (j:Nat) (sp:SpM):Prop where
 ex:∃ f fd,FnOk P w K mg base CX0 k f fd ps (zqC K j sp)/\zcb K fd ps []/\W.keepIn K (.ref f)=true/\mg x=some (.ref f)
class MSpM (sp:SpM):Prop where
 mono:∀ o ds Q Q',(∀ r o',Q r o'->Q' r o')->sp o ds Q->sp o ds Q'
abbrev TM':=Sts->(List D->List D->Sts->Prop)->Prop
def zu1 (K:W.Frag) (n i j:Nat) (t:TM'):TA:=fun σ H Q2=>∃ W Hi Γ Q,Good K n W Hi Γ σ H/\t Γ Q/\∀ vs H' Hi' Γ' d1 d2 b v1 v2,zaI Hi Hi'->Good K n W Hi' Γ' σ H'->vs=v1 ++ .ref b :: v2->v1.length=j->σ[i]?=some (some (.ref b))->zbv K Hi' v1 d1->zbv K Hi' v2 d2->Q d1 d2 Γ'->Q2 vs H'
structure PM' (X:Cx) (i j:Nat) (es:List Expr) (t:TM'):Prop where
 pa:PA X es (zu1 X.K X.N.length i j t)
 pl:zbR es=true
class MM (t:TM'):Prop where
 mono:∀ Γ Q Q',(∀ d1 d2 Γ',Q d1 d2 Γ'->Q' d1 d2 Γ')->t Γ Q->t Γ Q'
section
variable {X:Cx}
def zag (i:Nat) (t:TA'):TM':=fun Γ Q=>(∃ b o,Γ[i]?=some (.bk (fun z=>z) b o))/\t Γ fun ds Γ1=>Q [] ds Γ1
theorem zkL (i:Nat) {y:Str} {q:Pos} {es:List Expr} {t:TA'} (ha:PA' X es t) (hN:X.N[i]?=some y:=by rfl) (hv:Vis X.env.scope y:=by first | exact YJ rfl | exact yr (YJ rfl) | exact yr (yr rfl)) (hd:(y == ("__debug__":Str))=false:=by decide)
  (hcd:(y == ("__classdict__":Str))=false:=by decide):PM' X i 0 (.Name y q :: es) (zag i t):=by
 refine ⟨PA.weak (zdU (zcj (i:=i) (pos:=q) hN hv hd hcd) ha.pa (zP rfl)) ?_,by unfold zbR; rw [ha.pl]; rfl⟩
 rintro σ H Q ⟨W,Hi,Γ,Q',g,⟨⟨b,o,e⟩,h⟩,fin⟩
 obtain ⟨v,hv',dv⟩:=(g.bk i _ _ _ e).val
 cases dv.adrI
 refine ⟨.ref b,hv',W,Hi,Γ,_,g,h,?_⟩; intro vs H1 Hi1 Γ1 ds s1 g1 dl q1; exact fin _ H1 Hi1 Γ1 [] ds b [] vs s1 g1 rfl rfl hv' .nil dl q1
instance {i:Nat} {t:TA'} [MA t]:MM (zag i t):=⟨fun Γ _ _ h ⟨a,q⟩=>⟨a,MA.mono (t:=t) Γ _ _ (fun _ _ z=>h _ _ _ z) q⟩⟩
def zam (i:Nat) (sp:SpM) (t:TM'):TE':=fun Γ Q=>t Γ fun d1 d2 Γ1=>∃ b o,Γ1[i]?=some (.bk (fun z=>z) b o)/\sp o (d1 ++ d2) fun r o'=>Q r (Γ1.set i (.bk (fun z=>z) b o'))
theorem ziL {i j k:Nat} {x:Str} {ps:List Str} {sp:SpM} {es:List Expr} {t:TM'} {p pos:Pos} {e:Expr} (h:FnM X.prog X.w X.K X.mg X.base k x ps j sp) (hr:Room k X.A) (ha:PM' X i j (e :: es) t) (hg:Gl X x:=by rfl) (hdb:(x == ("__debug__":Str))=false:=by decide) :
  PE' X (.Call (.Name x p) (e :: es) [] pos) (zam i sp t):=by
 obtain ⟨f,fd,F,bd,hk,hm⟩:=h.ex; obtain ⟨p1,p2⟩:=zB ha.pl; refine ⟨PE.weak (zgh (E:=E0) (dvs:=[]) F hr hg hm hk bd .nil zgi ha.pa hdb (zP p1) (zaa p2)) ?_⟩
 rintro σ H Q ⟨W,Hi,Γ,Q',g,h,fin⟩
 refine ⟨W,Hi,Γ,_,g,h,?_⟩
 rintro vs H1 Hi1 Γ1 d1 d2 b' v1 v2 s1 g1 ev hj hb dl1 dl2 ⟨b,o,e1,q1⟩
 have B:=g1.bk i _ b o e1; obtain ⟨v,hv1,dv⟩:=B.val
 cases dv.adrI
 rw [hb] at hv1; cases hv1; rw [ym]; refine ⟨Hi1,b',o,v1,v2,d1 ++ d2,_,ev,hj,zaM dl1 dl2,g1.fz,B.hi,B.at_,q1,?_⟩; intro Hi2 H2 v' r o' ex den at_ q2; exact fin v' H2 ⟨Hi2,r,_,s1.trans ex.hi,g1.extB e1 ex at_,den,q2⟩
instance {i:Nat} {sp:SpM} {t:TM'} [MSpM sp] [MM t]:ME (zam i sp t):=⟨fun Γ _ _ h q=>MM.mono (t:=t) Γ _ _ (fun _ _ _ ⟨b,o,e,z⟩=>⟨b,o,e,MSpM.mono (sp:=sp) _ _ _ _ (fun _ _ w=>h _ _ w) z⟩) q⟩
end
def zT (N:List Str) (j:Nat) (b:Addr) (o:OD) (ds:List D):Sts:=(ds.take j).map .val ++ .bk (fun z=>z) b o :: ((ds.drop j).map .val ++ List.replicate (N.length-(ds.length+1)) .emp)
theorem zcf {N:List Str} {j:Nat} {b:Addr} {o:OD} {ds:List D} (hj:j<=ds.length) {k:Nat} {s:Slot} (e:(zT N j b o ds)[k]?=some s):(k=j/\s=.bk (fun z=>z) b o)\/s=.emp\/∃ d,s=.val d/\((k<j/\ds[k]?=some d)\/(j<k/\ds[k-1]?=some d)):=by
 unfold zT at e
 have hl:((ds.take j).map Slot.val).length=j:=by rw [yF,ye]; omega
 rcases Nat.lt_trichotomy k j with h | h | h
 ·rw [yV (by rw [hl]; exact h),yE,List.getElem?_take,yN h] at e
  obtain ⟨d,hd,rfl⟩:=yJ.mp e; exact .inr (.inr ⟨d,rfl,.inl ⟨h,hd⟩⟩)
 ·rw [ya (by rw [hl]; omega),hl,h,Nat.sub_self] at e
  exact .inl ⟨h,(Option.some.inj e).symm⟩
 ·rw [ya (by rw [hl]; omega),hl] at e
  obtain ⟨m,hm⟩:∃ m,k-j=m+1:=⟨k-j-1,by omega⟩
  rw [hm,List.getElem?_cons_succ] at e
  by_cases hlt:m<(ds.drop j).length
  ·rw [yV (by rw [yF]; exact hlt),yE] at e
   obtain ⟨d,hd,rfl⟩:=yJ.mp e
   rw [List.getElem?_drop,show j+m=k-1 by omega] at hd
   exact .inr (.inr ⟨d,rfl,.inr ⟨h,hd⟩⟩)
  ·rw [ya (by rw [yF]; omega),Yq] at e
   split at e
   ·exact .inr (.inl (Option.some.inj e).symm)
   ·cases e
theorem zik {K:W.Frag} {N ps:List Str} {v1 v2:List V} {j:Nat} {b:Addr} {o:OD} {ds:List D} {Hi H:Hp} (hlen:ds.length+1=ps.length) (hpl:ps.length<=N.length) (hj:v1.length=j) (sb:Fz Hi H) (hb:Hi b=none) (at_:zbM K Hi H b o) (dl:zbv K Hi (v1 ++ v2) ds) :
  Good K N.length ⟨H,Hi,[b]⟩ Hi (zT N j b o ds) (L2.start N (v1 ++ .ref b :: v2)) H:=by
 have hvl:=zn dl; rw [yY] at hvl
 have hjd:j<=ds.length:=by omega
 have st:∀ k:Nat,k<ds.length+1->(L2.start N (v1 ++ .ref b :: v2))[k]?=((v1 ++ .ref b :: v2)[k]?).map some:=fun k hk=>by
  unfold L2.start
  rw [yV (by rw [yF,yY,yf]; omega),yE]
 refine ⟨?_,sb,fun a o e _=>e,fun a o e=>⟨o,e⟩,fun a o e=>rfl,fun k d' e=>?_,fun k o' e=>?_,fun k l o1 o2 a e=>?_,fun k d' b' o' e=>?_⟩
 ·unfold L2.start
  rw [yY,yF,Yy,yY,yf]; omega
 ·rcases zcf hjd e with ⟨_,z⟩ | z | ⟨d2,z,h⟩
  ·cases z
  ·cases z
  ·cases z
   rcases h with ⟨hk,hd⟩ | ⟨hk,hd⟩
   ·obtain ⟨w,e1,dw⟩:=zR dl hd
    rw [yV (by omega)] at e1
    refine ⟨w,?_,dw⟩
    rw [st k (by omega),yV (by omega),e1]
    rfl
   ·obtain ⟨w,e1,dw⟩:=zR dl hd
    have hk1:=(yD.mp hd).1
    rw [ya (by omega)] at e1
    refine ⟨w,?_,dw⟩
    obtain ⟨m,hm⟩:∃ m,k-v1.length=m+1:=⟨k-v1.length-1,by omega⟩
    rw [st k (by omega),ya (by omega),hm,List.getElem?_cons_succ,show m=k-1-v1.length by omega,e1]
    rfl
 ·rcases zcf hjd e with ⟨_,z⟩ | z | ⟨d2,z,_⟩ <;> cases z
 ·rcases zcf hjd e with ⟨_,z⟩ | z | ⟨d2,z,_⟩ <;> cases z
 ·rcases zcf hjd e with ⟨hk,z⟩ | z | ⟨d2,z,_⟩
  ·cases z
   refine ⟨⟨.ref b,?_,.adr b⟩,zoj,hb,fun z=>yQ (yj.mpr rfl) z,at_,fun l d2 o2 q=>?_,fun l o2 q=>?_⟩
   ·rw [st k (by omega),ya (by omega),hk,hj,Nat.sub_self]
    rfl
   ·rcases zcf hjd q with ⟨hl,z⟩ | z | ⟨d2,z,_⟩
    ·rw [hl,hk]
    ·cases z
    ·cases z
   ·rcases zcf hjd q with ⟨hl,z⟩ | z | ⟨d2,z,_⟩ <;> cases z
  ·cases z
  ·cases z
section
variable {P:Program} {w:World} {K:W.Frag} {mg:Str->Option Value} {base:Heap}
theorem Fun.okM {x qual:Str} {st:Stmt} {f:Addr} {fd:FuncData} {N ps:List Str} {k j:Nat} {sp:SpM} (F:Fun K x qual st f fd) (S:FnScope N ps (zm st)) (len:∀ o ds Q,sp o ds Q->ds.length+1=ps.length)
  (hbody:∀ (cdv:Value) (A:Around) (outer:List Env) (s:Shared) (H:Hp) (E:XK),Room k (A.deeper (PyProof.Rows.envOfC qual (zm st) s.heap.objs.size f cdv))->∀ b o ds Q,sp o ds Q ->
   ∃ t,PSs' (zfU CX0 P w K mg base N qual (zm st) f cdv A outer s H E).nox (zY st) t/\t { nx:=fun Γ=>∃ o',Γ[j]?=some (.bk (fun z=>z) b o')/\Q .non o',rt:=fun r Γ=>∃ o' d',r=.val d'/\Γ[j]?=some (.bk (fun z=>z) b o')/\Q d' o' } (zT N j b o ds)):FnOk P w K mg base CX0 (k+1) f fd ps (zqC K j sp):=by
 refine F.ok S (fun vs H Q E h=>?_) (fun cdv A outer s H vs Q E hr h=>?_)
 ·obtain ⟨Hi,b,o,v1,v2,ds,Q',rfl,_,dl,_,_,_,h,_⟩:=h
  have:=len o ds Q' h
  have hl:=zn dl; rw [yY] at hl; rw [yY,yf]; omega
 obtain ⟨Hi,b,o,v1,v2,ds,Q',rfl,hj,dl,sb,hb,at_,h,fin⟩:=h; obtain ⟨t,h1,h2⟩:=hbody cdv A outer s H E hr b o ds Q' h; have hlen:=len o ds Q' h
 have hpl:ps.length<=N.length:=by have:=yo List.length S.pre; rw [ye] at this; omega
 refine ⟨_,h1.h,⟨H,Hi,[b]⟩,Hi,zT N j b o ds,_,zik hlen hpl hj sb hb at_ dl,h2,?_⟩
 have ex:∀ {σ':St} {H' Hi':Hp} {Γ':Sts},zaI Hi Hi'->Good K N.length ⟨H,Hi,[b]⟩ Hi' Γ' σ' H'->ExtB b Hi H Hi' H':=fun s1 g1 =>
  ⟨s1,fun a o ne e=>g1.keep a o e (by simpa using ne),g1.fz,fun a o e=>g1.fro a o e⟩
 refine ⟨fun σ' H' Hi' Γ' s1 g1 q=>?_,fun _ _ _ _ _ _ q=>q.elim,fun _ _ _ _ _ _ q=>q.elim,fun v σ' H' Hi' Γ' r s1 g1 ro q=>?_⟩
 ·obtain ⟨o',e,q⟩:=q
  exact fin Hi' H' .non .non o' (ex s1 g1) .non (g1.bk j _ b o' e).at_ q
 ·obtain ⟨o',d',rfl,e,q⟩:=q
  exact fin Hi' H' v d' o' (ex s1 g1) ro (g1.bk j _ b o' e).at_ q
theorem Df.okM {k j:Nat} {x:Str} {ps:List Str} {sp:SpM} {st:Stmt} {N:List Str} (d:Df K mg x st ps) (S:FnScope N ps (zm st)) (len:∀ o ds Q,sp o ds Q->ds.length+1=ps.length)
  (hbody:∀ (f:Addr) (cdv:Value) (A:Around) (outer:List Env) (s:Shared) (H:Hp) (E:XK),Room k (A.deeper (PyProof.Rows.envOfC x (zm st) s.heap.objs.size f cdv))->∀ b o ds Q,sp o ds Q ->
   ∃ t,PSs' (zfU CX0 P w K mg base N x (zm st) f cdv A outer s H E).nox (zY st) t/\t { nx:=fun Γ=>∃ o',Γ[j]?=some (.bk (fun z=>z) b o')/\Q .non o',rt:=fun r Γ=>∃ o' d',r=.val d'/\Γ[j]?=some (.bk (fun z=>z) b o')/\Q d' o' } (zT N j b o ds)):FnM P w K mg base (k+1) x ps j sp:=by
 obtain ⟨f,fd,F,b,m⟩:=d.ex; exact ⟨f,fd,PL.Fun.okM F S len (hbody f),b,F.kp,m⟩
end
section
variable {X:Cx}
end
section
variable {X:Cx} {e a b c:Expr} {pos:Pos}
end
end PL
namespace L2
open PySem PySem.Spec PyProof.Rows
section
variable {X:Cx}
end
end L2
namespace PL
open PySem L2
section
variable {X:Cx}
end
end PL
namespace PL
open PySem L2 PySem.Spec PyProof.Rows
section
variable {X:Cx}
end
end PL
namespace L2
open PySem PySem.Spec PyProof.Rows Zp
def Itn (K:W.Frag) (a:Addr):It :=
  ⟨fun i H=>∃ xs x,SqL K H a xs/\xs[i]?=some x,
   fun i H v H'=>∃ p x,H p=none/\v=.ref p/\H'=upd H p (.tup [.int i,x])/\∀ xs,SqL K H a xs->xs[i]?=some x,
   fun i H=>∃ xs,SqL K H a xs/\xs.length<=i⟩
theorem zke {P:Program} {w:World} {K:W.Frag} {elts:List Expr} {c:Nat} {pos:Pos} (a e it:Addr) (D:e≠it):Turn P w K (.Tuple elts c pos) (Itn K a) [e,it] e
  (fun i h=>(∃ old,IsEnum h e it i old)/\h.IsListIter it a i) where
 mem:=by simp
 obj:=by
  rintro i h ⟨⟨old,we⟩,g⟩ d hd
  simp only [yO,yd,or_false] at hd
  rcases hd with rfl | rfl
  ·exact ⟨_,we,fun v z=>by cases z⟩
  ·obtain ⟨o,e,_,dd⟩:=g
   exact ⟨o,e,fun v z=>by rw [dd] at z; cases z⟩
 keep:=by
  rintro i h h' ⟨⟨old,we⟩,g⟩ k
  exact ⟨⟨old,k e (by simp) _ we⟩,g.at fun o q=>k it (by simp) o q⟩
 item:=by
  intro X hP hw hK hc i pins s σ H E I hf st hg
  subst hP hw hK
  obtain ⟨⟨old,we⟩,g⟩:=st
  obtain ⟨xs,x,sx,hx⟩:=hg; obtain ⟨us,rx,px,_⟩:=I.list sx; obtain ⟨ux,hux,rux⟩:=rx.get hx
  have ne:∀ d,d ∈ [e,it]->a≠d:=fun d hd=>zki (lb:=true) I sx (hf d hd)
  refine wpAny_pyNext_enum_item we g px.isList (by simpa using hux) D fun h' c1 c2 c3 c4 c5=>⟨_,rfl,?_⟩
  refine wpAny_letOwnedTupleGo_enum (s:={ s with heap:=h',toks:=s.toks+1 }) c1 fun h2 e1 e2=>?_
  have ext:=zC e2
  have kk:∀ d o,d ∉ [e,it]->s.heap.get? d=some o->h2.get? d=some o:=fun d o hd q=>by
   simp only [yO,yd,or_false,not_or] at hd; exact ext d o hd.1 (c5 d o hd.1 hd.2 q)
  have fr:H s.heap.objs.size=none:=I.hok.fresh (yH _)
  have pe:s.heap.objs.size≠e:=Nat.ne_of_gt (yM we)
  have tp:=ext _ _ pe c3
  have I2:Inv X pins σ (upd H s.heap.objs.size (.tup [.int i,x])) { s with heap:=h2,toks:=s.toks+1 }:=I.turnedNew (t':=s.toks+1) (ch:=[e,it]) hf kk (yH _)
   ⟨by show 2<=sizeLine; exact Nat.le_of_lt (zap (by decide)),[.int i s.toks,ux],.cons ⟨_,rfl⟩ (.cons rux .nil),⟨_,tp,rfl,_,rfl⟩⟩
  refine ⟨.ref s.heap.objs.size,_,I2,rfl,⟨_,x,fr,rfl,rfl,fun xs' h=>by rw [zkj (lb:=true) I sx h]; exact hx⟩,⟨⟨ux,e1⟩,c2.at fun o q=>ext _ o (Ne.symm D) q⟩,fun d hd=>?_⟩
  obtain ⟨od,gd,_⟩:∃ o,s.heap.get? d=some o/\True:=by
   simp only [yO,yd,or_false] at hd
   rcases hd with rfl | rfl
   ·exact ⟨_,we,trivial⟩
   ·obtain ⟨o,e,_⟩:=g; exact ⟨o,e,trivial⟩
  rw [zr (yU (yM gd))]; exact (hf d hd).1
 done:=by
  intro X hP hw hK hc i pins s σ H E I hf st hg
  subst hP hw hK
  obtain ⟨⟨old,we⟩,g⟩:=st
  obtain ⟨xs,sx,hend⟩:=hg; obtain ⟨us,rx,px,_⟩:=I.list sx
  have he:us[i]?=none:=List.getElem?_eq_none (by rw [<- rx.length]; exact hend)
  refine wpAny_pyNext_enum_end (I.ok.hd hc) we g px.isList (by simpa using he) fun h' k=>⟨rfl,?_⟩
  refine I.turnedL (t':=s.toks) (ch:=[e,it]) hf fun d o hd q=>?_
  simp only [yO,yd,or_false,not_or] at hd; exact k d o hd.2 q
 self:=fun A i s Q E st q=>by
  obtain ⟨⟨old,we⟩,g⟩:=st
  exact wpAny_pyIter_enum we q
theorem zlO:bootBuiltins "enumerate"=some (.type "enumerate"):=by rfl
section
variable {X:Cx}
def ztY (K:W.Frag) (ta:TA):TI:=fun σ H R=>ta σ H fun vs H1=>∃ a xs,vs=[.ref a]/\SqL K H1 a xs/\R (Itn K a) H1
theorem zo6 {e1:Expr} {elts:List Expr} {c:Nat} {ta:TA} {p pos tp:Pos} (hg:Gl X "enumerate") (hm:X.mg "enumerate"=none) (ha:PA X [e1] ta) (hs:starEach [e1] X.env=(false,eval e1 X.env) :: starEach [] X.env:=by rfl) (hpl:(backTo pos (starEach [] X.env)).any (·.1)=false:=by rfl) :
  PI X (.Tuple elts c tp) (.Call (.Name "enumerate" p) [e1] [] pos) (ztY X.K ta):=by
 intro pins s σ H R I h
 refine Call_ (zdB I hg hm zlO (YK (thn (ha pos pins s σ H _ I h) fun us s1 ⟨vs,H1,I1,r1,q1⟩=>?_) hs hpl))
 obtain ⟨a,xs,e,sx,q⟩:=q1; subst e; obtain ⟨u,rfl,ru⟩:=zcZ r1
 obtain rfl:u=Value.ref a:=ru
 obtain ⟨us,rx,px,_⟩:=I1.list sx
 refine call_enumerate_list px.isList fun h' z1 z2 _ k=>?_
 refine wpAny_pyIter_enum (s:={ s1 with heap:=h' }) z1 ?_
 refine ⟨s1.heap.objs.size+1,[s1.heap.objs.size+1,s1.heap.objs.size],_,_,H1,rfl,I1.kept (t':=s1.toks) k,zke a _ _ (zdi (by omega)),⟨⟨_,z1⟩,z2⟩,fun d hd=>?_,q⟩
 have hd':s1.heap.objs.size<=d:=by
  simp only [yO,yd,or_false] at hd
  rcases hd with rfl | rfl <;> omega
 exact I1.fpOk hd' (I1.hok.fresh hd')
end
end L2
namespace PL
open PySem L2
def zio (k:Nat):List D->List D
 | []=>[]
 | d :: ds=>.tup [.int k,d] :: zio (k+1) ds
theorem zhr (ds:List D):∀ (k i:Nat),(zio k ds)[i]?=(ds[i]?).map fun d=>.tup [.int ((k+i:Nat):Int),d]:=by
 induction ds with
 | nil=>intro k i; rfl
 | cons d ds ih =>
  intro k i
  cases i with
  | zero=>rfl
  | succ i =>
   simp only [zio,List.getElem?_cons_succ]; rw [ih (k+1) i]
   congr 1
   funext d
   rw [show k+1+i=k+(i+1) by omega]
theorem zhq (ds:List D):∀ k,(zio k ds).length=ds.length:=by
 induction ds with
 | nil=>intro k; rfl
 | cons d ds ih=>intro k; simp [zio,ih]
theorem zns {K:W.Frag} {Hi:Hp} {a:Addr} {us:List V} {ds:List D} (h1:SqL K Hi a us) (r1:zbv K Hi us ds):ItD K Hi (Itn K a) (zio 0 ds):=by
 intro Hi' H' s1 s2
 have q1:SqL K H' a us:=zy (s1.trans s2.sub) h1
 refine ⟨fun i d e=>?_,us,q1,?_⟩
 ·rw [zhr,Nat.zero_add] at e
  obtain ⟨d1,hz,rfl⟩:=yJ.mp e; obtain ⟨u,hu,ru⟩:=zR r1 hz; refine ⟨⟨us,u,q1,hu⟩,?_⟩
  rintro x H'' ⟨p,x1,hp,rfl,rfl,k1⟩
  have ex:x1=u:=by have:=k1 us q1; rw [hu] at this; exact (Option.some.inj this).symm
  subst ex; have ex:=Ext.new s2 hp (.tup [.int i,x1]); exact ⟨_,ex,Den.mkT zo (.cons (.int _) (.cons (ru.mono (s1.trans ex.hi)) .nil))⟩
 ·rw [zhq,zn r1]
  omega
section
variable {X:Cx}
def zas (t:TA'):TI':=fun Γ Q=>t Γ fun ds Γ1=>∃ xs,ds=[.lst xs]/\Q (zio 0 xs) Γ1
theorem zmE {e1:Expr} {elts:List Expr} {c:Nat} {t:TA'} {p pos tp:Pos} (hm:X.mg "enumerate"=none) (ha:PA' X [e1] t) (hg:Gl X "enumerate":=by rfl):PI' X (.Tuple elts c tp) (.Call (.Name "enumerate" p) [e1] [] pos) (zas t):=by
 refine ⟨PI.weak (zo6 hg hm ha.pa (zP (zB ha.pl).1) (zaa (zB ha.pl).2)) ?_⟩
 rintro σ H R ⟨W,Hi,Γ,Q,g,h,fin⟩
 refine ⟨W,Hi,Γ,_,g,h,?_⟩
 rintro vs H1 Hi1 Γ1 ds s1 g1 dl ⟨xs,rfl,q⟩
 obtain ⟨v,rfl,d1⟩:=zdl dl; obtain ⟨a,us,rfl,h1,r1⟩:=d1.lstI; exact ⟨a,us,rfl,zy g1.sub h1,fin _ H1 Hi1 Γ1 _ s1 g1 (zns h1 r1) q⟩
end
end PL
namespace L2
open PySem PySem.Spec PyProof.Rows
section
variable {prog:Program} {w:World} {K:Type} [DecidableEq K] {knd:HeapKind prog w K} {A:Around} {E:Value->Shared->Prop} {s:Shared} {d a:Addr} {k:K} {xs:List (K × Addr × Value)}
theorem zfT:∀ {xs:List (K × Addr × Value)} {j:Nat} {p:Addr × Value},(xs.map (·.1)).Nodup->xs[j]?=some (k,p)->xs.eraseIdx j=xs.filter fun x=>decide (x.1≠k)
 | [],j,p,_,h=>by simp at h
 | x :: xs,0,p,hn,h=>by
  simp only [List.getElem?_cons_zero,Option.some.injEq] at h; subst h; simp only [yS,Yg] at hn; simp only [List.eraseIdx_zero,List.tail_cons,yx,ne_eq,not_true_eq_false,decide_false,yn,if_false]
  symm
  rw [List.filter_eq_self]; intro y hy
  have:y.1≠k:=fun e=>hn.1 (by rw [<- e]; exact List.mem_map_of_mem hy)
  simpa using this
 | x :: xs,j+1,p,hn,h=>by
  simp only [List.getElem?_cons_succ] at h; simp only [yS,Yg] at hn
  have ne:x.1≠k:=fun e=>hn.1 (by rw [e]; exact yq.mpr ⟨_,yW h,rfl⟩)
  rw [List.eraseIdx_cons_succ,zfT hn.2 h,yx,yN (by simpa using ne)]
theorem zhb {α β:Type} (f:α->β):∀ (xs:List α) (j:Nat),(xs.eraseIdx j).map f=(xs.map f).eraseIdx j
 | [],_=>rfl
 | x :: xs,0=>rfl
 | x :: xs,j+1=>by simp only [List.eraseIdx_cons_succ,yS,zhb f xs j]
theorem zgH {Q:Option DictEntry->Shared->Prop} {p:Addr × Value} (hu:knd.room A) (hkey:knd.is s.heap k a) (hm:s.heap.DictOfH knd d xs) (hp:atKey xs k=some p) (hsz:xs.length<=sizeLine)
  (hQ:∀ h' e,e.val=p.2->h'.DictOfH knd d (xs.filter fun x=>decide (x.1≠k))->Heap.SameBut d s.heap h'->Q (some e) { s with heap:=h',toks:=s.toks+knd.draws k }) :
  wpAny (model prog w) A (Builtin.Dict.takeOut d (.ref a)) Q E s:=by
 obtain ⟨o,es,ep,ho,hc,hd,he,his,hn⟩:=hm; unfold Builtin.Dict.takeOut
 try with_reducible refine YH ?_
 refine yA (knd.pyHash hu hkey (yA (wpAny_dictFind_heap (s:={ s with toks:=s.toks+knd.draws k }) hu hkey ho hd he his hn ?_ ?_)))
 ·intro hno
  rw [atKey_none_of_get hno] at hp; cases hp
 ·intro j p' hj
  rw [atKey_of_get hn hj] at hp; cases hp
  refine yA (YL (s:={ s with toks:=s.toks+knd.draws k }) ho hd ?_)
  rw [entry_at he j,hj]; have ee:=zfT hn hj
  refine yA (wpAny_updateDictKeys (hz:=by have e:=size_of_entries he; omega) (s:={ s with toks:=s.toks+knd.draws k }) ho hd (yG (hQ _ _ rfl ⟨_,_,ep+1,YT _ ho (Obj.isFreed_of_dict (Obj.data_mapDictKeys hd _)),hc.mapDictKeys _,Obj.data_mapDictKeys hd _,?_,?_,?_⟩ (Heap.SameBut.update ..))))
  ·rw [Array.toList_eraseIdxIfInBounds,he,<- ee]
   exact (zhb (entryOfKey knd) xs j).symm
  ·intro x hx
   exact knd.keeps (his x (List.mem_filter.mp hx).1) ho hd (Heap.SameBut.update ..)
  ·exact hn.sublist (List.filter_sublist.map _)
theorem zfe (hd:(d == sysModules)=false) :
  MeetsIn prog w (Builtin.«dict.pop» ⟨[.ref d,.ref a],[]⟩) (fun A R s=>knd.room A.in1/\∃ k xs p,knd.is s.heap k a/\s.heap.DictOfH knd d xs/\xs.length<=sizeLine/\atKey xs k=some p /\
   ∀ h',h'.DictOfH knd d (xs.filter fun x=>decide (x.1≠k))->Heap.SameBut d s.heap h'->R (.ok (.ret p.2)) { s with heap:=h',toks:=s.toks+knd.draws k }) :=
 .of_wp fun A R s ⟨hu,k,xs,p,hkey,hm,hsz,hp,h⟩=>by
  unfold Builtin.«dict.pop»
  refine yA ?_; unfold Builtin.Dict.keyAndDefault; refine yA (wpAny_notOrdered_dict hm.typeIs ?_)
  show wpAny _ _ (pure (d,Value.ref a,none)) _ _ s
  refine yG ?_
  have hne:xs≠[]:=fun z=>by rw [z] at hp; cases hp
  obtain ⟨o,es,ep,ho,hc,hdd,he,his,hn⟩:=id hm
  have hes:es.isEmpty=false:=by
   cases hz:es.isEmpty with
   | false=>rfl
   | true =>
    rw [Array.isEmpty_iff] at hz; rw [hz] at he
    cases xs with
    | nil=>exact yQ rfl hne
    | cons x xs=>cases he
  have hk:(keyPart (Value.ref a)).isSome=false:=rfl
  simp only [hk,yn,if_false]; refine yA (YL ho hdd ?_); rw [hes]; refine yA (yG ?_); simp only [yn,if_false]
  refine yA (zgH hu hkey hm hp hsz fun h' e ev hm' hs'=>?_)
  simp only [Option.isNone_some,yn,if_false]
  exact yA (wpAny_letGo (yG ⟨e.val,rfl,by rw [ev]; exact h h' hm' hs'⟩))
end
section
variable {X:Cx} {pins:List (Addr × Obj)} {σ:St} {H:Hp} {s:Shared} {a:Addr} {y d:V} {u r:Value} {o:Option V} {A:Around} {E:Value->Shared->Prop}
theorem KT.drop {H:Hp} {kvs:List (List Key × V)} {xs:List (List Key × Addr × Value)} (r:KT H kvs xs) (k:List Key):KT H (kvs.filter fun p=>decide (p.1≠k)) (xs.filter fun x=>decide (x.1≠k)):=by
 induction r with
 | nil=>exact .nil
 | @cons p q ps qs h t ih =>
  by_cases e:p.1=k
  ·have e':q.1=k:=h.1 ▸ e
   rw [yx,yx,yK (by simp [e]),yK (by simp [e'])]
   exact ih
  ·have e':¬ q.1=k:=h.1 ▸ e
   rw [yx,yx,yN (by simp [e]),yN (by simp [e'])]
   exact .cons h ih
theorem zua {kvs:List (List Key × V)} {ep:Nat} {k:List Key} {b:Addr} {v:V} {Q:Value->Shared->Prop} (hu:A.units+1<cLine) (I:Inv X pins σ H s) (e:H a=some (.dE kvs ep)) (eb:H b=some (.tup (k.map kV))) (hv:zf0 kvs k=some v)
  (h:∀ ep' w' s',Inv X pins σ (upd H a (.dE (kvs.filter fun p=>decide (p.1≠k)) ep')) s'->zaV v w'->Q w' s'):wpAny (model X.prog X.w) A (call (.builtin "dict.pop") [.ref a,.ref b]) Q E s:=by
 obtain ⟨z,hd,xs,rel,dd,_⟩:=zeP I.hok e
 have hz:xs.length<=sizeLine:=by rw [<- Paired.length rel]; exact z
 obtain ⟨w',hw,rw'⟩:=zgC.some_of (v:=v) (o:=(atKey xs k).map (·.2)) (by rw [<- hv]; exact rel.val k)
 obtain ⟨p,hp,hp2⟩:=yJ.mp hw
 refine call_meetsIn PySem.F.slot_dict_pop dd.typeIs PySem.F.entry_dict_pop (PySem.F.args_dict_pop_2 _ _) (zfe (knd:=tupleKind (zaR X.prog X.w)) (d:=a) (a:=b) hd) ⟨tupleKind_room_in1 hu,k,xs,p,zdC I.hok eb,dd,hz,hp,fun h' dd' hs=>?_⟩
 rw [hp2]; obtain ⟨q,es,ep',hq,h2,h3,h4,_,h5⟩:=dd'
 have hl:(kvs.filter fun p=>decide (p.1≠k)).length<=sizeLine:=yt (List.length_filter_le _ _) z
 refine h ep' w' _ (zgw I (by rw [e]; exact True.intro) hs ⟨q,hq⟩ ⟨hl,hd,_,(rel.drop k).keeps fun c ys ec=>?_,q,es,hq,h2,h3,h4,h5⟩) rw'
 rw [zr (zpx ec e (fun z=>nomatch z))]
 exact ec
theorem zr1 {Q:Value->Shared->Prop} (hu:A.units+1<cLine) (I:Inv X pins σ H s) (g:zl4 H a y o) (ry:zaV y u) (h:∀ w' s',Inv X pins σ H s'->zaV (o.getD .non) w'->Q w' s') :
  wpAny (model X.prog X.w) A (call (.builtin "dict.get") [.ref a,u]) Q E s:=by
 obtain ⟨kvs,ep,k,b,e,ey,eb,l⟩:=g; subst ey
 cases (show u=Value.ref b from ry)
 obtain ⟨z,hd,xs,rel,dd,_⟩:=zeP I.hok e; refine call_meetsIn PySem.F.slot_dict_get dd.typeIs PySem.F.entry_dict_get (PySem.F.args_dict_get_2 _ _) (meetsH_dict_get (tupleKind (zaR X.prog X.w)) a b hd) ⟨tupleKind_room_in1 hu,k,xs,zdC I.hok eb,dd,h _ _ (I.tok _) ?_⟩; rw [l]
 exact (rel.val k).getD (show zaV .non .none from rfl)
end
def zs8 (td ty:TE):TE:=fun σ H Q=>td σ H fun x H1=>∃ a kvs0 ep0,x=.ref a/\H1 a=some (.dE kvs0 ep0)/\ty σ H1 fun y H2=>∃ kvs ep k b v,H2 a=some (.dE kvs ep)/\y=.ref b/\H2 b=some (.tup (k.map kV))/\zf0 kvs k=some v/\∀ ep',Q v (upd H2 a (.dE (kvs.filter fun p=>decide (p.1≠k)) ep'))
def zqu (td ty:TE):TE:=fun σ H Q=>td σ H fun x H1=>∃ a kvs ep,x=.ref a/\H1 a=some (.dE kvs ep)/\ty σ H1 fun y H2=>∃ o,zl4 H2 a y o/\Q (o.getD .non) H2
section
variable {X:Cx} {o e:Expr} {apos cpos:Pos} {td ty:TE}
theorem zpe (hu:X.A.units+1<cLine) (ho:PE X o td) (he:PE X e ty) (m:M1 X o "pop" apos e cpos):PE X (.Call (.Attribute o "pop" apos) [e] [] cpos) (zs8 td ty):=by
 intro pins s σ H Q I h
 refine wpAny_Call_method m.base m.few m.line PySem.F.plainAttrs_dict PySem.F.slot_dict_pop PySem.F.type_dict_pop (thn (ho pins s σ H _ I h) fun u s1 ⟨x,H1,I1,rx,a,kvs,ep,ex,d,q1⟩=>?_)
 subst ex
 obtain rfl:u=Value.ref a:=rx
 obtain ⟨t1,t2⟩:=zln I1 d; refine ⟨t1,t2,?_⟩; rw [m.trees]
 refine Yd rfl (Calls.evalArgs_plain (Calls.spliced_cons (thn (he pins s1 σ H1 _ I1 q1) fun iv s2 ⟨y,H2,I2,ry,kvs',ep',k,b,v,e1,ey,eb,hv,q2⟩=>Calls.spliced_nil ?_)))
 subst ey
 obtain rfl:iv=Value.ref b:=ry
 exact zua hu I2 e1 eb hv fun ep' w' s4 I4 rw'=>⟨v,_,I4,rw',q2 ep'⟩
theorem zmN (hu:X.A.units+1<cLine) (ho:PE X o td) (he:PE X e ty) (m:M1 X o "get" apos e cpos):PE X (.Call (.Attribute o "get" apos) [e] [] cpos) (zqu td ty):=by
 intro pins s σ H Q I h
 refine wpAny_Call_method m.base m.few m.line PySem.F.plainAttrs_dict PySem.F.slot_dict_get PySem.F.type_dict_get (thn (ho pins s σ H _ I h) fun u s1 ⟨x,H1,I1,rx,a,kvs,ep,ex,d,q1⟩=>?_)
 subst ex
 obtain rfl:u=Value.ref a:=rx
 obtain ⟨t1,t2⟩:=zln I1 d; refine ⟨t1,t2,?_⟩; rw [m.trees]
 refine Yd rfl (Calls.evalArgs_plain (Calls.spliced_cons (thn (he pins s1 σ H1 _ I1 q1) fun iv s2 ⟨y,H2,I2,ry,ov,g,q3⟩=>Calls.spliced_nil ?_)))
 exact zr1 hu I2 g ry fun w' s4 I4 rw'=>⟨_,H2,I4,rw',q3⟩
end
end L2
namespace PL
open PySem L2
section
variable {X:Cx}
theorem ziV {Hi H:Hp} {b:Addr} {u':HO} (s:Fz Hi H) (hb:Hi b=none) {u:HO} (hu:H b=some u) (nt:∀ xs,u≠.tup xs) (nt':∀ xs,u'≠.tup xs):ExtB b Hi H Hi (upd H b u'):=by
 refine ⟨zaI.refl _,fun a o ne q=>by rw [zr ne]; exact q,⟨fun a o q=>?_,fun a xs q=>?_⟩,fun _ _ _=>rfl⟩
 ·rw [zr (fun z=>by rw [z,hb] at q; cases q)]
  exact s.sub a o q
 ·by_cases z:a=b
  ·subst z
   rw [zo] at q; exact yQ (Option.some.inj q) (nt' xs)
  ·rw [zr z] at q
   exact s.tups a xs q
def zby:TO':=fun Γ Q=>Q (.dit []) Γ
theorem zo1 {pos:Pos}:PO' X (.Dict [] [] pos) zby:=by
 refine ⟨PE.weak zpf ?_⟩
 rintro σ H Q ⟨W,Hi,Γ,Q',g,q,fin⟩
 intro p hp
 exact fin p _ Hi Γ (.dit []) (zaI.refl _) (g.ext (Ext.newO g.fz hp _ (fun _ z=>by cases z))) (New.mk' g hp ⟨[],0,zo,.nil⟩) q
def zaB (i:Nat) (tk tv:TE'):TS':=fun N Γ=>tv Γ fun v Γ1=>(∃ b0 ds0,Γ1[i]?=some (.bk (fun z=>z) b0 (.dit ds0)))/\tk Γ1 fun k Γ2=>∃ (b:Addr) (ds:List (D × D)) (ks:List Key),Γ2[i]?=some (.bk (fun z=>z) b (.dit ds))/\k=.tup (ks.map zdY)/\ds.length<sizeLine/\N.nx (Γ2.set i (.bk (fun z=>z) b (.dit (zqj ds k v))))
theorem zgf (hu:X.A.units+1<cLine) (i:Nat) {x:Str} {k value:Expr} {tk tv:TE'} {p pos pos':Pos} (hk:PE' X k tk) (hv:PE' X value tv) (hN:X.N[i]?=some x:=by rfl) (hvi:Vis X.env.scope x:=by first | exact YJ rfl | exact yr (YJ rfl) | exact yr (yr rfl)) (hd:(x == ("__debug__":Str))=false:=by decide)
  (hcd:(x == ("__classdict__":Str))=false:=by decide) (hs:swapsWith value (some (.Subscript (.Name x p) k pos')) pos.line X.env=pure false:=by rfl) :
  PS' X (.Assign [.Subscript (.Name x p) k pos'] value pos) (zaB i tk tv):=by
 refine ⟨PS.weak (zoX hu (zcj (i:=i) (pos:=p) hN hvi hd hcd) hk.h hv.h hs) ?_⟩
 rintro N2 σ H ⟨W,Hi,Γ,N,g,q,l⟩
 refine ⟨W,Hi,Γ,_,g,q,?_⟩
 rintro v H1 ⟨Hi1,d,Γ1,s1,g1,den,⟨b0,ds0,e0⟩,q1⟩
 obtain ⟨v0,hv0,den0⟩:=(g1.bk i _ _ _ e0).val
 cases den0.adrI
 refine ⟨.ref b0,hv0,W,Hi1,Γ1,_,g1,q1,?_⟩
 rintro y H2 ⟨Hi2,dk,Γ2,s2,g2,den2,b,ds,ks,e2,rfl,hl,q2⟩
 have B:=g2.bk i _ _ _ e2; obtain ⟨v2,hv2,dv2⟩:=B.val
 cases dv2.adrI
 rw [hv0] at hv2; cases hv2; obtain ⟨kvs,ep,k4,k5⟩:=B.at_; obtain ⟨c,rfl,hb⟩:=ze1 den2
 refine ⟨b0,kvs,ep,ks,c,rfl,k4,rfl,g2.sub _ _ hb,by rw [zn k5]; exact hl,fun ep'=>?_⟩
 exact l.nx σ _ Hi2 _ (s1.trans s2) (g2.extB (xs':=.dit (zqj ds (.tup (ks.map zdY)) d)) e2 (ziV g2.fz B.hi k4 (fun _ z=>by cases z) (fun _ z=>by cases z)) ⟨_,_,zo,zvl k5 ks (den.mono s2)⟩) q2
def zdn (i:Nat) (tk:TE'):TE':=fun Γ Q=>(∃ b0 ds0,Γ[i]?=some (.bk (fun z=>z) b0 (.dit ds0)))/\tk Γ fun k Γ1=>∃ (b:Addr) (ds:List (D × D)) (ks:List Key) (v:D),Γ1[i]?=some (.bk (fun z=>z) b (.dit ds))/\k=.tup (ks.map zdY)/\zdZ ds k=some v/\Q v Γ1
theorem zrh (hu:X.A.units+1<cLine) (i:Nat) {x:Str} {k:Expr} {tk:TE'} {p pos:Pos} (hk:PE' X k tk) (hN:X.N[i]?=some x:=by rfl) (hvi:Vis X.env.scope x:=by first | exact YJ rfl | exact yr (YJ rfl) | exact yr (yr rfl)) (hd:(x == ("__debug__":Str))=false:=by decide)
  (hcd:(x == ("__classdict__":Str))=false:=by decide) (hs:zir k:=by intro _ _; rfl) :
  PE' X (.Subscript (.Name x p) k pos) (zdn i tk):=by
 refine ⟨PE.weak (zri (zlj hu) (zcj (i:=i) (pos:=p) hN hvi hd hcd) hk.h hs) ?_⟩
 rintro σ H Q ⟨W,Hi,Γ,Q',g,⟨⟨b0,ds0,e0⟩,q⟩,fin⟩
 obtain ⟨v0,hv0,den0⟩:=(g.bk i _ _ _ e0).val
 cases den0.adrI
 refine ⟨.ref b0,hv0,W,Hi,Γ,_,g,q,?_⟩
 rintro y H2 ⟨Hi2,dk,Γ2,s2,g2,den2,b,ds,ks,v,e2,rfl,ef,q2⟩
 have B:=g2.bk i _ _ _ e2; obtain ⟨v2,hv2,dv2⟩:=B.val
 cases dv2.adrI
 rw [hv0] at hv2; cases hv2; obtain ⟨kvs,ep,k4,k5⟩:=B.at_; obtain ⟨c,rfl,hb⟩:=ze1 den2; have r:=znw k5 ks; rw [ef] at r
 cases hw:zf0 kvs ks with
 | none=>rw [hw] at r; cases r
 | some w =>
  rw [hw] at r
  cases r with
  | some h=>exact ⟨b0,w,rfl,⟨kvs,ep,ks,c,k4,rfl,g2.sub _ _ hb,hw.symm⟩,fin _ _ ⟨Hi2,v,Γ2,s2,g2,h,q2⟩⟩
open Classical in
noncomputable def zjV (ds:List (D × D)) (k:D):List (D × D):=ds.filter fun p=>decide (p.1≠k)
theorem zuc {K:W.Frag} {H:Hp} {kvs:List (List Key × V)} {ds:List (D × D)} (r:zi8 K H kvs ds) (ks:List Key):zi8 K H (kvs.filter fun p=>decide (p.1≠ks)) (zjV ds (.tup (ks.map zdY))):=by
 unfold zjV
 induction r with
 | nil=>exact .nil
 | @cons p q ps qs h t ih =>
  by_cases e:p.1=ks
  ·have e':q.1=.tup (ks.map zdY):=h.1.trans (by rw [e])
   rw [yx,yx,yK (by simp [e]),yK (by simp [e'])]
   exact ih
  ·have e':¬ q.1=.tup (ks.map zdY):=fun z=>e (zei (by
    have:=h.1.symm.trans z
    injection this))
   rw [yx,yx,yN (by simp [e]),yN (by simp [e'])]
   exact .cons h ih
def zbx (i:Nat) (tk:TE'):TS':=fun N Γ=>(∃ b0 ds0,Γ[i]?=some (.bk (fun z=>z) b0 (.dit ds0)))/\tk Γ fun k Γ1=>∃ (b:Addr) (ds:List (D × D)) (ks:List Key),Γ1[i]?=some (.bk (fun z=>z) b (.dit ds))/\k=.tup (ks.map zdY)/\(zdZ ds k).isSome=true/\N.nx (Γ1.set i (.bk (fun z=>z) b (.dit (zjV ds k))))
theorem zoW (hu:X.A.units+1<cLine) (i:Nat) {x:Str} {k:Expr} {tk:TE'} {p apos cpos pos:Pos} (hk:PE' X k tk) (hN:X.N[i]?=some x:=by rfl) (hvi:Vis X.env.scope x:=by first | exact YJ rfl | exact yr (YJ rfl) | exact yr (yr rfl)) (hd:(x == ("__debug__":Str))=false:=by decide)
  (hcd:(x == ("__classdict__":Str))=false:=by decide) (m:M1 X (.Name x p) "pop" apos k cpos:=by exact ⟨rfl,rfl,rfl,rfl⟩)
  (hs:swapsWith (.Call (.Attribute (.Name x p) "pop" apos) [k] [] cpos) none pos.line X.env=pure false:=by rfl) :
  PS' X (.Expr (.Call (.Attribute (.Name x p) "pop" apos) [k] [] cpos) pos) (zbx i tk):=by
 refine ⟨PS.weak (zeu (zpe hu (zcj (i:=i) (pos:=p) hN hvi hd hcd) hk.h m) hs) ?_⟩
 rintro N2 σ H ⟨W,Hi,Γ,N,g,⟨⟨b0,ds0,e0⟩,q⟩,l⟩
 have B0:=g.bk i _ _ _ e0; obtain ⟨v0,hv0,den0⟩:=B0.val
 cases den0.adrI
 obtain ⟨kvs0,ep0,k40,_⟩:=B0.at_; refine ⟨.ref b0,hv0,b0,kvs0,ep0,rfl,k40,W,Hi,Γ,_,g,q,?_⟩
 rintro y H2 ⟨Hi2,dk,Γ2,s2,g2,den2,b,ds,ks,e2,rfl,ef,q2⟩
 have B:=g2.bk i _ _ _ e2; obtain ⟨v2,hv2,dv2⟩:=B.val
 cases dv2.adrI
 rw [hv0] at hv2; cases hv2; obtain ⟨kvs,ep,k4,k5⟩:=B.at_; obtain ⟨c,rfl,hb⟩:=ze1 den2; have r:=znw k5 ks
 cases hw:zf0 kvs ks with
 | none =>
  rw [<- r.isSome,hw] at ef; cases ef
 | some w =>
  refine ⟨kvs,ep,ks,c,w,k4,rfl,g2.sub _ _ hb,hw,fun ep'=>?_⟩
  exact l.nx σ _ Hi2 _ s2 (g2.extB (xs':=.dit (zjV ds (.tup (ks.map zdY)))) e2 (ziV g2.fz B.hi k4 (fun _ z=>by cases z) (fun _ z=>by cases z)) ⟨_,_,zo,zuc k5 ks⟩) q2
def zaz (td ty:TE'):TE':=fun Γ Q=>td Γ fun d Γ1=>(∃ ds,d=.dit ds)/\ty Γ1 fun k Γ2=>∃ (ds:List (D × D)) (ks:List Key),d=.dit ds/\k=.tup (ks.map zdY)/\Q ((zdZ ds k).getD .non) Γ2
theorem zmM (hu:X.A.units+1<cLine) {o e:Expr} {apos cpos:Pos} {td ty:TE'} (ho:PE' X o td) (he:PE' X e ty) (m:M1 X o "get" apos e cpos:=by exact ⟨rfl,rfl,rfl,rfl⟩) :
  PE' X (.Call (.Attribute o "get" apos) [e] [] cpos) (zaz td ty):=by
 refine ⟨PE.weak (zmN hu ho.h he.h m) ?_⟩
 rintro σ H Q ⟨W,Hi,Γ,Q',g,h,fin⟩
 refine ⟨W,Hi,Γ,_,g,h,?_⟩
 rintro x H1 ⟨Hi1,d,Γ1,s1,g1,den1,⟨ds,rfl⟩,h1⟩
 obtain ⟨a,kvs,ep,rfl,ha,dk⟩:=den1.ditI; refine ⟨a,kvs,ep,rfl,g1.sub _ _ ha,W,Hi1,Γ1,_,g1,h1,?_⟩
 rintro y H2 ⟨Hi2,dy,Γ2,s2,g2,den2,ds',ks,e1,rfl,q⟩
 cases e1; obtain ⟨a',o,e2,gt,r⟩:=znz g2.fz (den1.mono s2) den2; cases e2; exact ⟨o,gt,fin _ H2 ⟨Hi2,_,Γ2,s1.trans s2,g2,r.getD .non,q⟩⟩
end
end PL
namespace Itm
open PySem
section
variable {prog:Program} {w:World} {A:Around} {E:Value->Shared->Prop} {s:Shared} {d:Addr} {o:Obj} {es:Array DictEntry} {ep:Nat}
theorem meets_items (hd:(d == sysModules)=false):MeetsIn prog w (Builtin.«dict.items» ⟨[.ref d],[]⟩) (fun _ R s=>s.TypeIs (.ref d) "dict"/\R (.ok (.ret (.ref s.heap.objs.size))) { s with heap:=s.heap.push { cls:=.type "dict_items",data:=.fields #[.ref d] } }) :=
 .of_wp fun A R s ⟨ty,q⟩=>by
  unfold Builtin.«dict.items» Builtin.Dict.noArgs; refine yA (yA (wpAny_notOrdered_dict ty ?_))
  show wpAny _ _ (pure d) _ _ s
  refine yG ?_; unfold Builtin.Dict.showsAll; rw [yK (by rw [hd]; decide)]
  exact yA (yG (yA (yh (yG ⟨_,rfl,q⟩))))
theorem entry_iter:entryFor table "dict_itemiterator.__iter__"=some Builtin.«dict_keyiterator.__iter__»:=entryFor_alias (id':="dict_keyiterator.__iter__") (by kernel_rfl) rfl (by decide +kernel) (by kernel_rfl)
theorem zpj:Builtin.Dict_items.ownsTuple "dict_itemiterator"=true:=by decide
theorem iter_items {v:Addr} {Q:Value->Shared->Prop} (V:s.heap.IsItemsView v d) (gd:s.heap.get? d=some o) (dd:o.data=.dict es ep)
  (q:Q (.ref s.heap.objs.size) { s with heap:=s.heap.push { cls:=.type "dict_itemiterator",data:=.fields #[.none,.bool false,.ref d,.int 0 0,.int es.size 0,.int ep 0,.none,.none] } }):wpAny (model prog w) A (pyIter (.ref v)) Q E s:=by
 obtain ⟨ov,gv,_,dv⟩:=id V
 refine wpAny_pyIter_slot V.typeIs F.slot_dict_items_iter (yu F.slot_dict_items_iter V.typeIs F.entry_dict_items_iter ?_ (F.args_dict_items_iter_1 _)); unfold Builtin.«dict_items.__iter__»
 refine yA (yG (yA ?_)); unfold Builtin.Dict_items.dictOf
 refine yA (YB gv dv (x:=.ref d) rfl (yG (yA ?_))); unfold Builtin.Dict_items.newIterator
 refine yA (YL gd dd (yA (wpAny_dictEpoch gd dd ?_))); simp only [zpj,if_true]
 refine yh (yG ⟨_,rfl,"dict_itemiterator",_,⟨_,yI _ rfl,rfl⟩,F.slot_dict_itemiterator_next.lookup,?_⟩) ?_
 ·simpa [rawInt,Builtin.Dict_items.ownedTupleFields] using q
 ·simp only [sizeOk,Builtin.Dict_items.ownedTupleFields,yL,yY,yf,Yu,sizeLine_eq]; omega
theorem next_items {it:Addr} {i:Nat} {e:DictEntry} {ok ov:Value} {Q:Option Value->Shared->Prop} (I0:IsItemIter s.heap it d i es.size ep ok ov) (gd:s.heap.get? d=some o) (dd:o.data=.dict es ep) (hx:es[i]?=some e)
  (q:∀ h',IsItemIterOut h' it d (i+1) es.size ep e.key e.val s.heap.objs.size->h'.get? s.heap.objs.size=some { cls:=.type "tuple",data:=.seq #[e.key,e.val] }->(∀ b u,b≠it->s.heap.get? b=some u->h'.get? b=some u)->Q (some (.ref s.heap.objs.size)) { s with heap:=h' }):wpAny (model prog w) A (pyNext (.ref it)) Q E s:=by
 obtain ⟨hp,g,dr,tk,os⟩:=s
 have T0:Shared.TypeIs ⟨hp,g,dr,tk,os⟩ (.ref it) "dict_itemiterator":=⟨_,I0,rfl⟩
 unfold pyNext; refine yA (Yj (wpAny_callSpecial?_slot (name:=Str.ofString "__next__") T0 F.slot_dict_itemiterator_next (yu F.slot_dict_itemiterator_next T0 F.entry_dict_itemiterator_next ?_ (F.args_dict_itemiterator_next_1 _))))
 refine yA (yG (yA (yA ?_)))
 first | refine yA (Yl T0 (yG (yA (Ym I0 rfl ?_)))) | refine yA (wpAny_typeNameOf_itemiter T0 (yG (yA (Ym I0 rfl ?_))))
 simp only [zpj,if_true]
 show wpAny _ _ (if (Value.ref d == Value.none)=true then _ else _) _ _ _
 rw [yK (by simp)]; refine yA (yG (yA (YL gd dd ?_)))
 rw [yK (by simp)]; refine yA (yG (yA (wpAny_dictEpoch gd dd ?_)))
 rw [yK (by simp)]; refine yG ?_
 simp only [show ¬ ((i:Int)<0) from by omega,if_false,YN,hx]; refine yA ?_
 first | refine yA (Yl T0 (yG (yA (wpAny_isOneOf_itemiter T0 ?_)))) | refine yA (wpAny_typeNameOf_itemiter T0 (yG (yA (wpAny_isOneOf_itemiter T0 ?_))))
 show wpAny _ _ (setField (.ref it) 3 (rawInt ((i:Int)+1)) >>= _) _ _ ⟨hp,g,dr,tk,os⟩
 refine yA (YD I0 (by simp) fun h1 I1 S1=>?_)
 replace S1:Heap.SameBut it hp h1:=S1
 replace I1:IsItemIter h1 it d (i+1) es.size ep ok ov:=by
  unfold IsItemIter; rw [show ((i+1:Nat):Int)=(i:Int)+1 by omega]; simpa [rawInt] using I1
 have T1:Shared.TypeIs ⟨h1,g,dr,tk,os⟩ (.ref it) "dict_itemiterator":=⟨_,I1,rfl⟩
 refine yA (YH (yA (wpAny_isOneOf_itemiter T1 (yA (wpAny_isOneOf_itemiter T1 ?_)))))
 show wpAny _ _ (Builtin.Dict_items.pairFromOwner (.ref it) 6 e.key e.val) _ _ ⟨h1,g,dr,tk,os⟩
 unfold Builtin.Dict_items.pairFromOwner; refine yA (wpAny_newTuple ?_)
 have I2:IsItemIter (h1.push { cls:=.type "tuple",data:=.seq #[e.key,e.val] }) it d (i+1) es.size ep ok ov:=yC _ I1
 generalize eh:h1.push { cls:=.type "tuple",data:=.seq #[e.key,e.val] }=h2 at I2
 have z1:h1.objs.size=hp.objs.size:=S1.1
 have lt0:it<hp.objs.size:=yM I0
 have t2:h2.get? hp.objs.size=some { cls:=.type "tuple",data:=.seq #[e.key,e.val] }:=by rw [<- eh,<- z1]; exact yI _ rfl
 have k2:∀ b u,b≠it->hp.get? b=some u->h2.get? b=some u:=fun b u hb z=>by rw [<- eh]; exact yC _ (S1.extBut b u hb z)
 show wpAny _ _ (Builtin.Dict_items.ownedTupleIsFree (.ref it) >>= _) _ _ ⟨h2,g,dr,tk,os⟩
 rw [z1]; clear eh I1 S1 T1 z1 h1
 refine yA ?_; unfold Builtin.Dict_items.ownedTupleIsFree
 refine yA (YB I2 rfl (x:=.none) rfl (yG ?_)); simp only [if_true]
 refine yA (YB I2 rfl (x:=ok) rfl (yA (YB I2 rfl (x:=ov) rfl (yA (YD I2 (by simp) fun h3 I3 S3=>?_)))))
 replace S3:Heap.SameBut it h2 h3:=S3
 replace I3:IsItemIter h3 it d (i+1) es.size ep e.key ov:=I3
 refine yA (YD I3 (by simp) fun h4 I4 S4=>?_)
 replace S4:Heap.SameBut it h3 h4:=S4
 replace I4:IsItemIter h4 it d (i+1) es.size ep e.key e.val:=I4
 refine yA (YD I4 (by simp) fun h5 I5 S5=>?_)
 replace S5:Heap.SameBut it h4 h5:=S5
 replace I5:IsItemIterOut h5 it d (i+1) es.size ep e.key e.val hp.objs.size:=I5
 refine yA (YD I5 (by simp) fun h6 I6 S6=>?_)
 replace S6:Heap.SameBut it h5 h6:=S6
 replace I6:IsItemIterOut h6 it d (i+1) es.size ep e.key e.val hp.objs.size:=I6
 have up:∀ b u,b≠it->h2.get? b=some u->h6.get? b=some u:=fun b u hb z=>S6.extBut b u hb (S5.extBut b u hb (S4.extBut b u hb (S3.extBut b u hb z)))
 exact yA (wpAny_letGo (yG (yG ⟨_,rfl,yG (q h6 I6 (up _ _ (Nat.ne_of_gt lt0) t2) fun b u hb z=>up b u hb (k2 b u hb z))⟩)))
theorem stop_items {it:Addr} {i:Nat} {ok ov:Value} {Q:Option Value->Shared->Prop} (hh:A.handled=none) (I0:IsItemIter s.heap it d i es.size ep ok ov) (gd:s.heap.get? d=some o) (dd:o.data=.dict es ep) (hx:es[i]?=none)
  (q:∀ h',Heap.ExtBut it s.heap h'->Q none { s with heap:=h' }):wpAny (model prog w) A (pyNext (.ref it)) Q E s:=by
 have T0:s.TypeIs (.ref it) "dict_itemiterator":=⟨_,I0,rfl⟩
 unfold pyNext; refine yA (Yj (wpAny_callSpecial?_slot (name:=Str.ofString "__next__") T0 F.slot_dict_itemiterator_next (yu F.slot_dict_itemiterator_next T0 F.entry_dict_itemiterator_next ?_ (F.args_dict_itemiterator_next_1 _))))
 refine yA (yG (yA (yA ?_)))
 first | refine yA (Yl T0 (yG (yA (Ym I0 rfl ?_)))) | refine yA (wpAny_typeNameOf_itemiter T0 (yG (yA (Ym I0 rfl ?_))))
 simp only [zpj,if_true]
 show wpAny _ _ (if (Value.ref d == Value.none)=true then _ else _) _ _ s
 rw [yK (by simp)]; refine yA (yG (yA (YL gd dd ?_)))
 rw [yK (by simp)]; refine yA (yG (yA (wpAny_dictEpoch gd dd ?_)))
 rw [yK (by simp)]; refine yG ?_
 simp only [show ¬ ((i:Int)<0) from by omega,if_false,YN,hx]; refine yA ?_
 first | refine yA (Yl T0 (yG ?_)) | refine yA (wpAny_typeNameOf_itemiter T0 (yG ?_))
 show wpAny _ _ (setField (.ref it) 2 .none >>= _) _ _ s
 refine yA (wpAny_setField I0 rfl (by simp) ?_)
 show wpAny _ _ (newExc (.type "StopIteration") [] >>= _) _ _ _
 refine yA ?_; simp only [newExc,newTuple]
 refine yA (yh ?_ (by size_fits)); refine yA (m:=firstArgMember _ _) (wpAny_of_eq (a:=Value.none) (by first | rfl | (simp only [firstArgMember]; rfl)) (yh ?_ (by size_fits)))
 simp only [raiseNew]; refine yA (wpAny_handled ?_)
 rw [show A.in1.handled=none from hh]; refine yA (yG (wpAny_throw ?_))
 refine yA (wpAny_isInstance (b:=true) (T:="StopIteration") ⟨_,yI _ rfl,rfl⟩ isSubtype_stop ?_); exact yG (q _ (((Heap.SameBut.update ..).extBut.push _).push _))
end
end Itm
namespace L2
open PySem PySem.Spec PyProof.Rows Zp
def Iti (a:Addr) (kvs:List (List Key × V)) (ep:Nat):It :=
  ⟨fun i H=>H a=some (.dE kvs ep)/\i<kvs.length,
   fun i H v H'=>∃ p b k x,H p=none/\v=.ref p/\kvs[i]?=some (k,x)/\H b=some (.tup (k.map kV))/\H'=upd H p (.tup [.ref b,x]),
   fun i H=>H a=some (.dE kvs ep)/\kvs.length<=i⟩
theorem zjd {P:Program} {w:World} {K:W.Frag} {elts:List Expr} {c:Nat} {pos:Pos} (a it:Addr) (kvs:List (List Key × V)) (ep:Nat):Turn P w K (.Tuple elts c pos) (Iti a kvs ep) [it] it
  (fun i h=>∃ ok ov,IsItemIter h it a i kvs.length ep ok ov) where
 mem:=by simp
 obj:=by
  rintro i h ⟨ok,ov,g⟩ d hd
  have e:d=it:=by simpa using hd
  subst e
  exact ⟨_,g,fun v z=>by cases z⟩
 keep:=by
  rintro i h h' ⟨ok,ov,g⟩ k
  exact ⟨ok,ov,k it (by simp) _ g⟩
 item:=by
  intro X hP hw hK hc i pins s σ H E I hf st hg
  subst hP hw hK
  obtain ⟨ok,ov,g⟩:=st; obtain ⟨hq,hi⟩:=hg; obtain ⟨z,hd,xs,rel,_,o,es,ho,hx,hdat,he⟩:=zeP I.hok hq
  have hl:kvs.length=xs.length:=Paired.length rel
  have hs:es.size=kvs.length:=by
   have:=yo List.length he
   rw [yF,yz] at this; rw [this,hl]
  have hix:i<xs.length:=by rw [<- hl]; exact hi
  have q:=PL.paired_get i rel (yB hi) (yB hix)
  have hk:es[i]?=some (entryOfKey (tupleKind (zaR X.prog X.w)) xs[i]):=by
   rw [entry_at he i,yB hix]; rfl
  rw [<- hs] at g
  refine Itm.next_items g ho hdat hk fun h' c1 c2 c3=>⟨_,rfl,?_⟩
  refine wpAny_letOwnedTupleGo_items (s:={ s with heap:=h' }) c1 fun h2 e1 e2=>?_
  have ext:=zC e2
  have kk:∀ d o,d ∉ [it]->s.heap.get? d=some o->h2.get? d=some o:=fun d o hd q=>by
   have hd':d≠it:=by simpa using hd
   exact ext d o hd' (c3 d o hd' q)
  have fr:H s.heap.objs.size=none:=I.hok.fresh (yH _)
  have pe:s.heap.objs.size≠it:=Nat.ne_of_gt (yM g)
  have tp:=ext _ _ pe c2
  have I2:Inv X pins σ (upd H s.heap.objs.size (.tup [.ref xs[i].2.1,kvs[i].2])) { s with heap:=h2 }:=I.turnedNew (t':=s.toks) (ch:=[it]) hf kk (yH _)
   ⟨by show 2<=sizeLine; exact Nat.le_of_lt (zap (by decide)),[.ref xs[i].2.1,xs[i].2.2],.cons rfl (.cons q.2.2 .nil),⟨_,tp,rfl,_,rfl⟩⟩
  rw [hs] at e1
  refine ⟨.ref s.heap.objs.size,_,I2,rfl,⟨_,xs[i].2.1,kvs[i].1,kvs[i].2,fr,rfl,yB hi,q.2.1,rfl⟩,⟨_,_,e1⟩,fun d hd=>?_⟩
  have e:d=it:=by simpa using hd
  subst e; rw [zr (Ne.symm pe)]; exact (hf d hd).1
 done:=by
  intro X hP hw hK hc i pins s σ H E I hf st hg
  subst hP hw hK
  obtain ⟨ok,ov,g⟩:=st; obtain ⟨hq,hi⟩:=hg; obtain ⟨z,hd,xs,rel,_,o,es,ho,hx,hdat,he⟩:=zeP I.hok hq
  have hs:es.size=kvs.length:=by
   have:=yo List.length he
   rw [yF,yz] at this; rw [this,Paired.length rel]
  rw [<- hs] at g
  refine Itm.stop_items (I.ok.hd hc) g ho hdat (Array.getElem?_eq_none (by omega)) fun h' k=>⟨rfl,?_⟩
  refine I.turnedL (t':=s.toks) (ch:=[it]) hf fun d o hd q=>?_
  exact k d o (by simpa using hd) q
 self:=fun A i s Q E st q=>by
  obtain ⟨ok,ov,g⟩:=st
  have hT:s.TypeIs (.ref it) "dict_itemiterator":=⟨_,g,rfl⟩
  refine wpAny_pyIter_slot hT PySem.F.slot_dict_itemiterator_iter (yu PySem.F.slot_dict_itemiterator_iter hT Itm.entry_iter ?_ (PySem.F.args_dict_itemiterator_iter_1 _))
  show wpAny _ _ (ret (.ref it)) _ _ s
  exact yG ⟨_,rfl,"dict_itemiterator",_,hT,PySem.F.slot_dict_itemiterator_next.lookup,q⟩
section
variable {X:Cx}
def zrV (td:TE):TI:=fun σ H R=>td σ H fun x H1=>∃ a kvs ep,x=.ref a/\H1 a=some (.dE kvs ep)/\R (Iti a kvs ep) H1
theorem zmD {o:Expr} {elts:List Expr} {c:Nat} {td:TE} {apos cpos tp:Pos} (ho:PE X o td) (hbase:attributeBase o "items" X.env (eval o X.env)=eval o X.env) (hline:(apos.endLine == cpos.line)=true) :
  PI X (.Tuple elts c tp) (.Call (.Attribute o "items" apos) [] [] cpos) (zrV td):=by
 intro pins s σ H R I h
 refine wpAny_Call_method hbase rfl hline PySem.F.plainAttrs_dict PySem.F.slot_dict_items PySem.F.type_dict_items (thn (ho pins s σ H _ I h) fun u s1 ⟨x,H1,I1,rx,a,kvs,ep,ex,d,q1⟩=>?_)
 subst ex
 obtain rfl:u=Value.ref a:=rx
 obtain ⟨t1,t2⟩:=zln I1 d; refine ⟨t1,t2,?_⟩; obtain ⟨z,hd,xs,rel,dd,ob,es,hob,hx,hdat,he⟩:=zeP I1.hok d
 have hs:es.size=kvs.length:=by
  have:=yo List.length he
  rw [yF,yz] at this; rw [this,Paired.length rel]
 refine Yd rfl (PySem.evalArgs_none ?_); refine call_meetsIn PySem.F.slot_dict_items dd.typeIs PySem.F.entry_dict_items (PySem.F.args_dict_items_1 _) (Itm.meets_items hd) ⟨dd.typeIs,?_⟩
 have hob':(s1.heap.push { cls:=.type "dict_items",data:=.fields #[.ref a] }).get? a=some ob:=yC _ hob
 refine Itm.iter_items (s:={ s1 with heap:=s1.heap.push { cls:=.type "dict_items",data:=.fields #[.ref a] } }) (v:=s1.heap.objs.size) ⟨_,yI _ rfl,rfl,rfl⟩ hob' hdat ?_
 rw [hs]
 refine ⟨_,[(s1.heap.push { cls:=.type "dict_items",data:=.fields #[.ref a] }).objs.size],_,_,H1,rfl,I1.kept (t':=s1.toks) fun b u e=>yC _ (yC _ e),zjd a _ kvs ep,⟨_,_,yI _ rfl⟩,fun b hb=>?_,q1⟩
 have e:b=(s1.heap.push { cls:=.type "dict_items",data:=.fields #[.ref a] }).objs.size:=by simpa using hb
 have hb':s1.heap.objs.size<=b:=by rw [e,YW]; omega
 exact I1.fpOk hb' (I1.hok.fresh hb')
end
end L2
namespace PL
open PySem L2
theorem zlm {K:W.Frag} {Hi:Hp} {a:Addr} {kvs:List (List Key × V)} {ep:Nat} {ds:List (D × D)} (h:Hi a=some (.dE kvs ep)) (r:zi8 K Hi kvs ds):ItD K Hi (Iti a kvs ep) (ds.map fun p=>.tup [p.1,p.2]):=by
 intro Hi' H' s1 s2
 have hq:H' a=some (.dE kvs ep):=(s1.trans s2.sub) _ _ h
 have hl:=zn r
 refine ⟨fun i d e=>?_,hq,by rw [yF,hl]; exact yH _⟩
 rw [yE] at e
 cases hc:ds[i]? with
 | none=>rw [hc] at e; cases e
 | some q =>
  rw [hc] at e; cases e; obtain ⟨p,e1,e2⟩:=zR r hc; refine ⟨⟨hq,(yD.mp e1).1⟩,?_⟩
  rintro v H'' ⟨np,b,k,x,hnp,rfl,ek,hb,rfl⟩
  rw [e1] at ek; cases ek; have ex:=Ext.new s2 hnp (.tup [.ref b,x]); refine ⟨_,ex,Den.mkT zo (.cons ?_ (.cons (e2.2.mono (s1.trans ex.hi)) .nil))⟩; rw [e2.1]; exact Den.mkT (ex.hi _ _ (s2.tups _ _ hb)) (zli _)
def zM (t:TE'):TI':=fun Γ Q=>t Γ fun d Γ1=>∃ ds,d=.dit ds/\Q (ds.map fun p=>.tup [p.1,p.2]) Γ1
theorem zkQ {X:Cx} {o:Expr} {elts:List Expr} {c:Nat} {t:TE'} {apos cpos tp:Pos} (ho:PE' X o t) (hbase:attributeBase o "items" X.env (eval o X.env)=eval o X.env:=by rfl) (hline:(apos.endLine == cpos.line)=true:=by rfl):PI' X (.Tuple elts c tp) (.Call (.Attribute o "items" apos) [] [] cpos) (zM t):=by
 refine ⟨PI.weak (zmD ho.h hbase hline) ?_⟩
 rintro σ H R ⟨W,Hi,Γ,Q',g,h,fin⟩
 refine ⟨W,Hi,Γ,_,g,h,?_⟩
 rintro v H1 ⟨Hi1,d,Γ1,s1,g1,den,ds,rfl,q⟩
 obtain ⟨a,kvs,ep,rfl,h1,h2⟩:=den.ditI; exact ⟨a,kvs,ep,rfl,g1.sub _ _ h1,fin _ H1 Hi1 Γ1 _ s1 g1 (zlm h1 h2) q⟩
instance {t:TA'} [MA t]:MI (zas t):=⟨fun Γ _ _ h q=>MA.mono (t:=t) _ _ _ (fun _ _ ⟨ds,e,z⟩=>⟨ds,e,h _ _ z⟩) q⟩
section
variable {X:Cx}
end
section
variable {P:Program} {w:World} {K:W.Frag} {mg:Str->Option Value} {base:Heap}
end
end PL
namespace M34
open PySem L2 PL
inductive Deed where
 | ch (day:Int) (c s:D) | lat (n:List Nat) (i day:Int) | ins (n:List Nat) (i:Int) (c:D) | drp (n:List Nat) (i:Int)
def zsL:List Nat:=[99,104,97,110,103,101]
def zqg:List Nat:=[108,97,116,101,114]
def zqh:List Nat:=[105,110,115,116,101,97,100]
def zqi:List Nat:=[100,114,111,112]
def deD:Deed->D
 | .ch d c s=>.tup [.str zsL,.int d,c,s]
 | .lat n i d=>.tup [.str zqg,.str n,.int i,.int d]
 | .ins n i c=>.tup [.str zqh,.str n,.int i,c]
 | .drp n i=>.tup [.str zqi,.str n,.int i]
structure Row where
 nm:List Nat
 num:Int
 day:Int
 c:D
 s:D
def Row.is (r:Row) (n:List Nat) (i:Int):Bool:=decide (r.nm=n/\r.num=i)
def zhi (n:List Nat) (i:Int):D:=.tup [.str n,.int i]
def zd0 (r:Row):D × D:=(zhi r.nm r.num,.tup [.int r.day,r.c,r.s])
def zds (r:Row):D:=.tup [.int r.day,.str r.nm,.int r.num,r.c,r.s]
def zbp (rs:List Row) (n:List Nat) (i:Int):Option Row:=rs.find? fun r=>r.is n i
def zeI (rs:List Row) (r:Row):List Row:=if (zbp rs r.nm r.num).isSome=true then rs.map (fun x=>if x.is r.nm r.num=true then r else x) else rs ++ [r]
def zeN (rs:List Row) (n:List Nat) (i:Int):List Row:=rs.filter fun r=>!r.is n i
def zcn (rs:List Row) (made:Int) (n:List Nat) (i:Int) (f:Row->List Row):List Row:=match zbp rs n i with
 | none=>rs
 | some r=>if made<r.day then f r else rs
def take (rs:List Row) (nm:List Nat) (made num:Int):Deed->List Row
 | .ch d c s=>zeI rs ⟨nm,num,d,c,s⟩
 | .lat n i d=>zcn rs made n i fun r=>zeI rs { r with day:=d }
 | .ins n i c=>zcn rs made n i fun r=>zeI rs { r with c:=c }
 | .drp n i=>zcn rs made n i fun _=>zeN rs n i
def zZ (nm:List Nat) (made:Int):List Row->Nat->List Deed->List Row
 | rs,_,[]=>rs
 | rs,k,d :: ds=>zZ nm made (take rs nm made k d) (k+1) ds
theorem zdX {n m:List Nat} {i j:Int}:zhi n i=zhi m j↔n=m/\i=j:=by
 unfold zhi; constructor
 ·intro h
  injection h with h
  simp only [List.cons.injEq,D.str.injEq,D.int.injEq,and_true] at h; exact h
 ·rintro ⟨rfl,rfl⟩
  rfl
def ztR (n:List Nat) (i:Int):List Key:=[.inr (st n),.inl i]
theorem zdx (n:List Nat) (i:Int):∀ rs:List Row,zdZ (rs.map zd0) (zhi n i)=(zbp rs n i).map fun r=>.tup [.int r.day,r.c,r.s]
 | []=>rfl
 | r :: rs=>by
  rw [yS]
  by_cases e:r.nm=n/\r.num=i
  ·rw [zhw (show (zd0 r).1=zhi n i from zdX.mpr e)]
   have:r.is n i=true:=by simpa [Row.is] using e
   simp [zbp,this,zd0]
  ·rw [zhx (show ¬ (zd0 r).1=zhi n i from fun z=>e (zdX.mp z)),zdx n i rs]
   have:r.is n i=false:=by simpa [Row.is] using e
   simp [zbp,this]
theorem zd7 {rs:List Row} {n:List Nat} {i:Int} {r:Row} (h:zbp rs n i=some r):r.nm=n/\r.num=i:=by
 have:=List.find?_some h
 simpa [Row.is] using this
theorem zh3 (rs:List Row) (r:Row):zqj (rs.map zd0) (zhi r.nm r.num) (.tup [.int r.day,r.c,r.s])=(zeI rs r).map zd0:=by
 unfold zqj zeI; rw [zdx,Yi]; split
 ·rw [YG,YG]
  refine Yb fun x _=>?_
  simp only [Function.comp]
  by_cases e:x.nm=r.nm/\x.num=r.num
  ·rw [yN (show (zd0 x).1=zhi r.nm r.num from zdX.mpr e),yN (by simpa [Row.is] using e)]
   show ((zd0 x).1,_)=zd0 r
   rw [show (zd0 x).1=zhi r.nm r.num from zdX.mpr e]
   rfl
  ·rw [yK (show ¬ (zd0 x).1=zhi r.nm r.num from fun z=>e (zdX.mp z)),yK (by simpa [Row.is] using e)]
 ·rw [YI]
  rfl
theorem zi1 (n:List Nat) (i:Int):∀ rs:List Row,zjV (rs.map zd0) (zhi n i)=(zeN rs n i).map zd0
 | []=>rfl
 | r :: rs=>by
  have ih:=zi1 n i rs
  unfold zjV zeN at ih ⊢
  rw [yS,yx,yx]
  by_cases e:r.nm=n/\r.num=i
  ·rw [yK (by simp [show (zd0 r).1=zhi n i from zdX.mpr e]),yK (by simp [Row.is,e]),ih]
  ·have hf:r.is n i=false:=by simpa [Row.is] using e
   rw [yN (by simp [show ¬ (zd0 r).1=zhi n i from fun z=>e (zdX.mp z)]),yN (by simp [hf]),yS,ih]
theorem zf7 (rs:List Row) (r:Row):(zeI rs r).length<=rs.length+1:=by
 unfold zeI; split
 ·rw [yF]; omega
 ·simp
theorem zmf (rs:List Row) (nm:List Nat) (made num:Int) (d:Deed):(take rs nm made num d).length<=rs.length+1:=by
 have f:∀ n i g,(∀ r,(g r:List Row).length<=rs.length+1)->(zcn rs made n i g).length<=rs.length+1:=fun n i g h=>by
  unfold zcn; split
  ·omega
  ·split
   ·exact h _
   ·omega
 cases d with
 | ch d c s=>exact zf7 _ _
 | lat n i d=>exact f _ _ _ fun r=>zf7 _ _
 | ins n i c=>exact f _ _ _ fun r=>zf7 _ _
 | drp n i=>exact f _ _ _ fun r=>yt (List.length_filter_le _ _) (by omega)
theorem zco (nm:List Nat) (made:Int):∀ (ds:List Deed) (rs:List Row) (k:Nat),(zZ nm made rs k ds).length<=rs.length+ds.length
 | [],rs,k=>by simp [zZ]
 | d :: ds,rs,k=>by
  have h1:=zco nm made ds (take rs nm made k d) (k+1); have h2:=zmf rs nm made k d; simp only [zZ,yf]; omega
theorem zcH (nm:List Nat) (made:Int) (d:Deed):∀ (ds:List Deed) (rs:List Row) (k:Nat),zZ nm made rs k (ds ++ [d])=take (zZ nm made rs k ds) nm made ((k+ds.length:Nat):Int) d
 | [],rs,k=>by simp [zZ]
 | x :: ds,rs,k=>by
  simp only [List.cons_append,zZ,yf]
  rw [zcH nm made d ds,show k+1+ds.length=k+(ds.length+1) by omega]
structure La where
 nm:List Nat
 day:Int
 ds:List Deed
def zbt (rs:List Row) (as:List La):List Row:=as.foldl (fun r a=>zZ a.nm a.day r 0 a.ds) rs
theorem zft (rs:List Row) (as:List La) (a:La):zbt rs (as ++ [a])=zZ a.nm a.day (zbt rs as) 0 a.ds:=by
 unfold zbt; rw [List.foldl_append]; rfl
def zb8 (as:List La):Nat:=(as.map fun a=>a.ds.length).sum
theorem zcF (as:List La):∀ rs:List Row,(zbt rs as).length<=rs.length+zb8 as:=by
 induction as with
 | nil=>intro rs; simp [zbt,zb8]
 | cons a as ih =>
  intro rs; have h1:=ih (zZ a.nm a.day rs 0 a.ds); have h2:=zco a.nm a.day a.ds rs 0; simp only [zbt,YQ,zb8,yS,List.sum_cons] at h1 ⊢; omega
def Deed.mapC (f:D->D):Deed->Deed
 | .ch d c s=>.ch d (f c) s
 | .lat n i d=>.lat n i d
 | .ins n i c=>.ins n i (f c)
 | .drp n i=>.drp n i
def Row.mapC (f:D->D) (r:Row):Row:={ r with c:=f r.c }
def La.mapC (f:D->D) (a:La):La:=⟨a.nm,a.day,a.ds.map (Deed.mapC f)⟩
section
variable (f:D->D)
theorem ze4 (n:List Nat) (i:Int):∀ rs:List Row,zbp (rs.map (Row.mapC f)) n i=(zbp rs n i).map (Row.mapC f)
 | []=>rfl
 | r :: rs=>by
  have ih:=ze4 n i rs
  unfold zbp at ih ⊢
  rw [yS,yw,yw,show (r.mapC f).is n i=r.is n i from rfl]
  cases r.is n i with
  | true=>rfl
  | false=>exact ih
theorem zf6 (rs:List Row) (r:Row):zeI (rs.map (Row.mapC f)) (r.mapC f)=(zeI rs r).map (Row.mapC f):=by
 unfold zeI
 rw [show (r.mapC f).nm=r.nm from rfl,show (r.mapC f).num=r.num from rfl,ze4,Yi]
 split
 ·rw [YG,YG]
  refine Yb fun x _=>?_
  simp only [Function.comp]
  rw [show (x.mapC f).is r.nm r.num=x.is r.nm r.num from rfl]
  split <;> rfl
 ·rw [YI]
  rfl
theorem zkw (rs:List Row) (n:List Nat) (i:Int):zeN (rs.map (Row.mapC f)) n i=(zeN rs n i).map (Row.mapC f):=by
 unfold zeN; rw [List.filter_map]; rfl
theorem zfo {rs:List Row} {made:Int} {n:List Nat} {i:Int} {g g':Row->List Row} (h:∀ r,g' (r.mapC f)=(g r).map (Row.mapC f)):zcn (rs.map (Row.mapC f)) made n i g'=(zcn rs made n i g).map (Row.mapC f):=by
 unfold zcn; rw [ze4]
 cases zbp rs n i with
 | none=>rfl
 | some r =>
  simp only [Option.map_some]
  rw [show (r.mapC f).day=r.day from rfl]
  split
  ·exact h r
  ·rfl
theorem zme (rs:List Row) (nm:List Nat) (made num:Int) (d:Deed):take (rs.map (Row.mapC f)) nm made num (d.mapC f)=(take rs nm made num d).map (Row.mapC f):=by
 cases d with
 | ch d c s=>exact zf6 f rs ⟨nm,num,d,c,s⟩
 | lat n i d=>exact zfo f fun r=>zf6 f rs { r with day:=d }
 | ins n i c=>exact zfo f fun r=>zf6 f rs { r with c:=c }
 | drp n i=>exact zfo f fun r=>zkw f rs n i
theorem zeG (nm:List Nat) (made:Int):∀ (ds:List Deed) (rs:List Row) (k:Nat),zZ nm made (rs.map (Row.mapC f)) k (ds.map (Deed.mapC f))=(zZ nm made rs k ds).map (Row.mapC f)
 | [],rs,k=>rfl
 | d :: ds,rs,k=>by
  simp only [yS,zZ]; rw [zme,zeG nm made ds]
theorem zjW (as:List La):∀ rs:List Row,zbt (rs.map (Row.mapC f)) (as.map (La.mapC f))=(zbt rs as).map (Row.mapC f):=by
 induction as with
 | nil=>intro rs; rfl
 | cons a as ih =>
  intro rs; have h1:=zeG f a.nm a.day a.ds rs 0; have h2:=ih (zZ a.nm a.day rs 0 a.ds)
  unfold zbt at h2 ⊢
  rw [yS,YQ,YQ,show (a.mapC f).ds=a.ds.map (Deed.mapC f) from rfl,show (a.mapC f).nm=a.nm from rfl,show (a.mapC f).day=a.day from rfl,h1,h2]
end
def zfy (Pc Ps:D->Prop):Deed->Prop
 | .ch _ c s=>Pc c/\Ps s
 | .ins _ _ c=>Pc c
 | _=>True
def zcG (Pc Ps:D->Prop) (r:Row):Prop:=Pc r.c/\Ps r.s
section
variable {Pc Ps:D->Prop}
theorem zf8 {rs:List Row} {r:Row} (h:∀ x ∈ rs,zcG Pc Ps x) (hr:zcG Pc Ps r):∀ x ∈ zeI rs r,zcG Pc Ps x:=fun x hx=>by
 unfold zeI at hx; split at hx
 ·obtain ⟨y,hy,rfl⟩:=yq.mp hx
  split
  ·exact hr
  ·exact h y hy
 ·rcases YY.mp hx with z | z
  ·exact h x z
  ·rw [yj.mp z]; exact hr
theorem zfp {rs:List Row} {made:Int} {n:List Nat} {i:Int} {g:Row->List Row} (h:∀ x ∈ rs,zcG Pc Ps x) (hg:∀ r ∈ rs,∀ x ∈ g r,zcG Pc Ps x):∀ x ∈ zcn rs made n i g,zcG Pc Ps x:=fun x hx=>by
 unfold zcn at hx
 cases e:zbp rs n i with
 | none=>rw [e] at hx; exact h x hx
 | some r =>
  rw [e] at hx
  dsimp only at hx
  split at hx
  ·exact hg r (List.mem_of_find?_eq_some e) x hx
  ·exact h x hx
theorem take_all {rs:List Row} {nm:List Nat} {made num:Int} {d:Deed} (h:∀ x ∈ rs,zcG Pc Ps x) (hd:zfy Pc Ps d):∀ x ∈ take rs nm made num d,zcG Pc Ps x:=by
 cases d with
 | ch d c s=>exact zf8 h hd
 | lat n i d=>exact zfp h fun r hr=>zf8 h (h r hr)
 | ins n i c=>exact zfp h fun r hr=>zf8 h ⟨hd,(h r hr).2⟩
 | drp n i=>exact zfp h fun r hr x hx=>h x (List.mem_filter.mp hx).1
theorem zc4 {nm:List Nat} {made:Int}:∀ (ds:List Deed) (rs:List Row) (k:Nat),(∀ x ∈ rs,zcG Pc Ps x)->(∀ d ∈ ds,zfy Pc Ps d)->∀ x ∈ zZ nm made rs k ds,zcG Pc Ps x
 | [],rs,k,h,_=>h
 | d :: ds,rs,k,h,hd=>zc4 ds _ _ (take_all h (hd d yT)) fun x hx=>hd x (yP _ hx)
theorem zeB (as:List La):∀ rs:List Row,(∀ x ∈ rs,zcG Pc Ps x)->(∀ a ∈ as,∀ d ∈ a.ds,zfy Pc Ps d)->∀ x ∈ zbt rs as,zcG Pc Ps x:=by
 induction as with
 | nil=>intro rs h _; exact h
 | cons a as ih =>
  intro rs h hd
  exact ih _ (zc4 a.ds rs 0 h (hd a yT)) fun b hb=>hd b (yP _ hb)
end
def zlV (rs:List Row):List Row:=if rs.length<2 then rs else (So.run (ltI (rs.map Row.day)) (W.kas_sort rs.length)).toList.filterMap fun i=>rs[i]?
def wcD (rs:List Row):List D:=zdJ (ltI (rs.map Row.day)) (rs.map zds)
theorem zhR (g:Row->D) (rs:List Row):zdJ (ltI (rs.map Row.day)) (rs.map g)=(zlV rs).map g:=by
 unfold zdJ zlV; rw [yF]; split
 ·rfl
 ·rename_i hlen
  have hm:=(zd3 (zmS (rs.map Row.day)) (by omega:1<=rs.length)).2
  rw [List.map_filterMap]; generalize (So.run (ltI (rs.map Row.day)) (W.kas_sort rs.length)).toList=L at hm
  induction L with
  | nil=>rfl
  | cons i L ih =>
   have hi:=hm i yT; rw [yS,List.filterMap_cons,yB hi]; simp only [Option.map_some]
   rw [ih fun j hj=>hm j (yP _ hj)]
   congr 1
   simp [List.getD,yB hi]
theorem zkg {rs:List Row} {r:Row} (h:r ∈ zlV rs):r ∈ rs:=by
 unfold zlV at h; split at h
 ·exact h
 ·obtain ⟨i,_,e⟩:=List.mem_filterMap.mp h
  exact yW e
theorem zmg (f:D->D) (rs:List Row):zlV (rs.map (Row.mapC f))=(zlV rs).map (Row.mapC f):=by
 unfold zlV
 have e:(rs.map (Row.mapC f)).map Row.day=rs.map Row.day:=by rw [YG]; rfl
 rw [yF,e]; split
 ·rfl
 ·rw [List.map_filterMap]
  congr 1
  funext i
  rw [yE]
theorem zmh (rs:List Row):(zlV rs).length=rs.length:=by
 have e:=yo List.length (zhR zds rs); rw [yF] at e; rw [<- e]; unfold zdJ; rw [yF]; split
 ·rw [yF]
 ·rw [yF]
  exact (zd3 (zmS (rs.map Row.day)) (by omega)).1
theorem ziY {f:D->D->Option Bool}:∀ {xs:List D},(∀ x ∈ xs,f x x=some true)->eqL f xs xs=some true
 | [],_=>rfl
 | x :: xs,h=>by simp [eqL,h x yT,ziY fun y hy=>h y (yP _ hy)]
def zgB (n:Nat) (d:D):Prop:=eqD n d d=some true
theorem zf4 (n:Nat) (l:List Nat):zgB (n+1) (.str l):=by unfold zgB; rw [zlv]; simp
theorem zf5 (n:Nat) (i:Int):zgB (n+1) (.int i):=by unfold zgB; simp [eqD,eqS]
theorem zmm (n:Nat):zgB n .non:=by unfold zgB; exact zp0 n
theorem zeT {n:Nat} {ds:List D} (h:∀ d ∈ ds,zgB n d):zgB (n+1) (.tup ds):=by
 unfold zgB; exact ziY h
end M34
namespace EnK
open PySem
open AutoSeq1 (wpAny_loadPart')
section
variable {prog:Program} {w:World} {A:Around} {E:Value->Shared->Prop} {s:Shared}
end
end EnK
namespace L2
open PySem PySem.Spec PyProof.Rows Zp EnK
section
variable {X:Cx}
end
end L2
namespace PL
open PySem L2
section
variable {X:Cx}
end
section
variable {P:Program} {w:World} {K:W.Frag} {mg:Str->Option Value} {base:Heap}
end
section
variable {X:Cx}
end
end PL
namespace L2
open PySem PySem.Spec PyProof.Rows PySem.W
def cxX (CX:CXT) (P:Program) (w:World) (K:W.Frag) (mg:Str->Option Value) (base:Heap) (N:List Str) (qual:Str) (scope:Scope) (f:Addr) (cd:Value) (cl:List (Str × Addr)) (A:Around) (outer:List Env) (s:Shared) (H:Hp) (E:XK):Cx where
 prog:=P
 w:=w
 K:=K
 mg:=mg
 base:=base
 A:=A.deeper (envX qual scope s.heap.objs.size f cd cl)
 N:=N
 s₀:=s
 H₀:=H
 env:=envX qual scope s.heap.objs.size f cd cl
 outer:=outer
 stack:=envX qual scope s.heap.objs.size f cd cl :: outer
 ex:=[]
 calm:=true
 fn:=fun _=>false
 pn:=[]
 xe:=fun e s'=>wpAny (model P w) (A.deeper (envX qual scope s.heap.objs.size f cd cl)) (leaving (envX qual scope s.heap.objs.size f cd cl) e) (fun _ s''=>CX outer H s E e s'') (fun e' s''=>CX outer H s E e' s'') s'
structure LamSc (p x:Str) (sc:Scope):Prop where
 kind:sc.kind=.function
 co:sc.isCoroutine=false
 gen:sc.isGenerator=false
 par:sc.names.lookup p=some .local
 nocell:∀ y ∈ sc.names,y.2≠.cell
 isf:sc.names.lookup x=some .free
 free:∀ y ∈ sc.names,y.2=.free->y.1=x
theorem ztQ {p x:Str} {sc:Scope} (h1:sc.kind=.function) (h2:sc.isCoroutine=false) (h3:sc.isGenerator=false) (hn:sc.names=[(p,.local),(x,.free)]) (ne:(x == p)=false):LamSc p x sc:=by
 refine ⟨h1,h2,h3,by rw [hn]; simp [List.lookup],fun y hy=>?_,by rw [hn]; simp [List.lookup,ne],fun y hy e=>?_⟩
 ·rw [hn] at hy
  simp at hy
  rcases hy with rfl | rfl <;> exact fun z=>nomatch z
 ·rw [hn] at hy
  simp at hy
  rcases hy with rfl | rfl
  ·cases e
  ·rfl
theorem znF {p x:Str} {sc:Scope} {env:Env} (hn:sc.names=[(p,.local),(x,.free)]) (c:Addr) (h:env.cells.lookup x=some c):closureFor sc env=pure [(x,c)]:=by
 unfold closureFor cellOf; rw [hn]; simp [h]
theorem lk1 {x y:Str} {c d:Addr} (h:[(x,c)].lookup y=some d):y=x/\d=c:=by
 simp only [YF,List.lookup_nil] at h; split at h
 ·rename_i e
  exact ⟨by simpa using e,(Option.some.inj h).symm⟩
 ·cases h
theorem zjQ {CX:CXT} {P:Program} {w:World} {K:W.Frag} {mg:Str->Option Value} {base:Heap} {p x:Str} {qual:Str} {scope:Scope} {f c:Addr} {cd:Value} {A:Around} {outer:List Env} {s:Shared} {H:Hp} {E:XK} {u ux:Value} {v vx:V} {h1:Heap} {tk:Nat}
  (S:LamSc p x scope) (hd:A.handled=none) (e0:Env0 P w K mg base A outer s H) (r:zaV v u) (rx:zaV vx ux) (hc:s.heap.IsCell c (some ux)) (fc:H c=none)
  (hns:h1.Ns s.heap.objs.size fun y=>([(p,u)]:List (Str × Value)).reverse.lookup y) (hk:∀ b o,s.heap.get? b=some o->h1.get? b=some o) :
  Inv (cxX CX P w K mg base [p,x] qual scope f cd [(x,c)] A outer s H E) [] [some v,some vx] H { s with heap:=h1,toks:=tk }:=by
 have noA:∀ b:Addr,b ∉ (cxX CX P w K mg base [p,x] qual scope f cd [(x,c)] A outer s H E).ex:=fun b z=>yQ (show b ∈ ([]:List Addr) from z) (by simp)
 have hc1:h1.IsCell c (some ux):=by
  obtain ⟨o,ho,hd⟩:=hc; exact ⟨o,hk _ _ ho,hd⟩
 refine ⟨⟨e0.mod,S.kind,rfl,rfl,yH _,fun y z c' q1 q2=>?_,fun y hy=>?_,fun y c' z _=>(nomatch z),fun _=>hd,Around.frames_deeper e0.frames,.inr ⟨rfl,rfl⟩,fun b z=>yQ z (noA b),e0.bs,e0.bsz,fun b _ _=>noA b,fun b z=>yQ z (noA b),e0.funs,e0.frf,e0.tab⟩,
  rfl,e0.bare,Un.kept hk,⟨_,hns,fun i y a q1 q2 q3=>?_⟩,fun y c' q=>?_,e0.hok.fresh (yH _),fun y c' q=>?_,fun b hb=>yQ (show b ∈ ([]:List (Addr × Obj)) from hb) (by simp),e0.hok.kept hk,rfl⟩
 ·rw [(lk1 q1).1,(lk1 q2).1]
 ·have hy:scope.names.lookup y=some .cell\/scope.names.lookup y=some .free:=hy
  rcases hy with hy | hy
  ·exact yQ rfl (S.nocell _ (YZ hy))
  ·have e:=S.free _ (YZ hy) rfl
   subst e
   exact ⟨c,by show [(y,c)].lookup y=_; simp⟩
 ·match i,q1,q2 with
  | 0,q1,q2 =>
   cases q1; cases q2
   exact ⟨u,r,.inl ⟨S.par,by simp⟩⟩
  | 1,q1,q2 =>
   cases q1; cases q2
   exact ⟨ux,rx,.inr ⟨.inr S.isf,c,by show [(x,c)].lookup x=_; simp,hc1⟩⟩
  | i+2,q1,q2=>cases q1
 ·obtain ⟨rfl,rfl⟩:=lk1 (show [(x,c)].lookup y=some c' from q)
  exact ⟨_,hc1⟩
 ·obtain ⟨rfl,rfl⟩:=lk1 (show [(x,c)].lookup y=some c' from q)
  exact fc
section
variable {X:Cx} {pins:List (Addr × Obj)} {σ:St} {H:Hp} {s:Shared}
theorem zmo {A':Around} {k i:Nat} {f c c':Addr} {p x qual:Str} {params:Arguments} {body:Expr} {scope:Scope} {pm ctv:Value} {oc:Obj} {vs0:Array Value} {t0:Tok} {Q:VK} {u:Value} {v vx:V}
  (S:LamSc p x scope) (hd:oc.data=.fields vs0) (hv:vs0[1]?=some (.str qual t0)) (hr:Room (k+1) A') (e0:Env0 X.prog X.w X.K X.mg X.base A' X.stack s H) (I:Inv X pins σ H s)
  (hf:H f=some (zce (.inr (zdj [(x,c)] qual params body scope pm c' ctv)))) (hc:H c'=some (zce (.inr oc))) (hb:bindArgs (kla_fn "<lambda>" qual params body scope [(x,c)] pm (.ref c') ctv) ⟨[u],[]⟩=pure [(p,u)])
  (hx:X.env.cells.lookup x=some c) (hkx:X.env.kindOf x=some .cell) (hN:X.N[i]?=some x) (hσ:σ[i]?=some (some vx)) (r:zaV v u)
  (hbody:∃ t,PE (cxX CX0 X.prog X.w X.K X.mg X.base [p,x] qual scope f (.ref c') [(x,c)] A' X.stack s H E0) body t/\t [some v,some vx] H Q) :
  wpAny (model X.prog X.w) A' (call (.ref f) [u]) (EP X pins σ Q) (fun _ _=>False) s:=by
 have of:s.heap.get? f=some (zdj [(x,c)] qual params body scope pm c' ctv):=(e0.hok f _ hf).1
 have oc':s.heap.get? c'=some oc:=(e0.hok c' _ hc).1
 have lim:s.heap.NoLimit:=e0.mod.nolimit.keeps fun b o e=>(e0.bs b o e).1
 obtain ⟨m,hm,look⟩:=I.loc; obtain ⟨ux,rx,lk⟩:=look i x vx hN hσ (.inr (.inl hkx))
 have hcell:s.heap.IsCell c (some ux):=by
  rcases lk with ⟨z,_⟩ | ⟨_,c2,z,q⟩
  ·rw [hkx] at z; cases z
  ·rw [hx] at z; cases z; exact q
 have run:codeAny (model X.prog X.w) A' (.call (.ref f) ⟨[u],[]⟩) (CR CX0 X.stack X.prog X.w H s Q E0) s:=by
  refine kla_callFunE hr.depth of rfl S.co S.gen rfl ⟨c',oc,vs0,t0,rfl,oc',hd,hv⟩ ?_; rw [hb]
  refine yG (wpAny_newFunctionEnv S.nocell (fun y hy=>?_) (fun h1 hns hsb=>?_) S.kind)
  ·rw [yj.mp hy]
   exact S.par
  ·have hk:∀ b o,s.heap.get? b=some o->h1.get? b=some o:=fun b o e=>hsb.extBut b o (yU (yM e)) (yC _ e)
   refine ⟨lim.keeps hk,kla_codeExpr ?_⟩; obtain ⟨t,ht,hq⟩:=hbody
   have I1:Inv (cxX CX0 X.prog X.w X.K X.mg X.base [p,x] qual scope f (.ref c') [(x,c)] A' X.stack s H E0) [] [some v,some vx] H { s with heap:=h1,toks:=s.toks+[(p,u)].length }:=zjQ S hr.hd e0 r rx hcell (I.freeC x c hx) hns hk
   refine YU (ht [] _ _ H _ I1 hq) (fun u' s' hs=>?_) fun e s' hs=>hs
   obtain ⟨v',H',J,rv,q⟩:=hs; exact ⟨v',H',J.os,J.bare,J.base,J.hok,rv,q⟩
 refine wpAny_call (codeAny_mono run fun r s' hq=>?_)
 cases r with
 | error e=>exact hq.elim
 | ok fl =>
  cases fl with
  | ret u=>exact I.after hq
  | next=>exact False.elim hq
  | brk=>exact False.elim hq
  | cont=>exact False.elim hq
end
section
variable {X:Cx}
def zs6 (cl:List (Str × Addr)) (qual:Str) (params:Arguments) (body:Expr) (scope:Scope):TE:=fun _ H Q=>∀ (f c:Addr) (oc:Obj) (vs:Array Value) (t:Tok) (pm ctv:Value) (H2:Hp),oc.data=.fields vs->vs[1]?=some (.str qual t)->NewLam H H2 f c (zdj cl qual params body scope pm c ctv) oc->Q (.ref f) H2
theorem zpa {cl:List (Str × Addr)} {qual:Str} {params:Arguments} {body:Expr} {scope:Scope} {lpos:Pos} (L:LamAt X qual) (hcl:closureFor scope X.env=pure cl) (hdef:defaultsOf params X.env=([],[])):PE X (.Lambda params body scope lpos) (zs6 cl qual params body scope):=by
 obtain ⟨⟨c,Pt,hc,hC,hT⟩,rfl⟩:=L
 intro pins s σ H Q I h; exact zhd I hc hC hT hdef hcl h
def zqr (K:W.Frag) (X:Cx) (i:Nat) (sp:V->Sp) (t:TA):TE:=fun σ H Q=>t σ H fun vs H1=>∃ l xs vx,vs=[.ref l]/\SqL K H1 l xs/\xs.length<64/\σ[i]?=some (some vx)/\∀ f c fo oc H2,NewLam H1 H2 f c fo oc ->
 zor (zgK f c fo oc (sp vx)) (fun ks H'=>∃ lt,So.Ord lt/\zhM X ks H' lt/\∀ p,H' p=none->Q (.ref p) (upd H' p (.lst (zeq lt xs)))) xs [] H2
theorem zmH {k i:Nat} {qual p x:Str} {params:Arguments} {body:Expr} {scope:Scope} {sp:V->Sp} {e:Expr} {t:TA} {np kpos lpos pos:Pos} (L:LamAt X qual) (S:LamSc p x scope)
  (hbody:∀ (f c c':Addr) (A:Around) (outer:List Env) (s:Shared) (H:Hp) (v vx:V) (Q:VK),Room k (A.deeper (envX qual scope s.heap.objs.size f (.ref c') [(x,c)]))->sp vx [v] H Q E0 ->
   ∃ t,PE (cxX CX0 X.prog X.w X.K X.mg X.base [p,x] qual scope f (.ref c') [(x,c)] A outer s H E0) body t/\t [some v,some vx] H Q)
  (hb:∀ (pm:Value) (c c':Addr) (ctv u:Value),bindArgs (kla_fn "<lambda>" qual params body scope [(x,c)] pm (.ref c') ctv) ⟨[u],[]⟩=pure [(p,u)])
  (hr:Room (k+3) X.A) (hm:X.mg "sorted"=none) (ha:PA X [e] t) (hkx:X.env.kindOf x=some .cell) (hN:X.N[i]?=some x)
  (hcl:∀ c,X.env.cells.lookup x=some c->closureFor scope X.env=pure [(x,c)]) (hgs:Gl X "sorted":=by rfl)
  (hdef:defaultsOf params X.env=([],[]):=by rfl)
  (he:backTo pos (starEach [e] X.env)=(false,eval e X.env) :: backTo pos (starEach [] X.env):=by rfl)
  (hplain:(backTo pos (starEach [e] X.env)).any (·.1)=false:=by rfl) :
  PE X (.Call (.Name "sorted" np) [e] [⟨some "key",.Lambda params body scope lpos,kpos⟩] pos) (zqr X.K X i sp t):=by
 intro pins s σ H Q I h; obtain ⟨cx,hx⟩:=I.ok.has x (.inl hkx); refine Yt (zdB I hgs hm boot_sorted ?_)
 refine callWith_kw (thn (ha pos pins s σ H _ I h) fun us s1 ⟨vs,H1,I1,r,q⟩=>?_) he hplain rfl rfl
 obtain ⟨l,xs,vx,rfl,hl,h64,hσ,hk⟩:=q; obtain ⟨u,rfl,ru⟩:=zcZ r; cases ru
 refine thn (zkM (nm:=some "key") (kpos:=kpos) (zpa (lpos:=lpos) L (hcl cx hx) hdef) znV pos pins s1 σ H1 (fun zs H2=>∃ (f c:Addr) (oc:Obj) (vs:Array Value) (t:Tok) (pm ctv:Value),zs=[.ref f]/\oc.data=.fields vs/\vs[1]?=some (.str qual t)/\NewLam H1 H2 f c (zdj [(x,cx)] qual params body scope pm c ctv) oc) I1 ?_) fun ws s2 ⟨zs,H2,I2,rz,f,c,oc,vs,t0,pm,ctv,e1,hd,hv,nl⟩=>?_
 ·intro f c oc vs t0 pm ctv H2 hd hv nl
  exact ⟨f,c,oc,vs,t0,pm,ctv,rfl,hd,hv,nl⟩
 ·subst e1
  obtain ⟨w',rfl,rw'⟩:=zcZ rz; cases rw'
  refine zeL (sp:=zgK f c (zdj [(x,cx)] qual params body scope pm c ctv) oc (sp vx)) (fun pins' H' s' a u' Q' I' ra hsp=>?_) I2 (ziC nl.same hl) h64 (hk _ _ _ _ _ nl)
  obtain ⟨hf,hc,hsp⟩:=hsp; exact zmo S hd hv hr.in1.in1 I'.env0.in1.in1 I' hf hc (hb pm cx c ctv u') hx hkx hN hσ ra (hbody f cx c _ _ s' H' a vx Q' (hr.in1.in1.deeper _) hsp)
abbrev I3:=Int × Int × Int
def zpC (x y:I3):Prop:=x.1<y.1\/(x.1=y.1/\(x.2.1<y.2.1\/(x.2.1=y.2.1/\x.2.2<y.2.2)))
instance (x y:I3):Decidable (zpC x y):=by unfold zpC; infer_instance
def ltT (ps:List I3):Nat->Nat->Bool:=fun i j=>decide (zpC (ps.getD i (0,0,0)) (ps.getD j (0,0,0)))
theorem zpm (ps:List I3):So.Ord (ltT ps):=⟨fun a b h=>by
  unfold ltT at h ⊢
  simp only [YX,Yn] at h ⊢
  unfold zpC at h ⊢
  omega,fun a b c h1 h2=>by
  unfold ltT at h1 h2 ⊢
  simp only [Yn] at h1 h2 ⊢
  unfold zpC at h1 h2 ⊢
  omega⟩
def zj2 (H:Hp):List Addr->List I3->Prop:=Paired fun a p=>H a=some (.tup [.int p.1,.int p.2.1,.int p.2.2])
theorem zgs {s:Shared} {pins:List (Addr × Obj)} {σ:St} {H:Hp} (I:Inv X pins σ H s) {a:Addr} {p:I3} (h:H a=some (.tup [.int p.1,.int p.2.1,.int p.2.2])) :
  ∃ o n t1 t2 t3,s.heap.get? a=some o/\o.cls=.type "tuple"/\o.data=.seq (List.toArray [Value.int p.1 t1,Value.int p.2.1 t2,Value.int p.2.2 t3]) n:=by
 obtain ⟨its,r,⟨o,e,c,n,d⟩,_⟩:=I.tuple (SqT.of h)
 obtain _ | ⟨r1,r⟩:=r
 obtain _ | ⟨r2,r⟩:=r
 obtain _ | ⟨r3,r⟩:=r
 cases r; obtain ⟨t1,rfl⟩:=r1; obtain ⟨t2,rfl⟩:=r2; obtain ⟨t3,rfl⟩:=r3; exact ⟨o,n,t1,t2,t3,e,c,d⟩
theorem zn4 {s:Shared} {pins:List (Addr × Obj)} {σ:St} {H:Hp} (I:Inv X pins σ H s):∀ {as:List Addr} {ps:List I3},zj2 H as ps->∃ fs:List Value,fs.length=as.length/\KatTups s.heap (as.map Value.ref) fs/\∀ v,v ∈ fs->∃ i t,v=Value.int i t
 | [],[],_=>⟨[],rfl,trivial,fun _ z=>by simp at z⟩
 | a :: as,p :: ps,.cons h t=>by
  obtain ⟨fs,hl,kt,hf⟩:=zn4 I t; obtain ⟨o,n,t1,t2,t3,e,c,d⟩:=zgs I h
  refine ⟨.int p.1 t1 :: fs,by simp [hl],KatTups.cons e c d rfl kt,fun v hv=>?_⟩
  rcases yO.mp hv with rfl | hv
  ·exact ⟨_,_,rfl⟩
  ·exact hf v hv
theorem zfk {H:Hp}:∀ {as:List Addr} {ps:List I3} (i:Nat),zj2 H as ps->i<as.length->H (as.getD i 0)=some (.tup [.int (ps.getD i (0,0,0)).1,.int (ps.getD i (0,0,0)).2.1,.int (ps.getD i (0,0,0)).2.2])
 | _ :: _,_ :: _,0,.cons h _,_=>h
 | _ :: _,_ :: _,i+1,.cons _ t,hi=>by
  have:=zfk i t (by simpa using hi)
  simpa using this
theorem zug {H:Hp} {as:List Addr} {ps:List I3} (k:zj2 H as ps):zhM X (as.map V.ref) H (ltT ps):=by
 intro A' pins σ s kss I r h2; rw [yF] at h2; have e:=zga r; subst e; obtain ⟨fs,hl,kt,hf⟩:=zn4 I k
 refine kat_kind (T:=.type "int") kt (by omega) (fun v hv=>?_) rfl ⟨I,fun i j C s'' h1 h2 I2 hC=>?_⟩
 ·obtain ⟨i,t,rfl⟩:=hf v hv
  exact Looks.of_pure rfl
 ·rw [yF] at h1 h2
  unfold kas_ask
  have g:∀ i,i<as.length->(as.map Value.ref).getD i Value.none=.ref (as.getD i 0):=fun i h=>by simp [List.getD,yE,yB h]
  rw [g i h1,g j h2]; obtain ⟨o,n,t1,t2,t3,e1,c1,d1⟩:=zgs I2 (zfk i k h1); obtain ⟨o',n',t1',t2',t3',e1',c1',d1'⟩:=zgs I2 (zfk j k h2); have hz:=hC _ I2; unfold ltT at hz; generalize ps.getD i (0,0,0)=p at *; generalize ps.getD j (0,0,0)=q at *; obtain ⟨p1,p2,p3⟩:=p; obtain ⟨q1,q2,q3⟩:=q; unfold zpC at hz
  dsimp only at *
  refine kat_lt e1 d1 e1' d1' ?_
  refine kat_cons (wpAny_eqBool_int (kat_go (fun he=>kat_yes (kat_cons (wpAny_eqBool_int (kat_go (fun he2=>kat_yes (kat_cons (wpAny_eqBool_int (kat_go (fun he3=>kat_yes (kat_nil ?_)) fun he3=>kat_no ?_)))) fun he2=>kat_no ?_)))) fun he=>kat_no ?_))
  ·have y1:p1=q1:=by simpa using he
   have y2:p2=q2:=by simpa using he2
   have y3:p3=q3:=by simpa using he3
   subst y1 y2 y3
   simpa using hz
  ·have y1:p1=q1:=by simpa using he
   have y2:p2=q2:=by simpa using he2
   subst y1 y2
   have hz':C (decide (p3<q3)) s'':=by simpa using hz
   exact kat_one _ _ (lt_int hz')
  ·have y1:p1=q1:=by simpa using he
   have y2:¬ p2=q2:=by simpa using he2
   subst y1
   have hz':C (decide (p2<q2)) s'':=by simpa [y2] using hz
   exact kat_one _ _ (lt_int hz')
  ·have y1:¬ p1=q1:=by simpa using he
   exact oneLt_int (by simpa [y1] using hz)
end
section
variable {X:Cx} {o e:Expr} {apos cpos:Pos} {td ty:TE}
abbrev zje (ls:List Str):List V:=ls.map fun l=>V.str l
def zqt (K:W.Frag) (td ty:TE):TE:=fun σ H Q=>td σ H fun x H1=>∃ (a:Addr) (ls:List Str),x=.ref a/\SqL K H1 a (zje ls)/\ty σ H1 fun y H2=>∃ (ls':List Str) (l:Str) (j:Nat),SqL K H2 a (zje ls')/\y=.str l/\ls'[j]?=some l/\(∀ i,i<j->ls'[i]?≠some l)/\Q (.int j) H2
def isS (l:Str):Value->Bool
 | .str m _=>m == l
 | _=>false
theorem zhQ {ls:List Str} {its:List Value} (r:zaK (zje ls) its) {i:Nat} (hi:i<its.length):∃ t m,its[i]=.str m t/\ls[i]?=some m:=by
 have hl:=r.length; rw [yF] at hl
 obtain ⟨u,hu,ru⟩:=r.get (show (zje ls)[i]?=some (V.str (ls[i]'(by omega))) by simp [yE,yB (by omega:i<ls.length)])
 rw [yB hi] at hu; cases hu; obtain ⟨t,e⟩:=ru; exact ⟨t,_,e,yB _⟩
theorem zmL (ho:PE X o td) (he:PE X e ty) (m:M1 X o "index" apos e cpos):PE X (.Call (.Attribute o "index" apos) [e] [] cpos) (zqt X.K td ty):=by
 intro pins s σ H Q I h
 refine wpAny_Call_method m.base m.few m.line Yo PySem.F.slot_list_index PySem.F.type_list_index (thn (ho pins s σ H _ I h) fun u s1 ⟨x,H1,I1,rx,a,ls,ex,d,q1⟩=>?_)
 subst ex
 obtain rfl:u=Value.ref a:=rx
 obtain ⟨its0,r0,⟨o0,n0,g0,c0,z0,y0⟩,hz0⟩:=I1.list d
 refine ⟨⟨o0,g0,c0⟩,fun a e=>by cases e; exact ⟨o0,g0,z0⟩,?_⟩
 rw [m.trees]
 refine Yd rfl (Calls.evalArgs_plain (Calls.spliced_cons (thn (he pins s1 σ H1 _ I1 q1) fun iv s2 ⟨y,H2,I2,ry,ls',l,j,d2,ey,hj,hn,q3⟩=>Calls.spliced_nil ?_)))
 subst ey; obtain ⟨ti,rfl⟩:=ry
 obtain ⟨its,r,⟨o,n,g,c,z,y⟩,hz⟩:=I2.list d2
 have hl:=r.length; rw [yF] at hl hz; rw [sizeLine_eq] at hz; have hjl:=(yD.mp hj).1
 have ho:s2.heap.get? a=some { cls:=.type "list",dict:=none,data:=.seq its.toArray n,slots:=o.slots }:=by
  rw [g,<- c,<- z,<- y]
 refine call_meets PySem.F.slot_list_index ⟨o,g,c⟩ PySem.F.entry_list_index (PySem.F.args_list_index_2 _ _) (SeqAt.list_indexAt a its.toArray n none o.slots (.str l ti) (isS l) j (by simpa using (by omega:j<its.length)) (by omega) ?_ fun i hi hlt=>?_) ⟨ho,fun w hw=>?_,?_⟩
 ·obtain ⟨t,m,e1,e2⟩:=zhQ r (by omega:j<its.length)
  rw [hj] at e2; cases e2; simp [e1,isS]
 ·have hi':i<its.length:=by simpa using hi
  obtain ⟨t,m,e1,e2⟩:=zhQ r hi'
  have:=hn i hlt
  rw [e2] at this; simp only [List.getElem_toArray,e1,isS]; rw [beq_eq_false_iff_ne]
  rintro rfl
  exact this rfl
 ·obtain ⟨i,hi,e⟩:=yp (show w ∈ its by simpa using hw)
  obtain ⟨t,m,e1,e2⟩:=zhQ r hi; rw [<- e,e1]; exact SeqAt.EqAt.str_str _ _ _ _
 ·exact ⟨.int j,H2,I2.tok _,⟨_,rfl⟩,q3⟩
end
end L2
namespace PL
open PySem L2
section
variable {X:Cx}
def i3D (p:I3):D:=.tup [.int p.1,.int p.2.1,.int p.2.2]
theorem zi3 {K:W.Frag} {H:Hp}:∀ {vs:List V} {ps:List I3},zbv K H vs (ps.map i3D)->∃ as:List Addr,vs=as.map V.ref/\zj2 H as ps
 | [],[],_=>⟨[],rfl,.nil⟩
 | v :: vs,p :: ps,.cons r t=>by
  obtain ⟨as,rfl,k⟩:=zi3 t; obtain ⟨a,us,rfl,ha,dl⟩:=r.tupJ
  obtain _ | ⟨d1,dl⟩:=dl
  obtain _ | ⟨d2,dl⟩:=dl
  obtain _ | ⟨d3,dl⟩:=dl
  cases dl; rw [d1.intI,d2.intI,d3.intI] at ha; exact ⟨a :: as,rfl,.cons ha k⟩
 | [],_ :: _,h=>nomatch h
 | _ :: _,[],h=>nomatch h
theorem zfQ {H H':Hp} (e:zaI H H'):∀ {as:List Addr} {ps:List I3},zj2 H as ps->zj2 H' as ps
 | _,_,.nil=>.nil
 | _,_,.cons h t=>.cons (e _ _ h) (zfQ e t)
def ziE (R:D->D->D->Prop):Sp':=fun ds Q=>∃ d x k,ds=[d,x]/\R d x k/\Q (.val k)
theorem zkl {R:D->D->D->Prop} {d x k:D} (h:R d x k):ziE R [d,x] fun r=>r=.val k:=⟨d,x,k,rfl,h,rfl⟩
theorem zhf {K:W.Frag} {R:D->D->D->Prop} {Fin:List V->Hp->Prop} {Hi1 H1:Hp} {f c:Addr} {fo oc:Obj} {vx:V} {xd:D} (hf:H1 f=some (zce (.inr fo))) (hc:H1 c=some (zce (.inr oc))) (dx:Den K Hi1 vx xd):∀ (r:List V) (rd kd:List D) (acc:List V) (accD:List D) (Hi H:Hp),Ext Hi1 H1 Hi H->zbv K Hi r rd->kd.length=rd.length->(∀ (i:Nat) x k,rd[i]?=some x->kd[i]?=some k->R x xd k)->zbv K Hi acc accD ->
  (∀ acc Hi H,Ext Hi1 H1 Hi H->zbv K Hi acc (accD ++ kd)->Fin acc H)->zor (zgK f c fo oc fun vs=>zhS K (ziE R) (vs ++ [vx])) Fin r acc H
 | [],[],kd,acc,accD,Hi,H,ex,_,hl,_,da,fin=>by
  have:kd=[]:=List.length_eq_zero_iff.mp (by simpa using hl)
  subst this
  exact fin acc Hi H ex (by rw [ym]; exact da)
 | v :: r,d :: rd,k :: kd,acc,accD,Hi,H,ex,.cons d1 t,hl,hsp,da,fin=>by
  refine ⟨ex.h _ _ hf,ex.h _ _ hc,Hi,[d,xd],fun r=>r=.val k,ex.fz,.cons d1 (.cons (dx.mono ex.hi) .nil),zkl (hsp 0 d k rfl rfl),fun Hi' H' v' r' e2 ro hq=>?_⟩
  subst hq
  refine zhf hf hc dx r rd kd (acc ++ [v']) (accD ++ [k]) Hi' H' (ex.trans e2) (zbv.mono t e2.hi) (by simpa using hl) (fun i x k h1 h2=>hsp (i+1) x k (by simpa using h1) (by simpa using h2)) (zaM (da.mono e2.hi) (.cons ro .nil)) fun acc Hi H e3 da=>?_
  exact fin acc Hi H e3 (by simpa using da)
 | [],_ :: _,_,_,_,_,_,_,h,_,_,_,_=>nomatch h
 | _ :: _,[],_,_,_,_,_,_,h,_,_,_,_=>nomatch h
 | _ :: _,_ :: _,[],_,_,_,_,_,_,hl,_,_,_=>by simp at hl
def zJ (i:Nat) (R:D->D->D->Prop) (t:TA'):TO':=fun Γ Q=>t Γ fun as Γ1=>∃ (xd:D) (ds:List D) (ks:List I3),Γ1[i]?=some (.val xd)/\as=[.lst ds]/\ds.length<64/\ks.length=ds.length/\(∀ (j:Nat) x k,ds[j]?=some x->ks[j]?=some k->R x xd (i3D k))/\Q (.lst (zdJ (ltT ks) ds)) Γ1
theorem zmz (i:Nat) {k:Nat} {qual p x:Str} {params:Arguments} {body:Expr} {scope:Scope} {R:D->D->D->Prop} {e:Expr} {t:TA'} {np kpos lpos pos:Pos} (L:LamAt X qual) (S:LamSc p x scope)
  (hbody:∀ (f c c':Addr) (A:Around) (outer:List Env) (s:Shared) (H:Hp),Room k (A.deeper (W.envX qual scope s.heap.objs.size f (.ref c') [(x,c)]))->∀ ds Q,ziE R ds Q ->
   ∃ t,PE' (cxX CX0 X.prog X.w X.K X.mg X.base [p,x] qual scope f (.ref c') [(x,c)] A outer s H E0).nox body t/\t (zcp [p,x] ds) fun d _=>Q (.val d))
  (hb:∀ (pm:Value) (c c':Addr) (ctv u:Value),bindArgs (W.kla_fn "<lambda>" qual params body scope [(x,c)] pm (.ref c') ctv) ⟨[u],[]⟩=pure [(p,u)])
  (hr:Room (k+3) X.A) (hm:X.mg "sorted"=none) (ha:PA' X [e] t) (hkx:X.env.kindOf x=some .cell) (hN:X.N[i]?=some x)
  (hcl:∀ c,X.env.cells.lookup x=some c->closureFor scope X.env=pure [(x,c)]) (hgs:Gl X "sorted":=by rfl)
  (hdef:defaultsOf params X.env=([],[]):=by rfl)
  (he:backTo pos (starEach [e] X.env)=(false,eval e X.env) :: backTo pos (starEach [] X.env):=by rfl)
  (hplain:(backTo pos (starEach [e] X.env)).any (·.1)=false:=by rfl) :
  PO' X (.Call (.Name "sorted" np) [e] [⟨some "key",.Lambda params body scope lpos,kpos⟩] pos) (zJ i R t):=by
 refine ⟨PE.weak (zmH (k:=k) (i:=i) (sp:=fun vx vs=>zhS X.K (ziE R) (vs ++ [vx])) L S (fun f c c' A outer s H v vx Q hr' h=>?_) hb hr hm ha.pa hkx hN hcl hgs hdef he hplain) ?_⟩
 ·obtain ⟨Hi,ds,Q',sb,dl,h,fin⟩:=h
  obtain ⟨t,h1,h2⟩:=hbody f c c' A outer s H hr' ds Q' h
  have hlen:ds.length=[p,x].length:=by
   obtain ⟨_,_,_,rfl,_⟩:=h; rfl
  refine ⟨_,h1.h.nox,⟨H,Hi,[]⟩,Hi,zcp [p,x] ds,_,zez (ps:=[p,x]) hlen (yH _) sb dl,h2,?_⟩
  rintro v H' ⟨Hi',d,Γ',s1,g1,dv,q⟩
  exact fin Hi' H' v (.val d) ⟨s1,fun b o e=>g1.keep b o e (by simp),g1.fz,fun b o e=>g1.fro b o e⟩ dv q
 rintro σ H Q ⟨W,Hi,Γ,Q',g,h,fin⟩
 refine ⟨W,Hi,Γ,_,g,h,?_⟩
 rintro vs H1 Hi1 Γ1 as s1 g1 dl ⟨xd,ds,ks,hi,rfl,h64,hkl,hsp,q⟩
 obtain ⟨v,rfl,den⟩:=zdl dl; obtain ⟨l,xs,rfl,hl,dx⟩:=den.lstI; obtain ⟨vx,hσ,dvx⟩:=g1.val i xd hi
 refine ⟨l,xs,vx,rfl,zy g1.sub hl,by rw [zn dx]; exact h64,hσ,fun f c fo oc H2 nl=>?_⟩
 have ex0:=PL.NewLam.ext nl g1.fz
 refine zhf (R:=R) nl.has.1 nl.has.2 dvx xs ds (ks.map i3D) [] [] Hi1 H2 (Ext.refl ex0.fz) dx (by rw [yF]; exact hkl) (fun j x k h1 h2=>?_) .nil fun acc Hi2 H3 ex da=>?_
 ·rw [yE] at h2
  obtain ⟨k',hk',rfl⟩:=yJ.mp h2; exact hsp j x k' h1 hk'
 rw [List.nil_append] at da
 refine ⟨ltT ks,zpm ks,?_,fun p hp=>?_⟩
 ·obtain ⟨as,rfl,kt⟩:=zi3 da
  exact zug (zfQ ex.fz.sub kt)
 ·have g2:=(g1.ext ex0).ext ex
  exact fin p _ Hi2 Γ1 (.lst (zdJ (ltT ks) ds)) (s1.trans ex.hi) (g2.ext (Ext.newO g2.fz hp _ (fun _ z=>by cases z))) (New.mk' g2 hp ⟨_,zo,ziF (zpm ks) (dx.mono ex.hi)⟩) q
def zK (td ty:TE'):TE':=fun Γ Q=>td Γ fun d Γ1=>∃ ls:List (List Nat),d=.lst (ls.map .str)/\ty Γ1 fun k Γ2=>∃ (l:List Nat) (j:Nat),k=.str l/\ls[j]?=some l/\(∀ i,i<j->ls[i]?≠some l)/\Q (.int j) Γ2
theorem zkW {o e:Expr} {apos cpos:Pos} {td ty:TE'} (ho:PE' X o td) (he:PE' X e ty) (m:M1 X o "index" apos e cpos:=by exact ⟨rfl,rfl,rfl,rfl⟩) :
  PE' X (.Call (.Attribute o "index" apos) [e] [] cpos) (zK td ty):=by
 refine ⟨PE.weak (zmL ho.h he.h m) ?_⟩
 rintro σ H Q ⟨W,Hi,Γ,Q',g,h,fin⟩
 refine ⟨W,Hi,Γ,_,g,h,?_⟩
 rintro x H1 ⟨Hi1,d,Γ1,s1,g1,den1,ls,rfl,h1⟩
 obtain ⟨a,vs,rfl,ha,dl⟩:=den1.lstI
 have ev:∀ (ls:List (List Nat)),ls.map (fun l=>V.str (st l))=zje (ls.map st):=fun ls=>by rw [zje,YG]; rfl
 rw [ze0 dl,ev] at ha; refine ⟨a,ls.map st,rfl,zy g1.sub ha,W,Hi1,Γ1,_,g1,h1,?_⟩
 rintro y H2 ⟨Hi2,dy,Γ2,s2,g2,den2,l,j,rfl,hj,hn,q⟩
 cases den2.strI
 refine ⟨ls.map st,st l,j,zy g2.sub (zy s2 ha),rfl,by rw [yE,hj]; rfl,fun i hi z=>?_,fin _ H2 ⟨Hi2,_,Γ2,s1.trans s2,g2,.int _,q⟩⟩
 rw [yE] at z; obtain ⟨m,hm,e⟩:=yJ.mp z
 have:m=l:=by rw [<- zaX m,e,zaX]
 subst this; exact hn i hi hm
def zjf:D->Option (List Nat)
 | .str l=>some l
 | _=>none
def zH:R2':=fun x y Q=>∃ (l:List Nat) (ds:List D),x=.str l/\y=.lst ds/\(∀ d ∈ ds,d=.non\/∃ m,d=.str m)/\Q (.bl (!decide (l ∈ ds.filterMap zjf)))
theorem zmZ:Op2 X (compareOp .NotIn) zH:=⟨_,zeJ,by
 rintro Hi H x y dx dy Q Q2 s d1 d2 ⟨l,ds,rfl,rfl,hd,q⟩ fin
 cases d1.strI
 obtain ⟨a,vs,rfl,h1,h2⟩:=d2.lstI
 refine ⟨a,vs,rfl,.inl (zy s.sub h1),rfl,Yr.mpr fun v z=>?_,?_⟩
 ·obtain ⟨j,hj⟩:=List.getElem?_of_mem z
  have hl:=(yD.mp hj).1; rw [zn h2] at hl; have den:=paired_get j h2 hj (yB hl)
  rcases hd _ (List.getElem_mem hl) with e | ⟨m,e⟩
  ·rw [e] at den; rw [den.nonI]; rfl
  ·rw [e] at den; rw [den.strI]; rfl
 ·have e:inV (.str (st l)) vs=decide (l ∈ ds.filterMap zjf):=by
   clear h1 q fin d2
   induction h2 with
   | nil=>rfl
   | cons r t ih =>
    rename_i v d vs ds
    have ih:=ih fun d hd'=>hd d (yP _ hd')
    unfold inV at ih ⊢
    rw [Yx,ih]
    rcases hd d yT with e | ⟨m,e⟩
    ·subst e
     rw [r.nonI]; simp [eqV,zjf]
    ·subst e
     rw [r.strI]
     have e:eqV (.str (st m)) (.str (st l))=decide (m=l):=by
      show decide (st m=st l)=_
      by_cases h:m=l
      ·rw [h]; simp
      ·rw [yk h,yk (fun z=>h (by rw [<- zaX m,z,zaX]))]
     rw [e]
     by_cases h:m=l
     ·simp [h,zjf]
     ·simp [h,zjf]
      exact fun z=>yQ z.symm h
  rw [e]; exact fin Hi H _ _ (Ext.refl s) (.bl _) q⟩
instance:MR2 zH:=⟨fun _ _ _ _ h ⟨i,ds,a,b,c,q⟩=>⟨i,ds,a,b,c,h _ q⟩⟩
def zay (n:Nat) (t:TO'):TO':=fun Γ Q=>t (zaU n Γ) fun o _=>∃ ds,o=.lst ds/\(∀ d ∈ ds,∃ xs,d=.tup xs)/\∀ as:List Addr,as.length=ds.length->Q (.lst (as.map .adr)) Γ
theorem zi6 {K:W.Frag} {Hb Hi:Hp}:∀ {vs:List V} {ds:List D},zbv K Hb vs ds->(∀ d ∈ ds,∃ xs,d=.tup xs)->∃ as:List Addr,as.length=ds.length/\zbv K Hi vs (as.map .adr)
 | [],[],_,_=>⟨[],rfl,.nil⟩
 | v :: vs,d :: ds,.cons r t,h=>by
  obtain ⟨as,e,dl⟩:=zi6 (Hi:=Hi) t fun d hd=>h d (yP _ hd)
  obtain ⟨xs,rfl⟩:=h d yT; obtain ⟨a,us,rfl,_,_⟩:=r.tupJ
  exact ⟨a :: as,by simp [e],.cons (.adr a) dl⟩
 | [],_ :: _,h,_=>nomatch h
 | _ :: _,[],h,_=>nomatch h
theorem zmA {e:Expr} {t:TO'} (h:PO' X e t):PO' X e (zay X.N.length t):=by
 refine ⟨PE.weak h.h ?_⟩
 rintro σ H Q ⟨W,Hi,Γ,Q',g,q,fin⟩
 obtain ⟨s1,g1⟩:=g.look; refine ⟨_,_,_,_,g1,q,?_⟩
 rintro a H' Hb Γ' o sb g' nw ⟨ds,rfl,ht,q'⟩
 obtain ⟨s2,g2,hd⟩:=g.unlook sb g'
 have ha:H a=none:=nw.h0
 obtain ⟨vs,ev,dl⟩:=nw.own; obtain ⟨as,el,da⟩:=zi6 (Hi:=zcu X.N.length W Γ σ Hb) dl ht
 refine fin a H' _ Γ (.lst (as.map .adr)) s2.hi g2 ⟨?_,?_,⟨fun j o' e z=>?_,fun j d xs e=>?_⟩,⟨vs,ev,da⟩⟩ (q' as el)
 ·unfold zcu
  split
  ·rfl
  ·exact nw.hi
 ·cases hq:W.H₀ a with
  | none=>rfl
  | some w =>
   obtain ⟨w',hw⟩:=g.there a w hq
   rw [ha] at hw; cases hw
 ·obtain ⟨b,h1,_,_,h4⟩:=g.own j o' e
  rw [z] at h1; cases h1; obtain ⟨w,hw⟩:=h4.there
  rw [ha] at hw; cases hw
 ·obtain ⟨w,hw⟩:=(g.bk j d a _ e).at_.there
  rw [ha] at hw; cases hw
end
end PL
namespace M33
open PySem L2 PL M34
theorem zha {α:Type} [DecidableEq α]:∀ {l m:List α},l.Nodup->(∀ x ∈ l,x ∈ m)->l.length<=m.length
 | [],m,_,_=>by simp
 | a :: l,m,hn,h=>by
  rw [Yg] at hn; have ha:=h a yT
  have ih:=zha (l:=l) (m:=m.erase a) hn.2 fun x hx=>(List.mem_erase_of_ne (fun z:x=a=>hn.1 (by rw [<- z]; exact hx))).mpr (h x (yP _ hx))
  rw [List.length_erase_of_mem ha] at ih
  have:=List.length_pos_of_mem ha
  rw [yf]; omega
theorem znU {α:Type} {R:α->α->Prop} (ir:∀ a,¬ R a a) (tr:∀ a b,R a b->¬ R b a):∀ {L M:List α},L.Pairwise R->M.Pairwise R->(∀ x,x ∈ L↔x ∈ M)->L=M
 | [],[],_,_,_=>rfl
 | [],b :: M,_,_,h=>yQ ((h b).mpr yT) (by simp)
 | a :: L,[],_,_,h=>yQ ((h a).mp yT) (by simp)
 | a :: L,b :: M,h1,h2,h=>by
  rw [List.pairwise_cons] at h1 h2
  have e:a=b:=by
   rcases yO.mp ((h a).mp yT) with z | z
   ·exact z
   ·rcases yO.mp ((h b).mpr yT) with y | y
    ·exact y.symm
    ·exact yQ (h1.1 b y) (tr _ _ (h2.1 a z))
  subst e
  rw [znU ir tr h1.2 h2.2 fun x=>?_]
  constructor
  ·intro hx
   rcases yO.mp ((h x).mp (yP _ hx)) with z | z
   ·exact yQ (h1.1 x hx) (by rw [z]; exact ir _)
   ·exact z
  ·intro hx
   rcases yO.mp ((h x).mpr (yP _ hx)) with z | z
   ·exact yQ (h2.1 x hx) (by rw [z]; exact ir _)
   ·exact z
theorem zqd {lt:Nat->Nat->Bool} (o:So.Ord lt) (a:Nat):¬ So.L lt a a:=by
 rintro (h | ⟨_,h⟩)
 ·have:=o.asym _ _ h; rw [h] at this; cases this
 ·omega
theorem zsj {lt:Nat->Nat->Bool} (o:So.Ord lt) (a b:Nat) (h:So.L lt a b):¬ So.L lt b a:=fun k=>zqd o a (h.trans o k)
theorem znP {lt:Nat->Nat->Bool} (o:So.Ord lt) {n:Nat} (hn:1<=n):(So.run lt (W.kas_sort n)).toList.Pairwise (So.L lt)/\∀ x,x ∈ (So.run lt (W.kas_sort n)).toList↔x<n:=by
 obtain ⟨b,st⟩:=So.sort o hn; have hs:=zd3 o hn; generalize hp:So.run lt (W.kas_sort n)=p at *
 have gt:∀ i (h:i<p.toList.length),So.g p i=p.toList[i]:=fun i h=>by
  rw [So.g_eq,YC (by simpa using h)]
  simp
 have pw:p.toList.Pairwise (So.L lt):=by
  rw [YR]; intro i j hi hj hij
  have:=st i j hij (by rw [hs.1] at hj; exact hj)
  rw [gt i hi,gt j hj] at this; exact this
 refine ⟨pw,fun x=>⟨hs.2 x,fun hx=>?_⟩⟩
 have nd:p.toList.Nodup:=by
  rw [List.nodup_iff_pairwise_ne]
  exact pw.imp fun {a b} h e=>by rw [e] at h; exact zqd o _ h
 cases Classical.em (x ∈ p.toList) with
 | inl h=>exact h
 | inr h =>
  have:=zha (l:=x :: p.toList) (m:=List.range n) (Yg.mpr ⟨h,nd⟩) fun y hy=>by
   rcases yO.mp hy with rfl | hy
   ·exact List.mem_range.mpr hx
   ·exact List.mem_range.mpr (hs.2 y hy)
  rw [yf,hs.1,yi] at this; omega
theorem zko {lt lt':Nat->Nat->Bool} (o:So.Ord lt) (o':So.Ord lt') (ds:List D) (h:∀ a b,a<ds.length->b<ds.length->(So.L lt' a b->So.L lt a b)):zdJ lt' ds=zdJ lt ds:=by
 unfold zdJ; split
 ·rfl
 ·rename_i hn
  have h1:=znP o (show 1<=ds.length by omega)
  have h2:=znP o' (show 1<=ds.length by omega)
  rw [znU (zqd o) (zsj o) h1.1 (h2.1.imp_of_mem fun {a b} ha hb hl=>h a b ((h2.2 a).mp ha) ((h2.2 b).mp hb) hl) fun x=>(h1.2 x).trans (h2.2 x).symm]
section
variable (ix:List Nat->Nat)
def ltK (a b:Nat × Int):Prop:=a.1<b.1\/(a.1=b.1/\a.2<b.2)
def kr (r:Row):Nat × Int:=(ix r.nm,r.num)
structure InOrd (rs:List Row) (b:Nat × Int):Prop where
 pw:(rs.map (kr ix)).Pairwise ltK
 le:∀ r ∈ rs,ltK (kr ix r) b
theorem zn2 {a b c:Nat × Int} (h1:ltK a b) (h2:ltK b c):ltK a c:=by unfold ltK at *; omega
theorem zk7 {a:Nat × Int}:¬ ltK a a:=by unfold ltK; omega
variable {ix}
theorem InOrd.more {rs:List Row} {b c:Nat × Int} (h:InOrd ix rs b) (hc:b=c\/ltK b c):InOrd ix rs c:=⟨h.pw,fun r hr=>by
 rcases hc with rfl | hc
 ·exact h.le r hr
 ·exact zn2 (h.le r hr) hc⟩
theorem InOrd.same {rs rs':List Row} {b:Nat × Int} (h:InOrd ix rs b) (e:rs'.map (kr ix)=rs.map (kr ix)):InOrd ix rs' b:=⟨by rw [e]; exact h.pw,fun r hr=>by
 have:kr ix r ∈ rs'.map (kr ix):=List.mem_map_of_mem hr
 rw [e] at this; obtain ⟨x,hx,ex⟩:=yq.mp this; rw [<- ex]; exact h.le x hx⟩
theorem InOrd.sub {rs rs':List Row} {b:Nat × Int} (h:InOrd ix rs b) (s:rs'.Sublist rs):InOrd ix rs' b:=⟨h.pw.sublist (s.map _),fun r hr=>h.le r (s.subset hr)⟩
theorem InOrd.snoc {rs:List Row} {b c:Nat × Int} {r:Row} (h:InOrd ix rs b) (e:kr ix r=b) (hc:ltK b c):InOrd ix (rs ++ [r]) c:=by
 refine ⟨?_,fun x hx=>?_⟩
 ·rw [YI,List.pairwise_append]
  refine ⟨h.pw,by simp,fun x hx y hy=>?_⟩
  rw [yS,List.map_nil,yj] at hy; obtain ⟨z,hz,rfl⟩:=yq.mp hx; rw [hy,e]; exact h.le z hz
 ·rcases YY.mp hx with hx | hx
  ·exact zn2 (h.le x hx) hc
  ·rw [yj.mp hx,e]; exact hc
theorem InOrd.tail {r:Row} {rs:List Row} {b:Nat × Int} (h:InOrd ix (r :: rs) b):InOrd ix rs b/\∀ x ∈ rs,¬ (x.nm=r.nm/\x.num=r.num):=by
 refine ⟨h.sub (List.sublist_cons_self _ _),fun x hx e=>?_⟩
 have:=(List.pairwise_cons.mp (show (kr ix r :: rs.map (kr ix)).Pairwise ltK from h.pw)).1 (kr ix x) (List.mem_map_of_mem hx)
 rw [show kr ix x=kr ix r by unfold kr; rw [e.1,e.2]] at this
 exact zk7 this
def fix (rs:List Row) (n:List Nat) (i made:Int):Option Nat:=rs.findIdx? fun r=>r.is n i && decide (made<r.day)
def upL (rs:List Row) (made:Int) (n:List Nat) (i:Int) (f:Nat->List Row):List Row:=match fix rs n i made with
 | none=>rs
 | some k=>f k
def zgI (rs:List Row) (nm:List Nat) (made num:Int):Deed->List Row
 | .ch d c s=>rs ++ [⟨nm,num,d,c,s⟩]
 | .lat n i d=>upL rs made n i fun k=>rs.modify k fun r=>{ r with day:=d }
 | .ins n i c=>upL rs made n i fun k=>rs.modify k fun r=>{ r with c:=c }
 | .drp n i=>upL rs made n i fun k=>rs.eraseIdx k
theorem zcY {r:Row} {n:List Nat} {i:Int}:r.is n i=true↔r.nm=n/\r.num=i:=by unfold Row.is; simp
theorem zjn {rs:List Row} {n:List Nat} {i:Int} (h:∀ x ∈ rs,¬ (x.nm=n/\x.num=i)):zbp rs n i=none:=List.find?_eq_none.mpr fun x hx e=>h x hx (zcY.mp e)
theorem zpA {rs:List Row} {r:Row} (h:∀ x ∈ rs,¬ (x.nm=r.nm/\x.num=r.num)):rs.map (fun x=>if x.is r.nm r.num=true then r else x)=rs:=by
 refine (Yb fun x hx=>?_).trans (List.map_id _)
 rw [yK (fun e=>h x hx (zcY.mp e))]
 rfl
theorem zka {g:Row->Row} (hg:∀ r,(g r).nm=r.nm/\(g r).num=r.num) {made:Int} {n:List Nat} {i:Int} {b:Nat × Int}:∀ {rs:List Row},InOrd ix rs b->upL rs made n i (fun k=>rs.modify k g)=zcn rs made n i fun r=>zeI rs (g r)
 | [],_=>rfl
 | x :: rs,h=>by
  obtain ⟨h1,h2⟩:=h.tail; have ih:=zka hg (made:=made) (n:=n) (i:=i) h1
  by_cases e:x.nm=n/\x.num=i
  ·obtain ⟨rfl,rfl⟩:=e
   have ex:x.is x.nm x.num=true:=zcY.mpr ⟨rfl,rfl⟩
   have rf:zbp (x :: rs) x.nm x.num=some x:=by unfold zbp; rw [yw,ex]
   unfold zcn upL; rw [rf]
   dsimp only
   by_cases hd:made<x.day
   ·have ef:fix (x :: rs) x.nm x.num made=some 0:=by unfold fix; rw [List.findIdx?_cons]; simp [ex,hd]
    rw [ef,yN hd]; unfold zeI
    rw [(hg x).1,(hg x).2,rf,yN (by rfl),yS,yN ex]
    show g x :: rs=_
    congr 1
    have:=zpA (rs:=rs) (r:=g x) (by rw [(hg x).1,(hg x).2]; exact h2)
    rw [(hg x).1,(hg x).2] at this; exact this.symm
   ·have ef:fix (x :: rs) x.nm x.num made=none:=by
     unfold fix; rw [List.findIdx?_eq_none_iff]; intro y hy
     rcases yO.mp hy with rfl | hy
     ·simp [hd]
     ·have:y.is x.nm x.num=false:=by
       cases z:y.is x.nm x.num with
       | false=>rfl
       | true=>exact yQ (zcY.mp z) (h2 y hy)
      simp [this]
    rw [ef,yK hd]
  ·have ex:x.is n i=false:=by
    cases z:x.is n i with
    | false=>rfl
    | true=>exact yQ (zcY.mp z) e
   have ef:fix (x :: rs) n i made=(fix rs n i made).map (·+1):=by unfold fix; rw [List.findIdx?_cons]; simp [ex]
   have rf:zbp (x :: rs) n i=zbp rs n i:=by unfold zbp; rw [yw,ex]
   unfold zcn upL at ih ⊢
   rw [ef,rf]
   cases e1:zbp rs n i with
   | none =>
    rw [e1] at ih
    cases e2:fix rs n i made with
    | none=>rfl
    | some k =>
     rw [e2] at ih
     dsimp only [Option.map_some] at ih ⊢
     rw [List.modify_succ_cons,ih]
   | some r =>
    rw [e1] at ih; have hr:=zd7 e1
    dsimp only at ih ⊢
    have put:zeI (x :: rs) (g r)=x :: zeI rs (g r):=by
     unfold zeI
     rw [(hg r).1,(hg r).2,hr.1,hr.2,rf,e1,yN (by rfl),yN (by rfl),yS,yK (by rw [ex]; simp)]
    cases e2:fix rs n i made with
    | none =>
     rw [e2] at ih
     dsimp only [Option.map_none] at ih ⊢
     rw [put]
     by_cases hd:made<r.day
     ·rw [yN hd] at ih ⊢; rw [<- ih]
     ·rw [yK hd]
    | some k =>
     rw [e2] at ih
     dsimp only [Option.map_some] at ih ⊢
     rw [List.modify_succ_cons,ih,put]
     split <;> rfl
theorem zkb {made:Int} {n:List Nat} {i:Int} {b:Nat × Int}:∀ {rs:List Row},InOrd ix rs b->upL rs made n i (fun k=>rs.eraseIdx k)=zcn rs made n i fun _=>zeN rs n i
 | [],_=>rfl
 | x :: rs,h=>by
  obtain ⟨h1,h2⟩:=h.tail; have ih:=zkb (made:=made) (n:=n) (i:=i) h1
  by_cases e:x.nm=n/\x.num=i
  ·obtain ⟨rfl,rfl⟩:=e
   have ex:x.is x.nm x.num=true:=zcY.mpr ⟨rfl,rfl⟩
   have rf:zbp (x :: rs) x.nm x.num=some x:=by unfold zbp; rw [yw,ex]
   have no:∀ y ∈ rs,y.is x.nm x.num=false:=fun y hy=>by
    cases z:y.is x.nm x.num with
    | false=>rfl
    | true=>exact yQ (zcY.mp z) (h2 y hy)
   unfold zcn upL; rw [rf]
   dsimp only
   by_cases hd:made<x.day
   ·have ef:fix (x :: rs) x.nm x.num made=some 0:=by unfold fix; rw [List.findIdx?_cons]; simp [ex,hd]
    rw [ef,yN hd]; unfold zeN
    rw [yx,yK (by simp [ex])]
    show rs=_
    rw [List.filter_eq_self.mpr fun y hy=>by simp [no y hy]]
   ·have ef:fix (x :: rs) x.nm x.num made=none:=by
     unfold fix; rw [List.findIdx?_eq_none_iff]; intro y hy
     rcases yO.mp hy with rfl | hy
     ·simp [hd]
     ·simp [no y hy]
    rw [ef,yK hd]
  ·have ex:x.is n i=false:=by
    cases z:x.is n i with
    | false=>rfl
    | true=>exact yQ (zcY.mp z) e
   have ef:fix (x :: rs) n i made=(fix rs n i made).map (·+1):=by unfold fix; rw [List.findIdx?_cons]; simp [ex]
   have rf:zbp (x :: rs) n i=zbp rs n i:=by unfold zbp; rw [yw,ex]
   have dr:zeN (x :: rs) n i=x :: zeN rs n i:=by unfold zeN; rw [yx,yN (by simp [ex])]
   unfold zcn upL at ih ⊢
   rw [ef,rf]
   cases e1:zbp rs n i with
   | none =>
    rw [e1] at ih
    cases e2:fix rs n i made with
    | none=>rfl
    | some k =>
     rw [e2] at ih
     dsimp only [Option.map_some] at ih ⊢
     rw [List.eraseIdx_cons_succ,ih]
   | some r =>
    rw [e1] at ih
    dsimp only at ih ⊢
    cases e2:fix rs n i made with
    | none =>
     rw [e2] at ih
     dsimp only [Option.map_none] at ih ⊢
     rw [dr]
     by_cases hd:made<r.day
     ·rw [yN hd] at ih ⊢; rw [<- ih]
     ·rw [yK hd]
    | some k =>
     rw [e2] at ih
     dsimp only [Option.map_some] at ih ⊢
     rw [List.eraseIdx_cons_succ,ih,dr]
     split <;> rfl
theorem zgG {rs:List Row} {nm:List Nat} {made num:Int} (d:Deed) (h:InOrd ix rs (ix nm,num)):zgI rs nm made num d=take rs nm made num d:=by
 cases d with
 | ch d c s =>
  show rs ++ [_]=zeI rs _
  unfold zeI
  rw [zjn fun x hx e=>?_]
  ·rfl
  ·have:=h.le x hx
   rw [show kr ix x=(ix nm,num) by unfold kr; rw [e.1,e.2]] at this
   exact zk7 this
 | lat n i d=>exact zka (g:=fun r=>{ r with day:=d }) (fun r=>⟨rfl,rfl⟩) h
 | ins n i c=>exact zka (g:=fun r=>{ r with c:=c }) (fun r=>⟨rfl,rfl⟩) h
 | drp n i=>exact zkb h
theorem ziJ {rs:List Row} {r r':Row} (hf:zbp rs r.nm r.num=some r'):(zeI rs r).map (kr ix)=rs.map (kr ix):=by
 unfold zeI
 rw [hf,yN (by rfl),YG]
 refine Yb fun x _=>?_
 simp only [Function.comp]; split
 ·rename_i e
  have:=zcY.mp e
  unfold kr; rw [this.1,this.2]
 ·rfl
theorem zmc {rs:List Row} {nm:List Nat} {made:Int} {num:Nat} (d:Deed) (h:InOrd ix rs (ix nm,(num:Int))):InOrd ix (take rs nm made num d) (ix nm,((num+1:Nat):Int)):=by
 have up:ltK (ix nm,(num:Int)) (ix nm,((num+1:Nat):Int)):=.inr ⟨rfl,by show (num:Int)<((num+1:Nat):Int); omega⟩
 have f:∀ n i (g:Row->List Row),(∀ r,zbp rs n i=some r->InOrd ix (g r) (ix nm,(num:Int)))->InOrd ix (zcn rs made n i g) (ix nm,((num+1:Nat):Int)):=fun n i g hg=>by
  unfold zcn
  cases e:zbp rs n i with
  | none=>exact h.more (.inr up)
  | some r =>
   dsimp only
   split
   ·exact (hg r e).more (.inr up)
   ·exact h.more (.inr up)
 cases d with
 | ch d c s =>
  rw [<- zgG (.ch d c s) h]; exact h.snoc rfl up
 | lat n i d =>
  exact f _ _ _ fun r e=>by
   have:=zd7 e
   exact h.same (ziJ (r:={ r with day:=d }) (r':=r) (by rw [this.1,this.2]; exact e))
 | ins n i c =>
  exact f _ _ _ fun r e=>by
   have:=zd7 e
   exact h.same (ziJ (r:={ r with c:=c }) (r':=r) (by rw [this.1,this.2]; exact e))
 | drp n i=>exact f _ _ _ fun r e=>h.sub List.filter_sublist
theorem zc3 {nm:List Nat} {made:Int}:∀ (ds:List Deed) (rs:List Row) (k:Nat),InOrd ix rs (ix nm,(k:Int))->InOrd ix (zZ nm made rs k ds) (ix nm,((k+ds.length:Nat):Int))
 | [],rs,k,h=>h
 | d :: ds,rs,k,h=>by
  have:=zc3 (made:=made) ds _ (k+1) (zmc (made:=made) d h)
  rw [show k+1+ds.length=k+(d :: ds).length by simp; omega] at this
  exact this
def zsO (as:List La):Prop:=as.Pairwise fun a b=>ix a.nm<ix b.nm
theorem zeA {B:Nat}:∀ (as:List La) (rs:List Row) (n:Nat),InOrd ix rs (n,0)->n<=B->(∀ a ∈ as,n<=ix a.nm/\ix a.nm<B)->zsO (ix:=ix) as->InOrd ix (zbt rs as) (B,0)
 | [],rs,n,h,hB,_,_=>h.more (by
   by_cases e:n=B
   ·exact .inl (by rw [e])
   ·exact .inr (.inl (by show n<B; omega)))
 | a :: as,rs,n,h,hB,h1,h2=>by
  unfold zsO at h2; rw [List.pairwise_cons] at h2; have h0:=h1 a yT
  have h3:InOrd ix rs (ix a.nm,((0:Nat):Int)):=h.more (by
   by_cases e:n=ix a.nm
   ·exact .inl (by rw [e]; rfl)
   ·exact .inr (.inl (by show n<ix a.nm; omega)))
  have h4:=zc3 (made:=a.day) a.ds rs 0 h3
  exact zeA as _ (ix a.nm+1) (h4.more (.inr (.inl (Nat.lt_succ_self _)))) (by omega) (fun x hx=>⟨h2.1 x hx,(h1 x (yP _ hx)).2⟩) h2.2
theorem zmd {ns:List (List Nat)} {rs:List Row} {nm:List Nat} {made num:Int} {d:Deed} (h:∀ x ∈ rs,x.nm ∈ ns) (hn:nm ∈ ns):∀ x ∈ take rs nm made num d,x.nm ∈ ns:=by
 have put:∀ r:Row,r.nm ∈ ns->∀ x ∈ zeI rs r,x.nm ∈ ns:=fun r hr x hx=>by
  unfold zeI at hx; split at hx
  ·obtain ⟨y,hy,rfl⟩:=yq.mp hx
   split
   ·exact hr
   ·exact h y hy
  ·rcases YY.mp hx with z | z
   ·exact h x z
   ·rw [yj.mp z]; exact hr
 have f:∀ n i (g:Row->List Row),(∀ r ∈ rs,∀ x ∈ g r,x.nm ∈ ns)->∀ x ∈ zcn rs made n i g,x.nm ∈ ns:=fun n i g hg x hx=>by
  unfold zcn at hx
  cases e:zbp rs n i with
  | none=>rw [e] at hx; exact h x hx
  | some r =>
   rw [e] at hx
   dsimp only at hx
   split at hx
   ·exact hg r (List.mem_of_find?_eq_some e) x hx
   ·exact h x hx
 cases d with
 | ch d c s=>exact put _ hn
 | lat n i d=>exact f _ _ _ fun r hr=>put _ (h r hr)
 | ins n i c=>exact f _ _ _ fun r hr=>put _ (h r hr)
 | drp n i=>exact f _ _ _ fun r hr x hx=>h x (List.mem_filter.mp hx).1
theorem zeF {ns:List (List Nat)} {nm:List Nat} {made:Int} (hn:nm ∈ ns):∀ (ds:List Deed) (rs:List Row) (k:Nat),(∀ x ∈ rs,x.nm ∈ ns)->∀ x ∈ zZ nm made rs k ds,x.nm ∈ ns
 | [],rs,k,h=>h
 | d :: ds,rs,k,h=>zeF hn ds _ _ (zmd h hn)
theorem zfV {ns:List (List Nat)}:∀ (as:List La) (rs:List Row),(∀ x ∈ rs,x.nm ∈ ns)->(∀ a ∈ as,a.nm ∈ ns)->∀ x ∈ zbt rs as,x.nm ∈ ns
 | [],rs,h,_=>h
 | a :: as,rs,h,h1=>zfV as _ (zeF (h1 a yT) a.ds rs 0 h) fun x hx=>h1 x (yP _ hx)
theorem zhl {b:Nat × Int}:InOrd ix [] b:=⟨.nil,fun _ h=>nomatch h⟩
theorem zkr (rs:List Row) (k:Nat) (g:Row->Row) {r:Row} (h:rs[k]?=some r):(rs.map zds).set k (zds (g r))=(rs.modify k g).map zds:=by
 refine List.ext_getElem? fun j=>?_
 rw [List.getElem?_set,yE,yE,List.getElem?_modify,yF]; have hk:=(yD.mp h).1
 by_cases e:k=j
 ·subst e
  have e2:rs[k]=r:=by rw [yB hk] at h; exact Option.some.inj h
  simp [hk,e2]
 ·simp [e]
theorem zhp (rs:List Row) (k:Nat):rs.take k ++ rs.drop (k+1)=rs.eraseIdx k:=(List.eraseIdx_eq_take_drop_succ rs k).symm
theorem zls {rs:List Row} {n:List Nat} {i made:Int} {k:Nat} (h:fix rs n i made=some k):∃ r,rs[k]?=some r:=by
 unfold fix at h; obtain ⟨hk,_⟩:=List.findIdx?_eq_some_iff_getElem.mp h; exact ⟨_,yB hk⟩
theorem zkp {rs:List Row} {b:Nat × Int} (h:InOrd ix rs b):zdJ (ltT (rs.map fun r=>(r.day,((ix r.nm:Nat):Int),r.num))) (rs.map zds)=wcD rs:=by
 unfold wcD
 refine zko (zmS _) (zpm _) _ fun a c ha hc hl=>?_
 rw [yF] at ha hc
 have gi:∀ j,j<rs.length->(rs.map Row.day).getD j 0=(rs.getD j ⟨[],0,0,.non,.non⟩).day/\(rs.map fun r=>(r.day,((ix r.nm:Nat):Int),r.num)).getD j (0,0,0)=((rs.getD j ⟨[],0,0,.non,.non⟩).day,((ix (rs.getD j ⟨[],0,0,.non,.non⟩).nm:Nat):Int),(rs.getD j ⟨[],0,0,.non,.non⟩).num):=fun j hj=>by
  simp [List.getD,yE,yB hj]
 have lt_of:∀ i j,i<j->j<rs.length->ltK (kr ix (rs.getD i ⟨[],0,0,.non,.non⟩)) (kr ix (rs.getD j ⟨[],0,0,.non,.non⟩)):=fun i j hij hj=>by
  have:=YR.mp h.pw i j (by rw [yF]; omega) (by rw [yF]; omega) hij
  simpa [List.getD,yB hj,yB (by omega:i<rs.length)] using this
 have l1:=lt_of a c; have l2:=lt_of c a; unfold So.L ltT at hl; unfold So.L ltI; rw [(gi a ha).1,(gi c hc).1]; rw [(gi a ha).2,(gi c hc).2] at hl; unfold ltK kr at l1 l2; simp only [YX,Yn] at hl ⊢; unfold zpC at hl
 dsimp only at hl l1 l2
 rcases Nat.lt_trichotomy a c with z | z | z
 ·have:=l1 z hc
  omega
 ·subst z
  omega
 ·have:=l2 z ha
  omega
end
end M33
set_option synthInstance.maxSize 4096
set_option synthInstance.maxHeartbeats 2000000
namespace K33
open PySem L2 Lb PL M34 M33 def rds:=And.intro zbb.eq_1 <| And.intro zbc.eq_1 <| And.intro za7.eq_1 <| And.intro za9.eq_1 <| And.intro zS.eq_1 <| And.intro zaT.eq_1 <| And.intro tC'.eq_1 <| And.intro zbB.eq_1 <| And.intro zcA.eq_1 <| And.intro tB'.eq_1 <| And.intro zbe.eq_1 <| And.intro zbn.eq_1 <| And.intro zc6.eq_1 <| And.intro zaC.eq_1 <| And.intro zbH.eq_1 <| And.intro zaw.eq_1 <| And.intro zdy.eq_1 <| And.intro za5.eq_1 <| And.intro zal.eq_1 <| And.intro zba.eq_1 <| And.intro zbh.eq_1 <| And.intro zc1.eq_1 <| And.intro zc7.eq_1 <| And.intro zc5.eq_1 <| And.intro zbf.eq_1 <| And.intro zc8.eq_1 <| And.intro zE.eq_1 <| And.intro zbl.eq_1 <| And.intro zbq.eq_1 <| And.intro zar.eq_1 <| And.intro zaD.eq_1 <| And.intro zad.eq_1 <| And.intro zae.eq_1 <| And.intro zc0.eq_1 <| And.intro zac.eq_1 <| And.intro zax.eq_1 <| And.intro zbi.eq_1 <| And.intro zah.eq_1 <| And.intro zbm.eq_1 <| And.intro zao.eq_1 <| And.intro zau.eq_1 <| And.intro za8.eq_1 <| And.intro zaU.eq_1 <| And.intro zc2.eq_1 <| And.intro zaj.eq_1 <| And.intro zbd.eq_1 <| And.intro zaA.eq_1 <| And.intro zbg.eq_1 <| And.intro zbr.eq_1 <| And.intro zat.eq_1 <| And.intro zbs.eq_1 <| And.intro zbE.eq_1 <| And.intro za6.eq_1 <| And.intro zai.eq_1 <| And.intro zbC.eq_1 <| And.intro zan.eq_1 <| And.intro zbA.eq_1 <| And.intro zU.eq_1 <| And.intro zbF.eq_1 <| And.intro zbI.eq_1 <| And.intro zbw.eq_1 <| And.intro zbz.eq_1 <| And.intro zak.eq_1 <| And.intro zdm.eq_1 <| And.intro zbk.eq_1 <| And.intro zF.eq_1 <| And.intro zav.eq_1 <| And.intro zI.eq_1 <| And.intro zbj.eq_1 <| And.intro zL.eq_1 <| And.intro tBr.eq_1 <| And.intro brN.eq_1 <| And.intro zam.eq_1 <| And.intro zag.eq_1 <| And.intro zT.eq_1 <| And.intro zas.eq_1 <| And.intro zM.eq_1 <| And.intro zby.eq_1 <| And.intro zaB.eq_1 <| And.intro zdn.eq_1 <| And.intro zbx.eq_1 <| And.intro zaz.eq_1 <| And.intro zbB.eq_1 <| And.intro zK.eq_1 <| And.intro zH.eq_1 <| And.intro zJ.eq_1 <| zay.eq_1 theorem sc0 {N P:List Str} {sc:Scope} (a:sc.kind=.function:=by rfl) (b:sc.isCoroutine=false:=by rfl) (c:sc.isGenerator=false:=by rfl) (d:N.Nodup:=by decide +kernel) (e:N.take P.length=P:=by rfl) (f:∀ x ∈ P,sc.names.lookup x=some .local\/sc.names.lookup x=some .cell:=by decide +kernel) (g:∀ y ∈ sc.names,y.2≠.free:=by decide +kernel):FnScope N P sc:=⟨a,b,c,d,e,f,g⟩
noncomputable def top (i:Nat):Stmt:=PySem.Challenge.pw_codemend_k33_what_counts.main.body.getD i (.Pass ⟨0,0,0,0⟩)
noncomputable abbrev zcO:Stmt:=top 2
noncomputable abbrev zaN:Stmt:=top 3
noncomputable abbrev zdK:Stmt:=top 4
noncomputable abbrev zhZ:Stmt:=top 5
noncomputable abbrev zb9:Stmt:=top 6
noncomputable abbrev zdq:Stmt:=top 15
noncomputable abbrev ze3:Stmt:=top 19
noncomputable abbrev zdp:Stmt:=top 20
noncomputable abbrev zcP:Stmt:=top 29
noncomputable abbrev zci:Stmt:=top 30
noncomputable abbrev zer:Stmt:=top 31
noncomputable abbrev zes:Stmt:=top 32
noncomputable abbrev zcB:Stmt:=top 33
noncomputable abbrev zdf:Stmt:=top 34
noncomputable abbrev zde:Stmt:=top 35
noncomputable abbrev zd6:Stmt:=top 36
noncomputable abbrev zdd:Stmt:=top 37
noncomputable abbrev zdN:Stmt:=top 38
noncomputable abbrev zaW:Stmt:=top 39
noncomputable abbrev zbW:Stmt:=top 40
noncomputable abbrev zdL:Stmt:=top 41
noncomputable abbrev zdM:Stmt:=top 42
noncomputable abbrev zfA:Stmt:=top 43
noncomputable abbrev zbZ:Stmt:=zcy (top 18) 0
noncomputable abbrev zcg:Stmt:=zcy (top 18) 1
noncomputable abbrev zb0:Stmt:=zcy (top 18) 2
noncomputable abbrev zbL:Stmt:=zcy (top 18) 4
noncomputable abbrev zab:Stmt:=zcy (top 18) 5
noncomputable abbrev zbX:Stmt:=zcy (top 23) 0
noncomputable abbrev zbY:Stmt:=zcy (top 24) 0
noncomputable abbrev zbN:Stmt:=zcy (top 25) 0
noncomputable abbrev zaQ:Stmt:=zcy (top 26) 0
noncomputable abbrev zb1:Stmt:=zcy (top 27) 0
structure Cs where
 Book:Addr
 Swap:Addr
 Read:Addr
 PutIn:Addr
 LeaveOut:Addr
 Anew:Addr
structure CF (K:W.Frag) (T:Cs):Prop where
 cl:Cls K T.Book
 naT:zaG K T.Book "tree"
 naP:zaG K T.Book "past"
 iR:InsT K T.Read
 iS:InsT K T.Swap
 iP:InsT K T.PutIn
 iL:InsT K T.LeaveOut
 iA:InsT K T.Anew
 nRp:zaG K T.Read "place"
 nRw:zaG K T.Read "words"
 nSp:zaG K T.Swap "place"
 nSo:zaG K T.Swap "old"
 nSn:zaG K T.Swap "new"
 nPp:zaG K T.PutIn "place"
 nPn:zaG K T.PutIn "node"
 nLp:zaG K T.LeaveOut "place"
 nAp:zaG K T.Anew "place"
 kRR:W.kitOne K (.ref T.Read) (.ref T.Read)=some true
 kSS:W.kitOne K (.ref T.Swap) (.ref T.Swap)=some true
 kPP:W.kitOne K (.ref T.PutIn) (.ref T.PutIn)=some true
 kLL:W.kitOne K (.ref T.LeaveOut) (.ref T.LeaveOut)=some true
 kAA:W.kitOne K (.ref T.Anew) (.ref T.Anew)=some true
def zqk (l:List Nat):Prop:=1<=l.length/\l.length<=8/\∀ c,c ∈ l->c ∈ zhO
structure Ent where
 nm:List Nat
 day:Int
 oth:Option (List Nat)
abbrev Act:=Ent × List Deed
def zhN:Option (List Nat)->D
 | none=>.non
 | some l=>.str l
def zdz (a:Act):D:=.tup [.str a.1.nm,.int a.1.day,zhN a.1.oth,.tup (a.2.map deD)]
def zbU (a:Act):D:=.tup [.str a.1.nm,.int a.1.day,zhN a.1.oth,.lst (a.2.map deD)]
def bkF (T:Cs) (t:D):D->D:=fun z=>.obj T.Book [("tree",t),("past",z)]
def bkD (T:Cs) (t:D) (es:List Act):D:=.obj T.Book [("tree",t),("past",.lst (es.map zdz))]
def nms (es:List Act):List (List Nat):=es.map (·.1.nm)
def chg:List Nat:=[99,104,97,110,103,101]
def zis (ah:List (List Nat)) (d:D):Prop:=∃ k x r,d=.tup (.str k :: x :: r)/\(k=chg\/(k≠chg/\∃ n,n ∈ ah/\x=.str n))
def zd2 (a:Act):La:=⟨a.1.nm,a.1.day,a.2⟩
def stp (zt:Int) (s:List La × List (List Nat)) (a:Act):List La × List (List Nat) :=
 if a.1.day<=zt/\a.1.nm ∉ s.2 then (zd2 a :: s.1,s.2 ++ a.1.oth.toList) else s
def zj3 (zt:Int) (rs:List Act):List La × List (List Nat):=rs.foldl (stp zt) ([],[])
def liv (zt:Int) (es:List Act):List La:=(zj3 zt es.reverse).1
def za2:Sp':=fun ds Q=>∃ (ns:List Int) (k:Int),ds=[.lst (ns.map .int),.int k]/\0<=k/\ns.length<=200/\∀ c:Int,Q (.val (.int c))
def zcN:Sp':=fun ds Q=>∃ l y,ds=[.str l,.str y]/\l.length<=1000/\Q (.val (.bl (l.all fun c=>decide (c ∈ y))))
def zep:Sp':=fun ds Q=>∃ l,ds=[.str l]/\zqk l/\Q (.val (.bl true))
def zdG:Sp':=fun ds Q=>∃ dl ah,ds=[.lst dl]/\dl.length<=100/\(∀ d,d ∈ dl->zis ah d)/\∀ ns:List (List Nat),ns.length<=100->(∀ n,n ∈ ns->n ∈ ah)->Q (.val (.lst (ns.map .str)))
def znJ (es:List Act) (nm:List Nat) (day:Int):Prop:=es.length<=100/\zqk nm/\nm ∉ nms es/\∀ e,e ∈ es->e.1.day<=day
def za4 (T:Cs):Sp':=fun ds Q=>∃ (t:D) (es:List Act) (nm:List Nat) (day:Int) (ns:List (List Nat)),ds=[bkD T t es,.str nm,.int day,.lst (ns.map .str)]/\znJ es nm day/\ns.length<=100/\(∀ n,n ∈ ns->n ∈ nms es)/\Q (.val .non)
def zdI (T:Cs):SpB:=fun d xs ds Q=>∃ (t:D) (es:List Act) (nm:List Nat) (day:Int) (dl:List Deed),d=bkF T t/\xs=es.map zdz/\ds=[.str nm,.int day,.lst (dl.map deD)]/\znJ es nm day/\dl.length<=100/\(∀ x,x ∈ dl->zis (nms es) (deD x))/\Q .non ((es ++ [((⟨nm,day,none⟩:Ent),dl)]).map zdz)
def zdb (T:Cs):SpB:=fun d xs ds Q=>∃ (t:D) (es:List Act) (nm:List Nat) (day:Int) (o:List Nat),d=bkF T t/\xs=es.map zdz/\ds=[.str nm,.int day,.str o]/\znJ es nm day/\o ∈ nms es/\Q .non ((es ++ [((⟨nm,day,some o⟩:Ent),([]:List Deed))]).map zdz)
def zdc (T:Cs):Sp':=fun ds Q=>∃ t es,ds=[bkD T t es]/\es.length<=100/\Q (.val (.lst (es.map zbU)))
def laD (a:La):D:=.tup [.str a.nm,.int a.day,.lst (a.ds.map deD)]
def zcv (T:Cs):Sp':=fun ds Q=>∃ t es zt,ds=[bkD T t es,.int zt]/\es.length<=100/\Q (.own (.lst ((liv zt es).map laD)))
instance:MSp za2:=⟨fun _ _ _ h ⟨ns,k,e,a,b,q⟩=>⟨ns,k,e,a,b,fun c=>h _ (q c)⟩⟩
theorem small {n:Nat} (h:n<=1000):n<=sizeLine:=Nat.le_of_lt (zap h)
theorem zpT {Q:D->Prop} {l:List Nat} {ms:List (List Nat)} (h:Q (.bl (decide (l ∈ ms)))):zqV (.str l) (.lst (ms.map .str)) Q:=.inr (.inr ⟨l,ms,rfl,.inr rfl,h⟩)
theorem zjE {Q:D->Prop} {l:List Nat} {ms:List (List Nat)} (h:Q (.bl (!decide (l ∈ ms)))):zgb (.str l) (.lst (ms.map .str)) Q:=.inr (.inr ⟨l,ms,rfl,.inr rfl,h⟩)
theorem lkP {t z:D}:List.lookup (Str.ofString "past") [(Str.ofString "tree",t),(Str.ofString "past",z)]=some z:=rfl
theorem zaZ {α:Type} {l:List α} {i:Nat} {a:α} (h:l[i]?=some a):l.take (i+1)=l.take i ++ [a]:=by
 rw [List.take_add_one,h]; rfl
theorem take_all {α:Type} (l:List α):l.take l.length=l:=List.take_length
section
variable {P:Program} {w:World} {K:W.Frag} {mg:Str->Option Value} {base:Heap} {T:Cs}
theorem zhz (y:List Nat) (Q:List D->Prop):∀ (l:List Nat) (acc:List Bool) (s0:Slot),Q ((acc ++ l.map fun c=>decide (c ∈ y)).map .bl) ->
  zeE (zS 0) zc0 (zcA zqV (zaT 0) (zaT 1)) Q (l.map fun c=>.str [c]) (acc.map .bl) [s0,.val (.str y)]
 | [],acc,s0,h=>by simpa [zeE] using h
 | c :: l,acc,s0,h=>by
  have ih:=zhz y Q l (acc ++ [decide (c ∈ y)]) (.val (.str [c])) (by simpa using h)
  simpa [zeE,vo,voS,zS,zc0,zcA,zaT] using ih
theorem zhV:FnScope ["text","signs"] ["text","signs"] (zm zdq):=sc0
theorem zib (d:Df K mg "has_only" zdq ["text","signs"]) (z_all:mg "all"=none):Fn P w K mg base 1 "has_only" ["text","signs"] zcN:=by
 refine d.ok zhV (fun ds Q h=>?_) (fun f cdv A outer s H E hr ds Q h=>⟨_,(zl (zD (zO (zur rfl) z_all PyProof.Rows.boot_all (zc (zcs (zdR (fsc:=zm zdq) (N:=["text","signs"]) (N':=["sign","signs"]) (src:=[none,some 1]) (by refine ⟨rfl,?_,?_,?_,rfl,rfl⟩ <;> decide +kernel) (zb3 (pv' 0)) (fun _ _ _ _ _ _=>(zw 0 (show (["sign","signs"]:List Str).Nodup by decide +kernel))) (fun _ _ _ _ _ _=>zb4) (fun _ _ _ _ _ _=>(zca (zrD (zq hr)) (pv' 0) (pv' 1))))) zj)))),?_⟩)
 ·obtain ⟨l,y,rfl,_⟩:=h
  rfl
 obtain ⟨l,y,rfl,hl,q⟩:=h; simp [rds]; refine ⟨small hl,?_⟩; refine zhz y _ l [] _ ?_; rw [zoP rfl]
 simpa using q
theorem zjm:FnScope ["thing"] ["thing"] (zm ze3):=sc0
theorem zjC (d:Df K mg "is_name" ze3 ["thing"]) (G_has_only:Fn P w K mg base 1 "has_only" ["text","signs"] zcN) (z_isinstance:mg "isinstance"=none) (z_len:mg "len"=none) (z_str:mg "str"=none) {t_LONGEST_NAME:Tok} (g_LONGEST_NAME:mg "LONGEST_NAME"=some (.int 8 t_LONGEST_NAME)) {t_SMALL_LETTERS:Tok} (g_SMALL_LETTERS:mg "SMALL_LETTERS"=some (.str (st zhO) t_SMALL_LETTERS)):Fn P w K mg base 2 "is_name" ["thing"] zep:=by
 refine d.ok zjm (fun ds Q h=>?_) (fun f cdv A outer s H E hr ds Q h=>⟨_,(zk (zQ (zcS (zcw (zO (zdF K rfl) z_isinstance yg (zc (pv' 0) (zc (zgW z_str PyProof.Rows.boot_str) zj))))) (zl (zD zeb)) zA)
  (zl (zD (zcl (zkX zsI zsI zi (zO zdE z_len YV (zc (pv' 0) zj)) (zrk g_LONGEST_NAME)) (zcU (zbS G_has_only (hr.mono (by decide)) (zc (pv' 0) (zc (zrj g_SMALL_LETTERS) zj)))))))),?_⟩)
 ·obtain ⟨l,rfl,_⟩:=h
  rfl
 obtain ⟨l,rfl,⟨h1,h2,h3⟩,q⟩:=h
 simp [rds,zcN]
 refine ⟨small (by omega),.inr ⟨by omega,.inr ⟨by omega,by omega,?_⟩⟩⟩
 have e:(l.all fun c=>decide (c ∈ zhO))=true:=Yr.mpr fun c hc=>decide_eq_true (h3 c hc)
 rw [e]; exact q
theorem zhT:FnScope ["deeds"] ["deeds"] (zm zdp):=sc0
theorem zh7 (d:Df K mg "named_in" zdp ["deeds"]):Fn P w K mg base 1 "named_in" ["deeds"] zdG:=by
 refine d.ok zhT (fun ds Q h=>?_) (fun f cdv A outer s H E hr ds Q h=>⟨_,(zl (zD (zcs (zdR (fsc:=zm zdp) (N:=["deeds"]) (N':=["deed"]) (src:=[none]) (by refine ⟨rfl,?_,?_,?_,rfl,rfl⟩ <;> decide +kernel) (zb3 (pv' 0)) (fun _ _ _ _ _ _=>(zw 0 (show (["deed"]:List Str).Nodup by decide +kernel))) (fun _ _ _ _ _ _=>(zmw (zx (zjD (za0 hr)) (zp (i_A (zq hr)) (pv' 0) zi) (zaF [99,104,97,110,103,101])))) (fun _ _ _ _ _ _=>(zp (i_A (zq hr)) (pv' 0) zi)))))),?_⟩)
 ·obtain ⟨dl,ah,rfl,_⟩:=h
  rfl
 obtain ⟨dl,ah,rfl,hl,hd,q⟩:=h; simp [rds]
 refine ⟨small (by omega),?_⟩
 refine zcz (fun i acc Γ=>∃ (ns:List (List Nat)) (s0:Slot),acc=ns.map .str/\ns.length<=i/\(∀ n,n ∈ ns->n ∈ ah)/\Γ=[s0]) ⟨[],_,rfl,yH _,fun _ z=>by simp at z,rfl⟩ ?_ ?_
 ·rintro i d acc Γ he ⟨ns,s0,rfl,hi,hn,rfl⟩
  obtain ⟨k,x,r,rfl,hk⟩:=hd d (yW he); simp [rds,vo,voS]
  rcases hk with rfl | ⟨hk,n,hn2,rfl⟩
  ·refine .inl ⟨rfl,ns,?_⟩
   first | exact ⟨by omega,hn⟩ | exact ⟨rfl,by omega,hn⟩
  ·refine .inr ⟨hk,ns ++ [n],by simp,by simp; omega,fun m hm=>?_⟩
   rcases YY.mp hm with hm | hm
   ·exact hn m hm
   ·rw [yj.mp hm]; exact hn2
 ·rintro acc Γ ⟨ns,s0,rfl,hi,hn,rfl⟩
  exact q ns (by omega) hn
theorem zbO:FnScope ["self","name","day","named","ahead","other"] ["self","name","day","named"] (zm zab):=sc0
theorem zed {f:Addr} {fd:FuncData} (F:Fun K "refuse_act" "Book.refuse_act" zab f fd) (bd:zcb K fd ["self","name","day","named"] []) (hm:Meth K T.Book "refuse_act" f) (cl:Cls K T.Book) (cf:CF K T) (G_is_name:Fn P w K mg base 2 "is_name" ["thing"] zep) (z_len:mg "len"=none):Mth P w K mg base 3 T.Book "refuse_act" ["self","name","day","named"] (za4 T):=by
 refine ⟨f,fd,PL.Fun.ok' F zbO (fun ds Q h=>?_) (fun cdv A outer s H E hr ds Q h=>⟨_,(zk (zeW 4 zbO.nd (zeV (fsc:=zm zab) (N:=["self","name","day","named","ahead","other"]) (N':=["entry"]) (src:=[none]) (by refine ⟨rfl,?_,?_,?_,rfl,rfl⟩ <;> decide +kernel) (zb3 (zbD (pv' 0))) (fun _ _ _ _ _ _=>(zw 0 (show (["entry"]:List Str).Nodup by decide +kernel))) (fun _ _ _ _ _ _=>zb4) (fun _ _ _ _ _ _=>(zp (i_A (zq hr)) (pv' 0) zi))))
  (zk (zQ (zcS (zcw (zbS G_is_name (hr.mono (by decide)) (zc (pv' 1) zj)))) (zl zge) zA)
  (zk (zQ (zx (zrD (zq hr)) (pv' 1) (pv' 4)) (zl zge) zA)
  (zk (zQ (PW'.pt (zdg (zx zrz (zO zdE z_len YV (zc (zbD (pv' 0)) zj)) zi) (zcR (zx ztI (pv' 2) (zp (i_A (zq hr)) (zp (i_A (zq hr)) (zbD (pv' 0)) zh5) zi))))) (zl zge) zA)
  (zl (zbQ (zb3 (pv' 3)) (zw 5 zbO.nd)
   (zl (zQ (zx (zm2 (zq hr)) (pv' 5) (pv' 4)) (zl zge) zA)))))))),?_⟩),bd,hm,cl⟩
 ·obtain ⟨t,es,nm,day,ns,rfl,_⟩:=h
  rfl
 obtain ⟨t,es,nm,day,ns,rfl,⟨h0,h1,h2,h3⟩,hn,hm,q⟩:=h
 simp [rds,bkD,lkP,cf.cl,cf.naP]
 refine ⟨small (by omega),?_⟩
 refine zcz (fun i acc Γ=>∃ (s0:Slot),acc=(nms (es.take i)).map .str/\Γ=[s0]) ⟨_,rfl,rfl⟩ ?_ ?_
 ·rintro i d acc Γ he ⟨s0,rfl,rfl⟩
  rw [yE] at he; obtain ⟨a,ha,rfl⟩:=yJ.mp he; rw [zaZ ha]; simp [rds,vo,voS,zdz,nms]
 ·rintro acc Γ ⟨s0,rfl,rfl⟩
  rw [yF,take_all]; refine ⟨nm,rfl,h1,rfl,zpT ?_⟩
  have loop:zgE (zS 5) (za7 (tB' (zcA zgb (zaT 5) (zaT 4))) za6 zac) { nx:=fun x=>Q (Res.val D.non),rt:=fun r x=>Q r } (List.map D.str ns)
    [Slot.val (D.obj T.Book [(Str.ofString "tree",t),(Str.ofString "past",D.lst (List.map zdz es))]),Slot.val (D.str nm),Slot.val (D.int day),Slot.val (D.lst (List.map D.str ns)),Slot.val (D.lst ((nms es).map .str)),Slot.emp]:=by
   refine zcD (fun i Γ=>∃ s5:Slot,Γ=[Slot.val (D.obj T.Book [(Str.ofString "tree",t),(Str.ofString "past",D.lst (List.map zdz es))]),Slot.val (D.str nm),Slot.val (D.int day),Slot.val (D.lst (List.map D.str ns)),Slot.val (D.lst ((nms es).map .str)),s5]) ⟨_,rfl⟩ ?_ ?_
   ·rintro i d Γ he ⟨s5,rfl⟩
    rw [yE] at he; obtain ⟨n,hn',rfl⟩:=yJ.mp he; simp [rds]; refine zjE ?_; simp [hm n (yW hn')]
   ·rintro Γ ⟨s5,rfl⟩
    exact q
  refine ⟨by simp [h2],?_⟩
  rcases List.eq_nil_or_concat es with rfl | ⟨es',a,rfl⟩
  ·exact .inl ⟨rfl,loop⟩
  ·rw [List.concat_eq_append] at loop h3 ⊢
   refine .inr ⟨by simp,zdz a,by rw [YI]; exact znI _ _,?_⟩
   have:=h3 a (by simp)
   exact (zeU _ _).mpr ⟨.int a.1.day,zuu _ _ _,day,a.1.day,rfl,rfl,by simp; omega,loop⟩
theorem zgP:FnScope ["self"] ["self"] (zm zbL):=sc0
theorem zg8 {f:Addr} {fd:FuncData} (F:Fun K "acts" "Book.acts" zbL f fd) (bd:zcb K fd ["self"] []) (hm:Meth K T.Book "acts" f) (cl:Cls K T.Book) (cf:CF K T) (z_list:mg "list"=none):Mth P w K mg base 1 T.Book "acts" ["self"] (zdc T):=by
 refine ⟨f,fd,PL.Fun.ok' F zgP (fun ds Q h=>?_) (fun cdv A outer s H E hr ds Q h=>⟨_,(zl (zD (zcs (zdR (fsc:=zm zbL) (N:=["self"]) (N':=["name","day","other","deeds"]) (src:=[none,none,none,none]) (by refine ⟨rfl,?_,?_,?_,rfl,rfl⟩ <;> decide +kernel) (zb3 (zbD (pv' 0))) (fun _ _ _ _ _ _=>(zdS (n:=4) (zN (zw 0 (show (["name","day","other","deeds"]:List Str).Nodup by decide +kernel)) (zN (zw 1 (show (["name","day","other","deeds"]:List Str).Nodup by decide +kernel)) (zN (zw 2 (show (["name","day","other","deeds"]:List Str).Nodup by decide +kernel)) (zN (zw 3 (show (["name","day","other","deeds"]:List Str).Nodup by decide +kernel)) zcT)))))) (fun _ _ _ _ _ _=>zb4) (fun _ _ _ _ _ _=>(zu (zc (pv' 0) (zc (pv' 1) (zc (pv' 2) (zc (zcs (zju (zp9 rfl) z_list PyProof.Rows.boot_list (zc (pv' 3) zj))) zj)))))))))),?_⟩),bd,hm,cl⟩
 ·obtain ⟨t,es,rfl,_⟩:=h
  rfl
 obtain ⟨t,es,rfl,hl,q⟩:=h; simp [rds,bkD,lkP,cf.cl,cf.naP]
 refine ⟨small (by omega),?_⟩
 refine zcz (fun i acc Γ=>∃ (s0 s1 s2 s3:Slot),acc=(es.take i).map zbU/\Γ=[s0,s1,s2,s3]) ⟨_,_,_,_,rfl,rfl⟩ ?_ ?_
 ·rintro i d acc Γ he ⟨s0,s1,s2,s3,rfl,rfl⟩
  rw [yE] at he; obtain ⟨a,ha,rfl⟩:=yJ.mp he; rw [zaZ ha]; simp [rds,vo,voS,zdz,zbU]
  exact ⟨_,_,⟨rfl,rfl⟩,rfl,(zjp _).mpr ⟨small (by decide),rfl⟩⟩
 ·rintro acc Γ ⟨s0,s1,s2,s3,rfl,rfl⟩
  rw [yF,take_all]; exact q
end
end K33
namespace K33
open PySem L2 Lb PL M34 M33
theorem zrE {m:Str} {t z:D} (h1:m≠Str.ofString "tree") (h2:m≠Str.ofString "past"):∀ (a:Str) (b:D),a=Str.ofString "tree"/\b=t\/a=Str.ofString "past"/\b=z->¬ m=a:=by
 rintro a b (⟨rfl,_⟩ | ⟨rfl,_⟩)
 ·exact h1
 ·exact h2
theorem zlb (zt:Int) (xs:List Act) (e:Act):zj3 zt (xs ++ [e])=stp zt (zj3 zt xs) e:=by simp [zj3]
theorem ztT {A B:Prop} (h:A):zgS true (zhN none) D.non fun d=>d=D.bl false/\A\/d=D.bl true/\B:=by simp [zgS,zhN,h]
theorem ztS {A B:Prop} {o:List Nat} (h:B):zgS true (zhN (some o)) D.non fun d=>d=D.bl false/\A\/d=D.bl true/\B:=by simp [zgS,zhN,h]
section
variable {P:Program} {w:World} {K:W.Frag} {mg:Str->Option Value} {base:Heap} {T:Cs}
theorem zhX:FnScope ["self","name","day","deeds"] ["self","name","day","deeds"] (zm zcg):=sc0
theorem zic {f:Addr} {fd:FuncData} (F:Fun K "act" "Book.act" zcg f fd) (bd:zcb K fd ["self","name","day","deeds"] []) (hm:Meth K T.Book "act" f) (cl:Cls K T.Book) (cf:CF K T) (G_named_in:Fn P w K mg base 1 "named_in" ["deeds"] zdG) (z_tuple:mg "tuple"=none) (M_Book_refuse_act:Mth P w K mg base 3 T.Book "refuse_act" ["self","name","day","named"] (za4 T)):MthB P w K mg base 4 T.Book "act" ["self","name","day","deeds"] (zdI T):=by
 refine ⟨f,fd,PL.Fun.okB F zhX (fun dd xs ds Q h=>?_) (fun cdv A outer s H E hr dd b xs ds Q h=>⟨_,(zk (zd9 (zdT (zkS M_Book_refuse_act (hr.mono (by decide)) (pv' 0) (zc (pv' 1) (zc (pv' 2) (zc (zbS G_named_in (hr.mono (by decide)) (zc (pv' 3) zj)) zj))))))
  (zl (zkI 0 (zu (zc (pv' 1) (zc (pv' 2) (zc zck (zc (zev zp7 z_tuple PyProof.Rows.boot_tuple (zc (pv' 3) zj)) zj)))))))),?_⟩),bd,hm,cl⟩
 ·obtain ⟨t,es,nm,day,dl,rfl,rfl,rfl,_⟩:=h
  rfl
 obtain ⟨t,es,nm,day,dl,rfl,rfl,rfl,hp,hl,hd,q⟩:=h; simp [zbb,zbc,za7,za9,zS,zaT,tC',zbB,zcA,tB',zbe,zbn,zc6,zaC,zbH,zaw,zdy,za5,zal,zba,zbh,zc1,zc7,zc5,zbf,zc8,zE,zbl,zbq,zar,zaD,zad,zae,zc0,zac,zax,zbi,zah,zbm,zao,zau,za8,zaU,zc2,zaj,zbd,zaA,zbg,zbr,zat,zbs,zbE,za6,zai,zbC,zan,zbA,zU,zbF,zbI,zbw,zbz,zak,zdm,zbk,zF,zav,zI,zbj,zL,tBr,brN,zam,zag,zT,zas,zM,zby,zaB,zdn,zbx,zaz,zbB,zK,zH,zJ,zay,bkF]
 refine ⟨zrE (by decide +kernel) (by decide +kernel),dl.map deD,nms es,rfl,by rw [yF]; exact hl,fun d hd'=>by obtain ⟨x,hx,rfl⟩:=yq.mp hd'; exact hd x hx,fun ns hn hm=>⟨t,es,nm,day,ns,rfl,hp,hn,hm,.non,⟨cf.cl,cf.naP,lkP⟩,small (by decide),zap (by have:=hp.1; omega),?_⟩⟩
 rw [YI] at q; exact q
theorem zgO:FnScope ["self","name","day","other"] ["self","name","day","other"] (zm zb0):=sc0
theorem zg7 {f:Addr} {fd:FuncData} (F:Fun K "back" "Book.back" zb0 f fd) (bd:zcb K fd ["self","name","day","other"] []) (hm:Meth K T.Book "back" f) (cl:Cls K T.Book) (cf:CF K T) (M_Book_refuse_act:Mth P w K mg base 3 T.Book "refuse_act" ["self","name","day","named"] (za4 T)):MthB P w K mg base 4 T.Book "back" ["self","name","day","other"] (zdb T):=by
 refine ⟨f,fd,PL.Fun.okB F zgO (fun dd xs ds Q h=>?_) (fun cdv A outer s H E hr dd b xs ds Q h=>⟨_,(zk (zd9 (zdT (zkS M_Book_refuse_act (hr.mono (by decide)) (pv' 0) (zc (pv' 1) (zc (pv' 2) (zc (zcs (zcC (zc (pv' 3) zj))) zj))))))
  (zl (zkI 0 (zu (zc (pv' 1) (zc (pv' 2) (zc (pv' 3) (zc (zu zj) zj)))))))),?_⟩),bd,hm,cl⟩
 ·obtain ⟨t,es,nm,day,dl,rfl,rfl,rfl,_⟩:=h
  rfl
 obtain ⟨t,es,nm,day,o,rfl,rfl,rfl,hp,ho,q⟩:=h; simp [zbb,zbc,za7,za9,zS,zaT,tC',zbB,zcA,tB',zbe,zbn,zc6,zaC,zbH,zaw,zdy,za5,zal,zba,zbh,zc1,zc7,zc5,zbf,zc8,zE,zbl,zbq,zar,zaD,zad,zae,zc0,zac,zax,zbi,zah,zbm,zao,zau,za8,zaU,zc2,zaj,zbd,zaA,zbg,zbr,zat,zbs,zbE,za6,zai,zbC,zan,zbA,zU,zbF,zbI,zbw,zbz,zak,zdm,zbk,zF,zav,zI,zbj,zL,tBr,brN,zam,zag,zT,zas,zM,zby,zaB,zdn,zbx,zaz,zbB,zK,zH,zJ,zay,bkF]
 refine ⟨zrE (by decide +kernel) (by decide +kernel),small (by decide),t,es,nm,day,[o],rfl,hp,by simp,fun n hn=>?_,.non,⟨cf.cl,cf.naP,lkP⟩,small (by decide),zap (by have:=hp.1; omega),?_⟩
 ·rw [yj.mp hn]; exact ho
 rw [YI] at q; exact q
theorem zaO:FnScope ["book","seen","lives","taken_back","name","day","other","deeds"] ["book","seen"] (zm zcO):=sc0
theorem zfE (d:Df K mg "living_acts" zcO ["book","seen"]) (cf:CF K T) (z_reversed:mg "reversed"=none) (M_Book_acts:Mth P w K mg base 1 T.Book "acts" ["self"] (zdc T)):Fn P w K mg base 2 "living_acts" ["book","seen"] (zcv T):=by
 refine d.ok zaO (fun ds Q h=>?_) (fun f cdv A outer s H E hr ds Q h=>⟨_,(zk (zbP 2 zaO.nd (zcC zj))
  (zk (zbP 3 zaO.nd zo2)
  (zk (zbQ (zkP rfl z_reversed (zc (zmJ M_Book_acts (hr.mono (by decide)) (pv' 0)) zj)) (zdS (n:=4) (zN (zw 4 zaO.nd) (zN (zw 5 zaO.nd) (zN (zw 6 zaO.nd) (zN (zw 7 zaO.nd) zcT)))))
   (zl (zQ (zgd (PW'.pt (zdg (zx zsI (pv' 5) (pv' 1)) (zcR (zx (zm0 (zq hr)) (pv' 4) (pv' 3)))))) (zk (zb2 2 (zu (zc (pv' 4) (zc (pv' 5) (zc (pv' 7) zj)))))
  (zl (zQ (zx zee (pv' 6) zck) (zl (zmx (zq hr) 3 (pv' 6) zeb)) zA))) zA)))
  (zk (zh4 2)
  (zl (zeX 2)))))),?_⟩)
 ·obtain ⟨t,es,zt,rfl,_⟩:=h
  rfl
 obtain ⟨t,es,zt,rfl,hl,q⟩:=h; simp [zbb,zbc,za7,za9,zS,zaT,tC',zbB,zcA,tB',zbe,zbn,zc6,zaC,zbH,zaw,zdy,za5,zal,zba,zbh,zc1,zc7,zc5,zbf,zc8,zE,zbl,zbq,zar,zaD,zad,zae,zc0,zac,zax,zbi,zah,zbm,zao,zau,za8,zaU,zc2,zaj,zbd,zaA,zbg,zbr,zat,zbs,zbE,za6,zai,zbC,zan,zbA,zU,zbF,zbI,zbw,zbz,zak,zdm,zbk,zF,zav,zI,zbj,zL,tBr,brN,zam,zag,zT,zas,zM,zby,zaB,zdn,zbx,zaz,zbB,zK,zH,zJ,zay]; refine ⟨_,rfl,?_,t,es,rfl,hl,_,rfl,?_⟩
 ·intro a b hm
  simp at hm
  exact zrE (by decide +kernel) (by decide +kernel) a b hm
 rw [<- List.map_reverse]
 refine zcD (fun i Γ=>∃ (ms:List (List Nat)) (s4 s5 s6 s7:Slot),(∀ x,x ∈ ms↔x ∈ (zj3 zt (es.reverse.take i)).2)/\(zj3 zt (es.reverse.take i)).1.length<=i/\ms.length<=i /\
  Γ=[Slot.val (bkD T t es),Slot.val (D.int zt),Slot.own (OD.lst ((zj3 zt (es.reverse.take i)).1.reverse.map laD)),Slot.own (OD.dic (nmD ms)),s4,s5,s6,s7]) ⟨[],_,_,_,_,by simp [zj3],yb _,yb _,rfl⟩ ?_ ?_
 ·rintro i d Γ he ⟨ms,s4,s5,s6,s7,h2,h3,h4,rfl⟩
  rw [yE] at he; obtain ⟨a,ha,rfl⟩:=yJ.mp he
  have hi:i<es.length:=by have:=(yD.mp ha).1; simpa using this
  rw [zaZ ha,zlb]; generalize zj3 zt (es.reverse.take i)=st at h2 h3; simp [zbb,zbc,za7,za9,zS,zaT,tC',zbB,zcA,tB',zbe,zbn,zc6,zaC,zbH,zaw,zdy,za5,zal,zba,zbh,zc1,zc7,zc5,zbf,zc8,zE,zbl,zbq,zar,zaD,zad,zae,zc0,zac,zax,zbi,zah,zbm,zao,zau,za8,zaU,zc2,zaj,zbd,zaA,zbg,zbr,zat,zbs,zbE,za6,zai,zbC,zan,zbA,zU,zbF,zbI,zbw,zbz,zak,zdm,zbk,zF,zav,zI,zbj,zL,tBr,brN,zam,zag,zT,zas,zM,zby,zaB,zdn,zbx,zaz,zbB,zK,zH,zJ,zay,zbU,ztr]; refine ⟨_,_,⟨rfl,rfl⟩,rfl,?_⟩
  by_cases hd:a.1.day<=zt
  ·refine .inr ⟨hd,ms,rfl,?_⟩
   by_cases hm:a.1.nm ∈ ms
   ·have e:stp zt st a=st:=by
     unfold stp; rw [yK]
     rintro ⟨_,z⟩
     exact z ((h2 _).mp hm)
    rw [e]
    exact .inl ⟨hm,ms,h2,by omega,by omega,rfl,rfl⟩
   ·have e:stp zt st a=(zd2 a :: st.1,st.2 ++ a.1.oth.toList):=by
     unfold stp
     rw [yN ⟨hd,fun z=>hm ((h2 _).mpr z)⟩]
    rw [e]
    refine .inr ⟨hm,small (by decide),zap (by omega),?_⟩
    have n2:(zd2 a :: st.1).length<=i+1:=by simp; omega
    cases ho:a.1.oth with
    | none=>exact ztT ⟨ms,by simpa using h2,n2,by omega,by simp [laD,zd2],rfl⟩
    | some o =>
     refine ztS ⟨⟨ms,rfl⟩,ms,rfl,o,rfl,zap (by omega),zie ms o,fun x=>?_,n2,?_,by simp [laD,zd2],rfl⟩
     ·unfold zie
      split
      ·rename_i hin
       rw [h2 x]; simp
       rintro rfl
       exact (h2 _).mp hin
      ·simp [h2 x]
     ·unfold zie
      split
      ·omega
      ·simp; omega
  ·have e:stp zt st a=st:=by
    unfold stp; rw [yK]
    rintro ⟨z,_⟩
    exact hd z
   rw [e]
   exact .inl ⟨by omega,ms,h2,by omega,by omega,rfl,rfl⟩
 ·rintro Γ ⟨ms,s4,s5,s6,s7,h2,h3,h4,rfl⟩
  rw [yF,take_all]; simp [zbb,zbc,za7,za9,zS,zaT,tC',zbB,zcA,tB',zbe,zbn,zc6,zaC,zbH,zaw,zdy,za5,zal,zba,zbh,zc1,zc7,zc5,zbf,zc8,zE,zbl,zbq,zar,zaD,zad,zae,zc0,zac,zax,zbi,zah,zbm,zao,zau,za8,zaU,zc2,zaj,zbd,zaA,zbg,zbr,zat,zbs,zbE,za6,zai,zbC,zan,zbA,zU,zbF,zbI,zbw,zbz,zak,zdm,zbk,zF,zav,zI,zbj,zL,tBr,brN,zam,zag,zT,zas,zM,zby,zaB,zdn,zbx,zaz,zbB,zK,zH,zJ,zay]; exact q
theorem zpD (zt:Int) (es:List Act):(liv zt es).length<=es.length:=by
 have:∀ (rs:List Act) (s:List La × List (List Nat)),(rs.foldl (stp zt) s).1.length<=s.1.length+rs.length:=by
  intro rs
  induction rs with
  | nil=>intro s; simp
  | cons a rs ih =>
   intro s; have h1:=ih (stp zt s a)
   have h2:(stp zt s a).1.length<=s.1.length+1:=by
    unfold stp
    split <;> simp
   simp only [YQ,yf]; omega
 have:=this es.reverse ([],[])
 unfold liv zj3
 simpa using this
end
def zeS:Sp':=fun ds Q=>∃ (rs:List Row) (x0:D) (n:List Nat) (i made:Int) (r:List D),ds=[.dit (rs.map zd0),.tup (x0 :: .str n :: .int i :: r),.int made]/\Q (.val (.bl (match zbp rs n i with | none=>false | some r=>decide (made<r.day))))
def zaP:SpM:=fun o ds Q=>∃ (rs:List Row) (d:Deed) (r:Row),o=.dit (rs.map zd0)/\ds=[deD d]/\rs.length<=900/\((∃ n i day,d=.lat n i day/\zbp rs n i=some r/\Q .non (.dit ((zeI rs { r with day:=day }).map zd0)))\/(∃ n i c,d=.ins n i c/\zbp rs n i=some r/\Q .non (.dit ((zeI rs { r with c:=c }).map zd0)))\/∃ n i,d=.drp n i/\zbp rs n i=some r/\Q .non (.dit ((zeN rs n i).map zd0)))
def zcq:SpM:=fun o ds Q=>∃ (rs:List Row) (nm:List Nat) (made num:Int) (d:Deed),o=.dit (rs.map zd0)/\ds=[.str nm,.int made,.int num,deD d]/\rs.length<=900/\Q .non (.dit ((take rs nm made num d).map zd0))
instance:MSpM zcq:=⟨fun _ _ _ _ h ⟨rs,nm,made,num,d,e,a,b,q⟩=>⟨rs,nm,made,num,d,e,a,b,h _ _ q⟩⟩
section
variable {P:Program} {w:World} {K:W.Frag} {mg:Str->Option Value} {base:Heap} {T:Cs}
theorem ziG:FnScope ["counted","deed","made","entry"] ["counted","deed","made"] (zm zhZ):=sc0
theorem zmT (d:Df K mg "finds" zhZ ["counted","deed","made"]):Fn P w K mg base 1 "finds" ["counted","deed","made"] zeS:=by
 refine d.ok ziG (fun ds Q h=>?_) (fun f cdv A outer s H E hr ds Q h=>⟨_,(zk (zaq 3 ziG.nd (zmM (zq hr) (pv' 0) (zu (zc (zp (i_A (zq hr)) (pv' 1) zi) (zc (zp (i_A (zq hr)) (pv' 1) zi) zj)))))
  (zl (zD (zcl (zca zee (pv' 3) zck) (zcU (zca zrz (zp (i_A (zq hr)) (pv' 3) zi) (pv' 2))))))),?_⟩)
 ·obtain ⟨rs,x0,n,i,made,r,rfl,_⟩:=h
  rfl
 obtain ⟨rs,x0,n,i,made,r,rfl,q⟩:=h; simp [rds]
 refine ⟨small (by decide),⟨ztR n i,rfl⟩,?_⟩
 rw [show D.tup [D.str n,D.int i]=zhi n i from rfl,zdx]
 cases e:zbp rs n i with
 | none =>
  rw [e] at q; simp [zgS]; exact q
 | some x =>
  rw [e] at q; simp [zgS]; exact q
theorem zbV:FnScope ["counted","deed","key","entry"] ["counted","deed"] (zm zb9):=sc0
theorem zew (d:Df K mg "change_counted" zb9 ["counted","deed"]):FnM P w K mg base 1 "change_counted" ["counted","deed"] 0 zaP:=by
 refine d.okM zbV (fun o ds Q h=>?_) (fun f cdv A outer s H E hr b o ds Q h=>⟨_,(zk (zaq 2 zbV.nd (zu (zc (zp (i_A (zq hr)) (pv' 1) zi) (zc (zp (i_A (zq hr)) (pv' 1) zi) zj))))
  (zk (zaq 3 zbV.nd (zrh (zq hr) 0 (pv' 2)))
  (zl (zQ (zx (zbJ (za0 hr)) (zp (i_A (zq hr)) (pv' 1) zi) (zaF [108,97,116,101,114])) (zl (zgf (zq hr) 0 (pv' 2) (zu (zc (zp (i_A (zq hr)) (pv' 1) zi) (zc (zp (i_A (zq hr)) (pv' 3) zi) (zc (zp (i_A (zq hr)) (pv' 3) zi) zj)))))) (zl (zQ (zx (zbJ (za0 hr)) (zp (i_A (zq hr)) (pv' 1) zi) (zaF [105,110,115,116,101,97,100])) (zl (zgf (zq hr) 0 (pv' 2) (zu (zc (zp (i_A (zq hr)) (pv' 3) zi) (zc (zp (i_A (zq hr)) (pv' 1) zi) (zc (zp (i_A (zq hr)) (pv' 3) zi) zj)))))) (zl (zoW (zq hr) 0 (pv' 2))))))))),?_⟩)
 ·obtain ⟨rs,d,r,rfl,rfl,_⟩:=h
  rfl
 obtain ⟨rs,d,r,rfl,rfl,hl,q⟩:=h; simp [zbb,zbc,za7,za9,zS,zaT,tC',zbB,zcA,tB',zbe,zbn,zc6,zaC,zbH,zaw,zdy,za5,zal,zba,zbh,zc1,zc7,zc5,zbf,zc8,zE,zbl,zbq,zar,zaD,zad,zae,zc0,zac,zax,zbi,zah,zbm,zao,zau,za8,zaU,zc2,zaj,zbd,zaA,zbg,zbr,zat,zbs,zbE,za6,zai,zbC,zan,zbA,zU,zbF,zbI,zbw,zbz,zak,zdm,zbk,zF,zav,zI,zbj,zL,tBr,brN,zam,zag,zT,zas,zM,zby,zaB,zdn,zbx,zaz,zbB,zK,zH,zJ,zay]
 have hk:∀ (n:List Nat) (i:Int),∃ x,[D.str n,D.int i]=List.map zdY x:=fun n i=>⟨ztR n i,rfl⟩
 have hkR:∀ (n:List Nat) (i:Int),D.tup [D.str n,D.int i]=zhi n i:=fun n i=>rfl
 rcases q with ⟨n,i,day,rfl,e,q⟩ | ⟨n,i,c,rfl,e,q⟩ | ⟨n,i,rfl,e,q⟩
 ·obtain ⟨rfl,rfl⟩:=zd7 e
  simp [deD,zqg,hk,hkR,zdx,e]
  refine ⟨small (by decide),small (by decide),zap (by omega),?_⟩
  rw [<- zh3] at q; exact q
 ·obtain ⟨rfl,rfl⟩:=zd7 e
  simp [deD,zqh,hk,hkR,zdx,e]
  refine ⟨small (by decide),small (by decide),zap (by omega),?_⟩
  rw [<- zh3] at q; exact q
 ·simp [deD,zqi,hk,hkR,zdx,e,zi1]
  exact ⟨small (by decide),q⟩
theorem zgM:FnScope ["counted","name","made","number","deed"] ["counted","name","made","number","deed"] (zm zdK):=sc0
theorem zg2 (d:Df K mg "take_deed" zdK ["counted","name","made","number","deed"]) (G_finds:Fn P w K mg base 1 "finds" ["counted","deed","made"] zeS) (G_change_counted:FnM P w K mg base 1 "change_counted" ["counted","deed"] 0 zaP):FnM P w K mg base 2 "take_deed" ["counted","name","made","number","deed"] 0 zcq:=by
 refine d.okM zgM (fun o ds Q h=>?_) (fun f cdv A outer s H E hr b o ds Q h=>⟨_,(zl (zQ (zx (zbJ (za0 hr)) (zp (i_A (zq hr)) (pv' 4) zi) (zaF [99,104,97,110,103,101])) (zl (zgf (zq hr) 0 (zu (zc (pv' 1) (zc (pv' 3) zj))) (zu (zc (zp (i_A (zq hr)) (pv' 4) zi) (zc (zp (i_A (zq hr)) (pv' 4) zi) (zc (zp (i_A (zq hr)) (pv' 4) zi) zj)))))) (zl (zQ (zgd (zcw (zbS G_finds (hr.mono (by decide)) (zc (pv' 0) (zc (pv' 4) (zc (pv' 2) zj)))))) (zl (zd9 (ziL G_change_counted (hr.mono (by decide)) (zkL 0 (zc (pv' 4) zj))))) zA)))),?_⟩)
 ·obtain ⟨rs,nm,made,num,d,rfl,rfl,_⟩:=h
  rfl
 obtain ⟨rs,nm,made,num,dd,rfl,rfl,hl,q⟩:=h; simp [zbb,zbc,za7,za9,zS,zaT,tC',zbB,zcA,tB',zbe,zbn,zc6,zaC,zbH,zaw,zdy,za5,zal,zba,zbh,zc1,zc7,zc5,zbf,zc8,zE,zbl,zbq,zar,zaD,zad,zae,zc0,zac,zax,zbi,zah,zbm,zao,zau,za8,zaU,zc2,zaj,zbd,zaA,zbg,zbr,zat,zbs,zbE,za6,zai,zbC,zan,zbA,zU,zbF,zbI,zbw,zbz,zak,zdm,zbk,zF,zav,zI,zbj,zL,tBr,brN,zam,zag,zT,zas,zM,zby,zaB,zdn,zbx,zaz,zbB,zK,zH,zJ,zay]
 have hk:∀ (n:List Nat) (i:Int),∃ x,[D.str n,D.int i]=List.map zdY x:=fun n i=>⟨ztR n i,rfl⟩
 have hkR:∀ (n:List Nat) (i:Int),D.tup [D.str n,D.int i]=zhi n i:=fun n i=>rfl
 have look:∀ (x0:D) (n:List Nat) (i:Int) (rr:List D) (g:Row->List Row),deD dd=.tup (x0 :: .str n :: .int i :: rr)->take rs nm made num dd=zcn rs made n i g ->
   (∀ r,zbp rs n i=some r->Q D.non (OD.dit ((g r).map zd0))->zaP (OD.dit (List.map zd0 rs)) [deD dd] fun r o'=>Q D.non o') ->
   zeS [D.dit (List.map zd0 rs),deD dd,D.int made] fun r=>r.toD=D.bl false/\Q D.non (OD.dit (List.map zd0 rs))\/r.toD=D.bl true/\zaP (OD.dit (List.map zd0 rs)) [deD dd] fun r o'=>Q D.non o':=fun x0 n i rr g e1 e2 h=>by
  rw [e2] at q
  refine ⟨rs,x0,n,i,made,rr,by rw [e1],?_⟩
  unfold zcn at q
  cases e:zbp rs n i with
  | none =>
   rw [e] at q; exact .inl ⟨rfl,q⟩
  | some r =>
   rw [e] at q
   dsimp only at q
   by_cases hd:made<r.day
   ·rw [yN hd] at q
    exact .inr ⟨by simp [Res.toD,hd],h r e q⟩
   ·rw [yK hd] at q
    exact .inl ⟨by simp [Res.toD,hd],q⟩
 cases dd with
 | ch d c s' =>
  simp [deD,zsL,hk,hkR]
  refine ⟨small (by decide),small (by decide),zap (by omega),?_⟩
  rw [show take rs nm made num (.ch d c s')=zeI rs ⟨nm,num,d,c,s'⟩ from rfl,<- zh3] at q
  exact q
 | lat n i d =>
  refine (zeU _ _).mpr ⟨_,show atI _ ((0:Nat):Int)=_ from zbu rfl,?_⟩
  refine (show zkE (D.str zqg) _ _ from ?_)
  simp [zqg]
  exact look _ n i _ _ rfl rfl fun r e q=>⟨rs,_,r,rfl,rfl,hl,.inl ⟨n,i,d,rfl,e,q⟩⟩
 | ins n i c =>
  refine (zeU _ _).mpr ⟨_,show atI _ ((0:Nat):Int)=_ from zbu rfl,?_⟩
  refine (show zkE (D.str zqh) _ _ from ?_)
  simp [zqh]
  exact look _ n i _ _ rfl rfl fun r e q=>⟨rs,_,r,rfl,rfl,hl,.inr (.inl ⟨n,i,c,rfl,e,q⟩)⟩
 | drp n i =>
  refine (zeU _ _).mpr ⟨_,show atI _ ((0:Nat):Int)=_ from zbu rfl,?_⟩
  refine (show zkE (D.str zqi) _ _ from ?_)
  simp [zqi]
  exact look _ n i _ _ rfl rfl fun r e q=>⟨rs,_,r,rfl,rfl,hl,.inr (.inr ⟨n,i,rfl,e,q⟩)⟩
end
def zey:D->D->Prop:=fun x k=>∃ (i:Int) (r:List D),x=.tup (.int i :: r)/\k=.int i
def za1 (T:Cs):Sp':=fun ds Q=>∃ t es zt,ds=[bkD T t es,.int zt]/\es.length<=100/\zb8 (liv zt es)<64/\Q (.own (.lst (wcD (zbt [] (liv zt es)))))
section
variable {P:Program} {w:World} {K:W.Frag} {mg:Str->Option Value} {base:Heap} {T:Cs}
theorem zaH:FnScope ["book","seen","counted","name","made","deeds","number","deed","told"] ["book","seen"] (zm zaN):=sc0
theorem zfD (d:Df K mg "what_counts" zaN ["book","seen"]) (cf:CF K T) (G_living_acts:Fn P w K mg base 2 "living_acts" ["book","seen"] (zcv T)) (G_take_deed:FnM P w K mg base 2 "take_deed" ["counted","name","made","number","deed"] 0 zcq) (z_enumerate:mg "enumerate"=none) (z_sorted:mg "sorted"=none) (lo:LamOf K mg base "what_counts" "what_counts.<locals>.<lambda>"):Fn P w K mg base 4 "what_counts" ["book","seen"] (za1 T):=by
 refine d.okL lo zaH (fun ds Q h=>?_) (fun f cdv A outer s H E la hr ds Q h=>⟨_,(zk (zbP 2 zaH.nd zo1)
  (zk (zbQ (zb3 (zbS G_living_acts (hr.mono (by decide)) (zc (pv' 0) (zc (pv' 1) zj)))) (zdS (n:=3) (zN (zw 3 zaH.nd) (zN (zw 4 zaH.nd) (zN (zw 5 zaH.nd) zcT))))
   (zl (zbQ (zmE z_enumerate (zc (pv' 5) zj)) (zdS (n:=2) (zN (zw 6 zaH.nd) (zN (zw 7 zaH.nd) zcT)))
   (zl (ztw 2 (zd9 (ziL G_take_deed (hr.mono (by decide)) (zkL 2 (zc (pv' 3) (zc (pv' 4) (zc (pv' 6) (zc (pv' 7) zj))))))))))))
  (zfM 2 (zk (zeW 8 zaH.nd (zeV (fsc:=zm zaN) (N:=["book","seen","counted","name","made","deeds","number","deed","told"]) (N':=["key","entry"]) (src:=[none,none]) (by refine ⟨rfl,?_,?_,?_,rfl,rfl⟩ <;> decide +kernel) (zkQ (pv' 2)) (fun _ _ _ _ _ _=>(zdS (n:=2) (zN (zw 0 (show (["key","entry"]:List Str).Nodup by decide +kernel)) (zN (zw 1 (show (["key","entry"]:List Str).Nodup by decide +kernel)) zcT)))) (fun _ _ _ _ _ _=>zb4) (fun _ _ _ _ _ _=>(zu (zc (zp (i_A (zq hr)) (pv' 1) zi) (zc (zp (i_A (zq hr)) (pv' 0) zi) (zc (zp (i_A (zq hr)) (pv' 0) zi) (zc (zp (i_A (zq hr)) (pv' 1) zi) (zc (zp (i_A (zq hr)) (pv' 1) zi) zj)))))))))
  (zl (ziK (zmy (k:=0) (N:=["entry"]) (ps:=["entry"]) (sp:=zqF zey) la ⟨rfl,rfl,rfl,by decide +kernel,rfl,by decide +kernel,by decide +kernel⟩ (zkk _)
   (fun f c A outer s H E hr ds Q h=>⟨_,(zp (i_A (zq hr)) (pv' 0) zi),?lam1⟩) (fun _ _ _ us hl=>match us,hl with | [_],_=>rfl) (hr.mono (by decide)) z_sorted (zc (pv' 8) zj)))))))),?_⟩)
 case lam1 =>
  obtain ⟨x,k,rfl,⟨i,r,rfl,rfl⟩,q⟩:=h
  simp [rds]; exact q
 ·obtain ⟨t,es,zt,rfl,_⟩:=h
  rfl
 obtain ⟨t,es,zt,rfl,hl,ht,q⟩:=h; simp [rds]; refine ⟨t,es,zt,rfl,hl,_,rfl,?_⟩; have hcl:=zcF (liv zt es) []; generalize liv zt es=ys at q ht hcl
 have hpre:∀ i,zb8 (ys.take i)<=zb8 ys:=fun i=>by
  unfold zb8
  conv=>rhs; rw [<- List.take_append_drop i ys]
  rw [YI,List.sum_append]; omega
 refine zcD (fun i Γ=>∃ s3 s4 s5 s6 s7:Slot,Γ=[Slot.val (bkD T t es),Slot.val (D.int zt),Slot.own (OD.dit ((zbt [] (ys.take i)).map zd0)),s3,s4,s5,s6,s7,Slot.emp]) ⟨_,_,_,_,_,rfl⟩ ?_ ?_
 ·rintro i d Γ he ⟨s3,s4,s5,s6,s7,rfl⟩
  rw [yE] at he; obtain ⟨a,ha,rfl⟩:=yJ.mp he; have hb:=zcF (ys.take i) []; have hb2:=hpre (i+1); rw [zaZ ha] at hb2 ⊢; rw [zft]
  have ht2:zb8 (ys.take i ++ [a])=zb8 (ys.take i)+a.ds.length:=by simp [zb8]
  rw [ht2] at hb2; generalize zbt [] (ys.take i)=rs at hb; simp only [Yu,Nat.zero_add] at hb; simp [rds,laD]; refine ⟨_,_,⟨rfl,rfl⟩,rfl,?_⟩; refine ⟨_,rfl,?_⟩
  refine zcD (fun j Γ=>∃ s6 s7:Slot,Γ=[Slot.val (bkD T t es),Slot.val (D.int zt),Slot.own (OD.dit ((zZ a.nm a.day rs 0 (a.ds.take j)).map zd0)),Slot.val (.str a.nm),Slot.val (.int a.day),Slot.val (.lst (a.ds.map deD)),s6,s7,Slot.emp]) ⟨_,_,rfl⟩ ?_ ?_
  ·rintro j d Γ he ⟨s6,s7,rfl⟩
   rw [zhr,yE,Option.map_map] at he; obtain ⟨x,hx,rfl⟩:=yJ.mp he; have hj:=(yD.mp hx).1; have hb3:=zco a.nm a.day (a.ds.take j) rs 0; rw [ye] at hb3; rw [zaZ hx,zcH]
   have hlen:(a.ds.take j).length=j:=by rw [ye]; omega
   rw [hlen]; generalize zZ a.nm a.day rs 0 (a.ds.take j)=rs2 at hb3; simp [rds]
   refine ⟨_,_,⟨rfl,rfl⟩,rfl,rs2,a.nm,a.day,_,x,rfl,rfl,by omega,rfl⟩
  ·rintro Γ ⟨s6,s7,rfl⟩
   rw [zhq,yF,take_all]; exact ⟨_,_,_,_,_,rfl⟩
 ·rintro Γ ⟨s3,s4,s5,s6,s7,rfl⟩
  rw [yF,take_all]; generalize zbt [] ys=rs at q hcl; simp only [Yu,Nat.zero_add] at hcl; simp [rds]
  refine ⟨small (by omega),?_⟩
  refine zcz (fun i acc Γ=>∃ (s0 s1:Slot),acc=(rs.take i).map zds/\Γ=[s0,s1]) ⟨_,_,rfl,rfl⟩ ?_ ?_
  ·rintro i d acc Γ he ⟨s0,s1,rfl,rfl⟩
   rw [yE] at he; obtain ⟨r,hr',rfl⟩:=yJ.mp he; rw [zaZ hr']; simp [rds,vo,voS]; refine ⟨_,_,⟨rfl,rfl⟩,rfl,?_⟩
   show zjq (.tup [.int r.day,r.c,r.s]) (D.int 0) _
   simp
   show zjq (.tup [.str r.nm,.int r.num]) (D.int 0) _
   simp
   show zjq (.tup [.str r.nm,.int r.num]) (D.int 1) _
   simp
   show zjq (.tup [.int r.day,r.c,r.s]) (D.int 1) _
   simp
   show zjq (.tup [.int r.day,r.c,r.s]) (D.int 2) _
   simp
   exact ⟨small (by decide),rfl⟩
  ·rintro acc Γ ⟨s0,s1,rfl,rfl⟩
   rw [show (List.map ((fun p=>D.tup [p.fst,p.snd]) ∘ zd0) rs).length=rs.length by simp,take_all]
   refine ⟨by rw [yF]; omega,(rs.map Row.day).map D.int,by simp,fun i x k h1 h2=>?_,_,.inl ⟨_,rfl,rfl⟩,q⟩
   rw [yE] at h1 h2; rw [yE] at h2
   cases hr':rs[i]? with
   | none=>rw [hr'] at h1; cases h1
   | some r =>
    rw [hr'] at h1 h2; cases h1; cases h2; exact ⟨_,_,rfl,⟨_,_,rfl,rfl⟩,rfl⟩
end
def zfx (c:D):Prop:=∃ (k:Int) (s:List Nat),c=.tup [.int k,.str s]/\s.length<=100
def zqb (s:D):Prop:=s=.non\/∃ i:Int,s=.int i
def zot (ah:List (List Nat)):Deed->Prop
 | .ch _ _ _=>True
 | .lat n _ _=>n ∈ ah
 | .ins n _ _=>n ∈ ah
 | .drp n _=>n ∈ ah
def zit (ah:List (List Nat)) (d:Deed):Prop:=zfy zfx zqb d/\zot ah d
structure GoodActs (ns:List (List Nat)) (as:List Act):Prop where
 len:as.length<=14
 at_:∀ (i:Nat) a,as[i]?=some a->ns[i]?=some a.1.nm/\(∀ o,a.1.oth=some o->o ∈ ns.take i/\a.2=[])/\a.2.length<=3/\∀ d,d ∈ a.2->zit (ns.take i) d
 days:∀ (i j:Nat) a b,i<=j->as[i]?=some a->as[j]?=some b->a.1.day<=b.1.day
def zda:Sp':=fun ds Q=>∃ c:Int,ds=[.int c]/\∀ ns:List (List Nat),ns.length=14->(∀ n,n ∈ ns->zqk n)->ns.Nodup->Q (.own (.lst (ns.map .str)))
def zcJ:Sp':=fun ds Q=>∃ c:Int,ds=[.int c]/\∀ (k:Int) (s:List Nat),s.length<=100->Q (.val (.tup [.int k,.str s]))
def zcK:Sp':=fun ds Q=>∃ (c day:Int) (k:Nat) (ns:List (List Nat)),ds=[.int c,.int k,.int day,.lst (ns.map .str)]/\k<=ns.length/\ns.length<=14/\∀ d,zit (ns.take k) d->Q (.val (deD d))
def zdH:Sp':=fun ds Q=>∃ (cs:List Int) (ns:List (List Nat)),ds=[.lst (cs.map .int),.lst (ns.map .str)]/\cs.length<=200/\ns.length=14/\∀ as,GoodActs ns as->Q (.own (.lst (as.map zbU)))
instance:MSp zcK:=⟨fun _ _ _ h ⟨c,day,k,ns,e,a,b,q⟩=>⟨c,day,k,ns,e,a,b,fun ns x=>h _ (q ns x)⟩⟩
theorem zfY {α:Type} (xs:List α) {i:Int} (h0:0<=i) (h1:i<xs.length):∃ d,atI xs i=some d/\d ∈ xs:=by
 obtain ⟨n,rfl⟩:=YA h0
 have hn:n<xs.length:=by omega
 exact ⟨xs[n],zbu (yB hn),List.getElem_mem hn⟩
theorem md {i:Int} {n:Nat} (h:0<n):0<=i % (n:Int)/\i % (n:Int)<n:=⟨Int.emod_nonneg _ (by omega),Int.emod_lt_of_pos _ (by omega)⟩
theorem zm3 {n:Int} (h0:0<=n) (h1:n<10 ^ 10):(zpu n).length<=10:=by
 have hl:=W.KT.len_num h0 h1; unfold zpu
 rw [show (Str.ofString (toString n)).cps.toList.length=(Str.ofString (toString n)).length by simp [Str.length]]
 exact hl
theorem zk8 {n:Int} (h0:0<=n) (h1:n<10 ^ 10):n.natAbs.log2<1920:=by
  refine yZ ?_ (by decide:40<=1920)
  by_cases hz:n.natAbs=0
  · rw [hz]; decide
  · exact (Nat.log2_lt hz).mpr (by have : n.natAbs < 10 ^ 10 := by omega
                                   have:10 ^ 10<2 ^ 40:=by decide
                                   omega)
def sg (c a k:Int) (j:Nat):Int:=(c / ((j:Int)+5)+(j:Int) * (j:Int)+k * (if (j:Int)=a then 1 else 0)) % 26
def ch (v:Int):Nat:=zhO.getD v.toNat 0
def nm1 (c a:Int) (sz:Nat) (k:Nat):List Nat:=(List.range sz).map fun j=>ch (sg c a k j)
theorem zgq:zhO.length=26:=by decide
theorem zkq (c a k:Int) (j:Nat):0<=sg c a k j/\sg c a k j<26:=md (n:=26) (by decide)
theorem zun {v:Int} (h0:0<=v) (h1:v<26):atI zhO v=some (ch v):=by
 obtain ⟨n,rfl⟩:=YA h0
 have hn:n<zhO.length:=by rw [zgq]; omega
 have:=zbu (xs:=zhO) (j:=n) (yB hn)
 rw [this]; unfold ch; simp [List.getD,yB hn]
theorem zr8 {v:Int} (h0:0<=v) (h1:v<26):ch v ∈ zhO:=by
 obtain ⟨n,rfl⟩:=YA h0
 have hn:n<zhO.length:=by rw [zgq]; omega
 unfold ch; simp [List.getD,yB hn]
theorem zr9:∀ i:Fin 26,∀ j:Fin 26,zhO.getD i.1 0=zhO.getD j.1 0->i=j:=by decide
theorem zn1 (c a:Int) (sz k:Nat) (h1:1<=sz) (h2:sz<=8):zqk (nm1 c a sz k):=by
 unfold nm1
 refine ⟨by simpa using h1,by simpa using h2,fun x hx=>?_⟩
 obtain ⟨j,_,rfl⟩:=yq.mp hx; exact zr8 (zkq c a k j).1 (zkq c a k j).2
theorem zrI (c a:Int) (sz:Nat) (ha:0<=a) (hs:a<sz) {k k':Nat} (hk:k<14) (hk':k'<14) (e:nm1 c a sz k=nm1 c a sz k'):k=k':=by
 obtain ⟨n,rfl⟩:=YA ha
 have hn:n<sz:=by omega
 have h:=yo (fun l=>l[n]?) e
 unfold nm1 at h; simp only [yE,YO hn,Option.map_some,Option.some.injEq] at h; have l1:=zkq c n k n; have l2:=zkq c n k' n
 have h3:=zr9 ⟨(sg c n k n).toNat,by omega⟩ ⟨(sg c n k' n).toNat,by omega⟩ h
 have h4:(sg c n k n).toNat=(sg c n k' n).toNat:=yo Fin.val h3
 have h5:sg c n k n=sg c n k' n:=by omega
 unfold sg at h5; simp only [if_true,Int.mul_one] at h5; omega
theorem zt0 (l:List Nat):(l.map fun x=>[x]).flatten=l:=by
 induction l with
 | nil=>rfl
 | cons a l ih=>simp [ih]
theorem zvd (l:List Nat):((l.map fun x=>[x]).map List.length).sum=l.length:=by
 induction l with
 | nil=>rfl
 | cons a l ih =>
  rw [yS,yS,List.sum_cons,ih]; simp; omega
section
variable {P:Program} {w:World} {K:W.Frag} {mg:Str->Option Value} {base:Heap} {T:Cs}
theorem zfz:FnScope ["_law_script","_law_k"] ["_law_script","_law_k"] (zm zcP):=sc0
theorem zfF (d:Df K mg "_law_cell_at" zcP ["_law_script","_law_k"]) (z_len:mg "len"=none):Fn P w K mg base 1 "_law_cell_at" ["_law_script","_law_k"] za2:=by
 refine d.ok zfz (fun ds Q h=>?_) (fun f cdv A outer s H E hr ds Q h=>⟨_,(zk (zQ (zx ztI (pv' 1) (zO zdE z_len YV (zc (pv' 0) zj))) (zl (zD (zp (i_A (zq hr)) (pv' 0) (pv' 1)))) zA)
  (zl (zD zi))),?_⟩)
 ·obtain ⟨ns,k,rfl,_⟩:=h
  rfl
 obtain ⟨ns,k,rfl,h0,hl,q⟩:=h; simp [rds]
 by_cases e:(ns.length:Int)<=k
 ·exact .inl ⟨e,q 0⟩
 ·obtain ⟨d,e1,m1⟩:=zfY (ns.map D.int) h0 (by simp; omega)
  obtain ⟨c,_,rfl⟩:=yq.mp m1
  exact .inr ⟨by omega,_,e1,q c⟩
theorem zhU:FnScope ["_law_cell"] ["_law_cell"] (zm zer):=sc0
theorem zh8 (d:Df K mg "_law_kind" zer ["_law_cell"]) (z_str:mg "str"=none):Fn P w K mg base 1 "_law_kind" ["_law_cell"] zcJ:=by
 refine d.ok zhU (fun ds Q h=>?_) (fun f cdv A outer s H E hr ds Q h=>⟨_,(zl (zD (zu (zc (zv zcx (pv' 0) zi) (zc (zev zuo z_str PyProof.Rows.boot_str (zc (zv zbT zi (zv zcx (zv zdA (pv' 0) zi) (zv zgp zi zi))) zj)) zj))))),?_⟩)
 ·obtain ⟨c,rfl,_⟩:=h
  rfl
 obtain ⟨c,rfl,q⟩:=h; simp [rds,znK,zl5]
 have:=md (i:=c / 5) (n:=1000000) (by decide)
 exact ⟨zk8 (by omega) (by omega),small (by decide),q _ _ (yt (zm3 (by omega) (by omega)) (by decide))⟩
theorem zbo:FnScope ["_law_cell","_law_letters","_law_size","_law_at","_law_names_here","_law_k","_law_signs"] ["_law_cell"] (zm zci):=sc0
theorem zg5 (d:Df K mg "_law_names" zci ["_law_cell"]) (z_int:mg "int"=none) (z_range:mg "range"=none):Fn P w K mg base 1 "_law_names" ["_law_cell"] zda:=by
 refine d.ok zbo (fun ds Q h=>?_) (fun f cdv A outer s H E hr ds Q h=>⟨_,(zk (zaq 1 zbo.nd (zaF zhO))
  (zk (zaq 2 zbo.nd (zv zbT zi (zv zcx (pv' 0) zi)))
  (zk (zaq 3 zbo.nd (zv zcx (zv zdA (pv' 0) zi) (pv' 2)))
  (zk (zbP 4 zbo.nd (zcC zj))
  (zk (zbQ (zch z_range (zc zi zj)) (zw 5 zbo.nd)
   (zk (zeW 6 zbo.nd (zeV (fsc:=zm zci) (N:=["_law_cell","_law_letters","_law_size","_law_at","_law_names_here","_law_k","_law_signs"]) (N':=["_law_j","_law_k","_law_cell","_law_at"]) (src:=[none,some 5,some 0,some 3]) (by refine ⟨rfl,?_,?_,?_,rfl,rfl⟩ <;> decide +kernel) (zch z_range (zc (pv' 2) zj)) (fun _ _ _ _ _ _=>(zw 0 (show (["_law_j","_law_k","_law_cell","_law_at"]:List Str).Nodup by decide +kernel))) (fun _ _ _ _ _ _=>zb4) (fun _ _ _ _ _ _=>(zv zcx (zv zbT (zv zbT (zv zdA (pv' 2) (zv zbT (pv' 0) zi)) (zv zg9 (pv' 0) (pv' 0))) (zv zg9 (pv' 1) (zev zse z_int PyProof.Rows.boot_int (zc (zca (zbJ (za0 hr)) (pv' 0) (pv' 3)) zj)))) zi))))
  (zl (zb2 4 (zrn zpB PySem.F.plainAttrs_str PySem.F.slot_str_join PySem.F.type_str_join (zaF []) (zc (zcs (zdR (fsc:=zm zci) (N:=["_law_cell","_law_letters","_law_size","_law_at","_law_names_here","_law_k","_law_signs"]) (N':=["_law_sign","_law_letters"]) (src:=[none,some 1]) (by refine ⟨rfl,?_,?_,?_,rfl,rfl⟩ <;> decide +kernel) (zb3 (pv' 6)) (fun _ _ _ _ _ _=>(zw 0 (show (["_law_sign","_law_letters"]:List Str).Nodup by decide +kernel))) (fun _ _ _ _ _ _=>zb4) (fun _ _ _ _ _ _=>(zp (i_A (zq hr)) (pv' 1) (pv' 0))))) zj))))))
  (zl (zeX 4))))))),?_⟩)
 ·obtain ⟨c,rfl,_⟩:=h
  rfl
 obtain ⟨c,rfl,q⟩:=h; simp [rds,znK]
 have m8:=md (i:=c) (n:=8) (by decide)
 refine ⟨by omega,?_⟩
 have ma:0<=c / 8 % (1+c % 8)/\c / 8 % (1+c % 8)<1+c % 8:=⟨Int.emod_nonneg _ (by omega),Int.emod_lt_of_pos _ (by omega)⟩
 obtain ⟨sz,hsz⟩:=YA (show 0<=1+c % 8 by omega)
 rw [hsz] at ma ⊢; generalize c / 8 % (sz:Int)=a at ma
 have hz:1<=sz/\sz<=8:=by omega
 refine zcD (fun i Γ=>∃ s5 s6:Slot,Γ=[Slot.val (D.int c),Slot.val (D.str zhO),Slot.val (D.int sz),Slot.val (D.int a),Slot.own (OD.lst (((List.range i).map (nm1 c a sz)).map .str)),s5,s6]) ⟨_,_,rfl⟩ ?_ ?_
 ·rintro i d Γ he ⟨s5,s6,rfl⟩
  rw [yE] at he; obtain ⟨k,hk,rfl⟩:=yJ.mp he; have hi:=(yD.mp hk).1; rw [yi] at hi; rw [YO hi] at hk; cases hk; simp [rds]
  refine ⟨by omega,small (by omega),?_⟩
  refine zcz (fun j acc Γ=>∃ s0:Slot,acc=(List.range j).map (fun j=>D.int (sg c a i j))/\Γ=[s0,Slot.val (D.int i),Slot.val (D.int c),Slot.val (D.int a)]) ⟨_,rfl,rfl⟩ ?_ ?_
  ·rintro j d acc Γ hd ⟨s0,rfl,rfl⟩
   rw [yE] at hd; obtain ⟨k,hk,rfl⟩:=yJ.mp hd; have hj:=(yD.mp hk).1; rw [yi] at hj; rw [YO hj] at hk; cases hk; simp [rds,vo,voS,znK,zj7]
   refine ⟨by omega,by omega,?_⟩
   rw [List.range_succ]; simp [sg]
   exact .inl (by omega)
  ·rintro acc Γ ⟨s0,rfl,rfl⟩
   rw [yF,yi]
   refine ⟨by rw [yF,yi]; exact small (by omega),?_⟩
   refine zcz (fun j acc Γ=>∃ s0:Slot,acc=((List.range j).map fun j=>[ch (sg c a i j)]).map .str/\Γ=[s0,Slot.val (D.str zhO)]) ⟨_,rfl,rfl⟩ ?_ ?_
   ·rintro j d acc Γ hd ⟨s0,rfl,rfl⟩
    rw [yE] at hd; obtain ⟨k,hk,rfl⟩:=yJ.mp hd; have hj:=(yD.mp hk).1; rw [yi] at hj; rw [YO hj] at hk; cases hk; have l1:=zkq c a i j; simp [rds,vo,voS,zun l1.1 l1.2]
    refine ⟨by rw [zgq]; exact small (by decide),?_⟩
    rw [List.range_succ]; simp
   ·rintro acc Γ ⟨s0,rfl,rfl⟩
    simp only [yF,yi]
    have ef:((List.range sz).map fun j=>[ch (sg c a i j)])=(nm1 c a sz i).map fun x=>[x]:=by
     unfold nm1; rw [YG]; rfl
    rw [ef]; refine ⟨_,rfl,rfl,?_,?_⟩
    ·rw [zvd]
     have:=(zn1 c a sz i hz.1 hz.2).2.1
     omega
    ·rw [zt0]
     refine ⟨zap (by omega),?_⟩
     rw [List.range_succ]; simp
 ·rintro Γ ⟨s5,s6,rfl⟩
  simp [rds]
  have h:=q ((List.range 14).map (nm1 c a sz)) (by simp) (fun n hn=>?_) ?_
  ·simpa using h
  ·obtain ⟨k,_,rfl⟩:=yq.mp hn
   exact zn1 c a sz k hz.1 hz.2
  ·refine YR.mpr fun x y hx hy hxy e=>?_
   simp only [List.getElem_map,List.getElem_range] at e; simp only [yF,yi] at hx hy
   have:=zrI c a sz ma.1 ma.2 hx hy e
   omega
theorem zbK:FnScope ["_law_cell","_law_k","_law_day","_law_names_here","_law_kind_here","_law_more","_law_when","_law_since","_law_name","_law_number"] ["_law_cell","_law_k","_law_day","_law_names_here"] (zm zes):=sc0
theorem zh9 (d:Df K mg "_law_deed" zes ["_law_cell","_law_k","_law_day","_law_names_here"]) (G_law_kind:Fn P w K mg base 1 "_law_kind" ["_law_cell"] zcJ):Fn P w K mg base 2 "_law_deed" ["_law_cell","_law_k","_law_day","_law_names_here"] zcK:=by
 refine d.ok zbK (fun ds Q h=>?_) (fun f cdv A outer s H E hr ds Q h=>⟨_,(zk (zaq 4 zbK.nd (zv zcx (pv' 0) zi))
  (zk (zaq 5 zbK.nd (zv zdA (pv' 0) zi))
  (zk (zaq 6 zbK.nd (zv zbT (pv' 2) (zp (i_A (zq hr)) (zcs (zcC (zc zh5 (zc zi (zc zi (zc zi (zc zi (zc zi (zc zi (zc (zv zgp zi zi) zj)))))))))) (zv zcx (pv' 5) zi))))
  (zk (zQ (PW'.pt (ze8 (zx ztI (pv' 4) zi) (ze7 (zx (zbJ (za0 hr)) (pv' 1) zi)))) (zk (zaq 7 zbK.nd (zp (i_A (zq hr)) (zcs (zcC (zc zck (zc (pv' 6) (zc (zv zbT (pv' 6) zi) (zc (zv zmV (pv' 2) zi) (zc zck zj))))))) (zv zcx (zv zdA (pv' 5) zi) zi)))
  (zl (zD (zu (zc (zaF [99,104,97,110,103,101]) (zc (pv' 6) (zc (zbS G_law_kind (hr.mono (by decide)) (zc (pv' 0) zj)) (zc (pv' 7) zj)))))))) zA)
  (zk (zaq 8 zbK.nd (zp (i_A (zq hr)) (pv' 3) (zv zcx (zv zdA (pv' 5) zi) (pv' 1))))
  (zk (zaq 9 zbK.nd (zv zcx (zv zdA (pv' 5) zi) zi))
  (zk (zQ (zx (zbJ (za0 hr)) (pv' 4) zi) (zl (zD (zu (zc (zaF [108,97,116,101,114]) (zc (pv' 8) (zc (pv' 9) (zc (pv' 6) zj))))))) zA)
  (zk (zQ (zx (zbJ (za0 hr)) (pv' 4) zi) (zl (zD (zu (zc (zaF [108,97,116,101,114]) (zc (pv' 8) (zc zi (zc (zv zbT (pv' 6) (zv zcx (zv zdA (pv' 5) zi) zi)) zj))))))) zA)
  (zk (zQ (zx (zbJ (za0 hr)) (pv' 4) zi) (zl (zD (zu (zc (zaF [105,110,115,116,101,97,100]) (zc (pv' 8) (zc (pv' 9) (zc (zbS G_law_kind (hr.mono (by decide)) (zc (pv' 0) zj)) zj))))))) zA)
  (zl (zD (zu (zc (zaF [100,114,111,112]) (zc (pv' 8) (zc (pv' 9) zj))))))))))))))),?_⟩)
 ·obtain ⟨c,day,k,ns,rfl,_⟩:=h
  rfl
 obtain ⟨c,day,k,ns,rfl,hk,hl,q⟩:=h; simp [zbb,zbc,za7,za9,zS,zaT,tC',zbB,zcA,tB',zbe,zbn,zc6,zaC,zbH,zaw,zdy,za5,zal,zba,zbh,zc1,zc7,zc5,zbf,zc8,zE,zbl,zbq,zar,zaD,zad,zae,zc0,zac,zax,zbi,zah,zbm,zao,zau,za8,zaU,zc2,zaj,zbd,zaA,zbg,zbr,zat,zbs,zbE,za6,zai,zbC,zan,zbA,zU,zbF,zbI,zbw,zbz,zak,zdm,zbk,zF,zav,zI,zbj,zL,tBr,brN,zam,zag,zT,zas,zM,zby,zaB,zdn,zbx,zaz,zbB,zK,zH,zJ,zay,zcJ,znK,zl5]
 refine ⟨small (by decide),?_⟩
 have m8:=md (i:=c / 7) (n:=8) (by decide)
 obtain ⟨d0,e0,m0⟩:=zfY [D.int (-9),D.int 0,D.int 1,D.int 5,D.int 12,D.int 30,D.int 31,D.int 100000000000000000] (i:=c / 7 % 8) m8.1 (by simpa using m8.2)
 have i0:∃ v:Int,d0=.int v:=by
  simp at m0
  rcases m0 with h | h | h | h | h | h | h | h <;> exact ⟨_,h⟩
 obtain ⟨v,rfl⟩:=i0; refine ⟨_,e0,?_⟩; rw [ze6]
 have chgB:∀ R:Prop,R=True->R:=fun R h=>h ▸ trivial
 have m5:=md (i:=c / 7 / 8) (n:=5) (by decide)
 obtain ⟨d5,e5,hd5⟩:=zfY [D.non,D.int (day+v),D.int (day+v+3),D.int (day-2),D.non] (i:=c / 7 / 8 % 5) m5.1 (by simpa using m5.2)
 have s5:zqb d5:=by
  simp at hd5
  rcases hd5 with h | h | h | h | h
  ·exact .inl h
  ·exact .inr ⟨_,h⟩
  ·exact .inr ⟨_,h⟩
  ·exact .inr ⟨_,h⟩
  ·exact .inl h
 have B:zh2 (D.int (day+v)) (D.int 3) fun d_1=>5<=sizeLine/\∃ d_2,atI [D.non,D.int (day+v),d_1,D.int (day-2),D.non] (c / 7 / 8 % 5)=some d_2/\∀ (k:Int) (s:List Nat),s.length<=100->4<=sizeLine/\Q (Res.val (D.tup [D.str [99,104,97,110,103,101],D.int (day+v),D.tup [D.int k,D.str s],d_2])):=by
  rw [ze6]
  exact ⟨small (by decide),_,e5,fun k s hs=>⟨small (by decide),q (.ch (day+v) (.tup [.int k,.str s]) d5) ⟨⟨⟨k,s,rfl,hs⟩,s5⟩,trivial⟩⟩⟩
 by_cases e7:c % 7<3
 ·exact .inr ⟨e7,B⟩
 ·refine .inl ⟨by omega,?_⟩
  by_cases ek:k=0
  ·exact .inr ⟨ek,B⟩
  ·refine .inl ⟨ek,by omega,?_⟩
   have mk:=md (i:=c / 7 / 8) (n:=k) (by omega)
   have hlk:(ns.take k).length=k:=by rw [ye]; omega
   obtain ⟨dn,en,mn⟩:=zfY ((ns.take k).map D.str) (i:=c / 7 / 8 % (k:Int)) mk.1 (by rw [yF,hlk]; exact mk.2)
   obtain ⟨n,hn,rfl⟩:=yq.mp mn
   have en2:atI (List.map D.str ns) (c / 7 / 8 % (k:Int))=some (D.str n):=by
    obtain ⟨j,hj⟩:=YA mk.1; rw [hj] at en mk ⊢
    have hjk:j<k:=by omega
    have h2:((ns.take k).map D.str)[j]?=some (D.str n):=by
     have hh:j<((ns.take k).map D.str).length:=by rw [yF,hlk]; exact hjk
     have:=zbu (xs:=(ns.take k).map D.str) (j:=j) (yB hh)
     rw [this] at en; rw [yB hh]; exact en
    refine zbu ?_; rw [yE] at h2 ⊢; rw [List.getElem?_take_of_lt hjk] at h2; exact h2
   refine ⟨_,en2,?_⟩
   by_cases e3:c % 7=3
   ·exact .inr ⟨e3,small (by decide),q (.lat n _ _) ⟨trivial,hn⟩⟩
   ·refine .inl ⟨e3,?_⟩
    by_cases e4:c % 7=4
    ·refine .inr ⟨e4,?_⟩
     rw [ze6]
     exact ⟨small (by decide),q (.lat n _ _) ⟨trivial,hn⟩⟩
    ·refine .inl ⟨e4,?_⟩
     by_cases e5':c % 7=5
     ·exact .inr ⟨e5',fun k s hs=>⟨small (by decide),q (.ins n _ (.tup [.int k,.str s])) ⟨⟨k,s,rfl,hs⟩,hn⟩⟩⟩
     ·exact .inl ⟨e5',small (by decide),q (.drp n _) ⟨trivial,hn⟩⟩
end
theorem zqD {G:Int->Prop} {X:Prop} (a:(∀ d,G d)->X) (k:∀ d,G d):X:=a k
theorem zvm (ns:List (List Nat)) {k:Nat} (hk:0<k) (hl:k<=ns.length) (x:Int):∃ o,o ∈ ns.take k/\atI (ns.map D.str) (x % (k:Int))=some (D.str o):=by
 have mk:=md (i:=x) (n:=k) hk; obtain ⟨j,hj⟩:=YA mk.1; rw [hj] at mk ⊢
 have hjk:j<k:=by omega
 have hjl:j<ns.length:=by omega
 refine ⟨ns[j],?_,zbu (by rw [yE,yB hjl]; rfl)⟩
 refine yW (i:=j) ?_; rw [List.getElem?_take_of_lt hjk,yB hjl]
theorem zqE {G X:Prop} (a:G->X) (k:G):X:=a k
theorem GoodActs.nil {ns:List (List Nat)}:GoodActs ns []:=⟨yb _,fun i a h=>by simp at h,fun i j a b _ h=>by simp at h⟩
theorem GoodActs.snoc {ns:List (List Nat)} {as:List Act} {a:Act} (g:GoodActs ns as) (hl:as.length<14) (h1:ns[as.length]?=some a.1.nm) (h2:∀ o,a.1.oth=some o->o ∈ ns.take as.length/\a.2=[]) (h3:a.2.length<=3) (h4:∀ d,d ∈ a.2->zit (ns.take as.length) d) (h5:∀ b,b ∈ as->b.1.day<=a.1.day):GoodActs ns (as ++ [a]):=by
 refine ⟨by simp; omega,fun i b h=>?_,fun i j b c hij hb hc=>?_⟩
 ·by_cases hi:i<as.length
  ·rw [yV hi] at h
   exact g.at_ i b h
  ·rw [ya (by omega)] at h
   have:i=as.length:=by
    have:=(yD.mp h).1
    simp at this
    omega
   subst this
   simp at h
   subst h; exact ⟨h1,h2,h3,h4⟩
 ·by_cases hj:j<as.length
  ·rw [yV hj] at hc
   rw [yV (by omega)] at hb
   exact g.days i j b c hij hb hc
  ·rw [ya (by omega)] at hc
   have hz:j-as.length=0:=by
    have:=(yD.mp hc).1
    simp at this
    omega
   rw [hz] at hc
   simp at hc
   subst hc
   by_cases hi:i<as.length
   ·rw [yV hi] at hb
    exact h5 b (yW hb)
   ·rw [ya (by omega)] at hb
    have hz:i-as.length=0:=by omega
    rw [hz] at hb
    simp at hb
    subst hb; exact Int.le_refl _
section
variable {P:Program} {w:World} {K:W.Frag} {mg:Str->Option Value} {base:Heap} {T:Cs}
set_option synthInstance.maxSize 4000
theorem zaJ:FnScope ["_law_script","_law_names_here","_law_acts_here","_law_day","_law_cells","_law_k","_law_at","_law_four","_law_many","_law_deeds"] ["_law_script","_law_names_here"] (zm zcB):=sc0
theorem zia (d:Df K mg "_law_acts" zcB ["_law_script","_law_names_here"]) (G_law_cell_at:Fn P w K mg base 1 "_law_cell_at" ["_law_script","_law_k"] za2) (G_law_deed:Fn P w K mg base 2 "_law_deed" ["_law_cell","_law_k","_law_day","_law_names_here"] zcK) (z_len:mg "len"=none) (z_range:mg "range"=none):Fn P w K mg base 3 "_law_acts" ["_law_script","_law_names_here"] zdH:=by
 refine d.ok zaJ (fun ds Q h=>?_) (fun f cdv A outer s H E hr ds Q h=>⟨_,(zk (zbP 2 zaJ.nd (zcC zj))
  (zk (zaq 3 zaJ.nd (zv zmV (zv zcx (zbS G_law_cell_at (hr.mono (by decide)) (zc (pv' 0) (zc zi zj))) (zv zg9 zi (zv zgp zi zi))) (zv zgp zi zi)))
  (zk (zQ (zx zrz (zv zcx (zbS G_law_cell_at (hr.mono (by decide)) (zc (pv' 0) (zc zi zj))) zi) zi) (zl (zaq 3 zaJ.nd (zv zmV (zv zcx (zbS G_law_cell_at (hr.mono (by decide)) (zc (pv' 0) (zc zi zj))) zi) zi))) zA)
  (zk (zaq 4 zaJ.nd (ze9 s_A (pv' 0) (zgY zi) (zgY zi)))
  (zk (zbQ (zjx z_range (zc zi (zc (zO zdE z_len YV (zc (pv' 4) zj)) (zc zi zj)))) (zw 5 zaJ.nd)
   (zk (zaq 6 zaJ.nd (zdT (zO zdE z_len YV (zc (pv' 2) zj))))
  (zk (zaq 7 zaJ.nd (zcs (zdR (fsc:=zm zcB) (N:=["_law_script","_law_names_here","_law_acts_here","_law_day","_law_cells","_law_k","_law_at","_law_four","_law_many","_law_deeds"]) (N':=["_law_j","_law_cells","_law_k"]) (src:=[none,some 4,some 5]) (by refine ⟨rfl,?_,?_,?_,rfl,rfl⟩ <;> decide +kernel) (zch z_range (zc zi zj)) (fun _ _ _ _ _ _=>(zw 0 (show (["_law_j","_law_cells","_law_k"]:List Str).Nodup by decide +kernel))) (fun _ _ _ _ _ _=>zb4) (fun _ _ _ _ _ _=>(zbS G_law_cell_at (hr.mono (by decide)) (zc (pv' 1) (zc (zv zbT (pv' 2) (pv' 0)) zj)))))))
  (zk (zaq 3 zaJ.nd (zv zbT (pv' 3) (zp (i_A (zq hr)) (zcs (zcC (zc zi (zc zi (zc zi (zc zi (zc zi zj))))))) (zv zcx (zp (i_A (zq hr)) (pv' 7) zi) zi))))
  (zl (zQ (PW'.pt (zdg (zx (zbJ (za0 hr)) (zv zcx (zv zdA (zp (i_A (zq hr)) (pv' 7) zi) zi) zi) zi) (zcR (zx zrz (pv' 6) zi)))) (zl (zb2 2 (zu (zc (zp (i_A (zq hr)) (pv' 1) (pv' 6)) (zc (pv' 3) (zc (zp (i_A (zq hr)) (pv' 1) (zv zcx (zp (i_A (zq hr)) (pv' 7) zi) (pv' 6))) (zc (zcs (zcC zj)) zj))))))) (zk (zaq 8 zaJ.nd (zp (i_A (zq hr)) (zcs (zcC (zc zi (zc zi (zc zi (zc zi (zc zi zj))))))) (zv zcx (zv zdA (zp (i_A (zq hr)) (pv' 7) zi) zi) zi)))
  (zk (zeW 9 zaJ.nd (zeV (fsc:=zm zcB) (N:=["_law_script","_law_names_here","_law_acts_here","_law_day","_law_cells","_law_k","_law_at","_law_four","_law_many","_law_deeds"]) (N':=["_law_j","_law_at","_law_day","_law_names_here","_law_four"]) (src:=[none,some 6,some 3,some 1,some 7]) (by refine ⟨rfl,?_,?_,?_,rfl,rfl⟩ <;> decide +kernel) (zch z_range (zc (pv' 8) zj)) (fun _ _ _ _ _ _=>(zw 0 (show (["_law_j","_law_at","_law_day","_law_names_here","_law_four"]:List Str).Nodup by decide +kernel))) (fun _ _ _ _ _ _=>zb4) (fun _ _ _ _ _ _=>(zbS G_law_deed (hr.mono (by decide)) (zc (zv zcx (zv zg9 (zp (i_A (zq hr)) (pv' 4) (zv zbT zi (pv' 0))) zi) zi) (zc (pv' 1) (zc (pv' 2) (zc (pv' 3) zj))))))))
  (zl (zb2 2 (zu (zc (zp (i_A (zq hr)) (pv' 1) (pv' 6)) (zc (pv' 3) (zc zck (zc (pv' 9) zj)))))))))))))))
  (zl (zeX 2))))))),?_⟩)
 ·obtain ⟨cs,ns,rfl,_⟩:=h
  rfl
 obtain ⟨cs,ns,rfl,hl,hn,q⟩:=h
 have ca:∀ (cs:List Int) (k:Int) (R:Res->Prop),cs.length<=200->0<=k->(∀ c:Int,R (.val (.int c)))->za2 [.lst (cs.map .int),.int k] R:=fun cs k R hl h0 h=>⟨cs,k,rfl,h0,hl,h⟩
 simp [zbb,zbc,za7,za9,zS,zaT,tC',zbB,zcA,tB',zbe,zbn,zc6,zaC,zbH,zaw,zdy,za5,zal,zba,zbh,zc1,zc7,zc5,zbf,zc8,zE,zbl,zbq,zar,zaD,zad,zae,zc0,zac,zax,zbi,zah,zbm,zao,zau,za8,zaU,zc2,zaj,zbd,zaA,zbg,zbr,zat,zbs,zbE,za6,zai,zbC,zan,zbA,zU,zbF,zbI,zbw,zbz,zak,zdm,zbk,zF,zav,zI,zbj,zL,tBr,brN,zam,zag,zT,zas,zM,zby,zaB,zdn,zbx,zaz,zbB,zK,zH,zJ,zay,znK,zj7,zl5]
 have hcut:ze2 (List.map D.int cs) (some 2) (some 58)=(ze2 cs (some 2) (some 58)).map D.int:=znD ..
 rw [hcut]
 have hcl:(ze2 cs (some 2) (some 58)).length<=56:=by
  unfold ze2; rw [ye]; simp [HT.sIx]; omega
 generalize ze2 cs (some 2) (some 58)=ys at hcl; rw [yF]
 apply zqD
 ·intro key
  refine ca cs 1 _ hl (by decide) fun c1=>?_
  simp
  refine ca cs 1 _ hl (by decide) fun c2=>?_
  simp
  by_cases e:c2 % 3=0
  ·refine .inl ⟨by omega,by omega,?_⟩
   generalize c1 % 2000000000000000000-1000000000000000000=d; exact key d
  ·have:=md (i:=c2) (n:=3) (by decide)
   refine .inr ⟨by omega,ca cs 1 _ hl (by decide) fun c3=>?_⟩
   simp
   refine ⟨by omega,?_⟩
   exact key _
 ·intro d0
  refine zcD (fun i Γ=>∃ (as:List Act) (day:Int) (s5 s6 s7 s8 s9:Slot),as.length=i/\GoodActs ns as/\(∀ b,b ∈ as->b.1.day<=day) /\
   Γ=[Slot.val (D.lst (List.map D.int cs)),Slot.val (D.lst (List.map D.str ns)),Slot.own (OD.lst (as.map zbU)),Slot.val (D.int day),Slot.val (D.lst (ys.map D.int)),s5,s6,s7,s8,s9]) ⟨[],d0,_,_,_,_,_,rfl,.nil,fun _ z=>by simp at z,rfl⟩ ?_ ?_
  ·rintro i d Γ hd ⟨as,day,s5,s6,s7,s8,s9,rfl,ga,hdays,rfl⟩
   unfold zuH at hd; rw [yE] at hd; obtain ⟨c',hc',rfl⟩:=yJ.mp hd; have hci:=(yD.mp hc').1; rw [yi] at hci; rw [YO hci] at hc'; cases hc'
   have hi:as.length<14:=by
    unfold Builtin.Range.rangeSize at hci; split at hci
    ·split at hci <;> omega
    ·omega
   simp [zbb,zbc,za7,za9,zS,zaT,tC',zbB,zcA,tB',zbe,zbn,zc6,zaC,zbH,zaw,zdy,za5,zal,zba,zbh,zc1,zc7,zc5,zbf,zc8,zE,zbl,zbq,zar,zaD,zad,zae,zc0,zac,zax,zbi,zah,zbm,zao,zau,za8,zaU,zc2,zaj,zbd,zaA,zbg,zbr,zat,zbs,zbE,za6,zai,zbC,zan,zbA,zU,zbF,zbI,zbw,zbz,zak,zdm,zbk,zF,zav,zI,zbj,zL,tBr,brN,zam,zag,zT,zas,zM,zby,zaB,zdn,zbx,zaz,zbB,zK,zH,zJ,zay,znK,zj7]; have big:=zap (n:=1000) (yH _)
   have o4:4<=sizeLine:=by omega
   have o5:5<=sizeLine:=by omega
   have oa:as.length<sizeLine:=by omega
   refine ⟨.int _,by omega,?_⟩
   refine zcz (fun j acc Γ=>∃ (xs:List Int) (s0:Slot),acc=xs.map .int/\xs.length=j/\Γ=[s0,Slot.val (D.lst (List.map D.int ys)),Slot.val (D.int ((as.length:Int) * 4))]) ⟨[],_,rfl,rfl,rfl⟩ ?_ ?_
   ·rintro j d acc Γ hd ⟨xs,s0,rfl,hx,rfl⟩
    rw [yE] at hd; obtain ⟨k,hk,rfl⟩:=yJ.mp hd; simp [zbb,zbc,za7,za9,zS,zaT,tC',zbB,zcA,tB',zbe,zbn,zc6,zaC,zbH,zaw,zdy,za5,zal,zba,zbh,zc1,zc7,zc5,zbf,zc8,zE,zbl,zbq,zar,zaD,zad,zae,zc0,zac,zax,zbi,zah,zbm,zao,zau,za8,zaU,zc2,zaj,zbd,zaA,zbg,zbr,zat,zbs,zbE,za6,zai,zbC,zan,zbA,zU,zbF,zbI,zbw,zbz,zak,zdm,zbk,zF,zav,zI,zbj,zL,tBr,brN,zam,zag,zT,zas,zM,zby,zaB,zdn,zbx,zaz,zbB,zK,zH,zJ,zay,vo,voS]
    exact ca ys _ _ (by omega) (by omega) fun c=>⟨xs ++ [c],by simp,by simp [hx]⟩
   rintro acc Γ ⟨xs,s0,rfl,hx,rfl⟩
   simp only [yF,yi] at hx
   obtain ⟨x0,x1,x2,x3,rfl⟩:∃ x0 x1 x2 x3,xs=[x0,x1,x2,x3]:=by
    match xs,hx with
    | [a,b,c,d],_=>exact ⟨a,b,c,d,rfl⟩
   have m5:=md (i:=x0) (n:=5) (by decide)
   obtain ⟨dd,ed,md'⟩:=zfY [D.int 0,D.int 1,D.int 1,D.int 3,D.int 8] (i:=x0 % 5) m5.1 (by simpa using m5.2)
   have hv:∃ v:Int,dd=.int v/\0<=v:=by
    simp at md'
    rcases md' with h | h | h | h <;> exact ⟨_,h,by decide⟩
   obtain ⟨v,rfl,hv0⟩:=hv
   obtain ⟨n,hn1⟩:∃ n,ns[as.length]?=some n:=⟨_,yB (by omega)⟩
   have hn2:atI (List.map D.str ns) (as.length:Int)=some (D.str n):=zbu (by rw [yE,hn1]; rfl)
   have hdays2:∀ b,b ∈ as->b.1.day<=day+v:=fun b hb=>by have:=hdays b hb; omega
   simp [ed,znK,o4,o5,oa,hn2]
   apply zqE
   ·intro key
    by_cases e:x0 / 5 % 4=3
    ·refine .inr ⟨e,?_⟩
     by_cases e0:as=[]
     ·exact .inl ⟨e0,key⟩
     ·have hpos:0<as.length:=List.length_pos_iff.mpr e0
      obtain ⟨o,ho,en⟩:=zvm ns hpos (by omega) x1
      refine .inr ⟨hpos,_,en,as ++ [(⟨n,day+v,some o⟩,[])],by simp,ga.snoc hi hn1 (fun o' h'=>?_) (by simp) (fun _ z=>by simp at z) hdays2,fun a b hb=>?_,by simp [zbU,zhN]⟩
      ·cases h'
       exact ⟨ho,rfl⟩
      ·rcases YY.mp hb with hb | hb
       ·exact hdays2 _ hb
       ·cases yj.mp hb
        exact Int.le_refl _
    ·exact .inl ⟨e,key⟩
   ·have m20:=md (i:=x0 / 20) (n:=5) (by decide)
    obtain ⟨dj,ej,mj⟩:=zfY [D.int 3,D.int 1,D.int 2,D.int 3,D.int 0] (i:=x0 / 20 % 5) m20.1 (by simpa using m20.2)
    have hj:∃ j:Nat,dj=.int j/\j<=3:=by
     simp at mj
     rcases mj with h | h | h | h | h
     ·exact ⟨3,h,by decide⟩
     ·exact ⟨1,h,by decide⟩
     ·exact ⟨2,h,by decide⟩
     ·exact ⟨3,h,by decide⟩
     ·exact ⟨0,h,by decide⟩
    obtain ⟨j,rfl,hj3⟩:=hj
    refine ⟨_,ej,j,rfl,by omega,by omega,by omega,?_⟩
    rw [YN]
    refine zcz (fun m acc Γ=>∃ (s0:Slot) (dl:List Deed),acc=dl.map deD/\dl.length=m/\(∀ d,d ∈ dl->zit (ns.take as.length) d)/\Γ=[s0,Slot.val (D.int as.length),Slot.val (D.int (day+v)),Slot.val (D.lst (List.map D.str ns)),Slot.val (D.lst [D.int x0,D.int x1,D.int x2,D.int x3])]) ⟨_,[],rfl,rfl,fun _ z=>by simp at z,rfl⟩ ?_ ?_
    ·rintro m d acc Γ hd ⟨s0,dl,rfl,h1,h2,rfl⟩
     rw [yE] at hd; obtain ⟨k,hk,rfl⟩:=yJ.mp hd; have hm:=(yD.mp hk).1; rw [yi] at hm; rw [YO hm] at hk; cases hk
     have hx:∃ x:Int,atI [D.int x0,D.int x1,D.int x2,D.int x3] (1+(m:Int))=some (D.int x):=by
      have:m=0\/m=1\/m=2:=by omega
      rcases this with rfl | rfl | rfl
      ·exact ⟨x1,rfl⟩
      ·exact ⟨x2,rfl⟩
      ·exact ⟨x3,rfl⟩
     obtain ⟨x,ex⟩:=hx; simp [zbb,zbc,za7,za9,zS,zaT,tC',zbB,zcA,tB',zbe,zbn,zc6,zaC,zbH,zaw,zdy,za5,zal,zba,zbh,zc1,zc7,zc5,zbf,zc8,zE,zbl,zbq,zar,zaD,zad,zae,zc0,zac,zax,zbi,zah,zbm,zao,zau,za8,zaU,zc2,zaj,zbd,zaA,zbg,zbr,zat,zbs,zbE,za6,zai,zbC,zan,zbA,zU,zbF,zbI,zbw,zbz,zak,zdm,zbk,zF,zav,zI,zbj,zL,tBr,brN,zam,zag,zT,zas,zM,zby,zaB,zdn,zbx,zaz,zbB,zK,zH,zJ,zay,vo,voS,ex,zj7]
     refine ⟨_,_,as.length,ns,rfl,by omega,by omega,fun d hd=>⟨_,dl ++ [d],by simp [Res.toD],by simp [h1],fun z hz=>?_,rfl⟩⟩
     rcases YY.mp hz with hz | hz
     ·exact h2 z hz
     ·rw [yj.mp hz]; exact hd
    ·rintro acc Γ ⟨s0,dl,rfl,h1,h2,rfl⟩
     rw [yF,yi] at h1
     refine ⟨as ++ [(⟨n,day+v,none⟩,dl)],by simp,ga.snoc hi hn1 (fun o' h'=>by cases h') (by show dl.length<=3; omega) h2 hdays2,fun a b hb=>?_,by simp [zbU,zhN]⟩
     rcases YY.mp hb with hb | hb
     ·exact hdays2 _ hb
     ·cases yj.mp hb
      exact Int.le_refl _
  ·rintro Γ ⟨as,day,s5,s6,s7,s8,s9,h1,ga,hdays,rfl⟩
   simp [zbb,zbc,za7,za9,zS,zaT,tC',zbB,zcA,tB',zbe,zbn,zc6,zaC,zbH,zaw,zdy,za5,zal,zba,zbh,zc1,zc7,zc5,zbf,zc8,zE,zbl,zbq,zar,zaD,zad,zae,zc0,zac,zax,zbi,zah,zbm,zao,zau,za8,zaU,zc2,zaj,zbd,zaA,zbg,zbr,zat,zbs,zbE,za6,zai,zbC,zan,zbA,zU,zbF,zbI,zbw,zbz,zak,zdm,zbk,zF,zav,zI,zbj,zL,tBr,brN,zam,zag,zT,zas,zM,zby,zaB,zdn,zbx,zaz,zbB,zK,zH,zJ,zay]; exact q as ga
end
def mkK (T:Cs) (k:Int) (s:List Nat):D :=
 if k=0 then .obj T.Read [("place",.tup []),("words",.tup [.str (119 :: s)])]
 else if k=1 then .obj T.Swap [("place",.tup []),("old",.tup [.str (119 :: s)]),("new",.tup [.str [120]])]
 else if k=2 then .obj T.PutIn [("place",.tup []),("node",.tup [.str s,.tup [],.tup []])]
 else if k=3 then .obj T.LeaveOut [("place",.tup [.str s])]
 else .obj T.Anew [("place",.tup [.str s])]
def mkC (T:Cs):D->D
 | .tup [.int k,.str s]=>mkK T k s
 | c=>c
def hA (T:Cs) (a:Act):Act:=(a.1,a.2.map (Deed.mapC (mkC T)))
def t0D:D:=.tup [.str [],.tup [],.tup []]
structure ActsOk (as:List Act):Prop where
 len:as.length<=15
 at_:∀ (i:Nat) a,as[i]?=some a->zqk a.1.nm/\a.1.nm ∉ nms (as.take i)/\(∀ b ∈ as.take i,b.1.day<=a.1.day)/\(∀ o,a.1.oth=some o->o ∈ nms (as.take i)/\a.2=[])/\a.2.length<=3/\∀ d,d ∈ a.2->zit (nms (as.take i)) d
def zcM (T:Cs):Sp':=fun ds Q=>∃ (k:Int) (s:List Nat),ds=[.tup [.int k,.str s]]/\s.length<=100/\Q (.val (mkK T k s))
def zcc (T:Cs):Sp':=fun ds Q=>∃ d ah,ds=[deD d]/\zit ah d/\Q (.val (deD (d.mapC (mkC T))))
def zdo (T:Cs):SpB:=fun d xs ds Q=>∃ (t:D) (es:List Act) (a:Act),d=bkF T t/\xs=es.map zdz/\ds=[zbU a]/\znJ es a.1.nm a.1.day/\a.2.length<=3/\(∀ x,x ∈ a.2->zit (nms es) x)/\(∀ o,a.1.oth=some o->o ∈ nms es/\a.2=[])/\Q .non ((es ++ [hA T a]).map zdz)
instance {T:Cs}:MSp (zcc T):=⟨fun _ _ _ h ⟨d,ah,e,a,q⟩=>⟨d,ah,e,a,h _ q⟩⟩
instance {T:Cs}:MSpB (zdo T):=⟨fun _ _ _ _ _ h ⟨t,es,a,e,b,c,d,f,g,i,q⟩=>⟨t,es,a,e,b,c,d,f,g,i,h _ _ q⟩⟩
section
variable {P:Program} {w:World} {K:W.Frag} {mg:Str->Option Value} {base:Heap} {T:Cs}
theorem zf3:FnScope ["_law_kind_here"] ["_law_kind_here"] (zm zdf):=sc0
theorem zgn (d:Df K mg "_law_change" zdf ["_law_kind_here"]) (cf:CF K T) (M_Anew:Mak P w K mg base 1 "Anew" T.Anew ["place"]) (M_LeaveOut:Mak P w K mg base 1 "LeaveOut" T.LeaveOut ["place"]) (M_PutIn:Mak P w K mg base 1 "PutIn" T.PutIn ["place","node"]) (M_Read:Mak P w K mg base 1 "Read" T.Read ["place","words"]) (M_Swap:Mak P w K mg base 1 "Swap" T.Swap ["place","old","new"]):Fn P w K mg base 3 "_law_change" ["_law_kind_here"] (zcM T):=by
 refine d.ok zf3 (fun ds Q h=>?_) (fun f cdv A outer s H E hr ds Q h=>⟨_,(zk (zQ (zx (zbJ (za0 hr)) (zp (i_A (zq hr)) (pv' 0) zi) zi) (zl (zD (zea M_Read (hr.mono (by decide)) (zc (zu zj) (zc (zu (zc (zv zbT (zaF [119]) (zp (i_A (zq hr)) (pv' 0) zi)) zj)) zj))))) zA)
  (zk (zQ (zx (zbJ (za0 hr)) (zp (i_A (zq hr)) (pv' 0) zi) zi) (zl (zD (zea M_Swap (hr.mono (by decide)) (zc (zu zj) (zc (zu (zc (zv zbT (zaF [119]) (zp (i_A (zq hr)) (pv' 0) zi)) zj)) (zc (zu (zc (zaF [120]) zj)) zj)))))) zA)
  (zk (zQ (zx (zbJ (za0 hr)) (zp (i_A (zq hr)) (pv' 0) zi) zi) (zl (zD (zea M_PutIn (hr.mono (by decide)) (zc (zu zj) (zc (zu (zc (zp (i_A (zq hr)) (pv' 0) zi) (zc (zu zj) (zc (zu zj) zj)))) zj))))) zA)
  (zk (zQ (zx (zbJ (za0 hr)) (zp (i_A (zq hr)) (pv' 0) zi) zi) (zl (zD (zea M_LeaveOut (hr.mono (by decide)) (zc (zu (zc (zp (i_A (zq hr)) (pv' 0) zi) zj)) zj)))) zA)
  (zl (zD (zea M_Anew (hr.mono (by decide)) (zc (zu (zc (zp (i_A (zq hr)) (pv' 0) zi) zj)) zj)))))))),?_⟩)
 ·obtain ⟨k,s,rfl,_⟩:=h
  rfl
 obtain ⟨k,l,rfl,hs,q⟩:=h; simp [zbb,zbc,za7,za9,zS,zaT,tC',zbB,zcA,tB',zbe,zbn,zc6,zaC,zbH,zaw,zdy,za5,zal,zba,zbh,zc1,zc7,zc5,zbf,zc8,zE,zbl,zbq,zar,zaD,zad,zae,zc0,zac,zax,zbi,zah,zbm,zao,zau,za8,zaU,zc2,zaj,zbd,zaA,zbg,zbr,zat,zbs,zbE,za6,zai,zbC,zan,zbA,zU,zbF,zbI,zbw,zbz,zak,zdm,zbk,zF,zav,zI,zbj,zL,tBr,brN,zam,zag,zT,zas,zM,zby,zaB,zdn,zbx,zaz,zbB,zK,zH,zJ,zay]
 have o1:1<=sizeLine:=small (by decide)
 have o3:3<=sizeLine:=small (by decide)
 have ol:1+l.length<=sizeLine:=small (by omega)
 unfold mkK at q
 by_cases e0:k=0
 ·rw [yN e0] at q
  exact .inr ⟨e0,ol,o1,q⟩
 ·refine .inl ⟨e0,?_⟩
  rw [yK e0] at q
  by_cases e1:k=1
  ·rw [yN e1] at q
   exact .inr ⟨e1,ol,o1,q⟩
  ·refine .inl ⟨e1,?_⟩
   rw [yK e1] at q
   by_cases e2:k=2
   ·rw [yN e2] at q
    exact .inr ⟨e2,o3,q⟩
   ·refine .inl ⟨e2,?_⟩
    rw [yK e2] at q
    by_cases e3:k=3
    ·rw [yN e3] at q
     exact .inr ⟨e3,o1,q⟩
    ·rw [yK e3] at q
     exact .inl ⟨e3,o1,q⟩
theorem zf2:FnScope ["_law_deed_here"] ["_law_deed_here"] (zm zde):=sc0
theorem zgl (d:Df K mg "_law_handed" zde ["_law_deed_here"]) (cf:CF K T) (G_law_change:Fn P w K mg base 3 "_law_change" ["_law_kind_here"] (zcM T)):Fn P w K mg base 4 "_law_handed" ["_law_deed_here"] (zcc T):=by
 refine d.ok zf2 (fun ds Q h=>?_) (fun f cdv A outer s H E hr ds Q h=>⟨_,(zk (zQ (zx (zbJ (za0 hr)) (zp (i_A (zq hr)) (pv' 0) zi) (zaF [99,104,97,110,103,101])) (zl (zD (zu (zc (zaF [99,104,97,110,103,101]) (zc (zp (i_A (zq hr)) (pv' 0) zi) (zc (zbS G_law_change (hr.mono (by decide)) (zc (zp (i_A (zq hr)) (pv' 0) zi) zj)) (zc (zp (i_A (zq hr)) (pv' 0) zi) zj))))))) zA)
  (zk (zQ (zx (zbJ (za0 hr)) (zp (i_A (zq hr)) (pv' 0) zi) (zaF [105,110,115,116,101,97,100])) (zl (zD (zu (zc (zaF [105,110,115,116,101,97,100]) (zc (zp (i_A (zq hr)) (pv' 0) zi) (zc (zp (i_A (zq hr)) (pv' 0) zi) (zc (zbS G_law_change (hr.mono (by decide)) (zc (zp (i_A (zq hr)) (pv' 0) zi) zj)) zj))))))) zA)
  (zl (zD (pv' 0))))),?_⟩)
 ·obtain ⟨d,ah,rfl,_⟩:=h
  rfl
 obtain ⟨d,ah,rfl,⟨hd,hn⟩,q⟩:=h
 have o4:4<=sizeLine:=small (by decide)
 cases d with
 | ch d c s' =>
  obtain ⟨⟨k,l,rfl,hl⟩,_⟩:=hd
  simp [rds,deD,zsL]; exact ⟨k,l,rfl,hl,o4,q⟩
 | lat n i d =>
  simp [rds,deD,zqg]; exact q
 | ins n i c =>
  obtain ⟨k,l,rfl,hl⟩:=hd; simp [rds,deD,zqh]; exact ⟨k,l,rfl,hl,o4,q⟩
 | drp n i =>
  simp [rds,deD,zqi]; exact q
theorem zm7 {ah:List (List Nat)} {d:Deed} (f:D->D) (h:zot ah d):zis ah (deD (d.mapC f)):=by
 cases d with
 | ch d c s=>exact ⟨_,_,_,rfl,.inl rfl⟩
 | lat n i d=>exact ⟨_,_,_,rfl,.inr ⟨by decide,n,h,rfl⟩⟩
 | ins n i c=>exact ⟨_,_,_,rfl,.inr ⟨by decide,n,h,rfl⟩⟩
 | drp n i=>exact ⟨_,_,_,rfl,.inr ⟨by decide,n,h,rfl⟩⟩
theorem zjl:FnScope ["_law_book","_law_act"] ["_law_book","_law_act"] (zm zd6):=sc0
theorem zjB (d:Df K mg "_law_put" zd6 ["_law_book","_law_act"]) (cf:CF K T) (G_law_handed:Fn P w K mg base 4 "_law_handed" ["_law_deed_here"] (zcc T)) (M_Book_act:MthB P w K mg base 4 T.Book "act" ["self","name","day","deeds"] (zdI T)) (M_Book_back:MthB P w K mg base 4 T.Book "back" ["self","name","day","other"] (zdb T)):FnB P w K mg base 5 "_law_put" ["_law_book","_law_act"] (zdo T):=by
 refine d.okB zjl (fun dd xs ds Q h=>?_) (fun f cdv A outer s H E hr dd b xs ds Q h=>⟨_,(zk (zQ (zx ztJ (zp (i_A (zq hr)) (pv' 1) zi) zck) (zl (zD (zkR 0 M_Book_act (hr.mono (by decide)) (zc (zp (i_A (zq hr)) (pv' 1) zi) (zc (zp (i_A (zq hr)) (pv' 1) zi) (zc (zcs (zdR (fsc:=zm zd6) (N:=["_law_book","_law_act"]) (N':=["_law_deed_here"]) (src:=[none]) (by refine ⟨rfl,?_,?_,?_,rfl,rfl⟩ <;> decide +kernel) (zb3 (zp (i_A (zq hr)) (pv' 1) zi)) (fun _ _ _ _ _ _=>(zw 0 (show (["_law_deed_here"]:List Str).Nodup by decide +kernel))) (fun _ _ _ _ _ _=>zb4) (fun _ _ _ _ _ _=>(zbS G_law_handed (hr.mono (by decide)) (zc (pv' 0) zj))))) zj)))))) zA)
  (zl (zD (zkR 0 M_Book_back (hr.mono (by decide)) (zc (zp (i_A (zq hr)) (pv' 1) zi) (zc (zp (i_A (zq hr)) (pv' 1) zi) (zc (zp (i_A (zq hr)) (pv' 1) zi) zj))))))),?_⟩)
 ·obtain ⟨t,es,a,rfl,rfl,rfl,_⟩:=h
  rfl
 obtain ⟨t,es,a,rfl,rfl,rfl,hp,hl,hd,ho,q⟩:=h
 obtain ⟨⟨nm,day,oth⟩,dl⟩:=a
 cases oth with
 | none =>
  simp [rds,zbU,zhN,zgS,bkF]
  dsimp only at hp hl hd q
  refine ⟨zrE (by decide +kernel) (by decide +kernel),small (by omega),?_⟩
  refine zcz (fun i acc Γ=>∃ s0:Slot,acc=((dl.take i).map (Deed.mapC (mkC T))).map deD/\Γ=[s0]) ⟨_,rfl,rfl⟩ ?_ ?_
  ·rintro i d acc Γ he ⟨s0,rfl,rfl⟩
   rw [yE] at he; obtain ⟨x,hx,rfl⟩:=yJ.mp he; rw [zaZ hx]; simp [rds,vo,voS]; exact ⟨x,nms es,rfl,hd x (yW hx),rfl⟩
  ·rintro acc Γ ⟨s0,rfl,rfl⟩
   rw [yF,List.take_length]
   refine ⟨t,es,nm,day,_,rfl,rfl,rfl,hp,by rw [yF]; omega,fun x hx=>?_,q⟩
   obtain ⟨y,hy,rfl⟩:=yq.mp hx; exact zm7 _ (hd y hy).2
 | some o =>
  obtain ⟨h1,h2⟩:=ho o rfl
  dsimp only at h2
  subst h2; simp [rds,zbU,zhN,zgS,bkF]
  exact ⟨zrE (by decide +kernel) (by decide +kernel),t,es,nm,day,o,rfl,rfl,rfl,hp,h1,q⟩
end
theorem zlc (T:Cs) (zt:Int):∀ (rs:List Act) (s:List La × List (List Nat)),(rs.map (hA T)).foldl (stp zt) (s.1.map (La.mapC (mkC T)),s.2)=(((rs.foldl (stp zt) s).1.map (La.mapC (mkC T))),(rs.foldl (stp zt) s).2)
 | [],s=>rfl
 | a :: rs,s=>by
  rw [yS,YQ,YQ]
  have e:stp zt (s.1.map (La.mapC (mkC T)),s.2) (hA T a)=(((stp zt s a).1.map (La.mapC (mkC T))),(stp zt s a).2):=by
   unfold stp
   show (if a.1.day<=zt/\a.1.nm ∉ s.2 then _ else _)=_
   split <;> rfl
  rw [e]; exact zlc T zt rs (stp zt s a)
theorem zn3 (T:Cs) (zt:Int) (as:List Act):liv zt (as.map (hA T))=(liv zt as).map (La.mapC (mkC T)):=by
 unfold liv zj3; rw [<- List.map_reverse]
 have:=zlc T zt as.reverse ([],[])
 exact yo Prod.fst this
theorem ziP {zt:Int}:∀ (rs:List Act) (s:List La × List (List Nat)),∀ x ∈ (rs.foldl (stp zt) s).1,x ∈ s.1\/∃ a ∈ rs,x=zd2 a
 | [],s,x,h=>.inl h
 | a :: rs,s,x,h=>by
  rcases ziP rs (stp zt s a) x h with z | ⟨b,hb,e⟩
  ·unfold stp at z
   split at z
   ·rcases yO.mp z with z | z
    ·exact .inr ⟨a,yT,z⟩
    ·exact .inl z
   ·exact .inl z
  ·exact .inr ⟨b,yP _ hb,e⟩
theorem zla {zt:Int} {es:List Act} {x:La} (h:x ∈ liv zt es):∃ a ∈ es,x=zd2 a:=by
 rcases ziP es.reverse ([],[]) x h with z | ⟨a,ha,e⟩
 ·cases z
 ·exact ⟨a,List.mem_reverse.mp ha,e⟩
theorem zk9 {zt:Int} {es:List Act} (h:∀ a ∈ es,a.2.length<=3):zb8 (liv zt es)<=3 * es.length:=by
 have:∀ xs:List La,(∀ x ∈ xs,x.ds.length<=3)->zb8 xs<=3 * xs.length:=by
  intro xs
  induction xs with
  | nil=>intro _; simp [zb8]
  | cons x xs ih =>
   intro hx; have h1:=hx x yT
   have h2:=ih fun y hy=>hx y (yP _ hy)
   simp only [zb8,yS,List.sum_cons,yf] at h2 ⊢; omega
 have h1:=this (liv zt es) fun x hx=>by
  obtain ⟨a,ha,rfl⟩:=zla hx; exact h a ha
 have h2:=zpD zt es; omega
def cnR (zt:Int) (as:List Act):List Row:=zlV (zbt [] (liv zt as))
theorem zqm (T:Cs) (zt:Int) (as:List Act):wcD (zbt [] (liv zt (as.map (hA T))))=(cnR zt as).map fun r=>zds (r.mapC (mkC T)):=by
 rw [zn3,show ([]:List Row)=([]:List Row).map (Row.mapC (mkC T)) from rfl,zjW]
 unfold wcD cnR; rw [zhR zds,zmg,YG]; rfl
theorem zr7 {zt:Int} {as:List Act} (h:ActsOk as):∀ r ∈ cnR zt as,zcG zfx zqb r:=fun r hr=>by
 refine zeB (liv zt as) [] (fun _ z=>nomatch z) (fun a ha d hd=>?_) r (zkg hr)
 obtain ⟨b,hb,rfl⟩:=zla ha; obtain ⟨i,hi,e⟩:=yp hb
 exact ((h.at_ i b (by rw [yB hi,e])).2.2.2.2.2 d hd).1
theorem zlJ {zt:Int} {as:List Act} (h:ActsOk as):zb8 (liv zt as)<=45:=by
 have h1:=zk9 (zt:=zt) (es:=as) fun a ha=>by
  obtain ⟨i,hi,e⟩:=yp ha
  exact (h.at_ i a (by rw [yB hi,e])).2.2.2.2.1
 have:=h.len
 omega
theorem zlI {T:Cs} {zt:Int} {as:List Act} (h:ActsOk as):zb8 (liv zt (as.map (hA T)))<64:=by
 have e:zb8 (liv zt (as.map (hA T)))=zb8 (liv zt as):=by
  rw [zn3]; unfold zb8; rw [YG]
  congr 1
  refine Yb fun a _=>?_
  show (a.ds.map _).length=_
  rw [yF]
 have:=zlJ (zt:=zt) h
 omega
theorem zoo {zt:Int} {as:List Act} (h:ActsOk as):(cnR zt as).length<=45:=by
 unfold cnR; rw [zmh]; have h1:=zcF (liv zt as) []; have h2:=zlJ (zt:=zt) h; simp only [Yu,Nat.zero_add] at h1; omega
theorem zjS {ns:List (List Nat)} {as:List Act} (ga:GoodActs ns as) {i:Nat} (hi:i<=as.length):nms (as.take i)=ns.take i:=by
 refine List.ext_getElem? fun j=>?_
 unfold nms; rw [yE,List.getElem?_take,List.getElem?_take]; split
 ·rename_i hj
  have hj':j<as.length:=by omega
  rw [yB hj',(ga.at_ j _ (yB hj')).1]; rfl
 ·rfl
theorem zjF {ns:List (List Nat)} (h:ns.Nodup) {i:Nat} {x:List Nat} (e:ns[i]?=some x):x ∉ ns.take i:=fun hm=>by
 obtain ⟨j,hj,e2⟩:=yp hm; rw [ye] at hj; obtain ⟨hi,e3⟩:=yD.mp e
 have:=YR.mp h j i (by omega) hi (by omega)
 rw [List.getElem_take] at e2; exact this (e2.trans e3.symm)
theorem GoodActs.ok {ns:List (List Nat)} {as:List Act} (ga:GoodActs ns as) (h1:∀ n,n ∈ ns->zqk n) (h2:ns.Nodup):ActsOk as:=by
 refine ⟨by have:=ga.len; omega,fun i a ha=>?_⟩
 have hi:=(yD.mp ha).1; obtain ⟨a1,a2,a3,a4⟩:=ga.at_ i a ha
 rw [zjS ga (by omega)]
 refine ⟨h1 _ (yW a1),zjF h2 a1,fun b hb=>?_,a2,a3,a4⟩
 obtain ⟨j,hj,e⟩:=yp hb; rw [ye] at hj; rw [List.getElem_take] at e
 exact ga.days j i b a (by omega) (by rw [yB (by omega),e]) ha
def stA (zt:Int) (s:List Act × List (Option (List Nat))) (a:Act):List Act × List (Option (List Nat)) :=
 if a.1.day<=zt/\a.1.nm ∉ s.2.filterMap id then (a :: s.1,s.2 ++ [a.1.oth]) else s
def zfg (zt:Int) (rs:List Act):List Act × List (Option (List Nat)):=rs.foldl (stA zt) ([],[])
def zfG (zt:Int) (es:List Act):List Act:=(zfg zt es.reverse).1
theorem zjK (zt:Int) (xs:List Act) (e:Act):zfg zt (xs ++ [e])=stA zt (zfg zt xs) e:=by simp [zfg]
theorem zok (zt:Int):∀ (rs:List Act) (s:List Act × List (Option (List Nat))),rs.foldl (stp zt) (s.1.map zd2,s.2.filterMap id)=((rs.foldl (stA zt) s).1.map zd2,(rs.foldl (stA zt) s).2.filterMap id)
 | [],s=>rfl
 | a :: rs,s=>by
  rw [YQ,YQ]
  have e:stp zt (s.1.map zd2,s.2.filterMap id) a=((stA zt s a).1.map zd2,(stA zt s a).2.filterMap id):=by
   unfold stp stA
   dsimp only
   split
   ·rw [List.filterMap_append]
    cases a.1.oth <;> rfl
   ·rfl
  rw [e]; exact zok zt rs (stA zt s a)
theorem ztO (zt:Int) (es:List Act):liv zt es=(zfG zt es).map zd2:=by
 unfold liv zj3 zfG zfg; exact yo Prod.fst (zok zt es.reverse ([],[]))
theorem ziU (zt:Int):∀ (rs:List Act) (s:List Act × List (Option (List Nat))),∃ l,(rs.foldl (stA zt) s).1=l ++ s.1/\l.Sublist rs.reverse
 | [],s=>⟨[],rfl,.slnil⟩
 | a :: rs,s=>by
  obtain ⟨l,e,hs⟩:=ziU zt rs (stA zt s a); rw [YQ,e,List.reverse_cons]; unfold stA; split
  ·exact ⟨l ++ [a],by simp,hs.append (List.Sublist.refl _)⟩
  ·exact ⟨l,rfl,hs.trans (List.sublist_append_left _ _)⟩
theorem zdw (zt:Int) (es:List Act):(zfG zt es).Sublist es:=by
 obtain ⟨l,e,hs⟩:=ziU zt es.reverse ([],[]); unfold zfG zfg; rw [e,ym]; rw [List.reverse_reverse] at hs; exact hs
def zcI:Sp':=fun ds Q=>∃ (as:List Act) (zt:Int),ds=[.lst (as.map zbU),.int zt]/\as.length<=100/\Q (.own (.lst ((zfG zt as).map zbU)))
def ixD:Option Nat->D
 | none=>.non
 | some k=>.int k
def zb6:Sp':=fun ds Q=>∃ (rs:List Row) (n:List Nat) (i made:Int),ds=[.lst (rs.map zds),.str n,.int i,.int made]/\rs.length<=900/\Q (.val (ixD (fix rs n i made)))
instance:MSp zb6:=⟨fun _ _ _ h ⟨rs,n,i,made,e,a,q⟩=>⟨rs,n,i,made,e,a,h _ q⟩⟩
section
variable {P:Program} {w:World} {K:W.Frag} {mg:Str->Option Value} {base:Heap} {T:Cs}
theorem zcd:FnScope ["_law_acts_here","_law_seen","_law_found_here","_law_back","_law_act"] ["_law_acts_here","_law_seen"] (zm zdd):=sc0
theorem zgk (d:Df K mg "_law_living" zdd ["_law_acts_here","_law_seen"]) (z_reversed:mg "reversed"=none):Fn P w K mg base 1 "_law_living" ["_law_acts_here","_law_seen"] zcI:=by
 refine d.ok zcd (fun ds Q h=>?_) (fun f cdv A outer s H E hr ds Q h=>⟨_,(zk (zbP 2 zcd.nd (zcC zj))
  (zk (zbP 3 zcd.nd (zcC zj))
  (zk (zbQ (zkP rfl z_reversed (zc (pv' 0) zj)) (zw 4 zcd.nd)
   (zl (zQ (zgd (PW'.pt (zdg (zx zsI (zp (i_A (zq hr)) (pv' 4) zi) (pv' 1)) (zcR (zx zmZ (zp (i_A (zq hr)) (pv' 4) zi) (pv' 3)))))) (zk (zjt 2 (pv' 4))
  (zl (zb2 3 (zp (i_A (zq hr)) (pv' 4) zi)))) zA)))
  (zl (zeX 2))))),?_⟩)
 ·obtain ⟨as,zt,rfl,_⟩:=h
  rfl
 obtain ⟨as,zt,rfl,hl,q⟩:=h; simp [zbb,zbc,za7,za9,zS,zaT,tC',zbB,zcA,tB',zbe,zbn,zc6,zaC,zbH,zaw,zdy,za5,zal,zba,zbh,zc1,zc7,zc5,zbf,zc8,zE,zbl,zbq,zar,zaD,zad,zae,zc0,zac,zax,zbi,zah,zbm,zao,zau,za8,zaU,zc2,zaj,zbd,zaA,zbg,zbr,zat,zbs,zbE,za6,zai,zbC,zan,zbA,zU,zbF,zbI,zbw,zbz,zak,zdm,zbk,zF,zav,zI,zbj,zL,tBr,brN,zam,zag,zT,zas,zM,zby,zaB,zdn,zbx,zaz,zbB,zK,zH,zJ,zay]; rw [<- List.map_reverse]
 refine zcD (fun i Γ=>∃ (s4:Slot),(zfg zt (as.reverse.take i)).1.length<=i/\(zfg zt (as.reverse.take i)).2.length<=i /\
  Γ=[Slot.val (D.lst (List.map zbU as)),Slot.val (D.int zt),Slot.own (OD.lst ((zfg zt (as.reverse.take i)).1.map zbU)),Slot.own (OD.lst ((zfg zt (as.reverse.take i)).2.map zhN)),s4]) ⟨_,yb _,yb _,rfl⟩ ?_ ?_
 ·rintro i d Γ he ⟨s4,h2,h3,rfl⟩
  rw [yE] at he; obtain ⟨a,ha,rfl⟩:=yJ.mp he
  have hi:i<as.length:=by have:=(yD.mp ha).1; simpa using this
  rw [zaZ ha,zjK]; generalize zfg zt (as.reverse.take i)=st at h2 h3; simp [zbb,zbc,za7,za9,zS,zaT,tC',zbB,zcA,tB',zbe,zbn,zc6,zaC,zbH,zaw,zdy,za5,zal,zba,zbh,zc1,zc7,zc5,zbf,zc8,zE,zbl,zbq,zar,zaD,zad,zae,zc0,zac,zax,zbi,zah,zbm,zao,zau,za8,zaU,zc2,zaj,zbd,zaA,zbg,zbr,zat,zbs,zbE,za6,zai,zbC,zan,zbA,zU,zbF,zbI,zbw,zbz,zak,zdm,zbk,zF,zav,zI,zbj,zL,tBr,brN,zam,zag,zT,zas,zM,zby,zaB,zdn,zbx,zaz,zbB,zK,zH,zJ,zay,zbU]
  have s1:st.1.length<sizeLine:=zap (by omega)
  have s2:st.2.length<sizeLine:=zap (by omega)
  have so:∀ o,zjf (zhN o)=o:=fun o=>by cases o <;> rfl
  have sn:∀ o,zhN o=D.non\/∃ m,zhN o=D.str m:=fun o=>by cases o <;> simp [zhN]
  have mi:a.1.nm ∈ st.2.filterMap id↔some a.1.nm ∈ st.2:=by simp
  by_cases hd:a.1.day<=zt
  ·refine .inr ⟨hd,fun o _=>sn o,?_⟩
   by_cases hm:some a.1.nm ∈ st.2
   ·have e:stA zt st a=st:=yK fun z=>z.2 (mi.mpr hm)
    rw [e]
    exact .inl ⟨⟨_,⟨_,hm,rfl⟩,so _⟩,by omega,by omega,rfl,rfl⟩
   ·have e:stA zt st a=(a :: st.1,st.2 ++ [a.1.oth]):=yN ⟨hd,fun z=>hm (mi.mp z)⟩
    rw [e]
    exact .inr ⟨fun o ho z=>hm (by rw [so] at z; rw [<- z]; exact ho),s1,s2,by simp; omega,by simp; omega,rfl,by simp⟩
  ·have e:stA zt st a=st:=yK fun z=>hd z.1
   rw [e]
   exact .inl ⟨by omega,by omega,by omega,rfl,rfl⟩
 ·rintro Γ ⟨s4,h2,h3,rfl⟩
  rw [yF,take_all]; simp [zbb,zbc,za7,za9,zS,zaT,tC',zbB,zcA,tB',zbe,zbn,zc6,zaC,zbH,zaw,zdy,za5,zal,zba,zbh,zc1,zc7,zc5,zbf,zc8,zE,zbl,zbq,zar,zaD,zad,zae,zc0,zac,zax,zbi,zah,zbm,zao,zau,za8,zaU,zc2,zaj,zbd,zaA,zbg,zbr,zat,zbs,zbE,za6,zai,zbC,zan,zbA,zU,zbF,zbI,zbw,zbz,zak,zdm,zbk,zF,zav,zI,zbj,zL,tBr,brN,zam,zag,zT,zas,zM,zby,zaB,zdn,zbx,zaz,zbB,zK,zH,zJ,zay]; exact q
theorem zeH:FnScope ["_law_rows","_law_name","_law_number","_law_day","_law_k"] ["_law_rows","_law_name","_law_number","_law_day"] (zm zdN):=sc0
theorem zg6 (d:Df K mg "_law_found" zdN ["_law_rows","_law_name","_law_number","_law_day"]) (z_len:mg "len"=none) (z_range:mg "range"=none):Fn P w K mg base 1 "_law_found" ["_law_rows","_law_name","_law_number","_law_day"] zb6:=by
 refine d.ok zeH (fun ds Q h=>?_) (fun f cdv A outer s H E hr ds Q h=>⟨_,(zk (zbQ (zch z_range (zc (zO zdE z_len YV (zc (pv' 0) zj)) zj)) (zw 4 zeH.nd)
   (zl (zQ (PW'.pt (zdg (zx (zbJ (za0 hr)) (zp (i_A (zq hr)) (zp (i_A (zq hr)) (pv' 0) (pv' 4)) zi) (pv' 1)) (zdg (zx (zbJ (za0 hr)) (zp (i_A (zq hr)) (zp (i_A (zq hr)) (pv' 0) (pv' 4)) zi) (pv' 2)) (zcR (zx zrz (zp (i_A (zq hr)) (zp (i_A (zq hr)) (pv' 0) (pv' 4)) zi) (pv' 3)))))) (zl (zD (pv' 4))) zA)))
  (zl (zD zck))),?_⟩)
 ·obtain ⟨rs,n,i,made,rfl,_⟩:=h
  rfl
 obtain ⟨rs,n,i,made,rfl,hl,q⟩:=h; simp [rds]
 refine ⟨by omega,?_⟩
 refine zcD (fun j Γ=>∃ s4:Slot,(∀ l (h:l<rs.length),l<j->(rs[l].is n i && decide (made<rs[l].day))=false)/\Γ=[Slot.val (D.lst (List.map zds rs)),Slot.val (D.str n),Slot.val (D.int i),Slot.val (D.int made),s4]) ⟨_,fun l _ h=>by omega,rfl⟩ ?_ ?_
 ·rintro j d Γ he ⟨s4,hno,rfl⟩
  rw [yE] at he; obtain ⟨k,hk,rfl⟩:=yJ.mp he; obtain ⟨hj,e⟩:=yD.mp hk; rw [List.getElem_range] at e; subst e; rw [yi] at hj
  have ha:atI (rs.map zds) ((j:Nat):Int)=some (zds rs[j]):=zbu (by rw [yE,yB hj]; rfl)
  simp [rds,ha,zds]
  have no:(rs[j].is n i=true->rs[j].day<=made)->∀ l (h:l<rs.length),l<j+1->rs[l].is n i=true->rs[l].day<=made:=fun z l h h1=>by
   by_cases hl:l<j
   ·have:=hno l h hl
    simpa using this
   ·have:l=j:=by omega
    subst this; exact z
  by_cases e1:rs[j].nm=n
  ·refine .inr ⟨e1,?_⟩
   by_cases e2:rs[j].num=i
   ·refine .inr ⟨e2,?_⟩
    by_cases e3:made<rs[j].day
    ·have e:fix rs n i made=some j:=by
      unfold fix; rw [List.findIdx?_eq_some_iff_getElem]
      refine ⟨hj,by rw [zcY.mpr ⟨e1,e2⟩]; simpa using e3,fun l hl=>by rw [hno l (by omega) hl]; simp⟩
     rw [e] at q; exact .inr ⟨e3,q⟩
    ·exact .inl ⟨by omega,no fun _=>by omega⟩
   ·exact .inl ⟨e2,no fun z=>yQ (zcY.mp z).2 e2⟩
  ·exact .inl ⟨e1,no fun z=>yQ (zcY.mp z).1 e1⟩
 ·rintro Γ ⟨s4,hno,rfl⟩
  have e:fix rs n i made=none:=by
   unfold fix; rw [List.findIdx?_eq_none_iff]; intro x hx; obtain ⟨l,hl,rfl⟩:=yp hx
   exact hno l hl (by simpa using hl)
  rw [e] at q; simp [rds]; exact q
end
def zeO:D->D->D->Prop:=fun x o k=>∃ (r:Row) (ls:List (List Nat)) (j:Nat),x=zds r/\o=.lst (ls.map .str)/\ls[j]?=some r.nm/\(∀ i,i<j->ls[i]?≠some r.nm)/\k=i3D (r.day,(j:Int),r.num)
def zcL:Sp':=fun ds Q=>∃ (as:List Act) (zt:Int),ds=[.lst (as.map zbU),.int zt]/\ActsOk as/\Q (.own (.lst ((cnR zt as).map zds)))
theorem zoI {rs:List Row} {k:Nat} {r:Row} (h:rs[k]?=some r):atI (rs.map zds) (k:Int)=some (zds r):=zbu (by rw [yE,h]; rfl)
theorem zf9 (d i:Int) (n:List Nat) {c s:D} (hc:zfx c) (hs:zqb s):Imm (.tup [.int d,.str n,.int i,c,s]):=.tup fun x hx=>by
 simp only [yO,yd,or_false] at hx
 rcases hx with rfl | rfl | rfl | rfl | rfl
 ·exact .int _
 ·exact .str _
 ·exact .int _
 ·obtain ⟨k,l,rfl,_⟩:=hc
  refine .tup fun x hx=>?_
  simp only [yO,yd,or_false] at hx
  rcases hx with rfl | rfl
  ·exact .int _
  ·exact .str _
 ·rcases hs with rfl | ⟨i,rfl⟩
  ·exact .non
  ·exact .int _
def ixA (as:List Act) (n:List Nat):Nat:=(nms as).findIdx (· == n)
theorem zoh {as:List Act} {n:List Nat} (h:n ∈ nms as):(nms as)[ixA as n]?=some n/\∀ i,i<ixA as n->(nms as)[i]?≠some n:=by
 have hl:ixA as n<(nms as).length:=List.findIdx_lt_length_of_exists ⟨n,h,by simp⟩
 refine ⟨?_,fun i hi e=>?_⟩
 ·rw [yB hl]
  have:=List.findIdx_getElem (w:=hl)
  have e:(nms as)[ixA as n]=n:=beq_iff_eq.mp this
  rw [e]
 ·have:=List.not_of_lt_findIdx hi
  obtain ⟨h1,e⟩:=yD.mp e; rw [e] at this
  simp at this
theorem zpO {as:List Act} (ok:ActsOk as) {i:Nat} {a:Act} (h:as[i]?=some a):ixA as a.1.nm=i:=by
 have hi:=(yD.mp h).1
 have hm:(nms as)[i]?=some a.1.nm:=by unfold nms; rw [yE,h]; rfl
 have h1:=zoh (yW hm)
 rcases Nat.lt_trichotomy (ixA as a.1.nm) i with z | z | z
 ·have:=(ok.at_ i a h).2.1
  refine yQ (yW (i:=ixA as a.1.nm) ?_) this
  unfold nms at h1 ⊢
  rw [yE,List.getElem?_take_of_lt z,<- yE]; exact h1.1
 ·exact z
 ·exact yQ hm (h1.2 i z)
theorem zoJ {as:List Act} (ok:ActsOk as):as.Pairwise fun a b=>ixA as a.1.nm<ixA as b.1.nm:=by
 rw [YR]; intro i j hi hj hij; rw [zpO ok (yB hi),zpO ok (yB hj)]; exact hij
theorem ziH {as:List Act} (ok:ActsOk as) (zt:Int):(zfG zt as).Pairwise fun a b=>ixA as a.1.nm<ixA as b.1.nm:=(zoJ ok).sublist (zdw zt as)
theorem zpk {as:List Act} (ok:ActsOk as) {zt:Int} {i:Nat} {a:Act} (h:(zfG zt as)[i]?=some a):InOrd (ixA as) (zbt [] (((zfG zt as).take i).map zd2)) (ixA as a.1.nm,0):=by
 have hr:=ziH ok zt; have hi:=(yD.mp h).1
 refine zeA _ [] 0 zhl (yb _) (fun x hx=>⟨yb _,?_⟩) ?_
 ·obtain ⟨y,hy,rfl⟩:=yq.mp hx
  obtain ⟨j,hj,e⟩:=yp hy; rw [ye] at hj; rw [List.getElem_take] at e
  have:=YR.mp hr j i (by omega) hi (by omega)
  rw [e,(yD.mp h).2] at this; exact this
 ·unfold zsO
  rw [List.pairwise_map]; exact hr.sublist (List.take_sublist _ _)
theorem zpl {as:List Act} (ok:ActsOk as) (zt:Int):InOrd (ixA as) (zbt [] ((zfG zt as).map zd2)) (as.length,0):=by
 have hr:=ziH ok zt
 refine zeA _ [] 0 zhl (yb _) (fun x hx=>⟨yb _,?_⟩) ?_
 ·obtain ⟨y,hy,rfl⟩:=yq.mp hx
  obtain ⟨j,hj,e⟩:=yp ((zdw zt as).subset hy)
  rw [show (zd2 y).nm=y.1.nm from rfl,zpO ok (by rw [yB hj,e])]
  exact hj
 ·unfold zsO
  rw [List.pairwise_map]; exact hr
section
variable {P:Program} {w:World} {K:W.Frag} {mg:Str->Option Value} {base:Heap} {T:Cs}
theorem zV:FnScope ["_law_acts_here","_law_seen","_law_rows","_law_name","_law_day","_law_other","_law_deeds","_law_number","_law_deed_here","_law_at","_law_order"] ["_law_acts_here","_law_seen"] (zm zaW):=sc0
theorem zgm (d:Df K mg "_law_counts" zaW ["_law_acts_here","_law_seen"]) (G_law_living:Fn P w K mg base 1 "_law_living" ["_law_acts_here","_law_seen"] zcI) (G_law_found:Fn P w K mg base 1 "_law_found" ["_law_rows","_law_name","_law_number","_law_day"] zb6) (z_len:mg "len"=none) (z_range:mg "range"=none) (z_sorted:mg "sorted"=none) (lo:LamOf K mg base "_law_counts" "_law_counts.<locals>.<lambda>"):Fn P w K mg base 4 "_law_counts" ["_law_acts_here","_law_seen"] zcL:=by
 refine d.okL lo zV (fun ds Q h=>?_) (fun f cdv A outer s H E la hr ds Q h=>⟨_,(zk (zbP 2 zV.nd (zcC zj))
  (zk (zbQ (zb3 (zbS G_law_living (hr.mono (by decide)) (zc (pv' 0) (zc (pv' 1) zj)))) (zdS (n:=4) (zN (zw 3 zV.nd) (zN (zw 4 zV.nd) (zN (zw 5 zV.nd) (zN (zw 6 zV.nd) zcT)))))
   (zl (zbQ (zch z_range (zc (zO zdE z_len YV (zc (pv' 6) zj)) zj)) (zw 7 zV.nd)
   (zk (zaq 8 zV.nd (zp (i_A (zq hr)) (pv' 6) (pv' 7)))
  (zl (zQ (zx (zbJ (za0 hr)) (zp (i_A (zq hr)) (pv' 8) zi) (zaF [99,104,97,110,103,101])) (zl (zb2 2 (zu (zc (zp (i_A (zq hr)) (pv' 8) zi) (zc (pv' 3) (zc (pv' 7) (zc (zp (i_A (zq hr)) (pv' 8) zi) (zc (zp (i_A (zq hr)) (pv' 8) zi) zj)))))))) (zk (zaq 9 zV.nd (zdT (zbS G_law_found (hr.mono (by decide)) (zc (pv' 2) (zc (zp (i_A (zq hr)) (pv' 8) zi) (zc (zp (i_A (zq hr)) (pv' 8) zi) (zc (pv' 4) zj)))))))
  (zl (zQ (PW'.pt (zdg (zx zee (pv' 9) zck) (zcR (zx (zbJ (za0 hr)) (zp (i_A (zq hr)) (pv' 8) zi) (zaF [100,114,111,112]))))) (zl (zbP 2 zV.nd (zkK (zq5 zrC (ze9 s_A (pv' 2) zjy (zgY (pv' 9))) (ze9 s_A (pv' 2) (zgY (zv zbT (pv' 9) zi)) zjy))))) (zl (zQ (PW'.pt (zdg (zx zee (pv' 9) zck) (zcR (zx (zbJ (za0 hr)) (zp (i_A (zq hr)) (pv' 8) zi) (zaF [108,97,116,101,114]))))) (zl (zkH 2 (pv' 9) (zdT (zv zbT (zu (zc (zp (i_A (zq hr)) (pv' 8) zi) zj)) (ze9 s_A (zp (i_A (zq hr)) (pv' 2) (pv' 9)) (zgY zi) zjy))))) (zl (zQ (zx zee (pv' 9) zck) (zl (zkH 2 (pv' 9) (zdT (zv zbT (ze9 s_A (zp (i_A (zq hr)) (pv' 2) (pv' 9)) zjy (zgY zi)) (zu (zc (zp (i_A (zq hr)) (pv' 8) zi) (zc (zp (i_A (zq hr)) (zp (i_A (zq hr)) (pv' 2) (pv' 9)) zi) zj))))))) zA)))))))))))))
  (zk (zbP 10 zV.nd (zdR (fsc:=zm zaW) (N:=["_law_acts_here","_law_seen","_law_rows","_law_name","_law_day","_law_other","_law_deeds","_law_number","_law_deed_here","_law_at","_law_order"]) (N':=["_law_act"]) (src:=[none]) (by refine ⟨rfl,?_,?_,?_,rfl,rfl⟩ <;> decide +kernel) (zb3 (pv' 0)) (fun _ _ _ _ _ _=>(zw 0 (show (["_law_act"]:List Str).Nodup by decide +kernel))) (fun _ _ _ _ _ _=>zb4) (fun _ _ _ _ _ _=>(zp (i_A (zq hr)) (pv' 0) zi))))
  (zfM 10 (zl (ziK (zkK (zmz 10 (k:=0) (p:="_law_row") (x:="_law_order") (R:=zeO) la (ztQ rfl rfl rfl rfl (by decide +kernel))
   (fun f c c' A outer s H hr ds Q h=>⟨_,(zu (zc (zp (i_A (zq hr)) (pv' 0) zi) (zc (zkW (pv' 1) (zp (i_A (zq hr)) (pv' 0) zi)) (zc (zp (i_A (zq hr)) (pv' 0) zi) zj)))),?lam1⟩) (fun _ _ _ _ _=>rfl) (hr.mono (by decide)) z_sorted (zc (pv' 2) zj) rfl rfl (znF rfl))))))))),?_⟩)
 case lam1 =>
  obtain ⟨x,o,k,rfl,⟨r,ls,j,rfl,rfl,hj,hn,rfl⟩,q⟩:=h
  simp [zbb,zbc,za7,za9,zS,zaT,tC',zbB,zcA,tB',zbe,zbn,zc6,zaC,zbH,zaw,zdy,za5,zal,zba,zbh,zc1,zc7,zc5,zbf,zc8,zE,zbl,zbq,zar,zaD,zad,zae,zc0,zac,zax,zbi,zah,zbm,zao,zau,za8,zaU,zc2,zaj,zbd,zaA,zbg,zbr,zat,zbs,zbE,za6,zai,zbC,zan,zbA,zU,zbF,zbI,zbw,zbz,zak,zdm,zbk,zF,zav,zI,zbj,zL,tBr,brN,zam,zag,zT,zas,zM,zby,zaB,zdn,zbx,zaz,zbB,zK,zH,zJ,zay,zds]
  exact ⟨ls,rfl,j,hj,hn,small (by decide),q⟩
 ·obtain ⟨as,zt,rfl,_⟩:=h
  rfl
 obtain ⟨as,zt,rfl,ok,q⟩:=h; have h15:=ok.len; simp [zbb,zbc,za7,za9,zS,zaT,tC',zbB,zcA,tB',zbe,zbn,zc6,zaC,zbH,zaw,zdy,za5,zal,zba,zbh,zc1,zc7,zc5,zbf,zc8,zE,zbl,zbq,zar,zaD,zad,zae,zc0,zac,zax,zbi,zah,zbm,zao,zau,za8,zaU,zc2,zaj,zbd,zaA,zbg,zbr,zat,zbs,zbE,za6,zai,zbC,zan,zbA,zU,zbF,zbI,zbw,zbz,zak,zdm,zbk,zF,zav,zI,zbj,zL,tBr,brN,zam,zag,zT,zas,zM,zby,zaB,zdn,zbx,zaz,zbB,zK,zH,zJ,zay]
 refine ⟨as,zt,rfl,by omega,_,rfl,?_⟩
 have hcl:=zcF (liv zt as) []; have hfew:=zlJ (zt:=zt) ok; have hla:=ztO zt as; unfold cnR at q; rw [hla] at hcl hfew q
 have hpre:∀ i,zb8 (((zfG zt as).take i).map zd2)<=zb8 ((zfG zt as).map zd2):=fun i=>by
  unfold zb8
  conv=>rhs; rw [<- List.take_append_drop i (zfG zt as)]
  rw [YI,YI,List.sum_append]; omega
 refine zcD (fun i Γ=>∃ s3 s4 s5 s6 s7 s8 s9:Slot,Γ=[Slot.val (D.lst (List.map zbU as)),Slot.val (D.int zt),Slot.own (OD.lst ((zbt [] (((zfG zt as).take i).map zd2)).map zds)),s3,s4,s5,s6,s7,s8,s9,Slot.emp]) ⟨_,_,_,_,_,_,_,rfl⟩ ?_ ?_
 ·rintro i d Γ he ⟨s3,s4,s5,s6,s7,s8,s9,rfl⟩
  rw [yE] at he; obtain ⟨a,ha,rfl⟩:=yJ.mp he; have ho:=zpk ok ha; have hb:=zcF (((zfG zt as).take i).map zd2) []; have hb2:=hpre (i+1); rw [zaZ ha,YI] at hb2 ⊢
  rw [show [a].map zd2=[zd2 a] from rfl] at hb2 ⊢
  rw [zft]
  have ht2:zb8 (((zfG zt as).take i).map zd2 ++ [zd2 a])=zb8 (((zfG zt as).take i).map zd2)+a.2.length:=by simp [zb8,zd2]
  rw [ht2] at hb2
  have hrs:=zeB (Pc:=zfx) (Ps:=zqb) (((zfG zt as).take i).map zd2) [] (fun _ z=>nomatch z) fun b hb d hd=>by
   obtain ⟨y,hy,rfl⟩:=yq.mp hb; obtain ⟨l,hl,e⟩:=yp ((zdw zt as).subset ((List.take_sublist _ _).subset hy))
   exact ((ok.at_ l y (by rw [yB hl,e])).2.2.2.2.2 d hd).1
  generalize zbt [] (((zfG zt as).take i).map zd2)=rs at hb ho hrs; simp only [Yu,Nat.zero_add] at hb; simp [zbb,zbc,za7,za9,zS,zaT,tC',zbB,zcA,tB',zbe,zbn,zc6,zaC,zbH,zaw,zdy,za5,zal,zba,zbh,zc1,zc7,zc5,zbf,zc8,zE,zbl,zbq,zar,zaD,zad,zae,zc0,zac,zax,zbi,zah,zbm,zao,zau,za8,zaU,zc2,zaj,zbd,zaA,zbg,zbr,zat,zbs,zbE,za6,zai,zbC,zan,zbA,zU,zbF,zbI,zbw,zbz,zak,zdm,zbk,zF,zav,zI,zbj,zL,tBr,brN,zam,zag,zT,zas,zM,zby,zaB,zdn,zbx,zaz,zbB,zK,zH,zJ,zay,zbU]; refine ⟨_,_,⟨rfl,rfl⟩,rfl,?_⟩; simp
  refine ⟨by omega,?_⟩
  have ha3:a.2.length<=3/\∀ d,d ∈ a.2->zfy zfx zqb d:=by
   obtain ⟨l,hl,e⟩:=yp ((zdw zt as).subset (yW ha))
   have:=ok.at_ l a (by rw [yB hl,e])
   exact ⟨this.2.2.2.2.1,fun d hd=>(this.2.2.2.2.2 d hd).1⟩
  refine zcD (fun j Γ=>∃ s7 s8 s9:Slot,Γ=[Slot.val (D.lst (List.map zbU as)),Slot.val (D.int zt),Slot.own (OD.lst ((zZ a.1.nm a.1.day rs 0 (a.2.take j)).map zds)),Slot.val (D.str a.1.nm),Slot.val (D.int a.1.day),Slot.val (zhN a.1.oth),Slot.val (D.lst (List.map deD a.2)),s7,s8,s9,Slot.emp]) ⟨_,_,_,rfl⟩ ?_ ?_
  ·rintro j d Γ he ⟨s7,s8,s9,rfl⟩
   rw [yE] at he; obtain ⟨k,hk,rfl⟩:=yJ.mp he; obtain ⟨hj,e⟩:=yD.mp hk; rw [List.getElem_range] at e; subst e; rw [yi] at hj
   obtain ⟨x,hx⟩:∃ x,a.2[j]?=some x:=⟨_,yB hj⟩
   have hxa:=ha3.2 x (yW hx); have hb3:=zco a.1.nm a.1.day (a.2.take j) rs 0; have ho2:=zc3 (made:=a.1.day) (a.2.take j) rs 0 ho
   have hr2:=zc4 (nm:=a.1.nm) (made:=a.1.day) (a.2.take j) rs 0 hrs fun d hd=>ha3.2 d ((List.take_sublist _ _).subset hd)
   have hlen:(a.2.take j).length=j:=by rw [ye]; omega
   rw [hlen,Nat.zero_add] at ho2; rw [hlen] at hb3; rw [zaZ hx,zcH,hlen,Nat.zero_add,<- zgG x ho2]; generalize zZ a.1.nm a.1.day rs 0 (a.2.take j)=rs2 at hb3 ho2 hr2
   have ax:atI (List.map deD a.2) ((j:Nat):Int)=some (deD x):=zbu (by rw [yE,hx]; rfl)
   have o1:1<=sizeLine:=small (by decide)
   have o5:5<=sizeLine:=small (by decide)
   have osz:rs2.length<sizeLine:=zap (by omega)
   have fnd:∀ (n:List Nat) (i:Int) (R:Res->Prop),R (.val (ixD (fix rs2 n i a.1.day)))->zb6 [D.lst (List.map zds rs2),.str n,.int i,.int a.1.day] R:=fun n i R h=>⟨rs2,n,i,a.1.day,rfl,by omega,h⟩
   have rowk:∀ {k:Nat} {r:Row},rs2[k]?=some r->ixN rs2.length (k:Int)=some k/\((∀ dd:Int,Imm (.tup [.int dd,.str r.nm,.int r.num,r.c,r.s]))/\∀ c:D,zfx c->Imm (.tup [.int r.day,.str r.nm,.int r.num,c,r.s]))/\atI (rs2.map zds) (k:Int)=some (.tup [.int r.day,.str r.nm,.int r.num,r.c,r.s]):=fun {k r} h=>by
    have hk:=(yD.mp h).1; have hra:=hr2 r (yW h)
    refine ⟨by unfold ixN; simp [hk],⟨fun dd=>zf9 _ _ _ hra.1 hra.2,fun c hc=>zf9 _ _ _ hc hra.2⟩,zoI h⟩
   have c1:∀ a b c d e:D,ze2 [a,b,c,d,e] (some 1) none=[b,c,d,e]:=fun _ _ _ _ _=>rfl
   have c3:∀ a b c d e:D,ze2 [a,b,c,d,e] none (some 3)=[a,b,c]:=fun _ _ _ _ _=>rfl
   simp [zbb,zbc,za7,za9,zS,zaT,tC',zbB,zcA,tB',zbe,zbn,zc6,zaC,zbH,zaw,zdy,za5,zal,zba,zbh,zc1,zc7,zc5,zbf,zc8,zE,zbl,zbq,zar,zaD,zad,zae,zc0,zac,zax,zbi,zah,zbm,zao,zau,za8,zaU,zc2,zaj,zbd,zaA,zbg,zbr,zat,zbs,zbE,za6,zai,zbC,zan,zbA,zU,zbF,zbI,zbw,zbz,zak,zdm,zbk,zF,zav,zI,zbj,zL,tBr,brN,zam,zag,zT,zas,zM,zby,zaB,zdn,zbx,zaz,zbB,zK,zH,zJ,zay,ax]
   cases x with
   | ch dd c s' =>
    simp [deD,zsL,zgI,zds,o5,osz]
   | lat n i dd =>
    simp [deD,zqg]; refine fnd n i _ ?_
    cases e:fix rs2 n i a.1.day with
    | none=>simp [ixD,Res.toD,zgS,zgI,upL,e,Imm.non]
    | some k =>
     obtain ⟨r,hr'⟩:=zls e; obtain ⟨iK,im,at4⟩:=rowk hr'
     have st:=zkr rs2 k (fun r=>{ r with day:=dd }) hr'
     simp [ixD,Res.toD,zgS,zgI,upL,e,Imm.int,iK,at4,c1,o1]; exact .inr ⟨_,_,rfl,rfl,o5,im.1 dd,st⟩
   | ins n i c =>
    simp [deD,zqh]; refine fnd n i _ ?_
    cases e:fix rs2 n i a.1.day with
    | none=>simp [ixD,Res.toD,zgS,zgI,upL,e,Imm.non]
    | some k =>
     obtain ⟨r,hr'⟩:=zls e; obtain ⟨iK,im,at4⟩:=rowk hr'
     have st:=zkr rs2 k (fun r=>{ r with c:=c }) hr'
     simp [ixD,Res.toD,zgS,zgI,upL,e,Imm.int,iK,at4,c3,o1]
     exact ⟨r.s,show atI _ ((4:Nat):Int)=_ from zbu rfl,small (by decide),.inr ⟨_,_,rfl,rfl,o5,im.2 c hxa,st⟩⟩
   | drp n i =>
    simp [deD,zqi]; refine fnd n i _ ?_
    cases e:fix rs2 n i a.1.day with
    | none=>simp [ixD,Res.toD,zgS,zgI,upL,e,Imm.non]
    | some k =>
     obtain ⟨r,hr'⟩:=zls e; obtain ⟨iK,im,at4⟩:=rowk hr'; simp [ixD,Res.toD,zgS,zgI,upL,e,Imm.int]
     rw [zp4,show ((k:Int)+1)=((k+1:Nat):Int) by omega,zlH]
     refine ⟨_,_,rfl,rfl,?_,?_,?_⟩
     ·rw [ye,Yp,yF]
      omega
     ·intro d hd
      rw [<- List.map_take,<- List.map_drop,<- YI,zhp] at hd; obtain ⟨y,hy,rfl⟩:=yq.mp hd; have hya:=hr2 y ((List.eraseIdx_sublist _ _).subset hy); exact zf9 _ _ _ hya.1 hya.2
     ·rw [<- List.map_take,<- List.map_drop,<- YI,zhp]
  ·rintro Γ ⟨s7,s8,s9,rfl⟩
   rw [show (List.map (fun k=>D.int (k:Nat)) (List.range a.2.length)).length=a.2.length by simp,take_all]
   exact ⟨_,_,_,_,_,_,_,rfl⟩
 ·rintro Γ ⟨s3,s4,s5,s6,s7,s8,s9,rfl⟩
  rw [yF,take_all]; have ho:=zpl ok zt
  have hrs:=zeB (Pc:=zfx) (Ps:=zqb) ((zfG zt as).map zd2) [] (fun _ z=>nomatch z) fun b hb d hd=>by
   obtain ⟨y,hy,rfl⟩:=yq.mp hb; obtain ⟨l,hl,e⟩:=yp ((zdw zt as).subset hy)
   exact ((ok.at_ l y (by rw [yB hl,e])).2.2.2.2.2 d hd).1
  have hnm:=zfV (ns:=nms as) ((zfG zt as).map zd2) [] (fun _ z=>nomatch z) fun b hb=>by
   obtain ⟨y,hy,rfl⟩:=yq.mp hb; exact List.mem_map_of_mem ((zdw zt as).subset hy)
  generalize zbt [] ((zfG zt as).map zd2)=rs at q hcl ho hrs hnm; simp only [Yu,Nat.zero_add] at hcl; simp [zbb,zbc,za7,za9,zS,zaT,tC',zbB,zcA,tB',zbe,zbn,zc6,zaC,zbH,zaw,zdy,za5,zal,zba,zbh,zc1,zc7,zc5,zbf,zc8,zE,zbl,zbq,zar,zaD,zad,zae,zc0,zac,zax,zbi,zah,zbm,zao,zau,za8,zaU,zc2,zaj,zbd,zaA,zbg,zbr,zat,zbs,zbE,za6,zai,zbC,zan,zbA,zU,zbF,zbI,zbw,zbz,zak,zdm,zbk,zF,zav,zI,zbj,zL,tBr,brN,zam,zag,zT,zas,zM,zby,zaB,zdn,zbx,zaz,zbB,zK,zH,zJ,zay]
  refine ⟨small (by omega),?_⟩
  refine zcz (fun i acc Γ=>∃ (s0:Slot),acc=(nms (as.take i)).map .str/\Γ=[s0]) ⟨_,rfl,rfl⟩ ?_ ?_
  ·rintro i d acc Γ he ⟨s0,rfl,rfl⟩
   rw [yE] at he; obtain ⟨a,ha,rfl⟩:=yJ.mp he; rw [zaZ ha]; simp [zbb,zbc,za7,za9,zS,zaT,tC',zbB,zcA,tB',zbe,zbn,zc6,zaC,zbH,zaw,zdy,za5,zal,zba,zbh,zc1,zc7,zc5,zbf,zc8,zE,zbl,zbq,zar,zaD,zad,zae,zc0,zac,zax,zbi,zah,zbm,zao,zau,za8,zaU,zc2,zaj,zbd,zaA,zbg,zbr,zat,zbs,zbE,za6,zai,zbC,zan,zbA,zU,zbF,zbI,zbw,zbz,zak,zdm,zbk,zF,zav,zI,zbj,zL,tBr,brN,zam,zag,zT,zas,zM,zby,zaB,zdn,zbx,zaz,zbB,zK,zH,zJ,zay,vo,voS,zbU,nms]
  ·rintro acc Γ ⟨s0,rfl,rfl⟩
   rw [yF,take_all]
   have ed:zdJ (ltT (rs.map fun r=>(r.day,((ixA as r.nm:Nat):Int),r.num))) (rs.map zds)=(zlV rs).map zds:=by
    rw [zkp ho]; unfold wcD; exact zhR zds rs
   refine ⟨by omega,rs.map fun r=>(r.day,((ixA as r.nm:Nat):Int),r.num),by simp,fun j x p1 p2 p3 r h1 h2 h3=>?_,?_,?_⟩
   ·rw [yE,h1] at h3
    cases h3; subst h2; have hg:=zoh (as:=as) (hnm r (yW h1)); exact ⟨r,nms as,ixA as r.nm,rfl,rfl,hg.1,hg.2,rfl⟩
   ·rw [ed]
    intro d hd; obtain ⟨r,hr',rfl⟩:=yq.mp hd; have hra:=hrs r (zkg hr'); exact zf9 _ _ _ hra.1 hra.2
   ·rw [ed]
    exact q
end
def za3 (T:Cs):Sp':=fun ds Q=>∃ (k:Int) (s:List Nat),ds=[mkK T k s,.tup [.int k,.str s]]/\s.length<=100/\Q (.val (.bl true))
instance {T:Cs}:MSp (za3 T):=⟨fun _ _ _ h ⟨k,s,e,a,q⟩=>⟨k,s,e,a,h _ q⟩⟩
def zcr:Sp':=fun ds Q=>∃ i:Int,ds=[.int i]/\Q (.val (.bl true))
instance:MSp zcr:=⟨fun _ _ _ h ⟨i,e,q⟩=>⟨i,e,h _ q⟩⟩
def zb5 (T:Cs):Sp':=fun ds Q=>∃ (as:List Act) (zt:Int),ds=[bkD T t0D (as.map (hA T)),.lst (as.map zbU),.int zt]/\ActsOk as/\Q (.val (.bl true))
instance {T:Cs}:MSp (zb5 T):=⟨fun _ _ _ h ⟨as,zt,e,a,q⟩=>⟨as,zt,e,a,h _ q⟩⟩
theorem zkt (m:Nat):eqD (m+1) (.tup []) (.tup [])=some true:=zeT fun d z=>nomatch z
theorem zhY (m:Nat) (l:List Nat):eqD (m+2) (.tup [.str l]) (.tup [.str l])=some true:=zeT fun d hd=>by rw [yj.mp hd]; exact zf4 _ _
theorem zoG (m:Nat) (l:List Nat):eqD (m+2) (.tup [.str l,.tup [],.tup []]) (.tup [.str l,.tup [],.tup []])=some true:=zeT fun d hd=>by
 simp only [yO,yd,or_false] at hd
 rcases hd with rfl | rfl | rfl
 ·exact zf4 _ _
 ·exact zkt _
 ·exact zkt _
section
variable {P:Program} {w:World} {K:W.Frag} {mg:Str->Option Value} {base:Heap} {T:Cs}
theorem zrU {C C':Addr} {fs:List (Str × D)} {b:Bool} {Q:D->Prop} (i:InsT K C) (k:W.kitOne K (.ref C) (.ref C')=some b):zfC K [.obj C fs,.cls C'] Q↔Q (.bl b):=by
 simp only [zkB,k]
 exact ⟨fun ⟨_,b,e,q⟩=>by cases e; exact q,fun q=>⟨i,_,rfl,q⟩⟩
theorem zd4:FnScope ["_law_found_here","_law_kind_here"] ["_law_found_here","_law_kind_here"] (zm zbW):=sc0
theorem zec (d:Df K mg "_law_same_change" zbW ["_law_found_here","_law_kind_here"]) (cf:CF K T) (z_isinstance:mg "isinstance"=none) (m_Anew:mg "Anew"=some (.ref T.Anew)) (m_LeaveOut:mg "LeaveOut"=some (.ref T.LeaveOut)) (m_PutIn:mg "PutIn"=some (.ref T.PutIn)) (m_Read:mg "Read"=some (.ref T.Read)) (m_Swap:mg "Swap"=some (.ref T.Swap)):Fn P w K mg base 1 "_law_same_change" ["_law_found_here","_law_kind_here"] (za3 T):=by
 refine d.ok zd4 (fun ds Q h=>?_) (fun f cdv A outer s H E hr ds Q h=>⟨_,(zk (zQ (zx (zbJ (za0 hr)) (zp (i_A (zq hr)) (pv' 1) zi) zi) (zl (zD (zcl (zO (zdF K rfl) z_isinstance yg (zc (pv' 0) (zc (zfa m_Read) zj))) (zcl (zca (zbJ (za0 hr)) (zbD (pv' 0)) (zu zj)) (zcU (zca (zbJ (za0 hr)) (zbD (pv' 0)) (zu (zc (zv zbT (zaF [119]) (zp (i_A (zq hr)) (pv' 1) zi)) zj)))))))) zA)
  (zk (zQ (zx (zbJ (za0 hr)) (zp (i_A (zq hr)) (pv' 1) zi) zi) (zk (zQ (PW'.pt (ze8 (zcS (zcw (zO (zdF K rfl) z_isinstance yg (zc (pv' 0) (zc (zfa m_Swap) zj))))) (ze7 (zx (zjD (za0 hr)) (zbD (pv' 0)) (zu zj))))) (zl (zD zeb)) zA)
  (zl (zD (zcl (zca (zbJ (za0 hr)) (zbD (pv' 0)) (zu (zc (zv zbT (zaF [119]) (zp (i_A (zq hr)) (pv' 1) zi)) zj))) (zcU (zca (zbJ (za0 hr)) (zbD (pv' 0)) (zu (zc (zaF [120]) zj)))))))) zA)
  (zk (zQ (zx (zbJ (za0 hr)) (zp (i_A (zq hr)) (pv' 1) zi) zi) (zl (zD (zcl (zO (zdF K rfl) z_isinstance yg (zc (pv' 0) (zc (zfa m_PutIn) zj))) (zcl (zca (zbJ (za0 hr)) (zbD (pv' 0)) (zu zj)) (zcU (zca (zbJ (za0 hr)) (zbD (pv' 0)) (zu (zc (zp (i_A (zq hr)) (pv' 1) zi) (zc (zu zj) (zc (zu zj) zj)))))))))) zA)
  (zk (zQ (zx (zbJ (za0 hr)) (zp (i_A (zq hr)) (pv' 1) zi) zi) (zl (zD (zcl (zO (zdF K rfl) z_isinstance yg (zc (pv' 0) (zc (zfa m_LeaveOut) zj))) (zcU (zca (zbJ (za0 hr)) (zbD (pv' 0)) (zu (zc (zp (i_A (zq hr)) (pv' 1) zi) zj))))))) zA)
  (zl (zD (zcl (zO (zdF K rfl) z_isinstance yg (zc (pv' 0) (zc (zfa m_Anew) zj))) (zcU (zca (zbJ (za0 hr)) (zbD (pv' 0)) (zu (zc (zp (i_A (zq hr)) (pv' 1) zi) zj))))))))))),?_⟩)
 ·obtain ⟨k,s,rfl,_⟩:=h
  rfl
 obtain ⟨k,l,rfl,hl,q⟩:=h
 have o1:1<=sizeLine:=small (by decide)
 have o3:3<=sizeLine:=small (by decide)
 have ol:1+l.length<=sizeLine:=small (by omega)
 have hk:(k=0/\mkK T k l=.obj T.Read [("place",.tup []),("words",.tup [.str (119 :: l)])])\/(k≠0/\k=1/\mkK T k l=.obj T.Swap [("place",.tup []),("old",.tup [.str (119 :: l)]),("new",.tup [.str [120]])])
   \/ (k≠0/\k≠1/\k=2/\mkK T k l=.obj T.PutIn [("place",.tup []),("node",.tup [.str l,.tup [],.tup []])])\/(k≠0/\k≠1/\k≠2/\k=3/\mkK T k l=.obj T.LeaveOut [("place",.tup [.str l])])\/(k≠0/\k≠1/\k≠2/\k≠3/\mkK T k l=.obj T.Anew [("place",.tup [.str l])]):=by
  unfold mkK
  by_cases e0:k=0
  ·exact .inl ⟨e0,yN e0⟩
  ·rw [yK e0]
   by_cases e1:k=1
   ·exact .inr (.inl ⟨e0,e1,yN e1⟩)
   ·rw [yK e1]
    by_cases e2:k=2
    ·exact .inr (.inr (.inl ⟨e0,e1,e2,yN e2⟩))
    ·rw [yK e2]
     by_cases e3:k=3
     ·exact .inr (.inr (.inr (.inl ⟨e0,e1,e2,e3,yN e3⟩)))
     ·exact .inr (.inr (.inr (.inr ⟨e0,e1,e2,e3,yK e3⟩)))
 generalize mkK T k l=o at hk; simp [zbb,zbc,za7,za9,zS,zaT,tC',zbB,zcA,tB',zbe,zbn,zc6,zaC,zbH,zaw,zdy,za5,zal,zba,zbh,zc1,zc7,zc5,zbf,zc8,zE,zbl,zbq,zar,zaD,zad,zae,zc0,zac,zax,zbi,zah,zbm,zao,zau,za8,zaU,zc2,zaj,zbd,zaA,zbg,zbr,zat,zbs,zbE,za6,zai,zbC,zan,zbA,zU,zbF,zbI,zbw,zbz,zak,zdm,zbk,zF,zav,zI,zbj,zL,tBr,brN,zam,zag,zT,zas,zM,zby,zaB,zdn,zbx,zaz,zbB,zK,zH,zJ,zay]
 rcases hk with ⟨e0,rfl⟩ | ⟨e0,e1,rfl⟩ | ⟨e0,e1,e2,rfl⟩ | ⟨e0,e1,e2,e3,rfl⟩ | ⟨e0,e1,e2,e3,rfl⟩
 ·refine .inr ⟨e0,?_⟩
  simp [zrU cf.iR cf.kRR]; exact ⟨cf.iR.cl,cf.nRp,cf.iR.cl,cf.nRw,_,rfl,ol,o1,true,zhY 98 _,q⟩
 ·refine .inl ⟨e0,.inr ⟨e1,?_⟩⟩
  simp [zrU cf.iS cf.kSS]; exact ⟨cf.iS.cl,cf.nSp,cf.iS.cl,cf.nSo,_,rfl,ol,o1,true,zhY 98 _,.inr ⟨rfl,cf.iS.cl,cf.nSn,_,rfl,o1,true,zhY 98 _,q⟩⟩
 ·refine .inl ⟨e0,.inl ⟨e1,.inr ⟨e2,?_⟩⟩⟩
  simp [zrU cf.iP cf.kPP]; exact ⟨cf.iP.cl,cf.nPp,cf.iP.cl,cf.nPn,_,rfl,o3,true,zoG 98 _,q⟩
 ·refine .inl ⟨e0,.inl ⟨e1,.inl ⟨e2,.inr ⟨e3,?_⟩⟩⟩⟩
  simp [zrU cf.iL cf.kLL]; exact ⟨cf.iL.cl,cf.nLp,o1,q⟩
 ·refine .inl ⟨e0,.inl ⟨e1,.inl ⟨e2,.inl ⟨e3,?_⟩⟩⟩⟩
  simp [zrU cf.iA cf.kAA]; exact ⟨cf.iA.cl,cf.nAp,o1,q⟩
theorem zgN:FnScope ["_law_found_here"] ["_law_found_here"] (zm zdL):=sc0
theorem zg3 (d:Df K mg "_law_whole" zdL ["_law_found_here"]) (z_bool:mg "bool"=none) (z_int:mg "int"=none) (z_isinstance:mg "isinstance"=none):Fn P w K mg base 1 "_law_whole" ["_law_found_here"] zcr:=by
 refine d.ok zgN (fun ds Q h=>?_) (fun f cdv A outer s H E hr ds Q h=>⟨_,(zl (zD (zcl (zO (zdF K rfl) z_isinstance yg (zc (pv' 0) (zc (zgW z_int PyProof.Rows.boot_int) zj))) (zcU (zo9 (zO (zdF K rfl) z_isinstance yg (zc (pv' 0) (zc (zgW z_bool PyProof.Rows.boot_bool) zj)))))))),?_⟩)
 ·obtain ⟨i,rfl,_⟩:=h
  rfl
 obtain ⟨i,rfl,q⟩:=h; simp [rds]; exact q
theorem zb7:FnScope ["_law_book","_law_acts_here","_law_seen","_law_found_here","_law_due","_law_one","_law_row"] ["_law_book","_law_acts_here","_law_seen"] (zm zdM):=sc0
theorem zg4 (d:Df K mg "_law_right" zdM ["_law_book","_law_acts_here","_law_seen"]) (cf:CF K T) (G_what_counts:Fn P w K mg base 4 "what_counts" ["book","seen"] (za1 T)) (G_law_counts:Fn P w K mg base 4 "_law_counts" ["_law_acts_here","_law_seen"] zcL) (G_law_same_change:Fn P w K mg base 1 "_law_same_change" ["_law_found_here","_law_kind_here"] (za3 T)) (G_law_whole:Fn P w K mg base 1 "_law_whole" ["_law_found_here"] zcr) (z_isinstance:mg "isinstance"=none) (z_len:mg "len"=none) (z_list:mg "list"=none) (z_tuple:mg "tuple"=none) (z_zip:mg "zip"=none):Fn P w K mg base 5 "_law_right" ["_law_book","_law_acts_here","_law_seen"] (zb5 T):=by
 refine d.ok zb7 (fun ds Q h=>?_) (fun f cdv A outer s H E hr ds Q h=>⟨_,(zk (zaq 3 zb7.nd (zbS G_what_counts (hr.mono (by decide)) (zc (pv' 0) (zc (pv' 2) zj))))
  (zk (zaq 4 zb7.nd (zbS G_law_counts (hr.mono (by decide)) (zc (pv' 1) (zc (pv' 2) zj))))
  (zk (zQ (PW'.pt (ze8 (zcS (zcw (zO (zdF K rfl) z_isinstance yg (zc (pv' 3) (zc (zgW z_list PyProof.Rows.boot_list) zj))))) (ze7 (zx (zjD (za0 hr)) (zO zdE z_len YV (zc (pv' 3) zj)) (zO zdE z_len YV (zc (pv' 4) zj)))))) (zl (zD zeb)) zA)
  (zk (zbQ (zo4 z_zip (zc (pv' 3) (zc (pv' 4) zj))) (zdS (n:=2) (zN (zw 5 zb7.nd) (zN (zw 6 zb7.nd) zcT)))
   (zk (zQ (PW'.pt (ze8 (zcS (zcw (zO (zdF K rfl) z_isinstance yg (zc (pv' 5) (zc (zgW z_tuple PyProof.Rows.boot_tuple) zj))))) (ze8 (zx (zjD (za0 hr)) (zO zdE z_len YV (zc (pv' 5) zj)) zi) (ze8 (zcS (zcw (zbS G_law_whole (hr.mono (by decide)) (zc (zp (i_A (zq hr)) (pv' 5) zi) zj)))) (ze7 (zcS (zcw (zbS G_law_whole (hr.mono (by decide)) (zc (zp (i_A (zq hr)) (pv' 5) zi) zj))))))))) (zl (zD zeb)) zA)
  (zk (zQ (PW'.pt (ze8 (zx (zjD (za0 hr)) (ze9 s_A (pv' 5) zjy (zgY zi)) (ze9 s_A (pv' 6) zjy (zgY zi))) (ze7 (zx (zjD (za0 hr)) (zp (i_A (zq hr)) (pv' 5) zi) (zp (i_A (zq hr)) (pv' 6) zi))))) (zl (zD zeb)) zA)
  (zl (zQ (zcS (zcw (zbS G_law_same_change (hr.mono (by decide)) (zc (zp (i_A (zq hr)) (pv' 5) zi) (zc (zp (i_A (zq hr)) (pv' 6) zi) zj))))) (zl (zD zeb)) zA)))))
  (zl (zD zeb)))))),?_⟩)
 ·obtain ⟨as,zt,rfl,_⟩:=h
  rfl
 obtain ⟨as,zt,rfl,ok,q⟩:=h; have h15:=ok.len
 have wc:∀ (R:Res->Prop),R (.own (.lst ((cnR zt as).map fun r=>zds (r.mapC (mkC T)))))->za1 T [bkD T t0D (as.map (hA T)),.int zt] R:=fun R h=>⟨t0D,_,zt,rfl,by rw [yF]; omega,zlI ok,by rw [zqm]; exact h⟩
 simp [zbb,zbc,za7,za9,zS,zaT,tC',zbB,zcA,tB',zbe,zbn,zc6,zaC,zbH,zaw,zdy,za5,zal,zba,zbh,zc1,zc7,zc5,zbf,zc8,zE,zbl,zbq,zar,zaD,zad,zae,zc0,zac,zax,zbi,zah,zbm,zao,zau,za8,zaU,zc2,zaj,zbd,zaA,zbg,zbr,zat,zbs,zbE,za6,zai,zbC,zan,zbA,zU,zbF,zbI,zbw,zbz,zak,zdm,zbk,zF,zav,zI,zbj,zL,tBr,brN,zam,zag,zT,zas,zM,zby,zaB,zdn,zbx,zaz,zbB,zK,zH,zJ,zay]; refine wc _ ⟨as,zt,rfl,ok,?_⟩; have hall:=zr7 (zt:=zt) ok; have hlen:=zoo (zt:=zt) ok; generalize cnR zt as=rs at hall hlen; simp [OD.toD,Res.toD]
 refine zcD (fun i Γ=>∃ s5 s6:Slot,Γ=[Slot.val (bkD T t0D (List.map (hA T) as)),Slot.val (D.lst (List.map zbU as)),Slot.val (D.int zt),Slot.val (D.lst (List.map (fun r=>zds (Row.mapC (mkC T) r)) rs)),Slot.val (D.lst (List.map zds rs)),s5,s6]) ⟨_,_,rfl⟩ ?_ ?_
 ·rintro i d Γ he ⟨s5,s6,rfl⟩
  rw [yE] at he; obtain ⟨p,hp,rfl⟩:=yJ.mp he
  obtain ⟨r,hr',rfl⟩:∃ r,rs[i]?=some r/\p=(zds (Row.mapC (mkC T) r),zds r):=by
   rw [List.getElem?_zip_eq_some,yE,yE] at hp; obtain ⟨h1,h2⟩:=hp; obtain ⟨r,e1,e2⟩:=yJ.mp h1; rw [e1] at h2; exact ⟨r,e1,Prod.ext e2.symm (Option.some.inj h2).symm⟩
  obtain ⟨⟨k,l,ec,hl⟩,hs⟩:=hall r (yW hr')
  have c3:∀ a b c d e:D,ze2 [a,b,c,d,e] none (some 3)=[a,b,c]:=fun _ _ _ _ _=>rfl
  simp [zbb,zbc,za7,za9,zS,zaT,tC',zbB,zcA,tB',zbe,zbn,zc6,zaC,zbH,zaw,zdy,za5,zal,zba,zbh,zc1,zc7,zc5,zbf,zc8,zE,zbl,zbq,zar,zaD,zad,zae,zc0,zac,zax,zbi,zah,zbm,zao,zau,za8,zaU,zc2,zaj,zbd,zaA,zbg,zbr,zat,zbs,zbE,za6,zai,zbC,zan,zbA,zU,zbF,zbI,zbw,zbz,zak,zdm,zbk,zF,zav,zI,zbj,zL,tBr,brN,zam,zag,zT,zas,zM,zby,zaB,zdn,zbx,zaz,zbB,zK,zH,zJ,zay,zds,Row.mapC,ec,c3]; refine ⟨_,_,⟨rfl,rfl⟩,rfl,⟨_,rfl,.inr ⟨rfl,⟨_,rfl,.inr ⟨rfl,?_⟩⟩⟩⟩⟩
  have e3:eqD 100 (D.tup [D.int r.day,D.str r.nm,D.int r.num]) (D.tup [D.int r.day,D.str r.nm,D.int r.num])=some true:=zeT fun d hd=>by
   simp only [yO,yd,or_false] at hd
   rcases hd with rfl | rfl | rfl
   ·exact zf5 _ _
   ·exact zf4 _ _
   ·exact zf5 _ _
  have es:eqD 100 r.s r.s=some true:=by
   rcases hs with e | ⟨i,e⟩
   ·rw [e]; exact zmm _
   ·rw [e]; exact zf5 _ _
  have a4:∀ a b c d e:D,atI [a,b,c,d,e] 4=some e:=fun _ _ _ _ _=>rfl
  simp [c3,a4]; refine ⟨true,e3,.inl ⟨rfl,true,es,.inl ⟨rfl,k,l,rfl,hl,.inr rfl⟩⟩⟩
 ·rintro Γ ⟨s5,s6,rfl⟩
  simp [zbb,zbc,za7,za9,zS,zaT,tC',zbB,zcA,tB',zbe,zbn,zc6,zaC,zbH,zaw,zdy,za5,zal,zba,zbh,zc1,zc7,zc5,zbf,zc8,zE,zbl,zbq,zar,zaD,zad,zae,zc0,zac,zax,zbi,zah,zbm,zao,zau,za8,zaU,zc2,zaj,zbd,zaA,zbg,zbr,zat,zbs,zbE,za6,zai,zbC,zan,zbA,zU,zbF,zbI,zbw,zbz,zak,zdm,zbk,zF,zav,zI,zbj,zL,tBr,brN,zam,zag,zT,zas,zM,zby,zaB,zdn,zbx,zaz,zbB,zK,zH,zJ,zay]; exact q
end
def znO:Sp':=zjh
section
variable {P:Program} {w:World} {K:W.Frag} {mg:Str->Option Value} {base:Heap} {T:Cs}
theorem zd5:FnScope ["_law_script","_law_names_here","_law_acts_here","_law_book","_law_act","_law_step","_law_told","_law_far"] ["_law_script"] (zm zfA):=sc0
theorem zrw (d:Df K mg "law" zfA ["_law_script"]) (G_what_counts:Fn P w K mg base 4 "what_counts" ["book","seen"] (za1 T)) (G_law_cell_at:Fn P w K mg base 1 "_law_cell_at" ["_law_script","_law_k"] za2) (G_law_names:Fn P w K mg base 1 "_law_names" ["_law_cell"] zda) (G_law_acts:Fn P w K mg base 3 "_law_acts" ["_law_script","_law_names_here"] zdH) (G_law_put:FnB P w K mg base 5 "_law_put" ["_law_book","_law_act"] (zdo T)) (G_law_right:Fn P w K mg base 5 "_law_right" ["_law_book","_law_acts_here","_law_seen"] (zb5 T)) (M_Book:MakB P w K mg base 1 "Book" T.Book "tree" "past"):Fn P w K mg base 6 "law" ["_law_script"] znO:=by
 refine d.ok zd5 (fun ds Q h=>?_) (fun f cdv A outer s H E hr ds Q h=>⟨_,(zk (zaq 1 zd5.nd (zbS G_law_names (hr.mono (by decide)) (zc (zv zcx (zbS G_law_cell_at (hr.mono (by decide)) (zc (pv' 0) (zc zi zj))) (zv zgp zi zi)) zj)))
  (zk (zaq 2 zd5.nd (zbS G_law_acts (hr.mono (by decide)) (zc (pv' 0) (zc (pv' 1) zj))))
  (zk (zq2 3 zd5.nd M_Book (hr.mono (by decide)) (zc (zu (zc (zaF []) (zc (zu zj) (zc (zu zj) zj)))) zj))
  (zk (zbQ (zb3 (pv' 2)) (zw 4 zd5.nd)
   (zl (zd9 (pe_callB 3 G_law_put (hr.mono (by decide)) (zc (pv' 4) zj)))))
  (zk (zbQ (zb3 (pv' 2)) (zw 4 zd5.nd)
   (zl (zbQ (zb3 (zcs (zcC (zc zi (zc zh5 zj))))) (zw 5 zd5.nd)
   (zl (zQ (zgd (zcS (zcw (zbS G_law_right (hr.mono (by decide)) (zc (pv' 3) (zc (pv' 2) (zc (zv zbT (zp (i_A (zq hr)) (pv' 4) zi) (pv' 5)) zj))))))) (zl (zD zeb)) zA)))))
  (zk (zbP 6 zd5.nd (zmA (ztx G_what_counts (hr.mono (by decide)) (zc (pv' 3) (zc (zv zgp zi zi) zj)))))
  (zk (zb2 6 zi)
  (zk (zaq 7 zd5.nd (zv zmV (zv zcx (zbS G_law_cell_at (hr.mono (by decide)) (zc (pv' 0) (zc zi zj))) (zv zg9 zi (zv zgp zi zi))) (zv zgp zi zi)))
  (zl (zD (zdT (zcl (zbS G_law_right (hr.mono (by decide)) (zc (pv' 3) (zc (pv' 2) (zc (pv' 7) zj)))) (zcU (zbS G_law_right (hr.mono (by decide)) (zc (pv' 3) (zc (pv' 2) (zc (zv zgp zi zi) zj))))))))))))))))),?_⟩)
 ·obtain ⟨ns,rfl,_⟩:=h
  rfl
 obtain ⟨cs,rfl,hl,hq⟩:=h; simp [zbb,zbc,za7,za9,zS,zaT,tC',zbB,zcA,tB',zbe,zbn,zc6,zaC,zbH,zaw,zdy,za5,zal,zba,zbh,zc1,zc7,zc5,zbf,zc8,zE,zbl,zbq,zar,zaD,zad,zae,zc0,zac,zax,zbi,zah,zbm,zao,zau,za8,zaU,zc2,zaj,zbd,zaA,zbg,zbr,zat,zbs,zbE,za6,zai,zbC,zan,zbA,zU,zbF,zbI,zbw,zbz,zak,zdm,zbk,zF,zav,zI,zbj,zL,tBr,brN,zam,zag,zT,zas,zM,zby,zaB,zdn,zbx,zaz,zbB,zK,zH,zJ,zay]
 refine ⟨cs,0,rfl,Int.le_refl _,by omega,fun c0=>?_⟩
 refine ⟨by simp [zl5],_,_,rfl,rfl,by show (0:Int)<1000000000000; decide,_,rfl,fun ns hn1 hn2 hn3=>⟨cs,ns,rfl,by omega,hn1,fun as ga=>?_⟩⟩
 have ok:=ga.ok hn2 hn3; have h15:=ok.len
 refine ⟨small (by decide),fun b=>⟨_,rfl,?_⟩⟩
 refine zcD (fun i Γ=>∃ s4:Slot,Γ=[Slot.val (D.lst (List.map D.int cs)),Slot.val (D.lst (ns.map .str)),Slot.val (D.lst (as.map zbU)),Slot.bk (bkF T t0D) b (OD.lst (((as.take i).map (hA T)).map zdz)),s4,Slot.emp,Slot.emp,Slot.emp]) ⟨_,rfl⟩ ?_ ?_
 ·rintro i d Γ he ⟨s4,rfl⟩
  rw [yE] at he; obtain ⟨a,ha,rfl⟩:=yJ.mp he; obtain ⟨a1,a2,a3,a4,a5,a6⟩:=ok.at_ i a ha
  have hn:nms ((as.take i).map (hA T))=nms (as.take i):=by unfold nms; rw [YG]; rfl
  rw [zaZ ha]; simp [zbb,zbc,za7,za9,zS,zaT,tC',zbB,zcA,tB',zbe,zbn,zc6,zaC,zbH,zaw,zdy,za5,zal,zba,zbh,zc1,zc7,zc5,zbf,zc8,zE,zbl,zbq,zar,zaD,zad,zae,zc0,zac,zax,zbi,zah,zbm,zao,zau,za8,zaU,zc2,zaj,zbd,zaA,zbg,zbr,zat,zbs,zbE,za6,zai,zbC,zan,zbA,zU,zbF,zbI,zbw,zbz,zak,zdm,zbk,zF,zav,zI,zbj,zL,tBr,brN,zam,zag,zT,zas,zM,zby,zaB,zdn,zbx,zaz,zbB,zK,zH,zJ,zay]
  refine ⟨t0D,(as.take i).map (hA T),a,rfl,by simp,rfl,⟨by simp; omega,a1,by rw [hn]; exact a2,fun e he'=>?_⟩,a5,by rw [hn]; exact a6,by rw [hn]; exact a4,?_⟩
  ·obtain ⟨y,hy,rfl⟩:=yq.mp he'
   exact a3 y hy
  ·simp
 ·rintro Γ ⟨s4,rfl⟩
  rw [yF,take_all]
  have rt:∀ (zt:Int) (R:Res->Prop),R (.val (.bl true))->zb5 T [bkF T t0D (.lst (as.map (zdz ∘ hA T))),.lst (as.map zbU),.int zt] R:=fun zt R h=>⟨as,zt,by rw [<- YG]; rfl,ok,h⟩
  have wc:∀ (zt:Int) (R:Res->Prop),(∀ rs:List Row,rs.length<64->R (.own (.lst (rs.map zds))))->za1 T [bkF T t0D (.lst (as.map (zdz ∘ hA T))),.int zt] R:=fun zt R h=>⟨t0D,as.map (hA T),zt,by rw [<- YG]; rfl,by rw [yF]; omega,zlI ok,by
   rw [zqm]
   have:=h ((cnR zt as).map (Row.mapC (mkC T))) (by rw [yF]; have:=zoo (zt:=zt) ok; omega)
   rw [YG] at this; exact this⟩
  simp [zbb,zbc,za7,za9,zS,zaT,tC',zbB,zcA,tB',zbe,zbn,zc6,zaC,zbH,zaw,zdy,za5,zal,zba,zbh,zc1,zc7,zc5,zbf,zc8,zE,zbl,zbq,zar,zaD,zad,zae,zc0,zac,zax,zbi,zah,zbm,zao,zau,za8,zaU,zc2,zaj,zbd,zaA,zbg,zbr,zat,zbs,zbE,za6,zai,zbC,zan,zbA,zU,zbF,zbI,zbw,zbz,zak,zdm,zbk,zF,zav,zI,zbj,zL,tBr,brN,zam,zag,zT,zas,zM,zby,zaB,zdn,zbx,zaz,zbB,zK,zH,zJ,zay]
  refine zcD (fun i Γ=>∃ s4 s5:Slot,Γ=[Slot.val (D.lst (List.map D.int cs)),Slot.val (D.lst (ns.map .str)),Slot.val (D.lst (as.map zbU)),Slot.bk (bkF T t0D) b (OD.lst (List.map (zdz ∘ hA T) as)),s4,s5,Slot.emp,Slot.emp]) ⟨_,_,rfl⟩ ?_ ?_
  ·rintro i d Γ he ⟨s4,s5,rfl⟩
   rw [yE] at he; obtain ⟨a,ha,rfl⟩:=yJ.mp he; simp [zbb,zbc,za7,za9,zS,zaT,tC',zbB,zcA,tB',zbe,zbn,zc6,zaC,zbH,zaw,zdy,za5,zal,zba,zbh,zc1,zc7,zc5,zbf,zc8,zE,zbl,zbq,zar,zaD,zad,zae,zc0,zac,zax,zbi,zah,zbm,zao,zau,za8,zaU,zc2,zaj,zbd,zaA,zbg,zbr,zat,zbs,zbE,za6,zai,zbC,zan,zbA,zU,zbF,zbI,zbw,zbz,zak,zdm,zbk,zF,zav,zI,zbj,zL,tBr,brN,zam,zag,zT,zas,zM,zby,zaB,zdn,zbx,zaz,zbB,zK,zH,zJ,zay,zbU,zgE]
   exact ⟨small (by decide),rt _ _ (.inr ⟨rfl,rt _ _ (.inr rfl)⟩)⟩
  ·rintro Γ ⟨s4,s5,rfl⟩
   simp [zbb,zbc,za7,za9,zS,zaT,tC',zbB,zcA,tB',zbe,zbn,zc6,zaC,zbH,zaw,zdy,za5,zal,zba,zbh,zc1,zc7,zc5,zbf,zc8,zE,zbl,zbq,zar,zaD,zad,zae,zc0,zac,zax,zbi,zah,zbm,zao,zau,za8,zaU,zc2,zaj,zbd,zaA,zbg,zbr,zat,zbs,zbE,za6,zai,zbC,zan,zbA,zU,zbF,zbI,zbw,zbz,zak,zdm,zbk,zF,zav,zI,zbj,zL,tBr,brN,zam,zag,zT,zas,zM,zby,zaB,zdn,zbx,zaz,zbB,zK,zH,zJ,zay]
   refine ⟨by simp [zl5],wc _ _ fun rs hrs=>⟨_,rfl,_,rfl,fun d hd=>?_,fun as' e'=>⟨by rw [e',yF]; exact zap (by omega),cs,1,rfl,by decide,by omega,fun c1=>?_⟩⟩⟩
   ·obtain ⟨r,_,rfl⟩:=yq.mp hd
    exact ⟨_,rfl⟩
   ·refine ⟨by simp [zl5],by simp [zj7],_,_,rfl,rfl,by show (0:Int)<2000000000000000000000000000000; decide,by simp [zl5],_,_,rfl,rfl,rt _ _ (.inr ⟨rfl,by simp [zl5],rt _ _ ⟨.bl _,hq⟩⟩)⟩
end
end K33
namespace PL
open PySem L2
theorem ar0 {A B C D E F:Sort _} {p:A->B->C->D->E->F->List Value->Prop} (h:∀ a b c d e f,p a b c d e f []):∀ a b c d e f us,us.length=0->p a b c d e f us:=fun a b c d e f us hl=>match us,hl with | [],_=>h a b c d e f 
theorem ar1 {A B C D E F:Sort _} {p:A->B->C->D->E->F->List Value->Prop} (h:∀ a b c d e f x0,p a b c d e f [x0]):∀ a b c d e f us,us.length=1->p a b c d e f us:=fun a b c d e f us hl=>match us,hl with | [x0],_=>h a b c d e f x0
theorem ar2 {A B C D E F:Sort _} {p:A->B->C->D->E->F->List Value->Prop} (h:∀ a b c d e f x0 x1,p a b c d e f [x0,x1]):∀ a b c d e f us,us.length=2->p a b c d e f us:=fun a b c d e f us hl=>match us,hl with | [x0,x1],_=>h a b c d e f x0 x1
theorem ar3 {A B C D E F:Sort _} {p:A->B->C->D->E->F->List Value->Prop} (h:∀ a b c d e f x0 x1 x2,p a b c d e f [x0,x1,x2]):∀ a b c d e f us,us.length=3->p a b c d e f us:=fun a b c d e f us hl=>match us,hl with | [x0,x1,x2],_=>h a b c d e f x0 x1 x2
theorem ar4 {A B C D E F:Sort _} {p:A->B->C->D->E->F->List Value->Prop} (h:∀ a b c d e f x0 x1 x2 x3,p a b c d e f [x0,x1,x2,x3]):∀ a b c d e f us,us.length=4->p a b c d e f us:=fun a b c d e f us hl=>match us,hl with | [x0,x1,x2,x3],_=>h a b c d e f x0 x1 x2 x3
theorem ar5 {A B C D E F:Sort _} {p:A->B->C->D->E->F->List Value->Prop} (h:∀ a b c d e f x0 x1 x2 x3 x4,p a b c d e f [x0,x1,x2,x3,x4]):∀ a b c d e f us,us.length=5->p a b c d e f us:=fun a b c d e f us hl=>match us,hl with | [x0,x1,x2,x3,x4],_=>h a b c d e f x0 x1 x2 x3 x4
theorem ar6 {A B C D E F:Sort _} {p:A->B->C->D->E->F->List Value->Prop} (h:∀ a b c d e f x0 x1 x2 x3 x4 x5,p a b c d e f [x0,x1,x2,x3,x4,x5]):∀ a b c d e f us,us.length=6->p a b c d e f us:=fun a b c d e f us hl=>match us,hl with | [x0,x1,x2,x3,x4,x5],_=>h a b c d e f x0 x1 x2 x3 x4 x5
def Dn (K:W.Frag) (x:Str) (st:Stmt):Prop:=∃ f fd,Fun K x x st f fd/\W.nsIn K mainGlobals x=some (some (.ref f))
section
variable {K:W.Frag} {x:Str} {st:Stmt}
theorem Dn.mk {f:Addr} {oc:Value} {od an:Option Addr} {osl:Array (Option Value)} {kV doc pm cdv ct:Value} (a:W.nsIn K mainGlobals x=some (some (.ref f))) (l:K.lookup f=some ⟨oc,od,.func (W.fnOf x x (zaS st) (zY st) (zm st) .none kV doc pm an cdv ct),osl⟩) (c:W.codeIn K cdv x=true) (k:W.keepIn K (.ref f)=true):Dn K x st:=⟨f,_,zct l c k,a⟩
theorem Dn.df {h:Heap} {mg:Str->Option Value} (D:Dn K x st) (X:K.In h) (G:h.Ns mainGlobals mg) (ps:List Str) (hb:∀ (kV doc pm:Value) (an:Option Addr) (cdv ct:Value) (us:List Value),us.length=ps.length->bindArgs (W.fnOf x x (zaS st) (zY st) (zm st) .none kV doc pm an cdv ct) ⟨us,[]⟩=pure (ps.zip us)):Df K mg x st ps:=by
 obtain ⟨f,fd,F,a⟩:=D; exact ⟨f,fd,F,F.binds hb,W.mg_of X G a⟩
end
end PL
namespace K33
open PySem L2 Lb PL M34 M33
section
variable {P:Program} {w:World} {K:W.Frag} {mg:Str->Option Value} {base:Heap}
theorem zoE:FnScope ["self","tree"] ["self","tree"] (zm zbZ):=sc0
theorem zlq {f C:Addr} {fd:FuncData} (F:Fun K "__init__" "Book.__init__" zbZ f fd) (cl:Cls K C) (n1:zaG K C "tree") (n2:zaG K C "past"):FnOk P w K mg base CX0 1 f fd ["self","tree"] (zkn C "tree" "past"):=by
 refine F.ok zoE (fun vs H Q E h=>?_) (fun cdv A outer s H vs Q E hr h=>?_)
 ·obtain ⟨a,dx,u,rfl,_⟩:=h
  rfl
 ·obtain ⟨a,dx,u,rfl,ha,k⟩:=h
  refine ⟨_,(zdu (zdh (pv 0) (pv 1) rfl) (zdQ (zdh (pv 0) (znW zgZ) rfl))),?_⟩
  refine ⟨_,rfl,_,rfl,a,C,dx,_,rfl,ha,cl,n1,(by show 0<1000; decide),yb _,fun p hp=>?_⟩
  have hpa:p≠a:=fun z=>by rw [z,zo] at hp; cases hp
  refine ⟨_,rfl,a,C,dx,_,rfl,by rw [zr (fun z=>hpa z.symm)]; exact zo,cl,n2,(by show 1<1000; decide),?_⟩
  have e:zdP "past" (.ref p) (zdP "tree" u ([]))=[(("tree":Str),u),(("past":Str),.ref p)]:=by
   have q1:¬ ("tree":Str)="past":=by decide +kernel
   simp only [zdP,yK q1]
  rw [ziw hpa,e]; rw [zr hpa] at hp; exact k p hpa hp
theorem zoC:FnScope ["self","place","old","new"] ["self","place","old","new"] (zm zbX):=sc0
theorem zlo {f C:Addr} {fd:FuncData} (F:Fun K "__init__" "Swap.__init__" zbX f fd) (cl:Cls K C) (n1:zaG K C "place") (n2:zaG K C "old") (n3:zaG K C "new"):FnOk P w K mg base CX0 1 f fd ["self","place","old","new"] (zfI C ["place","old","new"]):=by
 refine F.ok zoC (fun vs H Q E h=>?_) (fun cdv A outer s H vs Q E hr h=>?_)
 ·obtain ⟨a,dx,us,rfl,hl,_⟩:=h
  simpa using hl
 ·obtain ⟨a,dx,us,rfl,hl,ha,k⟩:=h
  obtain ⟨v1,v2,v3,rfl⟩:∃ v1 v2 v3,us=[v1,v2,v3]:=by
   match us,hl with
   | [v1,v2,v3],_=>exact ⟨v1,v2,v3,rfl⟩
  refine ⟨_,(zdu (zdh (pv 0) (pv 1) rfl) (zdu (zdh (pv 0) (pv 2) rfl) (zdQ (zdh (pv 0) (pv 3) rfl)))),?_⟩
  refine ⟨_,rfl,_,rfl,a,C,dx,_,rfl,ha,cl,n1,(by show 0<1000; decide),_,rfl,_,rfl,a,C,dx,_,rfl,zo,cl,n2,(by show 1<1000; decide),_,rfl,_,rfl,a,C,dx,_,rfl,zo,cl,n3,(by show 2<1000; decide),?_⟩
  have e:zdP "new" v3 (zdP "old" v2 (zdP "place" v1 ([])))=List.zip (["place","old","new"]:List Str) [v1,v2,v3]:=by
   have q1:¬ ("place":Str)="old":=by decide +kernel
   have q2:¬ ("place":Str)="new":=by decide +kernel
   have q3:¬ ("old":Str)="new":=by decide +kernel
   simp only [zdP,yK q1,yK q2,yK q3]; rfl
  simp only [zen]; exact e ▸ k
theorem zoD:FnScope ["self","place","words"] ["self","place","words"] (zm zbY):=sc0
theorem zlp {f C:Addr} {fd:FuncData} (F:Fun K "__init__" "Read.__init__" zbY f fd) (cl:Cls K C) (n1:zaG K C "place") (n2:zaG K C "words"):FnOk P w K mg base CX0 1 f fd ["self","place","words"] (zfI C ["place","words"]):=by
 refine F.ok zoD (fun vs H Q E h=>?_) (fun cdv A outer s H vs Q E hr h=>?_)
 ·obtain ⟨a,dx,us,rfl,hl,_⟩:=h
  simpa using hl
 ·obtain ⟨a,dx,us,rfl,hl,ha,k⟩:=h
  obtain ⟨v1,v2,rfl⟩:∃ v1 v2,us=[v1,v2]:=by
   match us,hl with
   | [v1,v2],_=>exact ⟨v1,v2,rfl⟩
  refine ⟨_,(zdu (zdh (pv 0) (pv 1) rfl) (zdQ (zdh (pv 0) (pv 2) rfl))),?_⟩
  refine ⟨_,rfl,_,rfl,a,C,dx,_,rfl,ha,cl,n1,(by show 0<1000; decide),_,rfl,_,rfl,a,C,dx,_,rfl,zo,cl,n2,(by show 1<1000; decide),?_⟩
  have e:zdP "words" v2 (zdP "place" v1 ([]))=List.zip (["place","words"]:List Str) [v1,v2]:=by
   have q1:¬ ("place":Str)="words":=by decide +kernel
   simp only [zdP,yK q1]; rfl
  simp only [zen]; exact e ▸ k
theorem zml:FnScope ["self","place","node"] ["self","place","node"] (zm zbN):=sc0
theorem zjR {f C:Addr} {fd:FuncData} (F:Fun K "__init__" "PutIn.__init__" zbN f fd) (cl:Cls K C) (n1:zaG K C "place") (n2:zaG K C "node"):FnOk P w K mg base CX0 1 f fd ["self","place","node"] (zfI C ["place","node"]):=by
 refine F.ok zml (fun vs H Q E h=>?_) (fun cdv A outer s H vs Q E hr h=>?_)
 ·obtain ⟨a,dx,us,rfl,hl,_⟩:=h
  simpa using hl
 ·obtain ⟨a,dx,us,rfl,hl,ha,k⟩:=h
  obtain ⟨v1,v2,rfl⟩:∃ v1 v2,us=[v1,v2]:=by
   match us,hl with
   | [v1,v2],_=>exact ⟨v1,v2,rfl⟩
  refine ⟨_,(zdu (zdh (pv 0) (pv 1) rfl) (zdQ (zdh (pv 0) (pv 2) rfl))),?_⟩
  refine ⟨_,rfl,_,rfl,a,C,dx,_,rfl,ha,cl,n1,(by show 0<1000; decide),_,rfl,_,rfl,a,C,dx,_,rfl,zo,cl,n2,(by show 1<1000; decide),?_⟩
  have e:zdP "node" v2 (zdP "place" v1 ([]))=List.zip (["place","node"]:List Str) [v1,v2]:=by
   have q1:¬ ("place":Str)="node":=by decide +kernel
   simp only [zdP,yK q1]; rfl
  simp only [zen]; exact e ▸ k
theorem zhW:FnScope ["self","place"] ["self","place"] (zm zaQ):=sc0
theorem zgu {f C:Addr} {fd:FuncData} (F:Fun K "__init__" "LeaveOut.__init__" zaQ f fd) (cl:Cls K C) (n1:zaG K C "place"):FnOk P w K mg base CX0 1 f fd ["self","place"] (zfI C ["place"]):=by
 refine F.ok zhW (fun vs H Q E h=>?_) (fun cdv A outer s H vs Q E hr h=>?_)
 ·obtain ⟨a,dx,us,rfl,hl,_⟩:=h
  simpa using hl
 ·obtain ⟨a,dx,us,rfl,hl,ha,k⟩:=h
  obtain ⟨v1,rfl⟩:∃ v1,us=[v1]:=by
   match us,hl with
   | [v1],_=>exact ⟨v1,rfl⟩
  refine ⟨_,(zdQ (zdh (pv 0) (pv 1) rfl)),?_⟩
  refine ⟨_,rfl,_,rfl,a,C,dx,_,rfl,ha,cl,n1,(by show 0<1000; decide),?_⟩
  have e:zdP "place" v1 ([])=List.zip (["place"]:List Str) [v1]:=by
   rfl
  simp only [zen]; exact e ▸ k
theorem zoF:FnScope ["self","place"] ["self","place"] (zm zb1):=sc0
theorem zlr {f C:Addr} {fd:FuncData} (F:Fun K "__init__" "Anew.__init__" zb1 f fd) (cl:Cls K C) (n1:zaG K C "place"):FnOk P w K mg base CX0 1 f fd ["self","place"] (zfI C ["place"]):=by
 refine F.ok zoF (fun vs H Q E h=>?_) (fun cdv A outer s H vs Q E hr h=>?_)
 ·obtain ⟨a,dx,us,rfl,hl,_⟩:=h
  simpa using hl
 ·obtain ⟨a,dx,us,rfl,hl,ha,k⟩:=h
  obtain ⟨v1,rfl⟩:∃ v1,us=[v1]:=by
   match us,hl with
   | [v1],_=>exact ⟨v1,rfl⟩
  refine ⟨_,(zdQ (zdh (pv 0) (pv 1) rfl)),?_⟩
  refine ⟨_,rfl,_,rfl,a,C,dx,_,rfl,ha,cl,n1,(by show 0<1000; decide),?_⟩
  have e:zdP "place" v1 ([])=List.zip (["place"]:List Str) [v1]:=by
   rfl
  simp only [zen]; exact e ▸ k
end
theorem tab_mem {T:List (Addr × Str)} {b:Addr} {q:Str} (h:T.lookup b=some q):b ∈ T.map (·.1):=by
 induction T with
 | nil=>cases h
 | cons x r ih =>
  obtain ⟨a,s⟩:=x
  by_cases e:b=a
  ·subst e; simp
  ·have e':(b == a)=false:=beq_eq_false_iff_ne.mpr e
   rw [YF,e'] at h; exact yP _ (ih h)
theorem all_mk {l:W.OpenLaw} {w:World} {K:W.Frag} {h:Heap} {mg:Str->Option Value} {fa f18 f20 f23 j_Book C_Book j_Swap C_Swap j_Read C_Read j_PutIn C_PutIn j_LeaveOut C_LeaveOut j_Anew C_Anew w_Book_act w_Book_back w_Book_acts w_Book_refuse_act:Addr} (X:K.In h) (G:h.Ns mainGlobals mg) (hfa:mg "law"=some (.ref fa))
  {od18 an18 od20 an20 od23 an23:Option Addr} {sl18 sl20 sl23:Array (Option Value)} {oc18 kV18 dc18 pm18 ct18 oc20 kV20 dc20 pm20 ct20 oc23 kV23 dc23 pm23 cd23 ct23:Value}
  {jd_Book jn_Book:Option Addr} {js_Book:Array (Option Value)} {jk_Book jo_Book jm_Book je_Book jt_Book:Value}
  {jd_Swap jn_Swap:Option Addr} {js_Swap:Array (Option Value)} {jk_Swap jo_Swap jm_Swap je_Swap jt_Swap:Value}
  {jd_Read jn_Read:Option Addr} {js_Read:Array (Option Value)} {jk_Read jo_Read jm_Read je_Read jt_Read:Value}
  {jd_PutIn jn_PutIn:Option Addr} {js_PutIn:Array (Option Value)} {jk_PutIn jo_PutIn jm_PutIn je_PutIn jt_PutIn:Value}
  {jd_LeaveOut jn_LeaveOut:Option Addr} {js_LeaveOut:Array (Option Value)} {jk_LeaveOut jo_LeaveOut jm_LeaveOut je_LeaveOut jt_LeaveOut:Value}
  {jd_Anew jn_Anew:Option Addr} {js_Anew:Array (Option Value)} {jk_Anew jo_Anew jm_Anew je_Anew jt_Anew:Value}
  {jd_Book_act jn_Book_act:Option Addr} {js_Book_act:Array (Option Value)} {jk_Book_act jo_Book_act jm_Book_act je_Book_act jt_Book_act:Value}
  {jd_Book_back jn_Book_back:Option Addr} {js_Book_back:Array (Option Value)} {jk_Book_back jo_Book_back jm_Book_back je_Book_back jt_Book_back:Value}
  {jd_Book_acts jn_Book_acts:Option Addr} {js_Book_acts:Array (Option Value)} {jk_Book_acts jo_Book_acts jm_Book_acts je_Book_acts jt_Book_acts:Value}
  {jd_Book_refuse_act jn_Book_refuse_act:Option Addr} {js_Book_refuse_act:Array (Option Value)} {jk_Book_refuse_act jo_Book_refuse_act jm_Book_refuse_act je_Book_refuse_act jt_Book_refuse_act:Value}
  {x1:Int} {t1:Tok} {x2:Str} {t2:Tok}
  {cc20 PT20 cc18 PT18:Addr}
  (D1:Dn K "finds" zhZ)
  (D2:Dn K "change_counted" zb9)
  (D3:Dn K "has_only" zdq)
  (D4:Dn K "named_in" zdp)
  (D5:Dn K "_law_cell_at" zcP)
  (D6:Dn K "_law_names" zci)
  (D7:Dn K "_law_kind" zer)
  (D8:Dn K "_law_living" zdd)
  (D9:Dn K "_law_found" zdN)
  (D10:Dn K "_law_same_change" zbW)
  (D11:Dn K "_law_whole" zdL)
  (D12:Dn K "living_acts" zcO)
  (D13:Dn K "take_deed" zdK)
  (D14:Dn K "is_name" ze3)
  (D15:Dn K "_law_deed" zes)
  (D16:Dn K "_law_acts" zcB)
  (D17:Dn K "_law_change" zdf)
  (a18:W.nsIn K mainGlobals "what_counts"=some (some (.ref f18)))
  (l18:K.lookup f18=some ⟨oc18,od18,.func (W.fnOf "what_counts" "what_counts" (zaS zaN) (zY zaN) (zm zaN) .none kV18 dc18 pm18 an18 (.ref cc18) ct18),sl18⟩)
  (c18:W.codeIn K (.ref cc18) "what_counts"=true)
  (k18:W.keepIn K (.ref f18)=true)
  (D19:Dn K "_law_handed" zde)
  (a20:W.nsIn K mainGlobals "_law_counts"=some (some (.ref f20)))
  (l20:K.lookup f20=some ⟨oc20,od20,.func (W.fnOf "_law_counts" "_law_counts" (zaS zaW) (zY zaW) (zm zaW) .none kV20 dc20 pm20 an20 (.ref cc20) ct20),sl20⟩)
  (c20:W.codeIn K (.ref cc20) "_law_counts"=true)
  (k20:W.keepIn K (.ref f20)=true)
  (D21:Dn K "_law_put" zd6)
  (D22:Dn K "_law_right" zdM)
  (a23:W.nsIn K mainGlobals "law"=some (some (.ref f23)))
  (l23:K.lookup f23=some ⟨oc23,od23,.func (W.fnOf "law" "law" (zaS zfA) (zY zfA) (zm zfA) .none kV23 dc23 pm23 an23 cd23 ct23),sl23⟩)
  (c23:W.codeIn K cd23 "law"=true)
  (k23:W.keepIn K (.ref f23)=true)
  (z1:W.nsIn K mainGlobals "all"=some none)
  (z2:W.nsIn K mainGlobals "bool"=some none)
  (z3:W.nsIn K mainGlobals "enumerate"=some none)
  (z4:W.nsIn K mainGlobals "int"=some none)
  (z5:W.nsIn K mainGlobals "isinstance"=some none)
  (z6:W.nsIn K mainGlobals "len"=some none)
  (z7:W.nsIn K mainGlobals "list"=some none)
  (z8:W.nsIn K mainGlobals "range"=some none)
  (z9:W.nsIn K mainGlobals "reversed"=some none)
  (z10:W.nsIn K mainGlobals "sorted"=some none)
  (z11:W.nsIn K mainGlobals "str"=some none)
  (z12:W.nsIn K mainGlobals "tuple"=some none)
  (z13:W.nsIn K mainGlobals "zip"=some none)
  (g1:W.nsIn K mainGlobals "LONGEST_NAME"=some (some (.int x1 t1)))
  (e1:x1=8)
  (g2:W.nsIn K mainGlobals "SMALL_LETTERS"=some (some (.str x2 t2)))
  (e2:x2=st zhO)
  (aC_Book:W.nsIn K mainGlobals "Book"=some (some (.ref C_Book)))
  (hdC_Book:W.hasDictIn K C_Book=true)
  (aI_Book:W.findIn K (.ref C_Book) "__init__"=some (some (.ref j_Book)))
  (iI_Book:W.isFn K (.ref j_Book)=true)
  (lI_Book:K.lookup j_Book=some ⟨.type "function",jd_Book,.func (W.fnOf "__init__" "Book.__init__" (zaS zbZ) (zY zbZ) (zm zbZ) .none jk_Book jo_Book jm_Book jn_Book je_Book jt_Book),js_Book⟩)
  (cI_Book:W.codeIn K je_Book "Book.__init__"=true)
  (kI_Book:W.keepIn K (.ref j_Book)=true)
  (pg_Book:W.plainGet K C_Book Str.empty=true)
  (po_Book:W.plainOver K C_Book=true)
  (sa_Book:W.findIn K (.ref C_Book) "__setattr__"=some (some (.builtin "object.__setattr__")))
  (mk_Book:W.makesIn K C_Book=true)
  (kc_Book:W.keepIn K (.ref C_Book)=true)
  (n_Book_tree:W.findIn K (.ref C_Book) "tree"=some none)
  (n_Book_past:W.findIn K (.ref C_Book) "past"=some none)
  (aC_Swap:W.nsIn K mainGlobals "Swap"=some (some (.ref C_Swap)))
  (hdC_Swap:W.hasDictIn K C_Swap=true)
  (aI_Swap:W.findIn K (.ref C_Swap) "__init__"=some (some (.ref j_Swap)))
  (iI_Swap:W.isFn K (.ref j_Swap)=true)
  (lI_Swap:K.lookup j_Swap=some ⟨.type "function",jd_Swap,.func (W.fnOf "__init__" "Swap.__init__" (zaS zbX) (zY zbX) (zm zbX) .none jk_Swap jo_Swap jm_Swap jn_Swap je_Swap jt_Swap),js_Swap⟩)
  (cI_Swap:W.codeIn K je_Swap "Swap.__init__"=true)
  (kI_Swap:W.keepIn K (.ref j_Swap)=true)
  (pg_Swap:W.plainGet K C_Swap Str.empty=true)
  (po_Swap:W.plainOver K C_Swap=true)
  (sa_Swap:W.findIn K (.ref C_Swap) "__setattr__"=some (some (.builtin "object.__setattr__")))
  (mk_Swap:W.makesIn K C_Swap=true)
  (kc_Swap:W.keepIn K (.ref C_Swap)=true)
  (n_Swap_place:W.findIn K (.ref C_Swap) "place"=some none)
  (n_Swap_old:W.findIn K (.ref C_Swap) "old"=some none)
  (n_Swap_new:W.findIn K (.ref C_Swap) "new"=some none)
  (aC_Read:W.nsIn K mainGlobals "Read"=some (some (.ref C_Read)))
  (hdC_Read:W.hasDictIn K C_Read=true)
  (aI_Read:W.findIn K (.ref C_Read) "__init__"=some (some (.ref j_Read)))
  (iI_Read:W.isFn K (.ref j_Read)=true)
  (lI_Read:K.lookup j_Read=some ⟨.type "function",jd_Read,.func (W.fnOf "__init__" "Read.__init__" (zaS zbY) (zY zbY) (zm zbY) .none jk_Read jo_Read jm_Read jn_Read je_Read jt_Read),js_Read⟩)
  (cI_Read:W.codeIn K je_Read "Read.__init__"=true)
  (kI_Read:W.keepIn K (.ref j_Read)=true)
  (pg_Read:W.plainGet K C_Read Str.empty=true)
  (po_Read:W.plainOver K C_Read=true)
  (sa_Read:W.findIn K (.ref C_Read) "__setattr__"=some (some (.builtin "object.__setattr__")))
  (mk_Read:W.makesIn K C_Read=true)
  (kc_Read:W.keepIn K (.ref C_Read)=true)
  (n_Read_place:W.findIn K (.ref C_Read) "place"=some none)
  (n_Read_words:W.findIn K (.ref C_Read) "words"=some none)
  (aC_PutIn:W.nsIn K mainGlobals "PutIn"=some (some (.ref C_PutIn)))
  (hdC_PutIn:W.hasDictIn K C_PutIn=true)
  (aI_PutIn:W.findIn K (.ref C_PutIn) "__init__"=some (some (.ref j_PutIn)))
  (iI_PutIn:W.isFn K (.ref j_PutIn)=true)
  (lI_PutIn:K.lookup j_PutIn=some ⟨.type "function",jd_PutIn,.func (W.fnOf "__init__" "PutIn.__init__" (zaS zbN) (zY zbN) (zm zbN) .none jk_PutIn jo_PutIn jm_PutIn jn_PutIn je_PutIn jt_PutIn),js_PutIn⟩)
  (cI_PutIn:W.codeIn K je_PutIn "PutIn.__init__"=true)
  (kI_PutIn:W.keepIn K (.ref j_PutIn)=true)
  (pg_PutIn:W.plainGet K C_PutIn Str.empty=true)
  (po_PutIn:W.plainOver K C_PutIn=true)
  (sa_PutIn:W.findIn K (.ref C_PutIn) "__setattr__"=some (some (.builtin "object.__setattr__")))
  (mk_PutIn:W.makesIn K C_PutIn=true)
  (kc_PutIn:W.keepIn K (.ref C_PutIn)=true)
  (n_PutIn_place:W.findIn K (.ref C_PutIn) "place"=some none)
  (n_PutIn_node:W.findIn K (.ref C_PutIn) "node"=some none)
  (aC_LeaveOut:W.nsIn K mainGlobals "LeaveOut"=some (some (.ref C_LeaveOut)))
  (hdC_LeaveOut:W.hasDictIn K C_LeaveOut=true)
  (aI_LeaveOut:W.findIn K (.ref C_LeaveOut) "__init__"=some (some (.ref j_LeaveOut)))
  (iI_LeaveOut:W.isFn K (.ref j_LeaveOut)=true)
  (lI_LeaveOut:K.lookup j_LeaveOut=some ⟨.type "function",jd_LeaveOut,.func (W.fnOf "__init__" "LeaveOut.__init__" (zaS zaQ) (zY zaQ) (zm zaQ) .none jk_LeaveOut jo_LeaveOut jm_LeaveOut jn_LeaveOut je_LeaveOut jt_LeaveOut),js_LeaveOut⟩)
  (cI_LeaveOut:W.codeIn K je_LeaveOut "LeaveOut.__init__"=true)
  (kI_LeaveOut:W.keepIn K (.ref j_LeaveOut)=true)
  (pg_LeaveOut:W.plainGet K C_LeaveOut Str.empty=true)
  (po_LeaveOut:W.plainOver K C_LeaveOut=true)
  (sa_LeaveOut:W.findIn K (.ref C_LeaveOut) "__setattr__"=some (some (.builtin "object.__setattr__")))
  (mk_LeaveOut:W.makesIn K C_LeaveOut=true)
  (kc_LeaveOut:W.keepIn K (.ref C_LeaveOut)=true)
  (n_LeaveOut_place:W.findIn K (.ref C_LeaveOut) "place"=some none)
  (aC_Anew:W.nsIn K mainGlobals "Anew"=some (some (.ref C_Anew)))
  (hdC_Anew:W.hasDictIn K C_Anew=true)
  (aI_Anew:W.findIn K (.ref C_Anew) "__init__"=some (some (.ref j_Anew)))
  (iI_Anew:W.isFn K (.ref j_Anew)=true)
  (lI_Anew:K.lookup j_Anew=some ⟨.type "function",jd_Anew,.func (W.fnOf "__init__" "Anew.__init__" (zaS zb1) (zY zb1) (zm zb1) .none jk_Anew jo_Anew jm_Anew jn_Anew je_Anew jt_Anew),js_Anew⟩)
  (cI_Anew:W.codeIn K je_Anew "Anew.__init__"=true)
  (kI_Anew:W.keepIn K (.ref j_Anew)=true)
  (pg_Anew:W.plainGet K C_Anew Str.empty=true)
  (po_Anew:W.plainOver K C_Anew=true)
  (sa_Anew:W.findIn K (.ref C_Anew) "__setattr__"=some (some (.builtin "object.__setattr__")))
  (mk_Anew:W.makesIn K C_Anew=true)
  (kc_Anew:W.keepIn K (.ref C_Anew)=true)
  (n_Anew_place:W.findIn K (.ref C_Anew) "place"=some none)
  (aM_Book_act:W.findIn K (.ref C_Book) "act"=some (some (.ref w_Book_act)))
  (iM_Book_act:W.isFn K (.ref w_Book_act)=true)
  (lI_Book_act:K.lookup w_Book_act=some ⟨.type "function",jd_Book_act,.func (W.fnOf "act" "Book.act" (zaS zcg) (zY zcg) (zm zcg) .none jk_Book_act jo_Book_act jm_Book_act jn_Book_act je_Book_act jt_Book_act),js_Book_act⟩)
  (cI_Book_act:W.codeIn K je_Book_act "Book.act"=true)
  (kI_Book_act:W.keepIn K (.ref w_Book_act)=true)
  (aM_Book_back:W.findIn K (.ref C_Book) "back"=some (some (.ref w_Book_back)))
  (iM_Book_back:W.isFn K (.ref w_Book_back)=true)
  (lI_Book_back:K.lookup w_Book_back=some ⟨.type "function",jd_Book_back,.func (W.fnOf "back" "Book.back" (zaS zb0) (zY zb0) (zm zb0) .none jk_Book_back jo_Book_back jm_Book_back jn_Book_back je_Book_back jt_Book_back),js_Book_back⟩)
  (cI_Book_back:W.codeIn K je_Book_back "Book.back"=true)
  (kI_Book_back:W.keepIn K (.ref w_Book_back)=true)
  (aM_Book_acts:W.findIn K (.ref C_Book) "acts"=some (some (.ref w_Book_acts)))
  (iM_Book_acts:W.isFn K (.ref w_Book_acts)=true)
  (lI_Book_acts:K.lookup w_Book_acts=some ⟨.type "function",jd_Book_acts,.func (W.fnOf "acts" "Book.acts" (zaS zbL) (zY zbL) (zm zbL) .none jk_Book_acts jo_Book_acts jm_Book_acts jn_Book_acts je_Book_acts jt_Book_acts),js_Book_acts⟩)
  (cI_Book_acts:W.codeIn K je_Book_acts "Book.acts"=true)
  (kI_Book_acts:W.keepIn K (.ref w_Book_acts)=true)
  (aM_Book_refuse_act:W.findIn K (.ref C_Book) "refuse_act"=some (some (.ref w_Book_refuse_act)))
  (iM_Book_refuse_act:W.isFn K (.ref w_Book_refuse_act)=true)
  (lI_Book_refuse_act:K.lookup w_Book_refuse_act=some ⟨.type "function",jd_Book_refuse_act,.func (W.fnOf "refuse_act" "Book.refuse_act" (zaS zab) (zY zab) (zm zab) .none jk_Book_refuse_act jo_Book_refuse_act jm_Book_refuse_act jn_Book_refuse_act je_Book_refuse_act jt_Book_refuse_act),js_Book_refuse_act⟩)
  (cI_Book_refuse_act:W.codeIn K je_Book_refuse_act "Book.refuse_act"=true)
  (kI_Book_refuse_act:W.keepIn K (.ref w_Book_refuse_act)=true)
  (hn:W.specialIn K (.builtin "object.__class__") "__get__"=some (some (.builtin "getset_descriptor.__get__")))
  (htk:W.takesIn K (.builtin "object.__class__")=some true)
  (ha_Swap:W.findIn K (.ref C_Swap) "__class__"=some (some (.builtin "object.__class__")))
  (hm_Swap:W.mroIn K C_Swap (.type "object")=some true)
  (ha_Read:W.findIn K (.ref C_Read) "__class__"=some (some (.builtin "object.__class__")))
  (hm_Read:W.mroIn K C_Read (.type "object")=some true)
  (ha_PutIn:W.findIn K (.ref C_PutIn) "__class__"=some (some (.builtin "object.__class__")))
  (hm_PutIn:W.mroIn K C_PutIn (.type "object")=some true)
  (ha_LeaveOut:W.findIn K (.ref C_LeaveOut) "__class__"=some (some (.builtin "object.__class__")))
  (hm_LeaveOut:W.mroIn K C_LeaveOut (.type "object")=some true)
  (ha_Anew:W.findIn K (.ref C_Anew) "__class__"=some (some (.builtin "object.__class__")))
  (hm_Anew:W.mroIn K C_Anew (.type "object")=some true)
  (hL20:W.codeHdIn K cc20 PT20=true)
  (nL20:K.lookup PT20=none)
  (tL20:([(PT20,"_law_counts.<locals>.<lambda>"),(PT18,"what_counts.<locals>.<lambda>")]:List (Addr × Str)).lookup PT20=some "_law_counts.<locals>.<lambda>")
  (hL18:W.codeHdIn K cc18 PT18=true)
  (nL18:K.lookup PT18=none)
  (tL18:([(PT20,"_law_counts.<locals>.<lambda>"),(PT18,"what_counts.<locals>.<lambda>")]:List (Addr × Str)).lookup PT18=some "what_counts.<locals>.<lambda>")
  :
  (∀ b q,([(PT20,"_law_counts.<locals>.<lambda>"),(PT18,"what_counts.<locals>.<lambda>")]:List (Addr × Str)).lookup b=some q->(∃ c,W.codeHdIn K c b=true)/\K.lookup b=none) /\
  ∃ fd:FuncData,(∀ (s:Shared) (v:Value),BindsTo s fd ⟨[v],[]⟩ [("_law_script",v)])/\∀ base:Heap,K.In base->base.Ns mainGlobals mg->(∀ b q,([(PT20,"_law_counts.<locals>.<lambda>"),(PT18,"what_counts.<locals>.<lambda>")]:List (Addr × Str)).lookup b=some q->base.objs[b]?=some (zeM q))->FnOk l.prog w K mg base CX0 6 fa fd ["_law_script"] (zhS K zjh):=by
 subst e1; subst e2
 have d1:=D1.df X G ["counted","deed","made"] <| ar3 fun _ _ _ _ _ _ _ _ _=>rfl
 have d2:=D2.df X G ["counted","deed"] <| ar2 fun _ _ _ _ _ _ _ _=>rfl
 have d3:=D3.df X G ["text","signs"] <| ar2 fun _ _ _ _ _ _ _ _=>rfl
 have d4:=D4.df X G ["deeds"] <| ar1 fun _ _ _ _ _ _ _=>rfl
 have d5:=D5.df X G ["_law_script","_law_k"] <| ar2 fun _ _ _ _ _ _ _ _=>rfl
 have d6:=D6.df X G ["_law_cell"] <| ar1 fun _ _ _ _ _ _ _=>rfl
 have d7:=D7.df X G ["_law_cell"] <| ar1 fun _ _ _ _ _ _ _=>rfl
 have d8:=D8.df X G ["_law_acts_here","_law_seen"] <| ar2 fun _ _ _ _ _ _ _ _=>rfl
 have d9:=D9.df X G ["_law_rows","_law_name","_law_number","_law_day"] <| ar4 fun _ _ _ _ _ _ _ _ _ _=>rfl
 have d10:=D10.df X G ["_law_found_here","_law_kind_here"] <| ar2 fun _ _ _ _ _ _ _ _=>rfl
 have d11:=D11.df X G ["_law_found_here"] <| ar1 fun _ _ _ _ _ _ _=>rfl
 have d12:=D12.df X G ["book","seen"] <| ar2 fun _ _ _ _ _ _ _ _=>rfl
 have d13:=D13.df X G ["counted","name","made","number","deed"] <| ar5 fun _ _ _ _ _ _ _ _ _ _ _=>rfl
 have d14:=D14.df X G ["thing"] <| ar1 fun _ _ _ _ _ _ _=>rfl
 have d15:=D15.df X G ["_law_cell","_law_k","_law_day","_law_names_here"] <| ar4 fun _ _ _ _ _ _ _ _ _ _=>rfl
 have d16:=D16.df X G ["_law_script","_law_names_here"] <| ar2 fun _ _ _ _ _ _ _ _=>rfl
 have d17:=D17.df X G ["_law_kind_here"] <| ar1 fun _ _ _ _ _ _ _=>rfl
 have F18:=zct (st:=zaN) l18 c18 k18; have m18:=W.mg_of X G a18
 have b18:=F18.binds (ps:=["book","seen"]) <| ar2 fun _ _ _ _ _ _ _ _=>rfl
 have d18:Df K mg "what_counts" zaN ["book","seen"]:=⟨f18,_,F18,b18,m18⟩
 have d19:=D19.df X G ["_law_deed_here"] <| ar1 fun _ _ _ _ _ _ _=>rfl
 have F20:=zct (st:=zaW) l20 c20 k20; have m20:=W.mg_of X G a20
 have b20:=F20.binds (ps:=["_law_acts_here","_law_seen"]) <| ar2 fun _ _ _ _ _ _ _ _=>rfl
 have d20:Df K mg "_law_counts" zaW ["_law_acts_here","_law_seen"]:=⟨f20,_,F20,b20,m20⟩
 have d21:=D21.df X G ["_law_book","_law_act"] <| ar2 fun _ _ _ _ _ _ _ _=>rfl
 have d22:=D22.df X G ["_law_book","_law_acts_here","_law_seen"] <| ar3 fun _ _ _ _ _ _ _ _ _=>rfl
 have F23:=zct (st:=zfA) l23 c23 k23; have m23:=W.mg_of X G a23
 have b23:=F23.binds (ps:=["_law_script"]) <| ar1 fun _ _ _ _ _ _ _=>rfl
 have d23:Df K mg "law" zfA ["_law_script"]:=⟨f23,_,F23,b23,m23⟩
 have z_all:=W.mg_none_of X G z1; have z_bool:=W.mg_none_of X G z2; have z_enumerate:=W.mg_none_of X G z3; have z_int:=W.mg_none_of X G z4; have z_isinstance:=W.mg_none_of X G z5; have z_len:=W.mg_none_of X G z6; have z_list:=W.mg_none_of X G z7; have z_range:=W.mg_none_of X G z8; have z_reversed:=W.mg_none_of X G z9; have z_sorted:=W.mg_none_of X G z10; have z_str:=W.mg_none_of X G z11; have z_tuple:=W.mg_none_of X G z12; have z_zip:=W.mg_none_of X G z13; have g_LONGEST_NAME:=W.mg_of X G g1; have g_SMALL_LETTERS:=W.mg_of X G g2; have m_Book:=W.mg_of X G aC_Book
 have cl_Book:Cls K C_Book:=⟨pg_Book,hdC_Book,po_Book,sa_Book⟩
 have FI_Book:=zct (st:=zbZ) lI_Book cI_Book kI_Book
 have bI_Book:=FI_Book.binds (ps:=["self","tree"]) <| ar2 fun _ _ _ _ _ _ _ _=>rfl
 have m_Swap:=W.mg_of X G aC_Swap
 have cl_Swap:Cls K C_Swap:=⟨pg_Swap,hdC_Swap,po_Swap,sa_Swap⟩
 have FI_Swap:=zct (st:=zbX) lI_Swap cI_Swap kI_Swap
 have bI_Swap:=FI_Swap.binds (ps:=["self","place","old","new"]) <| ar4 fun _ _ _ _ _ _ _ _ _ _=>rfl
 have m_Read:=W.mg_of X G aC_Read
 have cl_Read:Cls K C_Read:=⟨pg_Read,hdC_Read,po_Read,sa_Read⟩
 have FI_Read:=zct (st:=zbY) lI_Read cI_Read kI_Read
 have bI_Read:=FI_Read.binds (ps:=["self","place","words"]) <| ar3 fun _ _ _ _ _ _ _ _ _=>rfl
 have m_PutIn:=W.mg_of X G aC_PutIn
 have cl_PutIn:Cls K C_PutIn:=⟨pg_PutIn,hdC_PutIn,po_PutIn,sa_PutIn⟩
 have FI_PutIn:=zct (st:=zbN) lI_PutIn cI_PutIn kI_PutIn
 have bI_PutIn:=FI_PutIn.binds (ps:=["self","place","node"]) <| ar3 fun _ _ _ _ _ _ _ _ _=>rfl
 have m_LeaveOut:=W.mg_of X G aC_LeaveOut
 have cl_LeaveOut:Cls K C_LeaveOut:=⟨pg_LeaveOut,hdC_LeaveOut,po_LeaveOut,sa_LeaveOut⟩
 have FI_LeaveOut:=zct (st:=zaQ) lI_LeaveOut cI_LeaveOut kI_LeaveOut
 have bI_LeaveOut:=FI_LeaveOut.binds (ps:=["self","place"]) <| ar2 fun _ _ _ _ _ _ _ _=>rfl
 have m_Anew:=W.mg_of X G aC_Anew
 have cl_Anew:Cls K C_Anew:=⟨pg_Anew,hdC_Anew,po_Anew,sa_Anew⟩
 have FI_Anew:=zct (st:=zb1) lI_Anew cI_Anew kI_Anew
 have bI_Anew:=FI_Anew.binds (ps:=["self","place"]) <| ar2 fun _ _ _ _ _ _ _ _=>rfl
 have FI_Book_act:=zct (st:=zcg) lI_Book_act cI_Book_act kI_Book_act
 have bI_Book_act:=FI_Book_act.binds (ps:=["self","name","day","deeds"]) <| ar4 fun _ _ _ _ _ _ _ _ _ _=>rfl
 have FI_Book_back:=zct (st:=zb0) lI_Book_back cI_Book_back kI_Book_back
 have bI_Book_back:=FI_Book_back.binds (ps:=["self","name","day","other"]) <| ar4 fun _ _ _ _ _ _ _ _ _ _=>rfl
 have FI_Book_acts:=zct (st:=zbL) lI_Book_acts cI_Book_acts kI_Book_acts
 have bI_Book_acts:=FI_Book_acts.binds (ps:=["self"]) <| ar1 fun _ _ _ _ _ _ _=>rfl
 have FI_Book_refuse_act:=zct (st:=zab) lI_Book_refuse_act cI_Book_refuse_act kI_Book_refuse_act
 have bI_Book_refuse_act:=FI_Book_refuse_act.binds (ps:=["self","name","day","named"]) <| ar4 fun _ _ _ _ _ _ _ _ _ _=>rfl
 have cf:CF K ⟨C_Book,C_Swap,C_Read,C_PutIn,C_LeaveOut,C_Anew⟩:=⟨cl_Book,n_Book_tree,n_Book_past,⟨cl_Read,ha_Read,hn,htk,hm_Read⟩,⟨cl_Swap,ha_Swap,hn,htk,hm_Swap⟩,⟨cl_PutIn,ha_PutIn,hn,htk,hm_PutIn⟩,⟨cl_LeaveOut,ha_LeaveOut,hn,htk,hm_LeaveOut⟩,⟨cl_Anew,ha_Anew,hn,htk,hm_Anew⟩,n_Read_place,n_Read_words,n_Swap_place,n_Swap_old,n_Swap_new,n_PutIn_place,n_PutIn_node,n_LeaveOut_place,n_Anew_place,zeh,zeh,zeh,zeh,zeh⟩
 have e:=hfa.symm.trans m23; cases e
 refine ⟨fun b q e=>?_,?_⟩
 ·have:=tab_mem e
  simp only [yS,List.map_nil,yO,yd,or_false] at this
  rcases this with rfl | rfl
  ·exact ⟨⟨_,hL20⟩,nL20⟩
  ·exact ⟨⟨_,hL18⟩,nL18⟩
 refine ⟨W.fnOf "law" "law" (zaS zfA) (zY zfA) (zm zfA) .none kV23 dc23 pm23 an23 cd23 ct23,fun s v=>.of_eq rfl,fun base _ _ hmk=>?_⟩
 have lo_law_counts:LamOf K mg base "_law_counts" "_law_counts.<locals>.<lambda>":=⟨⟨cc20,PT20,fun f fd oc od sl m lk=>by
  rw [m20] at m; cases m; rw [l20] at lk; cases lk
  rfl,hL20,hmk _ _ tL20⟩,by decide +kernel⟩
 have lo_what_counts:LamOf K mg base "what_counts" "what_counts.<locals>.<lambda>":=⟨⟨cc18,PT18,fun f fd oc od sl m lk=>by
  rw [m18] at m; cases m; rw [l18] at lk; cases lk
  rfl,hL18,hmk _ _ tL18⟩,by decide +kernel⟩
 have M_Book:MakB l.prog w K mg base 1 "Book" C_Book "tree" "past":=⟨j_Book,_,["self","tree"],⟨mk_Book,aI_Book,iI_Book,kc_Book⟩,zlq FI_Book cl_Book n_Book_tree n_Book_past,bI_Book,m_Book⟩
 have M_Swap:Mak l.prog w K mg base 1 "Swap" C_Swap ["place","old","new"]:=⟨j_Swap,_,["self","place","old","new"],⟨mk_Swap,aI_Swap,iI_Swap,kc_Swap⟩,zlo FI_Swap cl_Swap n_Swap_place n_Swap_old n_Swap_new,bI_Swap,m_Swap⟩
 have M_Read:Mak l.prog w K mg base 1 "Read" C_Read ["place","words"]:=⟨j_Read,_,["self","place","words"],⟨mk_Read,aI_Read,iI_Read,kc_Read⟩,zlp FI_Read cl_Read n_Read_place n_Read_words,bI_Read,m_Read⟩
 have M_PutIn:Mak l.prog w K mg base 1 "PutIn" C_PutIn ["place","node"]:=⟨j_PutIn,_,["self","place","node"],⟨mk_PutIn,aI_PutIn,iI_PutIn,kc_PutIn⟩,zjR FI_PutIn cl_PutIn n_PutIn_place n_PutIn_node,bI_PutIn,m_PutIn⟩
 have M_LeaveOut:Mak l.prog w K mg base 1 "LeaveOut" C_LeaveOut ["place"]:=⟨j_LeaveOut,_,["self","place"],⟨mk_LeaveOut,aI_LeaveOut,iI_LeaveOut,kc_LeaveOut⟩,zgu FI_LeaveOut cl_LeaveOut n_LeaveOut_place,bI_LeaveOut,m_LeaveOut⟩
 have M_Anew:Mak l.prog w K mg base 1 "Anew" C_Anew ["place"]:=⟨j_Anew,_,["self","place"],⟨mk_Anew,aI_Anew,iI_Anew,kc_Anew⟩,zlr FI_Anew cl_Anew n_Anew_place,bI_Anew,m_Anew⟩
 have G_finds:Fn l.prog w K mg base 1 "finds" ["counted","deed","made"] zeS:=zmT d1 
 have G_change_counted:FnM l.prog w K mg base 1 "change_counted" ["counted","deed"] 0 zaP:=zew d2 
 have G_has_only:Fn l.prog w K mg base 1 "has_only" ["text","signs"] zcN:=zib d3 z_all
 have G_named_in:Fn l.prog w K mg base 1 "named_in" ["deeds"] zdG:=zh7 d4 
 have G_law_cell_at:Fn l.prog w K mg base 1 "_law_cell_at" ["_law_script","_law_k"] za2:=zfF d5 z_len
 have G_law_names:Fn l.prog w K mg base 1 "_law_names" ["_law_cell"] zda:=zg5 d6 z_int z_range
 have G_law_kind:Fn l.prog w K mg base 1 "_law_kind" ["_law_cell"] zcJ:=zh8 d7 z_str
 have G_law_living:Fn l.prog w K mg base 1 "_law_living" ["_law_acts_here","_law_seen"] zcI:=zgk d8 z_reversed
 have G_law_found:Fn l.prog w K mg base 1 "_law_found" ["_law_rows","_law_name","_law_number","_law_day"] zb6:=zg6 d9 z_len z_range
 have G_law_same_change:Fn l.prog w K mg base 1 "_law_same_change" ["_law_found_here","_law_kind_here"] (za3 ⟨C_Book,C_Swap,C_Read,C_PutIn,C_LeaveOut,C_Anew⟩):=zec d10 cf z_isinstance m_Anew m_LeaveOut m_PutIn m_Read m_Swap
 have G_law_whole:Fn l.prog w K mg base 1 "_law_whole" ["_law_found_here"] zcr:=zg3 d11 z_bool z_int z_isinstance
 have M_Book_acts:Mth l.prog w K mg base 1 C_Book "acts" ["self"] (zdc ⟨C_Book,C_Swap,C_Read,C_PutIn,C_LeaveOut,C_Anew⟩):=zg8 FI_Book_acts bI_Book_acts ⟨aM_Book_acts,iM_Book_acts,kI_Book_acts⟩ cl_Book cf z_list
 have G_living_acts:Fn l.prog w K mg base 2 "living_acts" ["book","seen"] (zcv ⟨C_Book,C_Swap,C_Read,C_PutIn,C_LeaveOut,C_Anew⟩):=zfE d12 cf z_reversed M_Book_acts
 have G_take_deed:FnM l.prog w K mg base 2 "take_deed" ["counted","name","made","number","deed"] 0 zcq:=zg2 d13 G_finds G_change_counted
 have G_is_name:Fn l.prog w K mg base 2 "is_name" ["thing"] zep:=zjC d14 G_has_only z_isinstance z_len z_str g_LONGEST_NAME g_SMALL_LETTERS
 have G_law_deed:Fn l.prog w K mg base 2 "_law_deed" ["_law_cell","_law_k","_law_day","_law_names_here"] zcK:=zh9 d15 G_law_kind
 have G_law_acts:Fn l.prog w K mg base 3 "_law_acts" ["_law_script","_law_names_here"] zdH:=zia d16 G_law_cell_at G_law_deed z_len z_range
 have G_law_change:Fn l.prog w K mg base 3 "_law_change" ["_law_kind_here"] (zcM ⟨C_Book,C_Swap,C_Read,C_PutIn,C_LeaveOut,C_Anew⟩):=zgn d17 cf M_Anew M_LeaveOut M_PutIn M_Read M_Swap
 have M_Book_refuse_act:Mth l.prog w K mg base 3 C_Book "refuse_act" ["self","name","day","named"] (za4 ⟨C_Book,C_Swap,C_Read,C_PutIn,C_LeaveOut,C_Anew⟩):=zed FI_Book_refuse_act bI_Book_refuse_act ⟨aM_Book_refuse_act,iM_Book_refuse_act,kI_Book_refuse_act⟩ cl_Book cf G_is_name z_len
 have G_what_counts:Fn l.prog w K mg base 4 "what_counts" ["book","seen"] (za1 ⟨C_Book,C_Swap,C_Read,C_PutIn,C_LeaveOut,C_Anew⟩):=zfD d18 cf G_living_acts G_take_deed z_enumerate z_sorted lo_what_counts
 have G_law_handed:Fn l.prog w K mg base 4 "_law_handed" ["_law_deed_here"] (zcc ⟨C_Book,C_Swap,C_Read,C_PutIn,C_LeaveOut,C_Anew⟩):=zgl d19 cf G_law_change
 have G_law_counts:Fn l.prog w K mg base 4 "_law_counts" ["_law_acts_here","_law_seen"] zcL:=zgm d20 G_law_living G_law_found z_len z_range z_sorted lo_law_counts
 have M_Book_act:MthB l.prog w K mg base 4 C_Book "act" ["self","name","day","deeds"] (zdI ⟨C_Book,C_Swap,C_Read,C_PutIn,C_LeaveOut,C_Anew⟩):=zic FI_Book_act bI_Book_act ⟨aM_Book_act,iM_Book_act,kI_Book_act⟩ cl_Book cf G_named_in z_tuple M_Book_refuse_act
 have M_Book_back:MthB l.prog w K mg base 4 C_Book "back" ["self","name","day","other"] (zdb ⟨C_Book,C_Swap,C_Read,C_PutIn,C_LeaveOut,C_Anew⟩):=zg7 FI_Book_back bI_Book_back ⟨aM_Book_back,iM_Book_back,kI_Book_back⟩ cl_Book cf M_Book_refuse_act
 have G_law_put:FnB l.prog w K mg base 5 "_law_put" ["_law_book","_law_act"] (zdo ⟨C_Book,C_Swap,C_Read,C_PutIn,C_LeaveOut,C_Anew⟩):=zjB d21 cf G_law_handed M_Book_act M_Book_back
 have G_law_right:Fn l.prog w K mg base 5 "_law_right" ["_law_book","_law_acts_here","_law_seen"] (zb5 ⟨C_Book,C_Swap,C_Read,C_PutIn,C_LeaveOut,C_Anew⟩):=zg4 d22 cf G_what_counts G_law_counts G_law_same_change G_law_whole z_isinstance z_len z_list z_tuple z_zip
 have G_law:Fn l.prog w K mg base 6 "law" ["_law_script"] znO:=zrw (T:=⟨C_Book,C_Swap,C_Read,C_PutIn,C_LeaveOut,C_Anew⟩) d23 G_what_counts G_law_cell_at G_law_names G_law_acts G_law_put G_law_right M_Book
 exact zrK m23 l23 base G_law
end K33
namespace PySem.W.Fast
def tw12022301957448672242:=yy
def tw15691055016261213552:=yy
def tw4573117524211388698:=yy
def tw17911560155332843083:=yy
def tw10568866385000091343:=yy
def tw17487035593057189423:=yy
def tw6865761330931072233:=yy
def tw11163979462910524579:=yy
def tw12872836677347725893:=yy
def tw10737808387631057902:=yy
def tw5613214758079447563:=yy
def tw8889786680599674571:=yy
def tw3582456356523011682:=yy
def tw11164889727591292172:=yy
def tw10590616992639919686:=yy
def tw4172676656090833710:=yy
def tw7764926240246027280:=yy
def tw377201966204613151:=yy
def tw13449264668367480220:=yy
def tw16416796420658734820:=yy
def tw4823067108521144737:=yy
def tw1090952737711853806:=yy
def tw2053544479625121990:=yy
def tw2274933573184190158:=yy
def tw17362861070739120606:=yy
def tw2984448422255208441:=yy
def tw3586138489864037920:=yy
def tw18436284090473874138:=yy
def tw16293408131947069549:=yy
def tw8611218702493206982:=yy
def tw9122148373344350214:=yy
def tw5546930805085555128:=yy
def tw8012582121939836767:=yy
def tw326914984075189888:=yy
def tw10369693130868943875:=yy
def tw15017947888572198612:=yy
def tw5305201731316095688:=yy
def tw4006708062904590131:=yy
def tw7732016089221191845:=yy
def tw8345225895127043399:=yy
def tw18171056587458039347:=yy
def tw15685759613611268369:=yy
def tw4439925466532624544:=yy
def tw14616362337870480610:=yy
def tw3603671728330169405:=yy
def tw15427092681634569367:=yy
def tw9108600765472775551:=yy
def tw18033066183949805505:=yy
def tw16934868336205387750:=yy
def tw10248730672901487566:=yy
def tw15897401600342341449:=yy
def tw14521102089067288274:=yy
def tw16626698026416582350:=yy
def tw17771154553657555151:=yy
def tw6407460286463923333:=yy
def tw5100702335784818819:=yy
def tw13352239351285272812:=yy
def tw14946684341066201991:=yy
def tw1092652207378374019:=yy
def tw18400817915738846971:=yy
def tw915165540019553415:=yy
def tw3304182614652130825:=yy
def tw1225166266424665997:=yy
def tw11718124000467879550:=yy
def tw890669071190823387:=yy
def tw5772492219912970476:=yy
def tw15998293884367228870:=yy
def tw13088583599806932036:=yy
def tw17672859388766287365:=yy
def tw609588333423749737:=yy
def tw2878827873207982501:=yy
def tw8633356584018648085:=yy
def tw7135591675247800501:=yy
def tw8782799621817071603:=yy
def tw5020094470220007506:=yy
def tw4134622681941783852:=yy
def tw2348656697645422026:=yy
def tw5608504640132791497:=yy
def tw11901893806679130720:=yy
def tw11381493898910638279:=yy
def tw185316479836608642:=yy
def tw111993636741158068:=yy
def tw11053580452629950957:=yy
def tw5673838177967996931:=yy
def tw11331296601593692214:=yy
def tw13569803427697829217:=yy
def tw995549602479845703:=yy
def tw17191793375383599141:=yy
def tw11673615947885708797:=yy
def tw8298242528300098445:=yy
def tw5802200058335955436:=yy
def tw16141247756361417486:=yy
def tw10752759158933991086:=yy
def tw12000125390544787197:=yy
def tw6539279611809692913:=yy
def tw7742581293157808320:=yy
def tw7351280801924454051:=yy
def tw14456206565964071362:=yy
def tw7493198283053491463:=yy
def tw2959409509090193323:=yy
def tw13935884110158236073:=yy
def tw16494834438114659990:=yy
def tw12168448239670903053:=yy
def tw4476095870117630021:=yy
def tw7351323954842354972:=yy
def tw17459818710246095755:=yy
def tw7885066451246020136:=yy
def tw13799693626107086877:=yy
def tw2729555313151879711:=yy
def tw123021320773161002:=yy
def tw8626667500169162505:=yy
def tw2601285218660003445:=yy
def tw16088663218815634918:=yy
def tw1193508552714484223:=yy
def tw16972607653373440989:=yy
def tw10089716523493398658:=yy
def tw14614895464580462530:=yy
def tw17290148302963222422:=yy
def tw11236797853878554900:=yy
def tw7057798873523738973:=yy
def tw8093904550084647024:=yy
def tw10848384087952983624:=yy
def tw10655086768062143757:=yy
def tw17687807308355251455:=yy
def tw10242619849005967:=yy
def tw10771225581033956718:=yy
def tw13510502766882130144:=yy
def tw13914609437901421892:=yy
def tw10210732971067987164:=yy
def tw6158204717126952311:=yy
def tw14019627091096285948:=yy
def tw9292394370088673548:=yy
def tw10533668042695738490:=yy
def tw16834062951110943695:=yy
def tw11687514519027429256:=yy
def tw2846924111576418322:=yy
def tw11381990844584572135:=yy
def tw12572520912149475818:=yy
def tw7155249806492136251:=yy
def tw18283207388077327693:=yy
def tw301866855654809320:=yy
def tw4336773759504870326:=yy
def tw6987957525216383397:=yy
def tw3739203574002232399:=yy
def tw17105901435547323958:=yy
def tw14383186932904737779:=yy
def tw12302063301142806278:=yy
def tw10897898264077009331:=yy
def tw7162205822250197135:=yy
def tw11462308322952966683:=yy
def tw13309803256772503705:=yy
def tw7256280758182524526:=yy
def tw3011950686439581450:=yy
def tw15584632651126268240:=yy
def tw6422717231148709728:=yy
def tw7941402781569748562:=yy
def tw9552532959126559190:=yy
def tw13294180923644348268:=yy
def tw4553273627101357487:=yy
def tw587235681545726951:=yy
def tw15164731239625312117:=yy
def tw9474791108769448617:=yy
def tw10335169376817867095:=yy
def tw2197826179918469462:=yy
def tw14505352840658289788:=yy
def tw4684657996411125719:=yy
def tw6367824453324533059:=yy
def tw2579151055909067528:=yy
def tw15142818921426719695:=yy
def tw15209163044941946513:=yy
def tw8734763195794438155:=yy
def tw10321699352886612837:=yy
def tw746959892440447200:=yy
def tw1555283298506625187:=yy
def tw4661127393627613927:=yy
def tw11900069555952169359:=yy
def tw9023630784783490389:=yy
def tw7209609466137092023:=yy
def tw15572837519152276091:=yy
def tw675631178475121852:=yy
def tw1687190013297597109:=yy
def tw291320873700157942:=yy
def tw214880809499366192:=yy
def tw10698470825327823543:=yy
def tw4261867267094774563:=yy
def tw9973134282425984273:=yy
def tw1913514669890344708:=yy
def tw15027630561671582139:=yy
def tw1695075450875862338:=yy
def tw1004991703990809662:=yy
def tw9325991888562922604:=yy
def tw4997250312103632516:=yy
def tw481441755210712916:=yy
def tw17401752741074279873:=yy
def tw3372386168266646019:=yy
def tw16309740992727314866:=yy
def tw6736404515821476263:=yy
def tw6647985048050039166:=yy
def tw17849136979134187599:=yy
def tw15386903136917220308:=yy
def tw5849387231524649652:=yy
def tw10858708543398350179:=yy
def tw18295673257003731774:=yy
def tw11268101633727199966:=yy
def tw11397775236391820318:=yy
def tw16599801569395106144:=yy
def tw11883861054861521170:=yy
def tw13602602813138912933:=yy
def tw5925547655376702255:=yy
def tw3931398337906161865:=yy
def tw4837757522014825394:=yy
def tw11496244186196711258:=yy
def tw5800256548587026201:=yy
def tw1641485854412891291:=yy
def tw11299063831668640934:=yy
def tw4731765108127819525:=yy
def tw582764700166122186:=yy
def tw17134658325009319631:=yy
def tw10908685455311538757:=yy
def tw13917663058533553448:=yy
def tw17431194190354798298:=yy
def tw17857352613445296314:=yy
def tw6599125791340417953:=yy
def tw5063437304335161143:=yy
def tw11540875921530055390:=yy
def tw15639122671597847644:=yy
def tw8944781132708406291:=yy
def tw6733626094882788319:=yy
def tw1209635747456620311:=yy
def tw11796939326450432731:=yy
def tw7872344553465099139:=yy
def tw5284088733653393659:=yy
def tw423618689501485169:=yy
def tw12014915773242109926:=yy
def tw17652805313762916033:=yy
def tw11827393386350551135:=yy
def tw12934074387045297352:=yy
def tw16923055195785904900:=yy
def tw9433611853171851578:=yy
def tw3280844271761672695:=yy
def tw10846066112880475501:=yy
def tw784308986356246798:=yy
def tw3279392652277712032:=yy
def tw4861494634441929533:=yy
def tw10914900024280205488:=yy
def tw4860234659961297511:=yy
def tw12160181598304270483:=yy
def tw13457216414503611757:=yy
def tw12391453462752053948:=yy
def tw4134003315259795024:=yy
def tw12955647006847150761:=yy
def tw16144954145335245497:=yy
def tw8715586866800955514:=yy
def tw7519069154697782735:=yy
def tw15247734627578372437:=yy
def tw12366519471803163217:=yy
def tw5808063400243747471:=yy
def tw4525037964663532691:=yy
def tw868536453421156078:=yy
def tw7976333602031832807:=yy
def tw1414821973782317254:=yy
def tw11247424497354209199:=yy
def tw12646722140143138225:=yy
def tw10937503863205368502:=yy
def tw11525768481840363391:=yy
def tw15098101396836430130:=yy
def tw18024991642381427211:=yy
def tw12705786218193105626:=yy
def tw17496578658533205528:=yy
def tw2092932798630708104:=yy
def tw7923385290670118251:=yy
def tw9271305193483421514:=yy
def tw11959889714968468292:=yy
def tw13274991050932818437:=yy
def tw18191475471482026321:=yy
def tw3425839778181698133:=yy
def tw15979731132095461746:=yy
def tw9797657018074652969:=yy
def tw8413389778579796440:=yy
def tw16607737814678864694:=yy
def tw17020324016714302552:=yy
def tw9927653409833479399:=yy
def tw13506938672874566006:=yy
def tw14757169919765721371:=yy
def tw4683815325865059404:=yy
def tw4488522283711049077:=yy
def tw2983062566367771833:=yy
def tw8859094342182906522:=yy
def tw5755576385350812967:=yy
def tw8183587638701452224:=yy
def tw4062483363884368494:=yy
def tw18031910277967540821:=yy
def tw4817287002660179481:=yy
def tw12325858428748504437:=yy
def tw18385697480467453047:=yy
def tw8413368142805087767:=yy
def tw6053822413810082532:=yy
def tw5631449777700648141:=yy
def tw2821286167664586819:=yy
def tw1141750580358799450:=yy
def tw6788637481351013334:=yy
def tw18020580953517920709:=yy
def tw8296482322547677585:=yy
def tw14339520636241402576:=yy
def tw2282578260484982405:=yy
def tw364606575621462579:=yy
def tw10294840674902643752:=yy
def tw8224236722961812672:=yy
def tw9012950218209800817:=yy
def tw15590189551830906440:=yy
def tw1939865775175600934:=yy
def tw15218505152544323190:=yy
def tw13540688736617320806:=yy
def tw13542801451988442449:=yy
def tw6236287538202564919:=yy
def tw15616515711358527477:=yy
def tw480075452532898493:=yy
def tw14151280860007688481:=yy
def tw3155755208344605274:=yy
def tw1900509864628777376:=yy
def tw11702778699671215486:=yy
def tw2960507442011385670:=yy
def tw2797036277106734017:=yy
def tw8488193026906794812:=yy
def tw5261702093437163134:=yy
def tw2054252549165604919:=yy
def tw13639235093548248384:=yy
def tw13431688749764729389:=yy
def tw848329508783520152:=yy
def tw58864016544793820:=yy
def tw16920252743170046574:=yy
def tw12246826449815775679:=yy
def tw850298345949824235:=yy
def tw14890242858605185786:=yy
def tw9734104727844137535:=yy
def tw11688219230579936314:=yy
def tw1762359862724299342:=yy
def tw2511815646240409882:=yy
def tw476670078973029612:=yy
def tw7620810621222454102:=yy
def tw8155650912721290476:=yy
def tw6671266200408154608:=yy
def tw12757705955650782466:=yy
def tw4653297823651865239:=yy
def tw2348274897381729197:=yy
def tw12034951735390811351:=yy
def tw14734534178108643427:=yy
def tw9343174614617877012:=yy
def tw4492672859652101390:=yy
def tw14233116355105074209:=yy
def tw9023946358163766142:=yy
def tw17891388784659831689:=yy
def tw1304590857975661975:=yy
def tw16655427472512336598:=yy
def tw7800991351063677073:=yy
def tw13479463887724031571:=yy
def tw1354317218502812207:=yy
def tw5083691172931103118:=yy
def tw17874227180375726997:=yy
def tw10555201337705114714:=yy
def tw7648736829415200975:=yy
def tw15585027401814442467:=yy
def tw4609385128978304634:=yy
def tw4070501129776575967:=yy
def tw13385217100470334042:=yy
def tw2625968444056986237:=yy
def tw10818718909503445385:=yy
def tw13138414397522244477:=yy
def tw1592239657946304816:=yy
def tw5932904093912344293:=yy
def tw17693993446913688865:=yy
def tw13563703337054387345:=yy
def tw11138437293083818911:=yy
def tw6291458461941323316:=yy
def tw15247598858781455121:=yy
def tw874166069998763404:=yy
def tw8008802679768664036:=yy
def tw3590154591091372512:=yy
def tw7456731071721080555:=yy
def tw5566997373628546877:=yy
def tw15852714655847224031:=yy
def tw1795008434101886687:=yy
def tw16687209541268158560:=yy
def tw17399372778660573063:=yy
def tw3466722170899495529:=yy
def tw10857476305822653461:=yy
def tw15786153299925151868:=yy
def tw6293786604921425441:=yy
def tw8040017664088820082:=yy
def tw16389781730421790470:=yy
def tw1124575174392730515:=yy
def tw6927178270916086422:=yy
def tw1131862868689729779:=yy
def tw2349546761433226552:=yy
def tw6895756481111096467:=yy
def tw15273403191775165637:=yy
def tw1945095326727859023:=yy
def tw4004556459177698979:=yy
def tw12754426944584681038:=yy
def tw790791443822581819:=yy
def tw17114724525264725574:=yy
def tw12715973022355992935:=yy
def tw9581368730605891647:=yy
def tw14058036888186335243:=yy
def tw6401732803824442445:=yy
def tw17839680586289113768:=yy
def tw1363316288512545912:=yy
def tw10052261997073890936:=yy
def tw15231633591872710537:=yy
def tw16274894867242211634:=yy
def tw16273160025905240038:=yy
def tw15569467252043890240:=yy
def tw356177022036162385:=yy
def tw15739228049273131607:=yy
def tw15874379053829901458:=yy
def tw577943349115442117:=yy
def tw7567446849645407075:=yy
def tw15291345133453607922:=yy
def tw10912889638843979408:=yy
def tw2993283694513543697:=yy
def tw6717779952354611163:=yy
def tw49614725536246995:=yy
def tw13954173257592163952:=yy
def tw11871340535118641593:=yy
def tw2394351823940827415:=yy
def tw3108473437233961276:=yy
def tw11102600443551552390:=yy
def tw13133565825505841693:=yy
def tw8951476619704116355:=yy
def tw783424597298718032:=yy
def tw14976908807259078818:=yy
def tw52339742074017864:=yy
def tw17808197851120838360:=yy
def tw7365896296059361358:=yy
def tw15985707841226930928:=yy
def tw5652672591530263706:=yy
def tw16504908181652488219:=yy
def tw15068657613579671199:=yy
def tw14263639657167250446:=yy
def tw2013765774275038753:=yy
def tw155245253506716339:=yy
def tw13648496084249924975:=yy
def tw10356711033035131443:=yy
def tw4947248109333098462:=yy
def tw8870449143906282528:=yy
def tw5278569319048089963:=yy
def tw5143459487223517635:=yy
def tw2165240712799448099:=yy
def tw7257484401084774595:=yy
def tw15550481593185733980:=yy
def tw3871567873713080522:=yy
def tw8677596752280400420:=yy
def tw17714394108080091775:=yy
def tw1635454105984949198:=yy
end PySem.W.Fast
open PySem PySem.W PyProof.Rows
set_option maxRecDepth 100000 in
set_option maxHeartbeats 0 in
theorem PySem.Challenge.cw_codemend_k33_what_counts_holds : PySem.Challenge.rw_codemend_k33_what_counts.Holds := by
 w_on; o_law; k_head; (case hw=>w_witness2)
 k_fill
 refine PL.walk_lawT (l:=PySem.Challenge.rw_codemend_k33_what_counts) (k:=6) (x:="_law_script") [(436,"_law_counts.<locals>.<lambda>"),(30,"what_counts.<locals>.<lambda>")] rfl rfl ⟨rfl,by decide,by decide⟩ (fun w h Y=>PySem.W.km_in_of Y) (fun w h Y b q e=>PySem.W.km_tabs_of Y b (K33.tab_mem e)) ?F
 case F =>
  intro w mg fa h KX G hmg
  refine' K33.all_mk KX G hmg ?q0 ?q1 ?q2 ?q3 ?q4 ?q5 ?q6 ?q7 ?q8 ?q9 ?qa ?qb ?qc ?qd ?qe ?qf ?qg ?qh ?qi ?qj ?qk ?ql ?qm ?qn ?qo ?qp ?qq ?qr ?qs ?qt ?qu ?qv ?qw ?qx ?qy ?qz ?q10 ?q11 ?q12 ?q13 ?q14 ?q15 ?q16 ?q17 ?q18 ?q19 ?q1a ?q1b ?q1c ?q1d ?q1e ?q1f ?q1g ?q1h ?q1i ?q1j ?q1k ?q1l ?q1m ?q1n ?q1o ?q1p ?q1q ?q1r ?q1s ?q1t ?q1u ?q1v ?q1w ?q1x ?q1y ?q1z ?q20 ?q21 ?q22 ?q23 ?q24 ?q25 ?q26 ?q27 ?q28 ?q29 ?q2a ?q2b ?q2c ?q2d ?q2e ?q2f ?q2g ?q2h ?q2i ?q2j ?q2k ?q2l ?q2m ?q2n ?q2o ?q2p ?q2q ?q2r ?q2s ?q2t ?q2u ?q2v ?q2w ?q2x ?q2y ?q2z ?q30 ?q31 ?q32 ?q33 ?q34 ?q35 ?q36 ?q37 ?q38 ?q39 ?q3a ?q3b ?q3c ?q3d ?q3e ?q3f ?q3g ?q3h ?q3i ?q3j ?q3k ?q3l ?q3m ?q3n ?q3o ?q3p ?q3q ?q3r ?q3s ?q3t ?q3u ?q3v ?q3w ?q3x ?q3y ?q3z ?q40 ?q41 ?q42 ?q43 ?q44 ?q45 ?q46 ?q47 ?q48 ?q49 ?q4a ?q4b ?q4c ?q4d ?q4e ?q4f ?q4g ?q4h ?q4i ?q4j ?q4k ?q4l ?q4m ?q4n ?q4o ?q4p
  (case q0|q1|q2|q3|q4|q5|q6|q7|q8|q9|qa|qb|qc|qd|qe|qf|qg=>apply PL.Dn.mk<;>k_is)
  (case qh|qi|qj|qk=>k_is)
  (case ql=>apply PL.Dn.mk<;>k_is)
  (case qm|qn|qo|qp=>k_is)
  (case qq|qr=>apply PL.Dn.mk<;>k_is)
  (case qs|qt|qu|qv|qw|qx|qy|qz|q10|q11|q12|q13|q14|q15|q16|q17|q18|q19=>k_is)
  (case q1a=>decide +kernel)
  (case q1b=>k_is)
  (case q1c=>decide +kernel)
  (case q1d|q1e|q1f|q1g|q1h|q1i|q1j|q1k|q1l|q1m|q1n|q1o|q1p|q1q|q1r|q1s|q1t|q1u|q1v|q1w|q1x|q1y|q1z|q20|q21|q22|q23|q24|q25|q26|q27|q28|q29|q2a|q2b|q2c|q2d|q2e|q2f|q2g|q2h|q2i|q2j|q2k|q2l|q2m|q2n|q2o|q2p|q2q|q2r|q2s|q2t|q2u|q2v|q2w|q2x|q2y|q2z|q30|q31|q32|q33|q34|q35|q36|q37|q38|q39|q3a|q3b|q3c|q3d|q3e|q3f|q3g|q3h|q3i|q3j|q3k|q3l|q3m|q3n|q3o|q3p|q3q|q3r|q3s|q3t|q3u|q3v|q3w|q3x|q3y|q3z|q40|q41|q42|q43|q44|q45|q46|q47|q48|q49|q4a|q4b|q4c|q4d|q4e|q4f|q4g|q4h|q4i|q4j=>k_is)
  (case q4k|q4l=>kernel_rfl)
  (case q4m=>exact rfl)
  (case q4n|q4o=>kernel_rfl)
  (case q4p=>exact rfl)

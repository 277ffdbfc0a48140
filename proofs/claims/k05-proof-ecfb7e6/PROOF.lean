import PyProof.Rows.All
import Wide.All
import OpenK.AllK
import Wide.FinOn
import Lean
import PyProof.EqAt
import PyProof.EqKinds
import PyProof.TupleCall
import KE.KRevIter
import PyProof.StationsW
import PyProof.ExcClass2
import PyProof.ExcInit
import PyProof.ExcBaseAll.ValueError
import PyProof.ExcArgsOwn
import OpenK.KMake
import KE.KIsAll
import PyProof.InstStoreFacts
import PyProof.FString2
import KE.KTryMore
import PyProof.NsDelKeeps
import PyProof.Rows.StrSplitJoin
import PyProof.StrLawsTight
import PyProof.ListMulRoad
import PyProof.ZipIter
import PyProof.TupleIter
import PyProof.WalksMore
import KE.KSortAsk
import KE.KSortTup
import KE.KDictLaws
import PyProof.NeKinds
import PyProof.EnumFor
import PyProof.EnumMake
import PyProof.DictItems
import PyProof.Draws
import PyProof.Rows.CallKwBuiltin
import PyProof.ReprHeadsTuple
import PyProof.StrLawsRepr
import PyProof.AttrMissHeap
import PyProof.Rows.SetFrom
import PyProof.DictRoadsH
import PyProof.Rows.Tup
import PyProof.FactsAll.dict_1
import PySem.Challenge.RW_codemend_k05_words_at_a_place
set_option linter.all false
abbrev yyL:=List (PySem.Addr × PySem.Obj)
abbrev yyD (x:PySem.Str):Prop:=(x == ("__debug__":PySem.Str))=false
section
open PySem PySem.Spec PySem.Calls PyProof.Rows
def yA:=@wpAny_bind
def yB:=@List.getElem?_eq_getElem
def yC:=@Heap.get?_push_of_some
def yD:=@Nat.le_refl
def yE:=@List.getElem?_eq_some_iff
def yF:=@wpAny_pure
def yG:=@List.length_map
def yH:=@if_neg
def yI:=@if_pos
def yJ:=@Heap.lt_size
def yK:=@List.getElem?_map
def yL:=@List.mem_of_getElem?
def yM:=@Heap.get?_push_size
def yN:=@Bool.false_ne_true
def yO:=@List.mem_cons_of_mem
def yP:=@absurd
def yQ:=@List.mem_cons
def yR:=@Array.getElem?_toList
def yS:=@List.size_toArray
def yT:=@Nat.lt_of_lt_of_le
def yU:=@List.mem_cons_self
def yV:=@List.mem_append_right
def yW:=@Nat.ne_of_lt
def yX:=@List.map_cons
def yY:=@decide_eq_false
def yZ:=@List.getElem?_set_ne
def ya:=@PyProof.Rows.boot_isinstance
def yb:=@List.mem_append
def yc:=@List.mem_singleton
def yd:=@List.append_nil
def ye:=@Array.getElem?_eq_getElem
def yf:=@wpAny_mono
def yg:=@List.length_append
def yh:=@List.mem_map
def yi:=@List.lookup_cons
def yj:=@Heap.get?_update_other
def ym:=@congrArg
def yn:=@Nat.zero_le
def yo:=@decide_eq_true_eq
def yp:=@Bool.and_eq_true
def yq:=@List.take_of_length_le
def yr:=@List.getElem?_set_self
def yt:=@List.pairwise_append
def yu:=@Array.getElem?_eq_some_iff
def yx:=@List.mem_map_of_mem
def yz:=@Array.length_toList
def YA:=@List.not_mem_nil
def YB:=@List.length_take
def YC:=@wpAny_newObj_type
def YD:=@decide_eq_true
def YE:=@List.mem_append_left
def YF:=@List.append_assoc
def YG:=@Nat.le_trans
def YH:=@List.map_map
def YI:=@wpAny_field
def YJ:=@List.pairwise_iff_getElem
def YK:=@List.drop_eq_getElem_cons
def YL:=@Bool.false_eq_true
def YM:=@List.drop_eq_nil_of_le
def YN:=@Array.getElem?_extract
def YO:=@Array.toList_append
def YQ:=@PySem.boot_len
def YR:=@Option.isSome_iff_exists
def YS:=@List.find?_cons
def YT:=@wpAny_Call_Name_kw
def YU:=@wpAny_call_entry
def YV:=@PyProof.Rows.boot_tuple
def YW:=@Nat.lt_irrefl
def YX:=@List.getElem?_append_left
def YY:=@Heap.get?_update_self
def YZ:=@List.mem_reverse
def Ya:=@List.length_drop
def Yb:=@List.getElem?_drop
def Yc:=@Bool.eq_false_iff
def Yd:=@PySem.mem_of_lookup
def Ye:=@List.replicate_succ
def Yf:=@List.map_congr_left
def Yg:=@wpAny_holding
def Yh:=@List.length_cons
def Yi:=@List.getElem_mem
def Yj:=@List.all_eq_true
def Yk:=@wpAny_seqItems
def Yl:=@Heap.size_push
def Ym:=@List.nodup_cons
def Yn:=@List.nil_append
def Yo:=@PySem.F.slot_tuple_iterator_next
def Yp:=@PyProof.Rows.slot_tuple_getitem
def Yq:=@wpAny_setField
def Yr:=@Or.inr
def Ys:=@Option.getD_some
def Yt:=@wpAny_typeNameOfWhole_keyiter
def Yu:=@List.eq_nil_of_length_eq_zero
def Yv:=@wpAny_setField_rec
def Yw:=@Option.map_eq_some_iff
def Yx:=@wpAny_passesOwn
def Yy:=@wpAny_execs_nil
def Yz:=@wpAny_attempt
def JA:=@PyProof.Rows.callWith_type1
def JB:=@List.flatten_cons
def JC:=@Int.toNat_natCast
end
set_option compiler.extract_closed false
def yy:=trivial
noncomputable section
set_option Elab.async false
set_option maxRecDepth 100000
namespace L2
open PySem PySem.Spec PyProof.Rows
abbrev Key:=Sum Int Str
def ziF:Key->Value->Bool
 | .inl k,v=>Value.isInt k v
 | .inr x,v=>Value.isStrOf x v
def zuC (w:World):Key->Int
 | .inl k=>hashInt k
 | .inr x=>hashStr w x
theorem zaj:∀ {k:Key} {v:Value},ziF k v=true->(∃ i t,k=Sum.inl i/\v=Value.int i t)\/(∃ x t,k=Sum.inr x/\v=Value.str x t)
 | .inl i,v,h=>by
  obtain ⟨t,e⟩:=Value.isInt_shape (k:=i) (v:=v) h; exact .inl ⟨i,t,rfl,e⟩
 | .inr x,v,h=>by
  obtain ⟨t,e⟩:=Value.isStrOf_shape (x:=x) (v:=v) h; exact .inr ⟨x,t,rfl,e⟩
def zkc (i:Int) (t:Tok):ziF (.inl i) (.int i t)=true:=by simp [ziF,Value.isInt]
def zkb (x:Str) (t:Tok):ziF (.inr x) (.str x t)=true:=by simp [ziF,Value.isStrOf]
def zrc (a b:Int):decide ((Sum.inl a:Key)=Sum.inl b)=(a == b):=by
 by_cases e:a=b
 ·subst e; simp
 ·have h:¬ (Sum.inl a:Key)=Sum.inl b:=fun q=>e (Sum.inl.inj q)
  rw [yY h]; exact (beq_eq_false_iff_ne.mpr e).symm
def zq9 (a b:Str):decide ((Sum.inr a:Key)=Sum.inr b)=decide (a=b):=by
 by_cases e:a=b
 ·subst e; simp
 ·have h:¬ (Sum.inr a:Key)=Sum.inr b:=fun q=>e (Sum.inr.inj q)
  rw [yY h,yY e]
def zrb (a:Int) (b:Str):decide ((Sum.inl a:Key)=Sum.inr b)=false:=yY (fun q=>nomatch q)
def zra (a:Str) (b:Int):decide ((Sum.inr a:Key)=Sum.inl b)=false:=yY (fun q=>nomatch q)
def zaT (prog:Program) (w:World):PySem.KeyKind prog w Key where
 is:=ziF
 hash:=zuC w
 inj:=fun v a b ha hb=>by
  rcases zaj ha with ⟨i,t,rfl,rfl⟩ | ⟨x,t,rfl,rfl⟩
  ·rcases zaj hb with ⟨j,u,rfl,e⟩ | ⟨y,u,rfl,e⟩
   ·injection e with e1 _; rw [e1]
   ·exact nomatch e
  ·rcases zaj hb with ⟨j,u,rfl,e⟩ | ⟨y,u,rfl,e⟩
   ·exact nomatch e
   ·injection e with e1 _; rw [e1]
 byValue:=fun k v h=>by
  rcases zaj h with ⟨i,t,rfl,rfl⟩ | ⟨x,t,rfl,rfl⟩ <;> rfl
 pyHash:=fun hv h=>by
  rcases zaj hv with ⟨i,t,rfl,rfl⟩ | ⟨x,t,rfl,rfl⟩
  ·exact wpAny_pyHash_int h
  ·exact wpAny_pyHash_str h
 eqBool:=fun hu hv h=>by
  rcases zaj hu with ⟨i,t,rfl,rfl⟩ | ⟨x,t,rfl,rfl⟩
  ·rcases zaj hv with ⟨j,u,rfl,rfl⟩ | ⟨y,u,rfl,rfl⟩
   ·rw [zrc] at h; exact wpAny_eqBool_int h
   ·rw [zrb] at h; exact SeqAt.EqAt.int_str i t y u _ _ _ _ h
  ·rcases zaj hv with ⟨j,u,rfl,rfl⟩ | ⟨y,u,rfl,rfl⟩
   ·rw [zra] at h; exact SeqAt.EqAt.str_int x t j u _ _ _ _ h
   ·rw [zq9] at h; exact wpAny_eqBool_str h
 «strs»:=fun k x t v h=>by
  rcases zaj h with ⟨i,u,rfl,e⟩ | ⟨y,u,rfl,e⟩
  ·exact nomatch e
  ·injection e with e1 _
   subst e1
   cases v <;> rfl
def zg2 (prog:Program) (w:World) (i:Int) (t:Tok):(zaT prog w).is (.inl i) (.int i t)=true:=zkc i t
def zg1 (prog:Program) (w:World) (x:Str) (t:Tok):(zaT prog w).is (.inr x) (.str x t)=true:=zkb x t
inductive V where
 | non | bl (b:Bool) | int (i:Int) | str (x:Str) | byt (b:Array UInt8) | flt (b:UInt64) | ref (a:Addr) | ty (n:String)
 deriving DecidableEq
def zap:V->Value->Prop
 | .non,u=>u=Value.none
 | .bl b,u=>u=Value.bool b
 | .int i,u=>∃ t,u=Value.int i t
 | .str x,u=>∃ t,u=Value.str x t
 | .byt b,u=>∃ t,u=Value.bytes b t
 | .flt b,u=>∃ t,u=Value.float b t
 | .ref a,u=>u=Value.ref a
 | .ty n,u=>u=Value.type n
abbrev zae:List V->List Value->Prop:=Paired zap
def zae.length {xs:List V} {us:List Value} (r:zae xs us):xs.length=us.length:=Paired.length r
theorem zae.get:∀ {xs:List V} {us:List Value} {i:Nat} {x:V},zae xs us->xs[i]?=some x->∃ u,us[i]?=some u/\zap x u
 | _,_,_,_,.nil,e=>by simp at e
 | _,_,0,_,.cons r _,e=>by simp at e; subst e; exact ⟨_,rfl,r⟩
 | _,_,i+1,x,.cons _ t,e=>by
  obtain ⟨u,h1,h2⟩:=zae.get (i:=i) (x:=x) t (by simpa using e)
  exact ⟨u,by simpa using h1,h2⟩
theorem zae.append:∀ {xs ys:List V} {us ws:List Value},zae xs us->zae ys ws->zae (xs ++ ys) (us ++ ws)
 | _,_,_,_,.nil,s=>s
 | _,_,_,_,.cons r t,s=>.cons r (zae.append t s)
theorem zae.take:∀ {xs:List V} {us:List Value} (n:Nat),zae xs us->zae (xs.take n) (us.take n)
 | _,_,0,_=>.nil
 | _,_,_+1,.nil=>.nil
 | _,_,n+1,.cons r t=>.cons r (zae.take n t)
theorem zae.drop:∀ {xs:List V} {us:List Value} (n:Nat),zae xs us->zae (xs.drop n) (us.drop n)
 | _,_,0,r=>r
 | _,_,_+1,.nil=>.nil
 | _,_,n+1,.cons _ t=>zae.drop n t
def zkM:Option V->Option Value->Prop
 | some v,some u=>zap v u
 | none,none=>True
 | _,_=>False
def KV {κ:Type}:List (κ × V)->List (κ × Value)->Prop:=Paired fun (p:κ × V) (q:κ × Value)=>p.1=q.1/\zap p.2 q.2
def kV:Key->V
 | .inl i=>.int i
 | .inr x=>.str x
inductive HO where
 | lst (xs:List V)
 | tup (xs:List V)
 | dK (kvs:List (Key × V)) | dT (kvs:List (List Key × V))
 | dE (kvs:List (List Key × V)) (ep:Nat)
 | set (S:Int->Bool) (n:Nat)
 | ins (C dx:Addr) (fs:List (Str × V))
 | own (x:Addr)
 | xd (fs:List (Str × V))
 | met (f x:Addr)
 | rng (lo hi:Int)
 | frz (o:Obj) (u:HO)
 | tbl (ps:Array Value)
 | ext (φ:Heap->Prop)
abbrev zts:HO:=.ext fun _=>True
def zba:List V ⊕ Obj->HO
 | .inl xs=>.tup xs
 | .inr o=>.frz o zts
abbrev Hp:=Addr->Option HO
def upd (H:Hp) (a:Addr) (o:HO):Hp:=fun b=>if b=a then some o else H b
def zn {H:Hp} {a:Addr} {o:HO}:upd H a o a=some o:=by unfold upd; rw [yI rfl]
def zq {H:Hp} {a b:Addr} {o:HO} (h:b≠a):upd H a o b=H b:=by unfold upd; rw [yH h]
def zjT {H:Hp} {a b:Addr} {o u:HO} (h:H a=some o) (h':H b=some u) (d:o≠u):a≠b:=by
 intro e; subst e; rw [h] at h'; exact d (Option.some.inj h')
def zw {H:Hp} {a b:Addr} {o:HO} (h:H a=some o) (h':H b=none):a≠b:=by
 intro e; subst e; rw [h] at h'; cases h'
section
variable (P:Program) (w:World)
def zal (H:Hp) (h:Heap) (a:Addr):HO->Prop
 | .lst xs=>xs.length<=sizeLine/\∃ (its:List Value) (n:Nat),zae xs its/\h.get? a=some { cls:=.type "list",data:=.seq its.toArray n }
 | .tup xs=>xs.length<=sizeLine/\∃ its:List Value,zae xs its/\IsTup h a its.toArray
 | .dK kvs=>kvs.length<=sizeLine/\(a == sysModules)=false/\∃ vs,KV kvs vs/\h.DictOf (zaT P w) a vs
 | .dT kvs=>kvs.length<=sizeLine/\(a == sysModules)=false/\∃ xs:List (List Key × Addr × Value),
   Paired (fun (p:List Key × V) (q:List Key × Addr × Value)=>p.1=q.1/\H q.2.1=some (.tup (p.1.map kV))/\zap p.2 q.2.2) kvs xs /\
   ∃ o es ep,h.get? a=some o/\o.ExactDict/\o.data=.dict es ep/\es.toList=xs.map (entryOfKey (tupleKind (zaT P w)))/\(xs.map (·.1)).Nodup
 | .dE kvs ep=>kvs.length<=sizeLine/\(a == sysModules)=false/\∃ xs:List (List Key × Addr × Value),
   Paired (fun (p:List Key × V) (q:List Key × Addr × Value)=>p.1=q.1/\H q.2.1=some (.tup (p.1.map kV))/\zap p.2 q.2.2) kvs xs /\
   ∃ o es,h.get? a=some o/\o.ExactDict/\o.data=.dict es ep/\es.toList=xs.map (entryOfKey (tupleKind (zaT P w)))/\(xs.map (·.1)).Nodup
 | .set S n=>h.SetOf (intKind P w) a S n
 | .ins C dx fs=>H dx=some (.own a)/\fs.length<=1000/\dx≠a/\h.get? a=some (W.instObj C dx) /\
   ∃ mA,h.Ns1 dx mA/\(∀ f,zkM (fs.lookup f) (mA f))/\PySem.Within mA (fs.map (·.1))
 | .own _=>∃ o,h.get? a=some o
 | .xd fs=>∃ mA,h.Ns1 a mA/\∀ f,zkM (fs.lookup f) (mA f)
 | .rng lo hi=>∃ t u v,h.get? a=some { cls:=.type "range",data:=.fields #[.int lo t,.int hi u,.int 1 v] }
 | .frz o u=>h.get? a=some o/\zal H h a u
 | .tbl ps=>∃ ts:Array Value,h.get? a=some { cls:=.none,data:=.fields ts }/\TriplesOk ts.toList/\∀ pos cv,codeAmong pos ts.toList=some cv->∃ c oc vs t q t0,cv=.ref c/\H c=some (zba (.inr oc))/\oc.data=.fields vs/\vs[1]?=some (.str q t)/\ps[0]?=some (.str q t0)
 | .met f x=>h.get? a=some (W.methodObj (.ref f) (.ref x))
 | .ext φ=>φ h/\(∃ o,h.get? a=some o)/\∀ h1 h2:Heap,φ h1->(∀ o,h1.get? a=some o->h2.get? a=some o)->φ h2
def HOk (H:Hp) (h:Heap):Prop:=∀ a o,H a=some o->zal P w H h a o
end
section
variable {P:Program} {w:World} {H H':Hp} {h h':Heap} {a:Addr} {o:HO}
def zal.lt (x:zal P w H h a o):a<h.objs.size:=by
 cases o with
 | lst xs=>obtain ⟨_,_,_,_,e⟩:=x; exact yJ e
 | tup xs=>obtain ⟨_,_,_,p⟩:=x; exact p.lt
 | dK kvs=>obtain ⟨_,_,_,_,o,_,_,e,_⟩:=x; exact yJ e
 | dT kvs=>obtain ⟨_,_,_,_,o,_,_,e,_⟩:=x; exact yJ e
 | dE kvs ep=>obtain ⟨_,_,_,_,o,_,e,_⟩:=x; exact yJ e
 | set S n=>obtain ⟨o,_,_,_,e,_⟩:=x; exact yJ e
 | ins C dx fs=>obtain ⟨_,_,_,e,_⟩:=x; exact yJ e
 | own y=>obtain ⟨_,e⟩:=x; exact yJ e
 | xd fs=>obtain ⟨_,⟨_,_,_,e,_⟩,_⟩:=x; exact yJ e
 | rng lo hi=>obtain ⟨_,_,_,e⟩:=x; exact yJ e
 | frz ob u=>obtain ⟨e,_⟩:=x; exact yJ e
 | tbl ps=>obtain ⟨_,e,_⟩:=x; exact yJ e
 | met f y=>exact yJ (show h.get? a=some _ from x)
 | ext φ=>obtain ⟨_,⟨_,e⟩,_⟩:=x; exact yJ e
theorem Paired.mapP {α β:Type} {F G:α->β->Prop}:∀ {l₁:List α} {l₂:List β},Paired F l₁ l₂->(∀ a b,F a b->G a b)->Paired G l₁ l₂
 | _,_,.nil,_=>.nil
 | _,_,.cons r t,f=>.cons (f _ _ r) (Paired.mapP t f)
def zal.stay (x:zal P w H h a o) (k:∀ b u,(b=a\/H b=some (.own a))->h.get? b=some u->h'.get? b=some u)
  (ho:∀ b,H b=some (.own a)->H' b=some (.own a)) (ht:∀ b xs,H b=some (zba xs)->H' b=some (zba xs)):zal P w H' h' a o:=by
 induction o with
 | lst xs=>obtain ⟨z,its,n,r,e⟩:=x; exact ⟨z,its,n,r,k _ _ (.inl rfl) e⟩
 | tup xs=>obtain ⟨z,its,r,ob,e,c⟩:=x; exact ⟨z,its,r,ob,k _ _ (.inl rfl) e,c⟩
 | dK kvs=>obtain ⟨z,y,vs,r,ob,es,ep,e,c⟩:=x; exact ⟨z,y,vs,r,ob,es,ep,k _ _ (.inl rfl) e,c⟩
 | dT kvs =>
  obtain ⟨z,y,xs,r,ob,es,ep,e,c⟩:=x
  exact ⟨z,y,xs,Paired.mapP r fun p q z=>⟨z.1,ht _ (.inl _) z.2.1,z.2.2⟩,ob,es,ep,k _ _ (.inl rfl) e,c⟩
 | dE kvs ep =>
  obtain ⟨z,y,xs,r,ob,es,e,c⟩:=x
  exact ⟨z,y,xs,Paired.mapP r fun p q z=>⟨z.1,ht _ (.inl _) z.2.1,z.2.2⟩,ob,es,k _ _ (.inl rfl) e,c⟩
 | set S n=>obtain ⟨ob,es,ep,t,e,c⟩:=x; exact ⟨ob,es,ep,t,k _ _ (.inl rfl) e,c⟩
 | ins C dx fs =>
  obtain ⟨d,z,ne,e,mA,⟨od,es,ep,e2,c⟩,r⟩:=x
  exact ⟨ho _ d,z,ne,k _ _ (.inl rfl) e,mA,⟨od,es,ep,k _ _ (.inr d) e2,c⟩,r⟩
 | own y=>obtain ⟨ob,e⟩:=x; exact ⟨ob,k _ _ (.inl rfl) e⟩
 | xd fs=>obtain ⟨mA,⟨od,es,ep,e,c⟩,r⟩:=x; exact ⟨mA,⟨od,es,ep,k _ _ (.inl rfl) e,c⟩,r⟩
 | rng lo hi=>obtain ⟨t,u,v,e⟩:=x; exact ⟨t,u,v,k _ _ (.inl rfl) e⟩
 | frz ob u ih=>obtain ⟨e,q⟩:=x; exact ⟨k _ _ (.inl rfl) e,ih q⟩
 | tbl ps=>obtain ⟨ts,e,t,c⟩:=x; exact ⟨ts,k _ _ (.inl rfl) e,t,fun pos cv z=>let ⟨c,oc,vs,t,q,t0,z1,z2,z3⟩:=c pos cv z; ⟨c,oc,vs,t,q,t0,z1,ht _ _ z2,z3⟩⟩
 | met f y =>
  have e:h.get? a=some (W.methodObj (.ref f) (.ref y)):=x
  show h'.get? a=some (W.methodObj (.ref f) (.ref y))
  exact k a _ (.inl rfl) e
 | ext φ=>obtain ⟨p,⟨o,e⟩,st⟩:=x; exact ⟨st _ _ p fun o q=>k _ _ (.inl rfl) q,⟨o,k _ _ (.inl rfl) e⟩,st⟩
def HOk.lt (x:HOk P w H h) (e:H a=some o):a<h.objs.size:=(x a o e).lt
def HOk.fresh (x:HOk P w H h) (e:h.objs.size<=a):H a=none:=by
 cases q:H a with
 | none=>rfl
 | some u=>exact yP (yT (x.lt q) e) (YW _)
def HOk.kept (x:HOk P w H h) (k:∀ b u,h.get? b=some u->h'.get? b=some u):HOk P w H h':=fun a o e =>
 (x a o e).stay (fun b u _ q=>k b u q) (fun _ q=>q) fun _ _ q=>q
def HOk.laid (x:HOk P w H h) (k:∀ b u,h.get? b=some u->h'.get? b=some u) (hp:h.objs.size<=a) (new:zal P w (upd H a o) h' a o):HOk P w (upd H a o) h':=fun b u e=>by
 have hn:=x.fresh hp
 by_cases hb:b=a
 ·subst hb; rw [zn] at e; cases e; exact new
 ·rw [zq hb] at e
  exact (x b u e).stay (fun c v _ q=>k c v q) (fun c q=>by rw [zq (zw q hn)]; exact q) fun c xs q=>by rw [zq (zw q hn)]; exact q
end
def Rd (H:Hp) (a:Addr) (u:HO):Prop:=H a=some u\/∃ o,H a=some (.frz o u)
def Rd.ok {P:Program} {w:World} {H:Hp} {h:Heap} {a:Addr} {u:HO} (r:Rd H a u) (x:HOk P w H h):zal P w H h a u:=by
 rcases r with r | ⟨o,r⟩
 ·exact x a u r
 ·obtain ⟨_,q⟩:=x a _ r
  exact q
def Mut:Option HO->Prop
 | some (.lst _)=>True
 | some (.dK _)=>True
 | some (.dT _)=>True
 | some (.dE _ _)=>True
 | some (.set _ _)=>True
 | some (.ins _ _ _)=>True
 | some (.ext _)=>True
 | _=>False
section
variable {P:Program} {w:World} {H:Hp} {h h':Heap} {x e:Addr} {o':HO}
def HOk.write (ok:HOk P w H h) (mu:Mut (H x)) (he:e=x\/H e=some (.own x)) (k:∀ b u,b≠e->h.get? b=some u->h'.get? b=some u) (heo:∃ u,h'.get? e=some u)
  (new:zal P w (upd H x o') h' x o'):HOk P w (upd H x o') h':=fun b u q=>by
 have nown:∀ c y,H c=some (.own y)->c≠x:=fun c y r z=>by subst z; rw [r] at mu; exact mu
 have ntup:∀ c xs,H c=some (zba xs)->c≠x:=fun c xs r z=>by subst z; rw [r] at mu; cases xs <;> exact mu
 by_cases hb:b=x
 ·subst hb; rw [zn] at q; cases q; exact new
 ·rw [zq hb] at q
  by_cases hbe:b=e
  ·have q':H b=some (.own x):=by
    rcases he with z | z
    ·exact yP (hbe.trans z) hb
    ·rw [hbe]; exact z
   rw [q] at q'; cases q'
   obtain ⟨v,hv⟩:=heo
   exact ⟨v,by rw [hbe]; exact hv⟩
  ·refine (ok b u q).stay (fun c v hc r=>k c v ?_ r) (fun c r=>by rw [zq (nown c b r)]; exact r) fun c xs r=>by rw [zq (ntup c xs r)]; exact r
   rcases hc with rfl | hc
   ·exact hbe
   ·rintro rfl
    rcases he with z | z
    ·exact nown c b hc z
    ·rw [hc] at z; cases z; exact hb rfl
end
structure Un (fs ex:List Addr) (H H':Hp) (h h':Heap):Prop where
 keep:∀ b o,h.get? b=some o->H b=none->b ∉ fs->b ∉ ex->h'.get? b=some o
 slot:∀ b o,h.get? b=some o->H b=none->b ∈ fs->b ∉ ex->∃ sl,h'.get? b=some { o with slots:=sl }
 free:∀ b o,h.get? b=some o->H b=none->b ∉ ex->H' b=none
 there:∀ b o,h.get? b=some o->b ∉ ex->∃ o',h'.get? b=some o'
 tups:∀ b xs,H b=some (.tup xs)->H' b=some (.tup xs)
 frzs:∀ b o u,H b=some (.frz o u)->H' b=some (.frz o u)
 tbls:∀ b ps,H b=some (.tbl ps)->∃ more,H' b=some (.tbl (ps ++ more))
section
variable {fs fs' ex ex':List Addr} {H H1 H2:Hp} {h h1 h2 h':Heap} {a x e:Addr} {o:HO}
def Un.any (u:Un fs ex H H1 h h1) {b:Addr} {ob:Obj} (q:h.get? b=some ob) (n:H b=none) (hx:b ∉ ex):∃ sl,h1.get? b=some { ob with slots:=sl }:=by
 by_cases hb:b ∈ fs
 ·exact u.slot b ob q n hb hx
 ·exact ⟨ob.slots,u.keep b ob q n hb hx⟩
def Un.kept (k:∀ b u,h.get? b=some u->h'.get? b=some u):Un fs ex H H h h' :=
 ⟨fun b ob q _ _ _=>k b ob q,fun b ob q _ _ _=>⟨ob.slots,k b ob q⟩,fun _ _ _ n _=>n,fun b ob q _=>⟨ob,k b ob q⟩,fun _ _ q=>q,fun _ _ _ q=>q,fun _ ps q=>⟨#[],by rw [q]; simp⟩⟩
def Un.refl:Un fs ex H H h h:=Un.kept fun _ _ q=>q
def Un.laid (k:∀ b u,h.get? b=some u->h'.get? b=some u) (hp:h.objs.size<=a) (hn:H a=none):Un fs ex H (upd H a o) h h' where
 keep:=fun b u q _ _ _=>k b u q
 slot:=fun b u q _ _ _=>⟨u.slots,k b u q⟩
 free:=fun b u q n _=>by rw [zq (yW (yT (yJ q) hp))]; exact n
 there:=fun b u q _=>⟨u,k b u q⟩
 tups:=fun b xs q=>by rw [zq (zw q hn)]; exact q
 frzs:=fun b u xs q=>by rw [zq (zw q hn)]; exact q
 tbls:=fun b ps q=>⟨#[],by rw [zq (zw q hn),q]; simp⟩
def Un.write (mu:Mut (H x)) (he:e=x\/H e=some (.own x)) (k:∀ b u,b≠e->h.get? b=some u->h'.get? b=some u) (heo:∃ u,h'.get? e=some u):Un fs ex H (upd H x o) h h':=by
 have hx:∀ b,H b=none->b≠x:=fun b n z=>by subst z; rw [n] at mu; exact mu
 have hb:∀ b,H b=none->b≠e:=fun b n z=>by
  subst z
  rcases he with r | r
  ·exact hx b n r
  ·rw [n] at r; cases r
 have hm:∀ b u,H b=some u->¬ Mut (some u)->b≠x:=fun b u q nm z=>by subst z; rw [q] at mu; exact nm mu
 refine ⟨fun b u q n _ _=>k b u (hb b n) q,fun b u q n _ _=>⟨u.slots,k b u (hb b n) q⟩,fun b u q n _=>by rw [zq (hx b n)]; exact n,fun b u q _=>?_,
  fun b xs q=>by rw [zq (hm b _ q fun z=>z)]; exact q,fun b u xs q=>by rw [zq (hm b _ q fun z=>z)]; exact q,fun b ps q=>⟨#[],by rw [zq (hm b _ q fun z=>z),q]; simp⟩⟩
 by_cases hbe:b=e
 ·subst hbe; exact heo
 ·exact ⟨u,k b u hbe q⟩
end
def zpp (g h:Heap) (L:Addr):yyL:=(List.range h.objs.size).filterMap fun a=>if a=L\/(g.get? a).isSome=true then none else (h.get? a).map fun o=>(a,o)
def zbb (g h:Heap) (L d:Addr):yyL:=(zpp g h L).filter fun p=>decide (p.1≠d)
def zdr (q:Str):Obj:=⟨.str q 0,none,.freed,#[]⟩
def ziR (base:Heap) (H:Hp):Prop:=∀ P q,base.objs[P]?=some (zdr q)->∃ ps,H P=some (.tbl ps)/\ps[0]?=some (.str q 0)
def ziR.un {base:Heap} {H H':Hp} (t:ziR base H) (u:∀ b ps,H b=some (.tbl ps)->∃ more,H' b=some (.tbl (ps ++ more))):ziR base H':=fun P q e=>by
 obtain ⟨ps,e1,e2⟩:=t P q e; obtain ⟨more,e3⟩:=u P ps e1; refine ⟨_,e3,?_⟩
 rw [Array.getElem?_append_left (by rw [yu] at e2; exact e2.1)]
 exact e2
def zr9:Obj:=⟨.none,none,.freed,#[]⟩
def zl8 (o:Obj):Option HO->Obj
 | some (.tbl ps)=>match (ps[0]?:Option Value) with
  | some (.str q 0)=>zdr q
  | _=>zr9
 | some _=>zr9
 | none=>match o.data with
  | .freed=>zr9
  | _=>o
def nrm (h:Heap) (H:Hp):Heap:=⟨h.objs.mapIdx fun a o=>zl8 o (H a),h.life⟩
def zl7 (h:Heap) (H:Hp):(nrm h H).objs.size=h.objs.size:=by unfold nrm; simp
def zhJ (h:Heap) (H:Hp) (b:Addr):(nrm h H).objs[b]?=(h.objs[b]?).map fun o=>zl8 o (H b):=by unfold nrm; simp
def zd2 {h:Heap} {b:Addr} {o:Obj} (e:h.objs[b]?=some o) (n:o.data≠.freed):h.get? b=some o:=by
 unfold Heap.get?
 rw [e]; obtain ⟨c,d,dt,sl⟩:=o
 cases dt <;> first | rfl | exact yP rfl n
def zcA {h:Heap} {b:Addr} {o:Obj} (e:h.get? b=some o):h.objs[b]?=some o/\o.data≠.freed:=by
 unfold Heap.get? at e
 cases q:h.objs[b]? with
 | none=>rw [q] at e; cases e
 | some u =>
  rw [q] at e; obtain ⟨c,d,dt,sl⟩:=u
  cases dt <;> first | (cases e; exact ⟨rfl,fun z=>nomatch z⟩) | cases e
def zoL {h:Heap} {H:Hp} {b:Addr} {o:Obj} (e:h.get? b=some o) (n:H b=none):(nrm h H).get? b=some o:=by
 obtain ⟨e1,e2⟩:=zcA e; refine zd2 ?_ e2; rw [zhJ,e1,n]
 show some (zl8 o none)=some o
 obtain ⟨c,d,dt,sl⟩:=o
 cases dt <;> first | rfl | exact yP rfl e2
def zqY {h:Heap} {H:Hp} {b:Addr} {o:Obj} (e:(nrm h H).get? b=some o):h.get? b=some o/\H b=none:=by
 obtain ⟨e1,e2⟩:=zcA e; rw [zhJ] at e1
 cases q:h.objs[b]? with
 | none=>rw [q] at e1; cases e1
 | some u =>
  rw [q] at e1
  have e3:zl8 u (H b)=o:=Option.some.inj e1
  cases z:H b with
  | some t =>
   rw [z] at e3
   exfalso
   unfold zl8 at e3; split at e3
   ·split at e3 <;> exact e2 (by rw [<- e3]; rfl)
   ·exact e2 (by rw [<- e3]; rfl)
   ·rename_i y; cases y
  | none =>
   rw [z] at e3; refine ⟨?_,rfl⟩; obtain ⟨c,d,dt,sl⟩:=u; unfold zl8 at e3
   cases dt <;> first | (cases e3; exact zd2 q fun y=>nomatch y) | exact yP (show o.data=.freed by rw [<- e3]; rfl) e2
def zl6 (h:Heap) (H:Hp):ziR (nrm h H) H:=fun P q e=>by
 rw [zhJ] at e
 cases z:h.objs[P]? with
 | none=>rw [z] at e; cases e
 | some u =>
  rw [z] at e
  have e3:zl8 u (H P)=zdr q:=Option.some.inj e
  cases y:H P with
  | none =>
   rw [y] at e3
   exfalso
   obtain ⟨c,d,dt,sl⟩:=u; unfold zl8 zdr zr9 at e3
   cases dt <;> cases e3
  | some t =>
   rw [y] at e3; unfold zl8 at e3; split at e3
   ·rename_i ps hps
    cases hps; split at e3
    ·rename_i q' hq
     cases e3; exact ⟨_,rfl,hq⟩
    ·cases e3
   ·cases e3
   ·rename_i hh; cases hh
structure Mod (K:W.Frag) (mg:Str->Option Value) (base:Heap):Prop where
 kin:K.In base
 glob:base.Ns mainGlobals mg
 blt:∃ mb,base.Ns builtinsNs mb/\∀ x:Str,x≠"__name__"->mb x=bootBuiltins x
 nolimit:base.NoLimit
 bm:∃ bm ob,mg "__builtins__"=some (.ref bm)/\bm≠builtinsNs/\base.get? bm=some ob/\ob.cls=.type "module"/\ob.dict=some builtinsNs/\ob.data=.plain
/-- the context: a def's body (or a comprehension's block) running. base: fixed through the whole law; s₀, H₀: the entry; outer: the frames whose slots others may change (a def's callers); stack: all frames that run;
   ex: iterators that were made ahead of the entry and are walked here (a comprehension's); fn: the names whose cells were made at the entry (a def: all; a comprehension's block: its own); calm: not within an except suite; pn: pins that every state bears; xe: what is wanted of an exception that leaves the code -/
structure Cx where
 prog:Program
 w:World
 K:W.Frag
 mg:Str->Option Value
 base:Heap
 A:Around
 N:List Str
 s₀:Shared
 H₀:Hp
 env:Env
 outer:List Env
 stack:List Env
 ex:List Addr
 fn:Str->Bool
 calm:Bool
 pn:yyL
 xe:Value->Shared->Prop
def frs (l:List Env):List Addr:=l.filterMap (·.frame)
abbrev Cx.fs (X:Cx):List Addr:=frs X.outer
def Vis (sc:Scope) (x:Str):Prop:=sc.names.lookup x=some .local\/sc.names.lookup x=some .cell\/sc.names.lookup x=some .free
def Loc (sc:Scope) (x:Str):Prop:=sc.names.lookup x=some .local\/sc.names.lookup x=some .cell
def zuM (env:Env) (h:Heap) (m:Str->Option Value) (x:Str) (u:Value):Prop :=
 (env.kindOf x=some .local/\m x=some u)\/((env.kindOf x=some .cell\/env.kindOf x=some .free)/\∃ c,env.cells.lookup x=some c/\h.IsCell c (some u))
structure Cx.Ok (X:Cx):Prop where
 mod:Mod X.K X.mg X.base
 kind:X.env.scope.kind=.function
 glob:X.env.globals=mainGlobals
 blt:X.env.builtins=builtinsNs
 above:X.s₀.heap.objs.size<=X.env.locals
 inj:∀ x y c,X.env.cells.lookup x=some c->X.env.cells.lookup y=some c->x=y
 has:∀ x,(X.env.kindOf x=some .cell\/X.env.kindOf x=some .free)->∃ c,X.env.cells.lookup x=some c
 cab:∀ x c,X.fn x=true->X.env.cells.lookup x=some c->X.s₀.heap.objs.size<=c
 hd:X.calm=true->X.A.handled=none
 frames:X.A.frames=some X.stack
 stk:X.stack=X.outer\/(X.stack=X.env :: X.outer/\X.env.frame=some X.env.locals)
 exf:∀ b ∈ X.ex,b≠X.env.locals/\∀ x c,X.env.cells.lookup x=some c->c≠b
 bs:∀ b o,X.base.get? b=some o->X.s₀.heap.get? b=some o/\X.H₀ b=none
 bsz:X.base.objs.size<=X.s₀.heap.objs.size
 noex:∀ b o,X.base.get? b=some o->b ∉ X.ex
 exfs:∀ b ∈ X.ex,b ∉ X.fs
 funs:X.s₀.heap.FunFrames X.base X.outer
 frf:∀ b ∈ X.fs,X.H₀ b=none
 tab:ziR X.base X.H₀
structure Inv (X:Cx) (pins:yyL) (σ:List (Option V)) (H:Hp) (s:Shared):Prop where
 ok:X.Ok
 os:s.os=X.s₀.os
 bare:AllBare s.gens
 base:Un X.fs X.ex X.H₀ H X.s₀.heap s.heap
 loc:∃ m,s.heap.Ns X.env.locals m/\∀ (i:Nat) (x:Str) (v:V),X.N[i]?=some x->σ[i]?=some (some v)->Vis X.env.scope x->∃ u,zap v u/\zuM X.env s.heap m x u
 cell:∀ x c,X.env.cells.lookup x=some c->∃ v,s.heap.IsCell c v
 free:H X.env.locals=none
 freeC:∀ x c,X.env.cells.lookup x=some c->H c=none
 pin:∀ p ∈ X.pn ++ pins,s.heap.get? p.1=some p.2/\H p.1=none/\p.1≠X.env.locals/\p.1 ∉ X.fs/\∀ v,p.2.data≠.cell v
 hok:HOk X.prog X.w H s.heap
 len:σ.length=X.N.length
section
variable {X:Cx} {pins:yyL} {σ:List (Option V)} {H H':Hp} {s:Shared} {h':Heap}
def Cx.Ok.nofr (ok:X.Ok) {b:Addr} {o:Obj} (e:X.base.get? b=some o):b ∉ X.fs:=fun hb=>by
 have:=(ok.funs.mem hb).1
 rw [e] at this; cases this
def Inv.bs (I:Inv X pins σ H s):∀ b o,X.base.get? b=some o->s.heap.get? b=some o/\H b=none:=fun b o e =>
 ⟨I.base.keep b o (I.ok.bs b o e).1 (I.ok.bs b o e).2 (I.ok.nofr e) (I.ok.noex b o e),I.base.free b o (I.ok.bs b o e).1 (I.ok.bs b o e).2 (I.ok.noex b o e)⟩
def Inv.bk (I:Inv X pins σ H s):∀ b o,X.base.get? b=some o->s.heap.get? b=some o:=fun b o e=>(I.bs b o e).1
def Inv.mod (I:Inv X pins σ H s):Mod X.K X.mg X.base:=I.ok.mod
def Inv.kIn (I:Inv X pins σ H s):X.K.In s.heap:=I.ok.mod.kin.keeps I.bk
def Inv.lt (I:Inv X pins σ H s):X.env.locals<s.heap.objs.size:=let ⟨_,hn,_⟩:=I.loc; hn.lt
def Inv.sz (I:Inv X pins σ H s):X.s₀.heap.objs.size<=s.heap.objs.size:=YG I.ok.above (Nat.le_of_lt I.lt)
def Inv.nofs (I:Inv X pins σ H s) {a:Addr} (h:s.heap.objs.size<=a):a ∉ X.fs:=fun hb=>by
 obtain ⟨_,o,ho,_⟩:=I.ok.funs.mem hb; exact yP (yT (yJ ho) (YG I.sz h)) (YW _)
def Inv.cne (I:Inv X pins σ H s):∀ x c,X.env.cells.lookup x=some c->c≠X.env.locals:=fun x c e z=>by
 obtain ⟨v,o,ho,hd⟩:=I.cell x c e
 obtain ⟨m,⟨o',es,ep,ho',hd',_⟩,_⟩:=I.loc
 rw [z,ho'] at ho; cases ho; rw [hd'] at hd; cases hd
def Inv.funs (I:Inv X pins σ H s):s.heap.FunFrames X.base X.outer:=by
 have all:∀ (l:List Env),(∀ b ∈ frs l,b ∈ X.fs)->X.s₀.heap.FunFrames X.base l->s.heap.FunFrames X.base l:=by
  intro l
  induction l with
  | nil=>intro _ _; trivial
  | cons env r ih =>
   intro hs hl
   obtain ⟨hk,⟨L,o,hf,hn,ho,hd⟩,hr⟩:=hl
   have hL:L ∈ X.fs:=hs L (by unfold frs; rw [List.filterMap_cons,hf]; exact yU)
   obtain ⟨sl,e⟩:=I.base.slot L o ho (I.ok.frf L hL) hL fun z=>I.ok.exfs L z hL
   exact ⟨hk,⟨L,_,hf,hn,e,hd⟩,ih (fun b hb=>hs b (by unfold frs; rw [List.filterMap_cons,hf]; exact yO _ hb)) hr⟩
 exact all X.outer (fun _ hb=>hb) I.ok.funs
def Inv.stack (I:Inv X pins σ H s):s.heap.FunFrames X.base X.stack:=by
 rcases I.ok.stk with e | ⟨e,hf⟩
 ·rw [e]; exact I.funs
 ·rw [e]
  obtain ⟨m,hn,_⟩:=I.loc
  refine .cons (by rw [I.ok.kind]; decide) hf hn ?_ I.funs
  exact Heap.get?_none_of_le (YG I.ok.bsz I.ok.above)
def Inv.stkSub (I:Inv X pins σ H s):∀ b ∈ frs X.stack,b ∈ X.env.locals :: X.fs:=fun b hb=>by
 rcases I.ok.stk with e | ⟨e,hf⟩
 ·rw [e] at hb; exact yO _ hb
 ·rw [e] at hb
  unfold frs at hb; rw [List.filterMap_cons,hf] at hb; exact hb
def Inv.stkFree (I:Inv X pins σ H s):∀ b ∈ frs X.stack,H b=none:=fun b hb=>by
 rcases yQ.mp (I.stkSub b hb) with e | hb
 ·rw [e]; exact I.free
 ·obtain ⟨_,o,ho,_⟩:=I.ok.funs.mem hb
  exact I.base.free b o ho (I.ok.frf b hb) fun z=>I.ok.exfs b z hb
def Inv.step {g':Array GenState} {t':Nat} {d':Drawn} {ch:List Addr} (I:Inv X pins σ H s)
  (hch:∀ b ∈ ch,(b ∈ X.ex\/X.s₀.heap.objs.size<=b)/\b≠X.env.locals/\(∀ x c,X.env.cells.lookup x=some c->c≠b)/\∀ p ∈ X.pn ++ pins,p.1≠b)
  (keep:∀ b o,b≠X.env.locals->b ∉ X.fs->b ∉ ch->s.heap.get? b=some o->H b=none->h'.get? b=some o)
  (slot:∀ b o,b≠X.env.locals->b ∈ X.fs->b ∉ ch->s.heap.get? b=some o->H b=none->∃ sl,h'.get? b=some { o with slots:=sl }) (free:∀ b o,b ∉ ch->s.heap.get? b=some o->H b=none->H' b=none)
  (there:∀ b o,b ∉ ch->s.heap.get? b=some o->∃ o',h'.get? b=some o')
  (tups:∀ b xs,H b=some (.tup xs)->H' b=some (.tup xs)) (frzs:∀ b o u,H b=some (.frz o u)->H' b=some (.frz o u)) (tbls:∀ b ps,H b=some (.tbl ps)->∃ more,H' b=some (.tbl (ps ++ more)))
  (ns:∀ m,s.heap.Ns X.env.locals m->h'.Ns X.env.locals m) (hok:HOk X.prog X.w H' h') (hg:AllBare g') :
  Inv X pins σ H' { s with heap:=h',gens:=g',drawn:=d',toks:=t' }:=by
 have neL:∀ b o,X.s₀.heap.get? b=some o->b≠X.env.locals:=fun b o e=>yW (yT (yJ e) I.ok.above)
 have neC:∀ b o,X.s₀.heap.get? b=some o->b ∉ X.ex->b ∉ ch:=fun b o e hx hb=>by
  rcases (hch b hb).1 with z | z
  ·exact hx z
  ·exact yP (yT (yJ e) z) (YW _)
 have cellK:∀ x c,X.env.cells.lookup x=some c->∀ v,s.heap.IsCell c v->h'.IsCell c v:=fun x c e v ⟨o,ho,hd⟩=>by
  have nch:c ∉ ch:=fun z=>(hch c z).2.2.1 x c e rfl
  by_cases hc:c ∈ X.fs
  ·obtain ⟨sl,q⟩:=slot c o (I.cne x c e) hc nch ho (I.freeC x c e)
   exact ⟨_,q,hd⟩
  ·exact ⟨o,keep c o (I.cne x c e) hc nch ho (I.freeC x c e),hd⟩
 refine ⟨I.ok,I.os,hg,⟨fun b o e n hb hx=>?_,fun b o e n hb hx=>?_,fun b o e n hx=>?_,fun b o e hx=>?_,fun b xs e=>tups b xs (I.base.tups b xs e),fun b o xs e=>frzs b o xs (I.base.frzs b o xs e),fun b ps e=>?_⟩,?_,fun x c e=>?_,?_,fun x c e=>?_,fun p hp=>?_,hok,I.len⟩
 ·exact keep b o (neL b o e) hb (neC b o e hx) (I.base.keep b o e n hb hx) (I.base.free b o e n hx)
 ·obtain ⟨sl,e1⟩:=I.base.slot b o e n hb hx
  obtain ⟨sl',e2⟩:=slot b _ (neL b o e) hb (neC b o e hx) e1 (I.base.free b o e n hx); exact ⟨sl',e2⟩
 ·obtain ⟨o',e1⟩:=I.base.there b o e hx
  exact free b o' (neC b o e hx) e1 (I.base.free b o e n hx)
 ·obtain ⟨o',e1⟩:=I.base.there b o e hx
  exact there b o' (neC b o e hx) e1
 ·obtain ⟨m1,e1⟩:=I.base.tbls b ps e
  obtain ⟨m2,e2⟩:=tbls b _ e1
  exact ⟨m1 ++ m2,by rw [e2,Array.append_assoc]⟩
 ·obtain ⟨m,hn,hl⟩:=I.loc
  refine ⟨m,ns m hn,fun i x v e1 e2 e3=>?_⟩
  obtain ⟨u,r,l⟩:=hl i x v e1 e2 e3; refine ⟨u,r,?_⟩
  rcases l with l | ⟨k,c,e,z⟩
  ·exact .inl l
  ·exact .inr ⟨k,c,e,cellK x c e _ z⟩
 ·obtain ⟨v,z⟩:=I.cell x c e
  exact ⟨v,cellK x c e v z⟩
 ·obtain ⟨m,⟨o,_,_,ho,_⟩,_⟩:=I.loc
  exact free _ o (fun z=>(hch _ z).2.1 rfl) ho I.free
 ·obtain ⟨v,o,ho,hd⟩:=I.cell x c e
  exact free c o (fun z=>(hch c z).2.2.1 x c e rfl) ho (I.freeC x c e)
 ·obtain ⟨e,n,ne,nf,d⟩:=I.pin p hp
  have nch:p.1 ∉ ch:=fun z=>(hch p.1 z).2.2.2 p hp rfl
  exact ⟨keep p.1 p.2 ne nf nch e n,free p.1 p.2 nch e n,ne,nf,d⟩
def Inv.un {t':Nat} (I:Inv X pins σ H s) (u:Un X.fs [] H H' s.heap h') (hok:HOk X.prog X.w H' h'):Inv X pins σ H' { s with heap:=h',toks:=t' }:=by
 obtain ⟨m,⟨o,es,ep,ho,r⟩,_⟩:=id I.loc
 obtain ⟨sl,hL⟩:=u.any ho I.free (by simp)
 exact I.step (g':=s.gens) (d':=s.drawn) (ch:=[]) (fun _ z=>nomatch z) (fun b o _ hb _ e n=>u.keep b o e n hb (by simp)) (fun b o _ hb _ e n=>u.slot b o e n hb (by simp)) (fun b o _ e n=>u.free b o e n (by simp)) (fun b o _ e=>u.there b o e (by simp)) u.tups u.frzs u.tbls (fun m' hm=>by
  obtain ⟨o',es',ep',ho',r'⟩:=hm
  rw [ho] at ho'; cases ho'
  exact ⟨_,es',ep',hL,r'⟩) hok I.bare
def Inv.call {g':Array GenState} {t':Nat} {d':Drawn} {ch:List Addr} (I:Inv X pins σ H s) (u:Un (frs X.stack) ch H H' s.heap h') (hok:HOk X.prog X.w H' h') (hg:AllBare g')
  (hch:∀ b ∈ ch,(b ∈ X.ex\/X.s₀.heap.objs.size<=b)/\b≠X.env.locals/\(∀ x c,X.env.cells.lookup x=some c->c≠b)/\∀ p ∈ X.pn ++ pins,p.1≠b) :
  Inv X pins σ H' { s with heap:=h',gens:=g',drawn:=d',toks:=t' }:=by
 obtain ⟨m,⟨o,es,ep,ho,r⟩,_⟩:=id I.loc
 obtain ⟨sl,hL⟩:=u.any ho I.free fun z=>(hch _ z).2.1 rfl
 exact I.step (ch:=ch) hch (fun b o hL hb hc e n=>u.keep b o e n (fun z=>(yQ.mp (I.stkSub b z)).elim hL hb) hc) (fun b o _ _ hc e n=>u.any e n hc) (fun b o hc e n=>u.free b o e n hc) (fun b o hc e=>u.there b o e hc) u.tups u.frzs u.tbls (fun m' hm=>by
  obtain ⟨o',es',ep',ho',r'⟩:=hm
  rw [ho] at ho'; cases ho'
  exact ⟨_,es',ep',hL,r'⟩) hok hg
def Inv.turned {t':Nat} {it:Addr} (I:Inv X pins σ H s) (k:∀ b o,b≠it->s.heap.get? b=some o->h'.get? b=some o) (hn:H it=none) (hL:it≠X.env.locals)
  (h1:it ∈ X.ex\/X.s₀.heap.objs.size<=it) (h2:∀ x c,X.env.cells.lookup x=some c->c≠it) (h3:∀ p ∈ X.pn ++ pins,p.1≠it):Inv X pins σ H { s with heap:=h',toks:=t' }:=by
 have nit:∀ b u,H b=some u->b≠it:=fun b u e z=>by rw [z,hn] at e; cases e
 refine I.step (g':=s.gens) (d':=s.drawn) (ch:=[it]) (fun b hb=>?_) (fun b o _ _ hc e _=>k b o (fun z=>hc (by simp [z])) e) (fun b o _ _ hc e _=>⟨o.slots,k b o (fun z=>hc (by simp [z])) e⟩) (fun _ _ _ _ n=>n)
  (fun b o hc e=>⟨o,k b o (fun z=>hc (by simp [z])) e⟩) (fun _ _ e=>e) (fun _ _ _ e=>e) (fun b ps e=>⟨#[],by rw [e]; simp⟩) (fun m hm=>?_) (fun b u e=>?_) I.bare
 ·have e:b=it:=by simpa using hb
  subst e; exact ⟨h1,hL,h2,h3⟩
 ·obtain ⟨o,es,ep,ho,r⟩:=hm
  exact ⟨o,es,ep,k _ o (Ne.symm hL) ho,r⟩
 ·refine (I.hok b u e).stay (fun c v hc q=>k c v ?_ q) (fun _ q=>q) fun _ _ q=>q
  rcases hc with z | z
  ·rw [z]; exact nit b u e
  ·exact nit c _ z
def Inv.tok (I:Inv X pins σ H s) (t:Nat):Inv X pins σ H { s with toks:=t }:=I.un (h':=s.heap) (t':=t) Un.refl I.hok
def Inv.kept {t':Nat} (I:Inv X pins σ H s) (k:∀ b u,s.heap.get? b=some u->h'.get? b=some u):Inv X pins σ H { s with heap:=h',toks:=t' }:=I.un (Un.kept k) (I.hok.kept k)
def Inv.laid {a:Addr} {o:HO} {t':Nat} (I:Inv X pins σ H s) (k:∀ b u,s.heap.get? b=some u->h'.get? b=some u) (hp:s.heap.objs.size<=a) (new:zal X.prog X.w (upd H a o) h' a o) :
  Inv X pins σ (upd H a o) { s with heap:=h',toks:=t' }:=I.un (Un.laid k hp (I.hok.fresh hp)) (I.hok.laid k hp new)
def Inv.write {x e:Addr} {o:HO} {t':Nat} (I:Inv X pins σ H s) (mu:Mut (H x)) (he:e=x\/H e=some (.own x)) (k:∀ b u,b≠e->s.heap.get? b=some u->h'.get? b=some u) (heo:∃ u,h'.get? e=some u)
  (new:zal X.prog X.w (upd H x o) h' x o):Inv X pins σ (upd H x o) { s with heap:=h',toks:=t' }:=I.un (Un.write mu he k heo) (I.hok.write mu he k heo new)
def Inv.pins_of {pins':yyL} (I:Inv X pins σ H s) (h:∀ p ∈ pins',s.heap.get? p.1=some p.2/\H p.1=none/\p.1≠X.env.locals/\p.1 ∉ X.fs/\∀ v,p.2.data≠.cell v):Inv X pins' σ H s :=
 ⟨I.ok,I.os,I.bare,I.base,I.loc,I.cell,I.free,I.freeC,fun p hp=>(yb.mp hp).elim (fun z=>I.pin p (YE _ z)) (h p),I.hok,I.len⟩
def zfa {N:List Str} (hN:N.Nodup) {i j:Nat} {x:Str} (a:N[i]?=some x) (b:N[j]?=some x):i=j:=by
 obtain ⟨h1,e1⟩:=yE.mp a; obtain ⟨h2,e2⟩:=yE.mp b; exact (List.getElem_inj hN).mp (e1.trans e2.symm)
def zfG {M:Model} {A:Around} {E:Value->Shared->Prop} {i:Nat} {x:Str} {v:V} {u:Value} {Q:Unit->Shared->Prop} (I:Inv X pins σ H s) (hN:X.N.Nodup) (hi:X.N[i]?=some x) (hx:Loc X.env.scope x) (r:zap v u)
  (h:∀ s',Inv X pins (σ.set i (some v)) H s'->(∃ a,Heap.SameBut a s.heap s'.heap/\(a=X.env.locals\/X.env.cells.lookup x=some a))->Q () s') (hf:X.fn x=true\/X.env.scope.names.lookup x=some .local:=by first | exact .inl rfl | exact .inr rfl | assumption):wpAny M A (storeName X.env x u) Q E s:=by
 obtain ⟨m,hn,hl⟩:=id I.loc
 have hcls:(X.env.scope.kind == .class || (X.env.scope.kind == .module && X.env.locals != X.env.globals))=false:=by rw [I.ok.kind]; rfl
 have hiσ:i<σ.length:=by rw [I.len]; exact (yE.mp hi).1
 have cne:=I.cne
 have tracked:∀ {a:Addr} {h':Heap},(∃ o,s.heap.get? a=some o/\H a=none)->Heap.SameBut a s.heap h'->HOk X.prog X.w H h':=fun {a h'} ha hs b ob e=>by
  obtain ⟨_,_,hfree⟩:=ha
  refine (I.hok b ob e).stay (fun c w' hc q=>(hs.2 c ?_).trans q) (fun _ q=>q) fun _ _ q=>q
  rintro rfl
  rcases hc with rfl | hc
  ·rw [hfree] at e; cases e
  ·rw [hfree] at hc; cases hc
 rcases hx with hk | hk
 ·refine wpAny_storeName_local hk hn (fun h' hn' hs=>?_) hcls
  obtain ⟨oL,_,_,hoL,_⟩:=id hn
  refine h _ ⟨I.ok,I.os,I.bare,⟨fun b o e n hb hx=>?_,fun b o e n hb hx=>?_,I.base.free,fun b o e hx=>?_,I.base.tups,I.base.frzs,I.base.tbls⟩,⟨_,hn',fun j y v' e1 e2 e3=>?_⟩,fun y c e=>?_,I.free,I.freeC,fun p hp=>?_,tracked ⟨oL,hoL,I.free⟩ hs,by simpa using I.len⟩ ⟨_,hs,.inl rfl⟩
  ·exact (hs.2 b (yW (yT (yJ e) I.ok.above))).trans (I.base.keep b o e n hb hx)
  ·obtain ⟨sl,e1⟩:=I.base.slot b o e n hb hx
   exact ⟨sl,(hs.2 b (yW (yT (yJ e) I.ok.above))).trans e1⟩
  ·obtain ⟨o',e1⟩:=I.base.there b o e hx
   exact ⟨o',(hs.2 b (yW (yT (yJ e) I.ok.above))).trans e1⟩
  ·by_cases hj:j=i
   ·subst hj
    rw [hi] at e1; cases e1
    rw [yr hiσ] at e2; cases e2
    exact ⟨u,r,.inl ⟨hk,by simp⟩⟩
   ·rw [yZ (Ne.symm hj)] at e2
    obtain ⟨u',r',q⟩:=hl j y v' e1 e2 e3; refine ⟨u',r',?_⟩
    rcases q with ⟨k,e⟩ | ⟨k,c,e,z⟩
    ·refine .inl ⟨k,?_⟩
     have:y≠x:=fun e=>hj (zfa hN e1 (e ▸ hi))
     simp [this,e]
    ·exact .inr ⟨k,c,e,z.sameBut hs (cne y c e)⟩
  ·obtain ⟨w',z⟩:=I.cell y c e
   exact ⟨w',z.sameBut hs (cne y c e)⟩
  ·obtain ⟨e,n,ne,nf,d⟩:=I.pin p hp
   exact ⟨(hs.2 p.1 ne).trans e,n,ne,nf,d⟩
 ·have hfn:X.fn x=true:=by
   rcases hf with z | z
   ·exact z
   ·rw [z] at hk; cases hk
  obtain ⟨c,hc⟩:=I.ok.has x (.inl hk); obtain ⟨w',z⟩:=I.cell x c hc
  refine wpAny_storeName_cell I.ok.kind hk hc z (fun h' hc' hs=>?_)
  obtain ⟨oc,hoc,hocd⟩:=id z
  refine h { s with heap:=h' } ⟨I.ok,I.os,I.bare,⟨fun b o e n hb hx=>?_,fun b o e n hb hx=>?_,I.base.free,fun b o e hx=>?_,I.base.tups,I.base.frzs,I.base.tbls⟩,⟨m,hn.sameBut hs (Ne.symm (cne x c hc)),fun j y v' e1 e2 e3=>?_⟩,fun y c' e=>?_,I.free,I.freeC,fun p hp=>?_,tracked ⟨oc,hoc,I.freeC x c hc⟩ hs,by simpa using I.len⟩ ⟨c,hs,.inr hc⟩
  ·exact (hs.2 b (yW (yT (yJ e) (I.ok.cab x c hfn hc)))).trans (I.base.keep b o e n hb hx)
  ·obtain ⟨sl,e1⟩:=I.base.slot b o e n hb hx
   exact ⟨sl,(hs.2 b (yW (yT (yJ e) (I.ok.cab x c hfn hc)))).trans e1⟩
  ·obtain ⟨o',e1⟩:=I.base.there b o e hx
   exact ⟨o',(hs.2 b (yW (yT (yJ e) (I.ok.cab x c hfn hc)))).trans e1⟩
  ·by_cases hj:j=i
   ·subst hj
    rw [hi] at e1; cases e1
    rw [yr hiσ] at e2; cases e2; exact ⟨u,r,.inr ⟨.inl hk,c,hc,hc'⟩⟩
   ·rw [yZ (Ne.symm hj)] at e2
    obtain ⟨u',r',q⟩:=hl j y v' e1 e2 e3; refine ⟨u',r',?_⟩
    rcases q with q | ⟨k,c',e,z'⟩
    ·exact .inl q
    ·refine .inr ⟨k,c',e,z'.sameBut hs ?_⟩
     rintro rfl
     exact hj (zfa hN e1 (I.ok.inj _ _ _ e hc ▸ hi))
  ·by_cases hcc:c'=c
   ·subst hcc; exact ⟨_,hc'⟩
   ·obtain ⟨w2,z2⟩:=I.cell y c' e
    exact ⟨w2,z2.sameBut hs hcc⟩
  ·obtain ⟨e,n,ne,nf,d⟩:=I.pin p hp
   refine ⟨(hs.2 p.1 ?_).trans e,n,ne,nf,d⟩; intro q; rw [q,hoc] at e
   have q':oc=p.2:=Option.some.inj e
   exact d w' (by rw [<- q']; exact hocd)
def zcK {M:Model} {A:Around} {E:Value->Shared->Prop} {i:Nat} {x:Str} {v:V} {u:Value} {Q:Unit->Shared->Prop} (I:Inv X pins σ H s) (hN:X.N.Nodup) (hi:X.N[i]?=some x) (hx:Loc X.env.scope x) (r:zap v u)
  (h:∀ s',Inv X pins (σ.set i (some v)) H s'->Q () s') (hf:X.fn x=true\/X.env.scope.names.lookup x=some .local:=by first | exact .inl rfl | exact .inr rfl | assumption):wpAny M A (storeName X.env x u) Q E s :=
 zfG I hN hi hx r (fun s' I' _=>h s' I') hf
def Inv.call' {s':Shared} {ch:List Addr} (I:Inv X pins σ H s) (ho:s'.os=s.os) (u:Un (frs X.stack) ch H H' s.heap s'.heap) (hok:HOk X.prog X.w H' s'.heap) (hg:AllBare s'.gens)
  (hch:∀ b ∈ ch,(b ∈ X.ex\/X.s₀.heap.objs.size<=b)/\b≠X.env.locals/\(∀ x c,X.env.cells.lookup x=some c->c≠b)/\∀ p ∈ X.pn ++ pins,p.1≠b):Inv X pins σ H' s':=by
 obtain ⟨h',g',d',t',o'⟩:=s'
 have e:o'=s.os:=ho
 subst e; exact I.call (g':=g') (t':=t') (d':=d') u hok hg hch
end
abbrev XK:=Value->Option Addr->Hp->Prop
abbrev St:=List (Option V)
abbrev VK:=V->Hp->Prop
abbrev TE:=St->Hp->VK->Prop
abbrev TT:=St->Hp->(Bool->Hp->Prop)->Prop
abbrev TA:=St->Hp->(List V->Hp->Prop)->Prop
structure Ends where
 nx:St->Hp->Prop
 rt:VK
 bk:St->Hp->Prop:=fun _ _=>False
 ct:St->Hp->Prop:=fun _ _=>False
abbrev TS:=Ends->St->Hp->Prop
def EP (X:Cx) (pins:yyL) (σ:St) (Q:VK) (u:Value) (s':Shared):Prop:=∃ v H',Inv X pins σ H' s'/\zap v u/\Q v H'
def TP (X:Cx) (pins:yyL) (σ:St) (Q:Bool->Hp->Prop) (b:Bool) (s':Shared):Prop:=∃ H',Inv X pins σ H' s'/\Q b H'
def AP (X:Cx) (pins:yyL) (σ:St) (Q:List V->Hp->Prop) (us:List Value) (s':Shared):Prop:=∃ vs H',Inv X pins σ H' s'/\zae vs us/\Q vs H'
def SP (X:Cx) (pins:yyL) (D:Ends) (f:Flow) (s':Shared):Prop :=
 match f with
 | .next=>∃ σ' H',Inv X pins σ' H' s'/\D.nx σ' H'
 | .brk=>∃ σ' H',Inv X pins σ' H' s'/\D.bk σ' H'
 | .cont=>∃ σ' H',Inv X pins σ' H' s'/\D.ct σ' H'
 | .ret u=>∃ v σ' H',Inv X pins σ' H' s'/\zap v u/\D.rt v H'
def PE (X:Cx) (e:Expr) (t:TE):Prop :=
 ∀ (pins:yyL) (s:Shared) (σ:St) (H:Hp) (Q:VK),Inv X pins σ H s->t σ H Q->wpAny (model X.prog X.w) X.A (eval e X.env) (EP X pins σ Q) X.xe s
def PT (X:Cx) (e:Expr) (t:TT):Prop :=
 ∀ (pins:yyL) (s:Shared) (σ:St) (H:Hp) (Q:Bool->Hp->Prop),Inv X pins σ H s->t σ H Q->wpAny (model X.prog X.w) X.A (isTrue e X.env (eval e X.env)) (TP X pins σ Q) X.xe s
def PW (X:Cx) (e:Expr) (t:TT):Prop :=
 ∀ (whole:Sem Value) (pins:yyL) (s:Shared) (σ:St) (H:Hp) (Q:Bool->Hp->Prop),Inv X pins σ H s->t σ H Q->wpAny (model X.prog X.w) X.A (isTrue e X.env whole) (TP X pins σ Q) X.xe s
def PA (X:Cx) (es:List Expr) (t:TA):Prop :=
 ∀ (pos:Pos) (pins:yyL) (s:Shared) (σ:St) (H:Hp) (Q:List V->Hp->Prop),Inv X pins σ H s->t σ H Q->wpAny (model X.prog X.w) X.A (spliced (backTo pos (starEach es X.env))) (AP X pins σ Q) X.xe s
def PS (X:Cx) (st:Stmt) (t:TS):Prop :=
 ∀ (pins:yyL) (s:Shared) (σ:St) (H:Hp) (D:Ends),Inv X pins σ H s->t D σ H->wpAny (model X.prog X.w) X.A (exec st X.env) (SP X pins D) X.xe s
def PSs (X:Cx) (st:List Stmt) (t:TS):Prop :=
 ∀ (pins:yyL) (s:Shared) (σ:St) (H:Hp) (D:Ends),Inv X pins σ H s->t D σ H->wpAny (model X.prog X.w) X.A (execs st X.env) (SP X pins D) X.xe s
def thn {α:Type} {t:Sem α} {Q Q':α->Shared->Prop} {M:Model} {A:Around} {E:Value->Shared->Prop} {s:Shared} (h:wpAny M A t Q E s) (hQ:∀ a s,Q a s->Q' a s):wpAny M A t Q' E s:=yf h hQ fun _ _ x=>x
section
variable {X:Cx}
def ztI (i:Nat):TE:=fun σ H Q=>∃ v,σ[i]?=some (some v)/\Q v H
def tC (v:V):TE:=fun _ H Q=>Q v H
def zev {i:Nat} {x:Str} {pos:Pos} (hN:X.N[i]?=some x) (hv:Vis X.env.scope x) (hd:yyD x:=by decide) (hcd:(x == ("__classdict__":Str))=false:=by decide):PE X (.Name x pos) (ztI i):=by
 intro pins s σ H Q I h; obtain ⟨v,e,h⟩:=h; obtain ⟨m,hn,hl⟩:=I.loc; obtain ⟨u,r,l⟩:=hl i x v hN e hv
 have fin:EP X pins σ Q u s:=⟨v,H,I,r,h⟩
 rcases l with ⟨hk,hm⟩ | ⟨hk,c,hc,hcell⟩
 ·exact wpAny_Name (wpAny_loadName_local I.ok.kind hk hn hm fin) hd
 ·rcases hk with hk | hk
  ·exact wpAny_Name (wpAny_loadName_cell I.ok.kind hk hc hcell fin) hd
  ·exact wpAny_Name (wpAny_loadName_free I.ok.kind hk hc hcell fin hcd) hd
def znc {i j pos}:PE X (.Constant (.int i) j pos) (tC (.int i)):=fun _ _ _ H _ I h=>wpAny_Constant_int ⟨.int i,H,I.tok _,⟨_,rfl⟩,h⟩
def zsW {b j pos}:PE X (.Constant (.bool b) j pos) (tC (.bl b)):=fun _ _ _ H _ I h=>Constant_bool ⟨.bl b,H,I,rfl,h⟩
def zqF {j pos}:PE X (.Constant .none j pos) (tC .non):=fun _ _ _ H _ I h=>Constant_none ⟨.non,H,I,rfl,h⟩
def zqD {x j pos}:PE X (.Constant (.str x) j pos) (tC (.str x)):=fun _ _ _ H _ I h=>Calls.Constant_str ⟨.str x,H,I.tok _,⟨_,rfl⟩,h⟩
def Gl (X:Cx) (x:Str):Prop:=X.env.kindOf x=some .globalImplicit
def zb8 {E:Value->Shared->Prop} {pins:yyL} {s:Shared} {σ:St} {H:Hp} {x:Str} {u:Value} {pos:Pos} {Q:Value->Shared->Prop} (I:Inv X pins σ H s) (hg:Gl X x) (hm:X.mg x=some u) (h:Q u s)
  (hd:yyD x:=by decide):wpAny (model X.prog X.w) X.A (eval (.Name x pos) X.env) Q E s :=
 Calls.Name_function_global I.ok.kind hg (Calls.loadGlobal_global (by rw [I.ok.glob]; exact I.mod.glob.keeps I.bk) hm h) hd
def zdU {E:Value->Shared->Prop} {pins:yyL} {s:Shared} {σ:St} {H:Hp} {x:Str} {u:Value} {pos:Pos} {Q:Value->Shared->Prop} (I:Inv X pins σ H s) (hg:Gl X x) (hm:X.mg x=none) (hv:bootBuiltins x=some u) (h:Q u s)
  (hn:x≠"__name__":=by decide) (hd:yyD x:=by decide):wpAny (model X.prog X.w) X.A (eval (.Name x pos) X.env) Q E s:=by
 obtain ⟨mb,h1,h2⟩:=I.mod.blt
 exact Calls.Name_function_global I.ok.kind hg (Calls.loadGlobal_builtin (by rw [I.ok.glob]; exact I.mod.glob.keeps I.bk) hm (by rw [I.ok.blt]; exact h1.keeps I.bk) ((h2 x hn).trans hv) h) hd
def zox {x:Str} {v:V} {u:Value} {pos:Pos} (hg:Gl X x) (hm:X.mg x=some u) (r:zap v u) (hd:yyD x:=by decide):PE X (.Name x pos) (tC v) :=
 fun _ _ _ H _ I h=>zb8 I hg hm ⟨v,H,I,r,h⟩ hd
def zoB {x:Str} {v:V} {u:Value} {pos:Pos} (hg:Gl X x) (hm:X.mg x=none) (hv:bootBuiltins x=some u) (r:zap v u) (hn:x≠"__name__":=by decide) (hd:yyD x:=by decide):PE X (.Name x pos) (tC v) :=
 fun _ _ _ H _ I h=>zdU I hg hm hv ⟨v,H,I,r,h⟩ hn hd
variable {a b:Expr} {ta tb:TE} {pos:Pos}
def tB (t:TE):TT:=fun σ H Q=>t σ H fun x H1=>∃ c,x=.bl c/\Q c H1
def zqw {e:Expr} {t:TE} (h:PE X e t) (he:∀ whole,isTrue e X.env whole=(do let v <- whole; standAt e.pos; holding [v] (truthy v)):=by intro _; rfl):PT X e (tB t):=by
 intro pins s σ H Q I hw
 refine isTrue_plain (thn (h pins s σ H _ I hw) fun v s1 ⟨x,H1,I1,r1,q1⟩=>?_) (he _)
 obtain ⟨d,rfl,q⟩:=q1; cases r1; exact wpAny_truthy_bool ⟨H1,I1,q⟩
variable {tA tB':TT} {zbb:List Expr}
def zuq (t u:TT):TT:=fun σ H Q=>t σ H fun c H1=>if c=true then u σ H1 Q else Q false H1
def tOr (t u:TT):TT:=fun σ H Q=>t σ H fun c H1=>if c=true then Q true H1 else u σ H1 Q
def zuk (t:TT):TT:=fun σ H Q=>t σ H fun c H1=>Q (!c) H1
def zob (ha:PT X a tA):PW X (.BoolOp .And [a] pos) tA:=by
 intro wh pins s σ H Q I h
 refine isTrue_and (thn (ha pins s σ H Q I h) fun c s1 e=>?_)
 cases c with
 | true=>exact isTrue_and_nil e
 | false=>exact e
def zqt (ha:PT X a tA):PW X (.BoolOp .Or [a] pos) tA:=by
 intro wh pins s σ H Q I h
 refine isTrue_or (thn (ha pins s σ H Q I h) fun c s1 e=>?_)
 cases c with
 | false=>exact isTrue_or_nil e
 | true=>exact e
def zqu (ha:PT X a tA) (hb:PW X (.BoolOp .And (b :: zbb) pos) tB'):PW X (.BoolOp .And (a :: b :: zbb) pos) (zuq tA tB'):=by
 intro wh pins s σ H Q I h
 refine isTrue_and (thn (ha pins s σ H _ I h) fun c s1 ⟨H1,I1,q1⟩=>?_)
 cases c with
 | true=>exact hb wh pins s1 σ H1 Q I1 q1
 | false=>exact ⟨H1,I1,q1⟩
def zsQ (ha:PT X a tA) (hb:PW X (.BoolOp .Or (b :: zbb) pos) tB'):PW X (.BoolOp .Or (a :: b :: zbb) pos) (tOr tA tB'):=by
 intro wh pins s σ H Q I h
 refine isTrue_or (thn (ha pins s σ H _ I h) fun c s1 ⟨H1,I1,q1⟩=>?_)
 cases c with
 | true=>exact ⟨H1,I1,q1⟩
 | false=>exact hb wh pins s1 σ H1 Q I1 q1
def zqx (ha:PT X a tA):PT X (.UnaryOp .Not a pos) (zuk tA):=by
 intro pins s σ H Q I h
 exact isTrue_not (ha pins s σ H (fun c H1=>Q (!c) H1) I h)
def zsz (ta tb:TE):TE:=fun σ H Q=>ta σ H fun x H1=>∃ c,x=.bl c/\if c=true then tb σ H1 Q else Q (.bl false) H1
def zqE {op} {t:TE} (h:PE X a t):PE X (.BoolOp op [a] pos) t:=fun pins s σ H Q I hw=>BoolOp_one (h pins s σ H Q I hw)
def zqO (ha:PE X a ta) (hb:PE X (.BoolOp .And (b :: zbb) pos) tb):PE X (.BoolOp .And (a :: b :: zbb) pos) (zsz ta tb):=by
 intro pins s σ H Q I h
 refine BoolOp_and (thn (ha pins s σ H _ I h) fun v s1 ⟨x,H1,I1,r1,q1⟩=>?_)
 obtain ⟨c,rfl,q1⟩:=q1; cases r1; refine wpAny_truthy_bool ?_
 cases c with
 | true=>exact hb pins s1 σ H1 Q I1 q1
 | false=>exact ⟨.bl false,H1,I1,rfl,q1⟩
def tIf (t:TT) (ta tb:TE):TE:=fun σ H Q=>t σ H fun c H1=>if c=true then ta σ H1 Q else tb σ H1 Q
def zlS {c:Expr} (hc:PT X c tA) (ha:PE X a ta) (hb:PE X b tb):PE X (.IfExp c a b pos) (tIf tA ta tb):=by
 intro pins s σ H Q I h
 refine wpAny_IfExp (thn (hc pins s σ H _ I h) fun d s1 ⟨H1,I1,q1⟩=>?_)
 cases d with
 | true=>exact ha pins s1 σ H1 Q I1 q1
 | false=>exact hb pins s1 σ H1 Q I1 q1
end
def SqL (K:W.Frag) (H:Hp) (a:Addr) (xs:List V):Prop :=
 Rd H a (.lst xs) \/
  ∃ (o:Obj) (its:Array Value) (n:Nat),K.lookup a=some o/\o.cls=.type "list"/\o.dict=none/\o.data=.seq its n/\its.size<=sizeLine/\zae xs its.toList
def SqT (K:W.Frag) (H:Hp) (a:Addr) (xs:List V):Prop :=
 Rd H a (.tup xs) \/
  ∃ (o:Obj) (its:Array Value) (n:Nat),K.lookup a=some o/\o.cls=.type "tuple"/\o.data=.seq its n/\its.size<=sizeLine/\zae xs its.toList
def zuL:Value->Option V
 | .none=>some .non
 | .bool b=>some (.bl b)
 | .int i _=>some (.int i)
 | .str x _=>some (.str x)
 | .bytes b _=>some (.byt b)
 | .float b _=>some (.flt b)
 | .ref a=>some (.ref a)
 | .type n=>some (.ty n)
 | _=>none
def zap.abs {x:V} {u:Value} (r:zap x u):zuL u=some x:=by
 cases x with
 | non=>cases r; rfl
 | bl _=>cases r; rfl
 | int _=>obtain ⟨t,rfl⟩:=r; rfl
 | str _=>obtain ⟨t,rfl⟩:=r; rfl
 | byt _=>obtain ⟨t,rfl⟩:=r; rfl
 | flt _=>obtain ⟨t,rfl⟩:=r; rfl
 | ref _=>cases r; rfl
 | ty _=>cases r; rfl
def zap.inj {x y:V} {u:Value} (r:zap x u) (q:zap y u):x=y:=Option.some.inj (r.abs.symm.trans q.abs)
theorem zae.inj:∀ {xs ys:List V} {us:List Value},zae xs us->zae ys us->xs=ys
 | _,_,_,.nil,.nil=>rfl
 | _,_,_,.cons r t,.cons r' t'=>by rw [r.inj r',zae.inj t t']
section
variable {X:Cx} {pins:yyL} {σ:St} {H:Hp} {s:Shared} {a:Addr} {xs ys:List V}
def SqL.of {K:W.Frag} (h:H a=some (.lst xs)):SqL K H a xs:=.inl (.inl h)
def SqT.of {K:W.Frag} (h:H a=some (.tup xs)):SqT K H a xs:=.inl (.inl h)
def Inv.list (I:Inv X pins σ H s) (h:SqL X.K H a xs):∃ its:List Value,zae xs its/\PlainL s.heap a its.toArray/\xs.length<=sizeLine:=by
 rcases h with h | ⟨o,its,n,hk,hc,hd,hs,hz,r⟩
 ·obtain ⟨z,its,n,r,e⟩:=h.ok I.hok
  exact ⟨its,r,⟨_,n,e,rfl,rfl,rfl⟩,z⟩
 ·refine ⟨its.toList,r,⟨o,n,I.kIn a o hk,hc,hd,by simpa using hs⟩,?_⟩
  have e:=r.length; simp only [yz] at e; omega
def Inv.tuple (I:Inv X pins σ H s) (h:SqT X.K H a xs):∃ its:List Value,zae xs its/\IsTup s.heap a its.toArray/\xs.length<=sizeLine:=by
 rcases h with h | ⟨o,its,n,hk,hc,hs,hz,r⟩
 ·obtain ⟨z,its,r,p⟩:=h.ok I.hok
  exact ⟨its,r,p,z⟩
 ·refine ⟨its.toList,r,⟨o,I.kIn a o hk,hc,n,by simpa using hs⟩,?_⟩
  have e:=r.length; simp only [yz] at e; omega
def Inv.list_inj (I:Inv X pins σ H s) (h:SqL X.K H a xs) (h':SqL X.K H a ys):xs=ys:=by
 obtain ⟨its,r,⟨o,n,e,_,_,d⟩,_⟩:=I.list h
 obtain ⟨its',r',⟨o',n',e',_,_,d'⟩,_⟩:=I.list h'
 rw [e] at e'; cases e'
 rw [d] at d'
 injection d' with d1 _
 have:its=its':=by simpa using ym Array.toList d1
 subst this; exact r.inj r'
def Inv.tuple_inj (I:Inv X pins σ H s) (h:SqT X.K H a xs) (h':SqT X.K H a ys):xs=ys:=by
 obtain ⟨its,r,⟨o,e,_,n,d⟩,_⟩:=I.tuple h
 obtain ⟨its',r',⟨o',e',_,n',d'⟩,_⟩:=I.tuple h'
 rw [e] at e'; cases e'
 rw [d] at d'
 injection d' with d1 _
 have:its=its':=by simpa using ym Array.toList d1
 subst this; exact r.inj r'
end
abbrev Cx.wish (X:Cx) (E:Value->Shared->Prop):Cx:={ X with xe:=E }
abbrev Cx.nox (X:Cx):Cx:=X.wish fun _ _=>False
def Cx.Ok.wish {X:Cx} (ok:X.Ok) (E:Value->Shared->Prop):(X.wish E).Ok :=
 ⟨ok.mod,ok.kind,ok.glob,ok.blt,ok.above,ok.inj,ok.has,ok.cab,ok.hd,ok.frames,ok.stk,ok.exf,ok.bs,ok.bsz,ok.noex,ok.exfs,ok.funs,ok.frf,ok.tab⟩
def Cx.Ok.unwish {X:Cx} {E:Value->Shared->Prop} (ok:(X.wish E).Ok):X.Ok :=
 ⟨ok.mod,ok.kind,ok.glob,ok.blt,ok.above,ok.inj,ok.has,ok.cab,ok.hd,ok.frames,ok.stk,ok.exf,ok.bs,ok.bsz,ok.noex,ok.exfs,ok.funs,ok.frf,ok.tab⟩
section
variable {X:Cx} {pins:yyL} {σ:St} {H:Hp} {s:Shared} {E:Value->Shared->Prop}
def Inv.wish (I:Inv X pins σ H s) (E:Value->Shared->Prop):Inv (X.wish E) pins σ H s:=⟨I.ok.wish E,I.os,I.bare,I.base,I.loc,I.cell,I.free,I.freeC,I.pin,I.hok,I.len⟩
def Inv.unwish (I:Inv (X.wish E) pins σ H s):Inv X pins σ H s:=⟨I.ok.unwish,I.os,I.bare,I.base,I.loc,I.cell,I.free,I.freeC,I.pin,I.hok,I.len⟩
def SP.unwish {D:Ends} {f:Flow} {s':Shared} (h:SP (X.wish E) pins D f s'):SP X pins D f s':=by
 cases f with
 | next=>obtain ⟨σ',H',I,q⟩:=h; exact ⟨σ',H',I.unwish,q⟩
 | brk=>obtain ⟨σ',H',I,q⟩:=h; exact ⟨σ',H',I.unwish,q⟩
 | cont=>obtain ⟨σ',H',I,q⟩:=h; exact ⟨σ',H',I.unwish,q⟩
 | ret u=>obtain ⟨v,σ',H',I,r,q⟩:=h; exact ⟨v,σ',H',I.unwish,r,q⟩
def PE.nox {e:Expr} {t:TE} (h:PE X.nox e t):PE X e t:=fun pins s σ H Q I hw =>
 yf (h pins s σ H Q (I.wish _) hw) (fun _ _ ⟨v,H',I',r,q⟩=>⟨v,H',I'.unwish,r,q⟩) fun _ _ z=>False.elim z
def PSs.nox {st:List Stmt} {t:TS} (h:PSs X.nox st t):PSs X st t:=fun pins s σ H D I hw =>
 yf (h pins s σ H D (I.wish _) hw) (fun _ _ q=>q.unwish) fun _ _ z=>False.elim z
end
section
variable {X:Cx} {st:Stmt} {zbb:List Stmt} {t u:TS} {e:Expr} {te:TE} {pos:Pos}
def zsu:TS:=fun D σ H=>D.nx σ H
def zui (t u:TS):TS:=fun D σ H=>t { D with nx:=u D } σ H
def zog:PSs X [] zsu:=fun _ _ σ H _ I h=>Yy ⟨σ,H,I,h⟩
def zhD (h1:PS X st t) (h2:PSs X zbb u):PSs X (st :: zbb) (zui t u):=by
 intro pins s σ H D I h
 refine wpAny_execs_cons (thn (h1 pins s σ H { D with nx:=u D } I h) fun f s1 q=>?_)
 cases f with
 | next =>
  obtain ⟨σ',H',I',q⟩:=q; exact h2 pins s1 σ' H' D I' q
 | ret v=>exact q
 | brk=>exact q
 | cont=>exact q
def zjz (h1:PS X st t):PSs X [st] t:=by
 intro pins s σ H D I h
 refine wpAny_execs_cons (thn (h1 pins s σ H D I h) fun f s1 q=>?_)
 cases f with
 | next=>exact Yy q
 | ret v=>exact q
 | brk=>exact q
 | cont=>exact q
def Inv.quiet {pins:yyL} {σ:St} {H:Hp} {s:Shared} (I:Inv X pins σ H s):interactive X.env=false:=by simp [interactive,I.ok.kind]
def zsx (te:TE):TS:=fun D σ H=>te σ H fun _ H1=>D.nx σ H1
def zjB (he:PE X e te) (hs:swapsWith e none pos.line X.env=pure false:=by rfl):PS X (.Expr e pos) (zsx te):=by
 intro pins s σ H D I h
 exact wpAny_Expr_any (thn (he pins s σ H _ I h) fun v s1 ⟨x,H1,I1,r1,q1⟩=>⟨σ,H1,I1,q1⟩) I.quiet hs
def zuj (te:TE):TS:=fun D σ H=>te σ H D.rt
def zna (he:PE X e te):PS X (.Return (some e) pos) (zuj te):=by
 intro pins s σ H D I h
 exact wpAny_Return_some (thn (he pins s σ H _ I h) fun v s1 ⟨x,H1,I1,r1,q1⟩=>⟨x,σ,H1,I1,r1,q1⟩)
def zun (c:TT) (t u:TS):TS:=fun D σ H=>c σ H fun b H1=>if b=true then t D σ H1 else u D σ H1
def zsR {c:Expr} {a b:List Stmt} {tc:TT} (hc:PT X c tc) (ha:PSs X a t) (hb:PSs X b u):PS X (.If c a b pos) (zun tc t u):=by
 intro pins s σ H D I h
 refine wpAny_If (thn (hc pins s σ H _ I h) fun d s1 ⟨H1,I1,q1⟩=>?_)
 cases d with
 | true=>exact ha pins s1 σ H1 D I1 q1
 | false=>exact hb pins s1 σ H1 D I1 q1
end
abbrev TG:=V->St->Hp->(St->Hp->Prop)->Prop
abbrev TGs:=List V->St->Hp->(St->Hp->Prop)->Prop
def PG (X:Cx) (target:Expr) (t:TG):Prop :=
 ∀ (pins:yyL) (s:Shared) (σ:St) (H:Hp) (v:V) (u:Value) (Q:St->Hp->Prop),Inv X pins σ H s->zap v u->t v σ H Q ->
  wpAny (model X.prog X.w) X.A (assign target X.env u) (fun _ s'=>∃ σ' H',Inv X pins σ' H' s'/\Q σ' H') X.xe s
def PGs (X:Cx) (ts:List Expr) (t:TGs):Prop :=
 ∀ (pins:yyL) (s:Shared) (σ:St) (H:Hp) (vs:List V) (us:List Value) (Q:St->Hp->Prop),Inv X pins σ H s->zae vs us->t vs σ H Q ->
  wpAny (model X.prog X.w) X.A (assignInOrder ((assignEach ts X.env).map (·.2)) us) (fun _ s'=>∃ σ' H',Inv X pins σ' H' s'/\Q σ' H') X.xe s
section
variable {X:Cx} {pos:Pos}
def zrj (i:Nat):TG:=fun v σ H Q=>Q (σ.set i (some v)) H
def zou {i:Nat} {x:Str} (hN:X.N.Nodup) (hi:X.N[i]?=some x) (hx:Loc X.env.scope x) (hf:X.fn x=true\/X.env.scope.names.lookup x=some .local:=by first | exact .inl rfl | exact .inr rfl | assumption):PG X (.Name x pos) (zrj i):=by
 intro pins s σ H v u Q I r h
 exact wpAny_assign_Name (zcK I hN hi hx r (fun s' I'=>⟨_,H,I',h⟩) hf)
def zuG:TGs:=fun vs σ H Q=>vs=[]/\Q σ H
def zti (t:TG) (u:TGs):TGs:=fun vs σ H Q=>∃ v r,vs=v :: r/\t v σ H fun σ' H'=>u r σ' H' Q
def zos:PGs X [] zuG:=by
 intro pins s σ H vs us Q I r h; obtain ⟨e,h⟩:=h; subst e; cases r; exact assignInOrder_nil ⟨σ,H,I,h⟩
def zlP {e:Expr} {es:List Expr} {t:TG} {u:TGs} (h1:PG X e t) (h2:PGs X es u)
  (hs:(assignEach (e :: es) X.env).map (·.2)=assign e X.env :: (assignEach es X.env).map (·.2):=by rfl):PGs X (e :: es) (zti t u):=by
 intro pins s σ H vs us Q I r h; obtain ⟨v,vr,e1,h⟩:=h; subst e1
 cases r with
 | cons r rr =>
  rw [hs]
  refine assignInOrder_cons (thn (h1 pins s σ H _ _ _ I r h) fun _ s1 ⟨σ1,H1,I1,q1⟩=>?_)
  exact h2 pins s1 σ1 H1 _ _ Q I1 rr q1
def zuF (K:W.Frag) (n:Nat) (t:TGs):TG:=fun v σ H Q=>∃ a xs,v=.ref a/\SqT K H a xs/\xs.length=n/\t xs σ H Q
def zqB {es:List Expr} {k:Nat} {t:TGs} {n:Nat} (hc:X.calm=true) (h:PGs X es t)
  (hn:(assignEach es X.env).length=n:=by rfl) (hst:(assignEach es X.env).findIdx? (·.1)=none:=by rfl):PG X (.Tuple es k pos) (zuF X.K n t):=by
 intro pins s σ H v u Q I r hw; obtain ⟨a,xs,e1,hq,hl,hw⟩:=hw; subst e1; cases r; obtain ⟨its,rv,ht,hz⟩:=I.tuple hq
 refine assign_Tuple_tuple (I.ok.hd hc) ht (by simp [hn,<- hl,rv.length]) hst fun h' hx=>?_
 have I1:Inv X pins σ H { s with heap:=h' }:=I.kept (t':=s.toks) fun b o e=>hx b o (yW (yJ e)) e
 exact h pins _ σ H xs _ Q I1 (by simpa using rv) hw
def zup (te:TE) (g:TG):TS:=fun D σ H=>te σ H fun x H1=>g x σ H1 D.nx
def zm9 {i:Nat} {x:Str} {e:Expr} {te:TE} {pos':Pos} (hN:X.N.Nodup) (hi:X.N[i]?=some x) (hx:Loc X.env.scope x) (he:PE X e te) (hs:swapsWith e (some (.Name x pos')) pos.line X.env=pure false:=by rfl) (hf:X.fn x=true\/X.env.scope.names.lookup x=some .local:=by first | exact .inl rfl | exact .inr rfl | assumption) :
  PS X (.Assign [.Name x pos'] e pos) (zup te (zrj i)):=by
 intro pins s σ H D I h
 refine wpAny_Assign_Name (thn (he pins s σ H _ I h) fun v s1 ⟨y,H1,I1,r1,q1⟩=>?_) hs
 exact zcK I1 hN hi hx r1 (fun s2 I2=>⟨_,H1,I2,q1⟩) hf
def zpU (c:TT) (tb:TS):TS:=fun D σ H=>∃ W:Nat->St->Hp->Prop,(∃ m,W m σ H)/\∀ m σ H,W m σ H ->
 c σ H fun b H1=>if b=true then ∃ N:St->Hp->Prop,(∀ σ' H',N σ' H'->∃ m',m'<m/\W m' σ' H')/\tb { D with nx:=N,ct:=N,bk:=D.nx } σ H1 else D.nx σ H1
def zlF {c:Expr} {body:List Stmt} {tc:TT} {tb:TS} (hp:PassesOwn (model X.prog X.w) X.A X.env X.xe) (hc:PT X c tc) (hb:PSs X body tb):PS X (.While c body [] pos) (zpU tc tb):=by
 intro pins s σ H D I h
 obtain ⟨W,⟨m0,w0⟩,turn⟩:=h
 refine wpAny_While (codeAny_whileLoop (fun n s'=>∃ σ' H',Inv X pins σ' H' s'/\W n σ' H') ?_ m0 ⟨σ,H,I,w0⟩)
 rintro n s1 ⟨σ1,H1,I1,w1⟩
 refine Yx hp (thn (hc pins s1 σ1 H1 _ I1 (turn n σ1 H1 w1)) fun b s2 ⟨H2,I2,q2⟩=>?_)
 cases b with
 | true =>
  obtain ⟨N,hN,q2⟩:=q2; rw [yI rfl]
  refine Yx hp (thn (hb pins s2 σ1 H2 _ I2 q2) fun f s3 q3=>?_)
  cases f with
  | next =>
   obtain ⟨σ3,H3,I3,n3⟩:=q3; obtain ⟨m',hm,w3⟩:=hN σ3 H3 n3; exact ⟨m',hm,σ3,H3,I3,w3⟩
  | cont =>
   obtain ⟨σ3,H3,I3,n3⟩:=q3; obtain ⟨m',hm,w3⟩:=hN σ3 H3 n3; exact ⟨m',hm,σ3,H3,I3,w3⟩
  | brk=>exact q3
  | ret v=>exact q3
 | false =>
  rw [yH yN]; exact Yy ⟨σ1,H2,I2,q2⟩
end
structure It where
 go:Nat->Hp->Prop
 yld:Nat->Hp->V->Hp->Prop
 stop:Nat->Hp->Prop
def zdq (X:Cx) (pins:yyL) (H:Hp) (b:Addr):Prop :=
 H b=none/\b≠X.env.locals/\b ∉ X.fs/\(b ∈ X.ex\/X.s₀.heap.objs.size<=b)/\(∀ x c,X.env.cells.lookup x=some c->c≠b)/\∀ p ∈ X.pn ++ pins,p.1≠b
def Inv.fpOk {X:Cx} {pins:yyL} {σ:St} {H H':Hp} {s:Shared} {b:Addr} (I:Inv X pins σ H s) (hb:s.heap.objs.size<=b) (hn:H' b=none):zdq X pins H' b:=by
 refine ⟨hn,Nat.ne_of_gt (yT I.lt hb),I.nofs hb,.inr (YG I.sz hb),fun x c e z=>?_,fun p hp z=>?_⟩
 ·obtain ⟨v,q⟩:=I.cell x c e
  exact yP (yT q.lt (by rw [z]; exact hb)) (YW _)
 ·exact yP (yT (yJ (I.pin p hp).1) (by rw [z]; exact hb)) (YW _)
structure Turn (P:Program) (w:World) (K:W.Frag) (tg:Expr) (J:It) (fp:List Addr) (it:Addr) (tn:Nat->Heap->Prop):Prop where
 mem:it ∈ fp
 obj:∀ i h,tn i h->∀ b ∈ fp,∃ o,h.get? b=some o/\∀ v,o.data≠.cell v
 keep:∀ i h h',tn i h->(∀ b ∈ fp,∀ o,h.get? b=some o->h'.get? b=some o)->tn i h'
 item:∀ (X:Cx),X.prog=P->X.w=w->X.K=K->X.calm=true->∀ (i:Nat) (pins:yyL) (s:Shared) (σ:St) (H:Hp) (E:Value->Shared->Prop),Inv X pins σ H s->(∀ b ∈ fp,zdq X pins H b)->tn i s.heap->J.go i H ->
  wpAny (model P w) X.A (pyNext (.ref it)) (fun r s1=>∃ u,r=some u /\
   wpAny (model P w) X.A (letOwnedTupleGo tg (.ref it) u) (fun _ s2=>∃ x H',Inv X pins σ H' s2/\zap x u/\J.yld i H x H'/\tn (i+1) s2.heap/\∀ b ∈ fp,H' b=none) E s1) E s
 done:∀ (X:Cx),X.prog=P->X.w=w->X.K=K->X.calm=true->∀ (i:Nat) (pins:yyL) (s:Shared) (σ:St) (H:Hp) (E:Value->Shared->Prop),Inv X pins σ H s->(∀ b ∈ fp,zdq X pins H b)->tn i s.heap->J.stop i H ->
  wpAny (model P w) X.A (pyNext (.ref it)) (fun r s1=>r=none/\Inv X pins σ H s1) E s
 self:∀ (A:Around) (i:Nat) (s:Shared) (Q:Value->Shared->Prop) (E:Value->Shared->Prop),tn i s.heap->Q (.ref it) s->wpAny (model P w) A (pyIter (.ref it)) Q E s
abbrev TI:=St->Hp->(It->Hp->Prop)->Prop
def PIE (X:Cx) (pins:yyL) (σ:St) (tg:Expr) (R:It->Hp->Prop) (itv:Value) (s2:Shared):Prop :=
 ∃ (it:Addr) (fp:List Addr) (tn:Nat->Heap->Prop) (J:It) (H':Hp),itv=.ref it/\Inv X pins σ H' s2/\Turn X.prog X.w X.K tg J fp it tn/\tn 0 s2.heap/\(∀ b ∈ fp,zdq X pins H' b)/\R J H'
def PI (X:Cx) (tg iter:Expr) (wi:TI):Prop :=
 ∀ (pins:yyL) (s:Shared) (σ:St) (H:Hp) (R:It->Hp->Prop),Inv X pins σ H s->wi σ H R ->
  wpAny (model X.prog X.w) X.A (eval iter X.env) (fun v s1=>wpAny (model X.prog X.w) X.A (pyIter v) (PIE X pins σ tg R) X.xe s1) X.xe s
def ziH {M:Model} {A:Around} {E:Value->Shared->Prop} {s:Shared} {tg:Expr} {it:Addr} {u:Value} {o:Obj} {n:String} {vs:Array Value} {Q:Unit->Shared->Prop} (ho:s.heap.get? it=some o) (hc:o.cls=.type n) (hd:o.data=.fields vs)
    (hn:["enumerate","zip","dict_itemiterator","dict_reverseitemiterator","odict_iterator","itertools.zip_longest","itertools.pairwise"].contains n=false) (hQ:Q () s):wpAny M A (letOwnedTupleGo tg (.ref it) u) Q E s:=by
  unfold letOwnedTupleGo
  cases tg <;> first
    | exact yF hQ
    | (cases u <;> first
        | exact yF hQ
        | (refine yA (wpAny_load ho ?_)
           rw [hc,hd]
           show wpAny M A (if (["enumerate","zip","dict_itemiterator","dict_reverseitemiterator","odict_iterator","itertools.zip_longest","itertools.pairwise"].contains n && vs[0]? == some (rawInt _))=true then _ else _) Q E s
           rw [yH (by intro h; rw [hn,Bool.false_and] at h; cases h)]
           exact yF hQ))
def Itl (K:W.Frag) (a:Addr):It :=
 ⟨fun i H=>∃ xs x,SqL K H a xs/\xs[i]?=some x,fun i H x H'=>H'=H/\∀ xs,SqL K H a xs->xs[i]?=some x,fun i H=>∃ xs,SqL K H a xs/\xs.length<=i⟩
def Itt (K:W.Frag) (a:Addr):It :=
 ⟨fun i H=>∃ xs x,SqT K H a xs/\xs[i]?=some x,fun i H x H'=>H'=H/\∀ xs,SqT K H a xs->xs[i]?=some x,fun i H=>∃ xs,SqT K H a xs/\xs.length<=i⟩
def Itr (lo:Int) (n:Nat):It:=⟨fun i _=>i<n,fun i H x H'=>H'=H/\x=.int (lo+i),fun i _=>n<=i⟩
def zi7 {P:Program} {w:World} {K:W.Frag} {tg:Expr} (a it:Addr):Turn P w K tg (Itl K a) [it] it (fun i h=>h.IsListIter it a i) where
 mem:=by simp
 obj:=fun i h st b hb=>by
  have e:b=it:=by simpa using hb
  subst e; obtain ⟨o,e,c,d⟩:=st
  exact ⟨o,e,fun v z=>by rw [d] at z; cases z⟩
 keep:=fun i h h' st k=>st.at fun o e=>k it (by simp) o e
 item:=by
  intro X hP hw hK hc i pins s σ H E I hf st hg
  subst hP hw hK
  obtain ⟨xs,x,hq,hx⟩:=hg; obtain ⟨its,rv,p,hz⟩:=I.list hq; obtain ⟨u,hu,ru⟩:=rv.get hx
  obtain ⟨f0,f1,f2,f3,f4,f5⟩:=hf it (by simp)
  refine wpAny_pyNext_list_item st p.isList (x:=u) (by simpa using hu) fun h' st' sb=>?_
  have I1:Inv X pins σ H { s with heap:=h' }:=I.turned (t':=s.toks) (fun b o hb e=>(sb.2 b hb).trans e) f0 f1 f3 f4 f5
  obtain ⟨o,e,c,d⟩:=id st'
  exact ⟨u,rfl,ziH (s:={ s with heap:=h' }) e c d (by decide) ⟨x,H,I1,ru,⟨rfl,fun ys hy=>by rw [I.list_inj hy hq]; exact hx⟩,st',fun b hb=>(hf b hb).1⟩⟩
 done:=by
  intro X hP hw hK hc i pins s σ H E I hf st hg
  subst hP hw hK
  obtain ⟨xs,hq,hx⟩:=hg; obtain ⟨its,rv,p,hz⟩:=I.list hq
  obtain ⟨f0,f1,f2,f3,f4,f5⟩:=hf it (by simp)
  have hl:=rv.length
  exact wpAny_pyNext_list_end (I.ok.hd hc) st p.isList (by simp; omega) fun h' eb=>⟨rfl,I.turned (t':=s.toks) (fun b o hb e=>eb b o hb e) f0 f1 f3 f4 f5⟩
 self:=fun _ _ _ _ _ st h=>wpAny_pyIter_listiter st h
def zid {P:Program} {w:World} {K:W.Frag} {tg:Expr} (a it:Addr):Turn P w K tg (Itt K a) [it] it (fun i h=>h.IsTupleIter it a i) where
 mem:=by simp
 obj:=fun i h st b hb=>by
  have e:b=it:=by simpa using hb
  subst e; obtain ⟨o,e,c,d⟩:=st
  exact ⟨o,e,fun v z=>by rw [d] at z; cases z⟩
 keep:=fun i h h' st k=>st.at fun o e=>k it (by simp) o e
 item:=by
  intro X hP hw hK hc i pins s σ H E I hf st hg
  subst hP hw hK
  obtain ⟨xs,x,hq,hx⟩:=hg; obtain ⟨its,rv,p,hz⟩:=I.tuple hq; obtain ⟨u,hu,ru⟩:=rv.get hx
  obtain ⟨f0,f1,f2,f3,f4,f5⟩:=hf it (by simp)
  refine wpAny_pyNext_tuple_item st (show s.heap.IsTuple a its.toArray from p) (x:=u) (by simpa using hu) fun h' st' sb=>?_
  have I1:Inv X pins σ H { s with heap:=h' }:=I.turned (t':=s.toks) (fun b o hb e=>(sb.2 b hb).trans e) f0 f1 f3 f4 f5
  obtain ⟨o,e,c,d⟩:=id st'
  exact ⟨u,rfl,ziH (s:={ s with heap:=h' }) e c d (by decide) ⟨x,H,I1,ru,⟨rfl,fun ys hy=>by rw [I.tuple_inj hy hq]; exact hx⟩,st',fun b hb=>(hf b hb).1⟩⟩
 done:=by
  intro X hP hw hK hc i pins s σ H E I hf st hg
  subst hP hw hK
  obtain ⟨xs,hq,hx⟩:=hg; obtain ⟨its,rv,p,hz⟩:=I.tuple hq
  obtain ⟨f0,f1,f2,f3,f4,f5⟩:=hf it (by simp)
  have hl:=rv.length
  exact wpAny_pyNext_tuple_end (I.ok.hd hc) st (show s.heap.IsTuple a its.toArray from p) (by simp; omega) fun h' eb=>⟨rfl,I.turned (t':=s.toks) (fun b o hb e=>eb b o hb e) f0 f1 f3 f4 f5⟩
 self:=fun _ _ _ _ _ st h=>wpAny_pyIter_tupleiter st h
def zie {P:Program} {w:World} {K:W.Frag} {tg:Expr} (it:Addr) (lo:Int) (n:Nat):Turn P w K tg (Itr lo n) [it] it (fun i h=>IsRangeIter h it (lo+(i:Nat) * 1) ((n:Int)-(i:Nat)) 1) where
 mem:=by simp
 obj:=fun i h st b hb=>by
  have e:b=it:=by simpa using hb
  subst e
  exact ⟨_,st,fun v z=>by
   have z':Data.fields _=Data.cell v:=z
   cases z'⟩
 keep:=fun i h h' st k=>k it (by simp) _ st
 item:=by
  intro X hP hw hK hc i pins s σ H E I hf st hg
  subst hP hw hK
  obtain ⟨f0,f1,f2,f3,f4,f5⟩:=hf it (by simp)
  have W:=Walks.range (prog:=X.prog) (w:=X.w) (I.ok.hd hc) it lo 1 n
  refine W.item i s _ _ hg st fun v h' tk hv st' kk=>?_
  obtain ⟨t,rfl⟩:=hv
  have I1:Inv X pins σ H { s with heap:=h',toks:=tk }:=I.turned (fun b o hb e=>kk b o (by simpa using hb) e) f0 f1 f3 f4 f5
  refine ⟨_,rfl,ziH (s:={ s with heap:=h',toks:=tk }) (n:="range_iterator") st' rfl rfl (by decide) ⟨.int (lo+i),H,I1,⟨t,?_⟩,⟨rfl,rfl⟩,st',fun b hb=>(hf b hb).1⟩⟩
  rw [Int.mul_one]
 done:=by
  intro X hP hw hK hc i pins s σ H E I hf st hg
  subst hP hw hK
  obtain ⟨f0,f1,f2,f3,f4,f5⟩:=hf it (by simp)
  exact wpAny_pyNext_range_end (I.ok.hd hc) st (by have:n<=i:=hg; omega) fun h' eb=>⟨rfl,I.turned (t':=s.toks) (fun b o hb e=>eb b o hb e) f0 f1 f3 f4 f5⟩
 self:=fun _ _ _ _ _ st h=>wpAny_pyIter_rangeiter st h
section
variable {X:Cx} {tg:Expr}
def zlv {pins:yyL} {σ:St} {H:Hp} {s:Shared} {R:It->Hp->Prop} {E:Value->Shared->Prop} {lo hi:Int} {t u v:Tok} {tk:Nat} (I:Inv X pins σ H s) (h1:-(2 ^ 62)<=lo) (h2:lo<2 ^ 62) (h3:-(2 ^ 62)<=hi) (h4:hi<2 ^ 62)
  (q:R (Itr lo (hi-lo).toNat) H):wpAny (model X.prog X.w) X.A (pyIter (.ref s.heap.objs.size)) (PIE X pins σ tg R) E { s with heap:=s.heap.push { cls:=.type "range",data:=.fields #[.int lo t,.int hi u,.int 1 v] },toks:=tk }:=by
 refine wpAny_pyIter_range (IsRange.new ..) (small_one h1 h2 h3 h4) ?_
 have I1:Inv X pins σ H { s with heap:=s.heap.push { cls:=.type "range",data:=.fields #[.int lo t,.int hi u,.int 1 v] },toks:=tk }:=I.kept fun b o e=>yC _ e
 refine ⟨(s.heap.push { cls:=.type "range",data:=.fields #[.int lo t,.int hi u,.int 1 v] }).objs.size,[(s.heap.push { cls:=.type "range",data:=.fields #[.int lo t,.int hi u,.int 1 v] }).objs.size],_,_,H,rfl,
  I1.kept (t':=tk) fun b o e=>yC _ e,zie _ lo (hi-lo).toNat,?_,fun b hb=>?_,q⟩
 ·have e1:lo+((0:Nat):Int) * 1=lo:=by simp
  have e2:(((hi-lo).toNat:Nat):Int)-((0:Nat):Int)=Builtin.Range.rangeSize lo hi 1:=by rw [rangeSize_one]; split <;> omega
  show IsRangeIter _ _ (lo+((0:Nat):Int) * 1) ((((hi-lo).toNat:Nat):Int)-((0:Nat):Int)) 1
  rw [e1,e2]; exact yM _ rfl
 ·have e:b=(s.heap.push { cls:=.type "range",data:=.fields #[.int lo t,.int hi u,.int 1 v] }).objs.size:=by simpa using hb
  subst e; exact I1.fpOk (yD _) (I1.hok.fresh (yD _))
def ztg (ta:TA):TI:=fun σ H R=>ta σ H fun vs H1=>∃ j:Int,vs=[.int j]/\-(2 ^ 62)<=j/\j<2 ^ 62/\R (Itr 0 j.toNat) H1
def zjF {a:Expr} {ta:TA} {p pos:Pos} (hg:Gl X "range") (hm:X.mg "range"=none) (ha:PA X [a] ta) (hs:starEach [a] X.env=[(false,eval a X.env)]:=by rfl):PI X tg (.Call (.Name "range" p) [a] [] pos) (ztg ta):=by
 intro pins s σ H R I h
 refine Call_ (zdU I hg hm boot_range (JA (thn (ha pos pins s σ H _ I h) fun us s1 ⟨vs,H1,I1,r1,q1⟩=>?_) hs rfl))
 obtain ⟨j,e,q1,q2,q⟩:=q1; subst e
 cases r1 with
 | cons r rr =>
  cases rr; obtain ⟨t,rfl⟩:=r
  exact call_range_1 (zlv I1 (by omega) (by omega) q1 q2 (by simpa using q))
def zuo (wi:TI) (g:TG) (tb:TS):TS:=fun D σ H=>wi σ H fun J H1=>∃ W:Nat->Nat->St->Hp->Prop,(∃ m,W 0 m σ H1)/\∀ i m σ H,W i m σ H ->
 (J.stop i H/\D.nx σ H)\/(J.go i H/\∃ N:St->Hp->Prop,(∀ σ' H',N σ' H'->∃ m',m'<m/\W (i+1) m' σ' H')/\∀ x H',J.yld i H x H'->g x σ H' fun σ2 H2=>tb { D with nx:=N,ct:=N,bk:=D.nx } σ2 H2)
def zet (fp:List Addr) (h:Heap):yyL:=fp.filterMap fun b=>(h.get? b).map fun o=>(b,o)
def zci {fp:List Addr} {h:Heap} {b:Addr} {o:Obj} (hb:b ∈ fp) (e:h.get? b=some o):(b,o) ∈ zet fp h:=List.mem_filterMap.mpr ⟨b,hb,by rw [e]; rfl⟩
def zjP {fp:List Addr} {h:Heap} {p:Addr × Obj} (hp:p ∈ zet fp h):p.1 ∈ fp/\h.get? p.1=some p.2:=by
 obtain ⟨b,hb,e⟩:=List.mem_filterMap.mp hp
 cases q:h.get? b with
 | none=>rw [q] at e; cases e
 | some o =>
  rw [q] at e
  have e':(b,o)=p:=Option.some.inj e
  subst e'
  exact ⟨hb,q⟩
def Inv.pinned {pins:yyL} {σ:St} {H:Hp} {s:Shared} {fp:List Addr} (I:Inv X pins σ H s) (hf:∀ b ∈ fp,zdq X pins H b) (ho:∀ b ∈ fp,∃ o,s.heap.get? b=some o/\∀ v,o.data≠.cell v):Inv X (pins ++ zet fp s.heap) σ H s :=
 I.pins_of fun p hp=>(yb.mp hp).elim (fun z=>I.pin p (yV _ z)) fun z=>by
  obtain ⟨hb,e⟩:=zjP z; obtain ⟨f0,f1,f2,_⟩:=hf p.1 hb; obtain ⟨o,e',d⟩:=ho p.1 hb
  rw [e] at e'; cases e'
  exact ⟨e,f0,f1,f2,d⟩
def Inv.unpinned {pins pl:yyL} {σ:St} {H:Hp} {s:Shared} (I:Inv X (pins ++ pl) σ H s):Inv X pins σ H s:=I.pins_of fun p hp=>I.pin p (yV _ (YE _ hp))
def zqy {iter:Expr} {body:List Stmt} {wi:TI} {g:TG} {tb:TS} {pos:Pos} (hp:PassesOwn (model X.prog X.w) X.A X.env X.xe) (hc:X.calm=true) (hi:PI X tg iter wi) (hg:PG X tg g) (hb:PSs X body tb)
  (hs:∀ x,foldedSetIterable iter X.env x=pure x:=by intro _; rfl):PS X (.For tg iter body [] pos) (zuo wi g tb):=by
 intro pins s σ H D I h
 refine wpAny_For (thn (hi pins s σ H _ I h) fun v s1 h1=>thn h1 fun itv s2 h2=>?_) hs
 obtain ⟨it,fp,tn,J,H2,e,I2,T,st2,f2,W,⟨m0,w0⟩,turn⟩:=h2
 subst e
 -- what stays true of the iterator's objects through the loop
 have stat:∀ {H':Hp},(∀ b ∈ fp,H' b=none)->∀ b ∈ fp,zdq X pins H' b:=fun hn b hb=>⟨hn b hb,(f2 b hb).2⟩
 refine codeAny_forLoop_any (fun n s'=>∃ i σ' H',Inv X pins σ' H' s'/\tn i s'.heap/\(∀ b ∈ fp,H' b=none)/\W i n σ' H') ?_ m0 ⟨0,σ,H2,I2,st2,fun b hb=>(f2 b hb).1,w0⟩
 rintro n s3 ⟨i,σ3,H3,I3,st3,fr3,w3⟩
 rcases turn i n σ3 H3 w3 with ⟨stop,qn⟩ | ⟨go,N,hN,step⟩
 ·refine Yx hp (thn (T.done X rfl rfl rfl hc i pins s3 σ3 H3 X.xe I3 (stat fr3) st3 stop) fun r s4 ⟨hr,I4⟩=>?_)
  subst hr; exact Yy ⟨σ3,H3,I4,qn⟩
 ·refine Yx hp (thn (T.item X rfl rfl rfl hc i pins s3 σ3 H3 X.xe I3 (stat fr3) st3 go) fun r s4 ⟨u,hr,h4⟩=>?_)
  subst hr
  refine Yx hp (thn h4 fun _ s5 ⟨x,H5,I5,r5,y5,st5,fr5⟩=>?_)
  have I5':=I5.pinned (stat fr5) (T.obj _ _ st5)
  refine Yx hp (thn (hg _ s5 σ3 H5 x u _ I5' r5 (step x H5 y5)) fun _ s6 ⟨σ6,H6,I6,q6⟩=>?_)
  refine Yx hp (thn (hb _ s6 σ6 H6 _ I6 q6) fun f s7 q7=>?_)
  have again:∀ {σ7:St} {H7:Hp},Inv X (pins ++ zet fp s5.heap) σ7 H7 s7->N σ7 H7->∃ m,m<n/\∃ i σ' H',Inv X pins σ' H' s7/\tn i s7.heap/\(∀ b ∈ fp,H' b=none)/\W i m σ' H':=fun {σ7 H7} I7 n7=>by
   obtain ⟨m',hm,w7⟩:=hN σ7 H7 n7
   refine ⟨m',hm,i+1,σ7,H7,I7.unpinned,T.keep _ _ _ st5 fun b hb o e=>(I7.pin (b,o) (yV _ (yV _ (zci hb e)))).1,fun b hb=>?_,w7⟩
   obtain ⟨o,e,d⟩:=T.obj _ _ st5 b hb; exact (I7.pin (b,o) (yV _ (yV _ (zci hb e)))).2.1
  cases f with
  | next=>obtain ⟨σ7,H7,I7,n7⟩:=q7; exact again I7 n7
  | cont=>obtain ⟨σ7,H7,I7,n7⟩:=q7; exact again I7 n7
  | brk=>obtain ⟨σ7,H7,I7,q7⟩:=q7; exact ⟨σ7,H7,I7.unpinned,q7⟩
  | ret v=>obtain ⟨x7,σ7,H7,I7,r7,q7⟩:=q7; exact ⟨x7,σ7,H7,I7.unpinned,r7,q7⟩
end
abbrev R2:=V->V->Hp->VK->Prop
def OpR (X:Cx) (f:Value->Value->Sem Value) (r:R2):Prop :=
 ∀ (pins:yyL) (s:Shared) (σ:St) (H:Hp) (x y:V) (v u:Value) (Q:VK),Inv X pins σ H s->zap x v->zap y u->r x y H Q ->
  wpAny (model X.prog X.w) X.A (f v u) (EP X pins σ Q) X.xe s
def UnR (X:Cx) (f:Value->Sem Value) (r:V->Hp->VK->Prop):Prop :=
 ∀ (pins:yyL) (s:Shared) (σ:St) (H:Hp) (x:V) (v:Value) (Q:VK),Inv X pins σ H s->zap x v->r x H Q ->
  wpAny (model X.prog X.w) X.A (f v) (EP X pins σ Q) X.xe s
def zbW (X:Cx) (f:Value) (r:List V->Hp->VK->Prop):Prop :=
 ∀ (pins:yyL) (s:Shared) (σ:St) (H:Hp) (xs:List V) (us:List Value) (Q:VK),Inv X pins σ H s->zae xs us->r xs H Q ->
  wpAny (model X.prog X.w) X.A (call f us) (EP X pins σ Q) X.xe s
def tOp (r:R2) (ta tb:TE):TE:=fun σ H Q=>ta σ H fun x H1=>tb σ H1 fun y H2=>r x y H2 Q
def tUn (r:V->Hp->VK->Prop) (ta:TE):TE:=fun σ H Q=>ta σ H fun x H1=>r x H1 Q
def rI (C:Int->Int->Prop) (g:Int->Int->V):R2:=fun x y H Q=>∃ i j,x=.int i/\y=.int j/\C i j/\Q (g i j) H
def rI0 (g:Int->Int->V):R2:=fun x y H Q=>∃ i j,x=.int i/\y=.int j/\Q (g i j) H
def rU (g:Int->V):V->Hp->VK->Prop:=fun x H Q=>∃ i,x=.int i/\Q (g i) H
section
variable {X:Cx} {a b c:Expr} {ta tb tc:TE} {pos:Pos}
def zty (ha:PE X a ta) (hb:PE X b tb) {pins:yyL} {s:Shared} {σ:St} {H:Hp} {R:V->V->Hp->Prop} (I:Inv X pins σ H s)
  (h:ta σ H fun x H1=>tb σ H1 fun y H2=>R x y H2) {Q:Value->Shared->Prop} {f:Value->Value->Sem Value}
  (hf:∀ v u s2 x y H2,Inv X pins σ H2 s2->zap x v->zap y u->R x y H2->wpAny (model X.prog X.w) X.A (f v u) Q X.xe s2) :
  wpAny (model X.prog X.w) X.A (eval a X.env) (fun v s₁=>wpAny (model X.prog X.w) X.A (eval b X.env) (fun u s₂=>wpAny (model X.prog X.w) X.A (f v u) Q X.xe s₂) X.xe s₁) X.xe s:=by
 refine thn (ha pins s σ H _ I h) fun v s1 ⟨x,H1,I1,r1,q1⟩=>?_
 refine thn (hb pins s1 σ H1 _ I1 q1) fun u s2 ⟨y,H2,I2,r2,q2⟩=>?_
 exact hf v u s2 x y H2 I2 r1 r2 q2
def zsU {op:Operator} {r:R2} (ho:OpR X (binaryOp op) r) (ha:PE X a ta) (hb:PE X b tb):PE X (.BinOp a op b pos) (tOp r ta tb):=by
 intro pins s σ H Q I h
 exact wpAny_BinOp (zty ha hb I h fun v u s2 x y H2 I2 rx ry q=>ho pins s2 σ H2 x y v u Q I2 rx ry q)
def zsT {op:UnaryOp} {r:V->Hp->VK->Prop} (ho:UnR X (unaryOp op) r) (ha:PE X a ta):PE X (.UnaryOp op a pos) (tUn r ta):=by
 intro pins s σ H Q I h
 exact UnaryOp_ (thn (ha pins s σ H _ I h) fun v s1 ⟨x,H1,I1,r1,q1⟩=>ho pins s1 σ H1 x v Q I1 r1 q1)
def opI {f:Value->Value->Sem Value} {C:Int->Int->Prop} {g:Int->Int->Int}
  (rule:∀ (i j:Int) (t u:Tok) (s:Shared) (Q:Value->Shared->Prop) (E:Value->Shared->Prop),C i j->Q (.int (g i j) s.toks) { s with toks:=s.toks+1 }->wpAny (model X.prog X.w) X.A (f (.int i t) (.int j u)) Q E s) :
  OpR X f (rI C fun i j=>.int (g i j)):=by
 intro pins s σ H x y v u Q I rx ry h; obtain ⟨i,j,rfl,rfl,hc,q⟩:=h; obtain ⟨t,rfl⟩:=rx; obtain ⟨t',rfl⟩:=ry; exact rule i j t t' s _ _ hc ⟨.int (g i j),H,I.tok _,⟨_,rfl⟩,q⟩
def ztT {f:Value->Value->Sem Value} {g:Int->Int->Int}
  (rule:∀ (i j:Int) (t u:Tok) (s:Shared) (Q:Value->Shared->Prop) (E:Value->Shared->Prop),Q (.int (g i j) s.toks) { s with toks:=s.toks+1 }->wpAny (model X.prog X.w) X.A (f (.int i t) (.int j u)) Q E s) :
  OpR X f (rI0 fun i j=>.int (g i j)):=by
 intro pins s σ H x y v u Q I rx ry h; obtain ⟨i,j,rfl,rfl,q⟩:=h; obtain ⟨t,rfl⟩:=rx; obtain ⟨t',rfl⟩:=ry; exact rule i j t t' s _ _ ⟨.int (g i j),H,I.tok _,⟨_,rfl⟩,q⟩
def ztU {f:Value->Value->Sem Value} {g:Int->Int->Bool}
  (rule:∀ (i j:Int) (t u:Tok) (s:Shared) (Q:Value->Shared->Prop) (E:Value->Shared->Prop),Q (.bool (g i j)) s->wpAny (model X.prog X.w) X.A (f (.int i t) (.int j u)) Q E s) :
  OpR X f (rI0 fun i j=>.bl (g i j)):=by
 intro pins s σ H x y v u Q I rx ry h; obtain ⟨i,j,rfl,rfl,q⟩:=h; obtain ⟨t,rfl⟩:=rx; obtain ⟨t',rfl⟩:=ry; exact rule i j t t' s _ _ ⟨.bl (g i j),H,I,rfl,q⟩
def zmU (i j:Int):Prop:=0<j/\j<1073741824
def zmT (i j:Int):Prop:=(-(2 ^ 64)<i/\i<2 ^ 64)\/(-(2 ^ 64)<j/\j<2 ^ 64)
def zmT.ok {i j:Int} (h:zmT i j):IntMulOk i j:=by
 rcases h with ⟨h1,h2⟩ | ⟨h1,h2⟩
 ·exact .of_left (intBits_le_64 h1 h2)
 ·exact .of_right (intBits_le_64 h1 h2)
def zqW:OpR X (binaryOp .Add) (rI0 fun i j=>.int (i+j)):=ztT fun _ _ _ _ _ _ _ q=>add_int q
def zqQ:OpR X (binaryOp .Sub) (rI0 fun i j=>.int (i-j)):=ztT fun _ _ _ _ _ _ _ q=>sub_int q
def zqR:OpR X (binaryOp .Mult) (rI zmT fun i j=>.int (i * j)):=opI fun _ _ _ _ _ _ _ hc q=>mul_int q hc.ok
def zoF:OpR X (binaryOp .FloorDiv) (rI zmU fun i j=>.int (i / j)):=opI fun i j _ _ _ _ _ hc q=>by
 have h1:(0:Int)<j:=hc.1
 have h2:j<1073741824:=hc.2
 exact floordiv_int (by omega) (by rw [Int.fdiv_eq_ediv_of_nonneg i (by omega)]; exact q) (.inl (PyProof.noPylong_small (by omega)))
def zqS:OpR X (binaryOp .Mod) (rI (fun _ j=>0<j) fun i j=>.int (i % j)):=opI fun i j _ _ _ _ _ hc q=>by
 have h1:(0:Int)<j:=hc
 exact mod_int' (by omega) (by rw [Int.fmod_eq_emod_of_nonneg i (by omega)]; exact q)
def unI {f:Value->Sem Value} {g:Int->Int}
  (rule:∀ (i:Int) (t:Tok) (s:Shared) (Q:Value->Shared->Prop) (E:Value->Shared->Prop),Q (.int (g i) s.toks) { s with toks:=s.toks+1 }->wpAny (model X.prog X.w) X.A (f (.int i t)) Q E s) :
  UnR X f (rU fun i=>.int (g i)):=by
 intro pins s σ H x v Q I rx h; obtain ⟨i,rfl,q⟩:=h; obtain ⟨t,rfl⟩:=rx; exact rule i t s _ _ ⟨.int (g i),H,I.tok _,⟨_,rfl⟩,q⟩
def zpN:UnR X (unaryOp .USub) (rU fun i=>.int (-i)):=unI fun _ _ _ _ _ q=>neg_int q
end
def zn4:V->V->Bool
 | .non,.non=>true | .non,.int _=>true | .int _,.non=>true | .non,.bl _=>true | .bl _,.non=>true | .non,.str _=>true | .str _,.non=>true
 | .int _,.int _=>true | .bl _,.bl _=>true | .str _,.str _=>true | .byt _,.byt _=>true
 | .int _,.str _=>true | .str _,.int _=>true | .bl _,.str _=>true | .str _,.bl _=>true
 | _,_=>false
def rEq:R2:=fun x y H Q=>zn4 x y=true/\Q (.bl (decide (x=y))) H
def rNe:R2:=fun x y H Q=>zn4 x y=true/\Q (.bl (!decide (x=y))) H
def zkr {i j:Int}:decide (V.int i=V.int j)=(i == j):=by
 rw [Bool.eq_iff_iff]; simp
def znD {i j:Bool}:decide (V.bl i=V.bl j)=(i == j):=by
 rw [Bool.eq_iff_iff]; simp
def zkq {i j:Str}:decide (V.str i=V.str j)=(i == j):=by
 rw [Bool.eq_iff_iff]; simp
def zks {i j:Array UInt8}:decide (V.byt i=V.byt j)=(i.toList == j.toList):=by
 rw [Bool.eq_iff_iff]; cases i; cases j; simp
section
variable {X:Cx} {a b c:Expr} {ta tb tc:TE} {pos:Pos}
def zQ {pins:yyL} {σ:St} {H:Hp} {s:Shared} {Q:VK} {k k':Bool} (I:Inv X pins σ H s) (q:Q (.bl k) H) (e:k=k'):EP X pins σ Q (.bool k') s:=by
 subst e; exact ⟨.bl k,H,I,rfl,q⟩
def zs1:OpR X (compareOp .Eq) rEq:=by
 intro pins s σ H x y v u Q I rx ry h; obtain ⟨hs,q⟩:=h
 cases x with
 | non =>
  cases rx
  cases y with
  | non=>cases ry; exact PySem.EqNone.eq_none_none (zQ I q (by simp))
  | bl j=>cases ry; exact PySem.EqNone.eq_none_bool (zQ I q (by simp))
  | int j=>obtain ⟨t',rfl⟩:=ry; exact PySem.EqNone.eq_none_int (zQ I q (by simp))
  | str j=>obtain ⟨t',rfl⟩:=ry; exact PySem.EqNone.eq_none_str (zQ I q (by simp))
  | _=>exact yP (show false=true from hs) yN
 | bl i =>
  cases rx
  cases y with
  | non=>cases ry; exact PySem.EqNone.eq_bool_none (zQ I q (by simp))
  | bl j=>cases ry; exact eq_bool (zQ I q znD)
  | str j=>obtain ⟨t',rfl⟩:=ry; exact PySem.EqMixed.eq_bool_str (zQ I q (by simp))
  | _=>exact yP (show false=true from hs) yN
 | int i =>
  obtain ⟨t,rfl⟩:=rx
  cases y with
  | non=>cases ry; exact PySem.EqNone.eq_int_none (zQ I q (by simp))
  | int j=>obtain ⟨t',rfl⟩:=ry; exact eq_int (zQ I q zkr)
  | str j=>obtain ⟨t',rfl⟩:=ry; exact PySem.EqMixed.eq_int_str (zQ I q (by simp))
  | _=>exact yP (show false=true from hs) yN
 | str i =>
  obtain ⟨t,rfl⟩:=rx
  cases y with
  | non=>cases ry; exact PySem.EqNone.eq_str_none (zQ I q (by simp))
  | bl j=>cases ry; exact PySem.EqMixed.eq_str_bool (zQ I q (by simp))
  | int j=>obtain ⟨t',rfl⟩:=ry; exact PySem.EqMixed.eq_str_int (zQ I q (by simp))
  | str j=>obtain ⟨t',rfl⟩:=ry; exact eq_str (zQ I q zkq)
  | _=>exact yP (show false=true from hs) yN
 | byt i =>
  obtain ⟨t,rfl⟩:=rx
  cases y with
  | byt j=>obtain ⟨t',rfl⟩:=ry; exact W.eq_bytes (zQ I q zks)
  | _=>exact yP (show false=true from hs) yN
 | _=>cases y <;> exact yP (show false=true from hs) yN
def zsY:OpR X (compareOp .NotEq) rNe:=by
 intro pins s σ H x y v u Q I rx ry h; obtain ⟨hs,q⟩:=h
 cases x with
 | non =>
  cases rx
  cases y with
  | non=>cases ry; exact PySem.EqNone.ne_none_none (zQ I q (by simp))
  | bl j=>cases ry; exact PySem.EqNone.ne_none_bool (zQ I q (by simp))
  | int j=>obtain ⟨t',rfl⟩:=ry; exact PySem.EqNone.ne_none_int (zQ I q (by simp))
  | str j=>obtain ⟨t',rfl⟩:=ry; exact PySem.EqNone.ne_none_str (zQ I q (by simp))
  | _=>exact yP (show false=true from hs) yN
 | bl i =>
  cases rx
  cases y with
  | non=>cases ry; exact PySem.EqNone.ne_bool_none (zQ I q (by simp))
  | bl j=>cases ry; exact ne_bool (zQ I q (ym not znD))
  | str j=>obtain ⟨t',rfl⟩:=ry; exact PySem.EqMixed.ne_bool_str (zQ I q (by simp))
  | _=>exact yP (show false=true from hs) yN
 | int i =>
  obtain ⟨t,rfl⟩:=rx
  cases y with
  | non=>cases ry; exact PySem.EqNone.ne_int_none (zQ I q (by simp))
  | int j=>obtain ⟨t',rfl⟩:=ry; exact ne_int (zQ I q (ym not zkr))
  | str j=>obtain ⟨t',rfl⟩:=ry; exact PySem.EqMixed.ne_int_str (zQ I q (by simp))
  | _=>exact yP (show false=true from hs) yN
 | str i =>
  obtain ⟨t,rfl⟩:=rx
  cases y with
  | non=>cases ry; exact PySem.EqNone.ne_str_none (zQ I q (by simp))
  | bl j=>cases ry; exact PySem.EqMixed.ne_str_bool (zQ I q (by simp))
  | int j=>obtain ⟨t',rfl⟩:=ry; exact PySem.EqMixed.ne_str_int (zQ I q (by simp))
  | str j=>obtain ⟨t',rfl⟩:=ry; exact ne_str (zQ I q (ym not zkq))
  | _=>exact yP (show false=true from hs) yN
 | byt i =>
  obtain ⟨t,rfl⟩:=rx
  cases y with
  | byt j=>obtain ⟨t',rfl⟩:=ry; exact W.ne_bytes (zQ I q (ym not zks))
  | _=>exact yP (show false=true from hs) yN
 | _=>cases y <;> exact yP (show false=true from hs) yN
def zsZ:OpR X (compareOp .Lt) (rI0 fun i j=>.bl (decide (i<j))):=ztU fun _ _ _ _ _ _ _ q=>lt_int q
def zs0:OpR X (compareOp .Gt) (rI0 fun i j=>.bl (decide (j<i))):=ztU fun _ _ _ _ _ _ _ q=>gt_int q
def zjL:OpR X (compareOp .In) (fun x y H Q=>∃ i j,x=.str i/\y=.str j/\Q (.bl (!(Builtin.Str.occurrences j i 0 j.length 1).isEmpty)) H):=by
 intro pins s σ H x y v u Q I rx ry h; obtain ⟨i,j,rfl,rfl,q⟩:=h; obtain ⟨t,rfl⟩:=rx; obtain ⟨t',rfl⟩:=ry; exact in_str (zQ I q rfl)
def zqU:OpR X (compareOp .Is) (fun x y H Q=>y=.non/\Q (.bl (decide (x=.non))) H):=by
 intro pins s σ H x y v u Q I rx ry h; obtain ⟨rfl,q⟩:=h; cases ry; refine is_none_gen (zQ I q ?_)
 cases x <;> first
  | (cases rx; rfl)
  | (obtain ⟨t,rfl⟩:=rx; rfl)
def zoE:OpR X (compareOp .IsNot) (fun x y H Q=>y=.non/\Q (.bl (!decide (x=.non))) H):=by
 intro pins s σ H x y v u Q I rx ry h; obtain ⟨rfl,q⟩:=h; cases ry; refine isnot_none_gen (zQ I q ?_)
 cases x <;> first
  | (cases rx; rfl)
  | (obtain ⟨t,rfl⟩:=rx; rfl)
def zfW:OpR X (compareOp .NotIn) (fun x y H Q=>∃ i j,x=.str i/\y=.str j/\Q (.bl (!(!(Builtin.Str.occurrences j i 0 j.length 1).isEmpty))) H):=by
 intro pins s σ H x y v u Q I rx ry h; obtain ⟨i,j,rfl,rfl,q⟩:=h; obtain ⟨t,rfl⟩:=rx; obtain ⟨t',rfl⟩:=ry; exact notIn_str (zQ I q rfl)
def OpR.or {f:Value->Value->Sem Value} {r r':R2} (h:OpR X f r) (h':OpR X f r'):OpR X f (fun x y H Q=>r x y H Q\/r' x y H Q):=by
 intro pins s σ H x y v u Q I rx ry q
 rcases q with q | q
 ·exact h pins s σ H x y v u Q I rx ry q
 ·exact h' pins s σ H x y v u Q I rx ry q
def zng (b:Expr) {op:CmpOp} (h:op≠.In:=by decide) (h2:op≠.NotIn:=by decide):behindInMarks op b=false:=by
 have e1:(op == CmpOp.In)=false:=by cases op <;> first | rfl | exact yP rfl h
 have e2:(op == CmpOp.NotIn)=false:=by cases op <;> first | rfl | exact yP rfl h2
 cases b <;> simp [behindInMarks,e1,e2]
def zoA {op:CmpOp} {r:R2} (ho:OpR X (compareOp op) r) (ha:PE X a ta) (hb:PE X b tb) (hm:behindInMarks op b=false):PE X (.Compare a [op] [b] pos) (tOp r ta tb):=by
 intro pins s σ H Q I h
 exact wpAny_Compare1 (zty ha hb I h fun v u s2 x y H2 I2 rx ry q=>ho pins s2 σ H2 x y v u Q I2 rx ry q) hm
def zss (t:TE):TT:=fun σ H Q=>t σ H fun x H'=>∃ k,x=.bl k/\Q k H'
def zof {op:CmpOp} {r:R2} (ho:OpR X (compareOp op) r) (ha:PE X a ta) (hb:PE X b tb) (hm:behindInMarks op b=false):PT X (.Compare a [op] [b] pos) (zss (tOp r ta tb)):=by
 intro pins s σ H Q I h
 refine wpAny_isTrue_Compare1 (thn (ha pins s σ H _ I h) fun v s1 ⟨x,H1,I1,r1,q1⟩=>thn (hb pins s1 σ H1 _ I1 q1) fun u s2 ⟨y,H2,I2,r2,q2⟩ =>
  thn (ho pins s2 σ H2 x y v u _ I2 r1 r2 q2) fun c s3 ⟨z,H3,I3,r3,k,e,q3⟩=>?_) hm
 subst e; cases r3; exact wpAny_truthy_bool ⟨H3,I3,q3⟩
def zf5:(sizeLine:Nat)<2 ^ 63:=by rw [sizeLine_eq]; decide
def ziw:OpR X (binaryOp .Add) (fun x y H Q=>∃ i j,x=.str i/\y=.str j/\i.length+j.length<=sizeLine/\Q (.str (i ++ j)) H):=by
 intro pins s σ H x y v u Q I rx ry h; obtain ⟨i,j,rfl,rfl,hz,q⟩:=h; obtain ⟨t,rfl⟩:=rx; obtain ⟨t',rfl⟩:=ry
 exact add_str (fun t' tk=>⟨.str (i ++ j),H,I.tok _,⟨_,rfl⟩,q⟩) hz
def zcl {x:V} {us:List Value} (r:zae [x] us):∃ u,us=[u]/\zap x u:=by
 cases r with
 | cons r1 r2=>cases r2; exact ⟨_,rfl,r1⟩
def zlb {x y:V} {us:List Value} (r:zae [x,y] us):∃ u w',us=[u,w']/\zap x u/\zap y w':=by
 cases r with
 | cons r1 r2 =>
  cases r2 with
  | cons r3 r4=>cases r4; exact ⟨_,_,rfl,r1,r3⟩
def zkD:zbW X (.type "int") (fun xs H Q=>(∃ i,xs=[.int i]/\Q (.int i) H)\/∃ k,xs=[.bl k]/\Q (.int (if k then 1 else 0)) H):=by
 intro pins s σ H xs us Q I r h
 rcases h with ⟨i,rfl,q⟩ | ⟨k,rfl,q⟩
 ·obtain ⟨u,rfl,t,rfl⟩:=zcl r
  exact call_int_int ⟨.int i,H,I,⟨_,rfl⟩,q⟩
 ·obtain ⟨u,rfl,r1⟩:=zcl r
  cases r1
  exact call_int_bool ⟨.int (if k then 1 else 0),H,I.tok _,⟨_,rfl⟩,q⟩
def zgo:zbW X (.type "str") (fun xs H Q=>∃ i,xs=[.int i]/\i.natAbs.log2<1920/\Q (.str (toString i)) H):=by
 intro pins s σ H xs us Q I r h; obtain ⟨i,rfl,hz,q⟩:=h; obtain ⟨u,rfl,t,rfl⟩:=zcl r; exact PySem.P.str_of_int hz ⟨.str _,H,I.tok _,⟨_,rfl⟩,q⟩
end
structure ObjM (h:Heap) (x dx C:Addr) (mA:Str->Option Value):Prop where
 obj:h.get? x=some (W.instObj C dx)
 ns:h.Ns1 dx mA
 ne:dx≠x
def zf4 {h:Heap} {dx:Addr} {mA:Str->Option Value} (n:h.Ns1 dx mA):∃ od,h.get? dx=some od/\∀ name,W.lookIn name od=some (mA name):=by
 obtain ⟨o,es,ep,ho,hd,hk,_,hm⟩:=n
 refine ⟨o,ho,fun name=>?_⟩
 have e:=hm name; unfold nsFind findBy at e; rw [<- Array.find?_toList] at e; unfold W.lookIn; rw [hd]
 dsimp only
 split
 ·rename_i y q
  rw [q] at e; exact ym some e
 ·rename_i q
  rw [q] at e
  have a:es.toList.any (·.refKey)=false:=by
   rw [List.any_eq_false]; intro y hy; obtain ⟨z,t,hkey⟩:=hk y (Array.mem_toList_iff.mp hy); simp [DictEntry.refKey,hkey]
  have a':¬ es.toList.any (·.refKey)=true:=by rw [a]; exact yN
  rw [yH a']; exact ym some e
def ObjM.look {h:Heap} {x dx C:Addr} {mA:Str->Option Value} (I:ObjM h x dx C mA):∃ od,W.InstAt h x (W.instObj C dx) C (some od)/\∀ name,W.lookIn name od=some (mA name) :=
 let ⟨od,ho,hl⟩:=zf4 I.ns
 ⟨od,⟨I.obj,rfl,rfl,ho⟩,hl⟩
section
variable {prog:Program} {w:World} {A:Around} {E:Value->Shared->Prop} {s:Shared} {K:W.Frag} {x dx C f:Addr} {mA:Str->Option Value} {name:Str} {v:Value}
def zo8 {expr:Bool} {Q:Value->Shared->Prop} (X:K.In s.heap) (I:ObjM s.heap x dx C mA) (hg:W.plainGet K C name=true) (hh:W.hasDictIn K C=true)
  (ha:W.findIn K (.ref C) name=some none) (hv:mA name=some v) (hv':W.handedIn v=true) (h:Q v { s with toks:=s.toks+1 }) :
  wpAny (model prog w) A (getAttr (.ref x) name expr) Q E s:=by
 obtain ⟨od,J,hl⟩:=I.look
 exact W.get_value X J (W.plainGet_of hg).1 (W.findObj_own hh ha rfl (by rw [hl,hv])) hv' h
end
def zkM.some_of {v:V} {o:Option Value} (r:zkM (some v) o):∃ u,o=some u/\zap v u:=by
 cases o with
 | none=>exact (show False from r).elim
 | some u=>exact ⟨u,rfl,r⟩
def zge {v:V} {u:Value} (r:zap v u):W.handedIn u=true:=by
 cases v with
 | non=>cases (show u=Value.none from r); rfl
 | bl b=>cases (show u=Value.bool b from r); rfl
 | int i=>obtain ⟨t,e⟩:=(show ∃ t,u=Value.int i t from r); cases e; rfl
 | str x=>obtain ⟨t,e⟩:=(show ∃ t,u=Value.str x t from r); cases e; rfl
 | byt b=>obtain ⟨t,e⟩:=(show ∃ t,u=Value.bytes b t from r); cases e; rfl
 | flt b=>obtain ⟨t,e⟩:=(show ∃ t,u=Value.float b t from r); cases e; rfl
 | ref a=>cases (show u=Value.ref a from r); rfl
 | ty n=>cases (show u=Value.type n from r); rfl
section
variable {P:Program} {w:World} {H H':Hp} {h h':Heap} {a C dx:Addr} {fs fs':List (Str × V)}
def zkf (hok:HOk P w H h) (e:H a=some (.ins C dx fs)):∃ mA,ObjM h a dx C mA/\(∀ f,zkM (fs.lookup f) (mA f))/\PySem.Within mA (fs.map (·.1))/\fs.length<=1000/\H dx=some (.own a):=by
 obtain ⟨d,z,ne,ob,mA,n,r,q⟩:=(show zal P w H h a (.ins C dx fs) from hok a _ e)
 exact ⟨mA,⟨ob,n,ne⟩,r,q,z,d⟩
end
structure Cls (K:W.Frag) (C:Addr):Prop where
 pg:W.plainGet K C Str.empty=true
 hd:W.hasDictIn K C=true
 po:W.plainOver K C=true
 sa:W.findIn K (.ref C) "__setattr__"=some (some (.builtin "object.__setattr__"))
def Cls.get {K:W.Frag} {C:Addr} (c:Cls K C) (f:Str):W.plainGet K C f=true:=c.pg
def zcu (K:W.Frag) (C:Addr) (f:Str):Prop:=W.findIn K (.ref C) f=some none
def zcu.taker {K:W.Frag} {C:Addr} {f:Str} (n:zcu K C f):W.takerIn K C f=some none:=by
 unfold W.takerIn
 rw [show W.findIn K (.ref C) f=some none from n]
 rfl
section
variable {X:Cx} {pins:yyL} {σ:St} {H:Hp} {s:Shared} {a C dx:Addr} {fs:List (Str × V)} {f:Str} {v:V} {A:Around} {E:Value->Shared->Prop}
def ziI {b:Bool} {Q:Value->Shared->Prop} (I:Inv X pins σ H s) (e:H a=some (.ins C dx fs)) (c:Cls X.K C) (n:zcu X.K C f) (l:fs.lookup f=some v)
  (h:∀ u s',Inv X pins σ H s'->zap v u->Q u s'):wpAny (model X.prog X.w) A (getAttr (.ref a) f b) Q E s:=by
 obtain ⟨mA,O,r,_,_,_⟩:=zkf I.hok e
 obtain ⟨u,hu,ru⟩:=zkM.some_of (v:=v) (o:=mA f) (by rw [<- l]; exact r f)
 exact zo8 I.kIn O (c.get f) c.hd n hu (zge ru) (h u _ (I.tok _) ru)
def zpo {prog:Program} {w:World} {env:Env} {e:Expr} {f:Str} {pos:Pos} {s:Shared} {Q:Value->Shared->Prop} (hb:attributeBase e f env (eval e env)=eval e env)
  (h:wpAny (model prog w) A (eval e env) (fun o s₁=>wpAny (model prog w) A (getAttr o f true) Q E s₁) E s):wpAny (model prog w) A (eval (.Attribute e f pos) env) Q E s :=
 Attribute_any_ h (by rw [arm_eval_Attribute,hb])
end
section
variable {X:Cx} {o e value:Expr} {f:Str} {pos pos' tpos:Pos} {ta tv:TE}
end
section
variable {X:Cx} {pins:yyL} {σ:St} {H:Hp} {s:Shared} {A:Around} {E:Value->Shared->Prop} {Q:Value->Shared->Prop} {c:Value} {b:Bool}
end
structure Room (k:Nat) (A:Around):Prop where
 hd:A.handled=none
 dp:A.depth+3 * k+5<recursionLimit
 un:A.units+16 * k+200<cLine
 gd:A.guards=some []
def Room.mono {j k:Nat} {A:Around} (r:Room k A) (h:j<=k):Room j A:=⟨r.hd,by have:=r.dp; omega,by have:=r.un; omega,r.gd⟩
def Room.deeper {k:Nat} {A:Around} (r:Room (k+1) A) (env:Env):Room k (A.deeper env) :=
 ⟨r.hd,by have:=r.dp; show A.depth+1+3 * k+5<_; omega,by have:=r.un; show A.units+3+16 * k+200<_; omega,r.gd⟩
def Room.in1 {k:Nat} {A:Around} (r:Room (k+1) A):Room k A.in1 :=
 ⟨r.hd,by have:=r.dp; show A.depth+3 * k+5<_; omega,by have:=r.un; show A.units+1+16 * k+200<_; omega,r.gd⟩
def ziA {A:Around} {C:Addr} {us:List Value} {kw:List (Str × Value)}:(A.under (.builtin "type.__call__" ⟨.ref C :: us,kw⟩)).depth=A.depth+1:=by
 first | rfl | simp [Around.under,Code.weight,Code.isCreation,Code.isGuard,Code.isCaller,Code.frames,Code.isFrame,guardIds]
def ziz {A:Around} {C:Addr} {us:List Value} {kw:List (Str × Value)}:(A.under (.builtin "type.__call__" ⟨.ref C :: us,kw⟩)).units=A.units+1:=by
 first | rfl | simp [Around.under,Code.cUnits,Code.frames,Code.isFrame]
def Room.make {k:Nat} {A:Around} (r:Room (k+1) A) (C:Addr) (us:List Value) (kw:List (Str × Value)):Room k (A.under (.builtin "type.__call__" ⟨.ref C :: us,kw⟩)) :=
 ⟨r.hd,by have:=r.dp; rw [ziA]; omega,by have:=r.un; rw [ziz]; omega,r.gd⟩
def Room.depth {k:Nat} {A:Around} (r:Room k A):A.depth<recursionLimit:=by have:=r.dp; omega
def Room.units {k:Nat} {A:Around} (r:Room k A):A.units+64<cLine:=by have:=r.un; omega
def Room.units0 {k:Nat} {A:Around} (r:Room k A):A.units<cLine:=by have:=r.un; omega
def ztJ:TA:=fun _ H Q=>Q [] H
def zpZ (ta:TE) (tr:TA):TA:=fun σ H Q=>ta σ H fun x H1=>tr σ H1 fun xs H2=>Q (x :: xs) H2
section
variable {X:Cx} {e:Expr} {es:List Expr} {te:TE} {t:TA} {pos:Pos}
def zhF:PA X [] ztJ:=fun _ _ _ _ H Q I h=>Calls.spliced_nil ⟨[],H,I,.nil,h⟩
def zcz (ha:PE X e te) (hr:PA X es t) (hs:starEach (e :: es) X.env=(false,eval e X.env) :: starEach es X.env:=by rfl):PA X (e :: es) (zpZ te t):=by
 intro pos pins s σ H Q I h; rw [hs]
 show wpAny _ _ (spliced ((false,eval e X.env) :: backTo pos (starEach es X.env))) _ _ s
 refine Calls.spliced_cons (thn (ha pins s σ H _ I h) fun u s1 ⟨x,H1,I1,r1,q1⟩=>?_)
 exact thn (hr pos pins s1 σ H1 _ I1 q1) fun us s2 ⟨xs,H2,I2,r2,q2⟩=>⟨x :: xs,H2,I2,.cons r1 r2,q2⟩
def zuh (t:TA):TE:=fun σ H Q=>t σ H fun xs H1=>xs.length<=sizeLine/\∀ p,H1 p=none->Q (.ref p) (upd H1 p (.tup xs))
def zul (t:TA):TE:=fun σ H Q=>t σ H fun xs H1=>xs.length<=sizeLine/\∀ p,H1 p=none->Q (.ref p) (upd H1 p (.lst xs))
def zqC {x1} (h:PA X es t):PE X (.Tuple es x1 pos) (zuh t):=by
 intro pins s σ H Q I hq
 refine wpAny_Tuple_spliced (thn (h pos pins s σ H _ I hq) fun us s1 ⟨xs,H1,I1,r,z,q⟩=>⟨by rw [<- r.length]; exact z,?_⟩)
 have hf:H1 s1.heap.objs.size=none:=I1.hok.fresh (yD _)
 refine ⟨.ref s1.heap.objs.size,upd H1 s1.heap.objs.size (.tup xs),I1.laid (t':=s1.toks) (fun b u e=>yC _ e) (yD _) ?_,rfl,q _ hf⟩
 exact ⟨z,us,r,⟨_,yM _ rfl,rfl,_,rfl⟩⟩
def zqG (h:PA X es t):PE X (.List es pos) (zul t):=by
 intro pins s σ H Q I hq
 refine wpAny_List_spliced (thn (h pos pins s σ H _ I hq) fun us s1 ⟨xs,H1,I1,r,z,q⟩=>⟨by rw [<- r.length]; exact z,?_⟩)
 have hf:H1 s1.heap.objs.size=none:=I1.hok.fresh (yD _)
 refine ⟨.ref s1.heap.objs.size,upd H1 s1.heap.objs.size (.lst xs),I1.laid (t':=s1.toks) (fun b u e=>yC _ e) (yD _) ?_,rfl,q _ hf⟩
 exact ⟨z,us,0,r,yM _ rfl⟩
end
abbrev Sp:=List V->Hp->VK->XK->Prop
abbrev CXT:=List Env->Hp->Shared->XK->Value->Shared->Prop
structure Env0 (P:Program) (w:World) (K:W.Frag) (mg:Str->Option Value) (base:Heap) (A:Around) (outer:List Env) (s:Shared) (H:Hp):Prop where
 frames:A.frames=some outer
 mod:Mod K mg base
 bs:∀ b o,base.get? b=some o->s.heap.get? b=some o/\H b=none
 bsz:base.objs.size<=s.heap.objs.size
 funs:s.heap.FunFrames base outer
 frf:∀ b ∈ frs outer,H b=none
 hok:HOk P w H s.heap
 bare:AllBare s.gens
 tab:ziR base H
def CE (outer:List Env) (P:Program) (w:World) (H:Hp) (s:Shared) (Q:VK) (u:Value) (s':Shared):Prop :=
 ∃ v H',s'.os=s.os/\AllBare s'.gens/\Un (frs outer) [] H H' s.heap s'.heap/\HOk P w H' s'.heap/\zap v u/\Q v H'
def CR (CX:CXT) (outer:List Env) (P:Program) (w:World) (H:Hp) (s:Shared) (Q:VK) (E:XK) (r:Result) (s':Shared):Prop :=
 match r with
 | .ok (.ret u)=>CE outer P w H s Q u s'
 | .ok _=>False
 | .error e=>CX outer H s E e s'
structure FnOk (P:Program) (w:World) (K:W.Frag) (mg:Str->Option Value) (base:Heap) (CX:CXT) (k:Nat) (f:Addr) (fd:FuncData) (ps:List Str) (sp:Sp):Prop where
 len:∀ vs H Q E,sp vs H Q E->vs.length=ps.length
 run:∀ (A:Around) (outer:List Env) (s:Shared) (H:Hp) (args:Args) (us:List Value) (vs:List V) (Q:VK) (E:XK),Room k A->Env0 P w K mg base A outer s H->BindsTo s fd args (ps.zip us)->zae vs us->sp vs H Q E ->
  codeAny (model P w) A (.call (.ref f) args) (CR CX outer P w H s Q E) s
def Env0.make {P:Program} {w:World} {K:W.Frag} {mg:Str->Option Value} {base:Heap} {A:Around} {outer:List Env} {s:Shared} {H:Hp} (e:Env0 P w K mg base A outer s H) (C:Addr) (us:List Value) (kw:List (Str × Value)) :
  Env0 P w K mg base (A.under (.builtin "type.__call__" ⟨.ref C :: us,kw⟩)) outer s H:=⟨by first | exact e.frames | (simpa [Around.under,Code.envs,Code.isFrame,pushEnvs] using e.frames),e.mod,e.bs,e.bsz,e.funs,e.frf,e.hok,e.bare,e.tab⟩
def Env0.in1 {P:Program} {w:World} {K:W.Frag} {mg:Str->Option Value} {base:Heap} {A:Around} {outer:List Env} {s:Shared} {H:Hp} (e:Env0 P w K mg base A outer s H) :
  Env0 P w K mg base A.in1 outer s H:=⟨e.frames,e.mod,e.bs,e.bsz,e.funs,e.frf,e.hok,e.bare,e.tab⟩
section
variable {X:Cx} {pins:yyL} {σ:St} {H:Hp} {s s':Shared}
def Inv.env0 (I:Inv X pins σ H s):Env0 X.prog X.w X.K X.mg X.base X.A X.stack s H :=
 ⟨I.ok.frames,I.ok.mod,I.bs,YG I.ok.bsz I.sz,I.stack,I.stkFree,I.hok,I.bare,I.ok.tab.un I.base.tbls⟩
def Inv.after {Q:VK} {u:Value} (I:Inv X pins σ H s) (h:CE X.stack X.prog X.w H s Q u s'):EP X pins σ Q u s':=by
 obtain ⟨v,H',os,bare,un,hok,r,q⟩:=h; obtain ⟨hh,g,d,t,os'⟩:=s'
 obtain rfl:os'=s.os:=os
 exact ⟨v,H',I.call (h':=hh) (g':=g) (d':=d) (t':=t) (ch:=[]) un hok bare (fun b z=>yP z (by simp)),r,q⟩
end
def zp2 (sp:Sp) (dvs:List V) (E:XK) (t:TA):TE:=fun σ H Q=>t σ H fun vs H1=>sp (vs ++ dvs) H1 Q E
def zbX (K:W.Frag) (fd:FuncData) (ps:List Str) (ds:List Value):Prop :=
 ∀ (s:Shared) (us:List Value),K.In s.heap->(us ++ ds).length=ps.length->BindsTo s fd ⟨us,[]⟩ (ps.zip (us ++ ds))
def zbX.all {K:W.Frag} {fd:FuncData} {ps:List Str} (h:∀ us:List Value,us.length=ps.length->bindArgs fd ⟨us,[]⟩=pure (ps.zip us)):zbX K fd ps []:=fun s us _ hl=>by
 rw [yd] at hl ⊢; exact .of_eq (h us hl)
def zkP (CX:CXT) (X:Cx) (E:XK):Prop:=∀ (pins:yyL) (σ:St) (H:Hp) (s:Shared) (e:Value) (s':Shared),Inv X pins σ H s->CX X.stack H s E e s'->X.xe e s'
section
variable {X:Cx} {CX:CXT} {k:Nat} {f C:Addr} {fd:FuncData} {ps:List Str} {sp:Sp} {dvs:List V} {ds:List Value} {E:XK} {x m:Str} {p pos apos:Pos} {e o:Expr} {es:List Expr} {ta:TE} {t:TA}
def zqd {pins:yyL} {σ:St} {H:Hp} {s:Shared} {Q:VK} {us:List Value} {vs:List V} (F:FnOk X.prog X.w X.K X.mg X.base CX k f fd ps sp) (hr:Room k X.A) (hb:zbX X.K fd ps ds) (hd:zae dvs ds) (hx:zkP CX X E)
  (I:Inv X pins σ H s) (r:zae vs us) (h:sp (vs ++ dvs) H Q E):wpAny (model X.prog X.w) X.A (call (.ref f) us) (EP X pins σ Q) X.xe s:=by
 have r2:zae (vs ++ dvs) (us ++ ds):=r.append hd
 have hl:(us ++ ds).length=ps.length:=by rw [<- r2.length]; exact F.len _ _ _ _ h
 refine wpAny_call (codeAny_mono (F.run X.A X.stack s H ⟨us,[]⟩ (us ++ ds) (vs ++ dvs) Q E hr I.env0 (hb s us I.kIn hl) r2 h) fun r s' hq=>?_)
 cases r with
 | error e=>exact hx pins σ H s e s' I hq
 | ok fl =>
  cases fl with
  | ret u=>exact I.after hq
  | next=>exact False.elim hq
  | brk=>exact False.elim hq
  | cont=>exact False.elim hq
def zjK (F:FnOk X.prog X.w X.K X.mg X.base CX k f fd ps sp) (hr:Room k X.A) (hg:Gl X x) (hm:X.mg x=some (.ref f)) (hk:W.keepIn X.K (.ref f)=true) (hb:zbX X.K fd ps ds) (hd:zae dvs ds) (hx:zkP CX X E)
  (ha:PA X (e :: es) t) (hdb:yyD x:=by decide) (he:starEach (e :: es) X.env=(false,eval e X.env) :: starEach es X.env:=by rfl) (hpl:(backTo pos (starEach es X.env)).any (·.1)=false:=by rfl) :
  PE X (.Call (.Name x p) (e :: es) [] pos) (zp2 sp dvs E t):=by
 intro pins s σ H Q I h; refine YT (zb8 I hg hm ?_ hdb)
 refine W.callWith_K (h₀:=X.base) I.ok.mod.kin hk (thn (ha pos pins s σ H _ I h) fun us s1 ⟨vs,H1,I1,r,q⟩=>⟨I1.kIn,?_⟩) he hpl
 exact zqd F hr hb hd hx I1 r q
end
def PK (X:Cx) (kws:List Keyword) (t:TA):Prop :=
 ∀ (pos:Pos) (pins:yyL) (s:Shared) (σ:St) (H:Hp) (Q:List V->Hp->Prop),Inv X pins σ H s->t σ H Q->wpAny (model X.prog X.w) X.A (evalAll ((backToKw pos (keywordEach kws X.env)).map (·.2))) (AP X pins σ Q) X.xe s
section
variable {X:Cx} {CX:CXT} {k:Nat} {f C:Addr} {fd:FuncData} {ps ks:List Str} {sp:Sp} {E:XK} {x m:Str} {p pos apos kpos:Pos} {e o:Expr} {es:List Expr} {kws:List Keyword} {te ta:TE} {t tk:TA} {nm:Option Str}
def zqz:PK X [] ztJ:=fun _ _ _ _ H Q I h=>wpAny_evalAll_nil ⟨[],H,I,.nil,h⟩
def zoo (ha:PE X e te) (hr:PK X kws t):PK X (⟨nm,e,kpos⟩ :: kws) (zpZ te t):=by
 intro pos pins s σ H Q I h
 show wpAny _ _ (evalAll ((do let v <- eval e X.env; standAt pos; pure v) :: (backToKw pos (keywordEach kws X.env)).map (·.2))) _ _ s
 refine wpAny_evalAll_cons (yA (thn (ha pins s σ H _ I h) fun u s1 ⟨x,H1,I1,r1,q1⟩=>yA (wpAny_standAt (yF ?_))))
 exact thn (hr pos pins s1 σ H1 _ I1 q1) fun us s2 ⟨xs,H2,I2,r2,q2⟩=>⟨x :: xs,H2,I2,.cons r1 r2,q2⟩
variable {g:List Value->List Value->List Value} {gV:List V->List V->List V}
end
structure FnScope (N P:List Str) (sc:Scope):Prop where
 kind:sc.kind=.function
 co:sc.isCoroutine=false
 gen:sc.isGenerator=false
 nd:N.Nodup
 pre:N.take P.length=P
 par:∀ x ∈ P,sc.names.lookup x=some .local\/sc.names.lookup x=some .cell
 nofree:∀ y ∈ sc.names,y.2≠.free
theorem zgv {kindOf:Str->Option NameKind} {x:Str}:∀ {binds:List (Str × Value)} {m:Str->Option Value},(∀ v,(x,v) ∉ binds)->bindL kindOf binds m x=m x
 | [],_,_=>rfl
 | (n,v) :: r,m,h=>by
  unfold bindL
  rw [zgv fun w hw=>h w (yO _ hw)]
  split
  ·have:x≠n:=by rintro rfl; exact h v yU
   simp [this]
  ·rfl
theorem zgx {kindOf:Str->Option NameKind} {x:Str}:∀ {binds:List (Str × Value)} {m:Str->Option Value},(∀ v,(x,v) ∉ binds)->bindC kindOf binds m x=m x
 | [],_,_=>rfl
 | (n,v) :: r,m,h=>by
  unfold bindC
  rw [zgx fun w hw=>h w (yO _ hw)]
  split
  ·rfl
  ·have:x≠n:=by rintro rfl; exact h v yU
   simp [this]
theorem zgw {kindOf:Str->Option NameKind} {x:Str} {v:Value}:∀ {P:List Str} {vs:List Value} {i:Nat} {m:Str->Option Value},P.Nodup->P[i]?=some x->vs[i]?=some v->kindOf x=some .local ->
  bindL kindOf (P.zip vs) m x=some v
 | [],_,_,_,_,h,_,_=>by simp at h
 | _ :: _,[],_,_,_,_,h,_=>by simp at h
 | p :: P,w :: vs,0,m,nd,h1,h2,hk=>by
  simp at h1 h2; subst h1; subst h2
  show bindL kindOf ((p,w) :: P.zip vs) m p=_
  unfold bindL
  rw [zgv fun v hv=>(Ym.mp nd).1 (List.of_mem_zip hv).1,yI hk]
  simp
 | p :: P,w :: vs,i+1,m,nd,h1,h2,hk=>by
  show bindL kindOf ((p,w) :: P.zip vs) m x=_
  unfold bindL
  exact zgw (i:=i) (Ym.mp nd).2 (by simpa using h1) (by simpa using h2) hk
theorem zgy {kindOf:Str->Option NameKind} {x:Str} {v:Value}:∀ {P:List Str} {vs:List Value} {i:Nat} {m:Str->Option Value},P.Nodup->P[i]?=some x->vs[i]?=some v->kindOf x≠some .local ->
  bindC kindOf (P.zip vs) m x=some v
 | [],_,_,_,_,h,_,_=>by simp at h
 | _ :: _,[],_,_,_,_,h,_=>by simp at h
 | p :: P,w :: vs,0,m,nd,h1,h2,hk=>by
  simp at h1 h2; subst h1; subst h2
  show bindC kindOf ((p,w) :: P.zip vs) m p=_
  unfold bindC
  rw [zgx fun v hv=>(Ym.mp nd).1 (List.of_mem_zip hv).1,yH hk]
  simp
 | p :: P,w :: vs,i+1,m,nd,h1,h2,hk=>by
  show bindC kindOf ((p,w) :: P.zip vs) m x=_
  unfold bindC
  exact zgy (i:=i) (Ym.mp nd).2 (by simpa using h1) (by simpa using h2) hk
def start (N:List Str) (vs:List V):St:=vs.map some ++ List.replicate (N.length-vs.length) none
def zdj (CX:CXT) (P:Program) (w:World) (K:W.Frag) (mg:Str->Option Value) (base:Heap) (N:List Str) (qual:Str) (scope:Scope) (f:Addr) (cd:Value) (A:Around) (outer:List Env) (s:Shared) (H:Hp) (E:XK):Cx where
 prog:=P
 w:=w
 K:=K
 mg:=mg
 base:=base
 A:=A.deeper (envOfC qual scope s.heap.objs.size f cd)
 N:=N
 s₀:=s
 H₀:=H
 env:=envOfC qual scope s.heap.objs.size f cd
 outer:=outer
 stack:=envOfC qual scope s.heap.objs.size f cd :: outer
 ex:=[]
 calm:=true
 fn:=fun _=>true
 pn:=[]
 xe:=fun e s'=>wpAny (model P w) (A.deeper (envOfC qual scope s.heap.objs.size f cd)) (leaving (envOfC qual scope s.heap.objs.size f cd) e) (fun _ s''=>CX outer H s E e s'') (fun e' s''=>CX outer H s E e' s'') s'
def zh7 {sc:Scope} {n:Nat} {x:Str} (h:sc.names.lookup x=some .cell):∃ c,(cellsFrom n sc.names []).lookup x=some c:=by
 have q:=W.cellsFrom_some sc.names n [] (.inl h); exact YR.mp q
def zdZ {CX:CXT} {P:Program} {w:World} {K:W.Frag} {mg:Str->Option Value} {base:Heap} {N ps:List Str} {qual:Str} {scope:Scope} {f:Addr} {cd:Value} {A:Around} {outer:List Env} {s s1:Shared} {H:Hp} {E:XK} {us:List Value} {vs:List V}
  (S:FnScope N ps scope) (hd:A.handled=none) (e0:Env0 P w K mg base A outer s H) (hl:vs.length=ps.length) (r:zae vs us)
  (x:InCallC s s.heap.objs.size (bindL (envOfC qual scope s.heap.objs.size f cd).kindOf (ps.zip us) fun _=>none) (cellsFrom (s.heap.objs.size+1) scope.names []) (bindC (envOfC qual scope s.heap.objs.size f cd).kindOf (ps.zip us) fun _=>none) s1) :
  Inv (zdj CX P w K mg base N qual scope f cd A outer s H E) [] (start N vs) H s1:=by
 have hpl:ps.length<=N.length:=by have:=ym List.length S.pre; rw [YB] at this; omega
 obtain ⟨h1,tk,rfl,hk⟩:=x.done
 have noA:∀ b:Addr,b ∉ (zdj CX P w K mg base N qual scope f cd A outer s H E).ex:=fun b z=>yP (show b ∈ ([]:List Addr) from z) (by simp)
 refine ⟨⟨e0.mod,S.kind,rfl,rfl,yD _,fun y z c h1 h2=>?_,fun y hy=>?_,fun y c _ h=>?_,fun _=>hd,Around.frames_deeper e0.frames,.inr ⟨rfl,rfl⟩,fun b z=>yP z (noA b),e0.bs,e0.bsz,fun b _ _=>noA b,fun b z=>yP z (noA b),e0.funs,e0.frf,e0.tab⟩,
  rfl,e0.bare,Un.kept hk,⟨_,x.toInCall.ns,fun i y v h1 h2 h3=>?_⟩,fun y c h=>⟨_,x.cell y c h⟩,e0.hok.fresh (yD _),fun y c h=>?_,fun p hp=>yP (show p ∈ ([]:yyL) from hp) (by simp),e0.hok.kept hk,?_⟩
 ·exact name_of_addr x.apart (Yd h1) (Yd h2)
 ·have hy:scope.names.lookup y=some .cell\/scope.names.lookup y=some .free:=hy
  rcases hy with hy | hy
  ·exact zh7 hy
  ·exact yP rfl (S.nofree _ (Yd hy))
 ·exact Nat.le_of_lt (x.above y c (Yd h))
 ·have hi:i<vs.length:=by
   unfold start at h2
   by_cases hi:i<vs.length
   ·exact hi
   ·rw [List.getElem?_append_right (by simpa using hi)] at h2
    rw [List.getElem?_replicate] at h2
    split at h2 <;> cases h2
  have ha:vs[i]?=some v:=by
   unfold start at h2
   rw [YX (by simpa using hi),yK] at h2
   cases e:vs[i]? with
   | none=>rw [e] at h2; cases h2
   | some a=>rw [e] at h2; cases h2; rfl
  obtain ⟨u,hu,rv⟩:=r.get ha
  have hp:ps[i]?=some y:=by
   rw [<- S.pre,List.getElem?_take_of_lt (by omega)]; exact h1
  have ndP:ps.Nodup:=by rw [<- S.pre]; exact S.nd.sublist (List.take_sublist _ _)
  refine ⟨u,rv,?_⟩
  rcases S.par y (yL hp) with k | k
  ·exact .inl ⟨k,zgw ndP hp hu k⟩
  ·obtain ⟨c,e⟩:=zh7 (n:=s.heap.objs.size+1) k
   refine .inr ⟨.inl k,c,e,?_⟩; have q:=x.cell y c e
   rw [zgy ndP hp hu (by show scope.names.lookup y≠_; rw [k]; decide)] at q
   exact q
 ·exact e0.hok.fresh (Nat.le_of_lt (x.above y c (Yd h)))
 ·unfold start
  show _=N.length
  rw [yg,yG,List.length_replicate]; omega
def zo9 {CX:CXT} {P:Program} {w:World} {K:W.Frag} {mg:Str->Option Value} {base:Heap} {k:Nat} {f:Addr} {name qual:Str} {params:Arguments} {body:List Stmt} {scope:Scope} {dV kV doc pm cdv ct oc:Value} {an od:Option Addr}
  {osl:Array (Option Value)} {N ps:List Str} {sp:Sp} (lk:K.lookup f=some ⟨oc,od,.func (W.fnOf name qual params body scope dV kV doc pm an cdv ct),osl⟩) (hcd:W.codeIn K cdv qual=true) (S:FnScope N ps scope)
  (len:∀ vs H Q E,sp vs H Q E->vs.length=ps.length)
  (hbody:∀ (A:Around) (outer:List Env) (s:Shared) (H:Hp) (vs:List V) (Q:VK) (E:XK),Room k (A.deeper (envOfC qual scope s.heap.objs.size f cdv))->sp vs H Q E ->
   ∃ t,PSs (zdj CX P w K mg base N qual scope f cdv A outer s H E) body t/\t { nx:=fun _ H'=>Q .non H',rt:=Q } (start N vs) H) :
  FnOk P w K mg base CX (k+1) f (W.fnOf name qual params body scope dV kV doc pm an cdv ct) ps sp:=by
 refine ⟨len,fun A outer s H args us vs Q E hr e0 hb r hsp=>?_⟩
 have hl:=len _ _ _ _ hsp
 have KX:K.In s.heap:=e0.mod.kin.keeps fun b o e=>(e0.bs b o e).1
 have lim:s.heap.NoLimit:=e0.mod.nolimit.keeps fun b o e=>(e0.bs b o e).1
 have hkind:∀ y ∈ ps.zip us,scope.names.lookup y.1=some .local\/(scope.names.lookup y.1=some .cell/\((cellsFrom (s.heap.objs.size+1) scope.names []).lookup y.1).isSome=true):=fun ⟨n,v⟩ hy=>by
  rcases S.par n (List.of_mem_zip hy).1 with q | q
  ·exact .inl q
  ·exact .inr ⟨q,W.cellsFrom_some _ _ _ (.inl q)⟩
 refine codeAny_call_function hr.depth (KX _ _ lk) rfl S.co S.gen rfl (W.codeRec_of KX hcd) (hb _ _ _ _ ?_)
 refine wpAny_newFunctionEnv_cells S.kind hkind fun env he s1 x=>?_
 subst he; refine ⟨lim.keeps x.toInCall.keep,codeAny_func ?_⟩; obtain ⟨t,ht,hq⟩:=hbody A outer s H vs Q E (hr.deeper _) hsp
 have I:Inv (zdj CX P w K mg base N qual scope f cdv A outer s H E) [] (start N vs) H s1:=zdZ S hr.hd e0 hl r x
 refine yf (ht [] s1 (start N vs) H _ I hq) (fun fl s' hs=>?_) fun e s' hs=>hs
 have fin:∀ {σ':St} {H':Hp} {v:V} {u:Value},Inv (zdj CX P w K mg base N qual scope f cdv A outer s H E) [] σ' H' s'->zap v u->Q v H'->CE outer P w H s Q u s' :=
  fun {σ' H' v u} J rv q=>⟨v,H',J.os,J.bare,J.base,J.hok,rv,q⟩
 cases fl with
 | ret u =>
  obtain ⟨v,σ',H',J,rv,q⟩:=hs; exact fin J rv q
 | next =>
  obtain ⟨σ',H',J,q⟩:=hs; exact fin (v:=V.non) (u:=Value.none) J rfl q
 | brk =>
  obtain ⟨_,_,_,q⟩:=hs; exact False.elim q
 | cont =>
  obtain ⟨_,_,_,q⟩:=hs; exact False.elim q
section
variable {X:Cx} {x:Str} {p pos:Pos} {e:Expr} {es:List Expr} {t:TA} {id T:String} {r:List V->Hp->VK->Prop}
def tCB (r:List V->Hp->VK->Prop) (t:TA):TE:=fun σ H Q=>t σ H fun vs H1=>r vs H1 Q
def zlX (hc:zbW X (.builtin id) r) (hg:Gl X x) (hm:X.mg x=none) (hv:bootBuiltins x=some (.builtin id)) (ha:PA X (e :: es) t) (hn:x≠"__name__":=by decide) (hdb:yyD x:=by decide)
  (he:starEach (e :: es) X.env=(false,eval e X.env) :: starEach es X.env:=by rfl) (hpl:(backTo pos (starEach es X.env)).any (·.1)=false:=by rfl):PE X (.Call (.Name x p) (e :: es) [] pos) (tCB r t):=by
 intro pins s σ H Q I h; refine YT (zdU I hg hm hv ?_ hn hdb)
 exact PyProof.Rows.callWith_builtin1 (thn (ha pos pins s σ H _ I h) fun us s1 ⟨vs,H1,I1,r1,q1⟩=>hc pins s1 σ H1 vs us Q I1 r1 q1) he hpl
def zfV (hc:zbW X (.type T) r) (hg:Gl X x) (hm:X.mg x=none) (hv:bootBuiltins x=some (.type T)) (ha:PA X (e :: es) t) (hn:x≠"__name__":=by decide) (hdb:yyD x:=by decide)
  (he:starEach (e :: es) X.env=(false,eval e X.env) :: starEach es X.env:=by rfl) (hpl:(backTo pos (starEach es X.env)).any (·.1)=false:=by rfl):PE X (.Call (.Name x p) (e :: es) [] pos) (tCB r t):=by
 intro pins s σ H Q I h; refine YT (zdU I hg hm hv ?_ hn hdb)
 exact JA (thn (ha pos pins s σ H _ I h) fun us s1 ⟨vs,H1,I1,r1,q1⟩=>hc pins s1 σ H1 vs us Q I1 r1 q1) he hpl
end
end L2
variable {X:L2.Cx} {prog:PySem.Program} {P:PySem.Program} {w:PySem.World} {K:PySem.W.Frag} {mg:PySem.Str->Option PySem.Value} {base:PySem.Heap} {A:PySem.Around} {E:PySem.Value->PySem.Shared->Prop} {s:PySem.Shared} {pins:List (PySem.Addr × PySem.Obj)} {σ:L2.St} {H:L2.Hp}
namespace HT
open PySem PyProof.Rows
section
open PySem.SeqAt
open PySem.AutoSeq1 (wpAny_loadPart')
open PySem.MeetsSeq PySem.MeetsSeq2 PySem.MeetsSeq3
end
section
def cat_tup {t b:Addr} {vs ws:List Value} {Q:Value->Shared->Prop} (ht:IsTup s.heap t vs.toArray) (hb:IsTup s.heap b ws.toArray) (hv:vs≠[])
  (h1:ws=[]->Q (.ref t) s) (h2:ws≠[]->Q (.ref s.heap.objs.size) { s with heap:=s.heap.push { cls:=.type "tuple",data:=.seq (vs ++ ws).toArray } })
  (hsz:vs.length+ws.length<=sizeLine):wpAny (model prog w) A (binaryOp .Add (.ref t) (.ref b)) Q E s:=by
 obtain ⟨⟨cls,dd,data,sl⟩,ho,hc,n,hd⟩:=id ht
 obtain ⟨⟨cls2,dd2,data2,sl2⟩,ho2,hc2,n2,hd2⟩:=id hb
 simp only at hc hd hc2 hd2
 subst hc hd hc2 hd2
 have e:vs.toArray ++ ws.toArray=(vs ++ ws).toArray:=by simp
 by_cases hw:ws=[]
 ·exact concat_meets ⟨_,ho,rfl⟩ ⟨_,ho2,rfl⟩ noFill_tuple_add seq_tuple_add PySem.F.slot_tuple_add PySem.F.entry_tuple_add (PySem.F.args_tuple_add_2 _ _)
   (tuple_addW1 t b vs.toArray ws.toArray n n2 dd dd2 sl sl2 (by simpa using hv) (by simp [hw])) ⟨ho,ho2,h1 hw⟩
 ·refine concat_meets ⟨_,ho,rfl⟩ ⟨_,ho2,rfl⟩ noFill_tuple_add seq_tuple_add PySem.F.slot_tuple_add PySem.F.entry_tuple_add (PySem.F.args_tuple_add_2 _ _)
   (tuple_addW2 t b vs.toArray ws.toArray n n2 dd dd2 sl sl2 (by simpa using hv) (by simpa using hw) (by rw [yS,yS]; exact hsz)) ⟨ho,ho2,?_⟩
  rw [e]; exact h2 hw
def sIx (n d:Nat):Option Int->Nat
 | none=>d
 | some v=>if v<0 then (v+(n:Int)).toNat else min v.toNat n
def sIx_none (n d:Nat):sIx n d none=d:=rfl
def sIx_nat (n d k:Nat):sIx n d (some (k:Int))=min k n:=by
 show (if (k:Int)<0 then ((k:Int)+(n:Int)).toNat else min (k:Int).toNat n)=min k n
 rw [yH (by omega),JC]
def zqb (n d:Nat) (hd:d<=n) (o:Option Int):sIx n d o<=n:=by
 cases o with
 | none=>exact hd
 | some v =>
  show (if v<0 then (v+(n:Int)).toNat else min v.toNat n)<=n
  by_cases hv:v<0
  ·rw [yI hv]; omega
  ·rw [yH hv]; exact Nat.min_le_right _ _
def zkA (v:Int) (n d:Nat):(if v<0 then max (v+(n:Int)) 0 else min v (n:Int))=((sIx n d (some v):Nat):Int):=by
 show (if v<0 then max (v+(n:Int)) 0 else min v (n:Int))=(((if v<0 then (v+(n:Int)).toNat else min v.toNat n):Nat):Int)
 by_cases hv:v<0
 ·simp only [yI hv]; omega
 ·simp only [yH hv]; omega
def ziP (lo hi:Option Int) (n:Nat):Builtin.Slice.sliceAdjust lo hi 1 (n:Int)=(((sIx n 0 lo:Nat):Int),((sIx n n hi:Nat):Int)):=by
 have h1:¬ ((1:Int)<0):=by omega
 unfold Builtin.Slice.sliceAdjust; simp only [h1,if_false]; refine Prod.ext ?_ ?_
 ·cases lo with
  | none=>rfl
  | some v=>exact zkA v n 0
 ·cases hi with
  | none=>rfl
  | some v=>exact zkA v n n
def zis (i j:Nat):Builtin.Slice.slicePlaces (i:Int) (j:Int) 1=j-i:=by
 unfold Builtin.Slice.slicePlaces
 have h1:(1:Int) > 0:=by omega
 simp only [h1,if_true,Int.ediv_one]
 split <;> omega
def zep {v:Value} {o:Option Int} {Q:Option Int->Shared->Prop} (p:IsPart v o) (h:Q o s):wpAny (model prog w) A (Builtin.Slice.slicePartIndex v) Q E s:=by
 cases p with
 | none=>exact slicePart_none h
 | int i t=>exact slicePart_int h
def zbR {sl:Addr} {vl vu:Value} {lo hi:Option Int} {n:Nat} {Q:Int × Int × Nat->Shared->Prop} (hs:s.heap.IsSliceOf sl vl vu .none) (pl:IsPart vl lo) (pu:IsPart vu hi)
  (h:Q (((sIx n 0 lo:Nat):Int),1,sIx n n hi-sIx n 0 lo) s):wpAny (model prog w) A (Builtin.Slice.sliceApplied (.ref sl) (pure (n:Int))) Q E s:=by
 obtain ⟨os,hos,hcs,hds⟩:=id hs; unfold Builtin.Slice.sliceApplied Builtin.Slice.sliceFields; refine yA (yA (YI hos hds (x:=vl) rfl (yA (YI hos hds (x:=vu) rfl (yA (YI hos hds (x:=.none) rfl (yF ?_))))))); refine yA (slicePart_none ?_)
 show wpAny _ _ (if ((1:Int) == 0)=true then _ else _) _ _ s
 rw [yH (by decide)]
 refine yA (zep pl (yA (zep pu (yA (yF ?_)))))
 show wpAny _ _ (match Builtin.Slice.sliceAdjust lo hi 1 (n:Int) with | (lo,hi)=>pure (lo,(1:Int),Builtin.Slice.slicePlaces lo hi 1)) _ _ s
 rw [ziP lo hi n]
 show wpAny _ _ (pure (((sIx n 0 lo:Nat):Int),(1:Int),Builtin.Slice.slicePlaces ((sIx n 0 lo:Nat):Int) ((sIx n n hi:Nat):Int) 1)) _ _ s
 rw [zis]; exact yF h
def zlM (xs:Array Value) (i k:Nat):((List.range k).filterMap fun (m:Nat)=>xs[((i:Int)+(m:Int) * 1).toNat]?).toArray=((xs.toList.drop i).take k).toArray:=by
 have e:(fun (m:Nat)=>xs[((i:Int)+(m:Int) * 1).toNat]?)=fun m=>xs[i+m]?:=by
  funext m
  have:((i:Int)+(m:Int) * 1).toNat=i+m:=by omega
  rw [this]
 rw [e]
 have:=pick_run xs i k
 rw [List.filterMap_map] at this
 have e2:((fun x=>xs[x]?) ∘ fun x=>i+x)=fun m=>xs[i+m]?:=rfl
 rw [e2] at this; rw [this]
def getItem_tuple_cut {t sl:Addr} {items:Array Value} {vl vu:Value} {lo hi:Option Int} {Q:Value->Shared->Prop} (ht:IsTup s.heap t items) (hs:s.heap.IsSliceOf sl vl vu .none) (pl:IsPart vl lo) (pu:IsPart vu hi)
  (hw:¬ (sIx items.size 0 lo=0/\sIx items.size items.size hi=items.size))
  (h:Q (.ref s.heap.objs.size) { s with heap:=s.heap.push { cls:=.type "tuple",data:=.seq ((items.toList.drop (sIx items.size 0 lo)).take (sIx items.size items.size hi-sIx items.size 0 lo)).toArray } })
  (hsz:items.size<=sizeLine):wpAny (model prog w) A (getItem (.ref t) (.ref sl)) Q E s:=by
 have htake:sizeOk (.seq ((items.toList.drop (sIx items.size 0 lo)).take (sIx items.size items.size hi-sIx items.size 0 lo)).toArray):=by
  show ((items.toList.drop (sIx items.size 0 lo)).take (sIx items.size items.size hi-sIx items.size 0 lo)).toArray.size<=sizeLine
  rw [yS,YB,Ya,yz]; omega
 have hj:sIx items.size items.size hi<=items.size:=zqb _ _ (yD _) hi
 obtain ⟨os,hos,hcs,hds⟩:=id hs
 have hTs:s.TypeIs (.ref sl) "slice":=⟨os,hos,hcs⟩
 unfold getItem
 try with_reducible refine Yg ?_
 first | refine yA (yF ?_) | skip
 refine yA (wpAny_sequenceKey ht.typeIs (by decide) ?_)
 refine yA (wpAny_callSpecial?_slot (name:=Str.ofString "__getitem__") ht.typeIs Yp
  (YU Yp ht.typeIs entry_tuple_getitem ?_ (args_tuple_getitem _ _)))
 show wpAny _ _ (Builtin.Tuple.tupleItemsOf (.ref t) >>= _) _ _ s
 refine yA (tupleItemsOf_ ht ?_); refine yA (wpAny_typeOf hTs ?_)
 rw [yI (by decide)]
 refine yA (zbR hs pl pu ?_)
 have hno:¬ ((((sIx items.size 0 lo:Nat):Int) == 0 && (1:Int) == 1 && (sIx items.size items.size hi-sIx items.size 0 lo) == items.size)=true):=by
  intro q; rw [yp,yp] at q
  have q1:((sIx items.size 0 lo:Nat):Int)=0:=eq_of_beq q.1.1
  have q2:sIx items.size items.size hi-sIx items.size 0 lo=items.size:=eq_of_beq q.2
  exact hw ⟨by omega,by omega⟩
 show wpAny _ _ (if (((sIx items.size 0 lo:Nat):Int) == 0 && (1:Int) == 1 && (sIx items.size items.size hi-sIx items.size 0 lo) == items.size)=true then _ else _) _ _ s
 rw [yH hno,zlM]
 first
  | exact yA (m:=Builtin.Tuple.tupleExact _) (YC (yF ⟨_,rfl,yF h⟩) htake)
  | exact yA (m:=Builtin.Tuple.tupleExact _) (YC (yA (yF (yF ⟨_,rfl,yF h⟩))) htake)
  | exact yA (yA (m:=Builtin.Tuple.tupleExact _) (YC (yF (yF ⟨_,rfl,yF h⟩)) htake))
  | exact yA (yA (m:=Builtin.Tuple.tupleExact _) (YC (yF ⟨_,rfl,yF h⟩) htake))
end
end HT
namespace L2
open PySem PySem.Spec PyProof.Rows
abbrev TO:=St->Hp->(Option Int->Hp->Prop)->Prop
def PO (X:Cx) (e:Option Expr) (t:TO):Prop :=
 ∀ (pins:yyL) (s:Shared) (σ:St) (H:Hp) (Q:Option Int->Hp->Prop),Inv X pins σ H s->t σ H Q ->
  wpAny (model X.prog X.w) X.A (evalPart e X.env) (fun u s'=>∃ o H',Inv X pins σ H' s'/\IsPart u o/\Q o H') X.xe s
def znW:TO:=fun _ H Q=>Q none H
def zst (t:TE):TO:=fun σ H Q=>t σ H fun x H1=>∃ i,x=.int i/\Q (some i) H1
section
variable {e:Expr} {te:TE} {lo hi:Option Expr} {tl th:TO} {pos p2:Pos}
def zol:PO X none znW:=by
 intro pins s σ H Q I h; rw [evalPart_none]; exact yF ⟨none,H,I,.none,h⟩
def zok (h:PE X e te):PO X (some e) (zst te):=by
 intro pins s σ H Q I hw; rw [evalPart_some]
 refine thn (h pins s σ H _ I hw) fun u s1 ⟨x,H1,I1,r1,q1⟩=>?_
 obtain ⟨i,rfl,q⟩:=q1; obtain ⟨t,rfl⟩:=r1; exact ⟨some i,H1,I1,.int i t,q⟩
def SlR (X:Cx) (r:V->Option Int->Option Int->Hp->VK->Prop):Prop :=
 ∀ (pins:yyL) (s:Shared) (σ:St) (H:Hp) (x:V) (v vl vu:Value) (lo hi:Option Int) (sl:Addr) (Q:VK),Inv X pins σ H s->zap x v->s.heap.IsSliceOf sl vl vu .none->IsPart vl lo->IsPart vu hi->r x lo hi H Q ->
  ∃ T id,typeLookup (.type T) "__getitem__"=pure (some (.builtin id))/\s.TypeIs v T/\wpAny (model X.prog X.w) X.A (getItem v (.ref sl)) (EP X pins σ Q) X.xe s
def SlR.or {r r':V->Option Int->Option Int->Hp->VK->Prop} (h:SlR X r) (h':SlR X r'):SlR X (fun x lo hi H Q=>r x lo hi H Q\/r' x lo hi H Q):=by
 intro pins s σ H x v vl vu lo hi sl Q I rx hs pl pu q
 rcases q with q | q
 ·exact h pins s σ H x v vl vu lo hi sl Q I rx hs pl pu q
 ·exact h' pins s σ H x v vl vu lo hi sl Q I rx hs pl pu q
def tSl (r:V->Option Int->Option Int->Hp->VK->Prop) (te:TE) (tl th:TO):TE:=fun σ H Q=>te σ H fun x H1=>tl σ H1 fun l H2=>th σ H2 fun u H3=>r x l u H3 Q
def zlR {r:V->Option Int->Option Int->Hp->VK->Prop} (hr:SlR X r) (he:PE X e te) (hl:PO X lo tl) (hu:PO X hi th):PE X (.Subscript e (.Slice lo hi none p2) pos) (tSl r te tl th):=by
 intro pins s σ H Q I h
 refine Subscript_ (thn (he pins s σ H _ I h) fun v s1 ⟨x,H1,I1,r1,q1⟩=>?_)
 refine wpAny_Slice (thn (hl pins s1 σ H1 _ I1 q1) fun vl s2 ⟨l,H2,I2,pl,q2⟩=>thn (hu pins s2 σ H2 _ I2 q2) fun vu s3 ⟨u,H3,I3,pu,q3⟩=>?_)
 rw [evalPart_none]; refine yF ?_
 have I4:Inv X pins σ H3 { s3 with heap:=s3.heap.push { cls:=.type "slice",data:=.fields #[vl,vu,.none] } }:=I3.kept (t':=s3.toks) fun b ob q=>yC _ q
 obtain ⟨T,id,hT,ht,hg⟩:=hr pins { s3 with heap:=s3.heap.push { cls:=.type "slice",data:=.fields #[vl,vu,.none] } } σ H3 x v vl vu l u s3.heap.objs.size Q I4 r1 (Heap.IsSliceOf.new ..) pl pu q3
 show wpAny (model X.prog X.w) X.A (subscriptTail e (.Slice lo hi none p2) v (.ref s3.heap.objs.size)) (EP X pins σ Q) X.xe { s3 with heap:=s3.heap.push { cls:=.type "slice",data:=.fields #[vl,vu,.none] } }
 exact tail_any (ops:=[.ref s3.heap.objs.size,v]) ht hT hg (by with_unfolding_all rfl)
def zkx (xs:List V) (lo hi:Option Int):List V:=(xs.drop (HT.sIx xs.length 0 lo)).take (HT.sIx xs.length xs.length hi-HT.sIx xs.length 0 lo)
def zd8 (xs:List V) (lo hi:Option Int):(zkx xs lo hi).length<=xs.length:=by
 unfold zkx; rw [YB,Ya]; omega
def zus (K:W.Frag):V->Option Int->Option Int->Hp->VK->Prop:=fun x lo hi H Q=>∃ a xs,x=.ref a/\SqT K H a xs /\
 ¬ (HT.sIx xs.length 0 lo=0/\HT.sIx xs.length xs.length hi=xs.length)/\∀ p,H p=none->Q (.ref p) (upd H p (.tup (zkx xs lo hi)))
def zp7:SlR X (zus X.K):=by
 intro pins s σ H x v vl vu lo hi sl Q I rx hs pl pu h; obtain ⟨a,xs,rfl,hx,hw,q⟩:=h; cases rx; obtain ⟨its,r,ht,hz⟩:=I.tuple hx
 have hlen:its.toArray.size=xs.length:=by rw [yS]; exact r.length.symm
 refine ⟨"tuple",_,PyProof.Rows.slot_tuple_getitem.lookup,ht.typeIs,?_⟩
 refine HT.getItem_tuple_cut ht hs pl pu (by rw [hlen]; exact hw) ?_ (by rw [hlen]; exact hz)
 rw [hlen]
 refine ⟨.ref s.heap.objs.size,_,I.laid (t':=s.toks) (o:=.tup (zkx xs lo hi)) (fun b ob q=>yC _ q) (yD _) ?_,rfl,q _ (I.hok.fresh (yD _))⟩
 exact ⟨YG (zd8 xs lo hi) hz,_,(r.drop (HT.sIx xs.length 0 lo)).take (HT.sIx xs.length xs.length hi-HT.sIx xs.length 0 lo),IsTup.new _ _⟩
def zsP (K:W.Frag):R2:=fun x y H Q=>∃ a b xs ys,x=.ref a/\y=.ref b/\SqT K H a xs/\SqT K H b ys/\xs≠[]/\xs.length+ys.length<=sizeLine /\
 (ys=[]->Q (.ref a) H)/\(ys≠[]->∀ p,H p=none->Q (.ref p) (upd H p (.tup (xs ++ ys))))
def zae.nil_iff {xs:List V} {us:List Value} (r:zae xs us):us=[]↔xs=[]:=by
 cases r with
 | nil=>simp
 | cons _ _=>simp
def zoG:OpR X (binaryOp .Add) (zsP X.K):=by
 intro pins s σ H x y v u Q I rx ry h; obtain ⟨a,b,xs,ys,rfl,rfl,ha,hb,hx,hz,q1,q2⟩:=h; cases rx; cases ry; obtain ⟨its,r1,p1,_⟩:=I.tuple ha; obtain ⟨its2,r2,p2,_⟩:=I.tuple hb
 refine HT.cat_tup p1 p2 (fun z=>hx (r1.nil_iff.mp z)) (fun z=>⟨.ref a,H,I,rfl,q1 (r2.nil_iff.mp z)⟩) (fun z=>?_) (by rw [<- r1.length,<- r2.length]; exact hz)
 refine ⟨.ref s.heap.objs.size,_,I.laid (t':=s.toks) (o:=.tup (xs ++ ys)) (fun b ob q=>yC _ q) (yD _) ?_,rfl,q2 (fun w=>z (r2.nil_iff.mpr w)) _ (I.hok.fresh (yD _))⟩
 exact ⟨by rw [yg]; exact hz,_,r1.append r2,IsTup.new _ _⟩
end
def ixN (n:Nat) (i:Int):Option Nat:=if 0<=i then (if i<n then some i.toNat else none) else if -(n:Int)<=i then some (i+n).toNat else none
def atI {α:Type} (xs:List α) (i:Int):Option α:=(ixN xs.length i).bind fun j=>xs[j]?
def zo3 {n:Nat} {i:Int} {j:Nat} (h:ixN n i=some j):seqIndex? i n=some j/\j<n/\-(n:Int)<=i/\i<n:=by
 unfold ixN at h
 by_cases h0:0<=i
 ·rw [yI h0] at h
  by_cases h1:i<n
  ·rw [yI h1] at h
   have e:i.toNat=j:=Option.some.inj h
   exact ⟨by rw [seqIndex_of h0 h1,e],by omega,by omega,h1⟩
  ·rw [yH h1] at h; cases h
 ·rw [yH h0] at h
  by_cases h1:-(n:Int)<=i
  ·rw [yI h1] at h
   have e:(i+n).toNat=j:=Option.some.inj h
   exact ⟨by rw [seqIndex_neg (by omega) h1,e],by omega,h1,by omega⟩
  ·rw [yH h1] at h; cases h
def zhd {α:Type} {xs:List α} {i:Int} {v:α} (h:atI xs i=some v):∃ j,seqIndex? i xs.length=some j/\xs[j]?=some v/\j<xs.length/\-(xs.length:Int)<=i/\i<xs.length:=by
 unfold atI at h
 cases e:ixN xs.length i with
 | none=>rw [e] at h; cases h
 | some j =>
  rw [e] at h; obtain ⟨h1,h2,h3,h4⟩:=zo3 e; exact ⟨j,h1,h,h2,h3,h4⟩
def zec {α:Type} {xs:List α} {j:Nat} {v:α} (h:xs[j]?=some v):atI xs (j:Int)=some v:=by
 have hj:j<xs.length:=(yE.mp h).1
 have e:ixN xs.length (j:Int)=some j:=by
  unfold ixN
  rw [yI (by omega),yI (by omega)]; simp
 unfold atI; rw [e]; exact h
def zmO {α:Type} (xs:List α) (v:α):atI (xs ++ [v]) (-1)=some v:=by
 have hl:(xs ++ [v]).length=xs.length+1:=by simp
 have e:ixN (xs ++ [v]).length (-1)=some xs.length:=by
  unfold ixN
  rw [hl,yH (by decide),yI (by omega)]
  congr 1
  omega
 unfold atI; rw [e]
 show (xs ++ [v])[xs.length]?=some v
 simp
def zkO (b:Expr):Prop:=∀ o i,subscripted b false o i=operate [o,i] (getItem o i)
def IxR (X:Cx) (r:R2):Prop :=
 ∀ (value slice:Expr) (pins:yyL) (s:Shared) (σ:St) (H:Hp) (x y:V) (v u:Value) (Q:VK),Inv X pins σ H s->zap x v->zap y u->r x y H Q ->
  subscripted slice false v u=operate [v,u] (getItem v u)->wpAny (model X.prog X.w) X.A (subscriptTail value slice v u) (EP X pins σ Q) X.xe s
def MtR (X:Cx) (id:String) (r:V->List V->Hp->VK->Prop):Prop :=
 ∀ (pins:yyL) (s:Shared) (σ:St) (H:Hp) (x:V) (xs:List V) (v:Value) (us:List Value) (Q:VK),Inv X pins σ H s->zap x v->zae xs us->r x xs H Q ->
  wpAny (model X.prog X.w) X.A (call (.builtin id) (v :: us)) (EP X pins σ Q) X.xe s
section
variable {a b:Expr} {ta tb:TE} {pos:Pos}
def IxR.or {r r':R2} (h:IxR X r) (h':IxR X r'):IxR X (fun x y H Q=>r x y H Q\/r' x y H Q):=by
 intro value slice pins s σ H x y v u Q I rx ry q hs
 rcases q with q | q
 ·exact h value slice pins s σ H x y v u Q I rx ry q hs
 ·exact h' value slice pins s σ H x y v u Q I rx ry q hs
def zsV {r:R2} (hr:IxR X r) (ha:PE X a ta) (hb:PE X b tb) (hs:zkO b):PE X (.Subscript a b pos) (tOp r ta tb):=by
 intro pins s σ H Q I h
 exact Subscript_ (zty ha hb I h fun v u s2 x y H2 I2 rx ry q=>hr a b pins s2 σ H2 x y v u Q I2 rx ry q (hs _ _))
def ztQ (K:W.Frag):R2:=fun x y H Q=>∃ p xs i v,x=.ref p/\y=.int i/\SqL K H p xs/\atI xs i=some v/\Q v H
def ztO (K:W.Frag):R2:=fun x y H Q=>∃ p xs i v,x=.ref p/\y=.int i/\SqT K H p xs/\atI xs i=some v/\Q v H
def ztP:R2:=fun x y H Q=>∃ z i c,x=.str z/\y=.int i/\z.length<=sizeLine/\atI z.cps.toList i=some c/\Q (.str ⟨#[c]⟩) H
def zo1:IxR X (ztQ X.K):=by
 intro value slice pins s σ H x y v u Q I rx ry h hs; obtain ⟨p,xs,i,z,rfl,rfl,hq,he,q⟩:=h; cases rx; obtain ⟨t,rfl⟩:=ry; obtain ⟨its,r,pl,hz⟩:=I.list hq; obtain ⟨j,h1,h2,h3,h4,h5⟩:=zhd he; obtain ⟨w,ew,rw'⟩:=r.get h2; have hl:=r.length; have hn:=zf5
 have fin:EP X pins σ Q w s:=⟨z,H,I,rw',q⟩
 by_cases h0:0<=i
 ·have hj:i.toNat=j:=by
   rw [seqIndex_of h0 h5] at h1; exact Option.some.inj h1
  exact item_listR pl.isList h0 (by omega) (by rw [hj]; simpa using ew) fin hs
 ·have hj:(i+(its.toArray.size:Int)).toNat=j:=by
   rw [seqIndex_neg (by omega) h4] at h1
   rw [yS,<- hl]; exact Option.some.inj h1
  exact subscriptTail_builtinR (x:=w) pl.isList.typeIs slot_list_getitem.lookup
   (wpAny_getItem_list_neg (Q:=fun r s'=>r=w/\EP X pins σ Q r s') pl.isList (by omega) (by rw [yS] <;> omega) (by omega) (by rw [hj]; simpa using ew) ⟨rfl,fin⟩) hs
def zre:IxR X (ztO X.K):=by
 intro value slice pins s σ H x y v u Q I rx ry h hs; obtain ⟨p,xs,i,z,rfl,rfl,hq,he,q⟩:=h; cases rx; obtain ⟨t,rfl⟩:=ry; obtain ⟨its,r,pl,hz⟩:=I.tuple hq; obtain ⟨j,h1,h2,h3,h4,h5⟩:=zhd he; obtain ⟨w,ew,rw'⟩:=r.get h2; have hl:=r.length; have hn:=zf5
 have fin:EP X pins σ Q w s:=⟨z,H,I,rw',q⟩
 exact subscriptTail_builtinR (x:=w) pl.typeIs slot_tuple_getitem.lookup
  (getItem_tuple (j:=j) (Q:=fun r s'=>r=w/\EP X pins σ Q r s') pl (by omega) (by omega) (by rw [yS,<- hl]; exact h1) (by simpa using ew) ⟨rfl,fin⟩) hs
def zrf:IxR X ztP:=by
 intro value slice pins s σ H x y v u Q I rx ry h hs; obtain ⟨z,i,c,rfl,rfl,hz,he,q⟩:=h; obtain ⟨t,rfl⟩:=rx; obtain ⟨t',rfl⟩:=ry; obtain ⟨j,h1,h2,h3,h4,h5⟩:=zhd he
 have hl:z.cps.toList.length=z.length:=by simp [Str.length]
 rw [hl] at h1 h4 h5; have hn:=zf5
 exact tail_any (typeIs_str s z t) slot_str_getitem.lookup (getItem_str (c:=c) (by
  have e1:decide (i< -(2 ^ 63:Int))=false:=yY (by omega)
  have e2:decide (i >= 2 ^ 63)=false:=yY (by omega)
  rw [e1,e2,Bool.or_false]) (by rw [h1]; simpa using h2) ⟨.str ⟨#[c]⟩,H,I.tok _,⟨_,rfl⟩,q⟩) hs
def rIx (K:W.Frag):R2:=fun x y H Q=>ztQ K x y H Q\/ztO K x y H Q\/ztP x y H Q
def zrg:IxR X (rIx X.K):=zo1.or (zre.or zrf)
def zfL (lo hi:Option Int) (n:Nat):(sliceBounds lo hi none n).1=((HT.sIx n 0 lo:Nat):Int)/\(sliceBounds lo hi none n).2.1=((HT.sIx n n hi:Nat):Int)/\(sliceBounds lo hi none n).2.2=1:=by
 refine ⟨?_,?_,rfl⟩
 ·cases lo with
  | none=>simp [sliceBounds,HT.sIx]
  | some i =>
   simp only [sliceBounds,HT.sIx,Option.getD_none,show (1:Int) > 0 by decide,if_true]
   by_cases h:i<0
   ·simp only [h,if_true] <;> omega
   ·simp only [h,if_false] <;> omega
 ·cases hi with
  | none=>simp [sliceBounds,HT.sIx]
  | some i =>
   simp only [sliceBounds,HT.sIx,Option.getD_none,show (1:Int) > 0 by decide,if_true]
   by_cases h:i<0
   ·simp only [h,if_true] <;> omega
   ·simp only [h,if_false] <;> omega
def zeQ (its:List Value) (lo hi:Option Int):slicePick its.toArray lo hi none=((its.drop (HT.sIx its.length 0 lo)).take (HT.sIx its.length its.length hi-HT.sIx its.length 0 lo)).toArray:=by
 obtain ⟨h1,h2,h3⟩:=zfL lo hi its.toArray.size; unfold slicePick; rw [h1,h2,h3]
 simp only [sliceRange_one,pick_run,yS] <;> rfl
def zuu (K:W.Frag):V->Option Int->Option Int->Hp->VK->Prop:=fun x lo hi H Q=>∃ a xs,x=.ref a/\SqL K H a xs/\∀ p,H p=none->Q (.ref p) (upd H p (.lst (zkx xs lo hi)))
def zn3:SlR X (zuu X.K):=by
 intro pins s σ H x v vl vu lo hi sl Q I rx hs pl pu h; obtain ⟨a,xs,rfl,hx,q⟩:=h; cases rx; obtain ⟨its,r,ht,hz⟩:=I.list hx; have hlen:=r.length; refine ⟨"list",_,slot_list_getitem.lookup,ht.isList.typeIs,?_⟩
 refine wpAny_getItem_list_slice ht.isList hs pl pu .none (by simp) ?_ (by rw [yS] <;> omega)
 rw [zeQ,<- hlen]
 refine ⟨.ref s.heap.objs.size,_,I.laid (t':=s.toks) (o:=.lst (zkx xs lo hi)) (fun b ob q=>yC _ q) (yD _) ?_,rfl,q _ (I.hok.fresh (yD _))⟩
 exact ⟨YG (zd8 xs lo hi) hz,_,0,(r.drop (HT.sIx xs.length 0 lo)).take (HT.sIx xs.length xs.length hi-HT.sIx xs.length 0 lo),yM _ rfl⟩
def zd4:V->Bool
 | .non=>true
 | .bl _=>true
 | .int _=>true
 | .str _=>true
 | _=>false
def eqV:V->V->Bool
 | .non,.non=>true
 | .bl a,.bl b=>a == b
 | .bl a,.int b=>(if a then 1 else 0) == b
 | .int a,.bl b=>a == (if b then 1 else 0)
 | .int a,.int b=>a == b
 | .str a,.str b=>a == b
 | _,_=>false
def zkk {A:Around} {s:Shared} {y x:V} {u v:Value} (ry:zap y u) (rx:zap x v) (fy:zd4 y=true) (fx:zd4 x=true):SeqAt.EqAt A s u v (eqV y x):=by
 cases y with
 | non =>
  cases ry
  cases x with
  | non=>cases rx; exact SeqAt.EqAt.same _
  | bl b=>cases rx; exact SeqAt.EqAt.none_bool b
  | int b=>obtain ⟨t,rfl⟩:=rx; exact SeqAt.EqAt.none_int b t
  | str b=>obtain ⟨t,rfl⟩:=rx; exact SeqAt.EqAt.none_str b t
  | _=>exact yP (show false=true from fx) yN
 | bl a =>
  cases ry
  cases x with
  | non=>cases rx; exact SeqAt.EqAt.bool_none a
  | bl b=>cases rx; exact SeqAt.EqAt.bool_bool a b
  | int b=>obtain ⟨t,rfl⟩:=rx; exact SeqAt.EqAt.bool_int a b t
  | str b=>obtain ⟨t,rfl⟩:=rx; exact SeqAt.EqAt.bool_str a b t
  | _=>exact yP (show false=true from fx) yN
 | int a =>
  obtain ⟨t',rfl⟩:=ry
  cases x with
  | non=>cases rx; exact SeqAt.EqAt.int_none a t'
  | bl b=>cases rx; exact SeqAt.EqAt.int_bool a t' b
  | int b=>obtain ⟨t,rfl⟩:=rx; exact SeqAt.EqAt.int_int a t' b t
  | str b=>obtain ⟨t,rfl⟩:=rx; exact SeqAt.EqAt.int_str a t' b t
  | _=>exact yP (show false=true from fx) yN
 | str a =>
  obtain ⟨t',rfl⟩:=ry
  cases x with
  | non=>cases rx; exact SeqAt.EqAt.str_none a t'
  | bl b=>cases rx; exact SeqAt.EqAt.str_bool a t' b
  | int b=>obtain ⟨t,rfl⟩:=rx; exact SeqAt.EqAt.str_int a t' b t
  | str b=>obtain ⟨t,rfl⟩:=rx; exact SeqAt.EqAt.str_str a t' b t
  | _=>exact yP (show false=true from fx) yN
 | _=>exact yP (show false=true from fy) yN
def eqU (x:V) (u:Value):Bool:=match u with
 | .none=>eqV .non x
 | .bool b=>eqV (.bl b) x
 | .int i _=>eqV (.int i) x
 | .str z _=>eqV (.str z) x
 | _=>false
def znz {x y:V} {u:Value} (r:zap y u) (f:zd4 y=true):eqU x u=eqV y x:=by
 cases y with
 | non=>cases r; rfl
 | bl b=>cases r; rfl
 | int i=>obtain ⟨t,rfl⟩:=r; rfl
 | str z=>obtain ⟨t,rfl⟩:=r; rfl
 | _=>exact yP (show false=true from f) yN
theorem zed {x:V}:∀ {xs:List V} {us:List Value},zae xs us->xs.all zd4=true->us.any (eqU x)=xs.any fun y=>eqV y x
 | _,_,.nil,_=>rfl
 | y :: xs,u :: us,.cons r t,f=>by
  rw [List.all_cons,yp] at f; rw [List.any_cons,List.any_cons,znz r f.1,zed t f.2]
theorem zcR {A:Around} {s:Shared} {x:V} {v:Value} (rx:zap x v) (fx:zd4 x=true):∀ {xs:List V} {us:List Value},zae xs us->xs.all zd4=true->∀ u ∈ us,SeqAt.EqAt A s u v (eqU x u)
 | _,_,.nil,_=>fun u hu=>by cases hu
 | y :: xs,u :: us,.cons r t,f=>fun u' hu=>by
  rw [List.all_cons,yp] at f
  rcases yQ.mp hu with rfl | hu
  ·rw [znz r f.1]; exact zkk r rx f.1 fx
  ·exact zcR rx fx t f.2 u' hu
def inV (x:V) (xs:List V):Bool:=xs.any fun y=>eqV y x
def rIn (K:W.Frag) (neg:Bool):R2:=fun x y H Q=>∃ p xs,y=.ref p/\(SqL K H p xs\/SqT K H p xs)/\zd4 x=true/\xs.all zd4=true/\Q (.bl (if neg then !inV x xs else inV x xs)) H
def zjM:OpR X (compareOp .In) (rIn X.K false):=by
 intro pins s σ H x y v u Q I rx ry h; obtain ⟨p,xs,rfl,hq,fx,fs,q⟩:=h; cases ry
 rcases hq with hq | hq
 ·obtain ⟨its,r,pl,hz⟩:=I.list hq
  refine SeqAt.in_listAt (eqU x) pl.isList (fun w hw=>zcR rx fx r fs w (by simpa using hw)) ⟨.bl _,H,I,rfl,?_⟩
  rw [show its.toArray.any (eqU x)=its.any (eqU x) by simp,zed r fs]
  exact q
 ·obtain ⟨its,r,pl,hz⟩:=I.tuple hq
  refine SeqAt.in_tupleAt (eqU x) pl (fun w hw=>zcR rx fx r fs w (by simpa using hw)) ⟨.bl _,H,I,rfl,?_⟩
  rw [show its.toArray.any (eqU x)=its.any (eqU x) by simp,zed r fs]
  exact q
def zfX:OpR X (compareOp .NotIn) (rIn X.K true):=by
 intro pins s σ H x y v u Q I rx ry h; obtain ⟨p,xs,rfl,hq,fx,fs,q⟩:=h; cases ry
 rcases hq with hq | hq
 ·obtain ⟨its,r,pl,hz⟩:=I.list hq
  refine SeqAt.notIn_listAt (eqU x) pl.isList (fun w hw=>zcR rx fx r fs w (by simpa using hw)) ⟨.bl _,H,I,rfl,?_⟩
  rw [show its.toArray.any (eqU x)=its.any (eqU x) by simp,zed r fs]
  exact q
 ·obtain ⟨its,r,pl,hz⟩:=I.tuple hq
  refine SeqAt.notIn_tupleAt (eqU x) pl (fun w hw=>zcR rx fx r fs w (by simpa using hw)) ⟨.bl _,H,I,rfl,?_⟩
  rw [show its.toArray.any (eqU x)=its.any (eqU x) by simp,zed r fs]
  exact q
def zgt:zbW X (.builtin "len") (fun xs H Q=>∃ p ys,xs=[.ref p]/\(SqL X.K H p ys\/SqT X.K H p ys)/\Q (.int ys.length) H):=by
 intro pins s σ H xs us Q I r h; obtain ⟨p,ys,rfl,hq,q⟩:=h; obtain ⟨u,rfl,rx⟩:=zcl r; cases rx; have hn:=zf5
 rcases hq with hq | hq
 ·obtain ⟨its,r',pl,hz⟩:=I.list hq
  have hlen:=r'.length
  exact Calls.call_len_list pl.isList (by simp only [yS] <;> omega) ⟨.int ys.length,H,I.tok _,⟨s.toks+1,by rw [yS,hlen]⟩,q⟩
 ·obtain ⟨its,r',pl,hz⟩:=I.tuple hq
  have hlen:=r'.length
  exact len_tuple pl (by simp only [yS] <;> omega) ⟨.int ys.length,H,I.tok _,⟨s.toks+1,by rw [yS,hlen]⟩,q⟩
def zgs:zbW X (.builtin "len") (fun xs H Q=>∃ z,xs=[.str z]/\z.length<=sizeLine/\Q (.int z.length) H):=by
 intro pins s σ H xs us Q I r h; obtain ⟨z,rfl,hz,q⟩:=h; obtain ⟨u,rfl,t,rfl⟩:=zcl r; have hn:=zf5
 exact len_str (by omega) ⟨.int z.length,H,I.tok _,⟨_,rfl⟩,q⟩
def zbW.or {f:Value} {r r':List V->Hp->VK->Prop} (h:zbW X f r) (h':zbW X f r'):zbW X f (fun xs H Q=>r xs H Q\/r' xs H Q):=by
 intro pins s σ H xs us Q I rs q
 rcases q with q | q
 ·exact h pins s σ H xs us Q I rs q
 ·exact h' pins s σ H xs us Q I rs q
def zgr:zbW X (.type "list") (fun xs H Q=>∃ p ys,xs=[.ref p]/\(SqL X.K H p ys\/SqT X.K H p ys)/\∀ l,H l=none->Q (.ref l) (upd H l (.lst ys))):=by
 intro pins s σ H xs us Q I r h; obtain ⟨p,ys,rfl,hq,q⟩:=h; obtain ⟨u,rfl,rx⟩:=zcl r; cases rx
 have fin:∀ (its:List Value),zae ys its->ys.length<=sizeLine->∀ (h':Heap) (c':Nat),(∀ b o',s.heap.get? b=some o'->h'.get? b=some o') ->
   h'.get? s.heap.objs.size=some { cls:=.type "list",dict:=none,data:=.seq its.toArray c',slots:=#[] }->EP X pins σ Q (.ref s.heap.objs.size) { s with heap:=h' }:=fun its r' hz h' c' kp e =>
  ⟨.ref s.heap.objs.size,_,I.laid (t':=s.toks) kp (yD _) (show zal X.prog X.w _ h' _ (.lst ys) from ⟨hz,its,c',r',e⟩),rfl,q _ (I.hok.fresh (yD _))⟩
 rcases hq with hq | hq
 ·obtain ⟨its,r',pl,hz⟩:=I.list hq
  have hlen:=r'.length; obtain ⟨o,ho,hc,n,hd⟩:=pl.isList
  exact call_list_seq p (.inl rfl) ho hc hd (fun h' c' kp e=>fin its r' hz h' c' kp e) (by simp only [yS] <;> omega)
 ·obtain ⟨its,r',pl,hz⟩:=I.tuple hq
  have hlen:=r'.length; obtain ⟨o,ho,hc,n,hd⟩:=pl
  exact call_list_seq p (.inr rfl) ho hc hd (fun h' c' kp e=>fin its r' hz h' c' kp e) (by simp only [yS] <;> omega)
def zfs:zbW X (.type "tuple") (fun xs H Q=>∃ p ys,xs=[.ref p]/\((SqL X.K H p ys/\∀ l,H l=none->Q (.ref l) (upd H l (.tup ys)))\/(SqT X.K H p ys/\Q (.ref p) H))):=by
 intro pins s σ H xs us Q I r h; obtain ⟨p,ys,rfl,h⟩:=h; obtain ⟨u,rfl,rx⟩:=zcl r; cases rx
 rcases h with ⟨hq,q⟩ | ⟨hq,q⟩
 ·obtain ⟨its,r',pl,hz⟩:=I.list hq
  have hlen:=r'.length
  refine call_tuple_list pl.isList (fun h' kp=>?_) (by simp only [yS] <;> omega)
  have I1:Inv X pins σ H { s with heap:=h' }:=I.kept (t':=s.toks) kp
  have I2:Inv X pins σ (upd H h'.objs.size (.tup ys)) { s with heap:=h'.push { cls:=.type "tuple",data:=.seq its.toArray } } :=
   I1.laid (t':=s.toks) (fun b o e=>yC _ e) (yD _) (show zal X.prog X.w _ _ _ (.tup ys) from ⟨hz,its,r',IsTup.new _ _⟩)
  exact ⟨.ref h'.objs.size,_,I2,rfl,q _ (I1.hok.fresh (yD _))⟩
 ·obtain ⟨its,r',pl,hz⟩:=I.tuple hq
  exact call_tuple_same pl ⟨.ref p,H,I,rfl,q⟩
def tyV (K:W.Frag) (T:String) (x:V) (H:Hp):Prop:=match x with
 | .str _=>T="str"
 | .int _=>T="int"
 | .ref p=>(T="list"/\∃ xs,SqL K H p xs)\/(T="tuple"/\∃ o,K.lookup p=some o/\o.cls=.type "tuple"/\o.dict=none) \/
   (T="dict"/\((∃ kvs,H p=some (.dK kvs))\/∃ kvs,H p=some (.dT kvs)))\/(T="set"/\∃ S n,H p=some (.set S n))
 | _=>False
def zpO {pins:yyL} {σ:St} {H:Hp} {s:Shared} {T:String} {x:V} {v:Value} (I:Inv X pins σ H s) (r:zap x v) (ty:tyV X.K T x H) :
  s.TypeIs v T/\∀ a,v=.ref a->∃ ob,s.heap.get? a=some ob/\ob.dict=none:=by
 cases x with
 | str z =>
  obtain ⟨t,rfl⟩:=r
  cases (show T="str" from ty)
  exact ⟨typeIs_str s z t,fun _ e=>nomatch e⟩
 | int i =>
  obtain ⟨t,rfl⟩:=r
  cases (show T="int" from ty)
  exact ⟨typeIs_int s i t,fun _ e=>nomatch e⟩
 | ref p =>
  cases r
  rcases ty with ⟨rfl,xs,hq⟩ | ⟨rfl,o,hk,hc,hd⟩ | ⟨rfl,hk⟩ | ⟨rfl,S,n,hk⟩
  ·obtain ⟨its,_,pl,_⟩:=I.list hq
   refine ⟨pl.isList.typeIs,fun a e=>?_⟩
   cases e; obtain ⟨o,n,e,c,hd,_⟩:=pl; exact ⟨o,e,hd⟩
  ·refine ⟨⟨o,I.kIn p o hk,hc⟩,fun a e=>?_⟩
   cases e; exact ⟨o,I.kIn _ o hk,hd⟩
  ·have z:∃ o,s.heap.get? p=some o/\o.ExactDict:=by
    rcases hk with ⟨kvs,hk⟩ | ⟨kvs,hk⟩
    ·obtain ⟨_,_,_,_,o,_,_,e,ex,_⟩:=I.hok p _ hk
     exact ⟨o,e,ex⟩
    ·obtain ⟨_,_,_,_,o,_,_,e,ex,_⟩:=I.hok p _ hk
     exact ⟨o,e,ex⟩
   obtain ⟨o,e,ex⟩:=z
   refine ⟨⟨o,e,ex.1⟩,fun a e2=>?_⟩
   cases e2; exact ⟨o,e,ex.2.1⟩
  ·obtain ⟨o,_,_,_,e,ex,_⟩:=I.hok p _ hk
   refine ⟨⟨o,e,ex.1⟩,fun a e2=>?_⟩
   cases e2; exact ⟨o,e,ex.2.1⟩
 | _=>exact False.elim ty
def tBM (K:W.Frag) (T:String) (r:V->List V->Hp->VK->Prop) (to:TE) (t:TA):TE:=fun σ H Q=>to σ H fun x H1=>tyV K T x H1/\t σ H1 fun xs H2=>r x xs H2 Q
variable {o e:Expr} {es:List Expr} {to:TE} {t:TA} {name:Str} {apos cpos:Pos} {T id:String} {r:V->List V->Hp->VK->Prop}
def zqN (pa:PlainAttrs T) (slot:Slot T name id) (hty:typeOf (.builtin id)=pure (.type "method_descriptor")) (hm:MtR X id r) (ho:PE X o to) (ha:PA X (e :: es) t)
  (hbase:attributeBase o name X.env (eval o X.env)=eval o X.env:=by rfl)
  (hfew:((backTo cpos (starEach (e :: es) X.env)).all (fun x=>!x.1) && (backToKw cpos (keywordEach [] X.env)).all (fun x=>x.1.isSome)
   && decide ((e :: es).length+([]:List Keyword).length+(if ([]:List Keyword).isEmpty then 0 else 1)<30))=true:=by rfl)
  (hline:(apos.endLine == cpos.line)=true:=by rfl) (hs:starEach (e :: es) X.env=(false,eval e X.env) :: starEach es X.env:=by rfl) (hplain:(backTo cpos (starEach es X.env)).any (·.1)=false:=by rfl) :
  PE X (.Call (.Attribute o name apos) (e :: es) [] cpos) (tBM X.K T r to t):=by
 intro pins s σ H Q I h
 refine wpAny_Call_method_late hbase hfew hline rfl (thn (ho pins s σ H _ I h) fun v s1 ⟨x,H1,I1,r1,ty,q1⟩=>?_)
 obtain ⟨h1,h2⟩:=zpO I1 r1 ty; refine ⟨T,id,pa,slot,hty,h1,h2,?_⟩; have hA:=ha cpos pins s1 σ H1 _ I1 q1; rw [hs] at hA ⊢
 refine Calls.callWith_builtin (by show (false || (backTo cpos (starEach es X.env)).any (·.1))=false; rw [hplain] <;> rfl) (Calls.evalArgs_plain ?_)
 exact thn hA fun us s2 ⟨vs,H2,I2,r2,q2⟩=>hm pins s2 σ H2 x vs v us Q I2 r1 r2 q2
end
def MtM (X:Cx) (id:String) (r:V->List V->Hp->VK->Prop):Prop :=
 ∀ (pins:yyL) (s:Shared) (σ:St) (H:Hp) (x:V) (xs:List V) (v:Value) (us:List Value) (Q:VK),Inv X pins σ H s->zap x v->zae xs us->r x xs H Q ->
  wpAny (model X.prog X.w) X.A (call (.builtin id) (v :: us)) (EP X pins σ Q) X.xe s
theorem zae.one:∀ {x:V} {us:List Value},zae [x] us->∃ u,us=[u]/\zap x u
 | _,_,.cons r .nil=>⟨_,rfl,r⟩
theorem zae.rep {xs:List V} {us:List Value} (h:zae xs us):∀ k:Nat,zae (List.replicate k xs).flatten (List.replicate k us).flatten
 | 0=>.nil
 | k+1=>by
  rw [Ye,Ye,JB,JB]; exact zae.append h (zae.rep h k)
theorem foldl_rep (its:List Value):∀ (k:Nat) (acc:List Value),
  List.foldl (fun x1 x2=>x1 ++ x2) acc.toArray (List.replicate k its.toArray)=(acc ++ (List.replicate k its).flatten).toArray
 | 0,acc=>by simp
 | k+1,acc=>by
  have e:acc.toArray ++ its.toArray=(acc ++ its).toArray:=by simp
  have e2:(acc ++ its) ++ (List.replicate k its).flatten=acc ++ (List.replicate (k+1) its).flatten:=by
   rw [Ye,JB,YF]
  rw [<- e2,<- foldl_rep its k (acc ++ its),<- e,Ye,List.foldl_cons]
section
variable {l b:Addr} {xs ys zs:List V}
def Inv.lset {its its':List Value} {n:Nat} {f:Array Value->Array Value} {t':Nat} (I:Inv X pins σ H s) (hH:H l=some (.lst xs))
  (e:s.heap.get? l=some { cls:=.type "list",data:=.seq its.toArray n }) (hf:f its.toArray=its'.toArray) (hv:zae ys its') (hz:ys.length<=sizeLine) :
  Inv X pins σ (upd H l (.lst ys)) { s with heap:=s.heap.update l (Obj.mapSeq f),toks:=t' }:=by
 have q:=PySem.IsL.update e f; rw [hf] at q
 refine I.write (x:=l) (e:=l) (by rw [hH]; exact trivial) (.inl rfl) (fun b' u hb hu=>(yj s.heap (Obj.mapSeq f) (Ne.symm hb)).trans hu) ⟨_,q⟩ ?_
 exact ⟨hz,its',_,hv,q⟩
def Inv.fresh (I:Inv X pins σ H s):H s.heap.objs.size=none:=I.hok.fresh (yD _)
def Inv.lstM (I:Inv X pins σ H s) (hH:H l=some (.lst xs)):xs.length<=sizeLine/\∃ (its:List Value) (n:Nat),zae xs its/\xs.length=its.length/\s.heap.get? l=some { cls:=.type "list",data:=.seq its.toArray n }:=by
 obtain ⟨z,its,n,r,e⟩:=I.hok l _ hH; exact ⟨z,its,n,r,r.length,e⟩
end
section
def zoa:V->List V->Hp->VK->Prop:=fun x vs H Q=>∃ l xs y,x=.ref l/\vs=[y]/\H l=some (.lst xs)/\xs.length<sizeLine/\Q .non (upd H l (.lst (xs ++ [y])))
def zdR:MtM X "list.append" zoa:=by
 intro pins s σ H x vs v us Q I rx rv h; obtain ⟨l,xs,y,rfl,rfl,hH,hz,q⟩:=h; cases rx; obtain ⟨u,rfl,ru⟩:=rv.one; obtain ⟨z,its,n,r,hl,e⟩:=I.lstM hH
 refine call_meets F.slot_list_append ⟨_,e,rfl⟩ F.entry_list_append (F.args_list_append_2 _ _) (PySem.list_append l its.toArray n u (by rw [yS]; omega)) ⟨e,?_⟩
 refine ⟨.non,_,I.lset (its':=its ++ [u]) hH e (by simp) (r.append (.cons ru .nil)) ?_,rfl,q⟩
 rw [yg,List.length_singleton]; omega
def len_rep {α:Type} (xs:List α) (k:Nat):(List.replicate k xs).flatten.length=k * xs.length:=by
 induction k with
 | zero=>simp
 | succ k ih=>rw [Ye,JB,yg,ih,Nat.succ_mul,Nat.add_comm]
end
section
set_option maxRecDepth 100000 in
end
section
end
end L2
namespace Att
open PySem PySem.W PySem.Calls PyProof.Rows
def zd0 {P:Params} {h:Heap}:∀ (ns:List Int) (vs:List Value),WellAll P h vs (ns.map WData.int)->IntsAre vs ns:=by
 intro ns
 induction ns with
 | nil =>
  intro vs w; rw [List.map_nil] at w; cases w; exact .nil
 | cons n ns ih =>
  intro vs w; rw [yX] at w
  cases w with
  | cons a b =>
   cases a; exact .cons _ _ (ih _ b)
def zjn {l:OpenLaw} {n:Nat} (hn:l.most=some n) {P:Params} {h:Heap} {args:List WData} {vals:List Value}
  (hpre:l.row.toRowW.claim.pre args=true) (hwl:WellAll P h vals args) :
  ∃ a vs ns,vals=[Value.ref a]/\args=[WData.list (ns.map WData.int)]/\h.get? a=some { cls:=.type "list",data:=.seq vs.toArray }/\IntsAre vs ns/\ns.length<=n:=by
 have hsh:WShape.hasAll [] args [.list .int]=true:=(pre_splitW hpre).1
 have hc:l.pre.holds [] { args:=args }=true:=(pre_splitW hpre).2
 obtain ⟨d,r,rfl,h1,h2⟩:=hasAllW_cons hsh
 obtain rfl:=hasAllW_nil h2
 obtain ⟨xs,rfl,h3⟩:=hasW_list h1; obtain ⟨ns,rfl⟩:=items_int h3
 have hlen:ns.length<=n:=by
  unfold OpenLaw.pre at hc
  have h4:(WTm.not (.lt (.lit (.int (n:Int))) (.len (.arg 0)))).holds [] { args:=[.list (ns.map .int)] }=true:=by
   have h4:=(holds_andW hc).1; rw [hn] at h4; exact h4
  have h5:=condW_of h4 (w_not (w_lt w_lit (w_len_list (w_arg rfl)))); rw [yG] at h5
  refine Nat.le_of_not_lt fun q=>?_
  have q':(n:Int)<((ns.length:Nat):Int):=by omega
  first
   | (rw [YD q'] at h5; exact yP h5 (by decide))
   | (simp at h5; omega)
 cases hwl with
 | cons w1 w2 =>
  cases w2
  cases w1 with
  | list ho hall=>exact ⟨_,_,ns,rfl,rfl,ho,zd0 ns _ hall,hlen⟩
def zjD (l:OpenLaw) (args:List WData):l.row.toRowW.claim.post args (.bool true) args=true :=
 postW_of (r:=l.row.toRowW) (X:=(true == true))
  (show WShape.has [] (.bool true) .bool=true by first | rfl | decide | simp [WShape.has,WShape.arms,WShape.armsAll])
  (show (WTm.eq .res (.lit (.bool true))).value [] { args:=args,res:=some (.bool true),after:=args }=some (.bool (true == true)) from w_eq_bool (w_res rfl) w_lit) rfl
def attach_call {l:OpenLaw} {n:Nat} {q:Program} {loose:List Str} {XP:(Str->Option Value)->Heap->Prop} {YP:World->Heap->Prop} {d:DefRec}
  (hn:l.most=some n) (hdf:d.params.defaults=[])
  (call:∀ (w:World) (s₀ s₁:Shared) (mg mb:Str->Option Value) (fa:Addr) (o:Obj) (pm cd doc:Value) (a:Addr) (vs:List Value) (ns:List Int),
   Ground q loose [] XP w s₀ mg mb s₁.heap->YP w s₁.heap ->
   s₁.heap.get? fa=some o->o.data=.func (docDef d.name d.params d.body d.scope pm cd doc)->s₁.heap.CodeRec cd d.name->mg d.name=some (.ref fa) ->
   s₁.heap.get? a=some { cls:=.type "list",data:=.seq vs.toArray }->IntsAre vs ns->ns.length<=n->s₁.gens=#[] ->
   codeAny (model l.prog w) callerA (.call (.ref fa) ⟨[.ref a],[]⟩) (fun r s'=>r=.ok (.ret (.bool true))/\OldK s₁.heap s'.heap/\s'.os=s₁.os/\AllBare s'.gens) s₁) :
  WalkO q loose XP YP l.row.toRowW d [] (fun f vs=>PySem.call f vs):=by
 intro w s₀ s₁ mg mb G Y fa o pm cd doc dV kV ho hd hcd hD hmg hg args vals as hpre hlay hrd hwl hlo
 obtain rfl:dV=.none:=Dflts.none hD hdf
 obtain rfl:kV=.none:=Dflts.noKw hD
 obtain ⟨a,vs,ns,rfl,rfl,hobj,hints,hlen⟩:=zjn hn hpre hwl
 refine enter_call (codeAny_mono (call w s₀ s₁ mg mb fa o pm cd doc a vs ns G Y ho (fd_plain hd) hcd hmg hobj hints hlen hg) fun r s' hq=>?_)
 obtain ⟨rfl,h2,h3,h4⟩:=hq
 exact ⟨.inl ⟨.bool true,.bool true,[],rfl,fun _=>rfl,.bool true,zjD l _,fun _=>⟨List.Pairwise.nil,fun _ hm=>(nomatch hm)⟩⟩,h2,h3,h4⟩
section
variable {K:Frag}
def ztZ (h:Heap) (L d:Addr):yyL:=(List.range h.objs.size).filterMap fun a=>if a=L\/a=d then none else (h.get? a).map fun o=>(a,o)
end
end Att
namespace L2
open PySem PySem.Spec PyProof.Rows
theorem zfz:∀ {vs:List Value} {ns:List Int},IntsAre vs ns->zae (ns.map V.int) vs
 | _,_,.nil=>.nil
 | _,_,.cons n t h=>.cons ⟨t,rfl⟩ (zfz h)
def zo7 (s:Stmt) (j:Nat):Stmt:=match s with
 | .ClassDef _ _ _ body _ _ _ _ _ _ _=>body.getD j (.Pass ⟨0,0,0,0⟩)
 | _=>.Pass ⟨0,0,0,0⟩
def zbx (s:Stmt):Arguments:=match s with
 | .FunctionDef _ a _ _ _ _ _ _ _ _=>a
 | _=>{ posonlyargs:=[],args:=[],vararg:=none,kwonlyargs:=[],kw_defaults:=[],kwarg:=none,defaults:=[] }
def zaw (s:Stmt):List Stmt:=match s with
 | .FunctionDef _ _ b _ _ _ _ _ _ _=>b
 | _=>[]
def zm (s:Stmt):Scope:=match s with
 | .FunctionDef _ _ _ _ _ _ sc _ _ _=>sc
 | _=>{ kind:=.function,names:=[],isGenerator:=false,isCoroutine:=false }
abbrev CX0:CXT:=fun _ _ _ _ _ _=>False
abbrev E0:XK:=fun _ _ _=>False
def zqP {X:Cx}:zkP CX0 X E0:=fun _ _ _ _ _ _ _ h=>h.elim
structure Fun (K:W.Frag) (x qual:Str) (st:Stmt) (f:Addr) (fd:FuncData):Prop where
 ex:∃ (oc:Value) (od:Option Addr) (kV doc pm:Value) (an:Option Addr) (cdv ct:Value) (osl:Array (Option Value)),
  fd=W.fnOf x qual (zbx st) (zaw st) (zm st) .none kV doc pm an cdv ct/\K.lookup f=some ⟨oc,od,.func fd,osl⟩/\W.codeIn K cdv qual=true
 kp:W.keepIn K (.ref f)=true
section
def Fun.ok {x qual:Str} {st:Stmt} {f:Addr} {fd:FuncData} {N ps:List Str} {k:Nat} {sp:Sp} (F:Fun K x qual st f fd) (S:FnScope N ps (zm st)) (len:∀ vs H Q E,sp vs H Q E->vs.length=ps.length)
  (hbody:∀ (cdv:Value) (A:Around) (outer:List Env) (s:Shared) (H:Hp) (vs:List V) (Q:VK) (E:XK),Room k (A.deeper (envOfC qual (zm st) s.heap.objs.size f cdv))->sp vs H Q E ->
   ∃ t,PSs (zdj CX0 P w K mg base N qual (zm st) f cdv A outer s H E).nox (zaw st) t/\t { nx:=fun _ H'=>Q .non H',rt:=Q } (start N vs) H):FnOk P w K mg base CX0 (k+1) f fd ps sp:=by
 obtain ⟨oc,od,kV,doc,pm,an,cdv,ct,osl,rfl,lk,hcd⟩:=F.ex
 refine zo9 lk hcd S len fun A outer s H vs Q E hr hsp=>?_
 obtain ⟨t,h,q⟩:=hbody cdv A outer s H vs Q E hr hsp; exact ⟨t,h.nox,q⟩
def Fun.binds {x qual:Str} {st:Stmt} {f:Addr} {fd:FuncData} {ps:List Str} (F:Fun K x qual st f fd)
  (h:∀ (kV doc pm:Value) (an:Option Addr) (cdv ct:Value) (us:List Value),us.length=ps.length->bindArgs (W.fnOf x qual (zbx st) (zaw st) (zm st) .none kV doc pm an cdv ct) ⟨us,[]⟩=pure (ps.zip us)):zbX K fd ps []:=by
 obtain ⟨oc,od,kV,doc,pm,an,cdv,ct,osl,rfl,lk,hcd⟩:=F.ex; exact .all (h kV doc pm an cdv ct)
def zhU {x qual:Str} {st:Stmt} {f:Addr} {oc:Value} {od an:Option Addr} {osl:Array (Option Value)} {kV doc pm cdv ct:Value} (l:K.lookup f=some ⟨oc,od,.func (W.fnOf x qual (zbx st) (zaw st) (zm st) .none kV doc pm an cdv ct),osl⟩)
  (c:W.codeIn K cdv qual=true) (k:W.keepIn K (.ref f)=true):Fun K x qual st f (W.fnOf x qual (zbx st) (zaw st) (zm st) .none kV doc pm an cdv ct):=⟨⟨oc,od,kV,doc,pm,an,cdv,ct,osl,rfl,l,c⟩,k⟩
end
def zac {A:Around} {k:Nat} (hr:Room k A):A.units+1<cLine:=Nat.lt_of_le_of_lt (Nat.add_le_add_left (by decide:1<=64) _) hr.units
def zaC {n:Nat} (h:n<=1000):n<sizeLine:=Nat.lt_of_le_of_lt h (by decide)
section
def pv (i:Nat) {x:Str} {pos:Pos} (hN:X.N[i]?=some x:=by rfl) (hv:Vis X.env.scope x:=by first | exact Or.inl rfl | exact Yr (Or.inl rfl) | exact Yr (Yr rfl)) (hd:yyD x:=by decide)
  (hcd:(x == ("__classdict__":Str))=false:=by decide):PE X (.Name x pos) (ztI i):=zev hN hv hd hcd
end
def zU (H H':Hp):Prop:=∀ b o,H b=some o->H' b=some o
def zU.refl (H:Hp):zU H H:=fun _ _ h=>h
def zU.trans {H H1 H2:Hp} (a:zU H H1) (b:zU H1 H2):zU H H2:=fun c o h=>b c o (a c o h)
def zU.free {H H':Hp} (e:zU H H') {l:Addr} (h:H' l=Option.none):H l=Option.none:=by
 cases q:H l with
 | none=>rfl
 | some o =>
  rw [e l o q] at h; cases h
section
variable {κ:Type} [DecidableEq κ]
def zlc (kvs:List (κ × V)) (k:κ):Option V:=(kvs.find? fun kv=>decide (kv.1=k)).map (·.2)
def zjy (kvs:List (κ × V)) (k:κ) (v:V):List (κ × V) :=
 if (kvs.any fun kv=>decide (kv.1=k))=true then kvs.map (fun kv=>if kv.1=k then (kv.1,v) else kv) else kvs ++ [(k,v)]
def zeG {p:κ × V} {r:List (κ × V)} {k:κ} (e:p.1=k):zlc (p :: r) k=some p.2:=by simp [zlc,YS,e]
def zeH {p:κ × V} {r:List (κ × V)} {k:κ} (e:¬ p.1=k):zlc (p :: r) k=zlc r k:=by simp [zlc,YS,e]
theorem zeI (k:κ):∀ kvs:List (κ × V),(kvs.any fun kv=>decide (kv.1=k))=(zlc kvs k).isSome
 | []=>rfl
 | p :: r=>by
  rw [List.any_cons]
  by_cases e:p.1=k
  ·simp only [zeG e,YD e,Bool.true_or,Option.isSome_some]
  ·rw [zeH e,yY e,Bool.false_or]; exact zeI k r
def zg4 (kvs:List (κ × V)) (k:κ) (v:V):(zjy kvs k v).length<=kvs.length+1:=by
 unfold zjy; split
 ·rw [yG]; omega
 ·rw [yg,Yh,List.length_nil]; omega
def zkM.isSome_eq {o:Option V} {u:Option Value} (r:zkM o u):o.isSome=u.isSome:=by
 cases o with
 | none=>cases u with
  | none=>rfl
  | some _=>exact (show False from r).elim
 | some _=>cases u with
  | none=>exact (show False from r).elim
  | some _=>rfl
def KV.length {kvs:List (κ × V)} {vs:List (κ × Value)} (r:KV kvs vs):kvs.length=vs.length:=Paired.length r
end
def ztc {P:Program} {w:World} {k:Key} {u:Value} (r:zap (kV k) u):(zaT P w).is k u=true:=by
 cases k with
 | inl i=>obtain ⟨t,e⟩:=(show ∃ t,u=Value.int i t from r); subst e; exact zg2 P w i t
 | inr x=>obtain ⟨t,e⟩:=(show ∃ t,u=Value.str x t from r); subst e; exact zg1 P w x t
theorem zgb {P:Program} {w:World}:∀ {ks:List Key} {us:List Value},zae (ks.map kV) us->ItemsAre (zaT P w) ks us
 | [],_,r=>by rw [List.map_nil] at r; cases r; exact .nil
 | k :: ks,_,r=>by
  rw [yX] at r
  cases r with
  | cons h t=>exact .cons (ztc h) (zgb t)
abbrev KT (H:Hp):List (List Key × V)->List (List Key × Addr × Value)->Prop:=Paired fun p q=>p.1=q.1/\H q.2.1=some (.tup (p.1.map kV))/\zap p.2 q.2.2
def KT.val {H:Hp} {kvs:List (List Key × V)} {xs:List (List Key × Addr × Value)} (r:KT H kvs xs) (k:List Key):zkM (zlc kvs k) ((atKey xs k).map (·.2)):=by
 induction r with
 | nil=>exact True.intro
 | @cons p q ps qs h t ih =>
  obtain ⟨h1,_,h2⟩:=h
  by_cases e:p.1=k
  ·have e':q.1=k:=h1.symm.trans e
   have b:atKey (q :: qs) k=some q.2:=by simp [atKey,YS,e']
   rw [zeG e,b]; exact h2
  ·have e':¬ q.1=k:=fun z=>e (h1.trans z)
   have b:atKey (q :: qs) k=atKey qs k:=by simp [atKey,YS,e']
   rw [zeH e,b]; exact ih
def KT.repl {H:Hp} {kvs:List (List Key × V)} {xs:List (List Key × Addr × Value)} (r:KT H kvs xs) (k:List Key) {y:V} {u:Value} (ry:zap y u) :
  KT H (kvs.map fun kv=>if kv.1=k then (kv.1,y) else kv) (xs.map (putAt k u)):=by
 induction r with
 | nil=>exact .nil
 | @cons p q ps qs h t ih =>
  rw [yX,yX]; refine .cons ?_ ih; obtain ⟨h1,h2,h3⟩:=h; unfold putAt
  by_cases e:p.1=k
  ·rw [yI e,yI (h1.symm.trans e)]; exact ⟨h1,h2,ry⟩
  ·rw [yH e,yH (fun z=>e (h1.trans z))]; exact ⟨h1,h2,h3⟩
def KT.put {H:Hp} {kvs:List (List Key × V)} {xs:List (List Key × Addr × Value)} (r:KT H kvs xs) (k:List Key) {b:Addr} {y:V} {u:Value} (hb:H b=some (.tup (k.map kV))) (ry:zap y u) :
  KT H (zjy kvs k y) (storedH xs k b u):=by
 have e:(kvs.any fun kv=>decide (kv.1=k))=(atKey xs k).isSome:=by
  rw [zeI,(r.val k).isSome_eq,Option.isSome_map]
 unfold zjy storedH; rw [e]
 by_cases q:(atKey xs k).isSome=true
 ·rw [yI q,yI q]; exact r.repl k ry
 ·rw [yH q,yH q]; exact Paired.snoc r ⟨rfl,hb,ry⟩
def KT.keeps {H H':Hp} {kvs:List (List Key × V)} {xs:List (List Key × Addr × Value)} (r:KT H kvs xs) (ht:∀ b ys,H b=some (.tup ys)->H' b=some (.tup ys)):KT H' kvs xs :=
 Paired.mapP r fun _ _ z=>⟨z.1,ht _ _ z.2.1,z.2.2⟩
section
variable {h:Heap} {a:Addr}
def zey {ks:List Key} (ok:HOk P w H h) (e:H a=some (.tup (ks.map kV))):(tupleKind (zaT P w)).is h ks a:=by
 obtain ⟨_,its,r,o,h1,h2,n,h3⟩:=(show zal P w H h a (.tup (ks.map kV)) from ok a _ e)
 exact ⟨o,its.toArray,n,h1,h2,h3,by simpa using zgb r⟩
end
section
variable {a:Addr} {y v:V} {u r:Value} {o:Option V}
def Inv.big (I:Inv X pins σ H s):sysModules<s.heap.objs.size:=by
 have h:mainGlobals<s.heap.objs.size:=(I.mod.glob.keeps I.bk).lt
 exact Nat.lt_trans (by decide) h
def zkt {h':Heap} {t':Nat} {ob:HO} (I:Inv X pins σ H s) (mu:Mut (H a)) (hs:Heap.SameBut a s.heap h') (he:∃ q,h'.get? a=some q) (new:zal X.prog X.w (upd H a ob) h' a ob) :
  Inv X pins σ (upd H a ob) { s with heap:=h',toks:=t' } :=
 I.write (x:=a) (e:=a) mu (.inl rfl) (fun b q hb z=>(hs.2 b hb).trans z) he new
end
section
variable {a:Addr} {kvs:List (Key × V)} {k:Key} {u:Value}
end
section
variable {o i e value:Expr} {pos pos' tpos:Pos} {td ty tv:TE}
end
section
variable {pos:Pos}
end
section
variable {a:Addr} {y d:V} {u r:Value} {o:Option V}
end
section
variable {o e f:Expr} {apos cpos:Pos} {td ty tx:TE}
end
section
variable {a:Addr} {kvs:List (Key × V)}
end
section
variable {a:Addr} {y:V} {u:Value}
end
end L2
set_option maxHeartbeats 4000000
namespace L2
open PySem PySem.Spec PyProof.Rows
def st (l:List Nat):Str:=⟨l.toArray⟩
def zR (l:List Nat):(st l).cps.toList=l:=by simp [st]
def zbm (l:List Nat):(st l).length=l.length:=by simp [st,Str.length]
def zp5 (x:Str):x=st x.cps.toList:=by cases x; simp [st]
def st_inj {a b:List Nat} (h:st a=st b):a=b:=by
 have e:=ym (fun x:Str=>x.cps.toList) h
 simpa [st] using e
def zp6 (a b:List Nat):st a ++ st b=st (a ++ b):=by
 show Str.append (st a) (st b)=st (a ++ b)
 unfold Str.append st; simp
def znu (l:List Nat) (c:Nat):(!(Builtin.Str.occurrences (st l) (st [c]) 0 (st l).length 1).isEmpty)=decide (c ∈ l):=by
 have e:=StrLaws.found_one (st l) c; rw [zR] at e; exact e
def zlq (l:List Nat) (n:Nat):Txt.slice (st l) none (some (n:Int))=st (l.take n):=by
 by_cases h:n<=l.length
 ·have q:Txt.slice (st l) none (some (n:Int))=⟨(((st l).cps.toList.drop 0).take ((n:Int)-0).toNat).toArray⟩:=StrLaws.sliceText_to ⟨by omega,by rw [zR]; omega⟩
  rw [q,zR]; simp [st]
 ·have e:Txt.slice (st l) none (some (n:Int))=Txt.slice (st l) none (some (l.length:Int)):=by
   unfold Txt.slice
   have z:Builtin.Str.strSliceIndices none (some (n:Int)) 1 (st l).length=Builtin.Str.strSliceIndices none (some (l.length:Int)) 1 (st l).length:=by
    rw [zbm]
    have h0:¬ (n:Int)<0:=by omega
    have h1:¬ ((l.length:Int)<0):=by omega
    have h2:(1:Int) > 0:=by decide
    have h3:min (n:Int) (l.length:Int)=(l.length:Int):=by omega
    simp only [Builtin.Str.strSliceIndices,h0,h1,h2,if_false,if_true,h3,Int.min_self]
   rw [z]
  have q:Txt.slice (st l) none (some (l.length:Int))=⟨(((st l).cps.toList.drop 0).take ((l.length:Int)-0).toNat).toArray⟩:=StrLaws.sliceText_to ⟨by omega,by rw [zR]; omega⟩
  rw [e,q,zR,yq (by omega:l.length<=n)]
  simp [st]
def zik (l:List Nat) (n:Nat):Txt.slice (st l) (some (n:Int)) none=st (l.drop n):=by
 by_cases h:n<=l.length
 ·have q:Txt.slice (st l) (some (n:Int)) none=⟨(((st l).cps.toList.drop (n:Int).toNat).take (((st l).cps.toList.length:Int)-(n:Int)).toNat).toArray⟩:=StrLaws.sliceText_from ⟨by omega,by rw [zR]; omega⟩
  rw [q,zR]
  have e1:(n:Int).toNat=n:=by omega
  have e2:((l.length:Int)-(n:Int)).toNat=l.length-n:=by omega
  rw [e1,e2,yq (by rw [Ya]; omega)]
  rfl
 ·rw [slice_beyond (by rw [zbm]; omega),YM (by omega)]
  rfl
section
def zgu:zbW X (.type "int") (fun xs H Q=>∃ x n,xs=[.str x]/\PySem.intText? x=some n/\x.length<=640/\Q (.int n) H):=by
 intro pins s σ H xs us Q I r h; obtain ⟨x,n,rfl,hn,hl,q⟩:=h; obtain ⟨u,rfl,t,rfl⟩:=zcl r; exact W.KIN.call_text hn hl ⟨.int n,H,I.tok _,⟨_,rfl⟩,q⟩
def zut:V->Option Int->Option Int->Hp->VK->Prop:=fun x lo hi H Q=>∃ z,x=.str z/\z.length<=sizeLine/\Q (.str (Txt.slice z lo hi)) H
def zp8:SlR X zut:=by
 intro pins s σ H x v vl vu lo hi sl Q I rx hs pl pu h; obtain ⟨z,rfl,hz,q⟩:=h; obtain ⟨t,rfl⟩:=rx; refine ⟨"str",_,PySem.F.slot_str_getitem.lookup,typeIs_str _ _ _,?_⟩
 have fin:∀ t' k,EP X pins σ Q (.str (Txt.slice z lo hi) t') { s with toks:=k }:=fun t' k=>⟨.str (Txt.slice z lo hi),H,I.tok _,⟨_,rfl⟩,q⟩
 cases pl with
 | none =>
  cases pu with
  | none=>exact wpAny_getItem_str_slice (l:=none) (u:=none) (st:=none) hs rfl (post_val_or_str ⟨YG (Txt.slice_le z _ _) hz,fin⟩)
  | int j u=>exact wpAny_getItem_str_slice (l:=none) (u:=some (j,u)) (st:=none) hs rfl (post_val_or_str ⟨YG (Txt.slice_le z _ _) hz,fin⟩)
 | int i u' =>
  cases pu with
  | none=>exact wpAny_getItem_str_slice (l:=some (i,u')) (u:=none) (st:=none) hs rfl (post_val_or_str ⟨YG (Txt.slice_le z _ _) hz,fin⟩)
  | int j u=>exact wpAny_getItem_str_slice (l:=some (i,u')) (u:=some (j,u)) (st:=none) hs rfl (post_val_or_str ⟨YG (Txt.slice_le z _ _) hz,fin⟩)
def zjU:MtR X "str.rstrip" (fun x xs H Q=>∃ z y,x=.str z/\xs=[.str y]/\z.length<=sizeLine/\Q (.str (Txt.rstripChars z y)) H):=by
 intro pins s σ H x xs v us Q I rx rs h; obtain ⟨z,y,rfl,rfl,hz,q⟩:=h; obtain ⟨t,rfl⟩:=rx; obtain ⟨u,rfl,t',rfl⟩:=zcl rs
 exact PySem.SC.rstripChars (fun t' k=>⟨.str _,H,I.tok _,⟨_,rfl⟩,q⟩) hz
end
def ltV:V->V->Bool
 | .int i,.int j=>decide (i<j)
 | .str x,.str y=>decide (x.cps.toList<y.cps.toList)
 | _,_=>false
def ztr:V->V->Bool
 | .int _,.int _=>true
 | .str _,.str _=>true
 | _,_=>false
def ziX:List V->List V->Bool
 | [],[]=>false
 | [],_ :: _=>true
 | _ :: _,[]=>false
 | x :: xs,y :: ys=>if x=y then ziX xs ys else ltV x y
def zkz:List V->List V->Prop
 | x :: xs,y :: ys=>ztr x y=true/\zkz xs ys
 | _,_=>True
def zdT (x y:V) (xs ys:List V):ziX (x :: xs) (y :: ys)=if x=y then ziX xs ys else ltV x y:=rfl
def zmG {A:Around} {s:Shared} {x y:V} {u v:Value} (rx:zap x u) (ry:zap y v) (h:ztr x y=true):∃ e,SeqAt.EqAt A s u v e/\(e=true↔x=y):=by
 cases x with
 | int i =>
  cases y with
  | int j =>
   obtain ⟨t,rfl⟩:=rx; obtain ⟨t',rfl⟩:=ry
   exact ⟨(i == j),SeqAt.EqAt.int_int i t j t',by simp⟩
  | _=>exact yP (show false=true from h) yN
 | str a =>
  cases y with
  | str b =>
   obtain ⟨t,rfl⟩:=rx; obtain ⟨t',rfl⟩:=ry
   exact ⟨(a == b),SeqAt.EqAt.str_str a t b t',by simp⟩
  | _=>exact yP (show false=true from h) yN
 | _=>cases y <;> exact yP (show false=true from h) yN
def zlu {A:Around} {s:Shared} {x y:V} {u v:Value} (rx:zap x u) (ry:zap y v) (h:ztr x y=true) (prog:Program) (w:World) (E:Value->Shared->Prop) (Q:Value->Shared->Prop) (q:Q (.bool (ltV x y)) s) :
  wpAny (model prog w) A (richCompare .Lt u v) Q E s:=by
 cases x with
 | int i =>
  cases y with
  | int j =>
   obtain ⟨t,rfl⟩:=rx; obtain ⟨t',rfl⟩:=ry; exact (PyProof.Rows.lt_int q:wpAny (model prog w) A (compareOp .Lt (.int i t) (.int j t')) Q E s)
  | _=>exact yP (show false=true from h) yN
 | str a =>
  cases y with
  | str b =>
   obtain ⟨t,rfl⟩:=rx; obtain ⟨t',rfl⟩:=ry; exact (PyProof.Rows.lt_str q:wpAny (model prog w) A (compareOp .Lt (.str a t) (.str b t')) Q E s)
  | _=>exact yP (show false=true from h) yN
 | _=>cases y <;> exact yP (show false=true from h) yN
end L2
namespace HT
open PySem PyProof.Rows L2
section
open PySem.SeqAt
open PySem.AutoSeq1 (wpAny_loadPart')
open PySem.MeetsSeq PySem.MeetsSeq2 PySem.MeetsSeq3
def zeK (l b:Addr) (items items2:Array Value) (n n2:Nat) (dd dd2:Option Addr) (sl sl2:Array (Option Value)) (ns ms:List V) (hi:zae ns items.toList) (hj:zae ms items2.toList) (hc:zkz ns ms) :
  Meets (Builtin.«tuple.__lt__» ⟨[.ref l,.ref b],[]⟩)
   (fun _ R s=>s.heap.get? l=some { cls:=.type "tuple",dict:=dd,data:=.seq items n,slots:=sl }/\s.heap.get? b=some { cls:=.type "tuple",dict:=dd2,data:=.seq items2 n2,slots:=sl2 } /\
    R (.ok (.ret (.bool (ziX ns ms)))) s) :=
 .of_wp fun prog w A R s h=>by
  obtain ⟨hp,g,d,tk,os⟩:=s; obtain ⟨hl,hb,h⟩:=h
  have f2:=AutoSeq1.sub_tuple_tuple
  have z1:items.size=ns.length:=by rw [hi.length]; simp
  have z2:items2.size=ms.length:=by rw [hj.length]; simp
  wp_walk using wpAny_loadPart' hl,wpAny_loadPart' hb,wpAny_forIn_list _ (fun zbb b s'=>b.1=none/\s'=⟨hp,g,d,tk,os⟩/\∃ (vs ws:List Value) (ns' ms':List V),zbb=vs.zip ws /\
   zae ns' vs/\zae ms' ws/\zkz ns' ms'/\ns'.length+items2.size=ms'.length+items.size/\R (.ok (.ret (.bool (ziX ns' ms')))) ⟨hp,g,d,tk,os⟩) _
  case turn =>
   rintro ⟨y,x⟩ zbb b s' ⟨hb',rfl,vs,ws,ns',ms',hz,hvi,hwi,hcc,hlen,hR⟩
   cases hvi with
   | nil=>rw [List.zip_nil_left] at hz; cases hz
   | cons ra hvi' =>
    cases hwi with
    | nil=>rw [List.zip_nil_right] at hz; cases hz
    | cons rc hwi' =>
     rw [List.zip_cons_cons] at hz
     injection hz with hyx hrest
     injection hyx with hy hx
     subst hy hx
     rw [zdT] at hR; simp only [Yh] at hlen; obtain ⟨hc1,hc2⟩:=hcc; obtain ⟨e,he,hiff⟩:=zmG (A:=A.in1) (s:=⟨hp,g,d,tk,os⟩) ra rc hc1; refine yA (he prog w _ _ ?_)
     cases e with
     | true =>
      rw [yI (hiff.mp rfl)] at hR
      wp_walk
      exact ⟨rfl,rfl,_,_,_,_,hrest,hvi',hwi',hc2,by omega,hR⟩
     | false =>
      rw [yH (fun q=>yP (hiff.mpr q) yN)] at hR
      have hri:=fun E Q=>zlu (A:=A.in1) (s:=⟨hp,g,d,tk,os⟩) ra rc hc1 prog w E Q
      wp_walk using hri
      exact ⟨_,rfl,by simpa using hR⟩
  case fin =>
   rintro ⟨b1,b2⟩ s' ⟨hb',rfl,vs,ws,ns',ms',hz,hvi,hwi,hcc,hlen,hR⟩
   simp only at hb'
   subst hb'
   have hv:ziX ns' ms'=decide (items.size<items2.size):=by
    cases hvi with
    | nil =>
     cases hwi with
     | nil =>
      simp only [List.length_nil] at hlen
      exact (yY (by omega)).symm
     | cons rc hw =>
      simp only [List.length_nil,Yh] at hlen
      exact (YD (by omega)).symm
    | cons ra hv =>
     cases hwi with
     | nil =>
      simp only [List.length_nil,Yh] at hlen
      exact (yY (by omega)).symm
     | cons rc hw =>
      rw [List.zip_cons_cons] at hz; cases hz
   rw [hv] at hR
   wp_walk
   exact ⟨_,rfl,by simpa [Builtin.Tuple.tupleCompareSizes] using hR⟩
  case h =>
   exact ⟨rfl,rfl,items.toList,items2.toList,ns,ms,rfl,hi,hj,hc,by omega,h⟩
end
section
def lt_tupVals {l b:Addr} {items items2:Array Value} {ns ms:List V} {Q:Value->Shared->Prop} (hl:IsTup s.heap l items) (hb:IsTup s.heap b items2) (hi:zae ns items.toList) (hj:zae ms items2.toList) (hcc:zkz ns ms)
  (hu:A.units<cLine) (h:Q (.bool (ziX ns ms)) s):wpAny (model prog w) A (compareOp .Lt (.ref l) (.ref b)) Q E s:=by
 obtain ⟨⟨cls,dd,data,sl⟩,ho,hc,n,hd⟩:=id hl
 obtain ⟨⟨cls2,dd2,data2,sl2⟩,ho2,hc2,n2,hd2⟩:=id hb
 simp only at hc hd hc2 hd2
 subst hc hd hc2 hd2
 exact richCompare_meets_room (op:=.Lt) ⟨_,ho,rfl⟩ ⟨_,ho2,rfl⟩ PySem.F.slot_tuple_lt PySem.F.entry_tuple_lt (PySem.F.args_tuple_lt_2 _ _) (zeK l b items items2 n n2 dd dd2 sl sl2 ns ms hi hj hcc)
  ⟨ho,ho2,show Value.bool (ziX ns ms)≠Value.notImplemented/\Q (.bool (ziX ns ms)) s from ⟨(fun x=>nomatch x),h⟩⟩ hu
end
end HT
namespace L2
open PySem PySem.Spec PyProof.Rows
section
def zuv (K:W.Frag):R2:=fun x y H Q=>∃ a b ns ms,x=.ref a/\y=.ref b/\SqT K H a ns/\SqT K H b ms/\zkz ns ms/\Q (.bl (ziX ns ms)) H
def zqT (hu:X.A.units<cLine):OpR X (compareOp .Lt) (zuv X.K):=by
 intro pins s σ H x y v u Q I rx ry h; obtain ⟨a,b,ns,ms,rfl,rfl,ha,hb,hc,q⟩:=h; cases rx; cases ry; obtain ⟨its,r1,p1,_⟩:=I.tuple ha; obtain ⟨its2,r2,p2,_⟩:=I.tuple hb
 exact HT.lt_tupVals p1 p2 (by simpa using r1) (by simpa using r2) hc hu ⟨.bl (ziX ns ms),H,I,rfl,q⟩
end
def Its (l:List Nat):It:=⟨fun i _=>i<l.length,fun i H x H'=>H'=H/\∃ c,l[i]?=some c/\x=.str (st [c]),fun i _=>i=l.length⟩
def zhi {P:Program} {w:World} {A:Around} {cls:String} (hA:A.handled=none) (it:Addr) (x:Str) (t:Tok) (hcls:cls="str_ascii_iterator"\/cls="str_iterator"):Walks P w A it [it] [it] x.cps.size (SignAt x) (fun i h=>h.IsStrIter it cls x t i):=by
 rcases hcls with rfl | rfl
 ·exact Walks.strAscii hA it x t
 ·exact Walks.strWide hA it x t
def zhl {P:Program} {w:World} {K:W.Frag} {tg:Expr} {cls:String} (x:Str) (t:Tok) (it:Addr) (hcls:cls="str_ascii_iterator"\/cls="str_iterator"):Turn P w K tg (Its x.cps.toList) [it] it (fun i h=>h.IsStrIter it cls x t i) where
 mem:=by simp
 obj:=fun i h stt b hb=>by
  have e:b=it:=by simpa using hb
  subst e; obtain ⟨o,e,c,d⟩:=stt
  exact ⟨o,e,fun v z=>by rw [d] at z; cases z⟩
 keep:=fun i h h' stt k=>by
  obtain ⟨o,e,r⟩:=stt
  exact ⟨o,k it (by simp) o e,r⟩
 item:=by
  intro X hP hw hK hc i pins s σ H E I hf stt hg
  subst hP hw hK
  obtain ⟨f0,f1,f2,f3,f4,f5⟩:=hf it (by simp)
  have hg':i<x.cps.toList.length:=hg
  refine (zhi (I.ok.hd hc) it x t hcls).item i s _ _ (by simpa using hg') stt fun v h' tk hv st' kk=>?_
  obtain ⟨c,u,hc',rfl⟩:=hv
  have I1:Inv X pins σ H { s with heap:=h',toks:=tk }:=I.turned (fun b o hb e=>kk b o (by simpa using hb) e) f0 f1 f3 f4 f5
  obtain ⟨o,e,hcl,d⟩:=id st'
  exact ⟨_,rfl,ziH (s:={ s with heap:=h',toks:=tk }) e hcl d (by rcases hcls with rfl | rfl <;> decide) ⟨.str (st [c]),H,I1,⟨u,rfl⟩,⟨rfl,c,by simpa using hc',rfl⟩,st',fun b hb=>(hf b hb).1⟩⟩
 done:=by
  intro X hP hw hK hc i pins s σ H E I hf stt hg
  subst hP hw hK
  obtain ⟨f0,f1,f2,f3,f4,f5⟩:=hf it (by simp)
  have hg':i=x.cps.toList.length:=hg
  subst hg'
  refine (zhi (I.ok.hd hc) it x t hcls).done s _ _ (by simpa using stt) fun h' tk kk=>?_
  exact ⟨rfl,I.turned (fun b o hb e=>kk b o (by simpa using hb) e) f0 f1 f3 f4 f5⟩
 self:=fun A i s Q E stt h=>by
  rcases hcls with rfl | rfl
  ·exact wpAny_pyIter_striter_ascii stt h
  ·exact wpAny_pyIter_striter_wide stt h
section
variable {tg:Expr}
end
def zct (cells:List (Str × Addr)):List (Str × NameKind)->List (Str × Addr)->List (Str × Addr)
 | [],acc=>acc
 | (n,k) :: r,acc=>if k == .free then zct cells r ((n,(cells.lookup n).getD 0) :: acc) else zct cells r acc
theorem zeD {env:Env}:∀ (l:List (Str × NameKind)) (acc:List (Str × Addr)),(∀ y ∈ l,y.2=.free->∃ c,env.cells.lookup y.1=some c) ->
  (forIn (m:=Sem) l acc fun x r=>if (x.2 == NameKind.free)=true then do let a <- cellOf env x.1; pure (ForInStep.yield ((x.1,a) :: r)) else pure (ForInStep.yield r))=pure (zct env.cells l acc)
 | [],acc,_=>rfl
 | (n,k) :: r,acc,h=>by
  rw [List.forIn_cons]
  have ih:=fun acc'=>zeD r acc' fun y hy=>h y (yO _ hy)
  by_cases hk:k=.free
  ·subst hk
   obtain ⟨c,hc⟩:=h (n,.free) (yU ..) rfl
   have e:cellOf env n=pure c:=by
    unfold cellOf
    rw [show env.cells.lookup n=some c from hc]
   show ((if ((NameKind.free:NameKind) == NameKind.free)=true then _ else _) >>= _)=_
   rw [yI (by decide),e]
   unfold zct
   rw [yI (by decide),show env.cells.lookup n=some c from hc]
   exact ih _
  ·have hb:(k == NameKind.free)=false:=by simpa using hk
   show ((if (k == NameKind.free)=true then _ else _) >>= _)=_
   rw [yH (by rw [hb]; decide)]
   unfold zct
   rw [yH (by rw [hb]; decide)]
   exact ih _
def zeC {scope:Scope} {env:Env} (h:∀ y ∈ scope.names,y.2=.free->∃ c,env.cells.lookup y.1=some c):closureFor scope env=pure (zct env.cells scope.names []):=by
 unfold closureFor; have e:=zeD scope.names [] h
 refine Eq.trans ?_ (ym (fun z=>z >>= fun cs=>(pure cs:Sem (List (Str × Addr)))) e)
 rfl
theorem zcY {cells:List (Str × Addr)} {x:Str} {c:Addr}:∀ (l:List (Str × NameKind)) (acc:List (Str × Addr)),(∀ y ∈ l,y.2=.free->∃ c,cells.lookup y.1=some c)->(∀ x c,acc.lookup x=some c->cells.lookup x=some c)->(zct cells l acc).lookup x=some c->cells.lookup x=some c
 | [],acc,_,ha,h=>ha x c h
 | (n,k) :: r,acc,hl,ha,h=>by
  unfold zct at h; split at h
  ·rename_i hk
   obtain ⟨c',hc'⟩:=hl (n,k) (yU ..) (by simpa using hk)
   refine zcY r _ (fun y hy=>hl y (yO _ hy)) (fun z d hz=>?_) h
   rw [show cells.lookup n=some c' from hc'] at hz
   rw [yi] at hz
   cases hzn:z == n with
   | true =>
    rw [hzn] at hz
    have e1:z=n:=by simpa using hzn
    rw [e1,show cells.lookup n=some c' from hc']
    simpa using hz
   | false =>
    rw [hzn] at hz; exact ha z d hz
  ·exact zcY r acc (fun y hy=>hl y (yO _ hy)) ha h
theorem zfr {cells:List (Str × Addr)} {x:Str}:∀ (l:List (Str × NameKind)) (acc:List (Str × Addr)),(∃ c,acc.lookup x=some c)->∃ c,(zct cells l acc).lookup x=some c
 | [],_,h=>h
 | (n,k) :: r,acc,h=>by
  unfold zct; split
  ·refine zfr r _ ?_
   rw [yi]; split
   ·exact ⟨_,rfl⟩
   ·exact h
  ·exact zfr r acc h
theorem zfq {cells:List (Str × Addr)} {x:Str}:∀ (l:List (Str × NameKind)) (acc:List (Str × Addr)),(x,NameKind.free) ∈ l->∃ c,(zct cells l acc).lookup x=some c
 | [],_,h=>yP h YA
 | (n,k) :: r,acc,h=>by
  unfold zct
  rcases yQ.mp h with e | e
  ·cases e
   rw [yI (by decide)]
   refine zfr r _ ?_; rw [yi,beq_self_eq_true]; exact ⟨_,rfl⟩
  ·split
   ·exact zfq r _ e
   ·exact zfq r _ e
theorem zdg {x:Str} {k:NameKind}:∀ {l:List (Str × NameKind)},l.lookup x=some k->(x,k) ∈ l
 | [],h=>by simp at h
 | (n,j) :: r,h=>by
  rw [yi] at h
  cases e:x == n with
  | true =>
   rw [e] at h
   have e1:x=n:=by simpa using e
   have e2:j=k:=by simpa using h
   rw [e1,e2]; exact yU ..
  | false =>
   rw [e] at h; exact yO _ (zdg h)
theorem zeq {env:Env} (hk:env.scope.kind=.function) {x:Str} (hx:env.kindOf x=some .cell):∀ {l:List (Str × NameKind)},l.lookup x=some .free ->
  (l.map fun (n,k)=>if (k == NameKind.free && env.scope.kind == .function && env.kindOf n == some .cell) then (n,NameKind.cell) else (n,k)).lookup x=some .cell
 | [],h=>by simp at h
 | (n,k) :: r,h=>by
  rw [yi] at h; rw [yX]
  show List.lookup x ((if (k == NameKind.free && env.scope.kind == .function && env.kindOf n == some .cell)=true then (n,NameKind.cell) else (n,k)) :: _)=_
  cases e:x == n with
  | true =>
   rw [e] at h
   have e1:x=n:=by simpa using e
   have e2:k=.free:=by simpa using h
   subst e1 e2
   have z:((NameKind.free == NameKind.free && env.scope.kind == .function && env.kindOf x == some .cell):Bool)=true:=by rw [hk,hx]; decide
   rw [yI z,yi,beq_self_eq_true]
  | false =>
   rw [e] at h; have ih:=zeq hk hx (l:=r) h
   by_cases z:(k == NameKind.free && env.scope.kind == .function && env.kindOf n == some .cell)=true
   ·rw [yI z,yi,e]
    exact ih
   ·rw [yH z,yi,e]
    exact ih
theorem zer {env:Env} {x:Str}:∀ {l:List (Str × NameKind)},(∀ y ∈ l,y.2≠.cell)->((l.map fun (n,k)=>if (k == NameKind.free && env.scope.kind == .function && env.kindOf n == some .cell) then (n,NameKind.cell) else (n,k)).lookup x=some .cell \/
  (l.map fun (n,k)=>if (k == NameKind.free && env.scope.kind == .function && env.kindOf n == some .cell) then (n,NameKind.cell) else (n,k)).lookup x=some .free)->(x,NameKind.free) ∈ l
 | [],_,h=>by simp at h
 | (n,k) :: r,hc,h=>by
  have again:∀ (z:(r.map fun (n,k)=>if (k == NameKind.free && env.scope.kind == .function && env.kindOf n == some .cell) then (n,NameKind.cell) else (n,k)).lookup x=some .cell\/(r.map fun (n,k)=>if (k == NameKind.free && env.scope.kind == .function && env.kindOf n == some .cell) then (n,NameKind.cell) else (n,k)).lookup x=some .free),(x,NameKind.free) ∈ (n,k) :: r :=
   fun z=>yO _ (zer (fun y hy=>hc y (yO _ hy)) z)
  rw [yX] at h
  change List.lookup x ((if (k == NameKind.free && env.scope.kind == .function && env.kindOf n == some .cell)=true then (n,NameKind.cell) else (n,k)) :: _)=some NameKind.cell\/List.lookup x ((if (k == NameKind.free && env.scope.kind == .function && env.kindOf n == some .cell)=true then (n,NameKind.cell) else (n,k)) :: _)=some NameKind.free at h
  by_cases z:(k == NameKind.free && env.scope.kind == .function && env.kindOf n == some .cell)=true
  ·have hk:k=.free:=by
    simp only [yp,beq_iff_eq] at z; exact z.1.1
   rw [yI z,yi] at h
   cases e:x == n with
   | true =>
    have e1:x=n:=by simpa using e
    rw [e1,hk]; exact yU ..
   | false =>
    rw [e] at h; exact again h
  ·rw [yH z,yi] at h
   cases e:x == n with
   | true =>
    rw [e] at h
    have e1:x=n:=by simpa using e
    rcases h with h | h
    ·exact yP (by simpa using h) (hc (n,k) (yU ..))
    ·have e2:k=.free:=by simpa using h
     rw [e1,e2]; exact yU ..
   | false =>
    rw [e] at h; exact again h
structure Blk (N N':List Str) (src:List (Option Nat)) (fsc sc:Scope):Prop where
 kind:sc.kind=.function
 cell:∀ y ∈ sc.names,y.2≠.cell
 names:∀ y ∈ sc.names,y.2=.local->sc.names.lookup y.1=some .local
 free:∀ y ∈ sc.names,y.2=.free->fsc.names.lookup y.1=some .cell
 len:src.length=N'.length
 sees:((N'.zip src).all fun y=>match y.2 with | none=>true | some i=>decide (N[i]?=some y.1) && decide (sc.names.lookup y.1=some .free))=true
def zlr (src:List (Option Nat)) (σ:St):St:=src.map fun o=>o.bind fun i=>(σ[i]?).join
abbrev blk (X:Cx) (N':List Str) (sc:Scope) (cl:List (Str × Addr)) (C:Addr) (s:Shared) (H:Hp) (fp:List Addr) (pn:yyL):Cx :=
 { X with N:=N',s₀:=s,H₀:=H,env:=compEnvC sc cl C X.env,outer:=X.stack,ex:=fp,fn:=fun _=>false,pn:=pn }
def znF {X:Cx} {N N':List Str} {src:List (Option Nat)} {fsc sc:Scope} {pins:yyL} {σ:St} {H:Hp} {s:Shared} {fp:List Addr} {h':Heap} {tk:Nat} {m:Str->Option Value} (I:Inv X pins σ H s) (B:Blk N N' src fsc sc) (hN:X.N=N) (hs:X.env.scope=fsc)
  (f2:∀ b ∈ fp,zdq X pins H b) (fb:∀ b ∈ fp,b<s.heap.objs.size) (hn:h'.Ns s.heap.objs.size m) (kp:∀ b o,s.heap.get? b=some o->h'.get? b=some o) :
  Inv (blk X N' sc (zct X.env.cells sc.names []) s.heap.objs.size s H fp (X.pn ++ pins)) [] (zlr src σ) H { s with heap:=h',toks:=tk }:=by
 subst hN hs
 have hfr:∀ y ∈ sc.names,y.2=.free->∃ c,X.env.cells.lookup y.1=some c:=fun y hy e=>I.ok.has y.1 (.inl (B.free y hy e))
 have sub:∀ x c,(zct X.env.cells sc.names []).lookup x=some c->X.env.cells.lookup x=some c:=fun x c e=>zcY sc.names [] hfr (fun _ _ z=>by simp at z) e
 have has:∀ x,(x,NameKind.free) ∈ sc.names->∃ c,(zct X.env.cells sc.names []).lookup x=some c:=fun x hx=>zfq sc.names [] hx
 have ok:Cx.Ok (blk X N' sc (zct X.env.cells sc.names []) s.heap.objs.size s H fp (X.pn ++ pins)):=by
  refine ⟨I.ok.mod,B.kind,I.ok.glob,I.ok.blt,yD _,fun x y c e1 e2=>I.ok.inj x y c (sub x c e1) (sub y c e2),fun x hx=>has x (zer B.cell hx),fun x c e=>(nomatch e),I.ok.hd,I.ok.frames,.inl rfl,fun b hb=>⟨yW (fb b hb),fun x c e=>(f2 b hb).2.2.2.2.1 x c (sub x c e)⟩,
   I.bs,YG I.ok.bsz I.sz,fun b o e hb=>?_,fun b hb z=>?_,I.stack,I.stkFree,I.ok.tab.un I.base.tbls⟩
  ·rcases (f2 b hb).2.2.2.1 with z | z
   ·exact I.ok.noex b o e z
   ·exact yP (yT (yJ e) (YG I.ok.bsz z)) (YW _)
  ·rcases yQ.mp (I.stkSub b z) with e | e
   ·exact (f2 b hb).2.1 e
   ·exact (f2 b hb).2.2.1 e
 refine ⟨ok,rfl,I.bare,Un.kept kp,⟨m,hn,fun j x v e1 e2 e3=>?_⟩,fun x c e=>?_,I.hok.fresh (yD _),fun x c e=>I.freeC x c (sub x c e),fun p hp=>?_,I.hok.kept kp,?_⟩
 ·have e2':(src[j]?).map (fun o=>o.bind fun i=>(σ[i]?).join)=some (some v):=by
   have z:=e2; unfold zlr at z; rw [yK] at z; exact z
  cases hj:src[j]? with
  | none=>rw [hj] at e2'; cases e2'
  | some o =>
   rw [hj] at e2'
   cases o with
   | none=>cases e2'
   | some i =>
    have hσ:σ[i]?=some (some v):=by
     have z:(σ[i]?).join=some v:=by simpa using e2'
     cases hz:σ[i]? with
     | none=>rw [hz] at z; cases z
     | some w=>rw [hz] at z; exact ym some z
    have hz:(x,some i) ∈ N'.zip src:=by
     have q:(N'.zip src)[j]?=some (x,some i):=by
      rw [List.getElem?_zip_eq_some]; exact ⟨e1,hj⟩
     exact yL q
    have q:=Yj.mp B.sees _ hz; simp only [yp,yo] at q; obtain ⟨q1,q2⟩:=q
    have hkc:X.env.kindOf x=some .cell:=B.free _ (zdg q2) rfl
    obtain ⟨m0,_,hl⟩:=I.loc; obtain ⟨u,ru,lk⟩:=hl i x v q1 hσ (.inr (.inl hkc)); refine ⟨u,ru,.inr ⟨.inl (zeq I.ok.kind hkc q2),?_⟩⟩
    rcases lk with ⟨k,_⟩ | ⟨_,c,e,z⟩
    ·rw [hkc] at k; cases k
    ·obtain ⟨c',hc'⟩:=has x (zdg q2)
     have e':=sub x c' hc'; rw [e] at e'; cases e'; obtain ⟨o,ho,hd⟩:=z; exact ⟨c,hc',o,kp _ _ ho,hd⟩
 ·obtain ⟨v,o,ho,hd⟩:=I.cell x c (sub x c e)
  exact ⟨v,o,kp _ _ ho,hd⟩
 ·rw [yd] at hp
  obtain ⟨e,n,ne,nf,d⟩:=I.pin p hp
  refine ⟨kp _ _ e,n,yW (yJ e),fun z=>?_,d⟩
  rcases yQ.mp (I.stkSub p.1 z) with q | q
  ·exact ne q
  ·exact nf q
 ·show (zlr src σ).length=N'.length
  unfold zlr; rw [yG,B.len]
def Un.same {fs ex:List Addr} {H H1:Hp} {h h1 h2:Heap} {a:Addr} (u:Un fs ex H H1 h h1) (hs:Heap.SameBut a h1 h2) (ha:h.objs.size<=a):Un fs ex H H1 h h2:=by
 have ne:∀ b o,h.get? b=some o->b≠a:=fun b o e=>yW (yT (yJ e) ha)
 refine ⟨fun b o e n h1 h2=>?_,fun b o e n h1 h2=>?_,u.free,fun b o e h1=>?_,u.tups,u.frzs,u.tbls⟩
 ·exact (hs.2 b (ne b o e)).trans (u.keep b o e n h1 h2)
 ·obtain ⟨sl,q⟩:=u.slot b o e n h1 h2
  exact ⟨sl,(hs.2 b (ne b o e)).trans q⟩
 ·obtain ⟨o',q⟩:=u.there b o e h1
  exact ⟨o',(hs.2 b (ne b o e)).trans q⟩
def HOk.same {P:Program} {w:World} {H:Hp} {h h':Heap} {a:Addr} (x:HOk P w H h) (hs:Heap.SameBut a h h') (ha:H a=none):HOk P w H h':=fun b o e=>by
 refine (x b o e).stay (fun c u hc q=>(hs.2 c ?_).trans q) (fun _ q=>q) fun _ _ q=>q
 rintro rfl
 rcases hc with rfl | hc
 ·rw [ha] at e; cases e
 ·rw [ha] at hc; cases hc
def PTs (X:Cx) (ifs:List Expr) (t:TT):Prop :=
 ∀ (pins:yyL) (s:Shared) (σ:St) (H:Hp) (Q:Bool->Hp->Prop),Inv X pins σ H s->t σ H Q ->
  wpAny (model X.prog X.w) X.A (forIn ifs true fun c r=>if r=true then do let ok <- isTrue c X.env (eval c X.env); pure (ForInStep.yield ok) else pure (ForInStep.yield r)) (TP X pins σ Q) X.xe s
def zoe {X:Cx}:PTs X [] (fun _ H Q=>Q true H):=fun _ _ _ H _ I h=>yF ⟨H,I,h⟩
def zod {X:Cx} {c:Expr} {t:TT} (h:PT X c t):PTs X [c] t:=fun pins s σ H Q I q=>wpAny_tests_one (h pins s σ H Q I q)
def zgn {P:Program} {w:World} {A:Around} {R:Result->Shared->Prop} {s:Shared} {elt tg iter:Expr} {ifs:List Expr} {sc:Scope} {pos:Pos} {it acc:Value} {env:Env} (J:Nat->Shared->Prop)
  (turn:∀ k s',J k s'->wpAny (model P w) A (pyNext it) (fun r s1=>match r with
   | none=>R (.ok .next) s1
   | some v=>wpAny (model P w) A (letOwnedTupleGo tg it v) (fun _ s2=>wpAny (model P w) A (assign tg env v) (fun _ s3 =>
     wpAny (model P w) A (forIn ifs true fun c r=>if r=true then do let ok <- isTrue c env (eval c env); pure (ForInStep.yield ok) else pure (ForInStep.yield r)) (fun b s4 =>
      if b=true then wpAny (model P w) A (eval elt env) (fun y s5=>wpAny (model P w) A (call (.builtin "list.append") [acc,y]) (fun _ s6=>∃ m,m<k/\J m s6) (fun _ _=>False) s5) (fun _ _=>False) s4
      else ∃ m,m<k/\J m s4) (fun _ _=>False) s3) (fun _ _=>False) s2) (fun _ _=>False) s1) (fun _ _=>False) s')
  (k:Nat) (h:J k s):codeAny (model P w) A (.compLoop (.ListComp elt [⟨tg,iter,ifs,0⟩] sc pos) 0 it acc env) R s:=by
 have no:∀ {α:Type} {t:Sem α} {Q Q':α->Shared->Prop} {E:Value->Shared->Prop} {z:Shared},wpAny (model P w) A t Q (fun _ _=>False) z->(∀ a z',Q a z'->Q' a z')->wpAny (model P w) A t Q' E z:=fun g1 g2=>yf g1 g2 fun _ _ f=>f.elim
 refine codeAny_loop rfl J (fun k s' hJ=>?_) k h
 show wpAny _ A ((compTurn (.ListComp elt [⟨tg,iter,ifs,0⟩] sc pos) 0 it acc env).onRaise (fun x=>do noteFrame x env; theTreesLotGoes x)) _ _ s'
 refine wpAny_noted ?_; rw [compTurn_list]
 refine yA (wpAny_standAt (yA (no (turn k s' hJ) fun r s1 h1=>?_)))
 cases r with
 | none=>exact yF h1
 | some v =>
  refine yA (no h1 fun _ s2 h2=>yA (no h2 fun _ s3 h3=>yA (no h3 fun b s4 h4=>?_)))
  cases b with
  | false=>exact yF ⟨rfl,h4⟩
  | true=>exact yA (yA (no h4 fun y s5 h5=>yA (no h5 fun _ s6 h6=>yF (yF ⟨rfl,h6⟩))))
def zp0 (wi:TI) (src:List (Option Nat)) (g:TG) (tc:TT) (te:TE):TE:=fun σ H Q=>wi σ H fun J H1=>∀ D,H1 D=none->∃ W:Nat->Nat->St->Hp->Prop,(∃ m,W 0 m (zlr src σ) (upd H1 D (.lst [])))/\∀ i m σ2 H2,W i m σ2 H2 ->
 (J.stop i H2/\Q (.ref D) H2)\/(J.go i H2/\∃ M:St->Hp->Prop,(∀ σ' H',M σ' H'->∃ m',m'<m/\W (i+1) m' σ' H')/\∀ x H',J.yld i H2 x H'->g x σ2 H' fun σ3 H3=>tc σ3 H3 fun b H4 =>
  if b=true then te σ3 H4 fun y H5=>∃ ys,H5 D=some (.lst ys)/\ys.length<sizeLine/\M σ3 (upd H5 D (.lst (ys ++ [y]))) else M σ3 H4)
def zoz {X:Cx} {elt tg iter:Expr} {ifs:List Expr} {sc fsc:Scope} {pos:Pos} {wi:TI} {g:TG} {tc:TT} {te:TE} {N N':List Str} {src:List (Option Nat)} (B:Blk N N' src fsc sc) (hi:PI X tg iter wi)
  (hg:∀ cl C s H fp pn,PG (blk X N' sc cl C s H fp pn) tg g) (ht:∀ cl C s H fp pn,PTs (blk X N' sc cl C s H fp pn) ifs tc) (he:∀ cl C s H fp pn,PE (blk X N' sc cl C s H fp pn) elt te)
  (hx:X.xe=(fun _ _=>False):=by rfl) (hc:X.calm=true:=by rfl) (hN:X.N=N:=by rfl) (hs:X.env.scope=fsc:=by rfl)
  (hf:∀ x,foldedSetIterable iter X.env x=pure x:=by intro _; rfl):PE X (.ListComp elt [⟨tg,iter,ifs,0⟩] sc pos) (zp0 wi src g tc te):=by
 intro pins s σ H Q I h; rw [eval_ListComp]
 have hfr:∀ y ∈ sc.names,y.2=.free->∃ c,X.env.cells.lookup y.1=some c:=fun y hy e=>I.ok.has y.1 (.inl (by have:=B.free y hy e; rw [<- hs] at this; exact this))
 refine wpAny_comprehension_free (use:=none) (cl:=zct X.env.cells sc.names []) rfl hf (zeC hfr) B.kind B.names ?_
 refine thn (hi pins s σ H _ I h) fun v s1 h1=>thn h1 fun itv s2 h2=>?_
 obtain ⟨it,fp,tn,J,H2,e,I2,T,st2,f2,q⟩:=h2; subst e
 obtain ⟨W,⟨m0,w0⟩,turn⟩:=q s2.heap.objs.size (I2.hok.fresh (yD _))
 refine YC (wpAny_newFunctionEnv B.cell (by intro y hy; simp at hy) (fun h1 hns hsb=>?_) B.kind)
 dsimp only at hns hsb ⊢
 have I3:Inv X pins σ (upd H2 s2.heap.objs.size (.lst [])) { s2 with heap:=s2.heap.push { cls:=.type "list",dict:=none,data:=.seq ([]:List Value).toArray } } :=
  I2.laid (t':=s2.toks) (fun b o e=>yC _ e) (yD _) ⟨yn _,[],0,.nil,yM _ rfl⟩
 have fb:∀ b ∈ fp,b<s2.heap.objs.size:=fun b hb=>by
  obtain ⟨o,e,_⟩:=T.obj 0 _ st2 b hb; exact yJ e
 have f3:∀ b ∈ fp,zdq X pins (upd H2 s2.heap.objs.size (.lst [])) b:=fun b hb=>by
  refine ⟨?_,(f2 b hb).2⟩; rw [zq (yW (fb b hb))]; exact (f2 b hb).1
 generalize hh3:s2.heap.push { cls:=.type "list",dict:=none,data:=.seq ([]:List Value).toArray }=h3 at hns hsb I3 ⊢
 have z3:s2.heap.objs.size<h3.objs.size:=by rw [<- hh3,Yl]; exact Nat.lt_succ_self _
 have k3:∀ b o,h3.get? b=some o->h1.get? b=some o:=fun b o e=>hsb.extBut b o (yW (yJ e)) (yC _ e)
 have I4:=znF (tk:=s2.toks+([]:List (Str × Value)).length) I3 B hN hs f3 (fun b hb=>Nat.lt_trans (fb b hb) z3) hns k3
 have st4:tn 0 h1:=T.keep 0 _ _ st2 fun b hb o e=>k3 b o (by rw [<- hh3]; exact yC _ e)
 have fok:∀ {H':Hp},(∀ b ∈ fp,H' b=none)->∀ b ∈ fp,zdq (blk X N' sc (zct X.env.cells sc.names []) h3.objs.size { s2 with heap:=h3 } (upd H2 s2.heap.objs.size (.lst [])) fp (X.pn ++ pins)) [] H' b:=fun hn b hb=>by
  obtain ⟨_,g1,g2,g3,g4,g5⟩:=f3 b hb
  refine ⟨hn b hb,yW (Nat.lt_trans (fb b hb) z3),fun z=>?_,.inl hb,fun x c e=>g4 x c (zcY sc.names [] hfr (fun _ _ z=>by simp at z) e),fun p hp=>g5 p (by rw [yd] at hp; exact hp)⟩
  rcases yQ.mp (I3.stkSub b z) with e | e
  ·exact g1 e
  ·exact g2 e
 have loop:∀ s4:Shared,s4={ s2 with heap:=h1,toks:=s2.toks+([]:List (Str × Value)).length } ->
   codeAny (model X.prog X.w) X.A (.compLoop (.ListComp elt [⟨tg,iter,ifs,0⟩] sc pos) 0 (.ref it) (.ref s2.heap.objs.size) (compEnvC sc (zct X.env.cells sc.names []) h3.objs.size X.env))
    (compPost (model X.prog X.w) X.A X.xe none (EP X pins σ Q) (.ref s2.heap.objs.size) h3.objs.size) s4:=by
  rintro s4 rfl
  refine zgn (fun k s'=>∃ i σ5 H5,Inv (blk X N' sc (zct X.env.cells sc.names []) h3.objs.size { s2 with heap:=h3 } (upd H2 s2.heap.objs.size (.lst [])) fp (X.pn ++ pins)) [] σ5 H5 s'/\tn i s'.heap/\(∀ b ∈ fp,H5 b=none)/\W i k σ5 H5) ?_ m0
   ⟨0,_,_,I4,st4,fun b hb=>(f3 b hb).1,w0⟩
  rintro k s5 ⟨i,σ5,H5,I5,st5,fr5,w5⟩
  rcases turn i k σ5 H5 w5 with ⟨stop,qd⟩ | ⟨go,M,hM,step⟩
  ·refine thn (T.done (blk X N' sc (zct X.env.cells sc.names []) h3.objs.size { s2 with heap:=h3 } (upd H2 s2.heap.objs.size (.lst [])) fp (X.pn ++ pins)) rfl rfl rfl hc i [] s5 σ5 H5 _ I5 (fok fr5) st5 stop) fun r s6 ⟨hr,I6⟩=>?_
   subst hr; obtain ⟨m6,hn6,_⟩:=id I6.loc
   refine ⟨m6,hn6,fun h' hsb'=>⟨.ref s2.heap.objs.size,H5,?_,rfl,qd⟩⟩
   exact I3.call' (s':={ s6 with heap:=h' }) (ch:=fp) I6.os (Un.same I6.base hsb' (yD _)) (HOk.same I6.hok hsb' I6.free) I6.bare fun b hb=>⟨(f3 b hb).2.2.2.1,(f3 b hb).2.1,(f3 b hb).2.2.2.2.1,(f3 b hb).2.2.2.2.2⟩
  ·refine thn (T.item (blk X N' sc (zct X.env.cells sc.names []) h3.objs.size { s2 with heap:=h3 } (upd H2 s2.heap.objs.size (.lst [])) fp (X.pn ++ pins)) rfl rfl rfl hc i [] s5 σ5 H5 _ I5 (fok fr5) st5 go) fun r s6 ⟨u,hr,h6⟩=>?_
   subst hr
   refine thn h6 fun _ s7 ⟨x,H7,I7,r7,y7,st7,fr7⟩=>?_
   have I7':=I7.pinned (fok fr7) (T.obj _ _ st7)
   have back:∀ {σ8:St} {H8:Hp} {s8:Shared},Inv (blk X N' sc (zct X.env.cells sc.names []) h3.objs.size { s2 with heap:=h3 } (upd H2 s2.heap.objs.size (.lst [])) fp (X.pn ++ pins)) ([] ++ zet fp s7.heap) σ8 H8 s8->tn (i+1) s8.heap/\∀ b ∈ fp,H8 b=none:=fun {σ8 H8 s8} I8=>by
    have pn8:∀ b ∈ fp,∀ o,s7.heap.get? b=some o->s8.heap.get? b=some o/\H8 b=none:=fun b hb o e=>by
     have q:=I8.pin (b,o) (yV _ (yV _ (zci hb e))); exact ⟨q.1,q.2.1⟩
    refine ⟨T.keep _ _ _ st7 fun b hb o e=>(pn8 b hb o e).1,fun b hb=>?_⟩
    obtain ⟨o,e,_⟩:=T.obj _ _ st7 b hb; exact (pn8 b hb o e).2
   have xf:∀ {α:Type} {t:Sem α} {Q1 Q2:α->Shared->Prop} {z:Shared},wpAny (model X.prog X.w) X.A t Q1 X.xe z->(∀ a z',Q1 a z'->Q2 a z')->wpAny (model X.prog X.w) X.A t Q2 (fun _ _=>False) z:=fun g1 g2=>by
    rw [hx] at g1; exact thn g1 g2
   refine xf (hg _ _ _ _ _ _ _ s7 σ5 H7 x u _ I7' r7 (step x H7 y7)) fun _ s8 ⟨σ8,H8,I8,q8⟩=>?_
   refine xf (ht _ _ _ _ _ _ _ s8 σ8 H8 _ I8 q8) fun b s9 ⟨H9,I9,q9⟩=>?_
   cases b with
   | false =>
    obtain ⟨m',hm,w'⟩:=hM σ8 H9 (by simpa using q9)
    obtain ⟨g1,g2⟩:=back I9; exact ⟨m',hm,i+1,σ8,H9,I9.unpinned,g1,g2,w'⟩
   | true =>
    rw [yI rfl] at q9 ⊢
    refine xf (he _ _ _ _ _ _ _ s9 σ8 H9 _ I9 q9) fun y s10 ⟨yv,H10,I10,r10,ys,hy,hz,w⟩=>?_
    obtain ⟨m',hm,w'⟩:=hM _ _ w
    refine xf (zdR (X:=(blk X N' sc (zct X.env.cells sc.names []) h3.objs.size { s2 with heap:=h3 } (upd H2 s2.heap.objs.size (.lst [])) fp (X.pn ++ pins))) _ s10 σ8 H10 (.ref s2.heap.objs.size) [yv] _ [y] (fun _ H11=>H11=upd H10 s2.heap.objs.size (.lst (ys ++ [yv]))) I10 rfl (.cons r10 .nil) ⟨_,ys,yv,rfl,rfl,hy,hz,rfl⟩) fun _ s11 ⟨_,H11,I11,_,e11⟩=>?_
    subst e11; obtain ⟨g1,g2⟩:=back I11; exact ⟨m',hm,i+1,σ8,_,I11.unpinned,g1,g2,w'⟩
 exact codeAny_compStart_list (loop _ rfl) (T.self _ 0 _ _ _ st4 (loop _ rfl))
def zgm {J:It} {n:Nat} {g:TG} {tc:TT} {te:TE} {Q:VK} {D:Addr} {σ0:St} {H0:Hp} (Pv:Nat->St->Hp->Prop) (h0:Pv 0 σ0 H0)
  (hs:∀ i σ H,i<n->Pv i σ H->J.go i H/\∀ x H',J.yld i H x H'->g x σ H' fun σ3 H3=>tc σ3 H3 fun b H4=>if b=true then te σ3 H4 fun y H5=>∃ ys,H5 D=some (.lst ys)/\ys.length<sizeLine/\Pv (i+1) σ3 (upd H5 D (.lst (ys ++ [y]))) else Pv (i+1) σ3 H4)
  (hd:∀ σ H,Pv n σ H->J.stop n H/\Q (.ref D) H) :
  ∃ W:Nat->Nat->St->Hp->Prop,(∃ m,W 0 m σ0 H0)/\∀ i m σ2 H2,W i m σ2 H2 ->
   (J.stop i H2/\Q (.ref D) H2)\/(J.go i H2/\∃ M:St->Hp->Prop,(∀ σ' H',M σ' H'->∃ m',m'<m/\W (i+1) m' σ' H')/\∀ x H',J.yld i H2 x H'->g x σ2 H' fun σ3 H3=>tc σ3 H3 fun b H4 =>
    if b=true then te σ3 H4 fun y H5=>∃ ys,H5 D=some (.lst ys)/\ys.length<sizeLine/\M σ3 (upd H5 D (.lst (ys ++ [y]))) else M σ3 H4):=by
 refine ⟨fun i m σ H=>m=n-i/\i<=n/\Pv i σ H,⟨n,by simp,yn _,h0⟩,?_⟩
 rintro i m σ2 H2 ⟨rfl,hi,p⟩
 by_cases hlt:i<n
 ·obtain ⟨go,stp⟩:=hs i σ2 H2 hlt p
  exact .inr ⟨go,Pv (i+1),fun σ' H' p'=>⟨n-(i+1),by omega,rfl,hlt,p'⟩,stp⟩
 ·have e:i=n:=by omega
  subst e; exact .inl (hd σ2 H2 p)
end L2
namespace L2
open PySem
def XAt (a C:Addr) (dd:Option Addr):Heap->Prop:=fun h=>∃ vs sl,h.get? a=some ⟨.ref C,dd,.fields vs,sl⟩
end L2
namespace PL
open PySem L2
inductive D where
 | non | bl (b:Bool) | int (i:Int) | str (l:List Nat) | ty (n:String) | rng (lo hi:Int) | cls (C:Addr) | adr (b:Addr)
 | tup (l:List D) | lst (l:List D) | dic (l:List (D × D)) | dit (l:List (D × D)) | obj (C:Addr) (fs:List (Str × D)) | exc (C:Addr) (fs:List (Str × D))
inductive OD where
 | lst (l:List D) | dic (l:List (D × D)) | dit (l:List (D × D)) | obj (C:Addr) (fs:List (Str × D))
def OD.toD:OD->D
 | .lst l=>.lst l
 | .dic l=>.dic l
 | .dit l=>.dit l
 | .obj C fs=>.obj C fs
theorem paired_of {α β:Type} {R:α->β->Prop}:∀ {l:List α} {m:List β},l.length=m.length->(∀ (i:Nat) a b,l[i]?=some a->m[i]?=some b->R a b)->Paired R l m
 | [],[],_,_=>.nil
 | a :: l,b :: m,h,r=>.cons (r 0 a b rfl rfl) (paired_of (by simpa using h) fun i x y hx hy=>r (i+1) x y (by simpa using hx) (by simpa using hy))
 | [],_ :: _,h,_=>by simp at h
 | _ :: _,[],h,_=>by simp at h
theorem paired_get {α β:Type} {R:α->β->Prop}:∀ {l:List α} {m:List β} (i:Nat) {a:α} {b:β},Paired R l m->l[i]?=some a->m[i]?=some b->R a b
 | _,_,_,_,_,.nil,h,_=>by simp at h
 | _,_,0,_,_,.cons r _,h1,h2=>by simp at h1 h2; subst h1; subst h2; exact r
 | _,_,i+1,_,_,.cons _ t,h1,h2=>paired_get i t (by simpa using h1) (by simpa using h2)
def zj {α β:Type} {R:α->β->Prop} {l:List α} {m:List β} (h:Paired R l m):l.length=m.length:=Paired.length h
def zab {α β:Type} {R:α->β->Prop} {l:List α} {m:List β} (h:Paired R l m) {i:Nat} {b:β} (e:m[i]?=some b):∃ a,l[i]?=some a/\R a b:=by
 have hl:=zj h
 have hi:i<l.length:=by rw [hl]; exact (yE.mp e).1
 exact ⟨l[i],yB hi,paired_get i h (yB hi) e⟩
def zbN {α β:Type} {R:α->β->Prop} {l:List α} {m:List β} (h:Paired R l m) {i:Nat} {a:α} (e:l[i]?=some a):∃ b,m[i]?=some b/\R a b:=by
 have hl:=zj h
 have hi:i<m.length:=by rw [<- hl]; exact (yE.mp e).1
 exact ⟨m[i],yB hi,paired_get i h e (yB hi)⟩
theorem zaL {α β:Type} {R:α->β->Prop}:∀ {l l':List α} {m m':List β},Paired R l m->Paired R l' m'->Paired R (l ++ l') (m ++ m')
 | _,_,_,_,.nil,h=>h
 | _,_,_,_,.cons r t,h=>.cons r (zaL t h)
theorem zdM {α β:Type} {R:α->β->Prop}:∀ {l:List α} {m:List β} (n:Nat),Paired R l m->Paired R (l.take n) (m.take n)
 | _,_,0,_=>.nil
 | _,_,_+1,.nil=>.nil
 | _,_,n+1,.cons r t=>.cons r (zdM n t)
theorem zdN {α β:Type} {R:α->β->Prop}:∀ {l:List α} {m:List β} (n:Nat),Paired R l m->Paired R (l.drop n) (m.drop n)
 | _,_,0,h=>h
 | _,_,_+1,.nil=>.nil
 | _,_,n+1,.cons _ t=>zdN n t
def keyD:Key->D
 | .inl i=>.int i
 | .inr x=>.str x.cps.toList
inductive Den (K:W.Frag) (H:Hp):V->D->Prop where
 | non:Den K H .non .non
 | bl (b:Bool):Den K H (.bl b) (.bl b)
 | int (i:Int):Den K H (.int i) (.int i)
 | str (l:List Nat):Den K H (.str (st l)) (.str l)
 | ty (n:String):Den K H (.ty n) (.ty n)
 | rng {a:Addr} {lo hi:Int} (h:Rd H a (.rng lo hi)):Den K H (.ref a) (.rng lo hi)
 | cls (C:Addr):Den K H (.ref C) (.cls C)
 | adr (b:Addr):Den K H (.ref b) (.adr b)
 | tup {a:Addr} {vs:List V} {ds:List D} (h:H a=some (.tup vs)) (l:vs.length=ds.length) (r:∀ (i:Nat) v d,vs[i]?=some v->ds[i]?=some d->Den K H v d):Den K H (.ref a) (.tup ds)
 | lst {a:Addr} {vs:List V} {ds:List D} (h:SqL K H a vs) (l:vs.length=ds.length) (r:∀ (i:Nat) v d,vs[i]?=some v->ds[i]?=some d->Den K H v d):Den K H (.ref a) (.lst ds)
 | dicK {a:Addr} {kvs:List (Key × V)} {ds:List (D × D)} (h:Rd H a (.dK kvs)) (l:kvs.length=ds.length) (r:∀ (i:Nat) p q,kvs[i]?=some p->ds[i]?=some q->q.1=keyD p.1) (r2:∀ (i:Nat) p q,kvs[i]?=some p->ds[i]?=some q->Den K H p.2 q.2):Den K H (.ref a) (.dic ds)
 | dicT {a:Addr} {kvs:List (List Key × V)} {ep:Nat} {ds:List (D × D)} (h:H a=some (.dE kvs ep)) (l:kvs.length=ds.length) (r:∀ (i:Nat) p q,kvs[i]?=some p->ds[i]?=some q->q.1=.tup (p.1.map keyD)) (r2:∀ (i:Nat) p q,kvs[i]?=some p->ds[i]?=some q->Den K H p.2 q.2):Den K H (.ref a) (.dit ds)
 | obj {a C dx:Addr} {fs:List (Str × V)} {ds:List (Str × D)} (h:H a=some (.ins C dx fs)) (l:fs.length=ds.length) (r:∀ (i:Nat) p q,fs[i]?=some p->ds[i]?=some q->q.1=p.1) (r2:∀ (i:Nat) p q,fs[i]?=some p->ds[i]?=some q->Den K H p.2 q.2):Den K H (.ref a) (.obj C ds)
 | excN {a C:Addr} (h:H a=some (.ext (XAt a C none))):Den K H (.ref a) (.exc C [])
 | exc {a C dx:Addr} {fs:List (Str × V)} {ds:List (Str × D)} (h:H a=some (.ext (XAt a C (some dx)))) (h2:H dx=some (.xd fs)) (l:fs.length=ds.length) (r:∀ (i:Nat) p q,fs[i]?=some p->ds[i]?=some q->q.1=p.1) (r2:∀ (i:Nat) p q,fs[i]?=some p->ds[i]?=some q->Den K H p.2 q.2):Den K H (.ref a) (.exc C ds)
abbrev zrI (K:W.Frag) (H:Hp):List (Key × V)->List (D × D)->Prop:=Paired fun p q=>q.1=keyD p.1/\Den K H p.2 q.2
abbrev zi0 (K:W.Frag) (H:Hp):List (List Key × V)->List (D × D)->Prop:=Paired fun p q=>q.1=.tup (p.1.map keyD)/\Den K H p.2 q.2
abbrev zk0 (K:W.Frag) (H:Hp):List (Str × V)->List (Str × D)->Prop:=Paired fun p q=>q.1=p.1/\Den K H p.2 q.2
abbrev zaV (K:W.Frag) (H:Hp):List V->List D->Prop:=Paired (Den K H)
section
variable {H':Hp} {v:V} {a:Addr} {vs:List V} {ds:List D}
def zda {u:HO} (e:zU H H') (h:Rd H a u):Rd H' a u:=by
 rcases h with h | ⟨o,h⟩
 ·exact .inl (e _ _ h)
 ·exact .inr ⟨o,e _ _ h⟩
def zK (e:zU H H') (h:SqT K H a vs):SqT K H' a vs:=by
 rcases h with h | h
 ·exact .inl (zda e h)
 ·exact .inr h
def zL (e:zU H H') (h:SqL K H a vs):SqL K H' a vs:=by
 rcases h with h | h
 ·exact .inl (zda e h)
 ·exact .inr h
def Den.mono {d:D} (h:Den K H v d) (e:zU H H'):Den K H' v d:=by
 induction h with
 | non=>exact .non
 | bl b=>exact .bl b
 | int i=>exact .int i
 | str l=>exact .str l
 | ty n=>exact .ty n
 | rng h=>exact .rng (zda e h)
 | cls C=>exact .cls C
 | adr C=>exact .adr C
 | tup h l r ih=>exact .tup (e _ _ h) l ih
 | lst h l r ih=>exact .lst (zL e h) l ih
 | dicK h l r r2 ih=>exact .dicK (zda e h) l r ih
 | dicT h l r r2 ih=>exact .dicT (e _ _ h) l r ih
 | obj h l r r2 ih=>exact .obj (e _ _ h) l r ih
 | excN h=>exact .excN (e _ _ h)
 | exc h h2 l r r2 ih=>exact .exc (e _ _ h) (e _ _ h2) l r ih
def zaV.mono (h:zaV K H vs ds) (e:zU H H'):zaV K H' vs ds:=Paired.mapP h fun _ _ q=>q.mono e
def zrI.mono {kvs:List (Key × V)} {es:List (D × D)} (h:zrI K H kvs es) (e:zU H H'):zrI K H' kvs es:=Paired.mapP h fun _ _ q=>⟨q.1,q.2.mono e⟩
def zi0.mono {kvs:List (List Key × V)} {es:List (D × D)} (h:zi0 K H kvs es) (e:zU H H'):zi0 K H' kvs es:=Paired.mapP h fun _ _ q=>⟨q.1,q.2.mono e⟩
def zk0.mono {fs:List (Str × V)} {es:List (Str × D)} (h:zk0 K H fs es) (e:zU H H'):zk0 K H' fs es:=Paired.mapP h fun _ _ q=>⟨q.1,q.2.mono e⟩
def Den.mkO {C dx:Addr} {fs:List (Str × V)} {es:List (Str × D)} (h:H a=some (.ins C dx fs)) (r:zk0 K H fs es):Den K H (.ref a) (.obj C es):=.obj h (zj r) (fun i _ _ h1 h2=>(paired_get i r h1 h2).1) fun i _ _ h1 h2=>(paired_get i r h1 h2).2
def Den.objI {C:Addr} {es:List (Str × D)} (h:Den K H v (.obj C es)):∃ a dx fs,v=.ref a/\H a=some (.ins C dx fs)/\zk0 K H fs es:=by
 cases h with
 | obj h l r r2=>exact ⟨_,_,_,rfl,h,paired_of l fun i p q h1 h2=>⟨r i p q h1 h2,r2 i p q h1 h2⟩⟩
def znG (K:W.Frag) (H:Hp) (dd:Option Addr) (es:List (Str × D)):Prop:=(dd=none/\es=[])\/∃ dx fs,dd=some dx/\H dx=some (.xd fs)/\zk0 K H fs es
def znG.mono {dd:Option Addr} {es:List (Str × D)} (h:znG K H dd es) (e:zU H H'):znG K H' dd es:=by
 rcases h with h | ⟨dx,fs,h1,h2,h3⟩
 ·exact .inl h
 ·exact .inr ⟨dx,fs,h1,e _ _ h2,h3.mono e⟩
def Den.mkX {C:Addr} {dd:Option Addr} {es:List (Str × D)} (h:H a=some (.ext (XAt a C dd))) (x:znG K H dd es):Den K H (.ref a) (.exc C es):=by
 rcases x with ⟨rfl,rfl⟩ | ⟨dx,fs,rfl,h2,r⟩
 ·exact .excN h
 ·exact .exc h h2 (zj r) (fun i _ _ h1 h2=>(paired_get i r h1 h2).1) fun i _ _ h1 h2=>(paired_get i r h1 h2).2
def Den.excI {C:Addr} {es:List (Str × D)} (h:Den K H v (.exc C es)):∃ a dd,v=.ref a/\H a=some (.ext (XAt a C dd))/\znG K H dd es:=by
 cases h with
 | excN h=>exact ⟨_,_,rfl,h,.inl ⟨rfl,rfl⟩⟩
 | exc h h2 l r r2=>exact ⟨_,_,rfl,h,.inr ⟨_,_,rfl,h2,paired_of l fun i p q h1 h2=>⟨r i p q h1 h2,r2 i p q h1 h2⟩⟩⟩
def Den.adrI {b:Addr} (h:Den K H v (.adr b)):v=.ref b:=by cases h; rfl
def Den.mkDK {kvs:List (Key × V)} {es:List (D × D)} (h:Rd H a (.dK kvs)) (r:zrI K H kvs es):Den K H (.ref a) (.dic es):=.dicK h (zj r) (fun i _ _ h1 h2=>(paired_get i r h1 h2).1) fun i _ _ h1 h2=>(paired_get i r h1 h2).2
def Den.mkDT {kvs:List (List Key × V)} {ep:Nat} {es:List (D × D)} (h:H a=some (.dE kvs ep)) (r:zi0 K H kvs es):Den K H (.ref a) (.dit es):=.dicT h (zj r) (fun i _ _ h1 h2=>(paired_get i r h1 h2).1) fun i _ _ h1 h2=>(paired_get i r h1 h2).2
def Den.ditI {es:List (D × D)} (h:Den K H v (.dit es)):∃ a kvs ep,v=.ref a/\H a=some (.dE kvs ep)/\zi0 K H kvs es:=by
 cases h with
 | dicT h l r r2=>exact ⟨_,_,_,rfl,h,paired_of l fun i p q h1 h2=>⟨r i p q h1 h2,r2 i p q h1 h2⟩⟩
def Den.mkT (h:H a=some (.tup vs)) (r:zaV K H vs ds):Den K H (.ref a) (.tup ds):=.tup h (zj r) fun i _ _ h1 h2=>paired_get i r h1 h2
def Den.mkL (h:SqL K H a vs) (r:zaV K H vs ds):Den K H (.ref a) (.lst ds):=.lst h (zj r) fun i _ _ h1 h2=>paired_get i r h1 h2
def Den.tupJ (h:Den K H v (.tup ds)):∃ a vs,v=.ref a/\H a=some (.tup vs)/\zaV K H vs ds:=by
 cases h with
 | tup h l r=>exact ⟨_,_,rfl,h,paired_of l r⟩
def Den.tupI (h:Den K H v (.tup ds)):∃ a vs,v=.ref a/\SqT K H a vs/\zaV K H vs ds:=by
 cases h with
 | tup h l r=>exact ⟨_,_,rfl,SqT.of h,paired_of l r⟩
def Den.lstI (h:Den K H v (.lst ds)):∃ a vs,v=.ref a/\SqL K H a vs/\zaV K H vs ds:=by
 cases h with
 | lst h l r=>exact ⟨_,_,rfl,h,paired_of l r⟩
def Den.intI {i:Int} (h:Den K H v (.int i)):v=.int i:=by cases h; rfl
def Den.blI {b:Bool} (h:Den K H v (.bl b)):v=.bl b:=by cases h; rfl
def Den.strI {l:List Nat} (h:Den K H v (.str l)):v=.str (st l):=by cases h; rfl
def Den.nonI (h:Den K H v .non):v=.non:=by cases h; rfl
def Den.non_iff {d:D} (h:Den K H v d):v=.non↔d=.non:=by cases h <;> simp
end
inductive Slot where
 | emp | val (d:D) | own (o:OD)
 | bk (d:D->D) (b:Addr) (xs:OD)
abbrev Sts:=List Slot
structure Wd where
 H₀:Hp
 Hi₀:Hp
 F:List Addr
def zbC (K:W.Frag) (Hi H:Hp) (a:Addr):OD->Prop
 | .lst ds=>∃ vs,H a=some (.lst vs)/\zaV K Hi vs ds
 | .dic ds=>∃ kvs,H a=some (.dK kvs)/\zrI K Hi kvs ds
 | .dit ds=>∃ kvs ep,H a=some (.dE kvs ep)/\zi0 K Hi kvs ds
 | .obj C ds=>∃ dx fs,H a=some (.ins C dx fs)/\zk0 K Hi fs ds
def zn6:Option (Option V)->Option Addr
 | some (some (.ref a))=>some a
 | _=>none
def adr (n:Nat) (W:Wd) (σ:St) (i:Nat):Option Addr:=if i<n then zn6 σ[i]? else W.F[i-n]?
structure Free (n:Nat) (W:Wd) (Γ:Sts) (σ:St) (a:Addr):Prop where
 own:∀ (j:Nat) o',Γ[j]?=some (.own o')->adr n W σ j≠some a
 bk:∀ (j:Nat) d xs,Γ[j]?≠some (.bk d a xs)
def Hol (K:W.Frag) (d:D->D):Prop:=∀ (b:Addr) (Hi:Hp) (v:V) (o:OD),Den K Hi (.ref b) o.toD->Den K Hi v (d (.adr b))->Den K Hi v (d o.toD)
structure BkAt (K:W.Frag) (n:Nat) (W:Wd) (Hi:Hp) (Γ:Sts) (σ:St) (H:Hp) (i:Nat) (d:D->D) (b:Addr) (xs:OD):Prop where
 val:∃ v,σ[i]?=some (some v)/\Den K Hi v (d (.adr b))
 hol:Hol K d
 hi:Hi b=none
 h0:b ∉ W.F->W.H₀ b=none
 at_:zbC K Hi H b xs
 one:∀ (j:Nat) d' xs',Γ[j]?=some (.bk d' b xs')->j=i
 ne:∀ (j:Nat) o',Γ[j]?=some (.own o')->adr n W σ j≠some b
structure Fz (Hi H:Hp):Prop where
 sub:zU Hi H
 tups:∀ a xs,H a=some (.tup xs)->Hi a=some (.tup xs)
structure Good (K:W.Frag) (n:Nat) (W:Wd) (Hi:Hp) (Γ:Sts) (σ:St) (H:Hp):Prop where
 len:σ.length=n
 fz:Fz Hi H
 keep:∀ a o,W.H₀ a=some o->a ∉ W.F->H a=some o
 there:∀ a o,W.H₀ a=some o->∃ o',H a=some o'
 fro:∀ a o,W.H₀ a=some o->Hi a=W.Hi₀ a
 val:∀ (i:Nat) d,Γ[i]?=some (.val d)->∃ v,σ[i]?=some (some v)/\Den K Hi v d
 own:∀ (i:Nat) o,Γ[i]?=some (.own o)->∃ a,adr n W σ i=some a/\Hi a=none/\(i<n->W.H₀ a=none)/\zbC K Hi H a o
 apart:∀ (i j:Nat) o o' a,Γ[i]?=some (.own o)->Γ[j]?=some (.own o')->adr n W σ i=some a->adr n W σ j=some a->i=j
 bk:∀ (i:Nat) d b xs,Γ[i]?=some (.bk d b xs)->BkAt K n W Hi Γ σ H i d b xs
def Good.sub {K:W.Frag} {n:Nat} {W:Wd} {Hi:Hp} {Γ:Sts} {σ:St} {H:Hp} (g:Good K n W Hi Γ σ H):zU Hi H:=g.fz.sub
structure Ext (Hi H Hi' H':Hp):Prop where
 hi:zU Hi Hi'
 h:zU H H'
 fz:Fz Hi' H'
 fro:∀ a o,H a=some o->Hi' a=Hi a
def Ext.refl {Hi H:Hp} (s:Fz Hi H):Ext Hi H Hi H:=⟨zU.refl _,zU.refl _,s,fun _ _ _=>rfl⟩
def Ext.trans {A B A1 B1 A2 B2:Hp} (x:Ext A B A1 B1) (y:Ext A1 B1 A2 B2):Ext A B A2 B2 :=
 ⟨x.hi.trans y.hi,x.h.trans y.h,y.fz,fun a o e=>(y.fro a o (x.h a o e)).trans (x.fro a o e)⟩
def zH {H:Hp} {p:Addr} (h:H p=none) (o:HO):zU H (upd H p o):=fun b u q=>by rw [zq (zw q h)]; exact q
def Ext.new {Hi H:Hp} {p:Addr} (s:Fz Hi H) (h:H p=none) (o:HO):Ext Hi H (upd Hi p o) (upd H p o):=by
 have hi:Hi p=none:=s.sub.free h
 refine ⟨zH hi o,zH h o,⟨fun b u q=>?_,fun b xs q=>?_⟩,fun b u q=>?_⟩
 ·by_cases e:b=p
  ·subst e; rw [zn] at q ⊢; exact q
  ·rw [zq e] at q ⊢; exact s.sub b u q
 ·by_cases e:b=p
  ·subst e; rw [zn] at q ⊢; exact q
  ·rw [zq e] at q ⊢; exact s.tups b xs q
 ·exact zq (zw q h)
def Ext.newO {Hi H:Hp} {p:Addr} (s:Fz Hi H) (h:H p=none) (o:HO) (ho:∀ xs,o≠.tup xs):Ext Hi H Hi (upd H p o) :=
 ⟨zU.refl _,zH h o,⟨s.sub.trans (zH h o),fun b xs q=>by
  by_cases e:b=p
  ·subst e; rw [zn] at q; exact yP (Option.some.inj q) (ho xs)
  ·rw [zq e] at q; exact s.tups b xs q⟩,fun _ _ _=>rfl⟩
section
variable {n:Nat} {W:Wd} {Hi Hi' H':Hp} {Γ:Sts} {a:Addr} {o:OD}
def zbC.there (h:zbC K Hi H a o):∃ u,H a=some u:=by
 cases o with
 | lst ds=>obtain ⟨vs,e,_⟩:=h; exact ⟨_,e⟩
 | dic ds=>obtain ⟨kvs,e,_⟩:=h; exact ⟨_,e⟩
 | dit ds=>obtain ⟨kvs,ep,e,_⟩:=h; exact ⟨_,e⟩
 | obj C ds=>obtain ⟨dx,fs,e,_⟩:=h; exact ⟨_,e⟩
def zbC.mono (h:zbC K Hi H a o) (hi:zU Hi Hi') (e:∀ u,H a=some u->H' a=some u):zbC K Hi' H' a o:=by
 cases o with
 | lst ds=>obtain ⟨vs,q,r⟩:=h; exact ⟨vs,e _ q,r.mono hi⟩
 | dic ds=>obtain ⟨kvs,q,r⟩:=h; exact ⟨kvs,e _ q,r.mono hi⟩
 | dit ds=>obtain ⟨kvs,ep,q,r⟩:=h; exact ⟨kvs,ep,e _ q,r.mono hi⟩
 | obj C ds=>obtain ⟨dx,fs,q,r⟩:=h; exact ⟨dx,fs,e _ q,r.mono hi⟩
def zbC.notTup (h:zbC K Hi H a o):∀ xs,H a≠some (.tup xs):=fun xs z=>by
 cases o with
 | lst ds=>obtain ⟨vs,e,_⟩:=h; rw [e] at z; cases z
 | dic ds=>obtain ⟨kvs,e,_⟩:=h; rw [e] at z; cases z
 | dit ds=>obtain ⟨kvs,ep,e,_⟩:=h; rw [e] at z; cases z
 | obj C ds=>obtain ⟨dx,fs,e,_⟩:=h; rw [e] at z; cases z
def Good.ext (g:Good K n W Hi Γ σ H) (e:Ext Hi H Hi' H'):Good K n W Hi' Γ σ H' where
 len:=g.len
 fz:=e.fz
 keep:=fun a o h n=>e.h a o (g.keep a o h n)
 there:=fun a o h=>by
  obtain ⟨o',q⟩:=g.there a o h; exact ⟨o',e.h a o' q⟩
 fro:=fun a o h=>by
  obtain ⟨o',q⟩:=g.there a o h; exact (e.fro a o' q).trans (g.fro a o h)
 val:=fun i d h=>by
  obtain ⟨v,h1,h2⟩:=g.val i d h; exact ⟨v,h1,h2.mono e.hi⟩
 own:=fun i o h=>by
  obtain ⟨a,h1,h2,h3,h4⟩:=g.own i o h; obtain ⟨u,hu⟩:=h4.there
  exact ⟨a,h1,(e.fro a u hu).trans h2,h3,h4.mono e.hi fun u q=>e.h a u q⟩
 apart:=g.apart
 bk:=fun i d b xs h=>by
  obtain ⟨⟨v,h0,h1⟩,h2,h3,h4,h5,h6,h7⟩:=g.bk i d b xs h
  obtain ⟨u,hu⟩:=h5.there
  exact ⟨⟨v,h0,h1.mono e.hi⟩,h2,(e.fro b u hu).trans h3,h4,h5.mono e.hi fun u q=>e.h b u q,h6,h7⟩
def Good.weak (g:Good K n W Hi Γ σ H) {Γ':Sts} (h:∀ (i:Nat) s,Γ'[i]?=some s->s=.emp\/Γ[i]?=some s):Good K n W Hi Γ' σ H where
 len:=g.len
 fz:=g.fz
 keep:=g.keep
 there:=g.there
 fro:=g.fro
 val:=fun i d e=>by
  rcases h i _ e with z | z
  ·cases z
  ·exact g.val i d z
 own:=fun i d e=>by
  rcases h i _ e with z | z
  ·cases z
  ·exact g.own i d z
 apart:=fun i j o o' a e1 e2=>by
  rcases h i _ e1 with z | z
  ·cases z
  ·rcases h j _ e2 with y | y
   ·cases y
   ·exact g.apart i j o o' a z y
 bk:=fun i d b xs e=>by
  rcases h i _ e with z | z
  ·cases z
  ·obtain ⟨h0,h1,h2,h3,h4,h5,h6⟩:=g.bk i d b xs z
   refine ⟨h0,h1,h2,h3,h4,fun j d' xs' q=>?_,fun j o' q=>?_⟩
   ·rcases h j _ q with y | y
    ·cases y
    ·exact h5 j _ _ y
   ·rcases h j _ q with y | y
    ·cases y
    ·exact h6 j o' y
def zes {o:Option (Option V)} (h:zn6 o=some a):o=some (some (.ref a)):=by
 unfold zn6 at h; split at h
 ·cases h; rfl
 ·cases h
def Good.set (g:Good K n W Hi Γ σ H) {i:Nat} {v:V} {d:D} (hi:i<n) (r:Den K Hi v d):Good K n W Hi (Γ.set i (.val d)) (σ.set i (some v)) H:=by
 have ad:∀ j,j≠i->adr n W (σ.set i (some v)) j=adr n W σ j:=fun j hj=>by
  unfold adr
  rw [yZ (fun z=>hj z.symm)]
 have inv:∀ (j:Nat) (s:Slot),(Γ.set i (.val d))[j]?=some s->(j=i/\s=.val d)\/(j≠i/\Γ[j]?=some s):=fun j s e=>by
  by_cases hj:j=i
  ·subst hj
   refine .inl ⟨rfl,?_⟩; rw [List.getElem?_set] at e; simp only [if_true] at e; split at e
   ·exact (Option.some.inj e).symm
   ·cases e
  ·rw [yZ (fun z=>hj z.symm)] at e
   exact .inr ⟨hj,e⟩
 refine ⟨by rw [List.length_set]; exact g.len,g.fz,g.keep,g.there,g.fro,fun j d' e=>?_,fun j o e=>?_,fun j k o o' a e1 e2 h1 h2=>?_,fun j d' b xs e=>?_⟩
 ·rcases inv j _ e with ⟨rfl,z⟩ | ⟨hj,z⟩
  ·cases z
   exact ⟨v,by rw [yr (by rw [g.len]; exact hi)],r⟩
  ·obtain ⟨w,h1,h2⟩:=g.val j d' z
   exact ⟨w,by rw [yZ (fun z=>hj z.symm)]; exact h1,h2⟩
 ·rcases inv j _ e with ⟨rfl,z⟩ | ⟨hj,z⟩
  ·cases z
  ·obtain ⟨a,h1,h2⟩:=g.own j o z
   exact ⟨a,by rw [ad j hj]; exact h1,h2⟩
 ·rcases inv j _ e1 with ⟨rfl,z⟩ | ⟨hj,z⟩
  ·cases z
  ·rcases inv k _ e2 with ⟨rfl,y⟩ | ⟨hk,y⟩
   ·cases y
   ·exact g.apart j k o o' a z y (by rw [<- ad j hj]; exact h1) (by rw [<- ad k hk]; exact h2)
 ·rcases inv j _ e with ⟨rfl,z⟩ | ⟨hj,z⟩
  ·cases z
  ·obtain ⟨⟨w,w1,w2⟩,h1,h2,h3,h4,h5,h6⟩:=g.bk j d' b xs z
   refine ⟨⟨w,by rw [yZ (fun z=>hj z.symm)]; exact w1,w2⟩,h1,h2,h3,h4,fun k d' xs' q=>?_,fun k o' q=>?_⟩
   ·rcases inv k _ q with ⟨rfl,y⟩ | ⟨hk,y⟩
    ·cases y
    ·exact h5 k _ _ y
   ·rcases inv k _ q with ⟨rfl,y⟩ | ⟨hk,y⟩
    ·cases y
    ·rw [ad k hk]
     exact h6 k o' y
def Good.setO (g:Good K n W Hi Γ σ H) {i:Nat} (hi:i<n) (h0:Hi a=none) (h1:W.H₀ a=none) (fr:Free n W Γ σ a) (h3:zbC K Hi H a o):Good K n W Hi (Γ.set i (.own o)) (σ.set i (some (.ref a))) H:=by
 have ad:∀ j,j≠i->adr n W (σ.set i (some (.ref a))) j=adr n W σ j:=fun j hj=>by
  unfold adr
  rw [yZ (fun z=>hj z.symm)]
 have ai:adr n W (σ.set i (some (.ref a))) i=some a:=by
  unfold adr
  rw [yI hi,yr (by rw [g.len]; exact hi)]
  rfl
 have inv:∀ (j:Nat) (s:Slot),(Γ.set i (.own o))[j]?=some s->(j=i/\s=.own o)\/(j≠i/\Γ[j]?=some s):=fun j s e=>by
  by_cases hj:j=i
  ·subst hj
   refine .inl ⟨rfl,?_⟩; rw [List.getElem?_set] at e; simp only [if_true] at e; split at e
   ·exact (Option.some.inj e).symm
   ·cases e
  ·rw [yZ (fun z=>hj z.symm)] at e
   exact .inr ⟨hj,e⟩
 refine ⟨by rw [List.length_set]; exact g.len,g.fz,g.keep,g.there,g.fro,fun j d' e=>?_,fun j o e=>?_,fun j k o o' b e1 e2 q1 q2=>?_,fun j d' b xs e=>?_⟩
 ·rcases inv j _ e with ⟨rfl,z⟩ | ⟨hj,z⟩
  ·cases z
  ·obtain ⟨w,h1,h2⟩:=g.val j d' z
   exact ⟨w,by rw [yZ (fun z=>hj z.symm)]; exact h1,h2⟩
 ·rcases inv j _ e with ⟨rfl,z⟩ | ⟨hj,z⟩
  ·cases z
   exact ⟨a,ai,h0,fun _=>h1,h3⟩
  ·obtain ⟨b,q1,q2⟩:=g.own j o z
   exact ⟨b,by rw [ad j hj]; exact q1,q2⟩
 ·rcases inv j _ e1 with ⟨rfl,z⟩ | ⟨hj,z⟩
  ·rcases inv k _ e2 with ⟨rfl,y⟩ | ⟨hk,y⟩
   ·rfl
   ·rw [ai] at q1
    cases q1; rw [ad k hk] at q2; exact yP q2 (fr.own k _ y)
  ·rcases inv k _ e2 with ⟨rfl,y⟩ | ⟨hk,y⟩
   ·rw [ai] at q2
    cases q2; rw [ad j hj] at q1; exact yP q1 (fr.own j _ z)
   ·exact g.apart j k o o' b z y (by rw [<- ad j hj]; exact q1) (by rw [<- ad k hk]; exact q2)
 ·rcases inv j _ e with ⟨rfl,z⟩ | ⟨hj,z⟩
  ·cases z
  ·obtain ⟨⟨w,w1,w2⟩,h1,h2,h3,h4,h5,h6⟩:=g.bk j d' b xs z
   refine ⟨⟨w,by rw [yZ (fun z=>hj z.symm)]; exact w1,w2⟩,h1,h2,h3,h4,fun k d' xs' q=>?_,fun k o' q=>?_⟩
   ·rcases inv k _ q with ⟨rfl,y⟩ | ⟨hk,y⟩
    ·cases y
    ·exact h5 k _ _ y
   ·rcases inv k _ q with ⟨rfl,y⟩ | ⟨hk,y⟩
    ·rw [ai]
     intro w; cases w; exact fr.bk j _ _ z
    ·rw [ad k hk]
     exact h6 k o' y
def Good.put (g:Good K n W Hi Γ σ H) {i:Nat} {o0:OD} {u:HO} (e0:Γ[i]?=some (.own o0)) (ha:adr n W σ i=some a) (hn:zbC K Hi (upd H a u) a o):Good K n W Hi (Γ.set i (.own o)) σ (upd H a u):=by
 obtain ⟨a',h1,h2,h3,h4⟩:=g.own i _ e0; rw [ha] at h1; cases h1
 have hF:i<n\/a ∈ W.F:=by
  by_cases hi:i<n
  ·exact .inl hi
  ·unfold adr at ha
   rw [yH hi] at ha; exact .inr (yL ha)
 have inv:∀ (j:Nat) (s:Slot),(Γ.set i (.own o))[j]?=some s->(j=i/\s=.own o)\/(j≠i/\Γ[j]?=some s):=fun j s e=>by
  by_cases hj:j=i
  ·subst hj
   refine .inl ⟨rfl,?_⟩; rw [List.getElem?_set] at e; simp only [if_true] at e; split at e
   ·exact (Option.some.inj e).symm
   ·cases e
  ·rw [yZ (fun z=>hj z.symm)] at e
   exact .inr ⟨hj,e⟩
 refine ⟨g.len,⟨fun b w q=>?_,fun b xs q=>?_⟩,fun b w q nf=>?_,fun b w q=>?_,g.fro,fun j d' e=>?_,fun j o' e=>?_,fun j k o1 o2 b e1 e2 q1 q2=>?_,fun j d' b xs e=>?_⟩
 ·rw [zq (fun z=>by rw [z,h2] at q; cases q)]
  exact g.sub b w q
 ·by_cases hb:b=a
  ·subst hb
   exact yP q (hn.notTup xs)
  ·rw [zq hb] at q
   exact g.fz.tups b xs q
 ·have hb:b≠a:=fun z=>by
   subst z
   rcases hF with hi | hf
   ·rw [h3 hi] at q; cases q
   ·exact nf hf
  rw [zq hb]; exact g.keep b w q nf
 ·by_cases hb:b=a
  ·exact ⟨u,by rw [hb,zn]⟩
  ·obtain ⟨w',hw⟩:=g.there b w q
   exact ⟨w',by rw [zq hb]; exact hw⟩
 ·rcases inv j _ e with ⟨rfl,z⟩ | ⟨hj,z⟩
  ·cases z
  ·exact g.val j d' z
 ·rcases inv j _ e with ⟨rfl,z⟩ | ⟨hj,z⟩
  ·cases z
   exact ⟨a,ha,h2,h3,hn⟩
  ·obtain ⟨b,q1,q2,q3,q4⟩:=g.own j o' z
   have hb:b≠a:=fun w=>hj (g.apart j i _ _ a z e0 (by rw [<- w]; exact q1) ha)
   exact ⟨b,q1,q2,q3,q4.mono (zU.refl _) fun w hw=>by rw [zq hb]; exact hw⟩
 ·have e1':∃ oo,Γ[j]?=some (.own oo):=by
   rcases inv j _ e1 with ⟨rfl,z⟩ | ⟨hj,z⟩
   ·exact ⟨_,e0⟩
   ·exact ⟨_,z⟩
  have e2':∃ oo,Γ[k]?=some (.own oo):=by
   rcases inv k _ e2 with ⟨rfl,z⟩ | ⟨hj,z⟩
   ·exact ⟨_,e0⟩
   ·exact ⟨_,z⟩
  obtain ⟨_,z1⟩:=e1'; obtain ⟨_,z2⟩:=e2'; exact g.apart j k _ _ b z1 z2 q1 q2
 ·rcases inv j _ e with ⟨rfl,z⟩ | ⟨hj,z⟩
  ·cases z
  ·obtain ⟨p0,p1,p2,p3,p4,p5,p6⟩:=g.bk j d' b xs z
   have hb:b≠a:=fun w=>p6 i _ e0 (by rw [w]; exact ha)
   refine ⟨p0,p1,p2,p3,p4.mono (zU.refl _) fun w hw=>by rw [zq hb]; exact hw,fun k d' xs' q=>?_,fun k o' q=>?_⟩
   ·rcases inv k _ q with ⟨rfl,y⟩ | ⟨hk,y⟩
    ·cases y
    ·exact p5 k _ _ y
   ·rcases inv k _ q with ⟨rfl,y⟩ | ⟨hk,y⟩
    ·exact p6 k _ e0
    ·exact p6 k o' y
def Good.freezeA (g:Good K n W Hi Γ σ H) (h0:Hi a=none) (h1:W.H₀ a=none) (fr:Free n W Γ σ a) {u:HO} (hu:H a=some u):Good K n W (upd Hi a u) Γ σ H:=by
 have hs:zU Hi (upd Hi a u):=zH h0 u
 refine ⟨g.len,⟨fun b w q=>?_,fun b xs q=>?_⟩,g.keep,g.there,fun b w q=>?_,fun j d' e=>?_,fun j o' e=>?_,g.apart,fun j d' b xs e=>?_⟩
 ·by_cases hb:b=a
  ·subst hb; rw [zn] at q; cases q; exact hu
  ·rw [zq hb] at q; exact g.sub b w q
 ·have hb:b≠a:=fun z=>by
   have:=g.fz.tups b xs q
   rw [z,h0] at this; cases this
  rw [zq hb]; exact g.fz.tups b xs q
 ·have hb:b≠a:=fun z=>by subst z; rw [h1] at q; cases q
  rw [zq hb]; exact g.fro b w q
 ·obtain ⟨w,q1,q2⟩:=g.val j d' e
  exact ⟨w,q1,q2.mono hs⟩
 ·obtain ⟨b,q1,q2,q3,q4⟩:=g.own j o' e
  have hb:b≠a:=fun z=>fr.own j o' e (by rw [<- z]; exact q1)
  exact ⟨b,q1,by rw [zq hb]; exact q2,q3,q4.mono hs fun _ z=>z⟩
 ·obtain ⟨⟨w,w1,w2⟩,p1,p2,p3,p4,p5,p6⟩:=g.bk j d' b xs e
  have hb:b≠a:=fun z=>fr.bk j _ _ (by rw [<- z]; exact e)
  exact ⟨⟨w,w1,w2.mono hs⟩,p1,by rw [zq hb]; exact p2,p3,p4.mono hs fun _ z=>z,p5,p6⟩
def zbC.den (h:zbC K Hi H a o) (h0:Hi a=none) {u:HO} (hu:H a=some u):Den K (upd Hi a u) (.ref a) o.toD:=by
 cases o with
 | lst ds =>
  obtain ⟨vs,q,r⟩:=h; rw [hu] at q; cases q; exact Den.mkL (SqL.of zn) (r.mono (zH h0 _))
 | dic ds =>
  obtain ⟨kvs,q,r⟩:=h; rw [hu] at q; cases q; exact Den.mkDK (.inl zn) (r.mono (zH h0 _))
 | dit ds =>
  obtain ⟨kvs,ep,q,r⟩:=h; rw [hu] at q; cases q; exact Den.mkDT zn (r.mono (zH h0 _))
 | obj C ds =>
  obtain ⟨dx,fs,q,r⟩:=h; rw [hu] at q; cases q; exact Den.mkO zn (r.mono (zH h0 _))
end
abbrev TE':=Sts->(D->Sts->Prop)->Prop
abbrev TT':=Sts->(Bool->Sts->Prop)->Prop
abbrev TA':=Sts->(List D->Sts->Prop)->Prop
abbrev TO':=Sts->(OD->Sts->Prop)->Prop
abbrev TI':=Sts->(List D->Sts->Prop)->Prop
abbrev TG':=D->Sts->(Sts->Prop)->Prop
inductive Res where
 | val (d:D) | own (o:OD)
 | bk (d:D->D) (o:OD)
def Res.toD:Res->D
 | .val d=>d
 | .own o=>o.toD
 | .bk d o=>d o.toD
structure Ends' where
 nx:Sts->Prop
 rt:Res->Sts->Prop
 bk:Sts->Prop:=fun _=>False
 ct:Sts->Prop:=fun _=>False
abbrev TS':=Ends'->Sts->Prop
def zrE (K:W.Frag) (n:Nat) (W:Wd) (Hi:Hp) (σ:St) (Q:D->Sts->Prop):VK:=fun v H'=>∃ Hi' d Γ',zU Hi Hi'/\Good K n W Hi' Γ' σ H'/\Den K Hi' v d/\Q d Γ'
def tOf (K:W.Frag) (n:Nat) (t:TE'):TE:=fun σ H Q2=>∃ W Hi Γ Q,Good K n W Hi Γ σ H/\t Γ Q/\∀ v H',zrE K n W Hi σ Q v H'->Q2 v H'
def zpt (K:W.Frag) (n:Nat) (t:TT'):TT:=fun σ H Q2=>∃ W Hi Γ Q,Good K n W Hi Γ σ H/\t Γ Q/\∀ b H' Hi' Γ',zU Hi Hi'->Good K n W Hi' Γ' σ H'->Q b Γ'->Q2 b H'
def zsr (K:W.Frag) (n:Nat) (t:TA'):TA:=fun σ H Q2=>∃ W Hi Γ Q,Good K n W Hi Γ σ H/\t Γ Q/\∀ vs H' Hi' Γ' ds,zU Hi Hi'->Good K n W Hi' Γ' σ H'->zaV K Hi' vs ds->Q ds Γ'->Q2 vs H'
structure New (K:W.Frag) (n:Nat) (W:Wd) (Hi:Hp) (Γ:Sts) (σ:St) (H:Hp) (a:Addr) (o:OD):Prop where
 hi:Hi a=none
 h0:W.H₀ a=none
 ne:Free n W Γ σ a
 own:zbC K Hi H a o
def oOf (K:W.Frag) (n:Nat) (t:TO'):TE:=fun σ H Q2=>∃ W Hi Γ Q,Good K n W Hi Γ σ H/\t Γ Q/\∀ a H' Hi' Γ' o,zU Hi Hi'->Good K n W Hi' Γ' σ H'->New K n W Hi' Γ' σ H' a o->Q o Γ'->Q2 (.ref a) H'
def gOf (K:W.Frag) (n:Nat) (g:TG'):TG:=fun v σ H Q2=>∃ W Hi Γ d Q,Good K n W Hi Γ σ H/\Den K Hi v d/\g d Γ Q/\∀ σ' H' Hi' Γ',zU Hi Hi'->Good K n W Hi' Γ' σ' H'->Q Γ'->Q2 σ' H'
def zpr (K:W.Frag) (H₀ Hi H:Hp) (v:V):Res->Prop
 | .val d=>Den K Hi v d
 | .own o=>∃ a,v=.ref a/\Hi a=none/\H₀ a=none/\zbC K Hi H a o
 | .bk d o=>∃ b,Den K Hi v (d (.adr b))/\Hol K d/\Hi b=none/\H₀ b=none/\zbC K Hi H b o
structure Lifts (K:W.Frag) (n:Nat) (W:Wd) (Hi:Hp) (N:Ends') (N2:Ends):Prop where
 nx:∀ σ' H' Hi' Γ',zU Hi Hi'->Good K n W Hi' Γ' σ' H'->N.nx Γ'->N2.nx σ' H'
 bk:∀ σ' H' Hi' Γ',zU Hi Hi'->Good K n W Hi' Γ' σ' H'->N.bk Γ'->N2.bk σ' H'
 ct:∀ σ' H' Hi' Γ',zU Hi Hi'->Good K n W Hi' Γ' σ' H'->N.ct Γ'->N2.ct σ' H'
 rt:∀ v σ' H' Hi' Γ' r,zU Hi Hi'->Good K n W Hi' Γ' σ' H'->zpr K W.H₀ Hi' H' v r->N.rt r Γ'->N2.rt v H'
def Lifts.mono {K:W.Frag} {n:Nat} {W:Wd} {Hi Hi':Hp} {N:Ends'} {N2:Ends} (l:Lifts K n W Hi N N2) (s:zU Hi Hi'):Lifts K n W Hi' N N2 :=
 ⟨fun σ' H' Hi2 Γ' e=>l.nx σ' H' Hi2 Γ' (s.trans e),fun σ' H' Hi2 Γ' e=>l.bk σ' H' Hi2 Γ' (s.trans e),fun σ' H' Hi2 Γ' e=>l.ct σ' H' Hi2 Γ' (s.trans e),fun v σ' H' Hi2 Γ' r e=>l.rt v σ' H' Hi2 Γ' r (s.trans e)⟩
def sOf (K:W.Frag) (n:Nat) (t:TS'):TS:=fun N2 σ H=>∃ W Hi Γ N,Good K n W Hi Γ σ H/\t N Γ/\Lifts K n W Hi N N2
def ItD (K:W.Frag) (Hi:Hp) (J:It) (ds:List D):Prop:=∀ Hi' H',zU Hi Hi'->Fz Hi' H' ->
 (∀ (i:Nat) d,ds[i]?=some d->J.go i H'/\∀ x H'',J.yld i H' x H''->∃ Hi'',Ext Hi' H' Hi'' H''/\Den K Hi'' x d)/\J.stop ds.length H'
def iOf (K:W.Frag) (n:Nat) (t:TI'):TI:=fun σ H R=>∃ W Hi Γ Q,Good K n W Hi Γ σ H/\t Γ Q/\∀ J H' Hi' Γ' ds,zU Hi Hi'->Good K n W Hi' Γ' σ H'->ItD K Hi' J ds->Q ds Γ'->R J H'
structure PE' (X:Cx) (e:Expr) (t:TE'):Prop where
 h:PE X e (tOf X.K X.N.length t)
structure PO' (X:Cx) (e:Expr) (t:TO'):Prop where
 h:PE X e (oOf X.K X.N.length t)
structure PT' (X:Cx) (e:Expr) (t:TT'):Prop where
 h:PT X e (zpt X.K X.N.length t)
structure PW' (X:Cx) (e:Expr) (t:TT'):Prop where
 h:PW X e (zpt X.K X.N.length t)
def zcs:Expr->Bool
 | .Starred _ _=>true
 | _=>false
def zbS:List Expr->Bool
 | []=>true
 | e :: es=>!zcs e && zbS es
def zZ {e:Expr} {es:List Expr} {env:Env} (h:zcs e=false):starEach (e :: es) env=(false,eval e env) :: starEach es env:=by
 cases e <;> first | rfl | (exact yP (show true=false from h) Bool.noConfusion)
theorem zaa {pos:Pos} {env:Env}:∀ {es:List Expr},zbS es=true->(backTo pos (starEach es env)).any (·.1)=false
 | [],_=>rfl
 | e :: es,h=>by
  have h1:zcs e=false/\zbS es=true:=by
   unfold zbS at h
   simpa using h
  rw [zZ h1.1]
  show (false || (backTo pos (starEach es env)).any (·.1))=false
  rw [zaa h1.2]; rfl
def zD {e:Expr} {es:List Expr} (h:zbS (e :: es)=true):zcs e=false/\zbS es=true:=by
 unfold zbS at h
 simpa using h
structure PA' (X:Cx) (es:List Expr) (t:TA'):Prop where
 pa:PA X es (zsr X.K X.N.length t)
 pl:zbS es=true
structure PS' (X:Cx) (s:Stmt) (t:TS'):Prop where
 h:PS X s (sOf X.K X.N.length t)
structure PSs' (X:Cx) (s:List Stmt) (t:TS'):Prop where
 h:PSs X s (sOf X.K X.N.length t)
structure PG' (X:Cx) (tg:Expr) (g:TG'):Prop where
 h:PG X tg (gOf X.K X.N.length g)
structure PI' (X:Cx) (tg iter:Expr) (t:TI'):Prop where
 h:PI X tg iter (iOf X.K X.N.length t)
section
def PE.weak {e:Expr} {t t2:TE} (h:PE X e t) (w:∀ σ H Q,t2 σ H Q->t σ H Q):PE X e t2:=fun pins s σ H Q I q=>h pins s σ H Q I (w _ _ _ q)
def PT.weak {e:Expr} {t t2:TT} (h:PT X e t) (w:∀ σ H Q,t2 σ H Q->t σ H Q):PT X e t2:=fun pins s σ H Q I q=>h pins s σ H Q I (w _ _ _ q)
def PW.weak {e:Expr} {t t2:TT} (h:PW X e t) (w:∀ σ H Q,t2 σ H Q->t σ H Q):PW X e t2:=fun wh pins s σ H Q I q=>h wh pins s σ H Q I (w _ _ _ q)
def PA.weak {es:List Expr} {t t2:TA} (h:PA X es t) (w:∀ σ H Q,t2 σ H Q->t σ H Q):PA X es t2:=fun pos pins s σ H Q I q=>h pos pins s σ H Q I (w _ _ _ q)
def PS.weak {st:Stmt} {t t2:TS} (h:PS X st t) (w:∀ N σ H,t2 N σ H->t N σ H):PS X st t2:=fun pins s σ H N I q=>h pins s σ H N I (w _ _ _ q)
def PSs.weak {st:List Stmt} {t t2:TS} (h:PSs X st t) (w:∀ N σ H,t2 N σ H->t N σ H):PSs X st t2:=fun pins s σ H N I q=>h pins s σ H N I (w _ _ _ q)
def PG.weak {tg:Expr} {t t2:TG} (h:PG X tg t) (w:∀ v σ H Q,t2 v σ H Q->t v σ H Q):PG X tg t2:=fun pins s σ H v u Q I r q=>h pins s σ H v u Q I r (w _ _ _ _ q)
def PI.weak {tg iter:Expr} {t t2:TI} (h:PI X tg iter t) (w:∀ σ H Q,t2 σ H Q->t σ H Q):PI X tg iter t2:=fun pins s σ H Q I q=>h pins s σ H Q I (w _ _ _ q)
def zG (i:Nat):TE':=fun Γ Q=>∃ d,Γ[i]?=some (.val d)/\Q d Γ
def tC' (d:D):TE':=fun Γ Q=>Q d Γ
def pv' (i:Nat) {x:Str} {pos:Pos} (hN:X.N[i]?=some x:=by rfl) (hv:Vis X.env.scope x:=by first | exact Or.inl rfl | exact Yr (Or.inl rfl) | exact Yr (Yr rfl)) (hd:yyD x:=by decide)
  (hcd:(x == ("__classdict__":Str))=false:=by decide):PE' X (.Name x pos) (zG i):=by
 refine ⟨PE.weak (zev (i:=i) hN hv hd hcd) ?_⟩
 rintro σ H Q ⟨W,Hi,Γ,Q',g,⟨d,e,q⟩,fin⟩
 obtain ⟨v,h1,h2⟩:=g.val i d e; exact ⟨v,h1,fin v H ⟨Hi,d,Γ,zU.refl _,g,h2,q⟩⟩
def zgS {e:Expr} {v:V} {d:D} (h:PE X e (tC v)) (r:∀ Hi,Den X.K Hi v d):PE' X e (tC' d):=by
 refine ⟨PE.weak h ?_⟩
 rintro σ H Q ⟨W,Hi,Γ,Q',g,q,fin⟩
 exact fin v H ⟨Hi,d,Γ,zU.refl _,g,r Hi,q⟩
def zl {i j pos}:PE' X (.Constant (.int i) j pos) (tC' (.int i)):=zgS znc fun _=>.int i
def zcq {b j pos}:PE' X (.Constant (.bool b) j pos) (tC' (.bl b)):=zgS zsW fun _=>.bl b
def zdd {j pos}:PE' X (.Constant .none j pos) (tC' .non):=zgS zqF fun _=>.non
def zaS (l:List Nat) {x j pos} (h:x=st l:=by decide +kernel):PE' X (.Constant (.str x) j pos) (tC' (.str l)):=by
 subst h
 exact zgS zqD fun _=>.str l
def zqK {x:Str} {v:V} {u:Value} {d:D} {pos:Pos} (hm:X.mg x=some u) (r:zap v u) (rd:∀ Hi,Den X.K Hi v d) (hg:Gl X x:=by rfl) (hd:yyD x:=by decide):PE' X (.Name x pos) (tC' d):=zgS (zox hg hm r hd) rd
def zqJ {x:Str} {l:List Nat} {t:Tok} {pos:Pos} (hm:X.mg x=some (.str (st l) t)) (hg:Gl X x:=by rfl) (hd:yyD x:=by decide):PE' X (.Name x pos) (tC' (.str l)):=zqK (v:=.str (st l)) hm ⟨_,rfl⟩ (fun _=>.str l) hg hd
def zew {x:Str} {c:String} {pos:Pos} (hm:X.mg x=none) (hv:bootBuiltins x=some (.type c)) (hg:Gl X x:=by rfl) (hn:x≠"__name__":=by decide) (hd:yyD x:=by decide):PE' X (.Name x pos) (tC' (.ty c)) :=
 zgS (zoB (v:=.ty c) hg hm hv rfl hn hd) fun _=>.ty c
def zcv (t:TO'):TE':=fun Γ Q=>t Γ fun o Γ1=>Q o.toD Γ1
def zcO {e:Expr} {t:TO'} (h:PO' X e t):PE' X e (zcv t):=by
 refine ⟨PE.weak h.h ?_⟩
 rintro σ H Q ⟨W,Hi,Γ,Q',g,q,fin⟩
 refine ⟨W,Hi,Γ,_,g,q,?_⟩; intro a H' Hi' Γ' o s1 g1 nw q1; obtain ⟨u,hu⟩:=nw.own.there; exact fin _ _ ⟨upd Hi' a u,_,Γ',s1.trans (zH nw.hi u),g1.freezeA nw.hi nw.h0 nw.ne hu,nw.own.den nw.hi hu,q1⟩
abbrev R2':=D->D->(D->Prop)->Prop
def ziV (K:W.Frag) (r:R2) (r':R2'):Prop:=∀ (Hi H:Hp) (x y:V) (dx dy:D) (Q:D->Prop) (Q2:VK),Fz Hi H->Den K Hi x dx->Den K Hi y dy->r' dx dy Q->(∀ Hi' H' v d,Ext Hi H Hi' H'->Den K Hi' v d->Q d->Q2 v H')->r x y H Q2
def zaX (r:R2') (ta tb:TE'):TE':=fun Γ Q=>ta Γ fun x Γ1=>tb Γ1 fun y Γ2=>r x y fun d=>Q d Γ2
def zhp {K:W.Frag} {n:Nat} {r:R2} {r':R2'} {ta tb:TE'} {σ:St} {H:Hp} {Q:VK} (l:ziV K r r') (h:tOf K n (zaX r' ta tb) σ H Q):tOp r (tOf K n ta) (tOf K n tb) σ H Q:=by
 obtain ⟨W,Hi,Γ,Q',g,h,fin⟩:=h; refine ⟨W,Hi,Γ,_,g,h,?_⟩
 rintro x H1 ⟨Hi1,dx,Γ1,s1,g1,den1,h1⟩
 refine ⟨W,Hi1,Γ1,_,g1,h1,?_⟩
 rintro y H2 ⟨Hi2,dy,Γ2,s2,g2,den2,h2⟩
 refine l Hi2 H2 x y dx dy _ _ g2.fz (den1.mono s2) den2 h2 ?_
 rintro Hi3 H3 v d e den q
 exact fin v H3 ⟨Hi3,d,Γ2,s1.trans (s2.trans e.hi),g2.ext e,den,q⟩
structure Op2 (X:Cx) (f:Value->Value->Sem Value) (r':R2'):Prop where
 ex:∃ r,OpR X f r/\ziV X.K r r'
def Op2.or {f:Value->Value->Sem Value} {r r':R2'} (h:Op2 X f r) (h':Op2 X f r'):Op2 X f (fun x y Q=>r x y Q\/r' x y Q):=by
 obtain ⟨a,ha,la⟩:=h.ex; obtain ⟨b,hb,lb⟩:=h'.ex
 refine ⟨_,ha.or hb,fun Hi H x y dx dy Q Q2 s d1 d2 q fin=>?_⟩
 rcases q with q | q
 ·exact .inl (la Hi H x y dx dy Q Q2 s d1 d2 q fin)
 ·exact .inr (lb Hi H x y dx dy Q Q2 s d1 d2 q fin)
def zB {a b:Expr} {op:Operator} {r':R2'} {ta tb:TE'} {pos:Pos} (h:Op2 X (binaryOp op) r') (ha:PE' X a ta) (hb:PE' X b tb):PE' X (.BinOp a op b pos) (zaX r' ta tb):=by
 obtain ⟨r,ho,l⟩:=h.ex
 exact ⟨PE.weak (zsU ho ha.h hb.h) fun σ H Q q=>zhp l q⟩
def zjH {a b:Expr} {op:CmpOp} {r':R2'} {ta tb:TE'} {pos:Pos} (h:Op2 X (compareOp op) r') (ha:PE' X a ta) (hb:PE' X b tb) (hm:behindInMarks op b=false:=by first | exact zng _ | rfl):PE' X (.Compare a [op] [b] pos) (zaX r' ta tb):=by
 obtain ⟨r,ho,l⟩:=h.ex
 exact ⟨PE.weak (zoA ho ha.h hb.h hm) fun σ H Q q=>zhp l q⟩
def tB' (t:TE'):TT':=fun Γ Q=>t Γ fun d Γ1=>∃ b,d=.bl b/\Q b Γ1
def zp3 {K:W.Frag} {n:Nat} {t:TE'} {σ:St} {H:Hp} {Q:Bool->Hp->Prop} (h:zpt K n (tB' t) σ H Q):tOf K n t σ H fun x H1=>∃ c,x=.bl c/\Q c H1:=by
 obtain ⟨W,Hi,Γ,Q',g,h,fin⟩:=h; refine ⟨W,Hi,Γ,_,g,h,?_⟩
 rintro x H1 ⟨Hi1,dx,Γ1,s1,g1,den1,b,rfl,h1⟩
 exact ⟨b,den1.blI,fin b H1 Hi1 Γ1 s1 g1 h1⟩
def zaA {e:Expr} {t:TE'} (h:PE' X e t) (he:∀ whole,isTrue e X.env whole=(do let v <- whole; standAt e.pos; holding [v] (truthy v)):=by intro _; rfl):PT' X e (tB' t) :=
 ⟨PT.weak (zqw h.h he) fun σ H Q q=>zp3 q⟩
def zV {a b:Expr} {op:CmpOp} {r':R2'} {ta tb:TE'} {pos:Pos} (h:Op2 X (compareOp op) r') (ha:PE' X a ta) (hb:PE' X b tb) (hm:behindInMarks op b=false:=by first | exact zng _ | rfl):PT' X (.Compare a [op] [b] pos) (tB' (zaX r' ta tb)):=by
 obtain ⟨r,ho,l⟩:=h.ex
 exact ⟨PT.weak (zof ho ha.h hb.h hm) fun σ H Q q=>zhp l (zp3 q)⟩
def zeO (t u:TT'):TT':=fun Γ Q=>t Γ fun c Γ1=>if c=true then u Γ1 Q else Q false Γ1
def zpu (t u:TT'):TT':=fun Γ Q=>t Γ fun c Γ1=>if c=true then Q true Γ1 else u Γ1 Q
def zds (t:TT'):TT':=fun Γ Q=>t Γ fun c Γ1=>Q (!c) Γ1
variable {a b c:Expr} {tA tB2:TT'} {zbb:List Expr} {pos:Pos} {ta tb:TE'}
def zeY (ha:PT' X a tA):PW' X (.BoolOp .And [a] pos) tA:=⟨zob ha.h⟩
def zeX (ha:PT' X a tA):PW' X (.BoolOp .Or [a] pos) tA:=⟨zqt ha.h⟩
def zgR (ha:PT' X a tA) (hb:PW' X (.BoolOp .And (b :: zbb) pos) tB2):PW' X (.BoolOp .And (a :: b :: zbb) pos) (zeO tA tB2):=by
 refine ⟨PW.weak (zqu ha.h hb.h) ?_⟩
 rintro σ H Q ⟨W,Hi,Γ,Q',g,h,fin⟩
 refine ⟨W,Hi,Γ,_,g,h,?_⟩; intro k H1 Hi1 Γ1 s1 g1 h1
 cases k with
 | true=>exact ⟨W,Hi1,Γ1,_,g1,h1,fun b H2 Hi2 Γ2 s2 g2 q=>fin b H2 Hi2 Γ2 (s1.trans s2) g2 q⟩
 | false=>exact fin false H1 Hi1 Γ1 s1 g1 h1
def zdK (ha:PT' X a tA) (hb:PW' X (.BoolOp .Or (b :: zbb) pos) tB2):PW' X (.BoolOp .Or (a :: b :: zbb) pos) (zpu tA tB2):=by
 refine ⟨PW.weak (zsQ ha.h hb.h) ?_⟩
 rintro σ H Q ⟨W,Hi,Γ,Q',g,h,fin⟩
 refine ⟨W,Hi,Γ,_,g,h,?_⟩; intro k H1 Hi1 Γ1 s1 g1 h1
 cases k with
 | false=>exact ⟨W,Hi1,Γ1,_,g1,h1,fun b H2 Hi2 Γ2 s2 g2 q=>fin b H2 Hi2 Γ2 (s1.trans s2) g2 q⟩
 | true=>exact fin true H1 Hi1 Γ1 s1 g1 h1
def PW'.pt {e:Expr} {t:TT'} (h:PW' X e t):PT' X e t:=⟨h.h _⟩
def zdb (ha:PT' X a tA):PT' X (.UnaryOp .Not a pos) (zds tA):=by
 refine ⟨PT.weak (zqx ha.h) ?_⟩
 rintro σ H Q ⟨W,Hi,Γ,Q',g,h,fin⟩
 exact ⟨W,Hi,Γ,_,g,h,fun k H1 Hi1 Γ1 s1 g1 h1=>fin _ H1 Hi1 Γ1 s1 g1 h1⟩
def zhr (ta tb:TE'):TE':=fun Γ Q=>ta Γ fun x Γ1=>∃ c,x=.bl c/\if c=true then tb Γ1 Q else Q (.bl false) Γ1
def zov {op} (h:PE' X a ta):PE' X (.BoolOp op [a] pos) ta:=⟨zqE h.h⟩
def zoC (ha:PE' X a ta) (hb:PE' X (.BoolOp .And (b :: zbb) pos) tb):PE' X (.BoolOp .And (a :: b :: zbb) pos) (zhr ta tb):=by
 refine ⟨PE.weak (zqO ha.h hb.h) ?_⟩
 rintro σ H Q ⟨W,Hi,Γ,Q',g,h,fin⟩
 refine ⟨W,Hi,Γ,_,g,h,?_⟩
 rintro x H1 ⟨Hi1,dx,Γ1,s1,g1,den1,k,rfl,h1⟩
 refine ⟨k,den1.blI,?_⟩
 cases k with
 | true=>exact ⟨W,Hi1,Γ1,_,g1,h1,fun v H2 ⟨Hi2,d,Γ2,s2,g2,d2,q⟩=>fin v H2 ⟨Hi2,d,Γ2,s1.trans s2,g2,d2,q⟩⟩
 | false=>exact fin _ H1 ⟨Hi1,_,Γ1,s1,g1,.bl false,h1⟩
def znX (t:TT') (ta tb:TE'):TE':=fun Γ Q=>t Γ fun c Γ1=>if c=true then ta Γ1 Q else tb Γ1 Q
def zqI (hc:PT' X c tA) (ha:PE' X a ta) (hb:PE' X b tb):PE' X (.IfExp c a b pos) (znX tA ta tb):=by
 refine ⟨PE.weak (zlS hc.h ha.h hb.h) ?_⟩
 rintro σ H Q ⟨W,Hi,Γ,Q',g,h,fin⟩
 refine ⟨W,Hi,Γ,_,g,h,?_⟩; intro k H1 Hi1 Γ1 s1 g1 h1
 cases k with
 | true=>exact ⟨W,Hi1,Γ1,_,g1,h1,fun v H2 ⟨Hi2,d,Γ2,s2,g2,d2,q⟩=>fin v H2 ⟨Hi2,d,Γ2,s1.trans s2,g2,d2,q⟩⟩
 | false=>exact ⟨W,Hi1,Γ1,_,g1,h1,fun v H2 ⟨Hi2,d,Γ2,s2,g2,d2,q⟩=>fin v H2 ⟨Hi2,d,Γ2,s1.trans s2,g2,d2,q⟩⟩
def zY:TA':=fun Γ Q=>Q [] Γ
def zC (ta:TE') (tr:TA'):TA':=fun Γ Q=>ta Γ fun x Γ1=>tr Γ1 fun xs Γ2=>Q (x :: xs) Γ2
def zi:PA' X [] zY:=by
 refine ⟨PA.weak zhF ?_,rfl⟩
 rintro σ H Q ⟨W,Hi,Γ,Q',g,h,fin⟩
 exact fin [] H Hi Γ [] (zU.refl _) g .nil h
def zc {e:Expr} {es:List Expr} {te:TE'} {t:TA'} (ha:PE' X e te) (hr:PA' X es t) (hs:zcs e=false:=by rfl):PA' X (e :: es) (zC te t):=by
 refine ⟨PA.weak (zcz ha.h hr.pa (zZ hs)) ?_,by unfold zbS; rw [hs,hr.pl]; rfl⟩
 rintro σ H Q ⟨W,Hi,Γ,Q',g,h,fin⟩
 refine ⟨W,Hi,Γ,_,g,h,?_⟩
 rintro x H1 ⟨Hi1,dx,Γ1,s1,g1,den1,h1⟩
 refine ⟨W,Hi1,Γ1,_,g1,h1,?_⟩; intro vs H2 Hi2 Γ2 ds s2 g2 dl q; exact fin (x :: vs) H2 Hi2 Γ2 (dx :: ds) (s1.trans s2) g2 (.cons (den1.mono s2) dl) q
def za5 (t:TA'):TE':=fun Γ Q=>t Γ fun ds Γ1=>ds.length<=sizeLine/\Q (.tup ds) Γ1
def zW {es:List Expr} {t:TA'} {x1} (h:PA' X es t):PE' X (.Tuple es x1 pos) (za5 t):=by
 refine ⟨PE.weak (zqC h.pa) ?_⟩
 rintro σ H Q ⟨W,Hi,Γ,Q',g,h,fin⟩
 refine ⟨W,Hi,Γ,_,g,h,?_⟩
 rintro vs H1 Hi1 Γ1 ds s1 g1 dl ⟨hl,q⟩
 refine ⟨by rw [zj dl]; exact hl,fun p hp=>?_⟩
 have e:=Ext.new g1.fz hp (.tup vs); exact fin _ _ ⟨_,_,Γ1,s1.trans e.hi,g1.ext e,Den.mkT zn (dl.mono e.hi),q⟩
def New.mk' {K:W.Frag} {n:Nat} {W:Wd} {Hi H:Hp} {Γ:Sts} {σ:St} {p:Addr} {u:HO} {o:OD} (g:Good K n W Hi Γ σ H) (hp:H p=none) (own:zbC K Hi (upd H p u) p o):New K n W Hi Γ σ (upd H p u) p o:=by
 refine ⟨g.sub.free hp,?_,⟨fun j o' e z=>?_,fun j d xs e=>?_⟩,own⟩
 ·cases q:W.H₀ p with
  | none=>rfl
  | some w =>
   obtain ⟨w',hw⟩:=g.there p w q
   rw [hp] at hw; cases hw
 ·obtain ⟨a,h1,_,_,h4⟩:=g.own j o' e
  rw [z] at h1; cases h1; obtain ⟨w,hw⟩:=h4.there
  rw [hp] at hw; cases hw
 ·obtain ⟨w,hw⟩:=(g.bk j d p xs e).at_.there
  rw [hp] at hw; cases hw
def zdE (t:TA'):TO':=fun Γ Q=>t Γ fun ds Γ1=>ds.length<=sizeLine/\Q (.lst ds) Γ1
def zfS {es:List Expr} {t:TA'} (h:PA' X es t):PO' X (.List es pos) (zdE t):=by
 refine ⟨PE.weak (zqG h.pa) ?_⟩
 rintro σ H Q ⟨W,Hi,Γ,Q',g,h,fin⟩
 refine ⟨W,Hi,Γ,_,g,h,?_⟩
 rintro vs H1 Hi1 Γ1 ds s1 g1 dl ⟨hl,q⟩
 refine ⟨by rw [zj dl]; exact hl,fun p hp=>?_⟩
 exact fin p _ Hi1 Γ1 (.lst ds) s1 (g1.ext (Ext.newO g1.fz hp _ (fun _ z=>by cases z))) (New.mk' g1 hp ⟨vs,zn,dl⟩) q
abbrev RC':=List D->(D->Prop)->Prop
def zrF (K:W.Frag) (r:List V->Hp->VK->Prop) (r':RC'):Prop:=∀ (Hi H:Hp) (vs:List V) (ds:List D) (Q:D->Prop) (Q2:VK),Fz Hi H->zaV K Hi vs ds->r' ds Q->(∀ Hi' H' v d,Ext Hi H Hi' H'->Den K Hi' v d->Q d->Q2 v H')->r vs H Q2
structure Cal (X:Cx) (f:Value) (r':RC'):Prop where
 ex:∃ r,zbW X f r/\zrF X.K r r'
def Cal.or {f:Value} {r r':RC'} (h:Cal X f r) (h':Cal X f r'):Cal X f (fun x Q=>r x Q\/r' x Q):=by
 obtain ⟨a,ha,la⟩:=h.ex; obtain ⟨b,hb,lb⟩:=h'.ex
 refine ⟨_,ha.or hb,fun Hi H vs ds Q Q2 s d q fin=>?_⟩
 rcases q with q | q
 ·exact .inl (la Hi H vs ds Q Q2 s d q fin)
 ·exact .inr (lb Hi H vs ds Q Q2 s d q fin)
def zcZ (r:RC') (t:TA'):TE':=fun Γ Q=>t Γ fun ds Γ1=>r ds fun d=>Q d Γ1
def zm2 {K:W.Frag} {n:Nat} {r:List V->Hp->VK->Prop} {r':RC'} {t:TA'} {σ:St} {H:Hp} {Q:VK} (l:zrF K r r') (h:tOf K n (zcZ r' t) σ H Q):tCB r (zsr K n t) σ H Q:=by
 obtain ⟨W,Hi,Γ,Q',g,h,fin⟩:=h; refine ⟨W,Hi,Γ,_,g,h,?_⟩; intro vs H1 Hi1 Γ1 ds s1 g1 dl h1; refine l Hi1 H1 vs ds _ _ g1.fz dl h1 ?_; intro Hi2 H2 v d e den q; exact fin v H2 ⟨Hi2,d,Γ1,s1.trans e.hi,g1.ext e,den,q⟩
variable {x:Str} {p:Pos} {e:Expr} {es:List Expr} {t:TA'} {id T:String}
def zy {r':RC'} (hc:Cal X (.builtin id) r') (hm:X.mg x=none) (hv:bootBuiltins x=some (.builtin id)) (ha:PA' X (e :: es) t) (hg:Gl X x:=by rfl) (hn:x≠"__name__":=by decide) (hdb:yyD x:=by decide):PE' X (.Call (.Name x p) (e :: es) [] pos) (zcZ r' t):=by
 obtain ⟨r,ho,l⟩:=hc.ex; obtain ⟨p1,p2⟩:=zD ha.pl
 exact ⟨PE.weak (zlX ho hg hm hv ha.pa hn hdb (zZ p1) (zaa p2)) fun σ H Q q=>zm2 l q⟩
def zaK {r':RC'} (hc:Cal X (.type T) r') (hm:X.mg x=none) (hv:bootBuiltins x=some (.type T)) (ha:PA' X (e :: es) t) (hg:Gl X x:=by rfl) (hn:x≠"__name__":=by decide) (hdb:yyD x:=by decide):PE' X (.Call (.Name x p) (e :: es) [] pos) (zcZ r' t):=by
 obtain ⟨r,ho,l⟩:=hc.ex; obtain ⟨p1,p2⟩:=zD ha.pl
 exact ⟨PE.weak (zfV ho hg hm hv ha.pa hn hdb (zZ p1) (zaa p2)) fun σ H Q q=>zm2 l q⟩
end
section
variable {a b c:Expr} {pos:Pos} {ta tb:TE'}
structure Ixs (X:Cx) (r':R2'):Prop where
 ex:∃ r,IxR X r/\ziV X.K r r'
def Ixs.or {r r':R2'} (h:Ixs X r) (h':Ixs X r'):Ixs X (fun x y Q=>r x y Q\/r' x y Q):=by
 obtain ⟨a,ha,la⟩:=h.ex; obtain ⟨b,hb,lb⟩:=h'.ex
 refine ⟨_,ha.or hb,fun Hi H x y dx dy Q Q2 s d1 d2 q fin=>?_⟩
 rcases q with q | q
 ·exact .inl (la Hi H x y dx dy Q Q2 s d1 d2 q fin)
 ·exact .inr (lb Hi H x y dx dy Q Q2 s d1 d2 q fin)
def zP {r':R2'} (h:Ixs X r') (ha:PE' X a ta) (hb:PE' X b tb) (hs:zkO b:=by intro _ _; rfl):PE' X (.Subscript a b pos) (zaX r' ta tb):=by
 obtain ⟨r,ho,l⟩:=h.ex
 exact ⟨PE.weak (zsV ho ha.h hb.h hs) fun σ H Q q=>zhp l q⟩
abbrev TP':=Sts->(Option Int->Sts->Prop)->Prop
def zug (K:W.Frag) (n:Nat) (t:TP'):TO:=fun σ H Q2=>∃ W Hi Γ Q,Good K n W Hi Γ σ H/\t Γ Q/\∀ i H' Hi' Γ',zU Hi Hi'->Good K n W Hi' Γ' σ H'->Q i Γ'->Q2 i H'
structure PB' (X:Cx) (e:Option Expr) (t:TP'):Prop where
 h:PO X e (zug X.K X.N.length t)
def zbr:TP':=fun Γ Q=>Q none Γ
def zef (t:TE'):TP':=fun Γ Q=>t Γ fun d Γ1=>∃ i,d=.int i/\Q (some i) Γ1
def PO.weak {e:Option Expr} {t t2:TO} (h:PO X e t) (w:∀ σ H Q,t2 σ H Q->t σ H Q):PO X e t2:=fun pins s σ H Q I q=>h pins s σ H Q I (w _ _ _ q)
def zei:PB' X none zbr:=by
 refine ⟨PO.weak zol ?_⟩
 rintro σ H Q ⟨W,Hi,Γ,Q',g,h,fin⟩
 exact fin none H Hi Γ (zU.refl _) g h
def zcP {e:Expr} {te:TE'} (h:PE' X e te):PB' X (some e) (zef te):=by
 refine ⟨PO.weak (zok h.h) ?_⟩
 rintro σ H Q ⟨W,Hi,Γ,Q',g,h,fin⟩
 refine ⟨W,Hi,Γ,_,g,h,?_⟩
 rintro v H1 ⟨Hi1,d,Γ1,s1,g1,den,i,rfl,q⟩
 exact ⟨i,den.intI,fin _ H1 Hi1 Γ1 s1 g1 q⟩
abbrev RS':=D->Option Int->Option Int->(D->Prop)->Prop
def ztD (K:W.Frag) (r:V->Option Int->Option Int->Hp->VK->Prop) (r':RS'):Prop:=∀ (Hi H:Hp) (x:V) (dx:D) (lo hi:Option Int) (Q:D->Prop) (Q2:VK),Fz Hi H->Den K Hi x dx->r' dx lo hi Q->(∀ Hi' H' v d,Ext Hi H Hi' H'->Den K Hi' v d->Q d->Q2 v H')->r x lo hi H Q2
structure Sli (X:Cx) (r':RS'):Prop where
 ex:∃ r,SlR X r/\ztD X.K r r'
def Sli.or {r r':RS'} (h:Sli X r) (h':Sli X r'):Sli X (fun x lo hi Q=>r x lo hi Q\/r' x lo hi Q):=by
 obtain ⟨a,ha,la⟩:=h.ex; obtain ⟨b,hb,lb⟩:=h'.ex
 refine ⟨_,ha.or hb,fun Hi H x dx lo hi Q Q2 s d1 q fin=>?_⟩
 rcases q with q | q
 ·exact .inl (la Hi H x dx lo hi Q Q2 s d1 q fin)
 ·exact .inr (lb Hi H x dx lo hi Q Q2 s d1 q fin)
def zee (r:RS') (te:TE') (tl th:TP'):TE':=fun Γ Q=>te Γ fun x Γ1=>tl Γ1 fun l Γ2=>th Γ2 fun u Γ3=>r x l u fun d=>Q d Γ3
def zbT {e:Expr} {lo hi:Option Expr} {p2:Pos} {te:TE'} {tl th:TP'} {r':RS'} (h:Sli X r') (he:PE' X e te) (hl:PB' X lo tl) (hu:PB' X hi th):PE' X (.Subscript e (.Slice lo hi none p2) pos) (zee r' te tl th):=by
 obtain ⟨r,ho,l⟩:=h.ex; refine ⟨PE.weak (zlR ho he.h hl.h hu.h) ?_⟩
 rintro σ H Q ⟨W,Hi,Γ,Q',g,h,fin⟩
 refine ⟨W,Hi,Γ,_,g,h,?_⟩
 rintro x H1 ⟨Hi1,dx,Γ1,s1,g1,den1,h1⟩
 refine ⟨W,Hi1,Γ1,_,g1,h1,?_⟩; intro i H2 Hi2 Γ2 s2 g2 h2; refine ⟨W,Hi2,Γ2,_,g2,h2,?_⟩; intro j H3 Hi3 Γ3 s3 g3 h3; refine l Hi3 H3 x dx i j _ _ g3.fz (den1.mono (s2.trans s3)) h3 ?_; intro Hi4 H4 v d e den q; exact fin v H4 ⟨Hi4,d,Γ3,s1.trans (s2.trans (s3.trans e.hi)),g3.ext e,den,q⟩
abbrev RM':=D->List D->(D->Prop)->Prop
def ztE (K:W.Frag) (T:String) (r:V->List V->Hp->VK->Prop) (r':RM'):Prop:=∀ (Hi H:Hp) (x:V) (vs:List V) (dx:D) (ds:List D) (Q:D->Prop) (Q2:VK),Fz Hi H->Den K Hi x dx->zaV K Hi vs ds->r' dx ds Q->(∀ Hi' H' v d,Ext Hi H Hi' H'->Den K Hi' v d->Q d->Q2 v H')->r x vs H Q2
def tyD (T:String):D->Prop
 | .str _=>T="str"
 | .int _=>T="int"
 | .lst _=>T="list"
 | _=>False
def zpP {K:W.Frag} {Hi H:Hp} {x:V} {dx:D} (s:zU Hi H) (den:Den K Hi x dx) (h:tyD T dx):tyV K T x H:=by
 cases den with
 | str l=>exact h
 | int i=>exact h
 | lst hq l r =>
  refine .inl ⟨h,_,zL s hq⟩
 | _=>exact h.elim
structure Met (X:Cx) (T:String) (id:String) (r':RM'):Prop where
 ex:∃ r,MtR X id r/\ztE X.K T r r'
def ztK (T:String) (r:RM') (to:TE') (t:TA'):TE':=fun Γ Q=>to Γ fun x Γ1=>tyD T x/\t Γ1 fun ds Γ2=>r x ds fun d=>Q d Γ2
def zqM {o e:Expr} {es:List Expr} {to:TE'} {t:TA'} {name:Str} {apos cpos:Pos} {T id:String} {r':RM'} (h:Met X T id r') (pa:PlainAttrs T) (slot:PySem.Slot T name id) (hty:typeOf (.builtin id)=pure (.type "method_descriptor")) (ho:PE' X o to) (ha:PA' X (e :: es) t)
  (hbase:attributeBase o name X.env (eval o X.env)=eval o X.env:=by rfl) (hlen:(e :: es).length<30:=by decide)
  (hline:(apos.endLine == cpos.line)=true:=by rfl) :
  PE' X (.Call (.Attribute o name apos) (e :: es) [] cpos) (ztK T r' to t):=by
 obtain ⟨r,hm,l⟩:=h.ex; obtain ⟨p1,p2⟩:=zD ha.pl
 have hfew:((backTo cpos (starEach (e :: es) X.env)).all (fun x=>!x.1) && (backToKw cpos (keywordEach [] X.env)).all (fun x=>x.1.isSome)
   && decide ((e :: es).length+([]:List Keyword).length+(if ([]:List Keyword).isEmpty then 0 else 1)<30))=true:=by
  have h1:(backTo cpos (starEach (e :: es) X.env)).all (fun x=>!x.1)=true:=by
   rw [Yj]; intro y hy
   have:=zaa (pos:=cpos) (env:=X.env) ha.pl
   rw [List.any_eq_false] at this
   simpa using this y hy
  rw [h1,YD (by simpa using hlen)]
  rfl
 refine ⟨PE.weak (zqN pa slot hty hm ho.h ha.pa hbase hfew hline (zZ p1) (zaa p2)) ?_⟩
 rintro σ H Q ⟨W,Hi,Γ,Q',g,h,fin⟩
 refine ⟨W,Hi,Γ,_,g,h,?_⟩
 rintro x H1 ⟨Hi1,dx,Γ1,s1,g1,den1,ty,h1⟩
 refine ⟨zpP g1.sub den1 ty,W,Hi1,Γ1,_,g1,h1,?_⟩; intro vs H2 Hi2 Γ2 ds s2 g2 dl h2; refine l Hi2 H2 x vs dx ds _ _ g2.fz (den1.mono s2) dl h2 ?_; intro Hi3 H3 v d e den q; exact fin v H3 ⟨Hi3,d,Γ2,s1.trans (s2.trans e.hi),g2.ext e,den,q⟩
def zT:TS':=fun N Γ=>N.nx Γ
def zaq (t u:TS'):TS':=fun N Γ=>t { N with nx:=u N } Γ
def zO:PSs' X [] zT:=by
 refine ⟨PSs.weak zog ?_⟩
 rintro N2 σ H ⟨W,Hi,Γ,N,g,h,l⟩
 exact l.nx σ H Hi Γ (zU.refl _) g h
def zk {s:Stmt} {zbb:List Stmt} {t u:TS'} (h1:PS' X s t) (h2:PSs' X zbb u):PSs' X (s :: zbb) (zaq t u):=by
 refine ⟨PSs.weak (zhD h1.h h2.h) ?_⟩
 rintro N2 σ H ⟨W,Hi,Γ,N,g,h,l⟩
 refine ⟨W,Hi,Γ,_,g,h,?_,l.bk,l.ct,l.rt⟩; intro σ1 H1 Hi1 Γ1 s1 g1 q; exact ⟨W,Hi1,Γ1,N,g1,q,l.mono s1⟩
def zr {s:Stmt} {t:TS'} (h1:PS' X s t):PSs' X [s] t:=⟨zjz h1.h⟩
def zS (te:TE'):TS':=fun N Γ=>te Γ fun d Γ1=>N.rt (.val d) Γ1
def zF {e:Expr} {te:TE'} (he:PE' X e te):PS' X (.Return (some e) pos) (zS te):=by
 refine ⟨PS.weak (zna he.h) ?_⟩
 rintro N2 σ H ⟨W,Hi,Γ,N,g,h,l⟩
 refine ⟨W,Hi,Γ,_,g,h,?_⟩
 rintro v H1 ⟨Hi1,d,Γ1,s1,g1,den,q⟩
 exact l.rt v σ H1 Hi1 Γ1 (.val d) s1 g1 den q
def zho (n i:Nat):TS':=fun N Γ=>i<n/\∃ o,Γ[i]?=some (.own o)/\N.rt (.own o) Γ
def zlH (i:Nat) {x:Str} {p:Pos} (hN:X.N[i]?=some x:=by rfl) (hv:Vis X.env.scope x:=by first | exact Or.inl rfl | exact Yr (Or.inl rfl) | exact Yr (Yr rfl)) (hd:yyD x:=by decide)
  (hcd:(x == ("__classdict__":Str))=false:=by decide):PS' X (.Return (some (.Name x p)) pos) (zho X.N.length i):=by
 refine ⟨PS.weak (zna (zev (i:=i) hN hv hd hcd)) ?_⟩
 rintro N2 σ H ⟨W,Hi,Γ,N,g,⟨hi,o,e,q⟩,l⟩
 obtain ⟨a,h1,h2,h3,h4⟩:=g.own i o e; unfold adr at h1; rw [yI hi] at h1; exact ⟨.ref a,zes h1,l.rt _ σ H Hi Γ (.own o) (zU.refl _) g ⟨a,rfl,h2,h3 hi,h4⟩ q⟩
def zaN (c:TT') (t u:TS'):TS':=fun N Γ=>c Γ fun b Γ1=>if b=true then t N Γ1 else u N Γ1
def zav {c:Expr} {sa sb:List Stmt} {tc:TT'} {t u:TS'} (hc:PT' X c tc) (ha:PSs' X sa t) (hb:PSs' X sb u):PS' X (.If c sa sb pos) (zaN tc t u):=by
 refine ⟨PS.weak (zsR hc.h ha.h hb.h) ?_⟩
 rintro N2 σ H ⟨W,Hi,Γ,N,g,h,l⟩
 refine ⟨W,Hi,Γ,_,g,h,?_⟩; intro k H1 Hi1 Γ1 s1 g1 q
 cases k with
 | true=>exact ⟨W,Hi1,Γ1,N,g1,q,l.mono s1⟩
 | false=>exact ⟨W,Hi1,Γ1,N,g1,q,l.mono s1⟩
def zx (i:Nat):TG':=fun d Γ Q=>Q (Γ.set i (.val d))
def zao (i:Nat) {x:Str} (hN:X.N.Nodup) (hi:X.N[i]?=some x:=by rfl) (hx:Loc X.env.scope x:=by first | exact Or.inl rfl | exact Yr rfl) (hf:X.fn x=true\/X.env.scope.names.lookup x=some .local:=by first | exact .inl rfl | exact .inr rfl | assumption):PG' X (.Name x pos) (zx i):=by
 refine ⟨PG.weak (zou (i:=i) hN hi hx hf) ?_⟩
 rintro v σ H Q ⟨W,Hi,Γ,d,Q',g,den,q,fin⟩
 exact fin _ H Hi _ (zU.refl _) (g.set (yE.mp hi).1 den) q
def zaD (te:TE') (g:TG'):TS':=fun N Γ=>te Γ fun d Γ1=>g d Γ1 N.nx
def zI (i:Nat) {x:Str} {e:Expr} {te:TE'} {pos':Pos} (hN:X.N.Nodup) (he:PE' X e te) (hi:X.N[i]?=some x:=by rfl) (hx:Loc X.env.scope x:=by first | exact Or.inl rfl | exact Yr rfl) (hs:swapsWith e (some (.Name x pos')) pos.line X.env=pure false:=by rfl)
  (hf:X.fn x=true\/X.env.scope.names.lookup x=some .local:=by first | exact .inl rfl | exact .inr rfl | assumption):PS' X (.Assign [.Name x pos'] e pos) (zaD te (zx i)):=by
 refine ⟨PS.weak (zm9 (i:=i) hN hi hx he.h hs hf) ?_⟩
 rintro N2 σ H ⟨W,Hi,Γ,N,g,h,l⟩
 refine ⟨W,Hi,Γ,_,g,h,?_⟩
 rintro v H1 ⟨Hi1,d,Γ1,s1,g1,den,q⟩
 exact l.nx _ H1 Hi1 _ s1 (g1.set (yE.mp hi).1 den) q
def zbd (te:TO') (i:Nat):TS':=fun N Γ=>te Γ fun o Γ1=>N.nx (Γ1.set i (.own o))
def zdv (i:Nat) {x:Str} {e:Expr} {te:TO'} {pos':Pos} (hN:X.N.Nodup) (he:PO' X e te) (hi:X.N[i]?=some x:=by rfl) (hx:Loc X.env.scope x:=by first | exact Or.inl rfl | exact Yr rfl) (hs:swapsWith e (some (.Name x pos')) pos.line X.env=pure false:=by rfl)
  (hf:X.fn x=true\/X.env.scope.names.lookup x=some .local:=by first | exact .inl rfl | exact .inr rfl | assumption):PS' X (.Assign [.Name x pos'] e pos) (zbd te i):=by
 refine ⟨PS.weak (zm9 (i:=i) hN hi hx he.h hs hf) ?_⟩
 rintro N2 σ H ⟨W,Hi,Γ,N,g,h,l⟩
 refine ⟨W,Hi,Γ,_,g,h,?_⟩; intro a H1 Hi1 Γ1 o s1 g1 nw q; exact l.nx _ H1 Hi1 _ s1 (g1.setO (yE.mp hi).1 nw.hi nw.h0 nw.ne nw.own) q
def zfv (g:TG') (tb:TS') (N:Ends'):List D->Sts->Prop
 | [],Γ=>N.nx Γ
 | d :: ds,Γ=>g d Γ fun Γ2=>tb { N with nx:=zfv g tb N ds,ct:=zfv g tb N ds,bk:=N.nx } Γ2
def zbs (ti:TI') (g:TG') (tb:TS'):TS':=fun N Γ=>ti Γ fun ds Γ1=>zfv g tb N ds Γ1
def zb3 {tg iter:Expr} {body:List Stmt} {ti:TI'} {g:TG'} {tb:TS'} (hi:PI' X tg iter ti) (hg:PG' X tg g) (hb:PSs' X body tb) (hp:PassesOwn (model X.prog X.w) X.A X.env X.xe:=by exact PassesOwn.never) (hc:X.calm=true:=by rfl)
  (hs:∀ x,foldedSetIterable iter X.env x=pure x:=by intro _; rfl):PS' X (.For tg iter body [] pos) (zbs ti g tb):=by
 refine ⟨PS.weak (zqy hp hc hi.h hg.h hb.h hs) ?_⟩
 rintro N2 σ H ⟨W,Hi,Γ,N,gd,h,l⟩
 refine ⟨W,Hi,Γ,_,gd,h,?_⟩; intro J H1 Hi1 Γ1 ds s1 g1 itd q
 refine ⟨fun i m σ' H'=>m=ds.length-i/\i<=ds.length/\∃ Hi' Γ',zU Hi1 Hi'/\Good X.K X.N.length W Hi' Γ' σ' H'/\zfv g tb N (ds.drop i) Γ',⟨ds.length,by simp,yn _,Hi1,Γ1,zU.refl _,g1,by simpa using q⟩,?_⟩
 rintro i m σ' H' ⟨rfl,hi',Hi',Γ',s2,g2,q2⟩
 have wk:=itd Hi' H' s2 g2.fz
 by_cases hlt:i<ds.length
 ·have hd:ds.drop i=ds[i] :: ds.drop (i+1):=YK hlt
  rw [hd] at q2; obtain ⟨go,yl⟩:=wk.1 i ds[i] (yB hlt)
  refine .inr ⟨go,fun σ3 H3=>∃ Hi3 Γ3,zU Hi' Hi3/\Good X.K X.N.length W Hi3 Γ3 σ3 H3/\zfv g tb N (ds.drop (i+1)) Γ3,fun σ3 H3 ⟨Hi3,Γ3,s3,g3,q3⟩=>⟨ds.length-(i+1),by omega,rfl,hlt,Hi3,Γ3,s2.trans s3,g3,q3⟩,fun x H'' y=>?_⟩
  obtain ⟨Hi'',ex,den⟩:=yl x H'' y; refine ⟨W,Hi'',Γ',ds[i],_,g2.ext ex,den,q2,?_⟩; intro σ4 H4 Hi4 Γ4 s4 g4 q4
  have sx:zU Hi' Hi4:=ex.hi.trans s4
  refine ⟨W,Hi4,Γ4,_,g4,q4,?_⟩
  refine ⟨fun σ5 H5 Hi5 Γ5 s5 g5 q5=>⟨Hi5,Γ5,sx.trans s5,g5,q5⟩,fun σ5 H5 Hi5 Γ5 s5 g5 q5=>l.nx σ5 H5 Hi5 Γ5 (s1.trans (s2.trans (sx.trans s5))) g5 q5,fun σ5 H5 Hi5 Γ5 s5 g5 q5=>⟨Hi5,Γ5,sx.trans s5,g5,q5⟩,fun v σ5 H5 Hi5 Γ5 r s5 g5 ro q5=>l.rt v σ5 H5 Hi5 Γ5 r (s1.trans (s2.trans (sx.trans s5))) g5 ro q5⟩
 ·have e:i=ds.length:=by omega
  subst e; rw [YM (yD _)] at q2; exact .inl ⟨wk.2,l.nx σ' H' Hi' Γ' (s1.trans s2) g2 q2⟩
def zjc (c:TT') (tb:TS'):TS':=fun N Γ=>∃ Wv:Nat->Sts->Prop,(∃ m,Wv m Γ)/\∀ m Γ,Wv m Γ->c Γ fun b Γ1=>if b=true then tb { N with nx:=fun Γ2=>∃ m',m'<m/\Wv m' Γ2,ct:=fun Γ2=>∃ m',m'<m/\Wv m' Γ2,bk:=N.nx } Γ1 else N.nx Γ1
def zjA {c:Expr} {body:List Stmt} {tc:TT'} {tb:TS'} (hc:PT' X c tc) (hb:PSs' X body tb) (hp:PassesOwn (model X.prog X.w) X.A X.env X.xe:=by exact PassesOwn.never):PS' X (.While c body [] pos) (zjc tc tb):=by
 refine ⟨PS.weak (zlF hp hc.h hb.h) ?_⟩
 rintro N2 σ H ⟨W,Hi,Γ,N,gd,⟨Wv,⟨m0,w0⟩,turn⟩,l⟩
 refine ⟨fun m σ' H'=>∃ Hi' Γ',zU Hi Hi'/\Good X.K X.N.length W Hi' Γ' σ' H'/\Wv m Γ',⟨m0,Hi,Γ,zU.refl _,gd,w0⟩,?_⟩
 rintro m σ' H' ⟨Hi',Γ',s1,g1,w1⟩
 refine ⟨W,Hi',Γ',_,g1,turn m Γ' w1,?_⟩; intro k H1 Hi1 Γ1 s2 g2 q
 cases k with
 | false=>exact l.nx σ' H1 Hi1 Γ1 (s1.trans s2) g2 q
 | true =>
  refine ⟨fun σ3 H3=>∃ m',m'<m/\∃ Hi3 Γ3,zU Hi Hi3/\Good X.K X.N.length W Hi3 Γ3 σ3 H3/\Wv m' Γ3,fun σ3 H3 z=>z,W,Hi1,Γ1,_,g2,q,?_⟩
  refine ⟨fun σ5 H5 Hi5 Γ5 s5 g5 ⟨m',hm,q5⟩=>⟨m',hm,Hi5,Γ5,s1.trans (s2.trans s5),g5,q5⟩,fun σ5 H5 Hi5 Γ5 s5 g5 q5=>l.nx σ5 H5 Hi5 Γ5 (s1.trans (s2.trans s5)) g5 q5,fun σ5 H5 Hi5 Γ5 s5 g5 ⟨m',hm,q5⟩=>⟨m',hm,Hi5,Γ5,s1.trans (s2.trans s5),g5,q5⟩,fun v σ5 H5 Hi5 Γ5 r s5 g5 ro q5=>l.rt v σ5 H5 Hi5 Γ5 r (s1.trans (s2.trans s5)) g5 ro q5⟩
def zmy {K:W.Frag} {Hi:Hp} {a:Addr} {vs:List V} {ds:List D} (h:SqL K Hi a vs) (r:zaV K Hi vs ds):ItD K Hi (Itl K a) ds:=by
 intro Hi' H' s1 s2
 have hq:SqL K H' a vs:=zL (s1.trans s2.sub) h
 refine ⟨fun i d e=>?_,vs,hq,by rw [zj r]; exact yD _⟩
 obtain ⟨v,e1,e2⟩:=zab r e; refine ⟨⟨vs,v,hq,e1⟩,?_⟩
 rintro x H'' ⟨rfl,y⟩
 have:=y vs hq
 rw [e1] at this; cases this; exact ⟨Hi',Ext.refl s2,e2.mono s1⟩
def zo4 {K:W.Frag} {Hi:Hp} {a:Addr} {vs:List V} {ds:List D} (h:SqT K Hi a vs) (r:zaV K Hi vs ds):ItD K Hi (Itt K a) ds:=by
 intro Hi' H' s1 s2
 have hq:SqT K H' a vs:=zK (s1.trans s2.sub) h
 refine ⟨fun i d e=>?_,vs,hq,by rw [zj r]; exact yD _⟩
 obtain ⟨v,e1,e2⟩:=zab r e; refine ⟨⟨vs,v,hq,e1⟩,?_⟩
 rintro x H'' ⟨rfl,y⟩
 have:=y vs hq
 rw [e1] at this; cases this; exact ⟨Hi',Ext.refl s2,e2.mono s1⟩
def zo5 {K:W.Frag} {Hi:Hp} (l:List Nat):ItD K Hi (Its l) (l.map fun c=>.str [c]):=by
 intro Hi' H' s1 s2
 refine ⟨fun i d e=>?_,by rw [yG]; rfl⟩
 rw [yK] at e
 cases hc:l[i]? with
 | none=>rw [hc] at e; cases e
 | some c =>
  rw [hc] at e; cases e; refine ⟨(yE.mp hc).1,?_⟩
  rintro x H'' ⟨rfl,c',e',rfl⟩
  rw [hc] at e'; cases e'; exact ⟨Hi',Ext.refl s2,.str [c]⟩
def zo6 {K:W.Frag} {Hi:Hp} (lo:Int) (n:Nat):ItD K Hi (Itr lo n) ((List.range n).map fun k=>.int (lo+(k:Nat))):=by
 intro Hi' H' s1 s2
 refine ⟨fun i d e=>?_,by rw [yG,List.length_range]; exact yD _⟩
 rw [yK] at e
 cases hc:(List.range n)[i]? with
 | none=>rw [hc] at e; cases e
 | some c =>
  rw [hc] at e; cases e
  have hi:i<n:=by
   have:=(yE.mp hc).1
   rwa [List.length_range] at this
  have ec:c=i:=by
   rw [List.getElem?_range hi] at hc; exact (Option.some.inj hc).symm
  subst ec; refine ⟨hi,?_⟩
  rintro x H'' ⟨rfl,rfl⟩
  exact ⟨Hi',Ext.refl s2,.int _⟩
def zp9:D->Option (List D)
 | .lst ds=>some ds
 | .tup ds=>some ds
 | .str l=>some (l.map fun c=>.str [c])
 | _=>none
def zbw (t:TE'):TI':=fun Γ Q=>t Γ fun d Γ1=>∃ ds,zp9 d=some ds/\Q ds Γ1
def zoq {l tg:Expr} {tl:TE} (hl:PE X l tl):PI X tg l (fun σ H R=>tl σ H fun x H1=>(∃ a,x=.ref a/\(∃ xs,SqL X.K H1 a xs)/\R (Itl X.K a) H1)\/(∃ a,x=.ref a/\(∃ xs,SqT X.K H1 a xs)/\R (Itt X.K a) H1)\/(∃ z,x=.str z/\R (Its z.cps.toList) H1)):=by
 intro pins s σ H R I h
 refine thn (hl pins s σ H _ I h) fun v s1 ⟨x,H1,I1,r1,q1⟩=>?_
 have fin:∀ b ∈ [s1.heap.objs.size],zdq X pins H1 b:=fun b hb=>by
  have e:b=s1.heap.objs.size:=by simpa using hb
  subst e; exact I1.fpOk (yD _) (I1.hok.fresh (yD _))
 rcases q1 with ⟨a,rfl,⟨xs,hq⟩,q⟩ | ⟨a,rfl,⟨xs,hq⟩,q⟩ | ⟨z,rfl,q⟩
 ·cases r1
  obtain ⟨its,rv,p,hz⟩:=I1.list hq; refine wpAny_pyIter_list p.isList ?_
  exact ⟨s1.heap.objs.size,[s1.heap.objs.size],_,_,H1,rfl,I1.kept (t':=s1.toks) fun b o e=>yC _ e,zi7 a _,⟨_,yM _ rfl,rfl,rfl⟩,fin,q⟩
 ·cases r1
  obtain ⟨its,rv,p,hz⟩:=I1.tuple hq
  refine wpAny_pyIter_tuple (show s1.heap.IsTuple a its.toArray from p) ?_
  exact ⟨s1.heap.objs.size,[s1.heap.objs.size],_,_,H1,rfl,I1.kept (t':=s1.toks) fun b o e=>yC _ e,zid a _,⟨_,yM _ rfl,rfl,rfl⟩,fin,q⟩
 ·obtain ⟨t,rfl⟩:=r1
  cases ha:z.cps.all (·<128)
  ·refine wpAny_pyIter_wide ha ?_
   exact ⟨s1.heap.objs.size,[s1.heap.objs.size],_,_,H1,rfl,I1.kept (t':=s1.toks) fun b o e=>yC _ e,zhl z t _ (.inr rfl),⟨_,yM _ rfl,rfl,rfl⟩,fin,q⟩
  ·refine wpAny_pyIter_ascii ha ?_
   exact ⟨s1.heap.objs.size,[s1.heap.objs.size],_,_,H1,rfl,I1.kept (t':=s1.toks) fun b o e=>yC _ e,zhl z t _ (.inl rfl),⟨_,yM _ rfl,rfl,rfl⟩,fin,q⟩
def zb4 {l tg:Expr} {t:TE'} (hl:PE' X l t):PI' X tg l (zbw t):=by
 refine ⟨PI.weak (zoq hl.h) ?_⟩
 rintro σ H R ⟨W,Hi,Γ,Q',g,h,fin⟩
 refine ⟨W,Hi,Γ,_,g,h,?_⟩
 rintro v H1 ⟨Hi1,d,Γ1,s1,g1,den,ds,e,q⟩
 cases d with
 | lst es =>
  cases e; obtain ⟨a,vs,rfl,h1,h2⟩:=den.lstI; exact .inl ⟨a,rfl,⟨vs,zL g1.sub h1⟩,fin _ H1 Hi1 Γ1 _ s1 g1 (zmy h1 h2) q⟩
 | tup es =>
  cases e; obtain ⟨a,vs,rfl,h1,h2⟩:=den.tupI; exact .inr (.inl ⟨a,rfl,⟨vs,zK g1.sub h1⟩,fin _ H1 Hi1 Γ1 _ s1 g1 (zo4 h1 h2) q⟩)
 | str l =>
  cases e; refine .inr (.inr ⟨_,den.strI,?_⟩); rw [zR]; exact fin _ H1 Hi1 Γ1 _ s1 g1 (zo5 l) q
 | _=>cases e
def zez (t:TA'):TI':=fun Γ Q=>t Γ fun ds Γ1=>∃ j:Int,ds=[.int j]/\-(2 ^ 62)<=j/\j<2 ^ 62/\Q ((List.range j.toNat).map fun k=>.int (0+(k:Nat))) Γ1
def zcX {K:W.Frag} {H:Hp} {vs:List V} {d:D} (h:zaV K H vs [d]):∃ v,vs=[v]/\Den K H v d:=by
 cases h with
 | cons r t=>cases t; exact ⟨_,rfl,r⟩
def ziM {K:W.Frag} {H:Hp} {vs:List V} {d e:D} (h:zaV K H vs [d,e]):∃ v w,vs=[v,w]/\Den K H v d/\Den K H w e:=by
 cases h with
 | cons r t =>
  obtain ⟨w,rfl,q⟩:=zcX t; exact ⟨_,w,rfl,r,q⟩
def zeu {a tg:Expr} {t:TA'} {p pos:Pos} (hm:X.mg "range"=none) (ha:PA' X [a] t) (hg:Gl X "range":=by rfl):PI' X tg (.Call (.Name "range" p) [a] [] pos) (zez t):=by
 refine ⟨PI.weak (zjF hg hm ha.pa (zZ (zD ha.pl).1)) ?_⟩
 rintro σ H R ⟨W,Hi,Γ,Q',g,h,fin⟩
 refine ⟨W,Hi,Γ,_,g,h,?_⟩
 rintro vs H1 Hi1 Γ1 ds s1 g1 dl ⟨j,rfl,b1,b2,q⟩
 obtain ⟨v,rfl,den⟩:=zcX dl; rw [den.intI]; exact ⟨j,rfl,b1,b2,fin _ H1 Hi1 Γ1 _ s1 g1 (zo6 0 _) q⟩
def zkZ (src:List (Option Nat)) (Γ:Sts):Sts:=src.map fun o=>match o with
 | none=>.emp
 | some i=>match Γ[i]? with
  | some (.val d)=>.val d
  | _=>.emp
def voS:Slot->Slot
 | .val d=>.val d
 | _=>.emp
def vo (Γ:Sts):Sts:=Γ.map voS
def zcF (g:TG') (tc:TT') (te:TE') (Q:List D->Prop):List D->List D->Sts->Prop
 | [],acc,_=>Q acc
 | d :: ds,acc,Γ=>g d Γ fun Γ2=>tc Γ2 fun b Γ3=>if b=true then te Γ3 fun y Γ4=>zcF g tc te Q ds (acc ++ [y]) (vo Γ4) else zcF g tc te Q ds acc (vo Γ3)
def zbQ (ti:TI') (src:List (Option Nat)) (g:TG') (tc:TT') (te:TE'):TO':=fun Γ Q=>ti Γ fun ds Γ1=>ds.length<=sizeLine/\zcF g tc te (fun acc=>Q (.lst acc) Γ1) ds [] (zkZ src Γ1)
structure PTs' (X:Cx) (ifs:List Expr) (t:TT'):Prop where
 h:PTs X ifs (zpt X.K X.N.length t)
def zhn:TT':=fun Γ Q=>Q true Γ
def zeZ:PTs' X [] zhn:=by
 refine ⟨?_⟩; intro pins s σ H Q I h; obtain ⟨W,Hi,Γ,Q',g,h,fin⟩:=h; exact zoe pins s σ H Q I (fin true H Hi Γ (zU.refl _) g h)
def zhC {c:Expr} {t:TT'} (h:PT' X c t):PTs' X [c] t:=⟨zod h.h⟩
def ze2 {elt tg iter:Expr} {ifs:List Expr} {sc fsc:Scope} {ti:TI'} {g:TG'} {tc:TT'} {te:TE'} {N N':List Str} {src:List (Option Nat)} (B:Blk N N' src fsc sc) (hi:PI' X tg iter ti)
  (hg:∀ cl C s H fp pn,PG' (blk X N' sc cl C s H fp pn) tg g) (ht:∀ cl C s H fp pn,PTs' (blk X N' sc cl C s H fp pn) ifs tc) (he:∀ cl C s H fp pn,PE' (blk X N' sc cl C s H fp pn) elt te)
  (hx:X.xe=(fun _ _=>False):=by rfl) (hc:X.calm=true:=by rfl) (hN:X.N=N:=by rfl) (hs:X.env.scope=fsc:=by rfl)
  (hf:∀ x,foldedSetIterable iter X.env x=pure x:=by intro _; rfl):PO' X (.ListComp elt [⟨tg,iter,ifs,0⟩] sc pos) (zbQ ti src g tc te):=by
 refine ⟨PE.weak (zoz (g:=gOf X.K N'.length g) (tc:=zpt X.K N'.length tc) (te:=tOf X.K N'.length te) B hi.h (fun a b c d e f=>(hg a b c d e f).h) (fun a b c d e f=>(ht a b c d e f).h) (fun a b c d e f=>(he a b c d e f).h) hx hc hN hs hf) ?_⟩
 rintro σ H Q2 ⟨W,Hi,Γ,Q,gd,h,fin⟩
 refine ⟨W,Hi,Γ,_,gd,h,?_⟩
 rintro J H1 Hi1 Γ1 ds s1 g1 itd ⟨hlen,q⟩
 intro A hA
 -- the state between two turns
 have hn':src.length=N'.length:=B.len
 refine zgm (n:=ds.length) (fun i σ' H'=>∃ Hi' acc vs Γ',zU Hi1 Hi'/\Fz Hi' H'/\(∀ b o,H1 b=some o->H' b=some o)/\(∀ b o,H1 b=some o->Hi' b=Hi1 b)/\Hi' A=none/\H' A=some (.lst vs)/\zaV X.K Hi' vs acc/\vs.length<=i/\σ'.length=N'.length /\
   (∀ (j:Nat) s,Γ'[j]?=some s->s=.emp\/∃ d,s=.val d/\∃ v,σ'[j]?=some (some v)/\Den X.K Hi' v d)/\zcF g tc te (fun acc=>Q (.lst acc) Γ1) (ds.drop i) acc Γ') ?_ ?_ ?_
 ·refine ⟨Hi1,[],[],zkZ src Γ1,zU.refl _,(Ext.newO g1.fz hA _ (fun _ z=>by cases z)).fz,fun b o e=>zH hA _ b o e,fun b o e=>rfl,g1.sub.free hA,zn,.nil,yn _,?_,fun j s e=>?_,by simpa using q⟩
  ·unfold zlr; rw [yG,hn']
  ·unfold zkZ at e
   rw [yK] at e
   cases hj:src[j]? with
   | none=>rw [hj] at e; cases e
   | some o =>
    rw [hj] at e
    cases o with
    | none=>cases e; exact .inl rfl
    | some i =>
     have e':(match Γ1[i]? with | some (.val d)=>Slot.val d | _=>.emp)=s:=Option.some.inj e
     cases hΓ:Γ1[i]? with
     | none=>rw [hΓ] at e'; exact .inl e'.symm
     | some sl =>
      rw [hΓ] at e'
      cases sl with
      | val d =>
       refine .inr ⟨d,e'.symm,?_⟩; obtain ⟨v,h1,h2⟩:=g1.val i d hΓ; refine ⟨v,?_,h2⟩; unfold zlr; rw [yK,hj]
       show some ((some i).bind fun i=>(σ[i]?).join)=some (some v)
       show some ((σ[i]?).join)=some (some v)
       rw [h1]; rfl
      | emp=>exact .inl e'.symm
      | own o=>exact .inl e'.symm
      | bk _ _ _=>exact .inl e'.symm
 ·rintro i σ' H' hlt ⟨Hi',acc,vs,Γ',s2,s3,k1,k2,hA1,hA2,dl,hv,hl,hsl,q⟩
  have hd:ds.drop i=ds[i] :: ds.drop (i+1):=YK hlt
  rw [hd] at q; obtain ⟨go,yl⟩:=(itd Hi' H' s2 s3).1 i ds[i] (yB hlt)
  refine ⟨go,fun x H'' y=>?_⟩
  obtain ⟨Hi'',ex,den⟩:=yl x H'' y
  have gb:Good X.K N'.length ⟨H'',Hi'',[]⟩ Hi'' Γ' σ' H'':=by
   refine ⟨hl,ex.fz,fun b o e _=>e,fun b o e=>⟨o,e⟩,fun b o e=>rfl,fun j d e=>?_,fun j o e=>?_,fun j k o o' b e=>?_,fun j d b xs e=>?_⟩
   ·rcases hsl j _ e with z | ⟨d',z,v,h1,h2⟩
    ·cases z
    ·cases z; exact ⟨v,h1,h2.mono ex.hi⟩
   ·rcases hsl j _ e with z | ⟨d',z,_⟩ <;> cases z
   ·rcases hsl j _ e with z | ⟨d',z,_⟩ <;> cases z
   ·rcases hsl j _ e with z | ⟨d',z,_⟩ <;> cases z
  refine ⟨⟨H'',Hi'',[]⟩,Hi'',Γ',ds[i],_,gb,den,q,?_⟩; intro σ3 H3 Hi3 Γ3 s4 g3 q3; refine ⟨⟨H'',Hi'',[]⟩,Hi3,Γ3,_,g3,q3,?_⟩; intro b H4 Hi4 Γ4 s5 g4 q4
  -- what the state is behind a turn
  have back:∀ {Γ5:Sts} {Hi5 H5:Hp},zU Hi4 Hi5->Good X.K N'.length ⟨H'',Hi'',[]⟩ Hi5 Γ5 σ3 H5 ->
    zU Hi1 Hi5/\Fz Hi5 H5/\(∀ b o,H1 b=some o->H5 b=some o)/\(∀ b o,H1 b=some o->Hi5 b=Hi1 b)/\Hi5 A=none/\H5 A=some (.lst vs)/\zU Hi' Hi5:=fun {Γ5 Hi5 H5} s6 g5=>by
   have sx:zU Hi' Hi5:=ex.hi.trans (s4.trans (s5.trans s6))
   have hA3:H'' A=some (.lst vs):=ex.h _ _ hA2
   refine ⟨s2.trans sx,g5.fz,fun b o e=>g5.keep b o (ex.h _ _ (k1 b o e)) (by simp),fun b o e=>?_,?_,g5.keep A _ hA3 (by simp),sx⟩
   ·rw [g5.fro b o (ex.h _ _ (k1 b o e))]
    show Hi'' b=Hi1 b
    rw [ex.fro b o (k1 b o e),k2 b o e]
   ·rw [g5.fro A _ hA3]
    show Hi'' A=none
    rw [ex.fro A _ hA2,hA1]
  have sl:∀ {Γ5:Sts} {Hi5 H5:Hp},Good X.K N'.length ⟨H'',Hi'',[]⟩ Hi5 Γ5 σ3 H5->∀ (j:Nat) s,(vo Γ5)[j]?=some s->s=.emp\/∃ d,s=.val d/\∃ v,σ3[j]?=some (some v)/\Den X.K Hi5 v d:=fun {Γ5 Hi5 H5} g5 j s e=>by
   unfold vo at e; rw [yK] at e
   cases hj:Γ5[j]? with
   | none=>rw [hj] at e; cases e
   | some sl =>
    rw [hj] at e
    cases sl with
    | val d =>
     cases e; exact .inr ⟨d,rfl,g5.val j d hj⟩
    | emp=>cases e; exact .inl rfl
    | own o=>cases e; exact .inl rfl
    | bk _ _ _=>cases e; exact .inl rfl
  cases b with
  | false =>
   simp only [YL,if_false] at q4 ⊢; obtain ⟨b1,b2,b3,b4,b5,b6,b7⟩:=back (zU.refl _) g4
   exact ⟨Hi4,acc,vs,vo Γ4,b1,b2,b3,b4,b5,b6,dl.mono b7,by omega,g4.len,sl g4,q4⟩
  | true =>
   simp only [if_true] at q4 ⊢; refine ⟨⟨H'',Hi'',[]⟩,Hi4,Γ4,_,g4,q4,?_⟩
   rintro y' H5 ⟨Hi5,dy,Γ5,s6,g5,den5,q5⟩
   obtain ⟨b1,b2,b3,b4,b5,b6,b7⟩:=back s6 g5
   refine ⟨vs,b6,by omega,Hi5,acc ++ [dy],vs ++ [y'],vo Γ5,b1,?_,?_,b4,b5,zn,zaL (dl.mono b7) (.cons den5 .nil),by rw [yg]; simp; omega,g5.len,sl g5,q5⟩
   ·refine ⟨fun b o e=>?_,fun b xs e=>?_⟩
    ·rw [zq (fun z=>by rw [z,b5] at e; cases e)]
     exact b2.sub b o e
    ·by_cases hb:b=A
     ·subst hb; rw [zn] at e; cases e
     ·rw [zq hb] at e; exact b2.tups b xs e
   ·intro b o e
    rw [zq (zw e hA)]; exact b3 b o e
 ·rintro σ' H' ⟨Hi',acc,vs,Γ',s2,s3,k1,k2,hA1,hA2,dl,hv,hl,hsl,q⟩
  refine ⟨(itd Hi' H' s2 s3).2,?_⟩; rw [YM (yD _)] at q
  have ex:Ext Hi1 H1 Hi' H':=⟨s2,k1,s3,k2⟩
  refine fin A H' Hi' Γ1 (.lst acc) (s1.trans s2) (g1.ext ex) ⟨hA1,?_,⟨fun j o' e z=>?_,fun j d xs e=>?_⟩,vs,hA2,dl⟩ q
  ·cases hq:W.H₀ A with
   | none=>rfl
   | some w =>
    obtain ⟨w',hw⟩:=g1.there A w hq
    rw [hA] at hw; cases hw
  ·obtain ⟨a,h1,_,_,h4⟩:=g1.own j o' e
   rw [z] at h1; cases h1; obtain ⟨w,hw⟩:=h4.there
   rw [hA] at hw; cases hw
  ·obtain ⟨w,hw⟩:=(g1.bk j d A xs e).at_.there
   rw [hA] at hw; cases hw
abbrev Sp':=List D->(Res->Prop)->Prop
def zhv (K:W.Frag) (sp:Sp'):Sp:=fun vs H Q2 _=>∃ Hi ds Q,Fz Hi H/\zaV K Hi vs ds/\sp ds Q/\∀ Hi' H' v r,Ext Hi H Hi' H'->zpr K H Hi' H' v r->Q r->Q2 v H'
def zJ (sp:Sp') (t:TA'):TE':=fun Γ Q=>t Γ fun ds Γ1=>sp ds fun r=>Q r.toD Γ1
def zc3 (sp:Sp') (t:TA'):TO':=fun Γ Q=>t Γ fun ds Γ1=>sp ds fun r=>∃ o,r=.own o/\Q o Γ1
variable {k:Nat} {f:Addr} {fd:FuncData} {ps:List Str} {sp:Sp'} {x:Str} {p:Pos} {e:Expr} {es:List Expr} {t:TA'}
def za8 {K:W.Frag} {n:Nat} {W:Wd} {Hi H Hi' H':Hp} {Γ:Sts} {σ:St} {a:Addr} {o:OD} (g:Good K n W Hi Γ σ H) (ex:Ext Hi H Hi' H') (h1:Hi' a=none) (h2:H a=none) (h3:zbC K Hi' H' a o):New K n W Hi' Γ σ H' a o:=by
 refine ⟨h1,?_,⟨fun j o' e z=>?_,fun j d xs e=>?_⟩,h3⟩
 ·cases q:W.H₀ a with
  | none=>rfl
  | some w =>
   obtain ⟨w',hw⟩:=g.there a w q
   rw [h2] at hw; cases hw
 ·obtain ⟨b,q1,_,_,q4⟩:=g.own j o' e
  rw [z] at q1; cases q1; obtain ⟨w,hw⟩:=q4.there
  rw [h2] at hw; cases hw
 ·obtain ⟨w,hw⟩:=(g.bk j d a xs e).at_.there
  rw [h2] at hw; cases hw
def zlY (F:FnOk X.prog X.w X.K X.mg X.base CX0 k f fd ps (zhv X.K sp)) (hr:Room k X.A) (hm:X.mg x=some (.ref f)) (hk:W.keepIn X.K (.ref f)=true) (hb:zbX X.K fd ps [])
  (ha:PA' X (e :: es) t) (hg:Gl X x:=by rfl) (hdb:yyD x:=by decide) :
  PE' X (.Call (.Name x p) (e :: es) [] pos) (zJ sp t):=by
 refine ⟨PE.weak (zjK (E:=E0) (dvs:=[]) F hr hg hm hk hb .nil zqP ha.pa hdb (zZ (zD ha.pl).1) (zaa (zD ha.pl).2)) ?_⟩
 rintro σ H Q ⟨W,Hi,Γ,Q',g,h,fin⟩
 refine ⟨W,Hi,Γ,_,g,h,?_⟩; intro vs H1 Hi1 Γ1 ds s1 g1 dl q; rw [yd]; refine ⟨Hi1,ds,_,g1.fz,dl,q,?_⟩; intro Hi2 H2 v r ex ro q2
 cases r with
 | val d=>exact fin v H2 ⟨Hi2,d,Γ1,s1.trans ex.hi,g1.ext ex,ro,q2⟩
 | own o =>
  obtain ⟨a,rfl,h1,h2,h3⟩:=ro; have nw:=za8 g1 ex h1 h2 h3; obtain ⟨u,hu⟩:=h3.there; exact fin _ H2 ⟨upd Hi2 a u,_,Γ1,s1.trans (ex.hi.trans (zH h1 u)),(g1.ext ex).freezeA nw.hi nw.h0 nw.ne hu,h3.den h1 hu,q2⟩
 | bk d o =>
  obtain ⟨b,dv,hol,h1,h2,h3⟩:=ro; have nw:=za8 g1 ex h1 h2 h3; obtain ⟨u,hu⟩:=h3.there; exact fin _ H2 ⟨upd Hi2 b u,_,Γ1,s1.trans (ex.hi.trans (zH h1 u)),(g1.ext ex).freezeA nw.hi nw.h0 nw.ne hu,hol b _ v o (h3.den h1 hu) (dv.mono (zH h1 u)),q2⟩
def zom (F:FnOk X.prog X.w X.K X.mg X.base CX0 k f fd ps (zhv X.K sp)) (hr:Room k X.A) (hm:X.mg x=some (.ref f)) (hk:W.keepIn X.K (.ref f)=true) (hb:zbX X.K fd ps [])
  (ha:PA' X (e :: es) t) (hg:Gl X x:=by rfl) (hdb:yyD x:=by decide) :
  PO' X (.Call (.Name x p) (e :: es) [] pos) (zc3 sp t):=by
 refine ⟨PE.weak (zjK (E:=E0) (dvs:=[]) F hr hg hm hk hb .nil zqP ha.pa hdb (zZ (zD ha.pl).1) (zaa (zD ha.pl).2)) ?_⟩
 rintro σ H Q ⟨W,Hi,Γ,Q',g,h,fin⟩
 refine ⟨W,Hi,Γ,_,g,h,?_⟩; intro vs H1 Hi1 Γ1 ds s1 g1 dl q; rw [yd]; refine ⟨Hi1,ds,_,g1.fz,dl,q,?_⟩
 rintro Hi2 H2 v r ex ro ⟨o,rfl,q2⟩
 obtain ⟨a,rfl,h1,h2,h3⟩:=ro; exact fin a H2 Hi2 Γ1 o (s1.trans ex.hi) (g1.ext ex) (za8 g1 ex h1 h2 h3) q2
end
def zaG (N:List Str) (ds:List D):Sts:=ds.map .val ++ List.replicate (N.length-ds.length) .emp
section
def Fun.ok' {x qual:Str} {st:Stmt} {f:Addr} {fd:FuncData} {N ps:List Str} {k:Nat} {sp:Sp'} (F:Fun K x qual st f fd) (S:FnScope N ps (zm st)) (len:∀ ds Q,sp ds Q->ds.length=ps.length)
  (hbody:∀ (cdv:Value) (A:Around) (outer:List Env) (s:Shared) (H:Hp) (E:XK),Room k (A.deeper (PyProof.Rows.envOfC qual (zm st) s.heap.objs.size f cdv))->∀ ds Q,sp ds Q ->
   ∃ t,PSs' (zdj CX0 P w K mg base N qual (zm st) f cdv A outer s H E).nox (zaw st) t/\t { nx:=fun _=>Q (.val .non),rt:=fun r _=>Q r } (zaG N ds)):FnOk P w K mg base CX0 (k+1) f fd ps (zhv K sp):=by
 refine F.ok S (fun vs H Q E h=>?_) (fun cdv A outer s H vs Q E hr h=>?_)
 ·obtain ⟨Hi,ds,Q',_,dl,h,_⟩:=h
  rw [zj dl]; exact len ds Q' h
 obtain ⟨Hi,ds,Q',sb,dl,h,fin⟩:=h; obtain ⟨t,h1,h2⟩:=hbody cdv A outer s H E hr ds Q' h
 have hlen:ds.length=ps.length:=len ds Q' h
 have hpl:ps.length<=N.length:=by have:=ym List.length S.pre; rw [YB] at this; omega
 have hvl:=zj dl; refine ⟨_,h1.h,⟨H,Hi,[]⟩,Hi,zaG N ds,_,?_,h2,?_⟩
 ·refine ⟨?_,sb,fun b o e _=>e,fun b o e=>⟨o,e⟩,fun b o e=>rfl,fun j d e=>?_,fun j o e=>?_,fun j k o o' b e=>?_,fun j d b xs e=>?_⟩
  ·unfold L2.start
   show _=N.length
   rw [yg,yG,List.length_replicate]; omega
  all_goals
   unfold zaG at e
   by_cases hj:j<ds.length
   ·rw [YX (by simpa using hj),yK,yB hj] at e
    try cases e
    try
     obtain ⟨v,e1,e2⟩:=zab dl (yB hj); refine ⟨v,?_,e2⟩; unfold L2.start
     rw [YX (by rw [yG]; omega),yK,e1]
     rfl
   ·rw [List.getElem?_append_right (by simpa using hj),List.getElem?_replicate] at e
    split at e <;> cases e
 ·refine ⟨fun σ' H' Hi' Γ' s1 g1 q=>?_,fun _ _ _ _ _ _ q=>q.elim,fun _ _ _ _ _ _ q=>q.elim,fun v σ' H' Hi' Γ' r s1 g1 ro q=>?_⟩
  ·exact fin Hi' H' .non (.val .non) ⟨s1,fun b o e=>g1.keep b o e (by simp),g1.fz,fun b o e=>g1.fro b o e⟩ .non q
  ·exact fin Hi' H' v r ⟨s1,fun b o e=>g1.keep b o e (by simp),g1.fz,fun b o e=>g1.fro b o e⟩ ro q
end
end PL
namespace L2
open PySem PySem.Spec PyProof.Rows
section
def zjr (r:Addr) (a b:Int) (t u v:Tok) (i:Int) (t':Tok):Meets (Builtin.«range.__contains__» ⟨[.ref r,.int i t'],[]⟩) (fun _ R s=>s.heap.get? r=some { cls:=.type "range",dict:=none,data:=.fields #[.int a t,.int b u,.int 1 v],slots:=#[] } /\
  R (.ok (.ret (.bool (Builtin.Range.rangePlace? a b 1 i).isSome))) s) :=
 .of_wp fun prog w A R s h=>by obtain ⟨hp,g,d,tk,os⟩:=s; obtain ⟨hl,h⟩:=h; wp_walk; exact ⟨_,rfl,h⟩
def zit (a b i:Int):(Builtin.Range.rangePlace? a b 1 i).isSome=decide (a<=i/\i<b):=by
 unfold Builtin.Range.rangePlace?
 have h1:(1:Int) > 0:=by decide
 have h2:(i-a) % 1=0:=Int.emod_one _
 simp only [h1,if_true,h2,beq_self_eq_true,Bool.and_true]
 by_cases h:a<=i/\i<b
 ·have e:(decide (a<=i) && decide (i<b))=true:=by simp [h.1,h.2]
  rw [yI e,YD h]; rfl
 ·have e:¬ (decide (a<=i) && decide (i<b))=true:=by
   intro z; simp only [yp,yo] at z; exact h z
  rw [yH e,yY h]; rfl
def zux (neg:Bool):R2:=fun x y H Q=>∃ i p lo hi,x=.int i/\y=.ref p/\Rd H p (.rng lo hi)/\Q (.bl (if neg then !decide (lo<=i/\i<hi) else decide (lo<=i/\i<hi))) H
def zfY:OpR X (compareOp .NotIn) (zux true):=by
 intro pins s σ H x y v u Q I rx ry h; obtain ⟨i,p,lo,hi,rfl,rfl,hp,q⟩:=h; obtain ⟨t,rfl⟩:=rx; cases ry; obtain ⟨t1,t2,t3,e⟩:=hp.ok I.hok; refine PySem.SeqRoads2.notIn_meets ⟨_,e,rfl⟩ F.slot_range_contains F.entry_range_contains (F.args_range_contains_2 _ _) (zjr p lo hi t1 t2 t3 i t) ⟨e,_,rfl,⟨.bl _,H,I,rfl,?_⟩⟩; rw [zit]; exact q
def zrG (K:W.Frag) (H:Hp):V->String->Prop
 | .non,t=>t="NoneType"
 | .bl _,t=>t="bool"
 | .int _,t=>t="int"
 | .str _,t=>t="str"
 | .ref a,t=>(t="list"/\∃ xs,SqL K H a xs)\/(t="tuple"/\∃ xs,SqT K H a xs)\/(t="dict"/\((∃ kvs,Rd H a (.dK kvs))\/∃ kvs,Rd H a (.dT kvs)))
 | _,_=>False
end
end L2
namespace PL
open PySem L2
section
def zfb {g:Int->Int->V} (g':Int->Int->D) (hg:∀ i j Hi,Den K Hi (g i j) (g' i j)):ziV K (rI0 g) (fun x y Q=>∃ i j,x=.int i/\y=.int j/\Q (g' i j)):=by
 rintro Hi H x y dx dy Q Q2 s d1 d2 ⟨i,j,rfl,rfl,q⟩ fin
 exact ⟨i,j,d1.intI,d2.intI,fin Hi H _ _ (Ext.refl s) (hg i j Hi) q⟩
def zjY {C:Int->Int->Prop} {g:Int->Int->V} (g':Int->Int->D) (hg:∀ i j Hi,Den K Hi (g i j) (g' i j)):ziV K (rI C g) (fun x y Q=>∃ i j,x=.int i/\y=.int j/\C i j/\Q (g' i j)):=by
 rintro Hi H x y dx dy Q Q2 s d1 d2 ⟨i,j,rfl,rfl,c,q⟩ fin
 exact ⟨i,j,d1.intI,d2.intI,c,fin Hi H _ _ (Ext.refl s) (hg i j Hi) q⟩
def zn9 (g:Int->Int->D):R2':=fun x y Q=>∃ i j,x=.int i/\y=.int j/\Q (g i j)
def rI' (C:Int->Int->Prop) (g:Int->Int->D):R2':=fun x y Q=>∃ i j,x=.int i/\y=.int j/\C i j/\Q (g i j)
def zs7:Op2 X (binaryOp .Add) (zn9 fun i j=>.int (i+j)):=⟨_,zqW,zfb _ fun i j _=>.int _⟩
def zs2:Op2 X (binaryOp .Sub) (zn9 fun i j=>.int (i-j)):=⟨_,zqQ,zfb _ fun i j _=>.int _⟩
def zs3:Op2 X (binaryOp .Mult) (rI' zmT fun i j=>.int (i * j)):=⟨_,zqR,zjY _ fun i j _=>.int _⟩
def zbp:Op2 X (binaryOp .FloorDiv) (rI' zmU fun i j=>.int (i / j)):=⟨_,zoF,zjY _ fun i j _=>.int _⟩
def zcm:Op2 X (binaryOp .Mod) (rI' (fun _ j=>0<j) fun i j=>.int (i % j)):=⟨_,zqS,zjY _ fun i j _=>.int _⟩
def ztV:Op2 X (compareOp .Lt) (zn9 fun i j=>.bl (decide (i<j))):=⟨_,zsZ,zfb _ fun i j _=>.bl _⟩
def zuB:Op2 X (compareOp .Gt) (zn9 fun i j=>.bl (decide (j<i))):=⟨_,zs0,zfb _ fun i j _=>.bl _⟩
def zgQ:R2':=fun x y Q=>∃ l m,x=.str l/\y=.str m/\l.length+m.length<=sizeLine/\Q (.str (l ++ m))
def zq2:Op2 X (binaryOp .Add) zgQ:=⟨_,ziw,by
 rintro Hi H x y dx dy Q Q2 s d1 d2 ⟨l,m,rfl,rfl,hl,q⟩ fin
 refine ⟨_,_,d1.strI,d2.strI,by rw [zbm,zbm]; exact hl,?_⟩
 rw [zp6]; exact fin Hi H _ _ (Ext.refl s) (.str _) q⟩
def eqS:D->D->Option Bool
 | .non,.non=>some true
 | .non,.int _=>some false
 | .non,.bl _=>some false
 | .non,.str _=>some false
 | .int _,.non=>some false
 | .bl _,.non=>some false
 | .str _,.non=>some false
 | .int i,.int j=>some (decide (i=j))
 | .bl i,.bl j=>some (decide (i=j))
 | .str i,.str j=>some (decide (i=j))
 | .int _,.str _=>some false
 | .str _,.int _=>some false
 | .bl _,.str _=>some false
 | .str _,.bl _=>some false
 | _,_=>none
inductive Scl (K:W.Frag) (Hi:Hp) (x:V):D->Prop where
 | n (h:x=.non):Scl K Hi x .non
 | b (b:Bool) (h:x=.bl b):Scl K Hi x (.bl b)
 | i (i:Int) (h:x=.int i):Scl K Hi x (.int i)
 | s (l:List Nat) (h:x=.str (st l)):Scl K Hi x (.str l)
def zcV {dx dy:D} {b:Bool} (h:eqS dx dy=some b):dx=.non\/(∃ b,dx=.bl b)\/(∃ i,dx=.int i)\/∃ l,dx=.str l:=by
 cases dx with
 | non=>exact .inl rfl
 | bl b=>exact .inr (.inl ⟨b,rfl⟩)
 | int i=>exact .inr (.inr (.inl ⟨i,rfl⟩))
 | str l=>exact .inr (.inr (.inr ⟨l,rfl⟩))
 | _=>cases dy <;> exact nomatch h
def zki (dx dy:D) {b:Bool} (h:eqS dx dy=some b):∃ c,eqS dy dx=some c:=by
 rcases zcV h with rfl | ⟨i,rfl⟩ | ⟨i,rfl⟩ | ⟨i,rfl⟩ <;> cases dy <;> first | exact ⟨_,rfl⟩ | exact nomatch h
def Den.scl {Hi:Hp} {x:V} {d:D} (d1:Den K Hi x d) (h:d=.non\/(∃ b,d=.bl b)\/(∃ i,d=.int i)\/∃ l,d=.str l):Scl K Hi x d:=by
 rcases h with rfl | ⟨i,rfl⟩ | ⟨i,rfl⟩ | ⟨i,rfl⟩
 ·exact .n d1.nonI
 ·exact .b _ d1.blI
 ·exact .i _ d1.intI
 ·exact .s _ d1.strI
def znA {Hi:Hp} {x y:V} {dx dy:D} {b:Bool} (d1:Den K Hi x dx) (d2:Den K Hi y dy) (h:eqS dx dy=some b):zn4 x y=true/\decide (x=y)=b:=by
  have s1:=d1.scl (zcV h); have s2:=d2.scl (zcV (zki _ _ h).choose_spec)
  cases s1 <;> rename_i e1 <;> subst e1 <;> cases s2 <;> rename_i e2 <;> subst e2 <;> first
    | (exact yP (show (none:Option Bool)=some b from h) (fun z=>nomatch z))
    | (refine ⟨rfl,?_⟩
       have h':=Option.some.inj h
       subst h'
       first
         | rfl
         | (exact decide_eq_decide.mpr ⟨fun z=>V.int.inj z,fun z=>ym V.int z⟩)
         | (exact decide_eq_decide.mpr ⟨fun z=>V.bl.inj z,fun z=>ym V.bl z⟩)
         | (exact decide_eq_decide.mpr ⟨fun z=>st_inj (V.str.inj z),fun z=>ym (fun l=>V.str (st l)) z⟩)
         | (exact yY (fun z=>nomatch z)))
def zlC (neg:Bool):R2':=fun x y Q=>∃ c l,x=.str [c]/\y=.str l/\Q (.bl (if neg then !decide (c ∈ l) else decide (c ∈ l)))
def zs6:Op2 X (compareOp .In) (zlC false):=⟨_,zjL,by
 rintro Hi H x y dx dy Q Q2 s d1 d2 ⟨c,l,rfl,rfl,q⟩ fin
 refine ⟨_,_,d1.strI,d2.strI,?_⟩; rw [znu]; exact fin Hi H _ _ (Ext.refl s) (.bl _) q⟩
def zl2:Op2 X (compareOp .NotIn) (zlC true):=⟨_,zfW,by
 rintro Hi H x y dx dy Q Q2 s d1 d2 ⟨c,l,rfl,rfl,q⟩ fin
 refine ⟨_,_,d1.strI,d2.strI,?_⟩; rw [znu]; exact fin Hi H _ _ (Ext.refl s) (.bl _) q⟩
def zlD (neg:Bool):R2':=fun x y Q=>∃ i lo hi,x=.int i/\y=.rng lo hi/\Q (.bl (if neg then !decide (lo<=i/\i<hi) else decide (lo<=i/\i<hi)))
def zl3:Op2 X (compareOp .NotIn) (zlD true):=⟨_,zfY,by
 rintro Hi H x y dx dy Q Q2 s d1 d2 ⟨i,lo,hi,rfl,rfl,q⟩ fin
 cases d2 with
 | rng h=>exact ⟨i,_,lo,hi,d1.intI,rfl,zda s.sub h,fin Hi H _ _ (Ext.refl s) (.bl _) q⟩⟩
def zlB (neg:Bool):R2':=fun x y Q=>y=.non/\∃ b:Bool,(b=true↔x=.non)/\Q (.bl (if neg then !b else b))
def zq0:Op2 X (compareOp .Is) (zlB false):=⟨_,zqU,by
 rintro Hi H x y dx dy Q Q2 s d1 d2 ⟨rfl,b,e,q⟩ fin
 refine ⟨d2.nonI,?_⟩
 have z:decide (x=.non)=b:=by
  rw [Bool.eq_iff_iff,e,yo]; exact d1.non_iff
 rw [z]; exact fin Hi H _ _ (Ext.refl s) (.bl _) q⟩
def zl4:Op2 X (compareOp .IsNot) (zlB true):=⟨_,zoE,by
 rintro Hi H x y dx dy Q Q2 s d1 d2 ⟨rfl,b,e,q⟩ fin
 refine ⟨d2.nonI,?_⟩
 have z:decide (x=.non)=b:=by
  rw [Bool.eq_iff_iff,e,yo]; exact d1.non_iff
 rw [z]; exact fin Hi H _ _ (Ext.refl s) (.bl _) q⟩
def zkQ:R2':=fun x y Q=>∃ i,y=.int i/\((∃ ds d,x=.lst ds/\atI ds i=some d/\Q d)\/(∃ ds d,x=.tup ds/\atI ds i=some d/\Q d)\/∃ l c,x=.str l/\l.length<=sizeLine/\atI l i=some c/\Q (.str [c]))
def zkF {Hi:Hp} {vs:List V} {ds:List D} {i:Int} {d:D} (r:zaV K Hi vs ds) (h:atI ds i=some d):∃ v,atI vs i=some v/\Den K Hi v d:=by
 unfold atI at h ⊢
 rw [zj r]
 cases e:ixN ds.length i with
 | none=>rw [e] at h; cases h
 | some j =>
  rw [e] at h
  obtain ⟨v,h1,h2⟩:=zab r (show ds[j]?=some d from h)
  exact ⟨v,h1,h2⟩
def ztd:Ixs X zkQ:=⟨_,zrg,by
 rintro Hi H x y dx dy Q Q2 s d1 d2 ⟨i,rfl,h⟩ fin
 rcases h with ⟨ds,d,rfl,e,q⟩ | ⟨ds,d,rfl,e,q⟩ | ⟨l,c,rfl,hl,e,q⟩
 ·obtain ⟨a,vs,rfl,h1,h2⟩:=d1.lstI
  obtain ⟨v,h3,h4⟩:=zkF h2 e; exact .inl ⟨a,vs,i,v,rfl,d2.intI,zL s.sub h1,h3,fin Hi H _ _ (Ext.refl s) h4 q⟩
 ·obtain ⟨a,vs,rfl,h1,h2⟩:=d1.tupI
  obtain ⟨v,h3,h4⟩:=zkF h2 e; exact .inr (.inl ⟨a,vs,i,v,rfl,d2.intI,zK s.sub h1,h3,fin Hi H _ _ (Ext.refl s) h4 q⟩)
 ·refine .inr (.inr ⟨_,i,c,d1.strI,d2.intI,by rw [zbm]; exact hl,by rw [zR]; exact e,fin Hi H _ _ (Ext.refl s) (.str [c]) q⟩)⟩
def zdk {α:Type} (xs:List α) (lo hi:Option Int):List α:=(xs.drop (HT.sIx xs.length 0 lo)).take (HT.sIx xs.length xs.length hi-HT.sIx xs.length 0 lo)
def zin:RS':=fun x lo hi Q=>∃ l,x=.str l/\l.length<=sizeLine/\((lo=none/\∃ n,hi=some n/\0<=n/\Q (.str (l.take n.toNat)))\/(hi=none/\∃ n,lo=some n/\0<=n/\Q (.str (l.drop n.toNat))))
def zsC:Sli X zin:=⟨_,zp8,by
 rintro Hi H x dx lo hi Q Q2 s d1 ⟨l,rfl,hl,h⟩ fin
 refine ⟨st l,d1.strI,by rw [zbm]; exact hl,?_⟩
 rcases h with ⟨rfl,n,rfl,hn,q⟩ | ⟨rfl,n,rfl,hn,q⟩
 ·obtain ⟨m,rfl⟩:=Int.eq_ofNat_of_zero_le hn
  rw [zlq]; exact fin Hi H _ _ (Ext.refl s) (.str _) q
 ·obtain ⟨m,rfl⟩:=Int.eq_ofNat_of_zero_le hn
  rw [zik]; exact fin Hi H _ _ (Ext.refl s) (.str _) q⟩
def zfN:RS':=fun x lo hi Q=>∃ ds,x=.tup ds/\Q (.tup (zdk ds lo hi))
def zio:RS':=fun x lo hi Q=>∃ ds,x=.lst ds/\Q (.lst (zdk ds lo hi))
def zkw {Hi:Hp} {vs:List V} {ds:List D} {lo hi:Option Int} (r:zaV K Hi vs ds):zaV K Hi (zkx vs lo hi) (zdk ds lo hi):=by
 unfold zkx zdk; rw [zj r]; exact zdM _ (zdN _ r)
def zqa:Sli X zio:=⟨_,zn3,by
 rintro Hi H x dx lo hi Q Q2 s d1 ⟨ds,rfl,q⟩ fin
 obtain ⟨a,vs,rfl,h1,h2⟩:=d1.lstI
 refine ⟨a,vs,rfl,zL s.sub h1,fun p hp=>?_⟩
 have e:=Ext.new s hp (.lst (zkx vs lo hi)); exact fin _ _ _ _ e (Den.mkL (SqL.of zn) (zkw (h2.mono e.hi))) q⟩
def zeh:RC':=fun ds Q=>∃ d,ds=[d]/\((∃ l,d=.str l/\l.length<=sizeLine/\Q (.int (l.length:Nat)))\/(∃ es,d=.lst es/\Q (.int (es.length:Nat)))\/∃ es,d=.tup es/\Q (.int (es.length:Nat)))
def ztv:Cal X (.builtin "len") zeh:=⟨_,zgs.or zgt,by
 rintro Hi H vs ds Q Q2 s dl ⟨d,rfl,h⟩ fin
 obtain ⟨v,rfl,den⟩:=zcX dl
 rcases h with ⟨l,rfl,hl,q⟩ | ⟨es,rfl,q⟩ | ⟨es,rfl,q⟩
 ·refine .inl ⟨_,by rw [den.strI],by rw [zbm]; exact hl,?_⟩
  rw [zbm]; exact fin Hi H _ _ (Ext.refl s) (.int _) q
 ·obtain ⟨a,us,rfl,h1,h2⟩:=den.lstI
  refine .inr ⟨a,us,rfl,.inl (zL s.sub h1),?_⟩; rw [zj h2]; exact fin Hi H _ _ (Ext.refl s) (.int _) q
 ·obtain ⟨a,us,rfl,h1,h2⟩:=den.tupI
  refine .inr ⟨a,us,rfl,.inr (zK s.sub h1),?_⟩; rw [zj h2]; exact fin Hi H _ _ (Ext.refl s) (.int _) q⟩
def zqo:RC':=fun ds Q=>∃ l n,ds=[.str l]/\PySem.intText? (st l)=some n/\l.length<=640/\Q (.int n)
def ztw:Cal X (.type "int") zqo:=⟨_,zgu,by
 rintro Hi H vs ds Q Q2 s dl ⟨l,n,rfl,e,hl,q⟩ fin
 obtain ⟨v,rfl,den⟩:=zcX dl
 exact ⟨_,n,by rw [den.strI],e,by rw [zbm]; exact hl,fin Hi H _ _ (Ext.refl s) (.int _) q⟩⟩
def zkS (i:Int):List Nat:=(Str.ofString (toString i)).cps.toList
def zn8:RC':=fun ds Q=>∃ i,ds=[.int i]/\i.natAbs.log2<1920/\Q (.str (zkS i))
def ztu:Cal X (.type "str") zn8:=⟨_,zgo,by
 rintro Hi H vs ds Q Q2 s dl ⟨i,rfl,hl,q⟩ fin
 obtain ⟨v,rfl,den⟩:=zcX dl
 refine ⟨i,by rw [den.intI],hl,?_⟩
 refine fin Hi H _ (.str (zkS i)) (Ext.refl s) ?_ q
 have e:(V.str (toString i))=.str (st (zkS i)):=by
  unfold zkS; rw [<- zp5]
 rw [e]; exact .str _⟩
def zhz:RC':=fun ds Q=>∃ d es,ds=[d]/\(d=.lst es\/d=.tup es)/\Q (.tup es)
def zea:Cal X (.type "tuple") zhz:=⟨_,zfs,by
 rintro Hi H vs ds Q Q2 s dl ⟨d,es,rfl,h,q⟩ fin
 obtain ⟨v,rfl,den⟩:=zcX dl
 rcases h with rfl | rfl
 ·obtain ⟨a,us,rfl,h1,h2⟩:=den.lstI
  refine ⟨a,us,rfl,.inl ⟨zL s.sub h1,fun l hl=>?_⟩⟩
  have e:=Ext.new s hl (.tup us); exact fin _ _ _ _ e (Den.mkT zn (h2.mono e.hi)) q
 ·obtain ⟨a,us,rfl,h1,h2⟩:=den.tupI
  exact ⟨a,us,rfl,.inr ⟨zK s.sub h1,fin Hi H _ _ (Ext.refl s) den q⟩⟩⟩
def zoW:D->Option String
 | .non=>some "NoneType"
 | .bl _=>some "bool"
 | .int _=>some "int"
 | .str _=>some "str"
 | .lst _=>some "list"
 | .tup _=>some "tuple"
 | .dic _=>some "dict"
 | _=>none
def zmt {Hi H:Hp} {x:V} {d:D} {t:String} (s:zU Hi H) (den:Den K Hi x d) (h:zoW d=some t):zrG K H x t:=by
 cases den with
 | non=>exact (Option.some.inj h).symm
 | bl b=>exact (Option.some.inj h).symm
 | int i=>exact (Option.some.inj h).symm
 | str l=>exact (Option.some.inj h).symm
 | ty n=>cases h
 | adr b=>cases h
 | rng h'=>cases h
 | tup hq l r=>exact .inr (.inl ⟨(Option.some.inj h).symm,_,SqT.of (s _ _ hq)⟩)
 | lst hq l r=>exact .inl ⟨(Option.some.inj h).symm,_,zL s hq⟩
 | dicK hq l r r2=>exact .inr (.inr ⟨(Option.some.inj h).symm,.inl ⟨_,zda s hq⟩⟩)
 | dicT hq l r r2=>cases h
 | cls C=>cases h
 | obj hq l r r2=>cases h
 | excN hq=>cases h
 | exc hq h2 l r r2=>cases h
def zgK:RM':=fun x ds Q=>∃ l y,x=.str l/\ds=[.str y]/\l.length<=sizeLine/\Q (.str (Txt.rstripChars (st l) (st y)).cps.toList)
def zmb:Met X "str" "str.rstrip" zgK:=⟨_,zjU,by
 rintro Hi H x vs dx ds Q Q2 s d1 dl ⟨l,y,rfl,rfl,hl,q⟩ fin
 obtain ⟨v,rfl,den⟩:=zcX dl
 refine ⟨_,_,d1.strI,by rw [den.strI],by rw [zbm]; exact hl,?_⟩
 rw [zp5 (Txt.rstripChars (st l) (st y))]; exact fin Hi H _ _ (Ext.refl s) (.str _) q⟩
end
section
variable {a b c:Expr} {pos:Pos} {ta tb tc:TE'}
def zeW:R2':=fun x y Q=>(∃ i j,x=.int i/\y=.int j/\Q (.int (i+j)))\/zgQ x y Q
def zs8:Op2 X (binaryOp .Add) zeW:=zs7.or zq2
def zeS:R2':=fun x y Q=>zlC true x y Q\/zlD true x y Q
def zoJ:Op2 X (compareOp .NotIn) zeS:=zl2.or zl3
end
structure Df (K:W.Frag) (mg:Str->Option Value) (x:Str) (st:Stmt) (ps:List Str):Prop where
 ex:∃ f fd,Fun K x x st f fd/\zbX K fd ps []/\mg x=some (.ref f)
structure Fn (P:Program) (w:World) (K:W.Frag) (mg:Str->Option Value) (base:Heap) (k:Nat) (x:Str) (ps:List Str) (sp:Sp'):Prop where
 ex:∃ f fd,FnOk P w K mg base CX0 k f fd ps (zhv K sp)/\zbX K fd ps []/\W.keepIn K (.ref f)=true/\mg x=some (.ref f)/\∃ oc od osl,K.lookup f=some ⟨oc,od,.func fd,osl⟩
section
variable {k:Nat} {x:Str} {ps:List Str} {sp:Sp'}
def Df.ok {st:Stmt} {N:List Str} (d:Df K mg x st ps) (S:FnScope N ps (zm st)) (len:∀ ds Q,sp ds Q->ds.length=ps.length)
  (hbody:∀ (f:Addr) (cdv:Value) (A:Around) (outer:List Env) (s:Shared) (H:Hp) (E:XK),Room k (A.deeper (PyProof.Rows.envOfC x (zm st) s.heap.objs.size f cdv))->∀ ds Q,sp ds Q ->
   ∃ t,PSs' (zdj CX0 P w K mg base N x (zm st) f cdv A outer s H E).nox (zaw st) t/\t { nx:=fun _=>Q (.val .non),rt:=fun r _=>Q r } (zaG N ds)):Fn P w K mg base (k+1) x ps sp:=by
 obtain ⟨f,fd,F,b,m⟩:=d.ex; obtain ⟨oc,od,kV,doc,pm,an,cdv,ct,osl,e,lk,_⟩:=F.ex; exact ⟨f,fd,PL.Fun.ok' F S len (hbody f),b,F.kp,m,oc,od,osl,lk⟩
end
section
variable {k:Nat} {x:Str} {ps:List Str} {sp:Sp'} {p pos:Pos} {e:Expr} {es:List Expr} {t:TA'}
def za3 (h:Fn X.prog X.w X.K X.mg X.base k x ps sp) (hr:Room k X.A) (ha:PA' X (e :: es) t) (hg:Gl X x:=by rfl) (hdb:yyD x:=by decide) :
  PE' X (.Call (.Name x p) (e :: es) [] pos) (zJ sp t):=by
 obtain ⟨f,fd,F,b,kp,m,_⟩:=h.ex; exact zlY F hr m kp b ha hg hdb
def zsS (h:Fn X.prog X.w X.K X.mg X.base k x ps sp) (hr:Room k X.A) (ha:PA' X (e :: es) t) (hg:Gl X x:=by rfl) (hdb:yyD x:=by decide) :
  PO' X (.Call (.Name x p) (e :: es) [] pos) (zc3 sp t):=by
 obtain ⟨f,fd,F,b,kp,m,_⟩:=h.ex; exact zom F hr m kp b ha hg hdb
end
section
variable {pos:Pos}
def zjt:RS':=fun x lo hi Q=>zin x lo hi Q\/zio x lo hi Q
def zur:Sli X zjt:=zsC.or zqa
end
@[simp] theorem ex2 {α β:Type} {x:α} {y:β} {P:α->β->Prop}:(∃ a b,(x=a/\y=b)/\P a b)↔P x y:=⟨fun ⟨_,_,⟨e1,e2⟩,h⟩=>e1 ▸ e2 ▸ h,fun h=>⟨x,y,⟨rfl,rfl⟩,h⟩⟩
@[simp] theorem ex3 {α β γ:Type} {x:α} {y:β} {z:γ} {P:α->β->γ->Prop}:(∃ a b c,(x=a/\y=b/\z=c)/\P a b c)↔P x y z:=⟨fun ⟨_,_,_,⟨e1,e2,e3⟩,h⟩=>e1 ▸ e2 ▸ e3 ▸ h,fun h=>⟨x,y,z,⟨rfl,rfl,rfl⟩,h⟩⟩
@[simp] theorem zsp (d:D):(Res.val d).toD=d:=rfl
@[simp] theorem zsq (o:OD):(Res.own o).toD=o.toD:=rfl
@[simp] theorem ztH (d:D->D) (o:OD):(Res.bk d o).toD=d o.toD:=rfl
@[simp] theorem ztW (l:List D):(OD.lst l).toD=.lst l:=rfl
@[simp] theorem ztY (l:List (D × D)):(OD.dic l).toD=.dic l:=rfl
@[simp] theorem ztX (l:List (D × D)):(OD.dit l).toD=.dit l:=rfl
@[simp] theorem zp4 (N:List Str) (ds:List D):zaG N ds=ds.map .val ++ List.replicate (N.length-ds.length) .emp:=rfl
@[simp] theorem zsj (d:D):voS (.val d)=.val d:=rfl
@[simp] theorem zsl:voS .emp=.emp:=rfl
@[simp] theorem zsk (o:OD):voS (.own o)=.emp:=rfl
@[simp] theorem ztF:vo []=[]:=rfl
@[simp] theorem zsi (s:Slot) (Γ:Sts):vo (s :: Γ)=voS s :: vo Γ:=rfl
@[simp] theorem zrO (ds:List D):zp9 (.lst ds)=some ds:=rfl
@[simp] theorem zrL (ds:List D):zp9 (.tup ds)=some ds:=rfl
@[simp] theorem zrM (l:List Nat):zp9 (.str l)=some (l.map fun c=>.str [c]):=rfl
@[simp] theorem ztx (Γ:Sts):zkZ [] Γ=[]:=rfl
@[simp] theorem zsc (src:List (Option Nat)) (Γ:Sts):zkZ (none :: src) Γ=.emp :: zkZ src Γ:=rfl
@[simp] theorem zsb (i:Nat) (src:List (Option Nat)) (Γ:Sts):zkZ (some i :: src) Γ=(match Γ[i]? with | some (.val d)=>.val d | _=>.emp) :: zkZ src Γ:=rfl
@[simp] theorem zrw (g:TG') (tc:TT') (te:TE') (Q:List D->Prop) (acc:List D) (Γ:Sts):zcF g tc te Q [] acc Γ↔Q acc:=Iff.rfl
@[simp] theorem zr8 (g:TG') (tb:TS') (N:Ends') (Γ:Sts):zfv g tb N [] Γ↔N.nx Γ:=Iff.rfl
section
variable {Q:D->Prop}
@[simp] theorem ztR (g:Int->Int->D) (i j:Int):zn9 g (.int i) (.int j) Q↔Q (g i j):=by simp [zn9]
@[simp] theorem zuy (C:Int->Int->Prop) (g:Int->Int->D) (i j:Int):rI' C g (.int i) (.int j) Q↔C i j/\Q (g i j):=by simp [rI']
@[simp] theorem zr6 (i j:Int):zeW (.int i) (.int j) Q↔Q (.int (i+j)):=by simp [zeW,zgQ]
@[simp] theorem zr5 (l m:List Nat):zeW (.str l) (.str m) Q↔l.length+m.length<=sizeLine/\Q (.str (l ++ m)):=by simp [zeW,zgQ]
@[simp] theorem ztl (i j:Int):eqS (.int i) (.int j)=some (decide (i=j)):=rfl
@[simp] theorem ztj (i j:List Nat):eqS (.str i) (.str j)=some (decide (i=j)):=rfl
@[simp] theorem zt0 (i j:Bool):eqS (.bl i) (.bl j)=some (decide (i=j)):=rfl
@[simp] theorem ztk:eqS .non .non=some true:=rfl
@[simp] theorem zpb (i:List Nat):eqS .non (.str i)=some false:=rfl
@[simp] theorem zpc (i:Int):eqS .non (.int i)=some false:=rfl
@[simp] theorem zpa (i:List Nat):eqS (.str i) .non=some false:=rfl
@[simp] theorem zpd (i:Int):eqS (.int i) .non=some false:=rfl
@[simp] theorem zsN (c:Nat) (l:List Nat):zlC false (.str [c]) (.str l) Q↔Q (.bl (decide (c ∈ l))):=by simp [zlC]
@[simp] theorem zsM (ds:List D) (i:Int):zkQ (.lst ds) (.int i) Q↔∃ d,atI ds i=some d/\Q d:=by simp [zkQ]
@[simp] theorem zsK (ds:List D) (i:Int):zkQ (.tup ds) (.int i) Q↔∃ d,atI ds i=some d/\Q d:=by simp [zkQ]
@[simp] theorem zsL (l:List Nat) (i:Int):zkQ (.str l) (.int i) Q↔l.length<=sizeLine/\∃ c,atI l i=some c/\Q (.str [c]):=by simp [zkQ]
@[simp] theorem ztN (l:List Nat) (n:Int):zjt (.str l) none (some n) Q↔l.length<=sizeLine/\0<=n/\Q (.str (l.take n.toNat)):=by simp [zjt,zin,zio]
@[simp] theorem zrS (l:List Nat) (n:Int):zjt (.str l) (some n) none Q↔l.length<=sizeLine/\0<=n/\Q (.str (l.drop n.toNat)):=by simp [zjt,zin,zio]
@[simp] theorem zsH (ds:List D) (lo hi:Option Int):zjt (.lst ds) lo hi Q↔Q (.lst (zdk ds lo hi)):=by simp [zjt,zin,zio]
@[simp] theorem zrX (l:List Nat):zeh [.str l] Q↔l.length<=sizeLine/\Q (.int (l.length:Nat)):=by simp [zeh]
@[simp] theorem zrY (l:List D):zeh [.lst l] Q↔Q (.int (l.length:Nat)):=by simp [zeh]
@[simp] theorem zrW (l:List D):zeh [.tup l] Q↔Q (.int (l.length:Nat)):=by simp [zeh]
@[simp] theorem zn7 (i:Int):zn8 [.int i] Q↔i.natAbs.log2<1920/\Q (.str (zkS i)):=by simp [zn8]
@[simp] theorem zrR (ds:List D):zhz [.lst ds] Q↔Q (.tup ds):=by simp [zhz]
@[simp] theorem zpw (l y:List Nat):zgK (.str l) [.str y] Q↔l.length<=sizeLine/\Q (.str (Txt.rstripChars (st l) (st y)).cps.toList):=by simp [zgK]
@[simp] theorem zsm (l:List Nat):tyD "str" (.str l)↔True:=by simp [tyD]
end
@[simp] theorem ziY (K:W.Frag):W.kitOne K (.type "NoneType") (.type "str")=some false:=by rfl
@[simp] theorem zns (K:W.Frag):W.kitOne K (.type "bool") (.type "str")=some false:=by rfl
@[simp] theorem zoU (K:W.Frag):W.kitOne K (.type "int") (.type "str")=some false:=by rfl
@[simp] theorem zoS (K:W.Frag):W.kitOne K (.type "str") (.type "str")=some true:=by rfl
@[simp] theorem znl (K:W.Frag):W.kitOne K (.type "list") (.type "str")=some false:=by rfl
@[simp] theorem zmf (K:W.Frag):W.kitOne K (.type "tuple") (.type "str")=some false:=by rfl
@[simp] theorem znq (K:W.Frag):W.kitOne K (.type "dict") (.type "str")=some false:=by rfl
@[simp] theorem ziE (K:W.Frag):W.kitOne K (.type "NoneType") (.type "bool")=some false:=by rfl
@[simp] theorem zms (K:W.Frag):W.kitOne K (.type "bool") (.type "bool")=some true:=by rfl
@[simp] theorem znp (K:W.Frag):W.kitOne K (.type "int") (.type "bool")=some false:=by rfl
@[simp] theorem znk (K:W.Frag):W.kitOne K (.type "str") (.type "bool")=some false:=by rfl
@[simp] theorem zml (K:W.Frag):W.kitOne K (.type "list") (.type "bool")=some false:=by rfl
@[simp] theorem zkV (K:W.Frag):W.kitOne K (.type "tuple") (.type "bool")=some false:=by rfl
@[simp] theorem zmp (K:W.Frag):W.kitOne K (.type "dict") (.type "bool")=some false:=by rfl
@[simp] theorem ziZ (K:W.Frag):W.kitOne K (.type "NoneType") (.type "int")=some false:=by rfl
@[simp] theorem znt (K:W.Frag):W.kitOne K (.type "bool") (.type "int")=some true:=by rfl
@[simp] theorem zoV (K:W.Frag):W.kitOne K (.type "int") (.type "int")=some true:=by rfl
@[simp] theorem zoT (K:W.Frag):W.kitOne K (.type "str") (.type "int")=some false:=by rfl
@[simp] theorem znm (K:W.Frag):W.kitOne K (.type "list") (.type "int")=some false:=by rfl
@[simp] theorem zmg (K:W.Frag):W.kitOne K (.type "tuple") (.type "int")=some false:=by rfl
@[simp] theorem znr (K:W.Frag):W.kitOne K (.type "dict") (.type "int")=some false:=by rfl
@[simp] theorem ziC (K:W.Frag):W.kitOne K (.type "NoneType") (.type "list")=some false:=by rfl
@[simp] theorem zmq (K:W.Frag):W.kitOne K (.type "bool") (.type "list")=some false:=by rfl
@[simp] theorem znn (K:W.Frag):W.kitOne K (.type "int") (.type "list")=some false:=by rfl
@[simp] theorem zni (K:W.Frag):W.kitOne K (.type "str") (.type "list")=some false:=by rfl
@[simp] theorem zmj (K:W.Frag):W.kitOne K (.type "list") (.type "list")=some true:=by rfl
@[simp] theorem zkT (K:W.Frag):W.kitOne K (.type "tuple") (.type "list")=some false:=by rfl
@[simp] theorem zmn (K:W.Frag):W.kitOne K (.type "dict") (.type "list")=some false:=by rfl
@[simp] theorem zhR (K:W.Frag):W.kitOne K (.type "NoneType") (.type "tuple")=some false:=by rfl
@[simp] theorem zkY (K:W.Frag):W.kitOne K (.type "bool") (.type "tuple")=some false:=by rfl
@[simp] theorem zmm (K:W.Frag):W.kitOne K (.type "int") (.type "tuple")=some false:=by rfl
@[simp] theorem zmh (K:W.Frag):W.kitOne K (.type "str") (.type "tuple")=some false:=by rfl
@[simp] theorem zkW (K:W.Frag):W.kitOne K (.type "list") (.type "tuple")=some false:=by rfl
@[simp] theorem zj7 (K:W.Frag):W.kitOne K (.type "tuple") (.type "tuple")=some true:=by rfl
@[simp] theorem zkX (K:W.Frag):W.kitOne K (.type "dict") (.type "tuple")=some false:=by rfl
@[simp] theorem ziD (K:W.Frag):W.kitOne K (.type "NoneType") (.type "dict")=some false:=by rfl
@[simp] theorem zmr (K:W.Frag):W.kitOne K (.type "bool") (.type "dict")=some false:=by rfl
@[simp] theorem zno (K:W.Frag):W.kitOne K (.type "int") (.type "dict")=some false:=by rfl
@[simp] theorem znj (K:W.Frag):W.kitOne K (.type "str") (.type "dict")=some false:=by rfl
@[simp] theorem zmk (K:W.Frag):W.kitOne K (.type "list") (.type "dict")=some false:=by rfl
@[simp] theorem zkU (K:W.Frag):W.kitOne K (.type "tuple") (.type "dict")=some false:=by rfl
@[simp] theorem zmo (K:W.Frag):W.kitOne K (.type "dict") (.type "dict")=some true:=by rfl
section
variable {Q:D->Prop}
end
class ME (t:TE'):Prop where
 mono:∀ Γ Q Q',(∀ d Γ',Q d Γ'->Q' d Γ')->t Γ Q->t Γ Q'
class MT (t:TT'):Prop where
 mono:∀ Γ Q Q',(∀ d Γ',Q d Γ'->Q' d Γ')->t Γ Q->t Γ Q'
class MA (t:TA'):Prop where
 mono:∀ Γ Q Q',(∀ d Γ',Q d Γ'->Q' d Γ')->t Γ Q->t Γ Q'
class MO (t:TO'):Prop where
 mono:∀ Γ Q Q',(∀ d Γ',Q d Γ'->Q' d Γ')->t Γ Q->t Γ Q'
class MP (t:TP'):Prop where
 mono:∀ Γ Q Q',(∀ d Γ',Q d Γ'->Q' d Γ')->t Γ Q->t Γ Q'
class MI (t:TI'):Prop where
 mono:∀ Γ Q Q',(∀ d Γ',Q d Γ'->Q' d Γ')->t Γ Q->t Γ Q'
class MG (g:TG'):Prop where
 mono:∀ d Γ Q Q',(∀ Γ',Q Γ'->Q' Γ')->g d Γ Q->g d Γ Q'
class MR2 (r:R2'):Prop where
 mono:∀ x y Q Q',(∀ d,Q d->Q' d)->r x y Q->r x y Q'
class MRC (r:RC'):Prop where
 mono:∀ x Q Q',(∀ d,Q d->Q' d)->r x Q->r x Q'
class MRS (r:RS'):Prop where
 mono:∀ x y z Q Q',(∀ d,Q d->Q' d)->r x y z Q->r x y z Q'
class MSp (sp:Sp'):Prop where
 mono:∀ x Q Q',(∀ d,Q d->Q' d)->sp x Q->sp x Q'
structure Ends'.le (N N':Ends'):Prop where
 nx:∀ Γ,N.nx Γ->N'.nx Γ
 rt:∀ r Γ,N.rt r Γ->N'.rt r Γ
 bk:∀ Γ,N.bk Γ->N'.bk Γ
 ct:∀ Γ,N.ct Γ->N'.ct Γ
class MS (t:TS'):Prop where
 mono:∀ N N' Γ,N.le N'->t N Γ->t N' Γ
instance {i:Nat}:ME (zG i):=⟨fun _ _ _ h ⟨d,e,q⟩=>⟨d,e,h _ _ q⟩⟩
instance {d:D}:ME (tC' d):=⟨fun _ _ _ h q=>h _ _ q⟩
instance {t:TO'} [MO t]:ME (zcv t):=⟨fun Γ _ _ h q=>MO.mono (t:=t) Γ _ _ (fun _ _ z=>h _ _ z) q⟩
instance {r:R2'} {a b:TE'} [MR2 r] [ME a] [ME b]:ME (zaX r a b):=⟨fun Γ _ _ h q=>ME.mono (t:=a) Γ _ _ (fun _ _ z=>ME.mono (t:=b) _ _ _ (fun _ _ z=>MR2.mono (r:=r) _ _ _ _ (fun _ z=>h _ _ z) z) z) q⟩
instance {t:TE'} [ME t]:MT (tB' t):=⟨fun Γ _ _ h q=>ME.mono (t:=t) Γ _ _ (fun _ _ ⟨b,e,z⟩=>⟨b,e,h _ _ z⟩) q⟩
instance {t u:TT'} [MT t] [MT u]:MT (zeO t u):=⟨fun Γ _ _ h q=>MT.mono (t:=t) Γ _ _ (fun b _ z=>by
 cases b with
 | true=>exact MT.mono (t:=u) _ _ _ h z
 | false=>exact h _ _ z) q⟩
instance {t u:TT'} [MT t] [MT u]:MT (zpu t u):=⟨fun Γ _ _ h q=>MT.mono (t:=t) Γ _ _ (fun b _ z=>by
 cases b with
 | false=>exact MT.mono (t:=u) _ _ _ h z
 | true=>exact h _ _ z) q⟩
instance {t:TT'} [MT t]:MT (zds t):=⟨fun Γ _ _ h q=>MT.mono (t:=t) Γ _ _ (fun b _ z=>h _ _ z) q⟩
instance:MT zhn:=⟨fun _ _ _ h q=>h _ _ q⟩
instance {t:TT'} {a b:TE'} [MT t] [ME a] [ME b]:ME (znX t a b):=⟨fun Γ _ _ h q=>MT.mono (t:=t) Γ _ _ (fun k _ z=>by
 cases k with
 | true=>exact ME.mono (t:=a) _ _ _ h z
 | false=>exact ME.mono (t:=b) _ _ _ h z) q⟩
instance:MA zY:=⟨fun _ _ _ h q=>h _ _ q⟩
instance {a:TE'} {r:TA'} [ME a] [MA r]:MA (zC a r):=⟨fun Γ _ _ h q=>ME.mono (t:=a) Γ _ _ (fun _ _ z=>MA.mono (t:=r) _ _ _ (fun _ _ z=>h _ _ z) z) q⟩
instance {t:TA'} [MA t]:ME (za5 t):=⟨fun Γ _ _ h q=>MA.mono (t:=t) Γ _ _ (fun _ _ ⟨a,z⟩=>⟨a,h _ _ z⟩) q⟩
instance {r:RC'} {t:TA'} [MRC r] [MA t]:ME (zcZ r t):=⟨fun Γ _ _ h q=>MA.mono (t:=t) Γ _ _ (fun _ _ z=>MRC.mono (r:=r) _ _ _ (fun _ z=>h _ _ z) z) q⟩
instance:MP zbr:=⟨fun _ _ _ h q=>h _ _ q⟩
instance {t:TE'} [ME t]:MP (zef t):=⟨fun Γ _ _ h q=>ME.mono (t:=t) Γ _ _ (fun _ _ ⟨i,e,z⟩=>⟨i,e,h _ _ z⟩) q⟩
instance {r:RS'} {e:TE'} {l u:TP'} [MRS r] [ME e] [MP l] [MP u]:ME (zee r e l u):=⟨fun Γ _ _ h q=>ME.mono (t:=e) Γ _ _ (fun _ _ z=>MP.mono (t:=l) _ _ _ (fun _ _ z=>MP.mono (t:=u) _ _ _ (fun _ _ z=>MRS.mono (r:=r) _ _ _ _ _ (fun _ z=>h _ _ z) z) z) z) q⟩
instance {sp:Sp'} {t:TA'} [MSp sp] [MA t]:ME (zJ sp t):=⟨fun Γ _ _ h q=>MA.mono (t:=t) Γ _ _ (fun _ _ z=>MSp.mono (sp:=sp) _ _ _ (fun _ z=>h _ _ z) z) q⟩
instance {t:TE'} [ME t]:MI (zbw t):=⟨fun Γ _ _ h q=>ME.mono (t:=t) Γ _ _ (fun _ _ ⟨i,e,z⟩=>⟨i,e,h _ _ z⟩) q⟩
instance {i:Nat}:MG (zx i):=⟨fun _ _ _ _ h q=>h _ q⟩
theorem zdl {g:TG'} {tc:TT'} {te:TE'} [MG g] [MT tc] [ME te] {Q Q':List D->Prop} (h:∀ l,Q l->Q' l):∀ (ds acc:List D) (Γ:Sts),zcF g tc te Q ds acc Γ->zcF g tc te Q' ds acc Γ
 | [],acc,Γ,q=>h acc q
 | d :: ds,acc,Γ,q=>MG.mono (g:=g) _ _ _ _ (fun Γ2 z=>MT.mono (t:=tc) _ _ _ (fun b Γ3 z=>by
  cases b with
  | true=>exact ME.mono (t:=te) _ _ _ (fun y Γ4 z=>zdl h ds _ _ z) z
  | false=>exact zdl h ds _ _ z) z) q
instance {ti:TI'} {src:List (Option Nat)} {g:TG'} {tc:TT'} {te:TE'} [MI ti] [MG g] [MT tc] [ME te]:MO (zbQ ti src g tc te):=⟨fun Γ _ _ h q=>MI.mono (t:=ti) Γ _ _ (fun ds Γ1 ⟨a,z⟩=>⟨a,zdl (fun l=>h _ _) _ _ _ z⟩) q⟩
def Ends'.le.nxt {N N':Ends'} (h:N.le N') {P P':Sts->Prop} (hp:∀ Γ,P Γ->P' Γ):Ends'.le { N with nx:=P } { N' with nx:=P' }:=⟨hp,h.rt,h.bk,h.ct⟩
instance:MS zT:=⟨fun _ _ _ h q=>h.nx _ q⟩
instance {t u:TS'} [MS t] [MS u]:MS (zaq t u):=⟨fun N N' Γ h q=>MS.mono (t:=t) _ _ _ (h.nxt fun Γ' z=>MS.mono (t:=u) N N' Γ' h z) q⟩
instance {t:TE'} [ME t]:MS (zS t):=⟨fun N N' Γ h q=>ME.mono (t:=t) _ _ _ (fun _ _ z=>h.rt _ _ z) q⟩
instance {c:TT'} {t u:TS'} [MT c] [MS t] [MS u]:MS (zaN c t u):=⟨fun N N' Γ h q=>MT.mono (t:=c) _ _ _ (fun b Γ1 z=>by
 cases b with
 | true=>exact MS.mono (t:=t) N N' Γ1 h z
 | false=>exact MS.mono (t:=u) N N' Γ1 h z) q⟩
instance {t:TE'} {g:TG'} [ME t] [MG g]:MS (zaD t g):=⟨fun N N' Γ h q=>ME.mono (t:=t) _ _ _ (fun _ _ z=>MG.mono (g:=g) _ _ _ _ (fun _ z=>h.nx _ z) z) q⟩
theorem zg8 {g:TG'} {tb:TS'} [MG g] [MS tb] {N:Ends'} (I:List D->Sts->Prop) (h0:∀ Γ,I [] Γ->N.nx Γ) (hs:∀ d ds Γ,I (d :: ds) Γ->g d Γ fun Γ2=>tb { N with nx:=I ds,ct:=I ds,bk:=N.nx } Γ2) :
  ∀ (ds:List D) (Γ:Sts),I ds Γ->zfv g tb N ds Γ
 | [],Γ,h=>h0 Γ h
 | d :: ds,Γ,h=>MG.mono (g:=g) _ _ _ _ (fun Γ2 z=>MS.mono (t:=tb) { N with nx:=I ds,ct:=I ds,bk:=N.nx } { N with nx:=zfv g tb N ds,ct:=zfv g tb N ds,bk:=N.nx } _ ⟨fun Γ3 z=>zg8 I h0 hs ds Γ3 z,fun _ _ z=>z,fun _ z=>z,fun Γ3 z=>zg8 I h0 hs ds Γ3 z⟩ z) (hs d ds Γ h)
def zgf {g:TG'} {tb:TS'} [MG g] [MS tb] {N:Ends'} {ds:List D} {Γ:Sts} (I:Nat->Sts->Prop) (h:I 0 Γ) (hs:∀ (i:Nat) d Γ,ds[i]?=some d->I i Γ->g d Γ fun Γ2=>tb { N with nx:=I (i+1),ct:=I (i+1),bk:=N.nx } Γ2) (h0:∀ Γ,I ds.length Γ->N.nx Γ):zfv g tb N ds Γ:=by
 refine zg8 (fun es Γ=>∃ i,es=ds.drop i/\i<=ds.length/\I i Γ) ?_ ?_ ds Γ ⟨0,rfl,yn _,h⟩
 ·rintro Γ ⟨i,e,hi,q⟩
  have:i=ds.length:=by
   have:=ym List.length e
   rw [Ya] at this
   simp at this
   omega
  subst this; exact h0 Γ q
 ·rintro d es Γ ⟨i,e,hi,q⟩
  have hlt:i<ds.length:=by
   have:=ym List.length e
   rw [Ya] at this
   simp at this
   omega
  rw [YK hlt] at e
  injection e with e1 e2
  subst e1
  have go:∀ Γ',I (i+1) Γ'->∃ j,es=ds.drop j/\j<=ds.length/\I j Γ':=fun Γ' z=>⟨i+1,e2,hlt,z⟩
  exact MG.mono (g:=g) _ _ _ _ (fun Γ2 z=>MS.mono (t:=tb) { N with nx:=I (i+1),ct:=I (i+1),bk:=N.nx } _ _ ⟨go,fun _ _ z=>z,fun _ z=>z,go⟩ z) (hs i _ Γ (yB hlt) q)
def zi4 {c:TT'} {tb:TS'} [MT c] [MS tb] {N:Ends'} {Γ:Sts} (I:Sts->Prop) (μ:Sts->Nat) (h:I Γ) (hs:∀ Γ,I Γ->c Γ fun b Γ1=>if b=true then tb { N with nx:=fun Γ2=>I Γ2/\μ Γ2<μ Γ,ct:=fun Γ2=>I Γ2/\μ Γ2<μ Γ,bk:=N.nx } Γ1 else N.nx Γ1):zjc c tb N Γ:=by
 refine ⟨fun m Γ=>m=μ Γ/\I Γ,⟨_,rfl,h⟩,?_⟩
 rintro m Γ ⟨rfl,p⟩
 refine MT.mono (t:=c) _ _ _ (fun b Γ1 z=>?_) (hs Γ p)
 cases b with
 | true=>exact MS.mono (t:=tb) { N with nx:=fun Γ2=>I Γ2/\μ Γ2<μ Γ,ct:=fun Γ2=>I Γ2/\μ Γ2<μ Γ,bk:=N.nx } _ _ ⟨fun Γ2 ⟨a,b⟩=>⟨_,b,rfl,a⟩,fun _ _ z=>z,fun _ z=>z,fun Γ2 ⟨a,b⟩=>⟨_,b,rfl,a⟩⟩ z
 | false=>exact z
def zfo {g:TG'} {tc:TT'} {te:TE'} [MG g] [MT tc] [ME te] {Q:List D->Prop} {ds:List D} {Γ:Sts} (I:Nat->List D->Sts->Prop) (h:I 0 [] Γ)
  (hs:∀ (i:Nat) d acc Γ,ds[i]?=some d->I i acc Γ->g d Γ fun Γ2=>tc Γ2 fun b Γ3=>if b=true then te Γ3 fun y Γ4=>I (i+1) (acc ++ [y]) (vo Γ4) else I (i+1) acc (vo Γ3)) (h0:∀ acc Γ,I ds.length acc Γ->Q acc):zcF g tc te Q ds [] Γ:=by
 have key:∀ (n i:Nat) (acc:List D) (Γ:Sts),n=ds.length-i->i<=ds.length->I i acc Γ->zcF g tc te Q (ds.drop i) acc Γ:=by
  intro n
  induction n with
  | zero =>
   intro i acc Γ hn hi q
   have:i=ds.length:=by omega
   subst this; rw [YM (yD _)]; exact h0 acc Γ q
  | succ n ih =>
   intro i acc Γ hn hi q
   have hlt:i<ds.length:=by omega
   rw [YK hlt]
   refine MG.mono (g:=g) _ _ _ _ (fun Γ2 z=>MT.mono (t:=tc) _ _ _ (fun b Γ3 z=>?_) z) (hs i _ acc Γ (yB hlt) q)
   cases b with
   | true=>exact ME.mono (t:=te) _ _ _ (fun y Γ4 z=>ih (i+1) _ _ (by omega) hlt z) z
   | false=>exact ih (i+1) _ _ (by omega) hlt z
 exact key _ 0 [] Γ rfl (yn _) h
instance {g:Int->Int->D}:MR2 (zn9 g):=⟨fun _ _ _ _ h ⟨i,j,a,b,q⟩=>⟨i,j,a,b,h _ q⟩⟩
instance {C:Int->Int->Prop} {g:Int->Int->D}:MR2 (rI' C g):=⟨fun _ _ _ _ h ⟨i,j,a,b,c,q⟩=>⟨i,j,a,b,c,h _ q⟩⟩
instance:MR2 zgQ:=⟨fun _ _ _ _ h ⟨i,j,a,b,c,q⟩=>⟨i,j,a,b,c,h _ q⟩⟩
instance:MR2 zeW:=⟨fun _ _ _ _ h q=>by
 rcases q with ⟨i,j,a,b,q⟩ | q
 ·exact .inl ⟨i,j,a,b,h _ q⟩
 ·exact .inr (MR2.mono (r:=zgQ) _ _ _ _ h q)⟩
instance {neg:Bool}:MR2 (zlC neg):=⟨fun _ _ _ _ h ⟨c,l,a,b,q⟩=>⟨c,l,a,b,h _ q⟩⟩
instance {neg:Bool}:MR2 (zlD neg):=⟨fun _ _ _ _ h ⟨i,c,l,a,b,q⟩=>⟨i,c,l,a,b,h _ q⟩⟩
instance:MR2 zeS:=⟨fun _ _ _ _ h q=>by
 rcases q with q | q
 ·exact .inl (MR2.mono (r:=zlC true) _ _ _ _ h q)
 ·exact .inr (MR2.mono (r:=zlD true) _ _ _ _ h q)⟩
instance:MR2 zkQ:=⟨fun _ _ _ _ h ⟨i,e,q⟩=>⟨i,e,by
 rcases q with ⟨ds,d,a,b,q⟩ | ⟨ds,d,a,b,q⟩ | ⟨l,c,a,b,e,q⟩
 ·exact .inl ⟨ds,d,a,b,h _ q⟩
 ·exact .inr (.inl ⟨ds,d,a,b,h _ q⟩)
 ·exact .inr (.inr ⟨l,c,a,b,e,h _ q⟩)⟩⟩
instance:MRS zjt:=⟨fun _ _ _ _ _ h q=>by
 rcases q with ⟨l,a,b,q⟩ | ⟨l,a,q⟩
 ·refine .inl ⟨l,a,b,?_⟩
  rcases q with ⟨c,n,d,e,q⟩ | ⟨c,n,d,e,q⟩
  ·exact .inl ⟨c,n,d,e,h _ q⟩
  ·exact .inr ⟨c,n,d,e,h _ q⟩
 ·exact .inr ⟨l,a,h _ q⟩⟩
instance:MRC zeh:=⟨fun _ _ _ h ⟨d,e,q⟩=>⟨d,e,by
 rcases q with ⟨l,a,b,q⟩ | ⟨l,a,q⟩ | ⟨l,a,q⟩
 ·exact .inl ⟨l,a,b,h _ q⟩
 ·exact .inr (.inl ⟨l,a,h _ q⟩)
 ·exact .inr (.inr ⟨l,a,h _ q⟩)⟩⟩
instance:MRC zhz:=⟨fun _ _ _ h ⟨i,j,a,b,q⟩=>⟨i,j,a,b,h _ q⟩⟩
def zih:Sp':=fun ds Q=>∃ ns:List Int,ds=[.lst (ns.map .int)]/\ns.length<=63/\Q (.val (.bl true))
theorem zh4 {K:W.Frag} {H:Hp}:∀ ns:List Int,zaV K H (ns.map V.int) (ns.map D.int)
 | []=>.nil
 | n :: ns=>.cons (.int n) (zh4 ns)
def zq5 {P:Program} {w:World} {K:W.Frag} {mg:Str->Option Value} {k:Nat} {fa:Addr} {oc:Value} {od:Option Addr} {fd:FuncData} {sl:Array (Option Value)} {ps:List Str}
  (hfa:mg "law"=some (.ref fa)) (lk:K.lookup fa=some ⟨oc,od,.func fd,sl⟩) (base:Heap) (G:Fn P w K mg base k "law" ps zih):FnOk P w K mg base CX0 k fa fd ps (zhv K zih):=by
 obtain ⟨f,fd',F,_,_,m,oc',od',sl',lk'⟩:=G.ex; rw [hfa] at m; cases m; rw [lk] at lk'; cases lk'; exact F
end PL
namespace L2
open PySem PySem.Spec PyProof.Rows
section
def zoH:OpR X (binaryOp .Add) (fun x y H Q=>∃ a b xs ys,x=.ref a/\y=.ref b/\SqT X.K H a xs/\SqT X.K H b ys/\xs.length+ys.length<=sizeLine/\(xs=[]->Q (.ref b) H)/\(xs≠[]->ys=[]->Q (.ref a) H) /\
  (xs≠[]->ys≠[]->∀ p,H p=none->Q (.ref p) (upd H p (.tup (xs ++ ys))))):=by
 intro pins s σ H x y v u Q I rx ry h; obtain ⟨a,b,xs,ys,rfl,rfl,ha,hb,hz,q0,q1,q2⟩:=h
 by_cases hx:xs=[]
 ·cases rx
  cases ry; obtain ⟨its,r1,p1,_⟩:=I.tuple ha; obtain ⟨its2,r2,p2,_⟩:=I.tuple hb
  obtain ⟨⟨cls,dd,data,sl⟩,ho,hc,n,hd⟩:=id p1
  obtain ⟨⟨cls2,dd2,data2,sl2⟩,ho2,hc2,n2,hd2⟩:=id p2
  simp only at hc hd hc2 hd2
  subst hc hd hc2 hd2
  have hi:its=[]:=r1.nil_iff.mpr hx
  refine concat_meets ⟨_,ho,rfl⟩ ⟨_,ho2,rfl⟩ noFill_tuple_add seq_tuple_add PySem.F.slot_tuple_add PySem.F.entry_tuple_add (PySem.F.args_tuple_add_2 _ _)
   (tuple_addW0 a b its.toArray its2.toArray n n2 dd dd2 sl sl2 (by simp [hi])) ⟨ho,ho2,?_⟩
  exact ⟨.ref b,H,I,rfl,q0 hx⟩
 ·exact zoG pins s σ H _ _ v u Q I rx ry ⟨a,b,xs,ys,rfl,rfl,ha,hb,hx,hz,q1 hx,q2 hx⟩
end
end L2
namespace HT
open PySem PyProof.Rows
section
def getItem_tuple_whole {t sl:Addr} {items:Array Value} {vl vu:Value} {lo hi:Option Int} {Q:Value->Shared->Prop} (ht:IsTup s.heap t items) (hs:s.heap.IsSliceOf sl vl vu .none) (pl:IsPart vl lo) (pu:IsPart vu hi)
  (hw:sIx items.size 0 lo=0/\sIx items.size items.size hi=items.size) (h:Q (.ref t) s):wpAny (model prog w) A (getItem (.ref t) (.ref sl)) Q E s:=by
 obtain ⟨os,hos,hcs,hds⟩:=id hs
 have hTs:s.TypeIs (.ref sl) "slice":=⟨os,hos,hcs⟩
 unfold getItem
 try with_reducible refine Yg ?_
 first | refine yA (yF ?_) | skip
 refine yA (wpAny_sequenceKey ht.typeIs (by decide) ?_)
 refine yA (wpAny_callSpecial?_slot (name:=Str.ofString "__getitem__") ht.typeIs Yp
  (YU Yp ht.typeIs entry_tuple_getitem ?_ (args_tuple_getitem _ _)))
 show wpAny _ _ (Builtin.Tuple.tupleItemsOf (.ref t) >>= _) _ _ s
 refine yA (tupleItemsOf_ ht ?_); refine yA (wpAny_typeOf hTs ?_)
 rw [yI (by decide)]
 refine yA (zbR hs pl pu ?_)
 have hyes:((((sIx items.size 0 lo:Nat):Int) == 0 && (1:Int) == 1 && (sIx items.size items.size hi-sIx items.size 0 lo) == items.size)=true):=by
  rw [hw.1,hw.2]; simp
 show wpAny _ _ (if (((sIx items.size 0 lo:Nat):Int) == 0 && (1:Int) == 1 && (sIx items.size items.size hi-sIx items.size 0 lo) == items.size)=true then _ else _) _ _ s
 rw [yI hyes]; refine yA (m:=Builtin.Tuple.tupleIsExact (.ref t)) ?_; unfold Builtin.Tuple.tupleIsExact; refine yA (wpAny_typeOf ht.typeIs ?_); refine yF ?_
 rw [yI (by decide)]
 exact yA (wpAny_rule (yF ⟨_,rfl,yF h⟩))
end
end HT
namespace L2
open PySem PySem.Spec PyProof.Rows
section
def zn2:SlR X (fun x lo hi H Q=>∃ a xs,x=.ref a/\SqT X.K H a xs/\((HT.sIx xs.length 0 lo=0/\HT.sIx xs.length xs.length hi=xs.length)->Q (.ref a) H) /\
  (¬ (HT.sIx xs.length 0 lo=0/\HT.sIx xs.length xs.length hi=xs.length)->∀ p,H p=none->Q (.ref p) (upd H p (.tup (zkx xs lo hi))))):=by
 intro pins s σ H x v vl vu lo hi sl Q I rx hs pl pu h; obtain ⟨a,xs,rfl,hx,q1,q2⟩:=h
 by_cases hw:HT.sIx xs.length 0 lo=0/\HT.sIx xs.length xs.length hi=xs.length
 ·cases rx
  obtain ⟨its,r,ht,hz⟩:=I.tuple hx
  have hlen:its.toArray.size=xs.length:=by rw [yS]; exact r.length.symm
  refine ⟨"tuple",_,PyProof.Rows.slot_tuple_getitem.lookup,ht.typeIs,?_⟩
  exact HT.getItem_tuple_whole ht hs pl pu (by rw [hlen]; exact hw) ⟨.ref a,H,I,rfl,q1 hw⟩
 ·exact zp7 pins s σ H _ v vl vu lo hi sl Q I rx hs pl pu ⟨a,xs,rfl,hx,hw,q2 hw⟩
end
end L2
namespace PL
open PySem L2
section
def zgP:R2':=fun x y Q=>∃ xs ys,x=.tup xs/\y=.tup ys/\xs.length+ys.length<=sizeLine/\Q (.tup (xs ++ ys))
def zq1:Op2 X (binaryOp .Add) zgP:=⟨_,zoH,by
 rintro Hi H x y dx dy Q Q2 s d1 d2 ⟨xs,ys,rfl,rfl,hl,q⟩ fin
 obtain ⟨a,vs,rfl,h1,h2⟩:=d1.tupI; obtain ⟨b,us,rfl,h3,h4⟩:=d2.tupI
 refine ⟨a,b,vs,us,rfl,rfl,zK s.sub h1,zK s.sub h3,by rw [zj h2,zj h4]; exact hl,fun e=>?_,fun _ e=>?_,fun _ _ p hp=>?_⟩
 ·subst e
  cases h2; exact fin Hi H _ _ (Ext.refl s) d2 q
 ·subst e
  cases h4; rw [yd] at q; exact fin Hi H _ _ (Ext.refl s) d1 q
 ·have e:=Ext.new s hp (.tup (vs ++ us))
  exact fin _ _ _ _ e (Den.mkT zn (zaL (h2.mono e.hi) (h4.mono e.hi))) q⟩
def zsB:Sli X zfN:=⟨_,zn2,by
 rintro Hi H x dx lo hi Q Q2 s d1 ⟨ds,rfl,q⟩ fin
 obtain ⟨a,vs,rfl,h1,h2⟩:=d1.tupI; have hl:=zj h2
 refine ⟨a,vs,rfl,zK s.sub h1,fun hw=>?_,fun _ p hp=>?_⟩
 ·have e:zdk ds lo hi=ds:=by
   unfold zdk; rw [<- hl,hw.1,hw.2,List.drop_zero,Nat.sub_zero,hl,List.take_length]
  rw [e] at q; exact fin Hi H _ _ (Ext.refl s) d1 q
 ·have e:=Ext.new s hp (.tup (zkx vs lo hi))
  exact fin _ _ _ _ e (Den.mkT zn (zkw (h2.mono e.hi))) q⟩
def eqL (f:D->D->Option Bool):List D->List D->Option Bool
 | x :: xs,y :: ys=>match f x y,eqL f xs ys with
  | some a,some b=>some (a && b)
  | _,_=>none
 | [],[]=>some true
 | _,_=>some false
def eqD:Nat->D->D->Option Bool
 | n+1,.tup xs,.tup ys=>eqL (eqD n) xs ys
 | n+1,.lst xs,.lst ys=>if xs.length=ys.length then eqL (eqD n) xs ys else some false
 | _,x,y=>eqS x y
def zpe {x y:V} {dx dy:D} {b:Bool} {Hi:Hp} (d1:Den K Hi x dx) (d2:Den K Hi y dy) (h:eqS dx dy=some b):zd4 x=true/\zd4 y=true/\eqV x y=b:=by
  have s1:=d1.scl (zcV h); have s2:=d2.scl (zcV (zki _ _ h).choose_spec)
  cases s1 <;> rename_i e1 <;> subst e1 <;> cases s2 <;> rename_i e2 <;> subst e2 <;> first
    | (exact yP (show (none:Option Bool)=some b from h) (fun z=>nomatch z))
    | (refine ⟨rfl,rfl,?_⟩
       have h':=Option.some.inj h
       subst h'
       first
         | rfl
         | (show ((_:Int) == _)=decide _; rw [Bool.beq_eq_decide_eq])
         | (show ((_:Bool) == _)=decide _; rw [Bool.beq_eq_decide_eq])
         | (show ((_:Str) == _)=decide _
            rw [Bool.beq_eq_decide_eq]
            exact decide_eq_decide.mpr ⟨fun z=>st_inj z,fun z=>ym st z⟩))
def zdy {x:V} {dx dy:D} {b:Bool} {Hi:Hp} (d1:Den K Hi x dx) (d2:Den K Hi x dy) (h:eqS dx dy=some b):b=true:=by
 obtain ⟨f1,f2,e⟩:=zpe d1 d2 h; rw [<- e]
 cases x <;> first | rfl | (exact yP (show false=true from f1) yN) | (show ((_:_) == _)=true; exact beq_self_eq_true _)
theorem zcW {f:D->D->Option Bool} {Hi:Hp} (hf:∀ v x y b,Den K Hi v x->Den K Hi v y->f x y=some b->b=true):∀ {vs:List V} {xs ys:List D} {b:Bool},zaV K Hi vs xs->zaV K Hi vs ys->eqL f xs ys=some b->b=true
 | [],_,_,b,.nil,.nil,h=>(Option.some.inj h).symm
 | v :: vs,x :: xs,y :: ys,b,.cons r1 t1,.cons r2 t2,h=>by
  unfold eqL at h
  cases e1:f x y with
  | none=>rw [e1] at h; cases h
  | some a =>
   cases e2:eqL f xs ys with
   | none=>rw [e1,e2] at h; cases h
   | some c =>
    rw [e1,e2] at h; rw [<- Option.some.inj h,hf v x y a r1 r2 e1,zcW hf t1 t2 e2]; rfl
def zdz (x y:D):eqD 0 x y=eqS x y:=by cases x <;> cases y <;> rfl
section
variable {Hi:Hp}
def zhZ (I:L2.Inv X pins σ H s) (sub:zU Hi H):∀ (n:Nat) (v:V) (x y:D) (b:Bool),Den X.K Hi v x->Den X.K Hi v y->eqD n x y=some b->b=true:=by
 intro n
 induction n with
 | zero =>
  intro v x y b d1 d2 h; rw [zdz] at h; exact zdy d1 d2 h
 | succ n ih =>
  intro v x y b d1 d2 h
  cases x with
  | tup xs =>
   cases y with
   | tup ys =>
    obtain ⟨a,vs,rfl,h1,h2⟩:=d1.tupI; obtain ⟨a',us,e,h3,h4⟩:=d2.tupI; cases e; have e:=I.tuple_inj (zK sub h1) (zK sub h3); subst e; exact zcW ih h2 h4 h
   | _=>exact zdy d1 d2 h
  | lst xs =>
   cases y with
   | lst ys =>
    obtain ⟨a,vs,rfl,h1,h2⟩:=d1.lstI; obtain ⟨a',us,e,h3,h4⟩:=d2.lstI; cases e; have e:=I.list_inj (zL sub h1) (zL sub h3); subst e
    have hl:xs.length=ys.length:=by rw [<- zj h2,<- zj h4]
    unfold eqD at h; rw [yI hl] at h; exact zcW ih h2 h4 h
   | _=>exact zdy d1 d2 h
  | _=>exact zdy d1 d2 h
theorem zcb {f:D->D->Option Bool}:∀ {xs ys:List D} {b:Bool},eqL f xs ys=some b->∃ e:Nat->Bool,(∀ (j:Nat) x y,xs[j]?=some x->ys[j]?=some y->f x y=some (e j))/\b=((List.range (min xs.length ys.length)).all e && xs.length == ys.length)
 | [],[],b,h=>⟨fun _=>true,fun j x y h1 _=>by simp at h1,by simpa [eqL] using h.symm⟩
 | [],y :: ys,b,h=>⟨fun _=>true,fun j x y h1 _=>by simp at h1,by simpa [eqL] using h.symm⟩
 | x :: xs,[],b,h=>⟨fun _=>true,fun j x y _ h2=>by simp at h2,by simpa [eqL] using h.symm⟩
 | x :: xs,y :: ys,b,h=>by
  unfold eqL at h
  cases e1:f x y with
  | none=>rw [e1] at h; cases h
  | some a =>
   cases e2:eqL f xs ys with
   | none=>rw [e1,e2] at h; cases h
   | some c =>
    rw [e1,e2] at h; obtain ⟨e,h1,h2⟩:=zcb e2
    refine ⟨fun j=>match j with | 0=>a | j+1=>e j,fun j x' y' hx hy=>?_,?_⟩
    ·cases j with
     | zero=>simp at hx hy; subst hx; subst hy; exact e1
     | succ j=>exact h1 j x' y' (by simpa using hx) (by simpa using hy)
    ·rw [<- Option.some.inj h,h2]
     have hm:min (x :: xs).length (y :: ys).length=min xs.length ys.length+1:=by simp [Nat.succ_min_succ]
     rw [hm,List.range_succ_eq_map,List.all_cons,List.all_map]
     show (a && ((List.range (min xs.length ys.length)).all e && xs.length == ys.length))=((a && (List.range (min xs.length ys.length)).all e) && (x :: xs).length == (y :: ys).length)
     rw [Bool.and_assoc]
     congr 2
     simp
def zro (I:L2.Inv X pins σ H s) (sub:zU Hi H):∀ (n:Nat) (A:Around) (x y:V) (u v:Value) (dx dy:D) (b:Bool),A.units+n<cLine->Den X.K Hi x dx->Den X.K Hi y dy->zap x u->zap y v->eqD n dx dy=some b->SeqAt.EqAt A s u v b:=by
 intro n
 induction n with
 | zero =>
  intro A x y u v dx dy b hu d1 d2 rx ry h; rw [zdz] at h; obtain ⟨f1,f2,e⟩:=zpe d1 d2 h; rw [<- e]; exact zkk rx ry f1 f2
 | succ n ih =>
  intro A x y u v dx dy b hu d1 d2 rx ry h
  have zn4:eqS dx dy=some b->SeqAt.EqAt A s u v b:=fun h=>by
   obtain ⟨f1,f2,e⟩:=zpe d1 d2 h; rw [<- e]; exact zkk rx ry f1 f2
  have items:∀ {vs ws:List V} {its jts:List Value} {xs ys:List D} {e:Nat->Bool},zaV X.K Hi vs xs->zaV X.K Hi ws ys->zae vs its->zae ws jts->(∀ (j:Nat) x y,xs[j]?=some x->ys[j]?=some y->eqD n x y=some (e j)) ->
    ∀ j (h1:j<its.toArray.size) (h2:j<jts.toArray.size),SeqAt.EqAt A.in1 s its.toArray[j] jts.toArray[j] (e j):=fun {vs ws its jts xs ys e} r1 r2 v1 v2 he j h1 h2=>by
   have l1:j<vs.length:=by rw [v1.length]; simpa using h1
   have l2:j<ws.length:=by rw [v2.length]; simpa using h2
   obtain ⟨dx',e1,q1⟩:=zbN r1 (yB l1); obtain ⟨dy',e2,q2⟩:=zbN r2 (yB l2); obtain ⟨u1,e3,q3⟩:=v1.get (yB l1); obtain ⟨u2,e4,q4⟩:=v2.get (yB l2)
   have z1:its.toArray[j]=u1:=by
    have:=yE.mp e3
    obtain ⟨_,z⟩:=this
    simpa using z
   have z2:jts.toArray[j]=u2:=by
    have:=yE.mp e4
    obtain ⟨_,z⟩:=this
    simpa using z
   rw [z1,z2]
   exact ih A.in1 _ _ u1 u2 dx' dy' (e j) (by show A.units+1+n<cLine; omega) q1 q2 q3 q4 (he j dx' dy' e1 e2)
  cases dx with
  | tup xs =>
   cases dy with
   | tup ys =>
    obtain ⟨a,vs,rfl,h1,h2⟩:=d1.tupI; obtain ⟨c,ws,rfl,h3,h4⟩:=d2.tupI; cases rx; cases ry
    by_cases hac:a=c
    ·subst hac
     have e:=I.tuple_inj (zK sub h1) (zK sub h3); subst e; rw [zcW (zhZ I sub n) h2 h4 h]; exact SeqAt.EqAt.same _
    ·obtain ⟨its,r1,p1,_⟩:=I.tuple (zK sub h1)
     obtain ⟨jts,r2,p2,_⟩:=I.tuple (zK sub h3); obtain ⟨e,he,hb⟩:=zcb h
     have lx:xs.length=its.length:=by rw [<- zj h2,r1.length]
     have ly:ys.length=jts.length:=by rw [<- zj h4,r2.length]
     have hb':b=((List.range (min its.toArray.size jts.toArray.size)).all e && its.toArray.size == jts.toArray.size):=by
      rw [hb,lx,ly]; simp
     rw [hb']
     exact SeqAt.EqAt.of_refs hac (SeqAt.RcAt.tuples (show s.heap.IsTuple a its.toArray from p1) (show s.heap.IsTuple c jts.toArray from p2) (by omega) (items h2 h4 r1 r2 he))
   | _=>exact zn4 h
  | lst xs =>
   cases dy with
   | lst ys =>
    obtain ⟨a,vs,rfl,h1,h2⟩:=d1.lstI; obtain ⟨c,ws,rfl,h3,h4⟩:=d2.lstI; cases rx; cases ry; unfold eqD at h
    by_cases hac:a=c
    ·subst hac
     have e:=I.list_inj (zL sub h1) (zL sub h3); subst e
     have hl:xs.length=ys.length:=by rw [<- zj h2,<- zj h4]
     rw [yI hl] at h; rw [zcW (zhZ I sub n) h2 h4 h]; exact SeqAt.EqAt.same _
    ·obtain ⟨its,r1,p1,_⟩:=I.list (zL sub h1)
     obtain ⟨jts,r2,p2,_⟩:=I.list (zL sub h3)
     have lx:xs.length=its.length:=by rw [<- zj h2,r1.length]
     have ly:ys.length=jts.length:=by rw [<- zj h4,r2.length]
     by_cases hl:xs.length=ys.length
     ·rw [yI hl] at h
      obtain ⟨e,he,hb⟩:=zcb h
      have hs:its.toArray.size=jts.toArray.size:=by simp; omega
      have hb':b=((List.range its.toArray.size).all e):=by
       rw [hb,lx,ly]
       have z:(its.length == jts.length)=true:=by simp; omega
       have z2:min its.length jts.length=its.length:=by omega
       rw [z,z2,Bool.and_true]; simp
      rw [hb']
      exact SeqAt.EqAt.of_refs hac (SeqAt.RcAt.lists p1.isList p2.isList hs (by omega) (items h2 h4 r1 r2 he))
     ·rw [yH hl] at h
      cases h
      exact SeqAt.EqAt.of_refs hac (SeqAt.RcAt.lists_lengths p1.isList p2.isList (by simp; omega) (by omega))
   | _=>exact zn4 h
  | _=>exact zn4 h
end
section
variable {Hi:Hp}
def zhW (I:L2.Inv X pins σ H s) (sub:zU Hi H) {n:Nat} {A:Around} (hu:A.units+1+n<cLine) {vs ws:List V} {its jts:List Value} {xs ys:List D} {e:Nat->Bool} (r1:zaV X.K Hi vs xs) (r2:zaV X.K Hi ws ys) (v1:zae vs its) (v2:zae ws jts) (he:∀ (j:Nat) x y,xs[j]?=some x->ys[j]?=some y->eqD n x y=some (e j)) :
  ∀ j (h1:j<its.toArray.size) (h2:j<jts.toArray.size),SeqAt.EqAt A.in1 s its.toArray[j] jts.toArray[j] (e j):=fun j h1 h2=>by
 have l1:j<vs.length:=by rw [v1.length]; simpa using h1
 have l2:j<ws.length:=by rw [v2.length]; simpa using h2
 obtain ⟨dx',e1,q1⟩:=zbN r1 (yB l1); obtain ⟨dy',e2,q2⟩:=zbN r2 (yB l2); obtain ⟨u1,e3,q3⟩:=v1.get (yB l1); obtain ⟨u2,e4,q4⟩:=v2.get (yB l2)
 have z1:its.toArray[j]=u1:=by
  obtain ⟨_,z⟩:=yE.mp e3
  simpa using z
 have z2:jts.toArray[j]=u2:=by
  obtain ⟨_,z⟩:=yE.mp e4
  simpa using z
 rw [z1,z2]
 exact zro I sub n A.in1 _ _ u1 u2 dx' dy' (e j) (by show A.units+1+n<cLine; omega) q1 q2 q3 q4 (he j dx' dy' e1 e2)
def ztM (I:L2.Inv X pins σ H s) (sub:zU Hi H) {n:Nat} {A:Around} {x y:V} {u v:Value} {dx dy:D} {b:Bool} (hu:A.units+n<cLine) (d1:Den X.K Hi x dx) (d2:Den X.K Hi y dy) (rx:zap x u) (ry:zap y v) (h:eqD n dx dy=some b) (hn:eqS dx dy=none) :
  SeqAt.RcAt A s u v b/\SeqAt.RcNeAt A s u v (!b):=by
 cases n with
 | zero=>rw [zdz,hn] at h; cases h
 | succ n =>
  cases dx with
  | tup xs =>
   cases dy with
   | tup ys =>
    obtain ⟨a,vs,rfl,h1,h2⟩:=d1.tupI; obtain ⟨c,ws,rfl,h3,h4⟩:=d2.tupI; cases rx; cases ry; obtain ⟨its,r1,p1,_⟩:=I.tuple (zK sub h1); obtain ⟨jts,r2,p2,_⟩:=I.tuple (zK sub h3); obtain ⟨e,he,hb⟩:=zcb h
    have lx:xs.length=its.length:=by rw [<- zj h2,r1.length]
    have ly:ys.length=jts.length:=by rw [<- zj h4,r2.length]
    have hb':b=((List.range (min its.toArray.size jts.toArray.size)).all e && its.toArray.size == jts.toArray.size):=by
     rw [hb,lx,ly]; simp
    have hi:=zhW (A:=A) I sub (by omega) h2 h4 r1 r2 he
    rw [hb']
    exact ⟨SeqAt.RcAt.tuples (show s.heap.IsTuple a its.toArray from p1) (show s.heap.IsTuple c jts.toArray from p2) (by omega) hi,SeqAt.RcNeAt.tuples (show s.heap.IsTuple a its.toArray from p1) (show s.heap.IsTuple c jts.toArray from p2) (by omega) hi⟩
   | _=>exact yP (hn.symm.trans h) (fun z=>nomatch z)
  | lst xs =>
   cases dy with
   | lst ys =>
    obtain ⟨a,vs,rfl,h1,h2⟩:=d1.lstI; obtain ⟨c,ws,rfl,h3,h4⟩:=d2.lstI; cases rx; cases ry; unfold eqD at h; obtain ⟨its,r1,p1,_⟩:=I.list (zL sub h1); obtain ⟨jts,r2,p2,_⟩:=I.list (zL sub h3)
    have lx:xs.length=its.length:=by rw [<- zj h2,r1.length]
    have ly:ys.length=jts.length:=by rw [<- zj h4,r2.length]
    by_cases hl:xs.length=ys.length
    ·rw [yI hl] at h
     obtain ⟨e,he,hb⟩:=zcb h
     have hs:its.toArray.size=jts.toArray.size:=by simp; omega
     have hb':b=((List.range its.toArray.size).all e):=by
      rw [hb,lx,ly]
      have z:(its.length == jts.length)=true:=by simp; omega
      have z2:min its.length jts.length=its.length:=by omega
      rw [z,z2,Bool.and_true]; simp
     have hi:=zhW (A:=A) I sub (by omega) h2 h4 r1 r2 he
     rw [hb']
     exact ⟨SeqAt.RcAt.lists p1.isList p2.isList hs (by omega) hi,SeqAt.RcNeAt.lists p1.isList p2.isList hs (by omega) hi⟩
    ·rw [yH hl] at h
     cases h
     exact ⟨SeqAt.RcAt.lists_lengths p1.isList p2.isList (by simp; omega) (by omega),SeqAt.RcNeAt.lists_lengths p1.isList p2.isList (by simp; omega) (by omega)⟩
   | _=>exact yP (hn.symm.trans h) (fun z=>nomatch z)
  | _=>exact yP (hn.symm.trans h) (fun z=>nomatch z)
end
def zkR:R2':=fun x y Q=>∃ b,eqD 100 x y=some b/\Q (.bl b)
def zly:R2':=fun x y Q=>∃ b,eqD 100 x y=some b/\Q (.bl (!b))
def zhY {n:Nat} {x y:D} {b c:Bool} (h:eqD n x y=some b) (e:eqS x y=some c):b=c:=by
 cases n with
 | zero=>rw [zdz,e] at h; exact (Option.some.inj h).symm
 | succ n =>
  have z:eqD (n+1) x y=eqS x y:=by
   cases x <;> first | rfl | (cases y <;> first | rfl | (exact yP (show (none:Option Bool)=some c from e) (fun z=>nomatch z)))
  rw [z,e] at h; exact (Option.some.inj h).symm
def zel (hu:X.A.units+100<cLine):Op2 X (compareOp .Eq) zkR:=by
 refine ⟨fun x y H Q=>∃ Hi dx dy b,zU Hi H/\Den X.K Hi x dx/\Den X.K Hi y dy/\eqD 100 dx dy=some b/\Q (.bl b) H,?_,?_⟩
 ·intro pins s σ H x y v u Q I rx ry h
  obtain ⟨Hi,dx,dy,b,sub,d1,d2,e,q⟩:=h
  cases hn:eqS dx dy with
  | some c =>
   obtain ⟨h1,h2⟩:=znA d1 d2 hn; refine zs1 pins s σ H x y v u Q I rx ry ⟨h1,?_⟩; rw [h2,<- zhY e hn]; exact q
  | none=>exact (ztM I sub hu d1 d2 rx ry e hn).1 X.prog X.w X.xe _ ⟨.bl b,H,I,rfl,q⟩
 ·rintro Hi H x y dx dy Q Q2 s d1 d2 ⟨b,e,q⟩ fin
  exact ⟨Hi,dx,dy,b,s.sub,d1,d2,e,fin Hi H _ _ (Ext.refl s) (.bl b) q⟩
def zoI (hu:X.A.units+100<cLine):Op2 X (compareOp .NotEq) zly:=by
 refine ⟨fun x y H Q=>∃ Hi dx dy b,zU Hi H/\Den X.K Hi x dx/\Den X.K Hi y dy/\eqD 100 dx dy=some b/\Q (.bl (!b)) H,?_,?_⟩
 ·intro pins s σ H x y v u Q I rx ry h
  obtain ⟨Hi,dx,dy,b,sub,d1,d2,e,q⟩:=h
  cases hn:eqS dx dy with
  | some c =>
   obtain ⟨h1,h2⟩:=znA d1 d2 hn; refine zsY pins s σ H x y v u Q I rx ry ⟨h1,?_⟩; rw [h2,<- zhY e hn]; exact q
  | none=>exact (ztM I sub hu d1 d2 rx ry e hn).2 X.prog X.w X.xe _ ⟨.bl (!b),H,I,rfl,q⟩
 ·rintro Hi H x y dx dy Q Q2 s d1 d2 ⟨b,e,q⟩ fin
  exact ⟨Hi,dx,dy,b,s.sub,d1,d2,e,fin Hi H _ _ (Ext.refl s) (.bl (!b)) q⟩
instance:MR2 zkR:=⟨fun _ _ _ _ h ⟨b,e,q⟩=>⟨b,e,h _ q⟩⟩
instance:MR2 zly:=⟨fun _ _ _ _ h ⟨b,e,q⟩=>⟨b,e,h _ q⟩⟩
@[simp] theorem ztm (n:Nat) (i j:Int):eqD n (.int i) (.int j)=some (decide (i=j)):=by cases n <;> rfl
@[simp] theorem zkj (n:Nat) (i j:List Nat):eqD n (.str i) (.str j)=some (decide (i=j)):=by cases n <;> rfl
@[simp] theorem zr4 {Q:D->Prop} (i j:Int):zkR (.int i) (.int j) Q↔Q (.bl (decide (i=j))):=by simp [zkR]
@[simp] theorem zr2 {Q:D->Prop} (i j:List Nat):zkR (.str i) (.str j) Q↔Q (.bl (decide (i=j))):=by simp [zkR]
@[simp] theorem zrV {Q:D->Prop} (i j:Int):zly (.int i) (.int j) Q↔Q (.bl (!decide (i=j))):=by simp [zly]
def plc (p:List (List Nat)):D:=.tup (p.map .str)
theorem zhX (f:D->D->Option Bool) (hf:∀ i j:List Nat,f (.str i) (.str j)=some (decide (i=j))):∀ p q:List (List Nat),eqL f (p.map .str) (q.map .str)=some (decide (p=q))
 | [],[]=>rfl
 | [],_ :: _=>by simp [eqL]
 | _ :: _,[]=>by simp [eqL]
 | a :: p,b :: q=>by
  simp only [yX,eqL,hf,zhX f hf p q]
  by_cases h1:a=b <;> by_cases h2:p=q <;> simp [h1,h2]
def zha (n:Nat) (p q:List (List Nat)):eqD (n+1) (plc p) (plc q)=some (decide (p=q)):=zhX _ (fun i j=>zkj n i j) p q
@[simp] theorem zr3 {Q:D->Prop} (p q:List (List Nat)):zkR (plc p) (plc q) Q↔Q (.bl (decide (p=q))):=by
 unfold zkR; rw [zha]; simp
@[simp] theorem zrU {Q:D->Prop} (p q:List (List Nat)):zly (plc p) (plc q) Q↔Q (.bl (!decide (p=q))):=by
 unfold zly; rw [zha]; simp
end
section
variable {n:Nat} {W:Wd} {Hi Hi' H':Hp} {Γ:Sts} {a:Addr} {o:OD}
def zh8 {i:Nat} (h:i<n) (e:adr n W σ i=some a):σ[i]?=some (some (.ref a)):=by
 unfold adr at e; rw [yI h] at e; exact zes e
def Good.freeze (g:Good K n W Hi Γ σ H) {i:Nat} (hi:i<n) (e:Γ[i]?=some (.own o)):∃ Hi',zU Hi Hi'/\Good K n W Hi' (Γ.set i (.val o.toD)) σ H:=by
 obtain ⟨a,h1,h2,h3,h4⟩:=g.own i o e; obtain ⟨u,hu⟩:=h4.there
 have hil:i<Γ.length:=(yE.mp e).1
 have g1:Good K n W Hi (Γ.set i .emp) σ H:=g.weak fun j s hs=>by
  by_cases hj:j=i
  ·subst hj
   rw [yr hil] at hs; exact .inl (Option.some.inj hs).symm
  ·rw [yZ (fun z=>hj z.symm)] at hs
   exact .inr hs
 have g2:=g1.freezeA h2 (h3 hi) ⟨fun j o' hj z=>by
  by_cases hji:j=i
  ·subst hji
   rw [yr hil] at hj; cases hj
  ·rw [yZ (fun z=>hji z.symm)] at hj
   exact hji (g.apart j i _ _ a hj e z h1),fun j d xs hj=>by
  by_cases hji:j=i
  ·subst hji
   rw [yr hil] at hj; cases hj
  ·rw [yZ (fun z=>hji z.symm)] at hj
   exact (g.bk j d a xs hj).ne i _ e h1⟩ hu
 refine ⟨upd Hi a u,zH h2 u,?_⟩; have hv:=zh8 hi h1; have g3:=g2.set (i:=i) (v:=.ref a) (d:=o.toD) hi (h4.den h2 hu)
 have es:σ.set i (some (.ref a))=σ:=by
  apply List.ext_getElem?
  intro j
  by_cases hj:j=i
  ·subst hj
   rw [yr (by rw [g.len]; exact hi),hv]
  ·rw [yZ (fun z=>hj z.symm)]
 rw [es,List.set_set] at g3; exact g3
end
section
def zeM (n i:Nat) (t:TS'):TS':=fun N Γ=>i<n/\∃ o,Γ[i]?=some (.own o)/\t N (Γ.set i (.val o.toD))
def ziq (i:Nat) {sts:List Stmt} {t:TS'} (h:PSs' X sts t):PSs' X sts (zeM X.N.length i t):=by
 refine ⟨PSs.weak h.h ?_⟩
 rintro N2 σ H ⟨W,Hi,Γ,N,g,⟨hi,o,e,q⟩,l⟩
 obtain ⟨Hi',s1,g1⟩:=g.freeze hi e; exact ⟨W,Hi',_,N,g1,q,l.mono s1⟩
def zfE (i:Nat) (te:TE'):TS':=fun N Γ=>(∃ ds0,Γ[i]?=some (.own (.lst ds0)))/\te Γ fun d Γ1=>∃ ds,Γ1[i]?=some (.own (.lst ds))/\ds.length<sizeLine/\N.nx (Γ1.set i (.own (.lst (ds ++ [d]))))
def zdc (i:Nat) {x:Str} {e:Expr} {te:TE'} {pos p apos cpos:Pos} (he:PE' X e te) (hN:X.N[i]?=some x:=by rfl) (hv:Vis X.env.scope x:=by first | exact Or.inl rfl | exact Yr (Or.inl rfl) | exact Yr (Yr rfl)) (hd:yyD x:=by decide)
  (hcd:(x == ("__classdict__":Str))=false:=by decide) (hst:zcs e=false:=by rfl)
  (hbase:attributeBase (.Name x p) "append" X.env (eval (.Name x p) X.env)=eval (.Name x p) X.env:=by rfl) (hline:(apos.endLine == cpos.line)=true:=by rfl)
  (hs:swapsWith (.Call (.Attribute (.Name x p) "append" apos) [e] [] cpos) none pos.line X.env=pure false:=by rfl) :
  PS' X (.Expr (.Call (.Attribute (.Name x p) "append" apos) [e] [] cpos) pos) (zfE i te):=by
 have pl:zbS [e]=true:=by unfold zbS; rw [hst]; rfl
 have hfew:((backTo cpos (starEach [e] X.env)).all (fun x=>!x.1) && (backToKw cpos (keywordEach [] X.env)).all (fun x=>x.1.isSome)
   && decide ([e].length+([]:List Keyword).length+(if ([]:List Keyword).isEmpty then 0 else 1)<30))=true:=by
  rw [zZ hst]; rfl
 have base:=zjB (zqN PySem.F.plainAttrs_list PySem.F.slot_list_append PySem.F.type_list_append (zdR (X:=X)) (zev (i:=i) (pos:=p) hN hv hd hcd) (zcz he.h zhF (zZ hst)) hbase hfew hline (zZ hst) rfl) hs; refine ⟨PS.weak base ?_⟩
 rintro N2 σ H ⟨W,Hi,Γ,N,g,⟨⟨ds0,e0⟩,q⟩,l⟩
 have hi:i<X.N.length:=(yE.mp hN).1
 obtain ⟨a,h1,h2,h3,vs0,h4,h5⟩:=g.own i _ e0; refine ⟨.ref a,zh8 hi h1,.inl ⟨rfl,vs0,SqL.of h4⟩,W,Hi,Γ,_,g,q,?_⟩
 rintro v H1 ⟨Hi1,d,Γ1,s1,g1,den,ds,e1,hl,q1⟩
 obtain ⟨a',k1,k2,k3,vs,k4,k5⟩:=g1.own i _ e1; rw [h1] at k1; cases k1
 refine ⟨a,vs,v,rfl,rfl,k4,by rw [zj k5]; exact hl,?_⟩
 exact l.nx σ _ Hi1 _ s1 (g1.put (o:=.lst (ds ++ [d])) e1 h1 ⟨vs ++ [v],zn,zaL k5 (.cons den .nil)⟩) q1
instance {i:Nat} {te:TE'} [ME te]:MS (zfE i te):=⟨fun N N' Γ h ⟨a,q⟩=>⟨a,ME.mono (t:=te) _ _ _ (fun _ _ ⟨ds,e,l,z⟩=>⟨ds,e,l,h.nx _ z⟩) q⟩⟩
end
inductive Imm:D->Prop where
 | non:Imm .non
 | bl (b:Bool):Imm (.bl b)
 | int (i:Int):Imm (.int i)
 | str (l:List Nat):Imm (.str l)
 | ty (n:String):Imm (.ty n)
 | cls (C:Addr):Imm (.cls C)
 | tup {ds:List D} (h:∀ d,d ∈ ds->Imm d):Imm (.tup ds)
def Imm.plc (p:List (List Nat)):Imm (plc p):=.tup fun d hd=>by
 obtain ⟨l,_,rfl⟩:=yh.mp hd; exact .str l
def Imm.den {K:W.Frag} {H H':Hp} {v:V} {d:D} (im:Imm d) (h:Den K H v d) (e:∀ a xs,(H a=some (.tup xs)->H' a=some (.tup xs))/\∀ o,H a=some (.frz o (.tup xs))->H' a=some (.frz o (.tup xs))):Den K H' v d:=by
 induction h with
 | non=>exact .non
 | bl b=>exact .bl b
 | int i=>exact .int i
 | str l=>exact .str l
 | ty n=>exact .ty n
 | cls C=>exact .cls C
 | tup h l r ih =>
  cases im with
  | tup hi =>
   exact .tup ((e _ _).1 h) l fun j v d h1 h2=>ih j v d h1 h2 (hi d (yL h2))
 | _=>cases im
def zlh:Slot->Slot
 | .own o=>.val o.toD
 | .val d=>.val d
 | .bk d _ xs=>.val (d xs.toD)
 | _=>.emp
section
variable {n:Nat} {W:Wd} {Hi Hi' H':Hp} {Γ:Sts} {a:Addr} {o:OD}
def zdm (n:Nat) (W:Wd) (Γ:Sts) (σ:St) (b:Addr):Prop:=(∃ (i:Nat) (o:OD),i<n/\Γ[i]?=some (.own o)/\adr n W σ i=some b)\/∃ (i:Nat) (d:D->D) (xs:OD),Γ[i]?=some (.bk d b xs)
open Classical in
noncomputable def zbh (n:Nat) (W:Wd) (Γ:Sts) (σ:St) (Hi H:Hp):Hp:=fun b=>if zdm n W Γ σ b then H b else Hi b
open Classical in
noncomputable def zcc (n:Nat) (W:Wd) (Γ:Sts) (σ:St) (Hb:Hp):Hp:=fun b=>if zdm n W Γ σ b then none else Hb b
def zdm.hi (g:Good K n W Hi Γ σ H) {b:Addr} (h:zdm n W Γ σ b):Hi b=none/\∃ u,H b=some u/\(∀ xs,u≠.tup xs)/\∀ o xs,u≠.frz o xs:=by
 have key:∃ o,Hi b=none/\zbC K Hi H b o:=by
  rcases h with ⟨i,o,hi,e,ad⟩ | ⟨i,d,xs,e⟩
  ·obtain ⟨a,h1,h2,h3,h4⟩:=g.own i o e
   rw [ad] at h1; cases h1; exact ⟨o,h2,h4⟩
  ·exact ⟨xs,(g.bk i d b xs e).hi,(g.bk i d b xs e).at_⟩
 obtain ⟨o,h2,h4⟩:=key; refine ⟨h2,?_⟩
 cases o with
 | lst ds=>obtain ⟨vs,q,_⟩:=h4; exact ⟨_,q,⟨fun _ z=>(by cases z),fun _ _ z=>(by cases z)⟩⟩
 | dic ds=>obtain ⟨kvs,q,_⟩:=h4; exact ⟨_,q,⟨fun _ z=>(by cases z),fun _ _ z=>(by cases z)⟩⟩
 | dit ds=>obtain ⟨kvs,ep,q,_⟩:=h4; exact ⟨_,q,⟨fun _ z=>(by cases z),fun _ _ z=>(by cases z)⟩⟩
 | obj C ds=>obtain ⟨dx,fs,q,_⟩:=h4; exact ⟨_,q,⟨fun _ z=>(by cases z),fun _ _ z=>(by cases z)⟩⟩
def zcC (n:Nat) (Γ:Sts):Sts:=(Γ.take n).map zlh
def Good.look (g:Good K n W Hi Γ σ H):zU Hi (zbh n W Γ σ Hi H)/\Good K n ⟨H,zbh n W Γ σ Hi H,[]⟩ (zbh n W Γ σ Hi H) (zcC n Γ) σ H:=by
 have s1:zU Hi (zbh n W Γ σ Hi H):=fun b u e=>by
  unfold zbh
  rw [yH (fun z=>by rw [(zdm.hi g z).1] at e; cases e)]
  exact e
 have inv:∀ (i:Nat) (sl:Slot),(zcC n Γ)[i]?=some sl->∃ s0,Γ[i]?=some s0/\i<n/\sl=zlh s0:=fun i sl e=>by
  unfold zcC at e; rw [yK] at e
  cases hj:(Γ.take n)[i]? with
  | none=>rw [hj] at e; cases e
  | some s0 =>
   rw [hj] at e; rw [List.getElem?_take] at hj; split at hj
   ·exact ⟨s0,hj,by assumption,(Option.some.inj e).symm⟩
   ·cases hj
 refine ⟨s1,g.len,⟨fun b u e=>?_,fun b xs e=>s1 _ _ (g.fz.tups b xs e)⟩,fun b u e _=>e,fun b u e=>⟨u,e⟩,fun b u e=>rfl,fun i d e=>?_,fun i o e=>?_,fun i j o o' a e=>?_,fun i d b xs e=>?_⟩
 ·unfold zbh at e
  split at e
  ·exact e
  ·exact g.sub b u e
 ·obtain ⟨s0,hj,hi,hs⟩:=inv i _ e
  cases s0 with
  | val d' =>
   cases hs; obtain ⟨v,h1,h2⟩:=g.val i d hj; exact ⟨v,h1,h2.mono s1⟩
  | own o =>
   cases hs; obtain ⟨a,h1,h2,h3,h4⟩:=g.own i o hj; refine ⟨.ref a,zh8 hi h1,?_⟩
   have hO:zdm n W Γ σ a:=.inl ⟨i,o,hi,hj,h1⟩
   have hl:zbh n W Γ σ Hi H a=H a:=by unfold zbh; rw [yI hO]
   cases o with
   | lst ds=>obtain ⟨vs,q,r⟩:=h4; exact Den.mkL (SqL.of (hl.trans q)) (r.mono s1)
   | dic ds=>obtain ⟨kvs,q,r⟩:=h4; exact Den.mkDK (.inl (hl.trans q)) (r.mono s1)
   | dit ds=>obtain ⟨kvs,ep,q,r⟩:=h4; exact Den.mkDT (hl.trans q) (r.mono s1)
   | obj C ds=>obtain ⟨dx,fs,q,r⟩:=h4; exact Den.mkO (hl.trans q) (r.mono s1)
  | emp=>cases hs
  | bk d' b xs =>
   cases hs
   obtain ⟨⟨v,h1,h2⟩,hol,_,_,h4,_⟩:=g.bk i d' b xs hj
   have hl:zbh n W Γ σ Hi H b=H b:=by unfold zbh; rw [yI (.inr ⟨i,d',xs,hj⟩)]
   refine ⟨v,h1,hol b _ v xs ?_ (h2.mono s1)⟩
   cases xs with
   | lst ds=>obtain ⟨vs,q,r⟩:=h4; exact Den.mkL (SqL.of (hl.trans q)) (r.mono s1)
   | dic ds=>obtain ⟨kvs,q,r⟩:=h4; exact Den.mkDK (.inl (hl.trans q)) (r.mono s1)
   | dit ds=>obtain ⟨kvs,ep,q,r⟩:=h4; exact Den.mkDT (hl.trans q) (r.mono s1)
   | obj C ds=>obtain ⟨dx,fs,q,r⟩:=h4; exact Den.mkO (hl.trans q) (r.mono s1)
 all_goals
  obtain ⟨s0,hj,hi,hs⟩:=inv i _ e
  cases s0 <;> cases hs
def Good.unlook (g:Good K n W Hi Γ σ H) {Hb:Hp} {Γ':Sts} (sb:zU (zbh n W Γ σ Hi H) Hb) (g':Good K n ⟨H,zbh n W Γ σ Hi H,[]⟩ Hb Γ' σ H') :
  Ext Hi H (zcc n W Γ σ Hb) H'/\Good K n W (zcc n W Γ σ Hb) Γ σ H'/\∀ v d,Imm d->Den K Hb v d->Den K (zcc n W Γ σ Hb) v d:=by
 have kp:∀ b u,H b=some u->H' b=some u:=fun b u e=>g'.keep b u e (by simp)
 have s1:zU Hi (zcc n W Γ σ Hb):=fun b u e=>by
  have no:¬ zdm n W Γ σ b:=fun z=>by rw [(zdm.hi g z).1] at e; cases e
  unfold zcc; rw [yH no]; refine sb b u ?_; unfold zbh; rw [yH no]; exact e
 have ex:Ext Hi H (zcc n W Γ σ Hb) H':=by
  refine ⟨s1,kp,⟨fun b u e=>?_,fun b xs e=>?_⟩,fun b u e=>?_⟩
  ·unfold zcc at e
   split at e
   ·cases e
   ·exact g'.sub b u e
  ·have z:=g'.fz.tups b xs e
   have no:¬ zdm n W Γ σ b:=fun z=>by
    obtain ⟨_,w,hw,w1,_⟩:=zdm.hi g z; rw [kp b w hw] at e; cases e; exact w1 xs rfl
   unfold zcc; rw [yH no]; exact z
  ·unfold zcc
   split
   ·rename_i z
    exact (zdm.hi g z).1.symm
   ·rename_i z
    rw [g'.fro b u e]
    show zbh n W Γ σ Hi H b=Hi b
    unfold zbh; rw [yH z]
 refine ⟨ex,g.ext ex,fun v d im den=>im.den den fun b xs=>?_⟩
 have no:∀ u,Hb b=some u->((∃ xs,u=.tup xs)\/∃ o xs,u=.frz o xs)->¬ zdm n W Γ σ b:=fun u e hu z=>by
  obtain ⟨_,w,hw,w1,w2⟩:=zdm.hi g z; have e2:=g'.sub b u e; rw [kp b w hw] at e2; cases e2
  rcases hu with ⟨xs,hu⟩ | ⟨o,xs,hu⟩
  ·exact w1 xs hu
  ·exact w2 o xs hu
 constructor
 ·intro e
  unfold zcc; rw [yH (no _ e (.inl ⟨_,rfl⟩))]; exact e
 ·intro o e
  unfold zcc; rw [yH (no _ e (.inr ⟨_,_,rfl⟩))]; exact e
end
section
def zeL (n:Nat) (t:TE'):TE':=fun Γ Q=>t (zcC n Γ) fun d _=>Imm d/\Q d Γ
def zcI (n:Nat) (t:TT'):TT':=fun Γ Q=>t (zcC n Γ) fun b _=>Q b Γ
def ze4 {e:Expr} {t:TE'} (h:PE' X e t):PE' X e (zeL X.N.length t):=by
 refine ⟨PE.weak h.h ?_⟩
 rintro σ H Q ⟨W,Hi,Γ,Q',g,q,fin⟩
 obtain ⟨s1,g1⟩:=g.look; refine ⟨_,_,_,_,g1,q,?_⟩
 rintro v H' ⟨Hb,d,Γ',sb,g',den,im,q'⟩
 obtain ⟨s2,g2,hd⟩:=g.unlook sb g'; exact fin v H' ⟨_,d,Γ,s2.hi,g2,hd v d im den,q'⟩
def ze0 {e:Expr} {t:TT'} (h:PT' X e t):PT' X e (zcI X.N.length t):=by
 refine ⟨PT.weak h.h ?_⟩
 rintro σ H Q ⟨W,Hi,Γ,Q',g,q,fin⟩
 obtain ⟨s1,g1⟩:=g.look; refine ⟨_,_,_,_,g1,q,?_⟩; intro b H' Hb Γ' sb g' q'; obtain ⟨s2,g2,hd⟩:=g.unlook sb g'; exact fin b H' _ Γ s2.hi g2 q'
instance {n:Nat} {t:TE'} [ME t]:ME (zeL n t):=⟨fun Γ _ _ h q=>ME.mono (t:=t) _ _ _ (fun _ _ ⟨a,z⟩=>⟨a,h _ _ z⟩) q⟩
instance {n:Nat} {t:TT'} [MT t]:MT (zcI n t):=⟨fun Γ _ _ h q=>MT.mono (t:=t) _ _ _ (fun _ _ z=>h _ _ z) q⟩
end
end PL
namespace L2
open PySem PySem.Spec PyProof.Rows
section
variable {h:Heap} {a:Addr} {kvs:List (List Key × V)} {ep:Nat}
def zen (ok:HOk P w H h) (e:H a=some (.dE kvs ep)):kvs.length<=sizeLine/\(a == sysModules)=false /\
  ∃ xs,KT H kvs xs/\h.DictOfH (tupleKind (zaT P w)) a xs/\∃ o es,h.get? a=some o/\o.ExactDict/\o.data=.dict es ep/\es.toList=xs.map (entryOfKey (tupleKind (zaT P w))):=by
 obtain ⟨z,y,xs,r,o,es,h1,h2,h3,h4,h5⟩:=(show zal P w H h a (.dE kvs ep) from ok a _ e)
 refine ⟨z,y,xs,r,⟨o,es,ep,h1,h2,h3,h4,fun x hx=>?_,h5⟩,o,es,h1,h2,h3,h4⟩
 obtain ⟨j,hj⟩:=List.getElem?_of_mem hx
 have hl:j<kvs.length:=by
  rw [Paired.length r]; exact (yE.mp hj).1
 have q:=PL.paired_get j r (yB hl) hj
 exact zey ok (by rw [<- q.1]; exact q.2.1)
end
def znK (H:Hp) (a:Addr) (y:V) (r:Option V):Prop:=∃ kvs ep k b,H a=some (.dE kvs ep)/\y=.ref b/\H b=some (.tup (k.map kV))/\r=zlc kvs k
section
variable {a:Addr} {y v:V} {u r:Value} {o:Option V}
def zmH (I:Inv X pins σ H s) (g:znK H a y o):s.TypeIs (.ref a) "dict":=by
 obtain ⟨kvs,ep,k,b,e,_⟩:=g; obtain ⟨_,_,xs,_,dd,_⟩:=zen I.hok e; exact dd.typeIs
def zkn {Q:Value->Shared->Prop} (hu:A.units+1<cLine) (I:Inv X pins σ H s) (g:znK H a y (some v)) (ry:zap y u) (h:∀ w' s',Inv X pins σ H s'->zap v w'->Q w' s') :
  wpAny (model X.prog X.w) A (getItem (.ref a) u) Q E s:=by
 obtain ⟨kvs,ep,k,b,e,ey,eb,l⟩:=g; subst ey
 cases (show u=Value.ref b from ry)
 obtain ⟨z,hd,xs,rel,dd,_⟩:=zen I.hok e
 obtain ⟨w',hw,rw'⟩:=zkM.some_of (v:=v) (o:=(atKey xs k).map (·.2)) (by rw [l]; exact rel.val k)
 obtain ⟨p,hp,hp2⟩:=Yw.mp hw; refine wpAny_getItem_heap (tupleKind_room_in1 hu) (zey I.hok eb) dd hp ?_; rw [hp2]; exact h w' _ (I.tok _) rw'
def zuH {Q:Value->Shared->Prop} (hu:A.units+1<cLine) (I:Inv X pins σ H s) (g:znK H a y o) (ry:zap y u) (h:∀ s',Inv X pins σ H s'->Q (.bool o.isSome) s') :
  wpAny (model X.prog X.w) A (compareOp .In u (.ref a)) Q E s:=by
 obtain ⟨kvs,ep,k,b,e,ey,eb,l⟩:=g; subst ey
 cases (show u=Value.ref b from ry)
 obtain ⟨z,hd,xs,rel,dd,_⟩:=zen I.hok e; refine wpAny_in_heap (tupleKind_room_in1 hu) (zey I.hok eb) hd dd ?_; have q:=(rel.val k).isSome_eq; rw [Option.isSome_map] at q; rw [<- q,<- l]; exact h _ (I.tok _)
def zpf {Q:Value->Shared->Prop} (hu:A.units+1<cLine) (I:Inv X pins σ H s) (g:znK H a y o) (ry:zap y u) (h:∀ s',Inv X pins σ H s'->Q (.bool (!o.isSome)) s') :
  wpAny (model X.prog X.w) A (compareOp .NotIn u (.ref a)) Q E s:=by
 obtain ⟨kvs,ep,k,b,e,ey,eb,l⟩:=g; subst ey
 cases (show u=Value.ref b from ry)
 obtain ⟨z,hd,xs,rel,dd,_⟩:=zen I.hok e; refine wpAny_notIn_heap (tupleKind_room_in1 hu) (zey I.hok eb) hd dd ?_; have q:=(rel.val k).isSome_eq; rw [Option.isSome_map] at q; rw [<- q,<- l]; exact h _ (I.tok _)
def zkm {kvs:List (List Key × V)} {ep:Nat} {k:List Key} {b:Addr} {Q:Unit->Shared->Prop} (hu:A.units+1<cLine) (I:Inv X pins σ H s) (e:H a=some (.dE kvs ep)) (eb:H b=some (.tup (k.map kV))) (l:kvs.length<sizeLine) (rv:zap v r)
  (h:∀ ep' s',Inv X pins σ (upd H a (.dE (zjy kvs k v) ep')) s'->Q () s'):wpAny (model X.prog X.w) A (setItem (.ref a) (.ref b) r) Q E s:=by
 obtain ⟨z,hd,xs,rel,dd,_⟩:=zen I.hok e
 have hz:xs.length<=sizeLine:=by rw [<- Paired.length rel]; exact z
 have hl:(zjy kvs k v).length<=sizeLine:=by have:=zg4 kvs k v; omega
 refine wpAny_setItem_heap (hsz:=hz) (tupleKind_room_in1 hu) (zey I.hok eb) dd fun h' dd' hs=>?_
 obtain ⟨q,es,ep',hq,h2,h3,h4,_,h5⟩:=dd'
 refine h ep' _ (zkt I (by rw [e]; exact True.intro) hs ⟨q,hq⟩ ⟨hl,hd,_,(rel.put k eb rv).keeps fun c ys ec=>?_,q,es,hq,h2,h3,h4,h5⟩)
 rw [zq (zjT ec e (fun z=>nomatch z))]
 exact ec
end
section
def zo2 (hu:X.A.units+1<cLine):IxR X (fun x y H Q=>∃ a v,x=.ref a/\znK H a y (some v)/\Q v H):=by
 intro value slice pins s σ H x y v u Q I rx ry h hs; obtain ⟨a,w,rfl,g,q⟩:=h; cases rx
 exact tail_any (zmH I g) PySem.F.slot_dict_getitem.lookup (zkn hu I g ry fun w' s3 I3 rw'=>⟨w,H,I3,rw',q⟩) hs
def zqV (hu:X.A.units+1<cLine):OpR X (compareOp .In) (fun x y H Q=>∃ a o,y=.ref a/\znK H a x o/\Q (.bl o.isSome) H):=by
 intro pins s σ H x y v u Q I rx ry h; obtain ⟨a,o,rfl,g,q⟩:=h; cases ry
 exact zuH hu I g rx fun s' I'=>⟨.bl _,H,I',rfl,q⟩
def zjN (hu:X.A.units+1<cLine):OpR X (compareOp .NotIn) (fun x y H Q=>∃ a o,y=.ref a/\znK H a x o/\Q (.bl (!o.isSome)) H):=by
 intro pins s σ H x y v u Q I rx ry h; obtain ⟨a,o,rfl,g,q⟩:=h; cases ry
 exact zpf hu I g rx fun s' I'=>⟨.bl _,H,I',rfl,q⟩
def zsE (td ty tv:TE):TS:=fun D σ H=>tv σ H fun v H1=>td σ H1 fun x H2=>ty σ H2 fun y H3=>∃ a kvs ep k b,x=.ref a/\H3 a=some (.dE kvs ep)/\y=.ref b/\H3 b=some (.tup (k.map kV))/\kvs.length<sizeLine/\∀ ep',D.nx σ (upd H3 a (.dE (zjy kvs k v) ep'))
def zoj {o i value:Expr} {pos pos':Pos} {td ty tv:TE} (hu:X.A.units+1<cLine) (ho:PE X o td) (hi:PE X i ty) (hv:PE X value tv) (hs:swapsWith value (some (.Subscript o i pos')) pos.line X.env=pure false) :
  PS X (.Assign [.Subscript o i pos'] value pos) (zsE td ty tv):=by
 intro pins s σ H D I h
 refine wpAny_Assign_Subscript (thn (hv pins s σ H _ I h) fun r s1 ⟨v,H1,I1,rv,q1⟩=>thn (ho pins s1 σ H1 _ I1 q1) fun u s2 ⟨x,H2,I2,rx,q2⟩=>thn (hi pins s2 σ H2 _ I2 q2) fun iv s3 ⟨y,H3,I3,ry,a,kvs,ep,k,b,ex,e,ey,eb,l,q3⟩=>?_) hs
 subst ex ey
 obtain rfl:u=Value.ref a:=rx
 obtain rfl:iv=Value.ref b:=ry
 exact zkm hu I3 e eb l rv fun ep' s4 I4=>⟨σ,_,I4,q3 ep'⟩
def zmJ {P:Program} {w:World} {H:Hp} (h:Heap) (hb:sysModules<h.objs.size):zal P w H (h.push { cls:=.type "dict",data:=.dict #[] }) h.objs.size (.dE [] 0) :=
 ⟨yn _,beq_eq_false_iff_ne.mpr (Ne.symm (yW hb)),[],.nil,_,#[],yM _ rfl,⟨rfl,rfl,rfl⟩,rfl,rfl,List.nodup_nil⟩
def zfH (d:Addr) (k v:Value):storeAll d [(k,v)]=(dictSet d k v >>= fun _=>pure PUnit.unit):=by
 unfold storeAll; rw [List.forIn_cons]; simp only [bind_assoc,pure_bind,List.forIn_nil]
def znY (tk tv:TE):TE:=fun σ H Q=>∀ p,H p=none->tk σ (upd H p (.dE [] 0)) fun x H1=>tv σ H1 fun y H2=>H2 p=some (.dE [] 0)/\∃ b ks,x=.ref b/\H2 b=some (.tup (ks.map kV))/\∀ ep',Q (.ref p) (upd H2 p (.dE [(ks,y)] ep'))
def zko (hu:X.A.units+1<cLine) {pins:yyL} {σ:St} {H2:Hp} {s2:Shared} {p b:Addr} {ks:List Key} {y:V} {u2:Value} {Q:Value->Shared->Prop} (I2:Inv X pins σ H2 s2) (e:H2 p=some (.dE [] 0)) (eb:H2 b=some (.tup (ks.map kV))) (r2:zap y u2)
  (h:∀ ep' s3,Inv X pins σ (upd H2 p (.dE [(ks,y)] ep')) s3->Q (.ref p) s3):wpAny (model X.prog X.w) X.A (storeAll p [(Value.ref b,u2)]) (fun _ s3=>Q (.ref p) s3) X.xe s2:=by
 rw [zfH]; obtain ⟨z,hd,xs,rel,dd,_⟩:=zen I2.hok e
 obtain rfl:xs=[]:=by
  have:=Paired.length rel
  exact Yu this.symm
 refine yA (wpAny_dictSet_heap (hsz:=yn _) (knd:=tupleKind (zaT X.prog X.w)) (show X.A.units<cLine by omega) (zey I2.hok eb) dd fun h' dd' hs=>?_)
 obtain ⟨q,es,ep',hq,h2,h3,h4,_,h5⟩:=dd'
 have hk:KT H2 (zjy [] ks y) (storedH [] ks b u2):=KT.put (kvs:=[]) (xs:=[]) .nil ks eb r2
 have hp:zjy ([]:List (List Key × V)) ks y=[(ks,y)]:=rfl
 rw [hp] at hk
 have ok:zal X.prog X.w (upd H2 p (.dE [(ks,y)] ep')) h' p (.dE [(ks,y)] ep'):=by
  refine ⟨?_,hd,_,hk.keeps fun c ys ec=>?_,q,es,hq,h2,h3,h4,h5⟩
  ·rw [sizeLine_eq]; exact Nat.le_of_ble_eq_true rfl
  ·rw [zq (zjT ec e (fun z=>nomatch z))]
   exact ec
 exact yF (h ep' _ (zkt I2 (by rw [e]; exact True.intro) hs ⟨q,hq⟩ ok))
def zjG (hu:X.A.units+1<cLine) {k v:Expr} {tk tv:TE} {pos:Pos} (hk:PE X k tk) (hv:PE X v tv):PE X (.Dict [some k] [v] pos) (znY tk tv):=by
 intro pins s σ H Q I q; have hn:=I.hok.fresh (yD s.heap.objs.size)
 have I1:=I.laid (a:=s.heap.objs.size) (o:=.dE [] 0) (h':=s.heap.push { cls:=.type "dict",data:=.dict #[] }) (t':=s.toks) (fun _ _ q=>yC _ q) (yD _) (zmJ s.heap I.big)
 refine wpAny_Dict_any rfl rfl (fun z=>nomatch z) (Nat.le_of_ble_eq_true rfl) ?_
 refine pairTrees_cons_walk (thn (hk pins _ σ _ _ I1 (q _ hn)) fun u1 s1 ⟨x,H1,J1,rx,q1⟩=>thn (hv pins s1 σ H1 _ J1 q1) fun u2 s2 ⟨y,H2,I2,ry,e,b,ks,ex,eb,q2⟩=>pairTrees_nil_walk ?_)
 subst ex
 obtain rfl:u1=Value.ref b:=rx
 exact zko hu I2 e eb ry fun ep' s3 I3=>⟨.ref s.heap.objs.size,_,I3,rfl,q2 ep'⟩
end
end L2
namespace PL
open PySem L2
section
variable {Hi:Hp}
theorem zph {v:V}:∀ {k:Key},Den K H v (keyD k)->v=kV k
 | .inl i,h=>h.intI
 | .inr x,h=>h.strI
theorem zh3:∀ {vs:List V} {ks:List Key},zaV K H vs (ks.map keyD)->vs=ks.map kV
 | [],[],_=>rfl
 | [],_ :: _,h=>nomatch h
 | _ :: _,[],h=>nomatch h
 | v :: vs,k :: ks,.cons r t=>by rw [yX,<- zph r,<- zh3 t]
def zmv {a b:Key} (h:keyD a=keyD b):a=b:=by
 cases a with
 | inl i=>cases b with
  | inl j=>injection h with h; rw [h]
  | inr y=>cases h
 | inr x=>cases b with
  | inl j=>cases h
  | inr y =>
   injection h with h
   obtain ⟨⟨x⟩⟩:=x
   obtain ⟨⟨y⟩⟩:=y
   exact ym (fun l=>Sum.inr (Str.mk ⟨l⟩)) h
theorem zdX:∀ {a b:List Key},a.map keyD=b.map keyD->a=b
 | [],[],_=>rfl
 | [],_ :: _,h=>nomatch h
 | _ :: _,[],h=>nomatch h
 | x :: a,y :: b,h=>by
  injection h with h1 h2
  rw [zmv h1,zdX h2]
def zfk {v:V} {ks:List Key} (h:Den K Hi v (.tup (ks.map keyD))):∃ b,v=.ref b/\Hi b=some (.tup (ks.map kV)):=by
 obtain ⟨a,vs,rfl,h1,h2⟩:=h.tupJ; rw [zh3 h2] at h1; exact ⟨a,rfl,h1⟩
open Classical in
noncomputable def zbk (ds:List (D × D)) (k:D):Option D:=(ds.find? fun p=>decide (p.1=k)).map (·.2)
open Classical in
noncomputable def zmK (ds:List (D × D)) (k v:D):List (D × D):=if (zbk ds k).isSome=true then ds.map (fun p=>if p.1=k then (p.1,v) else p) else ds ++ [(k,v)]
def zku {p:D × D} {r:List (D × D)} {k:D} (e:p.1=k):zbk (p :: r) k=some p.2:=by simp [zbk,YS,e]
def zkv {p:D × D} {r:List (D × D)} {k:D} (e:¬ p.1=k):zbk (p :: r) k=zbk r k:=by simp [zbk,YS,e]
inductive OptD (K:W.Frag) (H:Hp):Option V->Option D->Prop where
 | none:OptD K H none none
 | some {v:V} {d:D} (h:Den K H v d):OptD K H (some v) (some d)
def zrl {kvs:List (List Key × V)} {ds:List (D × D)} (r:zi0 K H kvs ds) (ks:List Key):OptD K H (zlc kvs ks) (zbk ds (.tup (ks.map keyD))):=by
 induction r with
 | nil=>exact .none
 | @cons p q ps qs h t ih =>
  by_cases e:p.1=ks
  ·rw [zeG e,zku (h.1.trans (by rw [e]))]
   exact .some h.2
  ·rw [zeH e,zkv (fun z=>e (zdX (by
    have:=h.1.symm.trans z
    injection this)))]
   exact ih
def OptD.isSome {o:Option V} {d:Option D} (h:OptD K H o d):o.isSome=d.isSome:=by cases h <;> rfl
open Classical in
def zsF {ks:List Key} {v:V} {d:D} (h:Den K H v d) {kvs:List (List Key × V)} {ds:List (D × D)} (r:zi0 K H kvs ds):zi0 K H (kvs.map fun kv=>if kv.1=ks then (kv.1,v) else kv) (ds.map fun p=>if p.1=.tup (ks.map keyD) then (p.1,d) else p):=by
 induction r with
 | nil=>exact .nil
 | @cons p q ps qs hh t ih =>
  rw [yX,yX]; refine .cons ?_ ih
  by_cases e:p.1=ks
  ·rw [yI e,yI (hh.1.trans (by rw [e]))]
   exact ⟨hh.1,h⟩
  ·rw [yH e,yH (fun z=>e (zdX (by
    have:=hh.1.symm.trans z
    injection this)))]
   exact hh
def zuz {kvs:List (List Key × V)} {ds:List (D × D)} (r:zi0 K H kvs ds) (ks:List Key) {v:V} {d:D} (h:Den K H v d):zi0 K H (zjy kvs ks v) (zmK ds (.tup (ks.map keyD)) d):=by
 unfold zjy zmK; rw [zeI,(zrl r ks).isSome]; split
 ·exact zsF h r
 ·exact zaL r (.cons ⟨rfl,h⟩ .nil)
end
section
def zgO:R2':=fun x y Q=>∃ (ds:List (D × D)) (ks:List Key) (v:D),x=.dit ds/\y=.tup (ks.map keyD)/\zbk ds y=some v/\Q v
def zm8 (neg:Bool):R2':=fun x y Q=>∃ (ks:List Key) (ds:List (D × D)),x=.tup (ks.map keyD)/\y=.dit ds/\Q (.bl (if neg then !(zbk ds x).isSome else (zbk ds x).isSome))
def zpg {K:W.Frag} {Hi H:Hp} {x y:V} {ds:List (D × D)} {ks:List Key} (s:Fz Hi H) (d1:Den K Hi x (.dit ds)) (d2:Den K Hi y (.tup (ks.map keyD))):∃ a o,x=.ref a/\znK H a y o/\OptD K Hi o (zbk ds (.tup (ks.map keyD))):=by
 obtain ⟨a,kvs,ep,rfl,h1,h2⟩:=d1.ditI; obtain ⟨b,rfl,h3⟩:=zfk d2; exact ⟨a,_,rfl,⟨kvs,ep,ks,b,s.sub _ _ h1,rfl,s.sub _ _ h3,rfl⟩,zrl h2 ks⟩
def zte (hu:X.A.units+1<cLine):Ixs X zgO:=⟨_,zo2 hu,by
 rintro Hi H x y dx dy Q Q2 s d1 d2 ⟨ds,ks,v,rfl,rfl,e,q⟩ fin
 obtain ⟨a,o,rfl,g,r⟩:=zpg s d1 d2; rw [e] at r
 cases r with
 | some h=>exact ⟨a,_,rfl,g,fin Hi H _ _ (Ext.refl s) h q⟩⟩
def zs5 (hu:X.A.units+1<cLine):Op2 X (compareOp .In) (zm8 false):=⟨_,zqV hu,by
 rintro Hi H x y dx dy Q Q2 s d1 d2 ⟨ks,ds,rfl,rfl,q⟩ fin
 obtain ⟨a,o,rfl,g,r⟩:=zpg s d2 d1; refine ⟨a,o,rfl,g,?_⟩; rw [r.isSome]; exact fin Hi H _ _ (Ext.refl s) (.bl _) q⟩
def zl1 (hu:X.A.units+1<cLine):Op2 X (compareOp .NotIn) (zm8 true):=⟨_,zjN hu,by
 rintro Hi H x y dx dy Q Q2 s d1 d2 ⟨ks,ds,rfl,rfl,q⟩ fin
 obtain ⟨a,o,rfl,g,r⟩:=zpg s d2 d1; refine ⟨a,o,rfl,g,?_⟩; rw [r.isSome]; exact fin Hi H _ _ (Ext.refl s) (.bl _) q⟩
def zcJ (i:Nat) (tk tv:TE'):TS':=fun N Γ=>tv Γ fun v Γ1=>(∃ ds0,Γ1[i]?=some (.own (.dit ds0)))/\tk Γ1 fun k Γ2=>∃ (ds:List (D × D)) (ks:List Key),Γ2[i]?=some (.own (.dit ds))/\k=.tup (ks.map keyD)/\ds.length<sizeLine/\N.nx (Γ2.set i (.own (.dit (zmK ds k v))))
def ze1 (hu:X.A.units+1<cLine) (i:Nat) {x:Str} {k value:Expr} {tk tv:TE'} {p pos pos':Pos} (hk:PE' X k tk) (hv:PE' X value tv) (hN:X.N[i]?=some x:=by rfl) (hvi:Vis X.env.scope x:=by first | exact Or.inl rfl | exact Yr (Or.inl rfl) | exact Yr (Yr rfl)) (hd:yyD x:=by decide)
  (hcd:(x == ("__classdict__":Str))=false:=by decide) (hs:swapsWith value (some (.Subscript (.Name x p) k pos')) pos.line X.env=pure false:=by rfl) :
  PS' X (.Assign [.Subscript (.Name x p) k pos'] value pos) (zcJ i tk tv):=by
 refine ⟨PS.weak (zoj hu (zev (i:=i) (pos:=p) hN hvi hd hcd) hk.h hv.h hs) ?_⟩
 rintro N2 σ H ⟨W,Hi,Γ,N,g,q,l⟩
 have hi:i<X.N.length:=(yE.mp hN).1
 refine ⟨W,Hi,Γ,_,g,q,?_⟩
 rintro v H1 ⟨Hi1,d,Γ1,s1,g1,den,⟨ds0,e0⟩,q1⟩
 obtain ⟨a,h1,h2,h3,kvs0,ep0,h4,h5⟩:=g1.own i _ e0; refine ⟨.ref a,zh8 hi h1,W,Hi1,Γ1,_,g1,q1,?_⟩
 rintro y H2 ⟨Hi2,dk,Γ2,s2,g2,den2,ds,ks,e2,rfl,hl,q2⟩
 obtain ⟨a',k1,k2,k3,kvs,ep,k4,k5⟩:=g2.own i _ e2; rw [h1] at k1; cases k1; obtain ⟨b,rfl,hb⟩:=zfk den2
 refine ⟨a,kvs,ep,ks,b,rfl,k4,rfl,g2.sub _ _ hb,by rw [zj k5]; exact hl,fun ep'=>?_⟩
 exact l.nx σ _ Hi2 _ (s1.trans s2) (g2.put (o:=.dit (zmK ds (.tup (ks.map keyD)) d)) e2 h1 ⟨_,_,zn,zuz k5 ks (den.mono s2)⟩) q2
instance {i:Nat} {tk tv:TE'} [ME tk] [ME tv]:MS (zcJ i tk tv):=⟨fun N N' Γ h q=>ME.mono (t:=tv) _ _ _ (fun _ _ ⟨a,z⟩=>⟨a,ME.mono (t:=tk) _ _ _ (fun _ _ ⟨ds,ks,e1,e2,e3,w⟩=>⟨ds,ks,e1,e2,e3,h.nx _ w⟩) z⟩) q⟩
def Good.putN {K:W.Frag} {n:Nat} {W:Wd} {Hi H:Hp} {Γ:Sts} {σ:St} {p:Addr} {u:HO} (g:Good K n W Hi Γ σ H) (h0:Hi p=none) (h1:W.H₀ p=none) (ne:Free n W Γ σ p) (hu:∀ xs,u≠.tup xs):Good K n W Hi Γ σ (upd H p u):=by
 refine ⟨g.len,⟨fun b w q=>?_,fun b xs q=>?_⟩,fun b w q nf=>?_,fun b w q=>?_,g.fro,g.val,fun j o e=>?_,g.apart,fun j d b xs e=>?_⟩
 ·rw [zq (fun z=>by rw [z,h0] at q; cases q)]
  exact g.sub b w q
 ·by_cases hb:b=p
  ·subst hb
   rw [zn] at q; exact yP (Option.some.inj q) (hu xs)
  ·rw [zq hb] at q
   exact g.fz.tups b xs q
 ·rw [zq (fun z=>by rw [z,h1] at q; cases q)]
  exact g.keep b w q nf
 ·rw [zq (fun z=>by rw [z,h1] at q; cases q)]
  exact g.there b w q
 ·obtain ⟨b,q1,q2,q3,q4⟩:=g.own j o e
  have hb:b≠p:=fun z=>ne.own j o e (by rw [<- z]; exact q1)
  exact ⟨b,q1,q2,q3,q4.mono (zU.refl _) fun w hw=>by rw [zq hb]; exact hw⟩
 ·obtain ⟨p0,p1,p2,p3,p4,p5,p6⟩:=g.bk j d b xs e
  have hb:b≠p:=fun z=>ne.bk j _ _ (by rw [<- z]; exact e)
  exact ⟨p0,p1,p2,p3,p4.mono (zU.refl _) fun w hw=>by rw [zq hb]; exact hw,p5,p6⟩
def zhq (n:Nat) (tk tv:TE'):TO':=fun Γ Q=>tk (zcC n Γ) fun k _=>Imm k/\tv (zcC n Γ) fun v _=>Imm v/\(∃ ks:List Key,k=.tup (ks.map keyD))/\Q (.dit [(k,v)]) Γ
def zlJ (hu:X.A.units+1<cLine) {k v:Expr} {tk tv:TE'} {pos:Pos} (hk:PE' X k tk) (hv:PE' X v tv):PO' X (.Dict [some k] [v] pos) (zhq X.N.length tk tv):=by
 refine ⟨PE.weak (zjG hu hk.h hv.h) ?_⟩
 rintro σ H Q ⟨W,Hi,Γ,Q',g,h,fin⟩
 intro p hp; have new:=New.mk' (u:=.dE [] 0) (o:=.dit []) g hp ⟨[],0,zn,.nil⟩
 have e0:Ext Hi H Hi (upd H p (.dE [] 0)):=Ext.newO g.fz hp _ (fun _ z=>by cases z)
 have g0:=g.ext e0; obtain ⟨s1,g1⟩:=g0.look; refine ⟨_,_,_,_,g1,h,?_⟩
 rintro x H1 ⟨Hb,dk,Γ',sb,g',den,im,h'⟩
 obtain ⟨x1,y1,hd1⟩:=g0.unlook sb g'; have den1:=hd1 x dk im den; obtain ⟨s2,g2⟩:=y1.look; refine ⟨_,_,_,_,g2,h',?_⟩
 rintro y H2 ⟨Hc,dv,Γ'',sc,g'',den2,im2,⟨ks,rfl⟩,q⟩
 obtain ⟨x2,y2,hd2⟩:=y1.unlook sc g''; have den3:=hd2 y dv im2 den2
 have ep:H2 p=some (.dE [] 0):=x2.h _ _ (x1.h _ _ zn)
 have hi0:_=_:=(x2.fro p _ (x1.h _ _ zn)).trans (x1.fro p _ zn)
 obtain ⟨b,rfl,hb⟩:=zfk den1
 refine ⟨ep,b,ks,rfl,x2.h _ _ (y1.sub _ _ hb),fun ep'=>?_⟩
 refine fin p _ _ Γ (.dit [(.tup (ks.map keyD),dv)]) (x1.hi.trans x2.hi) (y2.putN (hi0.trans new.hi) new.h0 new.ne (fun _ z=>by cases z)) ⟨hi0.trans new.hi,new.h0,new.ne,⟨[(ks,y)],ep',zn,.cons ⟨rfl,den3⟩ .nil⟩⟩ q
end
end PL
namespace PySem
section
variable {dd kk:Addr} {ob:Obj} {ens:Array DictEntry} {tick nn:Nat}
def zbB (hob:s.heap.get? dd=some ob) (hex:ob.ExactDict):s.TypeIs (.ref dd) "dict":=⟨ob,hob,hex.1⟩
def zdo {Q:Value->Shared->Prop} (hsys:(dd == sysModules)=false) (hob:s.heap.get? dd=some ob) (hex:ob.ExactDict) (hdt:ob.data=.dict ens tick)
  (fin:Q (.ref s.heap.objs.size) { s with heap:=s.heap.push { cls:=.type "dict_keyiterator",data:=.fields #[.ref dd,.int 0 0,.int ens.size 0,.int tick 0] } }) :
  wpAny (model prog w) A (pyIter (.ref dd)) Q E s:=by
 have ty:=zbB hob hex; refine wpAny_pyIter_slot ty F.slot_dict_iter (YU F.slot_dict_iter ty F.entry_dict_iter ?_ (F.args_dict_iter_1 _))
 unfold Builtin.«dict.__iter__» Builtin.Dict.dictSlotNone
 refine yA (yA (wpAny_notOrdered_dict ty ?_))
 show wpAny _ _ (pure (Value.ref dd)) _ _ s
 refine yF (show wpAny _ _ (Builtin.Dict.showsAll dd >>= _) _ _ s from ?_)
 unfold Builtin.Dict.showsAll
 rw [yH (by rw [hsys]; exact yN)]
 refine yA (yF (yA (wpAny_dictEntries hob hdt (yA (wpAny_dictEpoch hob hdt ?_))))); refine yA (YC (yF ⟨_,rfl,"dict_keyiterator",_,⟨_,yM _ rfl,rfl⟩,F.slot_dict_keyiterator_next.lookup,?_⟩))
 simpa [rawInt] using fin
def zdW {ii:Nat} {Q:Option Value->Shared->Prop} (st:s.heap.IsKeyIter kk dd ii ens.size tick) (hob:s.heap.get? dd=some ob) (hdt:ob.data=.dict ens tick) (lt:ii<ens.size)
  (fin:∀ h2,h2.IsKeyIter kk dd (ii+1) ens.size tick->Heap.SameBut kk s.heap h2->Q (some ens[ii].key) { s with heap:=h2 }):wpAny (model prog w) A (pyNext (.ref kk)) Q E s:=by
 obtain ⟨ki,hki,hkc,hkd⟩:=id st; have ty:=st.typeIs; unfold pyNext; refine yA (Yz (wpAny_callSpecial?_slot (name:=Str.ofString "__next__") ty F.slot_dict_keyiterator_next (YU F.slot_dict_keyiterator_next ty F.entry_dict_keyiterator_next ?_ (F.args_dict_keyiterator_next_1 _)))); refine yA (yF (yA (yA ?_)))
 first
  | refine yA (Yt ty (yF (yA (wpAny_fieldsOf hki hkd ?_))))
  | refine yA (wpAny_typeNameOf_keyiter ty (yF (yA (wpAny_fieldsOf hki hkd ?_))))
 simp only [show Builtin.Dict_items.ownsTuple "dict_keyiterator"=false by decide,YL,if_false]
 show wpAny _ _ (if (Value.ref dd == Value.none)=true then _ else _) _ _ s
 rw [yH (show ¬ ((Value.ref dd == Value.none)=true) from yN)]
 refine yA (yF (yA (wpAny_dictEntries hob hdt ?_)))
 rw [yH (by simp)]
 refine yA (yF (yA (wpAny_dictEpoch hob hdt ?_)))
 rw [yH (by simp)]
 refine yF ?_
 simp only [show ¬ ((ii:Int)<0) from by omega,if_false,JC,ye lt]
 refine yA ?_
 first
  | refine yA (Yt ty (yF (yA (wpAny_isOneOf_keyiter ty ?_))))
  | refine yA (wpAny_typeNameOf_keyiter ty (yF (yA (wpAny_isOneOf_keyiter ty ?_))))
 show wpAny _ _ (setField (.ref kk) 1 (rawInt ((ii:Int)+1)) >>= _) _ _ s
 have st2:(s.heap.update kk (Obj.mapFields (·.setIfInBounds 1 (rawInt ((ii:Int)+1))))).IsKeyIter kk dd (ii+1) ens.size tick :=
  ⟨_,YY _ hki (Obj.isFreed_of_fields (Obj.data_mapFields hkd _)),(Obj.cls_mapFields ..).trans hkc,by rw [Obj.data_mapFields hkd]; simp [rawInt]⟩
 refine yA (Yq hki hkd (by simp) (yA (Yg ?_)))
 refine yA (wpAny_isOneOf_keyiter (s:={ s with heap:=s.heap.update kk (Obj.mapFields (·.setIfInBounds 1 (rawInt ((ii:Int)+1)))) }) st2.typeIs ?_)
 show wpAny _ _ (pure ens[ii].key) _ _ _
 exact yF (yF ⟨_,rfl,yF (fin _ st2 (Heap.SameBut.update ..))⟩)
def zex {ii:Nat} {Q:Option Value->Shared->Prop} (calm:A.handled=none) (st:s.heap.IsKeyIter kk dd ii ens.size tick) (hob:s.heap.get? dd=some ob) (hdt:ob.data=.dict ens tick) (ge:ens.size<=ii)
  (fin:∀ h2,Heap.ExtBut kk s.heap h2->Q none { s with heap:=h2 }):wpAny (model prog w) A (pyNext (.ref kk)) Q E s:=by
 obtain ⟨ki,hki,hkc,hkd⟩:=id st; have ty:=st.typeIs; unfold pyNext; refine yA (Yz (wpAny_callSpecial?_slot (name:=Str.ofString "__next__") ty F.slot_dict_keyiterator_next (YU F.slot_dict_keyiterator_next ty F.entry_dict_keyiterator_next ?_ (F.args_dict_keyiterator_next_1 _)))); refine yA (yF (yA (yA ?_)))
 first
  | refine yA (Yt ty (yF (yA (wpAny_fieldsOf hki hkd ?_))))
  | refine yA (wpAny_typeNameOf_keyiter ty (yF (yA (wpAny_fieldsOf hki hkd ?_))))
 simp only [show Builtin.Dict_items.ownsTuple "dict_keyiterator"=false by decide,YL,if_false]
 show wpAny _ _ (if (Value.ref dd == Value.none)=true then _ else _) _ _ s
 rw [yH (show ¬ ((Value.ref dd == Value.none)=true) from yN)]
 refine yA (yF (yA (wpAny_dictEntries hob hdt ?_)))
 rw [yH (by simp)]
 refine yA (yF (yA (wpAny_dictEpoch hob hdt ?_)))
 rw [yH (by simp)]
 refine yF ?_
 simp only [show ¬ ((ii:Int)<0) from by omega,if_false,JC,Array.getElem?_eq_none ge]
 refine yA ?_
 first
  | refine yA (Yt ty (yF ?_))
  | refine yA (wpAny_typeNameOf_keyiter ty (yF ?_))
 show wpAny _ _ (setField (.ref kk) 0 .none >>= _) _ _ s
 refine yA (Yq hki hkd (by simp) (show wpAny _ _ (newExc (.type "StopIteration") [] >>= _) _ _ _ from yA ?_))
 simp only [newExc,newTuple]
 apply yA
 refine YC ?_ (by size_fits)
 refine yA (m:=firstArgMember _ _) (wpAny_of_eq (a:=Value.none) (by first | rfl | (simp only [firstArgMember]; rfl)) (YC ?_ (by size_fits)))
 simp only [raiseNew]; refine yA (wpAny_handled ?_)
 rw [show A.in1.handled=none from calm]
 refine (yA (yF (wpAny_throw ?_))); refine yA (wpAny_isInstance (T:="StopIteration") (b:=true) ⟨_,yM _ rfl,rfl⟩ isSubtype_stop (yF (fin _ ?_))); exact ((Heap.SameBut.update ..).extBut.push _).push _
end
end PySem
namespace L2
open PySem PySem.Spec PyProof.Rows
def Ite (a:Addr) (kvs:List (List Key × V)) (ep:Nat):It :=
 ⟨fun i H=>H a=some (.dE kvs ep)/\i<kvs.length,fun i H x H'=>H'=H/\∃ k y b,kvs[i]?=some (k,y)/\x=.ref b/\H b=some (.tup (k.map kV)),fun i H=>H a=some (.dE kvs ep)/\kvs.length<=i⟩
def zi8 {P:Program} {w:World} {K:W.Frag} {tg:Expr} (a it:Addr) (kvs:List (List Key × V)) (ep:Nat):Turn P w K tg (Ite a kvs ep) [it] it (fun i h=>h.IsKeyIter it a i kvs.length ep) where
 mem:=by simp
 obj:=fun i h st b hb=>by
  have e:b=it:=by simpa using hb
  subst e; obtain ⟨o,e,c,d⟩:=st
  exact ⟨o,e,fun v z=>by rw [d] at z; cases z⟩
 keep:=fun i h h' st k=>st.at fun o e=>k it (by simp) o e
 item:=by
  intro X hP hw hK hc i pins s σ H E I hf st hg
  subst hP hw hK
  obtain ⟨hq,hi⟩:=hg; obtain ⟨z,hd,xs,rel,_,o,es,ho,hx,hdat,he⟩:=zen I.hok hq
  obtain ⟨f0,f1,f2,f3,f4,f5⟩:=hf it (by simp)
  have hl:kvs.length=xs.length:=Paired.length rel
  have hs:es.size=kvs.length:=by
   have:=ym List.length he
   rw [yG,yz] at this; rw [this,hl]
  have hi':i<es.size:=by rw [hs]; exact hi
  have hix:i<xs.length:=by rw [<- hl]; exact hi
  have q:=PL.paired_get i rel (yB hi) (yB hix)
  have hk:es[i].key=.ref xs[i].2.1:=by
   have e1:es.toList[i]?=(xs.map (entryOfKey (tupleKind (zaT X.prog X.w))))[i]?:=by rw [he]
   rw [yK,yB hix,yR,ye hi'] at e1; rw [Option.some.inj e1]; rfl
  rw [<- hs] at st
  refine zdW st ho hdat hi' fun h' st' sb=>?_
  have I1:Inv X pins σ H { s with heap:=h' }:=I.turned (t':=s.toks) (fun b o hb e=>(sb.2 b hb).trans e) f0 f1 f3 f4 f5
  rw [hs] at st'; obtain ⟨o2,e,c,d⟩:=id st'; rw [hk]
  exact ⟨_,rfl,ziH (s:={ s with heap:=h' }) e c d (by decide) ⟨.ref xs[i].2.1,H,I1,rfl,⟨rfl,kvs[i].1,kvs[i].2,_,yB hi,rfl,q.2.1⟩,st',fun b hb=>(hf b hb).1⟩⟩
 done:=by
  intro X hP hw hK hc i pins s σ H E I hf st hg
  subst hP hw hK
  obtain ⟨hq,hi⟩:=hg; obtain ⟨z,hd,xs,rel,_,o,es,ho,hx,hdat,he⟩:=zen I.hok hq
  obtain ⟨f0,f1,f2,f3,f4,f5⟩:=hf it (by simp)
  have hl:kvs.length=xs.length:=Paired.length rel
  have hs:es.size=kvs.length:=by
   have:=ym List.length he
   rw [yG,yz] at this; rw [this,hl]
  rw [<- hs] at st
  exact zex (I.ok.hd hc) st ho hdat (by omega) fun h' eb=>⟨rfl,I.turned (t':=s.toks) (fun b o hb e=>eb b o hb e) f0 f1 f3 f4 f5⟩
 self:=fun _ _ _ _ _ st h=>wpAny_pyIter_keyiter st h
section
variable {tg:Expr}
def zth (tl:TE):TI:=fun σ H R=>tl σ H fun x H1=>∃ a kvs ep,x=.ref a/\H1 a=some (.dE kvs ep)/\R (Ite a kvs ep) H1
def zor {l:Expr} {tl:TE} (hl:PE X l tl):PI X tg l (zth tl):=by
 intro pins s σ H R I h
 refine thn (hl pins s σ H _ I h) fun v s1 ⟨x,H1,I1,r1,a,kvs,ep,e,hq,q⟩=>?_
 subst e; cases r1; obtain ⟨z,hd,xs,rel,_,o,es,ho,hx,hdat,he⟩:=zen I1.hok hq
 have hs:es.size=kvs.length:=by
  have:=ym List.length he
  rw [yG,yz] at this; rw [this,Paired.length rel]
 refine zdo hd ho hx hdat ?_
 refine ⟨s1.heap.objs.size,[s1.heap.objs.size],_,_,H1,rfl,I1.kept (t':=s1.toks) fun b o e=>yC _ e,zi8 a _ kvs ep,⟨_,yM _ rfl,rfl,by rw [hs]; rfl⟩,fun b hb=>?_,q⟩
 have e:b=s1.heap.objs.size:=by simpa using hb
 subst e; exact I1.fpOk (yD _) (I1.hok.fresh (yD _))
end
end L2
namespace PL
open PySem L2
theorem zoZ {K:W.Frag} {Hi:Hp}:∀ k:Key,Den K Hi (kV k) (keyD k)
 | .inl i=>.int i
 | .inr x=>by
  have e:kV (.inr x)=.str (st x.cps.toList):=by
   show V.str x=_
   rfl
  rw [e]; exact .str _
theorem zkd {K:W.Frag} {Hi:Hp}:∀ ks:List Key,zaV K Hi (ks.map kV) (ks.map keyD)
 | []=>.nil
 | k :: ks=>.cons (zoZ k) (zkd ks)
def zmz {K:W.Frag} {Hi:Hp} {a:Addr} {kvs:List (List Key × V)} {ep:Nat} {ds:List (D × D)} (h:Hi a=some (.dE kvs ep)) (r:zi0 K Hi kvs ds):ItD K Hi (Ite a kvs ep) (ds.map (·.1)):=by
 intro Hi' H' s1 s2
 have hq:H' a=some (.dE kvs ep):=(s1.trans s2.sub) _ _ h
 have hl:=zj r
 refine ⟨fun i d e=>?_,hq,by rw [yG,hl]; exact yD _⟩
 rw [yK] at e
 cases hc:ds[i]? with
 | none=>rw [hc] at e; cases e
 | some q =>
  rw [hc] at e; cases e; obtain ⟨p,e1,e2⟩:=zab r hc; refine ⟨⟨hq,(yE.mp e1).1⟩,?_⟩
  rintro x H'' ⟨rfl,k,y,b,ek,rfl,hb⟩
  rw [e1] at ek; cases ek; refine ⟨Hi',Ext.refl s2,?_⟩
  show Den K Hi' (.ref b) q.1
  rw [e2.1]; exact Den.mkT (s2.tups _ _ hb) (zkd _)
def zgd (t:TE'):TI':=fun Γ Q=>t Γ fun d Γ1=>∃ ds,d=.dit ds/\Q (ds.map (·.1)) Γ1
def zlN {X:Cx} {l tg:Expr} {t:TE'} (hl:PE' X l t):PI' X tg l (zgd t):=by
 refine ⟨PI.weak (zor hl.h) ?_⟩
 rintro σ H R ⟨W,Hi,Γ,Q',g,h,fin⟩
 refine ⟨W,Hi,Γ,_,g,h,?_⟩
 rintro v H1 ⟨Hi1,d,Γ1,s1,g1,den,ds,rfl,q⟩
 obtain ⟨a,kvs,ep,rfl,h1,h2⟩:=den.ditI; exact ⟨a,kvs,ep,rfl,g1.sub _ _ h1,fin _ H1 Hi1 Γ1 _ s1 g1 (zmz h1 h2) q⟩
end PL
namespace PySem
section
variable {dd kk:Addr} {ob:Obj} {ens:Array DictEntry} {tick nn:Nat}
def zqe {Q:Value->Shared->Prop} (hsys:(dd == sysModules)=false) (hob:s.heap.get? dd=some ob) (hex:ob.ExactDict) (hdt:ob.data=.dict ens tick) (fin:Q (.int ens.size s.toks) { s with toks:=s.toks+1 }) :
  wpAny (model prog w) A (call (.builtin "dict.__len__") [.ref dd]) Q E s:=by
 have ty:=zbB hob hex; refine YU F.slot_dict_len ty F.entry_dict_len ?_ (F.args_dict_len_1 _)
 show wpAny _ _ (dictSize dd >>= _) _ _ s
 unfold dictSize
 refine yA (yA (wpAny_dictEntries hob hdt (yF (show wpAny _ _ (Builtin.Dict.pendingCount dd >>= _) _ _ s from yA (wpAny_pendingCount_other hsys ?_)))))
 refine wpAny_ret_mkInt ?_
 have z:((ens.size:Int)+((0:Nat):Int))=ens.size:=by omega
 first
  | exact fin
  | (rw [z]; exact fin)
  | (refine ⟨_,rfl,?_⟩; simpa using fin)
def zta {Q:Value->Shared->Prop} (hsys:(dd == sysModules)=false) (hob:s.heap.get? dd=some ob) (hex:ob.ExactDict) (hdt:ob.data=.dict ens tick) (few:ens.size<=sizeLine) (fin:Q (.int ens.size (s.toks+1)) { s with toks:=s.toks+1+1 }) :
  wpAny (model prog w) A (call (.builtin "len") [.ref dd]) Q E s :=
 PyProof.Rows.call_len_slot (n:=ens.size) (zbB hob hex) F.slot_dict_len (fun Q' hq=>zqe hsys hob hex hdt hq) (by omega) (by rw [sizeLine_eq] at few; omega) fin
def zrh {Q:Bool->Shared->Prop} (hob:s.heap.get? dd=some ob) (hex:ob.ExactDict) (fin:Q false s):wpAny (model prog w) A (Builtin.List.listLengthHint (.ref dd)) Q E s:=by
 have ty:=zbB hob hex; unfold Builtin.List.listLengthHint; refine yA (wpAny_specialOf ty F.slot_dict_len.lookup ?_); generalize hid:("dict.__len__":String)=id0
 wp_delta
 rw [show splitId id0=some ("dict","__len__") from by subst hid; decide +kernel]
 subst hid
 refine yA (wpAny_isInstance (T:="dict") (b:=true) ty (by rw [isSubtype_type]; kernel_rfl) ?_)
 refine wpAny_ite_split (fun z=>yP z (by decide)) (fun _=>?_)
 refine wpAny_ite_split (fun _=>?_) (fun z=>yP (by decide +kernel) z)
 refine yA (wpAny_typeOf ty ?_); exact yF fin
def zla (calm:A.handled=none) (hne:dd≠kk) (hdt:ob.data=.dict ens tick):Walks prog w A kk [kk,dd] [kk] ens.size (fun i v=>∃ e,ens[i]?=some e/\v=e.key) (fun i h=>h.IsKeyIter kk dd i ens.size tick/\h.get? dd=some ob) where
 sub:=fun b hb=>by
  have e:b=kk:=by simpa using hb
  simp [e]
 frame:=fun _ _ _ st hk=>⟨st.1.at fun o e=>hk kk (by simp) o e,hk dd (by simp) _ st.2⟩
 item:=fun i s Q E hi st hQ=>zdW st.1 st.2 hdt hi fun h2 st2 sb=>hQ _ h2 s.toks ⟨_,ye hi,rfl⟩ ⟨st2,(sb.2 dd hne).trans st.2⟩ fun b o hb e=>(sb.2 b (fun z=>hb (by simp [z]))).trans e
 done:=fun s Q E st hQ=>zex calm st.1 st.2 hdt (yD _) fun h2 eb=>hQ h2 s.toks fun b o hb e=>eb b o (fun z=>hb (by simp [z])) e
 self:=fun _ _ _ _ st hQ=>wpAny_pyIter_keyiter st.1 hQ
def ziL {R:Result->Shared->Prop} {S:Addr} {res:Value} {c₀:Nat} (calm:A.handled=none) (hsys:(dd == sysModules)=false) (hob:s.heap.get? dd=some ob) (hex:ob.ExactDict) (hdt:ob.data=.dict ens tick) (few:ens.size<=sizeLine) (hne:S≠dd) (hS:s.heap.get? S=some { cls:=.type "list",data:=.seq #[] c₀ })
  (fin:∀ h2 tk acc c2,(∀ b o,b≠S->s.heap.get? b=some o->h2.get? b=some o)->h2.get? S=some { cls:=.type "list",dict:=none,data:=.seq acc c2,slots:=#[] }->ItemsOf (fun i v=>∃ e,ens[i]?=some e/\v=e.key) acc ens.size->R (.ok (.ret res)) { s with heap:=h2,toks:=tk }) :
  wpAny (model prog w) A.in1 (Builtin.List.listExtendWith (.ref S) (.ref dd) res) (fun f s'=>match f with | .done f=>R (.ok f) s' | .again c'=>c'.quiet=true/\codeAny (model prog w) A c' R s') (fun e s'=>R (.error e) s') s:=by
 have hSlt:S<s.heap.objs.size:=yJ hS
 have hSI:S≠s.heap.objs.size:=yW hSlt
 have hdI:dd≠s.heap.objs.size:=yW (yJ hob)
 have hSf:S ∉ [s.heap.objs.size,dd]:=fun hm=>by
  rcases yQ.mp hm with z | z
  ·exact hSI z
  ·exact hne (yc.mp z)
 have W:=(zla (prog:=prog) (w:=w) (A:=A.in1) (kk:=s.heap.objs.size) calm hdI hdt).toS
 have loop:∀ (h:Heap) (c₁ tk:Nat),h.IsKeyIter s.heap.objs.size dd 0 ens.size tick->h.get? dd=some ob->(∀ b o,b≠S->s.heap.get? b=some o->h.get? b=some o) ->
   h.get? S=some { cls:=.type "list",data:=.seq #[] c₁ }->codeAny (model prog w) A (.builtin "list.extend.loop" ⟨[.ref S,.ref s.heap.objs.size,res],[]⟩) R { s with heap:=h,toks:=tk }:=by
  intro h c₁ tk hit hod hk hS₁
  refine codeAny_extend_loopS W few S hSf res ens.size 0 _ #[] c₁ rfl (yn _) ⟨hit,hod⟩ hS₁ (ItemsOf.nil _) fun s' acc' c' hm hS' hacc=>?_
  rw [Moved.eq_with hm]
  refine fin s'.heap s'.toks acc' c' (fun b o hb e=>hm.heap b o (fun z=>?_) (hk b o hb e)) hS' hacc
  rcases yQ.mp z with e' | z
  ·exact hb e'
  ·exact yP (yJ e) (by rw [yc.mp z]; exact YW _)
 unfold Builtin.List.listExtendWith; refine yA (wpAny_typeOf (zbB hob hex) ?_)
 have h1:Builtin.List.listSameRef (.ref S) (.ref dd)=false:=by simp [Builtin.List.listSameRef,hne]
 simp only [h1,show (Value.type "dict" == Value.type "list")=false by decide,show (Value.type "dict" == Value.type "tuple")=false by decide,Bool.or_false,YL,if_false]
 refine yA (zdo hsys hob hex hdt ?_); refine yA (Yg (zrh (yC _ hob) hex ?_))
 have hit₁:(s.heap.push { cls:=.type "dict_keyiterator",data:=.fields #[.ref dd,.int 0 0,.int ens.size 0,.int tick 0] }).IsKeyIter s.heap.objs.size dd 0 ens.size tick:=⟨_,yM _ rfl,rfl,rfl⟩
 have hS₁:=yC { cls:=.type "dict_keyiterator",data:=.fields #[.ref dd,.int 0 0,.int ens.size 0,.int tick 0] } hS
 refine wpAny_ite_split (fun _=>?_) (fun _=>yF ⟨plainId_quiet F.plain_extend_loop _,loop _ c₀ _ hit₁ (yC _ hob) (fun b o _ e=>yC _ e) hS₁⟩)
 refine yA (wpAny_rule (yA ?_))
 show wpAny _ _ (updateSeq S (·.push .none) >>= fun _=>updateSeq S (·.pop)) _ _ _
 refine yA (wpAny_updateSeq hS₁ rfl ?_); have hS₂:=YY (Obj.mapSeq (·.push Value.none)) hS₁ rfl
 refine wpAny_updateSeq (hz:=by seq_fits) hS₂ rfl ?_
 have hS₃:=YY (Obj.mapSeq (·.pop)) hS₂ rfl
 have oth:∀ b o,b≠S->(s.heap.push { cls:=.type "dict_keyiterator",data:=.fields #[.ref dd,.int 0 0,.int ens.size 0,.int tick 0] }).get? b=some o->(((s.heap.push { cls:=.type "dict_keyiterator",data:=.fields #[.ref dd,.int 0 0,.int ens.size 0,.int tick 0] }).update S (Obj.mapSeq (·.push Value.none))).update S (Obj.mapSeq (·.pop))).get? b=some o :=
  fun b o hb e=>(yj _ _ (Ne.symm hb)).trans ((yj _ _ (Ne.symm hb)).trans e)
 exact yF ⟨plainId_quiet F.plain_extend_loop _,loop _ _ _ (hit₁.at fun o e=>oth _ o (Ne.symm hSI) e) (oth _ _ (Ne.symm hne) (yC _ hob)) (fun b o hb e=>oth b o hb (yC _ e)) hS₃⟩
def zmA {R:Result->Shared->Prop} {S:Addr} (calm:A.handled=none) (hsys:(dd == sysModules)=false) (hob:s.heap.get? dd=some ob) (hex:ob.ExactDict) (hdt:ob.data=.dict ens tick) (few:ens.size<=sizeLine) (hne:S≠dd) (hS:s.heap.get? S=some { cls:=.type "list",data:=.seq #[] })
  (fin:∀ h2 tk acc c2,(∀ b o,b≠S->s.heap.get? b=some o->h2.get? b=some o)->h2.get? S=some { cls:=.type "list",dict:=none,data:=.seq acc c2,slots:=#[] }->ItemsOf (fun i v=>∃ e,ens[i]?=some e/\v=e.key) acc ens.size->R (.ok (.ret .none)) { s with heap:=h2,toks:=tk }) :
  wpAny (model prog w) A.in1 (Builtin.«list.__init__» ⟨[.ref S,.ref dd],[]⟩) (fun f s'=>match f with | .done f=>R (.ok f) s' | .again c'=>c'.quiet=true/\codeAny (model prog w) A c' R s') (fun e s'=>R (.error e) s') s:=by
 show wpAny _ _ (Builtin.List.listItems (.ref S) >>= fun old=>Builtin.List.listUpdate (.ref S) (fun _=>#[]) >>= fun _=>letGo old.toList.reverse >>= fun _=>Builtin.List.listExtendWith (.ref S) (.ref dd) .none) _ _ s
 unfold Builtin.List.listItems; refine yA (yA (Yk hS rfl (yF ?_)))
 show wpAny _ _ (updateSeq S (fun _=>#[]) >>= fun _=>letGo (#[]:Array Value).toList.reverse >>= fun _=>Builtin.List.listExtendWith (.ref S) (.ref dd) .none) _ _ s
 have hS₂:=YY (Obj.mapSeq (fun _=>(#[]:Array Value))) hS rfl
 have oth:∀ b o,b≠S->s.heap.get? b=some o->(s.heap.update S (Obj.mapSeq (fun _=>(#[]:Array Value)))).get? b=some o:=fun b o hb e=>(yj _ _ (Ne.symm hb)).trans e
 refine yA (wpAny_updateSeq hS rfl (yA (wpAny_letGo ?_)))
 exact ziL calm hsys (oth dd _ (Ne.symm hne) hob) hex hdt few hne hS₂ fun h2 tk acc c2 hk hS' hacc=>fin h2 tk acc c2 (fun b o hb e=>hk b o hb (oth b o hb e)) hS' hacc
def zmc {Q:Value->Shared->Prop} (calm:A.handled=none) (hsys:(dd == sysModules)=false) (hob:s.heap.get? dd=some ob) (hex:ob.ExactDict) (hdt:ob.data=.dict ens tick) (few:ens.size<=sizeLine)
  (fin:∀ h2 tk acc c2,(∀ b o,s.heap.get? b=some o->h2.get? b=some o)->h2.get? s.heap.objs.size=some { cls:=.type "list",dict:=none,data:=.seq acc c2,slots:=#[] }->ItemsOf (fun i v=>∃ e,ens[i]?=some e/\v=e.key) acc ens.size->Q (.ref s.heap.objs.size) { s with heap:=h2,toks:=tk }) :
  wpAny (model prog w) A (call (.type "list") [.ref dd]) Q E s:=by
 refine callType_codes (Q₁:=fun obj s₁=>obj=.ref s.heap.objs.size/\s₁={ s with heap:=s.heap.push { cls:=.type "list",data:=.seq #[] } }) F.called_list (F.typeCall_list_1 _) F.entry_list_init (code_list_new _ ⟨rfl,rfl⟩) fun obj s₁ h₁=>?_
 obtain ⟨rfl,rfl⟩:=h₁
 have hS:(s.heap.push { cls:=.type "list",data:=.seq #[] }).get? s.heap.objs.size=some { cls:=.type "list",data:=.seq #[] }:=yM _ rfl
 refine ⟨⟨_,hS,rfl⟩,F.args_list_init_2 _ _,zmA (A:=A.in1) calm hsys (yC _ hob) hex hdt few (Ne.symm (yW (yJ hob))) hS fun h2 tk acc c2 hk hS' hacc=>?_⟩
 exact ⟨rfl,fin h2 tk acc c2 (fun b o e=>hk b o (yW (yJ e)) (yC _ e)) hS' hacc⟩
end
end PySem
namespace L2
open PySem PySem.Spec PyProof.Rows
section
def zrQ:Value->V
 | .ref b=>.ref b
 | _=>.non
def Inv.keys {pins:yyL} {σ:St} {H:Hp} {s:Shared} {a:Addr} {kvs:List (List Key × V)} {ep:Nat} (I:Inv X pins σ H s) (e:H a=some (.dE kvs ep)):kvs.length<=sizeLine/\(a == sysModules)=false/\∃ (o:Obj) (es:Array DictEntry),s.heap.get? a=some o/\o.ExactDict/\o.data=.dict es ep/\es.size=kvs.length /\
  ∀ (i:Nat) k y,kvs[i]?=some (k,y)->∃ b x,es[i]?=some x/\x.key=.ref b/\H b=some (.tup (k.map kV)):=by
 obtain ⟨z,hd,xs,rel,_,o,es,ho,hx,hdat,he⟩:=zen I.hok e
 have hl:kvs.length=xs.length:=Paired.length rel
 have hs:es.size=kvs.length:=by
  have:=ym List.length he
  rw [yG,yz] at this; rw [this,hl]
 refine ⟨z,hd,o,es,ho,hx,hdat,hs,fun i k y hk=>?_⟩
 have hi:i<kvs.length:=(yE.mp hk).1
 have hix:i<xs.length:=by rw [<- hl]; exact hi
 have hi':i<es.size:=by rw [hs]; exact hi
 have q:=PL.paired_get i rel hk (yB hix); refine ⟨xs[i].2.1,es[i],ye hi',?_,q.2.1⟩
 have e1:es.toList[i]?=(xs.map (entryOfKey (tupleKind (zaT X.prog X.w))))[i]?:=by rw [he]
 rw [yK,yB hix,yR,ye hi'] at e1; rw [Option.some.inj e1]; rfl
def zkB:zbW X (.builtin "len") (fun xs H Q=>∃ a kvs ep,xs=[.ref a]/\H a=some (.dE kvs ep)/\Q (.int kvs.length) H):=by
 intro pins s σ H xs us Q I r h; obtain ⟨a,kvs,ep,rfl,e,q⟩:=h; obtain ⟨u,rfl,rx⟩:=zcl r; cases rx; obtain ⟨z,hd,o,es,ho,hx,hdat,hs,_⟩:=I.keys e
 refine zta hd ho hx hdat (by rw [hs]; exact z) ?_
 rw [hs]; exact ⟨.int kvs.length,H,I.tok _,⟨_,rfl⟩,q⟩
def ziN (hc:X.calm=true):zbW X (.type "list") (fun xs H Q=>∃ a kvs ep,xs=[.ref a]/\H a=some (.dE kvs ep)/\∀ l ys,H l=none->ys.length=kvs.length->(∀ (i:Nat) k y,kvs[i]?=some (k,y)->∃ b,ys[i]?=some (.ref b)/\H b=some (.tup (k.map kV)))->Q (.ref l) (upd H l (.lst ys))):=by
 intro pins s σ H xs us Q I r h; obtain ⟨a,kvs,ep,rfl,e,q⟩:=h; obtain ⟨u,rfl,rx⟩:=zcl r; cases rx; obtain ⟨z,hd,o,es,ho,hx,hdat,hs,hk⟩:=I.keys e
 refine zmc (I.ok.hd hc) hd ho hx hdat (by rw [hs]; exact z) fun h2 tk acc c2 kp e2 hit=>?_
 obtain ⟨hsz,hit⟩:=hit
 have each:∀ (j:Nat) v,acc[j]?=some v->∃ b k y,v=.ref b/\kvs[j]?=some (k,y)/\H b=some (.tup (k.map kV)):=fun j v hj=>by
  obtain ⟨x,hx1,rfl⟩:=hit j v hj
  have hjl:j<kvs.length:=by
   rw [<- hs]; exact (yu.mp hx1).1
  obtain ⟨b,x',hx2,hb,ht⟩:=hk j kvs[j].1 kvs[j].2 (yB hjl); rw [hx1] at hx2; cases hx2; exact ⟨b,kvs[j].1,kvs[j].2,hb,yB hjl,ht⟩
 have hys:zae (acc.toList.map zrQ) acc.toList:=by
  refine PL.paired_of (by rw [yG]) fun j x v h1 h2=>?_
  rw [yK,h2] at h1
  obtain ⟨b,_,_,rfl,_⟩:=each j v (by rw [<- yR]; exact h2)
  cases h1; exact rfl
 have hl:(acc.toList.map zrQ).length=kvs.length:=by rw [yG,yz,hsz,hs]
 have I2:=I.laid (t':=tk) (o:=.lst (acc.toList.map zrQ)) kp (yD _) (show zal X.prog X.w _ h2 _ (.lst (acc.toList.map zrQ)) from ⟨by rw [hl]; exact z,acc.toList,c2,hys,by simpa using e2⟩)
 refine ⟨.ref s.heap.objs.size,_,I2,rfl,q _ _ (I.hok.fresh (yD _)) hl fun i k y hi=>?_⟩
 have hil:i<acc.size:=by rw [hsz,hs]; exact (yE.mp hi).1
 obtain ⟨b,k',y',hv,hk',ht⟩:=each i acc[i] (ye hil); rw [hi] at hk'; cases hk'; refine ⟨b,?_,ht⟩; rw [yK,yR,ye hil,hv]; rfl
end
end L2
namespace PL
open PySem L2
section
abbrev zmQ:=List D->(OD->Prop)->Prop
def znJ (K:W.Frag) (r:List V->Hp->VK->Prop) (r':zmQ):Prop:=∀ (Hi H:Hp) (vs:List V) (ds:List D) (Q:OD->Prop) (Q2:VK),Fz Hi H->zaV K Hi vs ds->r' ds Q ->
 (∀ Hi1 H1 p u o,Ext Hi H Hi1 H1->H1 p=none->(∀ xs,u≠.tup xs)->zbC K Hi1 (upd H1 p u) p o->Q o->Q2 (.ref p) (upd H1 p u))->r vs H Q2
structure CalO (X:Cx) (f:Value) (r':zmQ):Prop where
 ex:∃ r,zbW X f r/\znJ X.K r r'
def CalO.or {f:Value} {r r':zmQ} (h:CalO X f r) (h':CalO X f r'):CalO X f (fun x Q=>r x Q\/r' x Q):=by
 obtain ⟨a,ha,la⟩:=h.ex; obtain ⟨b,hb,lb⟩:=h'.ex
 refine ⟨_,ha.or hb,fun Hi H vs ds Q Q2 s d q fin=>?_⟩
 rcases q with q | q
 ·exact .inl (la Hi H vs ds Q Q2 s d q fin)
 ·exact .inr (lb Hi H vs ds Q Q2 s d q fin)
def zn0 (r:zmQ) (t:TA'):TO':=fun Γ Q=>t Γ fun ds Γ1=>r ds fun o=>Q o Γ1
def znZ {K:W.Frag} {n:Nat} {r:List V->Hp->VK->Prop} {r':zmQ} {t:TA'} {σ:St} {H:Hp} {Q:VK} (l:znJ K r r') (h:oOf K n (zn0 r' t) σ H Q):tCB r (zsr K n t) σ H Q:=by
 obtain ⟨W,Hi,Γ,Q',g,h,fin⟩:=h; refine ⟨W,Hi,Γ,_,g,h,?_⟩; intro vs H1 Hi1 Γ1 ds s1 g1 dl h1; refine l Hi1 H1 vs ds _ _ g1.fz dl h1 ?_; intro Hi2 H2 p u o e hp hu own q; have g2:=g1.ext e; exact fin p _ Hi2 Γ1 o (s1.trans e.hi) (g2.ext (Ext.newO g2.fz hp u hu)) (New.mk' g2 hp own) q
variable {x:Str} {p pos:Pos} {e:Expr} {es:List Expr} {t:TA'} {id T:String}
def zir {r':zmQ} (hc:CalO X (.type T) r') (hm:X.mg x=none) (hv:bootBuiltins x=some (.type T)) (ha:PA' X (e :: es) t) (hg:Gl X x:=by rfl) (hn:x≠"__name__":=by decide) (hdb:yyD x:=by decide):PO' X (.Call (.Name x p) (e :: es) [] pos) (zn0 r' t):=by
 obtain ⟨r,ho,l⟩:=hc.ex; obtain ⟨p1,p2⟩:=zD ha.pl
 exact ⟨PE.weak (zfV ho hg hm hv ha.pa hn hdb (zZ p1) (zaa p2)) fun σ H Q q=>znZ l q⟩
def zgM:zmQ:=fun ds Q=>∃ d es,ds=[d]/\(d=.lst es\/d=.tup es)/\Q (.lst es)
def zrx:CalO X (.type "list") zgM:=⟨_,zgr,by
 rintro Hi H vs ds Q Q2 s dl ⟨d,es,rfl,h,q⟩ fin
 obtain ⟨v,rfl,den⟩:=zcX dl
 rcases h with rfl | rfl
 ·obtain ⟨a,us,rfl,h1,h2⟩:=den.lstI
  exact ⟨a,us,rfl,.inl (zL s.sub h1),fun l hl=>fin Hi H l _ (.lst es) (Ext.refl s) hl (fun _ z=>by cases z) ⟨us,zn,h2⟩ q⟩
 ·obtain ⟨a,us,rfl,h1,h2⟩:=den.tupI
  exact ⟨a,us,rfl,.inr (zK s.sub h1),fun l hl=>fin Hi H l _ (.lst es) (Ext.refl s) hl (fun _ z=>by cases z) ⟨us,zn,h2⟩ q⟩⟩
def zeT:zmQ:=fun ds Q=>∃ es,ds=[.dit es]/\Q (.lst (es.map (·.1)))
def zpm (hc:X.calm=true):CalO X (.type "list") zeT:=⟨_,ziN hc,by
 rintro Hi H vs ds Q Q2 s dl ⟨es,rfl,q⟩ fin
 obtain ⟨v,rfl,den⟩:=zcX dl; obtain ⟨a,kvs,ep,rfl,h1,h2⟩:=den.ditI
 refine ⟨a,kvs,ep,rfl,s.sub _ _ h1,fun l ys hl hy hk=>fin Hi H l _ (.lst (es.map (·.1))) (Ext.refl s) hl (fun _ z=>by cases z) ⟨ys,zn,?_⟩ q⟩
 refine paired_of (by rw [hy,yG,zj h2]) fun i v d e1 e2=>?_
 rw [yK] at e2
 cases hc2:es[i]? with
 | none=>rw [hc2] at e2; cases e2
 | some q =>
  rw [hc2] at e2; cases e2; obtain ⟨p,ep,ep2⟩:=zab h2 hc2; obtain ⟨b,eb,hb⟩:=hk i p.1 p.2 ep; rw [e1] at eb; cases eb
  show Den X.K Hi (.ref b) q.1
  rw [ep2.1]; exact Den.mkT (s.tups _ _ hb) (zkd _)⟩
def zgN:RC':=fun ds Q=>∃ es,ds=[.dit es]/\Q (.int es.length)
def zry:Cal X (.builtin "len") zgN:=⟨_,zkB,by
 rintro Hi H vs ds Q Q2 s dl ⟨es,rfl,q⟩ fin
 obtain ⟨v,rfl,den⟩:=zcX dl; obtain ⟨a,kvs,ep,rfl,h1,h2⟩:=den.ditI; refine ⟨a,kvs,ep,rfl,s.sub _ _ h1,?_⟩; rw [zj h2]; exact fin Hi H _ _ (Ext.refl s) (.int _) q⟩
instance:MRC zgN:=⟨fun _ _ _ h ⟨es,a,q⟩=>⟨es,a,h _ q⟩⟩
end
end PL
namespace PySem
section
variable {S tt:Addr} {ob:Obj} {mine items:Array Value} {n c₀:Nat} {T:String}
end
end PySem
namespace L2
open PySem PySem.Spec PyProof.Rows
section
end
end L2
namespace PL
open PySem L2
section
end
end PL
namespace L2
open PySem PySem.Spec PyProof.Rows
section
end
end L2
namespace PL
open PySem L2
section
end
end PL
namespace PySem
open PyProof.Rows
namespace F
end F
section
variable {tt rr:Addr} {items:Array Value}
end
end PySem
namespace L2
open PySem PySem.Spec PyProof.Rows
section
variable {tg:Expr}
end
end L2
namespace PL
open PySem L2
end PL
namespace X1
open PySem
def Ex (h:Heap) (e:Addr) (cl:Value) (dd:Option Addr) (vs:Array Value):Prop:=∃ sl,h.get? e=some ⟨cl,dd,.fields vs,sl⟩
def Ent (h:Heap) (T:Addr) (fl:Value):Prop:=∃ c d ts sl,h.get? T=some ⟨c,d,.fields ts,sl⟩/\ts[3]?=some fl
def Hd (h:Heap) (e:Addr) (vs:Array Value) (fl:Value) (R:Addr->Prop):Prop:=(vs[1]?=some .none/\fl=.none)\/∃ T,vs[1]?=some (.ref T)/\T≠e/\R T/\Ent h T fl
structure Kp (R:Addr->Prop) (fr:List Addr) (h h':Heap):Prop where
 keep:∀ b o,h.get? b=some o->¬ R b->b ∉ fr->h'.get? b=some o
 slot:∀ b o,h.get? b=some o->¬ R b->b ∈ fr->∃ sl,h'.get? b=some { o with slots:=sl }
 size:h.objs.size<=h'.objs.size
def upd_fields {h:Heap} {a:Addr} {c:Value} {d:Option Addr} {vs:Array Value} {sl:Array (Option Value)} {f:Array Value->Array Value} (e:h.get? a=some ⟨c,d,.fields vs,sl⟩):(h.update a (Obj.mapFields f)).get? a=some ⟨c,d,.fields (f vs),sl⟩ :=
 YY _ e rfl
section
variable {M:Model} {env:Env} {outer:List Env} {L e:Addr} {cl fl:Value} {dd:Option Addr} {vs:Array Value} {R:Addr->Prop}
def zgi {head:Value} {b:Bool} {Q:Unit->Shared->Prop} (hfr:A.frames=some (env :: outer)) (hl:s.heap.FunFrames base (env :: outer)) (hf:env.frame=some L) (he:Ex s.heap e cl dd vs) (hs:1<vs.size) (hR:R e)
  (q:∀ h' T vs',Ex h' e cl dd vs'->vs'[0]?=vs[0]?->vs'[1]?=some (.ref T)->T≠e->s.heap.objs.size<=T->Ent h' T (rawInt L)->Kp R ((env :: outer).filterMap (·.frame)) s.heap h'->Q () { s with heap:=h' }) :
  wpAny M A (do setField (.ref e) 1 (<- EntryCells.newEntry head (<- frameOf env) .none (rawInt L) .none (<- entryPlaceOf L b))) Q E s:=by
 obtain ⟨sl,he⟩:=he
 have hnf:e ∉ (env :: outer).filterMap (·.frame):=fun hm=>by
  obtain ⟨_,o,ho,nf⟩:=hl.mem hm; rw [he] at ho; cases ho; exact nf vs rfl
 refine yA (wpAny_frameOf_fun hfr hl hf fun h1 hs1=>?_)
 refine yA (wpAny_entryPlaceOf fun pl hpl=>?_)
 unfold EntryCells.newEntry newFields; refine yA (YC ?_ (hpl.sizeOk5 _ _ _ _ _))
 have he1:h1.get? e=some ⟨cl,dd,.fields vs,sl⟩:=(hs1.2.1 e hnf).trans he
 have hT:h1.objs.size≠e:=Nat.ne_of_gt (yJ he1)
 have hsz:h1.objs.size=s.heap.objs.size:=hs1.1
 refine Yq (yC _ he1) rfl hs (q _ h1.objs.size _ ⟨sl,upd_fields (yC _ he1)⟩ (by rw [Array.getElem?_setIfInBounds_ne (by decide)]) (by simp [hs]) hT (Nat.le_of_eq hsz.symm) ?_ ?_)
 ·refine ⟨_,_,_,_,(yj _ _ (Ne.symm hT)).trans (yM h1 rfl),?_⟩
  rcases hpl with rfl | ⟨_,_,_,_,_,_,_,rfl⟩ <;> simp
 ·refine ⟨fun c o ec n m=>?_,fun c o ec n m=>?_,?_⟩
  ·have hc:c≠e:=fun z=>n (by rw [z]; exact hR)
   rw [yj _ _ (Ne.symm hc)]; exact yC _ ((hs1.2.1 c m).trans ec)
  ·have hc:c≠e:=fun z=>n (by rw [z]; exact hR)
   obtain ⟨sl',hs'⟩:=hs1.2.2 c o ec; refine ⟨sl',?_⟩; rw [yj _ _ (Ne.symm hc)]; exact yC _ hs'
  ·rw [Heap.size_after_update,Yl,hsz]
   exact Nat.le_succ _
def note {Q:Unit->Shared->Prop} (hfr:A.frames=some (env :: outer)) (hl:s.heap.FunFrames base (env :: outer)) (hf:env.frame=some L) (he:Ex s.heap e cl dd vs) (hs:1<vs.size) (hd:Hd s.heap e vs .none R) (hR:R e)
  (q:∀ h' T vs',Ex h' e cl dd vs'->vs'[0]?=vs[0]?->vs'[1]?=some (.ref T)->T≠e->s.heap.objs.size<=T->Ent h' T (rawInt L)->Kp R ((env :: outer).filterMap (·.frame)) s.heap h'->Q () { s with heap:=h' }) :
  wpAny M A (noteFrame (.ref e) env) Q E s:=by
 unfold noteFrame; simp only [hf]; obtain ⟨sl,he'⟩:=id he
 rcases hd with ⟨h1,_⟩ | ⟨T,h1,hne,hRT,c,d,ts,sT,hT,h3⟩
 ·refine yA (YI he' rfl h1 ?_)
  rw [yH (by decide)]
  exact zgi hfr hl hf he hs hR q
 ·refine yA (YI he' rfl h1 ?_)
  rw [yI (show (Value.ref T != Value.none)=true from by simp)]
  refine yA (YI hT rfl h3 ?_)
  rw [yH (show ¬ ((Value.none == rawInt L)=true) from by simp [rawInt])]
  refine yA (Yq hT rfl (yu.mp h3).1 ?_)
  have oth:∀ b,b≠T->(s.heap.update T (Obj.mapFields (·.setIfInBounds 3 Value.none))).get? b=s.heap.get? b:=fun b hb=>yj _ _ (Ne.symm hb)
  have nR:∀ b o,s.heap.get? b=some o->(∀ vs,o.data≠.fields vs)->b≠T:=fun b o hb hn z=>by
   rw [z,hT] at hb; cases hb; exact hn ts rfl
  refine zgi (s:={ s with heap:=_ }) hfr (hl.of_keeps fun b o hb hn=>⟨o,(oth b (nR b o hb hn)).trans hb,rfl⟩) hf ⟨sl,(oth e (Ne.symm hne)).trans he'⟩ hs hR fun h' T' vs' x1 x2 x3 x4 x5 x6 x7=>?_
  have hfree:s.heap.objs.size<=T':=by
   have y:=x5
   rwa [Heap.size_after_update] at y
  refine q h' T' vs' x1 x2 x3 x4 hfree x6 ⟨fun b o eb n m=>?_,fun b o eb n m=>?_,?_⟩
  ·have hb:b≠T:=fun z=>n (by rw [z]; exact hRT)
   exact x7.keep b o ((oth b hb).trans eb) n m
  ·have hb:b≠T:=fun z=>n (by rw [z]; exact hRT)
   exact x7.slot b o ((oth b hb).trans eb) n m
  ·have:=x7.size
   rwa [Heap.size_after_update] at this
def flight {T:Addr} {Q:Unit->Shared->Prop} (he:Ex s.heap e cl dd vs) (h1:vs[1]?=some (.ref T)) (hne:T≠e) (hT:Ent s.heap T fl) (hRT:R T) (q:∀ h',Ex h' e cl dd vs->Ent h' T .none->(∀ b,b≠T->h'.get? b=s.heap.get? b)->h'.objs.size=s.heap.objs.size->Q () { s with heap:=h' }) :
  wpAny M A (setFlight (.ref e) none) Q E s:=by
 obtain ⟨sl,he'⟩:=he; obtain ⟨c,d,ts,sT,hT,h3⟩:=hT; unfold setFlight; refine yA (YI he' rfl h1 ?_)
 rw [yI (show (Value.ref T != Value.none)=true from by simp)]
 have hsz:3<ts.size:=(yu.mp h3).1
 have oth:∀ b,b≠T->(s.heap.update T (Obj.mapFields (·.setIfInBounds 3 ((none:Option Addr).elim Value.none fun f=>rawInt f)))).get? b=s.heap.get? b:=fun b hb=>yj _ _ (Ne.symm hb)
 exact Yq hT rfl hsz (q _ ⟨sl,(oth e (Ne.symm hne)).trans he'⟩ ⟨c,d,_,sT,upd_fields hT,by simp [hsz]⟩ oth (Heap.size_after_update ..))
def leave {Q:Unit->Shared->Prop} (hfr:A.frames=some (env :: outer)) (hl:s.heap.FunFrames base (env :: outer)) (hf:env.frame=some L) (he:Ex s.heap e cl dd vs) (hs:1<vs.size) (hd:Hd s.heap e vs .none R) (hR:R e)
  (q:∀ h' T vs',Ex h' e cl dd vs'->vs'[0]?=vs[0]?->1<vs'.size->vs'[1]?=some (.ref T)->T≠e->s.heap.objs.size<=T->Ent h' T .none->Kp R ((env :: outer).filterMap (·.frame)) s.heap h'->Q () { s with heap:=h' }) :
  wpAny M A (leaving env (.ref e)) Q E s:=by
 unfold leaving
 refine yA (note hfr hl hf he hs hd hR fun h1 T vs' x1 x2 x3 x4 x5 x6 x7=>?_)
 refine flight (s:={ s with heap:=h1 }) (R:=fun b=>R b\/b=T) x1 x3 x4 x6 (.inr rfl) fun h2 y1 y2 y3 y4=>?_
 refine q h2 T vs' y1 x2 (yu.mp x3).1 x3 x4 x5 y2 ⟨fun b o eb n m=>?_,fun b o eb n m=>?_,?_⟩
 ·rw [y3 b (fun z=>yP (yT (yJ eb) (by rw [z]; exact x5)) (YW _))]
  exact x7.keep b o eb n m
 ·rw [y3 b (fun z=>yP (yT (yJ eb) (by rw [z]; exact x5)) (YW _))]
  exact x7.slot b o eb n m
 ·rw [y4]
  exact x7.size
end
structure XC (h:Heap) (C N:Addr) (bm:List Value) (nid:String):Prop where
 ex:∃ nm q bs hd sn sub ab col dd k0 k1 k2 k3 k5,h.get? C=some (excClassObj nm q C N bs bm hd sn sub ab col dd k0 k1 k2 k3 k5 nid)
abbrev zsG (C t:Addr):Obj:={ cls:=.ref C,data:=.fields #[.ref t,.none,.none,.none,.bool false,.none] }
abbrev tupX (vs:List Value):Obj:={ cls:=.type "tuple",data:=.seq vs.toArray }
abbrev madeX (h:Heap) (C:Addr) (vs:List Value):Heap:=(h.push (tupX vs)).push (zsG C h.objs.size)
def madeX_keep {h:Heap} {C:Addr} {vs:List Value}:∀ b o,h.get? b=some o->(madeX h C vs).get? b=some o:=fun _ _ e=>yC _ (yC _ e)
def madeX_at {h:Heap} {C:Addr} {vs:List Value}:(madeX h C vs).get? (h.objs.size+1)=some (zsG C h.objs.size):=by
 have:=yM (h.push (tupX vs)) (o:=zsG C h.objs.size) rfl
 rwa [Yl] at this
section
variable {h:Heap} {g:Array GenState} {d:Drawn} {t:Nat} {os:OsState} {C N fI:Addr} {oI:Obj} {bm bmB:List Value} {B nid iid:String} {mN:Str->Option Value} {zbb:List Value}
def make_init {Q:Value->Shared->Prop} (F:ExcBaseFacts B nid iid bmB) (T:OwnTail h bmB bm) (X:XC h C N bm nid) (hn:h.Ns N mN) (hi:mN "__init__"=some (.ref fI)) (hf:h.get? fI=some oI) (hfc:oI.cls=.type "function") (hr:zbb.length<=sizeLine)
  (k:wpAny (model prog w) (A.under (.builtin "type.__call__" ⟨.ref C :: zbb,[]⟩)) (call (.ref fI) (.ref (h.objs.size+1) :: zbb)) (fun r s'=>r=.none/\Q (.ref (h.objs.size+1)) s') E ⟨madeX h C zbb,g,d,t,os⟩) :
  wpAny (model prog w) A (call (.ref C) zbb) Q E ⟨h,g,d,t,os⟩:=by
 obtain ⟨nm,q,bs,hd,sn,sub,ab,col,dd,k0,k1,k2,k3,k5,hC⟩:=X.ex; have f1:=tc_lookup; have f2:=tc_bind (.ref C)
 have hT:(⟨h,g,d,t,os⟩:Shared).TypeIs (.ref C) "type":=⟨_,hC,rfl⟩
 refine wpAny_call (codeAny_of_tree ?_)
 show wpAny _ _ (callAny (.ref C) _) _ _ _
 repeat (any_goals (first | assumption | with_reducible refine wpAny_loadPart_at hC ?_ | wp_step))
 refine ⟨rfl,?_⟩
 refine codeAny_call_builtin_at (Code.quiet_builtin _ (by decide +kernel)) entry_typeCall (wpAny_check_type_call_sub hC ?_)
 repeat (first | with_reducible refine wpAny_loadPart_at hC ?_ | with_reducible refine wpAny_madeBy_exc hC ?_ | wp_step)
 refine codeAny_call_builtin_code (Code.quiet_builtin _ F.quiet) (wpAny_check_new_subT F T hC ?_); refine codeAny_exc_new_subT F T hC ?_ hr
 show wpAny _ _ _ _ _ (⟨madeX h C zbb,g,d,t,os⟩:Shared)
 have hC1:=madeX_keep (C:=C) (vs:=zbb) _ _ hC; have hf1:=madeX_keep (C:=C) (vs:=zbb) _ _ hf
 have hn1:(madeX h C zbb).Ns N mN:=hn.keeps madeX_keep
 have hg1:=madeX_at (h:=h) (C:=C) (vs:=zbb); have T1:=T.keeps (madeX_keep (C:=C) (vs:=zbb))
 have hcC:(Value.ref C :: bm).contains (.ref C)=true:=by simp
 unfold isInstance
 repeat (first | with_reducible refine wpAny_loadPart_at hg1 ?_ | (with_reducible refine wpAny_isSubtype_exc hC1 ?_; rw [hcC]) | wp_step)
 show wpAny _ _ (typeLookup (.ref C) _) _ _ _
 refine wpAny_typeLookup_tail hC1 hn1 T1 F.mroIs F.init.lookup ?_; rw [hi]; refine Yg (yA ?_); unfold bindSpecial; refine yA (wpAny_typeOf (T:="function") ⟨_,hf1,hfc⟩ ?_)
 rw [yI (by decide)]
 refine yF (yA (yf k (fun r s' hr=>?_) fun _ _ x=>x))
 obtain ⟨rfl,hQ⟩:=hr
 wp_walk
 exact hQ
end
section
variable {M:Model} {env:Env} {C N:Addr} {bm:List Value} {nid:String}
def raise_at {x:Sem Value} {Q:Flow->Shared->Prop} (hb:bm.contains (.type "BaseException")=true) (hh:A.handled=none)
  (h:wpAny M A x (fun v s1=>∃ e dd vs sl,v=.ref e/\XC s1.heap C N bm nid/\s1.heap.get? e=some ⟨.ref C,dd,.fields vs,sl⟩/\vs[1]?=some .none/\E (.ref e) s1) E s):wpAny M A (raiseStmt env (some x) none) Q E s:=by
 have hcB:(Value.ref C :: bm).contains (.type "BaseException")=true:=by rw [List.contains_cons,hb,Bool.or_true]
 unfold raiseStmt
 refine yA (yf h (fun v s1 h1=>?_) fun _ _ z=>z)
 obtain ⟨e,dd,vs,sl,rfl,X,he,hv,hE⟩:=h1; obtain ⟨nm,q,bs,hd,sn,sub,ab,col,dd',k0,k1,k2,k3,k5,hC⟩:=X.ex; obtain ⟨hp,g,d,tk,os⟩:=s1
 repeat (first | with_reducible refine wpAny_loadPart_at he ?_ | with_reducible refine wpAny_loadPart_at hC ?_ | (with_reducible refine wpAny_isSubtype_exc hC ?_; rw [hcB]) | wp_step)
 rw [hv]; refine yF ?_
 rw [yH (by decide)]
 exact yF (wpAny_raiseNew_none hh hE)
end
end X1
namespace X1
open PySem PySem.W
section
variable {K:Frag} {x C:Addr} {ox:Obj} {od:Option Obj} {name:Str}
structure XGet (K:Frag) (C:Addr):Prop where
 ga:findIn K (.ref C) "__getattribute__"=some (some (.builtin "BaseException.__getattribute__"))
 gr:findIn K (.ref C) "__getattr__"=some none
 sub:mroIn K C (.type "BaseException")=some true
def zia {tk:Tok} {v:Value} {R:Result->Shared->Prop} (X:K.In s.heap) (I:InstAt s.heap x ox C od) (T:XGet K C) (hf:findObj K C od name=some (.value v)) (h:R (.ok (.ret v)) s) :
  codeAny (model prog w) A (.call (.builtin "BaseException.__getattribute__") ⟨[.ref x,.str name tk],[]⟩) R s:=by
 obtain ⟨hh',g,d,t,os⟩:=s; have L0:=I.type (M:=model prog w); have L1:=looks_find (M:=model prog w) X I hf
 have LI:Looks (model prog w) hh' (isInstance (.ref x) (.type "BaseException")) true:=L0.andThen (looks_mroIn X T.sub)
 have hk:builtinKind "BaseException.__getattribute__"=some .slot:=by decide +kernel
 have hsp:splitId "BaseException.__getattribute__"=some ("BaseException","__getattribute__"):=by decide +kernel
 refine codeAny_call_builtin F.excAttr_ValueError.ga.plain F.entry_bexc_ga (@check_slot (model prog w) _ _ _ "BaseException.__getattribute__" "BaseException" "__getattribute__" (.ref x) [.str name tk] [] _ hk hsp LI (F.args_bexc_ga (.ref x) (.str name tk)) ?_); refine yA (yF (yA (yF (yA (L0.at (yA (L1.at ?_))))))); exact yF h
def zi3 {tk:Tok} {fill expr:Bool} {v:Value} {Q:Value->Shared->Prop} (X:K.In s.heap) (I:InstAt s.heap x ox C od) (T:XGet K C) (h:∀ R:Result->Shared->Prop,R (.ok (.ret v)) s->codeAny (model prog w) A (.call (.builtin "BaseException.__getattribute__") ⟨[.ref x,.str name tk],[]⟩) R s)
  (hh:handedIn v=true) (q:Q v s):wpAny (model prog w) A (getAttrBy (.ref x) (.str name tk) fill expr) Q E s:=by
 obtain ⟨hh',g,d,t,os⟩:=s; have L0:=I.type (M:=model prog w); have L1:=looks_findIn (M:=model prog w) X T.ga; have L2:=looks_findIn (M:=model prog w) X T.gr; unfold getAttrBy; refine Yg (yA (L0.at (yA (L1.at ?_))))
 show wpAny _ _ (if (onTheHeap (.ref C) && Value.builtin "BaseException.__getattribute__" == Value.builtin "object.__getattribute__")=true then _ else _) _ _ _
 rw [yH (by
  have z:(Value.builtin "BaseException.__getattribute__" == Value.builtin "object.__getattribute__")=false:=by decide +kernel
  rw [z,Bool.and_false]; exact yN)]
 unfold getAttrByItsOwn hookBefore; refine yA (L2.at ?_); refine yA (Yz (Yg ?_)); unfold callGetattribute
 rw [yH (by cases expr <;> decide)]
 unfold boundAndCalled; rw [F.excAttr_ValueError.ga.bind]; refine yA (yF (wpAny_call (h _ ?_)))
 show wpAny _ _ (handedOut v) _ _ _
 rw [handedOut_of hh]; exact yF q
def xget {expr:Bool} {v:Value} {Q:Value->Shared->Prop} (X:K.In s.heap) (I:InstAt s.heap x ox C od) (T:XGet K C) (hf:findObj K C od name=some (.value v)) (hh:handedIn v=true) (q:Q v { s with toks:=s.toks+1 }):wpAny (model prog w) A (getAttr (.ref x) name expr) Q E s:=by
 unfold getAttr
 exact yA (wpAny_mkText (zi3 (s:={ s with toks:=s.toks+1 }) X I T (fun R hR=>zia (s:={ s with toks:=s.toks+1 }) X I T hf hR) hh q))
def zib {tk:Tok} {R:Result->Shared->Prop} (X:K.In s.heap) (I:InstAt s.heap x ox C od) (T:XGet K C) (hf:findObj K C od "__class__"=some (.bind (.builtin "getset_descriptor.__get__") (.builtin "object.__class__"))) (hm:mroIn K C (.type "object")=some true)
  (h:R (.ok (.ret (.ref C))) s):codeAny (model prog w) A (.call (.builtin "BaseException.__getattribute__") ⟨[.ref x,.str "__class__" tk],[]⟩) R s:=by
 obtain ⟨hh',g,d,t,os⟩:=s; have L0:=I.type (M:=model prog w); have L1:=looks_find (M:=model prog w) X I hf
 have LI:Looks (model prog w) hh' (isInstance (.ref x) (.type "BaseException")) true:=L0.andThen (looks_mroIn X T.sub)
 have hk:builtinKind "BaseException.__getattribute__"=some .slot:=by decide +kernel
 have hsp:splitId "BaseException.__getattribute__"=some ("BaseException","__getattribute__"):=by decide +kernel
 refine codeAny_call_builtin F.excAttr_ValueError.ga.plain F.entry_bexc_ga (@check_slot (model prog w) _ _ _ "BaseException.__getattribute__" "BaseException" "__getattribute__" (.ref x) [.str "__class__" tk] [] _ hk hsp LI (F.args_bexc_ga (.ref x) (.str "__class__" tk)) ?_); refine yA (yF (yA (yF (yA (L0.at (yA (L1.at ?_)))))))
 show wpAny _ _ (Builtin.ObjectAttr.bindTo (.builtin "getset_descriptor.__get__") (.builtin "object.__class__") (.ref x) (.ref C)) _ _ _
 show wpAny _ _ (do let r <- holding [Value.builtin "object.__class__"] (call (.builtin "getset_descriptor.__get__") [.builtin "object.__class__",.ref x,.ref C]); ret r) _ _ _
 exact yA (Yg (wpAny_call (class_get (ox:=ox) (od:=od) X I hm (yF h))))
def xget_class? {Q:Option Value->Shared->Prop} (X:K.In s.heap) (I:InstAt s.heap x ox C od) (T:XGet K C) (hf:findObj K C od "__class__"=some (.bind (.builtin "getset_descriptor.__get__") (.builtin "object.__class__"))) (hm:mroIn K C (.type "object")=some true)
  (h:Q (some (.ref C)) { s with toks:=s.toks+1 }):wpAny (model prog w) A (getAttr? (.ref x) "__class__") Q E s:=by
 unfold getAttr? getAttrBy?
 refine yA (wpAny_mkText (yA (Yz ?_)))
 exact zi3 (s:={ s with toks:=s.toks+1 }) X I T (fun R hR=>zib (s:={ s with toks:=s.toks+1 }) X I T hf hm hR) rfl (yF h)
end
structure XIs (K:Frag) (C:Addr):Prop extends XGet K C where
 cl:(clsIn K C).isSome=true
 ha:findIn K (.ref C) "__class__"=some (some (.builtin "object.__class__"))
 hn:specialIn K (.builtin "object.__class__") "__get__"=some (some (.builtin "getset_descriptor.__get__"))
 tk:takesIn K (.builtin "object.__class__")=some true
 ob:mroIn K C (.type "object")=some true
def zg9 {K:Frag} {C:Addr} {a g:Value} {od:Option Obj} {name:Str} (hc:(clsIn K C).isSome=true) (ha:findIn K (.ref C) name=some (some a)) (hg:specialIn K a "__get__"=some (some g)) (ht:takesIn K a=some true):findObj K C od name=some (.bind g a):=by
 obtain ⟨cd,e⟩:=YR.mp hc; unfold findObj; rw [e,Option.bind_some,ha]; simp [hg,ht]
def kitx_exc {K:Frag} {x C:Addr} (T:XIs K C):KitX K (.ref x) (.ref C) (fun h=>∃ ox od,InstAt h x ox C od) where
 ty:=fun _ _ _ ⟨_,_,I⟩=>I.type
 it:=fun _ _ X _=>by
  have hcD:=T.cl; unfold clsIn at hcD; split at hcD
  ·rename_i c' d' cd' sl' ho
   intro A' Q' E' s' k q; unfold isType loadHead; exact yA (wpAny_loadPart (k _ _ (X _ _ ho)) (yF q))
  ·cases hcD
 ne:=fun h tp dd its n sl X htp=>by
  have hcD:=T.cl
  refine Yc.mpr fun q=>?_
  have e:C=tp:=Value.ref.inj (beq_iff_eq.mp q)
  subst e; unfold clsIn at hcD; split at hcD
  ·rename_i c' d' cd' sl' ho
   have z:=(X _ _ ho).symm.trans htp; cases z
  ·cases hcD
 ca:=fun X ⟨_,_,I⟩ k=>xget_class? X I T.toXGet (zg9 T.cl T.ha T.hn T.tk) T.ob k
end X1
namespace L2
open PySem PySem.Spec PyProof.Rows
structure InsT (K:W.Frag) (C:Addr):Prop where
 cl:Cls K C
 ha:W.findIn K (.ref C) "__class__"=some (some (.builtin "object.__class__"))
 hn:W.specialIn K (.builtin "object.__class__") "__get__"=some (some (.builtin "getset_descriptor.__get__"))
 htk:W.takesIn K (.builtin "object.__class__")=some true
 hm:W.mroIn K C (.type "object")=some true
def TyA (K:W.Frag) (H:Hp) (x:V) (t:Value):Prop:=(∃ n,t=.type n/\zrG K H x n)\/(∃ a C dx fs,x=.ref a/\H a=some (.ins C dx fs)/\t=.ref C/\InsT K C)\/∃ a C dd,x=.ref a/\H a=some (.ext (XAt a C dd))/\(∀ dx,dd=some dx->∃ fs,H dx=some (.xd fs))/\t=.ref C/\X1.XIs K C
def ztt:V->Option Value
 | .ty n=>some (.type n)
 | .ref C=>some (.ref C)
 | _=>none
def zmL {c:V} {u v:Value} (r:zap c u) (h:ztt c=some v):u=v:=by
 cases c with
 | ty n=>cases h; exact r
 | ref C=>cases h; exact r
 | _=>cases h
def zcD {K:W.Frag} {C D':Addr} {b:Bool} (hd:W.hasDictIn K D'=true) (ht:W.typeIn K (.ref D')=some (.type "type")) (hm:W.mroIn K C (.ref D')=some b) (hne:b=true\/(Value.ref C == Value.ref D')=false):W.kitOne K (.ref C) (.ref D')=some b:=by
 have hc:(W.clsIn K D').isSome=true:=by
  obtain ⟨cd,e,_⟩:=W.any_some hd; rw [e]; rfl
 have hk:W.kitCls K (.ref C) (.ref D')=some b:=by
  show (if ((W.clsIn K D').isSome && W.typeIn K (.ref D') == some (.type "type"))=true then W.subIn K (.ref C) (.ref D') else none)=some b
  rw [hc,ht,yI (by simp)]
  exact hm
 unfold W.kitOne
 by_cases e:(Value.ref C == Value.ref D')=true
 ·rw [yI e]
  rcases hne with h | h
  ·rw [h]
  ·rw [h] at e
   cases e
 ·rw [yH e]
  exact hk
section
def znT {pins:yyL} {σ:St} {H:Hp} {s:Shared} {x:V} {u t:Value} (I:Inv X pins σ H s) (r1:zap x u) (ty:TyA X.K H x t):∃ Hh,W.KitX X.K u t Hh/\Hh s.heap/\u≠.builtin "__main__.__loader__#opaque":=by
 rcases ty with ⟨n,rfl,ty⟩ | ⟨a,C,dx,fs,rfl,ea,rfl,T⟩ | ⟨a,C,dd,rfl,ea,hdd,rfl,T⟩
 ·cases x with
  | non=>cases (show n=_ from ty); cases (show u=Value.none from r1); exact ⟨_,W.kitx_none,True.intro,fun z=>nomatch z⟩
  | bl y=>cases (show n=_ from ty); cases (show u=Value.bool y from r1); exact ⟨_,W.kitx_bool,True.intro,fun z=>nomatch z⟩
  | int i=>cases (show n=_ from ty); obtain ⟨tk,z⟩:=(show ∃ t,u=Value.int i t from r1); cases z; exact ⟨_,W.kitx_int,True.intro,fun z=>nomatch z⟩
  | str y=>cases (show n=_ from ty); obtain ⟨tk,z⟩:=(show ∃ t,u=Value.str y t from r1); cases z; exact ⟨_,W.kitx_str,True.intro,fun z=>nomatch z⟩
  | ref a =>
   cases (show u=Value.ref a from r1)
   rcases ty with ⟨rfl,xs,hq⟩ | ⟨rfl,xs,hq⟩ | ⟨rfl,hq⟩
   ·obtain ⟨its,_,p,_⟩:=I.list hq
    obtain ⟨o,n,e1,c1,_⟩:=p
    exact ⟨_,W.kitx_list,⟨o,e1,c1⟩,fun z=>nomatch z⟩
   ·obtain ⟨its,_,p,_⟩:=I.tuple hq
    obtain ⟨o,h1,h2,_⟩:=p
    exact ⟨_,W.kitx_tuple,⟨o,h1,h2⟩,fun z=>nomatch z⟩
   ·have z:∃ o,s.heap.get? a=some o/\o.ExactDict:=by
     rcases hq with ⟨kvs,hq⟩ | ⟨kvs,hq⟩
     ·obtain ⟨_,_,_,_,o,_,_,e,ex,_⟩:=hq.ok I.hok
      exact ⟨o,e,ex⟩
     ·obtain ⟨_,_,_,_,o,_,_,e,ex,_⟩:=hq.ok I.hok
      exact ⟨o,e,ex⟩
    obtain ⟨o,h1,h2⟩:=z
    exact ⟨_,W.kitx_dict,⟨o,h1,h2.1⟩,fun z=>nomatch z⟩
  | _=>exact False.elim ty
 ·cases (show u=Value.ref a from r1)
  obtain ⟨mA,O,_⟩:=zkf I.hok ea; obtain ⟨od,J,_⟩:=O.look
  exact ⟨_,W.kitx_own (T.cl.get _) T.cl.hd T.ha T.hn T.htk T.hm,J,fun z=>nomatch z⟩
 ·cases (show u=Value.ref a from r1)
  obtain ⟨⟨vs,sl,hx⟩,_⟩:=(show zal X.prog X.w H s.heap a (.ext (XAt a C dd)) from I.hok a _ ea)
  refine ⟨_,X1.kitx_exc T,?_,fun z=>nomatch z⟩
  cases dd with
  | none=>exact ⟨_,none,hx,rfl,rfl,True.intro⟩
  | some dx =>
   obtain ⟨fs,hf⟩:=hdd dx rfl
   obtain ⟨mA,⟨o,es,ep,ho,_⟩,_⟩:=(show zal X.prog X.w H s.heap dx (.xd fs) from I.hok dx _ hf)
   exact ⟨_,some o,hx,rfl,rfl,ho⟩
def zkC:zbW X (.builtin "isinstance") (fun xs H Q=>∃ x t cv c b,xs=[x,cv]/\ztt cv=some c/\TyA X.K H x t/\W.kitOne X.K t c=some b/\Q (.bl b) H):=by
 intro pins s σ H xs us Q I r h; obtain ⟨x,t,cv,c,b,rfl,hc,ty,e,q⟩:=h; obtain ⟨u,w',rfl,r1,r2⟩:=zlb r
 cases zmL r2 hc
 obtain ⟨Hh,kx,hp,ne⟩:=znT I r1 ty
 exact W.kia_one kx I.kIn hp e ne fun tk=>⟨.bl b,H,I.tok _,rfl,q⟩
end
end L2
namespace PL
open PySem L2
section
variable {pos:Pos}
theorem zk0.look {K:W.Frag} {H:Hp} {f:Str} {d:D}:∀ {fs:List (Str × V)} {ds:List (Str × D)},zk0 K H fs ds->ds.lookup f=some d->∃ v,fs.lookup f=some v/\Den K H v d
 | _,_,.nil,h=>by simp at h
 | p :: fs,q :: ds,.cons r t,h=>by
  obtain ⟨p1,p2⟩:=p; obtain ⟨q1,q2⟩:=q; obtain ⟨r1,r2⟩:=r
  dsimp only at r1 r2
  subst r1
  by_cases e:f=q1
  ·have hb:(f == q1)=true:=beq_iff_eq.mpr e
   simp only [List.lookup,hb] at h ⊢; cases h; exact ⟨_,rfl,r2⟩
  ·have hb:(f == q1)=false:=beq_eq_false_iff_ne.mpr e
   simp only [List.lookup,hb] at h ⊢; exact zk0.look t h
def zb5 {x:Str} {C:Addr} (hm:X.mg x=some (.ref C)) (hg:Gl X x:=by rfl) (hd:yyD x:=by decide):PE' X (.Name x pos) (tC' (.cls C)):=zqK (v:=.ref C) hm rfl (fun _=>.cls C) hg hd
def zsa:D->Option Value
 | .ty n=>some (.type n)
 | .cls C=>some (.ref C)
 | _=>none
def zpk {K:W.Frag} {H:Hp} {v:V} {d:D} {c:Value} (h:Den K H v d) (e:zsa d=some c):ztt v=some c:=by
 cases h with
 | ty n=>exact e
 | cls C=>exact e
 | _=>cases e
def TyD (K:W.Frag) (d:D) (t:Value):Prop:=(∃ n,t=.type n/\zoW d=some n)\/(∃ C fs,d=.obj C fs/\t=.ref C/\InsT K C)\/∃ C fs,d=.exc C fs/\t=.ref C/\X1.XIs K C
def TyD.ok {K:W.Frag} {Hi H:Hp} {x:V} {d:D} {t:Value} (s:zU Hi H) (den:Den K Hi x d) (h:TyD K d t):TyA K H x t:=by
 rcases h with ⟨n,rfl,h⟩ | ⟨C,fs,rfl,rfl,T⟩ | ⟨C,fs,rfl,rfl,T⟩
 ·exact .inl ⟨n,rfl,zmt s den h⟩
 ·obtain ⟨a,dx,fvs,rfl,ha,_⟩:=den.objI
  exact .inr (.inl ⟨a,C,dx,fvs,rfl,s _ _ ha,rfl,T⟩)
 ·obtain ⟨a,dd,rfl,ha,xd⟩:=den.excI
  refine .inr (.inr ⟨a,C,dd,rfl,s _ _ ha,fun dx e=>?_,rfl,T⟩)
  rcases xd with ⟨e',_⟩ | ⟨dx',fs',e',hf,_⟩
  ·rw [e'] at e; cases e
  ·rw [e'] at e
   cases e; exact ⟨fs',s _ _ hf⟩
def zdJ (K:W.Frag):RC':=fun ds Q=>∃ d t cd c b,ds=[d,cd]/\zsa cd=some c/\TyD K d t/\W.kitOne K t c=some b/\Q (.bl b)
def zrz:Cal X (.builtin "isinstance") (zdJ X.K):=⟨_,zkC,by
 rintro Hi H vs ds Q Q2 s dl ⟨d,t,cd,c,b,rfl,hc,ty,e,q⟩ fin
 obtain ⟨v,w,rfl,d1,d2⟩:=ziM dl; exact ⟨v,t,w,c,b,rfl,zpk d2 hc,ty.ok s.sub d1,e,fin Hi H _ _ (Ext.refl s) (.bl _) q⟩⟩
end
end PL
namespace L2
open PySem PySem.Spec PyProof.Rows
section
variable {a:Addr} {y d:V} {u r:Value} {o:Option V}
end
section
variable {o e f:Expr} {apos cpos:Pos} {td ty tx:TE}
end
def zij {a b c:Int} (ha:-(2 ^ 60)<=a) (ha':a<2 ^ 60) (hb:-(2 ^ 60)<=b) (hb':b<2 ^ 60) (hc:-(2 ^ 30)<c) (hc':c<2 ^ 30):Builtin.Range.small a b c=true:=by
 have h1:=PyProof.Rows.rangeSize_toNat a b c; have h2:=PyProof.Rows.rangeSize_toNat_le a b c; unfold Builtin.Range.small; simp only [Builtin.Range.rangeFitsLong,yp,Bool.or_eq_true,yo,beq_iff_eq]
 refine ⟨⟨⟨⟨by omega,by omega⟩,by omega⟩,by omega⟩,.inr ?_⟩
 split <;> (simp [Builtin.Range.rangeFitsLong]; omega)
def zse (lo c:Int) (n:Nat):It:=⟨fun i _=>i<n,fun i H x H'=>H'=H/\x=.int (lo+(i:Nat) * c),fun i _=>n<=i⟩
def zgE {P:Program} {w:World} {K:W.Frag} {tg:Expr} (it:Addr) (lo c:Int) (n:Nat):Turn P w K tg (zse lo c n) [it] it (fun i h=>IsRangeIter h it (lo+(i:Nat) * c) ((n:Int)-(i:Nat)) c) where
 mem:=by simp
 obj:=fun i h st b hb=>by
  have e:b=it:=by simpa using hb
  subst e
  exact ⟨_,st,fun v z=>by
   have z':Data.fields _=Data.cell v:=z
   cases z'⟩
 keep:=fun i h h' st k=>k it (by simp) _ st
 item:=by
  intro X hP hw hK hc i pins s σ H E I hf st hg
  subst hP hw hK
  obtain ⟨f0,f1,f2,f3,f4,f5⟩:=hf it (by simp)
  have W:=Walks.range (prog:=X.prog) (w:=X.w) (I.ok.hd hc) it lo c n
  refine W.item i s _ _ hg st fun v h' tk hv st' kk=>?_
  obtain ⟨t,rfl⟩:=hv
  have I1:Inv X pins σ H { s with heap:=h',toks:=tk }:=I.turned (fun b o hb e=>kk b o (by simpa using hb) e) f0 f1 f3 f4 f5
  exact ⟨_,rfl,ziH (s:={ s with heap:=h',toks:=tk }) (n:="range_iterator") st' rfl rfl (by decide) ⟨.int (lo+(i:Nat) * c),H,I1,⟨t,rfl⟩,⟨rfl,rfl⟩,st',fun b hb=>(hf b hb).1⟩⟩
 done:=by
  intro X hP hw hK hc i pins s σ H E I hf st hg
  subst hP hw hK
  obtain ⟨f0,f1,f2,f3,f4,f5⟩:=hf it (by simp)
  exact wpAny_pyNext_range_end (I.ok.hd hc) st (by have:n<=i:=hg; omega) fun h' eb=>⟨rfl,I.turned (t':=s.toks) (fun b o hb e=>eb b o hb e) f0 f1 f3 f4 f5⟩
 self:=fun _ _ _ _ _ st h=>wpAny_pyIter_rangeiter st h
section
variable {tg:Expr}
def zjq {pins:yyL} {σ:St} {H:Hp} {s:Shared} {R:It->Hp->Prop} {E:Value->Shared->Prop} {lo hi c:Int} {t u v:Tok} {tk:Nat} (I:Inv X pins σ H s) (h1:-(2 ^ 60)<=lo) (h2:lo<2 ^ 60) (h3:-(2 ^ 60)<=hi) (h4:hi<2 ^ 60) (h5:-(2 ^ 30)<c) (h6:c<2 ^ 30)
  (q:R (zse lo c (Builtin.Range.rangeSize lo hi c).toNat) H):wpAny (model X.prog X.w) X.A (pyIter (.ref s.heap.objs.size)) (PIE X pins σ tg R) E { s with heap:=s.heap.push { cls:=.type "range",data:=.fields #[.int lo t,.int hi u,.int c v] },toks:=tk }:=by
 refine wpAny_pyIter_range (IsRange.new ..) (zij h1 h2 h3 h4 h5 h6) ?_
 have I1:Inv X pins σ H { s with heap:=s.heap.push { cls:=.type "range",data:=.fields #[.int lo t,.int hi u,.int c v] },toks:=tk }:=I.kept fun b o e=>yC _ e
 refine ⟨(s.heap.push { cls:=.type "range",data:=.fields #[.int lo t,.int hi u,.int c v] }).objs.size,[(s.heap.push { cls:=.type "range",data:=.fields #[.int lo t,.int hi u,.int c v] }).objs.size],_,_,H,rfl,
  I1.kept (t':=tk) fun b o e=>yC _ e,zgE _ lo c (Builtin.Range.rangeSize lo hi c).toNat,?_,fun b hb=>?_,q⟩
 ·have e1:lo+((0:Nat):Int) * c=lo:=by simp
  have e2:(((Builtin.Range.rangeSize lo hi c).toNat:Nat):Int)-((0:Nat):Int)=Builtin.Range.rangeSize lo hi c:=by rw [<- PyProof.Rows.rangeSize_toNat]; simp
  show IsRangeIter _ _ (lo+((0:Nat):Int) * c) ((((Builtin.Range.rangeSize lo hi c).toNat:Nat):Int)-((0:Nat):Int)) c
  rw [e1,e2]; exact yM _ rfl
 ·have e:b=(s.heap.push { cls:=.type "range",data:=.fields #[.int lo t,.int hi u,.int c v] }).objs.size:=by simpa using hb
  subst e; exact I1.fpOk (yD _) (I1.hok.fresh (yD _))
def ztf (ta:TA):TI:=fun σ H R=>ta σ H fun vs H1=>∃ i j c:Int,vs=[.int i,.int j,.int c]/\(-(2 ^ 60)<=i/\i<2 ^ 60/\-(2 ^ 60)<=j/\j<2 ^ 60/\-(2 ^ 30)<c/\c<2 ^ 30/\c≠0)/\R (zse i c (Builtin.Range.rangeSize i j c).toNat) H1
def zjE {a b c:Expr} {ta:TA} {p pos:Pos} (hg:Gl X "range") (hm:X.mg "range"=none) (ha:PA X [a,b,c] ta) (hs:starEach [a,b,c] X.env=(false,eval a X.env) :: starEach [b,c] X.env) (hpl:(backTo pos (starEach [b,c] X.env)).any (·.1)=false) :
  PI X tg (.Call (.Name "range" p) [a,b,c] [] pos) (ztf ta):=by
 intro pins s σ H R I h
 refine Call_ (zdU I hg hm boot_range (JA (thn (ha pos pins s σ H _ I h) fun us s1 ⟨vs,H1,I1,r1,q1⟩=>?_) hs hpl))
 obtain ⟨i,j,k,e,⟨q1,q2,q3,q4,q5,q6,q7⟩,q⟩:=q1
 subst e
 cases r1 with
 | cons r rr =>
  cases rr with
  | cons r' rr =>
   cases rr with
   | cons r'' rr =>
    cases rr; obtain ⟨t,rfl⟩:=r; obtain ⟨t',rfl⟩:=r'; obtain ⟨t'',rfl⟩:=r''
    exact call_range_3 q7 (zjq I1 q1 q2 q3 q4 q5 q6 q) (Or.inl (PyProof.noPylong_small (by omega)))
end
end L2
namespace PL
open PySem L2
section
variable {pos:Pos}
def zeV (neg:Bool):R2':=fun x y Q=>∃ (l:List Nat) (ms:List (List Nat)),x=.str l/\(y=.tup (ms.map .str)\/y=.lst (ms.map .str))/\Q (.bl (if neg then !decide (l ∈ ms) else decide (l ∈ ms)))
theorem den_strs {K:W.Frag} {Hi:Hp}:∀ {vs:List V} {ms:List (List Nat)},zaV K Hi vs (ms.map .str)->vs=ms.map fun m=>V.str (st m)
 | [],[],_=>rfl
 | v :: vs,m :: ms,.cons r t=>by rw [yX,<- r.strI,<- den_strs t]
 | [],_ :: _,h=>nomatch h
 | _ :: _,[],h=>nomatch h
theorem zfi (l:List Nat):∀ ms:List (List Nat),inV (.str (st l)) (ms.map fun m=>V.str (st m))=decide (l ∈ ms)
 | []=>rfl
 | m :: ms=>by
  have ih:=zfi l ms
  unfold inV at ih ⊢
  rw [yX,List.any_cons,ih]
  have e:eqV (.str (st m)) (.str (st l))=decide (m=l):=by
   show decide (st m=st l)=_
   by_cases h:m=l
   ·rw [h]; simp
   ·rw [yY h,yY (fun z=>h (by
     have:=ym (fun x:Str=>x.cps.toList) z
     simpa [st] using this))]
  rw [e]
  by_cases h:m=l
  ·subst h; simp
  ·have h':¬ l=m:=fun z=>h z.symm
   simp [h,h']
def zgg (ms:List (List Nat)):(ms.map fun m=>V.str (st m)).all zd4=true:=by
 rw [Yj]; intro x hx; obtain ⟨m,_,rfl⟩:=yh.mp hx; rfl
def zhQ {K:W.Frag} (neg:Bool):ziV K (rIn K neg) (zeV neg):=by
 rintro Hi H x y dx dy Q Q2 s d1 d2 ⟨l,ms,rfl,hy,q⟩ fin
 cases d1.strI
 rcases hy with rfl | rfl
 ·obtain ⟨a,vs,rfl,h1,h2⟩:=d2.tupJ
  rw [den_strs h2] at h1; refine ⟨a,_,rfl,.inr (SqT.of (s.sub _ _ h1)),rfl,zgg ms,?_⟩; rw [zfi]; exact fin Hi H _ _ (Ext.refl s) (.bl _) q
 ·obtain ⟨a,vs,rfl,h1,h2⟩:=d2.lstI
  rw [den_strs h2] at h1; refine ⟨a,_,rfl,.inl (zL s.sub h1),rfl,zgg ms,?_⟩; rw [zfi]; exact fin Hi H _ _ (Ext.refl s) (.bl _) q
def zl5:Op2 X (compareOp .In) (zeV false):=⟨_,zjM,zhQ false⟩
def zgZ:Op2 X (compareOp .NotIn) (zeV true):=⟨_,zfX,zhQ true⟩
instance {neg:Bool}:MR2 (zeV neg):=⟨fun _ _ _ _ h ⟨l,ms,a,b,q⟩=>⟨l,ms,a,b,h _ q⟩⟩
def zmx {K:W.Frag} {Hi:Hp} (lo c:Int) (n:Nat):ItD K Hi (zse lo c n) ((List.range n).map fun k=>.int (lo+(k:Nat) * c)):=by
 intro Hi' H' s f
 refine ⟨fun i d e=>?_,by show n<=_; simp⟩
 have hi:i<n:=by
  have:=(yE.mp e).1
  simpa using this
 rw [yK,List.getElem?_range hi] at e; cases e; refine ⟨hi,?_⟩
 rintro x H'' ⟨rfl,rfl⟩
 exact ⟨Hi',Ext.refl f,.int _⟩
def zrP (i j c:Int):List D:=(List.range (Builtin.Range.rangeSize i j c).toNat).map fun k=>.int (i+(k:Nat) * c)
def zkg (t:TA'):TI':=fun Γ Q=>t Γ fun ds Γ1=>∃ i j c:Int,ds=[.int i,.int j,.int c]/\(-(2 ^ 60)<=i/\i<2 ^ 60/\-(2 ^ 60)<=j/\j<2 ^ 60/\-(2 ^ 30)<c/\c<2 ^ 30/\c≠0)/\Q (zrP i j c) Γ1
def ztn {K:W.Frag} {H:Hp} {vs:List V} {d e f:D} (h:zaV K H vs [d,e,f]):∃ v w u,vs=[v,w,u]/\Den K H v d/\Den K H w e/\Den K H u f:=by
 cases h with
 | cons r t =>
  cases t with
  | cons r' t=>
   cases t with
   | cons r'' t=>cases t; exact ⟨_,_,_,rfl,r,r',r''⟩
def ziu {a b c tg:Expr} {t:TA'} {p pos:Pos} (hm:X.mg "range"=none) (ha:PA' X [a,b,c] t) (hg:Gl X "range":=by rfl):PI' X tg (.Call (.Name "range" p) [a,b,c] [] pos) (zkg t):=by
 refine ⟨PI.weak (zjE hg hm ha.pa (zZ (zD ha.pl).1) (zaa (zD ha.pl).2)) ?_⟩
 rintro σ H R ⟨W,Hi,Γ,Q',g,h,fin⟩
 refine ⟨W,Hi,Γ,_,g,h,?_⟩
 rintro vs H1 Hi1 Γ1 ds s1 g1 dl ⟨i,j,c,rfl,b,q⟩
 obtain ⟨v,w,u,rfl,d1,d2,d3⟩:=ztn dl
 exact ⟨i,j,c,by rw [d1.intI,d2.intI,d3.intI],b,fin _ H1 Hi1 Γ1 _ s1 g1 (zmx i c _) q⟩
end
section
variable {Q:D->Prop}
instance:MR2 zgP:=⟨fun _ _ _ _ h ⟨i,j,a,b,c,q⟩=>⟨i,j,a,b,c,h _ q⟩⟩
def zfR:R2':=fun x y Q=>zeW x y Q\/zgP x y Q
def za4:Op2 X (binaryOp .Add) zfR:=zs8.or zq1
instance:MR2 zfR:=⟨fun _ _ _ _ h q=>q.imp (MR2.mono (r:=zeW) _ _ _ _ h) (MR2.mono (r:=zgP) _ _ _ _ h)⟩
instance {neg:Bool}:MR2 (zm8 neg):=⟨fun _ _ _ _ h ⟨i,j,a,b,q⟩=>⟨i,j,a,b,h _ q⟩⟩
def zqr:R2':=fun x y Q=>zlC false x y Q\/zm8 false x y Q\/zeV false x y Q
def zoK (hu:X.A.units+1<cLine):Op2 X (compareOp .In) zqr:=zs6.or ((zs5 hu).or zl5)
instance:MR2 zqr:=⟨fun _ _ _ _ h q=>q.imp (MR2.mono (r:=zlC false) _ _ _ _ h) (fun q=>q.imp (MR2.mono (r:=zm8 false) _ _ _ _ h) (MR2.mono (r:=zeV false) _ _ _ _ h))⟩
def zgL:R2':=fun x y Q=>zeS x y Q\/zm8 true x y Q\/zeV true x y Q
def zhH (hu:X.A.units+1<cLine):Op2 X (compareOp .NotIn) zgL:=zoJ.or ((zl1 hu).or zgZ)
instance:MR2 zgL:=⟨fun _ _ _ _ h q=>q.imp (MR2.mono (r:=zeS) _ _ _ _ h) (fun q=>q.imp (MR2.mono (r:=zm8 true) _ _ _ _ h) (MR2.mono (r:=zeV true) _ _ _ _ h))⟩
instance:MR2 zgO:=⟨fun _ _ _ _ h ⟨i,j,v,a,b,c,q⟩=>⟨i,j,v,a,b,c,h _ q⟩⟩
def zfw:R2':=fun x y Q=>zkQ x y Q\/zgO x y Q
def i_A (hu:X.A.units+1<cLine):Ixs X zfw:=ztd.or (zte hu)
instance:MR2 zfw:=⟨fun _ _ _ _ h q=>q.imp (MR2.mono (r:=zkQ) _ _ _ _ h) (MR2.mono (r:=zgO) _ _ _ _ h)⟩
instance:MRS zfN:=⟨fun _ _ _ _ _ h ⟨ds,e,q⟩=>⟨ds,e,h _ q⟩⟩
def zjs:RS':=fun x lo hi Q=>zjt x lo hi Q\/zfN x lo hi Q
def s_A:Sli X zjs:=zur.or zsB
instance:MRS zjs:=⟨fun _ _ _ _ _ h q=>q.imp (MRS.mono (r:=zjt) _ _ _ _ _ h) (MRS.mono (r:=zfN) _ _ _ _ _ h)⟩
def zeU:RC':=fun ds Q=>zeh ds Q\/zgN ds Q
def zbV:Cal X (.builtin "len") zeU:=ztv.or zry
instance:MRC zeU:=⟨fun _ _ _ h q=>q.imp (MRC.mono (r:=zeh) _ _ _ h) (MRC.mono (r:=zgN) _ _ _ h)⟩
def zju:zmQ:=fun ds Q=>zgM ds Q\/zeT ds Q
def zpn (hc:X.calm=true):CalO X (.type "list") zju:=zrx.or (zpm hc)
@[simp] theorem zso:D.tup []=plc []:=rfl
@[simp] theorem zsn (l:List Nat):D.tup [.str l]=plc [l]:=rfl
def zca (p:List (List Nat)):List Key:=p.map fun l=>Sum.inr (st l)
def za2 (p:List (List Nat)):plc p=.tup ((zca p).map keyD):=by
 unfold plc zca; rw [YH]
 exact ym D.tup (Yf fun l _=>by
  show D.str l=D.str (st l).cps.toList
  rw [zR])
def zdL {p q:List (List Nat)} (h:plc p=plc q):p=q:=by
 unfold plc at h
 injection h with h
 exact (List.map_inj_right (fun a b h=>D.str.inj h)).mp h
@[simp] theorem ztS (p q:List (List Nat)):plc p=plc q↔p=q:=⟨zdL,fun h=>by rw [h]⟩
@[simp] theorem zqs (i j:Int):zfR (.int i) (.int j) Q↔Q (.int (i+j)):=by simp [zfR,zgP]
@[simp] theorem zjw (l m:List Nat):zfR (.str l) (.str m) Q↔l.length+m.length<=sizeLine/\Q (.str (l ++ m)):=by simp [zfR,zgP]
@[simp] theorem zfQ (p q:List (List Nat)):zfR (plc p) (plc q) Q↔p.length+q.length<=sizeLine/\Q (plc (p ++ q)):=by
 simp [zfR,zgP,zeW,zgQ,plc]
@[simp] theorem zsO (c:Nat) (l:List Nat):zqr (.str [c]) (.str l) Q↔Q (.bl (decide (c ∈ l))):=by simp [zqr,zm8,zeV]
def zdu (p:List (List Nat)) (ds:List (D × D)) (h:Q (.bl (zbk ds (plc p)).isSome)):zqr (plc p) (.dit ds) Q:=.inr (.inl ⟨zca p,ds,za2 p,rfl,h⟩)
def zbL (p:List (List Nat)) (ds:List (D × D)) (h:Q (.bl (!(zbk ds (plc p)).isSome))):zgL (plc p) (.dit ds) Q:=.inr (.inl ⟨zca p,ds,za2 p,rfl,h⟩)
@[simp] theorem zr1 (ds:List D) (i:Int):zfw (.lst ds) (.int i) Q↔∃ d,atI ds i=some d/\Q d:=by simp [zfw,zgO]
@[simp] theorem zlA (ds:List D) (i:Int):zfw (.tup ds) (.int i) Q↔∃ d,atI ds i=some d/\Q d:=by simp [zfw,zgO]
@[simp] theorem zrZ (l:List Nat) (i:Int):zfw (.str l) (.int i) Q↔l.length<=sizeLine/\∃ c,atI l i=some c/\Q (.str [c]):=by simp [zfw,zgO]
@[simp] theorem zr0 (p:List (List Nat)) (i:Int):zfw (plc p) (.int i) Q↔∃ d,atI (p.map D.str) i=some d/\Q d:=zlA _ i
def zhA (p:List (List Nat)) (ds:List (D × D)) {v:D} (e:zbk ds (plc p)=some v) (h:Q v):zfw (.dit ds) (plc p) Q:=.inr ⟨ds,zca p,v,rfl,za2 p,e,h⟩
@[simp] theorem zsI (l:List Nat) (n:Int):zjs (.str l) none (some n) Q↔l.length<=sizeLine/\0<=n/\Q (.str (l.take n.toNat)):=by simp [zjs,zfN]
@[simp] theorem zqf (l:List Nat) (n:Int):zjs (.str l) (some n) none Q↔l.length<=sizeLine/\0<=n/\Q (.str (l.drop n.toNat)):=by simp [zjs,zfN]
@[simp] theorem zrT (ds:List D) (lo hi:Option Int):zjs (.lst ds) lo hi Q↔Q (.lst (zdk ds lo hi)):=by simp [zjs,zfN]
@[simp] theorem zlw (ds:List D) (lo hi:Option Int):zjs (.tup ds) lo hi Q↔Q (.tup (zdk ds lo hi)):=by simp [zjs,zfN,zjt,zin,zio]
def zdB {α β:Type} (f:α->β) (xs:List α) (lo hi:Option Int):zdk (xs.map f) lo hi=(zdk xs lo hi).map f:=by
 unfold zdk; rw [yG,List.map_take,List.map_drop]
@[simp] theorem zlx (p:List (List Nat)) (lo hi:Option Int):zjs (plc p) lo hi Q↔Q (plc (zdk p lo hi)):=by
 unfold plc; rw [zlw,zdB]
@[simp] theorem zqh (l:List Nat):zeU [.str l] Q↔l.length<=sizeLine/\Q (.int (l.length:Nat)):=by simp [zeU,zgN]
@[simp] theorem zqj (l:List D):zeU [.lst l] Q↔Q (.int (l.length:Nat)):=by simp [zeU,zgN]
@[simp] theorem zjv (l:List D):zeU [.tup l] Q↔Q (.int (l.length:Nat)):=by simp [zeU,zgN]
@[simp] theorem zqi (p:List (List Nat)):zeU [plc p] Q↔Q (.int (p.length:Nat)):=by
 unfold plc; rw [zjv,yG]
@[simp] theorem zrN (p:List (List Nat)):zp9 (plc p)=some (p.map .str):=rfl
@[simp] theorem zpx {Q:OD->Prop} (l:List (D × D)):zju [.dit l] Q↔Q (.lst (l.map (·.1))):=by simp [zju,zgM,zeT]
def zpi {α:Type} (xs:List α) (n:Nat):zdk xs none (some (n:Int))=xs.take n:=by
 unfold zdk; rw [HT.sIx_none,HT.sIx_nat,List.drop_zero,Nat.sub_zero]
 by_cases h:n<=xs.length
 ·rw [Nat.min_eq_left h]
 ·rw [Nat.min_eq_right (by omega),List.take_length,yq (by omega)]
def zky {α:Type} (xs:List α) (n:Nat):zdk xs (some (n:Int)) none=xs.drop n:=by
 unfold zdk; rw [HT.sIx_none,HT.sIx_nat]
 by_cases h:n<=xs.length
 ·rw [Nat.min_eq_left h,yq (by rw [Ya]; exact yD _)]
 ·rw [Nat.min_eq_right (by omega),List.drop_length,List.take_nil,YM (by omega)]
def zd9 {α:Type} (xs:List α):zdk xs none (some (-1))=xs.dropLast:=by
 unfold zdk
 have e:HT.sIx xs.length xs.length (some (-1))=xs.length-1:=by
  show (if (-1:Int)<0 then ((-1:Int)+(xs.length:Int)).toNat else min (-1:Int).toNat xs.length)=_
  rw [yI (by decide)]
  omega
 rw [HT.sIx_none,e,List.drop_zero,Nat.sub_zero,List.dropLast_eq_take]
def zbM {i:Int} {j:Nat} {p pos:Pos}:PE' X (.UnaryOp .USub (.Constant (.int i) j p) pos) (tC' (.int (-i))):=by
 refine zgS (v:=.int (-i)) (PE.weak (zsT zpN znc) ?_) fun _=>.int _
 intro σ H Q q; exact ⟨i,rfl,q⟩
def zdi {A:Around} {k:Nat} (hr:Room k A):A.units+100<cLine:=by have:=hr.un; omega
@[simp] theorem zuK {α:Type} (a:α) (l:List α):atI (a :: l) 0=some a:=zec (j:=0) rfl
@[simp] theorem zuJ {α:Type} (a b:α) (l:List α):atI (a :: b :: l) 1=some b:=zec (j:=1) rfl
@[simp] theorem zuI {α:Type} (a b c:α) (l:List α):atI (a :: b :: c :: l) 2=some c:=zec (j:=2) rfl
@[simp] theorem zt8 {CX:CXT} {P:Program} {w:World} {K:W.Frag} {mg:Str->Option Value} {base:Heap} {N:List Str} {q:Str} {sc:Scope} {f:Addr} {cd:Value} {A:Around} {o:List Env} {s:Shared} {H:Hp} {E:XK}:(zdj CX P w K mg base N q sc f cd A o s H E).K=K:=rfl
@[simp] theorem zt7 {CX:CXT} {P:Program} {w:World} {K:W.Frag} {mg:Str->Option Value} {base:Heap} {N:List Str} {q:Str} {sc:Scope} {f:Addr} {cd:Value} {A:Around} {o:List Env} {s:Shared} {H:Hp} {E:XK}:(zdj CX P w K mg base N q sc f cd A o s H E).N=N:=rfl
def zfP (K:W.Frag) (C:Addr) (fs:List (Str × D)) {cd:D} {c:Value} (hc:zsa cd=some c):zdJ K [.exc C fs,cd] Q↔X1.XIs K C/\∃ b,W.kitOne K (.ref C) c=some b/\Q (.bl b):=by
 constructor
 ·rintro ⟨d,t,cd',v,b,e,h1,h2,h3,q⟩
  injection e with e1 e2
  injection e2 with e2 _
  subst e1 e2
  rw [hc] at h1; cases h1
  rcases h2 with ⟨n,_,h2⟩ | ⟨C',fs',e,_,_⟩ | ⟨C',fs',e,rfl,T⟩
  ·cases h2
  ·cases e
  ·cases e
   exact ⟨T,b,h3,q⟩
 ·rintro ⟨T,b,h,q⟩
  exact ⟨_,_,_,_,b,rfl,hc,.inr (.inr ⟨C,fs,rfl,rfl,T⟩),h,q⟩
@[simp] theorem zpA (K:W.Frag) (C c:Addr) (fs:List (Str × D)):zdJ K [.exc C fs,.cls c] Q↔X1.XIs K C/\∃ b,W.kitOne K (.ref C) (.ref c)=some b/\Q (.bl b):=zfP K C fs rfl
@[simp] theorem zpz (K:W.Frag) (C:Addr) (n:String) (fs:List (Str × D)):zdJ K [.exc C fs,.ty n] Q↔X1.XIs K C/\∃ b,W.kitOne K (.ref C) (.type n)=some b/\Q (.bl b):=zfP K C fs rfl
def zby (K:W.Frag) {d:D} {n:String} (hk:zoW d=some n) {cd:D} {c:Value} (hc:zsa cd=some c):zdJ K [d,cd] Q↔∃ b,W.kitOne K (.type n) c=some b/\Q (.bl b):=by
 constructor
 ·rintro ⟨d',t,cd',v,b,e,h1,h2,h3,q⟩
  injection e with e1 e2
  injection e2 with e2 _
  subst e1 e2
  rw [hc] at h1; cases h1
  rcases h2 with ⟨m,rfl,h2⟩ | ⟨C',fs',rfl,rfl,T⟩ | ⟨C',fs',rfl,rfl,T⟩
  ·rw [hk] at h2
   cases h2; exact ⟨b,h3,q⟩
  ·cases hk
  ·cases hk
 ·rintro ⟨b,h,q⟩
  exact ⟨d,_,cd,c,b,rfl,hc,.inl ⟨n,rfl,hk⟩,h,q⟩
@[simp] theorem zqm (K:W.Frag) (c:String) :zdJ K [.non,.ty c] Q↔∃ b,W.kitOne K (.type "NoneType") (.type c)=some b/\Q (.bl b):=zby K rfl rfl
@[simp] theorem zpy (K:W.Frag) (c:Addr) :zdJ K [.non,.cls c] Q↔∃ b,W.kitOne K (.type "NoneType") (.ref c)=some b/\Q (.bl b):=zby K rfl rfl
@[simp] theorem zql (K:W.Frag) (c:String) (x:List Nat):zdJ K [(.str x),.ty c] Q↔∃ b,W.kitOne K (.type "str") (.type c)=some b/\Q (.bl b):=zby K rfl rfl
@[simp] theorem zqn (K:W.Frag) (c:String) (x:List D):zdJ K [(.lst x),.ty c] Q↔∃ b,W.kitOne K (.type "list") (.type c)=some b/\Q (.bl b):=zby K rfl rfl
@[simp] theorem zqk (K:W.Frag) (c:String) (x:List D):zdJ K [(.tup x),.ty c] Q↔∃ b,W.kitOne K (.type "tuple") (.type c)=some b/\Q (.bl b):=zby K rfl rfl
end
end PL
namespace X1
open PySem PySem.W
def xmro:List Value->Bool
 | .ref _ :: r=>xmro r
 | l=>l == [.type "ValueError",.type "Exception",.type "BaseException",.type "object"]
theorem zhx (self:Value):∀ {l:List Value},xmro l=true->refuseLoop self "__setattr__" l=pure ()
 | [],e=>by cases e
 | .ref c :: r,e=>by rw [refuseLoop_ref]; exact zhx self e
 | .type n :: r,e=>by
  have z:(Value.type n :: r)=[.type "ValueError",.type "Exception",.type "BaseException",.type "object"]:=beq_iff_eq.mp e
  rw [z]; exact PySem.F.store_ValueError.passes self
 | .none :: r,e=>by cases beq_iff_eq.mp (show (_ == _)=true from e)
 | .bool _ :: r,e=>by cases beq_iff_eq.mp (show (_ == _)=true from e)
 | .int _ _ :: r,e=>by cases beq_iff_eq.mp (show (_ == _)=true from e)
 | .str _ _ :: r,e=>by cases beq_iff_eq.mp (show (_ == _)=true from e)
 | .float _ _ :: r,e=>by cases beq_iff_eq.mp (show (_ == _)=true from e)
 | .bytes _ _ :: r,e=>by cases beq_iff_eq.mp (show (_ == _)=true from e)
 | .builtin _ :: r,e=>by cases beq_iff_eq.mp (show (_ == _)=true from e)
structure XSet (K:Frag) (C:Addr):Prop where
 sa:findIn K (.ref C) "__setattr__"=some (some (.builtin "object.__setattr__"))
 dc:((clsIn K C).any fun cd=>cd.hasDict && xmro cd.mro)=true
 ob:mroIn K C (.type "object")=some true
section
variable {K:Frag} {x C:Addr} {vs:Array Value} {sl:Array (Option Value)} {name:Str} {v:Value}
def xset1 {Q:Unit->Shared->Prop} (X:K.In s.heap) (T:XSet K C) (ht:takerIn K C name=some none) (he:s.heap.get? x=some ⟨.ref C,none,.fields vs,sl⟩)
  (h:∀ h',h'.get? x=some ⟨.ref C,some s.heap.objs.size,.fields vs,sl⟩->h'.Ns1 s.heap.objs.size (fun y=>if y=name then some v else none)->(∀ b o,b≠x->s.heap.get? b=some o->h'.get? b=some o)->Q () { s with heap:=h',toks:=s.toks+2 }) :
  wpAny (model prog w) A (setAttr (.ref x) name v) Q E s:=by
 have I:InstAt s.heap x ⟨.ref C,none,.fields vs,sl⟩ C none:=⟨he,rfl,rfl,True.intro⟩
 obtain ⟨cd,hc,ho⟩:=any_some T.dc; rw [yp] at ho; refine set_plain X I T.sa ?_; have SF:=PySem.F.store_object
 have sub:Looks (model prog w) s.heap (isInstance (.ref x) (.type "object")) true:=I.type.andThen (looks_mroIn X T.ob)
 refine codeAny_call_builtin SF.slot.plain SF.entry (@check_slot (model prog w) _ _ { s with toks:=s.toks+1 } "object.__setattr__" "object" "__setattr__" (.ref x) [.str name s.toks,v] [] _ SF.kind SF.split sub (SF.args (.ref x) (.str name s.toks) v) ?_)
 obtain ⟨attr,ha,hr⟩:=Option.bind_eq_some_iff.mp ht
 have hm:Looks (model prog w) s.heap (mroOf (.ref C)) cd.mro:=(looks_clsIn X hc).andThen .now
 have L3:Looks (model prog w) s.heap (Builtin.ObjectAttr.storeTaker? attr) none:=by
  cases attr with
  | none=>exact .now
  | some a =>
   obtain ⟨b,hb,e⟩:=Yw.mp hr; refine (looks_takesIn X hb).andThen ?_; cases b
   ·exact .now
   ·cases e
 rw [osa_eq,refuse_eq]
 refine yA (yA (I.type.here (s:={ s with toks:=s.toks+1 }) (yA (hm.here (s:={ s with toks:=s.toks+1 }) ?_))))
 rw [zhx _ ho.2]
 refine yF (yA (I.type.here (s:={ s with toks:=s.toks+1 }) (yA ((looks_findIn X ha).here (s:={ s with toks:=s.toks+1 }) (yA (L3.here (s:={ s with toks:=s.toks+1 }) ?_))))))
 show wpAny _ _ (Builtin.ObjectAttr.storeInOwnDict (.ref x) (.ref C) (.str name s.toks) name v attr.isSome) _ _ _
 refine yA (yF (yA (yA (wpAny_loadPart (s:={ s with toks:=s.toks+1 }) he (yA (Looks.here (s:={ s with toks:=s.toks+1 }) (looks_clsIn X hc) ?_))))))
 rw [ho.1]
 have hth:typeHasDict (.ref C)=true:=rfl
 show wpAny _ _ (do
  let d <- alloc { cls:=.type "dict",data:=.dict #[] }
  update x fun o=>{ o with dict:=some d }
  dictMade (.ref C) x d) _ _ _
 refine yA (wpAny_alloc ?_)
 have hx1:(s.heap.push { cls:=.type "dict",data:=.dict #[] }).get? x=some ⟨.ref C,none,.fields vs,sl⟩:=yC _ he
 refine yA (wpAny_update hx1 ?_)
 have hne:x≠s.heap.objs.size:=yW (yJ he)
 have hx2:=YY (fun o:Obj=>{ o with dict:=some s.heap.objs.size }) hx1 rfl
 have hd2:((s.heap.push { cls:=.type "dict",data:=.dict #[] }).update x fun o=>{ o with dict:=some s.heap.objs.size }).get? s.heap.objs.size=some { cls:=.type "dict",data:=.dict #[] }:=by
  rw [yj _ _ hne]; exact yM _ rfl
 refine yF (yA (yF (yA ?_)))
 have hn:((s.heap.push { cls:=.type "dict",data:=.dict #[] }).update x fun o=>{ o with dict:=some s.heap.objs.size }).Ns1 s.heap.objs.size (fun _=>none):=Heap.Ns1.of_empty ⟨_,#[],_,hd2,rfl,(fun e z=>yP z (by simp)),fun _=>rfl⟩
 refine wpAny_nsSet1 hn fun h' hn2 hs2=>?_
 obtain ⟨oD,esD,epD,hoD,hdD,hcD⟩:=hn2.count (PySem.Within.cons name v (ns:=[]) fun y hy=>yP rfl hy)
 refine yA (wpAny_lookBehind hoD (by rw [hdD]; exact pastItsLine_dict (YG hcD (Nat.le_add_left 1 sizeLine))) ?_)
 refine yF (h h' ((hs2.2 _ hne).trans hx2) hn2 fun b o hb e=>?_)
 have hbd:b≠s.heap.objs.size:=yW (yJ e)
 rw [hs2.2 _ hbd,yj _ _ (Ne.symm hb)]; exact yC _ e
end
section
variable {h:Heap} {g:Array GenState} {d:Drawn} {t:Nat} {os:OsState} {C N e:Addr} {bm bmB:List Value} {B nid iid:String} {zbb:List Value} {vs:Array Value} {dd:Option Addr} {sl:Array (Option Value)}
def base_init {Q:Value->Shared->Prop} (F:ExcBaseFacts B nid iid bmB) (T:OwnTail h bmB bm) (X:XC h C N bm nid) (he:h.get? e=some ⟨.ref C,dd,.fields vs,sl⟩) {t0:Addr} (h0:vs[0]?=some (.ref t0)) (hr:zbb.length<=sizeLine)
  (k:Q .none ⟨(h.push (tupX zbb)).update e (Obj.mapFields (·.setIfInBounds 0 (.ref h.objs.size))),g,d,t,os⟩):wpAny (model prog w) A (call (.builtin iid) (.ref e :: zbb)) Q E ⟨h,g,d,t,os⟩:=by
 obtain ⟨nm,q,bs,hd,sn,sub,ab,col,dd',k0,k1,k2,k3,k5,hC⟩:=X.ex; refine wpAny_call (codeAny_call_builtin F.init.plain F.initEntry (wpAny_check_init_subT F T hC he rfl ?_))
 wp_walk
 rw [h0]
 have he':(h.push (tupX zbb)).get? e=some ⟨.ref C,dd,.fields vs,sl⟩:=yC _ he
 refine yF (yA (Yq he' rfl (yu.mp h0).1 ?_))
 repeat (first | wp_step)
 exact k
end
end X1
namespace L2
open PySem PySem.Spec PyProof.Rows
structure Fly (n:Nat) (H:Hp) (h:Heap) (e C:Addr) (dd:Option Addr):Prop where
 ne:n<=e
 fe:H e=none
 ex:∃ vs,X1.Ex h e (.ref C) dd vs/\1<vs.size/\X1.Hd h e vs .none (fun b=>n<=b/\H b=none)
def CX1 (P:Program) (w:World):CXT:=fun outer H s E e s'=>∃ ae C dd H',e=.ref ae/\s'.os=s.os/\AllBare s'.gens/\Un (frs outer) [] H H' s.heap s'.heap/\HOk P w H' s'.heap/\Fly s.heap.objs.size H' s'.heap ae C dd/\E (.ref C) dd H'
def znw {P:Program} {w:World} {H:Hp} {h h':Heap} {R:Addr->Prop} {fr:List Addr} (x:HOk P w H h) (k:X1.Kp R fr h h') (hR:∀ b,R b->H b=none) (hf:∀ b ∈ fr,H b=none):HOk P w H h':=fun a o e =>
 (x a o e).stay (fun b u hb q=>by
  have hn:∀ c,H c≠none->¬ R c/\c ∉ fr:=fun c z=>⟨fun r=>z (hR c r),fun m=>z (hf c m)⟩
  rcases hb with rfl | hb
  ·have z:=hn b (by rw [e]; exact fun z=>nomatch z)
   exact k.keep b u q z.1 z.2
  ·have z:=hn b (by rw [hb]; exact fun z=>nomatch z)
   exact k.keep b u q z.1 z.2) (fun _ q=>q) fun _ _ q=>q
section
variable {N:List Str} {qual:Str} {scope:Scope} {f:Addr} {cd:Value} {outer:List Env} {s':Shared} {H':Hp} {E:XK} {e C:Addr} {dd:Option Addr}
def zq4 (I:Inv (zdj (CX1 P w) P w K mg base N qual scope f cd A outer s H E) pins σ H' s') (F:Fly s.heap.objs.size H' s'.heap e C dd) (hE:E (.ref C) dd H'):(zdj (CX1 P w) P w K mg base N qual scope f cd A outer s H E).xe (.ref e) s':=by
 obtain ⟨vs,hx,hs,hd⟩:=F.ex
 have hd':X1.Hd s'.heap e vs .none (fun b=>b=e\/vs[1]?=some (.ref b)):=by
  rcases hd with h | ⟨T,h1,h2,h3,h4⟩
  ·exact .inl h
  ·exact .inr ⟨T,h1,h2,.inr h1,h4⟩
 have hR:∀ b,(b=e\/vs[1]?=some (.ref b))->s.heap.objs.size<=b/\H' b=none:=fun b hb=>by
  rcases hb with rfl | hb
  ·exact ⟨F.ne,F.fe⟩
  ·rcases hd with ⟨h,_⟩ | ⟨T,h1,_,h3,_⟩
   ·rw [hb] at h; cases h
   ·rw [hb] at h1
    cases h1; exact h3
 refine X1.leave (env:=envOfC qual scope s.heap.objs.size f cd) (outer:=outer) (L:=s.heap.objs.size) (R:=fun b=>b=e\/vs[1]?=some (.ref b)) I.ok.frames I.stack rfl hx hs hd' (.inl rfl) fun h' T vs' x1 x2 x3 x4 x5 x6 x7 x8=>?_
 have hfr:∀ b ∈ frs (envOfC qual scope s.heap.objs.size f cd :: outer),H' b=none:=I.stkFree
 have un:=I.base
 have hT:H' T=none:=I.hok.fresh x6
 have hTn:s.heap.objs.size<=T:=YG I.sz x6
 have young:∀ b o,s.heap.get? b=some o->¬ (b=e\/vs[1]?=some (.ref b)):=fun b o q z=>yP (yT (yJ q) (hR b z).1) (YW _)
 have notL:∀ b o,s.heap.get? b=some o->b≠s.heap.objs.size:=fun b o q=>yW (yJ q)
 have cut:∀ b,b ∈ frs (envOfC qual scope s.heap.objs.size f cd :: outer)->b=s.heap.objs.size\/b ∈ frs outer:=fun b hb=>yQ.mp hb
 refine ⟨e,C,dd,H',rfl,I.os,I.bare,⟨fun b o q n hb hx=>?_,fun b o q n hb hx=>?_,fun b o q n hx=>un.free b o q n hx,fun b o q hx=>?_,un.tups,un.frzs,un.tbls⟩,znw I.hok x8 (fun b hb=>(hR b hb).2) hfr,⟨F.ne,F.fe,vs',x1,x3,.inr ⟨T,x4,x5,⟨hTn,hT⟩,x7⟩⟩,hE⟩
 ·refine x8.keep b o (un.keep b o q n hb hx) (young b o q) fun z=>?_
  rcases cut b z with z | z
  ·exact notL b o q z
  ·exact hb z
 ·obtain ⟨sl,e1⟩:=un.slot b o q n hb hx
  obtain ⟨sl2,e2⟩:=x8.slot b _ e1 (young b o q) (yO _ hb); exact ⟨sl2,e2⟩
 ·obtain ⟨o',e1⟩:=un.there b o q hx
  by_cases z:b ∈ frs (envOfC qual scope s.heap.objs.size f cd :: outer)
  ·obtain ⟨sl,e2⟩:=x8.slot b o' e1 (young b o q) z
   exact ⟨_,e2⟩
  ·exact ⟨o',x8.keep b o' e1 (young b o q) z⟩
end
structure FlyI (X:Cx) (pins:yyL) (H:Hp) (h:Heap) (e C:Addr) (dd:Option Addr):Prop where
 fe:zdq X pins H e
 ex:∃ vs,X1.Ex h e (.ref C) dd vs/\1<vs.size/\X1.Hd h e vs .none (zdq X pins H)
abbrev XS:=St->XK
def XP (X:Cx) (pins:yyL) (E:XS) (e:Value) (s':Shared):Prop:=∃ ae C dd σ' H',e=.ref ae/\Inv X pins σ' H' s'/\FlyI X pins H' s'.heap ae C dd/\E σ' (.ref C) dd H'
abbrev TEx:=St->Hp->VK->XK->Prop
abbrev TSx:=Ends->XS->St->Hp->Prop
def at1 (σ:St) (E:XK):XS:=fun σ' c d H'=>σ'=σ/\E c d H'
def PEx (X:Cx) (e:Expr) (t:TEx):Prop:=∀ (pins:yyL) (s:Shared) (σ:St) (H:Hp) (Q:VK) (E:XK),Inv X pins σ H s->t σ H Q E->wpAny (model X.prog X.w) X.A (eval e X.env) (EP X pins σ Q) (XP X pins (at1 σ E)) s
def PSx (X:Cx) (st:Stmt) (t:TSx):Prop:=∀ (pins:yyL) (s:Shared) (σ:St) (H:Hp) (D:Ends) (E:XS),Inv X pins σ H s->t D E σ H->wpAny (model X.prog X.w) X.A (exec st X.env) (SP X pins D) (XP X pins E) s
def zh9 (X:Cx) (st:List Stmt) (t:TSx):Prop:=∀ (pins:yyL) (s:Shared) (σ:St) (H:Hp) (D:Ends) (E:XS),Inv X pins σ H s->t D E σ H->wpAny (model X.prog X.w) X.A (execs st X.env) (SP X pins D) (XP X pins E) s
section
variable {st:Stmt} {zbb:List Stmt} {t u:TSx} {e:Expr} {te:TEx} {pos:Pos}
def PS.x {t:TS} (h:PS X.nox st t):PSx X st (fun D _ σ H=>t D σ H):=fun pins s σ H D E I q =>
 yf (h pins s σ H D (I.wish _) q) (fun _ _ q=>q.unwish) fun _ _ z=>z.elim
def PA.x {es:List Expr} {t:TA} (h:PA X.nox es t) {E:Value->Shared->Prop} {pos:Pos} {pins:yyL} {s:Shared} {σ:St} {H:Hp} {Q:List V->Hp->Prop} (I:Inv X pins σ H s) (q:t σ H Q):wpAny (model X.prog X.w) X.A (spliced (backTo pos (starEach es X.env))) (AP X pins σ Q) E s :=
 yf (h pos pins s σ H Q (I.wish _) q) (fun _ _ ⟨v,H',I',r,q⟩=>⟨v,H',I'.unwish,r,q⟩) fun _ _ z=>z.elim
def PT.x {t:TT} (h:PT X.nox e t) {E:Value->Shared->Prop} {pins:yyL} {s:Shared} {σ:St} {H:Hp} {Q:Bool->Hp->Prop} (I:Inv X pins σ H s) (q:t σ H Q):wpAny (model X.prog X.w) X.A (isTrue e X.env (eval e X.env)) (TP X pins σ Q) E s :=
 yf (h pins s σ H Q (I.wish _) q) (fun _ _ ⟨H',I',q⟩=>⟨H',I'.unwish,q⟩) fun _ _ z=>z.elim
def XP.at {pins:yyL} {σ:St} {E:XK} {E':XS} {v:Value} {s':Shared} (h:XP X pins (at1 σ E) v s') (k:∀ c d H',E c d H'->E' σ c d H'):XP X pins E' v s':=by
 obtain ⟨ae,C,dd,σ',H',e1,I,F,rfl,q⟩:=h; exact ⟨ae,C,dd,σ',H',e1,I,F,k _ _ _ q⟩
def zuc (t u:TSx):TSx:=fun D E σ H=>t { D with nx:=u D E } E σ H
def znM:zh9 X [] (fun D _ σ H=>D.nx σ H):=fun _ _ σ H _ _ I h=>Yy ⟨σ,H,I,h⟩
def zk3 (h1:PSx X st t) (h2:zh9 X zbb u):zh9 X (st :: zbb) (zuc t u):=by
 intro pins s σ H D E I h
 refine wpAny_execs_cons (thn (h1 pins s σ H { D with nx:=u D E } E I h) fun f s1 q=>?_)
 cases f with
 | next =>
  obtain ⟨σ',H',I',q⟩:=q; exact h2 pins s1 σ' H' D E I' q
 | ret v=>exact q
 | brk=>exact q
 | cont=>exact q
def znL (h1:PSx X st t):zh9 X [st] t:=by
 intro pins s σ H D E I h
 refine wpAny_execs_cons (thn (h1 pins s σ H D E I h) fun f s1 q=>?_)
 cases f with
 | next=>exact Yy q
 | ret v=>exact q
 | brk=>exact q
 | cont=>exact q
def zud (c:TT) (t u:TSx):TSx:=fun D E σ H=>c σ H fun b H1=>if b=true then t D E σ H1 else u D E σ H1
def zsf {c:Expr} {a b:List Stmt} {tc:TT} (hc:PT X.nox c tc) (ha:zh9 X a t) (hb:zh9 X b u):PSx X (.If c a b pos) (zud tc t u):=by
 intro pins s σ H D E I h
 refine wpAny_If (thn (PT.x hc I h) fun d s1 ⟨H1,I1,q1⟩=>?_)
 cases d with
 | true=>exact ha pins s1 σ H1 D E I1 q1
 | false=>exact hb pins s1 σ H1 D E I1 q1
def zsg (te:TEx):TSx:=fun D E σ H=>te σ H (fun _ H1=>D.nx σ H1) (E σ)
def znN (he:PEx X e te) (hs:swapsWith e none pos.line X.env=pure false:=by rfl):PSx X (.Expr e pos) (zsg te):=by
 intro pins s σ H D E I h
 exact wpAny_Expr_any (yf (he pins s σ H _ _ I h) (fun v s1 ⟨x,H1,I1,r1,q1⟩=>⟨σ,H1,I1,q1⟩) fun _ _ z=>z.at fun _ _ _ q=>q) I.quiet hs
def zue (te:TEx) (i:Nat):TSx:=fun D E σ H=>te σ H (fun x H1=>D.nx (σ.set i (some x)) H1) (E σ)
def zpF {i:Nat} {x:Str} {pos':Pos} (hN:X.N.Nodup) (hi:X.N[i]?=some x) (hx:Loc X.env.scope x) (he:PEx X e te) (hs:swapsWith e (some (.Name x pos')) pos.line X.env=pure false:=by rfl) (hf:X.fn x=true\/X.env.scope.names.lookup x=some .local:=by first | exact .inl rfl | exact .inr rfl | assumption) :
  PSx X (.Assign [.Name x pos'] e pos) (zue te i):=by
 intro pins s σ H D E I h
 refine wpAny_Assign_Name (yf (he pins s σ H _ _ I h) (fun v s1 ⟨y,H1,I1,r1,q1⟩=>?_) fun _ _ z=>z.at fun _ _ _ q=>q) hs
 exact zcK I1 hN hi hx r1 (fun s2 I2=>⟨_,H1,I2,q1⟩) hf
def znO {k:Nat} {f:Addr} {fd:FuncData} {ps:List Str} {sp:Sp} {pins:yyL} {σ:St} {H:Hp} {s:Shared} {Q:VK} {E:XK} {us:List Value} {vs:List V} (F:FnOk X.prog X.w X.K X.mg X.base (CX1 X.prog X.w) k f fd ps sp) (hr:Room k X.A) (hb:zbX X.K fd ps [])
  (I:Inv X pins σ H s) (r:zae vs us) (h:sp vs H Q E):wpAny (model X.prog X.w) X.A (call (.ref f) us) (EP X pins σ Q) (XP X pins (at1 σ E)) s:=by
 have hl:(us ++ []).length=ps.length:=by rw [yd,<- r.length]; exact F.len _ _ _ _ h
 have hb':=hb s us I.kIn hl; rw [yd] at hb'
 refine wpAny_call (codeAny_mono (F.run X.A X.stack s H ⟨us,[]⟩ us vs Q E hr I.env0 hb' r h) fun r s' hq=>?_)
 cases r with
 | error e =>
  obtain ⟨ae,C,dd,H',rfl,os,bare,un,hok,fl,q⟩:=hq
  have I':Inv X pins σ H' s':=I.call' os un hok bare (fun b z=>yP z (by simp))
  have fp:∀ b,s.heap.objs.size<=b->H' b=none->zdq X pins H' b:=fun b h1 h2=>I.fpOk h1 h2
  obtain ⟨vs',x1,x2,x3⟩:=fl.ex; refine ⟨ae,C,dd,σ,H',rfl,I',⟨fp ae fl.ne fl.fe,vs',x1,x2,?_⟩,rfl,q⟩
  rcases x3 with z | ⟨T,y1,y2,y3,y4⟩
  ·exact .inl z
  ·exact .inr ⟨T,y1,y2,fp T y3.1 y3.2,y4⟩
 | ok fl =>
  cases fl with
  | ret u=>exact I.after hq
  | next=>exact False.elim hq
  | brk=>exact False.elim hq
  | cont=>exact False.elim hq
def zsh (sp:Sp) (t:TA):TEx:=fun σ H Q E=>t σ H fun vs H1=>sp vs H1 Q E
def znP {k:Nat} {f:Addr} {fd:FuncData} {ps:List Str} {sp:Sp} {x:Str} {p:Pos} {es:List Expr} {ta:TA} (F:FnOk X.prog X.w X.K X.mg X.base (CX1 X.prog X.w) k f fd ps sp) (hr:Room k X.A) (hg:Gl X x) (hm:X.mg x=some (.ref f)) (hk:W.keepIn X.K (.ref f)=true) (hb:zbX X.K fd ps [])
  (ha:PA X.nox (e :: es) ta) (hdb:yyD x:=by decide) (he:starEach (e :: es) X.env=(false,eval e X.env) :: starEach es X.env:=by rfl) (hpl:(backTo pos (starEach es X.env)).any (·.1)=false:=by rfl) :
  PEx X (.Call (.Name x p) (e :: es) [] pos) (zsh sp ta):=by
 intro pins s σ H Q E I h; refine YT (zb8 I hg hm ?_ hdb)
 refine W.callWith_K (h₀:=X.base) I.ok.mod.kin hk (thn (PA.x ha I h) fun us s1 ⟨vs,H1,I1,r,q⟩=>⟨I1.kIn,?_⟩) he hpl
 exact znO F hr hb I1 r q
end
section
def Fun.okx {x qual:Str} {st:Stmt} {f:Addr} {fd:FuncData} {N ps:List Str} {k:Nat} {sp:Sp} (F:Fun K x qual st f fd) (S:FnScope N ps (zm st)) (len:∀ vs H Q E,sp vs H Q E->vs.length=ps.length)
  (hbody:∀ (cdv:Value) (A:Around) (outer:List Env) (s:Shared) (H:Hp) (vs:List V) (Q:VK) (E:XK),Room k (A.deeper (envOfC qual (zm st) s.heap.objs.size f cdv))->sp vs H Q E ->
   ∃ t,zh9 (zdj (CX1 P w) P w K mg base N qual (zm st) f cdv A outer s H E) (zaw st) t/\t { nx:=fun _ H'=>Q .non H',rt:=Q } (fun _=>E) (start N vs) H):FnOk P w K mg base (CX1 P w) (k+1) f fd ps sp:=by
 obtain ⟨oc,od,kV,doc,pm,an,cdv,ct,osl,e,lk,cd⟩:=F.ex; subst e
 refine zo9 lk cd S len fun A outer s H vs Q E hr h=>?_
 obtain ⟨t,h1,h2⟩:=hbody cdv A outer s H vs Q E hr h
 refine ⟨fun D σ H'=>t D (fun _=>E) σ H',?_,h2⟩
 intro pins s1 σ H1 D I q
 refine yf (h1 pins s1 σ H1 D _ I q) (fun _ _ z=>z) fun v s' z=>?_
 obtain ⟨ae,C,dd,σ',H',rfl,I',fl,hE⟩:=z
 have old:∀ b,zdq (zdj (CX1 P w) P w K mg base N qual (zm st) f cdv A outer s H E) pins H' b->s.heap.objs.size<=b/\H' b=none:=fun b hb=>by
  obtain ⟨f0,_,_,f3,_⟩:=hb
  rcases f3 with z | z
  ·exact yP (show b ∈ ([]:List Addr) from z) (by simp)
  ·exact ⟨z,f0⟩
 obtain ⟨vs',x1,x2,x3⟩:=fl.ex; refine zq4 I' ⟨(old ae fl.fe).1,(old ae fl.fe).2,vs',x1,x2,?_⟩ hE
 rcases x3 with z | ⟨T,y1,y2,y3,y4⟩
 ·exact .inl z
 ·exact .inr ⟨T,y1,y2,old T y3,y4⟩
end
def ziQ (a C:Addr):Heap->Prop:=fun h=>∃ t sl,h.get? a=some ⟨.ref C,none,.fields #[.ref t,.none,.none,.none,.bool false,.none],sl⟩
def zfu (a C dx:Addr):Heap->Prop:=fun h=>∃ t sl,h.get? a=some ⟨.ref C,some dx,.fields #[.ref t,.none,.none,.none,.bool false,.none],sl⟩
def zi2 {P:Program} {w:World} {H:Hp} {h:Heap} {a C:Addr} (x:ziQ a C h):zal P w H h a (.ext (ziQ a C)):=by
 refine ⟨x,?_,fun h1 h2 ⟨t,sl,e⟩ k=>⟨t,sl,k _ e⟩⟩
 obtain ⟨t,sl,e⟩:=x; exact ⟨_,e⟩
def zk6 {P:Program} {w:World} {H:Hp} {h:Heap} {a C dx:Addr} (x:zfu a C dx h):zal P w H h a (.ext (zfu a C dx)):=by
 refine ⟨x,?_,fun h1 h2 ⟨t,sl,e⟩ k=>⟨t,sl,k _ e⟩⟩
 obtain ⟨t,sl,e⟩:=x; exact ⟨_,e⟩
def del (H:Hp) (a:Addr):Hp:=fun b=>if b=a then none else H b
def zfl {H:Hp} {a:Addr}:del H a a=none:=by unfold del; rw [yI rfl]
def zdp {H:Hp} {a b:Addr} (h:b≠a):del H a b=H b:=by unfold del; rw [yH h]
def Inv.drop {X:Cx} {pins:yyL} {σ:St} {H:Hp} {s:Shared} {a:Addr} {φ:Heap->Prop} (I:Inv X pins σ H s) (e:H a=some (.ext φ)):Inv X pins σ (del H a) s:=by
 have nx:∀ b u,H b=some u->(∀ ψ,u≠.ext ψ)->b≠a:=fun b u q n z=>by
  rw [z,e] at q; exact n φ (Option.some.inj q).symm
 have le:∀ b,H b=none->del H a b=none:=fun b q=>by
  by_cases z:b=a
  ·rw [z,zfl]
  ·rw [zdp z]; exact q
 refine ⟨I.ok,I.os,I.bare,⟨I.base.keep,I.base.slot,fun b o q n hx=>le b (I.base.free b o q n hx),I.base.there,fun b xs q=>?_,fun b o u q=>?_,fun b ps q=>?_⟩,I.loc,I.cell,le _ I.free,fun x c h=>le _ (I.freeC x c h),fun p hp=>⟨(I.pin p hp).1,le _ (I.pin p hp).2.1,(I.pin p hp).2.2⟩,fun b u q=>?_,I.len⟩
 ·have z:=I.base.tups b xs q
  rw [zdp (nx b _ z fun _ y=>nomatch y)]
  exact z
 ·have z:=I.base.frzs b o u q
  rw [zdp (nx b _ z fun _ y=>nomatch y)]
  exact z
 ·obtain ⟨more,z⟩:=I.base.tbls b ps q
  exact ⟨more,by rw [zdp (nx b _ z fun _ y=>nomatch y)]; exact z⟩
 ·have hb:b≠a:=fun z=>by rw [z,zfl] at q; cases q
  rw [zdp hb] at q
  exact (I.hok b u q).stay (fun _ _ _ z=>z) (fun c z=>by rw [zdp (nx c _ z fun _ y=>nomatch y)]; exact z) fun c xs z=>by rw [zdp (nx c _ z fun _ y=>by cases xs <;> nomatch y)]; exact z
def vbm:List Value:=[.type "ValueError",.type "Exception",.type "BaseException",.type "object"]
structure XCl (K:W.Frag) (C N:Addr) (bm:List Value):Prop where
 xc:∀ h:Heap,K.In h->X1.XC h C N bm "ValueError.__new__"
 tail:∀ h:Heap,K.In h->OwnTail h vbm bm
 base:bm.contains (.type "BaseException")=true
 kp:W.keepIn K (.ref C)=true
structure XIn (K:W.Frag) (N f:Addr):Prop where
 ns:∀ h:Heap,K.In h->∃ mN,h.Ns N mN/\mN "__init__"=some (.ref f)
 fn:∀ h:Heap,K.In h->∃ o,h.get? f=some o/\o.cls=.type "function"
def zrK (C:Addr) (fld:Str) (ok:V->Hp->Prop):Sp:=fun vs H Q _=>∃ a v,vs=[.ref a,v]/\H a=some (.ext (ziQ a C))/\ok v H/\∀ dx,H dx=none->Q .non (upd (upd H dx (.xd [(fld,v)])) a (.ext (zfu a C dx)))
section
def zpK (C:Addr) (fld:Str) (ok:V->Hp->Prop) (ta:TA):TSx:=fun _ E σ H=>ta σ H fun vs H1=>∃ v,vs=[v]/\(∀ a o,H1 a=none->ok v (upd H1 a o))/\∀ dx,H1 dx=none->E σ (.ref C) (some dx) (upd H1 dx (.xd [(fld,v)]))
def zk4 {k:Nat} {C N f:Addr} {bm:List Value} {fd:FuncData} {ps:List Str} {fld x:Str} {ok:V->Hp->Prop} {e:Expr} {ta:TA} {p cpos pos:Pos} (hc:X.calm=true) (T:XCl X.K C N bm) (TI:XIn X.K N f) (F:FnOk X.prog X.w X.K X.mg X.base CX0 k f fd ps (zrK C fld ok)) (hr:Room (k+1) X.A) (hb:zbX X.K fd ps [])
  (hg:Gl X x) (hm:X.mg x=some (.ref C)) (ha:PA X.nox [e] ta) (hs:starEach [e] X.env=(false,eval e X.env) :: starEach [] X.env:=by rfl) (hdb:yyD x:=by decide) :
  PSx X (.Raise (some (.Call (.Name x p) [e] [] cpos)) none pos) (zpK C fld ok ta):=by
 intro pins s σ H D E I h; rw [arm_exec_Raise]; refine yA (wpAny_standAt ?_)
 show wpAny _ _ (raiseStmt X.env (some (do let v <- eval (.Call (.Name x p) [e] [] cpos) X.env; standAt pos; pure v)) none) _ _ _
 refine X1.raise_at (C:=C) (N:=N) (nid:="ValueError.__new__") T.base (I.ok.hd hc) (yA ?_); refine YT (zb8 I hg hm ?_ hdb)
 refine W.callWith_K (h₀:=X.base) I.ok.mod.kin T.kp (thn (PA.x ha I h) fun us s1 ⟨vs,H1,I1,r,v,ev,q0,q⟩=>⟨I1.kIn,?_⟩) hs rfl
 subst ev; obtain ⟨u,rfl,ru⟩:=zcl r; obtain ⟨hh,g,d,t,os⟩:=s1; obtain ⟨mN,hN,hi⟩:=TI.ns hh I1.kIn; obtain ⟨oI,hfI,hfc⟩:=TI.fn hh I1.kIn
 refine X1.make_init PySem.F.excBase_ValueError (T.tail hh I1.kIn) (T.xc hh I1.kIn) hN hi hfI hfc (by show 1<=sizeLine; exact Nat.le_of_lt (zaC (by decide))) ?_
 -- the new exception is tracked while its __init__ runs
 have fresh:H1 (hh.objs.size+1)=none:=I1.hok.fresh (Nat.le_succ _)
 have I2:Inv X pins σ (upd H1 (hh.objs.size+1) (.ext (ziQ (hh.objs.size+1) C))) ⟨X1.madeX hh C [u],g,d,t,os⟩ :=
  I1.laid (a:=hh.objs.size+1) (o:=.ext (ziQ (hh.objs.size+1) C)) (t':=t) X1.madeX_keep (Nat.le_succ _) (zi2 ⟨hh.objs.size,#[],X1.madeX_at⟩)
 have rv:zae [V.ref (hh.objs.size+1),v] [Value.ref (hh.objs.size+1),u]:=.cons rfl (.cons ru .nil)
 have hsp:zrK C fld ok [.ref (hh.objs.size+1),v] (upd H1 (hh.objs.size+1) (.ext (ziQ (hh.objs.size+1) C)))
   (fun y H2=>y=.non/\∃ dx,H1 dx=none/\dx≠hh.objs.size+1/\H2=upd (upd (upd H1 (hh.objs.size+1) (.ext (ziQ (hh.objs.size+1) C))) dx (.xd [(fld,v)])) (hh.objs.size+1) (.ext (zfu (hh.objs.size+1) C dx))) E0:=by
  refine ⟨_,v,rfl,zn,q0 _ _ fresh,fun dx hdx=>⟨rfl,dx,?_,?_,rfl⟩⟩
  ·by_cases z:dx=hh.objs.size+1
   ·rw [z,zn] at hdx; cases hdx
   ·rwa [zq z] at hdx
  ·intro z
   rw [z,zn] at hdx; cases hdx
 have hl:([Value.ref (hh.objs.size+1),u] ++ []).length=ps.length:=by
  have:=F.len _ _ _ _ hsp
  rw [yd]; exact this
 have hb':=hb ⟨X1.madeX hh C [u],g,d,t,os⟩ [Value.ref (hh.objs.size+1),u] I2.kIn hl; rw [yd] at hb'
 refine wpAny_call (codeAny_mono (F.run _ X.stack _ _ ⟨[Value.ref (hh.objs.size+1),u],[]⟩ _ _ _ E0 (hr.make C [u] []) (I2.env0.make C [u] []) hb' rv hsp) fun r s' hq'=>?_)
 cases r with
 | error z=>exact (show False from hq').elim
 | ok fl =>
  cases fl with
  | ret y =>
   obtain ⟨y',H',I3,ry,rfl,dx,hdx,hne,rfl⟩:=I2.after hq'
   obtain rfl:y=Value.none:=ry
   refine ⟨rfl,?_⟩; have I4:=I3.drop (a:=hh.objs.size+1) zn
   have eH:del (upd (upd (upd H1 (hh.objs.size+1) (.ext (ziQ (hh.objs.size+1) C))) dx (.xd [(fld,v)])) (hh.objs.size+1) (.ext (zfu (hh.objs.size+1) C dx))) (hh.objs.size+1)=upd H1 dx (.xd [(fld,v)]):=by
    funext b
    by_cases z:b=hh.objs.size+1
    ·rw [z,zfl,zq (Ne.symm hne),fresh]
    ·rw [zdp z,zq z]
     by_cases y:b=dx
     ·rw [y,zn,zn]
     ·rw [zq y,zq y,zq z]
   rw [eH] at I4
   obtain ⟨⟨t0,sl,hx⟩,_⟩:=(show zal X.prog X.w _ s'.heap (hh.objs.size+1) (.ext (zfu (hh.objs.size+1) C dx)) from I3.hok _ _ zn)
   refine yA (wpAny_standAt (yF ⟨hh.objs.size+1,some dx,_,sl,rfl,T.xc _ I4.kIn,hx,rfl,hh.objs.size+1,C,some dx,σ,_,rfl,I4,⟨?_,_,⟨sl,hx⟩,by simp,.inl ⟨rfl,rfl⟩⟩,q dx hdx⟩))
   exact I1.fpOk (Nat.le_succ _) (by rw [zq (Ne.symm hne)]; exact fresh)
  | next=>exact False.elim hq'
  | brk=>exact False.elim hq'
  | cont=>exact False.elim hq'
end
def zpM {H:Hp} {a:Addr} {o:HO} (h:H a=some o):upd H a o=H:=by
 funext b
 by_cases z:b=a
 ·rw [z,zn,h]
 ·rw [zq z]
structure BIn (K:W.Frag) (M:Addr):Prop where
 sp:W.specialIn K (.ref M) "__getattribute__"=some (some (.builtin "type.__getattribute__"))
 rd:W.readsIn K M (.type "type")=true
 fd:W.findCls K (.ref M) (.type "type") "__init__"=some (.val (.builtin "ValueError.__init__"))
section
def tBI (K:W.Frag) (ta:TA):TE:=fun σ H Q=>ta σ H fun vs H1=>∃ a C N bm z,vs=[.ref a,.str z]/\H1 a=some (.ext (ziQ a C))/\XCl K C N bm/\Q .non H1
def zlZ {M:Addr} {x:Str} {p apos pos:Pos} {e:Expr} {es:List Expr} {ta:TA} {pl:Sem Bool} (B:BIn X.K M) (hg:Gl X x) (hm:X.mg x=some (.ref M)) (ha:PA X (e :: es) ta) (hdb:yyD x:=by decide)
  (he:starEach (e :: es) X.env=(false,eval e X.env) :: starEach es X.env:=by rfl) (hpl:(backTo pos (starEach es X.env)).any (·.1)=false:=by rfl)
  (ht:eval (.Call (.Attribute (.Name x p) "__init__" apos) (e :: es) [] pos) X.env=(do
   let ov <- eval (.Name x p) X.env
   standAt apos.atName
   let (f,first) <- holding [ov] (getMethod ov "__init__" pl)
   callWith pos f first (backTo pos (starEach (e :: es) X.env)) (backToKw pos (keywordEach [] X.env))):=by rfl) :
  PE X (.Call (.Attribute (.Name x p) "__init__" apos) (e :: es) [] pos) (tBI X.K ta):=by
 intro pins s σ H Q I h; refine W.methodCall_KW (pl:=pl) (zb8 I hg hm ?_ hdb) ht; refine W.method_cls I.kIn B.sp (W.cls_value I.kIn B.rd B.fd rfl ?_)
 refine PyProof.Rows.callWith_builtin1 (thn (ha pos pins _ σ H _ (I.tok _) h) fun us s1 ⟨vs,H1,I1,r,a,C,N,bm,z,ev,hx,T,q⟩=>?_) he hpl
 subst ev; obtain ⟨u,w',rfl,r1,r2⟩:=zlb r
 obtain rfl:u=Value.ref a:=r1
 obtain ⟨tk,rfl⟩:=(show ∃ t,w'=Value.str z t from r2)
 obtain ⟨⟨t0,sl,hxo⟩,_⟩:=(show zal X.prog X.w H1 s1.heap a (.ext (ziQ a C)) from I1.hok a _ hx)
 obtain ⟨hh,g,d,t,os⟩:=s1
 refine X1.base_init PySem.F.excBase_ValueError (T.tail hh I1.kIn) (T.xc hh I1.kIn) hxo rfl (by show 1<=sizeLine; exact Nat.le_of_lt (zaC (by decide))) ?_
 have hp:(hh.push (X1.tupX [.str z tk])).get? a=some ⟨.ref C,none,.fields #[.ref t0,.none,.none,.none,.bool false,.none],sl⟩:=yC _ hxo
 have hu:=X1.upd_fields (f:=(·.setIfInBounds 0 (Value.ref hh.objs.size))) hp
 have I2:=I1.write (x:=a) (e:=a) (o:=.ext (ziQ a C)) (t':=t) (h':=(hh.push (X1.tupX [.str z tk])).update a (Obj.mapFields (·.setIfInBounds 0 (Value.ref hh.objs.size)))) (by rw [hx]; exact True.intro) (.inl rfl)
  (fun b o hb e=>by rw [yj _ _ (Ne.symm hb)]; exact yC _ e) ⟨_,hu⟩ (zi2 ⟨hh.objs.size,sl,hu⟩)
 rw [zpM hx] at I2; exact ⟨.non,H1,I2,rfl,q⟩
def zsD (K:W.Frag) (ta tv:TE) (f:Str):TS:=fun D σ H=>tv σ H fun y H1=>ta σ H1 fun x H2=>∃ a C,x=.ref a/\H2 a=some (.ext (ziQ a C))/\X1.XSet K C/\zcu K C f/\∀ dx,H2 dx=none->D.nx σ (upd (upd H2 dx (.xd [(f,y)])) a (.ext (zfu a C dx)))
def zoh {o value:Expr} {f:Str} {pos pos':Pos} {ta tv:TE} (ha:PE X o ta) (hv:PE X value tv) (hs:swapsWith value (some (.Attribute o f pos')) pos.line X.env=pure false):PS X (.Assign [.Attribute o f pos'] value pos) (zsD X.K ta tv f):=by
 intro pins s σ H D I h
 refine plainObj_wpAny_Assign_Attribute (thn (hv pins s σ H _ I h) fun u s1 ⟨y,H1,I1,ry,q⟩=>thn (ha pins s1 σ H1 _ I1 q) fun ov s2 ⟨x,H2,I2,rx,a,C,ex,ea,T,n,q2⟩=>?_) hs
 subst ex
 obtain rfl:ov=Value.ref a:=rx
 obtain ⟨⟨t0,sl,hxo⟩,_⟩:=(show zal X.prog X.w H2 s2.heap a (.ext (ziQ a C)) from I2.hok a _ ea)
 refine X1.xset1 I2.kIn T n.taker hxo fun h' x1 x2 x3=>?_
 have fr:H2 s2.heap.objs.size=none:=I2.hok.fresh (yD _)
 have hne:a≠s2.heap.objs.size:=yW (yJ hxo)
 -- first the object is written, then its dict is laid
 have un:Un X.fs [] H2 (upd (upd H2 s2.heap.objs.size (.xd [(f,y)])) a (.ext (zfu a C s2.heap.objs.size))) s2.heap h':=by
  have na:∀ b,H2 b=none->b≠a:=fun b z w=>by rw [w,ea] at z; cases z
  have nd:∀ b o,s2.heap.get? b=some o->b≠s2.heap.objs.size:=fun b o e=>yW (yJ e)
  refine ⟨fun b o e n _ _=>x3 b o (na b n) e,fun b o e n _ _=>⟨o.slots,x3 b o (na b n) e⟩,fun b o e n _=>?_,fun b o e _=>?_,fun b xs e=>?_,fun b o u e=>?_,fun b ps e=>?_⟩
  ·rw [zq (na b n),zq (nd b o e)]; exact n
  ·by_cases z:b=a
   ·exact ⟨_,by rw [z]; exact x1⟩
   ·exact ⟨o,x3 b o z e⟩
  ·rw [zq (zjT e ea fun z=>nomatch z),zq (zw e fr)]; exact e
  ·rw [zq (zjT e ea fun z=>nomatch z),zq (zw e fr)]; exact e
  ·exact ⟨#[],by rw [zq (zjT e ea fun z=>nomatch z),zq (zw e fr),e]; simp⟩
 have hok:HOk X.prog X.w (upd (upd H2 s2.heap.objs.size (.xd [(f,y)])) a (.ext (zfu a C s2.heap.objs.size))) h':=by
  intro b o e
  by_cases z:b=a
  ·subst z
   rw [zn] at e; cases e; exact zk6 ⟨t0,sl,x1⟩
  ·rw [zq z] at e
   by_cases z2:b=s2.heap.objs.size
   ·subst z2
    rw [zn] at e; cases e
    refine ⟨_,x2,fun g=>?_⟩
    by_cases eg:g=f
    ·have hb:(g == f)=true:=beq_iff_eq.mpr eg
     simp only [List.lookup,hb,yI eg]; exact ry
    ·have hb:(g == f)=false:=beq_eq_false_iff_ne.mpr eg
     simp only [List.lookup,hb,yH eg]; exact True.intro
   ·rw [zq z2] at e
    have noA:∀ c u,H2 c=some u->(∀ ψ,u≠.ext ψ)->c≠a:=fun c u hc hn zz=>by
     rw [zz,ea] at hc; exact hn _ (Option.some.inj hc).symm
    refine (I2.hok b o e).stay (fun c v hc r=>x3 c v ?_ r) (fun c r=>by rw [zq (noA c _ r fun _ zz=>nomatch zz),zq (zw r fr)]; exact r) fun c xs r=>by rw [zq (noA c _ r fun _ zz=>by cases xs <;> nomatch zz),zq (zw r fr)]; exact r
    rcases hc with rfl | hc
    ·exact z
    ·exact noA c _ hc fun _ zz=>nomatch zz
 exact ⟨σ,_,I2.un (t':=s2.toks+2) un hok,q2 _ fr⟩
def Rep (X:Cx) (v:V) (H:Hp) (n:Nat):Prop:=∀ (pins:yyL) (s:Shared) (σ:St) (u:Value) (E:Value->Shared->Prop) (Q:Value->Shared->Prop),Inv X pins σ H s->zap v u->(∀ z t s',z.length<=n->Inv X pins σ H s'->Q (.str z t) s')->wpAny (model X.prog X.w) X.A (pyReprObj u) Q E s
def tFR (X:Cx) (n:Nat) (te:TE):TE:=fun σ H Q=>te σ H fun v H1=>Rep X v H1 n/\∀ z,Q (.str z) H1
def zkl (c:Str):(Str.empty ++ c).length=c.length:=by
 rw [strLen_append]
 show 0+c.length=c.length
 omega
end
abbrev Cx.mark (X:Cx) (e:Value):Cx:={ X with A:=X.A.mark (some e),calm:=false,xe:=fun _ _=>False }
def zpv:Option Value->List Addr
 | some (.ref b)=>[b]
 | _=>[]
def zls {o:Option Value} {b:Addr}:b ∈ zpv o↔o=some (.ref b):=by
 cases o with
 | none=>simp [zpv]
 | some v=>cases v <;> simp [zpv,eq_comm]
section
def Inv.mark (I:Inv X pins σ H s) (e:Value):Inv (X.mark e) pins σ H s :=
 ⟨⟨I.ok.mod,I.ok.kind,I.ok.glob,I.ok.blt,I.ok.above,I.ok.inj,I.ok.has,I.ok.cab,fun z=>(nomatch (show false=true from z)),I.ok.frames,I.ok.stk,I.ok.exf,I.ok.bs,I.ok.bsz,I.ok.noex,I.ok.exfs,I.ok.funs,I.ok.frf,I.ok.tab⟩,I.os,I.bare,I.base,I.loc,I.cell,I.free,I.freeC,I.pin,I.hok,I.len⟩
def Inv.unmark {e:Value} (ok:X.Ok) (I:Inv (X.mark e) pins σ H s):Inv X pins σ H s :=
 ⟨ok,I.os,I.bare,I.base,I.loc,I.cell,I.free,I.freeC,I.pin,I.hok,I.len⟩
def zrr {M:Model} {A:Around} {E:Value->Shared->Prop} {i:Nat} {x:Str} {Q:Bool->Shared->Prop} (I:Inv X pins σ H s) (hN:X.N.Nodup) (hi:X.N[i]?=some x) (hk:X.env.scope.names.lookup x=some .local) {v:V} (hv:σ[i]?=some (some v))
  (h:∀ s',Inv X pins (σ.set i none) H s'->Q true s'):wpAny M A (nsDel X.env.locals x) Q E s:=by
 obtain ⟨m,hn,hl⟩:=id I.loc; have cne:=I.cne; obtain ⟨oL,_,_,hoL,_⟩:=id hn
 have hm:(m x).isSome=true:=by
  obtain ⟨u,r,q⟩:=hl i x v hi hv (.inl hk)
  rcases q with ⟨_,e⟩ | ⟨k,_⟩
  ·rw [e]; rfl
  ·have k':X.env.scope.names.lookup x=some .cell\/X.env.scope.names.lookup x=some .free:=k
   rw [hk] at k'
   rcases k' with z | z <;> cases z
 refine wpAny_nsDel_keeps hn fun h' v' hn' hs=>?_
 rw [hm]
 have tracked:HOk X.prog X.w H h':=fun b ob e=>by
  refine (I.hok b ob e).stay (fun c w' hc q=>(hs.2 c ?_).trans q) (fun _ q=>q) fun _ _ q=>q
  rintro rfl
  rcases hc with rfl | hc
  ·rw [I.free] at e; cases e
  ·rw [I.free] at hc; cases hc
 refine h _ ⟨I.ok,I.os,I.bare,⟨fun b o e n hb hx=>?_,fun b o e n hb hx=>?_,I.base.free,fun b o e hx=>?_,I.base.tups,I.base.frzs,I.base.tbls⟩,⟨_,hn',fun j y w' e1 e2 e3=>?_⟩,fun y c e=>?_,I.free,I.freeC,fun p hp=>?_,tracked,by simpa using I.len⟩
 ·exact (hs.2 b (yW (yT (yJ e) I.ok.above))).trans (I.base.keep b o e n hb hx)
 ·obtain ⟨sl,e1⟩:=I.base.slot b o e n hb hx
  exact ⟨sl,(hs.2 b (yW (yT (yJ e) I.ok.above))).trans e1⟩
 ·obtain ⟨o',e1⟩:=I.base.there b o e hx
  exact ⟨o',(hs.2 b (yW (yT (yJ e) I.ok.above))).trans e1⟩
 ·by_cases hj:j=i
  ·subst hj
   rw [yr (yE.mp hv).1] at e2; cases e2
  ·rw [yZ (Ne.symm hj)] at e2
   obtain ⟨u',r',q⟩:=hl j y w' e1 e2 e3; refine ⟨u',r',?_⟩
   rcases q with ⟨k,e⟩ | ⟨k,c,e,z⟩
   ·refine .inl ⟨k,?_⟩
    have:y≠x:=fun e=>hj (zfa hN e1 (e ▸ hi))
    simp [this,e]
   ·exact .inr ⟨k,c,e,z.sameBut hs (cne y c e)⟩
 ·obtain ⟨w',z⟩:=I.cell y c e
  exact ⟨w',z.sameBut hs (cne y c e)⟩
 ·obtain ⟨e,n,ne,nf,d⟩:=I.pin p hp
  exact ⟨(hs.2 p.1 ne).trans e,n,ne,nf,d⟩
def zfj {M:Model} {A:Around} {E:Value->Shared->Prop} {i:Nat} {x:Str} {pos:Pos} {Q:Unit->Shared->Prop} (I:Inv X pins σ H s) (hN:X.N.Nodup) (hi:X.N[i]?=some x) (hk:X.env.scope.names.lookup x=some .local)
  (h:∀ s',Inv X pins (σ.set i none) H s'->Q () s'):wpAny M A (do bindName X.env x .none; unbindBehindTheSuite X.env x pos) Q E s:=by
 have hiσ:i<σ.length:=by rw [I.len]; exact (yE.mp hi).1
 refine yA (wpAny_bindName (zcK (v:=.non) I hN hi (.inl hk) rfl (fun s1 I1=>?_) (.inr hk)))
 unfold unbindBehindTheSuite; refine wpAny_onRaise ?_; unfold unbindName; refine yA (wpAny_point (yA ?_))
 have hp:(X.env.scope.kind == .class || (X.env.scope.kind == .module && X.env.locals != X.env.globals))=false:=by rw [I.ok.kind]; rfl
 have hl:X.env.kindOf x=some .local:=hk
 unfold deleteName; simp only [hl,hp]
 rw [yH (by decide)]
 refine yA (zrr (v:=.non) I1 hN hi hk (yr hiσ) fun s2 I2=>?_)
 simp only [Bool.not_true,YL,if_false]; rw [List.set_set] at I2; exact yF (wpAny_point (h s2 I2))
def zpJ {P:Program} {w:World} {H:Hp} {h:Heap} {a C:Addr} {dd:Option Addr} (x:XAt a C dd h):zal P w H h a (.ext (XAt a C dd)):=by
 refine ⟨x,?_,fun h1 h2 ⟨t,sl,e⟩ k=>⟨t,sl,k _ e⟩⟩
 obtain ⟨t,sl,e⟩:=x; exact ⟨_,e⟩
def Inv.track {a:Addr} {φ:Heap->Prop} (I:Inv X pins σ H s) (f:zdq X pins H a) (new:zal X.prog X.w (upd H a (.ext φ)) s.heap a (.ext φ)):Inv X pins σ (upd H a (.ext φ)) s:=by
 obtain ⟨f0,f1,f2,f3,f4,f5⟩:=f
 have sm:∀ b u,H b=some u->upd H a (.ext φ) b=some u:=fun b u e=>by rw [zq (zw e f0)]; exact e
 refine ⟨I.ok,I.os,I.bare,⟨I.base.keep,I.base.slot,fun b o e n hx=>?_,I.base.there,fun b xs e=>sm _ _ (I.base.tups b xs e),fun b o u e=>sm _ _ (I.base.frzs b o u e),fun b ps e=>?_⟩,I.loc,I.cell,?_,fun x c e=>?_,fun p hp=>?_,fun b u e=>?_,I.len⟩
 ·have:b≠a:=fun z=>by
   rcases f3 with y | y
   ·exact hx (by rw [z]; exact y)
   ·exact yP (yT (yJ e) (by rw [z]; exact y)) (YW _)
  rw [zq this]; exact I.base.free b o e n hx
 ·obtain ⟨more,z⟩:=I.base.tbls b ps e
  exact ⟨more,sm _ _ z⟩
 ·rw [zq (Ne.symm f1)]; exact I.free
 ·rw [zq (f4 x c e)]; exact I.freeC x c e
 ·obtain ⟨e,n,ne,nf,d⟩:=I.pin p hp
  exact ⟨e,by rw [zq (f5 p hp)]; exact n,ne,nf,d⟩
 ·by_cases z:b=a
  ·subst z
   rw [zn] at e; cases e; exact new
  ·rw [zq z] at e
   exact (I.hok b u e).stay (fun _ _ _ q=>q) (fun c q=>sm _ _ q) fun c xs q=>sm _ _ q
def znV {E:Value->Shared->Prop} {e C:Addr} {dd:Option Addr} {Q:Unit->Shared->Prop} (hst:X.stack=X.env :: X.outer) (hf:X.env.frame=some X.env.locals) (I:Inv X pins σ H s) (F:FlyI X pins H s.heap e C dd)
  (q:∀ s' T vs,Inv X pins σ H s'->zdq X pins H e->zdq X pins H T->T≠e->X1.Ex s'.heap e (.ref C) dd vs->vs[1]?=some (.ref T)->X1.Ent s'.heap T .none->Q () s') :
  wpAny (model X.prog X.w) X.A (noteFrame (.ref e) X.env) (fun _ s2=>wpAny (model X.prog X.w) X.A (setFlight (.ref e) none) Q E s2) E s:=by
 obtain ⟨vs,hx,hs,hd⟩:=F.ex
 have hR:∀ b,(b=e\/vs[1]?=some (.ref b))->zdq X pins H b:=fun b hb=>by
  rcases hb with rfl | hb
  ·exact F.fe
  ·rcases hd with ⟨h,_⟩ | ⟨T,h1,_,h3,_⟩
   ·rw [hb] at h; cases h
   ·rw [hb] at h1
    cases h1; exact h3
 have hd':X1.Hd s.heap e vs .none (fun b=>b=e\/vs[1]?=some (.ref b)):=by
  rcases hd with h | ⟨T,h1,h2,h3,h4⟩
  ·exact .inl h
  ·exact .inr ⟨T,h1,h2,.inr h1,h4⟩
 have hstk:s.heap.FunFrames X.base (X.env :: X.outer):=by rw [<- hst]; exact I.stack
 have hfr:X.A.frames=some (X.env :: X.outer):=by rw [<- hst]; exact I.ok.frames
 refine X1.note (R:=fun b=>b=e\/vs[1]?=some (.ref b)) hfr hstk hf hx hs hd' (.inl rfl) fun h' T vs' x1 x2 x3 x4 x5 x6 x7=>?_
 -- the state behind it
 have fs:∀ b,b ∈ (X.env :: X.outer).filterMap (·.frame)↔b ∈ frs X.stack:=fun b=>by rw [hst]; exact Iff.rfl
 have hfrN:∀ b ∈ frs X.stack,H b=none:=I.stkFree
 have hch:∀ b,b ∈ e :: zpv vs[1]?↔(b=e\/vs[1]?=some (.ref b)):=fun b=>by rw [yQ,zls]
 have un:Un (frs X.stack) (e :: zpv vs[1]?) H H s.heap h':=by
  refine ⟨fun b o eb n hb hx=>x7.keep b o eb (fun z=>hx ((hch b).mpr z)) (fun z=>hb ((fs b).mp z)),fun b o eb n hb hx=>x7.slot b o eb (fun z=>hx ((hch b).mpr z)) ((fs b).mpr hb),fun b o eb n hx=>n,fun b o eb hx=>?_,fun _ _ z=>z,fun _ _ _ z=>z,fun b ps z=>⟨#[],by rw [z]; simp⟩⟩
  by_cases z:b ∈ frs X.stack
  ·obtain ⟨sl,e2⟩:=x7.slot b o eb (fun z=>hx ((hch b).mpr z)) ((fs b).mpr z)
   exact ⟨_,e2⟩
  ·exact ⟨o,x7.keep b o eb (fun z=>hx ((hch b).mpr z)) fun y=>z ((fs b).mp y)⟩
 have hok:HOk X.prog X.w H h':=znw I.hok x7 (fun b hb=>(hR b hb).1) (fun b hb=>hfrN b ((fs b).mp hb))
 have I1:Inv X pins σ H { s with heap:=h' }:=I.call (g':=s.gens) (t':=s.toks) (d':=s.drawn) (ch:=e :: zpv vs[1]?) un hok I.bare fun b hb=>by
  obtain ⟨_,y1,_,y3,y4,y5⟩:=hR b ((hch b).mp hb); exact ⟨y3,y1,y4,y5⟩
 have hT:H T=none:=I.hok.fresh x5
 have fT:zdq X pins H T:=I.fpOk x5 hT
 refine X1.flight (s:={ s with heap:=h' }) (R:=fun _=>True) x1 x3 x4 x6 True.intro fun h2 y1 y2 y3 y4=>?_
 obtain ⟨g0,g1,g2,g3,g4,g5⟩:=id fT
 exact q _ T vs' (I1.turned (t':=s.toks) (fun b o hb eb=>by rw [y3 b hb]; exact eb) g0 g1 g3 g4 g5) F.fe fT x4 y1 x3 y2
end
section
def zub (K:W.Frag) (M:Addr) (i:Nat) (tb:TSx) (ts:TS):TSx:=fun D _ σ H=>tb D (fun σ1 c dd H1=>∃ C,c=.ref C/\W.exmOne K c (.ref M)=some true/\∀ ae,H1 ae=none ->
 ts { nx:=fun σ2 H2=>D.nx (σ2.set i none) H2,rt:=D.rt,bk:=fun σ2 H2=>D.bk (σ2.set i none) H2,ct:=fun σ2 H2=>D.ct (σ2.set i none) H2 } (σ1.set i (some (.ref ae))) (upd H1 ae (.ext (XAt ae C dd)))) σ H
def zpE {M:Addr} {i:Nat} {x n:Str} {body suite:List Stmt} {b0:Stmt} {tb:TSx} {ts:TS} {p hpos pos:Pos} (hst:X.stack=X.env :: X.outer) (hf:X.env.frame=some X.env.locals) (hb:zh9 X body tb) (hs:∀ e,PSs (X.mark e) (b0 :: suite) ts) (hg:Gl X x) (hm:X.mg x=some (.ref M)) (hN:X.N.Nodup) (hi:X.N[i]?=some n)
  (hk:X.env.scope.names.lookup n=some .local) (hdb:yyD x:=by decide):PSx X (.Try body [.ExceptHandler (some (.Name x p)) (some n) (b0 :: suite) hpos] [] [] pos) (zub X.K M i tb ts):=by
 intro pins s σ H D E I h
 refine wpAny_Try_except (yf (hb pins s σ H D _ I h) (fun f s1 q=>?_) fun v s1 q=>?_)
 ·cases f with
  | next=>exact Yy q
  | ret v=>exact q
  | brk=>exact q
  | cont=>exact q
 ·obtain ⟨ae,C,dd,σ1,H1,rfl,I1,F,C',hC,hx,q⟩:=q
  obtain rfl:C=C':=Value.ref.inj hC
  refine znV hst hf I1 F fun s2 T vs I2 fe fT hne x1 x2 x3=>?_
  refine wpAny_handleBy_cons (codeAny_handlers_test ?_) (by intro q; cases q)
  refine zb8 (X:=X.mark (.ref ae)) (I2.mark (.ref ae)) hg hm ?_ hdb; obtain ⟨sl,x1'⟩:=id x1
  have LT:W.Looks (model X.prog X.w) s2.heap (typeOf (.ref ae)) (.ref C):=(W.Looks.ld x1').andThen .now
  refine (W.exm_one I2.kIn LT hx).at ?_
  show codeAny _ _ _ _ _
  refine codeAny_handlers_suite_as ?_
  refine X1.flight (R:=fun _=>True) x1 x2 hne x3 True.intro fun h3 y1 y2 y3 y4=>?_
  obtain ⟨g0,g1,g2,g3,g4,g5⟩:=id fT
  have I3:Inv X pins σ1 H1 { s2 with heap:=h3 }:=I2.turned (t':=s2.toks) (fun b o hb eb=>by rw [y3 b hb]; exact eb) g0 g1 g3 g4 g5
  obtain ⟨sl3,y1'⟩:=id y1
  have I4:Inv X pins σ1 (upd H1 ae (.ext (XAt ae C dd))) { s2 with heap:=h3 }:=I3.track fe (zpJ ⟨_,sl3,y1'⟩)
  refine zcK (X:=X) (v:=.ref ae) I4 hN hi (.inl hk) rfl (fun s5 I5=>?_) (.inr hk)
  refine yf (hs (.ref ae) pins s5 _ _ _ (I5.mark (.ref ae)) (q ae fe.1)) (fun f s6 q6=>?_) fun _ _ z=>False.elim z
  cases f with
  | next =>
   obtain ⟨σ6,H6,I6,q6⟩:=q6
   exact zfj (I6.unmark I.ok) hN hi hk fun s7 I7=>⟨_,_,I7,q6⟩
  | brk =>
   obtain ⟨σ6,H6,I6,q6⟩:=q6
   exact zfj (I6.unmark I.ok) hN hi hk fun s7 I7=>⟨_,_,I7,q6⟩
  | cont =>
   obtain ⟨σ6,H6,I6,q6⟩:=q6
   exact zfj (I6.unmark I.ok) hN hi hk fun s7 I7=>⟨_,_,I7,q6⟩
  | ret u =>
   obtain ⟨v6,σ6,H6,I6,r6,q6⟩:=q6
   exact zfj (I6.unmark I.ok) hN hi hk fun s7 I7=>⟨_,_,_,I7,r6,q6⟩
end
end L2
namespace PL
open PySem L2
abbrev XW:=Addr->List (Str × D)->Sts->Prop
abbrev zpq:=Sts->(D->Sts->Prop)->XW->Prop
abbrev zhe:=Ends'->XW->Sts->Prop
def zmR (K:W.Frag) (n:Nat) (W:Wd) (Hi:Hp) (E:XW) (E2:XS):Prop:=∀ σ' H' Hi' Γ' C dd fs,zU Hi Hi'->Good K n W Hi' Γ' σ' H'->znG K Hi' dd fs->E C fs Γ'->E2 σ' (.ref C) dd H'
def zmR.mono {K:W.Frag} {n:Nat} {W:Wd} {Hi Hi':Hp} {E:XW} {E2:XS} (l:zmR K n W Hi E E2) (s:zU Hi Hi'):zmR K n W Hi' E E2:=fun σ' H' Hi2 Γ' C dd fs e=>l σ' H' Hi2 Γ' C dd fs (s.trans e)
def zuf (K:W.Frag) (n:Nat) (t:zpq):TEx:=fun σ H Q2 E2=>∃ W Hi Γ Q E,Good K n W Hi Γ σ H/\t Γ Q E/\(∀ v H',zrE K n W Hi σ Q v H'->Q2 v H')/\∀ H' Hi' Γ' C dd fs,zU Hi Hi'->Good K n W Hi' Γ' σ H'->znG K Hi' dd fs->E C fs Γ'->E2 (.ref C) dd H'
def ztL (K:W.Frag) (n:Nat) (t:zhe):TSx:=fun N2 E2 σ H=>∃ W Hi Γ N E,Good K n W Hi Γ σ H/\t N E Γ/\Lifts K n W Hi N N2/\zmR K n W Hi E E2
structure PEx' (X:Cx) (e:Expr) (t:zpq):Prop where
 h:PEx X e (zuf X.K X.N.length t)
structure PSx' (X:Cx) (s:Stmt) (t:zhe):Prop where
 h:PSx X s (ztL X.K X.N.length t)
structure PSsx' (X:Cx) (s:List Stmt) (t:zhe):Prop where
 h:zh9 X s (ztL X.K X.N.length t)
section
variable {pos:Pos} {e:Expr} {te:zpq} {st:Stmt} {zbb:List Stmt} {t u:zhe}
def PEx.weak {t t2:TEx} (h:PEx X e t) (w:∀ σ H Q E,t2 σ H Q E->t σ H Q E):PEx X e t2:=fun pins s σ H Q E I q=>h pins s σ H Q E I (w _ _ _ _ q)
def PSx.weak {t t2:TSx} (h:PSx X st t) (w:∀ N E σ H,t2 N E σ H->t N E σ H):PSx X st t2:=fun pins s σ H N E I q=>h pins s σ H N E I (w _ _ _ _ q)
def zh9.weak {sts:List Stmt} {t t2:TSx} (h:zh9 X sts t) (w:∀ N E σ H,t2 N E σ H->t N E σ H):zh9 X sts t2:=fun pins s σ H N E I q=>h pins s σ H N E I (w _ _ _ _ q)
def xS (t:TS'):zhe:=fun N _ Γ=>t N Γ
def PS'.x {t:TS'} (h:PS' X.nox st t):PSx' X st (xS t):=by
 refine ⟨PSx.weak (PS.x (X:=X) h.h) ?_⟩
 rintro N2 E2 σ H ⟨W,Hi,Γ,N,E,g,q,l,_⟩
 exact ⟨W,Hi,Γ,N,g,q,l⟩
def zhf:PSsx' X [] (xS zT):=by
 refine ⟨zh9.weak znM ?_⟩
 rintro N2 E2 σ H ⟨W,Hi,Γ,N,E,g,q,l,_⟩
 exact l.nx σ H Hi Γ (zU.refl _) g q
def zk8 (t u:zhe):zhe:=fun N E Γ=>t { N with nx:=u N E } E Γ
def zbc (h1:PSx' X st t) (h2:PSsx' X zbb u):PSsx' X (st :: zbb) (zk8 t u):=by
 refine ⟨zh9.weak (zk3 h1.h h2.h) ?_⟩
 rintro N2 E2 σ H ⟨W,Hi,Γ,N,E,g,q,l,x⟩
 refine ⟨W,Hi,Γ,_,E,g,q,⟨?_,l.bk,l.ct,l.rt⟩,x⟩; intro σ1 H1 Hi1 Γ1 s1 g1 q1; exact ⟨W,Hi1,Γ1,N,E,g1,q1,l.mono s1,x.mono s1⟩
def zcd (h1:PSx' X st t):PSsx' X [st] t:=⟨znL h1.h⟩
def znQ (c:TT') (t u:zhe):zhe:=fun N E Γ=>c Γ fun b Γ1=>if b=true then t N E Γ1 else u N E Γ1
def zmV {c:Expr} {sa sb:List Stmt} {tc:TT'} (hc:PT' X.nox c tc) (ha:PSsx' X sa t) (hb:PSsx' X sb u):PSx' X (.If c sa sb pos) (znQ tc t u):=by
 refine ⟨PSx.weak (zsf (X:=X) hc.h ha.h hb.h) ?_⟩
 rintro N2 E2 σ H ⟨W,Hi,Γ,N,E,g,q,l,x⟩
 refine ⟨W,Hi,Γ,_,g,q,?_⟩; intro k H1 Hi1 Γ1 s1 g1 q1
 cases k with
 | true=>exact ⟨W,Hi1,Γ1,N,E,g1,q1,l.mono s1,x.mono s1⟩
 | false=>exact ⟨W,Hi1,Γ1,N,E,g1,q1,l.mono s1,x.mono s1⟩
def zmW (te:zpq):zhe:=fun N E Γ=>te Γ (fun _ Γ1=>N.nx Γ1) E
def zk5 (he:PEx' X e te) (hs:swapsWith e none pos.line X.env=pure false:=by rfl):PSx' X (.Expr e pos) (zmW te):=by
 refine ⟨PSx.weak (znN he.h hs) ?_⟩
 rintro N2 E2 σ H ⟨W,Hi,Γ,N,E,g,q,l,x⟩
 refine ⟨W,Hi,Γ,_,E,g,q,?_,fun H1 Hi1 Γ1 C dd fs s1 g1 xd q1=>x σ H1 Hi1 Γ1 C dd fs s1 g1 xd q1⟩
 rintro v H1 ⟨Hi1,d,Γ1,s1,g1,den,q1⟩
 exact l.nx σ H1 Hi1 Γ1 s1 g1 q1
def znR (te:zpq) (i:Nat):zhe:=fun N E Γ=>te Γ (fun d Γ1=>N.nx (Γ1.set i (.val d))) E
def zi1 (i:Nat) {x:Str} {pos':Pos} (hN:X.N.Nodup) (he:PEx' X e te) (hi:X.N[i]?=some x:=by rfl) (hx:Loc X.env.scope x:=by first | exact Or.inl rfl | exact Yr rfl) (hs:swapsWith e (some (.Name x pos')) pos.line X.env=pure false:=by rfl)
  (hf:X.fn x=true\/X.env.scope.names.lookup x=some .local:=by first | exact .inl rfl | exact .inr rfl | assumption):PSx' X (.Assign [.Name x pos'] e pos) (znR te i):=by
 refine ⟨PSx.weak (zpF (i:=i) hN hi hx he.h hs hf) ?_⟩
 rintro N2 E2 σ H ⟨W,Hi,Γ,N,E,g,q,l,x⟩
 refine ⟨W,Hi,Γ,_,E,g,q,?_,fun H1 Hi1 Γ1 C dd fs s1 g1 xd q1=>x σ H1 Hi1 Γ1 C dd fs s1 g1 xd q1⟩
 rintro v H1 ⟨Hi1,d,Γ1,s1,g1,den,q1⟩
 exact l.nx _ H1 Hi1 _ s1 (g1.set (yE.mp hi).1 den) q1
abbrev ziU:=List D->(Res->Prop)->(Addr->List (Str × D)->Prop)->Prop
def zsA (K:W.Frag) (sp:ziU):Sp:=fun vs H Q2 E2=>∃ Hi ds Q E,Fz Hi H/\zaV K Hi vs ds/\sp ds Q E/\(∀ Hi' H' v r,Ext Hi H Hi' H'->zpr K H Hi' H' v r->Q r->Q2 v H')/\∀ Hi' H' C dd fs,Ext Hi H Hi' H'->znG K Hi' dd fs->E C fs->E2 (.ref C) dd H'
def zhg (sp:ziU) (t:TA'):zpq:=fun Γ Q E=>t Γ fun ds Γ1=>sp ds (fun r=>Q r.toD Γ1) fun C fs=>E C fs Γ1
end
structure FnX (P:Program) (w:World) (K:W.Frag) (mg:Str->Option Value) (base:Heap) (k:Nat) (x:Str) (ps:List Str) (sp:ziU):Prop where
 ex:∃ f fd,FnOk P w K mg base (CX1 P w) k f fd ps (zsA K sp)/\zbX K fd ps []/\W.keepIn K (.ref f)=true/\mg x=some (.ref f)/\∃ oc od osl,K.lookup f=some ⟨oc,od,.func fd,osl⟩
section
variable {k:Nat} {x:Str} {ps:List Str} {sp:ziU} {p pos:Pos} {e:Expr} {es:List Expr} {t:TA'}
def zk7 (h:FnX X.prog X.w X.K X.mg X.base k x ps sp) (hr:Room k X.A) (ha:PA' X.nox (e :: es) t) (hg:Gl X x:=by rfl) (hdb:yyD x:=by decide) :
  PEx' X (.Call (.Name x p) (e :: es) [] pos) (zhg sp t):=by
 obtain ⟨f,fd,F,b,kp,m,_⟩:=h.ex; refine ⟨PEx.weak (znP F hr hg m kp b ha.pa hdb (zZ (zD ha.pl).1) (zaa (zD ha.pl).2)) ?_⟩
 rintro σ H Q E ⟨W,Hi,Γ,Q',E',g,h,fin,fix⟩
 refine ⟨W,Hi,Γ,_,g,h,?_⟩; intro vs H1 Hi1 Γ1 ds s1 g1 dl q; refine ⟨Hi1,ds,_,_,g1.fz,dl,q,?_,?_⟩
 ·intro Hi2 H2 v r ex ro q2
  cases r with
  | val d=>exact fin v H2 ⟨Hi2,d,Γ1,s1.trans ex.hi,g1.ext ex,ro,q2⟩
  | own o =>
   obtain ⟨a,rfl,h1,h2,h3⟩:=ro; have nw:=za8 g1 ex h1 h2 h3; obtain ⟨u,hu⟩:=h3.there; exact fin _ H2 ⟨upd Hi2 a u,_,Γ1,s1.trans (ex.hi.trans (zH h1 u)),(g1.ext ex).freezeA nw.hi nw.h0 nw.ne hu,h3.den h1 hu,q2⟩
  | bk d o =>
   obtain ⟨b',dv,hol,h1,h2,h3⟩:=ro; have nw:=za8 g1 ex h1 h2 h3; obtain ⟨u,hu⟩:=h3.there; exact fin _ H2 ⟨upd Hi2 b' u,_,Γ1,s1.trans (ex.hi.trans (zH h1 u)),(g1.ext ex).freezeA nw.hi nw.h0 nw.ne hu,hol b' _ v o (h3.den h1 hu) (dv.mono (zH h1 u)),q2⟩
 ·intro Hi2 H2 C dd fs ex xd q2
  exact fix H2 Hi2 Γ1 C dd fs (s1.trans ex.hi) (g1.ext ex) xd q2
end
section
variable {K:PySem.W.Frag}
def zbA {N ps:List Str} {vs:List V} {ds:List D} {Hi H:Hp} (hlen:ds.length=ps.length) (hpl:ps.length<=N.length) (sb:Fz Hi H) (dl:zaV K Hi vs ds):Good K N.length ⟨H,Hi,[]⟩ Hi (zaG N ds) (L2.start N vs) H:=by
 have hvl:=zj dl
 refine ⟨?_,sb,fun b o e _=>e,fun b o e=>⟨o,e⟩,fun b o e=>rfl,fun j d e=>?_,fun j o e=>?_,fun j k o o' b e=>?_,fun j d b xs e=>?_⟩
 ·unfold L2.start
  rw [yg,yG,List.length_replicate]; omega
 all_goals
  unfold zaG at e
  by_cases hj:j<ds.length
  ·rw [YX (by simpa using hj),yK,yB hj] at e
   try cases e
   try
    obtain ⟨v,e1,e2⟩:=zab dl (yB hj); refine ⟨v,?_,e2⟩; unfold L2.start
    rw [YX (by rw [yG]; omega),yK,e1]
    rfl
  ·rw [List.getElem?_append_right (by simpa using hj),List.getElem?_replicate] at e
   split at e <;> cases e
def Df.okx {k:Nat} {x:Str} {ps:List Str} {sp:ziU} {st:Stmt} {N:List Str} (d:Df K mg x st ps) (S:FnScope N ps (zm st)) (len:∀ ds Q E,sp ds Q E->ds.length=ps.length)
  (hbody:∀ (f:Addr) (cdv:Value) (A:Around) (outer:List Env) (s:Shared) (H:Hp) (E:XK),Room k (A.deeper (PyProof.Rows.envOfC x (zm st) s.heap.objs.size f cdv))->∀ ds Q E',sp ds Q E' ->
   ∃ t,PSsx' (zdj (CX1 P w) P w K mg base N x (zm st) f cdv A outer s H E) (zaw st) t/\t { nx:=fun _=>Q (.val .non),rt:=fun r _=>Q r } (fun C fs _=>E' C fs) (zaG N ds)):FnX P w K mg base (k+1) x ps sp:=by
 obtain ⟨f,fd,F,b,m⟩:=d.ex; obtain ⟨oc,od,kV,doc,pm,an,cdv,ct,osl,e,lk,_⟩:=id F.ex; refine ⟨f,fd,?_,b,F.kp,m,oc,od,osl,lk⟩
 refine F.okx S (fun vs H Q E h=>?_) fun cdv A outer s H vs Q E hr h=>?_
 ·obtain ⟨Hi,ds,Q',E',_,dl,h,_⟩:=h
  rw [zj dl]; exact len ds Q' E' h
 obtain ⟨Hi,ds,Q',E',sb,dl,h,fin,fix⟩:=h; obtain ⟨t,h1,h2⟩:=hbody f cdv A outer s H E hr ds Q' E' h
 have hlen:ds.length=ps.length:=len ds Q' E' h
 have hpl:ps.length<=N.length:=by have:=ym List.length S.pre; rw [YB] at this; omega
 refine ⟨_,h1.h,⟨H,Hi,[]⟩,Hi,zaG N ds,_,_,zbA hlen hpl sb dl,h2,?_,?_⟩
 ·refine ⟨fun σ' H' Hi' Γ' s1 g1 q=>?_,fun _ _ _ _ _ _ q=>q.elim,fun _ _ _ _ _ _ q=>q.elim,fun v σ' H' Hi' Γ' r s1 g1 ro q=>?_⟩
  ·exact fin Hi' H' .non (.val .non) ⟨s1,fun b o e=>g1.keep b o e (by simp),g1.fz,fun b o e=>g1.fro b o e⟩ .non q
  ·exact fin Hi' H' v r ⟨s1,fun b o e=>g1.keep b o e (by simp),g1.fz,fun b o e=>g1.fro b o e⟩ ro q
 ·intro σ' H' Hi' Γ' C dd fs s1 g1 xd q
  exact fix Hi' H' C dd fs ⟨s1,fun b o e=>g1.keep b o e (by simp),g1.fz,fun b o e=>g1.fro b o e⟩ xd q
end
structure XcI (P:Program) (w:World) (K:W.Frag) (mg:Str->Option Value) (base:Heap) (k:Nat) (x:Str) (C:Addr) (fld:Str) (ok:V->Hp->Prop):Prop where
 ex:∃ N f bm fd ps,XCl K C N bm/\XIn K N f/\FnOk P w K mg base CX0 k f fd ps (zrK C fld ok)/\zbX K fd ps []/\mg x=some (.ref C)
section
variable {k:Nat} {x fld:Str} {C:Addr} {ok:V->Hp->Prop} {okD:D->Prop} {p cpos pos:Pos} {e:Expr} {ta:TA'}
def zgB (C:Addr) (fld:Str) (okD:D->Prop) (ta:TA'):zhe:=fun _ E Γ=>ta Γ fun ds Γ1=>∃ d,ds=[d]/\okD d/\E C [(fld,d)] Γ1
def zfx (okD:D->Prop) (T:XcI X.prog X.w X.K X.mg X.base k x C fld ok) (hok:∀ Hi H v d a o,Fz Hi H->Den X.K Hi v d->okD d->H a=none->ok v (upd H a o)) (hr:Room (k+1) X.A) (ha:PA' X.nox [e] ta) (hc:X.calm=true:=by rfl) (hg:Gl X x:=by rfl) (hdb:yyD x:=by decide) :
  PSx' X (.Raise (some (.Call (.Name x p) [e] [] cpos)) none pos) (zgB C fld okD ta):=by
 obtain ⟨N,f,bm,fd,ps,h1,h2,F,b,m⟩:=T.ex; refine ⟨PSx.weak (zk4 hc h1 h2 F hr b hg m ha.pa (zZ (zD ha.pl).1) hdb) ?_⟩
 rintro N2 E2 σ H ⟨W,Hi,Γ,N',E,g,q,l,xl⟩
 refine ⟨W,Hi,Γ,_,g,q,?_⟩
 rintro vs H1 Hi1 Γ1 ds s1 g1 dl ⟨d,rfl,qo,q1⟩
 obtain ⟨v,rfl,den⟩:=zcX dl
 refine ⟨v,rfl,fun a o ha=>hok Hi1 H1 v d a o g1.fz den qo ha,fun dx hdx=>?_⟩
 have ex:=Ext.new g1.fz hdx (.xd [(fld,v)]); exact xl σ _ _ Γ1 C (some dx) [(fld,d)] (s1.trans ex.hi) (g1.ext ex) (.inr ⟨dx,_,rfl,zn,.cons ⟨rfl,den.mono ex.hi⟩ .nil⟩) q1
end
def Good.unset {K:W.Frag} {n:Nat} {W:Wd} {Hi H:Hp} {Γ:Sts} {σ:St} (g:Good K n W Hi Γ σ H) {i:Nat} (hi:i<n):Good K n W Hi (Γ.set i .emp) (σ.set i none) H:=by
 have ad:∀ j,j≠i->adr n W (σ.set i none) j=adr n W σ j:=fun j hj=>by
  unfold adr
  rw [yZ (fun z=>hj z.symm)]
 have inv:∀ (j:Nat) (s:Slot),(Γ.set i .emp)[j]?=some s->(j=i/\s=.emp)\/(j≠i/\Γ[j]?=some s):=fun j s e=>by
  by_cases hj:j=i
  ·subst hj
   refine .inl ⟨rfl,?_⟩; rw [List.getElem?_set] at e; simp only [if_true] at e; split at e
   ·exact (Option.some.inj e).symm
   ·cases e
  ·rw [yZ (fun z=>hj z.symm)] at e
   exact .inr ⟨hj,e⟩
 refine ⟨by rw [List.length_set]; exact g.len,g.fz,g.keep,g.there,g.fro,fun j d' e=>?_,fun j o e=>?_,fun j k o o' a e1 e2 h1 h2=>?_,fun j d' b xs e=>?_⟩
 ·rcases inv j _ e with ⟨rfl,z⟩ | ⟨hj,z⟩
  ·cases z
  ·obtain ⟨w,h1,h2⟩:=g.val j d' z
   exact ⟨w,by rw [yZ (fun z=>hj z.symm)]; exact h1,h2⟩
 ·rcases inv j _ e with ⟨rfl,z⟩ | ⟨hj,z⟩
  ·cases z
  ·obtain ⟨a,h1,h2⟩:=g.own j o z
   exact ⟨a,by rw [ad j hj]; exact h1,h2⟩
 ·rcases inv j _ e1 with ⟨rfl,z⟩ | ⟨hj,z⟩
  ·cases z
  ·rcases inv k _ e2 with ⟨rfl,y⟩ | ⟨hk,y⟩
   ·cases y
   ·exact g.apart j k o o' a z y (by rw [<- ad j hj]; exact h1) (by rw [<- ad k hk]; exact h2)
 ·rcases inv j _ e with ⟨rfl,z⟩ | ⟨hj,z⟩
  ·cases z
  ·obtain ⟨⟨w,w1,w2⟩,h1,h2,h3,h4,h5,h6⟩:=g.bk j d' b xs z
   refine ⟨⟨w,by rw [yZ (fun z=>hj z.symm)]; exact w1,w2⟩,h1,h2,h3,h4,fun k d' xs' q=>?_,fun k o' q=>?_⟩
   ·rcases inv k _ q with ⟨rfl,y⟩ | ⟨hk,y⟩
    ·cases y
    ·exact h5 k _ _ y
   ·rcases inv k _ q with ⟨rfl,y⟩ | ⟨hk,y⟩
    ·cases y
    ·rw [ad k hk]
     exact h6 k o' y
section
variable {M:Addr} {x n:Str} {body suite:List Stmt} {b0:Stmt} {tb:zhe} {ts:TS'} {p hpos pos:Pos}
def zpW (K:W.Frag) (M:Addr) (i:Nat) (tb:zhe) (ts:TS'):TS':=fun N Γ=>tb N (fun C fs Γ1=>W.exmOne K (.ref C) (.ref M)=some true /\
 ts { nx:=fun Γ2=>N.nx (Γ2.set i .emp),rt:=N.rt,bk:=fun Γ2=>N.bk (Γ2.set i .emp),ct:=fun Γ2=>N.ct (Γ2.set i .emp) } (Γ1.set i (.val (.exc C fs)))) Γ
def zoi (i:Nat) (hb:PSsx' X body tb) (hs:∀ e,PSs' (X.mark e) (b0 :: suite) ts) (hm:X.mg x=some (.ref M)) (hN:X.N.Nodup) (hst:X.stack=X.env :: X.outer:=by rfl) (hf:X.env.frame=some X.env.locals:=by rfl) (hi:X.N[i]?=some n:=by rfl) (hk:X.env.scope.names.lookup n=some .local:=by rfl) (hg:Gl X x:=by rfl)
  (hdb:yyD x:=by decide):PS' X (.Try body [.ExceptHandler (some (.Name x p)) (some n) (b0 :: suite) hpos] [] [] pos) (zpW X.K M i tb ts):=by
 have hin:i<X.N.length:=(yE.mp hi).1
 have h0:=zpE (X:=X) (p:=p) (hpos:=hpos) (pos:=pos) (ts:=sOf X.K X.N.length ts) hst hf hb.h (fun e=>(hs e).h) hg hm hN hi hk hdb
 refine ⟨fun pins s σ H N2 I q=>?_⟩
 refine yf (h0 pins s σ H N2 (fun _ _ _ _=>False) I ?_) (fun _ _ z=>z) fun v s' z=>?_
 ·obtain ⟨W,Hi,Γ,N,g,h,l⟩:=q
  refine ⟨W,Hi,Γ,N,_,g,h,l,?_⟩
  rintro σ1 H1 Hi1 Γ1 C dd fs s1 g1 xd ⟨hx,q1⟩
  refine ⟨C,rfl,hx,fun ae hae=>?_⟩
  have ex:=Ext.new g1.fz hae (.ext (XAt ae C dd)); refine ⟨W,_,_,_,(g1.ext ex).set hin (Den.mkX zn (xd.mono ex.hi)),q1,?_⟩; have l1:=l.mono (s1.trans ex.hi)
  exact ⟨fun σ2 H2 Hi2 Γ2 s2 g2 q2=>l1.nx _ H2 Hi2 _ s2 (g2.unset hin) q2,fun σ2 H2 Hi2 Γ2 s2 g2 q2=>l1.bk _ H2 Hi2 _ s2 (g2.unset hin) q2,fun σ2 H2 Hi2 Γ2 s2 g2 q2=>l1.ct _ H2 Hi2 _ s2 (g2.unset hin) q2,l1.rt⟩
 ·obtain ⟨_,_,_,_,_,_,_,_,z⟩:=z
  exact z.elim
end
end PL
namespace L2
open PySem PySem.Spec PyProof.Rows PySem.Builtin PySem.Builtin.Str
structure XFl (K:W.Frag) (C:Addr):Prop where
 get:X1.XGet K C
 hd:W.hasDictIn K C=true
section
def zsw (K:W.Frag) (ta:TE) (f:Str):TE:=fun σ H Q=>ta σ H fun x H1=>(∃ a C dx fs v,x=.ref a/\H1 a=some (.ins C dx fs)/\Cls K C/\zcu K C f/\fs.lookup f=some v/\Q v H1) \/
 ∃ a C dx fs v,x=.ref a/\H1 a=some (.ext (XAt a C (some dx)))/\H1 dx=some (.xd fs)/\XFl K C/\zcu K C f/\fs.lookup f=some v/\Q v H1
def zoy {e:Expr} {f:Str} {pos:Pos} {ta:TE} (he:PE X e ta) (hb:attributeBase e f X.env (eval e X.env)=eval e X.env):PE X (.Attribute e f pos) (zsw X.K ta f):=by
 intro pins s σ H Q I h
 refine zpo hb (thn (he pins s σ H _ I h) fun u s1 ⟨x,H1,I1,rx,q⟩=>?_)
 rcases q with ⟨a,C,dx,fs,v,rfl,ea,c,n,l,q⟩ | ⟨a,C,dx,fs,v,rfl,ea,ed,c,n,l,q⟩
 ·obtain rfl:u=Value.ref a:=rx
  exact ziI I1 ea c n l fun u' s2 I2 ru=>⟨v,H1,I2,ru,q⟩
 ·obtain rfl:u=Value.ref a:=rx
  obtain ⟨⟨vs,sl,hx⟩,_⟩:=(show zal X.prog X.w H1 s1.heap a (.ext (XAt a C (some dx))) from I1.hok a _ ea)
  obtain ⟨mA,ns,r⟩:=(show zal X.prog X.w H1 s1.heap dx (.xd fs) from I1.hok dx _ ed)
  obtain ⟨od,ho,hl⟩:=zf4 ns
  obtain ⟨w',hw,rw'⟩:=zkM.some_of (v:=v) (o:=mA f) (by rw [<- l]; exact r f)
  have J:W.InstAt s1.heap a ⟨.ref C,some dx,.fields vs,sl⟩ C (some od):=⟨hx,rfl,rfl,ho⟩
  exact X1.xget I1.kIn J c.get (W.findObj_own c.hd n rfl (by rw [hl,hw])) (zge rw') ⟨v,H1,I1.tok _,rw',q⟩
end
end L2
namespace PL
open PySem L2
section
def zm1 (K:W.Frag) (t:TE') (f:Str):TE':=fun Γ Q=>t Γ fun d Γ1=>(∃ C fs v,d=.obj C fs/\Cls K C/\zcu K C f/\fs.lookup f=some v/\Q v Γ1)\/∃ C fs v,d=.exc C fs/\XFl K C/\zcu K C f/\fs.lookup f=some v/\Q v Γ1
def zlU {e:Expr} {t:TE'} {f:Str} {pos:Pos} (he:PE' X e t) (hb:attributeBase e f X.env (eval e X.env)=eval e X.env:=by rfl):PE' X (.Attribute e f pos) (zm1 X.K t f):=by
 refine ⟨PE.weak (zoy he.h hb) ?_⟩
 rintro σ H Q ⟨W,Hi,Γ,Q',g,h,fin⟩
 refine ⟨W,Hi,Γ,_,g,h,?_⟩
 rintro x H1 ⟨Hi1,d,Γ1,s1,g1,den1,h1⟩
 rcases h1 with ⟨C,fs,v,rfl,cl,na,lk,q⟩ | ⟨C,fs,v,rfl,cl,na,lk,q⟩
 ·obtain ⟨a,dx,fvs,rfl,ha,df⟩:=den1.objI
  obtain ⟨u,hu,du⟩:=df.look lk; exact .inl ⟨a,C,dx,fvs,u,rfl,g1.sub _ _ ha,cl,na,hu,fin u H1 ⟨Hi1,v,Γ1,s1,g1,du,q⟩⟩
 ·obtain ⟨a,dd,rfl,ha,xd⟩:=den1.excI
  rcases xd with ⟨_,rfl⟩ | ⟨dx,fvs,rfl,hd,df⟩
  ·cases lk
  ·obtain ⟨u,hu,du⟩:=df.look lk
   exact .inr ⟨a,C,dx,fvs,u,rfl,g1.sub _ _ ha,g1.sub _ _ hd,cl,na,hu,fin u H1 ⟨Hi1,v,Γ1,s1,g1,du,q⟩⟩
theorem zjo {K:W.Frag} {H:Hp} {vs:List V} {ds:List D} (h:zaV K H vs ds):∀ k,zaV K H (List.replicate k vs).flatten (List.replicate k ds).flatten
 | 0=>.nil
 | k+1=>by
  rw [Ye,Ye,JB,JB]; exact zaL h (zjo h k)
end
section
variable {k:Nat} {x:Str} {ps:List Str} {sp:ziU} {p pos:Pos} {e:Expr} {es:List Expr} {t:TA'}
def zc2 (sp:ziU) (t:TA'):TE':=fun Γ Q=>t Γ fun ds Γ1=>sp ds (fun r=>Q r.toD Γ1) fun _ _=>False
def znd (h:FnX X.prog X.w X.K X.mg X.base k x ps sp) (hr:Room k X.A) (ha:PA' X.nox (e :: es) t) (hg:Gl X x:=by rfl) (hdb:yyD x:=by decide) :
  PE' X (.Call (.Name x p) (e :: es) [] pos) (zc2 sp t):=by
 have h0:=(zk7 (p:=p) (pos:=pos) h hr ha hg hdb).h
 refine ⟨fun pins s σ H Q I q=>yf (h0 pins s σ H Q (fun _ _ _=>False) I ?_) (fun _ _ z=>z) fun v s' z=>?_⟩
 ·obtain ⟨W,Hi,Γ,Q',g,h,fin⟩:=q
  exact ⟨W,Hi,Γ,Q',fun _ _ _=>False,g,h,fin,fun _ _ _ _ _ _ _ _ _ z=>z⟩
 ·obtain ⟨_,_,_,_,_,_,_,_,_,z⟩:=z
  exact z.elim
class MSpX (sp:ziU):Prop where
 mono:∀ ds (Q Q':Res->Prop) (E E':Addr->List (Str × D)->Prop),(∀ r,Q r->Q' r)->(∀ C fs,E C fs->E' C fs)->sp ds Q E->sp ds Q' E'
end
def zbq {X:Cx} (K:W.Frag) (h:X.K=K):Cal X (.builtin "isinstance") (zdJ K):=by
 subst h; exact zrz
end PL
namespace L2
open PySem PySem.Spec PyProof.Rows
def skB (es:Array DictEntry):Bool:=es.toList.all fun e=>match e.key with | .str _ _=>true | _=>false
section
variable {C M N NM f:Addr} {c cM:Value} {d dM od:Option Addr} {es eM:Array DictEntry} {ep epM:Nat} {sl slM sf:Array (Option Value)}
def zjQ (l:K.lookup N=some ⟨c,d,.dict es ep,sl⟩) (sk:skB es=true) {h:Heap} (X:K.In h):h.Ns N (nsFind es):=by
 refine ⟨_,es,ep,X _ _ l,rfl,fun e he=>?_,fun _=>rfl⟩
 have z:=Yj.mp sk e (Array.mem_toList_iff.mpr he)
 revert z
 cases hk:e.key <;> intro z <;> first | exact ⟨_,_,rfl⟩ | exact yP z (by simp)
def znf (l:K.lookup N=some ⟨c,d,.dict es ep,sl⟩) {name:Str} {v:Option Value} (e:W.nsIn K N name=some v):nsFind es name=v:=by
 unfold W.nsIn at e; rw [l] at e
 dsimp only at e
 unfold nsFind findBy; rw [<- Array.find?_toList]
 cases hf:es.toList.find? (·.key.isStr name) with
 | none =>
  rw [hf] at e
  dsimp only at e
  split at e
  ·cases e
  ·exact Option.some.inj e
 | some x =>
  rw [hf] at e; exact Option.some.inj e
def zpI {nm q nmM qM:Str} {bs bsM bmM:List Value} {hd hdM:Bool} {sn snM:List Str} {sub subM:List Value} {ab abM:Bool} {col colM:Option Bool} {dd ddM:Option Addr} {k0 k1 k2 k3 k5 j0 j1 j2 j3 j5:Option Value} {nid:String}
  (bC:K.lookup C=some (excClassObj nm q C N bs (.ref M :: vbm) hd sn sub ab col dd k0 k1 k2 k3 k5 "ValueError.__new__")) (bM:K.lookup M=some (excClassObj nmM qM M NM bsM bmM hdM snM subM abM colM ddM j0 j1 j2 j3 j5 nid))
  (lM:K.lookup NM=some ⟨cM,dM,.dict eM epM,slM⟩) (skM:skB eM=true) (iM:W.nsIn K NM "__init__"=some none) (kp:W.keepIn K (.ref C)=true):XCl K C N (.ref M :: vbm) where
 xc:=fun h X=>⟨_,_,_,_,_,_,_,_,_,_,_,_,_,_,X _ _ bC⟩
 tail:=fun h X=>.own (X _ _ bM) (zjQ lM skM X) (znf lM iM) .base
 base:=by simp [vbm]
 kp:=kp
def zpG {fd:FuncData} (l:K.lookup N=some ⟨c,d,.dict es ep,sl⟩) (sk:skB es=true) (i:W.nsIn K N "__init__"=some (some (.ref f))) (lf:K.lookup f=some ⟨.type "function",od,.func fd,sf⟩):XIn K N f where
 ns:=fun h X=>⟨_,zjQ l sk X,znf l i⟩
 fn:=fun h X=>⟨_,X _ _ lf,rfl⟩
def zh6 (hd:W.hasDictIn K C=true):(W.clsIn K C).isSome=true:=by
 obtain ⟨cd,e,_⟩:=W.any_some hd; rw [e]; rfl
def zrn {b:Bool} (hd:W.hasDictIn K M=true) (ty:W.typeIn K (.ref M)=some (.type "type")) (mb:W.mroIn K M (.type "BaseException")=some true) (m:W.mroIn K C (.ref M)=some b):W.exmOne K (.ref C) (.ref M)=some b:=by
 unfold W.exmOne
 rw [show W.subIn K (.ref M) (.type "BaseException")=some true from mb,yI (by decide)]
 show (if ((W.clsIn K M).isSome && W.typeIn K (.ref M) == some (.type "type"))=true then W.subIn K (.ref C) (.ref M) else none)=some b
 rw [zh6 hd,ty,yI (by simp)]
 exact m
def zmi:W.kitOne K (.ref C) (.ref C)=some true:=by
 unfold W.kitOne
 rw [yI (by simp)]
def zq8 {n:String} {b:Bool} (hk:W.kitMeta n=true) (m:W.mroIn K C (.type n)=some b):W.kitOne K (.ref C) (.type n)=some b:=by
 unfold W.kitOne
 rw [yH (by simp)]
 show (if W.kitMeta n=true then W.subIn K (.ref C) (.type n) else none)=some b
 rw [yI hk]; exact m
end
end L2
namespace L2
open PySem
def zpH {K:W.Frag} {C M N:Addr} {nm q:Str} {bs:List Value} {sn:List Str} {sub:List Value} {ab:Bool} {col:Option Bool} {dd:Option Addr} {k0 k1 k2 k3 k5:Option Value} {nid:String} (bC:K.lookup C=some (excClassObj nm q C N bs (.ref M :: vbm) true sn sub ab col dd k0 k1 k2 k3 k5 nid)):((W.clsIn K C).any fun cd=>cd.hasDict && X1.xmro cd.mro)=true:=by
 unfold W.clsIn; rw [bC]; rfl
end L2
namespace L2
open PySem PySem.Spec PyProof.Rows
section
end
end L2
namespace PL
open PySem L2
section
variable {k:Nat} {C:Addr} {m:Str} {ps:List Str} {sp:Sp'} {spx:ziU} {apos pos:Pos} {o e:Expr} {es:List Expr} {to:TE'} {t:TA'}
abbrev znI:=List D->Sts->(Sts->Prop)->Prop
def zuE (K:W.Frag) (n:Nat) (g:znI):TGs:=fun vs σ H Q2=>∃ W Hi Γ ds Q,Good K n W Hi Γ σ H/\zaV K Hi vs ds/\g ds Γ Q/\∀ σ' H' Hi' Γ',zU Hi Hi'->Good K n W Hi' Γ' σ' H'->Q Γ'->Q2 σ' H'
structure PGs' (X:Cx) (es:List Expr) (g:znI):Prop where
 h:PGs X es (zuE X.K X.N.length g)
def PGs.weak {es:List Expr} {t t2:TGs} (h:PGs X es t) (w:∀ vs σ H Q,t2 vs σ H Q->t vs σ H Q):PGs X es t2:=fun pins s σ H vs us Q I r q=>h pins s σ H vs us Q I r (w _ _ _ _ q)
def ziK:znI:=fun ds Γ Q=>ds=[]/\Q Γ
def zd3 (t:TG') (u:znI):znI:=fun ds Γ Q=>∃ d r,ds=d :: r/\t d Γ fun Γ1=>u r Γ1 Q
def ziJ (n:Nat) (t:znI):TG':=fun d Γ Q=>∃ ds,d=.tup ds/\ds.length=n/\t ds Γ Q
def zlO:PGs' X [] ziK:=by
 refine ⟨PGs.weak zos ?_⟩
 rintro vs σ H Q ⟨W,Hi,Γ,ds,Q',g,dl,⟨rfl,q⟩,fin⟩
 cases dl; exact ⟨rfl,fin σ H Hi Γ (zU.refl _) g q⟩
def zfU {e:Expr} {es:List Expr} {t:TG'} {u:znI} (h1:PG' X e t) (h2:PGs' X es u) (hs:(assignEach (e :: es) X.env).map (·.2)=assign e X.env :: (assignEach es X.env).map (·.2):=by rfl):PGs' X (e :: es) (zd3 t u):=by
 refine ⟨PGs.weak (zlP h1.h h2.h hs) ?_⟩
 rintro vs σ H Q ⟨W,Hi,Γ,ds,Q',g,dl,⟨d,r,rfl,q⟩,fin⟩
 cases dl with
 | cons r0 rr =>
  refine ⟨_,_,rfl,W,Hi,Γ,d,_,g,r0,q,?_⟩; intro σ1 H1 Hi1 Γ1 s1 g1 q1
  exact ⟨W,Hi1,Γ1,r,Q',g1,zaV.mono rr s1,q1,fun σ2 H2 Hi2 Γ2 s2=>fin σ2 H2 Hi2 Γ2 (s1.trans s2)⟩
def zot {es:List Expr} {k n:Nat} {t:znI} (h:PGs' X es t) (hc:X.calm=true:=by rfl) (hn:(assignEach es X.env).length=n:=by rfl) (hst:(assignEach es X.env).findIdx? (·.1)=none:=by rfl):PG' X (.Tuple es k pos) (ziJ n t):=by
 refine ⟨PG.weak (zqB hc h.h hn hst) ?_⟩
 rintro v σ H Q ⟨W,Hi,Γ,d,Q',g,den,⟨ds,rfl,hl,q⟩,fin⟩
 obtain ⟨a,vs,rfl,ha,dl⟩:=den.tupI
 exact ⟨a,vs,rfl,zK g.sub ha,by rw [zj dl]; exact hl,W,Hi,Γ,ds,Q',g,dl,q,fin⟩
end
section
end
section
variable {K:PySem.W.Frag}
end
end PL
namespace Mu
open PySem PySem.Builtin
def noFill_tup:fillsNumberSlot (.type "tuple") "mul"=pure false :=
 fillsNumberSlot_seq (id:="tuple.__mul__") (r:=some (.builtin "tuple.__rmul__")) PySem.F.slot_tuple_mul.lookup (by decide +kernel) PySem.F.slot_tuple_rmul.lookup (by decide +kernel)
def rep_tup:seqRepeat? (.type "tuple")=pure (some (.builtin "tuple.__mul__")):=by
 unfold seqRepeat?
 rw [seqSlot_of (T:="tuple") (name:="__mul__") (id:="tuple.__mul__") PySem.F.slot_tuple_mul.lookup (by decide +kernel),seqSlot_of (T:="tuple") (name:="__rmul__") (id:="tuple.__rmul__") PySem.F.slot_tuple_rmul.lookup (by decide +kernel)]
 rfl
def rmul_tup (a:Int) (t:Tok) (l:Addr) (o:Obj) (xs:Array Value) (n:Nat) (hc:o.cls=.type "tuple") (hd:o.data=.seq xs n):Meets (Builtin.«int.__rmul__» ⟨[.int a t,.ref l],[]⟩) (fun _ R s=>s.heap.get? l=some o/\R (.ok (.ret Value.notImplemented)) s) :=
 .of_wp fun prog w A R s h=>by
  obtain ⟨hp,g,d,tk,os⟩:=s; obtain ⟨hl,h⟩:=h; obtain ⟨oc,od,dt,sl⟩:=o
  dsimp only at hc hd
  subst hc hd
  wp_walk
  exact ⟨_,rfl,h⟩
def mul_tup (k:Nat) (t:Tok) (l:Addr) (o:Obj) (xs:Array Value) (n:Nat) (hc:o.cls=.type "tuple") (hd:o.data=.seq xs n) (hk:2<=k) (hk2:k<=100) (hz:xs.size * k<=10000) :
  Meets (Builtin.«tuple.__mul__» ⟨[.ref l,.int k t],[]⟩) (fun _ R s=>s.heap.get? l=some o/\(xs.isEmpty=true->R (.ok (.ret (.ref l))) s) /\
   (xs.isEmpty=false->R (.ok (.ret (.ref s.heap.objs.size))) { s with heap:=s.heap.push { cls:=.type "tuple",data:=.seq ((List.replicate k xs).foldl (· ++ ·) #[]) } })) :=
 .of_wp fun prog w A R s h=>by
  obtain ⟨hp,g,d,tk,os⟩:=s; obtain ⟨hl,h1,h2⟩:=h; obtain ⟨oc,od,dt,sl⟩:=o
  dsimp only at hc hd
  subst hc hd
  have e1:(decide ((k:Int)< -(2 ^ 63)) || decide ((k:Int) >= 2 ^ 63))=false:=by
   rw [yY (by omega),yY (by omega)]
   rfl
  have e2:((k:Int) == 1)=false:=by rw [beq_eq_false_iff_ne]; omega
  have e3:decide ((k:Int)<=0)=false:=yY (by omega)
  have e4:¬ ((xs.size:Int) * (k:Int) > (2 ^ 63-1) / 8):=by
   have:((xs.size * k:Nat):Int)<=10000:=by omega
   rw [Int.natCast_mul] at this; omega
  have e5:Builtin.Tuple.tupleTooMany ((xs.size:Int) * (k:Int))=false:=by
   unfold Builtin.Tuple.tupleTooMany
   have:((xs.size * k:Nat):Int)<=10000:=by omega
   rw [Int.natCast_mul] at this
   have b:10000<sizeLine:=by decide
   exact yY (by omega)
  wp_walk
  rw [yH (by rw [e1]; exact yN)]
  wp_walk
  cases he:xs.isEmpty with
  | true =>
   wp_walk
   exact ⟨_,rfl,h1 he⟩
  | false =>
   wp_walk
   rw [yH (by rw [e3]; decide)]
   dsimp only
   rw [yH e4,yH (by rw [e5]; decide),JC]
   have hsz:(List.foldl (fun x1 x2=>x1 ++ x2) #[] (List.replicate k xs)).size<=sizeLine:=by
    have e:=L2.foldl_rep xs.toList k []
    have e':List.foldl (fun x1 x2=>x1 ++ x2) #[] (List.replicate k xs)=([] ++ (List.replicate k xs.toList).flatten).toArray:=by simpa using e
    rw [e',yS,Yn,L2.len_rep,yz,Nat.mul_comm]
    have b:10000<sizeLine:=by decide
    omega
   unfold Builtin.Tuple.tupleExact; exact yA (YC (yF ⟨_,rfl,h2 he⟩) hsz)
end Mu
namespace L2
open PySem PySem.Spec PyProof.Rows
section
def zsJ:R2:=fun x y H Q=>∃ (l:Addr) (k:Nat) (xs:List V),x=.ref l/\y=.int k/\H l=some (.tup xs)/\2<=k/\k<=100/\xs.length * k<=10000/\(xs=[]->Q (.ref l) H)/\(xs≠[]->∀ p,H p=none->Q (.ref p) (upd H p (.tup (List.replicate k xs).flatten)))
def zoD:OpR X (binaryOp .Mult) zsJ:=by
 intro pins s σ H x y v u Q I rx ry h; obtain ⟨l,k,xs,rfl,rfl,hH,h1,h2,hz,q1,q2⟩:=h; cases rx; obtain ⟨t,rfl⟩:=ry
 obtain ⟨z,its,r,o,ho,hc,n,hd⟩:=(show zal X.prog X.w H s.heap l (.tup xs) from I.hok l _ hH)
 have hl:=r.length
 refine wpAny_binaryOp_repeat_ref (T:="tuple") (U:="int") (by decide) ⟨_,ho,hc⟩ (fun s'=>typeIs_int s' k t) Mu.noFill_tup PySem.F.fills_int_mul PySem.F.slot_int_rmul Mu.rep_tup PySem.F.slot_int_index.lookup
  (call_meets PySem.F.slot_int_rmul (typeIs_int s k t) PySem.F.entry_int_rmul (PySem.F.args_int_rmul_2 _ _) (Mu.rmul_tup k t l o its.toArray n hc hd) ⟨ho,rfl,⟨_,ho,hc⟩,call_meets PySem.F.slot_tuple_mul ⟨_,ho,hc⟩ PySem.F.entry_tuple_mul (PySem.F.args_tuple_mul_2 _ _) (Mu.mul_tup k t l o its.toArray n hc hd h1 h2 (by rw [yS,<- hl]; exact hz)) ⟨ho,fun e=>?_,fun e=>?_⟩⟩)
 ·have:xs=[]:=Yu (by rw [hl]; simpa using e)
  exact ⟨.ref l,H,I,rfl,q1 this⟩
 ·have hne:xs≠[]:=fun z=>by
   rw [z] at hl
   have:its=[]:=Yu hl.symm
   rw [this] at e
   simp at e
  have e':List.foldl (fun x1 x2=>x1 ++ x2) #[] (List.replicate k its.toArray)=(List.replicate k its).flatten.toArray:=by
   have:=foldl_rep its k []
   rw [Yn] at this; exact this
  rw [e']
  have hlen:(List.replicate k xs).flatten.length<=sizeLine:=by
   rw [len_rep,Nat.mul_comm]
   have b:10000<sizeLine:=by decide
   omega
  refine ⟨.ref _,upd H s.heap.objs.size (.tup (List.replicate k xs).flatten),I.laid (t':=s.toks) (fun _ _ q=>yC _ q) (yD _) ⟨hlen,(List.replicate k its).flatten,r.rep k,⟨_,yM _ rfl,rfl,_,rfl⟩⟩,rfl,q2 hne _ I.fresh⟩
end
end L2
namespace PL
open PySem L2
section
def zfO:R2':=fun x y Q=>∃ (ds:List D) (k:Nat),x=.tup ds/\y=.int k/\2<=k/\k<=100/\ds.length * k<=10000/\Q (.tup (List.replicate k ds).flatten)
def zqZ:Op2 X (binaryOp .Mult) zfO:=⟨_,zoD,by
 rintro Hi H x y dx dy Q Q2 s d1 d2 ⟨ds,k,rfl,rfl,h1,h2,h3,q⟩ fin
 obtain ⟨a,vs,rfl,ha,dl⟩:=d1.tupJ; have hl:=zj dl
 refine ⟨a,k,vs,rfl,d2.intI,s.sub _ _ ha,h1,h2,by rw [hl]; exact h3,fun e=>?_,fun _ p hp=>?_⟩
 ·have:ds=[]:=Yu (by rw [<- hl,e]; rfl)
  subst this; refine fin Hi H _ (.tup []) (Ext.refl s) d1 ?_
  simpa using q
 ·have e:=Ext.new s hp (.tup (List.replicate k vs).flatten)
  exact fin _ _ _ _ e (Den.mkT zn (zjo (dl.mono e.hi) k)) q⟩
instance:MR2 zfO:=⟨fun _ _ _ _ h ⟨ds,k,a,b,c,d,e,q⟩=>⟨ds,k,a,b,c,d,e,h _ q⟩⟩
end
section
variable {Q:D->Prop}
def zlz:R2':=fun x y Q=>rI' zmT (fun i j=>.int (i * j)) x y Q\/zfO x y Q
def zhI:Op2 X (binaryOp .Mult) zlz:=zs3.or zqZ
instance:MR2 zlz:=⟨fun _ _ _ _ h q=>q.imp (MR2.mono (r:=rI' zmT fun i j=>.int (i * j)) _ _ _ _ h) (MR2.mono (r:=zfO) _ _ _ _ h)⟩
@[simp] theorem zqg (i j:Int):zlz (.int i) (.int j) Q↔zmT i j/\Q (.int (i * j)):=by simp [zlz,zfO]
def zqp:RC':=fun ds Q=>∃ b:Bool,ds=[.bl b]/\Q (.int (if b then 1 else 0))
def zrA:Cal X (.type "int") zqp:=⟨_,zkD,by
 rintro Hi H vs ds Q Q2 s dl ⟨b,rfl,q⟩ fin
 obtain ⟨v,rfl,den⟩:=zcX dl
 exact .inr ⟨b,by rw [den.blI],fin Hi H _ _ (Ext.refl s) (.int _) q⟩⟩
def zqq:RC':=fun ds Q=>zqo ds Q\/zqp ds Q
def znE:Cal X (.type "int") zqq:=ztw.or zrA
end
end PL
namespace Zp
open PySem
structure Src (prog:Program) (w:World) (it:Addr) (xs:List Value) (fp:List Addr) (nx:Nat->Heap->Prop):Prop where
 mem:it ∈ fp
 fr:∀ i h h',nx i h->(∀ c ∈ fp,∀ o,h.get? c=some o->h'.get? c=some o)->nx i h'
 at_:∀ i h,nx i h->∃ o,h.get? it=some o/\∀ v,o.data≠.cell v
 item:∀ (A:Around) (s:Shared) (i:Nat) (x:Value) (Q:Value->Shared->Prop) (E:Value->Shared->Prop),nx i s.heap->xs[i]?=some x->(∀ h',nx (i+1) h'->Heap.SameBut it s.heap h'->Q x { s with heap:=h' })->wpAny (model prog w) A (Builtin.SmallTypes.nextOf (.ref it)) Q E s
 stop:∀ (A:Around) (s:Shared) (i:Nat) (Q:Value->Shared->Prop) (E:Value->Shared->Prop),A.handled=none->nx i s.heap->xs[i]?=none ->
  (∀ h' e,Heap.ExtBut it s.heap h'->(∃ o,h'.get? e=some o/\o.cls=.type "StopIteration")->E (.ref e) { s with heap:=h' })->wpAny (model prog w) A (Builtin.SmallTypes.nextOf (.ref it)) Q E s
def zA {a:Addr} {h h':Heap} (x:Heap.SameBut a h h'):∀ c o,c≠a->h.get? c=some o->h'.get? c=some o:=fun c o n e=>x.extBut _ _ n e
def zlk {prog:Program} {w:World} {it l:Addr} {xs:List Value} (ne:l≠it):Src prog w it xs [it,l] (fun i h=>h.IsListIter it l i/\h.IsList l xs.toArray) where
 mem:=by simp
 fr:=fun i h h' ⟨a,b⟩ k=>⟨a.at fun o e=>k it (by simp) o e,b.at fun o e=>k l (by simp) o e⟩
 at_:=fun i h ⟨⟨o,e,_,d⟩,_⟩=>⟨o,e,fun v z=>by rw [d] at z; cases z⟩
 item:=fun A s i x Q E ⟨a,b⟩ hx q=>wpAny_nextOf_list_item a b (by simpa using hx) fun h' n sb=>q h' ⟨n,b.at fun o e=>zA sb _ o ne e⟩ sb
 stop:=fun A s i Q E hh ⟨a,b⟩ hx q=>wpAny_nextOf_list_end hh a b (by simpa using hx) q
def zjg {prog:Program} {w:World} {it l:Addr} {xs:List Value} (ne:l≠it):Src prog w it xs [it,l] (fun i h=>h.IsTupleIter it l i/\h.IsTuple l xs.toArray) where
 mem:=by simp
 fr:=fun i h h' ⟨a,⟨ol,e,r⟩⟩ k=>⟨a.at fun o e=>k it (by simp) o e,⟨ol,k l (by simp) ol e,r⟩⟩
 at_:=fun i h ⟨⟨o,e,_,d⟩,_⟩=>⟨o,e,fun v z=>by rw [d] at z; cases z⟩
 item:=by
  intro A s i x Q E ⟨a,b⟩ hx q
  obtain ⟨oi,gi,ci,di⟩:=id a; obtain ⟨ot,gt,ct,nt,dt⟩:=id b; unfold Builtin.SmallTypes.nextOf; refine yA (wpAny_callSpecial?_slot (name:=Str.ofString "__next__") a.typeIs Yo (YU Yo a.typeIs PySem.F.entry_tuple_iterator_next ?_ (PySem.F.args_tuple_iterator_next_1 _)))
  show wpAny _ _ (field (.ref it) 0 >>= _) _ _ _
  refine yA (YI gi di (x:=.ref l) rfl ?_)
  show wpAny _ _ (if (Value.ref l == Value.none)=true then _ else _) _ _ _
  rw [yH (by simp)]
  show wpAny _ _ (field (.ref it) 1 >>= _) _ _ _
  refine yA (YI gi di (x:=.int i 0) rfl ?_)
  show wpAny _ _ (seqItems? (.ref l) >>= _) _ _ _
  refine yA (Yk gt dt ?_)
  have hx':xs.toArray[i]?=some x:=by simpa using hx
  simp only [JC,hx']
  refine yA (Yq gi di (by simp) (yF ⟨x,rfl,yF (q _ ⟨⟨_,YY _ gi (Obj.isFreed_of_fields (Obj.data_mapFields di _)),(Obj.cls_mapFields ..).trans ci,by rw [Obj.data_mapFields di]; simp [rawInt]⟩,?_⟩ (Heap.SameBut.update ..))⟩))
  exact ⟨ot,(yj _ _ (Ne.symm ne)).trans gt,ct,nt,dt⟩
 stop:=by
  intro A s i Q E hh ⟨a,b⟩ hx q
  obtain ⟨oi,gi,ci,di⟩:=id a; obtain ⟨ot,gt,ct,nt,dt⟩:=id b; unfold Builtin.SmallTypes.nextOf; refine yA (wpAny_callSpecial?_slot (name:=Str.ofString "__next__") a.typeIs Yo (YU Yo a.typeIs PySem.F.entry_tuple_iterator_next ?_ (PySem.F.args_tuple_iterator_next_1 _)))
  show wpAny _ _ (field (.ref it) 0 >>= _) _ _ _
  refine yA (YI gi di (x:=.ref l) rfl ?_)
  show wpAny _ _ (if (Value.ref l == Value.none)=true then _ else _) _ _ _
  rw [yH (by simp)]
  show wpAny _ _ (field (.ref it) 1 >>= _) _ _ _
  refine yA (YI gi di (x:=.int i 0) rfl ?_)
  show wpAny _ _ (seqItems? (.ref l) >>= _) _ _ _
  refine yA (Yk gt dt ?_)
  have hx':xs.toArray[i]?=none:=by simpa using hx
  simp only [JC,hx']
  refine yA (wpAny_rule (yA (Yq gi di (by simp) ?_)))
  show wpAny _ _ (newExc (.type "StopIteration") [] >>= _) _ _ _
  refine yA ?_; simp only [newExc,newTuple]
  refine yA (YC ?_ (by size_fits))
  refine yA (m:=firstArgMember _ _) (wpAny_of_eq (a:=Value.none) (by first | rfl | (simp only [firstArgMember]; rfl)) ?_)
  refine YC ?_ (by size_fits)
  simp only [raiseNew]; refine yA (wpAny_handled ?_)
  first | rw [show A.in1.handled=none from hh] | rw [hh]
  exact yA (yF (wpAny_throw (q _ _ (((Heap.SameBut.update ..).extBut.push _).push _) ⟨_,yM _ rfl,rfl⟩)))
structure Apart (z TI TO i1 i2:Addr) (f1 f2:List Addr):Prop where
 z1:z ∉ f1
 z2:z ∉ f2
 o1:TO ∉ f1
 o2:TO ∉ f2
 i21:i2 ∉ f1
 i12:i1 ∉ f2
 iz:TI≠z
 oz:TO≠z
 io:TI≠TO
 ii1:TI≠i1
 ii2:TI≠i2
section
variable {z TI TO i1 i2:Addr} {f1 f2:List Addr} {n1 n2:Nat->Heap->Prop} {xs ys:List Value} {k:Nat} {a b x y:Value}
def Src.but {it:Addr} {zs:List Value} {fp:List Addr} {nx:Nat->Heap->Prop} (S:Src prog w it zs fp nx) {i:Nat} {h h':Heap} {c:Addr} (g:nx i h) (sb:Heap.SameBut c h h') (hc:c ∉ fp):nx i h':=S.fr i h h' g fun d hd o e=>zA sb d o (fun q=>hc (q ▸ hd)) e
def zk2 {Q:Value->Shared->Prop} (S1:Src prog w i1 xs f1 n1) (S2:Src prog w i2 ys f2 n2) (D:Apart z TI TO i1 i2 f1 f2) (wz:IsZip s.heap z TI TO .none) (wI:IsPair s.heap TI (.ref i1) (.ref i2)) (wO:IsPair s.heap TO a b) (g1:n1 k s.heap) (g2:n2 k s.heap) (hx:xs[k]?=some x) (hy:ys[k]?=some y)
  (q:∀ h',IsZip h' z TI TO (rawInt s.heap.objs.size)->IsPair h' TO x y->n1 (k+1) h'->n2 (k+1) h'->IsPair h' s.heap.objs.size x y->h'.objs.size=s.heap.objs.size+1->(∀ c o,c≠z->c≠TO->c≠i1->c≠i2->s.heap.get? c=some o->h'.get? c=some o)->Q (.ref s.heap.objs.size) { s with heap:=h' }) :
  wpAny (model prog w) A (Builtin.«zip.__next__» ⟨[.ref z],[]⟩) (fun fin s'=>∃ v,fin=.done (.ret v)/\Q v s') E s:=by
 have ne1:i1≠z:=fun e=>D.z1 (e ▸ S1.mem)
 have ne2:i2≠z:=fun e=>D.z2 (e ▸ S2.mem)
 have no1:i1≠TO:=fun e=>D.o1 (e ▸ S1.mem)
 have no2:i2≠TO:=fun e=>D.o2 (e ▸ S2.mem)
 show wpAny _ _ (field (.ref z) 2 >>= _) _ _ _
 refine yA (YI wz rfl (x:=.bool false) rfl ?_)
 show wpAny _ _ (field (.ref z) 3 >>= _) _ _ _
 refine yA (YI wz rfl (x:=.ref TI) rfl ?_); refine yA (Yk wI rfl ?_)
 show wpAny _ _ (Builtin.SmallTypes.ownedTupleIsFree (.ref z) >>= _) _ _ _
 refine yA ?_; unfold Builtin.SmallTypes.ownedTupleIsFree; refine yA (YI wz rfl (x:=.none) rfl (yF ?_)); simp only [if_true]; refine yA (wpAny_rule ?_); refine yA (YI wz rfl (x:=.ref TO) rfl ?_)
 refine yA (Yv wz (by simp) fun ha za sa=>?_)
 have za:IsZip ha z TI TO .ellipsis:=za
 refine yA ?_; simp only [List.zipIdx_cons,List.zipIdx_nil,List.forIn_cons,List.forIn_nil]; refine yA (yA (wpAny_onRaise ?_))
 show wpAny _ _ (Builtin.SmallTypes.nextOf (.ref i1) >>= _) _ _ _
 refine yA (S1.item _ { s with heap:=ha } k x _ _ (S1.but g1 sa D.z1) hx fun hb g1b sb=>yF ?_)
 have ob:IsPair hb TO a b:=zA sb _ _ (Ne.symm no1) (zA sa _ _ D.oz wO)
 refine yA (Yk ob rfl ?_)
 refine yA (wpAny_updateSeq_pair ob fun hc oc sc=>?_)
 have oc:IsPair hc TO x b:=oc
 refine yA (wpAny_letGo (yF ?_)); refine yA (yA (wpAny_onRaise ?_))
 show wpAny _ _ (Builtin.SmallTypes.nextOf (.ref i2) >>= _) _ _ _
 refine yA (S2.item _ { s with heap:=hc } k y _ _ (S2.but (S2.but (S2.but g2 sa D.z2) sb D.i12) sc D.o2) hy fun hd g2d sd=>yF ?_)
 have od:IsPair hd TO x b:=zA sd _ _ (Ne.symm no2) oc
 refine yA (Yk od rfl ?_)
 refine yA (wpAny_updateSeq_pair od fun he oe se=>?_)
 have oe:IsPair he TO x y:=oe
 refine yA (wpAny_letGo (yF (yF ?_))); refine yA (Yk oe rfl ?_); refine yA (wpAny_newTuple ?_)
 have hsz:he.objs.size=s.heap.objs.size:=by rw [se.1,sd.1,sc.1,sb.1,sa.1]
 have ze:IsZip he z TI TO .ellipsis:=zA se _ _ (Ne.symm D.oz) (zA sd _ _ (Ne.symm ne2) (zA sc _ _ (Ne.symm D.oz) (zA sb _ _ (Ne.symm ne1) za)))
 have hk:∀ c o,c≠z->c≠TO->c≠i1->c≠i2->s.heap.get? c=some o->he.get? c=some o:=fun c o c1 c2 c3 c4 e=>zA se _ _ c2 (zA sd _ _ c4 (zA sc _ _ c2 (zA sb _ _ c3 (zA sa _ _ c1 e))))
 have g1e:n1 (k+1) he:=S1.but (S1.but (S1.but g1b sc D.o1) sd D.i21) se D.o1
 have g2e:n2 (k+1) he:=S2.but g2d se D.o2
 have zlt:z<he.objs.size:=yJ ze
 show wpAny _ _ (Builtin.SmallTypes.ownedTupleHandOut (.ref z) (.ref he.objs.size) >>= _) _ _ _
 refine yA ?_; unfold Builtin.SmallTypes.ownedTupleHandOut
 have zf:IsZip (he.push { cls:=.type "tuple",data:=.seq #[x,y] }) z TI TO .ellipsis:=yC _ ze
 refine yA (Yv zf (by simp) fun hg zg sg=>?_)
 have zg:IsZip hg z TI TO (rawInt he.objs.size):=zg
 refine Yv zg (by simp) fun hh zh sh=>?_
 have zh:IsZip hh z TI TO (rawInt he.objs.size):=zh
 have up:∀ c o,c≠z->he.get? c=some o->hh.get? c=some o:=fun c o c1 e=>zA sh _ _ c1 (zA sg _ _ c1 (yC _ e))
 have tp:IsPair hh he.objs.size x y:=zA sh _ _ (Nat.ne_of_gt zlt) (zA sg _ _ (Nat.ne_of_gt zlt) (yM _ rfl))
 have hs8:hh.objs.size=he.objs.size+1:=by rw [sh.1,sg.1,Yl]
 rw [hsz] at zh tp hs8; refine yF ⟨_,rfl,?_⟩
 show Q (.ref he.objs.size) _
 rw [hsz]
 exact q hh zh (up _ _ D.oz oe) (S1.fr _ he hh g1e fun c hc o e=>up c o (fun z'=>D.z1 (z' ▸ hc)) e) (S2.fr _ he hh g2e fun c hc o e=>up c o (fun z'=>D.z2 (z' ▸ hc)) e) tp hs8 fun c o c1 c2 c3 c4 e=>up c o c1 (hk c o c1 c2 c3 c4 e)
def zk1 {Q:PySem.Fin->Shared->Prop} (hh:A.handled=none) (S1:Src prog w i1 xs f1 n1) (S2:Src prog w i2 ys f2 n2) (D:Apart z TI TO i1 i2 f1 f2) (wz:IsZip s.heap z TI TO .none) (wI:IsPair s.heap TI (.ref i1) (.ref i2)) (wO:IsPair s.heap TO a b) (g1:n1 k s.heap) (g2:n2 k s.heap) (hend:xs[k]?=none\/ys[k]?=none)
  (q:∀ h' e,(∀ c o,c≠z->c≠TO->c≠i1->c≠i2->s.heap.get? c=some o->h'.get? c=some o)->(∃ o,h'.get? e=some o/\o.cls=.type "StopIteration")->E (.ref e) { s with heap:=h' }) :
  wpAny (model prog w) A (Builtin.«zip.__next__» ⟨[.ref z],[]⟩) Q E s:=by
 have ne1:i1≠z:=fun e=>D.z1 (e ▸ S1.mem)
 have ne2:i2≠z:=fun e=>D.z2 (e ▸ S2.mem)
 have no1:i1≠TO:=fun e=>D.o1 (e ▸ S1.mem)
 show wpAny _ _ (field (.ref z) 2 >>= _) _ _ _
 refine yA (YI wz rfl (x:=.bool false) rfl ?_)
 show wpAny _ _ (field (.ref z) 3 >>= _) _ _ _
 refine yA (YI wz rfl (x:=.ref TI) rfl ?_); refine yA (Yk wI rfl ?_)
 show wpAny _ _ (Builtin.SmallTypes.ownedTupleIsFree (.ref z) >>= _) _ _ _
 refine yA ?_; unfold Builtin.SmallTypes.ownedTupleIsFree; refine yA (YI wz rfl (x:=.none) rfl (yF ?_)); simp only [if_true]; refine yA (wpAny_rule ?_); refine yA (YI wz rfl (x:=.ref TO) rfl ?_)
 refine yA (Yv wz (by simp) fun ha za sa=>?_)
 have za:IsZip ha z TI TO .ellipsis:=za
 refine yA ?_; simp only [List.zipIdx_cons,List.zipIdx_nil,List.forIn_cons,List.forIn_nil]; refine yA (yA (wpAny_onRaise ?_))
 show wpAny _ _ (Builtin.SmallTypes.nextOf (.ref i1) >>= _) _ _ _
 cases hx:xs[k]? with
 | none =>
  refine yA (S1.stop _ { s with heap:=ha } k _ _ hh (S1.but g1 sa D.z1) hx fun hb e sb st=>?_)
  obtain ⟨ox,gx,cx⟩:=st
  have zb:IsZip hb z TI TO .ellipsis:=sb _ _ (Ne.symm ne1) za
  have ez:e≠z:=fun c=>by subst c; rw [zb] at gx; cases gx; simp at cx
  exact Yv zb (by simp) fun hc _ sc=>q hc e (fun c o c1 _ c3 _ v=>zA sc _ _ c1 (sb _ _ c3 (zA sa _ _ c1 v))) ⟨ox,zA sc _ _ ez gx,cx⟩
 | some x =>
  have hy:ys[k]?=none:=by rcases hend with h | h; rw [hx] at h; cases h; exact h
  refine yA (S1.item _ { s with heap:=ha } k x _ _ (S1.but g1 sa D.z1) hx fun hb g1b sb=>yF ?_)
  have ob:IsPair hb TO a b:=zA sb _ _ (Ne.symm no1) (zA sa _ _ D.oz wO)
  refine yA (Yk ob rfl ?_)
  refine yA (wpAny_updateSeq_pair ob fun hc oc sc=>?_)
  refine yA (wpAny_letGo (yF ?_)); refine yA (yA (wpAny_onRaise ?_))
  show wpAny _ _ (Builtin.SmallTypes.nextOf (.ref i2) >>= _) _ _ _
  refine yA (S2.stop _ { s with heap:=hc } k _ _ hh (S2.but (S2.but (S2.but g2 sa D.z2) sb D.i12) sc D.o2) hy fun hd e sd st=>?_)
  obtain ⟨ox,gx,cx⟩:=st
  have zd:IsZip hd z TI TO .ellipsis:=sd _ _ (Ne.symm ne2) (zA sc _ _ (Ne.symm D.oz) (zA sb _ _ (Ne.symm ne1) za))
  have ez:e≠z:=fun c=>by subst c; rw [zd] at gx; cases gx; simp at cx
  exact Yv zd (by simp) fun he _ se=>q he e (fun c o c1 c2 c3 c4 v=>zA se _ _ c1 (sd _ _ c4 (zA sc _ _ c2 (zA sb _ _ c3 (zA sa _ _ c1 v))))) ⟨ox,zA se _ _ ez gx,cx⟩
def zjS {Q:Option Value->Shared->Prop} (S1:Src prog w i1 xs f1 n1) (S2:Src prog w i2 ys f2 n2) (D:Apart z TI TO i1 i2 f1 f2) (wz:IsZip s.heap z TI TO .none) (wI:IsPair s.heap TI (.ref i1) (.ref i2)) (wO:IsPair s.heap TO a b) (g1:n1 k s.heap) (g2:n2 k s.heap) (hx:xs[k]?=some x) (hy:ys[k]?=some y)
  (q:∀ h',IsZip h' z TI TO (rawInt s.heap.objs.size)->IsPair h' TO x y->n1 (k+1) h'->n2 (k+1) h'->IsPair h' s.heap.objs.size x y->h'.objs.size=s.heap.objs.size+1->(∀ c o,c≠z->c≠TO->c≠i1->c≠i2->s.heap.get? c=some o->h'.get? c=some o)->Q (some (.ref s.heap.objs.size)) { s with heap:=h' }) :
  wpAny (model prog w) A (pyNext (.ref z)) Q E s:=by
 have ty:s.TypeIs (.ref z) "zip":=⟨_,wz,rfl⟩
 unfold pyNext
 exact yA (Yz (wpAny_callSpecial?_slot (name:=Str.ofString "__next__") ty PySem.F.slot_zip_next (YU PySem.F.slot_zip_next ty PySem.F.entry_zip_next (zk2 S1 S2 D wz wI wO g1 g2 hx hy fun h' c1 c2 c3 c4 c5 c6 c7=>yF (q h' c1 c2 c3 c4 c5 c6 c7)) (PySem.F.args_zip_next_1 _))))
def zjR {Q:Option Value->Shared->Prop} (hh:A.handled=none) (S1:Src prog w i1 xs f1 n1) (S2:Src prog w i2 ys f2 n2) (D:Apart z TI TO i1 i2 f1 f2) (wz:IsZip s.heap z TI TO .none) (wI:IsPair s.heap TI (.ref i1) (.ref i2)) (wO:IsPair s.heap TO a b) (g1:n1 k s.heap) (g2:n2 k s.heap) (hend:xs[k]?=none\/ys[k]?=none)
  (q:∀ h',(∀ c o,c≠z->c≠TO->c≠i1->c≠i2->s.heap.get? c=some o->h'.get? c=some o)->Q none { s with heap:=h' }):wpAny (model prog w) A (pyNext (.ref z)) Q E s:=by
 have ty:s.TypeIs (.ref z) "zip":=⟨_,wz,rfl⟩
 unfold pyNext
 refine yA (Yz (wpAny_callSpecial?_slot (name:=Str.ofString "__next__") ty PySem.F.slot_zip_next (YU PySem.F.slot_zip_next ty PySem.F.entry_zip_next (zk1 hh S1 S2 D wz wI wO g1 g2 hend fun h' e ke st=>?_) (PySem.F.args_zip_next_1 _))))
 obtain ⟨ox,gx,cx⟩:=st; exact yA (wpAny_isInstance (T:="StopIteration") (b:=true) ⟨ox,gx,cx⟩ isSubtype_stop (yF (q _ ke)))
end
abbrev tIt (l:Addr):Obj:={ cls:=.type "tuple_iterator",data:=.fields #[.ref l,.int 0 0] }
abbrev zt1 (h:Heap) (l1:Addr):Heap:=h.push (tIt l1)
abbrev zt2 (h:Heap) (l1 l2:Addr):Heap:=(zt1 h l1).push (tIt l2)
abbrev zt3 (h:Heap) (l1 l2:Addr):Heap:=(zt2 h l1 l2).push { cls:=.type "tuple",data:=.seq #[.ref h.objs.size,.ref (zt1 h l1).objs.size] }
abbrev zt4 (h:Heap) (l1 l2:Addr):Heap:=(zt3 h l1 l2).push { cls:=.type "tuple",data:=.seq #[.none,.none] }
abbrev zt5 (h:Heap) (l1 l2:Addr):Heap:=(zt4 h l1 l2).push { cls:=.type "zip",data:=.fields #[.none,.bool false,.bool false,.ref (zt2 h l1 l2).objs.size,.ref (zt3 h l1 l2).objs.size] }
def zq3 (l1 l2:Addr) (us vs:Array Value):Meets (Builtin.«zip.__new__» ⟨[.type "zip",.ref l1,.ref l2],[]⟩) (fun _ R s=>s.heap.IsTuple l1 us/\s.heap.IsTuple l2 vs/\R (.ok (.ret (.ref (zt4 s.heap l1 l2).objs.size))) { s with heap:=zt5 s.heap l1 l2 }) :=
 .of_wp fun prog w A R s h=>by
  obtain ⟨hp,g,d,tk,os⟩:=s; obtain ⟨t1,t2,h⟩:=h; have sb:=sub_zip
  have T1:Heap.IsTuple (Shared.heap ⟨hp,g,d,tk,os⟩) l1 us:=t1
  have T2:Heap.IsTuple (Shared.heap ⟨hp.push (tIt l1),g,d,tk,os⟩) l2 vs:=Heap.IsTuple.push t2 _
  wp_walk using wpAny_pyIter_tuple T1,wpAny_pyIter_tuple T2
  exact ⟨_,rfl,h⟩
section
def zpl {l1 l2:Addr} {us vs:Array Value} {Q:Value->Shared->Prop} (t1:s.heap.IsTuple l1 us) (t2:s.heap.IsTuple l2 vs)
  (q:∀ h',IsZip h' (s.heap.objs.size+4) (s.heap.objs.size+2) (s.heap.objs.size+3) .none->IsPair h' (s.heap.objs.size+2) (.ref s.heap.objs.size) (.ref (s.heap.objs.size+1))->IsPair h' (s.heap.objs.size+3) .none .none ->
   h'.IsTupleIter s.heap.objs.size l1 0->h'.IsTupleIter (s.heap.objs.size+1) l2 0->(∀ c o,s.heap.get? c=some o->h'.get? c=some o)->Q (.ref (s.heap.objs.size+4)) { s with heap:=h' }) :
  wpAny (model prog w) A (call (.type "zip") [.ref l1,.ref l2]) Q E s:=by
 refine callType_new PySem.F.called_zip (by decide) (PySem.F.typeCall_zip_2 _ _) (PySem.F.newCall_zip_2 _ _) (fun obj=>PySem.F.args_object_init_3 obj _ _) PySem.F.entry_zip_new (zq3 l1 l2 us vs) ⟨t1,t2,?_⟩
 have s1:(zt1 s.heap l1).objs.size=s.heap.objs.size+1:=Yl ..
 have s2:(zt2 s.heap l1 l2).objs.size=s.heap.objs.size+2:=by rw [Yl,s1]
 have s3:(zt3 s.heap l1 l2).objs.size=s.heap.objs.size+3:=by rw [Yl,s2]
 have s4:(zt4 s.heap l1 l2).objs.size=s.heap.objs.size+4:=by rw [Yl,s3]
 have e5:(zt5 s.heap l1 l2).get? (zt4 s.heap l1 l2).objs.size=some _:=yM _ rfl
 have e4:(zt5 s.heap l1 l2).get? (zt3 s.heap l1 l2).objs.size=some _:=yC _ (yM _ rfl)
 have e3:(zt5 s.heap l1 l2).get? (zt2 s.heap l1 l2).objs.size=some _:=yC _ (yC _ (yM _ rfl))
 have e2:(zt5 s.heap l1 l2).get? (zt1 s.heap l1).objs.size=some _:=yC _ (yC _ (yC _ (yM _ rfl)))
 have e1:(zt5 s.heap l1 l2).get? s.heap.objs.size=some _:=yC _ (yC _ (yC _ (yC _ (yM _ rfl))))
 show _/\_
 rw [s2,s3,s4] at e5; rw [s1,s2] at e3; rw [s3] at e4; rw [s1] at e2; rw [s4]
 exact ⟨⟨_,e5,rfl⟩,q _ e5 e3 e4 ⟨_,e1,rfl,rfl⟩ ⟨_,e2,rfl,rfl⟩ fun c o v=>yC _ (yC _ (yC _ (yC _ (yC _ v))))⟩
end
end Zp
namespace L2
open PySem PySem.Spec PyProof.Rows
section
variable {h':Heap}
def Inv.turnedNew {t':Nat} {ch:List Addr} {p:Addr} {o:HO} (I:Inv X pins σ H s) (hch:∀ b ∈ ch,zdq X pins H b) (k:∀ b u,b ∉ ch->s.heap.get? b=some u->h'.get? b=some u) (hp:s.heap.objs.size<=p) (new:zal X.prog X.w (upd H p o) h' p o) :
  Inv X pins σ (upd H p o) { s with heap:=h',toks:=t' }:=by
 have fr:H p=none:=I.hok.fresh hp
 have sm:∀ b u,H b=some u->upd H p o b=some u:=fun b u e=>by rw [zq (zw e fr)]; exact e
 have nch:∀ b u,H b=some u->b ∉ ch:=fun b u e z=>by rw [(hch b z).1] at e; cases e
 refine I.step (g':=s.gens) (d':=s.drawn) (ch:=ch) (fun b hb=>?_) (fun b u _ _ hc e _=>k b u hc e) (fun b u _ _ hc e _=>⟨u.slots,k b u hc e⟩) (fun b u hc e n=>?_) (fun b u hc e=>⟨u,k b u hc e⟩) (fun b xs e=>sm _ _ e) (fun b ob u e=>sm _ _ e) (fun b ps e=>⟨#[],by rw [sm _ _ e]; simp⟩) (fun m hm=>?_) (fun b u e=>?_) I.bare
 ·obtain ⟨_,y1,_,y3,y4,y5⟩:=hch b hb
  exact ⟨y3,y1,y4,y5⟩
 ·rw [zq (yW (yT (yJ e) hp))]
  exact n
 ·obtain ⟨ob,es,ep,ho,r⟩:=hm
  exact ⟨ob,es,ep,k _ ob (fun z=>(hch _ z).2.1 rfl) ho,r⟩
 ·by_cases z:b=p
  ·subst z
   rw [zn] at e; cases e; exact new
  ·rw [zq z] at e
   refine (I.hok b u e).stay (fun c v hc q=>k c v ?_ q) (fun c q=>sm _ _ q) fun c xs q=>sm _ _ q
   rcases hc with rfl | hc
   ·exact nch _ u e
   ·exact nch c _ hc
def Inv.turnedL {t':Nat} {ch:List Addr} (I:Inv X pins σ H s) (hch:∀ b ∈ ch,zdq X pins H b) (k:∀ b u,b ∉ ch->s.heap.get? b=some u->h'.get? b=some u):Inv X pins σ H { s with heap:=h',toks:=t' }:=by
 have nch:∀ b u,H b=some u->b ∉ ch:=fun b u e z=>by rw [(hch b z).1] at e; cases e
 refine I.step (g':=s.gens) (d':=s.drawn) (ch:=ch) (fun b hb=>?_) (fun b u _ _ hc e _=>k b u hc e) (fun b u _ _ hc e _=>⟨u.slots,k b u hc e⟩) (fun b u hc e n=>n) (fun b u hc e=>⟨u,k b u hc e⟩) (fun b xs e=>e) (fun b ob u e=>e) (fun b ps e=>⟨#[],by rw [e]; simp⟩) (fun m hm=>?_) (fun b u e=>?_) I.bare
 ·obtain ⟨_,y1,_,y3,y4,y5⟩:=hch b hb
  exact ⟨y3,y1,y4,y5⟩
 ·obtain ⟨ob,es,ep,ho,r⟩:=hm
  exact ⟨ob,es,ep,k _ ob (fun z=>(hch _ z).2.1 rfl) ho,r⟩
 ·refine (I.hok b u e).stay (fun c v hc q=>k c v ?_ q) (fun c q=>q) fun c xs q=>q
  rcases hc with rfl | hc
  ·exact nch _ u e
  ·exact nch c _ hc
end
end L2
namespace L2
open PySem PySem.Spec PyProof.Rows Zp
def SqB (lb:Bool) (K:W.Frag) (H:Hp) (a:Addr) (xs:List V):Prop:=match lb with | true=>SqL K H a xs | false=>SqT K H a xs
def ItB (lb:Bool) (h:Heap) (it l:Addr) (i:Nat):Prop:=match lb with | true=>h.IsListIter it l i | false=>h.IsTupleIter it l i
def LsB (lb:Bool) (h:Heap) (l:Addr) (its:List Value):Prop:=match lb with | true=>h.IsList l its.toArray | false=>h.IsTuple l its.toArray
def zrJ {prog:Program} {w:World} {it l:Addr} {its:List Value} (lb:Bool) (ne:l≠it):Src prog w it its [it,l] (fun i h=>ItB lb h it l i/\LsB lb h l its):=by
 cases lb with
 | true=>exact zlk ne
 | false=>exact zjg ne
def ItB.at {lb:Bool} {h h':Heap} {it l:Addr} {i:Nat} (x:ItB lb h it l i) (k:∀ o,h.get? it=some o->h'.get? it=some o):ItB lb h' it l i:=by
 cases lb with
 | true=>exact Heap.IsListIter.at x k
 | false=>exact Heap.IsTupleIter.at x k
def ItB.obj {lb:Bool} {h:Heap} {it l:Addr} {i:Nat} (x:ItB lb h it l i):∃ o,h.get? it=some o/\∀ v,o.data≠.cell v:=by
 cases lb with
 | true=>obtain ⟨o,e,_,d⟩:=x; exact ⟨o,e,fun v z=>by rw [d] at z; cases z⟩
 | false=>obtain ⟨o,e,_,d⟩:=x; exact ⟨o,e,fun v z=>by rw [d] at z; cases z⟩
section
variable {a b:Addr} {xs ys:List V} {lb:Bool}
def zjp {u:HO} (h:Rd H a u):∃ o,H a=some o:=by
 rcases h with h | ⟨o,h⟩
 ·exact ⟨_,h⟩
 ·exact ⟨_,h⟩
def zkE (I:Inv X pins σ H s) {o:Obj} (e:X.K.lookup a=some o) (f:zdq X pins H b):a≠b:=by
 have g:=I.ok.mod.kin _ _ e; obtain ⟨_,_,_,f3,_⟩:=f
 rintro rfl
 rcases f3 with z | z
 ·exact I.ok.noex _ _ g z
 ·exact yP (yT (yJ g) (YG I.ok.bsz z)) (YW _)
def zll (I:Inv X pins σ H s) (h:SqB lb X.K H a xs) (f:zdq X pins H b):a≠b:=by
 have tr:∀ o,H a=some o->a≠b:=fun o e z=>by rw [z,f.1] at e; cases e
 cases lb with
 | true =>
  rcases h with h | ⟨o,its,n,hk,_⟩
  ·obtain ⟨o,e⟩:=zjp h; exact tr o e
  ·exact zkE I hk f
 | false =>
  rcases h with h | ⟨o,its,n,hk,_⟩
  ·obtain ⟨o,e⟩:=zjp h; exact tr o e
  ·exact zkE I hk f
def zig (I:Inv X pins σ H s) (h:SqB lb X.K H a xs):∃ its:List Value,zae xs its/\LsB lb s.heap a its:=by
 cases lb with
 | true =>
  obtain ⟨its,r,p,_⟩:=I.list h; exact ⟨its,r,p.isList⟩
 | false =>
  obtain ⟨its,r,p,_⟩:=I.tuple h; exact ⟨its,r,p⟩
def zm3 (I:Inv X pins σ H s) (h:SqB lb X.K H a xs) (h':SqB lb X.K H a ys):ys=xs:=by
 cases lb with
 | true=>exact I.list_inj h' h
 | false=>exact I.tuple_inj h' h
end
def Itz (lb:Bool) (K:W.Frag) (a b:Addr):It :=
  ⟨fun i H=>∃ xs ys x y,SqB lb K H a xs/\SqB lb K H b ys/\xs[i]?=some x/\ys[i]?=some y,
   fun i H v H'=>∃ p x y,H p=none/\v=.ref p/\H'=upd H p (.tup [x,y])/\(∀ xs,SqB lb K H a xs->xs[i]?=some x)/\∀ ys,SqB lb K H b ys->ys[i]?=some y,
   fun i H=>∃ xs ys,SqB lb K H a xs/\SqB lb K H b ys/\(xs.length<=i\/ys.length<=i)⟩
structure Ap5 (z TI TO i1 i2:Addr):Prop where
 iz:TI≠z
 oz:TO≠z
 io:TI≠TO
 ii1:TI≠i1
 ii2:TI≠i2
 z1:z≠i1
 z2:z≠i2
 o1:TO≠i1
 o2:TO≠i2
 i12:i1≠i2
def zld {P:Program} {w:World} {K:W.Frag} {elts:List Expr} {c:Nat} {pos:Pos} (lb:Bool) (a b z TI TO i1 i2:Addr) (D:Ap5 z TI TO i1 i2):Turn P w K (.Tuple elts c pos) (Itz lb K a b) [z,TI,TO,i1,i2] z
  (fun i h=>IsZip h z TI TO .none/\IsPair h TI (.ref i1) (.ref i2)/\(∃ u v,IsPair h TO u v)/\ItB lb h i1 a i/\ItB lb h i2 b i) where
 mem:=by simp
 obj:=by
  rintro i h ⟨wz,wI,⟨u,v,wO⟩,g1,g2⟩ d hd
  simp only [yQ,YA,or_false] at hd
  rcases hd with rfl | rfl | rfl | rfl | rfl
  ·exact ⟨_,wz,fun v z=>by cases z⟩
  ·exact ⟨_,wI,fun v z=>by cases z⟩
  ·exact ⟨_,wO,fun v z=>by cases z⟩
  ·exact g1.obj
  ·exact g2.obj
 keep:=by
  rintro i h h' ⟨wz,wI,⟨u,v,wO⟩,g1,g2⟩ k
  exact ⟨k z (by simp) _ wz,k TI (by simp) _ wI,⟨u,v,k TO (by simp) _ wO⟩,g1.at fun o e=>k i1 (by simp) o e,g2.at fun o e=>k i2 (by simp) o e⟩
 item:=by
  intro X hP hw hK hc i pins s σ H E I hf st hg
  subst hP hw hK
  obtain ⟨wz,wI,⟨u,v,wO⟩,g1,g2⟩:=st
  obtain ⟨xs,ys,x,y,sx,sy,hx,hy⟩:=hg; obtain ⟨us,rx,lx⟩:=zig I sx; obtain ⟨vs,ry,ly⟩:=zig I sy; obtain ⟨ux,hux,rux⟩:=rx.get hx; obtain ⟨vy,hvy,rvy⟩:=ry.get hy
  have ne:∀ d,d ∈ [z,TI,TO,i1,i2]->a≠d/\b≠d:=fun d hd=>⟨zll I sx (hf d hd),zll I sy (hf d hd)⟩
  have A0:Apart z TI TO i1 i2 [i1,a] [i2,b]:=by
   have nz:=ne z (by simp)
   have no:=ne TO (by simp)
   have n1:=ne i1 (by simp)
   have n2:=ne i2 (by simp)
   refine ⟨?_,?_,?_,?_,?_,?_,D.iz,D.oz,D.io,D.ii1,D.ii2⟩ <;> simp only [yQ,YA,or_false,not_or]
   ·exact ⟨D.z1,Ne.symm nz.1⟩
   ·exact ⟨D.z2,Ne.symm nz.2⟩
   ·exact ⟨D.o1,Ne.symm no.1⟩
   ·exact ⟨D.o2,Ne.symm no.2⟩
   ·exact ⟨Ne.symm D.i12,Ne.symm n2.1⟩
   ·exact ⟨D.i12,Ne.symm n1.2⟩
  refine zjS (zrJ lb (ne i1 (by simp)).1) (zrJ lb (ne i2 (by simp)).2) A0 wz wI wO ⟨g1,lx⟩ ⟨g2,ly⟩ hux hvy fun h' c1 c2 c3 c4 c5 c6 c7=>⟨_,rfl,?_⟩
  refine wpAny_letOwnedTupleGo_zip (s:={ s with heap:=h' }) c1 fun h2 e1 e2=>?_
  have ext:=zA e2
  have pz:s.heap.objs.size≠z:=Nat.ne_of_gt (yJ wz)
  have kk:∀ d o,d ∉ [z,TO,i1,i2]->s.heap.get? d=some o->h2.get? d=some o:=fun d o hd e=>by
   simp only [yQ,YA,or_false,not_or] at hd; exact ext d o hd.1 (c7 d o hd.1 hd.2.1 hd.2.2.1 hd.2.2.2 e)
  have fr:H s.heap.objs.size=none:=I.hok.fresh (yD _)
  have tp:IsPair h2 s.heap.objs.size ux vy:=ext _ _ pz c5
  have I2:Inv X pins σ (upd H s.heap.objs.size (.tup [x,y])) { s with heap:=h2 }:=I.turnedNew (t':=s.toks) (ch:=[z,TO,i1,i2]) (fun d hd=>hf d (by simp at hd ⊢; rcases hd with h | h | h | h <;> simp [h])) kk (yD _)
   ⟨by show 2<=sizeLine; exact Nat.le_of_lt (zaC (by decide)),[ux,vy],.cons rux (.cons rvy .nil),⟨_,tp,rfl,_,rfl⟩⟩
  refine ⟨.ref s.heap.objs.size,_,I2,rfl,⟨_,x,y,fr,rfl,rfl,fun xs' h=>by rw [zm3 I sx h]; exact hx,fun ys' h=>by rw [zm3 I sy h]; exact hy⟩,⟨e1,?_,⟨_,_,ext _ _ D.oz c2⟩,?_,?_⟩,fun d hd=>?_⟩
  ·exact kk _ _ (by simp [D.iz,D.io,D.ii1,D.ii2]) wI
  ·exact c3.1.at fun o e=>ext _ o (Ne.symm D.z1) e
  ·exact c4.1.at fun o e=>ext _ o (Ne.symm D.z2) e
  ·obtain ⟨od,gd,_⟩:∃ o,s.heap.get? d=some o/\True:=by
    simp only [yQ,YA,or_false] at hd
    rcases hd with rfl | rfl | rfl | rfl | rfl
    ·exact ⟨_,wz,trivial⟩
    ·exact ⟨_,wI,trivial⟩
    ·exact ⟨_,wO,trivial⟩
    ·obtain ⟨o,e,_⟩:=g1.obj; exact ⟨o,e,trivial⟩
    ·obtain ⟨o,e,_⟩:=g2.obj; exact ⟨o,e,trivial⟩
   rw [zq (yW (yJ gd))]; exact (hf d hd).1
 done:=by
  intro X hP hw hK hc i pins s σ H E I hf st hg
  subst hP hw hK
  obtain ⟨wz,wI,⟨u,v,wO⟩,g1,g2⟩:=st
  obtain ⟨xs,ys,sx,sy,hend⟩:=hg; obtain ⟨us,rx,lx⟩:=zig I sx; obtain ⟨vs,ry,ly⟩:=zig I sy
  have ne:∀ d,d ∈ [z,TI,TO,i1,i2]->a≠d/\b≠d:=fun d hd=>⟨zll I sx (hf d hd),zll I sy (hf d hd)⟩
  have A0:Apart z TI TO i1 i2 [i1,a] [i2,b]:=by
   have nz:=ne z (by simp)
   have no:=ne TO (by simp)
   have n1:=ne i1 (by simp)
   have n2:=ne i2 (by simp)
   refine ⟨?_,?_,?_,?_,?_,?_,D.iz,D.oz,D.io,D.ii1,D.ii2⟩ <;> simp only [yQ,YA,or_false,not_or]
   ·exact ⟨D.z1,Ne.symm nz.1⟩
   ·exact ⟨D.z2,Ne.symm nz.2⟩
   ·exact ⟨D.o1,Ne.symm no.1⟩
   ·exact ⟨D.o2,Ne.symm no.2⟩
   ·exact ⟨Ne.symm D.i12,Ne.symm n2.1⟩
   ·exact ⟨D.i12,Ne.symm n1.2⟩
  have he:us[i]?=none\/vs[i]?=none:=by
   rcases hend with h | h
   ·exact .inl (List.getElem?_eq_none (by rw [<- rx.length]; exact h))
   ·exact .inr (List.getElem?_eq_none (by rw [<- ry.length]; exact h))
  refine zjR (I.ok.hd hc) (zrJ lb (ne i1 (by simp)).1) (zrJ lb (ne i2 (by simp)).2) A0 wz wI wO ⟨g1,lx⟩ ⟨g2,ly⟩ he fun h' k=>⟨rfl,?_⟩
  refine I.turnedL (t':=s.toks) (ch:=[z,TO,i1,i2]) (fun d hd=>hf d (by simp at hd ⊢; rcases hd with h | h | h | h <;> simp [h])) fun d o hd e=>?_
  simp only [yQ,YA,or_false,not_or] at hd; exact k d o hd.1 hd.2.1 hd.2.2.1 hd.2.2.2 e
 self:=fun A i s Q E st q=>wpAny_pyIter_zip st.1 q
def zcr {a b:Nat} (h:a≠b):(a:Addr)≠(b:Addr):=h
def ap5 (n:Nat):Ap5 (n+4:Nat) (n+2:Nat) (n+3:Nat) n (n+1:Nat):=⟨zcr (by omega),zcr (by omega),zcr (by omega),zcr (by omega),zcr (by omega),zcr (by omega),zcr (by omega),zcr (by omega),zcr (by omega),zcr (by omega)⟩
def zmN:bootBuiltins "zip"=some (.type "zip"):=by rfl
section
def zuD (K:W.Frag) (ta:TA):TI:=fun σ H R=>ta σ H fun vs H1=>∃ a b xs ys lb,vs=[.ref a,.ref b]/\SqB lb K H1 a xs/\SqB lb K H1 b ys/\R (Itz lb K a b) H1
def zqA {e1 e2:Expr} {elts:List Expr} {c:Nat} {ta:TA} {p pos tp:Pos} (hg:Gl X "zip") (hm:X.mg "zip"=none) (ha:PA X [e1,e2] ta) (hs:starEach [e1,e2] X.env=(false,eval e1 X.env) :: starEach [e2] X.env:=by rfl) (hpl:(backTo pos (starEach [e2] X.env)).any (·.1)=false:=by rfl) :
  PI X (.Tuple elts c tp) (.Call (.Name "zip" p) [e1,e2] [] pos) (zuD X.K ta):=by
 intro pins s σ H R I h
 refine Call_ (zdU I hg hm zmN (JA (thn (ha pos pins s σ H _ I h) fun us s1 ⟨vs,H1,I1,r1,q1⟩=>?_) hs hpl))
 obtain ⟨a,b,xs,ys,lb,e,sx,sy,q⟩:=q1; subst e; obtain ⟨u,v,rfl,ru,rv⟩:=zlb r1
 obtain rfl:u=Value.ref a:=ru
 obtain rfl:v=Value.ref b:=rv
 obtain ⟨us,rx,lx⟩:=zig I1 sx; obtain ⟨vs,ry,ly⟩:=zig I1 sy
 have fin:∀ h',IsZip h' (s1.heap.objs.size+4) (s1.heap.objs.size+2) (s1.heap.objs.size+3) .none->IsPair h' (s1.heap.objs.size+2) (.ref s1.heap.objs.size) (.ref (s1.heap.objs.size+1))->IsPair h' (s1.heap.objs.size+3) .none .none ->
   ItB lb h' s1.heap.objs.size a 0->ItB lb h' (s1.heap.objs.size+1) b 0->(∀ c o,s1.heap.get? c=some o->h'.get? c=some o) ->
   wpAny (model X.prog X.w) X.A (pyIter (.ref (s1.heap.objs.size+4))) (PIE X pins σ (.Tuple elts c tp) R) X.xe { s1 with heap:=h' }:=by
  intro h' z1 z2 z3 z4 z5 k
  refine wpAny_pyIter_zip (s:={ s1 with heap:=h' }) z1 ?_
  refine ⟨s1.heap.objs.size+4,[s1.heap.objs.size+4,s1.heap.objs.size+2,s1.heap.objs.size+3,s1.heap.objs.size,s1.heap.objs.size+1],_,_,H1,rfl,I1.kept (t':=s1.toks) k,zld lb a b _ _ _ _ _ (ap5 _),⟨z1,z2,⟨_,_,z3⟩,z4,z5⟩,fun d hd=>?_,q⟩
  have hd':s1.heap.objs.size<=d:=by
   simp only [yQ,YA,or_false] at hd
   rcases hd with rfl | rfl | rfl | rfl | rfl <;> omega
  exact I1.fpOk hd' (I1.hok.fresh hd')
 cases lb with
 | true=>exact call_zip_2 lx ly fun h' z1 z2 z3 z4 z5 _ k=>fin h' z1 z2 z3 z4 z5 k
 | false=>exact zpl lx ly fun h' z1 z2 z3 z4 z5 k=>fin h' z1 z2 z3 z4 z5 k
end
end L2
namespace PL
open PySem L2
def zht {lb:Bool} {K:W.Frag} {H H':Hp} {a:Addr} {vs:List V} (s:zU H H') (h:SqB lb K H a vs):SqB lb K H' a vs:=by
 cases lb with
 | true=>exact zL s h
 | false=>exact zK s h
def zke {K:W.Frag} {Hi:Hp} {a b:Addr} {us vs:List V} {ds es:List D} {lb:Bool} (h1:SqB lb K Hi a us) (r1:zaV K Hi us ds) (h2:SqB lb K Hi b vs) (r2:zaV K Hi vs es):ItD K Hi (Itz lb K a b) ((ds.zip es).map fun p=>.tup [p.1,p.2]):=by
 intro Hi' H' s1 s2
 have q1:SqB lb K H' a us:=zht (s1.trans s2.sub) h1
 have q2:SqB lb K H' b vs:=zht (s1.trans s2.sub) h2
 refine ⟨fun i d e=>?_,us,vs,q1,q2,?_⟩
 ·rw [yK] at e
  obtain ⟨⟨d1,d2⟩,hz,rfl⟩:=Yw.mp e
  obtain ⟨e1,e2⟩:=List.getElem?_zip_eq_some.mp hz; obtain ⟨u,hu,ru⟩:=zab r1 e1; obtain ⟨v,hv,rv⟩:=zab r2 e2; refine ⟨⟨us,vs,u,v,q1,q2,hu,hv⟩,?_⟩
  rintro x H'' ⟨p,x1,y1,hp,rfl,rfl,k1,k2⟩
  have ex:x1=u:=by have:=k1 us q1; rw [hu] at this; exact (Option.some.inj this).symm
  have ey:y1=v:=by have:=k2 vs q2; rw [hv] at this; exact (Option.some.inj this).symm
  subst ex ey
  have ex:=Ext.new s2 hp (.tup [x1,y1]); exact ⟨_,ex,Den.mkT zn (.cons (ru.mono (s1.trans ex.hi)) (.cons (rv.mono (s1.trans ex.hi)) .nil))⟩
 ·rw [yG,List.length_zip,zj r1,zj r2]
  omega
section
def zmC (t:TA'):TI':=fun Γ Q=>t Γ fun ds Γ1=>∃ xs ys,(ds=[.tup xs,.tup ys]\/ds=[.lst xs,.lst ys])/\Q ((xs.zip ys).map fun p=>.tup [p.1,p.2]) Γ1
def zop {e1 e2:Expr} {elts:List Expr} {c:Nat} {t:TA'} {p pos tp:Pos} (hm:X.mg "zip"=none) (ha:PA' X [e1,e2] t) (hg:Gl X "zip":=by rfl):PI' X (.Tuple elts c tp) (.Call (.Name "zip" p) [e1,e2] [] pos) (zmC t):=by
 refine ⟨PI.weak (zqA hg hm ha.pa (zZ (zD ha.pl).1) (zaa (zD ha.pl).2)) ?_⟩
 rintro σ H R ⟨W,Hi,Γ,Q,g,h,fin⟩
 refine ⟨W,Hi,Γ,_,g,h,?_⟩
 rintro vs H1 Hi1 Γ1 ds s1 g1 dl ⟨xs,ys,hd,q⟩
 rcases hd with rfl | rfl
 ·obtain ⟨v,w,rfl,d1,d2⟩:=ziM dl
  obtain ⟨a,us,rfl,h1,r1⟩:=d1.tupI; obtain ⟨b,ws,rfl,h2,r2⟩:=d2.tupI; exact ⟨a,b,us,ws,false,rfl,zK g1.sub h1,zK g1.sub h2,fin _ H1 Hi1 Γ1 _ s1 g1 (zke (lb:=false) h1 r1 h2 r2) q⟩
 ·obtain ⟨v,w,rfl,d1,d2⟩:=ziM dl
  obtain ⟨a,us,rfl,h1,r1⟩:=d1.lstI; obtain ⟨b,ws,rfl,h2,r2⟩:=d2.lstI; exact ⟨a,b,us,ws,true,rfl,zL g1.sub h1,zL g1.sub h2,fin _ H1 Hi1 Γ1 _ s1 g1 (zke (lb:=true) h1 r1 h2 r2) q⟩
end
end PL
namespace Lb
def Dig (c:Nat):Prop:=48<=c/\c<=57
def Sml (c:Nat):Prop:=97<=c/\c<=122
def zpB:List Nat:=[97,98,99,100,101,102,103,104,105,106,107,108,109,110,111,112,113,114,115,116,117,118,119,120,121,122]
def zrm:List Nat:=[48,49,50,51,52,53,54,55,56,57]
def zma (c:Nat):c ∈ zpB↔Sml c:=by
 show c ∈ List.range' 97 26↔_
 rw [List.mem_range'_1]; unfold Sml; omega
def zdx (c:Nat):c ∈ zrm↔Dig c:=by
 show c ∈ List.range' 48 10↔_
 rw [List.mem_range'_1]; unfold Dig; omega
theorem zcn {p:Nat->Bool}:∀ (ls ds:List Nat),(∀ c ∈ ls,p c=true)->(∀ c ∈ ds,p c=false)->(ls ++ ds).takeWhile p=ls
 | [],[],_,_=>rfl
 | [],d :: ds,_,h=>by rw [Yn,List.takeWhile_cons,h d (yU ..)]; rfl
 | l :: ls,ds,h1,h2=>by
  rw [List.cons_append,List.takeWhile_cons,h1 l (yU ..),yI rfl,zcn ls ds (fun c hc=>h1 c (yO _ hc)) h2]
def zif {p:Nat->Bool} {ds ls:List Nat} (h1:∀ c ∈ ls,p c=true) (h2:∀ c ∈ ds,p c=false):(((ds ++ ls).reverse).takeWhile p).length=ls.length:=by
 rw [List.reverse_append,zcn _ _ (fun c hc=>h1 c (YZ.mp hc)) (fun c hc=>h2 c (YZ.mp hc)),List.length_reverse]
def dig (c:Nat):Bool:=decide (c ∈ zrm)
def sml (c:Nat):Bool:=decide (c ∈ zpB)
def wsg:List Nat:=zpB ++ zrm
def cut (l:List Nat):List Nat:=(l.reverse.dropWhile sml).reverse
def zcH (l:List Nat):List Nat:=(l.reverse.takeWhile sml).reverse
def zfn (l:List Nat):cut l ++ zcH l=l:=by
 unfold cut zcH; rw [<- List.reverse_append,List.takeWhile_append_dropWhile,List.reverse_reverse]
theorem zco {p:Nat->Bool}:∀ l:List Nat,∀ c ∈ l.takeWhile p,p c=true
 | [],c,h=>by simp at h
 | a :: r,c,h=>by
  rw [List.takeWhile_cons] at h; split at h
  ·rename_i ha
   rcases yQ.mp h with e | e
   ·rw [e]; exact ha
   ·exact zco r c e
  ·simp at h
def zli (l:List Nat):∀ c ∈ zcH l,sml c=true:=fun c hc=>zco _ c (YZ.mp hc)
def zd5 {c:Nat} (h:dig c=true):sml c=false:=by
 have a:=(zdx c).mp (of_decide_eq_true h)
 refine yY fun z=>?_
 have b:=(zma c).mp z; unfold Dig at a; unfold Sml at b; omega
def zrt {ds ls:List Nat} (h1:∀ c ∈ ls,sml c=true) (h2:∀ c ∈ ds,sml c=false):cut (ds ++ ls)=ds:=by
 have e:=zif h1 h2; have a:=zfn (ds ++ ls)
 have hl:(zcH (ds ++ ls)).length=ls.length:=by
  unfold zcH; rw [List.length_reverse]; exact e
 have hl2:(cut (ds ++ ls)).length=ds.length:=by
  have:=ym List.length a
  rw [yg,yg] at this; omega
 exact (List.append_inj a hl2).1
def zv (l:List Nat):Bool:=decide (1<=(cut l).length/\(cut l).length<=9) && decide ((cut l)[0]?≠some 48) && (cut l).all dig && decide (l.length-(cut l).length<=3)
end Lb
namespace M11
open PySem L2 Lb PL
theorem zgh:∀ (m:Nat),1<=m->∃ c r,Nat.toDigits 10 m=c :: r/\c.toNat≠48
 | m,h=>by
  by_cases hm:m<10
  ·refine ⟨_,[],Nat.toDigits_of_lt_base hm,?_⟩
   have:∀ k:Fin 10,k.1≠0->(Nat.digitChar k.1).toNat≠48:=by decide
   exact this ⟨m,hm⟩ (Nat.pos_iff_ne_zero.mp h)
  ·obtain ⟨c,r,e,hc⟩:=zgh (m / 10) (by omega)
   exact ⟨c,r ++ [(m % 10).digitChar],by rw [Nat.toDigits_of_base_le (by decide) (by omega),e]; rfl,hc⟩
termination_by m=>m
decreasing_by omega
def num_lab {n:Int} (h0:1<=n) (h1:n<10 ^ 9):(∀ c ∈ zkS n,dig c=true)/\1<=(zkS n).length/\(zkS n).length<=9/\(zkS n)[0]?≠some 48:=by
 have hl:=PyProof.Rows.toString_length_le (v:=n) (by omega) (k:=9) (by decide) h1
 obtain ⟨m,rfl⟩:=Int.eq_ofNat_of_zero_le (show 0<=n by omega)
 have hs:=W.KIN.signs_num m
 obtain ⟨c,r,e,hc⟩:=zgh m (by omega)
 unfold zkS
 refine ⟨fun c hc=>?_,?_,?_,?_⟩
 ·rw [hs] at hc
  obtain ⟨d,hd,rfl⟩:=yh.mp hc
  have hdig:=Nat.isDigit_of_mem_toDigits (by decide) (by decide) hd
  simp only [Char.isDigit,yp,yo] at hdig; exact YD ((zdx _).mpr ⟨hdig.1,hdig.2⟩)
 ·rw [hs,e]
  simp
 ·rw [show (Str.ofString (toString (m:Int))).cps.toList.length=(Str.ofString (toString (m:Int))).length by simp [Str.length]]
  exact hl
 ·rw [hs,e]
  simpa using hc
def lab_of {ds ls:List Nat} (h1:∀ c ∈ ds,dig c=true) (h2:1<=ds.length) (h3:ds.length<=9) (h4:ds[0]?≠some 48) (h5:∀ c ∈ ls,sml c=true) (h6:ls.length<=3):zv (ds ++ ls)=true:=by
 have e:cut (ds ++ ls)=ds:=zrt h5 fun c hc=>zd5 (h1 c hc)
 unfold zv; rw [e]
 have ha:ds.all dig=true:=Yj.mpr h1
 rw [ha,YD (⟨h2,h3⟩:1<=ds.length/\ds.length<=9),YD h4,YD (show (ds ++ ls).length-ds.length<=3 by rw [yg]; omega)]
 rfl
end M11
namespace MT
open PySem L2 PL
abbrev Pl:=List (List Nat)
inductive Tr where
 | node (l:List Nat) (ws:Pl) (ks:List Tr)
def Tr.lab:Tr->List Nat
 | .node l _ _=>l
def Tr.wds:Tr->Pl
 | .node _ ws _=>ws
def Tr.kds:Tr->List Tr
 | .node _ _ ks=>ks
mutual
def trD:Tr->D
 | .node l ws ks=>.tup [.str l,plc ws,.tup (zpQ ks)]
def zpQ:List Tr->List D
 | []=>[]
 | t :: r=>trD t :: zpQ r
end
theorem zhm:∀ ks:List Tr,zpQ ks=ks.map trD
 | []=>by simp [zpQ]
 | t :: r=>by simp [zpQ,zhm r]
def zag (t:Tr):trD t=.tup [.str t.lab,plc t.wds,.tup (t.kds.map trD)]:=by
 cases t with
 | node l ws ks=>simp [trD,zhm,Tr.lab,Tr.wds,Tr.kds]
def zo (l:List Nat) (ks:List Tr):Option Tr:=ks.find? fun k=>decide (k.lab=l)
def ziv:Option Tr->D
 | none=>.non
 | some t=>trD t
def zu:Tr->Pl->Option Tr
 | t,[]=>some t
 | t,l :: p=>match zo l t.kds with
  | none=>none
  | some k=>zu k p
def zpL (above zb7:Tr):Tr:=.node above.lab above.wds (above.kds.map fun k=>if k.lab=zb7.lab then zb7 else k)
def zaW:Tr->Pl->Tr->Tr
 | _,[],n=>n
 | t,l :: p,n=>match zo l t.kds with
  | none=>n
  | some k=>zpL t (zaW k p n)
def zc1 (t:Tr):trD t≠.non:=by rw [zag]; simp
inductive Pln:Nat->D->Prop where
 | str (n:Nat) (l:List Nat):Pln n (.str l)
 | tup {n:Nat} {ds:List D} (h:∀ d ∈ ds,Pln n d):Pln (n+1) (.tup ds)
 | lst {n:Nat} {ds:List D} (h:∀ d ∈ ds,Pln n d):Pln (n+1) (.lst ds)
def Pln.plc (n:Nat) (p:Pl):Pln (n+1) (plc p):=.tup fun d hd=>by
 obtain ⟨l,_,rfl⟩:=yh.mp hd; exact .str n l
def Pln.up {n:Nat} {d:D} (h:Pln n d):∀ {m:Nat},n<=m->Pln m d:=by
 induction h with
 | str n l=>exact fun _=>.str _ l
 | tup h ih =>
  intro m hm
  obtain ⟨k,rfl⟩:∃ k,m=k+1:=⟨m-1,by omega⟩
  exact .tup fun d hd=>ih d hd (by omega)
 | lst h ih =>
  intro m hm
  obtain ⟨k,rfl⟩:∃ k,m=k+1:=⟨m-1,by omega⟩
  exact .lst fun d hd=>ih d hd (by omega)
inductive Dp:Nat->Tr->Prop where
 | mk {n:Nat} {l:List Nat} {ws:Pl} {ks:List Tr} (h:∀ k ∈ ks,Dp n k):Dp (n+1) (.node l ws ks)
def Dp.pln {n:Nat} {t:Tr} (h:Dp n t):Pln (2 * n+1) (trD t):=by
 induction h with
 | @mk n l ws ks h ih =>
  rw [zag]
  refine .tup fun d hd=>?_
  simp only [yQ,YA,or_false] at hd
  rcases hd with rfl | rfl | rfl
  ·exact .str _ _
  ·exact .plc _ _
  ·exact .tup fun d hd=>by
    obtain ⟨k,hk,rfl⟩:=yh.mp hd; exact ih k hk
def zjh (ws old:Pl):List Nat:=(List.range (ws.length+1-old.length)).filter fun b=>decide ((ws.drop b).take old.length=old)
theorem zcB:∀ (p:Pl) (t:Tr) (l:List Nat),zu t (p ++ [l])=match zu t p with
  | none=>none
  | some k=>zo l k.kds
 | [],t,l=>by
  simp only [Yn,zu]
  cases zo l t.kds <;> rfl
 | m :: p,t,l=>by
  simp only [List.cons_append,zu]
  cases zo m t.kds with
  | none=>rfl
  | some k=>exact zcB p k l
def zg0 {t:Tr} {p:Pl} (h:(zu t p).isSome=true):∀ i,(zu t (p.take i)).isSome=true:=by
 intro i
 have e:p=p.take i ++ p.drop i:=(List.take_append_drop i p).symm
 generalize p.drop i=r at e; generalize hq:p.take i=a at e
 clear hq
 subst e
 induction r generalizing a with
 | nil=>simpa using h
 | cons l r ih =>
  have h':(zu t ((a ++ [l]) ++ r)).isSome=true:=by simpa using h
  have:=ih (a ++ [l]) h'
  rw [zcB] at this
  cases hn:zu t a with
  | none=>rw [hn] at this; exact this
  | some k=>rfl
end MT
namespace L2
open PySem PySem.Spec PyProof.Rows
def PU (X:Cx) (e:Expr) (t:TE):Prop:=∀ (pins:yyL) (s:Shared) (σ:St) (H:Hp) (Q:VK) (i:Nat) (x:Str) (pos pos':Pos) (D:Ends),Inv X pins σ H s->t σ H Q->X.N.Nodup->X.N[i]?=some x->X.env.scope.names.lookup x=some .local ->
 swapsWith e (some (.Name x pos')) pos.line X.env=pure true->(∀ v H',Q v H'->D.nx (σ.set i (some v)) H')->wpAny (model X.prog X.w) X.A (exec (.Assign [.Name x pos'] e pos) X.env) (SP X pins D) X.xe s
def PU.weak {X:Cx} {e:Expr} {t t2:TE} (h:PU X e t) (w:∀ σ H Q,t2 σ H Q->t σ H Q):PU X e t2:=fun pins s σ H Q i x pos pos' D I q=>h pins s σ H Q i x pos pos' D I (w _ _ _ q)
def zoc {X:Cx} {elt tg iter:Expr} {ifs:List Expr} {sc fsc:Scope} {pos:Pos} {wi:TI} {g:TG} {tc:TT} {te:TE} {N N':List Str} {src:List (Option Nat)} (B:Blk N N' src fsc sc) (hi:PI X tg iter wi)
  (hg:∀ cl C s H fp pn,PG (blk X N' sc cl C s H fp pn) tg g) (ht:∀ cl C s H fp pn,PTs (blk X N' sc cl C s H fp pn) ifs tc) (he:∀ cl C s H fp pn,PE (blk X N' sc cl C s H fp pn) elt te)
  (hx:X.xe=(fun _ _=>False):=by rfl) (hc:X.calm=true:=by rfl) (hN:X.N=N:=by rfl) (hs:X.env.scope=fsc:=by rfl)
  (hf:∀ x,foldedSetIterable iter X.env x=pure x:=by intro _; rfl):PU X (.ListComp elt [⟨tg,iter,ifs,0⟩] sc pos) (zp0 wi src g tc te):=by
 intro pins s σ H Q i0 x0 p0 p1 D0 I h hNd hi0 hx0 hsw fin; rw [exec_Assign_Name_used _ _ _ _ hsw]; refine yA (wpAny_standAt (yA ?_))
 show wpAny _ _ (do let _ <- comprehension (.ListComp elt [⟨tg,iter,ifs,0⟩] sc pos) sc X.env _ (newList []) false (eval iter X.env) (some (assign (.Name x0 p1) X.env))) _ _ _
 have hfr:∀ y ∈ sc.names,y.2=.free->∃ c,X.env.cells.lookup y.1=some c:=fun y hy e=>I.ok.has y.1 (.inl (by have:=B.free y hy e; rw [<- hs] at this; exact this))
 refine yA (yf (wpAny_comprehension_free (use:=some (assign (.Name x0 p1) X.env)) (Q:=fun _ s'=>SP X pins D0 .next s') (cl:=zct X.env.cells sc.names []) rfl hf (zeC hfr) B.kind B.names ?_) (fun _ s' hq=>yF (yF hq)) fun _ _ e=>e)
 refine thn (hi pins s σ H _ I h) fun v s1 h1=>thn h1 fun itv s2 h2=>?_
 obtain ⟨it,fp,tn,J,H2,e,I2,T,st2,f2,q⟩:=h2; subst e
 obtain ⟨W,⟨m0,w0⟩,turn⟩:=q s2.heap.objs.size (I2.hok.fresh (yD _))
 refine YC (wpAny_newFunctionEnv B.cell (by intro y hy; simp at hy) (fun h1 hns hsb=>?_) B.kind)
 dsimp only at hns hsb ⊢
 have I3:Inv X pins σ (upd H2 s2.heap.objs.size (.lst [])) { s2 with heap:=s2.heap.push { cls:=.type "list",dict:=none,data:=.seq ([]:List Value).toArray } } :=
  I2.laid (t':=s2.toks) (fun b o e=>yC _ e) (yD _) ⟨yn _,[],0,.nil,yM _ rfl⟩
 have fb:∀ b ∈ fp,b<s2.heap.objs.size:=fun b hb=>by
  obtain ⟨o,e,_⟩:=T.obj 0 _ st2 b hb; exact yJ e
 have f3:∀ b ∈ fp,zdq X pins (upd H2 s2.heap.objs.size (.lst [])) b:=fun b hb=>by
  refine ⟨?_,(f2 b hb).2⟩; rw [zq (yW (fb b hb))]; exact (f2 b hb).1
 generalize hh3:s2.heap.push { cls:=.type "list",dict:=none,data:=.seq ([]:List Value).toArray }=h3 at hns hsb I3 ⊢
 have z3:s2.heap.objs.size<h3.objs.size:=by rw [<- hh3,Yl]; exact Nat.lt_succ_self _
 have k3:∀ b o,h3.get? b=some o->h1.get? b=some o:=fun b o e=>hsb.extBut b o (yW (yJ e)) (yC _ e)
 have I4:=znF (tk:=s2.toks+([]:List (Str × Value)).length) I3 B hN hs f3 (fun b hb=>Nat.lt_trans (fb b hb) z3) hns k3
 have st4:tn 0 h1:=T.keep 0 _ _ st2 fun b hb o e=>k3 b o (by rw [<- hh3]; exact yC _ e)
 have fok:∀ {H':Hp},(∀ b ∈ fp,H' b=none)->∀ b ∈ fp,zdq (blk X N' sc (zct X.env.cells sc.names []) h3.objs.size { s2 with heap:=h3 } (upd H2 s2.heap.objs.size (.lst [])) fp (X.pn ++ pins)) [] H' b:=fun hn b hb=>by
  obtain ⟨_,g1,g2,g3,g4,g5⟩:=f3 b hb
  refine ⟨hn b hb,yW (Nat.lt_trans (fb b hb) z3),fun z=>?_,.inl hb,fun x c e=>g4 x c (zcY sc.names [] hfr (fun _ _ z=>by simp at z) e),fun p hp=>g5 p (by rw [yd] at hp; exact hp)⟩
  rcases yQ.mp (I3.stkSub b z) with e | e
  ·exact g1 e
  ·exact g2 e
 have loop:∀ s4:Shared,s4={ s2 with heap:=h1,toks:=s2.toks+([]:List (Str × Value)).length } ->
   codeAny (model X.prog X.w) X.A (.compLoop (.ListComp elt [⟨tg,iter,ifs,0⟩] sc pos) 0 (.ref it) (.ref s2.heap.objs.size) (compEnvC sc (zct X.env.cells sc.names []) h3.objs.size X.env))
    (compPost (model X.prog X.w) X.A X.xe (some (assign (.Name x0 p1) X.env)) (fun _ s'=>SP X pins D0 .next s') (.ref s2.heap.objs.size) h3.objs.size) s4:=by
  rintro s4 rfl
  refine zgn (fun k s'=>∃ i σ5 H5,Inv (blk X N' sc (zct X.env.cells sc.names []) h3.objs.size { s2 with heap:=h3 } (upd H2 s2.heap.objs.size (.lst [])) fp (X.pn ++ pins)) [] σ5 H5 s'/\tn i s'.heap/\(∀ b ∈ fp,H5 b=none)/\W i k σ5 H5) ?_ m0
   ⟨0,_,_,I4,st4,fun b hb=>(f3 b hb).1,w0⟩
  rintro k s5 ⟨i,σ5,H5,I5,st5,fr5,w5⟩
  rcases turn i k σ5 H5 w5 with ⟨stop,qd⟩ | ⟨go,M,hM,step⟩
  ·refine thn (T.done (blk X N' sc (zct X.env.cells sc.names []) h3.objs.size { s2 with heap:=h3 } (upd H2 s2.heap.objs.size (.lst [])) fp (X.pn ++ pins)) rfl rfl rfl hc i [] s5 σ5 H5 _ I5 (fok fr5) st5 stop) fun r s6 ⟨hr,I6⟩=>?_
   subst hr; obtain ⟨m6,hn6,_⟩:=id I6.loc
   have I7:Inv X pins σ H5 s6:=I3.call' (s':=s6) (ch:=fp) I6.os (Un.same I6.base (Heap.SameBut.refl ..) (yD _)) (HOk.same I6.hok (Heap.SameBut.refl ..) I6.free) I6.bare fun b hb=>⟨(f3 b hb).2.2.2.1,(f3 b hb).2.1,(f3 b hb).2.2.2.2.1,(f3 b hb).2.2.2.2.2⟩
   obtain ⟨c0,c1,c2,c3,c4,c5⟩:=I3.fpOk (H':=H5) (b:=h3.objs.size) (yD _) I6.free
   show wpAny _ _ (assign (.Name x0 p1) X.env (.ref s2.heap.objs.size)) _ _ _
   refine wpAny_assign_Name (zfG (v:=.ref s2.heap.objs.size) I7 hNd hi0 (.inl hx0) rfl (fun s8 I8 sb=>?_) (.inr hx0))
   obtain ⟨a8,sb8,ha8⟩:=sb
   have ne8:h3.objs.size≠a8:=by
    rcases ha8 with e | e
    ·rw [e]; exact c1
    ·exact fun z=>c4 _ _ e z.symm
   exact ⟨m6,hn6.sameBut sb8 ne8,fun h' hsb'=>⟨_,H5,I8.turned (t':=s8.toks) (fun b o hb e=>(hsb'.2 b hb).trans e) c0 c1 c3 c4 c5,fin _ _ qd⟩⟩
  ·refine thn (T.item (blk X N' sc (zct X.env.cells sc.names []) h3.objs.size { s2 with heap:=h3 } (upd H2 s2.heap.objs.size (.lst [])) fp (X.pn ++ pins)) rfl rfl rfl hc i [] s5 σ5 H5 _ I5 (fok fr5) st5 go) fun r s6 ⟨u,hr,h6⟩=>?_
   subst hr
   refine thn h6 fun _ s7 ⟨x,H7,I7,r7,y7,st7,fr7⟩=>?_
   have I7':=I7.pinned (fok fr7) (T.obj _ _ st7)
   have back:∀ {σ8:St} {H8:Hp} {s8:Shared},Inv (blk X N' sc (zct X.env.cells sc.names []) h3.objs.size { s2 with heap:=h3 } (upd H2 s2.heap.objs.size (.lst [])) fp (X.pn ++ pins)) ([] ++ zet fp s7.heap) σ8 H8 s8->tn (i+1) s8.heap/\∀ b ∈ fp,H8 b=none:=fun {σ8 H8 s8} I8=>by
    have pn8:∀ b ∈ fp,∀ o,s7.heap.get? b=some o->s8.heap.get? b=some o/\H8 b=none:=fun b hb o e=>by
     have q:=I8.pin (b,o) (yV _ (yV _ (zci hb e))); exact ⟨q.1,q.2.1⟩
    refine ⟨T.keep _ _ _ st7 fun b hb o e=>(pn8 b hb o e).1,fun b hb=>?_⟩
    obtain ⟨o,e,_⟩:=T.obj _ _ st7 b hb; exact (pn8 b hb o e).2
   have xf:∀ {α:Type} {t:Sem α} {Q1 Q2:α->Shared->Prop} {z:Shared},wpAny (model X.prog X.w) X.A t Q1 X.xe z->(∀ a z',Q1 a z'->Q2 a z')->wpAny (model X.prog X.w) X.A t Q2 (fun _ _=>False) z:=fun g1 g2=>by
    rw [hx] at g1; exact thn g1 g2
   refine xf (hg _ _ _ _ _ _ _ s7 σ5 H7 x u _ I7' r7 (step x H7 y7)) fun _ s8 ⟨σ8,H8,I8,q8⟩=>?_
   refine xf (ht _ _ _ _ _ _ _ s8 σ8 H8 _ I8 q8) fun b s9 ⟨H9,I9,q9⟩=>?_
   cases b with
   | false =>
    obtain ⟨m',hm,w'⟩:=hM σ8 H9 (by simpa using q9)
    obtain ⟨g1,g2⟩:=back I9; exact ⟨m',hm,i+1,σ8,H9,I9.unpinned,g1,g2,w'⟩
   | true =>
    rw [yI rfl] at q9 ⊢
    refine xf (he _ _ _ _ _ _ _ s9 σ8 H9 _ I9 q9) fun y s10 ⟨yv,H10,I10,r10,ys,hy,hz,w⟩=>?_
    obtain ⟨m',hm,w'⟩:=hM _ _ w
    refine xf (zdR (X:=(blk X N' sc (zct X.env.cells sc.names []) h3.objs.size { s2 with heap:=h3 } (upd H2 s2.heap.objs.size (.lst [])) fp (X.pn ++ pins))) _ s10 σ8 H10 (.ref s2.heap.objs.size) [yv] _ [y] (fun _ H11=>H11=upd H10 s2.heap.objs.size (.lst (ys ++ [yv]))) I10 rfl (.cons r10 .nil) ⟨_,ys,yv,rfl,rfl,hy,hz,rfl⟩) fun _ s11 ⟨_,H11,I11,_,e11⟩=>?_
    subst e11; obtain ⟨g1,g2⟩:=back I11; exact ⟨m',hm,i+1,σ8,_,I11.unpinned,g1,g2,w'⟩
 exact codeAny_compStart_list (loop _ rfl) (T.self _ 0 _ _ _ st4 (loop _ rfl))
end L2
namespace PL
open PySem L2
structure PU' (X:Cx) (e:Expr) (t:TO'):Prop where
 h:PU X e (oOf X.K X.N.length t)
section
variable {pos:Pos}
def zlE {elt tg iter:Expr} {ifs:List Expr} {sc fsc:Scope} {ti:TI'} {g:TG'} {tc:TT'} {te:TE'} {N N':List Str} {src:List (Option Nat)} (B:Blk N N' src fsc sc) (hi:PI' X tg iter ti)
  (hg:∀ cl C s H fp pn,PG' (blk X N' sc cl C s H fp pn) tg g) (ht:∀ cl C s H fp pn,PTs' (blk X N' sc cl C s H fp pn) ifs tc) (he:∀ cl C s H fp pn,PE' (blk X N' sc cl C s H fp pn) elt te)
  (hx:X.xe=(fun _ _=>False):=by rfl) (hc:X.calm=true:=by rfl) (hN:X.N=N:=by rfl) (hs:X.env.scope=fsc:=by rfl)
  (hf:∀ x,foldedSetIterable iter X.env x=pure x:=by intro _; rfl):PU' X (.ListComp elt [⟨tg,iter,ifs,0⟩] sc pos) (zbQ ti src g tc te):=by
 refine ⟨PU.weak (zoc (g:=gOf X.K N'.length g) (tc:=zpt X.K N'.length tc) (te:=tOf X.K N'.length te) B hi.h (fun a b c d e f=>(hg a b c d e f).h) (fun a b c d e f=>(ht a b c d e f).h) (fun a b c d e f=>(he a b c d e f).h) hx hc hN hs hf) ?_⟩
 rintro σ H Q2 ⟨W,Hi,Γ,Q,gd,h,fin⟩
 refine ⟨W,Hi,Γ,_,gd,h,?_⟩
 rintro J H1 Hi1 Γ1 ds s1 g1 itd ⟨hlen,q⟩
 intro A hA
 -- the state between two turns
 have hn':src.length=N'.length:=B.len
 refine zgm (n:=ds.length) (fun i σ' H'=>∃ Hi' acc vs Γ',zU Hi1 Hi'/\Fz Hi' H'/\(∀ b o,H1 b=some o->H' b=some o)/\(∀ b o,H1 b=some o->Hi' b=Hi1 b)/\Hi' A=none/\H' A=some (.lst vs)/\zaV X.K Hi' vs acc/\vs.length<=i/\σ'.length=N'.length /\
   (∀ (j:Nat) s,Γ'[j]?=some s->s=.emp\/∃ d,s=.val d/\∃ v,σ'[j]?=some (some v)/\Den X.K Hi' v d)/\zcF g tc te (fun acc=>Q (.lst acc) Γ1) (ds.drop i) acc Γ') ?_ ?_ ?_
 ·refine ⟨Hi1,[],[],zkZ src Γ1,zU.refl _,(Ext.newO g1.fz hA _ (fun _ z=>by cases z)).fz,fun b o e=>zH hA _ b o e,fun b o e=>rfl,g1.sub.free hA,zn,.nil,yn _,?_,fun j s e=>?_,by simpa using q⟩
  ·unfold zlr; rw [yG,hn']
  ·unfold zkZ at e
   rw [yK] at e
   cases hj:src[j]? with
   | none=>rw [hj] at e; cases e
   | some o =>
    rw [hj] at e
    cases o with
    | none=>cases e; exact .inl rfl
    | some i =>
     have e':(match Γ1[i]? with | some (.val d)=>Slot.val d | _=>.emp)=s:=Option.some.inj e
     cases hΓ:Γ1[i]? with
     | none=>rw [hΓ] at e'; exact .inl e'.symm
     | some sl =>
      rw [hΓ] at e'
      cases sl with
      | val d =>
       refine .inr ⟨d,e'.symm,?_⟩; obtain ⟨v,h1,h2⟩:=g1.val i d hΓ; refine ⟨v,?_,h2⟩; unfold zlr; rw [yK,hj]
       show some ((some i).bind fun i=>(σ[i]?).join)=some (some v)
       show some ((σ[i]?).join)=some (some v)
       rw [h1]; rfl
      | emp=>exact .inl e'.symm
      | own o=>exact .inl e'.symm
      | bk _ _ _=>exact .inl e'.symm
 ·rintro i σ' H' hlt ⟨Hi',acc,vs,Γ',s2,s3,k1,k2,hA1,hA2,dl,hv,hl,hsl,q⟩
  have hd:ds.drop i=ds[i] :: ds.drop (i+1):=YK hlt
  rw [hd] at q; obtain ⟨go,yl⟩:=(itd Hi' H' s2 s3).1 i ds[i] (yB hlt)
  refine ⟨go,fun x H'' y=>?_⟩
  obtain ⟨Hi'',ex,den⟩:=yl x H'' y
  have gb:Good X.K N'.length ⟨H'',Hi'',[]⟩ Hi'' Γ' σ' H'':=by
   refine ⟨hl,ex.fz,fun b o e _=>e,fun b o e=>⟨o,e⟩,fun b o e=>rfl,fun j d e=>?_,fun j o e=>?_,fun j k o o' b e=>?_,fun j d b xs e=>?_⟩
   ·rcases hsl j _ e with z | ⟨d',z,v,h1,h2⟩
    ·cases z
    ·cases z; exact ⟨v,h1,h2.mono ex.hi⟩
   ·rcases hsl j _ e with z | ⟨d',z,_⟩ <;> cases z
   ·rcases hsl j _ e with z | ⟨d',z,_⟩ <;> cases z
   ·rcases hsl j _ e with z | ⟨d',z,_⟩ <;> cases z
  refine ⟨⟨H'',Hi'',[]⟩,Hi'',Γ',ds[i],_,gb,den,q,?_⟩; intro σ3 H3 Hi3 Γ3 s4 g3 q3; refine ⟨⟨H'',Hi'',[]⟩,Hi3,Γ3,_,g3,q3,?_⟩; intro b H4 Hi4 Γ4 s5 g4 q4
  -- what the state is behind a turn
  have back:∀ {Γ5:Sts} {Hi5 H5:Hp},zU Hi4 Hi5->Good X.K N'.length ⟨H'',Hi'',[]⟩ Hi5 Γ5 σ3 H5 ->
    zU Hi1 Hi5/\Fz Hi5 H5/\(∀ b o,H1 b=some o->H5 b=some o)/\(∀ b o,H1 b=some o->Hi5 b=Hi1 b)/\Hi5 A=none/\H5 A=some (.lst vs)/\zU Hi' Hi5:=fun {Γ5 Hi5 H5} s6 g5=>by
   have sx:zU Hi' Hi5:=ex.hi.trans (s4.trans (s5.trans s6))
   have hA3:H'' A=some (.lst vs):=ex.h _ _ hA2
   refine ⟨s2.trans sx,g5.fz,fun b o e=>g5.keep b o (ex.h _ _ (k1 b o e)) (by simp),fun b o e=>?_,?_,g5.keep A _ hA3 (by simp),sx⟩
   ·rw [g5.fro b o (ex.h _ _ (k1 b o e))]
    show Hi'' b=Hi1 b
    rw [ex.fro b o (k1 b o e),k2 b o e]
   ·rw [g5.fro A _ hA3]
    show Hi'' A=none
    rw [ex.fro A _ hA2,hA1]
  have sl:∀ {Γ5:Sts} {Hi5 H5:Hp},Good X.K N'.length ⟨H'',Hi'',[]⟩ Hi5 Γ5 σ3 H5->∀ (j:Nat) s,(vo Γ5)[j]?=some s->s=.emp\/∃ d,s=.val d/\∃ v,σ3[j]?=some (some v)/\Den X.K Hi5 v d:=fun {Γ5 Hi5 H5} g5 j s e=>by
   unfold vo at e; rw [yK] at e
   cases hj:Γ5[j]? with
   | none=>rw [hj] at e; cases e
   | some sl =>
    rw [hj] at e
    cases sl with
    | val d =>
     cases e; exact .inr ⟨d,rfl,g5.val j d hj⟩
    | emp=>cases e; exact .inl rfl
    | own o=>cases e; exact .inl rfl
    | bk _ _ _=>cases e; exact .inl rfl
  cases b with
  | false =>
   simp only [YL,if_false] at q4 ⊢; obtain ⟨b1,b2,b3,b4,b5,b6,b7⟩:=back (zU.refl _) g4
   exact ⟨Hi4,acc,vs,vo Γ4,b1,b2,b3,b4,b5,b6,dl.mono b7,by omega,g4.len,sl g4,q4⟩
  | true =>
   simp only [if_true] at q4 ⊢; refine ⟨⟨H'',Hi'',[]⟩,Hi4,Γ4,_,g4,q4,?_⟩
   rintro y' H5 ⟨Hi5,dy,Γ5,s6,g5,den5,q5⟩
   obtain ⟨b1,b2,b3,b4,b5,b6,b7⟩:=back s6 g5
   refine ⟨vs,b6,by omega,Hi5,acc ++ [dy],vs ++ [y'],vo Γ5,b1,?_,?_,b4,b5,zn,zaL (dl.mono b7) (.cons den5 .nil),by rw [yg]; simp; omega,g5.len,sl g5,q5⟩
   ·refine ⟨fun b o e=>?_,fun b xs e=>?_⟩
    ·rw [zq (fun z=>by rw [z,b5] at e; cases e)]
     exact b2.sub b o e
    ·by_cases hb:b=A
     ·subst hb; rw [zn] at e; cases e
     ·rw [zq hb] at e; exact b2.tups b xs e
   ·intro b o e
    rw [zq (zw e hA)]; exact b3 b o e
 ·rintro σ' H' ⟨Hi',acc,vs,Γ',s2,s3,k1,k2,hA1,hA2,dl,hv,hl,hsl,q⟩
  refine ⟨(itd Hi' H' s2 s3).2,?_⟩; rw [YM (yD _)] at q
  have ex:Ext Hi1 H1 Hi' H':=⟨s2,k1,s3,k2⟩
  refine fin A H' Hi' Γ1 (.lst acc) (s1.trans s2) (g1.ext ex) ⟨hA1,?_,⟨fun j o' e z=>?_,fun j d xs e=>?_⟩,vs,hA2,dl⟩ q
  ·cases hq:W.H₀ A with
   | none=>rfl
   | some w =>
    obtain ⟨w',hw⟩:=g1.there A w hq
    rw [hA] at hw; cases hw
  ·obtain ⟨a,h1,_,_,h4⟩:=g1.own j o' e
   rw [z] at h1; cases h1; obtain ⟨w,hw⟩:=h4.there
   rw [hA] at hw; cases hw
  ·obtain ⟨w,hw⟩:=(g1.bk j d A xs e).at_.there
   rw [hA] at hw; cases hw
def zlG (i:Nat) {x:Str} {e:Expr} {te:TO'} {pos':Pos} (hN:X.N.Nodup) (he:PU' X e te) (hi:X.N[i]?=some x:=by rfl) (hx:X.env.scope.names.lookup x=some .local:=by rfl) (hs:swapsWith e (some (.Name x pos')) pos.line X.env=pure true:=by rfl):PS' X (.Assign [.Name x pos'] e pos) (zaD (zcv te) (zx i)):=by
 refine ⟨fun pins s σ H N2 I q=>?_⟩
 obtain ⟨W,Hi,Γ,N,g,h,l⟩:=q
 refine he.h pins s σ H (fun v H'=>N2.nx (σ.set i (some v)) H') i x pos pos' N2 I ⟨W,Hi,Γ,_,g,h,?_⟩ hN hi hx hs fun _ _ z=>z
 intro a H1 Hi1 Γ1 o s1 g1 nw q; obtain ⟨u,hu⟩:=nw.own.there; exact l.nx _ H1 (upd Hi1 a u) _ (s1.trans (zH nw.hi u)) ((g1.freezeA nw.hi nw.h0 nw.ne hu).set (yE.mp hi).1 (nw.own.den nw.hi hu)) q
end
def zuN:OD->Prop
 | .lst ds=>∀ d,d ∈ ds->Imm d
 | _=>False
def zM (n:Nat) (t:TO'):TO':=fun Γ Q=>t (zcC n Γ) fun o _=>zuN o/\Q o Γ
section
end
abbrev SpB:=(D->D)->List D->List D->(D->List D->Prop)->Prop
section
variable {k:Nat} {C:Addr} {m x y:Str} {ps:List Str} {sp:SpB} {apos pos p q:Pos} {e:Expr} {es:List Expr} {t:TA'}
def zN (i:Nat) (sp:SpB) (t:TA'):TE':=fun Γ Q=>(∃ d b xs,Γ[i]?=some (.bk d b (.lst xs)))/\t Γ fun ds Γ1=>∃ d b xs,Γ1[i]?=some (.bk d b (.lst xs))/\sp d xs ds fun r ys=>Q r (Γ1.set i (.bk d b (.lst ys)))
end
section
end
end PL
namespace L2
open PySem PySem.Spec PyProof.Rows
def zlK {h:Heap} {a:Addr} {its:Array Value} (p:PlainL h a its):h.IsList a its:=by
 obtain ⟨o,n,e,c,d,e2⟩:=p
 first | exact ⟨o,e,c,n,e2⟩ | exact ⟨o,e,c,n,d⟩
section
variable {tg:Expr}
end
end L2
namespace PL
open PySem L2
section
def zak (t:TE'):TE':=fun Γ Q=>t Γ fun d Γ1=>∃ i:Int,d=.int i/\Q (.int (-i)) Γ1
def st_inj {l m:List Nat}:st l=st m↔l=m:=⟨fun h=>by rw [<- zR l,h,zR],fun h=>by rw [h]⟩
end
end PL
namespace L2
open PySem PySem.Spec PyProof.Rows
section
end
end L2
namespace PL
open PySem L2
section
end
end PL
namespace So
open PySem PySem.W PyProof.Rows
def run (lt:Nat->Nat->Bool) {α:Type}:KasT α->α
 | .ret a=>a
 | .ask i j k=>run lt (k (lt i j))
theorem zch (lt:Nat->Nat->Bool) {α β:Type} (f:α->KasT β):∀ t:KasT α,run lt (t.bind f)=run lt (f (run lt t))
 | .ret _=>rfl
 | .ask i j k=>zch lt f (k (lt i j))
def g (p:Array Nat) (i:Nat):Nat:=p.getD i 0
def g_eq (p:Array Nat) (i:Nat):g p i=(p[i]?).getD 0:=by
 unfold g; simp [Array.getD_eq_getD_getElem?]
def zX {p:Array Nat} {i j:Nat} (hj:j<=p.size) (k:Nat):g (kas_rev p i j) k=if i<=k/\k<j then g p (i+j-1-k) else g p k:=by
 unfold kas_rev; rw [g_eq,getElem?_mirror_all hj]
 split <;> rw [g_eq]
def zmE {p:Array Nat} {src d:Nat} (hs:src<p.size) (hd:d<=src) (k:Nat):g (bubble p src d) k=if k=src-d then g p src else if src-d<k/\k<=src then g p (k-1) else g p k:=by
 rw [g_eq,getElem?_bubble hs d hd]; split
 ·rw [g_eq]
 ·split <;> rw [g_eq]
structure Ord (lt:Nat->Nat->Bool):Prop where
 asym:∀ a b,lt a b=true->lt b a=false
 tr:∀ a b c,lt b a=false->lt c b=false->lt c a=false
def L (lt:Nat->Nat->Bool) (a b:Nat):Prop:=lt a b=true\/(lt b a=false/\a<b)
section
variable {lt:Nat->Nat->Bool}
def L.le (o:Ord lt) {a b:Nat} (h:L lt a b):lt b a=false:=by
 rcases h with h | h
 ·exact o.asym _ _ h
 ·exact h.1
def lt_le (o:Ord lt) {a b c:Nat} (h:lt a b=true) (k:lt c b=false):lt a c=true:=by
 cases e:lt a c with
 | true=>rfl
 | false=>exact yP (o.tr b c a k e) (by rw [h]; exact fun z=>nomatch z)
def zoQ (o:Ord lt) {a b c:Nat} (h:lt b a=false) (k:lt b c=true):lt a c=true:=by
 cases e:lt a c with
 | true=>rfl
 | false=>exact yP (o.tr c a b e h) (by rw [k]; exact fun z=>nomatch z)
def L.trans (o:Ord lt) {a b c:Nat} (h:L lt a b) (k:L lt b c):L lt a c:=by
 rcases h with h | ⟨h,h'⟩
 ·exact .inl (lt_le o h (L.le o k))
 ·rcases k with k | ⟨k,k'⟩
  ·exact .inl (zoQ o h k)
  ·exact .inr ⟨o.tr _ _ _ h k,Nat.lt_trans h' k'⟩
end
def Srt (lt:Nat->Nat->Bool) (p:Array Nat) (n:Nat):Prop:=∀ i j,i<j->j<n->L lt (g p i) (g p j)
structure B (p:Array Nat) (N n:Nat):Prop where
 size:p.size=N
 low:∀ k,k<n->g p k<n
 high:∀ k,n<=k->k<N->g p k=k
def B.succ {p:Array Nat} {N n:Nat} (b:B p N n) (h:n<N):B p N (n+1) where
 size:=b.size
 low:=fun k hk=>by
  by_cases e:k=n
  ·subst e; rw [b.high k (yD _) h]; omega
  ·have:=b.low k (by omega); omega
 high:=fun k h1 h2=>b.high k (by omega) h2
def B.mirror {p:Array Nat} {N n i j:Nat} (b:B p N n) (hj:j<=n) (hn:n<=N):B (kas_rev p i j) N n where
 size:=by rw [kas_rev_size,b.size]
 low:=fun k hk=>by
  rw [zX (by rw [b.size]; omega)]
  split
  ·exact b.low _ (by omega)
  ·exact b.low _ hk
 high:=fun k h1 h2=>by
  rw [zX (by rw [b.size]; omega),yH (by omega)]
  exact b.high k h1 h2
section
variable {lt:Nat->Nat->Bool} (o:Ord lt)
include o
theorem Srt.succ {p:Array Nat} {N n:Nat} (b:B p N n) (h1:1<=n) (hn:n<N) (s:Srt lt p n) (q:lt (g p n) (g p (n-1))=false):Srt lt p (n+1):=fun i j hij hj=>by
 by_cases e:j=n
 ·subst e
  have l1:L lt (g p (j-1)) (g p j):=.inr ⟨q,by
   rw [b.high j (yD _) hn]
   exact b.low _ (by omega)⟩
  by_cases e2:i=j-1
  ·subst e2; exact l1
  ·exact (s i (j-1) (by omega) (by omega)).trans o l1
 ·exact s i j hij (by omega)
theorem asc {p:Array Nat} {N:Nat}:∀ (f n:Nat),n+f=N->1<=n->B p N n->Srt lt p n->n<=run lt (kas_asc p f n)/\run lt (kas_asc p f n)<=N/\B p N (run lt (kas_asc p f n))/\Srt lt p (run lt (kas_asc p f n)) /\
  (run lt (kas_asc p f n)<N->lt (g p (run lt (kas_asc p f n))) (g p (run lt (kas_asc p f n)-1))=true)
 | 0,n,h,h1,b,s=>⟨yD _,by show n<=N; omega,b,s,fun z=>yP (show n<N from z) (by omega)⟩
 | f+1,n,h,h1,b,s=>by
  have e:run lt (kas_asc p (f+1) n)=run lt (if lt (g p n) (g p (n-1))=true then KasT.ret n else kas_asc p f (n+1)):=rfl
  rw [e]
  cases q:lt (g p n) (g p (n-1)) with
  | true =>
   rw [yI rfl]
   exact ⟨yD _,by show n<=N; omega,b,s,fun _=>q⟩
  | false =>
   rw [yH (by decide)]
   obtain ⟨a1,a2,a3,a4,a5⟩:=asc (N:=N) f (n+1) (by omega) (by omega) (b.succ (by omega)) (Srt.succ o b h1 (by omega) s q)
   exact ⟨by omega,a2,a3,a4,a5⟩
structure De (lt:Nat->Nat->Bool) (p:Array Nat) (N n q:Nat):Prop where
 b:B p N n
 le:n<=N
 q1:q+1<=n
 blk:∀ i j,n-(q+1)<=i->i<j->j<n->L lt (g p i) (g p j)/\lt (g p i) (g p j)=false
 str:∀ i j,i<n-(q+1)->n-(q+1)<=j->j<n->lt (g p j) (g p i)=true
 old:∀ i j,i<j->j<n-(q+1)->L lt (g p j) (g p i)
def Fal (lt:Nat->Nat->Bool) (p:Array Nat) (n:Nat):Prop:=∀ i j,i<j->j<n->L lt (g p j) (g p i)
theorem De.turned {p:Array Nat} {N n q:Nat} (d:De lt p N n q):Fal lt (kas_rev p (n-(q+1)) n) n:=fun i j hij hj=>by
 have hs:n<=p.size:=by rw [d.b.size]; exact d.le
 have hq:=d.q1; rw [zX hs,zX hs]
 by_cases hi:n-(q+1)<=i
 ·rw [yI ⟨by omega,hj⟩,yI ⟨hi,by omega⟩]
  exact (d.blk _ _ (by omega) (by omega) (by omega)).1
 ·rw [yH (show ¬ (n-(q+1)<=i/\i<n) by omega)]
  by_cases hj2:n-(q+1)<=j
  ·rw [yI ⟨hj2,hj⟩]
   exact .inl (d.str _ _ (by omega) (by omega) (by omega))
  ·rw [yH (show ¬ (n-(q+1)<=j/\j<n) by omega)]
   exact d.old i j hij (by omega)
theorem De.fal0 {p:Array Nat} {N n:Nat} (d:De lt p N n 0):Fal lt p n:=fun i j hij hj=>by
 by_cases e:n-1<=j
 ·exact .inl (d.str i j (by omega) (by omega) hj)
 ·exact d.old i j hij (by omega)
theorem De.next {p:Array Nat} {N n:Nat} (b:B p N n) (hn:n<N) (h1:1<=n) (fa:Fal lt p n) (st:∀ i,i<n->lt (g p n) (g p i)=true):De lt p N (n+1) 0 where
 b:=b.succ hn
 le:=hn
 q1:=by omega
 blk:=fun i j h1 h2 h3=>by omega
 str:=fun i j h1 h2 h3=>by
  have e:j=n:=by omega
  subst e
  exact st i (by omega)
 old:=fun i j h1 h2=>fa i j h1 (by omega)
theorem De.st {p:Array Nat} {N n q:Nat} (d:De lt p N n q) (h:lt (g p n) (g p (n-1))=true):∀ i,i<n->lt (g p n) (g p i)=true:=fun i hi=>by
 have hq:=d.q1
 by_cases e:i=n-1
 ·subst e; exact h
 ·refine lt_le o h ?_
  by_cases hb:n-(q+1)<=i
  ·exact (d.blk i (n-1) hb (by omega) (by omega)).2
  ·exact o.asym _ _ (d.str i (n-1) (by omega) (by omega) (by omega))
theorem zrq {N:Nat}:∀ (f:Nat) (p:Array Nat) (n q:Nat),n+f=N->De lt p N n q->∃ p' n' q',run lt (kas_desc f p n q)=(p',n',q')/\De lt p' N n' q'
 | 0,p,n,q,_,d=>⟨p,n,q,rfl,d⟩
 | f+1,p,n,q,h,d=>by
  have hn:n<N:=by omega
  have hq:=d.q1
  have e:run lt (kas_desc (f+1) p n q)=run lt (if lt (g p n) (g p (n-1))=true then (if q > 0 then kas_desc f (kas_rev p (n-(q+1)) n) (n+1) 0 else kas_desc f p (n+1) 0)
   else KasT.ask (p.getD (n-1) 0) (p.getD n 0) fun c=>if c=true then .ret (p,n,q) else kas_desc f p (n+1) (q+1)):=rfl
  rw [e]
  cases c:lt (g p n) (g p (n-1)) with
  | true =>
   rw [yI rfl]
   by_cases hq0:q > 0
   ·rw [yI hq0]
    refine zrq f _ (n+1) 0 (by omega) (De.next o (d.b.mirror (yD _) d.le) hn (by omega) (De.turned o d) fun i hi=>?_)
    have hs:n<=p.size:=by rw [d.b.size]; exact d.le
    rw [zX hs,zX hs,yH (show ¬ (n-(q+1)<=n/\n<n) by omega)]
    split
    ·exact De.st o d c _ (by omega)
    ·exact De.st o d c _ hi
   ·rw [yH hq0]
    have e0:q=0:=by omega
    subst e0
    exact zrq f _ (n+1) 0 (by omega) (De.next o d.b hn (by omega) (De.fal0 o d) (De.st o d c))
  | false =>
   rw [yH (by decide)]
   have e2:run lt (KasT.ask (p.getD (n-1) 0) (p.getD n 0) fun c=>if c=true then KasT.ret (p,n,q) else kas_desc f p (n+1) (q+1))=run lt (if lt (g p (n-1)) (g p n)=true then KasT.ret (p,n,q) else kas_desc f p (n+1) (q+1)):=rfl
   rw [e2]
   cases c2:lt (g p (n-1)) (g p n) with
   | true=>rw [yI rfl]; exact ⟨p,n,q,rfl,d⟩
   | false =>
    rw [yH (by decide)]
    have hb:n+1-(q+1+1)=n-(q+1):=by omega
    have gn:g p n=n:=d.b.high n (yD _) hn
    refine zrq f _ (n+1) (q+1) (by omega) ⟨d.b.succ hn,hn,by omega,fun i j h1 h2 h3=>?_,fun i j h1 h2 h3=>?_,fun i j h1 h2=>?_⟩
    ·rw [hb] at h1
     by_cases ej:j=n
     ·subst ej
      have lo:g p i<g p j:=by rw [gn]; exact d.b.low i h2
      by_cases ei:i=j-1
      ·subst ei; exact ⟨.inr ⟨c,lo⟩,c2⟩
      ·obtain ⟨u1,u2⟩:=d.blk i (j-1) h1 (by omega) (by omega)
       exact ⟨.inr ⟨o.tr _ _ _ (L.le o u1) c,lo⟩,o.tr _ _ _ c2 u2⟩
     ·exact d.blk i j h1 h2 (by omega)
    ·rw [hb] at h1 h2
     by_cases ej:j=n
     ·subst ej
      exact zoQ o c2 (d.str i (j-1) h1 (by omega) (by omega))
     ·exact d.str i j h1 h2 (by omega)
    ·rw [hb] at h2
     exact d.old i j h1 h2
theorem zpR {p:Array Nat} {N n:Nat} (b:B p N n) (hn:n<=N) (h1:1<=n) (fa:Fal lt p n):∃ m p',run lt (kas_tail3 n N p)=(m,p')/\1<=m/\m<=N/\B p' N m/\Srt lt p' m:=by
 unfold kas_tail3; rw [zch]
 have hs:n<=p.size:=by rw [b.size]; exact hn
 obtain ⟨a1,a2,a3,a4,_⟩:=asc o (p:=kas_rev p 0 n) (N:=N) (N-n) n (by omega) h1 (b.mirror (yD _) hn) (fun i j hij hj=>by
  rw [zX hs,zX hs,yI ⟨by omega,by omega⟩,yI ⟨by omega,hj⟩]
  exact fa _ _ (by omega) (by omega))
 exact ⟨_,_,rfl,by omega,a2,a3,a4⟩
theorem zh2 {p:Array Nat} {N n:Nat} (hn:n<N) (d:De lt p N (n+1) 0):∃ m p',run lt (kas_descPart n N p)=(m,p')/\1<=m/\m<=N/\B p' N m/\Srt lt p' m:=by
 unfold kas_descPart; rw [zch]
 obtain ⟨p',n',q',e,d'⟩:=zrq o (N:=N) (N-(n+1)) p (n+1) 0 (by omega) d
 rw [e]; have hq:=d'.q1
 by_cases h:q' > 0
 ·show ∃ m p'',run lt (if q' > 0 then kas_tail3 n' N (kas_rev p' (n'-(q'+1)) n') else kas_tail3 n' N p')=(m,p'')/\_
  rw [yI h]
  exact zpR o (d'.b.mirror (yD _) d'.le) d'.le (by omega) (De.turned o d')
 ·show ∃ m p'',run lt (if q' > 0 then kas_tail3 n' N (kas_rev p' (n'-(q'+1)) n') else kas_tail3 n' N p')=(m,p'')/\_
  rw [yH h]
  have e0:q'=0:=by omega
  subst e0
  exact zpR o d'.b d'.le (by omega) (De.fal0 o d')
theorem count {p:Array Nat} {N:Nat} (hN:1<=N) (b:B p N 1):∃ m p',run lt (kas_count N p)=(m,p')/\1<=m/\m<=N/\B p' N m/\Srt lt p' m:=by
 unfold kas_count; rw [zch]
 obtain ⟨a1,a2,a3,a4,a5⟩:=asc o (p:=p) (N:=N) (N-1) 1 (by omega) (yD _) b (fun i j hij hj=>by omega)
 generalize run lt (kas_asc p (N-1) 1)=n at a1 a2 a3 a4 a5 ⊢
 by_cases e:n=N
 ·rw [yI (by rw [e]; exact beq_self_eq_true _)]
  exact ⟨n,p,rfl,a1,a2,a3,a4⟩
 ·have hn:n<N:=by omega
  have hs:n<=p.size:=by rw [a3.size]; exact a2
  rw [yH (by simpa using e)]
  by_cases h1:n > 1
  ·rw [yI h1]
   show ∃ m p',run lt (if lt (g p 0) (g p (n-1))=true then KasT.ret (n,p) else kas_descPart n N (kas_rev p 0 n))=(m,p')/\_
   cases c:lt (g p 0) (g p (n-1)) with
   | true=>rw [yI rfl]; exact ⟨n,p,rfl,a1,a2,a3,a4⟩
   | false =>
    rw [yH (by decide)]
    refine zh2 o hn (De.next o (a3.mirror (yD _) a2) hn a1 (fun i j hij hj=>?_) fun i hi=>?_)
    ·rw [zX hs,zX hs,yI ⟨by omega,hj⟩,yI ⟨by omega,by omega⟩]
     exact a4 _ _ (by omega) (by omega)
    ·rw [zX hs,zX hs,yH (show ¬ (0<=n/\n<n) by omega),yI ⟨by omega,hi⟩]
     refine lt_le o (a5 hn) ?_; generalize hk:0+n-1-i=k
     have hkn:k<n:=by omega
     by_cases k0:k=0
     ·subst k0; exact c
     ·exact o.tr _ _ _ c (L.le o (a4 0 k (by omega) hkn))
  ·rw [yH h1]
   have e1:n=1:=by omega
   subst e1
   exact zh2 o hn (De.next o a3 hn (yD _) (fun i j h1 h2=>by omega) fun i hi=>by
    have e0:i=0:=by omega
    subst e0; exact a5 hn)
theorem zlL {p:Array Nat} {k:Nat} (s:Srt lt p k):∀ (f l r:Nat),r-l<=f->l<=r->r<=k->(∀ i,i<l->lt (g p k) (g p i)=false)->(∀ i,r<=i->i<k->lt (g p k) (g p i)=true) ->
  run lt (kas_place p k f l r)<=k/\(∀ i,i<run lt (kas_place p k f l r)->lt (g p k) (g p i)=false)/\∀ i,run lt (kas_place p k f l r)<=i->i<k->lt (g p k) (g p i)=true
 | 0,l,r,h,h1,h2,a,c=>⟨show l<=k by omega,a,fun i (hi:l<=i)=>c i (by omega)⟩
 | f+1,l,r,h,h1,h2,a,c=>by
  have e:run lt (kas_place p k (f+1) l r)=run lt (if l >= r then KasT.ret l else KasT.ask (p.getD k 0) (p.getD ((l+r) / 2) 0) fun c=>if c=true then kas_place p k f l ((l+r) / 2) else kas_place p k f ((l+r) / 2+1) r):=rfl
  rw [e]
  by_cases hlr:l >= r
  ·rw [yI hlr]
   exact ⟨show l<=k by omega,a,fun i (hi:l<=i)=>c i (by omega)⟩
  ·rw [yH hlr]
   show run lt (if lt (g p k) (g p ((l+r) / 2))=true then kas_place p k f l ((l+r) / 2) else kas_place p k f ((l+r) / 2+1) r)<=k/\(∀ i,i<run lt (if lt (g p k) (g p ((l+r) / 2))=true then kas_place p k f l ((l+r) / 2) else kas_place p k f ((l+r) / 2+1) r)->_)/\∀ i,run lt (if lt (g p k) (g p ((l+r) / 2))=true then kas_place p k f l ((l+r) / 2) else kas_place p k f ((l+r) / 2+1) r)<=i->_
   cases q:lt (g p k) (g p ((l+r) / 2)) with
   | true =>
    rw [yI rfl]
    refine zlL s f l _ (by omega) (by omega) (by omega) a fun i hi hk=>?_
    by_cases ei:i=(l+r) / 2
    ·subst ei; exact q
    ·exact lt_le o q (L.le o (s _ i (by omega) hk))
   | false =>
    rw [yH (by decide)]
    refine zlL s f _ r (by omega) (by omega) h2 (fun i hi=>?_) c
    by_cases ei:i=(l+r) / 2
    ·subst ei; exact q
    ·exact o.tr _ _ _ (L.le o (s i ((l+r) / 2) (by omega) (by omega))) q
theorem ins {p:Array Nat} {N k l:Nat} (b:B p N k) (hk:k<N) (s:Srt lt p k) (hl:l<=k) (a:∀ i,i<l->lt (g p k) (g p i)=false) (c:∀ i,l<=i->i<k->lt (g p k) (g p i)=true):B (bubble p k (k-l)) N (k+1)/\Srt lt (bubble p k (k-l)) (k+1):=by
 have hs:k<p.size:=by rw [b.size]; exact hk
 have gk:g p k=k:=b.high k (yD _) hk
 have e:∀ i,g (bubble p k (k-l)) i=if i=l then g p k else if l<i/\i<=k then g p (i-1) else g p i:=fun i=>by
  rw [zmE hs (by omega),show k-(k-l)=l by omega]
 refine ⟨⟨by rw [bubble_size,b.size],fun i hi=>?_,fun i h1 h2=>?_⟩,fun i j hij hj=>?_⟩
 ·rw [e]
  split
  ·omega
  ·split
   ·have:=b.low (i-1) (by omega); omega
   ·have:=b.low i (by omega); omega
 ·rw [e,yH (by omega),yH (by omega)]
  exact b.high i (by omega) h2
 ·rw [e,e]
  have lo:∀ x,x<k->g p x<g p k:=fun x hx=>by rw [gk]; exact b.low x hx
  by_cases h1:i=l
  ·subst h1
   rw [yI rfl,yH (by omega),yI ⟨hij,by omega⟩]
   exact .inl (c _ (by omega) (by omega))
  ·rw [yH h1]
   by_cases h2:j=l
   ·subst h2
    rw [yI rfl,yH (by omega)]
    exact .inr ⟨a i hij,lo i (by omega)⟩
   ·rw [yH h2]
    split <;> split <;> exact s _ _ (by omega) (by omega)
theorem bin {N:Nat}:∀ (f:Nat) (p:Array Nat) (k:Nat),k+f=N->B p N k->Srt lt p k->B (run lt (kas_bin f p k)) N N/\Srt lt (run lt (kas_bin f p k)) N
 | 0,p,k,h,b,s=>by
  have e:k=N:=by omega
  subst e; exact ⟨b,s⟩
 | f+1,p,k,h,b,s=>by
  have e:run lt (kas_bin (f+1) p k)=run lt ((kas_place p k k 0 k).bind fun l=>kas_bin f (bubble p k (k-l)) (k+1)):=rfl
  rw [e,zch]
  obtain ⟨a1,a2,a3⟩:=zlL o s k 0 k (by omega) (yn _) (yD _) (fun i hi=>yP hi (Nat.not_lt_zero _)) fun i h1 h2=>yP h1 (by omega)
  obtain ⟨b',s'⟩:=ins o b (by omega) s a1 a2 a3
  exact bin f _ (k+1) (by omega) b' s'
theorem sort {N:Nat} (hN:1<=N):B (run lt (kas_sort N)) N N/\Srt lt (run lt (kas_sort N)) N:=by
 unfold kas_sort; rw [zch]
 have g0:∀ k,k<N->g (List.toArray (List.range N)) k=k:=fun k hk=>by
  rw [g_eq]; simp [hk]
 obtain ⟨m,p',e,h1,h2,b,s⟩:=count o hN (p:=List.toArray (List.range N)) ⟨by simp,fun k hk=>by rw [g0 k (by omega)]; exact hk,fun k h1 h2=>g0 k h2⟩
 rw [e]
 show B (run lt (if m<N then kas_bin (N-max m 1) p' (max m 1) else KasT.ret p')) N N/\Srt lt (run lt (if m<N then kas_bin (N-max m 1) p' (max m 1) else KasT.ret p')) N
 by_cases hm:m<N
 ·rw [yI hm,Nat.max_eq_left h1]
  exact bin o _ _ _ (by omega) b s
 ·rw [yH hm]
  have e:m=N:=by omega
  subst e; exact ⟨b,s⟩
end
def Ok (lt:Nat->Nat->Bool) (N:Nat) {α:Type}:KasT α->Prop
 | .ret _=>True
 | .ask i j k=>i<N/\j<N/\Ok lt N (k (lt i j))
theorem Ok.bind {lt:Nat->Nat->Bool} {N:Nat} {α β:Type} {f:α->KasT β}:∀ {t:KasT α},Ok lt N t->Ok lt N (f (run lt t))->Ok lt N (t.bind f)
 | .ret _,_,h=>h
 | .ask i j k,⟨h1,h2,h3⟩,h=>⟨h1,h2,Ok.bind (t:=k (lt i j)) h3 h⟩
def B.lt {p:Array Nat} {N n k:Nat} (b:B p N n) (hn:n<=N) (hk:k<N):g p k<N:=by
 by_cases h:k<n
 ·have:=b.low k h; omega
 ·rw [b.high k (by omega) hk]; exact hk
section
variable {lt:Nat->Nat->Bool} (o:Ord lt)
include o
theorem zjO {p:Array Nat} {N:Nat} {n0:Nat} (b:B p N n0) (h0:n0<=N):∀ (f n:Nat),n+f=N->Ok lt N (kas_asc p f n)
 | 0,_,_=>trivial
 | f+1,n,h=>⟨b.lt h0 (k:=n) (by omega),b.lt h0 (k:=n-1) (by omega),by
  show Ok lt N (if lt (g p n) (g p (n-1))=true then KasT.ret n else kas_asc p f (n+1))
  split
  ·trivial
  ·exact zjO b h0 f (n+1) (by omega)⟩
theorem ze9 {N:Nat}:∀ (f:Nat) (p:Array Nat) (n q:Nat),n+f=N->De lt p N n q->Ok lt N (kas_desc f p n q)
 | 0,_,_,_,_,_=>trivial
 | f+1,p,n,q,h,d=>⟨d.b.lt d.le (k:=n) (by omega),d.b.lt d.le (k:=n-1) (by omega),by
  show Ok lt N (if lt (g p n) (g p (n-1))=true then (if q > 0 then kas_desc f (kas_rev p (n-(q+1)) n) (n+1) 0 else kas_desc f p (n+1) 0)
   else KasT.ask (p.getD (n-1) 0) (p.getD n 0) fun c=>if c=true then .ret (p,n,q) else kas_desc f p (n+1) (q+1))
  have hn:n<N:=by omega
  have hq:=d.q1
  cases c:lt (g p n) (g p (n-1)) with
  | true =>
   rw [yI rfl]
   by_cases hq0:q > 0
   ·rw [yI hq0]
    refine ze9 f _ (n+1) 0 (by omega) (De.next o (d.b.mirror (yD _) d.le) hn (by omega) (De.turned o d) fun i hi=>?_)
    have hs:n<=p.size:=by rw [d.b.size]; exact d.le
    rw [zX hs,zX hs,yH (show ¬ (n-(q+1)<=n/\n<n) by omega)]
    split
    ·exact De.st o d c _ (by omega)
    ·exact De.st o d c _ hi
   ·rw [yH hq0]
    have e0:q=0:=by omega
    subst e0
    exact ze9 f _ (n+1) 0 (by omega) (De.next o d.b hn (by omega) (De.fal0 o d) (De.st o d c))
  | false =>
   rw [yH (by decide)]
   refine ⟨d.b.lt d.le (k:=n-1) (by omega),d.b.lt d.le (k:=n) (by omega),?_⟩
   show Ok lt N (if lt (g p (n-1)) (g p n)=true then KasT.ret (p,n,q) else kas_desc f p (n+1) (q+1))
   cases c2:lt (g p (n-1)) (g p n) with
   | true=>rw [yI rfl]; trivial
   | false =>
    rw [yH (by decide)]
    have hb:n+1-(q+1+1)=n-(q+1):=by omega
    have gn:g p n=n:=d.b.high n (yD _) hn
    refine ze9 f _ (n+1) (q+1) (by omega) ⟨d.b.succ hn,hn,by omega,fun i j h1 h2 h3=>?_,fun i j h1 h2 h3=>?_,fun i j h1 h2=>?_⟩
    ·rw [hb] at h1
     by_cases ej:j=n
     ·subst ej
      have lo:g p i<g p j:=by rw [gn]; exact d.b.low i h2
      by_cases ei:i=j-1
      ·subst ei; exact ⟨.inr ⟨c,lo⟩,c2⟩
      ·obtain ⟨u1,u2⟩:=d.blk i (j-1) h1 (by omega) (by omega)
       exact ⟨.inr ⟨o.tr _ _ _ (L.le o u1) c,lo⟩,o.tr _ _ _ c2 u2⟩
     ·exact d.blk i j h1 h2 (by omega)
    ·rw [hb] at h1 h2
     by_cases ej:j=n
     ·subst ej
      exact zoQ o c2 (d.str i (j-1) h1 (by omega) (by omega))
     ·exact d.str i j h1 h2 (by omega)
    ·rw [hb] at h2
     exact d.old i j h1 h2⟩
theorem zhG {p:Array Nat} {N n:Nat} (b:B p N n) (hn:n<=N):Ok lt N (kas_tail3 n N p):=by
 unfold kas_tail3
 exact Ok.bind (zjO o (b.mirror (yD _) hn) hn _ n (by omega)) trivial
theorem zdP {p:Array Nat} {N n:Nat} (hn:n<N) (d:De lt p N (n+1) 0):Ok lt N (kas_descPart n N p):=by
 unfold kas_descPart
 refine Ok.bind (ze9 o _ p (n+1) 0 (by omega) d) ?_
 obtain ⟨p',n',q',e,d'⟩:=zrq o (N:=N) (N-(n+1)) p (n+1) 0 (by omega) d
 rw [e]
 show Ok lt N (if q' > 0 then kas_tail3 n' N (kas_rev p' (n'-(q'+1)) n') else kas_tail3 n' N p')
 split
 ·exact zhG o (d'.b.mirror (yD _) d'.le) d'.le
 ·exact zhG o d'.b d'.le
theorem zl0 {p:Array Nat} {N:Nat} (hN:1<=N) (b:B p N 1):Ok lt N (kas_count N p):=by
 unfold kas_count
 refine Ok.bind (zjO o b hN _ 1 (by omega)) ?_
 obtain ⟨a1,a2,a3,a4,a5⟩:=asc o (p:=p) (N:=N) (N-1) 1 (by omega) (yD _) b (fun i j hij hj=>by omega)
 generalize run lt (kas_asc p (N-1) 1)=n at a1 a2 a3 a4 a5 ⊢
 by_cases e:n=N
 ·rw [yI (by rw [e]; exact beq_self_eq_true _)]
  trivial
 ·have hn:n<N:=by omega
  have hs:n<=p.size:=by rw [a3.size]; exact a2
  rw [yH (by simpa using e)]
  by_cases h1:n > 1
  ·rw [yI h1]
   refine ⟨a3.lt a2 (k:=0) (by omega),a3.lt a2 (k:=n-1) (by omega),?_⟩
   show Ok lt N (if lt (g p 0) (g p (n-1))=true then KasT.ret (n,p) else kas_descPart n N (kas_rev p 0 n))
   cases c:lt (g p 0) (g p (n-1)) with
   | true=>rw [yI rfl]; trivial
   | false =>
    rw [yH (by decide)]
    refine zdP o hn (De.next o (a3.mirror (yD _) a2) hn a1 (fun i j hij hj=>?_) fun i hi=>?_)
    ·rw [zX hs,zX hs,yI ⟨by omega,hj⟩,yI ⟨by omega,by omega⟩]
     exact a4 _ _ (by omega) (by omega)
    ·rw [zX hs,zX hs,yH (show ¬ (0<=n/\n<n) by omega),yI ⟨by omega,hi⟩]
     refine lt_le o (a5 hn) ?_; generalize hk:0+n-1-i=k
     have hkn:k<n:=by omega
     by_cases k0:k=0
     ·subst k0; exact c
     ·exact o.tr _ _ _ c (L.le o (a4 0 k (by omega) hkn))
  ·rw [yH h1]
   have e1:n=1:=by omega
   subst e1
   exact zdP o hn (De.next o a3 hn (yD _) (fun i j h1 h2=>by omega) fun i hi=>by
    have e0:i=0:=by omega
    subst e0; exact a5 hn)
theorem ze6 {p:Array Nat} {N k:Nat} (b:B p N k) (hk:k<N):∀ (f l r:Nat),r<=k->Ok lt N (kas_place p k f l r)
 | 0,_,_,_=>trivial
 | f+1,l,r,h=>by
  show Ok lt N (if l >= r then KasT.ret l else KasT.ask (p.getD k 0) (p.getD ((l+r) / 2) 0) fun c=>if c=true then kas_place p k f l ((l+r) / 2) else kas_place p k f ((l+r) / 2+1) r)
  by_cases hlr:l >= r
  ·rw [yI hlr]; trivial
  ·rw [yH hlr]
   refine ⟨b.lt (by omega) (k:=k) hk,b.lt (by omega) (k:=(l+r) / 2) (by omega),?_⟩
   show Ok lt N (if lt (g p k) (g p ((l+r) / 2))=true then kas_place p k f l ((l+r) / 2) else kas_place p k f ((l+r) / 2+1) r)
   split
   ·exact ze6 b hk f _ _ (by omega)
   ·exact ze6 b hk f _ _ h
theorem zne {N:Nat}:∀ (f:Nat) (p:Array Nat) (k:Nat),k+f=N->B p N k->Srt lt p k->Ok lt N (kas_bin f p k)
 | 0,_,_,_,_,_=>trivial
 | f+1,p,k,h,b,s=>by
  refine Ok.bind (ze6 o b (by omega) k 0 k (yD _)) ?_
  obtain ⟨a1,a2,a3⟩:=zlL o s k 0 k (by omega) (yn _) (yD _) (fun i hi=>yP hi (Nat.not_lt_zero _)) fun i h1 h2=>yP h1 (by omega)
  obtain ⟨b',s'⟩:=ins o b (by omega) s a1 a2 a3
  exact zne f _ (k+1) (by omega) b' s'
theorem ok_sort {N:Nat} (hN:1<=N):Ok lt N (kas_sort N):=by
 unfold kas_sort
 have g0:∀ k,k<N->g (List.toArray (List.range N)) k=k:=fun k hk=>by
  rw [g_eq]; simp [hk]
 have b0:B (List.toArray (List.range N)) N 1:=⟨by simp,fun k hk=>by rw [g0 k (by omega)]; exact hk,fun k h1 h2=>g0 k h2⟩
 refine Ok.bind (zl0 o hN b0) ?_; obtain ⟨m,p',e,h1,h2,b,s⟩:=count o hN b0; rw [e]
 show Ok lt N (if m<N then kas_bin (N-max m 1) p' (max m 1) else KasT.ret p')
 split
 ·rw [Nat.max_eq_left h1]
  exact zne o _ _ _ (by omega) b s
 ·trivial
end
theorem wp_of {lt:Nat->Nat->Bool} {N:Nat} {J:Shared->Prop} {cmp:Nat->Nat->(Bool->Shared->Prop)->Shared->Prop} (hc:∀ i j C s,i<N->j<N->J s->(∀ s',J s'->C (lt i j) s')->cmp i j C s) {α:Type} {Q:α->Shared->Prop} :
  ∀ (t:KasT α) (s:Shared),Ok lt N t->J s->(∀ s',J s'->Q (run lt t) s')->t.kasWp cmp Q s
 | .ret _,s,_,hj,h=>h s hj
 | .ask i j k,s,⟨h1,h2,h3⟩,hj,h=>hc i j _ s h1 h2 hj fun s' hj'=>wp_of hc (k (lt i j)) s' h3 hj' h
section
variable {a kS:Addr} {vs ks:List Value} {κ:SortKind}
def Fin3 (a kS:Addr) (ks:List Value) (e e1:Nat) (out:List Value) (C:Shared->Prop) (s:Shared):Prop :=
 s.heap.get? kS=some (seqObj "list" ks.toArray e)/\s.heap.get? a=some (seqObj "list" #[] e1) /\
  ∀ h' c c2,(∀ b o,b≠kS->b≠a->s.heap.get? b=some o->h'.get? b=some o)->h'.objs.size=s.heap.objs.size->h'.get? kS=some (seqObj "list" #[] c)->h'.get? a=some (seqObj "list" out.toArray c2)->C { s with heap:=h' }
def Fin3.mono {e e1:Nat} {out:List Value} {C C':Shared->Prop} (h:Fin3 a kS ks e e1 out C s) (hc:∀ s,C s->C' s):Fin3 a kS ks e e1 out C' s :=
 ⟨h.1,h.2.1,fun h' c c2 k z x y=>hc _ (h.2.2 h' c c2 k z x y)⟩
def srt_tail {st:SortSt} {e e1:Nat} {out:List Value} {P:PySem.Fin->Shared->Prop} (ne:kS≠a) (hout:(arrOf st).map (·.2)=List.toArray out) (hz:out.length<128) (hkz:ks.length<128) (hf:failedOf st=none)
  (h:Fin3 a kS ks e e1 out (fun s'=>P (.done (.ret .none)) s') s):wpAny (model prog w) A (ksk_tail a false e1 (.ref kS) st) P E s:=by
 obtain ⟨hk,ha,k⟩:=h
 have s1:=Heap.SameBut.update s.heap kS (Obj.mapSeq fun _=>(#[]:Array Value))
 obtain ⟨ck,hck⟩:∃ ck,(s.heap.update kS (Obj.mapSeq fun _=>(#[]:Array Value))).get? kS=some (seqObj "list" #[] ck):=⟨_,get?_update_seq hk fun _=>#[]⟩
 have ha1:(s.heap.update kS (Obj.mapSeq fun _=>(#[]:Array Value))).get? a=some (seqObj "list" #[] e1):=(s1.2 a (Ne.symm ne)).trans ha
 have s2:=Heap.SameBut.update (s.heap.update kS (Obj.mapSeq fun _=>(#[]:Array Value))) a (Obj.mapSeq fun _=>List.toArray out)
 obtain ⟨c2,hc2⟩:∃ c2,((s.heap.update kS (Obj.mapSeq fun _=>(#[]:Array Value))).update a (Obj.mapSeq fun _=>List.toArray out)).get? a=some (seqObj "list" (List.toArray out) c2):=⟨_,get?_update_seq ha1 fun _=>List.toArray out⟩
 unfold ksk_tail
 try dsimp only
 rw [hout]
 refine yA (listUpdate_at hk rfl ?_ (by rw [yS,sizeLine_eq]; omega) (yn _))
 refine yA (wpAny_letGo ?_); refine yA (seqEpoch_at ha1 rfl ?_)
 refine yA (listUpdate_at ha1 rfl ?_ (yn _) (by simp only [YL,if_false]; rw [yS,sizeLine_eq]; omega))
 rw [hf]; simp only [bne_self_eq_false,YL,if_false]
 refine yF (k _ ck c2 (fun b o h1 h2 q=>(s2.2 b h2).trans ((s1.2 b h1).trans q)) (by rw [Heap.size_update,Heap.size_update]) ((s2.2 kS ne).trans hck) hc2)
def srt_end {e e1:Nat} {P:PySem.Fin->Shared->Prop} (ne:kS≠a) (hl:ks.length=vs.length) (h2:2<=vs.length) (h64:vs.length<64)
  (h:wpAny (model prog w) A (keyKind' (List.toArray ks)) (fun κ s'=>(kas_sort vs.length).kasWp (kas_ask prog w A κ ks) (fun p s''=>Fin3 a kS ks e e1 (p.toList.map fun i=>vs.getD i Value.none) (fun s3=>P (.done (.ret .none)) s3) s'') s') (fun _ _=>False) s) :
  wpAny (model prog w) A (ksk_end a false vs.toArray e1 (.ref kS) (List.toArray ks)) P E s:=by
 have hn2:¬ vs.toArray.size<2:=by rw [yS]; omega
 unfold ksk_end
 try dsimp only
 simp only [YL,if_false]; rw [yH hn2,yH hn2]
 refine yA (yf h (fun κ s0 hk=>?_) fun _ _ x=>x.elim)
 refine yA (yf (kat_run (Q:=fun st' s'=>∃ p:Array Nat,p.size=vs.length/\arrOf st'=p.map (kas_item ((List.toArray ks).zip (List.toArray vs)))/\failedOf st'=none /\
   Fin3 a kS ks e e1 (p.toList.map fun i=>vs.getD i Value.none) (fun s3=>P (.done (.ret .none)) s3) s')
  hl h2 h64 (fun p' st' s' a1 a2 a3 a4=>⟨p',a1,a2,a3,a4⟩) hk) ?_ fun _ _ x=>x)
 rintro ⟨⟨⟩,st'⟩ s' ⟨p,hp,har,hf,fin⟩
 try dsimp only
 exact srt_tail ne (kat_snds hl har) (by rw [yG,yz,hp]; omega) (by omega) hf fin
def srt_end1 {e e1:Nat} {P:PySem.Fin->Shared->Prop} (ne:kS≠a) (hl:ks.length=vs.length) (h2:vs.length<2)
  (h:Fin3 a kS ks e e1 vs (fun s3=>P (.done (.ret .none)) s3) s):wpAny (model prog w) A (ksk_end a false vs.toArray e1 (.ref kS) (List.toArray ks)) P E s:=by
 have hn2:vs.toArray.size<2:=by rw [yS]; omega
 unfold ksk_end
 try dsimp only
 simp only [YL,if_false]; rw [yI hn2,yI hn2]; refine yA (yF ?_); refine yA (m:=StateT.run (pure ()) _) (yF ?_)
 try dsimp only
 refine srt_tail ne ?_ (by omega) (by omega) rfl h
 apply Array.toList_inj.mp
 show (((List.toArray ks).zip (List.toArray vs)).map (·.2)).toList=_
 rw [Array.toList_map,ksk_zip]
 clear h hn2
 cases vs with
 | nil =>
  cases ks with
  | nil=>rfl
  | cons k r=>simp at hl
 | cons v r =>
  cases r with
  | cons v2 r=>exact yP h2 (by simp)
  | nil =>
   cases ks with
   | nil=>simp at hl
   | cons k r =>
    cases r with
    | nil=>rfl
    | cons k2 r=>simp at hl
theorem zhs {f:Value} {n:Nat} {body:Value->PUnit->Sem (ForInStep PUnit)} (J:List Value->Nat->Shared->Prop) (hn:n<128) (all:List Value) (hall:all.length=n)
  (hb:∀ x ks e (s:Shared) (C:Value->Nat->Shared->Prop),List.length ks<128->wpAny (model prog w) A (call f [x]) (fun k s'=>s'.heap.get? kS=some (seqObj "list" ks.toArray e)/\∀ c,(s'.heap.update kS (Obj.mapSeq (·.push k))).get? kS=some (seqObj "list" (List.toArray (ks ++ [k])) c)->C k c { s' with heap:=s'.heap.update kS (Obj.mapSeq (·.push k)) }) (fun _ _=>False) s ->
   wpAny (model prog w) A (body x ⟨⟩) (fun r s'=>r=.yield ⟨⟩/\∃ k c,C k c s') E s)
  (step:∀ ks e s x,all[ks.length]?=some x->J ks e s->wpAny (model prog w) A (call f [x]) (fun k s'=>s'.heap.get? kS=some (seqObj "list" ks.toArray e)/\∀ c,(s'.heap.update kS (Obj.mapSeq (·.push k))).get? kS=some (seqObj "list" (List.toArray (ks ++ [k])) c)->J (ks ++ [k]) c { s' with heap:=s'.heap.update kS (Obj.mapSeq (·.push k)) }) (fun _ _=>False) s) :
  ∀ (r ks:List Value) (e:Nat) (s:Shared),all.drop ks.length=r->ks.length<=n->J ks e s ->
   wpAny (model prog w) A (forIn r PUnit.unit body) (fun _ s'=>∃ ks e,ks.length=n/\J ks e s') E s
 | [],ks,e,s,hl,hle,h=>by
  rw [List.forIn_nil]
  have:all.length<=ks.length:=List.drop_eq_nil_iff.mp hl
  exact yF ⟨ks,e,by omega,h⟩
 | x :: r,ks,e,s,hl,hle,h=>by
  rw [List.forIn_cons]
  have hx:all[ks.length]?=some x:=by
   have:=ym (fun l=>l[0]?) hl
   simpa using this
  have hlt:ks.length<n:=by rw [<- hall]; exact (yE.mp hx).1
  refine yA (yf (hb x ks e s (fun k c s'=>J (ks ++ [k]) c s') (by omega) (step ks e s x hx h)) (fun q s' hq=>?_) fun _ _ x=>x)
  obtain ⟨rfl,k,c,h2⟩:=hq
  show wpAny (model prog w) A (forIn r PUnit.unit body) _ E s'
  refine zhs J hn all hall hb step r (ks ++ [k]) c s' ?_ (by rw [yg,List.length_singleton]; omega) h2
  rw [yg,List.length_singleton,<- List.drop_drop,hl]; rfl
def srt_rest {f:Value} {e1:Nat} {P:PySem.Fin->Shared->Prop} (J:List Value->Nat->Shared->Prop) (h64:vs.length<128) (hJ:∀ ks e s,J ks e s->s.heap.get? kS=some (seqObj "list" ks.toArray e))
  (step:∀ ks e s x,vs[ks.length]?=some x->J ks e s->wpAny (model prog w) A (call f [x]) (fun k s'=>s'.heap.get? kS=some (seqObj "list" ks.toArray e)/\∀ c,(s'.heap.update kS (Obj.mapSeq (·.push k))).get? kS=some (seqObj "list" (List.toArray (ks ++ [k])) c)->J (ks ++ [k]) c { s' with heap:=s'.heap.update kS (Obj.mapSeq (·.push k)) }) (fun _ _=>False) s)
  (fin:∀ ks e s,ks.length=vs.length->J ks e s->wpAny (model prog w) A (ksk_end a false vs.toArray e1 (.ref kS) (List.toArray ks)) P E s) (h0:J [] 0 s) :
  wpAny (model prog w) A (ksk_rest a f false vs.toArray e1 (.ref kS)) P E s:=by
 unfold ksk_rest; refine yA (wpAny_rule ?_)
 first
  | rw [List.forIn_toArray]
  | (rw [<- Array.forIn_toList]; simp only [List.toList_toArray])
  | rw [<- Array.forIn_toList]
 refine yA (yf (zhs (f:=f) (kS:=kS) J h64 vs rfl (fun x ks e s' C hz hx=>?_) step vs [] 0 s rfl (yn _) h0) (fun _ s' hd=>?_) fun _ _ x=>x)
 ·refine yA (Yz (yf hx (fun k s'' hk=>?_) fun _ _ hF=>hF.elim))
  obtain ⟨nk,c⟩:=hk
  have ea:(List.toArray ks).push k=List.toArray (ks ++ [k]):=by simp
  obtain ⟨c2,hc2⟩:∃ c2,(s''.heap.update kS (Obj.mapSeq (·.push k))).get? kS=some (seqObj "list" (List.toArray (ks ++ [k])) c2):=⟨_,by rw [<- ea]; exact get?_update_seq nk (·.push k)⟩
  try dsimp only
  refine yA (listUpdate_at nk rfl ?_ (by rw [yS,sizeLine_eq]; omega) (YG (Nat.le_of_eq (Array.size_push ..)) (by rw [yS,sizeLine_eq]; omega)))
  exact yF ⟨rfl,k,c2,c c2 hc2⟩
 ·obtain ⟨ks,e,hl,fj⟩:=hd
  try dsimp only
  refine yA (listItems_at (hJ _ _ _ fj) rfl ?_); exact fin ks e s' hl fj
def srt_tree {f:Value} {n:Nat} {P:PySem.Fin->Shared->Prop} (ho:s.heap.get? a=some (seqObj "list" vs.toArray n)) (h64:vs.length<128)
  (h:∀ e1 h',(∀ b o,b≠a->s.heap.get? b=some o->h'.get? b=some o)->h'.objs.size=s.heap.objs.size+2->h'.get? (s.heap.objs.size+1)=some (seqObj "list" #[] 0)->h'.get? a=some (seqObj "list" #[] e1) ->
   wpAny (model prog w) A (ksk_rest a f false vs.toArray e1 (.ref (s.heap.objs.size+1))) P E { s with heap:=h' }) :
  wpAny (model prog w) A (ksk_tree a f false) P E s:=by
 have ha:a<s.heap.objs.size:=yJ ho
 have s1:=Heap.SameBut.update s.heap a (Obj.mapSeq fun _=>(#[]:Array Value))
 obtain ⟨e1,ho1⟩:∃ e1,(s.heap.update a (Obj.mapSeq fun _=>(#[]:Array Value))).get? a=some (seqObj "list" #[] e1):=⟨_,get?_update_seq ho fun _=>#[]⟩
 have hkS:((s.heap.update a (Obj.mapSeq fun _=>(#[]:Array Value))).push (seqObj "tuple" vs.toArray 0)).objs.size=s.heap.objs.size+1:=by rw [size_push',Heap.size_update]
 unfold ksk_tree; refine yA (listItems_at ho rfl ?_)
 refine yA (listUpdate_at ho rfl ?_ (by rw [yS,sizeLine_eq]; omega) (yn _))
 refine yA (seqEpoch_at ho1 rfl ?_)
 refine yA (wpAny_newTuple ?_ (by show vs.length<=_; rw [sizeLine_eq]; omega))
 refine yA (wpAny_newList ?_ (yn _)); refine Yg ?_
 have h':=h e1 (((s.heap.update a (Obj.mapSeq fun _=>(#[]:Array Value))).push (seqObj "tuple" vs.toArray 0)).push (seqObj "list" #[] 0)) (fun b o hb q=>yC _ (yC _ ((s1.2 b hb).trans q)))
  (by rw [size_push',hkS]) (by rw [<- hkS]; exact yM _ rfl) (yC _ (yC _ ho1))
 rw [<- hkS] at h'; exact h'
end
end So
namespace L2
open PySem PySem.Spec PyProof.Rows PySem.W
section
variable {h':Heap}
def Inv.turnedOwn {t':Nat} {ch:List Addr} {p:Addr} {o:HO} (I:Inv X pins σ H s) (hch:∀ b ∈ ch,zdq X pins H b) (hp:p ∈ ch) (k:∀ b u,b ∉ ch->s.heap.get? b=some u->h'.get? b=some u) (new:zal X.prog X.w (upd H p o) h' p o) :
  Inv X pins σ (upd H p o) { s with heap:=h',toks:=t' }:=by
 have fr:H p=none:=(hch p hp).1
 have sm:∀ b u,H b=some u->upd H p o b=some u:=fun b u e=>by rw [zq (zw e fr)]; exact e
 have nch:∀ b u,H b=some u->b ∉ ch:=fun b u e z=>by rw [(hch b z).1] at e; cases e
 refine I.step (g':=s.gens) (d':=s.drawn) (ch:=ch) (fun b hb=>?_) (fun b u _ _ hc e _=>k b u hc e) (fun b u _ _ hc e _=>⟨u.slots,k b u hc e⟩) (fun b u hc e n=>?_) (fun b u hc e=>⟨u,k b u hc e⟩) (fun b xs e=>sm _ _ e) (fun b ob u e=>sm _ _ e) (fun b ps e=>⟨#[],by rw [sm _ _ e]; simp⟩) (fun m hm=>?_) (fun b u e=>?_) I.bare
 ·obtain ⟨_,y1,_,y3,y4,y5⟩:=hch b hb
  exact ⟨y3,y1,y4,y5⟩
 ·rw [zq (fun z=>hc (by rw [z]; exact hp))]
  exact n
 ·obtain ⟨ob,es,ep,ho,r⟩:=hm
  exact ⟨ob,es,ep,k _ ob (fun z=>(hch _ z).2.1 rfl) ho,r⟩
 ·by_cases z:b=p
  ·subst z
   rw [zn] at e; cases e; exact new
  ·rw [zq z] at e
   refine (I.hok b u e).stay (fun c v hc q=>k c v ?_ q) (fun c q=>sm _ _ q) fun c xs q=>sm _ _ q
   rcases hc with rfl | hc
   ·exact nch _ u e
   ·exact nch c _ hc
def zn5 {A':Around} {k:Nat} {f:Addr} {fd:FuncData} {ps:List Str} {sp:Sp} {Q:VK} {us:List Value} {vs:List V} (F:FnOk X.prog X.w X.K X.mg X.base CX0 k f fd ps sp) (hr:Room k A') (hA:Env0 X.prog X.w X.K X.mg X.base A' X.stack s H) (hb:zbX X.K fd ps [])
  (I:Inv X pins σ H s) (r:zae vs us) (h:sp vs H Q E0):wpAny (model X.prog X.w) A' (call (.ref f) us) (EP X pins σ Q) (fun _ _=>False) s:=by
 have hl:(us ++ []).length=ps.length:=by rw [yd,<- r.length]; exact F.len _ _ _ _ h
 have hb':=hb s us I.kIn hl; rw [yd] at hb'
 refine wpAny_call (codeAny_mono (F.run A' X.stack s H ⟨us,[]⟩ us vs Q E0 hr hA hb' r h) fun r s' hq=>?_)
 cases r with
 | error e=>exact hq.elim
 | ok fl =>
  cases fl with
  | ret u=>exact I.after hq
  | next=>exact False.elim hq
  | brk=>exact False.elim hq
  | cont=>exact False.elim hq
def zpC (sp:Sp) (Fin:List V->Hp->Prop):List V->List V->Hp->Prop
 | [],ks,H=>Fin ks H
 | v :: r,ks,H=>sp [v] H (fun k H'=>zpC sp Fin r (ks ++ [k]) H') E0
def zmS (X:Cx) (ks:List V) (H:Hp) (lt:Nat->Nat->Bool):Prop:=∀ (A':Around) (pins:yyL) (σ:St) (s:Shared) (kss:List Value),Inv X pins σ H s->zae ks kss->2<=ks.length ->
 wpAny (model X.prog X.w) A' (keyKind' kss.toArray) (fun κ s'=>Inv X pins σ H s'/\∀ (i j:Nat) (C:Bool->Shared->Prop) s'',i<ks.length->j<ks.length->Inv X pins σ H s''->(∀ s3,Inv X pins σ H s3->C (lt i j) s3)->kas_ask X.prog X.w A' κ kss i j C s'') (fun _ _=>False) s
def zc5 (lt:Nat->Nat->Bool) (xs:List V):List V:=if xs.length<2 then xs else (So.run lt (kas_sort xs.length)).toList.map fun i=>xs.getD i .non
def zcU {xs:List V} {us:List Value} (r:zae xs us) (i:Nat) (hi:i<xs.length):zap (xs.getD i .non) (us.getD i Value.none):=by
 have hl:=r.length; obtain ⟨u,hu,ru⟩:=r.get (yB hi); simp only [List.getD,yB hi,Ys]; rw [hu]; exact ru
theorem zhj {xs:List V} {us:List Value} (r:zae xs us):∀ (l:List Nat),(∀ i,i ∈ l->i<xs.length)->zae (l.map fun i=>xs.getD i .non) (l.map fun i=>us.getD i Value.none)
 | [],_=>.nil
 | i :: l,h=>.cons (zcU r i (h i (by simp))) (zhj r l fun j hj=>h j (by simp [hj]))
def zeP {lt:Nat->Nat->Bool} (o:So.Ord lt) {n:Nat} (hn:1<=n):((So.run lt (kas_sort n)).toList.length=n)/\∀ i,i ∈ (So.run lt (kas_sort n)).toList->i<n:=by
 obtain ⟨b,_⟩:=So.sort o hn
 refine ⟨by rw [yz]; exact b.size,fun i hi=>?_⟩
 obtain ⟨k,hk,e⟩:=List.getElem_of_mem hi
 have hk':k<(So.run lt (kas_sort n)).size:=by simpa using hk
 have:=b.low k (by rw [b.size] at hk'; exact hk')
 rw [So.g_eq] at this; simp only [Array.getElem_toList] at e; rw [ye hk',e] at this; exact this
def zgq {f:Addr} {sp:Sp} {l:Addr} {xs:List V} {Q:VK} {E':Value->Shared->Prop} {Fin:List V->Hp->Prop}
  (hrun:∀ (pins':yyL) (H':Hp) (s':Shared) (x:V) (u:Value) (Q':VK),Inv X pins' σ H' s'->zap x u->sp [x] H' Q' E0->wpAny (model X.prog X.w) X.A.in1.in1 (call (.ref f) [u]) (EP X pins' σ Q') (fun _ _=>False) s')
  (I:Inv X pins σ H s) (hl:SqL X.K H l xs) (h64:xs.length<128)
  (hend:∀ (vs ks:List Value) (kv:List V) (H':Hp) (s':Shared) (D kS:Addr) (e e1:Nat) (P:PySem.Fin->Shared->Prop) (E2:Value->Shared->Prop) (pins':yyL),zae xs vs->zae kv ks->ks.length=vs.length->kS≠D->Inv X pins' σ H' s'->Fin kv H' ->
   (∀ ys out s4,Inv X pins' σ H' s4->zae ys out->ys.length<128->(∀ p,H' p=none->Q (.ref p) (upd H' p (.lst ys)))->So.Fin3 D kS ks e e1 out (fun s3=>P (.done (.ret .none)) s3) s4)->wpAny (model X.prog X.w) X.A.in1.in1 (ksk_end D false vs.toArray e1 (.ref kS) (List.toArray ks)) P E2 s')
  (h:zpC sp Fin xs [] H) :
  wpAny (model X.prog X.w) X.A (call (.builtin "sorted") [.ref l] [(Str.ofString "key",.ref f)]) (EP X pins σ Q) E' s:=by
 obtain ⟨vs,rv,pl,hz⟩:=I.list hl; have hlen:=rv.length
 have h64':vs.length<128:=by omega
 refine call_function_entry_kw kind_sorted plain_sorted entry_sorted (ksk_s1 _ _) ?_
 unfold Builtin.«sorted»
 refine yA (m:=checkCount "sorted" 1 1 _) (yF ?_)
 refine yA (collect_list (zlK pl) ?_ (by rw [sizeLine_eq]; omega))
 refine yA (wpAny_newList ?_ (by rw [sizeLine_eq]; omega))
 have hsz:((s.heap.push (seqObj "list" #[] 0)).update s.heap.objs.size (Obj.mapSeq (· ++ vs.toArray))).objs.size=s.heap.objs.size+1:=by
  rw [Heap.size_update,size_push']
 have hoL:(((s.heap.push (seqObj "list" #[] 0)).update s.heap.objs.size (Obj.mapSeq (· ++ vs.toArray))).push (seqObj "list" vs.toArray 0)).get? (s.heap.objs.size+1)=some (seqObj "list" vs.toArray 0):=by
  rw [<- hsz]; exact yM _ rfl
 have hsz2:(((s.heap.push (seqObj "list" #[] 0)).update s.heap.objs.size (Obj.mapSeq (· ++ vs.toArray))).push (seqObj "list" vs.toArray 0)).objs.size=s.heap.objs.size+2:=by rw [size_push',hsz]
 have keep:∀ b o,s.heap.get? b=some o->(((s.heap.push (seqObj "list" #[] 0)).update s.heap.objs.size (Obj.mapSeq (· ++ vs.toArray))).push (seqObj "list" vs.toArray 0)).get? b=some o:=fun b o q=>by
  have hlt:b<s.heap.objs.size:=yJ q
  rw [Heap.get?_push_ne _ _ _ (by rw [hsz]; exact yW (Nat.lt_succ_of_lt hlt)),Heap.get?_update_ne _ _ _ _ (yW hlt),Heap.get?_push_ne _ _ _ (yW hlt)]
  exact q
 show wpAny _ _ _ _ _ { s with heap:=((s.heap.push (seqObj "list" #[] 0)).update s.heap.objs.size (Obj.mapSeq (· ++ vs.toArray))).push (seqObj "list" vs.toArray 0) }
 rw [hsz]; refine yA (Yg (wpAny_call_entry_kw slot_list_sort ⟨_,hoL,rfl⟩ entry_list_sort ?body (ksk_l1 _ _)))
 case body =>
  show wpAny (model X.prog X.w) X.A.in1.in1 (Builtin.«list.sort» ⟨[.ref (s.heap.objs.size+1)],[(Str.ofString "key",.ref f)]⟩) _ _ _
  rw [ksk_t1]
  refine So.srt_tree (s:={ s with heap:=((s.heap.push (seqObj "list" #[] 0)).update s.heap.objs.size (Obj.mapSeq (· ++ vs.toArray))).push (seqObj "list" vs.toArray 0) }) hoL h64' fun e1 h' keep' size' hk0 ha0=>?_
  dsimp only at keep' size' hk0
  rw [hsz2] at size' hk0
  have hDk:s.heap.objs.size+2+1≠s.heap.objs.size+1:=by omega
  have hD0:s.heap.objs.size<=s.heap.objs.size+1:=by omega
  have hK0:s.heap.objs.size<=s.heap.objs.size+2+1:=by omega
  have fD:=I.fpOk (H':=H) hD0 (I.hok.fresh hD0); have fK:=I.fpOk (H':=H) hK0 (I.hok.fresh hK0); rw [hsz2]; generalize hkS:s.heap.objs.size+2+1=kS at hk0 hDk fK; generalize hDD:s.heap.objs.size+1=D at ha0 hDk fD
  have I0:Inv X pins σ H { s with heap:=h' }:=I.kept (t':=s.toks) fun b u q=>keep' b u (fun z=>yP (yJ q) (by rw [z]; exact Nat.not_lt.mpr (Nat.le_succ _))) (keep b u q)
  have pin2:∀ {H':Hp} {s':Shared} {ks:List Value} {e:Nat},Inv X pins σ H' s'->s'.heap.get? kS=some (seqObj "list" ks.toArray e)->s'.heap.get? D=some (seqObj "list" #[] e1)->H' kS=none->H' D=none->Inv X ((kS,seqObj "list" ks.toArray e) :: (D,seqObj "list" #[] e1) :: pins) σ H' s':=fun I' g1 g2 n1 n2 =>
   I'.pins_of fun p hp=>by
    rcases yQ.mp hp with rfl | hp
    ·exact ⟨g1,n1,fK.2.1,fK.2.2.1,fun v z=>by cases z⟩
    ·rcases yQ.mp hp with rfl | hp
     ·exact ⟨g2,n2,fD.2.1,fD.2.2.1,fun v z=>by cases z⟩
     ·exact I'.pin p (yV _ hp)
  have unpin:∀ {H':Hp} {s':Shared} {ks:List Value} {e:Nat},Inv X ((kS,seqObj "list" ks.toArray e) :: (D,seqObj "list" #[] e1) :: pins) σ H' s'->Inv X pins σ H' s'/\(s'.heap.get? kS=some (seqObj "list" ks.toArray e)/\H' kS=none)/\(s'.heap.get? D=some (seqObj "list" #[] e1)/\H' D=none):=fun I'=>by
   have p1:=I'.pin (kS,_) (yV _ (.head _)); have p2:=I'.pin (D,_) (yV _ (.tail _ (.head _)))
   exact ⟨I'.pins_of fun p hp=>I'.pin p (yV _ (.tail _ (.tail _ hp))),⟨p1.1,p1.2.1⟩,⟨p2.1,p2.2.1⟩⟩
  have fin3:∀ {H':Hp} {s':Shared} {ks:List Value} {e:Nat} {ys:List V} {out:List Value},Inv X ((kS,seqObj "list" ks.toArray e) :: (D,seqObj "list" #[] e1) :: pins) σ H' s'->zae ys out->ys.length<128->(∀ p,H' p=none->Q (.ref p) (upd H' p (.lst ys)))->So.Fin3 D kS ks e e1 out (EP X pins σ Q (.ref D)) s':=fun {H' s' ks e ys out} I' r hy hq=>by
   obtain ⟨I2,⟨g1,n1⟩,⟨g2,n2⟩⟩:=unpin I'
   refine ⟨g1,g2,fun h2 c c2 kp sz q1 q2=>⟨.ref D,upd H' D (.lst ys),?_,rfl,hq D n2⟩⟩
   refine I2.turnedOwn (t':=s'.toks) (ch:=[kS,D]) (fun b hb=>?_) (by simp) (fun b u hb e=>kp b u (fun z=>hb (by simp [z])) (fun z=>hb (by simp [z])) e) ⟨by rw [sizeLine_eq]; omega,out,c2,r,q2⟩
   simp at hb
   rcases hb with rfl | rfl
   ·exact ⟨n1,fK.2⟩
   ·exact ⟨n2,fD.2⟩
  refine So.srt_rest (J:=fun ks e s'=>∃ (kv:List V) (H':Hp),zae kv ks/\Inv X ((kS,seqObj "list" ks.toArray e) :: (D,seqObj "list" #[] e1) :: pins) σ H' s'/\zpC sp Fin (xs.drop ks.length) kv H') h64' ?_ ?_ ?_ ?_
  ·rintro ks e s' ⟨kv,H',_,I',_⟩
   exact (unpin I').2.1.1
  ·rintro ks e s' x hx ⟨kv,H',rk,I',hk⟩
   have hlt:ks.length<xs.length:=by rw [hlen]; exact (yE.mp hx).1
   obtain ⟨x',hx',rx⟩:=rv.get (yB hlt); rw [hx] at hx'; cases hx'; rw [YK hlt] at hk
   refine yf (hrun _ _ _ _ _ _ I' rx hk) (fun kk s3 he=>?_) fun _ _ z=>z
   obtain ⟨v,H3,I3,r3,hk3⟩:=he
   obtain ⟨I4,⟨g1,n1⟩,⟨g2,n2⟩⟩:=unpin I3
   refine ⟨g1,fun c hc=>⟨kv ++ [v],H3,rk.append (.cons r3 .nil),?_,?_⟩⟩
   ·have sb:=Heap.SameBut.update s3.heap kS (Obj.mapSeq (·.push kk))
    have I5:Inv X pins σ H3 { s3 with heap:=s3.heap.update kS (Obj.mapSeq (·.push kk)) }:=I4.turned (t':=s3.toks) (it:=kS) (fun b o hb e=>(sb.2 b hb).trans e) n1 fK.2.1 fK.2.2.2.1 fK.2.2.2.2.1 fK.2.2.2.2.2
    exact pin2 I5 hc ((sb.2 D (fun z=>hDk z.symm)).trans g2) n1 n2
   ·rw [yg,List.length_singleton]
    exact hk3
  ·rintro ks e s' hkl ⟨kv,H',rk,I',hk⟩
   have hkl2:kv.length=xs.length:=by rw [rk.length,hkl,hlen]
   rw [show xs.drop ks.length=[] from YM (by omega)] at hk
   exact hend vs ks kv H' s' D kS e e1 _ _ _ rv rk hkl hDk I' hk fun ys out s4 I4 r hy hq=>(fin3 I4 r hy hq).mono fun s4 hq=>⟨_,rfl,yF ⟨_,rfl,hq⟩⟩
  ·exact ⟨[],H,.nil,pin2 I0 hk0 ha0 fK.1 fD.1,h⟩
end
section
def ltI (is:List Int):Nat->Nat->Bool:=fun i j=>decide (is.getD i 0<is.getD j 0)
def zsX (is:List Int):So.Ord (ltI is):=⟨fun a b h=>by
  unfold ltI at h ⊢
  simp at h ⊢
  omega,fun a b c h1 h2=>by
  unfold ltI at h1 h2 ⊢
  simp at h1 h2 ⊢
  omega⟩
theorem zhS:∀ {is:List Int} {us:List Value},zae (is.map V.int) us->IntsAre us is
 | [],_,.nil=>.nil
 | i :: is,_,.cons r t=>by
  obtain ⟨tk,rfl⟩:=r; exact .cons i tk (zhS t)
def ztq (is:List Int) {H:Hp}:zmS X (is.map V.int) H (ltI is):=by
 intro A' pins σ s kss I r h2; rw [yG] at h2; have hi:=zhS r
 have hl:kss.length=is.length:=by have:=r.length; simpa using this.symm
 rw [ksk_kind (keys:=kss.toArray) (kz:=is) (by simpa using hi) (by rw [yS]; omega)]
 refine yF ⟨I,fun i j C s'' h1 h2 I2 hC=>?_⟩
 rw [yG] at h1 h2; unfold kas_ask
 have g:∀ i,i<is.length->∃ t,kss.getD i Value.none=.int (is.getD i 0) t:=fun i h=>by
  have:=zcU r i (by rw [yG]; exact h)
  rw [show (is.map V.int).getD i .non=V.int (is.getD i 0) by simp [List.getD,yK,yB h]] at this
  exact this
 obtain ⟨t1,e1⟩:=g i h1; obtain ⟨t2,e2⟩:=g j h2; rw [e1,e2]; exact kat_lt_int (hC _ I2)
def ltP (ps:List (Int × List Nat)):Nat->Nat->Bool:=fun i j=>decide ((ps.getD i (0,[])).1<(ps.getD j (0,[])).1\/((ps.getD i (0,[])).1=(ps.getD j (0,[])).1/\(ps.getD i (0,[])).2<(ps.getD j (0,[])).2))
def zgT (ps:List (Int × List Nat)):So.Ord (ltP ps):=⟨fun a b h=>by
  unfold ltP at h ⊢
  simp only [yo,decide_eq_false_iff_not] at h ⊢; generalize ps.getD a (0,[])=x at h ⊢; generalize ps.getD b (0,[])=y at h ⊢
  rintro (h' | ⟨h',h''⟩)
  ·rcases h with h | ⟨h,_⟩ <;> omega
  ·rcases h with h | ⟨_,h⟩
   ·omega
   ·exact List.lt_irrefl _ (List.lt_trans h h''),fun a b c h1 h2=>by
  unfold ltP at h1 h2 ⊢
  simp only [decide_eq_false_iff_not,not_or,not_and] at h1 h2 ⊢; generalize ps.getD a (0,[])=x at h1 h2 ⊢; generalize ps.getD b (0,[])=y at h1 h2 ⊢; generalize ps.getD c (0,[])=z at h1 h2 ⊢
  refine ⟨by omega,fun e=>?_⟩
  have e1:y.1=x.1:=by omega
  have e2:z.1=y.1:=by omega
  have q1:=h1.2 e1; have q2:=h2.2 e2; intro q; rw [List.not_lt] at q1 q2; exact yP q (List.not_lt.mpr (List.le_trans q1 q2))⟩
def zpD (H:Hp):List Addr->List (Int × List Nat)->Prop:=Paired fun a p=>H a=some (.tup [.int p.1,.str (st p.2)])
def zg5 {s:Shared} {pins:yyL} {σ:St} {H:Hp} (I:Inv X pins σ H s) {a:Addr} {p:Int × List Nat} (h:H a=some (.tup [.int p.1,.str (st p.2)])) :
  ∃ o n t1 t2,s.heap.get? a=some o/\o.cls=.type "tuple"/\o.data=.seq (List.toArray [Value.int p.1 t1,Value.str (st p.2) t2]) n:=by
 obtain ⟨its,r,⟨o,e,c,n,d⟩,_⟩:=I.tuple (SqT.of h)
 obtain ⟨u,w',rfl,r1,r2⟩:=zlb r; obtain ⟨t1,rfl⟩:=r1; obtain ⟨t2,rfl⟩:=r2; exact ⟨o,n,t1,t2,e,c,d⟩
theorem zq7 {s:Shared} {pins:yyL} {σ:St} {H:Hp} (I:Inv X pins σ H s):∀ {as:List Addr} {ps:List (Int × List Nat)},zpD H as ps->∃ fs:List Value,fs.length=as.length/\KatTups s.heap (as.map Value.ref) fs/\∀ v,v ∈ fs->∃ i t,v=Value.int i t
 | [],[],_=>⟨[],rfl,trivial,fun _ z=>by simp at z⟩
 | a :: as,p :: ps,.cons h t=>by
  obtain ⟨fs,hl,kt,hf⟩:=zq7 I t; obtain ⟨o,n,t1,t2,e,c,d⟩:=zg5 I h
  refine ⟨.int p.1 t1 :: fs,by simp [hl],KatTups.cons e c d rfl kt,fun v hv=>?_⟩
  rcases yQ.mp hv with rfl | hv
  ·exact ⟨_,_,rfl⟩
  ·exact hf v hv
theorem zhy:∀ {as:List Addr} {us:List Value},zae (as.map V.ref) us->us=as.map Value.ref
 | [],_,.nil=>rfl
 | a :: as,_,.cons r t=>by rw [zhy t]; cases r; rfl
theorem zcT {H:Hp}:∀ {as:List Addr} {ps:List (Int × List Nat)} (i:Nat),zpD H as ps->i<as.length->H (as.getD i 0)=some (.tup [.int (ps.getD i (0,[])).1,.str (st (ps.getD i (0,[])).2)])
 | _ :: _,_ :: _,0,.cons h _,_=>h
 | _ :: _,_ :: _,i+1,.cons _ t,hi=>by
  have:=zcT i t (by simpa using hi)
  simpa using this
def ztp {H:Hp} {as:List Addr} {ps:List (Int × List Nat)} (k:zpD H as ps):zmS X (as.map V.ref) H (ltP ps):=by
 intro A' pins σ s kss I r h2; rw [yG] at h2; have e:=zhy r; subst e; obtain ⟨fs,hl,kt,hf⟩:=zq7 I k
 refine kat_kind (T:=.type "int") kt (by omega) (fun v hv=>?_) rfl ⟨I,fun i j C s'' h1 h2 I2 hC=>?_⟩
 ·obtain ⟨i,t,rfl⟩:=hf v hv
  exact Looks.of_pure rfl
 ·rw [yG] at h1 h2
  unfold kas_ask
  have g:∀ i,i<as.length->(as.map Value.ref).getD i Value.none=.ref (as.getD i 0):=fun i h=>by simp [List.getD,yK,yB h]
  rw [g i h1,g j h2]; obtain ⟨o,n,t1,t2,e1,c1,d1⟩:=zg5 I2 (zcT i k h1); obtain ⟨o',n',t1',t2',e1',c1',d1'⟩:=zg5 I2 (zcT j k h2); unfold ltP at hC; generalize ps.getD i (0,[])=p at *; generalize ps.getD j (0,[])=q at *; refine kat_lt e1 d1 e1' d1' ?_; refine kat_cons (wpAny_eqBool_int ?_)
  refine kat_go (fun he=>kat_yes (kat_cons (wpAny_eqBool_str (kat_go (fun he2=>kat_yes (kat_nil ?_)) fun he2=>kat_no ?_)))) fun he=>kat_no ?_
  ·have e1:p.1=q.1:=by simpa using he
   have e2:st p.2=st q.2:=by simpa using he2
   have e3:p.2=q.2:=by rw [<- zR p.2,e2,zR]
   have hz:=hC _ I2
   rw [show decide (p.1<q.1\/p.1=q.1/\p.2<q.2)=false by rw [e1,e3]; simp] at hz
   exact hz
  ·have e1:p.1=q.1:=by simpa using he
   have hz:=hC _ I2; refine kat_one _ _ (lt_str ?_)
   show C (decide ((st p.2).cps.toList<(st q.2).cps.toList)) s''
   simp only [zR]
   rw [show decide (p.1<q.1\/p.1=q.1/\p.2<q.2)=decide (p.2<q.2) by rw [e1]; simp] at hz
   exact hz
  ·have e1:¬ p.1=q.1:=by simpa using he
   have hz:=hC _ I2; refine oneLt_int ?_
   rw [show decide (p.1<q.1\/p.1=q.1/\p.2<q.2)=decide (p.1<q.1) by simp [e1]] at hz
   exact hz
end
end L2
namespace PL
open PySem L2
def zsd (ks:List D) (lt:Nat->Nat->Bool):Prop:=(∃ is:List Int,ks=is.map .int/\lt=ltI is)\/∃ ps:List (Int × List Nat),ks=ps.map (fun p=>.tup [.int p.1,.str p.2])/\lt=ltP ps
def zii (lt:Nat->Nat->Bool) (ds:List D):List D:=if ds.length<2 then ds else (So.run lt (W.kas_sort ds.length)).toList.map fun i=>ds.getD i .non
def zsd.ord {ks:List D} {lt:Nat->Nat->Bool} (h:zsd ks lt):So.Ord lt:=by
 rcases h with ⟨is,_,rfl⟩ | ⟨ps,_,rfl⟩
 ·exact zsX is
 ·exact zgT ps
theorem zd7 {K:W.Frag} {H:Hp}:∀ {vs:List V} {is:List Int},zaV K H vs (is.map .int)->vs=is.map V.int
 | [],[],_=>rfl
 | v :: vs,i :: is,.cons r t=>by rw [r.intI,zd7 t]; rfl
 | [],_ :: _,h=>nomatch h
 | _ :: _,[],h=>nomatch h
theorem zd6 {K:W.Frag} {H:Hp}:∀ {vs:List V} {ps:List (Int × List Nat)},zaV K H vs (ps.map fun p=>.tup [.int p.1,.str p.2])->∃ as:List Addr,vs=as.map V.ref/\zpD H as ps
 | [],[],_=>⟨[],rfl,.nil⟩
 | v :: vs,p :: ps,.cons r t=>by
  obtain ⟨as,rfl,k⟩:=zd6 t; obtain ⟨a,us,rfl,ha,dl⟩:=r.tupJ; obtain ⟨v1,v2,rfl,d1,d2⟩:=ziM dl; rw [d1.intI,d2.strI] at ha; exact ⟨a :: as,rfl,.cons ha k⟩
 | [],_ :: _,h=>nomatch h
 | _ :: _,[],h=>nomatch h
theorem zf7 {H H':Hp} (e:zU H H'):∀ {as:List Addr} {ps:List (Int × List Nat)},zpD H as ps->zpD H' as ps
 | _,_,.nil=>.nil
 | _,_,.cons h t=>.cons (e _ _ h) (zf7 e t)
def zmI {K:W.Frag} {H:Hp} {vs:List V} {ds:List D} (h:zaV K H vs ds) (i:Nat) (hi:i<vs.length):Den K H (vs.getD i .non) (ds.getD i .non):=by
 have hl:=zj h
 have:=paired_get i h (yB hi) (yB (by omega:i<ds.length))
 simpa [List.getD,yB hi,yB (by omega:i<ds.length)] using this
theorem zkp {K:W.Frag} {H:Hp} {vs:List V} {ds:List D} (h:zaV K H vs ds):∀ (l:List Nat),(∀ i,i ∈ l->i<vs.length)->zaV K H (l.map fun i=>vs.getD i .non) (l.map fun i=>ds.getD i .non)
 | [],_=>.nil
 | i :: l,q=>.cons (zmI h i (q i (by simp))) (zkp h l fun j hj=>q j (by simp [hj]))
def zlo {K:W.Frag} {H:Hp} {lt:Nat->Nat->Bool} (o:So.Ord lt) {vs:List V} {ds:List D} (h:zaV K H vs ds):zaV K H (zc5 lt vs) (zii lt ds):=by
 have hl:=zj h; unfold zc5 zii; rw [hl]; split
 ·exact h
 ·rename_i hn
  exact zkp h _ fun i hi=>by rw [hl]; exact (zeP o (by omega)).2 i hi
section
end
end PL
namespace L2
open PySem PySem.Spec PyProof.Rows
abbrev zdV (qual:Str) (params:Arguments) (body:Expr) (scope:Scope) (pm:Value) (c:Addr) (ctv:Value):Obj:=W.kla_obj "<lambda>" qual params body scope [] pm c ctv
abbrev zb9 (cl:List (Str × Addr)) (qual:Str) (params:Arguments) (body:Expr) (scope:Scope) (pm:Value) (c:Addr) (ctv:Value):Obj:=W.kla_obj "<lambda>" qual params body scope cl pm c ctv
abbrev zj3 (qual:Str) (params:Arguments) (body:Expr) (scope:Scope) (pm:Value) (c:Addr) (ctv:Value):FuncData:=W.kla_fn "<lambda>" qual params body scope [] pm (.ref c) ctv
def zjk (f c:Addr) (fo oc:Obj) (sp:Sp):Sp:=fun vs H Q E=>H f=some (zba (.inr fo))/\H c=some (zba (.inr oc))/\sp vs H Q E
section
def zq6 {CX:CXT} {k:Nat} {f c:Addr} {qual:Str} {params:Arguments} {body:Expr} {scope:Scope} {pm ctv:Value} {oc:Obj} {vs0:Array Value} {t0:Tok} {N ps:List Str} {sp:Sp}
  (S:FnScope N ps scope) (hd:oc.data=.fields vs0) (hv:vs0[1]?=some (.str qual t0)) (len:∀ vs H Q E,sp vs H Q E->vs.length=ps.length)
  (hbody:∀ (A:Around) (outer:List Env) (s:Shared) (H:Hp) (vs:List V) (Q:VK) (E:XK),Room k (A.deeper (envOfC qual scope s.heap.objs.size f (.ref c)))->sp vs H Q E ->
   ∃ t,PE (zdj CX P w K mg base N qual scope f (.ref c) A outer s H E) body t/\t (start N vs) H Q) :
  FnOk P w K mg base CX (k+1) f (zj3 qual params body scope pm c ctv) ps (zjk f c (zdV qual params body scope pm c ctv) oc sp):=by
 refine ⟨fun vs H Q E h=>len _ _ _ _ h.2.2,fun A outer s H args us vs Q E hr e0 hb r hsp=>?_⟩
 obtain ⟨hf,hc,hsp⟩:=hsp; have hl:=len _ _ _ _ hsp
 have of:s.heap.get? f=some (zdV qual params body scope pm c ctv):=(e0.hok f _ hf).1
 have oc':s.heap.get? c=some oc:=(e0.hok c _ hc).1
 have lim:s.heap.NoLimit:=e0.mod.nolimit.keeps fun b o e=>(e0.bs b o e).1
 have hkind:∀ y ∈ ps.zip us,scope.names.lookup y.1=some .local\/(scope.names.lookup y.1=some .cell/\((cellsFrom (s.heap.objs.size+1) scope.names []).lookup y.1).isSome=true):=fun ⟨n,v⟩ hy=>by
  rcases S.par n (List.of_mem_zip hy).1 with q | q
  ·exact .inl q
  ·exact .inr ⟨q,W.cellsFrom_some _ _ _ (.inl q)⟩
 refine W.kla_callFunE hr.depth of rfl S.co S.gen rfl ⟨c,oc,vs0,t0,rfl,oc',hd,hv⟩ (hb _ _ _ _ ?_)
 refine wpAny_newFunctionEnv_cells S.kind hkind fun env he s1 x=>?_
 subst he; refine ⟨lim.keeps x.toInCall.keep,W.kla_codeExpr ?_⟩; obtain ⟨t,ht,hq⟩:=hbody A outer s H vs Q E (hr.deeper _) hsp
 have I:Inv (zdj CX P w K mg base N qual scope f (.ref c) A outer s H E) [] (start N vs) H s1:=zdZ S hr.hd e0 hl r x
 refine yf (ht [] s1 (start N vs) H _ I hq) (fun u s' hs=>?_) fun e s' hs=>hs
 obtain ⟨v,H',J,rv,q⟩:=hs; exact ⟨v,H',J.os,J.bare,J.base,J.hok,rv,q⟩
end
def ziO {pos:Pos} {c cv:Value} {a b:Int} (l:List Value) (h:TriplesOk l) (e:codeAmong pos (l ++ [rawInt a,rawInt b,c])=some cv):codeAmong pos l=some cv\/cv=c:=by
 fun_induction TriplesOk l with
 | case1 =>
  simp only [Yn,codeAmong,rawInt] at e; split at e
  ·exact .inr (Option.some.inj e).symm
  ·cases e
 | case2 a' t b' u x zbb ih =>
  simp only [List.cons_append,codeAmong] at e ⊢; split at e
  ·rename_i hc
   rw [yI hc]; exact .inl e
  ·rename_i hc
   rw [yH hc]; exact ih h e
 | case3 l h1 h2=>exact h.elim
def zfp {P:Program} {w:World} {H:Hp} {h:Heap} {a:Addr} {o:Obj} (e:h.get? a=some o):zal P w H h a (zba (.inr o)):=⟨e,trivial,⟨o,e⟩,fun _ _ _ _=>trivial⟩
def NewLam (H H2:Hp) (f c:Addr) (fo oc:Obj):Prop:=∃ H1,(H1=H\/(H c=none/\H1=upd H c (zba (.inr oc))))/\H1 c=some (zba (.inr oc))/\H1 f=none/\H2=upd H1 f (zba (.inr fo))
section
def zf6 {cl:List (Str × Addr)} {params:Arguments} {body:Expr} {scope:Scope} {lpos:Pos} {c Pt:Addr} {Q:VK} {E':Value->Shared->Prop} (I:Inv X pins σ H s) (hc:X.env.code=.ref c) (hC:W.codeHdIn X.K c Pt=true)
  (hT:X.base.objs[Pt]?=some (zdr (X.env.qual ++ "<lambda>"))) (hdef:defaultsOf params X.env=([],[])) (hcl:closureFor scope X.env=pure cl)
  (q:∀ (f c':Addr) (oc:Obj) (vs:Array Value) (t:Tok) (pm ctv:Value) (H2:Hp),oc.data=.fields vs->vs[1]?=some (.str (X.env.qual ++ "<lambda>") t)->NewLam H H2 f c' (zb9 cl (X.env.qual ++ "<lambda>") params body scope pm c' ctv) oc->Q (.ref f) H2) :
  wpAny (model X.prog X.w) X.A (eval (.Lambda params body scope lpos) X.env) (EP X pins σ Q) E' s:=by
 obtain ⟨ps,hP,hq⟩:=I.env0.tab Pt _ hT; obtain ⟨ts,ht1,ht2,ht3⟩:=I.hok Pt _ hP
 have hg:s.heap.Ns mainGlobals X.mg:=I.mod.glob.keeps I.bk
 have C:=W.codeHd_of_K I.kIn hC; obtain ⟨bm,ob,b1,b2,b3,b4,b5,b6⟩:=I.mod.bm; have hbm:=I.bk _ _ b3
 have hgP:mainGlobals≠Pt:=fun z=>by
  obtain ⟨o,es,ep,e,_⟩:=I.mod.glob; have y:=(I.bs _ _ e).2; rw [z,hP] at y; cases y
 have hbP:bm≠Pt:=fun z=>by
  have y:=(I.bs _ _ b3).2; rw [z,hP] at y; cases y
 have hbG:bm≠mainGlobals:=fun z=>by
  obtain ⟨o,es,ep,e,hd,_⟩:=I.mod.glob; rw [<- z,b3] at e; cases e; rw [b6] at hd; cases hd
 refine W.kla_eval hdef ?_
 cases hf:codeAmong lpos ts.toList with
 | none =>
  refine W.kla_makeFunction (mg:=X.mg) hcl I.ok.glob hg hc C ht1 ht2 hf hgP ⟨bm,ob,b1,b2,hbG,hbP,hbm,b4,b5,b6⟩ fun c' ctv h' tk hx hge hlt hrec htb=>?_
  obtain ⟨c2,oc,vs,t,e2,hoc,hd,hv⟩:=hrec; cases e2
  have fr:H c'=none:=I.hok.fresh hge
  have nP:∀ b,H b=none->b≠Pt:=fun b n z=>by rw [z,hP] at n; cases n
  have sm:∀ b u,H b=some u->upd H c' (zba (.inr oc)) b=some u:=fun b u e=>by rw [zq (zw e fr)]; exact e
  have cP:c'≠Pt:=fun z=>by rw [z,hP] at fr; cases fr
  have un:Un X.fs [] H (upd H c' (zba (.inr oc))) s.heap h':=by
   refine ⟨fun b o e n _ _=>hx b o (nP b n) e,fun b o e n _ _=>⟨o.slots,hx b o (nP b n) e⟩,fun b o e n _=>?_,fun b o e _=>?_,fun b xs e=>sm _ _ e,fun b o u e=>sm _ _ e,fun b ps e=>⟨#[],by rw [sm _ _ e]; simp⟩⟩
   ·rw [zq (yW (yT (yJ e) hge))]
    exact n
   ·by_cases z:b=Pt
    ·rw [z]; exact ⟨_,htb⟩
    ·exact ⟨o,hx b o z e⟩
  have hok:HOk X.prog X.w (upd H c' (zba (.inr oc))) h':=fun b u e=>by
   by_cases z:b=c'
   ·subst z
    rw [zn] at e; cases e; exact zfp hoc
   ·rw [zq z] at e
    by_cases y:b=Pt
    ·subst y
     rw [hP] at e; cases e
     refine ⟨_,htb,?_,fun pos cv ee=>?_⟩
     ·rw [YO]
      exact TriplesOk_snoc _ _ _ _ ht2
     ·rw [YO] at ee
      rcases ziO _ ht2 ee with y | y
      ·obtain ⟨c3,oc3,vs3,t3,q3,t4,z1,z2,z3⟩:=ht3 pos cv y
       exact ⟨c3,oc3,vs3,t3,q3,t4,z1,sm _ _ z2,z3⟩
      ·exact ⟨c',oc,vs,t,_,_,y,zn,hd,hv,hq⟩
    ·refine (I.hok b u e).stay (fun d v hd r=>hx d v ?_ r) (fun d r=>sm _ _ r) fun d xs r=>sm _ _ r
     rcases hd with rfl | hd
     ·exact y
     ·intro zz
      rw [zz,hP] at hd; cases hd
  have I1:=I.un (t':=tk) un hok
  refine ⟨.ref h'.objs.size,_,I1.laid (a:=h'.objs.size) (o:=zba (.inr (zb9 cl (X.env.qual ++ "<lambda>") params body scope ((X.mg "__name__").getD .none) c' ctv))) (t':=tk) (fun b u e=>yC _ e) (yD _) (zfp (yM _ rfl)),rfl,?_⟩
  exact q _ c' oc vs t _ ctv _ hd hv ⟨_,.inr ⟨fr,rfl⟩,zn,hok.fresh (yD _),rfl⟩
 | some cv =>
  obtain ⟨c',oc,vs,t,q',t0,rfl,hc',hd,hv,hq'⟩:=ht3 lpos cv hf; rw [hq] at hq'; cases hq'
  refine W.kla_makeFunctionHit (mg:=X.mg) hcl I.ok.glob hg hc C ht1 ht2 hf ⟨bm,ob,b1,b2,hbG,hbP,hbm,b4,b5,b6⟩ fun ctv h' tk hk hsz=>?_
  have I1:=I.kept (t':=tk) hk
  refine ⟨.ref h'.objs.size,_,I1.laid (a:=h'.objs.size) (o:=zba (.inr (zb9 cl (X.env.qual ++ "<lambda>") params body scope ((X.mg "__name__").getD .none) c' ctv))) (t':=tk) (fun b u e=>yC _ e) (yD _) (zfp (yM _ rfl)),rfl,?_⟩
  exact q _ c' oc vs t _ ctv _ hd hv ⟨_,.inl rfl,hc',I1.hok.fresh (yD _),rfl⟩
def zmd {params:Arguments} {body:Expr} {scope:Scope} {lpos:Pos} {c Pt:Addr} {Q:VK} {E':Value->Shared->Prop} (I:Inv X pins σ H s) (hc:X.env.code=.ref c) (hC:W.codeHdIn X.K c Pt=true)
  (hT:X.base.objs[Pt]?=some (zdr (X.env.qual ++ "<lambda>"))) (hdef:defaultsOf params X.env=([],[])) (hcl:closureFor scope X.env=pure [])
  (q:∀ (f c':Addr) (oc:Obj) (vs:Array Value) (t:Tok) (pm ctv:Value) (H2:Hp),oc.data=.fields vs->vs[1]?=some (.str (X.env.qual ++ "<lambda>") t)->NewLam H H2 f c' (zdV (X.env.qual ++ "<lambda>") params body scope pm c' ctv) oc->Q (.ref f) H2) :
  wpAny (model X.prog X.w) X.A (eval (.Lambda params body scope lpos) X.env) (EP X pins σ Q) E' s :=
 zf6 I hc hC hT hdef hcl q
end
section
def zum (qual:Str) (params:Arguments) (body:Expr) (scope:Scope):TE:=fun _ H Q=>∀ (f c:Addr) (oc:Obj) (vs:Array Value) (t:Tok) (pm ctv:Value) (H2:Hp),oc.data=.fields vs->vs[1]?=some (.str qual t)->NewLam H H2 f c (zdV qual params body scope pm c ctv) oc->Q (.ref f) H2
structure LamAt (X:Cx) (qual:Str):Prop where
 ex:∃ c Pt,X.env.code=.ref c/\W.codeHdIn X.K c Pt=true/\X.base.objs[Pt]?=some (zdr qual)
 qu:X.env.qual ++ "<lambda>"=qual
def zqH {qual:Str} {params:Arguments} {body:Expr} {scope:Scope} {lpos:Pos} (L:LamAt X qual) (hdef:defaultsOf params X.env=([],[]):=by rfl) (hcl:closureFor scope X.env=pure []:=by rfl):PE X (.Lambda params body scope lpos) (zum qual params body scope):=by
 obtain ⟨⟨c,Pt,hc,hC,hT⟩,rfl⟩:=L
 intro pins s σ H Q I h; exact zmd I hc hC hT hdef hcl h
def NewLam.same {H H2:Hp} {f c:Addr} {fo oc:Obj} (n:NewLam H H2 f c fo oc):zU H H2:=by
 obtain ⟨H1,h1,_,h3,rfl⟩:=n; intro b u e
 rcases h1 with rfl | ⟨h1,rfl⟩
 ·rw [zq (zw e h3)]; exact e
 ·have e1:upd H c (zba (.inr oc)) b=some u:=by rw [zq (zw e h1)]; exact e
  rw [zq (zw e1 h3)]; exact e1
def NewLam.has {H H2:Hp} {f c:Addr} {fo oc:Obj} (n:NewLam H H2 f c fo oc):H2 f=some (zba (.inr fo))/\H2 c=some (zba (.inr oc)):=by
 obtain ⟨H1,h1,h2,h3,rfl⟩:=n
 exact ⟨zn,by rw [zq (zw h2 h3)]; exact h2⟩
def zlm {K:W.Frag} {H H':Hp} {a:Addr} {vs:List V} (e:zU H H') (h:SqL K H a vs):SqL K H' a vs:=by
 rcases h with h | h
 ·rcases h with h | ⟨o,h⟩
  ·exact .inl (.inl (e _ _ h))
  ·exact .inl (.inr ⟨o,e _ _ h⟩)
 ·exact .inr h
end
end L2
namespace PL
open PySem L2
section
def zoR {k:Nat} {f c:Addr} {qual:Str} {params:Arguments} {body:Expr} {scope:Scope} {pm ctv:Value} {oc:Obj} {vs0:Array Value} {t0:Tok} {N ps:List Str} {sp:Sp'}
  (S:FnScope N ps scope) (hd:oc.data=.fields vs0) (hv:vs0[1]?=some (.str qual t0)) (len:∀ ds Q,sp ds Q->ds.length=ps.length)
  (hbody:∀ (A:Around) (outer:List Env) (s:Shared) (H:Hp) (E:XK),Room k (A.deeper (PyProof.Rows.envOfC qual scope s.heap.objs.size f (.ref c)))->∀ ds Q,sp ds Q ->
   ∃ t,PE' (zdj CX0 P w K mg base N qual scope f (.ref c) A outer s H E).nox body t/\t (zaG N ds) fun d _=>Q (.val d)) :
  FnOk P w K mg base CX0 (k+1) f (zj3 qual params body scope pm c ctv) ps (zjk f c (zdV qual params body scope pm c ctv) oc (zhv K sp)):=by
 refine zq6 S hd hv (fun vs H Q E h=>?_) fun A outer s H vs Q E hr h=>?_
 ·obtain ⟨Hi,ds,Q',_,dl,h,_⟩:=h
  rw [zj dl]; exact len ds Q' h
 ·obtain ⟨Hi,ds,Q',sb,dl,h,fin⟩:=h
  obtain ⟨t,h1,h2⟩:=hbody A outer s H E hr ds Q' h
  have hpl:ps.length<=N.length:=by have:=ym List.length S.pre; rw [YB] at this; omega
  refine ⟨_,h1.h.nox,⟨H,Hi,[]⟩,Hi,zaG N ds,_,zbA (len ds Q' h) hpl sb dl,h2,?_⟩
  rintro v H' ⟨Hi',d,Γ',s1,g1,dv,q⟩
  exact fin Hi' H' v (.val d) ⟨s1,fun b o e=>g1.keep b o e (by simp),g1.fz,fun b o e=>g1.fro b o e⟩ dv q
end
theorem zga {K:W.Frag} {sp:Sp'} {Fin:List V->Hp->Prop} {Hi1 H1:Hp} {f c:Addr} {fo oc:Obj} (hf:H1 f=some (zba (.inr fo))) (hc:H1 c=some (zba (.inr oc))):∀ (r:List V) (rd kd:List D) (acc:List V) (accD:List D) (Hi H:Hp),Ext Hi1 H1 Hi H->zaV K Hi r rd->kd.length=rd.length->(∀ (i:Nat) x k,rd[i]?=some x->kd[i]?=some k->sp [x] fun r=>r=.val k)->zaV K Hi acc accD ->
  (∀ acc Hi H,Ext Hi1 H1 Hi H->zaV K Hi acc (accD ++ kd)->Fin acc H)->zpC (zjk f c fo oc (zhv K sp)) Fin r acc H
 | [],[],kd,acc,accD,Hi,H,ex,_,hl,_,da,fin=>by
  have:kd=[]:=List.length_eq_zero_iff.mp (by simpa using hl)
  subst this
  exact fin acc Hi H ex (by rw [yd]; exact da)
 | v :: r,d :: rd,k :: kd,acc,accD,Hi,H,ex,.cons d1 t,hl,hsp,da,fin=>by
  refine ⟨ex.h _ _ hf,ex.h _ _ hc,Hi,[d],fun r=>r=.val k,ex.fz,.cons d1 .nil,hsp 0 d k rfl rfl,fun Hi' H' v' r' e2 ro hq=>?_⟩
  subst hq
  refine zga hf hc r rd kd (acc ++ [v']) (accD ++ [k]) Hi' H' (ex.trans e2) (zaV.mono t e2.hi) (by simpa using hl) (fun i x k h1 h2=>hsp (i+1) x k (by simpa using h1) (by simpa using h2)) (zaL (da.mono e2.hi) (.cons ro .nil)) fun acc Hi H e3 da=>?_
  exact fin acc Hi H e3 (by simpa using da)
 | [],_ :: _,_,_,_,_,_,_,h,_,_,_,_=>nomatch h
 | _ :: _,[],_,_,_,_,_,_,h,_,_,_,_=>nomatch h
 | _ :: _,_ :: _,[],_,_,_,_,_,_,hl,_,_,_=>by simp at hl
def NewLam.ext {Hi H H2:Hp} {f c:Addr} {fo oc:Obj} (n:NewLam H H2 f c fo oc) (fz:Fz Hi H):Ext Hi H Hi H2:=by
 obtain ⟨H1,h1,h2,h3,rfl⟩:=n
 have e1:Ext Hi H Hi H1:=by
  rcases h1 with rfl | ⟨h1,rfl⟩
  ·exact Ext.refl fz
  ·exact Ext.newO fz h1 _ fun _ z=>nomatch z
 exact e1.trans (Ext.newO e1.fz h3 _ fun _ z=>nomatch z)
section
end
end PL
namespace L2
open PySem PySem.Spec PyProof.Rows
def ztC (T:List (Addr × Str)) (a:Addr) (H:Hp):Prop:=∀ b u,H b=some u->(b=a/\∃ o xs,u=.frz o (.lst xs))\/∃ q,T.lookup b=some q/\u=.tbl #[.str q 0]
def zj2 {P:Program} {w:World} {K:W.Frag} {mg mb:Str->Option Value} {CX:CXT} {k:Nat} {fa a:Addr} {fd:FuncData} {x:Str} {sp:Sp} {s₁:Shared} {vs:List Value} {ns:List Int} (T:List (Addr × Str))
  (KX:K.In s₁.heap) (hns:s₁.heap.Ns mainGlobals mg) (hb:s₁.heap.Ns builtinsNs mb) (hbb:∀ x:Str,x≠"__name__"->mb x=bootBuiltins x) (hlim:s₁.heap.NoLimit)
  (hbm:∃ bm ob,mg "__builtins__"=some (.ref bm)/\bm≠builtinsNs/\s₁.heap.get? bm=some ob/\ob.cls=.type "module"/\ob.dict=some builtinsNs/\ob.data=.plain) (hg:s₁.gens=#[])
  (ha:s₁.heap.get? a=some { cls:=.type "list",data:=.seq vs.toArray }) (hi:IntsAre vs ns) (hl:ns.length<=sizeLine) (hr:Room k callerA)
  (hT:∀ b q,T.lookup b=some q->s₁.heap.get? b=some (W.tabObj #[])/\(∃ c,W.codeHdIn K c b=true)/\K.lookup b=none)
  (F:∀ base:Heap,K.In base->base.Ns mainGlobals mg->(∀ b q,T.lookup b=some q->base.objs[b]?=some (zdr q))->FnOk P w K mg base CX k fa fd [x] sp) (hbind:∀ (s:Shared) (u:Value),BindsTo s fd ⟨[u],[]⟩ [(x,u)])
  (hsp:∀ H:Hp,SqL K H a (ns.map V.int)->sp [.ref a] H (fun v _=>v=.bl true) fun _ _ _=>False)
  (hCX:∀ H e s',CX [] H s₁ (fun _ _ _=>False) e s'->False) :
  codeAny (model P w) callerA (.call (.ref fa) ⟨[.ref a],[]⟩) (fun r s'=>r=.ok (.ret (.bool true))/\OldK s₁.heap s'.heap/\s'.os=s₁.os/\AllBare s'.gens) s₁:=by
 have rv:=zfz hi; have lenV:=hi.length
 have naT:T.lookup a=none:=by
  cases q:T.lookup a with
  | none=>rfl
  | some z =>
   have e:=(hT a z q).1; rw [ha] at e; cases e
 have core:∀ H:Hp,ztC T a H->(∀ b q,T.lookup b=some q->H b=some (.tbl #[.str q 0]))->SqL K H a (ns.map V.int)->HOk P w H s₁.heap->(H a≠none->K.lookup a=none) ->
   codeAny (model P w) callerA (.call (.ref fa) ⟨[.ref a],[]⟩) (fun r s'=>r=.ok (.ret (.bool true))/\OldK s₁.heap s'.heap/\s'.os=s₁.os/\AllBare s'.gens) s₁:=by
  intro H hO hO2 hS hok hK
  have base_of:∀ {b:Addr} {o:Obj},s₁.heap.get? b=some o->H b=none->(nrm s₁.heap H).get? b=some o:=fun e n=>zoL e n
  have isL:∀ {b:Addr} {u:HO} {o:Obj},H b=some u->s₁.heap.get? b=some o->(∃ its n,o.data=.seq its n)\/o.data=.fields #[]:=fun {b u o} q e=>by
   rcases hO b u q with ⟨rfl,_⟩ | ⟨z,y,_⟩
   ·rw [ha] at e; cases e
    exact .inl ⟨_,_,rfl⟩
   ·rw [(hT b z y).1] at e; cases e
    exact .inr rfl
  have noA:∀ {b:Addr} {o:Obj},s₁.heap.get? b=some o->(∀ its n,o.data≠.seq its n)->o.data≠.fields #[]->H b=none:=fun {b o} e d1 d2=>by
   cases q:H b with
   | none=>rfl
   | some u =>
    rcases isL q e with ⟨its,n,z⟩ | z
    ·exact yP z (d1 _ _)
    ·exact yP z d2
  have nsK:∀ {b:Addr} {m:Str->Option Value},s₁.heap.Ns b m->(nrm s₁.heap H).Ns b m:=fun {b m} ⟨o,es,ep,e,d,r⟩=>⟨o,es,ep,base_of e (noA e (fun _ _ z=>by rw [d] at z; cases z) (fun z=>by rw [d] at z; cases z)),d,r⟩
  have hKb:K.In (nrm s₁.heap H):=fun b o e=>base_of (KX b o e) (by
   cases q:H b with
   | none=>rfl
   | some u =>
    rcases hO b u q with ⟨rfl,_⟩ | ⟨z,y,_⟩
    ·rw [hK (by rw [q]; simp)] at e; cases e
    ·rw [(hT b z y).2.2] at e; cases e)
  have hM:Mod K mg (nrm s₁.heap H):=⟨hKb,nsK hns,⟨mb,nsK hb,hbb⟩,(let ⟨mc,h1,h2⟩:=hlim; ⟨mc,nsK h1,h2⟩),(let ⟨bm,ob,b1,b2,b3,b4,b5,b6⟩:=hbm; ⟨bm,ob,b1,b2,base_of b3 (noA b3 (fun _ _ z=>by rw [b6] at z; cases z) (fun z=>by rw [b6] at z; cases z)),b4,b5,b6⟩)⟩
  have hmk:∀ b q,T.lookup b=some q->(nrm s₁.heap H).objs[b]?=some (zdr q):=fun b q e=>by
   rw [zhJ,(zcA (hT b q e).1).1,hO2 b q e]; rfl
  have e0:Env0 P w K mg (nrm s₁.heap H) callerA [] s₁ H:=⟨rfl,hM,fun b o e=>zqY e,Nat.le_of_eq (zl7 _ _),trivial,fun b hb=>yP (show b ∈ ([]:List Addr) from hb) (by simp),hok,.of_eq hg,zl6 _ _⟩
  refine codeAny_mono ((F _ hKb (nsK hns) hmk).run callerA [] s₁ H ⟨[.ref a],[]⟩ [.ref a] [.ref a] _ _ hr e0 (hbind s₁ (.ref a)) (.cons rfl .nil) (hsp H hS)) fun r s' h=>?_
  cases r with
  | error e=>exact (hCX H e s' h).elim
  | ok fl =>
   cases fl with
   | next=>exact False.elim h
   | brk=>exact False.elim h
   | cont=>exact False.elim h
   | ret u =>
    obtain ⟨v,H',os,bare,un,hok',r',q⟩:=h
    have q':v=.bl true:=q
    subst q'
    obtain rfl:u=Value.bool true:=r'
    have old:∀ b o,s₁.heap.get? b=some o->asItWas s₁.heap s'.heap b o/\∃ o',s'.heap.get? b=some o':=fun b o e=>by
     cases q:H b with
     | none =>
      have z:=un.keep b o e q (by intro z; exact yP (show b ∈ ([]:List Addr) from z) (by simp)) (by simp)
      exact ⟨.inl z,o,z⟩
     | some u =>
      rcases hO b u q with ⟨_,ob,xs,rfl⟩ | ⟨z,y,rfl⟩
      ·have z2:=un.frzs b ob _ q
       obtain ⟨e1,_⟩:=hok b _ q; obtain ⟨e2,_⟩:=hok' b _ z2
       rw [e] at e1; cases e1
       exact ⟨.inl e2,o,e2⟩
      ·obtain ⟨h1,⟨c,h2⟩,_⟩:=hT b z y
       rw [e] at h1; cases h1; obtain ⟨more,z2⟩:=un.tbls b _ q; obtain ⟨ts,e2,_⟩:=hok' b _ z2; refine ⟨.inr (.inl ⟨((W.codeHd_of_K KX h2).tab e).isCodeTable,rfl,#[],ts,rfl,?_⟩),_,e2⟩; rw [e2]; simp
    exact ⟨rfl,⟨fun b o e=>(old b o e).1,fun b o e=>(old b o e).2⟩,os,bare⟩
 have tb_ok:∀ (H:Hp) (b:Addr) (q:Str),T.lookup b=some q->zal P w H s₁.heap b (.tbl #[.str q 0]):=fun H b q e=>⟨#[],(hT b q e).1,trivial,fun pos cv z=>by cases z⟩
 cases hk:K.lookup a with
 | some o =>
  have e:=KX a o hk; rw [ha] at e; cases e
  refine core (fun b=>(T.lookup b).map fun q=>.tbl #[.str q 0]) (fun b u z=>?_) (fun b q z=>by show (T.lookup b).map _=_; rw [z]; rfl) (.inr ⟨_,vs.toArray,_,hk,rfl,rfl,rfl,by rw [yS,lenV]; exact hl,by simpa using rv⟩) (fun b u z=>?_) fun z=>yP (by show (T.lookup a).map _=none; rw [naT]; rfl) z
  ·have z':(T.lookup b).map (fun q=>HO.tbl #[.str q 0])=some u:=z
   cases y:T.lookup b with
   | none=>rw [y] at z'; cases z'
   | some q=>rw [y] at z'; cases z'; exact .inr ⟨q,rfl,rfl⟩
  ·have z':(T.lookup b).map (fun q=>HO.tbl #[.str q 0])=some u:=z
   cases y:T.lookup b with
   | none=>rw [y] at z'; cases z'
   | some q=>rw [y] at z'; cases z'; exact tb_ok _ b q y
 | none =>
  refine core (fun b=>if b=a then some (.frz { cls:=.type "list",data:=.seq vs.toArray } (.lst (ns.map V.int))) else (T.lookup b).map fun q=>.tbl #[.str q 0]) (fun b u z=>?_) (fun b q z=>?_) (.inl (.inr ⟨{ cls:=.type "list",data:=.seq vs.toArray },yI rfl⟩)) (fun b u z=>?_) fun _=>hk
  ·by_cases hb:b=a
   ·have z':=(yI hb).symm.trans z
    cases z'; exact .inl ⟨hb,_,_,rfl⟩
   ·have z':=(yH hb).symm.trans z
    cases y:T.lookup b with
    | none=>rw [y] at z'; cases z'
    | some q=>rw [y] at z'; cases z'; exact .inr ⟨q,rfl,rfl⟩
  ·have hb:b≠a:=fun y=>by rw [y,naT] at z; cases z
   show (if b=a then _ else _)=_
   rw [yH hb,z]; rfl
  ·by_cases hb:b=a
   ·have z':=(yI hb).symm.trans z
    cases z'; subst hb
    exact ⟨ha,by rw [yG]; exact hl,vs,_,rv,ha⟩
   ·have z':=(yH hb).symm.trans z
    cases y:T.lookup b with
    | none=>rw [y] at z'; cases z'
    | some q=>rw [y] at z'; cases z'; exact tb_ok _ b q y
end L2
namespace PL
open PySem L2
structure LamOf (K:W.Frag) (mg:Str->Option Value) (base:Heap) (x qual:Str):Prop where
 ex:∃ c Pt,(∀ f fd oc od sl,mg x=some (.ref f)->K.lookup f=some ⟨oc,od,.func fd,sl⟩->fd.code=.ref c)/\W.codeHdIn K c Pt=true/\base.objs[Pt]?=some (zdr qual)
 qu:x ++ ".<locals>." ++ "<lambda>"=qual
section
variable {k:Nat} {x qual:Str} {ps:List Str} {sp:Sp'}
def Df.okL {st:Stmt} {N:List Str} (d:Df K mg x st ps) (lo:LamOf K mg base x qual) (S:FnScope N ps (zm st)) (len:∀ ds Q,sp ds Q->ds.length=ps.length)
  (hbody:∀ (f:Addr) (cdv:Value) (A:Around) (outer:List Env) (s:Shared) (H:Hp) (E:XK),LamAt (zdj CX0 P w K mg base N x (zm st) f cdv A outer s H E).nox qual->Room k (A.deeper (PyProof.Rows.envOfC x (zm st) s.heap.objs.size f cdv))->∀ ds Q,sp ds Q ->
   ∃ t,PSs' (zdj CX0 P w K mg base N x (zm st) f cdv A outer s H E).nox (zaw st) t/\t { nx:=fun _=>Q (.val .non),rt:=fun r _=>Q r } (zaG N ds)):Fn P w K mg base (k+1) x ps sp:=by
 obtain ⟨f,fd,F,b,m⟩:=d.ex; obtain ⟨oc,od,kV,doc,pm,an,cdv,ct,osl,e,lk,hcd⟩:=id F.ex
 obtain ⟨⟨c,Pt,hc,hC,hT⟩,qu⟩:=lo
 have hcd':=hc f fd oc od osl m lk; subst e; refine ⟨f,_,?_,b,F.kp,m,oc,od,osl,lk⟩
 refine zo9 lk hcd S (fun vs H Q E h=>?_) fun A outer s H vs Q E hr h=>?_
 ·obtain ⟨Hi,ds,Q',_,dl,h,_⟩:=h
  rw [zj dl]; exact len ds Q' h
 ·obtain ⟨Hi,ds,Q',sb,dl,h,fin⟩:=h
  obtain ⟨t,h1,h2⟩:=hbody f cdv A outer s H E ⟨⟨c,Pt,hcd',hC,hT⟩,qu⟩ hr ds Q' h
  have hpl:ps.length<=N.length:=by have:=ym List.length S.pre; rw [YB] at this; omega
  refine ⟨_,h1.h.nox,⟨H,Hi,[]⟩,Hi,zaG N ds,_,zbA (len ds Q' h) hpl sb dl,h2,?_⟩
  refine ⟨fun σ' H' Hi' Γ' s1 g1 q=>?_,fun _ _ _ _ _ _ q=>q.elim,fun _ _ _ _ _ _ q=>q.elim,fun v σ' H' Hi' Γ' r s1 g1 ro q=>?_⟩
  ·exact fin Hi' H' .non (.val .non) ⟨s1,fun b o e=>g1.keep b o e (by simp),g1.fz,fun b o e=>g1.fro b o e⟩ .non q
  ·exact fin Hi' H' v r ⟨s1,fun b o e=>g1.keep b o e (by simp),g1.fz,fun b o e=>g1.fro b o e⟩ ro q
end
def zjj (K:W.Frag) (H:Hp) (a:Addr) (ns:List Int) (hl:ns.length<=63) (hS:SqL K H a (ns.map V.int)):zhv K zih [.ref a] H (fun v _=>v=.bl true) (fun _ _ _=>False):=by
 refine ⟨H,[.lst (ns.map .int)],fun r=>r=.val (.bl true),⟨zU.refl _,fun b xs q=>q⟩,.cons (Den.mkL hS (zh4 ns)) .nil,⟨ns,rfl,hl,rfl⟩,?_⟩
 rintro Hi' H' v r ex ro rfl
 exact Den.blI ro
def walk_lawT {l:W.OpenLaw} {k:Nat} {q:Program} {loose:List Str} {XP:(Str->Option Value)->Heap->Prop} {YP:World->Heap->Prop} {d:DefRec} {K:Params->W.Frag} {x:Str} (T:List (Addr × Str)) (hn:l.most=some 63) (hdf:d.params.defaults=[]) (hr:Room k callerA)
  (hY:∀ (w:World) (h:Heap),YP w h->(K w.params).In h)
  (hYT:∀ (w:World) (h:Heap),YP w h->∀ b q,T.lookup b=some q->h.get? b=some (W.tabObj #[]))
  (F:∀ (w:World) (mg:Str->Option Value) (fa:Addr) (h:Heap),(K w.params).In h->h.Ns mainGlobals mg->mg d.name=some (.ref fa) ->
   (∀ b q,T.lookup b=some q->(∃ c,W.codeHdIn (K w.params) c b=true)/\(K w.params).lookup b=none) /\
   ∃ fd:FuncData,(∀ (s:Shared) (u:Value),BindsTo s fd ⟨[u],[]⟩ [(x,u)])/\∀ base:Heap,(K w.params).In base->base.Ns mainGlobals mg->(∀ b q,T.lookup b=some q->base.objs[b]?=some (zdr q))->FnOk l.prog w (K w.params) mg base CX0 k fa fd [x] (zhv (K w.params) zih)) :
  W.WalkO q loose XP YP l.row.toRowW d [] (fun f vs=>PySem.call f vs):=by
 refine Att.attach_call hn hdf fun w s₀ s₁ mg mb fa o pm cd doc a vs ns G Y ho hd hcd hmg hobj hints hlen hg=>?_
 have KX:=hY w _ Y; obtain ⟨hT,fd,hb,hF⟩:=F w mg fa _ KX G.T.g hmg
 exact zj2 T KX G.T.g G.T.b G.T.builtins G.T.nolimit G.T.bmain hg hobj hints (YG hlen (by decide)) hr (fun b q e=>⟨hYT w _ Y b q e,hT b q e⟩) hF hb (fun H hS=>zjj _ H a ns hlen hS) fun _ _ _ z=>z
def zln (R:D->D->Prop):Sp':=fun ds Q=>∃ d k,ds=[d]/\R d k/\Q (.val k)
def zji (R:D->D->Prop) {x:Str}:∀ ds Q,zln R ds Q->ds.length=[x].length:=fun _ _ ⟨_,_,e,_⟩=>by rw [e]; rfl
def zhu {R:D->D->Prop} {x k:D} (h:R x k):zln R [x] fun r=>r=.val k:=⟨x,k,rfl,h,rfl⟩
section
variable {pos:Pos}
end
end PL
namespace MS
open PySem L2 PL
theorem zjZ:∀ (N:Nat) (l:List Nat),l.Nodup->(∀ x,x ∈ l->x<N)->l.length<=N
 | 0,l,_,h=>by
  cases l with
  | nil=>simp
  | cons a r=>exact yP (h a (by simp)) (by omega)
 | N+1,l,hd,h=>by
  by_cases e:N ∈ l
  ·have:=zjZ N (l.erase N) (hd.erase N) fun x hx=>by
    have h1:=h x (List.mem_of_mem_erase hx)
    have h2:x≠N:=fun z=>by rw [z] at hx; exact (hd.not_mem_erase) hx
    omega
   rw [List.length_erase_of_mem e] at this; omega
  ·have:=zjZ N l hd fun x hx=>by
    have h1:=h x hx
    have h2:x≠N:=fun z=>e (z ▸ hx)
    omega
   omega
theorem zrv:∀ (N:Nat) (l:List Nat),l.Nodup->(∀ x,x ∈ l->x<N)->l.length=N->∀ i,i<N->i ∈ l
 | 0,_,_,_,_,i,hi=>yP hi (by omega)
 | N+1,l,hd,h,hl,i,hi=>by
  by_cases e:N ∈ l
  ·by_cases z:i=N
   ·rw [z]; exact e
   ·refine List.mem_of_mem_erase (zrv N (l.erase N) (hd.erase N) (fun x hx=>?_) (by rw [List.length_erase_of_mem e]; omega) i (by omega))
    have h1:=h x (List.mem_of_mem_erase hx)
    have h2:x≠N:=fun z=>by rw [z] at hx; exact (hd.not_mem_erase) hx
    omega
  ·have:=zjZ N l hd fun x hx=>by
    have h1:=h x hx
    have h2:x≠N:=fun z=>e (z ▸ hx)
    omega
   omega
def irr {lt:Nat->Nat->Bool} (o:So.Ord lt) {a:Nat} (h:So.L lt a a):False:=by
 rcases h with h | ⟨_,h⟩
 ·have:=o.asym a a h
  rw [h] at this; cases this
 ·omega
def idx_facts {lt:Nat->Nat->Bool} (o:So.Ord lt) {N:Nat} (hN:1<=N):(So.run lt (W.kas_sort N)).toList.Nodup/\(So.run lt (W.kas_sort N)).toList.length=N/\(∀ i,i ∈ (So.run lt (W.kas_sort N)).toList↔i<N):=by
 obtain ⟨b,s⟩:=So.sort o hN
 have hl:(So.run lt (W.kas_sort N)).toList.length=N:=by rw [yz]; exact b.size
 have lo:=(zeP o hN).2
 have gg:∀ i (hi:i<(So.run lt (W.kas_sort N)).toList.length),So.g (So.run lt (W.kas_sort N)) i=(So.run lt (W.kas_sort N)).toList[i]:=fun i hi=>by
  rw [So.g_eq]
  have hi':i<(So.run lt (W.kas_sort N)).size:=by simpa using hi
  rw [ye hi']; simp
 have nd:(So.run lt (W.kas_sort N)).toList.Nodup:=by
  rw [List.nodup_iff_pairwise_ne,YJ]; intro i j hi hj hij e
  have z:=s i j hij (by omega)
  rw [gg i hi,gg j hj,e] at z; exact irr o z
 exact ⟨nd,hl,fun i=>⟨lo i,zrv N _ nd lo hl i⟩⟩
section
variable {α:Type} {lt:Nat->Nat->Bool}
def srt (lt:Nat->Nat->Bool) (d:α) (ps:List α):List α:=if ps.length<2 then ps else (So.run lt (W.kas_sort ps.length)).toList.map fun i=>ps.getD i d
def zje (o:So.Ord lt) (d:α) (ps:List α) (q:α):q ∈ srt lt d ps↔q ∈ ps:=by
 unfold srt; split
 ·rfl
 ·rename_i h
  obtain ⟨_,_,m⟩:=idx_facts o (N:=ps.length) (by omega)
  rw [yh]; constructor
  ·rintro ⟨i,hi,rfl⟩
   have hi':=(m i).mp hi; simp only [List.getD,yB hi',Ys]; exact Yi hi'
  ·intro hq
   obtain ⟨i,hi,e⟩:=List.getElem_of_mem hq
   exact ⟨i,(m i).mpr hi,by simp only [List.getD,yB hi,Ys]; exact e⟩
def zjf (o:So.Ord lt) (d:α) (ps:List α):(srt lt d ps).length=ps.length:=by
 unfold srt; split
 ·rfl
 ·rename_i h
  obtain ⟨_,hl,_⟩:=idx_facts o (N:=ps.length) (by omega)
  rw [yG,hl]
def zn1 (f:α->D) (d:α) (ps:List α) (o:So.Ord lt):zii lt (ps.map f)=(srt lt d ps).map f:=by
 unfold zii srt; rw [yG]; split
 ·rfl
 ·rename_i h
  obtain ⟨_,_,m⟩:=idx_facts o (N:=ps.length) (by omega)
  rw [YH]
  refine Yf fun i hi=>?_
  have hi':=(m i).mp hi; simp [List.getD,yB hi']
end
end MS
namespace M04
open PySem L2 Lb PL MT MS
abbrev Nd:=List (Pl × Pl)
def keys (ns:Nd):List Pl:=ns.map (·.1)
def zbz (ns:Nd) (p:Pl):List Pl:=(keys ns).filter fun q=>decide (q.length=p.length+1) && decide (q.dropLast=p)
structure NOk (ns:Nd):Prop where
 nil:[] ∈ keys ns
 nd:(keys ns).Nodup
 len:∀ q,q ∈ keys ns->q.length<=8
 up:∀ q,q ∈ keys ns->q.dropLast ∈ keys ns
 lab:∀ q,q ∈ keys ns->∀ l,l ∈ q->zv l=true
 many:ns.length<=400
 few:∀ p,(zbz ns p).length<=120
def zaf (q:Pl):List Nat:=q.getLast?.getD []
def zbi (l:List Nat):Int × List Nat:=((PySem.intText? (st (cut l))).getD 0,zcH l)
def zr7 (q:Pl):Int × List Nat:=zbi (zaf q)
def za9 (ns:Nd) (p:Pl):List Pl:=srt (ltP ((zbz ns p).map zr7)) [] (zbz ns p)
def zdC (ns:Nd) (p:Pl):Pl:=(ns.lookup p).getD []
def zaU (p:Pl) (l:List Nat):zaf (p ++ [l])=l:=by simp [zaf]
def zjl {p q:Pl} (h1:q.length=p.length+1) (h2:q.dropLast=p):q=p ++ [zaf q]:=by
 have hne:q≠[]:=fun z=>by rw [z] at h1; simp at h1
 rw [<- h2]; unfold zaf; rw [List.getLast?_eq_some_getLast hne]; exact (List.dropLast_concat_getLast hne).symm
def zb6 {ns:Nd} {p q:Pl}:q ∈ zbz ns p↔q ∈ keys ns/\q=p ++ [zaf q]:=by
 unfold zbz; rw [List.mem_filter]; simp only [yp,yo]; constructor
 ·rintro ⟨h,h1,h2⟩
  exact ⟨h,zjl h1 h2⟩
 ·rintro ⟨h,e⟩
  refine ⟨h,?_,?_⟩
  ·rw [e]; simp
  ·rw [e]; simp
def zbO {ns:Nd} {p q:Pl}:q ∈ za9 ns p↔q ∈ keys ns/\q=p ++ [zaf q]:=by
 unfold za9; rw [zje (zgT _),zb6]
def zE:Nat->Nd->Pl->Tr
 | 0,ns,p=>.node (zaf p) (zdC ns p) []
 | n+1,ns,p=>.node (zaf p) (zdC ns p) ((za9 ns p).map (zE n ns))
def zbl (n:Nat) (ns:Nd) (p:Pl):(zE n ns p).lab=zaf p:=by cases n <;> rfl
def zf8 {ns:Nd} (o:NOk ns) {p:Pl} (h:8<=p.length):za9 ns p=[]:=by
 rw [List.eq_nil_iff_forall_not_mem]; intro q hq; obtain ⟨h1,h2⟩:=zbO.mp hq
 have:=o.len q h1
 rw [h2] at this
 simp at this
 omega
theorem zjC {ns:Nd} (o:NOk ns) (p:Pl):∀ r:Pl,p ++ r.reverse ∈ keys ns->p ∈ keys ns
 | [],h=>by simpa using h
 | l :: r,h=>by
  have:=o.up _ h
  rw [List.reverse_cons,<- YF,List.dropLast_concat] at this; exact zjC o p r this
def znb {ns:Nd} (o:NOk ns) (r p:Pl) (h:p ++ r ∈ keys ns):p ∈ keys ns:=zjC o p r.reverse (by rw [List.reverse_reverse]; exact h)
def zmu {ns:Nd} (n:Nat) (p:Pl) (l:List Nat):zo l ((za9 ns p).map (zE n ns))=if p ++ [l] ∈ keys ns then some (zE n ns (p ++ [l])) else none:=by
 have key:∀ qs:List Pl,(∀ q,q ∈ qs->q=p ++ [zaf q])->zo l (qs.map (zE n ns))=if p ++ [l] ∈ qs then some (zE n ns (p ++ [l])) else none:=by
  intro qs
  induction qs with
  | nil=>intro _; simp [zo]
  | cons q qs ih =>
   intro h
   have ih':=ih fun x hx=>h x (by simp [hx])
   have e:=h q (by simp)
   unfold zo at ih' ⊢
   rw [yX,YS]
   by_cases z:zaf q=l
   ·have eq:q=p ++ [l]:=by rw [<- z]; exact e
    rw [zbl,z]; simp [eq]
   ·have ne:p ++ [l]≠q:=fun y=>z (by rw [<- y,zaU])
    rw [zbl]; simp only [yY z]; rw [ih']; simp [ne]
 rw [key _ fun q hq=>(zbO.mp hq).2]
 have:p ++ [l] ∈ za9 ns p↔p ++ [l] ∈ keys ns:=by
  rw [zbO,zaU]; simp
 by_cases z:p ++ [l] ∈ keys ns
 ·rw [yI z,yI (this.mpr z)]
 ·rw [yH z,yH fun y=>z (this.mp y)]
theorem zdQ {ns:Nd} (o:NOk ns):∀ (r p:Pl) (n:Nat),8<=p.length+n->p ∈ keys ns->zu (zE n ns p) r=if p ++ r ∈ keys ns then some (zE (n-r.length) ns (p ++ r)) else none
 | [],p,n,_,hp=>by simp [zu,hp]
 | l :: r,p,0,h,hp=>by
  have h1:p ++ l :: r ∉ keys ns:=fun z=>by
   have:=o.len _ z
   simp at this
   omega
  simp [zE,zu,Tr.kds,zo,h1]
 | l :: r,p,n+1,h,hp=>by
  have e:p ++ l :: r=(p ++ [l]) ++ r:=by simp
  unfold zu
  show (match zo l ((za9 ns p).map (zE n ns)) with | none=>none | some k=>zu k r)=_
  rw [zmu]
  by_cases z:p ++ [l] ∈ keys ns
  ·rw [yI z]
   simp only []
   rw [zdQ o r (p ++ [l]) n (by simp; omega) z,<- e]
   simp
  ·rw [yH z,yH]
   intro y; rw [e] at y; exact z (znb o r (p ++ [l]) y)
def zka {ns:Nd} {p q:Pl} (h:q ∈ za9 ns p):q.length=p.length+1:=by
 have:=(zbO.mp h).2
 rw [this]; simp
end M04
namespace PySem
section
variable {dd:Addr} {ob:Obj} {ens:Array DictEntry} {tick:Nat}
open PyProof.Rows in
end
end PySem
namespace L2
open PySem PySem.Spec PyProof.Rows PySem.W
section
variable {a:Addr}
end
section
variable {o e f:Expr} {apos cpos:Pos} {td ty tx:TE}
end
section
variable {h':Heap}
end
end L2
namespace PL
open PySem L2
section
end
end PL
namespace M70
open PySem L2 Lb PL MT MS M04
open PySem.NumText (digitsVal)
def zhb (l:List Nat) (c:Nat):digitsVal (l ++ [c])=digitsVal l * 10+(c-48):=by simp [digitsVal,List.foldl_append]
theorem zh0:∀ (n:Nat) {l:List Nat},l.length<=n->(∀ c ∈ l,Dig c)->l≠[]->l[0]?≠some 48->1<=digitsVal l
 | 0,l,hl,_,hn,_=>yP (List.length_eq_zero_iff.mp (by omega)) hn
 | n+1,l,hl,hd,hn,h0=>by
  rcases List.eq_nil_or_concat l with e | ⟨l',c,e⟩
  ·exact yP e hn
  ·rw [List.concat_eq_append] at e
   subst e; rw [zhb]
   by_cases z:l'=[]
   ·subst z
    have:=hd c (by simp)
    have:c≠48:=fun e=>h0 (by simp [e])
    unfold Dig at *
    simp [digitsVal]; omega
   ·have:=zh0 n (l:=l') (by simp at hl; omega) (fun c hc=>hd c (by simp [hc])) z (by
     rw [YX (by cases l' with | nil=>exact yP rfl z | cons _ _=>simp)] at h0
     exact h0)
    omega
def zrp:∀ (n:Nat) {l m:List Nat},l.length<=n->(∀ c ∈ l,Dig c)->(∀ c ∈ m,Dig c)->l[0]?≠some 48->m[0]?≠some 48->digitsVal l=digitsVal m->l=m:=by
 intro n
 induction n with
 | zero =>
  intro l m hl h1 h2 h3 h4 e
  have:l=[]:=List.length_eq_zero_iff.mp (by omega)
  subst this
  by_cases z:m=[]
  ·rw [z]
  ·have:=zh0 _ (yD _) h2 z h4
   rw [<- e] at this; simp [digitsVal] at this
 | succ n ih =>
  intro l m hl h1 h2 h3 h4 e
  rcases List.eq_nil_or_concat l with z | ⟨l',c,z⟩
  ·subst z
   by_cases z:m=[]
   ·rw [z]
   ·have:=zh0 _ (yD _) h2 z h4
    rw [<- e] at this; simp [digitsVal] at this
  ·rcases List.eq_nil_or_concat m with y | ⟨m',d,y⟩
   ·subst y
    have:=zh0 _ (yD _) h1 (by rw [z]; simp) h3
    rw [e] at this; simp [digitsVal] at this
   ·rw [List.concat_eq_append] at z y
    subst z y
    rw [zhb,zhb] at e
    have hc:=h1 c (by simp)
    have hd:=h2 d (by simp)
    unfold Dig at hc hd
    have e1:digitsVal l'=digitsVal m':=by omega
    have e2:c=d:=by omega
    have hd:∀ (a:List Nat) (x:Nat),(a ++ [x])[0]?≠some 48->a[0]?≠some 48:=fun a x h=>by
     cases a with
     | nil=>simp
     | cons y r=>simpa using h
    rw [ih (by simp at hl; omega) (fun x hx=>h1 x (by simp [hx])) (fun x hx=>h2 x (by simp [hx])) (hd _ _ h3) (hd _ _ h4) e1,e2]
def zgk {l:List Nat} (h:zv l=true):(∀ c ∈ cut l,Dig c)/\(cut l)[0]?≠some 48/\PySem.intText? (st (cut l))=some ((digitsVal (cut l):Nat):Int):=by
 unfold zv at h; simp only [yp,yo,Yj] at h
 obtain ⟨⟨⟨⟨a1,a2⟩,b⟩,c⟩,d⟩:=h
 have hd:∀ x ∈ cut l,Dig x:=fun x hx=>(zdx x).mp (by simpa [dig] using c x hx)
 refine ⟨hd,b,?_⟩
 have q:=PySem.intText_digits (x:=st (cut l)) (by rw [zR]; exact hd) (by rw [zR]; exact fun z=>by rw [z] at a1; simp at a1) (by rw [zbm]; omega)
 rw [zR] at q; exact q
def zfh {l m:List Nat} (hl:zv l=true) (hm:zv m=true) (e:zbi l=zbi m):l=m:=by
 obtain ⟨a1,a2,a3⟩:=zgk hl; obtain ⟨b1,b2,b3⟩:=zgk hm; unfold zbi at e; rw [a3,b3] at e
 injection e with e1 e2
 have e3:digitsVal (cut l)=digitsVal (cut m):=by
  simp only [Ys] at e1; omega
 rw [<- zfn l,<- zfn m,e2,zrp _ (yD _) a1 b1 a2 b2 e3]
def klt (p q:Int × List Nat):Prop:=p.1<q.1\/(p.1=q.1/\p.2<q.2)
def zg6 (p:Int × List Nat):¬ klt p p:=by
 rintro (h | ⟨_,h⟩)
 ·omega
 ·exact List.lt_irrefl _ h
def zme {p q:Int × List Nat} (h:klt p q):¬ klt q p:=by
 rintro (h' | ⟨h1,h2⟩)
 ·rcases h with h | ⟨h,_⟩ <;> omega
 ·rcases h with h | ⟨_,h⟩
  ·omega
  ·exact List.lt_irrefl _ (List.lt_trans h h2)
def zj5 (p q:Int × List Nat):klt p q\/klt q p\/p=q:=by
 unfold klt
 rcases Int.lt_trichotomy p.1 q.1 with h | h | h
 ·exact .inl (.inl h)
 ·by_cases h1:p.2<q.2
  ·exact .inl (.inr ⟨h,h1⟩)
  ·by_cases h2:q.2<p.2
   ·exact .inr (.inl (.inr ⟨h.symm,h2⟩))
   ·refine .inr (.inr (Prod.ext h ?_))
    exact List.le_antisymm (List.not_lt.mp h2) (List.not_lt.mp h1)
 ·exact .inr (.inl (.inl h))
def Ris (L:List (List Nat)):Prop:=L.Pairwise fun a b=>klt (zbi a) (zbi b)
def Ris.nodup {L:List (List Nat)} (h:Ris L):L.Nodup:=by
 rw [List.nodup_iff_pairwise_ne]; refine List.Pairwise.imp ?_ h; intro a b hk e; rw [e] at hk; exact zg6 _ hk
theorem zgJ:∀ {L M:List (List Nat)},Ris L->Ris M->(∀ x,x ∈ L↔x ∈ M)->L=M
 | [],[],_,_,_=>rfl
 | [],b :: M,_,_,h=>yP ((h b).mpr yU) (by simp)
 | a :: L,[],_,_,h=>yP ((h a).mp yU) (by simp)
 | a :: L,b :: M,h1,h2,h=>by
  unfold Ris at h1 h2; rw [List.pairwise_cons] at h1 h2
  have e:a=b:=by
   rcases yQ.mp ((h a).mp yU) with z | z
   ·exact z
   ·rcases yQ.mp ((h b).mpr yU) with y | y
    ·exact y.symm
    ·exact yP (h2.1 a z) (zme (h1.1 b y))
  subst e
  have:L=M:=zgJ h1.2 h2.2 fun x=>by
   constructor
   ·intro hx
    rcases yQ.mp ((h x).mp (yO _ hx)) with z | z
    ·exact yP (h1.1 x hx) (by rw [z]; exact zg6 _)
    ·exact z
   ·intro hx
    rcases yQ.mp ((h x).mpr (yO _ hx)) with z | z
    ·exact yP (h2.1 x hx) (by rw [z]; exact zg6 _)
    ·exact z
  rw [this]
def zfI {ls:List (List Nat)} (nd:ls.Nodup) (hp:∀ l ∈ ls,zv l=true):Ris (srt (ltP (ls.map zbi)) [] ls):=by
 unfold srt; split
 ·rename_i h
  match ls,h with
  | [],_=>exact .nil
  | [a],_=>exact List.pairwise_singleton _ _
 ·rename_i h
  have o:=zgT (ls.map zbi)
  obtain ⟨nd2,hl,m⟩:=idx_facts o (N:=ls.length) (by omega)
  obtain ⟨b,s⟩:=So.sort o (N:=ls.length) (by omega)
  have hsz:(So.run (ltP (ls.map zbi)) (W.kas_sort ls.length)).size=ls.length:=b.size
  unfold Ris; rw [List.pairwise_map,YJ]; intro i j hi hj hij
  have z:=s i j hij (by omega)
  have gg:∀ i (hi:i<(So.run (ltP (ls.map zbi)) (W.kas_sort ls.length)).toList.length),So.g (So.run (ltP (ls.map zbi)) (W.kas_sort ls.length)) i=(So.run (ltP (ls.map zbi)) (W.kas_sort ls.length)).toList[i]:=fun i hi=>by
   rw [So.g_eq]
   have hi':i<(So.run (ltP (ls.map zbi)) (W.kas_sort ls.length)).size:=by simpa using hi
   rw [ye hi']; simp
  rw [gg i hi,gg j hj] at z; have ha:=(m _).mp (Yi hi); have hb:=(m _).mp (Yi hj)
  have hne:(So.run (ltP (ls.map zbi)) (W.kas_sort ls.length)).toList[i]≠(So.run (ltP (ls.map zbi)) (W.kas_sort ls.length)).toList[j]:=fun e=>by
   have:=(List.getElem_inj nd2).mp e
   omega
  generalize (So.run (ltP (ls.map zbi)) (W.kas_sort ls.length)).toList[i]=a at *; generalize (So.run (ltP (ls.map zbi)) (W.kas_sort ls.length)).toList[j]=c at *; simp only [List.getD,yB ha,yB hb,Ys]
  have k1:∀ x (hx:x<ls.length),(ls.map zbi).getD x (0,[])=zbi ls[x]:=fun x hx=>by simp [List.getD,yK,yB hx]
  have lt_iff:∀ x y (hx:x<ls.length) (hy:y<ls.length),ltP (ls.map zbi) x y=true↔klt (zbi ls[x]) (zbi ls[y]):=fun x y hx hy=>by
   unfold ltP klt; rw [k1 x hx,k1 y hy]; simp only [yo]
  rcases z with z | ⟨z,_⟩
  ·exact (lt_iff a c ha hb).mp z
  ·rcases zj5 (zbi ls[a]) (zbi ls[c]) with y | y | y
   ·exact y
   ·rw [(lt_iff c a hb ha).mpr y] at z
    cases z
   ·exact yP ((List.getElem_inj nd).mp (zfh (hp _ (Yi ha)) (hp _ (Yi hb)) y)) hne
def zlp (ls:List (List Nat)):List (List Nat):=srt (ltP (ls.map zbi)) [] ls
def zfJ (ls:List (List Nat)) (l:List Nat):l ∈ zlp ls↔l ∈ ls:=zje (zgT _) _ _ _
end M70
namespace M71
open PySem L2 Lb PL MT MS M04 M70
def zmw (l:List Nat) (ws:Pl) (ks:List Tr):(Tr.node l ws ks).kds=ks:=rfl
def zaF (ks:List Tr):List (List Nat):=ks.map Tr.lab
def zbU {l:List Nat} {ks:List Tr} {k:Tr} (h:zo l ks=some k):k ∈ ks/\k.lab=l:=by
 unfold zo at h
 exact ⟨List.mem_of_find?_eq_some h,by simpa using List.find?_some h⟩
def zdh {l:List Nat} {ks:List Tr}:zo l ks=none↔l ∉ zaF ks:=by
 unfold zo zaF; rw [List.find?_eq_none,yh]; constructor
 ·rintro h ⟨k,hk,e⟩
  exact h k hk (by simpa using e)
 ·intro h k hk e
  exact h ⟨k,hk,by simpa using e⟩
def zfd {l:List Nat} {ks:List Tr} (h:l ∈ zaF ks):∃ k,zo l ks=some k:=by
 cases e:zo l ks with
 | none=>exact yP h (zdh.mp e)
 | some k=>exact ⟨k,rfl⟩
theorem zbv:∀ {ks:List Tr} {k:Tr},(zaF ks).Nodup->k ∈ ks->zo k.lab ks=some k
 | k' :: ks,k,hn,h=>by
  unfold zaF at hn; rw [yX,Ym] at hn
  rcases yQ.mp h with rfl | h
  ·simp [zo]
  ·have ne:¬ k'.lab=k.lab:=fun e=>hn.1 (by rw [e]; exact yx h)
   have:=zbv (ks:=ks) hn.2 h
   unfold zo at this ⊢
   rw [YS]; simp [ne,this]
def ztz (acc:List Tr) (k:Tr):List Tr:=if k.lab ∈ zaF acc then acc else acc ++ [k]
def ddp (ks:List Tr):List Tr:=ks.foldl ztz []
structure Ddp (ks acc:List Tr):Prop where
 nd:(zaF acc).Nodup
 mem:∀ k ∈ acc,k ∈ ks
 cov:∀ k ∈ ks,k.lab ∈ zaF acc
 len:acc.length<=ks.length
def zfc (a b:List Tr):zaF (a ++ b)=zaF a ++ zaF b:=List.map_append
def Ddp.add {ks acc:List Tr} (h:Ddp ks acc) (k:Tr):Ddp (ks ++ [k]) (ztz acc k):=by
 unfold ztz; split
 ·rename_i e
  refine ⟨h.nd,fun x hx=>YE _ (h.mem x hx),fun x hx=>?_,by have:=h.len; simp; omega⟩
  rcases yb.mp hx with z | z
  ·exact h.cov x z
  ·rw [yc.mp z]; exact e
 ·rename_i e
  refine ⟨?_,fun x hx=>?_,fun x hx=>?_,by have:=h.len; simp; omega⟩
  ·rw [zfc,List.nodup_append]
   refine ⟨h.nd,by simp [zaF],fun a ha b hb z=>?_⟩
   have:b=k.lab:=by simpa [zaF] using hb
   exact e (by rw [<- this,<- z]; exact ha)
  ·rcases yb.mp hx with z | z
   ·exact YE _ (h.mem x z)
   ·exact yV _ z
  ·rw [zfc]
   rcases yb.mp hx with z | z
   ·exact YE _ (h.cov x z)
   ·rw [yc.mp z]; simp [zaF]
theorem zh5 (ks:List Tr):∀ i,i<=ks.length->Ddp (ks.take i) (ddp (ks.take i))
 | 0,_=>⟨by simp [ddp,zaF],fun k h=>by simp [ddp] at h,fun k h=>by simp at h,by simp [ddp]⟩
 | i+1,h=>by
  have e:ks.take (i+1)=ks.take i ++ [ks[i]'(by omega)]:=(List.take_append_getElem (by omega)).symm
  rw [e]
  have:=(zh5 ks i (by omega)).add (ks[i]'(by omega))
  unfold ddp at this ⊢
  rw [List.foldl_append]; exact this
def zeB (ks:List Tr):Ddp ks (ddp ks):=by
 have:=zh5 ks ks.length (yD _)
 rwa [List.take_length] at this
def ziW (L:List (List Nat)) (acc:List Tr):List Tr:=L.filterMap fun l=>zo l acc
theorem zfT:∀ {L:List (List Nat)} {acc:List Tr},(∀ l ∈ L,l ∈ zaF acc)->zaF (ziW L acc)=L
 | [],_,_=>rfl
 | l :: L,acc,h=>by
  obtain ⟨k,hk⟩:=zfd (h l yU)
  have ih:=zfT (L:=L) (acc:=acc) fun l hl=>h l (yO _ hl)
  unfold ziW at ih ⊢
  rw [List.filterMap_cons_some (f:=fun l=>zo l acc) hk]
  unfold zaF at ih ⊢
  rw [yX,ih,(zbU hk).2]
def zdw {L:List (List Nat)} {acc:List Tr} {k:Tr} (h:k ∈ ziW L acc):k ∈ acc:=by
 obtain ⟨l,_,e⟩:=List.mem_filterMap.mp h; exact (zbU e).1
inductive Wf (c:Nat):Nat->Tr->Prop where
 | mk {n:Nat} {l:List Nat} {ws:Pl} {ks:List Tr} (hk:∀ k ∈ ks,Wf c n k) (hp:∀ k ∈ ks,zv k.lab=true) (hn:Ris (zaF ks)) (hl:ks.length<=c+1) (hw:ws.length<=3 * c+3):Wf c (n+1) (.node l ws ks)
def Wf.pos {c n:Nat} {t:Tr} (h:Wf c n t):∃ m,n=m+1:=by cases h; exact ⟨_,rfl⟩
def Wf.kid {c n:Nat} {t:Tr} (h:Wf c (n+1) t):∀ k ∈ t.kds,Wf c n k:=by cases h; assumption
def Wf.plab {c n:Nat} {t:Tr} (h:Wf c n t):∀ k ∈ t.kds,zv k.lab=true:=by cases h; assumption
def Wf.ris {c n:Nat} {t:Tr} (h:Wf c n t):Ris (zaF t.kds):=by cases h; assumption
def Wf.nd {c n:Nat} {t:Tr} (h:Wf c n t):(zaF t.kds).Nodup:=h.ris.nodup
def Wf.few {c n:Nat} {t:Tr} (h:Wf c n t):t.kds.length<=c+1:=by cases h; assumption
def Wf.wfew {c n:Nat} {t:Tr} (h:Wf c n t):t.wds.length<=3 * c+3:=by cases h; assumption
def Wf.mk' {c n:Nat} {t:Tr} (hk:∀ k ∈ t.kds,Wf c n k) (hp:∀ k ∈ t.kds,zv k.lab=true) (hn:Ris (zaF t.kds)) (hl:t.kds.length<=c+1) (hw:t.wds.length<=3 * c+3):Wf c (n+1) t:=by
 cases t with
 | node l ws ks=>exact .mk hk hp hn hl hw
def Wf.up {c n:Nat} {t:Tr} (h:Wf c n t):∀ {d m:Nat},c<=d->n<=m->Wf d m t:=by
 induction h with
 | @mk n l ws ks hk hp hn hl hw ih =>
  intro d m h1 h2
  obtain ⟨m',rfl⟩:∃ m',m=m'+1:=⟨m-1,by omega⟩
  exact .mk (fun k hk'=>ih k hk' h1 (by omega)) hp hn (by omega) (by omega)
def Wf.kw {c n:Nat} {t k:Tr} {l:List Nat} (h:Wf c (n+1) t) (e:zo l t.kds=some k):Wf c n k:=h.kid k (zbU e).1
theorem Wf.at {c:Nat}:∀ {p:Pl} {n:Nat} {t nd:Tr},Wf c n t->zu t p=some nd->p.length<n/\Wf c (n-p.length) nd
 | [],n,t,nd,h,e=>by
  obtain ⟨m,rfl⟩:=h.pos; simp only [zu,Option.some.injEq] at e; subst e
  exact ⟨by simp,by simpa using h⟩
 | l :: p,n,t,nd,h,e=>by
  obtain ⟨m,rfl⟩:=h.pos; simp only [zu] at e
  cases hk:zo l t.kds with
  | none=>rw [hk] at e; cases e
  | some k =>
   rw [hk] at e; obtain ⟨a,b⟩:=Wf.at (h.kw hk) e; rw [Yh]
   refine ⟨by omega,?_⟩
   rw [show m+1-(p.length+1)=m-p.length by omega]
   exact b
mutual
def cnt:Tr->Nat
 | .node _ _ ks=>1+zt9 ks
def zt9:List Tr->Nat
 | []=>0
 | k :: ks=>cnt k+zt9 ks
end
def zjd {α:Type} (f:α->Nat) (a b:List α):((a ++ b).map f).sum=(a.map f).sum+(b.map f).sum:=by rw [List.map_append,List.sum_append]
theorem zgF (f:Tr->Nat):∀ {ks' ks:List Tr},(zaF ks').Nodup->(∀ k ∈ ks',k ∈ ks)->(ks'.map f).sum<=(ks.map f).sum
 | [],ks,_,_=>by simp
 | k :: ks',ks,hn,h=>by
  unfold zaF at hn; rw [yX,Ym] at hn; obtain ⟨a,b,e⟩:=List.append_of_mem (h k yU)
  have ih:=zgF f (ks':=ks') (ks:=a ++ b) hn.2 fun x hx=>by
   have hm:=h x (yO _ hx); rw [e] at hm
   rcases yb.mp hm with z | z
   ·exact YE _ z
   ·rcases yQ.mp z with z | z
    ·exact yP (yx hx) (by rw [z]; exact hn.1)
    ·exact yV _ z
  rw [e,zjd,yX,List.sum_cons,yX,List.sum_cons]; rw [zjd] at ih; omega
theorem zgG {α:Type}:∀ l:List α,(l.map fun _=>1).sum=l.length
 | []=>rfl
 | a :: l=>by rw [yX,List.sum_cons,zgG l,Yh]; omega
structure KidsOk (ks ks':List Tr):Prop where
 ris:Ris (zaF ks')
 mem:∀ k ∈ ks',k ∈ ks
 len:ks'.length<=ks.length
 cnt:(ks'.map cnt).sum<=(ks.map cnt).sum
def KidsOk.of {ks ks':List Tr} (h1:Ris (zaF ks')) (h2:∀ k ∈ ks',k ∈ ks):KidsOk ks ks' :=
 ⟨h1,h2,by have:=zgF (fun _=>1) h1.nodup h2; rwa [zgG,zgG] at this,zgF _ h1.nodup h2⟩
def KidsOk.nd {ks ks':List Tr} (h:KidsOk ks ks'):(zaF ks').Nodup:=h.ris.nodup
def zoX {ks:List Tr} {L:List (List Nat)} (h1:Ris L) (h2:∀ l,l ∈ L->l ∈ zaF (ddp ks)):KidsOk ks (ziW L (ddp ks)):=by
 refine .of ?_ fun k hk=>(zeB ks).mem k (zdw hk)
 rw [zfT h2]; exact h1
def zdt (ks:List Tr):List Tr:=ziW (zlp (zaF (ddp ks))) (ddp ks)
def zfe {ks:List Tr} (hp:∀ k ∈ ks,zv k.lab=true):KidsOk ks (zdt ks):=by
 refine zoX (zfI (zeB ks).nd fun l hl=>?_) fun l hl=>(zfJ _ _).mp hl
 obtain ⟨k,hk,rfl⟩:=yh.mp hl; exact hp k ((zeB ks).mem k hk)
def zf9 {ks:List Tr} (hn:(zaF ks).Nodup) {x:Tr}:x ∈ zdt ks↔x ∈ ks:=by
 constructor
 ·intro h
  exact (zeB ks).mem x (zdw h)
 ·intro h
  have hl:=(zeB ks).cov x h; obtain ⟨k,hk⟩:=zfd hl; obtain ⟨k1,k2⟩:=zbU hk; have e1:=zbv hn ((zeB ks).mem k k1); have e2:=zbv hn h; rw [k2,e2] at e1; rw [<- Option.some.inj e1] at hk; exact List.mem_filterMap.mpr ⟨x.lab,(zfJ _ _).mpr hl,hk⟩
def zb7:Tr->Pl->Pl->List Tr->Tr
 | t,[],ws,ks=>.node t.lab ws ks
 | t,l :: p,ws,ks=>.node t.lab t.wds (t.kds.map fun k=>if k.lab=l then zb7 k p ws ks else k)
def zcj (t:Tr) (p ws:Pl) (ks:List Tr):(zb7 t p ws ks).lab=t.lab:=by cases p <;> simp [zb7,Tr.lab]
def zjW {l:List Nat} {p ws:Pl} {ks:List Tr} (r:List Tr):zaF (r.map fun k=>if k.lab=l then zb7 k p ws ks else k)=zaF r:=by
 unfold zaF; rw [YH]
 refine Yf fun k _=>?_
 simp only [Function.comp]; split
 ·exact zcj _ _ _ _
 ·rfl
theorem zg3 {c:Nat} {ws:Pl} {ks:List Tr}:∀ {p:Pl} {n:Nat} {t nd:Tr},Wf c n t->zu t p=some nd->Wf c (n-p.length) (.node nd.lab ws ks)->Wf c n (zb7 t p ws ks)
 | [],n,t,nd,h,e,h'=>by
  simp only [zu,Option.some.injEq] at e; subst e
  simpa [zb7] using h'
 | l :: p,n,t,nd,h,e,h'=>by
  obtain ⟨m,rfl⟩:=h.pos; simp only [zu] at e
  cases hk:zo l t.kds with
  | none=>rw [hk] at e; cases e
  | some k =>
   rw [hk] at e
   rw [Yh,show m+1-(p.length+1)=m-p.length by omega] at h'
   have hm:=zg3 (h.kw hk) e h'; simp only [zb7]
   have each:∀ k' ∈ (t.kds.map fun k=>if k.lab=l then zb7 k p ws ks else k),Wf c m k'/\zv k'.lab=true:=by
    intro k' hk'; obtain ⟨k0,h0,rfl⟩:=yh.mp hk'
    by_cases e0:k0.lab=l
    ·have:k0=k:=by
      have:=zbv h.nd h0
      rw [e0,hk] at this; exact (Option.some.inj this).symm
     rw [yI e0]
     exact ⟨by rw [this]; exact hm,by rw [zcj]; exact h.plab k0 h0⟩
    ·rw [yH e0]
     exact ⟨h.kid k0 h0,h.plab k0 h0⟩
   exact .mk (fun k' h=>(each k' h).1) (fun k' h=>(each k' h).2) (by rw [zjW]; exact h.ris) (by rw [yG]; exact h.few) h.wfew
theorem ze3:∀ (L:List (List Nat)) (acc:List Tr),(zaF (ziW L acc)).Sublist L
 | [],acc=>.slnil
 | l :: L,acc=>by
  unfold ziW; rw [List.filterMap_cons]
  cases e:zo l acc with
  | none=>exact .cons _ (ze3 L acc)
  | some k =>
   unfold zaF; rw [yX,(zbU e).2]; exact .cons_cons _ (ze3 L acc)
def zhE {L:List (List Nat)} {ks:List Tr} (h1:Ris L) (h2:Ris (zaF ks)) (h3:∀ l ∈ zaF ks,l ∈ L):ziW L ks=ks:=by
 have e:zaF (ziW L ks)=zaF ks:=by
  refine zgJ (List.Pairwise.sublist (ze3 L ks) h1) h2 fun l=>?_
  constructor
  ·intro h
   obtain ⟨k,hk,rfl⟩:=yh.mp h; exact yx (zdw hk)
  ·intro h
   obtain ⟨k,hk⟩:=zfd h
   have h':k ∈ ziW L ks:=List.mem_filterMap.mpr ⟨l,h3 l h,hk⟩
   rw [<- (zbU hk).2]; exact yx h'
 have hn:=h2.nodup
 have hm:∀ k ∈ ziW L ks,k ∈ ks:=fun k hk=>zdw hk
 have:∀ a b:List Tr,zaF a=zaF b->(∀ k ∈ a,k ∈ ks)->(∀ k ∈ b,k ∈ ks)->a=b:=by
  intro a
  induction a with
  | nil=>intro b h _ _; cases b with
   | nil=>rfl
   | cons _ _=>simp [zaF] at h
  | cons x a ih =>
   intro b h ha hb
   cases b with
   | nil=>simp [zaF] at h
   | cons y b =>
    unfold zaF at h; rw [yX,yX] at h
    injection h with h1 h2
    have e1:=zbv hn (ha x yU); have e2:=zbv hn (hb y yU); rw [h1,e2] at e1
    rw [Option.some.inj e1,ih b h2 (fun k hk=>ha k (yO _ hk)) fun k hk=>hb k (yO _ hk)]
 exact this _ _ e hm fun k hk=>hk
def zj0 {c:Nat} {l:List Nat} {ws:Pl} (h:ws.length<=3 * c+3):Wf c 1 (.node l ws []):=.mk (fun k hk=>nomatch hk) (fun k hk=>nomatch hk) .nil (by simp) h
def zoM {c n:Nat} {l:List Nat} {ws:Pl} {ks ks':List Tr} (h:KidsOk ks ks') (hk:∀ k ∈ ks,Wf c n k) (hp:∀ k ∈ ks,zv k.lab=true) (hl:ks.length<=c+1) (hw:ws.length<=3 * c+3):Wf c (n+1) (.node l ws ks') :=
 .mk (fun k hk'=>hk k (h.mem k hk')) (fun k hk'=>hp k (h.mem k hk')) h.ris (by have:=h.len; omega) hw
end M71
namespace L2
open PySem PySem.Spec PyProof.Rows
section
end
end L2
namespace PL
open PySem L2
section
end
end PL
namespace M71
open PySem L2 Lb PL MT MS M04 M70
theorem znB {f:D->D->Option Bool}:∀ {ks js:List Tr},(∀ k ∈ ks,∀ j ∈ js,∃ b,f (trD k) (trD j)=some b/\(b=true↔k=j))->∃ b,eqL f (ks.map trD) (js.map trD)=some b/\(b=true↔ks=js)
 | [],[],_=>⟨true,rfl,by simp⟩
 | [],_ :: _,_=>⟨false,rfl,by simp⟩
 | _ :: _,[],_=>⟨false,rfl,by simp⟩
 | k :: ks,j :: js,h=>by
  obtain ⟨a,e1,i1⟩:=h k yU j yU
  obtain ⟨b,e2,i2⟩:=znB (f:=f) (ks:=ks) (js:=js) fun x hx y hy=>h x (yO _ hx) y (yO _ hy)
  refine ⟨a && b,?_,?_⟩
  ·show (match f (trD k) (trD j),eqL f (ks.map trD) (js.map trD) with
    | some a,some b=>some (a && b)
    | _,_=>none)=_
   rw [e1,e2]
  ·rw [yp,i1,i2]
   simp
theorem znC {c d:Nat}:∀ {n:Nat} {t u:Tr},Wf c n t->Wf d n u->∀ m,2 * n+1<=m->∃ b,eqD m (trD t) (trD u)=some b/\(b=true↔t=u)
 | 0,t,u,h,_,_,_=>by cases h
 | n+1,.node l ws ks,.node l' ws' ks',h1,h2,m,hm=>by
  obtain ⟨m,rfl⟩:∃ k,m=k+1+1:=⟨m-2,by omega⟩
  obtain ⟨b,e,i⟩:=znB (f:=eqD m) (ks:=ks) (js:=ks') fun k hk j hj=>znC (h1.kid k hk) (h2.kid j hj) m (by omega)
  refine ⟨decide (l=l') && (decide (ws=ws') && (b && true)),?_,?_⟩
  ·rw [zag,zag]
   show eqL (eqD (m+1)) [.str l,plc ws,.tup (ks.map trD)] [.str l',plc ws',.tup (ks'.map trD)]=_
   simp only [eqL,zkj,zha]
   rw [show eqD (m+1) (.tup (ks.map trD)) (.tup (ks'.map trD))=eqL (eqD m) (ks.map trD) (ks'.map trD) from rfl,e]
  ·simp only [yp,yo,i,and_true]
   constructor
   ·rintro ⟨rfl,rfl,rfl⟩; rfl
   ·intro z; injection z with z1 z2 z3; exact ⟨z1,z2,z3⟩
end M71
namespace PL
open PySem L2
section
variable {n:Nat} {W:Wd} {Hi:Hp} {Γ:Sts} {i:Nat} {o:OD} {b:Addr}
end
section
def zoO (i j:Int) (l m:List Nat):ziX [.int i,.str (st l)] [.int j,.str (st m)]=decide (i<j\/(i=j/\l<m)):=by
 rw [zdT]
 by_cases h:i=j
 ·rw [yI (ym V.int h),zdT]
  by_cases e:l=m
  ·subst e
   rw [yI rfl]
   have hn:¬ (i<j\/(i=j/\l<l)):=by
    rintro (z | ⟨_,z⟩)
    ·omega
    ·exact List.lt_irrefl _ z
   exact (yY hn).symm
  ·rw [yH (fun q=>e (L2.st_inj (V.str.inj q)))]
   show decide ((st l).cps.toList<(st m).cps.toList)=_
   rw [zR,zR]
   refine decide_eq_decide.mpr ⟨fun z=>.inr ⟨h,z⟩,?_⟩
   rintro (z | ⟨_,z⟩)
   ·omega
   ·exact z
 ·rw [yH (fun q=>h (V.int.inj q))]
  show decide (i<j)=_
  refine decide_eq_decide.mpr ⟨.inl,?_⟩
  rintro (z | ⟨z,_⟩)
  ·exact z
  ·exact yP z h
def zuw:R2':=fun x y Q=>∃ i l j m,x=.tup [.int i,.str l]/\y=.tup [.int j,.str m]/\Q (.bl (decide (i<j\/(i=j/\l<m))))
def zs4 (hu:X.A.units<cLine):Op2 X (compareOp .Lt) zuw:=⟨_,zqT hu,by
 rintro Hi H x y dx dy Q Q2 s d1 d2 ⟨i,l,j,m,rfl,rfl,q⟩ fin
 obtain ⟨a,xs,rfl,hx,dl⟩:=d1.tupI; obtain ⟨b,ys,rfl,hy,dm⟩:=d2.tupI; obtain ⟨v,w,rfl,e1,e2⟩:=ziM dl; obtain ⟨v',w',rfl,e1',e2'⟩:=ziM dm; rw [e1.intI,e2.strI] at hx; rw [e1'.intI,e2'.strI] at hy
 refine ⟨a,b,_,_,rfl,rfl,zK s.sub hx,zK s.sub hy,(show _/\_/\True from ⟨rfl,rfl,True.intro⟩),?_⟩
 rw [zoO]; exact fin Hi H _ _ (Ext.refl s) (.bl _) q⟩
end
section
end
section
end
section
variable {e a b c:Expr} {pos:Pos}
end
end PL
namespace L2
open PySem PySem.Spec PyProof.Rows
section
end
end L2
namespace PL
open PySem L2
section
end
end PL
namespace PL
open PySem L2 PySem.Spec PyProof.Rows
section
end
end PL
namespace L2
open PySem PySem.Spec PyProof.Rows Zp
section
end
end L2
namespace PL
open PySem L2
section
end
end PL
namespace L2
open PySem PySem.Spec PyProof.Rows
section
variable {K:Type} [DecidableEq K] {knd:HeapKind prog w K} {d a:Addr} {k:K} {xs:List (K × Addr × Value)}
end
section
variable {a:Addr} {y d:V} {u r:Value} {o:Option V}
end
section
variable {o e:Expr} {apos cpos:Pos} {td ty:TE}
end
end L2
namespace PL
open PySem L2
section
open Classical in
end
end PL
namespace Itm
open PySem
section
variable {d:Addr} {o:Obj} {es:Array DictEntry} {ep:Nat}
end
end Itm
namespace L2
open PySem PySem.Spec PyProof.Rows Zp
section
end
end L2
namespace PL
open PySem L2
section
end
section
end
end PL
namespace EnK
open PySem
open AutoSeq1 (wpAny_loadPart')
section
end
end EnK
namespace L2
open PySem PySem.Spec PyProof.Rows Zp EnK
section
end
end L2
namespace PL
open PySem L2
section
end
section
end
section
end
end PL
namespace L2
open PySem PySem.Spec PyProof.Rows PySem.W
def cxX (CX:CXT) (P:Program) (w:World) (K:W.Frag) (mg:Str->Option Value) (base:Heap) (N:List Str) (qual:Str) (scope:Scope) (f:Addr) (cd:Value) (cl:List (Str × Addr)) (A:Around) (outer:List Env) (s:Shared) (H:Hp) (E:XK):Cx where
 prog:=P
 w:=w
 K:=K
 mg:=mg
 base:=base
 A:=A.deeper (envX qual scope s.heap.objs.size f cd cl)
 N:=N
 s₀:=s
 H₀:=H
 env:=envX qual scope s.heap.objs.size f cd cl
 outer:=outer
 stack:=envX qual scope s.heap.objs.size f cd cl :: outer
 ex:=[]
 calm:=true
 fn:=fun _=>false
 pn:=[]
 xe:=fun e s'=>wpAny (model P w) (A.deeper (envX qual scope s.heap.objs.size f cd cl)) (leaving (envX qual scope s.heap.objs.size f cd cl) e) (fun _ s''=>CX outer H s E e s'') (fun e' s''=>CX outer H s E e' s'') s'
structure LamSc (p x:Str) (sc:Scope):Prop where
 kind:sc.kind=.function
 co:sc.isCoroutine=false
 gen:sc.isGenerator=false
 par:sc.names.lookup p=some .local
 nocell:∀ y ∈ sc.names,y.2≠.cell
 isf:sc.names.lookup x=some .free
 free:∀ y ∈ sc.names,y.2=.free->y.1=x
def ztb {p x:Str} {sc:Scope} (h1:sc.kind=.function) (h2:sc.isCoroutine=false) (h3:sc.isGenerator=false) (hn:sc.names=[(p,.local),(x,.free)]) (ne:(x == p)=false):LamSc p x sc:=by
 refine ⟨h1,h2,h3,by rw [hn]; simp [List.lookup],fun y hy=>?_,by rw [hn]; simp [List.lookup,ne],fun y hy e=>?_⟩
 ·rw [hn] at hy
  simp at hy
  rcases hy with rfl | rfl <;> exact fun z=>nomatch z
 ·rw [hn] at hy
  simp at hy
  rcases hy with rfl | rfl
  ·cases e
  ·rfl
def zmM {p x:Str} {sc:Scope} {env:Env} (hn:sc.names=[(p,.local),(x,.free)]) (c:Addr) (h:env.cells.lookup x=some c):closureFor sc env=pure [(x,c)]:=by
 unfold closureFor cellOf; rw [hn]; simp [h]
def lk1 {x y:Str} {c d:Addr} (h:[(x,c)].lookup y=some d):y=x/\d=c:=by
 simp only [yi,List.lookup_nil] at h; split at h
 ·rename_i e
  exact ⟨by simpa using e,(Option.some.inj h).symm⟩
 ·cases h
def ziG {CX:CXT} {P:Program} {w:World} {K:W.Frag} {mg:Str->Option Value} {base:Heap} {p x:Str} {qual:Str} {scope:Scope} {f c:Addr} {cd:Value} {A:Around} {outer:List Env} {s:Shared} {H:Hp} {E:XK} {u ux:Value} {v vx:V} {h1:Heap} {tk:Nat}
  (S:LamSc p x scope) (hd:A.handled=none) (e0:Env0 P w K mg base A outer s H) (r:zap v u) (rx:zap vx ux) (hc:s.heap.IsCell c (some ux)) (fc:H c=none)
  (hns:h1.Ns s.heap.objs.size fun y=>([(p,u)]:List (Str × Value)).reverse.lookup y) (hk:∀ b o,s.heap.get? b=some o->h1.get? b=some o) :
  Inv (cxX CX P w K mg base [p,x] qual scope f cd [(x,c)] A outer s H E) [] [some v,some vx] H { s with heap:=h1,toks:=tk }:=by
 have noA:∀ b:Addr,b ∉ (cxX CX P w K mg base [p,x] qual scope f cd [(x,c)] A outer s H E).ex:=fun b z=>yP (show b ∈ ([]:List Addr) from z) (by simp)
 have hc1:h1.IsCell c (some ux):=by
  obtain ⟨o,ho,hd⟩:=hc; exact ⟨o,hk _ _ ho,hd⟩
 refine ⟨⟨e0.mod,S.kind,rfl,rfl,yD _,fun y z c' q1 q2=>?_,fun y hy=>?_,fun y c' z _=>(nomatch z),fun _=>hd,Around.frames_deeper e0.frames,.inr ⟨rfl,rfl⟩,fun b z=>yP z (noA b),e0.bs,e0.bsz,fun b _ _=>noA b,fun b z=>yP z (noA b),e0.funs,e0.frf,e0.tab⟩,
  rfl,e0.bare,Un.kept hk,⟨_,hns,fun i y a q1 q2 q3=>?_⟩,fun y c' q=>?_,e0.hok.fresh (yD _),fun y c' q=>?_,fun b hb=>yP (show b ∈ ([]:yyL) from hb) (by simp),e0.hok.kept hk,rfl⟩
 ·rw [(lk1 q1).1,(lk1 q2).1]
 ·have hy:scope.names.lookup y=some .cell\/scope.names.lookup y=some .free:=hy
  rcases hy with hy | hy
  ·exact yP rfl (S.nocell _ (Yd hy))
  ·have e:=S.free _ (Yd hy) rfl
   subst e
   exact ⟨c,by show [(y,c)].lookup y=_; simp⟩
 ·match i,q1,q2 with
  | 0,q1,q2 =>
   cases q1; cases q2
   exact ⟨u,r,.inl ⟨S.par,by simp⟩⟩
  | 1,q1,q2 =>
   cases q1; cases q2
   exact ⟨ux,rx,.inr ⟨.inr S.isf,c,by show [(x,c)].lookup x=_; simp,hc1⟩⟩
  | i+2,q1,q2=>cases q1
 ·obtain ⟨rfl,rfl⟩:=lk1 (show [(x,c)].lookup y=some c' from q)
  exact ⟨_,hc1⟩
 ·obtain ⟨rfl,rfl⟩:=lk1 (show [(x,c)].lookup y=some c' from q)
  exact fc
section
end
section
def zsv (cl:List (Str × Addr)) (qual:Str) (params:Arguments) (body:Expr) (scope:Scope):TE:=fun _ H Q=>∀ (f c:Addr) (oc:Obj) (vs:Array Value) (t:Tok) (pm ctv:Value) (H2:Hp),oc.data=.fields vs->vs[1]?=some (.str qual t)->NewLam H H2 f c (zb9 cl qual params body scope pm c ctv) oc->Q (.ref f) H2
def zow {cl:List (Str × Addr)} {qual:Str} {params:Arguments} {body:Expr} {scope:Scope} {lpos:Pos} (L:LamAt X qual) (hcl:closureFor scope X.env=pure cl) (hdef:defaultsOf params X.env=([],[])):PE X (.Lambda params body scope lpos) (zsv cl qual params body scope):=by
 obtain ⟨⟨c,Pt,hc,hC,hT⟩,rfl⟩:=L
 intro pins s σ H Q I h; exact zf6 I hc hC hT hdef hcl h
abbrev I3:=Int × Int × Int
end
section
variable {o e:Expr} {apos cpos:Pos} {td ty:TE}
end
end L2
namespace PL
open PySem L2
section
def zm5 (R:D->D->D->Prop):Sp':=fun ds Q=>∃ d x k,ds=[d,x]/\R d x k/\Q (.val k)
end
end PL
namespace L2
open PySem PySem.Spec PyProof.Rows PySem.W
abbrev Jt:=Shared->Hp->Prop
structure JK (J:Jt):Prop where
 keep:∀ {fs:List Addr} {s s':Shared} {H H':Hp},J s H->Un fs [] H H' s.heap s'.heap->J s' H'
def JK.and {J J':Jt} (a:JK J) (b:JK J'):JK fun s H=>J s H/\J' s H:=⟨fun h u=>⟨a.keep h.1 u,b.keep h.2 u⟩⟩
def zua (f c:Addr) (fo oc:Obj):Jt:=fun _ H=>H f=some (zba (.inr fo))/\H c=some (zba (.inr oc))
def zrd (f c:Addr) (fo oc:Obj):JK (zua f c fo oc):=⟨fun h u=>⟨u.frzs _ _ _ h.1,u.frzs _ _ _ h.2⟩⟩
structure FnJ0 (P:Program) (w:World) (K:W.Frag) (mg:Str->Option Value) (base:Heap) (J:Jt) (k:Nat) (f:Addr) (fd:FuncData) (ps:List Str) (sp:Sp):Prop where
 len:∀ vs H Q E,sp vs H Q E->vs.length=ps.length
 run:∀ (A:Around) (outer:List Env) (s:Shared) (H:Hp) (args:Args) (us:List Value) (vs:List V) (Q:VK) (E:XK),Room k A->Env0 P w K mg base A outer s H->BindsTo s fd args (ps.zip us)->zae vs us->J s H->sp vs H Q E ->
  codeAny (model P w) A (.call (.ref f) args) (CR CX0 outer P w H s Q E) s
section
variable {J:Jt} {k:Nat} {f:Addr} {fd:FuncData} {ps:List Str} {sp:Sp}
def zgI {Q:VK} {E':Value->Shared->Prop} {us:List Value} {vs:List V} (F:FnJ0 X.prog X.w X.K X.mg X.base J k f fd ps sp) (hr:Room k X.A) (hb:BindsTo s fd ⟨us,[]⟩ (ps.zip us)) (hj:J s H)
  (I:Inv X pins σ H s) (r:zae vs us) (h:sp vs H Q E0):wpAny (model X.prog X.w) X.A (call (.ref f) us) (EP X pins σ Q) E' s:=by
 refine wpAny_call (codeAny_mono (F.run X.A X.stack s H ⟨us,[]⟩ us vs Q E0 hr I.env0 hb r hj h) fun r s' hq=>?_)
 cases r with
 | error e=>exact hq.elim
 | ok fl =>
  cases fl with
  | ret u=>exact I.after hq
  | next=>exact False.elim hq
  | brk=>exact False.elim hq
  | cont=>exact False.elim hq
def zlW {x:Str} {p pos:Pos} {e:Expr} {es:List Expr} {t:TA} (F:FnJ0 X.prog X.w X.K X.mg X.base J k f fd ps sp) (hr:Room k X.A) (hg:Gl X x) (hm:X.mg x=some (.ref f)) (hk:W.keepIn X.K (.ref f)=true) (hb:zbX X.K fd ps [])
  (hj:∀ pins σ H s,Inv X pins σ H s->J s H) (ha:PA X (e :: es) t) (hdb:yyD x:=by decide) (he:starEach (e :: es) X.env=(false,eval e X.env) :: starEach es X.env:=by rfl) (hpl:(backTo pos (starEach es X.env)).any (·.1)=false:=by rfl) :
  PE X (.Call (.Name x p) (e :: es) [] pos) (zp2 sp [] E0 t):=by
 intro pins s σ H Q I h; refine YT (zb8 I hg hm ?_ hdb)
 refine W.callWith_K (h₀:=X.base) I.ok.mod.kin hk (thn (ha pos pins s σ H _ I h) fun us s1 ⟨vs,H1,I1,r,q⟩=>⟨I1.kIn,?_⟩) he hpl
 have q:sp vs H1 Q E0:=by simpa using q
 have hl:us.length=ps.length:=by rw [<- r.length]; exact F.len _ _ _ _ q
 have hb':=hb s1 us I1.kIn (by rw [yd]; exact hl)
 rw [yd] at hb'; exact zgI F hr hb' (hj _ _ _ _ I1) I1 r q
def zp1 (i:Nat) (f:Addr) (sp:Sp) (t:TA):TE:=fun σ H Q=>σ[i]?=some (some (.ref f))/\t σ H fun vs H1=>sp vs H1 Q E0
def zlV {x p1:Str} {i:Nat} {p pos:Pos} {e:Expr} {t:TA} {fo oc:Obj} {c:Addr} (F:FnJ0 X.prog X.w X.K X.mg X.base J k f fd [p1] sp) (hr:Room k X.A) (hfo:fo.data=.func fd) (hb:∀ u,bindArgs fd ⟨[u],[]⟩=pure [(p1,u)])
  (hj:∀ pins σ H s,Inv X pins σ H s->J s H) (hl:∀ s H,J s H->H f=some (zba (.inr fo))) (ha:PA X [e] t) (hN:X.N[i]?=some x) (hv:Vis X.env.scope x) (hd:yyD x:=by decide) (hcd:(x == ("__classdict__":Str))=false:=by decide)
  (he:starEach [e] X.env=(false,eval e X.env) :: starEach [] X.env:=by rfl) (hpl:(backTo pos (starEach [] X.env)).any (·.1)=false:=by rfl) :
  PE X (.Call (.Name x p) [e] [] pos) (zp1 i f sp t):=by
 intro pins s σ H Q I h; obtain ⟨hσ,h⟩:=h
 have at_:∀ {pins σ H s},Inv X pins σ H s->FnAt f s.heap:=fun {pins σ H s} I=>by
  have:=(I.hok f _ (hl _ _ (hj _ _ _ _ I))).1
  obtain ⟨oc,od,dt,sl⟩:=fo; cases hfo; exact ⟨_,_,_,_,this⟩
 refine YT (thn (zev (pos:=p) hN hv hd hcd pins s σ H (fun v H'=>v=.ref f/\H'=H) I ⟨_,hσ,rfl,rfl⟩) fun u s1 ⟨v,H1,I1,rv,e1,e2⟩=>?_)
 subst e1 e2
 obtain rfl:u=Value.ref f:=rv
 refine callWith_F (at_ I1) (thn (ha pos pins s1 σ H1 _ I1 h) fun us s2 ⟨vs,H2,I2,r,q⟩=>⟨at_ I2,?_⟩) he hpl
 have hl:=F.len _ _ _ _ q
 obtain ⟨v,rfl⟩:∃ v,vs=[v]:=by
  match vs,hl with
  | [v],_=>exact ⟨v,rfl⟩
 obtain ⟨u,rfl,ru⟩:=zcl r
 refine zgI F hr (fun _ _ _ _ z=>?_) (hj _ _ _ _ I2) I2 r q
 show wpAny _ _ (bindArgs fd ⟨[u],[]⟩) _ _ _
 rw [hb u]; exact yF z
end
def zrk {P:Program} {w:World} {K:W.Frag} {mg:Str->Option Value} {base:Heap} {J:Jt} {k:Nat} {f:Addr} {name qual:Str} {params:Arguments} {body:List Stmt} {scope:Scope} {dV kV doc pm cdv ct oc:Value} {an od:Option Addr}
  {osl:Array (Option Value)} {N ps:List Str} {sp:Sp} (lk:K.lookup f=some ⟨oc,od,.func (W.fnOf name qual params body scope dV kV doc pm an cdv ct),osl⟩) (hcd:W.codeIn K cdv qual=true) (S:FnScope N ps scope)
  (len:∀ vs H Q E,sp vs H Q E->vs.length=ps.length)
  (hbody:∀ (A:Around) (outer:List Env) (s:Shared) (H:Hp) (vs:List V) (Q:VK) (E:XK),Room k (A.deeper (envOfC qual scope s.heap.objs.size f cdv))->J s H->sp vs H Q E ->
   ∃ t,PSs (zdj CX0 P w K mg base N qual scope f cdv A outer s H E) body t/\t { nx:=fun _ H'=>Q .non H',rt:=Q } (start N vs) H) :
  FnJ0 P w K mg base J (k+1) f (W.fnOf name qual params body scope dV kV doc pm an cdv ct) ps sp:=by
 refine ⟨len,fun A outer s H args us vs Q E hr e0 hb r hj hsp=>?_⟩
 have hl:=len _ _ _ _ hsp
 have KX:K.In s.heap:=e0.mod.kin.keeps fun b o e=>(e0.bs b o e).1
 have lim:s.heap.NoLimit:=e0.mod.nolimit.keeps fun b o e=>(e0.bs b o e).1
 have hkind:∀ y ∈ ps.zip us,scope.names.lookup y.1=some .local\/(scope.names.lookup y.1=some .cell/\((cellsFrom (s.heap.objs.size+1) scope.names []).lookup y.1).isSome=true):=fun ⟨n,v⟩ hy=>by
  rcases S.par n (List.of_mem_zip hy).1 with q | q
  ·exact .inl q
  ·exact .inr ⟨q,W.cellsFrom_some _ _ _ (.inl q)⟩
 refine codeAny_call_function hr.depth (KX _ _ lk) rfl S.co S.gen rfl (W.codeRec_of KX hcd) (hb _ _ _ _ ?_)
 refine wpAny_newFunctionEnv_cells S.kind hkind fun env he s1 x=>?_
 subst he; refine ⟨lim.keeps x.toInCall.keep,codeAny_func ?_⟩; obtain ⟨t,ht,hq⟩:=hbody A outer s H vs Q E (hr.deeper _) hj hsp
 have I:Inv (zdj CX0 P w K mg base N qual scope f cdv A outer s H E) [] (start N vs) H s1:=zdZ S hr.hd e0 hl r x
 refine yf (ht [] s1 (start N vs) H _ I hq) (fun fl s' hs=>?_) fun e s' hs=>hs
 have fin:∀ {σ':St} {H':Hp} {v:V} {u:Value},Inv (zdj CX0 P w K mg base N qual scope f cdv A outer s H E) [] σ' H' s'->zap v u->Q v H'->CE outer P w H s Q u s' :=
  fun {σ' H' v u} J rv q=>⟨v,H',J.os,J.bare,J.base,J.hok,rv,q⟩
 cases fl with
 | ret u =>
  obtain ⟨v,σ',H',J,rv,q⟩:=hs; exact fin J rv q
 | next =>
  obtain ⟨σ',H',J,q⟩:=hs; exact fin (v:=V.non) (u:=Value.none) J rfl q
 | brk =>
  obtain ⟨_,_,_,q⟩:=hs; exact False.elim q
 | cont =>
  obtain ⟨_,_,_,q⟩:=hs; exact False.elim q
end L2
namespace PL
open PySem L2
structure FnJ (P:Program) (w:World) (K:W.Frag) (mg:Str->Option Value) (base:Heap) (J:Jt) (k:Nat) (x:Str) (ps:List Str) (sp:Sp'):Prop where
 ex:∃ f fd,FnJ0 P w K mg base J k f fd ps (zhv K sp)/\zbX K fd ps []/\W.keepIn K (.ref f)=true/\mg x=some (.ref f)
section
variable {J:Jt} {k:Nat} {x:Str} {ps:List Str} {sp:Sp'}
def Df.okJ {st:Stmt} {N:List Str} (d:Df K mg x st ps) (S:FnScope N ps (zm st)) (hJ:JK J) (len:∀ ds Q,sp ds Q->ds.length=ps.length)
  (hbody:∀ (f:Addr) (cdv:Value) (A:Around) (outer:List Env) (s:Shared) (H:Hp) (E:XK),(∀ pins σ H' s',L2.Inv (zdj CX0 P w K mg base N x (zm st) f cdv A outer s H E).nox pins σ H' s'->J s' H')->Room k (A.deeper (PyProof.Rows.envOfC x (zm st) s.heap.objs.size f cdv))->∀ ds Q,sp ds Q ->
   ∃ t,PSs' (zdj CX0 P w K mg base N x (zm st) f cdv A outer s H E).nox (zaw st) t/\t { nx:=fun _=>Q (.val .non),rt:=fun r _=>Q r } (zaG N ds)):FnJ P w K mg base J (k+1) x ps sp:=by
 obtain ⟨f,fd,F,b,m⟩:=d.ex; obtain ⟨oc,od,kV,doc,pm,an,cdv,ct,osl,rfl,lk,hcd⟩:=F.ex
 refine ⟨f,_,zrk lk hcd S (fun vs H Q E h=>?_) (fun A outer s H vs Q E hr hj h=>?_),b,F.kp,m⟩
 ·obtain ⟨Hi,ds,Q',_,dl,h,_⟩:=h
  rw [zj dl]; exact len ds Q' h
 ·obtain ⟨Hi,ds,Q',sb,dl,h,fin⟩:=h
  obtain ⟨t,h1,h2⟩:=hbody f cdv A outer s H E (fun pins σ H' s' I=>hJ.keep hj I.base) hr ds Q' h
  have hpl:ps.length<=N.length:=by have:=ym List.length S.pre; rw [YB] at this; omega
  refine ⟨_,h1.h.nox,⟨H,Hi,[]⟩,Hi,zaG N ds,_,zbA (len ds Q' h) hpl sb dl,h2,?_⟩
  refine ⟨fun σ' H' Hi' Γ' s1 g1 q=>?_,fun _ _ _ _ _ _ q=>q.elim,fun _ _ _ _ _ _ q=>q.elim,fun v σ' H' Hi' Γ' r s1 g1 ro q=>?_⟩
  ·exact fin Hi' H' .non (.val .non) ⟨s1,fun b o e=>g1.keep b o e (by simp),g1.fz,fun b o e=>g1.fro b o e⟩ .non q
  ·exact fin Hi' H' v r ⟨s1,fun b o e=>g1.keep b o e (by simp),g1.fz,fun b o e=>g1.fro b o e⟩ ro q
end
section
variable {J:Jt} {k:Nat} {x:Str} {ps:List Str} {sp:Sp'} {p pos:Pos} {e:Expr} {es:List Expr} {t:TA'}
def zqL (h:FnJ X.prog X.w X.K X.mg X.base J k x ps sp) (hr:Room k X.A) (hj:∀ pins σ H s,L2.Inv X pins σ H s->J s H) (ha:PA' X (e :: es) t) (hg:Gl X x:=by rfl) (hdb:yyD x:=by decide) :
  PE' X (.Call (.Name x p) (e :: es) [] pos) (zJ sp t):=by
 obtain ⟨f,fd,F,b,kp,m⟩:=h.ex; refine ⟨PE.weak (zlW F hr hg m kp b hj ha.pa hdb (zZ (zD ha.pl).1) (zaa (zD ha.pl).2)) ?_⟩
 rintro σ H Q ⟨W,Hi,Γ,Q',g,h,fin⟩
 refine ⟨W,Hi,Γ,_,g,h,?_⟩; intro vs H1 Hi1 Γ1 ds s1 g1 dl q; rw [yd]; refine ⟨Hi1,ds,_,g1.fz,dl,q,?_⟩; intro Hi2 H2 v r ex ro q2
 cases r with
 | val d=>exact fin v H2 ⟨Hi2,d,Γ1,s1.trans ex.hi,g1.ext ex,ro,q2⟩
 | own o =>
  obtain ⟨a,rfl,h1,h2,h3⟩:=ro; have nw:=za8 g1 ex h1 h2 h3; obtain ⟨u,hu⟩:=h3.there; exact fin _ H2 ⟨upd Hi2 a u,_,Γ1,s1.trans (ex.hi.trans (zH h1 u)),(g1.ext ex).freezeA nw.hi nw.h0 nw.ne hu,h3.den h1 hu,q2⟩
 | bk d o =>
  obtain ⟨b,dv,hol,h1,h2,h3⟩:=ro; have nw:=za8 g1 ex h1 h2 h3; obtain ⟨u,hu⟩:=h3.there; exact fin _ H2 ⟨upd Hi2 b u,_,Γ1,s1.trans (ex.hi.trans (zH h1 u)),(g1.ext ex).freezeA nw.hi nw.h0 nw.ne hu,hol b _ v o (h3.den h1 hu) (dv.mono (zH h1 u)),q2⟩
structure FnV (P:Program) (w:World) (K:W.Frag) (mg:Str->Option Value) (base:Heap) (J:Jt) (k:Nat) (f:Addr) (R:D->D->Prop):Prop where
 jk:JK J
 ex:∃ (fo:Obj) (fd:FuncData) (p:Str),FnJ0 P w K mg base J k f fd [p] (zhv K (zln R))/\fo.data=.func fd/\(∀ u,bindArgs fd ⟨[u],[]⟩=pure [(p,u)])/\∀ s H,J s H->H f=some (zba (.inr fo))
def zeN (i:Nat) (f:Addr) (R:D->D->Prop) (t:TA'):TE':=fun Γ Q=>Γ[i]?=some (.val (.adr f))/\t Γ fun ds Γ1=>∃ d k,ds=[d]/\R d k/\Q k Γ1
def zjI (i:Nat) {f:Addr} {R:D->D->Prop} (V:FnV X.prog X.w X.K X.mg X.base J k f R) (hr:Room k X.A) (hj:∀ pins σ H s,L2.Inv X pins σ H s->J s H) (ha:PA' X [e] t) (hN:X.N[i]?=some x:=by rfl) (hv:Vis X.env.scope x:=by first | exact Or.inl rfl | exact Yr (Or.inl rfl) | exact Yr (Yr rfl))
  (hd:yyD x:=by decide) (hcd:(x == ("__classdict__":Str))=false:=by decide) :
  PE' X (.Call (.Name x p) [e] [] pos) (zeN i f R t):=by
 obtain ⟨fo,fd,p1,F,hfo,hb,hl⟩:=V.ex; refine ⟨PE.weak (zlV (i:=i) (oc:=fo) (c:=f) F hr hfo hb hj hl ha.pa hN hv hd hcd (zZ (zD ha.pl).1) (zaa (zD ha.pl).2)) ?_⟩
 rintro σ H Q ⟨W,Hi,Γ,Q',g,⟨hi,h⟩,fin⟩
 obtain ⟨v,hσ,dv⟩:=g.val i _ hi; rw [dv.adrI] at hσ; refine ⟨hσ,W,Hi,Γ,_,g,h,?_⟩
 rintro vs H1 Hi1 Γ1 ds s1 g1 dl ⟨d,k,rfl,hR,q⟩
 refine ⟨Hi1,[d],fun r=>r=.val k,g1.fz,dl,zhu hR,?_⟩
 intro Hi2 H2 v r ex ro hq; subst hq; exact fin v H2 ⟨Hi2,k,Γ1,s1.trans ex.hi,g1.ext ex,ro,q⟩
end
section
variable {K:PySem.W.Frag}
end
section
end
def znU (H:Hp):Hp:=fun a=>match H a with
 | some (.tup xs)=>some (.tup xs)
 | _=>none
def zi9 {H:Hp} {a:Addr} {u:HO} (h:znU H a=some u):∃ xs,u=.tup xs/\H a=some (.tup xs):=by
 unfold znU at h; split at h
 ·rename_i xs e
  exact ⟨xs,(Option.some.inj h).symm,e⟩
 ·cases h
def zja {H:Hp} {a:Addr} {xs:List V} (h:H a=some (.tup xs)):znU H a=some (.tup xs):=by
 unfold znU; rw [h]
def zle {Hi H:Hp} (fz:Fz Hi H):zU (znU H) Hi:=fun a u h=>by
 obtain ⟨xs,rfl,e⟩:=zi9 h; exact fz.tups _ _ e
def zmB {K:W.Frag} {Hi H:Hp} {v:V} {d:D} (im:Imm d) (fz:Fz Hi H) (h:Den K Hi v d):Den K (znU H) v d:=by
 induction h with
 | non=>exact .non
 | bl b=>exact .bl b
 | int i=>exact .int i
 | str l=>exact .str l
 | ty n=>exact .ty n
 | cls C=>exact .cls C
 | tup h l r ih =>
  cases im with
  | tup hi=>exact .tup (zja (fz.sub _ _ h)) l fun j v d h1 h2=>ih j v d h1 h2 (hi d (yL h2))
 | _=>cases im
def zrH (K:W.Frag) (c:Addr) (xd:D):Jt:=fun s H=>∃ ux vx,s.heap.IsCell c (some ux)/\zap vx ux/\H c=none/\Den K (znU H) vx xd
def zo0 (K:W.Frag) (c:Addr) (xd:D):JK (zrH K c xd):=⟨fun {fs s s' H H'} h u=>by
 obtain ⟨ux,vx,⟨o,ho,hd⟩,r,n,den⟩:=h
 obtain ⟨sl,e⟩:=u.any ho n (by simp)
 refine ⟨ux,vx,⟨_,e,hd⟩,r,u.free _ _ ho n (by simp),den.mono fun a w h=>?_⟩
 obtain ⟨xs,rfl,e⟩:=zi9 h; exact zja (u.tups _ _ e)⟩
section
def zmF {k:Nat} {f c c':Addr} {qual p x:Str} {params:Arguments} {body:Expr} {scope:Scope} {pm ctv:Value} {oc:Obj} {vs0:Array Value} {t0:Tok} {R:D->D->D->Prop} {xd:D}
  (S:LamSc p x scope) (hd:oc.data=.fields vs0) (hv:vs0[1]?=some (.str qual t0)) (hb:∀ u,bindArgs (W.kla_fn "<lambda>" qual params body scope [(x,c)] pm (.ref c') ctv) ⟨[u],[]⟩=pure [(p,u)])
  (hbody:∀ (A:Around) (outer:List Env) (s:Shared) (H:Hp) (E:XK),Room k (A.deeper (W.envX qual scope s.heap.objs.size f (.ref c') [(x,c)]))->∀ ds Q,zm5 R ds Q ->
   ∃ t,PE' (cxX CX0 P w K mg base [p,x] qual scope f (.ref c') [(x,c)] A outer s H E).nox body t/\t (zaG [p,x] ds) fun d _=>Q (.val d)) :
  FnV P w K mg base (fun s H=>zua f c' (zb9 [(x,c)] qual params body scope pm c' ctv) oc s H/\zrH K c xd s H) (k+1) f (fun d e=>R d xd e):=by
 refine ⟨(zrd _ _ _ _).and (zo0 _ _ _),zb9 [(x,c)] qual params body scope pm c' ctv,W.kla_fn "<lambda>" qual params body scope [(x,c)] pm (.ref c') ctv,p,⟨fun vs H Q E h=>?_,fun A outer s H args us vs Q E hr e0 hbt r hj h=>?_⟩,rfl,hb,fun s H h=>h.1.1⟩
 ·obtain ⟨Hi,ds,Q',_,dl,⟨d,k,rfl,_⟩,_⟩:=h
  rw [zj dl]; rfl
 ·obtain ⟨⟨hf,hc⟩,ux,vx,hcell,rx,fc,den⟩:=hj
  obtain ⟨Hi,ds,Q',sb,dl,⟨d,e,rfl,hR,q⟩,fin⟩:=h
  obtain ⟨v,rfl,dv⟩:=zcX dl; obtain ⟨u,rfl,ru⟩:=zcl r
  have of:s.heap.get? f=some (zb9 [(x,c)] qual params body scope pm c' ctv):=(e0.hok f _ hf).1
  have oc':s.heap.get? c'=some oc:=(e0.hok c' _ hc).1
  have lim:s.heap.NoLimit:=e0.mod.nolimit.keeps fun b o e=>(e0.bs b o e).1
  refine W.kla_callFunE hr.depth of rfl S.co S.gen rfl ⟨c',oc,vs0,t0,rfl,oc',hd,hv⟩ (hbt _ _ _ _ ?_)
  refine wpAny_newFunctionEnv S.nocell (fun y hy=>?_) (fun h1 hns hsb=>?_) S.kind
  ·rw [yc.mp (show y ∈ [(p,u)] from hy)]
   exact S.par
  ·have hk:∀ b o,s.heap.get? b=some o->h1.get? b=some o:=fun b o e=>hsb.extBut b o (yW (yJ e)) (yC _ e)
   refine ⟨lim.keeps hk,W.kla_codeExpr ?_⟩; obtain ⟨t,ht,hq⟩:=hbody A outer s H E (hr.deeper _) [d,xd] Q' ⟨d,xd,e,rfl,hR,q⟩
   have I1:L2.Inv (cxX CX0 P w K mg base [p,x] qual scope f (.ref c') [(x,c)] A outer s H E) [] [some v,some vx] H { s with heap:=h1,toks:=s.toks+[(p,u)].length }:=ziG S hr.hd e0 ru rx hcell fc hns hk
   have g0:Good K [p,x].length ⟨H,Hi,[]⟩ Hi (zaG [p,x] [d,xd]) (L2.start [p,x] [v,vx]) H:=zbA (ps:=[p,x]) rfl (yD _) sb (.cons dv (.cons (den.mono (zle sb)) .nil))
   refine yf (ht.h.nox [] _ _ H (fun v' H'=>Q v' H') I1 ⟨⟨H,Hi,[]⟩,Hi,zaG [p,x] [d,xd],_,g0,hq,?_⟩) (fun u' s' hs=>?_) fun e s' hs=>hs
   ·rintro v' H' ⟨Hi',d',Γ',s1,g1,dv',q'⟩
    exact fin Hi' H' v' (.val d') ⟨s1,fun b o e=>g1.keep b o e (by simp),g1.fz,fun b o e=>g1.fro b o e⟩ dv' q'
   ·obtain ⟨v',H',J,rv,q'⟩:=hs
    exact ⟨v',H',J.os,J.bare,J.base,J.hok,rv,q'⟩
end
section
def zc4 (i:Nat) (sp:D->Addr->Sp') (t1 t2:TE'):TE':=fun Γ Q=>t1 Γ fun d1 Γ1=>t2 Γ1 fun d2 Γ2=>∃ xd,Γ2[i]?=some (.val xd)/\Imm xd/\∀ f,sp xd f [d1,d2,.adr f] fun r=>Q r.toD Γ2
class MSpG (sp:D->Addr->Sp'):Prop where
 m:∀ d f,MSp (sp d f)
instance {i:Nat} {sp:D->Addr->Sp'} {t1 t2:TE'} [MSpG sp] [ME t1] [ME t2]:ME (zc4 i sp t1 t2):=⟨fun Γ _ _ h q=>ME.mono (t:=t1) Γ _ _ (fun _ _ z=>ME.mono (t:=t2) _ _ _ (fun _ _ ⟨xd,a,b,z⟩=>⟨xd,a,b,fun f=>(MSpG.m (sp:=sp) xd f).mono _ _ _ (fun _ y=>h _ _ y) (z f)⟩) z) q⟩
def zjJ (i:Nat) {k kl:Nat} {g qual p1 x:Str} {st:Stmt} {ps:List Str} {params:Arguments} {body:Expr} {scope:Scope} {R:D->D->D->Prop} {sp:D->Addr->Sp'} {e1 e2:Expr} {t1 t2:TE'} {p lpos pos:Pos} (L:LamAt X qual) (D:Df X.K X.mg g st ps)
  (G:∀ (J:Jt) (xd:PL.D) (f:Addr),FnV X.prog X.w X.K X.mg X.base J (kl+1) f (fun d e=>R d xd e)->FnJ X.prog X.w X.K X.mg X.base J k g ps (sp xd f)) (S:LamSc p1 x scope)
  (hbody:∀ (f c c':Addr) (A:Around) (outer:List Env) (s:Shared) (H:Hp) (E:XK),Room kl (A.deeper (W.envX qual scope s.heap.objs.size f (.ref c') [(x,c)]))->∀ ds Q,zm5 R ds Q ->
   ∃ t,PE' (cxX CX0 X.prog X.w X.K X.mg X.base [p1,x] qual scope f (.ref c') [(x,c)] A outer s H E).nox body t/\t (zaG [p1,x] ds) fun d _=>Q (.val d))
  (hb:∀ (pm:Value) (c c':Addr) (ctv u:Value),bindArgs (W.kla_fn "<lambda>" qual params body scope [(x,c)] pm (.ref c') ctv) ⟨[u],[]⟩=pure [(p1,u)])
  (hr:Room k X.A) (h1:PE' X e1 t1) (h2:PE' X e2 t2) (hkx:X.env.kindOf x=some .cell) (hN:X.N[i]?=some x) (hcl:∀ c,X.env.cells.lookup x=some c->closureFor scope X.env=pure [(x,c)])
  (hg:Gl X g:=by rfl) (hdb:yyD g:=by decide) (hs1:zcs e1=false:=by rfl) (hs2:zcs e2=false:=by rfl)
  (hdef:defaultsOf params X.env=([],[]):=by rfl) :
  PE' X (.Call (.Name g p) [e1,e2,.Lambda params body scope lpos] [] pos) (zc4 i sp t1 t2):=by
 obtain ⟨g0,gd0,Fg,_,hm⟩:=D.ex
 refine ⟨fun pins s σ H Q I h=>?_⟩
 obtain ⟨W,Hi,Γ,Q',gg,h,fin⟩:=h; obtain ⟨cx,hx⟩:=I.ok.has x (.inl hkx); refine YT (zb8 I hg hm ?_ hdb)
 refine PySem.W.callWith_K (h₀:=X.base) I.ok.mod.kin Fg.kp (thn (zcz h1.h (zcz h2.h (zcz (zow (lpos:=lpos) L (hcl cx hx) hdef) zhF (zZ rfl)) (zZ hs2)) (zZ hs1) pos pins s σ H
  (fun vs H3=>∃ v1 v2 f c oc vs0 t0 pm ctv H2 Hi2 Γ2 d1 d2 xd vx,vs=[v1,v2,.ref f]/\oc.data=.fields vs0/\vs0[1]?=some (.str qual t0)/\NewLam H2 H3 f c (zb9 [(x,cx)] qual params body scope pm c ctv) oc/\zU Hi Hi2/\Good X.K X.N.length W Hi2 Γ2 σ H2/\Den X.K Hi2 v1 d1/\Den X.K Hi2 v2 d2/\σ[i]?=some (some vx)/\Den X.K Hi2 vx xd/\Imm xd/\∀ f,sp xd f [d1,d2,.adr f] fun r=>Q' r.toD Γ2) I ?pre) fun us s1 ⟨vs,H3,I1,r,q⟩=>⟨I1.kIn,?_⟩) ?he ?hpl
 case pre =>
  refine ⟨W,Hi,Γ,_,gg,h,?_⟩
  rintro v1 H1 ⟨Hi1,d1,Γ1,s1,g1,dn1,q1⟩
  refine ⟨W,Hi1,Γ1,_,g1,q1,?_⟩
  rintro v2 H2 ⟨Hi2,d2,Γ2,s2,g2,dn2,xd,hi,im,q2⟩
  intro f c oc vs0 t0 pm ctv H3 hd hv nl; obtain ⟨vx,hσ,dvx⟩:=g2.val i xd hi; exact ⟨v1,v2,f,c,oc,vs0,t0,pm,ctv,H2,Hi2,Γ2,d1,d2,xd,vx,rfl,hd,hv,nl,s1.trans s2,g2,dn1.mono s2,dn2,hσ,dvx,im,q2⟩
 case he=>exact zZ hs1
 case hpl=>exact zaa (show zbS [e2,Expr.Lambda params body scope lpos]=true by show (!zcs e2 && (!zcs (Expr.Lambda params body scope lpos) && true))=true; rw [hs2]; rfl)
 ·obtain ⟨v1,v2,f,c,oc,vs0,t0,pm,ctv,H2,Hi2,Γ2,d1,d2,xd,vx,rfl,hd,hv,nl,s12,g2,dn1,dn2,hσ,dvx,im,q⟩:=q
  have V:=zmF (P:=X.prog) (w:=X.w) (K:=X.K) (mg:=X.mg) (base:=X.base) (k:=kl) (f:=f) (R:=R) (xd:=xd) S hd hv (hb pm cx c ctv) (hbody f cx c); obtain ⟨g',gd,F,b,kp,m⟩:=(G _ xd f V).ex
  have e:g'=g0:=by rw [hm] at m; cases m; rfl
  subst e; have ex0:=PL.NewLam.ext nl g2.fz
  have sp1:zhv X.K (sp xd f) [v1,v2,.ref f] H3 Q E0:=by
   refine ⟨Hi2,[d1,d2,.adr f],_,ex0.fz,.cons dn1 (.cons dn2 (.cons (.adr f) .nil)),q f,?_⟩; intro Hi4 H4 v r ex ro q2; have g3:=g2.ext ex0
   cases r with
   | val d=>exact fin v H4 ⟨Hi4,d,Γ2,s12.trans ex.hi,g3.ext ex,ro,q2⟩
   | own o =>
    obtain ⟨a,rfl,h1,h2,h3⟩:=ro; have nw:=za8 g3 ex h1 h2 h3; obtain ⟨u,hu⟩:=h3.there; exact fin _ H4 ⟨upd Hi4 a u,_,Γ2,s12.trans (ex.hi.trans (zH h1 u)),(g3.ext ex).freezeA nw.hi nw.h0 nw.ne hu,h3.den h1 hu,q2⟩
   | bk d o =>
    obtain ⟨b,dv,hol,h1,h2,h3⟩:=ro; have nw:=za8 g3 ex h1 h2 h3; obtain ⟨u,hu⟩:=h3.there; exact fin _ H4 ⟨upd Hi4 b u,_,Γ2,s12.trans (ex.hi.trans (zH h1 u)),(g3.ext ex).freezeA nw.hi nw.h0 nw.ne hu,hol b _ v o (h3.den h1 hu) (dv.mono (zH h1 u)),q2⟩
  have hl:us.length=ps.length:=by rw [<- r.length]; exact F.len _ _ _ _ sp1
  have hb':=b s1 us I1.kIn (by rw [yd]; exact hl)
  rw [yd] at hb'; obtain ⟨m,hmm,look⟩:=I1.loc; obtain ⟨ux,rx,lk⟩:=look i x vx hN hσ (.inr (.inl hkx))
  have hcell:s1.heap.IsCell cx (some ux):=by
   rcases lk with ⟨z,_⟩ | ⟨_,c2,z,q⟩
   ·rw [hkx] at z; cases z
   ·rw [hx] at z; cases z; exact q
  exact zgI F hr hb' ⟨⟨nl.has.1,nl.has.2⟩,ux,vx,hcell,rx,I1.freeC x cx hx,zmB im ex0.fz dvx⟩ I1 r sp1
end
end PL
namespace HT
open PySem PyProof.Rows
section
end
end HT
namespace L2
open PySem PySem.Spec PyProof.Rows
section
variable {e st:Expr} {te:TE} {ts:TO} {pos p2:Pos}
end
end L2
namespace PL
open PySem L2
section
variable {e st:Expr} {te:TE'} {ts:TP'} {pos p2:Pos}
end
end PL
namespace L2
open PySem PySem.Spec PyProof.Rows
section
end
end L2
namespace PL
open PySem L2
section
end
end PL
namespace L2
open PySem PySem.Spec PyProof.Rows
section
end
section
end
section
variable {K:Type} [DecidableEq K] {knd:HeapKind prog w K} {d a:Addr} {k:K} {xs:List (K × Addr × Value)}
end
section
variable {a:Addr}
end
section
variable {o e f:Expr} {apos cpos:Pos} {td ty tx:TE}
end
end L2
namespace PL
open PySem L2
section
variable {K:PySem.W.Frag} {n:Nat} {W:Wd} {Hi H0:Hp} {Γ:Sts} {L:List Addr}
end
abbrev Ent:=List (List Nat) × Addr × List D
section
variable {n:Nat} {W:Wd} {Hi:Hp} {a:Addr} {es:List Ent}
end
section
end
end PL
namespace X1
open PySem PyProof.Rows
section
variable {h:Heap} {g:Array GenState} {d:Drawn} {t:Nat} {os:OsState} {C N:Addr} {bm bmB:List Value} {B nid iid:String} {mN:Str->Option Value} {zbb:List Value}
end
end X1
namespace L2
open PySem PySem.Spec PyProof.Rows
section
end
end L2
namespace PL
open PySem L2
section
variable {x:Str} {C:Addr} {p cpos pos:Pos} {e:Expr} {ta:TA'}
end
end PL
namespace L2
open PySem PySem.Spec PyProof.Rows
section
end
end L2
namespace PL
open PySem PySem.Spec PyProof.Rows L2
section
variable {M:Addr} {x:Str} {body suite:List Stmt} {b0:Stmt} {tb:zhe} {ts:TS'} {p hpos pos:Pos}
end
end PL
namespace L2
open PySem PySem.Spec PyProof.Rows
section
end
section
end
end L2
namespace PL
open PySem L2
section
end
end PL
namespace L2
open PySem PySem.Spec PyProof.Rows
section
end
end L2
namespace PL
open PySem L2
section
variable {k:Nat} {x:Str} {ps:List Str} {sp:Sp'} {p pos:Pos} {e:Expr} {te:zpq}
end
end PL
namespace L2
open PySem PySem.Spec PyProof.Rows
def OkT (v:V) (H:Hp):Prop:=∃ a xs,v=.ref a/\H a=some (.tup xs)/\xs.length<=10/\∀ x ∈ xs,∃ z:Str,x=.str z/\z.length<=12/\∀ c ∈ z.cps.toList,c<1000
def zfK {n:Nat} (h:n<=100000):n<=sizeLine:=by rw [sizeLine_eq]; omega
section
theorem zfF:∀ {xs:List V} {its:List Value},zae xs its->(∀ x ∈ xs,∃ z:Str,x=.str z/\z.length<=12/\∀ c ∈ z.cps.toList,c<1000)->∃ ts,ReprAll prog w its ts/\piled ts<=124 * xs.length
 | _,_,.nil,_=>⟨[],.nil,yn _⟩
 | _,_,.cons r rs,h=>by
  obtain ⟨ts,h1,h2⟩:=zfF rs fun x hx=>h x (yO _ hx)
  obtain ⟨z,rfl,hz,hc⟩:=h _ (yU ..); obtain ⟨t,rfl⟩:=r
  have l:=StrLaws.reprText_len z fun c m=>Nat.lt_trans (hc c m) (by decide)
  refine ⟨_,.cons (ReprIs.str z t (zfK (by omega))) h1,?_⟩
  rw [piled_cons,Yh]; omega
def zfB (ts:List Str):(tupleText ts).length<=piled ts+3:=by
 unfold tupleText; rw [strLen_append,strLen_append]
 have e1:((("(":String):Str)).length=1:=rfl
 have e3:(((if ts.length == 1 then ",)" else ")":String):Str)).length<=2:=by split <;> decide
 rw [e1]
 by_cases h:ts=[]
 ·subst h
  have:(Str.join ", " []).length=0:=rfl
  omega
 ·have:=join_length_add ts h
  omega
end
section
def rep_tup {k:Nat} {v:V} {H:Hp} (hr:Room k X.A) (h:OkT v H):Rep X v H 1300:=by
 intro pins s σ u E Q I r q; obtain ⟨a,xs,rfl,ha,hl,hx⟩:=h
 cases (show u=Value.ref a from r)
 obtain ⟨_,its,vs,o,ho,hc,n,hd⟩:=(show zal X.prog X.w H s.heap a (.tup xs) from I.hok a _ ha)
 obtain ⟨ts,h1,h2⟩:=zfF (prog:=X.prog) (w:=X.w) vs hx; have h3:=zfB ts
 have h4:(tupleText ts).length<=1300:=by omega
 exact wpAny_pyReprObj_tuple ⟨o,ho,hc⟩ hr.gd (fun c hc=>by cases hc) hr.units0 ho hd (by simpa using h1) (fun u tk=>q _ _ _ h4 (I.tok _)) (zfK (by omega))
def zlT (n:Nat) {c:Str} {j:Nat} {p p2 pos:Pos} {e:Expr} {te:TE} (hc:c.length+n<=100000) (he:PE X e te):PE X (.JoinedStr [.Constant (.str c) j p,.FormattedValue e 114 none p2] pos) (tFR X n te):=by
 intro pins s σ H Q I h; refine PyProof.Rows.JoinedStr_many (PyProof.Rows.joinParts_cons (Calls.Constant_str ?_))
 refine ⟨by rw [zkl]; exact zfK (by omega),PyProof.Rows.joinParts_cons ?_⟩
 refine wpAny_FormattedValue_repr (thn (he pins _ σ H _ (I.tok _) h) fun v s1 ⟨y,H1,I1,r1,rp,q⟩=>?_)
 refine rp pins s1 σ v _ _ I1 r1 fun z t s2 hz I2=>?_
 refine PyProof.Rows.formatField_str (fun t' tk=>?_) (zfK (by omega))
 have hl:(Str.empty ++ c ++ z).length<=sizeLine:=by rw [strLen_append,zkl]; exact zfK (by omega)
 refine ⟨hl,PyProof.Rows.joinParts_nil ?_ hl⟩; exact ⟨.str _,H1,(I2.tok _).tok _,⟨_,rfl⟩,q _⟩
end
end L2
namespace PySem.F
end PySem.F
namespace PySem
section
end
section
end
end PySem
namespace L2
open PySem PySem.Spec PyProof.Rows
section
variable {h:Heap}
end
section
end
end L2
namespace PL
open PySem L2
section
end
end PL
namespace L2
open PySem
end L2
namespace PL
open PySem L2
end PL
namespace M81
open PySem L2 Lb PL MT MS M04 M70 M71
end M81
namespace M73
open PySem L2 Lb PL MT MS M04 M70 M71 M81
theorem kw_made {l x:List Nat} {p ws:Pl} {ks:List Tr}:∀ {r:List Tr},zo x (r.map fun k=>if k.lab=l then zb7 k p ws ks else k)=(zo x r).map fun k=>if k.lab=l then zb7 k p ws ks else k
 | []=>rfl
 | k :: r=>by
  unfold zo; rw [yX,YS,YS]
  have e:(if k.lab=l then zb7 k p ws ks else k).lab=k.lab:=by
   split
   ·exact zcj _ _ _ _
   ·rfl
  rw [e]
  cases decide (k.lab=x) with
  | true=>rfl
  | false=>exact kw_made
end M73
namespace M72
open PySem L2 Lb PL MT MS M04 M70 M71 M81 M73
section
variable {L:List (List Nat)} {lb:List Nat} {ws:Pl}
end
end M72
namespace M74
open PySem L2 Lb PL MT MS M04 M70 M71 M81 M73 M72
def znh {x:List Nat} {a b:List Tr} (ha:(zaF a).Nodup) (hb:(zaF b).Nodup) (h:∀ k:Tr,k.lab=x->(k ∈ a↔k ∈ b)):zo x a=zo x b:=by
 cases e:zo x a with
 | none =>
  symm
  rw [zdh]; intro z; obtain ⟨k,hk,ek⟩:=yh.mp z
  have:=(h k ek).mpr hk
  exact zdh.mp e (ek ▸ yx this)
 | some k =>
  obtain ⟨m,l⟩:=zbU e; rw [<- l]; exact (zbv hb ((h k l).mp m)).symm
section
variable {c d n:Nat} {s t nd:Tr} {p:Pl}
def zjm {k:Tr} (h:(zaF nd.kds).Nodup) (hk:zo k.lab nd.kds=none):(zaF (nd.kds ++ [k])).Nodup:=by
 rw [zfc,List.nodup_append]
 refine ⟨h,by simp [zaF],fun a ha b hb e=>?_⟩
 have:b=k.lab:=by simpa [zaF] using hb
 rw [e,this] at ha; exact zdh.mp hk ha
end
end M74
namespace M75
open PySem L2 Lb PL MT MS M04 M70 M71 M81 M73 M72 M74
end M75
namespace M76
open PySem L2 Lb PL MT MS M04 M70 M71 M81 M73 M72 M74 M75
theorem zdS {c:Nat} {ws:Pl} {ks:List Tr}:∀ {p:Pl} {n:Nat} {t nd:Tr},Wf c n t->zu t p=some nd->zaW t p (.node nd.lab ws ks)=zb7 t p ws ks
 | [],n,t,nd,_,hn=>by
  simp only [zu,Option.some.injEq] at hn; subst hn; rfl
 | l :: p,n,t,nd,hw,hn=>by
  simp only [zu] at hn; obtain ⟨m,rfl⟩:=hw.pos
  cases hk:zo l t.kds with
  | none=>rw [hk] at hn; cases hn
  | some k =>
   rw [hk] at hn; have ih:=zdS (ws:=ws) (ks:=ks) (hw.kw hk) hn; have el:=(zbU hk).2; simp only [zaW,hk,ih,zpL,zb7]
   congr 1
   refine Yf fun k' hk'=>?_
   rw [zcj,el]
   by_cases e:k'.lab=l
   ·rw [yI e,yI e]
    have:=zbv hw.nd hk'
    rw [e,hk] at this; rw [Option.some.inj this]
   ·rw [yH e,yH e]
def zj6 {p q r:Int × List Nat} (h:klt p q) (h':klt q r):klt p r:=by
 rcases h with h | ⟨h1,h2⟩
 ·rcases h' with h' | ⟨h1',_⟩
  ·exact .inl (by omega)
  ·exact .inl (by omega)
 ·rcases h' with h' | ⟨h1',h2'⟩
  ·exact .inl (by omega)
  ·exact .inr ⟨by omega,List.lt_trans h2 h2'⟩
def zm7:∀ {a b:List Tr},Ris (zaF a)->Ris (zaF b)->(∀ x,x ∈ a↔x ∈ b)->a=b:=fun {a b} ha hb h=>by
 have el:zaF a=zaF b:=zgJ ha hb fun x=>by
  unfold zaF; rw [yh,yh]
  exact ⟨fun ⟨y,p,q⟩=>⟨y,(h y).mp p,q⟩,fun ⟨y,p,q⟩=>⟨y,(h y).mpr p,q⟩⟩
 have e1:=zhE ha ha fun x hx=>hx
 have e2:=zhE hb hb fun x hx=>hx
 rw [<- e1,<- e2,<- el]; unfold ziW
 congr 1
 funext x
 exact znh ha.nodup hb.nodup fun k _=>h k
noncomputable def bf (l:List Nat) (x:Tr):Bool:=@decide (klt (zbi x.lab) (zbi l)) (Classical.propDecidable _)
def zeE {l:List Nat} {x:Tr}:bf l x=true↔klt (zbi x.lab) (zbi l):=by
 unfold bf; exact @decide_eq_true_iff _ (Classical.propDecidable _)
theorem zeA (l:List Nat):∀ ks:List Tr,Ris (zaF ks)->∃ b,ks=ks.filter (bf l) ++ b/\∀ x ∈ b,¬ klt (zbi x.lab) (zbi l)
 | [],_=>⟨[],rfl,fun x hx=>nomatch hx⟩
 | a :: r,h=>by
  unfold Ris zaF at h; rw [yX,List.pairwise_cons] at h
  by_cases e:bf l a=true
  ·obtain ⟨b,eb,hb⟩:=zeA l r h.2
   refine ⟨b,?_,hb⟩; rw [List.filter_cons,yI e,List.cons_append,<- eb]
  ·have hall:∀ x ∈ a :: r,¬ klt (zbi x.lab) (zbi l):=fun x hx=>by
    rcases yQ.mp hx with rfl | z
    ·exact fun q=>e (zeE.mpr q)
    ·exact fun q=>e (zeE.mpr (zj6 (h.1 x.lab (yx z)) q))
   refine ⟨a :: r,?_,hall⟩
   have:(a :: r).filter (bf l)=[]:=List.filter_eq_nil_iff.mpr fun x hx q=>hall x hx (zeE.mp q)
   rw [this]; rfl
def zj9 {c n:Nat} {nd k:Tr} (wn:Wf c n nd) (hp:zv k.lab=true) (hk:zo k.lab nd.kds=none) :
  nd.kds.filter (bf k.lab) ++ [k] ++ nd.kds.drop (nd.kds.filter (bf k.lab)).length=zdt (nd.kds ++ [k]):=by
 obtain ⟨b,eb,hb⟩:=zeA k.lab nd.kds wn.ris
 have ed:nd.kds.drop (nd.kds.filter (bf k.lab)).length=b:=by
  conv=>lhs; rw [eb]
  rw [show (nd.kds.filter (bf k.lab) ++ b).filter (bf k.lab)=nd.kds.filter (bf k.lab) by
   rw [<- eb]]
  exact List.drop_left
 rw [ed]; have nd2:=zjm wn.nd hk
 have hpl:∀ x ∈ nd.kds ++ [k],zv x.lab=true:=fun x hx=>by
  rcases yb.mp hx with z | z
  ·exact wn.plab x z
  ·rw [yc.mp z]; exact hp
 have r:=wn.ris; rw [eb] at r; unfold Ris zaF at r; rw [List.map_append,yt] at r
 refine zm7 ?_ (zfe hpl).ris fun x=>?_
 ·unfold Ris zaF
  rw [List.map_append,List.map_append,yt,yt]
  have hkb:∀ y ∈ b,klt (zbi k.lab) (zbi y.lab):=fun y hy=>by
   have hyk:y ∈ nd.kds:=by rw [eb]; exact yV _ hy
   rcases zj5 (zbi k.lab) (zbi y.lab) with z | z | z
   ·exact z
   ·exact yP z (hb y hy)
   ·have:=zfh hp (wn.plab y hyk) z
    exact yP (this ▸ yx hyk) (zdh.mp hk)
  have hfk:∀ y ∈ nd.kds.filter (bf k.lab),klt (zbi y.lab) (zbi k.lab):=fun y hy=>zeE.mp (List.mem_filter.mp hy).2
  refine ⟨⟨r.1,List.pairwise_singleton _ _,fun p hp' q hq=>?_⟩,r.2.1,fun p hp' q hq=>?_⟩
  ·obtain ⟨y,hy,rfl⟩:=yh.mp hp'
   rw [List.map_singleton,yc] at hq; rw [hq]; exact hfk y hy
  ·obtain ⟨y,hy,rfl⟩:=yh.mp hq
   rcases yb.mp hp' with z | z
   ·exact r.2.2 p z _ (yx hy)
   ·rw [List.map_singleton,yc] at z
    rw [z]; exact hkb y hy
 ·rw [zf9 nd2]
  conv=>rhs; rw [eb]
  simp only [yb,yc]; constructor
  ·rintro ((z | z) | z)
   ·exact .inl (.inl z)
   ·exact .inr z
   ·exact .inl (.inr z)
  ·rintro ((z | z) | z)
   ·exact .inl (.inl z)
   ·exact .inr z
   ·exact .inl (.inr z)
end M76
namespace M83
open PySem L2 Lb PL MT MS M04 M70 M71 M81 M73 M72 M74
section
variable {c n:Nat} {t nd:Tr} {p:Pl}
end
end M83
namespace M82
open PySem L2 Lb PL MT MS M04 M70 M71
end M82
namespace M84
open PySem L2 Lb PL MT MS M04 M70 M71 M81 M82 M83
noncomputable section
open Classical
theorem wf_dp {c:Nat}:∀ {n:Nat} {t:Tr},Wf c n t->Dp n t
 | 0,t,h=>by cases h
 | n+1,.node l ws ks,h=>.mk fun k hk=>wf_dp (h.kid k hk)
end
end M84
namespace M85
open PySem L2 Lb PL MT MS M04 M70 M71 M81 M73 M72 M74 M82 M83 M84
noncomputable section
open Classical
end
end M85
namespace M86
open PySem L2 Lb PL MT MS M04 M70 M71 M81 M73 M72 M74 M82 M83 M84 M85
noncomputable section
open Classical
section
variable {L:List (List Nat)} {lb:List Nat} {ws:Pl}
end
end
end M86
namespace M87
open PySem L2 Lb PL MT MS M04 M70 M71 M81 M73 M72 M74 M82 M83 M84 M85 M86
theorem node_app:∀ (p:Pl) (t:Tr) (r:Pl),zu t (p ++ r)=(zu t p).bind fun x=>zu x r
 | [],t,r=>rfl
 | l :: p,t,r=>by
  simp only [List.cons_append,zu]
  cases zo l t.kds with
  | none=>rfl
  | some k=>exact node_app p k r
end M87
namespace M24
abbrev Pl:=List (List Nat)
inductive Knd where
 | W | F | B
 deriving DecidableEq
def above (p q:Pl):Bool:=decide (q.take p.length=p)
def zhT (k:Knd) (p q:Pl):Bool:=match k with
 | .W=>decide (p=q)
 | .F=>above p q
 | .B=>!decide (p=q) && above p q
def common (k1:Knd) (p1:Pl) (k2:Knd) (p2:Pl):Bool :=
 if k1=.W then zhT k2 p2 p1 else if k2=.W then zhT k1 p1 p2 else above p1 p2 || above p2 p1
def zjb (k:Knd) (g p:Pl) (lab:Bool):Bool:=match k with
 | .W=>decide (p=g) && !lab
 | .F=>decide (g.length<=p.length) && decide (p.take g.length=g)
 | .B=>if p.length=g.length then false else decide (g.length<=p.length) && decide (p.take g.length=g)
def zuO (k1:Knd) (p1:Pl) (k2:Knd) (p2 p:Pl) (lab:Bool):Bool:=zjb k1 p1 p lab && zjb k2 p2 p lab
def comp {p1 p2 p:Pl} (h1:p1 <+: p) (h2:p2 <+: p):p1 <+: p2\/p2 <+: p1:=by
 by_cases h:p1.length<=p2.length
 ·exact .inl (List.prefix_of_prefix_length_le h1 h2 h)
 ·exact .inr (List.prefix_of_prefix_length_le h2 h1 (by omega))
end M24
namespace M25
open PySem L2 Lb PL MT MS M04 M70 M71 M72 M74 M76
def wd (t:Tr) (q:Pl):Option Pl:=(zu t q).map Tr.wds
def zfy (t:Tr):wd t []=some t.wds:=rfl
theorem zi5 (t:Tr) (l:List Nat) (q:Pl):wd t (l :: q)=match zo l t.kds with
  | some k=>wd k q
  | none=>none:=by
 unfold wd; simp only [zu]
 cases zo l t.kds <;> rfl
def zbY {t:Tr} {l:List Nat} {q:Pl}:wd t (l :: q)=(zo l t.kds).bind fun k=>wd k q:=by
 rw [zi5]; cases zo l t.kds <;> rfl
def zmX {t:Tr} {l:List Nat}:(wd t [l]).isSome=true↔l ∈ zaF t.kds:=by
 rw [zbY]
 cases h:zo l t.kds with
 | none =>
  have:=zdh.mp h
  simp [this]
 | some k =>
  have:=zbU h
  simp [zfy]; rw [<- this.2]; exact yx this.1
theorem zg7 {c d:Nat}:∀ {n m:Nat} {t u:Tr},Wf c n t->Wf d m u->(∀ l q,wd t (l :: q)=wd u (l :: q))->t.kds=u.kds
 | 0,_,t,u,h,_,_=>by obtain ⟨_,z⟩:=h.pos; cases z
 | _,0,t,u,_,h,_=>by obtain ⟨_,z⟩:=h.pos; cases z
 | n+1,m+1,t,u,h1,h2,h=>by
  have go:∀ {c d n m:Nat} {t u:Tr},Wf c (n+1) t->Wf d (m+1) u->(∀ l q,wd t (l :: q)=wd u (l :: q))->(∀ {a b:Tr},Wf c n a->Wf d m b->(∀ l q,wd a (l :: q)=wd b (l :: q))->a.kds=b.kds)->∀ x ∈ t.kds,x ∈ u.kds:=by
   intro c d n m t u h1 h2 h ih x hx; have e1:=zbv h1.nd hx
   have hs:(wd u [x.lab]).isSome=true:=by rw [<- h]; exact zmX.mpr (yx hx)
   obtain ⟨y,e2⟩:=zfd (zmX.mp hs); have hy:=zbU e2
   have hw:∀ q,wd x q=wd y q:=fun q=>by
    have:=h x.lab q
    rw [zbY,zbY,e1,e2] at this; exact this
   have hk:=ih (h1.kid x hx) (h2.kid y hy.1) fun l q=>hw (l :: q)
   have hww:=hw []; rw [zfy,zfy] at hww; obtain ⟨xl,xw,xk⟩:=x; obtain ⟨yl,yw,yk⟩:=y
   have a1:yl=xl:=hy.2
   have a2:xw=yw:=Option.some.inj hww
   have a3:xk=yk:=hk
   subst a1; subst a2; subst a3
   exact hy.1
  refine zm7 h1.ris h2.ris fun x=>⟨go h1 h2 h (fun a b e=>zg7 a b e) x,go h2 h1 (fun l q=>(h l q).symm) (fun a b e=>(zg7 b a fun l q=>(e l q).symm).symm) x⟩
def zmY {c d n m:Nat} {t u:Tr} (h1:Wf c n t) (h2:Wf d m u) (hl:t.lab=u.lab) (h:∀ q,wd t q=wd u q):t=u:=by
 have hk:=zg7 h1 h2 fun l q=>h (l :: q)
 have hw:=h []; rw [zfy,zfy] at hw; obtain ⟨xl,xw,xk⟩:=t; obtain ⟨yl,yw,yk⟩:=u
 have a1:xl=yl:=hl
 have a2:xw=yw:=Option.some.inj hw
 have a3:xk=yk:=hk
 subst a1; subst a2; subst a3
 rfl
theorem zgC {ws:Pl} {ks:List Tr}:∀ {p:Pl} {t nd:Tr} (q:Pl),zu t p=some nd->wd (zb7 t p ws ks) q=if p <+: q then wd (.node nd.lab ws ks) (q.drop p.length) else wd t q
 | [],t,nd,q,h=>by
  rw [yI (List.nil_prefix)]; cases h; rfl
 | l :: p,t,nd,[],h=>by
  rw [yH (by rintro ⟨r,e⟩; cases e)]
  rfl
 | l :: p,t,nd,m :: q,h=>by
  have hk:∃ k,zo l t.kds=some k/\zu k p=some nd:=by
   simp only [zu] at h
   cases e:zo l t.kds with
   | none=>rw [e] at h; cases h
   | some k=>rw [e] at h; exact ⟨k,rfl,h⟩
  obtain ⟨k,e,hn⟩:=hk
  have e1:wd (zb7 t (l :: p) ws ks) (m :: q)=(zo m t.kds).bind fun x=>wd (if x.lab=l then zb7 x p ws ks else x) q:=by
   rw [zbY]
   show (zo m (t.kds.map fun k=>if k.lab=l then zb7 k p ws ks else k)).bind _=_
   rw [M73.kw_made]
   cases zo m t.kds <;> rfl
  rw [e1]
  by_cases hm:m=l
  ·subst hm
   rw [e]; have hl:=(zbU e).2
   show wd (if k.lab=m then zb7 k p ws ks else k) q=_
   rw [yI hl,zgC q hn]
   by_cases hp:p <+: q
   ·rw [yI hp,yI (by obtain ⟨r,e⟩:=hp; exact ⟨r,by rw [List.cons_append,e]⟩)]
    rfl
   ·rw [yH hp,yH (by rintro ⟨r,e⟩; exact hp ⟨r,(List.cons.inj e).2⟩),zbY,e]
    rfl
  ·rw [yH (by rintro ⟨r,e⟩; exact hm (List.cons.inj e).1.symm),zbY]
   cases e2:zo m t.kds with
   | none=>rfl
   | some x =>
    have hl:=(zbU e2).2
    show wd (if x.lab=l then zb7 x p ws ks else x) q=_
    rw [yH (by rw [hl]; exact hm)]
    rfl
def zi6 (t:Tr) (p r:Pl):wd t (p ++ r)=(zu t p).bind fun x=>wd x r:=by
 unfold wd; rw [M87.node_app]
 cases zu t p <;> rfl
mutual
def dpt:Tr->Nat
 | .node _ _ ks=>1+zt6 ks
def zt6:List Tr->Nat
 | []=>0
 | k :: ks=>max (dpt k) (zt6 ks)
end
inductive Cg where
 | swap (p o n:Pl) | read (p ws:Pl) | put (p:Pl) (k:Tr) | out (p:Pl) | anew (p:Pl)
def zuA:Cg->Pl
 | .swap p _ _=>p
 | .read p _=>p
 | .put p _=>p
 | .out p=>p
 | .anew p=>p
def kd':Cg->M24.Knd
 | .swap _ _ _=>.W
 | .read _ _=>.W
 | .put _ _=>.F
 | .out _=>.F
 | .anew _=>.B
def gl':Cg->Pl
 | .swap p _ _=>p
 | .read p _=>p
 | .put p k=>p ++ [k.lab]
 | .out p=>p
 | .anew p=>p
def zfD:List Nat:=[112,108,97,99,101]
def zpS:List Nat:=[119,111,114,100,115]
def zpV:List Nat:=[116,119,105,99,101]
def zpX:List Nat:=[116,104,101,114,101]
def zsy:List Nat:=[100,101,101,112]
def zpT:List Nat:=[119,104,111,108,101]
def rs (t:Tr):Cg->Option (List Nat)
 | .swap p o _=>match wd t p with
  | none=>some zfD
  | some ws=>if (zjh ws o).length=0 then some zpS else if (zjh ws o).length > 1 then some zpV else none
 | .read p _=>if (wd t p).isSome=true then none else some zfD
 | .put p k=>if (wd t p).isSome=true then (if (wd t (p ++ [k.lab])).isSome=true then some zpX else if 9<p.length+1+dpt k then some zsy else none) else some zfD
 | .out p=>if p=[] then some zpT else if (wd t p).isSome=true then none else some zfD
 | .anew p=>if (wd t p).isSome=true then none else some zfD
structure Ok (c:Cg):Prop where
 len:(zuA c).length<=9
 put:∀ p k,c=.put p k->zv k.lab=true/\(∃ n,n<=9/\Wf 1 n k)/\cnt k<=9
 rd:∀ p ws,c=.read p ws->ws.length<=6
 sw:∀ p o n,c=.swap p o n->o.length<=6/\n.length<=6
def zh1 {p q r:Pl} (e:p ++ r=q):q.drop p.length=r:=by rw [<- e]; simp
def zk9 {t nd:Tr} {p ws:Pl} (h:zu t p=some nd) (q:Pl):wd (zb7 t p ws nd.kds) q=if q=p then some ws else wd t q:=by
 rw [zgC q h]
 by_cases hp:p <+: q
 ·obtain ⟨r,e⟩:=hp
  rw [yI ⟨r,e⟩,zh1 e]
  cases r with
  | nil =>
   rw [yd] at e; rw [yI e.symm]; rfl
  | cons l r =>
   rw [yH (by rw [<- e]; intro z; have:=ym List.length z; simp at this),<- e,zi6,h]
   show wd (.node nd.lab ws nd.kds) (l :: r)=wd nd (l :: r)
   rw [zbY,zbY]; rfl
 ·rw [yH hp,yH (fun z=>hp (by rw [z]; exact List.prefix_refl _))]
def znS {c n:Nat} {t nd k:Tr} {p:Pl} (w:Wf c n t) (h:zu t p=some nd) (hk:zo k.lab nd.kds=none) (hp:zv k.lab=true) (q:Pl):wd (zb7 t p nd.wds (zdt (nd.kds ++ [k]))) q=if p ++ [k.lab] <+: q then wd k (q.drop (p.length+1)) else wd t q:=by
 have wn:=(w.at h).2; have hnd:=zjm wn.nd hk
 have ok:=zfe (ks:=nd.kds ++ [k]) fun x hx=>by
  rcases yb.mp hx with z | z
  ·exact wn.plab x z
  ·rw [yc.mp z]; exact hp
 rw [zgC q h]
 by_cases hpq:p <+: q
 ·obtain ⟨r,e⟩:=hpq
  rw [yI ⟨r,e⟩,zh1 e]
  cases r with
  | nil =>
   rw [yd] at e; subst e
   rw [yH (by rintro ⟨z,y⟩; have:=ym List.length y; simp at this)]
   unfold wd; rw [h]; rfl
  | cons l r =>
   have e2:q.drop (p.length+1)=r:=by rw [<- e,show p ++ l :: r=(p ++ [l]) ++ r by simp]; exact List.drop_left' (by simp)
   have kk:zo l (zdt (nd.kds ++ [k]))=if l=k.lab then some k else zo l nd.kds:=by
    have h1:zo l (zdt (nd.kds ++ [k]))=zo l (nd.kds ++ [k]):=znh ok.nd hnd fun x _=>zf9 hnd
    rw [h1]
    unfold zo at hk ⊢
    rw [List.find?_append]
    by_cases z:l=k.lab
    ·rw [yI z,z,hk]
     simp
    ·rw [yH z]
     cases List.find? (fun x=>decide (x.lab=l)) nd.kds with
     | some y=>rfl
     | none=>simpa using fun y:k.lab=l=>z y.symm
   rw [zbY]
   show (zo l (zdt (nd.kds ++ [k]))).bind _=_
   rw [kk]
   by_cases z:l=k.lab
   ·rw [yI z,yI (by rw [<- e,z]; exact ⟨r,by simp⟩),e2]
    rfl
   ·rw [yH z,yH (by rintro ⟨s,y⟩; rw [<- e,YF] at y; exact z (List.cons.inj (List.append_cancel_left y)).1.symm),<- e,zi6,h]
    show _=wd nd (l :: r)
    rw [zbY]
 ·rw [yH hpq,yH (fun ⟨s,y⟩=>hpq ⟨[k.lab] ++ s,by rw [<- y]; simp⟩)]
def Apart (c c':Cg):Prop:=M24.common (kd' c) (gl' c) (kd' c') (gl' c')=false
end M25
namespace M06
open PySem L2 Lb PL MT MS M04 M70 M71 M72 M74 M76 M25
structure NW (ns:Nd):Prop where
 ok:NOk ns
 wd:∀ x ∈ ns,x.2.length<=4
theorem zhO:∀ {ns:Nd} {p ws:Pl},ns.lookup p=some ws->(p,ws) ∈ ns
 | x :: r,p,ws,h=>by
  obtain ⟨a,b⟩:=x; rw [yi] at h
  by_cases e:p=a
  ·subst e
   simp at h
   subst h; exact yU
  ·rw [show (p == a)=false from beq_eq_false_iff_ne.mpr e] at h
   exact yO _ (zhO h)
theorem zbg:∀ {ns:Nd} {p:Pl},p ∈ keys ns↔(ns.lookup p).isSome=true
 | [],p=>by simp [keys]
 | x :: r,p=>by
  obtain ⟨a,b⟩:=x; rw [yi]
  by_cases e:p=a
  ·subst e
   simp [keys]
  ·rw [show (p == a)=false from beq_eq_false_iff_ne.mpr e]
   have:=zbg (ns:=r) (p:=p)
   simp only [keys,yX,yQ,e,false_or] at this ⊢; exact this
def ziB {ns:Nd} {p:Pl} (h:p ∈ keys ns):ns.lookup p=some (zdC ns p):=by
 obtain ⟨w,e⟩:=YR.mp (zbg.mp h); unfold zdC; rw [e]; rfl
def zhh {ns:Nd} (o:NW ns) (p:Pl):(zdC ns p).length<=4:=by
 unfold zdC
 cases h:ns.lookup p with
 | none=>simp
 | some ws=>exact o.wd _ (zhO h)
def zlf (n:Nat) (ns:Nd) (p:Pl):(zE n ns p).wds=zdC ns p:=by cases n <;> rfl
def zc0 {ns:Nd} (o:NOk ns) (q:Pl):wd (zE 9 ns []) q=ns.lookup q:=by
 unfold wd
 rw [zdQ o q [] 9 (by simp) o.nil]
 rw [Yn]; split
 ·rename_i h
  rw [ziB h]
  show some (zE _ ns q).wds=_
  rw [zlf]
 ·rename_i h
  cases e:ns.lookup q with
  | none=>rfl
  | some w=>exact yP (zbg.mpr (by rw [e]; rfl)) h
theorem zdf {α β:Type} {f:α->β}:∀ {l:List α},l.Nodup->(∀ a ∈ l,∀ b ∈ l,f a=f b->a=b)->(l.map f).Nodup
 | [],_,_=>List.nodup_nil
 | x :: l,h,hi=>by
  rw [Ym] at h; rw [yX,Ym]
  refine ⟨fun z=>?_,zdf h.2 fun a ha b hb=>hi a (yO _ ha) b (yO _ hb)⟩
  obtain ⟨y,hy,e⟩:=yh.mp z; rw [hi y (yO _ hy) x yU e] at hy; exact h.1 hy
def zlj {α β:Type} (f:α->β) (lt:Nat->Nat->Bool) (d:α) (ps:List α):(srt lt d ps).map f=srt lt (f d) (ps.map f):=by
 unfold srt; rw [yG]; split
 ·rfl
 ·rw [YH]
  refine Yf fun i _=>?_
  simp [List.getD,yK]
def zj8 (ns:Nd) (n:Nat) (p:Pl):zaF ((za9 ns p).map (zE n ns))=zlp ((zbz ns p).map zaf):=by
 unfold zaF; rw [YH]
 have e:(Tr.lab ∘ zE n ns)=zaf:=by funext q; exact zbl n ns q
 rw [e]; unfold za9 zlp; rw [zlj,YH]; rfl
theorem zbD {ns:Nd} (o:NW ns):∀ (n:Nat) (p:Pl),p ∈ keys ns->8<=p.length+n->Wf 120 (9-p.length) (zE n ns p)
 | 0,p,hp,h8=>by
  have:=o.ok.len p hp
  rw [show 9-p.length=1 by omega]
  have:=zhh o p
  exact zj0 (by omega)
 | n+1,p,hp,h8=>by
  have hl8:=o.ok.len p hp
  rw [show 9-p.length=(8-p.length)+1 by omega]
  have hf:∀ q ∈ zbz ns p,q ∈ keys ns/\q=p ++ [zaf q]:=fun q hq=>zb6.mp hq
  have hw:=zhh o p; have hkl:=o.ok.few p
  have hsl:(za9 ns p).length=(zbz ns p).length:=zjf (zgT _) _ _
  refine .mk' (fun k hk=>?_) (fun k hk=>?_) ?_ (by show ((za9 ns p).map _).length<=_; rw [yG]; omega) (by show (zdC ns p).length<=_; omega)
  ·obtain ⟨q,hq,rfl⟩:=yh.mp hk
   have hm:=zbO.mp hq; have hl:=zka hq; have hq8:=o.ok.len q hm.1
   have:=zbD o n q hm.1 (by omega)
   rw [hl,show 9-(p.length+1)=8-p.length by omega] at this
   exact this
  ·obtain ⟨q,hq,rfl⟩:=yh.mp hk
   have hm:=zbO.mp hq; rw [zbl]
   exact o.ok.lab q hm.1 (zaf q) (by rw [hm.2,zaU]; simp)
  ·show Ris (zaF ((za9 ns p).map (zE n ns)))
   rw [zj8]
   refine zfI ?_ fun l hl=>?_
   ·refine zdf (o.ok.nd.sublist List.filter_sublist) fun a ha b hb e=>?_
    rw [(hf a ha).2,(hf b hb).2,e]
   ·obtain ⟨q,hq,rfl⟩:=yh.mp hl
    exact o.ok.lab q (hf q hq).1 (zaf q) (by rw [(hf q hq).2,zaU]; simp)
def putN (ns:Nd) (q ws:Pl):Nd:=if q ∈ keys ns then ns.map (fun x=>if x.1=q then (q,ws) else x) else ns ++ [(q,ws)]
def zfg (ns:Nd) (q ws:Pl):keys (putN ns q ws)=if q ∈ keys ns then keys ns else keys ns ++ [q]:=by
 unfold putN; split
 ·unfold keys
  rw [YH]
  refine Yf fun x _=>?_
  show (if x.1=q then (q,ws) else x).1=x.1
  split
  ·rename_i h; exact h.symm
  ·rfl
 ·simp [keys]
def zjV {ns:Nd} {q ws x:Pl}:x ∈ keys (putN ns q ws)↔x ∈ keys ns\/x=q:=by
 rw [zfg]; split
 ·rename_i h
  exact ⟨.inl,fun z=>z.elim id fun e=>e ▸ h⟩
 ·simp
def zoP (ns:Nd) (q ws:Pl):(putN ns q ws).length<=ns.length+1:=by
 unfold putN; split
 ·rw [yG]; omega
 ·simp
theorem zhP (q ws:Pl):∀ (ns:Nd) (x:Pl),(ns.map fun y=>if y.1=q then (q,ws) else y).lookup x=if x=q then (if q ∈ keys ns then some ws else none) else ns.lookup x
 | [],x=>by simp [keys]
 | y :: ns,x=>by
  obtain ⟨a,b⟩:=y; rw [yX,yi]; have ih:=zhP q ws ns x
  by_cases e:a=q
  ·subst e
   rw [yI rfl]
   by_cases ex:x=a
   ·subst ex
    simp [keys]
   ·rw [show (x == a)=false from beq_eq_false_iff_ne.mpr ex,yi,show (x == a)=false from beq_eq_false_iff_ne.mpr ex,yH ex]
    dsimp only
    rw [ih,yH ex]
  ·rw [yH e]
   by_cases ex:x=a
   ·subst ex
    rw [yH e,yi]; simp
   ·rw [show (x == a)=false from beq_eq_false_iff_ne.mpr ex,yi,show (x == a)=false from beq_eq_false_iff_ne.mpr ex]
    dsimp only
    rw [ih]
    have:(q ∈ keys ((a,b) :: ns))↔q ∈ keys ns:=by
     simp only [keys,yX,yQ]
     exact ⟨fun z=>z.elim (fun y=>yP y.symm e) id,.inr⟩
    simp only [this]
def zhN (ns:Nd) (q ws x:Pl):(putN ns q ws).lookup x=if x=q then some ws else ns.lookup x:=by
 unfold putN; split
 ·rename_i h
  rw [zhP,yI h]
 ·rename_i h
  rw [List.lookup_append]
  by_cases e:x=q
  ·subst e
   rw [yI rfl]
   have:ns.lookup x=none:=by
    cases z:ns.lookup x with
    | none=>rfl
    | some w=>exact yP (zbg.mpr (by rw [z]; rfl)) h
   rw [this]; simp
  ·rw [yH e]
   have:List.lookup x [(q,ws)]=none:=by
    rw [yi,show (x == q)=false from beq_eq_false_iff_ne.mpr e]
    rfl
   rw [this]
   cases ns.lookup x <;> rfl
def zff (ns:Nd) (p:Pl):(zbz ns p).length<=ns.length:=by
 have h1:=List.length_filter_le (fun q:Pl=>decide (q.length=p.length+1) && decide (q.dropLast=p)) (keys ns)
 have h2:(keys ns).length=ns.length:=by unfold keys; rw [yG]
 unfold zbz; omega
def zfC {ns:Nd} (o:NOk ns) {p:Pl} (h:p ∈ keys ns):zu (zE 9 ns []) p=some (zE (9-p.length) ns p):=by
 rw [zdQ o p [] 9 (by simp) o.nil,Yn,yI h]
def zl9 {ns:Nd} (o:NOk ns) {p:Pl}:(zu (zE 9 ns []) p).isSome=true↔p ∈ keys ns:=by
 rw [zbg,<- zc0 o p]; unfold wd; simp
section
variable {ns:Nd} {p:Pl} {k:Tr}
end
end M06
set_option maxHeartbeats 1000000
namespace TS
open PySem PySem.W PyProof.Rows
structure Cmp (prog:Program) (w:World) (A:Around) (κ:SortKind) (El:Keyed->Prop) (R:Keyed->Keyed->Bool) (J:Shared->Prop):Prop where
 lt:∀ x y,El x->El y->∀ s,J s->wpAny (model prog w) A (keyLt' κ x.1 y.1) (fun b s'=>b=R x y/\J s') (fun _ _=>False) s
def T (prog:Program) (w:World) (A:Around) (E:Value->Shared->Prop) (J:Shared->Prop) {α:Type} (m:StateT SortSt Sem α) (Q:α->SortSt->Prop) (st:SortSt):Prop :=
 ∀ s,J s->kasC (model prog w) A E m (fun a st' s'=>Q a st'/\J s') st s
@[reducible] def zkN {β:Type} (D Y:β->SortSt->Prop):ForInStep β->SortSt->Prop
 | .done b,s=>D b s
 | .yield b,s=>Y b s
section
variable {J:Shared->Prop} {κ:SortKind} {El:Keyed->Prop} {R:Keyed->Keyed->Bool}
def zt {α:Type} {a:α} {Q:α->SortSt->Prop} {st:SortSt} (h:Q a st):T prog w A E J (pure a) Q st:=fun s hs=>kasC_pure ⟨h,hs⟩
def zp {α β:Type} {m:StateT SortSt Sem α} {f:α->StateT SortSt Sem β} {Q:β->SortSt->Prop} {st:SortSt} (h:T prog w A E J m (fun a st'=>T prog w A E J (f a) Q st') st):T prog w A E J (m >>= f) Q st:=fun s hs =>
 kasC_bind (yf (h s hs) (fun r s' h'=>h'.1 s' h'.2) fun _ _ e=>e)
def zeo {Q:SortSt->SortSt->Prop} {st:SortSt} (h:Q st st):T prog w A E J (get:StateT SortSt Sem SortSt) Q st:=fun s hs=>kasC_get ⟨h,hs⟩
def zaO {f:SortSt->SortSt} {Q:PUnit->SortSt->Prop} {st:SortSt} (h:Q ⟨⟩ (f st)):T prog w A E J (modify f) Q st:=fun s hs=>kasC_modify ⟨h,hs⟩
def zeF {n:String} {Q:Unit->SortSt->Prop} {st:SortSt} (h:Q () st):T prog w A E J (liftM (rule n:Sem Unit)) Q st:=fun s hs=>kasC_lift (wpAny_rule ⟨h,hs⟩)
def zaM {α:Type} {m:StateT SortSt Sem α} {Q Q':α->SortSt->Prop} {st:SortSt} (h:T prog w A E J m Q st) (hq:∀ a st',Q a st'->Q' a st'):T prog w A E J m Q' st:=fun s hs=>yf (h s hs) (fun r s' h'=>⟨hq _ _ h'.1,h'.2⟩) fun _ _ e=>e
def zrC (c:Cmp prog w A κ El R J) {x y:Keyed} {Q:Option Bool->SortSt->Prop} {st:SortSt} (hk:kindOf st=κ) (hx:El x) (hy:El y) (h:Q (some (R x y)) st):T prog w A E J (lt' x y) Q st:=fun s hs=>by
 rw [lt'_eq]; refine kasC_bind (kasC_get ?_); rw [hk]
 refine kasC_bind (kasC_lift (Yz (yf (c.lt x y hx hy s hs) (fun b s' hb=>?_) fun _ _ hF=>hF.elim)))
 rw [hb.1]; exact kasC_pure ⟨h,hb.2⟩
def zax {arr:Array Keyed} {i:Nat} {x:Keyed} {Q:Keyed->SortSt->Prop} {st:SortSt} (hi:arr[i]?=some x) (h:Q x st):T prog w A E J (elem' arr i) Q st:=fun s hs=>by
 rw [elem'_eq,hi]; exact kasC_pure ⟨h,hs⟩
theorem znH {β:Type} {f:Nat->β->StateT SortSt Sem (ForInStep β)} {Q:β->SortSt->Prop} (I:Nat->β->SortSt->Prop)
  (step:∀ r x b st,I (r+1) b st->T prog w A E J (f x b) (zkN Q (I r)) st)
  (fin:∀ b st,I 0 b st->Q b st):∀ (l:List Nat) (b:β) (st:SortSt),I l.length b st->T prog w A E J (forIn l b f) Q st
 | [],b,st,h=>fun s hs=>kasC_nil ⟨fin b st h,hs⟩
 | x :: l,b,st,h=>fun s hs=>kasC_cons (yf (step l.length x b st h s hs) (fun r s' h'=>by
   obtain ⟨z,st'⟩:=r
   cases z with
   | done b'=>exact h'
   | yield b'=>exact znH I step fin l b' st' h'.1 s' h'.2) fun _ _ e=>e)
def zaB {β:Type} {f:Nat->β->StateT SortSt Sem (ForInStep β)} {Q:β->SortSt->Prop} {a b:Nat} {c:β} {st:SortSt} (I:Nat->β->SortSt->Prop) (h:I (b-a) c st)
  (step:∀ r x b st,I (r+1) b st->T prog w A E J (f x b) (zkN Q (I r)) st)
  (fin:∀ b st,I 0 b st->Q b st):T prog w A E J (forIn [a:b] c f) Q st:=fun s hs=>kasC_range (znH I step fin _ c st (by rw [List.length_range']; exact h) s hs)
end
def zkh:Bool->Keyed->Array Keyed->Nat->Nat->Nat->StateT SortSt Sem (Option Nat):=sortPriv% PySem.Builtin.gallop
section
variable {J:Shared->Prop} {κ:SortKind} {El:Keyed->Prop} {R:Keyed->Keyed->Bool}
def byd (R:Keyed->Keyed->Bool) (left:Bool) (key x:Keyed):Bool:=if left then R x key else !(R key x)
def zck (c:Cmp prog w A κ El R J) {left:Bool} {key:Keyed} {arr:Array Keyed} {base n hint k:Nat} {st:SortSt} {Q:Option Nat->SortSt->Prop} (hk:kindOf st=κ) (he:El key) (ha:∀ i,i<n->∃ x,arr[base+i]?=some x/\El x/\(byd R left key x=true↔i<k)) (hh:hint<n) (hkn:k<=n)
  (h:Q (some k) st):T prog w A E J (zkh left key arr base n hint) Q st:=by
 have bey:∀ (i:Nat) {Q':Option Bool->SortSt->Prop},i<n->Q' (some (decide (i<k))) st->T prog w A E J (do let x <- elem' arr (base+i); if left=true then lt' x key else do let r <- lt' key x; pure (r.map (!·))) Q' st:=by
  intro i Q' hi hq; obtain ⟨x,e1,e2,e3⟩:=ha i hi; refine zp (zax e1 ?_)
  cases left with
  | true =>
   rw [yI rfl]; refine zrC c hk e2 he ?_
   have:R x key=decide (i<k):=by
    unfold byd at e3; rw [yI rfl] at e3
    by_cases z:i<k
    ·rw [e3.mpr z,YD z]
    ·rw [Yc.mpr fun y=>z (e3.mp y),yY z]
   rw [this]; exact hq
  | false =>
   rw [yH (by decide)]
   refine zp (zrC c hk he e2 (zt ?_))
   have:(!(R key x))=decide (i<k):=by
    unfold byd at e3
    rw [yH (by decide)] at e3
    by_cases z:i<k
    ·rw [e3.mpr z,YD z]
    ·rw [Yc.mpr fun y=>z (e3.mp y),yY z]
   show Q' (some (!(R key x))) st
   rw [this]; exact hq
 unfold zkh; refine zp (bey hint hh ?_)
 dsimp only
 by_cases hr:hint<k
 ·rw [yI (YD hr)]
  refine zp (zaM (zaB (Q:=fun b s1=>s1=st/\b.1=none/\hint+b.2.1<k/\(k<=hint+b.2.2\/n-hint<=b.2.2)) (I:=fun r (b:Option (Option Nat) × Nat × Nat) s1=>s1=st/\b.1=none/\b.2.1<b.2.2/\hint+b.2.1<k/\n<=b.2.2+r) ⟨rfl,rfl,by decide,by dsimp only; omega,by dsimp only; omega⟩ (step:=?st1) (fin:=?fi1)) ?re1)
  case st1 =>
   rintro r x ⟨b0,lo,ofs⟩ s1 ⟨e1,e2,h1,h2,h3⟩
   dsimp only at e2 h1 h2 h3 ⊢
   rw [e1]; split
   ·exact zt ⟨rfl,rfl,h2,.inr (by dsimp only; omega)⟩
   ·refine zp (bey _ (by omega) ?_)
    dsimp only
    by_cases z:hint+ofs<k
    ·rw [YD z]
     exact zt ⟨rfl,rfl,by dsimp only; omega,z,by dsimp only; omega⟩
    ·rw [yY z]
     exact zt ⟨rfl,rfl,h2,.inl (by dsimp only; omega)⟩
  case fi1 =>
   rintro ⟨b0,lo,ofs⟩ s1 ⟨e1,e2,h1,h2,h3⟩
   exact ⟨e1,e2,h2,.inr (by dsimp only at h3 ⊢; omega)⟩
  case re1 =>
   rintro ⟨b0,lo,ofs⟩ s1 ⟨e1,e2,h1,h2⟩
   dsimp only at e2 h1 h2 ⊢
   rw [e1,e2]
   refine zp (zaM (zaB (Q:=fun b s1=>s1=st/\b.1=none/\b.2.2=k) (I:=fun r (b:Option (Option Nat) × Nat × Nat) s1=>s1=st/\b.1=none/\b.2.1<=k/\k<=b.2.2/\b.2.2<=n/\b.2.2<=b.2.1+r) ⟨rfl,rfl,by dsimp only; omega,by dsimp only; omega,by dsimp only; omega,by dsimp only; omega⟩ (step:=?st4) (fin:=?fi4)) ?re4)
   case st4 =>
    rintro r x ⟨b0,lo,hi⟩ s1 ⟨e1,e2,h1,h2,h3,h4⟩
    dsimp only at e2 h1 h2 h3 h4 ⊢
    rw [e1]; split
    ·exact zt ⟨rfl,rfl,by dsimp only; omega⟩
    ·refine zp (bey _ (by omega) ?_)
     dsimp only
     by_cases z:lo+(hi-lo) / 2<k
     ·rw [YD z,yI rfl]
      exact zt ⟨rfl,rfl,by dsimp only; omega,h2,h3,by dsimp only; omega⟩
     ·rw [yY z,yH (by decide)]
      exact zt ⟨rfl,rfl,h1,by dsimp only; omega,by dsimp only; omega,by dsimp only; omega⟩
   case fi4 =>
    rintro ⟨b0,lo,hi⟩ s1 ⟨e1,e2,h1,h2,h3,h4⟩
    exact ⟨e1,e2,by dsimp only at h1 h2 h4 ⊢; omega⟩
   case re4 =>
    rintro ⟨b0,lo,hi⟩ s1 ⟨e1,e2,h1⟩
    dsimp only at e2 h1 ⊢
    rw [e1,e2,h1]; exact zt h
 ·rw [yH (by rw [yY hr]; decide)]
  refine zp (zaM (zaB (Q:=fun b s1=>s1=st/\b.1=none/\k<=hint-b.2.1/\b.2.1<=hint/\(hint-b.2.2<k/\b.2.2<=hint\/hint+1<=b.2.2)) (I:=fun r (b:Option (Option Nat) × Nat × Nat) s1=>s1=st/\b.1=none/\b.2.1<b.2.2/\k<=hint-b.2.1/\b.2.1<=hint/\n<=b.2.2+r) ⟨rfl,rfl,by decide,by dsimp only; omega,by dsimp only; omega,by dsimp only; omega⟩ (step:=?st3) (fin:=?fi3)) ?re3)
  case st3 =>
   rintro r x ⟨b0,lo,ofs⟩ s1 ⟨e1,e2,h1,h2,h3,h4⟩
   dsimp only at e2 h1 h2 h3 h4 ⊢
   rw [e1]; split
   ·exact zt ⟨rfl,rfl,h2,h3,.inr (by dsimp only; omega)⟩
   ·refine zp (bey _ (by omega) ?_)
    dsimp only
    by_cases z:hint-ofs<k
    ·rw [YD z]
     exact zt ⟨rfl,rfl,h2,h3,.inl ⟨z,by dsimp only; omega⟩⟩
    ·rw [yY z]
     exact zt ⟨rfl,rfl,by dsimp only; omega,by dsimp only; omega,by dsimp only; omega,by dsimp only; omega⟩
  case fi3 =>
   rintro ⟨b0,lo,ofs⟩ s1 ⟨e1,e2,h1,h2,h3,h4⟩
   exact ⟨e1,e2,h2,h3,.inr (by dsimp only at h4 ⊢; omega)⟩
  case re3 =>
   rintro ⟨b0,lo,ofs⟩ s1 ⟨e1,e2,h1,h2,h3⟩
   dsimp only at e2 h1 h2 h3 ⊢
   rw [e1,e2]
   refine zp (zaM (zaB (Q:=fun b s1=>s1=st/\b.1=none/\b.2.2=k) (I:=fun r (b:Option (Option Nat) × Nat × Nat) s1=>s1=st/\b.1=none/\b.2.1<=k/\k<=b.2.2/\b.2.2<=n/\b.2.2<=b.2.1+r) ⟨rfl,rfl,by dsimp only; omega,by dsimp only; omega,by dsimp only; omega,by dsimp only; omega⟩ (step:=?st5) (fin:=?fi5)) ?re5)
   case st5 =>
    rintro r x ⟨b0,lo,hi⟩ s1 ⟨e1,e2,h1,h2,h3,h4⟩
    dsimp only at e2 h1 h2 h3 h4 ⊢
    rw [e1]; split
    ·exact zt ⟨rfl,rfl,by dsimp only; omega⟩
    ·refine zp (bey _ (by omega) ?_)
     dsimp only
     by_cases z:lo+(hi-lo) / 2<k
     ·rw [YD z,yI rfl]
      exact zt ⟨rfl,rfl,by dsimp only; omega,h2,h3,by dsimp only; omega⟩
     ·rw [yY z,yH (by decide)]
      exact zt ⟨rfl,rfl,h1,by dsimp only; omega,by dsimp only; omega,by dsimp only; omega⟩
   case fi5 =>
    rintro ⟨b0,lo,hi⟩ s1 ⟨e1,e2,h1,h2,h3,h4⟩
    exact ⟨e1,e2,by dsimp only at h1 h2 h4 ⊢; omega⟩
   case re5 =>
    rintro ⟨b0,lo,hi⟩ s1 ⟨e1,e2,h1⟩
    dsimp only at e2 h1 ⊢
    rw [e1,e2,h1]; exact zt h
end
end TS
namespace TS
section
variable {α:Type} {R:α->α->Bool} {la lb out:List α} {ia ib:Nat} {x y:α}
abbrev Up (R:α->α->Bool) (l:List α):Prop:=l.Pairwise fun x y=>R x y=true
structure Ord (R:α->α->Bool) (El:α->Prop):Prop where
 trans:∀ x y z,El x->El y->El z->R x y=true->R y z=true->R x z=true
 total:∀ x y,El x->El y->x≠y->R x y=false->R y x=true
structure Iv (R:α->α->Bool) (la lb out:List α) (ia ib:Nat):Prop where
 ha:ia<=la.length
 hb:ib<=lb.length
 perm:out.Perm (la.take ia ++ lb.take ib)
 up:Up R out
 low:∀ x ∈ out,∀ y ∈ la.drop ia ++ lb.drop ib,R x y=true
def Gd (R:α->α->Bool) (la lb out:List α):Prop:=out.Perm (la ++ lb)/\Up R out
def Iv.len (h:Iv R la lb out ia ib):out.length=ia+ib:=by
 rw [h.perm.length_eq,yg,YB,YB]
 have:=h.ha
 have:=h.hb
 omega
def zbj {l:List α} {i:Nat} {x:α} (h:l[i]?=some x):l.drop i=x :: l.drop (i+1):=by
 obtain ⟨hi,e⟩:=yE.mp h; rw [YK hi,e]
def zcG {l:List α} {i:Nat} {x:α} (h:l[i]?=some x):l.take (i+1)=l.take i ++ [x]:=by
 rw [List.take_succ,h]; rfl
def zgD {l:List α} (u:Up R l) (i:Nat):Up R (l.drop i):=List.Pairwise.sublist (List.drop_sublist i l) u
def zeJ {l:List α} (u:Up R l) {i:Nat} {x:α} (h:l[i]?=some x):∀ z ∈ l.drop (i+1),R x z=true:=by
 have:=zgD u i
 rw [zbj h] at this; exact (List.pairwise_cons.mp this).1
def Iv.pushB (h:Iv R la lb out ia ib) (ub:Up R lb) (e:lb[ib]?=some y) (hl:∀ z ∈ la.drop ia,R y z=true):Iv R la lb (out ++ [y]) ia (ib+1):=by
 have hb:=(yE.mp e).1
 refine ⟨h.ha,hb,?_,?_,fun x hx z hz=>?_⟩
 ·rw [zcG e,<- YF]
  exact h.perm.append_right _
 ·refine yt.mpr ⟨h.up,by simp,fun x hx z hz=>?_⟩
  rw [yc.mp hz]
  exact h.low x hx y (by rw [zbj e]; simp)
 ·have hz':z ∈ la.drop ia\/z ∈ lb.drop (ib+1):=yb.mp hz
  rcases yb.mp hx with hx | hx
  ·refine h.low x hx z ?_
   rw [zbj e]
   rcases hz' with q | q
   ·exact YE _ q
   ·exact yV _ (yO _ q)
  ·rw [yc.mp hx]
   rcases hz' with q | q
   ·exact hl z q
   ·exact zeJ ub e z q
def Iv.pushA (h:Iv R la lb out ia ib) (ua:Up R la) (e:la[ia]?=some x) (hl:∀ z ∈ lb.drop ib,R x z=true):Iv R la lb (out ++ [x]) (ia+1) ib:=by
 have ha:=(yE.mp e).1
 refine ⟨ha,h.hb,?_,?_,fun y hy z hz=>?_⟩
 ·rw [zcG e,YF]
  refine (h.perm.append_right [x]).trans ?_; rw [YF]; exact (List.perm_append_comm).append_left _
 ·refine yt.mpr ⟨h.up,by simp,fun y hy z hz=>?_⟩
  rw [yc.mp hz]
  exact h.low y hy x (by rw [zbj e]; simp)
 ·have hz':z ∈ la.drop (ia+1)\/z ∈ lb.drop ib:=yb.mp hz
  rcases yb.mp hy with hy | hy
  ·refine h.low y hy z ?_
   rw [zbj e]
   rcases hz' with q | q
   ·exact YE _ (yO _ q)
   ·exact yV _ q
  ·rw [yc.mp hy]
   rcases hz' with q | q
   ·exact zeJ ua e z q
   ·exact hl z q
theorem Iv.takeA (ua:Up R la) (h:Iv R la lb out ia ib):∀ k:Nat,(∀ i,i<k->∃ x,la[ia+i]?=some x/\∀ z ∈ lb.drop ib,R x z=true)->Iv R la lb (out ++ (la.drop ia).take k) (ia+k) ib
 | 0,_=>by simpa using h
 | k+1,hk=>by
  have ih:=Iv.takeA ua h k fun i hi=>hk i (by omega)
  obtain ⟨x,e,hz⟩:=hk k (by omega)
  have:=ih.pushA ua e hz
  rw [YF,<- zcG (show (la.drop ia)[k]?=some x by rw [Yb]; exact e)] at this
  exact this
theorem Iv.takeB (ub:Up R lb) (h:Iv R la lb out ia ib):∀ k:Nat,(∀ i,i<k->∃ y,lb[ib+i]?=some y/\∀ z ∈ la.drop ia,R y z=true)->Iv R la lb (out ++ (lb.drop ib).take k) ia (ib+k)
 | 0,_=>by simpa using h
 | k+1,hk=>by
  have ih:=Iv.takeB ub h k fun i hi=>hk i (by omega)
  obtain ⟨y,e,hz⟩:=hk k (by omega)
  have:=ih.pushB ub e hz
  rw [YF,<- zcG (show (lb.drop ib)[k]?=some y by rw [Yb]; exact e)] at this
  exact this
def Iv.done (h:Iv R la lb out ia ib) (ua:Up R la) (e:ib=lb.length):Gd R la lb (out ++ la.drop ia ++ lb.drop ib):=by
 subst e; have p:=h.perm; rw [List.take_length] at p; refine ⟨?_,?_⟩
 ·rw [List.drop_length,yd]
  refine (p.append_right _).trans ?_; rw [YF]; refine (List.perm_append_comm.append_left _).trans ?_; rw [<- YF,List.take_append_drop]
 ·rw [List.drop_length,yd]
  exact yt.mpr ⟨h.up,zgD ua _,fun x hx y hy=>h.low x hx y (YE _ hy)⟩
def Iv.last (h:Iv R la lb out ia ib) (ub:Up R lb) (e:ia+1=la.length) (hz:∀ x,la[ia]?=some x->∀ z ∈ lb.drop ib,R z x=true):Gd R la lb (out ++ lb.drop ib ++ la.drop ia):=by
 have hlt:ia<la.length:=by omega
 have e1:la[ia]?=some la[ia]:=yB hlt
 have e2:la.drop ia=[la[ia]]:=by
  rw [zbj e1,YM (by omega)]
 refine ⟨?_,?_⟩
 ·refine ((h.perm.append_right _).append_right _).trans ?_
  rw [YF (la.take ia),List.take_append_drop,YF]; refine (List.perm_append_comm.append_left _).trans ?_; rw [<- YF,List.take_append_drop]
 ·refine yt.mpr ⟨yt.mpr ⟨h.up,zgD ub _,fun x hx y hy=>h.low x hx y (yV _ hy)⟩,by rw [e2]; simp,fun x hx y hy=>?_⟩
  rw [e2] at hy; rw [yc.mp hy]
  rcases yb.mp hx with q | q
  ·exact h.low x q _ (by rw [e2]; simp)
  ·exact hz _ e1 x q
end
end TS
namespace TS
open PySem PySem.W PyProof.Rows
section
variable {α:Type} {R:α->α->Bool} {El:α->Prop} {l:List α}
theorem zhc (p:α->Bool):∀ (l:List α),(∀ (i j:Nat) x y,i<j->l[i]?=some x->l[j]?=some y->p y=true->p x=true)->∃ k,k<=l.length/\∀ (i:Nat) x,l[i]?=some x->(p x=true↔i<k)
 | [],_=>⟨0,yD _,fun i x e=>by simp at e⟩
 | a :: l,h=>by
  obtain ⟨k,h1,h2⟩:=zhc p l fun i j x y hi e1 e2=>h (i+1) (j+1) x y (by omega) (by simpa using e1) (by simpa using e2)
  by_cases ha:p a=true
  ·refine ⟨k+1,by simpa using h1,fun i x e=>?_⟩
   cases i with
   | zero =>
    cases e
    exact ⟨fun _=>by omega,fun _=>ha⟩
   | succ i=>rw [h2 i x (by simpa using e)]; omega
  ·refine ⟨0,yn _,fun i x e=>⟨fun hp=>?_,fun z=>by omega⟩⟩
   cases i with
   | zero=>cases e; exact yP hp ha
   | succ i=>exact yP (h 0 (i+1) a x (by omega) rfl e hp) ha
def zhk (u:Up R l) {i j:Nat} {x y:α} (h:i<j) (e1:l[i]?=some x) (e2:l[j]?=some y):R x y=true:=by
 refine zeJ u e1 y ?_; rw [List.mem_iff_getElem?]
 exact ⟨j-(i+1),by rw [Yb,show i+1+(j-(i+1))=j by omega]; exact e2⟩
def zbP (o:Ord R El) (u:Up R l) (he:∀ x ∈ l,El x) {i:Nat} {x y:α} (hy:El y) (e:l[i]?=some x) (h:R y x=true):∀ z ∈ l.drop i,R y z=true:=fun z hz=>by
 rw [zbj e] at hz
 rcases yQ.mp hz with q | q
 ·rw [q]; exact h
 ·exact o.trans y x z hy (he x (yL e)) (he z (List.mem_of_mem_drop q)) h (zeJ u e z q)
def xtr (a:Array α) (i:Nat):(a.extract i).toList=a.toList.drop i:=by
 simp
 exact yq (by simp)
def xt3 (o a b:Array α) (i j:Nat):(o ++ a.extract i ++ b.extract j).toList=o.toList ++ a.toList.drop i ++ b.toList.drop j:=by
 rw [YO,YO,xtr,xtr]
def xtk (a:Array α) (i k:Nat):(a.extract i (i+k)).toList=(a.toList.drop i).take k:=by
 simp
end
def Sm (st st':SortSt):Prop:=kindOf st'=kindOf st/\arrOf st'=arrOf st/\pendingOf st'=pendingOf st/\failedOf st'=failedOf st
def Sm.refl (st:SortSt):Sm st st:=⟨rfl,rfl,rfl,rfl⟩
abbrev DI (R:Keyed->Keyed->Bool) (la lb:List Keyed) (st:SortSt) (n0 n1 t:Nat) {γ:Type} (r:Nat) (z:Option (Array Keyed) × Array Keyed × Nat × Nat × γ) (s:SortSt):Prop:=Sm st s/\z.1=none/\Iv R la lb z.2.1.toList z.2.2.1 z.2.2.2.1/\z.2.2.1+1<la.length/\z.2.2.2.1<lb.length/\n1<=z.2.1.size/\n0+t<=z.2.1.size+r
abbrev DQ (R:Keyed->Keyed->Bool) (la lb:List Keyed) (st:SortSt) (n0:Nat) {γ:Type} (z:Option (Array Keyed) × Array Keyed × Nat × Nat × γ) (s:SortSt):Prop:=Sm st s/\((∃ r,z.1=some r/\Gd R la lb r.toList)\/(z.1=none/\Iv R la lb z.2.1.toList z.2.2.1 z.2.2.2.1/\z.2.2.1+1<la.length/\z.2.2.2.1<lb.length/\n0+1<=z.2.1.size))
def zhK:Array Keyed->Array Keyed->StateT SortSt Sem (Array Keyed):=sortPriv% PySem.Builtin.mergeLo
section
variable {J:Shared->Prop} {κ:SortKind} {El:Keyed->Prop} {R:Keyed->Keyed->Bool}
def zkH (c:Cmp prog w A κ El R J) (o:Ord R El) {a b:Array Keyed} {st:SortSt} {Q:Array Keyed->SortSt->Prop} (hk:kindOf st=κ) (ea:∀ x ∈ a.toList,El x) (eb:∀ x ∈ b.toList,El x) (ua:Up R a.toList) (ub:Up R b.toList) (na:0<a.size) (nb:0<b.size)
  (h0:∀ x y,b.toList[0]?=some y->a.toList[0]?=some x->R y x=true) (hl:∀ x,a.toList[a.size-1]?=some x->∀ z ∈ b.toList,R z x=true) (dj:∀ x ∈ a.toList,∀ y ∈ b.toList,x≠y)
  (h:∀ r st',Gd R a.toList b.toList r.toList->Sm st st'->Q r st'):T prog w A E J (zhK a b) Q st:=by
 have la:a.toList.length=a.size:=by simp
 have lb:b.toList.length=b.size:=by simp
 have ga:∀ i,i<a.size->∃ x,a[i]?=some x/\a.toList[i]?=some x/\El x/\x ∈ a.toList:=fun i hi=>by
  have e:a.toList[i]?=some (a.toList[i]'(by omega)):=yB _
  exact ⟨_,by rw [<- yR]; exact e,e,ea _ (yL e),yL e⟩
 have gb:∀ i,i<b.size->∃ x,b[i]?=some x/\b.toList[i]?=some x/\El x/\x ∈ b.toList:=fun i hi=>by
  have e:b.toList[i]?=some (b.toList[i]'(by omega)):=yB _
  exact ⟨_,by rw [<- yR]; exact e,e,eb _ (yL e),yL e⟩
 have lst:∀ (i j:Nat) x,i+1=a.size->a.toList[i]?=some x->∀ z ∈ b.toList.drop j,R z x=true:=fun i j x hi e z hz=>hl x (by rw [show a.size-1=i by omega]; exact e) z (List.mem_of_mem_drop hz)
 unfold zhK; refine zp (zeF ?_)
 extract_lets total dn ls
 obtain ⟨y0,e0,e0',ey0,_⟩:=gb 0 nb; obtain ⟨x0,f0,f0',ex0,_⟩:=ga 0 na; refine zp (zax e0 ?_)
 have iv0:Iv R a.toList b.toList (#[y0]:Array Keyed).toList 0 1:=by
  have:Iv R a.toList b.toList [] 0 0:=⟨yn _,yn _,by simp,.nil,fun _ z=>by simp at z⟩
  have:=this.pushB ub e0' (zbP o ua ea ey0 f0' (h0 x0 y0 e0' f0'))
  simpa using this
 extract_lets out ia ib
 split
 ·rename_i hz
  refine zt (h _ _ ?_ (Sm.refl st))
  have e:(1:Nat)=b.size:=by simpa using hz
  have:=iv0.done ua (by rw [lb]; exact e)
  show Gd R _ _ (#[y0] ++ a.extract 0 ++ b.extract 1:Array Keyed).toList
  rw [xt3]; exact this
 ·rename_i hz1
  split
  ·rename_i hz
   refine zt (h _ _ ?_ (Sm.refl st))
   have e:(0:Nat)+1=a.size:=by simpa using hz
   have:=iv0.last ub (by rw [la]; exact e) fun x hx=>lst 0 1 x e hx
   show Gd R _ _ (#[y0] ++ b.extract 1 ++ a.extract 0:Array Keyed).toList
   rw [xt3]; exact this
  ·rename_i hz2
   refine zp (zeo ?_)
   extract_lets mg
   refine zp (zaM (zaB (Q:=fun z s1=>∃ r,z.1=some r/\Gd R a.toList b.toList r.toList/\Sm st s1)
    (I:=fun r (z:Option (Array Keyed) × Array Keyed × Nat × Nat × Nat) s1=>Sm st s1/\z.1=none/\Iv R a.toList b.toList z.2.1.toList z.2.2.1 z.2.2.2.1/\z.2.2.1+1<a.size/\z.2.2.2.1<b.size/\total+1<=z.2.1.size+r)
    ⟨Sm.refl st,rfl,iv0,?i1,?i2,?i3⟩ (step:=?st1) (fin:=?fi1)) ?re1)
   case i1 =>
    have:¬ (0:Nat)+1=a.size:=by simpa using hz2
    show 0+1<a.size
    omega
   case i2 =>
    have:¬ (1:Nat)=b.size:=by simpa using hz1
    show 1<b.size
    omega
   case i3=>show total+1<=1+(total-0); omega
   case fi1 =>
    rintro ⟨z0,out,ia,ib,mg⟩ s1 ⟨hs,e,iv,h1,h2,h3⟩
    have:=iv.len
    dsimp only at h1 h2 h3 this
    have e3:out.toList.length=out.size:=by simp
    have:total=a.size+b.size:=rfl
    omega
   case re1 =>
    rintro ⟨z0,out,ia,ib,mg⟩ s1 ⟨r,e,hg,hs⟩
    dsimp only at e ⊢
    rw [e]; exact zt (h r s1 hg hs)
   case st1 =>
    rintro r x ⟨z0,out0,ia0,ib0,mg0⟩ s1 ⟨hs,e,iv,h1,h2,h3⟩
    dsimp -zeta only at e iv h1 h2 h3 ⊢
    have pB:∀ {out:Array Keyed} {ia ib:Nat} {x y:Keyed},Iv R a.toList b.toList out.toList ia ib->a.toList[ia]?=some x->b.toList[ib]?=some y->El y->R y x=true->Iv R a.toList b.toList (out.push y).toList ia (ib+1):=fun i1 i2 i3 i4 i5=>by
     rw [Array.toList_push]; exact i1.pushB ub i3 (zbP o ua ea i4 i2 i5)
    have pA:∀ {out:Array Keyed} {ia ib:Nat} {x y:Keyed},Iv R a.toList b.toList out.toList ia ib->a.toList[ia]?=some x->b.toList[ib]?=some y->El x->R x y=true->Iv R a.toList b.toList (out.push x).toList (ia+1) ib:=fun i1 i2 i3 i4 i5=>by
     rw [Array.toList_push]; exact i1.pushA ua i2 (zbP o ub eb i4 i3 i5)
    have gD:∀ {out:Array Keyed} {ia ib:Nat},Iv R a.toList b.toList out.toList ia ib->ib=b.size->Gd R a.toList b.toList (dn out ia ib).toList:=fun {out ia ib} i1 i2=>by
     show Gd R _ _ (out ++ a.extract ia ++ b.extract ib:Array Keyed).toList
     rw [xt3]
     exact i1.done ua (by rw [lb]; exact i2)
    have gL:∀ {out:Array Keyed} {ia ib:Nat},Iv R a.toList b.toList out.toList ia ib->ia+1=a.size->Gd R a.toList b.toList (ls out ia ib).toList:=fun {out ia ib} i1 i2=>by
     show Gd R _ _ (out ++ b.extract ib ++ a.extract ia:Array Keyed).toList
     rw [xt3]
     exact i1.last ub (by rw [la]; exact i2) fun x hx=>lst ia ib x i2 hx
    have tot:∀ {x y:Keyed},x ∈ a.toList->y ∈ b.toList->R y x=false->R x y=true:=fun {x y} i1 i2 i3=>o.total y x (eb y i2) (ea x i1) (fun e=>dj x i1 y i2 e.symm) i3
    have lno:∀ {out:Array Keyed} {ia ib:Nat},Iv R a.toList b.toList out.toList ia ib->out.size=ia+ib:=fun i1=>by rw [<- i1.len]; simp
    extract_lets _s1 out1 _s2 ia1 _s3 ib1 mg1
    refine zp (zaM (zaB (Q:=DQ R a.toList b.toList st out0.size)
     (I:=DI R a.toList b.toList st out0.size out0.size total)
     ⟨hs,rfl,iv,h1,h2,yD _,?j1⟩ (step:=?st2) (fin:=?fi2)) ?re2)
    case j1=>show out0.size+total<=out0.size+(total-0); omega
    case fi2 =>
     clear h1 h2 h3
     rintro ⟨z1,out,ia,ib,ac,bc⟩ s2 ⟨hs,e,iv,h1,h2,h3,h4⟩
     have:=lno iv
     dsimp only at h1 h2 h3 h4 this
     have e5:total=a.size+b.size:=rfl
     omega
    case st2 =>
     clear h1 h2 h3 iv
     rintro r2 x2 ⟨z1,out,ia,ib,ac,bc⟩ s2 ⟨hs,e,iv,h1,h2,h3,h4⟩
     dsimp only at e iv h1 h2 h3 h4 ⊢
     obtain ⟨y,y1,y2,y3,y4⟩:=gb ib h2
     obtain ⟨x,x1,x2,x3,x4⟩:=ga ia (by omega)
     refine zp (zax y1 (zp (zax x1 (zp (zrC c (hs.1.trans hk) y3 x3 ?_)))))
     cases hR:R y x with
     | true =>
      dsimp only
      rw [yI rfl]; refine zp (zax y1 ?_); have iv':=pB iv x2 y2 y3 hR; split
      ·rename_i q
       exact zt ⟨hs,.inl ⟨_,rfl,gD iv' (by simpa using q)⟩⟩
      ·rename_i q
       have q':¬ ib+1=b.size:=by simpa using q
       split
       ·exact zt ⟨hs,.inr ⟨rfl,iv',h1,by dsimp only; omega,by dsimp only; rw [Array.size_push]; omega⟩⟩
       ·exact zt ⟨hs,rfl,iv',h1,by dsimp only; omega,by dsimp only; rw [Array.size_push]; omega,by dsimp only; rw [Array.size_push]; omega⟩
     | false =>
      dsimp only
      rw [yH (by decide)]
      refine zp (zax x1 ?_); have iv':=pA iv x2 y2 x3 (tot x4 y4 hR); split
      ·rename_i q
       exact zt ⟨hs,.inl ⟨_,rfl,gL iv' (by simpa using q)⟩⟩
      ·rename_i q
       have q':¬ ia+1+1=a.size:=by simpa using q
       split
       ·exact zt ⟨hs,.inr ⟨rfl,iv',by dsimp only; omega,h2,by dsimp only; rw [Array.size_push]; omega⟩⟩
       ·exact zt ⟨hs,rfl,iv',by dsimp only; omega,h2,by dsimp only; rw [Array.size_push]; omega,by dsimp only; rw [Array.size_push]; omega⟩
    case re2 =>
     clear h1 h2 iv
     rintro ⟨z1,out2,ia2,ib2,ac2,bc2⟩ s2 ⟨hs,e | ⟨e,iv,h1,h2,hg⟩⟩
     ·obtain ⟨r2,e,hg⟩:=e
      dsimp only at e ⊢
      rw [e]; exact zt ⟨r2,rfl,hg,hs⟩
     dsimp -zeta only at e iv h1 h2 hg ⊢
     rw [e]
     extract_lets _r _s4 out3 _s5 ia3 _s6 ib3 _s7 ac3 bc3
     refine zp (zeF ?_)
     extract_lets mg3
     refine zp (zaM (zaB (Q:=DQ R a.toList b.toList st out0.size)
      (I:=DI R a.toList b.toList st out0.size (out0.size+1) total)
      ⟨hs,rfl,iv,h1,h2,hg,?j2⟩ (step:=?st3) (fin:=?fi3)) ?re3)
     case j2=>show out0.size+total<=out2.size+(total-0); omega
     case fi3 =>
      clear h1 h2 h3 hg
      rintro ⟨z1,out,ia,ib,mg,ac,bc⟩ s2 ⟨hs,e,iv,h1,h2,h3,h4⟩
      have:=lno iv
      dsimp only at h1 h2 h3 h4 this
      have e5:total=a.size+b.size:=rfl
      omega
     case re3 =>
      rintro ⟨z1,out4,ia4,ib4,mg4,ac4,bc4⟩ s2 ⟨hs,e | ⟨e,iv,h1,h2,hg⟩⟩
      ·obtain ⟨r2,e,hg⟩:=e
       dsimp only at e ⊢
       rw [e]; exact zt ⟨r2,rfl,hg,hs⟩
      dsimp only at e iv h1 h2 hg ⊢
      rw [e]; refine zp (zaO (zt ⟨hs,rfl,iv,h1,h2,?_⟩))
      dsimp only
      omega
     case st3 =>
      clear h1 h2 h3 hg iv
      rintro r3 x3 ⟨z1,out,ia,ib,mg,ac,bc⟩ s2 ⟨hs,e,iv,h1,h2,h3,h4⟩
      dsimp -zeta only at e iv h1 h2 h3 h4 ⊢
      extract_lets _s out' _s ia' _s ib' _s mg' _s ac' bc' ibx jp
      obtain ⟨y,y1,y2,y3,y4⟩:=gb ib h2
      obtain ⟨k,k1,k2⟩:=zhc (fun x=>!(R y x)) (a.toList.drop ia) fun i j u v hij e1 e2 e3=>by
       rw [Yb] at e1 e2
       have:=zhk ua (show ia+i<ia+j by omega) e1 e2
       cases hz:R y u with
       | false=>rfl
       | true =>
        have:=o.trans y u v y3 (ea u (yL e1)) (ea v (yL e2)) hz this
        rw [this] at e3; exact e3
      have k3:∀ i x,a.toList[ia+i]?=some x->((!(R y x))=true↔i<k):=fun i x e=>k2 i x (by rw [Yb]; exact e)
      have k4:ia+k+1<=a.size:=by
       obtain ⟨x,_,x2,_,x4⟩:=ga (a.size-1) (by omega)
       have:=k3 (a.size-1-ia) x (by rw [show ia+(a.size-1-ia)=a.size-1 by omega]; exact x2)
       rw [hl x x2 y y4] at this
       have:¬ (a.size-1-ia<k):=fun q=>by have:=this.mpr q; simp at this
       omega
      have hjp:∀ (u:PUnit) (m:Nat) (s3:SortSt),Sm st s3->T prog w A E J (jp u m) (zkN (DQ R a.toList b.toList st out0.size) (DI R a.toList b.toList st out0.size (out0.size+1) total r3)) s3:=by
       intro u m s3 hs3
       dsimp -zeta only [jp]
       refine zp (zaO ?_)
       refine zp (zax y1 (zp (zck (k:=k) c (hs3.1.trans hk) y3 (fun i hi=>?g1) (by show 0<a.size-ia; omega) (by show k<=a.size-ia; omega) ?_)))
       case g1 =>
        replace hi:i<a.size-ia:=hi
        obtain ⟨x,x1,x2,x3,_⟩:=ga (ia+i) (by omega)
        refine ⟨x,x1,x3,?_⟩; unfold byd
        rw [yH (by decide)]
        exact k3 i x x2
       dsimp -zeta only
       extract_lets ac4 jp2 out9 ia9
       have hjp2:∀ (u:PUnit) (out5:Array Keyed) (s5:SortSt),Sm st s5->Iv R a.toList b.toList out5.toList (ia+k) ib->ia+k+1<a.size->out.size<=out5.size->T prog w A E J (jp2 u out5 (ia+k)) (zkN (DQ R a.toList b.toList st out0.size) (DI R a.toList b.toList st out0.size (out0.size+1) total r3)) s5:=by
        intro u out5 s5 hs5 iv5 h5 h6
        dsimp -zeta only [jp2]
        refine zp (zax y1 ?_)
        extract_lets out6 ib6
        obtain ⟨x,x1,x2,x3,x4⟩:=ga (ia+k) (by omega)
        have hyx:R y x=true:=by
         have:=k3 k x x2
         cases hz:R y x with
         | true=>rfl
         | false=>rw [hz] at this; exact yP (this.mp rfl) (by omega)
        have iv6:=pB iv5 x2 y2 y3 hyx; split
        ·rename_i q
         exact zt ⟨hs5,.inl ⟨_,rfl,gD iv6 (by simpa using q)⟩⟩
        rename_i q
        have q1:¬ ib+1=b.size:=by simpa using q
        obtain ⟨k',k1',k2'⟩:=zhc (fun z=>R z x) (b.toList.drop (ib+1)) fun i j u v hij e1 e2 e3=>by
         rw [Yb] at e1 e2
         exact o.trans u v x (eb u (yL e1)) (eb v (yL e2)) x3 (zhk ub (show ib+1+i<ib+1+j by omega) e1 e2) e3
        have k3':∀ i z,b.toList[ib+1+i]?=some z->(R z x=true↔i<k'):=fun i z e=>k2' i z (by rw [Yb]; exact e)
        rw [Ya] at k1'
        refine zp (zax x1 (zp (zck (k:=k') c (hs5.1.trans hk) x3 (fun i hi=>?g2) (by show 0<b.size-(ib+1); omega) (by show k'<=b.size-(ib+1); omega) ?_)))
        case g2 =>
         replace hi:i<b.size-(ib+1):=hi
         obtain ⟨z,z1,z2,z3,_⟩:=gb (ib+1+i) (by omega)
         refine ⟨z,z1,z3,?_⟩; unfold byd; rw [yI rfl]; exact k3' i z z2
        dsimp -zeta only
        extract_lets bc4 jp3 out9 ib9
        have hjp3:∀ (u:PUnit) (out7:Array Keyed) (s5:SortSt),Sm st s5->Iv R a.toList b.toList out7.toList (ia+k) (ib+1+k')->ib+1+k'<b.size->out.size+1<=out7.size->T prog w A E J (jp3 u out7 (ib+1+k')) (zkN (DQ R a.toList b.toList st out0.size) (DI R a.toList b.toList st out0.size (out0.size+1) total r3)) s5:=by
         intro u out7 s5 hs5 iv7 h7 h8
         dsimp -zeta only [jp3]
         refine zp (zax x1 ?_)
         extract_lets out8 ia8
         obtain ⟨z,z1,z2,z3,z4⟩:=gb (ib+1+k') h7
         have hxz:R x z=true:=by
          refine tot x4 z4 ?_
          have:=k3' k' z z2
          cases hz:R z x with
          | false=>rfl
          | true=>exact yP (this.mp hz) (by omega)
         have iv8:=pA iv7 x2 z2 x3 hxz
         have ez:out8.size=out7.size+1:=Array.size_push ..
         split
         ·rename_i q
          exact zt ⟨hs5,.inl ⟨_,rfl,gL iv8 (by simpa using q)⟩⟩
         rename_i q
         have q2:¬ ia+k+1+1=a.size:=by simpa using q
         split
         ·exact zt ⟨hs5,.inr ⟨rfl,iv8,by show ia+k+1+1<a.size; omega,h7,by show out0.size+1<=out8.size; omega⟩⟩
         ·exact zt ⟨hs5,rfl,iv8,by show ia+k+1+1<a.size; omega,h7,by show out0.size+1<=out8.size; omega,by show out0.size+total<=out8.size+r3; omega⟩
        have e6:out6.size=out5.size+1:=Array.size_push ..
        split
        ·have iv9:Iv R a.toList b.toList out9.toList (ia+k) (ib+1+k'):=by
          show Iv R a.toList b.toList (out6 ++ b.extract (ib+1) (ib+1+k')).toList (ia+k) (ib+1+k')
          rw [YO,xtk]
          refine iv6.takeB ub k' fun i hi=>?_
          obtain ⟨z,z1,z2,z3,z4⟩:=gb (ib+1+i) (by omega)
          exact ⟨z,z2,zbP o ua ea z3 x2 ((k3' i z z2).mpr hi)⟩
         have:=lno iv9
         have:=lno iv6
         split
         ·rename_i q
          exact zt ⟨hs5,.inl ⟨_,rfl,gD iv9 (by simpa using q)⟩⟩
         ·rename_i q
          have q2:¬ ib+1+k'=b.size:=by simpa using q
          exact hjp3 ⟨⟩ out9 _ hs5 iv9 (by omega) (by have:=lno iv5; have:=lno iv; omega)
        ·rename_i q
         have q2:k'=0:=by omega
         have:=hjp3 ⟨⟩ out6 _ hs5 (by rw [q2]; exact iv6) (by omega) (by omega)
         rw [q2] at this; exact this
       have:=lno iv
       split
       ·have iv9:Iv R a.toList b.toList out9.toList (ia+k) ib:=by
         show Iv R a.toList b.toList (out ++ a.extract ia (ia+k)).toList (ia+k) ib
         rw [YO,xtk]
         refine iv.takeA ua k fun i hi=>?_
         obtain ⟨z,z1,z2,z3,z4⟩:=ga (ia+i) (by omega)
         refine ⟨z,z2,zbP o ub eb z3 y2 (tot z4 y4 ?_)⟩
         have:=(k3 i z z2).mpr hi
         simpa using this
        have:=lno iv9
        split
        ·rename_i q
         exact zt ⟨hs3,.inl ⟨_,rfl,gL iv9 (by simpa using q)⟩⟩
        ·rename_i q
         have q2:¬ ia+k+1=a.size:=by simpa using q
         split
         ·rename_i q3
          have q4:ia+k=a.size:=by simpa using q3
          omega
         ·exact hjp2 ⟨⟩ out9 _ hs3 iv9 (by omega) (by omega)
       ·rename_i q
        have q2:k=0:=by omega
        have:=fun s5 hs5=>hjp2 ⟨⟩ out s5 hs5 (by rw [q2]; exact iv) (by omega) (by omega)
        rw [q2] at this; exact this _ hs3
      split
      ·exact hjp ⟨⟩ _ _ hs
      ·exact hjp ⟨⟩ _ _ hs
end
section
variable {α:Type} {R:α->α->Bool} {El:α->Prop} {l:List α}
def Ord.flip (o:Ord R El):Ord (fun x y=>R y x) El:=⟨fun x y z hx hy hz h1 h2=>o.trans z y x hz hy hx h2 h1,fun x y hx hy hn h=>o.total y x hy hx hn.symm h⟩
def zmZ (u:Up R l):Up (fun x y=>R y x) l.reverse:=List.pairwise_reverse.mpr u
def znx {la lb out:List α} (h:Gd (fun x y=>R y x) lb.reverse la.reverse out):Gd R la lb out.reverse:=by
 refine ⟨(List.reverse_perm out).trans (h.1.trans ?_),?_⟩
 ·rw [<- List.reverse_append]
  exact List.reverse_perm _
 ·exact List.pairwise_reverse.mpr h.2
def zcp {a:Array α} {n:Nat} (h:0<n) (h2:n<=a.size):a.toList.reverse[a.size-n]?=a.toList[n-1]?:=by
 rw [List.getElem?_reverse (by simp; omega)]
 congr 1
 simp; omega
def zgH (a:Array α) {n:Nat} (h:n<=a.size):a.toList.reverse.drop (a.size-n)=(a.toList.take n).reverse:=by
 rw [List.drop_reverse]
 congr 2
 simp; omega
def zm6 (a:Array α) {n k:Nat} (h:n<=a.size) (h2:k<=n):(a.extract k n).reverse.toList=(a.toList.reverse.drop (a.size-n)).take (n-k):=by
 rw [zgH a h,List.take_reverse,Array.toList_reverse]
 congr 1
 have:(a.toList.take n).length-(n-k)=k:=by simp; omega
 rw [this,List.drop_take]; simp
def zqc (o a b:Array α) {n k:Nat} (h:n<=a.size) (h2:k<=b.size):(a.extract 0 n ++ b.extract 0 k ++ o.reverse).toList=(o.toList ++ b.toList.reverse.drop (b.size-k) ++ a.toList.reverse.drop (a.size-n)).reverse:=by
 rw [zgH a h,zgH b h2]; simp
end
def nbe {a b:Nat} (q:¬ (a == b)=true):¬ a=b:=by simpa using q
def beq {a b:Nat} (q:(a == b)=true):a=b:=by simpa using q
def zhL:Array Keyed->Array Keyed->StateT SortSt Sem (Array Keyed):=sortPriv% PySem.Builtin.mergeHi
abbrev Ih (R:Keyed->Keyed->Bool) (a b:Array Keyed) (out:Array Keyed) (na nb:Nat):Prop:=na<=a.size/\nb<=b.size/\Iv (fun x y=>R y x) b.toList.reverse a.toList.reverse out.toList (b.size-nb) (a.size-na)
abbrev HI (R:Keyed->Keyed->Bool) (a b:Array Keyed) (st:SortSt) (n0 n1 t:Nat) {γ:Type} (r:Nat) (z:Option (Array Keyed) × Nat × Nat × Array Keyed × γ) (s:SortSt):Prop:=Sm st s/\z.1=none/\Ih R a b z.2.2.2.1 z.2.1 z.2.2.1/\0<z.2.1/\1<z.2.2.1/\n1<=z.2.2.2.1.size/\n0+t<=z.2.2.2.1.size+r
abbrev HQ (R:Keyed->Keyed->Bool) (a b:Array Keyed) (st:SortSt) (n0:Nat) {γ:Type} (z:Option (Array Keyed) × Nat × Nat × Array Keyed × γ) (s:SortSt):Prop:=Sm st s/\((∃ r,z.1=some r/\Gd R a.toList b.toList r.toList)\/(z.1=none/\Ih R a b z.2.2.2.1 z.2.1 z.2.2.1/\0<z.2.1/\1<z.2.2.1/\n0+1<=z.2.2.2.1.size))
section
variable {J:Shared->Prop} {κ:SortKind} {El:Keyed->Prop} {R:Keyed->Keyed->Bool}
def zkI (c:Cmp prog w A κ El R J) (o:Ord R El) {a b:Array Keyed} {st:SortSt} {Q:Array Keyed->SortSt->Prop} (hk:kindOf st=κ) (ea:∀ x ∈ a.toList,El x) (eb:∀ x ∈ b.toList,El x) (ua:Up R a.toList) (ub:Up R b.toList) (na:0<a.size) (nb:0<b.size)
  (h0:∀ y,b.toList[0]?=some y->∀ x ∈ a.toList,R y x=true) (hl:∀ x,a.toList[a.size-1]?=some x->∀ z ∈ b.toList,R z x=true) (dj:∀ x ∈ a.toList,∀ y ∈ b.toList,x≠y)
  (h:∀ r st',Gd R a.toList b.toList r.toList->Sm st st'->Q r st'):T prog w A E J (zhL a b) Q st:=by
 have la:a.toList.length=a.size:=by simp
 have lb:b.toList.length=b.size:=by simp
 have ga:∀ i,i<a.size->∃ x,a[i]?=some x/\a.toList[i]?=some x/\El x/\x ∈ a.toList:=fun i hi=>by
  have e:a.toList[i]?=some (a.toList[i]'(by omega)):=yB _
  exact ⟨_,by rw [<- yR]; exact e,e,ea _ (yL e),yL e⟩
 have gb:∀ i,i<b.size->∃ x,b[i]?=some x/\b.toList[i]?=some x/\El x/\x ∈ b.toList:=fun i hi=>by
  have e:b.toList[i]?=some (b.toList[i]'(by omega)):=yB _
  exact ⟨_,by rw [<- yR]; exact e,e,eb _ (yL e),yL e⟩
 have o':=o.flip; have ua':=zmZ ua; have ub':=zmZ ub
 have ea':∀ x ∈ a.toList.reverse,El x:=fun x hx=>ea x (YZ.mp hx)
 have eb':∀ x ∈ b.toList.reverse,El x:=fun x hx=>eb x (YZ.mp hx)
 have pA:∀ {out:Array Keyed} {na nb:Nat} {x y:Keyed},Ih R a b out na nb->0<na->0<nb->a.toList[na-1]?=some x->b.toList[nb-1]?=some y->El x->R y x=true->Ih R a b (out.push x) (na-1) nb:=fun {out na nb x y} i1 p1 p2 i2 i3 i4 i5=>by
  refine ⟨by have:=i1.1; omega,i1.2.1,?_⟩
  rw [Array.toList_push,show a.size-(na-1)=a.size-na+1 by have:=i1.1; omega]
  exact i1.2.2.pushB ua' (by rw [zcp p1 i1.1]; exact i2) (zbP o' ub' eb' i4 (by rw [zcp p2 i1.2.1]; exact i3) i5)
 have pB:∀ {out:Array Keyed} {na nb:Nat} {x y:Keyed},Ih R a b out na nb->0<na->0<nb->a.toList[na-1]?=some x->b.toList[nb-1]?=some y->El y->R x y=true->Ih R a b (out.push y) na (nb-1):=fun {out na nb x y} i1 p1 p2 i2 i3 i4 i5=>by
  refine ⟨i1.1,by have:=i1.2.1; omega,?_⟩
  rw [Array.toList_push,show b.size-(nb-1)=b.size-nb+1 by have:=i1.2.1; omega]
  exact i1.2.2.pushA ub' (by rw [zcp p2 i1.2.1]; exact i3) (zbP o' ua' ea' i4 (by rw [zcp p1 i1.1]; exact i2) i5)
 have tot:∀ {x y:Keyed},x ∈ a.toList->y ∈ b.toList->R y x=false->R x y=true:=fun {x y} i1 i2 i3=>o.total y x (eb y i2) (ea x i1) (fun e=>dj x i1 y i2 e.symm) i3
 have lno:∀ {out:Array Keyed} {na nb:Nat},Ih R a b out na nb->out.size+na+nb=a.size+b.size:=fun {out na nb} i1=>by
  have:=i1.2.2.len
  have:=i1.1
  have:=i1.2.1
  have e:out.toList.length=out.size:=by simp
  omega
 unfold zhL; refine zp (zeF ?_)
 extract_lets total dn ls na0 nb0
 have gD:∀ {out:Array Keyed} {na nb:Nat},Ih R a b out na nb->na=0->Gd R a.toList b.toList (dn out na nb).toList:=fun {out na nb} i1 i2=>by
  show Gd R _ _ (a.extract 0 na ++ b.extract 0 nb ++ out.reverse:Array Keyed).toList
  rw [zqc _ _ _ i1.1 i1.2.1]
  exact znx (i1.2.2.done ub' (by rw [List.length_reverse,la]; omega))
 have gL:∀ {out:Array Keyed} {na nb:Nat},Ih R a b out na nb->nb=1->Gd R a.toList b.toList (ls out na nb).toList:=fun {out na nb} i1 i2=>by
  show Gd R _ _ (b.extract 0 nb ++ a.extract 0 na ++ out.reverse:Array Keyed).toList
  rw [zqc _ _ _ i1.2.1 i1.1]
  refine znx (i1.2.2.last ua' (by rw [List.length_reverse,lb]; omega) fun y hy z hz=>?_)
  rw [zcp (by omega) i1.2.1] at hy
  rw [i2] at hy; exact h0 y hy z (YZ.mp (List.mem_of_mem_drop hz))
 obtain ⟨x0,f0,f0',ex0,mx0⟩:=ga (a.size-1) (by omega)
 refine zp (zax f0 ?_)
 have iv0:Ih R a b #[x0] (a.size-1) b.size:=by
  refine ⟨by omega,yD _,?_⟩
  have i0:Iv (fun x y=>R y x) b.toList.reverse a.toList.reverse [] 0 0:=⟨yn _,yn _,by simp,.nil,fun _ z=>by simp at z⟩
  have:=i0.pushB (y:=x0) ua' (by have:=zcp (a:=a) na (yD _); rw [Nat.sub_self] at this; rw [this]; exact f0') (fun z hz=>hl x0 f0' z (YZ.mp (List.mem_of_mem_drop hz)))
  rw [Nat.sub_self,show a.size-(a.size-1)=0+1 by omega]
  simpa using this
 extract_lets out
 split
 ·rename_i hz
  exact zt (h _ _ (gD iv0 (by simpa using hz)) (Sm.refl st))
 rename_i hz1
 split
 ·rename_i hz
  exact zt (h _ _ (gL iv0 (by simpa using hz)) (Sm.refl st))
 rename_i hz2
 have hz1':¬ a.size-1=0:=by simpa using hz1
 have hz2':¬ b.size=1:=by simpa using hz2
 refine zp (zeo ?_)
 extract_lets mg
 refine zp (zaM (zaB (Q:=fun z s1=>∃ r,z.1=some r/\Gd R a.toList b.toList r.toList/\Sm st s1)
  (I:=fun r (z:Option (Array Keyed) × Nat × Nat × Array Keyed × Nat) s1=>Sm st s1/\z.1=none/\Ih R a b z.2.2.2.1 z.2.1 z.2.2.1/\0<z.2.1/\1<z.2.2.1/\total+1<=z.2.2.2.1.size+r)
  ⟨Sm.refl st,rfl,iv0,?i1,?i2,?i3⟩ (step:=?st1) (fin:=?fi1)) ?re1)
 case i1=>show 0<a.size-1; omega
 case i2=>show 1<b.size; omega
 case i3=>show total+1<=1+(total-0); omega
 case fi1 =>
  rintro ⟨z0,na,nb,out,mg⟩ s1 ⟨hs,e,iv,h1,h2,h3⟩
  have:=lno iv
  dsimp only at h1 h2 h3 this
  have:total=a.size+b.size:=rfl
  omega
 case re1 =>
  rintro ⟨z0,na,nb,out,mg⟩ s1 ⟨r,e,hg,hs⟩
  dsimp only at e ⊢
  rw [e]; exact zt (h r s1 hg hs)
 case st1 =>
  rintro r x ⟨z0,na1,nb1,out0,mg0⟩ s1 ⟨hs,e,iv,h1,h2,h3⟩
  dsimp -zeta only at e iv h1 h2 h3 ⊢
  extract_lets _s1 na2 _s2 nb2 _s3 out1 mg1
  refine zp (zaM (zaB (Q:=HQ R a b st out0.size) (I:=HI R a b st out0.size out0.size total) ⟨hs,rfl,iv,h1,h2,yD _,?j1⟩ (step:=?st2) (fin:=?fi2)) ?re2)
  case j1=>show out0.size+total<=out0.size+(total-0); omega
  case fi2 =>
   clear h1 h2 h3
   rintro ⟨z1,na,nb,out,ac,bc⟩ s2 ⟨hs,e,iv,h1,h2,h3,h4⟩
   have:=lno iv
   dsimp only at h1 h2 h3 h4 this
   have e5:total=a.size+b.size:=rfl
   omega
  case st2 =>
   clear h1 h2 h3 iv
   rintro r2 x2 ⟨z1,na,nb,out,ac,bc⟩ s2 ⟨hs,e,iv,h1,h2,h3,h4⟩
   dsimp only at e iv h1 h2 h3 h4 ⊢
   obtain ⟨y,y1,y2,y3,y4⟩:=gb (nb-1) (by have:=iv.2.1; omega)
   obtain ⟨x,x1,x2,x3,x4⟩:=ga (na-1) (by have:=iv.1; omega)
   refine zp (zax y1 (zp (zax x1 (zp (zrC c (hs.1.trans hk) y3 x3 ?_)))))
   cases hR:R y x with
   | true =>
    dsimp only
    rw [yI rfl]; refine zp (zax x1 ?_)
    have iv':=pA iv h1 (by omega) x2 y2 x3 hR
    split
    ·rename_i q
     exact zt ⟨hs,.inl ⟨_,rfl,gD iv' (by simpa using q)⟩⟩
    ·rename_i q
     have q':¬ na-1=0:=by simpa using q
     split
     ·exact zt ⟨hs,.inr ⟨rfl,iv',by dsimp only; omega,h2,by dsimp only; rw [Array.size_push]; omega⟩⟩
     ·exact zt ⟨hs,rfl,iv',by dsimp only; omega,h2,by dsimp only; rw [Array.size_push]; omega,by dsimp only; rw [Array.size_push]; omega⟩
   | false =>
    dsimp only
    rw [yH (by decide)]
    refine zp (zax y1 ?_)
    have iv':=pB iv h1 (by omega) x2 y2 y3 (tot x4 y4 hR)
    split
    ·rename_i q
     exact zt ⟨hs,.inl ⟨_,rfl,gL iv' (by simpa using q)⟩⟩
    ·rename_i q
     have q':¬ nb-1=1:=by simpa using q
     split
     ·exact zt ⟨hs,.inr ⟨rfl,iv',h1,by dsimp only; omega,by dsimp only; rw [Array.size_push]; omega⟩⟩
     ·exact zt ⟨hs,rfl,iv',h1,by dsimp only; omega,by dsimp only; rw [Array.size_push]; omega,by dsimp only; rw [Array.size_push]; omega⟩
  case re2 =>
   clear h1 h2 iv
   rintro ⟨z1,na3,nb3,out2,ac2,bc2⟩ s2 ⟨hs,e | ⟨e,iv,h1,h2,hg⟩⟩
   ·obtain ⟨r2,e,hg⟩:=e
    dsimp only at e ⊢
    rw [e]; exact zt ⟨r2,rfl,hg,hs⟩
   dsimp -zeta only at e iv h1 h2 hg ⊢
   rw [e]
   extract_lets _r _s4 na4 _s5 nb4 _s6 out3 _s7 ac3 bc3
   refine zp (zeF ?_); refine zp (zaM (zaB (Q:=HQ R a b st out0.size) (I:=HI R a b st out0.size (out0.size+1) total) ⟨hs,rfl,iv,h1,h2,hg,?j2⟩ (step:=?st3) (fin:=?fi3)) ?re3)
   case j2=>show out0.size+total<=out2.size+(total-0); omega
   case fi3 =>
    clear h1 h2 h3 hg
    rintro ⟨z1,na,nb,out,mg,ac,bc⟩ s2 ⟨hs,e,iv,h1,h2,h3,h4⟩
    have:=lno iv
    dsimp only at h1 h2 h3 h4 this
    have e5:total=a.size+b.size:=rfl
    omega
   case re3 =>
    rintro ⟨z1,na5,nb5,out4,mg4,ac4,bc4⟩ s2 ⟨hs,e | ⟨e,iv,h1,h2,hg⟩⟩
    ·obtain ⟨r2,e,hg⟩:=e
     dsimp only at e ⊢
     rw [e]; exact zt ⟨r2,rfl,hg,hs⟩
    dsimp only at e iv h1 h2 hg ⊢
    rw [e]; refine zp (zaO (zt ⟨hs,rfl,iv,h1,h2,?_⟩))
    dsimp only
    omega
   case st3 =>
    clear h1 h2 h3 hg iv
    rintro r3 x3 ⟨z1,na,nb,out,mg,ac,bc⟩ s2 ⟨hs,e,iv,h1,h2,h3,h4⟩
    dsimp -zeta only at e iv h1 h2 h3 h4 ⊢
    extract_lets _s na' _s nb' _s out' _s mg' _s ac' bc' nbx jp
    obtain ⟨y,y1,y2,y3,y4⟩:=gb (nb-1) (by have:=iv.2.1; omega)
    have hna:=iv.1; have hnb:=iv.2.1
    obtain ⟨k,k1,k2⟩:=zhc (fun x=>!(R y x)) (a.toList.take na) fun i j u v hij e1 e2 e3=>by
     rw [List.getElem?_take] at e1 e2; split at e1
     ·split at e2
      ·have:=zhk ua hij e1 e2
       cases hz:R y u with
       | false=>rfl
       | true =>
        have:=o.trans y u v y3 (ea u (yL e1)) (ea v (yL e2)) hz this
        rw [this] at e3; exact e3
      ·cases e2
     ·cases e1
    have k3:∀ i x,i<na->a.toList[i]?=some x->((!(R y x))=true↔i<k):=fun i x hi e=>k2 i x (by rw [List.getElem?_take,yI hi]; exact e)
    replace k1:k<=na:=by
     rw [YB] at k1; omega
    have hjp:∀ (u:PUnit) (m:Nat) (s3:SortSt),Sm st s3->T prog w A E J (jp u m) (zkN (HQ R a b st out0.size) (HI R a b st out0.size (out0.size+1) total r3)) s3:=by
     intro u m s3 hs3
     dsimp -zeta only [jp]
     refine zp (zaO ?_)
     refine zp (zax y1 (zp (zck (k:=k) c (hs3.1.trans hk) y3 (fun i hi=>?g1) (by show na-1<na; omega) k1 ?_)))
     case g1 =>
      replace hi:i<na:=hi
      obtain ⟨x,x1,x2,x3,_⟩:=ga i (by omega)
      refine ⟨x,by rw [Nat.zero_add]; exact x1,x3,?_⟩
      unfold byd
      rw [yH (by decide)]
      exact k3 i x hi x2
     dsimp -zeta only
     extract_lets kk ac4 jp2 out9 na9
     have hjp2:∀ (u:PUnit) (out5:Array Keyed) (s5:SortSt),Sm st s5->Ih R a b out5 k nb->0<k->out.size<=out5.size->T prog w A E J (jp2 u k out5) (zkN (HQ R a b st out0.size) (HI R a b st out0.size (out0.size+1) total r3)) s5:=by
      intro u out5 s5 hs5 iv5 h5 h6
      dsimp -zeta only [jp2]
      refine zp (zax y1 ?_)
      extract_lets out6
      obtain ⟨x,x1,x2,x3,x4⟩:=ga (k-1) (by omega)
      have hxy:R x y=true:=by
       refine tot x4 y4 ?_
       have:=(k3 (k-1) x (by omega) x2).mpr (by omega)
       simpa using this
      have iv6:=pB iv5 h5 (by omega) x2 y2 y3 hxy
      split
      ·rename_i q
       exact zt ⟨hs5,.inl ⟨_,rfl,gL iv6 (by simpa using q)⟩⟩
      rename_i q
      have q1:¬ nb-1=1:=nbe q
      obtain ⟨k',k1',k2'⟩:=zhc (fun z=>R z x) (b.toList.take (nb-1)) fun i j u v hij e1 e2 e3=>by
       rw [List.getElem?_take] at e1 e2; split at e1
       ·split at e2
        ·exact o.trans u v x (eb u (yL e1)) (eb v (yL e2)) x3 (zhk ub hij e1 e2) e3
        ·cases e2
       ·cases e1
      have k3':∀ i z,i<nb-1->b.toList[i]?=some z->(R z x=true↔i<k'):=fun i z hi e=>k2' i z (by rw [List.getElem?_take,yI hi]; exact e)
      replace k1':k'<=nb-1:=by
       rw [YB] at k1'; omega
      have k4':0<k':=by
       obtain ⟨z,_,z2,_,_⟩:=gb 0 (by omega)
       exact (k3' 0 z (by omega) z2).mp (h0 z z2 x x4)
      refine zp (zax x1 (zp (zck (k:=k') c (hs5.1.trans hk) x3 (fun i hi=>?g2) (by show nb-1-1<nb-1; omega) k1' ?_)))
      case g2 =>
       replace hi:i<nb-1:=hi
       obtain ⟨z,z1,z2,z3,_⟩:=gb i (by omega)
       refine ⟨z,by rw [Nat.zero_add]; exact z1,z3,?_⟩
       unfold byd; rw [yI rfl]; exact k3' i z hi z2
      dsimp -zeta only
      extract_lets kk' bc4 jp3 out9 nb9
      have hjp3:∀ (u:PUnit) (out7:Array Keyed) (s5:SortSt),Sm st s5->Ih R a b out7 k k'->1<k'->out.size+1<=out7.size->T prog w A E J (jp3 u k' out7) (zkN (HQ R a b st out0.size) (HI R a b st out0.size (out0.size+1) total r3)) s5:=by
       intro u out7 s5 hs5 iv7 h7 h8
       dsimp -zeta only [jp3]
       refine zp (zax x1 ?_)
       extract_lets out8
       obtain ⟨z,z1,z2,z3,z4⟩:=gb (k'-1) (by omega)
       have hzx:R z x=true:=(k3' (k'-1) z (by omega) z2).mpr (by omega)
       have iv8:=pA iv7 h5 (by omega) x2 z2 x3 hzx
       have ez:out8.size=out7.size+1:=Array.size_push ..
       split
       ·rename_i q
        exact zt ⟨hs5,.inl ⟨_,rfl,gD iv8 (by simpa using q)⟩⟩
       rename_i q
       have q2:¬ k-1=0:=by simpa using q
       split
       ·exact zt ⟨hs5,.inr ⟨rfl,iv8,by show 0<k-1; omega,h7,by show out0.size+1<=out8.size; omega⟩⟩
       ·exact zt ⟨hs5,rfl,iv8,by show 0<k-1; omega,h7,by show out0.size+1<=out8.size; omega,by show out0.size+total<=out8.size+r3; omega⟩
      have e6:out6.size=out5.size+1:=Array.size_push ..
      split
      ·have iv9:Ih R a b out9 k k':=by
        refine ⟨iv6.1,by omega,?_⟩
        show Iv _ _ _ (out6 ++ (b.extract k' (nb-1)).reverse).toList _ _
        rw [YO,zm6 b (by omega) k1',show b.size-k'=b.size-(nb-1)+(nb-1-k') by omega]
        refine iv6.2.2.takeA ub' (nb-1-k') fun i hi=>?_
        obtain ⟨z,z1,z2,z3,z4⟩:=gb (nb-1-i-1) (by omega)
        refine ⟨z,?_,zbP o' ua' ea' z3 (i:=a.size-k) (x:=x) (by rw [zcp h5 iv6.1]; exact x2) (tot x4 z4 ?_)⟩
        ·rw [show b.size-(nb-1)+i=b.size-(nb-1-i) by omega,zcp (by omega) (by omega)]
         exact z2
        ·have:=k3' (nb-1-i-1) z (by omega) z2
         cases hz:R z x with
         | false=>rfl
         | true=>exact yP (this.mp hz) (by omega)
       have:=lno iv9
       have:=lno iv6
       split
       ·rename_i q
        exact zt ⟨hs5,.inl ⟨_,rfl,gL iv9 (by simpa using q)⟩⟩
       ·rename_i q
        have q2:¬ k'=1:=by simpa using q
        split
        ·rename_i q3
         have q4:k'=0:=by simpa using q3
         omega
        ·exact hjp3 ⟨⟩ out9 _ hs5 iv9 (by omega) (by have:=lno iv5; have:=lno iv; omega)
      ·rename_i q
       have q2:k'=nb-1:=by
        have q3:¬ nb-1-k' > 0:=q
        omega
       have:=hjp3 ⟨⟩ out6 _ hs5 (by rw [q2]; exact iv6) (by omega) (by omega)
       rw [q2] at this; exact this
     have:=lno iv
     split
     ·have iv9:Ih R a b out9 k nb:=by
       refine ⟨by omega,iv.2.1,?_⟩
       show Iv _ _ _ (out ++ (a.extract k na).reverse).toList _ _
       rw [YO,zm6 a (by omega) k1,show a.size-k=a.size-na+(na-k) by omega]
       refine iv.2.2.takeB ua' (na-k) fun i hi=>?_
       obtain ⟨z,z1,z2,z3,z4⟩:=ga (na-i-1) (by omega)
       refine ⟨z,?_,zbP o' ub' eb' z3 (i:=b.size-nb) (x:=y) (by rw [zcp (by omega) iv.2.1]; exact y2) ?_⟩
       ·rw [show a.size-na+i=a.size-(na-i) by omega,zcp (by omega) (by omega)]
        exact z2
       ·have:=k3 (na-i-1) z (by omega) z2
        cases hz:R y z with
        | true=>rfl
        | false=>rw [hz] at this; exact yP (this.mp rfl) (by omega)
      have:=lno iv9
      split
      ·rename_i q
       exact zt ⟨hs3,.inl ⟨_,rfl,gD iv9 (by simpa using q)⟩⟩
      ·rename_i q
       have q2:¬ k=0:=by simpa using q
       exact hjp2 ⟨⟩ out9 _ hs3 iv9 (by omega) (by omega)
     ·rename_i q
      have q2:k=na:=by
       have q3:¬ na-k > 0:=q
       omega
      have:=fun s5 hs5=>hjp2 ⟨⟩ out s5 hs5 (by rw [q2]; exact iv) (by omega) (by omega)
      rw [q2] at this; exact this _ hs3
    split
    ·exact hjp ⟨⟩ _ _ hs
    ·exact hjp ⟨⟩ _ _ hs
end
section
variable {α:Type} {R:α->α->Bool} {El:α->Prop} {a:Array α}
def UpI (R:α->α->Bool) (a:Array α) (i j:Nat):Prop:=∀ p q,i<=p->p<q->q<j->∀ x y,a[p]?=some x->a[q]?=some y->R x y=true
def UpI.one (i:Nat):UpI R a i (i+1):=fun p q h1 h2 h3=>by omega
def UpI.snoc (o:Ord R El) (he:∀ (i:Nat) x,a[i]?=some x->El x) {i j:Nat} (u:UpI R a i j) (hij:i<j) {x y:α} (e1:a[j-1]?=some x) (e2:a[j]?=some y) (h:R x y=true):UpI R a i (j+1):=fun p q h1 h2 h3 z v e3 e4=>by
 by_cases hq:q<j
 ·exact u p q h1 h2 hq z v e3 e4
 have:q=j:=by omega
 subst this; rw [e2] at e4; cases e4
 by_cases hp:p=q-1
 ·subst hp
  rw [e1] at e3; cases e3; exact h
 ·exact o.trans z x y (he p z e3) (he _ x e1) (he _ y e2) (u p (q-1) h1 (by omega) (by omega) z x e3 e1) h
def nd_ne {l:List α} (h:l.Nodup) {i j:Nat} {x y:α} (hij:i≠j) (e1:l[i]?=some x) (e2:l[j]?=some y):x≠y:=fun e=>by
 subst e; obtain ⟨h1,q1⟩:=yE.mp e1; obtain ⟨h2,q2⟩:=yE.mp e2
 rcases Nat.lt_or_gt_of_ne hij with q | q
 ·exact YJ.mp h i j h1 h2 q (q1.trans q2.symm)
 ·exact YJ.mp h j i h2 h1 q (q2.trans q1.symm)
structure Al (El:α->Prop) (a:Array α):Prop where
 el:∀ x ∈ a.toList,El x
 nd:a.toList.Nodup
def Al.perm (h:Al El a) {b:Array α} (p:b.Perm a):Al El b :=
 ⟨fun x hx=>h.el x ((Array.perm_iff_toList_perm.mp p).mem_iff.mp hx),(Array.perm_iff_toList_perm.mp p).nodup_iff.mpr h.nd⟩
def Al.get (h:Al El a) {i:Nat} (hi:i<a.size):∃ x,a[i]?=some x/\El x :=
 ⟨a[i],ye hi,h.el _ (Array.getElem_mem_toList hi)⟩
def Al.at (h:Al El a) {i:Nat} {x:α} (e:a[i]?=some x):El x:=h.el x (by rw [<- yR] at e; exact yL e)
def Al.tot (o:Ord R El) (h:Al El a) {i j:Nat} {x y:α} (hij:i≠j) (e1:a[i]?=some x) (e2:a[j]?=some y) (e:R x y=false):R y x=true :=
 o.total x y (h.at e1) (h.at e2) (nd_ne h.nd hij (by rw [yR]; exact e1) (by rw [yR]; exact e2)) e
def UpI.mirror {i j:Nat} (hj:j<=a.size) (u:UpI (fun x y=>R y x) a i j):UpI R (mirror a i j ((j-i) / 2)) i j:=fun p q h1 h2 h3 x y e1 e2=>by
 rw [getElem?_mirror_all hj,yI (by omega)] at e1 e2
 exact u (i+j-1-q) (i+j-1-p) (by omega) (by omega) (by omega) y x e2 e1
end
structure Sb (lo:Nat) (st st':SortSt):Prop where
 k:kindOf st'=kindOf st
 p:pendingOf st'=pendingOf st
 f:failedOf st'=failedOf st
 m:(arrOf st').Perm (arrOf st)
 b:∀ i,i<lo->(arrOf st')[i]?=(arrOf st)[i]?
def Sb.refl (lo:Nat) (st:SortSt):Sb lo st st:=⟨rfl,rfl,rfl,.refl _,fun _ _=>rfl⟩
def Sb.trans {lo:Nat} {s1 s2 s3:SortSt} (h1:Sb lo s1 s2) (h2:Sb lo s2 s3):Sb lo s1 s3:=⟨h2.k.trans h1.k,h2.p.trans h1.p,h2.f.trans h1.f,h2.m.trans h1.m,fun i hi=>(h2.b i hi).trans (h1.b i hi)⟩
section
variable {J:Shared->Prop} {κ:SortKind} {El:Keyed->Prop} {R:Keyed->Keyed->Bool}
def zgz (c:Cmp prog w A κ El R J) {i j:Nat} {x y:Keyed} {Q:Option Bool->SortSt->Prop} {st:SortSt} (hk:kindOf st=κ) (hx:El x) (hy:El y) (hi:(arrOf st)[i]?=some x) (hj:(arrOf st)[j]?=some y) (h:Q (some (R x y)) st):T prog w A E J (ltAt' i j) Q st:=by
 rw [ltAt'_eq]; exact zp (zeo (zp (zax hi (zp (zax hj (zrC c hk hx hy h))))))
def zrD (c:Cmp prog w A κ El R J) (o:Ord R El) {lo nrem n:Nat} {st:SortSt} {Q:Option (Option Nat) × Nat->SortSt->Prop} (hk:kindOf st=κ) (al:Al El (arrOf st)) (hs:lo+nrem=(arrOf st).size) (h1:0<n) (h2:n<=nrem) (u:UpI R (arrOf st) lo (lo+n))
  (h:∀ n',0<n'->n'<=nrem->UpI R (arrOf st) lo (lo+n')->(n'=nrem\/∃ x y,(arrOf st)[lo+n']?=some x/\(arrOf st)[lo+n'-1]?=some y/\R x y=true)->Q (none,n') st) :
  T prog w A E J (forIn [n:nrem] ((none,n):Option (Option Nat) × Nat) fun _ s=>do
   let x <- ltAt' (lo+s.2) (lo+s.2-1)
   match x with
   | some smaller=>if smaller=true then pure (ForInStep.done (none,s.2)) else pure (ForInStep.yield (none,s.2+1))
   | _=>pure (ForInStep.done (some none,s.2))) Q st:=by
 refine zaB (I:=fun r (z:Option (Option Nat) × Nat) s1=>s1=st/\z.1=none/\0<z.2/\z.2+r=nrem/\UpI R (arrOf st) lo (lo+z.2)) ⟨rfl,rfl,h1,by dsimp only; omega,u⟩ ?_ ?_
 ·rintro r _ ⟨z,n⟩ s1 ⟨e1,e2,h1,h2,u⟩
  dsimp only at e1 e2 h1 h2 u ⊢
  rw [e1]
  obtain ⟨x,x1,x2⟩:=al.get (show lo+n<_ by omega)
  obtain ⟨y,y1,y2⟩:=al.get (show lo+n-1<_ by omega)
  refine zp (zgz c hk x2 y2 x1 y1 ?_)
  cases hR:R x y with
  | true=>exact zt (h n h1 (by omega) u (.inr ⟨x,y,x1,y1,hR⟩))
  | false=>exact zt ⟨rfl,rfl,by dsimp only; omega,by dsimp only; omega,u.snoc o (fun i x e=>al.at e) (by omega) y1 x1 (al.tot o (by omega) x1 y1 hR)⟩
 ·rintro ⟨z,n⟩ s1 ⟨e1,e2,h1,h2,u⟩
  dsimp only at e1 e2 h1 h2 u
  rw [e1,e2]
  exact h n h1 (by omega) u (.inl (by omega))
def ziT (c:Cmp prog w A κ El R J) (o:Ord R El) {lo nrem:Nat} {st:SortSt} {Q:Option Nat->SortSt->Prop} (hk:kindOf st=κ) (al:Al El (arrOf st)) (hs:lo+nrem=(arrOf st).size) (h1:0<nrem)
  (h:∀ n st',0<n->n<=nrem->Sb lo st st'->UpI R (arrOf st') lo (lo+n)->Q (some n) st'):T prog w A E J (countRun' lo nrem) Q st:=by
 unfold countRun'
 refine zp (zaM (zrD c o hk al hs (show 0<1 by decide) h1 (UpI.one lo) (Q:=fun z s1=>s1=st/\z.1=none/\0<z.2/\z.2<=nrem/\UpI R (arrOf st) lo (lo+z.2)/\(z.2=nrem\/∃ x y,(arrOf st)[lo+z.2]?=some x/\(arrOf st)[lo+z.2-1]?=some y/\R x y=true)) fun n' i1 i2 i3 i4=>⟨rfl,rfl,i1,i2,i3,i4⟩) ?_)
 rintro ⟨z,n⟩ s1 ⟨e1,e2,h3,h2,u,hb⟩
 dsimp -zeta only at e1 e2 h3 h2 u hb ⊢
 rw [e1,e2]
 dsimp only
 split
 ·exact zt (h n st h3 h2 (Sb.refl lo st) u)
 rename_i q
 have q1:¬ n=nrem:=nbe q
 obtain ⟨x,y,x1,y1,hxy⟩:=hb.resolve_left q1; split
 ·obtain ⟨z,z1,z2⟩:=al.get (show lo<_ by omega)
  refine zp (zgz c hk z2 (al.at y1) z1 y1 ?_)
  rw [u lo (lo+n-1) (yD _) (by omega) (by omega) z y z1 y1]
  exact zt (h n st h3 h2 (Sb.refl lo st) u)
 have q2:n=1:=by omega
 subst q2; refine zp (zeF ?_)
 refine zp (zaM (zaB (Q:=fun z s1=>s1=st/\z.1=none/\z.2.2=0/\0<z.2.1/\z.2.1<=nrem/\UpI (fun x y=>R y x) (arrOf st) lo (lo+z.2.1)) (I:=fun r (z:Option (Option Nat) × Nat × Nat) s1=>s1=st/\z.1=none/\z.2.2=0/\0<z.2.1/\z.2.1+r=nrem/\UpI (fun x y=>R y x) (arrOf st) lo (lo+z.2.1))
  ⟨rfl,rfl,rfl,by decide,by dsimp only; omega,(UpI.one lo).snoc o.flip (fun i x e=>al.at e) (by omega) y1 x1 hxy⟩ (step:=?st1) (fin:=?fi1)) ?re1)
 case fi1 =>
  rintro ⟨z,n,k⟩ s1 ⟨e1,e2,e3,h1,h2,u⟩
  exact ⟨e1,e2,e3,h1,by dsimp only at h2 ⊢; omega,u⟩
 case st1 =>
  rintro r _ ⟨z,n,k⟩ s1 ⟨e1,e2,e3,h1,h2,u⟩
  dsimp only at e1 e2 e3 h1 h2 u ⊢
  rw [e1,e3]
  obtain ⟨x,x1,x2⟩:=al.get (show lo+n<_ by omega)
  obtain ⟨y,y1,y2⟩:=al.get (show lo+n-1<_ by omega)
  refine zp (zgz c hk x2 y2 x1 y1 ?_)
  cases hR:R x y with
  | true=>exact zt ⟨rfl,rfl,rfl,by dsimp only; omega,by dsimp only; omega,u.snoc o.flip (fun i x e=>al.at e) (by omega) y1 x1 hR⟩
  | false =>
   refine zp (zgz c hk y2 x2 y1 x1 ?_)
   rw [al.tot o (by omega) x1 y1 hR]
   exact zt ⟨rfl,rfl,rfl,h1,by dsimp only; omega,u⟩
 case re1 =>
  rintro ⟨z,n,k⟩ s1 ⟨e1,e2,e3,h1,h2,u⟩
  dsimp only at e1 e2 e3 h1 h2 u ⊢
  rw [e1,e2,e3]; refine zp (zaO ?_)
  have sb:Sb lo st (setArr st (mirror (arrOf st) lo (lo+n) ((lo+n-lo) / 2))):=⟨rfl,rfl,rfl,mirror_perm _ _ _ _,fun i hi=>by
   show (mirror (arrOf st) lo (lo+n) ((lo+n-lo) / 2))[i]?=_
   rw [getElem?_mirror_all (by omega),yH (by omega)]⟩
  refine zp (zaM (zrD (st:=setArr st (mirror (arrOf st) lo (lo+n) ((lo+n-lo) / 2))) c o hk (al.perm sb.m) (by rw [hs]; exact (mirror_size _ _ _ _).symm) h1 h2 (u.mirror (by omega)) (Q:=fun z s1=>s1=setArr st (mirror (arrOf st) lo (lo+n) ((lo+n-lo) / 2))/\z.1=none/\0<z.2/\z.2<=nrem/\UpI R (mirror (arrOf st) lo (lo+n) ((lo+n-lo) / 2)) lo (lo+z.2)) fun n' i1 i2 i3 i4=>⟨rfl,rfl,i1,i2,i3⟩) ?_)
  rintro ⟨z,n'⟩ s1 ⟨e1,e2,h3,h2,u⟩
  dsimp only at e1 e2 h3 h2 u ⊢
  rw [e1,e2]; exact zt (h n' _ h3 h2 sb u)
theorem zkK {β:Type} {f:Nat->β->StateT SortSt Sem (ForInStep β)} {Q:β->SortSt->Prop} (I:Nat->β->SortSt->Prop) {a b:Nat}
  (step:∀ k c st,a<=k->k<b->I k c st->T prog w A E J (f k c) (zkN Q (I (k+1))) st)
  (fin:∀ c st,I b c st->Q c st):∀ (n k:Nat) (c:β) (st:SortSt),a<=k->k+n=b->I k c st->T prog w A E J (forIn (List.range' k n) c f) Q st
 | 0,k,c,st,_,e,h=>fun s hs=>kasC_nil ⟨fin c st (by rw [<- e]; exact h),hs⟩
 | n+1,k,c,st,h1,e,h=>fun s hs=>by
  rw [List.range'_succ]
  exact kasC_cons (yf (step k c st h1 (by omega) h s hs) (fun r s' h'=>by
   obtain ⟨z,st'⟩:=r
   cases z with
   | done b'=>exact h'
   | yield b'=>exact zkK I step fin n (k+1) b' st' (by omega) (by omega) h'.1 s' h'.2) fun _ _ e=>e)
def zmP {β:Type} {f:Nat->β->StateT SortSt Sem (ForInStep β)} {Q:β->SortSt->Prop} {a b:Nat} {c:β} {st:SortSt} (I:Nat->β->SortSt->Prop) (hab:a<=b) (h:I a c st)
  (step:∀ k c st,a<=k->k<b->I k c st->T prog w A E J (f k c) (zkN Q (I (k+1))) st)
  (fin:∀ c st,I b c st->Q c st):T prog w A E J (forIn [a:b] c f) Q st:=fun s hs=>kasC_range (zkK I step fin (b-a) a c st (yD _) (by omega) h s hs)
def zgA (c:Cmp prog w A κ El R J) (o:Ord R El) {lo n ok:Nat} {st:SortSt} {Q:Bool->SortSt->Prop} (hk:kindOf st=κ) (al:Al El (arrOf st)) (hs:lo+n<=(arrOf st).size) (h1:0<ok) (h2:ok<=n) (u:UpI R (arrOf st) lo (lo+ok))
  (h:∀ st',Sb lo st st'->UpI R (arrOf st') lo (lo+n)->Q true st'):T prog w A E J (binarySort' lo n ok) Q st:=by
 unfold binarySort'
 refine zp (zaM (zmP (Q:=fun z s1=>z.1=none/\Sb lo st s1/\UpI R (arrOf s1) lo (lo+n)) (I:=fun k (z:Option Bool × Unit) s1=>z.1=none/\Sb lo st s1/\UpI R (arrOf s1) lo (lo+k)) (by omega) ⟨rfl,Sb.refl lo st,by rw [show max ok 1=ok by omega]; exact u⟩ (step:=?st1) (fin:=fun c s h=>h)) ?re1)
 case re1 =>
  rintro ⟨z,z'⟩ s1 ⟨e,sb,u⟩
  dsimp only at e ⊢
  rw [e]; exact zt (h s1 sb u)
 case st1 =>
  rintro k ⟨z,z'⟩ s1 hk1 hk2 ⟨e,sb,u⟩
  dsimp only at e sb u ⊢
  have al1:=al.perm sb.m
  have sz:(arrOf s1).size=(arrOf st).size:=sb.m.size_eq
  obtain ⟨x,x1,x2⟩:=al1.get (show lo+k<_ by omega)
  refine zp (zaM (zaB (Q:=fun z s2=>s2=s1/\z.1=none/\z.2.1<=k/\(∀ i,i<z.2.1->∀ v,(arrOf s1)[lo+i]?=some v->R v x=true)/\∀ i,z.2.1<=i->i<k->∀ v,(arrOf s1)[lo+i]?=some v->R x v=true)
   (I:=fun r (z:Option Bool × Nat × Nat) s2=>s2=s1/\z.1=none/\z.2.1<=z.2.2/\z.2.2<=k/\z.2.2<=z.2.1+r/\(∀ i,i<z.2.1->∀ v,(arrOf s1)[lo+i]?=some v->R v x=true)/\∀ i,z.2.2<=i->i<k->∀ v,(arrOf s1)[lo+i]?=some v->R x v=true)
   ⟨rfl,rfl,yn _,yD _,by dsimp only; omega,fun i hi=>by dsimp only at hi; omega,fun i hi hj=>by dsimp only at hi; omega⟩ (step:=?st2) (fin:=?fi2)) ?re2)
  case fi2 =>
   rintro ⟨z,l,r⟩ s2 ⟨e1,e2,h1,h2,h3,h4,h5⟩
   dsimp only at h1 h2 h3 h4 h5 ⊢
   exact ⟨e1,e2,by omega,h4,fun i hi=>h5 i (by omega)⟩
  case st2 =>
   rintro r' _ ⟨z,l,r⟩ s2 ⟨e1,e2,h1,h2,h3,h4,h5⟩
   dsimp only at e1 e2 h1 h2 h3 h4 h5 ⊢
   rw [e1]; split
   ·exact zt ⟨rfl,rfl,by dsimp only; omega,h4,fun i hi=>h5 i (by dsimp only at hi; omega)⟩
   rename_i q
   obtain ⟨y,y1,y2⟩:=al1.get (show lo+(l+r) / 2<_ by omega)
   refine zp (zgz c (sb.k.trans hk) x2 y2 x1 y1 ?_)
   cases hR:R x y with
   | true =>
    refine zt ⟨rfl,rfl,by dsimp only; omega,by dsimp only; omega,by dsimp only; omega,h4,fun i hi hj v ev=>?_⟩
    dsimp only at hi
    by_cases hz:i=(l+r) / 2
    ·subst hz
     rw [y1] at ev; cases ev; exact hR
    ·exact o.trans x y v x2 y2 (al1.at ev) hR (u (lo+(l+r) / 2) (lo+i) (by omega) (by omega) (by omega) y v y1 ev)
   | false =>
    have hR':=al1.tot o (by omega) x1 y1 hR
    refine zt ⟨rfl,rfl,by dsimp only; omega,by dsimp only; omega,by dsimp only; omega,fun i hi v ev=>?_,h5⟩
    dsimp only at hi
    by_cases hz:i=(l+r) / 2
    ·subst hz
     rw [y1] at ev; cases ev; exact hR'
    ·exact o.trans v y x (al1.at ev) y2 x2 (u (lo+i) (lo+(l+r) / 2) (by omega) (by omega) (by omega) v y ev y1) hR'
  case re2 =>
   rintro ⟨z,l,r⟩ s2 ⟨e1,e2,h2,h4,h5⟩
   dsimp only at e1 e2 h2 h4 h5 ⊢
   rw [e1,e2]; refine zp (zaO (zt ?_))
   have gg:∀ i:Nat,(bubble (arrOf s1) (lo+k) (lo+k-(lo+l)))[i]?=if i=lo+l then some x else if lo+l<i/\i<=lo+k then (arrOf s1)[i-1]? else (arrOf s1)[i]?:=fun i=>by
    rw [getElem?_bubble (by omega) _ (by omega),show lo+k-(lo+k-(lo+l))=lo+l by omega,x1]
   refine ⟨rfl,sb.trans ⟨rfl,rfl,rfl,bubble_perm _ _ _,fun i hi=>?_⟩,fun p q hp hpq hq v z' ev ez=>?_⟩
   ·show (bubble (arrOf s1) (lo+k) (lo+k-(lo+l)))[i]?=_
    rw [gg,yH (by omega),yH (by omega)]
   ·have ev':=(gg p).symm.trans ev
    have ez':=(gg q).symm.trans ez
    by_cases p1:p=lo+l
    ·rw [yI p1] at ev'
     cases ev'
     rw [yH (by omega),yI (by omega)] at ez'
     refine h5 (q-1-lo) (by omega) (by omega) z' ?_
     rw [show lo+(q-1-lo)=q-1 by omega]
     exact ez'
    rw [yH p1] at ev'
    by_cases p2:p<lo+l
    ·rw [yH (by omega)] at ev'
     by_cases q1:q=lo+l
     ·rw [yI q1] at ez'
      cases ez'
      refine h4 (p-lo) (by omega) v ?_
      rw [show lo+(p-lo)=p by omega]
      exact ev'
     rw [yH q1] at ez'
     split at ez'
     ·exact u p (q-1) hp (by omega) (by omega) v z' ev' ez'
     ·exact u p q hp (by omega) (by omega) v z' ev' ez'
    ·rw [yI (by omega)] at ev'
     rw [yH (by omega),yI (by omega)] at ez'
     exact u (p-1) (q-1) (by omega) (by omega) (by omega) v z' ev' ez'
end
section
variable {α:Type} {R:α->α->Bool} {El:α->Prop} {a:Array α}
theorem zjx:∀ (l:List α) (j s:Nat) (a:Array α),s+j+l.length<=a.size->((l.zipIdx j).foldl (fun a (p:α × Nat)=>a.setIfInBounds (s+p.2) p.1) a).toList=a.toList.take (s+j) ++ l ++ a.toList.drop (s+j+l.length)
 | [],j,s,a,_=>by simp
 | x :: l,j,s,a,h=>by
  rw [List.zipIdx_cons,List.foldl_cons,zjx l (j+1) s _ (by simp at h ⊢; omega)]
  simp at h ⊢
  rw [show s+(j+1)=s+j+1 by omega,show s+j+1+l.length=s+j+(l.length+1) by omega]
  rw [List.take_add_one,List.take_set_of_le (by omega),yr (by simp; omega),List.drop_set_of_lt (by omega)]
  simp
def zmD {l1 l2 m1 m2 out:List α} (u1:Up R (l1 ++ l2)) (u2:Up R (m1 ++ m2)) (g:Gd R l2 m1 out) (h1:∀ x ∈ l1,∀ y ∈ m1 ++ m2,R x y=true) (h2:∀ x ∈ l1 ++ l2,∀ y ∈ m2,R x y=true):Gd R (l1 ++ l2) (m1 ++ m2) (l1 ++ out ++ m2):=by
 obtain ⟨p,u⟩:=g; obtain ⟨a1,a2,a3⟩:=yt.mp u1; obtain ⟨b1,b2,b3⟩:=yt.mp u2; refine ⟨?_,?_⟩
 ·refine ((p.append_left l1).append_right m2).trans ?_
  simp
 ·refine yt.mpr ⟨yt.mpr ⟨a1,u,fun x hx y hy=>?_⟩,b2,fun x hx y hy=>?_⟩
  ·rcases yb.mp (p.mem_iff.mp hy) with q | q
   ·exact a3 x hx y q
   ·exact h1 x hx y (YE _ q)
  ·rcases yb.mp hx with q | q
   ·exact h2 x (YE _ q) y hy
   ·rcases yb.mp (p.mem_iff.mp q) with q | q
    ·exact h2 x (yV _ q) y hy
    ·exact b3 x q y hy
def zbu {i j:Nat} {x:α} (h:x ∈ (a.extract i j).toList):∃ p,i<=p/\p<j/\a[p]?=some x:=by
 obtain ⟨q,e⟩:=List.mem_iff_getElem?.mp h; rw [yR,YN] at e; split at e
 ·exact ⟨i+q,by omega,by omega,e⟩
 ·cases e
def zfA {i j:Nat} (u:UpI R a i j):Up R (a.extract i j).toList:=YJ.mpr fun p q hp hq hpq=>by
 have e1:(a.extract i j).toList[p]?=some _:=yB hp
 have e2:(a.extract i j).toList[q]?=some _:=yB hq
 rw [yR,YN] at e1 e2; split at e1
 ·split at e2
  ·exact u (i+p) (i+q) (by omega) (by omega) (by omega) _ _ e1 e2
  ·cases e2
 ·cases e1
def zm0 (u:UpI R a 0 a.size):Up R a.toList:=by
 have:=zfA u
 simpa using this
def zcE {i j k:Nat} (h1:i<=j) (h2:j<=k):(a.extract i j).toList ++ (a.extract j k).toList=(a.extract i k).toList:=by
 rw [<- YO,Array.extract_append_extract]; rw [Nat.min_eq_left h1,Nat.max_eq_right h2]
end
def zhM:Nat->StateT SortSt Sem Bool:=sortPriv% PySem.Builtin.mergeAt
section
variable {J:Shared->Prop} {κ:SortKind} {El:Keyed->Prop} {R:Keyed->Keyed->Bool}
def ztA {s':SortSt} {Q:PUnit->SortSt->Prop} {st:SortSt} (h:Q ⟨⟩ s'):T prog w A E J (set s') Q st:=zaO (f:=fun _=>s') h
def zkJ (c:Cmp prog w A κ El R J) (o:Ord R El) {st:SortSt} {n1 n2 pw pw':Nat} {Q:Bool->SortSt->Prop} (hk:kindOf st=κ) (al:Al El (arrOf st)) (hp:pendingOf st=#[(0,n1,pw),(n1,n2,pw')]) (hf:failedOf st=none) (hs:n1+n2=(arrOf st).size) (h1:0<n1) (h2:0<n2) (u1:UpI R (arrOf st) 0 n1) (u2:UpI R (arrOf st) n1 (n1+n2))
  (h:∀ (st':SortSt),kindOf st'=κ->(pendingOf st').size=1->failedOf st'=none->(arrOf st').toList.Perm (arrOf st).toList->Up R (arrOf st').toList->Q true st'):T prog w A E J (zhM 0) Q st:=by
 unfold zhM; refine zp (zeo ?_); have hp':=hp; unfold pendingOf at hp'
 dsimp only
 rw [hp']; refine zp (ztA ?_)
 refine (fun (key:∀ st2:SortSt,kindOf st2=κ/\(pendingOf st2).size=1/\failedOf st2=none/\arrOf st2=arrOf st->T prog w A E J _ Q st2)=>key _ (by exact ⟨hk,by show (Array.eraseIdxIfInBounds _ _).size=1; simp [Array.eraseIdxIfInBounds],hf,rfl⟩)) ?_
 intro st2 ⟨k2,p2,f2,a2⟩
 have fin:∀ (st':SortSt),kindOf st'=κ->(pendingOf st').size=1->failedOf st'=none->(arrOf st').toList.Perm (arrOf st).toList->Up R (arrOf st').toList->Q true st':=h
 generalize ea:arrOf st=a at *; have ea':=ea; unfold arrOf at ea'; rw [ea']
 obtain ⟨y0,y1,y2⟩:=al.get (show n1<a.size by omega)
 obtain ⟨k,k1,k2'⟩:=zhc (fun x=>!(R y0 x)) (a.extract 0 n1).toList fun i j u v hij e1 e2 e3=>by
  rw [yR,YN] at e1 e2; split at e1
  ·split at e2
   ·have hu:=u1 (0+i) (0+j) (by omega) (by omega) (by omega) u v e1 e2
    cases hz:R y0 u with
    | false=>rfl
    | true =>
     have:=o.trans y0 u v y2 (al.at e1) (al.at e2) hz hu
     rw [this] at e3; exact e3
   ·cases e2
  ·cases e1
 have k3:∀ i x,i<n1->a[i]?=some x->((!(R y0 x))=true↔i<k):=fun i x hi e=>k2' i x (by rw [yR,YN,yI (by omega),Nat.zero_add]; exact e)
 replace k1:k<=n1:=by simp at k1; omega
 refine zp (zax y1 (zp (zck (k:=k) c k2 y2 (fun i hi=>?g1) h1 k1 ?_)))
 case g1 =>
  obtain ⟨x,x1,x2⟩:=al.get (show i<a.size by omega)
  refine ⟨x,by rw [Nat.zero_add]; exact x1,x2,?_⟩
  unfold byd
  rw [yH (by decide)]
  exact k3 i x hi x1
 have lt1:∀ i x,i<k->a[i]?=some x->R x y0=true:=fun i x hi e=>by
  refine al.tot o (show n1≠i by omega) y1 e ?_
  have:=(k3 i x (by omega) e).mpr hi
  simpa using this
 have lt2:∀ i x,n1<i->a[i]?=some x->R y0 x=true:=fun i x hi e=>by
  have:=(yu.mp e).1
  exact u2 n1 i (yD _) hi (by omega) y0 x y1 e
 have lt3:∀ i j x y,i<k->n1<=j->a[i]?=some x->a[j]?=some y->R x y=true:=fun i j x y hi hj e1 e2=>by
  by_cases hz:j=n1
  ·subst hz
   rw [y1] at e2; cases e2; exact lt1 i x hi e1
  ·exact o.trans x y0 y (al.at e1) y2 (al.at e2) (lt1 i x hi e1) (lt2 j y (by omega) e2)
 dsimp only
 split
 ·rename_i q
  have q1:n1-k=0:=beq q
  refine zt (fin st2 k2 p2 f2 (by rw [a2]) ?_)
  rw [a2]
  refine zm0 fun p q hp hpq hq x y e1 e2=>?_
  by_cases c1:q<n1
  ·exact u1 p q hp hpq c1 x y e1 e2
  by_cases c2:n1<=p
  ·exact u2 p q c2 hpq (by omega) x y e1 e2
  ·exact lt3 p q x y (by omega) (by omega) e1 e2
 rename_i q
 have q1:¬ n1-k=0:=nbe q
 obtain ⟨xl,x1,x2⟩:=al.get (show n1-1<a.size by omega)
 obtain ⟨k',l1,l2'⟩:=zhc (fun z=>R z xl) (a.extract n1 (n1+n2)).toList fun i j u v hij e1 e2 e3=>by
  rw [yR,YN] at e1 e2; split at e1
  ·split at e2
   ·exact o.trans u v xl (al.at e1) (al.at e2) x2 (u2 (n1+i) (n1+j) (by omega) (by omega) (by omega) u v e1 e2) e3
   ·cases e2
  ·cases e1
 have l3:∀ i z,i<n2->a[n1+i]?=some z->(R z xl=true↔i<k'):=fun i x hi e=>l2' i x (by rw [yR,YN,yI (by omega)]; exact e)
 replace l1:k'<=n2:=by simp at l1; omega
 refine zp (zax (x:=xl) (by rw [show 0+k+(n1-k)-1=n1-1 by omega]; exact x1) (zp (zck (k:=k') c k2 x2 (fun i hi=>?g2) (by omega) l1 ?_)))
 case g2 =>
  obtain ⟨x,x1,x2⟩:=al.get (show n1+i<a.size by omega)
  refine ⟨x,x1,x2,?_⟩; unfold byd; rw [yI rfl]; exact l3 i x hi x1
 have low:∀ i x,k<=i->i<n1->a[i]?=some x->R y0 x=true:=fun i x hi hj e=>by
  have:=k3 i x hj e
  cases hz:R y0 x with
  | true=>rfl
  | false=>rw [hz] at this; exact yP (this.mp rfl) (by omega)
 have l4:0<k':=(l3 0 y0 h2 y1).mp (low (n1-1) xl (by omega) (by omega) x1)
 have hi1:∀ i z,n1<=i->i<n1+k'->a[i]?=some z->R z xl=true:=fun i z hi hj e=>by
  refine (l3 (i-n1) z (by omega) ?_).mpr (by omega)
  rw [show n1+(i-n1)=i by omega]
  exact e
 have hi2:∀ i z,n1+k'<=i->a[i]?=some z->R xl z=true:=fun i z hi e=>by
  have hlt:=(yu.mp e).1
  refine al.tot o (show i≠n1-1 by omega) e x1 ?_
  have:=l3 (i-n1) z (by omega) (by rw [show n1+(i-n1)=i by omega]; exact e)
  cases hz:R z xl with
  | false=>rfl
  | true=>exact yP (this.mp hz) (by omega)
 dsimp only
 split
 ·rename_i q
  have:k'=0:=beq q
  omega
 have fin2:∀ (m:Array Keyed) (st3:SortSt),Gd R (a.extract k n1).toList (a.extract n1 (n1+k')).toList m.toList->Sm st2 st3->T prog w A E J (do
   modify fun s=>setArr s (List.foldl (fun a (x:Keyed × Nat)=>a.setIfInBounds (0+k+x.2) x.1) (arrOf s) m.toList.zipIdx)
   let s <- get
   pure (failedOf s).isNone) Q st3:=by
  intro m st3 g sm; refine zp (zaO (zp (zeo ?_)))
  refine (fun (e:(failedOf st3).isNone=true)=>?_) (by rw [sm.2.2.2,f2]; rfl)
  show T _ _ _ _ _ (pure (failedOf st3).isNone) Q _
  rw [e]
  have lm:m.toList.length=n1-k+k':=by
   rw [g.1.length_eq]; simp; omega
  have er:(List.foldl (fun a (x:Keyed × Nat)=>a.setIfInBounds (0+k+x.2) x.1) (arrOf st3) m.toList.zipIdx).toList=(a.extract 0 k).toList ++ m.toList ++ (a.extract (n1+k') a.size).toList:=by
   rw [sm.2.1,a2,zjx m.toList 0 (0+k) a (by omega),lm]
   simp
   rw [show k+(n1-k+k')=n1+k' by omega,yq (by simp)]
  have gg:=zmD (R:=R) (l1:=(a.extract 0 k).toList) (l2:=(a.extract k n1).toList) (m1:=(a.extract n1 (n1+k')).toList) (m2:=(a.extract (n1+k') a.size).toList)
   (by rw [zcE (by omega) k1]; exact zfA u1) (by rw [zcE (by omega) (by omega),<- hs]; exact zfA u2) g
   (fun x hx y hy=>by
    rw [zcE (by omega) (by omega)] at hy
    obtain ⟨i,i1,i2,i3⟩:=zbu hx; obtain ⟨j,j1,j2,j3⟩:=zbu hy; exact lt3 i j x y i2 j1 i3 j3)
   (fun x hx y hy=>by
    rw [zcE (by omega) k1] at hx
    obtain ⟨i,i1,i2,i3⟩:=zbu hx; obtain ⟨j,j1,j2,j3⟩:=zbu hy; have hy':=hi2 j y j1 j3
    by_cases c1:i=n1-1
    ·subst c1
     rw [x1] at i3; cases i3; exact hy'
    ·exact o.trans x xl y (al.at i3) x2 (al.at j3) (u1 i (n1-1) i1 (by omega) (by omega) x xl i3 x1) hy')
  refine zt (fin _ (sm.1.trans k2) (by show (pendingOf st3).size=1; rw [sm.2.2.1]; exact p2) (sm.2.2.2.trans f2) ?_ ?_)
  ·show (List.foldl (fun a (x:Keyed × Nat)=>a.setIfInBounds (0+k+x.2) x.1) (arrOf st3) m.toList.zipIdx).toList.Perm a.toList
   rw [er]; refine gg.1.trans ?_
   rw [zcE (by omega) k1,zcE (by omega) (by omega),zcE (by omega) (by omega)]
   simp
  ·show Up R (List.foldl (fun a (x:Keyed × Nat)=>a.setIfInBounds (0+k+x.2) x.1) (arrOf st3) m.toList.zipIdx).toList
   rw [er]; exact gg.2
 have hd:∀ x ∈ (a.extract k n1).toList,∀ y ∈ (a.extract n1 (n1+k')).toList,x≠y:=fun x hx y hy=>by
  obtain ⟨i,i1,i2,i3⟩:=zbu hx; obtain ⟨j,j1,j2,j3⟩:=zbu hy
  exact nd_ne al.nd (show i≠j by omega) (by rw [yR]; exact i3) (by rw [yR]; exact j3)
 have hfst:∀ y,(a.extract n1 (n1+k')).toList[0]?=some y->∀ x ∈ (a.extract k n1).toList,R y x=true:=fun y e x hx=>by
  obtain ⟨i,i1,i2,i3⟩:=zbu hx
  rw [yR,YN,yI (by omega),Nat.add_zero,y1] at e
  cases e; exact low i x i1 i2 i3
 have hlst:∀ x,(a.extract k n1).toList[(a.extract k n1).size-1]?=some x->∀ z ∈ (a.extract n1 (n1+k')).toList,R z x=true:=fun x e z hz=>by
  have sz:(a.extract k n1).size=n1-k:=by simp; omega
  obtain ⟨j,j1,j2,j3⟩:=zbu hz
  rw [yR,YN,yI (by omega),sz,show k+(n1-k-1)=n1-1 by omega,x1] at e
  cases e; exact hi1 j z j1 j2 j3
 have elA:∀ x ∈ (a.extract k n1).toList,El x:=fun x hx=>by
  obtain ⟨i,i1,i2,i3⟩:=zbu hx; exact al.at i3
 have elB:∀ x ∈ (a.extract n1 (n1+k')).toList,El x:=fun x hx=>by
  obtain ⟨i,i1,i2,i3⟩:=zbu hx; exact al.at i3
 have upA:Up R (a.extract k n1).toList:=zfA fun p q i1 i2 i3=>u1 p q (by omega) i2 i3
 have upB:Up R (a.extract n1 (n1+k')).toList:=zfA fun p q i1 i2 i3=>u2 p q i1 i2 (by omega)
 have szA:0<(a.extract k n1).size:=by simp; omega
 have szB:0<(a.extract n1 (n1+k')).size:=by simp; omega
 have ek:0+k=k:=Nat.zero_add k
 split
 ·refine zp ?_
  have:=zkH (E:=E) (Q:=fun m st3=>Gd R (a.extract k n1).toList (a.extract n1 (n1+k')).toList m.toList/\Sm st2 st3) c o k2 elA elB upA upB szA szB (fun x y e1 e2=>hfst y e1 x (yL e2)) hlst hd fun r s' g sm=>⟨g,sm⟩
  rw [ek]
  exact zaM this fun m st3 hh=>by have:=fin2 m st3 hh.1 hh.2; rw [ek] at this; exact this
 ·refine zp ?_
  have:=zkI (E:=E) (Q:=fun m st3=>Gd R (a.extract k n1).toList (a.extract n1 (n1+k')).toList m.toList/\Sm st2 st3) c o k2 elA elB upA upB szA szB hfst hlst hd fun r s' g sm=>⟨g,sm⟩
  rw [ek]
  exact zaM this fun m st3 hh=>by have:=fin2 m st3 hh.1 hh.2; rw [ek] at this; exact this
end
structure Rs (κ:SortKind) (st s:SortSt):Prop where
 k:kindOf s=κ
 f:failedOf s=none
 m:(arrOf s).Perm (arrOf st)
theorem Rs.sb {κ:SortKind} {st s s':SortSt} {lo:Nat} (h:Rs κ st s) (sb:Sb lo s s'):Rs κ st s':=⟨sb.k.trans h.k,sb.f.trans h.f,sb.m.trans h.m⟩
def Two (R:Keyed->Keyed->Bool) (N:Nat) (s:SortSt):Prop:=∃ n1 n2 pw,0<n1/\0<n2/\n1+n2=N/\pendingOf s=#[(0,n1,pw),(n1,n2,0)]/\UpI R (arrOf s) 0 n1/\UpI R (arrOf s) n1 (n1+n2)
def One (R:Keyed->Keyed->Bool) (s:SortSt):Prop:=(pendingOf s).size=1/\Up R (arrOf s).toList
def zoN {N:Nat} (h1:64<=N) (h2:N<128):minRun' N N 0=N / 2+N % 2:=by
 obtain ⟨f,e⟩:∃ f,N=f+2:=⟨N-2,by omega⟩
 have:minRun' (f+1+1) N 0=N / 2+N % 2:=by
  rw [minRun'_succ,yH (by omega),minRun'_succ,yI (by omega)]
  omega
 rw [<- this,e]
section
variable {J:Shared->Prop} {κ:SortKind} {El:Keyed->Prop} {R:Keyed->Keyed->Bool}
def ziS (c:Cmp prog w A κ El R J) (o:Ord R El) {st:SortSt} {Q:Unit->SortSt->Prop} (hk:kindOf st=κ) (al:Al El (arrOf st)) (hp:pendingOf st=#[]) (hf:failedOf st=none) (h1:64<=(arrOf st).size) (h2:(arrOf st).size<128)
  (h:∀ (st':SortSt),failedOf st'=none->(arrOf st').toList.Perm (arrOf st).toList->Up R (arrOf st').toList->Q () st'):T prog w A E J sortRuns' Q st:=by
 unfold sortRuns'; refine zp (zeo ?_)
 extract_lets size minrun lo
 generalize eN:(arrOf st).size=N at *
 have hN:size=N:=eN
 have hm:minrun=N / 2+N % 2:=by
  show minRun' size size 0=_
  rw [hN]; exact zoN h1 h2
 clear_value minrun size
 subst hN
 have szR:∀ {s:SortSt},Rs κ st s->(arrOf s).size=size:=fun h=>h.m.size_eq.trans eN
 refine zp (zaM (zaB (Q:=fun z s1=>z.1=none/\Rs κ st s1/\(One R s1\/Two R size s1))
  (I:=fun r (z:Option Unit × Nat) s1=>z.1=none/\Rs κ st s1/\(z.2=0/\pendingOf s1=#[]/\r=size\/minrun<=z.2/\z.2<=size/\pendingOf s1=#[(0,z.2,0)]/\UpI R (arrOf s1) 0 z.2/\r+1=size\/z.2=size/\Two R size s1))
  ⟨rfl,⟨hk,hf,.refl _⟩,.inl ⟨rfl,hp,Nat.sub_zero _⟩⟩ (step:=?st1) (fin:=?fi1)) ?re1)
 case fi1 =>
  rintro ⟨z,lo⟩ s1 ⟨e,rs,q | q | q⟩
  ·have:=q.2.2
   omega
  ·have:=q.2.2.2.2
   omega
  ·exact ⟨e,rs,.inr q.2⟩
 case re1 =>
  rintro ⟨z,lo⟩ s1 ⟨e,rs,q⟩
  dsimp only at e ⊢
  rw [e]
  refine zp (zaM (zaB (Q:=fun z s1=>z.1=none/\Rs κ st s1/\One R s1)
   (I:=fun r (z:Option Unit × Unit) s1=>z.1=none/\Rs κ st s1/\(One R s1\/Two R size s1/\r=size)) ⟨rfl,rs,q.imp id fun q=>⟨q,Nat.sub_zero _⟩⟩ (step:=?st2) (fin:=?fi2)) ?re2)
  case fi2 =>
   rintro ⟨z,_⟩ s1 ⟨e,rs,q | q⟩
   ·exact ⟨e,rs,q⟩
   ·have:=q.2
    omega
  case re2 =>
   rintro ⟨z,_⟩ s1 ⟨e,rs,q⟩
   dsimp only at e ⊢
   rw [e]; exact zt (h s1 rs.f (Array.perm_iff_toList_perm.mp rs.m) q.2)
  case st2 =>
   rintro r _ ⟨z,_⟩ s1 ⟨e,rs,q | ⟨⟨n1,n2,pw,q1,q2,q3,q4,q5,q6⟩,_⟩⟩
   ·refine zp (zeo ?_)
    have q':=q.1; unfold pendingOf at q'
    rw [q',yI (by decide)]
    exact zt ⟨rfl,rs,q⟩
   ·refine zp (zeo ?_)
    have q':=q4; unfold pendingOf at q'
    rw [q',yH (by show ¬ (2<=1); decide)]
    refine zp (zkJ c o rs.k (al.perm rs.m) q4 rs.f (by rw [szR rs]; exact q3) q1 q2 q5 q6 fun s' i1 i2 i3 i4 i5=>?_)
    exact zt ⟨rfl,⟨i1,i3,(Array.perm_iff_toList_perm.mpr i4).trans rs.m⟩,.inl ⟨i2,i5⟩⟩
 case st1 =>
  rintro r _ ⟨z,lo⟩ s1 ⟨e,rs,q⟩
  dsimp -zeta only at e q ⊢
  extract_lets lo' jp force nf
  split
  ·rename_i hq
   have hq':size<=lo:=hq
   refine zt ⟨rfl,rs,?_⟩
   rcases q with q | q | q
   ·omega
   ·have e:lo=size:=by omega
    refine .inl ⟨by rw [q.2.2.1]; rfl,zm0 ?_⟩
    rw [szR rs,<- e]; exact q.2.2.2.1
   ·exact .inr q.2
  rename_i hq
  have hq':lo<size:=Nat.lt_of_not_le hq
  refine zp (ziT c o rs.k (al.perm rs.m) (show lo+(size-lo)=_ by rw [szR rs]; omega) (by omega) fun n s2 n1 n2 sb u=>?_)
  dsimp -zeta only
  extract_lets n'
  have hjp:∀ (x:PUnit) (n:Nat) (s5:SortSt),Sb lo s1 s5->UpI R (arrOf s5) lo (lo+n)->n<=size-lo->(minrun<=n\/n=size-lo)->T prog w A E J (jp x n) (zkN (fun z s1=>z.1=none/\Rs κ st s1/\(One R s1\/Two R size s1)) (fun z s1=>z.1=none/\Rs κ st s1/\(z.2=0/\pendingOf s1=#[]/\r=size\/minrun<=z.2/\z.2<=size/\pendingOf s1=#[(0,z.2,0)]/\UpI R (arrOf s1) 0 z.2/\r+1=size\/z.2=size/\Two R size s1))) s5:=by
   intro x n s5 sb u hn hor; have rs5:=rs.sb sb
   dsimp -zeta only [jp]
   refine zp (zeo ?_); have pp:=sb.p
   rcases q with ⟨q1,q2,q3⟩ | ⟨q1,q2,q3,q4,q5⟩ | q
   ·rw [q2] at pp
    have pp':=pp; unfold pendingOf at pp'
    dsimp only
    rw [pp']
    refine zp (zaO (zt ⟨rfl,⟨rs5.k,rs5.f,rs5.m⟩,.inr (.inl ⟨?_,?_,?_,?_,by omega⟩)⟩))
    ·show minrun<=lo+n
     omega
    ·show lo+n<=size
     omega
    ·show (pendingOf s5).push (lo,n,0)=#[(0,lo+n,0)]
     rw [pp,q1,Nat.zero_add]; rfl
    ·show UpI R (arrOf s5) 0 (lo+n)
     rw [<- q1]; exact u
   ·rw [q3] at pp
    have pp':=pp; unfold pendingOf at pp'
    dsimp only
    rw [pp']
    refine zp (zaM (zaB (Q:=fun z s1=>z.1=none/\s1=s5) (I:=fun r (z:Option Unit × Unit) s1=>z.1=none/\s1=s5) ⟨rfl,rfl⟩ (step:=?st3) (fin:=fun _ _ h=>h)) ?re3)
    case st3 =>
     rintro r _ ⟨z,_⟩ s6 ⟨e1,e2⟩
     rw [e2]; refine zp (zeo ?_)
     rw [pp',yH (by show ¬ (1 > 1); decide)]
     exact zt ⟨rfl,rfl⟩
    case re3 =>
     rintro ⟨z,_⟩ s6 ⟨e1,e2⟩
     dsimp only at e1 ⊢
     rw [e1,e2]; refine zp (zaO (zp (zaO (zt ⟨rfl,⟨rs5.k,rs5.f,rs5.m⟩,.inr (.inr ⟨?_,lo,n,power' size (2 * 0+lo) (2 * 0+lo+lo+n) size,?_,?_,?_,?_,?_,?_⟩)⟩))))
     ·show lo+n=size
      omega
     ·omega
     ·omega
     ·omega
     ·show ((pendingOf s5).modify ((pendingOf s5).size-1) fun x=>(x.1,x.2.1,power' size (2 * 0+lo) (2 * 0+lo+lo+n) size)).push (lo,n,0)=_
      rw [pp]; simp
     ·intro p q i1 i2 i3 x y e1 e2
      exact q4 p q i1 i2 i3 x y ((sb.b p (by omega)).symm.trans e1) ((sb.b q (by omega)).symm.trans e2)
     ·exact u
   ·omega
  split
  ·refine zp (zeF ?_)
   have hfo:force=min (size-lo) minrun:=rfl
   refine zp (zgA c o (sb.k.trans rs.k) ((al.perm rs.m).perm sb.m) (n:=force) (ok:=n) (lo:=lo) ?_ n1 ?_ u fun s3 sb3 u3=>?_)
   ·rw [szR (rs.sb sb)]
    omega
   ·have:n<minrun:=by assumption
    omega
   ·exact hjp ⟨⟩ force s3 (sb.trans sb3) u3 (by omega) (by omega)
  ·rename_i hnm
   have:¬ n<minrun:=hnm
   exact hjp ⟨⟩ n s2 sb u n2 (.inl (by omega))
end
theorem ztG {α:Type} {R:α->α->Bool} (as:∀ x y,R x y=true->R y x=true->False):∀ (l m:List α),Up R l->Up R m->(∀ x,x ∈ l↔x ∈ m)->l=m
 | [],[],_,_,_=>rfl
 | [],y :: m,_,_,h=>nomatch (h y).mpr (.head _)
 | x :: l,[],_,_,h=>nomatch (h x).mp (.head _)
 | x :: l,y :: m,u1,u2,h=>by
  obtain ⟨a1,a2⟩:=List.pairwise_cons.mp u1; obtain ⟨b1,b2⟩:=List.pairwise_cons.mp u2
  have e:x=y:=by
   rcases yQ.mp ((h x).mp (.head _)) with q | q
   ·exact q
   ·rcases yQ.mp ((h y).mpr (.head _)) with q2 | q2
    ·exact q2.symm
    ·exact (as x y (a1 y q2) (b1 x q)).elim
  subst e
  rw [ztG as l m a2 b2 fun z=>⟨fun hz=>?_,fun hz=>?_⟩]
  ·rcases yQ.mp ((h z).mp (.tail _ hz)) with q | q
   ·subst q
    exact (as z z (a1 z hz) (a1 z hz)).elim
   ·exact q
  ·rcases yQ.mp ((h z).mpr (.tail _ hz)) with q | q
   ·subst q
    exact (as z z (b1 z hz) (b1 z hz)).elim
   ·exact q
section
variable {a kS:Addr} {vs ks:List Value} {κ:SortKind}
open Classical in
noncomputable def Ri (lt:Nat->Nat->Bool) (f:Nat->Keyed) (n:Nat) (x y:Keyed):Bool:=decide (∃ i j,i<n/\j<n/\x=f i/\y=f j/\lt i j=true)
open Classical in
def zkL {lt:Nat->Nat->Bool} {f:Nat->Keyed} {n:Nat} {x y:Keyed}:Ri lt f n x y=true↔∃ i j,i<n/\j<n/\x=f i/\y=f j/\lt i j=true:=by
 unfold Ri; exact decide_eq_true_iff
def ztB {lt:Nat->Nat->Bool} {f:Nat->Keyed} {n:Nat} (nd:∀ i j,i<n->j<n->f i=f j->i=j) {i j:Nat} (hi:i<n) (hj:j<n):Ri lt f n (f i) (f j)=lt i j:=by
 cases e:lt i j with
 | true=>exact zkL.mpr ⟨i,j,hi,hj,rfl,rfl,e⟩
 | false =>
  refine Yc.mpr fun z=>?_
  obtain ⟨i',j',h1,h2,e1,e2,e3⟩:=zkL.mp z; rw [<- nd i i' hi h1 e1,<- nd j j' hj h2 e2,e] at e3; cases e3
def srt_endT {e e1:Nat} {P:PySem.Fin->Shared->Prop} {lt:Nat->Nat->Bool} {J:Shared->Prop} {p:List Nat} (ne:kS≠a) (hl:ks.length=vs.length) (h64:64<=vs.length) (h128:vs.length<128) (o:So.Ord lt)
  (nd:∀ i j,i<vs.length->j<vs.length->ks.getD i Value.none=ks.getD j Value.none->i=j) (di:∀ i j,i<vs.length->j<vs.length->i≠j->lt i j=false->lt j i=true) (p1:∀ i,i ∈ p↔i<vs.length) (p2:p.Pairwise fun i j=>lt i j=true)
  (h:wpAny (model prog w) A (keyKind' (List.toArray ks)) (fun κ s'=>J s'/\∀ (i j:Nat) (C:Bool->Shared->Prop) s'',i<vs.length->j<vs.length->J s''->(∀ s3,J s3->C (lt i j) s3)->kas_ask prog w A κ ks i j C s'') (fun _ _=>False) s)
  (fin:∀ s',J s'->So.Fin3 a kS ks e e1 (p.map fun i=>vs.getD i Value.none) (fun s3=>P (.done (.ret .none)) s3) s') :
  wpAny (model prog w) A (ksk_end a false vs.toArray e1 (.ref kS) (List.toArray ks)) P E s:=by
 have hn2:¬ vs.toArray.size<2:=by rw [yS]; omega
 unfold ksk_end
 try dsimp only
 simp only [YL,if_false]; rw [yH hn2,yH hn2]
 refine yA (yf h (fun κ s0 ⟨hJ,hk⟩=>?_) fun _ _ x=>x.elim)
 let f:Nat->Keyed:=fun i=>(ks.getD i Value.none,vs.getD i Value.none)
 have fnd:∀ i j,i<vs.length->j<vs.length->f i=f j->i=j:=fun i j hi hj e=>nd i j hi hj (ym Prod.fst e)
 have sz:((List.toArray ks).zip (List.toArray vs)).size=vs.length:=by simp [hl]
 have fit:∀ i,i<vs.length->((List.toArray ks).zip (List.toArray vs))[i]?=some (f i):=fun i hi=>by
  have:=kat_item hl i
  unfold kas_item at this
  rw [ye (by omega)]
  rw [Array.getD_eq_getD_getElem?,ye (by omega),Ys] at this
  rw [this]
 have mem:∀ x,x ∈ ((List.toArray ks).zip (List.toArray vs)).toList↔∃ i,i<vs.length/\x=f i:=fun x=>by
  rw [List.mem_iff_getElem?]; constructor
  ·rintro ⟨i,e⟩
   rw [yR] at e; have hi:=(yu.mp e).1
   rw [fit i (by omega)] at e
   cases e
   exact ⟨i,by omega,rfl⟩
  ·rintro ⟨i,hi,e⟩
   exact ⟨i,by rw [yR,fit i hi,e]⟩
 have ri:∀ {i j},i<vs.length->j<vs.length->Ri lt f vs.length (f i) (f j)=lt i j:=fun hi hj=>ztB fnd hi hj
 have c:Cmp prog w A κ (fun x=>∃ i,i<vs.length/\x=f i) (Ri lt f vs.length) J:=⟨fun x y ⟨i,hi,ei⟩ ⟨j,hj,ej⟩ s hs=>by
  subst ei ej
  rw [ri hi hj]
  exact hk i j _ s hi hj hs fun s3 h3=>⟨rfl,h3⟩⟩
 have od:Ord (Ri lt f vs.length) (fun x=>∃ i,i<vs.length/\x=f i):=⟨fun x y z ⟨i,hi,ei⟩ ⟨j,hj,ej⟩ ⟨k,hk,ek⟩ h1 h2=>by
   subst ei ej ek
   rw [ri hi hj] at h1; rw [ri hj hk] at h2; rw [ri hi hk]
   exact So.lt_le o h1 (o.asym _ _ h2),fun x y ⟨i,hi,ei⟩ ⟨j,hj,ej⟩ hne h1=>by
   subst ei ej
   rw [ri hi hj] at h1; rw [ri hj hi]
   exact di i j hi hj (fun z=>hne (by rw [z])) h1⟩
 have al:Al (fun x=>∃ i,i<vs.length/\x=f i) ((List.toArray ks).zip (List.toArray vs)):=⟨fun x hx=>(mem x).mp hx,by
  refine YJ.mpr fun i j hi hj hij e=>?_
  have e1:=yB hi; have e2:=yB hj
  rw [yR,fit i (by simp at hi; omega)] at e1
  rw [yR,fit j (by simp at hj; omega),<- e,<- e1] at e2
  have:=fnd j i (by simp at hj; omega) (by simp at hi; omega) (Option.some.inj e2)
  omega⟩
 have run:=ziS (E:=E) (st:=SortSt.mk' κ ((List.toArray ks).zip (List.toArray vs)) #[] 7 none) (Q:=fun _ st'=>(arrOf st').map (·.2)=List.toArray (p.map fun i=>vs.getD i Value.none)/\p.length=vs.length/\failedOf st'=none) c od rfl al rfl rfl (by show 64<=((List.toArray ks).zip (List.toArray vs)).size; omega) (by show ((List.toArray ks).zip (List.toArray vs)).size<128; omega) (fun st' f1 pm up=>by
  have eq:(arrOf st').toList=p.map f:=by
   refine ztG (R:=Ri lt f vs.length) (fun x y h1 h2=>?_) _ _ up ?_ fun x=>?_
   ·obtain ⟨i,j,hi,hj,ei,ej,el⟩:=zkL.mp h1
    subst ei ej
    rw [ri hj hi] at h2; rw [o.asym _ _ el] at h2; cases h2
   ·refine List.pairwise_map.mpr (p2.imp_of_mem fun {i j} hi hj hij=>?_)
    rw [ri ((p1 i).mp hi) ((p1 j).mp hj)]; exact hij
   ·refine pm.mem_iff.trans ((mem x).trans ?_)
    rw [yh]
    exact ⟨fun ⟨i,hi,e⟩=>⟨i,(p1 i).mpr hi,e.symm⟩,fun ⟨i,hi,e⟩=>⟨i,(p1 i).mp hi,e.symm⟩⟩
  refine ⟨?_,?_,f1⟩
  ·apply Array.toList_inj.mp
   rw [Array.toList_map,eq,YH]; rfl
  ·have:=pm.length_eq
   rw [eq,yG] at this; rw [this]
   simp [hl])
 refine yA (yf (run s0 hJ) ?_ fun _ _ x=>x)
 rintro ⟨⟨⟩,st'⟩ s' ⟨⟨e1,e2,e3⟩,hJ'⟩
 try dsimp only
 exact So.srt_tail ne e1 (by rw [yG]; omega) (by omega) e3 (fin s' hJ')
end
end TS
namespace L2
open PySem PySem.Spec PySem.W PyProof.Rows
def Apart (ks:List V) (lt:Nat->Nat->Bool):Prop:=ks.Nodup/\∀ i j,i<ks.length->j<ks.length->i≠j->lt i j=false->lt j i=true
section
def zgp {k:Nat} {f:Addr} {fd:FuncData} {ps:List Str} {sp:Sp} {l:Addr} {xs:List V} {Q:VK} {E':Value->Shared->Prop} (F:FnOk X.prog X.w X.K X.mg X.base CX0 k f fd ps sp) (hr:Room (k+2) X.A) (hb:zbX X.K fd ps []) (I:Inv X pins σ H s) (hl:SqL X.K H l xs) (h128:xs.length<128)
  (h:zpC sp (fun ks H'=>∃ lt,So.Ord lt/\zmS X ks H' lt/\(64<=xs.length->Apart ks lt)/\∀ p,H' p=none->Q (.ref p) (upd H' p (.lst (zc5 lt xs)))) xs [] H) :
  wpAny (model X.prog X.w) X.A (call (.builtin "sorted") [.ref l] [(Str.ofString "key",.ref f)]) (EP X pins σ Q) E' s:=by
 refine zgq (fun _ _ _ _ _ _ I' rx hk=>zn5 F hr.in1.in1 I'.env0.in1.in1 hb I' (.cons rx .nil) hk) I hl h128 (fun vs ks kv H' s' D kS e e1 P E2 pins' rv rk hkl hDk I' hk fin3=>?_) h
 have hlen:=rv.length
 have hkl2:kv.length=xs.length:=by rw [rk.length,hkl,hlen]
 obtain ⟨lt,od,cmp,hap,hq⟩:=hk
 by_cases hn:vs.length<2
 ·refine So.srt_end1 hDk hkl hn (fin3 (zc5 lt xs) _ _ I' ?_ ?_ hq)
  ·unfold zc5
   rw [yI (by omega)]
   exact rv
  ·unfold zc5
   rw [yI (by omega)]
   omega
 have hN:1<=vs.length:=by omega
 have hsm:=zeP od hN
 have v1:zae (zc5 lt xs) ((So.run lt (kas_sort vs.length)).toList.map fun i=>vs.getD i Value.none):=by
  unfold zc5
  rw [yH (by omega),hlen]
  exact zhj rv _ fun i hi=>by rw [hlen]; exact hsm.2 i hi
 have v2:(zc5 lt xs).length<128:=by
  unfold zc5
  rw [yH (by omega),yG,hlen,hsm.1]
  omega
 by_cases h64:vs.length<64
 ·refine So.srt_end (e:=e) hDk hkl (by omega) h64 (yf (cmp X.A.in1.in1 _ σ s' ks I' rk (by omega)) (fun κ s3 hc=>?_) fun _ _ z=>z)
  obtain ⟨I3,hc⟩:=hc
  refine So.wp_of (lt:=lt) (N:=vs.length) (J:=fun s=>Inv X pins' σ H' s) (fun i j C s4 hi hj I4 hC=>hc i j C s4 (by omega) (by omega) I4 hC) (kas_sort vs.length) s3 (So.ok_sort od hN) I3 fun s4 I4=>?_
  exact fin3 (zc5 lt xs) _ _ I4 v1 v2 hq
 ·obtain ⟨nd,di⟩:=hap (by omega)
  obtain ⟨i1,i2,i3⟩:=MS.idx_facts od hN
  refine TS.srt_endT (lt:=lt) (J:=fun s=>Inv X pins' σ H' s) (p:=(So.run lt (kas_sort vs.length)).toList) hDk hkl (by omega) (by omega) od (fun i j hi hj e=>?_) (fun i j hi hj=>di i j (by omega) (by omega)) i3 ?_ (yf (cmp X.A.in1.in1 _ σ s' ks I' rk (by omega)) (fun κ s3 hc=>⟨hc.1,fun i j C s4 hi hj I4 hC=>hc.2 i j C s4 (by omega) (by omega) I4 hC⟩) fun _ _ z=>z) fun s4 I4=>fin3 (zc5 lt xs) _ _ I4 v1 v2 hq
  ·have r1:=zcU rk i (by omega)
   have r2:=zcU rk j (by omega)
   rw [e] at r1; have e2:=r1.inj r2
   have g1:kv[i]?=some (kv.getD i .non):=by simp [List.getD,yB (show i<kv.length by omega)]
   have g2:kv[j]?=some (kv.getD j .non):=by simp [List.getD,yB (show j<kv.length by omega)]
   exact Classical.byContradiction fun z=>TS.nd_ne nd z g1 g2 e2
  ·obtain ⟨b,sr⟩:=So.sort od hN
   refine YJ.mpr fun i j hi hj hij=>?_
   have z:=sr i j hij (by omega)
   have gg:∀ i (hi:i<(So.run lt (kas_sort vs.length)).toList.length),So.g (So.run lt (kas_sort vs.length)) i=(So.run lt (kas_sort vs.length)).toList[i]:=fun i hi=>by
    rw [So.g_eq]
    have hi':i<(So.run lt (kas_sort vs.length)).size:=by simpa using hi
    rw [ye hi']; simp
   rw [gg i hi,gg j hj] at z
   rcases z with z | ⟨z1,z2⟩
   ·exact z
   ·exact di _ _ (by have:=hsm.2 _ (Yi hj); omega) (by have:=hsm.2 _ (Yi hi); omega) (by omega) z1
def zpY (K:W.Frag) (X:Cx) (sp:Sp) (t:TA):TE:=fun σ H Q=>t σ H fun vs H1=>∃ l xs,vs=[.ref l]/\SqL K H1 l xs/\xs.length<128/\∀ f c fo oc H2,NewLam H1 H2 f c fo oc ->
 zpC (zjk f c fo oc sp) (fun ks H'=>∃ lt,So.Ord lt/\zmS X ks H' lt/\(64<=xs.length->Apart ks lt)/\∀ p,H' p=none->Q (.ref p) (upd H' p (.lst (zc5 lt xs)))) xs [] H2
def zlQ {k:Nat} {qual:Str} {params:Arguments} {body:Expr} {scope:Scope} {ps:List Str} {sp:Sp} {e:Expr} {t:TA} {p kpos lpos pos:Pos} (L:LamAt X qual)
  (hF:∀ (f c:Addr) (oc:Obj) (vs:Array Value) (t:Tok) (pm ctv:Value),oc.data=.fields vs->vs[1]?=some (.str qual t)->FnOk X.prog X.w X.K X.mg X.base CX0 k f (zj3 qual params body scope pm c ctv) ps (zjk f c (zdV qual params body scope pm c ctv) oc sp))
  (hb:∀ (pm:Value) (c:Addr) (ctv:Value) (us:List Value),us.length=ps.length->bindArgs (zj3 qual params body scope pm c ctv) ⟨us,[]⟩=pure (ps.zip us))
  (hr:Room (k+2) X.A) (hm:X.mg "sorted"=none) (ha:PA X [e] t) (hgs:Gl X "sorted":=by rfl)
  (hdef:defaultsOf params X.env=([],[]):=by rfl) (hcl:closureFor scope X.env=pure []:=by rfl)
  (he:backTo pos (starEach [e] X.env)=(false,eval e X.env) :: backTo pos (starEach [] X.env):=by rfl)
  (hplain:(backTo pos (starEach [e] X.env)).any (·.1)=false:=by rfl) :
  PE X (.Call (.Name "sorted" p) [e] [⟨some "key",.Lambda params body scope lpos,kpos⟩] pos) (zpY X.K X sp t):=by
 intro pins s σ H Q I h; refine YT (zdU I hgs hm boot_sorted ?_)
 refine callWith_kw (thn (ha pos pins s σ H _ I h) fun us s1 ⟨vs,H1,I1,r,q⟩=>?_) he hplain rfl rfl
 obtain ⟨l,xs,rfl,hl,h64,hk⟩:=q; obtain ⟨u,rfl,ru⟩:=zcl r; cases ru
 refine thn (zoo (nm:=some "key") (kpos:=kpos) (zqH (lpos:=lpos) L hdef hcl) zqz pos pins s1 σ H1 (fun zs H2=>∃ (f c:Addr) (oc:Obj) (vs:Array Value) (t:Tok) (pm ctv:Value),zs=[.ref f]/\oc.data=.fields vs/\vs[1]?=some (.str qual t)/\NewLam H1 H2 f c (zdV qual params body scope pm c ctv) oc) I1 ?_) fun ws s2 ⟨zs,H2,I2,rz,f,c,oc,vs,t0,pm,ctv,e1,hd,hv,nl⟩=>?_
 ·intro f c oc vs t0 pm ctv H2 hd hv nl
  exact ⟨f,c,oc,vs,t0,pm,ctv,rfl,hd,hv,nl⟩
 ·subst e1
  obtain ⟨w',rfl,rw'⟩:=zcl rz; cases rw'; exact zgp (hF f c oc vs t0 pm ctv hd hv) hr (.all (hb pm c ctv)) I2 (zlm nl.same hl) h64 (hk _ _ _ _ _ nl)
end
end L2
namespace PL
open PySem L2
def zkG {K:W.Frag} {H:Hp} {acc:List V} {ks:List D} {lt:Nat->Nat->Bool} (nd:ks.Nodup) (hkd:zsd ks lt) (da:zaV K H acc ks):Apart acc lt:=by
 rcases hkd with ⟨is,rfl,rfl⟩ | ⟨ps,rfl,rfl⟩
 ·rw [zd7 da]
  have nd':is.Nodup:=List.Pairwise.of_map _ (fun a b h e=>h (by rw [e])) nd
  refine ⟨List.pairwise_map.mpr (nd'.imp fun h e=>h (by cases e; rfl)),fun i j hi hj hij h=>?_⟩
  rw [yG] at hi hj
  have g1:is[i]?=some (is.getD i 0):=by simp [List.getD,yB hi]
  have g2:is[j]?=some (is.getD j 0):=by simp [List.getD,yB hj]
  have ne:=TS.nd_ne nd' hij g1 g2
  unfold ltI at h ⊢
  simp only [decide_eq_false_iff_not,yo] at h ⊢; omega
 ·obtain ⟨as,rfl,kt⟩:=zd6 da
  have nd':ps.Nodup:=List.Pairwise.of_map _ (fun a b h e=>h (by rw [e])) nd
  have ln:as.length=ps.length:=zj kt
  have ne:∀ i j,i<as.length->j<as.length->i≠j->ps.getD i (0,[])≠ps.getD j (0,[]):=fun i j hi hj hij=>by
   have g1:ps[i]?=some (ps.getD i (0,[])):=by simp [List.getD,yB (show i<ps.length by omega)]
   have g2:ps[j]?=some (ps.getD j (0,[])):=by simp [List.getD,yB (show j<ps.length by omega)]
   exact TS.nd_ne nd' hij g1 g2
  refine ⟨List.pairwise_map.mpr (YJ.mpr fun i j hi hj hij e=>?_),fun i j hi hj hij h=>?_⟩
  ·have e1:=zcT i kt hi
   have e2:=zcT j kt hj; simp only [List.getD,yB hi,yB hj,Ys] at e1 e2
   have e':as[i]=as[j]:=V.ref.inj e
   rw [e'] at e1; have e3:=e1.symm.trans e2
   refine ne i j hi hj (by omega) (Prod.ext ?_ ?_)
   ·simp [List.getD] at e3 ⊢
    exact e3.1
   ·simp [List.getD] at e3 ⊢
    exact st_inj.mp e3.2
  ·rw [yG] at hi hj
   have ne:=ne i j hi hj hij
   unfold ltP at h ⊢
   simp only [decide_eq_false_iff_not,yo] at h ⊢; generalize ps.getD i (0,[])=a at *; generalize ps.getD j (0,[])=b at *
   by_cases q1:a.1<b.1
   ·exact (h (.inl q1)).elim
   by_cases q2:b.1<a.1
   ·exact .inl q2
   have q3:a.1=b.1:=by omega
   refine .inr ⟨q3.symm,?_⟩
   by_cases q4:b.2<a.2
   ·exact q4
   ·exact (ne (Prod.ext q3 (List.le_antisymm (List.not_lt.mp q4) (List.not_lt.mp fun z=>h (.inr ⟨q3,z⟩))))).elim
def zdD (sp:Sp') (t:TA'):TO':=fun Γ Q=>t Γ fun as Γ1=>∃ ds ks lt,as=[.lst ds]/\ds.length<128/\(64<=ds.length->ks.Nodup)/\ks.length=ds.length/\(∀ (i:Nat) x k,ds[i]?=some x->ks[i]?=some k->sp [x] fun r=>r=.val k)/\zsd ks lt/\Q (.lst (zii lt ds)) Γ1
section
def zlI {k:Nat} {qual:Str} {params:Arguments} {body:Expr} {scope:Scope} {N ps:List Str} {sp:Sp'} {e:Expr} {t:TA'} {p kpos lpos pos:Pos} (L:LamAt X qual) (S:FnScope N ps scope) (len:∀ ds Q,sp ds Q->ds.length=ps.length)
  (hbody:∀ (f c:Addr) (A:Around) (outer:List Env) (s:Shared) (H:Hp) (E:XK),Room k (A.deeper (PyProof.Rows.envOfC qual scope s.heap.objs.size f (.ref c)))->∀ ds Q,sp ds Q ->
   ∃ t,PE' (zdj CX0 X.prog X.w X.K X.mg X.base N qual scope f (.ref c) A outer s H E).nox body t/\t (zaG N ds) fun d _=>Q (.val d))
  (hb:∀ (pm:Value) (c:Addr) (ctv:Value) (us:List Value),us.length=ps.length->bindArgs (zj3 qual params body scope pm c ctv) ⟨us,[]⟩=pure (ps.zip us))
  (hr:Room (k+3) X.A) (hm:X.mg "sorted"=none) (ha:PA' X [e] t) (hgs:Gl X "sorted":=by rfl)
  (hdef:defaultsOf params X.env=([],[]):=by rfl) (hcl:closureFor scope X.env=pure []:=by rfl)
  (he:backTo pos (starEach [e] X.env)=(false,eval e X.env) :: backTo pos (starEach [] X.env):=by rfl)
  (hplain:(backTo pos (starEach [e] X.env)).any (·.1)=false:=by rfl) :
  PO' X (.Call (.Name "sorted" p) [e] [⟨some "key",.Lambda params body scope lpos,kpos⟩] pos) (zdD sp t):=by
 refine ⟨PE.weak (zlQ (k:=k+1) (sp:=zhv X.K sp) L (fun f c oc vs t pm ctv hd hv=>zoR S hd hv len (hbody f c)) hb hr hm ha.pa hgs hdef hcl he hplain) ?_⟩
 rintro σ H Q ⟨W,Hi,Γ,Q',g,h,fin⟩
 refine ⟨W,Hi,Γ,_,g,h,?_⟩
 rintro vs H1 Hi1 Γ1 as s1 g1 dl ⟨ds,ks,lt,rfl,h64,hnd,hkl,hsp,hkd,q⟩
 obtain ⟨v,rfl,den⟩:=zcX dl; obtain ⟨l,xs,rfl,hl,dx⟩:=den.lstI
 refine ⟨l,xs,rfl,zL g1.sub hl,by rw [zj dx]; exact h64,fun f c fo oc H2 nl=>?_⟩
 have ex0:=PL.NewLam.ext nl g1.fz
 refine zga nl.has.1 nl.has.2 xs ds ks [] [] Hi1 H2 (Ext.refl ex0.fz) dx hkl hsp .nil fun acc Hi2 H3 ex da=>?_
 rw [Yn] at da
 refine ⟨lt,hkd.ord,?_,fun hz=>?_,fun p hp=>?_⟩
 ·rcases hkd with ⟨is,rfl,rfl⟩ | ⟨ps,rfl,rfl⟩
  ·rw [zd7 da]
   exact ztq is
  ·obtain ⟨as,rfl,kt⟩:=zd6 da
   exact ztp (zf7 ex.fz.sub kt)
 ·rw [zj dx] at hz
  exact zkG (hnd hz) hkd da
 ·have g2:=(g1.ext ex0).ext ex
  exact fin p _ Hi2 Γ1 (.lst (zii lt ds)) (s1.trans ex.hi) (g2.ext (Ext.newO g2.fz hp _ (fun _ z=>by cases z))) (New.mk' g2 hp ⟨_,zn,zlo hkd.ord (dx.mono ex.hi)⟩) q
end
end PL
set_option synthInstance.maxSize 4096
set_option synthInstance.maxHeartbeats 2000000
namespace K05
open PySem L2 Lb PL MT M04 MS M70 M71 M72 M74 M76 M25 M06 theorem sc0 {N P:List Str} {sc:Scope} (a:sc.kind=.function:=by rfl) (b:sc.isCoroutine=false:=by rfl) (c:sc.isGenerator=false:=by rfl) (d:N.Nodup:=by decide +kernel) (e:N.take P.length=P:=by rfl) (f:∀ x ∈ P,sc.names.lookup x=some .local\/sc.names.lookup x=some .cell:=by decide +kernel) (g:∀ y ∈ sc.names,y.2≠.free:=by decide +kernel):FnScope N P sc:=⟨a,b,c,d,e,f,g⟩
def top (i:Nat):Stmt:=PySem.Challenge.pw_codemend_k05_words_at_a_place.main.body.getD i (.Pass ⟨0,0,0,0⟩)
abbrev zbt:Stmt:=top 12
abbrev zb1:Stmt:=top 13
abbrev zb2:Stmt:=top 14
abbrev zdH:Stmt:=top 16
abbrev zc9:Stmt:=top 17
abbrev zb0:Stmt:=top 18
abbrev zcg:Stmt:=top 19
abbrev zaR:Stmt:=top 20
abbrev zbI:Stmt:=top 21
abbrev zcy:Stmt:=top 23
abbrev zc7:Stmt:=top 24
abbrev zbJ:Stmt:=top 25
abbrev zdI:Stmt:=top 26
abbrev zcx:Stmt:=top 27
abbrev zaz:Stmt:=top 28
abbrev zcw:Stmt:=top 29
abbrev zc8:Stmt:=top 30
abbrev za7:Stmt:=top 31
abbrev zbK:Stmt:=top 32
abbrev zeg:Stmt:=top 33
abbrev zam:Stmt:=zo7 (top 2) 0
def keyD (l:List Nat):D:=.tup [.int (zbi l).1,.str (zbi l).2]
def za6:Sp':=fun ds Q=>∃ l,ds=[.str l]/\l.length<=1000/\Q (.val (.str (cut l)))
def zbF:Sp':=fun ds Q=>∃ l,ds=[.str l]/\zv l=true/\Q (.val (keyD l))
def zat:Sp':=fun ds Q=>∃ t l,ds=[trD t,.str l]/\Q (.val (ziv (zo l t.kds)))
def small {n:Nat} (h:n<=1000):n<=sizeLine:=Nat.le_of_lt (zaC h)
def zeb {α:Type} (xs:List α) {i:Int} (h0:0<=i) (h1:i<xs.length):∃ d,atI xs i=some d/\d ∈ xs:=by
 obtain ⟨n,rfl⟩:=Int.eq_ofNat_of_zero_le h0
 have hn:n<xs.length:=by omega
 exact ⟨xs[n],zec (yB hn),Yi hn⟩
@[simp] theorem sz1:1<=sizeLine:=small (by decide)
@[simp] theorem sz2:2<=sizeLine:=small (by decide)
@[simp] theorem sz3:3<=sizeLine:=small (by decide)
@[simp] theorem sz4:4<=sizeLine:=small (by decide)
def zjX {n:Int} (h0:0<=n) (h1:n<10 ^ 10):n.natAbs.log2<1920:=by
  refine yT ?_ (by decide:40<=1920)
  by_cases hz:n.natAbs=0
  · rw [hz]; decide
  · exact (Nat.log2_lt hz).mpr (by have : n.natAbs < 10 ^ 10 := by omega
                                   have:10 ^ 10<2 ^ 40:=by decide
                                   omega)
def md {i:Int} {n:Nat} (h:0<n):0<=i % (n:Int)/\i % (n:Int)<n:=⟨Int.emod_nonneg _ (by omega),Int.emod_lt_of_pos _ (by omega)⟩
def zim (l y:List Nat):(Txt.rstripChars (st l) (st y)).cps.toList=(l.reverse.dropWhile fun c=>decide (c ∈ y)).reverse:=by
 have hc:(st y).cps.contains=fun c=>decide (c ∈ y):=by
  funext c
  simp [st]
 have hh:PySem.stripHi (st y).cps.contains true (st l) (PySem.stripLo (st y).cps.contains false (st l))=l.length-(l.reverse.takeWhile fun c=>decide (c ∈ y)).length:=by
  unfold PySem.stripHi PySem.stripLo
  rw [yI rfl,yH (by decide),zR,List.drop_zero,hc,zbm]
 have ht:l.take (l.length-(l.reverse.takeWhile fun c=>decide (c ∈ y)).length)=(l.reverse.dropWhile fun c=>decide (c ∈ y)).reverse:=by
  have e:l=(l.reverse.dropWhile fun c=>decide (c ∈ y)).reverse ++ (l.reverse.takeWhile fun c=>decide (c ∈ y)).reverse:=by
   rw [<- List.reverse_append,List.takeWhile_append_dropWhile,List.reverse_reverse]
  have el:=ym List.length e; rw [yg,List.length_reverse (as:=List.takeWhile _ _)] at el
  have z:l.take (l.length-(l.reverse.takeWhile fun c=>decide (c ∈ y)).length)=((l.reverse.dropWhile fun c=>decide (c ∈ y)).reverse ++ (l.reverse.takeWhile fun c=>decide (c ∈ y)).reverse).take (l.length-(l.reverse.takeWhile fun c=>decide (c ∈ y)).length):=ym (List.take _) e
  rw [z,List.take_left' (by omega)]
 unfold Txt.rstripChars Txt.stripBy; split
 ·rename_i hs
  unfold PySem.stripSame at hs; rw [hh,zbm] at hs; simp only [yp,beq_iff_eq] at hs
  rw [zR,<- ht,yq (by omega)]
 ·unfold PySem.stripped
  rw [hh,PyProof.Rows.strSub_mk]; unfold PySem.stripLo
  rw [yH (by decide),zR,List.drop_zero,Nat.sub_zero,ht]
def zdY {l:List Nat} (h:zv l=true):∃ m n,m=(cut l).length/\1<=m/\m<=9/\m<=l.length/\l.length<=12/\l.take m=cut l/\l.drop m=zcH l/\(∀ c,c ∈ cut l->dig c=true)/\(∀ c,c ∈ zcH l->dig c=false)/\PySem.intText? (st (cut l))=some n/\zbi l=(n,zcH l):=by
 have h':=h; unfold zv at h; simp only [yp,yo,Yj] at h
 obtain ⟨⟨⟨⟨a1,a2⟩,b⟩,c⟩,d⟩:=h
 have e:=zfn l; have el:=ym List.length e; rw [yg] at el
 have t:l.take (cut l).length=cut l:=by
  have z:(cut l ++ zcH l).take (cut l).length=cut l:=List.take_left' rfl
  rw [e] at z; exact z
 have t2:l.drop (cut l).length=zcH l:=by
  have z:(cut l ++ zcH l).drop (cut l).length=zcH l:=List.drop_left' rfl
  rw [e] at z; exact z
 have r:∃ n,PySem.intText? (st (cut l))=some n:=by
  have q:=PySem.intText_digits (x:=st (cut l)) (by rw [zR]; exact fun x hx=>(zdx x).mp (by simpa [dig] using c x hx)) (by rw [zR]; exact fun z=>by rw [z] at a1; simp at a1) (by rw [zbm]; omega)
  exact ⟨_,q⟩
 obtain ⟨n,r⟩:=r
 refine ⟨_,n,rfl,a1,a2,by omega,by omega,t,t2,c,fun x hx=>?_,r,by unfold zbi; rw [r]; rfl⟩
 have:=zli l x hx
 cases z:dig x with
 | false=>rfl
 | true=>rw [zd5 z] at this; cases this
section
def zeR:FnScope ["label"] ["label"] (zm zb2):=sc0
def ze8 (d:Df K mg "figures_of" zb2 ["label"]) {t_SMALL_LETTERS:Tok} (g_SMALL_LETTERS:mg "SMALL_LETTERS"=some (.str (st zpB) t_SMALL_LETTERS)):Fn P w K mg base 1 "figures_of" ["label"] za6:=by
 refine d.ok zeR (fun ds Q h=>?_) (fun f cdv A outer s H E hr ds Q h=>⟨_,(zr (zF (zqM zmb PySem.F.plainAttrs_str PySem.F.slot_str_rstrip PySem.F.type_str_rstrip (pv' 0) (zc (zqJ g_SMALL_LETTERS) zi)))),?_⟩)
 ·obtain ⟨l,rfl,_⟩:=h
  rfl
 obtain ⟨l,rfl,hl,q⟩:=h; simp [zS,zG,tC',zY,zC,ztK,zM,zN,zak]; refine ⟨small hl,?_⟩; rw [zim]; exact q
def zcN:FnScope ["label","figures"] ["label"] (zm zb1):=sc0
def ze7 (d:Df K mg "label_rank" zb1 ["label"]) (G_figures_of:Fn P w K mg base 1 "figures_of" ["label"] za6) (z_int:mg "int"=none) (z_len:mg "len"=none):Fn P w K mg base 2 "label_rank" ["label"] zbF:=by
 refine d.ok zcN (fun ds Q h=>?_) (fun f cdv A outer s H E hr ds Q h=>⟨_,(zk (zI 1 zcN.nd (za3 G_figures_of (hr.mono (by decide)) (zc (pv' 0) zi)))
  (zr (zF (zW (zc (zaK znE z_int PyProof.Rows.boot_int (zc (pv' 1) zi)) (zc (zbT s_A (pv' 0) (zcP (zy zbV z_len YQ (zc (pv' 1) zi))) zei) zi)))))),?_⟩)
 ·obtain ⟨l,rfl,_⟩:=h
  rfl
 obtain ⟨l,rfl,hl,hq⟩:=h; obtain ⟨m,n,hm,m1,m9,ml,l12,tk,dr,cd,tf,rd,kf⟩:=zdY hl; simp [zaq,zS,zaD,zx,zG,zY,zC,za5,zcZ,zee,zbr,zef,zJ,zM,zN,zak,za6]
 refine ⟨by omega,.inl ⟨cut l,n,rfl,rd,by omega,small (by omega),small (by omega),?_⟩⟩
 rw [<- hm,dr]; unfold keyD at hq; rw [kf] at hq; exact hq
def zdG:FnScope ["node","label","kid"] ["node","label"] (zm zc9):=sc0
def zgY (d:Df K mg "kid_with" zc9 ["node","label"]):Fn P w K mg base 1 "kid_with" ["node","label"] zat:=by
 refine d.ok zdG (fun ds Q h=>?_) (fun f cdv A outer s H E hr ds Q h=>⟨_,(zk (zb3 (zb4 (zP (i_A (zac hr)) (pv' 0) zl)) (zao 2 zdG.nd)
   (zr (zav (zV (zel (zdi hr)) (zP (i_A (zac hr)) (pv' 2) zl) (pv' 1)) (zr (zF (pv' 2))) zO)))
  (zr (zF zdd))),?_⟩)
 ·obtain ⟨t,l,rfl,_⟩:=h
  rfl
 obtain ⟨t,l,rfl,q⟩:=h; rw [zag]; simp [zaq,zS,zaN,zx,zG,tC',zaX,tB',zbs,zbw,zT,zM,zN,zak]
 have key:∀ (ks:List Tr) (A s2:Slot),Q (.val (ziv (zo l ks)))->zfv (zx 2) (zaN (tB' (zaX zkR (zaX zfw (zG 2) (tC' (D.int 0))) (zG 1))) (zS (zG 2)) zT)
   { nx:=zS (tC' D.non) { nx:=fun x=>Q (Res.val D.non),rt:=fun r x=>Q r },rt:=fun r x=>Q r } (ks.map trD) [A,.val (.str l),s2]:=by
  intro ks
  induction ks with
  | nil=>intro A s2 q; simpa [zfv,zS,tC',zo,ziv] using q
  | cons k ks ih =>
   intro A s2 q; have ih':=ih A (.val (trD k)); rw [zag] at ih'; simp only [yX,zfv]; rw [zag k]
   by_cases e:k.lab=l
   ·have:zo l (k :: ks)=some k:=by simp [zo,e]
    rw [this] at q
    have q':Q (.val (trD k)):=q
    rw [zag k] at q'
    simpa [zx,zaN,tB',zaX,zG,tC',zS,zT,e] using q'
   ·have:zo l (k :: ks)=zo l ks:=by simp [zo,e]
    rw [this] at q
    simpa [zx,zaN,tB',zaX,zG,tC',zS,zT,e] using ih' q
 exact key _ _ _ q
end
end K05
namespace K05
open PySem L2 Lb PL MT M04 MS M70 M71 M72 M74 M76 M25 M06
@[simp] theorem ix0 (k:Tr) (Q:D->Prop):zfw (trD k) (.int 0) Q↔Q (.str k.lab):=by
 rw [zag]; simp
@[simp] theorem ix1 (k:Tr) (Q:D->Prop):zfw (trD k) (.int 1) Q↔Q (plc k.wds):=by
 rw [zag]; simp
@[simp] theorem ix2 (k:Tr) (Q:D->Prop):zfw (trD k) (.int 2) Q↔Q (.tup (k.kds.map trD)):=by
 rw [zag]; simp
def zrB:bootBuiltins "ValueError"=some (.type "ValueError"):=by rfl
structure Cs where
 MendError:Addr
 NoPlace:Addr
 NoText:Addr
 NoFit:Addr
 NoName:Addr
 Twice:Addr
 NoDay:Addr
 NoAct:Addr
 NoRow:Addr
structure CF (K:W.Frag) (T:Cs):Prop where
 xis:X1.XIs K T.NoPlace
 exm:W.exmOne K (.ref T.NoPlace) (.ref T.MendError)=some true
 kN:W.kitOne K (.ref T.NoPlace) (.ref T.NoPlace)=some true
 kV:W.kitOne K (.ref T.NoPlace) (.type "ValueError")=some true
 k1:W.kitOne K (.ref T.NoPlace) (.ref T.NoText)=some false
 k2:W.kitOne K (.ref T.NoPlace) (.ref T.NoFit)=some false
 k3:W.kitOne K (.ref T.NoPlace) (.ref T.NoName)=some false
 k4:W.kitOne K (.ref T.NoPlace) (.ref T.Twice)=some false
 k5:W.kitOne K (.ref T.NoPlace) (.ref T.NoDay)=some false
 k6:W.kitOne K (.ref T.NoPlace) (.ref T.NoAct)=some false
 k7:W.kitOne K (.ref T.NoPlace) (.ref T.NoRow)=some false
 xfl:XFl K T.NoPlace
 na:zcu K T.NoPlace "place"
def zps (p:Pl):Prop:=p.length<=9/\∀ l ∈ p,zv l=true
def zbf:V->Hp->Prop:=OkT
def zde:D->Prop:=fun d=>∃ p:Pl,d=plc p/\zps p
def zj4 {l:List Nat} (h:zv l=true):l.length<=12/\∀ c ∈ l,c<1000:=by
 obtain ⟨m,n,hm,m1,m9,ml,l12,tk,dr,cd,tf,rd,kf⟩:=zdY h
 refine ⟨l12,fun c hc=>?_⟩
 have f:∀ x ∈ zrm,x<1000:=by decide
 have g:∀ x ∈ zpB,x<1000:=by decide +kernel
 have hr:c ∈ l.reverse.takeWhile sml ++ l.reverse.dropWhile sml:=by rw [List.takeWhile_append_dropWhile]; exact YZ.mpr hc
 rcases yb.mp hr with z | z
 ·exact g c (by have:=Yj.mp List.all_takeWhile c z; simpa [sml] using this)
 ·exact f c (by have:=cd c (by unfold cut; exact YZ.mpr z); simpa [dig] using this)
theorem den_strs {K:W.Frag} {Hi:Hp}:∀ {vs:List V} {p:Pl},zaV K Hi vs (p.map D.str)->vs=p.map fun l=>V.str (st l)
 | _,[],.nil=>rfl
 | _,l :: p,.cons a r=>by rw [a.strI,den_strs r]; rfl
def zd1 {K:W.Frag}:∀ (Hi H:Hp) (v:V) (d:D) (a:Addr) (o:HO),Fz Hi H->Den K Hi v d->zde d->H a=none->zbf v (upd H a o):=fun Hi H v d a o fz den e ha=>by
 obtain ⟨p,rfl,hp,hl⟩:=e; obtain ⟨b,vs,rfl,h1,h2⟩:=den.tupJ; have e:=den_strs h2; have h3:=fz.sub _ _ h1
 refine ⟨b,vs,rfl,by rw [zq (zw h3 ha)]; exact h3,by rw [e,yG]; omega,fun x hx=>?_⟩
 rw [e] at hx; obtain ⟨l,m,rfl⟩:=yh.mp hx; obtain ⟨q1,q2⟩:=zj4 (hl l m)
 exact ⟨st l,rfl,by simpa [st,Str.length] using q1,by simpa [st] using q2⟩
def zaI:Sp':=fun ds Q=>∃ t p,ds=[trD t,plc p]/\Q (.val (ziv (zu t p)))
def zaH:Sp':=fun ds Q=>∃ t p n,ds=[trD t,plc p,trD n]/\p.length<=20/\(zu t p).isSome=true/\(∀ i,i<=p.length->∀ k,zu t (p.take i)=some k->k.kds.length<=1000)/\Q (.val (trD (zaW t p n)))
def zas:Sp':=fun ds Q=>∃ l m,ds=[.str l,.str m]/\zv l=true/\zv m=true/\∀ b:Bool,(b=true↔klt (zbi l) (zbi m))->Q (.val (.bl b))
def zan (T:Cs):ziU:=fun ds Q E=>∃ t p,ds=[trD t,plc p]/\zps p/\(∀ nd,zu t p=some nd->Q (.val (trD nd)))/\(zu t p=none->E T.NoPlace [("place",plc p)])
def zbE (T:Cs):ziU:=fun ds Q E=>∃ t p k c n,ds=[trD t,plc p,trD k]/\Wf c n t/\c<=200/\zps p/\zv k.lab=true/\(∀ nd,zu t p=some nd->zo k.lab nd.kds=none->Q (.val (trD (zb7 t p nd.wds (zdt (nd.kds ++ [k]))))))/\((∀ nd,zu t p=some nd->(zo k.lab nd.kds).isSome=true)->E T.NoPlace [("place",plc p)])
def zay (T:Cs):ziU:=fun ds Q E=>∃ t p ws c n,ds=[trD t,plc p,plc ws]/\Wf c n t/\c<=200/\zps p/\(∀ nd,zu t p=some nd->Q (.val (trD (zb7 t p ws nd.kds))))/\(zu t p=none->E T.NoPlace [("place",plc p)])
instance:MSp zaI:=⟨fun _ _ _ h ⟨t,p,e,q⟩=>⟨t,p,e,h _ q⟩⟩
instance:MSp zas:=⟨fun _ _ _ h ⟨l,m,e,a,b,q⟩=>⟨l,m,e,a,b,fun x z=>h _ (q x z)⟩⟩
def zny {c n:Nat} {t:Tr} {p:Pl} (hw:Wf c n t) (hc:c<=200):∀ i,i<=p.length->∀ k,zu t (p.take i)=some k->k.kds.length<=1000:=fun i _ k e=>by
 have:=(hw.at e).2.few
 omega
def zpj {ks:List Tr} {k:Tr} {R:List D->Prop} (hp:zv k.lab=true) (hks:∀ x ∈ ks,zv x.lab=true) (h:R ((ks.filter (bf k.lab)).map trD)):zcF (zx 0) (tB' (zJ zas (zC (zaX zfw (zG 0) (tC' (D.int 0))) (zC (zaX zfw (zG 1) (tC' (D.int 0))) zY)))) (zG 0) R (ks.map trD) [] [Slot.emp,Slot.val (trD k)]:=by
 refine zfo (fun i a Γ=>∃ s0,a=((ks.take i).filter (bf k.lab)).map trD/\Γ=[s0,.val (trD k)]) ⟨.emp,rfl,rfl⟩ ?_ ?_
 ·rintro i d a Γ hd ⟨s0,rfl,rfl⟩
  rw [yK] at hd
  cases hc:ks[i]? with
  | none=>rw [hc] at hd; cases hd
  | some x =>
   rw [hc] at hd; cases hd; simp [zx,zG,tC',zaX,tB',zY,zC,zJ,zM,zN,zak]
   refine ⟨x.lab,k.lab,rfl,hks x (yL hc),hp,fun b hb=>?_⟩
   have eb:bf k.lab x=b:=by
    cases b with
    | true=>exact zeE.mpr (hb.mp rfl)
    | false=>exact Yc.mpr fun z=>Bool.noConfusion (hb.mpr (zeE.mp z))
   rw [List.take_succ,hc,List.filter_append]
   cases b <;> simp [eb,Res.toD]
 ·rintro a Γ ⟨s0,rfl,rfl⟩
  rw [show List.take (List.map trD ks).length ks=ks from yq (by rw [yG]; exact yD _)]
  exact h
def zhw (L:Nat):(Builtin.Range.rangeSize ((L:Int)-1) (-1) (-1)).toNat=L:=by
 unfold Builtin.Range.rangeSize; split
 ·omega
 ·split
  ·rw [show (- -1:Int)=1 from rfl,Int.ediv_one]
   omega
  ·omega
theorem zgl (m:Tr) (Q:List D->Prop):∀ (ks:List Tr) (acc:List D) (s0:Slot),Q (acc ++ ks.map fun k=>trD (if k.lab=m.lab then m else k)) ->
  zcF (zx 0) zhn (znX (tB' (zaX zkR (zaX zfw (zG 0) (tC' (D.int 0))) (zaX zfw (zG 1) (tC' (D.int 0))))) (zG 1) (zG 0)) Q (ks.map trD) acc [s0,.val (trD m)]
 | [],acc,s0,h=>by simpa [zcF] using h
 | k :: ks,acc,s0,h=>by
  have ih:=zgl m Q ks (acc ++ [trD (if k.lab=m.lab then m else k)]) (.val (trD k)) (by simpa using h)
  rw [zag k] at ih; simp only [yX,zcF]; rw [zag m] at ih ⊢; rw [zag k]
  by_cases e:k.lab=m.lab
  ·rw [yI e,zag m] at ih
   simpa [vo,voS,zx,zhn,znX,tB',zaX,zG,tC',e] using ih
  ·rw [yH e,zag k] at ih
   simpa [vo,voS,zx,zhn,znX,tB',zaX,zG,tC',e] using ih
section
variable {T:Cs}
def zcf:FnScope ["tree","place","node","label"] ["tree","place"] (zm zdH):=sc0
def zix (d:Df K mg "node_at" zdH ["tree","place"]) (G_kid_with:Fn P w K mg base 1 "kid_with" ["node","label"] zat):Fn P w K mg base 2 "node_at" ["tree","place"] zaI:=by
 refine d.ok zcf (fun ds Q h=>?_) (fun f cdv A outer s H E hr ds Q h=>⟨_,(zk (zI 2 zcf.nd (pv' 0))
  (zk (zb3 (zb4 (pv' 1)) (zao 3 zcf.nd)
   (zk (zI 2 zcf.nd (za3 G_kid_with (hr.mono (by decide)) (zc (pv' 2) (zc (pv' 3) zi))))
  (zr (zav (zV zq0 (pv' 2) zdd) (zr (zF zdd)) zO))))
  (zr (zF (pv' 2))))),?_⟩)
 ·obtain ⟨t,l,rfl,_⟩:=h
  rfl
 obtain ⟨t,p,rfl,q⟩:=h; simp [zaq,zS,zaN,zaD,zx,zG,tC',zaX,tB',zY,zC,zbs,zbw,zJ,zT,zM,zN,zak,zat]
 have key:∀ (p:Pl) (t:Tr) (A B s3:Slot),Q (.val (ziv (zu t p)))->zfv (zx 3) (zaq (zaD (zJ zat (zC (zG 2) (zC (zG 3) zY))) (zx 2)) (zaN (tB' (zaX (zlB false) (zG 2) (tC' D.non))) (zS (tC' D.non)) zT))
   { nx:=zS (zG 2) { nx:=fun x=>Q (Res.val D.non),rt:=fun r x=>Q r },rt:=fun r x=>Q r } (p.map D.str) [A,B,.val (trD t),s3]:=by
  intro p
  induction p with
  | nil=>intro t A B s3 q; simpa [zfv,zS,zG,zu,ziv] using q
  | cons l p ih =>
   intro t A B s3 q; simp only [yX,zfv]; simp [zx,zaq,zaD,zJ,zC,zY,zG,tC',zaN,tB',zaX,zS,zT,zat,Res.toD,zlB]; refine ⟨t,l,⟨rfl,rfl⟩,?_⟩
   cases hk:zo l t.kds with
   | none =>
    have:zu t (l :: p)=none:=by simp [zu,hk]
    rw [this] at q
    simpa [ziv] using q
   | some k =>
    have:zu t (l :: p)=zu k p:=by simp [zu,hk]
    rw [this] at q
    simpa [ziv,zc1] using ih k A B _ q
 exact key _ _ _ _ _ q
def zaJ:FnScope ["tree","place","node","made","length","above","kids"] ["tree","place","node"] (zm zbI):=sc0
def zfZ (d:Df K mg "with_node" zbI ["tree","place","node"]) (G_node_at:Fn P w K mg base 2 "node_at" ["tree","place"] zaI) (z_len:mg "len"=none) (z_range:mg "range"=none) (z_tuple:mg "tuple"=none):Fn P w K mg base 3 "with_node" ["tree","place","node"] zaH:=by
 refine d.ok zaJ (fun ds Q h=>?_) (fun f cdv A outer s H E hr ds Q h=>⟨_,(zk (zI 3 zaJ.nd (pv' 2))
  (zk (zb3 (ziu z_range (zc (zB zs2 (zy zbV z_len YQ (zc (pv' 1) zi)) zl) (zc zbM (zc zbM zi)))) (zao 4 zaJ.nd)
   (zk (zI 5 zaJ.nd (za3 G_node_at (hr.mono (by decide)) (zc (pv' 0) (zc (zbT s_A (pv' 1) zei (zcP (pv' 4))) zi))))
  (zk (zI 6 zaJ.nd (zaK zea z_tuple YV (zc (zcO (ze2 (fsc:=zm zbI) (N:=["tree","place","node","made","length","above","kids"]) (N':=["kid","made"]) (src:=[none,some 3]) (by refine ⟨rfl,?_,?_,?_,rfl,rfl⟩ <;> decide +kernel) (zb4 (zP (i_A (zac hr)) (pv' 5) zl)) (fun _ _ _ _ _ _=>(zao 0 (show (["kid","made"]:List Str).Nodup by decide +kernel))) (fun _ _ _ _ _ _=>zeZ) (fun _ _ _ _ _ _=>(zqI (zV (zel (zdi hr)) (zP (i_A (zac hr)) (pv' 0) zl) (zP (i_A (zac hr)) (pv' 1) zl)) (pv' 1) (pv' 0))))) zi)))
  (zr (zI 3 zaJ.nd (zW (zc (zP (i_A (zac hr)) (pv' 5) zl) (zc (zP (i_A (zac hr)) (pv' 5) zl) (zc (pv' 6) zi)))))))))
  (zr (zF (pv' 3))))),?_⟩)
 ·obtain ⟨t,p,n,rfl,_⟩:=h
  rfl
 obtain ⟨t,p,n,rfl,hl,hs,hk,q⟩:=h; simp [zaq,zS,zaD,zx,zG,tC',zcv,zaX,tB',znX,zY,zC,za5,zcZ,zee,zbr,zef,zbs,zbw,zkg,zbQ,zJ,zhn,zM,zN,zak,zcv,zaI]
 refine ⟨by omega,?_⟩
 refine zgf (fun i Γ=>∃ (k:Tr) (s4 s5 s6:Slot),i<=p.length/\zu t (p.take (p.length-i))=some k/\Γ=[.val (trD t),.val (plc p),.val (trD n),.val (trD (zaW k (p.drop (p.length-i)) n)),s4,s5,s6]) ?_ ?_ ?_
 ·obtain ⟨k,e⟩:=YR.mp hs
  refine ⟨k,.emp,.emp,.emp,yn _,?_,?_⟩
  ·simpa using e
  ·simp [zaW]
 ·rintro i d Γ hd ⟨k,s4,s5,s6,hi,hn,rfl⟩
  unfold zrP at hd; rw [yK] at hd; obtain ⟨c,hc,rfl⟩:=Yw.mp hd; have hc1:=(yE.mp hc).1; rw [List.length_range] at hc1; rw [List.getElem?_range hc1] at hc; cases hc
  have hsz:i<p.length:=by
   rw [zhw] at hc1; exact hc1
  obtain ⟨j,hj⟩:∃ j,p.length=i+(j+1):=⟨p.length-i-1,by omega⟩
  have e1:p.length-i=j+1:=by omega
  have e2:p.length-(i+1)=j:=by omega
  have e3:((p.length:Int)-1+(i:Int) * -1)=(j:Int):=by omega
  rw [e1] at hn; obtain ⟨a,ha⟩:=YR.mp (zg0 hs j)
  have hjl:j<p.length:=by omega
  have et:p.take (j+1)=p.take j ++ [p[j]]:=by rw [List.take_succ,yB hjl]; rfl
  have ed:p.drop j=p[j] :: p.drop (j+1):=YK hjl
  rw [et,zcB,ha] at hn
  have hk2:=hk j (by omega) a ha
  simp only [e1,e3]; simp [zx,zaq,zaD,zJ,zC,zY,zG,tC',zee,zbr,zef,zaI,Res.toD,zpi]; refine ⟨t,p.take j,⟨rfl,rfl⟩,?_⟩; rw [ha]
  have hwr:zaW a (p.drop j) n=zpL a (zaW k (p.drop (j+1)) n):=by
   rw [ed]; simp only [zaW]
   rw [show zo p[j] a.kds=some k from hn]
  generalize hm:zaW k (p.drop (j+1)) n=m at hwr; simp only [ziv]; rw [zag a]; simp [zaq,zS,zaD,zx,zG,tC',zcv,zaX,tB',znX,zY,zC,za5,zcZ,zee,zbr,zef,zbs,zbw,zkg,zbQ,zJ,zhn,zM,zN,zak,zcv]
  refine ⟨small (by omega),zgl m _ a.kds [] _ ?_⟩
  refine ⟨by omega,a,by rw [e2]; exact ha,?_⟩
  rw [e2,hwr,zag (zpL a m)]; simp [zpL,Tr.lab,Tr.wds,Tr.kds,YH,Function.comp_def]
 ·rintro Γ ⟨k,s4,s5,s6,hi,hn,rfl⟩
  have hL:(zrP ((p.length:Int)-1) (-1) (-1)).length=p.length:=by
   unfold zrP; rw [yG,List.length_range,zhw]
  rw [hL] at hn; simp only [Nat.sub_self,List.take_zero,zu,Option.some.injEq] at hn; subst hn; rw [hL]
  simpa [zS,zG] using q
def zdF:FnScope ["one","other"] ["one","other"] (zm zbt):=sc0
def zdO (d:Df K mg "label_before" zbt ["one","other"]) (G_label_rank:Fn P w K mg base 2 "label_rank" ["label"] zbF):Fn P w K mg base 3 "label_before" ["one","other"] zas:=by
 refine d.ok zdF (fun ds Q h=>?_) (fun f cdv A outer s H E hr ds Q h=>⟨_,(zr (zF (zjH (zs4 hr.units0) (za3 G_label_rank (hr.mono (by decide)) (zc (pv' 0) zi)) (za3 G_label_rank (hr.mono (by decide)) (zc (pv' 1) zi))))),?_⟩)
 ·obtain ⟨l,m,rfl,_⟩:=h
  rfl
 obtain ⟨l,m,rfl,hl,hm,q⟩:=h; simp [zS,zG,zaX,zY,zC,zJ,zM,zN,zak]; refine ⟨l,rfl,hl,m,rfl,hm,?_⟩; refine ⟨_,_,_,_,rfl,rfl,q _ ?_⟩; rw [yo]; exact Iff.rfl
def zbo:FnScope ["tree","place","node"] ["tree","place"] (zm zaR):=sc0
def zcQ (d:Df K mg "node_or_refusal" zaR ["tree","place"]) (cf:CF K T) (G_node_at:Fn P w K mg base 2 "node_at" ["tree","place"] zaI) (m_NoPlace:mg "NoPlace"=some (.ref T.NoPlace)) (X_NoPlace:XcI P w K mg base 1 "NoPlace" T.NoPlace "place" zbf):FnX P w K mg base 3 "node_or_refusal" ["tree","place"] (zan T):=by
 refine d.okx zbo (fun ds Q E' h=>?_) (fun f cdv A outer s H E hr ds Q E' h=>⟨_,(zbc (PS'.x (zI 2 zbo.nd (za3 G_node_at (hr.mono (by decide)) (zc (pv' 0) (zc (pv' 1) zi)))))
  (zbc (zmV (zV zq0 (pv' 2) zdd) (zcd (zfx zde X_NoPlace zd1 (hr.mono (by decide)) (zc (pv' 1) zi))) zhf)
  (zcd (PS'.x (zF (pv' 2)))))),?_⟩)
 ·obtain ⟨t,p,rfl,_⟩:=h
  rfl
 obtain ⟨t,p,rfl,hp,q,q2⟩:=h; simp [zS,zaD,zx,zG,tC',zaX,tB',zY,zC,zJ,zT,zk8,xS,znQ,zgB,zM,zN,zak,zaI]; refine ⟨t,p,⟨rfl,rfl⟩,?_⟩
 cases hn:zu t p with
 | none=>simpa [ziv,zlB] using ⟨⟨p,rfl,hp⟩,q2 hn⟩
 | some nd=>simpa [ziv,zlB,zc1] using q nd hn
def zbG:FnScope ["tree","place","node","above","ahead","kids"] ["tree","place","node"] (zm zcg):=sc0
def zgU (d:Df K mg "with_kid" zcg ["tree","place","node"]) (cf:CF K T) (G_label_before:Fn P w K mg base 3 "label_before" ["one","other"] zas) (G_kid_with:Fn P w K mg base 1 "kid_with" ["node","label"] zat) (G_node_or_refusal:FnX P w K mg base 3 "node_or_refusal" ["tree","place"] (zan T)) (G_with_node:Fn P w K mg base 3 "with_node" ["tree","place","node"] zaH) (z_len:mg "len"=none) (z_tuple:mg "tuple"=none) (m_NoPlace:mg "NoPlace"=some (.ref T.NoPlace)) (X_NoPlace:XcI P w K mg base 1 "NoPlace" T.NoPlace "place" zbf):FnX P w K mg base 4 "with_kid" ["tree","place","node"] (zbE T):=by
 refine d.okx zbG (fun ds Q E' h=>?_) (fun f cdv A outer s H E hr ds Q E' h=>⟨_,(zbc (zi1 3 zbG.nd (zk7 G_node_or_refusal (hr.mono (by decide)) (zc (pv' 0) (zc (pv' 1) zi))))
  (zbc (zmV (zV zl4 (za3 G_kid_with (hr.mono (by decide)) (zc (pv' 3) (zc (zP (i_A (zac hr)) (pv' 2) zl) zi))) zdd) (zcd (zfx zde X_NoPlace zd1 (hr.mono (by decide)) (zc (pv' 1) zi))) zhf)
  (zbc (PS'.x (zI 4 zbG.nd (zaK zea z_tuple YV (zc (zcO (ze2 (fsc:=zm zcg) (N:=["tree","place","node","above","ahead","kids"]) (N':=["kid","node"]) (src:=[none,some 2]) (by refine ⟨rfl,?_,?_,?_,rfl,rfl⟩ <;> decide +kernel) (zb4 (zP (i_A (zac hr)) (pv' 3) zl)) (fun _ _ _ _ _ _=>(zao 0 (show (["kid","node"]:List Str).Nodup by decide +kernel))) (fun _ _ _ _ _ _=>(zhC (zaA (za3 G_label_before (hr.mono (by decide)) (zc (zP (i_A (zac hr)) (pv' 0) zl) (zc (zP (i_A (zac hr)) (pv' 1) zl) zi)))))) (fun _ _ _ _ _ _=>(pv' 0)))) zi))))
  (zbc (PS'.x (zI 5 zbG.nd (zB za4 (zB za4 (pv' 4) (zW (zc (pv' 2) zi))) (zbT s_A (zP (i_A (zac hr)) (pv' 3) zl) (zcP (zy zbV z_len YQ (zc (pv' 4) zi))) zei))))
  (zcd (PS'.x (zF (za3 G_with_node (hr.mono (by decide)) (zc (pv' 0) (zc (pv' 1) (zc (zW (zc (zP (i_A (zac hr)) (pv' 3) zl) (zc (zP (i_A (zac hr)) (pv' 3) zl) (zc (pv' 5) zi)))) zi))))))))))),?_⟩)
 ·obtain ⟨t,p,k,c,n,rfl,_⟩:=h
  rfl
 obtain ⟨t,p,k,c,n,rfl,hw,hc,hp,hl,q,q2⟩:=h; have hp9:=hp.1; simp [zS,zaD,zx,zG,tC',zcv,zaX,tB',zY,zC,za5,zcZ,zee,zbr,zef,zbw,zbQ,zJ,zT,zk8,xS,znQ,znR,zhg,zgB,zM,zN,zak,zcv]
 refine ⟨t,p,rfl,hp,fun nd hn=>?_,fun hn=>q2 fun nd z=>by rw [hn] at z; cases z⟩
 simp [Res.toD,zat]; refine ⟨nd,k.lab,⟨rfl,rfl⟩,?_⟩
 cases hk:zo k.lab nd.kds with
 | some k2=>simpa [ziv,zlB,zc1] using ⟨⟨p,rfl,hp⟩,q2 fun nd' z=>by rw [hn] at z; cases z; rw [hk]; rfl⟩
 | none =>
 simp [ziv,zlB]; have wn:=(hw.at hn).2; have hf:=wn.few; have hfl:=List.length_filter_le (bf k.lab) nd.kds
 refine ⟨small (by omega),zpj hl wn.plab ?_⟩
 refine .inr ⟨_,_,rfl,rfl,small (by simp; omega),?_⟩
 rw [zdB,yG,zky]
 refine .inr ⟨_,_,rfl,rfl,small (by simp; omega),?_⟩
 have e:D.tup [D.str nd.lab,plc nd.wds,D.tup (List.map trD (List.filter (bf k.lab) nd.kds) ++ [trD k] ++ List.map trD (List.drop (List.filter (bf k.lab) nd.kds).length nd.kds))]=trD (.node nd.lab nd.wds (zdt (nd.kds ++ [k]))):=by
  rw [<- zj9 wn hl hk]
  conv=>rhs; rw [zag]
  rw [zmw]; simp [Tr.lab,Tr.wds]
 show zaH [trD t,plc p,D.tup [D.str nd.lab,plc nd.wds,D.tup _]] _
 rw [e]
 refine ⟨t,p,_,rfl,by omega,by rw [hn]; rfl,zny hw hc,?_⟩
 rw [zdS hw hn]; exact q nd hn hk
def zcL:FnScope ["tree","place","words","node"] ["tree","place","words"] (zm zb0):=sc0
def ze5 (d:Df K mg "with_words" zb0 ["tree","place","words"]) (cf:CF K T) (G_node_or_refusal:FnX P w K mg base 3 "node_or_refusal" ["tree","place"] (zan T)) (G_with_node:Fn P w K mg base 3 "with_node" ["tree","place","node"] zaH):FnX P w K mg base 4 "with_words" ["tree","place","words"] (zay T):=by
 refine d.okx zcL (fun ds Q E' h=>?_) (fun f cdv A outer s H E hr ds Q E' h=>⟨_,(zbc (zi1 3 zcL.nd (zk7 G_node_or_refusal (hr.mono (by decide)) (zc (pv' 0) (zc (pv' 1) zi))))
  (zcd (PS'.x (zF (za3 G_with_node (hr.mono (by decide)) (zc (pv' 0) (zc (pv' 1) (zc (zW (zc (zP (i_A (zac hr)) (pv' 3) zl) (zc (pv' 2) (zc (zP (i_A (zac hr)) (pv' 3) zl) zi)))) zi)))))))),?_⟩)
 ·obtain ⟨t,p,ws,c,n,rfl,_⟩:=h
  rfl
 obtain ⟨t,p,ws,c,n,rfl,hw,hc,hp,q,q2⟩:=h; have hp9:=hp.1; simp [zS,zG,tC',zaX,zY,zC,za5,zJ,zk8,xS,znR,zhg,zM,zN,zak]
 refine ⟨t,p,rfl,hp,fun nd hn=>?_,fun hn=>q2 hn⟩
 simp [Res.toD]
 have e:D.tup [D.str nd.lab,plc ws,D.tup (List.map trD nd.kds)]=trD (.node nd.lab ws nd.kds):=by rw [zag]; rfl
 show zaH [trD t,plc p,D.tup [D.str nd.lab,plc ws,D.tup _]] _
 rw [e]
 refine ⟨t,p,_,rfl,by omega,by rw [hn]; rfl,zny hw hc,?_⟩
 rw [zdS hw hn]; exact q nd hn
end
def ndD (ns:Nd):List (D × D):=ns.map fun x=>(plc x.1,plc x.2)
def zai:Sp':=fun ds Q=>∃ c:Int,ds=[.int c]/\∀ l,zv l=true->Q (.val (.str l))
def zaP:Sp':=fun ds Q=>∃ c:Int,ds=[.int c]/\∀ l,Q (.val (.str l))
def zah:Sp':=fun ds Q=>∃ c:Int,ds=[.int c]/\∀ ws:Pl,ws.length<=4->Q (.val (plc ws))
def zce:Sp':=fun ds Q=>∃ l,ds=[.str l]/\zv l=true/\Q (.val (keyD l))
def zar:Nat->Sp'
 | 0=>fun _ _=>False
 | n+1=>fun ds Q=>∃ d,ds=[d,d]/\Pln n d/\Q (.val (.bl true))
instance:MSp zai:=⟨fun _ _ _ h ⟨c,e,q⟩=>⟨c,e,fun l z=>h _ (q l z)⟩⟩
instance:MSp zaP:=⟨fun _ _ _ h ⟨c,e,q⟩=>⟨c,e,fun l=>h _ (q l)⟩⟩
instance:MSp zah:=⟨fun _ _ _ h ⟨c,e,q⟩=>⟨c,e,fun l z=>h _ (q l z)⟩⟩
@[simp] theorem sz5:5<=sizeLine:=small (by decide)
@[simp] theorem sz8:8<=sizeLine:=small (by decide)
section
def zdn:FnScope ["_law_cell","_law_number"] ["_law_cell"] (zm zcy):=sc0
def zf3 (d:Df K mg "_law_label" zcy ["_law_cell"]) (z_str:mg "str"=none):Fn P w K mg base 1 "_law_label" ["_law_cell"] zai:=by
 refine d.ok zdn (fun ds Q h=>?_) (fun f cdv A outer s H E hr ds Q h=>⟨_,(zk (zI 1 zdn.nd (zP (i_A (zac hr)) (zcO (zfS (zc zl (zc zl (zc zl (zc zl (zc (zB za4 zl (zB zcm (zB zhI (zB zbp (pv' 0) zl) zl) zl)) zi))))))) (zB zcm (pv' 0) zl)))
  (zr (zF (zB za4 (zaK ztu z_str PyProof.Rows.boot_str (zc (pv' 1) zi)) (zP (i_A (zac hr)) (zcO (zfS (zc (zaS []) (zc (zaS [97]) (zc (zaS []) (zc (zaS [98]) (zc (zaS [97,97]) (zc (zaS []) (zc (zaS [97,122]) (zc (zaS [122,122,122]) zi)))))))))) (zB zcm (zB zbp (pv' 0) zl) zl)))))),?_⟩)
 ·obtain ⟨c,rfl,_⟩:=h
  rfl
 obtain ⟨c,rfl,hq⟩:=h; simp [zaq,zS,zaD,zx,zG,tC',zcv,zaX,zY,zC,zdE,zcZ,zM,zN,zak,zcv,zmU,zmT]
 obtain ⟨d,e1,m1⟩:=zeb [D.int 1,D.int 2,D.int 3,D.int 10,D.int (1+c / 40 * 48271 % 999999999)] (md (i:=c) (n:=5) (by decide)).1 (md (i:=c) (n:=5) (by decide)).2
 have hm:=md (i:=c / 40 * 48271) (n:=999999999) (by decide)
 have hd:∃ n:Int,d=.int n/\1<=n/\n<10 ^ 9:=by
  simp only [yQ,YA,or_false] at m1
  rcases m1 with rfl | rfl | rfl | rfl | rfl
  ·exact ⟨_,rfl,by omega,by omega⟩
  ·exact ⟨_,rfl,by omega,by omega⟩
  ·exact ⟨_,rfl,by omega,by omega⟩
  ·exact ⟨_,rfl,by omega,by omega⟩
  ·exact ⟨_,rfl,by omega,by omega⟩
 obtain ⟨n,rfl,h0,h1⟩:=hd; refine ⟨.int n,e1,?_⟩; rw [zn7]
 refine ⟨zjX (by omega) (by omega),?_⟩
 obtain ⟨x,e2,m2⟩:=zeb [D.str [],D.str [97],D.str [],D.str [98],D.str [97,97],D.str [],D.str [97,122],D.str [122,122,122]] (md (i:=c / 5) (n:=8) (by decide)).1 (md (i:=c / 5) (n:=8) (by decide)).2
 have hx:∃ l:List Nat,x=.str l/\l.length<=3/\∀ c ∈ l,sml c=true:=by
  simp only [yQ,YA,or_false] at m2
  rcases m2 with rfl | rfl | rfl | rfl | rfl | rfl | rfl | rfl <;> exact ⟨_,rfl,by decide,by decide⟩
 obtain ⟨l,rfl,hl,hs⟩:=hx; refine ⟨.str l,e2,?_⟩; rw [zjw]; obtain ⟨n1,n2,n3,n4⟩:=M11.num_lab h0 h1
 exact ⟨small (by omega),hq _ (M11.lab_of n1 n2 n3 n4 hs hl)⟩
def zbe:FnScope ["_law_cell","_law_word_here","_law_k","_law_at"] ["_law_cell"] (zm zc7):=sc0
def zgV (d:Df K mg "_law_word" zc7 ["_law_cell"]) (z_range:mg "range"=none):Fn P w K mg base 1 "_law_word" ["_law_cell"] zaP:=by
 refine d.ok zbe (fun ds Q h=>?_) (fun f cdv A outer s H E hr ds Q h=>⟨_,(zk (zI 1 zbe.nd (zP (i_A (zac hr)) (zaS [97,98,49,122]) (zB zcm (pv' 0) zl)))
  (zk (zb3 (zeu z_range (zc (zP (i_A (zac hr)) (zcO (zfS (zc zl (zc zl (zc zl (zc zl zi)))))) (zB zcm (zB zbp (pv' 0) zl) zl)) zi)) (zao 2 zbe.nd)
   (zk (zI 3 zbe.nd (zB za4 (zB zbp (pv' 0) zl) (zB zhI (pv' 2) (zB za4 zl (zB zcm (zB zbp (pv' 0) zl) zl)))))
  (zr (zI 1 zbe.nd (zB za4 (pv' 1) (zP (i_A (zac hr)) (zaS wsg) (zB zcm (pv' 3) zl)))))))
  (zr (zF (pv' 1))))),?_⟩)
 ·obtain ⟨c,rfl,_⟩:=h
  rfl
 obtain ⟨c,rfl,hq⟩:=h; simp [zaq,zS,zaD,zx,zG,tC',zcv,zaX,zY,zC,zdE,zbs,zez,zM,zN,zak,zcv,zmU]
 obtain ⟨z,e1,m1⟩:=zeb [97,98,49,122] (md (i:=c) (n:=4) (by decide)).1 (md (i:=c) (n:=4) (by decide)).2
 refine ⟨z,e1,?_⟩
 obtain ⟨d,e2,m2⟩:=zeb [D.int 0,D.int 0,D.int 1,D.int 11] (md (i:=c / 4) (n:=4) (by decide)).1 (md (i:=c / 4) (n:=4) (by decide)).2
 have hd:∃ n:Int,d=.int n/\0<=n/\n<=11:=by
  simp only [yQ,YA,or_false] at m2
  rcases m2 with rfl | rfl | rfl | rfl <;> exact ⟨_,rfl,by omega,by omega⟩
 obtain ⟨n,rfl,h0,h1⟩:=hd
 refine ⟨_,e2,n,rfl,by omega,by omega,?_⟩
 refine zgf (fun i Γ=>∃ (l:List Nat) (s2 s3:Slot),Γ=[.val (.int c),.val (.str l),s2,s3]/\l.length=1+i) ⟨[z],.emp,.emp,rfl,rfl⟩ ?_ ?_
 ·rintro i d Γ hd ⟨l,s2,s3,rfl,hl⟩
  rw [yK] at hd
  have hi:i<n.toNat:=by
   cases hc:(List.range n.toNat)[i]? with
   | none=>rw [hc] at hd; cases hd
   | some k=>simpa using (yE.mp hc).1
  rw [List.getElem?_range hi] at hd; cases hd
  have hm:=md (i:=c / 5) (n:=7) (by decide)
  simp [zaq,zS,zaD,zx,zG,tC',zcv,zaX,zY,zC,zdE,zbs,zez,zM,zN,zak,zcv,zmU]
  refine ⟨.inr ⟨by omega,by omega⟩,?_⟩
  obtain ⟨y,e3,m3⟩:=zeb wsg (md (i:=c / 16+↑i * (1+c / 5 % 7)) (n:=36) (by decide)).1 (md (i:=c / 16+↑i * (1+c / 5 % 7)) (n:=36) (by decide)).2
  exact ⟨small (by decide),⟨y,e3⟩,small (by omega),by omega⟩
 ·rintro Γ ⟨l,s2,s3,rfl,hl⟩
  simp [zaq,zS,zaD,zx,zG,tC',zcv,zaX,zY,zC,zdE,zbs,zez,zM,zN,zak,zcv]; exact hq l
def zfM:FnScope ["_law_cell"] ["_law_cell"] (zm zbJ):=sc0
def zf0 (d:Df K mg "_law_words" zbJ ["_law_cell"]) (G_law_word:Fn P w K mg base 1 "_law_word" ["_law_cell"] zaP) (z_range:mg "range"=none) (z_tuple:mg "tuple"=none):Fn P w K mg base 2 "_law_words" ["_law_cell"] zah:=by
 refine d.ok zfM (fun ds Q h=>?_) (fun f cdv A outer s H E hr ds Q h=>⟨_,(zr (zF (zaK zea z_tuple YV (zc (zcO (ze2 (fsc:=zm zbJ) (N:=["_law_cell"]) (N':=["_law_k","_law_cell"]) (src:=[none,some 0]) (by refine ⟨rfl,?_,?_,?_,rfl,rfl⟩ <;> decide +kernel) (zeu z_range (zc (zB zcm (pv' 0) zl) zi)) (fun _ _ _ _ _ _=>(zao 0 (show (["_law_k","_law_cell"]:List Str).Nodup by decide +kernel))) (fun _ _ _ _ _ _=>zeZ) (fun _ _ _ _ _ _=>(za3 G_law_word (hr.mono (by decide)) (zc (zB za4 (zB zbp (pv' 1) zl) (zB zhI (pv' 0) (zB za4 zl (zB zcm (zB zbp (pv' 1) zl) zl)))) zi))))) zi)))),?_⟩)
 ·obtain ⟨c,rfl,_⟩:=h
  rfl
 obtain ⟨c,rfl,hq⟩:=h; simp [zS,zx,zG,tC',zcv,zaX,zY,zC,zcZ,zez,zbQ,zJ,zhn,zM,zN,zak,zcv,zaP]
 have hm:=md (i:=c) (n:=5) (by decide)
 have h5:5<=sizeLine:=sz5
 refine ⟨by omega,by omega,by omega,?_⟩
 refine zfo (fun i acc Γ=>∃ (ws:Pl) (s0:Slot),acc=ws.map .str/\ws.length=i/\Γ=[s0,.val (.int c)]) ⟨[],.emp,rfl,rfl,rfl⟩ ?_ ?_
 ·rintro i d acc Γ hd ⟨ws,s0,rfl,hl,rfl⟩
  rw [yK] at hd
  have hi:i<(c % 5).toNat:=by
   cases hc:(List.range (c % 5).toNat)[i]? with
   | none=>rw [hc] at hd; cases hd
   | some k=>simpa using (yE.mp hc).1
  rw [List.getElem?_range hi] at hd; cases hd
  have hm2:=md (i:=c / 20) (n:=3) (by decide)
  simp [zS,zx,zG,tC',zcv,zaX,zY,zC,zcZ,zez,zbQ,zJ,zhn,zM,zN,zak,zcv,zmU,zaP]
  refine ⟨.inr ⟨by omega,by omega⟩,fun l=>⟨ws ++ [l],by simp,by simp; omega⟩⟩
 ·rintro acc Γ ⟨ws,s0,rfl,hl,rfl⟩
  rw [yG,List.length_range] at hl
  exact hq ws (by omega)
def zc6:FnScope ["_law_label_here","_law_at"] ["_law_label_here"] (zm zdI):=sc0
def ziy (d:Df K mg "_law_key" zdI ["_law_label_here"]) (z_int:mg "int"=none) (z_len:mg "len"=none):Fn P w K mg base 1 "_law_key" ["_law_label_here"] zce:=by
 refine d.ok zc6 (fun ds Q h=>?_) (fun f cdv A outer s H E hr ds Q h=>⟨_,(zk (zI 1 zc6.nd zl)
  (zk (zjA (PW'.pt (zgR (zV ztV (pv' 1) (zy zbV z_len YQ (zc (pv' 0) zi))) (zeY (zV (zoK (zac hr)) (zP (i_A (zac hr)) (pv' 0) (pv' 1)) (zaS zrm)))))
   (zr (zI 1 zc6.nd (zB za4 (pv' 1) zl))))
  (zr (zF (zW (zc (zaK znE z_int PyProof.Rows.boot_int (zc (zbT s_A (pv' 0) zei (zcP (pv' 1))) zi)) (zc (zbT s_A (pv' 0) (zcP (pv' 1)) zei) zi))))))),?_⟩)
 ·obtain ⟨l,rfl,_⟩:=h
  rfl
 obtain ⟨l,rfl,hl,hq⟩:=h; obtain ⟨m,n,hm,m1,m9,ml,l12,tk,dr,cd,tf,rd,kf⟩:=zdY hl; simp [zaq,zS,zaD,zx,zG,tC',zaX,tB',zeO,zY,zC,za5,zcZ,zee,zbr,zef,zM,zN,zak]
 refine zi4 (fun Γ=>∃ k:Nat,k<=m/\Γ=[.val (.str l),.val (.int k)]) (fun Γ=>match Γ with | [_,.val (.int k)]=>m-k.toNat | _=>0) ⟨0,yn _,rfl⟩ ?_
 rintro Γ ⟨k,hk,rfl⟩
 simp [zaq,zS,zaD,zx,zG,tC',zaX,tB',zeO,zY,zC,za5,zcZ,zee,zbr,zef,zM,zN,zak]
 have hs:l.length<=sizeLine:=small (by omega)
 have fin:k=m->zqq [D.str (l.take k)] fun d=>l.length<=sizeLine/\Q (.val (.tup [d,.str (l.drop k)])):=by
  rintro rfl
  rw [tk,dr]
  refine .inl ⟨cut l,n,rfl,rd,by omega,hs,?_⟩
  unfold keyD at hq; rw [kf] at hq; exact hq
 refine ⟨hs,?_⟩
 by_cases e:l.length<=k
 ·exact .inl ⟨e,hs,fin (by omega)⟩
 ·have hg:l[k]?=some (l[k]'(by omega)):=yB (by omega)
  refine .inr ⟨by omega,hs,_,zec hg,?_⟩
  by_cases e2:k=m
  ·refine .inl ⟨?_,hs,fin e2⟩
   have:l[k]'(by omega) ∈ zcH l:=by
    rw [<- dr]; refine yL (i:=0) ?_; rw [Yb,Nat.add_zero,<- e2]; exact hg
   have:=tf _ this
   simpa [dig] using this
  ·refine .inr ⟨?_,⟨k+1,by omega,by simp⟩,by omega⟩
   have:l[k]'(by omega) ∈ cut l:=by
    rw [<- tk]; refine yL (i:=k) ?_
    rw [List.getElem?_take_of_lt (by omega)]
    exact hg
   have:=cd _ this
   simpa [dig] using this
def zhV {Q:Res->Prop} {n:Nat}:∀ {ds:List D},(∀ d ∈ ds,Pln n d)->∀ (A B s2 s3:Slot),Q (.val (.bl true))->zfv (ziJ 2 (zd3 (zx 2) (zd3 (zx 3) ziK))) (zaN (zds (tB' (zJ (zar (n+1)) (zC (zG 2) (zC (zG 3) zY))))) (zS (tC' (D.bl false))) zT)
  { nx:=zS (tC' (D.bl true)) { nx:=fun x=>Q (Res.val D.non),rt:=fun r x=>Q r },rt:=fun r x=>Q r } ((ds.zip ds).map fun p=>D.tup [p.fst,p.snd]) [A,B,s2,s3]:=by
 intro ds
 induction ds with
 | nil=>intro _ A B s2 s3 q; simpa [zfv,zS,tC'] using q
 | cons d ds ih =>
  intro hd A B s2 s3 q
  have ih':=ih (fun x hx=>hd x (yO _ hx)) A B (.val d) (.val d) q
  have h1:=hd d yU; simp only [List.zip_cons_cons,yX,zfv]; simp [ziJ,zd3,ziK,zx,zaN,zds,tB',zJ,zC,zY,zG,tC',zS,zT,zar,Res.toD]; exact ⟨d,[],⟨rfl,rfl⟩,rfl,d,⟨rfl,rfl⟩,h1,ih'⟩
def zbH:FnScope ["_law_found","_law_due","_law_one","_law_other"] ["_law_found","_law_due"] (zm zc8):=sc0
def zgX (d:Df K mg "_law_same" zc8 ["_law_found","_law_due"]) (z_isinstance:mg "isinstance"=none) (z_len:mg "len"=none) (z_list:mg "list"=none) (z_str:mg "str"=none) (z_tuple:mg "tuple"=none) (z_zip:mg "zip"=none):∀ n:Nat,Fn P w K mg base (n+1) "_law_same" ["_law_found","_law_due"] (zar n):=by
 intro n
 induction n with
 | zero=>exact d.ok (k:=0) zbH (fun ds Q h=>(show False from h).elim) (fun f cdv A outer s H E hr ds Q h=>(show False from h).elim)
 | succ n ih =>
 have G_law_same:Fn P w K mg base (n+1) "_law_same" ["_law_found","_law_due"] (zar n):=ih
 refine d.ok (k:=n+1) zbH (fun ds Q h=>?_) (fun f cdv A outer s H E hr ds Q h=>⟨_,(zk (zav (zaA (zy (zbq K rfl) z_isinstance ya (zc (pv' 1) (zc (zew z_str PyProof.Rows.boot_str) zi)))) (zr (zF (zoC (zy (zbq K rfl) z_isinstance ya (zc (pv' 0) (zc (zew z_str PyProof.Rows.boot_str) zi))) (zov (zjH (zel (zdi hr)) (pv' 0) (pv' 1)))))) zO)
  (zk (zav (zaA (zy (zbq K rfl) z_isinstance ya (zc (pv' 1) (zc (zew z_tuple YV) zi)))) (zr (zav (zdb (zaA (zy (zbq K rfl) z_isinstance ya (zc (pv' 0) (zc (zew z_tuple YV) zi))))) (zr (zF zcq)) zO)) (zr (zav (zdb (zaA (zy (zbq K rfl) z_isinstance ya (zc (pv' 0) (zc (zew z_list PyProof.Rows.boot_list) zi))))) (zr (zF zcq)) zO)))
  (zk (zav (zV (zoI (zdi hr)) (zy zbV z_len YQ (zc (pv' 0) zi)) (zy zbV z_len YQ (zc (pv' 1) zi))) (zr (zF zcq)) zO)
  (zk (zb3 (zop z_zip (zc (pv' 0) (zc (pv' 1) zi))) (zot (n:=2) (zfU (zao 2 zbH.nd) (zfU (zao 3 zbH.nd) zlO)))
   (zr (zav (zdb (zaA (za3 G_law_same (hr.mono (by omega)) (zc (pv' 2) (zc (pv' 3) zi))))) (zr (zF zcq)) zO)))
  (zr (zF zcq)))))),?_⟩)
 ·obtain ⟨d,rfl,_⟩:=h
  rfl
 obtain ⟨d,rfl,hp,q⟩:=h
 cases hp with
 | str n l =>
  simp [zaq,zS,zaN,zx,zG,tC',zaX,tB',zds,zhr,zY,zC,zcZ,zbs,zJ,zT,ziJ,zd3,ziK,zmC,zM,zN,zak]; exact q
 | tup hd =>
  simp [zaq,zS,zaN,zx,zG,tC',zaX,tB',zds,zhr,zY,zC,zcZ,zbs,zJ,zT,ziJ,zd3,ziK,zmC,zM,zN,zak]; exact zhV hd _ _ _ _ q
 | lst hd =>
  simp [zaq,zS,zaN,zx,zG,tC',zaX,tB',zds,zhr,zY,zC,zcZ,zbs,zJ,zT,ziJ,zd3,ziK,zmC,zM,zN,zak]; exact zhV hd _ _ _ _ q
end
open Classical in
def zdA {ns:Nd} {p:Pl} (h:p ∈ keys ns):zbk (ndD ns) (plc p)=some (plc (zdC ns p)):=by
 unfold zdC zbk ndD
 induction ns with
 | nil=>cases h
 | cons x r ih =>
  obtain ⟨a,b⟩:=x
  by_cases e:p=a
  ·subst e
   simp
  ·have h':p ∈ keys r:=by
    rcases yQ.mp h with z | z
    ·exact yP z e
    ·exact z
   have ne:¬ plc a=plc p:=fun z=>e (zdL z).symm
   have ne2:(p == a)=false:=beq_eq_false_iff_ne.mpr e
   simp only [yX,yi,ne2]; rw [YS]; simp only [ne,decide_false]; exact ih h'
def zft {q:Pl} (h:q≠[]):atI (q.map D.str) (-1)=some (.str (zaf q)):=by
 have e:=List.dropLast_concat_getLast h
 have e2:zaf q=q.getLast h:=by unfold zaf; rw [List.getLast?_eq_some_getLast h]; rfl
 rw [e2]
 conv=>lhs; rw [<- e,List.map_append,List.map_singleton]
 exact zmO _ _
def zlg {ns:Nd} (o:NOk ns) {n:Nat} {p:Pl} (h8:8<=p.length+n):trD (zE n ns p)=.tup [.str (zaf p),plc (zdC ns p),.tup ((za9 ns p).map fun q=>trD (zE (n-1) ns q))]:=by
 cases n with
 | zero =>
  rw [zf8 o (by omega)]
  rw [zag]; rfl
 | succ n =>
  rw [zag]
  show D.tup [_,_,.tup (((za9 ns p).map (zE n ns)).map trD)]=_
  rw [YH]; rfl
def zoY {ns:Nd} {p:Pl} (o:NOk ns):((zbz ns p).map fun q=>keyD (zaf q)).Nodup:=by
 refine zdf (o.nd.filter _) fun a ha b hb e=>?_
 obtain ⟨a1,a2⟩:=zb6.mp ha; obtain ⟨b1,b2⟩:=zb6.mp hb
 have la:zv (zaf a)=true:=o.lab a a1 _ (by rw [a2,zaU]; simp)
 have lb:zv (zaf b)=true:=o.lab b b1 _ (by rw [b2,zaU]; simp)
 have e2:zbi (zaf a)=zbi (zaf b):=by
  unfold keyD at e
  simp at e
  exact Prod.ext e.1 e.2
 rw [a2,b2,zfh la lb e2]
def zem:D->D->Prop:=fun d k=>∃ q:Pl,d=plc q/\q≠[]/\zv (zaf q)=true/\k=keyD (zaf q)
def zaE:Nat->Sp'
 | 0=>fun _ _=>False
 | n+1=>fun ds Q=>∃ ns p,ds=[.dit (ndD ns),plc p]/\NOk ns/\p ∈ keys ns/\8<=p.length+n/\Q (.val (trD (zE n ns p)))
instance {n:Nat}:MSp (zaE n):=⟨fun _ _ _ h q=>by
 cases n with
 | zero=>exact q
 | succ n =>
  obtain ⟨ns,p,a,b,c,d,q⟩:=q; exact ⟨ns,p,a,b,c,d,h _ q⟩⟩
section
def zaQ:FnScope ["_law_nodes_here","_law_place_here","_law_kids","_law_label_here"] ["_law_nodes_here","_law_place_here"] (zm zaz):=sc0
def zgW (d:Df K mg "_law_tree" zaz ["_law_nodes_here","_law_place_here"]) (G_law_key:Fn P w K mg base 1 "_law_key" ["_law_label_here"] zce) (z_len:mg "len"=none) (z_sorted:mg "sorted"=none) (z_tuple:mg "tuple"=none) (lo:LamOf K mg base "_law_tree" "_law_tree.<locals>.<lambda>"):∀ n:Nat,Fn P w K mg base (n+5) "_law_tree" ["_law_nodes_here","_law_place_here"] (zaE n):=by
 intro n
 induction n with
 | zero=>exact d.okL lo (k:=4) zaQ (fun ds Q h=>(show False from h).elim) (fun f cdv A outer s H E la hr ds Q h=>(show False from h).elim)
 | succ n ih =>
 have G_law_tree:Fn P w K mg base (n+5) "_law_tree" ["_law_nodes_here","_law_place_here"] (zaE n):=ih
 refine d.okL lo (k:=n+5) zaQ (fun ds Q h=>?_) (fun f cdv A outer s H E la hr ds Q h=>⟨_,(zk (zlG 2 zaQ.nd (zlE (fsc:=zm zaz) (N:=["_law_nodes_here","_law_place_here","_law_kids","_law_label_here"]) (N':=["_law_other","_law_place_here"]) (src:=[none,some 1]) (by refine ⟨rfl,?_,?_,?_,rfl,rfl⟩ <;> decide +kernel) (zlN (pv' 0)) (fun _ _ _ _ _ _=>(zao 0 (show (["_law_other","_law_place_here"]:List Str).Nodup by decide +kernel))) (fun _ _ _ _ _ _=>(zhC (PW'.pt (zgR (zV (zel (zdi hr)) (zy zbV z_len YQ (zc (pv' 0) zi)) (zB za4 (zy zbV z_len YQ (zc (pv' 1) zi)) zl)) (zeY (zV (zel (zdi hr)) (zbT s_A (pv' 0) zei (zcP zbM)) (pv' 1))))))) (fun _ _ _ _ _ _=>(pv' 0))))
  (zk (zI 2 zaQ.nd (zcO (zlI (k:=1) (N:=["_law_kid"]) (ps:=["_law_kid"]) (sp:=zln zem) la ⟨rfl,rfl,rfl,by decide +kernel,rfl,by decide +kernel,by decide +kernel⟩ (zji _)
   (fun f c A outer s H E hr ds Q h=>⟨_,(za3 G_law_key (hr.mono (by omega)) (zc (zP (i_A (zac hr)) (pv' 0) zbM) zi)),?lam1⟩) (fun _ _ _ us hl=>match us,hl with | [_],_=>rfl) (hr.mono (by omega)) z_sorted (zc (pv' 2) zi))))
  (zk (zI 3 zaQ.nd (zaS []))
  (zk (zav (zV (zoI (zdi hr)) (pv' 1) (zW zi)) (zr (zI 3 zaQ.nd (zP (i_A (zac hr)) (pv' 1) zbM))) zO)
  (zr (zF (zW (zc (pv' 3) (zc (zP (i_A (zac hr)) (pv' 0) (pv' 1)) (zc (zaK zea z_tuple YV (zc (zcO (ze2 (fsc:=zm zaz) (N:=["_law_nodes_here","_law_place_here","_law_kids","_law_label_here"]) (N':=["_law_kid","_law_nodes_here"]) (src:=[none,some 0]) (by refine ⟨rfl,?_,?_,?_,rfl,rfl⟩ <;> decide +kernel) (zb4 (pv' 2)) (fun _ _ _ _ _ _=>(zao 0 (show (["_law_kid","_law_nodes_here"]:List Str).Nodup by decide +kernel))) (fun _ _ _ _ _ _=>zeZ) (fun _ _ _ _ _ _=>(za3 G_law_tree (hr.mono (by omega)) (zc (pv' 1) (zc (pv' 0) zi)))))) zi)) zi)))))))))),?_⟩)
 case lam1 =>
  obtain ⟨d,k,rfl,⟨q,rfl,hn,hp,rfl⟩,hq⟩:=h
  simp [zaq,zS,zaN,zaD,zx,zG,tC',zcv,zaX,tB',zeO,zY,zC,za5,zcZ,zee,zbr,zef,zbw,zbQ,zJ,zhn,zT,zbd,zgd,zM,zN,zak,zdD,zcv,zce]; exact ⟨_,zft hn,_,rfl,hp,hq⟩
 ·obtain ⟨ns,p,rfl,_⟩:=h
  rfl
 obtain ⟨ns,p,rfl,o,hp,h8,hq⟩:=h; simp [zaq,zS,zaN,zaD,zx,zG,tC',zcv,zaX,tB',zeO,zY,zC,za5,zcZ,zee,zbr,zef,zbw,zbQ,zJ,zhn,zT,zbd,zgd,zM,zN,zak,zdD,zcv]
 have hnl:(ndD ns).length<=400:=by unfold ndD; rw [yG]; exact o.many
 have hkeys:List.map (fun x=>x.fst) (ndD ns)=(keys ns).map plc:=by unfold ndD keys; rw [YH,YH]; rfl
 refine ⟨small (by omega),?_⟩
 rw [hkeys]
 refine zfo (fun i acc Γ=>∃ s0,acc=((((keys ns).take i).filter fun q=>decide (q.length=p.length+1) && decide (q.dropLast=p)).map plc)/\Γ=[s0,.val (plc p)]) ⟨.emp,rfl,rfl⟩ ?_ ?_
 ·rintro i d acc Γ hd ⟨s0,rfl,rfl⟩
  rw [yK] at hd
  cases hc:(keys ns)[i]? with
  | none=>rw [hc] at hd; cases hd
  | some q =>
   rw [hc] at hd; cases hd; have hq8:=o.len q (yL hc); have hp8:=o.len p hp; rw [List.take_succ,hc]; simp [zaq,zS,zaN,zaD,zx,zG,tC',zcv,zaX,tB',zeO,zY,zC,za5,zcZ,zee,zbr,zef,zbw,zbQ,zJ,zhn,zT,zbd,zgd,zM,zN,zak,zdD,zcv,List.filter_append,zd9]
   by_cases h1:q.length=p.length+1
   ·refine .inr ⟨by omega,?_⟩
    by_cases h2:q.dropLast=p
    ·exact .inr ⟨h2,by simp [h1,h2]⟩
    ·exact .inl ⟨h2,fun _=>h2⟩
   ·exact .inl ⟨by omega,fun z=>yP z h1⟩
 ·rintro acc Γ ⟨s0,rfl,rfl⟩
  rw [show List.take (List.map plc (keys ns)).length (keys ns)=keys ns from yq (by rw [yG]; exact yD _)]
  rw [show List.filter (fun q:Pl=>decide (q.length=p.length+1) && decide (q.dropLast=p)) (keys ns)=zbz ns p from rfl]
  have hkl:=o.few p
  have hkc:∀ R:List D->Prop,R ((za9 ns p).map fun q=>trD (zE (n-1) ns q))->zcF (zx 0) zhn (zJ (zaE n) (zC (zG 1) (zC (zG 0) zY))) R ((za9 ns p).map plc) [] [Slot.emp,Slot.val (D.dit (ndD ns))]:=by
   intro R hR
   refine zfo (fun i acc Γ=>∃ s0,acc=(((za9 ns p).take i).map fun q=>trD (zE (n-1) ns q))/\Γ=[s0,.val (D.dit (ndD ns))]) ⟨.emp,rfl,rfl⟩ ?_ ?_
   ·rintro i d acc Γ hd ⟨s0,rfl,rfl⟩
    rw [yK] at hd
    cases hc:(za9 ns p)[i]? with
    | none=>rw [hc] at hd; cases hd
    | some q =>
     rw [hc] at hd; cases hd; have hm:=yL hc; have hql:=zka hm
     cases n with
     | zero =>
      rw [zf8 o (by omega)] at hm
      cases hm
     | succ n =>
      simp [zaq,zS,zaN,zaD,zx,zG,tC',zcv,zaX,tB',zeO,zY,zC,za5,zcZ,zee,zbr,zef,zbw,zbQ,zJ,zhn,zT,zbd,zgd,zM,zN,zak,zdD,zcv,zaE]
      refine ⟨ns,q,⟨rfl,rfl⟩,o,(zbO.mp hm).1,by omega,?_⟩
      rw [List.take_succ,yK,hc]; rfl
   ·rintro acc Γ ⟨s0,rfl,rfl⟩
    rw [show List.take (List.map plc (za9 ns p)).length (za9 ns p)=za9 ns p from yq (by rw [yG]; exact yD _)]
    exact hR
  have hlen:(za9 ns p).length=(zbz ns p).length:=zjf (zgT _) _ _
  refine ⟨by rw [yG]; omega,(zbz ns p).map (fun q=>keyD (zaf q)),fun _=>zoY o,by simp,fun i x k h1 h2=>?_,ltP ((zbz ns p).map zr7),.inr ⟨(zbz ns p).map zr7,by rw [YH]; rfl,rfl⟩,?_⟩
  ·rw [yK] at h1 h2
   cases hc:(zbz ns p)[i]? with
   | none=>rw [hc] at h1; cases h1
   | some q =>
    rw [hc] at h1 h2; cases h1; cases h2; obtain ⟨m1,m2⟩:=zb6.mp (yL hc)
    refine zhu ⟨q,rfl,fun z=>?_,o.lab q m1 _ ?_,rfl⟩
    ·have:=ym List.length m2
     rw [z] at this
     simp at this
    ·rw [m2,zaU]
     simp
  ·rw [zn1 plc [] (zbz ns p) (zgT _)]
   rw [show srt (ltP ((zbz ns p).map zr7)) [] (zbz ns p)=za9 ns p from rfl]
   rw [zlg o h8] at hq
   by_cases hp0:p=[]
   ·refine .inl ⟨hp0,zhA p (ndD ns) (zdA hp) ⟨small (by rw [yG]; omega),hkc _ ?_⟩⟩
    subst hp0; exact hq
   ·exact .inr ⟨hp0,_,zft hp0,zhA p (ndD ns) (zdA hp) ⟨small (by rw [yG]; omega),hkc _ hq⟩⟩
end
def za1:Sp':=fun ds Q=>∃ ns c,ds=[.dit (ndD ns),.int c]/\NOk ns/\∀ p:Pl,zps p->p.length<=8->Q (.val (plc p))
def zbn:Sp':=fun ds Q=>∃ cs:List Int,ds=[.lst (cs.map .int)]/\cs.length<=50/\∀ ns,NW ns->ns.length<=1+cs.length->Q (.own (.dit (ndD ns)))
instance:MSp za1:=⟨fun _ _ _ h ⟨c,d,e,z,q⟩=>⟨c,d,e,z,fun l z y=>h _ (q l z y)⟩⟩
open Classical in
def zgj {es:List (D × D)} {k v:D} (h:zbk es k=some v):(k,v) ∈ es:=by
 unfold zbk at h; obtain ⟨q,hq,e⟩:=Yw.mp h; have h1:=List.mem_of_find?_eq_some hq; have h2:=List.find?_some hq; obtain ⟨a,b⟩:=q
 have h2':a=k:=by simpa using h2
 dsimp only at e
 rw [<- h2',<- e]; exact h1
open Classical in
def zfm (ns:Nd) (q ws:Pl):zmK (ndD ns) (plc q) (plc ws)=ndD (putN ns q ws):=by
 have hs:(zbk (ndD ns) (plc q)).isSome=true↔q ∈ keys ns:=by
  constructor
  ·intro h
   obtain ⟨v,hv⟩:=YR.mp h; obtain ⟨y,hy,e⟩:=yh.mp (zgj hv)
   injection e with e1 e2
   rw [<- zdL e1]; exact yx hy
  ·intro h
   rw [zdA h]; rfl
 unfold zmK putN
 by_cases e:q ∈ keys ns
 ·rw [yI (hs.mpr e),yI e]
  unfold ndD; rw [YH,YH]
  refine Yf fun x _=>?_
  show (if plc x.1=plc q then (plc x.1,plc ws) else (plc x.1,plc x.2))=(plc (if x.1=q then (q,ws) else x).1,plc (if x.1=q then (q,ws) else x).2)
  by_cases z:x.1=q
  ·rw [yI (by rw [z]),yI z,z]
  ·rw [yH (fun y=>z (zdL y)),yH z]
 ·rw [yH (fun z=>e (hs.mp z)),yH e]
  simp [ndD]
def zqv {ns:Nd} (o:NOk ns) {q ws:Pl} (hl:ns.length<=100) (h8:q.length<=8) (hu:q.dropLast ∈ keys ns) (hlab:∀ l,l ∈ q->zv l=true):NOk (putN ns q ws):=by
 have hk:=zfg ns q ws
 have hlen:(putN ns q ws).length<=ns.length+1:=by
  unfold putN; split
  ·rw [yG]; omega
  ·simp
 by_cases e:q ∈ keys ns
 ·rw [yI e] at hk
  exact ⟨by rw [hk]; exact o.nil,by rw [hk]; exact o.nd,by rw [hk]; exact o.len,by rw [hk]; exact o.up,by rw [hk]; exact o.lab,by omega,fun p=>by have:=zff (putN ns q ws) p; omega⟩
 ·rw [yH e] at hk
  refine ⟨by rw [hk]; simp [o.nil],?_,fun x hx=>?_,fun x hx=>?_,fun x hx=>?_,by omega,fun p=>by have:=zff (putN ns q ws) p; omega⟩
  ·rw [hk,List.nodup_append]
   refine ⟨o.nd,by simp,fun a ha b hb=>?_⟩
   rw [show b=q by simpa using hb]
   exact fun z=>e (z ▸ ha)
  all_goals
   rw [hk] at hx
   rcases yb.mp hx with h | h
  ·exact o.len x h
  ·rw [show x=q by simpa using h]; exact h8
  ·rw [hk]; simp [o.up x h]
  ·rw [hk,show x=q by simpa using h]; simp [hu]
  ·exact o.lab x h
  ·rw [show x=q by simpa using h]; exact hlab
def zhB {ns:Nd} (o:NW ns) {q ws:Pl} (hw:ws.length<=4) (hl:ns.length<=100) (h8:q.length<=8) (hu:q.dropLast ∈ keys ns) (hlab:∀ l,l ∈ q->zv l=true):NW (putN ns q ws):=by
 refine ⟨zqv o.ok hl h8 hu hlab,fun x hx=>?_⟩
 unfold putN at hx; split at hx
 ·obtain ⟨y,hy,e⟩:=yh.mp hx
  rw [<- e]; split
  ·exact hw
  ·exact o.wd y hy
 ·rcases yb.mp hx with z | z
  ·exact o.wd x z
  ·rw [yc.mp z]; exact hw
section
def zau:FnScope ["_law_cells","_law_nodes_here","_law_made","_law_cell","_law_above","_law_place_here"] ["_law_cells"] (zm zcx):=sc0
def zf2 (d:Df K mg "_law_nodes" zcx ["_law_cells"]) (G_law_label:Fn P w K mg base 1 "_law_label" ["_law_cell"] zai) (G_law_words:Fn P w K mg base 2 "_law_words" ["_law_cell"] zah) (z_len:mg "len"=none):Fn P w K mg base 3 "_law_nodes" ["_law_cells"] zbn:=by
 refine d.ok zau (fun ds Q h=>?_) (fun f cdv A outer s H E hr ds Q h=>⟨_,(zk (zdv 1 zau.nd (zlJ (zac hr) (zW zi) (zW (zc (zaS [97,108,108]) zi))))
  (zk (zdv 2 zau.nd (zfS (zc (zW zi) zi)))
  (zk (zb3 (zb4 (pv' 0)) (zao 3 zau.nd)
   (zk (zI 4 zau.nd (ze4 (zP (i_A (zac hr)) (pv' 2) (zB zcm (zB za4 (zB zbp (pv' 3) zl) (zB zcm (pv' 3) zl)) (zy zbV z_len YQ (zc (pv' 2) zi))))))
  (zk (zI 5 zau.nd (zB za4 (pv' 4) (zW (zc (za3 G_law_label (hr.mono (by decide)) (zc (zB zbp (pv' 3) zl) zi)) zi))))
  (zk (zav (PW'.pt (zdK (zV zuB (zy zbV z_len YQ (zc (pv' 5) zi)) zl) (zeX (zV (zel (zdi hr)) (zB zcm (pv' 3) zl) zl)))) (zr (zI 5 zau.nd (pv' 4))) zO)
  (zk (zav (ze0 (zV (zhH (zac hr)) (pv' 5) (pv' 1))) (zr (zdc 2 (pv' 5))) zO)
  (zr (ze1 (zac hr) 1 (pv' 5) (za3 G_law_words (hr.mono (by decide)) (zc (zB zbp (pv' 3) zl) zi)))))))))
  (zr (zlH 1))))),?_⟩)
 ·obtain ⟨cs,rfl,_⟩:=h
  rfl
 obtain ⟨cs,rfl,hl,hq⟩:=h; simp [zaq,zaN,zaD,zx,zG,tC',zaX,tB',zpu,zY,zC,za5,zdE,zcZ,zbs,zbw,zJ,zT,zeL,zcI,zfE,zcJ,zbd,zho,zhq,zcC,zlh,zM,zN,zak,zai,zah]; refine ⟨Imm.plc _,Imm.plc _,⟨[],rfl⟩,?_⟩
 refine zgf (fun i Γ=>∃ (ns:Nd) (mp:List Pl) (s3 s4 s5:Slot),Γ=[.val (.lst (cs.map .int)),.own (.dit (ndD ns)),.own (.lst (mp.map plc)),s3,s4,s5]/\NW ns/\ns.length<=1+i/\mp≠[]/\mp.length<=1+i/\∀ p ∈ mp,p ∈ keys ns)
  ⟨[([],[[97,108,108]])],[[]],_,_,_,rfl,⟨⟨by simp [keys],by simp [keys],by simp [keys],by simp [keys],by simp [keys],by simp,fun p=>by have:=zff [([],[[97,108,108]])] p; simp at this; omega⟩,by simp⟩,by simp,by simp,by simp,by simp [keys]⟩ ?_ ?_
 ·rintro i d Γ hd ⟨ns,mp,s3,s4,s5,rfl,o,hle,hmp,hml,hma⟩
  have hi:i<cs.length:=by simpa using (yE.mp hd).1
  rw [yK,yB hi] at hd; cases hd
  have hpos:0<mp.length:=List.length_pos_iff.mpr hmp
  have hp0:=md (i:=cs[i] / 120+cs[i] % 120) (n:=mp.length) hpos
  obtain ⟨d,e1,m1⟩:=zeb (mp.map plc) hp0.1 (by rw [yG]; exact hp0.2)
  obtain ⟨p,mq,rfl⟩:=yh.mp m1; have hpk:=hma p mq; have hp8:=o.ok.len p hpk; simp [zaq,zaN,zaD,zx,zG,tC',zaX,tB',zpu,zY,zC,za5,zdE,zcZ,zbs,zbw,zJ,zT,zeL,zcI,zfE,zcJ,zbd,zho,zhq,zcC,zlh,zM,zN,zak,zmU,zai,zah]; refine ⟨hpos,plc p,e1,Imm.plc p,?_⟩
  have hnl:(ndD ns).length=ns.length:=by unfold ndD; rw [yG]
  have hsE:(ndD ns).length<sizeLine:=zaC (by omega)
  have hsM:mp.length<sizeLine:=zaC (by omega)
  have fl:∀ q ws:Pl,(putN ns q ws).length<=1+(i+1):=fun q ws=>by
   have:(putN ns q ws).length<=ns.length+1:=by
    unfold putN; split
    ·rw [yG]; omega
    ·simp
   omega
  have fk:∀ (q ws r:Pl),r ∈ keys ns\/r=q->r ∈ keys (putN ns q ws):=fun q ws r h=>by
   rw [zfg]
   rcases h with z | z
   ·split
    ·exact z
    ·simp [z]
   ·split
    ·rename_i y; rw [z]; exact y
    ·simp [z]
  have finA:∀ q ws:Pl,ws.length<=4->q.length<=8->q.dropLast ∈ keys ns->(∀ l,l ∈ q->zv l=true)->∃ (ns':Nd) (mp2:List Pl),(zmK (ndD ns) (plc q) (plc ws)=ndD ns'/\List.map plc mp=List.map plc mp2)/\NW ns'/\ns'.length<=1+(i+1)/\¬ mp2=[]/\mp2.length<=1+(i+1)/\∀ r:Pl,r ∈ mp2->r ∈ keys ns':=fun q ws hw4 h1 h2 h3 =>
   ⟨putN ns q ws,mp,⟨zfm _ _ _,rfl⟩,zhB o hw4 (by omega) h1 h2 h3,fl q ws,hmp,by omega,fun r hr=>fk q ws r (.inl (hma r hr))⟩
  have finB:∀ q ws:Pl,ws.length<=4->q.length<=8->q.dropLast ∈ keys ns->(∀ l,l ∈ q->zv l=true)->∃ (ns':Nd) (mp2:List Pl),(zmK (ndD ns) (plc q) (plc ws)=ndD ns'/\List.map plc mp ++ [plc q]=List.map plc mp2)/\NW ns'/\ns'.length<=1+(i+1)/\¬ mp2=[]/\mp2.length<=1+(i+1)/\∀ r:Pl,r ∈ mp2->r ∈ keys ns':=fun q ws hw4 h1 h2 h3 =>
   ⟨putN ns q ws,mp ++ [q],⟨zfm _ _ _,by simp⟩,zhB o hw4 (by omega) h1 h2 h3,fl q ws,by simp,by simp; omega,fun r hr=>fk q ws r (by
    rcases yb.mp hr with z | z
    ·exact .inl (hma r z)
    ·exact .inr (by simpa using z))⟩
  have hpu:=o.ok.up p hpk; have hpl:=o.ok.lab p hpk; intro l hlab; rw [zfQ]
  refine ⟨small (by simp; omega),?_⟩
  simp
  by_cases h8:8<=p.length
  ·refine .inr ⟨by omega,zbL _ _ ?_⟩
   cases (zbk (ndD ns) (plc p)).isSome <;> simp
   ·exact ⟨hsM,fun ws hws=>⟨⟨zca p,za2 p⟩,hsE,finB p ws hws hp8 hpu hpl⟩⟩
   ·exact fun ws hws=>⟨⟨zca p,za2 p⟩,hsE,finA p ws hws hp8 hpu hpl⟩
  ·refine .inl ⟨by omega,?_⟩
   by_cases h7:cs[i] % 7=6
   ·refine .inr ⟨h7,zbL _ _ ?_⟩
    cases (zbk (ndD ns) (plc p)).isSome <;> simp
    ·exact ⟨hsM,fun ws hws=>⟨⟨zca p,za2 p⟩,hsE,finB p ws hws hp8 hpu hpl⟩⟩
    ·exact fun ws hws=>⟨⟨zca p,za2 p⟩,hsE,finA p ws hws hp8 hpu hpl⟩
   ·have h1:(p ++ [l]).length<=8:=by simp; omega
    have h2:(p ++ [l]).dropLast ∈ keys ns:=by rw [List.dropLast_concat]; exact hpk
    have h3:∀ x,x ∈ p ++ [l]->zv x=true:=fun x hx=>by
     rcases yb.mp hx with z | z
     ·exact hpl x z
     ·rw [show x=l by simpa using z]; exact hlab
    refine .inl ⟨h7,zbL _ _ ?_⟩
    cases (zbk (ndD ns) (plc (p ++ [l]))).isSome <;> simp
    ·exact ⟨hsM,fun ws hws=>⟨⟨zca (p ++ [l]),za2 (p ++ [l])⟩,hsE,finB (p ++ [l]) ws hws h1 h2 h3⟩⟩
    ·exact fun ws hws=>⟨⟨zca (p ++ [l]),za2 (p ++ [l])⟩,hsE,finA (p ++ [l]) ws hws h1 h2 h3⟩
 ·rintro Γ ⟨ns,mp,s3,s4,s5,rfl,o,hle,hmp,hml,hma⟩
  simp [zaq,zaN,zaD,zx,zG,tC',zaX,tB',zpu,zY,zC,za5,zdE,zcZ,zbs,zbw,zJ,zT,zeL,zcI,zfE,zcJ,zbd,zho,zhq,zcC,zlh,zM,zN,zak]
  exact hq ns o (by simpa using hle)
def zbZ:FnScope ["_law_nodes_here","_law_cell","_law_some","_law_place_here"] ["_law_nodes_here","_law_cell"] (zm zcw):=sc0
def zf1 (d:Df K mg "_law_place" zcw ["_law_nodes_here","_law_cell"]) (G_law_label:Fn P w K mg base 1 "_law_label" ["_law_cell"] zai) (z_len:mg "len"=none) (z_list:mg "list"=none):Fn P w K mg base 2 "_law_place" ["_law_nodes_here","_law_cell"] za1:=by
 refine d.ok zbZ (fun ds Q h=>?_) (fun f cdv A outer s H E hr ds Q h=>⟨_,(zk (zI 2 zbZ.nd (zcO (zir (zpn rfl) z_list PyProof.Rows.boot_list (zc (pv' 0) zi))))
  (zk (zI 3 zbZ.nd (zP (i_A (zac hr)) (pv' 2) (zB zcm (zB za4 (zB zbp (pv' 1) zl) (zB zhI (zB zcm (pv' 1) zl) zl)) (zy zbV z_len YQ (zc (pv' 2) zi)))))
  (zk (zav (zV (zel (zdi hr)) (zB zcm (pv' 1) zl) zl) (zr (zF (zB za4 (zbT s_A (pv' 3) zei (zcP zbM)) (zW (zc (za3 G_law_label (hr.mono (by decide)) (zc (zB zbp (pv' 1) zl) zi)) zi))))) zO)
  (zk (zav (PW'.pt (zgR (zV (zel (zdi hr)) (zB zcm (pv' 1) zl) zl) (zeY (zV ztV (zy zbV z_len YQ (zc (pv' 3) zi)) zl)))) (zr (zF (zB za4 (pv' 3) (zW (zc (za3 G_law_label (hr.mono (by decide)) (zc (zB zbp (pv' 1) zl) zi)) zi))))) zO)
  (zr (zF (pv' 3))))))),?_⟩)
 ·obtain ⟨ns,c,rfl,_⟩:=h
  rfl
 obtain ⟨ns,c,rfl,o,hq⟩:=h; simp [zaq,zS,zaN,zaD,zx,zG,tC',zcv,zaX,tB',zeO,zY,zC,za5,zcZ,zee,zbr,zef,zJ,zT,zn0,zM,zN,zak,zcv,zai,zmU,zmT]
 have hkeys:List.map (fun x=>x.fst) (ndD ns)=(keys ns).map plc:=by unfold ndD keys; rw [YH,YH]; rfl
 have hlen:(ndD ns).length=ns.length:=by unfold ndD; rw [yG]
 have hpos:0<(ndD ns).length:=by rw [hlen]; have:=List.length_pos_of_mem o.nil; unfold keys at this; simpa using this
 have hkl:(keys ns).length=(ndD ns).length:=by unfold keys; rw [yG,hlen]
 obtain ⟨d,e1,m1⟩:=zeb ((keys ns).map plc) (md (i:=c / 4+c % 4 * 3) (n:=(ndD ns).length) hpos).1 (by rw [yG,hkl]; exact (md (i:=c / 4+c % 4 * 3) (n:=(ndD ns).length) hpos).2)
 obtain ⟨p,mq,rfl⟩:=yh.mp m1; have hp:=o.len p mq; have hlb:=o.lab p mq; rw [<- hkeys] at e1; refine ⟨hpos,plc p,e1,?_⟩
 have snoc:∀ (q:Pl) (l:List Nat),q.length<=7->(∀ l ∈ q,zv l=true)->zv l=true->zps (q ++ [l]):=fun q l h1 h2 h3=>⟨by simp; omega,fun x hx=>by
  rcases yb.mp hx with z | z
  ·exact h2 x z
  ·rw [yc.mp z]; exact h3⟩
 by_cases h3:c % 4=3
 ·refine .inr ⟨h3,?_⟩
  simp only [zlx,zd9]; intro l hl; rw [zfQ]
  have:p.dropLast.length<=7:=by rw [List.length_dropLast]; omega
  exact ⟨small (by simp; omega),hq _ (snoc _ l this (fun x hx=>hlb x (List.dropLast_subset _ hx)) hl) (by simp; omega)⟩
 ·refine .inl ⟨h3,?_⟩
  by_cases h6:c % 16=6
  ·refine .inr ⟨h6,?_⟩
   simp
   by_cases h8:p.length<8
   ·refine .inr ⟨by omega,fun l hl=>⟨small (by omega),hq _ (snoc p l (by omega) hlb hl) (by simp; omega)⟩⟩
   ·exact .inl ⟨by omega,hq _ ⟨by omega,hlb⟩ hp⟩
  ·exact .inl ⟨h6,hq _ ⟨by omega,hlb⟩ hp⟩
end
def zad (R:D->D->Prop) (f:Addr):Nat->Sp'
 | 0=>fun _ _=>False
 | n+1=>fun ds Q=>∃ (t:Tr) (p:Pl) (nd:Tr) (ws:Pl) (ks:List Tr) (c:Nat),ds=[trD t,plc p,.adr f]/\Wf c (n+1) t/\c<=200/\zu t p=some nd/\R (trD nd) (trD (.node nd.lab ws ks))/\p.length<=100/\Q (.val (trD (zb7 t p ws ks)))
instance {R:D->D->Prop} {f:Addr} {n:Nat}:MSp (zad R f n):=⟨fun _ _ _ h q=>by
 cases n with
 | zero=>exact q
 | succ n =>
  obtain ⟨t,p,nd,ws,ks,c,a,b,z1,z2,z3,z4,q⟩:=q; exact ⟨t,p,nd,ws,ks,c,a,b,z1,z2,z3,z4,h _ q⟩⟩
def zrs {α:Type} (a:α) (r:List α):zdk (a :: r) (some 1) none=r:=by
 unfold zdk; simp [HT.sIx]
theorem znv:∀ t:Tr,Imm (trD t)
 | .node l ws ks=>by
  rw [zag]
  refine .tup fun d hd=>?_
  simp only [yQ,YA,or_false] at hd
  rcases hd with rfl | rfl | rfl
  ·exact .str _
  ·exact .plc _
  ·refine .tup fun d hd=>?_
   obtain ⟨k,hk,rfl⟩:=yh.mp hd
   have hk':k ∈ ks:=hk
   exact znv k
termination_by t=>sizeOf t
decreasing_by
 have:=List.sizeOf_lt_of_mem hk'
 simp; omega
def zic {ns:Nd} {p ws:Pl} (o:NW ns) (hw:ws.length<=4) (on:NW (putN ns p ws)) {nd:Tr} (hnd:zu (zE 9 ns []) p=some nd):zb7 (zE 9 ns []) p ws nd.kds=zE 9 (putN ns p ws) []:=by
 have w1:=zbD o 9 [] o.ok.nil (by simp)
 have w2:=zbD on 9 [] on.ok.nil (by simp)
 obtain ⟨a,b⟩:=w1.at hnd
 have w3:Wf 120 9 (zb7 (zE 9 ns []) p ws nd.kds):=by
  refine zg3 w1 hnd ?_; obtain ⟨m,hm⟩:=b.pos; have b':=b
  have hm':9-p.length=m+1:=hm
  have b2:Wf 120 (9-p.length) nd:=b
  rw [hm'] at b2
  show Wf 120 (9-p.length) _
  rw [hm']
  exact .mk b2.kid b2.plab b2.ris b2.few (by omega)
 refine zmY w3 w2 (by rw [zcj,zbl,zbl]) fun q=>?_
 rw [zk9 hnd,zc0 on.ok,zhN,zc0 o.ok]
def zj1 {ns:Nd} {p:Pl} {l:List Nat} (o:NW ns) (hp8:p.length<8) (hl:zv l=true) (hnew:p ++ [l] ∉ keys ns) (on:NW (putN ns (p ++ [l]) [])) {nd:Tr} (hnd:zu (zE 9 ns []) p=some nd) (hkn:zo l nd.kds=none) :
  zb7 (zE 9 ns []) p nd.wds (zdt (nd.kds ++ [.node l [] []]))=zE 9 (putN ns (p ++ [l]) []) []:=by
 have w1:=zbD o 9 [] o.ok.nil (by simp)
 have w2:=zbD on 9 [] on.ok.nil (by simp)
 have b:Wf 120 (9-p.length) nd:=(w1.at hnd).2
 have kok:KidsOk (nd.kds ++ [.node l [] []]) (zdt (nd.kds ++ [.node l [] []])):=zfe fun x hx=>by
  rcases yb.mp hx with z | z
  ·exact b.plab x z
  ·rw [yc.mp z]; exact hl
 have w3:Wf 121 9 (zb7 (zE 9 ns []) p nd.wds (zdt (nd.kds ++ [.node l [] []]))):=by
  refine zg3 (w1.up (by decide) (yD _)) hnd ?_
  obtain ⟨m,hm⟩:∃ m,9-p.length=m+2:=⟨7-p.length,by omega⟩
  show Wf 121 (9-p.length) _
  rw [hm] at b ⊢
  refine zoM kok (fun k' hk'=>?_) (fun k' hk'=>?_) (by have:=b.few; simp; omega) (by have:=b.wfew; omega)
  ·rcases yb.mp hk' with z | z
   ·exact (b.kid k' z).up (by omega) (yD _)
   ·rw [yc.mp z]; exact (zj0 (c:=121) (by simp)).up (yD _) (by omega)
  ·rcases yb.mp hk' with z | z
   ·exact b.plab k' z
   ·rw [yc.mp z]; exact hl
 refine zmY w3 w2 (by rw [zcj,zbl,zbl]) fun q=>?_
 rw [znS (k:=.node l [] []) w1 hnd hkn hl,zc0 on.ok,zhN,zc0 o.ok]
 rw [show (Tr.node l [] []).lab=l from rfl]
 by_cases hq:p ++ [l] <+: q
 ·rw [yI hq]
  obtain ⟨r,hr⟩:=hq; subst hr
  have h1:List.drop (p.length+1) (p ++ [l] ++ r)=r:=by
   rw [show p.length+1=(p ++ [l]).length by simp]
   exact List.drop_left
  rw [h1]
  cases r with
  | nil=>rw [yd,yI rfl]; rfl
  | cons m r =>
   rw [yH (by simp)]
   have h2:ns.lookup (p ++ [l] ++ m :: r)=none:=by
    cases z:ns.lookup (p ++ [l] ++ m :: r) with
    | none=>rfl
    | some w=>exact yP (znb o.ok _ _ (zbg.mpr (by rw [z]; rfl))) hnew
   rw [h2,zi5]; rfl
 ·rw [yH hq,yH (fun z=>hq (by rw [z]; exact List.prefix_rfl))]
section
def za0:FnScope ["_law_node","_law_place_here","_law_form","_law_kids","_law_kid"] ["_law_node","_law_place_here","_law_form"] (zm za7):=sc0
def zek {J:L2.Jt} {R:D->D->Prop} {fv:Addr} (V:FnV P w K mg base J 1 fv R) (d:Df K mg "_law_changed" za7 ["_law_node","_law_place_here","_law_form"]) (z_tuple:mg "tuple"=none):∀ n:Nat,FnJ P w K mg base J (n+1) "_law_changed" ["_law_node","_law_place_here","_law_form"] (zad R fv n):=by
 intro n
 induction n with
 | zero=>exact d.okJ (k:=0) za0 V.jk (fun ds Q h=>(show False from h).elim) (fun f cdv A outer s H E hj hr ds Q h=>(show False from h).elim)
 | succ n ih =>
 have G_law_changed:FnJ P w K mg base J (n+1) "_law_changed" ["_law_node","_law_place_here","_law_form"] (zad R fv n):=ih
 refine d.okJ (k:=n+1) za0 V.jk (fun ds Q h=>?_) (fun f cdv A outer s H E hj hr ds Q h=>⟨_,(zk (zav (zV (zel (zdi hr)) (pv' 1) (zW zi)) (zr (zF (zjI 2 V (hr.mono (by omega)) hj (zc (pv' 0) zi)))) zO)
  (zk (zdv 3 za0.nd (zfS zi))
  (zk (zb3 (zb4 (zP (i_A (zac hr)) (pv' 0) zl)) (zao 4 za0.nd)
   (zr (zav (zV (zel (zdi hr)) (zP (i_A (zac hr)) (pv' 4) zl) (zP (i_A (zac hr)) (pv' 1) zl)) (zr (zdc 3 (zqL G_law_changed (hr.mono (by omega)) hj (zc (pv' 4) (zc (zbT s_A (pv' 1) (zcP zl) zei) (zc (pv' 2) zi)))))) (zr (zdc 3 (pv' 4))))))
  (ziq 3 (zr (zF (zW (zc (zP (i_A (zac hr)) (pv' 0) zl) (zc (zP (i_A (zac hr)) (pv' 0) zl) (zc (zaK zea z_tuple YV (zc (pv' 3) zi)) zi)))))))))),?_⟩)
 ·obtain ⟨t,p,nd,ws,ks,c,rfl,_⟩:=h
  rfl
 obtain ⟨t,p,nd,ws,ks,c,rfl,hw,hc,hn,hR,hpl,q⟩:=h; simp [zaq,zS,zaN,zx,zG,tC',zaX,tB',zY,zC,za5,zdE,zcZ,zee,zbr,zef,zbs,zbw,zJ,zT,zfE,zbd,zM,zN,zak,zeM,zeN]
 by_cases hp0:p=[]
 ·subst hp0
  cases hn; exact .inr ⟨rfl,_,hR,q⟩
 refine .inl ⟨hp0,?_⟩
 obtain ⟨l,p,rfl⟩:∃ l p',p=l :: p':=by
  cases p with
  | nil=>exact yP rfl hp0
  | cons l p=>exact ⟨l,p,rfl⟩
 have hfew:=hw.few
 refine zgf (fun i Γ=>∃ s4,Γ=[.val (trD t),.val (plc (l :: p)),.val (.adr fv),.own (.lst ((t.kds.take i).map fun k=>trD (if k.lab=l then zb7 k p ws ks else k))),s4]) ⟨.emp,rfl⟩ ?_ ?_
 ·rintro i d Γ hd ⟨s4,rfl⟩
  rw [yK] at hd
  cases hcc:t.kds[i]? with
  | none=>rw [hcc] at hd; cases hd
  | some k =>
   rw [hcc] at hd; cases hd; have hm:=yL hcc; have hk:=hw.kid k hm; rw [List.take_succ,hcc]; simp [zaq,zS,zaN,zx,zG,tC',zaX,tB',zY,zC,za5,zdE,zcZ,zee,zbr,zef,zbs,zbw,zJ,zT,zfE,zbd,zM,zN,zak,zeM,zeN,ix0]
   have hsz:min i t.kds.length<sizeLine:=zaC (by omega)
   by_cases e:k.lab=l
   ·refine .inr ⟨e,?_⟩
    rw [zrs]
    have hn':zu k p=some nd:=by
     have:=zbv hw.nd hm
     rw [e] at this
     simpa [zu,this] using hn
    obtain ⟨m,rfl⟩:=hk.pos
    exact ⟨k,p,nd,ws,ks,c,rfl,hk,hc,hn',hR,by simp at hpl; omega,hsz,by rw [yI e]; rfl⟩
   ·exact .inl ⟨e,hsz,by rw [yH e]⟩
 ·rintro Γ ⟨s4,rfl⟩
  rw [show List.take (List.map trD t.kds).length t.kds=t.kds from yq (by rw [yG]; exact yD _)]
  simp [zaq,zS,zaN,zx,zG,tC',zaX,tB',zY,zC,za5,zdE,zcZ,zee,zbr,zef,zbs,zbw,zJ,zT,zfE,zbd,zM,zN,zak,zeM,zeN,ix0,ix1]
  have e:trD (zb7 t (l :: p) ws ks)=D.tup [D.str t.lab,plc t.wds,D.tup (List.map (fun k=>trD (if k.lab=l then zb7 k p ws ks else k)) t.kds)]:=by
   rw [zag]
   show D.tup [D.str t.lab,plc t.wds,D.tup ((t.kds.map fun k=>if k.lab=l then zb7 k p ws ks else k).map trD)]=_
   rw [YH]; rfl
  rw [e] at q; exact q
end
def zaY (T:Cs):Sp':=fun ds Q=>∃ t p ws c n,ds=[trD t,plc p,plc ws]/\Wf c n t/\c<=200/\zps p/\zu t p=none/\Q (.val (.bl true))
instance {T:Cs}:MSp (zaY T):=⟨fun _ _ _ h ⟨t,p,d,c,n,e,z1,z2,z3,z4,q⟩=>⟨t,p,d,c,n,e,z1,z2,z3,z4,h _ q⟩⟩
def zon (n:Nat) (p:Pl):Pln (n+1) (plc p):=.tup fun d hd=>by
 obtain ⟨l,_,rfl⟩:=yh.mp hd; exact .str n l
section
variable {T:Cs}
def zaZ:FnScope ["_law_tree_here","_law_place_here","_law_words_here","_law_error","e"] ["_law_tree_here","_law_place_here","_law_words_here"] (zm zbK):=sc0
def zej (d:Df K mg "_law_refused" zbK ["_law_tree_here","_law_place_here","_law_words_here"]) (cf:CF K T) (G_with_words:FnX P w K mg base 4 "with_words" ["tree","place","words"] (zay T)) (G_law_same:Fn P w K mg base 25 "_law_same" ["_law_found","_law_due"] (zar 24)) (z_ValueError:mg "ValueError"=none) (z_isinstance:mg "isinstance"=none) (m_MendError:mg "MendError"=some (.ref T.MendError)) (m_NoAct:mg "NoAct"=some (.ref T.NoAct)) (m_NoDay:mg "NoDay"=some (.ref T.NoDay)) (m_NoFit:mg "NoFit"=some (.ref T.NoFit)) (m_NoName:mg "NoName"=some (.ref T.NoName)) (m_NoPlace:mg "NoPlace"=some (.ref T.NoPlace)) (m_NoRow:mg "NoRow"=some (.ref T.NoRow)) (m_NoText:mg "NoText"=some (.ref T.NoText)) (m_Twice:mg "Twice"=some (.ref T.Twice)):Fn P w K mg base 26 "_law_refused" ["_law_tree_here","_law_place_here","_law_words_here"] (zaY T):=by
 refine d.ok zaZ (fun ds Q h=>?_) (fun f cdv A outer s H E hr ds Q h=>⟨_,(zk (zI 3 zaZ.nd zdd)
  (zk (zoi 4 (zcd (zk5 (zk7 G_with_words (hr.mono (by decide)) (zc (pv' 0) (zc (pv' 1) (zc (pv' 2) zi))))))
   (fun _=>(zr (zI 3 zaZ.nd (pv' 4)))) m_MendError zaZ.nd)
  (zk (zav (PW'.pt (zdK (zdb (zaA (zy (zbq K rfl) z_isinstance ya (zc (pv' 3) (zc (zb5 m_NoPlace) zi))))) (zeX (zdb (zaA (zy (zbq K rfl) z_isinstance ya (zc (pv' 3) (zc (zew z_ValueError zrB) zi)))))))) (zr (zF zcq)) zO)
  (zk (zav (PW'.pt (zdK (zaA (zy (zbq K rfl) z_isinstance ya (zc (pv' 3) (zc (zb5 m_NoText) zi)))) (zdK (zaA (zy (zbq K rfl) z_isinstance ya (zc (pv' 3) (zc (zb5 m_NoFit) zi)))) (zeX (zaA (zy (zbq K rfl) z_isinstance ya (zc (pv' 3) (zc (zb5 m_NoName) zi)))))))) (zr (zF zcq)) zO)
  (zk (zav (PW'.pt (zdK (zaA (zy (zbq K rfl) z_isinstance ya (zc (pv' 3) (zc (zb5 m_Twice) zi)))) (zdK (zaA (zy (zbq K rfl) z_isinstance ya (zc (pv' 3) (zc (zb5 m_NoDay) zi)))) (zdK (zaA (zy (zbq K rfl) z_isinstance ya (zc (pv' 3) (zc (zb5 m_NoAct) zi)))) (zeX (zaA (zy (zbq K rfl) z_isinstance ya (zc (pv' 3) (zc (zb5 m_NoRow) zi))))))))) (zr (zF zcq)) zO)
  (zr (zF (za3 G_law_same (hr.mono (by decide)) (zc (zlU (pv' 3)) (zc (pv' 1) zi)))))))))),?_⟩)
 ·obtain ⟨t,p,ws,c,n,rfl,_⟩:=h
  rfl
 obtain ⟨t,p,ws,c,n,rfl,hw,hc,hp,hd,q⟩:=h
 have hs:zar 24 [plc p,plc p] fun r=>Q (Res.val r.toD):=⟨_,rfl,zon _ _,q⟩
 have hlk:List.lookup ("place":Str) [(("place":Str),plc p)]=some (plc p):=by simp [List.lookup]
 simp [zaq,zS,zaN,zaD,zx,zG,tC',tB',zds,zpu,zY,zC,zcZ,zJ,zT,zmW,zhg,zpW,zm1,zM,zN,zak,zlB]
 exact ⟨t,p,ws,c,n,rfl,hw,hc,hp,fun nd hn=>(by rw [hd] at hn; cases hn),fun _=>⟨cf.exm,cf.xis,.inr ⟨cf.kN,cf.xis,.inr ⟨cf.kV,cf.xis,.inl ⟨cf.k1,cf.xis,.inl ⟨cf.k2,cf.xis,.inl ⟨cf.k3,cf.xis,.inl ⟨cf.k4,cf.xis,.inl ⟨cf.k5,cf.xis,.inl ⟨cf.k6,cf.xis,.inl ⟨cf.k7,cf.xfl,cf.na,_,hlk,hs⟩⟩⟩⟩⟩⟩⟩⟩⟩⟩⟩
end
def zm4 (T:Cs):Sp':=zih
def zcS:D->D->D->Prop:=fun d x e=>∃ t ws,d=trD t/\x=plc ws/\e=trD (.node t.lab ws t.kds)
instance:MSpG (fun xd f=>zad (fun d e=>zcS d xd e) f 10):=⟨fun d f=>inferInstance⟩
instance {T:Cs}:MSpX (zbE T):=⟨fun _ _ _ _ _ h g ⟨t,p,k,c,n,e,z1,z2,z3,z4,q,x⟩=>⟨t,p,k,c,n,e,z1,z2,z3,z4,fun a b c=>h _ (q a b c),fun y=>g _ _ (x y)⟩⟩
instance {T:Cs}:MSpX (zay T):=⟨fun _ _ _ _ _ h g ⟨t,p,ws,c,n,e,z1,z2,z3,q,x⟩=>⟨t,p,ws,c,n,e,z1,z2,z3,fun a b=>h _ (q a b),fun y=>g _ _ (x y)⟩⟩
instance {sp:ziU} {t:TA'} [MSpX sp] [MA t]:ME (zc2 sp t):=⟨fun Γ _ _ h q=>MA.mono (t:=t) _ _ _ (fun _ _ z=>MSpX.mono _ _ _ _ _ (fun _ y=>h _ _ y) (fun _ _ y=>y) z) q⟩
open Classical in
def zri {ns:Nd} {q:Pl}:(zbk (ndD ns) (plc q)).isSome=true↔q ∈ keys ns:=by
 constructor
 ·intro h
  obtain ⟨v,hv⟩:=YR.mp h; obtain ⟨y,hy,e⟩:=yh.mp (zgj hv)
  injection e with e1 e2
  rw [<- zdL e1]; exact yx hy
 ·intro h
  rw [zdA h]; rfl
def zs9 {c:Nat} {t:Tr} {Q:D->Prop} (w:Wf c 9 t) (h:Q (.bl false)):zly (trD t) (trD t) Q:=by
 obtain ⟨b,e,hb⟩:=znC w w 100 (by decide)
 rw [hb.mpr rfl] at e; exact ⟨true,e,h⟩
def zru (xs:List Int):(zdk xs (some 6) (some 36)).length<=30:=by
 unfold zdk; rw [YB,Ya]
 have e1:HT.sIx xs.length 0 (some 6)=min 6 xs.length:=by unfold HT.sIx; simp
 have e2:HT.sIx xs.length xs.length (some 36)=min 36 xs.length:=by unfold HT.sIx; simp
 rw [e1,e2]; omega
def zto (xs:List Int):(zdk xs (some 6) (some 48)).length<=42:=by
 unfold zdk; rw [YB,Ya]
 have e1:HT.sIx xs.length 0 (some 6)=min 6 xs.length:=by unfold HT.sIx; simp
 have e2:HT.sIx xs.length xs.length (some 48)=min 48 xs.length:=by unfold HT.sIx; simp
 rw [e1,e2]; omega
section
variable {T:Cs}
def zcM:FnScope ["_law_script","_law_nodes_here","_law_tree_here","_law_cell","_law_place_here","_law_words_here","_law_due"] ["_law_script"] (zm zeg):=sc0
def zqX (d:Df K mg "law" zeg ["_law_script"]) (cf:CF K T) (G_with_words:FnX P w K mg base 4 "with_words" ["tree","place","words"] (zay T)) (G_with_kid:FnX P w K mg base 4 "with_kid" ["tree","place","node"] (zbE T)) (G_law_words:Fn P w K mg base 2 "_law_words" ["_law_cell"] zah) (G_law_nodes:Fn P w K mg base 3 "_law_nodes" ["_law_cells"] zbn) (G_law_tree:Fn P w K mg base 15 "_law_tree" ["_law_nodes_here","_law_place_here"] (zaE 10)) (G_law_place:Fn P w K mg base 2 "_law_place" ["_law_nodes_here","_law_cell"] za1) (G_law_same:Fn P w K mg base 25 "_law_same" ["_law_found","_law_due"] (zar 24)) (D_law_changed:Df K mg "_law_changed" za7 ["_law_node","_law_place_here","_law_form"]) (G_law_changed:∀ (J:L2.Jt) (R:D->D->Prop) (f:Addr),FnV P w K mg base J 1 f R->FnJ P w K mg base J 11 "_law_changed" ["_law_node","_law_place_here","_law_form"] (zad R f 10)) (G_law_refused:Fn P w K mg base 26 "_law_refused" ["_law_tree_here","_law_place_here","_law_words_here"] (zaY T)) (lo:LamOf K mg base "law" "law.<locals>.<lambda>"):Fn P w K mg base 27 "law" ["_law_script"] (zm4 T):=by
 refine d.okL lo zcM (fun ds Q h=>?_) (fun f cdv A outer s H E la hr ds Q h=>⟨_,(zk (zdv 1 zcM.nd (zsS G_law_nodes (hr.mono (by decide)) (zc (zbT s_A (pv' 0) (zcP zl) (zcP zl)) zi)))
  (zk (zI 2 zcM.nd (ze4 (za3 G_law_tree (hr.mono (by decide)) (zc (pv' 1) (zc (zW zi) zi)))))
  (zk (zb3 (zb4 (zbT s_A (pv' 0) (zcP zl) (zcP zl))) (zao 3 zcM.nd)
   (zk (zI 4 zcM.nd (ze4 (za3 G_law_place (hr.mono (by decide)) (zc (pv' 1) (zc (zB zbp (pv' 3) zl) zi)))))
  (zk (zI 5 zcM.nd (za3 G_law_words (hr.mono (by decide)) (zc (pv' 3) zi)))
  (zk (zav (ze0 (zV (zhH (zac hr)) (pv' 4) (pv' 1))) (zk (zav (zdb (zaA (za3 G_law_refused (hr.mono (by decide)) (zc (pv' 2) (zc (pv' 4) (zc (pv' 5) zi)))))) (zr (zF zcq)) zO)
  (zr (zav (ze0 (zV (zoK (zac hr)) (zbT s_A (pv' 4) zei (zcP zbM)) (pv' 1))) (zk (zI 2 zcM.nd (znd G_with_kid (hr.mono (by decide)) (zc (pv' 2) (zc (zbT s_A (pv' 4) zei (zcP zbM)) (zc (zW (zc (zP (i_A (zac hr)) (pv' 4) zbM) (zc (zW zi) (zc (zW zi) zi)))) zi)))))
  (zr (ze1 (zac hr) 1 (pv' 4) (zW zi)))) zO))) zO)
  (zr (zav (ze0 (zV (zoK (zac hr)) (pv' 4) (pv' 1))) (zk (ze1 (zac hr) 1 (pv' 4) (pv' 5))
  (zk (zI 6 zcM.nd (zjJ 5 (kl:=0) (x:="_law_words_here") (R:=zcS) (sp:=fun xd f=>zad (fun d e=>zcS d xd e) f 10) la D_law_changed (fun J xd f V=>G_law_changed J _ f V) (ztb rfl rfl rfl rfl (by decide +kernel))
   (fun f c c' A outer s H E hr ds Q h=>⟨_,(zW (zc (zP (i_A (zac hr)) (pv' 0) zl) (zc (pv' 1) (zc (zP (i_A (zac hr)) (pv' 0) zl) zi)))),?lam1⟩) (fun _ _ _ _ _=>rfl) (hr.mono (by decide)) (pv' 2) (pv' 4) rfl rfl (zmM rfl)))
  (zk (zI 2 zcM.nd (znd G_with_words (hr.mono (by decide)) (zc (pv' 2) (zc (pv' 4) (zc (pv' 5) zi)))))
  (zr (zav (zV (zoI (zdi hr)) (pv' 2) (pv' 6)) (zr (zF zcq)) zO))))) zO))))))
  (zr (zF (ze4 (za3 G_law_same (hr.mono (by decide)) (zc (pv' 2) (zc (za3 G_law_tree (hr.mono (by decide)) (zc (pv' 1) (zc (zW zi) zi))) zi))))))))),?_⟩)
 case lam1 =>
  obtain ⟨d,x,e,rfl,⟨t,ws,rfl,rfl,rfl⟩,hq⟩:=h
  simp [zaq,zS,zaN,zaD,zx,zG,tC',zaX,tB',zds,zY,zC,za5,zee,zbr,zef,zbs,zbw,zJ,zT,zeL,zcI,zcJ,zbd,zcC,zlh,zc2,zM,zN,zak,zc3,zc4,ix0,ix2]; rw [zag] at hq; exact hq
 ·obtain ⟨ns,rfl,_⟩:=h
  rfl
 obtain ⟨cs,rfl,hl,hq⟩:=h; simp [zaq,zS,zaN,zaD,zx,zG,tC',zaX,tB',zds,zY,zC,za5,zee,zbr,zef,zbs,zbw,zJ,zT,zeL,zcI,zcJ,zbd,zcC,zlh,zc2,zM,zN,zak,zc3,zc4,zbn]
 refine ⟨zdk cs (some 6) (some 36),by rw [zdB],by have:=zru cs; omega,fun ns o hlen=>?_⟩
 have hlen31:ns.length<=31:=by have:=zru cs; omega
 refine ⟨ns,[],rfl,o.ok,o.ok.nil,by decide,znv _,?_⟩
 refine zgf (fun i Γ=>∃ (ns:Nd) (s3 s4 s5 s6:Slot),Γ=[.val (.lst (cs.map .int)),.own (.dit (ndD ns)),.val (trD (zE 9 ns [])),s3,s4,s5,s6]/\NW ns/\ns.length<=31+i) ⟨ns,_,_,_,_,rfl,o,hlen31⟩ ?_ ?_
 ·rintro i d Γ hd ⟨ns,s3,s4,s5,s6,rfl,o,hm⟩
  rw [zdB,yK] at hd
  cases hc:(zdk cs (some 6) (some 48))[i]? with
  | none=>rw [hc] at hd; cases hd
  | some c =>
  rw [hc] at hd; cases hd
  have hi42:i<42:=by have:=zto cs; have:=(yE.mp hc).1; omega
  simp [zaq,zS,zaN,zaD,zx,zG,tC',zaX,tB',zds,zY,zC,za5,zee,zbr,zef,zbs,zbw,zJ,zT,zeL,zcI,zcJ,zbd,zcC,zlh,zc2,zM,zN,zak,zc3,zc4,za1,zah]
  have isf:=fun (ns:Nd) (q:Pl)=>zri (ns:=ns) (q:=q)
  have ndl:∀ ns:Nd,(ndD ns).length=ns.length:=fun ns=>by unfold ndD; rw [yG]
  have none_of:∀ {q:Pl},q ∉ keys ns->zu (zE 9 ns []) q=none:=fun {q} hk=>by
   cases e:zu (zE 9 ns []) q with
   | none=>rfl
   | some x=>exact yP ((zl9 o.ok).mp (by rw [e]; rfl)) hk
  refine ⟨by simp [zmU],ns,rfl,o.ok,fun p hp h8=>⟨Imm.plc p,fun ws hw4=>zbL _ _ ?_⟩⟩
  have wp:∀ (ns:Nd),NW ns->ns.length<=31+(i+1)->p ∈ keys ns->∀ f:Addr,zad (fun d e=>zcS d (plc ws) e) f 10 [trD (zE 9 ns []),plc p,D.adr f] fun r=>zay T [trD (zE 9 ns []),plc p,plc ws] (fun r_1=>zly r_1.toD r.toD fun d=>(d=D.bl false/\∃ ns_2,(zmK (ndD ns) (plc p) (plc ws)=ndD ns_2/\r_1.toD=trD (zE 9 ns_2 []))/\NW ns_2/\List.length ns_2<=31+(i+1))\/d=D.bl true/\Q (Res.val (D.bl false))) fun x x_1=>False:=by
   intro ns o hm hk f; have hnd:=zfC o.ok hk
   have on:=zhB o hw4 (by omega) h8 (o.ok.up p hk) hp.2
   have gt:=zic o hw4 on hnd
   have w9:Wf 120 9 (zE 9 ns []):=zbD o 9 [] o.ok.nil (by simp)
   have w2:Wf 120 9 (zE 9 (putN ns p ws) []):=zbD on 9 [] on.ok.nil (by simp)
   have hlen:(putN ns p ws).length=ns.length:=by unfold putN; rw [yI hk,yG]
   refine ⟨_,p,_,ws,_,120,rfl,w9.up (yD _) (by decide),by decide,hnd,⟨_,ws,rfl,rfl,rfl⟩,by have:=hp.1; omega,?_⟩
   refine ⟨_,p,ws,120,9,rfl,w9,by decide,hp,fun nd' hn'=>?_,fun z=>by rw [hnd] at z; cases z⟩
   rw [hnd] at hn'; cases hn'
   show zly (trD _) (trD _) _
   rw [gt]
   exact zs9 w2 (.inl ⟨rfl,_,⟨zfm _ _ _,rfl⟩,on,by omega⟩)
  have w9:Wf 120 9 (zE 9 ns []):=zbD o 9 [] o.ok.nil (by simp)
  by_cases hk:p ∈ keys ns
  ·rw [(isf ns p).mpr hk]
   refine .inl ⟨rfl,zdu _ _ ?_⟩; rw [(isf ns p).mpr hk]
   exact .inr ⟨rfl,⟨_,za2 p⟩,zaC (by rw [ndl]; omega),Imm.plc ws,wp ns o (by omega) hk⟩
  ·rw [Yc.mpr fun z=>hk ((isf ns p).mp z)]
   refine .inr ⟨rfl,_,p,ws,120,9,rfl,w9,by decide,hp,none_of hk,.inr ⟨rfl,zdu _ _ ?_⟩⟩
   rw [zd9]
   by_cases hu:p.dropLast ∈ keys ns
   ·rw [(isf ns _).mpr hu]
    have h0:p≠[]:=fun z=>hk (by rw [z]; exact o.ok.nil)
    refine .inr ⟨rfl,_,zft h0,?_⟩
    have e:D.tup [D.str (zaf p),plc [],plc []]=trD (.node (zaf p) [] []):=by rw [zag]; rfl
    rw [e]
    have hpl:0<p.length:=List.length_pos_iff.mpr h0
    have hdl:p.dropLast.length=p.length-1:=List.length_dropLast
    have ep:p.dropLast ++ [zaf p]=p:=(zjl (p:=p.dropLast) (by omega) rfl).symm
    have hmem:zaf p ∈ p.dropLast ++ [zaf p]:=by simp
    rw [ep] at hmem
    have hll:zv (zaf p)=true:=hp.2 _ hmem
    have hnd:=zfC o.ok hu
    have hkn:zo (zaf p) (zE (9-p.dropLast.length) ns p.dropLast).kds=none:=by
     cases e:zo (zaf p) (zE (9-p.dropLast.length) ns p.dropLast).kds with
     | none=>rfl
     | some x =>
      refine yP (zbg.mpr ?_) hk; rw [<- zc0 o.ok,<- ep,zi6,hnd]
      show (wd (zE (9-p.dropLast.length) ns p.dropLast) [zaf p]).isSome=true
      rw [zbY,e]; rfl
    have on:=zhB (q:=p) (ws:=[]) o (by simp) (by omega) h8 hu hp.2
    have lt:=zj1 (p:=p.dropLast) (l:=zaf p) o (by omega) hll (by rw [ep]; exact hk) (by rw [ep]; exact on) hnd hkn
    rw [ep] at lt; have hlp:=zoP ns p []
    refine ⟨_,p.dropLast,_,120,9,rfl,w9,by decide,⟨by have:=hp.1; omega,fun l hl=>hp.2 l (List.dropLast_subset _ hl)⟩,hll,fun nd' hn' hk'=>?_,fun z=>?_⟩
    ·rw [hnd] at hn'
     cases hn'
     refine ⟨⟨_,za2 p⟩,zaC (by rw [ndl]; omega),zdu _ _ ?_⟩
     rw [zfm,(isf _ p).mpr (zjV.mpr (.inr rfl))]
     refine .inr ⟨rfl,⟨_,za2 p⟩,zaC (by rw [ndl]; omega),Imm.plc ws,fun f=>?_⟩
     have:=wp (putN ns p []) on (by omega) (zjV.mpr (.inr rfl)) f
     rw [<- lt] at this; exact this
    ·have:=z _ hnd
     rw [show (Tr.node (zaf p) [] []).lab=zaf p from rfl,hkn] at this
     cases this
   ·rw [Yc.mpr fun z=>hu ((isf ns _).mp z)]
    refine .inl ⟨rfl,zdu _ _ ?_⟩
    rw [Yc.mpr fun z=>hk ((isf ns p).mp z)]
    exact .inl ⟨rfl,ns,⟨rfl,rfl⟩,o,by omega⟩
 ·rintro Γ ⟨ns,s3,s4,s5,s6,rfl,o,hm⟩
  simp [zaq,zS,zaN,zaD,zx,zG,tC',zaX,tB',zds,zY,zC,za5,zee,zbr,zef,zbs,zbw,zJ,zT,zeL,zcI,zcJ,zbd,zcC,zlh,zc2,zM,zN,zak,zc3,zc4]
  have w9:Wf 120 9 (zE 9 ns []):=zbD o 9 [] o.ok.nil (by simp)
  exact ⟨ns,[],rfl,o.ok,o.ok.nil,by decide,_,rfl,((M84.wf_dp w9).pln).up (by decide),.bl true,hq⟩
end
end K05
namespace PL
open PySem L2
def ar1 {A B C D E F:Sort _} {p:A->B->C->D->E->F->List Value->Prop} (h:∀ a b c d e f x0,p a b c d e f [x0]):∀ a b c d e f us,us.length=1->p a b c d e f us:=fun a b c d e f us hl=>match us,hl with | [x0],_=>h a b c d e f x0
def ar2 {A B C D E F:Sort _} {p:A->B->C->D->E->F->List Value->Prop} (h:∀ a b c d e f x0 x1,p a b c d e f [x0,x1]):∀ a b c d e f us,us.length=2->p a b c d e f us:=fun a b c d e f us hl=>match us,hl with | [x0,x1],_=>h a b c d e f x0 x1
def ar3 {A B C D E F:Sort _} {p:A->B->C->D->E->F->List Value->Prop} (h:∀ a b c d e f x0 x1 x2,p a b c d e f [x0,x1,x2]):∀ a b c d e f us,us.length=3->p a b c d e f us:=fun a b c d e f us hl=>match us,hl with | [x0,x1,x2],_=>h a b c d e f x0 x1 x2
def Dn (K:W.Frag) (x:Str) (st:Stmt):Prop:=∃ f fd,Fun K x x st f fd/\W.nsIn K mainGlobals x=some (some (.ref f))
section
variable {x:Str} {st:Stmt}
def Dn.mk {f:Addr} {oc:Value} {od an:Option Addr} {osl:Array (Option Value)} {kV doc pm cdv ct:Value} (a:W.nsIn K mainGlobals x=some (some (.ref f))) (l:K.lookup f=some ⟨oc,od,.func (W.fnOf x x (zbx st) (zaw st) (zm st) .none kV doc pm an cdv ct),osl⟩) (c:W.codeIn K cdv x=true) (k:W.keepIn K (.ref f)=true):Dn K x st:=⟨f,_,zhU l c k,a⟩
def Dn.df {h:Heap} {mg:Str->Option Value} (D:Dn K x st) (X:K.In h) (G:h.Ns mainGlobals mg) (ps:List Str) (hb:∀ (kV doc pm:Value) (an:Option Addr) (cdv ct:Value) (us:List Value),us.length=ps.length->bindArgs (W.fnOf x x (zbx st) (zaw st) (zm st) .none kV doc pm an cdv ct) ⟨us,[]⟩=pure (ps.zip us)):Df K mg x st ps:=by
 obtain ⟨f,fd,F,a⟩:=D; exact ⟨f,fd,F,F.binds hb,W.mg_of X G a⟩
end
end PL
namespace K05
open PySem L2 Lb PL MT M04 MS M70 M71 M72 M74 M76 M25 M06
section
def zil:FnScope ["self","place"] ["self","place"] (zm zam):=sc0
def zgc {f C M N:Addr} {bm:List Value} {fd:FuncData} (F:Fun K "__init__" "NoPlace.__init__" zam f fd) (B:BIn K M) (hm:mg "MendError"=some (.ref M)) (cl:XCl K C N bm) (xs:X1.XSet K C) (na:zcu K C "place"):FnOk P w K mg base CX0 1 f fd ["self","place"] (zrK C "place" zbf):=by
 refine F.ok zil (fun vs H Q E h=>?_) (fun cdv A outer s H vs Q E hr h=>?_)
 ·obtain ⟨a,v,rfl,_⟩:=h
  rfl
 ·obtain ⟨a,v,rfl,ha,hv,k⟩:=h
  refine ⟨_,zhD (zjB (zlZ (X:=(zdj CX0 P w K mg base _ _ _ f cdv A outer s H E).nox) B rfl hm (zcz (pv 0) (zcz (zlT 1300 (by decide) (pv 1)) zhF rfl) rfl)) rfl) (zjz (zoh (pv 0) (pv 1) rfl)),?_⟩
  exact ⟨_,rfl,_,rfl,rep_tup hr hv,fun z=>⟨a,C,N,bm,z,rfl,ha,cl,_,rfl,_,rfl,a,C,rfl,ha,xs,na,fun dx hdx=>k dx hdx⟩⟩
end
def tab_mem {T:List (Addr × Str)} {b:Addr} {q:Str} (h:T.lookup b=some q):b ∈ T.map (·.1):=by
 induction T with
 | nil=>cases h
 | cons x r ih =>
  obtain ⟨a,s⟩:=x
  by_cases e:b=a
  ·subst e; simp
  ·have e':(b == a)=false:=beq_eq_false_iff_ne.mpr e
   rw [yi,e'] at h; exact yO _ (ih h)
def all_mk {l:W.OpenLaw} {w:World} {K:W.Frag} {h:Heap} {mg:Str->Option Value} {fa f17 f20  :Addr} (X:K.In h) (G:h.Ns mainGlobals mg) (hfa:mg "law"=some (.ref fa))
  {C_MendError C_NoPlace C_NoText C_NoFit C_NoName C_Twice C_NoDay C_NoAct C_NoRow N_MendError N_NoPlace j_NoPlace:Addr}
  {nm_MendError qn_MendError:Str} {bs_MendError bm_MendError sb_MendError:List Value} {hd_MendError ab_MendError:Bool} {sn_MendError:List Str} {co_MendError:Option Bool} {dd_MendError:Option Addr} {ka_MendError kb_MendError kc_MendError kd_MendError ke_MendError:Option Value} {ni_MendError:String} {cn_MendError:Value} {dn_MendError:Option Addr} {es_MendError:Array DictEntry} {ep_MendError:Nat} {sk_MendError:Array (Option Value)}
  {nm_NoPlace qn_NoPlace:Str} {bs_NoPlace bm_NoPlace sb_NoPlace:List Value} {hd_NoPlace ab_NoPlace:Bool} {sn_NoPlace:List Str} {co_NoPlace:Option Bool} {dd_NoPlace:Option Addr} {ka_NoPlace kb_NoPlace kc_NoPlace kd_NoPlace ke_NoPlace:Option Value} {ni_NoPlace:String} {cn_NoPlace:Value} {dn_NoPlace:Option Addr} {es_NoPlace:Array DictEntry} {ep_NoPlace:Nat} {sk_NoPlace:Array (Option Value)}
  {jd_NoPlace jn_NoPlace:Option Addr} {js_NoPlace:Array (Option Value)} {jk_NoPlace jo_NoPlace jm_NoPlace je_NoPlace jt_NoPlace:Value}
  {od17 an17 od20 an20:Option Addr} {sl17 sl20:Array (Option Value)} {oc17 kV17 dc17 pm17 ct17 oc20 kV20 dc20 pm20 ct20:Value}
  {x1:Str} {t1:Tok}
  {cc17 PT17 cc20 PT20:Addr}
  (D1:Dn K "figures_of" zb2)
  (D2:Dn K "kid_with" zc9)
  (D3:Dn K "_law_label" zcy)
  (D4:Dn K "_law_word" zc7)
  (D5:Dn K "_law_key" zdI)
  (D6:Dn K "label_rank" zb1)
  (D7:Dn K "node_at" zdH)
  (D8:Dn K "_law_words" zbJ)
  (D9:Dn K "_law_place" zcw)
  (D10:Dn K "label_before" zbt)
  (D11:Dn K "node_or_refusal" zaR)
  (D12:Dn K "with_node" zbI)
  (D13:Dn K "_law_nodes" zcx)
  (D14:Dn K "with_words" zb0)
  (D15:Dn K "with_kid" zcg)
  (D16:Dn K "_law_changed" za7)
  (a17:W.nsIn K mainGlobals "_law_tree"=some (some (.ref f17)))
  (l17:K.lookup f17=some ⟨oc17,od17,.func (W.fnOf "_law_tree" "_law_tree" (zbx zaz) (zaw zaz) (zm zaz) .none kV17 dc17 pm17 an17 (.ref cc17) ct17),sl17⟩)
  (c17:W.codeIn K (.ref cc17) "_law_tree"=true)
  (k17:W.keepIn K (.ref f17)=true)
  (D18:Dn K "_law_same" zc8)
  (D19:Dn K "_law_refused" zbK)
  (a20:W.nsIn K mainGlobals "law"=some (some (.ref f20)))
  (l20:K.lookup f20=some ⟨oc20,od20,.func (W.fnOf "law" "law" (zbx zeg) (zaw zeg) (zm zeg) .none kV20 dc20 pm20 an20 (.ref cc20) ct20),sl20⟩)
  (c20:W.codeIn K (.ref cc20) "law"=true)
  (k20:W.keepIn K (.ref f20)=true)
  (z1:W.nsIn K mainGlobals "ValueError"=some none)
  (z2:W.nsIn K mainGlobals "int"=some none)
  (z3:W.nsIn K mainGlobals "isinstance"=some none)
  (z4:W.nsIn K mainGlobals "len"=some none)
  (z5:W.nsIn K mainGlobals "list"=some none)
  (z6:W.nsIn K mainGlobals "range"=some none)
  (z7:W.nsIn K mainGlobals "sorted"=some none)
  (z8:W.nsIn K mainGlobals "str"=some none)
  (z9:W.nsIn K mainGlobals "tuple"=some none)
  (z10:W.nsIn K mainGlobals "zip"=some none)
  (g1:W.nsIn K mainGlobals "SMALL_LETTERS"=some (some (.str x1 t1)))
  (e1:x1=st zpB)
  (aC_MendError:W.nsIn K mainGlobals "MendError"=some (some (.ref C_MendError)))
  (hdC_MendError:W.hasDictIn K C_MendError=true)
  (ty_MendError:W.typeIn K (.ref C_MendError)=some (.type "type"))
  (aC_NoPlace:W.nsIn K mainGlobals "NoPlace"=some (some (.ref C_NoPlace)))
  (hdC_NoPlace:W.hasDictIn K C_NoPlace=true)
  (ty_NoPlace:W.typeIn K (.ref C_NoPlace)=some (.type "type"))
  (aC_NoText:W.nsIn K mainGlobals "NoText"=some (some (.ref C_NoText)))
  (hdC_NoText:W.hasDictIn K C_NoText=true)
  (ty_NoText:W.typeIn K (.ref C_NoText)=some (.type "type"))
  (aC_NoFit:W.nsIn K mainGlobals "NoFit"=some (some (.ref C_NoFit)))
  (hdC_NoFit:W.hasDictIn K C_NoFit=true)
  (ty_NoFit:W.typeIn K (.ref C_NoFit)=some (.type "type"))
  (aC_NoName:W.nsIn K mainGlobals "NoName"=some (some (.ref C_NoName)))
  (hdC_NoName:W.hasDictIn K C_NoName=true)
  (ty_NoName:W.typeIn K (.ref C_NoName)=some (.type "type"))
  (aC_Twice:W.nsIn K mainGlobals "Twice"=some (some (.ref C_Twice)))
  (hdC_Twice:W.hasDictIn K C_Twice=true)
  (ty_Twice:W.typeIn K (.ref C_Twice)=some (.type "type"))
  (aC_NoDay:W.nsIn K mainGlobals "NoDay"=some (some (.ref C_NoDay)))
  (hdC_NoDay:W.hasDictIn K C_NoDay=true)
  (ty_NoDay:W.typeIn K (.ref C_NoDay)=some (.type "type"))
  (aC_NoAct:W.nsIn K mainGlobals "NoAct"=some (some (.ref C_NoAct)))
  (hdC_NoAct:W.hasDictIn K C_NoAct=true)
  (ty_NoAct:W.typeIn K (.ref C_NoAct)=some (.type "type"))
  (aC_NoRow:W.nsIn K mainGlobals "NoRow"=some (some (.ref C_NoRow)))
  (hdC_NoRow:W.hasDictIn K C_NoRow=true)
  (ty_NoRow:W.typeIn K (.ref C_NoRow)=some (.type "type"))
  (bC_MendError:K.lookup C_MendError=some (excClassObj nm_MendError qn_MendError C_MendError N_MendError bs_MendError bm_MendError hd_MendError sn_MendError sb_MendError ab_MendError co_MendError dd_MendError ka_MendError kb_MendError kc_MendError kd_MendError ke_MendError ni_MendError))
  (lN_MendError:K.lookup N_MendError=some ⟨cn_MendError,dn_MendError,.dict es_MendError ep_MendError,sk_MendError⟩)
  (sB_MendError:skB es_MendError=true)
  (kC_MendError:W.keepIn K (.ref C_MendError)=true)
  (bC_NoPlace:K.lookup C_NoPlace=some (excClassObj nm_NoPlace qn_NoPlace C_NoPlace N_NoPlace bs_NoPlace bm_NoPlace hd_NoPlace sn_NoPlace sb_NoPlace ab_NoPlace co_NoPlace dd_NoPlace ka_NoPlace kb_NoPlace kc_NoPlace kd_NoPlace ke_NoPlace ni_NoPlace))
  (lN_NoPlace:K.lookup N_NoPlace=some ⟨cn_NoPlace,dn_NoPlace,.dict es_NoPlace ep_NoPlace,sk_NoPlace⟩)
  (sB_NoPlace:skB es_NoPlace=true)
  (kC_NoPlace:W.keepIn K (.ref C_NoPlace)=true)
  (iB:W.nsIn K N_MendError "__init__"=some none)
  (B1:W.specialIn K (.ref C_MendError) "__getattribute__"=some (some (.builtin "type.__getattribute__")))
  (B2:W.readsIn K C_MendError (.type "type")=true)
  (B3:W.findCls K (.ref C_MendError) (.type "type") "__init__"=some (.val (.builtin "ValueError.__init__")))
  (hn:W.specialIn K (.builtin "object.__class__") "__get__"=some (some (.builtin "getset_descriptor.__get__")))
  (htk:W.takesIn K (.builtin "object.__class__")=some true)
  (eb_NoPlace:bm_NoPlace=.ref C_MendError :: vbm)
  (en_NoPlace:ni_NoPlace="ValueError.__new__")
  (iI_NoPlace:W.nsIn K N_NoPlace "__init__"=some (some (.ref j_NoPlace)))
  (lI_NoPlace:K.lookup j_NoPlace=some ⟨.type "function",jd_NoPlace,.func (W.fnOf "__init__" "NoPlace.__init__" (zbx zam) (zaw zam) (zm zam) .none jk_NoPlace jo_NoPlace jm_NoPlace jn_NoPlace je_NoPlace jt_NoPlace),js_NoPlace⟩)
  (cI_NoPlace:W.codeIn K je_NoPlace "NoPlace.__init__"=true)
  (kI_NoPlace:W.keepIn K (.ref j_NoPlace)=true)
  (sa_NoPlace:W.findIn K (.ref C_NoPlace) "__setattr__"=some (some (.builtin "object.__setattr__")))
  (na_NoPlace:W.findIn K (.ref C_NoPlace) "place"=some none)
  (ga_NoPlace:W.findIn K (.ref C_NoPlace) "__getattribute__"=some (some (.builtin "BaseException.__getattribute__")))
  (gr_NoPlace:W.findIn K (.ref C_NoPlace) "__getattr__"=some none)
  (mb_NoPlace:W.mroIn K C_NoPlace (.type "BaseException")=some true)
  (ha_NoPlace:W.findIn K (.ref C_NoPlace) "__class__"=some (some (.builtin "object.__class__")))
  (hm_NoPlace:W.mroIn K C_NoPlace (.type "object")=some true)
  (xm_NoPlace:hd_NoPlace=true)
  (mM:W.mroIn K C_NoPlace (.ref C_MendError)=some true)
  (mbM:W.mroIn K C_MendError (.type "BaseException")=some true)
  (mV:W.mroIn K C_NoPlace (.type "ValueError")=some true)
  (q_NoText:W.mroIn K C_NoPlace (.ref C_NoText)=some false)
  (r_NoText:(Value.ref C_NoPlace == Value.ref C_NoText)=false)
  (q_NoFit:W.mroIn K C_NoPlace (.ref C_NoFit)=some false)
  (r_NoFit:(Value.ref C_NoPlace == Value.ref C_NoFit)=false)
  (q_NoName:W.mroIn K C_NoPlace (.ref C_NoName)=some false)
  (r_NoName:(Value.ref C_NoPlace == Value.ref C_NoName)=false)
  (q_Twice:W.mroIn K C_NoPlace (.ref C_Twice)=some false)
  (r_Twice:(Value.ref C_NoPlace == Value.ref C_Twice)=false)
  (q_NoDay:W.mroIn K C_NoPlace (.ref C_NoDay)=some false)
  (r_NoDay:(Value.ref C_NoPlace == Value.ref C_NoDay)=false)
  (q_NoAct:W.mroIn K C_NoPlace (.ref C_NoAct)=some false)
  (r_NoAct:(Value.ref C_NoPlace == Value.ref C_NoAct)=false)
  (q_NoRow:W.mroIn K C_NoPlace (.ref C_NoRow)=some false)
  (r_NoRow:(Value.ref C_NoPlace == Value.ref C_NoRow)=false)
  (hL17:W.codeHdIn K cc17 PT17=true)
  (nL17:K.lookup PT17=none)
  (tL17:([(PT17,"_law_tree.<locals>.<lambda>"),(PT20,"law.<locals>.<lambda>")]:List (Addr × Str)).lookup PT17=some "_law_tree.<locals>.<lambda>")
  (hL20:W.codeHdIn K cc20 PT20=true)
  (nL20:K.lookup PT20=none)
  (tL20:([(PT17,"_law_tree.<locals>.<lambda>"),(PT20,"law.<locals>.<lambda>")]:List (Addr × Str)).lookup PT20=some "law.<locals>.<lambda>")
  :
  (∀ b q,([(PT17,"_law_tree.<locals>.<lambda>"),(PT20,"law.<locals>.<lambda>")]:List (Addr × Str)).lookup b=some q->(∃ c,W.codeHdIn K c b=true)/\K.lookup b=none) /\
  ∃ fd:FuncData,(∀ (s:Shared) (v:Value),BindsTo s fd ⟨[v],[]⟩ [("_law_script",v)])/\∀ base:Heap,K.In base->base.Ns mainGlobals mg->(∀ b q,([(PT17,"_law_tree.<locals>.<lambda>"),(PT20,"law.<locals>.<lambda>")]:List (Addr × Str)).lookup b=some q->base.objs[b]?=some (zdr q))->FnOk l.prog w K mg base CX0 27 fa fd ["_law_script"] (zhv K zih):=by
 subst e1
 have d1:=D1.df X G ["label"] <| ar1 fun _ _ _ _ _ _ _=>rfl
 have d2:=D2.df X G ["node","label"] <| ar2 fun _ _ _ _ _ _ _ _=>rfl
 have d3:=D3.df X G ["_law_cell"] <| ar1 fun _ _ _ _ _ _ _=>rfl
 have d4:=D4.df X G ["_law_cell"] <| ar1 fun _ _ _ _ _ _ _=>rfl
 have d5:=D5.df X G ["_law_label_here"] <| ar1 fun _ _ _ _ _ _ _=>rfl
 have d6:=D6.df X G ["label"] <| ar1 fun _ _ _ _ _ _ _=>rfl
 have d7:=D7.df X G ["tree","place"] <| ar2 fun _ _ _ _ _ _ _ _=>rfl
 have d8:=D8.df X G ["_law_cell"] <| ar1 fun _ _ _ _ _ _ _=>rfl
 have d9:=D9.df X G ["_law_nodes_here","_law_cell"] <| ar2 fun _ _ _ _ _ _ _ _=>rfl
 have d10:=D10.df X G ["one","other"] <| ar2 fun _ _ _ _ _ _ _ _=>rfl
 have d11:=D11.df X G ["tree","place"] <| ar2 fun _ _ _ _ _ _ _ _=>rfl
 have d12:=D12.df X G ["tree","place","node"] <| ar3 fun _ _ _ _ _ _ _ _ _=>rfl
 have d13:=D13.df X G ["_law_cells"] <| ar1 fun _ _ _ _ _ _ _=>rfl
 have d14:=D14.df X G ["tree","place","words"] <| ar3 fun _ _ _ _ _ _ _ _ _=>rfl
 have d15:=D15.df X G ["tree","place","node"] <| ar3 fun _ _ _ _ _ _ _ _ _=>rfl
 have d16:=D16.df X G ["_law_node","_law_place_here","_law_form"] <| ar3 fun _ _ _ _ _ _ _ _ _=>rfl
 have F17:=zhU (st:=zaz) l17 c17 k17; have m17:=W.mg_of X G a17
 have b17:=F17.binds (ps:=["_law_nodes_here","_law_place_here"]) <| ar2 fun _ _ _ _ _ _ _ _=>rfl
 have d17:Df K mg "_law_tree" zaz ["_law_nodes_here","_law_place_here"]:=⟨f17,_,F17,b17,m17⟩
 have d18:=D18.df X G ["_law_found","_law_due"] <| ar2 fun _ _ _ _ _ _ _ _=>rfl
 have d19:=D19.df X G ["_law_tree_here","_law_place_here","_law_words_here"] <| ar3 fun _ _ _ _ _ _ _ _ _=>rfl
 have F20:=zhU (st:=zeg) l20 c20 k20; have m20:=W.mg_of X G a20
 have b20:=F20.binds (ps:=["_law_script"]) <| ar1 fun _ _ _ _ _ _ _=>rfl
 have d20:Df K mg "law" zeg ["_law_script"]:=⟨f20,_,F20,b20,m20⟩
 have z_ValueError:=W.mg_none_of X G z1; have z_int:=W.mg_none_of X G z2; have z_isinstance:=W.mg_none_of X G z3; have z_len:=W.mg_none_of X G z4; have z_list:=W.mg_none_of X G z5; have z_range:=W.mg_none_of X G z6; have z_sorted:=W.mg_none_of X G z7; have z_str:=W.mg_none_of X G z8; have z_tuple:=W.mg_none_of X G z9; have z_zip:=W.mg_none_of X G z10; have g_SMALL_LETTERS:=W.mg_of X G g1
 subst eb_NoPlace en_NoPlace xm_NoPlace
 have m_MendError:=W.mg_of X G aC_MendError; have m_NoPlace:=W.mg_of X G aC_NoPlace; have m_NoText:=W.mg_of X G aC_NoText; have m_NoFit:=W.mg_of X G aC_NoFit; have m_NoName:=W.mg_of X G aC_NoName; have m_Twice:=W.mg_of X G aC_Twice; have m_NoDay:=W.mg_of X G aC_NoDay; have m_NoAct:=W.mg_of X G aC_NoAct; have m_NoRow:=W.mg_of X G aC_NoRow
 have B:BIn K C_MendError:=⟨B1,B2,B3⟩
 have xcl_NoPlace:=zpI bC_NoPlace bC_MendError lN_MendError sB_MendError iB kC_NoPlace; have xin_NoPlace:=zpG lN_NoPlace sB_NoPlace iI_NoPlace lI_NoPlace
 have xget_NoPlace:X1.XGet K C_NoPlace:=⟨ga_NoPlace,gr_NoPlace,mb_NoPlace⟩
 have xis_NoPlace:X1.XIs K C_NoPlace:=⟨xget_NoPlace,zh6 hdC_NoPlace,ha_NoPlace,hn,htk,hm_NoPlace⟩
 have xfl_NoPlace:XFl K C_NoPlace:=⟨xget_NoPlace,hdC_NoPlace⟩
 have xset_NoPlace:X1.XSet K C_NoPlace:=⟨sa_NoPlace,zpH bC_NoPlace,hm_NoPlace⟩
 have FI_NoPlace:=zhU (st:=zam) lI_NoPlace cI_NoPlace kI_NoPlace
 have bI_NoPlace:=FI_NoPlace.binds (ps:=["self","place"]) <| ar2 fun _ _ _ _ _ _ _ _=>rfl
 have cf:CF K ⟨C_MendError,C_NoPlace,C_NoText,C_NoFit,C_NoName,C_Twice,C_NoDay,C_NoAct,C_NoRow⟩:=⟨xis_NoPlace,zrn hdC_MendError ty_MendError mbM mM,zmi,zq8 rfl mV,zcD hdC_NoText ty_NoText q_NoText (.inr r_NoText),zcD hdC_NoFit ty_NoFit q_NoFit (.inr r_NoFit),zcD hdC_NoName ty_NoName q_NoName (.inr r_NoName),zcD hdC_Twice ty_Twice q_Twice (.inr r_Twice),zcD hdC_NoDay ty_NoDay q_NoDay (.inr r_NoDay),zcD hdC_NoAct ty_NoAct q_NoAct (.inr r_NoAct),zcD hdC_NoRow ty_NoRow q_NoRow (.inr r_NoRow),xfl_NoPlace,na_NoPlace⟩
 have e:=hfa.symm.trans m20; cases e
 refine ⟨fun b q e=>?_,?_⟩
 ·have:=tab_mem e
  simp only [yX,List.map_nil,yQ,YA,or_false] at this
  rcases this with rfl | rfl
  ·exact ⟨⟨_,hL17⟩,nL17⟩
  ·exact ⟨⟨_,hL20⟩,nL20⟩
 refine ⟨W.fnOf "law" "law" (zbx zeg) (zaw zeg) (zm zeg) .none kV20 dc20 pm20 an20 (.ref cc20) ct20,fun s v=>.of_eq rfl,fun base _ _ hmk=>?_⟩
 have X_NoPlace:XcI l.prog w K mg base 1 "NoPlace" C_NoPlace "place" zbf:=⟨N_NoPlace,j_NoPlace,_,_,["self","place"],xcl_NoPlace,xin_NoPlace,zgc FI_NoPlace B m_MendError xcl_NoPlace xset_NoPlace na_NoPlace,bI_NoPlace,m_NoPlace⟩
 have lo_law_tree:LamOf K mg base "_law_tree" "_law_tree.<locals>.<lambda>":=⟨⟨cc17,PT17,fun f fd oc od sl m lk=>by
  rw [m17] at m; cases m; rw [l17] at lk; cases lk
  rfl,hL17,hmk _ _ tL17⟩,by decide +kernel⟩
 have lo_law:LamOf K mg base "law" "law.<locals>.<lambda>":=⟨⟨cc20,PT20,fun f fd oc od sl m lk=>by
  rw [m20] at m; cases m; rw [l20] at lk; cases lk
  rfl,hL20,hmk _ _ tL20⟩,by decide +kernel⟩
 have G_figures_of:Fn l.prog w K mg base 1 "figures_of" ["label"] za6:=ze8 d1 g_SMALL_LETTERS
 have G_kid_with:Fn l.prog w K mg base 1 "kid_with" ["node","label"] zat:=zgY d2 
 have G_law_label:Fn l.prog w K mg base 1 "_law_label" ["_law_cell"] zai:=zf3 d3 z_str
 have G_law_word:Fn l.prog w K mg base 1 "_law_word" ["_law_cell"] zaP:=zgV d4 z_range
 have G_law_key:Fn l.prog w K mg base 1 "_law_key" ["_law_label_here"] zce:=ziy d5 z_int z_len
 have G_label_rank:Fn l.prog w K mg base 2 "label_rank" ["label"] zbF:=ze7 d6 G_figures_of z_int z_len
 have G_node_at:Fn l.prog w K mg base 2 "node_at" ["tree","place"] zaI:=zix d7 G_kid_with
 have G_law_words:Fn l.prog w K mg base 2 "_law_words" ["_law_cell"] zah:=zf0 d8 G_law_word z_range z_tuple
 have G_law_place:Fn l.prog w K mg base 2 "_law_place" ["_law_nodes_here","_law_cell"] za1:=zf1 d9 G_law_label z_len z_list
 have G_label_before:Fn l.prog w K mg base 3 "label_before" ["one","other"] zas:=zdO d10 G_label_rank
 have G_node_or_refusal:FnX l.prog w K mg base 3 "node_or_refusal" ["tree","place"] (zan ⟨C_MendError,C_NoPlace,C_NoText,C_NoFit,C_NoName,C_Twice,C_NoDay,C_NoAct,C_NoRow⟩):=zcQ d11 cf G_node_at m_NoPlace X_NoPlace
 have G_with_node:Fn l.prog w K mg base 3 "with_node" ["tree","place","node"] zaH:=zfZ d12 G_node_at z_len z_range z_tuple
 have G_law_nodes:Fn l.prog w K mg base 3 "_law_nodes" ["_law_cells"] zbn:=zf2 d13 G_law_label G_law_words z_len
 have G_with_words:FnX l.prog w K mg base 4 "with_words" ["tree","place","words"] (zay ⟨C_MendError,C_NoPlace,C_NoText,C_NoFit,C_NoName,C_Twice,C_NoDay,C_NoAct,C_NoRow⟩):=ze5 d14 cf G_node_or_refusal G_with_node
 have G_with_kid:FnX l.prog w K mg base 4 "with_kid" ["tree","place","node"] (zbE ⟨C_MendError,C_NoPlace,C_NoText,C_NoFit,C_NoName,C_Twice,C_NoDay,C_NoAct,C_NoRow⟩):=zgU d15 cf G_label_before G_kid_with G_node_or_refusal G_with_node z_len z_tuple m_NoPlace X_NoPlace
 have G_law_changed:=fun (J:L2.Jt) (R:D->D->Prop) (f:Addr) (V:FnV l.prog w K mg base J 1 f R)=>zek V d16 z_tuple 10
 have G_law_tree:Fn l.prog w K mg base 15 "_law_tree" ["_law_nodes_here","_law_place_here"] (zaE 10):=zgW d17 G_law_key z_len z_sorted z_tuple lo_law_tree 10
 have G_law_same:Fn l.prog w K mg base 25 "_law_same" ["_law_found","_law_due"] (zar 24):=zgX d18 z_isinstance z_len z_list z_str z_tuple z_zip 24
 have G_law_refused:Fn l.prog w K mg base 26 "_law_refused" ["_law_tree_here","_law_place_here","_law_words_here"] (zaY ⟨C_MendError,C_NoPlace,C_NoText,C_NoFit,C_NoName,C_Twice,C_NoDay,C_NoAct,C_NoRow⟩):=zej d19 cf G_with_words G_law_same z_ValueError z_isinstance m_MendError m_NoAct m_NoDay m_NoFit m_NoName m_NoPlace m_NoRow m_NoText m_Twice
 have G_law:Fn l.prog w K mg base 27 "law" ["_law_script"] (zm4 ⟨C_MendError,C_NoPlace,C_NoText,C_NoFit,C_NoName,C_Twice,C_NoDay,C_NoAct,C_NoRow⟩):=zqX (T:=⟨C_MendError,C_NoPlace,C_NoText,C_NoFit,C_NoName,C_Twice,C_NoDay,C_NoAct,C_NoRow⟩) d20 cf G_with_words G_with_kid G_law_words G_law_nodes G_law_tree G_law_place G_law_same d16 G_law_changed G_law_refused lo_law
 exact zq5 m20 l20 base G_law
end K05
namespace PySem.W.Fast
def tw12464374781677558658:=yy
def tw7886729099726611322:=yy
def tw2996494719807255753:=yy
def tw6498525523629427785:=yy
def tw8351231128285137098:=yy
def tw9736815497953952933:=yy
def tw1939804892225713457:=yy
def tw3046611848689666244:=yy
def tw8832783624031685189:=yy
def tw12624015989446660321:=yy
def tw14982677771151396194:=yy
def tw17601413032337777946:=yy
def tw11954969845463911662:=yy
def tw9135094890902351924:=yy
def tw12165528393106667623:=yy
def tw15621561174119427544:=yy
def tw13840503590687236697:=yy
def tw6236777425799932976:=yy
def tw2458513646275524310:=yy
def tw10499990947673470740:=yy
def tw2178439161710428002:=yy
def tw6369262129916358648:=yy
def tw1455993990177797788:=yy
def tw14180860223163553723:=yy
def tw2596687051309647508:=yy
def tw17684147825261318804:=yy
def tw7806726184061973132:=yy
def tw6142042571490003617:=yy
def tw8292695195573595202:=yy
def tw18009625758446849290:=yy
def tw1111587719140061281:=yy
def tw8748798121743295356:=yy
def tw14754039767647019796:=yy
def tw5635093603393063081:=yy
def tw17937910591987572335:=yy
def tw12200864486021817844:=yy
def tw6375913931883859465:=yy
def tw2982968751978544139:=yy
def tw14594218241147917934:=yy
def tw18072149547053679716:=yy
def tw17133551177404007062:=yy
def tw2054456504911687059:=yy
def tw12944788348495885037:=yy
def tw6915106850130969180:=yy
def tw15654454841766221716:=yy
def tw16608118986718026515:=yy
def tw16656679863602990953:=yy
def tw13242663680765530240:=yy
def tw3618134250700888890:=yy
def tw610928520092194304:=yy
def tw4909921372844435860:=yy
def tw3234819979762052777:=yy
def tw7063398254418752736:=yy
def tw16435490645390046811:=yy
def tw14819542891058044521:=yy
def tw1905216860734744385:=yy
def tw789014014512615375:=yy
def tw16371903240080192245:=yy
def tw6371184339409533940:=yy
def tw10923072482288809587:=yy
def tw4061690156251175915:=yy
def tw5421889407364532725:=yy
def tw9273885160607820221:=yy
def tw4997648737819140517:=yy
def tw636268907833146805:=yy
def tw12869526814507514538:=yy
def tw18044494905628296140:=yy
def tw16785484777432973954:=yy
def tw15011177194913480479:=yy
def tw10108270731425149194:=yy
def tw331359748253637578:=yy
def tw5452893607151979299:=yy
def tw7051242502550385152:=yy
def tw4718581861196126918:=yy
def tw784885492897611977:=yy
def tw11150222425642551784:=yy
def tw11906806806648674761:=yy
def tw7385979549334572885:=yy
def tw7233608825182820763:=yy
def tw15419622564767736959:=yy
def tw4450993876433359740:=yy
def tw12929959153915258438:=yy
def tw11495019644281039055:=yy
def tw11316958574588213830:=yy
def tw8431509232352005746:=yy
def tw9051756039486265018:=yy
def tw5180237853146910939:=yy
def tw796387227119959235:=yy
def tw13528542379294266620:=yy
def tw14832101770830035438:=yy
def tw6886466727815728890:=yy
def tw13922453281397251469:=yy
def tw13323981516874640414:=yy
def tw7488604957540876028:=yy
def tw2178957508596787775:=yy
def tw4892184434371862928:=yy
def tw2832295267086714225:=yy
def tw7916546764931067342:=yy
def tw972011807999700024:=yy
def tw7726934326588786933:=yy
def tw17143272260718736171:=yy
def tw11254482966366932339:=yy
def tw17902950016224459794:=yy
def tw2975389177208761168:=yy
def tw13482685437606226599:=yy
def tw11637665825152133125:=yy
def tw4444275910824170884:=yy
def tw2653842423967323903:=yy
def tw5400917351593570121:=yy
def tw9083282988802689152:=yy
def tw8046326153848385577:=yy
def tw17264900940857243902:=yy
def tw16865354859181086353:=yy
def tw12936530926627131944:=yy
def tw7330205139044635324:=yy
def tw927534833706417987:=yy
def tw7073233215084493351:=yy
def tw17296554701480540225:=yy
def tw16523807619474086162:=yy
def tw1152364368601957238:=yy
def tw5030845645453286456:=yy
def tw14367858234286427757:=yy
def tw10928749012846556462:=yy
def tw12535049515009034173:=yy
def tw10585080963724626621:=yy
def tw10626390590818009172:=yy
def tw4792176480153693487:=yy
def tw2089724397665486519:=yy
def tw3931321456551643512:=yy
def tw4001387160865359011:=yy
def tw9174059631245405696:=yy
def tw9495114282182434653:=yy
def tw18270223606641978899:=yy
def tw9633906361544501801:=yy
def tw8923954654882016555:=yy
def tw17768954938580701027:=yy
def tw3293088391074857438:=yy
def tw6246600106760491289:=yy
def tw16137512169553956985:=yy
def tw13568718923150364011:=yy
def tw5399051455394501357:=yy
def tw1674552848943462720:=yy
def tw13274447121425846937:=yy
def tw9146824185615151994:=yy
def tw17781431803027473589:=yy
def tw2614375738797125931:=yy
def tw8939567717806705205:=yy
def tw13619061594933394621:=yy
def tw6670601170956237431:=yy
def tw1635822457253647616:=yy
def tw12207432697109246678:=yy
def tw269590684383916602:=yy
def tw6586636577742782140:=yy
def tw14386843841927434083:=yy
def tw4546601882142613548:=yy
def tw10043279291804600028:=yy
def tw10715641224475982102:=yy
def tw8755515200694491443:=yy
def tw16814357697860778237:=yy
def tw8248331934365485203:=yy
def tw2926336149525778379:=yy
def tw5952459450383109055:=yy
def tw4995532533121790250:=yy
def tw6541483296400599524:=yy
def tw15345808797967805017:=yy
def tw11660018590253725468:=yy
def tw4410637589801902112:=yy
def tw9271491963312434917:=yy
def tw15534622445109988999:=yy
def tw203734719888300185:=yy
def tw16750238385293962174:=yy
def tw13713175012027728192:=yy
def tw7161430006419010111:=yy
def tw7108551711884811084:=yy
def tw2600130556213941495:=yy
def tw3470666462853589461:=yy
def tw14557953128315844261:=yy
def tw13240405607141510933:=yy
def tw3899505980183776400:=yy
def tw16394042676777124329:=yy
def tw5764913891805454876:=yy
def tw10381638584640826617:=yy
def tw10107944743814075108:=yy
def tw13563490878218486454:=yy
def tw2243285830949039261:=yy
def tw15633840738350844743:=yy
def tw10000996093423334388:=yy
def tw6571855724250511595:=yy
def tw8913751903223730146:=yy
def tw8030875129168032917:=yy
def tw3470431273901567839:=yy
def tw18245754011051281338:=yy
def tw3636110090719367010:=yy
def tw12988081750593504960:=yy
def tw7206977315695555737:=yy
def tw12948516709706826906:=yy
def tw13835753878871536486:=yy
end PySem.W.Fast
open PySem PySem.W PyProof.Rows
set_option maxRecDepth 100000 in
set_option maxHeartbeats 0 in
theorem PySem.Challenge.cw_codemend_k05_words_at_a_place_holds : PySem.Challenge.rw_codemend_k05_words_at_a_place.Holds := by
 w_on; o_law; k_head; (case hw=>w_witness2)
 k_fill
 refine PL.walk_lawT (l:=PySem.Challenge.rw_codemend_k05_words_at_a_place) (k:=27) (x:="_law_script") [(238,"_law_tree.<locals>.<lambda>"),(271,"law.<locals>.<lambda>")] rfl rfl ⟨rfl,by decide,by decide,rfl⟩ (fun w h Y=>PySem.W.km_in_of Y) (fun w h Y b q e=>PySem.W.km_tabs_of Y b (K05.tab_mem e)) ?F
 case F =>
  intro w mg fa h KX G hmg
  refine' K05.all_mk KX G hmg ?q0 ?q1 ?q2 ?q3 ?q4 ?q5 ?q6 ?q7 ?q8 ?q9 ?qa ?qb ?qc ?qd ?qe ?qf ?qg ?qh ?qi ?qj ?qk ?ql ?qm ?qn ?qo ?qp ?qq ?qr ?qs ?qt ?qu ?qv ?qw ?qx ?qy ?qz ?q10 ?q11 ?q12 ?q13 ?q14 ?q15 ?q16 ?q17 ?q18 ?q19 ?q1a ?q1b ?q1c ?q1d ?q1e ?q1f ?q1g ?q1h ?q1i ?q1j ?q1k ?q1l ?q1m ?q1n ?q1o ?q1p ?q1q ?q1r ?q1s ?q1t ?q1u ?q1v ?q1w ?q1x ?q1y ?q1z ?q20 ?q21 ?q22 ?q23 ?q24 ?q25 ?q26 ?q27 ?q28 ?q29 ?q2a ?q2b ?q2c ?q2d ?q2e ?q2f ?q2g ?q2h ?q2i ?q2j ?q2k ?q2l ?q2m ?q2n ?q2o ?q2p ?q2q ?q2r ?q2s ?q2t ?q2u ?q2v ?q2w ?q2x ?q2y ?q2z ?q30 ?q31 ?q32 ?q33 ?q34 ?q35 ?q36 ?q37
  (case q0|q1|q2|q3|q4|q5|q6|q7|q8|q9|qa|qb|qc|qd|qe|qf=>apply PL.Dn.mk<;>k_is)
  (case qg|qh|qi|qj=>k_is)
  (case qk|ql=>apply PL.Dn.mk<;>k_is)
  (case qm|qn|qo|qp|qq|qr|qs|qt|qu|qv|qw|qx|qy|qz|q10=>k_is)
  (case q11=>decide +kernel)
  (case q12|q13|q14|q15|q16|q17|q18|q19|q1a|q1b|q1c|q1d|q1e|q1f|q1g|q1h|q1i|q1j|q1k|q1l|q1m|q1n|q1o|q1p|q1q|q1r|q1s|q1t|q1u=>k_is)
  (case q1v=>rfl)
  (case q1w|q1x|q1y=>k_is)
  (case q1z=>rfl)
  (case q20|q21|q22|q23|q24|q25|q26=>k_is)
  (case q27|q28=>rfl)
  (case q29|q2a|q2b|q2c|q2d|q2e|q2f|q2g|q2h|q2i|q2j=>k_is)
  (case q2k=>rfl)
  (case q2l|q2m|q2n|q2o=>k_is)
  (case q2p=>rfl)
  (case q2q=>k_is)
  (case q2r=>rfl)
  (case q2s=>k_is)
  (case q2t=>rfl)
  (case q2u=>k_is)
  (case q2v=>rfl)
  (case q2w=>k_is)
  (case q2x=>rfl)
  (case q2y=>k_is)
  (case q2z=>rfl)
  (case q30=>k_is)
  (case q31=>rfl)
  (case q32|q33=>kernel_rfl)
  (case q34=>exact rfl)
  (case q35|q36=>kernel_rfl)
  (case q37=>exact rfl)

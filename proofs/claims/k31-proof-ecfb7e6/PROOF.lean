import PyProof.Rows.All
import Wide.All
import OpenK.AllK
import Wide.FinOn
import Lean
import PyProof.EqAt
import PyProof.EqKinds
import PyProof.TupleCall
import PyProof.StationsW
import PyProof.ExcClass2
import PyProof.ExcInit
import PyProof.ExcBaseAll.ValueError
import PyProof.ExcArgsOwn
import OpenK.KMake
import KE.KIsAll
import PyProof.InstStoreFacts
import PyProof.FString2
import KE.KTryMore
import PyProof.NsDelKeeps
import PyProof.Rows.StrSplitJoin
import PyProof.StrLawsTight
import PyProof.ListMulRoad
import PyProof.ZipIter
import PyProof.TupleIter
import PyProof.WalksMore
import KE.KRevIter
import PyProof.ReprHeadsTuple
import PyProof.StrLawsRepr
import PySem.Challenge.RW_codemend_k31_acts_put
set_option compiler.extract_closed false
set_option linter.all false
abbrev yyL:=List (PySem.Addr × PySem.Obj)
abbrev yyD (x:PySem.Str):Prop:=(x == ("__debug__":PySem.Str))=false
def yy:=trivial
noncomputable section
section
open PySem PySem.Spec PySem.Calls PyProof.Rows
def yA:=@wpAny_bind
def yB:=@List.getElem?_eq_getElem
def yC:=@Heap.get?_push_of_some
def yD:=@List.getElem?_eq_some_iff
def yE:=@List.length_map
def yF:=@List.getElem?_map
def yG:=@wpAny_pure
def yH:=@Heap.lt_size
def yI:=@Heap.get?_push_size
def yJ:=@Nat.le_refl
def yK:=@Option.map_eq_some_iff
def yL:=@PyProof.Rows.boot_isinstance
def yM:=@Nat.lt_of_lt_of_le
def yN:=@Bool.false_ne_true
def yO:=@List.mem_cons
def yP:=@Nat.ne_of_lt
def yQ:=@List.size_toArray
def yR:=@List.getElem?_set_ne
def yS:=@if_neg
def yT:=@List.length_take
def yU:=@absurd
def yV:=@List.getElem?_append_left
def yW:=@if_pos
def yX:=@Heap.get?_update_other
def yY:=@decide_eq_false
def yZ:=@List.mem_of_getElem?
def ya:=@List.not_mem_nil
def yb:=@List.mem_append_right
def yc:=@List.mem_cons_of_mem
def yd:=@List.mem_map
def ye:=@List.length_range
def yf:=@wpAny_field
def yg:=@congrArg
def yh:=@List.append_nil
def yi:=@wpAny_newObj_type
def yj:=@Nat.le_trans
def yk:=@List.mem_singleton
def ym:=@wpAny_mono
def yn:=@PySem.boot_len
def yo:=@List.getElem?_append_right
def yp:=@Int.eq_ofNat_of_zero_le
def yq:=@Array.getElem?_eq_some_iff
def yr:=@Or.inr
def yt:=@List.mem_cons_self
def yu:=@List.length_append
def yw:=@List.map_cons
def yx:=@List.take_length
def yz:=@List.getElem?_set_self
def YA:=@Or.inl
def YB:=@Heap.get?_update_self
def YC:=@decide_eq_true
def YD:=@wpAny_call_entry
def YE:=@Nat.zero_le
def YF:=@List.mem_of_mem_take
def YG:=@List.lookup_cons
def YH:=@List.map_map
def YI:=@Int.toNat_natCast
def YJ:=@Heap.size_push
def YK:=@List.getElem?_range
def YL:=@List.mem_append
def YM:=@List.drop_eq_getElem_cons
def YN:=@Array.getElem?_eq_getElem
def YO:=@wpAny_Call_Name_kw
def YQ:=@Bool.and_eq_true
def YR:=@Nat.lt_irrefl
def YS:=@List.getElem?_of_mem
def YT:=@wpAny_loadPart_at
def YU:=@List.replicate_succ
def YV:=@List.drop_eq_nil_of_le
def YW:=@wpAny_setField
def YX:=@wpAny_seqItems
def YY:=@Bool.false_eq_true
def YZ:=@PySem.F.slot_tuple_iterator_next
def Ya:=@wpAny_holding
def Yb:=@PyProof.Rows.slot_tuple_getitem
def Yc:=@Array.length_toList
def Yd:=@PySem.F.plainAttrs_list
def Ye:=@List.getElem?_replicate
def Yf:=@List.all_eq_true
def Yg:=@wpAny_typeNameOfWhole_keyiter
def Yh:=@wpAny_setField_rec
def Yi:=@Heap.size_after_update
def Yj:=@wpAny_execs_nil
def Yk:=@List.length_replicate
def Yl:=@PyProof.Rows.callWith_type1
def Ym:=@List.flatten_cons
end
set_option Elab.async false
set_option maxRecDepth 100000
namespace L2
open PySem PySem.Spec PyProof.Rows
abbrev Key:=Sum Int Str
def zh9:Key->Value->Bool
 | .inl k,v=>Value.isInt k v
 | .inr x,v=>Value.isStrOf x v
def zsw (w:World):Key->Int
 | .inl k=>hashInt k
 | .inr x=>hashStr w x
theorem za8:∀ {k:Key} {v:Value},zh9 k v=true->(∃ i t,k=Sum.inl i/\v=Value.int i t)\/(∃ x t,k=Sum.inr x/\v=Value.str x t)
 | .inl i,v,h=>by
  obtain ⟨t,e⟩:=Value.isInt_shape (k:=i) (v:=v) h; exact .inl ⟨i,t,rfl,e⟩
 | .inr x,v,h=>by
  obtain ⟨t,e⟩:=Value.isStrOf_shape (x:=x) (v:=v) h; exact .inr ⟨x,t,rfl,e⟩
def zjj (i:Int) (t:Tok):zh9 (.inl i) (.int i t)=true:=by simp [zh9,Value.isInt]
def zji (x:Str) (t:Tok):zh9 (.inr x) (.str x t)=true:=by simp [zh9,Value.isStrOf]
def zph (a b:Int):decide ((Sum.inl a:Key)=Sum.inl b)=(a == b):=by
 by_cases e:a=b
 ·subst e; simp
 ·have h:¬ (Sum.inl a:Key)=Sum.inl b:=fun q=>e (Sum.inl.inj q)
  rw [yY h]; exact (beq_eq_false_iff_ne.mpr e).symm
def zpe (a b:Str):decide ((Sum.inr a:Key)=Sum.inr b)=decide (a=b):=by
 by_cases e:a=b
 ·subst e; simp
 ·have h:¬ (Sum.inr a:Key)=Sum.inr b:=fun q=>e (Sum.inr.inj q)
  rw [yY h,yY e]
def zpg (a:Int) (b:Str):decide ((Sum.inl a:Key)=Sum.inr b)=false:=yY (fun q=>nomatch q)
def zpf (a:Str) (b:Int):decide ((Sum.inr a:Key)=Sum.inl b)=false:=yY (fun q=>nomatch q)
def zcf (prog:Program) (w:World):PySem.KeyKind prog w Key where
 is:=zh9
 hash:=zsw w
 inj:=fun v a b ha hb=>by
  rcases za8 ha with ⟨i,t,rfl,rfl⟩ | ⟨x,t,rfl,rfl⟩
  ·rcases za8 hb with ⟨j,u,rfl,e⟩ | ⟨y,u,rfl,e⟩
   ·injection e with e1 _; rw [e1]
   ·exact nomatch e
  ·rcases za8 hb with ⟨j,u,rfl,e⟩ | ⟨y,u,rfl,e⟩
   ·exact nomatch e
   ·injection e with e1 _; rw [e1]
 byValue:=fun k v h=>by
  rcases za8 h with ⟨i,t,rfl,rfl⟩ | ⟨x,t,rfl,rfl⟩ <;> rfl
 pyHash:=fun hv h=>by
  rcases za8 hv with ⟨i,t,rfl,rfl⟩ | ⟨x,t,rfl,rfl⟩
  ·exact wpAny_pyHash_int h
  ·exact wpAny_pyHash_str h
 eqBool:=fun hu hv h=>by
  rcases za8 hu with ⟨i,t,rfl,rfl⟩ | ⟨x,t,rfl,rfl⟩
  ·rcases za8 hv with ⟨j,u,rfl,rfl⟩ | ⟨y,u,rfl,rfl⟩
   ·rw [zph] at h; exact wpAny_eqBool_int h
   ·rw [zpg] at h; exact SeqAt.EqAt.int_str i t y u _ _ _ _ h
  ·rcases za8 hv with ⟨j,u,rfl,rfl⟩ | ⟨y,u,rfl,rfl⟩
   ·rw [zpf] at h; exact SeqAt.EqAt.str_int x t j u _ _ _ _ h
   ·rw [zpe] at h; exact wpAny_eqBool_str h
 «strs»:=fun k x t v h=>by
  rcases za8 h with ⟨i,u,rfl,e⟩ | ⟨y,u,rfl,e⟩
  ·exact nomatch e
  ·injection e with e1 _
   subst e1
   cases v <;> rfl
def zgN (prog:Program) (w:World) (i:Int) (t:Tok):(zcf prog w).is (.inl i) (.int i t)=true:=zjj i t
def zgM (prog:Program) (w:World) (x:Str) (t:Tok):(zcf prog w).is (.inr x) (.str x t)=true:=zji x t
inductive V where
 | non | bl (b:Bool) | int (i:Int) | str (x:Str) | byt (b:Array UInt8) | flt (b:UInt64) | ref (a:Addr) | ty (n:String)
 deriving DecidableEq
def zbI:V->Value->Prop
 | .non,u=>u=Value.none
 | .bl b,u=>u=Value.bool b
 | .int i,u=>∃ t,u=Value.int i t
 | .str x,u=>∃ t,u=Value.str x t
 | .byt b,u=>∃ t,u=Value.bytes b t
 | .flt b,u=>∃ t,u=Value.float b t
 | .ref a,u=>u=Value.ref a
 | .ty n,u=>u=Value.type n
abbrev za4:List V->List Value->Prop:=Paired zbI
def za4.length {xs:List V} {us:List Value} (r:za4 xs us):xs.length=us.length:=Paired.length r
theorem za4.get:∀ {xs:List V} {us:List Value} {i:Nat} {x:V},za4 xs us->xs[i]?=some x->∃ u,us[i]?=some u/\zbI x u
 | _,_,_,_,.nil,e=>by simp at e
 | _,_,0,_,.cons r _,e=>by simp at e; subst e; exact ⟨_,rfl,r⟩
 | _,_,i+1,x,.cons _ t,e=>by
  obtain ⟨u,h1,h2⟩:=za4.get (i:=i) (x:=x) t (by simpa using e)
  exact ⟨u,by simpa using h1,h2⟩
theorem za4.append:∀ {xs ys:List V} {us ws:List Value},za4 xs us->za4 ys ws->za4 (xs ++ ys) (us ++ ws)
 | _,_,_,_,.nil,s=>s
 | _,_,_,_,.cons r t,s=>.cons r (za4.append t s)
theorem za4.take:∀ {xs:List V} {us:List Value} (n:Nat),za4 xs us->za4 (xs.take n) (us.take n)
 | _,_,0,_=>.nil
 | _,_,_+1,.nil=>.nil
 | _,_,n+1,.cons r t=>.cons r (za4.take n t)
theorem za4.drop:∀ {xs:List V} {us:List Value} (n:Nat),za4 xs us->za4 (xs.drop n) (us.drop n)
 | _,_,0,r=>r
 | _,_,_+1,.nil=>.nil
 | _,_,n+1,.cons _ t=>za4.drop n t
def zgV:Option V->Option Value->Prop
 | some v,some u=>zbI v u
 | none,none=>True
 | _,_=>False
def KV {κ:Type}:List (κ × V)->List (κ × Value)->Prop:=Paired fun (p:κ × V) (q:κ × Value)=>p.1=q.1/\zbI p.2 q.2
def kV:Key->V
 | .inl i=>.int i
 | .inr x=>.str x
inductive HO where
 | lst (xs:List V)
 | tup (xs:List V)
 | dK (kvs:List (Key × V)) | dT (kvs:List (List Key × V))
 | dE (kvs:List (List Key × V)) (ep:Nat)
 | set (S:Int->Bool) (n:Nat)
 | ins (C dx:Addr) (fs:List (Str × V))
 | own (x:Addr)
 | xd (fs:List (Str × V))
 | met (f x:Addr)
 | rng (lo hi:Int)
 | frz (o:Obj) (u:HO)
 | tbl (ps:Array Value)
 | ext (φ:Heap->Prop)
abbrev zrw:HO:=.ext fun _=>True
def zlk:List V ⊕ Obj->HO
 | .inl xs=>.tup xs
 | .inr o=>.frz o zrw
abbrev Hp:=Addr->Option HO
def upd (H:Hp) (a:Addr) (o:HO):Hp:=fun b=>if b=a then some o else H b
def zo {H:Hp} {a:Addr} {o:HO}:upd H a o a=some o:=by unfold upd; rw [yW rfl]
def zp {H:Hp} {a b:Addr} {o:HO} (h:b≠a):upd H a o b=H b:=by unfold upd; rw [yS h]
def zdC {H:Hp} {a:Addr} {o u:HO}:upd (upd H a o) a u=upd H a u:=by
 funext b; unfold upd; split <;> rfl
def znk {H:Hp} {a b:Addr} {o u:HO} (h:H a=some o) (h':H b=some u) (d:o≠u):a≠b:=by
 intro e; subst e; rw [h] at h'; exact d (Option.some.inj h')
def zag {H:Hp} {a b:Addr} {o:HO} (h:H a=some o) (h':H b=none):a≠b:=by
 intro e; subst e; rw [h] at h'; cases h'
section
variable (P:Program) (w:World)
def zbr (H:Hp) (h:Heap) (a:Addr):HO->Prop
 | .lst xs=>xs.length<=sizeLine/\∃ (its:List Value) (n:Nat),za4 xs its/\h.get? a=some { cls:=.type "list",data:=.seq its.toArray n }
 | .tup xs=>xs.length<=sizeLine/\∃ its:List Value,za4 xs its/\IsTup h a its.toArray
 | .dK kvs=>kvs.length<=sizeLine/\(a == sysModules)=false/\∃ vs,KV kvs vs/\h.DictOf (zcf P w) a vs
 | .dT kvs=>kvs.length<=sizeLine/\(a == sysModules)=false/\∃ xs:List (List Key × Addr × Value),
   Paired (fun (p:List Key × V) (q:List Key × Addr × Value)=>p.1=q.1/\H q.2.1=some (.tup (p.1.map kV))/\zbI p.2 q.2.2) kvs xs /\
   ∃ o es ep,h.get? a=some o/\o.ExactDict/\o.data=.dict es ep/\es.toList=xs.map (entryOfKey (tupleKind (zcf P w)))/\(xs.map (·.1)).Nodup
 | .dE kvs ep=>kvs.length<=sizeLine/\(a == sysModules)=false/\∃ xs:List (List Key × Addr × Value),
   Paired (fun (p:List Key × V) (q:List Key × Addr × Value)=>p.1=q.1/\H q.2.1=some (.tup (p.1.map kV))/\zbI p.2 q.2.2) kvs xs /\
   ∃ o es,h.get? a=some o/\o.ExactDict/\o.data=.dict es ep/\es.toList=xs.map (entryOfKey (tupleKind (zcf P w)))/\(xs.map (·.1)).Nodup
 | .set S n=>h.SetOf (intKind P w) a S n
 | .ins C dx fs=>H dx=some (.own a)/\fs.length<=1000/\dx≠a/\h.get? a=some (W.instObj C dx) /\
   ∃ mA,h.Ns1 dx mA/\(∀ f,zgV (fs.lookup f) (mA f))/\PySem.Within mA (fs.map (·.1))
 | .own _=>∃ o,h.get? a=some o
 | .xd fs=>∃ mA,h.Ns1 a mA/\∀ f,zgV (fs.lookup f) (mA f)
 | .rng lo hi=>∃ t u v,h.get? a=some { cls:=.type "range",data:=.fields #[.int lo t,.int hi u,.int 1 v] }
 | .frz o u=>h.get? a=some o/\zbr H h a u
 | .tbl ps=>∃ ts:Array Value,h.get? a=some { cls:=.none,data:=.fields ts }/\TriplesOk ts.toList/\∀ pos cv,codeAmong pos ts.toList=some cv->∃ c oc vs t q t0,cv=.ref c/\H c=some (zlk (.inr oc))/\oc.data=.fields vs/\vs[1]?=some (.str q t)/\ps[0]?=some (.str q t0)
 | .met f x=>h.get? a=some (W.methodObj (.ref f) (.ref x))
 | .ext φ=>φ h/\(∃ o,h.get? a=some o)/\∀ h1 h2:Heap,φ h1->(∀ o,h1.get? a=some o->h2.get? a=some o)->φ h2
def HOk (H:Hp) (h:Heap):Prop:=∀ a o,H a=some o->zbr P w H h a o
end
section
variable {P:Program} {w:World} {H H':Hp} {h h':Heap} {a:Addr} {o:HO}
def zbr.lt (x:zbr P w H h a o):a<h.objs.size:=by
 cases o with
 | lst xs=>obtain ⟨_,_,_,_,e⟩:=x; exact yH e
 | tup xs=>obtain ⟨_,_,_,p⟩:=x; exact p.lt
 | dK kvs=>obtain ⟨_,_,_,_,o,_,_,e,_⟩:=x; exact yH e
 | dT kvs=>obtain ⟨_,_,_,_,o,_,_,e,_⟩:=x; exact yH e
 | dE kvs ep=>obtain ⟨_,_,_,_,o,_,e,_⟩:=x; exact yH e
 | set S n=>obtain ⟨o,_,_,_,e,_⟩:=x; exact yH e
 | ins C dx fs=>obtain ⟨_,_,_,e,_⟩:=x; exact yH e
 | own y=>obtain ⟨_,e⟩:=x; exact yH e
 | xd fs=>obtain ⟨_,⟨_,_,_,e,_⟩,_⟩:=x; exact yH e
 | rng lo hi=>obtain ⟨_,_,_,e⟩:=x; exact yH e
 | frz ob u=>obtain ⟨e,_⟩:=x; exact yH e
 | tbl ps=>obtain ⟨_,e,_⟩:=x; exact yH e
 | met f y=>exact yH (show h.get? a=some _ from x)
 | ext φ=>obtain ⟨_,⟨_,e⟩,_⟩:=x; exact yH e
theorem Paired.mapP {α β:Type} {F G:α->β->Prop}:∀ {l₁:List α} {l₂:List β},Paired F l₁ l₂->(∀ a b,F a b->G a b)->Paired G l₁ l₂
 | _,_,.nil,_=>.nil
 | _,_,.cons r t,f=>.cons (f _ _ r) (Paired.mapP t f)
def zbr.stay (x:zbr P w H h a o) (k:∀ b u,(b=a\/H b=some (.own a))->h.get? b=some u->h'.get? b=some u)
  (ho:∀ b,H b=some (.own a)->H' b=some (.own a)) (ht:∀ b xs,H b=some (zlk xs)->H' b=some (zlk xs)):zbr P w H' h' a o:=by
 induction o with
 | lst xs=>obtain ⟨z,its,n,r,e⟩:=x; exact ⟨z,its,n,r,k _ _ (.inl rfl) e⟩
 | tup xs=>obtain ⟨z,its,r,ob,e,c⟩:=x; exact ⟨z,its,r,ob,k _ _ (.inl rfl) e,c⟩
 | dK kvs=>obtain ⟨z,y,vs,r,ob,es,ep,e,c⟩:=x; exact ⟨z,y,vs,r,ob,es,ep,k _ _ (.inl rfl) e,c⟩
 | dT kvs =>
  obtain ⟨z,y,xs,r,ob,es,ep,e,c⟩:=x
  exact ⟨z,y,xs,Paired.mapP r fun p q z=>⟨z.1,ht _ (.inl _) z.2.1,z.2.2⟩,ob,es,ep,k _ _ (.inl rfl) e,c⟩
 | dE kvs ep =>
  obtain ⟨z,y,xs,r,ob,es,e,c⟩:=x
  exact ⟨z,y,xs,Paired.mapP r fun p q z=>⟨z.1,ht _ (.inl _) z.2.1,z.2.2⟩,ob,es,k _ _ (.inl rfl) e,c⟩
 | set S n=>obtain ⟨ob,es,ep,t,e,c⟩:=x; exact ⟨ob,es,ep,t,k _ _ (.inl rfl) e,c⟩
 | ins C dx fs =>
  obtain ⟨d,z,ne,e,mA,⟨od,es,ep,e2,c⟩,r⟩:=x
  exact ⟨ho _ d,z,ne,k _ _ (.inl rfl) e,mA,⟨od,es,ep,k _ _ (.inr d) e2,c⟩,r⟩
 | own y=>obtain ⟨ob,e⟩:=x; exact ⟨ob,k _ _ (.inl rfl) e⟩
 | xd fs=>obtain ⟨mA,⟨od,es,ep,e,c⟩,r⟩:=x; exact ⟨mA,⟨od,es,ep,k _ _ (.inl rfl) e,c⟩,r⟩
 | rng lo hi=>obtain ⟨t,u,v,e⟩:=x; exact ⟨t,u,v,k _ _ (.inl rfl) e⟩
 | frz ob u ih=>obtain ⟨e,q⟩:=x; exact ⟨k _ _ (.inl rfl) e,ih q⟩
 | tbl ps=>obtain ⟨ts,e,t,c⟩:=x; exact ⟨ts,k _ _ (.inl rfl) e,t,fun pos cv z=>let ⟨c,oc,vs,t,q,t0,z1,z2,z3⟩:=c pos cv z; ⟨c,oc,vs,t,q,t0,z1,ht _ _ z2,z3⟩⟩
 | met f y =>
  have e:h.get? a=some (W.methodObj (.ref f) (.ref y)):=x
  show h'.get? a=some (W.methodObj (.ref f) (.ref y))
  exact k a _ (.inl rfl) e
 | ext φ=>obtain ⟨p,⟨o,e⟩,st⟩:=x; exact ⟨st _ _ p fun o q=>k _ _ (.inl rfl) q,⟨o,k _ _ (.inl rfl) e⟩,st⟩
def HOk.lt (x:HOk P w H h) (e:H a=some o):a<h.objs.size:=(x a o e).lt
def HOk.fresh (x:HOk P w H h) (e:h.objs.size<=a):H a=none:=by
 cases q:H a with
 | none=>rfl
 | some u=>exact yU (yM (x.lt q) e) (YR _)
def HOk.kept (x:HOk P w H h) (k:∀ b u,h.get? b=some u->h'.get? b=some u):HOk P w H h':=fun a o e =>
 (x a o e).stay (fun b u _ q=>k b u q) (fun _ q=>q) fun _ _ q=>q
def HOk.laid (x:HOk P w H h) (k:∀ b u,h.get? b=some u->h'.get? b=some u) (hp:h.objs.size<=a) (new:zbr P w (upd H a o) h' a o):HOk P w (upd H a o) h':=fun b u e=>by
 have hn:=x.fresh hp
 by_cases hb:b=a
 ·subst hb; rw [zo] at e; cases e; exact new
 ·rw [zp hb] at e
  exact (x b u e).stay (fun c v _ q=>k c v q) (fun c q=>by rw [zp (zag q hn)]; exact q) fun c xs q=>by rw [zp (zag q hn)]; exact q
end
def Rd (H:Hp) (a:Addr) (u:HO):Prop:=H a=some u\/∃ o,H a=some (.frz o u)
def Rd.ok {P:Program} {w:World} {H:Hp} {h:Heap} {a:Addr} {u:HO} (r:Rd H a u) (x:HOk P w H h):zbr P w H h a u:=by
 rcases r with r | ⟨o,r⟩
 ·exact x a u r
 ·obtain ⟨_,q⟩:=x a _ r
  exact q
def Mut:Option HO->Prop
 | some (.lst _)=>True
 | some (.dK _)=>True
 | some (.dT _)=>True
 | some (.dE _ _)=>True
 | some (.set _ _)=>True
 | some (.ins _ _ _)=>True
 | some (.ext _)=>True
 | _=>False
section
variable {P:Program} {w:World} {H:Hp} {h h':Heap} {x e:Addr} {o':HO}
def HOk.write (ok:HOk P w H h) (mu:Mut (H x)) (he:e=x\/H e=some (.own x)) (k:∀ b u,b≠e->h.get? b=some u->h'.get? b=some u) (heo:∃ u,h'.get? e=some u)
  (new:zbr P w (upd H x o') h' x o'):HOk P w (upd H x o') h':=fun b u q=>by
 have nown:∀ c y,H c=some (.own y)->c≠x:=fun c y r z=>by subst z; rw [r] at mu; exact mu
 have ntup:∀ c xs,H c=some (zlk xs)->c≠x:=fun c xs r z=>by subst z; rw [r] at mu; cases xs <;> exact mu
 by_cases hb:b=x
 ·subst hb; rw [zo] at q; cases q; exact new
 ·rw [zp hb] at q
  by_cases hbe:b=e
  ·have q':H b=some (.own x):=by
    rcases he with z | z
    ·exact yU (hbe.trans z) hb
    ·rw [hbe]; exact z
   rw [q] at q'; cases q'
   obtain ⟨v,hv⟩:=heo
   exact ⟨v,by rw [hbe]; exact hv⟩
  ·refine (ok b u q).stay (fun c v hc r=>k c v ?_ r) (fun c r=>by rw [zp (nown c b r)]; exact r) fun c xs r=>by rw [zp (ntup c xs r)]; exact r
   rcases hc with rfl | hc
   ·exact hbe
   ·rintro rfl
    rcases he with z | z
    ·exact nown c b hc z
    ·rw [hc] at z; cases z; exact hb rfl
end
structure Un (fs ex:List Addr) (H H':Hp) (h h':Heap):Prop where
 keep:∀ b o,h.get? b=some o->H b=none->b ∉ fs->b ∉ ex->h'.get? b=some o
 slot:∀ b o,h.get? b=some o->H b=none->b ∈ fs->b ∉ ex->∃ sl,h'.get? b=some { o with slots:=sl }
 free:∀ b o,h.get? b=some o->H b=none->b ∉ ex->H' b=none
 there:∀ b o,h.get? b=some o->b ∉ ex->∃ o',h'.get? b=some o'
 tups:∀ b xs,H b=some (.tup xs)->H' b=some (.tup xs)
 frzs:∀ b o u,H b=some (.frz o u)->H' b=some (.frz o u)
 tbls:∀ b ps,H b=some (.tbl ps)->∃ more,H' b=some (.tbl (ps ++ more))
section
variable {fs fs' ex ex':List Addr} {H H1 H2:Hp} {h h1 h2 h':Heap} {a x e:Addr} {o:HO}
def Un.any (u:Un fs ex H H1 h h1) {b:Addr} {ob:Obj} (q:h.get? b=some ob) (n:H b=none) (hx:b ∉ ex):∃ sl,h1.get? b=some { ob with slots:=sl }:=by
 by_cases hb:b ∈ fs
 ·exact u.slot b ob q n hb hx
 ·exact ⟨ob.slots,u.keep b ob q n hb hx⟩
def Un.kept (k:∀ b u,h.get? b=some u->h'.get? b=some u):Un fs ex H H h h' :=
 ⟨fun b ob q _ _ _=>k b ob q,fun b ob q _ _ _=>⟨ob.slots,k b ob q⟩,fun _ _ _ n _=>n,fun b ob q _=>⟨ob,k b ob q⟩,fun _ _ q=>q,fun _ _ _ q=>q,fun _ ps q=>⟨#[],by rw [q]; simp⟩⟩
def Un.refl:Un fs ex H H h h:=Un.kept fun _ _ q=>q
def Un.laid (k:∀ b u,h.get? b=some u->h'.get? b=some u) (hp:h.objs.size<=a) (hn:H a=none):Un fs ex H (upd H a o) h h' where
 keep:=fun b u q _ _ _=>k b u q
 slot:=fun b u q _ _ _=>⟨u.slots,k b u q⟩
 free:=fun b u q n _=>by rw [zp (yP (yM (yH q) hp))]; exact n
 there:=fun b u q _=>⟨u,k b u q⟩
 tups:=fun b xs q=>by rw [zp (zag q hn)]; exact q
 frzs:=fun b u xs q=>by rw [zp (zag q hn)]; exact q
 tbls:=fun b ps q=>⟨#[],by rw [zp (zag q hn),q]; simp⟩
def Un.write (mu:Mut (H x)) (he:e=x\/H e=some (.own x)) (k:∀ b u,b≠e->h.get? b=some u->h'.get? b=some u) (heo:∃ u,h'.get? e=some u):Un fs ex H (upd H x o) h h':=by
 have hx:∀ b,H b=none->b≠x:=fun b n z=>by subst z; rw [n] at mu; exact mu
 have hb:∀ b,H b=none->b≠e:=fun b n z=>by
  subst z
  rcases he with r | r
  ·exact hx b n r
  ·rw [n] at r; cases r
 have hm:∀ b u,H b=some u->¬ Mut (some u)->b≠x:=fun b u q nm z=>by subst z; rw [q] at mu; exact nm mu
 refine ⟨fun b u q n _ _=>k b u (hb b n) q,fun b u q n _ _=>⟨u.slots,k b u (hb b n) q⟩,fun b u q n _=>by rw [zp (hx b n)]; exact n,fun b u q _=>?_,
  fun b xs q=>by rw [zp (hm b _ q fun z=>z)]; exact q,fun b u xs q=>by rw [zp (hm b _ q fun z=>z)]; exact q,fun b ps q=>⟨#[],by rw [zp (hm b _ q fun z=>z),q]; simp⟩⟩
 by_cases hbe:b=e
 ·subst hbe; exact heo
 ·exact ⟨u,k b u hbe q⟩
end
def znQ (g h:Heap) (L:Addr):yyL:=(List.range h.objs.size).filterMap fun a=>if a=L\/(g.get? a).isSome=true then none else (h.get? a).map fun o=>(a,o)
def zbF (g h:Heap) (L d:Addr):yyL:=(znQ g h L).filter fun p=>decide (p.1≠d)
def zke (q:Str):Obj:=⟨.str q 0,none,.freed,#[]⟩
def zih (base:Heap) (H:Hp):Prop:=∀ P q,base.objs[P]?=some (zke q)->∃ ps,H P=some (.tbl ps)/\ps[0]?=some (.str q 0)
def zih.un {base:Heap} {H H':Hp} (t:zih base H) (u:∀ b ps,H b=some (.tbl ps)->∃ more,H' b=some (.tbl (ps ++ more))):zih base H':=fun P q e=>by
 obtain ⟨ps,e1,e2⟩:=t P q e; obtain ⟨more,e3⟩:=u P ps e1; refine ⟨_,e3,?_⟩
 rw [Array.getElem?_append_left (by rw [yq] at e2; exact e2.1)]
 exact e2
def zqe:Obj:=⟨.none,none,.freed,#[]⟩
def zkU (o:Obj):Option HO->Obj
 | some (.tbl ps)=>match (ps[0]?:Option Value) with
  | some (.str q 0)=>zke q
  | _=>zqe
 | some _=>zqe
 | none=>match o.data with
  | .freed=>zqe
  | _=>o
def nrm (h:Heap) (H:Hp):Heap:=⟨h.objs.mapIdx fun a o=>zkU o (H a),h.life⟩
def zkT (h:Heap) (H:Hp):(nrm h H).objs.size=h.objs.size:=by unfold nrm; simp
def zi9 (h:Heap) (H:Hp) (b:Addr):(nrm h H).objs[b]?=(h.objs[b]?).map fun o=>zkU o (H b):=by unfold nrm; simp
def zes {h:Heap} {b:Addr} {o:Obj} (e:h.objs[b]?=some o) (n:o.data≠.freed):h.get? b=some o:=by
 unfold Heap.get?
 rw [e]; obtain ⟨c,d,dt,sl⟩:=o
 cases dt <;> first | rfl | exact yU rfl n
def zel {h:Heap} {b:Addr} {o:Obj} (e:h.get? b=some o):h.objs[b]?=some o/\o.data≠.freed:=by
 unfold Heap.get? at e
 cases q:h.objs[b]? with
 | none=>rw [q] at e; cases e
 | some u =>
  rw [q] at e; obtain ⟨c,d,dt,sl⟩:=u
  cases dt <;> first | (cases e; exact ⟨rfl,fun z=>nomatch z⟩) | cases e
def zne {h:Heap} {H:Hp} {b:Addr} {o:Obj} (e:h.get? b=some o) (n:H b=none):(nrm h H).get? b=some o:=by
 obtain ⟨e1,e2⟩:=zel e; refine zes ?_ e2; rw [zi9,e1,n]
 show some (zkU o none)=some o
 obtain ⟨c,d,dt,sl⟩:=o
 cases dt <;> first | rfl | exact yU rfl e2
def zo2 {h:Heap} {H:Hp} {b:Addr} {o:Obj} (e:(nrm h H).get? b=some o):h.get? b=some o/\H b=none:=by
 obtain ⟨e1,e2⟩:=zel e; rw [zi9] at e1
 cases q:h.objs[b]? with
 | none=>rw [q] at e1; cases e1
 | some u =>
  rw [q] at e1
  have e3:zkU u (H b)=o:=Option.some.inj e1
  cases z:H b with
  | some t =>
   rw [z] at e3
   exfalso
   unfold zkU at e3; split at e3
   ·split at e3 <;> exact e2 (by rw [<- e3]; rfl)
   ·exact e2 (by rw [<- e3]; rfl)
   ·rename_i y; cases y
  | none =>
   rw [z] at e3; refine ⟨?_,rfl⟩; obtain ⟨c,d,dt,sl⟩:=u; unfold zkU at e3
   cases dt <;> first | (cases e3; exact zes q fun y=>nomatch y) | exact yU (show o.data=.freed by rw [<- e3]; rfl) e2
def zkS (h:Heap) (H:Hp):zih (nrm h H) H:=fun P q e=>by
 rw [zi9] at e
 cases z:h.objs[P]? with
 | none=>rw [z] at e; cases e
 | some u =>
  rw [z] at e
  have e3:zkU u (H P)=zke q:=Option.some.inj e
  cases y:H P with
  | none =>
   rw [y] at e3
   exfalso
   obtain ⟨c,d,dt,sl⟩:=u; unfold zkU zke zqe at e3
   cases dt <;> cases e3
  | some t =>
   rw [y] at e3; unfold zkU at e3; split at e3
   ·rename_i ps hps
    cases hps; split at e3
    ·rename_i q' hq
     cases e3; exact ⟨_,rfl,hq⟩
    ·cases e3
   ·cases e3
   ·rename_i hh; cases hh
structure Mod (K:W.Frag) (mg:Str->Option Value) (base:Heap):Prop where
 kin:K.In base
 glob:base.Ns mainGlobals mg
 blt:∃ mb,base.Ns builtinsNs mb/\∀ x:Str,x≠"__name__"->mb x=bootBuiltins x
 nolimit:base.NoLimit
 bm:∃ bm ob,mg "__builtins__"=some (.ref bm)/\bm≠builtinsNs/\base.get? bm=some ob/\ob.cls=.type "module"/\ob.dict=some builtinsNs/\ob.data=.plain
/-- the context: a def's body (or a comprehension's block) running. base: fixed through the whole law; s₀, H₀: the entry; outer: the frames whose slots others may change (a def's callers); stack: all frames that run;
   ex: iterators that were made ahead of the entry and are walked here (a comprehension's); fn: the names whose cells were made at the entry (a def: all; a comprehension's block: its own); calm: not within an except suite; pn: pins that every state bears; xe: what is wanted of an exception that leaves the code -/
structure Cx where
 prog:Program
 w:World
 K:W.Frag
 mg:Str->Option Value
 base:Heap
 A:Around
 N:List Str
 s₀:Shared
 H₀:Hp
 env:Env
 outer:List Env
 stack:List Env
 ex:List Addr
 fn:Str->Bool
 calm:Bool
 pn:yyL
 xe:Value->Shared->Prop
def frs (l:List Env):List Addr:=l.filterMap (·.frame)
abbrev Cx.fs (X:Cx):List Addr:=frs X.outer
def Vis (sc:Scope) (x:Str):Prop:=sc.names.lookup x=some .local\/sc.names.lookup x=some .cell\/sc.names.lookup x=some .free
def Loc (sc:Scope) (x:Str):Prop:=sc.names.lookup x=some .local\/sc.names.lookup x=some .cell
def zsC (env:Env) (h:Heap) (m:Str->Option Value) (x:Str) (u:Value):Prop :=
 (env.kindOf x=some .local/\m x=some u)\/((env.kindOf x=some .cell\/env.kindOf x=some .free)/\∃ c,env.cells.lookup x=some c/\h.IsCell c (some u))
structure Cx.Ok (X:Cx):Prop where
 mod:Mod X.K X.mg X.base
 kind:X.env.scope.kind=.function
 glob:X.env.globals=mainGlobals
 blt:X.env.builtins=builtinsNs
 above:X.s₀.heap.objs.size<=X.env.locals
 inj:∀ x y c,X.env.cells.lookup x=some c->X.env.cells.lookup y=some c->x=y
 has:∀ x,(X.env.kindOf x=some .cell\/X.env.kindOf x=some .free)->∃ c,X.env.cells.lookup x=some c
 cab:∀ x c,X.fn x=true->X.env.cells.lookup x=some c->X.s₀.heap.objs.size<=c
 hd:X.calm=true->X.A.handled=none
 frames:X.A.frames=some X.stack
 stk:X.stack=X.outer\/(X.stack=X.env :: X.outer/\X.env.frame=some X.env.locals)
 exf:∀ b ∈ X.ex,b≠X.env.locals/\∀ x c,X.env.cells.lookup x=some c->c≠b
 bs:∀ b o,X.base.get? b=some o->X.s₀.heap.get? b=some o/\X.H₀ b=none
 bsz:X.base.objs.size<=X.s₀.heap.objs.size
 noex:∀ b o,X.base.get? b=some o->b ∉ X.ex
 exfs:∀ b ∈ X.ex,b ∉ X.fs
 funs:X.s₀.heap.FunFrames X.base X.outer
 frf:∀ b ∈ X.fs,X.H₀ b=none
 tab:zih X.base X.H₀
structure Inv (X:Cx) (pins:yyL) (σ:List (Option V)) (H:Hp) (s:Shared):Prop where
 ok:X.Ok
 os:s.os=X.s₀.os
 bare:AllBare s.gens
 base:Un X.fs X.ex X.H₀ H X.s₀.heap s.heap
 loc:∃ m,s.heap.Ns X.env.locals m/\∀ (i:Nat) (x:Str) (v:V),X.N[i]?=some x->σ[i]?=some (some v)->Vis X.env.scope x->∃ u,zbI v u/\zsC X.env s.heap m x u
 cell:∀ x c,X.env.cells.lookup x=some c->∃ v,s.heap.IsCell c v
 free:H X.env.locals=none
 freeC:∀ x c,X.env.cells.lookup x=some c->H c=none
 pin:∀ p ∈ X.pn ++ pins,s.heap.get? p.1=some p.2/\H p.1=none/\p.1≠X.env.locals/\p.1 ∉ X.fs/\∀ v,p.2.data≠.cell v
 hok:HOk X.prog X.w H s.heap
 len:σ.length=X.N.length
section
variable {X:Cx} {pins:yyL} {σ:List (Option V)} {H H':Hp} {s:Shared} {h':Heap}
def Cx.Ok.nofr (ok:X.Ok) {b:Addr} {o:Obj} (e:X.base.get? b=some o):b ∉ X.fs:=fun hb=>by
 have:=(ok.funs.mem hb).1
 rw [e] at this; cases this
def Inv.bs (I:Inv X pins σ H s):∀ b o,X.base.get? b=some o->s.heap.get? b=some o/\H b=none:=fun b o e =>
 ⟨I.base.keep b o (I.ok.bs b o e).1 (I.ok.bs b o e).2 (I.ok.nofr e) (I.ok.noex b o e),I.base.free b o (I.ok.bs b o e).1 (I.ok.bs b o e).2 (I.ok.noex b o e)⟩
def Inv.bk (I:Inv X pins σ H s):∀ b o,X.base.get? b=some o->s.heap.get? b=some o:=fun b o e=>(I.bs b o e).1
def Inv.mod (I:Inv X pins σ H s):Mod X.K X.mg X.base:=I.ok.mod
def Inv.kIn (I:Inv X pins σ H s):X.K.In s.heap:=I.ok.mod.kin.keeps I.bk
def Inv.lt (I:Inv X pins σ H s):X.env.locals<s.heap.objs.size:=let ⟨_,hn,_⟩:=I.loc; hn.lt
def Inv.sz (I:Inv X pins σ H s):X.s₀.heap.objs.size<=s.heap.objs.size:=yj I.ok.above (Nat.le_of_lt I.lt)
def Inv.nofs (I:Inv X pins σ H s) {a:Addr} (h:s.heap.objs.size<=a):a ∉ X.fs:=fun hb=>by
 obtain ⟨_,o,ho,_⟩:=I.ok.funs.mem hb; exact yU (yM (yH ho) (yj I.sz h)) (YR _)
def Inv.cne (I:Inv X pins σ H s):∀ x c,X.env.cells.lookup x=some c->c≠X.env.locals:=fun x c e z=>by
 obtain ⟨v,o,ho,hd⟩:=I.cell x c e
 obtain ⟨m,⟨o',es,ep,ho',hd',_⟩,_⟩:=I.loc
 rw [z,ho'] at ho; cases ho; rw [hd'] at hd; cases hd
def Inv.funs (I:Inv X pins σ H s):s.heap.FunFrames X.base X.outer:=by
 have all:∀ (l:List Env),(∀ b ∈ frs l,b ∈ X.fs)->X.s₀.heap.FunFrames X.base l->s.heap.FunFrames X.base l:=by
  intro l
  induction l with
  | nil=>intro _ _; trivial
  | cons env r ih =>
   intro hs hl
   obtain ⟨hk,⟨L,o,hf,hn,ho,hd⟩,hr⟩:=hl
   have hL:L ∈ X.fs:=hs L (by unfold frs; rw [List.filterMap_cons,hf]; exact yt)
   obtain ⟨sl,e⟩:=I.base.slot L o ho (I.ok.frf L hL) hL fun z=>I.ok.exfs L z hL
   exact ⟨hk,⟨L,_,hf,hn,e,hd⟩,ih (fun b hb=>hs b (by unfold frs; rw [List.filterMap_cons,hf]; exact yc _ hb)) hr⟩
 exact all X.outer (fun _ hb=>hb) I.ok.funs
def Inv.stack (I:Inv X pins σ H s):s.heap.FunFrames X.base X.stack:=by
 rcases I.ok.stk with e | ⟨e,hf⟩
 ·rw [e]; exact I.funs
 ·rw [e]
  obtain ⟨m,hn,_⟩:=I.loc
  refine .cons (by rw [I.ok.kind]; decide) hf hn ?_ I.funs
  exact Heap.get?_none_of_le (yj I.ok.bsz I.ok.above)
def Inv.stkSub (I:Inv X pins σ H s):∀ b ∈ frs X.stack,b ∈ X.env.locals :: X.fs:=fun b hb=>by
 rcases I.ok.stk with e | ⟨e,hf⟩
 ·rw [e] at hb; exact yc _ hb
 ·rw [e] at hb
  unfold frs at hb; rw [List.filterMap_cons,hf] at hb; exact hb
def Inv.stkFree (I:Inv X pins σ H s):∀ b ∈ frs X.stack,H b=none:=fun b hb=>by
 rcases yO.mp (I.stkSub b hb) with e | hb
 ·rw [e]; exact I.free
 ·obtain ⟨_,o,ho,_⟩:=I.ok.funs.mem hb
  exact I.base.free b o ho (I.ok.frf b hb) fun z=>I.ok.exfs b z hb
def Inv.step {g':Array GenState} {t':Nat} {d':Drawn} {ch:List Addr} (I:Inv X pins σ H s)
  (hch:∀ b ∈ ch,(b ∈ X.ex\/X.s₀.heap.objs.size<=b)/\b≠X.env.locals/\(∀ x c,X.env.cells.lookup x=some c->c≠b)/\∀ p ∈ X.pn ++ pins,p.1≠b)
  (keep:∀ b o,b≠X.env.locals->b ∉ X.fs->b ∉ ch->s.heap.get? b=some o->H b=none->h'.get? b=some o)
  (slot:∀ b o,b≠X.env.locals->b ∈ X.fs->b ∉ ch->s.heap.get? b=some o->H b=none->∃ sl,h'.get? b=some { o with slots:=sl }) (free:∀ b o,b ∉ ch->s.heap.get? b=some o->H b=none->H' b=none)
  (there:∀ b o,b ∉ ch->s.heap.get? b=some o->∃ o',h'.get? b=some o')
  (tups:∀ b xs,H b=some (.tup xs)->H' b=some (.tup xs)) (frzs:∀ b o u,H b=some (.frz o u)->H' b=some (.frz o u)) (tbls:∀ b ps,H b=some (.tbl ps)->∃ more,H' b=some (.tbl (ps ++ more)))
  (ns:∀ m,s.heap.Ns X.env.locals m->h'.Ns X.env.locals m) (hok:HOk X.prog X.w H' h') (hg:AllBare g') :
  Inv X pins σ H' { s with heap:=h',gens:=g',drawn:=d',toks:=t' }:=by
 have neL:∀ b o,X.s₀.heap.get? b=some o->b≠X.env.locals:=fun b o e=>yP (yM (yH e) I.ok.above)
 have neC:∀ b o,X.s₀.heap.get? b=some o->b ∉ X.ex->b ∉ ch:=fun b o e hx hb=>by
  rcases (hch b hb).1 with z | z
  ·exact hx z
  ·exact yU (yM (yH e) z) (YR _)
 have cellK:∀ x c,X.env.cells.lookup x=some c->∀ v,s.heap.IsCell c v->h'.IsCell c v:=fun x c e v ⟨o,ho,hd⟩=>by
  have nch:c ∉ ch:=fun z=>(hch c z).2.2.1 x c e rfl
  by_cases hc:c ∈ X.fs
  ·obtain ⟨sl,q⟩:=slot c o (I.cne x c e) hc nch ho (I.freeC x c e)
   exact ⟨_,q,hd⟩
  ·exact ⟨o,keep c o (I.cne x c e) hc nch ho (I.freeC x c e),hd⟩
 refine ⟨I.ok,I.os,hg,⟨fun b o e n hb hx=>?_,fun b o e n hb hx=>?_,fun b o e n hx=>?_,fun b o e hx=>?_,fun b xs e=>tups b xs (I.base.tups b xs e),fun b o xs e=>frzs b o xs (I.base.frzs b o xs e),fun b ps e=>?_⟩,?_,fun x c e=>?_,?_,fun x c e=>?_,fun p hp=>?_,hok,I.len⟩
 ·exact keep b o (neL b o e) hb (neC b o e hx) (I.base.keep b o e n hb hx) (I.base.free b o e n hx)
 ·obtain ⟨sl,e1⟩:=I.base.slot b o e n hb hx
  obtain ⟨sl',e2⟩:=slot b _ (neL b o e) hb (neC b o e hx) e1 (I.base.free b o e n hx); exact ⟨sl',e2⟩
 ·obtain ⟨o',e1⟩:=I.base.there b o e hx
  exact free b o' (neC b o e hx) e1 (I.base.free b o e n hx)
 ·obtain ⟨o',e1⟩:=I.base.there b o e hx
  exact there b o' (neC b o e hx) e1
 ·obtain ⟨m1,e1⟩:=I.base.tbls b ps e
  obtain ⟨m2,e2⟩:=tbls b _ e1
  exact ⟨m1 ++ m2,by rw [e2,Array.append_assoc]⟩
 ·obtain ⟨m,hn,hl⟩:=I.loc
  refine ⟨m,ns m hn,fun i x v e1 e2 e3=>?_⟩
  obtain ⟨u,r,l⟩:=hl i x v e1 e2 e3; refine ⟨u,r,?_⟩
  rcases l with l | ⟨k,c,e,z⟩
  ·exact .inl l
  ·exact .inr ⟨k,c,e,cellK x c e _ z⟩
 ·obtain ⟨v,z⟩:=I.cell x c e
  exact ⟨v,cellK x c e v z⟩
 ·obtain ⟨m,⟨o,_,_,ho,_⟩,_⟩:=I.loc
  exact free _ o (fun z=>(hch _ z).2.1 rfl) ho I.free
 ·obtain ⟨v,o,ho,hd⟩:=I.cell x c e
  exact free c o (fun z=>(hch c z).2.2.1 x c e rfl) ho (I.freeC x c e)
 ·obtain ⟨e,n,ne,nf,d⟩:=I.pin p hp
  have nch:p.1 ∉ ch:=fun z=>(hch p.1 z).2.2.2 p hp rfl
  exact ⟨keep p.1 p.2 ne nf nch e n,free p.1 p.2 nch e n,ne,nf,d⟩
def Inv.un {t':Nat} (I:Inv X pins σ H s) (u:Un X.fs [] H H' s.heap h') (hok:HOk X.prog X.w H' h'):Inv X pins σ H' { s with heap:=h',toks:=t' }:=by
 obtain ⟨m,⟨o,es,ep,ho,r⟩,_⟩:=id I.loc
 obtain ⟨sl,hL⟩:=u.any ho I.free (by simp)
 exact I.step (g':=s.gens) (d':=s.drawn) (ch:=[]) (fun _ z=>nomatch z) (fun b o _ hb _ e n=>u.keep b o e n hb (by simp)) (fun b o _ hb _ e n=>u.slot b o e n hb (by simp)) (fun b o _ e n=>u.free b o e n (by simp)) (fun b o _ e=>u.there b o e (by simp)) u.tups u.frzs u.tbls (fun m' hm=>by
  obtain ⟨o',es',ep',ho',r'⟩:=hm
  rw [ho] at ho'; cases ho'
  exact ⟨_,es',ep',hL,r'⟩) hok I.bare
def Inv.call {g':Array GenState} {t':Nat} {d':Drawn} {ch:List Addr} (I:Inv X pins σ H s) (u:Un (frs X.stack) ch H H' s.heap h') (hok:HOk X.prog X.w H' h') (hg:AllBare g')
  (hch:∀ b ∈ ch,(b ∈ X.ex\/X.s₀.heap.objs.size<=b)/\b≠X.env.locals/\(∀ x c,X.env.cells.lookup x=some c->c≠b)/\∀ p ∈ X.pn ++ pins,p.1≠b) :
  Inv X pins σ H' { s with heap:=h',gens:=g',drawn:=d',toks:=t' }:=by
 obtain ⟨m,⟨o,es,ep,ho,r⟩,_⟩:=id I.loc
 obtain ⟨sl,hL⟩:=u.any ho I.free fun z=>(hch _ z).2.1 rfl
 exact I.step (ch:=ch) hch (fun b o hL hb hc e n=>u.keep b o e n (fun z=>(yO.mp (I.stkSub b z)).elim hL hb) hc) (fun b o _ _ hc e n=>u.any e n hc) (fun b o hc e n=>u.free b o e n hc) (fun b o hc e=>u.there b o e hc) u.tups u.frzs u.tbls (fun m' hm=>by
  obtain ⟨o',es',ep',ho',r'⟩:=hm
  rw [ho] at ho'; cases ho'
  exact ⟨_,es',ep',hL,r'⟩) hok hg
def Inv.turned {t':Nat} {it:Addr} (I:Inv X pins σ H s) (k:∀ b o,b≠it->s.heap.get? b=some o->h'.get? b=some o) (hn:H it=none) (hL:it≠X.env.locals)
  (h1:it ∈ X.ex\/X.s₀.heap.objs.size<=it) (h2:∀ x c,X.env.cells.lookup x=some c->c≠it) (h3:∀ p ∈ X.pn ++ pins,p.1≠it):Inv X pins σ H { s with heap:=h',toks:=t' }:=by
 have nit:∀ b u,H b=some u->b≠it:=fun b u e z=>by rw [z,hn] at e; cases e
 refine I.step (g':=s.gens) (d':=s.drawn) (ch:=[it]) (fun b hb=>?_) (fun b o _ _ hc e _=>k b o (fun z=>hc (by simp [z])) e) (fun b o _ _ hc e _=>⟨o.slots,k b o (fun z=>hc (by simp [z])) e⟩) (fun _ _ _ _ n=>n)
  (fun b o hc e=>⟨o,k b o (fun z=>hc (by simp [z])) e⟩) (fun _ _ e=>e) (fun _ _ _ e=>e) (fun b ps e=>⟨#[],by rw [e]; simp⟩) (fun m hm=>?_) (fun b u e=>?_) I.bare
 ·have e:b=it:=by simpa using hb
  subst e; exact ⟨h1,hL,h2,h3⟩
 ·obtain ⟨o,es,ep,ho,r⟩:=hm
  exact ⟨o,es,ep,k _ o (Ne.symm hL) ho,r⟩
 ·refine (I.hok b u e).stay (fun c v hc q=>k c v ?_ q) (fun _ q=>q) fun _ _ q=>q
  rcases hc with z | z
  ·rw [z]; exact nit b u e
  ·exact nit c _ z
def Inv.tok (I:Inv X pins σ H s) (t:Nat):Inv X pins σ H { s with toks:=t }:=I.un (h':=s.heap) (t':=t) Un.refl I.hok
def Inv.kept {t':Nat} (I:Inv X pins σ H s) (k:∀ b u,s.heap.get? b=some u->h'.get? b=some u):Inv X pins σ H { s with heap:=h',toks:=t' }:=I.un (Un.kept k) (I.hok.kept k)
def Inv.laid {a:Addr} {o:HO} {t':Nat} (I:Inv X pins σ H s) (k:∀ b u,s.heap.get? b=some u->h'.get? b=some u) (hp:s.heap.objs.size<=a) (new:zbr X.prog X.w (upd H a o) h' a o) :
  Inv X pins σ (upd H a o) { s with heap:=h',toks:=t' }:=I.un (Un.laid k hp (I.hok.fresh hp)) (I.hok.laid k hp new)
def Inv.write {x e:Addr} {o:HO} {t':Nat} (I:Inv X pins σ H s) (mu:Mut (H x)) (he:e=x\/H e=some (.own x)) (k:∀ b u,b≠e->s.heap.get? b=some u->h'.get? b=some u) (heo:∃ u,h'.get? e=some u)
  (new:zbr X.prog X.w (upd H x o) h' x o):Inv X pins σ (upd H x o) { s with heap:=h',toks:=t' }:=I.un (Un.write mu he k heo) (I.hok.write mu he k heo new)
def Inv.pins_of {pins':yyL} (I:Inv X pins σ H s) (h:∀ p ∈ pins',s.heap.get? p.1=some p.2/\H p.1=none/\p.1≠X.env.locals/\p.1 ∉ X.fs/\∀ v,p.2.data≠.cell v):Inv X pins' σ H s :=
 ⟨I.ok,I.os,I.bare,I.base,I.loc,I.cell,I.free,I.freeC,fun p hp=>(YL.mp hp).elim (fun z=>I.pin p (List.mem_append_left _ z)) (h p),I.hok,I.len⟩
def zfj {N:List Str} (hN:N.Nodup) {i j:Nat} {x:Str} (a:N[i]?=some x) (b:N[j]?=some x):i=j:=by
 obtain ⟨h1,e1⟩:=yD.mp a; obtain ⟨h2,e2⟩:=yD.mp b; exact (List.getElem_inj hN).mp (e1.trans e2.symm)
def zfF {M:Model} {A:Around} {E:Value->Shared->Prop} {i:Nat} {x:Str} {v:V} {u:Value} {Q:Unit->Shared->Prop} (I:Inv X pins σ H s) (hN:X.N.Nodup) (hi:X.N[i]?=some x) (hx:Loc X.env.scope x) (r:zbI v u)
  (h:∀ s',Inv X pins (σ.set i (some v)) H s'->(∃ a,Heap.SameBut a s.heap s'.heap/\(a=X.env.locals\/X.env.cells.lookup x=some a))->Q () s') (hf:X.fn x=true\/X.env.scope.names.lookup x=some .local:=by first | exact .inl rfl | exact .inr rfl | assumption):wpAny M A (storeName X.env x u) Q E s:=by
 obtain ⟨m,hn,hl⟩:=id I.loc
 have hcls:(X.env.scope.kind == .class || (X.env.scope.kind == .module && X.env.locals != X.env.globals))=false:=by rw [I.ok.kind]; rfl
 have hiσ:i<σ.length:=by rw [I.len]; exact (yD.mp hi).1
 have cne:=I.cne
 have tracked:∀ {a:Addr} {h':Heap},(∃ o,s.heap.get? a=some o/\H a=none)->Heap.SameBut a s.heap h'->HOk X.prog X.w H h':=fun {a h'} ha hs b ob e=>by
  obtain ⟨_,_,hfree⟩:=ha
  refine (I.hok b ob e).stay (fun c w' hc q=>(hs.2 c ?_).trans q) (fun _ q=>q) fun _ _ q=>q
  rintro rfl
  rcases hc with rfl | hc
  ·rw [hfree] at e; cases e
  ·rw [hfree] at hc; cases hc
 rcases hx with hk | hk
 ·refine wpAny_storeName_local hk hn (fun h' hn' hs=>?_) hcls
  obtain ⟨oL,_,_,hoL,_⟩:=id hn
  refine h _ ⟨I.ok,I.os,I.bare,⟨fun b o e n hb hx=>?_,fun b o e n hb hx=>?_,I.base.free,fun b o e hx=>?_,I.base.tups,I.base.frzs,I.base.tbls⟩,⟨_,hn',fun j y v' e1 e2 e3=>?_⟩,fun y c e=>?_,I.free,I.freeC,fun p hp=>?_,tracked ⟨oL,hoL,I.free⟩ hs,by simpa using I.len⟩ ⟨_,hs,.inl rfl⟩
  ·exact (hs.2 b (yP (yM (yH e) I.ok.above))).trans (I.base.keep b o e n hb hx)
  ·obtain ⟨sl,e1⟩:=I.base.slot b o e n hb hx
   exact ⟨sl,(hs.2 b (yP (yM (yH e) I.ok.above))).trans e1⟩
  ·obtain ⟨o',e1⟩:=I.base.there b o e hx
   exact ⟨o',(hs.2 b (yP (yM (yH e) I.ok.above))).trans e1⟩
  ·by_cases hj:j=i
   ·subst hj
    rw [hi] at e1; cases e1
    rw [yz hiσ] at e2; cases e2
    exact ⟨u,r,.inl ⟨hk,by simp⟩⟩
   ·rw [yR (Ne.symm hj)] at e2
    obtain ⟨u',r',q⟩:=hl j y v' e1 e2 e3; refine ⟨u',r',?_⟩
    rcases q with ⟨k,e⟩ | ⟨k,c,e,z⟩
    ·refine .inl ⟨k,?_⟩
     have:y≠x:=fun e=>hj (zfj hN e1 (e ▸ hi))
     simp [this,e]
    ·exact .inr ⟨k,c,e,z.sameBut hs (cne y c e)⟩
  ·obtain ⟨w',z⟩:=I.cell y c e
   exact ⟨w',z.sameBut hs (cne y c e)⟩
  ·obtain ⟨e,n,ne,nf,d⟩:=I.pin p hp
   exact ⟨(hs.2 p.1 ne).trans e,n,ne,nf,d⟩
 ·have hfn:X.fn x=true:=by
   rcases hf with z | z
   ·exact z
   ·rw [z] at hk; cases hk
  obtain ⟨c,hc⟩:=I.ok.has x (.inl hk); obtain ⟨w',z⟩:=I.cell x c hc
  refine wpAny_storeName_cell I.ok.kind hk hc z (fun h' hc' hs=>?_)
  obtain ⟨oc,hoc,hocd⟩:=id z
  refine h { s with heap:=h' } ⟨I.ok,I.os,I.bare,⟨fun b o e n hb hx=>?_,fun b o e n hb hx=>?_,I.base.free,fun b o e hx=>?_,I.base.tups,I.base.frzs,I.base.tbls⟩,⟨m,hn.sameBut hs (Ne.symm (cne x c hc)),fun j y v' e1 e2 e3=>?_⟩,fun y c' e=>?_,I.free,I.freeC,fun p hp=>?_,tracked ⟨oc,hoc,I.freeC x c hc⟩ hs,by simpa using I.len⟩ ⟨c,hs,.inr hc⟩
  ·exact (hs.2 b (yP (yM (yH e) (I.ok.cab x c hfn hc)))).trans (I.base.keep b o e n hb hx)
  ·obtain ⟨sl,e1⟩:=I.base.slot b o e n hb hx
   exact ⟨sl,(hs.2 b (yP (yM (yH e) (I.ok.cab x c hfn hc)))).trans e1⟩
  ·obtain ⟨o',e1⟩:=I.base.there b o e hx
   exact ⟨o',(hs.2 b (yP (yM (yH e) (I.ok.cab x c hfn hc)))).trans e1⟩
  ·by_cases hj:j=i
   ·subst hj
    rw [hi] at e1; cases e1
    rw [yz hiσ] at e2; cases e2; exact ⟨u,r,.inr ⟨.inl hk,c,hc,hc'⟩⟩
   ·rw [yR (Ne.symm hj)] at e2
    obtain ⟨u',r',q⟩:=hl j y v' e1 e2 e3; refine ⟨u',r',?_⟩
    rcases q with q | ⟨k,c',e,z'⟩
    ·exact .inl q
    ·refine .inr ⟨k,c',e,z'.sameBut hs ?_⟩
     rintro rfl
     exact hj (zfj hN e1 (I.ok.inj _ _ _ e hc ▸ hi))
  ·by_cases hcc:c'=c
   ·subst hcc; exact ⟨_,hc'⟩
   ·obtain ⟨w2,z2⟩:=I.cell y c' e
    exact ⟨w2,z2.sameBut hs hcc⟩
  ·obtain ⟨e,n,ne,nf,d⟩:=I.pin p hp
   refine ⟨(hs.2 p.1 ?_).trans e,n,ne,nf,d⟩; intro q; rw [q,hoc] at e
   have q':oc=p.2:=Option.some.inj e
   exact d w' (by rw [<- q']; exact hocd)
def zd0 {M:Model} {A:Around} {E:Value->Shared->Prop} {i:Nat} {x:Str} {v:V} {u:Value} {Q:Unit->Shared->Prop} (I:Inv X pins σ H s) (hN:X.N.Nodup) (hi:X.N[i]?=some x) (hx:Loc X.env.scope x) (r:zbI v u)
  (h:∀ s',Inv X pins (σ.set i (some v)) H s'->Q () s') (hf:X.fn x=true\/X.env.scope.names.lookup x=some .local:=by first | exact .inl rfl | exact .inr rfl | assumption):wpAny M A (storeName X.env x u) Q E s :=
 zfF I hN hi hx r (fun s' I' _=>h s' I') hf
def Inv.call' {s':Shared} {ch:List Addr} (I:Inv X pins σ H s) (ho:s'.os=s.os) (u:Un (frs X.stack) ch H H' s.heap s'.heap) (hok:HOk X.prog X.w H' s'.heap) (hg:AllBare s'.gens)
  (hch:∀ b ∈ ch,(b ∈ X.ex\/X.s₀.heap.objs.size<=b)/\b≠X.env.locals/\(∀ x c,X.env.cells.lookup x=some c->c≠b)/\∀ p ∈ X.pn ++ pins,p.1≠b):Inv X pins σ H' s':=by
 obtain ⟨h',g',d',t',o'⟩:=s'
 have e:o'=s.os:=ho
 subst e; exact I.call (g':=g') (t':=t') (d':=d') u hok hg hch
end
abbrev XK:=Value->Option Addr->Hp->Prop
abbrev St:=List (Option V)
abbrev VK:=V->Hp->Prop
abbrev TE:=St->Hp->VK->Prop
abbrev TT:=St->Hp->(Bool->Hp->Prop)->Prop
abbrev TA:=St->Hp->(List V->Hp->Prop)->Prop
structure Ends where
 nx:St->Hp->Prop
 rt:VK
 bk:St->Hp->Prop:=fun _ _=>False
 ct:St->Hp->Prop:=fun _ _=>False
abbrev TS:=Ends->St->Hp->Prop
def EP (X:Cx) (pins:yyL) (σ:St) (Q:VK) (u:Value) (s':Shared):Prop:=∃ v H',Inv X pins σ H' s'/\zbI v u/\Q v H'
def TP (X:Cx) (pins:yyL) (σ:St) (Q:Bool->Hp->Prop) (b:Bool) (s':Shared):Prop:=∃ H',Inv X pins σ H' s'/\Q b H'
def AP (X:Cx) (pins:yyL) (σ:St) (Q:List V->Hp->Prop) (us:List Value) (s':Shared):Prop:=∃ vs H',Inv X pins σ H' s'/\za4 vs us/\Q vs H'
def SP (X:Cx) (pins:yyL) (D:Ends) (f:Flow) (s':Shared):Prop :=
 match f with
 | .next=>∃ σ' H',Inv X pins σ' H' s'/\D.nx σ' H'
 | .brk=>∃ σ' H',Inv X pins σ' H' s'/\D.bk σ' H'
 | .cont=>∃ σ' H',Inv X pins σ' H' s'/\D.ct σ' H'
 | .ret u=>∃ v σ' H',Inv X pins σ' H' s'/\zbI v u/\D.rt v H'
def PE (X:Cx) (e:Expr) (t:TE):Prop :=
 ∀ (pins:yyL) (s:Shared) (σ:St) (H:Hp) (Q:VK),Inv X pins σ H s->t σ H Q->wpAny (model X.prog X.w) X.A (eval e X.env) (EP X pins σ Q) X.xe s
def PT (X:Cx) (e:Expr) (t:TT):Prop :=
 ∀ (pins:yyL) (s:Shared) (σ:St) (H:Hp) (Q:Bool->Hp->Prop),Inv X pins σ H s->t σ H Q->wpAny (model X.prog X.w) X.A (isTrue e X.env (eval e X.env)) (TP X pins σ Q) X.xe s
def PW (X:Cx) (e:Expr) (t:TT):Prop :=
 ∀ (whole:Sem Value) (pins:yyL) (s:Shared) (σ:St) (H:Hp) (Q:Bool->Hp->Prop),Inv X pins σ H s->t σ H Q->wpAny (model X.prog X.w) X.A (isTrue e X.env whole) (TP X pins σ Q) X.xe s
def PA (X:Cx) (es:List Expr) (t:TA):Prop :=
 ∀ (pos:Pos) (pins:yyL) (s:Shared) (σ:St) (H:Hp) (Q:List V->Hp->Prop),Inv X pins σ H s->t σ H Q->wpAny (model X.prog X.w) X.A (spliced (backTo pos (starEach es X.env))) (AP X pins σ Q) X.xe s
def PS (X:Cx) (st:Stmt) (t:TS):Prop :=
 ∀ (pins:yyL) (s:Shared) (σ:St) (H:Hp) (D:Ends),Inv X pins σ H s->t D σ H->wpAny (model X.prog X.w) X.A (exec st X.env) (SP X pins D) X.xe s
def PSs (X:Cx) (st:List Stmt) (t:TS):Prop :=
 ∀ (pins:yyL) (s:Shared) (σ:St) (H:Hp) (D:Ends),Inv X pins σ H s->t D σ H->wpAny (model X.prog X.w) X.A (execs st X.env) (SP X pins D) X.xe s
def thn {α:Type} {t:Sem α} {Q Q':α->Shared->Prop} {M:Model} {A:Around} {E:Value->Shared->Prop} {s:Shared} (h:wpAny M A t Q E s) (hQ:∀ a s,Q a s->Q' a s):wpAny M A t Q' E s:=ym h hQ fun _ _ x=>x
section
variable {X:Cx}
def zrI (i:Nat):TE:=fun σ H Q=>∃ v,σ[i]?=some (some v)/\Q v H
def tC (v:V):TE:=fun _ H Q=>Q v H
def zcP {i:Nat} {x:Str} {pos:Pos} (hN:X.N[i]?=some x) (hv:Vis X.env.scope x) (hd:yyD x:=by decide) (hcd:(x == ("__classdict__":Str))=false:=by decide):PE X (.Name x pos) (zrI i):=by
 intro pins s σ H Q I h; obtain ⟨v,e,h⟩:=h; obtain ⟨m,hn,hl⟩:=I.loc; obtain ⟨u,r,l⟩:=hl i x v hN e hv
 have fin:EP X pins σ Q u s:=⟨v,H,I,r,h⟩
 rcases l with ⟨hk,hm⟩ | ⟨hk,c,hc,hcell⟩
 ·exact wpAny_Name (wpAny_loadName_local I.ok.kind hk hn hm fin) hd
 ·rcases hk with hk | hk
  ·exact wpAny_Name (wpAny_loadName_cell I.ok.kind hk hc hcell fin) hd
  ·exact wpAny_Name (wpAny_loadName_free I.ok.kind hk hc hcell fin hcd) hd
def zhe {i j pos}:PE X (.Constant (.int i) j pos) (tC (.int i)):=fun _ _ _ H _ I h=>wpAny_Constant_int ⟨.int i,H,I.tok _,⟨_,rfl⟩,h⟩
def zq1 {b j pos}:PE X (.Constant (.bool b) j pos) (tC (.bl b)):=fun _ _ _ H _ I h=>Constant_bool ⟨.bl b,H,I,rfl,h⟩
def zoO {j pos}:PE X (.Constant .none j pos) (tC .non):=fun _ _ _ H _ I h=>Constant_none ⟨.non,H,I,rfl,h⟩
def zoL {x j pos}:PE X (.Constant (.str x) j pos) (tC (.str x)):=fun _ _ _ H _ I h=>Calls.Constant_str ⟨.str x,H,I.tok _,⟨_,rfl⟩,h⟩
def Gl (X:Cx) (x:Str):Prop:=X.env.kindOf x=some .globalImplicit
def zco {E:Value->Shared->Prop} {pins:yyL} {s:Shared} {σ:St} {H:Hp} {x:Str} {u:Value} {pos:Pos} {Q:Value->Shared->Prop} (I:Inv X pins σ H s) (hg:Gl X x) (hm:X.mg x=some u) (h:Q u s)
  (hd:yyD x:=by decide):wpAny (model X.prog X.w) X.A (eval (.Name x pos) X.env) Q E s :=
 Calls.Name_function_global I.ok.kind hg (Calls.loadGlobal_global (by rw [I.ok.glob]; exact I.mod.glob.keeps I.bk) hm h) hd
def zeT {E:Value->Shared->Prop} {pins:yyL} {s:Shared} {σ:St} {H:Hp} {x:Str} {u:Value} {pos:Pos} {Q:Value->Shared->Prop} (I:Inv X pins σ H s) (hg:Gl X x) (hm:X.mg x=none) (hv:bootBuiltins x=some u) (h:Q u s)
  (hn:x≠"__name__":=by decide) (hd:yyD x:=by decide):wpAny (model X.prog X.w) X.A (eval (.Name x pos) X.env) Q E s:=by
 obtain ⟨mb,h1,h2⟩:=I.mod.blt
 exact Calls.Name_function_global I.ok.kind hg (Calls.loadGlobal_builtin (by rw [I.ok.glob]; exact I.mod.glob.keeps I.bk) hm (by rw [I.ok.blt]; exact h1.keeps I.bk) ((h2 x hn).trans hv) h) hd
def zmZ {x:Str} {v:V} {u:Value} {pos:Pos} (hg:Gl X x) (hm:X.mg x=some u) (r:zbI v u) (hd:yyD x:=by decide):PE X (.Name x pos) (tC v) :=
 fun _ _ _ H _ I h=>zco I hg hm ⟨v,H,I,r,h⟩ hd
def zm5 {x:Str} {v:V} {u:Value} {pos:Pos} (hg:Gl X x) (hm:X.mg x=none) (hv:bootBuiltins x=some u) (r:zbI v u) (hn:x≠"__name__":=by decide) (hd:yyD x:=by decide):PE X (.Name x pos) (tC v) :=
 fun _ _ _ H _ I h=>zeT I hg hm hv ⟨v,H,I,r,h⟩ hn hd
variable {a b:Expr} {ta tb:TE} {pos:Pos}
def tB (t:TE):TT:=fun σ H Q=>t σ H fun x H1=>∃ c,x=.bl c/\Q c H1
def zoD {e:Expr} {t:TE} (h:PE X e t) (he:∀ whole,isTrue e X.env whole=(do let v <- whole; standAt e.pos; holding [v] (truthy v)):=by intro _; rfl):PT X e (tB t):=by
 intro pins s σ H Q I hw
 refine isTrue_plain (thn (h pins s σ H _ I hw) fun v s1 ⟨x,H1,I1,r1,q1⟩=>?_) (he _)
 obtain ⟨d,rfl,q⟩:=q1; cases r1; exact wpAny_truthy_bool ⟨H1,I1,q⟩
variable {tA tB':TT} {zbF:List Expr}
def zsk (t u:TT):TT:=fun σ H Q=>t σ H fun c H1=>if c=true then u σ H1 Q else Q false H1
def tOr (t u:TT):TT:=fun σ H Q=>t σ H fun c H1=>if c=true then Q true H1 else u σ H1 Q
def zse (t:TT):TT:=fun σ H Q=>t σ H fun c H1=>Q (!c) H1
def zmN (ha:PT X a tA):PW X (.BoolOp .And [a] pos) tA:=by
 intro wh pins s σ H Q I h
 refine isTrue_and (thn (ha pins s σ H Q I h) fun c s1 e=>?_)
 cases c with
 | true=>exact isTrue_and_nil e
 | false=>exact e
def zoB (ha:PT X a tA):PW X (.BoolOp .Or [a] pos) tA:=by
 intro wh pins s σ H Q I h
 refine isTrue_or (thn (ha pins s σ H Q I h) fun c s1 e=>?_)
 cases c with
 | false=>exact isTrue_or_nil e
 | true=>exact e
def zoC (ha:PT X a tA) (hb:PW X (.BoolOp .And (b :: zbF) pos) tB'):PW X (.BoolOp .And (a :: b :: zbF) pos) (zsk tA tB'):=by
 intro wh pins s σ H Q I h
 refine isTrue_and (thn (ha pins s σ H _ I h) fun c s1 ⟨H1,I1,q1⟩=>?_)
 cases c with
 | true=>exact hb wh pins s1 σ H1 Q I1 q1
 | false=>exact ⟨H1,I1,q1⟩
def zq0 (ha:PT X a tA) (hb:PW X (.BoolOp .Or (b :: zbF) pos) tB'):PW X (.BoolOp .Or (a :: b :: zbF) pos) (tOr tA tB'):=by
 intro wh pins s σ H Q I h
 refine isTrue_or (thn (ha pins s σ H _ I h) fun c s1 ⟨H1,I1,q1⟩=>?_)
 cases c with
 | true=>exact ⟨H1,I1,q1⟩
 | false=>exact hb wh pins s1 σ H1 Q I1 q1
def zoE (ha:PT X a tA):PT X (.UnaryOp .Not a pos) (zse tA):=by
 intro pins s σ H Q I h
 exact isTrue_not (ha pins s σ H (fun c H1=>Q (!c) H1) I h)
def zqJ (ta tb:TE):TE:=fun σ H Q=>ta σ H fun x H1=>∃ c,x=.bl c/\if c=true then tb σ H1 Q else Q (.bl false) H1
def zoN {op} {t:TE} (h:PE X a t):PE X (.BoolOp op [a] pos) t:=fun pins s σ H Q I hw=>BoolOp_one (h pins s σ H Q I hw)
def zoT (ha:PE X a ta) (hb:PE X (.BoolOp .And (b :: zbF) pos) tb):PE X (.BoolOp .And (a :: b :: zbF) pos) (zqJ ta tb):=by
 intro pins s σ H Q I h
 refine BoolOp_and (thn (ha pins s σ H _ I h) fun v s1 ⟨x,H1,I1,r1,q1⟩=>?_)
 obtain ⟨c,rfl,q1⟩:=q1; cases r1; refine wpAny_truthy_bool ?_
 cases c with
 | true=>exact hb pins s1 σ H1 Q I1 q1
 | false=>exact ⟨.bl false,H1,I1,rfl,q1⟩
end
def SqL (K:W.Frag) (H:Hp) (a:Addr) (xs:List V):Prop :=
 Rd H a (.lst xs) \/
  ∃ (o:Obj) (its:Array Value) (n:Nat),K.lookup a=some o/\o.cls=.type "list"/\o.dict=none/\o.data=.seq its n/\its.size<=sizeLine/\za4 xs its.toList
def SqT (K:W.Frag) (H:Hp) (a:Addr) (xs:List V):Prop :=
 Rd H a (.tup xs) \/
  ∃ (o:Obj) (its:Array Value) (n:Nat),K.lookup a=some o/\o.cls=.type "tuple"/\o.data=.seq its n/\its.size<=sizeLine/\za4 xs its.toList
def zsB:Value->Option V
 | .none=>some .non
 | .bool b=>some (.bl b)
 | .int i _=>some (.int i)
 | .str x _=>some (.str x)
 | .bytes b _=>some (.byt b)
 | .float b _=>some (.flt b)
 | .ref a=>some (.ref a)
 | .type n=>some (.ty n)
 | _=>none
def zbI.abs {x:V} {u:Value} (r:zbI x u):zsB u=some x:=by
 cases x with
 | non=>cases r; rfl
 | bl _=>cases r; rfl
 | int _=>obtain ⟨t,rfl⟩:=r; rfl
 | str _=>obtain ⟨t,rfl⟩:=r; rfl
 | byt _=>obtain ⟨t,rfl⟩:=r; rfl
 | flt _=>obtain ⟨t,rfl⟩:=r; rfl
 | ref _=>cases r; rfl
 | ty _=>cases r; rfl
def zbI.inj {x y:V} {u:Value} (r:zbI x u) (q:zbI y u):x=y:=Option.some.inj (r.abs.symm.trans q.abs)
theorem za4.inj:∀ {xs ys:List V} {us:List Value},za4 xs us->za4 ys us->xs=ys
 | _,_,_,.nil,.nil=>rfl
 | _,_,_,.cons r t,.cons r' t'=>by rw [r.inj r',za4.inj t t']
section
variable {X:Cx} {pins:yyL} {σ:St} {H:Hp} {s:Shared} {a:Addr} {xs ys:List V}
def SqL.of {K:W.Frag} (h:H a=some (.lst xs)):SqL K H a xs:=.inl (.inl h)
def SqT.of {K:W.Frag} (h:H a=some (.tup xs)):SqT K H a xs:=.inl (.inl h)
def Inv.list (I:Inv X pins σ H s) (h:SqL X.K H a xs):∃ its:List Value,za4 xs its/\PlainL s.heap a its.toArray/\xs.length<=sizeLine:=by
 rcases h with h | ⟨o,its,n,hk,hc,hd,hs,hz,r⟩
 ·obtain ⟨z,its,n,r,e⟩:=h.ok I.hok
  exact ⟨its,r,⟨_,n,e,rfl,rfl,rfl⟩,z⟩
 ·refine ⟨its.toList,r,⟨o,n,I.kIn a o hk,hc,hd,by simpa using hs⟩,?_⟩
  have e:=r.length; simp only [Yc] at e; omega
def Inv.tuple (I:Inv X pins σ H s) (h:SqT X.K H a xs):∃ its:List Value,za4 xs its/\IsTup s.heap a its.toArray/\xs.length<=sizeLine:=by
 rcases h with h | ⟨o,its,n,hk,hc,hs,hz,r⟩
 ·obtain ⟨z,its,r,p⟩:=h.ok I.hok
  exact ⟨its,r,p,z⟩
 ·refine ⟨its.toList,r,⟨o,I.kIn a o hk,hc,n,by simpa using hs⟩,?_⟩
  have e:=r.length; simp only [Yc] at e; omega
def Inv.list_inj (I:Inv X pins σ H s) (h:SqL X.K H a xs) (h':SqL X.K H a ys):xs=ys:=by
 obtain ⟨its,r,⟨o,n,e,_,_,d⟩,_⟩:=I.list h
 obtain ⟨its',r',⟨o',n',e',_,_,d'⟩,_⟩:=I.list h'
 rw [e] at e'; cases e'
 rw [d] at d'
 injection d' with d1 _
 have:its=its':=by simpa using yg Array.toList d1
 subst this; exact r.inj r'
def Inv.tuple_inj (I:Inv X pins σ H s) (h:SqT X.K H a xs) (h':SqT X.K H a ys):xs=ys:=by
 obtain ⟨its,r,⟨o,e,_,n,d⟩,_⟩:=I.tuple h
 obtain ⟨its',r',⟨o',e',_,n',d'⟩,_⟩:=I.tuple h'
 rw [e] at e'; cases e'
 rw [d] at d'
 injection d' with d1 _
 have:its=its':=by simpa using yg Array.toList d1
 subst this; exact r.inj r'
end
abbrev Cx.wish (X:Cx) (E:Value->Shared->Prop):Cx:={ X with xe:=E }
abbrev Cx.nox (X:Cx):Cx:=X.wish fun _ _=>False
def Cx.Ok.wish {X:Cx} (ok:X.Ok) (E:Value->Shared->Prop):(X.wish E).Ok :=
 ⟨ok.mod,ok.kind,ok.glob,ok.blt,ok.above,ok.inj,ok.has,ok.cab,ok.hd,ok.frames,ok.stk,ok.exf,ok.bs,ok.bsz,ok.noex,ok.exfs,ok.funs,ok.frf,ok.tab⟩
def Cx.Ok.unwish {X:Cx} {E:Value->Shared->Prop} (ok:(X.wish E).Ok):X.Ok :=
 ⟨ok.mod,ok.kind,ok.glob,ok.blt,ok.above,ok.inj,ok.has,ok.cab,ok.hd,ok.frames,ok.stk,ok.exf,ok.bs,ok.bsz,ok.noex,ok.exfs,ok.funs,ok.frf,ok.tab⟩
section
variable {X:Cx} {pins:yyL} {σ:St} {H:Hp} {s:Shared} {E:Value->Shared->Prop}
def Inv.wish (I:Inv X pins σ H s) (E:Value->Shared->Prop):Inv (X.wish E) pins σ H s:=⟨I.ok.wish E,I.os,I.bare,I.base,I.loc,I.cell,I.free,I.freeC,I.pin,I.hok,I.len⟩
def Inv.unwish (I:Inv (X.wish E) pins σ H s):Inv X pins σ H s:=⟨I.ok.unwish,I.os,I.bare,I.base,I.loc,I.cell,I.free,I.freeC,I.pin,I.hok,I.len⟩
def SP.unwish {D:Ends} {f:Flow} {s':Shared} (h:SP (X.wish E) pins D f s'):SP X pins D f s':=by
 cases f with
 | next=>obtain ⟨σ',H',I,q⟩:=h; exact ⟨σ',H',I.unwish,q⟩
 | brk=>obtain ⟨σ',H',I,q⟩:=h; exact ⟨σ',H',I.unwish,q⟩
 | cont=>obtain ⟨σ',H',I,q⟩:=h; exact ⟨σ',H',I.unwish,q⟩
 | ret u=>obtain ⟨v,σ',H',I,r,q⟩:=h; exact ⟨v,σ',H',I.unwish,r,q⟩
def PSs.nox {st:List Stmt} {t:TS} (h:PSs X.nox st t):PSs X st t:=fun pins s σ H D I hw =>
 ym (h pins s σ H D (I.wish _) hw) (fun _ _ q=>q.unwish) fun _ _ z=>False.elim z
end
section
variable {X:Cx} {st:Stmt} {zbF:List Stmt} {t u:TS} {e:Expr} {te:TE} {pos:Pos}
def zqE:TS:=fun D σ H=>D.nx σ H
def zsc (t u:TS):TS:=fun D σ H=>t { D with nx:=u D } σ H
def ziR:PSs X [] zqE:=fun _ _ σ H _ I h=>Yj ⟨σ,H,I,h⟩
def zbZ (h1:PS X st t) (h2:PSs X zbF u):PSs X (st :: zbF) (zsc t u):=by
 intro pins s σ H D I h
 refine wpAny_execs_cons (thn (h1 pins s σ H { D with nx:=u D } I h) fun f s1 q=>?_)
 cases f with
 | next =>
  obtain ⟨σ',H',I',q⟩:=q; exact h2 pins s1 σ' H' D I' q
 | ret v=>exact q
 | brk=>exact q
 | cont=>exact q
def zcl (h1:PS X st t):PSs X [st] t:=by
 intro pins s σ H D I h
 refine wpAny_execs_cons (thn (h1 pins s σ H D I h) fun f s1 q=>?_)
 cases f with
 | next=>exact Yj q
 | ret v=>exact q
 | brk=>exact q
 | cont=>exact q
def Inv.quiet {pins:yyL} {σ:St} {H:Hp} {s:Shared} (I:Inv X pins σ H s):interactive X.env=false:=by simp [interactive,I.ok.kind]
def zqH (te:TE):TS:=fun D σ H=>te σ H fun _ H1=>D.nx σ H1
def zdM (he:PE X e te) (hs:swapsWith e none pos.line X.env=pure false:=by rfl):PS X (.Expr e pos) (zqH te):=by
 intro pins s σ H D I h
 exact wpAny_Expr_any (thn (he pins s σ H _ I h) fun v s1 ⟨x,H1,I1,r1,q1⟩=>⟨σ,H1,I1,q1⟩) I.quiet hs
def zsd (te:TE):TS:=fun D σ H=>te σ H D.rt
def ziT (he:PE X e te):PS X (.Return (some e) pos) (zsd te):=by
 intro pins s σ H D I h
 exact wpAny_Return_some (thn (he pins s σ H _ I h) fun v s1 ⟨x,H1,I1,r1,q1⟩=>⟨x,σ,H1,I1,r1,q1⟩)
def zsg (c:TT) (t u:TS):TS:=fun D σ H=>c σ H fun b H1=>if b=true then t D σ H1 else u D σ H1
def zoG {c:Expr} {a b:List Stmt} {tc:TT} (hc:PT X c tc) (ha:PSs X a t) (hb:PSs X b u):PS X (.If c a b pos) (zsg tc t u):=by
 intro pins s σ H D I h
 refine wpAny_If (thn (hc pins s σ H _ I h) fun d s1 ⟨H1,I1,q1⟩=>?_)
 cases d with
 | true=>exact ha pins s1 σ H1 D I1 q1
 | false=>exact hb pins s1 σ H1 D I1 q1
end
abbrev TG:=V->St->Hp->(St->Hp->Prop)->Prop
abbrev TGs:=List V->St->Hp->(St->Hp->Prop)->Prop
def PG (X:Cx) (target:Expr) (t:TG):Prop :=
 ∀ (pins:yyL) (s:Shared) (σ:St) (H:Hp) (v:V) (u:Value) (Q:St->Hp->Prop),Inv X pins σ H s->zbI v u->t v σ H Q ->
  wpAny (model X.prog X.w) X.A (assign target X.env u) (fun _ s'=>∃ σ' H',Inv X pins σ' H' s'/\Q σ' H') X.xe s
def PGs (X:Cx) (ts:List Expr) (t:TGs):Prop :=
 ∀ (pins:yyL) (s:Shared) (σ:St) (H:Hp) (vs:List V) (us:List Value) (Q:St->Hp->Prop),Inv X pins σ H s->za4 vs us->t vs σ H Q ->
  wpAny (model X.prog X.w) X.A (assignInOrder ((assignEach ts X.env).map (·.2)) us) (fun _ s'=>∃ σ' H',Inv X pins σ' H' s'/\Q σ' H') X.xe s
section
variable {X:Cx} {pos:Pos}
def zpo (i:Nat):TG:=fun v σ H Q=>Q (σ.set i (some v)) H
def zeh {i:Nat} {x:Str} (hN:X.N.Nodup) (hi:X.N[i]?=some x) (hx:Loc X.env.scope x) (hf:X.fn x=true\/X.env.scope.names.lookup x=some .local:=by first | exact .inl rfl | exact .inr rfl | assumption):PG X (.Name x pos) (zpo i):=by
 intro pins s σ H v u Q I r h
 exact wpAny_assign_Name (zd0 I hN hi hx r (fun s' I'=>⟨_,H,I',h⟩) hf)
def zsz:TGs:=fun vs σ H Q=>vs=[]/\Q σ H
def zro (t:TG) (u:TGs):TGs:=fun vs σ H Q=>∃ v r,vs=v :: r/\t v σ H fun σ' H'=>u r σ' H' Q
def ziZ:PGs X [] zsz:=by
 intro pins s σ H vs us Q I r h; obtain ⟨e,h⟩:=h; subst e; cases r; exact assignInOrder_nil ⟨σ,H,I,h⟩
def zdq {e:Expr} {es:List Expr} {t:TG} {u:TGs} (h1:PG X e t) (h2:PGs X es u)
  (hs:(assignEach (e :: es) X.env).map (·.2)=assign e X.env :: (assignEach es X.env).map (·.2):=by rfl):PGs X (e :: es) (zro t u):=by
 intro pins s σ H vs us Q I r h; obtain ⟨v,vr,e1,h⟩:=h; subst e1
 cases r with
 | cons r rr =>
  rw [hs]
  refine assignInOrder_cons (thn (h1 pins s σ H _ _ _ I r h) fun _ s1 ⟨σ1,H1,I1,q1⟩=>?_)
  exact h2 pins s1 σ1 H1 _ _ Q I1 rr q1
def zr0 (K:W.Frag) (n:Nat) (t:TGs):TG:=fun v σ H Q=>∃ a xs,v=.ref a/\SqT K H a xs/\xs.length=n/\t xs σ H Q
def zlM {es:List Expr} {k:Nat} {t:TGs} {n:Nat} (hc:X.calm=true) (h:PGs X es t)
  (hn:(assignEach es X.env).length=n:=by rfl) (hst:(assignEach es X.env).findIdx? (·.1)=none:=by rfl):PG X (.Tuple es k pos) (zr0 X.K n t):=by
 intro pins s σ H v u Q I r hw; obtain ⟨a,xs,e1,hq,hl,hw⟩:=hw; subst e1; cases r; obtain ⟨its,rv,ht,hz⟩:=I.tuple hq
 refine assign_Tuple_tuple (I.ok.hd hc) ht (by simp [hn,<- hl,rv.length]) hst fun h' hx=>?_
 have I1:Inv X pins σ H { s with heap:=h' }:=I.kept (t':=s.toks) fun b o e=>hx b o (yP (yH e)) e
 exact h pins _ σ H xs _ Q I1 (by simpa using rv) hw
def zsj (te:TE) (g:TG):TS:=fun D σ H=>te σ H fun x H1=>g x σ H1 D.nx
def zhb {i:Nat} {x:Str} {e:Expr} {te:TE} {pos':Pos} (hN:X.N.Nodup) (hi:X.N[i]?=some x) (hx:Loc X.env.scope x) (he:PE X e te) (hs:swapsWith e (some (.Name x pos')) pos.line X.env=pure false:=by rfl) (hf:X.fn x=true\/X.env.scope.names.lookup x=some .local:=by first | exact .inl rfl | exact .inr rfl | assumption) :
  PS X (.Assign [.Name x pos'] e pos) (zsj te (zpo i)):=by
 intro pins s σ H D I h
 refine wpAny_Assign_Name (thn (he pins s σ H _ I h) fun v s1 ⟨y,H1,I1,r1,q1⟩=>?_) hs
 exact zd0 I1 hN hi hx r1 (fun s2 I2=>⟨_,H1,I2,q1⟩) hf
end
structure It where
 go:Nat->Hp->Prop
 yld:Nat->Hp->V->Hp->Prop
 stop:Nat->Hp->Prop
def zdf (X:Cx) (pins:yyL) (H:Hp) (b:Addr):Prop :=
 H b=none/\b≠X.env.locals/\b ∉ X.fs/\(b ∈ X.ex\/X.s₀.heap.objs.size<=b)/\(∀ x c,X.env.cells.lookup x=some c->c≠b)/\∀ p ∈ X.pn ++ pins,p.1≠b
def Inv.fpOk {X:Cx} {pins:yyL} {σ:St} {H H':Hp} {s:Shared} {b:Addr} (I:Inv X pins σ H s) (hb:s.heap.objs.size<=b) (hn:H' b=none):zdf X pins H' b:=by
 refine ⟨hn,Nat.ne_of_gt (yM I.lt hb),I.nofs hb,.inr (yj I.sz hb),fun x c e z=>?_,fun p hp z=>?_⟩
 ·obtain ⟨v,q⟩:=I.cell x c e
  exact yU (yM q.lt (by rw [z]; exact hb)) (YR _)
 ·exact yU (yM (yH (I.pin p hp).1) (by rw [z]; exact hb)) (YR _)
structure Turn (P:Program) (w:World) (K:W.Frag) (tg:Expr) (J:It) (fp:List Addr) (it:Addr) (tn:Nat->Heap->Prop):Prop where
 mem:it ∈ fp
 obj:∀ i h,tn i h->∀ b ∈ fp,∃ o,h.get? b=some o/\∀ v,o.data≠.cell v
 keep:∀ i h h',tn i h->(∀ b ∈ fp,∀ o,h.get? b=some o->h'.get? b=some o)->tn i h'
 item:∀ (X:Cx),X.prog=P->X.w=w->X.K=K->X.calm=true->∀ (i:Nat) (pins:yyL) (s:Shared) (σ:St) (H:Hp) (E:Value->Shared->Prop),Inv X pins σ H s->(∀ b ∈ fp,zdf X pins H b)->tn i s.heap->J.go i H ->
  wpAny (model P w) X.A (pyNext (.ref it)) (fun r s1=>∃ u,r=some u /\
   wpAny (model P w) X.A (letOwnedTupleGo tg (.ref it) u) (fun _ s2=>∃ x H',Inv X pins σ H' s2/\zbI x u/\J.yld i H x H'/\tn (i+1) s2.heap/\∀ b ∈ fp,H' b=none) E s1) E s
 done:∀ (X:Cx),X.prog=P->X.w=w->X.K=K->X.calm=true->∀ (i:Nat) (pins:yyL) (s:Shared) (σ:St) (H:Hp) (E:Value->Shared->Prop),Inv X pins σ H s->(∀ b ∈ fp,zdf X pins H b)->tn i s.heap->J.stop i H ->
  wpAny (model P w) X.A (pyNext (.ref it)) (fun r s1=>r=none/\Inv X pins σ H s1) E s
 self:∀ (A:Around) (i:Nat) (s:Shared) (Q:Value->Shared->Prop) (E:Value->Shared->Prop),tn i s.heap->Q (.ref it) s->wpAny (model P w) A (pyIter (.ref it)) Q E s
abbrev TI:=St->Hp->(It->Hp->Prop)->Prop
def PIE (X:Cx) (pins:yyL) (σ:St) (tg:Expr) (R:It->Hp->Prop) (itv:Value) (s2:Shared):Prop :=
 ∃ (it:Addr) (fp:List Addr) (tn:Nat->Heap->Prop) (J:It) (H':Hp),itv=.ref it/\Inv X pins σ H' s2/\Turn X.prog X.w X.K tg J fp it tn/\tn 0 s2.heap/\(∀ b ∈ fp,zdf X pins H' b)/\R J H'
def PI (X:Cx) (tg iter:Expr) (wi:TI):Prop :=
 ∀ (pins:yyL) (s:Shared) (σ:St) (H:Hp) (R:It->Hp->Prop),Inv X pins σ H s->wi σ H R ->
  wpAny (model X.prog X.w) X.A (eval iter X.env) (fun v s1=>wpAny (model X.prog X.w) X.A (pyIter v) (PIE X pins σ tg R) X.xe s1) X.xe s
def zjr {M:Model} {A:Around} {E:Value->Shared->Prop} {s:Shared} {tg:Expr} {it:Addr} {u:Value} {o:Obj} {n:String} {vs:Array Value} {Q:Unit->Shared->Prop} (ho:s.heap.get? it=some o) (hc:o.cls=.type n) (hd:o.data=.fields vs)
    (hn:["enumerate","zip","dict_itemiterator","dict_reverseitemiterator","odict_iterator","itertools.zip_longest","itertools.pairwise"].contains n=false) (hQ:Q () s):wpAny M A (letOwnedTupleGo tg (.ref it) u) Q E s:=by
  unfold letOwnedTupleGo
  cases tg <;> first
    | exact yG hQ
    | (cases u <;> first
        | exact yG hQ
        | (refine yA (wpAny_load ho ?_)
           rw [hc,hd]
           show wpAny M A (if (["enumerate","zip","dict_itemiterator","dict_reverseitemiterator","odict_iterator","itertools.zip_longest","itertools.pairwise"].contains n && vs[0]? == some (rawInt _))=true then _ else _) Q E s
           rw [yS (by intro h; rw [hn,Bool.false_and] at h; cases h)]
           exact yG hQ))
def Itl (K:W.Frag) (a:Addr):It :=
 ⟨fun i H=>∃ xs x,SqL K H a xs/\xs[i]?=some x,fun i H x H'=>H'=H/\∀ xs,SqL K H a xs->xs[i]?=some x,fun i H=>∃ xs,SqL K H a xs/\xs.length<=i⟩
def Itt (K:W.Frag) (a:Addr):It :=
 ⟨fun i H=>∃ xs x,SqT K H a xs/\xs[i]?=some x,fun i H x H'=>H'=H/\∀ xs,SqT K H a xs->xs[i]?=some x,fun i H=>∃ xs,SqT K H a xs/\xs.length<=i⟩
def Itr (lo:Int) (n:Nat):It:=⟨fun i _=>i<n,fun i H x H'=>H'=H/\x=.int (lo+i),fun i _=>n<=i⟩
def zfE {P:Program} {w:World} {K:W.Frag} {tg:Expr} (a it:Addr):Turn P w K tg (Itl K a) [it] it (fun i h=>h.IsListIter it a i) where
 mem:=by simp
 obj:=fun i h st b hb=>by
  have e:b=it:=by simpa using hb
  subst e; obtain ⟨o,e,c,d⟩:=st
  exact ⟨o,e,fun v z=>by rw [d] at z; cases z⟩
 keep:=fun i h h' st k=>st.at fun o e=>k it (by simp) o e
 item:=by
  intro X hP hw hK hc i pins s σ H E I hf st hg
  subst hP hw hK
  obtain ⟨xs,x,hq,hx⟩:=hg; obtain ⟨its,rv,p,hz⟩:=I.list hq; obtain ⟨u,hu,ru⟩:=rv.get hx
  obtain ⟨f0,f1,f2,f3,f4,f5⟩:=hf it (by simp)
  refine wpAny_pyNext_list_item st p.isList (x:=u) (by simpa using hu) fun h' st' sb=>?_
  have I1:Inv X pins σ H { s with heap:=h' }:=I.turned (t':=s.toks) (fun b o hb e=>(sb.2 b hb).trans e) f0 f1 f3 f4 f5
  obtain ⟨o,e,c,d⟩:=id st'
  exact ⟨u,rfl,zjr (s:={ s with heap:=h' }) e c d (by decide) ⟨x,H,I1,ru,⟨rfl,fun ys hy=>by rw [I.list_inj hy hq]; exact hx⟩,st',fun b hb=>(hf b hb).1⟩⟩
 done:=by
  intro X hP hw hK hc i pins s σ H E I hf st hg
  subst hP hw hK
  obtain ⟨xs,hq,hx⟩:=hg; obtain ⟨its,rv,p,hz⟩:=I.list hq
  obtain ⟨f0,f1,f2,f3,f4,f5⟩:=hf it (by simp)
  have hl:=rv.length
  exact wpAny_pyNext_list_end (I.ok.hd hc) st p.isList (by simp; omega) fun h' eb=>⟨rfl,I.turned (t':=s.toks) (fun b o hb e=>eb b o hb e) f0 f1 f3 f4 f5⟩
 self:=fun _ _ _ _ _ st h=>wpAny_pyIter_listiter st h
def zhE {P:Program} {w:World} {K:W.Frag} {tg:Expr} (a it:Addr):Turn P w K tg (Itt K a) [it] it (fun i h=>h.IsTupleIter it a i) where
 mem:=by simp
 obj:=fun i h st b hb=>by
  have e:b=it:=by simpa using hb
  subst e; obtain ⟨o,e,c,d⟩:=st
  exact ⟨o,e,fun v z=>by rw [d] at z; cases z⟩
 keep:=fun i h h' st k=>st.at fun o e=>k it (by simp) o e
 item:=by
  intro X hP hw hK hc i pins s σ H E I hf st hg
  subst hP hw hK
  obtain ⟨xs,x,hq,hx⟩:=hg; obtain ⟨its,rv,p,hz⟩:=I.tuple hq; obtain ⟨u,hu,ru⟩:=rv.get hx
  obtain ⟨f0,f1,f2,f3,f4,f5⟩:=hf it (by simp)
  refine wpAny_pyNext_tuple_item st (show s.heap.IsTuple a its.toArray from p) (x:=u) (by simpa using hu) fun h' st' sb=>?_
  have I1:Inv X pins σ H { s with heap:=h' }:=I.turned (t':=s.toks) (fun b o hb e=>(sb.2 b hb).trans e) f0 f1 f3 f4 f5
  obtain ⟨o,e,c,d⟩:=id st'
  exact ⟨u,rfl,zjr (s:={ s with heap:=h' }) e c d (by decide) ⟨x,H,I1,ru,⟨rfl,fun ys hy=>by rw [I.tuple_inj hy hq]; exact hx⟩,st',fun b hb=>(hf b hb).1⟩⟩
 done:=by
  intro X hP hw hK hc i pins s σ H E I hf st hg
  subst hP hw hK
  obtain ⟨xs,hq,hx⟩:=hg; obtain ⟨its,rv,p,hz⟩:=I.tuple hq
  obtain ⟨f0,f1,f2,f3,f4,f5⟩:=hf it (by simp)
  have hl:=rv.length
  exact wpAny_pyNext_tuple_end (I.ok.hd hc) st (show s.heap.IsTuple a its.toArray from p) (by simp; omega) fun h' eb=>⟨rfl,I.turned (t':=s.toks) (fun b o hb e=>eb b o hb e) f0 f1 f3 f4 f5⟩
 self:=fun _ _ _ _ _ st h=>wpAny_pyIter_tupleiter st h
def zhF {P:Program} {w:World} {K:W.Frag} {tg:Expr} (it:Addr) (lo:Int) (n:Nat):Turn P w K tg (Itr lo n) [it] it (fun i h=>IsRangeIter h it (lo+(i:Nat) * 1) ((n:Int)-(i:Nat)) 1) where
 mem:=by simp
 obj:=fun i h st b hb=>by
  have e:b=it:=by simpa using hb
  subst e
  exact ⟨_,st,fun v z=>by
   have z':Data.fields _=Data.cell v:=z
   cases z'⟩
 keep:=fun i h h' st k=>k it (by simp) _ st
 item:=by
  intro X hP hw hK hc i pins s σ H E I hf st hg
  subst hP hw hK
  obtain ⟨f0,f1,f2,f3,f4,f5⟩:=hf it (by simp)
  have W:=Walks.range (prog:=X.prog) (w:=X.w) (I.ok.hd hc) it lo 1 n
  refine W.item i s _ _ hg st fun v h' tk hv st' kk=>?_
  obtain ⟨t,rfl⟩:=hv
  have I1:Inv X pins σ H { s with heap:=h',toks:=tk }:=I.turned (fun b o hb e=>kk b o (by simpa using hb) e) f0 f1 f3 f4 f5
  refine ⟨_,rfl,zjr (s:={ s with heap:=h',toks:=tk }) (n:="range_iterator") st' rfl rfl (by decide) ⟨.int (lo+i),H,I1,⟨t,?_⟩,⟨rfl,rfl⟩,st',fun b hb=>(hf b hb).1⟩⟩
  rw [Int.mul_one]
 done:=by
  intro X hP hw hK hc i pins s σ H E I hf st hg
  subst hP hw hK
  obtain ⟨f0,f1,f2,f3,f4,f5⟩:=hf it (by simp)
  exact wpAny_pyNext_range_end (I.ok.hd hc) st (by have:n<=i:=hg; omega) fun h' eb=>⟨rfl,I.turned (t':=s.toks) (fun b o hb e=>eb b o hb e) f0 f1 f3 f4 f5⟩
 self:=fun _ _ _ _ _ st h=>wpAny_pyIter_rangeiter st h
section
variable {X:Cx} {tg:Expr}
def zrm (K:W.Frag) (tl:TE):TI:=fun σ H R=>tl σ H fun x H1=>∃ a,x=.ref a/\(∃ xs,SqL K H1 a xs)/\R (Itl K a) H1
def zmW {l:Expr} {tl:TE} (hl:PE X l tl):PI X tg l (zrm X.K tl):=by
 intro pins s σ H R I h
 refine thn (hl pins s σ H _ I h) fun v s1 ⟨x,H1,I1,r1,q1⟩=>?_
 obtain ⟨a,e,⟨xs,hq⟩,q⟩:=q1
 subst e; cases r1; obtain ⟨its,rv,p,hz⟩:=I1.list hq; refine wpAny_pyIter_list p.isList ?_
 refine ⟨s1.heap.objs.size,[s1.heap.objs.size],_,_,H1,rfl,I1.kept (t':=s1.toks) fun b o e=>yC _ e,zfE a _,⟨_,yI _ rfl,rfl,rfl⟩,fun b hb=>?_,q⟩
 have e:b=s1.heap.objs.size:=by simpa using hb
 subst e; exact I1.fpOk (yJ _) (I1.hok.fresh (yJ _))
def zkq {pins:yyL} {σ:St} {H:Hp} {s:Shared} {R:It->Hp->Prop} {E:Value->Shared->Prop} {lo hi:Int} {t u v:Tok} {tk:Nat} (I:Inv X pins σ H s) (h1:-(2 ^ 62)<=lo) (h2:lo<2 ^ 62) (h3:-(2 ^ 62)<=hi) (h4:hi<2 ^ 62)
  (q:R (Itr lo (hi-lo).toNat) H):wpAny (model X.prog X.w) X.A (pyIter (.ref s.heap.objs.size)) (PIE X pins σ tg R) E { s with heap:=s.heap.push { cls:=.type "range",data:=.fields #[.int lo t,.int hi u,.int 1 v] },toks:=tk }:=by
 refine wpAny_pyIter_range (IsRange.new ..) (small_one h1 h2 h3 h4) ?_
 have I1:Inv X pins σ H { s with heap:=s.heap.push { cls:=.type "range",data:=.fields #[.int lo t,.int hi u,.int 1 v] },toks:=tk }:=I.kept fun b o e=>yC _ e
 refine ⟨(s.heap.push { cls:=.type "range",data:=.fields #[.int lo t,.int hi u,.int 1 v] }).objs.size,[(s.heap.push { cls:=.type "range",data:=.fields #[.int lo t,.int hi u,.int 1 v] }).objs.size],_,_,H,rfl,
  I1.kept (t':=tk) fun b o e=>yC _ e,zhF _ lo (hi-lo).toNat,?_,fun b hb=>?_,q⟩
 ·have e1:lo+((0:Nat):Int) * 1=lo:=by simp
  have e2:(((hi-lo).toNat:Nat):Int)-((0:Nat):Int)=Builtin.Range.rangeSize lo hi 1:=by rw [rangeSize_one]; split <;> omega
  show IsRangeIter _ _ (lo+((0:Nat):Int) * 1) ((((hi-lo).toNat:Nat):Int)-((0:Nat):Int)) 1
  rw [e1,e2]; exact yI _ rfl
 ·have e:b=(s.heap.push { cls:=.type "range",data:=.fields #[.int lo t,.int hi u,.int 1 v] }).objs.size:=by simpa using hb
  subst e; exact I1.fpOk (yJ _) (I1.hok.fresh (yJ _))
def zrl (ta:TA):TI:=fun σ H R=>ta σ H fun vs H1=>∃ j:Int,vs=[.int j]/\-(2 ^ 62)<=j/\j<2 ^ 62/\R (Itr 0 j.toNat) H1
def ziY {a:Expr} {ta:TA} {p pos:Pos} (hg:Gl X "range") (hm:X.mg "range"=none) (ha:PA X [a] ta) (hs:starEach [a] X.env=[(false,eval a X.env)]:=by rfl):PI X tg (.Call (.Name "range" p) [a] [] pos) (zrl ta):=by
 intro pins s σ H R I h
 refine Call_ (zeT I hg hm boot_range (Yl (thn (ha pos pins s σ H _ I h) fun us s1 ⟨vs,H1,I1,r1,q1⟩=>?_) hs rfl))
 obtain ⟨j,e,q1,q2,q⟩:=q1; subst e
 cases r1 with
 | cons r rr =>
  cases rr; obtain ⟨t,rfl⟩:=r
  exact call_range_1 (zkq I1 (by omega) (by omega) q1 q2 (by simpa using q))
def zrK (wi:TI) (g:TG) (tb:TS):TS:=fun D σ H=>wi σ H fun J H1=>∃ W:Nat->Nat->St->Hp->Prop,(∃ m,W 0 m σ H1)/\∀ i m σ H,W i m σ H ->
 (J.stop i H/\D.nx σ H)\/(J.go i H/\∃ N:St->Hp->Prop,(∀ σ' H',N σ' H'->∃ m',m'<m/\W (i+1) m' σ' H')/\∀ x H',J.yld i H x H'->g x σ H' fun σ2 H2=>tb { D with nx:=N,ct:=N,bk:=D.nx } σ2 H2)
def zeg (fp:List Addr) (h:Heap):yyL:=fp.filterMap fun b=>(h.get? b).map fun o=>(b,o)
def zb8 {fp:List Addr} {h:Heap} {b:Addr} {o:Obj} (hb:b ∈ fp) (e:h.get? b=some o):(b,o) ∈ zeg fp h:=List.mem_filterMap.mpr ⟨b,hb,by rw [e]; rfl⟩
def zi8 {fp:List Addr} {h:Heap} {p:Addr × Obj} (hp:p ∈ zeg fp h):p.1 ∈ fp/\h.get? p.1=some p.2:=by
 obtain ⟨b,hb,e⟩:=List.mem_filterMap.mp hp
 cases q:h.get? b with
 | none=>rw [q] at e; cases e
 | some o =>
  rw [q] at e
  have e':(b,o)=p:=Option.some.inj e
  subst e'
  exact ⟨hb,q⟩
def Inv.pinned {pins:yyL} {σ:St} {H:Hp} {s:Shared} {fp:List Addr} (I:Inv X pins σ H s) (hf:∀ b ∈ fp,zdf X pins H b) (ho:∀ b ∈ fp,∃ o,s.heap.get? b=some o/\∀ v,o.data≠.cell v):Inv X (pins ++ zeg fp s.heap) σ H s :=
 I.pins_of fun p hp=>(YL.mp hp).elim (fun z=>I.pin p (yb _ z)) fun z=>by
  obtain ⟨hb,e⟩:=zi8 z; obtain ⟨f0,f1,f2,_⟩:=hf p.1 hb; obtain ⟨o,e',d⟩:=ho p.1 hb
  rw [e] at e'; cases e'
  exact ⟨e,f0,f1,f2,d⟩
def Inv.unpinned {pins pl:yyL} {σ:St} {H:Hp} {s:Shared} (I:Inv X (pins ++ pl) σ H s):Inv X pins σ H s:=I.pins_of fun p hp=>I.pin p (yb _ (List.mem_append_left _ hp))
def zoH {iter:Expr} {body:List Stmt} {wi:TI} {g:TG} {tb:TS} {pos:Pos} (hp:PassesOwn (model X.prog X.w) X.A X.env X.xe) (hc:X.calm=true) (hi:PI X tg iter wi) (hg:PG X tg g) (hb:PSs X body tb)
  (hs:∀ x,foldedSetIterable iter X.env x=pure x:=by intro _; rfl):PS X (.For tg iter body [] pos) (zrK wi g tb):=by
 intro pins s σ H D I h
 refine wpAny_For (thn (hi pins s σ H _ I h) fun v s1 h1=>thn h1 fun itv s2 h2=>?_) hs
 obtain ⟨it,fp,tn,J,H2,e,I2,T,st2,f2,W,⟨m0,w0⟩,turn⟩:=h2
 subst e
 -- what stays true of the iterator's objects through the loop
 have stat:∀ {H':Hp},(∀ b ∈ fp,H' b=none)->∀ b ∈ fp,zdf X pins H' b:=fun hn b hb=>⟨hn b hb,(f2 b hb).2⟩
 refine codeAny_forLoop_any (fun n s'=>∃ i σ' H',Inv X pins σ' H' s'/\tn i s'.heap/\(∀ b ∈ fp,H' b=none)/\W i n σ' H') ?_ m0 ⟨0,σ,H2,I2,st2,fun b hb=>(f2 b hb).1,w0⟩
 rintro n s3 ⟨i,σ3,H3,I3,st3,fr3,w3⟩
 rcases turn i n σ3 H3 w3 with ⟨stop,qn⟩ | ⟨go,N,hN,step⟩
 ·refine wpAny_passesOwn hp (thn (T.done X rfl rfl rfl hc i pins s3 σ3 H3 X.xe I3 (stat fr3) st3 stop) fun r s4 ⟨hr,I4⟩=>?_)
  subst hr; exact Yj ⟨σ3,H3,I4,qn⟩
 ·refine wpAny_passesOwn hp (thn (T.item X rfl rfl rfl hc i pins s3 σ3 H3 X.xe I3 (stat fr3) st3 go) fun r s4 ⟨u,hr,h4⟩=>?_)
  subst hr
  refine wpAny_passesOwn hp (thn h4 fun _ s5 ⟨x,H5,I5,r5,y5,st5,fr5⟩=>?_)
  have I5':=I5.pinned (stat fr5) (T.obj _ _ st5)
  refine wpAny_passesOwn hp (thn (hg _ s5 σ3 H5 x u _ I5' r5 (step x H5 y5)) fun _ s6 ⟨σ6,H6,I6,q6⟩=>?_)
  refine wpAny_passesOwn hp (thn (hb _ s6 σ6 H6 _ I6 q6) fun f s7 q7=>?_)
  have again:∀ {σ7:St} {H7:Hp},Inv X (pins ++ zeg fp s5.heap) σ7 H7 s7->N σ7 H7->∃ m,m<n/\∃ i σ' H',Inv X pins σ' H' s7/\tn i s7.heap/\(∀ b ∈ fp,H' b=none)/\W i m σ' H':=fun {σ7 H7} I7 n7=>by
   obtain ⟨m',hm,w7⟩:=hN σ7 H7 n7
   refine ⟨m',hm,i+1,σ7,H7,I7.unpinned,T.keep _ _ _ st5 fun b hb o e=>(I7.pin (b,o) (yb _ (yb _ (zb8 hb e)))).1,fun b hb=>?_,w7⟩
   obtain ⟨o,e,d⟩:=T.obj _ _ st5 b hb; exact (I7.pin (b,o) (yb _ (yb _ (zb8 hb e)))).2.1
  cases f with
  | next=>obtain ⟨σ7,H7,I7,n7⟩:=q7; exact again I7 n7
  | cont=>obtain ⟨σ7,H7,I7,n7⟩:=q7; exact again I7 n7
  | brk=>obtain ⟨σ7,H7,I7,q7⟩:=q7; exact ⟨σ7,H7,I7.unpinned,q7⟩
  | ret v=>obtain ⟨x7,σ7,H7,I7,r7,q7⟩:=q7; exact ⟨x7,σ7,H7,I7.unpinned,r7,q7⟩
end
abbrev R2:=V->V->Hp->VK->Prop
def OpR (X:Cx) (f:Value->Value->Sem Value) (r:R2):Prop :=
 ∀ (pins:yyL) (s:Shared) (σ:St) (H:Hp) (x y:V) (v u:Value) (Q:VK),Inv X pins σ H s->zbI x v->zbI y u->r x y H Q ->
  wpAny (model X.prog X.w) X.A (f v u) (EP X pins σ Q) X.xe s
def UnR (X:Cx) (f:Value->Sem Value) (r:V->Hp->VK->Prop):Prop :=
 ∀ (pins:yyL) (s:Shared) (σ:St) (H:Hp) (x:V) (v:Value) (Q:VK),Inv X pins σ H s->zbI x v->r x H Q ->
  wpAny (model X.prog X.w) X.A (f v) (EP X pins σ Q) X.xe s
def zcp (X:Cx) (f:Value) (r:List V->Hp->VK->Prop):Prop :=
 ∀ (pins:yyL) (s:Shared) (σ:St) (H:Hp) (xs:List V) (us:List Value) (Q:VK),Inv X pins σ H s->za4 xs us->r xs H Q ->
  wpAny (model X.prog X.w) X.A (call f us) (EP X pins σ Q) X.xe s
def tOp (r:R2) (ta tb:TE):TE:=fun σ H Q=>ta σ H fun x H1=>tb σ H1 fun y H2=>r x y H2 Q
def tUn (r:V->Hp->VK->Prop) (ta:TE):TE:=fun σ H Q=>ta σ H fun x H1=>r x H1 Q
def rI (C:Int->Int->Prop) (g:Int->Int->V):R2:=fun x y H Q=>∃ i j,x=.int i/\y=.int j/\C i j/\Q (g i j) H
def rI0 (g:Int->Int->V):R2:=fun x y H Q=>∃ i j,x=.int i/\y=.int j/\Q (g i j) H
def rU (g:Int->V):V->Hp->VK->Prop:=fun x H Q=>∃ i,x=.int i/\Q (g i) H
section
variable {X:Cx} {a b c:Expr} {ta tb tc:TE} {pos:Pos}
def zrD (ha:PE X a ta) (hb:PE X b tb) {pins:yyL} {s:Shared} {σ:St} {H:Hp} {R:V->V->Hp->Prop} (I:Inv X pins σ H s)
  (h:ta σ H fun x H1=>tb σ H1 fun y H2=>R x y H2) {Q:Value->Shared->Prop} {f:Value->Value->Sem Value}
  (hf:∀ v u s2 x y H2,Inv X pins σ H2 s2->zbI x v->zbI y u->R x y H2->wpAny (model X.prog X.w) X.A (f v u) Q X.xe s2) :
  wpAny (model X.prog X.w) X.A (eval a X.env) (fun v s₁=>wpAny (model X.prog X.w) X.A (eval b X.env) (fun u s₂=>wpAny (model X.prog X.w) X.A (f v u) Q X.xe s₂) X.xe s₁) X.xe s:=by
 refine thn (ha pins s σ H _ I h) fun v s1 ⟨x,H1,I1,r1,q1⟩=>?_
 refine thn (hb pins s1 σ H1 _ I1 q1) fun u s2 ⟨y,H2,I2,r2,q2⟩=>?_
 exact hf v u s2 x y H2 I2 r1 r2 q2
def zoM {op:Operator} {r:R2} (ho:OpR X (binaryOp op) r) (ha:PE X a ta) (hb:PE X b tb):PE X (.BinOp a op b pos) (tOp r ta tb):=by
 intro pins s σ H Q I h
 exact wpAny_BinOp (zrD ha hb I h fun v u s2 x y H2 I2 rx ry q=>ho pins s2 σ H2 x y v u Q I2 rx ry q)
def zoK {op:UnaryOp} {r:V->Hp->VK->Prop} (ho:UnR X (unaryOp op) r) (ha:PE X a ta):PE X (.UnaryOp op a pos) (tUn r ta):=by
 intro pins s σ H Q I h
 exact UnaryOp_ (thn (ha pins s σ H _ I h) fun v s1 ⟨x,H1,I1,r1,q1⟩=>ho pins s1 σ H1 x v Q I1 r1 q1)
def opI {f:Value->Value->Sem Value} {C:Int->Int->Prop} {g:Int->Int->Int}
  (rule:∀ (i j:Int) (t u:Tok) (s:Shared) (Q:Value->Shared->Prop) (E:Value->Shared->Prop),C i j->Q (.int (g i j) s.toks) { s with toks:=s.toks+1 }->wpAny (model X.prog X.w) X.A (f (.int i t) (.int j u)) Q E s) :
  OpR X f (rI C fun i j=>.int (g i j)):=by
 intro pins s σ H x y v u Q I rx ry h; obtain ⟨i,j,rfl,rfl,hc,q⟩:=h; obtain ⟨t,rfl⟩:=rx; obtain ⟨t',rfl⟩:=ry; exact rule i j t t' s _ _ hc ⟨.int (g i j),H,I.tok _,⟨_,rfl⟩,q⟩
def zrU {f:Value->Value->Sem Value} {g:Int->Int->Int}
  (rule:∀ (i j:Int) (t u:Tok) (s:Shared) (Q:Value->Shared->Prop) (E:Value->Shared->Prop),Q (.int (g i j) s.toks) { s with toks:=s.toks+1 }->wpAny (model X.prog X.w) X.A (f (.int i t) (.int j u)) Q E s) :
  OpR X f (rI0 fun i j=>.int (g i j)):=by
 intro pins s σ H x y v u Q I rx ry h; obtain ⟨i,j,rfl,rfl,q⟩:=h; obtain ⟨t,rfl⟩:=rx; obtain ⟨t',rfl⟩:=ry; exact rule i j t t' s _ _ ⟨.int (g i j),H,I.tok _,⟨_,rfl⟩,q⟩
def zq8 {f:Value->Value->Sem Value} {g:Int->Int->Bool}
  (rule:∀ (i j:Int) (t u:Tok) (s:Shared) (Q:Value->Shared->Prop) (E:Value->Shared->Prop),Q (.bool (g i j)) s->wpAny (model X.prog X.w) X.A (f (.int i t) (.int j u)) Q E s) :
  OpR X f (rI0 fun i j=>.bl (g i j)):=by
 intro pins s σ H x y v u Q I rx ry h; obtain ⟨i,j,rfl,rfl,q⟩:=h; obtain ⟨t,rfl⟩:=rx; obtain ⟨t',rfl⟩:=ry; exact rule i j t t' s _ _ ⟨.bl (g i j),H,I,rfl,q⟩
def zlx (i j:Int):Prop:=0<j/\j<1073741824
def znY (i j:Int):Prop:=0<=j/\j<=1000000/\i.natAbs<2 ^ 64
def zjW (i j:Int):Prop:=(-(2 ^ 64)<i/\i<2 ^ 64)\/(-(2 ^ 64)<j/\j<2 ^ 64)
def zjW.ok {i j:Int} (h:zjW i j):IntMulOk i j:=by
 rcases h with ⟨h1,h2⟩ | ⟨h1,h2⟩
 ·exact .of_left (intBits_le_64 h1 h2)
 ·exact .of_right (intBits_le_64 h1 h2)
def zo0:OpR X (binaryOp .Add) (rI0 fun i j=>.int (i+j)):=zrU fun _ _ _ _ _ _ _ q=>add_int q
def zoU:OpR X (binaryOp .Sub) (rI0 fun i j=>.int (i-j)):=zrU fun _ _ _ _ _ _ _ q=>sub_int q
def zoW:OpR X (binaryOp .Mult) (rI zjW fun i j=>.int (i * j)):=opI fun _ _ _ _ _ _ _ hc q=>mul_int q hc.ok
def zm8:OpR X (binaryOp .FloorDiv) (rI zlx fun i j=>.int (i / j)):=opI fun i j _ _ _ _ _ hc q=>by
 have h1:(0:Int)<j:=hc.1
 have h2:j<1073741824:=hc.2
 exact floordiv_int (by omega) (by rw [Int.fdiv_eq_ediv_of_nonneg i (by omega)]; exact q) (.inl (PyProof.noPylong_small (by omega)))
def zoX:OpR X (binaryOp .Mod) (rI (fun _ j=>0<j) fun i j=>.int (i % j)):=opI fun i j _ _ _ _ _ hc q=>by
 have h1:(0:Int)<j:=hc
 exact mod_int' (by omega) (by rw [Int.fmod_eq_emod_of_nonneg i (by omega)]; exact q)
def zoV:OpR X (binaryOp .Pow) (rI znY fun i j=>.int (i ^ j.toNat)):=opI fun _ _ _ _ _ _ _ hc q=>pow_int_small hc.1 hc.2.1 hc.2.2 q
def unI {f:Value->Sem Value} {g:Int->Int}
  (rule:∀ (i:Int) (t:Tok) (s:Shared) (Q:Value->Shared->Prop) (E:Value->Shared->Prop),Q (.int (g i) s.toks) { s with toks:=s.toks+1 }->wpAny (model X.prog X.w) X.A (f (.int i t)) Q E s) :
  UnR X f (rU fun i=>.int (g i)):=by
 intro pins s σ H x v Q I rx h; obtain ⟨i,rfl,q⟩:=h; obtain ⟨t,rfl⟩:=rx; exact rule i t s _ _ ⟨.int (g i),H,I.tok _,⟨_,rfl⟩,q⟩
def zlz:UnR X (unaryOp .USub) (rU fun i=>.int (-i)):=unI fun _ _ _ _ _ q=>neg_int q
end
def zmA:V->V->Bool
 | .non,.non=>true | .non,.int _=>true | .int _,.non=>true | .non,.bl _=>true | .bl _,.non=>true | .non,.str _=>true | .str _,.non=>true
 | .int _,.int _=>true | .bl _,.bl _=>true | .str _,.str _=>true | .byt _,.byt _=>true
 | .int _,.str _=>true | .str _,.int _=>true | .bl _,.str _=>true | .str _,.bl _=>true
 | _,_=>false
def rEq:R2:=fun x y H Q=>zmA x y=true/\Q (.bl (decide (x=y))) H
def rNe:R2:=fun x y H Q=>zmA x y=true/\Q (.bl (!decide (x=y))) H
def zjz {i j:Int}:decide (V.int i=V.int j)=(i == j):=by
 rw [Bool.eq_iff_iff]; simp
def zmd {i j:Bool}:decide (V.bl i=V.bl j)=(i == j):=by
 rw [Bool.eq_iff_iff]; simp
def zjy {i j:Str}:decide (V.str i=V.str j)=(i == j):=by
 rw [Bool.eq_iff_iff]; simp
def zjA {i j:Array UInt8}:decide (V.byt i=V.byt j)=(i.toList == j.toList):=by
 rw [Bool.eq_iff_iff]; cases i; cases j; simp
section
variable {X:Cx} {a b c:Expr} {ta tb tc:TE} {pos:Pos}
def zaU {pins:yyL} {σ:St} {H:Hp} {s:Shared} {Q:VK} {k k':Bool} (I:Inv X pins σ H s) (q:Q (.bl k) H) (e:k=k'):EP X pins σ Q (.bool k') s:=by
 subst e; exact ⟨.bl k,H,I,rfl,q⟩
def zq7:OpR X (compareOp .Eq) rEq:=by
 intro pins s σ H x y v u Q I rx ry h; obtain ⟨hs,q⟩:=h
 cases x with
 | non =>
  cases rx
  cases y with
  | non=>cases ry; exact PySem.EqNone.eq_none_none (zaU I q (by simp))
  | bl j=>cases ry; exact PySem.EqNone.eq_none_bool (zaU I q (by simp))
  | int j=>obtain ⟨t',rfl⟩:=ry; exact PySem.EqNone.eq_none_int (zaU I q (by simp))
  | str j=>obtain ⟨t',rfl⟩:=ry; exact PySem.EqNone.eq_none_str (zaU I q (by simp))
  | _=>exact yU (show false=true from hs) yN
 | bl i =>
  cases rx
  cases y with
  | non=>cases ry; exact PySem.EqNone.eq_bool_none (zaU I q (by simp))
  | bl j=>cases ry; exact eq_bool (zaU I q zmd)
  | str j=>obtain ⟨t',rfl⟩:=ry; exact PySem.EqMixed.eq_bool_str (zaU I q (by simp))
  | _=>exact yU (show false=true from hs) yN
 | int i =>
  obtain ⟨t,rfl⟩:=rx
  cases y with
  | non=>cases ry; exact PySem.EqNone.eq_int_none (zaU I q (by simp))
  | int j=>obtain ⟨t',rfl⟩:=ry; exact eq_int (zaU I q zjz)
  | str j=>obtain ⟨t',rfl⟩:=ry; exact PySem.EqMixed.eq_int_str (zaU I q (by simp))
  | _=>exact yU (show false=true from hs) yN
 | str i =>
  obtain ⟨t,rfl⟩:=rx
  cases y with
  | non=>cases ry; exact PySem.EqNone.eq_str_none (zaU I q (by simp))
  | bl j=>cases ry; exact PySem.EqMixed.eq_str_bool (zaU I q (by simp))
  | int j=>obtain ⟨t',rfl⟩:=ry; exact PySem.EqMixed.eq_str_int (zaU I q (by simp))
  | str j=>obtain ⟨t',rfl⟩:=ry; exact eq_str (zaU I q zjy)
  | _=>exact yU (show false=true from hs) yN
 | byt i =>
  obtain ⟨t,rfl⟩:=rx
  cases y with
  | byt j=>obtain ⟨t',rfl⟩:=ry; exact W.eq_bytes (zaU I q zjA)
  | _=>exact yU (show false=true from hs) yN
 | _=>cases y <;> exact yU (show false=true from hs) yN
def zq3:OpR X (compareOp .NotEq) rNe:=by
 intro pins s σ H x y v u Q I rx ry h; obtain ⟨hs,q⟩:=h
 cases x with
 | non =>
  cases rx
  cases y with
  | non=>cases ry; exact PySem.EqNone.ne_none_none (zaU I q (by simp))
  | bl j=>cases ry; exact PySem.EqNone.ne_none_bool (zaU I q (by simp))
  | int j=>obtain ⟨t',rfl⟩:=ry; exact PySem.EqNone.ne_none_int (zaU I q (by simp))
  | str j=>obtain ⟨t',rfl⟩:=ry; exact PySem.EqNone.ne_none_str (zaU I q (by simp))
  | _=>exact yU (show false=true from hs) yN
 | bl i =>
  cases rx
  cases y with
  | non=>cases ry; exact PySem.EqNone.ne_bool_none (zaU I q (by simp))
  | bl j=>cases ry; exact ne_bool (zaU I q (yg not zmd))
  | str j=>obtain ⟨t',rfl⟩:=ry; exact PySem.EqMixed.ne_bool_str (zaU I q (by simp))
  | _=>exact yU (show false=true from hs) yN
 | int i =>
  obtain ⟨t,rfl⟩:=rx
  cases y with
  | non=>cases ry; exact PySem.EqNone.ne_int_none (zaU I q (by simp))
  | int j=>obtain ⟨t',rfl⟩:=ry; exact ne_int (zaU I q (yg not zjz))
  | str j=>obtain ⟨t',rfl⟩:=ry; exact PySem.EqMixed.ne_int_str (zaU I q (by simp))
  | _=>exact yU (show false=true from hs) yN
 | str i =>
  obtain ⟨t,rfl⟩:=rx
  cases y with
  | non=>cases ry; exact PySem.EqNone.ne_str_none (zaU I q (by simp))
  | bl j=>cases ry; exact PySem.EqMixed.ne_str_bool (zaU I q (by simp))
  | int j=>obtain ⟨t',rfl⟩:=ry; exact PySem.EqMixed.ne_str_int (zaU I q (by simp))
  | str j=>obtain ⟨t',rfl⟩:=ry; exact ne_str (zaU I q (yg not zjy))
  | _=>exact yU (show false=true from hs) yN
 | byt i =>
  obtain ⟨t,rfl⟩:=rx
  cases y with
  | byt j=>obtain ⟨t',rfl⟩:=ry; exact W.ne_bytes (zaU I q (yg not zjA))
  | _=>exact yU (show false=true from hs) yN
 | _=>cases y <;> exact yU (show false=true from hs) yN
def zq4:OpR X (compareOp .Lt) (rI0 fun i j=>.bl (decide (i<j))):=zq8 fun _ _ _ _ _ _ _ q=>lt_int q
def zq5:OpR X (compareOp .LtE) (rI0 fun i j=>.bl (decide (i<=j))):=zq8 fun _ _ _ _ _ _ _ q=>le_int q
def zq6:OpR X (compareOp .Gt) (rI0 fun i j=>.bl (decide (j<i))):=zq8 fun _ _ _ _ _ _ _ q=>gt_int q
def zi5:OpR X (compareOp .In) (fun x y H Q=>∃ i j,x=.str i/\y=.str j/\Q (.bl (!(Builtin.Str.occurrences j i 0 j.length 1).isEmpty)) H):=by
 intro pins s σ H x y v u Q I rx ry h; obtain ⟨i,j,rfl,rfl,q⟩:=h; obtain ⟨t,rfl⟩:=rx; obtain ⟨t',rfl⟩:=ry; exact in_str (zaU I q rfl)
def zoY:OpR X (compareOp .Is) (fun x y H Q=>y=.non/\Q (.bl (decide (x=.non))) H):=by
 intro pins s σ H x y v u Q I rx ry h; obtain ⟨rfl,q⟩:=h; cases ry; refine is_none_gen (zaU I q ?_)
 cases x <;> first
  | (cases rx; rfl)
  | (obtain ⟨t,rfl⟩:=rx; rfl)
def zfQ:OpR X (compareOp .NotIn) (fun x y H Q=>∃ i j,x=.str i/\y=.str j/\Q (.bl (!(!(Builtin.Str.occurrences j i 0 j.length 1).isEmpty))) H):=by
 intro pins s σ H x y v u Q I rx ry h; obtain ⟨i,j,rfl,rfl,q⟩:=h; obtain ⟨t,rfl⟩:=rx; obtain ⟨t',rfl⟩:=ry; exact notIn_str (zaU I q rfl)
def OpR.or {f:Value->Value->Sem Value} {r r':R2} (h:OpR X f r) (h':OpR X f r'):OpR X f (fun x y H Q=>r x y H Q\/r' x y H Q):=by
 intro pins s σ H x y v u Q I rx ry q
 rcases q with q | q
 ·exact h pins s σ H x y v u Q I rx ry q
 ·exact h' pins s σ H x y v u Q I rx ry q
def zlR (b:Expr) {op:CmpOp} (h:op≠.In:=by decide) (h2:op≠.NotIn:=by decide):behindInMarks op b=false:=by
 have e1:(op == CmpOp.In)=false:=by cases op <;> first | rfl | exact yU rfl h
 have e2:(op == CmpOp.NotIn)=false:=by cases op <;> first | rfl | exact yU rfl h2
 cases b <;> simp [behindInMarks,e1,e2]
def zm3 {op:CmpOp} {r:R2} (ho:OpR X (compareOp op) r) (ha:PE X a ta) (hb:PE X b tb) (hm:behindInMarks op b=false):PE X (.Compare a [op] [b] pos) (tOp r ta tb):=by
 intro pins s σ H Q I h
 exact wpAny_Compare1 (zrD ha hb I h fun v u s2 x y H2 I2 rx ry q=>ho pins s2 σ H2 x y v u Q I2 rx ry q) hm
def zqC (t:TE):TT:=fun σ H Q=>t σ H fun x H'=>∃ k,x=.bl k/\Q k H'
def zmQ {op:CmpOp} {r:R2} (ho:OpR X (compareOp op) r) (ha:PE X a ta) (hb:PE X b tb) (hm:behindInMarks op b=false):PT X (.Compare a [op] [b] pos) (zqC (tOp r ta tb)):=by
 intro pins s σ H Q I h
 refine wpAny_isTrue_Compare1 (thn (ha pins s σ H _ I h) fun v s1 ⟨x,H1,I1,r1,q1⟩=>thn (hb pins s1 σ H1 _ I1 q1) fun u s2 ⟨y,H2,I2,r2,q2⟩ =>
  thn (ho pins s2 σ H2 x y v u _ I2 r1 r2 q2) fun c s3 ⟨z,H3,I3,r3,k,e,q3⟩=>?_) hm
 subst e; cases r3; exact wpAny_truthy_bool ⟨H3,I3,q3⟩
def zlB (r r':R2) (ta tb tc:TE):TE:=fun σ H Q=>ta σ H fun x H1=>tb σ H1 fun y H2=>r x y H2 fun z H3=>∃ k,z=.bl k /\
 (if k=true then tc σ H3 fun w' H4=>r' y w' H4 Q else Q (.bl false) H3)
def zkG {op op':CmpOp} {r r':R2} (ho:OpR X (compareOp op) r) (ho':OpR X (compareOp op') r') (ha:PE X a ta) (hb:PE X b tb) (hc:PE X c tc)
  (hm:lastMarks [op,op'] [b,c]=false:=by with_unfolding_all rfl):PE X (.Compare a [op,op'] [b,c] pos) (zlB r r' ta tb tc):=by
 intro pins s σ H Q I h
 refine Compare_chain (thn (ha pins s σ H _ I h) fun v s1 ⟨x,H1,I1,r1,q1⟩=>chain_link (thn (hb pins s1 σ H1 _ I1 q1) fun u s2 ⟨y,H2,I2,r2,q2⟩ =>
  thn (ho pins s2 σ H2 x y v u _ I2 r1 r2 q2) fun d s3 ⟨z,H3,I3,r3,k,e,q3⟩=>?_)) hm
 subst e; cases r3; refine wpAny_truthy_bool ?_
 cases k with
 | false=>exact ite_ff ⟨.bl false,H3,I3,rfl,q3⟩
 | true=>exact ite_tt (chain_last (thn (hc pins s3 σ H3 _ I3 q3) fun w' s4 ⟨z',H4,I4,r4,q4⟩=>ho' pins s4 σ H4 y z' u w' Q I4 r2 r4 q4))
def zf2:(sizeLine:Nat)<2 ^ 63:=by rw [sizeLine_eq]; decide
def zhX:OpR X (binaryOp .Add) (fun x y H Q=>∃ i j,x=.str i/\y=.str j/\i.length+j.length<=sizeLine/\Q (.str (i ++ j)) H):=by
 intro pins s σ H x y v u Q I rx ry h; obtain ⟨i,j,rfl,rfl,hz,q⟩:=h; obtain ⟨t,rfl⟩:=rx; obtain ⟨t',rfl⟩:=ry
 exact add_str (fun t' tk=>⟨.str (i ++ j),H,I.tok _,⟨_,rfl⟩,q⟩) hz
def zdh {x:V} {us:List Value} (r:za4 [x] us):∃ u,us=[u]/\zbI x u:=by
 cases r with
 | cons r1 r2=>cases r2; exact ⟨_,rfl,r1⟩
def zkc {x y:V} {us:List Value} (r:za4 [x,y] us):∃ u w',us=[u,w']/\zbI x u/\zbI y w':=by
 cases r with
 | cons r1 r2 =>
  cases r2 with
  | cons r3 r4=>cases r4; exact ⟨_,_,rfl,r1,r3⟩
def zjL:zcp X (.type "int") (fun xs H Q=>(∃ i,xs=[.int i]/\Q (.int i) H)\/∃ k,xs=[.bl k]/\Q (.int (if k then 1 else 0)) H):=by
 intro pins s σ H xs us Q I r h
 rcases h with ⟨i,rfl,q⟩ | ⟨k,rfl,q⟩
 ·obtain ⟨u,rfl,t,rfl⟩:=zdh r
  exact call_int_int ⟨.int i,H,I,⟨_,rfl⟩,q⟩
 ·obtain ⟨u,rfl,r1⟩:=zdh r
  cases r1
  exact call_int_bool ⟨.int (if k then 1 else 0),H,I.tok _,⟨_,rfl⟩,q⟩
def zgf:zcp X (.type "str") (fun xs H Q=>∃ i,xs=[.int i]/\i.natAbs.log2<1920/\Q (.str (toString i)) H):=by
 intro pins s σ H xs us Q I r h; obtain ⟨i,rfl,hz,q⟩:=h; obtain ⟨u,rfl,t,rfl⟩:=zdh r; exact PySem.P.str_of_int hz ⟨.str _,H,I.tok _,⟨_,rfl⟩,q⟩
end
structure ObjM (h:Heap) (x dx C:Addr) (mA:Str->Option Value):Prop where
 obj:h.get? x=some (W.instObj C dx)
 ns:h.Ns1 dx mA
 ne:dx≠x
def zf1 {h:Heap} {dx:Addr} {mA:Str->Option Value} (n:h.Ns1 dx mA):∃ od,h.get? dx=some od/\∀ name,W.lookIn name od=some (mA name):=by
 obtain ⟨o,es,ep,ho,hd,hk,_,hm⟩:=n
 refine ⟨o,ho,fun name=>?_⟩
 have e:=hm name; unfold nsFind findBy at e; rw [<- Array.find?_toList] at e; unfold W.lookIn; rw [hd]
 dsimp only
 split
 ·rename_i y q
  rw [q] at e; exact yg some e
 ·rename_i q
  rw [q] at e
  have a:es.toList.any (·.refKey)=false:=by
   rw [List.any_eq_false]; intro y hy; obtain ⟨z,t,hkey⟩:=hk y (Array.mem_toList_iff.mp hy); simp [DictEntry.refKey,hkey]
  have a':¬ es.toList.any (·.refKey)=true:=by rw [a]; exact yN
  rw [yS a']; exact yg some e
def ObjM.look {h:Heap} {x dx C:Addr} {mA:Str->Option Value} (I:ObjM h x dx C mA):∃ od,W.InstAt h x (W.instObj C dx) C (some od)/\∀ name,W.lookIn name od=some (mA name) :=
 let ⟨od,ho,hl⟩:=zf1 I.ns
 ⟨od,⟨I.obj,rfl,rfl,ho⟩,hl⟩
section
variable {prog:Program} {w:World} {A:Around} {E:Value->Shared->Prop} {s:Shared} {K:W.Frag} {x dx C f:Addr} {mA:Str->Option Value} {name:Str} {v:Value}
def zny {expr:Bool} {Q:Value->Shared->Prop} (X:K.In s.heap) (I:ObjM s.heap x dx C mA) (hg:W.plainGet K C name=true) (hh:W.hasDictIn K C=true)
  (ha:W.findIn K (.ref C) name=some none) (hv:mA name=some v) (hv':W.handedIn v=true) (h:Q v { s with toks:=s.toks+1 }) :
  wpAny (model prog w) A (getAttr (.ref x) name expr) Q E s:=by
 obtain ⟨od,J,hl⟩:=I.look
 exact W.get_value X J (W.plainGet_of hg).1 (W.findObj_own hh ha rfl (by rw [hl,hv])) hv' h
def zlj {pl:Sem Bool} {Q:Value × List Value->Shared->Prop} (X:K.In s.heap) (I:ObjM s.heap x dx C mA) (hg:W.plainGet K C name=true)
  (hf:W.findIn K (.ref C) name=some (some (.ref f))) (ht:W.isFn K (.ref f)=true) (hv:mA name=none) (h:Q (.ref f,[.ref x]) s) :
  wpAny (model prog w) A (getMethod (.ref x) name pl) Q E s:=by
 obtain ⟨od,J,hl⟩:=I.look
 exact W.method_fn X J (W.plainGet_of hg).1 (W.plainGet_of hg).2 hf (beq_iff_eq.mp ht) (by show (W.lookIn name od).map (·.isSome)=some false; rw [hl,hv]; rfl) h
def zmz {ns:List Str} {Q:Unit->Shared->Prop} (X:K.In s.heap) (I:ObjM s.heap x dx C mA)
  (hs:W.findIn K (.ref C) "__setattr__"=some (some (.builtin "object.__setattr__"))) (hp:W.plainOver K C=true) (ht:W.takerIn K C name=some none) (hh:W.hasDictIn K C=true)
  (hw:PySem.Within mA ns) (hsz:ns.length<=sizeLine)
  (h:∀ h',ObjM h' x dx C (fun y=>if y=name then some v else mA y)->Heap.SameBut dx s.heap h'->Q () { s with heap:=h',toks:=s.toks+2 }) :
  wpAny (model prog w) A (setAttr (.ref x) name v) Q E s:=by
 obtain ⟨od,J,hl⟩:=I.look
 refine W.set_plain X J hs (W.osa_open (s:={ s with toks:=s.toks+1 }) (r:=none) X J hp ht fun b=>?_)
 obtain ⟨cd,hc,hd'⟩:=W.any_some hh
 have hx:s.heap.get? x=some ⟨.ref C,some dx,.plain,#[]⟩:=I.obj
 refine yA (yG (yA (yA (wpAny_loadPart hx (yA (W.Looks.here (s:={ s with toks:=s.toks+1 }) (W.looks_clsIn X hc) ?_))))))
 rw [hd']; refine yG (a:=some dx) (yA (yG (yA ?_)))
 refine wpAny_nsSet1 (s:={ s with toks:=s.toks+1 }) I.ns fun h' hn2 hs2=>?_
 obtain ⟨oD,esD,epD,hoD,hdD,hcD⟩:=hn2.count (PySem.Within.cons name v hw)
 refine yA (wpAny_lookBehind hoD (by rw [hdD]; exact pastItsLine_dict (yj hcD (by rw [List.length_cons]; omega))) ?_)
 exact yG (h _ ⟨(hs2.2 _ (Ne.symm I.ne)).trans I.obj,hn2,I.ne⟩ hs2)
def zkX {R:Result->Shared->Prop} {vs:List Value} {kw:List (Str × Value)} (X:K.In s.heap) (hm:W.makesIn K C=true)
  (hi:W.findIn K (.ref C) "__init__"=some (some (.ref f))) (hf:W.typeIn K (.ref f)=some (.type "function"))
  (h:codeAny (model prog w) (A.under (.builtin "type.__call__" ⟨.ref C :: vs,kw⟩)) (.call (.ref f) ⟨.ref (s.heap.objs.size+1) :: vs,kw⟩) (W.InitBack (s.heap.objs.size+1) R)
   { s with heap:=(s.heap.push W.emptyDict).push (W.instObj C s.heap.objs.size) }) :
  codeAny (model prog w) A (.call (.ref C) ⟨vs,kw⟩) R s:=by
 obtain ⟨hh,g,d,t,os⟩:=s
 exact W.make_core (W.makes_of X hm) (W.looks_findIn X hi) (fun self=>W.bind_fn X self hf) (.inl rfl) h
end
def zdb (f:Str) (v:V):List (Str × V)->List (Str × V)
 | []=>[(f,v)]
 | (g,x) :: r=>if g=f then (g,v) :: r else (g,x) :: zdb f v r
theorem zen (f g:Str) (v:V):∀ fs:List (Str × V),(zdb f v fs).lookup g=if g=f then some v else fs.lookup g
 | []=>by
  show List.lookup g [(f,v)]=_
  by_cases h:g=f
  ·have hb:(g == f)=true:=beq_iff_eq.mpr h
   simp only [List.lookup,hb,yW h]
  ·have hb:(g == f)=false:=beq_eq_false_iff_ne.mpr h
   simp only [List.lookup,hb,yS h]
 | (k,x) :: r=>by
  have ih:=zen f g v r
  rw [show zdb f v ((k,x) :: r)=(if k=f then (k,v) :: r else (k,x) :: zdb f v r) from rfl]
  by_cases hk:k=f
  ·rw [yW hk]
   by_cases h:g=k
   ·have hb:(g == k)=true:=beq_iff_eq.mpr h
    simp only [List.lookup,hb,yW (h.trans hk)]
   ·have hb:(g == k)=false:=beq_eq_false_iff_ne.mpr h
    simp only [List.lookup,hb,yS (fun e:g=f=>h (e.trans hk.symm))]
  ·rw [yS hk]
   by_cases h:g=k
   ·have hb:(g == k)=true:=beq_iff_eq.mpr h
    simp only [List.lookup,hb,yS (fun e:g=f=>hk (h.symm.trans e))]
   ·have hb:(g == k)=false:=beq_eq_false_iff_ne.mpr h
    simp only [List.lookup,hb]; exact ih
theorem zeq (f:Str) (v:V):∀ fs:List (Str × V),f ∈ (zdb f v fs).map (·.1)/\∀ g,g ∈ fs.map (·.1)->g ∈ (zdb f v fs).map (·.1)
 | []=>⟨by simp [zdb],fun g h=>by simp at h⟩
 | (k,x) :: r=>by
  obtain ⟨i1,i2⟩:=zeq f v r
  rw [show zdb f v ((k,x) :: r)=(if k=f then (k,v) :: r else (k,x) :: zdb f v r) from rfl]
  by_cases hk:k=f
  ·rw [yW hk]
   subst hk
   exact ⟨by simp,fun g h=>by simpa using h⟩
  ·rw [yS hk]
   refine ⟨?_,fun g h=>?_⟩
   ·rw [yw]
    exact yc _ i1
   ·rw [yw] at h ⊢
    rcases yO.mp h with e | e
    ·exact yO.mpr (.inl e)
    ·exact yc _ (i2 g e)
theorem zep (f:Str) (v:V):∀ fs:List (Str × V),(zdb f v fs).length<=fs.length+1
 | []=>by simp [zdb]
 | (k,x) :: r=>by
  have ih:=zep f v r
  rw [show zdb f v ((k,x) :: r)=(if k=f then (k,v) :: r else (k,x) :: zdb f v r) from rfl]
  by_cases hk:k=f
  ·rw [yW hk,List.length_cons,List.length_cons]; omega
  ·rw [yS hk,List.length_cons,List.length_cons]; omega
def zgV.some_of {v:V} {o:Option Value} (r:zgV (some v) o):∃ u,o=some u/\zbI v u:=by
 cases o with
 | none=>exact (show False from r).elim
 | some u=>exact ⟨u,rfl,r⟩
def zgV.none_of {o:Option Value} (r:zgV none o):o=none:=by
 cases o with
 | none=>rfl
 | some u=>exact (show False from r).elim
def zf7 {v:V} {u:Value} (r:zbI v u):W.handedIn u=true:=by
 cases v with
 | non=>cases (show u=Value.none from r); rfl
 | bl b=>cases (show u=Value.bool b from r); rfl
 | int i=>obtain ⟨t,e⟩:=(show ∃ t,u=Value.int i t from r); cases e; rfl
 | str x=>obtain ⟨t,e⟩:=(show ∃ t,u=Value.str x t from r); cases e; rfl
 | byt b=>obtain ⟨t,e⟩:=(show ∃ t,u=Value.bytes b t from r); cases e; rfl
 | flt b=>obtain ⟨t,e⟩:=(show ∃ t,u=Value.float b t from r); cases e; rfl
 | ref a=>cases (show u=Value.ref a from r); rfl
 | ty n=>cases (show u=Value.type n from r); rfl
section
variable {P:Program} {w:World} {H H':Hp} {h h':Heap} {a C dx:Addr} {fs fs':List (Str × V)}
def zfm (hok:HOk P w H h) (e:H a=some (.ins C dx fs)):∃ mA,ObjM h a dx C mA/\(∀ f,zgV (fs.lookup f) (mA f))/\PySem.Within mA (fs.map (·.1))/\fs.length<=1000/\H dx=some (.own a):=by
 obtain ⟨d,z,ne,ob,mA,n,r,q⟩:=(show zbr P w H h a (.ins C dx fs) from hok a _ e)
 exact ⟨mA,⟨ob,n,ne⟩,r,q,z,d⟩
end
structure Cls (K:W.Frag) (C:Addr):Prop where
 pg:W.plainGet K C Str.empty=true
 hd:W.hasDictIn K C=true
 po:W.plainOver K C=true
 sa:W.findIn K (.ref C) "__setattr__"=some (some (.builtin "object.__setattr__"))
def Cls.get {K:W.Frag} {C:Addr} (c:Cls K C) (f:Str):W.plainGet K C f=true:=c.pg
def zaQ (K:W.Frag) (C:Addr) (f:Str):Prop:=W.findIn K (.ref C) f=some none
def zaQ.taker {K:W.Frag} {C:Addr} {f:Str} (n:zaQ K C f):W.takerIn K C f=some none:=by
 unfold W.takerIn
 rw [show W.findIn K (.ref C) f=some none from n]
 rfl
structure Meth (K:W.Frag) (C:Addr) (m:Str) (f:Addr):Prop where
 at_:W.findIn K (.ref C) m=some (some (.ref f))
 fn:W.isFn K (.ref f)=true
 kp:W.keepIn K (.ref f)=true
section
variable {X:Cx} {pins:yyL} {σ:St} {H:Hp} {s:Shared} {a C dx:Addr} {fs:List (Str × V)} {f:Str} {v:V} {A:Around} {E:Value->Shared->Prop}
def zeV {b:Bool} {Q:Value->Shared->Prop} (I:Inv X pins σ H s) (e:H a=some (.ins C dx fs)) (c:Cls X.K C) (n:zaQ X.K C f) (l:fs.lookup f=some v)
  (h:∀ u s',Inv X pins σ H s'->zbI v u->Q u s'):wpAny (model X.prog X.w) A (getAttr (.ref a) f b) Q E s:=by
 obtain ⟨mA,O,r,_,_,_⟩:=zfm I.hok e
 obtain ⟨u,hu,ru⟩:=zgV.some_of (v:=v) (o:=mA f) (by rw [<- l]; exact r f)
 exact zny I.kIn O (c.get f) c.hd n hu (zf7 ru) (h u _ (I.tok _) ru)
def zdR {m:Str} {g:Addr} {pl:Sem Bool} {Q:Value × List Value->Shared->Prop} (I:Inv X pins σ H s) (e:H a=some (.ins C dx fs)) (c:Cls X.K C) (k:Meth X.K C m g) (l:fs.lookup m=none)
  (h:Q (.ref g,[.ref a]) s):wpAny (model X.prog X.w) A (getMethod (.ref a) m pl) Q E s:=by
 obtain ⟨mA,O,r,_,_,_⟩:=zfm I.hok e
 have hn:mA m=none:=zgV.none_of (by rw [<- l]; exact r m)
 exact zlj I.kIn O (c.get m) k.at_ k.fn hn h
def zhK {y:V} {u:Value} {Q:Unit->Shared->Prop} (I:Inv X pins σ H s) (e:H a=some (.ins C dx fs)) (c:Cls X.K C) (n:zaQ X.K C f) (hl:fs.length<1000) (ry:zbI y u)
  (h:∀ s',Inv X pins σ (upd H a (.ins C dx (zdb f y fs))) s'->Q () s'):wpAny (model X.prog X.w) A (setAttr (.ref a) f u) Q E s:=by
 obtain ⟨mA,O,r,wi,_,ho⟩:=zfm I.hok e
 have hz:(fs.map (·.1)).length<=sizeLine:=by rw [yE,sizeLine_eq]; omega
 refine zmz I.kIn O c.sa c.po n.taker c.hd wi hz fun h' O' sb=>h _ ?_
 have hd:∃ o,h'.get? dx=some o:=let ⟨o,_,_,e',_⟩:=O'.ns; ⟨o,e'⟩
 refine I.write (x:=a) (e:=dx) (by rw [e]; exact True.intro) (.inr ho) (fun b q hb z=>(sb.2 b hb).trans z) hd ?_
 refine ⟨by rw [zp O.ne]; exact ho,?_,O.ne,O'.obj,_,O'.ns,fun g=>?_,fun g hg=>?_⟩
 ·have:=zep f y fs; omega
 ·show zgV ((zdb f y fs).lookup g) (if g=f then some u else mA g)
  rw [zen]
  by_cases q:g=f
  ·rw [yW q,yW q]; exact ry
  ·rw [yS q,yS q]; exact r g
 ·by_cases q:g=f
  ·rw [q]; exact (zeq f y fs).1
  ·refine (zeq f y fs).2 g (wi g fun z=>hg ?_)
   show (if g=f then some u else mA g)=none
   rw [yS q]; exact z
def Inv.made (I:Inv X pins σ H s):Inv X pins σ (upd (upd H s.heap.objs.size (.own (s.heap.objs.size+1))) (s.heap.objs.size+1) (.ins C s.heap.objs.size []))
  { s with heap:=(s.heap.push W.emptyDict).push (W.instObj C s.heap.objs.size) }:=by
 have e1:(s.heap.push W.emptyDict).get? s.heap.objs.size=some W.emptyDict:=yI s.heap rfl
 have e2:((s.heap.push W.emptyDict).push (W.instObj C s.heap.objs.size)).get? (s.heap.objs.size+1)=some (W.instObj C s.heap.objs.size):=by
  have:=yI (s.heap.push W.emptyDict) (o:=W.instObj C s.heap.objs.size) rfl
  rwa [YJ] at this
 have e3:(s.heap.push W.emptyDict).Ns s.heap.objs.size (fun _=>none):=⟨W.emptyDict,#[],_,e1,rfl,(fun e he=>yU he (by simp)),fun _=>rfl⟩
 have I1:=I.laid (a:=s.heap.objs.size) (o:=.own (s.heap.objs.size+1)) (h':=s.heap.push W.emptyDict) (t':=s.toks) (fun b u q=>yC _ q) (yJ _) ⟨_,e1⟩
 refine I1.laid (a:=s.heap.objs.size+1) (o:=.ins C s.heap.objs.size []) (t':=s.toks) (fun b u q=>yC _ q) (Nat.le_of_eq (YJ _ _)) ?_
 have ne:s.heap.objs.size≠s.heap.objs.size+1:=yP (Nat.lt_succ_self _)
 refine ⟨by rw [zp ne,zo],YE _,ne,e2,fun _=>none,(Heap.Ns1.of_empty e3).at fun o q=>yC _ q,fun _=>True.intro,fun y hy=>yU rfl hy⟩
def zjN {prog:Program} {w:World} {env:Env} {e:Expr} {f:Str} {pos:Pos} {s:Shared} {Q:Value->Shared->Prop} (hb:attributeBase e f env (eval e env)=eval e env)
  (h:wpAny (model prog w) A (eval e env) (fun o s₁=>wpAny (model prog w) A (getAttr o f true) Q E s₁) E s):wpAny (model prog w) A (eval (.Attribute e f pos) env) Q E s :=
 Attribute_any_ h (by rw [arm_eval_Attribute,hb])
end
def zsh (K:W.Frag) (ta:TE) (f:Str):TE:=fun σ H Q=>ta σ H fun x H1=>∃ a C dx fs v,x=.ref a/\H1 a=some (.ins C dx fs)/\Cls K C/\zaQ K C f/\fs.lookup f=some v/\Q v H1
def zsn (K:W.Frag) (ta tv:TE) (f:Str):TS:=fun D σ H=>tv σ H fun y H1=>ta σ H1 fun x H2=>∃ a C dx fs,x=.ref a/\H2 a=some (.ins C dx fs)/\Cls K C/\zaQ K C f/\fs.length<1000 /\
 D.nx σ (upd H2 a (.ins C dx (zdb f y fs)))
section
variable {X:Cx} {o e value:Expr} {f:Str} {pos pos' tpos:Pos} {ta tv:TE}
def zlQ (he:PE X e ta) (hb:attributeBase e f X.env (eval e X.env)=eval e X.env):PE X (.Attribute e f pos) (zsh X.K ta f):=by
 intro pins s σ H Q I h
 refine zjN hb (thn (he pins s σ H _ I h) fun u s1 ⟨x,H1,I1,rx,a,C,dx,fs,v,ex,ea,c,n,l,q⟩=>?_)
 subst ex
 obtain rfl:u=Value.ref a:=rx
 exact zeV I1 ea c n l fun u' s2 I2 ru=>⟨v,H1,I2,ru,q⟩
def zcO (ha:PE X o ta) (hv:PE X value tv) (hs:swapsWith value (some (.Attribute o f pos')) pos.line X.env=pure false):PS X (.Assign [.Attribute o f pos'] value pos) (zsn X.K ta tv f):=by
 intro pins s σ H D I h
 refine plainObj_wpAny_Assign_Attribute (thn (hv pins s σ H _ I h) fun u s1 ⟨y,H1,I1,ry,q⟩=>thn (ha pins s1 σ H1 _ I1 q) fun ov s2 ⟨x,H2,I2,rx,a,C,dx,fs,ex,ea,c,n,l,q2⟩=>?_) hs
 subst ex
 obtain rfl:ov=Value.ref a:=rx
 exact zhK I2 ea c n l ry fun s3 I3=>⟨σ,_,I3,q2⟩
end
section
variable {X:Cx} {pins:yyL} {σ:St} {H:Hp} {s:Shared} {A:Around} {E:Value->Shared->Prop} {Q:Value->Shared->Prop} {c:Value} {b:Bool}
end
structure Room (k:Nat) (A:Around):Prop where
 hd:A.handled=none
 dp:A.depth+3 * k+5<recursionLimit
 un:A.units+16 * k+200<cLine
 gd:A.guards=some []
def Room.mono {j k:Nat} {A:Around} (r:Room k A) (h:j<=k):Room j A:=⟨r.hd,by have:=r.dp; omega,by have:=r.un; omega,r.gd⟩
def Room.deeper {k:Nat} {A:Around} (r:Room (k+1) A) (env:Env):Room k (A.deeper env) :=
 ⟨r.hd,by have:=r.dp; show A.depth+1+3 * k+5<_; omega,by have:=r.un; show A.units+3+16 * k+200<_; omega,r.gd⟩
def zh4 {A:Around} {C:Addr} {us:List Value} {kw:List (Str × Value)}:(A.under (.builtin "type.__call__" ⟨.ref C :: us,kw⟩)).depth=A.depth+1:=by
 first | rfl | simp [Around.under,Code.weight,Code.isCreation,Code.isGuard,Code.isCaller,Code.frames,Code.isFrame,guardIds]
def zh3 {A:Around} {C:Addr} {us:List Value} {kw:List (Str × Value)}:(A.under (.builtin "type.__call__" ⟨.ref C :: us,kw⟩)).units=A.units+1:=by
 first | rfl | simp [Around.under,Code.cUnits,Code.frames,Code.isFrame]
def Room.make {k:Nat} {A:Around} (r:Room (k+1) A) (C:Addr) (us:List Value) (kw:List (Str × Value)):Room k (A.under (.builtin "type.__call__" ⟨.ref C :: us,kw⟩)) :=
 ⟨r.hd,by have:=r.dp; rw [zh4]; omega,by have:=r.un; rw [zh3]; omega,r.gd⟩
def Room.depth {k:Nat} {A:Around} (r:Room k A):A.depth<recursionLimit:=by have:=r.dp; omega
def Room.units {k:Nat} {A:Around} (r:Room k A):A.units+64<cLine:=by have:=r.un; omega
def zrJ:TA:=fun _ H Q=>Q [] H
def zqI (ta:TE) (tr:TA):TA:=fun σ H Q=>ta σ H fun x H1=>tr σ H1 fun xs H2=>Q (x :: xs) H2
section
variable {X:Cx} {e:Expr} {es:List Expr} {te:TE} {t:TA} {pos:Pos}
def zds:PA X [] zrJ:=fun _ _ _ _ H Q I h=>Calls.spliced_nil ⟨[],H,I,.nil,h⟩
def zbO (ha:PE X e te) (hr:PA X es t) (hs:starEach (e :: es) X.env=(false,eval e X.env) :: starEach es X.env:=by rfl):PA X (e :: es) (zqI te t):=by
 intro pos pins s σ H Q I h; rw [hs]
 show wpAny _ _ (spliced ((false,eval e X.env) :: backTo pos (starEach es X.env))) _ _ s
 refine Calls.spliced_cons (thn (ha pins s σ H _ I h) fun u s1 ⟨x,H1,I1,r1,q1⟩=>?_)
 exact thn (hr pos pins s1 σ H1 _ I1 q1) fun us s2 ⟨xs,H2,I2,r2,q2⟩=>⟨x :: xs,H2,I2,.cons r1 r2,q2⟩
def zsb (t:TA):TE:=fun σ H Q=>t σ H fun xs H1=>xs.length<=sizeLine/\∀ p,H1 p=none->Q (.ref p) (upd H1 p (.tup xs))
def zsf (t:TA):TE:=fun σ H Q=>t σ H fun xs H1=>xs.length<=sizeLine/\∀ p,H1 p=none->Q (.ref p) (upd H1 p (.lst xs))
def zlN {x1} (h:PA X es t):PE X (.Tuple es x1 pos) (zsb t):=by
 intro pins s σ H Q I hq
 refine wpAny_Tuple_spliced (thn (h pos pins s σ H _ I hq) fun us s1 ⟨xs,H1,I1,r,z,q⟩=>⟨by rw [<- r.length]; exact z,?_⟩)
 have hf:H1 s1.heap.objs.size=none:=I1.hok.fresh (yJ _)
 refine ⟨.ref s1.heap.objs.size,upd H1 s1.heap.objs.size (.tup xs),I1.laid (t':=s1.toks) (fun b u e=>yC _ e) (yJ _) ?_,rfl,q _ hf⟩
 exact ⟨z,us,r,⟨_,yI _ rfl,rfl,_,rfl⟩⟩
def zlO (h:PA X es t):PE X (.List es pos) (zsf t):=by
 intro pins s σ H Q I hq
 refine wpAny_List_spliced (thn (h pos pins s σ H _ I hq) fun us s1 ⟨xs,H1,I1,r,z,q⟩=>⟨by rw [<- r.length]; exact z,?_⟩)
 have hf:H1 s1.heap.objs.size=none:=I1.hok.fresh (yJ _)
 refine ⟨.ref s1.heap.objs.size,upd H1 s1.heap.objs.size (.lst xs),I1.laid (t':=s1.toks) (fun b u e=>yC _ e) (yJ _) ?_,rfl,q _ hf⟩
 exact ⟨z,us,0,r,yI _ rfl⟩
end
abbrev Sp:=List V->Hp->VK->XK->Prop
abbrev CXT:=List Env->Hp->Shared->XK->Value->Shared->Prop
structure Env0 (P:Program) (w:World) (K:W.Frag) (mg:Str->Option Value) (base:Heap) (A:Around) (outer:List Env) (s:Shared) (H:Hp):Prop where
 frames:A.frames=some outer
 mod:Mod K mg base
 bs:∀ b o,base.get? b=some o->s.heap.get? b=some o/\H b=none
 bsz:base.objs.size<=s.heap.objs.size
 funs:s.heap.FunFrames base outer
 frf:∀ b ∈ frs outer,H b=none
 hok:HOk P w H s.heap
 bare:AllBare s.gens
 tab:zih base H
def CE (outer:List Env) (P:Program) (w:World) (H:Hp) (s:Shared) (Q:VK) (u:Value) (s':Shared):Prop :=
 ∃ v H',s'.os=s.os/\AllBare s'.gens/\Un (frs outer) [] H H' s.heap s'.heap/\HOk P w H' s'.heap/\zbI v u/\Q v H'
def CR (CX:CXT) (outer:List Env) (P:Program) (w:World) (H:Hp) (s:Shared) (Q:VK) (E:XK) (r:Result) (s':Shared):Prop :=
 match r with
 | .ok (.ret u)=>CE outer P w H s Q u s'
 | .ok _=>False
 | .error e=>CX outer H s E e s'
structure FnOk (P:Program) (w:World) (K:W.Frag) (mg:Str->Option Value) (base:Heap) (CX:CXT) (k:Nat) (f:Addr) (fd:FuncData) (ps:List Str) (sp:Sp):Prop where
 len:∀ vs H Q E,sp vs H Q E->vs.length=ps.length
 run:∀ (A:Around) (outer:List Env) (s:Shared) (H:Hp) (args:Args) (us:List Value) (vs:List V) (Q:VK) (E:XK),Room k A->Env0 P w K mg base A outer s H->BindsTo s fd args (ps.zip us)->za4 vs us->sp vs H Q E ->
  codeAny (model P w) A (.call (.ref f) args) (CR CX outer P w H s Q E) s
def Env0.make {P:Program} {w:World} {K:W.Frag} {mg:Str->Option Value} {base:Heap} {A:Around} {outer:List Env} {s:Shared} {H:Hp} (e:Env0 P w K mg base A outer s H) (C:Addr) (us:List Value) (kw:List (Str × Value)) :
  Env0 P w K mg base (A.under (.builtin "type.__call__" ⟨.ref C :: us,kw⟩)) outer s H:=⟨by first | exact e.frames | (simpa [Around.under,Code.envs,Code.isFrame,pushEnvs] using e.frames),e.mod,e.bs,e.bsz,e.funs,e.frf,e.hok,e.bare,e.tab⟩
section
variable {X:Cx} {pins:yyL} {σ:St} {H:Hp} {s s':Shared}
def Inv.env0 (I:Inv X pins σ H s):Env0 X.prog X.w X.K X.mg X.base X.A X.stack s H :=
 ⟨I.ok.frames,I.ok.mod,I.bs,yj I.ok.bsz I.sz,I.stack,I.stkFree,I.hok,I.bare,I.ok.tab.un I.base.tbls⟩
def Inv.after {Q:VK} {u:Value} (I:Inv X pins σ H s) (h:CE X.stack X.prog X.w H s Q u s'):EP X pins σ Q u s':=by
 obtain ⟨v,H',os,bare,un,hok,r,q⟩:=h; obtain ⟨hh,g,d,t,os'⟩:=s'
 obtain rfl:os'=s.os:=os
 exact ⟨v,H',I.call (h':=hh) (g':=g) (d':=d) (t':=t) (ch:=[]) un hok bare (fun b z=>yU z (by simp)),r,q⟩
end
def zoa (sp:Sp) (dvs:List V) (E:XK) (t:TA):TE:=fun σ H Q=>t σ H fun vs H1=>sp (vs ++ dvs) H1 Q E
def zn7 (C:Addr) (m:Str) (sp:Sp) (dvs:List V) (E:XK) (ta:TE) (t:TA):TE:=fun σ H Q=>ta σ H fun x H1=>∃ a dx fs,x=.ref a/\H1 a=some (.ins C dx fs)/\fs.lookup m=none /\
 t σ H1 fun vs H2=>sp (x :: (vs ++ dvs)) H2 Q E
def zqF (C:Addr) (sp:Sp) (dvs:List V) (E:XK) (t:TA):TE:=fun σ H Q=>t σ H fun vs H1=>∀ x dx,H1 x=none->H1 dx=none->dx≠x ->
 sp (.ref x :: (vs ++ dvs)) (upd (upd H1 dx (.own x)) x (.ins C dx [])) (fun v H2=>v=.non/\Q (.ref x) H2) E
def zbk (K:W.Frag) (fd:FuncData) (ps:List Str) (ds:List Value):Prop :=
 ∀ (s:Shared) (us:List Value),K.In s.heap->(us ++ ds).length=ps.length->BindsTo s fd ⟨us,[]⟩ (ps.zip (us ++ ds))
def zbk.all {K:W.Frag} {fd:FuncData} {ps:List Str} (h:∀ us:List Value,us.length=ps.length->bindArgs fd ⟨us,[]⟩=pure (ps.zip us)):zbk K fd ps []:=fun s us _ hl=>by
 rw [yh] at hl ⊢; exact .of_eq (h us hl)
def zeA (CX:CXT) (X:Cx) (E:XK):Prop:=∀ (pins:yyL) (σ:St) (H:Hp) (s:Shared) (e:Value) (s':Shared),Inv X pins σ H s->CX X.stack H s E e s'->X.xe e s'
section
variable {X:Cx} {CX:CXT} {k:Nat} {f C:Addr} {fd:FuncData} {ps:List Str} {sp:Sp} {dvs:List V} {ds:List Value} {E:XK} {x m:Str} {p pos apos:Pos} {e o:Expr} {es:List Expr} {ta:TE} {t:TA}
def ziF {pins:yyL} {σ:St} {H:Hp} {s:Shared} {Q:VK} {us:List Value} {vs:List V} (F:FnOk X.prog X.w X.K X.mg X.base CX k f fd ps sp) (hr:Room k X.A) (hb:zbk X.K fd ps ds) (hd:za4 dvs ds) (hx:zeA CX X E)
  (I:Inv X pins σ H s) (r:za4 vs us) (h:sp (vs ++ dvs) H Q E):wpAny (model X.prog X.w) X.A (call (.ref f) us) (EP X pins σ Q) X.xe s:=by
 have r2:za4 (vs ++ dvs) (us ++ ds):=r.append hd
 have hl:(us ++ ds).length=ps.length:=by rw [<- r2.length]; exact F.len _ _ _ _ h
 refine wpAny_call (codeAny_mono (F.run X.A X.stack s H ⟨us,[]⟩ (us ++ ds) (vs ++ dvs) Q E hr I.env0 (hb s us I.kIn hl) r2 h) fun r s' hq=>?_)
 cases r with
 | error e=>exact hx pins σ H s e s' I hq
 | ok fl =>
  cases fl with
  | ret u=>exact I.after hq
  | next=>exact False.elim hq
  | brk=>exact False.elim hq
  | cont=>exact False.elim hq
def zm4 (F:FnOk X.prog X.w X.K X.mg X.base CX k f fd ps sp) (hr:Room k X.A) (hg:Gl X x) (hm:X.mg x=some (.ref f)) (hk:W.keepIn X.K (.ref f)=true) (hb:zbk X.K fd ps ds) (hd:za4 dvs ds) (hx:zeA CX X E)
  (ha:PA X (e :: es) t) (hdb:yyD x:=by decide) (he:starEach (e :: es) X.env=(false,eval e X.env) :: starEach es X.env:=by rfl) (hpl:(backTo pos (starEach es X.env)).any (·.1)=false:=by rfl) :
  PE X (.Call (.Name x p) (e :: es) [] pos) (zoa sp dvs E t):=by
 intro pins s σ H Q I h; refine YO (zco I hg hm ?_ hdb)
 refine W.callWith_K (h₀:=X.base) I.ok.mod.kin hk (thn (ha pos pins s σ H _ I h) fun us s1 ⟨vs,H1,I1,r,q⟩=>⟨I1.kIn,?_⟩) he hpl
 exact ziF F hr hb hd hx I1 r q
def zgC {pl:Sem Bool} (he:PE X o ta) (c:Cls X.K C) (hm:Meth X.K C m f) (F:FnOk X.prog X.w X.K X.mg X.base CX k f fd ps sp) (hr:Room k X.A) (hb:zbk X.K fd ps ds) (hd:za4 dvs ds) (hx:zeA CX X E) (ha:PA X (e :: es) t)
  (hst:starEach (e :: es) X.env=(false,eval e X.env) :: starEach es X.env:=by rfl) (hpl:(backTo pos (starEach es X.env)).any (·.1)=false:=by rfl)
  (ht:eval (.Call (.Attribute o m apos) (e :: es) [] pos) X.env=(do
   let ov <- eval o X.env
   standAt apos.atName
   let (f,first) <- holding [ov] (getMethod ov m pl)
   callWith pos f first (backTo pos (starEach (e :: es) X.env)) (backToKw pos (keywordEach [] X.env))):=by rfl) :
  PE X (.Call (.Attribute o m apos) (e :: es) [] pos) (zn7 C m sp dvs E ta t):=by
 intro pins s σ H Q I h
 refine W.methodCall_KW (pl:=pl) (thn (he pins s σ H _ I h) fun u s1 ⟨x,H1,I1,rx,a,dx,fs,ex,ea,l,q⟩=>?_) ht
 subst ex
 obtain rfl:u=Value.ref a:=rx
 refine zdR I1 ea c hm l ?_
 refine W.callWith_K (first:=[.ref a]) (h₀:=X.base) I.ok.mod.kin hm.kp (thn (ha pos pins s1 σ H1 _ I1 q) fun us s2 ⟨vs,H2,I2,r,q2⟩=>⟨I2.kIn,?_⟩) hst hpl
 exact ziF (us:=.ref a :: us) (vs:=.ref a :: vs) F hr hb hd hx I2 (.cons rfl r) q2
def zhd {pl:Sem Bool} (he:PE X o ta) (c:Cls X.K C) (hm:Meth X.K C m f) (F:FnOk X.prog X.w X.K X.mg X.base CX k f fd ps sp) (hr:Room k X.A) (hb:zbk X.K fd ps ds) (hd:za4 dvs ds) (hx:zeA CX X E)
  (ht:eval (.Call (.Attribute o m apos) [] [] pos) X.env=(do
   let ov <- eval o X.env
   standAt apos.atName
   let (f,first) <- holding [ov] (getMethod ov m pl)
   callWith pos f first (backTo pos (starEach [] X.env)) (backToKw pos (keywordEach [] X.env))):=by rfl) :
  PE X (.Call (.Attribute o m apos) [] [] pos) (zn7 C m sp dvs E ta zrJ):=by
 intro pins s σ H Q I h
 refine W.methodCall_KW (pl:=pl) (thn (he pins s σ H _ I h) fun u s1 ⟨x,H1,I1,rx,a,dx,fs,ex,ea,l,q⟩=>?_) ht
 subst ex
 obtain rfl:u=Value.ref a:=rx
 refine zdR I1 ea c hm l ?_
 exact W.callWith_K0 (first:=[.ref a]) I1.kIn hm.kp (ziF (us:=[.ref a]) (vs:=[.ref a]) F hr hb hd hx I1 (.cons rfl .nil) q)
structure Mk (K:W.Frag) (C f:Addr):Prop where
 makes:W.makesIn K C=true
 init:W.findIn K (.ref C) "__init__"=some (some (.ref f))
 fn:W.isFn K (.ref f)=true
 kp:W.keepIn K (.ref C)=true
def zkn {pins:yyL} {σ:St} {H:Hp} {s:Shared} {Q:VK} {us:List Value} {vs:List V} (M:Mk X.K C f) (F:FnOk X.prog X.w X.K X.mg X.base CX k f fd ps sp) (hr:Room (k+1) X.A) (hb:zbk X.K fd ps ds) (hd:za4 dvs ds)
  (hx:zeA CX X E) (I:Inv X pins σ H s) (r:za4 vs us)
  (h:∀ x dx,H x=none->H dx=none->dx≠x->sp (.ref x :: (vs ++ dvs)) (upd (upd H dx (.own x)) x (.ins C dx [])) (fun v H2=>v=.non/\Q (.ref x) H2) E) :
  wpAny (model X.prog X.w) X.A (call (.ref C) us) (EP X pins σ Q) X.xe s:=by
 have hq:=h (s.heap.objs.size+1) s.heap.objs.size (I.hok.fresh (Nat.le_succ _)) (I.hok.fresh (yJ _)) (yP (Nat.lt_succ_self _)); have I2:=Inv.made (C:=C) I
 have r2:za4 (V.ref (s.heap.objs.size+1) :: (vs ++ dvs)) (Value.ref (s.heap.objs.size+1) :: (us ++ ds)):=.cons rfl (r.append hd)
 have hl:(Value.ref (s.heap.objs.size+1) :: us ++ ds).length=ps.length:=by
  have e:=r2.length; rw [F.len _ _ _ _ hq] at e; exact e.symm
 refine wpAny_call (zkX (f:=f) I.kIn M.makes M.init (beq_iff_eq.mp M.fn) (codeAny_mono (F.run _ X.stack _ _ ⟨Value.ref (s.heap.objs.size+1) :: us,[]⟩ (Value.ref (s.heap.objs.size+1) :: (us ++ ds)) _ _ E (hr.make C us [])
  (I2.env0.make C us []) (hb _ (Value.ref (s.heap.objs.size+1) :: us) I2.kIn hl) r2 hq) fun r s' hq'=>?_))
 cases r with
 | error e=>exact hx pins σ _ _ e s' I2 hq'
 | ok fl =>
  cases fl with
  | ret u =>
   obtain ⟨v,H',I3,rv,ev,q3⟩:=I2.after hq'; subst ev; exact ⟨rv,⟨V.ref (s.heap.objs.size+1),H',I3,rfl,q3⟩⟩
  | next=>exact False.elim hq'
  | brk=>exact False.elim hq'
  | cont=>exact False.elim hq'
def zi1 (M:Mk X.K C f) (F:FnOk X.prog X.w X.K X.mg X.base CX k f fd ps sp) (hr:Room (k+1) X.A) (hg:Gl X x) (hm:X.mg x=some (.ref C)) (hb:zbk X.K fd ps ds) (hd:za4 dvs ds) (hx:zeA CX X E)
  (ha:PA X (e :: es) t) (hdb:yyD x:=by decide) (he:starEach (e :: es) X.env=(false,eval e X.env) :: starEach es X.env:=by rfl) (hpl:(backTo pos (starEach es X.env)).any (·.1)=false:=by rfl) :
  PE X (.Call (.Name x p) (e :: es) [] pos) (zqF C sp dvs E t):=by
 intro pins s σ H Q I h; refine YO (zco I hg hm ?_ hdb)
 refine W.callWith_K (h₀:=X.base) I.ok.mod.kin M.kp (thn (ha pos pins s σ H _ I h) fun us s1 ⟨vs,H1,I1,r,q⟩=>⟨I1.kIn,?_⟩) he hpl
 exact zkn M F hr hb hd hx I1 r q
end
section
variable {X:Cx} {CX:CXT} {k:Nat} {f C:Addr} {fd:FuncData} {ps ks:List Str} {sp:Sp} {E:XK} {x m:Str} {p pos apos kpos:Pos} {e o:Expr} {es:List Expr} {kws:List Keyword} {te ta:TE} {t tk:TA} {nm:Option Str}
variable {g:List Value->List Value->List Value} {gV:List V->List V->List V}
end
structure FnScope (N P:List Str) (sc:Scope):Prop where
 kind:sc.kind=.function
 co:sc.isCoroutine=false
 gen:sc.isGenerator=false
 nd:N.Nodup
 pre:N.take P.length=P
 par:∀ x ∈ P,sc.names.lookup x=some .local\/sc.names.lookup x=some .cell
 nofree:∀ y ∈ sc.names,y.2≠.free
theorem zgj {kindOf:Str->Option NameKind} {x:Str}:∀ {binds:List (Str × Value)} {m:Str->Option Value},(∀ v,(x,v) ∉ binds)->bindL kindOf binds m x=m x
 | [],_,_=>rfl
 | (n,v) :: r,m,h=>by
  unfold bindL
  rw [zgj fun w hw=>h w (yc _ hw)]
  split
  ·have:x≠n:=by rintro rfl; exact h v yt
   simp [this]
  ·rfl
theorem zgl {kindOf:Str->Option NameKind} {x:Str}:∀ {binds:List (Str × Value)} {m:Str->Option Value},(∀ v,(x,v) ∉ binds)->bindC kindOf binds m x=m x
 | [],_,_=>rfl
 | (n,v) :: r,m,h=>by
  unfold bindC
  rw [zgl fun w hw=>h w (yc _ hw)]
  split
  ·rfl
  ·have:x≠n:=by rintro rfl; exact h v yt
   simp [this]
theorem zgk {kindOf:Str->Option NameKind} {x:Str} {v:Value}:∀ {P:List Str} {vs:List Value} {i:Nat} {m:Str->Option Value},P.Nodup->P[i]?=some x->vs[i]?=some v->kindOf x=some .local ->
  bindL kindOf (P.zip vs) m x=some v
 | [],_,_,_,_,h,_,_=>by simp at h
 | _ :: _,[],_,_,_,_,h,_=>by simp at h
 | p :: P,w :: vs,0,m,nd,h1,h2,hk=>by
  simp at h1 h2; subst h1; subst h2
  show bindL kindOf ((p,w) :: P.zip vs) m p=_
  unfold bindL
  rw [zgj fun v hv=>(List.nodup_cons.mp nd).1 (List.of_mem_zip hv).1,yW hk]
  simp
 | p :: P,w :: vs,i+1,m,nd,h1,h2,hk=>by
  show bindL kindOf ((p,w) :: P.zip vs) m x=_
  unfold bindL
  exact zgk (i:=i) (List.nodup_cons.mp nd).2 (by simpa using h1) (by simpa using h2) hk
theorem zgm {kindOf:Str->Option NameKind} {x:Str} {v:Value}:∀ {P:List Str} {vs:List Value} {i:Nat} {m:Str->Option Value},P.Nodup->P[i]?=some x->vs[i]?=some v->kindOf x≠some .local ->
  bindC kindOf (P.zip vs) m x=some v
 | [],_,_,_,_,h,_,_=>by simp at h
 | _ :: _,[],_,_,_,_,h,_=>by simp at h
 | p :: P,w :: vs,0,m,nd,h1,h2,hk=>by
  simp at h1 h2; subst h1; subst h2
  show bindC kindOf ((p,w) :: P.zip vs) m p=_
  unfold bindC
  rw [zgl fun v hv=>(List.nodup_cons.mp nd).1 (List.of_mem_zip hv).1,yS hk]
  simp
 | p :: P,w :: vs,i+1,m,nd,h1,h2,hk=>by
  show bindC kindOf ((p,w) :: P.zip vs) m x=_
  unfold bindC
  exact zgm (i:=i) (List.nodup_cons.mp nd).2 (by simpa using h1) (by simpa using h2) hk
def start (N:List Str) (vs:List V):St:=vs.map some ++ List.replicate (N.length-vs.length) none
def zd8 (CX:CXT) (P:Program) (w:World) (K:W.Frag) (mg:Str->Option Value) (base:Heap) (N:List Str) (qual:Str) (scope:Scope) (f:Addr) (cd:Value) (A:Around) (outer:List Env) (s:Shared) (H:Hp) (E:XK):Cx where
 prog:=P
 w:=w
 K:=K
 mg:=mg
 base:=base
 A:=A.deeper (envOfC qual scope s.heap.objs.size f cd)
 N:=N
 s₀:=s
 H₀:=H
 env:=envOfC qual scope s.heap.objs.size f cd
 outer:=outer
 stack:=envOfC qual scope s.heap.objs.size f cd :: outer
 ex:=[]
 calm:=true
 fn:=fun _=>true
 pn:=[]
 xe:=fun e s'=>wpAny (model P w) (A.deeper (envOfC qual scope s.heap.objs.size f cd)) (leaving (envOfC qual scope s.heap.objs.size f cd) e) (fun _ s''=>CX outer H s E e s'') (fun e' s''=>CX outer H s E e' s'') s'
def zhz {sc:Scope} {n:Nat} {x:Str} (h:sc.names.lookup x=some .cell):∃ c,(cellsFrom n sc.names []).lookup x=some c:=by
 have q:=W.cellsFrom_some sc.names n [] (.inl h); exact Option.isSome_iff_exists.mp q
def zf6 {CX:CXT} {P:Program} {w:World} {K:W.Frag} {mg:Str->Option Value} {base:Heap} {N ps:List Str} {qual:Str} {scope:Scope} {f:Addr} {cd:Value} {A:Around} {outer:List Env} {s s1:Shared} {H:Hp} {E:XK} {us:List Value} {vs:List V}
  (S:FnScope N ps scope) (hd:A.handled=none) (e0:Env0 P w K mg base A outer s H) (hl:vs.length=ps.length) (r:za4 vs us)
  (x:InCallC s s.heap.objs.size (bindL (envOfC qual scope s.heap.objs.size f cd).kindOf (ps.zip us) fun _=>none) (cellsFrom (s.heap.objs.size+1) scope.names []) (bindC (envOfC qual scope s.heap.objs.size f cd).kindOf (ps.zip us) fun _=>none) s1) :
  Inv (zd8 CX P w K mg base N qual scope f cd A outer s H E) [] (start N vs) H s1:=by
 have hpl:ps.length<=N.length:=by have:=yg List.length S.pre; rw [yT] at this; omega
 obtain ⟨h1,tk,rfl,hk⟩:=x.done
 have noA:∀ b:Addr,b ∉ (zd8 CX P w K mg base N qual scope f cd A outer s H E).ex:=fun b z=>yU (show b ∈ ([]:List Addr) from z) (by simp)
 refine ⟨⟨e0.mod,S.kind,rfl,rfl,yJ _,fun y z c h1 h2=>?_,fun y hy=>?_,fun y c _ h=>?_,fun _=>hd,Around.frames_deeper e0.frames,.inr ⟨rfl,rfl⟩,fun b z=>yU z (noA b),e0.bs,e0.bsz,fun b _ _=>noA b,fun b z=>yU z (noA b),e0.funs,e0.frf,e0.tab⟩,
  rfl,e0.bare,Un.kept hk,⟨_,x.toInCall.ns,fun i y v h1 h2 h3=>?_⟩,fun y c h=>⟨_,x.cell y c h⟩,e0.hok.fresh (yJ _),fun y c h=>?_,fun p hp=>yU (show p ∈ ([]:yyL) from hp) (by simp),e0.hok.kept hk,?_⟩
 ·exact name_of_addr x.apart (PySem.mem_of_lookup h1) (PySem.mem_of_lookup h2)
 ·have hy:scope.names.lookup y=some .cell\/scope.names.lookup y=some .free:=hy
  rcases hy with hy | hy
  ·exact zhz hy
  ·exact yU rfl (S.nofree _ (PySem.mem_of_lookup hy))
 ·exact Nat.le_of_lt (x.above y c (PySem.mem_of_lookup h))
 ·have hi:i<vs.length:=by
   unfold start at h2
   by_cases hi:i<vs.length
   ·exact hi
   ·rw [yo (by simpa using hi)] at h2
    rw [Ye] at h2
    split at h2 <;> cases h2
  have ha:vs[i]?=some v:=by
   unfold start at h2
   rw [yV (by simpa using hi),yF] at h2
   cases e:vs[i]? with
   | none=>rw [e] at h2; cases h2
   | some a=>rw [e] at h2; cases h2; rfl
  obtain ⟨u,hu,rv⟩:=r.get ha
  have hp:ps[i]?=some y:=by
   rw [<- S.pre,List.getElem?_take_of_lt (by omega)]; exact h1
  have ndP:ps.Nodup:=by rw [<- S.pre]; exact S.nd.sublist (List.take_sublist _ _)
  refine ⟨u,rv,?_⟩
  rcases S.par y (yZ hp) with k | k
  ·exact .inl ⟨k,zgk ndP hp hu k⟩
  ·obtain ⟨c,e⟩:=zhz (n:=s.heap.objs.size+1) k
   refine .inr ⟨.inl k,c,e,?_⟩; have q:=x.cell y c e
   rw [zgm ndP hp hu (by show scope.names.lookup y≠_; rw [k]; decide)] at q
   exact q
 ·exact e0.hok.fresh (Nat.le_of_lt (x.above y c (PySem.mem_of_lookup h)))
 ·unfold start
  show _=N.length
  rw [yu,yE,Yk]; omega
def zpp {CX:CXT} {P:Program} {w:World} {K:W.Frag} {mg:Str->Option Value} {base:Heap} {k:Nat} {f:Addr} {name qual:Str} {params:Arguments} {body:List Stmt} {scope:Scope} {dV kV doc pm cdv ct oc:Value} {an od:Option Addr}
  {osl:Array (Option Value)} {N ps:List Str} {sp:Sp} (lk:K.lookup f=some ⟨oc,od,.func (W.fnOf name qual params body scope dV kV doc pm an cdv ct),osl⟩) (hcd:W.codeIn K cdv qual=true) (S:FnScope N ps scope)
  (len:∀ vs H Q E,sp vs H Q E->vs.length=ps.length)
  (hbody:∀ (A:Around) (outer:List Env) (s:Shared) (H:Hp) (vs:List V) (Q:VK) (E:XK),Room k (A.deeper (envOfC qual scope s.heap.objs.size f cdv))->sp vs H Q E ->
   ∃ t,PSs (zd8 CX P w K mg base N qual scope f cdv A outer s H E) body t/\t { nx:=fun _ H'=>Q .non H',rt:=Q } (start N vs) H) :
  FnOk P w K mg base CX (k+1) f (W.fnOf name qual params body scope dV kV doc pm an cdv ct) ps sp:=by
 refine ⟨len,fun A outer s H args us vs Q E hr e0 hb r hsp=>?_⟩
 have hl:=len _ _ _ _ hsp
 have KX:K.In s.heap:=e0.mod.kin.keeps fun b o e=>(e0.bs b o e).1
 have lim:s.heap.NoLimit:=e0.mod.nolimit.keeps fun b o e=>(e0.bs b o e).1
 have hkind:∀ y ∈ ps.zip us,scope.names.lookup y.1=some .local\/(scope.names.lookup y.1=some .cell/\((cellsFrom (s.heap.objs.size+1) scope.names []).lookup y.1).isSome=true):=fun ⟨n,v⟩ hy=>by
  rcases S.par n (List.of_mem_zip hy).1 with q | q
  ·exact .inl q
  ·exact .inr ⟨q,W.cellsFrom_some _ _ _ (.inl q)⟩
 refine codeAny_call_function hr.depth (KX _ _ lk) rfl S.co S.gen rfl (W.codeRec_of KX hcd) (hb _ _ _ _ ?_)
 refine wpAny_newFunctionEnv_cells S.kind hkind fun env he s1 x=>?_
 subst he; refine ⟨lim.keeps x.toInCall.keep,codeAny_func ?_⟩; obtain ⟨t,ht,hq⟩:=hbody A outer s H vs Q E (hr.deeper _) hsp
 have I:Inv (zd8 CX P w K mg base N qual scope f cdv A outer s H E) [] (start N vs) H s1:=zf6 S hr.hd e0 hl r x
 refine ym (ht [] s1 (start N vs) H _ I hq) (fun fl s' hs=>?_) fun e s' hs=>hs
 have fin:∀ {σ':St} {H':Hp} {v:V} {u:Value},Inv (zd8 CX P w K mg base N qual scope f cdv A outer s H E) [] σ' H' s'->zbI v u->Q v H'->CE outer P w H s Q u s' :=
  fun {σ' H' v u} J rv q=>⟨v,H',J.os,J.bare,J.base,J.hok,rv,q⟩
 cases fl with
 | ret u =>
  obtain ⟨v,σ',H',J,rv,q⟩:=hs; exact fin J rv q
 | next =>
  obtain ⟨σ',H',J,q⟩:=hs; exact fin (v:=V.non) (u:=Value.none) J rfl q
 | brk =>
  obtain ⟨_,_,_,q⟩:=hs; exact False.elim q
 | cont =>
  obtain ⟨_,_,_,q⟩:=hs; exact False.elim q
section
variable {X:Cx} {x:Str} {p pos:Pos} {e:Expr} {es:List Expr} {t:TA} {id T:String} {r:List V->Hp->VK->Prop}
def tCB (r:List V->Hp->VK->Prop) (t:TA):TE:=fun σ H Q=>t σ H fun vs H1=>r vs H1 Q
def zkI (hc:zcp X (.builtin id) r) (hg:Gl X x) (hm:X.mg x=none) (hv:bootBuiltins x=some (.builtin id)) (ha:PA X (e :: es) t) (hn:x≠"__name__":=by decide) (hdb:yyD x:=by decide)
  (he:starEach (e :: es) X.env=(false,eval e X.env) :: starEach es X.env:=by rfl) (hpl:(backTo pos (starEach es X.env)).any (·.1)=false:=by rfl):PE X (.Call (.Name x p) (e :: es) [] pos) (tCB r t):=by
 intro pins s σ H Q I h; refine YO (zeT I hg hm hv ?_ hn hdb)
 exact PyProof.Rows.callWith_builtin1 (thn (ha pos pins s σ H _ I h) fun us s1 ⟨vs,H1,I1,r1,q1⟩=>hc pins s1 σ H1 vs us Q I1 r1 q1) he hpl
def zei (hc:zcp X (.type T) r) (hg:Gl X x) (hm:X.mg x=none) (hv:bootBuiltins x=some (.type T)) (ha:PA X (e :: es) t) (hn:x≠"__name__":=by decide) (hdb:yyD x:=by decide)
  (he:starEach (e :: es) X.env=(false,eval e X.env) :: starEach es X.env:=by rfl) (hpl:(backTo pos (starEach es X.env)).any (·.1)=false:=by rfl):PE X (.Call (.Name x p) (e :: es) [] pos) (tCB r t):=by
 intro pins s σ H Q I h; refine YO (zeT I hg hm hv ?_ hn hdb)
 exact Yl (thn (ha pos pins s σ H _ I h) fun us s1 ⟨vs,H1,I1,r1,q1⟩=>hc pins s1 σ H1 vs us Q I1 r1 q1) he hpl
end
end L2
variable {X:L2.Cx} {prog:PySem.Program} {P:PySem.Program} {w:PySem.World} {K:PySem.W.Frag} {mg:PySem.Str->Option PySem.Value} {base:PySem.Heap} {A:PySem.Around} {E:PySem.Value->PySem.Shared->Prop} {s:PySem.Shared} {pins:List (PySem.Addr × PySem.Obj)} {σ:L2.St} {H:L2.Hp}
namespace HT
open PySem PyProof.Rows
section
open PySem.SeqAt
open PySem.AutoSeq1 (wpAny_loadPart')
open PySem.MeetsSeq PySem.MeetsSeq2 PySem.MeetsSeq3
end
section
def cat_tup {t b:Addr} {vs ws:List Value} {Q:Value->Shared->Prop} (ht:IsTup s.heap t vs.toArray) (hb:IsTup s.heap b ws.toArray) (hv:vs≠[])
  (h1:ws=[]->Q (.ref t) s) (h2:ws≠[]->Q (.ref s.heap.objs.size) { s with heap:=s.heap.push { cls:=.type "tuple",data:=.seq (vs ++ ws).toArray } })
  (hsz:vs.length+ws.length<=sizeLine):wpAny (model prog w) A (binaryOp .Add (.ref t) (.ref b)) Q E s:=by
 obtain ⟨⟨cls,dd,data,sl⟩,ho,hc,n,hd⟩:=id ht
 obtain ⟨⟨cls2,dd2,data2,sl2⟩,ho2,hc2,n2,hd2⟩:=id hb
 simp only at hc hd hc2 hd2
 subst hc hd hc2 hd2
 have e:vs.toArray ++ ws.toArray=(vs ++ ws).toArray:=by simp
 by_cases hw:ws=[]
 ·exact concat_meets ⟨_,ho,rfl⟩ ⟨_,ho2,rfl⟩ noFill_tuple_add seq_tuple_add PySem.F.slot_tuple_add PySem.F.entry_tuple_add (PySem.F.args_tuple_add_2 _ _)
   (tuple_addW1 t b vs.toArray ws.toArray n n2 dd dd2 sl sl2 (by simpa using hv) (by simp [hw])) ⟨ho,ho2,h1 hw⟩
 ·refine concat_meets ⟨_,ho,rfl⟩ ⟨_,ho2,rfl⟩ noFill_tuple_add seq_tuple_add PySem.F.slot_tuple_add PySem.F.entry_tuple_add (PySem.F.args_tuple_add_2 _ _)
   (tuple_addW2 t b vs.toArray ws.toArray n n2 dd dd2 sl sl2 (by simpa using hv) (by simpa using hw) (by rw [yQ,yQ]; exact hsz)) ⟨ho,ho2,?_⟩
  rw [e]; exact h2 hw
def sIx (n d:Nat):Option Int->Nat
 | none=>d
 | some v=>if v<0 then (v+(n:Int)).toNat else min v.toNat n
def sIx_none (n d:Nat):sIx n d none=d:=rfl
def sIx_nat (n d k:Nat):sIx n d (some (k:Int))=min k n:=by
 show (if (k:Int)<0 then ((k:Int)+(n:Int)).toNat else min (k:Int).toNat n)=min k n
 rw [yS (by omega),YI]
def zok (n d:Nat) (hd:d<=n) (o:Option Int):sIx n d o<=n:=by
 cases o with
 | none=>exact hd
 | some v =>
  show (if v<0 then (v+(n:Int)).toNat else min v.toNat n)<=n
  by_cases hv:v<0
  ·rw [yW hv]; omega
  ·rw [yS hv]; exact Nat.min_le_right _ _
def zjH (v:Int) (n d:Nat):(if v<0 then max (v+(n:Int)) 0 else min v (n:Int))=((sIx n d (some v):Nat):Int):=by
 show (if v<0 then max (v+(n:Int)) 0 else min v (n:Int))=(((if v<0 then (v+(n:Int)).toNat else min v.toNat n):Nat):Int)
 by_cases hv:v<0
 ·simp only [yW hv]; omega
 ·simp only [yS hv]; omega
def zif (lo hi:Option Int) (n:Nat):Builtin.Slice.sliceAdjust lo hi 1 (n:Int)=(((sIx n 0 lo:Nat):Int),((sIx n n hi:Nat):Int)):=by
 have h1:¬ ((1:Int)<0):=by omega
 unfold Builtin.Slice.sliceAdjust; simp only [h1,if_false]; refine Prod.ext ?_ ?_
 ·cases lo with
  | none=>rfl
  | some v=>exact zjH v n 0
 ·cases hi with
  | none=>rfl
  | some v=>exact zjH v n n
def zhU (i j:Nat):Builtin.Slice.slicePlaces (i:Int) (j:Int) 1=j-i:=by
 unfold Builtin.Slice.slicePlaces
 have h1:(1:Int) > 0:=by omega
 simp only [h1,if_true,Int.ediv_one]
 split <;> omega
def zeN {v:Value} {o:Option Int} {Q:Option Int->Shared->Prop} (p:IsPart v o) (h:Q o s):wpAny (model prog w) A (Builtin.Slice.slicePartIndex v) Q E s:=by
 cases p with
 | none=>exact slicePart_none h
 | int i t=>exact slicePart_int h
def zcE {sl:Addr} {vl vu:Value} {lo hi:Option Int} {n:Nat} {Q:Int × Int × Nat->Shared->Prop} (hs:s.heap.IsSliceOf sl vl vu .none) (pl:IsPart vl lo) (pu:IsPart vu hi)
  (h:Q (((sIx n 0 lo:Nat):Int),1,sIx n n hi-sIx n 0 lo) s):wpAny (model prog w) A (Builtin.Slice.sliceApplied (.ref sl) (pure (n:Int))) Q E s:=by
 obtain ⟨os,hos,hcs,hds⟩:=id hs; unfold Builtin.Slice.sliceApplied Builtin.Slice.sliceFields; refine yA (yA (yf hos hds (x:=vl) rfl (yA (yf hos hds (x:=vu) rfl (yA (yf hos hds (x:=.none) rfl (yG ?_))))))); refine yA (slicePart_none ?_)
 show wpAny _ _ (if ((1:Int) == 0)=true then _ else _) _ _ s
 rw [yS (by decide)]
 refine yA (zeN pl (yA (zeN pu (yA (yG ?_)))))
 show wpAny _ _ (match Builtin.Slice.sliceAdjust lo hi 1 (n:Int) with | (lo,hi)=>pure (lo,(1:Int),Builtin.Slice.slicePlaces lo hi 1)) _ _ s
 rw [zif lo hi n]
 show wpAny _ _ (pure (((sIx n 0 lo:Nat):Int),(1:Int),Builtin.Slice.slicePlaces ((sIx n 0 lo:Nat):Int) ((sIx n n hi:Nat):Int) 1)) _ _ s
 rw [zhU]; exact yG h
def zkA (xs:Array Value) (i k:Nat):((List.range k).filterMap fun (m:Nat)=>xs[((i:Int)+(m:Int) * 1).toNat]?).toArray=((xs.toList.drop i).take k).toArray:=by
 have e:(fun (m:Nat)=>xs[((i:Int)+(m:Int) * 1).toNat]?)=fun m=>xs[i+m]?:=by
  funext m
  have:((i:Int)+(m:Int) * 1).toNat=i+m:=by omega
  rw [this]
 rw [e]
 have:=pick_run xs i k
 rw [List.filterMap_map] at this
 have e2:((fun x=>xs[x]?) ∘ fun x=>i+x)=fun m=>xs[i+m]?:=rfl
 rw [e2] at this; rw [this]
def getItem_tuple_cut {t sl:Addr} {items:Array Value} {vl vu:Value} {lo hi:Option Int} {Q:Value->Shared->Prop} (ht:IsTup s.heap t items) (hs:s.heap.IsSliceOf sl vl vu .none) (pl:IsPart vl lo) (pu:IsPart vu hi)
  (hw:¬ (sIx items.size 0 lo=0/\sIx items.size items.size hi=items.size))
  (h:Q (.ref s.heap.objs.size) { s with heap:=s.heap.push { cls:=.type "tuple",data:=.seq ((items.toList.drop (sIx items.size 0 lo)).take (sIx items.size items.size hi-sIx items.size 0 lo)).toArray } })
  (hsz:items.size<=sizeLine):wpAny (model prog w) A (getItem (.ref t) (.ref sl)) Q E s:=by
 have htake:sizeOk (.seq ((items.toList.drop (sIx items.size 0 lo)).take (sIx items.size items.size hi-sIx items.size 0 lo)).toArray):=by
  show ((items.toList.drop (sIx items.size 0 lo)).take (sIx items.size items.size hi-sIx items.size 0 lo)).toArray.size<=sizeLine
  rw [yQ,yT,List.length_drop,Yc]; omega
 have hj:sIx items.size items.size hi<=items.size:=zok _ _ (yJ _) hi
 obtain ⟨os,hos,hcs,hds⟩:=id hs
 have hTs:s.TypeIs (.ref sl) "slice":=⟨os,hos,hcs⟩
 unfold getItem
 try with_reducible refine Ya ?_
 first | refine yA (yG ?_) | skip
 refine yA (wpAny_sequenceKey ht.typeIs (by decide) ?_)
 refine yA (wpAny_callSpecial?_slot (name:=Str.ofString "__getitem__") ht.typeIs Yb
  (YD Yb ht.typeIs entry_tuple_getitem ?_ (args_tuple_getitem _ _)))
 show wpAny _ _ (Builtin.Tuple.tupleItemsOf (.ref t) >>= _) _ _ s
 refine yA (tupleItemsOf_ ht ?_); refine yA (wpAny_typeOf hTs ?_)
 rw [yW (by decide)]
 refine yA (zcE hs pl pu ?_)
 have hno:¬ ((((sIx items.size 0 lo:Nat):Int) == 0 && (1:Int) == 1 && (sIx items.size items.size hi-sIx items.size 0 lo) == items.size)=true):=by
  intro q; rw [YQ,YQ] at q
  have q1:((sIx items.size 0 lo:Nat):Int)=0:=eq_of_beq q.1.1
  have q2:sIx items.size items.size hi-sIx items.size 0 lo=items.size:=eq_of_beq q.2
  exact hw ⟨by omega,by omega⟩
 show wpAny _ _ (if (((sIx items.size 0 lo:Nat):Int) == 0 && (1:Int) == 1 && (sIx items.size items.size hi-sIx items.size 0 lo) == items.size)=true then _ else _) _ _ s
 rw [yS hno,zkA]
 first
  | exact yA (m:=Builtin.Tuple.tupleExact _) (yi (yG ⟨_,rfl,yG h⟩) htake)
  | exact yA (m:=Builtin.Tuple.tupleExact _) (yi (yA (yG (yG ⟨_,rfl,yG h⟩))) htake)
  | exact yA (yA (m:=Builtin.Tuple.tupleExact _) (yi (yG (yG ⟨_,rfl,yG h⟩)) htake))
  | exact yA (yA (m:=Builtin.Tuple.tupleExact _) (yi (yG ⟨_,rfl,yG h⟩) htake))
end
end HT
namespace L2
open PySem PySem.Spec PyProof.Rows
abbrev TO:=St->Hp->(Option Int->Hp->Prop)->Prop
def PO (X:Cx) (e:Option Expr) (t:TO):Prop :=
 ∀ (pins:yyL) (s:Shared) (σ:St) (H:Hp) (Q:Option Int->Hp->Prop),Inv X pins σ H s->t σ H Q ->
  wpAny (model X.prog X.w) X.A (evalPart e X.env) (fun u s'=>∃ o H',Inv X pins σ H' s'/\IsPart u o/\Q o H') X.xe s
def zmt:TO:=fun _ H Q=>Q none H
def zqD (t:TE):TO:=fun σ H Q=>t σ H fun x H1=>∃ i,x=.int i/\Q (some i) H1
section
variable {e:Expr} {te:TE} {lo hi:Option Expr} {tl th:TO} {pos p2:Pos}
def zmU:PO X none zmt:=by
 intro pins s σ H Q I h; rw [evalPart_none]; exact yG ⟨none,H,I,.none,h⟩
def zmT (h:PE X e te):PO X (some e) (zqD te):=by
 intro pins s σ H Q I hw; rw [evalPart_some]
 refine thn (h pins s σ H _ I hw) fun u s1 ⟨x,H1,I1,r1,q1⟩=>?_
 obtain ⟨i,rfl,q⟩:=q1; obtain ⟨t,rfl⟩:=r1; exact ⟨some i,H1,I1,.int i t,q⟩
def SlR (X:Cx) (r:V->Option Int->Option Int->Hp->VK->Prop):Prop :=
 ∀ (pins:yyL) (s:Shared) (σ:St) (H:Hp) (x:V) (v vl vu:Value) (lo hi:Option Int) (sl:Addr) (Q:VK),Inv X pins σ H s->zbI x v->s.heap.IsSliceOf sl vl vu .none->IsPart vl lo->IsPart vu hi->r x lo hi H Q ->
  ∃ T id,typeLookup (.type T) "__getitem__"=pure (some (.builtin id))/\s.TypeIs v T/\wpAny (model X.prog X.w) X.A (getItem v (.ref sl)) (EP X pins σ Q) X.xe s
def SlR.or {r r':V->Option Int->Option Int->Hp->VK->Prop} (h:SlR X r) (h':SlR X r'):SlR X (fun x lo hi H Q=>r x lo hi H Q\/r' x lo hi H Q):=by
 intro pins s σ H x v vl vu lo hi sl Q I rx hs pl pu q
 rcases q with q | q
 ·exact h pins s σ H x v vl vu lo hi sl Q I rx hs pl pu q
 ·exact h' pins s σ H x v vl vu lo hi sl Q I rx hs pl pu q
def tSl (r:V->Option Int->Option Int->Hp->VK->Prop) (te:TE) (tl th:TO):TE:=fun σ H Q=>te σ H fun x H1=>tl σ H1 fun l H2=>th σ H2 fun u H3=>r x l u H3 Q
def zkC {r:V->Option Int->Option Int->Hp->VK->Prop} (hr:SlR X r) (he:PE X e te) (hl:PO X lo tl) (hu:PO X hi th):PE X (.Subscript e (.Slice lo hi none p2) pos) (tSl r te tl th):=by
 intro pins s σ H Q I h
 refine Subscript_ (thn (he pins s σ H _ I h) fun v s1 ⟨x,H1,I1,r1,q1⟩=>?_)
 refine wpAny_Slice (thn (hl pins s1 σ H1 _ I1 q1) fun vl s2 ⟨l,H2,I2,pl,q2⟩=>thn (hu pins s2 σ H2 _ I2 q2) fun vu s3 ⟨u,H3,I3,pu,q3⟩=>?_)
 rw [evalPart_none]; refine yG ?_
 have I4:Inv X pins σ H3 { s3 with heap:=s3.heap.push { cls:=.type "slice",data:=.fields #[vl,vu,.none] } }:=I3.kept (t':=s3.toks) fun b ob q=>yC _ q
 obtain ⟨T,id,hT,ht,hg⟩:=hr pins { s3 with heap:=s3.heap.push { cls:=.type "slice",data:=.fields #[vl,vu,.none] } } σ H3 x v vl vu l u s3.heap.objs.size Q I4 r1 (Heap.IsSliceOf.new ..) pl pu q3
 show wpAny (model X.prog X.w) X.A (subscriptTail e (.Slice lo hi none p2) v (.ref s3.heap.objs.size)) (EP X pins σ Q) X.xe { s3 with heap:=s3.heap.push { cls:=.type "slice",data:=.fields #[vl,vu,.none] } }
 exact tail_any (ops:=[.ref s3.heap.objs.size,v]) ht hT hg (by with_unfolding_all rfl)
def zjF (xs:List V) (lo hi:Option Int):List V:=(xs.drop (HT.sIx xs.length 0 lo)).take (HT.sIx xs.length xs.length hi-HT.sIx xs.length 0 lo)
def zew (xs:List V) (lo hi:Option Int):(zjF xs lo hi).length<=xs.length:=by
 unfold zjF; rw [yT,List.length_drop]; omega
def zso (K:W.Frag):V->Option Int->Option Int->Hp->VK->Prop:=fun x lo hi H Q=>∃ a xs,x=.ref a/\SqT K H a xs /\
 ¬ (HT.sIx xs.length 0 lo=0/\HT.sIx xs.length xs.length hi=xs.length)/\∀ p,H p=none->Q (.ref p) (upd H p (.tup (zjF xs lo hi)))
def zog:SlR X (zso X.K):=by
 intro pins s σ H x v vl vu lo hi sl Q I rx hs pl pu h; obtain ⟨a,xs,rfl,hx,hw,q⟩:=h; cases rx; obtain ⟨its,r,ht,hz⟩:=I.tuple hx
 have hlen:its.toArray.size=xs.length:=by rw [yQ]; exact r.length.symm
 refine ⟨"tuple",_,PyProof.Rows.slot_tuple_getitem.lookup,ht.typeIs,?_⟩
 refine HT.getItem_tuple_cut ht hs pl pu (by rw [hlen]; exact hw) ?_ (by rw [hlen]; exact hz)
 rw [hlen]
 refine ⟨.ref s.heap.objs.size,_,I.laid (t':=s.toks) (o:=.tup (zjF xs lo hi)) (fun b ob q=>yC _ q) (yJ _) ?_,rfl,q _ (I.hok.fresh (yJ _))⟩
 exact ⟨yj (zew xs lo hi) hz,_,(r.drop (HT.sIx xs.length 0 lo)).take (HT.sIx xs.length xs.length hi-HT.sIx xs.length 0 lo),IsTup.new _ _⟩
def zqZ (K:W.Frag):R2:=fun x y H Q=>∃ a b xs ys,x=.ref a/\y=.ref b/\SqT K H a xs/\SqT K H b ys/\xs≠[]/\xs.length+ys.length<=sizeLine /\
 (ys=[]->Q (.ref a) H)/\(ys≠[]->∀ p,H p=none->Q (.ref p) (upd H p (.tup (xs ++ ys))))
def za4.nil_iff {xs:List V} {us:List Value} (r:za4 xs us):us=[]↔xs=[]:=by
 cases r with
 | nil=>simp
 | cons _ _=>simp
def zm9:OpR X (binaryOp .Add) (zqZ X.K):=by
 intro pins s σ H x y v u Q I rx ry h; obtain ⟨a,b,xs,ys,rfl,rfl,ha,hb,hx,hz,q1,q2⟩:=h; cases rx; cases ry; obtain ⟨its,r1,p1,_⟩:=I.tuple ha; obtain ⟨its2,r2,p2,_⟩:=I.tuple hb
 refine HT.cat_tup p1 p2 (fun z=>hx (r1.nil_iff.mp z)) (fun z=>⟨.ref a,H,I,rfl,q1 (r2.nil_iff.mp z)⟩) (fun z=>?_) (by rw [<- r1.length,<- r2.length]; exact hz)
 refine ⟨.ref s.heap.objs.size,_,I.laid (t':=s.toks) (o:=.tup (xs ++ ys)) (fun b ob q=>yC _ q) (yJ _) ?_,rfl,q2 (fun w=>z (r2.nil_iff.mpr w)) _ (I.hok.fresh (yJ _))⟩
 exact ⟨by rw [yu]; exact hz,_,r1.append r2,IsTup.new _ _⟩
end
def ixN (n:Nat) (i:Int):Option Nat:=if 0<=i then (if i<n then some i.toNat else none) else if -(n:Int)<=i then some (i+n).toNat else none
def atI {α:Type} (xs:List α) (i:Int):Option α:=(ixN xs.length i).bind fun j=>xs[j]?
def znu {n:Nat} {i:Int} {j:Nat} (h:ixN n i=some j):seqIndex? i n=some j/\j<n/\-(n:Int)<=i/\i<n:=by
 unfold ixN at h
 by_cases h0:0<=i
 ·rw [yW h0] at h
  by_cases h1:i<n
  ·rw [yW h1] at h
   have e:i.toNat=j:=Option.some.inj h
   exact ⟨by rw [seqIndex_of h0 h1,e],by omega,by omega,h1⟩
  ·rw [yS h1] at h; cases h
 ·rw [yS h0] at h
  by_cases h1:-(n:Int)<=i
  ·rw [yW h1] at h
   have e:(i+n).toNat=j:=Option.some.inj h
   exact ⟨by rw [seqIndex_neg (by omega) h1,e],by omega,h1,by omega⟩
  ·rw [yS h1] at h; cases h
def zgU {α:Type} {xs:List α} {i:Int} {v:α} (h:atI xs i=some v):∃ j,seqIndex? i xs.length=some j/\xs[j]?=some v/\j<xs.length/\-(xs.length:Int)<=i/\i<xs.length:=by
 unfold atI at h
 cases e:ixN xs.length i with
 | none=>rw [e] at h; cases h
 | some j =>
  rw [e] at h; obtain ⟨h1,h2,h3,h4⟩:=znu e; exact ⟨j,h1,h,h2,h3,h4⟩
def zbY {α:Type} {xs:List α} {j:Nat} {v:α} (h:xs[j]?=some v):atI xs (j:Int)=some v:=by
 have hj:j<xs.length:=(yD.mp h).1
 have e:ixN xs.length (j:Int)=some j:=by
  unfold ixN
  rw [yW (by omega),yW (by omega)]; simp
 unfold atI; rw [e]; exact h
def zfx {α:Type} (xs:List α) (v:α):atI (xs ++ [v]) (-1)=some v:=by
 have hl:(xs ++ [v]).length=xs.length+1:=by simp
 have e:ixN (xs ++ [v]).length (-1)=some xs.length:=by
  unfold ixN
  rw [hl,yS (by decide),yW (by omega)]
  congr 1
  omega
 unfold atI; rw [e]
 show (xs ++ [v])[xs.length]?=some v
 simp
def zjV (b:Expr):Prop:=∀ o i,subscripted b false o i=operate [o,i] (getItem o i)
def IxR (X:Cx) (r:R2):Prop :=
 ∀ (value slice:Expr) (pins:yyL) (s:Shared) (σ:St) (H:Hp) (x y:V) (v u:Value) (Q:VK),Inv X pins σ H s->zbI x v->zbI y u->r x y H Q ->
  subscripted slice false v u=operate [v,u] (getItem v u)->wpAny (model X.prog X.w) X.A (subscriptTail value slice v u) (EP X pins σ Q) X.xe s
def MtR (X:Cx) (id:String) (r:V->List V->Hp->VK->Prop):Prop :=
 ∀ (pins:yyL) (s:Shared) (σ:St) (H:Hp) (x:V) (xs:List V) (v:Value) (us:List Value) (Q:VK),Inv X pins σ H s->zbI x v->za4 xs us->r x xs H Q ->
  wpAny (model X.prog X.w) X.A (call (.builtin id) (v :: us)) (EP X pins σ Q) X.xe s
section
variable {a b:Expr} {ta tb:TE} {pos:Pos}
def IxR.or {r r':R2} (h:IxR X r) (h':IxR X r'):IxR X (fun x y H Q=>r x y H Q\/r' x y H Q):=by
 intro value slice pins s σ H x y v u Q I rx ry q hs
 rcases q with q | q
 ·exact h value slice pins s σ H x y v u Q I rx ry q hs
 ·exact h' value slice pins s σ H x y v u Q I rx ry q hs
def zmY {r:R2} (hr:IxR X r) (ha:PE X a ta) (hb:PE X b tb) (hs:zjV b):PE X (.Subscript a b pos) (tOp r ta tb):=by
 intro pins s σ H Q I h
 exact Subscript_ (zrD ha hb I h fun v u s2 x y H2 I2 rx ry q=>hr a b pins s2 σ H2 x y v u Q I2 rx ry q (hs _ _))
def zrR (K:W.Frag):R2:=fun x y H Q=>∃ p xs i v,x=.ref p/\y=.int i/\SqL K H p xs/\atI xs i=some v/\Q v H
def zrP (K:W.Frag):R2:=fun x y H Q=>∃ p xs i v,x=.ref p/\y=.int i/\SqT K H p xs/\atI xs i=some v/\Q v H
def zrQ:R2:=fun x y H Q=>∃ z i c,x=.str z/\y=.int i/\z.length<=sizeLine/\atI z.cps.toList i=some c/\Q (.str ⟨#[c]⟩) H
def zjk:IxR X (zrR X.K):=by
 intro value slice pins s σ H x y v u Q I rx ry h hs; obtain ⟨p,xs,i,z,rfl,rfl,hq,he,q⟩:=h; cases rx; obtain ⟨t,rfl⟩:=ry; obtain ⟨its,r,pl,hz⟩:=I.list hq; obtain ⟨j,h1,h2,h3,h4,h5⟩:=zgU he; obtain ⟨w,ew,rw'⟩:=r.get h2; have hl:=r.length; have hn:=zf2
 have fin:EP X pins σ Q w s:=⟨z,H,I,rw',q⟩
 by_cases h0:0<=i
 ·have hj:i.toNat=j:=by
   rw [seqIndex_of h0 h5] at h1; exact Option.some.inj h1
  exact item_listR pl.isList h0 (by omega) (by rw [hj]; simpa using ew) fin hs
 ·have hj:(i+(its.toArray.size:Int)).toNat=j:=by
   rw [seqIndex_neg (by omega) h4] at h1
   rw [yQ,<- hl]; exact Option.some.inj h1
  exact subscriptTail_builtinR (x:=w) pl.isList.typeIs slot_list_getitem.lookup
   (wpAny_getItem_list_neg (Q:=fun r s'=>r=w/\EP X pins σ Q r s') pl.isList (by omega) (by rw [yQ] <;> omega) (by omega) (by rw [hj]; simpa using ew) ⟨rfl,fin⟩) hs
def zl7:IxR X (zrP X.K):=by
 intro value slice pins s σ H x y v u Q I rx ry h hs; obtain ⟨p,xs,i,z,rfl,rfl,hq,he,q⟩:=h; cases rx; obtain ⟨t,rfl⟩:=ry; obtain ⟨its,r,pl,hz⟩:=I.tuple hq; obtain ⟨j,h1,h2,h3,h4,h5⟩:=zgU he; obtain ⟨w,ew,rw'⟩:=r.get h2; have hl:=r.length; have hn:=zf2
 have fin:EP X pins σ Q w s:=⟨z,H,I,rw',q⟩
 exact subscriptTail_builtinR (x:=w) pl.typeIs slot_tuple_getitem.lookup
  (getItem_tuple (j:=j) (Q:=fun r s'=>r=w/\EP X pins σ Q r s') pl (by omega) (by omega) (by rw [yQ,<- hl]; exact h1) (by simpa using ew) ⟨rfl,fin⟩) hs
def zpi:IxR X zrQ:=by
 intro value slice pins s σ H x y v u Q I rx ry h hs; obtain ⟨z,i,c,rfl,rfl,hz,he,q⟩:=h; obtain ⟨t,rfl⟩:=rx; obtain ⟨t',rfl⟩:=ry; obtain ⟨j,h1,h2,h3,h4,h5⟩:=zgU he
 have hl:z.cps.toList.length=z.length:=by simp [Str.length]
 rw [hl] at h1 h4 h5; have hn:=zf2
 exact tail_any (typeIs_str s z t) slot_str_getitem.lookup (getItem_str (c:=c) (by
  have e1:decide (i< -(2 ^ 63:Int))=false:=yY (by omega)
  have e2:decide (i >= 2 ^ 63)=false:=yY (by omega)
  rw [e1,e2,Bool.or_false]) (by rw [h1]; simpa using h2) ⟨.str ⟨#[c]⟩,H,I.tok _,⟨_,rfl⟩,q⟩) hs
def rIx (K:W.Frag):R2:=fun x y H Q=>zrR K x y H Q\/zrP K x y H Q\/zrQ x y H Q
def zpj:IxR X (rIx X.K):=zjk.or (zl7.or zpi)
def zfI (lo hi:Option Int) (n:Nat):(sliceBounds lo hi none n).1=((HT.sIx n 0 lo:Nat):Int)/\(sliceBounds lo hi none n).2.1=((HT.sIx n n hi:Nat):Int)/\(sliceBounds lo hi none n).2.2=1:=by
 refine ⟨?_,?_,rfl⟩
 ·cases lo with
  | none=>simp [sliceBounds,HT.sIx]
  | some i =>
   simp only [sliceBounds,HT.sIx,Option.getD_none,show (1:Int) > 0 by decide,if_true]
   by_cases h:i<0
   ·simp only [h,if_true] <;> omega
   ·simp only [h,if_false] <;> omega
 ·cases hi with
  | none=>simp [sliceBounds,HT.sIx]
  | some i =>
   simp only [sliceBounds,HT.sIx,Option.getD_none,show (1:Int) > 0 by decide,if_true]
   by_cases h:i<0
   ·simp only [h,if_true] <;> omega
   ·simp only [h,if_false] <;> omega
def ze4 (its:List Value) (lo hi:Option Int):slicePick its.toArray lo hi none=((its.drop (HT.sIx its.length 0 lo)).take (HT.sIx its.length its.length hi-HT.sIx its.length 0 lo)).toArray:=by
 obtain ⟨h1,h2,h3⟩:=zfI lo hi its.toArray.size; unfold slicePick; rw [h1,h2,h3]
 simp only [sliceRange_one,pick_run,yQ] <;> rfl
def zsq (K:W.Frag):V->Option Int->Option Int->Hp->VK->Prop:=fun x lo hi H Q=>∃ a xs,x=.ref a/\SqL K H a xs/\∀ p,H p=none->Q (.ref p) (upd H p (.lst (zjF xs lo hi)))
def zmy:SlR X (zsq X.K):=by
 intro pins s σ H x v vl vu lo hi sl Q I rx hs pl pu h; obtain ⟨a,xs,rfl,hx,q⟩:=h; cases rx; obtain ⟨its,r,ht,hz⟩:=I.list hx; have hlen:=r.length; refine ⟨"list",_,slot_list_getitem.lookup,ht.isList.typeIs,?_⟩
 refine wpAny_getItem_list_slice ht.isList hs pl pu .none (by simp) ?_ (by rw [yQ] <;> omega)
 rw [ze4,<- hlen]
 refine ⟨.ref s.heap.objs.size,_,I.laid (t':=s.toks) (o:=.lst (zjF xs lo hi)) (fun b ob q=>yC _ q) (yJ _) ?_,rfl,q _ (I.hok.fresh (yJ _))⟩
 exact ⟨yj (zew xs lo hi) hz,_,0,(r.drop (HT.sIx xs.length 0 lo)).take (HT.sIx xs.length xs.length hi-HT.sIx xs.length 0 lo),yI _ rfl⟩
def zev:V->Bool
 | .non=>true
 | .bl _=>true
 | .int _=>true
 | .str _=>true
 | _=>false
def eqV:V->V->Bool
 | .non,.non=>true
 | .bl a,.bl b=>a == b
 | .bl a,.int b=>(if a then 1 else 0) == b
 | .int a,.bl b=>a == (if b then 1 else 0)
 | .int a,.int b=>a == b
 | .str a,.str b=>a == b
 | _,_=>false
def zjv {A:Around} {s:Shared} {y x:V} {u v:Value} (ry:zbI y u) (rx:zbI x v) (fy:zev y=true) (fx:zev x=true):SeqAt.EqAt A s u v (eqV y x):=by
 cases y with
 | non =>
  cases ry
  cases x with
  | non=>cases rx; exact SeqAt.EqAt.same _
  | bl b=>cases rx; exact SeqAt.EqAt.none_bool b
  | int b=>obtain ⟨t,rfl⟩:=rx; exact SeqAt.EqAt.none_int b t
  | str b=>obtain ⟨t,rfl⟩:=rx; exact SeqAt.EqAt.none_str b t
  | _=>exact yU (show false=true from fx) yN
 | bl a =>
  cases ry
  cases x with
  | non=>cases rx; exact SeqAt.EqAt.bool_none a
  | bl b=>cases rx; exact SeqAt.EqAt.bool_bool a b
  | int b=>obtain ⟨t,rfl⟩:=rx; exact SeqAt.EqAt.bool_int a b t
  | str b=>obtain ⟨t,rfl⟩:=rx; exact SeqAt.EqAt.bool_str a b t
  | _=>exact yU (show false=true from fx) yN
 | int a =>
  obtain ⟨t',rfl⟩:=ry
  cases x with
  | non=>cases rx; exact SeqAt.EqAt.int_none a t'
  | bl b=>cases rx; exact SeqAt.EqAt.int_bool a t' b
  | int b=>obtain ⟨t,rfl⟩:=rx; exact SeqAt.EqAt.int_int a t' b t
  | str b=>obtain ⟨t,rfl⟩:=rx; exact SeqAt.EqAt.int_str a t' b t
  | _=>exact yU (show false=true from fx) yN
 | str a =>
  obtain ⟨t',rfl⟩:=ry
  cases x with
  | non=>cases rx; exact SeqAt.EqAt.str_none a t'
  | bl b=>cases rx; exact SeqAt.EqAt.str_bool a t' b
  | int b=>obtain ⟨t,rfl⟩:=rx; exact SeqAt.EqAt.str_int a t' b t
  | str b=>obtain ⟨t,rfl⟩:=rx; exact SeqAt.EqAt.str_str a t' b t
  | _=>exact yU (show false=true from fx) yN
 | _=>exact yU (show false=true from fy) yN
def eqU (x:V) (u:Value):Bool:=match u with
 | .none=>eqV .non x
 | .bool b=>eqV (.bl b) x
 | .int i _=>eqV (.int i) x
 | .str z _=>eqV (.str z) x
 | _=>false
def zma {x y:V} {u:Value} (r:zbI y u) (f:zev y=true):eqU x u=eqV y x:=by
 cases y with
 | non=>cases r; rfl
 | bl b=>cases r; rfl
 | int i=>obtain ⟨t,rfl⟩:=r; rfl
 | str z=>obtain ⟨t,rfl⟩:=r; rfl
 | _=>exact yU (show false=true from f) yN
theorem zez {x:V}:∀ {xs:List V} {us:List Value},za4 xs us->xs.all zev=true->us.any (eqU x)=xs.any fun y=>eqV y x
 | _,_,.nil,_=>rfl
 | y :: xs,u :: us,.cons r t,f=>by
  rw [List.all_cons,YQ] at f; rw [List.any_cons,List.any_cons,zma r f.1,zez t f.2]
theorem zdv {A:Around} {s:Shared} {x:V} {v:Value} (rx:zbI x v) (fx:zev x=true):∀ {xs:List V} {us:List Value},za4 xs us->xs.all zev=true->∀ u ∈ us,SeqAt.EqAt A s u v (eqU x u)
 | _,_,.nil,_=>fun u hu=>by cases hu
 | y :: xs,u :: us,.cons r t,f=>fun u' hu=>by
  rw [List.all_cons,YQ] at f
  rcases yO.mp hu with rfl | hu
  ·rw [zma r f.1]; exact zjv r rx f.1 fx
  ·exact zdv rx fx t f.2 u' hu
def inV (x:V) (xs:List V):Bool:=xs.any fun y=>eqV y x
def rIn (K:W.Frag) (neg:Bool):R2:=fun x y H Q=>∃ p xs,y=.ref p/\(SqL K H p xs\/SqT K H p xs)/\zev x=true/\xs.all zev=true/\Q (.bl (if neg then !inV x xs else inV x xs)) H
def zi6:OpR X (compareOp .In) (rIn X.K false):=by
 intro pins s σ H x y v u Q I rx ry h; obtain ⟨p,xs,rfl,hq,fx,fs,q⟩:=h; cases ry
 rcases hq with hq | hq
 ·obtain ⟨its,r,pl,hz⟩:=I.list hq
  refine SeqAt.in_listAt (eqU x) pl.isList (fun w hw=>zdv rx fx r fs w (by simpa using hw)) ⟨.bl _,H,I,rfl,?_⟩
  rw [show its.toArray.any (eqU x)=its.any (eqU x) by simp,zez r fs]
  exact q
 ·obtain ⟨its,r,pl,hz⟩:=I.tuple hq
  refine SeqAt.in_tupleAt (eqU x) pl (fun w hw=>zdv rx fx r fs w (by simpa using hw)) ⟨.bl _,H,I,rfl,?_⟩
  rw [show its.toArray.any (eqU x)=its.any (eqU x) by simp,zez r fs]
  exact q
def zfR:OpR X (compareOp .NotIn) (rIn X.K true):=by
 intro pins s σ H x y v u Q I rx ry h; obtain ⟨p,xs,rfl,hq,fx,fs,q⟩:=h; cases ry
 rcases hq with hq | hq
 ·obtain ⟨its,r,pl,hz⟩:=I.list hq
  refine SeqAt.notIn_listAt (eqU x) pl.isList (fun w hw=>zdv rx fx r fs w (by simpa using hw)) ⟨.bl _,H,I,rfl,?_⟩
  rw [show its.toArray.any (eqU x)=its.any (eqU x) by simp,zez r fs]
  exact q
 ·obtain ⟨its,r,pl,hz⟩:=I.tuple hq
  refine SeqAt.notIn_tupleAt (eqU x) pl (fun w hw=>zdv rx fx r fs w (by simpa using hw)) ⟨.bl _,H,I,rfl,?_⟩
  rw [show its.toArray.any (eqU x)=its.any (eqU x) by simp,zez r fs]
  exact q
def zgh:zcp X (.builtin "len") (fun xs H Q=>∃ p ys,xs=[.ref p]/\(SqL X.K H p ys\/SqT X.K H p ys)/\Q (.int ys.length) H):=by
 intro pins s σ H xs us Q I r h; obtain ⟨p,ys,rfl,hq,q⟩:=h; obtain ⟨u,rfl,rx⟩:=zdh r; cases rx; have hn:=zf2
 rcases hq with hq | hq
 ·obtain ⟨its,r',pl,hz⟩:=I.list hq
  have hlen:=r'.length
  exact Calls.call_len_list pl.isList (by simp only [yQ] <;> omega) ⟨.int ys.length,H,I.tok _,⟨s.toks+1,by rw [yQ,hlen]⟩,q⟩
 ·obtain ⟨its,r',pl,hz⟩:=I.tuple hq
  have hlen:=r'.length
  exact len_tuple pl (by simp only [yQ] <;> omega) ⟨.int ys.length,H,I.tok _,⟨s.toks+1,by rw [yQ,hlen]⟩,q⟩
def zgg:zcp X (.builtin "len") (fun xs H Q=>∃ z,xs=[.str z]/\z.length<=sizeLine/\Q (.int z.length) H):=by
 intro pins s σ H xs us Q I r h; obtain ⟨z,rfl,hz,q⟩:=h; obtain ⟨u,rfl,t,rfl⟩:=zdh r; have hn:=zf2
 exact len_str (by omega) ⟨.int z.length,H,I.tok _,⟨_,rfl⟩,q⟩
def zcp.or {f:Value} {r r':List V->Hp->VK->Prop} (h:zcp X f r) (h':zcp X f r'):zcp X f (fun xs H Q=>r xs H Q\/r' xs H Q):=by
 intro pins s σ H xs us Q I rs q
 rcases q with q | q
 ·exact h pins s σ H xs us Q I rs q
 ·exact h' pins s σ H xs us Q I rs q
def zdW:zcp X (.type "list") (fun xs H Q=>∃ p ys,xs=[.ref p]/\(SqL X.K H p ys\/SqT X.K H p ys)/\∀ l,H l=none->Q (.ref l) (upd H l (.lst ys))):=by
 intro pins s σ H xs us Q I r h; obtain ⟨p,ys,rfl,hq,q⟩:=h; obtain ⟨u,rfl,rx⟩:=zdh r; cases rx
 have fin:∀ (its:List Value),za4 ys its->ys.length<=sizeLine->∀ (h':Heap) (c':Nat),(∀ b o',s.heap.get? b=some o'->h'.get? b=some o') ->
   h'.get? s.heap.objs.size=some { cls:=.type "list",dict:=none,data:=.seq its.toArray c',slots:=#[] }->EP X pins σ Q (.ref s.heap.objs.size) { s with heap:=h' }:=fun its r' hz h' c' kp e =>
  ⟨.ref s.heap.objs.size,_,I.laid (t':=s.toks) kp (yJ _) (show zbr X.prog X.w _ h' _ (.lst ys) from ⟨hz,its,c',r',e⟩),rfl,q _ (I.hok.fresh (yJ _))⟩
 rcases hq with hq | hq
 ·obtain ⟨its,r',pl,hz⟩:=I.list hq
  have hlen:=r'.length; obtain ⟨o,ho,hc,n,hd⟩:=pl.isList
  exact call_list_seq p (.inl rfl) ho hc hd (fun h' c' kp e=>fin its r' hz h' c' kp e) (by simp only [yQ] <;> omega)
 ·obtain ⟨its,r',pl,hz⟩:=I.tuple hq
  have hlen:=r'.length; obtain ⟨o,ho,hc,n,hd⟩:=pl
  exact call_list_seq p (.inr rfl) ho hc hd (fun h' c' kp e=>fin its r' hz h' c' kp e) (by simp only [yQ] <;> omega)
def zfw:zcp X (.type "tuple") (fun xs H Q=>∃ p ys,xs=[.ref p]/\((SqL X.K H p ys/\∀ l,H l=none->Q (.ref l) (upd H l (.tup ys)))\/(SqT X.K H p ys/\Q (.ref p) H))):=by
 intro pins s σ H xs us Q I r h; obtain ⟨p,ys,rfl,h⟩:=h; obtain ⟨u,rfl,rx⟩:=zdh r; cases rx
 rcases h with ⟨hq,q⟩ | ⟨hq,q⟩
 ·obtain ⟨its,r',pl,hz⟩:=I.list hq
  have hlen:=r'.length
  refine call_tuple_list pl.isList (fun h' kp=>?_) (by simp only [yQ] <;> omega)
  have I1:Inv X pins σ H { s with heap:=h' }:=I.kept (t':=s.toks) kp
  have I2:Inv X pins σ (upd H h'.objs.size (.tup ys)) { s with heap:=h'.push { cls:=.type "tuple",data:=.seq its.toArray } } :=
   I1.laid (t':=s.toks) (fun b o e=>yC _ e) (yJ _) (show zbr X.prog X.w _ _ _ (.tup ys) from ⟨hz,its,r',IsTup.new _ _⟩)
  exact ⟨.ref h'.objs.size,_,I2,rfl,q _ (I1.hok.fresh (yJ _))⟩
 ·obtain ⟨its,r',pl,hz⟩:=I.tuple hq
  exact call_tuple_same pl ⟨.ref p,H,I,rfl,q⟩
def tyV (K:W.Frag) (T:String) (x:V) (H:Hp):Prop:=match x with
 | .str _=>T="str"
 | .int _=>T="int"
 | .ref p=>(T="list"/\∃ xs,SqL K H p xs)\/(T="tuple"/\∃ o,K.lookup p=some o/\o.cls=.type "tuple"/\o.dict=none) \/
   (T="dict"/\((∃ kvs,H p=some (.dK kvs))\/∃ kvs,H p=some (.dT kvs)))\/(T="set"/\∃ S n,H p=some (.set S n))
 | _=>False
def zlA {pins:yyL} {σ:St} {H:Hp} {s:Shared} {T:String} {x:V} {v:Value} (I:Inv X pins σ H s) (r:zbI x v) (ty:tyV X.K T x H) :
  s.TypeIs v T/\∀ a,v=.ref a->∃ ob,s.heap.get? a=some ob/\ob.dict=none:=by
 cases x with
 | str z =>
  obtain ⟨t,rfl⟩:=r
  cases (show T="str" from ty)
  exact ⟨typeIs_str s z t,fun _ e=>nomatch e⟩
 | int i =>
  obtain ⟨t,rfl⟩:=r
  cases (show T="int" from ty)
  exact ⟨typeIs_int s i t,fun _ e=>nomatch e⟩
 | ref p =>
  cases r
  rcases ty with ⟨rfl,xs,hq⟩ | ⟨rfl,o,hk,hc,hd⟩ | ⟨rfl,hk⟩ | ⟨rfl,S,n,hk⟩
  ·obtain ⟨its,_,pl,_⟩:=I.list hq
   refine ⟨pl.isList.typeIs,fun a e=>?_⟩
   cases e; obtain ⟨o,n,e,c,hd,_⟩:=pl; exact ⟨o,e,hd⟩
  ·refine ⟨⟨o,I.kIn p o hk,hc⟩,fun a e=>?_⟩
   cases e; exact ⟨o,I.kIn _ o hk,hd⟩
  ·have z:∃ o,s.heap.get? p=some o/\o.ExactDict:=by
    rcases hk with ⟨kvs,hk⟩ | ⟨kvs,hk⟩
    ·obtain ⟨_,_,_,_,o,_,_,e,ex,_⟩:=I.hok p _ hk
     exact ⟨o,e,ex⟩
    ·obtain ⟨_,_,_,_,o,_,_,e,ex,_⟩:=I.hok p _ hk
     exact ⟨o,e,ex⟩
   obtain ⟨o,e,ex⟩:=z
   refine ⟨⟨o,e,ex.1⟩,fun a e2=>?_⟩
   cases e2; exact ⟨o,e,ex.2.1⟩
  ·obtain ⟨o,_,_,_,e,ex,_⟩:=I.hok p _ hk
   refine ⟨⟨o,e,ex.1⟩,fun a e2=>?_⟩
   cases e2; exact ⟨o,e,ex.2.1⟩
 | _=>exact False.elim ty
def zsi (K:W.Frag) (T:String) (r:V->List V->Hp->VK->Prop) (to:TE):TE:=fun σ H Q=>to σ H fun x H1=>tyV K T x H1/\r x [] H1 Q
def tBM (K:W.Frag) (T:String) (r:V->List V->Hp->VK->Prop) (to:TE) (t:TA):TE:=fun σ H Q=>to σ H fun x H1=>tyV K T x H1/\t σ H1 fun xs H2=>r x xs H2 Q
variable {o e:Expr} {es:List Expr} {to:TE} {t:TA} {name:Str} {apos cpos:Pos} {T id:String} {r:V->List V->Hp->VK->Prop}
def zoR (pa:PlainAttrs T) (slot:Slot T name id) (hty:typeOf (.builtin id)=pure (.type "method_descriptor")) (hm:MtR X id r) (ho:PE X o to)
  (hbase:attributeBase o name X.env (eval o X.env)=eval o X.env:=by rfl) (hline:(apos.endLine == cpos.line)=true:=by rfl):PE X (.Call (.Attribute o name apos) [] [] cpos) (zsi X.K T r to):=by
 intro pins s σ H Q I h
 refine wpAny_Call_method0_late hbase hline (thn (ho pins s σ H _ I h) fun v s1 ⟨x,H1,I1,r1,ty,q1⟩=>?_)
 obtain ⟨h1,h2⟩:=zlA I1 r1 ty; exact ⟨T,id,pa,slot,hty,h1,h2,Calls.callWith_builtin rfl (PySem.evalArgs_none (hm pins s1 σ H1 x [] v [] Q I1 r1 .nil q1))⟩
def zkK (pa:PlainAttrs T) (slot:Slot T name id) (hty:typeOf (.builtin id)=pure (.type "method_descriptor")) (hm:MtR X id r) (ho:PE X o to) (ha:PA X (e :: es) t)
  (hbase:attributeBase o name X.env (eval o X.env)=eval o X.env:=by rfl)
  (hfew:((backTo cpos (starEach (e :: es) X.env)).all (fun x=>!x.1) && (backToKw cpos (keywordEach [] X.env)).all (fun x=>x.1.isSome)
   && decide ((e :: es).length+([]:List Keyword).length+(if ([]:List Keyword).isEmpty then 0 else 1)<30))=true:=by rfl)
  (hline:(apos.endLine == cpos.line)=true:=by rfl) (hs:starEach (e :: es) X.env=(false,eval e X.env) :: starEach es X.env:=by rfl) (hplain:(backTo cpos (starEach es X.env)).any (·.1)=false:=by rfl) :
  PE X (.Call (.Attribute o name apos) (e :: es) [] cpos) (tBM X.K T r to t):=by
 intro pins s σ H Q I h
 refine wpAny_Call_method_late hbase hfew hline rfl (thn (ho pins s σ H _ I h) fun v s1 ⟨x,H1,I1,r1,ty,q1⟩=>?_)
 obtain ⟨h1,h2⟩:=zlA I1 r1 ty; refine ⟨T,id,pa,slot,hty,h1,h2,?_⟩; have hA:=ha cpos pins s1 σ H1 _ I1 q1; rw [hs] at hA ⊢
 refine Calls.callWith_builtin (by show (false || (backTo cpos (starEach es X.env)).any (·.1))=false; rw [hplain] <;> rfl) (Calls.evalArgs_plain ?_)
 exact thn hA fun us s2 ⟨vs,H2,I2,r2,q2⟩=>hm pins s2 σ H2 x vs v us Q I2 r1 r2 q2
end
def MtM (X:Cx) (id:String) (r:V->List V->Hp->VK->Prop):Prop :=
 ∀ (pins:yyL) (s:Shared) (σ:St) (H:Hp) (x:V) (xs:List V) (v:Value) (us:List Value) (Q:VK),Inv X pins σ H s->zbI x v->za4 xs us->r x xs H Q ->
  wpAny (model X.prog X.w) X.A (call (.builtin id) (v :: us)) (EP X pins σ Q) X.xe s
theorem za4.one:∀ {x:V} {us:List Value},za4 [x] us->∃ u,us=[u]/\zbI x u
 | _,_,.cons r .nil=>⟨_,rfl,r⟩
theorem za4.zero:∀ {us:List Value},za4 [] us->us=[]
 | _,.nil=>rfl
theorem za4.rep {xs:List V} {us:List Value} (h:za4 xs us):∀ k:Nat,za4 (List.replicate k xs).flatten (List.replicate k us).flatten
 | 0=>.nil
 | k+1=>by
  rw [YU,YU,Ym,Ym]; exact za4.append h (za4.rep h k)
theorem foldl_rep (its:List Value):∀ (k:Nat) (acc:List Value),
  List.foldl (fun x1 x2=>x1 ++ x2) acc.toArray (List.replicate k its.toArray)=(acc ++ (List.replicate k its).flatten).toArray
 | 0,acc=>by simp
 | k+1,acc=>by
  have e:acc.toArray ++ its.toArray=(acc ++ its).toArray:=by simp
  have e2:(acc ++ its) ++ (List.replicate k its).flatten=acc ++ (List.replicate (k+1) its).flatten:=by
   rw [YU,Ym,List.append_assoc]
  rw [<- e2,<- foldl_rep its k (acc ++ its),<- e,YU,List.foldl_cons]
section
variable {l b:Addr} {xs ys zs:List V}
def Inv.lset {its its':List Value} {n:Nat} {f:Array Value->Array Value} {t':Nat} (I:Inv X pins σ H s) (hH:H l=some (.lst xs))
  (e:s.heap.get? l=some { cls:=.type "list",data:=.seq its.toArray n }) (hf:f its.toArray=its'.toArray) (hv:za4 ys its') (hz:ys.length<=sizeLine) :
  Inv X pins σ (upd H l (.lst ys)) { s with heap:=s.heap.update l (Obj.mapSeq f),toks:=t' }:=by
 have q:=PySem.IsL.update e f; rw [hf] at q
 refine I.write (x:=l) (e:=l) (by rw [hH]; exact trivial) (.inl rfl) (fun b' u hb hu=>(yX s.heap (Obj.mapSeq f) (Ne.symm hb)).trans hu) ⟨_,q⟩ ?_
 exact ⟨hz,its',_,hv,q⟩
def Inv.lnew {its:List Value} {t':Nat} (I:Inv X pins σ H s) (hv:za4 ys its) (hz:ys.length<=sizeLine) :
  Inv X pins σ (upd H s.heap.objs.size (.lst ys)) { s with heap:=s.heap.push { cls:=.type "list",data:=.seq its.toArray },toks:=t' } :=
 I.laid (fun _ _ q=>yC _ q) (yJ _) ⟨hz,its,0,hv,yI _ rfl⟩
def Inv.fresh (I:Inv X pins σ H s):H s.heap.objs.size=none:=I.hok.fresh (yJ _)
def Inv.lstM (I:Inv X pins σ H s) (hH:H l=some (.lst xs)):xs.length<=sizeLine/\∃ (its:List Value) (n:Nat),za4 xs its/\xs.length=its.length/\s.heap.get? l=some { cls:=.type "list",data:=.seq its.toArray n }:=by
 obtain ⟨z,its,n,r,e⟩:=I.hok l _ hH; exact ⟨z,its,n,r,r.length,e⟩
end
section
def zmL:V->List V->Hp->VK->Prop:=fun x vs H Q=>∃ l xs y,x=.ref l/\vs=[y]/\H l=some (.lst xs)/\xs.length<sizeLine/\Q .non (upd H l (.lst (xs ++ [y])))
def zcT:MtM X "list.append" zmL:=by
 intro pins s σ H x vs v us Q I rx rv h; obtain ⟨l,xs,y,rfl,rfl,hH,hz,q⟩:=h; cases rx; obtain ⟨u,rfl,ru⟩:=rv.one; obtain ⟨z,its,n,r,hl,e⟩:=I.lstM hH
 refine call_meets F.slot_list_append ⟨_,e,rfl⟩ F.entry_list_append (F.args_list_append_2 _ _) (PySem.list_append l its.toArray n u (by rw [yQ]; omega)) ⟨e,?_⟩
 refine ⟨.non,_,I.lset (its':=its ++ [u]) hH e (by simp) (r.append (.cons ru .nil)) ?_,rfl,q⟩
 rw [yu,List.length_singleton]; omega
def zoy:V->List V->Hp->VK->Prop:=fun x vs H Q=>∃ l xs,x=.ref l/\vs=[]/\H l=some (.lst xs)/\Q .non (upd H l (.lst []))
def zkW:MtM X "list.clear" zoy:=by
 intro pins s σ H x vs v us Q I rx rv h; obtain ⟨l,xs,rfl,rfl,hH,q⟩:=h; cases rx; have hus:=rv.zero; subst hus; obtain ⟨z,its,n,r,hl,e⟩:=I.lstM hH
 refine call_meets F.slot_list_clear ⟨_,e,rfl⟩ F.entry_list_clear (F.args_list_clear_1 _) (AutoSeq1.list_clear_list_0 l its.toArray n (by rw [yQ]; omega)) ⟨e,?_⟩
 exact ⟨.non,_,I.lset (its':=[]) (ys:=[]) hH e rfl .nil (YE _),rfl,q⟩
def len_rep {α:Type} (xs:List α) (k:Nat):(List.replicate k xs).flatten.length=k * xs.length:=by
 induction k with
 | zero=>simp
 | succ k ih=>rw [YU,Ym,yu,ih,Nat.succ_mul,Nat.add_comm]
end
section
set_option maxRecDepth 100000 in
end
section
end
end L2
namespace Att
open PySem PySem.W PySem.Calls PyProof.Rows
def zer {P:Params} {h:Heap}:∀ (ns:List Int) (vs:List Value),WellAll P h vs (ns.map WData.int)->IntsAre vs ns:=by
 intro ns
 induction ns with
 | nil =>
  intro vs w; rw [List.map_nil] at w; cases w; exact .nil
 | cons n ns ih =>
  intro vs w; rw [yw] at w
  cases w with
  | cons a b =>
   cases a; exact .cons _ _ (ih _ b)
def ziD {l:OpenLaw} {n:Nat} (hn:l.most=some n) {P:Params} {h:Heap} {args:List WData} {vals:List Value}
  (hpre:l.row.toRowW.claim.pre args=true) (hwl:WellAll P h vals args) :
  ∃ a vs ns,vals=[Value.ref a]/\args=[WData.list (ns.map WData.int)]/\h.get? a=some { cls:=.type "list",data:=.seq vs.toArray }/\IntsAre vs ns/\ns.length<=n:=by
 have hsh:WShape.hasAll [] args [.list .int]=true:=(pre_splitW hpre).1
 have hc:l.pre.holds [] { args:=args }=true:=(pre_splitW hpre).2
 obtain ⟨d,r,rfl,h1,h2⟩:=hasAllW_cons hsh
 obtain rfl:=hasAllW_nil h2
 obtain ⟨xs,rfl,h3⟩:=hasW_list h1; obtain ⟨ns,rfl⟩:=items_int h3
 have hlen:ns.length<=n:=by
  unfold OpenLaw.pre at hc
  have h4:(WTm.not (.lt (.lit (.int (n:Int))) (.len (.arg 0)))).holds [] { args:=[.list (ns.map .int)] }=true:=by
   have h4:=(holds_andW hc).1; rw [hn] at h4; exact h4
  have h5:=condW_of h4 (w_not (w_lt w_lit (w_len_list (w_arg rfl)))); rw [yE] at h5
  refine Nat.le_of_not_lt fun q=>?_
  have q':(n:Int)<((ns.length:Nat):Int):=by omega
  first
   | (rw [YC q'] at h5; exact yU h5 (by decide))
   | (simp at h5; omega)
 cases hwl with
 | cons w1 w2 =>
  cases w2
  cases w1 with
  | list ho hall=>exact ⟨_,_,ns,rfl,rfl,ho,zer ns _ hall,hlen⟩
def ziV (l:OpenLaw) (args:List WData):l.row.toRowW.claim.post args (.bool true) args=true :=
 postW_of (r:=l.row.toRowW) (X:=(true == true))
  (show WShape.has [] (.bool true) .bool=true by first | rfl | decide | simp [WShape.has,WShape.arms,WShape.armsAll])
  (show (WTm.eq .res (.lit (.bool true))).value [] { args:=args,res:=some (.bool true),after:=args }=some (.bool (true == true)) from w_eq_bool (w_res rfl) w_lit) rfl
def attach_call {l:OpenLaw} {n:Nat} {q:Program} {loose:List Str} {XP:(Str->Option Value)->Heap->Prop} {YP:World->Heap->Prop} {d:DefRec}
  (hn:l.most=some n) (hdf:d.params.defaults=[])
  (call:∀ (w:World) (s₀ s₁:Shared) (mg mb:Str->Option Value) (fa:Addr) (o:Obj) (pm cd doc:Value) (a:Addr) (vs:List Value) (ns:List Int),
   Ground q loose [] XP w s₀ mg mb s₁.heap->YP w s₁.heap ->
   s₁.heap.get? fa=some o->o.data=.func (docDef d.name d.params d.body d.scope pm cd doc)->s₁.heap.CodeRec cd d.name->mg d.name=some (.ref fa) ->
   s₁.heap.get? a=some { cls:=.type "list",data:=.seq vs.toArray }->IntsAre vs ns->ns.length<=n->s₁.gens=#[] ->
   codeAny (model l.prog w) callerA (.call (.ref fa) ⟨[.ref a],[]⟩) (fun r s'=>r=.ok (.ret (.bool true))/\OldK s₁.heap s'.heap/\s'.os=s₁.os/\AllBare s'.gens) s₁) :
  WalkO q loose XP YP l.row.toRowW d [] (fun f vs=>PySem.call f vs):=by
 intro w s₀ s₁ mg mb G Y fa o pm cd doc dV kV ho hd hcd hD hmg hg args vals as hpre hlay hrd hwl hlo
 obtain rfl:dV=.none:=Dflts.none hD hdf
 obtain rfl:kV=.none:=Dflts.noKw hD
 obtain ⟨a,vs,ns,rfl,rfl,hobj,hints,hlen⟩:=ziD hn hpre hwl
 refine enter_call (codeAny_mono (call w s₀ s₁ mg mb fa o pm cd doc a vs ns G Y ho (fd_plain hd) hcd hmg hobj hints hlen hg) fun r s' hq=>?_)
 obtain ⟨rfl,h2,h3,h4⟩:=hq
 exact ⟨.inl ⟨.bool true,.bool true,[],rfl,fun _=>rfl,.bool true,ziV l _,fun _=>⟨List.Pairwise.nil,fun _ hm=>(nomatch hm)⟩⟩,h2,h3,h4⟩
section
variable {K:Frag}
def zrZ (h:Heap) (L d:Addr):yyL:=(List.range h.objs.size).filterMap fun a=>if a=L\/a=d then none else (h.get? a).map fun o=>(a,o)
end
end Att
namespace L2
open PySem PySem.Spec PyProof.Rows
theorem zfD:∀ {vs:List Value} {ns:List Int},IntsAre vs ns->za4 (ns.map V.int) vs
 | _,_,.nil=>.nil
 | _,_,.cons n t h=>.cons ⟨t,rfl⟩ (zfD h)
def zqk (H:Hp):Prop:=∀ b,H b=none\/∃ o xs,H b=some (.frz o (.lst xs))
def zkZ {P:Program} {w:World} {K:W.Frag} {mg mb:Str->Option Value} {CX:CXT} {k:Nat} {fa a:Addr} {fd:FuncData} {x:Str} {sp:Sp} {s₁:Shared} {vs:List Value} {ns:List Int}
  (KX:K.In s₁.heap) (hns:s₁.heap.Ns mainGlobals mg) (hb:s₁.heap.Ns builtinsNs mb) (hbb:∀ x:Str,x≠"__name__"->mb x=bootBuiltins x) (hlim:s₁.heap.NoLimit) (hbm:∃ bm ob,mg "__builtins__"=some (.ref bm)/\bm≠builtinsNs/\s₁.heap.get? bm=some ob/\ob.cls=.type "module"/\ob.dict=some builtinsNs/\ob.data=.plain) (hg:s₁.gens=#[])
  (ha:s₁.heap.get? a=some { cls:=.type "list",data:=.seq vs.toArray }) (hi:IntsAre vs ns) (hl:ns.length<=sizeLine) (hr:Room k callerA)
  (F:∀ base:Heap,K.In base->base.Ns mainGlobals mg->FnOk P w K mg base CX k fa fd [x] sp) (hbind:∀ (s:Shared) (u:Value),BindsTo s fd ⟨[u],[]⟩ [(x,u)])
  (hsp:∀ H:Hp,zqk H->SqL K H a (ns.map V.int)->sp [.ref a] H (fun v _=>v=.bl true) fun _ _ _=>False)
  (hCX:∀ H e s',CX [] H s₁ (fun _ _ _=>False) e s'->False) :
  codeAny (model P w) callerA (.call (.ref fa) ⟨[.ref a],[]⟩) (fun r s'=>r=.ok (.ret (.bool true))/\OldK s₁.heap s'.heap/\s'.os=s₁.os/\AllBare s'.gens) s₁:=by
 have rv:=zfD hi; have lenV:=hi.length
 -- from an abstract heap in which nothing but the script may be tracked
 have core:∀ H:Hp,zqk H->SqL K H a (ns.map V.int)->HOk P w H s₁.heap->(∀ b,H b≠none->b=a)->(H a≠none->K.lookup a=none) ->
   codeAny (model P w) callerA (.call (.ref fa) ⟨[.ref a],[]⟩) (fun r s'=>r=.ok (.ret (.bool true))/\OldK s₁.heap s'.heap/\s'.os=s₁.os/\AllBare s'.gens) s₁:=by
  intro H hO hS hok hA hK
  have base_of:∀ {b:Addr} {o:Obj},s₁.heap.get? b=some o->H b=none->(nrm s₁.heap H).get? b=some o:=fun e n=>zne e n
  have noA:∀ {b:Addr} {o:Obj} {es:Array DictEntry} {ep:Nat},s₁.heap.get? b=some o->o.data=.dict es ep->H b=none:=fun {b o es ep} e d=>by
   cases q:H b with
   | none=>rfl
   | some u =>
    have e':b=a:=hA b (by rw [q]; simp)
    subst e'
    rw [ha] at e; cases e
    have d':Data.seq vs.toArray _=Data.dict es ep:=d
    cases d'
  have nsK:∀ {b:Addr} {m:Str->Option Value},s₁.heap.Ns b m->(nrm s₁.heap H).Ns b m:=fun {b m} ⟨o,es,ep,e,d,r⟩=>⟨o,es,ep,base_of e (noA e d),d,r⟩
  have hKb:K.In (nrm s₁.heap H):=fun b o e=>base_of (KX b o e) (by
   cases q:H b with
   | none=>rfl
   | some u =>
    have e':b=a:=hA b (by rw [q]; simp)
    subst e'
    rw [hK (by rw [q]; simp)] at e; cases e)
  have hM:Mod K mg (nrm s₁.heap H):=⟨hKb,nsK hns,⟨mb,nsK hb,hbb⟩,(let ⟨mc,h1,h2⟩:=hlim; ⟨mc,nsK h1,h2⟩),(let ⟨bm,ob,b1,b2,b3,b4,b5,b6⟩:=hbm; ⟨bm,ob,b1,b2,base_of b3 (by
   cases q:H bm with
   | none=>rfl
   | some u =>
    have e':bm=a:=hA bm (by rw [q]; simp)
    subst e'
    rw [ha] at b3; cases b3; cases b6),b4,b5,b6⟩)⟩
  have e0:Env0 P w K mg (nrm s₁.heap H) callerA [] s₁ H:=⟨rfl,hM,fun b o e=>zo2 e,Nat.le_of_eq (zkT _ _),trivial,fun b hb=>yU (show b ∈ ([]:List Addr) from hb) (by simp),hok,.of_eq hg,zkS _ _⟩
  refine codeAny_mono ((F _ hKb (nsK hns)).run callerA [] s₁ H ⟨[.ref a],[]⟩ [.ref a] [.ref a] _ _ hr e0 (hbind s₁ (.ref a)) (.cons rfl .nil) (hsp H hO hS)) fun r s' h=>?_
  cases r with
  | error e=>exact (hCX H e s' h).elim
  | ok fl =>
   cases fl with
   | next=>exact False.elim h
   | brk=>exact False.elim h
   | cont=>exact False.elim h
   | ret u =>
    obtain ⟨v,H',os,bare,un,hok',r',q⟩:=h
    have q':v=.bl true:=q
    subst q'
    obtain rfl:u=Value.bool true:=r'
    refine ⟨rfl,OldK.of_keep fun b o e=>?_,os,bare⟩
    cases q:H b with
    | none=>exact un.keep b o e q (by intro z; exact yU (show b ∈ ([]:List Addr) from z) (by simp)) (by simp)
    | some u =>
     rcases hO b with z | ⟨ob,xs,z⟩
     ·rw [q] at z; cases z
     ·have z2:=un.frzs b ob _ z
      obtain ⟨e1,_⟩:=hok b _ z; obtain ⟨e2,_⟩:=hok' b _ z2
      rw [e] at e1; cases e1
      exact e2
 cases hk:K.lookup a with
 | some o =>
  -- the script is one of the module's own objects
  have e:=KX a o hk; rw [ha] at e; cases e
  refine core (fun _=>none) (fun _=>.inl rfl) (.inr ⟨_,vs.toArray,_,hk,rfl,rfl,rfl,by rw [yQ,lenV]; exact hl,by simpa using rv⟩) (fun b u z=>by have z':(none:Option HO)=some u:=z; cases z') (fun b z=>yU rfl z) fun z=>yU rfl z
 | none =>
  refine core (fun b=>if b=a then some (.frz { cls:=.type "list",data:=.seq vs.toArray } (.lst (ns.map V.int))) else none) (fun b=>?_) (.inl (.inr ⟨{ cls:=.type "list",data:=.seq vs.toArray },yW rfl⟩)) (fun b u z=>?_) (fun b z=>?_) fun _=>hk
  ·by_cases hb:b=a
   ·exact .inr ⟨_,_,yW hb⟩
   ·exact .inl (yS hb)
  ·by_cases hb:b=a
   ·have z':=(yW hb).symm.trans z
    cases z'; subst hb
    exact ⟨ha,by rw [yE]; exact hl,vs,_,rv,ha⟩
   ·have z':=(yS hb).symm.trans z
    cases z'
  ·by_cases hb:b=a
   ·exact hb
   ·exact yU (yS hb) z
def walk_of {l:W.OpenLaw} {n k:Nat} {q:Program} {loose:List Str} {XP:(Str->Option Value)->Heap->Prop} {YP:World->Heap->Prop} {d:DefRec} {K:Params->W.Frag} {CX:World->CXT} {sp:World->Sp} {x:Str}
  (hn:l.most=some n) (hn2:n<=sizeLine) (hdf:d.params.defaults=[]) (hr:Room k callerA)
  (hY:∀ (w:World) (h:Heap),YP w h->(K w.params).In h)
  (F:∀ (w:World) (mg:Str->Option Value) (fa:Addr) (h:Heap),(K w.params).In h->h.Ns mainGlobals mg->mg d.name=some (.ref fa) ->
   ∃ fd:FuncData,(∀ (s:Shared) (u:Value),BindsTo s fd ⟨[u],[]⟩ [(x,u)]) /\
    ∀ base:Heap,(K w.params).In base->base.Ns mainGlobals mg->FnOk l.prog w (K w.params) mg base (CX w) k fa fd [x] (sp w))
  (hsp:∀ (w:World) (H:Hp) (a:Addr) (ns:List Int),ns.length<=n->zqk H->SqL (K w.params) H a (ns.map V.int)->sp w [.ref a] H (fun v _=>v=.bl true) fun _ _ _=>False)
  (hCX:∀ (w:World) (H:Hp) (s:Shared) (e:Value) (s':Shared),CX w [] H s (fun _ _ _=>False) e s'->False) :
  W.WalkO q loose XP YP l.row.toRowW d [] (fun f vs=>PySem.call f vs):=by
 refine Att.attach_call hn hdf fun w s₀ s₁ mg mb fa o pm cd doc a vs ns G Y ho hd hcd hmg hobj hints hlen hg=>?_
 have KX:=hY w _ Y; obtain ⟨fd,hb,hF⟩:=F w mg fa _ KX G.T.g hmg
 exact zkZ KX G.T.g G.T.b G.T.builtins G.T.nolimit G.T.bmain hg hobj hints (yj hlen hn2) hr hF hb (fun H hO hS=>hsp w H a ns hlen hO hS) fun H e s'=>hCX w H s₁ e s'
def zb2 (s:Stmt) (j:Nat):Stmt:=match s with
 | .ClassDef _ _ _ body _ _ _ _ _ _ _=>body.getD j (.Pass ⟨0,0,0,0⟩)
 | _=>.Pass ⟨0,0,0,0⟩
def za3 (s:Stmt):Arguments:=match s with
 | .FunctionDef _ a _ _ _ _ _ _ _ _=>a
 | _=>{ posonlyargs:=[],args:=[],vararg:=none,kwonlyargs:=[],kw_defaults:=[],kwarg:=none,defaults:=[] }
def zaO (s:Stmt):List Stmt:=match s with
 | .FunctionDef _ _ b _ _ _ _ _ _ _=>b
 | _=>[]
def zk (s:Stmt):Scope:=match s with
 | .FunctionDef _ _ _ _ _ _ sc _ _ _=>sc
 | _=>{ kind:=.function,names:=[],isGenerator:=false,isCoroutine:=false }
abbrev CX0:CXT:=fun _ _ _ _ _ _=>False
abbrev E0:XK:=fun _ _ _=>False
def zfe {X:Cx}:zeA CX0 X E0:=fun _ _ _ _ _ _ _ h=>h.elim
structure Fun (K:W.Frag) (x qual:Str) (st:Stmt) (f:Addr) (fd:FuncData):Prop where
 ex:∃ (oc:Value) (od:Option Addr) (kV doc pm:Value) (an:Option Addr) (cdv ct:Value) (osl:Array (Option Value)),
  fd=W.fnOf x qual (za3 st) (zaO st) (zk st) .none kV doc pm an cdv ct/\K.lookup f=some ⟨oc,od,.func fd,osl⟩/\W.codeIn K cdv qual=true
 kp:W.keepIn K (.ref f)=true
section
def Fun.ok {x qual:Str} {st:Stmt} {f:Addr} {fd:FuncData} {N ps:List Str} {k:Nat} {sp:Sp} (F:Fun K x qual st f fd) (S:FnScope N ps (zk st)) (len:∀ vs H Q E,sp vs H Q E->vs.length=ps.length)
  (hbody:∀ (cdv:Value) (A:Around) (outer:List Env) (s:Shared) (H:Hp) (vs:List V) (Q:VK) (E:XK),Room k (A.deeper (envOfC qual (zk st) s.heap.objs.size f cdv))->sp vs H Q E ->
   ∃ t,PSs (zd8 CX0 P w K mg base N qual (zk st) f cdv A outer s H E).nox (zaO st) t/\t { nx:=fun _ H'=>Q .non H',rt:=Q } (start N vs) H):FnOk P w K mg base CX0 (k+1) f fd ps sp:=by
 obtain ⟨oc,od,kV,doc,pm,an,cdv,ct,osl,rfl,lk,hcd⟩:=F.ex
 refine zpp lk hcd S len fun A outer s H vs Q E hr hsp=>?_
 obtain ⟨t,h,q⟩:=hbody cdv A outer s H vs Q E hr hsp; exact ⟨t,h.nox,q⟩
def Fun.binds {x qual:Str} {st:Stmt} {f:Addr} {fd:FuncData} {ps:List Str} (F:Fun K x qual st f fd)
  (h:∀ (kV doc pm:Value) (an:Option Addr) (cdv ct:Value) (us:List Value),us.length=ps.length->bindArgs (W.fnOf x qual (za3 st) (zaO st) (zk st) .none kV doc pm an cdv ct) ⟨us,[]⟩=pure (ps.zip us)):zbk K fd ps []:=by
 obtain ⟨oc,od,kV,doc,pm,an,cdv,ct,osl,rfl,lk,hcd⟩:=F.ex; exact .all (h kV doc pm an cdv ct)
def zck {x qual:Str} {st:Stmt} {f:Addr} {oc:Value} {od an:Option Addr} {osl:Array (Option Value)} {kV doc pm cdv ct:Value} (l:K.lookup f=some ⟨oc,od,.func (W.fnOf x qual (za3 st) (zaO st) (zk st) .none kV doc pm an cdv ct),osl⟩)
  (c:W.codeIn K cdv qual=true) (k:W.keepIn K (.ref f)=true):Fun K x qual st f (W.fnOf x qual (za3 st) (zaO st) (zk st) .none kV doc pm an cdv ct):=⟨⟨oc,od,kV,doc,pm,an,cdv,ct,osl,rfl,l,c⟩,k⟩
end
def zH {A:Around} {k:Nat} (hr:Room k A):A.units+1<cLine:=Nat.lt_of_le_of_lt (Nat.add_le_add_left (by decide:1<=64) _) hr.units
def zbg {n:Nat} (h:n<=1000):n<sizeLine:=Nat.lt_of_le_of_lt h (by decide)
section
def pv (i:Nat) {x:Str} {pos:Pos} (hN:X.N[i]?=some x:=by rfl) (hv:Vis X.env.scope x:=by first | exact YA rfl | exact yr (YA rfl) | exact yr (yr rfl)) (hd:yyD x:=by decide)
  (hcd:(x == ("__classdict__":Str))=false:=by decide):PE X (.Name x pos) (zrI i):=zcP hN hv hd hcd
end
def zaR (H H':Hp):Prop:=∀ b o,H b=some o->H' b=some o
def zaR.refl (H:Hp):zaR H H:=fun _ _ h=>h
def zaR.trans {H H1 H2:Hp} (a:zaR H H1) (b:zaR H1 H2):zaR H H2:=fun c o h=>b c o (a c o h)
def zaR.free {H H':Hp} (e:zaR H H') {l:Addr} (h:H' l=Option.none):H l=Option.none:=by
 cases q:H l with
 | none=>rfl
 | some o =>
  rw [e l o q] at h; cases h
section
variable {κ:Type} [DecidableEq κ]
def zly (kvs:List (κ × V)) (k:κ):Option V:=(kvs.find? fun kv=>decide (kv.1=k)).map (·.2)
def zg0 {p:κ × V} {r:List (κ × V)} {k:κ} (e:p.1=k):zly (p :: r) k=some p.2:=by simp [zly,List.find?_cons,e]
def zg1 {p:κ × V} {r:List (κ × V)} {k:κ} (e:¬ p.1=k):zly (p :: r) k=zly r k:=by simp [zly,List.find?_cons,e]
def zgV.isSome_eq {o:Option V} {u:Option Value} (r:zgV o u):o.isSome=u.isSome:=by
 cases o with
 | none=>cases u with
  | none=>rfl
  | some _=>exact (show False from r).elim
 | some _=>cases u with
  | none=>exact (show False from r).elim
  | some _=>rfl
def KV.length {kvs:List (κ × V)} {vs:List (κ × Value)} (r:KV kvs vs):kvs.length=vs.length:=Paired.length r
end
def zrh {P:Program} {w:World} {k:Key} {u:Value} (r:zbI (kV k) u):(zcf P w).is k u=true:=by
 cases k with
 | inl i=>obtain ⟨t,e⟩:=(show ∃ t,u=Value.int i t from r); subst e; exact zgN P w i t
 | inr x=>obtain ⟨t,e⟩:=(show ∃ t,u=Value.str x t from r); subst e; exact zgM P w x t
theorem zf5 {P:Program} {w:World}:∀ {ks:List Key} {us:List Value},za4 (ks.map kV) us->ItemsAre (zcf P w) ks us
 | [],_,r=>by rw [List.map_nil] at r; cases r; exact .nil
 | k :: ks,_,r=>by
  rw [yw] at r
  cases r with
  | cons h t=>exact .cons (zrh h) (zf5 t)
abbrev KT (H:Hp):List (List Key × V)->List (List Key × Addr × Value)->Prop:=Paired fun p q=>p.1=q.1/\H q.2.1=some (.tup (p.1.map kV))/\zbI p.2 q.2.2
def KT.val {H:Hp} {kvs:List (List Key × V)} {xs:List (List Key × Addr × Value)} (r:KT H kvs xs) (k:List Key):zgV (zly kvs k) ((atKey xs k).map (·.2)):=by
 induction r with
 | nil=>exact True.intro
 | @cons p q ps qs h t ih =>
  obtain ⟨h1,_,h2⟩:=h
  by_cases e:p.1=k
  ·have e':q.1=k:=h1.symm.trans e
   have b:atKey (q :: qs) k=some q.2:=by simp [atKey,List.find?_cons,e']
   rw [zg0 e,b]; exact h2
  ·have e':¬ q.1=k:=fun z=>e (h1.trans z)
   have b:atKey (q :: qs) k=atKey qs k:=by simp [atKey,List.find?_cons,e']
   rw [zg1 e,b]; exact ih
section
variable {h:Heap} {a:Addr}
def zhq {ks:List Key} (ok:HOk P w H h) (e:H a=some (.tup (ks.map kV))):(tupleKind (zcf P w)).is h ks a:=by
 obtain ⟨_,its,r,o,h1,h2,n,h3⟩:=(show zbr P w H h a (.tup (ks.map kV)) from ok a _ e)
 exact ⟨o,its.toArray,n,h1,h2,h3,by simpa using zf5 r⟩
end
section
variable {a:Addr} {y v:V} {u r:Value} {o:Option V}
end
section
variable {a:Addr} {kvs:List (Key × V)} {k:Key} {u:Value}
end
section
variable {o i e value:Expr} {pos pos' tpos:Pos} {td ty tv:TE}
end
section
variable {pos:Pos}
end
structure M1 (X:Cx) (o:Expr) (m:Str) (apos:Pos) (e:Expr) (cpos:Pos):Prop where
 base:attributeBase o m X.env (eval o X.env)=eval o X.env
 few:((backTo cpos (starEach [e] X.env)).all (fun x=>!x.1) && (backToKw cpos (keywordEach [] X.env)).all (fun x=>x.1.isSome)
  && decide (([e]:List Expr).length+([]:List Keyword).length+(if ([]:List Keyword).isEmpty then 0 else 1)<30))=true
 line:(apos.endLine == cpos.line)=true
 trees:backTo cpos (starEach [e] X.env)=[(false,eval e X.env)]
structure M2 (X:Cx) (o:Expr) (m:Str) (apos:Pos) (e f:Expr) (cpos:Pos):Prop where
 base:attributeBase o m X.env (eval o X.env)=eval o X.env
 few:((backTo cpos (starEach [e,f] X.env)).all (fun x=>!x.1) && (backToKw cpos (keywordEach [] X.env)).all (fun x=>x.1.isSome)
  && decide (([e,f]:List Expr).length+([]:List Keyword).length+(if ([]:List Keyword).isEmpty then 0 else 1)<30))=true
 line:(apos.endLine == cpos.line)=true
 trees:backTo cpos (starEach [e,f] X.env)=[(false,eval e X.env),(false,eval f X.env)]
section
variable {a:Addr} {y d:V} {u r:Value} {o:Option V}
end
section
variable {o e f:Expr} {apos cpos:Pos} {td ty tx:TE}
end
section
variable {a:Addr} {kvs:List (Key × V)}
end
section
variable {a:Addr} {y:V} {u:Value}
end
end L2
set_option maxHeartbeats 4000000
namespace L2
open PySem PySem.Spec PyProof.Rows
def st (l:List Nat):Str:=⟨l.toArray⟩
def zcb (l:List Nat):(st l).cps.toList=l:=by simp [st]
def zcD (l:List Nat):(st l).length=l.length:=by simp [st,Str.length]
def zqK (x:Str):x=st x.cps.toList:=by cases x; simp [st]
def zlD {a b:List Nat} (h:st a=st b):a=b:=by
 have e:=yg (fun x:Str=>x.cps.toList) h
 simpa [st] using e
def zod (a b:List Nat):st a ++ st b=st (a ++ b):=by
 show Str.append (st a) (st b)=st (a ++ b)
 unfold Str.append st; simp
def zl8 (l:List Nat) (c:Nat):(!(Builtin.Str.occurrences (st l) (st [c]) 0 (st l).length 1).isEmpty)=decide (c ∈ l):=by
 have e:=StrLaws.found_one (st l) c; rw [zcb] at e; exact e
def zki (l:List Nat) (n:Nat):Txt.slice (st l) none (some (n:Int))=st (l.take n):=by
 by_cases h:n<=l.length
 ·have q:Txt.slice (st l) none (some (n:Int))=⟨(((st l).cps.toList.drop 0).take ((n:Int)-0).toNat).toArray⟩:=StrLaws.sliceText_to ⟨by omega,by rw [zcb]; omega⟩
  rw [q,zcb]; simp [st]
 ·have e:Txt.slice (st l) none (some (n:Int))=Txt.slice (st l) none (some (l.length:Int)):=by
   unfold Txt.slice
   have z:Builtin.Str.strSliceIndices none (some (n:Int)) 1 (st l).length=Builtin.Str.strSliceIndices none (some (l.length:Int)) 1 (st l).length:=by
    rw [zcD]
    have h0:¬ (n:Int)<0:=by omega
    have h1:¬ ((l.length:Int)<0):=by omega
    have h2:(1:Int) > 0:=by decide
    have h3:min (n:Int) (l.length:Int)=(l.length:Int):=by omega
    simp only [Builtin.Str.strSliceIndices,h0,h1,h2,if_false,if_true,h3,Int.min_self]
   rw [z]
  have q:Txt.slice (st l) none (some (l.length:Int))=⟨(((st l).cps.toList.drop 0).take ((l.length:Int)-0).toNat).toArray⟩:=StrLaws.sliceText_to ⟨by omega,by rw [zcb]; omega⟩
  rw [e,q,zcb,List.take_of_length_le (by omega:l.length<=n)]
  simp [st]
def zhJ (l:List Nat) (n:Nat):Txt.slice (st l) (some (n:Int)) none=st (l.drop n):=by
 by_cases h:n<=l.length
 ·have q:Txt.slice (st l) (some (n:Int)) none=⟨(((st l).cps.toList.drop (n:Int).toNat).take (((st l).cps.toList.length:Int)-(n:Int)).toNat).toArray⟩:=StrLaws.sliceText_from ⟨by omega,by rw [zcb]; omega⟩
  rw [q,zcb]
  have e1:(n:Int).toNat=n:=by omega
  have e2:((l.length:Int)-(n:Int)).toNat=l.length-n:=by omega
  rw [e1,e2,List.take_of_length_le (by rw [List.length_drop]; omega)]
  rfl
 ·rw [slice_beyond (by rw [zcD]; omega),YV (by omega)]
  rfl
section
def zgi:zcp X (.type "int") (fun xs H Q=>∃ x n,xs=[.str x]/\PySem.intText? x=some n/\x.length<=640/\Q (.int n) H):=by
 intro pins s σ H xs us Q I r h; obtain ⟨x,n,rfl,hn,hl,q⟩:=h; obtain ⟨u,rfl,t,rfl⟩:=zdh r; exact W.KIN.call_text hn hl ⟨.int n,H,I.tok _,⟨_,rfl⟩,q⟩
def zsp:V->Option Int->Option Int->Hp->VK->Prop:=fun x lo hi H Q=>∃ z,x=.str z/\z.length<=sizeLine/\Q (.str (Txt.slice z lo hi)) H
def zoh:SlR X zsp:=by
 intro pins s σ H x v vl vu lo hi sl Q I rx hs pl pu h; obtain ⟨z,rfl,hz,q⟩:=h; obtain ⟨t,rfl⟩:=rx; refine ⟨"str",_,PySem.F.slot_str_getitem.lookup,typeIs_str _ _ _,?_⟩
 have fin:∀ t' k,EP X pins σ Q (.str (Txt.slice z lo hi) t') { s with toks:=k }:=fun t' k=>⟨.str (Txt.slice z lo hi),H,I.tok _,⟨_,rfl⟩,q⟩
 cases pl with
 | none =>
  cases pu with
  | none=>exact wpAny_getItem_str_slice (l:=none) (u:=none) (st:=none) hs rfl (post_val_or_str ⟨yj (Txt.slice_le z _ _) hz,fin⟩)
  | int j u=>exact wpAny_getItem_str_slice (l:=none) (u:=some (j,u)) (st:=none) hs rfl (post_val_or_str ⟨yj (Txt.slice_le z _ _) hz,fin⟩)
 | int i u' =>
  cases pu with
  | none=>exact wpAny_getItem_str_slice (l:=some (i,u')) (u:=none) (st:=none) hs rfl (post_val_or_str ⟨yj (Txt.slice_le z _ _) hz,fin⟩)
  | int j u=>exact wpAny_getItem_str_slice (l:=some (i,u')) (u:=some (j,u)) (st:=none) hs rfl (post_val_or_str ⟨yj (Txt.slice_le z _ _) hz,fin⟩)
end
end L2
namespace HT
open PySem PyProof.Rows L2
section
open PySem.SeqAt
open PySem.AutoSeq1 (wpAny_loadPart')
open PySem.MeetsSeq PySem.MeetsSeq2 PySem.MeetsSeq3
end
section
end
end HT
namespace L2
open PySem PySem.Spec PyProof.Rows
section
end
def Its (l:List Nat):It:=⟨fun i _=>i<l.length,fun i H x H'=>H'=H/\∃ c,l[i]?=some c/\x=.str (st [c]),fun i _=>i=l.length⟩
def zgZ {P:Program} {w:World} {A:Around} {cls:String} (hA:A.handled=none) (it:Addr) (x:Str) (t:Tok) (hcls:cls="str_ascii_iterator"\/cls="str_iterator"):Walks P w A it [it] [it] x.cps.size (SignAt x) (fun i h=>h.IsStrIter it cls x t i):=by
 rcases hcls with rfl | rfl
 ·exact Walks.strAscii hA it x t
 ·exact Walks.strWide hA it x t
def zg3 {P:Program} {w:World} {K:W.Frag} {tg:Expr} {cls:String} (x:Str) (t:Tok) (it:Addr) (hcls:cls="str_ascii_iterator"\/cls="str_iterator"):Turn P w K tg (Its x.cps.toList) [it] it (fun i h=>h.IsStrIter it cls x t i) where
 mem:=by simp
 obj:=fun i h stt b hb=>by
  have e:b=it:=by simpa using hb
  subst e; obtain ⟨o,e,c,d⟩:=stt
  exact ⟨o,e,fun v z=>by rw [d] at z; cases z⟩
 keep:=fun i h h' stt k=>by
  obtain ⟨o,e,r⟩:=stt
  exact ⟨o,k it (by simp) o e,r⟩
 item:=by
  intro X hP hw hK hc i pins s σ H E I hf stt hg
  subst hP hw hK
  obtain ⟨f0,f1,f2,f3,f4,f5⟩:=hf it (by simp)
  have hg':i<x.cps.toList.length:=hg
  refine (zgZ (I.ok.hd hc) it x t hcls).item i s _ _ (by simpa using hg') stt fun v h' tk hv st' kk=>?_
  obtain ⟨c,u,hc',rfl⟩:=hv
  have I1:Inv X pins σ H { s with heap:=h',toks:=tk }:=I.turned (fun b o hb e=>kk b o (by simpa using hb) e) f0 f1 f3 f4 f5
  obtain ⟨o,e,hcl,d⟩:=id st'
  exact ⟨_,rfl,zjr (s:={ s with heap:=h',toks:=tk }) e hcl d (by rcases hcls with rfl | rfl <;> decide) ⟨.str (st [c]),H,I1,⟨u,rfl⟩,⟨rfl,c,by simpa using hc',rfl⟩,st',fun b hb=>(hf b hb).1⟩⟩
 done:=by
  intro X hP hw hK hc i pins s σ H E I hf stt hg
  subst hP hw hK
  obtain ⟨f0,f1,f2,f3,f4,f5⟩:=hf it (by simp)
  have hg':i=x.cps.toList.length:=hg
  subst hg'
  refine (zgZ (I.ok.hd hc) it x t hcls).done s _ _ (by simpa using stt) fun h' tk kk=>?_
  exact ⟨rfl,I.turned (fun b o hb e=>kk b o (by simpa using hb) e) f0 f1 f3 f4 f5⟩
 self:=fun A i s Q E stt h=>by
  rcases hcls with rfl | rfl
  ·exact wpAny_pyIter_striter_ascii stt h
  ·exact wpAny_pyIter_striter_wide stt h
section
variable {tg:Expr}
end
def zc5 (cells:List (Str × Addr)):List (Str × NameKind)->List (Str × Addr)->List (Str × Addr)
 | [],acc=>acc
 | (n,k) :: r,acc=>if k == .free then zc5 cells r ((n,(cells.lookup n).getD 0) :: acc) else zc5 cells r acc
theorem zeY {env:Env}:∀ (l:List (Str × NameKind)) (acc:List (Str × Addr)),(∀ y ∈ l,y.2=.free->∃ c,env.cells.lookup y.1=some c) ->
  (forIn (m:=Sem) l acc fun x r=>if (x.2 == NameKind.free)=true then do let a <- cellOf env x.1; pure (ForInStep.yield ((x.1,a) :: r)) else pure (ForInStep.yield r))=pure (zc5 env.cells l acc)
 | [],acc,_=>rfl
 | (n,k) :: r,acc,h=>by
  rw [List.forIn_cons]
  have ih:=fun acc'=>zeY r acc' fun y hy=>h y (yc _ hy)
  by_cases hk:k=.free
  ·subst hk
   obtain ⟨c,hc⟩:=h (n,.free) (yt ..) rfl
   have e:cellOf env n=pure c:=by
    unfold cellOf
    rw [show env.cells.lookup n=some c from hc]
   show ((if ((NameKind.free:NameKind) == NameKind.free)=true then _ else _) >>= _)=_
   rw [yW (by decide),e]
   unfold zc5
   rw [yW (by decide),show env.cells.lookup n=some c from hc]
   exact ih _
  ·have hb:(k == NameKind.free)=false:=by simpa using hk
   show ((if (k == NameKind.free)=true then _ else _) >>= _)=_
   rw [yS (by rw [hb]; decide)]
   unfold zc5
   rw [yS (by rw [hb]; decide)]
   exact ih _
def zeX {scope:Scope} {env:Env} (h:∀ y ∈ scope.names,y.2=.free->∃ c,env.cells.lookup y.1=some c):closureFor scope env=pure (zc5 env.cells scope.names []):=by
 unfold closureFor; have e:=zeY scope.names [] h
 refine Eq.trans ?_ (yg (fun z=>z >>= fun cs=>(pure cs:Sem (List (Str × Addr)))) e)
 rfl
theorem zdz {cells:List (Str × Addr)} {x:Str} {c:Addr}:∀ (l:List (Str × NameKind)) (acc:List (Str × Addr)),(∀ y ∈ l,y.2=.free->∃ c,cells.lookup y.1=some c)->(∀ x c,acc.lookup x=some c->cells.lookup x=some c)->(zc5 cells l acc).lookup x=some c->cells.lookup x=some c
 | [],acc,_,ha,h=>ha x c h
 | (n,k) :: r,acc,hl,ha,h=>by
  unfold zc5 at h; split at h
  ·rename_i hk
   obtain ⟨c',hc'⟩:=hl (n,k) (yt ..) (by simpa using hk)
   refine zdz r _ (fun y hy=>hl y (yc _ hy)) (fun z d hz=>?_) h
   rw [show cells.lookup n=some c' from hc'] at hz
   rw [YG] at hz
   cases hzn:z == n with
   | true =>
    rw [hzn] at hz
    have e1:z=n:=by simpa using hzn
    rw [e1,show cells.lookup n=some c' from hc']
    simpa using hz
   | false =>
    rw [hzn] at hz; exact ha z d hz
  ·exact zdz r acc (fun y hy=>hl y (yc _ hy)) ha h
theorem zfv {cells:List (Str × Addr)} {x:Str}:∀ (l:List (Str × NameKind)) (acc:List (Str × Addr)),(∃ c,acc.lookup x=some c)->∃ c,(zc5 cells l acc).lookup x=some c
 | [],_,h=>h
 | (n,k) :: r,acc,h=>by
  unfold zc5; split
  ·refine zfv r _ ?_
   rw [YG]; split
   ·exact ⟨_,rfl⟩
   ·exact h
  ·exact zfv r acc h
theorem zfu {cells:List (Str × Addr)} {x:Str}:∀ (l:List (Str × NameKind)) (acc:List (Str × Addr)),(x,NameKind.free) ∈ l->∃ c,(zc5 cells l acc).lookup x=some c
 | [],_,h=>yU h ya
 | (n,k) :: r,acc,h=>by
  unfold zc5
  rcases yO.mp h with e | e
  ·cases e
   rw [yW (by decide)]
   refine zfv r _ ?_; rw [YG,beq_self_eq_true]; exact ⟨_,rfl⟩
  ·split
   ·exact zfu r _ e
   ·exact zfu r _ e
theorem zdP {x:Str} {k:NameKind}:∀ {l:List (Str × NameKind)},l.lookup x=some k->(x,k) ∈ l
 | [],h=>by simp at h
 | (n,j) :: r,h=>by
  rw [YG] at h
  cases e:x == n with
  | true =>
   rw [e] at h
   have e1:x=n:=by simpa using e
   have e2:j=k:=by simpa using h
   rw [e1,e2]; exact yt ..
  | false =>
   rw [e] at h; exact yc _ (zdP h)
theorem zeO {env:Env} (hk:env.scope.kind=.function) {x:Str} (hx:env.kindOf x=some .cell):∀ {l:List (Str × NameKind)},l.lookup x=some .free ->
  (l.map fun (n,k)=>if (k == NameKind.free && env.scope.kind == .function && env.kindOf n == some .cell) then (n,NameKind.cell) else (n,k)).lookup x=some .cell
 | [],h=>by simp at h
 | (n,k) :: r,h=>by
  rw [YG] at h; rw [yw]
  show List.lookup x ((if (k == NameKind.free && env.scope.kind == .function && env.kindOf n == some .cell)=true then (n,NameKind.cell) else (n,k)) :: _)=_
  cases e:x == n with
  | true =>
   rw [e] at h
   have e1:x=n:=by simpa using e
   have e2:k=.free:=by simpa using h
   subst e1 e2
   have z:((NameKind.free == NameKind.free && env.scope.kind == .function && env.kindOf x == some .cell):Bool)=true:=by rw [hk,hx]; decide
   rw [yW z,YG,beq_self_eq_true]
  | false =>
   rw [e] at h; have ih:=zeO hk hx (l:=r) h
   by_cases z:(k == NameKind.free && env.scope.kind == .function && env.kindOf n == some .cell)=true
   ·rw [yW z,YG,e]
    exact ih
   ·rw [yS z,YG,e]
    exact ih
theorem zeP {env:Env} {x:Str}:∀ {l:List (Str × NameKind)},(∀ y ∈ l,y.2≠.cell)->((l.map fun (n,k)=>if (k == NameKind.free && env.scope.kind == .function && env.kindOf n == some .cell) then (n,NameKind.cell) else (n,k)).lookup x=some .cell \/
  (l.map fun (n,k)=>if (k == NameKind.free && env.scope.kind == .function && env.kindOf n == some .cell) then (n,NameKind.cell) else (n,k)).lookup x=some .free)->(x,NameKind.free) ∈ l
 | [],_,h=>by simp at h
 | (n,k) :: r,hc,h=>by
  have again:∀ (z:(r.map fun (n,k)=>if (k == NameKind.free && env.scope.kind == .function && env.kindOf n == some .cell) then (n,NameKind.cell) else (n,k)).lookup x=some .cell\/(r.map fun (n,k)=>if (k == NameKind.free && env.scope.kind == .function && env.kindOf n == some .cell) then (n,NameKind.cell) else (n,k)).lookup x=some .free),(x,NameKind.free) ∈ (n,k) :: r :=
   fun z=>yc _ (zeP (fun y hy=>hc y (yc _ hy)) z)
  rw [yw] at h
  change List.lookup x ((if (k == NameKind.free && env.scope.kind == .function && env.kindOf n == some .cell)=true then (n,NameKind.cell) else (n,k)) :: _)=some NameKind.cell\/List.lookup x ((if (k == NameKind.free && env.scope.kind == .function && env.kindOf n == some .cell)=true then (n,NameKind.cell) else (n,k)) :: _)=some NameKind.free at h
  by_cases z:(k == NameKind.free && env.scope.kind == .function && env.kindOf n == some .cell)=true
  ·have hk:k=.free:=by
    simp only [YQ,beq_iff_eq] at z; exact z.1.1
   rw [yW z,YG] at h
   cases e:x == n with
   | true =>
    have e1:x=n:=by simpa using e
    rw [e1,hk]; exact yt ..
   | false =>
    rw [e] at h; exact again h
  ·rw [yS z,YG] at h
   cases e:x == n with
   | true =>
    rw [e] at h
    have e1:x=n:=by simpa using e
    rcases h with h | h
    ·exact yU (by simpa using h) (hc (n,k) (yt ..))
    ·have e2:k=.free:=by simpa using h
     rw [e1,e2]; exact yt ..
   | false =>
    rw [e] at h; exact again h
structure Blk (N N':List Str) (src:List (Option Nat)) (fsc sc:Scope):Prop where
 kind:sc.kind=.function
 cell:∀ y ∈ sc.names,y.2≠.cell
 names:∀ y ∈ sc.names,y.2=.local->sc.names.lookup y.1=some .local
 free:∀ y ∈ sc.names,y.2=.free->fsc.names.lookup y.1=some .cell
 len:src.length=N'.length
 sees:((N'.zip src).all fun y=>match y.2 with | none=>true | some i=>decide (N[i]?=some y.1) && decide (sc.names.lookup y.1=some .free))=true
def zkj (src:List (Option Nat)) (σ:St):St:=src.map fun o=>o.bind fun i=>(σ[i]?).join
abbrev blk (X:Cx) (N':List Str) (sc:Scope) (cl:List (Str × Addr)) (C:Addr) (s:Shared) (H:Hp) (fp:List Addr) (pn:yyL):Cx :=
 { X with N:=N',s₀:=s,H₀:=H,env:=compEnvC sc cl C X.env,outer:=X.stack,ex:=fp,fn:=fun _=>false,pn:=pn }
def zme {X:Cx} {N N':List Str} {src:List (Option Nat)} {fsc sc:Scope} {pins:yyL} {σ:St} {H:Hp} {s:Shared} {fp:List Addr} {h':Heap} {tk:Nat} {m:Str->Option Value} (I:Inv X pins σ H s) (B:Blk N N' src fsc sc) (hN:X.N=N) (hs:X.env.scope=fsc)
  (f2:∀ b ∈ fp,zdf X pins H b) (fb:∀ b ∈ fp,b<s.heap.objs.size) (hn:h'.Ns s.heap.objs.size m) (kp:∀ b o,s.heap.get? b=some o->h'.get? b=some o) :
  Inv (blk X N' sc (zc5 X.env.cells sc.names []) s.heap.objs.size s H fp (X.pn ++ pins)) [] (zkj src σ) H { s with heap:=h',toks:=tk }:=by
 subst hN hs
 have hfr:∀ y ∈ sc.names,y.2=.free->∃ c,X.env.cells.lookup y.1=some c:=fun y hy e=>I.ok.has y.1 (.inl (B.free y hy e))
 have sub:∀ x c,(zc5 X.env.cells sc.names []).lookup x=some c->X.env.cells.lookup x=some c:=fun x c e=>zdz sc.names [] hfr (fun _ _ z=>by simp at z) e
 have has:∀ x,(x,NameKind.free) ∈ sc.names->∃ c,(zc5 X.env.cells sc.names []).lookup x=some c:=fun x hx=>zfu sc.names [] hx
 have ok:Cx.Ok (blk X N' sc (zc5 X.env.cells sc.names []) s.heap.objs.size s H fp (X.pn ++ pins)):=by
  refine ⟨I.ok.mod,B.kind,I.ok.glob,I.ok.blt,yJ _,fun x y c e1 e2=>I.ok.inj x y c (sub x c e1) (sub y c e2),fun x hx=>has x (zeP B.cell hx),fun x c e=>(nomatch e),I.ok.hd,I.ok.frames,.inl rfl,fun b hb=>⟨yP (fb b hb),fun x c e=>(f2 b hb).2.2.2.2.1 x c (sub x c e)⟩,
   I.bs,yj I.ok.bsz I.sz,fun b o e hb=>?_,fun b hb z=>?_,I.stack,I.stkFree,I.ok.tab.un I.base.tbls⟩
  ·rcases (f2 b hb).2.2.2.1 with z | z
   ·exact I.ok.noex b o e z
   ·exact yU (yM (yH e) (yj I.ok.bsz z)) (YR _)
  ·rcases yO.mp (I.stkSub b z) with e | e
   ·exact (f2 b hb).2.1 e
   ·exact (f2 b hb).2.2.1 e
 refine ⟨ok,rfl,I.bare,Un.kept kp,⟨m,hn,fun j x v e1 e2 e3=>?_⟩,fun x c e=>?_,I.hok.fresh (yJ _),fun x c e=>I.freeC x c (sub x c e),fun p hp=>?_,I.hok.kept kp,?_⟩
 ·have e2':(src[j]?).map (fun o=>o.bind fun i=>(σ[i]?).join)=some (some v):=by
   have z:=e2; unfold zkj at z; rw [yF] at z; exact z
  cases hj:src[j]? with
  | none=>rw [hj] at e2'; cases e2'
  | some o =>
   rw [hj] at e2'
   cases o with
   | none=>cases e2'
   | some i =>
    have hσ:σ[i]?=some (some v):=by
     have z:(σ[i]?).join=some v:=by simpa using e2'
     cases hz:σ[i]? with
     | none=>rw [hz] at z; cases z
     | some w=>rw [hz] at z; exact yg some z
    have hz:(x,some i) ∈ N'.zip src:=by
     have q:(N'.zip src)[j]?=some (x,some i):=by
      rw [List.getElem?_zip_eq_some]; exact ⟨e1,hj⟩
     exact yZ q
    have q:=Yf.mp B.sees _ hz; simp only [YQ,decide_eq_true_eq] at q; obtain ⟨q1,q2⟩:=q
    have hkc:X.env.kindOf x=some .cell:=B.free _ (zdP q2) rfl
    obtain ⟨m0,_,hl⟩:=I.loc; obtain ⟨u,ru,lk⟩:=hl i x v q1 hσ (.inr (.inl hkc)); refine ⟨u,ru,.inr ⟨.inl (zeO I.ok.kind hkc q2),?_⟩⟩
    rcases lk with ⟨k,_⟩ | ⟨_,c,e,z⟩
    ·rw [hkc] at k; cases k
    ·obtain ⟨c',hc'⟩:=has x (zdP q2)
     have e':=sub x c' hc'; rw [e] at e'; cases e'; obtain ⟨o,ho,hd⟩:=z; exact ⟨c,hc',o,kp _ _ ho,hd⟩
 ·obtain ⟨v,o,ho,hd⟩:=I.cell x c (sub x c e)
  exact ⟨v,o,kp _ _ ho,hd⟩
 ·rw [yh] at hp
  obtain ⟨e,n,ne,nf,d⟩:=I.pin p hp
  refine ⟨kp _ _ e,n,yP (yH e),fun z=>?_,d⟩
  rcases yO.mp (I.stkSub p.1 z) with q | q
  ·exact ne q
  ·exact nf q
 ·show (zkj src σ).length=N'.length
  unfold zkj; rw [yE,B.len]
def Un.same {fs ex:List Addr} {H H1:Hp} {h h1 h2:Heap} {a:Addr} (u:Un fs ex H H1 h h1) (hs:Heap.SameBut a h1 h2) (ha:h.objs.size<=a):Un fs ex H H1 h h2:=by
 have ne:∀ b o,h.get? b=some o->b≠a:=fun b o e=>yP (yM (yH e) ha)
 refine ⟨fun b o e n h1 h2=>?_,fun b o e n h1 h2=>?_,u.free,fun b o e h1=>?_,u.tups,u.frzs,u.tbls⟩
 ·exact (hs.2 b (ne b o e)).trans (u.keep b o e n h1 h2)
 ·obtain ⟨sl,q⟩:=u.slot b o e n h1 h2
  exact ⟨sl,(hs.2 b (ne b o e)).trans q⟩
 ·obtain ⟨o',q⟩:=u.there b o e h1
  exact ⟨o',(hs.2 b (ne b o e)).trans q⟩
def HOk.same {P:Program} {w:World} {H:Hp} {h h':Heap} {a:Addr} (x:HOk P w H h) (hs:Heap.SameBut a h h') (ha:H a=none):HOk P w H h':=fun b o e=>by
 refine (x b o e).stay (fun c u hc q=>(hs.2 c ?_).trans q) (fun _ q=>q) fun _ _ q=>q
 rintro rfl
 rcases hc with rfl | hc
 ·rw [ha] at e; cases e
 ·rw [ha] at hc; cases hc
def PTs (X:Cx) (ifs:List Expr) (t:TT):Prop :=
 ∀ (pins:yyL) (s:Shared) (σ:St) (H:Hp) (Q:Bool->Hp->Prop),Inv X pins σ H s->t σ H Q ->
  wpAny (model X.prog X.w) X.A (forIn ifs true fun c r=>if r=true then do let ok <- isTrue c X.env (eval c X.env); pure (ForInStep.yield ok) else pure (ForInStep.yield r)) (TP X pins σ Q) X.xe s
def ziP {X:Cx}:PTs X [] (fun _ H Q=>Q true H):=fun _ _ _ H _ I h=>yG ⟨H,I,h⟩
def zmP {X:Cx} {c:Expr} {t:TT} (h:PT X c t):PTs X [c] t:=fun pins s σ H Q I q=>wpAny_tests_one (h pins s σ H Q I q)
def zge {P:Program} {w:World} {A:Around} {R:Result->Shared->Prop} {s:Shared} {elt tg iter:Expr} {ifs:List Expr} {sc:Scope} {pos:Pos} {it acc:Value} {env:Env} (J:Nat->Shared->Prop)
  (turn:∀ k s',J k s'->wpAny (model P w) A (pyNext it) (fun r s1=>match r with
   | none=>R (.ok .next) s1
   | some v=>wpAny (model P w) A (letOwnedTupleGo tg it v) (fun _ s2=>wpAny (model P w) A (assign tg env v) (fun _ s3 =>
     wpAny (model P w) A (forIn ifs true fun c r=>if r=true then do let ok <- isTrue c env (eval c env); pure (ForInStep.yield ok) else pure (ForInStep.yield r)) (fun b s4 =>
      if b=true then wpAny (model P w) A (eval elt env) (fun y s5=>wpAny (model P w) A (call (.builtin "list.append") [acc,y]) (fun _ s6=>∃ m,m<k/\J m s6) (fun _ _=>False) s5) (fun _ _=>False) s4
      else ∃ m,m<k/\J m s4) (fun _ _=>False) s3) (fun _ _=>False) s2) (fun _ _=>False) s1) (fun _ _=>False) s')
  (k:Nat) (h:J k s):codeAny (model P w) A (.compLoop (.ListComp elt [⟨tg,iter,ifs,0⟩] sc pos) 0 it acc env) R s:=by
 have no:∀ {α:Type} {t:Sem α} {Q Q':α->Shared->Prop} {E:Value->Shared->Prop} {z:Shared},wpAny (model P w) A t Q (fun _ _=>False) z->(∀ a z',Q a z'->Q' a z')->wpAny (model P w) A t Q' E z:=fun g1 g2=>ym g1 g2 fun _ _ f=>f.elim
 refine codeAny_loop rfl J (fun k s' hJ=>?_) k h
 show wpAny _ A ((compTurn (.ListComp elt [⟨tg,iter,ifs,0⟩] sc pos) 0 it acc env).onRaise (fun x=>do noteFrame x env; theTreesLotGoes x)) _ _ s'
 refine wpAny_noted ?_; rw [compTurn_list]
 refine yA (wpAny_standAt (yA (no (turn k s' hJ) fun r s1 h1=>?_)))
 cases r with
 | none=>exact yG h1
 | some v =>
  refine yA (no h1 fun _ s2 h2=>yA (no h2 fun _ s3 h3=>yA (no h3 fun b s4 h4=>?_)))
  cases b with
  | false=>exact yG ⟨rfl,h4⟩
  | true=>exact yA (yA (no h4 fun y s5 h5=>yA (no h5 fun _ s6 h6=>yG (yG ⟨rfl,h6⟩))))
def zn9 (wi:TI) (src:List (Option Nat)) (g:TG) (tc:TT) (te:TE):TE:=fun σ H Q=>wi σ H fun J H1=>∀ D,H1 D=none->∃ W:Nat->Nat->St->Hp->Prop,(∃ m,W 0 m (zkj src σ) (upd H1 D (.lst [])))/\∀ i m σ2 H2,W i m σ2 H2 ->
 (J.stop i H2/\Q (.ref D) H2)\/(J.go i H2/\∃ M:St->Hp->Prop,(∀ σ' H',M σ' H'->∃ m',m'<m/\W (i+1) m' σ' H')/\∀ x H',J.yld i H2 x H'->g x σ2 H' fun σ3 H3=>tc σ3 H3 fun b H4 =>
  if b=true then te σ3 H4 fun y H5=>∃ ys,H5 D=some (.lst ys)/\ys.length<sizeLine/\M σ3 (upd H5 D (.lst (ys ++ [y]))) else M σ3 H4)
def zi3 {X:Cx} {elt tg iter:Expr} {ifs:List Expr} {sc fsc:Scope} {pos:Pos} {wi:TI} {g:TG} {tc:TT} {te:TE} {N N':List Str} {src:List (Option Nat)} (B:Blk N N' src fsc sc) (hi:PI X tg iter wi)
  (hg:∀ cl C s H fp pn,PG (blk X N' sc cl C s H fp pn) tg g) (ht:∀ cl C s H fp pn,PTs (blk X N' sc cl C s H fp pn) ifs tc) (he:∀ cl C s H fp pn,PE (blk X N' sc cl C s H fp pn) elt te)
  (hx:X.xe=(fun _ _=>False):=by rfl) (hc:X.calm=true:=by rfl) (hN:X.N=N:=by rfl) (hs:X.env.scope=fsc:=by rfl)
  (hf:∀ x,foldedSetIterable iter X.env x=pure x:=by intro _; rfl):PE X (.ListComp elt [⟨tg,iter,ifs,0⟩] sc pos) (zn9 wi src g tc te):=by
 intro pins s σ H Q I h; rw [eval_ListComp]
 have hfr:∀ y ∈ sc.names,y.2=.free->∃ c,X.env.cells.lookup y.1=some c:=fun y hy e=>I.ok.has y.1 (.inl (by have:=B.free y hy e; rw [<- hs] at this; exact this))
 refine wpAny_comprehension_free (use:=none) (cl:=zc5 X.env.cells sc.names []) rfl hf (zeX hfr) B.kind B.names ?_
 refine thn (hi pins s σ H _ I h) fun v s1 h1=>thn h1 fun itv s2 h2=>?_
 obtain ⟨it,fp,tn,J,H2,e,I2,T,st2,f2,q⟩:=h2; subst e
 obtain ⟨W,⟨m0,w0⟩,turn⟩:=q s2.heap.objs.size (I2.hok.fresh (yJ _))
 refine yi (wpAny_newFunctionEnv B.cell (by intro y hy; simp at hy) (fun h1 hns hsb=>?_) B.kind)
 dsimp only at hns hsb ⊢
 have I3:Inv X pins σ (upd H2 s2.heap.objs.size (.lst [])) { s2 with heap:=s2.heap.push { cls:=.type "list",dict:=none,data:=.seq ([]:List Value).toArray } } :=
  I2.laid (t':=s2.toks) (fun b o e=>yC _ e) (yJ _) ⟨YE _,[],0,.nil,yI _ rfl⟩
 have fb:∀ b ∈ fp,b<s2.heap.objs.size:=fun b hb=>by
  obtain ⟨o,e,_⟩:=T.obj 0 _ st2 b hb; exact yH e
 have f3:∀ b ∈ fp,zdf X pins (upd H2 s2.heap.objs.size (.lst [])) b:=fun b hb=>by
  refine ⟨?_,(f2 b hb).2⟩; rw [zp (yP (fb b hb))]; exact (f2 b hb).1
 generalize hh3:s2.heap.push { cls:=.type "list",dict:=none,data:=.seq ([]:List Value).toArray }=h3 at hns hsb I3 ⊢
 have z3:s2.heap.objs.size<h3.objs.size:=by rw [<- hh3,YJ]; exact Nat.lt_succ_self _
 have k3:∀ b o,h3.get? b=some o->h1.get? b=some o:=fun b o e=>hsb.extBut b o (yP (yH e)) (yC _ e)
 have I4:=zme (tk:=s2.toks+([]:List (Str × Value)).length) I3 B hN hs f3 (fun b hb=>Nat.lt_trans (fb b hb) z3) hns k3
 have st4:tn 0 h1:=T.keep 0 _ _ st2 fun b hb o e=>k3 b o (by rw [<- hh3]; exact yC _ e)
 have fok:∀ {H':Hp},(∀ b ∈ fp,H' b=none)->∀ b ∈ fp,zdf (blk X N' sc (zc5 X.env.cells sc.names []) h3.objs.size { s2 with heap:=h3 } (upd H2 s2.heap.objs.size (.lst [])) fp (X.pn ++ pins)) [] H' b:=fun hn b hb=>by
  obtain ⟨_,g1,g2,g3,g4,g5⟩:=f3 b hb
  refine ⟨hn b hb,yP (Nat.lt_trans (fb b hb) z3),fun z=>?_,.inl hb,fun x c e=>g4 x c (zdz sc.names [] hfr (fun _ _ z=>by simp at z) e),fun p hp=>g5 p (by rw [yh] at hp; exact hp)⟩
  rcases yO.mp (I3.stkSub b z) with e | e
  ·exact g1 e
  ·exact g2 e
 have loop:∀ s4:Shared,s4={ s2 with heap:=h1,toks:=s2.toks+([]:List (Str × Value)).length } ->
   codeAny (model X.prog X.w) X.A (.compLoop (.ListComp elt [⟨tg,iter,ifs,0⟩] sc pos) 0 (.ref it) (.ref s2.heap.objs.size) (compEnvC sc (zc5 X.env.cells sc.names []) h3.objs.size X.env))
    (compPost (model X.prog X.w) X.A X.xe none (EP X pins σ Q) (.ref s2.heap.objs.size) h3.objs.size) s4:=by
  rintro s4 rfl
  refine zge (fun k s'=>∃ i σ5 H5,Inv (blk X N' sc (zc5 X.env.cells sc.names []) h3.objs.size { s2 with heap:=h3 } (upd H2 s2.heap.objs.size (.lst [])) fp (X.pn ++ pins)) [] σ5 H5 s'/\tn i s'.heap/\(∀ b ∈ fp,H5 b=none)/\W i k σ5 H5) ?_ m0
   ⟨0,_,_,I4,st4,fun b hb=>(f3 b hb).1,w0⟩
  rintro k s5 ⟨i,σ5,H5,I5,st5,fr5,w5⟩
  rcases turn i k σ5 H5 w5 with ⟨stop,qd⟩ | ⟨go,M,hM,step⟩
  ·refine thn (T.done (blk X N' sc (zc5 X.env.cells sc.names []) h3.objs.size { s2 with heap:=h3 } (upd H2 s2.heap.objs.size (.lst [])) fp (X.pn ++ pins)) rfl rfl rfl hc i [] s5 σ5 H5 _ I5 (fok fr5) st5 stop) fun r s6 ⟨hr,I6⟩=>?_
   subst hr; obtain ⟨m6,hn6,_⟩:=id I6.loc
   refine ⟨m6,hn6,fun h' hsb'=>⟨.ref s2.heap.objs.size,H5,?_,rfl,qd⟩⟩
   exact I3.call' (s':={ s6 with heap:=h' }) (ch:=fp) I6.os (Un.same I6.base hsb' (yJ _)) (HOk.same I6.hok hsb' I6.free) I6.bare fun b hb=>⟨(f3 b hb).2.2.2.1,(f3 b hb).2.1,(f3 b hb).2.2.2.2.1,(f3 b hb).2.2.2.2.2⟩
  ·refine thn (T.item (blk X N' sc (zc5 X.env.cells sc.names []) h3.objs.size { s2 with heap:=h3 } (upd H2 s2.heap.objs.size (.lst [])) fp (X.pn ++ pins)) rfl rfl rfl hc i [] s5 σ5 H5 _ I5 (fok fr5) st5 go) fun r s6 ⟨u,hr,h6⟩=>?_
   subst hr
   refine thn h6 fun _ s7 ⟨x,H7,I7,r7,y7,st7,fr7⟩=>?_
   have I7':=I7.pinned (fok fr7) (T.obj _ _ st7)
   have back:∀ {σ8:St} {H8:Hp} {s8:Shared},Inv (blk X N' sc (zc5 X.env.cells sc.names []) h3.objs.size { s2 with heap:=h3 } (upd H2 s2.heap.objs.size (.lst [])) fp (X.pn ++ pins)) ([] ++ zeg fp s7.heap) σ8 H8 s8->tn (i+1) s8.heap/\∀ b ∈ fp,H8 b=none:=fun {σ8 H8 s8} I8=>by
    have pn8:∀ b ∈ fp,∀ o,s7.heap.get? b=some o->s8.heap.get? b=some o/\H8 b=none:=fun b hb o e=>by
     have q:=I8.pin (b,o) (yb _ (yb _ (zb8 hb e))); exact ⟨q.1,q.2.1⟩
    refine ⟨T.keep _ _ _ st7 fun b hb o e=>(pn8 b hb o e).1,fun b hb=>?_⟩
    obtain ⟨o,e,_⟩:=T.obj _ _ st7 b hb; exact (pn8 b hb o e).2
   have xf:∀ {α:Type} {t:Sem α} {Q1 Q2:α->Shared->Prop} {z:Shared},wpAny (model X.prog X.w) X.A t Q1 X.xe z->(∀ a z',Q1 a z'->Q2 a z')->wpAny (model X.prog X.w) X.A t Q2 (fun _ _=>False) z:=fun g1 g2=>by
    rw [hx] at g1; exact thn g1 g2
   refine xf (hg _ _ _ _ _ _ _ s7 σ5 H7 x u _ I7' r7 (step x H7 y7)) fun _ s8 ⟨σ8,H8,I8,q8⟩=>?_
   refine xf (ht _ _ _ _ _ _ _ s8 σ8 H8 _ I8 q8) fun b s9 ⟨H9,I9,q9⟩=>?_
   cases b with
   | false =>
    obtain ⟨m',hm,w'⟩:=hM σ8 H9 (by simpa using q9)
    obtain ⟨g1,g2⟩:=back I9; exact ⟨m',hm,i+1,σ8,H9,I9.unpinned,g1,g2,w'⟩
   | true =>
    rw [yW rfl] at q9 ⊢
    refine xf (he _ _ _ _ _ _ _ s9 σ8 H9 _ I9 q9) fun y s10 ⟨yv,H10,I10,r10,ys,hy,hz,w⟩=>?_
    obtain ⟨m',hm,w'⟩:=hM _ _ w
    refine xf (zcT (X:=(blk X N' sc (zc5 X.env.cells sc.names []) h3.objs.size { s2 with heap:=h3 } (upd H2 s2.heap.objs.size (.lst [])) fp (X.pn ++ pins))) _ s10 σ8 H10 (.ref s2.heap.objs.size) [yv] _ [y] (fun _ H11=>H11=upd H10 s2.heap.objs.size (.lst (ys ++ [yv]))) I10 rfl (.cons r10 .nil) ⟨_,ys,yv,rfl,rfl,hy,hz,rfl⟩) fun _ s11 ⟨_,H11,I11,_,e11⟩=>?_
    subst e11; obtain ⟨g1,g2⟩:=back I11; exact ⟨m',hm,i+1,σ8,_,I11.unpinned,g1,g2,w'⟩
 exact codeAny_compStart_list (loop _ rfl) (T.self _ 0 _ _ _ st4 (loop _ rfl))
def zgc {J:It} {n:Nat} {g:TG} {tc:TT} {te:TE} {Q:VK} {D:Addr} {σ0:St} {H0:Hp} (Pv:Nat->St->Hp->Prop) (h0:Pv 0 σ0 H0)
  (hs:∀ i σ H,i<n->Pv i σ H->J.go i H/\∀ x H',J.yld i H x H'->g x σ H' fun σ3 H3=>tc σ3 H3 fun b H4=>if b=true then te σ3 H4 fun y H5=>∃ ys,H5 D=some (.lst ys)/\ys.length<sizeLine/\Pv (i+1) σ3 (upd H5 D (.lst (ys ++ [y]))) else Pv (i+1) σ3 H4)
  (hd:∀ σ H,Pv n σ H->J.stop n H/\Q (.ref D) H) :
  ∃ W:Nat->Nat->St->Hp->Prop,(∃ m,W 0 m σ0 H0)/\∀ i m σ2 H2,W i m σ2 H2 ->
   (J.stop i H2/\Q (.ref D) H2)\/(J.go i H2/\∃ M:St->Hp->Prop,(∀ σ' H',M σ' H'->∃ m',m'<m/\W (i+1) m' σ' H')/\∀ x H',J.yld i H2 x H'->g x σ2 H' fun σ3 H3=>tc σ3 H3 fun b H4 =>
    if b=true then te σ3 H4 fun y H5=>∃ ys,H5 D=some (.lst ys)/\ys.length<sizeLine/\M σ3 (upd H5 D (.lst (ys ++ [y]))) else M σ3 H4):=by
 refine ⟨fun i m σ H=>m=n-i/\i<=n/\Pv i σ H,⟨n,by simp,YE _,h0⟩,?_⟩
 rintro i m σ2 H2 ⟨rfl,hi,p⟩
 by_cases hlt:i<n
 ·obtain ⟨go,stp⟩:=hs i σ2 H2 hlt p
  exact .inr ⟨go,Pv (i+1),fun σ' H' p'=>⟨n-(i+1),by omega,rfl,hlt,p'⟩,stp⟩
 ·have e:i=n:=by omega
  subst e; exact .inl (hd σ2 H2 p)
end L2
namespace L2
open PySem
def XAt (a C:Addr) (dd:Option Addr):Heap->Prop:=fun h=>∃ vs sl,h.get? a=some ⟨.ref C,dd,.fields vs,sl⟩
end L2
namespace PL
open PySem L2
inductive D where
 | non | bl (b:Bool) | int (i:Int) | str (l:List Nat) | ty (n:String) | rng (lo hi:Int) | cls (C:Addr) | adr (b:Addr)
 | tup (l:List D) | lst (l:List D) | dic (l:List (D × D)) | dit (l:List (D × D)) | obj (C:Addr) (fs:List (Str × D)) | exc (C:Addr) (fs:List (Str × D))
inductive OD where
 | lst (l:List D) | dic (l:List (D × D)) | dit (l:List (D × D)) | obj (C:Addr) (fs:List (Str × D))
def OD.toD:OD->D
 | .lst l=>.lst l
 | .dic l=>.dic l
 | .dit l=>.dit l
 | .obj C fs=>.obj C fs
theorem paired_of {α β:Type} {R:α->β->Prop}:∀ {l:List α} {m:List β},l.length=m.length->(∀ (i:Nat) a b,l[i]?=some a->m[i]?=some b->R a b)->Paired R l m
 | [],[],_,_=>.nil
 | a :: l,b :: m,h,r=>.cons (r 0 a b rfl rfl) (paired_of (by simpa using h) fun i x y hx hy=>r (i+1) x y (by simpa using hx) (by simpa using hy))
 | [],_ :: _,h,_=>by simp at h
 | _ :: _,[],h,_=>by simp at h
theorem paired_get {α β:Type} {R:α->β->Prop}:∀ {l:List α} {m:List β} (i:Nat) {a:α} {b:β},Paired R l m->l[i]?=some a->m[i]?=some b->R a b
 | _,_,_,_,_,.nil,h,_=>by simp at h
 | _,_,0,_,_,.cons r _,h1,h2=>by simp at h1 h2; subst h1; subst h2; exact r
 | _,_,i+1,_,_,.cons _ t,h1,h2=>paired_get i t (by simpa using h1) (by simpa using h2)
def zm {α β:Type} {R:α->β->Prop} {l:List α} {m:List β} (h:Paired R l m):l.length=m.length:=Paired.length h
def zaV {α β:Type} {R:α->β->Prop} {l:List α} {m:List β} (h:Paired R l m) {i:Nat} {b:β} (e:m[i]?=some b):∃ a,l[i]?=some a/\R a b:=by
 have hl:=zm h
 have hi:i<l.length:=by rw [hl]; exact (yD.mp e).1
 exact ⟨l[i],yB hi,paired_get i h (yB hi) e⟩
def zcB {α β:Type} {R:α->β->Prop} {l:List α} {m:List β} (h:Paired R l m) {i:Nat} {a:α} (e:l[i]?=some a):∃ b,m[i]?=some b/\R a b:=by
 have hl:=zm h
 have hi:i<m.length:=by rw [<- hl]; exact (yD.mp e).1
 exact ⟨m[i],yB hi,paired_get i h e (yB hi)⟩
theorem zbG {α β:Type} {R:α->β->Prop}:∀ {l l':List α} {m m':List β},Paired R l m->Paired R l' m'->Paired R (l ++ l') (m ++ m')
 | _,_,_,_,.nil,h=>h
 | _,_,_,_,.cons r t,h=>.cons r (zbG t h)
theorem zej {α β:Type} {R:α->β->Prop}:∀ {l:List α} {m:List β} (n:Nat),Paired R l m->Paired R (l.take n) (m.take n)
 | _,_,0,_=>.nil
 | _,_,_+1,.nil=>.nil
 | _,_,n+1,.cons r t=>.cons r (zej n t)
theorem zek {α β:Type} {R:α->β->Prop}:∀ {l:List α} {m:List β} (n:Nat),Paired R l m->Paired R (l.drop n) (m.drop n)
 | _,_,0,h=>h
 | _,_,_+1,.nil=>.nil
 | _,_,n+1,.cons _ t=>zek n t
def zfB:Key->D
 | .inl i=>.int i
 | .inr x=>.str x.cps.toList
inductive Den (K:W.Frag) (H:Hp):V->D->Prop where
 | non:Den K H .non .non
 | bl (b:Bool):Den K H (.bl b) (.bl b)
 | int (i:Int):Den K H (.int i) (.int i)
 | str (l:List Nat):Den K H (.str (st l)) (.str l)
 | ty (n:String):Den K H (.ty n) (.ty n)
 | rng {a:Addr} {lo hi:Int} (h:Rd H a (.rng lo hi)):Den K H (.ref a) (.rng lo hi)
 | cls (C:Addr):Den K H (.ref C) (.cls C)
 | adr (b:Addr):Den K H (.ref b) (.adr b)
 | tup {a:Addr} {vs:List V} {ds:List D} (h:H a=some (.tup vs)) (l:vs.length=ds.length) (r:∀ (i:Nat) v d,vs[i]?=some v->ds[i]?=some d->Den K H v d):Den K H (.ref a) (.tup ds)
 | lst {a:Addr} {vs:List V} {ds:List D} (h:SqL K H a vs) (l:vs.length=ds.length) (r:∀ (i:Nat) v d,vs[i]?=some v->ds[i]?=some d->Den K H v d):Den K H (.ref a) (.lst ds)
 | dicK {a:Addr} {kvs:List (Key × V)} {ds:List (D × D)} (h:Rd H a (.dK kvs)) (l:kvs.length=ds.length) (r:∀ (i:Nat) p q,kvs[i]?=some p->ds[i]?=some q->q.1=zfB p.1) (r2:∀ (i:Nat) p q,kvs[i]?=some p->ds[i]?=some q->Den K H p.2 q.2):Den K H (.ref a) (.dic ds)
 | dicT {a:Addr} {kvs:List (List Key × V)} {ep:Nat} {ds:List (D × D)} (h:H a=some (.dE kvs ep)) (l:kvs.length=ds.length) (r:∀ (i:Nat) p q,kvs[i]?=some p->ds[i]?=some q->q.1=.tup (p.1.map zfB)) (r2:∀ (i:Nat) p q,kvs[i]?=some p->ds[i]?=some q->Den K H p.2 q.2):Den K H (.ref a) (.dit ds)
 | obj {a C dx:Addr} {fs:List (Str × V)} {ds:List (Str × D)} (h:H a=some (.ins C dx fs)) (l:fs.length=ds.length) (r:∀ (i:Nat) p q,fs[i]?=some p->ds[i]?=some q->q.1=p.1) (r2:∀ (i:Nat) p q,fs[i]?=some p->ds[i]?=some q->Den K H p.2 q.2):Den K H (.ref a) (.obj C ds)
 | excN {a C:Addr} (h:H a=some (.ext (XAt a C none))):Den K H (.ref a) (.exc C [])
 | exc {a C dx:Addr} {fs:List (Str × V)} {ds:List (Str × D)} (h:H a=some (.ext (XAt a C (some dx)))) (h2:H dx=some (.xd fs)) (l:fs.length=ds.length) (r:∀ (i:Nat) p q,fs[i]?=some p->ds[i]?=some q->q.1=p.1) (r2:∀ (i:Nat) p q,fs[i]?=some p->ds[i]?=some q->Den K H p.2 q.2):Den K H (.ref a) (.exc C ds)
abbrev zpL (K:W.Frag) (H:Hp):List (Key × V)->List (D × D)->Prop:=Paired fun p q=>q.1=zfB p.1/\Den K H p.2 q.2
abbrev znU (K:W.Frag) (H:Hp):List (List Key × V)->List (D × D)->Prop:=Paired fun p q=>q.1=.tup (p.1.map zfB)/\Den K H p.2 q.2
abbrev zim (K:W.Frag) (H:Hp):List (Str × V)->List (Str × D)->Prop:=Paired fun p q=>q.1=p.1/\Den K H p.2 q.2
abbrev zb4 (K:W.Frag) (H:Hp):List V->List D->Prop:=Paired (Den K H)
section
variable {H':Hp} {v:V} {a:Addr} {vs:List V} {ds:List D}
def zdJ {u:HO} (e:zaR H H') (h:Rd H a u):Rd H' a u:=by
 rcases h with h | ⟨o,h⟩
 ·exact .inl (e _ _ h)
 ·exact .inr ⟨o,e _ _ h⟩
def zaj (e:zaR H H') (h:SqT K H a vs):SqT K H' a vs:=by
 rcases h with h | h
 ·exact .inl (zdJ e h)
 ·exact .inr h
def zab (e:zaR H H') (h:SqL K H a vs):SqL K H' a vs:=by
 rcases h with h | h
 ·exact .inl (zdJ e h)
 ·exact .inr h
def Den.mono {d:D} (h:Den K H v d) (e:zaR H H'):Den K H' v d:=by
 induction h with
 | non=>exact .non
 | bl b=>exact .bl b
 | int i=>exact .int i
 | str l=>exact .str l
 | ty n=>exact .ty n
 | rng h=>exact .rng (zdJ e h)
 | cls C=>exact .cls C
 | adr C=>exact .adr C
 | tup h l r ih=>exact .tup (e _ _ h) l ih
 | lst h l r ih=>exact .lst (zab e h) l ih
 | dicK h l r r2 ih=>exact .dicK (zdJ e h) l r ih
 | dicT h l r r2 ih=>exact .dicT (e _ _ h) l r ih
 | obj h l r r2 ih=>exact .obj (e _ _ h) l r ih
 | excN h=>exact .excN (e _ _ h)
 | exc h h2 l r r2 ih=>exact .exc (e _ _ h) (e _ _ h2) l r ih
def zb4.mono (h:zb4 K H vs ds) (e:zaR H H'):zb4 K H' vs ds:=Paired.mapP h fun _ _ q=>q.mono e
def zpL.mono {kvs:List (Key × V)} {es:List (D × D)} (h:zpL K H kvs es) (e:zaR H H'):zpL K H' kvs es:=Paired.mapP h fun _ _ q=>⟨q.1,q.2.mono e⟩
def znU.mono {kvs:List (List Key × V)} {es:List (D × D)} (h:znU K H kvs es) (e:zaR H H'):znU K H' kvs es:=Paired.mapP h fun _ _ q=>⟨q.1,q.2.mono e⟩
def zim.mono {fs:List (Str × V)} {es:List (Str × D)} (h:zim K H fs es) (e:zaR H H'):zim K H' fs es:=Paired.mapP h fun _ _ q=>⟨q.1,q.2.mono e⟩
def Den.mkO {C dx:Addr} {fs:List (Str × V)} {es:List (Str × D)} (h:H a=some (.ins C dx fs)) (r:zim K H fs es):Den K H (.ref a) (.obj C es):=.obj h (zm r) (fun i _ _ h1 h2=>(paired_get i r h1 h2).1) fun i _ _ h1 h2=>(paired_get i r h1 h2).2
def Den.objI {C:Addr} {es:List (Str × D)} (h:Den K H v (.obj C es)):∃ a dx fs,v=.ref a/\H a=some (.ins C dx fs)/\zim K H fs es:=by
 cases h with
 | obj h l r r2=>exact ⟨_,_,_,rfl,h,paired_of l fun i p q h1 h2=>⟨r i p q h1 h2,r2 i p q h1 h2⟩⟩
def zmf (K:W.Frag) (H:Hp) (dd:Option Addr) (es:List (Str × D)):Prop:=(dd=none/\es=[])\/∃ dx fs,dd=some dx/\H dx=some (.xd fs)/\zim K H fs es
def zmf.mono {dd:Option Addr} {es:List (Str × D)} (h:zmf K H dd es) (e:zaR H H'):zmf K H' dd es:=by
 rcases h with h | ⟨dx,fs,h1,h2,h3⟩
 ·exact .inl h
 ·exact .inr ⟨dx,fs,h1,e _ _ h2,h3.mono e⟩
def Den.mkX {C:Addr} {dd:Option Addr} {es:List (Str × D)} (h:H a=some (.ext (XAt a C dd))) (x:zmf K H dd es):Den K H (.ref a) (.exc C es):=by
 rcases x with ⟨rfl,rfl⟩ | ⟨dx,fs,rfl,h2,r⟩
 ·exact .excN h
 ·exact .exc h h2 (zm r) (fun i _ _ h1 h2=>(paired_get i r h1 h2).1) fun i _ _ h1 h2=>(paired_get i r h1 h2).2
def Den.excI {C:Addr} {es:List (Str × D)} (h:Den K H v (.exc C es)):∃ a dd,v=.ref a/\H a=some (.ext (XAt a C dd))/\zmf K H dd es:=by
 cases h with
 | excN h=>exact ⟨_,_,rfl,h,.inl ⟨rfl,rfl⟩⟩
 | exc h h2 l r r2=>exact ⟨_,_,rfl,h,.inr ⟨_,_,rfl,h2,paired_of l fun i p q h1 h2=>⟨r i p q h1 h2,r2 i p q h1 h2⟩⟩⟩
def Den.adrI {b:Addr} (h:Den K H v (.adr b)):v=.ref b:=by cases h; rfl
def Den.mkDK {kvs:List (Key × V)} {es:List (D × D)} (h:Rd H a (.dK kvs)) (r:zpL K H kvs es):Den K H (.ref a) (.dic es):=.dicK h (zm r) (fun i _ _ h1 h2=>(paired_get i r h1 h2).1) fun i _ _ h1 h2=>(paired_get i r h1 h2).2
def Den.mkDT {kvs:List (List Key × V)} {ep:Nat} {es:List (D × D)} (h:H a=some (.dE kvs ep)) (r:znU K H kvs es):Den K H (.ref a) (.dit es):=.dicT h (zm r) (fun i _ _ h1 h2=>(paired_get i r h1 h2).1) fun i _ _ h1 h2=>(paired_get i r h1 h2).2
def Den.ditI {es:List (D × D)} (h:Den K H v (.dit es)):∃ a kvs ep,v=.ref a/\H a=some (.dE kvs ep)/\znU K H kvs es:=by
 cases h with
 | dicT h l r r2=>exact ⟨_,_,_,rfl,h,paired_of l fun i p q h1 h2=>⟨r i p q h1 h2,r2 i p q h1 h2⟩⟩
def Den.mkT (h:H a=some (.tup vs)) (r:zb4 K H vs ds):Den K H (.ref a) (.tup ds):=.tup h (zm r) fun i _ _ h1 h2=>paired_get i r h1 h2
def Den.mkL (h:SqL K H a vs) (r:zb4 K H vs ds):Den K H (.ref a) (.lst ds):=.lst h (zm r) fun i _ _ h1 h2=>paired_get i r h1 h2
def Den.tupJ (h:Den K H v (.tup ds)):∃ a vs,v=.ref a/\H a=some (.tup vs)/\zb4 K H vs ds:=by
 cases h with
 | tup h l r=>exact ⟨_,_,rfl,h,paired_of l r⟩
def Den.tupI (h:Den K H v (.tup ds)):∃ a vs,v=.ref a/\SqT K H a vs/\zb4 K H vs ds:=by
 cases h with
 | tup h l r=>exact ⟨_,_,rfl,SqT.of h,paired_of l r⟩
def Den.lstI (h:Den K H v (.lst ds)):∃ a vs,v=.ref a/\SqL K H a vs/\zb4 K H vs ds:=by
 cases h with
 | lst h l r=>exact ⟨_,_,rfl,h,paired_of l r⟩
def Den.intI {i:Int} (h:Den K H v (.int i)):v=.int i:=by cases h; rfl
def Den.blI {b:Bool} (h:Den K H v (.bl b)):v=.bl b:=by cases h; rfl
def Den.strI {l:List Nat} (h:Den K H v (.str l)):v=.str (st l):=by cases h; rfl
def Den.nonI (h:Den K H v .non):v=.non:=by cases h; rfl
def Den.non_iff {d:D} (h:Den K H v d):v=.non↔d=.non:=by cases h <;> simp
end
inductive Slot where
 | emp | val (d:D) | own (o:OD)
 | bk (d:D->D) (b:Addr) (xs:OD)
abbrev Sts:=List Slot
structure Wd where
 H₀:Hp
 Hi₀:Hp
 F:List Addr
def zbQ (K:W.Frag) (Hi H:Hp) (a:Addr):OD->Prop
 | .lst ds=>∃ vs,H a=some (.lst vs)/\zb4 K Hi vs ds
 | .dic ds=>∃ kvs,H a=some (.dK kvs)/\zpL K Hi kvs ds
 | .dit ds=>∃ kvs ep,H a=some (.dE kvs ep)/\znU K Hi kvs ds
 | .obj C ds=>∃ dx fs,H a=some (.ins C dx fs)/\zim K Hi fs ds
def zmH:Option (Option V)->Option Addr
 | some (some (.ref a))=>some a
 | _=>none
def adr (n:Nat) (W:Wd) (σ:St) (i:Nat):Option Addr:=if i<n then zmH σ[i]? else W.F[i-n]?
structure Free (n:Nat) (W:Wd) (Γ:Sts) (σ:St) (a:Addr):Prop where
 own:∀ (j:Nat) o',Γ[j]?=some (.own o')->adr n W σ j≠some a
 bk:∀ (j:Nat) d xs,Γ[j]?≠some (.bk d a xs)
def Hol (K:W.Frag) (d:D->D):Prop:=∀ (b:Addr) (Hi:Hp) (v:V) (o:OD),Den K Hi (.ref b) o.toD->Den K Hi v (d (.adr b))->Den K Hi v (d o.toD)
structure BkAt (K:W.Frag) (n:Nat) (W:Wd) (Hi:Hp) (Γ:Sts) (σ:St) (H:Hp) (i:Nat) (d:D->D) (b:Addr) (xs:OD):Prop where
 val:∃ v,σ[i]?=some (some v)/\Den K Hi v (d (.adr b))
 hol:Hol K d
 hi:Hi b=none
 h0:b ∉ W.F->W.H₀ b=none
 at_:zbQ K Hi H b xs
 one:∀ (j:Nat) d' xs',Γ[j]?=some (.bk d' b xs')->j=i
 ne:∀ (j:Nat) o',Γ[j]?=some (.own o')->adr n W σ j≠some b
structure Fz (Hi H:Hp):Prop where
 sub:zaR Hi H
 tups:∀ a xs,H a=some (.tup xs)->Hi a=some (.tup xs)
structure Good (K:W.Frag) (n:Nat) (W:Wd) (Hi:Hp) (Γ:Sts) (σ:St) (H:Hp):Prop where
 len:σ.length=n
 fz:Fz Hi H
 keep:∀ a o,W.H₀ a=some o->a ∉ W.F->H a=some o
 there:∀ a o,W.H₀ a=some o->∃ o',H a=some o'
 fro:∀ a o,W.H₀ a=some o->Hi a=W.Hi₀ a
 val:∀ (i:Nat) d,Γ[i]?=some (.val d)->∃ v,σ[i]?=some (some v)/\Den K Hi v d
 own:∀ (i:Nat) o,Γ[i]?=some (.own o)->∃ a,adr n W σ i=some a/\Hi a=none/\(i<n->W.H₀ a=none)/\zbQ K Hi H a o
 apart:∀ (i j:Nat) o o' a,Γ[i]?=some (.own o)->Γ[j]?=some (.own o')->adr n W σ i=some a->adr n W σ j=some a->i=j
 bk:∀ (i:Nat) d b xs,Γ[i]?=some (.bk d b xs)->BkAt K n W Hi Γ σ H i d b xs
def Good.sub {K:W.Frag} {n:Nat} {W:Wd} {Hi:Hp} {Γ:Sts} {σ:St} {H:Hp} (g:Good K n W Hi Γ σ H):zaR Hi H:=g.fz.sub
structure Ext (Hi H Hi' H':Hp):Prop where
 hi:zaR Hi Hi'
 h:zaR H H'
 fz:Fz Hi' H'
 fro:∀ a o,H a=some o->Hi' a=Hi a
def Ext.refl {Hi H:Hp} (s:Fz Hi H):Ext Hi H Hi H:=⟨zaR.refl _,zaR.refl _,s,fun _ _ _=>rfl⟩
def Ext.trans {A B A1 B1 A2 B2:Hp} (x:Ext A B A1 B1) (y:Ext A1 B1 A2 B2):Ext A B A2 B2 :=
 ⟨x.hi.trans y.hi,x.h.trans y.h,y.fz,fun a o e=>(y.fro a o (x.h a o e)).trans (x.fro a o e)⟩
def zY {H:Hp} {p:Addr} (h:H p=none) (o:HO):zaR H (upd H p o):=fun b u q=>by rw [zp (zag q h)]; exact q
def Ext.new {Hi H:Hp} {p:Addr} (s:Fz Hi H) (h:H p=none) (o:HO):Ext Hi H (upd Hi p o) (upd H p o):=by
 have hi:Hi p=none:=s.sub.free h
 refine ⟨zY hi o,zY h o,⟨fun b u q=>?_,fun b xs q=>?_⟩,fun b u q=>?_⟩
 ·by_cases e:b=p
  ·subst e; rw [zo] at q ⊢; exact q
  ·rw [zp e] at q ⊢; exact s.sub b u q
 ·by_cases e:b=p
  ·subst e; rw [zo] at q ⊢; exact q
  ·rw [zp e] at q ⊢; exact s.tups b xs q
 ·exact zp (zag q h)
def Ext.newO {Hi H:Hp} {p:Addr} (s:Fz Hi H) (h:H p=none) (o:HO) (ho:∀ xs,o≠.tup xs):Ext Hi H Hi (upd H p o) :=
 ⟨zaR.refl _,zY h o,⟨s.sub.trans (zY h o),fun b xs q=>by
  by_cases e:b=p
  ·subst e; rw [zo] at q; exact yU (Option.some.inj q) (ho xs)
  ·rw [zp e] at q; exact s.tups b xs q⟩,fun _ _ _=>rfl⟩
section
variable {n:Nat} {W:Wd} {Hi Hi' H':Hp} {Γ:Sts} {a:Addr} {o:OD}
def zbQ.there (h:zbQ K Hi H a o):∃ u,H a=some u:=by
 cases o with
 | lst ds=>obtain ⟨vs,e,_⟩:=h; exact ⟨_,e⟩
 | dic ds=>obtain ⟨kvs,e,_⟩:=h; exact ⟨_,e⟩
 | dit ds=>obtain ⟨kvs,ep,e,_⟩:=h; exact ⟨_,e⟩
 | obj C ds=>obtain ⟨dx,fs,e,_⟩:=h; exact ⟨_,e⟩
def zbQ.mono (h:zbQ K Hi H a o) (hi:zaR Hi Hi') (e:∀ u,H a=some u->H' a=some u):zbQ K Hi' H' a o:=by
 cases o with
 | lst ds=>obtain ⟨vs,q,r⟩:=h; exact ⟨vs,e _ q,r.mono hi⟩
 | dic ds=>obtain ⟨kvs,q,r⟩:=h; exact ⟨kvs,e _ q,r.mono hi⟩
 | dit ds=>obtain ⟨kvs,ep,q,r⟩:=h; exact ⟨kvs,ep,e _ q,r.mono hi⟩
 | obj C ds=>obtain ⟨dx,fs,q,r⟩:=h; exact ⟨dx,fs,e _ q,r.mono hi⟩
def zbQ.notTup (h:zbQ K Hi H a o):∀ xs,H a≠some (.tup xs):=fun xs z=>by
 cases o with
 | lst ds=>obtain ⟨vs,e,_⟩:=h; rw [e] at z; cases z
 | dic ds=>obtain ⟨kvs,e,_⟩:=h; rw [e] at z; cases z
 | dit ds=>obtain ⟨kvs,ep,e,_⟩:=h; rw [e] at z; cases z
 | obj C ds=>obtain ⟨dx,fs,e,_⟩:=h; rw [e] at z; cases z
def Good.ext (g:Good K n W Hi Γ σ H) (e:Ext Hi H Hi' H'):Good K n W Hi' Γ σ H' where
 len:=g.len
 fz:=e.fz
 keep:=fun a o h n=>e.h a o (g.keep a o h n)
 there:=fun a o h=>by
  obtain ⟨o',q⟩:=g.there a o h; exact ⟨o',e.h a o' q⟩
 fro:=fun a o h=>by
  obtain ⟨o',q⟩:=g.there a o h; exact (e.fro a o' q).trans (g.fro a o h)
 val:=fun i d h=>by
  obtain ⟨v,h1,h2⟩:=g.val i d h; exact ⟨v,h1,h2.mono e.hi⟩
 own:=fun i o h=>by
  obtain ⟨a,h1,h2,h3,h4⟩:=g.own i o h; obtain ⟨u,hu⟩:=h4.there
  exact ⟨a,h1,(e.fro a u hu).trans h2,h3,h4.mono e.hi fun u q=>e.h a u q⟩
 apart:=g.apart
 bk:=fun i d b xs h=>by
  obtain ⟨⟨v,h0,h1⟩,h2,h3,h4,h5,h6,h7⟩:=g.bk i d b xs h
  obtain ⟨u,hu⟩:=h5.there
  exact ⟨⟨v,h0,h1.mono e.hi⟩,h2,(e.fro b u hu).trans h3,h4,h5.mono e.hi fun u q=>e.h b u q,h6,h7⟩
def zeQ {o:Option (Option V)} (h:zmH o=some a):o=some (some (.ref a)):=by
 unfold zmH at h; split at h
 ·cases h; rfl
 ·cases h
def Good.set (g:Good K n W Hi Γ σ H) {i:Nat} {v:V} {d:D} (hi:i<n) (r:Den K Hi v d):Good K n W Hi (Γ.set i (.val d)) (σ.set i (some v)) H:=by
 have ad:∀ j,j≠i->adr n W (σ.set i (some v)) j=adr n W σ j:=fun j hj=>by
  unfold adr
  rw [yR (fun z=>hj z.symm)]
 have inv:∀ (j:Nat) (s:Slot),(Γ.set i (.val d))[j]?=some s->(j=i/\s=.val d)\/(j≠i/\Γ[j]?=some s):=fun j s e=>by
  by_cases hj:j=i
  ·subst hj
   refine .inl ⟨rfl,?_⟩; rw [List.getElem?_set] at e; simp only [if_true] at e; split at e
   ·exact (Option.some.inj e).symm
   ·cases e
  ·rw [yR (fun z=>hj z.symm)] at e
   exact .inr ⟨hj,e⟩
 refine ⟨by rw [List.length_set]; exact g.len,g.fz,g.keep,g.there,g.fro,fun j d' e=>?_,fun j o e=>?_,fun j k o o' a e1 e2 h1 h2=>?_,fun j d' b xs e=>?_⟩
 ·rcases inv j _ e with ⟨rfl,z⟩ | ⟨hj,z⟩
  ·cases z
   exact ⟨v,by rw [yz (by rw [g.len]; exact hi)],r⟩
  ·obtain ⟨w,h1,h2⟩:=g.val j d' z
   exact ⟨w,by rw [yR (fun z=>hj z.symm)]; exact h1,h2⟩
 ·rcases inv j _ e with ⟨rfl,z⟩ | ⟨hj,z⟩
  ·cases z
  ·obtain ⟨a,h1,h2⟩:=g.own j o z
   exact ⟨a,by rw [ad j hj]; exact h1,h2⟩
 ·rcases inv j _ e1 with ⟨rfl,z⟩ | ⟨hj,z⟩
  ·cases z
  ·rcases inv k _ e2 with ⟨rfl,y⟩ | ⟨hk,y⟩
   ·cases y
   ·exact g.apart j k o o' a z y (by rw [<- ad j hj]; exact h1) (by rw [<- ad k hk]; exact h2)
 ·rcases inv j _ e with ⟨rfl,z⟩ | ⟨hj,z⟩
  ·cases z
  ·obtain ⟨⟨w,w1,w2⟩,h1,h2,h3,h4,h5,h6⟩:=g.bk j d' b xs z
   refine ⟨⟨w,by rw [yR (fun z=>hj z.symm)]; exact w1,w2⟩,h1,h2,h3,h4,fun k d' xs' q=>?_,fun k o' q=>?_⟩
   ·rcases inv k _ q with ⟨rfl,y⟩ | ⟨hk,y⟩
    ·cases y
    ·exact h5 k _ _ y
   ·rcases inv k _ q with ⟨rfl,y⟩ | ⟨hk,y⟩
    ·cases y
    ·rw [ad k hk]
     exact h6 k o' y
def Good.setO (g:Good K n W Hi Γ σ H) {i:Nat} (hi:i<n) (h0:Hi a=none) (h1:W.H₀ a=none) (fr:Free n W Γ σ a) (h3:zbQ K Hi H a o):Good K n W Hi (Γ.set i (.own o)) (σ.set i (some (.ref a))) H:=by
 have ad:∀ j,j≠i->adr n W (σ.set i (some (.ref a))) j=adr n W σ j:=fun j hj=>by
  unfold adr
  rw [yR (fun z=>hj z.symm)]
 have ai:adr n W (σ.set i (some (.ref a))) i=some a:=by
  unfold adr
  rw [yW hi,yz (by rw [g.len]; exact hi)]
  rfl
 have inv:∀ (j:Nat) (s:Slot),(Γ.set i (.own o))[j]?=some s->(j=i/\s=.own o)\/(j≠i/\Γ[j]?=some s):=fun j s e=>by
  by_cases hj:j=i
  ·subst hj
   refine .inl ⟨rfl,?_⟩; rw [List.getElem?_set] at e; simp only [if_true] at e; split at e
   ·exact (Option.some.inj e).symm
   ·cases e
  ·rw [yR (fun z=>hj z.symm)] at e
   exact .inr ⟨hj,e⟩
 refine ⟨by rw [List.length_set]; exact g.len,g.fz,g.keep,g.there,g.fro,fun j d' e=>?_,fun j o e=>?_,fun j k o o' b e1 e2 q1 q2=>?_,fun j d' b xs e=>?_⟩
 ·rcases inv j _ e with ⟨rfl,z⟩ | ⟨hj,z⟩
  ·cases z
  ·obtain ⟨w,h1,h2⟩:=g.val j d' z
   exact ⟨w,by rw [yR (fun z=>hj z.symm)]; exact h1,h2⟩
 ·rcases inv j _ e with ⟨rfl,z⟩ | ⟨hj,z⟩
  ·cases z
   exact ⟨a,ai,h0,fun _=>h1,h3⟩
  ·obtain ⟨b,q1,q2⟩:=g.own j o z
   exact ⟨b,by rw [ad j hj]; exact q1,q2⟩
 ·rcases inv j _ e1 with ⟨rfl,z⟩ | ⟨hj,z⟩
  ·rcases inv k _ e2 with ⟨rfl,y⟩ | ⟨hk,y⟩
   ·rfl
   ·rw [ai] at q1
    cases q1; rw [ad k hk] at q2; exact yU q2 (fr.own k _ y)
  ·rcases inv k _ e2 with ⟨rfl,y⟩ | ⟨hk,y⟩
   ·rw [ai] at q2
    cases q2; rw [ad j hj] at q1; exact yU q1 (fr.own j _ z)
   ·exact g.apart j k o o' b z y (by rw [<- ad j hj]; exact q1) (by rw [<- ad k hk]; exact q2)
 ·rcases inv j _ e with ⟨rfl,z⟩ | ⟨hj,z⟩
  ·cases z
  ·obtain ⟨⟨w,w1,w2⟩,h1,h2,h3,h4,h5,h6⟩:=g.bk j d' b xs z
   refine ⟨⟨w,by rw [yR (fun z=>hj z.symm)]; exact w1,w2⟩,h1,h2,h3,h4,fun k d' xs' q=>?_,fun k o' q=>?_⟩
   ·rcases inv k _ q with ⟨rfl,y⟩ | ⟨hk,y⟩
    ·cases y
    ·exact h5 k _ _ y
   ·rcases inv k _ q with ⟨rfl,y⟩ | ⟨hk,y⟩
    ·rw [ai]
     intro w; cases w; exact fr.bk j _ _ z
    ·rw [ad k hk]
     exact h6 k o' y
def Good.put (g:Good K n W Hi Γ σ H) {i:Nat} {o0:OD} {u:HO} (e0:Γ[i]?=some (.own o0)) (ha:adr n W σ i=some a) (hn:zbQ K Hi (upd H a u) a o):Good K n W Hi (Γ.set i (.own o)) σ (upd H a u):=by
 obtain ⟨a',h1,h2,h3,h4⟩:=g.own i _ e0; rw [ha] at h1; cases h1
 have hF:i<n\/a ∈ W.F:=by
  by_cases hi:i<n
  ·exact .inl hi
  ·unfold adr at ha
   rw [yS hi] at ha; exact .inr (yZ ha)
 have inv:∀ (j:Nat) (s:Slot),(Γ.set i (.own o))[j]?=some s->(j=i/\s=.own o)\/(j≠i/\Γ[j]?=some s):=fun j s e=>by
  by_cases hj:j=i
  ·subst hj
   refine .inl ⟨rfl,?_⟩; rw [List.getElem?_set] at e; simp only [if_true] at e; split at e
   ·exact (Option.some.inj e).symm
   ·cases e
  ·rw [yR (fun z=>hj z.symm)] at e
   exact .inr ⟨hj,e⟩
 refine ⟨g.len,⟨fun b w q=>?_,fun b xs q=>?_⟩,fun b w q nf=>?_,fun b w q=>?_,g.fro,fun j d' e=>?_,fun j o' e=>?_,fun j k o1 o2 b e1 e2 q1 q2=>?_,fun j d' b xs e=>?_⟩
 ·rw [zp (fun z=>by rw [z,h2] at q; cases q)]
  exact g.sub b w q
 ·by_cases hb:b=a
  ·subst hb
   exact yU q (hn.notTup xs)
  ·rw [zp hb] at q
   exact g.fz.tups b xs q
 ·have hb:b≠a:=fun z=>by
   subst z
   rcases hF with hi | hf
   ·rw [h3 hi] at q; cases q
   ·exact nf hf
  rw [zp hb]; exact g.keep b w q nf
 ·by_cases hb:b=a
  ·exact ⟨u,by rw [hb,zo]⟩
  ·obtain ⟨w',hw⟩:=g.there b w q
   exact ⟨w',by rw [zp hb]; exact hw⟩
 ·rcases inv j _ e with ⟨rfl,z⟩ | ⟨hj,z⟩
  ·cases z
  ·exact g.val j d' z
 ·rcases inv j _ e with ⟨rfl,z⟩ | ⟨hj,z⟩
  ·cases z
   exact ⟨a,ha,h2,h3,hn⟩
  ·obtain ⟨b,q1,q2,q3,q4⟩:=g.own j o' z
   have hb:b≠a:=fun w=>hj (g.apart j i _ _ a z e0 (by rw [<- w]; exact q1) ha)
   exact ⟨b,q1,q2,q3,q4.mono (zaR.refl _) fun w hw=>by rw [zp hb]; exact hw⟩
 ·have e1':∃ oo,Γ[j]?=some (.own oo):=by
   rcases inv j _ e1 with ⟨rfl,z⟩ | ⟨hj,z⟩
   ·exact ⟨_,e0⟩
   ·exact ⟨_,z⟩
  have e2':∃ oo,Γ[k]?=some (.own oo):=by
   rcases inv k _ e2 with ⟨rfl,z⟩ | ⟨hj,z⟩
   ·exact ⟨_,e0⟩
   ·exact ⟨_,z⟩
  obtain ⟨_,z1⟩:=e1'; obtain ⟨_,z2⟩:=e2'; exact g.apart j k _ _ b z1 z2 q1 q2
 ·rcases inv j _ e with ⟨rfl,z⟩ | ⟨hj,z⟩
  ·cases z
  ·obtain ⟨p0,p1,p2,p3,p4,p5,p6⟩:=g.bk j d' b xs z
   have hb:b≠a:=fun w=>p6 i _ e0 (by rw [w]; exact ha)
   refine ⟨p0,p1,p2,p3,p4.mono (zaR.refl _) fun w hw=>by rw [zp hb]; exact hw,fun k d' xs' q=>?_,fun k o' q=>?_⟩
   ·rcases inv k _ q with ⟨rfl,y⟩ | ⟨hk,y⟩
    ·cases y
    ·exact p5 k _ _ y
   ·rcases inv k _ q with ⟨rfl,y⟩ | ⟨hk,y⟩
    ·exact p6 k _ e0
    ·exact p6 k o' y
def Good.freezeA (g:Good K n W Hi Γ σ H) (h0:Hi a=none) (h1:W.H₀ a=none) (fr:Free n W Γ σ a) {u:HO} (hu:H a=some u):Good K n W (upd Hi a u) Γ σ H:=by
 have hs:zaR Hi (upd Hi a u):=zY h0 u
 refine ⟨g.len,⟨fun b w q=>?_,fun b xs q=>?_⟩,g.keep,g.there,fun b w q=>?_,fun j d' e=>?_,fun j o' e=>?_,g.apart,fun j d' b xs e=>?_⟩
 ·by_cases hb:b=a
  ·subst hb; rw [zo] at q; cases q; exact hu
  ·rw [zp hb] at q; exact g.sub b w q
 ·have hb:b≠a:=fun z=>by
   have:=g.fz.tups b xs q
   rw [z,h0] at this; cases this
  rw [zp hb]; exact g.fz.tups b xs q
 ·have hb:b≠a:=fun z=>by subst z; rw [h1] at q; cases q
  rw [zp hb]; exact g.fro b w q
 ·obtain ⟨w,q1,q2⟩:=g.val j d' e
  exact ⟨w,q1,q2.mono hs⟩
 ·obtain ⟨b,q1,q2,q3,q4⟩:=g.own j o' e
  have hb:b≠a:=fun z=>fr.own j o' e (by rw [<- z]; exact q1)
  exact ⟨b,q1,by rw [zp hb]; exact q2,q3,q4.mono hs fun _ z=>z⟩
 ·obtain ⟨⟨w,w1,w2⟩,p1,p2,p3,p4,p5,p6⟩:=g.bk j d' b xs e
  have hb:b≠a:=fun z=>fr.bk j _ _ (by rw [<- z]; exact e)
  exact ⟨⟨w,w1,w2.mono hs⟩,p1,by rw [zp hb]; exact p2,p3,p4.mono hs fun _ z=>z,p5,p6⟩
def zbQ.den (h:zbQ K Hi H a o) (h0:Hi a=none) {u:HO} (hu:H a=some u):Den K (upd Hi a u) (.ref a) o.toD:=by
 cases o with
 | lst ds =>
  obtain ⟨vs,q,r⟩:=h; rw [hu] at q; cases q; exact Den.mkL (SqL.of zo) (r.mono (zY h0 _))
 | dic ds =>
  obtain ⟨kvs,q,r⟩:=h; rw [hu] at q; cases q; exact Den.mkDK (.inl zo) (r.mono (zY h0 _))
 | dit ds =>
  obtain ⟨kvs,ep,q,r⟩:=h; rw [hu] at q; cases q; exact Den.mkDT zo (r.mono (zY h0 _))
 | obj C ds =>
  obtain ⟨dx,fs,q,r⟩:=h; rw [hu] at q; cases q; exact Den.mkO zo (r.mono (zY h0 _))
end
abbrev TE':=Sts->(D->Sts->Prop)->Prop
abbrev TT':=Sts->(Bool->Sts->Prop)->Prop
abbrev TA':=Sts->(List D->Sts->Prop)->Prop
abbrev TO':=Sts->(OD->Sts->Prop)->Prop
abbrev TI':=Sts->(List D->Sts->Prop)->Prop
abbrev TG':=D->Sts->(Sts->Prop)->Prop
inductive Res where
 | val (d:D) | own (o:OD)
 | bk (d:D->D) (o:OD)
def Res.toD:Res->D
 | .val d=>d
 | .own o=>o.toD
 | .bk d o=>d o.toD
structure Ends' where
 nx:Sts->Prop
 rt:Res->Sts->Prop
 bk:Sts->Prop:=fun _=>False
 ct:Sts->Prop:=fun _=>False
abbrev TS':=Ends'->Sts->Prop
def zpH (K:W.Frag) (n:Nat) (W:Wd) (Hi:Hp) (σ:St) (Q:D->Sts->Prop):VK:=fun v H'=>∃ Hi' d Γ',zaR Hi Hi'/\Good K n W Hi' Γ' σ H'/\Den K Hi' v d/\Q d Γ'
def tOf (K:W.Frag) (n:Nat) (t:TE'):TE:=fun σ H Q2=>∃ W Hi Γ Q,Good K n W Hi Γ σ H/\t Γ Q/\∀ v H',zpH K n W Hi σ Q v H'->Q2 v H'
def znV (K:W.Frag) (n:Nat) (t:TT'):TT:=fun σ H Q2=>∃ W Hi Γ Q,Good K n W Hi Γ σ H/\t Γ Q/\∀ b H' Hi' Γ',zaR Hi Hi'->Good K n W Hi' Γ' σ H'->Q b Γ'->Q2 b H'
def zqB (K:W.Frag) (n:Nat) (t:TA'):TA:=fun σ H Q2=>∃ W Hi Γ Q,Good K n W Hi Γ σ H/\t Γ Q/\∀ vs H' Hi' Γ' ds,zaR Hi Hi'->Good K n W Hi' Γ' σ H'->zb4 K Hi' vs ds->Q ds Γ'->Q2 vs H'
structure New (K:W.Frag) (n:Nat) (W:Wd) (Hi:Hp) (Γ:Sts) (σ:St) (H:Hp) (a:Addr) (o:OD):Prop where
 hi:Hi a=none
 h0:W.H₀ a=none
 ne:Free n W Γ σ a
 own:zbQ K Hi H a o
def oOf (K:W.Frag) (n:Nat) (t:TO'):TE:=fun σ H Q2=>∃ W Hi Γ Q,Good K n W Hi Γ σ H/\t Γ Q/\∀ a H' Hi' Γ' o,zaR Hi Hi'->Good K n W Hi' Γ' σ H'->New K n W Hi' Γ' σ H' a o->Q o Γ'->Q2 (.ref a) H'
def gOf (K:W.Frag) (n:Nat) (g:TG'):TG:=fun v σ H Q2=>∃ W Hi Γ d Q,Good K n W Hi Γ σ H/\Den K Hi v d/\g d Γ Q/\∀ σ' H' Hi' Γ',zaR Hi Hi'->Good K n W Hi' Γ' σ' H'->Q Γ'->Q2 σ' H'
def znS (K:W.Frag) (H₀ Hi H:Hp) (v:V):Res->Prop
 | .val d=>Den K Hi v d
 | .own o=>∃ a,v=.ref a/\Hi a=none/\H₀ a=none/\zbQ K Hi H a o
 | .bk d o=>∃ b,Den K Hi v (d (.adr b))/\Hol K d/\Hi b=none/\H₀ b=none/\zbQ K Hi H b o
structure Lifts (K:W.Frag) (n:Nat) (W:Wd) (Hi:Hp) (N:Ends') (N2:Ends):Prop where
 nx:∀ σ' H' Hi' Γ',zaR Hi Hi'->Good K n W Hi' Γ' σ' H'->N.nx Γ'->N2.nx σ' H'
 bk:∀ σ' H' Hi' Γ',zaR Hi Hi'->Good K n W Hi' Γ' σ' H'->N.bk Γ'->N2.bk σ' H'
 ct:∀ σ' H' Hi' Γ',zaR Hi Hi'->Good K n W Hi' Γ' σ' H'->N.ct Γ'->N2.ct σ' H'
 rt:∀ v σ' H' Hi' Γ' r,zaR Hi Hi'->Good K n W Hi' Γ' σ' H'->znS K W.H₀ Hi' H' v r->N.rt r Γ'->N2.rt v H'
def Lifts.mono {K:W.Frag} {n:Nat} {W:Wd} {Hi Hi':Hp} {N:Ends'} {N2:Ends} (l:Lifts K n W Hi N N2) (s:zaR Hi Hi'):Lifts K n W Hi' N N2 :=
 ⟨fun σ' H' Hi2 Γ' e=>l.nx σ' H' Hi2 Γ' (s.trans e),fun σ' H' Hi2 Γ' e=>l.bk σ' H' Hi2 Γ' (s.trans e),fun σ' H' Hi2 Γ' e=>l.ct σ' H' Hi2 Γ' (s.trans e),fun v σ' H' Hi2 Γ' r e=>l.rt v σ' H' Hi2 Γ' r (s.trans e)⟩
def sOf (K:W.Frag) (n:Nat) (t:TS'):TS:=fun N2 σ H=>∃ W Hi Γ N,Good K n W Hi Γ σ H/\t N Γ/\Lifts K n W Hi N N2
def ItD (K:W.Frag) (Hi:Hp) (J:It) (ds:List D):Prop:=∀ Hi' H',zaR Hi Hi'->Fz Hi' H' ->
 (∀ (i:Nat) d,ds[i]?=some d->J.go i H'/\∀ x H'',J.yld i H' x H''->∃ Hi'',Ext Hi' H' Hi'' H''/\Den K Hi'' x d)/\J.stop ds.length H'
def iOf (K:W.Frag) (n:Nat) (t:TI'):TI:=fun σ H R=>∃ W Hi Γ Q,Good K n W Hi Γ σ H/\t Γ Q/\∀ J H' Hi' Γ' ds,zaR Hi Hi'->Good K n W Hi' Γ' σ H'->ItD K Hi' J ds->Q ds Γ'->R J H'
structure PE' (X:Cx) (e:Expr) (t:TE'):Prop where
 h:PE X e (tOf X.K X.N.length t)
structure PO' (X:Cx) (e:Expr) (t:TO'):Prop where
 h:PE X e (oOf X.K X.N.length t)
structure PT' (X:Cx) (e:Expr) (t:TT'):Prop where
 h:PT X e (znV X.K X.N.length t)
structure PW' (X:Cx) (e:Expr) (t:TT'):Prop where
 h:PW X e (znV X.K X.N.length t)
def zc4:Expr->Bool
 | .Starred _ _=>true
 | _=>false
def zbN:List Expr->Bool
 | []=>true
 | e :: es=>!zc4 e && zbN es
def zah {e:Expr} {es:List Expr} {env:Env} (h:zc4 e=false):starEach (e :: es) env=(false,eval e env) :: starEach es env:=by
 cases e <;> first | rfl | (exact yU (show true=false from h) Bool.noConfusion)
theorem zaS {pos:Pos} {env:Env}:∀ {es:List Expr},zbN es=true->(backTo pos (starEach es env)).any (·.1)=false
 | [],_=>rfl
 | e :: es,h=>by
  have h1:zc4 e=false/\zbN es=true:=by
   unfold zbN at h
   simpa using h
  rw [zah h1.1]
  show (false || (backTo pos (starEach es env)).any (·.1))=false
  rw [zaS h1.2]; rfl
def zC {e:Expr} {es:List Expr} (h:zbN (e :: es)=true):zc4 e=false/\zbN es=true:=by
 unfold zbN at h
 simpa using h
structure PA' (X:Cx) (es:List Expr) (t:TA'):Prop where
 pa:PA X es (zqB X.K X.N.length t)
 pl:zbN es=true
structure PS' (X:Cx) (s:Stmt) (t:TS'):Prop where
 h:PS X s (sOf X.K X.N.length t)
structure PSs' (X:Cx) (s:List Stmt) (t:TS'):Prop where
 h:PSs X s (sOf X.K X.N.length t)
structure PG' (X:Cx) (tg:Expr) (g:TG'):Prop where
 h:PG X tg (gOf X.K X.N.length g)
structure PI' (X:Cx) (tg iter:Expr) (t:TI'):Prop where
 h:PI X tg iter (iOf X.K X.N.length t)
section
def PE.weak {e:Expr} {t t2:TE} (h:PE X e t) (w:∀ σ H Q,t2 σ H Q->t σ H Q):PE X e t2:=fun pins s σ H Q I q=>h pins s σ H Q I (w _ _ _ q)
def PT.weak {e:Expr} {t t2:TT} (h:PT X e t) (w:∀ σ H Q,t2 σ H Q->t σ H Q):PT X e t2:=fun pins s σ H Q I q=>h pins s σ H Q I (w _ _ _ q)
def PW.weak {e:Expr} {t t2:TT} (h:PW X e t) (w:∀ σ H Q,t2 σ H Q->t σ H Q):PW X e t2:=fun wh pins s σ H Q I q=>h wh pins s σ H Q I (w _ _ _ q)
def PA.weak {es:List Expr} {t t2:TA} (h:PA X es t) (w:∀ σ H Q,t2 σ H Q->t σ H Q):PA X es t2:=fun pos pins s σ H Q I q=>h pos pins s σ H Q I (w _ _ _ q)
def PS.weak {st:Stmt} {t t2:TS} (h:PS X st t) (w:∀ N σ H,t2 N σ H->t N σ H):PS X st t2:=fun pins s σ H N I q=>h pins s σ H N I (w _ _ _ q)
def PSs.weak {st:List Stmt} {t t2:TS} (h:PSs X st t) (w:∀ N σ H,t2 N σ H->t N σ H):PSs X st t2:=fun pins s σ H N I q=>h pins s σ H N I (w _ _ _ q)
def PG.weak {tg:Expr} {t t2:TG} (h:PG X tg t) (w:∀ v σ H Q,t2 v σ H Q->t v σ H Q):PG X tg t2:=fun pins s σ H v u Q I r q=>h pins s σ H v u Q I r (w _ _ _ _ q)
def PI.weak {tg iter:Expr} {t t2:TI} (h:PI X tg iter t) (w:∀ σ H Q,t2 σ H Q->t σ H Q):PI X tg iter t2:=fun pins s σ H Q I q=>h pins s σ H Q I (w _ _ _ q)
def slotAt:Sts->Nat->Slot
 | [],_=>.emp
 | s :: _,0=>s
 | _ :: r,n+1=>slotAt r n
def zhY:Slot->(D->Prop)->Prop
 | .val d,f=>f d
 | _,_=>False
@[simp] theorem zpO (s:Slot) (r:Sts):slotAt (s :: r) 0=s:=rfl
@[simp] theorem zpP (s:Slot) (r:Sts) (n:Nat):slotAt (s :: r) (n+1)=slotAt r n:=rfl
@[simp] theorem zq9 (d:D) (f:D->Prop):zhY (.val d) f=f d:=rfl
theorem zfG:∀ {Γ:Sts} {i:Nat} {d:D},slotAt Γ i=.val d->Γ[i]?=some (.val d)
 | _ :: _,0,_,h=>yg some h
 | _ :: r,n+1,_,h=>zfG (Γ:=r) h
theorem zfH:∀ {Γ:Sts} {i:Nat} {s:Slot},Γ[i]?=some s->slotAt Γ i=s
 | _ :: _,0,_,h=>Option.some.inj h
 | _ :: r,n+1,_,h=>zfH (Γ:=r) h
def zfT {s:Slot} {f:D->Prop}:zhY s f↔∃ d,s=.val d/\f d:=by
 constructor
 ·intro h
  cases s with
  | val d=>exact ⟨d,rfl,h⟩
  | _=>exact h.elim
 ·rintro ⟨d,rfl,h⟩
  exact h
def zad (i:Nat):TE':=fun Γ Q=>zhY (slotAt Γ i) fun d=>Q d Γ
def zix {i:Nat} {Γ:Sts} {Q:D->Sts->Prop} (h:zad i Γ Q):∃ d,Γ[i]?=some (.val d)/\Q d Γ:=by
 obtain ⟨d,e,q⟩:=zfT.mp h; exact ⟨d,zfG e,q⟩
def zms {i:Nat} {Γ:Sts} {Q:D->Sts->Prop} {d:D} (e:Γ[i]?=some (.val d)) (q:Q d Γ):zad i Γ Q:=zfT.mpr ⟨d,zfH e,q⟩
def tC' (d:D):TE':=fun Γ Q=>Q d Γ
def pv' (i:Nat) {x:Str} {pos:Pos} (hN:X.N[i]?=some x:=by rfl) (hv:Vis X.env.scope x:=by first | exact YA rfl | exact yr (YA rfl) | exact yr (yr rfl)) (hd:yyD x:=by decide)
  (hcd:(x == ("__classdict__":Str))=false:=by decide):PE' X (.Name x pos) (zad i):=by
 refine ⟨PE.weak (zcP (i:=i) hN hv hd hcd) ?_⟩
 rintro σ H Q ⟨W,Hi,Γ,Q',g,h,fin⟩
 obtain ⟨d,e,q⟩:=zix h; obtain ⟨v,h1,h2⟩:=g.val i d e; exact ⟨v,h1,fin v H ⟨Hi,d,Γ,zaR.refl _,g,h2,q⟩⟩
def zgD {e:Expr} {v:V} {d:D} (h:PE X e (tC v)) (r:∀ Hi,Den X.K Hi v d):PE' X e (tC' d):=by
 refine ⟨PE.weak h ?_⟩
 rintro σ H Q ⟨W,Hi,Γ,Q',g,q,fin⟩
 exact fin v H ⟨Hi,d,Γ,zaR.refl _,g,r Hi,q⟩
def zi {i j pos}:PE' X (.Constant (.int i) j pos) (tC' (.int i)):=zgD zhe fun _=>.int i
def zbq {b j pos}:PE' X (.Constant (.bool b) j pos) (tC' (.bl b)):=zgD zq1 fun _=>.bl b
def za7 {j pos}:PE' X (.Constant .none j pos) (tC' .non):=zgD zoO fun _=>.non
def zA (l:List Nat) {x j pos} (h:x=st l:=by decide +kernel):PE' X (.Constant (.str x) j pos) (tC' (.str l)):=by
 subst h
 exact zgD zoL fun _=>.str l
def zm0 {x:Str} {v:V} {u:Value} {d:D} {pos:Pos} (hm:X.mg x=some u) (r:zbI v u) (rd:∀ Hi,Den X.K Hi v d) (hg:Gl X x:=by rfl) (hd:yyD x:=by decide):PE' X (.Name x pos) (tC' d):=zgD (zmZ hg hm r hd) rd
def zoP {x:Str} {l:List Nat} {t:Tok} {pos:Pos} (hm:X.mg x=some (.str (st l) t)) (hg:Gl X x:=by rfl) (hd:yyD x:=by decide):PE' X (.Name x pos) (tC' (.str l)):=zm0 (v:=.str (st l)) hm ⟨_,rfl⟩ (fun _=>.str l) hg hd
def zoQ {x:Str} {i:Int} {t:Tok} {pos:Pos} (hm:X.mg x=some (.int i t)) (hg:Gl X x:=by rfl) (hd:yyD x:=by decide):PE' X (.Name x pos) (tC' (.int i)):=zm0 (v:=.int i) hm ⟨_,rfl⟩ (fun _=>.int i) hg hd
def zeR {x:Str} {c:String} {pos:Pos} (hm:X.mg x=none) (hv:bootBuiltins x=some (.type c)) (hg:Gl X x:=by rfl) (hn:x≠"__name__":=by decide) (hd:yyD x:=by decide):PE' X (.Name x pos) (tC' (.ty c)) :=
 zgD (zm5 (v:=.ty c) hg hm hv rfl hn hd) fun _=>.ty c
def zaM (t:TO'):TE':=fun Γ Q=>t Γ fun o Γ1=>Q o.toD Γ1
def za0 {e:Expr} {t:TO'} (h:PO' X e t):PE' X e (zaM t):=by
 refine ⟨PE.weak h.h ?_⟩
 rintro σ H Q ⟨W,Hi,Γ,Q',g,q,fin⟩
 refine ⟨W,Hi,Γ,_,g,q,?_⟩; intro a H' Hi' Γ' o s1 g1 nw q1; obtain ⟨u,hu⟩:=nw.own.there; exact fin _ _ ⟨upd Hi' a u,_,Γ',s1.trans (zY nw.hi u),g1.freezeA nw.hi nw.h0 nw.ne hu,nw.own.den nw.hi hu,q1⟩
abbrev R2':=D->D->(D->Prop)->Prop
def zgn (K:W.Frag) (r:R2) (r':R2'):Prop:=∀ (Hi H:Hp) (x y:V) (dx dy:D) (Q:D->Prop) (Q2:VK),Fz Hi H->Den K Hi x dx->Den K Hi y dy->r' dx dy Q->(∀ Hi' H' v d,Ext Hi H Hi' H'->Den K Hi' v d->Q d->Q2 v H')->r x y H Q2
def zbf (r:R2') (ta tb:TE'):TE':=fun Γ Q=>ta Γ fun x Γ1=>tb Γ1 fun y Γ2=>r x y fun d=>Q d Γ2
def zg4 {K:W.Frag} {n:Nat} {r:R2} {r':R2'} {ta tb:TE'} {σ:St} {H:Hp} {Q:VK} (l:zgn K r r') (h:tOf K n (zbf r' ta tb) σ H Q):tOp r (tOf K n ta) (tOf K n tb) σ H Q:=by
 obtain ⟨W,Hi,Γ,Q',g,h,fin⟩:=h; refine ⟨W,Hi,Γ,_,g,h,?_⟩
 rintro x H1 ⟨Hi1,dx,Γ1,s1,g1,den1,h1⟩
 refine ⟨W,Hi1,Γ1,_,g1,h1,?_⟩
 rintro y H2 ⟨Hi2,dy,Γ2,s2,g2,den2,h2⟩
 refine l Hi2 H2 x y dx dy _ _ g2.fz (den1.mono s2) den2 h2 ?_
 rintro Hi3 H3 v d e den q
 exact fin v H3 ⟨Hi3,d,Γ2,s1.trans (s2.trans e.hi),g2.ext e,den,q⟩
structure Op2 (X:Cx) (f:Value->Value->Sem Value) (r':R2'):Prop where
 ex:∃ r,OpR X f r/\zgn X.K r r'
def Op2.or {f:Value->Value->Sem Value} {r r':R2'} (h:Op2 X f r) (h':Op2 X f r'):Op2 X f (fun x y Q=>r x y Q\/r' x y Q):=by
 obtain ⟨a,ha,la⟩:=h.ex; obtain ⟨b,hb,lb⟩:=h'.ex
 refine ⟨_,ha.or hb,fun Hi H x y dx dy Q Q2 s d1 d2 q fin=>?_⟩
 rcases q with q | q
 ·exact .inl (la Hi H x y dx dy Q Q2 s d1 d2 q fin)
 ·exact .inr (lb Hi H x y dx dy Q Q2 s d1 d2 q fin)
def zx {a b:Expr} {op:Operator} {r':R2'} {ta tb:TE'} {pos:Pos} (h:Op2 X (binaryOp op) r') (ha:PE' X a ta) (hb:PE' X b tb):PE' X (.BinOp a op b pos) (zbf r' ta tb):=by
 obtain ⟨r,ho,l⟩:=h.ex
 exact ⟨PE.weak (zoM ho ha.h hb.h) fun σ H Q q=>zg4 l q⟩
def zbv {a b:Expr} {op:CmpOp} {r':R2'} {ta tb:TE'} {pos:Pos} (h:Op2 X (compareOp op) r') (ha:PE' X a ta) (hb:PE' X b tb) (hm:behindInMarks op b=false:=by first | exact zlR _ | rfl):PE' X (.Compare a [op] [b] pos) (zbf r' ta tb):=by
 obtain ⟨r,ho,l⟩:=h.ex
 exact ⟨PE.weak (zm3 ho ha.h hb.h hm) fun σ H Q q=>zg4 l q⟩
def tB' (t:TE'):TT':=fun Γ Q=>t Γ fun d Γ1=>∃ b,d=.bl b/\Q b Γ1
def zob {K:W.Frag} {n:Nat} {t:TE'} {σ:St} {H:Hp} {Q:Bool->Hp->Prop} (h:znV K n (tB' t) σ H Q):tOf K n t σ H fun x H1=>∃ c,x=.bl c/\Q c H1:=by
 obtain ⟨W,Hi,Γ,Q',g,h,fin⟩:=h; refine ⟨W,Hi,Γ,_,g,h,?_⟩
 rintro x H1 ⟨Hi1,dx,Γ1,s1,g1,den1,b,rfl,h1⟩
 exact ⟨b,den1.blI,fin b H1 Hi1 Γ1 s1 g1 h1⟩
def za5 {e:Expr} {t:TE'} (h:PE' X e t) (he:∀ whole,isTrue e X.env whole=(do let v <- whole; standAt e.pos; holding [v] (truthy v)):=by intro _; rfl):PT' X e (tB' t) :=
 ⟨PT.weak (zoD h.h he) fun σ H Q q=>zob q⟩
def zZ {a b:Expr} {op:CmpOp} {r':R2'} {ta tb:TE'} {pos:Pos} (h:Op2 X (compareOp op) r') (ha:PE' X a ta) (hb:PE' X b tb) (hm:behindInMarks op b=false:=by first | exact zlR _ | rfl):PT' X (.Compare a [op] [b] pos) (tB' (zbf r' ta tb)):=by
 obtain ⟨r,ho,l⟩:=h.ex
 exact ⟨PT.weak (zmQ ho ha.h hb.h hm) fun σ H Q q=>zg4 l (zob q)⟩
def zaz (t u:TT'):TT':=fun Γ Q=>t Γ fun c Γ1=>if c=true then u Γ1 Q else Q false Γ1
def zby (t u:TT'):TT':=fun Γ Q=>t Γ fun c Γ1=>if c=true then Q true Γ1 else u Γ1 Q
def zar (t:TT'):TT':=fun Γ Q=>t Γ fun c Γ1=>Q (!c) Γ1
variable {a b c:Expr} {tA tB2:TT'} {zbF:List Expr} {pos:Pos} {ta tb:TE'}
def zfb (ha:PT' X a tA):PW' X (.BoolOp .And [a] pos) tA:=⟨zmN ha.h⟩
def zda (ha:PT' X a tA):PW' X (.BoolOp .Or [a] pos) tA:=⟨zoB ha.h⟩
def zgz (ha:PT' X a tA) (hb:PW' X (.BoolOp .And (b :: zbF) pos) tB2):PW' X (.BoolOp .And (a :: b :: zbF) pos) (zaz tA tB2):=by
 refine ⟨PW.weak (zoC ha.h hb.h) ?_⟩
 rintro σ H Q ⟨W,Hi,Γ,Q',g,h,fin⟩
 refine ⟨W,Hi,Γ,_,g,h,?_⟩; intro k H1 Hi1 Γ1 s1 g1 h1
 cases k with
 | true=>exact ⟨W,Hi1,Γ1,_,g1,h1,fun b H2 Hi2 Γ2 s2 g2 q=>fin b H2 Hi2 Γ2 (s1.trans s2) g2 q⟩
 | false=>exact fin false H1 Hi1 Γ1 s1 g1 h1
def zdo (ha:PT' X a tA) (hb:PW' X (.BoolOp .Or (b :: zbF) pos) tB2):PW' X (.BoolOp .Or (a :: b :: zbF) pos) (zby tA tB2):=by
 refine ⟨PW.weak (zq0 ha.h hb.h) ?_⟩
 rintro σ H Q ⟨W,Hi,Γ,Q',g,h,fin⟩
 refine ⟨W,Hi,Γ,_,g,h,?_⟩; intro k H1 Hi1 Γ1 s1 g1 h1
 cases k with
 | false=>exact ⟨W,Hi1,Γ1,_,g1,h1,fun b H2 Hi2 Γ2 s2 g2 q=>fin b H2 Hi2 Γ2 (s1.trans s2) g2 q⟩
 | true=>exact fin true H1 Hi1 Γ1 s1 g1 h1
def PW'.pt {e:Expr} {t:TT'} (h:PW' X e t):PT' X e t:=⟨h.h _⟩
def za6 (ha:PT' X a tA):PT' X (.UnaryOp .Not a pos) (zar tA):=by
 refine ⟨PT.weak (zoE ha.h) ?_⟩
 rintro σ H Q ⟨W,Hi,Γ,Q',g,h,fin⟩
 exact ⟨W,Hi,Γ,_,g,h,fun k H1 Hi1 Γ1 s1 g1 h1=>fin _ H1 Hi1 Γ1 s1 g1 h1⟩
def zW (ta tb:TE'):TE':=fun Γ Q=>ta Γ fun x Γ1=>∃ c,x=.bl c/\if c=true then tb Γ1 Q else Q (.bl false) Γ1
def zdd {op} (h:PE' X a ta):PE' X (.BoolOp op [a] pos) ta:=⟨zoN h.h⟩
def zcA (ha:PE' X a ta) (hb:PE' X (.BoolOp .And (b :: zbF) pos) tb):PE' X (.BoolOp .And (a :: b :: zbF) pos) (zW ta tb):=by
 refine ⟨PE.weak (zoT ha.h hb.h) ?_⟩
 rintro σ H Q ⟨W,Hi,Γ,Q',g,h,fin⟩
 refine ⟨W,Hi,Γ,_,g,h,?_⟩
 rintro x H1 ⟨Hi1,dx,Γ1,s1,g1,den1,k,rfl,h1⟩
 refine ⟨k,den1.blI,?_⟩
 cases k with
 | true=>exact ⟨W,Hi1,Γ1,_,g1,h1,fun v H2 ⟨Hi2,d,Γ2,s2,g2,d2,q⟩=>fin v H2 ⟨Hi2,d,Γ2,s1.trans s2,g2,d2,q⟩⟩
 | false=>exact fin _ H1 ⟨Hi1,_,Γ1,s1,g1,.bl false,h1⟩
def zal:TA':=fun Γ Q=>Q [] Γ
def zO (ta:TE') (tr:TA'):TA':=fun Γ Q=>ta Γ fun x Γ1=>tr Γ1 fun xs Γ2=>Q (x :: xs) Γ2
def zj:PA' X [] zal:=by
 refine ⟨PA.weak zds ?_,rfl⟩
 rintro σ H Q ⟨W,Hi,Γ,Q',g,h,fin⟩
 exact fin [] H Hi Γ [] (zaR.refl _) g .nil h
def zc {e:Expr} {es:List Expr} {te:TE'} {t:TA'} (ha:PE' X e te) (hr:PA' X es t) (hs:zc4 e=false:=by rfl):PA' X (e :: es) (zO te t):=by
 refine ⟨PA.weak (zbO ha.h hr.pa (zah hs)) ?_,by unfold zbN; rw [hs,hr.pl]; rfl⟩
 rintro σ H Q ⟨W,Hi,Γ,Q',g,h,fin⟩
 refine ⟨W,Hi,Γ,_,g,h,?_⟩
 rintro x H1 ⟨Hi1,dx,Γ1,s1,g1,den1,h1⟩
 refine ⟨W,Hi1,Γ1,_,g1,h1,?_⟩; intro vs H2 Hi2 Γ2 ds s2 g2 dl q; exact fin (x :: vs) H2 Hi2 Γ2 (dx :: ds) (s1.trans s2) g2 (.cons (den1.mono s2) dl) q
def zap (t:TA'):TE':=fun Γ Q=>t Γ fun ds Γ1=>ds.length<=sizeLine/\Q (.tup ds) Γ1
def zt {es:List Expr} {t:TA'} {x1} (h:PA' X es t):PE' X (.Tuple es x1 pos) (zap t):=by
 refine ⟨PE.weak (zlN h.pa) ?_⟩
 rintro σ H Q ⟨W,Hi,Γ,Q',g,h,fin⟩
 refine ⟨W,Hi,Γ,_,g,h,?_⟩
 rintro vs H1 Hi1 Γ1 ds s1 g1 dl ⟨hl,q⟩
 refine ⟨by rw [zm dl]; exact hl,fun p hp=>?_⟩
 have e:=Ext.new g1.fz hp (.tup vs); exact fin _ _ ⟨_,_,Γ1,s1.trans e.hi,g1.ext e,Den.mkT zo (dl.mono e.hi),q⟩
def New.mk' {K:W.Frag} {n:Nat} {W:Wd} {Hi H:Hp} {Γ:Sts} {σ:St} {p:Addr} {u:HO} {o:OD} (g:Good K n W Hi Γ σ H) (hp:H p=none) (own:zbQ K Hi (upd H p u) p o):New K n W Hi Γ σ (upd H p u) p o:=by
 refine ⟨g.sub.free hp,?_,⟨fun j o' e z=>?_,fun j d xs e=>?_⟩,own⟩
 ·cases q:W.H₀ p with
  | none=>rfl
  | some w =>
   obtain ⟨w',hw⟩:=g.there p w q
   rw [hp] at hw; cases hw
 ·obtain ⟨a,h1,_,_,h4⟩:=g.own j o' e
  rw [z] at h1; cases h1; obtain ⟨w,hw⟩:=h4.there
  rw [hp] at hw; cases hw
 ·obtain ⟨w,hw⟩:=(g.bk j d p xs e).at_.there
  rw [hp] at hw; cases hw
def zav (t:TA'):TO':=fun Γ Q=>t Γ fun ds Γ1=>ds.length<=sizeLine/\Q (.lst ds) Γ1
def zbp {es:List Expr} {t:TA'} (h:PA' X es t):PO' X (.List es pos) (zav t):=by
 refine ⟨PE.weak (zlO h.pa) ?_⟩
 rintro σ H Q ⟨W,Hi,Γ,Q',g,h,fin⟩
 refine ⟨W,Hi,Γ,_,g,h,?_⟩
 rintro vs H1 Hi1 Γ1 ds s1 g1 dl ⟨hl,q⟩
 refine ⟨by rw [zm dl]; exact hl,fun p hp=>?_⟩
 exact fin p _ Hi1 Γ1 (.lst ds) s1 (g1.ext (Ext.newO g1.fz hp _ (fun _ z=>by cases z))) (New.mk' g1 hp ⟨vs,zo,dl⟩) q
abbrev RC':=List D->(D->Prop)->Prop
def zpI (K:W.Frag) (r:List V->Hp->VK->Prop) (r':RC'):Prop:=∀ (Hi H:Hp) (vs:List V) (ds:List D) (Q:D->Prop) (Q2:VK),Fz Hi H->zb4 K Hi vs ds->r' ds Q->(∀ Hi' H' v d,Ext Hi H Hi' H'->Den K Hi' v d->Q d->Q2 v H')->r vs H Q2
structure Cal (X:Cx) (f:Value) (r':RC'):Prop where
 ex:∃ r,zcp X f r/\zpI X.K r r'
def Cal.or {f:Value} {r r':RC'} (h:Cal X f r) (h':Cal X f r'):Cal X f (fun x Q=>r x Q\/r' x Q):=by
 obtain ⟨a,ha,la⟩:=h.ex; obtain ⟨b,hb,lb⟩:=h'.ex
 refine ⟨_,ha.or hb,fun Hi H vs ds Q Q2 s d q fin=>?_⟩
 rcases q with q | q
 ·exact .inl (la Hi H vs ds Q Q2 s d q fin)
 ·exact .inr (lb Hi H vs ds Q Q2 s d q fin)
def zbs (r:RC') (t:TA'):TE':=fun Γ Q=>t Γ fun ds Γ1=>r ds fun d=>Q d Γ1
def zlC {K:W.Frag} {n:Nat} {r:List V->Hp->VK->Prop} {r':RC'} {t:TA'} {σ:St} {H:Hp} {Q:VK} (l:zpI K r r') (h:tOf K n (zbs r' t) σ H Q):tCB r (zqB K n t) σ H Q:=by
 obtain ⟨W,Hi,Γ,Q',g,h,fin⟩:=h; refine ⟨W,Hi,Γ,_,g,h,?_⟩; intro vs H1 Hi1 Γ1 ds s1 g1 dl h1; refine l Hi1 H1 vs ds _ _ g1.fz dl h1 ?_; intro Hi2 H2 v d e den q; exact fin v H2 ⟨Hi2,d,Γ1,s1.trans e.hi,g1.ext e,den,q⟩
variable {x:Str} {p:Pos} {e:Expr} {es:List Expr} {t:TA'} {id T:String}
def zG {r':RC'} (hc:Cal X (.builtin id) r') (hm:X.mg x=none) (hv:bootBuiltins x=some (.builtin id)) (ha:PA' X (e :: es) t) (hg:Gl X x:=by rfl) (hn:x≠"__name__":=by decide) (hdb:yyD x:=by decide):PE' X (.Call (.Name x p) (e :: es) [] pos) (zbs r' t):=by
 obtain ⟨r,ho,l⟩:=hc.ex; obtain ⟨p1,p2⟩:=zC ha.pl
 exact ⟨PE.weak (zkI ho hg hm hv ha.pa hn hdb (zah p1) (zaS p2)) fun σ H Q q=>zlC l q⟩
def zdN {r':RC'} (hc:Cal X (.type T) r') (hm:X.mg x=none) (hv:bootBuiltins x=some (.type T)) (ha:PA' X (e :: es) t) (hg:Gl X x:=by rfl) (hn:x≠"__name__":=by decide) (hdb:yyD x:=by decide):PE' X (.Call (.Name x p) (e :: es) [] pos) (zbs r' t):=by
 obtain ⟨r,ho,l⟩:=hc.ex; obtain ⟨p1,p2⟩:=zC ha.pl
 exact ⟨PE.weak (zei ho hg hm hv ha.pa hn hdb (zah p1) (zaS p2)) fun σ H Q q=>zlC l q⟩
end
section
variable {a b c:Expr} {pos:Pos} {ta tb:TE'}
structure Ixs (X:Cx) (r':R2'):Prop where
 ex:∃ r,IxR X r/\zgn X.K r r'
def Ixs.or {r r':R2'} (h:Ixs X r) (h':Ixs X r'):Ixs X (fun x y Q=>r x y Q\/r' x y Q):=by
 obtain ⟨a,ha,la⟩:=h.ex; obtain ⟨b,hb,lb⟩:=h'.ex
 refine ⟨_,ha.or hb,fun Hi H x y dx dy Q Q2 s d1 d2 q fin=>?_⟩
 rcases q with q | q
 ·exact .inl (la Hi H x y dx dy Q Q2 s d1 d2 q fin)
 ·exact .inr (lb Hi H x y dx dy Q Q2 s d1 d2 q fin)
def zr {r':R2'} (h:Ixs X r') (ha:PE' X a ta) (hb:PE' X b tb) (hs:zjV b:=by intro _ _; rfl):PE' X (.Subscript a b pos) (zbf r' ta tb):=by
 obtain ⟨r,ho,l⟩:=h.ex
 exact ⟨PE.weak (zmY ho ha.h hb.h hs) fun σ H Q q=>zg4 l q⟩
abbrev TP':=Sts->(Option Int->Sts->Prop)->Prop
def zsa (K:W.Frag) (n:Nat) (t:TP'):TO:=fun σ H Q2=>∃ W Hi Γ Q,Good K n W Hi Γ σ H/\t Γ Q/\∀ i H' Hi' Γ',zaR Hi Hi'->Good K n W Hi' Γ' σ H'->Q i Γ'->Q2 i H'
structure PB' (X:Cx) (e:Option Expr) (t:TP'):Prop where
 h:PO X e (zsa X.K X.N.length t)
def zas:TP':=fun Γ Q=>Q none Γ
def zbA (t:TE'):TP':=fun Γ Q=>t Γ fun d Γ1=>∃ i,d=.int i/\Q (some i) Γ1
def PO.weak {e:Option Expr} {t t2:TO} (h:PO X e t) (w:∀ σ H Q,t2 σ H Q->t σ H Q):PO X e t2:=fun pins s σ H Q I q=>h pins s σ H Q I (w _ _ _ q)
def zeE:PB' X none zas:=by
 refine ⟨PO.weak zmU ?_⟩
 rintro σ H Q ⟨W,Hi,Γ,Q',g,h,fin⟩
 exact fin none H Hi Γ (zaR.refl _) g h
def zdY {e:Expr} {te:TE'} (h:PE' X e te):PB' X (some e) (zbA te):=by
 refine ⟨PO.weak (zmT h.h) ?_⟩
 rintro σ H Q ⟨W,Hi,Γ,Q',g,h,fin⟩
 refine ⟨W,Hi,Γ,_,g,h,?_⟩
 rintro v H1 ⟨Hi1,d,Γ1,s1,g1,den,i,rfl,q⟩
 exact ⟨i,den.intI,fin _ H1 Hi1 Γ1 s1 g1 q⟩
abbrev RS':=D->Option Int->Option Int->(D->Prop)->Prop
def zrE (K:W.Frag) (r:V->Option Int->Option Int->Hp->VK->Prop) (r':RS'):Prop:=∀ (Hi H:Hp) (x:V) (dx:D) (lo hi:Option Int) (Q:D->Prop) (Q2:VK),Fz Hi H->Den K Hi x dx->r' dx lo hi Q->(∀ Hi' H' v d,Ext Hi H Hi' H'->Den K Hi' v d->Q d->Q2 v H')->r x lo hi H Q2
structure Sli (X:Cx) (r':RS'):Prop where
 ex:∃ r,SlR X r/\zrE X.K r r'
def Sli.or {r r':RS'} (h:Sli X r) (h':Sli X r'):Sli X (fun x lo hi Q=>r x lo hi Q\/r' x lo hi Q):=by
 obtain ⟨a,ha,la⟩:=h.ex; obtain ⟨b,hb,lb⟩:=h'.ex
 refine ⟨_,ha.or hb,fun Hi H x dx lo hi Q Q2 s d1 q fin=>?_⟩
 rcases q with q | q
 ·exact .inl (la Hi H x dx lo hi Q Q2 s d1 q fin)
 ·exact .inr (lb Hi H x dx lo hi Q Q2 s d1 q fin)
def zbx (r:RS') (te:TE') (tl th:TP'):TE':=fun Γ Q=>te Γ fun x Γ1=>tl Γ1 fun l Γ2=>th Γ2 fun u Γ3=>r x l u fun d=>Q d Γ3
def zcQ {e:Expr} {lo hi:Option Expr} {p2:Pos} {te:TE'} {tl th:TP'} {r':RS'} (h:Sli X r') (he:PE' X e te) (hl:PB' X lo tl) (hu:PB' X hi th):PE' X (.Subscript e (.Slice lo hi none p2) pos) (zbx r' te tl th):=by
 obtain ⟨r,ho,l⟩:=h.ex; refine ⟨PE.weak (zkC ho he.h hl.h hu.h) ?_⟩
 rintro σ H Q ⟨W,Hi,Γ,Q',g,h,fin⟩
 refine ⟨W,Hi,Γ,_,g,h,?_⟩
 rintro x H1 ⟨Hi1,dx,Γ1,s1,g1,den1,h1⟩
 refine ⟨W,Hi1,Γ1,_,g1,h1,?_⟩; intro i H2 Hi2 Γ2 s2 g2 h2; refine ⟨W,Hi2,Γ2,_,g2,h2,?_⟩; intro j H3 Hi3 Γ3 s3 g3 h3; refine l Hi3 H3 x dx i j _ _ g3.fz (den1.mono (s2.trans s3)) h3 ?_; intro Hi4 H4 v d e den q; exact fin v H4 ⟨Hi4,d,Γ3,s1.trans (s2.trans (s3.trans e.hi)),g3.ext e,den,q⟩
abbrev RM':=D->List D->(D->Prop)->Prop
def zrF (K:W.Frag) (T:String) (r:V->List V->Hp->VK->Prop) (r':RM'):Prop:=∀ (Hi H:Hp) (x:V) (vs:List V) (dx:D) (ds:List D) (Q:D->Prop) (Q2:VK),Fz Hi H->Den K Hi x dx->zb4 K Hi vs ds->r' dx ds Q->(∀ Hi' H' v d,Ext Hi H Hi' H'->Den K Hi' v d->Q d->Q2 v H')->r x vs H Q2
def tyD (T:String):D->Prop
 | .str _=>T="str"
 | .int _=>T="int"
 | .lst _=>T="list"
 | _=>False
def zn6 {K:W.Frag} {Hi H:Hp} {x:V} {dx:D} (s:zaR Hi H) (den:Den K Hi x dx) (h:tyD T dx):tyV K T x H:=by
 cases den with
 | str l=>exact h
 | int i=>exact h
 | lst hq l r =>
  refine .inl ⟨h,_,zab s hq⟩
 | _=>exact h.elim
structure Met (X:Cx) (T:String) (id:String) (r':RM'):Prop where
 ex:∃ r,MtR X id r/\zrF X.K T r r'
def zbz (T:String) (r:RM') (to:TE') (t:TA'):TE':=fun Γ Q=>to Γ fun x Γ1=>tyD T x/\t Γ1 fun ds Γ2=>r x ds fun d=>Q d Γ2
def zoS {o e:Expr} {es:List Expr} {to:TE'} {t:TA'} {name:Str} {apos cpos:Pos} {T id:String} {r':RM'} (h:Met X T id r') (pa:PlainAttrs T) (slot:PySem.Slot T name id) (hty:typeOf (.builtin id)=pure (.type "method_descriptor")) (ho:PE' X o to) (ha:PA' X (e :: es) t)
  (hbase:attributeBase o name X.env (eval o X.env)=eval o X.env:=by rfl) (hlen:(e :: es).length<30:=by decide)
  (hline:(apos.endLine == cpos.line)=true:=by rfl) :
  PE' X (.Call (.Attribute o name apos) (e :: es) [] cpos) (zbz T r' to t):=by
 obtain ⟨r,hm,l⟩:=h.ex; obtain ⟨p1,p2⟩:=zC ha.pl
 have hfew:((backTo cpos (starEach (e :: es) X.env)).all (fun x=>!x.1) && (backToKw cpos (keywordEach [] X.env)).all (fun x=>x.1.isSome)
   && decide ((e :: es).length+([]:List Keyword).length+(if ([]:List Keyword).isEmpty then 0 else 1)<30))=true:=by
  have h1:(backTo cpos (starEach (e :: es) X.env)).all (fun x=>!x.1)=true:=by
   rw [Yf]; intro y hy
   have:=zaS (pos:=cpos) (env:=X.env) ha.pl
   rw [List.any_eq_false] at this
   simpa using this y hy
  rw [h1,YC (by simpa using hlen)]
  rfl
 refine ⟨PE.weak (zkK pa slot hty hm ho.h ha.pa hbase hfew hline (zah p1) (zaS p2)) ?_⟩
 rintro σ H Q ⟨W,Hi,Γ,Q',g,h,fin⟩
 refine ⟨W,Hi,Γ,_,g,h,?_⟩
 rintro x H1 ⟨Hi1,dx,Γ1,s1,g1,den1,ty,h1⟩
 refine ⟨zn6 g1.sub den1 ty,W,Hi1,Γ1,_,g1,h1,?_⟩; intro vs H2 Hi2 Γ2 ds s2 g2 dl h2; refine l Hi2 H2 x vs dx ds _ _ g2.fz (den1.mono s2) dl h2 ?_; intro Hi3 H3 v d e den q; exact fin v H3 ⟨Hi3,d,Γ2,s1.trans (s2.trans e.hi),g2.ext e,den,q⟩
def zE:TS':=fun N Γ=>N.nx Γ
def zak (t u:TS'):TS':=fun N Γ=>t { N with nx:=u N } Γ
def zD:PSs' X [] zE:=by
 refine ⟨PSs.weak ziR ?_⟩
 rintro N2 σ H ⟨W,Hi,Γ,N,g,h,l⟩
 exact l.nx σ H Hi Γ (zaR.refl _) g h
def zl {s:Stmt} {zbF:List Stmt} {t u:TS'} (h1:PS' X s t) (h2:PSs' X zbF u):PSs' X (s :: zbF) (zak t u):=by
 refine ⟨PSs.weak (zbZ h1.h h2.h) ?_⟩
 rintro N2 σ H ⟨W,Hi,Γ,N,g,h,l⟩
 refine ⟨W,Hi,Γ,_,g,h,?_,l.bk,l.ct,l.rt⟩; intro σ1 H1 Hi1 Γ1 s1 g1 q; exact ⟨W,Hi1,Γ1,N,g1,q,l.mono s1⟩
def zn {s:Stmt} {t:TS'} (h1:PS' X s t):PSs' X [s] t:=⟨zcl h1.h⟩
def zaq (te:TE'):TS':=fun N Γ=>te Γ fun d Γ1=>N.rt (.val d) Γ1
def zy {e:Expr} {te:TE'} (he:PE' X e te):PS' X (.Return (some e) pos) (zaq te):=by
 refine ⟨PS.weak (ziT he.h) ?_⟩
 rintro N2 σ H ⟨W,Hi,Γ,N,g,h,l⟩
 refine ⟨W,Hi,Γ,_,g,h,?_⟩
 rintro v H1 ⟨Hi1,d,Γ1,s1,g1,den,q⟩
 exact l.rt v σ H1 Hi1 Γ1 (.val d) s1 g1 den q
def zU (n i:Nat):TS':=fun N Γ=>i<n/\∃ o,Γ[i]?=some (.own o)/\N.rt (.own o) Γ
def zhc (i:Nat) {x:Str} {p:Pos} (hN:X.N[i]?=some x:=by rfl) (hv:Vis X.env.scope x:=by first | exact YA rfl | exact yr (YA rfl) | exact yr (yr rfl)) (hd:yyD x:=by decide)
  (hcd:(x == ("__classdict__":Str))=false:=by decide):PS' X (.Return (some (.Name x p)) pos) (zU X.N.length i):=by
 refine ⟨PS.weak (ziT (zcP (i:=i) hN hv hd hcd)) ?_⟩
 rintro N2 σ H ⟨W,Hi,Γ,N,g,⟨hi,o,e,q⟩,l⟩
 obtain ⟨a,h1,h2,h3,h4⟩:=g.own i o e; unfold adr at h1; rw [yW hi] at h1; exact ⟨.ref a,zeQ h1,l.rt _ σ H Hi Γ (.own o) (zaR.refl _) g ⟨a,rfl,h2,h3 hi,h4⟩ q⟩
def zaf (c:TT') (t u:TS'):TS':=fun N Γ=>c Γ fun b Γ1=>if b=true then t N Γ1 else u N Γ1
def zaA {c:Expr} {sa sb:List Stmt} {tc:TT'} {t u:TS'} (hc:PT' X c tc) (ha:PSs' X sa t) (hb:PSs' X sb u):PS' X (.If c sa sb pos) (zaf tc t u):=by
 refine ⟨PS.weak (zoG hc.h ha.h hb.h) ?_⟩
 rintro N2 σ H ⟨W,Hi,Γ,N,g,h,l⟩
 refine ⟨W,Hi,Γ,_,g,h,?_⟩; intro k H1 Hi1 Γ1 s1 g1 q
 cases k with
 | true=>exact ⟨W,Hi1,Γ1,N,g1,q,l.mono s1⟩
 | false=>exact ⟨W,Hi1,Γ1,N,g1,q,l.mono s1⟩
def zN (te:TE'):TS':=fun N Γ=>te Γ fun _ Γ1=>N.nx Γ1
def zd3 {e:Expr} {te:TE'} (he:PE' X e te) (hs:swapsWith e none pos.line X.env=pure false:=by rfl):PS' X (.Expr e pos) (zN te):=by
 refine ⟨PS.weak (zdM he.h hs) ?_⟩
 rintro N2 σ H ⟨W,Hi,Γ,N,g,h,l⟩
 refine ⟨W,Hi,Γ,_,g,h,?_⟩
 rintro v H1 ⟨Hi1,d,Γ1,s1,g1,den,q⟩
 exact l.nx σ H1 Hi1 Γ1 s1 g1 q
def zB (i:Nat):TG':=fun d Γ Q=>Q (Γ.set i (.val d))
def zaF (i:Nat) {x:Str} (hN:X.N.Nodup) (hi:X.N[i]?=some x:=by rfl) (hx:Loc X.env.scope x:=by first | exact YA rfl | exact yr rfl) (hf:X.fn x=true\/X.env.scope.names.lookup x=some .local:=by first | exact .inl rfl | exact .inr rfl | assumption):PG' X (.Name x pos) (zB i):=by
 refine ⟨PG.weak (zeh (i:=i) hN hi hx hf) ?_⟩
 rintro v σ H Q ⟨W,Hi,Γ,d,Q',g,den,q,fin⟩
 exact fin _ H Hi _ (zaR.refl _) (g.set (yD.mp hi).1 den) q
def zao (te:TE') (g:TG'):TS':=fun N Γ=>te Γ fun d Γ1=>g d Γ1 N.nx
def zai (i:Nat) {x:Str} {e:Expr} {te:TE'} {pos':Pos} (hN:X.N.Nodup) (he:PE' X e te) (hi:X.N[i]?=some x:=by rfl) (hx:Loc X.env.scope x:=by first | exact YA rfl | exact yr rfl) (hs:swapsWith e (some (.Name x pos')) pos.line X.env=pure false:=by rfl)
  (hf:X.fn x=true\/X.env.scope.names.lookup x=some .local:=by first | exact .inl rfl | exact .inr rfl | assumption):PS' X (.Assign [.Name x pos'] e pos) (zao te (zB i)):=by
 refine ⟨PS.weak (zhb (i:=i) hN hi hx he.h hs hf) ?_⟩
 rintro N2 σ H ⟨W,Hi,Γ,N,g,h,l⟩
 refine ⟨W,Hi,Γ,_,g,h,?_⟩
 rintro v H1 ⟨Hi1,d,Γ1,s1,g1,den,q⟩
 exact l.nx _ H1 Hi1 _ s1 (g1.set (yD.mp hi).1 den) q
def zK (te:TO') (i:Nat):TS':=fun N Γ=>te Γ fun o Γ1=>N.nx (Γ1.set i (.own o))
def zha (i:Nat) {x:Str} {e:Expr} {te:TO'} {pos':Pos} (hN:X.N.Nodup) (he:PO' X e te) (hi:X.N[i]?=some x:=by rfl) (hx:Loc X.env.scope x:=by first | exact YA rfl | exact yr rfl) (hs:swapsWith e (some (.Name x pos')) pos.line X.env=pure false:=by rfl)
  (hf:X.fn x=true\/X.env.scope.names.lookup x=some .local:=by first | exact .inl rfl | exact .inr rfl | assumption):PS' X (.Assign [.Name x pos'] e pos) (zK te i):=by
 refine ⟨PS.weak (zhb (i:=i) hN hi hx he.h hs hf) ?_⟩
 rintro N2 σ H ⟨W,Hi,Γ,N,g,h,l⟩
 refine ⟨W,Hi,Γ,_,g,h,?_⟩; intro a H1 Hi1 Γ1 o s1 g1 nw q; exact l.nx _ H1 Hi1 _ s1 (g1.setO (yD.mp hi).1 nw.hi nw.h0 nw.ne nw.own) q
def zeK (g:TG') (tb:TS') (N:Ends'):List D->Sts->Prop
 | [],Γ=>N.nx Γ
 | d :: ds,Γ=>g d Γ fun Γ2=>tb { N with nx:=zeK g tb N ds,ct:=zeK g tb N ds,bk:=N.nx } Γ2
def zax (ti:TI') (g:TG') (tb:TS'):TS':=fun N Γ=>ti Γ fun ds Γ1=>zeK g tb N ds Γ1
def zdL {tg iter:Expr} {body:List Stmt} {ti:TI'} {g:TG'} {tb:TS'} (hi:PI' X tg iter ti) (hg:PG' X tg g) (hb:PSs' X body tb) (hp:PassesOwn (model X.prog X.w) X.A X.env X.xe:=by exact PassesOwn.never) (hc:X.calm=true:=by rfl)
  (hs:∀ x,foldedSetIterable iter X.env x=pure x:=by intro _; rfl):PS' X (.For tg iter body [] pos) (zax ti g tb):=by
 refine ⟨PS.weak (zoH hp hc hi.h hg.h hb.h hs) ?_⟩
 rintro N2 σ H ⟨W,Hi,Γ,N,gd,h,l⟩
 refine ⟨W,Hi,Γ,_,gd,h,?_⟩; intro J H1 Hi1 Γ1 ds s1 g1 itd q
 refine ⟨fun i m σ' H'=>m=ds.length-i/\i<=ds.length/\∃ Hi' Γ',zaR Hi1 Hi'/\Good X.K X.N.length W Hi' Γ' σ' H'/\zeK g tb N (ds.drop i) Γ',⟨ds.length,by simp,YE _,Hi1,Γ1,zaR.refl _,g1,by simpa using q⟩,?_⟩
 rintro i m σ' H' ⟨rfl,hi',Hi',Γ',s2,g2,q2⟩
 have wk:=itd Hi' H' s2 g2.fz
 by_cases hlt:i<ds.length
 ·have hd:ds.drop i=ds[i] :: ds.drop (i+1):=YM hlt
  rw [hd] at q2; obtain ⟨go,yl⟩:=wk.1 i ds[i] (yB hlt)
  refine .inr ⟨go,fun σ3 H3=>∃ Hi3 Γ3,zaR Hi' Hi3/\Good X.K X.N.length W Hi3 Γ3 σ3 H3/\zeK g tb N (ds.drop (i+1)) Γ3,fun σ3 H3 ⟨Hi3,Γ3,s3,g3,q3⟩=>⟨ds.length-(i+1),by omega,rfl,hlt,Hi3,Γ3,s2.trans s3,g3,q3⟩,fun x H'' y=>?_⟩
  obtain ⟨Hi'',ex,den⟩:=yl x H'' y; refine ⟨W,Hi'',Γ',ds[i],_,g2.ext ex,den,q2,?_⟩; intro σ4 H4 Hi4 Γ4 s4 g4 q4
  have sx:zaR Hi' Hi4:=ex.hi.trans s4
  refine ⟨W,Hi4,Γ4,_,g4,q4,?_⟩
  refine ⟨fun σ5 H5 Hi5 Γ5 s5 g5 q5=>⟨Hi5,Γ5,sx.trans s5,g5,q5⟩,fun σ5 H5 Hi5 Γ5 s5 g5 q5=>l.nx σ5 H5 Hi5 Γ5 (s1.trans (s2.trans (sx.trans s5))) g5 q5,fun σ5 H5 Hi5 Γ5 s5 g5 q5=>⟨Hi5,Γ5,sx.trans s5,g5,q5⟩,fun v σ5 H5 Hi5 Γ5 r s5 g5 ro q5=>l.rt v σ5 H5 Hi5 Γ5 r (s1.trans (s2.trans (sx.trans s5))) g5 ro q5⟩
 ·have e:i=ds.length:=by omega
  subst e; rw [YV (yJ _)] at q2; exact .inl ⟨wk.2,l.nx σ' H' Hi' Γ' (s1.trans s2) g2 q2⟩
def zlg {K:W.Frag} {Hi:Hp} {a:Addr} {vs:List V} {ds:List D} (h:SqL K Hi a vs) (r:zb4 K Hi vs ds):ItD K Hi (Itl K a) ds:=by
 intro Hi' H' s1 s2
 have hq:SqL K H' a vs:=zab (s1.trans s2.sub) h
 refine ⟨fun i d e=>?_,vs,hq,by rw [zm r]; exact yJ _⟩
 obtain ⟨v,e1,e2⟩:=zaV r e; refine ⟨⟨vs,v,hq,e1⟩,?_⟩
 rintro x H'' ⟨rfl,y⟩
 have:=y vs hq
 rw [e1] at this; cases this; exact ⟨Hi',Ext.refl s2,e2.mono s1⟩
def znv {K:W.Frag} {Hi:Hp} {a:Addr} {vs:List V} {ds:List D} (h:SqT K Hi a vs) (r:zb4 K Hi vs ds):ItD K Hi (Itt K a) ds:=by
 intro Hi' H' s1 s2
 have hq:SqT K H' a vs:=zaj (s1.trans s2.sub) h
 refine ⟨fun i d e=>?_,vs,hq,by rw [zm r]; exact yJ _⟩
 obtain ⟨v,e1,e2⟩:=zaV r e; refine ⟨⟨vs,v,hq,e1⟩,?_⟩
 rintro x H'' ⟨rfl,y⟩
 have:=y vs hq
 rw [e1] at this; cases this; exact ⟨Hi',Ext.refl s2,e2.mono s1⟩
def znw {K:W.Frag} {Hi:Hp} (l:List Nat):ItD K Hi (Its l) (l.map fun c=>.str [c]):=by
 intro Hi' H' s1 s2
 refine ⟨fun i d e=>?_,by rw [yE]; rfl⟩
 rw [yF] at e
 cases hc:l[i]? with
 | none=>rw [hc] at e; cases e
 | some c =>
  rw [hc] at e; cases e; refine ⟨(yD.mp hc).1,?_⟩
  rintro x H'' ⟨rfl,c',e',rfl⟩
  rw [hc] at e'; cases e'; exact ⟨Hi',Ext.refl s2,.str [c]⟩
def znx {K:W.Frag} {Hi:Hp} (lo:Int) (n:Nat):ItD K Hi (Itr lo n) ((List.range n).map fun k=>.int (lo+(k:Nat))):=by
 intro Hi' H' s1 s2
 refine ⟨fun i d e=>?_,by rw [yE,ye]; exact yJ _⟩
 rw [yF] at e
 cases hc:(List.range n)[i]? with
 | none=>rw [hc] at e; cases e
 | some c =>
  rw [hc] at e; cases e
  have hi:i<n:=by
   have:=(yD.mp hc).1
   rwa [ye] at this
  have ec:c=i:=by
   rw [YK hi] at hc; exact (Option.some.inj hc).symm
  subst ec; refine ⟨hi,?_⟩
  rintro x H'' ⟨rfl,rfl⟩
  exact ⟨Hi',Ext.refl s2,.int _⟩
def zoi:D->Option (List D)
 | .lst ds=>some ds
 | .tup ds=>some ds
 | .str l=>some (l.map fun c=>.str [c])
 | _=>none
def zaC (t:TE'):TI':=fun Γ Q=>t Γ fun d Γ1=>∃ ds,zoi d=some ds/\Q ds Γ1
def zmV {l tg:Expr} {tl:TE} (hl:PE X l tl):PI X tg l (fun σ H R=>tl σ H fun x H1=>(∃ a,x=.ref a/\(∃ xs,SqL X.K H1 a xs)/\R (Itl X.K a) H1)\/(∃ a,x=.ref a/\(∃ xs,SqT X.K H1 a xs)/\R (Itt X.K a) H1)\/(∃ z,x=.str z/\R (Its z.cps.toList) H1)):=by
 intro pins s σ H R I h
 refine thn (hl pins s σ H _ I h) fun v s1 ⟨x,H1,I1,r1,q1⟩=>?_
 have fin:∀ b ∈ [s1.heap.objs.size],zdf X pins H1 b:=fun b hb=>by
  have e:b=s1.heap.objs.size:=by simpa using hb
  subst e; exact I1.fpOk (yJ _) (I1.hok.fresh (yJ _))
 rcases q1 with ⟨a,rfl,⟨xs,hq⟩,q⟩ | ⟨a,rfl,⟨xs,hq⟩,q⟩ | ⟨z,rfl,q⟩
 ·cases r1
  obtain ⟨its,rv,p,hz⟩:=I1.list hq; refine wpAny_pyIter_list p.isList ?_
  exact ⟨s1.heap.objs.size,[s1.heap.objs.size],_,_,H1,rfl,I1.kept (t':=s1.toks) fun b o e=>yC _ e,zfE a _,⟨_,yI _ rfl,rfl,rfl⟩,fin,q⟩
 ·cases r1
  obtain ⟨its,rv,p,hz⟩:=I1.tuple hq
  refine wpAny_pyIter_tuple (show s1.heap.IsTuple a its.toArray from p) ?_
  exact ⟨s1.heap.objs.size,[s1.heap.objs.size],_,_,H1,rfl,I1.kept (t':=s1.toks) fun b o e=>yC _ e,zhE a _,⟨_,yI _ rfl,rfl,rfl⟩,fin,q⟩
 ·obtain ⟨t,rfl⟩:=r1
  cases ha:z.cps.all (·<128)
  ·refine wpAny_pyIter_wide ha ?_
   exact ⟨s1.heap.objs.size,[s1.heap.objs.size],_,_,H1,rfl,I1.kept (t':=s1.toks) fun b o e=>yC _ e,zg3 z t _ (.inr rfl),⟨_,yI _ rfl,rfl,rfl⟩,fin,q⟩
  ·refine wpAny_pyIter_ascii ha ?_
   exact ⟨s1.heap.objs.size,[s1.heap.objs.size],_,_,H1,rfl,I1.kept (t':=s1.toks) fun b o e=>yC _ e,zg3 z t _ (.inl rfl),⟨_,yI _ rfl,rfl,rfl⟩,fin,q⟩
def zcm {l tg:Expr} {t:TE'} (hl:PE' X l t):PI' X tg l (zaC t):=by
 refine ⟨PI.weak (zmV hl.h) ?_⟩
 rintro σ H R ⟨W,Hi,Γ,Q',g,h,fin⟩
 refine ⟨W,Hi,Γ,_,g,h,?_⟩
 rintro v H1 ⟨Hi1,d,Γ1,s1,g1,den,ds,e,q⟩
 cases d with
 | lst es =>
  cases e; obtain ⟨a,vs,rfl,h1,h2⟩:=den.lstI; exact .inl ⟨a,rfl,⟨vs,zab g1.sub h1⟩,fin _ H1 Hi1 Γ1 _ s1 g1 (zlg h1 h2) q⟩
 | tup es =>
  cases e; obtain ⟨a,vs,rfl,h1,h2⟩:=den.tupI; exact .inr (.inl ⟨a,rfl,⟨vs,zaj g1.sub h1⟩,fin _ H1 Hi1 Γ1 _ s1 g1 (znv h1 h2) q⟩)
 | str l =>
  cases e; refine .inr (.inr ⟨_,den.strI,?_⟩); rw [zcb]; exact fin _ H1 Hi1 Γ1 _ s1 g1 (znw l) q
 | _=>cases e
def zP (t:TA'):TI':=fun Γ Q=>t Γ fun ds Γ1=>∃ j:Int,ds=[.int j]/\-(2 ^ 62)<=j/\j<2 ^ 62/\Q ((List.range j.toNat).map fun k=>.int (0+(k:Nat))) Γ1
def zde {K:W.Frag} {H:Hp} {vs:List V} {d:D} (h:zb4 K H vs [d]):∃ v,vs=[v]/\Den K H v d:=by
 cases h with
 | cons r t=>cases t; exact ⟨_,rfl,r⟩
def zlo {K:W.Frag} {H:Hp} {vs:List V} {d e:D} (h:zb4 K H vs [d,e]):∃ v w,vs=[v,w]/\Den K H v d/\Den K H w e:=by
 cases h with
 | cons r t =>
  obtain ⟨w,rfl,q⟩:=zde t; exact ⟨_,w,rfl,r,q⟩
def zb7 {a tg:Expr} {t:TA'} {p pos:Pos} (hm:X.mg "range"=none) (ha:PA' X [a] t) (hg:Gl X "range":=by rfl):PI' X tg (.Call (.Name "range" p) [a] [] pos) (zP t):=by
 refine ⟨PI.weak (ziY hg hm ha.pa (zah (zC ha.pl).1)) ?_⟩
 rintro σ H R ⟨W,Hi,Γ,Q',g,h,fin⟩
 refine ⟨W,Hi,Γ,_,g,h,?_⟩
 rintro vs H1 Hi1 Γ1 ds s1 g1 dl ⟨j,rfl,b1,b2,q⟩
 obtain ⟨v,rfl,den⟩:=zde dl; rw [den.intI]; exact ⟨j,rfl,b1,b2,fin _ H1 Hi1 Γ1 _ s1 g1 (znx 0 _) q⟩
def zj4 (src:List (Option Nat)) (Γ:Sts):Sts:=src.map fun o=>match o with
 | none=>.emp
 | some i=>match Γ[i]? with
  | some (.val d)=>.val d
  | _=>.emp
def voS:Slot->Slot
 | .val d=>.val d
 | _=>.emp
def vo (Γ:Sts):Sts:=Γ.map voS
def zc2 (g:TG') (tc:TT') (te:TE') (Q:List D->Prop):List D->List D->Sts->Prop
 | [],acc,_=>Q acc
 | d :: ds,acc,Γ=>g d Γ fun Γ2=>tc Γ2 fun b Γ3=>if b=true then te Γ3 fun y Γ4=>zc2 g tc te Q ds (acc ++ [y]) (vo Γ4) else zc2 g tc te Q ds acc (vo Γ3)
def zJ (ti:TI') (src:List (Option Nat)) (g:TG') (tc:TT') (te:TE'):TO':=fun Γ Q=>ti Γ fun ds Γ1=>ds.length<=sizeLine/\zc2 g tc te (fun acc=>Q (.lst acc) Γ1) ds [] (zj4 src Γ1)
structure PTs' (X:Cx) (ifs:List Expr) (t:TT'):Prop where
 h:PTs X ifs (znV X.K X.N.length t)
def zbn:TT':=fun Γ Q=>Q true Γ
def zbM:PTs' X [] zbn:=by
 refine ⟨?_⟩; intro pins s σ H Q I h; obtain ⟨W,Hi,Γ,Q',g,h,fin⟩:=h; exact ziP pins s σ H Q I (fin true H Hi Γ (zaR.refl _) g h)
def zkx {c:Expr} {t:TT'} (h:PT' X c t):PTs' X [c] t:=⟨zmP h.h⟩
def zdc {elt tg iter:Expr} {ifs:List Expr} {sc fsc:Scope} {ti:TI'} {g:TG'} {tc:TT'} {te:TE'} {N N':List Str} {src:List (Option Nat)} (B:Blk N N' src fsc sc) (hi:PI' X tg iter ti)
  (hg:∀ cl C s H fp pn,PG' (blk X N' sc cl C s H fp pn) tg g) (ht:∀ cl C s H fp pn,PTs' (blk X N' sc cl C s H fp pn) ifs tc) (he:∀ cl C s H fp pn,PE' (blk X N' sc cl C s H fp pn) elt te)
  (hx:X.xe=(fun _ _=>False):=by rfl) (hc:X.calm=true:=by rfl) (hN:X.N=N:=by rfl) (hs:X.env.scope=fsc:=by rfl)
  (hf:∀ x,foldedSetIterable iter X.env x=pure x:=by intro _; rfl):PO' X (.ListComp elt [⟨tg,iter,ifs,0⟩] sc pos) (zJ ti src g tc te):=by
 refine ⟨PE.weak (zi3 (g:=gOf X.K N'.length g) (tc:=znV X.K N'.length tc) (te:=tOf X.K N'.length te) B hi.h (fun a b c d e f=>(hg a b c d e f).h) (fun a b c d e f=>(ht a b c d e f).h) (fun a b c d e f=>(he a b c d e f).h) hx hc hN hs hf) ?_⟩
 rintro σ H Q2 ⟨W,Hi,Γ,Q,gd,h,fin⟩
 refine ⟨W,Hi,Γ,_,gd,h,?_⟩
 rintro J H1 Hi1 Γ1 ds s1 g1 itd ⟨hlen,q⟩
 intro A hA
 -- the state between two turns
 have hn':src.length=N'.length:=B.len
 refine zgc (n:=ds.length) (fun i σ' H'=>∃ Hi' acc vs Γ',zaR Hi1 Hi'/\Fz Hi' H'/\(∀ b o,H1 b=some o->H' b=some o)/\(∀ b o,H1 b=some o->Hi' b=Hi1 b)/\Hi' A=none/\H' A=some (.lst vs)/\zb4 X.K Hi' vs acc/\vs.length<=i/\σ'.length=N'.length /\
   (∀ (j:Nat) s,Γ'[j]?=some s->s=.emp\/∃ d,s=.val d/\∃ v,σ'[j]?=some (some v)/\Den X.K Hi' v d)/\zc2 g tc te (fun acc=>Q (.lst acc) Γ1) (ds.drop i) acc Γ') ?_ ?_ ?_
 ·refine ⟨Hi1,[],[],zj4 src Γ1,zaR.refl _,(Ext.newO g1.fz hA _ (fun _ z=>by cases z)).fz,fun b o e=>zY hA _ b o e,fun b o e=>rfl,g1.sub.free hA,zo,.nil,YE _,?_,fun j s e=>?_,by simpa using q⟩
  ·unfold zkj; rw [yE,hn']
  ·unfold zj4 at e
   rw [yF] at e
   cases hj:src[j]? with
   | none=>rw [hj] at e; cases e
   | some o =>
    rw [hj] at e
    cases o with
    | none=>cases e; exact .inl rfl
    | some i =>
     have e':(match Γ1[i]? with | some (.val d)=>Slot.val d | _=>.emp)=s:=Option.some.inj e
     cases hΓ:Γ1[i]? with
     | none=>rw [hΓ] at e'; exact .inl e'.symm
     | some sl =>
      rw [hΓ] at e'
      cases sl with
      | val d =>
       refine .inr ⟨d,e'.symm,?_⟩; obtain ⟨v,h1,h2⟩:=g1.val i d hΓ; refine ⟨v,?_,h2⟩; unfold zkj; rw [yF,hj]
       show some ((some i).bind fun i=>(σ[i]?).join)=some (some v)
       show some ((σ[i]?).join)=some (some v)
       rw [h1]; rfl
      | emp=>exact .inl e'.symm
      | own o=>exact .inl e'.symm
      | bk _ _ _=>exact .inl e'.symm
 ·rintro i σ' H' hlt ⟨Hi',acc,vs,Γ',s2,s3,k1,k2,hA1,hA2,dl,hv,hl,hsl,q⟩
  have hd:ds.drop i=ds[i] :: ds.drop (i+1):=YM hlt
  rw [hd] at q; obtain ⟨go,yl⟩:=(itd Hi' H' s2 s3).1 i ds[i] (yB hlt)
  refine ⟨go,fun x H'' y=>?_⟩
  obtain ⟨Hi'',ex,den⟩:=yl x H'' y
  have gb:Good X.K N'.length ⟨H'',Hi'',[]⟩ Hi'' Γ' σ' H'':=by
   refine ⟨hl,ex.fz,fun b o e _=>e,fun b o e=>⟨o,e⟩,fun b o e=>rfl,fun j d e=>?_,fun j o e=>?_,fun j k o o' b e=>?_,fun j d b xs e=>?_⟩
   ·rcases hsl j _ e with z | ⟨d',z,v,h1,h2⟩
    ·cases z
    ·cases z; exact ⟨v,h1,h2.mono ex.hi⟩
   ·rcases hsl j _ e with z | ⟨d',z,_⟩ <;> cases z
   ·rcases hsl j _ e with z | ⟨d',z,_⟩ <;> cases z
   ·rcases hsl j _ e with z | ⟨d',z,_⟩ <;> cases z
  refine ⟨⟨H'',Hi'',[]⟩,Hi'',Γ',ds[i],_,gb,den,q,?_⟩; intro σ3 H3 Hi3 Γ3 s4 g3 q3; refine ⟨⟨H'',Hi'',[]⟩,Hi3,Γ3,_,g3,q3,?_⟩; intro b H4 Hi4 Γ4 s5 g4 q4
  -- what the state is behind a turn
  have back:∀ {Γ5:Sts} {Hi5 H5:Hp},zaR Hi4 Hi5->Good X.K N'.length ⟨H'',Hi'',[]⟩ Hi5 Γ5 σ3 H5 ->
    zaR Hi1 Hi5/\Fz Hi5 H5/\(∀ b o,H1 b=some o->H5 b=some o)/\(∀ b o,H1 b=some o->Hi5 b=Hi1 b)/\Hi5 A=none/\H5 A=some (.lst vs)/\zaR Hi' Hi5:=fun {Γ5 Hi5 H5} s6 g5=>by
   have sx:zaR Hi' Hi5:=ex.hi.trans (s4.trans (s5.trans s6))
   have hA3:H'' A=some (.lst vs):=ex.h _ _ hA2
   refine ⟨s2.trans sx,g5.fz,fun b o e=>g5.keep b o (ex.h _ _ (k1 b o e)) (by simp),fun b o e=>?_,?_,g5.keep A _ hA3 (by simp),sx⟩
   ·rw [g5.fro b o (ex.h _ _ (k1 b o e))]
    show Hi'' b=Hi1 b
    rw [ex.fro b o (k1 b o e),k2 b o e]
   ·rw [g5.fro A _ hA3]
    show Hi'' A=none
    rw [ex.fro A _ hA2,hA1]
  have sl:∀ {Γ5:Sts} {Hi5 H5:Hp},Good X.K N'.length ⟨H'',Hi'',[]⟩ Hi5 Γ5 σ3 H5->∀ (j:Nat) s,(vo Γ5)[j]?=some s->s=.emp\/∃ d,s=.val d/\∃ v,σ3[j]?=some (some v)/\Den X.K Hi5 v d:=fun {Γ5 Hi5 H5} g5 j s e=>by
   unfold vo at e; rw [yF] at e
   cases hj:Γ5[j]? with
   | none=>rw [hj] at e; cases e
   | some sl =>
    rw [hj] at e
    cases sl with
    | val d =>
     cases e; exact .inr ⟨d,rfl,g5.val j d hj⟩
    | emp=>cases e; exact .inl rfl
    | own o=>cases e; exact .inl rfl
    | bk _ _ _=>cases e; exact .inl rfl
  cases b with
  | false =>
   simp only [YY,if_false] at q4 ⊢; obtain ⟨b1,b2,b3,b4,b5,b6,b7⟩:=back (zaR.refl _) g4
   exact ⟨Hi4,acc,vs,vo Γ4,b1,b2,b3,b4,b5,b6,dl.mono b7,by omega,g4.len,sl g4,q4⟩
  | true =>
   simp only [if_true] at q4 ⊢; refine ⟨⟨H'',Hi'',[]⟩,Hi4,Γ4,_,g4,q4,?_⟩
   rintro y' H5 ⟨Hi5,dy,Γ5,s6,g5,den5,q5⟩
   obtain ⟨b1,b2,b3,b4,b5,b6,b7⟩:=back s6 g5
   refine ⟨vs,b6,by omega,Hi5,acc ++ [dy],vs ++ [y'],vo Γ5,b1,?_,?_,b4,b5,zo,zbG (dl.mono b7) (.cons den5 .nil),by rw [yu]; simp; omega,g5.len,sl g5,q5⟩
   ·refine ⟨fun b o e=>?_,fun b xs e=>?_⟩
    ·rw [zp (fun z=>by rw [z,b5] at e; cases e)]
     exact b2.sub b o e
    ·by_cases hb:b=A
     ·subst hb; rw [zo] at e; cases e
     ·rw [zp hb] at e; exact b2.tups b xs e
   ·intro b o e
    rw [zp (zag e hA)]; exact b3 b o e
 ·rintro σ' H' ⟨Hi',acc,vs,Γ',s2,s3,k1,k2,hA1,hA2,dl,hv,hl,hsl,q⟩
  refine ⟨(itd Hi' H' s2 s3).2,?_⟩; rw [YV (yJ _)] at q
  have ex:Ext Hi1 H1 Hi' H':=⟨s2,k1,s3,k2⟩
  refine fin A H' Hi' Γ1 (.lst acc) (s1.trans s2) (g1.ext ex) ⟨hA1,?_,⟨fun j o' e z=>?_,fun j d xs e=>?_⟩,vs,hA2,dl⟩ q
  ·cases hq:W.H₀ A with
   | none=>rfl
   | some w =>
    obtain ⟨w',hw⟩:=g1.there A w hq
    rw [hA] at hw; cases hw
  ·obtain ⟨a,h1,_,_,h4⟩:=g1.own j o' e
   rw [z] at h1; cases h1; obtain ⟨w,hw⟩:=h4.there
   rw [hA] at hw; cases hw
  ·obtain ⟨w,hw⟩:=(g1.bk j d A xs e).at_.there
   rw [hA] at hw; cases hw
abbrev Sp':=List D->(Res->Prop)->Prop
def zij (K:W.Frag) (sp:Sp'):Sp:=fun vs H Q2 _=>∃ Hi ds Q,Fz Hi H/\zb4 K Hi vs ds/\sp ds Q/\∀ Hi' H' v r,Ext Hi H Hi' H'->znS K H Hi' H' v r->Q r->Q2 v H'
def zI (sp:Sp') (t:TA'):TE':=fun Γ Q=>t Γ fun ds Γ1=>sp ds fun r=>Q r.toD Γ1
variable {k:Nat} {f:Addr} {fd:FuncData} {ps:List Str} {sp:Sp'} {x:Str} {p:Pos} {e:Expr} {es:List Expr} {t:TA'}
def zbl {K:W.Frag} {n:Nat} {W:Wd} {Hi H Hi' H':Hp} {Γ:Sts} {σ:St} {a:Addr} {o:OD} (g:Good K n W Hi Γ σ H) (ex:Ext Hi H Hi' H') (h1:Hi' a=none) (h2:H a=none) (h3:zbQ K Hi' H' a o):New K n W Hi' Γ σ H' a o:=by
 refine ⟨h1,?_,⟨fun j o' e z=>?_,fun j d xs e=>?_⟩,h3⟩
 ·cases q:W.H₀ a with
  | none=>rfl
  | some w =>
   obtain ⟨w',hw⟩:=g.there a w q
   rw [h2] at hw; cases hw
 ·obtain ⟨b,q1,_,_,q4⟩:=g.own j o' e
  rw [z] at q1; cases q1; obtain ⟨w,hw⟩:=q4.there
  rw [h2] at hw; cases hw
 ·obtain ⟨w,hw⟩:=(g.bk j d a xs e).at_.there
  rw [h2] at hw; cases hw
def zkJ (F:FnOk X.prog X.w X.K X.mg X.base CX0 k f fd ps (zij X.K sp)) (hr:Room k X.A) (hm:X.mg x=some (.ref f)) (hk:W.keepIn X.K (.ref f)=true) (hb:zbk X.K fd ps [])
  (ha:PA' X (e :: es) t) (hg:Gl X x:=by rfl) (hdb:yyD x:=by decide) :
  PE' X (.Call (.Name x p) (e :: es) [] pos) (zI sp t):=by
 refine ⟨PE.weak (zm4 (E:=E0) (dvs:=[]) F hr hg hm hk hb .nil zfe ha.pa hdb (zah (zC ha.pl).1) (zaS (zC ha.pl).2)) ?_⟩
 rintro σ H Q ⟨W,Hi,Γ,Q',g,h,fin⟩
 refine ⟨W,Hi,Γ,_,g,h,?_⟩; intro vs H1 Hi1 Γ1 ds s1 g1 dl q; rw [yh]; refine ⟨Hi1,ds,_,g1.fz,dl,q,?_⟩; intro Hi2 H2 v r ex ro q2
 cases r with
 | val d=>exact fin v H2 ⟨Hi2,d,Γ1,s1.trans ex.hi,g1.ext ex,ro,q2⟩
 | own o =>
  obtain ⟨a,rfl,h1,h2,h3⟩:=ro; have nw:=zbl g1 ex h1 h2 h3; obtain ⟨u,hu⟩:=h3.there; exact fin _ H2 ⟨upd Hi2 a u,_,Γ1,s1.trans (ex.hi.trans (zY h1 u)),(g1.ext ex).freezeA nw.hi nw.h0 nw.ne hu,h3.den h1 hu,q2⟩
 | bk d o =>
  obtain ⟨b,dv,hol,h1,h2,h3⟩:=ro; have nw:=zbl g1 ex h1 h2 h3; obtain ⟨u,hu⟩:=h3.there; exact fin _ H2 ⟨upd Hi2 b u,_,Γ1,s1.trans (ex.hi.trans (zY h1 u)),(g1.ext ex).freezeA nw.hi nw.h0 nw.ne hu,hol b _ v o (h3.den h1 hu) (dv.mono (zY h1 u)),q2⟩
end
def zca (N:List Str) (ds:List D):Sts:=ds.map .val ++ List.replicate (N.length-ds.length) .emp
section
def Fun.ok' {x qual:Str} {st:Stmt} {f:Addr} {fd:FuncData} {N ps:List Str} {k:Nat} {sp:Sp'} (F:Fun K x qual st f fd) (S:FnScope N ps (zk st)) (len:∀ ds Q,sp ds Q->ds.length=ps.length)
  (hbody:∀ (cdv:Value) (A:Around) (outer:List Env) (s:Shared) (H:Hp) (E:XK),Room k (A.deeper (PyProof.Rows.envOfC qual (zk st) s.heap.objs.size f cdv))->∀ ds Q,sp ds Q ->
   ∃ t,PSs' (zd8 CX0 P w K mg base N qual (zk st) f cdv A outer s H E).nox (zaO st) t/\t { nx:=fun _=>Q (.val .non),rt:=fun r _=>Q r } (zca N ds)):FnOk P w K mg base CX0 (k+1) f fd ps (zij K sp):=by
 refine F.ok S (fun vs H Q E h=>?_) (fun cdv A outer s H vs Q E hr h=>?_)
 ·obtain ⟨Hi,ds,Q',_,dl,h,_⟩:=h
  rw [zm dl]; exact len ds Q' h
 obtain ⟨Hi,ds,Q',sb,dl,h,fin⟩:=h; obtain ⟨t,h1,h2⟩:=hbody cdv A outer s H E hr ds Q' h
 have hlen:ds.length=ps.length:=len ds Q' h
 have hpl:ps.length<=N.length:=by have:=yg List.length S.pre; rw [yT] at this; omega
 have hvl:=zm dl; refine ⟨_,h1.h,⟨H,Hi,[]⟩,Hi,zca N ds,_,?_,h2,?_⟩
 ·refine ⟨?_,sb,fun b o e _=>e,fun b o e=>⟨o,e⟩,fun b o e=>rfl,fun j d e=>?_,fun j o e=>?_,fun j k o o' b e=>?_,fun j d b xs e=>?_⟩
  ·unfold L2.start
   show _=N.length
   rw [yu,yE,Yk]; omega
  all_goals
   unfold zca at e
   by_cases hj:j<ds.length
   ·rw [yV (by simpa using hj),yF,yB hj] at e
    try cases e
    try
     obtain ⟨v,e1,e2⟩:=zaV dl (yB hj); refine ⟨v,?_,e2⟩; unfold L2.start
     rw [yV (by rw [yE]; omega),yF,e1]
     rfl
   ·rw [yo (by simpa using hj),Ye] at e
    split at e <;> cases e
 ·refine ⟨fun σ' H' Hi' Γ' s1 g1 q=>?_,fun _ _ _ _ _ _ q=>q.elim,fun _ _ _ _ _ _ q=>q.elim,fun v σ' H' Hi' Γ' r s1 g1 ro q=>?_⟩
  ·exact fin Hi' H' .non (.val .non) ⟨s1,fun b o e=>g1.keep b o e (by simp),g1.fz,fun b o e=>g1.fro b o e⟩ .non q
  ·exact fin Hi' H' v r ⟨s1,fun b o e=>g1.keep b o e (by simp),g1.fz,fun b o e=>g1.fro b o e⟩ ro q
end
end PL
namespace L2
open PySem PySem.Spec PyProof.Rows
section
def zls {vs:List Value} {bs:List Bool} (r:za4 (bs.map V.bl) vs) {i:Nat} {v:Value} (h:vs[i]?=some v):v=.bool (bs.getD i false):=by
 obtain ⟨b,hb⟩:∃ b,bs[i]?=some b:=by
  have hl:=r.length; rw [yE] at hl
  have hi:i<bs.length:=by rw [hl]; exact (yD.mp h).1
  exact ⟨bs[i],yB hi⟩
 obtain ⟨u,e1,e2⟩:=za4.get (i:=i) (x:=.bl b) r (by rw [yF,hb]; rfl)
 rw [h] at e1; cases e1; cases e2; rw [List.getD_eq_getElem?_getD,hb]; rfl
def zjP (bs:List Bool):((List.range bs.length).all fun i=>bs.getD i false)=bs.all id:=by
 rw [Bool.eq_iff_iff,Yf,Yf]; constructor
 ·intro h b hb
  obtain ⟨i,hi,e⟩:=List.getElem_of_mem hb
  have:=h i (List.mem_range.mpr hi)
  rw [List.getD_eq_getElem?_getD,yB hi,e] at this; exact this
 ·intro h i hi
  have hi':=List.mem_range.mp hi; rw [List.getD_eq_getElem?_getD,yB hi']; exact h _ (List.getElem_mem hi')
def zie {pins:yyL} {σ:St} {H:Hp} {s:Shared} {a:Addr} {bs:List Bool} (hc:X.calm=true) (I:Inv X pins σ H s) (hq:SqL X.K H a (bs.map V.bl)) {E:Value->Shared->Prop} (R:Bool->Bool->Prop) (f:(Nat->Bool)->List Nat->Bool) {Q:Value->Shared->Prop}
  (fin:∀ h' tk,Inv X pins σ H { s with heap:=h',toks:=tk }->Q (.bool (f (fun i=>bs.getD i false) (List.range bs.length))) { s with heap:=h',toks:=tk }) :
  wpAny (model X.prog X.w) X.A.in1 (pyIter (.ref a)) (fun it s₂=>∃ I fp wr n P St tr,it=.ref I/\Walks X.prog X.w X.A.in1 I fp wr n P St/\St 0 s₂.heap/\TruthOf X.prog X.w X.A.in1 P tr /\
   ∀ h' tk,(∀ b o,b ∉ wr->s₂.heap.get? b=some o->h'.get? b=some o)->Q (.bool (f tr (List.range n))) { s₂ with heap:=h',toks:=tk }) E s:=by
 obtain ⟨its,rv,p,hz⟩:=I.list hq
 have hlen:its.length=bs.length:=by have:=rv.length; rw [yE] at this; exact this.symm
 have hne:a≠s.heap.objs.size:=by
  obtain ⟨o,ho,_⟩:=p.isList; exact yP (yH ho)
 refine wpAny_pyIter_list p.isList ?_
 refine ⟨s.heap.objs.size,_,_,_,_,_,fun i=>bs.getD i false,rfl,Walks.list (show X.A.in1.handled=none from I.ok.hd hc) s.heap.objs.size a hne its.toArray,⟨⟨_,yI _ rfl,rfl,rfl⟩,p.isList.at fun o e=>yC _ e⟩,?_,?_⟩
 ·intro i v s' Q' E' hP hQ
  have hv:its[i]?=some v:=by simpa using hP
  rw [zls rv hv]; exact wpAny_truthy_bool hQ
 ·intro h' tk kp
  have z:=fin h' tk (I.kept (t':=tk) fun b o e=>kp b o (by simp; exact yP (yH e)) (yC _ e))
  have e:its.toArray.size=bs.length:=by simpa using hlen
  rw [e]; exact z
def zeJ (hc:X.calm=true):zcp X (.builtin "all") (fun xs H Q=>∃ (a:Addr) (bs:List Bool),xs=[.ref a]/\SqL X.K H a (bs.map V.bl)/\Q (.bl (bs.all id)) H):=by
 intro pins s σ H xs us Q I r h; obtain ⟨a,bs,rfl,hq,q⟩:=h; obtain ⟨u,rfl,rx⟩:=zdh r; cases rx
 refine PySem.call_all_walk (zie hc I hq (fun _ _=>True) (fun tr l=>l.all tr) fun h' tk I'=>⟨.bl _,H,I',rfl,?_⟩)
 rw [zjP]; exact q
def ziK (r:Addr) (a b:Int) (t u v:Tok) (i:Int) (t':Tok):Meets (Builtin.«range.__contains__» ⟨[.ref r,.int i t'],[]⟩) (fun _ R s=>s.heap.get? r=some { cls:=.type "range",dict:=none,data:=.fields #[.int a t,.int b u,.int 1 v],slots:=#[] } /\
  R (.ok (.ret (.bool (Builtin.Range.rangePlace? a b 1 i).isSome))) s) :=
 .of_wp fun prog w A R s h=>by obtain ⟨hp,g,d,tk,os⟩:=s; obtain ⟨hl,h⟩:=h; wp_walk; exact ⟨_,rfl,h⟩
def zhV (a b i:Int):(Builtin.Range.rangePlace? a b 1 i).isSome=decide (a<=i/\i<b):=by
 unfold Builtin.Range.rangePlace?
 have h1:(1:Int) > 0:=by decide
 have h2:(i-a) % 1=0:=Int.emod_one _
 simp only [h1,if_true,h2,beq_self_eq_true,Bool.and_true]
 by_cases h:a<=i/\i<b
 ·have e:(decide (a<=i) && decide (i<b))=true:=by simp [h.1,h.2]
  rw [yW e,YC h]; rfl
 ·have e:¬ (decide (a<=i) && decide (i<b))=true:=by
   intro z; simp only [YQ,decide_eq_true_eq] at z; exact h z
  rw [yS e,yY h]; rfl
def zsr (neg:Bool):R2:=fun x y H Q=>∃ i p lo hi,x=.int i/\y=.ref p/\Rd H p (.rng lo hi)/\Q (.bl (if neg then !decide (lo<=i/\i<hi) else decide (lo<=i/\i<hi))) H
def zfS:OpR X (compareOp .NotIn) (zsr true):=by
 intro pins s σ H x y v u Q I rx ry h; obtain ⟨i,p,lo,hi,rfl,rfl,hp,q⟩:=h; obtain ⟨t,rfl⟩:=rx; cases ry; obtain ⟨t1,t2,t3,e⟩:=hp.ok I.hok; refine PySem.SeqRoads2.notIn_meets ⟨_,e,rfl⟩ F.slot_range_contains F.entry_range_contains (F.args_range_contains_2 _ _) (ziK p lo hi t1 t2 t3 i t) ⟨e,_,rfl,⟨.bl _,H,I,rfl,?_⟩⟩; rw [zhV]; exact q
def zpK (K:W.Frag) (H:Hp):V->String->Prop
 | .non,t=>t="NoneType"
 | .bl _,t=>t="bool"
 | .int _,t=>t="int"
 | .str _,t=>t="str"
 | .ref a,t=>(t="list"/\∃ xs,SqL K H a xs)\/(t="tuple"/\∃ xs,SqT K H a xs)\/(t="dict"/\((∃ kvs,Rd H a (.dK kvs))\/∃ kvs,Rd H a (.dT kvs)))
 | _,_=>False
end
end L2
namespace PL
open PySem L2
section
def zeo {g:Int->Int->V} (g':Int->Int->D) (hg:∀ i j Hi,Den K Hi (g i j) (g' i j)):zgn K (rI0 g) (fun x y Q=>∃ i j,x=.int i/\y=.int j/\Q (g' i j)):=by
 rintro Hi H x y dx dy Q Q2 s d1 d2 ⟨i,j,rfl,rfl,q⟩ fin
 exact ⟨i,j,d1.intI,d2.intI,fin Hi H _ _ (Ext.refl s) (hg i j Hi) q⟩
def zhn {C:Int->Int->Prop} {g:Int->Int->V} (g':Int->Int->D) (hg:∀ i j Hi,Den K Hi (g i j) (g' i j)):zgn K (rI C g) (fun x y Q=>∃ i j,x=.int i/\y=.int j/\C i j/\Q (g' i j)):=by
 rintro Hi H x y dx dy Q Q2 s d1 d2 ⟨i,j,rfl,rfl,c,q⟩ fin
 exact ⟨i,j,d1.intI,d2.intI,c,fin Hi H _ _ (Ext.refl s) (hg i j Hi) q⟩
def zlL (g:Int->Int->D):R2':=fun x y Q=>∃ i j,x=.int i/\y=.int j/\Q (g i j)
def rI' (C:Int->Int->Prop) (g:Int->Int->D):R2':=fun x y Q=>∃ i j,x=.int i/\y=.int j/\C i j/\Q (g i j)
def zrd:Op2 X (binaryOp .Add) (zlL fun i j=>.int (i+j)):=⟨_,zo0,zeo _ fun i j _=>.int _⟩
def zfY:Op2 X (binaryOp .Sub) (zlL fun i j=>.int (i-j)):=⟨_,zoU,zeo _ fun i j _=>.int _⟩
def zra:Op2 X (binaryOp .Mult) (rI' zjW fun i j=>.int (i * j)):=⟨_,zoW,zhn _ fun i j _=>.int _⟩
def zcR:Op2 X (binaryOp .FloorDiv) (rI' zlx fun i j=>.int (i / j)):=⟨_,zm8,zhn _ fun i j _=>.int _⟩
def zb1:Op2 X (binaryOp .Mod) (rI' (fun _ j=>0<j) fun i j=>.int (i % j)):=⟨_,zoX,zhn _ fun i j _=>.int _⟩
def zo4:Op2 X (compareOp .Lt) (zlL fun i j=>.bl (decide (i<j))):=⟨_,zq4,zeo _ fun i j _=>.bl _⟩
def zrV:Op2 X (compareOp .LtE) (zlL fun i j=>.bl (decide (i<=j))):=⟨_,zq5,zeo _ fun i j _=>.bl _⟩
def zqc:Op2 X (compareOp .Gt) (zlL fun i j=>.bl (decide (j<i))):=⟨_,zq6,zeo _ fun i j _=>.bl _⟩
def zhS:R2':=fun x y Q=>∃ l m,x=.str l/\y=.str m/\l.length+m.length<=sizeLine/\Q (.str (l ++ m))
def zo7:Op2 X (binaryOp .Add) zhS:=⟨_,zhX,by
 rintro Hi H x y dx dy Q Q2 s d1 d2 ⟨l,m,rfl,rfl,hl,q⟩ fin
 refine ⟨_,_,d1.strI,d2.strI,by rw [zcD,zcD]; exact hl,?_⟩
 rw [zod]; exact fin Hi H _ _ (Ext.refl s) (.str _) q⟩
def eqS:D->D->Option Bool
 | .non,.non=>some true
 | .non,.int _=>some false
 | .non,.bl _=>some false
 | .non,.str _=>some false
 | .int _,.non=>some false
 | .bl _,.non=>some false
 | .str _,.non=>some false
 | .int i,.int j=>some (decide (i=j))
 | .bl i,.bl j=>some (decide (i=j))
 | .str i,.str j=>some (decide (i=j))
 | .int _,.str _=>some false
 | .str _,.int _=>some false
 | .bl _,.str _=>some false
 | .str _,.bl _=>some false
 | _,_=>none
inductive Scl (K:W.Frag) (Hi:Hp) (x:V):D->Prop where
 | n (h:x=.non):Scl K Hi x .non
 | b (b:Bool) (h:x=.bl b):Scl K Hi x (.bl b)
 | i (i:Int) (h:x=.int i):Scl K Hi x (.int i)
 | s (l:List Nat) (h:x=.str (st l)):Scl K Hi x (.str l)
def zdw {dx dy:D} {b:Bool} (h:eqS dx dy=some b):dx=.non\/(∃ b,dx=.bl b)\/(∃ i,dx=.int i)\/∃ l,dx=.str l:=by
 cases dx with
 | non=>exact .inl rfl
 | bl b=>exact .inr (.inl ⟨b,rfl⟩)
 | int i=>exact .inr (.inr (.inl ⟨i,rfl⟩))
 | str l=>exact .inr (.inr (.inr ⟨l,rfl⟩))
 | _=>cases dy <;> exact nomatch h
def zjs (dx dy:D) {b:Bool} (h:eqS dx dy=some b):∃ c,eqS dy dx=some c:=by
 rcases zdw h with rfl | ⟨i,rfl⟩ | ⟨i,rfl⟩ | ⟨i,rfl⟩ <;> cases dy <;> first | exact ⟨_,rfl⟩ | exact nomatch h
def Den.scl {Hi:Hp} {x:V} {d:D} (d1:Den K Hi x d) (h:d=.non\/(∃ b,d=.bl b)\/(∃ i,d=.int i)\/∃ l,d=.str l):Scl K Hi x d:=by
 rcases h with rfl | ⟨i,rfl⟩ | ⟨i,rfl⟩ | ⟨i,rfl⟩
 ·exact .n d1.nonI
 ·exact .b _ d1.blI
 ·exact .i _ d1.intI
 ·exact .s _ d1.strI
def zmb {Hi:Hp} {x y:V} {dx dy:D} {b:Bool} (d1:Den K Hi x dx) (d2:Den K Hi y dy) (h:eqS dx dy=some b):zmA x y=true/\decide (x=y)=b:=by
  have s1:=d1.scl (zdw h); have s2:=d2.scl (zdw (zjs _ _ h).choose_spec)
  cases s1 <;> rename_i e1 <;> subst e1 <;> cases s2 <;> rename_i e2 <;> subst e2 <;> first
    | (exact yU (show (none:Option Bool)=some b from h) (fun z=>nomatch z))
    | (refine ⟨rfl,?_⟩
       have h':=Option.some.inj h
       subst h'
       first
         | rfl
         | (exact decide_eq_decide.mpr ⟨fun z=>V.int.inj z,fun z=>yg V.int z⟩)
         | (exact decide_eq_decide.mpr ⟨fun z=>V.bl.inj z,fun z=>yg V.bl z⟩)
         | (exact decide_eq_decide.mpr ⟨fun z=>zlD (V.str.inj z),fun z=>yg (fun l=>V.str (st l)) z⟩)
         | (exact yY (fun z=>nomatch z)))
def zlK (neg:Bool):R2':=fun x y Q=>∃ c l,x=.str [c]/\y=.str l/\Q (.bl (if neg then !decide (c ∈ l) else decide (c ∈ l)))
def zrc:Op2 X (compareOp .In) (zlK false):=⟨_,zi5,by
 rintro Hi H x y dx dy Q Q2 s d1 d2 ⟨c,l,rfl,rfl,q⟩ fin
 refine ⟨_,_,d1.strI,d2.strI,?_⟩; rw [zl8]; exact fin Hi H _ _ (Ext.refl s) (.bl _) q⟩
def zkN:Op2 X (compareOp .NotIn) (zlK true):=⟨_,zfQ,by
 rintro Hi H x y dx dy Q Q2 s d1 d2 ⟨c,l,rfl,rfl,q⟩ fin
 refine ⟨_,_,d1.strI,d2.strI,?_⟩; rw [zl8]; exact fin Hi H _ _ (Ext.refl s) (.bl _) q⟩
def zkv (neg:Bool):R2':=fun x y Q=>∃ i lo hi,x=.int i/\y=.rng lo hi/\Q (.bl (if neg then !decide (lo<=i/\i<hi) else decide (lo<=i/\i<hi)))
def zkO:Op2 X (compareOp .NotIn) (zkv true):=⟨_,zfS,by
 rintro Hi H x y dx dy Q Q2 s d1 d2 ⟨i,lo,hi,rfl,rfl,q⟩ fin
 cases d2 with
 | rng h=>exact ⟨i,_,lo,hi,d1.intI,rfl,zdJ s.sub h,fin Hi H _ _ (Ext.refl s) (.bl _) q⟩⟩
def zlJ (neg:Bool):R2':=fun x y Q=>y=.non/\∃ b:Bool,(b=true↔x=.non)/\Q (.bl (if neg then !b else b))
def zo5:Op2 X (compareOp .Is) (zlJ false):=⟨_,zoY,by
 rintro Hi H x y dx dy Q Q2 s d1 d2 ⟨rfl,b,e,q⟩ fin
 refine ⟨d2.nonI,?_⟩
 have z:decide (x=.non)=b:=by
  rw [Bool.eq_iff_iff,e,decide_eq_true_eq]; exact d1.non_iff
 rw [z]; exact fin Hi H _ _ (Ext.refl s) (.bl _) q⟩
def zjX:R2':=fun x y Q=>∃ i,y=.int i/\((∃ ds d,x=.lst ds/\atI ds i=some d/\Q d)\/(∃ ds d,x=.tup ds/\atI ds i=some d/\Q d)\/∃ l c,x=.str l/\l.length<=sizeLine/\atI l i=some c/\Q (.str [c]))
def zjO {Hi:Hp} {vs:List V} {ds:List D} {i:Int} {d:D} (r:zb4 K Hi vs ds) (h:atI ds i=some d):∃ v,atI vs i=some v/\Den K Hi v d:=by
 unfold atI at h ⊢
 rw [zm r]
 cases e:ixN ds.length i with
 | none=>rw [e] at h; cases h
 | some j =>
  rw [e] at h
  obtain ⟨v,h1,h2⟩:=zaV r (show ds[j]?=some d from h)
  exact ⟨v,h1,h2⟩
def zri:Ixs X zjX:=⟨_,zpj,by
 rintro Hi H x y dx dy Q Q2 s d1 d2 ⟨i,rfl,h⟩ fin
 rcases h with ⟨ds,d,rfl,e,q⟩ | ⟨ds,d,rfl,e,q⟩ | ⟨l,c,rfl,hl,e,q⟩
 ·obtain ⟨a,vs,rfl,h1,h2⟩:=d1.lstI
  obtain ⟨v,h3,h4⟩:=zjO h2 e; exact .inl ⟨a,vs,i,v,rfl,d2.intI,zab s.sub h1,h3,fin Hi H _ _ (Ext.refl s) h4 q⟩
 ·obtain ⟨a,vs,rfl,h1,h2⟩:=d1.tupI
  obtain ⟨v,h3,h4⟩:=zjO h2 e; exact .inr (.inl ⟨a,vs,i,v,rfl,d2.intI,zaj s.sub h1,h3,fin Hi H _ _ (Ext.refl s) h4 q⟩)
 ·refine .inr (.inr ⟨_,i,c,d1.strI,d2.intI,by rw [zcD]; exact hl,by rw [zcb]; exact e,fin Hi H _ _ (Ext.refl s) (.str [c]) q⟩)⟩
def zex {α:Type} (xs:List α) (lo hi:Option Int):List α:=(xs.drop (HT.sIx xs.length 0 lo)).take (HT.sIx xs.length xs.length hi-HT.sIx xs.length 0 lo)
def zkr:RS':=fun x lo hi Q=>∃ l,x=.str l/\l.length<=sizeLine/\((lo=none/\∃ n,hi=some n/\0<=n/\Q (.str (l.take n.toNat)))\/(hi=none/\∃ n,lo=some n/\0<=n/\Q (.str (l.drop n.toNat))))
def zqM:Sli X zkr:=⟨_,zoh,by
 rintro Hi H x dx lo hi Q Q2 s d1 ⟨l,rfl,hl,h⟩ fin
 refine ⟨st l,d1.strI,by rw [zcD]; exact hl,?_⟩
 rcases h with ⟨rfl,n,rfl,hn,q⟩ | ⟨rfl,n,rfl,hn,q⟩
 ·obtain ⟨m,rfl⟩:=yp hn
  rw [zki]; exact fin Hi H _ _ (Ext.refl s) (.str _) q
 ·obtain ⟨m,rfl⟩:=yp hn
  rw [zhJ]; exact fin Hi H _ _ (Ext.refl s) (.str _) q⟩
def zhP:RS':=fun x lo hi Q=>∃ ds,x=.tup ds/\Q (.tup (zex ds lo hi))
def zks:RS':=fun x lo hi Q=>∃ ds,x=.lst ds/\Q (.lst (zex ds lo hi))
def zjE {Hi:Hp} {vs:List V} {ds:List D} {lo hi:Option Int} (r:zb4 K Hi vs ds):zb4 K Hi (zjF vs lo hi) (zex ds lo hi):=by
 unfold zjF zex; rw [zm r]; exact zej _ (zek _ r)
def zoj:Sli X zks:=⟨_,zmy,by
 rintro Hi H x dx lo hi Q Q2 s d1 ⟨ds,rfl,q⟩ fin
 obtain ⟨a,vs,rfl,h1,h2⟩:=d1.lstI
 refine ⟨a,vs,rfl,zab s.sub h1,fun p hp=>?_⟩
 have e:=Ext.new s hp (.lst (zjF vs lo hi)); exact fin _ _ _ _ e (Den.mkL (SqL.of zo) (zjE (h2.mono e.hi))) q⟩
def zeD:RC':=fun ds Q=>∃ d,ds=[d]/\((∃ l,d=.str l/\l.length<=sizeLine/\Q (.int (l.length:Nat)))\/(∃ es,d=.lst es/\Q (.int (es.length:Nat)))\/∃ es,d=.tup es/\Q (.int (es.length:Nat)))
def zrz:Cal X (.builtin "len") zeD:=⟨_,zgg.or zgh,by
 rintro Hi H vs ds Q Q2 s dl ⟨d,rfl,h⟩ fin
 obtain ⟨v,rfl,den⟩:=zde dl
 rcases h with ⟨l,rfl,hl,q⟩ | ⟨es,rfl,q⟩ | ⟨es,rfl,q⟩
 ·refine .inl ⟨_,by rw [den.strI],by rw [zcD]; exact hl,?_⟩
  rw [zcD]; exact fin Hi H _ _ (Ext.refl s) (.int _) q
 ·obtain ⟨a,us,rfl,h1,h2⟩:=den.lstI
  refine .inr ⟨a,us,rfl,.inl (zab s.sub h1),?_⟩; rw [zm h2]; exact fin Hi H _ _ (Ext.refl s) (.int _) q
 ·obtain ⟨a,us,rfl,h1,h2⟩:=den.tupI
  refine .inr ⟨a,us,rfl,.inr (zaj s.sub h1),?_⟩; rw [zm h2]; exact fin Hi H _ _ (Ext.refl s) (.int _) q⟩
def ziN:RC':=fun ds Q=>∃ l n,ds=[.str l]/\PySem.intText? (st l)=some n/\l.length<=640/\Q (.int n)
def zrA:Cal X (.type "int") ziN:=⟨_,zgi,by
 rintro Hi H vs ds Q Q2 s dl ⟨l,n,rfl,e,hl,q⟩ fin
 obtain ⟨v,rfl,den⟩:=zde dl
 exact ⟨_,n,by rw [den.strI],e,by rw [zcD]; exact hl,fin Hi H _ _ (Ext.refl s) (.int _) q⟩⟩
def znd (i:Int):List Nat:=(Str.ofString (toString i)).cps.toList
def zmI:RC':=fun ds Q=>∃ i,ds=[.int i]/\i.natAbs.log2<1920/\Q (.str (znd i))
def zry:Cal X (.type "str") zmI:=⟨_,zgf,by
 rintro Hi H vs ds Q Q2 s dl ⟨i,rfl,hl,q⟩ fin
 obtain ⟨v,rfl,den⟩:=zde dl
 refine ⟨i,by rw [den.intI],hl,?_⟩
 refine fin Hi H _ (.str (znd i)) (Ext.refl s) ?_ q
 have e:(V.str (toString i))=.str (st (znd i)):=by
  unfold znd; rw [<- zqK]
 rw [e]; exact .str _⟩
def zrT:RC':=fun ds Q=>∃ bs:List Bool,ds=[.lst (bs.map .bl)]/\Q (.bl (bs.all id))
theorem zgb {Hi:Hp}:∀ {vs:List V} {bs:List Bool},zb4 K Hi vs (bs.map .bl)->vs=bs.map .bl
 | _,[],h=>by cases h; rfl
 | _,b :: bs,h=>by
  cases h with
  | cons r t=>rw [r.blI,zgb t]; rfl
def zrB (hc:X.calm=true):Cal X (.builtin "all") zrT:=⟨_,zeJ hc,by
 rintro Hi H vs ds Q Q2 s dl ⟨bs,rfl,q⟩ fin
 obtain ⟨v,rfl,den⟩:=zde dl; obtain ⟨a,us,rfl,h1,h2⟩:=den.lstI; rw [zgb h2] at h1; exact ⟨a,bs,rfl,zab s.sub h1,fin Hi H _ _ (Ext.refl s) (.bl _) q⟩⟩
def ziL:RC':=fun ds Q=>∃ d es,ds=[d]/\(d=.lst es\/d=.tup es)/\Q (.tup es)
def znK:Cal X (.type "tuple") ziL:=⟨_,zfw,by
 rintro Hi H vs ds Q Q2 s dl ⟨d,es,rfl,h,q⟩ fin
 obtain ⟨v,rfl,den⟩:=zde dl
 rcases h with rfl | rfl
 ·obtain ⟨a,us,rfl,h1,h2⟩:=den.lstI
  refine ⟨a,us,rfl,.inl ⟨zab s.sub h1,fun l hl=>?_⟩⟩
  have e:=Ext.new s hl (.tup us); exact fin _ _ _ _ e (Den.mkT zo (h2.mono e.hi)) q
 ·obtain ⟨a,us,rfl,h1,h2⟩:=den.tupI
  exact ⟨a,us,rfl,.inr ⟨zaj s.sub h1,fin Hi H _ _ (Ext.refl s) den q⟩⟩⟩
def znr:D->Option String
 | .non=>some "NoneType"
 | .bl _=>some "bool"
 | .int _=>some "int"
 | .str _=>some "str"
 | .lst _=>some "list"
 | .tup _=>some "tuple"
 | .dic _=>some "dict"
 | _=>none
def zld {Hi H:Hp} {x:V} {d:D} {t:String} (s:zaR Hi H) (den:Den K Hi x d) (h:znr d=some t):zpK K H x t:=by
 cases den with
 | non=>exact (Option.some.inj h).symm
 | bl b=>exact (Option.some.inj h).symm
 | int i=>exact (Option.some.inj h).symm
 | str l=>exact (Option.some.inj h).symm
 | ty n=>cases h
 | adr b=>cases h
 | rng h'=>cases h
 | tup hq l r=>exact .inr (.inl ⟨(Option.some.inj h).symm,_,SqT.of (s _ _ hq)⟩)
 | lst hq l r=>exact .inl ⟨(Option.some.inj h).symm,_,zab s hq⟩
 | dicK hq l r r2=>exact .inr (.inr ⟨(Option.some.inj h).symm,.inl ⟨_,zdJ s hq⟩⟩)
 | dicT hq l r r2=>cases h
 | cls C=>cases h
 | obj hq l r r2=>cases h
 | excN hq=>cases h
 | exc hq h2 l r r2=>cases h
end
section
variable {a b c:Expr} {pos:Pos} {ta tb tc:TE'}
def zu (r r':R2') (ta tb tc:TE'):TE':=fun Γ Q=>ta Γ fun x Γ1=>tb Γ1 fun y Γ2=>r x y fun z=>∃ k,z=.bl k/\(if k=true then tc Γ2 fun w Γ3=>r' y w fun d=>Q d Γ3 else Q (.bl false) Γ2)
def ziy {K:W.Frag} {n:Nat} {r s:R2} {r' s':R2'} {σ:St} {H:Hp} {Q:VK} (l:zgn K r r') (l2:zgn K s s') (h:tOf K n (zu r' s' ta tb tc) σ H Q):zlB r s (tOf K n ta) (tOf K n tb) (tOf K n tc) σ H Q:=by
 obtain ⟨W,Hi,Γ,Q',g,h,fin⟩:=h; refine ⟨W,Hi,Γ,_,g,h,?_⟩
 rintro x H1 ⟨Hi1,dx,Γ1,s1,g1,den1,h1⟩
 refine ⟨W,Hi1,Γ1,_,g1,h1,?_⟩
 rintro y H2 ⟨Hi2,dy,Γ2,s2,g2,den2,h2⟩
 refine l Hi2 H2 x y dx dy _ _ g2.fz (den1.mono s2) den2 h2 ?_
 rintro Hi3 H3 v d e den ⟨k,rfl,q⟩
 refine ⟨k,den.blI,?_⟩
 cases k with
 | false=>exact fin _ H3 ⟨Hi3,_,Γ2,s1.trans (s2.trans e.hi),g2.ext e,.bl false,q⟩
 | true =>
  refine ⟨W,Hi3,Γ2,_,g2.ext e,q,?_⟩
  rintro w H4 ⟨Hi4,dw,Γ4,s4,g4,den4,q4⟩
  refine l2 Hi4 H4 y w dy dw _ _ g4.fz (den2.mono (e.hi.trans s4)) den4 q4 ?_; intro Hi5 H5 v5 d5 e5 den5 q5; exact fin _ H5 ⟨Hi5,d5,Γ4,s1.trans (s2.trans (e.hi.trans (s4.trans e5.hi))),g4.ext e5,den5,q5⟩
def zi4 {op op':CmpOp} {r r':R2'} (ho:Op2 X (compareOp op) r) (ho':Op2 X (compareOp op') r') (ha:PE' X a ta) (hb:PE' X b tb) (hc:PE' X c tc)
  (hm:lastMarks [op,op'] [b,c]=false:=by with_unfolding_all rfl):PE' X (.Compare a [op,op'] [b,c] pos) (zu r r' ta tb tc):=by
 obtain ⟨q,h1,l1⟩:=ho.ex; obtain ⟨q',h2,l2⟩:=ho'.ex
 exact ⟨PE.weak (zkG h1 h2 ha.h hb.h hc.h hm) fun σ H Q z=>ziy l1 l2 z⟩
def zfP:R2':=fun x y Q=>(∃ i j,x=.int i/\y=.int j/\Q (.int (i+j)))\/zhS x y Q
def zre:Op2 X (binaryOp .Add) zfP:=zrd.or zo7
def zfa:R2':=fun x y Q=>zlK true x y Q\/zkv true x y Q
def znc:Op2 X (compareOp .NotIn) zfa:=zkN.or zkO
end
structure Df (K:W.Frag) (mg:Str->Option Value) (x:Str) (st:Stmt) (ps:List Str):Prop where
 ex:∃ f fd,Fun K x x st f fd/\zbk K fd ps []/\mg x=some (.ref f)
structure Fn (P:Program) (w:World) (K:W.Frag) (mg:Str->Option Value) (base:Heap) (k:Nat) (x:Str) (ps:List Str) (sp:Sp'):Prop where
 ex:∃ f fd,FnOk P w K mg base CX0 k f fd ps (zij K sp)/\zbk K fd ps []/\W.keepIn K (.ref f)=true/\mg x=some (.ref f)/\∃ oc od osl,K.lookup f=some ⟨oc,od,.func fd,osl⟩
section
variable {k:Nat} {x:Str} {ps:List Str} {sp:Sp'}
def Df.ok {st:Stmt} {N:List Str} (d:Df K mg x st ps) (S:FnScope N ps (zk st)) (len:∀ ds Q,sp ds Q->ds.length=ps.length)
  (hbody:∀ (f:Addr) (cdv:Value) (A:Around) (outer:List Env) (s:Shared) (H:Hp) (E:XK),Room k (A.deeper (PyProof.Rows.envOfC x (zk st) s.heap.objs.size f cdv))->∀ ds Q,sp ds Q ->
   ∃ t,PSs' (zd8 CX0 P w K mg base N x (zk st) f cdv A outer s H E).nox (zaO st) t/\t { nx:=fun _=>Q (.val .non),rt:=fun r _=>Q r } (zca N ds)):Fn P w K mg base (k+1) x ps sp:=by
 obtain ⟨f,fd,F,b,m⟩:=d.ex; obtain ⟨oc,od,kV,doc,pm,an,cdv,ct,osl,e,lk,_⟩:=F.ex; exact ⟨f,fd,PL.Fun.ok' F S len (hbody f),b,F.kp,m,oc,od,osl,lk⟩
end
section
variable {k:Nat} {x:Str} {ps:List Str} {sp:Sp'} {p pos:Pos} {e:Expr} {es:List Expr} {t:TA'}
def zbe (h:Fn X.prog X.w X.K X.mg X.base k x ps sp) (hr:Room k X.A) (ha:PA' X (e :: es) t) (hg:Gl X x:=by rfl) (hdb:yyD x:=by decide) :
  PE' X (.Call (.Name x p) (e :: es) [] pos) (zI sp t):=by
 obtain ⟨f,fd,F,b,kp,m,_⟩:=h.ex; exact zkJ F hr m kp b ha hg hdb
end
section
variable {pos:Pos}
def zmJ:RS':=fun x lo hi Q=>zkr x lo hi Q\/zks x lo hi Q
def zsm:Sli X zmJ:=zqM.or zoj
end
@[simp] theorem ex2 {α β:Type} {x:α} {y:β} {P:α->β->Prop}:(∃ a b,(x=a/\y=b)/\P a b)↔P x y:=⟨fun ⟨_,_,⟨e1,e2⟩,h⟩=>e1 ▸ e2 ▸ h,fun h=>⟨x,y,⟨rfl,rfl⟩,h⟩⟩
@[simp] theorem ex3 {α β γ:Type} {x:α} {y:β} {z:γ} {P:α->β->γ->Prop}:(∃ a b c,(x=a/\y=b/\z=c)/\P a b c)↔P x y z:=⟨fun ⟨_,_,_,⟨e1,e2,e3⟩,h⟩=>e1 ▸ e2 ▸ e3 ▸ h,fun h=>⟨x,y,z,⟨rfl,rfl,rfl⟩,h⟩⟩
@[simp] theorem zqz (d:D):(Res.val d).toD=d:=rfl
@[simp] theorem zqA (o:OD):(Res.own o).toD=o.toD:=rfl
@[simp] theorem zrH (d:D->D) (o:OD):(Res.bk d o).toD=d o.toD:=rfl
@[simp] theorem zrW (l:List D):(OD.lst l).toD=.lst l:=rfl
@[simp] theorem zrY (l:List (D × D)):(OD.dic l).toD=.dic l:=rfl
@[simp] theorem zrX (l:List (D × D)):(OD.dit l).toD=.dit l:=rfl
@[simp] theorem zoc (N:List Str) (ds:List D):zca N ds=ds.map .val ++ List.replicate (N.length-ds.length) .emp:=rfl
@[simp] theorem zqt (d:D):voS (.val d)=.val d:=rfl
@[simp] theorem zqv:voS .emp=.emp:=rfl
@[simp] theorem zqu (o:OD):voS (.own o)=.emp:=rfl
@[simp] theorem zrG:vo []=[]:=rfl
@[simp] theorem zqs (s:Slot) (Γ:Sts):vo (s :: Γ)=voS s :: vo Γ:=rfl
@[simp] theorem zpT (ds:List D):zoi (.lst ds)=some ds:=rfl
@[simp] theorem zpQ (ds:List D):zoi (.tup ds)=some ds:=rfl
@[simp] theorem zpR (l:List Nat):zoi (.str l)=some (l.map fun c=>.str [c]):=rfl
@[simp] theorem zrC (Γ:Sts):zj4 [] Γ=[]:=rfl
@[simp] theorem zqg (src:List (Option Nat)) (Γ:Sts):zj4 (none :: src) Γ=.emp :: zj4 src Γ:=rfl
@[simp] theorem zqf (i:Nat) (src:List (Option Nat)) (Γ:Sts):zj4 (some i :: src) Γ=(match Γ[i]? with | some (.val d)=>.val d | _=>.emp) :: zj4 src Γ:=rfl
@[simp] theorem zps (g:TG') (tc:TT') (te:TE') (Q:List D->Prop) (acc:List D) (Γ:Sts):zc2 g tc te Q [] acc Γ↔Q acc:=Iff.rfl
@[simp] theorem zqd (g:TG') (tb:TS') (N:Ends') (Γ:Sts):zeK g tb N [] Γ↔N.nx Γ:=Iff.rfl
section
variable {Q:D->Prop}
@[simp] theorem zrS (g:Int->Int->D) (i j:Int):zlL g (.int i) (.int j) Q↔Q (g i j):=by simp [zlL]
@[simp] theorem zss (C:Int->Int->Prop) (g:Int->Int->D) (i j:Int):rI' C g (.int i) (.int j) Q↔C i j/\Q (g i j):=by simp [rI']
@[simp] theorem zqb (i j:Int):zfP (.int i) (.int j) Q↔Q (.int (i+j)):=by simp [zfP,zhS]
@[simp] theorem zqa (l m:List Nat):zfP (.str l) (.str m) Q↔l.length+m.length<=sizeLine/\Q (.str (l ++ m)):=by simp [zfP,zhS]
@[simp] theorem zrt (i j:Int):eqS (.int i) (.int j)=some (decide (i=j)):=rfl
@[simp] theorem zrr (i j:List Nat):eqS (.str i) (.str j)=some (decide (i=j)):=rfl
@[simp] theorem zr1 (i j:Bool):eqS (.bl i) (.bl j)=some (decide (i=j)):=rfl
@[simp] theorem zrs:eqS .non .non=some true:=rfl
@[simp] theorem znB (i:List Nat):eqS .non (.str i)=some false:=rfl
@[simp] theorem znC (i:Int):eqS .non (.int i)=some false:=rfl
@[simp] theorem znA (i:List Nat):eqS (.str i) .non=some false:=rfl
@[simp] theorem znD (i:Int):eqS (.int i) .non=some false:=rfl
@[simp] theorem zqX (c:Nat) (l:List Nat):zlK false (.str [c]) (.str l) Q↔Q (.bl (decide (c ∈ l))):=by simp [zlK]
@[simp] theorem zqW (ds:List D) (i:Int):zjX (.lst ds) (.int i) Q↔∃ d,atI ds i=some d/\Q d:=by simp [zjX]
@[simp] theorem zqU (ds:List D) (i:Int):zjX (.tup ds) (.int i) Q↔∃ d,atI ds i=some d/\Q d:=by simp [zjX]
@[simp] theorem zqV (l:List Nat) (i:Int):zjX (.str l) (.int i) Q↔l.length<=sizeLine/\∃ c,atI l i=some c/\Q (.str [c]):=by simp [zjX]
@[simp] theorem zqS (ds:List D) (lo hi:Option Int):zmJ (.lst ds) lo hi Q↔Q (.lst (zex ds lo hi)):=by simp [zmJ,zkr,zks]
@[simp] theorem zp2 (l:List Nat):zeD [.str l] Q↔l.length<=sizeLine/\Q (.int (l.length:Nat)):=by simp [zeD]
@[simp] theorem zp3 (l:List D):zeD [.lst l] Q↔Q (.int (l.length:Nat)):=by simp [zeD]
@[simp] theorem zp1 (l:List D):zeD [.tup l] Q↔Q (.int (l.length:Nat)):=by simp [zeD]
@[simp] theorem zqR (i:Int):zmI [.int i] Q↔i.natAbs.log2<1920/\Q (.str (znd i)):=by simp [zmI]
@[simp] theorem zpW (ds:List D):ziL [.lst ds] Q↔Q (.tup ds):=by simp [ziL]
@[simp] theorem zqw (l:List Nat):tyD "str" (.str l)↔True:=by simp [tyD]
def zmM {ds:List D} {bs:List Bool} (e:ds=bs.map .bl):zrT [.lst ds] Q↔Q (.bl (bs.all id)):=by
 subst e; constructor
 ·rintro ⟨cs,e,q⟩
  have e':bs.map D.bl=cs.map D.bl:=by simpa using e
  have:bs=cs:=(List.map_inj_right (fun a b h=>D.bl.inj h)).mp e'
  rw [this]; exact q
 ·intro q
  exact ⟨bs,rfl,q⟩
end
@[simp] theorem zik (K:W.Frag):W.kitOne K (.type "NoneType") (.type "str")=some false:=by rfl
@[simp] theorem zl4 (K:W.Frag):W.kitOne K (.type "bool") (.type "str")=some false:=by rfl
@[simp] theorem znp (K:W.Frag):W.kitOne K (.type "int") (.type "str")=some false:=by rfl
@[simp] theorem znn (K:W.Frag):W.kitOne K (.type "str") (.type "str")=some true:=by rfl
@[simp] theorem zlX (K:W.Frag):W.kitOne K (.type "list") (.type "str")=some false:=by rfl
@[simp] theorem zk0 (K:W.Frag):W.kitOne K (.type "tuple") (.type "str")=some false:=by rfl
@[simp] theorem zl2 (K:W.Frag):W.kitOne K (.type "dict") (.type "str")=some false:=by rfl
@[simp] theorem zh7 (K:W.Frag):W.kitOne K (.type "NoneType") (.type "bool")=some false:=by rfl
@[simp] theorem zlc (K:W.Frag):W.kitOne K (.type "bool") (.type "bool")=some true:=by rfl
@[simp] theorem zl1 (K:W.Frag):W.kitOne K (.type "int") (.type "bool")=some false:=by rfl
@[simp] theorem zlW (K:W.Frag):W.kitOne K (.type "str") (.type "bool")=some false:=by rfl
@[simp] theorem zk5 (K:W.Frag):W.kitOne K (.type "list") (.type "bool")=some false:=by rfl
@[simp] theorem zj0 (K:W.Frag):W.kitOne K (.type "tuple") (.type "bool")=some false:=by rfl
@[simp] theorem zk9 (K:W.Frag):W.kitOne K (.type "dict") (.type "bool")=some false:=by rfl
@[simp] theorem zil (K:W.Frag):W.kitOne K (.type "NoneType") (.type "int")=some false:=by rfl
@[simp] theorem zl5 (K:W.Frag):W.kitOne K (.type "bool") (.type "int")=some true:=by rfl
@[simp] theorem znq (K:W.Frag):W.kitOne K (.type "int") (.type "int")=some true:=by rfl
@[simp] theorem zno (K:W.Frag):W.kitOne K (.type "str") (.type "int")=some false:=by rfl
@[simp] theorem zlY (K:W.Frag):W.kitOne K (.type "list") (.type "int")=some false:=by rfl
@[simp] theorem zk1 (K:W.Frag):W.kitOne K (.type "tuple") (.type "int")=some false:=by rfl
@[simp] theorem zl3 (K:W.Frag):W.kitOne K (.type "dict") (.type "int")=some false:=by rfl
@[simp] theorem zh5 (K:W.Frag):W.kitOne K (.type "NoneType") (.type "list")=some false:=by rfl
@[simp] theorem zla (K:W.Frag):W.kitOne K (.type "bool") (.type "list")=some false:=by rfl
@[simp] theorem zlZ (K:W.Frag):W.kitOne K (.type "int") (.type "list")=some false:=by rfl
@[simp] theorem zlU (K:W.Frag):W.kitOne K (.type "str") (.type "list")=some false:=by rfl
@[simp] theorem zk3 (K:W.Frag):W.kitOne K (.type "list") (.type "list")=some true:=by rfl
@[simp] theorem zjY (K:W.Frag):W.kitOne K (.type "tuple") (.type "list")=some false:=by rfl
@[simp] theorem zk7 (K:W.Frag):W.kitOne K (.type "dict") (.type "list")=some false:=by rfl
@[simp] theorem zhp (K:W.Frag):W.kitOne K (.type "NoneType") (.type "tuple")=some false:=by rfl
@[simp] theorem zj3 (K:W.Frag):W.kitOne K (.type "bool") (.type "tuple")=some false:=by rfl
@[simp] theorem zk6 (K:W.Frag):W.kitOne K (.type "int") (.type "tuple")=some false:=by rfl
@[simp] theorem zk2 (K:W.Frag):W.kitOne K (.type "str") (.type "tuple")=some false:=by rfl
@[simp] theorem zj1 (K:W.Frag):W.kitOne K (.type "list") (.type "tuple")=some false:=by rfl
@[simp] theorem zjg (K:W.Frag):W.kitOne K (.type "tuple") (.type "tuple")=some true:=by rfl
@[simp] theorem zj2 (K:W.Frag):W.kitOne K (.type "dict") (.type "tuple")=some false:=by rfl
@[simp] theorem zh6 (K:W.Frag):W.kitOne K (.type "NoneType") (.type "dict")=some false:=by rfl
@[simp] theorem zlb (K:W.Frag):W.kitOne K (.type "bool") (.type "dict")=some false:=by rfl
@[simp] theorem zl0 (K:W.Frag):W.kitOne K (.type "int") (.type "dict")=some false:=by rfl
@[simp] theorem zlV (K:W.Frag):W.kitOne K (.type "str") (.type "dict")=some false:=by rfl
@[simp] theorem zk4 (K:W.Frag):W.kitOne K (.type "list") (.type "dict")=some false:=by rfl
@[simp] theorem zjZ (K:W.Frag):W.kitOne K (.type "tuple") (.type "dict")=some false:=by rfl
@[simp] theorem zk8 (K:W.Frag):W.kitOne K (.type "dict") (.type "dict")=some true:=by rfl
section
variable {Q:D->Prop}
end
class ME (t:TE'):Prop where
 mono:∀ Γ Q Q',(∀ d Γ',Q d Γ'->Q' d Γ')->t Γ Q->t Γ Q'
class MT (t:TT'):Prop where
 mono:∀ Γ Q Q',(∀ d Γ',Q d Γ'->Q' d Γ')->t Γ Q->t Γ Q'
class MA (t:TA'):Prop where
 mono:∀ Γ Q Q',(∀ d Γ',Q d Γ'->Q' d Γ')->t Γ Q->t Γ Q'
class MO (t:TO'):Prop where
 mono:∀ Γ Q Q',(∀ d Γ',Q d Γ'->Q' d Γ')->t Γ Q->t Γ Q'
class MP (t:TP'):Prop where
 mono:∀ Γ Q Q',(∀ d Γ',Q d Γ'->Q' d Γ')->t Γ Q->t Γ Q'
class MI (t:TI'):Prop where
 mono:∀ Γ Q Q',(∀ d Γ',Q d Γ'->Q' d Γ')->t Γ Q->t Γ Q'
class MG (g:TG'):Prop where
 mono:∀ d Γ Q Q',(∀ Γ',Q Γ'->Q' Γ')->g d Γ Q->g d Γ Q'
class MR2 (r:R2'):Prop where
 mono:∀ x y Q Q',(∀ d,Q d->Q' d)->r x y Q->r x y Q'
class MRC (r:RC'):Prop where
 mono:∀ x Q Q',(∀ d,Q d->Q' d)->r x Q->r x Q'
class MRM (r:RM'):Prop where
 mono:∀ x y Q Q',(∀ d,Q d->Q' d)->r x y Q->r x y Q'
class MRS (r:RS'):Prop where
 mono:∀ x y z Q Q',(∀ d,Q d->Q' d)->r x y z Q->r x y z Q'
class MSp (sp:Sp'):Prop where
 mono:∀ x Q Q',(∀ d,Q d->Q' d)->sp x Q->sp x Q'
structure Ends'.le (N N':Ends'):Prop where
 nx:∀ Γ,N.nx Γ->N'.nx Γ
 rt:∀ r Γ,N.rt r Γ->N'.rt r Γ
 bk:∀ Γ,N.bk Γ->N'.bk Γ
 ct:∀ Γ,N.ct Γ->N'.ct Γ
class MS (t:TS'):Prop where
 mono:∀ N N' Γ,N.le N'->t N Γ->t N' Γ
instance {i:Nat}:ME (zad i):=⟨fun _ _ _ h q=>by
 obtain ⟨d,e,q⟩:=zix q; exact zms e (h _ _ q)⟩
instance {d:D}:ME (tC' d):=⟨fun _ _ _ h q=>h _ _ q⟩
instance {t:TO'} [MO t]:ME (zaM t):=⟨fun Γ _ _ h q=>MO.mono (t:=t) Γ _ _ (fun _ _ z=>h _ _ z) q⟩
instance {r:R2'} {a b:TE'} [MR2 r] [ME a] [ME b]:ME (zbf r a b):=⟨fun Γ _ _ h q=>ME.mono (t:=a) Γ _ _ (fun _ _ z=>ME.mono (t:=b) _ _ _ (fun _ _ z=>MR2.mono (r:=r) _ _ _ _ (fun _ z=>h _ _ z) z) z) q⟩
instance {t:TE'} [ME t]:MT (tB' t):=⟨fun Γ _ _ h q=>ME.mono (t:=t) Γ _ _ (fun _ _ ⟨b,e,z⟩=>⟨b,e,h _ _ z⟩) q⟩
instance {t u:TT'} [MT t] [MT u]:MT (zaz t u):=⟨fun Γ _ _ h q=>MT.mono (t:=t) Γ _ _ (fun b _ z=>by
 cases b with
 | true=>exact MT.mono (t:=u) _ _ _ h z
 | false=>exact h _ _ z) q⟩
instance {t u:TT'} [MT t] [MT u]:MT (zby t u):=⟨fun Γ _ _ h q=>MT.mono (t:=t) Γ _ _ (fun b _ z=>by
 cases b with
 | false=>exact MT.mono (t:=u) _ _ _ h z
 | true=>exact h _ _ z) q⟩
instance {t:TT'} [MT t]:MT (zar t):=⟨fun Γ _ _ h q=>MT.mono (t:=t) Γ _ _ (fun b _ z=>h _ _ z) q⟩
instance:MT zbn:=⟨fun _ _ _ h q=>h _ _ q⟩
instance:MA zal:=⟨fun _ _ _ h q=>h _ _ q⟩
instance {a:TE'} {r:TA'} [ME a] [MA r]:MA (zO a r):=⟨fun Γ _ _ h q=>ME.mono (t:=a) Γ _ _ (fun _ _ z=>MA.mono (t:=r) _ _ _ (fun _ _ z=>h _ _ z) z) q⟩
instance {t:TA'} [MA t]:ME (zap t):=⟨fun Γ _ _ h q=>MA.mono (t:=t) Γ _ _ (fun _ _ ⟨a,z⟩=>⟨a,h _ _ z⟩) q⟩
instance {t:TA'} [MA t]:MO (zav t):=⟨fun Γ _ _ h q=>MA.mono (t:=t) Γ _ _ (fun _ _ ⟨a,z⟩=>⟨a,h _ _ z⟩) q⟩
instance {r:RC'} {t:TA'} [MRC r] [MA t]:ME (zbs r t):=⟨fun Γ _ _ h q=>MA.mono (t:=t) Γ _ _ (fun _ _ z=>MRC.mono (r:=r) _ _ _ (fun _ z=>h _ _ z) z) q⟩
instance {T:String} {r:RM'} {o:TE'} {t:TA'} [MRM r] [ME o] [MA t]:ME (zbz T r o t):=⟨fun Γ _ _ h q=>ME.mono (t:=o) Γ _ _ (fun _ _ ⟨a,z⟩=>⟨a,MA.mono (t:=t) _ _ _ (fun _ _ z=>MRM.mono (r:=r) _ _ _ _ (fun _ z=>h _ _ z) z) z⟩) q⟩
instance:MP zas:=⟨fun _ _ _ h q=>h _ _ q⟩
instance {t:TE'} [ME t]:MP (zbA t):=⟨fun Γ _ _ h q=>ME.mono (t:=t) Γ _ _ (fun _ _ ⟨i,e,z⟩=>⟨i,e,h _ _ z⟩) q⟩
instance {r:RS'} {e:TE'} {l u:TP'} [MRS r] [ME e] [MP l] [MP u]:ME (zbx r e l u):=⟨fun Γ _ _ h q=>ME.mono (t:=e) Γ _ _ (fun _ _ z=>MP.mono (t:=l) _ _ _ (fun _ _ z=>MP.mono (t:=u) _ _ _ (fun _ _ z=>MRS.mono (r:=r) _ _ _ _ _ (fun _ z=>h _ _ z) z) z) z) q⟩
instance {sp:Sp'} {t:TA'} [MSp sp] [MA t]:ME (zI sp t):=⟨fun Γ _ _ h q=>MA.mono (t:=t) Γ _ _ (fun _ _ z=>MSp.mono (sp:=sp) _ _ _ (fun _ z=>h _ _ z) z) q⟩
instance {t:TE'} [ME t]:MI (zaC t):=⟨fun Γ _ _ h q=>ME.mono (t:=t) Γ _ _ (fun _ _ ⟨i,e,z⟩=>⟨i,e,h _ _ z⟩) q⟩
instance {t:TA'} [MA t]:MI (zP t):=⟨fun Γ _ _ h q=>MA.mono (t:=t) Γ _ _ (fun _ _ ⟨i,e,a,b,z⟩=>⟨i,e,a,b,h _ _ z⟩) q⟩
instance {i:Nat}:MG (zB i):=⟨fun _ _ _ _ h q=>h _ q⟩
theorem zdS {g:TG'} {tc:TT'} {te:TE'} [MG g] [MT tc] [ME te] {Q Q':List D->Prop} (h:∀ l,Q l->Q' l):∀ (ds acc:List D) (Γ:Sts),zc2 g tc te Q ds acc Γ->zc2 g tc te Q' ds acc Γ
 | [],acc,Γ,q=>h acc q
 | d :: ds,acc,Γ,q=>MG.mono (g:=g) _ _ _ _ (fun Γ2 z=>MT.mono (t:=tc) _ _ _ (fun b Γ3 z=>by
  cases b with
  | true=>exact ME.mono (t:=te) _ _ _ (fun y Γ4 z=>zdS h ds _ _ z) z
  | false=>exact zdS h ds _ _ z) z) q
instance {ti:TI'} {src:List (Option Nat)} {g:TG'} {tc:TT'} {te:TE'} [MI ti] [MG g] [MT tc] [ME te]:MO (zJ ti src g tc te):=⟨fun Γ _ _ h q=>MI.mono (t:=ti) Γ _ _ (fun ds Γ1 ⟨a,z⟩=>⟨a,zdS (fun l=>h _ _) _ _ _ z⟩) q⟩
def Ends'.le.nxt {N N':Ends'} (h:N.le N') {P P':Sts->Prop} (hp:∀ Γ,P Γ->P' Γ):Ends'.le { N with nx:=P } { N' with nx:=P' }:=⟨hp,h.rt,h.bk,h.ct⟩
instance:MS zE:=⟨fun _ _ _ h q=>h.nx _ q⟩
instance {t u:TS'} [MS t] [MS u]:MS (zak t u):=⟨fun N N' Γ h q=>MS.mono (t:=t) _ _ _ (h.nxt fun Γ' z=>MS.mono (t:=u) N N' Γ' h z) q⟩
instance {t:TE'} [ME t]:MS (zaq t):=⟨fun N N' Γ h q=>ME.mono (t:=t) _ _ _ (fun _ _ z=>h.rt _ _ z) q⟩
instance {c:TT'} {t u:TS'} [MT c] [MS t] [MS u]:MS (zaf c t u):=⟨fun N N' Γ h q=>MT.mono (t:=c) _ _ _ (fun b Γ1 z=>by
 cases b with
 | true=>exact MS.mono (t:=t) N N' Γ1 h z
 | false=>exact MS.mono (t:=u) N N' Γ1 h z) q⟩
instance {t:TE'} [ME t]:MS (zN t):=⟨fun N N' Γ h q=>ME.mono (t:=t) _ _ _ (fun _ _ z=>h.nx _ z) q⟩
instance {t:TE'} {g:TG'} [ME t] [MG g]:MS (zao t g):=⟨fun N N' Γ h q=>ME.mono (t:=t) _ _ _ (fun _ _ z=>MG.mono (g:=g) _ _ _ _ (fun _ z=>h.nx _ z) z) q⟩
instance {t:TO'} {i:Nat} [MO t]:MS (zK t i):=⟨fun N N' Γ h q=>MO.mono (t:=t) _ _ _ (fun _ _ z=>h.nx _ z) q⟩
theorem zeu {g:TG'} {tb:TS'} [MG g] [MS tb] {N N':Ends'} (h:N.le N'):∀ (ds:List D) (Γ:Sts),zeK g tb N ds Γ->zeK g tb N' ds Γ
 | [],Γ,q=>h.nx Γ q
 | d :: ds,Γ,q=>MG.mono (g:=g) _ _ _ _ (fun Γ2 z=>MS.mono (t:=tb) { N with nx:=zeK g tb N ds,ct:=zeK g tb N ds,bk:=N.nx } { N' with nx:=zeK g tb N' ds,ct:=zeK g tb N' ds,bk:=N'.nx } _ ⟨fun Γ3 z=>zeu h ds Γ3 z,h.rt,h.nx,fun Γ3 z=>zeu h ds Γ3 z⟩ z) q
instance {ti:TI'} {g:TG'} {tb:TS'} [MI ti] [MG g] [MS tb]:MS (zax ti g tb):=⟨fun N N' Γ h q=>MI.mono (t:=ti) _ _ _ (fun ds Γ1 z=>zeu h ds Γ1 z) q⟩
theorem zgR {g:TG'} {tb:TS'} [MG g] [MS tb] {N:Ends'} (I:List D->Sts->Prop) (h0:∀ Γ,I [] Γ->N.nx Γ) (hs:∀ d ds Γ,I (d :: ds) Γ->g d Γ fun Γ2=>tb { N with nx:=I ds,ct:=I ds,bk:=N.nx } Γ2) :
  ∀ (ds:List D) (Γ:Sts),I ds Γ->zeK g tb N ds Γ
 | [],Γ,h=>h0 Γ h
 | d :: ds,Γ,h=>MG.mono (g:=g) _ _ _ _ (fun Γ2 z=>MS.mono (t:=tb) { N with nx:=I ds,ct:=I ds,bk:=N.nx } { N with nx:=zeK g tb N ds,ct:=zeK g tb N ds,bk:=N.nx } _ ⟨fun Γ3 z=>zgR I h0 hs ds Γ3 z,fun _ _ z=>z,fun _ z=>z,fun Γ3 z=>zgR I h0 hs ds Γ3 z⟩ z) (hs d ds Γ h)
def zet {g:TG'} {tb:TS'} [MG g] [MS tb] {N:Ends'} {ds:List D} {Γ:Sts} (I:Nat->Sts->Prop) (h:I 0 Γ) (hs:∀ (i:Nat) d Γ,ds[i]?=some d->I i Γ->g d Γ fun Γ2=>tb { N with nx:=I (i+1),ct:=I (i+1),bk:=N.nx } Γ2) (h0:∀ Γ,I ds.length Γ->N.nx Γ):zeK g tb N ds Γ:=by
 refine zgR (fun es Γ=>∃ i,es=ds.drop i/\i<=ds.length/\I i Γ) ?_ ?_ ds Γ ⟨0,rfl,YE _,h⟩
 ·rintro Γ ⟨i,e,hi,q⟩
  have:i=ds.length:=by
   have:=yg List.length e
   rw [List.length_drop] at this
   simp at this
   omega
  subst this; exact h0 Γ q
 ·rintro d es Γ ⟨i,e,hi,q⟩
  have hlt:i<ds.length:=by
   have:=yg List.length e
   rw [List.length_drop] at this
   simp at this
   omega
  rw [YM hlt] at e
  injection e with e1 e2
  subst e1
  have go:∀ Γ',I (i+1) Γ'->∃ j,es=ds.drop j/\j<=ds.length/\I j Γ':=fun Γ' z=>⟨i+1,e2,hlt,z⟩
  exact MG.mono (g:=g) _ _ _ _ (fun Γ2 z=>MS.mono (t:=tb) { N with nx:=I (i+1),ct:=I (i+1),bk:=N.nx } _ _ ⟨go,fun _ _ z=>z,fun _ z=>z,go⟩ z) (hs i _ Γ (yB hlt) q)
def zch {g:TG'} {tc:TT'} {te:TE'} [MG g] [MT tc] [ME te] {Q:List D->Prop} {ds:List D} {Γ:Sts} (I:Nat->List D->Sts->Prop) (h:I 0 [] Γ)
  (hs:∀ (i:Nat) d acc Γ,ds[i]?=some d->I i acc Γ->g d Γ fun Γ2=>tc Γ2 fun b Γ3=>if b=true then te Γ3 fun y Γ4=>I (i+1) (acc ++ [y]) (vo Γ4) else I (i+1) acc (vo Γ3)) (h0:∀ acc Γ,I ds.length acc Γ->Q acc):zc2 g tc te Q ds [] Γ:=by
 have key:∀ (n i:Nat) (acc:List D) (Γ:Sts),n=ds.length-i->i<=ds.length->I i acc Γ->zc2 g tc te Q (ds.drop i) acc Γ:=by
  intro n
  induction n with
  | zero =>
   intro i acc Γ hn hi q
   have:i=ds.length:=by omega
   subst this; rw [YV (yJ _)]; exact h0 acc Γ q
  | succ n ih =>
   intro i acc Γ hn hi q
   have hlt:i<ds.length:=by omega
   rw [YM hlt]
   refine MG.mono (g:=g) _ _ _ _ (fun Γ2 z=>MT.mono (t:=tc) _ _ _ (fun b Γ3 z=>?_) z) (hs i _ acc Γ (yB hlt) q)
   cases b with
   | true=>exact ME.mono (t:=te) _ _ _ (fun y Γ4 z=>ih (i+1) _ _ (by omega) hlt z) z
   | false=>exact ih (i+1) _ _ (by omega) hlt z
 exact key _ 0 [] Γ rfl (YE _) h
instance {g:Int->Int->D}:MR2 (zlL g):=⟨fun _ _ _ _ h ⟨i,j,a,b,q⟩=>⟨i,j,a,b,h _ q⟩⟩
instance {C:Int->Int->Prop} {g:Int->Int->D}:MR2 (rI' C g):=⟨fun _ _ _ _ h ⟨i,j,a,b,c,q⟩=>⟨i,j,a,b,c,h _ q⟩⟩
instance:MR2 zhS:=⟨fun _ _ _ _ h ⟨i,j,a,b,c,q⟩=>⟨i,j,a,b,c,h _ q⟩⟩
instance:MR2 zfP:=⟨fun _ _ _ _ h q=>by
 rcases q with ⟨i,j,a,b,q⟩ | q
 ·exact .inl ⟨i,j,a,b,h _ q⟩
 ·exact .inr (MR2.mono (r:=zhS) _ _ _ _ h q)⟩
instance {neg:Bool}:MR2 (zlK neg):=⟨fun _ _ _ _ h ⟨c,l,a,b,q⟩=>⟨c,l,a,b,h _ q⟩⟩
instance {neg:Bool}:MR2 (zkv neg):=⟨fun _ _ _ _ h ⟨i,c,l,a,b,q⟩=>⟨i,c,l,a,b,h _ q⟩⟩
instance:MR2 zfa:=⟨fun _ _ _ _ h q=>by
 rcases q with q | q
 ·exact .inl (MR2.mono (r:=zlK true) _ _ _ _ h q)
 ·exact .inr (MR2.mono (r:=zkv true) _ _ _ _ h q)⟩
instance {neg:Bool}:MR2 (zlJ neg):=⟨fun _ _ _ _ h ⟨a,b,e,q⟩=>⟨a,b,e,h _ q⟩⟩
instance:MR2 zjX:=⟨fun _ _ _ _ h ⟨i,e,q⟩=>⟨i,e,by
 rcases q with ⟨ds,d,a,b,q⟩ | ⟨ds,d,a,b,q⟩ | ⟨l,c,a,b,e,q⟩
 ·exact .inl ⟨ds,d,a,b,h _ q⟩
 ·exact .inr (.inl ⟨ds,d,a,b,h _ q⟩)
 ·exact .inr (.inr ⟨l,c,a,b,e,h _ q⟩)⟩⟩
instance:MRS zmJ:=⟨fun _ _ _ _ _ h q=>by
 rcases q with ⟨l,a,b,q⟩ | ⟨l,a,q⟩
 ·refine .inl ⟨l,a,b,?_⟩
  rcases q with ⟨c,n,d,e,q⟩ | ⟨c,n,d,e,q⟩
  ·exact .inl ⟨c,n,d,e,h _ q⟩
  ·exact .inr ⟨c,n,d,e,h _ q⟩
 ·exact .inr ⟨l,a,h _ q⟩⟩
instance:MRC zeD:=⟨fun _ _ _ h ⟨d,e,q⟩=>⟨d,e,by
 rcases q with ⟨l,a,b,q⟩ | ⟨l,a,q⟩ | ⟨l,a,q⟩
 ·exact .inl ⟨l,a,b,h _ q⟩
 ·exact .inr (.inl ⟨l,a,h _ q⟩)
 ·exact .inr (.inr ⟨l,a,h _ q⟩)⟩⟩
def zgq:Sp':=fun ds Q=>∃ ns:List Int,ds=[.lst (ns.map .int)]/\ns.length<=63/\Q (.val (.bl true))
theorem zhw {K:W.Frag} {H:Hp}:∀ ns:List Int,zb4 K H (ns.map V.int) (ns.map D.int)
 | []=>.nil
 | n :: ns=>.cons (.int n) (zhw ns)
def zkh (K:W.Frag) (H:Hp) (a:Addr) (ns:List Int) (hl:ns.length<=63) (hO:zqk H) (hS:SqL K H a (ns.map V.int)):zij K zgq [.ref a] H (fun v _=>v=.bl true) (fun _ _ _=>False):=by
 refine ⟨H,[.lst (ns.map .int)],fun r=>r=.val (.bl true),⟨zaR.refl _,fun b xs q=>q⟩,.cons (Den.mkL hS (zhw ns)) .nil,⟨ns,rfl,hl,rfl⟩,?_⟩
 rintro Hi' H' v r ex ro rfl
 exact Den.blI ro
def zpd {P:Program} {w:World} {K:W.Frag} {mg:Str->Option Value} {k:Nat} {fa:Addr} {oc:Value} {od:Option Addr} {fd:FuncData} {sl:Array (Option Value)} {ps:List Str}
  (hfa:mg "law"=some (.ref fa)) (lk:K.lookup fa=some ⟨oc,od,.func fd,sl⟩) (base:Heap) (G:Fn P w K mg base k "law" ps zgq):FnOk P w K mg base CX0 k fa fd ps (zij K zgq):=by
 obtain ⟨f,fd',F,_,_,m,oc',od',sl',lk'⟩:=G.ex; rw [hfa] at m; cases m; rw [lk] at lk'; cases lk'; exact F
def walk_law {l:W.OpenLaw} {k:Nat} {q:Program} {loose:List Str} {XP:(Str->Option Value)->Heap->Prop} {YP:World->Heap->Prop} {d:DefRec} {K:Params->W.Frag} {x:Str} (hn:l.most=some 63) (hdf:d.params.defaults=[]) (hr:Room k callerA)
  (hY:∀ (w:World) (h:Heap),YP w h->(K w.params).In h)
  (F:∀ (w:World) (mg:Str->Option Value) (fa:Addr) (h:Heap),(K w.params).In h->h.Ns mainGlobals mg->mg d.name=some (.ref fa) ->
   ∃ fd:FuncData,(∀ (s:Shared) (u:Value),BindsTo s fd ⟨[u],[]⟩ [(x,u)])/\∀ base:Heap,(K w.params).In base->base.Ns mainGlobals mg->FnOk l.prog w (K w.params) mg base CX0 k fa fd [x] (zij (K w.params) zgq)) :
  W.WalkO q loose XP YP l.row.toRowW d [] (fun f vs=>PySem.call f vs) :=
 L2.walk_of (n:=63) (k:=k) (x:=x) (CX:=fun _=>CX0) (sp:=fun w=>zij (K w.params) zgq) hn (by decide) hdf hr hY F (fun _ _ a ns hl hO hS=>zkh _ _ a ns hl hO hS) fun _ _ _ _ _ z=>z
end PL
namespace L2
open PySem PySem.Spec PyProof.Rows
section
def znb:OpR X (binaryOp .Add) (fun x y H Q=>∃ a b xs ys,x=.ref a/\y=.ref b/\SqT X.K H a xs/\SqT X.K H b ys/\xs.length+ys.length<=sizeLine/\(xs=[]->Q (.ref b) H)/\(xs≠[]->ys=[]->Q (.ref a) H) /\
  (xs≠[]->ys≠[]->∀ p,H p=none->Q (.ref p) (upd H p (.tup (xs ++ ys))))):=by
 intro pins s σ H x y v u Q I rx ry h; obtain ⟨a,b,xs,ys,rfl,rfl,ha,hb,hz,q0,q1,q2⟩:=h
 by_cases hx:xs=[]
 ·cases rx
  cases ry; obtain ⟨its,r1,p1,_⟩:=I.tuple ha; obtain ⟨its2,r2,p2,_⟩:=I.tuple hb
  obtain ⟨⟨cls,dd,data,sl⟩,ho,hc,n,hd⟩:=id p1
  obtain ⟨⟨cls2,dd2,data2,sl2⟩,ho2,hc2,n2,hd2⟩:=id p2
  simp only at hc hd hc2 hd2
  subst hc hd hc2 hd2
  have hi:its=[]:=r1.nil_iff.mpr hx
  refine concat_meets ⟨_,ho,rfl⟩ ⟨_,ho2,rfl⟩ noFill_tuple_add seq_tuple_add PySem.F.slot_tuple_add PySem.F.entry_tuple_add (PySem.F.args_tuple_add_2 _ _)
   (tuple_addW0 a b its.toArray its2.toArray n n2 dd dd2 sl sl2 (by simp [hi])) ⟨ho,ho2,?_⟩
  exact ⟨.ref b,H,I,rfl,q0 hx⟩
 ·exact zm9 pins s σ H _ _ v u Q I rx ry ⟨a,b,xs,ys,rfl,rfl,ha,hb,hx,hz,q1 hx,q2 hx⟩
end
end L2
namespace HT
open PySem PyProof.Rows
section
def getItem_tuple_whole {t sl:Addr} {items:Array Value} {vl vu:Value} {lo hi:Option Int} {Q:Value->Shared->Prop} (ht:IsTup s.heap t items) (hs:s.heap.IsSliceOf sl vl vu .none) (pl:IsPart vl lo) (pu:IsPart vu hi)
  (hw:sIx items.size 0 lo=0/\sIx items.size items.size hi=items.size) (h:Q (.ref t) s):wpAny (model prog w) A (getItem (.ref t) (.ref sl)) Q E s:=by
 obtain ⟨os,hos,hcs,hds⟩:=id hs
 have hTs:s.TypeIs (.ref sl) "slice":=⟨os,hos,hcs⟩
 unfold getItem
 try with_reducible refine Ya ?_
 first | refine yA (yG ?_) | skip
 refine yA (wpAny_sequenceKey ht.typeIs (by decide) ?_)
 refine yA (wpAny_callSpecial?_slot (name:=Str.ofString "__getitem__") ht.typeIs Yb
  (YD Yb ht.typeIs entry_tuple_getitem ?_ (args_tuple_getitem _ _)))
 show wpAny _ _ (Builtin.Tuple.tupleItemsOf (.ref t) >>= _) _ _ s
 refine yA (tupleItemsOf_ ht ?_); refine yA (wpAny_typeOf hTs ?_)
 rw [yW (by decide)]
 refine yA (zcE hs pl pu ?_)
 have hyes:((((sIx items.size 0 lo:Nat):Int) == 0 && (1:Int) == 1 && (sIx items.size items.size hi-sIx items.size 0 lo) == items.size)=true):=by
  rw [hw.1,hw.2]; simp
 show wpAny _ _ (if (((sIx items.size 0 lo:Nat):Int) == 0 && (1:Int) == 1 && (sIx items.size items.size hi-sIx items.size 0 lo) == items.size)=true then _ else _) _ _ s
 rw [yW hyes]; refine yA (m:=Builtin.Tuple.tupleIsExact (.ref t)) ?_; unfold Builtin.Tuple.tupleIsExact; refine yA (wpAny_typeOf ht.typeIs ?_); refine yG ?_
 rw [yW (by decide)]
 exact yA (wpAny_rule (yG ⟨_,rfl,yG h⟩))
end
end HT
namespace L2
open PySem PySem.Spec PyProof.Rows
section
def zmx:SlR X (fun x lo hi H Q=>∃ a xs,x=.ref a/\SqT X.K H a xs/\((HT.sIx xs.length 0 lo=0/\HT.sIx xs.length xs.length hi=xs.length)->Q (.ref a) H) /\
  (¬ (HT.sIx xs.length 0 lo=0/\HT.sIx xs.length xs.length hi=xs.length)->∀ p,H p=none->Q (.ref p) (upd H p (.tup (zjF xs lo hi))))):=by
 intro pins s σ H x v vl vu lo hi sl Q I rx hs pl pu h; obtain ⟨a,xs,rfl,hx,q1,q2⟩:=h
 by_cases hw:HT.sIx xs.length 0 lo=0/\HT.sIx xs.length xs.length hi=xs.length
 ·cases rx
  obtain ⟨its,r,ht,hz⟩:=I.tuple hx
  have hlen:its.toArray.size=xs.length:=by rw [yQ]; exact r.length.symm
  refine ⟨"tuple",_,PyProof.Rows.slot_tuple_getitem.lookup,ht.typeIs,?_⟩
  exact HT.getItem_tuple_whole ht hs pl pu (by rw [hlen]; exact hw) ⟨.ref a,H,I,rfl,q1 hw⟩
 ·exact zog pins s σ H _ v vl vu lo hi sl Q I rx hs pl pu ⟨a,xs,rfl,hx,hw,q2 hw⟩
end
end L2
namespace PL
open PySem L2
section
def zhR:R2':=fun x y Q=>∃ xs ys,x=.tup xs/\y=.tup ys/\xs.length+ys.length<=sizeLine/\Q (.tup (xs ++ ys))
def zo6:Op2 X (binaryOp .Add) zhR:=⟨_,znb,by
 rintro Hi H x y dx dy Q Q2 s d1 d2 ⟨xs,ys,rfl,rfl,hl,q⟩ fin
 obtain ⟨a,vs,rfl,h1,h2⟩:=d1.tupI; obtain ⟨b,us,rfl,h3,h4⟩:=d2.tupI
 refine ⟨a,b,vs,us,rfl,rfl,zaj s.sub h1,zaj s.sub h3,by rw [zm h2,zm h4]; exact hl,fun e=>?_,fun _ e=>?_,fun _ _ p hp=>?_⟩
 ·subst e
  cases h2; exact fin Hi H _ _ (Ext.refl s) d2 q
 ·subst e
  cases h4; rw [yh] at q; exact fin Hi H _ _ (Ext.refl s) d1 q
 ·have e:=Ext.new s hp (.tup (vs ++ us))
  exact fin _ _ _ _ e (Den.mkT zo (zbG (h2.mono e.hi) (h4.mono e.hi))) q⟩
def zqL:Sli X zhP:=⟨_,zmx,by
 rintro Hi H x dx lo hi Q Q2 s d1 ⟨ds,rfl,q⟩ fin
 obtain ⟨a,vs,rfl,h1,h2⟩:=d1.tupI; have hl:=zm h2
 refine ⟨a,vs,rfl,zaj s.sub h1,fun hw=>?_,fun _ p hp=>?_⟩
 ·have e:zex ds lo hi=ds:=by
   unfold zex; rw [<- hl,hw.1,hw.2,List.drop_zero,Nat.sub_zero,hl,yx]
  rw [e] at q; exact fin Hi H _ _ (Ext.refl s) d1 q
 ·have e:=Ext.new s hp (.tup (zjF vs lo hi))
  exact fin _ _ _ _ e (Den.mkT zo (zjE (h2.mono e.hi))) q⟩
def eqL (f:D->D->Option Bool):List D->List D->Option Bool
 | x :: xs,y :: ys=>match f x y,eqL f xs ys with
  | some a,some b=>some (a && b)
  | _,_=>none
 | [],[]=>some true
 | _,_=>some false
def eqD:Nat->D->D->Option Bool
 | n+1,.tup xs,.tup ys=>eqL (eqD n) xs ys
 | n+1,.lst xs,.lst ys=>if xs.length=ys.length then eqL (eqD n) xs ys else some false
 | _,x,y=>eqS x y
def znE {x y:V} {dx dy:D} {b:Bool} {Hi:Hp} (d1:Den K Hi x dx) (d2:Den K Hi y dy) (h:eqS dx dy=some b):zev x=true/\zev y=true/\eqV x y=b:=by
  have s1:=d1.scl (zdw h); have s2:=d2.scl (zdw (zjs _ _ h).choose_spec)
  cases s1 <;> rename_i e1 <;> subst e1 <;> cases s2 <;> rename_i e2 <;> subst e2 <;> first
    | (exact yU (show (none:Option Bool)=some b from h) (fun z=>nomatch z))
    | (refine ⟨rfl,rfl,?_⟩
       have h':=Option.some.inj h
       subst h'
       first
         | rfl
         | (show ((_:Int) == _)=decide _; rw [Bool.beq_eq_decide_eq])
         | (show ((_:Bool) == _)=decide _; rw [Bool.beq_eq_decide_eq])
         | (show ((_:Str) == _)=decide _
            rw [Bool.beq_eq_decide_eq]
            exact decide_eq_decide.mpr ⟨fun z=>zlD z,fun z=>yg st z⟩))
def zd5 {x:V} {dx dy:D} {b:Bool} {Hi:Hp} (d1:Den K Hi x dx) (d2:Den K Hi x dy) (h:eqS dx dy=some b):b=true:=by
 obtain ⟨f1,f2,e⟩:=znE d1 d2 h; rw [<- e]
 cases x <;> first | rfl | (exact yU (show false=true from f1) yN) | (show ((_:_) == _)=true; exact beq_self_eq_true _)
theorem zdx {f:D->D->Option Bool} {Hi:Hp} (hf:∀ v x y b,Den K Hi v x->Den K Hi v y->f x y=some b->b=true):∀ {vs:List V} {xs ys:List D} {b:Bool},zb4 K Hi vs xs->zb4 K Hi vs ys->eqL f xs ys=some b->b=true
 | [],_,_,b,.nil,.nil,h=>(Option.some.inj h).symm
 | v :: vs,x :: xs,y :: ys,b,.cons r1 t1,.cons r2 t2,h=>by
  unfold eqL at h
  cases e1:f x y with
  | none=>rw [e1] at h; cases h
  | some a =>
   cases e2:eqL f xs ys with
   | none=>rw [e1,e2] at h; cases h
   | some c =>
    rw [e1,e2] at h; rw [<- Option.some.inj h,hf v x y a r1 r2 e1,zdx hf t1 t2 e2]; rfl
def zd6 (x y:D):eqD 0 x y=eqS x y:=by cases x <;> cases y <;> rfl
section
variable {Hi:Hp}
def zhu (I:L2.Inv X pins σ H s) (sub:zaR Hi H):∀ (n:Nat) (v:V) (x y:D) (b:Bool),Den X.K Hi v x->Den X.K Hi v y->eqD n x y=some b->b=true:=by
 intro n
 induction n with
 | zero =>
  intro v x y b d1 d2 h; rw [zd6] at h; exact zd5 d1 d2 h
 | succ n ih =>
  intro v x y b d1 d2 h
  cases x with
  | tup xs =>
   cases y with
   | tup ys =>
    obtain ⟨a,vs,rfl,h1,h2⟩:=d1.tupI; obtain ⟨a',us,e,h3,h4⟩:=d2.tupI; cases e; have e:=I.tuple_inj (zaj sub h1) (zaj sub h3); subst e; exact zdx ih h2 h4 h
   | _=>exact zd5 d1 d2 h
  | lst xs =>
   cases y with
   | lst ys =>
    obtain ⟨a,vs,rfl,h1,h2⟩:=d1.lstI; obtain ⟨a',us,e,h3,h4⟩:=d2.lstI; cases e; have e:=I.list_inj (zab sub h1) (zab sub h3); subst e
    have hl:xs.length=ys.length:=by rw [<- zm h2,<- zm h4]
    unfold eqD at h; rw [yW hl] at h; exact zdx ih h2 h4 h
   | _=>exact zd5 d1 d2 h
  | _=>exact zd5 d1 d2 h
theorem zcU {f:D->D->Option Bool}:∀ {xs ys:List D} {b:Bool},eqL f xs ys=some b->∃ e:Nat->Bool,(∀ (j:Nat) x y,xs[j]?=some x->ys[j]?=some y->f x y=some (e j))/\b=((List.range (min xs.length ys.length)).all e && xs.length == ys.length)
 | [],[],b,h=>⟨fun _=>true,fun j x y h1 _=>by simp at h1,by simpa [eqL] using h.symm⟩
 | [],y :: ys,b,h=>⟨fun _=>true,fun j x y h1 _=>by simp at h1,by simpa [eqL] using h.symm⟩
 | x :: xs,[],b,h=>⟨fun _=>true,fun j x y _ h2=>by simp at h2,by simpa [eqL] using h.symm⟩
 | x :: xs,y :: ys,b,h=>by
  unfold eqL at h
  cases e1:f x y with
  | none=>rw [e1] at h; cases h
  | some a =>
   cases e2:eqL f xs ys with
   | none=>rw [e1,e2] at h; cases h
   | some c =>
    rw [e1,e2] at h; obtain ⟨e,h1,h2⟩:=zcU e2
    refine ⟨fun j=>match j with | 0=>a | j+1=>e j,fun j x' y' hx hy=>?_,?_⟩
    ·cases j with
     | zero=>simp at hx hy; subst hx; subst hy; exact e1
     | succ j=>exact h1 j x' y' (by simpa using hx) (by simpa using hy)
    ·rw [<- Option.some.inj h,h2]
     have hm:min (x :: xs).length (y :: ys).length=min xs.length ys.length+1:=by simp [Nat.succ_min_succ]
     rw [hm,List.range_succ_eq_map,List.all_cons,List.all_map]
     show (a && ((List.range (min xs.length ys.length)).all e && xs.length == ys.length))=((a && (List.range (min xs.length ys.length)).all e) && (x :: xs).length == (y :: ys).length)
     rw [Bool.and_assoc]
     congr 2
     simp
def zpq (I:L2.Inv X pins σ H s) (sub:zaR Hi H):∀ (n:Nat) (A:Around) (x y:V) (u v:Value) (dx dy:D) (b:Bool),A.units+n<cLine->Den X.K Hi x dx->Den X.K Hi y dy->zbI x u->zbI y v->eqD n dx dy=some b->SeqAt.EqAt A s u v b:=by
 intro n
 induction n with
 | zero =>
  intro A x y u v dx dy b hu d1 d2 rx ry h; rw [zd6] at h; obtain ⟨f1,f2,e⟩:=znE d1 d2 h; rw [<- e]; exact zjv rx ry f1 f2
 | succ n ih =>
  intro A x y u v dx dy b hu d1 d2 rx ry h
  have zmA:eqS dx dy=some b->SeqAt.EqAt A s u v b:=fun h=>by
   obtain ⟨f1,f2,e⟩:=znE d1 d2 h; rw [<- e]; exact zjv rx ry f1 f2
  have items:∀ {vs ws:List V} {its jts:List Value} {xs ys:List D} {e:Nat->Bool},zb4 X.K Hi vs xs->zb4 X.K Hi ws ys->za4 vs its->za4 ws jts->(∀ (j:Nat) x y,xs[j]?=some x->ys[j]?=some y->eqD n x y=some (e j)) ->
    ∀ j (h1:j<its.toArray.size) (h2:j<jts.toArray.size),SeqAt.EqAt A.in1 s its.toArray[j] jts.toArray[j] (e j):=fun {vs ws its jts xs ys e} r1 r2 v1 v2 he j h1 h2=>by
   have l1:j<vs.length:=by rw [v1.length]; simpa using h1
   have l2:j<ws.length:=by rw [v2.length]; simpa using h2
   obtain ⟨dx',e1,q1⟩:=zcB r1 (yB l1); obtain ⟨dy',e2,q2⟩:=zcB r2 (yB l2); obtain ⟨u1,e3,q3⟩:=v1.get (yB l1); obtain ⟨u2,e4,q4⟩:=v2.get (yB l2)
   have z1:its.toArray[j]=u1:=by
    have:=yD.mp e3
    obtain ⟨_,z⟩:=this
    simpa using z
   have z2:jts.toArray[j]=u2:=by
    have:=yD.mp e4
    obtain ⟨_,z⟩:=this
    simpa using z
   rw [z1,z2]
   exact ih A.in1 _ _ u1 u2 dx' dy' (e j) (by show A.units+1+n<cLine; omega) q1 q2 q3 q4 (he j dx' dy' e1 e2)
  cases dx with
  | tup xs =>
   cases dy with
   | tup ys =>
    obtain ⟨a,vs,rfl,h1,h2⟩:=d1.tupI; obtain ⟨c,ws,rfl,h3,h4⟩:=d2.tupI; cases rx; cases ry
    by_cases hac:a=c
    ·subst hac
     have e:=I.tuple_inj (zaj sub h1) (zaj sub h3); subst e; rw [zdx (zhu I sub n) h2 h4 h]; exact SeqAt.EqAt.same _
    ·obtain ⟨its,r1,p1,_⟩:=I.tuple (zaj sub h1)
     obtain ⟨jts,r2,p2,_⟩:=I.tuple (zaj sub h3); obtain ⟨e,he,hb⟩:=zcU h
     have lx:xs.length=its.length:=by rw [<- zm h2,r1.length]
     have ly:ys.length=jts.length:=by rw [<- zm h4,r2.length]
     have hb':b=((List.range (min its.toArray.size jts.toArray.size)).all e && its.toArray.size == jts.toArray.size):=by
      rw [hb,lx,ly]; simp
     rw [hb']
     exact SeqAt.EqAt.of_refs hac (SeqAt.RcAt.tuples (show s.heap.IsTuple a its.toArray from p1) (show s.heap.IsTuple c jts.toArray from p2) (by omega) (items h2 h4 r1 r2 he))
   | _=>exact zmA h
  | lst xs =>
   cases dy with
   | lst ys =>
    obtain ⟨a,vs,rfl,h1,h2⟩:=d1.lstI; obtain ⟨c,ws,rfl,h3,h4⟩:=d2.lstI; cases rx; cases ry; unfold eqD at h
    by_cases hac:a=c
    ·subst hac
     have e:=I.list_inj (zab sub h1) (zab sub h3); subst e
     have hl:xs.length=ys.length:=by rw [<- zm h2,<- zm h4]
     rw [yW hl] at h; rw [zdx (zhu I sub n) h2 h4 h]; exact SeqAt.EqAt.same _
    ·obtain ⟨its,r1,p1,_⟩:=I.list (zab sub h1)
     obtain ⟨jts,r2,p2,_⟩:=I.list (zab sub h3)
     have lx:xs.length=its.length:=by rw [<- zm h2,r1.length]
     have ly:ys.length=jts.length:=by rw [<- zm h4,r2.length]
     by_cases hl:xs.length=ys.length
     ·rw [yW hl] at h
      obtain ⟨e,he,hb⟩:=zcU h
      have hs:its.toArray.size=jts.toArray.size:=by simp; omega
      have hb':b=((List.range its.toArray.size).all e):=by
       rw [hb,lx,ly]
       have z:(its.length == jts.length)=true:=by simp; omega
       have z2:min its.length jts.length=its.length:=by omega
       rw [z,z2,Bool.and_true]; simp
      rw [hb']
      exact SeqAt.EqAt.of_refs hac (SeqAt.RcAt.lists p1.isList p2.isList hs (by omega) (items h2 h4 r1 r2 he))
     ·rw [yS hl] at h
      cases h
      exact SeqAt.EqAt.of_refs hac (SeqAt.RcAt.lists_lengths p1.isList p2.isList (by simp; omega) (by omega))
   | _=>exact zmA h
  | _=>exact zmA h
end
section
variable {Hi:Hp}
def zhr (I:L2.Inv X pins σ H s) (sub:zaR Hi H) {n:Nat} {A:Around} (hu:A.units+1+n<cLine) {vs ws:List V} {its jts:List Value} {xs ys:List D} {e:Nat->Bool} (r1:zb4 X.K Hi vs xs) (r2:zb4 X.K Hi ws ys) (v1:za4 vs its) (v2:za4 ws jts) (he:∀ (j:Nat) x y,xs[j]?=some x->ys[j]?=some y->eqD n x y=some (e j)) :
  ∀ j (h1:j<its.toArray.size) (h2:j<jts.toArray.size),SeqAt.EqAt A.in1 s its.toArray[j] jts.toArray[j] (e j):=fun j h1 h2=>by
 have l1:j<vs.length:=by rw [v1.length]; simpa using h1
 have l2:j<ws.length:=by rw [v2.length]; simpa using h2
 obtain ⟨dx',e1,q1⟩:=zcB r1 (yB l1); obtain ⟨dy',e2,q2⟩:=zcB r2 (yB l2); obtain ⟨u1,e3,q3⟩:=v1.get (yB l1); obtain ⟨u2,e4,q4⟩:=v2.get (yB l2)
 have z1:its.toArray[j]=u1:=by
  obtain ⟨_,z⟩:=yD.mp e3
  simpa using z
 have z2:jts.toArray[j]=u2:=by
  obtain ⟨_,z⟩:=yD.mp e4
  simpa using z
 rw [z1,z2]
 exact zpq I sub n A.in1 _ _ u1 u2 dx' dy' (e j) (by show A.units+1+n<cLine; omega) q1 q2 q3 q4 (he j dx' dy' e1 e2)
def zrO (I:L2.Inv X pins σ H s) (sub:zaR Hi H) {n:Nat} {A:Around} {x y:V} {u v:Value} {dx dy:D} {b:Bool} (hu:A.units+n<cLine) (d1:Den X.K Hi x dx) (d2:Den X.K Hi y dy) (rx:zbI x u) (ry:zbI y v) (h:eqD n dx dy=some b) (hn:eqS dx dy=none) :
  SeqAt.RcAt A s u v b/\SeqAt.RcNeAt A s u v (!b):=by
 cases n with
 | zero=>rw [zd6,hn] at h; cases h
 | succ n =>
  cases dx with
  | tup xs =>
   cases dy with
   | tup ys =>
    obtain ⟨a,vs,rfl,h1,h2⟩:=d1.tupI; obtain ⟨c,ws,rfl,h3,h4⟩:=d2.tupI; cases rx; cases ry; obtain ⟨its,r1,p1,_⟩:=I.tuple (zaj sub h1); obtain ⟨jts,r2,p2,_⟩:=I.tuple (zaj sub h3); obtain ⟨e,he,hb⟩:=zcU h
    have lx:xs.length=its.length:=by rw [<- zm h2,r1.length]
    have ly:ys.length=jts.length:=by rw [<- zm h4,r2.length]
    have hb':b=((List.range (min its.toArray.size jts.toArray.size)).all e && its.toArray.size == jts.toArray.size):=by
     rw [hb,lx,ly]; simp
    have hi:=zhr (A:=A) I sub (by omega) h2 h4 r1 r2 he
    rw [hb']
    exact ⟨SeqAt.RcAt.tuples (show s.heap.IsTuple a its.toArray from p1) (show s.heap.IsTuple c jts.toArray from p2) (by omega) hi,SeqAt.RcNeAt.tuples (show s.heap.IsTuple a its.toArray from p1) (show s.heap.IsTuple c jts.toArray from p2) (by omega) hi⟩
   | _=>exact yU (hn.symm.trans h) (fun z=>nomatch z)
  | lst xs =>
   cases dy with
   | lst ys =>
    obtain ⟨a,vs,rfl,h1,h2⟩:=d1.lstI; obtain ⟨c,ws,rfl,h3,h4⟩:=d2.lstI; cases rx; cases ry; unfold eqD at h; obtain ⟨its,r1,p1,_⟩:=I.list (zab sub h1); obtain ⟨jts,r2,p2,_⟩:=I.list (zab sub h3)
    have lx:xs.length=its.length:=by rw [<- zm h2,r1.length]
    have ly:ys.length=jts.length:=by rw [<- zm h4,r2.length]
    by_cases hl:xs.length=ys.length
    ·rw [yW hl] at h
     obtain ⟨e,he,hb⟩:=zcU h
     have hs:its.toArray.size=jts.toArray.size:=by simp; omega
     have hb':b=((List.range its.toArray.size).all e):=by
      rw [hb,lx,ly]
      have z:(its.length == jts.length)=true:=by simp; omega
      have z2:min its.length jts.length=its.length:=by omega
      rw [z,z2,Bool.and_true]; simp
     have hi:=zhr (A:=A) I sub (by omega) h2 h4 r1 r2 he
     rw [hb']
     exact ⟨SeqAt.RcAt.lists p1.isList p2.isList hs (by omega) hi,SeqAt.RcNeAt.lists p1.isList p2.isList hs (by omega) hi⟩
    ·rw [yS hl] at h
     cases h
     exact ⟨SeqAt.RcAt.lists_lengths p1.isList p2.isList (by simp; omega) (by omega),SeqAt.RcNeAt.lists_lengths p1.isList p2.isList (by simp; omega) (by omega)⟩
   | _=>exact yU (hn.symm.trans h) (fun z=>nomatch z)
  | _=>exact yU (hn.symm.trans h) (fun z=>nomatch z)
end
def zkw:R2':=fun x y Q=>∃ b,eqD 100 x y=some b/\Q (.bl b)
def zlG:R2':=fun x y Q=>∃ b,eqD 100 x y=some b/\Q (.bl (!b))
def zht {n:Nat} {x y:D} {b c:Bool} (h:eqD n x y=some b) (e:eqS x y=some c):b=c:=by
 cases n with
 | zero=>rw [zd6,e] at h; exact (Option.some.inj h).symm
 | succ n =>
  have z:eqD (n+1) x y=eqS x y:=by
   cases x <;> first | rfl | (cases y <;> first | rfl | (exact yU (show (none:Option Bool)=some c from e) (fun z=>nomatch z)))
  rw [z,e] at h; exact (Option.some.inj h).symm
def zbP (hu:X.A.units+100<cLine):Op2 X (compareOp .Eq) zkw:=by
 refine ⟨fun x y H Q=>∃ Hi dx dy b,zaR Hi H/\Den X.K Hi x dx/\Den X.K Hi y dy/\eqD 100 dx dy=some b/\Q (.bl b) H,?_,?_⟩
 ·intro pins s σ H x y v u Q I rx ry h
  obtain ⟨Hi,dx,dy,b,sub,d1,d2,e,q⟩:=h
  cases hn:eqS dx dy with
  | some c =>
   obtain ⟨h1,h2⟩:=zmb d1 d2 hn; refine zq7 pins s σ H x y v u Q I rx ry ⟨h1,?_⟩; rw [h2,<- zht e hn]; exact q
  | none=>exact (zrO I sub hu d1 d2 rx ry e hn).1 X.prog X.w X.xe _ ⟨.bl b,H,I,rfl,q⟩
 ·rintro Hi H x y dx dy Q Q2 s d1 d2 ⟨b,e,q⟩ fin
  exact ⟨Hi,dx,dy,b,s.sub,d1,d2,e,fin Hi H _ _ (Ext.refl s) (.bl b) q⟩
def zeH (hu:X.A.units+100<cLine):Op2 X (compareOp .NotEq) zlG:=by
 refine ⟨fun x y H Q=>∃ Hi dx dy b,zaR Hi H/\Den X.K Hi x dx/\Den X.K Hi y dy/\eqD 100 dx dy=some b/\Q (.bl (!b)) H,?_,?_⟩
 ·intro pins s σ H x y v u Q I rx ry h
  obtain ⟨Hi,dx,dy,b,sub,d1,d2,e,q⟩:=h
  cases hn:eqS dx dy with
  | some c =>
   obtain ⟨h1,h2⟩:=zmb d1 d2 hn; refine zq3 pins s σ H x y v u Q I rx ry ⟨h1,?_⟩; rw [h2,<- zht e hn]; exact q
  | none=>exact (zrO I sub hu d1 d2 rx ry e hn).2 X.prog X.w X.xe _ ⟨.bl (!b),H,I,rfl,q⟩
 ·rintro Hi H x y dx dy Q Q2 s d1 d2 ⟨b,e,q⟩ fin
  exact ⟨Hi,dx,dy,b,s.sub,d1,d2,e,fin Hi H _ _ (Ext.refl s) (.bl (!b)) q⟩
instance:MR2 zkw:=⟨fun _ _ _ _ h ⟨b,e,q⟩=>⟨b,e,h _ q⟩⟩
instance:MR2 zlG:=⟨fun _ _ _ _ h ⟨b,e,q⟩=>⟨b,e,h _ q⟩⟩
@[simp] theorem zru (n:Nat) (i j:Int):eqD n (.int i) (.int j)=some (decide (i=j)):=by cases n <;> rfl
@[simp] theorem zjt (n:Nat) (i j:List Nat):eqD n (.str i) (.str j)=some (decide (i=j)):=by cases n <;> rfl
@[simp] theorem znF (n:Nat):eqD n .non .non=some true:=by cases n <;> rfl
@[simp] theorem zp9 {Q:D->Prop} (i j:Int):zkw (.int i) (.int j) Q↔Q (.bl (decide (i=j))):=by simp [zkw]
@[simp] theorem zp7 {Q:D->Prop} (i j:List Nat):zkw (.str i) (.str j) Q↔Q (.bl (decide (i=j))):=by simp [zkw]
@[simp] theorem zp0 {Q:D->Prop} (i j:Int):zlG (.int i) (.int j) Q↔Q (.bl (!decide (i=j))):=by simp [zlG]
@[simp] theorem zpY {Q:D->Prop} (i j:List Nat):zlG (.str i) (.str j) Q↔Q (.bl (!decide (i=j))):=by simp [zlG]
def plc (p:List (List Nat)):D:=.tup (p.map .str)
theorem zhs (f:D->D->Option Bool) (hf:∀ i j:List Nat,f (.str i) (.str j)=some (decide (i=j))):∀ p q:List (List Nat),eqL f (p.map .str) (q.map .str)=some (decide (p=q))
 | [],[]=>rfl
 | [],_ :: _=>by simp [eqL]
 | _ :: _,[]=>by simp [eqL]
 | a :: p,b :: q=>by
  simp only [yw,eqL,hf,zhs f hf p q]
  by_cases h1:a=b <;> by_cases h2:p=q <;> simp [h1,h2]
def zju (n:Nat) (p q:List (List Nat)):eqD (n+1) (plc p) (plc q)=some (decide (p=q)):=zhs _ (fun i j=>zjt n i j) p q
@[simp] theorem zp8 {Q:D->Prop} (p q:List (List Nat)):zkw (plc p) (plc q) Q↔Q (.bl (decide (p=q))):=by
 unfold zkw; rw [zju]; simp
@[simp] theorem zpZ {Q:D->Prop} (p q:List (List Nat)):zlG (plc p) (plc q) Q↔Q (.bl (!decide (p=q))):=by
 unfold zlG; rw [zju]; simp
end
section
variable {n:Nat} {W:Wd} {Hi Hi' H':Hp} {Γ:Sts} {a:Addr} {o:OD}
def zjQ {i:Nat} (h:i<n) (e:adr n W σ i=some a):σ[i]?=some (some (.ref a)):=by
 unfold adr at e; rw [yW h] at e; exact zeQ e
end
section
def zay (i:Nat) (te:TE'):TS':=fun N Γ=>(∃ ds0,Γ[i]?=some (.own (.lst ds0)))/\te Γ fun d Γ1=>∃ ds,Γ1[i]?=some (.own (.lst ds))/\ds.length<sizeLine/\N.nx (Γ1.set i (.own (.lst (ds ++ [d]))))
def zc1 (i:Nat) {x:Str} {e:Expr} {te:TE'} {pos p apos cpos:Pos} (he:PE' X e te) (hN:X.N[i]?=some x:=by rfl) (hv:Vis X.env.scope x:=by first | exact YA rfl | exact yr (YA rfl) | exact yr (yr rfl)) (hd:yyD x:=by decide)
  (hcd:(x == ("__classdict__":Str))=false:=by decide) (hst:zc4 e=false:=by rfl)
  (hbase:attributeBase (.Name x p) "append" X.env (eval (.Name x p) X.env)=eval (.Name x p) X.env:=by rfl) (hline:(apos.endLine == cpos.line)=true:=by rfl)
  (hs:swapsWith (.Call (.Attribute (.Name x p) "append" apos) [e] [] cpos) none pos.line X.env=pure false:=by rfl) :
  PS' X (.Expr (.Call (.Attribute (.Name x p) "append" apos) [e] [] cpos) pos) (zay i te):=by
 have pl:zbN [e]=true:=by unfold zbN; rw [hst]; rfl
 have hfew:((backTo cpos (starEach [e] X.env)).all (fun x=>!x.1) && (backToKw cpos (keywordEach [] X.env)).all (fun x=>x.1.isSome)
   && decide ([e].length+([]:List Keyword).length+(if ([]:List Keyword).isEmpty then 0 else 1)<30))=true:=by
  rw [zah hst]; rfl
 have base:=zdM (zkK Yd PySem.F.slot_list_append PySem.F.type_list_append (zcT (X:=X)) (zcP (i:=i) (pos:=p) hN hv hd hcd) (zbO he.h zds (zah hst)) hbase hfew hline (zah hst) rfl) hs; refine ⟨PS.weak base ?_⟩
 rintro N2 σ H ⟨W,Hi,Γ,N,g,⟨⟨ds0,e0⟩,q⟩,l⟩
 have hi:i<X.N.length:=(yD.mp hN).1
 obtain ⟨a,h1,h2,h3,vs0,h4,h5⟩:=g.own i _ e0; refine ⟨.ref a,zjQ hi h1,.inl ⟨rfl,vs0,SqL.of h4⟩,W,Hi,Γ,_,g,q,?_⟩
 rintro v H1 ⟨Hi1,d,Γ1,s1,g1,den,ds,e1,hl,q1⟩
 obtain ⟨a',k1,k2,k3,vs,k4,k5⟩:=g1.own i _ e1; rw [h1] at k1; cases k1
 refine ⟨a,vs,v,rfl,rfl,k4,by rw [zm k5]; exact hl,?_⟩
 exact l.nx σ _ Hi1 _ s1 (g1.put (o:=.lst (ds ++ [d])) e1 h1 ⟨vs ++ [v],zo,zbG k5 (.cons den .nil)⟩) q1
instance {i:Nat} {te:TE'} [ME te]:MS (zay i te):=⟨fun N N' Γ h ⟨a,q⟩=>⟨a,ME.mono (t:=te) _ _ _ (fun _ _ ⟨ds,e,l,z⟩=>⟨ds,e,l,h.nx _ z⟩) q⟩⟩
end
inductive Imm:D->Prop where
 | non:Imm .non
 | bl (b:Bool):Imm (.bl b)
 | int (i:Int):Imm (.int i)
 | str (l:List Nat):Imm (.str l)
 | ty (n:String):Imm (.ty n)
 | cls (C:Addr):Imm (.cls C)
 | tup {ds:List D} (h:∀ d,d ∈ ds->Imm d):Imm (.tup ds)
def Imm.den {K:W.Frag} {H H':Hp} {v:V} {d:D} (im:Imm d) (h:Den K H v d) (e:∀ a xs,(H a=some (.tup xs)->H' a=some (.tup xs))/\∀ o,H a=some (.frz o (.tup xs))->H' a=some (.frz o (.tup xs))):Den K H' v d:=by
 induction h with
 | non=>exact .non
 | bl b=>exact .bl b
 | int i=>exact .int i
 | str l=>exact .str l
 | ty n=>exact .ty n
 | cls C=>exact .cls C
 | tup h l r ih =>
  cases im with
  | tup hi =>
   exact .tup ((e _ _).1 h) l fun j v d h1 h2=>ih j v d h1 h2 (hi d (yZ h2))
 | _=>cases im
def zbw:Slot->Slot
 | .own o=>.val o.toD
 | .val d=>.val d
 | .bk d _ xs=>.val (d xs.toD)
 | _=>.emp
section
variable {n:Nat} {W:Wd} {Hi Hi' H':Hp} {Γ:Sts} {a:Addr} {o:OD}
def zdT (n:Nat) (W:Wd) (Γ:Sts) (σ:St) (b:Addr):Prop:=(∃ (i:Nat) (o:OD),i<n/\Γ[i]?=some (.own o)/\adr n W σ i=some b)\/∃ (i:Nat) (d:D->D) (xs:OD),Γ[i]?=some (.bk d b xs)
open Classical in
noncomputable def zb3 (n:Nat) (W:Wd) (Γ:Sts) (σ:St) (Hi H:Hp):Hp:=fun b=>if zdT n W Γ σ b then H b else Hi b
open Classical in
noncomputable def zcV (n:Nat) (W:Wd) (Γ:Sts) (σ:St) (Hb:Hp):Hp:=fun b=>if zdT n W Γ σ b then none else Hb b
def zdT.hi (g:Good K n W Hi Γ σ H) {b:Addr} (h:zdT n W Γ σ b):Hi b=none/\∃ u,H b=some u/\(∀ xs,u≠.tup xs)/\∀ o xs,u≠.frz o xs:=by
 have key:∃ o,Hi b=none/\zbQ K Hi H b o:=by
  rcases h with ⟨i,o,hi,e,ad⟩ | ⟨i,d,xs,e⟩
  ·obtain ⟨a,h1,h2,h3,h4⟩:=g.own i o e
   rw [ad] at h1; cases h1; exact ⟨o,h2,h4⟩
  ·exact ⟨xs,(g.bk i d b xs e).hi,(g.bk i d b xs e).at_⟩
 obtain ⟨o,h2,h4⟩:=key; refine ⟨h2,?_⟩
 cases o with
 | lst ds=>obtain ⟨vs,q,_⟩:=h4; exact ⟨_,q,⟨fun _ z=>(by cases z),fun _ _ z=>(by cases z)⟩⟩
 | dic ds=>obtain ⟨kvs,q,_⟩:=h4; exact ⟨_,q,⟨fun _ z=>(by cases z),fun _ _ z=>(by cases z)⟩⟩
 | dit ds=>obtain ⟨kvs,ep,q,_⟩:=h4; exact ⟨_,q,⟨fun _ z=>(by cases z),fun _ _ z=>(by cases z)⟩⟩
 | obj C ds=>obtain ⟨dx,fs,q,_⟩:=h4; exact ⟨_,q,⟨fun _ z=>(by cases z),fun _ _ z=>(by cases z)⟩⟩
def zae (n:Nat) (Γ:Sts):Sts:=(Γ.take n).map zbw
def Good.look (g:Good K n W Hi Γ σ H):zaR Hi (zb3 n W Γ σ Hi H)/\Good K n ⟨H,zb3 n W Γ σ Hi H,[]⟩ (zb3 n W Γ σ Hi H) (zae n Γ) σ H:=by
 have s1:zaR Hi (zb3 n W Γ σ Hi H):=fun b u e=>by
  unfold zb3
  rw [yS (fun z=>by rw [(zdT.hi g z).1] at e; cases e)]
  exact e
 have inv:∀ (i:Nat) (sl:Slot),(zae n Γ)[i]?=some sl->∃ s0,Γ[i]?=some s0/\i<n/\sl=zbw s0:=fun i sl e=>by
  unfold zae at e; rw [yF] at e
  cases hj:(Γ.take n)[i]? with
  | none=>rw [hj] at e; cases e
  | some s0 =>
   rw [hj] at e; rw [List.getElem?_take] at hj; split at hj
   ·exact ⟨s0,hj,by assumption,(Option.some.inj e).symm⟩
   ·cases hj
 refine ⟨s1,g.len,⟨fun b u e=>?_,fun b xs e=>s1 _ _ (g.fz.tups b xs e)⟩,fun b u e _=>e,fun b u e=>⟨u,e⟩,fun b u e=>rfl,fun i d e=>?_,fun i o e=>?_,fun i j o o' a e=>?_,fun i d b xs e=>?_⟩
 ·unfold zb3 at e
  split at e
  ·exact e
  ·exact g.sub b u e
 ·obtain ⟨s0,hj,hi,hs⟩:=inv i _ e
  cases s0 with
  | val d' =>
   cases hs; obtain ⟨v,h1,h2⟩:=g.val i d hj; exact ⟨v,h1,h2.mono s1⟩
  | own o =>
   cases hs; obtain ⟨a,h1,h2,h3,h4⟩:=g.own i o hj; refine ⟨.ref a,zjQ hi h1,?_⟩
   have hO:zdT n W Γ σ a:=.inl ⟨i,o,hi,hj,h1⟩
   have hl:zb3 n W Γ σ Hi H a=H a:=by unfold zb3; rw [yW hO]
   cases o with
   | lst ds=>obtain ⟨vs,q,r⟩:=h4; exact Den.mkL (SqL.of (hl.trans q)) (r.mono s1)
   | dic ds=>obtain ⟨kvs,q,r⟩:=h4; exact Den.mkDK (.inl (hl.trans q)) (r.mono s1)
   | dit ds=>obtain ⟨kvs,ep,q,r⟩:=h4; exact Den.mkDT (hl.trans q) (r.mono s1)
   | obj C ds=>obtain ⟨dx,fs,q,r⟩:=h4; exact Den.mkO (hl.trans q) (r.mono s1)
  | emp=>cases hs
  | bk d' b xs =>
   cases hs
   obtain ⟨⟨v,h1,h2⟩,hol,_,_,h4,_⟩:=g.bk i d' b xs hj
   have hl:zb3 n W Γ σ Hi H b=H b:=by unfold zb3; rw [yW (.inr ⟨i,d',xs,hj⟩)]
   refine ⟨v,h1,hol b _ v xs ?_ (h2.mono s1)⟩
   cases xs with
   | lst ds=>obtain ⟨vs,q,r⟩:=h4; exact Den.mkL (SqL.of (hl.trans q)) (r.mono s1)
   | dic ds=>obtain ⟨kvs,q,r⟩:=h4; exact Den.mkDK (.inl (hl.trans q)) (r.mono s1)
   | dit ds=>obtain ⟨kvs,ep,q,r⟩:=h4; exact Den.mkDT (hl.trans q) (r.mono s1)
   | obj C ds=>obtain ⟨dx,fs,q,r⟩:=h4; exact Den.mkO (hl.trans q) (r.mono s1)
 all_goals
  obtain ⟨s0,hj,hi,hs⟩:=inv i _ e
  cases s0 <;> cases hs
def Good.unlook (g:Good K n W Hi Γ σ H) {Hb:Hp} {Γ':Sts} (sb:zaR (zb3 n W Γ σ Hi H) Hb) (g':Good K n ⟨H,zb3 n W Γ σ Hi H,[]⟩ Hb Γ' σ H') :
  Ext Hi H (zcV n W Γ σ Hb) H'/\Good K n W (zcV n W Γ σ Hb) Γ σ H'/\∀ v d,Imm d->Den K Hb v d->Den K (zcV n W Γ σ Hb) v d:=by
 have kp:∀ b u,H b=some u->H' b=some u:=fun b u e=>g'.keep b u e (by simp)
 have s1:zaR Hi (zcV n W Γ σ Hb):=fun b u e=>by
  have no:¬ zdT n W Γ σ b:=fun z=>by rw [(zdT.hi g z).1] at e; cases e
  unfold zcV; rw [yS no]; refine sb b u ?_; unfold zb3; rw [yS no]; exact e
 have ex:Ext Hi H (zcV n W Γ σ Hb) H':=by
  refine ⟨s1,kp,⟨fun b u e=>?_,fun b xs e=>?_⟩,fun b u e=>?_⟩
  ·unfold zcV at e
   split at e
   ·cases e
   ·exact g'.sub b u e
  ·have z:=g'.fz.tups b xs e
   have no:¬ zdT n W Γ σ b:=fun z=>by
    obtain ⟨_,w,hw,w1,_⟩:=zdT.hi g z; rw [kp b w hw] at e; cases e; exact w1 xs rfl
   unfold zcV; rw [yS no]; exact z
  ·unfold zcV
   split
   ·rename_i z
    exact (zdT.hi g z).1.symm
   ·rename_i z
    rw [g'.fro b u e]
    show zb3 n W Γ σ Hi H b=Hi b
    unfold zb3; rw [yS z]
 refine ⟨ex,g.ext ex,fun v d im den=>im.den den fun b xs=>?_⟩
 have no:∀ u,Hb b=some u->((∃ xs,u=.tup xs)\/∃ o xs,u=.frz o xs)->¬ zdT n W Γ σ b:=fun u e hu z=>by
  obtain ⟨_,w,hw,w1,w2⟩:=zdT.hi g z; have e2:=g'.sub b u e; rw [kp b w hw] at e2; cases e2
  rcases hu with ⟨xs,hu⟩ | ⟨o,xs,hu⟩
  ·exact w1 xs hu
  ·exact w2 o xs hu
 constructor
 ·intro e
  unfold zcV; rw [yS (no _ e (.inl ⟨_,rfl⟩))]; exact e
 ·intro o e
  unfold zcV; rw [yS (no _ e (.inr ⟨_,_,rfl⟩))]; exact e
end
section
def zaw (n:Nat) (t:TE'):TE':=fun Γ Q=>t (zae n Γ) fun d _=>Imm d/\Q d Γ
def zL (n:Nat) (t:TT'):TT':=fun Γ Q=>t (zae n Γ) fun b _=>Q b Γ
def zfd {e:Expr} {t:TE'} (h:PE' X e t):PE' X e (zaw X.N.length t):=by
 refine ⟨PE.weak h.h ?_⟩
 rintro σ H Q ⟨W,Hi,Γ,Q',g,q,fin⟩
 obtain ⟨s1,g1⟩:=g.look; refine ⟨_,_,_,_,g1,q,?_⟩
 rintro v H' ⟨Hb,d,Γ',sb,g',den,im,q'⟩
 obtain ⟨s2,g2,hd⟩:=g.unlook sb g'; exact fin v H' ⟨_,d,Γ,s2.hi,g2,hd v d im den,q'⟩
def ziQ {e:Expr} {t:TT'} (h:PT' X e t):PT' X e (zL X.N.length t):=by
 refine ⟨PT.weak h.h ?_⟩
 rintro σ H Q ⟨W,Hi,Γ,Q',g,q,fin⟩
 obtain ⟨s1,g1⟩:=g.look; refine ⟨_,_,_,_,g1,q,?_⟩; intro b H' Hb Γ' sb g' q'; obtain ⟨s2,g2,hd⟩:=g.unlook sb g'; exact fin b H' _ Γ s2.hi g2 q'
instance {n:Nat} {t:TE'} [ME t]:ME (zaw n t):=⟨fun Γ _ _ h q=>ME.mono (t:=t) _ _ _ (fun _ _ ⟨a,z⟩=>⟨a,h _ _ z⟩) q⟩
instance {n:Nat} {t:TT'} [MT t]:MT (zL n t):=⟨fun Γ _ _ h q=>MT.mono (t:=t) _ _ _ (fun _ _ z=>h _ _ z) q⟩
end
end PL
namespace L2
open PySem PySem.Spec PyProof.Rows
section
variable {h:Heap} {a:Addr} {kvs:List (List Key × V)} {ep:Nat}
def zjB (ok:HOk P w H h) (e:H a=some (.dE kvs ep)):kvs.length<=sizeLine/\(a == sysModules)=false /\
  ∃ xs,KT H kvs xs/\h.DictOfH (tupleKind (zcf P w)) a xs/\∃ o es,h.get? a=some o/\o.ExactDict/\o.data=.dict es ep/\es.toList=xs.map (entryOfKey (tupleKind (zcf P w))):=by
 obtain ⟨z,y,xs,r,o,es,h1,h2,h3,h4,h5⟩:=(show zbr P w H h a (.dE kvs ep) from ok a _ e)
 refine ⟨z,y,xs,r,⟨o,es,ep,h1,h2,h3,h4,fun x hx=>?_,h5⟩,o,es,h1,h2,h3,h4⟩
 obtain ⟨j,hj⟩:=YS hx
 have hl:j<kvs.length:=by
  rw [Paired.length r]; exact (yD.mp hj).1
 have q:=PL.paired_get j r (yB hl) hj
 exact zhq ok (by rw [<- q.1]; exact q.2.1)
end
def zmh (H:Hp) (a:Addr) (y:V) (r:Option V):Prop:=∃ kvs ep k b,H a=some (.dE kvs ep)/\y=.ref b/\H b=some (.tup (k.map kV))/\r=zly kvs k
section
variable {a:Addr} {y v:V} {u r:Value} {o:Option V}
def zll (I:Inv X pins σ H s) (g:zmh H a y o):s.TypeIs (.ref a) "dict":=by
 obtain ⟨kvs,ep,k,b,e,_⟩:=g; obtain ⟨_,_,xs,_,dd,_⟩:=zjB I.hok e; exact dd.typeIs
def zjx {Q:Value->Shared->Prop} (hu:A.units+1<cLine) (I:Inv X pins σ H s) (g:zmh H a y (some v)) (ry:zbI y u) (h:∀ w' s',Inv X pins σ H s'->zbI v w'->Q w' s') :
  wpAny (model X.prog X.w) A (getItem (.ref a) u) Q E s:=by
 obtain ⟨kvs,ep,k,b,e,ey,eb,l⟩:=g; subst ey
 cases (show u=Value.ref b from ry)
 obtain ⟨z,hd,xs,rel,dd,_⟩:=zjB I.hok e
 obtain ⟨w',hw,rw'⟩:=zgV.some_of (v:=v) (o:=(atKey xs k).map (·.2)) (by rw [l]; exact rel.val k)
 obtain ⟨p,hp,hp2⟩:=yK.mp hw; refine wpAny_getItem_heap (tupleKind_room_in1 hu) (zhq I.hok eb) dd hp ?_; rw [hp2]; exact h w' _ (I.tok _) rw'
def zsA {Q:Value->Shared->Prop} (hu:A.units+1<cLine) (I:Inv X pins σ H s) (g:zmh H a y o) (ry:zbI y u) (h:∀ s',Inv X pins σ H s'->Q (.bool o.isSome) s') :
  wpAny (model X.prog X.w) A (compareOp .In u (.ref a)) Q E s:=by
 obtain ⟨kvs,ep,k,b,e,ey,eb,l⟩:=g; subst ey
 cases (show u=Value.ref b from ry)
 obtain ⟨z,hd,xs,rel,dd,_⟩:=zjB I.hok e; refine wpAny_in_heap (tupleKind_room_in1 hu) (zhq I.hok eb) hd dd ?_; have q:=(rel.val k).isSome_eq; rw [Option.isSome_map] at q; rw [<- q,<- l]; exact h _ (I.tok _)
def znG {Q:Value->Shared->Prop} (hu:A.units+1<cLine) (I:Inv X pins σ H s) (g:zmh H a y o) (ry:zbI y u) (h:∀ s',Inv X pins σ H s'->Q (.bool (!o.isSome)) s') :
  wpAny (model X.prog X.w) A (compareOp .NotIn u (.ref a)) Q E s:=by
 obtain ⟨kvs,ep,k,b,e,ey,eb,l⟩:=g; subst ey
 cases (show u=Value.ref b from ry)
 obtain ⟨z,hd,xs,rel,dd,_⟩:=zjB I.hok e; refine wpAny_notIn_heap (tupleKind_room_in1 hu) (zhq I.hok eb) hd dd ?_; have q:=(rel.val k).isSome_eq; rw [Option.isSome_map] at q; rw [<- q,<- l]; exact h _ (I.tok _)
end
section
def znt (hu:X.A.units+1<cLine):IxR X (fun x y H Q=>∃ a v,x=.ref a/\zmh H a y (some v)/\Q v H):=by
 intro value slice pins s σ H x y v u Q I rx ry h hs; obtain ⟨a,w,rfl,g,q⟩:=h; cases rx
 exact tail_any (zll I g) PySem.F.slot_dict_getitem.lookup (zjx hu I g ry fun w' s3 I3 rw'=>⟨w,H,I3,rw',q⟩) hs
def zoZ (hu:X.A.units+1<cLine):OpR X (compareOp .In) (fun x y H Q=>∃ a o,y=.ref a/\zmh H a x o/\Q (.bl o.isSome) H):=by
 intro pins s σ H x y v u Q I rx ry h; obtain ⟨a,o,rfl,g,q⟩:=h; cases ry
 exact zsA hu I g rx fun s' I'=>⟨.bl _,H,I',rfl,q⟩
def zi7 (hu:X.A.units+1<cLine):OpR X (compareOp .NotIn) (fun x y H Q=>∃ a o,y=.ref a/\zmh H a x o/\Q (.bl (!o.isSome)) H):=by
 intro pins s σ H x y v u Q I rx ry h; obtain ⟨a,o,rfl,g,q⟩:=h; cases ry
 exact znG hu I g rx fun s' I'=>⟨.bl _,H,I',rfl,q⟩
end
end L2
namespace PL
open PySem L2
section
variable {Hi:Hp}
theorem znI {v:V}:∀ {k:Key},Den K H v (zfB k)->v=kV k
 | .inl i,h=>h.intI
 | .inr x,h=>h.strI
theorem zhv:∀ {vs:List V} {ks:List Key},zb4 K H vs (ks.map zfB)->vs=ks.map kV
 | [],[],_=>rfl
 | [],_ :: _,h=>nomatch h
 | _ :: _,[],h=>nomatch h
 | v :: vs,k :: ks,.cons r t=>by rw [yw,<- znI r,<- zhv t]
def zle {a b:Key} (h:zfB a=zfB b):a=b:=by
 cases a with
 | inl i=>cases b with
  | inl j=>injection h with h; rw [h]
  | inr y=>cases h
 | inr x=>cases b with
  | inl j=>cases h
  | inr y =>
   injection h with h
   obtain ⟨⟨x⟩⟩:=x
   obtain ⟨⟨y⟩⟩:=y
   exact yg (fun l=>Sum.inr (Str.mk ⟨l⟩)) h
theorem zf4:∀ {a b:List Key},a.map zfB=b.map zfB->a=b
 | [],[],_=>rfl
 | [],_ :: _,h=>nomatch h
 | _ :: _,[],h=>nomatch h
 | x :: a,y :: b,h=>by
  injection h with h1 h2
  rw [zle h1,zf4 h2]
def zln {v:V} {ks:List Key} (h:Den K Hi v (.tup (ks.map zfB))):∃ b,v=.ref b/\Hi b=some (.tup (ks.map kV)):=by
 obtain ⟨a,vs,rfl,h1,h2⟩:=h.tupJ; rw [zhv h2] at h1; exact ⟨a,rfl,h1⟩
open Classical in
noncomputable def zeI (ds:List (D × D)) (k:D):Option D:=(ds.find? fun p=>decide (p.1=k)).map (·.2)
open Classical in
def zjC {p:D × D} {r:List (D × D)} {k:D} (e:p.1=k):zeI (p :: r) k=some p.2:=by simp [zeI,List.find?_cons,e]
def zjD {p:D × D} {r:List (D × D)} {k:D} (e:¬ p.1=k):zeI (p :: r) k=zeI r k:=by simp [zeI,List.find?_cons,e]
inductive OptD (K:W.Frag) (H:Hp):Option V->Option D->Prop where
 | none:OptD K H none none
 | some {v:V} {d:D} (h:Den K H v d):OptD K H (some v) (some d)
def zrq {kvs:List (List Key × V)} {ds:List (D × D)} (r:znU K H kvs ds) (ks:List Key):OptD K H (zly kvs ks) (zeI ds (.tup (ks.map zfB))):=by
 induction r with
 | nil=>exact .none
 | @cons p q ps qs h t ih =>
  by_cases e:p.1=ks
  ·rw [zg0 e,zjC (h.1.trans (by rw [e]))]
   exact .some h.2
  ·rw [zg1 e,zjD (fun z=>e (zf4 (by
    have:=h.1.symm.trans z
    injection this)))]
   exact ih
def OptD.isSome {o:Option V} {d:Option D} (h:OptD K H o d):o.isSome=d.isSome:=by cases h <;> rfl
open Classical in
end
section
def zgy:R2':=fun x y Q=>∃ (ds:List (D × D)) (ks:List Key) (v:D),x=.dit ds/\y=.tup (ks.map zfB)/\zeI ds y=some v/\Q v
def zmK (neg:Bool):R2':=fun x y Q=>∃ (ks:List Key) (ds:List (D × D)),x=.tup (ks.map zfB)/\y=.dit ds/\Q (.bl (if neg then !(zeI ds x).isSome else (zeI ds x).isSome))
def znH {K:W.Frag} {Hi H:Hp} {x y:V} {ds:List (D × D)} {ks:List Key} (s:Fz Hi H) (d1:Den K Hi x (.dit ds)) (d2:Den K Hi y (.tup (ks.map zfB))):∃ a o,x=.ref a/\zmh H a y o/\OptD K Hi o (zeI ds (.tup (ks.map zfB))):=by
 obtain ⟨a,kvs,ep,rfl,h1,h2⟩:=d1.ditI; obtain ⟨b,rfl,h3⟩:=zln d2; exact ⟨a,_,rfl,⟨kvs,ep,ks,b,s.sub _ _ h1,rfl,s.sub _ _ h3,rfl⟩,zrq h2 ks⟩
def zrj (hu:X.A.units+1<cLine):Ixs X zgy:=⟨_,znt hu,by
 rintro Hi H x y dx dy Q Q2 s d1 d2 ⟨ds,ks,v,rfl,rfl,e,q⟩ fin
 obtain ⟨a,o,rfl,g,r⟩:=znH s d1 d2; rw [e] at r
 cases r with
 | some h=>exact ⟨a,_,rfl,g,fin Hi H _ _ (Ext.refl s) h q⟩⟩
def zrb (hu:X.A.units+1<cLine):Op2 X (compareOp .In) (zmK false):=⟨_,zoZ hu,by
 rintro Hi H x y dx dy Q Q2 s d1 d2 ⟨ks,ds,rfl,rfl,q⟩ fin
 obtain ⟨a,o,rfl,g,r⟩:=znH s d2 d1; refine ⟨a,o,rfl,g,?_⟩; rw [r.isSome]; exact fin Hi H _ _ (Ext.refl s) (.bl _) q⟩
def zkM (hu:X.A.units+1<cLine):Op2 X (compareOp .NotIn) (zmK true):=⟨_,zi7 hu,by
 rintro Hi H x y dx dy Q Q2 s d1 d2 ⟨ks,ds,rfl,rfl,q⟩ fin
 obtain ⟨a,o,rfl,g,r⟩:=znH s d2 d1; refine ⟨a,o,rfl,g,?_⟩; rw [r.isSome]; exact fin Hi H _ _ (Ext.refl s) (.bl _) q⟩
end
end PL
namespace PySem
section
variable {dd kk:Addr} {ob:Obj} {ens:Array DictEntry} {tick nn:Nat}
def zcs (hob:s.heap.get? dd=some ob) (hex:ob.ExactDict):s.TypeIs (.ref dd) "dict":=⟨ob,hob,hex.1⟩
def zf3 {Q:Value->Shared->Prop} (hsys:(dd == sysModules)=false) (hob:s.heap.get? dd=some ob) (hex:ob.ExactDict) (hdt:ob.data=.dict ens tick)
  (fin:Q (.ref s.heap.objs.size) { s with heap:=s.heap.push { cls:=.type "dict_keyiterator",data:=.fields #[.ref dd,.int 0 0,.int ens.size 0,.int tick 0] } }) :
  wpAny (model prog w) A (pyIter (.ref dd)) Q E s:=by
 have ty:=zcs hob hex; refine wpAny_pyIter_slot ty F.slot_dict_iter (YD F.slot_dict_iter ty F.entry_dict_iter ?_ (F.args_dict_iter_1 _))
 unfold Builtin.«dict.__iter__» Builtin.Dict.dictSlotNone
 refine yA (yA (wpAny_notOrdered_dict ty ?_))
 show wpAny _ _ (pure (Value.ref dd)) _ _ s
 refine yG (show wpAny _ _ (Builtin.Dict.showsAll dd >>= _) _ _ s from ?_)
 unfold Builtin.Dict.showsAll
 rw [yS (by rw [hsys]; exact yN)]
 refine yA (yG (yA (wpAny_dictEntries hob hdt (yA (wpAny_dictEpoch hob hdt ?_))))); refine yA (yi (yG ⟨_,rfl,"dict_keyiterator",_,⟨_,yI _ rfl,rfl⟩,F.slot_dict_keyiterator_next.lookup,?_⟩))
 simpa [rawInt] using fin
def zgO {ii:Nat} {Q:Option Value->Shared->Prop} (st:s.heap.IsKeyIter kk dd ii ens.size tick) (hob:s.heap.get? dd=some ob) (hdt:ob.data=.dict ens tick) (lt:ii<ens.size)
  (fin:∀ h2,h2.IsKeyIter kk dd (ii+1) ens.size tick->Heap.SameBut kk s.heap h2->Q (some ens[ii].key) { s with heap:=h2 }):wpAny (model prog w) A (pyNext (.ref kk)) Q E s:=by
 obtain ⟨ki,hki,hkc,hkd⟩:=id st; have ty:=st.typeIs; unfold pyNext; refine yA (wpAny_attempt (wpAny_callSpecial?_slot (name:=Str.ofString "__next__") ty F.slot_dict_keyiterator_next (YD F.slot_dict_keyiterator_next ty F.entry_dict_keyiterator_next ?_ (F.args_dict_keyiterator_next_1 _)))); refine yA (yG (yA (yA ?_)))
 first
  | refine yA (Yg ty (yG (yA (wpAny_fieldsOf hki hkd ?_))))
  | refine yA (wpAny_typeNameOf_keyiter ty (yG (yA (wpAny_fieldsOf hki hkd ?_))))
 simp only [show Builtin.Dict_items.ownsTuple "dict_keyiterator"=false by decide,YY,if_false]
 show wpAny _ _ (if (Value.ref dd == Value.none)=true then _ else _) _ _ s
 rw [yS (show ¬ ((Value.ref dd == Value.none)=true) from yN)]
 refine yA (yG (yA (wpAny_dictEntries hob hdt ?_)))
 rw [yS (by simp)]
 refine yA (yG (yA (wpAny_dictEpoch hob hdt ?_)))
 rw [yS (by simp)]
 refine yG ?_
 simp only [show ¬ ((ii:Int)<0) from by omega,if_false,YI,YN lt]
 refine yA ?_
 first
  | refine yA (Yg ty (yG (yA (wpAny_isOneOf_keyiter ty ?_))))
  | refine yA (wpAny_typeNameOf_keyiter ty (yG (yA (wpAny_isOneOf_keyiter ty ?_))))
 show wpAny _ _ (setField (.ref kk) 1 (rawInt ((ii:Int)+1)) >>= _) _ _ s
 have st2:(s.heap.update kk (Obj.mapFields (·.setIfInBounds 1 (rawInt ((ii:Int)+1))))).IsKeyIter kk dd (ii+1) ens.size tick :=
  ⟨_,YB _ hki (Obj.isFreed_of_fields (Obj.data_mapFields hkd _)),(Obj.cls_mapFields ..).trans hkc,by rw [Obj.data_mapFields hkd]; simp [rawInt]⟩
 refine yA (YW hki hkd (by simp) (yA (Ya ?_)))
 refine yA (wpAny_isOneOf_keyiter (s:={ s with heap:=s.heap.update kk (Obj.mapFields (·.setIfInBounds 1 (rawInt ((ii:Int)+1)))) }) st2.typeIs ?_)
 show wpAny _ _ (pure ens[ii].key) _ _ _
 exact yG (yG ⟨_,rfl,yG (fin _ st2 (Heap.SameBut.update ..))⟩)
def zh8 {ii:Nat} {Q:Option Value->Shared->Prop} (calm:A.handled=none) (st:s.heap.IsKeyIter kk dd ii ens.size tick) (hob:s.heap.get? dd=some ob) (hdt:ob.data=.dict ens tick) (ge:ens.size<=ii)
  (fin:∀ h2,Heap.ExtBut kk s.heap h2->Q none { s with heap:=h2 }):wpAny (model prog w) A (pyNext (.ref kk)) Q E s:=by
 obtain ⟨ki,hki,hkc,hkd⟩:=id st; have ty:=st.typeIs; unfold pyNext; refine yA (wpAny_attempt (wpAny_callSpecial?_slot (name:=Str.ofString "__next__") ty F.slot_dict_keyiterator_next (YD F.slot_dict_keyiterator_next ty F.entry_dict_keyiterator_next ?_ (F.args_dict_keyiterator_next_1 _)))); refine yA (yG (yA (yA ?_)))
 first
  | refine yA (Yg ty (yG (yA (wpAny_fieldsOf hki hkd ?_))))
  | refine yA (wpAny_typeNameOf_keyiter ty (yG (yA (wpAny_fieldsOf hki hkd ?_))))
 simp only [show Builtin.Dict_items.ownsTuple "dict_keyiterator"=false by decide,YY,if_false]
 show wpAny _ _ (if (Value.ref dd == Value.none)=true then _ else _) _ _ s
 rw [yS (show ¬ ((Value.ref dd == Value.none)=true) from yN)]
 refine yA (yG (yA (wpAny_dictEntries hob hdt ?_)))
 rw [yS (by simp)]
 refine yA (yG (yA (wpAny_dictEpoch hob hdt ?_)))
 rw [yS (by simp)]
 refine yG ?_
 simp only [show ¬ ((ii:Int)<0) from by omega,if_false,YI,Array.getElem?_eq_none ge]
 refine yA ?_
 first
  | refine yA (Yg ty (yG ?_))
  | refine yA (wpAny_typeNameOf_keyiter ty (yG ?_))
 show wpAny _ _ (setField (.ref kk) 0 .none >>= _) _ _ s
 refine yA (YW hki hkd (by simp) (show wpAny _ _ (newExc (.type "StopIteration") [] >>= _) _ _ _ from yA ?_))
 simp only [newExc,newTuple]
 apply yA
 refine yi ?_ (by size_fits)
 refine yA (m:=firstArgMember _ _) (wpAny_of_eq (a:=Value.none) (by first | rfl | (simp only [firstArgMember]; rfl)) (yi ?_ (by size_fits)))
 simp only [raiseNew]; refine yA (wpAny_handled ?_)
 rw [show A.in1.handled=none from calm]
 refine (yA (yG (wpAny_throw ?_))); refine yA (wpAny_isInstance (T:="StopIteration") (b:=true) ⟨_,yI _ rfl,rfl⟩ isSubtype_stop (yG (fin _ ?_))); exact ((Heap.SameBut.update ..).extBut.push _).push _
end
end PySem
namespace L2
open PySem PySem.Spec PyProof.Rows
section
variable {tg:Expr}
end
end L2
namespace PL
open PySem L2
theorem zns {K:W.Frag} {Hi:Hp}:∀ k:Key,Den K Hi (kV k) (zfB k)
 | .inl i=>.int i
 | .inr x=>by
  have e:kV (.inr x)=.str (st x.cps.toList):=by
   show V.str x=_
   rfl
  rw [e]; exact .str _
theorem zl6 {K:W.Frag} {Hi:Hp}:∀ ks:List Key,zb4 K Hi (ks.map kV) (ks.map zfB)
 | []=>.nil
 | k :: ks=>.cons (zns k) (zl6 ks)
end PL
namespace PySem
section
variable {dd kk:Addr} {ob:Obj} {ens:Array DictEntry} {tick nn:Nat}
def zon {Q:Value->Shared->Prop} (hsys:(dd == sysModules)=false) (hob:s.heap.get? dd=some ob) (hex:ob.ExactDict) (hdt:ob.data=.dict ens tick) (fin:Q (.int ens.size s.toks) { s with toks:=s.toks+1 }) :
  wpAny (model prog w) A (call (.builtin "dict.__len__") [.ref dd]) Q E s:=by
 have ty:=zcs hob hex; refine YD F.slot_dict_len ty F.entry_dict_len ?_ (F.args_dict_len_1 _)
 show wpAny _ _ (dictSize dd >>= _) _ _ s
 unfold dictSize
 refine yA (yA (wpAny_dictEntries hob hdt (yG (show wpAny _ _ (Builtin.Dict.pendingCount dd >>= _) _ _ s from yA (wpAny_pendingCount_other hsys ?_)))))
 refine wpAny_ret_mkInt ?_
 have z:((ens.size:Int)+((0:Nat):Int))=ens.size:=by omega
 first
  | exact fin
  | (rw [z]; exact fin)
  | (refine ⟨_,rfl,?_⟩; simpa using fin)
def zrg {Q:Value->Shared->Prop} (hsys:(dd == sysModules)=false) (hob:s.heap.get? dd=some ob) (hex:ob.ExactDict) (hdt:ob.data=.dict ens tick) (few:ens.size<=sizeLine) (fin:Q (.int ens.size (s.toks+1)) { s with toks:=s.toks+1+1 }) :
  wpAny (model prog w) A (call (.builtin "len") [.ref dd]) Q E s :=
 PyProof.Rows.call_len_slot (n:=ens.size) (zcs hob hex) F.slot_dict_len (fun Q' hq=>zon hsys hob hex hdt hq) (by omega) (by rw [sizeLine_eq] at few; omega) fin
def zpm {Q:Bool->Shared->Prop} (hob:s.heap.get? dd=some ob) (hex:ob.ExactDict) (fin:Q false s):wpAny (model prog w) A (Builtin.List.listLengthHint (.ref dd)) Q E s:=by
 have ty:=zcs hob hex; unfold Builtin.List.listLengthHint; refine yA (wpAny_specialOf ty F.slot_dict_len.lookup ?_); generalize hid:("dict.__len__":String)=id0
 wp_delta
 rw [show splitId id0=some ("dict","__len__") from by subst hid; decide +kernel]
 subst hid
 refine yA (wpAny_isInstance (T:="dict") (b:=true) ty (by rw [isSubtype_type]; kernel_rfl) ?_)
 refine wpAny_ite_split (fun z=>yU z (by decide)) (fun _=>?_)
 refine wpAny_ite_split (fun _=>?_) (fun z=>yU (by decide +kernel) z)
 refine yA (wpAny_typeOf ty ?_); exact yG fin
def zkb (calm:A.handled=none) (hne:dd≠kk) (hdt:ob.data=.dict ens tick):Walks prog w A kk [kk,dd] [kk] ens.size (fun i v=>∃ e,ens[i]?=some e/\v=e.key) (fun i h=>h.IsKeyIter kk dd i ens.size tick/\h.get? dd=some ob) where
 sub:=fun b hb=>by
  have e:b=kk:=by simpa using hb
  simp [e]
 frame:=fun _ _ _ st hk=>⟨st.1.at fun o e=>hk kk (by simp) o e,hk dd (by simp) _ st.2⟩
 item:=fun i s Q E hi st hQ=>zgO st.1 st.2 hdt hi fun h2 st2 sb=>hQ _ h2 s.toks ⟨_,YN hi,rfl⟩ ⟨st2,(sb.2 dd hne).trans st.2⟩ fun b o hb e=>(sb.2 b (fun z=>hb (by simp [z]))).trans e
 done:=fun s Q E st hQ=>zh8 calm st.1 st.2 hdt (yJ _) fun h2 eb=>hQ h2 s.toks fun b o hb e=>eb b o (fun z=>hb (by simp [z])) e
 self:=fun _ _ _ _ st hQ=>wpAny_pyIter_keyiter st.1 hQ
def zic {R:Result->Shared->Prop} {S:Addr} {res:Value} {c₀:Nat} (calm:A.handled=none) (hsys:(dd == sysModules)=false) (hob:s.heap.get? dd=some ob) (hex:ob.ExactDict) (hdt:ob.data=.dict ens tick) (few:ens.size<=sizeLine) (hne:S≠dd) (hS:s.heap.get? S=some { cls:=.type "list",data:=.seq #[] c₀ })
  (fin:∀ h2 tk acc c2,(∀ b o,b≠S->s.heap.get? b=some o->h2.get? b=some o)->h2.get? S=some { cls:=.type "list",dict:=none,data:=.seq acc c2,slots:=#[] }->ItemsOf (fun i v=>∃ e,ens[i]?=some e/\v=e.key) acc ens.size->R (.ok (.ret res)) { s with heap:=h2,toks:=tk }) :
  wpAny (model prog w) A.in1 (Builtin.List.listExtendWith (.ref S) (.ref dd) res) (fun f s'=>match f with | .done f=>R (.ok f) s' | .again c'=>c'.quiet=true/\codeAny (model prog w) A c' R s') (fun e s'=>R (.error e) s') s:=by
 have hSlt:S<s.heap.objs.size:=yH hS
 have hSI:S≠s.heap.objs.size:=yP hSlt
 have hdI:dd≠s.heap.objs.size:=yP (yH hob)
 have hSf:S ∉ [s.heap.objs.size,dd]:=fun hm=>by
  rcases yO.mp hm with z | z
  ·exact hSI z
  ·exact hne (yk.mp z)
 have W:=(zkb (prog:=prog) (w:=w) (A:=A.in1) (kk:=s.heap.objs.size) calm hdI hdt).toS
 have loop:∀ (h:Heap) (c₁ tk:Nat),h.IsKeyIter s.heap.objs.size dd 0 ens.size tick->h.get? dd=some ob->(∀ b o,b≠S->s.heap.get? b=some o->h.get? b=some o) ->
   h.get? S=some { cls:=.type "list",data:=.seq #[] c₁ }->codeAny (model prog w) A (.builtin "list.extend.loop" ⟨[.ref S,.ref s.heap.objs.size,res],[]⟩) R { s with heap:=h,toks:=tk }:=by
  intro h c₁ tk hit hod hk hS₁
  refine codeAny_extend_loopS W few S hSf res ens.size 0 _ #[] c₁ rfl (YE _) ⟨hit,hod⟩ hS₁ (ItemsOf.nil _) fun s' acc' c' hm hS' hacc=>?_
  rw [Moved.eq_with hm]
  refine fin s'.heap s'.toks acc' c' (fun b o hb e=>hm.heap b o (fun z=>?_) (hk b o hb e)) hS' hacc
  rcases yO.mp z with e' | z
  ·exact hb e'
  ·exact yU (yH e) (by rw [yk.mp z]; exact YR _)
 unfold Builtin.List.listExtendWith; refine yA (wpAny_typeOf (zcs hob hex) ?_)
 have h1:Builtin.List.listSameRef (.ref S) (.ref dd)=false:=by simp [Builtin.List.listSameRef,hne]
 simp only [h1,show (Value.type "dict" == Value.type "list")=false by decide,show (Value.type "dict" == Value.type "tuple")=false by decide,Bool.or_false,YY,if_false]
 refine yA (zf3 hsys hob hex hdt ?_); refine yA (Ya (zpm (yC _ hob) hex ?_))
 have hit₁:(s.heap.push { cls:=.type "dict_keyiterator",data:=.fields #[.ref dd,.int 0 0,.int ens.size 0,.int tick 0] }).IsKeyIter s.heap.objs.size dd 0 ens.size tick:=⟨_,yI _ rfl,rfl,rfl⟩
 have hS₁:=yC { cls:=.type "dict_keyiterator",data:=.fields #[.ref dd,.int 0 0,.int ens.size 0,.int tick 0] } hS
 refine wpAny_ite_split (fun _=>?_) (fun _=>yG ⟨plainId_quiet F.plain_extend_loop _,loop _ c₀ _ hit₁ (yC _ hob) (fun b o _ e=>yC _ e) hS₁⟩)
 refine yA (wpAny_rule (yA ?_))
 show wpAny _ _ (updateSeq S (·.push .none) >>= fun _=>updateSeq S (·.pop)) _ _ _
 refine yA (wpAny_updateSeq hS₁ rfl ?_); have hS₂:=YB (Obj.mapSeq (·.push Value.none)) hS₁ rfl
 refine wpAny_updateSeq (hz:=by seq_fits) hS₂ rfl ?_
 have hS₃:=YB (Obj.mapSeq (·.pop)) hS₂ rfl
 have oth:∀ b o,b≠S->(s.heap.push { cls:=.type "dict_keyiterator",data:=.fields #[.ref dd,.int 0 0,.int ens.size 0,.int tick 0] }).get? b=some o->(((s.heap.push { cls:=.type "dict_keyiterator",data:=.fields #[.ref dd,.int 0 0,.int ens.size 0,.int tick 0] }).update S (Obj.mapSeq (·.push Value.none))).update S (Obj.mapSeq (·.pop))).get? b=some o :=
  fun b o hb e=>(yX _ _ (Ne.symm hb)).trans ((yX _ _ (Ne.symm hb)).trans e)
 exact yG ⟨plainId_quiet F.plain_extend_loop _,loop _ _ _ (hit₁.at fun o e=>oth _ o (Ne.symm hSI) e) (oth _ _ (Ne.symm hne) (yC _ hob)) (fun b o hb e=>oth b o hb (yC _ e)) hS₃⟩
def zli {R:Result->Shared->Prop} {S:Addr} (calm:A.handled=none) (hsys:(dd == sysModules)=false) (hob:s.heap.get? dd=some ob) (hex:ob.ExactDict) (hdt:ob.data=.dict ens tick) (few:ens.size<=sizeLine) (hne:S≠dd) (hS:s.heap.get? S=some { cls:=.type "list",data:=.seq #[] })
  (fin:∀ h2 tk acc c2,(∀ b o,b≠S->s.heap.get? b=some o->h2.get? b=some o)->h2.get? S=some { cls:=.type "list",dict:=none,data:=.seq acc c2,slots:=#[] }->ItemsOf (fun i v=>∃ e,ens[i]?=some e/\v=e.key) acc ens.size->R (.ok (.ret .none)) { s with heap:=h2,toks:=tk }) :
  wpAny (model prog w) A.in1 (Builtin.«list.__init__» ⟨[.ref S,.ref dd],[]⟩) (fun f s'=>match f with | .done f=>R (.ok f) s' | .again c'=>c'.quiet=true/\codeAny (model prog w) A c' R s') (fun e s'=>R (.error e) s') s:=by
 show wpAny _ _ (Builtin.List.listItems (.ref S) >>= fun old=>Builtin.List.listUpdate (.ref S) (fun _=>#[]) >>= fun _=>letGo old.toList.reverse >>= fun _=>Builtin.List.listExtendWith (.ref S) (.ref dd) .none) _ _ s
 unfold Builtin.List.listItems; refine yA (yA (YX hS rfl (yG ?_)))
 show wpAny _ _ (updateSeq S (fun _=>#[]) >>= fun _=>letGo (#[]:Array Value).toList.reverse >>= fun _=>Builtin.List.listExtendWith (.ref S) (.ref dd) .none) _ _ s
 have hS₂:=YB (Obj.mapSeq (fun _=>(#[]:Array Value))) hS rfl
 have oth:∀ b o,b≠S->s.heap.get? b=some o->(s.heap.update S (Obj.mapSeq (fun _=>(#[]:Array Value)))).get? b=some o:=fun b o hb e=>(yX _ _ (Ne.symm hb)).trans e
 refine yA (wpAny_updateSeq hS rfl (yA (wpAny_letGo ?_)))
 exact zic calm hsys (oth dd _ (Ne.symm hne) hob) hex hdt few hne hS₂ fun h2 tk acc c2 hk hS' hacc=>fin h2 tk acc c2 (fun b o hb e=>hk b o hb (oth b o hb e)) hS' hacc
def zkY {Q:Value->Shared->Prop} (calm:A.handled=none) (hsys:(dd == sysModules)=false) (hob:s.heap.get? dd=some ob) (hex:ob.ExactDict) (hdt:ob.data=.dict ens tick) (few:ens.size<=sizeLine)
  (fin:∀ h2 tk acc c2,(∀ b o,s.heap.get? b=some o->h2.get? b=some o)->h2.get? s.heap.objs.size=some { cls:=.type "list",dict:=none,data:=.seq acc c2,slots:=#[] }->ItemsOf (fun i v=>∃ e,ens[i]?=some e/\v=e.key) acc ens.size->Q (.ref s.heap.objs.size) { s with heap:=h2,toks:=tk }) :
  wpAny (model prog w) A (call (.type "list") [.ref dd]) Q E s:=by
 refine callType_codes (Q₁:=fun obj s₁=>obj=.ref s.heap.objs.size/\s₁={ s with heap:=s.heap.push { cls:=.type "list",data:=.seq #[] } }) F.called_list (F.typeCall_list_1 _) F.entry_list_init (code_list_new _ ⟨rfl,rfl⟩) fun obj s₁ h₁=>?_
 obtain ⟨rfl,rfl⟩:=h₁
 have hS:(s.heap.push { cls:=.type "list",data:=.seq #[] }).get? s.heap.objs.size=some { cls:=.type "list",data:=.seq #[] }:=yI _ rfl
 refine ⟨⟨_,hS,rfl⟩,F.args_list_init_2 _ _,zli (A:=A.in1) calm hsys (yC _ hob) hex hdt few (Ne.symm (yP (yH hob))) hS fun h2 tk acc c2 hk hS' hacc=>?_⟩
 exact ⟨rfl,fin h2 tk acc c2 (fun b o e=>hk b o (yP (yH e)) (yC _ e)) hS' hacc⟩
end
end PySem
namespace L2
open PySem PySem.Spec PyProof.Rows
section
def zpU:Value->V
 | .ref b=>.ref b
 | _=>.non
def Inv.keys {pins:yyL} {σ:St} {H:Hp} {s:Shared} {a:Addr} {kvs:List (List Key × V)} {ep:Nat} (I:Inv X pins σ H s) (e:H a=some (.dE kvs ep)):kvs.length<=sizeLine/\(a == sysModules)=false/\∃ (o:Obj) (es:Array DictEntry),s.heap.get? a=some o/\o.ExactDict/\o.data=.dict es ep/\es.size=kvs.length /\
  ∀ (i:Nat) k y,kvs[i]?=some (k,y)->∃ b x,es[i]?=some x/\x.key=.ref b/\H b=some (.tup (k.map kV)):=by
 obtain ⟨z,hd,xs,rel,_,o,es,ho,hx,hdat,he⟩:=zjB I.hok e
 have hl:kvs.length=xs.length:=Paired.length rel
 have hs:es.size=kvs.length:=by
  have:=yg List.length he
  rw [yE,Yc] at this; rw [this,hl]
 refine ⟨z,hd,o,es,ho,hx,hdat,hs,fun i k y hk=>?_⟩
 have hi:i<kvs.length:=(yD.mp hk).1
 have hix:i<xs.length:=by rw [<- hl]; exact hi
 have hi':i<es.size:=by rw [hs]; exact hi
 have q:=PL.paired_get i rel hk (yB hix); refine ⟨xs[i].2.1,es[i],YN hi',?_,q.2.1⟩
 have e1:es.toList[i]?=(xs.map (entryOfKey (tupleKind (zcf X.prog X.w))))[i]?:=by rw [he]
 rw [yF,yB hix,Array.getElem?_toList,YN hi'] at e1; rw [Option.some.inj e1]; rfl
def zjI:zcp X (.builtin "len") (fun xs H Q=>∃ a kvs ep,xs=[.ref a]/\H a=some (.dE kvs ep)/\Q (.int kvs.length) H):=by
 intro pins s σ H xs us Q I r h; obtain ⟨a,kvs,ep,rfl,e,q⟩:=h; obtain ⟨u,rfl,rx⟩:=zdh r; cases rx; obtain ⟨z,hd,o,es,ho,hx,hdat,hs,_⟩:=I.keys e
 refine zrg hd ho hx hdat (by rw [hs]; exact z) ?_
 rw [hs]; exact ⟨.int kvs.length,H,I.tok _,⟨_,rfl⟩,q⟩
def zid (hc:X.calm=true):zcp X (.type "list") (fun xs H Q=>∃ a kvs ep,xs=[.ref a]/\H a=some (.dE kvs ep)/\∀ l ys,H l=none->ys.length=kvs.length->(∀ (i:Nat) k y,kvs[i]?=some (k,y)->∃ b,ys[i]?=some (.ref b)/\H b=some (.tup (k.map kV)))->Q (.ref l) (upd H l (.lst ys))):=by
 intro pins s σ H xs us Q I r h; obtain ⟨a,kvs,ep,rfl,e,q⟩:=h; obtain ⟨u,rfl,rx⟩:=zdh r; cases rx; obtain ⟨z,hd,o,es,ho,hx,hdat,hs,hk⟩:=I.keys e
 refine zkY (I.ok.hd hc) hd ho hx hdat (by rw [hs]; exact z) fun h2 tk acc c2 kp e2 hit=>?_
 obtain ⟨hsz,hit⟩:=hit
 have each:∀ (j:Nat) v,acc[j]?=some v->∃ b k y,v=.ref b/\kvs[j]?=some (k,y)/\H b=some (.tup (k.map kV)):=fun j v hj=>by
  obtain ⟨x,hx1,rfl⟩:=hit j v hj
  have hjl:j<kvs.length:=by
   rw [<- hs]; exact (yq.mp hx1).1
  obtain ⟨b,x',hx2,hb,ht⟩:=hk j kvs[j].1 kvs[j].2 (yB hjl); rw [hx1] at hx2; cases hx2; exact ⟨b,kvs[j].1,kvs[j].2,hb,yB hjl,ht⟩
 have hys:za4 (acc.toList.map zpU) acc.toList:=by
  refine PL.paired_of (by rw [yE]) fun j x v h1 h2=>?_
  rw [yF,h2] at h1
  obtain ⟨b,_,_,rfl,_⟩:=each j v (by rw [<- Array.getElem?_toList]; exact h2)
  cases h1; exact rfl
 have hl:(acc.toList.map zpU).length=kvs.length:=by rw [yE,Yc,hsz,hs]
 have I2:=I.laid (t':=tk) (o:=.lst (acc.toList.map zpU)) kp (yJ _) (show zbr X.prog X.w _ h2 _ (.lst (acc.toList.map zpU)) from ⟨by rw [hl]; exact z,acc.toList,c2,hys,by simpa using e2⟩)
 refine ⟨.ref s.heap.objs.size,_,I2,rfl,q _ _ (I.hok.fresh (yJ _)) hl fun i k y hi=>?_⟩
 have hil:i<acc.size:=by rw [hsz,hs]; exact (yD.mp hi).1
 obtain ⟨b,k',y',hv,hk',ht⟩:=each i acc[i] (YN hil); rw [hi] at hk'; cases hk'; refine ⟨b,?_,ht⟩; rw [yF,Array.getElem?_toList,YN hil,hv]; rfl
end
end L2
namespace PL
open PySem L2
section
abbrev zjT:=List D->(OD->Prop)->Prop
def zmg (K:W.Frag) (r:List V->Hp->VK->Prop) (r':zjT):Prop:=∀ (Hi H:Hp) (vs:List V) (ds:List D) (Q:OD->Prop) (Q2:VK),Fz Hi H->zb4 K Hi vs ds->r' ds Q ->
 (∀ Hi1 H1 p u o,Ext Hi H Hi1 H1->H1 p=none->(∀ xs,u≠.tup xs)->zbQ K Hi1 (upd H1 p u) p o->Q o->Q2 (.ref p) (upd H1 p u))->r vs H Q2
structure CalO (X:Cx) (f:Value) (r':zjT):Prop where
 ex:∃ r,zcp X f r/\zmg X.K r r'
def CalO.or {f:Value} {r r':zjT} (h:CalO X f r) (h':CalO X f r'):CalO X f (fun x Q=>r x Q\/r' x Q):=by
 obtain ⟨a,ha,la⟩:=h.ex; obtain ⟨b,hb,lb⟩:=h'.ex
 refine ⟨_,ha.or hb,fun Hi H vs ds Q Q2 s d q fin=>?_⟩
 rcases q with q | q
 ·exact .inl (la Hi H vs ds Q Q2 s d q fin)
 ·exact .inr (lb Hi H vs ds Q Q2 s d q fin)
def zan (r:zjT) (t:TA'):TO':=fun Γ Q=>t Γ fun ds Γ1=>r ds fun o=>Q o Γ1
def zmu {K:W.Frag} {n:Nat} {r:List V->Hp->VK->Prop} {r':zjT} {t:TA'} {σ:St} {H:Hp} {Q:VK} (l:zmg K r r') (h:oOf K n (zan r' t) σ H Q):tCB r (zqB K n t) σ H Q:=by
 obtain ⟨W,Hi,Γ,Q',g,h,fin⟩:=h; refine ⟨W,Hi,Γ,_,g,h,?_⟩; intro vs H1 Hi1 Γ1 ds s1 g1 dl h1; refine l Hi1 H1 vs ds _ _ g1.fz dl h1 ?_; intro Hi2 H2 p u o e hp hu own q; have g2:=g1.ext e; exact fin p _ Hi2 Γ1 o (s1.trans e.hi) (g2.ext (Ext.newO g2.fz hp u hu)) (New.mk' g2 hp own) q
variable {x:Str} {p pos:Pos} {e:Expr} {es:List Expr} {t:TA'} {id T:String}
def zhT {r':zjT} (hc:CalO X (.type T) r') (hm:X.mg x=none) (hv:bootBuiltins x=some (.type T)) (ha:PA' X (e :: es) t) (hg:Gl X x:=by rfl) (hn:x≠"__name__":=by decide) (hdb:yyD x:=by decide):PO' X (.Call (.Name x p) (e :: es) [] pos) (zan r' t):=by
 obtain ⟨r,ho,l⟩:=hc.ex; obtain ⟨p1,p2⟩:=zC ha.pl
 exact ⟨PE.weak (zei ho hg hm hv ha.pa hn hdb (zah p1) (zaS p2)) fun σ H Q q=>zmu l q⟩
class MRCO (r:zjT):Prop where
 mono:∀ ds (Q Q':OD->Prop),(∀ o,Q o->Q' o)->r ds Q->r ds Q'
instance {r:zjT} {t:TA'} [MRCO r] [MA t]:MO (zan r t):=⟨fun Γ _ _ h q=>MA.mono (t:=t) _ _ _ (fun _ _ z=>MRCO.mono (r:=r) _ _ _ (fun _ w=>h _ _ w) z) q⟩
def zed:zjT:=fun ds Q=>∃ d es,ds=[d]/\(d=.lst es\/d=.tup es)/\Q (.lst es)
def zpx:CalO X (.type "list") zed:=⟨_,zdW,by
 rintro Hi H vs ds Q Q2 s dl ⟨d,es,rfl,h,q⟩ fin
 obtain ⟨v,rfl,den⟩:=zde dl
 rcases h with rfl | rfl
 ·obtain ⟨a,us,rfl,h1,h2⟩:=den.lstI
  exact ⟨a,us,rfl,.inl (zab s.sub h1),fun l hl=>fin Hi H l _ (.lst es) (Ext.refl s) hl (fun _ z=>by cases z) ⟨us,zo,h2⟩ q⟩
 ·obtain ⟨a,us,rfl,h1,h2⟩:=den.tupI
  exact ⟨a,us,rfl,.inr (zaj s.sub h1),fun l hl=>fin Hi H l _ (.lst es) (Ext.refl s) hl (fun _ z=>by cases z) ⟨us,zo,h2⟩ q⟩⟩
def zdn:zjT:=fun ds Q=>∃ es,ds=[.dit es]/\Q (.lst (es.map (·.1)))
def znL (hc:X.calm=true):CalO X (.type "list") zdn:=⟨_,zid hc,by
 rintro Hi H vs ds Q Q2 s dl ⟨es,rfl,q⟩ fin
 obtain ⟨v,rfl,den⟩:=zde dl; obtain ⟨a,kvs,ep,rfl,h1,h2⟩:=den.ditI
 refine ⟨a,kvs,ep,rfl,s.sub _ _ h1,fun l ys hl hy hk=>fin Hi H l _ (.lst (es.map (·.1))) (Ext.refl s) hl (fun _ z=>by cases z) ⟨ys,zo,?_⟩ q⟩
 refine paired_of (by rw [hy,yE,zm h2]) fun i v d e1 e2=>?_
 rw [yF] at e2
 cases hc2:es[i]? with
 | none=>rw [hc2] at e2; cases e2
 | some q =>
  rw [hc2] at e2; cases e2; obtain ⟨p,ep,ep2⟩:=zaV h2 hc2; obtain ⟨b,eb,hb⟩:=hk i p.1 p.2 ep; rw [e1] at eb; cases eb
  show Den X.K Hi (.ref b) q.1
  rw [ep2.1]; exact Den.mkT (s.tups _ _ hb) (zl6 _)⟩
def zgx:RC':=fun ds Q=>∃ es,ds=[.dit es]/\Q (.int es.length)
def zpy:Cal X (.builtin "len") zgx:=⟨_,zjI,by
 rintro Hi H vs ds Q Q2 s dl ⟨es,rfl,q⟩ fin
 obtain ⟨v,rfl,den⟩:=zde dl; obtain ⟨a,kvs,ep,rfl,h1,h2⟩:=den.ditI; refine ⟨a,kvs,ep,rfl,s.sub _ _ h1,?_⟩; rw [zm h2]; exact fin Hi H _ _ (Ext.refl s) (.int _) q⟩
instance:MRCO zed:=⟨fun _ _ _ h ⟨d,es,a,b,q⟩=>⟨d,es,a,b,h _ q⟩⟩
instance:MRCO zdn:=⟨fun _ _ _ h ⟨es,a,q⟩=>⟨es,a,h _ q⟩⟩
instance:MRC zgx:=⟨fun _ _ _ h ⟨es,a,q⟩=>⟨es,a,h _ q⟩⟩
end
end PL
namespace PySem
section
variable {S tt:Addr} {ob:Obj} {mine items:Array Value} {n c₀:Nat} {T:String}
end
end PySem
namespace L2
open PySem PySem.Spec PyProof.Rows
section
def zna:OpR X (binaryOp .Add) (fun x y H Q=>∃ a b xs ys,x=.ref a/\y=.ref b/\SqL X.K H a xs/\SqL X.K H b ys/\xs.length+ys.length<=sizeLine/\∀ p,H p=none->Q (.ref p) (upd H p (.lst (xs ++ ys)))):=by
 intro pins s σ H x y v u Q I rx ry h; obtain ⟨a,b,xs,ys,rfl,rfl,ha,hb,hz,q⟩:=h; cases rx; cases ry; obtain ⟨its,r1,p1,_⟩:=I.list ha; obtain ⟨its2,r2,p2,_⟩:=I.list hb
 obtain ⟨⟨cls,dd,data,sl⟩,ho,hc,n,hd⟩:=id p1.isList
 obtain ⟨⟨cls2,dd2,data2,sl2⟩,ho2,hc2,n2,hd2⟩:=id p2.isList
 simp only at hc hd hc2 hd2
 subst hc hd hc2 hd2
 have ea:its.toArray ++ its2.toArray=(its ++ its2).toArray:=by simp
 refine concat_meets ⟨_,ho,rfl⟩ ⟨_,ho2,rfl⟩ noFill_list_add seq_list_add PySem.F.slot_list_add PySem.F.entry_list_add (PySem.F.args_list_add_2 _ _)
  (list_addW a b its.toArray its2.toArray n n2 dd dd2 sl sl2 (by rw [yQ,yQ,<- r1.length,<- r2.length]; exact hz)) ⟨ho,ho2,?_⟩
 rw [ea]
 exact ⟨.ref _,_,I.lnew (t':=s.toks) (r1.append r2) (by rw [yu]; exact hz),rfl,q _ I.fresh⟩
end
end L2
namespace PL
open PySem L2
section
abbrev zpG:=D->D->(OD->Prop)->Prop
def zpJ (K:W.Frag) (r:R2) (r':zpG):Prop:=∀ (Hi H:Hp) (x y:V) (dx dy:D) (Q:OD->Prop) (Q2:VK),Fz Hi H->Den K Hi x dx->Den K Hi y dy->r' dx dy Q ->
 (∀ Hi1 H1 p u o,Ext Hi H Hi1 H1->H1 p=none->(∀ xs,u≠.tup xs)->zbQ K Hi1 (upd H1 p u) p o->Q o->Q2 (.ref p) (upd H1 p u))->r x y H Q2
structure Op2O (X:Cx) (f:Value->Value->Sem Value) (r':zpG):Prop where
 ex:∃ r,OpR X f r/\zpJ X.K r r'
def zaL (r:zpG) (ta tb:TE'):TO':=fun Γ Q=>ta Γ fun x Γ1=>tb Γ1 fun y Γ2=>r x y fun o=>Q o Γ2
def zoI {a b:Expr} {op:Operator} {r':zpG} {ta tb:TE'} {pos:Pos} (h:Op2O X (binaryOp op) r') (ha:PE' X a ta) (hb:PE' X b tb):PO' X (.BinOp a op b pos) (zaL r' ta tb):=by
 obtain ⟨r,ho,l⟩:=h.ex; refine ⟨PE.weak (zoM ho ha.h hb.h) ?_⟩
 rintro σ H Q ⟨W,Hi,Γ,Q',g,h,fin⟩
 refine ⟨W,Hi,Γ,_,g,h,?_⟩
 rintro x H1 ⟨Hi1,dx,Γ1,s1,g1,den1,h1⟩
 refine ⟨W,Hi1,Γ1,_,g1,h1,?_⟩
 rintro y H2 ⟨Hi2,dy,Γ2,s2,g2,den2,h2⟩
 refine l Hi2 H2 x y dx dy _ _ g2.fz (den1.mono s2) den2 h2 ?_; intro Hi3 H3 p u o e hp hu own q; have g3:=g2.ext e; exact fin p _ Hi3 Γ2 o (s1.trans (s2.trans e.hi)) (g3.ext (Ext.newO g3.fz hp u hu)) (New.mk' g3 hp own) q
def zoz:zpG:=fun x y Q=>∃ xs ys,x=.lst xs/\y=.lst ys/\xs.length+ys.length<=sizeLine/\Q (.lst (xs ++ ys))
def zo8:Op2O X (binaryOp .Add) zoz:=⟨_,zna,by
 rintro Hi H x y dx dy Q Q2 s d1 d2 ⟨xs,ys,rfl,rfl,hl,q⟩ fin
 obtain ⟨a,vs,rfl,h1,h2⟩:=d1.lstI; obtain ⟨b,us,rfl,h3,h4⟩:=d2.lstI
 exact ⟨a,b,vs,us,rfl,rfl,zab s.sub h1,zab s.sub h3,by rw [zm h2,zm h4]; exact hl,fun p hp=>fin Hi H p _ (.lst (xs ++ ys)) (Ext.refl s) hp (fun _ z=>by cases z) ⟨_,zo,zbG h2 h4⟩ q⟩⟩
end
end PL
namespace X1
open PySem
def Ex (h:Heap) (e:Addr) (cl:Value) (dd:Option Addr) (vs:Array Value):Prop:=∃ sl,h.get? e=some ⟨cl,dd,.fields vs,sl⟩
def Ent (h:Heap) (T:Addr) (fl:Value):Prop:=∃ c d ts sl,h.get? T=some ⟨c,d,.fields ts,sl⟩/\ts[3]?=some fl
def Hd (h:Heap) (e:Addr) (vs:Array Value) (fl:Value) (R:Addr->Prop):Prop:=(vs[1]?=some .none/\fl=.none)\/∃ T,vs[1]?=some (.ref T)/\T≠e/\R T/\Ent h T fl
structure Kp (R:Addr->Prop) (fr:List Addr) (h h':Heap):Prop where
 keep:∀ b o,h.get? b=some o->¬ R b->b ∉ fr->h'.get? b=some o
 slot:∀ b o,h.get? b=some o->¬ R b->b ∈ fr->∃ sl,h'.get? b=some { o with slots:=sl }
 size:h.objs.size<=h'.objs.size
def upd_fields {h:Heap} {a:Addr} {c:Value} {d:Option Addr} {vs:Array Value} {sl:Array (Option Value)} {f:Array Value->Array Value} (e:h.get? a=some ⟨c,d,.fields vs,sl⟩):(h.update a (Obj.mapFields f)).get? a=some ⟨c,d,.fields (f vs),sl⟩ :=
 YB _ e rfl
section
variable {M:Model} {env:Env} {outer:List Env} {L e:Addr} {cl fl:Value} {dd:Option Addr} {vs:Array Value} {R:Addr->Prop}
def zf9 {head:Value} {b:Bool} {Q:Unit->Shared->Prop} (hfr:A.frames=some (env :: outer)) (hl:s.heap.FunFrames base (env :: outer)) (hf:env.frame=some L) (he:Ex s.heap e cl dd vs) (hs:1<vs.size) (hR:R e)
  (q:∀ h' T vs',Ex h' e cl dd vs'->vs'[0]?=vs[0]?->vs'[1]?=some (.ref T)->T≠e->s.heap.objs.size<=T->Ent h' T (rawInt L)->Kp R ((env :: outer).filterMap (·.frame)) s.heap h'->Q () { s with heap:=h' }) :
  wpAny M A (do setField (.ref e) 1 (<- EntryCells.newEntry head (<- frameOf env) .none (rawInt L) .none (<- entryPlaceOf L b))) Q E s:=by
 obtain ⟨sl,he⟩:=he
 have hnf:e ∉ (env :: outer).filterMap (·.frame):=fun hm=>by
  obtain ⟨_,o,ho,nf⟩:=hl.mem hm; rw [he] at ho; cases ho; exact nf vs rfl
 refine yA (wpAny_frameOf_fun hfr hl hf fun h1 hs1=>?_)
 refine yA (wpAny_entryPlaceOf fun pl hpl=>?_)
 unfold EntryCells.newEntry newFields; refine yA (yi ?_ (hpl.sizeOk5 _ _ _ _ _))
 have he1:h1.get? e=some ⟨cl,dd,.fields vs,sl⟩:=(hs1.2.1 e hnf).trans he
 have hT:h1.objs.size≠e:=Nat.ne_of_gt (yH he1)
 have hsz:h1.objs.size=s.heap.objs.size:=hs1.1
 refine YW (yC _ he1) rfl hs (q _ h1.objs.size _ ⟨sl,upd_fields (yC _ he1)⟩ (by rw [Array.getElem?_setIfInBounds_ne (by decide)]) (by simp [hs]) hT (Nat.le_of_eq hsz.symm) ?_ ?_)
 ·refine ⟨_,_,_,_,(yX _ _ (Ne.symm hT)).trans (yI h1 rfl),?_⟩
  rcases hpl with rfl | ⟨_,_,_,_,_,_,_,rfl⟩ <;> simp
 ·refine ⟨fun c o ec n m=>?_,fun c o ec n m=>?_,?_⟩
  ·have hc:c≠e:=fun z=>n (by rw [z]; exact hR)
   rw [yX _ _ (Ne.symm hc)]; exact yC _ ((hs1.2.1 c m).trans ec)
  ·have hc:c≠e:=fun z=>n (by rw [z]; exact hR)
   obtain ⟨sl',hs'⟩:=hs1.2.2 c o ec; refine ⟨sl',?_⟩; rw [yX _ _ (Ne.symm hc)]; exact yC _ hs'
  ·rw [Yi,YJ,hsz]
   exact Nat.le_succ _
def zsu {Q:Unit->Shared->Prop} (hfr:A.frames=some (env :: outer)) (hl:s.heap.FunFrames base (env :: outer)) (hf:env.frame=some L) (he:Ex s.heap e cl dd vs) (hs:1<vs.size) (hd:Hd s.heap e vs .none R) (hR:R e)
  (q:∀ h' T vs',Ex h' e cl dd vs'->vs'[0]?=vs[0]?->vs'[1]?=some (.ref T)->T≠e->s.heap.objs.size<=T->Ent h' T (rawInt L)->Kp R ((env :: outer).filterMap (·.frame)) s.heap h'->Q () { s with heap:=h' }) :
  wpAny M A (noteFrame (.ref e) env) Q E s:=by
 unfold noteFrame; simp only [hf]; obtain ⟨sl,he'⟩:=id he
 rcases hd with ⟨h1,_⟩ | ⟨T,h1,hne,hRT,c,d,ts,sT,hT,h3⟩
 ·refine yA (yf he' rfl h1 ?_)
  rw [yS (by decide)]
  exact zf9 hfr hl hf he hs hR q
 ·refine yA (yf he' rfl h1 ?_)
  rw [yW (show (Value.ref T != Value.none)=true from by simp)]
  refine yA (yf hT rfl h3 ?_)
  rw [yS (show ¬ ((Value.none == rawInt L)=true) from by simp [rawInt])]
  refine yA (YW hT rfl (yq.mp h3).1 ?_)
  have oth:∀ b,b≠T->(s.heap.update T (Obj.mapFields (·.setIfInBounds 3 Value.none))).get? b=s.heap.get? b:=fun b hb=>yX _ _ (Ne.symm hb)
  have nR:∀ b o,s.heap.get? b=some o->(∀ vs,o.data≠.fields vs)->b≠T:=fun b o hb hn z=>by
   rw [z,hT] at hb; cases hb; exact hn ts rfl
  refine zf9 (s:={ s with heap:=_ }) hfr (hl.of_keeps fun b o hb hn=>⟨o,(oth b (nR b o hb hn)).trans hb,rfl⟩) hf ⟨sl,(oth e (Ne.symm hne)).trans he'⟩ hs hR fun h' T' vs' x1 x2 x3 x4 x5 x6 x7=>?_
  have hfree:s.heap.objs.size<=T':=by
   have y:=x5
   rwa [Yi] at y
  refine q h' T' vs' x1 x2 x3 x4 hfree x6 ⟨fun b o eb n m=>?_,fun b o eb n m=>?_,?_⟩
  ·have hb:b≠T:=fun z=>n (by rw [z]; exact hRT)
   exact x7.keep b o ((oth b hb).trans eb) n m
  ·have hb:b≠T:=fun z=>n (by rw [z]; exact hRT)
   exact x7.slot b o ((oth b hb).trans eb) n m
  ·have:=x7.size
   rwa [Yi] at this
def flight {T:Addr} {Q:Unit->Shared->Prop} (he:Ex s.heap e cl dd vs) (h1:vs[1]?=some (.ref T)) (hne:T≠e) (hT:Ent s.heap T fl) (hRT:R T) (q:∀ h',Ex h' e cl dd vs->Ent h' T .none->(∀ b,b≠T->h'.get? b=s.heap.get? b)->h'.objs.size=s.heap.objs.size->Q () { s with heap:=h' }) :
  wpAny M A (setFlight (.ref e) none) Q E s:=by
 obtain ⟨sl,he'⟩:=he; obtain ⟨c,d,ts,sT,hT,h3⟩:=hT; unfold setFlight; refine yA (yf he' rfl h1 ?_)
 rw [yW (show (Value.ref T != Value.none)=true from by simp)]
 have hsz:3<ts.size:=(yq.mp h3).1
 have oth:∀ b,b≠T->(s.heap.update T (Obj.mapFields (·.setIfInBounds 3 ((none:Option Addr).elim Value.none fun f=>rawInt f)))).get? b=s.heap.get? b:=fun b hb=>yX _ _ (Ne.symm hb)
 exact YW hT rfl hsz (q _ ⟨sl,(oth e (Ne.symm hne)).trans he'⟩ ⟨c,d,_,sT,upd_fields hT,by simp [hsz]⟩ oth (Yi ..))
def HdN (h:Heap) (e:Addr) (vs:Array Value) (L:Addr) (R:Addr->Prop):Prop:=Hd h e vs .none R\/∃ T,vs[1]?=some (.ref T)/\T≠e/\R T/\Ent h T (rawInt L)
def HdN.imp {h:Heap} {R':Addr->Prop} (x:HdN h e vs L R) (k:∀ b,vs[1]?=some (.ref b)->R b->R' b):HdN h e vs L R':=by
 rcases x with (z | ⟨T,h1,h2,h3,h4⟩) | ⟨T,h1,h2,h3,h4⟩
 ·exact .inl (.inl z)
 ·exact .inl (.inr ⟨T,h1,h2,k T h1 h3,h4⟩)
 ·exact .inr ⟨T,h1,h2,k T h1 h3,h4⟩
def HdN.own {h:Heap} (x:HdN h e vs L R):∀ b,vs[1]?=some (.ref b)->R b:=fun b hb=>by
 rcases x with (⟨z,_⟩ | ⟨T,h1,h2,h3,h4⟩) | ⟨T,h1,h2,h3,h4⟩ <;> rw [hb] at *
 ·cases z
 ·cases h1; exact h3
 ·cases h1; exact h3
def noteN {Q:Unit->Shared->Prop} (hfr:A.frames=some (env :: outer)) (hl:s.heap.FunFrames base (env :: outer)) (hf:env.frame=some L) (he:Ex s.heap e cl dd vs) (hs:1<vs.size) (hd:HdN s.heap e vs L R) (hR:R e)
  (q:∀ h' T vs',Ex h' e cl dd vs'->vs'[0]?=vs[0]?->vs'[1]?=some (.ref T)->T≠e->(s.heap.objs.size<=T\/R T)->Ent h' T (rawInt L)->Kp R ((env :: outer).filterMap (·.frame)) s.heap h'->Q () { s with heap:=h' }) :
  wpAny M A (noteFrame (.ref e) env) Q E s:=by
 rcases hd with hd | ⟨T,h1,hne,hRT,hE⟩
 ·exact zsu hfr hl hf he hs hd hR fun h' T vs' x1 x2 x3 x4 x5 x6 x7=>q h' T vs' x1 x2 x3 x4 (.inl x5) x6 x7
 ·have k:=q s.heap T vs he rfl h1 hne (.inr hRT) hE ⟨fun _ _ z _ _=>z,fun _ o z _ _=>⟨o.slots,z⟩,yJ _⟩
  unfold noteFrame; simp only [hf]; obtain ⟨sl,he'⟩:=id he; obtain ⟨c,d,ts,sT,hT,h3⟩:=hE; refine yA (yf he' rfl h1 ?_)
  rw [yW (show (Value.ref T != Value.none)=true from by simp)]
  refine yA (yf hT rfl h3 ?_)
  rw [yW (show (rawInt L == rawInt L)=true from by simp)]
  exact yG k
def leaveN {Q:Unit->Shared->Prop} (hfr:A.frames=some (env :: outer)) (hl:s.heap.FunFrames base (env :: outer)) (hf:env.frame=some L) (he:Ex s.heap e cl dd vs) (hs:1<vs.size) (hd:HdN s.heap e vs L R) (hR:R e)
  (q:∀ h' T vs',Ex h' e cl dd vs'->vs'[0]?=vs[0]?->1<vs'.size->vs'[1]?=some (.ref T)->T≠e->(s.heap.objs.size<=T\/R T)->Ent h' T .none->Kp R ((env :: outer).filterMap (·.frame)) s.heap h'->Q () { s with heap:=h' }) :
  wpAny M A (leaving env (.ref e)) Q E s:=by
 unfold leaving
 refine yA (noteN hfr hl hf he hs hd hR fun h1 T vs' x1 x2 x3 x4 x5 x6 x7=>?_)
 refine flight (s:={ s with heap:=h1 }) (R:=fun b=>R b\/b=T) x1 x3 x4 x6 (.inr rfl) fun h2 y1 y2 y3 y4=>?_
 have ne:∀ b o,s.heap.get? b=some o->¬ R b->b≠T:=fun b o eb n z=>by
  rcases x5 with y | y
  ·exact yU (yM (yH eb) (by rw [z]; exact y)) (YR _)
  ·exact n (z ▸ y)
 refine q h2 T vs' y1 x2 (yq.mp x3).1 x3 x4 x5 y2 ⟨fun b o eb n m=>?_,fun b o eb n m=>?_,?_⟩
 ·rw [y3 b (ne b o eb n)]
  exact x7.keep b o eb n m
 ·rw [y3 b (ne b o eb n)]
  exact x7.slot b o eb n m
 ·rw [y4]
  exact x7.size
def flightL {T:Addr} {Q:Unit->Shared->Prop} (he:Ex s.heap e cl dd vs) (h1:vs[1]?=some (.ref T)) (hne:T≠e) (hT:Ent s.heap T fl) (q:∀ h',Ex h' e cl dd vs->Ent h' T (rawInt L)->(∀ b,b≠T->h'.get? b=s.heap.get? b)->h'.objs.size=s.heap.objs.size->Q () { s with heap:=h' }) :
  wpAny M A (setFlight (.ref e) (some L)) Q E s:=by
 obtain ⟨sl,he'⟩:=he; obtain ⟨c,d,ts,sT,hT,h3⟩:=hT; unfold setFlight; refine yA (yf he' rfl h1 ?_)
 rw [yW (show (Value.ref T != Value.none)=true from by simp)]
 have hsz:3<ts.size:=(yq.mp h3).1
 have oth:∀ b,b≠T->(s.heap.update T (Obj.mapFields (·.setIfInBounds 3 ((some L:Option Addr).elim Value.none fun f=>rawInt f)))).get? b=s.heap.get? b:=fun b hb=>yX _ _ (Ne.symm hb)
 exact YW hT rfl hsz (q _ ⟨sl,(oth e (Ne.symm hne)).trans he'⟩ ⟨c,d,_,sT,upd_fields hT,by simp [hsz]⟩ oth (Yi ..))
end
structure XC (h:Heap) (C N:Addr) (bm:List Value) (nid:String):Prop where
 ex:∃ nm q bs hd sn sub ab col dd k0 k1 k2 k3 k5,h.get? C=some (excClassObj nm q C N bs bm hd sn sub ab col dd k0 k1 k2 k3 k5 nid)
def XC.kp {h h':Heap} {C N:Addr} {bm:List Value} {nid:String} (x:XC h C N bm nid) (k:∀ b o,h.get? b=some o->h'.get? b=some o):XC h' C N bm nid:=by
 obtain ⟨nm,q,bs,hd,sn,sub,ab,col,dd,k0,k1,k2,k3,k5,e⟩:=x.ex; exact ⟨nm,q,bs,hd,sn,sub,ab,col,dd,k0,k1,k2,k3,k5,k _ _ e⟩
abbrev zqQ (C t:Addr):Obj:={ cls:=.ref C,data:=.fields #[.ref t,.none,.none,.none,.bool false,.none] }
abbrev tupX (vs:List Value):Obj:={ cls:=.type "tuple",data:=.seq vs.toArray }
abbrev madeX (h:Heap) (C:Addr) (vs:List Value):Heap:=(h.push (tupX vs)).push (zqQ C h.objs.size)
def madeX_keep {h:Heap} {C:Addr} {vs:List Value}:∀ b o,h.get? b=some o->(madeX h C vs).get? b=some o:=fun _ _ e=>yC _ (yC _ e)
def madeX_at {h:Heap} {C:Addr} {vs:List Value}:(madeX h C vs).get? (h.objs.size+1)=some (zqQ C h.objs.size):=by
 have:=yI (h.push (tupX vs)) (o:=zqQ C h.objs.size) rfl
 rwa [YJ] at this
section
variable {h:Heap} {g:Array GenState} {d:Drawn} {t:Nat} {os:OsState} {C N fI:Addr} {oI:Obj} {bm bmB:List Value} {B nid iid:String} {mN:Str->Option Value} {zbF:List Value}
def make_init {Q:Value->Shared->Prop} (F:ExcBaseFacts B nid iid bmB) (T:OwnTail h bmB bm) (X:XC h C N bm nid) (hn:h.Ns N mN) (hi:mN "__init__"=some (.ref fI)) (hf:h.get? fI=some oI) (hfc:oI.cls=.type "function") (hr:zbF.length<=sizeLine)
  (k:wpAny (model prog w) (A.under (.builtin "type.__call__" ⟨.ref C :: zbF,[]⟩)) (call (.ref fI) (.ref (h.objs.size+1) :: zbF)) (fun r s'=>r=.none/\Q (.ref (h.objs.size+1)) s') E ⟨madeX h C zbF,g,d,t,os⟩) :
  wpAny (model prog w) A (call (.ref C) zbF) Q E ⟨h,g,d,t,os⟩:=by
 obtain ⟨nm,q,bs,hd,sn,sub,ab,col,dd,k0,k1,k2,k3,k5,hC⟩:=X.ex; have f1:=tc_lookup; have f2:=tc_bind (.ref C)
 have hT:(⟨h,g,d,t,os⟩:Shared).TypeIs (.ref C) "type":=⟨_,hC,rfl⟩
 refine wpAny_call (codeAny_of_tree ?_)
 show wpAny _ _ (callAny (.ref C) _) _ _ _
 repeat (any_goals (first | assumption | with_reducible refine YT hC ?_ | wp_step))
 refine ⟨rfl,?_⟩
 refine codeAny_call_builtin_at (Code.quiet_builtin _ (by decide +kernel)) entry_typeCall (wpAny_check_type_call_sub hC ?_)
 repeat (first | with_reducible refine YT hC ?_ | with_reducible refine wpAny_madeBy_exc hC ?_ | wp_step)
 refine codeAny_call_builtin_code (Code.quiet_builtin _ F.quiet) (wpAny_check_new_subT F T hC ?_); refine codeAny_exc_new_subT F T hC ?_ hr
 show wpAny _ _ _ _ _ (⟨madeX h C zbF,g,d,t,os⟩:Shared)
 have hC1:=madeX_keep (C:=C) (vs:=zbF) _ _ hC; have hf1:=madeX_keep (C:=C) (vs:=zbF) _ _ hf
 have hn1:(madeX h C zbF).Ns N mN:=hn.keeps madeX_keep
 have hg1:=madeX_at (h:=h) (C:=C) (vs:=zbF); have T1:=T.keeps (madeX_keep (C:=C) (vs:=zbF))
 have hcC:(Value.ref C :: bm).contains (.ref C)=true:=by simp
 unfold isInstance
 repeat (first | with_reducible refine YT hg1 ?_ | (with_reducible refine wpAny_isSubtype_exc hC1 ?_; rw [hcC]) | wp_step)
 show wpAny _ _ (typeLookup (.ref C) _) _ _ _
 refine wpAny_typeLookup_tail hC1 hn1 T1 F.mroIs F.init.lookup ?_; rw [hi]; refine Ya (yA ?_); unfold bindSpecial; refine yA (wpAny_typeOf (T:="function") ⟨_,hf1,hfc⟩ ?_)
 rw [yW (by decide)]
 refine yG (yA (ym k (fun r s' hr=>?_) fun _ _ x=>x))
 obtain ⟨rfl,hQ⟩:=hr
 wp_walk
 exact hQ
end
section
variable {M:Model} {env:Env} {C N:Addr} {bm:List Value} {nid:String}
def raise_at {x:Sem Value} {Q:Flow->Shared->Prop} (hb:bm.contains (.type "BaseException")=true) (hh:A.handled=none)
  (h:wpAny M A x (fun v s1=>∃ e dd vs sl,v=.ref e/\XC s1.heap C N bm nid/\s1.heap.get? e=some ⟨.ref C,dd,.fields vs,sl⟩/\vs[1]?=some .none/\E (.ref e) s1) E s):wpAny M A (raiseStmt env (some x) none) Q E s:=by
 have hcB:(Value.ref C :: bm).contains (.type "BaseException")=true:=by rw [List.contains_cons,hb,Bool.or_true]
 unfold raiseStmt
 refine yA (ym h (fun v s1 h1=>?_) fun _ _ z=>z)
 obtain ⟨e,dd,vs,sl,rfl,X,he,hv,hE⟩:=h1; obtain ⟨nm,q,bs,hd,sn,sub,ab,col,dd',k0,k1,k2,k3,k5,hC⟩:=X.ex; obtain ⟨hp,g,d,tk,os⟩:=s1
 repeat (first | with_reducible refine YT he ?_ | with_reducible refine YT hC ?_ | (with_reducible refine wpAny_isSubtype_exc hC ?_; rw [hcB]) | wp_step)
 rw [hv]; refine yG ?_
 rw [yS (by decide)]
 exact yG (wpAny_raiseNew_none hh hE)
end
end X1
namespace X1
open PySem PySem.W
section
variable {K:Frag} {x C:Addr} {ox:Obj} {od:Option Obj} {name:Str}
structure XGet (K:Frag) (C:Addr):Prop where
 ga:findIn K (.ref C) "__getattribute__"=some (some (.builtin "BaseException.__getattribute__"))
 gr:findIn K (.ref C) "__getattr__"=some none
 sub:mroIn K C (.type "BaseException")=some true
def zhC {tk:Tok} {v:Value} {R:Result->Shared->Prop} (X:K.In s.heap) (I:InstAt s.heap x ox C od) (T:XGet K C) (hf:findObj K C od name=some (.value v)) (h:R (.ok (.ret v)) s) :
  codeAny (model prog w) A (.call (.builtin "BaseException.__getattribute__") ⟨[.ref x,.str name tk],[]⟩) R s:=by
 obtain ⟨hh',g,d,t,os⟩:=s; have L0:=I.type (M:=model prog w); have L1:=looks_find (M:=model prog w) X I hf
 have LI:Looks (model prog w) hh' (isInstance (.ref x) (.type "BaseException")) true:=L0.andThen (looks_mroIn X T.sub)
 have hk:builtinKind "BaseException.__getattribute__"=some .slot:=by decide +kernel
 have hsp:splitId "BaseException.__getattribute__"=some ("BaseException","__getattribute__"):=by decide +kernel
 refine codeAny_call_builtin F.excAttr_ValueError.ga.plain F.entry_bexc_ga (@check_slot (model prog w) _ _ _ "BaseException.__getattribute__" "BaseException" "__getattribute__" (.ref x) [.str name tk] [] _ hk hsp LI (F.args_bexc_ga (.ref x) (.str name tk)) ?_); refine yA (yG (yA (yG (yA (L0.at (yA (L1.at ?_))))))); exact yG h
def ziu {tk:Tok} {fill expr:Bool} {v:Value} {Q:Value->Shared->Prop} (X:K.In s.heap) (I:InstAt s.heap x ox C od) (T:XGet K C) (h:∀ R:Result->Shared->Prop,R (.ok (.ret v)) s->codeAny (model prog w) A (.call (.builtin "BaseException.__getattribute__") ⟨[.ref x,.str name tk],[]⟩) R s)
  (hh:handedIn v=true) (q:Q v s):wpAny (model prog w) A (getAttrBy (.ref x) (.str name tk) fill expr) Q E s:=by
 obtain ⟨hh',g,d,t,os⟩:=s; have L0:=I.type (M:=model prog w); have L1:=looks_findIn (M:=model prog w) X T.ga; have L2:=looks_findIn (M:=model prog w) X T.gr; unfold getAttrBy; refine Ya (yA (L0.at (yA (L1.at ?_))))
 show wpAny _ _ (if (onTheHeap (.ref C) && Value.builtin "BaseException.__getattribute__" == Value.builtin "object.__getattribute__")=true then _ else _) _ _ _
 rw [yS (by
  have z:(Value.builtin "BaseException.__getattribute__" == Value.builtin "object.__getattribute__")=false:=by decide +kernel
  rw [z,Bool.and_false]; exact yN)]
 unfold getAttrByItsOwn hookBefore; refine yA (L2.at ?_); refine yA (wpAny_attempt (Ya ?_)); unfold callGetattribute
 rw [yS (by cases expr <;> decide)]
 unfold boundAndCalled; rw [F.excAttr_ValueError.ga.bind]; refine yA (yG (wpAny_call (h _ ?_)))
 show wpAny _ _ (handedOut v) _ _ _
 rw [handedOut_of hh]; exact yG q
def xget {expr:Bool} {v:Value} {Q:Value->Shared->Prop} (X:K.In s.heap) (I:InstAt s.heap x ox C od) (T:XGet K C) (hf:findObj K C od name=some (.value v)) (hh:handedIn v=true) (q:Q v { s with toks:=s.toks+1 }):wpAny (model prog w) A (getAttr (.ref x) name expr) Q E s:=by
 unfold getAttr
 exact yA (wpAny_mkText (ziu (s:={ s with toks:=s.toks+1 }) X I T (fun R hR=>zhC (s:={ s with toks:=s.toks+1 }) X I T hf hR) hh q))
def zhD {tk:Tok} {R:Result->Shared->Prop} (X:K.In s.heap) (I:InstAt s.heap x ox C od) (T:XGet K C) (hf:findObj K C od "__class__"=some (.bind (.builtin "getset_descriptor.__get__") (.builtin "object.__class__"))) (hm:mroIn K C (.type "object")=some true)
  (h:R (.ok (.ret (.ref C))) s):codeAny (model prog w) A (.call (.builtin "BaseException.__getattribute__") ⟨[.ref x,.str "__class__" tk],[]⟩) R s:=by
 obtain ⟨hh',g,d,t,os⟩:=s; have L0:=I.type (M:=model prog w); have L1:=looks_find (M:=model prog w) X I hf
 have LI:Looks (model prog w) hh' (isInstance (.ref x) (.type "BaseException")) true:=L0.andThen (looks_mroIn X T.sub)
 have hk:builtinKind "BaseException.__getattribute__"=some .slot:=by decide +kernel
 have hsp:splitId "BaseException.__getattribute__"=some ("BaseException","__getattribute__"):=by decide +kernel
 refine codeAny_call_builtin F.excAttr_ValueError.ga.plain F.entry_bexc_ga (@check_slot (model prog w) _ _ _ "BaseException.__getattribute__" "BaseException" "__getattribute__" (.ref x) [.str "__class__" tk] [] _ hk hsp LI (F.args_bexc_ga (.ref x) (.str "__class__" tk)) ?_); refine yA (yG (yA (yG (yA (L0.at (yA (L1.at ?_)))))))
 show wpAny _ _ (Builtin.ObjectAttr.bindTo (.builtin "getset_descriptor.__get__") (.builtin "object.__class__") (.ref x) (.ref C)) _ _ _
 show wpAny _ _ (do let r <- holding [Value.builtin "object.__class__"] (call (.builtin "getset_descriptor.__get__") [.builtin "object.__class__",.ref x,.ref C]); ret r) _ _ _
 exact yA (Ya (wpAny_call (class_get (ox:=ox) (od:=od) X I hm (yG h))))
def xget_class? {Q:Option Value->Shared->Prop} (X:K.In s.heap) (I:InstAt s.heap x ox C od) (T:XGet K C) (hf:findObj K C od "__class__"=some (.bind (.builtin "getset_descriptor.__get__") (.builtin "object.__class__"))) (hm:mroIn K C (.type "object")=some true)
  (h:Q (some (.ref C)) { s with toks:=s.toks+1 }):wpAny (model prog w) A (getAttr? (.ref x) "__class__") Q E s:=by
 unfold getAttr? getAttrBy?
 refine yA (wpAny_mkText (yA (wpAny_attempt ?_)))
 exact ziu (s:={ s with toks:=s.toks+1 }) X I T (fun R hR=>zhD (s:={ s with toks:=s.toks+1 }) X I T hf hm hR) rfl (yG h)
end
structure XIs (K:Frag) (C:Addr):Prop extends XGet K C where
 cl:(clsIn K C).isSome=true
 ha:findIn K (.ref C) "__class__"=some (some (.builtin "object.__class__"))
 hn:specialIn K (.builtin "object.__class__") "__get__"=some (some (.builtin "getset_descriptor.__get__"))
 tk:takesIn K (.builtin "object.__class__")=some true
 ob:mroIn K C (.type "object")=some true
def zgS {K:Frag} {C:Addr} {a g:Value} {od:Option Obj} {name:Str} (hc:(clsIn K C).isSome=true) (ha:findIn K (.ref C) name=some (some a)) (hg:specialIn K a "__get__"=some (some g)) (ht:takesIn K a=some true):findObj K C od name=some (.bind g a):=by
 obtain ⟨cd,e⟩:=Option.isSome_iff_exists.mp hc; unfold findObj; rw [e,Option.bind_some,ha]; simp [hg,ht]
def kitx_exc {K:Frag} {x C:Addr} (T:XIs K C):KitX K (.ref x) (.ref C) (fun h=>∃ ox od,InstAt h x ox C od) where
 ty:=fun _ _ _ ⟨_,_,I⟩=>I.type
 it:=fun _ _ X _=>by
  have hcD:=T.cl; unfold clsIn at hcD; split at hcD
  ·rename_i c' d' cd' sl' ho
   intro A' Q' E' s' k q; unfold isType loadHead; exact yA (wpAny_loadPart (k _ _ (X _ _ ho)) (yG q))
  ·cases hcD
 ne:=fun h tp dd its n sl X htp=>by
  have hcD:=T.cl
  refine Bool.eq_false_iff.mpr fun q=>?_
  have e:C=tp:=Value.ref.inj (beq_iff_eq.mp q)
  subst e; unfold clsIn at hcD; split at hcD
  ·rename_i c' d' cd' sl' ho
   have z:=(X _ _ ho).symm.trans htp; cases z
  ·cases hcD
 ca:=fun X ⟨_,_,I⟩ k=>xget_class? X I T.toXGet (zgS T.cl T.ha T.hn T.tk) T.ob k
end X1
namespace L2
open PySem PySem.Spec PyProof.Rows
structure InsT (K:W.Frag) (C:Addr):Prop where
 cl:Cls K C
 ha:W.findIn K (.ref C) "__class__"=some (some (.builtin "object.__class__"))
 hn:W.specialIn K (.builtin "object.__class__") "__get__"=some (some (.builtin "getset_descriptor.__get__"))
 htk:W.takesIn K (.builtin "object.__class__")=some true
 hm:W.mroIn K C (.type "object")=some true
def TyA (K:W.Frag) (H:Hp) (x:V) (t:Value):Prop:=(∃ n,t=.type n/\zpK K H x n)\/(∃ a C dx fs,x=.ref a/\H a=some (.ins C dx fs)/\t=.ref C/\InsT K C)\/∃ a C dd,x=.ref a/\H a=some (.ext (XAt a C dd))/\(∀ dx,dd=some dx->∃ fs,H dx=some (.xd fs))/\t=.ref C/\X1.XIs K C
def zpt:V->Option Value
 | .ty n=>some (.type n)
 | .ref C=>some (.ref C)
 | _=>none
def zhx {c:V} {u v:Value} (r:zbI c u) (h:zpt c=some v):u=v:=by
 cases c with
 | ty n=>cases h; exact r
 | ref C=>cases h; exact r
 | _=>cases h
def zaP {K:W.Frag} {C D':Addr} {b:Bool} (hd:W.hasDictIn K D'=true) (ht:W.typeIn K (.ref D')=some (.type "type")) (hm:W.mroIn K C (.ref D')=some b) (hne:b=true\/(Value.ref C == Value.ref D')=false):W.kitOne K (.ref C) (.ref D')=some b:=by
 have hc:(W.clsIn K D').isSome=true:=by
  obtain ⟨cd,e,_⟩:=W.any_some hd; rw [e]; rfl
 have hk:W.kitCls K (.ref C) (.ref D')=some b:=by
  show (if ((W.clsIn K D').isSome && W.typeIn K (.ref D') == some (.type "type"))=true then W.subIn K (.ref C) (.ref D') else none)=some b
  rw [hc,ht,yW (by simp)]
  exact hm
 unfold W.kitOne
 by_cases e:(Value.ref C == Value.ref D')=true
 ·rw [yW e]
  rcases hne with h | h
  ·rw [h]
  ·rw [h] at e
   cases e
 ·rw [yS e]
  exact hk
section
def ziv {pins:yyL} {σ:St} {H:Hp} {s:Shared} {x:V} {u t:Value} (I:Inv X pins σ H s) (r1:zbI x u) (ty:TyA X.K H x t):∃ Hh,W.KitX X.K u t Hh/\Hh s.heap/\u≠.builtin "__main__.__loader__#opaque":=by
 rcases ty with ⟨n,rfl,ty⟩ | ⟨a,C,dx,fs,rfl,ea,rfl,T⟩ | ⟨a,C,dd,rfl,ea,hdd,rfl,T⟩
 ·cases x with
  | non=>cases (show n=_ from ty); cases (show u=Value.none from r1); exact ⟨_,W.kitx_none,True.intro,fun z=>nomatch z⟩
  | bl y=>cases (show n=_ from ty); cases (show u=Value.bool y from r1); exact ⟨_,W.kitx_bool,True.intro,fun z=>nomatch z⟩
  | int i=>cases (show n=_ from ty); obtain ⟨tk,z⟩:=(show ∃ t,u=Value.int i t from r1); cases z; exact ⟨_,W.kitx_int,True.intro,fun z=>nomatch z⟩
  | str y=>cases (show n=_ from ty); obtain ⟨tk,z⟩:=(show ∃ t,u=Value.str y t from r1); cases z; exact ⟨_,W.kitx_str,True.intro,fun z=>nomatch z⟩
  | ref a =>
   cases (show u=Value.ref a from r1)
   rcases ty with ⟨rfl,xs,hq⟩ | ⟨rfl,xs,hq⟩ | ⟨rfl,hq⟩
   ·obtain ⟨its,_,p,_⟩:=I.list hq
    obtain ⟨o,n,e1,c1,_⟩:=p
    exact ⟨_,W.kitx_list,⟨o,e1,c1⟩,fun z=>nomatch z⟩
   ·obtain ⟨its,_,p,_⟩:=I.tuple hq
    obtain ⟨o,h1,h2,_⟩:=p
    exact ⟨_,W.kitx_tuple,⟨o,h1,h2⟩,fun z=>nomatch z⟩
   ·have z:∃ o,s.heap.get? a=some o/\o.ExactDict:=by
     rcases hq with ⟨kvs,hq⟩ | ⟨kvs,hq⟩
     ·obtain ⟨_,_,_,_,o,_,_,e,ex,_⟩:=hq.ok I.hok
      exact ⟨o,e,ex⟩
     ·obtain ⟨_,_,_,_,o,_,_,e,ex,_⟩:=hq.ok I.hok
      exact ⟨o,e,ex⟩
    obtain ⟨o,h1,h2⟩:=z
    exact ⟨_,W.kitx_dict,⟨o,h1,h2.1⟩,fun z=>nomatch z⟩
  | _=>exact False.elim ty
 ·cases (show u=Value.ref a from r1)
  obtain ⟨mA,O,_⟩:=zfm I.hok ea; obtain ⟨od,J,_⟩:=O.look
  exact ⟨_,W.kitx_own (T.cl.get _) T.cl.hd T.ha T.hn T.htk T.hm,J,fun z=>nomatch z⟩
 ·cases (show u=Value.ref a from r1)
  obtain ⟨⟨vs,sl,hx⟩,_⟩:=(show zbr X.prog X.w H s.heap a (.ext (XAt a C dd)) from I.hok a _ ea)
  refine ⟨_,X1.kitx_exc T,?_,fun z=>nomatch z⟩
  cases dd with
  | none=>exact ⟨_,none,hx,rfl,rfl,True.intro⟩
  | some dx =>
   obtain ⟨fs,hf⟩:=hdd dx rfl
   obtain ⟨mA,⟨o,es,ep,ho,_⟩,_⟩:=(show zbr X.prog X.w H s.heap dx (.xd fs) from I.hok dx _ hf)
   exact ⟨_,some o,hx,rfl,rfl,ho⟩
def zjK:zcp X (.builtin "isinstance") (fun xs H Q=>∃ x t cv c b,xs=[x,cv]/\zpt cv=some c/\TyA X.K H x t/\W.kitOne X.K t c=some b/\Q (.bl b) H):=by
 intro pins s σ H xs us Q I r h; obtain ⟨x,t,cv,c,b,rfl,hc,ty,e,q⟩:=h; obtain ⟨u,w',rfl,r1,r2⟩:=zkc r
 cases zhx r2 hc
 obtain ⟨Hh,kx,hp,ne⟩:=ziv I r1 ty
 exact W.kia_one kx I.kIn hp e ne fun tk=>⟨.bl b,H,I.tok _,rfl,q⟩
def zjJ:zcp X (.builtin "isinstance") (fun xs H Q=>∃ x t a cvs cs b,xs=[x,.ref a]/\H a=some (.tup cvs)/\cvs.map zpt=cs.map some/\TyA X.K H x t/\W.kitAny X.K t cs=some b/\Q (.bl b) H):=by
 intro pins s σ H xs us Q I r h; obtain ⟨x,t,a,cvs,cs,b,rfl,ha,hc,ty,e,q⟩:=h; obtain ⟨u,w',rfl,r1,r2⟩:=zkc r
 cases (show w'=Value.ref a from r2)
 obtain ⟨Hh,kx,hp,ne⟩:=ziv I r1 ty
 obtain ⟨hz,its,rv,o,h1,h2,n,h3⟩:=(show zbr X.prog X.w H s.heap a (.tup cvs) from I.hok a _ ha)
 have ei:its=cs:=by
  clear hz h1 h3 e ha
  revert cs its
  induction cvs with
  | nil =>
   intro cs hc its rv; cases rv
   cases cs with
   | nil=>rfl
   | cons c cs=>simp at hc
  | cons c cvs ih =>
   intro cs hc its rv
   cases rv with
   | cons r0 rr =>
    cases cs with
    | nil=>simp at hc
    | cons c' cs =>
     simp only [yw,List.cons.injEq] at hc; rw [ih cs hc.2 _ rr,zhx r0 hc.1]
 subst ei; obtain ⟨cl,dd,dt,sl⟩:=o
 dsimp only at h2 h3
 subst h2 h3
 exact W.kia_tup kx I.kIn hp h1 e ne fun tk=>⟨.bl b,H,I.tok _,rfl,q⟩
def zeM (C:Addr) (fs:List Str):Sp:=fun vs H Q _=>∃ a dx us,vs=.ref a :: us/\us.length=fs.length/\H a=some (.ins C dx [])/\Q .non (upd H a (.ins C dx (fs.zip us)))
end
end L2
namespace PL
open PySem L2
section
variable {pos:Pos}
theorem zim.look {K:W.Frag} {H:Hp} {f:Str} {d:D}:∀ {fs:List (Str × V)} {ds:List (Str × D)},zim K H fs ds->ds.lookup f=some d->∃ v,fs.lookup f=some v/\Den K H v d
 | _,_,.nil,h=>by simp at h
 | p :: fs,q :: ds,.cons r t,h=>by
  obtain ⟨p1,p2⟩:=p; obtain ⟨q1,q2⟩:=q; obtain ⟨r1,r2⟩:=r
  dsimp only at r1 r2
  subst r1
  by_cases e:f=q1
  ·have hb:(f == q1)=true:=beq_iff_eq.mpr e
   simp only [List.lookup,hb] at h ⊢; cases h; exact ⟨_,rfl,r2⟩
  ·have hb:(f == q1)=false:=beq_eq_false_iff_ne.mpr e
   simp only [List.lookup,hb] at h ⊢; exact zim.look t h
theorem zin {K:W.Frag} {H:Hp}:∀ (fs:List Str) {vs:List V} {ds:List D},zb4 K H vs ds->zim K H (fs.zip vs) (fs.zip ds)
 | [],_,_,_=>.nil
 | f :: fs,_,_,.nil=>by simp only [List.zip_nil_right]; exact .nil
 | f :: fs,_,_,.cons r t=>.cons ⟨rfl,r⟩ (zin fs t)
def zbX {x:Str} {C:Addr} (hm:X.mg x=some (.ref C)) (hg:Gl X x:=by rfl) (hd:yyD x:=by decide):PE' X (.Name x pos) (tC' (.cls C)):=zm0 (v:=.ref C) hm rfl (fun _=>.cls C) hg hd
def zpu:D->Option Value
 | .ty n=>some (.type n)
 | .cls C=>some (.ref C)
 | _=>none
def zjG {K:W.Frag} {H:Hp} {v:V} {d:D} {c:Value} (h:Den K H v d) (e:zpu d=some c):zpt v=some c:=by
 cases h with
 | ty n=>exact e
 | cls C=>exact e
 | _=>cases e
def TyD (K:W.Frag) (d:D) (t:Value):Prop:=(∃ n,t=.type n/\znr d=some n)\/(∃ C fs,d=.obj C fs/\t=.ref C/\InsT K C)\/∃ C fs,d=.exc C fs/\t=.ref C/\X1.XIs K C
def TyD.ok {K:W.Frag} {Hi H:Hp} {x:V} {d:D} {t:Value} (s:zaR Hi H) (den:Den K Hi x d) (h:TyD K d t):TyA K H x t:=by
 rcases h with ⟨n,rfl,h⟩ | ⟨C,fs,rfl,rfl,T⟩ | ⟨C,fs,rfl,rfl,T⟩
 ·exact .inl ⟨n,rfl,zld s den h⟩
 ·obtain ⟨a,dx,fvs,rfl,ha,_⟩:=den.objI
  exact .inr (.inl ⟨a,C,dx,fvs,rfl,s _ _ ha,rfl,T⟩)
 ·obtain ⟨a,dd,rfl,ha,xd⟩:=den.excI
  refine .inr (.inr ⟨a,C,dd,rfl,s _ _ ha,fun dx e=>?_,rfl,T⟩)
  rcases xd with ⟨e',_⟩ | ⟨dx',fs',e',hf,_⟩
  ·rw [e'] at e; cases e
  ·rw [e'] at e
   cases e; exact ⟨fs',s _ _ hf⟩
def zee (K:W.Frag):RC':=fun ds Q=>∃ d t cd c b,ds=[d,cd]/\zpu cd=some c/\TyD K d t/\W.kitOne K t c=some b/\Q (.bl b)
def zpA:Cal X (.builtin "isinstance") (zee X.K):=⟨_,zjK,by
 rintro Hi H vs ds Q Q2 s dl ⟨d,t,cd,c,b,rfl,hc,ty,e,q⟩ fin
 obtain ⟨v,w,rfl,d1,d2⟩:=zlo dl; exact ⟨v,t,w,c,b,rfl,zjG d2 hc,ty.ok s.sub d1,e,fin Hi H _ _ (Ext.refl s) (.bl _) q⟩⟩
def zor (K:W.Frag):RC':=fun ds Q=>∃ d t cds cs b,ds=[d,.tup cds]/\cds.map zpu=cs.map some/\TyD K d t/\W.kitAny K t cs=some b/\Q (.bl b)
theorem zhy {K:W.Frag} {H:Hp}:∀ {vs:List V} {ds:List D} {cs:List Value},zb4 K H vs ds->ds.map zpu=cs.map some->vs.map zpt=cs.map some
 | _,_,cs,.nil,h=>h
 | _,_,[],.cons r t,h=>by simp at h
 | _,_,c :: cs,.cons r t,h=>by
  simp only [yw,List.cons.injEq] at h ⊢; exact ⟨zjG r h.1,zhy t h.2⟩
def zpz:Cal X (.builtin "isinstance") (zor X.K):=⟨_,zjJ,by
 rintro Hi H vs ds Q Q2 s dl ⟨d,t,cds,cs,b,rfl,hc,ty,e,q⟩ fin
 obtain ⟨v,w,rfl,d1,d2⟩:=zlo dl; obtain ⟨a,cvs,rfl,ha,dc⟩:=d2.tupJ; exact ⟨v,t,a,cvs,cs,b,rfl,s.sub _ _ ha,zhy dc hc,ty.ok s.sub d1,e,fin Hi H _ _ (Ext.refl s) (.bl _) q⟩⟩
instance {K:W.Frag}:MRC (zee K):=⟨fun _ _ _ h ⟨d,t,cd,c,b,x,y,z,w,q⟩=>⟨d,t,cd,c,b,x,y,z,w,h _ q⟩⟩
structure Mak (P:Program) (w:World) (K:W.Frag) (mg:Str->Option Value) (base:Heap) (k:Nat) (x:Str) (C:Addr) (fs:List Str):Prop where
 ex:∃ f fd ps,Mk K C f/\FnOk P w K mg base CX0 k f fd ps (zeM C fs)/\zbk K fd ps []/\mg x=some (.ref C)
def zV (C:Addr) (fs:List Str) (t:TA'):TE':=fun Γ Q=>t Γ fun ds Γ1=>ds.length=fs.length/\Q (.obj C (fs.zip ds)) Γ1
def zdr {k:Nat} {x:Str} {C:Addr} {fs:List Str} {p:Pos} {e:Expr} {es:List Expr} {t:TA'} (M:Mak X.prog X.w X.K X.mg X.base k x C fs) (hr:Room (k+1) X.A) (ha:PA' X (e :: es) t) (hg:Gl X x:=by rfl) (hdb:yyD x:=by decide) :
  PE' X (.Call (.Name x p) (e :: es) [] pos) (zV C fs t):=by
 obtain ⟨f,fd,ps,mk,F,b,hm⟩:=M.ex; refine ⟨PE.weak (zi1 (E:=E0) (dvs:=[]) mk F hr hg hm b .nil zfe ha.pa hdb (zah (zC ha.pl).1) (zaS (zC ha.pl).2)) ?_⟩
 rintro σ H Q ⟨W,Hi,Γ,Q',g,h,fin⟩
 refine ⟨W,Hi,Γ,_,g,h,?_⟩
 rintro vs H1 Hi1 Γ1 ds s1 g1 dl ⟨hl,q⟩
 intro a dx hna hdx ne; rw [yh]
 refine ⟨a,dx,vs,rfl,by rw [zm dl]; exact hl,zo,rfl,?_⟩
 rw [zdC]
 have e1:=Ext.newO g1.fz hdx (.own a) (fun _ z=>by cases z)
 have hna':upd H1 dx (.own a) a=none:=by rw [zp (fun z=>ne z.symm)]; exact hna
 have e2:=Ext.new e1.fz hna' (.ins C dx (fs.zip vs)); have e3:=e1.trans e2; exact fin _ _ ⟨_,_,Γ1,s1.trans e3.hi,g1.ext e3,Den.mkO zo ((zin fs dl).mono e3.hi),q⟩
end
end PL
namespace L2
open PySem PySem.Spec PyProof.Rows
section
variable {a:Addr} {y d:V} {u r:Value} {o:Option V}
end
section
variable {o e f:Expr} {apos cpos:Pos} {td ty tx:TE}
end
def zhI {a b c:Int} (ha:-(2 ^ 60)<=a) (ha':a<2 ^ 60) (hb:-(2 ^ 60)<=b) (hb':b<2 ^ 60) (hc:-(2 ^ 30)<c) (hc':c<2 ^ 30):Builtin.Range.small a b c=true:=by
 have h1:=PyProof.Rows.rangeSize_toNat a b c; have h2:=PyProof.Rows.rangeSize_toNat_le a b c; unfold Builtin.Range.small; simp only [Builtin.Range.rangeFitsLong,YQ,Bool.or_eq_true,decide_eq_true_eq,beq_iff_eq]
 refine ⟨⟨⟨⟨by omega,by omega⟩,by omega⟩,by omega⟩,.inr ?_⟩
 split <;> (simp [Builtin.Range.rangeFitsLong]; omega)
def zql (lo c:Int) (n:Nat):It:=⟨fun i _=>i<n,fun i H x H'=>H'=H/\x=.int (lo+(i:Nat) * c),fun i _=>n<=i⟩
def zgo {P:Program} {w:World} {K:W.Frag} {tg:Expr} (it:Addr) (lo c:Int) (n:Nat):Turn P w K tg (zql lo c n) [it] it (fun i h=>IsRangeIter h it (lo+(i:Nat) * c) ((n:Int)-(i:Nat)) c) where
 mem:=by simp
 obj:=fun i h st b hb=>by
  have e:b=it:=by simpa using hb
  subst e
  exact ⟨_,st,fun v z=>by
   have z':Data.fields _=Data.cell v:=z
   cases z'⟩
 keep:=fun i h h' st k=>k it (by simp) _ st
 item:=by
  intro X hP hw hK hc i pins s σ H E I hf st hg
  subst hP hw hK
  obtain ⟨f0,f1,f2,f3,f4,f5⟩:=hf it (by simp)
  have W:=Walks.range (prog:=X.prog) (w:=X.w) (I.ok.hd hc) it lo c n
  refine W.item i s _ _ hg st fun v h' tk hv st' kk=>?_
  obtain ⟨t,rfl⟩:=hv
  have I1:Inv X pins σ H { s with heap:=h',toks:=tk }:=I.turned (fun b o hb e=>kk b o (by simpa using hb) e) f0 f1 f3 f4 f5
  exact ⟨_,rfl,zjr (s:={ s with heap:=h',toks:=tk }) (n:="range_iterator") st' rfl rfl (by decide) ⟨.int (lo+(i:Nat) * c),H,I1,⟨t,rfl⟩,⟨rfl,rfl⟩,st',fun b hb=>(hf b hb).1⟩⟩
 done:=by
  intro X hP hw hK hc i pins s σ H E I hf st hg
  subst hP hw hK
  obtain ⟨f0,f1,f2,f3,f4,f5⟩:=hf it (by simp)
  exact wpAny_pyNext_range_end (I.ok.hd hc) st (by have:n<=i:=hg; omega) fun h' eb=>⟨rfl,I.turned (t':=s.toks) (fun b o hb e=>eb b o hb e) f0 f1 f3 f4 f5⟩
 self:=fun _ _ _ _ _ st h=>wpAny_pyIter_rangeiter st h
section
variable {tg:Expr}
def ziJ {pins:yyL} {σ:St} {H:Hp} {s:Shared} {R:It->Hp->Prop} {E:Value->Shared->Prop} {lo hi c:Int} {t u v:Tok} {tk:Nat} (I:Inv X pins σ H s) (h1:-(2 ^ 60)<=lo) (h2:lo<2 ^ 60) (h3:-(2 ^ 60)<=hi) (h4:hi<2 ^ 60) (h5:-(2 ^ 30)<c) (h6:c<2 ^ 30)
  (q:R (zql lo c (Builtin.Range.rangeSize lo hi c).toNat) H):wpAny (model X.prog X.w) X.A (pyIter (.ref s.heap.objs.size)) (PIE X pins σ tg R) E { s with heap:=s.heap.push { cls:=.type "range",data:=.fields #[.int lo t,.int hi u,.int c v] },toks:=tk }:=by
 refine wpAny_pyIter_range (IsRange.new ..) (zhI h1 h2 h3 h4 h5 h6) ?_
 have I1:Inv X pins σ H { s with heap:=s.heap.push { cls:=.type "range",data:=.fields #[.int lo t,.int hi u,.int c v] },toks:=tk }:=I.kept fun b o e=>yC _ e
 refine ⟨(s.heap.push { cls:=.type "range",data:=.fields #[.int lo t,.int hi u,.int c v] }).objs.size,[(s.heap.push { cls:=.type "range",data:=.fields #[.int lo t,.int hi u,.int c v] }).objs.size],_,_,H,rfl,
  I1.kept (t':=tk) fun b o e=>yC _ e,zgo _ lo c (Builtin.Range.rangeSize lo hi c).toNat,?_,fun b hb=>?_,q⟩
 ·have e1:lo+((0:Nat):Int) * c=lo:=by simp
  have e2:(((Builtin.Range.rangeSize lo hi c).toNat:Nat):Int)-((0:Nat):Int)=Builtin.Range.rangeSize lo hi c:=by rw [<- PyProof.Rows.rangeSize_toNat]; simp
  show IsRangeIter _ _ (lo+((0:Nat):Int) * c) ((((Builtin.Range.rangeSize lo hi c).toNat:Nat):Int)-((0:Nat):Int)) c
  rw [e1,e2]; exact yI _ rfl
 ·have e:b=(s.heap.push { cls:=.type "range",data:=.fields #[.int lo t,.int hi u,.int c v] }).objs.size:=by simpa using hb
  subst e; exact I1.fpOk (yJ _) (I1.hok.fresh (yJ _))
def zrk (ta:TA):TI:=fun σ H R=>ta σ H fun vs H1=>∃ i j c:Int,vs=[.int i,.int j,.int c]/\(-(2 ^ 60)<=i/\i<2 ^ 60/\-(2 ^ 60)<=j/\j<2 ^ 60/\-(2 ^ 30)<c/\c<2 ^ 30/\c≠0)/\R (zql i c (Builtin.Range.rangeSize i j c).toNat) H1
def ziX {a b c:Expr} {ta:TA} {p pos:Pos} (hg:Gl X "range") (hm:X.mg "range"=none) (ha:PA X [a,b,c] ta) (hs:starEach [a,b,c] X.env=(false,eval a X.env) :: starEach [b,c] X.env) (hpl:(backTo pos (starEach [b,c] X.env)).any (·.1)=false) :
  PI X tg (.Call (.Name "range" p) [a,b,c] [] pos) (zrk ta):=by
 intro pins s σ H R I h
 refine Call_ (zeT I hg hm boot_range (Yl (thn (ha pos pins s σ H _ I h) fun us s1 ⟨vs,H1,I1,r1,q1⟩=>?_) hs hpl))
 obtain ⟨i,j,k,e,⟨q1,q2,q3,q4,q5,q6,q7⟩,q⟩:=q1
 subst e
 cases r1 with
 | cons r rr =>
  cases rr with
  | cons r' rr =>
   cases rr with
   | cons r'' rr =>
    cases rr; obtain ⟨t,rfl⟩:=r; obtain ⟨t',rfl⟩:=r'; obtain ⟨t'',rfl⟩:=r''
    exact call_range_3 q7 (ziJ I1 q1 q2 q3 q4 q5 q6 q) (YA (PyProof.noPylong_small (by omega)))
end
end L2
namespace PL
open PySem L2
section
variable {pos:Pos}
def zfN (neg:Bool):R2':=fun x y Q=>∃ (l:List Nat) (ms:List (List Nat)),x=.str l/\(y=.tup (ms.map .str)\/y=.lst (ms.map .str))/\Q (.bl (if neg then !decide (l ∈ ms) else decide (l ∈ ms)))
theorem zd7 {K:W.Frag} {Hi:Hp}:∀ {vs:List V} {ms:List (List Nat)},zb4 K Hi vs (ms.map .str)->vs=ms.map fun m=>V.str (st m)
 | [],[],_=>rfl
 | v :: vs,m :: ms,.cons r t=>by rw [yw,<- r.strI,<- zd7 t]
 | [],_ :: _,h=>nomatch h
 | _ :: _,[],h=>nomatch h
theorem zfo (l:List Nat):∀ ms:List (List Nat),inV (.str (st l)) (ms.map fun m=>V.str (st m))=decide (l ∈ ms)
 | []=>rfl
 | m :: ms=>by
  have ih:=zfo l ms
  unfold inV at ih ⊢
  rw [yw,List.any_cons,ih]
  have e:eqV (.str (st m)) (.str (st l))=decide (m=l):=by
   show decide (st m=st l)=_
   by_cases h:m=l
   ·rw [h]; simp
   ·rw [yY h,yY (fun z=>h (by
     have:=yg (fun x:Str=>x.cps.toList) z
     simpa [st] using this))]
  rw [e]
  by_cases h:m=l
  ·subst h; simp
  ·have h':¬ l=m:=fun z=>h z.symm
   simp [h,h']
def zf8 (ms:List (List Nat)):(ms.map fun m=>V.str (st m)).all zev=true:=by
 rw [Yf]; intro x hx; obtain ⟨m,_,rfl⟩:=yd.mp hx; rfl
def zhm {K:W.Frag} (neg:Bool):zgn K (rIn K neg) (zfN neg):=by
 rintro Hi H x y dx dy Q Q2 s d1 d2 ⟨l,ms,rfl,hy,q⟩ fin
 cases d1.strI
 rcases hy with rfl | rfl
 ·obtain ⟨a,vs,rfl,h1,h2⟩:=d2.tupJ
  rw [zd7 h2] at h1; refine ⟨a,_,rfl,.inr (SqT.of (s.sub _ _ h1)),rfl,zf8 ms,?_⟩; rw [zfo]; exact fin Hi H _ _ (Ext.refl s) (.bl _) q
 ·obtain ⟨a,vs,rfl,h1,h2⟩:=d2.lstI
  rw [zd7 h2] at h1; refine ⟨a,_,rfl,.inl (zab s.sub h1),rfl,zf8 ms,?_⟩; rw [zfo]; exact fin Hi H _ _ (Ext.refl s) (.bl _) q
def zkP:Op2 X (compareOp .In) (zfN false):=⟨_,zi6,zhm false⟩
def zgL:Op2 X (compareOp .NotIn) (zfN true):=⟨_,zfR,zhm true⟩
instance {neg:Bool}:MR2 (zfN neg):=⟨fun _ _ _ _ h ⟨l,ms,a,b,q⟩=>⟨l,ms,a,b,h _ q⟩⟩
def zlf {K:W.Frag} {Hi:Hp} (lo c:Int) (n:Nat):ItD K Hi (zql lo c n) ((List.range n).map fun k=>.int (lo+(k:Nat) * c)):=by
 intro Hi' H' s f
 refine ⟨fun i d e=>?_,by show n<=_; simp⟩
 have hi:i<n:=by
  have:=(yD.mp e).1
  simpa using this
 rw [yF,YK hi] at e; cases e; refine ⟨hi,?_⟩
 rintro x H'' ⟨rfl,rfl⟩
 exact ⟨Hi',Ext.refl f,.int _⟩
def zrN (i j c:Int):List D:=(List.range (Builtin.Range.rangeSize i j c).toNat).map fun k=>.int (i+(k:Nat) * c)
def zX (t:TA'):TI':=fun Γ Q=>t Γ fun ds Γ1=>∃ i j c:Int,ds=[.int i,.int j,.int c]/\(-(2 ^ 60)<=i/\i<2 ^ 60/\-(2 ^ 60)<=j/\j<2 ^ 60/\-(2 ^ 30)<c/\c<2 ^ 30/\c≠0)/\Q (zrN i j c) Γ1
def zrv {K:W.Frag} {H:Hp} {vs:List V} {d e f:D} (h:zb4 K H vs [d,e,f]):∃ v w u,vs=[v,w,u]/\Den K H v d/\Den K H w e/\Den K H u f:=by
 cases h with
 | cons r t =>
  cases t with
  | cons r' t=>
   cases t with
   | cons r'' t=>cases t; exact ⟨_,_,_,rfl,r,r',r''⟩
def zhW {a b c tg:Expr} {t:TA'} {p pos:Pos} (hm:X.mg "range"=none) (ha:PA' X [a,b,c] t) (hg:Gl X "range":=by rfl):PI' X tg (.Call (.Name "range" p) [a,b,c] [] pos) (zX t):=by
 refine ⟨PI.weak (ziX hg hm ha.pa (zah (zC ha.pl).1) (zaS (zC ha.pl).2)) ?_⟩
 rintro σ H R ⟨W,Hi,Γ,Q',g,h,fin⟩
 refine ⟨W,Hi,Γ,_,g,h,?_⟩
 rintro vs H1 Hi1 Γ1 ds s1 g1 dl ⟨i,j,c,rfl,b,q⟩
 obtain ⟨v,w,u,rfl,d1,d2,d3⟩:=zrv dl
 exact ⟨i,j,c,by rw [d1.intI,d2.intI,d3.intI],b,fin _ H1 Hi1 Γ1 _ s1 g1 (zlf i c _) q⟩
end
section
variable {Q:D->Prop}
instance:MR2 zhR:=⟨fun _ _ _ _ h ⟨i,j,a,b,c,q⟩=>⟨i,j,a,b,c,h _ q⟩⟩
def zfO:R2':=fun x y Q=>zfP x y Q\/zhR x y Q
def zbm:Op2 X (binaryOp .Add) zfO:=zre.or zo6
instance:MR2 zfO:=⟨fun _ _ _ _ h q=>q.imp (MR2.mono (r:=zfP) _ _ _ _ h) (MR2.mono (r:=zhR) _ _ _ _ h)⟩
instance {neg:Bool}:MR2 (zmK neg):=⟨fun _ _ _ _ h ⟨i,j,a,b,q⟩=>⟨i,j,a,b,h _ q⟩⟩
def zox:R2':=fun x y Q=>zlK false x y Q\/zmK false x y Q\/zfN false x y Q
def zkQ (hu:X.A.units+1<cLine):Op2 X (compareOp .In) zox:=zrc.or ((zrb hu).or zkP)
def zec:R2':=fun x y Q=>zfa x y Q\/zmK true x y Q\/zfN true x y Q
def zhf (hu:X.A.units+1<cLine):Op2 X (compareOp .NotIn) zec:=znc.or ((zkM hu).or zgL)
instance:MR2 zec:=⟨fun _ _ _ _ h q=>q.imp (MR2.mono (r:=zfa) _ _ _ _ h) (fun q=>q.imp (MR2.mono (r:=zmK true) _ _ _ _ h) (MR2.mono (r:=zfN true) _ _ _ _ h))⟩
instance:MR2 zgy:=⟨fun _ _ _ _ h ⟨i,j,v,a,b,c,q⟩=>⟨i,j,v,a,b,c,h _ q⟩⟩
def zlI:R2':=fun x y Q=>zjX x y Q\/zgy x y Q
def i_A (hu:X.A.units+1<cLine):Ixs X zlI:=zri.or (zrj hu)
instance:MR2 zlI:=⟨fun _ _ _ _ h q=>q.imp (MR2.mono (r:=zjX) _ _ _ _ h) (MR2.mono (r:=zgy) _ _ _ _ h)⟩
instance:MRS zhP:=⟨fun _ _ _ _ _ h ⟨ds,e,q⟩=>⟨ds,e,h _ q⟩⟩
def znX:RS':=fun x lo hi Q=>zmJ x lo hi Q\/zhP x lo hi Q
def s_A:Sli X znX:=zsm.or zqL
instance:MRS znX:=⟨fun _ _ _ _ _ h q=>q.imp (MRS.mono (r:=zmJ) _ _ _ _ _ h) (MRS.mono (r:=zhP) _ _ _ _ _ h)⟩
def zfM:RC':=fun ds Q=>zeD ds Q\/zgx ds Q
def zci:Cal X (.builtin "len") zfM:=zrz.or zpy
instance:MRC zfM:=⟨fun _ _ _ h q=>q.imp (MRC.mono (r:=zeD) _ _ _ h) (MRC.mono (r:=zgx) _ _ _ h)⟩
def zg9:zjT:=fun ds Q=>zed ds Q\/zdn ds Q
def znM (hc:X.calm=true):CalO X (.type "list") zg9:=zpx.or (znL hc)
instance:MRCO zg9:=⟨fun _ _ _ h q=>q.imp (MRCO.mono (r:=zed) _ _ _ h) (MRCO.mono (r:=zdn) _ _ _ h)⟩
@[simp] theorem zqy:D.tup []=plc []:=rfl
@[simp] theorem zqx (l:List Nat):D.tup [.str l]=plc [l]:=rfl
@[simp] theorem zef (i j:Int):zfO (.int i) (.int j) Q↔Q (.int (i+j)):=by simp [zfO,zhR]
@[simp] theorem zoA (l m:List Nat):zfO (.str l) (.str m) Q↔l.length+m.length<=sizeLine/\Q (.str (l ++ m)):=by simp [zfO,zhR]
@[simp] theorem zqY (c:Nat) (l:List Nat):zox (.str [c]) (.str l) Q↔Q (.bl (decide (c ∈ l))):=by simp [zox,zmK,zfN]
@[simp] theorem zp5 (ds:List D) (i:Int):zlI (.lst ds) (.int i) Q↔∃ d,atI ds i=some d/\Q d:=by simp [zlI,zgy]
@[simp] theorem zd1 (ds:List D) (i:Int):zlI (.tup ds) (.int i) Q↔∃ d,atI ds i=some d/\Q d:=by simp [zlI,zgy]
@[simp] theorem zp4 (l:List Nat) (i:Int):zlI (.str l) (.int i) Q↔l.length<=sizeLine/\∃ c,atI l i=some c/\Q (.str [c]):=by simp [zlI,zgy]
@[simp] theorem zc0 (ds:List D) (lo hi:Option Int):znX (.lst ds) lo hi Q↔Q (.lst (zex ds lo hi)):=by simp [znX,zhP]
@[simp] theorem zpX (ds:List D) (lo hi:Option Int):znX (.tup ds) lo hi Q↔Q (.tup (zex ds lo hi)):=by simp [znX,zhP,zmJ,zkr,zks]
def zlp {α β:Type} (f:α->β) (xs:List α) (lo hi:Option Int):zex (xs.map f) lo hi=(zex xs lo hi).map f:=by
 unfold zex; rw [yE,List.map_take,List.map_drop]
@[simp] theorem zoq (l:List Nat):zfM [.str l] Q↔l.length<=sizeLine/\Q (.int (l.length:Nat)):=by simp [zfM,zgx]
@[simp] theorem zfL (l:List D):zfM [.lst l] Q↔Q (.int (l.length:Nat)):=by simp [zfM,zgx]
@[simp] theorem zop (l:List D):zfM [.tup l] Q↔Q (.int (l.length:Nat)):=by simp [zfM,zgx]
@[simp] theorem zpS (p:List (List Nat)):zoi (plc p)=some (p.map .str):=rfl
@[simp] theorem zhQ {Q:OD->Prop} (l:List D):zg9 [.tup l] Q↔Q (.lst l):=by simp [zg9,zed,zdn]
def zft {α:Type} (xs:List α) (n:Nat):zex xs none (some (n:Int))=xs.take n:=by
 unfold zex; rw [HT.sIx_none,HT.sIx_nat,List.drop_zero,Nat.sub_zero]
 by_cases h:n<=xs.length
 ·rw [Nat.min_eq_left h]
 ·rw [Nat.min_eq_right (by omega),yx,List.take_of_length_le (by omega)]
def zgB {i:Int} {j:Nat} {p pos:Pos}:PE' X (.UnaryOp .USub (.Constant (.int i) j p) pos) (tC' (.int (-i))):=by
 refine zgD (v:=.int (-i)) (PE.weak (zoK zlz zhe) ?_) fun _=>.int _
 intro σ H Q q; exact ⟨i,rfl,q⟩
def za9 {A:Around} {k:Nat} (hr:Room k A):A.units+100<cLine:=by have:=hr.un; omega
@[simp] theorem zpE {α:Type} (a:α) (l:List α):atI (a :: l) 0=some a:=zbY (j:=0) rfl
@[simp] theorem zlu {α:Type} (a b:α) (l:List α):atI (a :: b :: l) 1=some b:=zbY (j:=1) rfl
@[simp] theorem znP {α:Type} (a b c:α) (l:List α):atI (a :: b :: c :: l) 2=some c:=zbY (j:=2) rfl
@[simp] theorem znO {α:Type} (a b c d:α) (l:List α):atI (a :: b :: c :: d :: l) 3=some d:=zbY (j:=3) rfl
@[simp] theorem zr3 {CX:CXT} {P:Program} {w:World} {K:W.Frag} {mg:Str->Option Value} {base:Heap} {N:List Str} {q:Str} {sc:Scope} {f:Addr} {cd:Value} {A:Around} {o:List Env} {s:Shared} {H:Hp} {E:XK}:(zd8 CX P w K mg base N q sc f cd A o s H E).K=K:=rfl
@[simp] theorem zr2 {CX:CXT} {P:Program} {w:World} {K:W.Frag} {mg:Str->Option Value} {base:Heap} {N:List Str} {q:Str} {sc:Scope} {f:Addr} {cd:Value} {A:Around} {o:List Env} {s:Shared} {H:Hp} {E:XK}:(zd8 CX P w K mg base N q sc f cd A o s H E).N=N:=rfl
@[simp] theorem ziM (K:W.Frag) (C c:Addr) (fs:List (Str × D)):zee K [.obj C fs,.cls c] Q↔InsT K C/\∃ b,W.kitOne K (.ref C) (.ref c)=some b/\Q (.bl b):=by
 constructor
 ·rintro ⟨d,t,cd,v,b,e,h1,h2,h3,q⟩
  injection e with e1 e2
  injection e2 with e2 _
  subst e1 e2
  cases h1
  rcases h2 with ⟨n,_,h2⟩ | ⟨C',fs',e,rfl,T⟩ | ⟨C',fs',e,_,_⟩
  ·cases h2
  ·cases e
   exact ⟨T,b,h3,q⟩
  ·cases e
 ·rintro ⟨T,b,h,q⟩
  exact ⟨_,_,_,_,b,rfl,rfl,.inr (.inl ⟨C,fs,rfl,rfl,T⟩),h,q⟩
def zcr (K:W.Frag) {d:D} {n:String} (hk:znr d=some n) {cd:D} {c:Value} (hc:zpu cd=some c):zee K [d,cd] Q↔∃ b,W.kitOne K (.type n) c=some b/\Q (.bl b):=by
 constructor
 ·rintro ⟨d',t,cd',v,b,e,h1,h2,h3,q⟩
  injection e with e1 e2
  injection e2 with e2 _
  subst e1 e2
  rw [hc] at h1; cases h1
  rcases h2 with ⟨m,rfl,h2⟩ | ⟨C',fs',rfl,rfl,T⟩ | ⟨C',fs',rfl,rfl,T⟩
  ·rw [hk] at h2
   cases h2; exact ⟨b,h3,q⟩
  ·cases hk
  ·cases hk
 ·rintro ⟨b,h,q⟩
  exact ⟨d,_,cd,c,b,rfl,hc,.inl ⟨n,rfl,hk⟩,h,q⟩
@[simp] theorem zou (K:W.Frag) (c:String) :zee K [.non,.ty c] Q↔∃ b,W.kitOne K (.type "NoneType") (.type c)=some b/\Q (.bl b):=zcr K rfl rfl
@[simp] theorem zow (K:W.Frag) (c:String) (x:Int):zee K [(.int x),.ty c] Q↔∃ b,W.kitOne K (.type "int") (.type c)=some b/\Q (.bl b):=zcr K rfl rfl
@[simp] theorem zot (K:W.Frag) (c:String) (x:List Nat):zee K [(.str x),.ty c] Q↔∃ b,W.kitOne K (.type "str") (.type c)=some b/\Q (.bl b):=zcr K rfl rfl
@[simp] theorem zov (K:W.Frag) (c:String) (x:List D):zee K [(.lst x),.ty c] Q↔∃ b,W.kitOne K (.type "list") (.type c)=some b/\Q (.bl b):=zcr K rfl rfl
@[simp] theorem zos (K:W.Frag) (c:String) (x:List D):zee K [(.tup x),.ty c] Q↔∃ b,W.kitOne K (.type "tuple") (.type c)=some b/\Q (.bl b):=zcr K rfl rfl
end
end PL
namespace X1
open PySem PySem.W
def xmro:List Value->Bool
 | .ref _ :: r=>xmro r
 | l=>l == [.type "ValueError",.type "Exception",.type "BaseException",.type "object"]
theorem zg8 (self:Value):∀ {l:List Value},xmro l=true->refuseLoop self "__setattr__" l=pure ()
 | [],e=>by cases e
 | .ref c :: r,e=>by rw [refuseLoop_ref]; exact zg8 self e
 | .type n :: r,e=>by
  have z:(Value.type n :: r)=[.type "ValueError",.type "Exception",.type "BaseException",.type "object"]:=beq_iff_eq.mp e
  rw [z]; exact PySem.F.store_ValueError.passes self
 | .none :: r,e=>by cases beq_iff_eq.mp (show (_ == _)=true from e)
 | .bool _ :: r,e=>by cases beq_iff_eq.mp (show (_ == _)=true from e)
 | .int _ _ :: r,e=>by cases beq_iff_eq.mp (show (_ == _)=true from e)
 | .str _ _ :: r,e=>by cases beq_iff_eq.mp (show (_ == _)=true from e)
 | .float _ _ :: r,e=>by cases beq_iff_eq.mp (show (_ == _)=true from e)
 | .bytes _ _ :: r,e=>by cases beq_iff_eq.mp (show (_ == _)=true from e)
 | .builtin _ :: r,e=>by cases beq_iff_eq.mp (show (_ == _)=true from e)
structure XSet (K:Frag) (C:Addr):Prop where
 sa:findIn K (.ref C) "__setattr__"=some (some (.builtin "object.__setattr__"))
 dc:((clsIn K C).any fun cd=>cd.hasDict && xmro cd.mro)=true
 ob:mroIn K C (.type "object")=some true
section
variable {K:Frag} {x C:Addr} {vs:Array Value} {sl:Array (Option Value)} {name:Str} {v:Value}
def xset1 {Q:Unit->Shared->Prop} (X:K.In s.heap) (T:XSet K C) (ht:takerIn K C name=some none) (he:s.heap.get? x=some ⟨.ref C,none,.fields vs,sl⟩)
  (h:∀ h',h'.get? x=some ⟨.ref C,some s.heap.objs.size,.fields vs,sl⟩->h'.Ns1 s.heap.objs.size (fun y=>if y=name then some v else none)->(∀ b o,b≠x->s.heap.get? b=some o->h'.get? b=some o)->Q () { s with heap:=h',toks:=s.toks+2 }) :
  wpAny (model prog w) A (setAttr (.ref x) name v) Q E s:=by
 have I:InstAt s.heap x ⟨.ref C,none,.fields vs,sl⟩ C none:=⟨he,rfl,rfl,True.intro⟩
 obtain ⟨cd,hc,ho⟩:=any_some T.dc; rw [YQ] at ho; refine set_plain X I T.sa ?_; have SF:=PySem.F.store_object
 have sub:Looks (model prog w) s.heap (isInstance (.ref x) (.type "object")) true:=I.type.andThen (looks_mroIn X T.ob)
 refine codeAny_call_builtin SF.slot.plain SF.entry (@check_slot (model prog w) _ _ { s with toks:=s.toks+1 } "object.__setattr__" "object" "__setattr__" (.ref x) [.str name s.toks,v] [] _ SF.kind SF.split sub (SF.args (.ref x) (.str name s.toks) v) ?_)
 obtain ⟨attr,ha,hr⟩:=Option.bind_eq_some_iff.mp ht
 have hm:Looks (model prog w) s.heap (mroOf (.ref C)) cd.mro:=(looks_clsIn X hc).andThen .now
 have L3:Looks (model prog w) s.heap (Builtin.ObjectAttr.storeTaker? attr) none:=by
  cases attr with
  | none=>exact .now
  | some a =>
   obtain ⟨b,hb,e⟩:=yK.mp hr; refine (looks_takesIn X hb).andThen ?_; cases b
   ·exact .now
   ·cases e
 rw [osa_eq,refuse_eq]
 refine yA (yA (I.type.here (s:={ s with toks:=s.toks+1 }) (yA (hm.here (s:={ s with toks:=s.toks+1 }) ?_))))
 rw [zg8 _ ho.2]
 refine yG (yA (I.type.here (s:={ s with toks:=s.toks+1 }) (yA ((looks_findIn X ha).here (s:={ s with toks:=s.toks+1 }) (yA (L3.here (s:={ s with toks:=s.toks+1 }) ?_))))))
 show wpAny _ _ (Builtin.ObjectAttr.storeInOwnDict (.ref x) (.ref C) (.str name s.toks) name v attr.isSome) _ _ _
 refine yA (yG (yA (yA (wpAny_loadPart (s:={ s with toks:=s.toks+1 }) he (yA (Looks.here (s:={ s with toks:=s.toks+1 }) (looks_clsIn X hc) ?_))))))
 rw [ho.1]
 have hth:typeHasDict (.ref C)=true:=rfl
 show wpAny _ _ (do
  let d <- alloc { cls:=.type "dict",data:=.dict #[] }
  update x fun o=>{ o with dict:=some d }
  dictMade (.ref C) x d) _ _ _
 refine yA (wpAny_alloc ?_)
 have hx1:(s.heap.push { cls:=.type "dict",data:=.dict #[] }).get? x=some ⟨.ref C,none,.fields vs,sl⟩:=yC _ he
 refine yA (wpAny_update hx1 ?_)
 have hne:x≠s.heap.objs.size:=yP (yH he)
 have hx2:=YB (fun o:Obj=>{ o with dict:=some s.heap.objs.size }) hx1 rfl
 have hd2:((s.heap.push { cls:=.type "dict",data:=.dict #[] }).update x fun o=>{ o with dict:=some s.heap.objs.size }).get? s.heap.objs.size=some { cls:=.type "dict",data:=.dict #[] }:=by
  rw [yX _ _ hne]; exact yI _ rfl
 refine yG (yA (yG (yA ?_)))
 have hn:((s.heap.push { cls:=.type "dict",data:=.dict #[] }).update x fun o=>{ o with dict:=some s.heap.objs.size }).Ns1 s.heap.objs.size (fun _=>none):=Heap.Ns1.of_empty ⟨_,#[],_,hd2,rfl,(fun e z=>yU z (by simp)),fun _=>rfl⟩
 refine wpAny_nsSet1 hn fun h' hn2 hs2=>?_
 obtain ⟨oD,esD,epD,hoD,hdD,hcD⟩:=hn2.count (PySem.Within.cons name v (ns:=[]) fun y hy=>yU rfl hy)
 refine yA (wpAny_lookBehind hoD (by rw [hdD]; exact pastItsLine_dict (yj hcD (Nat.le_add_left 1 sizeLine))) ?_)
 refine yG (h h' ((hs2.2 _ hne).trans hx2) hn2 fun b o hb e=>?_)
 have hbd:b≠s.heap.objs.size:=yP (yH e)
 rw [hs2.2 _ hbd,yX _ _ (Ne.symm hb)]; exact yC _ e
end
section
variable {h:Heap} {g:Array GenState} {d:Drawn} {t:Nat} {os:OsState} {C N e:Addr} {bm bmB:List Value} {B nid iid:String} {zbF:List Value} {vs:Array Value} {dd:Option Addr} {sl:Array (Option Value)}
def base_init {Q:Value->Shared->Prop} (F:ExcBaseFacts B nid iid bmB) (T:OwnTail h bmB bm) (X:XC h C N bm nid) (he:h.get? e=some ⟨.ref C,dd,.fields vs,sl⟩) {t0:Addr} (h0:vs[0]?=some (.ref t0)) (hr:zbF.length<=sizeLine)
  (k:Q .none ⟨(h.push (tupX zbF)).update e (Obj.mapFields (·.setIfInBounds 0 (.ref h.objs.size))),g,d,t,os⟩):wpAny (model prog w) A (call (.builtin iid) (.ref e :: zbF)) Q E ⟨h,g,d,t,os⟩:=by
 obtain ⟨nm,q,bs,hd,sn,sub,ab,col,dd',k0,k1,k2,k3,k5,hC⟩:=X.ex; refine wpAny_call (codeAny_call_builtin F.init.plain F.initEntry (wpAny_check_init_subT F T hC he rfl ?_))
 wp_walk
 rw [h0]
 have he':(h.push (tupX zbF)).get? e=some ⟨.ref C,dd,.fields vs,sl⟩:=yC _ he
 refine yG (yA (YW he' rfl (yq.mp h0).1 ?_))
 repeat (first | wp_step)
 exact k
end
end X1
namespace L2
open PySem PySem.Spec PyProof.Rows
structure Fly (n:Nat) (H:Hp) (h:Heap) (e C:Addr) (dd:Option Addr):Prop where
 ne:n<=e
 fe:H e=none
 ex:∃ vs,X1.Ex h e (.ref C) dd vs/\1<vs.size/\X1.Hd h e vs .none (fun b=>n<=b/\H b=none)
structure FlyG (n:Nat) (H:Hp) (h:Heap) (e C:Addr) (dd:Option Addr):Prop where
 ne:n<=e
 fe:H e=none
 ex:∃ vs,X1.Ex h e (.ref C) dd vs/\1<vs.size/\X1.HdN h e vs n (fun b=>n<=b/\H b=none)
def CX1 (P:Program) (w:World):CXT:=fun outer H s E e s'=>∃ ae C dd H',e=.ref ae/\s'.os=s.os/\AllBare s'.gens/\Un (frs outer) [] H H' s.heap s'.heap/\HOk P w H' s'.heap/\Fly s.heap.objs.size H' s'.heap ae C dd/\E (.ref C) dd H'
def zl9 {P:Program} {w:World} {H:Hp} {h h':Heap} {R:Addr->Prop} {fr:List Addr} (x:HOk P w H h) (k:X1.Kp R fr h h') (hR:∀ b,R b->H b=none) (hf:∀ b ∈ fr,H b=none):HOk P w H h':=fun a o e =>
 (x a o e).stay (fun b u hb q=>by
  have hn:∀ c,H c≠none->¬ R c/\c ∉ fr:=fun c z=>⟨fun r=>z (hR c r),fun m=>z (hf c m)⟩
  rcases hb with rfl | hb
  ·have z:=hn b (by rw [e]; exact fun z=>nomatch z)
   exact k.keep b u q z.1 z.2
  ·have z:=hn b (by rw [hb]; exact fun z=>nomatch z)
   exact k.keep b u q z.1 z.2) (fun _ q=>q) fun _ _ q=>q
section
variable {N:List Str} {qual:Str} {scope:Scope} {f:Addr} {cd:Value} {outer:List Env} {s':Shared} {H':Hp} {E:XK} {e C:Addr} {dd:Option Addr}
def zpc (I:Inv (zd8 (CX1 P w) P w K mg base N qual scope f cd A outer s H E) pins σ H' s') (F:FlyG s.heap.objs.size H' s'.heap e C dd) (hE:E (.ref C) dd H'):(zd8 (CX1 P w) P w K mg base N qual scope f cd A outer s H E).xe (.ref e) s':=by
 obtain ⟨vs,hx,hs,hd⟩:=F.ex
 have hd':X1.HdN s'.heap e vs s.heap.objs.size (fun b=>b=e\/vs[1]?=some (.ref b)):=hd.imp fun b z _=>.inr z
 have hR:∀ b,(b=e\/vs[1]?=some (.ref b))->s.heap.objs.size<=b/\H' b=none:=fun b hb=>by
  rcases hb with rfl | hb
  ·exact ⟨F.ne,F.fe⟩
  ·exact hd.own b hb
 refine X1.leaveN (env:=envOfC qual scope s.heap.objs.size f cd) (outer:=outer) (L:=s.heap.objs.size) (R:=fun b=>b=e\/vs[1]?=some (.ref b)) I.ok.frames I.stack rfl hx hs hd' (.inl rfl) fun h' T vs' x1 x2 x3 x4 x5 x6 x7 x8=>?_
 have hfr:∀ b ∈ frs (envOfC qual scope s.heap.objs.size f cd :: outer),H' b=none:=I.stkFree
 have un:=I.base
 have hT:H' T=none:=x6.elim (fun z=>I.hok.fresh z) fun z=>(hR T z).2
 have hTn:s.heap.objs.size<=T:=x6.elim (fun z=>yj I.sz z) fun z=>(hR T z).1
 have young:∀ b o,s.heap.get? b=some o->¬ (b=e\/vs[1]?=some (.ref b)):=fun b o q z=>yU (yM (yH q) (hR b z).1) (YR _)
 have notL:∀ b o,s.heap.get? b=some o->b≠s.heap.objs.size:=fun b o q=>yP (yH q)
 have cut:∀ b,b ∈ frs (envOfC qual scope s.heap.objs.size f cd :: outer)->b=s.heap.objs.size\/b ∈ frs outer:=fun b hb=>yO.mp hb
 refine ⟨e,C,dd,H',rfl,I.os,I.bare,⟨fun b o q n hb hx=>?_,fun b o q n hb hx=>?_,fun b o q n hx=>un.free b o q n hx,fun b o q hx=>?_,un.tups,un.frzs,un.tbls⟩,zl9 I.hok x8 (fun b hb=>(hR b hb).2) hfr,⟨F.ne,F.fe,vs',x1,x3,.inr ⟨T,x4,x5,⟨hTn,hT⟩,x7⟩⟩,hE⟩
 ·refine x8.keep b o (un.keep b o q n hb hx) (young b o q) fun z=>?_
  rcases cut b z with z | z
  ·exact notL b o q z
  ·exact hb z
 ·obtain ⟨sl,e1⟩:=un.slot b o q n hb hx
  obtain ⟨sl2,e2⟩:=x8.slot b _ e1 (young b o q) (yc _ hb); exact ⟨sl2,e2⟩
 ·obtain ⟨o',e1⟩:=un.there b o q hx
  by_cases z:b ∈ frs (envOfC qual scope s.heap.objs.size f cd :: outer)
  ·obtain ⟨sl,e2⟩:=x8.slot b o' e1 (young b o q) z
   exact ⟨_,e2⟩
  ·exact ⟨o',x8.keep b o' e1 (young b o q) z⟩
end
structure FlyI (X:Cx) (pins:yyL) (H:Hp) (h:Heap) (e C:Addr) (dd:Option Addr):Prop where
 fe:zdf X pins H e
 ex:∃ vs,X1.Ex h e (.ref C) dd vs/\1<vs.size/\X1.HdN h e vs X.env.locals (zdf X pins H)
abbrev XS:=St->XK
def XP (X:Cx) (pins:yyL) (E:XS) (e:Value) (s':Shared):Prop:=∃ ae C dd σ' H',e=.ref ae/\Inv X pins σ' H' s'/\FlyI X pins H' s'.heap ae C dd/\E σ' (.ref C) dd H'
abbrev TEx:=St->Hp->VK->XK->Prop
abbrev TSx:=Ends->XS->St->Hp->Prop
def at1 (σ:St) (E:XK):XS:=fun σ' c d H'=>σ'=σ/\E c d H'
def PEx (X:Cx) (e:Expr) (t:TEx):Prop:=∀ (pins:yyL) (s:Shared) (σ:St) (H:Hp) (Q:VK) (E:XK),Inv X pins σ H s->t σ H Q E->wpAny (model X.prog X.w) X.A (eval e X.env) (EP X pins σ Q) (XP X pins (at1 σ E)) s
def PSx (X:Cx) (st:Stmt) (t:TSx):Prop:=∀ (pins:yyL) (s:Shared) (σ:St) (H:Hp) (D:Ends) (E:XS),Inv X pins σ H s->t D E σ H->wpAny (model X.prog X.w) X.A (exec st X.env) (SP X pins D) (XP X pins E) s
def zgW (X:Cx) (st:List Stmt) (t:TSx):Prop:=∀ (pins:yyL) (s:Shared) (σ:St) (H:Hp) (D:Ends) (E:XS),Inv X pins σ H s->t D E σ H->wpAny (model X.prog X.w) X.A (execs st X.env) (SP X pins D) (XP X pins E) s
section
variable {st:Stmt} {zbF:List Stmt} {t u:TSx} {e:Expr} {te:TEx} {pos:Pos}
def PS.x {t:TS} (h:PS X.nox st t):PSx X st (fun D _ σ H=>t D σ H):=fun pins s σ H D E I q =>
 ym (h pins s σ H D (I.wish _) q) (fun _ _ q=>q.unwish) fun _ _ z=>z.elim
def PA.x {es:List Expr} {t:TA} (h:PA X.nox es t) {E:Value->Shared->Prop} {pos:Pos} {pins:yyL} {s:Shared} {σ:St} {H:Hp} {Q:List V->Hp->Prop} (I:Inv X pins σ H s) (q:t σ H Q):wpAny (model X.prog X.w) X.A (spliced (backTo pos (starEach es X.env))) (AP X pins σ Q) E s :=
 ym (h pos pins s σ H Q (I.wish _) q) (fun _ _ ⟨v,H',I',r,q⟩=>⟨v,H',I'.unwish,r,q⟩) fun _ _ z=>z.elim
def PT.x {t:TT} (h:PT X.nox e t) {E:Value->Shared->Prop} {pins:yyL} {s:Shared} {σ:St} {H:Hp} {Q:Bool->Hp->Prop} (I:Inv X pins σ H s) (q:t σ H Q):wpAny (model X.prog X.w) X.A (isTrue e X.env (eval e X.env)) (TP X pins σ Q) E s :=
 ym (h pins s σ H Q (I.wish _) q) (fun _ _ ⟨H',I',q⟩=>⟨H',I'.unwish,q⟩) fun _ _ z=>z.elim
def XP.at {pins:yyL} {σ:St} {E:XK} {E':XS} {v:Value} {s':Shared} (h:XP X pins (at1 σ E) v s') (k:∀ c d H',E c d H'->E' σ c d H'):XP X pins E' v s':=by
 obtain ⟨ae,C,dd,σ',H',e1,I,F,rfl,q⟩:=h; exact ⟨ae,C,dd,σ',H',e1,I,F,k _ _ _ q⟩
def zr5 (t u:TSx):TSx:=fun D E σ H=>t { D with nx:=u D E } E σ H
def zmj:zgW X [] (fun D _ σ H=>D.nx σ H):=fun _ _ σ H _ _ I h=>Yj ⟨σ,H,I,h⟩
def zj8 (h1:PSx X st t) (h2:zgW X zbF u):zgW X (st :: zbF) (zr5 t u):=by
 intro pins s σ H D E I h
 refine wpAny_execs_cons (thn (h1 pins s σ H { D with nx:=u D E } E I h) fun f s1 q=>?_)
 cases f with
 | next =>
  obtain ⟨σ',H',I',q⟩:=q; exact h2 pins s1 σ' H' D E I' q
 | ret v=>exact q
 | brk=>exact q
 | cont=>exact q
def zmi (h1:PSx X st t):zgW X [st] t:=by
 intro pins s σ H D E I h
 refine wpAny_execs_cons (thn (h1 pins s σ H D E I h) fun f s1 q=>?_)
 cases f with
 | next=>exact Yj q
 | ret v=>exact q
 | brk=>exact q
 | cont=>exact q
def zr7 (c:TT) (t u:TSx):TSx:=fun D E σ H=>c σ H fun b H1=>if b=true then t D E σ H1 else u D E σ H1
def zqm {c:Expr} {a b:List Stmt} {tc:TT} (hc:PT X.nox c tc) (ha:zgW X a t) (hb:zgW X b u):PSx X (.If c a b pos) (zr7 tc t u):=by
 intro pins s σ H D E I h
 refine wpAny_If (thn (PT.x hc I h) fun d s1 ⟨H1,I1,q1⟩=>?_)
 cases d with
 | true=>exact ha pins s1 σ H1 D E I1 q1
 | false=>exact hb pins s1 σ H1 D E I1 q1
def zqq (te:TEx):TSx:=fun D E σ H=>te σ H (fun _ H1=>D.nx σ H1) (E σ)
def zmm (he:PEx X e te) (hs:swapsWith e none pos.line X.env=pure false:=by rfl):PSx X (.Expr e pos) (zqq te):=by
 intro pins s σ H D E I h
 exact wpAny_Expr_any (ym (he pins s σ H _ _ I h) (fun v s1 ⟨x,H1,I1,r1,q1⟩=>⟨σ,H1,I1,q1⟩) fun _ _ z=>z.at fun _ _ _ q=>q) I.quiet hs
def zr6 (te:TEx):TSx:=fun D E σ H=>te σ H D.rt (E σ)
def znZ (he:PEx X e te):PSx X (.Return (some e) pos) (zr6 te):=by
 intro pins s σ H D E I h
 exact wpAny_Return_some (ym (he pins s σ H _ _ I h) (fun v s1 ⟨x,H1,I1,r1,q1⟩=>⟨x,σ,H1,I1,r1,q1⟩) fun _ _ z=>z.at fun _ _ _ q=>q)
def zis {k:Nat} {f:Addr} {fd:FuncData} {ps:List Str} {sp:Sp} {pins:yyL} {σ:St} {H:Hp} {s:Shared} {Q:VK} {E:XK} {us:List Value} {vs:List V} (F:FnOk X.prog X.w X.K X.mg X.base (CX1 X.prog X.w) k f fd ps sp) (hr:Room k X.A) (hb:zbk X.K fd ps [])
  (I:Inv X pins σ H s) (r:za4 vs us) (h:sp vs H Q E):wpAny (model X.prog X.w) X.A (call (.ref f) us) (EP X pins σ Q) (XP X pins (at1 σ E)) s:=by
 have hl:(us ++ []).length=ps.length:=by rw [yh,<- r.length]; exact F.len _ _ _ _ h
 have hb':=hb s us I.kIn hl; rw [yh] at hb'
 refine wpAny_call (codeAny_mono (F.run X.A X.stack s H ⟨us,[]⟩ us vs Q E hr I.env0 hb' r h) fun r s' hq=>?_)
 cases r with
 | error e =>
  obtain ⟨ae,C,dd,H',rfl,os,bare,un,hok,fl,q⟩:=hq
  have I':Inv X pins σ H' s':=I.call' os un hok bare (fun b z=>yU z (by simp))
  have fp:∀ b,s.heap.objs.size<=b->H' b=none->zdf X pins H' b:=fun b h1 h2=>I.fpOk h1 h2
  obtain ⟨vs',x1,x2,x3⟩:=fl.ex; refine ⟨ae,C,dd,σ,H',rfl,I',⟨fp ae fl.ne fl.fe,vs',x1,x2,?_⟩,rfl,q⟩
  rcases x3 with z | ⟨T,y1,y2,y3,y4⟩
  ·exact .inl (.inl z)
  ·exact .inl (.inr ⟨T,y1,y2,fp T y3.1 y3.2,y4⟩)
 | ok fl =>
  cases fl with
  | ret u=>exact I.after hq
  | next=>exact False.elim hq
  | brk=>exact False.elim hq
  | cont=>exact False.elim hq
def zqr (sp:Sp) (t:TA):TEx:=fun σ H Q E=>t σ H fun vs H1=>sp vs H1 Q E
def zmo {k:Nat} {f:Addr} {fd:FuncData} {ps:List Str} {sp:Sp} {x:Str} {p:Pos} {es:List Expr} {ta:TA} (F:FnOk X.prog X.w X.K X.mg X.base (CX1 X.prog X.w) k f fd ps sp) (hr:Room k X.A) (hg:Gl X x) (hm:X.mg x=some (.ref f)) (hk:W.keepIn X.K (.ref f)=true) (hb:zbk X.K fd ps [])
  (ha:PA X.nox (e :: es) ta) (hdb:yyD x:=by decide) (he:starEach (e :: es) X.env=(false,eval e X.env) :: starEach es X.env:=by rfl) (hpl:(backTo pos (starEach es X.env)).any (·.1)=false:=by rfl) :
  PEx X (.Call (.Name x p) (e :: es) [] pos) (zqr sp ta):=by
 intro pins s σ H Q E I h; refine YO (zco I hg hm ?_ hdb)
 refine W.callWith_K (h₀:=X.base) I.ok.mod.kin hk (thn (PA.x ha I h) fun us s1 ⟨vs,H1,I1,r,q⟩=>⟨I1.kIn,?_⟩) he hpl
 exact zis F hr hb I1 r q
end
section
def Fun.okx {x qual:Str} {st:Stmt} {f:Addr} {fd:FuncData} {N ps:List Str} {k:Nat} {sp:Sp} (F:Fun K x qual st f fd) (S:FnScope N ps (zk st)) (len:∀ vs H Q E,sp vs H Q E->vs.length=ps.length)
  (hbody:∀ (cdv:Value) (A:Around) (outer:List Env) (s:Shared) (H:Hp) (vs:List V) (Q:VK) (E:XK),Room k (A.deeper (envOfC qual (zk st) s.heap.objs.size f cdv))->sp vs H Q E ->
   ∃ t,zgW (zd8 (CX1 P w) P w K mg base N qual (zk st) f cdv A outer s H E) (zaO st) t/\t { nx:=fun _ H'=>Q .non H',rt:=Q } (fun _=>E) (start N vs) H):FnOk P w K mg base (CX1 P w) (k+1) f fd ps sp:=by
 obtain ⟨oc,od,kV,doc,pm,an,cdv,ct,osl,e,lk,cd⟩:=F.ex; subst e
 refine zpp lk cd S len fun A outer s H vs Q E hr h=>?_
 obtain ⟨t,h1,h2⟩:=hbody cdv A outer s H vs Q E hr h
 refine ⟨fun D σ H'=>t D (fun _=>E) σ H',?_,h2⟩
 intro pins s1 σ H1 D I q
 refine ym (h1 pins s1 σ H1 D _ I q) (fun _ _ z=>z) fun v s' z=>?_
 obtain ⟨ae,C,dd,σ',H',rfl,I',fl,hE⟩:=z
 have old:∀ b,zdf (zd8 (CX1 P w) P w K mg base N qual (zk st) f cdv A outer s H E) pins H' b->s.heap.objs.size<=b/\H' b=none:=fun b hb=>by
  obtain ⟨f0,_,_,f3,_⟩:=hb
  rcases f3 with z | z
  ·exact yU (show b ∈ ([]:List Addr) from z) (by simp)
  ·exact ⟨z,f0⟩
 obtain ⟨vs',x1,x2,x3⟩:=fl.ex; refine zpc I' ⟨(old ae fl.fe).1,(old ae fl.fe).2,vs',x1,x2,?_⟩ hE
 exact x3.imp fun b _ z=>old b z
end
def zig (a C:Addr):Heap->Prop:=fun h=>∃ t sl,h.get? a=some ⟨.ref C,none,.fields #[.ref t,.none,.none,.none,.bool false,.none],sl⟩
def zfy (a C dx:Addr):Heap->Prop:=fun h=>∃ t sl,h.get? a=some ⟨.ref C,some dx,.fields #[.ref t,.none,.none,.none,.bool false,.none],sl⟩
def zit {P:Program} {w:World} {H:Hp} {h:Heap} {a C:Addr} (x:zig a C h):zbr P w H h a (.ext (zig a C)):=by
 refine ⟨x,?_,fun h1 h2 ⟨t,sl,e⟩ k=>⟨t,sl,k _ e⟩⟩
 obtain ⟨t,sl,e⟩:=x; exact ⟨_,e⟩
def zka {P:Program} {w:World} {H:Hp} {h:Heap} {a C dx:Addr} (x:zfy a C dx h):zbr P w H h a (.ext (zfy a C dx)):=by
 refine ⟨x,?_,fun h1 h2 ⟨t,sl,e⟩ k=>⟨t,sl,k _ e⟩⟩
 obtain ⟨t,sl,e⟩:=x; exact ⟨_,e⟩
def del (H:Hp) (a:Addr):Hp:=fun b=>if b=a then none else H b
def zfs {H:Hp} {a:Addr}:del H a a=none:=by unfold del; rw [yW rfl]
def zdV {H:Hp} {a b:Addr} (h:b≠a):del H a b=H b:=by unfold del; rw [yS h]
def Inv.drop {X:Cx} {pins:yyL} {σ:St} {H:Hp} {s:Shared} {a:Addr} {φ:Heap->Prop} (I:Inv X pins σ H s) (e:H a=some (.ext φ)):Inv X pins σ (del H a) s:=by
 have nx:∀ b u,H b=some u->(∀ ψ,u≠.ext ψ)->b≠a:=fun b u q n z=>by
  rw [z,e] at q; exact n φ (Option.some.inj q).symm
 have le:∀ b,H b=none->del H a b=none:=fun b q=>by
  by_cases z:b=a
  ·rw [z,zfs]
  ·rw [zdV z]; exact q
 refine ⟨I.ok,I.os,I.bare,⟨I.base.keep,I.base.slot,fun b o q n hx=>le b (I.base.free b o q n hx),I.base.there,fun b xs q=>?_,fun b o u q=>?_,fun b ps q=>?_⟩,I.loc,I.cell,le _ I.free,fun x c h=>le _ (I.freeC x c h),fun p hp=>⟨(I.pin p hp).1,le _ (I.pin p hp).2.1,(I.pin p hp).2.2⟩,fun b u q=>?_,I.len⟩
 ·have z:=I.base.tups b xs q
  rw [zdV (nx b _ z fun _ y=>nomatch y)]
  exact z
 ·have z:=I.base.frzs b o u q
  rw [zdV (nx b _ z fun _ y=>nomatch y)]
  exact z
 ·obtain ⟨more,z⟩:=I.base.tbls b ps q
  exact ⟨more,by rw [zdV (nx b _ z fun _ y=>nomatch y)]; exact z⟩
 ·have hb:b≠a:=fun z=>by rw [z,zfs] at q; cases q
  rw [zdV hb] at q
  exact (I.hok b u q).stay (fun _ _ _ z=>z) (fun c z=>by rw [zdV (nx c _ z fun _ y=>nomatch y)]; exact z) fun c xs z=>by rw [zdV (nx c _ z fun _ y=>by cases xs <;> nomatch y)]; exact z
def vbm:List Value:=[.type "ValueError",.type "Exception",.type "BaseException",.type "object"]
structure XCl (K:W.Frag) (C N:Addr) (bm:List Value):Prop where
 xc:∀ h:Heap,K.In h->X1.XC h C N bm "ValueError.__new__"
 tail:∀ h:Heap,K.In h->OwnTail h vbm bm
 base:bm.contains (.type "BaseException")=true
 kp:W.keepIn K (.ref C)=true
structure XIn (K:W.Frag) (N f:Addr):Prop where
 ns:∀ h:Heap,K.In h->∃ mN,h.Ns N mN/\mN "__init__"=some (.ref f)
 fn:∀ h:Heap,K.In h->∃ o,h.get? f=some o/\o.cls=.type "function"
def zpN (C:Addr) (fld:Str) (ok:V->Hp->Prop):Sp:=fun vs H Q _=>∃ a v,vs=[.ref a,v]/\H a=some (.ext (zig a C))/\ok v H/\∀ dx,H dx=none->Q .non (upd (upd H dx (.xd [(fld,v)])) a (.ext (zfy a C dx)))
section
def zn4 (C:Addr) (fld:Str) (ok:V->Hp->Prop) (ta:TA):TSx:=fun _ E σ H=>ta σ H fun vs H1=>∃ v,vs=[v]/\(∀ a o,H1 a=none->ok v (upd H1 a o))/\∀ dx,H1 dx=none->E σ (.ref C) (some dx) (upd H1 dx (.xd [(fld,v)]))
def zj9 {k:Nat} {C N f:Addr} {bm:List Value} {fd:FuncData} {ps:List Str} {fld x:Str} {ok:V->Hp->Prop} {e:Expr} {ta:TA} {p cpos pos:Pos} (hc:X.calm=true) (T:XCl X.K C N bm) (TI:XIn X.K N f) (F:FnOk X.prog X.w X.K X.mg X.base CX0 k f fd ps (zpN C fld ok)) (hr:Room (k+1) X.A) (hb:zbk X.K fd ps [])
  (hg:Gl X x) (hm:X.mg x=some (.ref C)) (ha:PA X.nox [e] ta) (hs:starEach [e] X.env=(false,eval e X.env) :: starEach [] X.env:=by rfl) (hdb:yyD x:=by decide) :
  PSx X (.Raise (some (.Call (.Name x p) [e] [] cpos)) none pos) (zn4 C fld ok ta):=by
 intro pins s σ H D E I h; rw [arm_exec_Raise]; refine yA (wpAny_standAt ?_)
 show wpAny _ _ (raiseStmt X.env (some (do let v <- eval (.Call (.Name x p) [e] [] cpos) X.env; standAt pos; pure v)) none) _ _ _
 refine X1.raise_at (C:=C) (N:=N) (nid:="ValueError.__new__") T.base (I.ok.hd hc) (yA ?_); refine YO (zco I hg hm ?_ hdb)
 refine W.callWith_K (h₀:=X.base) I.ok.mod.kin T.kp (thn (PA.x ha I h) fun us s1 ⟨vs,H1,I1,r,v,ev,q0,q⟩=>⟨I1.kIn,?_⟩) hs rfl
 subst ev; obtain ⟨u,rfl,ru⟩:=zdh r; obtain ⟨hh,g,d,t,os⟩:=s1; obtain ⟨mN,hN,hi⟩:=TI.ns hh I1.kIn; obtain ⟨oI,hfI,hfc⟩:=TI.fn hh I1.kIn
 refine X1.make_init PySem.F.excBase_ValueError (T.tail hh I1.kIn) (T.xc hh I1.kIn) hN hi hfI hfc (by show 1<=sizeLine; exact Nat.le_of_lt (zbg (by decide))) ?_
 -- the new exception is tracked while its __init__ runs
 have fresh:H1 (hh.objs.size+1)=none:=I1.hok.fresh (Nat.le_succ _)
 have I2:Inv X pins σ (upd H1 (hh.objs.size+1) (.ext (zig (hh.objs.size+1) C))) ⟨X1.madeX hh C [u],g,d,t,os⟩ :=
  I1.laid (a:=hh.objs.size+1) (o:=.ext (zig (hh.objs.size+1) C)) (t':=t) X1.madeX_keep (Nat.le_succ _) (zit ⟨hh.objs.size,#[],X1.madeX_at⟩)
 have rv:za4 [V.ref (hh.objs.size+1),v] [Value.ref (hh.objs.size+1),u]:=.cons rfl (.cons ru .nil)
 have hsp:zpN C fld ok [.ref (hh.objs.size+1),v] (upd H1 (hh.objs.size+1) (.ext (zig (hh.objs.size+1) C)))
   (fun y H2=>y=.non/\∃ dx,H1 dx=none/\dx≠hh.objs.size+1/\H2=upd (upd (upd H1 (hh.objs.size+1) (.ext (zig (hh.objs.size+1) C))) dx (.xd [(fld,v)])) (hh.objs.size+1) (.ext (zfy (hh.objs.size+1) C dx))) E0:=by
  refine ⟨_,v,rfl,zo,q0 _ _ fresh,fun dx hdx=>⟨rfl,dx,?_,?_,rfl⟩⟩
  ·by_cases z:dx=hh.objs.size+1
   ·rw [z,zo] at hdx; cases hdx
   ·rwa [zp z] at hdx
  ·intro z
   rw [z,zo] at hdx; cases hdx
 have hl:([Value.ref (hh.objs.size+1),u] ++ []).length=ps.length:=by
  have:=F.len _ _ _ _ hsp
  rw [yh]; exact this
 have hb':=hb ⟨X1.madeX hh C [u],g,d,t,os⟩ [Value.ref (hh.objs.size+1),u] I2.kIn hl; rw [yh] at hb'
 refine wpAny_call (codeAny_mono (F.run _ X.stack _ _ ⟨[Value.ref (hh.objs.size+1),u],[]⟩ _ _ _ E0 (hr.make C [u] []) (I2.env0.make C [u] []) hb' rv hsp) fun r s' hq'=>?_)
 cases r with
 | error z=>exact (show False from hq').elim
 | ok fl =>
  cases fl with
  | ret y =>
   obtain ⟨y',H',I3,ry,rfl,dx,hdx,hne,rfl⟩:=I2.after hq'
   obtain rfl:y=Value.none:=ry
   refine ⟨rfl,?_⟩; have I4:=I3.drop (a:=hh.objs.size+1) zo
   have eH:del (upd (upd (upd H1 (hh.objs.size+1) (.ext (zig (hh.objs.size+1) C))) dx (.xd [(fld,v)])) (hh.objs.size+1) (.ext (zfy (hh.objs.size+1) C dx))) (hh.objs.size+1)=upd H1 dx (.xd [(fld,v)]):=by
    funext b
    by_cases z:b=hh.objs.size+1
    ·rw [z,zfs,zp (Ne.symm hne),fresh]
    ·rw [zdV z,zp z]
     by_cases y:b=dx
     ·rw [y,zo,zo]
     ·rw [zp y,zp y,zp z]
   rw [eH] at I4
   obtain ⟨⟨t0,sl,hx⟩,_⟩:=(show zbr X.prog X.w _ s'.heap (hh.objs.size+1) (.ext (zfy (hh.objs.size+1) C dx)) from I3.hok _ _ zo)
   refine yA (wpAny_standAt (yG ⟨hh.objs.size+1,some dx,_,sl,rfl,T.xc _ I4.kIn,hx,rfl,hh.objs.size+1,C,some dx,σ,_,rfl,I4,⟨?_,_,⟨sl,hx⟩,by simp,.inl (.inl ⟨rfl,rfl⟩)⟩,q dx hdx⟩))
   exact I1.fpOk (Nat.le_succ _) (by rw [zp (Ne.symm hne)]; exact fresh)
  | next=>exact False.elim hq'
  | brk=>exact False.elim hq'
  | cont=>exact False.elim hq'
end
def zn5 {H:Hp} {a:Addr} {o:HO} (h:H a=some o):upd H a o=H:=by
 funext b
 by_cases z:b=a
 ·rw [z,zo,h]
 ·rw [zp z]
structure BIn (K:W.Frag) (M:Addr):Prop where
 sp:W.specialIn K (.ref M) "__getattribute__"=some (some (.builtin "type.__getattribute__"))
 rd:W.readsIn K M (.type "type")=true
 fd:W.findCls K (.ref M) (.type "type") "__init__"=some (.val (.builtin "ValueError.__init__"))
section
def tBI (K:W.Frag) (ta:TA):TE:=fun σ H Q=>ta σ H fun vs H1=>∃ a C N bm z,vs=[.ref a,.str z]/\H1 a=some (.ext (zig a C))/\XCl K C N bm/\Q .non H1
def zkL {M:Addr} {x:Str} {p apos pos:Pos} {e:Expr} {es:List Expr} {ta:TA} {pl:Sem Bool} (B:BIn X.K M) (hg:Gl X x) (hm:X.mg x=some (.ref M)) (ha:PA X (e :: es) ta) (hdb:yyD x:=by decide)
  (he:starEach (e :: es) X.env=(false,eval e X.env) :: starEach es X.env:=by rfl) (hpl:(backTo pos (starEach es X.env)).any (·.1)=false:=by rfl)
  (ht:eval (.Call (.Attribute (.Name x p) "__init__" apos) (e :: es) [] pos) X.env=(do
   let ov <- eval (.Name x p) X.env
   standAt apos.atName
   let (f,first) <- holding [ov] (getMethod ov "__init__" pl)
   callWith pos f first (backTo pos (starEach (e :: es) X.env)) (backToKw pos (keywordEach [] X.env))):=by rfl) :
  PE X (.Call (.Attribute (.Name x p) "__init__" apos) (e :: es) [] pos) (tBI X.K ta):=by
 intro pins s σ H Q I h; refine W.methodCall_KW (pl:=pl) (zco I hg hm ?_ hdb) ht; refine W.method_cls I.kIn B.sp (W.cls_value I.kIn B.rd B.fd rfl ?_)
 refine PyProof.Rows.callWith_builtin1 (thn (ha pos pins _ σ H _ (I.tok _) h) fun us s1 ⟨vs,H1,I1,r,a,C,N,bm,z,ev,hx,T,q⟩=>?_) he hpl
 subst ev; obtain ⟨u,w',rfl,r1,r2⟩:=zkc r
 obtain rfl:u=Value.ref a:=r1
 obtain ⟨tk,rfl⟩:=(show ∃ t,w'=Value.str z t from r2)
 obtain ⟨⟨t0,sl,hxo⟩,_⟩:=(show zbr X.prog X.w H1 s1.heap a (.ext (zig a C)) from I1.hok a _ hx)
 obtain ⟨hh,g,d,t,os⟩:=s1
 refine X1.base_init PySem.F.excBase_ValueError (T.tail hh I1.kIn) (T.xc hh I1.kIn) hxo rfl (by show 1<=sizeLine; exact Nat.le_of_lt (zbg (by decide))) ?_
 have hp:(hh.push (X1.tupX [.str z tk])).get? a=some ⟨.ref C,none,.fields #[.ref t0,.none,.none,.none,.bool false,.none],sl⟩:=yC _ hxo
 have hu:=X1.upd_fields (f:=(·.setIfInBounds 0 (Value.ref hh.objs.size))) hp
 have I2:=I1.write (x:=a) (e:=a) (o:=.ext (zig a C)) (t':=t) (h':=(hh.push (X1.tupX [.str z tk])).update a (Obj.mapFields (·.setIfInBounds 0 (Value.ref hh.objs.size)))) (by rw [hx]; exact True.intro) (.inl rfl)
  (fun b o hb e=>by rw [yX _ _ (Ne.symm hb)]; exact yC _ e) ⟨_,hu⟩ (zit ⟨hh.objs.size,sl,hu⟩)
 rw [zn5 hx] at I2; exact ⟨.non,H1,I2,rfl,q⟩
def zqN (K:W.Frag) (ta tv:TE) (f:Str):TS:=fun D σ H=>tv σ H fun y H1=>ta σ H1 fun x H2=>∃ a C,x=.ref a/\H2 a=some (.ext (zig a C))/\X1.XSet K C/\zaQ K C f/\∀ dx,H2 dx=none->D.nx σ (upd (upd H2 dx (.xd [(f,y)])) a (.ext (zfy a C dx)))
def zmS {o value:Expr} {f:Str} {pos pos':Pos} {ta tv:TE} (ha:PE X o ta) (hv:PE X value tv) (hs:swapsWith value (some (.Attribute o f pos')) pos.line X.env=pure false):PS X (.Assign [.Attribute o f pos'] value pos) (zqN X.K ta tv f):=by
 intro pins s σ H D I h
 refine plainObj_wpAny_Assign_Attribute (thn (hv pins s σ H _ I h) fun u s1 ⟨y,H1,I1,ry,q⟩=>thn (ha pins s1 σ H1 _ I1 q) fun ov s2 ⟨x,H2,I2,rx,a,C,ex,ea,T,n,q2⟩=>?_) hs
 subst ex
 obtain rfl:ov=Value.ref a:=rx
 obtain ⟨⟨t0,sl,hxo⟩,_⟩:=(show zbr X.prog X.w H2 s2.heap a (.ext (zig a C)) from I2.hok a _ ea)
 refine X1.xset1 I2.kIn T n.taker hxo fun h' x1 x2 x3=>?_
 have fr:H2 s2.heap.objs.size=none:=I2.hok.fresh (yJ _)
 have hne:a≠s2.heap.objs.size:=yP (yH hxo)
 -- first the object is written, then its dict is laid
 have un:Un X.fs [] H2 (upd (upd H2 s2.heap.objs.size (.xd [(f,y)])) a (.ext (zfy a C s2.heap.objs.size))) s2.heap h':=by
  have na:∀ b,H2 b=none->b≠a:=fun b z w=>by rw [w,ea] at z; cases z
  have nd:∀ b o,s2.heap.get? b=some o->b≠s2.heap.objs.size:=fun b o e=>yP (yH e)
  refine ⟨fun b o e n _ _=>x3 b o (na b n) e,fun b o e n _ _=>⟨o.slots,x3 b o (na b n) e⟩,fun b o e n _=>?_,fun b o e _=>?_,fun b xs e=>?_,fun b o u e=>?_,fun b ps e=>?_⟩
  ·rw [zp (na b n),zp (nd b o e)]; exact n
  ·by_cases z:b=a
   ·exact ⟨_,by rw [z]; exact x1⟩
   ·exact ⟨o,x3 b o z e⟩
  ·rw [zp (znk e ea fun z=>nomatch z),zp (zag e fr)]; exact e
  ·rw [zp (znk e ea fun z=>nomatch z),zp (zag e fr)]; exact e
  ·exact ⟨#[],by rw [zp (znk e ea fun z=>nomatch z),zp (zag e fr),e]; simp⟩
 have hok:HOk X.prog X.w (upd (upd H2 s2.heap.objs.size (.xd [(f,y)])) a (.ext (zfy a C s2.heap.objs.size))) h':=by
  intro b o e
  by_cases z:b=a
  ·subst z
   rw [zo] at e; cases e; exact zka ⟨t0,sl,x1⟩
  ·rw [zp z] at e
   by_cases z2:b=s2.heap.objs.size
   ·subst z2
    rw [zo] at e; cases e
    refine ⟨_,x2,fun g=>?_⟩
    by_cases eg:g=f
    ·have hb:(g == f)=true:=beq_iff_eq.mpr eg
     simp only [List.lookup,hb,yW eg]; exact ry
    ·have hb:(g == f)=false:=beq_eq_false_iff_ne.mpr eg
     simp only [List.lookup,hb,yS eg]; exact True.intro
   ·rw [zp z2] at e
    have noA:∀ c u,H2 c=some u->(∀ ψ,u≠.ext ψ)->c≠a:=fun c u hc hn zz=>by
     rw [zz,ea] at hc; exact hn _ (Option.some.inj hc).symm
    refine (I2.hok b o e).stay (fun c v hc r=>x3 c v ?_ r) (fun c r=>by rw [zp (noA c _ r fun _ zz=>nomatch zz),zp (zag r fr)]; exact r) fun c xs r=>by rw [zp (noA c _ r fun _ zz=>by cases xs <;> nomatch zz),zp (zag r fr)]; exact r
    rcases hc with rfl | hc
    ·exact z
    ·exact noA c _ hc fun _ zz=>nomatch zz
 exact ⟨σ,_,I2.un (t':=s2.toks+2) un hok,q2 _ fr⟩
def Rep (X:Cx) (v:V) (H:Hp) (n:Nat):Prop:=∀ (pins:yyL) (s:Shared) (σ:St) (u:Value) (E:Value->Shared->Prop) (Q:Value->Shared->Prop),Inv X pins σ H s->zbI v u->(∀ z t s',z.length<=n->Inv X pins σ H s'->Q (.str z t) s')->wpAny (model X.prog X.w) X.A (pyReprObj u) Q E s
def tFR (X:Cx) (n:Nat) (te:TE):TE:=fun σ H Q=>te σ H fun v H1=>Rep X v H1 n/\∀ z,Q (.str z) H1
def zjw (c:Str):(Str.empty ++ c).length=c.length:=by
 rw [strLen_append]
 show 0+c.length=c.length
 omega
end
abbrev Cx.mark (X:Cx) (e:Value):Cx:={ X with A:=X.A.mark (some e),calm:=false,xe:=fun _ _=>False }
def znW:Option Value->List Addr
 | some (.ref b)=>[b]
 | _=>[]
def zko {o:Option Value} {b:Addr}:b ∈ znW o↔o=some (.ref b):=by
 cases o with
 | none=>simp [znW]
 | some v=>cases v <;> simp [znW,eq_comm]
section
def Inv.mark (I:Inv X pins σ H s) (e:Value):Inv (X.mark e) pins σ H s :=
 ⟨⟨I.ok.mod,I.ok.kind,I.ok.glob,I.ok.blt,I.ok.above,I.ok.inj,I.ok.has,I.ok.cab,fun z=>(nomatch (show false=true from z)),I.ok.frames,I.ok.stk,I.ok.exf,I.ok.bs,I.ok.bsz,I.ok.noex,I.ok.exfs,I.ok.funs,I.ok.frf,I.ok.tab⟩,I.os,I.bare,I.base,I.loc,I.cell,I.free,I.freeC,I.pin,I.hok,I.len⟩
def Inv.unmark {e:Value} (ok:X.Ok) (I:Inv (X.mark e) pins σ H s):Inv X pins σ H s :=
 ⟨ok,I.os,I.bare,I.base,I.loc,I.cell,I.free,I.freeC,I.pin,I.hok,I.len⟩
def zpr {M:Model} {A:Around} {E:Value->Shared->Prop} {i:Nat} {x:Str} {Q:Bool->Shared->Prop} (I:Inv X pins σ H s) (hN:X.N.Nodup) (hi:X.N[i]?=some x) (hk:X.env.scope.names.lookup x=some .local) {v:V} (hv:σ[i]?=some (some v))
  (h:∀ s',Inv X pins (σ.set i none) H s'->Q true s'):wpAny M A (nsDel X.env.locals x) Q E s:=by
 obtain ⟨m,hn,hl⟩:=id I.loc; have cne:=I.cne; obtain ⟨oL,_,_,hoL,_⟩:=id hn
 have hm:(m x).isSome=true:=by
  obtain ⟨u,r,q⟩:=hl i x v hi hv (.inl hk)
  rcases q with ⟨_,e⟩ | ⟨k,_⟩
  ·rw [e]; rfl
  ·have k':X.env.scope.names.lookup x=some .cell\/X.env.scope.names.lookup x=some .free:=k
   rw [hk] at k'
   rcases k' with z | z <;> cases z
 refine wpAny_nsDel_keeps hn fun h' v' hn' hs=>?_
 rw [hm]
 have tracked:HOk X.prog X.w H h':=fun b ob e=>by
  refine (I.hok b ob e).stay (fun c w' hc q=>(hs.2 c ?_).trans q) (fun _ q=>q) fun _ _ q=>q
  rintro rfl
  rcases hc with rfl | hc
  ·rw [I.free] at e; cases e
  ·rw [I.free] at hc; cases hc
 refine h _ ⟨I.ok,I.os,I.bare,⟨fun b o e n hb hx=>?_,fun b o e n hb hx=>?_,I.base.free,fun b o e hx=>?_,I.base.tups,I.base.frzs,I.base.tbls⟩,⟨_,hn',fun j y w' e1 e2 e3=>?_⟩,fun y c e=>?_,I.free,I.freeC,fun p hp=>?_,tracked,by simpa using I.len⟩
 ·exact (hs.2 b (yP (yM (yH e) I.ok.above))).trans (I.base.keep b o e n hb hx)
 ·obtain ⟨sl,e1⟩:=I.base.slot b o e n hb hx
  exact ⟨sl,(hs.2 b (yP (yM (yH e) I.ok.above))).trans e1⟩
 ·obtain ⟨o',e1⟩:=I.base.there b o e hx
  exact ⟨o',(hs.2 b (yP (yM (yH e) I.ok.above))).trans e1⟩
 ·by_cases hj:j=i
  ·subst hj
   rw [yz (yD.mp hv).1] at e2; cases e2
  ·rw [yR (Ne.symm hj)] at e2
   obtain ⟨u',r',q⟩:=hl j y w' e1 e2 e3; refine ⟨u',r',?_⟩
   rcases q with ⟨k,e⟩ | ⟨k,c,e,z⟩
   ·refine .inl ⟨k,?_⟩
    have:y≠x:=fun e=>hj (zfj hN e1 (e ▸ hi))
    simp [this,e]
   ·exact .inr ⟨k,c,e,z.sameBut hs (cne y c e)⟩
 ·obtain ⟨w',z⟩:=I.cell y c e
  exact ⟨w',z.sameBut hs (cne y c e)⟩
 ·obtain ⟨e,n,ne,nf,d⟩:=I.pin p hp
  exact ⟨(hs.2 p.1 ne).trans e,n,ne,nf,d⟩
def zfp {M:Model} {A:Around} {E:Value->Shared->Prop} {i:Nat} {x:Str} {pos:Pos} {Q:Unit->Shared->Prop} (I:Inv X pins σ H s) (hN:X.N.Nodup) (hi:X.N[i]?=some x) (hk:X.env.scope.names.lookup x=some .local)
  (h:∀ s',Inv X pins (σ.set i none) H s'->Q () s'):wpAny M A (do bindName X.env x .none; unbindBehindTheSuite X.env x pos) Q E s:=by
 have hiσ:i<σ.length:=by rw [I.len]; exact (yD.mp hi).1
 refine yA (wpAny_bindName (zd0 (v:=.non) I hN hi (.inl hk) rfl (fun s1 I1=>?_) (.inr hk)))
 unfold unbindBehindTheSuite; refine wpAny_onRaise ?_; unfold unbindName; refine yA (wpAny_point (yA ?_))
 have hp:(X.env.scope.kind == .class || (X.env.scope.kind == .module && X.env.locals != X.env.globals))=false:=by rw [I.ok.kind]; rfl
 have hl:X.env.kindOf x=some .local:=hk
 unfold deleteName; simp only [hl,hp]
 rw [yS (by decide)]
 refine yA (zpr (v:=.non) I1 hN hi hk (yz hiσ) fun s2 I2=>?_)
 simp only [Bool.not_true,YY,if_false]; rw [List.set_set] at I2; exact yG (wpAny_point (h s2 I2))
def zn3 {P:Program} {w:World} {H:Hp} {h:Heap} {a C:Addr} {dd:Option Addr} (x:XAt a C dd h):zbr P w H h a (.ext (XAt a C dd)):=by
 refine ⟨x,?_,fun h1 h2 ⟨t,sl,e⟩ k=>⟨t,sl,k _ e⟩⟩
 obtain ⟨t,sl,e⟩:=x; exact ⟨_,e⟩
def Inv.track {a:Addr} {φ:Heap->Prop} (I:Inv X pins σ H s) (f:zdf X pins H a) (new:zbr X.prog X.w (upd H a (.ext φ)) s.heap a (.ext φ)):Inv X pins σ (upd H a (.ext φ)) s:=by
 obtain ⟨f0,f1,f2,f3,f4,f5⟩:=f
 have sm:∀ b u,H b=some u->upd H a (.ext φ) b=some u:=fun b u e=>by rw [zp (zag e f0)]; exact e
 refine ⟨I.ok,I.os,I.bare,⟨I.base.keep,I.base.slot,fun b o e n hx=>?_,I.base.there,fun b xs e=>sm _ _ (I.base.tups b xs e),fun b o u e=>sm _ _ (I.base.frzs b o u e),fun b ps e=>?_⟩,I.loc,I.cell,?_,fun x c e=>?_,fun p hp=>?_,fun b u e=>?_,I.len⟩
 ·have:b≠a:=fun z=>by
   rcases f3 with y | y
   ·exact hx (by rw [z]; exact y)
   ·exact yU (yM (yH e) (by rw [z]; exact y)) (YR _)
  rw [zp this]; exact I.base.free b o e n hx
 ·obtain ⟨more,z⟩:=I.base.tbls b ps e
  exact ⟨more,sm _ _ z⟩
 ·rw [zp (Ne.symm f1)]; exact I.free
 ·rw [zp (f4 x c e)]; exact I.freeC x c e
 ·obtain ⟨e,n,ne,nf,d⟩:=I.pin p hp
  exact ⟨e,by rw [zp (f5 p hp)]; exact n,ne,nf,d⟩
 ·by_cases z:b=a
  ·subst z
   rw [zo] at e; cases e; exact new
  ·rw [zp z] at e
   exact (I.hok b u e).stay (fun _ _ _ q=>q) (fun c q=>sm _ _ q) fun c xs q=>sm _ _ q
def zhh {E:Value->Shared->Prop} {e C:Addr} {dd:Option Addr} {Q:Unit->Shared->Prop} (hst:X.stack=X.env :: X.outer) (hf:X.env.frame=some X.env.locals) (I:Inv X pins σ H s) (F:FlyI X pins H s.heap e C dd)
  (q:∀ s' T vs,Inv X pins σ H s'->zdf X pins H T->T≠e->X1.Ex s'.heap e (.ref C) dd vs->vs[1]?=some (.ref T)->X1.Ent s'.heap T (rawInt X.env.locals)->Q () s') :
  wpAny (model X.prog X.w) X.A (noteFrame (.ref e) X.env) Q E s:=by
 obtain ⟨vs,hx,hs,hd⟩:=F.ex
 have hR:∀ b,(b=e\/vs[1]?=some (.ref b))->zdf X pins H b:=fun b hb=>by
  rcases hb with rfl | hb
  ·exact F.fe
  ·exact hd.own b hb
 have hd':X1.HdN s.heap e vs X.env.locals (fun b=>b=e\/vs[1]?=some (.ref b)):=hd.imp fun b z _=>.inr z
 have hstk:s.heap.FunFrames X.base (X.env :: X.outer):=by rw [<- hst]; exact I.stack
 have hfr:X.A.frames=some (X.env :: X.outer):=by rw [<- hst]; exact I.ok.frames
 refine X1.noteN (R:=fun b=>b=e\/vs[1]?=some (.ref b)) hfr hstk hf hx hs hd' (.inl rfl) fun h' T vs' x1 x2 x3 x4 x5 x6 x7=>?_
 -- the state behind it
 have fs:∀ b,b ∈ (X.env :: X.outer).filterMap (·.frame)↔b ∈ frs X.stack:=fun b=>by rw [hst]; exact Iff.rfl
 have hfrN:∀ b ∈ frs X.stack,H b=none:=I.stkFree
 have hch:∀ b,b ∈ e :: znW vs[1]?↔(b=e\/vs[1]?=some (.ref b)):=fun b=>by rw [yO,zko]
 have un:Un (frs X.stack) (e :: znW vs[1]?) H H s.heap h':=by
  refine ⟨fun b o eb n hb hx=>x7.keep b o eb (fun z=>hx ((hch b).mpr z)) (fun z=>hb ((fs b).mp z)),fun b o eb n hb hx=>x7.slot b o eb (fun z=>hx ((hch b).mpr z)) ((fs b).mpr hb),fun b o eb n hx=>n,fun b o eb hx=>?_,fun _ _ z=>z,fun _ _ _ z=>z,fun b ps z=>⟨#[],by rw [z]; simp⟩⟩
  by_cases z:b ∈ frs X.stack
  ·obtain ⟨sl,e2⟩:=x7.slot b o eb (fun z=>hx ((hch b).mpr z)) ((fs b).mpr z)
   exact ⟨_,e2⟩
  ·exact ⟨o,x7.keep b o eb (fun z=>hx ((hch b).mpr z)) fun y=>z ((fs b).mp y)⟩
 have hok:HOk X.prog X.w H h':=zl9 I.hok x7 (fun b hb=>(hR b hb).1) (fun b hb=>hfrN b ((fs b).mp hb))
 have I1:Inv X pins σ H { s with heap:=h' }:=I.call (g':=s.gens) (t':=s.toks) (d':=s.drawn) (ch:=e :: znW vs[1]?) un hok I.bare fun b hb=>by
  obtain ⟨_,y1,_,y3,y4,y5⟩:=hR b ((hch b).mp hb); exact ⟨y3,y1,y4,y5⟩
 have fT:zdf X pins H T:=x5.elim (fun z=>I.fpOk z (I.hok.fresh z)) (hR T)
 exact q _ T vs' I1 fT x4 x1 x3 x6
def zmr {E:Value->Shared->Prop} {e C:Addr} {dd:Option Addr} {Q:Unit->Shared->Prop} (hst:X.stack=X.env :: X.outer) (hf:X.env.frame=some X.env.locals) (I:Inv X pins σ H s) (F:FlyI X pins H s.heap e C dd)
  (q:∀ s' T vs,Inv X pins σ H s'->zdf X pins H e->zdf X pins H T->T≠e->X1.Ex s'.heap e (.ref C) dd vs->vs[1]?=some (.ref T)->X1.Ent s'.heap T .none->Q () s') :
  wpAny (model X.prog X.w) X.A (noteFrame (.ref e) X.env) (fun _ s2=>wpAny (model X.prog X.w) X.A (setFlight (.ref e) none) Q E s2) E s:=by
 refine zhh hst hf I F fun s1 T vs I1 fT x4 x1 x3 x6=>?_
 refine X1.flight (R:=fun _=>True) x1 x3 x4 x6 True.intro fun h2 y1 y2 y3 y4=>?_
 obtain ⟨g0,g1,g2,g3,g4,g5⟩:=id fT
 exact q _ T vs (I1.turned (t':=s1.toks) (fun b o hb eb=>by rw [y3 b hb]; exact eb) g0 g1 g3 g4 g5) F.fe fT x4 y1 x3 y2
end
section
section
variable {s2:Shared} {σ1:St} {H1:Hp} {ae C T:Addr} {dd:Option Addr} {vs:Array Value} {E':Value->Shared->Prop} {zbF:List ExceptHandler}
def zpn {M:Addr} {i:Nat} {x n:Str} {suite:List Stmt} {b0:Stmt} {ts:TS} {p hpos:Pos} {D:Ends} (hs:∀ e,PSs (X.mark e) (b0 :: suite) ts) (hg:Gl X x) (hm:X.mg x=some (.ref M)) (hN:X.N.Nodup) (hi:X.N[i]?=some n) (hk:X.env.scope.names.lookup n=some .local) (hdb:yyD x)
  (I:X.Ok) (I2:Inv X pins σ1 H1 s2) (fe:zdf X pins H1 ae) (fT:zdf X pins H1 T) (hne:T≠ae) (x1:X1.Ex s2.heap ae (.ref C) dd vs) (x2:vs[1]?=some (.ref T)) (x3:X1.Ent s2.heap T .none) (hx:W.exmOne X.K (.ref C) (.ref M)=some true)
  (q:∀ ae,H1 ae=none->ts { nx:=fun σ2 H2=>D.nx (σ2.set i none) H2,rt:=D.rt,bk:=fun σ2 H2=>D.bk (σ2.set i none) H2,ct:=fun σ2 H2=>D.ct (σ2.set i none) H2 } (σ1.set i (some (.ref ae))) (upd H1 ae (.ext (XAt ae C dd)))) :
  wpAny (model X.prog X.w) X.A (handleBy (.ref ae) X.env (.ExceptHandler (some (.Name x p)) (some n) (b0 :: suite) hpos :: zbF)) (SP X pins D) E' s2:=by
 refine wpAny_handleBy_cons (codeAny_handlers_test ?_) (by intro q; cases q)
 refine zco (X:=X.mark (.ref ae)) (I2.mark (.ref ae)) hg hm ?_ hdb; obtain ⟨sl,x1'⟩:=id x1
 have LT:W.Looks (model X.prog X.w) s2.heap (typeOf (.ref ae)) (.ref C):=(W.Looks.ld x1').andThen .now
 refine (W.exm_one I2.kIn LT hx).at ?_
 show codeAny _ _ _ _ _
 refine codeAny_handlers_suite_as ?_
 refine X1.flight (R:=fun _=>True) x1 x2 hne x3 True.intro fun h3 y1 y2 y3 y4=>?_
 obtain ⟨g0,g1,g2,g3,g4,g5⟩:=id fT
 have I3:Inv X pins σ1 H1 { s2 with heap:=h3 }:=I2.turned (t':=s2.toks) (fun b o hb eb=>by rw [y3 b hb]; exact eb) g0 g1 g3 g4 g5
 obtain ⟨sl3,y1'⟩:=id y1
 have I4:Inv X pins σ1 (upd H1 ae (.ext (XAt ae C dd))) { s2 with heap:=h3 }:=I3.track fe (zn3 ⟨_,sl3,y1'⟩)
 refine zd0 (X:=X) (v:=.ref ae) I4 hN hi (.inl hk) rfl (fun s5 I5=>?_) (.inr hk)
 refine ym (hs (.ref ae) pins s5 _ _ _ (I5.mark (.ref ae)) (q ae fe.1)) (fun f s6 q6=>?_) fun _ _ z=>False.elim z
 cases f with
 | next =>
  obtain ⟨σ6,H6,I6,q6⟩:=q6
  exact zfp (I6.unmark I) hN hi hk fun s7 I7=>⟨_,_,I7,q6⟩
 | brk =>
  obtain ⟨σ6,H6,I6,q6⟩:=q6
  exact zfp (I6.unmark I) hN hi hk fun s7 I7=>⟨_,_,I7,q6⟩
 | cont =>
  obtain ⟨σ6,H6,I6,q6⟩:=q6
  exact zfp (I6.unmark I) hN hi hk fun s7 I7=>⟨_,_,I7,q6⟩
 | ret u =>
  obtain ⟨v6,σ6,H6,I6,r6,q6⟩:=q6
  exact zfp (I6.unmark I) hN hi hk fun s7 I7=>⟨_,_,_,I7,r6,q6⟩
def zrn {M:Addr} {x:Str} {nm:Option Str} {b:List Stmt} {p hpos:Pos} {Q:Flow->Shared->Prop} (hg:Gl X x) (hm:X.mg x=some (.ref M)) (hdb:yyD x) (I2:Inv X pins σ1 H1 s2) (x1:X1.Ex s2.heap ae (.ref C) dd vs) (hx:W.exmOne X.K (.ref C) (.ref M)=some false)
  (k:wpAny (model X.prog X.w) X.A (handleBy (.ref ae) X.env zbF) Q E' s2):wpAny (model X.prog X.w) X.A (handleBy (.ref ae) X.env (.ExceptHandler (some (.Name x p)) nm b hpos :: zbF)) Q E' s2:=by
 refine wpAny_handleBy_cons (codeAny_handlers_test ?_) (by intro q; cases q)
 refine zco (X:=X.mark (.ref ae)) (I2.mark (.ref ae)) hg hm ?_ hdb; obtain ⟨sl,x1'⟩:=id x1
 have LT:W.Looks (model X.prog X.w) s2.heap (typeOf (.ref ae)) (.ref C):=(W.Looks.ld x1').andThen .now
 exact (W.exm_one I2.kIn LT hx).at k
end
def zqo (K:W.Frag) (M M2:Addr) (i:Nat) (tb:TSx) (ts ts2:TS):TSx:=fun D _ σ H=>tb D (fun σ1 c dd H1=>∃ C,c=.ref C/\((W.exmOne K c (.ref M)=some true/\∀ ae,H1 ae=none ->
  ts { nx:=fun σ2 H2=>D.nx (σ2.set i none) H2,rt:=D.rt,bk:=fun σ2 H2=>D.bk (σ2.set i none) H2,ct:=fun σ2 H2=>D.ct (σ2.set i none) H2 } (σ1.set i (some (.ref ae))) (upd H1 ae (.ext (XAt ae C dd))))\/W.exmOne K c (.ref M)=some false/\W.exmOne K c (.ref M2)=some true/\∀ ae,H1 ae=none ->
  ts2 { nx:=fun σ2 H2=>D.nx (σ2.set i none) H2,rt:=D.rt,bk:=fun σ2 H2=>D.bk (σ2.set i none) H2,ct:=fun σ2 H2=>D.ct (σ2.set i none) H2 } (σ1.set i (some (.ref ae))) (upd H1 ae (.ext (XAt ae C dd))))) σ H
def zmk {M M2:Addr} {i:Nat} {x y n:Str} {body suite suite2:List Stmt} {b0 b2:Stmt} {tb:TSx} {ts ts2:TS} {p hpos p2 hpos2 pos:Pos} (hst:X.stack=X.env :: X.outer) (hf:X.env.frame=some X.env.locals) (hb:zgW X body tb) (hs:∀ e,PSs (X.mark e) (b0 :: suite) ts) (hs2:∀ e,PSs (X.mark e) (b2 :: suite2) ts2) (hg:Gl X x) (hm:X.mg x=some (.ref M)) (hg2:Gl X y) (hm2:X.mg y=some (.ref M2)) (hN:X.N.Nodup) (hi:X.N[i]?=some n)
  (hk:X.env.scope.names.lookup n=some .local) (hdb:yyD x:=by decide) (hdb2:yyD y:=by decide):PSx X (.Try body [.ExceptHandler (some (.Name x p)) (some n) (b0 :: suite) hpos,.ExceptHandler (some (.Name y p2)) (some n) (b2 :: suite2) hpos2] [] [] pos) (zqo X.K M M2 i tb ts ts2):=by
 intro pins s σ H D E I h
 refine wpAny_Try_except (ym (hb pins s σ H D _ I h) (fun f s1 q=>?_) fun v s1 q=>?_)
 ·cases f with
  | next=>exact Yj q
  | ret v=>exact q
  | brk=>exact q
  | cont=>exact q
 ·obtain ⟨ae,C,dd,σ1,H1,rfl,I1,F,C',hC,q⟩:=q
  obtain rfl:C=C':=Value.ref.inj hC
  refine zmr hst hf I1 F fun s2 T vs I2 fe fT hne x1 x2 x3=>?_
  rcases q with ⟨hx,q⟩ | ⟨hx,hx2,q⟩
  ·exact zpn hs hg hm hN hi hk hdb I.ok I2 fe fT hne x1 x2 x3 hx q
  ·exact zrn hg hm hdb I2 x1 hx (zpn hs2 hg2 hm2 hN hi hk hdb2 I.ok I2 fe fT hne x1 x2 x3 hx2 q)
def zq2 {pins ps:yyL} {E:XS} (hst:X.stack=X.env :: X.outer) (hf:X.env.frame=some X.env.locals) {e:Value} {s:Shared} (h:XP X (pins ++ ps) E e s):notedBy (model X.prog X.w) X.A X.env (cameBackBy (model X.prog X.w) X.A X.env (XP X pins E)) e s:=by
 obtain ⟨ae,C,dd,σ,H,rfl,I,fl,hE⟩:=h
 refine zhh hst hf I fl fun s1 T vs I1 fT x4 x1 x3 x6=>?_
 have less:∀ {b:Addr},zdf X (pins ++ ps) H b->zdf X pins H b:=fun ⟨a1,a2,a3,a4,a5,a6⟩=>⟨a1,a2,a3,a4,a5,fun p hp=>a6 p (by
  rcases YL.mp hp with z | z
  ·exact List.mem_append_left _ z
  ·exact yb _ (List.mem_append_left _ z))⟩
 obtain ⟨sl,x1'⟩:=id x1
 show wpAny _ _ (do
  if (<- field (.ref ae) 1) == .none then unsupported "frame.own-activation:exception-without-traceback"
  setFlight (.ref ae) X.env.frame) _ _ _
 refine yA (yf x1' rfl x3 ?_)
 rw [yS (show ¬ ((Value.ref T == Value.none)=true) from by simp),hf]
 refine X1.flightL x1 x3 x4 x6 fun h2 y1 y2 y3 y4=>?_
 obtain ⟨g0,g1,g2,g3,g4,g5⟩:=id fT
 have I2:=I1.turned (h':=h2) (t':=s1.toks) (fun b o hb eb=>by rw [y3 b hb]; exact eb) g0 g1 g3 g4 g5
 exact ⟨ae,C,dd,σ,H,rfl,I2.unpinned,⟨less fl.fe,vs,y1,(yq.mp x3).1,.inr ⟨T,x3,x4,less fT,y2⟩⟩,hE⟩
def zr8 (wi:TI) (g:TG) (tb:TSx):TSx:=fun D E σ H=>zrK wi g (fun D σ H=>tb D E σ H) D σ H
def zn0 {tg iter:Expr} {body:List Stmt} {wi:TI} {g:TG} {tb:TSx} {pos:Pos} (hst:X.stack=X.env :: X.outer) (hf:X.env.frame=some X.env.locals) (hc:X.calm=true) (hi:PI X.nox tg iter wi) (hg:PG X.nox tg g) (hb:zgW X body tb)
  (hs:∀ x,foldedSetIterable iter X.env x=pure x:=by intro _; rfl):PSx X (.For tg iter body [] pos) (zr8 wi g tb):=by
 intro pins s σ H D E I h
 refine wpAny_For (ym (hi pins s σ H _ (I.wish _) h) (fun v s1 h1=>ym h1 (fun itv s2 h2=>?_) fun _ _ z=>z.elim) fun _ _ z=>z.elim) hs
 obtain ⟨it,fp,tn,J,H2,e,I2,T,st2,f2,W,⟨m0,w0⟩,turn⟩:=h2
 subst e
 have stat:∀ {H':Hp},(∀ b ∈ fp,H' b=none)->∀ b ∈ fp,zdf X pins H' b:=fun hn b hb=>⟨hn b hb,(f2 b hb).2⟩
 refine codeAny_forLoop_any (fun n s'=>∃ i σ' H',Inv X pins σ' H' s'/\tn i s'.heap/\(∀ b ∈ fp,H' b=none)/\W i n σ' H') ?_ m0 ⟨0,σ,H2,I2.unwish,st2,fun b hb=>(f2 b hb).1,w0⟩
 rintro n s3 ⟨i,σ3,H3,I3,st3,fr3,w3⟩
 rcases turn i n σ3 H3 w3 with ⟨stop,qn⟩ | ⟨go,N,hN,step⟩
 ·refine thn (T.done X rfl rfl rfl hc i pins s3 σ3 H3 _ I3 (stat fr3) st3 stop) fun r s4 ⟨hr,I4⟩=>?_
  subst hr; exact Yj ⟨σ3,H3,I4,qn⟩
 ·refine thn (T.item X rfl rfl rfl hc i pins s3 σ3 H3 _ I3 (stat fr3) st3 go) fun r s4 ⟨u,hr,h4⟩=>?_
  subst hr
  refine thn h4 fun _ s5 ⟨x,H5,I5,r5,y5,st5,fr5⟩=>?_
  have I5':=I5.pinned (stat fr5) (T.obj _ _ st5)
  refine ym (hg _ s5 σ3 H5 x u _ (I5'.wish _) r5 (step x H5 y5)) (fun _ s6 ⟨σ6,H6,I6,q6⟩=>?_) fun _ _ z=>z.elim
  refine ym (hb _ s6 σ6 H6 _ E I6.unwish q6) (fun f s7 q7=>?_) fun _ _ z=>zq2 hst hf z
  have again:∀ {σ7:St} {H7:Hp},Inv X (pins ++ zeg fp s5.heap) σ7 H7 s7->N σ7 H7->∃ m,m<n/\∃ i σ' H',Inv X pins σ' H' s7/\tn i s7.heap/\(∀ b ∈ fp,H' b=none)/\W i m σ' H':=fun {σ7 H7} I7 n7=>by
   obtain ⟨m',hm,w7⟩:=hN σ7 H7 n7
   refine ⟨m',hm,i+1,σ7,H7,I7.unpinned,T.keep _ _ _ st5 fun b hb o e=>(I7.pin (b,o) (yb _ (yb _ (zb8 hb e)))).1,fun b hb=>?_,w7⟩
   obtain ⟨o,e,d⟩:=T.obj _ _ st5 b hb; exact (I7.pin (b,o) (yb _ (yb _ (zb8 hb e)))).2.1
  cases f with
  | next=>obtain ⟨σ7,H7,I7,n7⟩:=q7; exact again I7 n7
  | cont=>obtain ⟨σ7,H7,I7,n7⟩:=q7; exact again I7 n7
  | brk=>obtain ⟨σ7,H7,I7,q7⟩:=q7; exact ⟨σ7,H7,I7.unpinned,q7⟩
  | ret v=>obtain ⟨x7,σ7,H7,I7,r7,q7⟩:=q7; exact ⟨x7,σ7,H7,I7.unpinned,r7,q7⟩
end
end L2
namespace PL
open PySem L2
abbrev XW:=Addr->List (Str × D)->Sts->Prop
abbrev znR:=Sts->(D->Sts->Prop)->XW->Prop
abbrev zfz:=Ends'->XW->Sts->Prop
def zlw (K:W.Frag) (n:Nat) (W:Wd) (Hi:Hp) (E:XW) (E2:XS):Prop:=∀ σ' H' Hi' Γ' C dd fs,zaR Hi Hi'->Good K n W Hi' Γ' σ' H'->zmf K Hi' dd fs->E C fs Γ'->E2 σ' (.ref C) dd H'
def zlw.mono {K:W.Frag} {n:Nat} {W:Wd} {Hi Hi':Hp} {E:XW} {E2:XS} (l:zlw K n W Hi E E2) (s:zaR Hi Hi'):zlw K n W Hi' E E2:=fun σ' H' Hi2 Γ' C dd fs e=>l σ' H' Hi2 Γ' C dd fs (s.trans e)
def zr9 (K:W.Frag) (n:Nat) (t:znR):TEx:=fun σ H Q2 E2=>∃ W Hi Γ Q E,Good K n W Hi Γ σ H/\t Γ Q E/\(∀ v H',zpH K n W Hi σ Q v H'->Q2 v H')/\∀ H' Hi' Γ' C dd fs,zaR Hi Hi'->Good K n W Hi' Γ' σ H'->zmf K Hi' dd fs->E C fs Γ'->E2 (.ref C) dd H'
def zrL (K:W.Frag) (n:Nat) (t:zfz):TSx:=fun N2 E2 σ H=>∃ W Hi Γ N E,Good K n W Hi Γ σ H/\t N E Γ/\Lifts K n W Hi N N2/\zlw K n W Hi E E2
structure PEx' (X:Cx) (e:Expr) (t:znR):Prop where
 h:PEx X e (zr9 X.K X.N.length t)
structure PSx' (X:Cx) (s:Stmt) (t:zfz):Prop where
 h:PSx X s (zrL X.K X.N.length t)
structure PSsx' (X:Cx) (s:List Stmt) (t:zfz):Prop where
 h:zgW X s (zrL X.K X.N.length t)
section
variable {pos:Pos} {e:Expr} {te:znR} {st:Stmt} {zbF:List Stmt} {t u:zfz}
def PEx.weak {t t2:TEx} (h:PEx X e t) (w:∀ σ H Q E,t2 σ H Q E->t σ H Q E):PEx X e t2:=fun pins s σ H Q E I q=>h pins s σ H Q E I (w _ _ _ _ q)
def PSx.weak {t t2:TSx} (h:PSx X st t) (w:∀ N E σ H,t2 N E σ H->t N E σ H):PSx X st t2:=fun pins s σ H N E I q=>h pins s σ H N E I (w _ _ _ _ q)
def zgW.weak {sts:List Stmt} {t t2:TSx} (h:zgW X sts t) (w:∀ N E σ H,t2 N E σ H->t N E σ H):zgW X sts t2:=fun pins s σ H N E I q=>h pins s σ H N E I (w _ _ _ _ q)
def xS (t:TS'):zfz:=fun N _ Γ=>t N Γ
def PS'.x {t:TS'} (h:PS' X.nox st t):PSx' X st (xS t):=by
 refine ⟨PSx.weak (PS.x (X:=X) h.h) ?_⟩
 rintro N2 E2 σ H ⟨W,Hi,Γ,N,E,g,q,l,_⟩
 exact ⟨W,Hi,Γ,N,g,q,l⟩
def zdg:PSsx' X [] (xS zE):=by
 refine ⟨zgW.weak zmj ?_⟩
 rintro N2 E2 σ H ⟨W,Hi,Γ,N,E,g,q,l,_⟩
 exact l.nx σ H Hi Γ (zaR.refl _) g q
def zaG (t u:zfz):zfz:=fun N E Γ=>t { N with nx:=u N E } E Γ
def zb9 (h1:PSx' X st t) (h2:PSsx' X zbF u):PSsx' X (st :: zbF) (zaG t u):=by
 refine ⟨zgW.weak (zj8 h1.h h2.h) ?_⟩
 rintro N2 E2 σ H ⟨W,Hi,Γ,N,E,g,q,l,x⟩
 refine ⟨W,Hi,Γ,_,E,g,q,⟨?_,l.bk,l.ct,l.rt⟩,x⟩; intro σ1 H1 Hi1 Γ1 s1 g1 q1; exact ⟨W,Hi1,Γ1,N,E,g1,q1,l.mono s1,x.mono s1⟩
def zbJ (h1:PSx' X st t):PSsx' X [st] t:=⟨zmi h1.h⟩
def zaJ (c:TT') (t u:zfz):zfz:=fun N E Γ=>c Γ fun b Γ1=>if b=true then t N E Γ1 else u N E Γ1
def zfC {c:Expr} {sa sb:List Stmt} {tc:TT'} (hc:PT' X.nox c tc) (ha:PSsx' X sa t) (hb:PSsx' X sb u):PSx' X (.If c sa sb pos) (zaJ tc t u):=by
 refine ⟨PSx.weak (zqm (X:=X) hc.h ha.h hb.h) ?_⟩
 rintro N2 E2 σ H ⟨W,Hi,Γ,N,E,g,q,l,x⟩
 refine ⟨W,Hi,Γ,_,g,q,?_⟩; intro k H1 Hi1 Γ1 s1 g1 q1
 cases k with
 | true=>exact ⟨W,Hi1,Γ1,N,E,g1,q1,l.mono s1,x.mono s1⟩
 | false=>exact ⟨W,Hi1,Γ1,N,E,g1,q1,l.mono s1,x.mono s1⟩
def zR (te:znR):zfz:=fun N E Γ=>te Γ (fun _ Γ1=>N.nx Γ1) E
def ze1 (he:PEx' X e te) (hs:swapsWith e none pos.line X.env=pure false:=by rfl):PSx' X (.Expr e pos) (zR te):=by
 refine ⟨PSx.weak (zmm he.h hs) ?_⟩
 rintro N2 E2 σ H ⟨W,Hi,Γ,N,E,g,q,l,x⟩
 refine ⟨W,Hi,Γ,_,E,g,q,?_,fun H1 Hi1 Γ1 C dd fs s1 g1 xd q1=>x σ H1 Hi1 Γ1 C dd fs s1 g1 xd q1⟩
 rintro v H1 ⟨Hi1,d,Γ1,s1,g1,den,q1⟩
 exact l.nx σ H1 Hi1 Γ1 s1 g1 q1
def zaH (te:znR):zfz:=fun N E Γ=>te Γ (fun d Γ1=>N.rt (.val d) Γ1) E
def zio (he:PEx' X e te):PSx' X (.Return (some e) pos) (zaH te):=by
 refine ⟨PSx.weak (znZ he.h) ?_⟩
 rintro N2 E2 σ H ⟨W,Hi,Γ,N,E,g,q,l,x⟩
 refine ⟨W,Hi,Γ,_,E,g,q,?_,fun H1 Hi1 Γ1 C dd fs s1 g1 xd q1=>x σ H1 Hi1 Γ1 C dd fs s1 g1 xd q1⟩
 rintro v H1 ⟨Hi1,d,Γ1,s1,g1,den,q1⟩
 exact l.rt v σ H1 Hi1 Γ1 (.val d) s1 g1 den q1
abbrev zhA:=List D->(Res->Prop)->(Addr->List (Str × D)->Prop)->Prop
def zmv (K:W.Frag) (sp:zhA):Sp:=fun vs H Q2 E2=>∃ Hi ds Q E,Fz Hi H/\zb4 K Hi vs ds/\sp ds Q E/\(∀ Hi' H' v r,Ext Hi H Hi' H'->znS K H Hi' H' v r->Q r->Q2 v H')/\∀ Hi' H' C dd fs,Ext Hi H Hi' H'->zmf K Hi' dd fs->E C fs->E2 (.ref C) dd H'
def zS (sp:zhA) (t:TA'):znR:=fun Γ Q E=>t Γ fun ds Γ1=>sp ds (fun r=>Q r.toD Γ1) fun C fs=>E C fs Γ1
end
structure FnX (P:Program) (w:World) (K:W.Frag) (mg:Str->Option Value) (base:Heap) (k:Nat) (x:Str) (ps:List Str) (sp:zhA):Prop where
 ex:∃ f fd,FnOk P w K mg base (CX1 P w) k f fd ps (zmv K sp)/\zbk K fd ps []/\W.keepIn K (.ref f)=true/\mg x=some (.ref f)/\∃ oc od osl,K.lookup f=some ⟨oc,od,.func fd,osl⟩
section
variable {k:Nat} {x:Str} {ps:List Str} {sp:zhA} {p pos:Pos} {e:Expr} {es:List Expr} {t:TA'}
def zqn (h:FnX X.prog X.w X.K X.mg X.base k x ps sp) (hr:Room k X.A) (ha:PA' X.nox (e :: es) t) (hg:Gl X x:=by rfl) (hdb:yyD x:=by decide) :
  PEx' X (.Call (.Name x p) (e :: es) [] pos) (zS sp t):=by
 obtain ⟨f,fd,F,b,kp,m,_⟩:=h.ex; refine ⟨PEx.weak (zmo F hr hg m kp b ha.pa hdb (zah (zC ha.pl).1) (zaS (zC ha.pl).2)) ?_⟩
 rintro σ H Q E ⟨W,Hi,Γ,Q',E',g,h,fin,fix⟩
 refine ⟨W,Hi,Γ,_,g,h,?_⟩; intro vs H1 Hi1 Γ1 ds s1 g1 dl q; refine ⟨Hi1,ds,_,_,g1.fz,dl,q,?_,?_⟩
 ·intro Hi2 H2 v r ex ro q2
  cases r with
  | val d=>exact fin v H2 ⟨Hi2,d,Γ1,s1.trans ex.hi,g1.ext ex,ro,q2⟩
  | own o =>
   obtain ⟨a,rfl,h1,h2,h3⟩:=ro; have nw:=zbl g1 ex h1 h2 h3; obtain ⟨u,hu⟩:=h3.there; exact fin _ H2 ⟨upd Hi2 a u,_,Γ1,s1.trans (ex.hi.trans (zY h1 u)),(g1.ext ex).freezeA nw.hi nw.h0 nw.ne hu,h3.den h1 hu,q2⟩
  | bk d o =>
   obtain ⟨b',dv,hol,h1,h2,h3⟩:=ro; have nw:=zbl g1 ex h1 h2 h3; obtain ⟨u,hu⟩:=h3.there; exact fin _ H2 ⟨upd Hi2 b' u,_,Γ1,s1.trans (ex.hi.trans (zY h1 u)),(g1.ext ex).freezeA nw.hi nw.h0 nw.ne hu,hol b' _ v o (h3.den h1 hu) (dv.mono (zY h1 u)),q2⟩
 ·intro Hi2 H2 C dd fs ex xd q2
  exact fix H2 Hi2 Γ1 C dd fs (s1.trans ex.hi) (g1.ext ex) xd q2
end
section
variable {K:PySem.W.Frag}
def zeU {N ps:List Str} {vs:List V} {ds:List D} {Hi H:Hp} (hlen:ds.length=ps.length) (hpl:ps.length<=N.length) (sb:Fz Hi H) (dl:zb4 K Hi vs ds):Good K N.length ⟨H,Hi,[]⟩ Hi (zca N ds) (L2.start N vs) H:=by
 have hvl:=zm dl
 refine ⟨?_,sb,fun b o e _=>e,fun b o e=>⟨o,e⟩,fun b o e=>rfl,fun j d e=>?_,fun j o e=>?_,fun j k o o' b e=>?_,fun j d b xs e=>?_⟩
 ·unfold L2.start
  rw [yu,yE,Yk]; omega
 all_goals
  unfold zca at e
  by_cases hj:j<ds.length
  ·rw [yV (by simpa using hj),yF,yB hj] at e
   try cases e
   try
    obtain ⟨v,e1,e2⟩:=zaV dl (yB hj); refine ⟨v,?_,e2⟩; unfold L2.start
    rw [yV (by rw [yE]; omega),yF,e1]
    rfl
  ·rw [yo (by simpa using hj),Ye] at e
   split at e <;> cases e
def Df.okx {k:Nat} {x:Str} {ps:List Str} {sp:zhA} {st:Stmt} {N:List Str} (d:Df K mg x st ps) (S:FnScope N ps (zk st)) (len:∀ ds Q E,sp ds Q E->ds.length=ps.length)
  (hbody:∀ (f:Addr) (cdv:Value) (A:Around) (outer:List Env) (s:Shared) (H:Hp) (E:XK),Room k (A.deeper (PyProof.Rows.envOfC x (zk st) s.heap.objs.size f cdv))->∀ ds Q E',sp ds Q E' ->
   ∃ t,PSsx' (zd8 (CX1 P w) P w K mg base N x (zk st) f cdv A outer s H E) (zaO st) t/\t { nx:=fun _=>Q (.val .non),rt:=fun r _=>Q r } (fun C fs _=>E' C fs) (zca N ds)):FnX P w K mg base (k+1) x ps sp:=by
 obtain ⟨f,fd,F,b,m⟩:=d.ex; obtain ⟨oc,od,kV,doc,pm,an,cdv,ct,osl,e,lk,_⟩:=id F.ex; refine ⟨f,fd,?_,b,F.kp,m,oc,od,osl,lk⟩
 refine F.okx S (fun vs H Q E h=>?_) fun cdv A outer s H vs Q E hr h=>?_
 ·obtain ⟨Hi,ds,Q',E',_,dl,h,_⟩:=h
  rw [zm dl]; exact len ds Q' E' h
 obtain ⟨Hi,ds,Q',E',sb,dl,h,fin,fix⟩:=h; obtain ⟨t,h1,h2⟩:=hbody f cdv A outer s H E hr ds Q' E' h
 have hlen:ds.length=ps.length:=len ds Q' E' h
 have hpl:ps.length<=N.length:=by have:=yg List.length S.pre; rw [yT] at this; omega
 refine ⟨_,h1.h,⟨H,Hi,[]⟩,Hi,zca N ds,_,_,zeU hlen hpl sb dl,h2,?_,?_⟩
 ·refine ⟨fun σ' H' Hi' Γ' s1 g1 q=>?_,fun _ _ _ _ _ _ q=>q.elim,fun _ _ _ _ _ _ q=>q.elim,fun v σ' H' Hi' Γ' r s1 g1 ro q=>?_⟩
  ·exact fin Hi' H' .non (.val .non) ⟨s1,fun b o e=>g1.keep b o e (by simp),g1.fz,fun b o e=>g1.fro b o e⟩ .non q
  ·exact fin Hi' H' v r ⟨s1,fun b o e=>g1.keep b o e (by simp),g1.fz,fun b o e=>g1.fro b o e⟩ ro q
 ·intro σ' H' Hi' Γ' C dd fs s1 g1 xd q
  exact fix Hi' H' C dd fs ⟨s1,fun b o e=>g1.keep b o e (by simp),g1.fz,fun b o e=>g1.fro b o e⟩ xd q
end
structure XcI (P:Program) (w:World) (K:W.Frag) (mg:Str->Option Value) (base:Heap) (k:Nat) (x:Str) (C:Addr) (fld:Str) (ok:V->Hp->Prop):Prop where
 ex:∃ N f bm fd ps,XCl K C N bm/\XIn K N f/\FnOk P w K mg base CX0 k f fd ps (zpN C fld ok)/\zbk K fd ps []/\mg x=some (.ref C)
section
variable {k:Nat} {x fld:Str} {C:Addr} {ok:V->Hp->Prop} {okD:D->Prop} {p cpos pos:Pos} {e:Expr} {ta:TA'}
def zv (C:Addr) (fld:Str) (okD:D->Prop) (ta:TA'):zfz:=fun _ E Γ=>ta Γ fun ds Γ1=>∃ d,ds=[d]/\okD d/\E C [(fld,d)] Γ1
def zir (okD:D->Prop) (T:XcI X.prog X.w X.K X.mg X.base k x C fld ok) (hok:∀ Hi H v d a o,Fz Hi H->Den X.K Hi v d->okD d->H a=none->ok v (upd H a o)) (hr:Room (k+1) X.A) (ha:PA' X.nox [e] ta) (hc:X.calm=true:=by rfl) (hg:Gl X x:=by rfl) (hdb:yyD x:=by decide) :
  PSx' X (.Raise (some (.Call (.Name x p) [e] [] cpos)) none pos) (zv C fld okD ta):=by
 obtain ⟨N,f,bm,fd,ps,h1,h2,F,b,m⟩:=T.ex; refine ⟨PSx.weak (zj9 hc h1 h2 F hr b hg m ha.pa (zah (zC ha.pl).1) hdb) ?_⟩
 rintro N2 E2 σ H ⟨W,Hi,Γ,N',E,g,q,l,xl⟩
 refine ⟨W,Hi,Γ,_,g,q,?_⟩
 rintro vs H1 Hi1 Γ1 ds s1 g1 dl ⟨d,rfl,qo,q1⟩
 obtain ⟨v,rfl,den⟩:=zde dl
 refine ⟨v,rfl,fun a o ha=>hok Hi1 H1 v d a o g1.fz den qo ha,fun dx hdx=>?_⟩
 have ex:=Ext.new g1.fz hdx (.xd [(fld,v)]); exact xl σ _ _ Γ1 C (some dx) [(fld,d)] (s1.trans ex.hi) (g1.ext ex) (.inr ⟨dx,_,rfl,zo,.cons ⟨rfl,den.mono ex.hi⟩ .nil⟩) q1
end
def Good.unset {K:W.Frag} {n:Nat} {W:Wd} {Hi H:Hp} {Γ:Sts} {σ:St} (g:Good K n W Hi Γ σ H) {i:Nat} (hi:i<n):Good K n W Hi (Γ.set i .emp) (σ.set i none) H:=by
 have ad:∀ j,j≠i->adr n W (σ.set i none) j=adr n W σ j:=fun j hj=>by
  unfold adr
  rw [yR (fun z=>hj z.symm)]
 have inv:∀ (j:Nat) (s:Slot),(Γ.set i .emp)[j]?=some s->(j=i/\s=.emp)\/(j≠i/\Γ[j]?=some s):=fun j s e=>by
  by_cases hj:j=i
  ·subst hj
   refine .inl ⟨rfl,?_⟩; rw [List.getElem?_set] at e; simp only [if_true] at e; split at e
   ·exact (Option.some.inj e).symm
   ·cases e
  ·rw [yR (fun z=>hj z.symm)] at e
   exact .inr ⟨hj,e⟩
 refine ⟨by rw [List.length_set]; exact g.len,g.fz,g.keep,g.there,g.fro,fun j d' e=>?_,fun j o e=>?_,fun j k o o' a e1 e2 h1 h2=>?_,fun j d' b xs e=>?_⟩
 ·rcases inv j _ e with ⟨rfl,z⟩ | ⟨hj,z⟩
  ·cases z
  ·obtain ⟨w,h1,h2⟩:=g.val j d' z
   exact ⟨w,by rw [yR (fun z=>hj z.symm)]; exact h1,h2⟩
 ·rcases inv j _ e with ⟨rfl,z⟩ | ⟨hj,z⟩
  ·cases z
  ·obtain ⟨a,h1,h2⟩:=g.own j o z
   exact ⟨a,by rw [ad j hj]; exact h1,h2⟩
 ·rcases inv j _ e1 with ⟨rfl,z⟩ | ⟨hj,z⟩
  ·cases z
  ·rcases inv k _ e2 with ⟨rfl,y⟩ | ⟨hk,y⟩
   ·cases y
   ·exact g.apart j k o o' a z y (by rw [<- ad j hj]; exact h1) (by rw [<- ad k hk]; exact h2)
 ·rcases inv j _ e with ⟨rfl,z⟩ | ⟨hj,z⟩
  ·cases z
  ·obtain ⟨⟨w,w1,w2⟩,h1,h2,h3,h4,h5,h6⟩:=g.bk j d' b xs z
   refine ⟨⟨w,by rw [yR (fun z=>hj z.symm)]; exact w1,w2⟩,h1,h2,h3,h4,fun k d' xs' q=>?_,fun k o' q=>?_⟩
   ·rcases inv k _ q with ⟨rfl,y⟩ | ⟨hk,y⟩
    ·cases y
    ·exact h5 k _ _ y
   ·rcases inv k _ q with ⟨rfl,y⟩ | ⟨hk,y⟩
    ·cases y
    ·rw [ad k hk]
     exact h6 k o' y
section
variable {M:Addr} {x n:Str} {body suite:List Stmt} {b0:Stmt} {tb:zfz} {ts:TS'} {p hpos pos:Pos}
end
end PL
namespace L2
open PySem PySem.Spec PyProof.Rows PySem.Builtin PySem.Builtin.Str
structure XFl (K:W.Frag) (C:Addr):Prop where
 get:X1.XGet K C
 hd:W.hasDictIn K C=true
section
def zqG (K:W.Frag) (ta:TE) (f:Str):TE:=fun σ H Q=>ta σ H fun x H1=>(∃ a C dx fs v,x=.ref a/\H1 a=some (.ins C dx fs)/\Cls K C/\zaQ K C f/\fs.lookup f=some v/\Q v H1) \/
 ∃ a C dx fs v,x=.ref a/\H1 a=some (.ext (XAt a C (some dx)))/\H1 dx=some (.xd fs)/\XFl K C/\zaQ K C f/\fs.lookup f=some v/\Q v H1
def zm2 {e:Expr} {f:Str} {pos:Pos} {ta:TE} (he:PE X e ta) (hb:attributeBase e f X.env (eval e X.env)=eval e X.env):PE X (.Attribute e f pos) (zqG X.K ta f):=by
 intro pins s σ H Q I h
 refine zjN hb (thn (he pins s σ H _ I h) fun u s1 ⟨x,H1,I1,rx,q⟩=>?_)
 rcases q with ⟨a,C,dx,fs,v,rfl,ea,c,n,l,q⟩ | ⟨a,C,dx,fs,v,rfl,ea,ed,c,n,l,q⟩
 ·obtain rfl:u=Value.ref a:=rx
  exact zeV I1 ea c n l fun u' s2 I2 ru=>⟨v,H1,I2,ru,q⟩
 ·obtain rfl:u=Value.ref a:=rx
  obtain ⟨⟨vs,sl,hx⟩,_⟩:=(show zbr X.prog X.w H1 s1.heap a (.ext (XAt a C (some dx))) from I1.hok a _ ea)
  obtain ⟨mA,ns,r⟩:=(show zbr X.prog X.w H1 s1.heap dx (.xd fs) from I1.hok dx _ ed)
  obtain ⟨od,ho,hl⟩:=zf1 ns
  obtain ⟨w',hw,rw'⟩:=zgV.some_of (v:=v) (o:=mA f) (by rw [<- l]; exact r f)
  have J:W.InstAt s1.heap a ⟨.ref C,some dx,.fields vs,sl⟩ C (some od):=⟨hx,rfl,rfl,ho⟩
  exact X1.xget I1.kIn J c.get (W.findObj_own c.hd n rfl (by rw [hl,hw])) (zf7 rw') ⟨v,H1,I1.tok _,rw',q⟩
theorem zdD:∀ {ys:List Str} {its:List Value},za4 (ys.map V.str) its->StrsAre its ys
 | [],_,.nil=>.nil
 | y :: r,_,.cons h t=>by
  obtain ⟨tk,rfl⟩:=h; exact .cons y tk (zdD t)
def znl:MtR X "str.join" (fun x xs H Q=>∃ z a ys,x=.str z/\xs=[.ref a]/\(SqL X.K H a (ys.map .str)\/SqT X.K H a (ys.map .str))/\(ys.map (·.length)).sum+ys.length * z.length<=16777216/\Q (.str (Txt.join z ys)) H):=by
 intro pins s σ H x xs v us Q I rx rs h; obtain ⟨z,a,ys,rfl,rfl,hs,hz,q⟩:=h; obtain ⟨t,rfl⟩:=rx; obtain ⟨u,rfl,ru⟩:=zdh rs
 obtain rfl:u=Value.ref a:=ru
 rcases hs with hs | hs
 ·obtain ⟨its,r,p,_⟩:=I.list hs
  obtain ⟨o,n,e1,e2,e3,e4⟩:=p
  exact join_list (items:=its.toArray) ⟨o,e1,e2,n,by first | exact e3 | exact e4⟩ (zdD (by simpa using r)) hz fun t' k=>⟨.str _,H,I.tok _,⟨_,rfl⟩,q⟩
 ·obtain ⟨its,r,p,_⟩:=I.tuple hs
  exact join_tuple p (zdD (by simpa using r)) hz fun t' k=>⟨.str _,H,I.tok _,⟨_,rfl⟩,q⟩
end
end L2
namespace PL
open PySem L2
section
theorem zga {K:W.Frag} {H:Hp}:∀ {vs:List V} {ls:List (List Nat)},zb4 K H vs (ls.map .str)->vs=(ls.map st).map V.str
 | _,[],.nil=>rfl
 | _,l :: ls,.cons r t=>by rw [r.strI,zga t]; rfl
def zM (K:W.Frag) (t:TE') (f:Str):TE':=fun Γ Q=>t Γ fun d Γ1=>(∃ C fs v,d=.obj C fs/\Cls K C/\zaQ K C f/\fs.lookup f=some v/\Q v Γ1)\/∃ C fs v,d=.exc C fs/\XFl K C/\zaQ K C f/\fs.lookup f=some v/\Q v Γ1
def zaX {e:Expr} {t:TE'} {f:Str} {pos:Pos} (he:PE' X e t) (hb:attributeBase e f X.env (eval e X.env)=eval e X.env:=by rfl):PE' X (.Attribute e f pos) (zM X.K t f):=by
 refine ⟨PE.weak (zm2 he.h hb) ?_⟩
 rintro σ H Q ⟨W,Hi,Γ,Q',g,h,fin⟩
 refine ⟨W,Hi,Γ,_,g,h,?_⟩
 rintro x H1 ⟨Hi1,d,Γ1,s1,g1,den1,h1⟩
 rcases h1 with ⟨C,fs,v,rfl,cl,na,lk,q⟩ | ⟨C,fs,v,rfl,cl,na,lk,q⟩
 ·obtain ⟨a,dx,fvs,rfl,ha,df⟩:=den1.objI
  obtain ⟨u,hu,du⟩:=df.look lk; exact .inl ⟨a,C,dx,fvs,u,rfl,g1.sub _ _ ha,cl,na,hu,fin u H1 ⟨Hi1,v,Γ1,s1,g1,du,q⟩⟩
 ·obtain ⟨a,dd,rfl,ha,xd⟩:=den1.excI
  rcases xd with ⟨_,rfl⟩ | ⟨dx,fvs,rfl,hd,df⟩
  ·cases lk
  ·obtain ⟨u,hu,du⟩:=df.look lk
   exact .inr ⟨a,C,dx,fvs,u,rfl,g1.sub _ _ ha,g1.sub _ _ hd,cl,na,hu,fin u H1 ⟨Hi1,v,Γ1,s1,g1,du,q⟩⟩
theorem ziH {K:W.Frag} {H:Hp} {vs:List V} {ds:List D} (h:zb4 K H vs ds):∀ k,zb4 K H (List.replicate k vs).flatten (List.replicate k ds).flatten
 | 0=>.nil
 | k+1=>by
  rw [YU,YU,Ym,Ym]; exact zbG h (ziH h k)
end
section
variable {k:Nat} {x:Str} {ps:List Str} {sp:zhA} {p pos:Pos} {e:Expr} {es:List Expr} {t:TA'}
end
def zcj {X:Cx} (K:W.Frag) (h:X.K=K):Cal X (.builtin "isinstance") (zee K):=by
 subst h; exact zpA
def znN {X:Cx} (K:W.Frag) (h:X.K=K):Cal X (.builtin "isinstance") (zor K):=by
 subst h; exact zpz
end PL
namespace L2
open PySem PySem.Spec PyProof.Rows
def skB (es:Array DictEntry):Bool:=es.toList.all fun e=>match e.key with | .str _ _=>true | _=>false
section
variable {C M N NM f:Addr} {c cM:Value} {d dM od:Option Addr} {es eM:Array DictEntry} {ep epM:Nat} {sl slM sf:Array (Option Value)}
def zem (l:K.lookup N=some ⟨c,d,.dict es ep,sl⟩) (sk:skB es=true) {h:Heap} (X:K.In h):h.Ns N (nsFind es):=by
 refine ⟨_,es,ep,X _ _ l,rfl,fun e he=>?_,fun _=>rfl⟩
 have z:=Yf.mp sk e (Array.mem_toList_iff.mpr he)
 revert z
 cases hk:e.key <;> intro z <;> first | exact ⟨_,_,rfl⟩ | exact yU z (by simp)
def zfZ (l:K.lookup N=some ⟨c,d,.dict es ep,sl⟩) {name:Str} {v:Option Value} (e:W.nsIn K N name=some v):nsFind es name=v:=by
 unfold W.nsIn at e; rw [l] at e
 dsimp only at e
 unfold nsFind findBy; rw [<- Array.find?_toList]
 cases hf:es.toList.find? (·.key.isStr name) with
 | none =>
  rw [hf] at e
  dsimp only at e
  split at e
  ·cases e
  ·exact Option.some.inj e
 | some x =>
  rw [hf] at e; exact Option.some.inj e
def zgY {nm q nmM qM:Str} {bs bsM bmM:List Value} {hd hdM:Bool} {sn snM:List Str} {sub subM:List Value} {ab abM:Bool} {col colM:Option Bool} {dd ddM:Option Addr} {k0 k1 k2 k3 k5 j0 j1 j2 j3 j5:Option Value} {nid:String}
  (bC:K.lookup C=some (excClassObj nm q C N bs (.ref M :: vbm) hd sn sub ab col dd k0 k1 k2 k3 k5 "ValueError.__new__")) (bM:K.lookup M=some (excClassObj nmM qM M NM bsM bmM hdM snM subM abM colM ddM j0 j1 j2 j3 j5 nid))
  (lM:K.lookup NM=some ⟨cM,dM,.dict eM epM,slM⟩) (skM:skB eM=true) (iM:W.nsIn K NM "__init__"=some none) (kp:W.keepIn K (.ref C)=true):XCl K C N (.ref M :: vbm) where
 xc:=fun h X=>⟨_,_,_,_,_,_,_,_,_,_,_,_,_,_,X _ _ bC⟩
 tail:=fun h X=>.own (X _ _ bM) (zem lM skM X) (zfZ lM iM) .base
 base:=by simp [vbm]
 kp:=kp
def zn1 {fd:FuncData} (l:K.lookup N=some ⟨c,d,.dict es ep,sl⟩) (sk:skB es=true) (i:W.nsIn K N "__init__"=some (some (.ref f))) (lf:K.lookup f=some ⟨.type "function",od,.func fd,sf⟩):XIn K N f where
 ns:=fun h X=>⟨_,zem l sk X,zfZ l i⟩
 fn:=fun h X=>⟨_,X _ _ lf,rfl⟩
def zdy (hd:W.hasDictIn K C=true):(W.clsIn K C).isSome=true:=by
 obtain ⟨cd,e,_⟩:=W.any_some hd; rw [e]; rfl
def zdU {b:Bool} (hd:W.hasDictIn K M=true) (ty:W.typeIn K (.ref M)=some (.type "type")) (mb:W.mroIn K M (.type "BaseException")=some true) (m:W.mroIn K C (.ref M)=some b):W.exmOne K (.ref C) (.ref M)=some b:=by
 unfold W.exmOne
 rw [show W.subIn K (.ref M) (.type "BaseException")=some true from mb,yW (by decide)]
 show (if ((W.clsIn K M).isSome && W.typeIn K (.ref M) == some (.type "type"))=true then W.subIn K (.ref C) (.ref M) else none)=some b
 rw [zdy hd,ty,yW (by simp)]
 exact m
def zb6:W.kitOne K (.ref C) (.ref C)=some true:=by
 unfold W.kitOne
 rw [yW (by simp)]
def zho {n:String} {b:Bool} (hk:W.kitMeta n=true) (m:W.mroIn K C (.type n)=some b):W.kitOne K (.ref C) (.type n)=some b:=by
 unfold W.kitOne
 rw [yS (by simp)]
 show (if W.kitMeta n=true then W.subIn K (.ref C) (.type n) else none)=some b
 rw [yW hk]; exact m
def zaT {t c:Value} {r:List Value} {b:Bool} (h:W.kitOne K t c=some false) (hr:W.kitAny K t r=some b):W.kitAny K t (c :: r)=some b:=by
 unfold W.kitAny; rw [h]; exact hr
end
end L2
namespace L2
open PySem
def zn2 {K:W.Frag} {C M N:Addr} {nm q:Str} {bs:List Value} {sn:List Str} {sub:List Value} {ab:Bool} {col:Option Bool} {dd:Option Addr} {k0 k1 k2 k3 k5:Option Value} {nid:String} (bC:K.lookup C=some (excClassObj nm q C N bs (.ref M :: vbm) true sn sub ab col dd k0 k1 k2 k3 k5 nid)):((W.clsIn K C).any fun cd=>cd.hasDict && X1.xmro cd.mro)=true:=by
 unfold W.clsIn; rw [bC]; rfl
end L2
namespace L2
open PySem PySem.Spec PyProof.Rows
section
def zqp (C:Addr) (m:Str) (sp:Sp) (ta:TE) (t:TA):TEx:=fun σ H Q E=>ta σ H fun x H1=>∃ a dx fs,x=.ref a/\H1 a=some (.ins C dx fs)/\fs.lookup m=none/\t σ H1 fun vs H2=>sp (x :: vs) H2 Q E
def zmn {pl:Sem Bool} {k:Nat} {f C:Addr} {fd:FuncData} {ps:List Str} {sp:Sp} {m:Str} {apos pos:Pos} {o e:Expr} {es:List Expr} {ta:TE} {t:TA} (he:PE X.nox o ta) (c:Cls X.K C) (hm:Meth X.K C m f) (F:FnOk X.prog X.w X.K X.mg X.base (CX1 X.prog X.w) k f fd ps sp) (hr:Room k X.A) (hb:zbk X.K fd ps []) (ha:PA X.nox (e :: es) t)
  (hst:starEach (e :: es) X.env=(false,eval e X.env) :: starEach es X.env:=by rfl) (hpl:(backTo pos (starEach es X.env)).any (·.1)=false:=by rfl)
  (ht:eval (.Call (.Attribute o m apos) (e :: es) [] pos) X.env=(do
   let ov <- eval o X.env
   standAt apos.atName
   let (f,first) <- holding [ov] (getMethod ov m pl)
   callWith pos f first (backTo pos (starEach (e :: es) X.env)) (backToKw pos (keywordEach [] X.env))):=by rfl) :
  PEx X (.Call (.Attribute o m apos) (e :: es) [] pos) (zqp C m sp ta t):=by
 intro pins s σ H Q E I h; have h0:=he pins s σ H _ (I.wish _) h
 refine W.methodCall_KW (pl:=pl) (ym h0 (fun u s1 q=>?_) fun _ _ z=>z.elim) ht
 obtain ⟨x,H1,I1,rx,a,dx,fs,ex,ea,l,q⟩:=q; subst ex
 obtain rfl:u=Value.ref a:=rx
 refine zdR I1.unwish ea c hm l ?_
 refine W.callWith_K (first:=[.ref a]) (h₀:=X.base) I.ok.mod.kin hm.kp (thn (PA.x ha I1.unwish q) fun us s2 ⟨vs,H2,I2,r,q2⟩=>⟨I2.kIn,?_⟩) hst hpl
 exact zis (us:=.ref a :: us) (vs:=.ref a :: vs) F hr hb I2 (.cons rfl r) q2
end
end L2
namespace PL
open PySem L2
structure Mth (P:Program) (w:World) (K:W.Frag) (mg:Str->Option Value) (base:Heap) (k:Nat) (C:Addr) (m:Str) (ps:List Str) (sp:Sp'):Prop where
 ex:∃ f fd,FnOk P w K mg base CX0 k f fd ps (zij K sp)/\zbk K fd ps []/\Meth K C m f/\Cls K C
structure MthX (P:Program) (w:World) (K:W.Frag) (mg:Str->Option Value) (base:Heap) (k:Nat) (C:Addr) (m:Str) (ps:List Str) (sp:zhA):Prop where
 ex:∃ f fd,FnOk P w K mg base (CX1 P w) k f fd ps (zmv K sp)/\zbk K fd ps []/\Meth K C m f/\Cls K C
section
variable {k:Nat} {C:Addr} {m:Str} {ps:List Str} {sp:Sp'} {spx:zhA} {apos pos:Pos} {o e:Expr} {es:List Expr} {to:TE'} {t:TA'}
def zau (C:Addr) (m:Str) (sp:Sp') (to:TE') (t:TA'):TE':=fun Γ Q=>to Γ fun d Γ1=>∃ fs,d=.obj C fs/\fs.lookup m=none/\t Γ1 fun ds Γ2=>sp (.obj C fs :: ds) fun r=>Q r.toD Γ2
def zaI (C:Addr) (m:Str) (sp:zhA) (to:TE') (t:TA'):znR:=fun Γ Q E=>to Γ fun d Γ1=>∃ fs,d=.obj C fs/\fs.lookup m=none/\t Γ1 fun ds Γ2=>sp (.obj C fs :: ds) (fun r=>Q r.toD Γ2) fun C' fs'=>E C' fs' Γ2
theorem zcg {K:W.Frag} {H:Hp} {f:Str}:∀ {fs:List (Str × V)} {ds:List (Str × D)},zim K H fs ds->ds.lookup f=none->fs.lookup f=none
 | _,_,.nil,_=>rfl
 | p :: fs,q :: ds,.cons r t,h=>by
  obtain ⟨p1,p2⟩:=p; obtain ⟨q1,q2⟩:=q; obtain ⟨r1,r2⟩:=r
  dsimp only at r1
  subst r1
  by_cases e:f=q1
  ·have hb:(f == q1)=true:=beq_iff_eq.mpr e
   simp only [List.lookup,hb] at h; cases h
  ·have hb:(f == q1)=false:=beq_eq_false_iff_ne.mpr e
   simp only [List.lookup,hb] at h ⊢; exact zcg t h
def zi0 (h:Mth X.prog X.w X.K X.mg X.base k C m ps sp) (hr:Room k X.A) (ho:PE' X o to) (ha:PA' X (e :: es) t) {pl:Sem Bool}
  (ht:eval (.Call (.Attribute o m apos) (e :: es) [] pos) X.env=(do
   let ov <- eval o X.env
   standAt apos.atName
   let (f,first) <- holding [ov] (getMethod ov m pl)
   callWith pos f first (backTo pos (starEach (e :: es) X.env)) (backToKw pos (keywordEach [] X.env))):=by rfl) :
  PE' X (.Call (.Attribute o m apos) (e :: es) [] pos) (zau C m sp to t):=by
 obtain ⟨f,fd,F,b,hm,cl⟩:=h.ex; refine ⟨PE.weak (zgC (E:=E0) (dvs:=[]) ho.h cl hm F hr b .nil zfe ha.pa (zah (zC ha.pl).1) (zaS (zC ha.pl).2) ht) ?_⟩
 rintro σ H Q ⟨W,Hi,Γ,Q',g,h,fin⟩
 refine ⟨W,Hi,Γ,_,g,h,?_⟩
 rintro x H1 ⟨Hi1,d,Γ1,s1,g1,den1,fs,rfl,lk,q⟩
 obtain ⟨a,dx,fvs,rfl,ha',df⟩:=id den1.objI; refine ⟨a,dx,fvs,rfl,g1.sub _ _ ha',zcg df lk,?_⟩; refine ⟨W,Hi1,Γ1,_,g1,q,?_⟩; intro vs H2 Hi2 Γ2 ds s2 g2 dl q2; rw [yh]; refine ⟨Hi2,_,_,g2.fz,.cons (den1.mono s2) dl,q2,?_⟩; intro Hi3 H3 v r ex ro q3; have s12:=s1.trans s2
 cases r with
 | val d=>exact fin v H3 ⟨Hi3,d,Γ2,s12.trans ex.hi,g2.ext ex,ro,q3⟩
 | own o =>
  obtain ⟨a,rfl,h1,h2,h3⟩:=ro; have nw:=zbl g2 ex h1 h2 h3; obtain ⟨u,hu⟩:=h3.there; exact fin _ H3 ⟨upd Hi3 a u,_,Γ2,s12.trans (ex.hi.trans (zY h1 u)),(g2.ext ex).freezeA nw.hi nw.h0 nw.ne hu,h3.den h1 hu,q3⟩
 | bk d o =>
  obtain ⟨b',dv,hol,h1,h2,h3⟩:=ro; have nw:=zbl g2 ex h1 h2 h3; obtain ⟨u,hu⟩:=h3.there; exact fin _ H3 ⟨upd Hi3 b' u,_,Γ2,s12.trans (ex.hi.trans (zY h1 u)),(g2.ext ex).freezeA nw.hi nw.h0 nw.ne hu,hol b' _ v o (h3.den h1 hu) (dv.mono (zY h1 u)),q3⟩
def ze2 (h:MthX X.prog X.w X.K X.mg X.base k C m ps spx) (hr:Room k X.A) (ho:PE' X.nox o to) (ha:PA' X.nox (e :: es) t) {pl:Sem Bool}
  (ht:eval (.Call (.Attribute o m apos) (e :: es) [] pos) X.env=(do
   let ov <- eval o X.env
   standAt apos.atName
   let (f,first) <- holding [ov] (getMethod ov m pl)
   callWith pos f first (backTo pos (starEach (e :: es) X.env)) (backToKw pos (keywordEach [] X.env))):=by rfl) :
  PEx' X (.Call (.Attribute o m apos) (e :: es) [] pos) (zaI C m spx to t):=by
 obtain ⟨f,fd,F,b,hm,cl⟩:=h.ex; refine ⟨PEx.weak (zmn (X:=X) ho.h cl hm F hr b ha.pa (zah (zC ha.pl).1) (zaS (zC ha.pl).2) ht) ?_⟩
 rintro σ H Q E ⟨W,Hi,Γ,Q',E',g,h,fin,fix⟩
 refine ⟨W,Hi,Γ,_,g,h,?_⟩
 rintro x H1 ⟨Hi1,d,Γ1,s1,g1,den1,fs,rfl,lk,q⟩
 obtain ⟨a,dx,fvs,rfl,ha',df⟩:=id den1.objI; refine ⟨a,dx,fvs,rfl,g1.sub _ _ ha',zcg df lk,?_⟩; refine ⟨W,Hi1,Γ1,_,g1,q,?_⟩; intro vs H2 Hi2 Γ2 ds s2 g2 dl q2; have s12:=s1.trans s2; refine ⟨Hi2,_,_,_,g2.fz,.cons (den1.mono s2) dl,q2,?_,?_⟩
 ·intro Hi3 H3 v r ex ro q3
  cases r with
  | val d=>exact fin v H3 ⟨Hi3,d,Γ2,s12.trans ex.hi,g2.ext ex,ro,q3⟩
  | own o =>
   obtain ⟨a,rfl,h1,h2,h3⟩:=ro; have nw:=zbl g2 ex h1 h2 h3; obtain ⟨u,hu⟩:=h3.there; exact fin _ H3 ⟨upd Hi3 a u,_,Γ2,s12.trans (ex.hi.trans (zY h1 u)),(g2.ext ex).freezeA nw.hi nw.h0 nw.ne hu,h3.den h1 hu,q3⟩
  | bk d o =>
   obtain ⟨b',dv,hol,h1,h2,h3⟩:=ro; have nw:=zbl g2 ex h1 h2 h3; obtain ⟨u,hu⟩:=h3.there; exact fin _ H3 ⟨upd Hi3 b' u,_,Γ2,s12.trans (ex.hi.trans (zY h1 u)),(g2.ext ex).freezeA nw.hi nw.h0 nw.ne hu,hol b' _ v o (h3.den h1 hu) (dv.mono (zY h1 u)),q3⟩
 ·intro Hi3 H3 C' dd fs' ex xd q3
  exact fix H3 Hi3 Γ2 C' dd fs' (s12.trans ex.hi) (g2.ext ex) xd q3
abbrev zjR:=List D->Sts->(Sts->Prop)->Prop
def zsy (K:W.Frag) (n:Nat) (g:zjR):TGs:=fun vs σ H Q2=>∃ W Hi Γ ds Q,Good K n W Hi Γ σ H/\zb4 K Hi vs ds/\g ds Γ Q/\∀ σ' H' Hi' Γ',zaR Hi Hi'->Good K n W Hi' Γ' σ' H'->Q Γ'->Q2 σ' H'
structure PGs' (X:Cx) (es:List Expr) (g:zjR):Prop where
 h:PGs X es (zsy X.K X.N.length g)
def PGs.weak {es:List Expr} {t t2:TGs} (h:PGs X es t) (w:∀ vs σ H Q,t2 vs σ H Q->t vs σ H Q):PGs X es t2:=fun pins s σ H vs us Q I r q=>h pins s σ H vs us Q I r (w _ _ _ _ q)
def zaE:zjR:=fun ds Γ Q=>ds=[]/\Q Γ
def zQ (t:TG') (u:zjR):zjR:=fun ds Γ Q=>∃ d r,ds=d :: r/\t d Γ fun Γ1=>u r Γ1 Q
def zaD (n:Nat) (t:zjR):TG':=fun d Γ Q=>∃ ds,d=.tup ds/\ds.length=n/\t ds Γ Q
def zfc:PGs' X [] zaE:=by
 refine ⟨PGs.weak ziZ ?_⟩
 rintro vs σ H Q ⟨W,Hi,Γ,ds,Q',g,dl,⟨rfl,q⟩,fin⟩
 cases dl; exact ⟨rfl,fin σ H Hi Γ (zaR.refl _) g q⟩
def zb0 {e:Expr} {es:List Expr} {t:TG'} {u:zjR} (h1:PG' X e t) (h2:PGs' X es u) (hs:(assignEach (e :: es) X.env).map (·.2)=assign e X.env :: (assignEach es X.env).map (·.2):=by rfl):PGs' X (e :: es) (zQ t u):=by
 refine ⟨PGs.weak (zdq h1.h h2.h hs) ?_⟩
 rintro vs σ H Q ⟨W,Hi,Γ,ds,Q',g,dl,⟨d,r,rfl,q⟩,fin⟩
 cases dl with
 | cons r0 rr =>
  refine ⟨_,_,rfl,W,Hi,Γ,d,_,g,r0,q,?_⟩; intro σ1 H1 Hi1 Γ1 s1 g1 q1
  exact ⟨W,Hi1,Γ1,r,Q',g1,zb4.mono rr s1,q1,fun σ2 H2 Hi2 Γ2 s2=>fin σ2 H2 Hi2 Γ2 (s1.trans s2)⟩
def zgA {es:List Expr} {k n:Nat} {t:zjR} (h:PGs' X es t) (hc:X.calm=true:=by rfl) (hn:(assignEach es X.env).length=n:=by rfl) (hst:(assignEach es X.env).findIdx? (·.1)=none:=by rfl):PG' X (.Tuple es k pos) (zaD n t):=by
 refine ⟨PG.weak (zlM hc h.h hn hst) ?_⟩
 rintro v σ H Q ⟨W,Hi,Γ,d,Q',g,den,⟨ds,rfl,hl,q⟩,fin⟩
 obtain ⟨a,vs,rfl,ha,dl⟩:=den.tupI
 exact ⟨a,vs,rfl,zaj g.sub ha,by rw [zm dl]; exact hl,W,Hi,Γ,ds,Q',g,dl,q,fin⟩
end
section
def zam:TS':=fun _ _=>False
def zdK {st:Stmt}:PS' X st zam:=⟨fun pins s σ H N I q=>by
 obtain ⟨_,_,_,_,_,h,_⟩:=q; exact h.elim⟩
end
section
def zfq {x qual:Str} {st:Stmt} {f:Addr} {fd:FuncData} {N ps:List Str} {k:Nat} {sp:zhA} (F:Fun K x qual st f fd) (S:FnScope N ps (zk st)) (len:∀ ds Q E,sp ds Q E->ds.length=ps.length)
  (hbody:∀ (cdv:Value) (A:Around) (outer:List Env) (s:Shared) (H:Hp) (E:XK),Room k (A.deeper (PyProof.Rows.envOfC qual (zk st) s.heap.objs.size f cdv))->∀ ds Q E',sp ds Q E' ->
   ∃ t,PSsx' (zd8 (CX1 P w) P w K mg base N qual (zk st) f cdv A outer s H E) (zaO st) t/\t { nx:=fun _=>Q (.val .non),rt:=fun r _=>Q r } (fun C fs _=>E' C fs) (zca N ds)):FnOk P w K mg base (CX1 P w) (k+1) f fd ps (zmv K sp):=by
 refine F.okx S (fun vs H Q E h=>?_) fun cdv A outer s H vs Q E hr h=>?_
 ·obtain ⟨Hi,ds,Q',E',_,dl,h,_⟩:=h
  rw [zm dl]; exact len ds Q' E' h
 obtain ⟨Hi,ds,Q',E',sb,dl,h,fin,fix⟩:=h; obtain ⟨t,h1,h2⟩:=hbody cdv A outer s H E hr ds Q' E' h
 have hlen:ds.length=ps.length:=len ds Q' E' h
 have hpl:ps.length<=N.length:=by have:=yg List.length S.pre; rw [yT] at this; omega
 refine ⟨_,h1.h,⟨H,Hi,[]⟩,Hi,zca N ds,_,_,zeU hlen hpl sb dl,h2,?_,?_⟩
 ·refine ⟨fun σ' H' Hi' Γ' s1 g1 q=>?_,fun _ _ _ _ _ _ q=>q.elim,fun _ _ _ _ _ _ q=>q.elim,fun v σ' H' Hi' Γ' r s1 g1 ro q=>?_⟩
  ·exact fin Hi' H' .non (.val .non) ⟨s1,fun b o e=>g1.keep b o e (by simp),g1.fz,fun b o e=>g1.fro b o e⟩ .non q
  ·exact fin Hi' H' v r ⟨s1,fun b o e=>g1.keep b o e (by simp),g1.fz,fun b o e=>g1.fro b o e⟩ ro q
 ·intro σ' H' Hi' Γ' C dd fs s1 g1 xd q
  exact fix Hi' H' C dd fs ⟨s1,fun b o e=>g1.keep b o e (by simp),g1.fz,fun b o e=>g1.fro b o e⟩ xd q
end
end PL
namespace Mu
open PySem PySem.Builtin
def noFill_tup:fillsNumberSlot (.type "tuple") "mul"=pure false :=
 fillsNumberSlot_seq (id:="tuple.__mul__") (r:=some (.builtin "tuple.__rmul__")) PySem.F.slot_tuple_mul.lookup (by decide +kernel) PySem.F.slot_tuple_rmul.lookup (by decide +kernel)
def rep_tup:seqRepeat? (.type "tuple")=pure (some (.builtin "tuple.__mul__")):=by
 unfold seqRepeat?
 rw [seqSlot_of (T:="tuple") (name:="__mul__") (id:="tuple.__mul__") PySem.F.slot_tuple_mul.lookup (by decide +kernel),seqSlot_of (T:="tuple") (name:="__rmul__") (id:="tuple.__rmul__") PySem.F.slot_tuple_rmul.lookup (by decide +kernel)]
 rfl
def rmul_tup (a:Int) (t:Tok) (l:Addr) (o:Obj) (xs:Array Value) (n:Nat) (hc:o.cls=.type "tuple") (hd:o.data=.seq xs n):Meets (Builtin.«int.__rmul__» ⟨[.int a t,.ref l],[]⟩) (fun _ R s=>s.heap.get? l=some o/\R (.ok (.ret Value.notImplemented)) s) :=
 .of_wp fun prog w A R s h=>by
  obtain ⟨hp,g,d,tk,os⟩:=s; obtain ⟨hl,h⟩:=h; obtain ⟨oc,od,dt,sl⟩:=o
  dsimp only at hc hd
  subst hc hd
  wp_walk
  exact ⟨_,rfl,h⟩
def mul_tup (k:Nat) (t:Tok) (l:Addr) (o:Obj) (xs:Array Value) (n:Nat) (hc:o.cls=.type "tuple") (hd:o.data=.seq xs n) (hk:2<=k) (hk2:k<=100) (hz:xs.size * k<=10000) :
  Meets (Builtin.«tuple.__mul__» ⟨[.ref l,.int k t],[]⟩) (fun _ R s=>s.heap.get? l=some o/\(xs.isEmpty=true->R (.ok (.ret (.ref l))) s) /\
   (xs.isEmpty=false->R (.ok (.ret (.ref s.heap.objs.size))) { s with heap:=s.heap.push { cls:=.type "tuple",data:=.seq ((List.replicate k xs).foldl (· ++ ·) #[]) } })) :=
 .of_wp fun prog w A R s h=>by
  obtain ⟨hp,g,d,tk,os⟩:=s; obtain ⟨hl,h1,h2⟩:=h; obtain ⟨oc,od,dt,sl⟩:=o
  dsimp only at hc hd
  subst hc hd
  have e1:(decide ((k:Int)< -(2 ^ 63)) || decide ((k:Int) >= 2 ^ 63))=false:=by
   rw [yY (by omega),yY (by omega)]
   rfl
  have e2:((k:Int) == 1)=false:=by rw [beq_eq_false_iff_ne]; omega
  have e3:decide ((k:Int)<=0)=false:=yY (by omega)
  have e4:¬ ((xs.size:Int) * (k:Int) > (2 ^ 63-1) / 8):=by
   have:((xs.size * k:Nat):Int)<=10000:=by omega
   rw [Int.natCast_mul] at this; omega
  have e5:Builtin.Tuple.tupleTooMany ((xs.size:Int) * (k:Int))=false:=by
   unfold Builtin.Tuple.tupleTooMany
   have:((xs.size * k:Nat):Int)<=10000:=by omega
   rw [Int.natCast_mul] at this
   have b:10000<sizeLine:=by decide
   exact yY (by omega)
  wp_walk
  rw [yS (by rw [e1]; exact yN)]
  wp_walk
  cases he:xs.isEmpty with
  | true =>
   wp_walk
   exact ⟨_,rfl,h1 he⟩
  | false =>
   wp_walk
   rw [yS (by rw [e3]; decide)]
   dsimp only
   rw [yS e4,yS (by rw [e5]; decide),YI]
   have hsz:(List.foldl (fun x1 x2=>x1 ++ x2) #[] (List.replicate k xs)).size<=sizeLine:=by
    have e:=L2.foldl_rep xs.toList k []
    have e':List.foldl (fun x1 x2=>x1 ++ x2) #[] (List.replicate k xs)=([] ++ (List.replicate k xs.toList).flatten).toArray:=by simpa using e
    rw [e',yQ,List.nil_append,L2.len_rep,Yc,Nat.mul_comm]
    have b:10000<sizeLine:=by decide
    omega
   unfold Builtin.Tuple.tupleExact; exact yA (yi (yG ⟨_,rfl,h2 he⟩) hsz)
end Mu
namespace L2
open PySem PySem.Spec PyProof.Rows
section
def zqT:R2:=fun x y H Q=>∃ (l:Addr) (k:Nat) (xs:List V),x=.ref l/\y=.int k/\H l=some (.tup xs)/\2<=k/\k<=100/\xs.length * k<=10000/\(xs=[]->Q (.ref l) H)/\(xs≠[]->∀ p,H p=none->Q (.ref p) (upd H p (.tup (List.replicate k xs).flatten)))
def zm7:OpR X (binaryOp .Mult) zqT:=by
 intro pins s σ H x y v u Q I rx ry h; obtain ⟨l,k,xs,rfl,rfl,hH,h1,h2,hz,q1,q2⟩:=h; cases rx; obtain ⟨t,rfl⟩:=ry
 obtain ⟨z,its,r,o,ho,hc,n,hd⟩:=(show zbr X.prog X.w H s.heap l (.tup xs) from I.hok l _ hH)
 have hl:=r.length
 refine wpAny_binaryOp_repeat_ref (T:="tuple") (U:="int") (by decide) ⟨_,ho,hc⟩ (fun s'=>typeIs_int s' k t) Mu.noFill_tup PySem.F.fills_int_mul PySem.F.slot_int_rmul Mu.rep_tup PySem.F.slot_int_index.lookup
  (call_meets PySem.F.slot_int_rmul (typeIs_int s k t) PySem.F.entry_int_rmul (PySem.F.args_int_rmul_2 _ _) (Mu.rmul_tup k t l o its.toArray n hc hd) ⟨ho,rfl,⟨_,ho,hc⟩,call_meets PySem.F.slot_tuple_mul ⟨_,ho,hc⟩ PySem.F.entry_tuple_mul (PySem.F.args_tuple_mul_2 _ _) (Mu.mul_tup k t l o its.toArray n hc hd h1 h2 (by rw [yQ,<- hl]; exact hz)) ⟨ho,fun e=>?_,fun e=>?_⟩⟩)
 ·have:xs=[]:=List.eq_nil_of_length_eq_zero (by rw [hl]; simpa using e)
  exact ⟨.ref l,H,I,rfl,q1 this⟩
 ·have hne:xs≠[]:=fun z=>by
   rw [z] at hl
   have:its=[]:=List.eq_nil_of_length_eq_zero hl.symm
   rw [this] at e
   simp at e
  have e':List.foldl (fun x1 x2=>x1 ++ x2) #[] (List.replicate k its.toArray)=(List.replicate k its).flatten.toArray:=by
   have:=foldl_rep its k []
   rw [List.nil_append] at this; exact this
  rw [e']
  have hlen:(List.replicate k xs).flatten.length<=sizeLine:=by
   rw [len_rep,Nat.mul_comm]
   have b:10000<sizeLine:=by decide
   omega
  refine ⟨.ref _,upd H s.heap.objs.size (.tup (List.replicate k xs).flatten),I.laid (t':=s.toks) (fun _ _ q=>yC _ q) (yJ _) ⟨hlen,(List.replicate k its).flatten,r.rep k,⟨_,yI _ rfl,rfl,_,rfl⟩⟩,rfl,q2 hne _ I.fresh⟩
end
end L2
namespace PL
open PySem L2
section
def zfK:R2':=fun x y Q=>∃ (ds:List D) (k:Nat),x=.tup ds/\y=.int k/\2<=k/\k<=100/\ds.length * k<=10000/\Q (.tup (List.replicate k ds).flatten)
def zo3:Op2 X (binaryOp .Mult) zfK:=⟨_,zm7,by
 rintro Hi H x y dx dy Q Q2 s d1 d2 ⟨ds,k,rfl,rfl,h1,h2,h3,q⟩ fin
 obtain ⟨a,vs,rfl,ha,dl⟩:=d1.tupJ; have hl:=zm dl
 refine ⟨a,k,vs,rfl,d2.intI,s.sub _ _ ha,h1,h2,by rw [hl]; exact h3,fun e=>?_,fun _ p hp=>?_⟩
 ·have:ds=[]:=List.eq_nil_of_length_eq_zero (by rw [<- hl,e]; rfl)
  subst this; refine fin Hi H _ (.tup []) (Ext.refl s) d1 ?_
  simpa using q
 ·have e:=Ext.new s hp (.tup (List.replicate k vs).flatten)
  exact fin _ _ _ _ e (Den.mkT zo (ziH (dl.mono e.hi) k)) q⟩
instance:MR2 zfK:=⟨fun _ _ _ _ h ⟨ds,k,a,b,c,d,e,q⟩=>⟨ds,k,a,b,c,d,e,h _ q⟩⟩
end
section
variable {Q:D->Prop}
def zkt:R2':=fun x y Q=>rI' zjW (fun i j=>.int (i * j)) x y Q\/zfK x y Q
def zhg:Op2 X (binaryOp .Mult) zkt:=zra.or zo3
instance:MR2 zkt:=⟨fun _ _ _ _ h q=>q.imp (MR2.mono (r:=rI' zjW fun i j=>.int (i * j)) _ _ _ _ h) (MR2.mono (r:=zfK) _ _ _ _ h)⟩
@[simp] theorem zoo (i j:Int):zkt (.int i) (.int j) Q↔zjW i j/\Q (.int (i * j)):=by simp [zkt,zfK]
def ziO:RC':=fun ds Q=>∃ b:Bool,ds=[.bl b]/\Q (.int (if b then 1 else 0))
def zpB:Cal X (.type "int") ziO:=⟨_,zjL,by
 rintro Hi H vs ds Q Q2 s dl ⟨b,rfl,q⟩ fin
 obtain ⟨v,rfl,den⟩:=zde dl
 exact .inr ⟨b,by rw [den.blI],fin Hi H _ _ (Ext.refl s) (.int _) q⟩⟩
instance:MRC ziO:=⟨fun _ _ _ h ⟨b,e,q⟩=>⟨b,e,h _ q⟩⟩
instance:MRC ziN:=⟨fun _ _ _ h ⟨l,n,a,b,c,q⟩=>⟨l,n,a,b,c,h _ q⟩⟩
def zku:RC':=fun ds Q=>ziN ds Q\/ziO ds Q
def zpC:Cal X (.type "int") zku:=zrA.or zpB
instance:MRC zku:=⟨fun _ _ _ h q=>q.imp (MRC.mono (r:=ziN) _ _ _ h) (MRC.mono (r:=ziO) _ _ _ h)⟩
@[simp] theorem zp6 (b:Bool):zku [.bl b] Q↔Q (.int (if b then 1 else 0)):=by simp [zku,ziN,ziO]
end
end PL
namespace Zp
open PySem
structure Src (prog:Program) (w:World) (it:Addr) (xs:List Value) (fp:List Addr) (nx:Nat->Heap->Prop):Prop where
 mem:it ∈ fp
 fr:∀ i h h',nx i h->(∀ c ∈ fp,∀ o,h.get? c=some o->h'.get? c=some o)->nx i h'
 at_:∀ i h,nx i h->∃ o,h.get? it=some o/\∀ v,o.data≠.cell v
 item:∀ (A:Around) (s:Shared) (i:Nat) (x:Value) (Q:Value->Shared->Prop) (E:Value->Shared->Prop),nx i s.heap->xs[i]?=some x->(∀ h',nx (i+1) h'->Heap.SameBut it s.heap h'->Q x { s with heap:=h' })->wpAny (model prog w) A (Builtin.SmallTypes.nextOf (.ref it)) Q E s
 stop:∀ (A:Around) (s:Shared) (i:Nat) (Q:Value->Shared->Prop) (E:Value->Shared->Prop),A.handled=none->nx i s.heap->xs[i]?=none ->
  (∀ h' e,Heap.ExtBut it s.heap h'->(∃ o,h'.get? e=some o/\o.cls=.type "StopIteration")->E (.ref e) { s with heap:=h' })->wpAny (model prog w) A (Builtin.SmallTypes.nextOf (.ref it)) Q E s
def zaa {a:Addr} {h h':Heap} (x:Heap.SameBut a h h'):∀ c o,c≠a->h.get? c=some o->h'.get? c=some o:=fun c o n e=>x.extBut _ _ n e
def zkf {prog:Program} {w:World} {it l:Addr} {xs:List Value} (ne:l≠it):Src prog w it xs [it,l] (fun i h=>h.IsListIter it l i/\h.IsList l xs.toArray) where
 mem:=by simp
 fr:=fun i h h' ⟨a,b⟩ k=>⟨a.at fun o e=>k it (by simp) o e,b.at fun o e=>k l (by simp) o e⟩
 at_:=fun i h ⟨⟨o,e,_,d⟩,_⟩=>⟨o,e,fun v z=>by rw [d] at z; cases z⟩
 item:=fun A s i x Q E ⟨a,b⟩ hx q=>wpAny_nextOf_list_item a b (by simpa using hx) fun h' n sb=>q h' ⟨n,b.at fun o e=>zaa sb _ o ne e⟩ sb
 stop:=fun A s i Q E hh ⟨a,b⟩ hx q=>wpAny_nextOf_list_end hh a b (by simpa using hx) q
def ziz {prog:Program} {w:World} {it l:Addr} {xs:List Value} (ne:l≠it):Src prog w it xs [it,l] (fun i h=>h.IsTupleIter it l i/\h.IsTuple l xs.toArray) where
 mem:=by simp
 fr:=fun i h h' ⟨a,⟨ol,e,r⟩⟩ k=>⟨a.at fun o e=>k it (by simp) o e,⟨ol,k l (by simp) ol e,r⟩⟩
 at_:=fun i h ⟨⟨o,e,_,d⟩,_⟩=>⟨o,e,fun v z=>by rw [d] at z; cases z⟩
 item:=by
  intro A s i x Q E ⟨a,b⟩ hx q
  obtain ⟨oi,gi,ci,di⟩:=id a; obtain ⟨ot,gt,ct,nt,dt⟩:=id b; unfold Builtin.SmallTypes.nextOf; refine yA (wpAny_callSpecial?_slot (name:=Str.ofString "__next__") a.typeIs YZ (YD YZ a.typeIs PySem.F.entry_tuple_iterator_next ?_ (PySem.F.args_tuple_iterator_next_1 _)))
  show wpAny _ _ (field (.ref it) 0 >>= _) _ _ _
  refine yA (yf gi di (x:=.ref l) rfl ?_)
  show wpAny _ _ (if (Value.ref l == Value.none)=true then _ else _) _ _ _
  rw [yS (by simp)]
  show wpAny _ _ (field (.ref it) 1 >>= _) _ _ _
  refine yA (yf gi di (x:=.int i 0) rfl ?_)
  show wpAny _ _ (seqItems? (.ref l) >>= _) _ _ _
  refine yA (YX gt dt ?_)
  have hx':xs.toArray[i]?=some x:=by simpa using hx
  simp only [YI,hx']
  refine yA (YW gi di (by simp) (yG ⟨x,rfl,yG (q _ ⟨⟨_,YB _ gi (Obj.isFreed_of_fields (Obj.data_mapFields di _)),(Obj.cls_mapFields ..).trans ci,by rw [Obj.data_mapFields di]; simp [rawInt]⟩,?_⟩ (Heap.SameBut.update ..))⟩))
  exact ⟨ot,(yX _ _ (Ne.symm ne)).trans gt,ct,nt,dt⟩
 stop:=by
  intro A s i Q E hh ⟨a,b⟩ hx q
  obtain ⟨oi,gi,ci,di⟩:=id a; obtain ⟨ot,gt,ct,nt,dt⟩:=id b; unfold Builtin.SmallTypes.nextOf; refine yA (wpAny_callSpecial?_slot (name:=Str.ofString "__next__") a.typeIs YZ (YD YZ a.typeIs PySem.F.entry_tuple_iterator_next ?_ (PySem.F.args_tuple_iterator_next_1 _)))
  show wpAny _ _ (field (.ref it) 0 >>= _) _ _ _
  refine yA (yf gi di (x:=.ref l) rfl ?_)
  show wpAny _ _ (if (Value.ref l == Value.none)=true then _ else _) _ _ _
  rw [yS (by simp)]
  show wpAny _ _ (field (.ref it) 1 >>= _) _ _ _
  refine yA (yf gi di (x:=.int i 0) rfl ?_)
  show wpAny _ _ (seqItems? (.ref l) >>= _) _ _ _
  refine yA (YX gt dt ?_)
  have hx':xs.toArray[i]?=none:=by simpa using hx
  simp only [YI,hx']
  refine yA (wpAny_rule (yA (YW gi di (by simp) ?_)))
  show wpAny _ _ (newExc (.type "StopIteration") [] >>= _) _ _ _
  refine yA ?_; simp only [newExc,newTuple]
  refine yA (yi ?_ (by size_fits))
  refine yA (m:=firstArgMember _ _) (wpAny_of_eq (a:=Value.none) (by first | rfl | (simp only [firstArgMember]; rfl)) ?_)
  refine yi ?_ (by size_fits)
  simp only [raiseNew]; refine yA (wpAny_handled ?_)
  first | rw [show A.in1.handled=none from hh] | rw [hh]
  exact yA (yG (wpAny_throw (q _ _ (((Heap.SameBut.update ..).extBut.push _).push _) ⟨_,yI _ rfl,rfl⟩)))
structure Apart (z TI TO i1 i2:Addr) (f1 f2:List Addr):Prop where
 z1:z ∉ f1
 z2:z ∉ f2
 o1:TO ∉ f1
 o2:TO ∉ f2
 i21:i2 ∉ f1
 i12:i1 ∉ f2
 iz:TI≠z
 oz:TO≠z
 io:TI≠TO
 ii1:TI≠i1
 ii2:TI≠i2
section
variable {z TI TO i1 i2:Addr} {f1 f2:List Addr} {n1 n2:Nat->Heap->Prop} {xs ys:List Value} {k:Nat} {a b x y:Value}
def Src.but {it:Addr} {zs:List Value} {fp:List Addr} {nx:Nat->Heap->Prop} (S:Src prog w it zs fp nx) {i:Nat} {h h':Heap} {c:Addr} (g:nx i h) (sb:Heap.SameBut c h h') (hc:c ∉ fp):nx i h':=S.fr i h h' g fun d hd o e=>zaa sb d o (fun q=>hc (q ▸ hd)) e
def zj7 {Q:Value->Shared->Prop} (S1:Src prog w i1 xs f1 n1) (S2:Src prog w i2 ys f2 n2) (D:Apart z TI TO i1 i2 f1 f2) (wz:IsZip s.heap z TI TO .none) (wI:IsPair s.heap TI (.ref i1) (.ref i2)) (wO:IsPair s.heap TO a b) (g1:n1 k s.heap) (g2:n2 k s.heap) (hx:xs[k]?=some x) (hy:ys[k]?=some y)
  (q:∀ h',IsZip h' z TI TO (rawInt s.heap.objs.size)->IsPair h' TO x y->n1 (k+1) h'->n2 (k+1) h'->IsPair h' s.heap.objs.size x y->h'.objs.size=s.heap.objs.size+1->(∀ c o,c≠z->c≠TO->c≠i1->c≠i2->s.heap.get? c=some o->h'.get? c=some o)->Q (.ref s.heap.objs.size) { s with heap:=h' }) :
  wpAny (model prog w) A (Builtin.«zip.__next__» ⟨[.ref z],[]⟩) (fun fin s'=>∃ v,fin=.done (.ret v)/\Q v s') E s:=by
 have ne1:i1≠z:=fun e=>D.z1 (e ▸ S1.mem)
 have ne2:i2≠z:=fun e=>D.z2 (e ▸ S2.mem)
 have no1:i1≠TO:=fun e=>D.o1 (e ▸ S1.mem)
 have no2:i2≠TO:=fun e=>D.o2 (e ▸ S2.mem)
 show wpAny _ _ (field (.ref z) 2 >>= _) _ _ _
 refine yA (yf wz rfl (x:=.bool false) rfl ?_)
 show wpAny _ _ (field (.ref z) 3 >>= _) _ _ _
 refine yA (yf wz rfl (x:=.ref TI) rfl ?_); refine yA (YX wI rfl ?_)
 show wpAny _ _ (Builtin.SmallTypes.ownedTupleIsFree (.ref z) >>= _) _ _ _
 refine yA ?_; unfold Builtin.SmallTypes.ownedTupleIsFree; refine yA (yf wz rfl (x:=.none) rfl (yG ?_)); simp only [if_true]; refine yA (wpAny_rule ?_); refine yA (yf wz rfl (x:=.ref TO) rfl ?_)
 refine yA (Yh wz (by simp) fun ha za sa=>?_)
 have za:IsZip ha z TI TO .ellipsis:=za
 refine yA ?_; simp only [List.zipIdx_cons,List.zipIdx_nil,List.forIn_cons,List.forIn_nil]; refine yA (yA (wpAny_onRaise ?_))
 show wpAny _ _ (Builtin.SmallTypes.nextOf (.ref i1) >>= _) _ _ _
 refine yA (S1.item _ { s with heap:=ha } k x _ _ (S1.but g1 sa D.z1) hx fun hb g1b sb=>yG ?_)
 have ob:IsPair hb TO a b:=zaa sb _ _ (Ne.symm no1) (zaa sa _ _ D.oz wO)
 refine yA (YX ob rfl ?_)
 refine yA (wpAny_updateSeq_pair ob fun hc oc sc=>?_)
 have oc:IsPair hc TO x b:=oc
 refine yA (wpAny_letGo (yG ?_)); refine yA (yA (wpAny_onRaise ?_))
 show wpAny _ _ (Builtin.SmallTypes.nextOf (.ref i2) >>= _) _ _ _
 refine yA (S2.item _ { s with heap:=hc } k y _ _ (S2.but (S2.but (S2.but g2 sa D.z2) sb D.i12) sc D.o2) hy fun hd g2d sd=>yG ?_)
 have od:IsPair hd TO x b:=zaa sd _ _ (Ne.symm no2) oc
 refine yA (YX od rfl ?_)
 refine yA (wpAny_updateSeq_pair od fun he oe se=>?_)
 have oe:IsPair he TO x y:=oe
 refine yA (wpAny_letGo (yG (yG ?_))); refine yA (YX oe rfl ?_); refine yA (wpAny_newTuple ?_)
 have hsz:he.objs.size=s.heap.objs.size:=by rw [se.1,sd.1,sc.1,sb.1,sa.1]
 have ze:IsZip he z TI TO .ellipsis:=zaa se _ _ (Ne.symm D.oz) (zaa sd _ _ (Ne.symm ne2) (zaa sc _ _ (Ne.symm D.oz) (zaa sb _ _ (Ne.symm ne1) za)))
 have hk:∀ c o,c≠z->c≠TO->c≠i1->c≠i2->s.heap.get? c=some o->he.get? c=some o:=fun c o c1 c2 c3 c4 e=>zaa se _ _ c2 (zaa sd _ _ c4 (zaa sc _ _ c2 (zaa sb _ _ c3 (zaa sa _ _ c1 e))))
 have g1e:n1 (k+1) he:=S1.but (S1.but (S1.but g1b sc D.o1) sd D.i21) se D.o1
 have g2e:n2 (k+1) he:=S2.but g2d se D.o2
 have zlt:z<he.objs.size:=yH ze
 show wpAny _ _ (Builtin.SmallTypes.ownedTupleHandOut (.ref z) (.ref he.objs.size) >>= _) _ _ _
 refine yA ?_; unfold Builtin.SmallTypes.ownedTupleHandOut
 have zf:IsZip (he.push { cls:=.type "tuple",data:=.seq #[x,y] }) z TI TO .ellipsis:=yC _ ze
 refine yA (Yh zf (by simp) fun hg zg sg=>?_)
 have zg:IsZip hg z TI TO (rawInt he.objs.size):=zg
 refine Yh zg (by simp) fun hh zh sh=>?_
 have zh:IsZip hh z TI TO (rawInt he.objs.size):=zh
 have up:∀ c o,c≠z->he.get? c=some o->hh.get? c=some o:=fun c o c1 e=>zaa sh _ _ c1 (zaa sg _ _ c1 (yC _ e))
 have tp:IsPair hh he.objs.size x y:=zaa sh _ _ (Nat.ne_of_gt zlt) (zaa sg _ _ (Nat.ne_of_gt zlt) (yI _ rfl))
 have hs8:hh.objs.size=he.objs.size+1:=by rw [sh.1,sg.1,YJ]
 rw [hsz] at zh tp hs8; refine yG ⟨_,rfl,?_⟩
 show Q (.ref he.objs.size) _
 rw [hsz]
 exact q hh zh (up _ _ D.oz oe) (S1.fr _ he hh g1e fun c hc o e=>up c o (fun z'=>D.z1 (z' ▸ hc)) e) (S2.fr _ he hh g2e fun c hc o e=>up c o (fun z'=>D.z2 (z' ▸ hc)) e) tp hs8 fun c o c1 c2 c3 c4 e=>up c o c1 (hk c o c1 c2 c3 c4 e)
def zj6 {Q:PySem.Fin->Shared->Prop} (hh:A.handled=none) (S1:Src prog w i1 xs f1 n1) (S2:Src prog w i2 ys f2 n2) (D:Apart z TI TO i1 i2 f1 f2) (wz:IsZip s.heap z TI TO .none) (wI:IsPair s.heap TI (.ref i1) (.ref i2)) (wO:IsPair s.heap TO a b) (g1:n1 k s.heap) (g2:n2 k s.heap) (hend:xs[k]?=none\/ys[k]?=none)
  (q:∀ h' e,(∀ c o,c≠z->c≠TO->c≠i1->c≠i2->s.heap.get? c=some o->h'.get? c=some o)->(∃ o,h'.get? e=some o/\o.cls=.type "StopIteration")->E (.ref e) { s with heap:=h' }) :
  wpAny (model prog w) A (Builtin.«zip.__next__» ⟨[.ref z],[]⟩) Q E s:=by
 have ne1:i1≠z:=fun e=>D.z1 (e ▸ S1.mem)
 have ne2:i2≠z:=fun e=>D.z2 (e ▸ S2.mem)
 have no1:i1≠TO:=fun e=>D.o1 (e ▸ S1.mem)
 show wpAny _ _ (field (.ref z) 2 >>= _) _ _ _
 refine yA (yf wz rfl (x:=.bool false) rfl ?_)
 show wpAny _ _ (field (.ref z) 3 >>= _) _ _ _
 refine yA (yf wz rfl (x:=.ref TI) rfl ?_); refine yA (YX wI rfl ?_)
 show wpAny _ _ (Builtin.SmallTypes.ownedTupleIsFree (.ref z) >>= _) _ _ _
 refine yA ?_; unfold Builtin.SmallTypes.ownedTupleIsFree; refine yA (yf wz rfl (x:=.none) rfl (yG ?_)); simp only [if_true]; refine yA (wpAny_rule ?_); refine yA (yf wz rfl (x:=.ref TO) rfl ?_)
 refine yA (Yh wz (by simp) fun ha za sa=>?_)
 have za:IsZip ha z TI TO .ellipsis:=za
 refine yA ?_; simp only [List.zipIdx_cons,List.zipIdx_nil,List.forIn_cons,List.forIn_nil]; refine yA (yA (wpAny_onRaise ?_))
 show wpAny _ _ (Builtin.SmallTypes.nextOf (.ref i1) >>= _) _ _ _
 cases hx:xs[k]? with
 | none =>
  refine yA (S1.stop _ { s with heap:=ha } k _ _ hh (S1.but g1 sa D.z1) hx fun hb e sb st=>?_)
  obtain ⟨ox,gx,cx⟩:=st
  have zb:IsZip hb z TI TO .ellipsis:=sb _ _ (Ne.symm ne1) za
  have ez:e≠z:=fun c=>by subst c; rw [zb] at gx; cases gx; simp at cx
  exact Yh zb (by simp) fun hc _ sc=>q hc e (fun c o c1 _ c3 _ v=>zaa sc _ _ c1 (sb _ _ c3 (zaa sa _ _ c1 v))) ⟨ox,zaa sc _ _ ez gx,cx⟩
 | some x =>
  have hy:ys[k]?=none:=by rcases hend with h | h; rw [hx] at h; cases h; exact h
  refine yA (S1.item _ { s with heap:=ha } k x _ _ (S1.but g1 sa D.z1) hx fun hb g1b sb=>yG ?_)
  have ob:IsPair hb TO a b:=zaa sb _ _ (Ne.symm no1) (zaa sa _ _ D.oz wO)
  refine yA (YX ob rfl ?_)
  refine yA (wpAny_updateSeq_pair ob fun hc oc sc=>?_)
  refine yA (wpAny_letGo (yG ?_)); refine yA (yA (wpAny_onRaise ?_))
  show wpAny _ _ (Builtin.SmallTypes.nextOf (.ref i2) >>= _) _ _ _
  refine yA (S2.stop _ { s with heap:=hc } k _ _ hh (S2.but (S2.but (S2.but g2 sa D.z2) sb D.i12) sc D.o2) hy fun hd e sd st=>?_)
  obtain ⟨ox,gx,cx⟩:=st
  have zd:IsZip hd z TI TO .ellipsis:=sd _ _ (Ne.symm ne2) (zaa sc _ _ (Ne.symm D.oz) (zaa sb _ _ (Ne.symm ne1) za))
  have ez:e≠z:=fun c=>by subst c; rw [zd] at gx; cases gx; simp at cx
  exact Yh zd (by simp) fun he _ se=>q he e (fun c o c1 c2 c3 c4 v=>zaa se _ _ c1 (sd _ _ c4 (zaa sc _ _ c2 (zaa sb _ _ c3 (zaa sa _ _ c1 v))))) ⟨ox,zaa se _ _ ez gx,cx⟩
def zje {Q:Option Value->Shared->Prop} (S1:Src prog w i1 xs f1 n1) (S2:Src prog w i2 ys f2 n2) (D:Apart z TI TO i1 i2 f1 f2) (wz:IsZip s.heap z TI TO .none) (wI:IsPair s.heap TI (.ref i1) (.ref i2)) (wO:IsPair s.heap TO a b) (g1:n1 k s.heap) (g2:n2 k s.heap) (hx:xs[k]?=some x) (hy:ys[k]?=some y)
  (q:∀ h',IsZip h' z TI TO (rawInt s.heap.objs.size)->IsPair h' TO x y->n1 (k+1) h'->n2 (k+1) h'->IsPair h' s.heap.objs.size x y->h'.objs.size=s.heap.objs.size+1->(∀ c o,c≠z->c≠TO->c≠i1->c≠i2->s.heap.get? c=some o->h'.get? c=some o)->Q (some (.ref s.heap.objs.size)) { s with heap:=h' }) :
  wpAny (model prog w) A (pyNext (.ref z)) Q E s:=by
 have ty:s.TypeIs (.ref z) "zip":=⟨_,wz,rfl⟩
 unfold pyNext
 exact yA (wpAny_attempt (wpAny_callSpecial?_slot (name:=Str.ofString "__next__") ty PySem.F.slot_zip_next (YD PySem.F.slot_zip_next ty PySem.F.entry_zip_next (zj7 S1 S2 D wz wI wO g1 g2 hx hy fun h' c1 c2 c3 c4 c5 c6 c7=>yG (q h' c1 c2 c3 c4 c5 c6 c7)) (PySem.F.args_zip_next_1 _))))
def zjd {Q:Option Value->Shared->Prop} (hh:A.handled=none) (S1:Src prog w i1 xs f1 n1) (S2:Src prog w i2 ys f2 n2) (D:Apart z TI TO i1 i2 f1 f2) (wz:IsZip s.heap z TI TO .none) (wI:IsPair s.heap TI (.ref i1) (.ref i2)) (wO:IsPair s.heap TO a b) (g1:n1 k s.heap) (g2:n2 k s.heap) (hend:xs[k]?=none\/ys[k]?=none)
  (q:∀ h',(∀ c o,c≠z->c≠TO->c≠i1->c≠i2->s.heap.get? c=some o->h'.get? c=some o)->Q none { s with heap:=h' }):wpAny (model prog w) A (pyNext (.ref z)) Q E s:=by
 have ty:s.TypeIs (.ref z) "zip":=⟨_,wz,rfl⟩
 unfold pyNext
 refine yA (wpAny_attempt (wpAny_callSpecial?_slot (name:=Str.ofString "__next__") ty PySem.F.slot_zip_next (YD PySem.F.slot_zip_next ty PySem.F.entry_zip_next (zj6 hh S1 S2 D wz wI wO g1 g2 hend fun h' e ke st=>?_) (PySem.F.args_zip_next_1 _))))
 obtain ⟨ox,gx,cx⟩:=st; exact yA (wpAny_isInstance (T:="StopIteration") (b:=true) ⟨ox,gx,cx⟩ isSubtype_stop (yG (q _ ke)))
end
abbrev tIt (l:Addr):Obj:={ cls:=.type "tuple_iterator",data:=.fields #[.ref l,.int 0 0] }
abbrev zt1 (h:Heap) (l1:Addr):Heap:=h.push (tIt l1)
abbrev zt2 (h:Heap) (l1 l2:Addr):Heap:=(zt1 h l1).push (tIt l2)
abbrev zt3 (h:Heap) (l1 l2:Addr):Heap:=(zt2 h l1 l2).push { cls:=.type "tuple",data:=.seq #[.ref h.objs.size,.ref (zt1 h l1).objs.size] }
abbrev zt4 (h:Heap) (l1 l2:Addr):Heap:=(zt3 h l1 l2).push { cls:=.type "tuple",data:=.seq #[.none,.none] }
abbrev zt5 (h:Heap) (l1 l2:Addr):Heap:=(zt4 h l1 l2).push { cls:=.type "zip",data:=.fields #[.none,.bool false,.bool false,.ref (zt2 h l1 l2).objs.size,.ref (zt3 h l1 l2).objs.size] }
def zpb (l1 l2:Addr) (us vs:Array Value):Meets (Builtin.«zip.__new__» ⟨[.type "zip",.ref l1,.ref l2],[]⟩) (fun _ R s=>s.heap.IsTuple l1 us/\s.heap.IsTuple l2 vs/\R (.ok (.ret (.ref (zt4 s.heap l1 l2).objs.size))) { s with heap:=zt5 s.heap l1 l2 }) :=
 .of_wp fun prog w A R s h=>by
  obtain ⟨hp,g,d,tk,os⟩:=s; obtain ⟨t1,t2,h⟩:=h; have sb:=sub_zip
  have T1:Heap.IsTuple (Shared.heap ⟨hp,g,d,tk,os⟩) l1 us:=t1
  have T2:Heap.IsTuple (Shared.heap ⟨hp.push (tIt l1),g,d,tk,os⟩) l2 vs:=Heap.IsTuple.push t2 _
  wp_walk using wpAny_pyIter_tuple T1,wpAny_pyIter_tuple T2
  exact ⟨_,rfl,h⟩
section
def znJ {l1 l2:Addr} {us vs:Array Value} {Q:Value->Shared->Prop} (t1:s.heap.IsTuple l1 us) (t2:s.heap.IsTuple l2 vs)
  (q:∀ h',IsZip h' (s.heap.objs.size+4) (s.heap.objs.size+2) (s.heap.objs.size+3) .none->IsPair h' (s.heap.objs.size+2) (.ref s.heap.objs.size) (.ref (s.heap.objs.size+1))->IsPair h' (s.heap.objs.size+3) .none .none ->
   h'.IsTupleIter s.heap.objs.size l1 0->h'.IsTupleIter (s.heap.objs.size+1) l2 0->(∀ c o,s.heap.get? c=some o->h'.get? c=some o)->Q (.ref (s.heap.objs.size+4)) { s with heap:=h' }) :
  wpAny (model prog w) A (call (.type "zip") [.ref l1,.ref l2]) Q E s:=by
 refine callType_new PySem.F.called_zip (by decide) (PySem.F.typeCall_zip_2 _ _) (PySem.F.newCall_zip_2 _ _) (fun obj=>PySem.F.args_object_init_3 obj _ _) PySem.F.entry_zip_new (zpb l1 l2 us vs) ⟨t1,t2,?_⟩
 have s1:(zt1 s.heap l1).objs.size=s.heap.objs.size+1:=YJ ..
 have s2:(zt2 s.heap l1 l2).objs.size=s.heap.objs.size+2:=by rw [YJ,s1]
 have s3:(zt3 s.heap l1 l2).objs.size=s.heap.objs.size+3:=by rw [YJ,s2]
 have s4:(zt4 s.heap l1 l2).objs.size=s.heap.objs.size+4:=by rw [YJ,s3]
 have e5:(zt5 s.heap l1 l2).get? (zt4 s.heap l1 l2).objs.size=some _:=yI _ rfl
 have e4:(zt5 s.heap l1 l2).get? (zt3 s.heap l1 l2).objs.size=some _:=yC _ (yI _ rfl)
 have e3:(zt5 s.heap l1 l2).get? (zt2 s.heap l1 l2).objs.size=some _:=yC _ (yC _ (yI _ rfl))
 have e2:(zt5 s.heap l1 l2).get? (zt1 s.heap l1).objs.size=some _:=yC _ (yC _ (yC _ (yI _ rfl)))
 have e1:(zt5 s.heap l1 l2).get? s.heap.objs.size=some _:=yC _ (yC _ (yC _ (yC _ (yI _ rfl))))
 show _/\_
 rw [s2,s3,s4] at e5; rw [s1,s2] at e3; rw [s3] at e4; rw [s1] at e2; rw [s4]
 exact ⟨⟨_,e5,rfl⟩,q _ e5 e3 e4 ⟨_,e1,rfl,rfl⟩ ⟨_,e2,rfl,rfl⟩ fun c o v=>yC _ (yC _ (yC _ (yC _ (yC _ v))))⟩
end
end Zp
namespace L2
open PySem PySem.Spec PyProof.Rows
section
variable {h':Heap}
def Inv.turnedNew {t':Nat} {ch:List Addr} {p:Addr} {o:HO} (I:Inv X pins σ H s) (hch:∀ b ∈ ch,zdf X pins H b) (k:∀ b u,b ∉ ch->s.heap.get? b=some u->h'.get? b=some u) (hp:s.heap.objs.size<=p) (new:zbr X.prog X.w (upd H p o) h' p o) :
  Inv X pins σ (upd H p o) { s with heap:=h',toks:=t' }:=by
 have fr:H p=none:=I.hok.fresh hp
 have sm:∀ b u,H b=some u->upd H p o b=some u:=fun b u e=>by rw [zp (zag e fr)]; exact e
 have nch:∀ b u,H b=some u->b ∉ ch:=fun b u e z=>by rw [(hch b z).1] at e; cases e
 refine I.step (g':=s.gens) (d':=s.drawn) (ch:=ch) (fun b hb=>?_) (fun b u _ _ hc e _=>k b u hc e) (fun b u _ _ hc e _=>⟨u.slots,k b u hc e⟩) (fun b u hc e n=>?_) (fun b u hc e=>⟨u,k b u hc e⟩) (fun b xs e=>sm _ _ e) (fun b ob u e=>sm _ _ e) (fun b ps e=>⟨#[],by rw [sm _ _ e]; simp⟩) (fun m hm=>?_) (fun b u e=>?_) I.bare
 ·obtain ⟨_,y1,_,y3,y4,y5⟩:=hch b hb
  exact ⟨y3,y1,y4,y5⟩
 ·rw [zp (yP (yM (yH e) hp))]
  exact n
 ·obtain ⟨ob,es,ep,ho,r⟩:=hm
  exact ⟨ob,es,ep,k _ ob (fun z=>(hch _ z).2.1 rfl) ho,r⟩
 ·by_cases z:b=p
  ·subst z
   rw [zo] at e; cases e; exact new
  ·rw [zp z] at e
   refine (I.hok b u e).stay (fun c v hc q=>k c v ?_ q) (fun c q=>sm _ _ q) fun c xs q=>sm _ _ q
   rcases hc with rfl | hc
   ·exact nch _ u e
   ·exact nch c _ hc
def Inv.turnedL {t':Nat} {ch:List Addr} (I:Inv X pins σ H s) (hch:∀ b ∈ ch,zdf X pins H b) (k:∀ b u,b ∉ ch->s.heap.get? b=some u->h'.get? b=some u):Inv X pins σ H { s with heap:=h',toks:=t' }:=by
 have nch:∀ b u,H b=some u->b ∉ ch:=fun b u e z=>by rw [(hch b z).1] at e; cases e
 refine I.step (g':=s.gens) (d':=s.drawn) (ch:=ch) (fun b hb=>?_) (fun b u _ _ hc e _=>k b u hc e) (fun b u _ _ hc e _=>⟨u.slots,k b u hc e⟩) (fun b u hc e n=>n) (fun b u hc e=>⟨u,k b u hc e⟩) (fun b xs e=>e) (fun b ob u e=>e) (fun b ps e=>⟨#[],by rw [e]; simp⟩) (fun m hm=>?_) (fun b u e=>?_) I.bare
 ·obtain ⟨_,y1,_,y3,y4,y5⟩:=hch b hb
  exact ⟨y3,y1,y4,y5⟩
 ·obtain ⟨ob,es,ep,ho,r⟩:=hm
  exact ⟨ob,es,ep,k _ ob (fun z=>(hch _ z).2.1 rfl) ho,r⟩
 ·refine (I.hok b u e).stay (fun c v hc q=>k c v ?_ q) (fun c q=>q) fun c xs q=>q
  rcases hc with rfl | hc
  ·exact nch _ u e
  ·exact nch c _ hc
end
end L2
namespace L2
open PySem PySem.Spec PyProof.Rows Zp
def SqB (lb:Bool) (K:W.Frag) (H:Hp) (a:Addr) (xs:List V):Prop:=match lb with | true=>SqL K H a xs | false=>SqT K H a xs
def ItB (lb:Bool) (h:Heap) (it l:Addr) (i:Nat):Prop:=match lb with | true=>h.IsListIter it l i | false=>h.IsTupleIter it l i
def LsB (lb:Bool) (h:Heap) (l:Addr) (its:List Value):Prop:=match lb with | true=>h.IsList l its.toArray | false=>h.IsTuple l its.toArray
def zpM {prog:Program} {w:World} {it l:Addr} {its:List Value} (lb:Bool) (ne:l≠it):Src prog w it its [it,l] (fun i h=>ItB lb h it l i/\LsB lb h l its):=by
 cases lb with
 | true=>exact zkf ne
 | false=>exact ziz ne
def ItB.at {lb:Bool} {h h':Heap} {it l:Addr} {i:Nat} (x:ItB lb h it l i) (k:∀ o,h.get? it=some o->h'.get? it=some o):ItB lb h' it l i:=by
 cases lb with
 | true=>exact Heap.IsListIter.at x k
 | false=>exact Heap.IsTupleIter.at x k
def ItB.obj {lb:Bool} {h:Heap} {it l:Addr} {i:Nat} (x:ItB lb h it l i):∃ o,h.get? it=some o/\∀ v,o.data≠.cell v:=by
 cases lb with
 | true=>obtain ⟨o,e,_,d⟩:=x; exact ⟨o,e,fun v z=>by rw [d] at z; cases z⟩
 | false=>obtain ⟨o,e,_,d⟩:=x; exact ⟨o,e,fun v z=>by rw [d] at z; cases z⟩
section
variable {a b:Addr} {xs ys:List V} {lb:Bool}
def ziI {u:HO} (h:Rd H a u):∃ o,H a=some o:=by
 rcases h with h | ⟨o,h⟩
 ·exact ⟨_,h⟩
 ·exact ⟨_,h⟩
def zjM (I:Inv X pins σ H s) {o:Obj} (e:X.K.lookup a=some o) (f:zdf X pins H b):a≠b:=by
 have g:=I.ok.mod.kin _ _ e; obtain ⟨_,_,_,f3,_⟩:=f
 rintro rfl
 rcases f3 with z | z
 ·exact I.ok.noex _ _ g z
 ·exact yU (yM (yH g) (yj I.ok.bsz z)) (YR _)
def zkg (I:Inv X pins σ H s) (h:SqB lb X.K H a xs) (f:zdf X pins H b):a≠b:=by
 have tr:∀ o,H a=some o->a≠b:=fun o e z=>by rw [z,f.1] at e; cases e
 cases lb with
 | true =>
  rcases h with h | ⟨o,its,n,hk,_⟩
  ·obtain ⟨o,e⟩:=ziI h; exact tr o e
  ·exact zjM I hk f
 | false =>
  rcases h with h | ⟨o,its,n,hk,_⟩
  ·obtain ⟨o,e⟩:=ziI h; exact tr o e
  ·exact zjM I hk f
def zhH (I:Inv X pins σ H s) (h:SqB lb X.K H a xs):∃ its:List Value,za4 xs its/\LsB lb s.heap a its:=by
 cases lb with
 | true =>
  obtain ⟨its,r,p,_⟩:=I.list h; exact ⟨its,r,p.isList⟩
 | false =>
  obtain ⟨its,r,p,_⟩:=I.tuple h; exact ⟨its,r,p⟩
def zlE (I:Inv X pins σ H s) (h:SqB lb X.K H a xs) (h':SqB lb X.K H a ys):ys=xs:=by
 cases lb with
 | true=>exact I.list_inj h' h
 | false=>exact I.tuple_inj h' h
end
def Itz (lb:Bool) (K:W.Frag) (a b:Addr):It :=
  ⟨fun i H=>∃ xs ys x y,SqB lb K H a xs/\SqB lb K H b ys/\xs[i]?=some x/\ys[i]?=some y,
   fun i H v H'=>∃ p x y,H p=none/\v=.ref p/\H'=upd H p (.tup [x,y])/\(∀ xs,SqB lb K H a xs->xs[i]?=some x)/\∀ ys,SqB lb K H b ys->ys[i]?=some y,
   fun i H=>∃ xs ys,SqB lb K H a xs/\SqB lb K H b ys/\(xs.length<=i\/ys.length<=i)⟩
structure Ap5 (z TI TO i1 i2:Addr):Prop where
 iz:TI≠z
 oz:TO≠z
 io:TI≠TO
 ii1:TI≠i1
 ii2:TI≠i2
 z1:z≠i1
 z2:z≠i2
 o1:TO≠i1
 o2:TO≠i2
 i12:i1≠i2
def zkd {P:Program} {w:World} {K:W.Frag} {elts:List Expr} {c:Nat} {pos:Pos} (lb:Bool) (a b z TI TO i1 i2:Addr) (D:Ap5 z TI TO i1 i2):Turn P w K (.Tuple elts c pos) (Itz lb K a b) [z,TI,TO,i1,i2] z
  (fun i h=>IsZip h z TI TO .none/\IsPair h TI (.ref i1) (.ref i2)/\(∃ u v,IsPair h TO u v)/\ItB lb h i1 a i/\ItB lb h i2 b i) where
 mem:=by simp
 obj:=by
  rintro i h ⟨wz,wI,⟨u,v,wO⟩,g1,g2⟩ d hd
  simp only [yO,ya,or_false] at hd
  rcases hd with rfl | rfl | rfl | rfl | rfl
  ·exact ⟨_,wz,fun v z=>by cases z⟩
  ·exact ⟨_,wI,fun v z=>by cases z⟩
  ·exact ⟨_,wO,fun v z=>by cases z⟩
  ·exact g1.obj
  ·exact g2.obj
 keep:=by
  rintro i h h' ⟨wz,wI,⟨u,v,wO⟩,g1,g2⟩ k
  exact ⟨k z (by simp) _ wz,k TI (by simp) _ wI,⟨u,v,k TO (by simp) _ wO⟩,g1.at fun o e=>k i1 (by simp) o e,g2.at fun o e=>k i2 (by simp) o e⟩
 item:=by
  intro X hP hw hK hc i pins s σ H E I hf st hg
  subst hP hw hK
  obtain ⟨wz,wI,⟨u,v,wO⟩,g1,g2⟩:=st
  obtain ⟨xs,ys,x,y,sx,sy,hx,hy⟩:=hg; obtain ⟨us,rx,lx⟩:=zhH I sx; obtain ⟨vs,ry,ly⟩:=zhH I sy; obtain ⟨ux,hux,rux⟩:=rx.get hx; obtain ⟨vy,hvy,rvy⟩:=ry.get hy
  have ne:∀ d,d ∈ [z,TI,TO,i1,i2]->a≠d/\b≠d:=fun d hd=>⟨zkg I sx (hf d hd),zkg I sy (hf d hd)⟩
  have A0:Apart z TI TO i1 i2 [i1,a] [i2,b]:=by
   have nz:=ne z (by simp)
   have no:=ne TO (by simp)
   have n1:=ne i1 (by simp)
   have n2:=ne i2 (by simp)
   refine ⟨?_,?_,?_,?_,?_,?_,D.iz,D.oz,D.io,D.ii1,D.ii2⟩ <;> simp only [yO,ya,or_false,not_or]
   ·exact ⟨D.z1,Ne.symm nz.1⟩
   ·exact ⟨D.z2,Ne.symm nz.2⟩
   ·exact ⟨D.o1,Ne.symm no.1⟩
   ·exact ⟨D.o2,Ne.symm no.2⟩
   ·exact ⟨Ne.symm D.i12,Ne.symm n2.1⟩
   ·exact ⟨D.i12,Ne.symm n1.2⟩
  refine zje (zpM lb (ne i1 (by simp)).1) (zpM lb (ne i2 (by simp)).2) A0 wz wI wO ⟨g1,lx⟩ ⟨g2,ly⟩ hux hvy fun h' c1 c2 c3 c4 c5 c6 c7=>⟨_,rfl,?_⟩
  refine wpAny_letOwnedTupleGo_zip (s:={ s with heap:=h' }) c1 fun h2 e1 e2=>?_
  have ext:=zaa e2
  have pz:s.heap.objs.size≠z:=Nat.ne_of_gt (yH wz)
  have kk:∀ d o,d ∉ [z,TO,i1,i2]->s.heap.get? d=some o->h2.get? d=some o:=fun d o hd e=>by
   simp only [yO,ya,or_false,not_or] at hd; exact ext d o hd.1 (c7 d o hd.1 hd.2.1 hd.2.2.1 hd.2.2.2 e)
  have fr:H s.heap.objs.size=none:=I.hok.fresh (yJ _)
  have tp:IsPair h2 s.heap.objs.size ux vy:=ext _ _ pz c5
  have I2:Inv X pins σ (upd H s.heap.objs.size (.tup [x,y])) { s with heap:=h2 }:=I.turnedNew (t':=s.toks) (ch:=[z,TO,i1,i2]) (fun d hd=>hf d (by simp at hd ⊢; rcases hd with h | h | h | h <;> simp [h])) kk (yJ _)
   ⟨by show 2<=sizeLine; exact Nat.le_of_lt (zbg (by decide)),[ux,vy],.cons rux (.cons rvy .nil),⟨_,tp,rfl,_,rfl⟩⟩
  refine ⟨.ref s.heap.objs.size,_,I2,rfl,⟨_,x,y,fr,rfl,rfl,fun xs' h=>by rw [zlE I sx h]; exact hx,fun ys' h=>by rw [zlE I sy h]; exact hy⟩,⟨e1,?_,⟨_,_,ext _ _ D.oz c2⟩,?_,?_⟩,fun d hd=>?_⟩
  ·exact kk _ _ (by simp [D.iz,D.io,D.ii1,D.ii2]) wI
  ·exact c3.1.at fun o e=>ext _ o (Ne.symm D.z1) e
  ·exact c4.1.at fun o e=>ext _ o (Ne.symm D.z2) e
  ·obtain ⟨od,gd,_⟩:∃ o,s.heap.get? d=some o/\True:=by
    simp only [yO,ya,or_false] at hd
    rcases hd with rfl | rfl | rfl | rfl | rfl
    ·exact ⟨_,wz,trivial⟩
    ·exact ⟨_,wI,trivial⟩
    ·exact ⟨_,wO,trivial⟩
    ·obtain ⟨o,e,_⟩:=g1.obj; exact ⟨o,e,trivial⟩
    ·obtain ⟨o,e,_⟩:=g2.obj; exact ⟨o,e,trivial⟩
   rw [zp (yP (yH gd))]; exact (hf d hd).1
 done:=by
  intro X hP hw hK hc i pins s σ H E I hf st hg
  subst hP hw hK
  obtain ⟨wz,wI,⟨u,v,wO⟩,g1,g2⟩:=st
  obtain ⟨xs,ys,sx,sy,hend⟩:=hg; obtain ⟨us,rx,lx⟩:=zhH I sx; obtain ⟨vs,ry,ly⟩:=zhH I sy
  have ne:∀ d,d ∈ [z,TI,TO,i1,i2]->a≠d/\b≠d:=fun d hd=>⟨zkg I sx (hf d hd),zkg I sy (hf d hd)⟩
  have A0:Apart z TI TO i1 i2 [i1,a] [i2,b]:=by
   have nz:=ne z (by simp)
   have no:=ne TO (by simp)
   have n1:=ne i1 (by simp)
   have n2:=ne i2 (by simp)
   refine ⟨?_,?_,?_,?_,?_,?_,D.iz,D.oz,D.io,D.ii1,D.ii2⟩ <;> simp only [yO,ya,or_false,not_or]
   ·exact ⟨D.z1,Ne.symm nz.1⟩
   ·exact ⟨D.z2,Ne.symm nz.2⟩
   ·exact ⟨D.o1,Ne.symm no.1⟩
   ·exact ⟨D.o2,Ne.symm no.2⟩
   ·exact ⟨Ne.symm D.i12,Ne.symm n2.1⟩
   ·exact ⟨D.i12,Ne.symm n1.2⟩
  have he:us[i]?=none\/vs[i]?=none:=by
   rcases hend with h | h
   ·exact .inl (List.getElem?_eq_none (by rw [<- rx.length]; exact h))
   ·exact .inr (List.getElem?_eq_none (by rw [<- ry.length]; exact h))
  refine zjd (I.ok.hd hc) (zpM lb (ne i1 (by simp)).1) (zpM lb (ne i2 (by simp)).2) A0 wz wI wO ⟨g1,lx⟩ ⟨g2,ly⟩ he fun h' k=>⟨rfl,?_⟩
  refine I.turnedL (t':=s.toks) (ch:=[z,TO,i1,i2]) (fun d hd=>hf d (by simp at hd ⊢; rcases hd with h | h | h | h <;> simp [h])) fun d o hd e=>?_
  simp only [yO,ya,or_false,not_or] at hd; exact k d o hd.1 hd.2.1 hd.2.2.1 hd.2.2.2 e
 self:=fun A i s Q E st q=>wpAny_pyIter_zip st.1 q
def zc3 {a b:Nat} (h:a≠b):(a:Addr)≠(b:Addr):=h
def ap5 (n:Nat):Ap5 (n+4:Nat) (n+2:Nat) (n+3:Nat) n (n+1:Nat):=⟨zc3 (by omega),zc3 (by omega),zc3 (by omega),zc3 (by omega),zc3 (by omega),zc3 (by omega),zc3 (by omega),zc3 (by omega),zc3 (by omega),zc3 (by omega)⟩
def zlr:bootBuiltins "zip"=some (.type "zip"):=by rfl
section
def zsx (K:W.Frag) (ta:TA):TI:=fun σ H R=>ta σ H fun vs H1=>∃ a b xs ys lb,vs=[.ref a,.ref b]/\SqB lb K H1 a xs/\SqB lb K H1 b ys/\R (Itz lb K a b) H1
def zoJ {e1 e2:Expr} {elts:List Expr} {c:Nat} {ta:TA} {p pos tp:Pos} (hg:Gl X "zip") (hm:X.mg "zip"=none) (ha:PA X [e1,e2] ta) (hs:starEach [e1,e2] X.env=(false,eval e1 X.env) :: starEach [e2] X.env:=by rfl) (hpl:(backTo pos (starEach [e2] X.env)).any (·.1)=false:=by rfl) :
  PI X (.Tuple elts c tp) (.Call (.Name "zip" p) [e1,e2] [] pos) (zsx X.K ta):=by
 intro pins s σ H R I h
 refine Call_ (zeT I hg hm zlr (Yl (thn (ha pos pins s σ H _ I h) fun us s1 ⟨vs,H1,I1,r1,q1⟩=>?_) hs hpl))
 obtain ⟨a,b,xs,ys,lb,e,sx,sy,q⟩:=q1; subst e; obtain ⟨u,v,rfl,ru,rv⟩:=zkc r1
 obtain rfl:u=Value.ref a:=ru
 obtain rfl:v=Value.ref b:=rv
 obtain ⟨us,rx,lx⟩:=zhH I1 sx; obtain ⟨vs,ry,ly⟩:=zhH I1 sy
 have fin:∀ h',IsZip h' (s1.heap.objs.size+4) (s1.heap.objs.size+2) (s1.heap.objs.size+3) .none->IsPair h' (s1.heap.objs.size+2) (.ref s1.heap.objs.size) (.ref (s1.heap.objs.size+1))->IsPair h' (s1.heap.objs.size+3) .none .none ->
   ItB lb h' s1.heap.objs.size a 0->ItB lb h' (s1.heap.objs.size+1) b 0->(∀ c o,s1.heap.get? c=some o->h'.get? c=some o) ->
   wpAny (model X.prog X.w) X.A (pyIter (.ref (s1.heap.objs.size+4))) (PIE X pins σ (.Tuple elts c tp) R) X.xe { s1 with heap:=h' }:=by
  intro h' z1 z2 z3 z4 z5 k
  refine wpAny_pyIter_zip (s:={ s1 with heap:=h' }) z1 ?_
  refine ⟨s1.heap.objs.size+4,[s1.heap.objs.size+4,s1.heap.objs.size+2,s1.heap.objs.size+3,s1.heap.objs.size,s1.heap.objs.size+1],_,_,H1,rfl,I1.kept (t':=s1.toks) k,zkd lb a b _ _ _ _ _ (ap5 _),⟨z1,z2,⟨_,_,z3⟩,z4,z5⟩,fun d hd=>?_,q⟩
  have hd':s1.heap.objs.size<=d:=by
   simp only [yO,ya,or_false] at hd
   rcases hd with rfl | rfl | rfl | rfl | rfl <;> omega
  exact I1.fpOk hd' (I1.hok.fresh hd')
 cases lb with
 | true=>exact call_zip_2 lx ly fun h' z1 z2 z3 z4 z5 _ k=>fin h' z1 z2 z3 z4 z5 k
 | false=>exact znJ lx ly fun h' z1 z2 z3 z4 z5 k=>fin h' z1 z2 z3 z4 z5 k
end
end L2
namespace PL
open PySem L2
def zg5 {lb:Bool} {K:W.Frag} {H H':Hp} {a:Addr} {vs:List V} (s:zaR H H') (h:SqB lb K H a vs):SqB lb K H' a vs:=by
 cases lb with
 | true=>exact zab s h
 | false=>exact zaj s h
def zjl {K:W.Frag} {Hi:Hp} {a b:Addr} {us vs:List V} {ds es:List D} {lb:Bool} (h1:SqB lb K Hi a us) (r1:zb4 K Hi us ds) (h2:SqB lb K Hi b vs) (r2:zb4 K Hi vs es):ItD K Hi (Itz lb K a b) ((ds.zip es).map fun p=>.tup [p.1,p.2]):=by
 intro Hi' H' s1 s2
 have q1:SqB lb K H' a us:=zg5 (s1.trans s2.sub) h1
 have q2:SqB lb K H' b vs:=zg5 (s1.trans s2.sub) h2
 refine ⟨fun i d e=>?_,us,vs,q1,q2,?_⟩
 ·rw [yF] at e
  obtain ⟨⟨d1,d2⟩,hz,rfl⟩:=yK.mp e
  obtain ⟨e1,e2⟩:=List.getElem?_zip_eq_some.mp hz; obtain ⟨u,hu,ru⟩:=zaV r1 e1; obtain ⟨v,hv,rv⟩:=zaV r2 e2; refine ⟨⟨us,vs,u,v,q1,q2,hu,hv⟩,?_⟩
  rintro x H'' ⟨p,x1,y1,hp,rfl,rfl,k1,k2⟩
  have ex:x1=u:=by have:=k1 us q1; rw [hu] at this; exact (Option.some.inj this).symm
  have ey:y1=v:=by have:=k2 vs q2; rw [hv] at this; exact (Option.some.inj this).symm
  subst ex ey
  have ex:=Ext.new s2 hp (.tup [x1,y1]); exact ⟨_,ex,Den.mkT zo (.cons (ru.mono (s1.trans ex.hi)) (.cons (rv.mono (s1.trans ex.hi)) .nil))⟩
 ·rw [yE,List.length_zip,zm r1,zm r2]
  omega
section
def zaB (t:TA'):TI':=fun Γ Q=>t Γ fun ds Γ1=>∃ xs ys,(ds=[.tup xs,.tup ys]\/ds=[.lst xs,.lst ys])/\Q ((xs.zip ys).map fun p=>.tup [p.1,p.2]) Γ1
def ziW {e1 e2:Expr} {elts:List Expr} {c:Nat} {t:TA'} {p pos tp:Pos} (hm:X.mg "zip"=none) (ha:PA' X [e1,e2] t) (hg:Gl X "zip":=by rfl):PI' X (.Tuple elts c tp) (.Call (.Name "zip" p) [e1,e2] [] pos) (zaB t):=by
 refine ⟨PI.weak (zoJ hg hm ha.pa (zah (zC ha.pl).1) (zaS (zC ha.pl).2)) ?_⟩
 rintro σ H R ⟨W,Hi,Γ,Q,g,h,fin⟩
 refine ⟨W,Hi,Γ,_,g,h,?_⟩
 rintro vs H1 Hi1 Γ1 ds s1 g1 dl ⟨xs,ys,hd,q⟩
 rcases hd with rfl | rfl
 ·obtain ⟨v,w,rfl,d1,d2⟩:=zlo dl
  obtain ⟨a,us,rfl,h1,r1⟩:=d1.tupI; obtain ⟨b,ws,rfl,h2,r2⟩:=d2.tupI; exact ⟨a,b,us,ws,false,rfl,zaj g1.sub h1,zaj g1.sub h2,fin _ H1 Hi1 Γ1 _ s1 g1 (zjl (lb:=false) h1 r1 h2 r2) q⟩
 ·obtain ⟨v,w,rfl,d1,d2⟩:=zlo dl
  obtain ⟨a,us,rfl,h1,r1⟩:=d1.lstI; obtain ⟨b,ws,rfl,h2,r2⟩:=d2.lstI; exact ⟨a,b,us,ws,true,rfl,zab g1.sub h1,zab g1.sub h2,fin _ H1 Hi1 Γ1 _ s1 g1 (zjl (lb:=true) h1 r1 h2 r2) q⟩
end
end PL
namespace Lb
def zfA:List Nat:=[97,98,99,100,101,102,103,104,105,106,107,108,109,110,111,112,113,114,115,116,117,118,119,120,121,122]
def sml (c:Nat):Bool:=decide (c ∈ zfA)
def cut (l:List Nat):List Nat:=(l.reverse.dropWhile sml).reverse
end Lb
namespace L2
open PySem PySem.Spec PyProof.Rows
def PU (X:Cx) (e:Expr) (t:TE):Prop:=∀ (pins:yyL) (s:Shared) (σ:St) (H:Hp) (Q:VK) (i:Nat) (x:Str) (pos pos':Pos) (D:Ends),Inv X pins σ H s->t σ H Q->X.N.Nodup->X.N[i]?=some x->X.env.scope.names.lookup x=some .local ->
 swapsWith e (some (.Name x pos')) pos.line X.env=pure true->(∀ v H',Q v H'->D.nx (σ.set i (some v)) H')->wpAny (model X.prog X.w) X.A (exec (.Assign [.Name x pos'] e pos) X.env) (SP X pins D) X.xe s
def PU.weak {X:Cx} {e:Expr} {t t2:TE} (h:PU X e t) (w:∀ σ H Q,t2 σ H Q->t σ H Q):PU X e t2:=fun pins s σ H Q i x pos pos' D I q=>h pins s σ H Q i x pos pos' D I (w _ _ _ q)
def zmO {X:Cx} {elt tg iter:Expr} {ifs:List Expr} {sc fsc:Scope} {pos:Pos} {wi:TI} {g:TG} {tc:TT} {te:TE} {N N':List Str} {src:List (Option Nat)} (B:Blk N N' src fsc sc) (hi:PI X tg iter wi)
  (hg:∀ cl C s H fp pn,PG (blk X N' sc cl C s H fp pn) tg g) (ht:∀ cl C s H fp pn,PTs (blk X N' sc cl C s H fp pn) ifs tc) (he:∀ cl C s H fp pn,PE (blk X N' sc cl C s H fp pn) elt te)
  (hx:X.xe=(fun _ _=>False):=by rfl) (hc:X.calm=true:=by rfl) (hN:X.N=N:=by rfl) (hs:X.env.scope=fsc:=by rfl)
  (hf:∀ x,foldedSetIterable iter X.env x=pure x:=by intro _; rfl):PU X (.ListComp elt [⟨tg,iter,ifs,0⟩] sc pos) (zn9 wi src g tc te):=by
 intro pins s σ H Q i0 x0 p0 p1 D0 I h hNd hi0 hx0 hsw fin; rw [exec_Assign_Name_used _ _ _ _ hsw]; refine yA (wpAny_standAt (yA ?_))
 show wpAny _ _ (do let _ <- comprehension (.ListComp elt [⟨tg,iter,ifs,0⟩] sc pos) sc X.env _ (newList []) false (eval iter X.env) (some (assign (.Name x0 p1) X.env))) _ _ _
 have hfr:∀ y ∈ sc.names,y.2=.free->∃ c,X.env.cells.lookup y.1=some c:=fun y hy e=>I.ok.has y.1 (.inl (by have:=B.free y hy e; rw [<- hs] at this; exact this))
 refine yA (ym (wpAny_comprehension_free (use:=some (assign (.Name x0 p1) X.env)) (Q:=fun _ s'=>SP X pins D0 .next s') (cl:=zc5 X.env.cells sc.names []) rfl hf (zeX hfr) B.kind B.names ?_) (fun _ s' hq=>yG (yG hq)) fun _ _ e=>e)
 refine thn (hi pins s σ H _ I h) fun v s1 h1=>thn h1 fun itv s2 h2=>?_
 obtain ⟨it,fp,tn,J,H2,e,I2,T,st2,f2,q⟩:=h2; subst e
 obtain ⟨W,⟨m0,w0⟩,turn⟩:=q s2.heap.objs.size (I2.hok.fresh (yJ _))
 refine yi (wpAny_newFunctionEnv B.cell (by intro y hy; simp at hy) (fun h1 hns hsb=>?_) B.kind)
 dsimp only at hns hsb ⊢
 have I3:Inv X pins σ (upd H2 s2.heap.objs.size (.lst [])) { s2 with heap:=s2.heap.push { cls:=.type "list",dict:=none,data:=.seq ([]:List Value).toArray } } :=
  I2.laid (t':=s2.toks) (fun b o e=>yC _ e) (yJ _) ⟨YE _,[],0,.nil,yI _ rfl⟩
 have fb:∀ b ∈ fp,b<s2.heap.objs.size:=fun b hb=>by
  obtain ⟨o,e,_⟩:=T.obj 0 _ st2 b hb; exact yH e
 have f3:∀ b ∈ fp,zdf X pins (upd H2 s2.heap.objs.size (.lst [])) b:=fun b hb=>by
  refine ⟨?_,(f2 b hb).2⟩; rw [zp (yP (fb b hb))]; exact (f2 b hb).1
 generalize hh3:s2.heap.push { cls:=.type "list",dict:=none,data:=.seq ([]:List Value).toArray }=h3 at hns hsb I3 ⊢
 have z3:s2.heap.objs.size<h3.objs.size:=by rw [<- hh3,YJ]; exact Nat.lt_succ_self _
 have k3:∀ b o,h3.get? b=some o->h1.get? b=some o:=fun b o e=>hsb.extBut b o (yP (yH e)) (yC _ e)
 have I4:=zme (tk:=s2.toks+([]:List (Str × Value)).length) I3 B hN hs f3 (fun b hb=>Nat.lt_trans (fb b hb) z3) hns k3
 have st4:tn 0 h1:=T.keep 0 _ _ st2 fun b hb o e=>k3 b o (by rw [<- hh3]; exact yC _ e)
 have fok:∀ {H':Hp},(∀ b ∈ fp,H' b=none)->∀ b ∈ fp,zdf (blk X N' sc (zc5 X.env.cells sc.names []) h3.objs.size { s2 with heap:=h3 } (upd H2 s2.heap.objs.size (.lst [])) fp (X.pn ++ pins)) [] H' b:=fun hn b hb=>by
  obtain ⟨_,g1,g2,g3,g4,g5⟩:=f3 b hb
  refine ⟨hn b hb,yP (Nat.lt_trans (fb b hb) z3),fun z=>?_,.inl hb,fun x c e=>g4 x c (zdz sc.names [] hfr (fun _ _ z=>by simp at z) e),fun p hp=>g5 p (by rw [yh] at hp; exact hp)⟩
  rcases yO.mp (I3.stkSub b z) with e | e
  ·exact g1 e
  ·exact g2 e
 have loop:∀ s4:Shared,s4={ s2 with heap:=h1,toks:=s2.toks+([]:List (Str × Value)).length } ->
   codeAny (model X.prog X.w) X.A (.compLoop (.ListComp elt [⟨tg,iter,ifs,0⟩] sc pos) 0 (.ref it) (.ref s2.heap.objs.size) (compEnvC sc (zc5 X.env.cells sc.names []) h3.objs.size X.env))
    (compPost (model X.prog X.w) X.A X.xe (some (assign (.Name x0 p1) X.env)) (fun _ s'=>SP X pins D0 .next s') (.ref s2.heap.objs.size) h3.objs.size) s4:=by
  rintro s4 rfl
  refine zge (fun k s'=>∃ i σ5 H5,Inv (blk X N' sc (zc5 X.env.cells sc.names []) h3.objs.size { s2 with heap:=h3 } (upd H2 s2.heap.objs.size (.lst [])) fp (X.pn ++ pins)) [] σ5 H5 s'/\tn i s'.heap/\(∀ b ∈ fp,H5 b=none)/\W i k σ5 H5) ?_ m0
   ⟨0,_,_,I4,st4,fun b hb=>(f3 b hb).1,w0⟩
  rintro k s5 ⟨i,σ5,H5,I5,st5,fr5,w5⟩
  rcases turn i k σ5 H5 w5 with ⟨stop,qd⟩ | ⟨go,M,hM,step⟩
  ·refine thn (T.done (blk X N' sc (zc5 X.env.cells sc.names []) h3.objs.size { s2 with heap:=h3 } (upd H2 s2.heap.objs.size (.lst [])) fp (X.pn ++ pins)) rfl rfl rfl hc i [] s5 σ5 H5 _ I5 (fok fr5) st5 stop) fun r s6 ⟨hr,I6⟩=>?_
   subst hr; obtain ⟨m6,hn6,_⟩:=id I6.loc
   have I7:Inv X pins σ H5 s6:=I3.call' (s':=s6) (ch:=fp) I6.os (Un.same I6.base (Heap.SameBut.refl ..) (yJ _)) (HOk.same I6.hok (Heap.SameBut.refl ..) I6.free) I6.bare fun b hb=>⟨(f3 b hb).2.2.2.1,(f3 b hb).2.1,(f3 b hb).2.2.2.2.1,(f3 b hb).2.2.2.2.2⟩
   obtain ⟨c0,c1,c2,c3,c4,c5⟩:=I3.fpOk (H':=H5) (b:=h3.objs.size) (yJ _) I6.free
   show wpAny _ _ (assign (.Name x0 p1) X.env (.ref s2.heap.objs.size)) _ _ _
   refine wpAny_assign_Name (zfF (v:=.ref s2.heap.objs.size) I7 hNd hi0 (.inl hx0) rfl (fun s8 I8 sb=>?_) (.inr hx0))
   obtain ⟨a8,sb8,ha8⟩:=sb
   have ne8:h3.objs.size≠a8:=by
    rcases ha8 with e | e
    ·rw [e]; exact c1
    ·exact fun z=>c4 _ _ e z.symm
   exact ⟨m6,hn6.sameBut sb8 ne8,fun h' hsb'=>⟨_,H5,I8.turned (t':=s8.toks) (fun b o hb e=>(hsb'.2 b hb).trans e) c0 c1 c3 c4 c5,fin _ _ qd⟩⟩
  ·refine thn (T.item (blk X N' sc (zc5 X.env.cells sc.names []) h3.objs.size { s2 with heap:=h3 } (upd H2 s2.heap.objs.size (.lst [])) fp (X.pn ++ pins)) rfl rfl rfl hc i [] s5 σ5 H5 _ I5 (fok fr5) st5 go) fun r s6 ⟨u,hr,h6⟩=>?_
   subst hr
   refine thn h6 fun _ s7 ⟨x,H7,I7,r7,y7,st7,fr7⟩=>?_
   have I7':=I7.pinned (fok fr7) (T.obj _ _ st7)
   have back:∀ {σ8:St} {H8:Hp} {s8:Shared},Inv (blk X N' sc (zc5 X.env.cells sc.names []) h3.objs.size { s2 with heap:=h3 } (upd H2 s2.heap.objs.size (.lst [])) fp (X.pn ++ pins)) ([] ++ zeg fp s7.heap) σ8 H8 s8->tn (i+1) s8.heap/\∀ b ∈ fp,H8 b=none:=fun {σ8 H8 s8} I8=>by
    have pn8:∀ b ∈ fp,∀ o,s7.heap.get? b=some o->s8.heap.get? b=some o/\H8 b=none:=fun b hb o e=>by
     have q:=I8.pin (b,o) (yb _ (yb _ (zb8 hb e))); exact ⟨q.1,q.2.1⟩
    refine ⟨T.keep _ _ _ st7 fun b hb o e=>(pn8 b hb o e).1,fun b hb=>?_⟩
    obtain ⟨o,e,_⟩:=T.obj _ _ st7 b hb; exact (pn8 b hb o e).2
   have xf:∀ {α:Type} {t:Sem α} {Q1 Q2:α->Shared->Prop} {z:Shared},wpAny (model X.prog X.w) X.A t Q1 X.xe z->(∀ a z',Q1 a z'->Q2 a z')->wpAny (model X.prog X.w) X.A t Q2 (fun _ _=>False) z:=fun g1 g2=>by
    rw [hx] at g1; exact thn g1 g2
   refine xf (hg _ _ _ _ _ _ _ s7 σ5 H7 x u _ I7' r7 (step x H7 y7)) fun _ s8 ⟨σ8,H8,I8,q8⟩=>?_
   refine xf (ht _ _ _ _ _ _ _ s8 σ8 H8 _ I8 q8) fun b s9 ⟨H9,I9,q9⟩=>?_
   cases b with
   | false =>
    obtain ⟨m',hm,w'⟩:=hM σ8 H9 (by simpa using q9)
    obtain ⟨g1,g2⟩:=back I9; exact ⟨m',hm,i+1,σ8,H9,I9.unpinned,g1,g2,w'⟩
   | true =>
    rw [yW rfl] at q9 ⊢
    refine xf (he _ _ _ _ _ _ _ s9 σ8 H9 _ I9 q9) fun y s10 ⟨yv,H10,I10,r10,ys,hy,hz,w⟩=>?_
    obtain ⟨m',hm,w'⟩:=hM _ _ w
    refine xf (zcT (X:=(blk X N' sc (zc5 X.env.cells sc.names []) h3.objs.size { s2 with heap:=h3 } (upd H2 s2.heap.objs.size (.lst [])) fp (X.pn ++ pins))) _ s10 σ8 H10 (.ref s2.heap.objs.size) [yv] _ [y] (fun _ H11=>H11=upd H10 s2.heap.objs.size (.lst (ys ++ [yv]))) I10 rfl (.cons r10 .nil) ⟨_,ys,yv,rfl,rfl,hy,hz,rfl⟩) fun _ s11 ⟨_,H11,I11,_,e11⟩=>?_
    subst e11; obtain ⟨g1,g2⟩:=back I11; exact ⟨m',hm,i+1,σ8,_,I11.unpinned,g1,g2,w'⟩
 exact codeAny_compStart_list (loop _ rfl) (T.self _ 0 _ _ _ st4 (loop _ rfl))
end L2
namespace PL
open PySem L2
structure PU' (X:Cx) (e:Expr) (t:TO'):Prop where
 h:PU X e (oOf X.K X.N.length t)
section
variable {pos:Pos}
def zdp {elt tg iter:Expr} {ifs:List Expr} {sc fsc:Scope} {ti:TI'} {g:TG'} {tc:TT'} {te:TE'} {N N':List Str} {src:List (Option Nat)} (B:Blk N N' src fsc sc) (hi:PI' X tg iter ti)
  (hg:∀ cl C s H fp pn,PG' (blk X N' sc cl C s H fp pn) tg g) (ht:∀ cl C s H fp pn,PTs' (blk X N' sc cl C s H fp pn) ifs tc) (he:∀ cl C s H fp pn,PE' (blk X N' sc cl C s H fp pn) elt te)
  (hx:X.xe=(fun _ _=>False):=by rfl) (hc:X.calm=true:=by rfl) (hN:X.N=N:=by rfl) (hs:X.env.scope=fsc:=by rfl)
  (hf:∀ x,foldedSetIterable iter X.env x=pure x:=by intro _; rfl):PU' X (.ListComp elt [⟨tg,iter,ifs,0⟩] sc pos) (zJ ti src g tc te):=by
 refine ⟨PU.weak (zmO (g:=gOf X.K N'.length g) (tc:=znV X.K N'.length tc) (te:=tOf X.K N'.length te) B hi.h (fun a b c d e f=>(hg a b c d e f).h) (fun a b c d e f=>(ht a b c d e f).h) (fun a b c d e f=>(he a b c d e f).h) hx hc hN hs hf) ?_⟩
 rintro σ H Q2 ⟨W,Hi,Γ,Q,gd,h,fin⟩
 refine ⟨W,Hi,Γ,_,gd,h,?_⟩
 rintro J H1 Hi1 Γ1 ds s1 g1 itd ⟨hlen,q⟩
 intro A hA
 -- the state between two turns
 have hn':src.length=N'.length:=B.len
 refine zgc (n:=ds.length) (fun i σ' H'=>∃ Hi' acc vs Γ',zaR Hi1 Hi'/\Fz Hi' H'/\(∀ b o,H1 b=some o->H' b=some o)/\(∀ b o,H1 b=some o->Hi' b=Hi1 b)/\Hi' A=none/\H' A=some (.lst vs)/\zb4 X.K Hi' vs acc/\vs.length<=i/\σ'.length=N'.length /\
   (∀ (j:Nat) s,Γ'[j]?=some s->s=.emp\/∃ d,s=.val d/\∃ v,σ'[j]?=some (some v)/\Den X.K Hi' v d)/\zc2 g tc te (fun acc=>Q (.lst acc) Γ1) (ds.drop i) acc Γ') ?_ ?_ ?_
 ·refine ⟨Hi1,[],[],zj4 src Γ1,zaR.refl _,(Ext.newO g1.fz hA _ (fun _ z=>by cases z)).fz,fun b o e=>zY hA _ b o e,fun b o e=>rfl,g1.sub.free hA,zo,.nil,YE _,?_,fun j s e=>?_,by simpa using q⟩
  ·unfold zkj; rw [yE,hn']
  ·unfold zj4 at e
   rw [yF] at e
   cases hj:src[j]? with
   | none=>rw [hj] at e; cases e
   | some o =>
    rw [hj] at e
    cases o with
    | none=>cases e; exact .inl rfl
    | some i =>
     have e':(match Γ1[i]? with | some (.val d)=>Slot.val d | _=>.emp)=s:=Option.some.inj e
     cases hΓ:Γ1[i]? with
     | none=>rw [hΓ] at e'; exact .inl e'.symm
     | some sl =>
      rw [hΓ] at e'
      cases sl with
      | val d =>
       refine .inr ⟨d,e'.symm,?_⟩; obtain ⟨v,h1,h2⟩:=g1.val i d hΓ; refine ⟨v,?_,h2⟩; unfold zkj; rw [yF,hj]
       show some ((some i).bind fun i=>(σ[i]?).join)=some (some v)
       show some ((σ[i]?).join)=some (some v)
       rw [h1]; rfl
      | emp=>exact .inl e'.symm
      | own o=>exact .inl e'.symm
      | bk _ _ _=>exact .inl e'.symm
 ·rintro i σ' H' hlt ⟨Hi',acc,vs,Γ',s2,s3,k1,k2,hA1,hA2,dl,hv,hl,hsl,q⟩
  have hd:ds.drop i=ds[i] :: ds.drop (i+1):=YM hlt
  rw [hd] at q; obtain ⟨go,yl⟩:=(itd Hi' H' s2 s3).1 i ds[i] (yB hlt)
  refine ⟨go,fun x H'' y=>?_⟩
  obtain ⟨Hi'',ex,den⟩:=yl x H'' y
  have gb:Good X.K N'.length ⟨H'',Hi'',[]⟩ Hi'' Γ' σ' H'':=by
   refine ⟨hl,ex.fz,fun b o e _=>e,fun b o e=>⟨o,e⟩,fun b o e=>rfl,fun j d e=>?_,fun j o e=>?_,fun j k o o' b e=>?_,fun j d b xs e=>?_⟩
   ·rcases hsl j _ e with z | ⟨d',z,v,h1,h2⟩
    ·cases z
    ·cases z; exact ⟨v,h1,h2.mono ex.hi⟩
   ·rcases hsl j _ e with z | ⟨d',z,_⟩ <;> cases z
   ·rcases hsl j _ e with z | ⟨d',z,_⟩ <;> cases z
   ·rcases hsl j _ e with z | ⟨d',z,_⟩ <;> cases z
  refine ⟨⟨H'',Hi'',[]⟩,Hi'',Γ',ds[i],_,gb,den,q,?_⟩; intro σ3 H3 Hi3 Γ3 s4 g3 q3; refine ⟨⟨H'',Hi'',[]⟩,Hi3,Γ3,_,g3,q3,?_⟩; intro b H4 Hi4 Γ4 s5 g4 q4
  -- what the state is behind a turn
  have back:∀ {Γ5:Sts} {Hi5 H5:Hp},zaR Hi4 Hi5->Good X.K N'.length ⟨H'',Hi'',[]⟩ Hi5 Γ5 σ3 H5 ->
    zaR Hi1 Hi5/\Fz Hi5 H5/\(∀ b o,H1 b=some o->H5 b=some o)/\(∀ b o,H1 b=some o->Hi5 b=Hi1 b)/\Hi5 A=none/\H5 A=some (.lst vs)/\zaR Hi' Hi5:=fun {Γ5 Hi5 H5} s6 g5=>by
   have sx:zaR Hi' Hi5:=ex.hi.trans (s4.trans (s5.trans s6))
   have hA3:H'' A=some (.lst vs):=ex.h _ _ hA2
   refine ⟨s2.trans sx,g5.fz,fun b o e=>g5.keep b o (ex.h _ _ (k1 b o e)) (by simp),fun b o e=>?_,?_,g5.keep A _ hA3 (by simp),sx⟩
   ·rw [g5.fro b o (ex.h _ _ (k1 b o e))]
    show Hi'' b=Hi1 b
    rw [ex.fro b o (k1 b o e),k2 b o e]
   ·rw [g5.fro A _ hA3]
    show Hi'' A=none
    rw [ex.fro A _ hA2,hA1]
  have sl:∀ {Γ5:Sts} {Hi5 H5:Hp},Good X.K N'.length ⟨H'',Hi'',[]⟩ Hi5 Γ5 σ3 H5->∀ (j:Nat) s,(vo Γ5)[j]?=some s->s=.emp\/∃ d,s=.val d/\∃ v,σ3[j]?=some (some v)/\Den X.K Hi5 v d:=fun {Γ5 Hi5 H5} g5 j s e=>by
   unfold vo at e; rw [yF] at e
   cases hj:Γ5[j]? with
   | none=>rw [hj] at e; cases e
   | some sl =>
    rw [hj] at e
    cases sl with
    | val d =>
     cases e; exact .inr ⟨d,rfl,g5.val j d hj⟩
    | emp=>cases e; exact .inl rfl
    | own o=>cases e; exact .inl rfl
    | bk _ _ _=>cases e; exact .inl rfl
  cases b with
  | false =>
   simp only [YY,if_false] at q4 ⊢; obtain ⟨b1,b2,b3,b4,b5,b6,b7⟩:=back (zaR.refl _) g4
   exact ⟨Hi4,acc,vs,vo Γ4,b1,b2,b3,b4,b5,b6,dl.mono b7,by omega,g4.len,sl g4,q4⟩
  | true =>
   simp only [if_true] at q4 ⊢; refine ⟨⟨H'',Hi'',[]⟩,Hi4,Γ4,_,g4,q4,?_⟩
   rintro y' H5 ⟨Hi5,dy,Γ5,s6,g5,den5,q5⟩
   obtain ⟨b1,b2,b3,b4,b5,b6,b7⟩:=back s6 g5
   refine ⟨vs,b6,by omega,Hi5,acc ++ [dy],vs ++ [y'],vo Γ5,b1,?_,?_,b4,b5,zo,zbG (dl.mono b7) (.cons den5 .nil),by rw [yu]; simp; omega,g5.len,sl g5,q5⟩
   ·refine ⟨fun b o e=>?_,fun b xs e=>?_⟩
    ·rw [zp (fun z=>by rw [z,b5] at e; cases e)]
     exact b2.sub b o e
    ·by_cases hb:b=A
     ·subst hb; rw [zo] at e; cases e
     ·rw [zp hb] at e; exact b2.tups b xs e
   ·intro b o e
    rw [zp (zag e hA)]; exact b3 b o e
 ·rintro σ' H' ⟨Hi',acc,vs,Γ',s2,s3,k1,k2,hA1,hA2,dl,hv,hl,hsl,q⟩
  refine ⟨(itd Hi' H' s2 s3).2,?_⟩; rw [YV (yJ _)] at q
  have ex:Ext Hi1 H1 Hi' H':=⟨s2,k1,s3,k2⟩
  refine fin A H' Hi' Γ1 (.lst acc) (s1.trans s2) (g1.ext ex) ⟨hA1,?_,⟨fun j o' e z=>?_,fun j d xs e=>?_⟩,vs,hA2,dl⟩ q
  ·cases hq:W.H₀ A with
   | none=>rfl
   | some w =>
    obtain ⟨w',hw⟩:=g1.there A w hq
    rw [hA] at hw; cases hw
  ·obtain ⟨a,h1,_,_,h4⟩:=g1.own j o' e
   rw [z] at h1; cases h1; obtain ⟨w,hw⟩:=h4.there
   rw [hA] at hw; cases hw
  ·obtain ⟨w,hw⟩:=(g1.bk j d A xs e).at_.there
   rw [hA] at hw; cases hw
def ziS (i:Nat) {x:Str} {e:Expr} {te:TO'} {pos':Pos} (hN:X.N.Nodup) (he:PU' X e te) (hi:X.N[i]?=some x:=by rfl) (hx:X.env.scope.names.lookup x=some .local:=by rfl) (hs:swapsWith e (some (.Name x pos')) pos.line X.env=pure true:=by rfl):PS' X (.Assign [.Name x pos'] e pos) (zK te i):=by
 refine ⟨fun pins s σ H N2 I q=>?_⟩
 obtain ⟨W,Hi,Γ,N,g,h,l⟩:=q
 refine he.h pins s σ H (fun v H'=>N2.nx (σ.set i (some v)) H') i x pos pos' N2 I ⟨W,Hi,Γ,_,g,h,?_⟩ hN hi hx hs fun _ _ z=>z
 intro a H1 Hi1 Γ1 o s1 g1 nw q; exact l.nx _ H1 Hi1 _ s1 (g1.setO (yD.mp hi).1 nw.hi nw.h0 nw.ne nw.own) q
def zd2 (i:Nat) {x:Str} {e:Expr} {te:TO'} {pos':Pos} (hN:X.N.Nodup) (he:PU' X e te) (hi:X.N[i]?=some x:=by rfl) (hx:X.env.scope.names.lookup x=some .local:=by rfl) (hs:swapsWith e (some (.Name x pos')) pos.line X.env=pure true:=by rfl):PS' X (.Assign [.Name x pos'] e pos) (zao (zaM te) (zB i)):=by
 refine ⟨fun pins s σ H N2 I q=>?_⟩
 obtain ⟨W,Hi,Γ,N,g,h,l⟩:=q
 refine he.h pins s σ H (fun v H'=>N2.nx (σ.set i (some v)) H') i x pos pos' N2 I ⟨W,Hi,Γ,_,g,h,?_⟩ hN hi hx hs fun _ _ z=>z
 intro a H1 Hi1 Γ1 o s1 g1 nw q; obtain ⟨u,hu⟩:=nw.own.there; exact l.nx _ H1 (upd Hi1 a u) _ (s1.trans (zY nw.hi u)) ((g1.freezeA nw.hi nw.h0 nw.ne hu).set (yD.mp hi).1 (nw.own.den nw.hi hu)) q
end
structure ExtB (b:Addr) (Hi H Hi' H':Hp):Prop where
 hi:zaR Hi Hi'
 h:∀ a o,a≠b->H a=some o->H' a=some o
 fz:Fz Hi' H'
 fro:∀ a o,H a=some o->Hi' a=Hi a
def zbb {Γ:Sts} {i:Nat} {t:Slot} {j:Nat} {s:Slot} (e:(Γ.set i t)[j]?=some s):(j=i/\s=t)\/(j≠i/\Γ[j]?=some s):=by
 by_cases hj:j=i
 ·subst hj
  refine .inl ⟨rfl,?_⟩; rw [List.getElem?_set] at e; simp only [if_true] at e; split at e
  ·exact (Option.some.inj e).symm
  ·cases e
 ·rw [yR (fun z=>hj z.symm)] at e
  exact .inr ⟨hj,e⟩
def Good.extB {K:W.Frag} {n:Nat} {W:Wd} {Hi Hi' H H':Hp} {Γ:Sts} {σ:St} {i:Nat} {d:D->D} {b:Addr} {xs xs':OD} (g:Good K n W Hi Γ σ H) (e0:Γ[i]?=some (.bk d b xs)) (e:ExtB b Hi H Hi' H') (at_:zbQ K Hi' H' b xs'):Good K n W Hi' (Γ.set i (.bk d b xs')) σ H':=by
 have B:=g.bk i d b _ e0
 have hbi:Hi' b=none:=by
  obtain ⟨u,hu⟩:=B.at_.there; exact (e.fro b u hu).trans B.hi
 have mv:∀ {a:Addr} {o:OD},a≠b->zbQ K Hi H a o->zbQ K Hi' H' a o:=fun ne h=>h.mono e.hi fun u q=>e.h _ u ne q
 refine ⟨g.len,e.fz,fun a o q nf=>?_,fun a o q=>?_,fun a o q=>?_,fun j d' q=>?_,fun j o q=>?_,fun j k o o' a q1 q2 h1 h2=>?_,fun j d' b' ys q=>?_⟩
 ·refine e.h a o (fun z=>?_) (g.keep a o q nf)
  rw [z] at q nf; rw [B.h0 nf] at q; cases q
 ·by_cases z:a=b
  ·rw [z]
   exact at_.there
  ·obtain ⟨o',h⟩:=g.there a o q
   exact ⟨o',e.h a o' z h⟩
 ·obtain ⟨o',h⟩:=g.there a o q
  exact (e.fro a o' h).trans (g.fro a o q)
 ·rcases zbb q with ⟨_,z⟩ | ⟨_,z⟩
  ·cases z
  ·obtain ⟨v,h1,h2⟩:=g.val j d' z
   exact ⟨v,h1,h2.mono e.hi⟩
 ·rcases zbb q with ⟨_,z⟩ | ⟨_,z⟩
  ·cases z
  ·obtain ⟨a,h1,h2,h3,h4⟩:=g.own j o z
   have ne:a≠b:=fun w=>B.ne j o z (by rw [<- w]; exact h1)
   obtain ⟨u,hu⟩:=h4.there; exact ⟨a,h1,(e.fro a u hu).trans h2,h3,mv ne h4⟩
 ·rcases zbb q1 with ⟨_,z⟩ | ⟨_,z⟩
  ·cases z
  ·rcases zbb q2 with ⟨_,y⟩ | ⟨_,y⟩
   ·cases y
   ·exact g.apart j k o o' a z y h1 h2
 ·rcases zbb q with ⟨rfl,z⟩ | ⟨hj,z⟩
  ·cases z
   obtain ⟨⟨v,v1,v2⟩,p1,p2,p3,p4,p5,p6⟩:=B
   refine ⟨⟨v,v1,v2.mono e.hi⟩,p1,hbi,p3,at_,fun k d2 ys q=>?_,fun k o' q=>?_⟩
   ·rcases zbb q with ⟨rfl,y⟩ | ⟨_,y⟩
    ·rfl
    ·exact p5 k _ _ y
   ·rcases zbb q with ⟨_,y⟩ | ⟨_,y⟩
    ·cases y
    ·exact p6 k o' y
  ·obtain ⟨⟨v,v1,v2⟩,p1,p2,p3,p4,p5,p6⟩:=g.bk j d' b' _ z
   have ne:b'≠b:=fun w=>hj (B.one j d' ys (by rw [<- w]; exact z))
   obtain ⟨u,hu⟩:=p4.there
   refine ⟨⟨v,v1,v2.mono e.hi⟩,p1,(e.fro b' u hu).trans p2,p3,mv ne p4,fun k d2 ys q=>?_,fun k o' q=>?_⟩
   ·rcases zbb q with ⟨rfl,y⟩ | ⟨_,y⟩
    ·cases y
     exact yU rfl ne
    ·exact p5 k _ _ y
   ·rcases zbb q with ⟨_,y⟩ | ⟨_,y⟩
    ·cases y
    ·exact p6 k o' y
def ExtB.put {Hi H:Hp} {b:Addr} {ws:List V} (s:Fz Hi H) (hb:Hi b=none) {u:HO} (hu:H b=some u) (nt:∀ xs,u≠.tup xs):ExtB b Hi H Hi (upd H b (.lst ws)):=by
 refine ⟨zaR.refl _,fun a o ne q=>by rw [zp ne]; exact q,⟨fun a o q=>?_,fun a xs q=>?_⟩,fun _ _ _=>rfl⟩
 ·rw [zp (fun z=>by rw [z,hb] at q; cases q)]
  exact s.sub a o q
 ·by_cases z:a=b
  ·subst z
   rw [zo] at q; cases q
  ·rw [zp z] at q
   exact s.tups a xs q
section
def zaN (K:W.Frag) (i:Nat) (f:Str) (te:TE'):TS':=fun N Γ=>∃ d b xs,Γ[i]?=some (.bk d b (.lst xs))/\(∃ C fs,d (.adr b)=.obj C fs/\Cls K C/\zaQ K C f/\fs.lookup f=some (.adr b))/\te Γ fun v Γ1=>∃ ys,Γ1[i]?=some (.bk d b (.lst ys))/\ys.length<sizeLine/\N.nx (Γ1.set i (.bk d b (.lst (ys ++ [v]))))
def ziU (i:Nat) {x f:Str} {e:Expr} {te:TE'} {pos p p2 apos cpos:Pos} (he:PE' X e te) (hN:X.N[i]?=some x:=by rfl) (hv:Vis X.env.scope x:=by first | exact YA rfl | exact yr (YA rfl) | exact yr (yr rfl)) (hd:yyD x:=by decide)
  (hcd:(x == ("__classdict__":Str))=false:=by decide) (hst:zc4 e=false:=by rfl)
  (hb0:attributeBase (.Name x p) f X.env (eval (.Name x p) X.env)=eval (.Name x p) X.env:=by rfl)
  (hbase:attributeBase (.Attribute (.Name x p) f p2) "append" X.env (eval (.Attribute (.Name x p) f p2) X.env)=eval (.Attribute (.Name x p) f p2) X.env:=by rfl) (hline:(apos.endLine == cpos.line)=true:=by rfl)
  (hs:swapsWith (.Call (.Attribute (.Attribute (.Name x p) f p2) "append" apos) [e] [] cpos) none pos.line X.env=pure false:=by rfl) :
  PS' X (.Expr (.Call (.Attribute (.Attribute (.Name x p) f p2) "append" apos) [e] [] cpos) pos) (zaN X.K i f te):=by
 have pl:zbN [e]=true:=by unfold zbN; rw [hst]; rfl
 have hfew:((backTo cpos (starEach [e] X.env)).all (fun x=>!x.1) && (backToKw cpos (keywordEach [] X.env)).all (fun x=>x.1.isSome)
   && decide ([e].length+([]:List Keyword).length+(if ([]:List Keyword).isEmpty then 0 else 1)<30))=true:=by
  rw [zah hst]; rfl
 have base:=zdM (zkK Yd PySem.F.slot_list_append PySem.F.type_list_append (zcT (X:=X)) (zlQ (zcP (i:=i) (pos:=p) hN hv hd hcd) hb0) (zbO he.h zds (zah hst)) hbase hfew hline (zah hst) rfl) hs; refine ⟨PS.weak base ?_⟩
 rintro N2 σ H ⟨W,Hi,Γ,N,g,⟨d,b,xs,e0,⟨C,fs,ed,cl,na,lk⟩,q⟩,l⟩
 have B:=g.bk i d b _ e0; obtain ⟨v0,hv0,den0⟩:=B.val; rw [ed] at den0; obtain ⟨a,dx,fvs,rfl,ha,df⟩:=den0.objI; obtain ⟨u,hu,du⟩:=df.look lk
 cases du.adrI
 obtain ⟨vs0,hb4,_⟩:=B.at_; refine ⟨.ref a,hv0,a,C,dx,fvs,.ref b,rfl,g.sub _ _ ha,cl,na,hu,.inl ⟨rfl,vs0,SqL.of hb4⟩,W,Hi,Γ,_,g,q,?_⟩
 rintro v H1 ⟨Hi1,d1,Γ1,s1,g1,den,ys,e1,hl,q1⟩
 have B1:=g1.bk i d b _ e1; obtain ⟨vs,k4,k5⟩:=B1.at_
 refine ⟨b,vs,v,rfl,rfl,k4,by rw [zm k5]; exact hl,?_⟩
 exact l.nx σ _ Hi1 _ s1 (g1.extB (xs':=.lst (ys ++ [d1])) e1 (ExtB.put g1.fz B1.hi k4 (fun _ z=>by cases z)) ⟨vs ++ [v],zo,zbG k5 (.cons den .nil)⟩) q1
end
abbrev SpB:=(D->D)->List D->List D->(D->List D->Prop)->Prop
def zmw (K:W.Frag) (sp:SpB):Sp:=fun vs H Q2 _=>∃ Hi d b xs v zbF ds Q,vs=v :: zbF/\Fz Hi H/\Den K Hi v (d (.adr b))/\Hol K d/\Hi b=none/\zbQ K Hi H b (.lst xs)/\zb4 K Hi zbF ds/\sp d xs ds Q /\
 ∀ Hi' H' v' r xs',ExtB b Hi H Hi' H'->Den K Hi' v' r->zbQ K Hi' H' b (.lst xs')->Q r xs'->Q2 v' H'
structure MthB (P:Program) (w:World) (K:W.Frag) (mg:Str->Option Value) (base:Heap) (k:Nat) (C:Addr) (m:Str) (ps:List Str) (sp:SpB):Prop where
 ex:∃ f fd,FnOk P w K mg base CX0 k f fd ps (zmw K sp)/\zbk K fd ps []/\Meth K C m f/\Cls K C
section
variable {k:Nat} {C:Addr} {m x y:Str} {ps:List Str} {sp:SpB} {apos pos p q:Pos} {e:Expr} {es:List Expr} {t:TA'}
def zat (C:Addr) (m:Str) (i:Nat) (sp:SpB) (t:TA'):TE':=fun Γ Q=>∃ d b xs,Γ[i]?=some (.bk d b (.lst xs))/\(∃ fs,d (.adr b)=.obj C fs/\fs.lookup m=none)/\t Γ fun ds Γ1=>∃ xs,Γ1[i]?=some (.bk d b (.lst xs))/\sp d xs ds fun r ys=>Q r (Γ1.set i (.bk d b (.lst ys)))
def zmX (i:Nat) (h:MthB X.prog X.w X.K X.mg X.base k C m ps sp) (hr:Room k X.A) (ha:PA' X (e :: es) t) (hN:X.N[i]?=some y:=by rfl) (hv:Vis X.env.scope y:=by first | exact YA rfl | exact yr (YA rfl) | exact yr (yr rfl)) (hd:yyD y:=by decide)
  (hcd:(y == ("__classdict__":Str))=false:=by decide) {pl:Sem Bool}
  (ht:eval (.Call (.Attribute (.Name y q) m apos) (e :: es) [] pos) X.env=(do
   let ov <- eval (.Name y q) X.env
   standAt apos.atName
   let (f,first) <- holding [ov] (getMethod ov m pl)
   callWith pos f first (backTo pos (starEach (e :: es) X.env)) (backToKw pos (keywordEach [] X.env))):=by rfl) :
  PE' X (.Call (.Attribute (.Name y q) m apos) (e :: es) [] pos) (zat C m i sp t):=by
 obtain ⟨f,fd,F,b,hm,cl⟩:=h.ex; refine ⟨PE.weak (zgC (E:=E0) (dvs:=[]) (zcP (i:=i) (pos:=q) hN hv hd hcd) cl hm F hr b .nil zfe ha.pa (zah (zC ha.pl).1) (zaS (zC ha.pl).2) ht) ?_⟩
 rintro σ H Q ⟨W,Hi,Γ,Q',g,⟨d,b',xs0,e0,⟨fs,ed,lk⟩,h⟩,fin⟩
 obtain ⟨v0,hv0,den0⟩:=(g.bk i _ _ _ e0).val; rw [ed] at den0; obtain ⟨a,dx,fvs,rfl,ha',df⟩:=den0.objI; refine ⟨.ref a,hv0,a,dx,fvs,rfl,g.sub _ _ ha',zcg df lk,W,Hi,Γ,_,g,h,?_⟩
 rintro vs H1 Hi1 Γ1 ds s1 g1 dl ⟨xs,e1,q1⟩
 have B:=g1.bk i d b' _ e1; obtain ⟨v1,hv1,den1⟩:=B.val; rw [hv0] at hv1; cases hv1; rw [yh]; refine ⟨Hi1,d,b',xs,.ref a,vs,ds,_,rfl,g1.fz,den1,B.hol,B.hi,B.at_,dl,q1,?_⟩; intro Hi2 H2 v' r ys ex den at_ q2; exact fin v' H2 ⟨Hi2,r,_,s1.trans ex.hi,g1.extB e1 ex at_,den,q2⟩
class MSpB (sp:SpB):Prop where
 mono:∀ d xs ds Q Q',(∀ r ys,Q r ys->Q' r ys)->sp d xs ds Q->sp d xs ds Q'
instance {C:Addr} {m:Str} {i:Nat} {sp:SpB} {t:TA'} [MSpB sp] [MA t]:ME (zat C m i sp t):=⟨fun Γ _ _ h ⟨d,b,xs,e,c,q⟩=>⟨d,b,xs,e,c,MA.mono (t:=t) Γ _ _ (fun _ _ ⟨ys,e,z⟩=>⟨ys,e,MSpB.mono (sp:=sp) _ _ _ _ _ (fun _ _ w=>h _ _ w) z⟩) q⟩⟩
end
def zF (N:List Str) (d:D->D) (b:Addr) (xs:List D) (ds:List D):Sts:=.bk d b (.lst xs) :: (ds.map .val ++ List.replicate (N.length-(ds.length+1)) .emp)
def zgQ {K:W.Frag} {N ps:List Str} {v:V} {vs:List V} {d:D->D} {b:Addr} {xs ds:List D} {Hi H:Hp} (hlen:ds.length+1=ps.length) (hpl:ps.length<=N.length) (sb:Fz Hi H) (dv:Den K Hi v (d (.adr b))) (hol:Hol K d) (hb:Hi b=none) (at_:zbQ K Hi H b (.lst xs)) (dl:zb4 K Hi vs ds) :
  Good K N.length ⟨H,Hi,[b]⟩ Hi (zF N d b xs ds) (L2.start N (v :: vs)) H:=by
 have hvl:=zm dl
 have inv:∀ (j:Nat) s,(zF N d b xs ds)[j]?=some s->(j=0/\s=.bk d b (.lst xs))\/s=.emp\/∃ j' d',j=j'+1/\ds[j']?=some d'/\s=.val d':=fun j s e=>by
  cases j with
  | zero=>exact .inl ⟨rfl,(Option.some.inj e).symm⟩
  | succ j =>
   right
   have e':(ds.map Slot.val ++ List.replicate (N.length-(ds.length+1)) Slot.emp)[j]?=some s:=by simpa [zF] using e
   by_cases hj:j<ds.length
   ·rw [yV (by simpa using hj),yF,yB hj] at e'
    exact .inr ⟨j,_,rfl,yB hj,(Option.some.inj e').symm⟩
   ·rw [yo (by simpa using hj),Ye] at e'
    split at e'
    ·exact .inl (Option.some.inj e').symm
    ·cases e'
 refine ⟨?_,sb,fun a o e _=>e,fun a o e=>⟨o,e⟩,fun a o e=>rfl,fun j d' e=>?_,fun j o e=>?_,fun j k o o' a e=>?_,fun j d' b' ys e=>?_⟩
 ·unfold L2.start
  rw [yu,yE,Yk]; simp; omega
 ·rcases inv j _ e with ⟨_,z⟩ | z | ⟨j',d2,rfl,e2,z⟩
  ·cases z
  ·cases z
  ·cases z
   obtain ⟨w,e1,dw⟩:=zaV dl e2; refine ⟨w,?_,dw⟩; unfold L2.start
   have hj':j'<vs.length:=(yD.mp e1).1
   rw [yV (by rw [yE]; simp; omega),yF]
   simp [e1]
 ·rcases inv j _ e with ⟨_,z⟩ | z | ⟨j',d2,rfl,e2,z⟩ <;> cases z
 ·rcases inv j _ e with ⟨_,z⟩ | z | ⟨j',d2,rfl,e2,z⟩ <;> cases z
 ·rcases inv j _ e with ⟨rfl,z⟩ | z | ⟨j',d2,rfl,e2,z⟩
  ·cases z
   refine ⟨⟨v,?_,dv⟩,hol,hb,fun z=>yU (yk.mpr rfl) z,at_,fun k d2 zs q=>?_,fun k o' q=>?_⟩
   ·unfold L2.start
    simp
   ·rcases inv k _ q with ⟨rfl,z⟩ | z | ⟨j',d2,rfl,e2,z⟩
    ·rfl
    ·cases z
    ·cases z
   ·rcases inv k _ q with ⟨rfl,z⟩ | z | ⟨j',d2,rfl,e2,z⟩ <;> cases z
  ·cases z
  ·cases z
section
def Fun.okB {x qual:Str} {st:Stmt} {f:Addr} {fd:FuncData} {N ps:List Str} {k:Nat} {sp:SpB} (F:Fun K x qual st f fd) (S:FnScope N ps (zk st)) (len:∀ d xs ds Q,sp d xs ds Q->ds.length+1=ps.length)
  (hbody:∀ (cdv:Value) (A:Around) (outer:List Env) (s:Shared) (H:Hp) (E:XK),Room k (A.deeper (PyProof.Rows.envOfC qual (zk st) s.heap.objs.size f cdv))->∀ d b xs ds Q,sp d xs ds Q ->
   ∃ t,PSs' (zd8 CX0 P w K mg base N qual (zk st) f cdv A outer s H E).nox (zaO st) t/\t { nx:=fun Γ=>∃ ys,Γ[0]?=some (.bk d b (.lst ys))/\Q .non ys,rt:=fun r Γ=>∃ ys d',r=.val d'/\Γ[0]?=some (.bk d b (.lst ys))/\Q d' ys } (zF N d b xs ds)):FnOk P w K mg base CX0 (k+1) f fd ps (zmw K sp):=by
 refine F.ok S (fun vs H Q E h=>?_) (fun cdv A outer s H vs Q E hr h=>?_)
 ·obtain ⟨Hi,d,b,xs,v,zbF,ds,Q',rfl,_,_,_,_,_,dl,h,_⟩:=h
  have:=len d xs ds Q' h
  rw [List.length_cons,zm dl]; exact this
 obtain ⟨Hi,d,b,xs,v,zbF,ds,Q',rfl,sb,dv,hol,hb,at_,dl,h,fin⟩:=h; obtain ⟨t,h1,h2⟩:=hbody cdv A outer s H E hr d b xs ds Q' h; have hlen:=len d xs ds Q' h
 have hpl:ps.length<=N.length:=by have:=yg List.length S.pre; rw [yT] at this; omega
 refine ⟨_,h1.h,⟨H,Hi,[b]⟩,Hi,zF N d b xs ds,_,zgQ hlen hpl sb dv hol hb at_ dl,h2,?_⟩
 have ex:∀ {σ':St} {H' Hi':Hp} {Γ':Sts},zaR Hi Hi'->Good K N.length ⟨H,Hi,[b]⟩ Hi' Γ' σ' H'->ExtB b Hi H Hi' H':=fun s1 g1 =>
  ⟨s1,fun a o ne e=>g1.keep a o e (by simpa using ne),g1.fz,fun a o e=>g1.fro a o e⟩
 refine ⟨fun σ' H' Hi' Γ' s1 g1 q=>?_,fun _ _ _ _ _ _ q=>q.elim,fun _ _ _ _ _ _ q=>q.elim,fun v σ' H' Hi' Γ' r s1 g1 ro q=>?_⟩
 ·obtain ⟨ys,e,q⟩:=q
  exact fin Hi' H' .non .non ys (ex s1 g1) .non (g1.bk 0 d b _ e).at_ q
 ·obtain ⟨ys,d',rfl,e,q⟩:=q
  exact fin Hi' H' v d' ys (ex s1 g1) ro (g1.bk 0 d b _ e).at_ q
end
end PL
namespace L2
open PySem PySem.Spec PyProof.Rows
section
variable {tg:Expr}
end
end L2
namespace PL
open PySem L2
section
def zgK:Op2 X (binaryOp .Pow) (rI' znY fun i j=>.int (i ^ j.toNat)):=⟨_,zoV,zhn _ fun i j _=>.int _⟩
def zd4 {k:Nat} {C:Addr} {m:Str} {ps:List Str} {sp:Sp'} {apos pos:Pos} {o:Expr} {to:TE'} (h:Mth X.prog X.w X.K X.mg X.base k C m ps sp) (hr:Room k X.A) (ho:PE' X o to) {pl:Sem Bool}
  (ht:eval (.Call (.Attribute o m apos) [] [] pos) X.env=(do
   let ov <- eval o X.env
   standAt apos.atName
   let (f,first) <- holding [ov] (getMethod ov m pl)
   callWith pos f first (backTo pos (starEach [] X.env)) (backToKw pos (keywordEach [] X.env))):=by rfl) :
  PE' X (.Call (.Attribute o m apos) [] [] pos) (zau C m sp to zal):=by
 obtain ⟨f,fd,F,b,hm,cl⟩:=h.ex; refine ⟨PE.weak (zhd (E:=E0) (dvs:=[]) ho.h cl hm F hr b .nil zfe ht) ?_⟩
 rintro σ H Q ⟨W,Hi,Γ,Q',g,h,fin⟩
 refine ⟨W,Hi,Γ,_,g,h,?_⟩
 rintro x H1 ⟨Hi1,d,Γ1,s1,g1,den1,fs,rfl,lk,q⟩
 obtain ⟨a,dx,fvs,rfl,ha',df⟩:=id den1.objI; refine ⟨a,dx,fvs,rfl,g1.sub _ _ ha',zcg df lk,?_⟩
 show zij X.K sp [V.ref a] H1 Q E0
 refine ⟨Hi1,_,_,g1.fz,.cons den1 .nil,q,?_⟩; intro Hi3 H3 v r ex ro q3
 cases r with
 | val d=>exact fin v H3 ⟨Hi3,d,Γ1,s1.trans ex.hi,g1.ext ex,ro,q3⟩
 | own o =>
  obtain ⟨a,rfl,h1,h2,h3⟩:=ro; have nw:=zbl g1 ex h1 h2 h3; obtain ⟨u,hu⟩:=h3.there; exact fin _ H3 ⟨upd Hi3 a u,_,Γ1,s1.trans (ex.hi.trans (zY h1 u)),(g1.ext ex).freezeA nw.hi nw.h0 nw.ne hu,h3.den h1 hu,q3⟩
 | bk d o =>
  obtain ⟨b',dv,hol,h1,h2,h3⟩:=ro; have nw:=zbl g1 ex h1 h2 h3; obtain ⟨u,hu⟩:=h3.there; exact fin _ H3 ⟨upd Hi3 b' u,_,Γ1,s1.trans (ex.hi.trans (zY h1 u)),(g1.ext ex).freezeA nw.hi nw.h0 nw.ne hu,hol b' _ v o (h3.den h1 hu) (dv.mono (zY h1 u)),q3⟩
end
end PL
namespace L2
open PySem PySem.Spec PyProof.Rows
section
def ziA (C:Addr) (f1 f2:Str):Sp:=fun vs H Q _=>∃ a dx u,vs=[.ref a,u]/\H a=some (.ins C dx [])/\∀ p,p≠a->H p=none->Q .non (upd (upd H p (.lst [])) a (.ins C dx [(f1,u),(f2,.ref p)]))
def zg2 {H:Hp} {a p:Addr} {x y z:HO} (ne:p≠a):upd (upd (upd H a x) p y) a z=upd (upd H p y) a z:=by
 funext b
 by_cases e:b=a
 ·subst e; rw [zo,zo]
 ·rw [zp e,zp e]
  by_cases e2:b=p
  ·subst e2; rw [zo,zo]
  ·rw [zp e2,zp e2,zp e]
end
end L2
namespace PL
open PySem L2
def Good.setB {K:W.Frag} {n:Nat} {W:Wd} {Hi H:Hp} {Γ:Sts} {σ:St} {i:Nat} {v:V} {d:D->D} {b:Addr} {xs:OD} (g:Good K n W Hi Γ σ H) (hi:i<n) (dv:Den K Hi v (d (.adr b))) (hol:Hol K d) (hb:Hi b=none) (h0:W.H₀ b=none) (fr:Free n W Γ σ b) (at_:zbQ K Hi H b xs) :
  Good K n W Hi (Γ.set i (.bk d b xs)) (σ.set i (some v)) H:=by
 have ad:∀ j,j≠i->adr n W (σ.set i (some v)) j=adr n W σ j:=fun j hj=>by
  unfold adr
  rw [yR (fun z=>hj z.symm)]
 refine ⟨by rw [List.length_set]; exact g.len,g.fz,g.keep,g.there,g.fro,fun j d' e=>?_,fun j o e=>?_,fun j k o o' a e1 e2 h1 h2=>?_,fun j d' b' ys e=>?_⟩
 ·rcases zbb e with ⟨rfl,z⟩ | ⟨hj,z⟩
  ·cases z
  ·obtain ⟨w,h1,h2⟩:=g.val j d' z
   exact ⟨w,by rw [yR (fun z=>hj z.symm)]; exact h1,h2⟩
 ·rcases zbb e with ⟨rfl,z⟩ | ⟨hj,z⟩
  ·cases z
  ·obtain ⟨a,h1,h2⟩:=g.own j o z
   exact ⟨a,by rw [ad j hj]; exact h1,h2⟩
 ·rcases zbb e1 with ⟨rfl,z⟩ | ⟨hj,z⟩
  ·cases z
  ·rcases zbb e2 with ⟨rfl,y⟩ | ⟨hk,y⟩
   ·cases y
   ·exact g.apart j k o o' a z y (by rw [<- ad j hj]; exact h1) (by rw [<- ad k hk]; exact h2)
 ·rcases zbb e with ⟨rfl,z⟩ | ⟨hj,z⟩
  ·cases z
   refine ⟨⟨v,by rw [yz (by rw [g.len]; exact hi)],dv⟩,hol,hb,fun _=>h0,at_,fun k d2 zs q=>?_,fun k o' q=>?_⟩
   ·rcases zbb q with ⟨rfl,y⟩ | ⟨hk,y⟩
    ·rfl
    ·exact yU y (fr.bk k _ _)
   ·rcases zbb q with ⟨rfl,y⟩ | ⟨hk,y⟩
    ·cases y
    ·rw [ad k hk]
     exact fr.own k o' y
  ·obtain ⟨⟨w,w1,w2⟩,h1,h2,h3,h4,h5,h6⟩:=g.bk j d' b' _ z
   refine ⟨⟨w,by rw [yR (fun z=>hj z.symm)]; exact w1,w2⟩,h1,h2,h3,h4,fun k d2 zs q=>?_,fun k o' q=>?_⟩
   ·rcases zbb q with ⟨rfl,y⟩ | ⟨hk,y⟩
    ·cases y
     exact yU z (fr.bk j _ _)
    ·exact h5 k _ _ y
   ·rcases zbb q with ⟨rfl,y⟩ | ⟨hk,y⟩
    ·cases y
    ·rw [ad k hk]
     exact h6 k o' y
def zpl {K:W.Frag} {C:Addr} {f1 f2:Str} {t:D}:Hol K fun z=>.obj C [(f1,t),(f2,z)]:=by
 intro b Hi v o hb den; obtain ⟨a,dx,fvs,rfl,ha,df⟩:=den.objI
 cases df with
 | @cons p q ps qs r t1 =>
  cases t1 with
  | @cons p2 q2 ps2 qs2 r2 t2 =>
   cases t2; obtain ⟨p21,p22⟩:=p2; obtain ⟨r21,r22⟩:=r2
   dsimp only at r21 r22
   cases r22.adrI
   exact Den.mkO ha (.cons r (.cons ⟨r21,hb⟩ .nil))
section
structure MakB (P:Program) (w:World) (K:W.Frag) (mg:Str->Option Value) (base:Heap) (k:Nat) (x:Str) (C:Addr) (f1 f2:Str):Prop where
 ex:∃ f fd ps,Mk K C f/\FnOk P w K mg base CX0 k f fd ps (ziA C f1 f2)/\zbk K fd ps []/\mg x=some (.ref C)
def zbH (i:Nat) (C:Addr) (f1 f2:Str) (t:TA'):TS':=fun N Γ=>t Γ fun ds Γ1=>∃ d,ds=[d]/\∀ b:Addr,N.nx (Γ1.set i (.bk (fun z=>.obj C [(f1,d),(f2,z)]) b (.lst [])))
def zoF {k:Nat} {x y f1 f2:Str} {C:Addr} (i:Nat) {p q pos pos':Pos} {e:Expr} {t:TA'} (nd:X.N.Nodup) (M:MakB X.prog X.w X.K X.mg X.base k x C f1 f2) (hr:Room (k+1) X.A) (ha:PA' X [e] t) (hi:X.N[i]?=some y:=by rfl) (hx:Loc X.env.scope y:=by first | exact YA rfl | exact yr rfl)
  (hf:X.fn y=true\/X.env.scope.names.lookup y=some .local:=by first | exact .inl rfl | exact .inr rfl | assumption) (hg:Gl X x:=by rfl) (hdb:yyD x:=by decide) (hs:swapsWith (.Call (.Name x p) [e] [] pos) (some (.Name y q)) pos'.line X.env=pure false:=by rfl) :
  PS' X (.Assign [.Name y q] (.Call (.Name x p) [e] [] pos) pos') (zbH i C f1 f2 t):=by
 obtain ⟨f,fd,ps,mk,F,b,hm⟩:=M.ex; refine ⟨PS.weak (zhb (i:=i) nd hi hx (zi1 (E:=E0) (dvs:=[]) mk F hr hg hm b .nil zfe ha.pa hdb (zah (zC ha.pl).1) (zaS (zC ha.pl).2)) hs hf) ?_⟩
 rintro N2 σ H ⟨W,Hi,Γ,N,g,h,l⟩
 refine ⟨W,Hi,Γ,_,g,h,?_⟩
 rintro vs H1 Hi1 Γ1 ds s1 g1 dl ⟨d,rfl,q⟩
 obtain ⟨u,rfl,du⟩:=zde dl; intro a dx hna hdx ne; rw [yh]
 refine ⟨a,dx,u,rfl,zo,fun p hpa hp=>⟨rfl,?_⟩⟩
 rw [zg2 hpa]; rw [zp hpa] at hp
 have hpd:p≠dx:=fun z=>by rw [z,zo] at hp; cases hp
 rw [zp hpd] at hp; have fr:=(New.mk' (u:=.lst []) (o:=.lst []) g1 hp ⟨[],zo,.nil⟩)
 have e1:=Ext.newO g1.fz hdx (.own a) (fun _ z=>by cases z)
 have hp1:upd H1 dx (.own a) p=none:=by rw [zp hpd]; exact hp
 have e2:=Ext.newO e1.fz hp1 (.lst []) (fun _ z=>by cases z)
 have hna':upd (upd H1 dx (.own a)) p (.lst []) a=none:=by rw [zp (fun z=>hpa z.symm),zp (fun z=>ne z.symm)]; exact hna
 have e3:=Ext.new e2.fz hna' (.ins C dx [(f1,u),(f2,.ref p)]); have ex:=e1.trans (e2.trans e3); have g2:=g1.ext ex
 have dv:Den X.K (upd Hi1 a (.ins C dx [(f1,u),(f2,.ref p)])) (.ref a) (.obj C [(f1,d),(f2,.adr p)]):=Den.mkO zo (.cons ⟨rfl,du.mono ex.hi⟩ (.cons ⟨rfl,.adr p⟩ .nil))
 refine l.nx _ _ _ _ (s1.trans ex.hi) (g2.setB (d:=fun z=>.obj C [(f1,d),(f2,z)]) (b:=p) (xs:=.lst []) (yD.mp hi).1 dv zpl ?_ fr.h0 fr.ne ⟨[],?_,.nil⟩) (q p)
 ·rw [zp hpa]
  exact fr.hi
 ·rw [zp hpa,zo]
end
instance:MS zam:=⟨fun _ _ _ _ h=>h.elim⟩
class MGs (t:zjR):Prop where
 mono:∀ ds Γ (Q Q':Sts->Prop),(∀ Γ,Q Γ->Q' Γ)->t ds Γ Q->t ds Γ Q'
instance:MGs zaE:=⟨fun _ _ _ _ h ⟨a,q⟩=>⟨a,h _ q⟩⟩
instance {t:TG'} {u:zjR} [MG t] [MGs u]:MGs (zQ t u):=⟨fun _ _ _ _ h ⟨d,r,e,q⟩=>⟨d,r,e,MG.mono (g:=t) _ _ _ _ (fun _ z=>MGs.mono (t:=u) _ _ _ _ h z) q⟩⟩
instance {n:Nat} {t:zjR} [MGs t]:MG (zaD n t):=⟨fun _ _ _ _ h ⟨ds,e,l,q⟩=>⟨ds,e,l,MGs.mono (t:=t) _ _ _ _ h q⟩⟩
def ziw:∀ L:List (List Nat),Txt.join (st []) (L.map st)=st L.flatten:=by
 intro L
 show PySem.Builtin.Str.glued (st []) (L.map st)=_
 rw [StrLaws.glued_eq_join]
 induction L with
 | nil=>rfl
 | cons a t ih =>
  cases t with
  | nil=>show st a=st [a].flatten; simp
  | cons b r =>
   show st a ++ st [] ++ Str.join (st []) (st b :: r.map st)=st (a :: b :: r).flatten
   rw [show Str.join (st []) (st b :: r.map st)=st (b :: r).flatten from ih]
   show (⟨(a.toArray ++ #[]) ++ ((b :: r).flatten).toArray⟩:Str)=⟨((a :: b :: r).flatten).toArray⟩
   simp
def zlH:RM':=fun x ds Q=>∃ ls:List (List Nat),x=.str []/\ds=[.lst (ls.map .str)]/\(ls.map (·.length)).sum<=16777216/\Q (.str ls.flatten)
def znm {X:Cx}:Met X "str" "str.join" zlH:=⟨_,znl,by
 rintro Hi H x vs dx ds Q Q2 s d1 dl ⟨ls,rfl,rfl,hl,q⟩ fin
 have hz:(((ls.map st).map (·.length)).sum+(ls.map st).length * (st []).length)<=16777216:=by
  rw [YH,zcD]
  have:(ls.map ((fun z:Str=>z.length) ∘ st))=ls.map (·.length):=List.map_congr_left fun z _=>zcD z
  rw [this,yE]
  simpa using hl
 obtain ⟨v,rfl,den⟩:=zde dl; obtain ⟨a,us,rfl,h1,h2⟩:=den.lstI; rw [zga h2] at h1; refine ⟨_,a,ls.map st,d1.strI,rfl,.inl (zab s.sub h1),hz,?_⟩; rw [ziw]; exact fin Hi H _ _ (Ext.refl s) (.str _) q⟩
instance:MRM zlH:=⟨fun _ _ _ _ h ⟨l,a,b,d,q⟩=>⟨l,a,b,d,h _ q⟩⟩
end PL
namespace M34
open PySem L2 PL
inductive Deed where
 | ch (day:Int) (c s:D) | lat (n:List Nat) (i day:Int) | ins (n:List Nat) (i:Int) (c:D) | drp (n:List Nat) (i:Int)
def zlq:List Nat:=[99,104,97,110,103,101]
def zlT:List Nat:=[108,97,116,101,114]
def zlh:List Nat:=[105,110,115,116,101,97,100]
def zmc:List Nat:=[100,114,111,112]
def deD:Deed->D
 | .ch d c s=>.tup [.str zlq,.int d,c,s]
 | .lat n i d=>.tup [.str zlT,.str n,.int i,.int d]
 | .ins n i c=>.tup [.str zlh,.str n,.int i,c]
 | .drp n i=>.tup [.str zmc,.str n,.int i]
structure Row where
 nm:List Nat
 num:Int
 day:Int
 c:D
 s:D
def Row.is (r:Row) (n:List Nat) (i:Int):Bool:=decide (r.nm=n/\r.num=i)
def zom (rs:List Row) (n:List Nat) (i:Int):Option Row:=rs.find? fun r=>r.is n i
def zqO (rs:List Row) (r:Row):List Row:=if (zom rs r.nm r.num).isSome=true then rs.map (fun x=>if x.is r.nm r.num=true then r else x) else rs ++ [r]
def zqP (rs:List Row) (n:List Nat) (i:Int):List Row:=rs.filter fun r=>!r.is n i
def znz (rs:List Row) (made:Int) (n:List Nat) (i:Int) (f:Row->List Row):List Row:=match zom rs n i with
 | none=>rs
 | some r=>if made<r.day then f r else rs
def take (rs:List Row) (nm:List Nat) (made num:Int):Deed->List Row
 | .ch d c s=>zqO rs ⟨nm,num,d,c,s⟩
 | .lat n i d=>znz rs made n i fun r=>zqO rs { r with day:=d }
 | .ins n i c=>znz rs made n i fun r=>zqO rs { r with c:=c }
 | .drp n i=>znz rs made n i fun _=>zqP rs n i
def Deed.mapC (f:D->D):Deed->Deed
 | .ch d c s=>.ch d (f c) s
 | .lat n i d=>.lat n i d
 | .ins n i c=>.ins n i (f c)
 | .drp n i=>.drp n i
section
variable (f:D->D)
end
def zcC (Pc Ps:D->Prop):Deed->Prop
 | .ch _ c s=>Pc c/\Ps s
 | .ins _ _ c=>Pc c
 | _=>True
section
variable {Pc Ps:D->Prop}
end
theorem zfr {f:D->D->Option Bool}:∀ {xs:List D},(∀ x ∈ xs,f x x=some true)->eqL f xs xs=some true
 | [],_=>rfl
 | x :: xs,h=>by simp [eqL,h x yt,zfr fun y hy=>h y (yc _ hy)]
def zcG (n:Nat) (d:D):Prop:=eqD n d d=some true
def zdk (n:Nat) (l:List Nat):zcG (n+1) (.str l):=by unfold zcG; rw [zjt]; simp
def zkm (n:Nat) (i:Int):zcG (n+1) (.int i):=by unfold zcG; simp [eqD,eqS]
def zg7 (n:Nat):zcG n .non:=by unfold zcG; exact znF n
def zcX {n:Nat} {ds:List D} (h:∀ d ∈ ds,zcG n d):zcG (n+1) (.tup ds):=by
 unfold zcG; exact zfr h
def ze9 {n:Nat} {ds:List D} (h:∀ d ∈ ds,zcG n d):zcG (n+1) (.lst ds):=by
 unfold zcG
 show (if _=_ then eqL (eqD n) ds ds else some false)=_
 rw [yW rfl]; exact zfr h
end M34
namespace PL
open PySem L2
section
variable {pos:Pos}
def zaK (ti:TI') (g:TG') (tb:zfz):zfz:=fun N E Γ=>ti Γ fun ds Γ1=>zeK g (fun N Γ=>tb N E Γ) N ds Γ1
def zml {tg iter:Expr} {body:List Stmt} {ti:TI'} {g:TG'} {tb:zfz} (hi:PI' X.nox tg iter ti) (hg:PG' X.nox tg g) (hb:PSsx' X body tb) (hst:X.stack=X.env :: X.outer:=by rfl) (hf:X.env.frame=some X.env.locals:=by rfl) (hc:X.calm=true:=by rfl)
  (hs:∀ x,foldedSetIterable iter X.env x=pure x:=by intro _; rfl):PSx' X (.For tg iter body [] pos) (zaK ti g tb):=by
 refine ⟨PSx.weak (zn0 hst hf hc hi.h hg.h hb.h hs) ?_⟩
 rintro N2 E2 σ H ⟨W,Hi,Γ,N,E,gd,h,l,x⟩
 refine ⟨W,Hi,Γ,_,gd,h,?_⟩; intro J H1 Hi1 Γ1 ds s1 g1 itd q
 refine ⟨fun i m σ' H'=>m=ds.length-i/\i<=ds.length/\∃ Hi' Γ',zaR Hi1 Hi'/\Good X.K X.N.length W Hi' Γ' σ' H'/\zeK g (fun N Γ=>tb N E Γ) N (ds.drop i) Γ',⟨ds.length,by simp,YE _,Hi1,Γ1,zaR.refl _,g1,by simpa using q⟩,?_⟩
 rintro i m σ' H' ⟨rfl,hi',Hi',Γ',s2,g2,q2⟩
 have wk:=itd Hi' H' s2 g2.fz
 by_cases hlt:i<ds.length
 ·rw [YM hlt] at q2
  obtain ⟨go,yl⟩:=wk.1 i ds[i] (yB hlt)
  refine .inr ⟨go,fun σ3 H3=>∃ Hi3 Γ3,zaR Hi' Hi3/\Good X.K X.N.length W Hi3 Γ3 σ3 H3/\zeK g (fun N Γ=>tb N E Γ) N (ds.drop (i+1)) Γ3,fun σ3 H3 ⟨Hi3,Γ3,s3,g3,q3⟩=>⟨ds.length-(i+1),by omega,rfl,hlt,Hi3,Γ3,s2.trans s3,g3,q3⟩,fun y H'' hy=>?_⟩
  obtain ⟨Hi'',ex,den⟩:=yl y H'' hy; refine ⟨W,Hi'',Γ',ds[i],_,g2.ext ex,den,q2,?_⟩; intro σ4 H4 Hi4 Γ4 s4 g4 q4
  have sx:zaR Hi' Hi4:=ex.hi.trans s4
  have st:zaR Hi Hi4:=s1.trans (s2.trans sx)
  exact ⟨W,Hi4,Γ4,_,E,g4,q4,⟨fun σ5 H5 Hi5 Γ5 s5 g5 q5=>⟨Hi5,Γ5,sx.trans s5,g5,q5⟩,fun σ5 H5 Hi5 Γ5 s5 g5 q5=>l.nx σ5 H5 Hi5 Γ5 (st.trans s5) g5 q5,fun σ5 H5 Hi5 Γ5 s5 g5 q5=>⟨Hi5,Γ5,sx.trans s5,g5,q5⟩,fun v σ5 H5 Hi5 Γ5 r s5 g5 ro q5=>l.rt v σ5 H5 Hi5 Γ5 r (st.trans s5) g5 ro q5⟩,x.mono st⟩
 ·have e:i=ds.length:=by omega
  subst e; rw [YV (yJ _)] at q2; exact .inl ⟨wk.2,l.nx σ' H' Hi' Γ' (s1.trans s2) g2 q2⟩
def zT (K:W.Frag) (M M2:Addr) (i:Nat) (tb:zfz) (ts ts2:TS'):TS':=fun N Γ=>tb N (fun C fs Γ1 =>
 (W.exmOne K (.ref C) (.ref M)=some true/\ts { nx:=fun Γ2=>N.nx (Γ2.set i .emp),bk:=fun Γ2=>N.bk (Γ2.set i .emp),ct:=fun Γ2=>N.ct (Γ2.set i .emp),rt:=N.rt } (Γ1.set i (.val (.exc C fs)))) \/
 W.exmOne K (.ref C) (.ref M)=some false/\W.exmOne K (.ref C) (.ref M2)=some true/\ts2 { nx:=fun Γ2=>N.nx (Γ2.set i .emp),bk:=fun Γ2=>N.bk (Γ2.set i .emp),ct:=fun Γ2=>N.ct (Γ2.set i .emp),rt:=N.rt } (Γ1.set i (.val (.exc C fs)))) Γ
def zkz (i:Nat) {M M2:Addr} {x y n:Str} {body suite suite2:List Stmt} {b0 b2:Stmt} {tb:zfz} {ts ts2:TS'} {p hpos p2 hpos2:Pos} (hb:PSsx' X body tb) (hs:∀ e,PSs' (X.mark e) (b0 :: suite) ts) (hs2:∀ e,PSs' (X.mark e) (b2 :: suite2) ts2) (hm:X.mg x=some (.ref M)) (hm2:X.mg y=some (.ref M2)) (hN:X.N.Nodup) (hst:X.stack=X.env :: X.outer:=by rfl) (hf:X.env.frame=some X.env.locals:=by rfl) (hi:X.N[i]?=some n:=by rfl) (hk:X.env.scope.names.lookup n=some .local:=by rfl) (hg:Gl X x:=by rfl) (hg2:Gl X y:=by rfl)
  (hdb:yyD x:=by decide) (hdb2:yyD y:=by decide):PS' X (.Try body [.ExceptHandler (some (.Name x p)) (some n) (b0 :: suite) hpos,.ExceptHandler (some (.Name y p2)) (some n) (b2 :: suite2) hpos2] [] [] pos) (zT X.K M M2 i tb ts ts2):=by
 have hin:i<X.N.length:=(yD.mp hi).1
 have h0:=zmk (X:=X) (p:=p) (hpos:=hpos) (p2:=p2) (hpos2:=hpos2) (pos:=pos) (ts:=sOf X.K X.N.length ts) (ts2:=sOf X.K X.N.length ts2) hst hf hb.h (fun e=>(hs e).h) (fun e=>(hs2 e).h) hg hm hg2 hm2 hN hi hk hdb hdb2
 refine ⟨fun pins s σ H N2 I q=>?_⟩
 refine ym (h0 pins s σ H N2 (fun _ _ _ _=>False) I ?_) (fun _ _ z=>z) fun v s' z=>?_
 ·obtain ⟨W,Hi,Γ,N,g,h,l⟩:=q
  refine ⟨W,Hi,Γ,N,_,g,h,l,?_⟩
  rintro σ1 H1 Hi1 Γ1 C dd fs s1 g1 xd q1
  have go:∀ {t:TS'} {ae:Addr},H1 ae=none->t { nx:=fun Γ2=>N.nx (Γ2.set i .emp),bk:=fun Γ2=>N.bk (Γ2.set i .emp),ct:=fun Γ2=>N.ct (Γ2.set i .emp),rt:=N.rt } (Γ1.set i (.val (.exc C fs)))->sOf X.K X.N.length t { nx:=fun σ2 H2=>N2.nx (σ2.set i none) H2,rt:=N2.rt,bk:=fun σ2 H2=>N2.bk (σ2.set i none) H2,ct:=fun σ2 H2=>N2.ct (σ2.set i none) H2 } (σ1.set i (some (.ref ae))) (upd H1 ae (.ext (XAt ae C dd))):=fun {t ae} hae q2=>by
   have ex:=Ext.new g1.fz hae (.ext (XAt ae C dd)); refine ⟨W,_,_,_,(g1.ext ex).set hin (Den.mkX zo (xd.mono ex.hi)),q2,?_⟩; have l1:=l.mono (s1.trans ex.hi)
   exact ⟨fun σ2 H2 Hi2 Γ2 s2 g2 q2=>l1.nx _ H2 Hi2 _ s2 (g2.unset hin) q2,fun σ2 H2 Hi2 Γ2 s2 g2 q2=>l1.bk _ H2 Hi2 _ s2 (g2.unset hin) q2,fun σ2 H2 Hi2 Γ2 s2 g2 q2=>l1.ct _ H2 Hi2 _ s2 (g2.unset hin) q2,l1.rt⟩
  exact ⟨C,rfl,q1.imp (fun ⟨a,b⟩=>⟨a,fun ae hae=>go hae b⟩) fun ⟨a,b,c⟩=>⟨a,b,fun ae hae=>go hae c⟩⟩
 ·obtain ⟨_,_,_,_,_,_,_,_,z⟩:=z
  exact z.elim
end
end PL
namespace L2
open PySem PySem.Spec PyProof.Rows
abbrev Rw:=V × V × V × List V
def zpF (K:W.Frag) (H:Hp) (v:V) (x:Rw):Prop:=∃ r u,v=.ref r/\SqT K H r [x.1,x.2.1,x.2.2.1,.ref u]/\SqT K H u x.2.2.2
def zeZ (H0 H:Hp) (L:Addr) (v:V) (x:Rw):Prop:=∃ t b,v=.ref t/\H t=some (.tup [x.1,x.2.1,x.2.2.1,.ref b])/\H b=some (.lst x.2.2.2)/\H0 t=none/\H0 b=none/\b≠L
def zeZ.mono {H0 H H':Hp} {L:Addr} {v:V} {x:Rw} (h:zeZ H0 H L v x) (k:∀ a o,a≠L->H a=some o->H' a=some o) (hL:∀ xs,H L≠some (.tup xs)):zeZ H0 H' L v x:=by
 obtain ⟨t,b,e,h1,h2,h3,h4,h5⟩:=h
 exact ⟨t,b,e,k t _ (fun z=>hL _ (z ▸ h1)) h1,k b _ h5 h2,h3,h4,h5⟩
def zgT {X:Cx} (K:W.Frag) (h:X.K=K):zcp X (.type "list") (fun xs H Q=>∃ p ys,xs=[.ref p]/\(SqL K H p ys\/SqT K H p ys)/\∀ l,H l=none->Q (.ref l) (upd H l (.lst ys))):=by
 subst h; exact zdW
def zkB {X:Cx} (K:W.Frag) (h:X.K=K) {es:List Expr} {k:Nat} {t:TGs} {n:Nat} {pos:Pos} (hc:X.calm=true) (hs:PGs X es t) (hn:(assignEach es X.env).length=n) (hst:(assignEach es X.env).findIdx? (·.1)=none):PG X (.Tuple es k pos) (zr0 K n t):=by
 subst h; exact zlM hc hs hn hst
def ziB (K:W.Frag) (C:Addr):Sp:=fun vs H Q _=>∃ (s:Addr) (dx:Addr) (fs:List (Str × V)) (pb:Addr) (ps:List V) (rows:List Rw),vs=[.ref s]/\H s=some (.ins C dx fs)/\fs.lookup ("past":Str)=some (V.ref pb)/\SqL K H pb ps/\ps.length=rows.length/\(∀ (i:Nat) v x,ps[i]?=some v->rows[i]?=some x->zpF K H v x)/\rows.length<=900 /\
 ∀ H' L us,zaR H H'->H L=none->H' L=some (.lst us)->us.length=rows.length->(∀ (i:Nat) x,rows[i]?=some x->∃ u,us[i]?=some u/\zeZ H H' L u x)->Q (.ref L) H'
end L2
namespace K31
open PySem L2 Lb PL M34 theorem sc0 {N P:List Str} {sc:Scope} (a:sc.kind=.function:=by rfl) (b:sc.isCoroutine=false:=by rfl) (c:sc.isGenerator=false:=by rfl) (d:N.Nodup:=by decide +kernel) (e:N.take P.length=P:=by rfl) (f:∀ x ∈ P,sc.names.lookup x=some .local\/sc.names.lookup x=some .cell:=by decide +kernel) (g:∀ y ∈ sc.names,y.2≠.free:=by decide +kernel):FnScope N P sc:=⟨a,b,c,d,e,f,g⟩
def top (i:Nat):Stmt:=PySem.Challenge.pw_codemend_k31_acts_put.main.body.getD i (.Pass ⟨0,0,0,0⟩)
abbrev zcZ:Stmt:=top 13
abbrev zeb:Stmt:=top 17
abbrev zcY:Stmt:=top 18
abbrev zcz:Stmt:=top 27
abbrev zce:Stmt:=top 28
abbrev zdH:Stmt:=top 29
abbrev zdI:Stmt:=top 30
abbrev zcq:Stmt:=top 31
abbrev zcN:Stmt:=top 32
abbrev zcM:Stmt:=top 33
abbrev zdm:Stmt:=top 34
abbrev zc9:Stmt:=top 35
abbrev zc8:Stmt:=top 36
abbrev zb5:Stmt:=top 37
abbrev zbR:Stmt:=top 38
abbrev zcd:Stmt:=top 39
abbrev zdG:Stmt:=top 40
abbrev zd9:Stmt:=top 41
abbrev zbS:Stmt:=top 42
abbrev zea:Stmt:=top 43
abbrev zbC:Stmt:=zb2 (top 9) 0
abbrev zbV:Stmt:=zb2 (top 16) 0
abbrev zbE:Stmt:=zb2 (top 16) 1
abbrev zbj:Stmt:=zb2 (top 16) 2
abbrev zbD:Stmt:=zb2 (top 16) 3
abbrev zaZ:Stmt:=zb2 (top 16) 4
abbrev zac:Stmt:=zb2 (top 16) 5
abbrev zbT:Stmt:=zb2 (top 21) 0
abbrev zbU:Stmt:=zb2 (top 22) 0
abbrev zbB:Stmt:=zb2 (top 23) 0
abbrev za2:Stmt:=zb2 (top 24) 0
abbrev zbW:Stmt:=zb2 (top 25) 0
section
def ze8:FnScope ["self"] ["self"] (zk zaZ):=sc0
def zkp {f C:Addr} {fd:FuncData} (F:L2.Fun K "acts" "Book.acts" zaZ f fd) (cl:Cls K C) (na:zaQ K C "past") (z_list:mg "list"=none):FnOk P w K mg base CX0 1 f fd ["self"] (ziB K C):=by
 have nd:(["name","day","other","deeds"]:List Str).Nodup:=by decide +kernel
 refine F.ok ze8 (fun vs H Q E h=>?_) (fun cdv A outer s H vs Q E hr h=>⟨_,zcl (ziT (zi3 (fsc:=zk zaZ) (N:=["self"]) (N':=["name","day","other","deeds"]) (src:=[none,none,none,none]) (by refine ⟨rfl,?_,?_,?_,rfl,rfl⟩ <;> decide +kernel) (zmW (zlQ (pv 0) rfl))
  (fun _ _ _ _ _ _=>zkB (n:=4) K rfl rfl (zdq (zeh (i:=0) nd rfl (YA rfl) (.inr rfl)) (zdq (zeh (i:=1) nd rfl (YA rfl) (.inr rfl)) (zdq (zeh (i:=2) nd rfl (YA rfl) (.inr rfl)) (zdq (zeh (i:=3) nd rfl (YA rfl) (.inr rfl)) ziZ)))) rfl rfl) (fun _ _ _ _ _ _=>ziP)
  (fun _ _ _ _ _ _=>zlN (zbO (pv 0) (zbO (pv 1) (zbO (pv 2) (zbO (zei (zgT K rfl) rfl z_list PyProof.Rows.boot_list (zbO (pv 3) zds)) zds))))))),?_⟩)
 ·obtain ⟨s,dx,fs,pb,ps,rows,rfl,_⟩:=h
  rfl
 obtain ⟨s,dx,fs,pb,ps,rows,rfl,hs,hl,hq,hpl,hrow,h9,q⟩:=h
 refine ⟨_,rfl,s,C,dx,fs,_,rfl,hs,cl,na,hl,pb,rfl,⟨_,hq⟩,fun L hL=>?_⟩
 have hsub:∀ {H2:Hp},zaR H H2->SqL K H2 pb ps:=fun k=>zab k hq
 have hD:H L=none:=hL
 refine ⟨fun i m σ2 H2=>m=rows.length-i/\i<=rows.length/\(∃ a b c d,σ2=[a,b,c,d])/\zaR H H2/\∃ us,H2 L=some (.lst us)/\us.length=i/\∀ (j:Nat) x,j<i->rows[j]?=some x->∃ u,us[j]?=some u/\zeZ H H2 L u x,⟨rows.length,rfl,YE _,⟨_,_,_,_,rfl⟩,zY hD _,[],zo,rfl,fun j x hj=>yU hj (Nat.not_lt_zero _)⟩,?_⟩
 rintro i m σ2 H2 ⟨rfl,hi,⟨a0,a1,a2,a3,rfl⟩,sm,us,hus,hul,hold⟩
 have hsq:=hsub sm
 by_cases hlt:i<rows.length
 ·have hpi:i<ps.length:=by omega
  obtain ⟨r,u,er,r1,r2⟩:=hrow i ps[i] rows[i] (yB hpi) (yB hlt)
  refine .inr ⟨⟨ps,ps[i],hsq,yB hpi⟩,fun σ' H'=>rows.length-(i+1)=rows.length-(i+1)/\i+1<=rows.length/\(∃ a b c d,σ'=[a,b,c,d])/\zaR H H'/\∃ us,H' L=some (.lst us)/\us.length=i+1/\∀ (j:Nat) x,j<i+1->rows[j]?=some x->∃ u,us[j]?=some u/\zeZ H H' L u x,fun σ' H' z=>⟨rows.length-(i+1),by omega,z⟩,?_⟩
  rintro x H' ⟨rfl,hx⟩
  have ex:x=.ref r:=by
   have:=hx ps hsq
   rw [yB hpi] at this; rw [<- Option.some.inj this,er]
  subst ex; refine ⟨r,_,rfl,zaj sm r1,rfl,_,_,rfl,_,_,rfl,_,_,rfl,_,_,rfl,rfl,?_⟩
  show if true=true then _ else _
  rw [yW rfl]
  refine ⟨_,rfl,_,rfl,_,rfl,_,rfl,u,_,rfl,.inr (zaj sm r2),fun b hb=>?_⟩
  refine ⟨by rw [sizeLine_eq]; show 4<=_; decide,fun t ht=>?_⟩
  have hbL:b≠L:=fun z=>by rw [z,hus] at hb; cases hb
  have hbt:t≠b:=fun z=>by rw [z,zo] at ht; cases ht
  have htH:H' t=none:=by rw [zp hbt] at ht; exact ht
  have htL:t≠L:=fun z=>by rw [z,hus] at htH; cases htH
  have hbH:H b=none:=zaR.free sm hb
  have htH0:H t=none:=zaR.free sm htH
  refine ⟨us,by rw [zp htL.symm,zp hbL.symm]; exact hus,by rw [sizeLine_eq]; omega,rfl,hlt,⟨_,_,_,_,rfl⟩,?_,_,zo,by simp [hul],fun j y hj hy=>?_⟩
  ·intro a o ha
   have aL:a≠L:=fun z=>by rw [z,hD] at ha; cases ha
   have at':a≠t:=fun z=>by rw [z,htH0] at ha; cases ha
   have ab:a≠b:=fun z=>by rw [z,hbH] at ha; cases ha
   rw [zp aL,zp at',zp ab]; exact sm a o ha
  ·have kp:∀ a o,a≠L->H' a=some o->(upd (upd (upd H' b (.lst (rows[i]).2.2.2)) t (.tup [(rows[i]).1,(rows[i]).2.1,(rows[i]).2.2.1,.ref b])) L (.lst (us ++ [.ref t]))) a=some o:=fun a o ha e=>by
    have at':a≠t:=fun z=>by rw [z,htH] at e; cases e
    have ab:a≠b:=fun z=>by rw [z,hb] at e; cases e
    rw [zp ha,zp at',zp ab]; exact e
   by_cases ej:j=i
   ·subst ej
    rw [yB hlt] at hy; cases hy
    refine ⟨.ref t,by rw [<- hul]; simp,t,b,rfl,?_,?_,htH0,hbH,hbL⟩
    ·rw [zp htL,zo]
    ·rw [zp hbL,zp hbt.symm,zo]
   ·obtain ⟨v,hv,tv⟩:=hold j y (by omega) hy
    exact ⟨v,by rw [yV (by omega)]; exact hv,tv.mono kp (fun xs z=>by rw [hus] at z; cases z)⟩
 ·have e:i=rows.length:=by omega
  subst e
  exact .inl ⟨⟨ps,hsq,by omega⟩,q H2 L us sm hD hus hul fun j x hx=>hold j x (yD.mp hx).1 hx⟩
end
end K31
namespace PL
open PySem L2
abbrev RD:=D × D × D × List D
def zm6 (x:RD):D:=.tup [x.1,x.2.1,x.2.2.1,.tup x.2.2.2]
def zmq (x:RD):D:=.tup [x.1,x.2.1,x.2.2.1,.lst x.2.2.2]
def zr4 (K:W.Frag) (H Hi:Hp) (v:V) (y:Rw) (x:RD):Prop:=zpF K H v y/\Den K Hi y.1 x.1/\Den K Hi y.2.1 x.2.1/\Den K Hi y.2.2.1 x.2.2.1/\zb4 K Hi y.2.2.2 x.2.2.2
def zol {K:W.Frag} {H Hi:Hp} {v:V} {x:RD} (s:zaR Hi H) (h:Den K Hi v (zm6 x)):∃ y,zr4 K H Hi v y x:=by
 obtain ⟨a,vs,rfl,ha,dl⟩:=h.tupI
 cases dl with
 | cons h1 dl=>cases dl with
  | cons h2 dl=>cases dl with
   | cons h3 dl=>cases dl with
    | cons h4 dl=>cases dl with
     | nil =>
      obtain ⟨u,ws,rfl,hu,dw⟩:=h4.tupI; exact ⟨(_,_,_,ws),⟨a,u,rfl,zaj s ha,zaj s hu⟩,h1,h2,h3,dw⟩
theorem ziG {K:W.Frag} {H Hi:Hp} (s:zaR Hi H):∀ {ps:List V} {rs:List RD},zb4 K Hi ps (rs.map zm6)->∃ rows:List Rw,rows.length=rs.length/\∀ (i:Nat) v x,ps[i]?=some v->rs[i]?=some x->∃ y,rows[i]?=some y/\zr4 K H Hi v y x
 | [],[],_=>⟨[],rfl,fun i v x h=>by simp at h⟩
 | p :: ps,r :: rs,.cons h t=>by
  obtain ⟨y,hy⟩:=zol s h; obtain ⟨rows,hl,hr⟩:=ziG s (ps:=ps) (rs:=rs) t
  refine ⟨y :: rows,by simp [hl],fun i v x h1 h2=>?_⟩
  cases i with
  | zero=>simp at h1 h2; subst h1 h2; exact ⟨y,rfl,hy⟩
  | succ i=>simpa using hr i v x (by simpa using h1) (by simpa using h2)
def zdX (K:W.Frag) (n:Nat) (C:Addr) (i j:Nat) (tc:TT') (te:TE'):TS':=fun N Γ=>i<n/\∃ d b rs,Γ[j]?=some (.bk d b (.lst (rs.map zm6)))/\(∃ fs,d (.adr b)=.obj C fs/\fs.lookup ("past":Str)=some (.adr b)/\fs.lookup ("acts":Str)=none)/\rs≠[]/\rs.length<=900/\(∀ x,x ∈ rs->x.2.2.2.length<=900) /\
 tc ((zae n Γ).set i (.val (.lst (rs.map zmq)))) (fun c Γ1=>c=false/\te Γ1 fun _ _=>True)/\N.nx (Γ.set i (.own (.lst [])))
section
structure MthA (P:Program) (w:World) (K:W.Frag) (mg:Str->Option Value) (base:Heap) (C:Addr):Prop where
 ex:∃ f fd,FnOk P w K mg base CX0 1 f fd ["self"] (ziB K C)/\zbk K fd ["self"] []/\Meth K C "acts" f/\Cls K C
def zmR {C f:Addr} {fd:FuncData} (i j:Nat) {x y:Str} {c e:Expr} {sa:List Stmt} {ta:TS} {tc:TT'} {te:TE'} {pos1 pos1' pos2 pos3 pos4 q1 q2 q3 q4 q5 q6 q7 q8 q9 q10 q11 q12 q13 q14:Pos} {k1 k3:Nat}
  (F:FnOk X.prog X.w X.K X.mg X.base CX0 1 f fd ["self"] (ziB X.K C)) (hr:Room 1 X.A) (hb:zbk X.K fd ["self"] []) (hm:Meth X.K C "acts" f) (cl:Cls X.K C) (hNd:X.N.Nodup)
  (hc:PT' X c tc) (hsa:PSs X sa ta) (he:PE' X e te) (hpl:zbN [e]=true:=by rfl)
  (hx:X.N[i]?=some x:=by rfl) (hxl:Loc X.env.scope x:=by first | exact YA rfl | exact yr rfl) (hvx:Vis X.env.scope x:=by first | exact YA rfl | exact yr (YA rfl) | exact yr (yr rfl)) (hdx:yyD x:=by decide) (hcx:(x == ("__classdict__":Str))=false:=by decide)
  (hy:X.N[j]?=some y:=by rfl) (hvy:Vis X.env.scope y:=by first | exact YA rfl | exact yr (YA rfl) | exact yr (yr rfl)) (hdy:yyD y:=by decide) (hcy:(y == ("__classdict__":Str))=false:=by decide) {pl:Sem Bool}
  (ht:eval (.Call (.Attribute (.Name y q1) "acts" q2) [] [] q3) X.env=(do
   let ov <- eval (.Name y q1) X.env
   standAt q2.atName
   let (f,first) <- holding [ov] (getMethod ov "acts" pl)
   callWith q3 f first (backTo q3 (starEach [] X.env)) (backToKw q3 (keywordEach [] X.env))):=by rfl)
  (hs1:swapsWith (.Call (.Attribute (.Name y q1) "acts" q2) [] [] q3) (some (.Name x pos1')) pos1.line X.env=pure false:=by rfl)
  (hf1:X.fn x=true\/X.env.scope.names.lookup x=some .local:=by first | exact .inl rfl | exact .inr rfl | assumption)
  (hb1:attributeBase (.Subscript (.Subscript (.Name x q4) (.UnaryOp .USub (.Constant (.int 1) k1 q5) q6) q7) (.Constant (.int 3) k3 q8) q9) "append" X.env (eval (.Subscript (.Subscript (.Name x q4) (.UnaryOp .USub (.Constant (.int 1) k1 q5) q6) q7) (.Constant (.int 3) k3 q8) q9) X.env)=eval (.Subscript (.Subscript (.Name x q4) (.UnaryOp .USub (.Constant (.int 1) k1 q5) q6) q7) (.Constant (.int 3) k3 q8) q9) X.env:=by rfl)
  (hl1:(q10.endLine == q11.line)=true:=by rfl)
  (hs2:swapsWith (.Call (.Attribute (.Subscript (.Subscript (.Name x q4) (.UnaryOp .USub (.Constant (.int 1) k1 q5) q6) q7) (.Constant (.int 3) k3 q8) q9) "append" q10) [e] [] q11) none pos3.line X.env=pure false:=by rfl)
  (hb2:attributeBase (.Name x q12) "clear" X.env (eval (.Name x q12) X.env)=eval (.Name x q12) X.env:=by rfl) (hl2:(q13.endLine == q14.line)=true:=by rfl)
  (hs3:swapsWith (.Call (.Attribute (.Name x q12) "clear" q13) [] [] q14) none pos4.line X.env=pure false:=by rfl) :
  PSs' X [.Assign [.Name x pos1'] (.Call (.Attribute (.Name y q1) "acts" q2) [] [] q3) pos1,.If c sa [] pos2,
   .Expr (.Call (.Attribute (.Subscript (.Subscript (.Name x q4) (.UnaryOp .USub (.Constant (.int 1) k1 q5) q6) q7) (.Constant (.int 3) k3 q8) q9) "append" q10) [e] [] q11) pos3,
   .Expr (.Call (.Attribute (.Name x q12) "clear" q13) [] [] q14) pos4] (zdX X.K X.N.length C i j tc te):=by
 have hst:zc4 e=false:=(zC hpl).1
 have hfew:((backTo q11 (starEach [e] X.env)).all (fun x=>!x.1) && (backToKw q11 (keywordEach [] X.env)).all (fun x=>x.1.isSome)
   && decide ([e].length+([]:List Keyword).length+(if ([]:List Keyword).isEmpty then 0 else 1)<30))=true:=by
  rw [zah hst]; rfl
 have hneg:PE X (.UnaryOp .USub (.Constant (.int 1) k1 q5) q6) (tC (.int (-1))):=PE.weak (zoK zlz zhe) fun σ H Q q=>⟨1,rfl,q⟩
 have base:=zbZ (zhb (pos:=pos1) (pos':=pos1') hNd hx hxl (zhd (E:=E0) (dvs:=[]) (zcP (i:=j) (pos:=q1) hy hvy hdy hcy) cl hm F hr hb .nil zfe ht) hs1 hf1)
  (zbZ (zoG (pos:=pos2) hc.h hsa ziR)
  (zbZ (zdM (zkK Yd PySem.F.slot_list_append PySem.F.type_list_append (zcT (X:=X)) (zmY (zl7) (zmY (zjk) (zcP (i:=i) (pos:=q4) hx hvx hdx hcx) hneg (fun _ _=>rfl)) (zhe (i:=3)) (fun _ _=>rfl)) (zbO he.h zds (zah hst)) hb1 hfew hl1 (zah hst) rfl) hs2)
  (zcl (zdM (zoR Yd PySem.F.slot_list_clear PySem.F.type_list_clear (zkW (X:=X)) (zcP (i:=i) (pos:=q12) hx hvx hdx hcx) hb2 hl2) hs3))))
 refine ⟨PSs.weak base ?_⟩
 rintro N2 σ H ⟨W,Hi,Γ,N,g,⟨hin,d,b,rs,e0,⟨fs,ed,lk,lk2⟩,hne,h9,hd9,qc,qn⟩,l⟩
 have B:=g.bk j d b _ e0; obtain ⟨v0,hv0,den0⟩:=B.val; rw [ed] at den0; obtain ⟨a,dx,fvs,rfl,ha,df⟩:=den0.objI; obtain ⟨u,hu,du⟩:=df.look lk
 cases du.adrI
 obtain ⟨ps,hb4,dps⟩:=B.at_; obtain ⟨rows,hrl,hrows⟩:=ziG g.sub dps
 have hpl2:ps.length=rs.length:=by have:=zm dps; simpa using this
 refine ⟨.ref a,hv0,a,dx,fvs,rfl,g.sub _ _ ha,zcg df lk2,?_⟩
 refine ⟨a,dx,fvs,b,ps,rows,rfl,g.sub _ _ ha,hu,SqL.of hb4,by omega,fun m v x h1 h2=>?_,by omega,?_⟩
 ·have hm':m<rs.length:=by rw [<- hrl]; exact (yD.mp h2).1
  obtain ⟨y',hy',rd⟩:=hrows m v rs[m] h1 (yB hm'); rw [h2] at hy'; cases hy'; exact rd.1
 intro H1 L us sm hL hLu hul htold; obtain ⟨s1,g1⟩:=g.look
 -- the heap with the new things frozen
 let Hk:=zb3 X.N.length W Γ σ Hi H
 let Hk2:Hp:=fun a=>match H a with | none=>H1 a | some _=>Hk a
 have k2n:∀ {a:Addr},H a=none->Hk2 a=H1 a:=fun {a} e=>by show (match H a with | none=>H1 a | some _=>Hk a)=_; rw [e]
 have k2o:∀ {a:Addr} {o:HO},H a=some o->Hk2 a=Hk a:=fun {a o} e=>by show (match H a with | none=>H1 a | some _=>Hk a)=_; rw [e]
 have sHk:zaR Hk H:=g1.sub
 have ex:Ext Hk H Hk2 H1:=by
  refine ⟨fun a o e=>?_,sm,⟨fun a o e=>?_,fun a xs e=>?_⟩,fun a o e=>k2o e⟩
  ·rw [k2o (sHk a o e)]; exact e
  ·cases hH:H a with
   | none=>rw [k2n hH] at e; exact e
   | some o' =>
    rw [k2o hH] at e; exact sm a o (sHk a o e)
  ·cases hH:H a with
   | none=>rw [k2n hH]; exact e
   | some o' =>
    rw [k2o hH]
    have:=sm a o' hH
    rw [e] at this; cases this; exact g1.fz.tups a xs hH
 have sH2:zaR Hi Hk2:=s1.trans ex.hi
 have tell:∀ (m:Nat) u x,us[m]?=some u->rs[m]?=some x->Den X.K Hk2 u (zmq x)/\∃ t b' w1 w2 w3 ws,u=.ref t/\H1 t=some (.tup [w1,w2,w3,.ref b'])/\H1 b'=some (.lst ws)/\ws.length=x.2.2.2.length/\H t=none/\H b'=none/\b'≠L:=fun m u' x' h1 h2=>by
  have hm1:m<rs.length:=(yD.mp h2).1
  have hm2:m<ps.length:=by omega
  obtain ⟨y',hy',rd,d1,d2,d3,d4⟩:=hrows m ps[m] x' (yB hm2) h2; obtain ⟨u2,hu2,t,b',e,t1,t2,t3,t4,t5⟩:=htold m y' hy'; rw [h1] at hu2; cases hu2; subst e; refine ⟨Den.mkT ((k2n t3).trans t1) (.cons (d1.mono sH2) (.cons (d2.mono sH2) (.cons (d3.mono sH2) (.cons (Den.mkL (SqL.of ((k2n t4).trans t2)) (d4.mono sH2)) .nil)))),t,b',_,_,_,_,rfl,t1,t2,zm d4,t3,t4,t5⟩
 have hul2:us.length=rs.length:=by omega
 have dus:Den X.K Hk2 (.ref L) (.lst (rs.map zmq)):=by
  refine Den.mkL (SqL.of ((k2n hL).trans hLu)) (paired_of (by rw [yE]; exact hul2) fun m u' x' h1 h2=>?_)
  rw [yF] at h2
  cases hx2:rs[m]? with
  | none=>rw [hx2] at h2; cases h2
  | some x2 =>
   rw [hx2] at h2; cases h2; exact (tell m u' x2 h1 hx2).1
 have g2:Good X.K X.N.length ⟨H1,Hk2,[]⟩ Hk2 (zae X.N.length Γ) σ H1:=by
  have g1':=g1.ext ex
  refine ⟨g1'.len,g1'.fz,fun a o e _=>e,fun a o e=>⟨o,e⟩,fun a o e=>rfl,g1'.val,fun i o e=>?_,fun i j o o' a e=>?_,fun i d b xs e=>?_⟩
  all_goals
   unfold zae at e; rw [yF] at e
   cases hz:(Γ.take X.N.length)[i]? with
   | none=>rw [hz] at e; cases e
   | some sl=>rw [hz] at e; cases sl <;> cases e
 have g3:=g2.set (i:=i) hin dus; refine ⟨⟨H1,Hk2,[]⟩,Hk2,_,_,g3,qc,?_⟩
 rintro b2 H2 Hi2 Γ2 s2 g4 ⟨rfl,qe⟩
 simp only [YY,if_false]
 have hσ:(σ.set i (some (V.ref L)))[i]?=some (some (.ref L)):=yz (by rw [g.len]; exact hin)
 have hl0:0<rs.length:=List.length_pos_iff.mpr hne
 have hm1:rs.length-1<us.length:=by omega
 have hm2:rs.length-1<rs.length:=by omega
 obtain ⟨_,t,b',w1,w2,w3,ws,eu,t1,t2,t3,t4,t5,t6⟩:=tell (rs.length-1) us[rs.length-1] rs[rs.length-1] (yB hm1) (yB hm2)
 have kp2:∀ a o,H1 a=some o->H2 a=some o:=fun a o e=>g4.keep a o e (by simp)
 have hat:atI us (-1)=some (V.ref t):=by
  rw [<- eu]
  have e1:ixN us.length (-1)=some (rs.length-1):=by
   unfold ixN
   simp only [show ¬ (0:Int)<=-1 by decide,if_false]
   rw [yW (by omega)]
   congr 1
   omega
  unfold atI; rw [e1]; exact yB hm1
 refine ⟨.ref L,hσ,L,us,-1,.ref t,rfl,rfl,SqL.of (kp2 _ _ hLu),hat,t,_,3,.ref b',rfl,rfl,SqT.of (kp2 _ _ t1),znO _ _ _ _ _,.inl ⟨rfl,ws,SqL.of (kp2 _ _ t2)⟩,?_⟩; refine ⟨⟨H1,Hk2,[]⟩,Hi2,Γ2,_,g4,qe,?_⟩
 rintro v H3 ⟨Hi3,d3,Γ3,s3,g5,den3,_⟩
 have kp3:∀ a o,H1 a=some o->H3 a=some o:=fun a o e=>g5.keep a o e (by simp)
 have hws:ws.length<=900:=by rw [t3]; exact hd9 _ (List.getElem_mem hm2)
 refine ⟨b',ws,v,rfl,rfl,kp3 _ _ t2,by rw [sizeLine_eq]; omega,?_⟩
 refine ⟨.ref L,hσ,.inl ⟨rfl,us,SqL.of ?_⟩,L,us,rfl,rfl,?_,?_⟩
 ·rw [zp t6.symm]; exact kp3 _ _ hLu
 ·rw [zp t6.symm]; exact kp3 _ _ hLu
 generalize hH5:upd (upd H3 b' (.lst (ws ++ [v]))) L (.lst [])=H5
 have h5:∀ a o,H a=some o->H5 a=some o:=fun a o e=>by
  rw [<- hH5,zp (zag e hL),zp (zag e t5)]; exact kp3 _ _ (sm a o e)
 have h5L:H5 L=some (.lst []):=by rw [<- hH5,zo]
 let Hi5:Hp:=fun a=>match H a with | some _=>Hi a | none=>match H5 a with | some (.tup xs)=>some (.tup xs) | _=>none
 have i5o:∀ {a:Addr} {o:HO},H a=some o->Hi5 a=Hi a:=fun {a o} e=>by show (match H a with | some _=>Hi a | none=>_)=_; rw [e]
 have i5t:∀ {a:Addr} {xs:List V},H a=none->H5 a=some (.tup xs)->Hi5 a=some (.tup xs):=fun {a xs} e e2=>by show (match H a with | some _=>Hi a | none=>(match H5 a with | some (.tup xs)=>some (.tup xs) | _=>none))=_; rw [e,e2]
 have i5L:Hi5 L=none:=by show (match H L with | some _=>Hi L | none=>(match H5 L with | some (.tup xs)=>some (.tup xs) | _=>none))=_; rw [hL,h5L]
 have ex5:Ext Hi H Hi5 H5:=by
  refine ⟨fun a o e=>by rw [i5o (g.sub a o e)]; exact e,h5,⟨fun a o e=>?_,fun a xs e=>?_⟩,fun a o e=>i5o e⟩
  ·cases hH:H a with
   | none =>
    have e':(match H5 a with | some (.tup xs)=>some (HO.tup xs) | _=>none)=some o:=by
     have:Hi5 a=_:=rfl
     rw [<- e]
     show _=(match H a with | some _=>Hi a | none=>(match H5 a with | some (.tup xs)=>some (.tup xs) | _=>none))
     rw [hH]
    split at e'
    ·rename_i xs q
     rw [q]; exact e'
    ·cases e'
   | some o' =>
    rw [i5o hH] at e; exact h5 a o (g.sub a o e)
  ·cases hH:H a with
   | none=>exact i5t hH e
   | some o' =>
    rw [i5o hH]
    have:=h5 a o' hH
    rw [e] at this; cases this; exact g.fz.tups a xs hH
 have nw:=zbl (o:=.lst []) g ex5 i5L hL ⟨[],h5L,.nil⟩; exact l.nx _ H5 Hi5 _ ex5.hi ((g.ext ex5).setO hin nw.hi nw.h0 nw.ne nw.own) qn
def zky {C:Addr} (i j:Nat) {x y:Str} {c e:Expr} {sa:List Stmt} {ta:TS} {tc:TT'} {te:TE'} {pos1 pos1' pos2 pos3 pos4 q1 q2 q3 q4 q5 q6 q7 q8 q9 q10 q11 q12 q13 q14:Pos} {k1 k3:Nat}
  (h:MthA X.prog X.w X.K X.mg X.base C) (hr:Room 1 X.A) (hNd:X.N.Nodup)
  (hc:PT' X c tc) (hsa:PSs X sa ta) (he:PE' X e te) (hpl:zbN [e]=true:=by rfl)
  (hx:X.N[i]?=some x:=by rfl) (hxl:Loc X.env.scope x:=by first | exact YA rfl | exact yr rfl) (hvx:Vis X.env.scope x:=by first | exact YA rfl | exact yr (YA rfl) | exact yr (yr rfl)) (hdx:yyD x:=by decide) (hcx:(x == ("__classdict__":Str))=false:=by decide)
  (hy:X.N[j]?=some y:=by rfl) (hvy:Vis X.env.scope y:=by first | exact YA rfl | exact yr (YA rfl) | exact yr (yr rfl)) (hdy:yyD y:=by decide) (hcy:(y == ("__classdict__":Str))=false:=by decide) {pl:Sem Bool}
  (ht:eval (.Call (.Attribute (.Name y q1) "acts" q2) [] [] q3) X.env=(do
   let ov <- eval (.Name y q1) X.env
   standAt q2.atName
   let (f,first) <- holding [ov] (getMethod ov "acts" pl)
   callWith q3 f first (backTo q3 (starEach [] X.env)) (backToKw q3 (keywordEach [] X.env))):=by rfl)
  (hs1:swapsWith (.Call (.Attribute (.Name y q1) "acts" q2) [] [] q3) (some (.Name x pos1')) pos1.line X.env=pure false:=by rfl)
  (hf1:X.fn x=true\/X.env.scope.names.lookup x=some .local:=by first | exact .inl rfl | exact .inr rfl | assumption)
  (hb1:attributeBase (.Subscript (.Subscript (.Name x q4) (.UnaryOp .USub (.Constant (.int 1) k1 q5) q6) q7) (.Constant (.int 3) k3 q8) q9) "append" X.env (eval (.Subscript (.Subscript (.Name x q4) (.UnaryOp .USub (.Constant (.int 1) k1 q5) q6) q7) (.Constant (.int 3) k3 q8) q9) X.env)=eval (.Subscript (.Subscript (.Name x q4) (.UnaryOp .USub (.Constant (.int 1) k1 q5) q6) q7) (.Constant (.int 3) k3 q8) q9) X.env:=by rfl)
  (hl1:(q10.endLine == q11.line)=true:=by rfl)
  (hs2:swapsWith (.Call (.Attribute (.Subscript (.Subscript (.Name x q4) (.UnaryOp .USub (.Constant (.int 1) k1 q5) q6) q7) (.Constant (.int 3) k3 q8) q9) "append" q10) [e] [] q11) none pos3.line X.env=pure false:=by rfl)
  (hb2:attributeBase (.Name x q12) "clear" X.env (eval (.Name x q12) X.env)=eval (.Name x q12) X.env:=by rfl) (hl2:(q13.endLine == q14.line)=true:=by rfl)
  (hs3:swapsWith (.Call (.Attribute (.Name x q12) "clear" q13) [] [] q14) none pos4.line X.env=pure false:=by rfl) :
  PSs' X [.Assign [.Name x pos1'] (.Call (.Attribute (.Name y q1) "acts" q2) [] [] q3) pos1,.If c sa [] pos2,
   .Expr (.Call (.Attribute (.Subscript (.Subscript (.Name x q4) (.UnaryOp .USub (.Constant (.int 1) k1 q5) q6) q7) (.Constant (.int 3) k3 q8) q9) "append" q10) [e] [] q11) pos3,
   .Expr (.Call (.Attribute (.Name x q12) "clear" q13) [] [] q14) pos4] (zdX X.K X.N.length C i j tc te):=by
 obtain ⟨f,fd,F,hb,hm,cl⟩:=h.ex; exact zmR i j F hr hb hm cl hNd hc hsa he hpl hx hxl hvx hdx hcx hy hvy hdy hcy ht hs1 hf1 hb1 hl1 hs2 hb2 hl2 hs3
end
end PL
namespace L2
open PySem PySem.Spec PyProof.Rows PySem.W
section
end
section
abbrev I3:=Int × Int × Int
end
section
variable {o e:Expr} {apos cpos:Pos} {td ty:TE}
abbrev zhG (ls:List Str):List V:=ls.map fun l=>V.str l
def zn8 (K:W.Frag) (td ty:TE):TE:=fun σ H Q=>td σ H fun x H1=>∃ (a:Addr) (ls:List Str),x=.ref a/\SqL K H1 a (zhG ls)/\ty σ H1 fun y H2=>∃ (ls':List Str) (l:Str) (j:Nat),SqL K H2 a (zhG ls')/\y=.str l/\ls'[j]?=some l/\(∀ i,i<j->ls'[i]?≠some l)/\Q (.int j) H2
def isS (l:Str):Value->Bool
 | .str m _=>m == l
 | _=>false
def zgp {ls:List Str} {its:List Value} (r:za4 (zhG ls) its) {i:Nat} (hi:i<its.length):∃ t m,its[i]=.str m t/\ls[i]?=some m:=by
 have hl:=r.length; rw [yE] at hl
 obtain ⟨u,hu,ru⟩:=r.get (show (zhG ls)[i]?=some (V.str (ls[i]'(by omega))) by simp [yF,yB (by omega:i<ls.length)])
 rw [yB hi] at hu; cases hu; obtain ⟨t,e⟩:=ru; exact ⟨t,_,e,yB _⟩
def zkE (ho:PE X o td) (he:PE X e ty) (m:M1 X o "index" apos e cpos):PE X (.Call (.Attribute o "index" apos) [e] [] cpos) (zn8 X.K td ty):=by
 intro pins s σ H Q I h
 refine wpAny_Call_method m.base m.few m.line Yd PySem.F.slot_list_index PySem.F.type_list_index (thn (ho pins s σ H _ I h) fun u s1 ⟨x,H1,I1,rx,a,ls,ex,d,q1⟩=>?_)
 subst ex
 obtain rfl:u=Value.ref a:=rx
 obtain ⟨its0,r0,⟨o0,n0,g0,c0,z0,y0⟩,hz0⟩:=I1.list d
 refine ⟨⟨o0,g0,c0⟩,fun a e=>by cases e; exact ⟨o0,g0,z0⟩,?_⟩
 rw [m.trees]
 refine Calls.callWith_builtin rfl (Calls.evalArgs_plain (Calls.spliced_cons (thn (he pins s1 σ H1 _ I1 q1) fun iv s2 ⟨y,H2,I2,ry,ls',l,j,d2,ey,hj,hn,q3⟩=>Calls.spliced_nil ?_)))
 subst ey; obtain ⟨ti,rfl⟩:=ry
 obtain ⟨its,r,⟨o,n,g,c,z,y⟩,hz⟩:=I2.list d2
 have hl:=r.length; rw [yE] at hl hz; rw [sizeLine_eq] at hz; have hjl:=(yD.mp hj).1
 have ho:s2.heap.get? a=some { cls:=.type "list",dict:=none,data:=.seq its.toArray n,slots:=o.slots }:=by
  rw [g,<- c,<- z,<- y]
 refine call_meets PySem.F.slot_list_index ⟨o,g,c⟩ PySem.F.entry_list_index (PySem.F.args_list_index_2 _ _) (SeqAt.list_indexAt a its.toArray n none o.slots (.str l ti) (isS l) j (by simpa using (by omega:j<its.length)) (by omega) ?_ fun i hi hlt=>?_) ⟨ho,fun w hw=>?_,?_⟩
 ·obtain ⟨t,m,e1,e2⟩:=zgp r (by omega:j<its.length)
  rw [hj] at e2; cases e2; simp [e1,isS]
 ·have hi':i<its.length:=by simpa using hi
  obtain ⟨t,m,e1,e2⟩:=zgp r hi'
  have:=hn i hlt
  rw [e2] at this; simp only [List.getElem_toArray,e1,isS]; rw [beq_eq_false_iff_ne]
  rintro rfl
  exact this rfl
 ·obtain ⟨i,hi,e⟩:=List.getElem_of_mem (show w ∈ its by simpa using hw)
  obtain ⟨t,m,e1,e2⟩:=zgp r hi; rw [<- e,e1]; exact SeqAt.EqAt.str_str _ _ _ _
 ·exact ⟨.int j,H2,I2.tok _,⟨_,rfl⟩,q3⟩
end
end L2
namespace PL
open PySem L2
section
def zw (td ty:TE'):TE':=fun Γ Q=>td Γ fun d Γ1=>∃ ls:List (List Nat),d=.lst (ls.map .str)/\ty Γ1 fun k Γ2=>∃ (l:List Nat) (j:Nat),k=.str l/\ls[j]?=some l/\(∀ i,i<j->ls[i]?≠some l)/\Q (.int j) Γ2
def zi2 {o e:Expr} {apos cpos:Pos} {td ty:TE'} (ho:PE' X o td) (he:PE' X e ty) (m:M1 X o "index" apos e cpos:=by exact ⟨rfl,rfl,rfl,rfl⟩) :
  PE' X (.Call (.Attribute o "index" apos) [e] [] cpos) (zw td ty):=by
 refine ⟨PE.weak (zkE ho.h he.h m) ?_⟩
 rintro σ H Q ⟨W,Hi,Γ,Q',g,h,fin⟩
 refine ⟨W,Hi,Γ,_,g,h,?_⟩
 rintro x H1 ⟨Hi1,d,Γ1,s1,g1,den1,ls,rfl,h1⟩
 obtain ⟨a,vs,rfl,ha,dl⟩:=den1.lstI
 have ev:∀ (ls:List (List Nat)),ls.map (fun l=>V.str (st l))=zhG (ls.map st):=fun ls=>by rw [zhG,YH]; rfl
 rw [zd7 dl,ev] at ha; refine ⟨a,ls.map st,rfl,zab g1.sub ha,W,Hi1,Γ1,_,g1,h1,?_⟩
 rintro y H2 ⟨Hi2,dy,Γ2,s2,g2,den2,l,j,rfl,hj,hn,q⟩
 cases den2.strI
 refine ⟨ls.map st,st l,j,zab g2.sub (zab s2 ha),rfl,by rw [yF,hj]; rfl,fun i hi z=>?_,fin _ H2 ⟨Hi2,_,Γ2,s1.trans s2,g2,.int _,q⟩⟩
 rw [yF] at z; obtain ⟨m,hm,e⟩:=yK.mp z
 have:m=l:=by rw [<- zcb m,e,zcb]
 subst this; exact hn i hi hm
end
end PL
namespace L2
open PySem PySem.Spec PyProof.Rows
section
def ite_neg {α:Type} {M:Model} {c:Prop} [Decidable c] {t e:Sem α} {Q:α->Shared->Prop} (hc:¬ c) (h:wpAny M A e Q E s):wpAny M A (if c then t else e) Q E s:=by rw [yS hc]; exact h
end
section
end
section
variable {K:Type} [DecidableEq K] {knd:HeapKind prog w K} {d a:Addr} {k:K} {xs:List (K × Addr × Value)}
end
section
variable {a:Addr}
end
section
variable {o e f:Expr} {apos cpos:Pos} {td ty tx:TE}
end
end L2
namespace X1
open PySem PyProof.Rows
section
variable {h:Heap} {g:Array GenState} {d:Drawn} {t:Nat} {os:OsState} {C N:Addr} {bm bmB:List Value} {B nid iid:String} {mN:Str->Option Value} {zbF:List Value}
def make0 {Q:Value->Shared->Prop} (F:ExcBaseFacts B nid iid bmB) (T:OwnTail h bmB bm) (X:XC h C N bm nid) (hn:h.Ns N mN) (hi:mN "__init__"=none) (hr:zbF.length<=sizeLine)
  (k:∀ h' t0 sl,(∀ b o,h.get? b=some o->h'.get? b=some o)->h'.get? (h.objs.size+1)=some ⟨.ref C,none,.fields #[.ref t0,.none,.none,.none,.bool false,.none],sl⟩->Q (.ref (h.objs.size+1)) ⟨h',g,d,t,os⟩) :
  wpAny (model prog w) A (call (.ref C) zbF) Q E ⟨h,g,d,t,os⟩:=by
 obtain ⟨nm,q,bs,hd,sn,sub,ab,col,dd,k0,k1,k2,k3,k5,hC⟩:=X.ex; have f1:=tc_lookup; have f2:=tc_bind (.ref C)
 have hT:(⟨h,g,d,t,os⟩:Shared).TypeIs (.ref C) "type":=⟨_,hC,rfl⟩
 refine wpAny_call (codeAny_of_tree ?_)
 show wpAny _ _ (callAny (.ref C) _) _ _ _
 repeat (any_goals (first | assumption | with_reducible refine YT hC ?_ | wp_step))
 refine ⟨rfl,?_⟩
 refine codeAny_call_builtin_at (Code.quiet_builtin _ (by decide +kernel)) entry_typeCall (wpAny_check_type_call_sub hC ?_)
 repeat (first | with_reducible refine YT hC ?_ | with_reducible refine wpAny_madeBy_exc hC ?_ | wp_step)
 refine codeAny_call_builtin_code (Code.quiet_builtin _ F.quiet) (wpAny_check_new_subT F T hC ?_); refine codeAny_exc_new_subT F T hC ?_ hr
 show wpAny _ _ _ _ _ (⟨madeX h C zbF,g,d,t,os⟩:Shared)
 have hC1:=madeX_keep (C:=C) (vs:=zbF) _ _ hC
 have hn1:(madeX h C zbF).Ns N mN:=hn.keeps madeX_keep
 have hg1:=madeX_at (h:=h) (C:=C) (vs:=zbF); have T1:=T.keeps (madeX_keep (C:=C) (vs:=zbF))
 have hcC:(Value.ref C :: bm).contains (.ref C)=true:=by simp
 unfold isInstance
 repeat (first | with_reducible refine YT hg1 ?_ | (with_reducible refine wpAny_isSubtype_exc hC1 ?_; rw [hcC]) | wp_step)
 show wpAny _ _ (typeLookup (.ref C) _) _ _ _
 refine wpAny_typeLookup_tail hC1 hn1 T1 F.mroIs F.init.lookup ?_; rw [hi]
 have X1':XC (madeX h C zbF) C N bm nid:=X.kp madeX_keep
 refine Ya (yA (wpAny_of_eq (F.init.bind (.ref (h.objs.size+1))) ?_)); refine yA (base_init F T1 X1' hg1 (t0:=h.objs.size) rfl hr ?_)
 refine yG (L2.ite_neg (by decide) (yG ?_))
 refine k _ (madeX h C zbF).objs.size _ (fun b o e=>?_) (YB _ (yC _ hg1) rfl)
 have lt:=yH e
 rw [yX _ _ (fun z=>yU lt (by rw [<- z]; exact Nat.not_lt.mpr (Nat.le_succ _)))]
 exact yC _ (madeX_keep _ _ e)
end
end X1
namespace L2
open PySem PySem.Spec PyProof.Rows
structure XNo (K:W.Frag) (N:Addr):Prop where
 ns:∀ h:Heap,K.In h->∃ mN,h.Ns N mN/\mN "__init__"=none
section
def zmp (C:Addr) (ta:TA):TSx:=fun _ E σ H=>ta σ H fun vs H1=>(∃ v,vs=[v])/\E σ (.ref C) none H1
def ziq {C N:Addr} {bm:List Value} {x:Str} {e:Expr} {ta:TA} {p cpos pos:Pos} (hc:X.calm=true) (T:XCl X.K C N bm) (TI:XNo X.K N)
  (hg:Gl X x) (hm:X.mg x=some (.ref C)) (ha:PA X.nox [e] ta) (hs:starEach [e] X.env=(false,eval e X.env) :: starEach [] X.env:=by rfl) (hdb:yyD x:=by decide) :
  PSx X (.Raise (some (.Call (.Name x p) [e] [] cpos)) none pos) (zmp C ta):=by
 intro pins s σ H D E I h; rw [arm_exec_Raise]; refine yA (wpAny_standAt ?_)
 show wpAny _ _ (raiseStmt X.env (some (do let v <- eval (.Call (.Name x p) [e] [] cpos) X.env; standAt pos; pure v)) none) _ _ _
 refine X1.raise_at (C:=C) (N:=N) (nid:="ValueError.__new__") T.base (I.ok.hd hc) (yA ?_); refine YO (zco I hg hm ?_ hdb)
 refine W.callWith_K (h₀:=X.base) I.ok.mod.kin T.kp (thn (PA.x ha I h) fun us s1 ⟨vs,H1,I1,r,⟨v,ev⟩,q⟩=>⟨I1.kIn,?_⟩) hs rfl
 subst ev; obtain ⟨u,rfl,ru⟩:=zdh r; obtain ⟨hh,g,d,t,os⟩:=s1; obtain ⟨mN,hN,hi⟩:=TI.ns hh I1.kIn; have xc:=T.xc hh I1.kIn
 refine X1.make0 PySem.F.excBase_ValueError (T.tail hh I1.kIn) xc hN hi (by show 1<=sizeLine; exact Nat.le_of_lt (zbg (by decide))) fun h' t0 sl kp m1=>?_
 have I2:Inv X pins σ H1 ⟨h',g,d,t,os⟩:=I1.kept (t':=t) kp
 refine yA (wpAny_standAt (yG ⟨hh.objs.size+1,none,_,sl,rfl,T.xc _ I2.kIn,m1,rfl,hh.objs.size+1,C,none,σ,H1,rfl,I2,⟨?_,_,⟨sl,m1⟩,by simp,.inl (.inl ⟨rfl,rfl⟩)⟩,q⟩))
 exact I1.fpOk (Nat.le_succ _) (I1.hok.fresh (Nat.le_succ _))
end
end L2
namespace PL
open PySem L2
structure Xc0 (K:W.Frag) (mg:Str->Option Value) (x:Str) (C:Addr):Prop where
 ex:∃ N bm,XCl K C N bm/\XNo K N/\mg x=some (.ref C)
section
variable {x:Str} {C:Addr} {p cpos pos:Pos} {e:Expr} {ta:TA'}
def zq (C:Addr) (ta:TA'):zfz:=fun _ E Γ=>ta Γ fun ds Γ1=>(∃ d,ds=[d])/\E C [] Γ1
def zdB (T:Xc0 X.K X.mg x C) (ha:PA' X.nox [e] ta) (hc:X.calm=true:=by rfl) (hg:Gl X x:=by rfl) (hdb:yyD x:=by decide) :
  PSx' X (.Raise (some (.Call (.Name x p) [e] [] cpos)) none pos) (zq C ta):=by
 obtain ⟨N,bm,h1,h2,m⟩:=T.ex; refine ⟨PSx.weak (ziq hc h1 h2 hg m ha.pa (zah (zC ha.pl).1) hdb) ?_⟩
 rintro N2 E2 σ H ⟨W,Hi,Γ,N',E,g,q,l,xl⟩
 refine ⟨W,Hi,Γ,_,g,q,?_⟩
 rintro vs H1 Hi1 Γ1 ds s1 g1 dl ⟨⟨d,rfl⟩,q1⟩
 obtain ⟨v,rfl,den⟩:=zde dl; exact ⟨⟨v,rfl⟩,xl σ _ _ Γ1 C none [] s1 g1 (.inl ⟨rfl,rfl⟩) q1⟩
end
end PL
namespace L2
open PySem PySem.Spec PyProof.Rows
def zg6 {n:Nat} (h:n<=100000):n<=sizeLine:=by rw [sizeLine_eq]; omega
section
end
section
def zkF (n:Nat) {c:Str} {j:Nat} {p p2 pos:Pos} {e:Expr} {te:TE} (hc:c.length+n<=100000) (he:PE X e te):PE X (.JoinedStr [.Constant (.str c) j p,.FormattedValue e 114 none p2] pos) (tFR X n te):=by
 intro pins s σ H Q I h; refine PyProof.Rows.JoinedStr_many (PyProof.Rows.joinParts_cons (Calls.Constant_str ?_))
 refine ⟨by rw [zjw]; exact zg6 (by omega),PyProof.Rows.joinParts_cons ?_⟩
 refine wpAny_FormattedValue_repr (thn (he pins _ σ H _ (I.tok _) h) fun v s1 ⟨y,H1,I1,r1,rp,q⟩=>?_)
 refine rp pins s1 σ v _ _ I1 r1 fun z t s2 hz I2=>?_
 refine PyProof.Rows.formatField_str (fun t' tk=>?_) (zg6 (by omega))
 have hl:(Str.empty ++ c ++ z).length<=sizeLine:=by rw [strLen_append,zjw]; exact zg6 (by omega)
 refine ⟨hl,PyProof.Rows.joinParts_nil ?_ hl⟩; exact ⟨.str _,H1,(I2.tok _).tok _,⟨_,rfl⟩,q _⟩
end
end L2
set_option synthInstance.maxSize 4096
set_option synthInstance.maxHeartbeats 2000000
namespace K31
open PySem L2 Lb PL M34
structure Cs where
 Book:Addr
 Swap:Addr
 Read:Addr
 PutIn:Addr
 LeaveOut:Addr
 Anew:Addr
 MendError:Addr
 NoPlace:Addr
 NoText:Addr
 NoFit:Addr
 NoName:Addr
 Twice:Addr
 NoDay:Addr
 NoAct:Addr
 NoRow:Addr
def exC (T:Cs):Nat->Addr
 | 0=>T.NoName
 | 1=>T.Twice
 | 2=>T.NoDay
 | _=>T.NoAct
structure CF (K:W.Frag) (T:Cs):Prop where
 xis:∀ v,v<4->X1.XIs K (exC T v)
 kE:∀ v u,v<4->u<4->W.kitOne K (.ref (exC T v)) (.ref (exC T u))=some (decide (v=u))
 kO:∀ v,v<4->W.kitAny K (.ref (exC T v)) [.ref T.NoFit,.ref T.NoPlace,.ref T.NoRow,.ref T.NoText]=some false
 kV:∀ v,v<4->W.kitOne K (.ref (exC T v)) (.type "ValueError")=some true
 eA:∀ v,v<4->W.exmOne K (.ref (exC T v)) (.ref T.NoAct)=some (decide (v=3))
 eM:∀ v,v<4->W.exmOne K (.ref (exC T v)) (.ref T.MendError)=some true
 xfl:XFl K T.NoAct
 nan:zaQ K T.NoAct "name"
 cl:Cls K T.Book
 naT:zaQ K T.Book "tree"
 naP:zaQ K T.Book "past"
 iR:InsT K T.Read
 iS:InsT K T.Swap
 iP:InsT K T.PutIn
 iL:InsT K T.LeaveOut
 iA:InsT K T.Anew
 nRp:zaQ K T.Read "place"
 nRw:zaQ K T.Read "words"
 nSp:zaQ K T.Swap "place"
 nSo:zaQ K T.Swap "old"
 nSn:zaQ K T.Swap "new"
 nPp:zaQ K T.PutIn "place"
 nPn:zaQ K T.PutIn "node"
 nLp:zaQ K T.LeaveOut "place"
 nAp:zaQ K T.Anew "place"
 kRR:W.kitOne K (.ref T.Read) (.ref T.Read)=some true
 kSS:W.kitOne K (.ref T.Swap) (.ref T.Swap)=some true
 kPP:W.kitOne K (.ref T.PutIn) (.ref T.PutIn)=some true
 kLL:W.kitOne K (.ref T.LeaveOut) (.ref T.LeaveOut)=some true
 kAA:W.kitOne K (.ref T.Anew) (.ref T.Anew)=some true
def zlv (l:List Nat):Prop:=1<=l.length/\l.length<=8/\∀ c,c ∈ l->c ∈ zfA
structure Ent where
 nm:List Nat
 day:Int
 oth:Option (List Nat)
abbrev Act:=Ent × List Deed
def zeS:Option (List Nat)->D
 | none=>.non
 | some l=>.str l
def zcn (a:Act):D:=.tup [.str a.1.nm,.int a.1.day,zeS a.1.oth,.tup (a.2.map deD)]
def zbd (a:Act):D:=.tup [.str a.1.nm,.int a.1.day,zeS a.1.oth,.lst (a.2.map deD)]
def bkF (T:Cs) (t:D):D->D:=fun z=>.obj T.Book [("tree",t),("past",z)]
def bkD (T:Cs) (t:D) (es:List Act):D:=.obj T.Book [("tree",t),("past",.lst (es.map zcn))]
def nms (es:List Act):List (List Nat):=es.map (·.1.nm)
def chg:List Nat:=[99,104,97,110,103,101]
def zgX (ah:List (List Nat)) (d:D):Prop:=∃ k x r,d=.tup (.str k :: x :: r)/\(k=chg\/(k≠chg/\∃ n,n ∈ ah/\x=.str n))
def zba:Sp':=fun ds Q=>∃ (ns:List Int) (k:Int),ds=[.lst (ns.map .int),.int k]/\0<=k/\ns.length<=200/\∀ c:Int,Q (.val (.int c))
def zcx:Sp':=fun ds Q=>∃ l y,ds=[.str l,.str y]/\l.length<=1000/\Q (.val (.bl (l.all fun c=>decide (c ∈ y))))
def nmB:D->Bool
 | .str l=>decide (1<=l.length) && (decide (l.length<=8) && l.all fun c=>decide (c ∈ zfA))
 | _=>false
def zhj {l:List Nat} (h:zlv l):nmB (.str l)=true:=by
 obtain ⟨h1,h2,h3⟩:=h; simp only [nmB]
 rw [YC h1,YC h2,Yf.mpr fun c hc=>YC (h3 c hc)]
 rfl
def Nm1 (x:D):Prop:=(∃ l,x=.str l/\l.length<=1000)\/x=.non\/(∃ i,x=.int i)\/∃ l,x=.tup l
def zcW:Sp':=fun ds Q=>∃ x,ds=[x]/\Nm1 x/\Q (.val (.bl (nmB x)))
def nmd (dl:List Deed):List (List Nat):=dl.filterMap fun d=>match d with
 | .ch _ _ _=>none
 | .lat n _ _=>some n
 | .ins n _ _=>some n
 | .drp n _=>some n
def zjc (a b:List Deed):nmd (a ++ b)=nmd a ++ nmd b:=List.filterMap_append ..
def zjb (a:List Deed):(nmd a).length<=a.length:=List.length_filterMap_le _ _
def zct:Sp':=fun ds Q=>∃ dl:List Deed,ds=[.lst (dl.map deD)]/\dl.length<=100/\Q (.val (.lst ((nmd dl).map .str)))
def zjU (es:List Act) (nm:List Nat) (day:Int):Prop:=es.length<=100/\zlv nm/\nm ∉ nms es/\∀ e,e ∈ es->e.1.day<=day
def sp_Book_refuse_act (T:Cs):Sp':=fun ds Q=>∃ (t:D) (es:List Act) (nm:List Nat) (day:Int) (ns:List (List Nat)),ds=[bkD T t es,.str nm,.int day,.lst (ns.map .str)]/\zjU es nm day/\ns.length<=100/\(∀ n,n ∈ ns->n ∈ nms es)/\Q (.val .non)
def sp_Book_act (T:Cs):SpB:=fun d xs ds Q=>∃ (t:D) (es:List Act) (nm:List Nat) (day:Int) (dl:List Deed),d=bkF T t/\xs=es.map zcn/\ds=[.str nm,.int day,.lst (dl.map deD)]/\zjU es nm day/\dl.length<=100/\(∀ x,x ∈ dl->zgX (nms es) (deD x))/\Q .non ((es ++ [((⟨nm,day,none⟩:Ent),dl)]).map zcn)
def sp_Book_back (T:Cs):SpB:=fun d xs ds Q=>∃ (t:D) (es:List Act) (nm:List Nat) (day:Int) (o:List Nat),d=bkF T t/\xs=es.map zcn/\ds=[.str nm,.int day,.str o]/\zjU es nm day/\o ∈ nms es/\Q .non ((es ++ [((⟨nm,day,some o⟩:Ent),([]:List Deed))]).map zcn)
def zcK (T:Cs):Sp':=fun ds Q=>∃ t es,ds=[bkD T t es]/\es.length<=100/\Q (.val (.lst (es.map zbd)))
instance:MSp zba:=⟨fun _ _ _ h ⟨ns,k,e,a,b,q⟩=>⟨ns,k,e,a,b,fun c=>h _ (q c)⟩⟩
instance {T:Cs}:MSpB (sp_Book_act T):=⟨fun _ _ _ _ _ h ⟨t,es,nm,day,dl,e,a,b,c,d,f,q⟩=>⟨t,es,nm,day,dl,e,a,b,c,d,f,h _ _ q⟩⟩
instance {T:Cs}:MSpB (sp_Book_back T):=⟨fun _ _ _ _ _ h ⟨t,es,nm,day,dl,e,a,b,c,d,q⟩=>⟨t,es,nm,day,dl,e,a,b,c,d,h _ _ q⟩⟩
def small {n:Nat} (h:n<=1000):n<=sizeLine:=Nat.le_of_lt (zbg h)
def zgP {Q:D->Prop} {l:List Nat} {ms:List (List Nat)} (h:Q (.bl (decide (l ∈ ms)))):zox (.str l) (.lst (ms.map .str)) Q:=.inr (.inr ⟨l,ms,rfl,.inr rfl,h⟩)
def zdO {Q:D->Prop} {l:List Nat} {ms:List (List Nat)} (h:Q (.bl (!decide (l ∈ ms)))):zec (.str l) (.lst (ms.map .str)) Q:=.inr (.inr ⟨l,ms,rfl,.inr rfl,h⟩)
def lkP {t z:D}:List.lookup (Str.ofString "past") [(Str.ofString "tree",t),(Str.ofString "past",z)]=some z:=rfl
def lkT {t z:D}:List.lookup (Str.ofString "tree") [(Str.ofString "tree",t),(Str.ofString "past",z)]=some t:=rfl
def za1 {α:Type} {l:List α} {i:Nat} {a:α} (h:l[i]?=some a):l.take (i+1)=l.take i ++ [a]:=by
 rw [List.take_add_one,h]; rfl
def ze3 {α:Type} (l:List α):l.take l.length=l:=yx
section
variable {T:Cs}
theorem zgd (y:List Nat) (Q:List D->Prop):∀ (l:List Nat) (acc:List Bool) (s0:Slot),Q ((acc ++ l.map fun c=>decide (c ∈ y)).map .bl) ->
  zc2 (zB 0) zbn (zbf zox (zad 0) (zad 1)) Q (l.map fun c=>.str [c]) (acc.map .bl) [s0,.val (.str y)]
 | [],acc,s0,h=>by simpa [zc2] using h
 | c :: l,acc,s0,h=>by
  have ih:=zgd y Q l (acc ++ [decide (c ∈ y)]) (.val (.str [c])) (by simpa using h)
  simpa [zc2,vo,voS,zB,zbn,zbf,zad] using ih
def zgt:FnScope ["text","signs"] ["text","signs"] (zk zcZ):=sc0
def zgJ (d:Df K mg "has_only" zcZ ["text","signs"]) (z_all:mg "all"=none):Fn P w K mg base 1 "has_only" ["text","signs"] zcx:=by
 refine d.ok zgt (fun ds Q h=>?_) (fun f cdv A outer s H E hr ds Q h=>⟨_,(zn (zy (zG (zrB rfl) z_all PyProof.Rows.boot_all (zc (za0 (zdc (fsc:=zk zcZ) (N:=["text","signs"]) (N':=["sign","signs"]) (src:=[none,some 1]) (by refine ⟨rfl,?_,?_,?_,rfl,rfl⟩ <;> decide +kernel) (zcm (pv' 0)) (fun _ _ _ _ _ _=>(zaF 0 (show (["sign","signs"]:List Str).Nodup by decide +kernel))) (fun _ _ _ _ _ _=>zbM) (fun _ _ _ _ _ _=>(zbv (zkQ (zH hr)) (pv' 0) (pv' 1))))) zj)))),?_⟩)
 ·obtain ⟨l,y,rfl,_⟩:=h
  rfl
 obtain ⟨l,y,rfl,hl,q⟩:=h; simp [zak,zaq,zaf,zao,zB,zad,tC',zaM,zbf,tB',zar,zaz,zby,zW,zal,zO,zap,zav,zbs,zbz,zbx,zas,zbA,zu,zax,zaC,zP,zX,zJ,zI,zbn,zE,zV,zaw,zL,zay,zK,zU,zan,zae,zbw,zN,zaG,xS,zaJ,zR,zaH,zS,zv,zaL,zM,zau,zaI,zaD,zQ,zaE,zaB,zam,zaN,zat,zF,zbH,zaM,zw,zq,zT,zaK,zdX]; refine ⟨small hl,?_⟩; refine zgd y _ l [] _ ?_; rw [zmM rfl]
 simpa using q
def zhN:FnScope ["thing"] ["thing"] (zk zeb):=sc0
def zh1 (d:Df K mg "is_name" zeb ["thing"]) (G_has_only:Fn P w K mg base 1 "has_only" ["text","signs"] zcx) (z_isinstance:mg "isinstance"=none) (z_len:mg "len"=none) (z_str:mg "str"=none) {t_LONGEST_NAME:Tok} (g_LONGEST_NAME:mg "LONGEST_NAME"=some (.int 8 t_LONGEST_NAME)) {t_SMALL_LETTERS:Tok} (g_SMALL_LETTERS:mg "SMALL_LETTERS"=some (.str (st zfA) t_SMALL_LETTERS)):Fn P w K mg base 2 "is_name" ["thing"] zcW:=by
 refine d.ok zhN (fun ds Q h=>?_) (fun f cdv A outer s H E hr ds Q h=>⟨_,(zl (zaA (za6 (za5 (zG (zcj K rfl) z_isinstance yL (zc (pv' 0) (zc (zeR z_str PyProof.Rows.boot_str) zj))))) (zn (zy zbq)) zD)
  (zn (zy (zcA (zi4 zrV zrV zi (zG zci z_len yn (zc (pv' 0) zj)) (zoQ g_LONGEST_NAME)) (zdd (zbe G_has_only (hr.mono (by decide)) (zc (pv' 0) (zc (zoP g_SMALL_LETTERS) zj)))))))),?_⟩)
 ·obtain ⟨l,rfl,_⟩:=h
  rfl
 obtain ⟨x,rfl,hx,q⟩:=h
 rcases hx with ⟨l,rfl,hl⟩ | rfl | ⟨i,rfl⟩ | ⟨l,rfl⟩
 ·simp [zak,zaq,zaf,zao,zB,zad,tC',zaM,zbf,tB',zar,zaz,zby,zW,zal,zO,zap,zav,zbs,zbz,zbx,zas,zbA,zu,zax,zaC,zP,zX,zJ,zI,zbn,zE,zV,zaw,zL,zay,zK,zU,zan,zae,zbw,zN,zaG,xS,zaJ,zR,zaH,zS,zv,zaL,zM,zau,zaI,zaD,zQ,zaE,zaB,zam,zaN,zat,zF,zbH,zaM,zw,zq,zT,zaK,zdX,zcx]
  simp only [nmB] at q; refine ⟨small hl,?_⟩
  by_cases e1:1<=l.length
  ·rw [YC e1] at q
   refine .inr ⟨by omega,?_⟩
   by_cases e2:l.length<=8
   ·rw [YC e2] at q
    exact .inr ⟨by omega,hl,q⟩
   ·rw [yY e2] at q
    exact .inl ⟨by omega,q⟩
  ·rw [yY e1] at q
   exact .inl ⟨by omega,q⟩
 ·simp [zak,zaq,zaf,zao,zB,zad,tC',zaM,zbf,tB',zar,zaz,zby,zW,zal,zO,zap,zav,zbs,zbz,zbx,zas,zbA,zu,zax,zaC,zP,zX,zJ,zI,zbn,zE,zV,zaw,zL,zay,zK,zU,zan,zae,zbw,zN,zaG,xS,zaJ,zR,zaH,zS,zv,zaL,zM,zau,zaI,zaD,zQ,zaE,zaB,zam,zaN,zat,zF,zbH,zaM,zw,zq,zT,zaK,zdX]
  exact q
 ·simp [zak,zaq,zaf,zao,zB,zad,tC',zaM,zbf,tB',zar,zaz,zby,zW,zal,zO,zap,zav,zbs,zbz,zbx,zas,zbA,zu,zax,zaC,zP,zX,zJ,zI,zbn,zE,zV,zaw,zL,zay,zK,zU,zan,zae,zbw,zN,zaG,xS,zaJ,zR,zaH,zS,zv,zaL,zM,zau,zaI,zaD,zQ,zaE,zaB,zam,zaN,zat,zF,zbH,zaM,zw,zq,zT,zaK,zdX]
  exact q
 ·simp [zak,zaq,zaf,zao,zB,zad,tC',zaM,zbf,tB',zar,zaz,zby,zW,zal,zO,zap,zav,zbs,zbz,zbx,zas,zbA,zu,zax,zaC,zP,zX,zJ,zI,zbn,zE,zV,zaw,zL,zay,zK,zU,zan,zae,zbw,zN,zaG,xS,zaJ,zR,zaH,zS,zv,zaL,zM,zau,zaI,zaD,zQ,zaE,zaB,zam,zaN,zat,zF,zbH,zaM,zw,zq,zT,zaK,zdX]
  exact q
def zgr:FnScope ["deeds"] ["deeds"] (zk zcY):=sc0
def zgE (d:Df K mg "named_in" zcY ["deeds"]):Fn P w K mg base 1 "named_in" ["deeds"] zct:=by
 refine d.ok zgr (fun ds Q h=>?_) (fun f cdv A outer s H E hr ds Q h=>⟨_,(zn (zy (za0 (zdc (fsc:=zk zcY) (N:=["deeds"]) (N':=["deed"]) (src:=[none]) (by refine ⟨rfl,?_,?_,?_,rfl,rfl⟩ <;> decide +kernel) (zcm (pv' 0)) (fun _ _ _ _ _ _=>(zaF 0 (show (["deed"]:List Str).Nodup by decide +kernel))) (fun _ _ _ _ _ _=>(zkx (zZ (zeH (za9 hr)) (zr (i_A (zH hr)) (pv' 0) zi) (zA [99,104,97,110,103,101])))) (fun _ _ _ _ _ _=>(zr (i_A (zH hr)) (pv' 0) zi)))))),?_⟩)
 ·obtain ⟨dl,rfl,_⟩:=h
  rfl
 obtain ⟨dl,rfl,hl,q⟩:=h; simp [zak,zaq,zaf,zao,zB,zad,tC',zaM,zbf,tB',zar,zaz,zby,zW,zal,zO,zap,zav,zbs,zbz,zbx,zas,zbA,zu,zax,zaC,zP,zX,zJ,zI,zbn,zE,zV,zaw,zL,zay,zK,zU,zan,zae,zbw,zN,zaG,xS,zaJ,zR,zaH,zS,zv,zaL,zM,zau,zaI,zaD,zQ,zaE,zaB,zam,zaN,zat,zF,zbH,zaM,zw,zq,zT,zaK,zdX]
 refine ⟨small (by omega),?_⟩
 refine zch (fun i acc Γ=>∃ (s0:Slot),acc=(nmd (dl.take i)).map .str/\Γ=[s0]) ⟨_,rfl,rfl⟩ ?_ ?_
 ·rintro i d acc Γ he ⟨s0,rfl,rfl⟩
  rw [yF] at he; obtain ⟨x,hx,rfl⟩:=yK.mp he; rw [za1 hx,zjc]
  cases x <;> simp [zak,zaq,zaf,zao,zB,zad,tC',zaM,zbf,tB',zar,zaz,zby,zW,zal,zO,zap,zav,zbs,zbz,zbx,zas,zbA,zu,zax,zaC,zP,zX,zJ,zI,zbn,zE,zV,zaw,zL,zay,zK,zU,zan,zae,zbw,zN,zaG,xS,zaJ,zR,zaH,zS,zv,zaL,zM,zau,zaI,zaD,zQ,zaE,zaB,zam,zaN,zat,zF,zbH,zaM,zw,zq,zT,zaK,zdX,vo,voS,deD,zlq,zlT,zlh,zmc,nmd]
 ·rintro acc Γ ⟨s0,rfl,rfl⟩
  rw [yE,ze3]; exact q
def sc_Book_refuse_act:FnScope ["self","name","day","named","ahead","other"] ["self","name","day","named"] (zk zac):=sc0
def ok_Book_refuse_act {f:Addr} {fd:FuncData} (F:Fun K "refuse_act" "Book.refuse_act" zac f fd) (bd:zbk K fd ["self","name","day","named"] []) (hm:Meth K T.Book "refuse_act" f) (cl:Cls K T.Book) (cf:CF K T) (G_is_name:Fn P w K mg base 2 "is_name" ["thing"] zcW) (z_len:mg "len"=none):Mth P w K mg base 3 T.Book "refuse_act" ["self","name","day","named"] (sp_Book_refuse_act T):=by
 refine ⟨f,fd,PL.Fun.ok' F sc_Book_refuse_act (fun ds Q h=>?_) (fun cdv A outer s H E hr ds Q h=>⟨_,(zl (zd2 4 sc_Book_refuse_act.nd (zdp (fsc:=zk zac) (N:=["self","name","day","named","ahead","other"]) (N':=["entry"]) (src:=[none]) (by refine ⟨rfl,?_,?_,?_,rfl,rfl⟩ <;> decide +kernel) (zcm (zaX (pv' 0))) (fun _ _ _ _ _ _=>(zaF 0 (show (["entry"]:List Str).Nodup by decide +kernel))) (fun _ _ _ _ _ _=>zbM) (fun _ _ _ _ _ _=>(zr (i_A (zH hr)) (pv' 0) zi))))
  (zl (zaA (za6 (za5 (zbe G_is_name (hr.mono (by decide)) (zc (pv' 1) zj)))) (zn zdK) zD)
  (zl (zaA (zZ (zkQ (zH hr)) (pv' 1) (pv' 4)) (zn zdK) zD)
  (zl (zaA (PW'.pt (zgz (zZ zqc (zG zci z_len yn (zc (zaX (pv' 0)) zj)) zi) (zfb (zZ zo4 (pv' 2) (zr (i_A (zH hr)) (zr (i_A (zH hr)) (zaX (pv' 0)) zgB) zi))))) (zn zdK) zD)
  (zn (zdL (zcm (pv' 3)) (zaF 5 sc_Book_refuse_act.nd)
   (zn (zaA (zZ (zhf (zH hr)) (pv' 5) (pv' 4)) (zn zdK) zD)))))))),?_⟩),bd,hm,cl⟩
 ·obtain ⟨t,es,nm,day,ns,rfl,_⟩:=h
  rfl
 obtain ⟨t,es,nm,day,ns,rfl,⟨h0,h1,h2,h3⟩,hn,hm,q⟩:=h
 simp [zak,zaq,zaf,zao,zB,zad,tC',zaM,zbf,tB',zar,zaz,zby,zW,zal,zO,zap,zav,zbs,zbz,zbx,zas,zbA,zu,zax,zaC,zP,zX,zJ,zI,zbn,zE,zV,zaw,zL,zay,zK,zU,zan,zae,zbw,zN,zaG,xS,zaJ,zR,zaH,zS,zv,zaL,zM,zau,zaI,zaD,zQ,zaE,zaB,zam,zaN,zat,zF,zbH,zaM,zw,zq,zT,zaK,zdX,bkD,lkP,cf.cl,cf.naP]
 refine ⟨small (by omega),?_⟩
 refine zch (fun i acc Γ=>∃ (s0:Slot),acc=(nms (es.take i)).map .str/\Γ=[s0]) ⟨_,rfl,rfl⟩ ?_ ?_
 ·rintro i d acc Γ he ⟨s0,rfl,rfl⟩
  rw [yF] at he; obtain ⟨a,ha,rfl⟩:=yK.mp he; rw [za1 ha]; simp [zak,zaq,zaf,zao,zB,zad,tC',zaM,zbf,tB',zar,zaz,zby,zW,zal,zO,zap,zav,zbs,zbz,zbx,zas,zbA,zu,zax,zaC,zP,zX,zJ,zI,zbn,zE,zV,zaw,zL,zay,zK,zU,zan,zae,zbw,zN,zaG,xS,zaJ,zR,zaH,zS,zv,zaL,zM,zau,zaI,zaD,zQ,zaE,zaB,zam,zaN,zat,zF,zbH,zaM,zw,zq,zT,zaK,zdX,vo,voS,zcn,nms]
 ·rintro acc Γ ⟨s0,rfl,rfl⟩
  rw [yE,ze3]
  refine ⟨_,rfl,.inl ⟨nm,rfl,by have:=h1.2.1; omega⟩,yg D.bl (zhj h1),zgP ?_⟩
  have loop:zeK (zB 5) (zaf (tB' (zbf zec (zad 5) (zad 4))) zam zE) { nx:=fun x=>Q (Res.val D.non),rt:=fun r x=>Q r } (List.map D.str ns)
    [Slot.val (D.obj T.Book [(Str.ofString "tree",t),(Str.ofString "past",D.lst (List.map zcn es))]),Slot.val (D.str nm),Slot.val (D.int day),Slot.val (D.lst (List.map D.str ns)),Slot.val (D.lst ((nms es).map .str)),Slot.emp]:=by
   refine zet (fun i Γ=>∃ s5:Slot,Γ=[Slot.val (D.obj T.Book [(Str.ofString "tree",t),(Str.ofString "past",D.lst (List.map zcn es))]),Slot.val (D.str nm),Slot.val (D.int day),Slot.val (D.lst (List.map D.str ns)),Slot.val (D.lst ((nms es).map .str)),s5]) ⟨_,rfl⟩ ?_ ?_
   ·rintro i d Γ he ⟨s5,rfl⟩
    rw [yF] at he; obtain ⟨n,hn',rfl⟩:=yK.mp he; simp [zak,zaq,zaf,zao,zB,zad,tC',zaM,zbf,tB',zar,zaz,zby,zW,zal,zO,zap,zav,zbs,zbz,zbx,zas,zbA,zu,zax,zaC,zP,zX,zJ,zI,zbn,zE,zV,zaw,zL,zay,zK,zU,zan,zae,zbw,zN,zaG,xS,zaJ,zR,zaH,zS,zv,zaL,zM,zau,zaI,zaD,zQ,zaE,zaB,zam,zaN,zat,zF,zbH,zaM,zw,zq,zT,zaK,zdX]; refine zdO ?_; simp [hm n (yZ hn')]
   ·rintro Γ ⟨s5,rfl⟩
    exact q
  refine ⟨by simp [h2],?_⟩
  rcases List.eq_nil_or_concat es with rfl | ⟨es',a,rfl⟩
  ·exact .inl ⟨rfl,loop⟩
  ·rw [List.concat_eq_append] at loop h3 ⊢
   refine .inr ⟨by simp,zcn a,by rw [List.map_append]; exact zfx _ _,?_⟩
   have:=h3 a (by simp)
   exact (zd1 _ _).mpr ⟨.int a.1.day,zlu _ _ _,day,a.1.day,rfl,rfl,by simp; omega,loop⟩
def zfJ:FnScope ["self"] ["self"] (zk zaZ):=sc0
def zfX {f:Addr} {fd:FuncData} (F:Fun K "acts" "Book.acts" zaZ f fd) (bd:zbk K fd ["self"] []) (hm:Meth K T.Book "acts" f) (cl:Cls K T.Book) (cf:CF K T) (z_list:mg "list"=none):Mth P w K mg base 1 T.Book "acts" ["self"] (zcK T):=by
 refine ⟨f,fd,PL.Fun.ok' F zfJ (fun ds Q h=>?_) (fun cdv A outer s H E hr ds Q h=>⟨_,(zn (zy (za0 (zdc (fsc:=zk zaZ) (N:=["self"]) (N':=["name","day","other","deeds"]) (src:=[none,none,none,none]) (by refine ⟨rfl,?_,?_,?_,rfl,rfl⟩ <;> decide +kernel) (zcm (zaX (pv' 0))) (fun _ _ _ _ _ _=>(zgA (n:=4) (zb0 (zaF 0 (show (["name","day","other","deeds"]:List Str).Nodup by decide +kernel)) (zb0 (zaF 1 (show (["name","day","other","deeds"]:List Str).Nodup by decide +kernel)) (zb0 (zaF 2 (show (["name","day","other","deeds"]:List Str).Nodup by decide +kernel)) (zb0 (zaF 3 (show (["name","day","other","deeds"]:List Str).Nodup by decide +kernel)) zfc)))))) (fun _ _ _ _ _ _=>zbM) (fun _ _ _ _ _ _=>(zt (zc (pv' 0) (zc (pv' 1) (zc (pv' 2) (zc (za0 (zhT (znM rfl) z_list PyProof.Rows.boot_list (zc (pv' 3) zj))) zj)))))))))),?_⟩),bd,hm,cl⟩
 ·obtain ⟨t,es,rfl,_⟩:=h
  rfl
 obtain ⟨t,es,rfl,hl,q⟩:=h; simp [zak,zaq,zaf,zao,zB,zad,tC',zaM,zbf,tB',zar,zaz,zby,zW,zal,zO,zap,zav,zbs,zbz,zbx,zas,zbA,zu,zax,zaC,zP,zX,zJ,zI,zbn,zE,zV,zaw,zL,zay,zK,zU,zan,zae,zbw,zN,zaG,xS,zaJ,zR,zaH,zS,zv,zaL,zM,zau,zaI,zaD,zQ,zaE,zaB,zam,zaN,zat,zF,zbH,zaM,zw,zq,zT,zaK,zdX,bkD,lkP,cf.cl,cf.naP]
 refine ⟨small (by omega),?_⟩
 refine zch (fun i acc Γ=>∃ (s0 s1 s2 s3:Slot),acc=(es.take i).map zbd/\Γ=[s0,s1,s2,s3]) ⟨_,_,_,_,rfl,rfl⟩ ?_ ?_
 ·rintro i d acc Γ he ⟨s0,s1,s2,s3,rfl,rfl⟩
  rw [yF] at he; obtain ⟨a,ha,rfl⟩:=yK.mp he; rw [za1 ha]; simp [zak,zaq,zaf,zao,zB,zad,tC',zaM,zbf,tB',zar,zaz,zby,zW,zal,zO,zap,zav,zbs,zbz,zbx,zas,zbA,zu,zax,zaC,zP,zX,zJ,zI,zbn,zE,zV,zaw,zL,zay,zK,zU,zan,zae,zbw,zN,zaG,xS,zaJ,zR,zaH,zS,zv,zaL,zM,zau,zaI,zaD,zQ,zaE,zaB,zam,zaN,zat,zF,zbH,zaM,zw,zq,zT,zaK,zdX,vo,voS,zcn,zbd]
  exact ⟨_,_,⟨rfl,rfl⟩,rfl,(zhQ _).mpr ⟨small (by decide),rfl⟩⟩
 ·rintro acc Γ ⟨s0,s1,s2,s3,rfl,rfl⟩
  rw [yE,ze3]; exact q
end
def znf {m:Str} {t z:D} (h1:m≠Str.ofString "tree") (h2:m≠Str.ofString "past"):∀ (a:Str) (b:D),a=Str.ofString "tree"/\b=t\/a=Str.ofString "past"/\b=z->¬ m=a:=by
 rintro a b (⟨rfl,_⟩ | ⟨rfl,_⟩)
 ·exact h1
 ·exact h2
def zo9 {ah:List (List Nat)} {dl:List Deed} (h:∀ x,x ∈ dl->zgX ah (deD x)):∀ n,n ∈ nmd dl->n ∈ ah:=by
 intro n hn; obtain ⟨x,hx,e⟩:=List.mem_filterMap.mp hn; obtain ⟨k,y,r,e1,e2⟩:=h x hx
 cases x with
 | ch d c s=>cases e
 | lat m i d =>
  cases e; cases e1
  rcases e2 with e2 | ⟨_,m,hm,e3⟩
  ·exact yU e2 (by decide)
  ·cases e3; exact hm
 | ins m i c =>
  cases e; cases e1
  rcases e2 with e2 | ⟨_,m,hm,e3⟩
  ·exact yU e2 (by decide)
  ·cases e3; exact hm
 | drp m i =>
  cases e; cases e1
  rcases e2 with e2 | ⟨_,m,hm,e3⟩
  ·exact yU e2 (by decide)
  ·cases e3; exact hm
section
variable {T:Cs}
def sc_Book_act:FnScope ["self","name","day","deeds"] ["self","name","day","deeds"] (zk zbE):=sc0
def ok_Book_act {f:Addr} {fd:FuncData} (F:Fun K "act" "Book.act" zbE f fd) (bd:zbk K fd ["self","name","day","deeds"] []) (hm:Meth K T.Book "act" f) (cl:Cls K T.Book) (cf:CF K T) (G_named_in:Fn P w K mg base 1 "named_in" ["deeds"] zct) (z_tuple:mg "tuple"=none) (M_Book_refuse_act:Mth P w K mg base 3 T.Book "refuse_act" ["self","name","day","named"] (sp_Book_refuse_act T)):MthB P w K mg base 4 T.Book "act" ["self","name","day","deeds"] (sp_Book_act T):=by
 refine ⟨f,fd,PL.Fun.okB F sc_Book_act (fun dd xs ds Q h=>?_) (fun cdv A outer s H E hr dd b xs ds Q h=>⟨_,(zl (zd3 (zfd (zi0 M_Book_refuse_act (hr.mono (by decide)) (pv' 0) (zc (pv' 1) (zc (pv' 2) (zc (zbe G_named_in (hr.mono (by decide)) (zc (pv' 3) zj)) zj))))))
  (zn (ziU 0 (zt (zc (pv' 1) (zc (pv' 2) (zc za7 (zc (zdN znK z_tuple PyProof.Rows.boot_tuple (zc (pv' 3) zj)) zj)))))))),?_⟩),bd,hm,cl⟩
 ·obtain ⟨t,es,nm,day,dl,rfl,rfl,rfl,_⟩:=h
  rfl
 obtain ⟨t,es,nm,day,dl,rfl,rfl,rfl,hp,hl,hd,q⟩:=h; simp [zak,zaq,zaf,zao,zB,zad,tC',zaM,zbf,tB',zar,zaz,zby,zW,zal,zO,zap,zav,zbs,zbz,zbx,zas,zbA,zu,zax,zaC,zP,zX,zJ,zI,zbn,zE,zV,zaw,zL,zay,zK,zU,zan,zae,zbw,zN,zaG,xS,zaJ,zR,zaH,zS,zv,zaL,zM,zau,zaI,zaD,zQ,zaE,zaB,zam,zaN,zat,zF,zbH,zaM,zw,zq,zT,zaK,zdX,bkF]
 refine ⟨znf (by decide +kernel) (by decide +kernel),dl,rfl,hl,⟨t,es,nm,day,nmd dl,rfl,hp,by have:=zjb dl; omega,zo9 hd,.non,⟨cf.cl,cf.naP,lkP⟩,small (by decide),zbg (by have:=hp.1; omega),?_⟩⟩
 rw [List.map_append] at q; exact q
def sc_Book_back:FnScope ["self","name","day","other"] ["self","name","day","other"] (zk zbj):=sc0
def ok_Book_back {f:Addr} {fd:FuncData} (F:Fun K "back" "Book.back" zbj f fd) (bd:zbk K fd ["self","name","day","other"] []) (hm:Meth K T.Book "back" f) (cl:Cls K T.Book) (cf:CF K T) (M_Book_refuse_act:Mth P w K mg base 3 T.Book "refuse_act" ["self","name","day","named"] (sp_Book_refuse_act T)):MthB P w K mg base 4 T.Book "back" ["self","name","day","other"] (sp_Book_back T):=by
 refine ⟨f,fd,PL.Fun.okB F sc_Book_back (fun dd xs ds Q h=>?_) (fun cdv A outer s H E hr dd b xs ds Q h=>⟨_,(zl (zd3 (zfd (zi0 M_Book_refuse_act (hr.mono (by decide)) (pv' 0) (zc (pv' 1) (zc (pv' 2) (zc (za0 (zbp (zc (pv' 3) zj))) zj))))))
  (zn (ziU 0 (zt (zc (pv' 1) (zc (pv' 2) (zc (pv' 3) (zc (zt zj) zj)))))))),?_⟩),bd,hm,cl⟩
 ·obtain ⟨t,es,nm,day,dl,rfl,rfl,rfl,_⟩:=h
  rfl
 obtain ⟨t,es,nm,day,o,rfl,rfl,rfl,hp,ho,q⟩:=h; simp [zak,zaq,zaf,zao,zB,zad,tC',zaM,zbf,tB',zar,zaz,zby,zW,zal,zO,zap,zav,zbs,zbz,zbx,zas,zbA,zu,zax,zaC,zP,zX,zJ,zI,zbn,zE,zV,zaw,zL,zay,zK,zU,zan,zae,zbw,zN,zaG,xS,zaJ,zR,zaH,zS,zv,zaL,zM,zau,zaI,zaD,zQ,zaE,zaB,zam,zaN,zat,zF,zbH,zaM,zw,zq,zT,zaK,zdX,bkF]
 refine ⟨znf (by decide +kernel) (by decide +kernel),small (by decide),t,es,nm,day,[o],rfl,hp,by simp,fun n hn=>?_,.non,⟨cf.cl,cf.naP,lkP⟩,small (by decide),zbg (by have:=hp.1; omega),?_⟩
 ·rw [yk.mp hn]; exact ho
 rw [List.map_append] at q; exact q
end
def zdA (c:D):Prop:=∃ (k:Int) (s:List Nat),c=.tup [.int k,.str s]/\s.length<=100
def zj5 (s:D):Prop:=s=.non\/∃ i:Int,s=.int i
def zhB (ah:List (List Nat)):Deed->Prop
 | .ch _ _ _=>True
 | .lat n _ _=>n ∈ ah
 | .ins n _ _=>n ∈ ah
 | .drp n _=>n ∈ ah
def zii (ah:List (List Nat)) (d:Deed):Prop:=zcC zdA zj5 d/\zhB ah d
structure GoodActs (ns:List (List Nat)) (as:List Act):Prop where
 len:as.length<=14
 at_:∀ (i:Nat) a,as[i]?=some a->ns[i]?=some a.1.nm/\(∀ o,a.1.oth=some o->o ∈ ns.take i/\a.2=[])/\a.2.length<=3/\∀ d,d ∈ a.2->zii (ns.take i) d
 days:∀ (i j:Nat) a b,i<=j->as[i]?=some a->as[j]?=some b->a.1.day<=b.1.day
def zcI:Sp':=fun ds Q=>∃ c:Int,ds=[.int c]/\∀ ns:List (List Nat),ns.length=14->(∀ n,n ∈ ns->zlv n)->ns.Nodup->Q (.own (.lst (ns.map .str)))
def zcu:Sp':=fun ds Q=>∃ c:Int,ds=[.int c]/\∀ (k:Int) (s:List Nat),s.length<=100->Q (.val (.tup [.int k,.str s]))
def zcv:Sp':=fun ds Q=>∃ (c day:Int) (k:Nat) (ns:List (List Nat)),ds=[.int c,.int k,.int day,.lst (ns.map .str)]/\k<=ns.length/\ns.length<=14/\∀ d,zii (ns.take k) d->Q (.val (deD d))
def zc7:Sp':=fun ds Q=>∃ (cs:List Int) (ns:List (List Nat)),ds=[.lst (cs.map .int),.lst (ns.map .str)]/\cs.length<=200/\ns.length=14/\∀ as,GoodActs ns as->Q (.own (.lst (as.map zbd)))
instance:MSp zcv:=⟨fun _ _ _ h ⟨c,day,k,ns,e,a,b,q⟩=>⟨c,day,k,ns,e,a,b,fun ns x=>h _ (q ns x)⟩⟩
def zey {α:Type} (xs:List α) {i:Int} (h0:0<=i) (h1:i<xs.length):∃ d,atI xs i=some d/\d ∈ xs:=by
 obtain ⟨n,rfl⟩:=yp h0
 have hn:n<xs.length:=by omega
 exact ⟨xs[n],zbY (yB hn),List.getElem_mem hn⟩
def md {i:Int} {n:Nat} (h:0<n):0<=i % (n:Int)/\i % (n:Int)<n:=⟨Int.emod_nonneg _ (by omega),Int.emod_lt_of_pos _ (by omega)⟩
def zkR {n:Int} (h0:0<=n) (h1:n<10 ^ 10):(znd n).length<=10:=by
 have hl:=W.KT.len_num h0 h1; unfold znd
 rw [show (Str.ofString (toString n)).cps.toList.length=(Str.ofString (toString n)).length by simp [Str.length]]
 exact hl
def zjf {n:Int} (h0:0<=n) (h1:n<10 ^ 10):n.natAbs.log2<1920:=by
  refine yM ?_ (by decide:40<=1920)
  by_cases hz:n.natAbs=0
  · rw [hz]; decide
  · exact (Nat.log2_lt hz).mpr (by have : n.natAbs < 10 ^ 10 := by omega
                                   have:10 ^ 10<2 ^ 40:=by decide
                                   omega)
def sg (c a k:Int) (j:Nat):Int:=(c / ((j:Int)+5)+(j:Int) * (j:Int)+k * (if (j:Int)=a then 1 else 0)) % 26
def ch (v:Int):Nat:=zfA.getD v.toNat 0
def nm1 (c a:Int) (sz:Nat) (k:Nat):List Nat:=(List.range sz).map fun j=>ch (sg c a k j)
def zfl:zfA.length=26:=by decide
def ziC (c a k:Int) (j:Nat):0<=sg c a k j/\sg c a k j<26:=md (n:=26) (by decide)
def zrx {v:Int} (h0:0<=v) (h1:v<26):atI zfA v=some (ch v):=by
 obtain ⟨n,rfl⟩:=yp h0
 have hn:n<zfA.length:=by rw [zfl]; omega
 have:=zbY (xs:=zfA) (j:=n) (yB hn)
 rw [this]; unfold ch; simp [List.getD,yB hn]
def zpv {v:Int} (h0:0<=v) (h1:v<26):ch v ∈ zfA:=by
 obtain ⟨n,rfl⟩:=yp h0
 have hn:n<zfA.length:=by rw [zfl]; omega
 unfold ch; simp [List.getD,yB hn]
def zpw:∀ i:Fin 26,∀ j:Fin 26,zfA.getD i.1 0=zfA.getD j.1 0->i=j:=by decide
def zlS (c a:Int) (sz k:Nat) (h1:1<=sz) (h2:sz<=8):zlv (nm1 c a sz k):=by
 unfold nm1
 refine ⟨by simpa using h1,by simpa using h2,fun x hx=>?_⟩
 obtain ⟨j,_,rfl⟩:=yd.mp hx; exact zpv (ziC c a k j).1 (ziC c a k j).2
def zpa (c a:Int) (sz:Nat) (ha:0<=a) (hs:a<sz) {k k':Nat} (hk:k<14) (hk':k'<14) (e:nm1 c a sz k=nm1 c a sz k'):k=k':=by
 obtain ⟨n,rfl⟩:=yp ha
 have hn:n<sz:=by omega
 have h:=yg (fun l=>l[n]?) e
 unfold nm1 at h; simp only [yF,YK hn,Option.map_some,Option.some.injEq] at h; have l1:=ziC c n k n; have l2:=ziC c n k' n
 have h3:=zpw ⟨(sg c n k n).toNat,by omega⟩ ⟨(sg c n k' n).toNat,by omega⟩ h
 have h4:(sg c n k n).toNat=(sg c n k' n).toNat:=yg Fin.val h3
 have h5:sg c n k n=sg c n k' n:=by omega
 unfold sg at h5; simp only [if_true,Int.mul_one] at h5; omega
def zrp (l:List Nat):(l.map fun x=>[x]).flatten=l:=by
 induction l with
 | nil=>rfl
 | cons a l ih=>simp [ih]
def zsl (l:List Nat):((l.map fun x=>[x]).map List.length).sum=l.length:=by
 induction l with
 | nil=>rfl
 | cons a l ih =>
  rw [yw,yw,List.sum_cons,ih]; simp; omega
section
variable {T:Cs}
def zeC:FnScope ["_law_script","_law_k"] ["_law_script","_law_k"] (zk zcz):=sc0
def zeG (d:Df K mg "_law_cell_at" zcz ["_law_script","_law_k"]) (z_len:mg "len"=none):Fn P w K mg base 1 "_law_cell_at" ["_law_script","_law_k"] zba:=by
 refine d.ok zeC (fun ds Q h=>?_) (fun f cdv A outer s H E hr ds Q h=>⟨_,(zl (zaA (zZ zo4 (pv' 1) (zG zci z_len yn (zc (pv' 0) zj))) (zn (zy (zr (i_A (zH hr)) (pv' 0) (pv' 1)))) zD)
  (zn (zy zi))),?_⟩)
 ·obtain ⟨ns,k,rfl,_⟩:=h
  rfl
 obtain ⟨ns,k,rfl,h0,hl,q⟩:=h; simp [zak,zaq,zaf,zao,zB,zad,tC',zaM,zbf,tB',zar,zaz,zby,zW,zal,zO,zap,zav,zbs,zbz,zbx,zas,zbA,zu,zax,zaC,zP,zX,zJ,zI,zbn,zE,zV,zaw,zL,zay,zK,zU,zan,zae,zbw,zN,zaG,xS,zaJ,zR,zaH,zS,zv,zaL,zM,zau,zaI,zaD,zQ,zaE,zaB,zam,zaN,zat,zF,zbH,zaM,zw,zq,zT,zaK,zdX]
 by_cases e:(ns.length:Int)<=k
 ·exact .inl ⟨e,q 0⟩
 ·obtain ⟨d,e1,m1⟩:=zey (ns.map D.int) h0 (by simp; omega)
  obtain ⟨c,_,rfl⟩:=yd.mp m1
  exact .inr ⟨by omega,_,e1,q c⟩
def zgs:FnScope ["_law_cell"] ["_law_cell"] (zk zdH):=sc0
def zgG (d:Df K mg "_law_kind" zdH ["_law_cell"]) (z_str:mg "str"=none):Fn P w K mg base 1 "_law_kind" ["_law_cell"] zcu:=by
 refine d.ok zgs (fun ds Q h=>?_) (fun f cdv A outer s H E hr ds Q h=>⟨_,(zn (zy (zt (zc (zx zb1 (pv' 0) zi) (zc (zdN zry z_str PyProof.Rows.boot_str (zc (zx zbm zi (zx zb1 (zx zcR (pv' 0) zi) (zx zgK zi zi))) zj)) zj))))),?_⟩)
 ·obtain ⟨c,rfl,_⟩:=h
  rfl
 obtain ⟨c,rfl,q⟩:=h; simp [zak,zaq,zaf,zao,zB,zad,tC',zaM,zbf,tB',zar,zaz,zby,zW,zal,zO,zap,zav,zbs,zbz,zbx,zas,zbA,zu,zax,zaC,zP,zX,zJ,zI,zbn,zE,zV,zaw,zL,zay,zK,zU,zan,zae,zbw,zN,zaG,xS,zaJ,zR,zaH,zS,zv,zaL,zM,zau,zaI,zaD,zQ,zaE,zaB,zam,zaN,zat,zF,zbH,zaM,zw,zq,zT,zaK,zdX,zlx,znY]
 have:=md (i:=c / 5) (n:=1000000) (by decide)
 exact ⟨zjf (by omega) (by omega),small (by decide),q _ _ (yj (zkR (by omega) (by omega)) (by decide))⟩
def zbi:FnScope ["_law_cell","_law_letters","_law_size","_law_at","_law_names_here","_law_k","_law_signs"] ["_law_cell"] (zk zce):=sc0
def zfV (d:Df K mg "_law_names" zce ["_law_cell"]) (z_int:mg "int"=none) (z_range:mg "range"=none):Fn P w K mg base 1 "_law_names" ["_law_cell"] zcI:=by
 refine d.ok zbi (fun ds Q h=>?_) (fun f cdv A outer s H E hr ds Q h=>⟨_,(zl (zai 1 zbi.nd (zA zfA))
  (zl (zai 2 zbi.nd (zx zbm zi (zx zb1 (pv' 0) zi)))
  (zl (zai 3 zbi.nd (zx zb1 (zx zcR (pv' 0) zi) (pv' 2)))
  (zl (zha 4 zbi.nd (zbp zj))
  (zl (zdL (zb7 z_range (zc zi zj)) (zaF 5 zbi.nd)
   (zl (zd2 6 zbi.nd (zdp (fsc:=zk zce) (N:=["_law_cell","_law_letters","_law_size","_law_at","_law_names_here","_law_k","_law_signs"]) (N':=["_law_j","_law_k","_law_cell","_law_at"]) (src:=[none,some 5,some 0,some 3]) (by refine ⟨rfl,?_,?_,?_,rfl,rfl⟩ <;> decide +kernel) (zb7 z_range (zc (pv' 2) zj)) (fun _ _ _ _ _ _=>(zaF 0 (show (["_law_j","_law_k","_law_cell","_law_at"]:List Str).Nodup by decide +kernel))) (fun _ _ _ _ _ _=>zbM) (fun _ _ _ _ _ _=>(zx zb1 (zx zbm (zx zbm (zx zcR (pv' 2) (zx zbm (pv' 0) zi)) (zx zhg (pv' 0) (pv' 0))) (zx zhg (pv' 1) (zdN zpC z_int PyProof.Rows.boot_int (zc (zbv (zbP (za9 hr)) (pv' 0) (pv' 3)) zj)))) zi))))
  (zn (zc1 4 (zoS znm PySem.F.plainAttrs_str PySem.F.slot_str_join PySem.F.type_str_join (zA []) (zc (za0 (zdc (fsc:=zk zce) (N:=["_law_cell","_law_letters","_law_size","_law_at","_law_names_here","_law_k","_law_signs"]) (N':=["_law_sign","_law_letters"]) (src:=[none,some 1]) (by refine ⟨rfl,?_,?_,?_,rfl,rfl⟩ <;> decide +kernel) (zcm (pv' 6)) (fun _ _ _ _ _ _=>(zaF 0 (show (["_law_sign","_law_letters"]:List Str).Nodup by decide +kernel))) (fun _ _ _ _ _ _=>zbM) (fun _ _ _ _ _ _=>(zr (i_A (zH hr)) (pv' 1) (pv' 0))))) zj))))))
  (zn (zhc 4))))))),?_⟩)
 ·obtain ⟨c,rfl,_⟩:=h
  rfl
 obtain ⟨c,rfl,q⟩:=h; simp [zak,zaq,zaf,zao,zB,zad,tC',zaM,zbf,tB',zar,zaz,zby,zW,zal,zO,zap,zav,zbs,zbz,zbx,zas,zbA,zu,zax,zaC,zP,zX,zJ,zI,zbn,zE,zV,zaw,zL,zay,zK,zU,zan,zae,zbw,zN,zaG,xS,zaJ,zR,zaH,zS,zv,zaL,zM,zau,zaI,zaD,zQ,zaE,zaB,zam,zaN,zat,zF,zbH,zaM,zw,zq,zT,zaK,zdX,zlx]
 have m8:=md (i:=c) (n:=8) (by decide)
 refine ⟨by omega,?_⟩
 have ma:0<=c / 8 % (1+c % 8)/\c / 8 % (1+c % 8)<1+c % 8:=⟨Int.emod_nonneg _ (by omega),Int.emod_lt_of_pos _ (by omega)⟩
 obtain ⟨sz,hsz⟩:=yp (show 0<=1+c % 8 by omega)
 rw [hsz] at ma ⊢; generalize c / 8 % (sz:Int)=a at ma
 have hz:1<=sz/\sz<=8:=by omega
 refine zet (fun i Γ=>∃ s5 s6:Slot,Γ=[Slot.val (D.int c),Slot.val (D.str zfA),Slot.val (D.int sz),Slot.val (D.int a),Slot.own (OD.lst (((List.range i).map (nm1 c a sz)).map .str)),s5,s6]) ⟨_,_,rfl⟩ ?_ ?_
 ·rintro i d Γ he ⟨s5,s6,rfl⟩
  rw [yF] at he; obtain ⟨k,hk,rfl⟩:=yK.mp he; have hi:=(yD.mp hk).1; rw [ye] at hi; rw [YK hi] at hk; cases hk; simp [zak,zaq,zaf,zao,zB,zad,tC',zaM,zbf,tB',zar,zaz,zby,zW,zal,zO,zap,zav,zbs,zbz,zbx,zas,zbA,zu,zax,zaC,zP,zX,zJ,zI,zbn,zE,zV,zaw,zL,zay,zK,zU,zan,zae,zbw,zN,zaG,xS,zaJ,zR,zaH,zS,zv,zaL,zM,zau,zaI,zaD,zQ,zaE,zaB,zam,zaN,zat,zF,zbH,zaM,zw,zq,zT,zaK,zdX]
  refine ⟨by omega,small (by omega),?_⟩
  refine zch (fun j acc Γ=>∃ s0:Slot,acc=(List.range j).map (fun j=>D.int (sg c a i j))/\Γ=[s0,Slot.val (D.int i),Slot.val (D.int c),Slot.val (D.int a)]) ⟨_,rfl,rfl⟩ ?_ ?_
  ·rintro j d acc Γ hd ⟨s0,rfl,rfl⟩
   rw [yF] at hd; obtain ⟨k,hk,rfl⟩:=yK.mp hd; have hj:=(yD.mp hk).1; rw [ye] at hj; rw [YK hj] at hk; cases hk; simp [zak,zaq,zaf,zao,zB,zad,tC',zaM,zbf,tB',zar,zaz,zby,zW,zal,zO,zap,zav,zbs,zbz,zbx,zas,zbA,zu,zax,zaC,zP,zX,zJ,zI,zbn,zE,zV,zaw,zL,zay,zK,zU,zan,zae,zbw,zN,zaG,xS,zaJ,zR,zaH,zS,zv,zaL,zM,zau,zaI,zaD,zQ,zaE,zaB,zam,zaN,zat,zF,zbH,zaM,zw,zq,zT,zaK,zdX,vo,voS,zlx,zjW]
   refine ⟨by omega,by omega,?_⟩
   rw [List.range_succ]; simp [sg]
   exact .inl (by omega)
  ·rintro acc Γ ⟨s0,rfl,rfl⟩
   rw [yE,ye]
   refine ⟨by rw [yE,ye]; exact small (by omega),?_⟩
   refine zch (fun j acc Γ=>∃ s0:Slot,acc=((List.range j).map fun j=>[ch (sg c a i j)]).map .str/\Γ=[s0,Slot.val (D.str zfA)]) ⟨_,rfl,rfl⟩ ?_ ?_
   ·rintro j d acc Γ hd ⟨s0,rfl,rfl⟩
    rw [yF] at hd; obtain ⟨k,hk,rfl⟩:=yK.mp hd; have hj:=(yD.mp hk).1; rw [ye] at hj; rw [YK hj] at hk; cases hk; have l1:=ziC c a i j; simp [zak,zaq,zaf,zao,zB,zad,tC',zaM,zbf,tB',zar,zaz,zby,zW,zal,zO,zap,zav,zbs,zbz,zbx,zas,zbA,zu,zax,zaC,zP,zX,zJ,zI,zbn,zE,zV,zaw,zL,zay,zK,zU,zan,zae,zbw,zN,zaG,xS,zaJ,zR,zaH,zS,zv,zaL,zM,zau,zaI,zaD,zQ,zaE,zaB,zam,zaN,zat,zF,zbH,zaM,zw,zq,zT,zaK,zdX,vo,voS,zrx l1.1 l1.2]
    refine ⟨by rw [zfl]; exact small (by decide),?_⟩
    rw [List.range_succ]; simp
   ·rintro acc Γ ⟨s0,rfl,rfl⟩
    simp only [yE,ye]
    have ef:((List.range sz).map fun j=>[ch (sg c a i j)])=(nm1 c a sz i).map fun x=>[x]:=by
     unfold nm1; rw [YH]; rfl
    rw [ef]; refine ⟨_,rfl,rfl,?_,?_⟩
    ·rw [zsl]
     have:=(zlS c a sz i hz.1 hz.2).2.1
     omega
    ·rw [zrp]
     refine ⟨zbg (by omega),?_⟩
     rw [List.range_succ]; simp
 ·rintro Γ ⟨s5,s6,rfl⟩
  simp [zak,zaq,zaf,zao,zB,zad,tC',zaM,zbf,tB',zar,zaz,zby,zW,zal,zO,zap,zav,zbs,zbz,zbx,zas,zbA,zu,zax,zaC,zP,zX,zJ,zI,zbn,zE,zV,zaw,zL,zay,zK,zU,zan,zae,zbw,zN,zaG,xS,zaJ,zR,zaH,zS,zv,zaL,zM,zau,zaI,zaD,zQ,zaE,zaB,zam,zaN,zat,zF,zbH,zaM,zw,zq,zT,zaK,zdX]
  have h:=q ((List.range 14).map (nm1 c a sz)) (by simp) (fun n hn=>?_) ?_
  ·simpa using h
  ·obtain ⟨k,_,rfl⟩:=yd.mp hn
   exact zlS c a sz k hz.1 hz.2
  ·refine List.pairwise_iff_getElem.mpr fun x y hx hy hxy e=>?_
   simp only [List.getElem_map,List.getElem_range] at e; simp only [yE,ye] at hx hy
   have:=zpa c a sz ma.1 ma.2 hx hy e
   omega
def zbu:FnScope ["_law_cell","_law_k","_law_day","_law_names_here","_law_kind_here","_law_more","_law_when","_law_since","_law_name","_law_number"] ["_law_cell","_law_k","_law_day","_law_names_here"] (zk zdI):=sc0
def zgH (d:Df K mg "_law_deed" zdI ["_law_cell","_law_k","_law_day","_law_names_here"]) (G_law_kind:Fn P w K mg base 1 "_law_kind" ["_law_cell"] zcu):Fn P w K mg base 2 "_law_deed" ["_law_cell","_law_k","_law_day","_law_names_here"] zcv:=by
 refine d.ok zbu (fun ds Q h=>?_) (fun f cdv A outer s H E hr ds Q h=>⟨_,(zl (zai 4 zbu.nd (zx zb1 (pv' 0) zi))
  (zl (zai 5 zbu.nd (zx zcR (pv' 0) zi))
  (zl (zai 6 zbu.nd (zx zbm (pv' 2) (zr (i_A (zH hr)) (za0 (zbp (zc zgB (zc zi (zc zi (zc zi (zc zi (zc zi (zc zi (zc (zx zgK zi zi) zj)))))))))) (zx zb1 (pv' 5) zi))))
  (zl (zaA (PW'.pt (zdo (zZ zo4 (pv' 4) zi) (zda (zZ (zbP (za9 hr)) (pv' 1) zi)))) (zl (zai 7 zbu.nd (zr (i_A (zH hr)) (za0 (zbp (zc za7 (zc (pv' 6) (zc (zx zbm (pv' 6) zi) (zc (zx zfY (pv' 2) zi) (zc za7 zj))))))) (zx zb1 (zx zcR (pv' 5) zi) zi)))
  (zn (zy (zt (zc (zA [99,104,97,110,103,101]) (zc (pv' 6) (zc (zbe G_law_kind (hr.mono (by decide)) (zc (pv' 0) zj)) (zc (pv' 7) zj)))))))) zD)
  (zl (zai 8 zbu.nd (zr (i_A (zH hr)) (pv' 3) (zx zb1 (zx zcR (pv' 5) zi) (pv' 1))))
  (zl (zai 9 zbu.nd (zx zb1 (zx zcR (pv' 5) zi) zi))
  (zl (zaA (zZ (zbP (za9 hr)) (pv' 4) zi) (zn (zy (zt (zc (zA [108,97,116,101,114]) (zc (pv' 8) (zc (pv' 9) (zc (pv' 6) zj))))))) zD)
  (zl (zaA (zZ (zbP (za9 hr)) (pv' 4) zi) (zn (zy (zt (zc (zA [108,97,116,101,114]) (zc (pv' 8) (zc zi (zc (zx zbm (pv' 6) (zx zb1 (zx zcR (pv' 5) zi) zi)) zj))))))) zD)
  (zl (zaA (zZ (zbP (za9 hr)) (pv' 4) zi) (zn (zy (zt (zc (zA [105,110,115,116,101,97,100]) (zc (pv' 8) (zc (pv' 9) (zc (zbe G_law_kind (hr.mono (by decide)) (zc (pv' 0) zj)) zj))))))) zD)
  (zn (zy (zt (zc (zA [100,114,111,112]) (zc (pv' 8) (zc (pv' 9) zj))))))))))))))),?_⟩)
 ·obtain ⟨c,day,k,ns,rfl,_⟩:=h
  rfl
 obtain ⟨c,day,k,ns,rfl,hk,hl,q⟩:=h; simp [zak,zaq,zaf,zao,zB,zad,tC',zaM,zbf,tB',zar,zaz,zby,zW,zal,zO,zap,zav,zbs,zbz,zbx,zas,zbA,zu,zax,zaC,zP,zX,zJ,zI,zbn,zE,zV,zaw,zL,zay,zK,zU,zan,zae,zbw,zN,zaG,xS,zaJ,zR,zaH,zS,zv,zaL,zM,zau,zaI,zaD,zQ,zaE,zaB,zam,zaN,zat,zF,zbH,zaM,zw,zq,zT,zaK,zdX,zcu,zlx,znY]
 refine ⟨small (by decide),?_⟩
 have m8:=md (i:=c / 7) (n:=8) (by decide)
 obtain ⟨d0,e0,m0⟩:=zey [D.int (-9),D.int 0,D.int 1,D.int 5,D.int 12,D.int 30,D.int 31,D.int 100000000000000000] (i:=c / 7 % 8) m8.1 (by simpa using m8.2)
 have i0:∃ v:Int,d0=.int v:=by
  simp at m0
  rcases m0 with h | h | h | h | h | h | h | h <;> exact ⟨_,h⟩
 obtain ⟨v,rfl⟩:=i0; refine ⟨_,e0,?_⟩; rw [zef]
 have chgB:∀ R:Prop,R=True->R:=fun R h=>h ▸ trivial
 have m5:=md (i:=c / 7 / 8) (n:=5) (by decide)
 obtain ⟨d5,e5,hd5⟩:=zey [D.non,D.int (day+v),D.int (day+v+3),D.int (day-2),D.non] (i:=c / 7 / 8 % 5) m5.1 (by simpa using m5.2)
 have s5:zj5 d5:=by
  simp at hd5
  rcases hd5 with h | h | h | h | h
  ·exact .inl h
  ·exact .inr ⟨_,h⟩
  ·exact .inr ⟨_,h⟩
  ·exact .inr ⟨_,h⟩
  ·exact .inl h
 have B:zfO (D.int (day+v)) (D.int 3) fun d_1=>5<=sizeLine/\∃ d_2,atI [D.non,D.int (day+v),d_1,D.int (day-2),D.non] (c / 7 / 8 % 5)=some d_2/\∀ (k:Int) (s:List Nat),s.length<=100->4<=sizeLine/\Q (Res.val (D.tup [D.str [99,104,97,110,103,101],D.int (day+v),D.tup [D.int k,D.str s],d_2])):=by
  rw [zef]
  exact ⟨small (by decide),_,e5,fun k s hs=>⟨small (by decide),q (.ch (day+v) (.tup [.int k,.str s]) d5) ⟨⟨⟨k,s,rfl,hs⟩,s5⟩,trivial⟩⟩⟩
 by_cases e7:c % 7<3
 ·exact .inr ⟨e7,B⟩
 ·refine .inl ⟨by omega,?_⟩
  by_cases ek:k=0
  ·exact .inr ⟨ek,B⟩
  ·refine .inl ⟨ek,by omega,?_⟩
   have mk:=md (i:=c / 7 / 8) (n:=k) (by omega)
   have hlk:(ns.take k).length=k:=by rw [yT]; omega
   obtain ⟨dn,en,mn⟩:=zey ((ns.take k).map D.str) (i:=c / 7 / 8 % (k:Int)) mk.1 (by rw [yE,hlk]; exact mk.2)
   obtain ⟨n,hn,rfl⟩:=yd.mp mn
   have en2:atI (List.map D.str ns) (c / 7 / 8 % (k:Int))=some (D.str n):=by
    obtain ⟨j,hj⟩:=yp mk.1; rw [hj] at en mk ⊢
    have hjk:j<k:=by omega
    have h2:((ns.take k).map D.str)[j]?=some (D.str n):=by
     have hh:j<((ns.take k).map D.str).length:=by rw [yE,hlk]; exact hjk
     have:=zbY (xs:=(ns.take k).map D.str) (j:=j) (yB hh)
     rw [this] at en; rw [yB hh]; exact en
    refine zbY ?_; rw [yF] at h2 ⊢; rw [List.getElem?_take_of_lt hjk] at h2; exact h2
   refine ⟨_,en2,?_⟩
   by_cases e3:c % 7=3
   ·exact .inr ⟨e3,small (by decide),q (.lat n _ _) ⟨trivial,hn⟩⟩
   ·refine .inl ⟨e3,?_⟩
    by_cases e4:c % 7=4
    ·refine .inr ⟨e4,?_⟩
     rw [zef]
     exact ⟨small (by decide),q (.lat n _ _) ⟨trivial,hn⟩⟩
    ·refine .inl ⟨e4,?_⟩
     by_cases e5':c % 7=5
     ·exact .inr ⟨e5',fun k s hs=>⟨small (by decide),q (.ins n _ (.tup [.int k,.str s])) ⟨⟨k,s,rfl,hs⟩,hn⟩⟩⟩
     ·exact .inl ⟨e5',small (by decide),q (.drp n _) ⟨trivial,hn⟩⟩
end
def zoe {G:Int->Prop} {X:Prop} (a:(∀ d,G d)->X) (k:∀ d,G d):X:=a k
def zst (ns:List (List Nat)) {k:Nat} (hk:0<k) (hl:k<=ns.length) (x:Int):∃ o,o ∈ ns.take k/\atI (ns.map D.str) (x % (k:Int))=some (D.str o):=by
 have mk:=md (i:=x) (n:=k) hk; obtain ⟨j,hj⟩:=yp mk.1; rw [hj] at mk ⊢
 have hjk:j<k:=by omega
 have hjl:j<ns.length:=by omega
 refine ⟨ns[j],?_,zbY (by rw [yF,yB hjl]; rfl)⟩
 refine yZ (i:=j) ?_; rw [List.getElem?_take_of_lt hjk,yB hjl]
def zof {G X:Prop} (a:G->X) (k:G):X:=a k
def GoodActs.nil {ns:List (List Nat)}:GoodActs ns []:=⟨YE _,fun i a h=>by simp at h,fun i j a b _ h=>by simp at h⟩
def GoodActs.snoc {ns:List (List Nat)} {as:List Act} {a:Act} (g:GoodActs ns as) (hl:as.length<14) (h1:ns[as.length]?=some a.1.nm) (h2:∀ o,a.1.oth=some o->o ∈ ns.take as.length/\a.2=[]) (h3:a.2.length<=3) (h4:∀ d,d ∈ a.2->zii (ns.take as.length) d) (h5:∀ b,b ∈ as->b.1.day<=a.1.day):GoodActs ns (as ++ [a]):=by
 refine ⟨by simp; omega,fun i b h=>?_,fun i j b c hij hb hc=>?_⟩
 ·by_cases hi:i<as.length
  ·rw [yV hi] at h
   exact g.at_ i b h
  ·rw [yo (by omega)] at h
   have:i=as.length:=by
    have:=(yD.mp h).1
    simp at this
    omega
   subst this
   simp at h
   subst h; exact ⟨h1,h2,h3,h4⟩
 ·by_cases hj:j<as.length
  ·rw [yV hj] at hc
   rw [yV (by omega)] at hb
   exact g.days i j b c hij hb hc
  ·rw [yo (by omega)] at hc
   have hz:j-as.length=0:=by
    have:=(yD.mp hc).1
    simp at this
    omega
   rw [hz] at hc
   simp at hc
   subst hc
   by_cases hi:i<as.length
   ·rw [yV hi] at hb
    exact h5 b (yZ hb)
   ·rw [yo (by omega)] at hb
    have hz:i-as.length=0:=by omega
    rw [hz] at hb
    simp at hb
    subst hb; exact Int.le_refl _
section
variable {T:Cs}
set_option synthInstance.maxSize 4000
def zaW:FnScope ["_law_script","_law_names_here","_law_acts_here","_law_day","_law_cells","_law_k","_law_at","_law_four","_law_many","_law_deeds"] ["_law_script","_law_names_here"] (zk zcq):=sc0
def zgI (d:Df K mg "_law_acts" zcq ["_law_script","_law_names_here"]) (G_law_cell_at:Fn P w K mg base 1 "_law_cell_at" ["_law_script","_law_k"] zba) (G_law_deed:Fn P w K mg base 2 "_law_deed" ["_law_cell","_law_k","_law_day","_law_names_here"] zcv) (z_len:mg "len"=none) (z_range:mg "range"=none):Fn P w K mg base 3 "_law_acts" ["_law_script","_law_names_here"] zc7:=by
 refine d.ok zaW (fun ds Q h=>?_) (fun f cdv A outer s H E hr ds Q h=>⟨_,(zl (zha 2 zaW.nd (zbp zj))
  (zl (zai 3 zaW.nd (zx zfY (zx zb1 (zbe G_law_cell_at (hr.mono (by decide)) (zc (pv' 0) (zc zi zj))) (zx zhg zi (zx zgK zi zi))) (zx zgK zi zi)))
  (zl (zaA (zZ zqc (zx zb1 (zbe G_law_cell_at (hr.mono (by decide)) (zc (pv' 0) (zc zi zj))) zi) zi) (zn (zai 3 zaW.nd (zx zfY (zx zb1 (zbe G_law_cell_at (hr.mono (by decide)) (zc (pv' 0) (zc zi zj))) zi) zi))) zD)
  (zl (zai 4 zaW.nd (zcQ s_A (pv' 0) (zdY zi) (zdY zi)))
  (zl (zdL (zhW z_range (zc zi (zc (zG zci z_len yn (zc (pv' 4) zj)) (zc zi zj)))) (zaF 5 zaW.nd)
   (zl (zai 6 zaW.nd (zfd (zG zci z_len yn (zc (pv' 2) zj))))
  (zl (zai 7 zaW.nd (za0 (zdc (fsc:=zk zcq) (N:=["_law_script","_law_names_here","_law_acts_here","_law_day","_law_cells","_law_k","_law_at","_law_four","_law_many","_law_deeds"]) (N':=["_law_j","_law_cells","_law_k"]) (src:=[none,some 4,some 5]) (by refine ⟨rfl,?_,?_,?_,rfl,rfl⟩ <;> decide +kernel) (zb7 z_range (zc zi zj)) (fun _ _ _ _ _ _=>(zaF 0 (show (["_law_j","_law_cells","_law_k"]:List Str).Nodup by decide +kernel))) (fun _ _ _ _ _ _=>zbM) (fun _ _ _ _ _ _=>(zbe G_law_cell_at (hr.mono (by decide)) (zc (pv' 1) (zc (zx zbm (pv' 2) (pv' 0)) zj)))))))
  (zl (zai 3 zaW.nd (zx zbm (pv' 3) (zr (i_A (zH hr)) (za0 (zbp (zc zi (zc zi (zc zi (zc zi (zc zi zj))))))) (zx zb1 (zr (i_A (zH hr)) (pv' 7) zi) zi))))
  (zn (zaA (PW'.pt (zgz (zZ (zbP (za9 hr)) (zx zb1 (zx zcR (zr (i_A (zH hr)) (pv' 7) zi) zi) zi) zi) (zfb (zZ zqc (pv' 6) zi)))) (zn (zc1 2 (zt (zc (zr (i_A (zH hr)) (pv' 1) (pv' 6)) (zc (pv' 3) (zc (zr (i_A (zH hr)) (pv' 1) (zx zb1 (zr (i_A (zH hr)) (pv' 7) zi) (pv' 6))) (zc (za0 (zbp zj)) zj))))))) (zl (zai 8 zaW.nd (zr (i_A (zH hr)) (za0 (zbp (zc zi (zc zi (zc zi (zc zi (zc zi zj))))))) (zx zb1 (zx zcR (zr (i_A (zH hr)) (pv' 7) zi) zi) zi)))
  (zl (zd2 9 zaW.nd (zdp (fsc:=zk zcq) (N:=["_law_script","_law_names_here","_law_acts_here","_law_day","_law_cells","_law_k","_law_at","_law_four","_law_many","_law_deeds"]) (N':=["_law_j","_law_at","_law_day","_law_names_here","_law_four"]) (src:=[none,some 6,some 3,some 1,some 7]) (by refine ⟨rfl,?_,?_,?_,rfl,rfl⟩ <;> decide +kernel) (zb7 z_range (zc (pv' 8) zj)) (fun _ _ _ _ _ _=>(zaF 0 (show (["_law_j","_law_at","_law_day","_law_names_here","_law_four"]:List Str).Nodup by decide +kernel))) (fun _ _ _ _ _ _=>zbM) (fun _ _ _ _ _ _=>(zbe G_law_deed (hr.mono (by decide)) (zc (zx zb1 (zx zhg (zr (i_A (zH hr)) (pv' 4) (zx zbm zi (pv' 0))) zi) zi) (zc (pv' 1) (zc (pv' 2) (zc (pv' 3) zj))))))))
  (zn (zc1 2 (zt (zc (zr (i_A (zH hr)) (pv' 1) (pv' 6)) (zc (pv' 3) (zc za7 (zc (pv' 9) zj)))))))))))))))
  (zn (zhc 2))))))),?_⟩)
 ·obtain ⟨cs,ns,rfl,_⟩:=h
  rfl
 obtain ⟨cs,ns,rfl,hl,hn,q⟩:=h
 have ca:∀ (cs:List Int) (k:Int) (R:Res->Prop),cs.length<=200->0<=k->(∀ c:Int,R (.val (.int c)))->zba [.lst (cs.map .int),.int k] R:=fun cs k R hl h0 h=>⟨cs,k,rfl,h0,hl,h⟩
 simp [zak,zaq,zaf,zao,zB,zad,tC',zaM,zbf,tB',zar,zaz,zby,zW,zal,zO,zap,zav,zbs,zbz,zbx,zas,zbA,zu,zax,zaC,zP,zX,zJ,zI,zbn,zE,zV,zaw,zL,zay,zK,zU,zan,zae,zbw,zN,zaG,xS,zaJ,zR,zaH,zS,zv,zaL,zM,zau,zaI,zaD,zQ,zaE,zaB,zam,zaN,zat,zF,zbH,zaM,zw,zq,zT,zaK,zlx,zjW,znY]
 have hcut:zex (List.map D.int cs) (some 2) (some 58)=(zex cs (some 2) (some 58)).map D.int:=zlp ..
 rw [hcut]
 have hcl:(zex cs (some 2) (some 58)).length<=56:=by
  unfold zex; rw [yT]; simp [HT.sIx]; omega
 generalize zex cs (some 2) (some 58)=ys at hcl; rw [yE]
 apply zoe
 ·intro key
  refine ca cs 1 _ hl (by decide) fun c1=>?_
  simp
  refine ca cs 1 _ hl (by decide) fun c2=>?_
  simp
  by_cases e:c2 % 3=0
  ·refine .inl ⟨by omega,by omega,?_⟩
   generalize c1 % 2000000000000000000-1000000000000000000=d; exact key d
  ·have:=md (i:=c2) (n:=3) (by decide)
   refine .inr ⟨by omega,ca cs 1 _ hl (by decide) fun c3=>?_⟩
   simp
   refine ⟨by omega,?_⟩
   exact key _
 ·intro d0
  refine zet (fun i Γ=>∃ (as:List Act) (day:Int) (s5 s6 s7 s8 s9:Slot),as.length=i/\GoodActs ns as/\(∀ b,b ∈ as->b.1.day<=day) /\
   Γ=[Slot.val (D.lst (List.map D.int cs)),Slot.val (D.lst (List.map D.str ns)),Slot.own (OD.lst (as.map zbd)),Slot.val (D.int day),Slot.val (D.lst (ys.map D.int)),s5,s6,s7,s8,s9]) ⟨[],d0,_,_,_,_,_,rfl,.nil,fun _ z=>by simp at z,rfl⟩ ?_ ?_
  ·rintro i d Γ hd ⟨as,day,s5,s6,s7,s8,s9,rfl,ga,hdays,rfl⟩
   unfold zrN at hd; rw [yF] at hd; obtain ⟨c',hc',rfl⟩:=yK.mp hd; have hci:=(yD.mp hc').1; rw [ye] at hci; rw [YK hci] at hc'; cases hc'
   have hi:as.length<14:=by
    unfold Builtin.Range.rangeSize at hci; split at hci
    ·split at hci <;> omega
    ·omega
   simp [zak,zaq,zaf,zao,zB,zad,tC',zaM,zbf,tB',zar,zaz,zby,zW,zal,zO,zap,zav,zbs,zbz,zbx,zas,zbA,zu,zax,zaC,zP,zX,zJ,zI,zbn,zE,zV,zaw,zL,zay,zK,zU,zan,zae,zbw,zN,zaG,xS,zaJ,zR,zaH,zS,zv,zaL,zM,zau,zaI,zaD,zQ,zaE,zaB,zam,zaN,zat,zF,zbH,zaM,zw,zq,zT,zaK,zlx,zjW]; have big:=zbg (n:=1000) (yJ _)
   have o4:4<=sizeLine:=by omega
   have o5:5<=sizeLine:=by omega
   have oa:as.length<sizeLine:=by omega
   refine ⟨.int _,by omega,?_⟩
   refine zch (fun j acc Γ=>∃ (xs:List Int) (s0:Slot),acc=xs.map .int/\xs.length=j/\Γ=[s0,Slot.val (D.lst (List.map D.int ys)),Slot.val (D.int ((as.length:Int) * 4))]) ⟨[],_,rfl,rfl,rfl⟩ ?_ ?_
   ·rintro j d acc Γ hd ⟨xs,s0,rfl,hx,rfl⟩
    rw [yF] at hd; obtain ⟨k,hk,rfl⟩:=yK.mp hd; simp [zak,zaq,zaf,zao,zB,zad,tC',zaM,zbf,tB',zar,zaz,zby,zW,zal,zO,zap,zav,zbs,zbz,zbx,zas,zbA,zu,zax,zaC,zP,zX,zJ,zI,zbn,zE,zV,zaw,zL,zay,zK,zU,zan,zae,zbw,zN,zaG,xS,zaJ,zR,zaH,zS,zv,zaL,zM,zau,zaI,zaD,zQ,zaE,zaB,zam,zaN,zat,zF,zbH,zaM,zw,zq,zT,zaK,vo,voS]
    exact ca ys _ _ (by omega) (by omega) fun c=>⟨xs ++ [c],by simp,by simp [hx]⟩
   rintro acc Γ ⟨xs,s0,rfl,hx,rfl⟩
   simp only [yE,ye] at hx
   obtain ⟨x0,x1,x2,x3,rfl⟩:∃ x0 x1 x2 x3,xs=[x0,x1,x2,x3]:=by
    match xs,hx with
    | [a,b,c,d],_=>exact ⟨a,b,c,d,rfl⟩
   have m5:=md (i:=x0) (n:=5) (by decide)
   obtain ⟨dd,ed,md'⟩:=zey [D.int 0,D.int 1,D.int 1,D.int 3,D.int 8] (i:=x0 % 5) m5.1 (by simpa using m5.2)
   have hv:∃ v:Int,dd=.int v/\0<=v:=by
    simp at md'
    rcases md' with h | h | h | h <;> exact ⟨_,h,by decide⟩
   obtain ⟨v,rfl,hv0⟩:=hv
   obtain ⟨n,hn1⟩:∃ n,ns[as.length]?=some n:=⟨_,yB (by omega)⟩
   have hn2:atI (List.map D.str ns) (as.length:Int)=some (D.str n):=zbY (by rw [yF,hn1]; rfl)
   have hdays2:∀ b,b ∈ as->b.1.day<=day+v:=fun b hb=>by have:=hdays b hb; omega
   simp [ed,zlx,o4,o5,oa,hn2]
   apply zof
   ·intro key
    by_cases e:x0 / 5 % 4=3
    ·refine .inr ⟨e,?_⟩
     by_cases e0:as=[]
     ·exact .inl ⟨e0,key⟩
     ·have hpos:0<as.length:=List.length_pos_iff.mpr e0
      obtain ⟨o,ho,en⟩:=zst ns hpos (by omega) x1
      refine .inr ⟨hpos,_,en,as ++ [(⟨n,day+v,some o⟩,[])],by simp,ga.snoc hi hn1 (fun o' h'=>?_) (by simp) (fun _ z=>by simp at z) hdays2,fun a b hb=>?_,by simp [zbd,zeS]⟩
      ·cases h'
       exact ⟨ho,rfl⟩
      ·rcases YL.mp hb with hb | hb
       ·exact hdays2 _ hb
       ·cases yk.mp hb
        exact Int.le_refl _
    ·exact .inl ⟨e,key⟩
   ·have m20:=md (i:=x0 / 20) (n:=5) (by decide)
    obtain ⟨dj,ej,mj⟩:=zey [D.int 3,D.int 1,D.int 2,D.int 3,D.int 0] (i:=x0 / 20 % 5) m20.1 (by simpa using m20.2)
    have hj:∃ j:Nat,dj=.int j/\j<=3:=by
     simp at mj
     rcases mj with h | h | h | h | h
     ·exact ⟨3,h,by decide⟩
     ·exact ⟨1,h,by decide⟩
     ·exact ⟨2,h,by decide⟩
     ·exact ⟨3,h,by decide⟩
     ·exact ⟨0,h,by decide⟩
    obtain ⟨j,rfl,hj3⟩:=hj
    refine ⟨_,ej,j,rfl,by omega,by omega,by omega,?_⟩
    rw [YI]
    refine zch (fun m acc Γ=>∃ (s0:Slot) (dl:List Deed),acc=dl.map deD/\dl.length=m/\(∀ d,d ∈ dl->zii (ns.take as.length) d)/\Γ=[s0,Slot.val (D.int as.length),Slot.val (D.int (day+v)),Slot.val (D.lst (List.map D.str ns)),Slot.val (D.lst [D.int x0,D.int x1,D.int x2,D.int x3])]) ⟨_,[],rfl,rfl,fun _ z=>by simp at z,rfl⟩ ?_ ?_
    ·rintro m d acc Γ hd ⟨s0,dl,rfl,h1,h2,rfl⟩
     rw [yF] at hd; obtain ⟨k,hk,rfl⟩:=yK.mp hd; have hm:=(yD.mp hk).1; rw [ye] at hm; rw [YK hm] at hk; cases hk
     have hx:∃ x:Int,atI [D.int x0,D.int x1,D.int x2,D.int x3] (1+(m:Int))=some (D.int x):=by
      have:m=0\/m=1\/m=2:=by omega
      rcases this with rfl | rfl | rfl
      ·exact ⟨x1,rfl⟩
      ·exact ⟨x2,rfl⟩
      ·exact ⟨x3,rfl⟩
     obtain ⟨x,ex⟩:=hx; simp [zak,zaq,zaf,zao,zB,zad,tC',zaM,zbf,tB',zar,zaz,zby,zW,zal,zO,zap,zav,zbs,zbz,zbx,zas,zbA,zu,zax,zaC,zP,zX,zJ,zI,zbn,zE,zV,zaw,zL,zay,zK,zU,zan,zae,zbw,zN,zaG,xS,zaJ,zR,zaH,zS,zv,zaL,zM,zau,zaI,zaD,zQ,zaE,zaB,zam,zaN,zat,zF,zbH,zaM,zw,zq,zT,zaK,vo,voS,ex,zjW]
     refine ⟨_,_,as.length,ns,rfl,by omega,by omega,fun d hd=>⟨_,dl ++ [d],by simp [Res.toD],by simp [h1],fun z hz=>?_,rfl⟩⟩
     rcases YL.mp hz with hz | hz
     ·exact h2 z hz
     ·rw [yk.mp hz]; exact hd
    ·rintro acc Γ ⟨s0,dl,rfl,h1,h2,rfl⟩
     rw [yE,ye] at h1
     refine ⟨as ++ [(⟨n,day+v,none⟩,dl)],by simp,ga.snoc hi hn1 (fun o' h'=>by cases h') (by show dl.length<=3; omega) h2 hdays2,fun a b hb=>?_,by simp [zbd,zeS]⟩
     rcases YL.mp hb with hb | hb
     ·exact hdays2 _ hb
     ·cases yk.mp hb
      exact Int.le_refl _
  ·rintro Γ ⟨as,day,s5,s6,s7,s8,s9,h1,ga,hdays,rfl⟩
   simp [zak,zaq,zaf,zao,zB,zad,tC',zaM,zbf,tB',zar,zaz,zby,zW,zal,zO,zap,zav,zbs,zbz,zbx,zas,zbA,zu,zax,zaC,zP,zX,zJ,zI,zbn,zE,zV,zaw,zL,zay,zK,zU,zan,zae,zbw,zN,zaG,xS,zaJ,zR,zaH,zS,zv,zaL,zM,zau,zaI,zaD,zQ,zaE,zaB,zam,zaN,zat,zF,zbH,zaM,zw,zq,zT,zaK]; exact q as ga
end
def mkK (T:Cs) (k:Int) (s:List Nat):D :=
 if k=0 then .obj T.Read [("place",.tup []),("words",.tup [.str (119 :: s)])]
 else if k=1 then .obj T.Swap [("place",.tup []),("old",.tup [.str (119 :: s)]),("new",.tup [.str [120]])]
 else if k=2 then .obj T.PutIn [("place",.tup []),("node",.tup [.str s,.tup [],.tup []])]
 else if k=3 then .obj T.LeaveOut [("place",.tup [.str s])]
 else .obj T.Anew [("place",.tup [.str s])]
def mkC (T:Cs):D->D
 | .tup [.int k,.str s]=>mkK T k s
 | c=>c
def hA (T:Cs) (a:Act):Act:=(a.1,a.2.map (Deed.mapC (mkC T)))
def t0D:D:=.tup [.str [],.tup [.str [97,108,108]],.tup [.tup [.str [49],.tup [],.tup []]]]
structure ActsOk (as:List Act):Prop where
 len:as.length<=15
 at_:∀ (i:Nat) a,as[i]?=some a->zlv a.1.nm/\a.1.nm ∉ nms (as.take i)/\(∀ b ∈ as.take i,b.1.day<=a.1.day)/\(∀ o,a.1.oth=some o->o ∈ nms (as.take i)/\a.2=[])/\a.2.length<=3/\∀ d,d ∈ a.2->zii (nms (as.take i)) d
def zcw (T:Cs):Sp':=fun ds Q=>∃ (k:Int) (s:List Nat),ds=[.tup [.int k,.str s]]/\s.length<=100/\Q (.val (mkK T k s))
def zbL (T:Cs):Sp':=fun ds Q=>∃ d ah,ds=[deD d]/\zii ah d/\Q (.val (deD (d.mapC (mkC T))))
instance {T:Cs}:MSp (zbL T):=⟨fun _ _ _ h ⟨d,ah,e,a,q⟩=>⟨d,ah,e,a,h _ q⟩⟩
section
variable {T:Cs}
def ze6:FnScope ["_law_kind_here"] ["_law_kind_here"] (zk zcN):=sc0
def zfg (d:Df K mg "_law_change" zcN ["_law_kind_here"]) (cf:CF K T) (M_Anew:Mak P w K mg base 1 "Anew" T.Anew ["place"]) (M_LeaveOut:Mak P w K mg base 1 "LeaveOut" T.LeaveOut ["place"]) (M_PutIn:Mak P w K mg base 1 "PutIn" T.PutIn ["place","node"]) (M_Read:Mak P w K mg base 1 "Read" T.Read ["place","words"]) (M_Swap:Mak P w K mg base 1 "Swap" T.Swap ["place","old","new"]):Fn P w K mg base 3 "_law_change" ["_law_kind_here"] (zcw T):=by
 refine d.ok ze6 (fun ds Q h=>?_) (fun f cdv A outer s H E hr ds Q h=>⟨_,(zl (zaA (zZ (zbP (za9 hr)) (zr (i_A (zH hr)) (pv' 0) zi) zi) (zn (zy (zdr M_Read (hr.mono (by decide)) (zc (zt zj) (zc (zt (zc (zx zbm (zA [119]) (zr (i_A (zH hr)) (pv' 0) zi)) zj)) zj))))) zD)
  (zl (zaA (zZ (zbP (za9 hr)) (zr (i_A (zH hr)) (pv' 0) zi) zi) (zn (zy (zdr M_Swap (hr.mono (by decide)) (zc (zt zj) (zc (zt (zc (zx zbm (zA [119]) (zr (i_A (zH hr)) (pv' 0) zi)) zj)) (zc (zt (zc (zA [120]) zj)) zj)))))) zD)
  (zl (zaA (zZ (zbP (za9 hr)) (zr (i_A (zH hr)) (pv' 0) zi) zi) (zn (zy (zdr M_PutIn (hr.mono (by decide)) (zc (zt zj) (zc (zt (zc (zr (i_A (zH hr)) (pv' 0) zi) (zc (zt zj) (zc (zt zj) zj)))) zj))))) zD)
  (zl (zaA (zZ (zbP (za9 hr)) (zr (i_A (zH hr)) (pv' 0) zi) zi) (zn (zy (zdr M_LeaveOut (hr.mono (by decide)) (zc (zt (zc (zr (i_A (zH hr)) (pv' 0) zi) zj)) zj)))) zD)
  (zn (zy (zdr M_Anew (hr.mono (by decide)) (zc (zt (zc (zr (i_A (zH hr)) (pv' 0) zi) zj)) zj)))))))),?_⟩)
 ·obtain ⟨k,s,rfl,_⟩:=h
  rfl
 obtain ⟨k,l,rfl,hs,q⟩:=h; simp [zak,zaq,zaf,zao,zB,zad,tC',zaM,zbf,tB',zar,zaz,zby,zW,zal,zO,zap,zav,zbs,zbz,zbx,zas,zbA,zu,zax,zaC,zP,zX,zJ,zI,zbn,zE,zV,zaw,zL,zay,zK,zU,zan,zae,zbw,zN,zaG,xS,zaJ,zR,zaH,zS,zv,zaL,zM,zau,zaI,zaD,zQ,zaE,zaB,zam,zaN,zat,zF,zbH,zaM,zw,zq,zT,zaK]
 have o1:1<=sizeLine:=small (by decide)
 have o3:3<=sizeLine:=small (by decide)
 have ol:1+l.length<=sizeLine:=small (by omega)
 unfold mkK at q
 by_cases e0:k=0
 ·rw [yW e0] at q
  exact .inr ⟨e0,ol,o1,q⟩
 ·refine .inl ⟨e0,?_⟩
  rw [yS e0] at q
  by_cases e1:k=1
  ·rw [yW e1] at q
   exact .inr ⟨e1,ol,o1,q⟩
  ·refine .inl ⟨e1,?_⟩
   rw [yS e1] at q
   by_cases e2:k=2
   ·rw [yW e2] at q
    exact .inr ⟨e2,o3,q⟩
   ·refine .inl ⟨e2,?_⟩
    rw [yS e2] at q
    by_cases e3:k=3
    ·rw [yW e3] at q
     exact .inr ⟨e3,o1,q⟩
    ·rw [yS e3] at q
     exact .inl ⟨e3,o1,q⟩
def ze5:FnScope ["_law_deed_here"] ["_law_deed_here"] (zk zcM):=sc0
def zff (d:Df K mg "_law_handed" zcM ["_law_deed_here"]) (cf:CF K T) (G_law_change:Fn P w K mg base 3 "_law_change" ["_law_kind_here"] (zcw T)):Fn P w K mg base 4 "_law_handed" ["_law_deed_here"] (zbL T):=by
 refine d.ok ze5 (fun ds Q h=>?_) (fun f cdv A outer s H E hr ds Q h=>⟨_,(zl (zaA (zZ (zbP (za9 hr)) (zr (i_A (zH hr)) (pv' 0) zi) (zA [99,104,97,110,103,101])) (zn (zy (zt (zc (zA [99,104,97,110,103,101]) (zc (zr (i_A (zH hr)) (pv' 0) zi) (zc (zbe G_law_change (hr.mono (by decide)) (zc (zr (i_A (zH hr)) (pv' 0) zi) zj)) (zc (zr (i_A (zH hr)) (pv' 0) zi) zj))))))) zD)
  (zl (zaA (zZ (zbP (za9 hr)) (zr (i_A (zH hr)) (pv' 0) zi) (zA [105,110,115,116,101,97,100])) (zn (zy (zt (zc (zA [105,110,115,116,101,97,100]) (zc (zr (i_A (zH hr)) (pv' 0) zi) (zc (zr (i_A (zH hr)) (pv' 0) zi) (zc (zbe G_law_change (hr.mono (by decide)) (zc (zr (i_A (zH hr)) (pv' 0) zi) zj)) zj))))))) zD)
  (zn (zy (pv' 0))))),?_⟩)
 ·obtain ⟨d,ah,rfl,_⟩:=h
  rfl
 obtain ⟨d,ah,rfl,⟨hd,hn⟩,q⟩:=h
 have o4:4<=sizeLine:=small (by decide)
 cases d with
 | ch d c s' =>
  obtain ⟨⟨k,l,rfl,hl⟩,_⟩:=hd
  simp [zak,zaq,zaf,zao,zB,zad,tC',zaM,zbf,tB',zar,zaz,zby,zW,zal,zO,zap,zav,zbs,zbz,zbx,zas,zbA,zu,zax,zaC,zP,zX,zJ,zI,zbn,zE,zV,zaw,zL,zay,zK,zU,zan,zae,zbw,zN,zaG,xS,zaJ,zR,zaH,zS,zv,zaL,zM,zau,zaI,zaD,zQ,zaE,zaB,zam,zaN,zat,zF,zbH,zaM,zw,zq,zT,zaK,deD,zlq]; exact ⟨k,l,rfl,hl,o4,q⟩
 | lat n i d =>
  simp [zak,zaq,zaf,zao,zB,zad,tC',zaM,zbf,tB',zar,zaz,zby,zW,zal,zO,zap,zav,zbs,zbz,zbx,zas,zbA,zu,zax,zaC,zP,zX,zJ,zI,zbn,zE,zV,zaw,zL,zay,zK,zU,zan,zae,zbw,zN,zaG,xS,zaJ,zR,zaH,zS,zv,zaL,zM,zau,zaI,zaD,zQ,zaE,zaB,zam,zaN,zat,zF,zbH,zaM,zw,zq,zT,zaK,deD,zlT]; exact q
 | ins n i c =>
  obtain ⟨k,l,rfl,hl⟩:=hd; simp [zak,zaq,zaf,zao,zB,zad,tC',zaM,zbf,tB',zar,zaz,zby,zW,zal,zO,zap,zav,zbs,zbz,zbx,zas,zbA,zu,zax,zaC,zP,zX,zJ,zI,zbn,zE,zV,zaw,zL,zay,zK,zU,zan,zae,zbw,zN,zaG,xS,zaJ,zR,zaH,zS,zv,zaL,zM,zau,zaI,zaD,zQ,zaE,zaB,zam,zaN,zat,zF,zbH,zaM,zw,zq,zT,zaK,deD,zlh]; exact ⟨k,l,rfl,hl,o4,q⟩
 | drp n i =>
  simp [zak,zaq,zaf,zao,zB,zad,tC',zaM,zbf,tB',zar,zaz,zby,zW,zal,zO,zap,zav,zbs,zbz,zbx,zas,zbA,zu,zax,zaC,zP,zX,zJ,zI,zbn,zE,zV,zaw,zL,zay,zK,zU,zan,zae,zbw,zN,zaG,xS,zaJ,zR,zaH,zS,zv,zaL,zM,zau,zaI,zaD,zQ,zaE,zaB,zam,zaN,zat,zF,zbH,zaM,zw,zq,zT,zaK,deD,zmc]; exact q
def zhk {ah:List (List Nat)} {d:Deed} (f:D->D) (h:zhB ah d):zgX ah (deD (d.mapC f)):=by
 cases d with
 | ch d c s=>exact ⟨_,_,_,rfl,.inl rfl⟩
 | lat n i d=>exact ⟨_,_,_,rfl,.inr ⟨by decide,n,h,rfl⟩⟩
 | ins n i c=>exact ⟨_,_,_,rfl,.inr ⟨by decide,n,h,rfl⟩⟩
 | drp n i=>exact ⟨_,_,_,rfl,.inr ⟨by decide,n,h,rfl⟩⟩
end
def znT (as:List Act):Prop:=as.length<=15/\∀ a,a ∈ as->a.2.length<=3/\∀ d,d ∈ a.2->zcC zdA zj5 d
def zbK (T:Cs):Sp':=fun ds Q=>∃ (k:Int) (s:List Nat),ds=[mkK T k s,.tup [.int k,.str s]]/\s.length<=100/\Q (.val (.bl true))
def zbt (T:Cs):Sp':=fun ds Q=>∃ d,ds=[deD (d.mapC (mkC T)),deD d]/\zcC zdA zj5 d/\Q (.val (.bl true))
def zc6 (T:Cs):Sp':=fun ds Q=>∃ as:List Act,ds=[.lst ((as.map (hA T)).map zbd),.lst (as.map zbd)]/\znT as/\Q (.val (.bl true))
def zcy (T:Cs):Sp':=fun ds Q=>∃ t es,ds=[bkD T t es]/\Q (.val t)
instance {T:Cs}:MSp (zbt T):=⟨fun _ _ _ h ⟨d,e,a,q⟩=>⟨d,e,a,h _ q⟩⟩
def ziE (m:Nat):eqD (m+1) (.tup []) (.tup [])=some true:=zcX fun d z=>nomatch z
def zgv (m:Nat) (l:List Nat):eqD (m+2) (.tup [.str l]) (.tup [.str l])=some true:=zcX fun d hd=>by rw [yk.mp hd]; exact zdk _ _
def zmF (m:Nat) (l:List Nat):eqD (m+2) (.tup [.str l,.tup [],.tup []]) (.tup [.str l,.tup [],.tup []])=some true:=zcX fun d hd=>by
 simp only [yO,ya,or_false] at hd
 rcases hd with rfl | rfl | rfl
 ·exact zdk _ _
 ·exact ziE _
 ·exact ziE _
section
variable {T:Cs}
def ze7:FnScope ["self"] ["self"] (zk zbD):=sc0
def zfi {f:Addr} {fd:FuncData} (F:Fun K "first" "Book.first" zbD f fd) (bd:zbk K fd ["self"] []) (hm:Meth K T.Book "first" f) (cl:Cls K T.Book) (cf:CF K T):Mth P w K mg base 1 T.Book "first" ["self"] (zcy T):=by
 refine ⟨f,fd,PL.Fun.ok' F ze7 (fun ds Q h=>?_) (fun cdv A outer s H E hr ds Q h=>⟨_,(zn (zy (zaX (pv' 0)))),?_⟩),bd,hm,cl⟩
 ·obtain ⟨t,es,rfl,_⟩:=h
  rfl
 obtain ⟨t,es,rfl,q⟩:=h; simp [zak,zaq,zaf,zao,zB,zad,tC',zaM,zbf,tB',zar,zaz,zby,zW,zal,zO,zap,zav,zbs,zbz,zbx,zas,zbA,zu,zax,zaC,zP,zX,zJ,zI,zbn,zE,zV,zaw,zL,zay,zK,zU,zan,zae,zbw,zN,zaG,xS,zaJ,zR,zaH,zS,zv,zaL,zM,zau,zaI,zaD,zQ,zaE,zaB,zam,zaN,zat,zF,zbH,zaM,zw,zq,zT,zaK,bkD,lkT,cf.cl,cf.naT]; exact q
def zpk {C C':Addr} {fs:List (Str × D)} {b:Bool} {Q:D->Prop} (i:InsT K C) (k:W.kitOne K (.ref C) (.ref C')=some b):zee K [.obj C fs,.cls C'] Q↔Q (.bl b):=by
 simp only [ziM,k]
 exact ⟨fun ⟨_,b,e,q⟩=>by cases e; exact q,fun q=>⟨i,_,rfl,q⟩⟩
def zdi:FnScope ["_law_found","_law_kind_here"] ["_law_found","_law_kind_here"] (zk zbR):=sc0
def zdt (d:Df K mg "_law_same_change" zbR ["_law_found","_law_kind_here"]) (cf:CF K T) (z_isinstance:mg "isinstance"=none) (m_Anew:mg "Anew"=some (.ref T.Anew)) (m_LeaveOut:mg "LeaveOut"=some (.ref T.LeaveOut)) (m_PutIn:mg "PutIn"=some (.ref T.PutIn)) (m_Read:mg "Read"=some (.ref T.Read)) (m_Swap:mg "Swap"=some (.ref T.Swap)):Fn P w K mg base 1 "_law_same_change" ["_law_found","_law_kind_here"] (zbK T):=by
 refine d.ok zdi (fun ds Q h=>?_) (fun f cdv A outer s H E hr ds Q h=>⟨_,(zl (zaA (zZ (zbP (za9 hr)) (zr (i_A (zH hr)) (pv' 1) zi) zi) (zn (zy (zcA (zG (zcj K rfl) z_isinstance yL (zc (pv' 0) (zc (zbX m_Read) zj))) (zcA (zbv (zbP (za9 hr)) (zaX (pv' 0)) (zt zj)) (zdd (zbv (zbP (za9 hr)) (zaX (pv' 0)) (zt (zc (zx zbm (zA [119]) (zr (i_A (zH hr)) (pv' 1) zi)) zj)))))))) zD)
  (zl (zaA (zZ (zbP (za9 hr)) (zr (i_A (zH hr)) (pv' 1) zi) zi) (zl (zaA (PW'.pt (zdo (za6 (za5 (zG (zcj K rfl) z_isinstance yL (zc (pv' 0) (zc (zbX m_Swap) zj))))) (zda (zZ (zeH (za9 hr)) (zaX (pv' 0)) (zt zj))))) (zn (zy zbq)) zD)
  (zn (zy (zcA (zbv (zbP (za9 hr)) (zaX (pv' 0)) (zt (zc (zx zbm (zA [119]) (zr (i_A (zH hr)) (pv' 1) zi)) zj))) (zdd (zbv (zbP (za9 hr)) (zaX (pv' 0)) (zt (zc (zA [120]) zj)))))))) zD)
  (zl (zaA (zZ (zbP (za9 hr)) (zr (i_A (zH hr)) (pv' 1) zi) zi) (zn (zy (zcA (zG (zcj K rfl) z_isinstance yL (zc (pv' 0) (zc (zbX m_PutIn) zj))) (zcA (zbv (zbP (za9 hr)) (zaX (pv' 0)) (zt zj)) (zdd (zbv (zbP (za9 hr)) (zaX (pv' 0)) (zt (zc (zr (i_A (zH hr)) (pv' 1) zi) (zc (zt zj) (zc (zt zj) zj)))))))))) zD)
  (zl (zaA (zZ (zbP (za9 hr)) (zr (i_A (zH hr)) (pv' 1) zi) zi) (zn (zy (zcA (zG (zcj K rfl) z_isinstance yL (zc (pv' 0) (zc (zbX m_LeaveOut) zj))) (zdd (zbv (zbP (za9 hr)) (zaX (pv' 0)) (zt (zc (zr (i_A (zH hr)) (pv' 1) zi) zj))))))) zD)
  (zn (zy (zcA (zG (zcj K rfl) z_isinstance yL (zc (pv' 0) (zc (zbX m_Anew) zj))) (zdd (zbv (zbP (za9 hr)) (zaX (pv' 0)) (zt (zc (zr (i_A (zH hr)) (pv' 1) zi) zj))))))))))),?_⟩)
 ·obtain ⟨k,s,rfl,_⟩:=h
  rfl
 obtain ⟨k,l,rfl,hl,q⟩:=h
 have o1:1<=sizeLine:=small (by decide)
 have o3:3<=sizeLine:=small (by decide)
 have ol:1+l.length<=sizeLine:=small (by omega)
 have hk:(k=0/\mkK T k l=.obj T.Read [("place",.tup []),("words",.tup [.str (119 :: l)])])\/(k≠0/\k=1/\mkK T k l=.obj T.Swap [("place",.tup []),("old",.tup [.str (119 :: l)]),("new",.tup [.str [120]])])
   \/ (k≠0/\k≠1/\k=2/\mkK T k l=.obj T.PutIn [("place",.tup []),("node",.tup [.str l,.tup [],.tup []])])\/(k≠0/\k≠1/\k≠2/\k=3/\mkK T k l=.obj T.LeaveOut [("place",.tup [.str l])])\/(k≠0/\k≠1/\k≠2/\k≠3/\mkK T k l=.obj T.Anew [("place",.tup [.str l])]):=by
  unfold mkK
  by_cases e0:k=0
  ·exact .inl ⟨e0,yW e0⟩
  ·rw [yS e0]
   by_cases e1:k=1
   ·exact .inr (.inl ⟨e0,e1,yW e1⟩)
   ·rw [yS e1]
    by_cases e2:k=2
    ·exact .inr (.inr (.inl ⟨e0,e1,e2,yW e2⟩))
    ·rw [yS e2]
     by_cases e3:k=3
     ·exact .inr (.inr (.inr (.inl ⟨e0,e1,e2,e3,yW e3⟩)))
     ·exact .inr (.inr (.inr (.inr ⟨e0,e1,e2,e3,yS e3⟩)))
 generalize mkK T k l=o at hk; simp [zak,zaq,zaf,zao,zB,zad,tC',zaM,zbf,tB',zar,zaz,zby,zW,zal,zO,zap,zav,zbs,zbz,zbx,zas,zbA,zu,zax,zaC,zP,zX,zJ,zI,zbn,zE,zV,zaw,zL,zay,zK,zU,zan,zae,zbw,zN,zaG,xS,zaJ,zR,zaH,zS,zv,zaL,zM,zau,zaI,zaD,zQ,zaE,zaB,zam,zaN,zat,zF,zbH,zaM,zw,zq,zT,zaK]
 rcases hk with ⟨e0,rfl⟩ | ⟨e0,e1,rfl⟩ | ⟨e0,e1,e2,rfl⟩ | ⟨e0,e1,e2,e3,rfl⟩ | ⟨e0,e1,e2,e3,rfl⟩
 ·refine .inr ⟨e0,?_⟩
  simp [zpk cf.iR cf.kRR]; exact ⟨cf.iR.cl,cf.nRp,cf.iR.cl,cf.nRw,_,rfl,ol,o1,true,zgv 98 _,q⟩
 ·refine .inl ⟨e0,.inr ⟨e1,?_⟩⟩
  simp [zpk cf.iS cf.kSS]; exact ⟨cf.iS.cl,cf.nSp,cf.iS.cl,cf.nSo,_,rfl,ol,o1,true,zgv 98 _,.inr ⟨rfl,cf.iS.cl,cf.nSn,_,rfl,o1,true,zgv 98 _,q⟩⟩
 ·refine .inl ⟨e0,.inl ⟨e1,.inr ⟨e2,?_⟩⟩⟩
  simp [zpk cf.iP cf.kPP]; exact ⟨cf.iP.cl,cf.nPp,cf.iP.cl,cf.nPn,_,rfl,o3,true,zmF 98 _,q⟩
 ·refine .inl ⟨e0,.inl ⟨e1,.inl ⟨e2,.inr ⟨e3,?_⟩⟩⟩⟩
  simp [zpk cf.iL cf.kLL]; exact ⟨cf.iL.cl,cf.nLp,o1,q⟩
 ·refine .inl ⟨e0,.inl ⟨e1,.inl ⟨e2,.inl ⟨e3,?_⟩⟩⟩⟩
  simp [zpk cf.iA cf.kAA]; exact ⟨cf.iA.cl,cf.nAp,o1,q⟩
def zdl {m:Nat} {ds:List D} (h:∀ d ∈ ds,(∃ l,d=.str l)\/(∃ i,d=.int i)\/d=.non):zcG (m+2) (.tup ds):=zcX fun d hd=>by
 rcases h d hd with ⟨l,rfl⟩ | ⟨i,rfl⟩ | rfl
 ·exact zdk _ _
 ·exact zkm _ _
 ·exact zg7 _
def zqh {Q:D->Prop} {a b:List D} (h:a.length+b.length<=sizeLine) (q:Q (.tup (a ++ b))):zfO (.tup a) (.tup b) Q:=.inr ⟨a,b,rfl,rfl,h,q⟩
def zcF:FnScope ["_law_found","_law_deed_here","_law_at"] ["_law_found","_law_deed_here"] (zk zcd):=sc0
def zdZ (d:Df K mg "_law_same_deed" zcd ["_law_found","_law_deed_here"]) (cf:CF K T) (G_law_same_change:Fn P w K mg base 1 "_law_same_change" ["_law_found","_law_kind_here"] (zbK T)) (z_isinstance:mg "isinstance"=none) (z_len:mg "len"=none) (z_tuple:mg "tuple"=none):Fn P w K mg base 2 "_law_same_deed" ["_law_found","_law_deed_here"] (zbt T):=by
 refine d.ok zcF (fun ds Q h=>?_) (fun f cdv A outer s H E hr ds Q h=>⟨_,(zl (zaA (PW'.pt (zdo (za6 (za5 (zG (zcj K rfl) z_isinstance yL (zc (pv' 0) (zc (zeR z_tuple PyProof.Rows.boot_tuple) zj))))) (zdo (zZ (zeH (za9 hr)) (zG zci z_len yn (zc (pv' 0) zj)) (zG zci z_len yn (zc (pv' 1) zj))) (zda (zZ (zeH (za9 hr)) (zr (i_A (zH hr)) (pv' 0) zi) (zr (i_A (zH hr)) (pv' 1) zi)))))) (zn (zy zbq)) zD)
  (zl (zai 2 zcF.nd (zi2 (za0 (zbp (zc (zA [108,97,116,101,114]) (zc (zA [100,114,111,112]) (zc (zA [99,104,97,110,103,101]) (zc (zA [105,110,115,116,101,97,100]) zj)))))) (zr (i_A (zH hr)) (pv' 1) zi)))
  (zl (zaA (zZ zo4 (pv' 2) zi) (zn (zy (zbv (zbP (za9 hr)) (pv' 0) (pv' 1)))) zD)
  (zl (zaA (za6 (za5 (zbe G_law_same_change (hr.mono (by decide)) (zc (zr (i_A (zH hr)) (pv' 0) (pv' 2)) (zc (zr (i_A (zH hr)) (pv' 1) (pv' 2)) zj))))) (zn (zy zbq)) zD)
  (zn (zy (zbv (zbP (za9 hr)) (zx zbm (zcQ s_A (pv' 0) zeE (zdY (pv' 2))) (zcQ s_A (pv' 0) (zdY (zx zbm (pv' 2) zi)) zeE)) (zx zbm (zcQ s_A (pv' 1) zeE (zdY (pv' 2))) (zcQ s_A (pv' 1) (zdY (zx zbm (pv' 2) zi)) zeE))))))))),?_⟩)
 ·obtain ⟨k,rfl,_⟩:=h
  rfl
 obtain ⟨d,rfl,hs,q⟩:=h
 cases d with
 | drp n i =>
  simp [zak,zaq,zaf,zao,zB,zad,tC',zaM,zbf,tB',zar,zaz,zby,zW,zal,zO,zap,zav,zbs,zbz,zbx,zas,zbA,zu,zax,zaC,zP,zX,zJ,zI,zbn,zE,zV,zaw,zL,zay,zK,zU,zan,zae,zbw,zN,zaG,xS,zaJ,zR,zaH,zS,zv,zaL,zM,zau,zaI,zaD,zQ,zaE,zaB,zam,zaN,zat,zF,zbH,zaM,zw,zq,zT,zaK,deD,zmc,Deed.mapC]
  refine ⟨small (by decide),[zlT,zmc,zlq,zlh],rfl,1,rfl,by decide,.inr ⟨by decide,true,zdl (m:=98) (by simp),q⟩⟩
 | lat n i d =>
  simp [zak,zaq,zaf,zao,zB,zad,tC',zaM,zbf,tB',zar,zaz,zby,zW,zal,zO,zap,zav,zbs,zbz,zbx,zas,zbA,zu,zax,zaC,zP,zX,zJ,zI,zbn,zE,zV,zaw,zL,zay,zK,zU,zan,zae,zbw,zN,zaG,xS,zaJ,zR,zaH,zS,zv,zaL,zM,zau,zaI,zaD,zQ,zaE,zaB,zam,zaN,zat,zF,zbH,zaM,zw,zq,zT,zaK,deD,zlT,Deed.mapC]
  refine ⟨small (by decide),[zlT,zmc,zlq,zlh],rfl,0,rfl,by decide,.inr ⟨by decide,true,zdl (m:=98) (by simp),q⟩⟩
 | ins n i c =>
  obtain ⟨k,l,rfl,hl⟩:=hs; simp [zak,zaq,zaf,zao,zB,zad,tC',zaM,zbf,tB',zar,zaz,zby,zW,zal,zO,zap,zav,zbs,zbz,zbx,zas,zbA,zu,zax,zaC,zP,zX,zJ,zI,zbn,zE,zV,zaw,zL,zay,zK,zU,zan,zae,zbw,zN,zaG,xS,zaJ,zR,zaH,zS,zv,zaL,zM,zau,zaI,zaD,zQ,zaE,zaB,zam,zaN,zat,zF,zbH,zaM,zw,zq,zT,zaK,deD,zlh,Deed.mapC]
  refine ⟨small (by decide),[zlT,zmc,zlq,zlh],rfl,3,rfl,by decide,.inl ⟨by decide,_,znO _ _ _ _ _,_,znO _ _ _ _ _,k,l,rfl,hl,.inr ⟨rfl,?_⟩⟩⟩
  refine zqh (show (3:Nat)<=sizeLine from small (by decide)) (zqh (show (3:Nat)<=sizeLine from small (by decide)) ⟨true,?_,q⟩)
  exact zdl (m:=98) (ds:=[.str zlh,.str n,.int i]) (by simp)
 | ch d c s =>
  obtain ⟨⟨k,l,rfl,hl⟩,hs⟩:=hs
  simp [zak,zaq,zaf,zao,zB,zad,tC',zaM,zbf,tB',zar,zaz,zby,zW,zal,zO,zap,zav,zbs,zbz,zbx,zas,zbA,zu,zax,zaC,zP,zX,zJ,zI,zbn,zE,zV,zaw,zL,zay,zK,zU,zan,zae,zbw,zN,zaG,xS,zaJ,zR,zaH,zS,zv,zaL,zM,zau,zaI,zaD,zQ,zaE,zaB,zam,zaN,zat,zF,zbH,zaM,zw,zq,zT,zaK,deD,zlq,Deed.mapC]
  refine ⟨small (by decide),[zlT,zmc,zlq,zlh],rfl,2,rfl,by decide,.inl ⟨by decide,_,znP _ _ _ _,_,znP _ _ _ _,k,l,rfl,hl,.inr ⟨rfl,?_⟩⟩⟩
  refine zqh (show (3:Nat)<=sizeLine from small (by decide)) (zqh (show (3:Nat)<=sizeLine from small (by decide)) ⟨true,?_,q⟩)
  exact zdl (m:=98) (ds:=[.str zlq,.int d,s]) (by
   rcases hs with rfl | ⟨i,rfl⟩ <;> simp)
instance mi_zip {t:TA'} [MA t]:MI (zaB t):=⟨fun Γ _ _ h q=>MA.mono (t:=t) Γ _ _ (fun _ _ ⟨xs,ys,e,z⟩=>⟨xs,ys,e,h _ _ z⟩) q⟩
theorem ze0 {α:Type} (f g:α->D):∀ l:List α,((l.map f).zip (l.map g)).map (fun p=>D.tup [p.1,p.2])=l.map fun a=>.tup [f a,g a]
 | []=>rfl
 | a :: l=>by simp [ze0 f g l]
def zcc:FnScope ["_law_found","_law_acts_here","_law_one","_law_act","_law_deed_here","_law_due"] ["_law_found","_law_acts_here"] (zk zdG):=sc0
def zgF (d:Df K mg "_law_same" zdG ["_law_found","_law_acts_here"]) (cf:CF K T) (G_law_same_deed:Fn P w K mg base 2 "_law_same_deed" ["_law_found","_law_deed_here"] (zbt T)) (z_isinstance:mg "isinstance"=none) (z_len:mg "len"=none) (z_list:mg "list"=none) (z_tuple:mg "tuple"=none) (z_zip:mg "zip"=none):Fn P w K mg base 3 "_law_same" ["_law_found","_law_acts_here"] (zc6 T):=by
 refine d.ok zcc (fun ds Q h=>?_) (fun f cdv A outer s H E hr ds Q h=>⟨_,(zl (zaA (PW'.pt (zdo (za6 (za5 (zG (zcj K rfl) z_isinstance yL (zc (pv' 0) (zc (zeR z_list PyProof.Rows.boot_list) zj))))) (zda (zZ (zeH (za9 hr)) (zG zci z_len yn (zc (pv' 0) zj)) (zG zci z_len yn (zc (pv' 1) zj)))))) (zn (zy zbq)) zD)
  (zl (zdL (ziW z_zip (zc (pv' 0) (zc (pv' 1) zj))) (zgA (n:=2) (zb0 (zaF 2 zcc.nd) (zb0 (zaF 3 zcc.nd) zfc)))
   (zl (zaA (PW'.pt (zdo (za6 (za5 (zG (zcj K rfl) z_isinstance yL (zc (pv' 2) (zc (zeR z_tuple PyProof.Rows.boot_tuple) zj))))) (zdo (zZ (zeH (za9 hr)) (zG zci z_len yn (zc (pv' 2) zj)) zi) (zda (zZ (zeH (za9 hr)) (zcQ s_A (pv' 2) zeE (zdY zi)) (zcQ s_A (pv' 3) zeE (zdY zi))))))) (zn (zy zbq)) zD)
  (zl (zaA (PW'.pt (zdo (za6 (za5 (zG (zcj K rfl) z_isinstance yL (zc (zr (i_A (zH hr)) (pv' 2) zi) (zc (zeR z_list PyProof.Rows.boot_list) zj))))) (zda (zZ (zeH (za9 hr)) (zG zci z_len yn (zc (zr (i_A (zH hr)) (pv' 2) zi) zj)) (zG zci z_len yn (zc (zr (i_A (zH hr)) (pv' 3) zi) zj)))))) (zn (zy zbq)) zD)
  (zn (zdL (ziW z_zip (zc (zr (i_A (zH hr)) (pv' 2) zi) (zc (zr (i_A (zH hr)) (pv' 3) zi) zj))) (zgA (n:=2) (zb0 (zaF 4 zcc.nd) (zb0 (zaF 5 zcc.nd) zfc)))
   (zn (zaA (za6 (za5 (zbe G_law_same_deed (hr.mono (by decide)) (zc (pv' 4) (zc (pv' 5) zj))))) (zn (zy zbq)) zD)))))))
  (zn (zy zbq)))),?_⟩)
 ·obtain ⟨k,rfl,_⟩:=h
  rfl
 obtain ⟨as,rfl,⟨hl,ha⟩,q⟩:=h
 simp [zak,zaq,zaf,zao,zB,zad,tC',zaM,zbf,tB',zar,zaz,zby,zW,zal,zO,zap,zav,zbs,zbz,zbx,zas,zbA,zu,zax,zaC,zP,zX,zJ,zI,zbn,zE,zV,zaw,zL,zay,zK,zU,zan,zae,zbw,zN,zaG,xS,zaJ,zR,zaH,zS,zv,zaL,zM,zau,zaI,zaD,zQ,zaE,zaB,zam,zaN,zat,zF,zbH,zaM,zw,zq,zT,zaK]; rw [ze0]
 refine zet (fun i Γ=>∃ s2 s3 s4 s5:Slot,Γ=[Slot.val (D.lst (List.map (zbd ∘ hA T) as)),Slot.val (D.lst (List.map zbd as)),s2,s3,s4,s5]) ⟨_,_,_,_,rfl⟩ ?_ ?_
 ·rintro i d Γ he ⟨s2,s3,s4,s5,rfl⟩
  rw [yF] at he; obtain ⟨a,hx,rfl⟩:=yK.mp he; obtain ⟨h3,hd⟩:=ha a (yZ hx)
  obtain ⟨⟨nm,day,oth⟩,dl⟩:=a
  simp [zak,zaq,zaf,zao,zB,zad,tC',zaM,zbf,tB',zar,zaz,zby,zW,zal,zO,zap,zav,zbs,zbz,zbx,zas,zbA,zu,zax,zaC,zP,zX,zJ,zI,zbn,zE,zV,zaw,zL,zay,zK,zU,zan,zae,zbw,zN,zaG,xS,zaJ,zR,zaH,zS,zv,zaL,zM,zau,zaI,zaD,zQ,zaE,zaB,zam,zaN,zat,zF,zbH,zaM,zw,zq,zT,zaK,zbd,hA]; refine ⟨_,_,⟨rfl,rfl⟩,rfl,?_⟩; simp [zak,zaq,zaf,zao,zB,zad,tC',zaM,zbf,tB',zar,zaz,zby,zW,zal,zO,zap,zav,zbs,zbz,zbx,zas,zbA,zu,zax,zaC,zP,zX,zJ,zI,zbn,zE,zV,zaw,zL,zay,zK,zU,zan,zae,zbw,zN,zaG,xS,zaJ,zR,zaH,zS,zv,zaL,zM,zau,zaI,zaD,zQ,zaE,zaB,zam,zaN,zat,zF,zbH,zaM,zw,zq,zT,zaK]; refine ⟨true,?_,.inl ⟨rfl,?_⟩⟩
  ·exact zdl (m:=98) (ds:=[.str nm,.int day,zeS oth]) (by cases oth <;> simp [zeS])
  rw [ze0]
  refine zet (fun i Γ=>∃ s2 s3 s4 s5:Slot,Γ=[Slot.val (D.lst (List.map (zbd ∘ hA T) as)),Slot.val (D.lst (List.map zbd as)),s2,s3,s4,s5]) ⟨_,_,_,_,rfl⟩ ?_ ?_
  ·rintro i d Γ he ⟨s2,s3,s4,s5,rfl⟩
   rw [yF] at he; obtain ⟨x,hx,rfl⟩:=yK.mp he; simp [zak,zaq,zaf,zao,zB,zad,tC',zaM,zbf,tB',zar,zaz,zby,zW,zal,zO,zap,zav,zbs,zbz,zbx,zas,zbA,zu,zax,zaC,zP,zX,zJ,zI,zbn,zE,zV,zaw,zL,zay,zK,zU,zan,zae,zbw,zN,zaG,xS,zaJ,zR,zaH,zS,zv,zaL,zM,zau,zaI,zaD,zQ,zaE,zaB,zam,zaN,zat,zF,zbH,zaM,zw,zq,zT,zaK]; exact ⟨_,_,⟨rfl,rfl⟩,rfl,x,rfl,hd x (yZ hx),.inr rfl⟩
  ·rintro Γ ⟨s2,s3,s4,s5,rfl⟩
   exact ⟨_,_,_,_,rfl⟩
 ·rintro Γ ⟨s2,s3,s4,s5,rfl⟩
  exact q
end
end K31
namespace L2
open PySem PySem.Spec PyProof.Rows
structure FnOkU (P:Program) (w:World) (K:W.Frag) (mg:Str->Option Value) (base:Heap) (k:Nat) (f:Addr) (fd:FuncData) (ps:List Str) (sp:Sp):Prop where
 len:∀ vs H Q E,sp vs H Q E->vs.length=ps.length
 run:∀ (A:Around) (e:Value) (outer:List Env) (s:Shared) (H:Hp) (args:Args) (us:List Value) (vs:List V) (Q:VK) (E:XK),Room k A->Env0 P w K mg base A outer s H->BindsTo s fd args (ps.zip us)->za4 vs us->sp vs H Q E ->
  codeAny (model P w) (A.mark (some e)) (.call (.ref f) args) (CR CX0 outer P w H s Q E) s
def Fun.okU {P:Program} {w:World} {K:W.Frag} {mg:Str->Option Value} {base:Heap} {x qual:Str} {st:Stmt} {f:Addr} {fd:FuncData} {N ps:List Str} {k:Nat} {sp:Sp} (F:Fun K x qual st f fd) (S:FnScope N ps (zk st)) (len:∀ vs H Q E,sp vs H Q E->vs.length=ps.length)
  (hbody:∀ (cdv:Value) (A:Around) (outer:List Env) (s:Shared) (H:Hp) (vs:List V) (Q:VK) (E:XK) (e:Value),Room k (A.deeper (envOfC qual (zk st) s.heap.objs.size f cdv))->sp vs H Q E ->
   ∃ t,PSs ((zd8 CX0 P w K mg base N qual (zk st) f cdv A outer s H E).nox.mark e) (zaO st) t/\t { nx:=fun _ H'=>Q .non H',rt:=Q } (start N vs) H):FnOkU P w K mg base (k+1) f fd ps sp:=by
 obtain ⟨oc,od,kV,doc,pm,an,cdv,ct,osl,rfl,lk,hcd⟩:=F.ex
 refine ⟨len,fun A e outer s H args us vs Q E hr e0 hb r hsp=>?_⟩
 have hl:=len _ _ _ _ hsp
 have KX:K.In s.heap:=e0.mod.kin.keeps fun b o e=>(e0.bs b o e).1
 have lim:s.heap.NoLimit:=e0.mod.nolimit.keeps fun b o e=>(e0.bs b o e).1
 have hkind:∀ y ∈ ps.zip us,(zk st).names.lookup y.1=some .local\/((zk st).names.lookup y.1=some .cell/\((cellsFrom (s.heap.objs.size+1) (zk st).names []).lookup y.1).isSome=true):=fun ⟨n,v⟩ hy=>by
  rcases S.par n (List.of_mem_zip hy).1 with q | q
  ·exact .inl q
  ·exact .inr ⟨q,W.cellsFrom_some _ _ _ (.inl q)⟩
 refine codeAny_call_function (A:=A.mark (some e)) hr.depth (KX _ _ lk) rfl S.co S.gen rfl (W.codeRec_of KX hcd) (hb _ _ _ _ ?_)
 refine wpAny_newFunctionEnv_cells S.kind hkind fun env he s1 x=>?_
 subst he; refine ⟨lim.keeps x.toInCall.keep,codeAny_func ?_⟩; obtain ⟨t,ht,hq⟩:=hbody cdv A outer s H vs Q E e (hr.deeper _) hsp
 have I:Inv (zd8 CX0 P w K mg base N qual (zk st) f cdv A outer s H E) [] (start N vs) H s1:=zf6 S hr.hd e0 hl r x
 have J0:Inv ((zd8 CX0 P w K mg base N qual (zk st) f cdv A outer s H E).nox.mark e) [] (start N vs) H s1:=I.mark e
 refine ym (ht [] s1 (start N vs) H _ J0 hq) (fun fl s' hs=>?_) fun e s' hs=>hs.elim
 have fin:∀ {σ':St} {H':Hp} {v:V} {u:Value},Inv ((zd8 CX0 P w K mg base N qual (zk st) f cdv A outer s H E).nox.mark e) [] σ' H' s'->zbI v u->Q v H'->CE outer P w H s Q u s' :=
  fun {σ' H' v u} J rv q=>⟨v,H',J.os,J.bare,J.base,J.hok,rv,q⟩
 cases fl with
 | ret u =>
  obtain ⟨v,σ',H',J,rv,q⟩:=hs; exact fin J rv q
 | next =>
  obtain ⟨σ',H',J,q⟩:=hs; exact fin (v:=V.non) (u:=Value.none) J rfl q
 | brk =>
  obtain ⟨_,_,_,q⟩:=hs; exact False.elim q
 | cont =>
  obtain ⟨_,_,_,q⟩:=hs; exact False.elim q
section
variable {k:Nat} {f:Addr} {fd:FuncData} {ps:List Str} {sp:Sp} {x:Str} {p pos:Pos} {e:Expr} {es:List Expr} {t:TA} {ev:Value}
def zkH (F:FnOkU X.prog X.w X.K X.mg X.base k f fd ps sp) (hr:Room k X.A) (hg:Gl X x) (hm:X.mg x=some (.ref f)) (hk:W.keepIn X.K (.ref f)=true) (hb:zbk X.K fd ps [])
  (ha:PA (X.mark ev) (e :: es) t) (hdb:yyD x:=by decide) (he:starEach (e :: es) X.env=(false,eval e X.env) :: starEach es X.env:=by rfl) (hpl:(backTo pos (starEach es X.env)).any (·.1)=false:=by rfl) :
  PE (X.mark ev) (.Call (.Name x p) (e :: es) [] pos) (zoa sp [] E0 t):=by
 intro pins s σ H Q I h; refine YO (zco (X:=X.mark ev) I hg hm ?_ hdb)
 refine W.callWith_K (h₀:=X.base) I.ok.mod.kin hk (thn (ha pos pins s σ H _ I h) fun us s1 ⟨vs,H1,I1,r,q⟩=>⟨I1.kIn,?_⟩) he hpl
 have r2:za4 (vs ++ []) (us ++ []):=r.append .nil
 have hl:(us ++ []).length=ps.length:=by rw [<- r2.length]; exact F.len _ _ _ _ q
 have e0:=I1.env0
 refine wpAny_call (codeAny_mono (F.run X.A ev X.stack s1 H1 ⟨us,[]⟩ (us ++ []) (vs ++ []) Q E0 hr ⟨e0.frames,e0.mod,e0.bs,e0.bsz,e0.funs,e0.frf,e0.hok,e0.bare,e0.tab⟩ (hb s1 us I1.kIn hl) r2 q) fun r s' hq=>?_)
 cases r with
 | error e=>exact zfe (X:=X.mark ev) pins σ H1 s1 e s' I1 hq
 | ok fl =>
  cases fl with
  | ret u=>exact I1.after hq
  | next=>exact False.elim hq
  | brk=>exact False.elim hq
  | cont=>exact False.elim hq
end
end L2
namespace PL
open PySem L2
structure FnU (P:Program) (w:World) (K:W.Frag) (mg:Str->Option Value) (base:Heap) (k:Nat) (x:Str) (ps:List Str) (sp:Sp'):Prop where
 ex:∃ f fd,FnOkU P w K mg base k f fd ps (zij K sp)/\zbk K fd ps []/\W.keepIn K (.ref f)=true/\mg x=some (.ref f)
section
def Fun.okU' {x qual:Str} {st:Stmt} {f:Addr} {fd:FuncData} {N ps:List Str} {k:Nat} {sp:Sp'} (F:Fun K x qual st f fd) (S:FnScope N ps (zk st)) (len:∀ ds Q,sp ds Q->ds.length=ps.length)
  (hbody:∀ (cdv:Value) (A:Around) (outer:List Env) (s:Shared) (H:Hp) (E:XK) (e:Value),Room k (A.deeper (PyProof.Rows.envOfC qual (zk st) s.heap.objs.size f cdv))->∀ ds Q,sp ds Q ->
   ∃ t,PSs' ((zd8 CX0 P w K mg base N qual (zk st) f cdv A outer s H E).nox.mark e) (zaO st) t/\t { nx:=fun _=>Q (.val .non),rt:=fun r _=>Q r } (zca N ds)):FnOkU P w K mg base (k+1) f fd ps (zij K sp):=by
 refine L2.Fun.okU F S (fun vs H Q E h=>?_) (fun cdv A outer s H vs Q E e hr h=>?_)
 ·obtain ⟨Hi,ds,Q',_,dl,h,_⟩:=h
  rw [zm dl]; exact len ds Q' h
 obtain ⟨Hi,ds,Q',sb,dl,h,fin⟩:=h; obtain ⟨t,h1,h2⟩:=hbody cdv A outer s H E e hr ds Q' h
 have hlen:ds.length=ps.length:=len ds Q' h
 have hpl:ps.length<=N.length:=by have:=yg List.length S.pre; rw [yT] at this; omega
 have hvl:=zm dl; refine ⟨_,h1.h,⟨H,Hi,[]⟩,Hi,zca N ds,_,?_,h2,?_⟩
 ·refine ⟨?_,sb,fun b o e _=>e,fun b o e=>⟨o,e⟩,fun b o e=>rfl,fun j d e=>?_,fun j o e=>?_,fun j k o o' b e=>?_,fun j d b xs e=>?_⟩
  ·unfold L2.start
   show _=N.length
   rw [yu,yE,Yk]; omega
  all_goals
   unfold zca at e
   by_cases hj:j<ds.length
   ·rw [yV (by simpa using hj),yF,yB hj] at e
    try cases e
    try
     obtain ⟨v,e1,e2⟩:=zaV dl (yB hj); refine ⟨v,?_,e2⟩; unfold L2.start
     rw [yV (by rw [yE]; omega),yF,e1]
     rfl
   ·rw [yo (by simpa using hj),Ye] at e
    split at e <;> cases e
 ·refine ⟨fun σ' H' Hi' Γ' s1 g1 q=>?_,fun _ _ _ _ _ _ q=>q.elim,fun _ _ _ _ _ _ q=>q.elim,fun v σ' H' Hi' Γ' r s1 g1 ro q=>?_⟩
  ·exact fin Hi' H' .non (.val .non) ⟨s1,fun b o e=>g1.keep b o e (by simp),g1.fz,fun b o e=>g1.fro b o e⟩ .non q
  ·exact fin Hi' H' v r ⟨s1,fun b o e=>g1.keep b o e (by simp),g1.fz,fun b o e=>g1.fro b o e⟩ ro q
def Df.okU {k:Nat} {x:Str} {ps:List Str} {sp:Sp'} {st:Stmt} {N:List Str} (d:Df K mg x st ps) (S:FnScope N ps (zk st)) (len:∀ ds Q,sp ds Q->ds.length=ps.length)
  (hbody:∀ (f:Addr) (cdv:Value) (A:Around) (outer:List Env) (s:Shared) (H:Hp) (E:XK) (e:Value),Room k (A.deeper (PyProof.Rows.envOfC x (zk st) s.heap.objs.size f cdv))->∀ ds Q,sp ds Q ->
   ∃ t,PSs' ((zd8 CX0 P w K mg base N x (zk st) f cdv A outer s H E).nox.mark e) (zaO st) t/\t { nx:=fun _=>Q (.val .non),rt:=fun r _=>Q r } (zca N ds)):FnU P w K mg base (k+1) x ps sp:=by
 obtain ⟨f,fd,F,b,m⟩:=d.ex; exact ⟨f,fd,Fun.okU' F S len (hbody f),b,F.kp,m⟩
end
section
variable {k:Nat} {x:Str} {ps:List Str} {sp:Sp'} {p pos:Pos} {e:Expr} {es:List Expr} {t:TA'} {ev:Value}
def zlP (h:FnU X.prog X.w X.K X.mg X.base k x ps sp) (hr:Room k X.A) (ha:PA' (X.mark ev) (e :: es) t) (hg:Gl X x:=by rfl) (hdb:yyD x:=by decide) :
  PE' (X.mark ev) (.Call (.Name x p) (e :: es) [] pos) (zI sp t):=by
 obtain ⟨f,fd,F,b,hk,hm⟩:=h.ex; refine ⟨PE.weak (zkH F hr hg hm hk b ha.pa hdb (zah (zC ha.pl).1) (zaS (zC ha.pl).2)) ?_⟩
 rintro σ H Q ⟨W,Hi,Γ,Q',g,h,fin⟩
 refine ⟨W,Hi,Γ,_,g,h,?_⟩; intro vs H1 Hi1 Γ1 ds s1 g1 dl q; rw [yh]; refine ⟨Hi1,ds,_,g1.fz,dl,q,?_⟩; intro Hi2 H2 v r ex ro q2
 cases r with
 | val d=>exact fin v H2 ⟨Hi2,d,Γ1,s1.trans ex.hi,g1.ext ex,ro,q2⟩
 | own o =>
  obtain ⟨a,rfl,h1,h2,h3⟩:=ro; have nw:=zbl g1 ex h1 h2 h3; obtain ⟨u,hu⟩:=h3.there; exact fin _ H2 ⟨upd Hi2 a u,_,Γ1,s1.trans (ex.hi.trans (zY h1 u)),(g1.ext ex).freezeA nw.hi nw.h0 nw.ne hu,h3.den h1 hu,q2⟩
 | bk d o =>
  obtain ⟨b,dv,hol,h1,h2,h3⟩:=ro; have nw:=zbl g1 ex h1 h2 h3; obtain ⟨u,hu⟩:=h3.there; exact fin _ H2 ⟨upd Hi2 b u,_,Γ1,s1.trans (ex.hi.trans (zY h1 u)),(g1.ext ex).freezeA nw.hi nw.h0 nw.ne hu,hol b _ v o (h3.den h1 hu) (dv.mono (zY h1 u)),q2⟩
end
end PL
namespace K31X
open PySem L2 Lb PL M34 K31
abbrev Act:=K31.Act
def zpD:bootBuiltins "ValueError"=some (.type "ValueError"):=rfl
def exF:Option (List Nat)->List (Str × D)
 | none=>[]
 | some n=>[("name",.str n)]
def zjS (n:List Nat):Prop:=n.length<=12/\∀ c,c ∈ n->c<1000
def Ref (es:List Act) (nm:D) (day:Int) (ns:List (List Nat)) (v:Nat) (o:Option (List Nat)):Prop :=
 Nm1 nm/\((nmB nm=false/\v=0/\o=none)\/∃ l,nm=.str l/\nmB nm=true/\((l ∈ nms es/\v=1/\o=none)\/(l ∉ nms es /\
  (((∃ es' a,es=es' ++ [a]/\day<a.1.day)/\v=2/\o=none)\/((∀ e,e ∈ es->e.1.day<=day)/\∃ pre n post,ns=pre ++ n :: post/\(∀ x,x ∈ pre->x ∈ nms es)/\n ∉ nms es/\zjS n/\v=3/\o=some n)))))
def Ref.lt {es:List Act} {nm:D} {day:Int} {ns:List (List Nat)} {v:Nat} {o:Option (List Nat)} (h:Ref es nm day ns v o):v<4:=by
 obtain ⟨_,h⟩:=h
 rcases h with ⟨_,rfl,_⟩ | ⟨l,_,_,⟨_,rfl,_⟩ | ⟨_,⟨_,rfl,_⟩ | ⟨_,_,_,_,_,_,_,_,rfl,_⟩⟩⟩ <;> decide
def Ref.cases {es:List Act} {nm:D} {day:Int} {ns:List (List Nat)} {v:Nat} {o:Option (List Nat)} (h:Ref es nm day ns v o):(v=3/\∃ n,o=some n)\/(v≠3/\o=none):=by
 obtain ⟨_,h⟩:=h
 rcases h with ⟨_,rfl,rfl⟩ | ⟨l,_,_,⟨_,rfl,rfl⟩ | ⟨_,⟨_,rfl,rfl⟩ | ⟨_,_,n,_,_,_,_,_,rfl,rfl⟩⟩⟩
 ·exact .inr ⟨by decide,rfl⟩
 ·exact .inr ⟨by decide,rfl⟩
 ·exact .inr ⟨by decide,rfl⟩
 ·exact .inl ⟨rfl,n,rfl⟩
def okv_NoAct:V->Hp->Prop:=fun v _=>∃ z:Str,v=.str z/\z.length<=12/\∀ c ∈ z.cps.toList,c<1000
def zfh:D->Prop:=fun d=>∃ l,d=.str l/\zjS l
def zjq {K:W.Frag}:∀ (Hi H:Hp) (v:V) (d:D) (a:Addr) (o:HO),Fz Hi H->Den K Hi v d->zfh d->H a=none->okv_NoAct v (upd H a o):=fun Hi H v d a o _ den e _=>by
 obtain ⟨l,rfl,hl,hc⟩:=e
 exact ⟨_,den.strI,by rw [zcD]; exact hl,fun c h=>hc c (by simpa [st] using h)⟩
def sp_Book_refuse_act (T:Cs):zhA:=fun ds Q E=>∃ (t:D) (es:List Act) (nm:D) (day:Int) (ns:List (List Nat)) (v:Nat) (o:Option (List Nat)),ds=[bkD T t es,nm,.int day,.lst (ns.map .str)]/\es.length<=100/\ns.length<=100/\Ref es nm day ns v o/\E (exC T v) (exF o)
def sp_Book_act (T:Cs):zhA:=fun ds Q E=>∃ (t:D) (es:List Act) (nm:D) (day:Int) (dl:List Deed) (v:Nat) (o:Option (List Nat)),ds=[bkD T t es,nm,.int day,.lst (dl.map deD)]/\es.length<=100/\dl.length<=100/\Ref es nm day (nmd dl) v o/\E (exC T v) (exF o)
def sp_Book_back (T:Cs):zhA:=fun ds Q E=>∃ (t:D) (es:List Act) (nm:D) (day:Int) (n:List Nat) (v:Nat) (o:Option (List Nat)),ds=[bkD T t es,nm,.int day,.str n]/\es.length<=100/\Ref es nm day [n] v o/\E (exC T v) (exF o)
def zqj (es:List Act) (nm:D) (day:Int) (oth:Option (List Nat)) (dl:List Deed) (v:Nat) (o:Option (List Nat)):Prop :=
 es.length<=100/\dl.length<=100/\(∀ d,d ∈ dl->zcC zdA zj5 d)/\Ref es nm day (match oth with | none=>nmd dl | some n=>[n]) v o
def zqi (nm:D) (day:Int) (oth:Option (List Nat)) (dl:List Deed):D:=.tup [nm,.int day,zeS oth,.lst (dl.map deD)]
def zdE (T:Cs):zhA:=fun ds Q E=>∃ t es nm day oth dl v o,ds=[bkD T t es,zqi nm day oth dl]/\zqj es nm day oth dl v o/\E (exC T v) (exF o)
def zjh (v:Nat):D:=.tup [.str [114,101,102,117,115,101,100],.lst [.bl (decide (v=0)),.bl (decide (v=1)),.bl (decide (v=2)),.bl (decide (v=3))],.bl false,.bl true]
def zcJ (T:Cs):Sp':=fun ds Q=>∃ v fs,ds=[.exc (exC T v) fs]/\v<4/\Q (.val (zjh v))
def zcH (T:Cs):Sp':=fun ds Q=>∃ t es nm day oth dl v o,ds=[bkD T t es,zqi nm day oth dl]/\zqj es nm day oth dl v o/\Q (.val (.tup [zjh v,zeS o]))
def zbo (T:Cs):Sp':=fun ds Q=>∃ t es nm day oth dl v o,ds=[bkD T t es,zqi nm day oth dl,.int (v:Nat),zeS o]/\zqj es nm day oth dl v o/\Q (.val (.bl true))
section
variable {T:Cs}
theorem zhl {E':Addr->List (Str × D)->Prop} {es:List Act} {n:List Nat} {post:List (List Nat)} (hnn:n ∉ nms es) (hs:zjS n) (q:E' T.NoAct [(Str.ofString "name",.str n)]) (N:Ends') (A B C D':Slot):∀ (pre:List (List Nat)) (s5:Slot),(∀ x,x ∈ pre->x ∈ nms es) ->
  zeK (zB 5) (fun N Γ=>zhY (PL.slotAt Γ 5) fun d=>zhY (PL.slotAt Γ 4) fun d_1=>zec d d_1 fun d=>d=D.bl false/\N.nx Γ\/d=D.bl true/\zhY (PL.slotAt Γ 5) fun d=>zfh d/\E' T.NoAct [(Str.ofString "name",d)]) N (List.map D.str (pre ++ n :: post)) [A,B,C,D',.val (.lst (List.map D.str (nms es))),s5]
 | [],s5,_=>zdO (by rw [yY hnn]; exact .inr ⟨rfl,⟨n,rfl,hs⟩,q⟩)
 | x :: pre,s5,h=>zdO (by rw [YC (h x (yt ..))]; exact .inl ⟨rfl,zhl hnn hs q N A B C D' pre _ fun y hy=>h y (yc _ hy)⟩)
def sc_Book_refuse_act:FnScope ["self","name","day","named","ahead","other"] ["self","name","day","named"] (zk zac):=sc0
def ok_Book_refuse_act {f:Addr} {fd:FuncData} (F:Fun K "refuse_act" "Book.refuse_act" zac f fd) (bd:zbk K fd ["self","name","day","named"] []) (hm:Meth K T.Book "refuse_act" f) (cl:Cls K T.Book) (cf:CF K T) (G_is_name:Fn P w K mg base 2 "is_name" ["thing"] zcW) (z_len:mg "len"=none) (m_NoAct:mg "NoAct"=some (.ref T.NoAct)) (m_NoDay:mg "NoDay"=some (.ref T.NoDay)) (m_NoName:mg "NoName"=some (.ref T.NoName)) (m_Twice:mg "Twice"=some (.ref T.Twice)) (Z_NoDay:Xc0 K mg "NoDay" T.NoDay) (Z_NoName:Xc0 K mg "NoName" T.NoName) (Z_Twice:Xc0 K mg "Twice" T.Twice) (X_NoAct:XcI P w K mg base 1 "NoAct" T.NoAct "name" okv_NoAct):MthX P w K mg base 3 T.Book "refuse_act" ["self","name","day","named"] (sp_Book_refuse_act T):=by
 refine ⟨f,fd,zfq F sc_Book_refuse_act (fun ds Q E' h=>?_) (fun cdv A outer s H E hr ds Q E' h=>⟨_,(zb9 (PS'.x (zd2 4 sc_Book_refuse_act.nd (zdp (fsc:=zk zac) (N:=["self","name","day","named","ahead","other"]) (N':=["entry"]) (src:=[none]) (by refine ⟨rfl,?_,?_,?_,rfl,rfl⟩ <;> decide +kernel) (zcm (zaX (pv' 0))) (fun _ _ _ _ _ _=>(zaF 0 (show (["entry"]:List Str).Nodup by decide +kernel))) (fun _ _ _ _ _ _=>zbM) (fun _ _ _ _ _ _=>(zr (i_A (zH hr)) (pv' 0) zi)))))
  (zb9 (zfC (za6 (za5 (zbe G_is_name (hr.mono (by decide)) (zc (pv' 1) zj)))) (zbJ (zdB Z_NoName (zc (zA [110,111,116,32,111,110,101,32,116,111,32,101,105,103,104,116,32,115,109,97,108,108,32,108,101,116,116,101,114,115]) zj))) zdg)
  (zb9 (zfC (zZ (zkQ (zH hr)) (pv' 1) (pv' 4)) (zbJ (zdB Z_Twice (zc (zA [97,110,32,97,99,116,32,104,97,115,32,116,104,105,115,32,110,97,109,101,32,97,108,114,101,97,100,121]) zj))) zdg)
  (zb9 (zfC (PW'.pt (zgz (zZ zqc (zG zci z_len yn (zc (zaX (pv' 0)) zj)) zi) (zfb (zZ zo4 (pv' 2) (zr (i_A (zH hr)) (zr (i_A (zH hr)) (zaX (pv' 0)) zgB) zi))))) (zbJ (zdB Z_NoDay (zc (zA [101,97,114,108,105,101,114,32,116,104,97,110,32,116,104,101,32,97,99,116,32,97,104,101,97,100]) zj))) zdg)
  (zbJ (zml (zcm (pv' 3)) (zaF 5 sc_Book_refuse_act.nd)
   (zbJ (zfC (zZ (zhf (zH hr)) (pv' 5) (pv' 4)) (zbJ (zir zfh X_NoAct zjq (hr.mono (by decide)) (zc (pv' 5) zj))) zdg)))))))),?_⟩),bd,hm,cl⟩
 ·obtain ⟨t,es,nm,day,ns,v,o,rfl,_⟩:=h
  rfl
 obtain ⟨t,es,nm,day,ns,v,o,rfl,h0,hn,⟨h1,hr2⟩,q⟩:=h
 simp [zak,zaq,zaf,zao,zB,zad,tC',zaM,zbf,tB',zar,zaz,zby,zW,zal,zO,zap,zav,zbs,zbz,zbx,zas,zbA,zu,zax,zaC,zP,zX,zJ,zI,zbn,zE,zV,zaw,zL,zay,zK,zU,zan,zae,zbw,zN,zaG,xS,zaJ,zR,zaH,zS,zv,zaL,zM,zau,zaI,zaD,zQ,zaE,zaB,zam,zaN,zat,zF,zbH,zaM,zw,zq,zT,zaK,bkD,lkP,cf.cl,cf.naP]
 refine ⟨small (by omega),?_⟩
 refine zch (fun i acc Γ=>∃ (s0:Slot),acc=(nms (es.take i)).map .str/\Γ=[s0]) ⟨_,rfl,rfl⟩ ?_ ?_
 ·rintro i d acc Γ he ⟨s0,rfl,rfl⟩
  rw [yF] at he; obtain ⟨a,ha,rfl⟩:=yK.mp he; rw [za1 ha]; simp [zak,zaq,zaf,zao,zB,zad,tC',zaM,zbf,tB',zar,zaz,zby,zW,zal,zO,zap,zav,zbs,zbz,zbx,zas,zbA,zu,zax,zaC,zP,zX,zJ,zI,zbn,zE,zV,zaw,zL,zay,zK,zU,zan,zae,zbw,zN,zaG,xS,zaJ,zR,zaH,zS,zv,zaL,zM,zau,zaI,zaD,zQ,zaE,zaB,zam,zaN,zat,zF,zbH,zaM,zw,zq,zT,zaK,vo,voS,zcn,nms]
 ·rintro acc Γ ⟨s0,rfl,rfl⟩
  rw [yE,yx]; refine ⟨nm,rfl,h1,?_⟩
  rcases hr2 with ⟨hb,rfl,rfl⟩ | ⟨l,rfl,hb,hr2⟩
  ·rw [hb]
   exact .inl ⟨rfl,q⟩
  rw [hb]; refine .inr ⟨rfl,zgP ?_⟩
  rcases hr2 with ⟨hm,rfl,rfl⟩ | ⟨hm,hr2⟩
  ·rw [YC hm]
   exact .inr ⟨rfl,q⟩
  rw [yY hm]; refine .inl ⟨rfl,?_⟩
  rcases hr2 with ⟨⟨es',a,rfl,hd⟩,rfl,rfl⟩ | ⟨hd,pre,n,post,rfl,hp,hnn,hs,rfl,rfl⟩
  ·exact .inr ⟨by simp,zcn a,by rw [List.map_append]; exact zfx _ _,(zd1 _ _).mpr ⟨.int a.1.day,zlu _ _ _,day,a.1.day,rfl,rfl,.inr ⟨yg D.bl (YC hd),q⟩⟩⟩
  ·have loop:=zhl (T:=T) (E':=E') (post:=post) hnn hs q { nx:=fun x=>Q (Res.val D.non),rt:=fun r x=>Q r } (Slot.val (D.obj T.Book [(Str.ofString "tree",t),(Str.ofString "past",D.lst (List.map zcn es))])) (.val (.str l)) (.val (.int day)) (.val (.lst (List.map D.str (pre ++ n :: post)))) pre .emp hp
   rcases List.eq_nil_or_concat es with rfl | ⟨es',a,rfl⟩
   ·exact .inl ⟨rfl,loop⟩
   ·rw [List.concat_eq_append] at loop hd ⊢
    have:=hd a (by simp)
    exact .inr ⟨by simp,zcn a,by rw [List.map_append]; exact zfx _ _,(zd1 _ _).mpr ⟨.int a.1.day,zlu _ _ _,day,a.1.day,rfl,rfl,.inl ⟨yg D.bl (yY (by omega)),loop⟩⟩⟩
def zcL:FnScope ["_law_e","_law_some","_law_others"] ["_law_e"] (zk zc9):=sc0
def zfW (d:Df K mg "_law_kinds" zc9 ["_law_e"]) (cf:CF K T) (z_ValueError:mg "ValueError"=none) (z_isinstance:mg "isinstance"=none) (m_NoAct:mg "NoAct"=some (.ref T.NoAct)) (m_NoDay:mg "NoDay"=some (.ref T.NoDay)) (m_NoFit:mg "NoFit"=some (.ref T.NoFit)) (m_NoName:mg "NoName"=some (.ref T.NoName)) (m_NoPlace:mg "NoPlace"=some (.ref T.NoPlace)) (m_NoRow:mg "NoRow"=some (.ref T.NoRow)) (m_NoText:mg "NoText"=some (.ref T.NoText)) (m_Twice:mg "Twice"=some (.ref T.Twice)):FnU P w K mg base 1 "_law_kinds" ["_law_e"] (zcJ T):=by
 refine d.okU zcL (fun ds Q h=>?_) (fun f cdv A outer s H E ev hr ds Q h=>⟨_,(zl (zai 1 zcL.nd (za0 (zbp (zc (zG (zcj K rfl) z_isinstance yL (zc (pv' 0) (zc (zbX m_NoName) zj))) (zc (zG (zcj K rfl) z_isinstance yL (zc (pv' 0) (zc (zbX m_Twice) zj))) (zc (zG (zcj K rfl) z_isinstance yL (zc (pv' 0) (zc (zbX m_NoDay) zj))) (zc (zG (zcj K rfl) z_isinstance yL (zc (pv' 0) (zc (zbX m_NoAct) zj))) zj)))))))
  (zl (zai 2 zcL.nd (zG (znN K rfl) z_isinstance yL (zc (pv' 0) (zc (zt (zc (zbX m_NoFit) (zc (zbX m_NoPlace) (zc (zbX m_NoRow) (zc (zbX m_NoText) zj))))) zj))))
  (zn (zy (zt (zc (zA [114,101,102,117,115,101,100]) (zc (pv' 1) (zc (pv' 2) (zc (zG (zcj K rfl) z_isinstance yL (zc (pv' 0) (zc (zeR z_ValueError zpD) zj))) zj))))))))),?_⟩)
 ·obtain ⟨v,fs,rfl,_⟩:=h
  rfl
 obtain ⟨v,fs,rfl,hv,q⟩:=h
 conv=>whnf
 refine ⟨_,_,_,_,_,rfl,rfl,.inr (.inr ⟨_,_,rfl,rfl,cf.xis v hv⟩),cf.kE v 0 hv (by decide),?_⟩
 conv=>whnf
 refine ⟨_,_,_,_,_,rfl,rfl,.inr (.inr ⟨_,_,rfl,rfl,cf.xis v hv⟩),cf.kE v 1 hv (by decide),?_⟩
 conv=>whnf
 refine ⟨_,_,_,_,_,rfl,rfl,.inr (.inr ⟨_,_,rfl,rfl,cf.xis v hv⟩),cf.kE v 2 hv (by decide),?_⟩
 conv=>whnf
 refine ⟨_,_,_,_,_,rfl,rfl,.inr (.inr ⟨_,_,rfl,rfl,cf.xis v hv⟩),cf.kE v 3 hv (by decide),?_⟩
 conv=>whnf
 refine ⟨small (n:=4) (by decide),?_⟩
 conv=>whnf
 refine ⟨small (n:=4) (by decide),?_⟩
 conv=>whnf
 refine ⟨_,_,_,_,_,rfl,rfl,.inr (.inr ⟨_,_,rfl,rfl,cf.xis v hv⟩),cf.kO v hv,?_⟩
 conv=>whnf
 refine ⟨_,_,_,_,_,rfl,rfl,.inr (.inr ⟨_,_,rfl,rfl,cf.xis v hv⟩),cf.kV v hv,?_⟩
 conv=>whnf
 exact ⟨small (n:=4) (by decide),q⟩
def zf0 {m:Str} {t z:D} (h1:m≠Str.ofString "tree") (h2:m≠Str.ofString "past"):∀ (a:Str) (b:D),(a,b) ∈ [(Str.ofString "tree",t),(Str.ofString "past",z)]->¬ m=a:=by
 intro a b hm
 simp at hm
 exact znf h1 h2 a b hm
def znj (d:Deed):zhB (nmd [d]) d:=by cases d <;> simp [zhB,nmd]
def zni (f:D->D) (dl:List Deed):nmd (dl.map (Deed.mapC f))=nmd dl:=by
 unfold nmd; rw [List.filterMap_map]
 congr 1
 funext d
 cases d <;> rfl
def sc_Book_act:FnScope ["self","name","day","deeds"] ["self","name","day","deeds"] (zk zbE):=sc0
def ok_Book_act {f:Addr} {fd:FuncData} (F:Fun K "act" "Book.act" zbE f fd) (bd:zbk K fd ["self","name","day","deeds"] []) (hm:Meth K T.Book "act" f) (cl:Cls K T.Book) (cf:CF K T) (G_named_in:Fn P w K mg base 1 "named_in" ["deeds"] zct) (M_Book_refuse_act:MthX P w K mg base 3 T.Book "refuse_act" ["self","name","day","named"] (sp_Book_refuse_act T)):MthX P w K mg base 4 T.Book "act" ["self","name","day","deeds"] (sp_Book_act T):=by
 refine ⟨f,fd,zfq F sc_Book_act (fun ds Q E' h=>?_) (fun cdv A outer s H E hr ds Q E' h=>⟨_,(zb9 (ze1 (ze2 M_Book_refuse_act (hr.mono (by decide)) (pv' 0) (zc (pv' 1) (zc (pv' 2) (zc (zbe G_named_in (hr.mono (by decide)) (zc (pv' 3) zj)) zj)))))
  (zbJ (PS'.x zdK))),?_⟩),bd,hm,cl⟩
 ·obtain ⟨t,es,nm,day,dl,v,o,rfl,_⟩:=h
  rfl
 obtain ⟨t,es,nm,day,dl,v,o,rfl,h0,hl,hr2,q⟩:=h; simp [zak,zaq,zaf,zao,zB,zad,tC',zaM,zbf,tB',zar,zaz,zby,zW,zal,zO,zap,zav,zbs,zbz,zbx,zas,zbA,zu,zax,zaC,zP,zX,zJ,zI,zbn,zE,zV,zaw,zL,zay,zK,zU,zan,zae,zbw,zN,zaG,xS,zaJ,zR,zaH,zS,zv,zaL,zM,zau,zaI,zaD,zQ,zaE,zaB,zam,zaN,zat,zF,zbH,zaM,zw,zq,zT,zaK]
 exact ⟨_,rfl,zf0 (by decide +kernel) (by decide +kernel),dl,rfl,hl,t,es,nm,day,nmd dl,v,o,rfl,h0,by have:=zjb dl; omega,hr2,q⟩
def sc_Book_back:FnScope ["self","name","day","other"] ["self","name","day","other"] (zk zbj):=sc0
def ok_Book_back {f:Addr} {fd:FuncData} (F:Fun K "back" "Book.back" zbj f fd) (bd:zbk K fd ["self","name","day","other"] []) (hm:Meth K T.Book "back" f) (cl:Cls K T.Book) (cf:CF K T) (M_Book_refuse_act:MthX P w K mg base 3 T.Book "refuse_act" ["self","name","day","named"] (sp_Book_refuse_act T)):MthX P w K mg base 4 T.Book "back" ["self","name","day","other"] (sp_Book_back T):=by
 refine ⟨f,fd,zfq F sc_Book_back (fun ds Q E' h=>?_) (fun cdv A outer s H E hr ds Q E' h=>⟨_,(zb9 (ze1 (ze2 M_Book_refuse_act (hr.mono (by decide)) (pv' 0) (zc (pv' 1) (zc (pv' 2) (zc (za0 (zbp (zc (pv' 3) zj))) zj)))))
  (zbJ (PS'.x zdK))),?_⟩),bd,hm,cl⟩
 ·obtain ⟨t,es,nm,day,n,v,o,rfl,_⟩:=h
  rfl
 obtain ⟨t,es,nm,day,n,v,o,rfl,h0,hr2,q⟩:=h; simp [zak,zaq,zaf,zao,zB,zad,tC',zaM,zbf,tB',zar,zaz,zby,zW,zal,zO,zap,zav,zbs,zbz,zbx,zas,zbA,zu,zax,zaC,zP,zX,zJ,zI,zbn,zE,zV,zaw,zL,zay,zK,zU,zan,zae,zbw,zN,zaG,xS,zaJ,zR,zaH,zS,zv,zaL,zM,zau,zaI,zaD,zQ,zaE,zaB,zam,zaN,zat,zF,zbH,zaM,zw,zq,zT,zaK]
 exact ⟨_,rfl,zf0 (by decide +kernel) (by decide +kernel),small (by decide),t,es,nm,day,[n],v,o,rfl,h0,by simp,hr2,q⟩
def zhL:FnScope ["_law_book","_law_act"] ["_law_book","_law_act"] (zk zdm):=sc0
def zhZ (d:Df K mg "_law_put" zdm ["_law_book","_law_act"]) (cf:CF K T) (G_law_handed:Fn P w K mg base 4 "_law_handed" ["_law_deed_here"] (zbL T)) (M_Book_act:MthX P w K mg base 4 T.Book "act" ["self","name","day","deeds"] (sp_Book_act T)) (M_Book_back:MthX P w K mg base 4 T.Book "back" ["self","name","day","other"] (sp_Book_back T)):FnX P w K mg base 5 "_law_put" ["_law_book","_law_act"] (zdE T):=by
 refine d.okx zhL (fun ds Q E' h=>?_) (fun f cdv A outer s H E hr ds Q E' h=>⟨_,(zb9 (zfC (zZ zo5 (zr (i_A (zH hr)) (pv' 1) zi) za7) (zbJ (zio (ze2 M_Book_act (hr.mono (by decide)) (pv' 0) (zc (zr (i_A (zH hr)) (pv' 1) zi) (zc (zr (i_A (zH hr)) (pv' 1) zi) (zc (za0 (zdc (fsc:=zk zdm) (N:=["_law_book","_law_act"]) (N':=["_law_deed_here"]) (src:=[none]) (by refine ⟨rfl,?_,?_,?_,rfl,rfl⟩ <;> decide +kernel) (zcm (zr (i_A (zH hr)) (pv' 1) zi)) (fun _ _ _ _ _ _=>(zaF 0 (show (["_law_deed_here"]:List Str).Nodup by decide +kernel))) (fun _ _ _ _ _ _=>zbM) (fun _ _ _ _ _ _=>(zbe G_law_handed (hr.mono (by decide)) (zc (pv' 0) zj))))) zj)))))) zdg)
  (zbJ (zio (ze2 M_Book_back (hr.mono (by decide)) (pv' 0) (zc (zr (i_A (zH hr)) (pv' 1) zi) (zc (zr (i_A (zH hr)) (pv' 1) zi) (zc (zr (i_A (zH hr)) (pv' 1) zi) zj))))))),?_⟩)
 ·obtain ⟨t,es,nm,day,oth,dl,v,o,rfl,_⟩:=h
  rfl
 obtain ⟨t,es,nm,day,oth,dl,v,o,rfl,⟨h0,hl,hd,hr2⟩,q⟩:=h
 unfold zqi
 cases oth with
 | none =>
  simp [zak,zaq,zaf,zao,zB,zad,tC',zaM,zbf,tB',zar,zaz,zby,zW,zal,zO,zap,zav,zbs,zbz,zbx,zas,zbA,zu,zax,zaC,zP,zX,zJ,zI,zbn,zE,zV,zaw,zL,zay,zK,zU,zan,zae,zbw,zN,zaG,xS,zaJ,zR,zaH,zS,zv,zaL,zM,zau,zaI,zaD,zQ,zaE,zaB,zam,zaN,zat,zF,zbH,zaM,zw,zq,zT,zaK,zeS,zlJ]
  refine ⟨_,rfl,zf0 (by decide +kernel) (by decide +kernel),small (by omega),?_⟩
  refine zch (fun i acc Γ=>∃ s0:Slot,acc=((dl.take i).map (Deed.mapC (mkC T))).map deD/\Γ=[s0]) ⟨_,rfl,rfl⟩ ?_ ?_
  ·rintro i d acc Γ he ⟨s0,rfl,rfl⟩
   rw [yF] at he; obtain ⟨x,hx,rfl⟩:=yK.mp he; rw [za1 hx]; simp [zak,zaq,zaf,zao,zB,zad,tC',zaM,zbf,tB',zar,zaz,zby,zW,zal,zO,zap,zav,zbs,zbz,zbx,zas,zbA,zu,zax,zaC,zP,zX,zJ,zI,zbn,zE,zV,zaw,zL,zay,zK,zU,zan,zae,zbw,zN,zaG,xS,zaJ,zR,zaH,zS,zv,zaL,zM,zau,zaI,zaD,zQ,zaE,zaB,zam,zaN,zat,zF,zbH,zaM,zw,zq,zT,zaK,vo,voS]; exact ⟨x,nmd [x],rfl,⟨hd x (yZ hx),znj x⟩,rfl⟩
  ·rintro acc Γ ⟨s0,rfl,rfl⟩
   rw [yE,yx]
   exact ⟨t,es,nm,day,_,v,o,rfl,h0,by rw [yE]; exact hl,by rw [zni]; exact hr2,q⟩
 | some n =>
  simp [zak,zaq,zaf,zao,zB,zad,tC',zaM,zbf,tB',zar,zaz,zby,zW,zal,zO,zap,zav,zbs,zbz,zbx,zas,zbA,zu,zax,zaC,zP,zX,zJ,zI,zbn,zE,zV,zaw,zL,zay,zK,zU,zan,zae,zbw,zN,zaG,xS,zaJ,zR,zaH,zS,zv,zaL,zM,zau,zaI,zaD,zQ,zaE,zaB,zam,zaN,zat,zF,zbH,zaM,zw,zq,zT,zaK,zeS,zlJ]
  exact ⟨_,rfl,zf0 (by decide +kernel) (by decide +kernel),t,es,nm,day,n,v,o,rfl,h0,hr2,q⟩
def zm1 {X:Cx} (K:W.Frag) (h:X.K=K) {e:Expr} {t:TE'} {f:Str} {pos:Pos} (he:PE' X e t) (hb:attributeBase e f X.env (eval e X.env)=eval e X.env:=by rfl):PE' X (.Attribute e f pos) (zM K t f):=by
 subst h; exact zaX he hb
def zbh:FnScope ["_law_book","_law_act","_law_told","_law_name","_law_e"] ["_law_book","_law_act"] (zk zc8):=sc0
def zfU (d:Df K mg "_law_tried" zc8 ["_law_book","_law_act"]) (cf:CF K T) (G_law_put:FnX P w K mg base 5 "_law_put" ["_law_book","_law_act"] (zdE T)) (G_law_kinds:FnU P w K mg base 1 "_law_kinds" ["_law_e"] (zcJ T)) (m_MendError:mg "MendError"=some (.ref T.MendError)) (m_NoAct:mg "NoAct"=some (.ref T.NoAct)):Fn P w K mg base 6 "_law_tried" ["_law_book","_law_act"] (zcH T):=by
 refine d.ok zbh (fun ds Q h=>?_) (fun f cdv A outer s H E hr ds Q h=>⟨_,(zl (zai 2 zbh.nd (zA [111,107]))
  (zl (zai 3 zbh.nd za7)
  (zl (zkz 4 (zbJ (ze1 (zqn G_law_put (hr.mono (by decide)) (zc (pv' 0) (zc (pv' 1) zj)))))
   (fun _=>(zl (zai 2 zbh.nd (zlP G_law_kinds (hr.mono (by decide)) (zc (pv' 4) zj)))
  (zn (zai 3 zbh.nd (zm1 K rfl (pv' 4))))))
   (fun _=>(zn (zai 2 zbh.nd (zlP G_law_kinds (hr.mono (by decide)) (zc (pv' 4) zj))))) m_NoAct m_MendError zbh.nd)
  (zn (zy (zt (zc (pv' 2) (zc (pv' 3) zj)))))))),?_⟩)
 ·obtain ⟨t,es,nm,day,oth,dl,v,o,rfl,_⟩:=h
  rfl
 obtain ⟨t,es,nm,day,oth,dl,v,o,rfl,hr2,q⟩:=h; simp [zak,zaq,zaf,zao,zB,zad,tC',zaM,zbf,tB',zar,zaz,zby,zW,zal,zO,zap,zav,zbs,zbz,zbx,zas,zbA,zu,zax,zaC,zP,zX,zJ,zI,zbn,zE,zV,zaw,zL,zay,zK,zU,zan,zae,zbw,zN,zaG,xS,zaJ,zR,zaH,zS,zv,zaL,zM,zau,zaI,zaD,zQ,zaE,zaB,zam,zaN,zat,zF,zbH,zaM,zw,zq,zT,zaK]; have hv:=hr2.2.2.2.lt; refine ⟨t,es,nm,day,oth,dl,v,o,rfl,hr2,?_⟩
 rcases hr2.2.2.2.cases with ⟨rfl,n,rfl⟩ | ⟨hv3,rfl⟩
 ·exact .inl ⟨cf.eA 3 (by decide),3,_,rfl,by decide,cf.xfl,cf.nan,_,rfl,small (by decide),q⟩
 ·exact .inr ⟨by rw [cf.eA v hv,yY hv3],cf.eM v hv,v,_,rfl,hv,small (by decide),q⟩
theorem zeW (v:Nat) (Q:List D->Prop):∀ (l:List Nat) (acc:List D) (s0:Slot),Q (acc ++ l.map fun (k:Nat)=>D.bl (decide (k=v)))->zc2 (zB 0) zbn (zbf zkw (zad 0) (zad 1)) Q (l.map fun (k:Nat)=>.int (k:Nat)) acc [s0,.val (.int (v:Nat))]
 | [],acc,s0,h=>by simpa [zc2] using h
 | k :: l,acc,s0,h=>by
  have ih:=zeW v Q l (acc ++ [D.bl (decide (k=v))]) (.val (.int (k:Nat))) (by simpa using h)
  simp [zc2,vo,voS,zB,zbn,zbf,zad]
  have e:decide (k=v)=decide ((k:Int)=(v:Int)):=decide_eq_decide.mpr (by omega)
  rw [e] at ih
  simpa using ih
def zgw (n:Nat) (b:Bool):zcG (n+1) (.bl b):=by unfold zcG; simp [eqD,eqS]
def zhO (n v:Nat) (o:Option (List Nat)):zcG (n+4) (.tup [zjh v,zeS o]):=zcX fun d hd=>by
 simp only [yO,ya,or_false] at hd
 rcases hd with rfl | rfl
 ·refine zcX fun d hd=>?_
  simp only [yO,ya,or_false] at hd
  rcases hd with rfl | rfl | rfl | rfl
  ·exact zdk _ _
  ·refine ze9 fun d hd=>?_
   simp only [yO,ya,or_false] at hd
   rcases hd with rfl | rfl | rfl | rfl <;> exact zgw _ _
  ·exact zgw _ _
  ·exact zgw _ _
 ·cases o
  ·exact zg7 _
  ·exact zdk _ _
def zeB:FnScope ["_law_book","_law_act","_law_which","_law_name"] ["_law_book","_law_act","_law_which","_law_name"] (zk zb5):=sc0
def zeF (d:Df K mg "_law_refused" zb5 ["_law_book","_law_act","_law_which","_law_name"]) (cf:CF K T) (G_law_tried:Fn P w K mg base 6 "_law_tried" ["_law_book","_law_act"] (zcH T)) (z_range:mg "range"=none):Fn P w K mg base 7 "_law_refused" ["_law_book","_law_act","_law_which","_law_name"] (zbo T):=by
 refine d.ok zeB (fun ds Q h=>?_) (fun f cdv A outer s H E hr ds Q h=>⟨_,(zn (zy (zbv (zbP (za9 hr)) (zbe G_law_tried (hr.mono (by decide)) (zc (pv' 0) (zc (pv' 1) zj))) (zt (zc (zt (zc (zA [114,101,102,117,115,101,100]) (zc (za0 (zdc (fsc:=zk zb5) (N:=["_law_book","_law_act","_law_which","_law_name"]) (N':=["_law_k","_law_which"]) (src:=[none,some 2]) (by refine ⟨rfl,?_,?_,?_,rfl,rfl⟩ <;> decide +kernel) (zb7 z_range (zc zi zj)) (fun _ _ _ _ _ _=>(zaF 0 (show (["_law_k","_law_which"]:List Str).Nodup by decide +kernel))) (fun _ _ _ _ _ _=>zbM) (fun _ _ _ _ _ _=>(zbv (zbP (za9 hr)) (pv' 0) (pv' 1))))) (zc zbq (zc zbq zj))))) (zc (pv' 3) zj)))))),?_⟩)
 ·obtain ⟨t,es,nm,day,oth,dl,v,o,rfl,_⟩:=h
  rfl
 obtain ⟨t,es,nm,day,oth,dl,v,o,rfl,hr2,q⟩:=h; simp [zak,zaq,zaf,zao,zB,zad,tC',zaM,zbf,tB',zar,zaz,zby,zW,zal,zO,zap,zav,zbs,zbz,zbx,zas,zbA,zu,zax,zaC,zP,zX,zJ,zI,zbn,zE,zV,zaw,zL,zay,zK,zU,zan,zae,zbw,zN,zaG,xS,zaJ,zR,zaH,zS,zv,zaL,zM,zau,zaI,zaD,zQ,zaE,zaB,zam,zaN,zat,zF,zbH,zaM,zw,zq,zT,zaK]; refine ⟨t,es,nm,day,oth,dl,v,o,rfl,hr2,?_,?_⟩
 ·rw [sizeLine_eq]; decide
 refine zeW v _ (List.range 4) [] _ ⟨small (by decide),small (by decide),true,?_,q⟩
 have e:(List.range 4).map (fun (k:Nat)=>D.bl (decide (k=v)))=[.bl (decide (v=0)),.bl (decide (v=1)),.bl (decide (v=2)),.bl (decide (v=3))]:=by
  simp [List.range,List.range.loop,eq_comm]
 rw [List.nil_append,e]; exact zhO 96 v o
end
def zz:List Nat:=[122,122,122,122,122,122,122,122]
def zdF:Sp':=fun ds Q=>∃ c:Int,ds=[.int c]/\∀ d,Nm1 d->nmB d=false->Q (.val d)
structure AllOk (as:List Act) (day:Int) (ns:List (List Nat)):Prop where
 ne:∃ as' a,as=as' ++ [a]/\a.1.day=day
 len:as.length<=13
 nl:ns.length=14
 nd:ns.Nodup
 ok:∀ n,n ∈ ns->zlv n
 nm:nms as=ns.take as.length
 days:∀ a,a ∈ as->a.1.day<=day
 z:zz ∉ ns
def zbc (T:Cs):Sp':=fun ds Q=>∃ t as day c ns,ds=[bkD T t (as.map (hA T)),.lst (as.map zbd),.int day,.int c,.lst (ns.map .str)]/\AllOk as day ns/\(0<=c/\c<10 ^ 20)/\Q (.val (.bl true))
instance {T:Cs}:MSp (zbc T):=⟨fun _ _ _ h ⟨t,as,day,c,ns,e,a,b,q⟩=>⟨t,as,day,c,ns,e,a,b,h _ q⟩⟩
section
variable {T:Cs}
def zrf (c:Int):c % 10=0\/c % 10=1\/c % 10=2\/c % 10=3\/c % 10=4\/c % 10=5\/c % 10=6\/c % 10=7\/c % 10=8\/c % 10=9:=by omega
def zsv (c:Int):c % 3=0\/c % 3=1\/c % 3=2:=by omega
def zhM:FnScope ["_law_cell"] ["_law_cell"] (zk zd9):=sc0
def zh0 (d:Df K mg "_law_bad" zd9 ["_law_cell"]):Fn P w K mg base 1 "_law_bad" ["_law_cell"] zdF:=by
 refine d.ok zhM (fun ds Q h=>?_) (fun f cdv A outer s H E hr ds Q h=>⟨_,(zn (zy (zr (i_A (zH hr)) (za0 (zbp (zc (zA []) (zc (zA [65]) (zc (zA [97,98,49]) (zc (zA [97,98,99,100,101,102,103,104,105]) (zc (zA [97,32,98]) (zc za7 (zc zi (zc (zt (zc (zA [97]) zj)) (zc (zA [97,10]) (zc (zA [95]) zj)))))))))))) (zx zb1 (pv' 0) zi)))),?_⟩)
 ·obtain ⟨c,rfl,_⟩:=h
  rfl
 obtain ⟨c,rfl,q⟩:=h; simp [zak,zaq,zaf,zao,zB,zad,tC',zaM,zbf,tB',zar,zaz,zby,zW,zal,zO,zap,zav,zbs,zbz,zbx,zas,zbA,zu,zax,zaC,zP,zX,zJ,zI,zbn,zE,zV,zaw,zL,zay,zK,zU,zan,zae,zbw,zN,zaG,xS,zaJ,zR,zaH,zS,zv,zaL,zM,zau,zaI,zaD,zQ,zaE,zaB,zam,zaN,zat,zF,zbH,zaM,zw,zq,zT,zaK]
 refine ⟨small (by decide),small (by decide),?_⟩
 have st:∀ l:List Nat,l.length<=1000->Nm1 (.str l):=fun l h=>.inl ⟨l,rfl,h⟩
 rcases zrf c with e | e | e | e | e | e | e | e | e | e <;> rw [e]
 ·exact ⟨_,rfl,q _ (st _ (by decide)) rfl⟩
 ·exact ⟨_,rfl,q _ (st _ (by decide)) (by decide)⟩
 ·exact ⟨_,rfl,q _ (st _ (by decide)) (by decide)⟩
 ·exact ⟨_,rfl,q _ (st _ (by decide)) (by decide)⟩
 ·exact ⟨_,rfl,q _ (st _ (by decide)) (by decide)⟩
 ·exact ⟨_,rfl,q _ (.inr (.inl rfl)) rfl⟩
 ·exact ⟨_,rfl,q _ (.inr (.inr (.inl ⟨_,rfl⟩))) rfl⟩
 ·exact ⟨_,rfl,q _ (.inr (.inr (.inr ⟨_,rfl⟩))) rfl⟩
 ·exact ⟨_,rfl,q _ (st _ (by decide)) (by decide)⟩
 ·exact ⟨_,rfl,q _ (st _ (by decide)) (by decide)⟩
def rfd {Q:Res->Prop} {t:D} {es:List Act} {nm:D} {day:Int} {v:Nat} {o:Option (List Nat)} (oth:Option (List Nat)) (dl:List Deed) (h:zqj es nm day oth dl v o) (q:Q (.val (.bl true))):zbo T [bkD T t es,.tup [nm,.int day,zeS oth,.lst (dl.map deD)],.int (v:Nat),zeS o] Q:=⟨t,es,nm,day,oth,dl,v,o,rfl,h,q⟩
def znh (as:List Act):nms (as.map (hA T))=nms as:=by simp [nms,hA]
def zaY:FnScope ["_law_book","_law_acts_here","_law_day","_law_cell","_law_names_here","_law_unused","_law_known","_law_drop","_law_deed_here"] ["_law_book","_law_acts_here","_law_day","_law_cell","_law_names_here"] (zk zbS):=sc0
def zdu (d:Df K mg "_law_all_refused" zbS ["_law_book","_law_acts_here","_law_day","_law_cell","_law_names_here"]) (cf:CF K T) (G_law_refused:Fn P w K mg base 7 "_law_refused" ["_law_book","_law_act","_law_which","_law_name"] (zbo T)) (G_law_bad:Fn P w K mg base 1 "_law_bad" ["_law_cell"] zdF) (z_len:mg "len"=none):Fn P w K mg base 8 "_law_all_refused" ["_law_book","_law_acts_here","_law_day","_law_cell","_law_names_here"] (zbc T):=by
 refine d.ok zaY (fun ds Q h=>?_) (fun f cdv A outer s H E hr ds Q h=>⟨_,(zl (zai 5 zaY.nd (zr (i_A (zH hr)) (pv' 4) zi))
  (zl (zai 6 zaY.nd (zr (i_A (zH hr)) (zr (i_A (zH hr)) (pv' 1) (zx zb1 (pv' 3) (zG zci z_len yn (zc (pv' 1) zj)))) zi))
  (zl (zai 7 zaY.nd (za0 (zbp (zc (zt (zc (zA [99,104,97,110,103,101]) (zc (pv' 2) (zc (zt (zc zi (zc (zA [49]) zj))) (zc za7 zj))))) (zc (zt (zc (zA [100,114,111,112]) (zc (pv' 5) (zc zi zj)))) zj)))))
  (zl (zaA (za6 (za5 (zbe G_law_refused (hr.mono (by decide)) (zc (pv' 0) (zc (zt (zc (zbe G_law_bad (hr.mono (by decide)) (zc (pv' 3) zj)) (zc (zx zfY (pv' 2) zi) (zc (pv' 5) (zc (za0 (zbp zj)) zj))))) (zc zi (zc za7 zj))))))) (zn (zy zbq)) zD)
  (zl (zaA (za6 (za5 (zbe G_law_refused (hr.mono (by decide)) (zc (pv' 0) (zc (zt (zc (zbe G_law_bad (hr.mono (by decide)) (zc (zx zcR (pv' 3) zi) zj)) (zc (pv' 2) (zc za7 (zc (pv' 7) zj))))) (zc zi (zc za7 zj))))))) (zn (zy zbq)) zD)
  (zl (zaA (za6 (za5 (zbe G_law_refused (hr.mono (by decide)) (zc (pv' 0) (zc (zt (zc (pv' 6) (zc (zx zfY (pv' 2) zi) (zc (pv' 5) (zc (za0 (zbp zj)) zj))))) (zc zi (zc za7 zj))))))) (zn (zy zbq)) zD)
  (zl (zaA (za6 (za5 (zbe G_law_refused (hr.mono (by decide)) (zc (pv' 0) (zc (zt (zc (pv' 6) (zc (pv' 2) (zc za7 (zc (za0 (zbp zj)) zj))))) (zc zi (zc za7 zj))))))) (zn (zy zbq)) zD)
  (zl (zaA (za6 (za5 (zbe G_law_refused (hr.mono (by decide)) (zc (pv' 0) (zc (zt (zc (pv' 5) (zc (zx zfY (pv' 2) zi) (zc za7 (zc (pv' 7) zj))))) (zc zi (zc za7 zj))))))) (zn (zy zbq)) zD)
  (zl (zaA (za6 (za5 (zbe G_law_refused (hr.mono (by decide)) (zc (pv' 0) (zc (zt (zc (pv' 5) (zc (zx zfY (zx zfY (pv' 2) zi) (zx zb1 (pv' 3) (zx zgK zi zi))) (zc (pv' 6) (zc (za0 (zbp zj)) zj))))) (zc zi (zc za7 zj))))))) (zn (zy zbq)) zD)
  (zl (zaA (za6 (za5 (zbe G_law_refused (hr.mono (by decide)) (zc (pv' 0) (zc (zt (zc (pv' 5) (zc (pv' 2) (zc (pv' 5) (zc (za0 (zbp zj)) zj))))) (zc zi (zc (pv' 5) zj))))))) (zn (zy zbq)) zD)
  (zl (zai 8 zaY.nd (zr (i_A (zH hr)) (za0 (zbp (zc (zt (zc (zA [108,97,116,101,114]) (zc (zA [122,122,122,122,122,122,122,122]) (zc zi (zc (pv' 2) zj))))) (zc (zt (zc (zA [105,110,115,116,101,97,100]) (zc (zA [122,122,122,122,122,122,122,122]) (zc zi (zc (zt (zc zi (zc (zA [50]) zj))) zj))))) (zc (zt (zc (zA [100,114,111,112]) (zc (zA [122,122,122,122,122,122,122,122]) (zc zi zj)))) zj))))) (zx zb1 (pv' 3) zi)))
  (zn (zy (zbe G_law_refused (hr.mono (by decide)) (zc (pv' 0) (zc (zt (zc (pv' 5) (zc (pv' 2) (zc za7 (zc (za0 (zoI zo8 (za0 (zbp (zc (pv' 8) zj))) (pv' 7))) zj))))) (zc zi (zc (zA [122,122,122,122,122,122,122,122]) zj)))))))))))))))))),?_⟩)
 ·obtain ⟨t,as,day,c,ns,rfl,_⟩:=h
  rfl
 obtain ⟨t,as,day,c,ns,rfl,a,⟨hc0,hc1⟩,q⟩:=h
 obtain ⟨as',a0,ea,hday⟩:=a.ne
 have hpos:0<as.length:=by rw [ea]; simp
 have h13:13<ns.length:=by rw [a.nl]; decide
 obtain ⟨d1,hat,hd1⟩:=zey (as.map zbd) (i:=c % as.length) (md hpos).1 (by rw [yE]; exact (md hpos).2)
 obtain ⟨a1,ha1,rfl⟩:=yd.mp hd1; generalize hu:ns[13]=u
 have hum:u ∈ ns:=by rw [<- hu]; exact List.getElem_mem h13
 have huo:=a.ok u hum
 have hun:u ∉ nms (as.map (hA T)):=by
  rw [znh,a.nm]; intro z; obtain ⟨i,hi,e⟩:=List.getElem_of_mem z; rw [List.getElem_take] at e
  have hi':i<as.length:=by simp at hi; omega
  have:=a.len
  exact (List.pairwise_iff_getElem.mp a.nd) i 13 (by omega) h13 (by omega) (e.trans hu.symm)
 have hk:a1.1.nm ∈ nms (as.map (hA T)):=by rw [znh]; exact yd.mpr ⟨a1,ha1,rfl⟩
 have hko:zlv a1.1.nm:=a.ok _ (YF (by rw [<- a.nm]; exact yd.mpr ⟨a1,ha1,rfl⟩))
 have hz:zz ∉ nms (as.map (hA T)):=fun z=>a.z (YF (by rw [<- a.nm,<- znh]; exact z))
 have hel:(as.map (hA T)).length<=100:=by rw [yE]; have:=a.len; omega
 have nm1:∀ {l:List Nat},zlv l->Nm1 (.str l):=fun h=>.inl ⟨_,rfl,by have:=h.2.1; omega⟩
 have o2:2<=sizeLine:=small (by decide)
 have o3:3<=sizeLine:=small (by decide)
 have o4:4<=sizeLine:=small (by decide)
 have dd:∀ x,x ∈ [Deed.ch day (.tup [.int 0,.str [49]]) .non,.drp u 0]->zcC zdA zj5 x:=by
  intro x hx; simp only [yO,ya,or_false] at hx
  rcases hx with rfl | rfl
  ·exact ⟨⟨0,[49],rfl,by decide⟩,.inl rfl⟩
  ·trivial
 have late:∀ d':Int,d'<day->∀ ns',Ref (as.map (hA T)) (.str u) d' ns' 2 none:=fun d' h ns'=>⟨nm1 huo,.inr ⟨u,rfl,zhj huo,.inr ⟨hun,.inl ⟨⟨as'.map (hA T),hA T a0,by rw [ea,List.map_append]; rfl,by show d'<a0.1.day; omega⟩,rfl,rfl⟩⟩⟩⟩
 have twice:∀ (d':Int) ns',Ref (as.map (hA T)) (.str a1.1.nm) d' ns' 1 none:=fun d' ns'=>⟨nm1 hko,.inr ⟨a1.1.nm,rfl,zhj hko,.inl ⟨hk,rfl,rfl⟩⟩⟩
 have days:∀ e,e ∈ as.map (hA T)->e.1.day<=day:=fun e he=>by
  obtain ⟨b,hb,rfl⟩:=yd.mp he; exact a.days b hb
 have none_:∀ n post ns',ns'=n :: post->n ∉ nms (as.map (hA T))->zjS n->Ref (as.map (hA T)) (.str u) day ns' 3 (some n):=fun n post ns' e hn hs=>⟨nm1 huo,.inr ⟨u,rfl,zhj huo,.inr ⟨hun,.inr ⟨days,[],n,post,e,fun _ z=>(by simp at z),hn,hs,rfl,rfl⟩⟩⟩⟩
 have su:zjS u:=⟨by have:=huo.2.1; omega,fun c hc=>by have:=huo.2.2 c hc; revert this; unfold zfA; simp; omega⟩
 have e0:∀ x,x ∈ ([]:List Deed)->zcC zdA zj5 x:=fun x hx=>by simp at hx
 simp [zak,zaq,zaf,zao,zB,zad,tC',zaM,zbf,tB',zar,zaz,zby,zW,zal,zO,zap,zav,zbs,zbz,zbx,zas,zbA,zu,zax,zaC,zP,zX,zJ,zI,zbn,zE,zV,zaw,zL,zay,zK,zU,zan,zae,zbw,zN,zaG,xS,zaJ,zR,zaH,zS,zv,zaL,zM,zau,zaI,zaD,zQ,zaE,zaB,zam,zaN,zat,zF,zbH,zaM,zw,zq,zT,zaK]
 refine ⟨.str u,?_,hpos,_,hat,(zd1 _ _).mpr ⟨_,zpE _ _,o2,o4,o3,o2,c,rfl,fun d1 hd1 hb1=>⟨o4,?_⟩⟩⟩
 ·exact zbY (j:=13) (by rw [yF,yB h13,hu]; rfl)
 refine rfd (some u) [] (v:=0) (o:=none) ⟨hel,by simp,e0,hd1,.inl ⟨hb1,rfl,rfl⟩⟩ (.inr ⟨rfl,?_,c / 10,rfl,fun d2 hd2 hb2=>⟨o4,?_⟩⟩)
 ·exact ⟨by decide,by decide⟩
 refine rfd none [.ch day (.tup [.int 0,.str [49]]) .non,.drp u 0] (v:=0) (o:=none) ⟨hel,by simp,dd,hd2,.inl ⟨hb2,rfl,rfl⟩⟩ (.inr ⟨rfl,o4,?_⟩)
 refine rfd (some u) [] (v:=1) (o:=none) ⟨hel,by simp,e0,twice _ _⟩ (.inr ⟨rfl,o4,?_⟩)
 refine rfd none [] (v:=1) (o:=none) ⟨hel,by simp,e0,twice _ _⟩ (.inr ⟨rfl,o4,?_⟩)
 refine rfd none [.ch day (.tup [.int 0,.str [49]]) .non,.drp u 0] (v:=2) (o:=none) ⟨hel,by simp,dd,late _ (by omega) _⟩ (.inr ⟨rfl,?_,o4,?_⟩)
 ·exact ⟨by decide,by decide,by decide⟩
 refine rfd (some _) [] (v:=2) (o:=none) ⟨hel,by simp,e0,late _ (by omega) _⟩ (.inr ⟨rfl,o4,?_⟩)
 refine rfd (some u) [] (v:=3) (o:=some u) ⟨hel,by simp,e0,none_ u [] _ rfl hun su⟩ (.inr ⟨rfl,?_⟩)
 refine ⟨o4,o2,o4,o3,?_⟩
 have fin:∀ x:Deed,zcC zdA zj5 x->nmd [x]=[zz]->1<=sizeLine/\zoz (D.lst [deD x]) (D.lst [D.tup [D.str [99,104,97,110,103,101],D.int day,D.tup [D.int 0,D.str [49]],D.non],D.tup [D.str [100,114,111,112],D.str u,D.int 0]]) fun o=>4<=sizeLine/\zbo T [bkD T t (List.map (hA T) as),D.tup [D.str u,D.int day,D.non,o.toD],D.int 3,D.str [122,122,122,122,122,122,122,122]] fun r=>Q (Res.val r.toD):=fun x hx hn=>by
  refine ⟨small (by decide),_,_,rfl,rfl,small (n:=3) (by decide),o4,?_⟩
  refine rfd none [x,.ch day (.tup [.int 0,.str [49]]) .non,.drp u 0] (v:=3) (o:=some zz) ⟨hel,by simp,fun y hy=>?_,none_ zz (nmd [.ch day (.tup [.int 0,.str [49]]) .non,.drp u 0]) _ ?_ hz ⟨by decide,by decide⟩⟩ q
  ·rcases yO.mp hy with rfl | hy
   ·exact hx
   ·exact dd y hy
  ·show nmd ([x] ++ [.ch day (.tup [.int 0,.str [49]]) .non,.drp u 0])=_
   rw [zjc,hn]; rfl
 rcases zsv c with e | e | e <;> rw [e]
 ·exact ⟨_,zpE _ _,fin (.lat zz 0 day) trivial rfl⟩
 ·exact ⟨_,zlu _ _ _,fin (.ins zz 0 (.tup [.int 1,.str [50]])) ⟨1,[50],rfl,by decide⟩ rfl⟩
 ·exact ⟨_,znP _ _ _ _,fin (.drp zz 0) trivial rfl⟩
end
end K31X
namespace PL
open PySem L2
inductive NoL:D->Prop where
 | non:NoL .non
 | int (i:Int):NoL (.int i)
 | str (l:List Nat):NoL (.str l)
 | tup {l:List D} (h:∀ (i:Nat) d,l[i]?=some d->NoL d):NoL (.tup l)
 | obj {C:Addr} {fs:List (Str × D)} (h:∀ (i:Nat) p,fs[i]?=some p->NoL p.2):NoL (.obj C fs)
def zlm {K:W.Frag} {H:Hp} {a:Addr} {zs:List V} (ha:H a=some (.lst zs)) {d:D} (n:NoL d):∀ {v:V},Den K H v d->Den K (fun x=>if x=a then none else H x) v d:=by
 have ne:∀ {x:Addr} {o:HO},(∀ l,o≠.lst l)->H x=some o->(if x=a then none else H x)=some o:=fun {x o} hn h=>by
  rw [yS (fun z=>by rw [z,ha] at h; exact hn _ (Option.some.inj h).symm)]
  exact h
 induction n with
 | non=>intro v h; rw [h.nonI]; exact .non
 | int i=>intro v h; rw [h.intI]; exact .int i
 | str l=>intro v h; rw [h.strI]; exact .str l
 | tup _ ih =>
  intro v h
  cases h with
  | tup h l r=>exact .tup (ne (fun _ z=>nomatch z) h) l fun i v d h1 h2=>ih i d h2 (r i v d h1 h2)
 | obj _ ih =>
  intro v h
  cases h with
  | obj h l r r2=>exact .obj (ne (fun _ z=>nomatch z) h) l r fun i p q h1 h2=>ih i q h2 (r2 i p q h1 h2)
section
variable {k:Nat} {C:Addr} {m y z:Str} {ps:List Str} {sp:SpB} {apos pos p q:Pos} {e1 e2:Expr} {t1 t2:TE'}
def zeL (C:Addr) (m:Str) (i i2:Nat) (sp:SpB) (t1 t2:TE'):TE':=fun Γ Q=>∃ d b xs,Γ[i]?=some (.bk d b (.lst xs))/\(∃ fs,d (.adr b)=.obj C fs/\fs.lookup m=none)/\t1 Γ fun d1 Γ1=>t2 Γ1 fun d2 Γ2=>∃ xs zs,Γ2[i]?=some (.bk d b (.lst xs))/\Γ2[i2]?=some (.own (.lst zs)) /\
 sp d xs [d1,d2,.lst zs] fun r ys=>r=.non/\(∀ y,y ∈ ys->NoL y)/\Q .non (Γ2.set i (.bk d b (.lst ys)))
def zkD (i i2:Nat) (h:MthB X.prog X.w X.K X.mg X.base k C m ps sp) (hr:Room k X.A) (he1:PE' X e1 t1) (he2:PE' X e2 t2) (hN:X.N[i]?=some y:=by rfl) (hv:Vis X.env.scope y:=by first | exact YA rfl | exact yr (YA rfl) | exact yr (yr rfl)) (hd:yyD y:=by decide)
  (hcd:(y == ("__classdict__":Str))=false:=by decide) (hN2:X.N[i2]?=some z:=by rfl) (hv2:Vis X.env.scope z:=by first | exact YA rfl | exact yr (YA rfl) | exact yr (yr rfl)) (hd2:yyD z:=by decide)
  (hcd2:(z == ("__classdict__":Str))=false:=by decide) (hst1:zc4 e1=false:=by rfl) (hst2:zc4 e2=false:=by rfl) {pl:Sem Bool}
  (ht:eval (.Call (.Attribute (.Name y q) m apos) [e1,e2,.Name z p] [] pos) X.env=(do
   let ov <- eval (.Name y q) X.env
   standAt apos.atName
   let (f,first) <- holding [ov] (getMethod ov m pl)
   callWith pos f first (backTo pos (starEach [e1,e2,.Name z p] X.env)) (backToKw pos (keywordEach [] X.env))):=by rfl) :
  PE' X (.Call (.Attribute (.Name y q) m apos) [e1,e2,.Name z p] [] pos) (zeL C m i i2 sp t1 t2):=by
 obtain ⟨f,fd,F,b,hm,cl⟩:=h.ex
 have hpl:zbN [e2,.Name z p]=true:=by unfold zbN zbN zbN; rw [hst2]; rfl
 refine ⟨PE.weak (zgC (E:=E0) (dvs:=[]) (zcP (i:=i) (pos:=q) hN hv hd hcd) cl hm F hr b .nil zfe (zbO he1.h (zbO he2.h (zbO (zcP (i:=i2) (pos:=p) hN2 hv2 hd2 hcd2) zds (zah rfl)) (zah hst2)) (zah hst1)) (zah hst1) (zaS hpl) ht) ?_⟩
 rintro σ H Q ⟨W,Hi,Γ,Q',g,⟨d,b',xs0,e0,⟨fs,ed,lk⟩,h⟩,fin⟩
 obtain ⟨v0,hv0,den0⟩:=(g.bk i _ _ _ e0).val; rw [ed] at den0; obtain ⟨ar,dx,fvs,rfl,ha',df⟩:=den0.objI; refine ⟨.ref ar,hv0,ar,dx,fvs,rfl,g.sub _ _ ha',zcg df lk,W,Hi,Γ,_,g,h,?_⟩
 rintro w1 H1 ⟨Hi1,d1,Γ1,s1,g1,den1,h1⟩
 refine ⟨W,Hi1,Γ1,_,g1,h1,?_⟩
 rintro w2 H2 ⟨Hi2,d2,Γ2,s2,g2,den2,xs,zs,q1,q2,q3⟩
 have B:=g2.bk i d b' _ q1; obtain ⟨v1,hv1,denb⟩:=B.val; rw [hv0] at hv1; cases hv1; obtain ⟨a,a1,a2,a3,zvs,a4,a5⟩:=g2.own i2 _ q2
 have hn2:i2<X.N.length:=(yD.mp hN2).1
 have hσ:σ[i2]?=some (some (.ref a)):=zjQ hn2 a1
 have hab:a≠b':=fun w=>B.ne i2 _ q2 (by rw [<- w]; exact a1)
 refine ⟨.ref a,hσ,?_⟩
 show zmw X.K sp [V.ref ar,w1,w2,V.ref a] H2 Q E0
 have sk:zaR Hi2 (upd Hi2 a (.lst zvs)):=zY a2 _
 refine ⟨upd Hi2 a (.lst zvs),d,b',xs,.ref ar,_,[d1,d2,.lst zs],_,rfl,⟨fun x o e=>?_,fun x l e=>?_⟩,denb.mono sk,B.hol,by rw [zp hab.symm]; exact B.hi,B.at_.mono sk fun _ z=>z,.cons ((den1.mono s2).mono sk) (.cons (den2.mono sk) (.cons (Den.mkL (SqL.of zo) (a5.mono sk)) .nil)),q3,?_⟩
 ·by_cases hx:x=a
  ·subst hx; rw [zo] at e; cases e; exact a4
  ·rw [zp hx] at e; exact g2.sub x o e
 ·have hx:x≠a:=fun w=>by rw [w,a4] at e; cases e
  rw [zp hx]; exact g2.fz.tups x l e
 rintro Hi3 H3 v' r ys ex den at_ ⟨rfl,hys,q4⟩
 have h3a:H3 a=some (.lst zvs):=ex.h a _ hab a4
 have hi3a:Hi3 a=some (.lst zvs):=by rw [ex.fro a _ a4,zo]
 have exM:ExtB b' Hi2 H2 (fun x=>if x=a then none else Hi3 x) H3:=by
  refine ⟨fun x o e=>?_,ex.h,⟨fun x o e=>?_,fun x l e=>?_⟩,fun x o e=>?_⟩
  ·have hx:x≠a:=fun w=>by rw [w,a2] at e; cases e
   show (if x=a then none else Hi3 x)=some o
   rw [yS hx]
   exact ex.hi x o (by rw [zp hx]; exact e)
  ·have e':(if x=a then none else Hi3 x)=some o:=e
   by_cases hx:x=a
   ·rw [yW hx] at e'; cases e'
   ·rw [yS hx] at e'; exact ex.fz.sub x o e'
  ·have hx:x≠a:=fun w=>by rw [w,h3a] at e; cases e
   show (if x=a then none else Hi3 x)=_
   rw [yS hx]; exact ex.fz.tups x l e
  ·show (if x=a then none else Hi3 x)=_
   by_cases hx:x=a
   ·rw [yW hx,hx]; exact a2.symm
   ·rw [yS hx,ex.fro x o e,zp hx]
 have atM:zbQ X.K (fun x=>if x=a then none else Hi3 x) H3 b' (.lst ys):=by
  obtain ⟨vs,e,dl⟩:=at_
  exact ⟨vs,e,paired_of (zm dl) fun j v d h1 h2=>zlm hi3a (hys d (yZ h2)) (paired_get j dl h1 h2)⟩
 rw [den.nonI]; exact fin .non H3 ⟨_,.non,_,s1.trans (s2.trans exM.hi),g2.extB q1 exM atM,.non,q4⟩
instance {i i2:Nat} [MSpB sp] [ME t1] [ME t2]:ME (zeL C m i i2 sp t1 t2):=⟨fun Γ _ _ h ⟨d,b,xs,e,c,q⟩=>⟨d,b,xs,e,c,ME.mono (t:=t1) _ _ _ (fun _ _ z=>ME.mono (t:=t2) _ _ _ (fun _ _ ⟨xs,zs,e1,e2,z⟩=>⟨xs,zs,e1,e2,MSpB.mono (sp:=sp) _ _ _ _ _ (fun _ _ ⟨a,b,w⟩=>⟨a,b,h _ _ w⟩) z⟩) z) q⟩⟩
instance {n:Nat} {K:W.Frag} {i j:Nat} {tc:TT'} {te:TE'}:MS (zdX K n C i j tc te):=⟨fun N N' Γ h ⟨a,d,b,rs,e,c,f,k,l,m,q⟩=>⟨a,d,b,rs,e,c,f,k,l,m,h.nx _ q⟩⟩
end
end PL
namespace K31
open PySem L2 Lb PL M34 K31X
def zdQ {ns:List (List Nat)} {as:List Act} (ga:GoodActs ns as) {i:Nat} (hi:i<=as.length):nms (as.take i)=ns.take i:=by
 refine List.ext_getElem? fun j=>?_
 unfold nms; rw [yF,List.getElem?_take,List.getElem?_take]; split
 ·rename_i hj
  have hj':j<as.length:=by omega
  rw [yB hj',(ga.at_ j _ (yB hj')).1]; rfl
 ·rfl
def zh2 {ns:List (List Nat)} (h:ns.Nodup) {i:Nat} {x:List Nat} (e:ns[i]?=some x):x ∉ ns.take i:=fun hm=>by
 obtain ⟨j,hj,e2⟩:=List.getElem_of_mem hm; rw [yT] at hj; obtain ⟨hi,e3⟩:=yD.mp e
 have:=List.pairwise_iff_getElem.mp h j i (by omega) hi (by omega)
 rw [List.getElem_take] at e2; exact this (e2.trans e3.symm)
def GoodActs.ok {ns:List (List Nat)} {as:List Act} (ga:GoodActs ns as) (h1:∀ n,n ∈ ns->zlv n) (h2:ns.Nodup):ActsOk as:=by
 refine ⟨by have:=ga.len; omega,fun i a ha=>?_⟩
 have hi:=(yD.mp ha).1; obtain ⟨a1,a2,a3,a4⟩:=ga.at_ i a ha
 rw [zdQ ga (by omega)]
 refine ⟨h1 _ (yZ a1),zh2 h2 a1,fun b hb=>?_,a2,a3,a4⟩
 obtain ⟨j,hj,e⟩:=List.getElem_of_mem hb; rw [yT] at hj; rw [List.getElem_take] at e
 exact ga.days j i b a (by omega) (by rw [yB (by omega),e]) ha
def zrM {c:TT'} {a b u:TS'} [MS (zaf c a b)] {N:Ends'} {Γ:Sts} (M:Sts->Prop) (h:zaf c a b { N with nx:=M } Γ) (k:∀ Γ',M Γ'->u N Γ'):zak (zaf c a b) u N Γ:=MS.mono (t:=zaf c a b) { N with nx:=M } _ _ ⟨k,fun _ _ z=>z,fun _ z=>z,fun _ z=>z⟩ h
def nxt {N:Ends'} {Γ:Sts} (h:N.nx Γ):zE N Γ:=h
def ifF {A B:Prop} (h:B):if false=true then A else B:=h
def zcS {l:List D} (h:∀ d,d ∈ l->NoL d):NoL (.tup l):=.tup fun i d e=>h d (yZ e)
def zng {C:Addr} {fs:List (Str × D)} (h:∀ p,p ∈ fs->NoL p.2):NoL (.obj C fs):=.obj fun i p e=>h p (yZ e)
def zhi (l:List (List Nat)):NoL (.tup (l.map .str)):=zcS fun d hd=>by
 obtain ⟨x,_,rfl⟩:=yd.mp hd; exact .str x
def zja (T:Cs) (k:Int) (l:List Nat):NoL (mkK T k l):=by
 have e0:NoL (.tup []):=zhi []
 have e1:∀ x:List Nat,NoL (.tup [.str x]):=fun x=>zhi [x]
 unfold mkK
 repeat' split
 all_goals
  refine zng fun p hp=>?_
  simp only [yO,ya,or_false] at hp
 ·rcases hp with rfl | rfl
  ·exact e0
  ·exact e1 _
 ·rcases hp with rfl | rfl | rfl
  ·exact e0
  ·exact e1 _
  ·exact e1 _
 ·rcases hp with rfl | rfl
  ·exact e0
  ·refine zcS fun d hd=>?_
   simp only [yO,ya,or_false] at hd
   rcases hd with rfl | rfl | rfl
   ·exact .str _
   ·exact e0
   ·exact e0
 ·subst hp
  exact e1 _
 ·subst hp
  exact e1 _
def zkV {T:Cs} {d:Deed} (h:zcC zdA zj5 d):NoL (deD (d.mapC (mkC T))):=by
 cases d with
 | ch d c s =>
  obtain ⟨⟨k,l,rfl,hl⟩,hs⟩:=h
  refine zcS fun x hx=>?_
  simp only [yO,ya,or_false] at hx
  rcases hx with rfl | rfl | rfl | rfl
  ·exact .str _
  ·exact .int _
  ·exact zja T k l
  ·rcases hs with rfl | ⟨i,rfl⟩
   ·exact .non
   ·exact .int _
 | lat n i d =>
  refine zcS fun x hx=>?_
  simp only [yO,ya,or_false] at hx
  rcases hx with rfl | rfl | rfl | rfl <;> first | exact .str _ | exact .int _
 | ins n i c =>
  obtain ⟨k,l,rfl,hl⟩:=h
  refine zcS fun x hx=>?_
  simp only [yO,ya,or_false] at hx
  rcases hx with rfl | rfl | rfl | rfl
  ·exact .str _
  ·exact .str _
  ·exact .int _
  ·exact zja T k l
 | drp n i =>
  refine zcS fun x hx=>?_
  simp only [yO,ya,or_false] at hx
  rcases hx with rfl | rfl | rfl <;> first | exact .str _ | exact .int _
def zfk {T:Cs} {a:Act} (h:∀ d,d ∈ a.2->zcC zdA zj5 d):NoL (zcn (hA T a)):=by
 refine zcS fun x hx=>?_
 simp only [yO,ya,or_false] at hx
 rcases hx with rfl | rfl | rfl | rfl
 ·exact .str _
 ·exact .int _
 ·show NoL (zeS a.1.oth)
  cases a.1.oth
  ·exact .non
  ·exact .str _
 ·refine zcS fun y hy=>?_
  obtain ⟨z,hz,rfl⟩:=yd.mp hy; obtain ⟨d,hd,rfl⟩:=yd.mp hz; exact zkV (h d hd)
def zpV (a:Act):RD:=(.str a.1.nm,.int a.1.day,zeS a.1.oth,a.2.map deD)
def GoodActs.take {ns:List (List Nat)} {as:List Act} (ga:GoodActs ns as) (n:Nat):GoodActs ns (as.take n):=by
 have h:∀ (i:Nat) a,(as.take n)[i]?=some a->as[i]?=some a:=fun i a e=>by
  rw [List.getElem?_take] at e; split at e
  ·exact e
  ·cases e
 exact ⟨by have:=ga.len; rw [yT]; omega,fun i a e=>ga.at_ i a (h i a e),fun i j a b hij ha hb=>ga.days i j a b hij (h i a ha) (h j b hb)⟩
def zlF (T:Cs):Sp':=zgq
section
variable {T:Cs}
def zdj:FnScope ["_law_script","_law_names_here","_law_acts_here","_law_tree","_law_book","_law_k","_law_handed_here","_law_told"] ["_law_script"] (zk zea):=sc0
def zo1 (d:Df K mg "law" zea ["_law_script"]) (cf:CF K T) (W_acts:MthA P w K mg base T.Book) (G_law_cell_at:Fn P w K mg base 1 "_law_cell_at" ["_law_script","_law_k"] zba) (G_law_names:Fn P w K mg base 1 "_law_names" ["_law_cell"] zcI) (G_law_acts:Fn P w K mg base 3 "_law_acts" ["_law_script","_law_names_here"] zc7) (G_law_handed:Fn P w K mg base 4 "_law_handed" ["_law_deed_here"] (zbL T)) (G_law_same:Fn P w K mg base 3 "_law_same" ["_law_found","_law_acts_here"] (zc6 T)) (G_law_all_refused:Fn P w K mg base 8 "_law_all_refused" ["_law_book","_law_acts_here","_law_day","_law_cell","_law_names_here"] (zbc T)) (z_len:mg "len"=none) (z_range:mg "range"=none) (M_Book_act:MthB P w K mg base 4 T.Book "act" ["self","name","day","deeds"] (sp_Book_act T)) (M_Book_acts:Mth P w K mg base 1 T.Book "acts" ["self"] (zcK T)) (M_Book_back:MthB P w K mg base 4 T.Book "back" ["self","name","day","other"] (sp_Book_back T)) (M_Book_first:Mth P w K mg base 1 T.Book "first" ["self"] (zcy T)) (M_Book:MakB P w K mg base 1 "Book" T.Book "tree" "past"):Fn P w K mg base 9 "law" ["_law_script"] (zlF T):=by
 refine d.ok zdj (fun ds Q h=>?_) (fun f cdv A outer s H E hr ds Q h=>⟨_,(zl (zai 1 zdj.nd (zbe G_law_names (hr.mono (by decide)) (zc (zx zb1 (zbe G_law_cell_at (hr.mono (by decide)) (zc (pv' 0) (zc zi zj))) (zx zgK zi zi)) zj)))
  (zl (zai 2 zdj.nd (zcQ s_A (zbe G_law_acts (hr.mono (by decide)) (zc (pv' 0) (zc (pv' 1) zj))) zeE (zdY zi)))
  (zl (zaA (zZ (zkQ (zH hr)) (zA [122,122,122,122,122,122,122,122]) (pv' 1)) (zn (zai 2 zdj.nd (zcQ s_A (pv' 2) zeE (zdY zi)))) zD)
  (zl (zai 3 zdj.nd (zt (zc (zA []) (zc (zt (zc (zA [97,108,108]) zj)) (zc (zt (zc (zt (zc (zA [49]) (zc (zt zj) (zc (zt zj) zj)))) zj)) zj)))))
  (zl (zoF 4 zdj.nd M_Book (hr.mono (by decide)) (zc (pv' 3) zj))
  (zl (zaA (ziQ (PW'.pt (zdo (zZ (zeH (za9 hr)) (zd4 M_Book_first (hr.mono (by decide)) (pv' 4)) (pv' 3)) (zda (zZ (zeH (za9 hr)) (zd4 M_Book_acts (hr.mono (by decide)) (pv' 4)) (za0 (zbp zj))))))) (zn (zy zbq)) zD)
  (zl (zdL (zb7 z_range (zc (zG zci z_len yn (zc (pv' 2) zj)) zj)) (zaF 5 zdj.nd)
   (zl (ziS 6 zdj.nd (zdp (fsc:=zk zea) (N:=["_law_script","_law_names_here","_law_acts_here","_law_tree","_law_book","_law_k","_law_handed_here","_law_told"]) (N':=["_law_deed_here"]) (src:=[none]) (by refine ⟨rfl,?_,?_,?_,rfl,rfl⟩ <;> decide +kernel) (zcm (zr (i_A (zH hr)) (zr (i_A (zH hr)) (pv' 2) (pv' 5)) zi)) (fun _ _ _ _ _ _=>(zaF 0 (show (["_law_deed_here"]:List Str).Nodup by decide +kernel))) (fun _ _ _ _ _ _=>zbM) (fun _ _ _ _ _ _=>(zbe G_law_handed (hr.mono (by decide)) (zc (pv' 0) zj)))))
  (zl (zaA (zZ zo5 (zr (i_A (zH hr)) (zr (i_A (zH hr)) (pv' 2) (pv' 5)) zi) za7) (zl (zd3 (zkD 4 6 M_Book_act (hr.mono (by decide)) (zr (i_A (zH hr)) (zr (i_A (zH hr)) (pv' 2) (pv' 5)) zi) (zr (i_A (zH hr)) (zr (i_A (zH hr)) (pv' 2) (pv' 5)) zi)))
  (zn (zc1 6 (zt (zc (zA [100,114,111,112]) (zc (zr (i_A (zH hr)) (zr (i_A (zH hr)) (pv' 2) (pv' 5)) zi) (zc zi zj))))))) (zn (zd3 (zmX 4 M_Book_back (hr.mono (by decide)) (zc (zr (i_A (zH hr)) (zr (i_A (zH hr)) (pv' 2) (pv' 5)) zi) (zc (zr (i_A (zH hr)) (zr (i_A (zH hr)) (pv' 2) (pv' 5)) zi) (zc (zr (i_A (zH hr)) (zr (i_A (zH hr)) (pv' 2) (pv' 5)) zi) zj)))))))
  (zl (zaA (ziQ (za6 (za5 (zbe G_law_all_refused (hr.mono (by decide)) (zc (pv' 4) (zc (zcQ s_A (pv' 2) zeE (zdY (zx zbm (pv' 5) zi))) (zc (zr (i_A (zH hr)) (zr (i_A (zH hr)) (pv' 2) (pv' 5)) zi) (zc (zx zb1 (zbe G_law_cell_at (hr.mono (by decide)) (zc (pv' 0) (zc (zx zbm zi (pv' 5)) zj))) (zx zgK zi zi)) (zc (pv' 1) zj))))))))) (zn (zy zbq)) zD)
  (zky 7 4 W_acts (hr.mono (by decide)) zdj.nd (za6 (za5 (zbe G_law_same (hr.mono (by decide)) (zc (pv' 7) (zc (zcQ s_A (pv' 2) zeE (zdY (zx zbm (pv' 5) zi))) zj))))) (zn (zy zbq)).h (zt (zc (zA [100,114,111,112]) (zc (zr (i_A (zH hr)) (zr (i_A (zH hr)) (pv' 2) (pv' 5)) zi) (zc zi zj)))))))))
  (zn (zy (zfd (zcA (zbe G_law_same (hr.mono (by decide)) (zc (zd4 M_Book_acts (hr.mono (by decide)) (pv' 4)) (zc (pv' 2) zj))) (zdd (zbv (zbP (za9 hr)) (zd4 M_Book_first (hr.mono (by decide)) (pv' 4)) (pv' 3)))))))))))))),?_⟩)
 ·obtain ⟨ns,rfl,_⟩:=h
  rfl
 obtain ⟨cs,rfl,hl,hq⟩:=h; simp [zak,zaq,zaf,zao,zB,zad,tC',zaM,zbf,tB',zar,zaz,zby,zW,zal,zO,zap,zav,zbs,zbz,zbx,zas,zbA,zu,zax,zaC,zP,zX,zJ,zI,zbn,zE,zV,zaw,zL,zay,zK,zU,zan,zae,zbw,zN,zaG,xS,zaJ,zR,zaH,zS,zv,zaL,zM,zau,zaI,zaD,zQ,zaE,zaB,zam,zaN,zat,zF,zbH,zaM,zw,zq,zT,zaK]
 refine ⟨cs,0,rfl,Int.le_refl _,by omega,fun c0=>?_⟩
 refine ⟨by simp [znY],_,_,rfl,rfl,by show (0:Int)<1000000000000; decide,_,rfl,fun ns hn1 hn2 hn3=>⟨cs,ns,rfl,by omega,hn1,fun as ga=>(zc0 _ _ _).mpr (zgP ?_)⟩⟩
 rw [show zex (as.map zbd) none (some 13)=(as.take 13).map zbd from (zft _ 13).trans (List.map_take ..).symm]
 have ga:=ga.take 13
 have h13:(as.take 13).length<=13:=by rw [yT]; omega
 generalize as.take 13=as at ga h13
 have o1:1<=sizeLine:=small (by decide)
 have o3:3<=sizeLine:=small (by decide)
 have st0:zcG 100 t0D:=by unfold zcG; rfl
 by_cases hz:zz ∈ ns
 ·rw [show decide ([122,122,122,122,122,122,122,122] ∈ ns)=true from YC hz]
  refine .inr ⟨rfl,(zc0 _ _ _).mpr ⟨o1,o3,o1,o3,fun b=>?_⟩⟩
  obtain ⟨as2,has⟩:∃ as2:List Act,as2=[]:=⟨[],rfl⟩
  rw [show zex (as.map zbd) none (some 0)=as2.map zbd from by rw [has]; exact zft _ 0]
  have ga:GoodActs ns as2:=has ▸ GoodActs.nil
  have h13:as2.length<=13:=by rw [has]; decide
  have hzz:as2≠[]->zz ∉ ns:=fun h=>yU has h
  clear has
  generalize as2=as at ga h13 hzz ⊢
  refine ⟨znf (by decide +kernel) (by decide +kernel),t0D,[],rfl,true,st0,.inl ⟨rfl,znf (by decide +kernel) (by decide +kernel),t0D,[],rfl,by decide,true,ze9 (n:=99) (fun _ z=>by simp at z),.inl ⟨rfl,?_⟩⟩⟩
  simp only [zfL]
  refine ⟨_,rfl,by omega,by rw [yE]; omega,?_⟩
  have ok:=ga.ok hn2 hn3
  have hat:∀ {i:Nat} {a:Act},as[i]?=some a->atI (as.map zbd) (i:Int)=some (zbd a):=fun {i a} h=>zbY (by rw [yF,h]; rfl)
  have lact:∀ n,znT (as.take n):=fun n=>⟨by rw [yT]; omega,fun u hu=>by
   obtain ⟨j,hj⟩:=YS (YF hu)
   exact ⟨(ok.at_ j u hj).2.2.2.2.1,fun d hd=>((ok.at_ j u hj).2.2.2.2.2 d hd).1⟩⟩
  refine zet (fun i Γ=>∃ s5 s6 s7:Slot,Γ=[Slot.val (D.lst (List.map D.int cs)),Slot.val (D.lst (ns.map .str)),Slot.val (D.lst (as.map zbd)),Slot.val t0D,Slot.bk (bkF T t0D) b (OD.lst (((as.take i).map (hA T)).map zcn)),s5,s6,s7]) ⟨_,_,_,rfl⟩ ?_ ?_
  ·rintro i d Γ he ⟨s5,s6,s7,rfl⟩
   have hi:i<as.length/\D.int (i:Nat)=d:=by
    rw [yF] at he; obtain ⟨k,hk,rfl⟩:=yK.mp he; obtain ⟨hk1,hk2⟩:=yD.mp hk; rw [List.getElem_range] at hk2; subst hk2
    simp at hk1
    exact ⟨hk1,rfl⟩
   obtain ⟨hi,rfl⟩:=hi; have ha:=yB hi; generalize as[i]=a at ha; obtain ⟨a1,a2,a3,a4,a5,a6⟩:=ok.at_ i a ha; have hta:=hat ha
   obtain ⟨⟨nm,day,oth⟩,dl⟩:=a
   dsimp only at a1 a2 a3 a4 a5 a6
   conv=>whnf
   refine .inl ⟨_,rfl,.inl ⟨_,_,rfl,hta,?_⟩⟩
   conv=>whnf
   refine .inl ⟨3,rfl,.inr (.inl ⟨_,_,rfl,rfl,?_⟩)⟩
   conv=>whnf
   refine ⟨_,rfl,small (by rw [yE]; show dl.length<=1000; omega),?_⟩
   refine zch (fun i acc Γ=>∃ s0:Slot,acc=((dl.take i).map (Deed.mapC (mkC T))).map deD/\Γ=[s0]) ⟨_,rfl,rfl⟩ ?_ ?_
   ·rintro i d acc Γ he ⟨s0,rfl,rfl⟩
    rw [yF] at he; obtain ⟨x,hx,rfl⟩:=yK.mp he; rw [za1 hx]; simp [zak,zaq,zaf,zao,zB,zad,tC',zaM,zbf,tB',zar,zaz,zby,zW,zal,zO,zap,zav,zbs,zbz,zbx,zas,zbA,zu,zax,zaC,zP,zX,zJ,zI,zbn,zE,zV,zaw,zL,zay,zK,zU,zan,zae,zbw,zN,zaG,xS,zaJ,zR,zaH,zS,zv,zaL,zM,zau,zaI,zaD,zQ,zaE,zaB,zam,zaN,zat,zF,zbH,zaM,zw,zq,zT,zaK,vo,voS]; exact ⟨x,_,rfl,a6 x (yZ hx),rfl⟩
   rintro acc Γ ⟨s0,rfl,rfl⟩
   rw [yE,show (({ nm:=nm,day:=day,oth:=oth },dl):Act).2=dl from rfl,yx]
   have hn:nms ((as.take i).map (hA T))=nms (as.take i):=by unfold nms; rw [YH]; rfl
   have hes:((as.take i).map (hA T)).length<=100:=by rw [yE,yT]; omega
   have hput:zjU ((as.take i).map (hA T)) nm day:=⟨hes,a1,by rw [hn]; exact a2,fun e he'=>by
    obtain ⟨y,hy,rfl⟩:=yd.mp he'; exact a3 y hy⟩
   dsimp only
   refine zrM (fun Γ'=>∃ s6:Slot,Γ'=[Slot.val (D.lst (List.map D.int cs)),Slot.val (D.lst (ns.map .str)),Slot.val (D.lst (as.map zbd)),Slot.val t0D,Slot.bk (bkF T t0D) b (OD.lst (((as.take (i+1)).map (hA T)).map zcn)),Slot.val (.int (i:Nat)),s6,s7]) ?_ ?_
   ·rw [za1 ha]
    cases oth with
    | none =>
     simp [zak,zaq,zaf,zao,zB,zad,tC',zaM,zbf,tB',zar,zaz,zby,zW,zal,zO,zap,zav,zbs,zbz,zbx,zas,zbA,zu,zax,zaC,zP,zX,zJ,zI,zbn,zE,zV,zaw,zL,zay,zK,zU,zan,zae,zbw,zN,zaG,xS,zaJ,zR,zaH,zS,zv,zaL,zM,zau,zaI,zaD,zQ,zaE,zaB,zam,zaN,zat,zF,zbH,zaM,zw,zq,zT,zaK,zeL,hta,zbd,zeS,zlJ]
     refine ⟨⟨_,rfl,zf0 (by decide +kernel) (by decide +kernel)⟩,t0D,(as.take i).map (hA T),nm,day,dl.map (Deed.mapC (mkC T)),rfl,by simp,by simp,hput,by rw [yE]; omega,fun x hx=>?_,rfl,fun y hy=>?_,o3,zbg (by omega),by simp [hA]⟩
     ·obtain ⟨y,hy,rfl⟩:=yd.mp hx
      rw [hn]; exact zhk _ (a6 y hy).2
     ·obtain ⟨z,hz,rfl⟩:=yd.mp hy
      rcases YL.mp hz with hz | hz
      ·obtain ⟨u,hu,rfl⟩:=yd.mp hz
       obtain ⟨j,hj⟩:=YS (YF hu)
       exact zfk fun d hd=>((ok.at_ j u hj).2.2.2.2.2 d hd).1
      ·rw [yk.mp hz]
       exact zfk (a:=(⟨nm,day,none⟩,dl)) fun d hd=>(a6 d hd).1
    | some o =>
     obtain ⟨ho,rfl⟩:=a4 o rfl; simp [zak,zaq,zaf,zao,zB,zad,tC',zaM,zbf,tB',zar,zaz,zby,zW,zal,zO,zap,zav,zbs,zbz,zbx,zas,zbA,zu,zax,zaC,zP,zX,zJ,zI,zbn,zE,zV,zaw,zL,zay,zK,zU,zan,zae,zbw,zN,zaG,xS,zaJ,zR,zaH,zS,zv,zaL,zM,zau,zaI,zaD,zQ,zaE,zaB,zam,zaN,zat,zF,zbH,zaM,zw,zq,zT,zaK,zeL,hta,zbd,zeS,zlJ]
     exact ⟨⟨_,rfl,zf0 (by decide +kernel) (by decide +kernel)⟩,t0D,(as.take i).map (hA T),nm,day,o,rfl,by simp,rfl,hput,by rw [hn]; exact ho,by simp [hA]⟩
   rintro Γ ⟨s6,rfl⟩
   conv=>whnf
   refine .inl (.inl ⟨_,_,rfl,rfl,_,rfl,(zc0 _ _ _).mpr ?_⟩)
   have hcut:zex (as.map zbd) none (some ((i:Int)+1))=(as.take (i+1)).map zbd:=(zft _ (i+1)).trans (List.map_take ..).symm
   rw [hcut]
   conv=>whnf
   refine .inl ⟨_,rfl,.inl ⟨_,_,rfl,hta,?_⟩⟩
   conv=>whnf
   refine .inl ⟨1,rfl,.inr (.inl ⟨_,_,rfl,rfl,?_⟩)⟩
   conv=>whnf
   refine .inl (.inl ⟨_,_,rfl,rfl,?_⟩)
   conv=>whnf
   refine ⟨cs,2+(i:Int),rfl,by omega,by omega,fun c=>?_⟩
   conv=>whnf
   refine ⟨_,_,rfl,rfl,⟨by decide,by decide,by decide⟩,?_⟩
   conv=>whnf
   refine ⟨_,_,rfl,rfl,show (0:Int)<100000000000000000000 by decide,?_⟩
   conv=>whnf
   refine ⟨t0D,as.take (i+1),day,c % 100000000000000000000,ns,rfl,?_,⟨Int.emod_nonneg _ (by decide),Int.emod_lt_of_pos _ (by decide)⟩,true,rfl,?_⟩
   ·have hl1:(as.take (i+1)).length=i+1:=by rw [yT]; omega
    refine ⟨⟨as.take i,_,za1 ha,rfl⟩,by rw [hl1]; omega,hn1,hn3,hn2,by rw [hl1]; exact zdQ ga (by omega),fun e he'=>?_,hzz (fun z=>by rw [z] at hi; simp at hi)⟩
    rw [za1 ha] at he'
    rcases YL.mp he' with he' | he'
    ·exact a3 e he'
    ·rw [yk.mp he']
     exact Int.le_refl _
   refine ifF (nxt ?_)
   dsimp only
   refine ⟨by decide,bkF T t0D,b,(as.take (i+1)).map (fun a=>zpV (hA T a)),?_,⟨_,rfl,rfl,rfl⟩,?_,?_,?_,?_,?_⟩
   ·show some (Slot.bk (bkF T t0D) b (OD.lst (((as.take (i+1)).map (hA T)).map zcn)))=_
    rw [YH,YH]; rfl
   ·intro z
    have:=yg List.length z
    rw [yE,yT,List.length_nil] at this; omega
   ·rw [yE,yT]; omega
   ·intro x hx
    obtain ⟨u,hu,rfl⟩:=yd.mp hx; obtain ⟨j,hj⟩:=YS (YF hu)
    have:=(ok.at_ j u hj).2.2.2.2.1
    simp only [zpV,hA,yE]; omega
   ·conv=>whnf
    refine .inl (.inl ⟨_,_,rfl,rfl,_,rfl,(zc0 _ _ _).mpr ?_⟩); rw [hcut]
    conv=>whnf
    refine ⟨as.take (i+1),by rw [YH,YH]; rfl,lact _,true,rfl,rfl,?_⟩
    conv=>whnf
    refine .inl ⟨_,rfl,.inl ⟨_,_,rfl,hta,?_⟩⟩
    conv=>whnf
    refine .inl ⟨0,rfl,.inr (.inl ⟨_,_,rfl,rfl,?_⟩)⟩
    conv=>whnf
    exact ⟨small (n:=3) (by decide),trivial⟩
   ·exact ⟨_,_,_,rfl⟩
  ·rintro Γ ⟨s5,s6,s7,rfl⟩
   simp only [yE,ye,YI,yx]
   conv=>whnf
   refine ⟨_,rfl,rfl,?_⟩
   conv=>whnf
   refine ⟨t0D,as.map (hA T),rfl,by rw [yE]; omega,?_⟩
   conv=>whnf
   refine ⟨as,rfl,by have:=lact as.length; rw [yx] at this; exact this,true,rfl,?_⟩
   rw [yW rfl]
   conv=>whnf
   refine ⟨_,rfl,rfl,?_⟩
   conv=>whnf
   refine ⟨t0D,as.map (hA T),rfl,true,st0,?_⟩; exact ⟨.bl _,hq⟩
 ·rw [show decide ([122,122,122,122,122,122,122,122] ∈ ns)=false from yY hz]
  refine .inl ⟨rfl,o1,o3,o1,o3,fun b=>?_⟩
  have hzz:as≠[]->zz ∉ ns:=fun _=>hz
  refine ⟨znf (by decide +kernel) (by decide +kernel),t0D,[],rfl,true,st0,.inl ⟨rfl,znf (by decide +kernel) (by decide +kernel),t0D,[],rfl,by decide,true,ze9 (n:=99) (fun _ z=>by simp at z),.inl ⟨rfl,?_⟩⟩⟩
  simp only [zfL]
  refine ⟨_,rfl,by omega,by rw [yE]; omega,?_⟩
  have ok:=ga.ok hn2 hn3
  have hat:∀ {i:Nat} {a:Act},as[i]?=some a->atI (as.map zbd) (i:Int)=some (zbd a):=fun {i a} h=>zbY (by rw [yF,h]; rfl)
  have lact:∀ n,znT (as.take n):=fun n=>⟨by rw [yT]; omega,fun u hu=>by
   obtain ⟨j,hj⟩:=YS (YF hu)
   exact ⟨(ok.at_ j u hj).2.2.2.2.1,fun d hd=>((ok.at_ j u hj).2.2.2.2.2 d hd).1⟩⟩
  refine zet (fun i Γ=>∃ s5 s6 s7:Slot,Γ=[Slot.val (D.lst (List.map D.int cs)),Slot.val (D.lst (ns.map .str)),Slot.val (D.lst (as.map zbd)),Slot.val t0D,Slot.bk (bkF T t0D) b (OD.lst (((as.take i).map (hA T)).map zcn)),s5,s6,s7]) ⟨_,_,_,rfl⟩ ?_ ?_
  ·rintro i d Γ he ⟨s5,s6,s7,rfl⟩
   have hi:i<as.length/\D.int (i:Nat)=d:=by
    rw [yF] at he; obtain ⟨k,hk,rfl⟩:=yK.mp he; obtain ⟨hk1,hk2⟩:=yD.mp hk; rw [List.getElem_range] at hk2; subst hk2
    simp at hk1
    exact ⟨hk1,rfl⟩
   obtain ⟨hi,rfl⟩:=hi; have ha:=yB hi; generalize as[i]=a at ha; obtain ⟨a1,a2,a3,a4,a5,a6⟩:=ok.at_ i a ha; have hta:=hat ha
   obtain ⟨⟨nm,day,oth⟩,dl⟩:=a
   dsimp only at a1 a2 a3 a4 a5 a6
   conv=>whnf
   refine .inl ⟨_,rfl,.inl ⟨_,_,rfl,hta,?_⟩⟩
   conv=>whnf
   refine .inl ⟨3,rfl,.inr (.inl ⟨_,_,rfl,rfl,?_⟩)⟩
   conv=>whnf
   refine ⟨_,rfl,small (by rw [yE]; show dl.length<=1000; omega),?_⟩
   refine zch (fun i acc Γ=>∃ s0:Slot,acc=((dl.take i).map (Deed.mapC (mkC T))).map deD/\Γ=[s0]) ⟨_,rfl,rfl⟩ ?_ ?_
   ·rintro i d acc Γ he ⟨s0,rfl,rfl⟩
    rw [yF] at he; obtain ⟨x,hx,rfl⟩:=yK.mp he; rw [za1 hx]; simp [zak,zaq,zaf,zao,zB,zad,tC',zaM,zbf,tB',zar,zaz,zby,zW,zal,zO,zap,zav,zbs,zbz,zbx,zas,zbA,zu,zax,zaC,zP,zX,zJ,zI,zbn,zE,zV,zaw,zL,zay,zK,zU,zan,zae,zbw,zN,zaG,xS,zaJ,zR,zaH,zS,zv,zaL,zM,zau,zaI,zaD,zQ,zaE,zaB,zam,zaN,zat,zF,zbH,zaM,zw,zq,zT,zaK,vo,voS]; exact ⟨x,_,rfl,a6 x (yZ hx),rfl⟩
   rintro acc Γ ⟨s0,rfl,rfl⟩
   rw [yE,show (({ nm:=nm,day:=day,oth:=oth },dl):Act).2=dl from rfl,yx]
   have hn:nms ((as.take i).map (hA T))=nms (as.take i):=by unfold nms; rw [YH]; rfl
   have hes:((as.take i).map (hA T)).length<=100:=by rw [yE,yT]; omega
   have hput:zjU ((as.take i).map (hA T)) nm day:=⟨hes,a1,by rw [hn]; exact a2,fun e he'=>by
    obtain ⟨y,hy,rfl⟩:=yd.mp he'; exact a3 y hy⟩
   dsimp only
   refine zrM (fun Γ'=>∃ s6:Slot,Γ'=[Slot.val (D.lst (List.map D.int cs)),Slot.val (D.lst (ns.map .str)),Slot.val (D.lst (as.map zbd)),Slot.val t0D,Slot.bk (bkF T t0D) b (OD.lst (((as.take (i+1)).map (hA T)).map zcn)),Slot.val (.int (i:Nat)),s6,s7]) ?_ ?_
   ·rw [za1 ha]
    cases oth with
    | none =>
     simp [zak,zaq,zaf,zao,zB,zad,tC',zaM,zbf,tB',zar,zaz,zby,zW,zal,zO,zap,zav,zbs,zbz,zbx,zas,zbA,zu,zax,zaC,zP,zX,zJ,zI,zbn,zE,zV,zaw,zL,zay,zK,zU,zan,zae,zbw,zN,zaG,xS,zaJ,zR,zaH,zS,zv,zaL,zM,zau,zaI,zaD,zQ,zaE,zaB,zam,zaN,zat,zF,zbH,zaM,zw,zq,zT,zaK,zeL,hta,zbd,zeS,zlJ]
     refine ⟨⟨_,rfl,zf0 (by decide +kernel) (by decide +kernel)⟩,t0D,(as.take i).map (hA T),nm,day,dl.map (Deed.mapC (mkC T)),rfl,by simp,by simp,hput,by rw [yE]; omega,fun x hx=>?_,rfl,fun y hy=>?_,o3,zbg (by omega),by simp [hA]⟩
     ·obtain ⟨y,hy,rfl⟩:=yd.mp hx
      rw [hn]; exact zhk _ (a6 y hy).2
     ·obtain ⟨z,hz,rfl⟩:=yd.mp hy
      rcases YL.mp hz with hz | hz
      ·obtain ⟨u,hu,rfl⟩:=yd.mp hz
       obtain ⟨j,hj⟩:=YS (YF hu)
       exact zfk fun d hd=>((ok.at_ j u hj).2.2.2.2.2 d hd).1
      ·rw [yk.mp hz]
       exact zfk (a:=(⟨nm,day,none⟩,dl)) fun d hd=>(a6 d hd).1
    | some o =>
     obtain ⟨ho,rfl⟩:=a4 o rfl; simp [zak,zaq,zaf,zao,zB,zad,tC',zaM,zbf,tB',zar,zaz,zby,zW,zal,zO,zap,zav,zbs,zbz,zbx,zas,zbA,zu,zax,zaC,zP,zX,zJ,zI,zbn,zE,zV,zaw,zL,zay,zK,zU,zan,zae,zbw,zN,zaG,xS,zaJ,zR,zaH,zS,zv,zaL,zM,zau,zaI,zaD,zQ,zaE,zaB,zam,zaN,zat,zF,zbH,zaM,zw,zq,zT,zaK,zeL,hta,zbd,zeS,zlJ]
     exact ⟨⟨_,rfl,zf0 (by decide +kernel) (by decide +kernel)⟩,t0D,(as.take i).map (hA T),nm,day,o,rfl,by simp,rfl,hput,by rw [hn]; exact ho,by simp [hA]⟩
   rintro Γ ⟨s6,rfl⟩
   conv=>whnf
   refine .inl (.inl ⟨_,_,rfl,rfl,_,rfl,(zc0 _ _ _).mpr ?_⟩)
   have hcut:zex (as.map zbd) none (some ((i:Int)+1))=(as.take (i+1)).map zbd:=(zft _ (i+1)).trans (List.map_take ..).symm
   rw [hcut]
   conv=>whnf
   refine .inl ⟨_,rfl,.inl ⟨_,_,rfl,hta,?_⟩⟩
   conv=>whnf
   refine .inl ⟨1,rfl,.inr (.inl ⟨_,_,rfl,rfl,?_⟩)⟩
   conv=>whnf
   refine .inl (.inl ⟨_,_,rfl,rfl,?_⟩)
   conv=>whnf
   refine ⟨cs,2+(i:Int),rfl,by omega,by omega,fun c=>?_⟩
   conv=>whnf
   refine ⟨_,_,rfl,rfl,⟨by decide,by decide,by decide⟩,?_⟩
   conv=>whnf
   refine ⟨_,_,rfl,rfl,show (0:Int)<100000000000000000000 by decide,?_⟩
   conv=>whnf
   refine ⟨t0D,as.take (i+1),day,c % 100000000000000000000,ns,rfl,?_,⟨Int.emod_nonneg _ (by decide),Int.emod_lt_of_pos _ (by decide)⟩,true,rfl,?_⟩
   ·have hl1:(as.take (i+1)).length=i+1:=by rw [yT]; omega
    refine ⟨⟨as.take i,_,za1 ha,rfl⟩,by rw [hl1]; omega,hn1,hn3,hn2,by rw [hl1]; exact zdQ ga (by omega),fun e he'=>?_,hzz (fun z=>by rw [z] at hi; simp at hi)⟩
    rw [za1 ha] at he'
    rcases YL.mp he' with he' | he'
    ·exact a3 e he'
    ·rw [yk.mp he']
     exact Int.le_refl _
   refine ifF (nxt ?_)
   dsimp only
   refine ⟨by decide,bkF T t0D,b,(as.take (i+1)).map (fun a=>zpV (hA T a)),?_,⟨_,rfl,rfl,rfl⟩,?_,?_,?_,?_,?_⟩
   ·show some (Slot.bk (bkF T t0D) b (OD.lst (((as.take (i+1)).map (hA T)).map zcn)))=_
    rw [YH,YH]; rfl
   ·intro z
    have:=yg List.length z
    rw [yE,yT,List.length_nil] at this; omega
   ·rw [yE,yT]; omega
   ·intro x hx
    obtain ⟨u,hu,rfl⟩:=yd.mp hx; obtain ⟨j,hj⟩:=YS (YF hu)
    have:=(ok.at_ j u hj).2.2.2.2.1
    simp only [zpV,hA,yE]; omega
   ·conv=>whnf
    refine .inl (.inl ⟨_,_,rfl,rfl,_,rfl,(zc0 _ _ _).mpr ?_⟩); rw [hcut]
    conv=>whnf
    refine ⟨as.take (i+1),by rw [YH,YH]; rfl,lact _,true,rfl,rfl,?_⟩
    conv=>whnf
    refine .inl ⟨_,rfl,.inl ⟨_,_,rfl,hta,?_⟩⟩
    conv=>whnf
    refine .inl ⟨0,rfl,.inr (.inl ⟨_,_,rfl,rfl,?_⟩)⟩
    conv=>whnf
    exact ⟨small (n:=3) (by decide),trivial⟩
   ·exact ⟨_,_,_,rfl⟩
  ·rintro Γ ⟨s5,s6,s7,rfl⟩
   simp only [yE,ye,YI,yx]
   conv=>whnf
   refine ⟨_,rfl,rfl,?_⟩
   conv=>whnf
   refine ⟨t0D,as.map (hA T),rfl,by rw [yE]; omega,?_⟩
   conv=>whnf
   refine ⟨as,rfl,by have:=lact as.length; rw [yx] at this; exact this,true,rfl,?_⟩
   rw [yW rfl]
   conv=>whnf
   refine ⟨_,rfl,rfl,?_⟩
   conv=>whnf
   refine ⟨t0D,as.map (hA T),rfl,true,st0,?_⟩; exact ⟨.bl _,hq⟩
end
end K31
namespace PL
open PySem L2
def ar1 {A B C D E F:Sort _} {p:A->B->C->D->E->F->List Value->Prop} (h:∀ a b c d e f x0,p a b c d e f [x0]):∀ a b c d e f us,us.length=1->p a b c d e f us:=fun a b c d e f us hl=>match us,hl with | [x0],_=>h a b c d e f x0
def ar2 {A B C D E F:Sort _} {p:A->B->C->D->E->F->List Value->Prop} (h:∀ a b c d e f x0 x1,p a b c d e f [x0,x1]):∀ a b c d e f us,us.length=2->p a b c d e f us:=fun a b c d e f us hl=>match us,hl with | [x0,x1],_=>h a b c d e f x0 x1
def ar3 {A B C D E F:Sort _} {p:A->B->C->D->E->F->List Value->Prop} (h:∀ a b c d e f x0 x1 x2,p a b c d e f [x0,x1,x2]):∀ a b c d e f us,us.length=3->p a b c d e f us:=fun a b c d e f us hl=>match us,hl with | [x0,x1,x2],_=>h a b c d e f x0 x1 x2
def ar4 {A B C D E F:Sort _} {p:A->B->C->D->E->F->List Value->Prop} (h:∀ a b c d e f x0 x1 x2 x3,p a b c d e f [x0,x1,x2,x3]):∀ a b c d e f us,us.length=4->p a b c d e f us:=fun a b c d e f us hl=>match us,hl with | [x0,x1,x2,x3],_=>h a b c d e f x0 x1 x2 x3
def ar5 {A B C D E F:Sort _} {p:A->B->C->D->E->F->List Value->Prop} (h:∀ a b c d e f x0 x1 x2 x3 x4,p a b c d e f [x0,x1,x2,x3,x4]):∀ a b c d e f us,us.length=5->p a b c d e f us:=fun a b c d e f us hl=>match us,hl with | [x0,x1,x2,x3,x4],_=>h a b c d e f x0 x1 x2 x3 x4
def Dn (K:W.Frag) (x:Str) (st:Stmt):Prop:=∃ f fd,Fun K x x st f fd/\W.nsIn K mainGlobals x=some (some (.ref f))
section
variable {x:Str} {st:Stmt}
def Dn.mk {f:Addr} {oc:Value} {od an:Option Addr} {osl:Array (Option Value)} {kV doc pm cdv ct:Value} (a:W.nsIn K mainGlobals x=some (some (.ref f))) (l:K.lookup f=some ⟨oc,od,.func (W.fnOf x x (za3 st) (zaO st) (zk st) .none kV doc pm an cdv ct),osl⟩) (c:W.codeIn K cdv x=true) (k:W.keepIn K (.ref f)=true):Dn K x st:=⟨f,_,zck l c k,a⟩
def Dn.df {h:Heap} {mg:Str->Option Value} (D:Dn K x st) (X:K.In h) (G:h.Ns mainGlobals mg) (ps:List Str) (hb:∀ (kV doc pm:Value) (an:Option Addr) (cdv ct:Value) (us:List Value),us.length=ps.length->bindArgs (W.fnOf x x (za3 st) (zaO st) (zk st) .none kV doc pm an cdv ct) ⟨us,[]⟩=pure (ps.zip us)):Df K mg x st ps:=by
 obtain ⟨f,fd,F,a⟩:=D; exact ⟨f,fd,F,F.binds hb,W.mg_of X G a⟩
end
end PL
namespace K31
open PySem L2 Lb PL M34 K31X
section
def zmD:FnScope ["self","tree"] ["self","tree"] (zk zbV):=sc0
def zjo {f C:Addr} {fd:FuncData} (F:Fun K "__init__" "Book.__init__" zbV f fd) (cl:Cls K C) (n1:zaQ K C "tree") (n2:zaQ K C "past"):FnOk P w K mg base CX0 1 f fd ["self","tree"] (ziA C "tree" "past"):=by
 refine F.ok zmD (fun vs H Q E h=>?_) (fun cdv A outer s H vs Q E hr h=>?_)
 ·obtain ⟨a,dx,u,rfl,_⟩:=h
  rfl
 ·obtain ⟨a,dx,u,rfl,ha,k⟩:=h
  refine ⟨_,(zbZ (zcO (pv 0) (pv 1) rfl) (zcl (zcO (pv 0) (zlO zds) rfl))),?_⟩
  refine ⟨_,rfl,_,rfl,a,C,dx,_,rfl,ha,cl,n1,(by show 0<1000; decide),YE _,fun p hp=>?_⟩
  have hpa:p≠a:=fun z=>by rw [z,zo] at hp; cases hp
  refine ⟨_,rfl,a,C,dx,_,rfl,by rw [zp (fun z=>hpa z.symm)]; exact zo,cl,n2,(by show 1<1000; decide),?_⟩
  have e:zdb "past" (.ref p) (zdb "tree" u ([]))=[(("tree":Str),u),(("past":Str),.ref p)]:=by
   have q1:¬ ("tree":Str)="past":=by decide +kernel
   simp only [zdb,yS q1]
  rw [zg2 hpa,e]; rw [zp hpa] at hp; exact k p hpa hp
def zmB:FnScope ["self","place","old","new"] ["self","place","old","new"] (zk zbT):=sc0
def zjm {f C:Addr} {fd:FuncData} (F:Fun K "__init__" "Swap.__init__" zbT f fd) (cl:Cls K C) (n1:zaQ K C "place") (n2:zaQ K C "old") (n3:zaQ K C "new"):FnOk P w K mg base CX0 1 f fd ["self","place","old","new"] (zeM C ["place","old","new"]):=by
 refine F.ok zmB (fun vs H Q E h=>?_) (fun cdv A outer s H vs Q E hr h=>?_)
 ·obtain ⟨a,dx,us,rfl,hl,_⟩:=h
  simpa using hl
 ·obtain ⟨a,dx,us,rfl,hl,ha,k⟩:=h
  obtain ⟨v1,v2,v3,rfl⟩:∃ v1 v2 v3,us=[v1,v2,v3]:=by
   match us,hl with
   | [v1,v2,v3],_=>exact ⟨v1,v2,v3,rfl⟩
  refine ⟨_,(zbZ (zcO (pv 0) (pv 1) rfl) (zbZ (zcO (pv 0) (pv 2) rfl) (zcl (zcO (pv 0) (pv 3) rfl)))),?_⟩
  refine ⟨_,rfl,_,rfl,a,C,dx,_,rfl,ha,cl,n1,(by show 0<1000; decide),_,rfl,_,rfl,a,C,dx,_,rfl,zo,cl,n2,(by show 1<1000; decide),_,rfl,_,rfl,a,C,dx,_,rfl,zo,cl,n3,(by show 2<1000; decide),?_⟩
  have e:zdb "new" v3 (zdb "old" v2 (zdb "place" v1 ([])))=List.zip (["place","old","new"]:List Str) [v1,v2,v3]:=by
   have q1:¬ ("place":Str)="old":=by decide +kernel
   have q2:¬ ("place":Str)="new":=by decide +kernel
   have q3:¬ ("old":Str)="new":=by decide +kernel
   simp only [zdb,yS q1,yS q2,yS q3]; rfl
  simp only [zdC]; exact e ▸ k
def zmC:FnScope ["self","place","words"] ["self","place","words"] (zk zbU):=sc0
def zjn {f C:Addr} {fd:FuncData} (F:Fun K "__init__" "Read.__init__" zbU f fd) (cl:Cls K C) (n1:zaQ K C "place") (n2:zaQ K C "words"):FnOk P w K mg base CX0 1 f fd ["self","place","words"] (zeM C ["place","words"]):=by
 refine F.ok zmC (fun vs H Q E h=>?_) (fun cdv A outer s H vs Q E hr h=>?_)
 ·obtain ⟨a,dx,us,rfl,hl,_⟩:=h
  simpa using hl
 ·obtain ⟨a,dx,us,rfl,hl,ha,k⟩:=h
  obtain ⟨v1,v2,rfl⟩:∃ v1 v2,us=[v1,v2]:=by
   match us,hl with
   | [v1,v2],_=>exact ⟨v1,v2,rfl⟩
  refine ⟨_,(zbZ (zcO (pv 0) (pv 1) rfl) (zcl (zcO (pv 0) (pv 2) rfl))),?_⟩
  refine ⟨_,rfl,_,rfl,a,C,dx,_,rfl,ha,cl,n1,(by show 0<1000; decide),_,rfl,_,rfl,a,C,dx,_,rfl,zo,cl,n2,(by show 1<1000; decide),?_⟩
  have e:zdb "words" v2 (zdb "place" v1 ([]))=List.zip (["place","words"]:List Str) [v1,v2]:=by
   have q1:¬ ("place":Str)="words":=by decide +kernel
   simp only [zdb,yS q1]; rfl
  simp only [zdC]; exact e ▸ k
def zkk:FnScope ["self","place","node"] ["self","place","node"] (zk zbB):=sc0
def zia {f C:Addr} {fd:FuncData} (F:Fun K "__init__" "PutIn.__init__" zbB f fd) (cl:Cls K C) (n1:zaQ K C "place") (n2:zaQ K C "node"):FnOk P w K mg base CX0 1 f fd ["self","place","node"] (zeM C ["place","node"]):=by
 refine F.ok zkk (fun vs H Q E h=>?_) (fun cdv A outer s H vs Q E hr h=>?_)
 ·obtain ⟨a,dx,us,rfl,hl,_⟩:=h
  simpa using hl
 ·obtain ⟨a,dx,us,rfl,hl,ha,k⟩:=h
  obtain ⟨v1,v2,rfl⟩:∃ v1 v2,us=[v1,v2]:=by
   match us,hl with
   | [v1,v2],_=>exact ⟨v1,v2,rfl⟩
  refine ⟨_,(zbZ (zcO (pv 0) (pv 1) rfl) (zcl (zcO (pv 0) (pv 2) rfl))),?_⟩
  refine ⟨_,rfl,_,rfl,a,C,dx,_,rfl,ha,cl,n1,(by show 0<1000; decide),_,rfl,_,rfl,a,C,dx,_,rfl,zo,cl,n2,(by show 1<1000; decide),?_⟩
  have e:zdb "node" v2 (zdb "place" v1 ([]))=List.zip (["place","node"]:List Str) [v1,v2]:=by
   have q1:¬ ("place":Str)="node":=by decide +kernel
   simp only [zdb,yS q1]; rfl
  simp only [zdC]; exact e ▸ k
def zgu:FnScope ["self","place"] ["self","place"] (zk za2):=sc0
def zfn {f C:Addr} {fd:FuncData} (F:Fun K "__init__" "LeaveOut.__init__" za2 f fd) (cl:Cls K C) (n1:zaQ K C "place"):FnOk P w K mg base CX0 1 f fd ["self","place"] (zeM C ["place"]):=by
 refine F.ok zgu (fun vs H Q E h=>?_) (fun cdv A outer s H vs Q E hr h=>?_)
 ·obtain ⟨a,dx,us,rfl,hl,_⟩:=h
  simpa using hl
 ·obtain ⟨a,dx,us,rfl,hl,ha,k⟩:=h
  obtain ⟨v1,rfl⟩:∃ v1,us=[v1]:=by
   match us,hl with
   | [v1],_=>exact ⟨v1,rfl⟩
  refine ⟨_,(zcl (zcO (pv 0) (pv 1) rfl)),?_⟩
  refine ⟨_,rfl,_,rfl,a,C,dx,_,rfl,ha,cl,n1,(by show 0<1000; decide),?_⟩
  have e:zdb "place" v1 ([])=List.zip (["place"]:List Str) [v1]:=by
   rfl
  simp only [zdC]; exact e ▸ k
def zmE:FnScope ["self","place"] ["self","place"] (zk zbW):=sc0
def zjp {f C:Addr} {fd:FuncData} (F:Fun K "__init__" "Anew.__init__" zbW f fd) (cl:Cls K C) (n1:zaQ K C "place"):FnOk P w K mg base CX0 1 f fd ["self","place"] (zeM C ["place"]):=by
 refine F.ok zmE (fun vs H Q E h=>?_) (fun cdv A outer s H vs Q E hr h=>?_)
 ·obtain ⟨a,dx,us,rfl,hl,_⟩:=h
  simpa using hl
 ·obtain ⟨a,dx,us,rfl,hl,ha,k⟩:=h
  obtain ⟨v1,rfl⟩:∃ v1,us=[v1]:=by
   match us,hl with
   | [v1],_=>exact ⟨v1,rfl⟩
  refine ⟨_,(zcl (zcO (pv 0) (pv 1) rfl)),?_⟩
  refine ⟨_,rfl,_,rfl,a,C,dx,_,rfl,ha,cl,n1,(by show 0<1000; decide),?_⟩
  have e:zdb "place" v1 ([])=List.zip (["place"]:List Str) [v1]:=by
   rfl
  simp only [zdC]; exact e ▸ k
def zmG {X:Cx} {v:V} {H:Hp} (h:K31X.okv_NoAct v H):Rep X v H 1300:=by
 intro pins s σ u E Q I r q; obtain ⟨z,rfl,hz,hc⟩:=h; obtain ⟨t,rfl⟩:=r
 have l:=StrLaws.reprText_len z fun c m=>Nat.lt_trans (hc c m) (by decide)
 exact wpAny_pyReprObj_str (q _ _ _ (by omega) (I.tok _)) (zg6 (by omega))
def zkl:FnScope ["self","name"] ["self","name"] (zk zbC):=sc0
def zib {f C M N:Addr} {bm:List Value} {fd:FuncData} (F:Fun K "__init__" "NoAct.__init__" zbC f fd) (B:BIn K M) (hm:mg "MendError"=some (.ref M)) (cl:XCl K C N bm) (xs:X1.XSet K C) (na:zaQ K C "name"):FnOk P w K mg base CX0 1 f fd ["self","name"] (zpN C "name" K31X.okv_NoAct):=by
 refine F.ok zkl (fun vs H Q E h=>?_) (fun cdv A outer s H vs Q E hr h=>?_)
 ·obtain ⟨a,v,rfl,_⟩:=h
  rfl
 ·obtain ⟨a,v,rfl,ha,hv,k⟩:=h
  refine ⟨_,zbZ (zdM (zkL (X:=(zd8 CX0 P w K mg base _ _ _ f cdv A outer s H E).nox) B rfl hm (zbO (pv 0) (zbO (zkF 1300 (by decide) (pv 1)) zds rfl) rfl)) rfl) (zcl (zmS (pv 0) (pv 1) rfl)),?_⟩
  exact ⟨_,rfl,_,rfl,zmG hv,fun z=>⟨a,C,N,bm,z,rfl,ha,cl,_,rfl,_,rfl,a,C,rfl,ha,xs,na,fun dx hdx=>k dx hdx⟩⟩
end
def all_mk {l:W.OpenLaw} {w:World} {K:W.Frag} {h:Heap} {mg:Str->Option Value} {fa f20 j_Book C_Book j_Swap C_Swap j_Read C_Read j_PutIn C_PutIn j_LeaveOut C_LeaveOut j_Anew C_Anew w_Book_first w_Book_acts w_Book_refuse_act w_Book_act w_Book_back:Addr} (X:K.In h) (G:h.Ns mainGlobals mg) (hfa:mg "law"=some (.ref fa))
  {C_MendError C_NoPlace C_NoText C_NoFit C_NoName C_Twice C_NoDay C_NoAct C_NoRow N_MendError N_NoName N_Twice N_NoDay N_NoAct j_NoAct:Addr}
  {nm_MendError qn_MendError:Str} {bs_MendError bm_MendError sb_MendError:List Value} {hd_MendError ab_MendError:Bool} {sn_MendError:List Str} {co_MendError:Option Bool} {dd_MendError:Option Addr} {ka_MendError kb_MendError kc_MendError kd_MendError ke_MendError:Option Value} {ni_MendError:String} {cn_MendError:Value} {dn_MendError:Option Addr} {es_MendError:Array DictEntry} {ep_MendError:Nat} {sk_MendError:Array (Option Value)}
  {nm_NoName qn_NoName:Str} {bs_NoName bm_NoName sb_NoName:List Value} {hd_NoName ab_NoName:Bool} {sn_NoName:List Str} {co_NoName:Option Bool} {dd_NoName:Option Addr} {ka_NoName kb_NoName kc_NoName kd_NoName ke_NoName:Option Value} {ni_NoName:String} {cn_NoName:Value} {dn_NoName:Option Addr} {es_NoName:Array DictEntry} {ep_NoName:Nat} {sk_NoName:Array (Option Value)}
  {nm_Twice qn_Twice:Str} {bs_Twice bm_Twice sb_Twice:List Value} {hd_Twice ab_Twice:Bool} {sn_Twice:List Str} {co_Twice:Option Bool} {dd_Twice:Option Addr} {ka_Twice kb_Twice kc_Twice kd_Twice ke_Twice:Option Value} {ni_Twice:String} {cn_Twice:Value} {dn_Twice:Option Addr} {es_Twice:Array DictEntry} {ep_Twice:Nat} {sk_Twice:Array (Option Value)}
  {nm_NoDay qn_NoDay:Str} {bs_NoDay bm_NoDay sb_NoDay:List Value} {hd_NoDay ab_NoDay:Bool} {sn_NoDay:List Str} {co_NoDay:Option Bool} {dd_NoDay:Option Addr} {ka_NoDay kb_NoDay kc_NoDay kd_NoDay ke_NoDay:Option Value} {ni_NoDay:String} {cn_NoDay:Value} {dn_NoDay:Option Addr} {es_NoDay:Array DictEntry} {ep_NoDay:Nat} {sk_NoDay:Array (Option Value)}
  {nm_NoAct qn_NoAct:Str} {bs_NoAct bm_NoAct sb_NoAct:List Value} {hd_NoAct ab_NoAct:Bool} {sn_NoAct:List Str} {co_NoAct:Option Bool} {dd_NoAct:Option Addr} {ka_NoAct kb_NoAct kc_NoAct kd_NoAct ke_NoAct:Option Value} {ni_NoAct:String} {cn_NoAct:Value} {dn_NoAct:Option Addr} {es_NoAct:Array DictEntry} {ep_NoAct:Nat} {sk_NoAct:Array (Option Value)}
  {jd_NoAct jn_NoAct:Option Addr} {js_NoAct:Array (Option Value)} {jk_NoAct jo_NoAct jm_NoAct je_NoAct jt_NoAct:Value}
  {od20 an20:Option Addr} {sl20:Array (Option Value)} {oc20 kV20 dc20 pm20 cd20 ct20:Value}
  {jd_Book jn_Book:Option Addr} {js_Book:Array (Option Value)} {jk_Book jo_Book jm_Book je_Book jt_Book:Value}
  {jd_Swap jn_Swap:Option Addr} {js_Swap:Array (Option Value)} {jk_Swap jo_Swap jm_Swap je_Swap jt_Swap:Value}
  {jd_Read jn_Read:Option Addr} {js_Read:Array (Option Value)} {jk_Read jo_Read jm_Read je_Read jt_Read:Value}
  {jd_PutIn jn_PutIn:Option Addr} {js_PutIn:Array (Option Value)} {jk_PutIn jo_PutIn jm_PutIn je_PutIn jt_PutIn:Value}
  {jd_LeaveOut jn_LeaveOut:Option Addr} {js_LeaveOut:Array (Option Value)} {jk_LeaveOut jo_LeaveOut jm_LeaveOut je_LeaveOut jt_LeaveOut:Value}
  {jd_Anew jn_Anew:Option Addr} {js_Anew:Array (Option Value)} {jk_Anew jo_Anew jm_Anew je_Anew jt_Anew:Value}
  {jd_Book_first jn_Book_first:Option Addr} {js_Book_first:Array (Option Value)} {jk_Book_first jo_Book_first jm_Book_first je_Book_first jt_Book_first:Value}
  {jd_Book_acts jn_Book_acts:Option Addr} {js_Book_acts:Array (Option Value)} {jk_Book_acts jo_Book_acts jm_Book_acts je_Book_acts jt_Book_acts:Value}
  {jd_Book_refuse_act jn_Book_refuse_act:Option Addr} {js_Book_refuse_act:Array (Option Value)} {jk_Book_refuse_act jo_Book_refuse_act jm_Book_refuse_act je_Book_refuse_act jt_Book_refuse_act:Value}
  {jd_Book_act jn_Book_act:Option Addr} {js_Book_act:Array (Option Value)} {jk_Book_act jo_Book_act jm_Book_act je_Book_act jt_Book_act:Value}
  {jd_Book_back jn_Book_back:Option Addr} {js_Book_back:Array (Option Value)} {jk_Book_back jo_Book_back jm_Book_back je_Book_back jt_Book_back:Value}
  {x1:Int} {t1:Tok} {x2:Str} {t2:Tok}
  (D1:Dn K "has_only" zcZ)
  (D2:Dn K "named_in" zcY)
  (D3:Dn K "_law_cell_at" zcz)
  (D4:Dn K "_law_names" zce)
  (D5:Dn K "_law_kind" zdH)
  (D6:Dn K "_law_kinds" zc9)
  (D7:Dn K "_law_same_change" zbR)
  (D8:Dn K "_law_bad" zd9)
  (D9:Dn K "is_name" zeb)
  (D10:Dn K "_law_deed" zdI)
  (D11:Dn K "_law_same_deed" zcd)
  (D12:Dn K "_law_acts" zcq)
  (D13:Dn K "_law_change" zcN)
  (D14:Dn K "_law_same" zdG)
  (D15:Dn K "_law_handed" zcM)
  (D16:Dn K "_law_put" zdm)
  (D17:Dn K "_law_tried" zc8)
  (D18:Dn K "_law_refused" zb5)
  (D19:Dn K "_law_all_refused" zbS)
  (a20:W.nsIn K mainGlobals "law"=some (some (.ref f20)))
  (l20:K.lookup f20=some ⟨oc20,od20,.func (W.fnOf "law" "law" (za3 zea) (zaO zea) (zk zea) .none kV20 dc20 pm20 an20 cd20 ct20),sl20⟩)
  (c20:W.codeIn K cd20 "law"=true)
  (k20:W.keepIn K (.ref f20)=true)
  (z1:W.nsIn K mainGlobals "ValueError"=some none)
  (z2:W.nsIn K mainGlobals "all"=some none)
  (z3:W.nsIn K mainGlobals "int"=some none)
  (z4:W.nsIn K mainGlobals "isinstance"=some none)
  (z5:W.nsIn K mainGlobals "len"=some none)
  (z6:W.nsIn K mainGlobals "list"=some none)
  (z7:W.nsIn K mainGlobals "range"=some none)
  (z8:W.nsIn K mainGlobals "str"=some none)
  (z9:W.nsIn K mainGlobals "tuple"=some none)
  (z10:W.nsIn K mainGlobals "zip"=some none)
  (g1:W.nsIn K mainGlobals "LONGEST_NAME"=some (some (.int x1 t1)))
  (e1:x1=8)
  (g2:W.nsIn K mainGlobals "SMALL_LETTERS"=some (some (.str x2 t2)))
  (e2:x2=st zfA)
  (aC_Book:W.nsIn K mainGlobals "Book"=some (some (.ref C_Book)))
  (hdC_Book:W.hasDictIn K C_Book=true)
  (aI_Book:W.findIn K (.ref C_Book) "__init__"=some (some (.ref j_Book)))
  (iI_Book:W.isFn K (.ref j_Book)=true)
  (lI_Book:K.lookup j_Book=some ⟨.type "function",jd_Book,.func (W.fnOf "__init__" "Book.__init__" (za3 zbV) (zaO zbV) (zk zbV) .none jk_Book jo_Book jm_Book jn_Book je_Book jt_Book),js_Book⟩)
  (cI_Book:W.codeIn K je_Book "Book.__init__"=true)
  (kI_Book:W.keepIn K (.ref j_Book)=true)
  (pg_Book:W.plainGet K C_Book Str.empty=true)
  (po_Book:W.plainOver K C_Book=true)
  (sa_Book:W.findIn K (.ref C_Book) "__setattr__"=some (some (.builtin "object.__setattr__")))
  (mk_Book:W.makesIn K C_Book=true)
  (kc_Book:W.keepIn K (.ref C_Book)=true)
  (n_Book_tree:W.findIn K (.ref C_Book) "tree"=some none)
  (n_Book_past:W.findIn K (.ref C_Book) "past"=some none)
  (aC_Swap:W.nsIn K mainGlobals "Swap"=some (some (.ref C_Swap)))
  (hdC_Swap:W.hasDictIn K C_Swap=true)
  (aI_Swap:W.findIn K (.ref C_Swap) "__init__"=some (some (.ref j_Swap)))
  (iI_Swap:W.isFn K (.ref j_Swap)=true)
  (lI_Swap:K.lookup j_Swap=some ⟨.type "function",jd_Swap,.func (W.fnOf "__init__" "Swap.__init__" (za3 zbT) (zaO zbT) (zk zbT) .none jk_Swap jo_Swap jm_Swap jn_Swap je_Swap jt_Swap),js_Swap⟩)
  (cI_Swap:W.codeIn K je_Swap "Swap.__init__"=true)
  (kI_Swap:W.keepIn K (.ref j_Swap)=true)
  (pg_Swap:W.plainGet K C_Swap Str.empty=true)
  (po_Swap:W.plainOver K C_Swap=true)
  (sa_Swap:W.findIn K (.ref C_Swap) "__setattr__"=some (some (.builtin "object.__setattr__")))
  (mk_Swap:W.makesIn K C_Swap=true)
  (kc_Swap:W.keepIn K (.ref C_Swap)=true)
  (n_Swap_place:W.findIn K (.ref C_Swap) "place"=some none)
  (n_Swap_old:W.findIn K (.ref C_Swap) "old"=some none)
  (n_Swap_new:W.findIn K (.ref C_Swap) "new"=some none)
  (aC_Read:W.nsIn K mainGlobals "Read"=some (some (.ref C_Read)))
  (hdC_Read:W.hasDictIn K C_Read=true)
  (aI_Read:W.findIn K (.ref C_Read) "__init__"=some (some (.ref j_Read)))
  (iI_Read:W.isFn K (.ref j_Read)=true)
  (lI_Read:K.lookup j_Read=some ⟨.type "function",jd_Read,.func (W.fnOf "__init__" "Read.__init__" (za3 zbU) (zaO zbU) (zk zbU) .none jk_Read jo_Read jm_Read jn_Read je_Read jt_Read),js_Read⟩)
  (cI_Read:W.codeIn K je_Read "Read.__init__"=true)
  (kI_Read:W.keepIn K (.ref j_Read)=true)
  (pg_Read:W.plainGet K C_Read Str.empty=true)
  (po_Read:W.plainOver K C_Read=true)
  (sa_Read:W.findIn K (.ref C_Read) "__setattr__"=some (some (.builtin "object.__setattr__")))
  (mk_Read:W.makesIn K C_Read=true)
  (kc_Read:W.keepIn K (.ref C_Read)=true)
  (n_Read_place:W.findIn K (.ref C_Read) "place"=some none)
  (n_Read_words:W.findIn K (.ref C_Read) "words"=some none)
  (aC_PutIn:W.nsIn K mainGlobals "PutIn"=some (some (.ref C_PutIn)))
  (hdC_PutIn:W.hasDictIn K C_PutIn=true)
  (aI_PutIn:W.findIn K (.ref C_PutIn) "__init__"=some (some (.ref j_PutIn)))
  (iI_PutIn:W.isFn K (.ref j_PutIn)=true)
  (lI_PutIn:K.lookup j_PutIn=some ⟨.type "function",jd_PutIn,.func (W.fnOf "__init__" "PutIn.__init__" (za3 zbB) (zaO zbB) (zk zbB) .none jk_PutIn jo_PutIn jm_PutIn jn_PutIn je_PutIn jt_PutIn),js_PutIn⟩)
  (cI_PutIn:W.codeIn K je_PutIn "PutIn.__init__"=true)
  (kI_PutIn:W.keepIn K (.ref j_PutIn)=true)
  (pg_PutIn:W.plainGet K C_PutIn Str.empty=true)
  (po_PutIn:W.plainOver K C_PutIn=true)
  (sa_PutIn:W.findIn K (.ref C_PutIn) "__setattr__"=some (some (.builtin "object.__setattr__")))
  (mk_PutIn:W.makesIn K C_PutIn=true)
  (kc_PutIn:W.keepIn K (.ref C_PutIn)=true)
  (n_PutIn_place:W.findIn K (.ref C_PutIn) "place"=some none)
  (n_PutIn_node:W.findIn K (.ref C_PutIn) "node"=some none)
  (aC_LeaveOut:W.nsIn K mainGlobals "LeaveOut"=some (some (.ref C_LeaveOut)))
  (hdC_LeaveOut:W.hasDictIn K C_LeaveOut=true)
  (aI_LeaveOut:W.findIn K (.ref C_LeaveOut) "__init__"=some (some (.ref j_LeaveOut)))
  (iI_LeaveOut:W.isFn K (.ref j_LeaveOut)=true)
  (lI_LeaveOut:K.lookup j_LeaveOut=some ⟨.type "function",jd_LeaveOut,.func (W.fnOf "__init__" "LeaveOut.__init__" (za3 za2) (zaO za2) (zk za2) .none jk_LeaveOut jo_LeaveOut jm_LeaveOut jn_LeaveOut je_LeaveOut jt_LeaveOut),js_LeaveOut⟩)
  (cI_LeaveOut:W.codeIn K je_LeaveOut "LeaveOut.__init__"=true)
  (kI_LeaveOut:W.keepIn K (.ref j_LeaveOut)=true)
  (pg_LeaveOut:W.plainGet K C_LeaveOut Str.empty=true)
  (po_LeaveOut:W.plainOver K C_LeaveOut=true)
  (sa_LeaveOut:W.findIn K (.ref C_LeaveOut) "__setattr__"=some (some (.builtin "object.__setattr__")))
  (mk_LeaveOut:W.makesIn K C_LeaveOut=true)
  (kc_LeaveOut:W.keepIn K (.ref C_LeaveOut)=true)
  (n_LeaveOut_place:W.findIn K (.ref C_LeaveOut) "place"=some none)
  (aC_Anew:W.nsIn K mainGlobals "Anew"=some (some (.ref C_Anew)))
  (hdC_Anew:W.hasDictIn K C_Anew=true)
  (aI_Anew:W.findIn K (.ref C_Anew) "__init__"=some (some (.ref j_Anew)))
  (iI_Anew:W.isFn K (.ref j_Anew)=true)
  (lI_Anew:K.lookup j_Anew=some ⟨.type "function",jd_Anew,.func (W.fnOf "__init__" "Anew.__init__" (za3 zbW) (zaO zbW) (zk zbW) .none jk_Anew jo_Anew jm_Anew jn_Anew je_Anew jt_Anew),js_Anew⟩)
  (cI_Anew:W.codeIn K je_Anew "Anew.__init__"=true)
  (kI_Anew:W.keepIn K (.ref j_Anew)=true)
  (pg_Anew:W.plainGet K C_Anew Str.empty=true)
  (po_Anew:W.plainOver K C_Anew=true)
  (sa_Anew:W.findIn K (.ref C_Anew) "__setattr__"=some (some (.builtin "object.__setattr__")))
  (mk_Anew:W.makesIn K C_Anew=true)
  (kc_Anew:W.keepIn K (.ref C_Anew)=true)
  (n_Anew_place:W.findIn K (.ref C_Anew) "place"=some none)
  (aM_Book_first:W.findIn K (.ref C_Book) "first"=some (some (.ref w_Book_first)))
  (iM_Book_first:W.isFn K (.ref w_Book_first)=true)
  (lI_Book_first:K.lookup w_Book_first=some ⟨.type "function",jd_Book_first,.func (W.fnOf "first" "Book.first" (za3 zbD) (zaO zbD) (zk zbD) .none jk_Book_first jo_Book_first jm_Book_first jn_Book_first je_Book_first jt_Book_first),js_Book_first⟩)
  (cI_Book_first:W.codeIn K je_Book_first "Book.first"=true)
  (kI_Book_first:W.keepIn K (.ref w_Book_first)=true)
  (aM_Book_acts:W.findIn K (.ref C_Book) "acts"=some (some (.ref w_Book_acts)))
  (iM_Book_acts:W.isFn K (.ref w_Book_acts)=true)
  (lI_Book_acts:K.lookup w_Book_acts=some ⟨.type "function",jd_Book_acts,.func (W.fnOf "acts" "Book.acts" (za3 zaZ) (zaO zaZ) (zk zaZ) .none jk_Book_acts jo_Book_acts jm_Book_acts jn_Book_acts je_Book_acts jt_Book_acts),js_Book_acts⟩)
  (cI_Book_acts:W.codeIn K je_Book_acts "Book.acts"=true)
  (kI_Book_acts:W.keepIn K (.ref w_Book_acts)=true)
  (aM_Book_refuse_act:W.findIn K (.ref C_Book) "refuse_act"=some (some (.ref w_Book_refuse_act)))
  (iM_Book_refuse_act:W.isFn K (.ref w_Book_refuse_act)=true)
  (lI_Book_refuse_act:K.lookup w_Book_refuse_act=some ⟨.type "function",jd_Book_refuse_act,.func (W.fnOf "refuse_act" "Book.refuse_act" (za3 zac) (zaO zac) (zk zac) .none jk_Book_refuse_act jo_Book_refuse_act jm_Book_refuse_act jn_Book_refuse_act je_Book_refuse_act jt_Book_refuse_act),js_Book_refuse_act⟩)
  (cI_Book_refuse_act:W.codeIn K je_Book_refuse_act "Book.refuse_act"=true)
  (kI_Book_refuse_act:W.keepIn K (.ref w_Book_refuse_act)=true)
  (aM_Book_act:W.findIn K (.ref C_Book) "act"=some (some (.ref w_Book_act)))
  (iM_Book_act:W.isFn K (.ref w_Book_act)=true)
  (lI_Book_act:K.lookup w_Book_act=some ⟨.type "function",jd_Book_act,.func (W.fnOf "act" "Book.act" (za3 zbE) (zaO zbE) (zk zbE) .none jk_Book_act jo_Book_act jm_Book_act jn_Book_act je_Book_act jt_Book_act),js_Book_act⟩)
  (cI_Book_act:W.codeIn K je_Book_act "Book.act"=true)
  (kI_Book_act:W.keepIn K (.ref w_Book_act)=true)
  (aM_Book_back:W.findIn K (.ref C_Book) "back"=some (some (.ref w_Book_back)))
  (iM_Book_back:W.isFn K (.ref w_Book_back)=true)
  (lI_Book_back:K.lookup w_Book_back=some ⟨.type "function",jd_Book_back,.func (W.fnOf "back" "Book.back" (za3 zbj) (zaO zbj) (zk zbj) .none jk_Book_back jo_Book_back jm_Book_back jn_Book_back je_Book_back jt_Book_back),js_Book_back⟩)
  (cI_Book_back:W.codeIn K je_Book_back "Book.back"=true)
  (kI_Book_back:W.keepIn K (.ref w_Book_back)=true)
  (hn:W.specialIn K (.builtin "object.__class__") "__get__"=some (some (.builtin "getset_descriptor.__get__")))
  (htk:W.takesIn K (.builtin "object.__class__")=some true)
  (ha_Swap:W.findIn K (.ref C_Swap) "__class__"=some (some (.builtin "object.__class__")))
  (hm_Swap:W.mroIn K C_Swap (.type "object")=some true)
  (ha_Read:W.findIn K (.ref C_Read) "__class__"=some (some (.builtin "object.__class__")))
  (hm_Read:W.mroIn K C_Read (.type "object")=some true)
  (ha_PutIn:W.findIn K (.ref C_PutIn) "__class__"=some (some (.builtin "object.__class__")))
  (hm_PutIn:W.mroIn K C_PutIn (.type "object")=some true)
  (ha_LeaveOut:W.findIn K (.ref C_LeaveOut) "__class__"=some (some (.builtin "object.__class__")))
  (hm_LeaveOut:W.mroIn K C_LeaveOut (.type "object")=some true)
  (ha_Anew:W.findIn K (.ref C_Anew) "__class__"=some (some (.builtin "object.__class__")))
  (hm_Anew:W.mroIn K C_Anew (.type "object")=some true)
  (aC_MendError:W.nsIn K mainGlobals "MendError"=some (some (.ref C_MendError)))
  (hdC_MendError:W.hasDictIn K C_MendError=true)
  (ty_MendError:W.typeIn K (.ref C_MendError)=some (.type "type"))
  (aC_NoPlace:W.nsIn K mainGlobals "NoPlace"=some (some (.ref C_NoPlace)))
  (hdC_NoPlace:W.hasDictIn K C_NoPlace=true)
  (ty_NoPlace:W.typeIn K (.ref C_NoPlace)=some (.type "type"))
  (aC_NoText:W.nsIn K mainGlobals "NoText"=some (some (.ref C_NoText)))
  (hdC_NoText:W.hasDictIn K C_NoText=true)
  (ty_NoText:W.typeIn K (.ref C_NoText)=some (.type "type"))
  (aC_NoFit:W.nsIn K mainGlobals "NoFit"=some (some (.ref C_NoFit)))
  (hdC_NoFit:W.hasDictIn K C_NoFit=true)
  (ty_NoFit:W.typeIn K (.ref C_NoFit)=some (.type "type"))
  (aC_NoName:W.nsIn K mainGlobals "NoName"=some (some (.ref C_NoName)))
  (hdC_NoName:W.hasDictIn K C_NoName=true)
  (ty_NoName:W.typeIn K (.ref C_NoName)=some (.type "type"))
  (aC_Twice:W.nsIn K mainGlobals "Twice"=some (some (.ref C_Twice)))
  (hdC_Twice:W.hasDictIn K C_Twice=true)
  (ty_Twice:W.typeIn K (.ref C_Twice)=some (.type "type"))
  (aC_NoDay:W.nsIn K mainGlobals "NoDay"=some (some (.ref C_NoDay)))
  (hdC_NoDay:W.hasDictIn K C_NoDay=true)
  (ty_NoDay:W.typeIn K (.ref C_NoDay)=some (.type "type"))
  (aC_NoAct:W.nsIn K mainGlobals "NoAct"=some (some (.ref C_NoAct)))
  (hdC_NoAct:W.hasDictIn K C_NoAct=true)
  (ty_NoAct:W.typeIn K (.ref C_NoAct)=some (.type "type"))
  (aC_NoRow:W.nsIn K mainGlobals "NoRow"=some (some (.ref C_NoRow)))
  (hdC_NoRow:W.hasDictIn K C_NoRow=true)
  (ty_NoRow:W.typeIn K (.ref C_NoRow)=some (.type "type"))
  (bC_MendError:K.lookup C_MendError=some (excClassObj nm_MendError qn_MendError C_MendError N_MendError bs_MendError bm_MendError hd_MendError sn_MendError sb_MendError ab_MendError co_MendError dd_MendError ka_MendError kb_MendError kc_MendError kd_MendError ke_MendError ni_MendError))
  (lN_MendError:K.lookup N_MendError=some ⟨cn_MendError,dn_MendError,.dict es_MendError ep_MendError,sk_MendError⟩)
  (sB_MendError:skB es_MendError=true)
  (kC_MendError:W.keepIn K (.ref C_MendError)=true)
  (bC_NoName:K.lookup C_NoName=some (excClassObj nm_NoName qn_NoName C_NoName N_NoName bs_NoName bm_NoName hd_NoName sn_NoName sb_NoName ab_NoName co_NoName dd_NoName ka_NoName kb_NoName kc_NoName kd_NoName ke_NoName ni_NoName))
  (lN_NoName:K.lookup N_NoName=some ⟨cn_NoName,dn_NoName,.dict es_NoName ep_NoName,sk_NoName⟩)
  (sB_NoName:skB es_NoName=true)
  (kC_NoName:W.keepIn K (.ref C_NoName)=true)
  (bC_Twice:K.lookup C_Twice=some (excClassObj nm_Twice qn_Twice C_Twice N_Twice bs_Twice bm_Twice hd_Twice sn_Twice sb_Twice ab_Twice co_Twice dd_Twice ka_Twice kb_Twice kc_Twice kd_Twice ke_Twice ni_Twice))
  (lN_Twice:K.lookup N_Twice=some ⟨cn_Twice,dn_Twice,.dict es_Twice ep_Twice,sk_Twice⟩)
  (sB_Twice:skB es_Twice=true)
  (kC_Twice:W.keepIn K (.ref C_Twice)=true)
  (bC_NoDay:K.lookup C_NoDay=some (excClassObj nm_NoDay qn_NoDay C_NoDay N_NoDay bs_NoDay bm_NoDay hd_NoDay sn_NoDay sb_NoDay ab_NoDay co_NoDay dd_NoDay ka_NoDay kb_NoDay kc_NoDay kd_NoDay ke_NoDay ni_NoDay))
  (lN_NoDay:K.lookup N_NoDay=some ⟨cn_NoDay,dn_NoDay,.dict es_NoDay ep_NoDay,sk_NoDay⟩)
  (sB_NoDay:skB es_NoDay=true)
  (kC_NoDay:W.keepIn K (.ref C_NoDay)=true)
  (bC_NoAct:K.lookup C_NoAct=some (excClassObj nm_NoAct qn_NoAct C_NoAct N_NoAct bs_NoAct bm_NoAct hd_NoAct sn_NoAct sb_NoAct ab_NoAct co_NoAct dd_NoAct ka_NoAct kb_NoAct kc_NoAct kd_NoAct ke_NoAct ni_NoAct))
  (lN_NoAct:K.lookup N_NoAct=some ⟨cn_NoAct,dn_NoAct,.dict es_NoAct ep_NoAct,sk_NoAct⟩)
  (sB_NoAct:skB es_NoAct=true)
  (kC_NoAct:W.keepIn K (.ref C_NoAct)=true)
  (iB:W.nsIn K N_MendError "__init__"=some none)
  (B1:W.specialIn K (.ref C_MendError) "__getattribute__"=some (some (.builtin "type.__getattribute__")))
  (B2:W.readsIn K C_MendError (.type "type")=true)
  (B3:W.findCls K (.ref C_MendError) (.type "type") "__init__"=some (.val (.builtin "ValueError.__init__")))
  (mbM:W.mroIn K C_MendError (.type "BaseException")=some true)
  (eb_NoName:bm_NoName=.ref C_MendError :: vbm)
  (en_NoName:ni_NoName="ValueError.__new__")
  (ga_NoName:W.findIn K (.ref C_NoName) "__getattribute__"=some (some (.builtin "BaseException.__getattribute__")))
  (gr_NoName:W.findIn K (.ref C_NoName) "__getattr__"=some none)
  (mb_NoName:W.mroIn K C_NoName (.type "BaseException")=some true)
  (ha_NoName:W.findIn K (.ref C_NoName) "__class__"=some (some (.builtin "object.__class__")))
  (hm_NoName:W.mroIn K C_NoName (.type "object")=some true)
  (mM_NoName:W.mroIn K C_NoName (.ref C_MendError)=some true)
  (mV_NoName:W.mroIn K C_NoName (.type "ValueError")=some true)
  (iN_NoName:W.nsIn K N_NoName "__init__"=some none)
  (mA_NoName:W.mroIn K C_NoName (.ref C_NoAct)=some false)
  (q_NoName_NoFit:W.mroIn K C_NoName (.ref C_NoFit)=some false)
  (r_NoName_NoFit:(Value.ref C_NoName == Value.ref C_NoFit)=false)
  (q_NoName_NoPlace:W.mroIn K C_NoName (.ref C_NoPlace)=some false)
  (r_NoName_NoPlace:(Value.ref C_NoName == Value.ref C_NoPlace)=false)
  (q_NoName_NoRow:W.mroIn K C_NoName (.ref C_NoRow)=some false)
  (r_NoName_NoRow:(Value.ref C_NoName == Value.ref C_NoRow)=false)
  (q_NoName_NoText:W.mroIn K C_NoName (.ref C_NoText)=some false)
  (r_NoName_NoText:(Value.ref C_NoName == Value.ref C_NoText)=false)
  (q_NoName_Twice:W.mroIn K C_NoName (.ref C_Twice)=some false)
  (r_NoName_Twice:(Value.ref C_NoName == Value.ref C_Twice)=false)
  (q_NoName_NoDay:W.mroIn K C_NoName (.ref C_NoDay)=some false)
  (r_NoName_NoDay:(Value.ref C_NoName == Value.ref C_NoDay)=false)
  (q_NoName_NoAct:W.mroIn K C_NoName (.ref C_NoAct)=some false)
  (r_NoName_NoAct:(Value.ref C_NoName == Value.ref C_NoAct)=false)
  (eb_Twice:bm_Twice=.ref C_MendError :: vbm)
  (en_Twice:ni_Twice="ValueError.__new__")
  (ga_Twice:W.findIn K (.ref C_Twice) "__getattribute__"=some (some (.builtin "BaseException.__getattribute__")))
  (gr_Twice:W.findIn K (.ref C_Twice) "__getattr__"=some none)
  (mb_Twice:W.mroIn K C_Twice (.type "BaseException")=some true)
  (ha_Twice:W.findIn K (.ref C_Twice) "__class__"=some (some (.builtin "object.__class__")))
  (hm_Twice:W.mroIn K C_Twice (.type "object")=some true)
  (mM_Twice:W.mroIn K C_Twice (.ref C_MendError)=some true)
  (mV_Twice:W.mroIn K C_Twice (.type "ValueError")=some true)
  (iN_Twice:W.nsIn K N_Twice "__init__"=some none)
  (mA_Twice:W.mroIn K C_Twice (.ref C_NoAct)=some false)
  (q_Twice_NoFit:W.mroIn K C_Twice (.ref C_NoFit)=some false)
  (r_Twice_NoFit:(Value.ref C_Twice == Value.ref C_NoFit)=false)
  (q_Twice_NoPlace:W.mroIn K C_Twice (.ref C_NoPlace)=some false)
  (r_Twice_NoPlace:(Value.ref C_Twice == Value.ref C_NoPlace)=false)
  (q_Twice_NoRow:W.mroIn K C_Twice (.ref C_NoRow)=some false)
  (r_Twice_NoRow:(Value.ref C_Twice == Value.ref C_NoRow)=false)
  (q_Twice_NoText:W.mroIn K C_Twice (.ref C_NoText)=some false)
  (r_Twice_NoText:(Value.ref C_Twice == Value.ref C_NoText)=false)
  (q_Twice_NoName:W.mroIn K C_Twice (.ref C_NoName)=some false)
  (r_Twice_NoName:(Value.ref C_Twice == Value.ref C_NoName)=false)
  (q_Twice_NoDay:W.mroIn K C_Twice (.ref C_NoDay)=some false)
  (r_Twice_NoDay:(Value.ref C_Twice == Value.ref C_NoDay)=false)
  (q_Twice_NoAct:W.mroIn K C_Twice (.ref C_NoAct)=some false)
  (r_Twice_NoAct:(Value.ref C_Twice == Value.ref C_NoAct)=false)
  (eb_NoDay:bm_NoDay=.ref C_MendError :: vbm)
  (en_NoDay:ni_NoDay="ValueError.__new__")
  (ga_NoDay:W.findIn K (.ref C_NoDay) "__getattribute__"=some (some (.builtin "BaseException.__getattribute__")))
  (gr_NoDay:W.findIn K (.ref C_NoDay) "__getattr__"=some none)
  (mb_NoDay:W.mroIn K C_NoDay (.type "BaseException")=some true)
  (ha_NoDay:W.findIn K (.ref C_NoDay) "__class__"=some (some (.builtin "object.__class__")))
  (hm_NoDay:W.mroIn K C_NoDay (.type "object")=some true)
  (mM_NoDay:W.mroIn K C_NoDay (.ref C_MendError)=some true)
  (mV_NoDay:W.mroIn K C_NoDay (.type "ValueError")=some true)
  (iN_NoDay:W.nsIn K N_NoDay "__init__"=some none)
  (mA_NoDay:W.mroIn K C_NoDay (.ref C_NoAct)=some false)
  (q_NoDay_NoFit:W.mroIn K C_NoDay (.ref C_NoFit)=some false)
  (r_NoDay_NoFit:(Value.ref C_NoDay == Value.ref C_NoFit)=false)
  (q_NoDay_NoPlace:W.mroIn K C_NoDay (.ref C_NoPlace)=some false)
  (r_NoDay_NoPlace:(Value.ref C_NoDay == Value.ref C_NoPlace)=false)
  (q_NoDay_NoRow:W.mroIn K C_NoDay (.ref C_NoRow)=some false)
  (r_NoDay_NoRow:(Value.ref C_NoDay == Value.ref C_NoRow)=false)
  (q_NoDay_NoText:W.mroIn K C_NoDay (.ref C_NoText)=some false)
  (r_NoDay_NoText:(Value.ref C_NoDay == Value.ref C_NoText)=false)
  (q_NoDay_NoName:W.mroIn K C_NoDay (.ref C_NoName)=some false)
  (r_NoDay_NoName:(Value.ref C_NoDay == Value.ref C_NoName)=false)
  (q_NoDay_Twice:W.mroIn K C_NoDay (.ref C_Twice)=some false)
  (r_NoDay_Twice:(Value.ref C_NoDay == Value.ref C_Twice)=false)
  (q_NoDay_NoAct:W.mroIn K C_NoDay (.ref C_NoAct)=some false)
  (r_NoDay_NoAct:(Value.ref C_NoDay == Value.ref C_NoAct)=false)
  (eb_NoAct:bm_NoAct=.ref C_MendError :: vbm)
  (en_NoAct:ni_NoAct="ValueError.__new__")
  (ga_NoAct:W.findIn K (.ref C_NoAct) "__getattribute__"=some (some (.builtin "BaseException.__getattribute__")))
  (gr_NoAct:W.findIn K (.ref C_NoAct) "__getattr__"=some none)
  (mb_NoAct:W.mroIn K C_NoAct (.type "BaseException")=some true)
  (ha_NoAct:W.findIn K (.ref C_NoAct) "__class__"=some (some (.builtin "object.__class__")))
  (hm_NoAct:W.mroIn K C_NoAct (.type "object")=some true)
  (mM_NoAct:W.mroIn K C_NoAct (.ref C_MendError)=some true)
  (mV_NoAct:W.mroIn K C_NoAct (.type "ValueError")=some true)
  (mA_NoAct:W.mroIn K C_NoAct (.ref C_NoAct)=some true)
  (q_NoAct_NoFit:W.mroIn K C_NoAct (.ref C_NoFit)=some false)
  (r_NoAct_NoFit:(Value.ref C_NoAct == Value.ref C_NoFit)=false)
  (q_NoAct_NoPlace:W.mroIn K C_NoAct (.ref C_NoPlace)=some false)
  (r_NoAct_NoPlace:(Value.ref C_NoAct == Value.ref C_NoPlace)=false)
  (q_NoAct_NoRow:W.mroIn K C_NoAct (.ref C_NoRow)=some false)
  (r_NoAct_NoRow:(Value.ref C_NoAct == Value.ref C_NoRow)=false)
  (q_NoAct_NoText:W.mroIn K C_NoAct (.ref C_NoText)=some false)
  (r_NoAct_NoText:(Value.ref C_NoAct == Value.ref C_NoText)=false)
  (q_NoAct_NoName:W.mroIn K C_NoAct (.ref C_NoName)=some false)
  (r_NoAct_NoName:(Value.ref C_NoAct == Value.ref C_NoName)=false)
  (q_NoAct_Twice:W.mroIn K C_NoAct (.ref C_Twice)=some false)
  (r_NoAct_Twice:(Value.ref C_NoAct == Value.ref C_Twice)=false)
  (q_NoAct_NoDay:W.mroIn K C_NoAct (.ref C_NoDay)=some false)
  (r_NoAct_NoDay:(Value.ref C_NoAct == Value.ref C_NoDay)=false)
  (iI_NoAct:W.nsIn K N_NoAct "__init__"=some (some (.ref j_NoAct)))
  (lI_NoAct:K.lookup j_NoAct=some ⟨.type "function",jd_NoAct,.func (W.fnOf "__init__" "NoAct.__init__" (za3 zbC) (zaO zbC) (zk zbC) .none jk_NoAct jo_NoAct jm_NoAct jn_NoAct je_NoAct jt_NoAct),js_NoAct⟩)
  (cI_NoAct:W.codeIn K je_NoAct "NoAct.__init__"=true)
  (kI_NoAct:W.keepIn K (.ref j_NoAct)=true)
  (sa_NoAct:W.findIn K (.ref C_NoAct) "__setattr__"=some (some (.builtin "object.__setattr__")))
  (na_NoAct:W.findIn K (.ref C_NoAct) "name"=some none)
  (xm_NoAct:hd_NoAct=true)
  :
  ∃ fd:FuncData,(∀ (s:Shared) (v:Value),BindsTo s fd ⟨[v],[]⟩ [("_law_script",v)])/\∀ base:Heap,K.In base->base.Ns mainGlobals mg->FnOk l.prog w K mg base CX0 9 fa fd ["_law_script"] (zij K zgq):=by
 subst e1; subst e2
 have d1:=D1.df X G ["text","signs"] <| ar2 fun _ _ _ _ _ _ _ _=>rfl
 have d2:=D2.df X G ["deeds"] <| ar1 fun _ _ _ _ _ _ _=>rfl
 have d3:=D3.df X G ["_law_script","_law_k"] <| ar2 fun _ _ _ _ _ _ _ _=>rfl
 have d4:=D4.df X G ["_law_cell"] <| ar1 fun _ _ _ _ _ _ _=>rfl
 have d5:=D5.df X G ["_law_cell"] <| ar1 fun _ _ _ _ _ _ _=>rfl
 have d6:=D6.df X G ["_law_e"] <| ar1 fun _ _ _ _ _ _ _=>rfl
 have d7:=D7.df X G ["_law_found","_law_kind_here"] <| ar2 fun _ _ _ _ _ _ _ _=>rfl
 have d8:=D8.df X G ["_law_cell"] <| ar1 fun _ _ _ _ _ _ _=>rfl
 have d9:=D9.df X G ["thing"] <| ar1 fun _ _ _ _ _ _ _=>rfl
 have d10:=D10.df X G ["_law_cell","_law_k","_law_day","_law_names_here"] <| ar4 fun _ _ _ _ _ _ _ _ _ _=>rfl
 have d11:=D11.df X G ["_law_found","_law_deed_here"] <| ar2 fun _ _ _ _ _ _ _ _=>rfl
 have d12:=D12.df X G ["_law_script","_law_names_here"] <| ar2 fun _ _ _ _ _ _ _ _=>rfl
 have d13:=D13.df X G ["_law_kind_here"] <| ar1 fun _ _ _ _ _ _ _=>rfl
 have d14:=D14.df X G ["_law_found","_law_acts_here"] <| ar2 fun _ _ _ _ _ _ _ _=>rfl
 have d15:=D15.df X G ["_law_deed_here"] <| ar1 fun _ _ _ _ _ _ _=>rfl
 have d16:=D16.df X G ["_law_book","_law_act"] <| ar2 fun _ _ _ _ _ _ _ _=>rfl
 have d17:=D17.df X G ["_law_book","_law_act"] <| ar2 fun _ _ _ _ _ _ _ _=>rfl
 have d18:=D18.df X G ["_law_book","_law_act","_law_which","_law_name"] <| ar4 fun _ _ _ _ _ _ _ _ _ _=>rfl
 have d19:=D19.df X G ["_law_book","_law_acts_here","_law_day","_law_cell","_law_names_here"] <| ar5 fun _ _ _ _ _ _ _ _ _ _ _=>rfl
 have F20:=zck (st:=zea) l20 c20 k20; have m20:=W.mg_of X G a20
 have b20:=F20.binds (ps:=["_law_script"]) <| ar1 fun _ _ _ _ _ _ _=>rfl
 have d20:Df K mg "law" zea ["_law_script"]:=⟨f20,_,F20,b20,m20⟩
 have z_ValueError:=W.mg_none_of X G z1; have z_all:=W.mg_none_of X G z2; have z_int:=W.mg_none_of X G z3; have z_isinstance:=W.mg_none_of X G z4; have z_len:=W.mg_none_of X G z5; have z_list:=W.mg_none_of X G z6; have z_range:=W.mg_none_of X G z7; have z_str:=W.mg_none_of X G z8; have z_tuple:=W.mg_none_of X G z9; have z_zip:=W.mg_none_of X G z10; have g_LONGEST_NAME:=W.mg_of X G g1; have g_SMALL_LETTERS:=W.mg_of X G g2; have m_Book:=W.mg_of X G aC_Book
 have cl_Book:Cls K C_Book:=⟨pg_Book,hdC_Book,po_Book,sa_Book⟩
 have FI_Book:=zck (st:=zbV) lI_Book cI_Book kI_Book
 have bI_Book:=FI_Book.binds (ps:=["self","tree"]) <| ar2 fun _ _ _ _ _ _ _ _=>rfl
 have m_Swap:=W.mg_of X G aC_Swap
 have cl_Swap:Cls K C_Swap:=⟨pg_Swap,hdC_Swap,po_Swap,sa_Swap⟩
 have FI_Swap:=zck (st:=zbT) lI_Swap cI_Swap kI_Swap
 have bI_Swap:=FI_Swap.binds (ps:=["self","place","old","new"]) <| ar4 fun _ _ _ _ _ _ _ _ _ _=>rfl
 have m_Read:=W.mg_of X G aC_Read
 have cl_Read:Cls K C_Read:=⟨pg_Read,hdC_Read,po_Read,sa_Read⟩
 have FI_Read:=zck (st:=zbU) lI_Read cI_Read kI_Read
 have bI_Read:=FI_Read.binds (ps:=["self","place","words"]) <| ar3 fun _ _ _ _ _ _ _ _ _=>rfl
 have m_PutIn:=W.mg_of X G aC_PutIn
 have cl_PutIn:Cls K C_PutIn:=⟨pg_PutIn,hdC_PutIn,po_PutIn,sa_PutIn⟩
 have FI_PutIn:=zck (st:=zbB) lI_PutIn cI_PutIn kI_PutIn
 have bI_PutIn:=FI_PutIn.binds (ps:=["self","place","node"]) <| ar3 fun _ _ _ _ _ _ _ _ _=>rfl
 have m_LeaveOut:=W.mg_of X G aC_LeaveOut
 have cl_LeaveOut:Cls K C_LeaveOut:=⟨pg_LeaveOut,hdC_LeaveOut,po_LeaveOut,sa_LeaveOut⟩
 have FI_LeaveOut:=zck (st:=za2) lI_LeaveOut cI_LeaveOut kI_LeaveOut
 have bI_LeaveOut:=FI_LeaveOut.binds (ps:=["self","place"]) <| ar2 fun _ _ _ _ _ _ _ _=>rfl
 have m_Anew:=W.mg_of X G aC_Anew
 have cl_Anew:Cls K C_Anew:=⟨pg_Anew,hdC_Anew,po_Anew,sa_Anew⟩
 have FI_Anew:=zck (st:=zbW) lI_Anew cI_Anew kI_Anew
 have bI_Anew:=FI_Anew.binds (ps:=["self","place"]) <| ar2 fun _ _ _ _ _ _ _ _=>rfl
 have FI_Book_first:=zck (st:=zbD) lI_Book_first cI_Book_first kI_Book_first
 have bI_Book_first:=FI_Book_first.binds (ps:=["self"]) <| ar1 fun _ _ _ _ _ _ _=>rfl
 have FI_Book_acts:=zck (st:=zaZ) lI_Book_acts cI_Book_acts kI_Book_acts
 have bI_Book_acts:=FI_Book_acts.binds (ps:=["self"]) <| ar1 fun _ _ _ _ _ _ _=>rfl
 have FI_Book_refuse_act:=zck (st:=zac) lI_Book_refuse_act cI_Book_refuse_act kI_Book_refuse_act
 have bI_Book_refuse_act:=FI_Book_refuse_act.binds (ps:=["self","name","day","named"]) <| ar4 fun _ _ _ _ _ _ _ _ _ _=>rfl
 have FI_Book_act:=zck (st:=zbE) lI_Book_act cI_Book_act kI_Book_act
 have bI_Book_act:=FI_Book_act.binds (ps:=["self","name","day","deeds"]) <| ar4 fun _ _ _ _ _ _ _ _ _ _=>rfl
 have FI_Book_back:=zck (st:=zbj) lI_Book_back cI_Book_back kI_Book_back
 have bI_Book_back:=FI_Book_back.binds (ps:=["self","name","day","other"]) <| ar4 fun _ _ _ _ _ _ _ _ _ _=>rfl
 subst eb_NoName en_NoName eb_Twice en_Twice eb_NoDay en_NoDay eb_NoAct en_NoAct xm_NoAct
 have m_MendError:=W.mg_of X G aC_MendError; have m_NoPlace:=W.mg_of X G aC_NoPlace; have m_NoText:=W.mg_of X G aC_NoText; have m_NoFit:=W.mg_of X G aC_NoFit; have m_NoName:=W.mg_of X G aC_NoName; have m_Twice:=W.mg_of X G aC_Twice; have m_NoDay:=W.mg_of X G aC_NoDay; have m_NoAct:=W.mg_of X G aC_NoAct; have m_NoRow:=W.mg_of X G aC_NoRow
 have B:BIn K C_MendError:=⟨B1,B2,B3⟩
 have xcl_NoName:=zgY bC_NoName bC_MendError lN_MendError sB_MendError iB kC_NoName
 have xget_NoName:X1.XGet K C_NoName:=⟨ga_NoName,gr_NoName,mb_NoName⟩
 have xis_NoName:X1.XIs K C_NoName:=⟨xget_NoName,zdy hdC_NoName,ha_NoName,hn,htk,hm_NoName⟩
 have Z_NoName:Xc0 K mg "NoName" C_NoName:=⟨N_NoName,_,xcl_NoName,⟨fun h X=>⟨_,zem lN_NoName sB_NoName X,zfZ lN_NoName iN_NoName⟩⟩,m_NoName⟩
 have xcl_Twice:=zgY bC_Twice bC_MendError lN_MendError sB_MendError iB kC_Twice
 have xget_Twice:X1.XGet K C_Twice:=⟨ga_Twice,gr_Twice,mb_Twice⟩
 have xis_Twice:X1.XIs K C_Twice:=⟨xget_Twice,zdy hdC_Twice,ha_Twice,hn,htk,hm_Twice⟩
 have Z_Twice:Xc0 K mg "Twice" C_Twice:=⟨N_Twice,_,xcl_Twice,⟨fun h X=>⟨_,zem lN_Twice sB_Twice X,zfZ lN_Twice iN_Twice⟩⟩,m_Twice⟩
 have xcl_NoDay:=zgY bC_NoDay bC_MendError lN_MendError sB_MendError iB kC_NoDay
 have xget_NoDay:X1.XGet K C_NoDay:=⟨ga_NoDay,gr_NoDay,mb_NoDay⟩
 have xis_NoDay:X1.XIs K C_NoDay:=⟨xget_NoDay,zdy hdC_NoDay,ha_NoDay,hn,htk,hm_NoDay⟩
 have Z_NoDay:Xc0 K mg "NoDay" C_NoDay:=⟨N_NoDay,_,xcl_NoDay,⟨fun h X=>⟨_,zem lN_NoDay sB_NoDay X,zfZ lN_NoDay iN_NoDay⟩⟩,m_NoDay⟩
 have xcl_NoAct:=zgY bC_NoAct bC_MendError lN_MendError sB_MendError iB kC_NoAct
 have xget_NoAct:X1.XGet K C_NoAct:=⟨ga_NoAct,gr_NoAct,mb_NoAct⟩
 have xis_NoAct:X1.XIs K C_NoAct:=⟨xget_NoAct,zdy hdC_NoAct,ha_NoAct,hn,htk,hm_NoAct⟩
 have xin_NoAct:=zn1 lN_NoAct sB_NoAct iI_NoAct lI_NoAct
 have xfl_NoAct:XFl K C_NoAct:=⟨xget_NoAct,hdC_NoAct⟩
 have xset_NoAct:X1.XSet K C_NoAct:=⟨sa_NoAct,zn2 bC_NoAct,hm_NoAct⟩
 have FI_NoAct:=zck (st:=zbC) lI_NoAct cI_NoAct kI_NoAct
 have bI_NoAct:=FI_NoAct.binds (ps:=["self","name"]) <| ar2 fun _ _ _ _ _ _ _ _=>rfl
 have cf:CF K ⟨C_Book,C_Swap,C_Read,C_PutIn,C_LeaveOut,C_Anew,C_MendError,C_NoPlace,C_NoText,C_NoFit,C_NoName,C_Twice,C_NoDay,C_NoAct,C_NoRow⟩:=⟨(fun v hv=>match v,hv with | 0,_=>xis_NoName | 1,_=>xis_Twice | 2,_=>xis_NoDay | 3,_=>xis_NoAct),(fun v u hv hu=>match v,u,hv,hu with | 0,0,_,_=>zb6 | 0,1,_,_=>zaP hdC_Twice ty_Twice q_NoName_Twice (.inr r_NoName_Twice) | 0,2,_,_=>zaP hdC_NoDay ty_NoDay q_NoName_NoDay (.inr r_NoName_NoDay) | 0,3,_,_=>zaP hdC_NoAct ty_NoAct q_NoName_NoAct (.inr r_NoName_NoAct) | 1,0,_,_=>zaP hdC_NoName ty_NoName q_Twice_NoName (.inr r_Twice_NoName) | 1,1,_,_=>zb6 | 1,2,_,_=>zaP hdC_NoDay ty_NoDay q_Twice_NoDay (.inr r_Twice_NoDay) | 1,3,_,_=>zaP hdC_NoAct ty_NoAct q_Twice_NoAct (.inr r_Twice_NoAct) | 2,0,_,_=>zaP hdC_NoName ty_NoName q_NoDay_NoName (.inr r_NoDay_NoName) | 2,1,_,_=>zaP hdC_Twice ty_Twice q_NoDay_Twice (.inr r_NoDay_Twice) | 2,2,_,_=>zb6 | 2,3,_,_=>zaP hdC_NoAct ty_NoAct q_NoDay_NoAct (.inr r_NoDay_NoAct) | 3,0,_,_=>zaP hdC_NoName ty_NoName q_NoAct_NoName (.inr r_NoAct_NoName) | 3,1,_,_=>zaP hdC_Twice ty_Twice q_NoAct_Twice (.inr r_NoAct_Twice) | 3,2,_,_=>zaP hdC_NoDay ty_NoDay q_NoAct_NoDay (.inr r_NoAct_NoDay) | 3,3,_,_=>zb6),(fun v hv=>match v,hv with | 0,_=>zaT (zaP hdC_NoFit ty_NoFit q_NoName_NoFit (.inr r_NoName_NoFit)) (zaT (zaP hdC_NoPlace ty_NoPlace q_NoName_NoPlace (.inr r_NoName_NoPlace)) (zaT (zaP hdC_NoRow ty_NoRow q_NoName_NoRow (.inr r_NoName_NoRow)) (zaT (zaP hdC_NoText ty_NoText q_NoName_NoText (.inr r_NoName_NoText)) (rfl)))) | 1,_=>zaT (zaP hdC_NoFit ty_NoFit q_Twice_NoFit (.inr r_Twice_NoFit)) (zaT (zaP hdC_NoPlace ty_NoPlace q_Twice_NoPlace (.inr r_Twice_NoPlace)) (zaT (zaP hdC_NoRow ty_NoRow q_Twice_NoRow (.inr r_Twice_NoRow)) (zaT (zaP hdC_NoText ty_NoText q_Twice_NoText (.inr r_Twice_NoText)) (rfl)))) | 2,_=>zaT (zaP hdC_NoFit ty_NoFit q_NoDay_NoFit (.inr r_NoDay_NoFit)) (zaT (zaP hdC_NoPlace ty_NoPlace q_NoDay_NoPlace (.inr r_NoDay_NoPlace)) (zaT (zaP hdC_NoRow ty_NoRow q_NoDay_NoRow (.inr r_NoDay_NoRow)) (zaT (zaP hdC_NoText ty_NoText q_NoDay_NoText (.inr r_NoDay_NoText)) (rfl)))) | 3,_=>zaT (zaP hdC_NoFit ty_NoFit q_NoAct_NoFit (.inr r_NoAct_NoFit)) (zaT (zaP hdC_NoPlace ty_NoPlace q_NoAct_NoPlace (.inr r_NoAct_NoPlace)) (zaT (zaP hdC_NoRow ty_NoRow q_NoAct_NoRow (.inr r_NoAct_NoRow)) (zaT (zaP hdC_NoText ty_NoText q_NoAct_NoText (.inr r_NoAct_NoText)) (rfl))))),(fun v hv=>match v,hv with | 0,_=>zho rfl mV_NoName | 1,_=>zho rfl mV_Twice | 2,_=>zho rfl mV_NoDay | 3,_=>zho rfl mV_NoAct),(fun v hv=>match v,hv with | 0,_=>zdU hdC_NoAct ty_NoAct mb_NoAct mA_NoName | 1,_=>zdU hdC_NoAct ty_NoAct mb_NoAct mA_Twice | 2,_=>zdU hdC_NoAct ty_NoAct mb_NoAct mA_NoDay | 3,_=>zdU hdC_NoAct ty_NoAct mb_NoAct mA_NoAct),(fun v hv=>match v,hv with | 0,_=>zdU hdC_MendError ty_MendError mbM mM_NoName | 1,_=>zdU hdC_MendError ty_MendError mbM mM_Twice | 2,_=>zdU hdC_MendError ty_MendError mbM mM_NoDay | 3,_=>zdU hdC_MendError ty_MendError mbM mM_NoAct),xfl_NoAct,na_NoAct,cl_Book,n_Book_tree,n_Book_past,⟨cl_Read,ha_Read,hn,htk,hm_Read⟩,⟨cl_Swap,ha_Swap,hn,htk,hm_Swap⟩,⟨cl_PutIn,ha_PutIn,hn,htk,hm_PutIn⟩,⟨cl_LeaveOut,ha_LeaveOut,hn,htk,hm_LeaveOut⟩,⟨cl_Anew,ha_Anew,hn,htk,hm_Anew⟩,n_Read_place,n_Read_words,n_Swap_place,n_Swap_old,n_Swap_new,n_PutIn_place,n_PutIn_node,n_LeaveOut_place,n_Anew_place,zb6,zb6,zb6,zb6,zb6⟩
 have e:=hfa.symm.trans m20; cases e
 refine ⟨W.fnOf "law" "law" (za3 zea) (zaO zea) (zk zea) .none kV20 dc20 pm20 an20 cd20 ct20,fun s v=>.of_eq rfl,fun base _ _=>?_⟩
 have M_Book:MakB l.prog w K mg base 1 "Book" C_Book "tree" "past":=⟨j_Book,_,["self","tree"],⟨mk_Book,aI_Book,iI_Book,kc_Book⟩,zjo FI_Book cl_Book n_Book_tree n_Book_past,bI_Book,m_Book⟩
 have M_Swap:Mak l.prog w K mg base 1 "Swap" C_Swap ["place","old","new"]:=⟨j_Swap,_,["self","place","old","new"],⟨mk_Swap,aI_Swap,iI_Swap,kc_Swap⟩,zjm FI_Swap cl_Swap n_Swap_place n_Swap_old n_Swap_new,bI_Swap,m_Swap⟩
 have M_Read:Mak l.prog w K mg base 1 "Read" C_Read ["place","words"]:=⟨j_Read,_,["self","place","words"],⟨mk_Read,aI_Read,iI_Read,kc_Read⟩,zjn FI_Read cl_Read n_Read_place n_Read_words,bI_Read,m_Read⟩
 have M_PutIn:Mak l.prog w K mg base 1 "PutIn" C_PutIn ["place","node"]:=⟨j_PutIn,_,["self","place","node"],⟨mk_PutIn,aI_PutIn,iI_PutIn,kc_PutIn⟩,zia FI_PutIn cl_PutIn n_PutIn_place n_PutIn_node,bI_PutIn,m_PutIn⟩
 have M_LeaveOut:Mak l.prog w K mg base 1 "LeaveOut" C_LeaveOut ["place"]:=⟨j_LeaveOut,_,["self","place"],⟨mk_LeaveOut,aI_LeaveOut,iI_LeaveOut,kc_LeaveOut⟩,zfn FI_LeaveOut cl_LeaveOut n_LeaveOut_place,bI_LeaveOut,m_LeaveOut⟩
 have M_Anew:Mak l.prog w K mg base 1 "Anew" C_Anew ["place"]:=⟨j_Anew,_,["self","place"],⟨mk_Anew,aI_Anew,iI_Anew,kc_Anew⟩,zjp FI_Anew cl_Anew n_Anew_place,bI_Anew,m_Anew⟩
 have X_NoAct:XcI l.prog w K mg base 1 "NoAct" C_NoAct "name" okv_NoAct:=⟨N_NoAct,j_NoAct,_,_,["self","name"],xcl_NoAct,xin_NoAct,zib FI_NoAct B m_MendError xcl_NoAct xset_NoAct na_NoAct,bI_NoAct,m_NoAct⟩
 have G_has_only:Fn l.prog w K mg base 1 "has_only" ["text","signs"] zcx:=zgJ d1 z_all
 have G_named_in:Fn l.prog w K mg base 1 "named_in" ["deeds"] zct:=zgE d2 
 have G_law_cell_at:Fn l.prog w K mg base 1 "_law_cell_at" ["_law_script","_law_k"] zba:=zeG d3 z_len
 have G_law_names:Fn l.prog w K mg base 1 "_law_names" ["_law_cell"] zcI:=zfV d4 z_int z_range
 have G_law_kind:Fn l.prog w K mg base 1 "_law_kind" ["_law_cell"] zcu:=zgG d5 z_str
 have G_law_kinds:FnU l.prog w K mg base 1 "_law_kinds" ["_law_e"] (zcJ ⟨C_Book,C_Swap,C_Read,C_PutIn,C_LeaveOut,C_Anew,C_MendError,C_NoPlace,C_NoText,C_NoFit,C_NoName,C_Twice,C_NoDay,C_NoAct,C_NoRow⟩):=zfW d6 cf z_ValueError z_isinstance m_NoAct m_NoDay m_NoFit m_NoName m_NoPlace m_NoRow m_NoText m_Twice
 have G_law_same_change:Fn l.prog w K mg base 1 "_law_same_change" ["_law_found","_law_kind_here"] (zbK ⟨C_Book,C_Swap,C_Read,C_PutIn,C_LeaveOut,C_Anew,C_MendError,C_NoPlace,C_NoText,C_NoFit,C_NoName,C_Twice,C_NoDay,C_NoAct,C_NoRow⟩):=zdt d7 cf z_isinstance m_Anew m_LeaveOut m_PutIn m_Read m_Swap
 have G_law_bad:Fn l.prog w K mg base 1 "_law_bad" ["_law_cell"] zdF:=zh0 d8 
 have M_Book_first:Mth l.prog w K mg base 1 C_Book "first" ["self"] (zcy ⟨C_Book,C_Swap,C_Read,C_PutIn,C_LeaveOut,C_Anew,C_MendError,C_NoPlace,C_NoText,C_NoFit,C_NoName,C_Twice,C_NoDay,C_NoAct,C_NoRow⟩):=zfi FI_Book_first bI_Book_first ⟨aM_Book_first,iM_Book_first,kI_Book_first⟩ cl_Book cf
 have M_Book_acts:Mth l.prog w K mg base 1 C_Book "acts" ["self"] (zcK ⟨C_Book,C_Swap,C_Read,C_PutIn,C_LeaveOut,C_Anew,C_MendError,C_NoPlace,C_NoText,C_NoFit,C_NoName,C_Twice,C_NoDay,C_NoAct,C_NoRow⟩):=zfX FI_Book_acts bI_Book_acts ⟨aM_Book_acts,iM_Book_acts,kI_Book_acts⟩ cl_Book cf z_list
 have G_is_name:Fn l.prog w K mg base 2 "is_name" ["thing"] zcW:=zh1 d9 G_has_only z_isinstance z_len z_str g_LONGEST_NAME g_SMALL_LETTERS
 have G_law_deed:Fn l.prog w K mg base 2 "_law_deed" ["_law_cell","_law_k","_law_day","_law_names_here"] zcv:=zgH d10 G_law_kind
 have G_law_same_deed:Fn l.prog w K mg base 2 "_law_same_deed" ["_law_found","_law_deed_here"] (zbt ⟨C_Book,C_Swap,C_Read,C_PutIn,C_LeaveOut,C_Anew,C_MendError,C_NoPlace,C_NoText,C_NoFit,C_NoName,C_Twice,C_NoDay,C_NoAct,C_NoRow⟩):=zdZ d11 cf G_law_same_change z_isinstance z_len z_tuple
 have G_law_acts:Fn l.prog w K mg base 3 "_law_acts" ["_law_script","_law_names_here"] zc7:=zgI d12 G_law_cell_at G_law_deed z_len z_range
 have G_law_change:Fn l.prog w K mg base 3 "_law_change" ["_law_kind_here"] (zcw ⟨C_Book,C_Swap,C_Read,C_PutIn,C_LeaveOut,C_Anew,C_MendError,C_NoPlace,C_NoText,C_NoFit,C_NoName,C_Twice,C_NoDay,C_NoAct,C_NoRow⟩):=zfg d13 cf M_Anew M_LeaveOut M_PutIn M_Read M_Swap
 have G_law_same:Fn l.prog w K mg base 3 "_law_same" ["_law_found","_law_acts_here"] (zc6 ⟨C_Book,C_Swap,C_Read,C_PutIn,C_LeaveOut,C_Anew,C_MendError,C_NoPlace,C_NoText,C_NoFit,C_NoName,C_Twice,C_NoDay,C_NoAct,C_NoRow⟩):=zgF d14 cf G_law_same_deed z_isinstance z_len z_list z_tuple z_zip
 have M_Book_refuse_act:Mth l.prog w K mg base 3 C_Book "refuse_act" ["self","name","day","named"] (sp_Book_refuse_act ⟨C_Book,C_Swap,C_Read,C_PutIn,C_LeaveOut,C_Anew,C_MendError,C_NoPlace,C_NoText,C_NoFit,C_NoName,C_Twice,C_NoDay,C_NoAct,C_NoRow⟩):=ok_Book_refuse_act FI_Book_refuse_act bI_Book_refuse_act ⟨aM_Book_refuse_act,iM_Book_refuse_act,kI_Book_refuse_act⟩ cl_Book cf G_is_name z_len
 have G_law_handed:Fn l.prog w K mg base 4 "_law_handed" ["_law_deed_here"] (zbL ⟨C_Book,C_Swap,C_Read,C_PutIn,C_LeaveOut,C_Anew,C_MendError,C_NoPlace,C_NoText,C_NoFit,C_NoName,C_Twice,C_NoDay,C_NoAct,C_NoRow⟩):=zff d15 cf G_law_change
 have M_Book_act:MthB l.prog w K mg base 4 C_Book "act" ["self","name","day","deeds"] (sp_Book_act ⟨C_Book,C_Swap,C_Read,C_PutIn,C_LeaveOut,C_Anew,C_MendError,C_NoPlace,C_NoText,C_NoFit,C_NoName,C_Twice,C_NoDay,C_NoAct,C_NoRow⟩):=ok_Book_act FI_Book_act bI_Book_act ⟨aM_Book_act,iM_Book_act,kI_Book_act⟩ cl_Book cf G_named_in z_tuple M_Book_refuse_act
 have M_Book_back:MthB l.prog w K mg base 4 C_Book "back" ["self","name","day","other"] (sp_Book_back ⟨C_Book,C_Swap,C_Read,C_PutIn,C_LeaveOut,C_Anew,C_MendError,C_NoPlace,C_NoText,C_NoFit,C_NoName,C_Twice,C_NoDay,C_NoAct,C_NoRow⟩):=ok_Book_back FI_Book_back bI_Book_back ⟨aM_Book_back,iM_Book_back,kI_Book_back⟩ cl_Book cf M_Book_refuse_act
 have MX_refuse:=K31X.ok_Book_refuse_act (T:=⟨C_Book,C_Swap,C_Read,C_PutIn,C_LeaveOut,C_Anew,C_MendError,C_NoPlace,C_NoText,C_NoFit,C_NoName,C_Twice,C_NoDay,C_NoAct,C_NoRow⟩) FI_Book_refuse_act bI_Book_refuse_act ⟨aM_Book_refuse_act,iM_Book_refuse_act,kI_Book_refuse_act⟩ cl_Book cf G_is_name z_len m_NoAct m_NoDay m_NoName m_Twice Z_NoDay Z_NoName Z_Twice X_NoAct; have MX_act:=K31X.ok_Book_act (T:=⟨C_Book,C_Swap,C_Read,C_PutIn,C_LeaveOut,C_Anew,C_MendError,C_NoPlace,C_NoText,C_NoFit,C_NoName,C_Twice,C_NoDay,C_NoAct,C_NoRow⟩) FI_Book_act bI_Book_act ⟨aM_Book_act,iM_Book_act,kI_Book_act⟩ cl_Book cf G_named_in MX_refuse; have MX_back:=K31X.ok_Book_back (T:=⟨C_Book,C_Swap,C_Read,C_PutIn,C_LeaveOut,C_Anew,C_MendError,C_NoPlace,C_NoText,C_NoFit,C_NoName,C_Twice,C_NoDay,C_NoAct,C_NoRow⟩) FI_Book_back bI_Book_back ⟨aM_Book_back,iM_Book_back,kI_Book_back⟩ cl_Book cf MX_refuse
 have W_acts:MthA l.prog w K mg base C_Book:=⟨_,_,zkp FI_Book_acts cl_Book n_Book_past z_list,bI_Book_acts,⟨aM_Book_acts,iM_Book_acts,kI_Book_acts⟩,cl_Book⟩
 have G_law_put:FnX l.prog w K mg base 5 "_law_put" ["_law_book","_law_act"] (zdE ⟨C_Book,C_Swap,C_Read,C_PutIn,C_LeaveOut,C_Anew,C_MendError,C_NoPlace,C_NoText,C_NoFit,C_NoName,C_Twice,C_NoDay,C_NoAct,C_NoRow⟩):=zhZ d16 cf G_law_handed MX_act MX_back
 have G_law_tried:Fn l.prog w K mg base 6 "_law_tried" ["_law_book","_law_act"] (zcH ⟨C_Book,C_Swap,C_Read,C_PutIn,C_LeaveOut,C_Anew,C_MendError,C_NoPlace,C_NoText,C_NoFit,C_NoName,C_Twice,C_NoDay,C_NoAct,C_NoRow⟩):=zfU d17 cf G_law_put G_law_kinds m_MendError m_NoAct
 have G_law_refused:Fn l.prog w K mg base 7 "_law_refused" ["_law_book","_law_act","_law_which","_law_name"] (zbo ⟨C_Book,C_Swap,C_Read,C_PutIn,C_LeaveOut,C_Anew,C_MendError,C_NoPlace,C_NoText,C_NoFit,C_NoName,C_Twice,C_NoDay,C_NoAct,C_NoRow⟩):=zeF d18 cf G_law_tried z_range
 have G_law_all_refused:Fn l.prog w K mg base 8 "_law_all_refused" ["_law_book","_law_acts_here","_law_day","_law_cell","_law_names_here"] (zbc ⟨C_Book,C_Swap,C_Read,C_PutIn,C_LeaveOut,C_Anew,C_MendError,C_NoPlace,C_NoText,C_NoFit,C_NoName,C_Twice,C_NoDay,C_NoAct,C_NoRow⟩):=zdu d19 cf G_law_refused G_law_bad z_len
 have G_law:Fn l.prog w K mg base 9 "law" ["_law_script"] (zlF ⟨C_Book,C_Swap,C_Read,C_PutIn,C_LeaveOut,C_Anew,C_MendError,C_NoPlace,C_NoText,C_NoFit,C_NoName,C_Twice,C_NoDay,C_NoAct,C_NoRow⟩):=zo1 (T:=⟨C_Book,C_Swap,C_Read,C_PutIn,C_LeaveOut,C_Anew,C_MendError,C_NoPlace,C_NoText,C_NoFit,C_NoName,C_Twice,C_NoDay,C_NoAct,C_NoRow⟩) d20 cf W_acts G_law_cell_at G_law_names G_law_acts G_law_handed G_law_same G_law_all_refused z_len z_range M_Book_act M_Book_acts M_Book_back M_Book_first M_Book
 exact zpd m20 l20 base G_law
end K31
namespace PySem.W.Fast
def tw3801522520256894957:=yy
def tw5357127175106251638:=yy
def tw4423115021963017432:=yy
def tw817347955347909859:=yy
def tw4836651514084244002:=yy
def tw911365572475947234:=yy
def tw16573119519768515533:=yy
def tw9193832723490006881:=yy
def tw5959275668261955878:=yy
def tw17072558966728548656:=yy
def tw16394288964796140342:=yy
def tw13402336619682185486:=yy
def tw9352890107853471647:=yy
def tw5362255055104207489:=yy
def tw14821171969965690060:=yy
def tw10006828401751725256:=yy
def tw11049023702644725020:=yy
def tw4840625263844902782:=yy
def tw10945162792223929623:=yy
def tw14761224068238539752:=yy
def tw4421724021085915125:=yy
def tw7271381279125056070:=yy
def tw1075222483515058157:=yy
def tw1150126098215159532:=yy
def tw11069803781357236330:=yy
def tw16362768890158300555:=yy
def tw10890580151534709438:=yy
def tw14067671065459827889:=yy
def tw7853215263319568014:=yy
def tw16123484259273235692:=yy
def tw12801373264473996314:=yy
def tw7783244740424362760:=yy
def tw2442967063409631529:=yy
def tw17513738936641962209:=yy
def tw10949912722827992645:=yy
def tw13192376821792460085:=yy
def tw8203141660568754175:=yy
def tw9918907148702276014:=yy
def tw1221329234308796556:=yy
def tw1745575408357589525:=yy
def tw10614933693698787591:=yy
def tw1110913622726751036:=yy
def tw16228653600188164933:=yy
def tw13395330893708624181:=yy
def tw5502220718344471074:=yy
def tw1162368419755057315:=yy
def tw7805178067389920304:=yy
def tw13158953964275959206:=yy
def tw14441887411850469289:=yy
def tw15474186730827316919:=yy
def tw2754110497232792804:=yy
def tw8090730201720796326:=yy
def tw1177049726569618112:=yy
def tw12305879002790879691:=yy
def tw6064218833508432008:=yy
def tw11619758588791214346:=yy
def tw10415770504280707465:=yy
def tw2533981615636529681:=yy
def tw5187916367230936821:=yy
def tw2380304158767955823:=yy
def tw5278339374362830217:=yy
def tw3994969138514879127:=yy
def tw6629171450065965015:=yy
def tw14449467610800770270:=yy
def tw3760713432557077429:=yy
def tw5568255454249142028:=yy
def tw11079928875372204655:=yy
def tw7936514252157699812:=yy
def tw10196783809137291418:=yy
def tw16205219385036741692:=yy
def tw17335857263065764195:=yy
def tw9728764769850428223:=yy
def tw15887932941166789377:=yy
def tw11287853394442502820:=yy
def tw5421395769961490309:=yy
def tw3637458237930002301:=yy
def tw15990819384026789830:=yy
def tw8255733533182399247:=yy
def tw8705671537819616249:=yy
def tw14621103577065766328:=yy
def tw17804926338351835594:=yy
def tw18314210117993362387:=yy
def tw4896428171666325698:=yy
def tw16987838796348447732:=yy
def tw14172035614246921406:=yy
def tw553120174037688239:=yy
def tw3314410527979900480:=yy
def tw7638002520550479644:=yy
def tw6328700385169198716:=yy
def tw13803263270648870417:=yy
def tw17733020910928372024:=yy
def tw12825119772251862288:=yy
def tw78520252068689047:=yy
def tw336062233668759105:=yy
def tw8895291496768221229:=yy
def tw7678355169414999629:=yy
def tw2389232892009865365:=yy
def tw17282757209110345872:=yy
def tw9156610722023766983:=yy
def tw16984443092010410763:=yy
def tw11200814557842849300:=yy
def tw14358204932758731494:=yy
def tw10469785491018029949:=yy
def tw2812348621461341407:=yy
def tw16479959375100824548:=yy
def tw15375270502984801591:=yy
def tw14520300101083551789:=yy
def tw1006834083285214080:=yy
def tw16086598216243480239:=yy
def tw14293879262885131694:=yy
def tw6690218017638553654:=yy
def tw4778779591881844408:=yy
def tw16745555553119113856:=yy
def tw10109580693727388841:=yy
def tw16799768913868023033:=yy
def tw14423183963196925650:=yy
def tw5979216528814608905:=yy
def tw4267180628455319969:=yy
def tw9350427902872025192:=yy
def tw10276600385565866111:=yy
def tw16843798257189313354:=yy
def tw1214949858316773030:=yy
def tw12544328512622740126:=yy
def tw13686561408807472370:=yy
def tw1448141123180981803:=yy
def tw18029431870227107936:=yy
def tw11322896726466297337:=yy
def tw11923638139392981833:=yy
def tw13283786656914282869:=yy
def tw14474133387981717449:=yy
def tw5690279500430406324:=yy
def tw16488646464765557122:=yy
def tw1097668151285803915:=yy
def tw17318100827598539209:=yy
def tw1100709670320580727:=yy
def tw11856204307600862915:=yy
def tw1711186929151050157:=yy
def tw2309613971739449002:=yy
def tw1146427864234708251:=yy
def tw3422227645920771004:=yy
def tw437632353446012233:=yy
def tw18315068235808358001:=yy
def tw4412668988020276765:=yy
def tw2230038086019885149:=yy
def tw2405677663334272434:=yy
def tw3597314864543930882:=yy
def tw344585736800696395:=yy
def tw12815649657920300244:=yy
def tw8864621315931186673:=yy
def tw7046830204152093590:=yy
def tw1886424639684145381:=yy
def tw8875114518795047796:=yy
def tw2341868947124195727:=yy
def tw6170191617334310827:=yy
def tw11162060126889057976:=yy
def tw5221082871991247577:=yy
def tw2712125301517809263:=yy
def tw15264249675794272956:=yy
def tw8369754917040005030:=yy
def tw12345174919921285954:=yy
def tw7168356751812983606:=yy
def tw12604119283605744337:=yy
def tw941296287890950400:=yy
def tw6196224193780888051:=yy
def tw4493827447333949184:=yy
def tw6861553635579745486:=yy
def tw9371837751312726315:=yy
def tw6216900339589446514:=yy
def tw15408535487305673020:=yy
def tw11739544541311221333:=yy
def tw5460007184281950530:=yy
def tw10422831780958210238:=yy
def tw9062610172195471199:=yy
def tw5829050310119899532:=yy
def tw577680514190593176:=yy
def tw12347345107516275551:=yy
def tw4791336756171916468:=yy
def tw9328899788275513000:=yy
def tw5444562972295278081:=yy
def tw6066341910292679967:=yy
def tw5288884475458696378:=yy
def tw16965671464870260208:=yy
def tw6071227827760256086:=yy
def tw15808955123372271507:=yy
def tw14652345113301999349:=yy
def tw17644424102838770479:=yy
def tw11140470892388829788:=yy
def tw9442907248207756103:=yy
def tw14149325321842959724:=yy
def tw13040077801681866895:=yy
def tw6406787386501717044:=yy
def tw4913114746232251249:=yy
def tw11070786491784314431:=yy
def tw17559716875590022633:=yy
def tw9127262730004250215:=yy
def tw11654352188364909126:=yy
def tw4893532733723575216:=yy
def tw8667251586742326054:=yy
def tw17932236067332446688:=yy
def tw10551464680353353874:=yy
def tw2155843902858765614:=yy
def tw7671652354997749383:=yy
def tw8872908973740043579:=yy
def tw5438470297953410452:=yy
def tw860265502997113467:=yy
def tw6090712939187552581:=yy
def tw4927375095684761335:=yy
def tw12060664700452646929:=yy
def tw1645015952415177044:=yy
def tw14326335223041426232:=yy
def tw12747719419633327279:=yy
def tw416590520715125720:=yy
def tw2602045788627406184:=yy
def tw13417055714879383066:=yy
def tw18080119708019845093:=yy
def tw14357810750874662824:=yy
def tw5427622702750131353:=yy
def tw3786859209718285544:=yy
def tw11706030940293089605:=yy
def tw12793557828483260416:=yy
def tw8381553103411292946:=yy
def tw7703219993543364917:=yy
def tw3931542584110894353:=yy
def tw9097463692467386307:=yy
def tw14061376785302977922:=yy
def tw14393985766093427010:=yy
def tw9685165938012685023:=yy
def tw5343114976847550925:=yy
def tw14390163499954941813:=yy
def tw6080419460881490854:=yy
def tw18048400842964057511:=yy
def tw9480348672799913375:=yy
def tw6417387692118317377:=yy
def tw4812956367325556807:=yy
def tw10142438351983152337:=yy
def tw2373370378581249428:=yy
def tw3940936181355286374:=yy
def tw10953683685457977804:=yy
def tw2795065053052585627:=yy
def tw7115532379359244015:=yy
def tw5784057415836355374:=yy
def tw13595541001149317498:=yy
def tw17856661896161464517:=yy
def tw7576063917946130833:=yy
def tw10921144709058207471:=yy
def tw7926627009269665980:=yy
def tw7759250627828363657:=yy
def tw15853664046984554795:=yy
def tw7603003797887416302:=yy
def tw15529534858250493672:=yy
def tw17854093577738477001:=yy
def tw8986776122926349929:=yy
def tw6615563930113651698:=yy
def tw2908965076864499578:=yy
def tw17653598950338503623:=yy
def tw8208419621232347927:=yy
def tw10100038959238279626:=yy
def tw3086490606914105816:=yy
def tw15699646405662545521:=yy
def tw13519045325259941065:=yy
def tw2984286143783902976:=yy
def tw13410064257113912816:=yy
def tw1558991917050609848:=yy
def tw7025171270902394062:=yy
def tw17242643295807433007:=yy
def tw16074837064727613110:=yy
def tw7227397553829337685:=yy
def tw15417373925354882916:=yy
def tw8586241346971399197:=yy
def tw7678104943190961561:=yy
def tw10176155327643976695:=yy
def tw17173911683541527040:=yy
def tw15887301846400177607:=yy
def tw15951479220683381407:=yy
def tw18362984475103050074:=yy
def tw14253928677126005906:=yy
def tw9854877372039459915:=yy
def tw7034797310772328746:=yy
def tw6883207165280600568:=yy
def tw16396061313454763933:=yy
def tw15129740463347435162:=yy
def tw16838971772599188022:=yy
def tw9055368654495085949:=yy
def tw10123416319018899596:=yy
def tw14220713236170986692:=yy
def tw3867717454469029826:=yy
def tw12358722896034266217:=yy
def tw17808584432963051220:=yy
def tw14482358926962164550:=yy
def tw3022943628442950331:=yy
def tw13641141930274423289:=yy
def tw8844677447269685248:=yy
def tw16787187853385273172:=yy
def tw6534062583338944297:=yy
def tw5373862499131195508:=yy
def tw8617971798494458720:=yy
def tw12746720525736595104:=yy
def tw10977051508212737250:=yy
def tw13103604685165893857:=yy
def tw577685361106184510:=yy
def tw6055703597624662299:=yy
def tw917683939345501795:=yy
def tw18030165754903672740:=yy
def tw4357272662654434912:=yy
def tw13204126021137670480:=yy
def tw5698149937657907566:=yy
def tw8331333515144075297:=yy
def tw6502260305260280032:=yy
def tw2425962699338553867:=yy
def tw5129137275947249780:=yy
def tw780238121448180697:=yy
def tw14294356688826604191:=yy
def tw5170155303392210285:=yy
def tw3930660442917441951:=yy
def tw16826325123273063405:=yy
def tw16453429819492865078:=yy
def tw1948181622939724720:=yy
def tw15156564635979696640:=yy
def tw881433837310731060:=yy
def tw6132648195176839324:=yy
def tw2544631788648651945:=yy
def tw4095631326700591761:=yy
def tw7741507720277242036:=yy
def tw7926374781838169647:=yy
def tw9830175943347365367:=yy
def tw3400528991859226143:=yy
def tw16906418045497931778:=yy
def tw17429386277226020412:=yy
def tw14077183825066844858:=yy
def tw2860306561732700388:=yy
def tw14968722901163073585:=yy
def tw14489620459958821923:=yy
def tw1393240103579832174:=yy
def tw12049066702021704107:=yy
def tw13517296810567246132:=yy
def tw1093125754976221827:=yy
def tw16451510094687612051:=yy
def tw13157925112687986550:=yy
def tw3289040047402291224:=yy
def tw16179651873519379677:=yy
def tw9312531234789083073:=yy
def tw1465179817340623021:=yy
def tw10733856515898840730:=yy
def tw12190901276337103370:=yy
def tw7719816727704913769:=yy
def tw6002011363675327808:=yy
def tw5911525091593039525:=yy
def tw17166327739429357384:=yy
def tw17001736620082019656:=yy
def tw611221726929047983:=yy
def tw6826477538448488711:=yy
def tw554551117199794793:=yy
def tw10242977454125393462:=yy
def tw2484737836403010180:=yy
def tw15508256892721055832:=yy
def tw12900902097669978666:=yy
def tw18028739507439074374:=yy
def tw3501210742287167866:=yy
def tw5530406969140752911:=yy
def tw9078086975290357685:=yy
def tw10217967952131630643:=yy
def tw14137904693816578954:=yy
def tw5385346483044785135:=yy
def tw17386997636500729392:=yy
def tw13379470307196217771:=yy
def tw6303049908213809442:=yy
def tw14324816226498054830:=yy
def tw1811091882298685046:=yy
def tw6396203732025800512:=yy
def tw298276493641071177:=yy
def tw6046315692615790716:=yy
def tw4737604905956468378:=yy
def tw634298398602233683:=yy
def tw11612941737778067169:=yy
def tw14128226727094114819:=yy
def tw10415018327483104562:=yy
def tw4614040365851753272:=yy
def tw15233008996940650151:=yy
def tw10991482331789563184:=yy
def tw18402234365962997101:=yy
def tw13425279628065249958:=yy
def tw10956349252285092021:=yy
def tw674683177758443977:=yy
def tw5452428168280076988:=yy
def tw7768762960158263805:=yy
def tw9076194295564749390:=yy
def tw13392331873512554721:=yy
def tw1129255646596940144:=yy
def tw16770340361987832219:=yy
def tw6081318380614903193:=yy
def tw10630263736748838926:=yy
def tw7169647803712705204:=yy
def tw2420985130837634540:=yy
def tw14987081792090833714:=yy
def tw10814861316261830418:=yy
def tw5487813520035958182:=yy
def tw17587292055805290969:=yy
def tw3439063002728445177:=yy
def tw13476107654132025290:=yy
def tw5052547359650696935:=yy
def tw3046059985079612271:=yy
def tw8192422442730191321:=yy
def tw7743816165929206792:=yy
def tw1675288846350552404:=yy
def tw3579444564451112856:=yy
def tw953471734065784288:=yy
def tw16995762809295641223:=yy
def tw7606538054013519010:=yy
def tw16862775490182198507:=yy
def tw18256716889345439940:=yy
def tw13058377577033817466:=yy
def tw2590502067284368900:=yy
def tw2947883727619636278:=yy
def tw16150966020529676408:=yy
def tw5205538161886016584:=yy
def tw14330268247575494236:=yy
def tw16421797790011267411:=yy
def tw3117834941105031198:=yy
def tw1463439677804430724:=yy
def tw15959295249726936938:=yy
def tw12149522601379777941:=yy
def tw1293709136668167324:=yy
def tw13508271232710622805:=yy
def tw5730105516434100381:=yy
def tw16862265738045582280:=yy
def tw15179258620556407572:=yy
def tw12504863323595406992:=yy
def tw3369323643505396227:=yy
def tw14508816366453983276:=yy
def tw5649545711041852769:=yy
def tw13732429350450502826:=yy
def tw14904780702136398636:=yy
def tw1603835692430252179:=yy
def tw15394526912784235004:=yy
def tw8859529251254819152:=yy
def tw5143265111325513141:=yy
def tw9099418529426299329:=yy
def tw3261883172270026120:=yy
def tw13193291809900867275:=yy
def tw104653115199176517:=yy
def tw10275631754150384859:=yy
def tw5478013945970717557:=yy
def tw5187772096159087556:=yy
def tw8456644793126485941:=yy
def tw13984033930383018306:=yy
def tw16649636303190582685:=yy
def tw13029607102720681045:=yy
def tw11505727607689642536:=yy
def tw5752308464085109561:=yy
def tw10416887378139353137:=yy
def tw18420215820157379153:=yy
def tw4727016448525769015:=yy
def tw9249981089763528039:=yy
def tw10286424948630046278:=yy
def tw9662471013722420521:=yy
def tw5206996444803279719:=yy
def tw10842280682192888977:=yy
def tw13304485287713086488:=yy
def tw17292205480437521775:=yy
def tw12785530359019773771:=yy
def tw3237002150711535475:=yy
def tw8721634349429137087:=yy
def tw15941518464176657782:=yy
def tw2277598175688265698:=yy
def tw13193384010802486510:=yy
def tw3020343306460695264:=yy
def tw12425870992509402814:=yy
def tw10727779185039073978:=yy
def tw15237476062464475201:=yy
def tw4492595148492687381:=yy
def tw814201328174111866:=yy
def tw2820039321239453177:=yy
def tw5653224867340802131:=yy
def tw4233277043690808732:=yy
def tw16866600837733650870:=yy
def tw13943972255183848468:=yy
def tw16122660273025638774:=yy
def tw1708312306620819121:=yy
def tw9719103267988104400:=yy
def tw12712585185488783423:=yy
def tw9034555135557838826:=yy
def tw5292206710955659542:=yy
def tw6315405887057230529:=yy
def tw5688830975249279018:=yy
def tw12318966958084688687:=yy
def tw18089927562820140644:=yy
def tw7525705008125534323:=yy
def tw3633081890821284846:=yy
def tw2351737993741993921:=yy
def tw6116765668495763034:=yy
def tw6638529014909858084:=yy
def tw17055544811645019582:=yy
def tw14808515041345539162:=yy
def tw6648910783784051698:=yy
def tw4899625829144192585:=yy
def tw1528148699218992511:=yy
def tw10137029749429125591:=yy
def tw3690287270401380100:=yy
def tw8884640251110028024:=yy
def tw17134745287090009705:=yy
def tw2298757390079949245:=yy
def tw17397606450126764450:=yy
def tw833692269975821619:=yy
def tw4525618582634421531:=yy
def tw13890930428679478666:=yy
def tw4937095003558109195:=yy
def tw1200341098511266167:=yy
def tw7194706838593402785:=yy
def tw6949648054495168132:=yy
def tw6674856718896362212:=yy
def tw12675419756721796533:=yy
end PySem.W.Fast
open PySem PySem.W PyProof.Rows
set_option maxRecDepth 100000 in
set_option maxHeartbeats 0 in
theorem PySem.Challenge.cw_codemend_k31_acts_put_holds : PySem.Challenge.rw_codemend_k31_acts_put.Holds := by
 w_on; o_law; k_head; (case hw=>w_witness2)
 k_fill
 refine PL.walk_law (l:=PySem.Challenge.rw_codemend_k31_acts_put) (k:=9) (x:="_law_script") rfl rfl ⟨rfl,by decide,by decide,rfl⟩ (fun w h Y=>PySem.W.kIn_of Y) ?F
 case F =>
  intro w mg fa h KX G hmg
  refine' K31.all_mk KX G hmg ?q0 ?q1 ?q2 ?q3 ?q4 ?q5 ?q6 ?q7 ?q8 ?q9 ?qa ?qb ?qc ?qd ?qe ?qf ?qg ?qh ?qi ?qj ?qk ?ql ?qm ?qn ?qo ?qp ?qq ?qr ?qs ?qt ?qu ?qv ?qw ?qx ?qy ?qz ?q10 ?q11 ?q12 ?q13 ?q14 ?q15 ?q16 ?q17 ?q18 ?q19 ?q1a ?q1b ?q1c ?q1d ?q1e ?q1f ?q1g ?q1h ?q1i ?q1j ?q1k ?q1l ?q1m ?q1n ?q1o ?q1p ?q1q ?q1r ?q1s ?q1t ?q1u ?q1v ?q1w ?q1x ?q1y ?q1z ?q20 ?q21 ?q22 ?q23 ?q24 ?q25 ?q26 ?q27 ?q28 ?q29 ?q2a ?q2b ?q2c ?q2d ?q2e ?q2f ?q2g ?q2h ?q2i ?q2j ?q2k ?q2l ?q2m ?q2n ?q2o ?q2p ?q2q ?q2r ?q2s ?q2t ?q2u ?q2v ?q2w ?q2x ?q2y ?q2z ?q30 ?q31 ?q32 ?q33 ?q34 ?q35 ?q36 ?q37 ?q38 ?q39 ?q3a ?q3b ?q3c ?q3d ?q3e ?q3f ?q3g ?q3h ?q3i ?q3j ?q3k ?q3l ?q3m ?q3n ?q3o ?q3p ?q3q ?q3r ?q3s ?q3t ?q3u ?q3v ?q3w ?q3x ?q3y ?q3z ?q40 ?q41 ?q42 ?q43 ?q44 ?q45 ?q46 ?q47 ?q48 ?q49 ?q4a ?q4b ?q4c ?q4d ?q4e ?q4f ?q4g ?q4h ?q4i ?q4j ?q4k ?q4l ?q4m ?q4n ?q4o ?q4p ?q4q ?q4r ?q4s ?q4t ?q4u ?q4v ?q4w ?q4x ?q4y ?q4z ?q50 ?q51 ?q52 ?q53 ?q54 ?q55 ?q56 ?q57 ?q58 ?q59 ?q5a ?q5b ?q5c ?q5d ?q5e ?q5f ?q5g ?q5h ?q5i ?q5j ?q5k ?q5l ?q5m ?q5n ?q5o ?q5p ?q5q ?q5r ?q5s ?q5t ?q5u ?q5v ?q5w ?q5x ?q5y ?q5z ?q60 ?q61 ?q62 ?q63 ?q64 ?q65 ?q66 ?q67 ?q68 ?q69 ?q6a ?q6b ?q6c ?q6d ?q6e ?q6f ?q6g ?q6h ?q6i ?q6j ?q6k ?q6l ?q6m ?q6n ?q6o ?q6p ?q6q ?q6r ?q6s ?q6t ?q6u ?q6v ?q6w ?q6x ?q6y ?q6z ?q70 ?q71 ?q72 ?q73 ?q74 ?q75 ?q76 ?q77 ?q78 ?q79 ?q7a ?q7b ?q7c ?q7d ?q7e ?q7f ?q7g ?q7h ?q7i ?q7j ?q7k ?q7l ?q7m ?q7n ?q7o ?q7p ?q7q ?q7r ?q7s ?q7t ?q7u ?q7v ?q7w ?q7x ?q7y ?q7z ?q80 ?q81 ?q82 ?q83 ?q84 ?q85 ?q86 ?q87 ?q88 ?q89 ?q8a ?q8b ?q8c ?q8d ?q8e ?q8f ?q8g ?q8h ?q8i ?q8j ?q8k ?q8l ?q8m ?q8n ?q8o ?q8p ?q8q
  (case q0|q1|q2|q3|q4|q5|q6|q7|q8|q9|qa|qb|qc|qd|qe|qf|qg|qh|qi=>apply PL.Dn.mk<;>k_is)
  (case qj|qk|ql|qm|qn|qo|qp|qq|qr|qs|qt|qu|qv|qw|qx=>k_is)
  (case qy=>decide +kernel)
  (case qz=>k_is)
  (case q10=>decide +kernel)
  (case q11|q12|q13|q14|q15|q16|q17|q18|q19|q1a|q1b|q1c|q1d|q1e|q1f|q1g|q1h|q1i|q1j|q1k|q1l|q1m|q1n|q1o|q1p|q1q|q1r|q1s|q1t|q1u|q1v|q1w|q1x|q1y|q1z|q20|q21|q22|q23|q24|q25|q26|q27|q28|q29|q2a|q2b|q2c|q2d|q2e|q2f|q2g|q2h|q2i|q2j|q2k|q2l|q2m|q2n|q2o|q2p|q2q|q2r|q2s|q2t|q2u|q2v|q2w|q2x|q2y|q2z|q30|q31|q32|q33|q34|q35|q36|q37|q38|q39|q3a|q3b|q3c|q3d|q3e|q3f|q3g|q3h|q3i|q3j|q3k|q3l|q3m|q3n|q3o|q3p|q3q|q3r|q3s|q3t|q3u|q3v|q3w|q3x|q3y|q3z|q40|q41|q42|q43|q44|q45|q46|q47|q48|q49|q4a|q4b|q4c|q4d|q4e|q4f|q4g|q4h|q4i|q4j|q4k|q4l|q4m|q4n|q4o|q4p|q4q|q4r|q4s|q4t|q4u|q4v|q4w|q4x|q4y|q4z|q50|q51|q52|q53|q54|q55=>k_is)
  (case q56=>rfl)
  (case q57|q58|q59=>k_is)
  (case q5a=>rfl)
  (case q5b|q5c|q5d=>k_is)
  (case q5e=>rfl)
  (case q5f|q5g|q5h=>k_is)
  (case q5i=>rfl)
  (case q5j|q5k|q5l=>k_is)
  (case q5m=>rfl)
  (case q5n|q5o|q5p|q5q|q5r|q5s=>k_is)
  (case q5t|q5u=>rfl)
  (case q5v|q5w|q5x|q5y|q5z|q60|q61|q62|q63|q64=>k_is)
  (case q65=>rfl)
  (case q66=>k_is)
  (case q67=>rfl)
  (case q68=>k_is)
  (case q69=>rfl)
  (case q6a=>k_is)
  (case q6b=>rfl)
  (case q6c=>k_is)
  (case q6d=>rfl)
  (case q6e=>k_is)
  (case q6f=>rfl)
  (case q6g=>k_is)
  (case q6h|q6i|q6j=>rfl)
  (case q6k|q6l|q6m|q6n|q6o|q6p|q6q|q6r|q6s|q6t=>k_is)
  (case q6u=>rfl)
  (case q6v=>k_is)
  (case q6w=>rfl)
  (case q6x=>k_is)
  (case q6y=>rfl)
  (case q6z=>k_is)
  (case q70=>rfl)
  (case q71=>k_is)
  (case q72=>rfl)
  (case q73=>k_is)
  (case q74=>rfl)
  (case q75=>k_is)
  (case q76|q77|q78=>rfl)
  (case q79|q7a|q7b|q7c|q7d|q7e|q7f|q7g|q7h|q7i=>k_is)
  (case q7j=>rfl)
  (case q7k=>k_is)
  (case q7l=>rfl)
  (case q7m=>k_is)
  (case q7n=>rfl)
  (case q7o=>k_is)
  (case q7p=>rfl)
  (case q7q=>k_is)
  (case q7r=>rfl)
  (case q7s=>k_is)
  (case q7t=>rfl)
  (case q7u=>k_is)
  (case q7v|q7w|q7x=>rfl)
  (case q7y|q7z|q80|q81|q82|q83|q84|q85|q86=>k_is)
  (case q87=>rfl)
  (case q88=>k_is)
  (case q89=>rfl)
  (case q8a=>k_is)
  (case q8b=>rfl)
  (case q8c=>k_is)
  (case q8d=>rfl)
  (case q8e=>k_is)
  (case q8f=>rfl)
  (case q8g=>k_is)
  (case q8h=>rfl)
  (case q8i=>k_is)
  (case q8j=>rfl)
  (case q8k|q8l|q8m|q8n|q8o|q8p=>k_is)
  (case q8q=>rfl)

import PyProof.Rows.All
import Wide.All
import OpenK.AllK
import Wide.FinOn
import Lean
import PyProof.EqAt
import PyProof.EqKinds
import PyProof.TupleCall
import KE.KRevIter
import PyProof.StationsW
import PyProof.ExcClass2
import PyProof.ExcInit
import PyProof.ExcBaseAll.ValueError
import PyProof.ExcArgsOwn
import OpenK.KMake
import KE.KIsAll
import PyProof.InstStoreFacts
import PyProof.FString2
import KE.KTryMore
import PyProof.NsDelKeeps
import PyProof.Rows.StrSplitJoin
import PyProof.StrLawsTight
import PyProof.ListMulRoad
import PyProof.ZipIter
import PyProof.TupleIter
import PyProof.WalksMore
import KE.KSortAsk
import KE.KSortTup
import KE.KDictLaws
import PyProof.NeKinds
import PyProof.EnumFor
import PyProof.EnumMake
import PyProof.DictItems
import PyProof.Draws
import PyProof.Rows.CallKwBuiltin
import PySem.Challenge.RW_codemend_k03_what_is_a_tree
set_option compiler.extract_closed false
set_option linter.all false
def yy:=trivial
noncomputable section
section
open PySem PySem.Spec PySem.Calls PyProof.Rows
def yA:=@wpAny_bind
def yB:=@Heap.get?_push_of_some
def yC:=@List.getElem?_eq_getElem
def yD:=@List.length_map
def yE:=@wpAny_pure
def yF:=@Nat.le_refl
def yG:=@List.getElem?_eq_some_iff
def yH:=@List.getElem?_map
def yI:=@Bool.false_ne_true
def yJ:=@Heap.lt_size
def yK:=@Heap.get?_push_size
def yL:=@absurd
def yM:=@List.size_toArray
def yN:=@if_neg
def yO:=@List.mem_cons
def yP:=@if_pos
def yQ:=@List.length_append
def yR:=@decide_eq_false
def yS:=@Nat.ne_of_lt
def yT:=@Nat.lt_of_lt_of_le
def yU:=@List.not_mem_nil
def yV:=@List.mem_cons_of_mem
def yW:=@List.mem_of_getElem?
def yX:=@List.getElem?_set_ne
def yY:=@List.mem_append_right
def yZ:=@decide_eq_true
def ya:=@wpAny_newObj_type
def yb:=@List.mem_map
def yc:=@congrArg
def yd:=@Bool.and_eq_true
def ye:=@Array.getElem?_eq_getElem
def yf:=@List.append_nil
def yg:=@List.mem_singleton
def yh:=@List.mem_cons_self
def yi:=@Nat.zero_le
def yj:=@Array.length_toList
def yk:=@List.lookup_cons
def ym:=@PySem.boot_len
def yn:=@List.take_of_length_le
def yo:=@List.map_map
def yp:=@List.all_eq_true
def yq:=@List.map_cons
def yr:=@PyProof.Rows.boot_isinstance
def yt:=@wpAny_field
def yu:=@Nat.le_trans
def yw:=@PyProof.Rows.slot_tuple_getitem
def yx:=@wpAny_call_entry
def yz:=@List.getElem?_set_self
def YA:=@decide_eq_true_eq
def YB:=@List.mem_append
def YC:=@Bool.false_eq_true
def YD:=@wpAny_mono
def YE:=@List.getElem?_append_left
def YF:=@List.drop_eq_getElem_cons
def YG:=@wpAny_Call_Name_kw
def YH:=@List.length_take
def YI:=@Bool.true_and
def YJ:=@PyProof.Rows.boot_tuple
def YK:=@PySem.mem_of_lookup
def YL:=@List.replicate_succ
def YM:=@List.map_congr_left
def YN:=@List.drop_eq_nil_of_le
def YO:=@wpAny_holding
def YQ:=@wpAny_seqItems
def YR:=@List.take_succ
def YS:=@Bool.and_false
def YT:=@List.length_singleton
def YU:=@List.find?_cons
def YV:=@wpAny_truthy_bool
def YW:=@PySem.F.slot_tuple_iterator_next
def YX:=@List.length_reverse
def YY:=@List.length_drop
def YZ:=@List.getElem_mem
def Ya:=@wpAny_typeNameOfWhole_keyiter
def Yb:=@List.eq_nil_of_length_eq_zero
def Yc:=@wpAny_setField_rec
def Yd:=@Heap.get?_update_other
def Ye:=@wpAny_passesOwn
def Yf:=@List.nodup_cons
def Yg:=@Nat.lt_irrefl
def Yh:=@Heap.get?_update_self
def Yi:=@List.flatten_cons
end
set_option Elab.async false
set_option maxRecDepth 100000
namespace L2
open PySem PySem.Spec PyProof.Rows
abbrev Key:=Sum Int Str
def ziv:Key->Value->Bool
 | .inl k,v=>Value.isInt k v
 | .inr x,v=>Value.isStrOf x v
def zsM (w:World):Key->Int
 | .inl k=>hashInt k
 | .inr x=>hashStr w x
theorem zaW:∀ {k:Key} {v:Value},ziv k v=true->(∃ i t,k=Sum.inl i/\v=Value.int i t)\/(∃ x t,k=Sum.inr x/\v=Value.str x t)
 | .inl i,v,h=>by
  obtain ⟨t,e⟩:=Value.isInt_shape (k:=i) (v:=v) h; exact .inl ⟨i,t,rfl,e⟩
 | .inr x,v,h=>by
  obtain ⟨t,e⟩:=Value.isStrOf_shape (x:=x) (v:=v) h; exact .inr ⟨x,t,rfl,e⟩
theorem zjJ (i:Int) (t:Tok):ziv (.inl i) (.int i t)=true:=by simp [ziv,Value.isInt]
theorem zjI (x:Str) (t:Tok):ziv (.inr x) (.str x t)=true:=by simp [ziv,Value.isStrOf]
theorem zpK (a b:Int):decide ((Sum.inl a:Key)=Sum.inl b)=(a == b):=by
 by_cases e:a=b
 ·subst e; simp
 ·have h:¬ (Sum.inl a:Key)=Sum.inl b:=fun q=>e (Sum.inl.inj q)
  rw [yR h]; exact (beq_eq_false_iff_ne.mpr e).symm
theorem zpH (a b:Str):decide ((Sum.inr a:Key)=Sum.inr b)=decide (a=b):=by
 by_cases e:a=b
 ·subst e; simp
 ·have h:¬ (Sum.inr a:Key)=Sum.inr b:=fun q=>e (Sum.inr.inj q)
  rw [yR h,yR e]
theorem zpJ (a:Int) (b:Str):decide ((Sum.inl a:Key)=Sum.inr b)=false:=yR (fun q=>nomatch q)
theorem zpI (a:Str) (b:Int):decide ((Sum.inr a:Key)=Sum.inl b)=false:=yR (fun q=>nomatch q)
def zbF (prog:Program) (w:World):PySem.KeyKind prog w Key where
 is:=ziv
 hash:=zsM w
 inj:=fun v a b ha hb=>by
  rcases zaW ha with ⟨i,t,rfl,rfl⟩ | ⟨x,t,rfl,rfl⟩
  ·rcases zaW hb with ⟨j,u,rfl,e⟩ | ⟨y,u,rfl,e⟩
   ·injection e with e1 _; rw [e1]
   ·exact nomatch e
  ·rcases zaW hb with ⟨j,u,rfl,e⟩ | ⟨y,u,rfl,e⟩
   ·exact nomatch e
   ·injection e with e1 _; rw [e1]
 byValue:=fun k v h=>by
  rcases zaW h with ⟨i,t,rfl,rfl⟩ | ⟨x,t,rfl,rfl⟩ <;> rfl
 pyHash:=fun hv h=>by
  rcases zaW hv with ⟨i,t,rfl,rfl⟩ | ⟨x,t,rfl,rfl⟩
  ·exact wpAny_pyHash_int h
  ·exact wpAny_pyHash_str h
 eqBool:=fun hu hv h=>by
  rcases zaW hu with ⟨i,t,rfl,rfl⟩ | ⟨x,t,rfl,rfl⟩
  ·rcases zaW hv with ⟨j,u,rfl,rfl⟩ | ⟨y,u,rfl,rfl⟩
   ·rw [zpK] at h; exact wpAny_eqBool_int h
   ·rw [zpJ] at h; exact SeqAt.EqAt.int_str i t y u _ _ _ _ h
  ·rcases zaW hv with ⟨j,u,rfl,rfl⟩ | ⟨y,u,rfl,rfl⟩
   ·rw [zpI] at h; exact SeqAt.EqAt.str_int x t j u _ _ _ _ h
   ·rw [zpH] at h; exact wpAny_eqBool_str h
 «strs»:=fun k x t v h=>by
  rcases zaW h with ⟨i,u,rfl,e⟩ | ⟨y,u,rfl,e⟩
  ·exact nomatch e
  ·injection e with e1 _
   subst e1
   cases v <;> rfl
theorem zg6 (prog:Program) (w:World) (i:Int) (t:Tok):(zbF prog w).is (.inl i) (.int i t)=true:=zjJ i t
theorem zg5 (prog:Program) (w:World) (x:Str) (t:Tok):(zbF prog w).is (.inr x) (.str x t)=true:=zjI x t
inductive V where
 | non | bl (b:Bool) | int (i:Int) | str (x:Str) | byt (b:Array UInt8) | flt (b:UInt64) | ref (a:Addr) | ty (n:String)
 deriving DecidableEq
def zbh:V->Value->Prop
 | .non,u=>u=Value.none
 | .bl b,u=>u=Value.bool b
 | .int i,u=>∃ t,u=Value.int i t
 | .str x,u=>∃ t,u=Value.str x t
 | .byt b,u=>∃ t,u=Value.bytes b t
 | .flt b,u=>∃ t,u=Value.float b t
 | .ref a,u=>u=Value.ref a
 | .ty n,u=>u=Value.type n
abbrev zaT:List V->List Value->Prop:=Paired zbh
theorem zaT.length {xs:List V} {us:List Value} (r:zaT xs us):xs.length=us.length:=Paired.length r
theorem zaT.get:∀ {xs:List V} {us:List Value} {i:Nat} {x:V},zaT xs us->xs[i]?=some x->∃ u,us[i]?=some u/\zbh x u
 | _,_,_,_,.nil,e=>by simp at e
 | _,_,0,_,.cons r _,e=>by simp at e; subst e; exact ⟨_,rfl,r⟩
 | _,_,i+1,x,.cons _ t,e=>by
  obtain ⟨u,h1,h2⟩:=zaT.get (i:=i) (x:=x) t (by simpa using e)
  exact ⟨u,by simpa using h1,h2⟩
theorem zaT.append:∀ {xs ys:List V} {us ws:List Value},zaT xs us->zaT ys ws->zaT (xs ++ ys) (us ++ ws)
 | _,_,_,_,.nil,s=>s
 | _,_,_,_,.cons r t,s=>.cons r (zaT.append t s)
theorem zaT.take:∀ {xs:List V} {us:List Value} (n:Nat),zaT xs us->zaT (xs.take n) (us.take n)
 | _,_,0,_=>.nil
 | _,_,_+1,.nil=>.nil
 | _,_,n+1,.cons r t=>.cons r (zaT.take n t)
theorem zaT.drop:∀ {xs:List V} {us:List Value} (n:Nat),zaT xs us->zaT (xs.drop n) (us.drop n)
 | _,_,0,r=>r
 | _,_,_+1,.nil=>.nil
 | _,_,n+1,.cons _ t=>zaT.drop n t
def zl6:Option V->Option Value->Prop
 | some v,some u=>zbh v u
 | none,none=>True
 | _,_=>False
def KV {κ:Type}:List (κ × V)->List (κ × Value)->Prop:=Paired fun (p:κ × V) (q:κ × Value)=>p.1=q.1/\zbh p.2 q.2
def kV:Key->V
 | .inl i=>.int i
 | .inr x=>.str x
inductive HO where
 | lst (xs:List V)
 | tup (xs:List V)
 | dK (kvs:List (Key × V)) | dT (kvs:List (List Key × V))
 | dE (kvs:List (List Key × V)) (ep:Nat)
 | set (S:Int->Bool) (n:Nat)
 | ins (C dx:Addr) (fs:List (Str × V))
 | own (x:Addr)
 | xd (fs:List (Str × V))
 | met (f x:Addr)
 | rng (lo hi:Int)
 | frz (o:Obj) (u:HO)
 | tbl (ps:Array Value)
 | ext (φ:Heap->Prop)
abbrev zrM:HO:=.ext fun _=>True
def zbV:List V ⊕ Obj->HO
 | .inl xs=>.tup xs
 | .inr o=>.frz o zrM
abbrev Hp:=Addr->Option HO
def upd (H:Hp) (a:Addr) (o:HO):Hp:=fun b=>if b=a then some o else H b
theorem zw {H:Hp} {a:Addr} {o:HO}:upd H a o a=some o:=by unfold upd; rw [yP rfl]
theorem zU {H:Hp} {a b:Addr} {o:HO} (h:b≠a):upd H a o b=H b:=by unfold upd; rw [yN h]
theorem zpy {H:Hp} {a b:Addr} {o u:HO} (h:H a=some o) (h':H b=some u) (d:o≠u):a≠b:=by
 intro e; subst e; rw [h] at h'; exact d (Option.some.inj h')
theorem zaH {H:Hp} {a b:Addr} {o:HO} (h:H a=some o) (h':H b=none):a≠b:=by
 intro e; subst e; rw [h] at h'; cases h'
section
variable (P:Program) (w:World)
def zbv (H:Hp) (h:Heap) (a:Addr):HO->Prop
 | .lst xs=>xs.length<=sizeLine/\∃ (its:List Value) (n:Nat),zaT xs its/\h.get? a=some { cls:=.type "list",data:=.seq its.toArray n }
 | .tup xs=>xs.length<=sizeLine/\∃ its:List Value,zaT xs its/\IsTup h a its.toArray
 | .dK kvs=>kvs.length<=sizeLine/\(a == sysModules)=false/\∃ vs,KV kvs vs/\h.DictOf (zbF P w) a vs
 | .dT kvs=>kvs.length<=sizeLine/\(a == sysModules)=false/\∃ xs:List (List Key × Addr × Value),
   Paired (fun (p:List Key × V) (q:List Key × Addr × Value)=>p.1=q.1/\H q.2.1=some (.tup (p.1.map kV))/\zbh p.2 q.2.2) kvs xs /\
   ∃ o es ep,h.get? a=some o/\o.ExactDict/\o.data=.dict es ep/\es.toList=xs.map (entryOfKey (tupleKind (zbF P w)))/\(xs.map (·.1)).Nodup
 | .dE kvs ep=>kvs.length<=sizeLine/\(a == sysModules)=false/\∃ xs:List (List Key × Addr × Value),
   Paired (fun (p:List Key × V) (q:List Key × Addr × Value)=>p.1=q.1/\H q.2.1=some (.tup (p.1.map kV))/\zbh p.2 q.2.2) kvs xs /\
   ∃ o es,h.get? a=some o/\o.ExactDict/\o.data=.dict es ep/\es.toList=xs.map (entryOfKey (tupleKind (zbF P w)))/\(xs.map (·.1)).Nodup
 | .set S n=>h.SetOf (intKind P w) a S n
 | .ins C dx fs=>H dx=some (.own a)/\fs.length<=1000/\dx≠a/\h.get? a=some (W.instObj C dx) /\
   ∃ mA,h.Ns1 dx mA/\(∀ f,zl6 (fs.lookup f) (mA f))/\PySem.Within mA (fs.map (·.1))
 | .own _=>∃ o,h.get? a=some o
 | .xd fs=>∃ mA,h.Ns1 a mA/\∀ f,zl6 (fs.lookup f) (mA f)
 | .rng lo hi=>∃ t u v,h.get? a=some { cls:=.type "range",data:=.fields #[.int lo t,.int hi u,.int 1 v] }
 | .frz o u=>h.get? a=some o/\zbv H h a u
 | .tbl ps=>∃ ts:Array Value,h.get? a=some { cls:=.none,data:=.fields ts }/\TriplesOk ts.toList/\∀ pos cv,codeAmong pos ts.toList=some cv->∃ c oc vs t q t0,cv=.ref c/\H c=some (zbV (.inr oc))/\oc.data=.fields vs/\vs[1]?=some (.str q t)/\ps[0]?=some (.str q t0)
 | .met f x=>h.get? a=some (W.methodObj (.ref f) (.ref x))
 | .ext φ=>φ h/\(∃ o,h.get? a=some o)/\∀ h1 h2:Heap,φ h1->(∀ o,h1.get? a=some o->h2.get? a=some o)->φ h2
def HOk (H:Hp) (h:Heap):Prop:=∀ a o,H a=some o->zbv P w H h a o
end
section
variable {P:Program} {w:World} {H H':Hp} {h h':Heap} {a:Addr} {o:HO}
theorem zbv.lt (x:zbv P w H h a o):a<h.objs.size:=by
 cases o with
 | lst xs=>obtain ⟨_,_,_,_,e⟩:=x; exact yJ e
 | tup xs=>obtain ⟨_,_,_,p⟩:=x; exact p.lt
 | dK kvs=>obtain ⟨_,_,_,_,o,_,_,e,_⟩:=x; exact yJ e
 | dT kvs=>obtain ⟨_,_,_,_,o,_,_,e,_⟩:=x; exact yJ e
 | dE kvs ep=>obtain ⟨_,_,_,_,o,_,e,_⟩:=x; exact yJ e
 | set S n=>obtain ⟨o,_,_,_,e,_⟩:=x; exact yJ e
 | ins C dx fs=>obtain ⟨_,_,_,e,_⟩:=x; exact yJ e
 | own y=>obtain ⟨_,e⟩:=x; exact yJ e
 | xd fs=>obtain ⟨_,⟨_,_,_,e,_⟩,_⟩:=x; exact yJ e
 | rng lo hi=>obtain ⟨_,_,_,e⟩:=x; exact yJ e
 | frz ob u=>obtain ⟨e,_⟩:=x; exact yJ e
 | tbl ps=>obtain ⟨_,e,_⟩:=x; exact yJ e
 | met f y=>exact yJ (show h.get? a=some _ from x)
 | ext φ=>obtain ⟨_,⟨_,e⟩,_⟩:=x; exact yJ e
theorem Paired.mapP {α β:Type} {F G:α->β->Prop}:∀ {l₁:List α} {l₂:List β},Paired F l₁ l₂->(∀ a b,F a b->G a b)->Paired G l₁ l₂
 | _,_,.nil,_=>.nil
 | _,_,.cons r t,f=>.cons (f _ _ r) (Paired.mapP t f)
theorem zbv.stay (x:zbv P w H h a o) (k:∀ b u,(b=a\/H b=some (.own a))->h.get? b=some u->h'.get? b=some u)
  (ho:∀ b,H b=some (.own a)->H' b=some (.own a)) (ht:∀ b xs,H b=some (zbV xs)->H' b=some (zbV xs)):zbv P w H' h' a o:=by
 induction o with
 | lst xs=>obtain ⟨z,its,n,r,e⟩:=x; exact ⟨z,its,n,r,k _ _ (.inl rfl) e⟩
 | tup xs=>obtain ⟨z,its,r,ob,e,c⟩:=x; exact ⟨z,its,r,ob,k _ _ (.inl rfl) e,c⟩
 | dK kvs=>obtain ⟨z,y,vs,r,ob,es,ep,e,c⟩:=x; exact ⟨z,y,vs,r,ob,es,ep,k _ _ (.inl rfl) e,c⟩
 | dT kvs =>
  obtain ⟨z,y,xs,r,ob,es,ep,e,c⟩:=x
  exact ⟨z,y,xs,Paired.mapP r fun p q z=>⟨z.1,ht _ (.inl _) z.2.1,z.2.2⟩,ob,es,ep,k _ _ (.inl rfl) e,c⟩
 | dE kvs ep =>
  obtain ⟨z,y,xs,r,ob,es,e,c⟩:=x
  exact ⟨z,y,xs,Paired.mapP r fun p q z=>⟨z.1,ht _ (.inl _) z.2.1,z.2.2⟩,ob,es,k _ _ (.inl rfl) e,c⟩
 | set S n=>obtain ⟨ob,es,ep,t,e,c⟩:=x; exact ⟨ob,es,ep,t,k _ _ (.inl rfl) e,c⟩
 | ins C dx fs =>
  obtain ⟨d,z,ne,e,mA,⟨od,es,ep,e2,c⟩,r⟩:=x
  exact ⟨ho _ d,z,ne,k _ _ (.inl rfl) e,mA,⟨od,es,ep,k _ _ (.inr d) e2,c⟩,r⟩
 | own y=>obtain ⟨ob,e⟩:=x; exact ⟨ob,k _ _ (.inl rfl) e⟩
 | xd fs=>obtain ⟨mA,⟨od,es,ep,e,c⟩,r⟩:=x; exact ⟨mA,⟨od,es,ep,k _ _ (.inl rfl) e,c⟩,r⟩
 | rng lo hi=>obtain ⟨t,u,v,e⟩:=x; exact ⟨t,u,v,k _ _ (.inl rfl) e⟩
 | frz ob u ih=>obtain ⟨e,q⟩:=x; exact ⟨k _ _ (.inl rfl) e,ih q⟩
 | tbl ps=>obtain ⟨ts,e,t,c⟩:=x; exact ⟨ts,k _ _ (.inl rfl) e,t,fun pos cv z=>let ⟨c,oc,vs,t,q,t0,z1,z2,z3⟩:=c pos cv z; ⟨c,oc,vs,t,q,t0,z1,ht _ _ z2,z3⟩⟩
 | met f y =>
  have e:h.get? a=some (W.methodObj (.ref f) (.ref y)):=x
  show h'.get? a=some (W.methodObj (.ref f) (.ref y))
  exact k a _ (.inl rfl) e
 | ext φ=>obtain ⟨p,⟨o,e⟩,st⟩:=x; exact ⟨st _ _ p fun o q=>k _ _ (.inl rfl) q,⟨o,k _ _ (.inl rfl) e⟩,st⟩
theorem HOk.lt (x:HOk P w H h) (e:H a=some o):a<h.objs.size:=(x a o e).lt
theorem HOk.fresh (x:HOk P w H h) (e:h.objs.size<=a):H a=none:=by
 cases q:H a with
 | none=>rfl
 | some u=>exact yL (yT (x.lt q) e) (Yg _)
theorem HOk.kept (x:HOk P w H h) (k:∀ b u,h.get? b=some u->h'.get? b=some u):HOk P w H h':=fun a o e =>
 (x a o e).stay (fun b u _ q=>k b u q) (fun _ q=>q) fun _ _ q=>q
theorem HOk.laid (x:HOk P w H h) (k:∀ b u,h.get? b=some u->h'.get? b=some u) (hp:h.objs.size<=a) (new:zbv P w (upd H a o) h' a o):HOk P w (upd H a o) h':=fun b u e=>by
 have hn:=x.fresh hp
 by_cases hb:b=a
 ·subst hb; rw [zw] at e; cases e; exact new
 ·rw [zU hb] at e
  exact (x b u e).stay (fun c v _ q=>k c v q) (fun c q=>by rw [zU (zaH q hn)]; exact q) fun c xs q=>by rw [zU (zaH q hn)]; exact q
end
def Rd (H:Hp) (a:Addr) (u:HO):Prop:=H a=some u\/∃ o,H a=some (.frz o u)
theorem Rd.ok {P:Program} {w:World} {H:Hp} {h:Heap} {a:Addr} {u:HO} (r:Rd H a u) (x:HOk P w H h):zbv P w H h a u:=by
 rcases r with r | ⟨o,r⟩
 ·exact x a u r
 ·obtain ⟨_,q⟩:=x a _ r
  exact q
def Mut:Option HO->Prop
 | some (.lst _)=>True
 | some (.dK _)=>True
 | some (.dT _)=>True
 | some (.dE _ _)=>True
 | some (.set _ _)=>True
 | some (.ins _ _ _)=>True
 | some (.ext _)=>True
 | _=>False
section
variable {P:Program} {w:World} {H:Hp} {h h':Heap} {x e:Addr} {o':HO}
theorem HOk.write (ok:HOk P w H h) (mu:Mut (H x)) (he:e=x\/H e=some (.own x)) (k:∀ b u,b≠e->h.get? b=some u->h'.get? b=some u) (heo:∃ u,h'.get? e=some u)
  (new:zbv P w (upd H x o') h' x o'):HOk P w (upd H x o') h':=fun b u q=>by
 have nown:∀ c y,H c=some (.own y)->c≠x:=fun c y r z=>by subst z; rw [r] at mu; exact mu
 have ntup:∀ c xs,H c=some (zbV xs)->c≠x:=fun c xs r z=>by subst z; rw [r] at mu; cases xs <;> exact mu
 by_cases hb:b=x
 ·subst hb; rw [zw] at q; cases q; exact new
 ·rw [zU hb] at q
  by_cases hbe:b=e
  ·have q':H b=some (.own x):=by
    rcases he with z | z
    ·exact yL (hbe.trans z) hb
    ·rw [hbe]; exact z
   rw [q] at q'; cases q'
   obtain ⟨v,hv⟩:=heo
   exact ⟨v,by rw [hbe]; exact hv⟩
  ·refine (ok b u q).stay (fun c v hc r=>k c v ?_ r) (fun c r=>by rw [zU (nown c b r)]; exact r) fun c xs r=>by rw [zU (ntup c xs r)]; exact r
   rcases hc with rfl | hc
   ·exact hbe
   ·rintro rfl
    rcases he with z | z
    ·exact nown c b hc z
    ·rw [hc] at z; cases z; exact hb rfl
end
structure Un (fs ex:List Addr) (H H':Hp) (h h':Heap):Prop where
 keep:∀ b o,h.get? b=some o->H b=none->b ∉ fs->b ∉ ex->h'.get? b=some o
 slot:∀ b o,h.get? b=some o->H b=none->b ∈ fs->b ∉ ex->∃ sl,h'.get? b=some { o with slots:=sl }
 free:∀ b o,h.get? b=some o->H b=none->b ∉ ex->H' b=none
 there:∀ b o,h.get? b=some o->b ∉ ex->∃ o',h'.get? b=some o'
 tups:∀ b xs,H b=some (.tup xs)->H' b=some (.tup xs)
 frzs:∀ b o u,H b=some (.frz o u)->H' b=some (.frz o u)
 tbls:∀ b ps,H b=some (.tbl ps)->∃ more,H' b=some (.tbl (ps ++ more))
section
variable {fs fs' ex ex':List Addr} {H H1 H2:Hp} {h h1 h2 h':Heap} {a x e:Addr} {o:HO}
theorem Un.any (u:Un fs ex H H1 h h1) {b:Addr} {ob:Obj} (q:h.get? b=some ob) (n:H b=none) (hx:b ∉ ex):∃ sl,h1.get? b=some { ob with slots:=sl }:=by
 by_cases hb:b ∈ fs
 ·exact u.slot b ob q n hb hx
 ·exact ⟨ob.slots,u.keep b ob q n hb hx⟩
theorem Un.kept (k:∀ b u,h.get? b=some u->h'.get? b=some u):Un fs ex H H h h' :=
 ⟨fun b ob q _ _ _=>k b ob q,fun b ob q _ _ _=>⟨ob.slots,k b ob q⟩,fun _ _ _ n _=>n,fun b ob q _=>⟨ob,k b ob q⟩,fun _ _ q=>q,fun _ _ _ q=>q,fun _ ps q=>⟨#[],by rw [q]; simp⟩⟩
theorem Un.refl:Un fs ex H H h h:=Un.kept fun _ _ q=>q
theorem Un.laid (k:∀ b u,h.get? b=some u->h'.get? b=some u) (hp:h.objs.size<=a) (hn:H a=none):Un fs ex H (upd H a o) h h' where
 keep:=fun b u q _ _ _=>k b u q
 slot:=fun b u q _ _ _=>⟨u.slots,k b u q⟩
 free:=fun b u q n _=>by rw [zU (yS (yT (yJ q) hp))]; exact n
 there:=fun b u q _=>⟨u,k b u q⟩
 tups:=fun b xs q=>by rw [zU (zaH q hn)]; exact q
 frzs:=fun b u xs q=>by rw [zU (zaH q hn)]; exact q
 tbls:=fun b ps q=>⟨#[],by rw [zU (zaH q hn),q]; simp⟩
theorem Un.write (mu:Mut (H x)) (he:e=x\/H e=some (.own x)) (k:∀ b u,b≠e->h.get? b=some u->h'.get? b=some u) (heo:∃ u,h'.get? e=some u):Un fs ex H (upd H x o) h h':=by
 have hx:∀ b,H b=none->b≠x:=fun b n z=>by subst z; rw [n] at mu; exact mu
 have hb:∀ b,H b=none->b≠e:=fun b n z=>by
  subst z
  rcases he with r | r
  ·exact hx b n r
  ·rw [n] at r; cases r
 have hm:∀ b u,H b=some u->¬ Mut (some u)->b≠x:=fun b u q nm z=>by subst z; rw [q] at mu; exact nm mu
 refine ⟨fun b u q n _ _=>k b u (hb b n) q,fun b u q n _ _=>⟨u.slots,k b u (hb b n) q⟩,fun b u q n _=>by rw [zU (hx b n)]; exact n,fun b u q _=>?_,
  fun b xs q=>by rw [zU (hm b _ q fun z=>z)]; exact q,fun b u xs q=>by rw [zU (hm b _ q fun z=>z)]; exact q,fun b ps q=>⟨#[],by rw [zU (hm b _ q fun z=>z),q]; simp⟩⟩
 by_cases hbe:b=e
 ·subst hbe; exact heo
 ·exact ⟨u,k b u hbe q⟩
end
def zoi (g h:Heap) (L:Addr):List (Addr × Obj):=(List.range h.objs.size).filterMap fun a=>if a=L\/(g.get? a).isSome=true then none else (h.get? a).map fun o=>(a,o)
def zdF (g h:Heap) (L d:Addr):List (Addr × Obj):=(zoi g h L).filter fun p=>decide (p.1≠d)
def zd0 (q:Str):Obj:=⟨.str q 0,none,.freed,#[]⟩
def ziE (base:Heap) (H:Hp):Prop:=∀ P q,base.objs[P]?=some (zd0 q)->∃ ps,H P=some (.tbl ps)/\ps[0]?=some (.str q 0)
theorem ziE.un {base:Heap} {H H':Hp} (t:ziE base H) (u:∀ b ps,H b=some (.tbl ps)->∃ more,H' b=some (.tbl (ps ++ more))):ziE base H':=fun P q e=>by
 obtain ⟨ps,e1,e2⟩:=t P q e; obtain ⟨more,e3⟩:=u P ps e1; refine ⟨_,e3,?_⟩
 rw [Array.getElem?_append_left (by rw [Array.getElem?_eq_some_iff] at e2; exact e2.1)]
 exact e2
def zqB:Obj:=⟨.none,none,.freed,#[]⟩
def zlq (o:Obj):Option HO->Obj
 | some (.tbl ps)=>match (ps[0]?:Option Value) with
  | some (.str q 0)=>zd0 q
  | _=>zqB
 | some _=>zqB
 | none=>match o.data with
  | .freed=>zqB
  | _=>o
def nrm (h:Heap) (H:Hp):Heap:=⟨h.objs.mapIdx fun a o=>zlq o (H a),h.life⟩
theorem zlp (h:Heap) (H:Hp):(nrm h H).objs.size=h.objs.size:=by unfold nrm; simp
theorem zhD (h:Heap) (H:Hp) (b:Addr):(nrm h H).objs[b]?=(h.objs[b]?).map fun o=>zlq o (H b):=by unfold nrm; simp
theorem zeH {h:Heap} {b:Addr} {o:Obj} (e:h.objs[b]?=some o) (n:o.data≠.freed):h.get? b=some o:=by
 unfold Heap.get?
 rw [e]; obtain ⟨c,d,dt,sl⟩:=o
 cases dt <;> first | rfl | exact yL rfl n
theorem zdl {h:Heap} {b:Addr} {o:Obj} (e:h.get? b=some o):h.objs[b]?=some o/\o.data≠.freed:=by
 unfold Heap.get? at e
 cases q:h.objs[b]? with
 | none=>rw [q] at e; cases e
 | some u =>
  rw [q] at e; obtain ⟨c,d,dt,sl⟩:=u
  cases dt <;> first | (cases e; exact ⟨rfl,fun z=>nomatch z⟩) | cases e
theorem znI {h:Heap} {H:Hp} {b:Addr} {o:Obj} (e:h.get? b=some o) (n:H b=none):(nrm h H).get? b=some o:=by
 obtain ⟨e1,e2⟩:=zdl e; refine zeH ?_ e2; rw [zhD,e1,n]
 show some (zlq o none)=some o
 obtain ⟨c,d,dt,sl⟩:=o
 cases dt <;> first | rfl | exact yL rfl e2
theorem zpq {h:Heap} {H:Hp} {b:Addr} {o:Obj} (e:(nrm h H).get? b=some o):h.get? b=some o/\H b=none:=by
 obtain ⟨e1,e2⟩:=zdl e; rw [zhD] at e1
 cases q:h.objs[b]? with
 | none=>rw [q] at e1; cases e1
 | some u =>
  rw [q] at e1
  have e3:zlq u (H b)=o:=Option.some.inj e1
  cases z:H b with
  | some t =>
   rw [z] at e3
   exfalso
   unfold zlq at e3; split at e3
   ·split at e3 <;> exact e2 (by rw [<- e3]; rfl)
   ·exact e2 (by rw [<- e3]; rfl)
   ·rename_i y; cases y
  | none =>
   rw [z] at e3; refine ⟨?_,rfl⟩; obtain ⟨c,d,dt,sl⟩:=u; unfold zlq at e3
   cases dt <;> first | (cases e3; exact zeH q fun y=>nomatch y) | exact yL (show o.data=.freed by rw [<- e3]; rfl) e2
theorem zlo (h:Heap) (H:Hp):ziE (nrm h H) H:=fun P q e=>by
 rw [zhD] at e
 cases z:h.objs[P]? with
 | none=>rw [z] at e; cases e
 | some u =>
  rw [z] at e
  have e3:zlq u (H P)=zd0 q:=Option.some.inj e
  cases y:H P with
  | none =>
   rw [y] at e3
   exfalso
   obtain ⟨c,d,dt,sl⟩:=u; unfold zlq zd0 zqB at e3
   cases dt <;> cases e3
  | some t =>
   rw [y] at e3; unfold zlq at e3; split at e3
   ·rename_i ps hps
    cases hps; split at e3
    ·rename_i q' hq
     cases e3; exact ⟨_,rfl,hq⟩
    ·cases e3
   ·cases e3
   ·rename_i hh; cases hh
structure Mod (K:W.Frag) (mg:Str->Option Value) (base:Heap):Prop where
 kin:K.In base
 glob:base.Ns mainGlobals mg
 blt:∃ mb,base.Ns builtinsNs mb/\∀ x:Str,x≠"__name__"->mb x=bootBuiltins x
 nolimit:base.NoLimit
 bm:∃ bm ob,mg "__builtins__"=some (.ref bm)/\bm≠builtinsNs/\base.get? bm=some ob/\ob.cls=.type "module"/\ob.dict=some builtinsNs/\ob.data=.plain
/-- the context: a def's body (or a comprehension's block) running. base: fixed through the whole law; s₀, H₀: the entry; outer: the frames whose slots others may change (a def's callers); stack: all frames that run;
   ex: iterators that were made ahead of the entry and are walked here (a comprehension's); fn: the names whose cells were made at the entry (a def: all; a comprehension's block: its own); calm: not within an except suite; pn: pins that every state bears; xe: what is wanted of an exception that leaves the code -/
structure Cx where
 prog:Program
 w:World
 K:W.Frag
 mg:Str->Option Value
 base:Heap
 A:Around
 N:List Str
 s₀:Shared
 H₀:Hp
 env:Env
 outer:List Env
 stack:List Env
 ex:List Addr
 fn:Str->Bool
 calm:Bool
 pn:List (Addr × Obj)
 xe:Value->Shared->Prop
def frs (l:List Env):List Addr:=l.filterMap (·.frame)
abbrev Cx.fs (X:Cx):List Addr:=frs X.outer
def Vis (sc:Scope) (x:Str):Prop:=sc.names.lookup x=some .local\/sc.names.lookup x=some .cell\/sc.names.lookup x=some .free
def Loc (sc:Scope) (x:Str):Prop:=sc.names.lookup x=some .local\/sc.names.lookup x=some .cell
def zs1 (env:Env) (h:Heap) (m:Str->Option Value) (x:Str) (u:Value):Prop :=
 (env.kindOf x=some .local/\m x=some u)\/((env.kindOf x=some .cell\/env.kindOf x=some .free)/\∃ c,env.cells.lookup x=some c/\h.IsCell c (some u))
structure Cx.Ok (X:Cx):Prop where
 mod:Mod X.K X.mg X.base
 kind:X.env.scope.kind=.function
 glob:X.env.globals=mainGlobals
 blt:X.env.builtins=builtinsNs
 above:X.s₀.heap.objs.size<=X.env.locals
 inj:∀ x y c,X.env.cells.lookup x=some c->X.env.cells.lookup y=some c->x=y
 has:∀ x,(X.env.kindOf x=some .cell\/X.env.kindOf x=some .free)->∃ c,X.env.cells.lookup x=some c
 cab:∀ x c,X.fn x=true->X.env.cells.lookup x=some c->X.s₀.heap.objs.size<=c
 hd:X.calm=true->X.A.handled=none
 frames:X.A.frames=some X.stack
 stk:X.stack=X.outer\/(X.stack=X.env :: X.outer/\X.env.frame=some X.env.locals)
 exf:∀ b ∈ X.ex,b≠X.env.locals/\∀ x c,X.env.cells.lookup x=some c->c≠b
 bs:∀ b o,X.base.get? b=some o->X.s₀.heap.get? b=some o/\X.H₀ b=none
 bsz:X.base.objs.size<=X.s₀.heap.objs.size
 noex:∀ b o,X.base.get? b=some o->b ∉ X.ex
 exfs:∀ b ∈ X.ex,b ∉ X.fs
 funs:X.s₀.heap.FunFrames X.base X.outer
 frf:∀ b ∈ X.fs,X.H₀ b=none
 tab:ziE X.base X.H₀
structure Inv (X:Cx) (pins:List (Addr × Obj)) (σ:List (Option V)) (H:Hp) (s:Shared):Prop where
 ok:X.Ok
 os:s.os=X.s₀.os
 bare:AllBare s.gens
 base:Un X.fs X.ex X.H₀ H X.s₀.heap s.heap
 loc:∃ m,s.heap.Ns X.env.locals m/\∀ (i:Nat) (x:Str) (v:V),X.N[i]?=some x->σ[i]?=some (some v)->Vis X.env.scope x->∃ u,zbh v u/\zs1 X.env s.heap m x u
 cell:∀ x c,X.env.cells.lookup x=some c->∃ v,s.heap.IsCell c v
 free:H X.env.locals=none
 freeC:∀ x c,X.env.cells.lookup x=some c->H c=none
 pin:∀ p ∈ X.pn ++ pins,s.heap.get? p.1=some p.2/\H p.1=none/\p.1≠X.env.locals/\p.1 ∉ X.fs/\∀ v,p.2.data≠.cell v
 hok:HOk X.prog X.w H s.heap
 len:σ.length=X.N.length
section
variable {X:Cx} {pins:List (Addr × Obj)} {σ:List (Option V)} {H H':Hp} {s:Shared} {h':Heap}
theorem Cx.Ok.nofr (ok:X.Ok) {b:Addr} {o:Obj} (e:X.base.get? b=some o):b ∉ X.fs:=fun hb=>by
 have:=(ok.funs.mem hb).1
 rw [e] at this; cases this
theorem Inv.bs (I:Inv X pins σ H s):∀ b o,X.base.get? b=some o->s.heap.get? b=some o/\H b=none:=fun b o e =>
 ⟨I.base.keep b o (I.ok.bs b o e).1 (I.ok.bs b o e).2 (I.ok.nofr e) (I.ok.noex b o e),I.base.free b o (I.ok.bs b o e).1 (I.ok.bs b o e).2 (I.ok.noex b o e)⟩
theorem Inv.bk (I:Inv X pins σ H s):∀ b o,X.base.get? b=some o->s.heap.get? b=some o:=fun b o e=>(I.bs b o e).1
theorem Inv.mod (I:Inv X pins σ H s):Mod X.K X.mg X.base:=I.ok.mod
theorem Inv.kIn (I:Inv X pins σ H s):X.K.In s.heap:=I.ok.mod.kin.keeps I.bk
theorem Inv.lt (I:Inv X pins σ H s):X.env.locals<s.heap.objs.size:=let ⟨_,hn,_⟩:=I.loc; hn.lt
theorem Inv.sz (I:Inv X pins σ H s):X.s₀.heap.objs.size<=s.heap.objs.size:=yu I.ok.above (Nat.le_of_lt I.lt)
theorem Inv.nofs (I:Inv X pins σ H s) {a:Addr} (h:s.heap.objs.size<=a):a ∉ X.fs:=fun hb=>by
 obtain ⟨_,o,ho,_⟩:=I.ok.funs.mem hb; exact yL (yT (yJ ho) (yu I.sz h)) (Yg _)
theorem Inv.cne (I:Inv X pins σ H s):∀ x c,X.env.cells.lookup x=some c->c≠X.env.locals:=fun x c e z=>by
 obtain ⟨v,o,ho,hd⟩:=I.cell x c e
 obtain ⟨m,⟨o',es,ep,ho',hd',_⟩,_⟩:=I.loc
 rw [z,ho'] at ho; cases ho; rw [hd'] at hd; cases hd
theorem Inv.funs (I:Inv X pins σ H s):s.heap.FunFrames X.base X.outer:=by
 have all:∀ (l:List Env),(∀ b ∈ frs l,b ∈ X.fs)->X.s₀.heap.FunFrames X.base l->s.heap.FunFrames X.base l:=by
  intro l
  induction l with
  | nil=>intro _ _; trivial
  | cons env r ih =>
   intro hs hl
   obtain ⟨hk,⟨L,o,hf,hn,ho,hd⟩,hr⟩:=hl
   have hL:L ∈ X.fs:=hs L (by unfold frs; rw [List.filterMap_cons,hf]; exact yh)
   obtain ⟨sl,e⟩:=I.base.slot L o ho (I.ok.frf L hL) hL fun z=>I.ok.exfs L z hL
   exact ⟨hk,⟨L,_,hf,hn,e,hd⟩,ih (fun b hb=>hs b (by unfold frs; rw [List.filterMap_cons,hf]; exact yV _ hb)) hr⟩
 exact all X.outer (fun _ hb=>hb) I.ok.funs
theorem Inv.stack (I:Inv X pins σ H s):s.heap.FunFrames X.base X.stack:=by
 rcases I.ok.stk with e | ⟨e,hf⟩
 ·rw [e]; exact I.funs
 ·rw [e]
  obtain ⟨m,hn,_⟩:=I.loc
  refine .cons (by rw [I.ok.kind]; decide) hf hn ?_ I.funs
  exact Heap.get?_none_of_le (yu I.ok.bsz I.ok.above)
theorem Inv.stkSub (I:Inv X pins σ H s):∀ b ∈ frs X.stack,b ∈ X.env.locals :: X.fs:=fun b hb=>by
 rcases I.ok.stk with e | ⟨e,hf⟩
 ·rw [e] at hb; exact yV _ hb
 ·rw [e] at hb
  unfold frs at hb; rw [List.filterMap_cons,hf] at hb; exact hb
theorem Inv.stkFree (I:Inv X pins σ H s):∀ b ∈ frs X.stack,H b=none:=fun b hb=>by
 rcases yO.mp (I.stkSub b hb) with e | hb
 ·rw [e]; exact I.free
 ·obtain ⟨_,o,ho,_⟩:=I.ok.funs.mem hb
  exact I.base.free b o ho (I.ok.frf b hb) fun z=>I.ok.exfs b z hb
theorem Inv.step {g':Array GenState} {t':Nat} {d':Drawn} {ch:List Addr} (I:Inv X pins σ H s)
  (hch:∀ b ∈ ch,(b ∈ X.ex\/X.s₀.heap.objs.size<=b)/\b≠X.env.locals/\(∀ x c,X.env.cells.lookup x=some c->c≠b)/\∀ p ∈ X.pn ++ pins,p.1≠b)
  (keep:∀ b o,b≠X.env.locals->b ∉ X.fs->b ∉ ch->s.heap.get? b=some o->H b=none->h'.get? b=some o)
  (slot:∀ b o,b≠X.env.locals->b ∈ X.fs->b ∉ ch->s.heap.get? b=some o->H b=none->∃ sl,h'.get? b=some { o with slots:=sl }) (free:∀ b o,b ∉ ch->s.heap.get? b=some o->H b=none->H' b=none)
  (there:∀ b o,b ∉ ch->s.heap.get? b=some o->∃ o',h'.get? b=some o')
  (tups:∀ b xs,H b=some (.tup xs)->H' b=some (.tup xs)) (frzs:∀ b o u,H b=some (.frz o u)->H' b=some (.frz o u)) (tbls:∀ b ps,H b=some (.tbl ps)->∃ more,H' b=some (.tbl (ps ++ more)))
  (ns:∀ m,s.heap.Ns X.env.locals m->h'.Ns X.env.locals m) (hok:HOk X.prog X.w H' h') (hg:AllBare g') :
  Inv X pins σ H' { s with heap:=h',gens:=g',drawn:=d',toks:=t' }:=by
 have neL:∀ b o,X.s₀.heap.get? b=some o->b≠X.env.locals:=fun b o e=>yS (yT (yJ e) I.ok.above)
 have neC:∀ b o,X.s₀.heap.get? b=some o->b ∉ X.ex->b ∉ ch:=fun b o e hx hb=>by
  rcases (hch b hb).1 with z | z
  ·exact hx z
  ·exact yL (yT (yJ e) z) (Yg _)
 have cellK:∀ x c,X.env.cells.lookup x=some c->∀ v,s.heap.IsCell c v->h'.IsCell c v:=fun x c e v ⟨o,ho,hd⟩=>by
  have nch:c ∉ ch:=fun z=>(hch c z).2.2.1 x c e rfl
  by_cases hc:c ∈ X.fs
  ·obtain ⟨sl,q⟩:=slot c o (I.cne x c e) hc nch ho (I.freeC x c e)
   exact ⟨_,q,hd⟩
  ·exact ⟨o,keep c o (I.cne x c e) hc nch ho (I.freeC x c e),hd⟩
 refine ⟨I.ok,I.os,hg,⟨fun b o e n hb hx=>?_,fun b o e n hb hx=>?_,fun b o e n hx=>?_,fun b o e hx=>?_,fun b xs e=>tups b xs (I.base.tups b xs e),fun b o xs e=>frzs b o xs (I.base.frzs b o xs e),fun b ps e=>?_⟩,?_,fun x c e=>?_,?_,fun x c e=>?_,fun p hp=>?_,hok,I.len⟩
 ·exact keep b o (neL b o e) hb (neC b o e hx) (I.base.keep b o e n hb hx) (I.base.free b o e n hx)
 ·obtain ⟨sl,e1⟩:=I.base.slot b o e n hb hx
  obtain ⟨sl',e2⟩:=slot b _ (neL b o e) hb (neC b o e hx) e1 (I.base.free b o e n hx); exact ⟨sl',e2⟩
 ·obtain ⟨o',e1⟩:=I.base.there b o e hx
  exact free b o' (neC b o e hx) e1 (I.base.free b o e n hx)
 ·obtain ⟨o',e1⟩:=I.base.there b o e hx
  exact there b o' (neC b o e hx) e1
 ·obtain ⟨m1,e1⟩:=I.base.tbls b ps e
  obtain ⟨m2,e2⟩:=tbls b _ e1
  exact ⟨m1 ++ m2,by rw [e2,Array.append_assoc]⟩
 ·obtain ⟨m,hn,hl⟩:=I.loc
  refine ⟨m,ns m hn,fun i x v e1 e2 e3=>?_⟩
  obtain ⟨u,r,l⟩:=hl i x v e1 e2 e3; refine ⟨u,r,?_⟩
  rcases l with l | ⟨k,c,e,z⟩
  ·exact .inl l
  ·exact .inr ⟨k,c,e,cellK x c e _ z⟩
 ·obtain ⟨v,z⟩:=I.cell x c e
  exact ⟨v,cellK x c e v z⟩
 ·obtain ⟨m,⟨o,_,_,ho,_⟩,_⟩:=I.loc
  exact free _ o (fun z=>(hch _ z).2.1 rfl) ho I.free
 ·obtain ⟨v,o,ho,hd⟩:=I.cell x c e
  exact free c o (fun z=>(hch c z).2.2.1 x c e rfl) ho (I.freeC x c e)
 ·obtain ⟨e,n,ne,nf,d⟩:=I.pin p hp
  have nch:p.1 ∉ ch:=fun z=>(hch p.1 z).2.2.2 p hp rfl
  exact ⟨keep p.1 p.2 ne nf nch e n,free p.1 p.2 nch e n,ne,nf,d⟩
theorem Inv.un {t':Nat} (I:Inv X pins σ H s) (u:Un X.fs [] H H' s.heap h') (hok:HOk X.prog X.w H' h'):Inv X pins σ H' { s with heap:=h',toks:=t' }:=by
 obtain ⟨m,⟨o,es,ep,ho,r⟩,_⟩:=id I.loc
 obtain ⟨sl,hL⟩:=u.any ho I.free (by simp)
 exact I.step (g':=s.gens) (d':=s.drawn) (ch:=[]) (fun _ z=>nomatch z) (fun b o _ hb _ e n=>u.keep b o e n hb (by simp)) (fun b o _ hb _ e n=>u.slot b o e n hb (by simp)) (fun b o _ e n=>u.free b o e n (by simp)) (fun b o _ e=>u.there b o e (by simp)) u.tups u.frzs u.tbls (fun m' hm=>by
  obtain ⟨o',es',ep',ho',r'⟩:=hm
  rw [ho] at ho'; cases ho'
  exact ⟨_,es',ep',hL,r'⟩) hok I.bare
theorem Inv.call {g':Array GenState} {t':Nat} {d':Drawn} {ch:List Addr} (I:Inv X pins σ H s) (u:Un (frs X.stack) ch H H' s.heap h') (hok:HOk X.prog X.w H' h') (hg:AllBare g')
  (hch:∀ b ∈ ch,(b ∈ X.ex\/X.s₀.heap.objs.size<=b)/\b≠X.env.locals/\(∀ x c,X.env.cells.lookup x=some c->c≠b)/\∀ p ∈ X.pn ++ pins,p.1≠b) :
  Inv X pins σ H' { s with heap:=h',gens:=g',drawn:=d',toks:=t' }:=by
 obtain ⟨m,⟨o,es,ep,ho,r⟩,_⟩:=id I.loc
 obtain ⟨sl,hL⟩:=u.any ho I.free fun z=>(hch _ z).2.1 rfl
 exact I.step (ch:=ch) hch (fun b o hL hb hc e n=>u.keep b o e n (fun z=>(yO.mp (I.stkSub b z)).elim hL hb) hc) (fun b o _ _ hc e n=>u.any e n hc) (fun b o hc e n=>u.free b o e n hc) (fun b o hc e=>u.there b o e hc) u.tups u.frzs u.tbls (fun m' hm=>by
  obtain ⟨o',es',ep',ho',r'⟩:=hm
  rw [ho] at ho'; cases ho'
  exact ⟨_,es',ep',hL,r'⟩) hok hg
theorem Inv.turned {t':Nat} {it:Addr} (I:Inv X pins σ H s) (k:∀ b o,b≠it->s.heap.get? b=some o->h'.get? b=some o) (hn:H it=none) (hL:it≠X.env.locals)
  (h1:it ∈ X.ex\/X.s₀.heap.objs.size<=it) (h2:∀ x c,X.env.cells.lookup x=some c->c≠it) (h3:∀ p ∈ X.pn ++ pins,p.1≠it):Inv X pins σ H { s with heap:=h',toks:=t' }:=by
 have nit:∀ b u,H b=some u->b≠it:=fun b u e z=>by rw [z,hn] at e; cases e
 refine I.step (g':=s.gens) (d':=s.drawn) (ch:=[it]) (fun b hb=>?_) (fun b o _ _ hc e _=>k b o (fun z=>hc (by simp [z])) e) (fun b o _ _ hc e _=>⟨o.slots,k b o (fun z=>hc (by simp [z])) e⟩) (fun _ _ _ _ n=>n)
  (fun b o hc e=>⟨o,k b o (fun z=>hc (by simp [z])) e⟩) (fun _ _ e=>e) (fun _ _ _ e=>e) (fun b ps e=>⟨#[],by rw [e]; simp⟩) (fun m hm=>?_) (fun b u e=>?_) I.bare
 ·have e:b=it:=by simpa using hb
  subst e; exact ⟨h1,hL,h2,h3⟩
 ·obtain ⟨o,es,ep,ho,r⟩:=hm
  exact ⟨o,es,ep,k _ o (Ne.symm hL) ho,r⟩
 ·refine (I.hok b u e).stay (fun c v hc q=>k c v ?_ q) (fun _ q=>q) fun _ _ q=>q
  rcases hc with z | z
  ·rw [z]; exact nit b u e
  ·exact nit c _ z
theorem Inv.tok (I:Inv X pins σ H s) (t:Nat):Inv X pins σ H { s with toks:=t }:=I.un (h':=s.heap) (t':=t) Un.refl I.hok
theorem Inv.kept {t':Nat} (I:Inv X pins σ H s) (k:∀ b u,s.heap.get? b=some u->h'.get? b=some u):Inv X pins σ H { s with heap:=h',toks:=t' }:=I.un (Un.kept k) (I.hok.kept k)
theorem Inv.laid {a:Addr} {o:HO} {t':Nat} (I:Inv X pins σ H s) (k:∀ b u,s.heap.get? b=some u->h'.get? b=some u) (hp:s.heap.objs.size<=a) (new:zbv X.prog X.w (upd H a o) h' a o) :
  Inv X pins σ (upd H a o) { s with heap:=h',toks:=t' }:=I.un (Un.laid k hp (I.hok.fresh hp)) (I.hok.laid k hp new)
theorem Inv.write {x e:Addr} {o:HO} {t':Nat} (I:Inv X pins σ H s) (mu:Mut (H x)) (he:e=x\/H e=some (.own x)) (k:∀ b u,b≠e->s.heap.get? b=some u->h'.get? b=some u) (heo:∃ u,h'.get? e=some u)
  (new:zbv X.prog X.w (upd H x o) h' x o):Inv X pins σ (upd H x o) { s with heap:=h',toks:=t' }:=I.un (Un.write mu he k heo) (I.hok.write mu he k heo new)
theorem Inv.pins_of {pins':List (Addr × Obj)} (I:Inv X pins σ H s) (h:∀ p ∈ pins',s.heap.get? p.1=some p.2/\H p.1=none/\p.1≠X.env.locals/\p.1 ∉ X.fs/\∀ v,p.2.data≠.cell v):Inv X pins' σ H s :=
 ⟨I.ok,I.os,I.bare,I.base,I.loc,I.cell,I.free,I.freeC,fun p hp=>(YB.mp hp).elim (fun z=>I.pin p (List.mem_append_left _ z)) (h p),I.hok,I.len⟩
theorem zhE {N:List Str} (hN:N.Nodup) {i j:Nat} {x:Str} (a:N[i]?=some x) (b:N[j]?=some x):i=j:=by
 obtain ⟨h1,e1⟩:=yG.mp a; obtain ⟨h2,e2⟩:=yG.mp b; exact (List.getElem_inj hN).mp (e1.trans e2.symm)
theorem zfO {M:Model} {A:Around} {E:Value->Shared->Prop} {i:Nat} {x:Str} {v:V} {u:Value} {Q:Unit->Shared->Prop} (I:Inv X pins σ H s) (hN:X.N.Nodup) (hi:X.N[i]?=some x) (hx:Loc X.env.scope x) (r:zbh v u)
  (h:∀ s',Inv X pins (σ.set i (some v)) H s'->(∃ a,Heap.SameBut a s.heap s'.heap/\(a=X.env.locals\/X.env.cells.lookup x=some a))->Q () s') (hf:X.fn x=true\/X.env.scope.names.lookup x=some .local:=by first | exact .inl rfl | exact .inr rfl | assumption):wpAny M A (storeName X.env x u) Q E s:=by
 obtain ⟨m,hn,hl⟩:=id I.loc
 have hcls:(X.env.scope.kind == .class || (X.env.scope.kind == .module && X.env.locals != X.env.globals))=false:=by rw [I.ok.kind]; rfl
 have hiσ:i<σ.length:=by rw [I.len]; exact (yG.mp hi).1
 have cne:=I.cne
 have tracked:∀ {a:Addr} {h':Heap},(∃ o,s.heap.get? a=some o/\H a=none)->Heap.SameBut a s.heap h'->HOk X.prog X.w H h':=fun {a h'} ha hs b ob e=>by
  obtain ⟨_,_,hfree⟩:=ha
  refine (I.hok b ob e).stay (fun c w' hc q=>(hs.2 c ?_).trans q) (fun _ q=>q) fun _ _ q=>q
  rintro rfl
  rcases hc with rfl | hc
  ·rw [hfree] at e; cases e
  ·rw [hfree] at hc; cases hc
 rcases hx with hk | hk
 ·refine wpAny_storeName_local hk hn (fun h' hn' hs=>?_) hcls
  obtain ⟨oL,_,_,hoL,_⟩:=id hn
  refine h _ ⟨I.ok,I.os,I.bare,⟨fun b o e n hb hx=>?_,fun b o e n hb hx=>?_,I.base.free,fun b o e hx=>?_,I.base.tups,I.base.frzs,I.base.tbls⟩,⟨_,hn',fun j y v' e1 e2 e3=>?_⟩,fun y c e=>?_,I.free,I.freeC,fun p hp=>?_,tracked ⟨oL,hoL,I.free⟩ hs,by simpa using I.len⟩ ⟨_,hs,.inl rfl⟩
  ·exact (hs.2 b (yS (yT (yJ e) I.ok.above))).trans (I.base.keep b o e n hb hx)
  ·obtain ⟨sl,e1⟩:=I.base.slot b o e n hb hx
   exact ⟨sl,(hs.2 b (yS (yT (yJ e) I.ok.above))).trans e1⟩
  ·obtain ⟨o',e1⟩:=I.base.there b o e hx
   exact ⟨o',(hs.2 b (yS (yT (yJ e) I.ok.above))).trans e1⟩
  ·by_cases hj:j=i
   ·subst hj
    rw [hi] at e1; cases e1
    rw [yz hiσ] at e2; cases e2
    exact ⟨u,r,.inl ⟨hk,by simp⟩⟩
   ·rw [yX (Ne.symm hj)] at e2
    obtain ⟨u',r',q⟩:=hl j y v' e1 e2 e3; refine ⟨u',r',?_⟩
    rcases q with ⟨k,e⟩ | ⟨k,c,e,z⟩
    ·refine .inl ⟨k,?_⟩
     have:y≠x:=fun e=>hj (zhE hN e1 (e ▸ hi))
     simp [this,e]
    ·exact .inr ⟨k,c,e,z.sameBut hs (cne y c e)⟩
  ·obtain ⟨w',z⟩:=I.cell y c e
   exact ⟨w',z.sameBut hs (cne y c e)⟩
  ·obtain ⟨e,n,ne,nf,d⟩:=I.pin p hp
   exact ⟨(hs.2 p.1 ne).trans e,n,ne,nf,d⟩
 ·have hfn:X.fn x=true:=by
   rcases hf with z | z
   ·exact z
   ·rw [z] at hk; cases hk
  obtain ⟨c,hc⟩:=I.ok.has x (.inl hk); obtain ⟨w',z⟩:=I.cell x c hc
  refine wpAny_storeName_cell I.ok.kind hk hc z (fun h' hc' hs=>?_)
  obtain ⟨oc,hoc,hocd⟩:=id z
  refine h { s with heap:=h' } ⟨I.ok,I.os,I.bare,⟨fun b o e n hb hx=>?_,fun b o e n hb hx=>?_,I.base.free,fun b o e hx=>?_,I.base.tups,I.base.frzs,I.base.tbls⟩,⟨m,hn.sameBut hs (Ne.symm (cne x c hc)),fun j y v' e1 e2 e3=>?_⟩,fun y c' e=>?_,I.free,I.freeC,fun p hp=>?_,tracked ⟨oc,hoc,I.freeC x c hc⟩ hs,by simpa using I.len⟩ ⟨c,hs,.inr hc⟩
  ·exact (hs.2 b (yS (yT (yJ e) (I.ok.cab x c hfn hc)))).trans (I.base.keep b o e n hb hx)
  ·obtain ⟨sl,e1⟩:=I.base.slot b o e n hb hx
   exact ⟨sl,(hs.2 b (yS (yT (yJ e) (I.ok.cab x c hfn hc)))).trans e1⟩
  ·obtain ⟨o',e1⟩:=I.base.there b o e hx
   exact ⟨o',(hs.2 b (yS (yT (yJ e) (I.ok.cab x c hfn hc)))).trans e1⟩
  ·by_cases hj:j=i
   ·subst hj
    rw [hi] at e1; cases e1
    rw [yz hiσ] at e2; cases e2; exact ⟨u,r,.inr ⟨.inl hk,c,hc,hc'⟩⟩
   ·rw [yX (Ne.symm hj)] at e2
    obtain ⟨u',r',q⟩:=hl j y v' e1 e2 e3; refine ⟨u',r',?_⟩
    rcases q with q | ⟨k,c',e,z'⟩
    ·exact .inl q
    ·refine .inr ⟨k,c',e,z'.sameBut hs ?_⟩
     rintro rfl
     exact hj (zhE hN e1 (I.ok.inj _ _ _ e hc ▸ hi))
  ·by_cases hcc:c'=c
   ·subst hcc; exact ⟨_,hc'⟩
   ·obtain ⟨w2,z2⟩:=I.cell y c' e
    exact ⟨w2,z2.sameBut hs hcc⟩
  ·obtain ⟨e,n,ne,nf,d⟩:=I.pin p hp
   refine ⟨(hs.2 p.1 ?_).trans e,n,ne,nf,d⟩; intro q; rw [q,hoc] at e
   have q':oc=p.2:=Option.some.inj e
   exact d w' (by rw [<- q']; exact hocd)
theorem zhm {M:Model} {A:Around} {E:Value->Shared->Prop} {i:Nat} {x:Str} {v:V} {u:Value} {Q:Unit->Shared->Prop} (I:Inv X pins σ H s) (hN:X.N.Nodup) (hi:X.N[i]?=some x) (hx:Loc X.env.scope x) (r:zbh v u)
  (h:∀ s',Inv X pins (σ.set i (some v)) H s'->Q () s') (hf:X.fn x=true\/X.env.scope.names.lookup x=some .local:=by first | exact .inl rfl | exact .inr rfl | assumption):wpAny M A (storeName X.env x u) Q E s :=
 zfO I hN hi hx r (fun s' I' _=>h s' I') hf
theorem Inv.call' {s':Shared} {ch:List Addr} (I:Inv X pins σ H s) (ho:s'.os=s.os) (u:Un (frs X.stack) ch H H' s.heap s'.heap) (hok:HOk X.prog X.w H' s'.heap) (hg:AllBare s'.gens)
  (hch:∀ b ∈ ch,(b ∈ X.ex\/X.s₀.heap.objs.size<=b)/\b≠X.env.locals/\(∀ x c,X.env.cells.lookup x=some c->c≠b)/\∀ p ∈ X.pn ++ pins,p.1≠b):Inv X pins σ H' s':=by
 obtain ⟨h',g',d',t',o'⟩:=s'
 have e:o'=s.os:=ho
 subst e; exact I.call (g':=g') (t':=t') (d':=d') u hok hg hch
end
abbrev XK:=Value->Option Addr->Hp->Prop
abbrev St:=List (Option V)
abbrev VK:=V->Hp->Prop
abbrev TE:=St->Hp->VK->Prop
abbrev TT:=St->Hp->(Bool->Hp->Prop)->Prop
abbrev TA:=St->Hp->(List V->Hp->Prop)->Prop
structure Ends where
 nx:St->Hp->Prop
 rt:VK
 bk:St->Hp->Prop:=fun _ _=>False
 ct:St->Hp->Prop:=fun _ _=>False
abbrev TS:=Ends->St->Hp->Prop
def EP (X:Cx) (pins:List (Addr × Obj)) (σ:St) (Q:VK) (u:Value) (s':Shared):Prop:=∃ v H',Inv X pins σ H' s'/\zbh v u/\Q v H'
def TP (X:Cx) (pins:List (Addr × Obj)) (σ:St) (Q:Bool->Hp->Prop) (b:Bool) (s':Shared):Prop:=∃ H',Inv X pins σ H' s'/\Q b H'
def AP (X:Cx) (pins:List (Addr × Obj)) (σ:St) (Q:List V->Hp->Prop) (us:List Value) (s':Shared):Prop:=∃ vs H',Inv X pins σ H' s'/\zaT vs us/\Q vs H'
def SP (X:Cx) (pins:List (Addr × Obj)) (D:Ends) (f:Flow) (s':Shared):Prop :=
 match f with
 | .next=>∃ σ' H',Inv X pins σ' H' s'/\D.nx σ' H'
 | .brk=>∃ σ' H',Inv X pins σ' H' s'/\D.bk σ' H'
 | .cont=>∃ σ' H',Inv X pins σ' H' s'/\D.ct σ' H'
 | .ret u=>∃ v σ' H',Inv X pins σ' H' s'/\zbh v u/\D.rt v H'
def PE (X:Cx) (e:Expr) (t:TE):Prop :=
 ∀ (pins:List (Addr × Obj)) (s:Shared) (σ:St) (H:Hp) (Q:VK),Inv X pins σ H s->t σ H Q->wpAny (model X.prog X.w) X.A (eval e X.env) (EP X pins σ Q) X.xe s
def PT (X:Cx) (e:Expr) (t:TT):Prop :=
 ∀ (pins:List (Addr × Obj)) (s:Shared) (σ:St) (H:Hp) (Q:Bool->Hp->Prop),Inv X pins σ H s->t σ H Q->wpAny (model X.prog X.w) X.A (isTrue e X.env (eval e X.env)) (TP X pins σ Q) X.xe s
def PW (X:Cx) (e:Expr) (t:TT):Prop :=
 ∀ (whole:Sem Value) (pins:List (Addr × Obj)) (s:Shared) (σ:St) (H:Hp) (Q:Bool->Hp->Prop),Inv X pins σ H s->t σ H Q->wpAny (model X.prog X.w) X.A (isTrue e X.env whole) (TP X pins σ Q) X.xe s
def PA (X:Cx) (es:List Expr) (t:TA):Prop :=
 ∀ (pos:Pos) (pins:List (Addr × Obj)) (s:Shared) (σ:St) (H:Hp) (Q:List V->Hp->Prop),Inv X pins σ H s->t σ H Q->wpAny (model X.prog X.w) X.A (spliced (backTo pos (starEach es X.env))) (AP X pins σ Q) X.xe s
def PS (X:Cx) (st:Stmt) (t:TS):Prop :=
 ∀ (pins:List (Addr × Obj)) (s:Shared) (σ:St) (H:Hp) (D:Ends),Inv X pins σ H s->t D σ H->wpAny (model X.prog X.w) X.A (exec st X.env) (SP X pins D) X.xe s
def PSs (X:Cx) (st:List Stmt) (t:TS):Prop :=
 ∀ (pins:List (Addr × Obj)) (s:Shared) (σ:St) (H:Hp) (D:Ends),Inv X pins σ H s->t D σ H->wpAny (model X.prog X.w) X.A (execs st X.env) (SP X pins D) X.xe s
theorem thn {α:Type} {t:Sem α} {Q Q':α->Shared->Prop} {M:Model} {A:Around} {E:Value->Shared->Prop} {s:Shared} (h:wpAny M A t Q E s) (hQ:∀ a s,Q a s->Q' a s):wpAny M A t Q' E s:=YD h hQ fun _ _ x=>x
section
variable {X:Cx}
def zss (i:Nat):TE:=fun σ H Q=>∃ v,σ[i]?=some (some v)/\Q v H
def tC (v:V):TE:=fun _ H Q=>Q v H
theorem zf0 {i:Nat} {x:Str} {pos:Pos} (hN:X.N[i]?=some x) (hv:Vis X.env.scope x) (hd:(x == ("__debug__":Str))=false:=by decide) (hcd:(x == ("__classdict__":Str))=false:=by decide):PE X (.Name x pos) (zss i):=by
 intro pins s σ H Q I h; obtain ⟨v,e,h⟩:=h; obtain ⟨m,hn,hl⟩:=I.loc; obtain ⟨u,r,l⟩:=hl i x v hN e hv
 have fin:EP X pins σ Q u s:=⟨v,H,I,r,h⟩
 rcases l with ⟨hk,hm⟩ | ⟨hk,c,hc,hcell⟩
 ·exact wpAny_Name (wpAny_loadName_local I.ok.kind hk hn hm fin) hd
 ·rcases hk with hk | hk
  ·exact wpAny_Name (wpAny_loadName_cell I.ok.kind hk hc hcell fin) hd
  ·exact wpAny_Name (wpAny_loadName_free I.ok.kind hk hc hcell fin hcd) hd
theorem zmn {i j pos}:PE X (.Constant (.int i) j pos) (tC (.int i)):=fun _ _ _ H _ I h=>wpAny_Constant_int ⟨.int i,H,I.tok _,⟨_,rfl⟩,h⟩
theorem zrf {b j pos}:PE X (.Constant (.bool b) j pos) (tC (.bl b)):=fun _ _ _ H _ I h=>Constant_bool ⟨.bl b,H,I,rfl,h⟩
theorem zpb {j pos}:PE X (.Constant .none j pos) (tC .non):=fun _ _ _ H _ I h=>Constant_none ⟨.non,H,I,rfl,h⟩
theorem zo9 {x j pos}:PE X (.Constant (.str x) j pos) (tC (.str x)):=fun _ _ _ H _ I h=>Calls.Constant_str ⟨.str x,H,I.tok _,⟨_,rfl⟩,h⟩
def Gl (X:Cx) (x:Str):Prop:=X.env.kindOf x=some .globalImplicit
theorem zez {E:Value->Shared->Prop} {pins:List (Addr × Obj)} {s:Shared} {σ:St} {H:Hp} {x:Str} {u:Value} {pos:Pos} {Q:Value->Shared->Prop} (I:Inv X pins σ H s) (hg:Gl X x) (hm:X.mg x=some u) (h:Q u s)
  (hd:(x == ("__debug__":Str))=false:=by decide):wpAny (model X.prog X.w) X.A (eval (.Name x pos) X.env) Q E s :=
 Calls.Name_function_global I.ok.kind hg (Calls.loadGlobal_global (by rw [I.ok.glob]; exact I.mod.glob.keeps I.bk) hm h) hd
theorem ze5 {E:Value->Shared->Prop} {pins:List (Addr × Obj)} {s:Shared} {σ:St} {H:Hp} {x:Str} {u:Value} {pos:Pos} {Q:Value->Shared->Prop} (I:Inv X pins σ H s) (hg:Gl X x) (hm:X.mg x=none) (hv:bootBuiltins x=some u) (h:Q u s)
  (hn:x≠"__name__":=by decide) (hd:(x == ("__debug__":Str))=false:=by decide):wpAny (model X.prog X.w) X.A (eval (.Name x pos) X.env) Q E s:=by
 obtain ⟨mb,h1,h2⟩:=I.mod.blt
 exact Calls.Name_function_global I.ok.kind hg (Calls.loadGlobal_builtin (by rw [I.ok.glob]; exact I.mod.glob.keeps I.bk) hm (by rw [I.ok.blt]; exact h1.keeps I.bk) ((h2 x hn).trans hv) h) hd
theorem znw {x:Str} {v:V} {u:Value} {pos:Pos} (hg:Gl X x) (hm:X.mg x=some u) (r:zbh v u) (hd:(x == ("__debug__":Str))=false:=by decide):PE X (.Name x pos) (tC v) :=
 fun _ _ _ H _ I h=>zez I hg hm ⟨v,H,I,r,h⟩ hd
theorem znA {x:Str} {v:V} {u:Value} {pos:Pos} (hg:Gl X x) (hm:X.mg x=none) (hv:bootBuiltins x=some u) (r:zbh v u) (hn:x≠"__name__":=by decide) (hd:(x == ("__debug__":Str))=false:=by decide):PE X (.Name x pos) (tC v) :=
 fun _ _ _ H _ I h=>ze5 I hg hm hv ⟨v,H,I,r,h⟩ hn hd
variable {a b:Expr} {ta tb:TE} {pos:Pos}
def tB (t:TE):TT:=fun σ H Q=>t σ H fun x H1=>∃ c,x=.bl c/\Q c H1
theorem zo0 {e:Expr} {t:TE} (h:PE X e t) (he:∀ whole,isTrue e X.env whole=(do let v <- whole; standAt e.pos; holding [v] (truthy v)):=by intro _; rfl):PT X e (tB t):=by
 intro pins s σ H Q I hw
 refine isTrue_plain (thn (h pins s σ H _ I hw) fun v s1 ⟨x,H1,I1,r1,q1⟩=>?_) (he _)
 obtain ⟨d,rfl,q⟩:=q1; cases r1; exact YV ⟨H1,I1,q⟩
variable {tA tB':TT} {zdF:List Expr}
def zsB (t u:TT):TT:=fun σ H Q=>t σ H fun c H1=>if c=true then u σ H1 Q else Q false H1
def tOr (t u:TT):TT:=fun σ H Q=>t σ H fun c H1=>if c=true then Q true H1 else u σ H1 Q
def zsw (t:TT):TT:=fun σ H Q=>t σ H fun c H1=>Q (!c) H1
theorem zm8 (ha:PT X a tA):PW X (.BoolOp .And [a] pos) tA:=by
 intro wh pins s σ H Q I h
 refine isTrue_and (thn (ha pins s σ H Q I h) fun c s1 e=>?_)
 cases c with
 | true=>exact isTrue_and_nil e
 | false=>exact e
theorem zoX (ha:PT X a tA):PW X (.BoolOp .Or [a] pos) tA:=by
 intro wh pins s σ H Q I h
 refine isTrue_or (thn (ha pins s σ H Q I h) fun c s1 e=>?_)
 cases c with
 | false=>exact isTrue_or_nil e
 | true=>exact e
theorem zoY (ha:PT X a tA) (hb:PW X (.BoolOp .And (b :: zdF) pos) tB'):PW X (.BoolOp .And (a :: b :: zdF) pos) (zsB tA tB'):=by
 intro wh pins s σ H Q I h
 refine isTrue_and (thn (ha pins s σ H _ I h) fun c s1 ⟨H1,I1,q1⟩=>?_)
 cases c with
 | true=>exact hb wh pins s1 σ H1 Q I1 q1
 | false=>exact ⟨H1,I1,q1⟩
theorem zq9 (ha:PT X a tA) (hb:PW X (.BoolOp .Or (b :: zdF) pos) tB'):PW X (.BoolOp .Or (a :: b :: zdF) pos) (tOr tA tB'):=by
 intro wh pins s σ H Q I h
 refine isTrue_or (thn (ha pins s σ H _ I h) fun c s1 ⟨H1,I1,q1⟩=>?_)
 cases c with
 | true=>exact ⟨H1,I1,q1⟩
 | false=>exact hb wh pins s1 σ H1 Q I1 q1
theorem zo1 (ha:PT X a tA):PT X (.UnaryOp .Not a pos) (zsw tA):=by
 intro pins s σ H Q I h
 exact isTrue_not (ha pins s σ H (fun c H1=>Q (!c) H1) I h)
def zqU (ta tb:TE):TE:=fun σ H Q=>ta σ H fun x H1=>∃ c,x=.bl c/\if c=true then tb σ H1 Q else Q (.bl false) H1
theorem zpa {op} {t:TE} (h:PE X a t):PE X (.BoolOp op [a] pos) t:=fun pins s σ H Q I hw=>BoolOp_one (h pins s σ H Q I hw)
theorem zph (ha:PE X a ta) (hb:PE X (.BoolOp .And (b :: zdF) pos) tb):PE X (.BoolOp .And (a :: b :: zdF) pos) (zqU ta tb):=by
 intro pins s σ H Q I h
 refine BoolOp_and (thn (ha pins s σ H _ I h) fun v s1 ⟨x,H1,I1,r1,q1⟩=>?_)
 obtain ⟨c,rfl,q1⟩:=q1; cases r1; refine YV ?_
 cases c with
 | true=>exact hb pins s1 σ H1 Q I1 q1
 | false=>exact ⟨.bl false,H1,I1,rfl,q1⟩
end
def SqL (K:W.Frag) (H:Hp) (a:Addr) (xs:List V):Prop :=
 Rd H a (.lst xs) \/
  ∃ (o:Obj) (its:Array Value) (n:Nat),K.lookup a=some o/\o.cls=.type "list"/\o.dict=none/\o.data=.seq its n/\its.size<=sizeLine/\zaT xs its.toList
def SqT (K:W.Frag) (H:Hp) (a:Addr) (xs:List V):Prop :=
 Rd H a (.tup xs) \/
  ∃ (o:Obj) (its:Array Value) (n:Nat),K.lookup a=some o/\o.cls=.type "tuple"/\o.data=.seq its n/\its.size<=sizeLine/\zaT xs its.toList
def zsX:Value->Option V
 | .none=>some .non
 | .bool b=>some (.bl b)
 | .int i _=>some (.int i)
 | .str x _=>some (.str x)
 | .bytes b _=>some (.byt b)
 | .float b _=>some (.flt b)
 | .ref a=>some (.ref a)
 | .type n=>some (.ty n)
 | _=>none
theorem zbh.abs {x:V} {u:Value} (r:zbh x u):zsX u=some x:=by
 cases x with
 | non=>cases r; rfl
 | bl _=>cases r; rfl
 | int _=>obtain ⟨t,rfl⟩:=r; rfl
 | str _=>obtain ⟨t,rfl⟩:=r; rfl
 | byt _=>obtain ⟨t,rfl⟩:=r; rfl
 | flt _=>obtain ⟨t,rfl⟩:=r; rfl
 | ref _=>cases r; rfl
 | ty _=>cases r; rfl
theorem zbh.inj {x y:V} {u:Value} (r:zbh x u) (q:zbh y u):x=y:=Option.some.inj (r.abs.symm.trans q.abs)
theorem zaT.inj:∀ {xs ys:List V} {us:List Value},zaT xs us->zaT ys us->xs=ys
 | _,_,_,.nil,.nil=>rfl
 | _,_,_,.cons r t,.cons r' t'=>by rw [r.inj r',zaT.inj t t']
section
variable {X:Cx} {pins:List (Addr × Obj)} {σ:St} {H:Hp} {s:Shared} {a:Addr} {xs ys:List V}
theorem SqL.of {K:W.Frag} (h:H a=some (.lst xs)):SqL K H a xs:=.inl (.inl h)
theorem SqT.of {K:W.Frag} (h:H a=some (.tup xs)):SqT K H a xs:=.inl (.inl h)
theorem Inv.list (I:Inv X pins σ H s) (h:SqL X.K H a xs):∃ its:List Value,zaT xs its/\PlainL s.heap a its.toArray/\xs.length<=sizeLine:=by
 rcases h with h | ⟨o,its,n,hk,hc,hd,hs,hz,r⟩
 ·obtain ⟨z,its,n,r,e⟩:=h.ok I.hok
  exact ⟨its,r,⟨_,n,e,rfl,rfl,rfl⟩,z⟩
 ·refine ⟨its.toList,r,⟨o,n,I.kIn a o hk,hc,hd,by simpa using hs⟩,?_⟩
  have e:=r.length; simp only [yj] at e; omega
theorem Inv.tuple (I:Inv X pins σ H s) (h:SqT X.K H a xs):∃ its:List Value,zaT xs its/\IsTup s.heap a its.toArray/\xs.length<=sizeLine:=by
 rcases h with h | ⟨o,its,n,hk,hc,hs,hz,r⟩
 ·obtain ⟨z,its,r,p⟩:=h.ok I.hok
  exact ⟨its,r,p,z⟩
 ·refine ⟨its.toList,r,⟨o,I.kIn a o hk,hc,n,by simpa using hs⟩,?_⟩
  have e:=r.length; simp only [yj] at e; omega
theorem Inv.list_inj (I:Inv X pins σ H s) (h:SqL X.K H a xs) (h':SqL X.K H a ys):xs=ys:=by
 obtain ⟨its,r,⟨o,n,e,_,_,d⟩,_⟩:=I.list h
 obtain ⟨its',r',⟨o',n',e',_,_,d'⟩,_⟩:=I.list h'
 rw [e] at e'; cases e'
 rw [d] at d'
 injection d' with d1 _
 have:its=its':=by simpa using yc Array.toList d1
 subst this; exact r.inj r'
theorem Inv.tuple_inj (I:Inv X pins σ H s) (h:SqT X.K H a xs) (h':SqT X.K H a ys):xs=ys:=by
 obtain ⟨its,r,⟨o,e,_,n,d⟩,_⟩:=I.tuple h
 obtain ⟨its',r',⟨o',e',_,n',d'⟩,_⟩:=I.tuple h'
 rw [e] at e'; cases e'
 rw [d] at d'
 injection d' with d1 _
 have:its=its':=by simpa using yc Array.toList d1
 subst this; exact r.inj r'
end
abbrev Cx.wish (X:Cx) (E:Value->Shared->Prop):Cx:={ X with xe:=E }
abbrev Cx.nox (X:Cx):Cx:=X.wish fun _ _=>False
theorem Cx.Ok.wish {X:Cx} (ok:X.Ok) (E:Value->Shared->Prop):(X.wish E).Ok :=
 ⟨ok.mod,ok.kind,ok.glob,ok.blt,ok.above,ok.inj,ok.has,ok.cab,ok.hd,ok.frames,ok.stk,ok.exf,ok.bs,ok.bsz,ok.noex,ok.exfs,ok.funs,ok.frf,ok.tab⟩
theorem Cx.Ok.unwish {X:Cx} {E:Value->Shared->Prop} (ok:(X.wish E).Ok):X.Ok :=
 ⟨ok.mod,ok.kind,ok.glob,ok.blt,ok.above,ok.inj,ok.has,ok.cab,ok.hd,ok.frames,ok.stk,ok.exf,ok.bs,ok.bsz,ok.noex,ok.exfs,ok.funs,ok.frf,ok.tab⟩
section
variable {X:Cx} {pins:List (Addr × Obj)} {σ:St} {H:Hp} {s:Shared} {E:Value->Shared->Prop}
theorem Inv.wish (I:Inv X pins σ H s) (E:Value->Shared->Prop):Inv (X.wish E) pins σ H s:=⟨I.ok.wish E,I.os,I.bare,I.base,I.loc,I.cell,I.free,I.freeC,I.pin,I.hok,I.len⟩
theorem Inv.unwish (I:Inv (X.wish E) pins σ H s):Inv X pins σ H s:=⟨I.ok.unwish,I.os,I.bare,I.base,I.loc,I.cell,I.free,I.freeC,I.pin,I.hok,I.len⟩
theorem SP.unwish {D:Ends} {f:Flow} {s':Shared} (h:SP (X.wish E) pins D f s'):SP X pins D f s':=by
 cases f with
 | next=>obtain ⟨σ',H',I,q⟩:=h; exact ⟨σ',H',I.unwish,q⟩
 | brk=>obtain ⟨σ',H',I,q⟩:=h; exact ⟨σ',H',I.unwish,q⟩
 | cont=>obtain ⟨σ',H',I,q⟩:=h; exact ⟨σ',H',I.unwish,q⟩
 | ret u=>obtain ⟨v,σ',H',I,r,q⟩:=h; exact ⟨v,σ',H',I.unwish,r,q⟩
theorem PE.nox {e:Expr} {t:TE} (h:PE X.nox e t):PE X e t:=fun pins s σ H Q I hw =>
 YD (h pins s σ H Q (I.wish _) hw) (fun _ _ ⟨v,H',I',r,q⟩=>⟨v,H',I'.unwish,r,q⟩) fun _ _ z=>False.elim z
theorem PSs.nox {st:List Stmt} {t:TS} (h:PSs X.nox st t):PSs X st t:=fun pins s σ H D I hw =>
 YD (h pins s σ H D (I.wish _) hw) (fun _ _ q=>q.unwish) fun _ _ z=>False.elim z
end
section
variable {X:Cx} {st:Stmt} {zdF:List Stmt} {t u:TS} {e:Expr} {te:TE} {pos:Pos}
def zqR:TS:=fun D σ H=>D.nx σ H
def zsu (t u:TS):TS:=fun D σ H=>t { D with nx:=u D } σ H
theorem znf:PSs X [] zqR:=fun _ _ σ H _ I h=>wpAny_execs_nil ⟨σ,H,I,h⟩
theorem zkY (h1:PS X st t) (h2:PSs X zdF u):PSs X (st :: zdF) (zsu t u):=by
 intro pins s σ H D I h
 refine wpAny_execs_cons (thn (h1 pins s σ H { D with nx:=u D } I h) fun f s1 q=>?_)
 cases f with
 | next =>
  obtain ⟨σ',H',I',q⟩:=q; exact h2 pins s1 σ' H' D I' q
 | ret v=>exact q
 | brk=>exact q
 | cont=>exact q
theorem zne (h1:PS X st t):PSs X [st] t:=by
 intro pins s σ H D I h
 refine wpAny_execs_cons (thn (h1 pins s σ H D I h) fun f s1 q=>?_)
 cases f with
 | next=>exact wpAny_execs_nil q
 | ret v=>exact q
 | brk=>exact q
 | cont=>exact q
theorem Inv.quiet {pins:List (Addr × Obj)} {σ:St} {H:Hp} {s:Shared} (I:Inv X pins σ H s):interactive X.env=false:=by simp [interactive,I.ok.kind]
def zqT (te:TE):TS:=fun D σ H=>te σ H fun _ H1=>D.nx σ H1
theorem zng (he:PE X e te) (hs:swapsWith e none pos.line X.env=pure false:=by rfl):PS X (.Expr e pos) (zqT te):=by
 intro pins s σ H D I h
 exact wpAny_Expr_any (thn (he pins s σ H _ I h) fun v s1 ⟨x,H1,I1,r1,q1⟩=>⟨σ,H1,I1,q1⟩) I.quiet hs
def zsv (te:TE):TS:=fun D σ H=>te σ H D.rt
theorem zml (he:PE X e te):PS X (.Return (some e) pos) (zsv te):=by
 intro pins s σ H D I h
 exact wpAny_Return_some (thn (he pins s σ H _ I h) fun v s1 ⟨x,H1,I1,r1,q1⟩=>⟨x,σ,H1,I1,r1,q1⟩)
def zsz (c:TT) (t u:TS):TS:=fun D σ H=>c σ H fun b H1=>if b=true then t D σ H1 else u D σ H1
theorem zra {c:Expr} {a b:List Stmt} {tc:TT} (hc:PT X c tc) (ha:PSs X a t) (hb:PSs X b u):PS X (.If c a b pos) (zsz tc t u):=by
 intro pins s σ H D I h
 refine wpAny_If (thn (hc pins s σ H _ I h) fun d s1 ⟨H1,I1,q1⟩=>?_)
 cases d with
 | true=>exact ha pins s1 σ H1 D I1 q1
 | false=>exact hb pins s1 σ H1 D I1 q1
end
abbrev TG:=V->St->Hp->(St->Hp->Prop)->Prop
abbrev TGs:=List V->St->Hp->(St->Hp->Prop)->Prop
def PG (X:Cx) (target:Expr) (t:TG):Prop :=
 ∀ (pins:List (Addr × Obj)) (s:Shared) (σ:St) (H:Hp) (v:V) (u:Value) (Q:St->Hp->Prop),Inv X pins σ H s->zbh v u->t v σ H Q ->
  wpAny (model X.prog X.w) X.A (assign target X.env u) (fun _ s'=>∃ σ' H',Inv X pins σ' H' s'/\Q σ' H') X.xe s
def PGs (X:Cx) (ts:List Expr) (t:TGs):Prop :=
 ∀ (pins:List (Addr × Obj)) (s:Shared) (σ:St) (H:Hp) (vs:List V) (us:List Value) (Q:St->Hp->Prop),Inv X pins σ H s->zaT vs us->t vs σ H Q ->
  wpAny (model X.prog X.w) X.A (assignInOrder ((assignEach ts X.env).map (·.2)) us) (fun _ s'=>∃ σ' H',Inv X pins σ' H' s'/\Q σ' H') X.xe s
section
variable {X:Cx} {pos:Pos}
def zpQ (i:Nat):TG:=fun v σ H Q=>Q (σ.set i (some v)) H
theorem znr {i:Nat} {x:Str} (hN:X.N.Nodup) (hi:X.N[i]?=some x) (hx:Loc X.env.scope x) (hf:X.fn x=true\/X.env.scope.names.lookup x=some .local:=by first | exact .inl rfl | exact .inr rfl | assumption):PG X (.Name x pos) (zpQ i):=by
 intro pins s σ H v u Q I r h
 exact wpAny_assign_Name (zhm I hN hi hx r (fun s' I'=>⟨_,H,I',h⟩) hf)
def zsR:TGs:=fun vs σ H Q=>vs=[]/\Q σ H
def zrD (t:TG) (u:TGs):TGs:=fun vs σ H Q=>∃ v r,vs=v :: r/\t v σ H fun σ' H'=>u r σ' H' Q
theorem znq:PGs X [] zsR:=by
 intro pins s σ H vs us Q I r h; obtain ⟨e,h⟩:=h; subst e; cases r; exact assignInOrder_nil ⟨σ,H,I,h⟩
theorem zk9 {e:Expr} {es:List Expr} {t:TG} {u:TGs} (h1:PG X e t) (h2:PGs X es u)
  (hs:(assignEach (e :: es) X.env).map (·.2)=assign e X.env :: (assignEach es X.env).map (·.2):=by rfl):PGs X (e :: es) (zrD t u):=by
 intro pins s σ H vs us Q I r h; obtain ⟨v,vr,e1,h⟩:=h; subst e1
 cases r with
 | cons r rr =>
  rw [hs]
  refine assignInOrder_cons (thn (h1 pins s σ H _ _ _ I r h) fun _ s1 ⟨σ1,H1,I1,q1⟩=>?_)
  exact h2 pins s1 σ1 H1 _ _ Q I1 rr q1
def zsQ (K:W.Frag) (n:Nat) (t:TGs):TG:=fun v σ H Q=>∃ a xs,v=.ref a/\SqT K H a xs/\xs.length=n/\t xs σ H Q
theorem zo7 {es:List Expr} {k:Nat} {t:TGs} {n:Nat} (hc:X.calm=true) (h:PGs X es t)
  (hn:(assignEach es X.env).length=n:=by rfl) (hst:(assignEach es X.env).findIdx? (·.1)=none:=by rfl):PG X (.Tuple es k pos) (zsQ X.K n t):=by
 intro pins s σ H v u Q I r hw; obtain ⟨a,xs,e1,hq,hl,hw⟩:=hw; subst e1; cases r; obtain ⟨its,rv,ht,hz⟩:=I.tuple hq
 refine assign_Tuple_tuple (I.ok.hd hc) ht (by simp [hn,<- hl,rv.length]) hst fun h' hx=>?_
 have I1:Inv X pins σ H { s with heap:=h' }:=I.kept (t':=s.toks) fun b o e=>hx b o (yS (yJ e)) e
 exact h pins _ σ H xs _ Q I1 (by simpa using rv) hw
def zr4 (te:TE) (g:TG):TS:=fun D σ H=>te σ H fun x H1=>g x σ H1 D.nx
theorem zo3 {tg e:Expr} {te:TE} {g:TG} (he:PE X e te) (hg:PG X tg g) (hs:swapsWithSole [tg] e pos.line X.env=pure false:=by rfl) (hw:swappedStores [tg] e X.env=pure none:=by rfl)
  (h1:(assignEach [tg] X.env).map (·.2)=[assign tg X.env]:=by rfl):PS X (.Assign [tg] e pos) (zr4 te g):=by
 intro pins s σ H D I h
 refine wpAny_Assign_stores (thn (he pins s σ H _ I h) fun v s1 ⟨x,H1,I1,r1,q1⟩=>?_) hs hw
 rw [h1]
 exact thn (hg pins s1 σ H1 x v _ I1 r1 q1) fun _ s2 q=>q
theorem zmk {i:Nat} {x:Str} {e:Expr} {te:TE} {pos':Pos} (hN:X.N.Nodup) (hi:X.N[i]?=some x) (hx:Loc X.env.scope x) (he:PE X e te) (hs:swapsWith e (some (.Name x pos')) pos.line X.env=pure false:=by rfl) (hf:X.fn x=true\/X.env.scope.names.lookup x=some .local:=by first | exact .inl rfl | exact .inr rfl | assumption) :
  PS X (.Assign [.Name x pos'] e pos) (zr4 te (zpQ i)):=by
 intro pins s σ H D I h
 refine wpAny_Assign_Name (thn (he pins s σ H _ I h) fun v s1 ⟨y,H1,I1,r1,q1⟩=>?_) hs
 exact zhm I1 hN hi hx r1 (fun s2 I2=>⟨_,H1,I2,q1⟩) hf
def zow (c:TT) (tb:TS):TS:=fun D σ H=>∃ W:Nat->St->Hp->Prop,(∃ m,W m σ H)/\∀ m σ H,W m σ H ->
 c σ H fun b H1=>if b=true then ∃ N:St->Hp->Prop,(∀ σ' H',N σ' H'->∃ m',m'<m/\W m' σ' H')/\tb { D with nx:=N,ct:=N,bk:=D.nx } σ H1 else D.nx σ H1
theorem zkZ {c:Expr} {body:List Stmt} {tc:TT} {tb:TS} (hp:PassesOwn (model X.prog X.w) X.A X.env X.xe) (hc:PT X c tc) (hb:PSs X body tb):PS X (.While c body [] pos) (zow tc tb):=by
 intro pins s σ H D I h
 obtain ⟨W,⟨m0,w0⟩,turn⟩:=h
 refine wpAny_While (codeAny_whileLoop (fun n s'=>∃ σ' H',Inv X pins σ' H' s'/\W n σ' H') ?_ m0 ⟨σ,H,I,w0⟩)
 rintro n s1 ⟨σ1,H1,I1,w1⟩
 refine Ye hp (thn (hc pins s1 σ1 H1 _ I1 (turn n σ1 H1 w1)) fun b s2 ⟨H2,I2,q2⟩=>?_)
 cases b with
 | true =>
  obtain ⟨N,hN,q2⟩:=q2; rw [yP rfl]
  refine Ye hp (thn (hb pins s2 σ1 H2 _ I2 q2) fun f s3 q3=>?_)
  cases f with
  | next =>
   obtain ⟨σ3,H3,I3,n3⟩:=q3; obtain ⟨m',hm,w3⟩:=hN σ3 H3 n3; exact ⟨m',hm,σ3,H3,I3,w3⟩
  | cont =>
   obtain ⟨σ3,H3,I3,n3⟩:=q3; obtain ⟨m',hm,w3⟩:=hN σ3 H3 n3; exact ⟨m',hm,σ3,H3,I3,w3⟩
  | brk=>exact q3
  | ret v=>exact q3
 | false =>
  rw [yN yI]; exact wpAny_execs_nil ⟨σ1,H2,I2,q2⟩
end
structure It where
 go:Nat->Hp->Prop
 yld:Nat->Hp->V->Hp->Prop
 stop:Nat->Hp->Prop
def zfL (X:Cx) (pins:List (Addr × Obj)) (H:Hp) (b:Addr):Prop :=
 H b=none/\b≠X.env.locals/\b ∉ X.fs/\(b ∈ X.ex\/X.s₀.heap.objs.size<=b)/\(∀ x c,X.env.cells.lookup x=some c->c≠b)/\∀ p ∈ X.pn ++ pins,p.1≠b
theorem Inv.fpOk {X:Cx} {pins:List (Addr × Obj)} {σ:St} {H H':Hp} {s:Shared} {b:Addr} (I:Inv X pins σ H s) (hb:s.heap.objs.size<=b) (hn:H' b=none):zfL X pins H' b:=by
 refine ⟨hn,Nat.ne_of_gt (yT I.lt hb),I.nofs hb,.inr (yu I.sz hb),fun x c e z=>?_,fun p hp z=>?_⟩
 ·obtain ⟨v,q⟩:=I.cell x c e
  exact yL (yT q.lt (by rw [z]; exact hb)) (Yg _)
 ·exact yL (yT (yJ (I.pin p hp).1) (by rw [z]; exact hb)) (Yg _)
structure Turn (P:Program) (w:World) (K:W.Frag) (tg:Expr) (J:It) (fp:List Addr) (it:Addr) (tn:Nat->Heap->Prop):Prop where
 mem:it ∈ fp
 obj:∀ i h,tn i h->∀ b ∈ fp,∃ o,h.get? b=some o/\∀ v,o.data≠.cell v
 keep:∀ i h h',tn i h->(∀ b ∈ fp,∀ o,h.get? b=some o->h'.get? b=some o)->tn i h'
 item:∀ (X:Cx),X.prog=P->X.w=w->X.K=K->X.calm=true->∀ (i:Nat) (pins:List (Addr × Obj)) (s:Shared) (σ:St) (H:Hp) (E:Value->Shared->Prop),Inv X pins σ H s->(∀ b ∈ fp,zfL X pins H b)->tn i s.heap->J.go i H ->
  wpAny (model P w) X.A (pyNext (.ref it)) (fun r s1=>∃ u,r=some u /\
   wpAny (model P w) X.A (letOwnedTupleGo tg (.ref it) u) (fun _ s2=>∃ x H',Inv X pins σ H' s2/\zbh x u/\J.yld i H x H'/\tn (i+1) s2.heap/\∀ b ∈ fp,H' b=none) E s1) E s
 done:∀ (X:Cx),X.prog=P->X.w=w->X.K=K->X.calm=true->∀ (i:Nat) (pins:List (Addr × Obj)) (s:Shared) (σ:St) (H:Hp) (E:Value->Shared->Prop),Inv X pins σ H s->(∀ b ∈ fp,zfL X pins H b)->tn i s.heap->J.stop i H ->
  wpAny (model P w) X.A (pyNext (.ref it)) (fun r s1=>r=none/\Inv X pins σ H s1) E s
 self:∀ (A:Around) (i:Nat) (s:Shared) (Q:Value->Shared->Prop) (E:Value->Shared->Prop),tn i s.heap->Q (.ref it) s->wpAny (model P w) A (pyIter (.ref it)) Q E s
abbrev TI:=St->Hp->(It->Hp->Prop)->Prop
def PIE (X:Cx) (pins:List (Addr × Obj)) (σ:St) (tg:Expr) (R:It->Hp->Prop) (itv:Value) (s2:Shared):Prop :=
 ∃ (it:Addr) (fp:List Addr) (tn:Nat->Heap->Prop) (J:It) (H':Hp),itv=.ref it/\Inv X pins σ H' s2/\Turn X.prog X.w X.K tg J fp it tn/\tn 0 s2.heap/\(∀ b ∈ fp,zfL X pins H' b)/\R J H'
def PI (X:Cx) (tg iter:Expr) (wi:TI):Prop :=
 ∀ (pins:List (Addr × Obj)) (s:Shared) (σ:St) (H:Hp) (R:It->Hp->Prop),Inv X pins σ H s->wi σ H R ->
  wpAny (model X.prog X.w) X.A (eval iter X.env) (fun v s1=>wpAny (model X.prog X.w) X.A (pyIter v) (PIE X pins σ tg R) X.xe s1) X.xe s
theorem zjN {M:Model} {A:Around} {E:Value->Shared->Prop} {s:Shared} {tg:Expr} {it:Addr} {u:Value} {o:Obj} {n:String} {vs:Array Value} {Q:Unit->Shared->Prop} (ho:s.heap.get? it=some o) (hc:o.cls=.type n) (hd:o.data=.fields vs)
    (hn:["enumerate","zip","dict_itemiterator","dict_reverseitemiterator","odict_iterator","itertools.zip_longest","itertools.pairwise"].contains n=false) (hQ:Q () s):wpAny M A (letOwnedTupleGo tg (.ref it) u) Q E s:=by
  unfold letOwnedTupleGo
  cases tg <;> first
    | exact yE hQ
    | (cases u <;> first
        | exact yE hQ
        | (refine yA (wpAny_load ho ?_)
           rw [hc,hd]
           show wpAny M A (if (["enumerate","zip","dict_itemiterator","dict_reverseitemiterator","odict_iterator","itertools.zip_longest","itertools.pairwise"].contains n && vs[0]? == some (rawInt _))=true then _ else _) Q E s
           rw [yN (by intro h; rw [hn,Bool.false_and] at h; cases h)]
           exact yE hQ))
def Itl (K:W.Frag) (a:Addr):It :=
 ⟨fun i H=>∃ xs x,SqL K H a xs/\xs[i]?=some x,fun i H x H'=>H'=H/\∀ xs,SqL K H a xs->xs[i]?=some x,fun i H=>∃ xs,SqL K H a xs/\xs.length<=i⟩
def Itt (K:W.Frag) (a:Addr):It :=
 ⟨fun i H=>∃ xs x,SqT K H a xs/\xs[i]?=some x,fun i H x H'=>H'=H/\∀ xs,SqT K H a xs->xs[i]?=some x,fun i H=>∃ xs,SqT K H a xs/\xs.length<=i⟩
def Itr (lo:Int) (n:Nat):It:=⟨fun i _=>i<n,fun i H x H'=>H'=H/\x=.int (lo+i),fun i _=>n<=i⟩
theorem ziM {P:Program} {w:World} {K:W.Frag} {tg:Expr} (a it:Addr):Turn P w K tg (Itl K a) [it] it (fun i h=>h.IsListIter it a i) where
 mem:=by simp
 obj:=fun i h st b hb=>by
  have e:b=it:=by simpa using hb
  subst e; obtain ⟨o,e,c,d⟩:=st
  exact ⟨o,e,fun v z=>by rw [d] at z; cases z⟩
 keep:=fun i h h' st k=>st.at fun o e=>k it (by simp) o e
 item:=by
  intro X hP hw hK hc i pins s σ H E I hf st hg
  subst hP hw hK
  obtain ⟨xs,x,hq,hx⟩:=hg; obtain ⟨its,rv,p,hz⟩:=I.list hq; obtain ⟨u,hu,ru⟩:=rv.get hx
  obtain ⟨f0,f1,f2,f3,f4,f5⟩:=hf it (by simp)
  refine wpAny_pyNext_list_item st p.isList (x:=u) (by simpa using hu) fun h' st' sb=>?_
  have I1:Inv X pins σ H { s with heap:=h' }:=I.turned (t':=s.toks) (fun b o hb e=>(sb.2 b hb).trans e) f0 f1 f3 f4 f5
  obtain ⟨o,e,c,d⟩:=id st'
  exact ⟨u,rfl,zjN (s:={ s with heap:=h' }) e c d (by decide) ⟨x,H,I1,ru,⟨rfl,fun ys hy=>by rw [I.list_inj hy hq]; exact hx⟩,st',fun b hb=>(hf b hb).1⟩⟩
 done:=by
  intro X hP hw hK hc i pins s σ H E I hf st hg
  subst hP hw hK
  obtain ⟨xs,hq,hx⟩:=hg; obtain ⟨its,rv,p,hz⟩:=I.list hq
  obtain ⟨f0,f1,f2,f3,f4,f5⟩:=hf it (by simp)
  have hl:=rv.length
  exact wpAny_pyNext_list_end (I.ok.hd hc) st p.isList (by simp; omega) fun h' eb=>⟨rfl,I.turned (t':=s.toks) (fun b o hb e=>eb b o hb e) f0 f1 f3 f4 f5⟩
 self:=fun _ _ _ _ _ st h=>wpAny_pyIter_listiter st h
theorem zh3 {P:Program} {w:World} {K:W.Frag} {tg:Expr} (a it:Addr):Turn P w K tg (Itt K a) [it] it (fun i h=>h.IsTupleIter it a i) where
 mem:=by simp
 obj:=fun i h st b hb=>by
  have e:b=it:=by simpa using hb
  subst e; obtain ⟨o,e,c,d⟩:=st
  exact ⟨o,e,fun v z=>by rw [d] at z; cases z⟩
 keep:=fun i h h' st k=>st.at fun o e=>k it (by simp) o e
 item:=by
  intro X hP hw hK hc i pins s σ H E I hf st hg
  subst hP hw hK
  obtain ⟨xs,x,hq,hx⟩:=hg; obtain ⟨its,rv,p,hz⟩:=I.tuple hq; obtain ⟨u,hu,ru⟩:=rv.get hx
  obtain ⟨f0,f1,f2,f3,f4,f5⟩:=hf it (by simp)
  refine wpAny_pyNext_tuple_item st (show s.heap.IsTuple a its.toArray from p) (x:=u) (by simpa using hu) fun h' st' sb=>?_
  have I1:Inv X pins σ H { s with heap:=h' }:=I.turned (t':=s.toks) (fun b o hb e=>(sb.2 b hb).trans e) f0 f1 f3 f4 f5
  obtain ⟨o,e,c,d⟩:=id st'
  exact ⟨u,rfl,zjN (s:={ s with heap:=h' }) e c d (by decide) ⟨x,H,I1,ru,⟨rfl,fun ys hy=>by rw [I.tuple_inj hy hq]; exact hx⟩,st',fun b hb=>(hf b hb).1⟩⟩
 done:=by
  intro X hP hw hK hc i pins s σ H E I hf st hg
  subst hP hw hK
  obtain ⟨xs,hq,hx⟩:=hg; obtain ⟨its,rv,p,hz⟩:=I.tuple hq
  obtain ⟨f0,f1,f2,f3,f4,f5⟩:=hf it (by simp)
  have hl:=rv.length
  exact wpAny_pyNext_tuple_end (I.ok.hd hc) st (show s.heap.IsTuple a its.toArray from p) (by simp; omega) fun h' eb=>⟨rfl,I.turned (t':=s.toks) (fun b o hb e=>eb b o hb e) f0 f1 f3 f4 f5⟩
 self:=fun _ _ _ _ _ st h=>wpAny_pyIter_tupleiter st h
theorem zh4 {P:Program} {w:World} {K:W.Frag} {tg:Expr} (it:Addr) (lo:Int) (n:Nat):Turn P w K tg (Itr lo n) [it] it (fun i h=>IsRangeIter h it (lo+(i:Nat) * 1) ((n:Int)-(i:Nat)) 1) where
 mem:=by simp
 obj:=fun i h st b hb=>by
  have e:b=it:=by simpa using hb
  subst e
  exact ⟨_,st,fun v z=>by
   have z':Data.fields _=Data.cell v:=z
   cases z'⟩
 keep:=fun i h h' st k=>k it (by simp) _ st
 item:=by
  intro X hP hw hK hc i pins s σ H E I hf st hg
  subst hP hw hK
  obtain ⟨f0,f1,f2,f3,f4,f5⟩:=hf it (by simp)
  have W:=Walks.range (prog:=X.prog) (w:=X.w) (I.ok.hd hc) it lo 1 n
  refine W.item i s _ _ hg st fun v h' tk hv st' kk=>?_
  obtain ⟨t,rfl⟩:=hv
  have I1:Inv X pins σ H { s with heap:=h',toks:=tk }:=I.turned (fun b o hb e=>kk b o (by simpa using hb) e) f0 f1 f3 f4 f5
  refine ⟨_,rfl,zjN (s:={ s with heap:=h',toks:=tk }) (n:="range_iterator") st' rfl rfl (by decide) ⟨.int (lo+i),H,I1,⟨t,?_⟩,⟨rfl,rfl⟩,st',fun b hb=>(hf b hb).1⟩⟩
  rw [Int.mul_one]
 done:=by
  intro X hP hw hK hc i pins s σ H E I hf st hg
  subst hP hw hK
  obtain ⟨f0,f1,f2,f3,f4,f5⟩:=hf it (by simp)
  exact wpAny_pyNext_range_end (I.ok.hd hc) st (by have:n<=i:=hg; omega) fun h' eb=>⟨rfl,I.turned (t':=s.toks) (fun b o hb e=>eb b o hb e) f0 f1 f3 f4 f5⟩
 self:=fun _ _ _ _ _ st h=>wpAny_pyIter_rangeiter st h
section
variable {X:Cx} {tg:Expr}
theorem zkQ {pins:List (Addr × Obj)} {σ:St} {H:Hp} {s:Shared} {R:It->Hp->Prop} {E:Value->Shared->Prop} {lo hi:Int} {t u v:Tok} {tk:Nat} (I:Inv X pins σ H s) (h1:-(2 ^ 62)<=lo) (h2:lo<2 ^ 62) (h3:-(2 ^ 62)<=hi) (h4:hi<2 ^ 62)
  (q:R (Itr lo (hi-lo).toNat) H):wpAny (model X.prog X.w) X.A (pyIter (.ref s.heap.objs.size)) (PIE X pins σ tg R) E { s with heap:=s.heap.push { cls:=.type "range",data:=.fields #[.int lo t,.int hi u,.int 1 v] },toks:=tk }:=by
 refine wpAny_pyIter_range (IsRange.new ..) (small_one h1 h2 h3 h4) ?_
 have I1:Inv X pins σ H { s with heap:=s.heap.push { cls:=.type "range",data:=.fields #[.int lo t,.int hi u,.int 1 v] },toks:=tk }:=I.kept fun b o e=>yB _ e
 refine ⟨(s.heap.push { cls:=.type "range",data:=.fields #[.int lo t,.int hi u,.int 1 v] }).objs.size,[(s.heap.push { cls:=.type "range",data:=.fields #[.int lo t,.int hi u,.int 1 v] }).objs.size],_,_,H,rfl,
  I1.kept (t':=tk) fun b o e=>yB _ e,zh4 _ lo (hi-lo).toNat,?_,fun b hb=>?_,q⟩
 ·have e1:lo+((0:Nat):Int) * 1=lo:=by simp
  have e2:(((hi-lo).toNat:Nat):Int)-((0:Nat):Int)=Builtin.Range.rangeSize lo hi 1:=by rw [rangeSize_one]; split <;> omega
  show IsRangeIter _ _ (lo+((0:Nat):Int) * 1) ((((hi-lo).toNat:Nat):Int)-((0:Nat):Int)) 1
  rw [e1,e2]; exact yK _ rfl
 ·have e:b=(s.heap.push { cls:=.type "range",data:=.fields #[.int lo t,.int hi u,.int 1 v] }).objs.size:=by simpa using hb
  subst e; exact I1.fpOk (yF _) (I1.hok.fresh (yF _))
def zrB (ta:TA):TI:=fun σ H R=>ta σ H fun vs H1=>∃ j:Int,vs=[.int j]/\-(2 ^ 62)<=j/\j<2 ^ 62/\R (Itr 0 j.toNat) H1
theorem zjg {a:Expr} {ta:TA} {p pos:Pos} (hg:Gl X "range") (hm:X.mg "range"=none) (ha:PA X [a] ta) (hs:starEach [a] X.env=[(false,eval a X.env)]:=by rfl):PI X tg (.Call (.Name "range" p) [a] [] pos) (zrB ta):=by
 intro pins s σ H R I h
 refine Call_ (ze5 I hg hm boot_range (PyProof.Rows.callWith_type1 (thn (ha pos pins s σ H _ I h) fun us s1 ⟨vs,H1,I1,r1,q1⟩=>?_) hs rfl))
 obtain ⟨j,e,q1,q2,q⟩:=q1; subst e
 cases r1 with
 | cons r rr =>
  cases rr; obtain ⟨t,rfl⟩:=r
  exact call_range_1 (zkQ I1 (by omega) (by omega) q1 q2 (by simpa using q))
def zsA (wi:TI) (g:TG) (tb:TS):TS:=fun D σ H=>wi σ H fun J H1=>∃ W:Nat->Nat->St->Hp->Prop,(∃ m,W 0 m σ H1)/\∀ i m σ H,W i m σ H ->
 (J.stop i H/\D.nx σ H)\/(J.go i H/\∃ N:St->Hp->Prop,(∀ σ' H',N σ' H'->∃ m',m'<m/\W (i+1) m' σ' H')/\∀ x H',J.yld i H x H'->g x σ H' fun σ2 H2=>tb { D with nx:=N,ct:=N,bk:=D.nx } σ2 H2)
def ze2 (fp:List Addr) (h:Heap):List (Addr × Obj):=fp.filterMap fun b=>(h.get? b).map fun o=>(b,o)
theorem zc3 {fp:List Addr} {h:Heap} {b:Addr} {o:Obj} (hb:b ∈ fp) (e:h.get? b=some o):(b,o) ∈ ze2 fp h:=List.mem_filterMap.mpr ⟨b,hb,by rw [e]; rfl⟩
theorem zjr {fp:List Addr} {h:Heap} {p:Addr × Obj} (hp:p ∈ ze2 fp h):p.1 ∈ fp/\h.get? p.1=some p.2:=by
 obtain ⟨b,hb,e⟩:=List.mem_filterMap.mp hp
 cases q:h.get? b with
 | none=>rw [q] at e; cases e
 | some o =>
  rw [q] at e
  have e':(b,o)=p:=Option.some.inj e
  subst e'
  exact ⟨hb,q⟩
theorem Inv.pinned {pins:List (Addr × Obj)} {σ:St} {H:Hp} {s:Shared} {fp:List Addr} (I:Inv X pins σ H s) (hf:∀ b ∈ fp,zfL X pins H b) (ho:∀ b ∈ fp,∃ o,s.heap.get? b=some o/\∀ v,o.data≠.cell v):Inv X (pins ++ ze2 fp s.heap) σ H s :=
 I.pins_of fun p hp=>(YB.mp hp).elim (fun z=>I.pin p (yY _ z)) fun z=>by
  obtain ⟨hb,e⟩:=zjr z; obtain ⟨f0,f1,f2,_⟩:=hf p.1 hb; obtain ⟨o,e',d⟩:=ho p.1 hb
  rw [e] at e'; cases e'
  exact ⟨e,f0,f1,f2,d⟩
theorem Inv.unpinned {pins pl:List (Addr × Obj)} {σ:St} {H:Hp} {s:Shared} (I:Inv X (pins ++ pl) σ H s):Inv X pins σ H s:=I.pins_of fun p hp=>I.pin p (yY _ (List.mem_append_left _ hp))
theorem zo2 {iter:Expr} {body:List Stmt} {wi:TI} {g:TG} {tb:TS} {pos:Pos} (hp:PassesOwn (model X.prog X.w) X.A X.env X.xe) (hc:X.calm=true) (hi:PI X tg iter wi) (hg:PG X tg g) (hb:PSs X body tb)
  (hs:∀ x,foldedSetIterable iter X.env x=pure x:=by intro _; rfl):PS X (.For tg iter body [] pos) (zsA wi g tb):=by
 intro pins s σ H D I h
 refine wpAny_For (thn (hi pins s σ H _ I h) fun v s1 h1=>thn h1 fun itv s2 h2=>?_) hs
 obtain ⟨it,fp,tn,J,H2,e,I2,T,st2,f2,W,⟨m0,w0⟩,turn⟩:=h2
 subst e
 -- what stays true of the iterator's objects through the loop
 have stat:∀ {H':Hp},(∀ b ∈ fp,H' b=none)->∀ b ∈ fp,zfL X pins H' b:=fun hn b hb=>⟨hn b hb,(f2 b hb).2⟩
 refine codeAny_forLoop_any (fun n s'=>∃ i σ' H',Inv X pins σ' H' s'/\tn i s'.heap/\(∀ b ∈ fp,H' b=none)/\W i n σ' H') ?_ m0 ⟨0,σ,H2,I2,st2,fun b hb=>(f2 b hb).1,w0⟩
 rintro n s3 ⟨i,σ3,H3,I3,st3,fr3,w3⟩
 rcases turn i n σ3 H3 w3 with ⟨stop,qn⟩ | ⟨go,N,hN,step⟩
 ·refine Ye hp (thn (T.done X rfl rfl rfl hc i pins s3 σ3 H3 X.xe I3 (stat fr3) st3 stop) fun r s4 ⟨hr,I4⟩=>?_)
  subst hr; exact wpAny_execs_nil ⟨σ3,H3,I4,qn⟩
 ·refine Ye hp (thn (T.item X rfl rfl rfl hc i pins s3 σ3 H3 X.xe I3 (stat fr3) st3 go) fun r s4 ⟨u,hr,h4⟩=>?_)
  subst hr
  refine Ye hp (thn h4 fun _ s5 ⟨x,H5,I5,r5,y5,st5,fr5⟩=>?_)
  have I5':=I5.pinned (stat fr5) (T.obj _ _ st5)
  refine Ye hp (thn (hg _ s5 σ3 H5 x u _ I5' r5 (step x H5 y5)) fun _ s6 ⟨σ6,H6,I6,q6⟩=>?_)
  refine Ye hp (thn (hb _ s6 σ6 H6 _ I6 q6) fun f s7 q7=>?_)
  have again:∀ {σ7:St} {H7:Hp},Inv X (pins ++ ze2 fp s5.heap) σ7 H7 s7->N σ7 H7->∃ m,m<n/\∃ i σ' H',Inv X pins σ' H' s7/\tn i s7.heap/\(∀ b ∈ fp,H' b=none)/\W i m σ' H':=fun {σ7 H7} I7 n7=>by
   obtain ⟨m',hm,w7⟩:=hN σ7 H7 n7
   refine ⟨m',hm,i+1,σ7,H7,I7.unpinned,T.keep _ _ _ st5 fun b hb o e=>(I7.pin (b,o) (yY _ (yY _ (zc3 hb e)))).1,fun b hb=>?_,w7⟩
   obtain ⟨o,e,d⟩:=T.obj _ _ st5 b hb; exact (I7.pin (b,o) (yY _ (yY _ (zc3 hb e)))).2.1
  cases f with
  | next=>obtain ⟨σ7,H7,I7,n7⟩:=q7; exact again I7 n7
  | cont=>obtain ⟨σ7,H7,I7,n7⟩:=q7; exact again I7 n7
  | brk=>obtain ⟨σ7,H7,I7,q7⟩:=q7; exact ⟨σ7,H7,I7.unpinned,q7⟩
  | ret v=>obtain ⟨x7,σ7,H7,I7,r7,q7⟩:=q7; exact ⟨x7,σ7,H7,I7.unpinned,r7,q7⟩
end
abbrev R2:=V->V->Hp->VK->Prop
def OpR (X:Cx) (f:Value->Value->Sem Value) (r:R2):Prop :=
 ∀ (pins:List (Addr × Obj)) (s:Shared) (σ:St) (H:Hp) (x y:V) (v u:Value) (Q:VK),Inv X pins σ H s->zbh x v->zbh y u->r x y H Q ->
  wpAny (model X.prog X.w) X.A (f v u) (EP X pins σ Q) X.xe s
def UnR (X:Cx) (f:Value->Sem Value) (r:V->Hp->VK->Prop):Prop :=
 ∀ (pins:List (Addr × Obj)) (s:Shared) (σ:St) (H:Hp) (x:V) (v:Value) (Q:VK),Inv X pins σ H s->zbh x v->r x H Q ->
  wpAny (model X.prog X.w) X.A (f v) (EP X pins σ Q) X.xe s
def zcy (X:Cx) (f:Value) (r:List V->Hp->VK->Prop):Prop :=
 ∀ (pins:List (Addr × Obj)) (s:Shared) (σ:St) (H:Hp) (xs:List V) (us:List Value) (Q:VK),Inv X pins σ H s->zaT xs us->r xs H Q ->
  wpAny (model X.prog X.w) X.A (call f us) (EP X pins σ Q) X.xe s
def tOp (r:R2) (ta tb:TE):TE:=fun σ H Q=>ta σ H fun x H1=>tb σ H1 fun y H2=>r x y H2 Q
def tUn (r:V->Hp->VK->Prop) (ta:TE):TE:=fun σ H Q=>ta σ H fun x H1=>r x H1 Q
def rI (C:Int->Int->Prop) (g:Int->Int->V):R2:=fun x y H Q=>∃ i j,x=.int i/\y=.int j/\C i j/\Q (g i j) H
def rI0 (g:Int->Int->V):R2:=fun x y H Q=>∃ i j,x=.int i/\y=.int j/\Q (g i j) H
def rU (g:Int->V):V->Hp->VK->Prop:=fun x H Q=>∃ i,x=.int i/\Q (g i) H
section
variable {X:Cx} {a b c:Expr} {ta tb tc:TE} {pos:Pos}
theorem zrT (ha:PE X a ta) (hb:PE X b tb) {pins:List (Addr × Obj)} {s:Shared} {σ:St} {H:Hp} {R:V->V->Hp->Prop} (I:Inv X pins σ H s)
  (h:ta σ H fun x H1=>tb σ H1 fun y H2=>R x y H2) {Q:Value->Shared->Prop} {f:Value->Value->Sem Value}
  (hf:∀ v u s2 x y H2,Inv X pins σ H2 s2->zbh x v->zbh y u->R x y H2->wpAny (model X.prog X.w) X.A (f v u) Q X.xe s2) :
  wpAny (model X.prog X.w) X.A (eval a X.env) (fun v s₁=>wpAny (model X.prog X.w) X.A (eval b X.env) (fun u s₂=>wpAny (model X.prog X.w) X.A (f v u) Q X.xe s₂) X.xe s₁) X.xe s:=by
 refine thn (ha pins s σ H _ I h) fun v s1 ⟨x,H1,I1,r1,q1⟩=>?_
 refine thn (hb pins s1 σ H1 _ I1 q1) fun u s2 ⟨y,H2,I2,r2,q2⟩=>?_
 exact hf v u s2 x y H2 I2 r1 r2 q2
theorem zrd {op:Operator} {r:R2} (ho:OpR X (binaryOp op) r) (ha:PE X a ta) (hb:PE X b tb):PE X (.BinOp a op b pos) (tOp r ta tb):=by
 intro pins s σ H Q I h
 exact wpAny_BinOp (zrT ha hb I h fun v u s2 x y H2 I2 rx ry q=>ho pins s2 σ H2 x y v u Q I2 rx ry q)
theorem zrc {op:UnaryOp} {r:V->Hp->VK->Prop} (ho:UnR X (unaryOp op) r) (ha:PE X a ta):PE X (.UnaryOp op a pos) (tUn r ta):=by
 intro pins s σ H Q I h
 exact UnaryOp_ (thn (ha pins s σ H _ I h) fun v s1 ⟨x,H1,I1,r1,q1⟩=>ho pins s1 σ H1 x v Q I1 r1 q1)
theorem opI {f:Value->Value->Sem Value} {C:Int->Int->Prop} {g:Int->Int->Int}
  (rule:∀ (i j:Int) (t u:Tok) (s:Shared) (Q:Value->Shared->Prop) (E:Value->Shared->Prop),C i j->Q (.int (g i j) s.toks) { s with toks:=s.toks+1 }->wpAny (model X.prog X.w) X.A (f (.int i t) (.int j u)) Q E s) :
  OpR X f (rI C fun i j=>.int (g i j)):=by
 intro pins s σ H x y v u Q I rx ry h; obtain ⟨i,j,rfl,rfl,hc,q⟩:=h; obtain ⟨t,rfl⟩:=rx; obtain ⟨t',rfl⟩:=ry; exact rule i j t t' s _ _ hc ⟨.int (g i j),H,I.tok _,⟨_,rfl⟩,q⟩
theorem zsg {f:Value->Value->Sem Value} {g:Int->Int->Int}
  (rule:∀ (i j:Int) (t u:Tok) (s:Shared) (Q:Value->Shared->Prop) (E:Value->Shared->Prop),Q (.int (g i j) s.toks) { s with toks:=s.toks+1 }->wpAny (model X.prog X.w) X.A (f (.int i t) (.int j u)) Q E s) :
  OpR X f (rI0 fun i j=>.int (g i j)):=by
 intro pins s σ H x y v u Q I rx ry h; obtain ⟨i,j,rfl,rfl,q⟩:=h; obtain ⟨t,rfl⟩:=rx; obtain ⟨t',rfl⟩:=ry; exact rule i j t t' s _ _ ⟨.int (g i j),H,I.tok _,⟨_,rfl⟩,q⟩
theorem zrn {f:Value->Value->Sem Value} {g:Int->Int->Bool}
  (rule:∀ (i j:Int) (t u:Tok) (s:Shared) (Q:Value->Shared->Prop) (E:Value->Shared->Prop),Q (.bool (g i j)) s->wpAny (model X.prog X.w) X.A (f (.int i t) (.int j u)) Q E s) :
  OpR X f (rI0 fun i j=>.bl (g i j)):=by
 intro pins s σ H x y v u Q I rx ry h; obtain ⟨i,j,rfl,rfl,q⟩:=h; obtain ⟨t,rfl⟩:=rx; obtain ⟨t',rfl⟩:=ry; exact rule i j t t' s _ _ ⟨.bl (g i j),H,I,rfl,q⟩
def zl8 (i j:Int):Prop:=0<j/\j<1073741824
def zmL (i j:Int):Prop:=(-(2 ^ 64)<i/\i<2 ^ 64)\/(-(2 ^ 64)<j/\j<2 ^ 64)
theorem zmL.ok {i j:Int} (h:zmL i j):IntMulOk i j:=by
 rcases h with ⟨h1,h2⟩ | ⟨h1,h2⟩
 ·exact .of_left (intBits_le_64 h1 h2)
 ·exact .of_right (intBits_le_64 h1 h2)
theorem zpo:OpR X (binaryOp .Add) (rI0 fun i j=>.int (i+j)):=zsg fun _ _ _ _ _ _ _ q=>add_int q
theorem zpi:OpR X (binaryOp .Sub) (rI0 fun i j=>.int (i-j)):=zsg fun _ _ _ _ _ _ _ q=>sub_int q
theorem zpj:OpR X (binaryOp .Mult) (rI zmL fun i j=>.int (i * j)):=opI fun _ _ _ _ _ _ _ hc q=>mul_int q hc.ok
theorem znC:OpR X (binaryOp .FloorDiv) (rI zl8 fun i j=>.int (i / j)):=opI fun i j _ _ _ _ _ hc q=>by
 have h1:(0:Int)<j:=hc.1
 have h2:j<1073741824:=hc.2
 exact floordiv_int (by omega) (by rw [Int.fdiv_eq_ediv_of_nonneg i (by omega)]; exact q) (.inl (PyProof.noPylong_small (by omega)))
theorem zpk:OpR X (binaryOp .Mod) (rI (fun _ j=>0<j) fun i j=>.int (i % j)):=opI fun i j _ _ _ _ _ hc q=>by
 have h1:(0:Int)<j:=hc
 exact mod_int' (by omega) (by rw [Int.fmod_eq_emod_of_nonneg i (by omega)]; exact q)
theorem unI {f:Value->Sem Value} {g:Int->Int}
  (rule:∀ (i:Int) (t:Tok) (s:Shared) (Q:Value->Shared->Prop) (E:Value->Shared->Prop),Q (.int (g i) s.toks) { s with toks:=s.toks+1 }->wpAny (model X.prog X.w) X.A (f (.int i t)) Q E s) :
  UnR X f (rU fun i=>.int (g i)):=by
 intro pins s σ H x v Q I rx h; obtain ⟨i,rfl,q⟩:=h; obtain ⟨t,rfl⟩:=rx; exact rule i t s _ _ ⟨.int (g i),H,I.tok _,⟨_,rfl⟩,q⟩
theorem zor:UnR X (unaryOp .USub) (rU fun i=>.int (-i)):=unI fun _ _ _ _ _ q=>neg_int q
end
def zm0:V->V->Bool
 | .non,.non=>true | .non,.int _=>true | .int _,.non=>true | .non,.bl _=>true | .bl _,.non=>true | .non,.str _=>true | .str _,.non=>true
 | .int _,.int _=>true | .bl _,.bl _=>true | .str _,.str _=>true | .byt _,.byt _=>true
 | .int _,.str _=>true | .str _,.int _=>true | .bl _,.str _=>true | .str _,.bl _=>true
 | _,_=>false
def rEq:R2:=fun x y H Q=>zm0 x y=true/\Q (.bl (decide (x=y))) H
def rNe:R2:=fun x y H Q=>zm0 x y=true/\Q (.bl (!decide (x=y))) H
theorem zjW {i j:Int}:decide (V.int i=V.int j)=(i == j):=by
 rw [Bool.eq_iff_iff]; simp
theorem zmG {i j:Bool}:decide (V.bl i=V.bl j)=(i == j):=by
 rw [Bool.eq_iff_iff]; simp
theorem zjV {i j:Str}:decide (V.str i=V.str j)=(i == j):=by
 rw [Bool.eq_iff_iff]; simp
theorem zjX {i j:Array UInt8}:decide (V.byt i=V.byt j)=(i.toList == j.toList):=by
 rw [Bool.eq_iff_iff]; cases i; cases j; simp
section
variable {X:Cx} {a b c:Expr} {ta tb tc:TE} {pos:Pos}
theorem zaK {pins:List (Addr × Obj)} {σ:St} {H:Hp} {s:Shared} {Q:VK} {k k':Bool} (I:Inv X pins σ H s) (q:Q (.bl k) H) (e:k=k'):EP X pins σ Q (.bool k') s:=by
 subst e; exact ⟨.bl k,H,I,rfl,q⟩
theorem zrm:OpR X (compareOp .Eq) rEq:=by
 intro pins s σ H x y v u Q I rx ry h; obtain ⟨hs,q⟩:=h
 cases x with
 | non =>
  cases rx
  cases y with
  | non=>cases ry; exact PySem.EqNone.eq_none_none (zaK I q (by simp))
  | bl j=>cases ry; exact PySem.EqNone.eq_none_bool (zaK I q (by simp))
  | int j=>obtain ⟨t',rfl⟩:=ry; exact PySem.EqNone.eq_none_int (zaK I q (by simp))
  | str j=>obtain ⟨t',rfl⟩:=ry; exact PySem.EqNone.eq_none_str (zaK I q (by simp))
  | _=>exact yL (show false=true from hs) yI
 | bl i =>
  cases rx
  cases y with
  | non=>cases ry; exact PySem.EqNone.eq_bool_none (zaK I q (by simp))
  | bl j=>cases ry; exact eq_bool (zaK I q zmG)
  | str j=>obtain ⟨t',rfl⟩:=ry; exact PySem.EqMixed.eq_bool_str (zaK I q (by simp))
  | _=>exact yL (show false=true from hs) yI
 | int i =>
  obtain ⟨t,rfl⟩:=rx
  cases y with
  | non=>cases ry; exact PySem.EqNone.eq_int_none (zaK I q (by simp))
  | int j=>obtain ⟨t',rfl⟩:=ry; exact eq_int (zaK I q zjW)
  | str j=>obtain ⟨t',rfl⟩:=ry; exact PySem.EqMixed.eq_int_str (zaK I q (by simp))
  | _=>exact yL (show false=true from hs) yI
 | str i =>
  obtain ⟨t,rfl⟩:=rx
  cases y with
  | non=>cases ry; exact PySem.EqNone.eq_str_none (zaK I q (by simp))
  | bl j=>cases ry; exact PySem.EqMixed.eq_str_bool (zaK I q (by simp))
  | int j=>obtain ⟨t',rfl⟩:=ry; exact PySem.EqMixed.eq_str_int (zaK I q (by simp))
  | str j=>obtain ⟨t',rfl⟩:=ry; exact eq_str (zaK I q zjV)
  | _=>exact yL (show false=true from hs) yI
 | byt i =>
  obtain ⟨t,rfl⟩:=rx
  cases y with
  | byt j=>obtain ⟨t',rfl⟩:=ry; exact W.eq_bytes (zaK I q zjX)
  | _=>exact yL (show false=true from hs) yI
 | _=>cases y <;> exact yL (show false=true from hs) yI
theorem zri:OpR X (compareOp .NotEq) rNe:=by
 intro pins s σ H x y v u Q I rx ry h; obtain ⟨hs,q⟩:=h
 cases x with
 | non =>
  cases rx
  cases y with
  | non=>cases ry; exact PySem.EqNone.ne_none_none (zaK I q (by simp))
  | bl j=>cases ry; exact PySem.EqNone.ne_none_bool (zaK I q (by simp))
  | int j=>obtain ⟨t',rfl⟩:=ry; exact PySem.EqNone.ne_none_int (zaK I q (by simp))
  | str j=>obtain ⟨t',rfl⟩:=ry; exact PySem.EqNone.ne_none_str (zaK I q (by simp))
  | _=>exact yL (show false=true from hs) yI
 | bl i =>
  cases rx
  cases y with
  | non=>cases ry; exact PySem.EqNone.ne_bool_none (zaK I q (by simp))
  | bl j=>cases ry; exact ne_bool (zaK I q (yc not zmG))
  | str j=>obtain ⟨t',rfl⟩:=ry; exact PySem.EqMixed.ne_bool_str (zaK I q (by simp))
  | _=>exact yL (show false=true from hs) yI
 | int i =>
  obtain ⟨t,rfl⟩:=rx
  cases y with
  | non=>cases ry; exact PySem.EqNone.ne_int_none (zaK I q (by simp))
  | int j=>obtain ⟨t',rfl⟩:=ry; exact ne_int (zaK I q (yc not zjW))
  | str j=>obtain ⟨t',rfl⟩:=ry; exact PySem.EqMixed.ne_int_str (zaK I q (by simp))
  | _=>exact yL (show false=true from hs) yI
 | str i =>
  obtain ⟨t,rfl⟩:=rx
  cases y with
  | non=>cases ry; exact PySem.EqNone.ne_str_none (zaK I q (by simp))
  | bl j=>cases ry; exact PySem.EqMixed.ne_str_bool (zaK I q (by simp))
  | int j=>obtain ⟨t',rfl⟩:=ry; exact PySem.EqMixed.ne_str_int (zaK I q (by simp))
  | str j=>obtain ⟨t',rfl⟩:=ry; exact ne_str (zaK I q (yc not zjV))
  | _=>exact yL (show false=true from hs) yI
 | byt i =>
  obtain ⟨t,rfl⟩:=rx
  cases y with
  | byt j=>obtain ⟨t',rfl⟩:=ry; exact W.ne_bytes (zaK I q (yc not zjX))
  | _=>exact yL (show false=true from hs) yI
 | _=>cases y <;> exact yL (show false=true from hs) yI
theorem zrj:OpR X (compareOp .Lt) (rI0 fun i j=>.bl (decide (i<j))):=zrn fun _ _ _ _ _ _ _ q=>lt_int q
theorem zrk:OpR X (compareOp .LtE) (rI0 fun i j=>.bl (decide (i<=j))):=zrn fun _ _ _ _ _ _ _ q=>le_int q
theorem zrl:OpR X (compareOp .Gt) (rI0 fun i j=>.bl (decide (j<i))):=zrn fun _ _ _ _ _ _ _ q=>gt_int q
theorem zjm:OpR X (compareOp .In) (fun x y H Q=>∃ i j,x=.str i/\y=.str j/\Q (.bl (!(Builtin.Str.occurrences j i 0 j.length 1).isEmpty)) H):=by
 intro pins s σ H x y v u Q I rx ry h; obtain ⟨i,j,rfl,rfl,q⟩:=h; obtain ⟨t,rfl⟩:=rx; obtain ⟨t',rfl⟩:=ry; exact in_str (zaK I q rfl)
theorem zf3:OpR X (compareOp .NotIn) (fun x y H Q=>∃ i j,x=.str i/\y=.str j/\Q (.bl (!(!(Builtin.Str.occurrences j i 0 j.length 1).isEmpty))) H):=by
 intro pins s σ H x y v u Q I rx ry h; obtain ⟨i,j,rfl,rfl,q⟩:=h; obtain ⟨t,rfl⟩:=rx; obtain ⟨t',rfl⟩:=ry; exact notIn_str (zaK I q rfl)
theorem OpR.or {f:Value->Value->Sem Value} {r r':R2} (h:OpR X f r) (h':OpR X f r'):OpR X f (fun x y H Q=>r x y H Q\/r' x y H Q):=by
 intro pins s σ H x y v u Q I rx ry q
 rcases q with q | q
 ·exact h pins s σ H x y v u Q I rx ry q
 ·exact h' pins s σ H x y v u Q I rx ry q
theorem zmp (b:Expr) {op:CmpOp} (h:op≠.In:=by decide) (h2:op≠.NotIn:=by decide):behindInMarks op b=false:=by
 have e1:(op == CmpOp.In)=false:=by cases op <;> first | rfl | exact yL rfl h
 have e2:(op == CmpOp.NotIn)=false:=by cases op <;> first | rfl | exact yL rfl h2
 cases b <;> simp [behindInMarks,e1,e2]
theorem zny {op:CmpOp} {r:R2} (ho:OpR X (compareOp op) r) (ha:PE X a ta) (hb:PE X b tb) (hm:behindInMarks op b=false):PE X (.Compare a [op] [b] pos) (tOp r ta tb):=by
 intro pins s σ H Q I h
 exact wpAny_Compare1 (zrT ha hb I h fun v u s2 x y H2 I2 rx ry q=>ho pins s2 σ H2 x y v u Q I2 rx ry q) hm
def zox (t:TE):TT:=fun σ H Q=>t σ H fun x H'=>∃ k,x=.bl k/\Q k H'
theorem znd {op:CmpOp} {r:R2} (ho:OpR X (compareOp op) r) (ha:PE X a ta) (hb:PE X b tb) (hm:behindInMarks op b=false):PT X (.Compare a [op] [b] pos) (zox (tOp r ta tb)):=by
 intro pins s σ H Q I h
 refine wpAny_isTrue_Compare1 (thn (ha pins s σ H _ I h) fun v s1 ⟨x,H1,I1,r1,q1⟩=>thn (hb pins s1 σ H1 _ I1 q1) fun u s2 ⟨y,H2,I2,r2,q2⟩ =>
  thn (ho pins s2 σ H2 x y v u _ I2 r1 r2 q2) fun c s3 ⟨z,H3,I3,r3,k,e,q3⟩=>?_) hm
 subst e; cases r3; exact YV ⟨H3,I3,q3⟩
def ziR (r r':R2) (ta tb tc:TE):TE:=fun σ H Q=>ta σ H fun x H1=>tb σ H1 fun y H2=>r x y H2 fun z H3=>∃ k,z=.bl k /\
 (if k=true then tc σ H3 fun w' H4=>r' y w' H4 Q else Q (.bl false) H3)
theorem zld {op op':CmpOp} {r r':R2} (ho:OpR X (compareOp op) r) (ho':OpR X (compareOp op') r') (ha:PE X a ta) (hb:PE X b tb) (hc:PE X c tc)
  (hm:lastMarks [op,op'] [b,c]=false:=by with_unfolding_all rfl):PE X (.Compare a [op,op'] [b,c] pos) (ziR r r' ta tb tc):=by
 intro pins s σ H Q I h
 refine Compare_chain (thn (ha pins s σ H _ I h) fun v s1 ⟨x,H1,I1,r1,q1⟩=>chain_link (thn (hb pins s1 σ H1 _ I1 q1) fun u s2 ⟨y,H2,I2,r2,q2⟩ =>
  thn (ho pins s2 σ H2 x y v u _ I2 r1 r2 q2) fun d s3 ⟨z,H3,I3,r3,k,e,q3⟩=>?_)) hm
 subst e; cases r3; refine YV ?_
 cases k with
 | false=>exact ite_ff ⟨.bl false,H3,I3,rfl,q3⟩
 | true=>exact ite_tt (chain_last (thn (hc pins s3 σ H3 _ I3 q3) fun w' s4 ⟨z',H4,I4,r4,q4⟩=>ho' pins s4 σ H4 y z' u w' Q I4 r2 r4 q4))
theorem zkX {op op':CmpOp} {r r':R2} (ho:OpR X (compareOp op) r) (ho':OpR X (compareOp op') r') (ha:PE X a ta) (hb:PE X b tb) (hc:PE X c tc)
  (hm:lastMarks [op,op'] [b,c]=false:=by with_unfolding_all rfl):PT X (.Compare a [op,op'] [b,c] pos) (zox (ziR r r' ta tb tc)):=by
 intro pins s σ H Q I h
 refine isTrue_chain (thn (ha pins s σ H _ I h) fun v s1 ⟨x,H1,I1,r1,q1⟩=>test_link (thn (hb pins s1 σ H1 _ I1 q1) fun u s2 ⟨y,H2,I2,r2,q2⟩ =>
  thn (ho pins s2 σ H2 x y v u _ I2 r1 r2 q2) fun d s3 ⟨z,H3,I3,r3,k,e,q3⟩=>?_)) hm
 subst e; cases r3; refine YV ?_
 cases k with
 | false =>
  obtain ⟨k',e',q'⟩:=q3; cases e'; exact ite_ff ⟨H3,I3,q'⟩
 | true =>
  refine ite_tt (test_last (thn (hc pins s3 σ H3 _ I3 q3) fun w' s4 ⟨z',H4,I4,r4,q4⟩=>thn (ho' pins s4 σ H4 y z' u w' _ I4 r2 r4 q4) fun d' s5 ⟨z2,H5,I5,r5,k2,e2,q5⟩=>?_))
  subst e2; cases r5; exact YV ⟨H5,I5,q5⟩
theorem zgd:(sizeLine:Nat)<2 ^ 63:=by rw [sizeLine_eq]; decide
theorem zim:OpR X (binaryOp .Add) (fun x y H Q=>∃ i j,x=.str i/\y=.str j/\i.length+j.length<=sizeLine/\Q (.str (i ++ j)) H):=by
 intro pins s σ H x y v u Q I rx ry h; obtain ⟨i,j,rfl,rfl,hz,q⟩:=h; obtain ⟨t,rfl⟩:=rx; obtain ⟨t',rfl⟩:=ry
 exact add_str (fun t' tk=>⟨.str (i ++ j),H,I.tok _,⟨_,rfl⟩,q⟩) hz
theorem zc6 {x:V} {us:List Value} (r:zaT [x] us):∃ u,us=[u]/\zbh x u:=by
 cases r with
 | cons r1 r2=>cases r2; exact ⟨_,rfl,r1⟩
theorem zmO {x y:V} {us:List Value} (r:zaT [x,y] us):∃ u w',us=[u,w']/\zbh x u/\zbh y w':=by
 cases r with
 | cons r1 r2 =>
  cases r2 with
  | cons r3 r4=>cases r4; exact ⟨_,_,rfl,r1,r3⟩
theorem zkc:zcy X (.type "int") (fun xs H Q=>(∃ i,xs=[.int i]/\Q (.int i) H)\/∃ k,xs=[.bl k]/\Q (.int (if k then 1 else 0)) H):=by
 intro pins s σ H xs us Q I r h
 rcases h with ⟨i,rfl,q⟩ | ⟨k,rfl,q⟩
 ·obtain ⟨u,rfl,t,rfl⟩:=zc6 r
  exact call_int_int ⟨.int i,H,I,⟨_,rfl⟩,q⟩
 ·obtain ⟨u,rfl,r1⟩:=zc6 r
  cases r1
  exact call_int_bool ⟨.int (if k then 1 else 0),H,I.tok _,⟨_,rfl⟩,q⟩
theorem zgx:zcy X (.type "str") (fun xs H Q=>∃ i,xs=[.int i]/\i.natAbs.log2<1920/\Q (.str (toString i)) H):=by
 intro pins s σ H xs us Q I r h; obtain ⟨i,rfl,hz,q⟩:=h; obtain ⟨u,rfl,t,rfl⟩:=zc6 r; exact PySem.P.str_of_int hz ⟨.str _,H,I.tok _,⟨_,rfl⟩,q⟩
end
structure ObjM (h:Heap) (x dx C:Addr) (mA:Str->Option Value):Prop where
 obj:h.get? x=some (W.instObj C dx)
 ns:h.Ns1 dx mA
 ne:dx≠x
theorem zjy {h:Heap} {dx:Addr} {mA:Str->Option Value} (n:h.Ns1 dx mA):∃ od,h.get? dx=some od/\∀ name,W.lookIn name od=some (mA name):=by
 obtain ⟨o,es,ep,ho,hd,hk,_,hm⟩:=n
 refine ⟨o,ho,fun name=>?_⟩
 have e:=hm name; unfold nsFind findBy at e; rw [<- Array.find?_toList] at e; unfold W.lookIn; rw [hd]
 dsimp only
 split
 ·rename_i y q
  rw [q] at e; exact yc some e
 ·rename_i q
  rw [q] at e
  have a:es.toList.any (·.refKey)=false:=by
   rw [List.any_eq_false]; intro y hy; obtain ⟨z,t,hkey⟩:=hk y (Array.mem_toList_iff.mp hy); simp [DictEntry.refKey,hkey]
  have a':¬ es.toList.any (·.refKey)=true:=by rw [a]; exact yI
  rw [yN a']; exact yc some e
theorem ObjM.look {h:Heap} {x dx C:Addr} {mA:Str->Option Value} (I:ObjM h x dx C mA):∃ od,W.InstAt h x (W.instObj C dx) C (some od)/\∀ name,W.lookIn name od=some (mA name) :=
 let ⟨od,ho,hl⟩:=zjy I.ns
 ⟨od,⟨I.obj,rfl,rfl,ho⟩,hl⟩
section
variable {prog:Program} {w:World} {A:Around} {E:Value->Shared->Prop} {s:Shared} {K:W.Frag} {x dx C f:Addr} {mA:Str->Option Value} {name:Str} {v:Value}
end
theorem zl6.some_of {v:V} {o:Option Value} (r:zl6 (some v) o):∃ u,o=some u/\zbh v u:=by
 cases o with
 | none=>exact (show False from r).elim
 | some u=>exact ⟨u,rfl,r⟩
section
variable {P:Program} {w:World} {H H':Hp} {h h':Heap} {a C dx:Addr} {fs fs':List (Str × V)}
theorem zn1 (hok:HOk P w H h) (e:H a=some (.ins C dx fs)):∃ mA,ObjM h a dx C mA/\(∀ f,zl6 (fs.lookup f) (mA f))/\PySem.Within mA (fs.map (·.1))/\fs.length<=1000/\H dx=some (.own a):=by
 obtain ⟨d,z,ne,ob,mA,n,r,q⟩:=(show zbv P w H h a (.ins C dx fs) from hok a _ e)
 exact ⟨mA,⟨ob,n,ne⟩,r,q,z,d⟩
end
structure Cls (K:W.Frag) (C:Addr):Prop where
 pg:W.plainGet K C Str.empty=true
 hd:W.hasDictIn K C=true
 po:W.plainOver K C=true
 sa:W.findIn K (.ref C) "__setattr__"=some (some (.builtin "object.__setattr__"))
theorem Cls.get {K:W.Frag} {C:Addr} (c:Cls K C) (f:Str):W.plainGet K C f=true:=c.pg
section
variable {X:Cx} {pins:List (Addr × Obj)} {σ:St} {H:Hp} {s:Shared} {a C dx:Addr} {fs:List (Str × V)} {f:Str} {v:V} {A:Around} {E:Value->Shared->Prop}
end
section
variable {X:Cx} {o e value:Expr} {f:Str} {pos pos' tpos:Pos} {ta tv:TE}
end
section
variable {X:Cx} {pins:List (Addr × Obj)} {σ:St} {H:Hp} {s:Shared} {A:Around} {E:Value->Shared->Prop} {Q:Value->Shared->Prop} {c:Value} {b:Bool}
end
structure Room (k:Nat) (A:Around):Prop where
 hd:A.handled=none
 dp:A.depth+3 * k+5<recursionLimit
 un:A.units+16 * k+200<cLine
theorem Room.mono {j k:Nat} {A:Around} (r:Room k A) (h:j<=k):Room j A:=⟨r.hd,by have:=r.dp; omega,by have:=r.un; omega⟩
theorem Room.deeper {k:Nat} {A:Around} (r:Room (k+1) A) (env:Env):Room k (A.deeper env) :=
 ⟨r.hd,by have:=r.dp; show A.depth+1+3 * k+5<_; omega,by have:=r.un; show A.units+3+16 * k+200<_; omega⟩
theorem Room.in1 {k:Nat} {A:Around} (r:Room (k+1) A):Room k A.in1 :=
 ⟨r.hd,by have:=r.dp; show A.depth+3 * k+5<_; omega,by have:=r.un; show A.units+1+16 * k+200<_; omega⟩
theorem Room.depth {k:Nat} {A:Around} (r:Room k A):A.depth<recursionLimit:=by have:=r.dp; omega
theorem Room.units {k:Nat} {A:Around} (r:Room k A):A.units+64<cLine:=by have:=r.un; omega
theorem Room.units0 {k:Nat} {A:Around} (r:Room k A):A.units<cLine:=by have:=r.un; omega
def zr3:TA:=fun _ H Q=>Q [] H
def zoA (ta:TE) (tr:TA):TA:=fun σ H Q=>ta σ H fun x H1=>tr σ H1 fun xs H2=>Q (x :: xs) H2
section
variable {X:Cx} {e:Expr} {es:List Expr} {te:TE} {t:TA} {pos:Pos}
theorem zhB:PA X [] zr3:=fun _ _ _ _ H Q I h=>Calls.spliced_nil ⟨[],H,I,.nil,h⟩
theorem zcR (ha:PE X e te) (hr:PA X es t) (hs:starEach (e :: es) X.env=(false,eval e X.env) :: starEach es X.env:=by rfl):PA X (e :: es) (zoA te t):=by
 intro pos pins s σ H Q I h; rw [hs]
 show wpAny _ _ (spliced ((false,eval e X.env) :: backTo pos (starEach es X.env))) _ _ s
 refine Calls.spliced_cons (thn (ha pins s σ H _ I h) fun u s1 ⟨x,H1,I1,r1,q1⟩=>?_)
 exact thn (hr pos pins s1 σ H1 _ I1 q1) fun us s2 ⟨xs,H2,I2,r2,q2⟩=>⟨x :: xs,H2,I2,.cons r1 r2,q2⟩
def zst (t:TA):TE:=fun σ H Q=>t σ H fun xs H1=>xs.length<=sizeLine/\∀ p,H1 p=none->Q (.ref p) (upd H1 p (.tup xs))
def zsx (t:TA):TE:=fun σ H Q=>t σ H fun xs H1=>xs.length<=sizeLine/\∀ p,H1 p=none->Q (.ref p) (upd H1 p (.lst xs))
theorem zo8 {x1} (h:PA X es t):PE X (.Tuple es x1 pos) (zst t):=by
 intro pins s σ H Q I hq
 refine wpAny_Tuple_spliced (thn (h pos pins s σ H _ I hq) fun us s1 ⟨xs,H1,I1,r,z,q⟩=>⟨by rw [<- r.length]; exact z,?_⟩)
 have hf:H1 s1.heap.objs.size=none:=I1.hok.fresh (yF _)
 refine ⟨.ref s1.heap.objs.size,upd H1 s1.heap.objs.size (.tup xs),I1.laid (t':=s1.toks) (fun b u e=>yB _ e) (yF _) ?_,rfl,q _ hf⟩
 exact ⟨z,us,r,⟨_,yK _ rfl,rfl,_,rfl⟩⟩
theorem zpc (h:PA X es t):PE X (.List es pos) (zsx t):=by
 intro pins s σ H Q I hq
 refine wpAny_List_spliced (thn (h pos pins s σ H _ I hq) fun us s1 ⟨xs,H1,I1,r,z,q⟩=>⟨by rw [<- r.length]; exact z,?_⟩)
 have hf:H1 s1.heap.objs.size=none:=I1.hok.fresh (yF _)
 refine ⟨.ref s1.heap.objs.size,upd H1 s1.heap.objs.size (.lst xs),I1.laid (t':=s1.toks) (fun b u e=>yB _ e) (yF _) ?_,rfl,q _ hf⟩
 exact ⟨z,us,0,r,yK _ rfl⟩
end
abbrev Sp:=List V->Hp->VK->XK->Prop
abbrev CXT:=List Env->Hp->Shared->XK->Value->Shared->Prop
structure Env0 (P:Program) (w:World) (K:W.Frag) (mg:Str->Option Value) (base:Heap) (A:Around) (outer:List Env) (s:Shared) (H:Hp):Prop where
 frames:A.frames=some outer
 mod:Mod K mg base
 bs:∀ b o,base.get? b=some o->s.heap.get? b=some o/\H b=none
 bsz:base.objs.size<=s.heap.objs.size
 funs:s.heap.FunFrames base outer
 frf:∀ b ∈ frs outer,H b=none
 hok:HOk P w H s.heap
 bare:AllBare s.gens
 tab:ziE base H
def CE (outer:List Env) (P:Program) (w:World) (H:Hp) (s:Shared) (Q:VK) (u:Value) (s':Shared):Prop :=
 ∃ v H',s'.os=s.os/\AllBare s'.gens/\Un (frs outer) [] H H' s.heap s'.heap/\HOk P w H' s'.heap/\zbh v u/\Q v H'
def CR (CX:CXT) (outer:List Env) (P:Program) (w:World) (H:Hp) (s:Shared) (Q:VK) (E:XK) (r:Result) (s':Shared):Prop :=
 match r with
 | .ok (.ret u)=>CE outer P w H s Q u s'
 | .ok _=>False
 | .error e=>CX outer H s E e s'
structure FnOk (P:Program) (w:World) (K:W.Frag) (mg:Str->Option Value) (base:Heap) (CX:CXT) (k:Nat) (f:Addr) (fd:FuncData) (ps:List Str) (sp:Sp):Prop where
 len:∀ vs H Q E,sp vs H Q E->vs.length=ps.length
 run:∀ (A:Around) (outer:List Env) (s:Shared) (H:Hp) (args:Args) (us:List Value) (vs:List V) (Q:VK) (E:XK),Room k A->Env0 P w K mg base A outer s H->BindsTo s fd args (ps.zip us)->zaT vs us->sp vs H Q E ->
  codeAny (model P w) A (.call (.ref f) args) (CR CX outer P w H s Q E) s
theorem Env0.in1 {P:Program} {w:World} {K:W.Frag} {mg:Str->Option Value} {base:Heap} {A:Around} {outer:List Env} {s:Shared} {H:Hp} (e:Env0 P w K mg base A outer s H) :
  Env0 P w K mg base A.in1 outer s H:=⟨e.frames,e.mod,e.bs,e.bsz,e.funs,e.frf,e.hok,e.bare,e.tab⟩
section
variable {X:Cx} {pins:List (Addr × Obj)} {σ:St} {H:Hp} {s s':Shared}
theorem Inv.env0 (I:Inv X pins σ H s):Env0 X.prog X.w X.K X.mg X.base X.A X.stack s H :=
 ⟨I.ok.frames,I.ok.mod,I.bs,yu I.ok.bsz I.sz,I.stack,I.stkFree,I.hok,I.bare,I.ok.tab.un I.base.tbls⟩
theorem Inv.after {Q:VK} {u:Value} (I:Inv X pins σ H s) (h:CE X.stack X.prog X.w H s Q u s'):EP X pins σ Q u s':=by
 obtain ⟨v,H',os,bare,un,hok,r,q⟩:=h; obtain ⟨hh,g,d,t,os'⟩:=s'
 obtain rfl:os'=s.os:=os
 exact ⟨v,H',I.call (h':=hh) (g':=g) (d':=d) (t':=t) (ch:=[]) un hok bare (fun b z=>yL z (by simp)),r,q⟩
end
def zoD (sp:Sp) (dvs:List V) (E:XK) (t:TA):TE:=fun σ H Q=>t σ H fun vs H1=>sp (vs ++ dvs) H1 Q E
def zd4 (K:W.Frag) (fd:FuncData) (ps:List Str) (ds:List Value):Prop :=
 ∀ (s:Shared) (us:List Value),K.In s.heap->(us ++ ds).length=ps.length->BindsTo s fd ⟨us,[]⟩ (ps.zip (us ++ ds))
theorem zd4.all {K:W.Frag} {fd:FuncData} {ps:List Str} (h:∀ us:List Value,us.length=ps.length->bindArgs fd ⟨us,[]⟩=pure (ps.zip us)):zd4 K fd ps []:=fun s us _ hl=>by
 rw [yf] at hl ⊢; exact .of_eq (h us hl)
def zkk (CX:CXT) (X:Cx) (E:XK):Prop:=∀ (pins:List (Addr × Obj)) (σ:St) (H:Hp) (s:Shared) (e:Value) (s':Shared),Inv X pins σ H s->CX X.stack H s E e s'->X.xe e s'
section
variable {X:Cx} {CX:CXT} {k:Nat} {f C:Addr} {fd:FuncData} {ps:List Str} {sp:Sp} {dvs:List V} {ds:List Value} {E:XK} {x m:Str} {p pos apos:Pos} {e o:Expr} {es:List Expr} {ta:TE} {t:TA}
theorem zoM {pins:List (Addr × Obj)} {σ:St} {H:Hp} {s:Shared} {Q:VK} {us:List Value} {vs:List V} (F:FnOk X.prog X.w X.K X.mg X.base CX k f fd ps sp) (hr:Room k X.A) (hb:zd4 X.K fd ps ds) (hd:zaT dvs ds) (hx:zkk CX X E)
  (I:Inv X pins σ H s) (r:zaT vs us) (h:sp (vs ++ dvs) H Q E):wpAny (model X.prog X.w) X.A (call (.ref f) us) (EP X pins σ Q) X.xe s:=by
 have r2:zaT (vs ++ dvs) (us ++ ds):=r.append hd
 have hl:(us ++ ds).length=ps.length:=by rw [<- r2.length]; exact F.len _ _ _ _ h
 refine wpAny_call (codeAny_mono (F.run X.A X.stack s H ⟨us,[]⟩ (us ++ ds) (vs ++ dvs) Q E hr I.env0 (hb s us I.kIn hl) r2 h) fun r s' hq=>?_)
 cases r with
 | error e=>exact hx pins σ H s e s' I hq
 | ok fl =>
  cases fl with
  | ret u=>exact I.after hq
  | next=>exact False.elim hq
  | brk=>exact False.elim hq
  | cont=>exact False.elim hq
theorem znz (F:FnOk X.prog X.w X.K X.mg X.base CX k f fd ps sp) (hr:Room k X.A) (hg:Gl X x) (hm:X.mg x=some (.ref f)) (hk:W.keepIn X.K (.ref f)=true) (hb:zd4 X.K fd ps ds) (hd:zaT dvs ds) (hx:zkk CX X E)
  (ha:PA X (e :: es) t) (hdb:(x == ("__debug__":Str))=false:=by decide) (he:starEach (e :: es) X.env=(false,eval e X.env) :: starEach es X.env:=by rfl) (hpl:(backTo pos (starEach es X.env)).any (·.1)=false:=by rfl) :
  PE X (.Call (.Name x p) (e :: es) [] pos) (zoD sp dvs E t):=by
 intro pins s σ H Q I h; refine YG (zez I hg hm ?_ hdb)
 refine W.callWith_K (h₀:=X.base) I.ok.mod.kin hk (thn (ha pos pins s σ H _ I h) fun us s1 ⟨vs,H1,I1,r,q⟩=>⟨I1.kIn,?_⟩) he hpl
 exact zoM F hr hb hd hx I1 r q
end
def PK (X:Cx) (kws:List Keyword) (t:TA):Prop :=
 ∀ (pos:Pos) (pins:List (Addr × Obj)) (s:Shared) (σ:St) (H:Hp) (Q:List V->Hp->Prop),Inv X pins σ H s->t σ H Q->wpAny (model X.prog X.w) X.A (evalAll ((backToKw pos (keywordEach kws X.env)).map (·.2))) (AP X pins σ Q) X.xe s
section
variable {X:Cx} {CX:CXT} {k:Nat} {f C:Addr} {fd:FuncData} {ps ks:List Str} {sp:Sp} {E:XK} {x m:Str} {p pos apos kpos:Pos} {e o:Expr} {es:List Expr} {kws:List Keyword} {te ta:TE} {t tk:TA} {nm:Option Str}
theorem zo5:PK X [] zr3:=fun _ _ _ _ H Q I h=>wpAny_evalAll_nil ⟨[],H,I,.nil,h⟩
theorem znm (ha:PE X e te) (hr:PK X kws t):PK X (⟨nm,e,kpos⟩ :: kws) (zoA te t):=by
 intro pos pins s σ H Q I h
 show wpAny _ _ (evalAll ((do let v <- eval e X.env; standAt pos; pure v) :: (backToKw pos (keywordEach kws X.env)).map (·.2))) _ _ s
 refine wpAny_evalAll_cons (yA (thn (ha pins s σ H _ I h) fun u s1 ⟨x,H1,I1,r1,q1⟩=>yA (wpAny_standAt (yE ?_))))
 exact thn (hr pos pins s1 σ H1 _ I1 q1) fun us s2 ⟨xs,H2,I2,r2,q2⟩=>⟨x :: xs,H2,I2,.cons r1 r2,q2⟩
variable {g:List Value->List Value->List Value} {gV:List V->List V->List V}
end
structure FnScope (N P:List Str) (sc:Scope):Prop where
 kind:sc.kind=.function
 co:sc.isCoroutine=false
 gen:sc.isGenerator=false
 nd:N.Nodup
 pre:N.take P.length=P
 par:∀ x ∈ P,sc.names.lookup x=some .local\/sc.names.lookup x=some .cell
 nofree:∀ y ∈ sc.names,y.2≠.free
theorem zgE {kindOf:Str->Option NameKind} {x:Str}:∀ {binds:List (Str × Value)} {m:Str->Option Value},(∀ v,(x,v) ∉ binds)->bindL kindOf binds m x=m x
 | [],_,_=>rfl
 | (n,v) :: r,m,h=>by
  unfold bindL
  rw [zgE fun w hw=>h w (yV _ hw)]
  split
  ·have:x≠n:=by rintro rfl; exact h v yh
   simp [this]
  ·rfl
theorem zgG {kindOf:Str->Option NameKind} {x:Str}:∀ {binds:List (Str × Value)} {m:Str->Option Value},(∀ v,(x,v) ∉ binds)->bindC kindOf binds m x=m x
 | [],_,_=>rfl
 | (n,v) :: r,m,h=>by
  unfold bindC
  rw [zgG fun w hw=>h w (yV _ hw)]
  split
  ·rfl
  ·have:x≠n:=by rintro rfl; exact h v yh
   simp [this]
theorem zgF {kindOf:Str->Option NameKind} {x:Str} {v:Value}:∀ {P:List Str} {vs:List Value} {i:Nat} {m:Str->Option Value},P.Nodup->P[i]?=some x->vs[i]?=some v->kindOf x=some .local ->
  bindL kindOf (P.zip vs) m x=some v
 | [],_,_,_,_,h,_,_=>by simp at h
 | _ :: _,[],_,_,_,_,h,_=>by simp at h
 | p :: P,w :: vs,0,m,nd,h1,h2,hk=>by
  simp at h1 h2; subst h1; subst h2
  show bindL kindOf ((p,w) :: P.zip vs) m p=_
  unfold bindL
  rw [zgE fun v hv=>(Yf.mp nd).1 (List.of_mem_zip hv).1,yP hk]
  simp
 | p :: P,w :: vs,i+1,m,nd,h1,h2,hk=>by
  show bindL kindOf ((p,w) :: P.zip vs) m x=_
  unfold bindL
  exact zgF (i:=i) (Yf.mp nd).2 (by simpa using h1) (by simpa using h2) hk
theorem zgH {kindOf:Str->Option NameKind} {x:Str} {v:Value}:∀ {P:List Str} {vs:List Value} {i:Nat} {m:Str->Option Value},P.Nodup->P[i]?=some x->vs[i]?=some v->kindOf x≠some .local ->
  bindC kindOf (P.zip vs) m x=some v
 | [],_,_,_,_,h,_,_=>by simp at h
 | _ :: _,[],_,_,_,_,h,_=>by simp at h
 | p :: P,w :: vs,0,m,nd,h1,h2,hk=>by
  simp at h1 h2; subst h1; subst h2
  show bindC kindOf ((p,w) :: P.zip vs) m p=_
  unfold bindC
  rw [zgG fun v hv=>(Yf.mp nd).1 (List.of_mem_zip hv).1,yN hk]
  simp
 | p :: P,w :: vs,i+1,m,nd,h1,h2,hk=>by
  show bindC kindOf ((p,w) :: P.zip vs) m x=_
  unfold bindC
  exact zgH (i:=i) (Yf.mp nd).2 (by simpa using h1) (by simpa using h2) hk
def start (N:List Str) (vs:List V):St:=vs.map some ++ List.replicate (N.length-vs.length) none
def zd9 (CX:CXT) (P:Program) (w:World) (K:W.Frag) (mg:Str->Option Value) (base:Heap) (N:List Str) (qual:Str) (scope:Scope) (f:Addr) (cd:Value) (A:Around) (outer:List Env) (s:Shared) (H:Hp) (E:XK):Cx where
 prog:=P
 w:=w
 K:=K
 mg:=mg
 base:=base
 A:=A.deeper (envOfC qual scope s.heap.objs.size f cd)
 N:=N
 s₀:=s
 H₀:=H
 env:=envOfC qual scope s.heap.objs.size f cd
 outer:=outer
 stack:=envOfC qual scope s.heap.objs.size f cd :: outer
 ex:=[]
 calm:=true
 fn:=fun _=>true
 pn:=[]
 xe:=fun e s'=>wpAny (model P w) (A.deeper (envOfC qual scope s.heap.objs.size f cd)) (leaving (envOfC qual scope s.heap.objs.size f cd) e) (fun _ s''=>CX outer H s E e s'') (fun e' s''=>CX outer H s E e' s'') s'
theorem zhX {sc:Scope} {n:Nat} {x:Str} (h:sc.names.lookup x=some .cell):∃ c,(cellsFrom n sc.names []).lookup x=some c:=by
 have q:=W.cellsFrom_some sc.names n [] (.inl h); exact Option.isSome_iff_exists.mp q
theorem zeF {CX:CXT} {P:Program} {w:World} {K:W.Frag} {mg:Str->Option Value} {base:Heap} {N ps:List Str} {qual:Str} {scope:Scope} {f:Addr} {cd:Value} {A:Around} {outer:List Env} {s s1:Shared} {H:Hp} {E:XK} {us:List Value} {vs:List V}
  (S:FnScope N ps scope) (hd:A.handled=none) (e0:Env0 P w K mg base A outer s H) (hl:vs.length=ps.length) (r:zaT vs us)
  (x:InCallC s s.heap.objs.size (bindL (envOfC qual scope s.heap.objs.size f cd).kindOf (ps.zip us) fun _=>none) (cellsFrom (s.heap.objs.size+1) scope.names []) (bindC (envOfC qual scope s.heap.objs.size f cd).kindOf (ps.zip us) fun _=>none) s1) :
  Inv (zd9 CX P w K mg base N qual scope f cd A outer s H E) [] (start N vs) H s1:=by
 have hpl:ps.length<=N.length:=by have:=yc List.length S.pre; rw [YH] at this; omega
 obtain ⟨h1,tk,rfl,hk⟩:=x.done
 have noA:∀ b:Addr,b ∉ (zd9 CX P w K mg base N qual scope f cd A outer s H E).ex:=fun b z=>yL (show b ∈ ([]:List Addr) from z) (by simp)
 refine ⟨⟨e0.mod,S.kind,rfl,rfl,yF _,fun y z c h1 h2=>?_,fun y hy=>?_,fun y c _ h=>?_,fun _=>hd,Around.frames_deeper e0.frames,.inr ⟨rfl,rfl⟩,fun b z=>yL z (noA b),e0.bs,e0.bsz,fun b _ _=>noA b,fun b z=>yL z (noA b),e0.funs,e0.frf,e0.tab⟩,
  rfl,e0.bare,Un.kept hk,⟨_,x.toInCall.ns,fun i y v h1 h2 h3=>?_⟩,fun y c h=>⟨_,x.cell y c h⟩,e0.hok.fresh (yF _),fun y c h=>?_,fun p hp=>yL (show p ∈ ([]:List (Addr × Obj)) from hp) (by simp),e0.hok.kept hk,?_⟩
 ·exact name_of_addr x.apart (YK h1) (YK h2)
 ·have hy:scope.names.lookup y=some .cell\/scope.names.lookup y=some .free:=hy
  rcases hy with hy | hy
  ·exact zhX hy
  ·exact yL rfl (S.nofree _ (YK hy))
 ·exact Nat.le_of_lt (x.above y c (YK h))
 ·have hi:i<vs.length:=by
   unfold start at h2
   by_cases hi:i<vs.length
   ·exact hi
   ·rw [List.getElem?_append_right (by simpa using hi)] at h2
    rw [List.getElem?_replicate] at h2
    split at h2 <;> cases h2
  have ha:vs[i]?=some v:=by
   unfold start at h2
   rw [YE (by simpa using hi),yH] at h2
   cases e:vs[i]? with
   | none=>rw [e] at h2; cases h2
   | some a=>rw [e] at h2; cases h2; rfl
  obtain ⟨u,hu,rv⟩:=r.get ha
  have hp:ps[i]?=some y:=by
   rw [<- S.pre,List.getElem?_take_of_lt (by omega)]; exact h1
  have ndP:ps.Nodup:=by rw [<- S.pre]; exact S.nd.sublist (List.take_sublist _ _)
  refine ⟨u,rv,?_⟩
  rcases S.par y (yW hp) with k | k
  ·exact .inl ⟨k,zgF ndP hp hu k⟩
  ·obtain ⟨c,e⟩:=zhX (n:=s.heap.objs.size+1) k
   refine .inr ⟨.inl k,c,e,?_⟩; have q:=x.cell y c e
   rw [zgH ndP hp hu (by show scope.names.lookup y≠_; rw [k]; decide)] at q
   exact q
 ·exact e0.hok.fresh (Nat.le_of_lt (x.above y c (YK h)))
 ·unfold start
  show _=N.length
  rw [yQ,yD,List.length_replicate]; omega
theorem zpS {CX:CXT} {P:Program} {w:World} {K:W.Frag} {mg:Str->Option Value} {base:Heap} {k:Nat} {f:Addr} {name qual:Str} {params:Arguments} {body:List Stmt} {scope:Scope} {dV kV doc pm cdv ct oc:Value} {an od:Option Addr}
  {osl:Array (Option Value)} {N ps:List Str} {sp:Sp} (lk:K.lookup f=some ⟨oc,od,.func (W.fnOf name qual params body scope dV kV doc pm an cdv ct),osl⟩) (hcd:W.codeIn K cdv qual=true) (S:FnScope N ps scope)
  (len:∀ vs H Q E,sp vs H Q E->vs.length=ps.length)
  (hbody:∀ (A:Around) (outer:List Env) (s:Shared) (H:Hp) (vs:List V) (Q:VK) (E:XK),Room k (A.deeper (envOfC qual scope s.heap.objs.size f cdv))->sp vs H Q E ->
   ∃ t,PSs (zd9 CX P w K mg base N qual scope f cdv A outer s H E) body t/\t { nx:=fun _ H'=>Q .non H',rt:=Q } (start N vs) H) :
  FnOk P w K mg base CX (k+1) f (W.fnOf name qual params body scope dV kV doc pm an cdv ct) ps sp:=by
 refine ⟨len,fun A outer s H args us vs Q E hr e0 hb r hsp=>?_⟩
 have hl:=len _ _ _ _ hsp
 have KX:K.In s.heap:=e0.mod.kin.keeps fun b o e=>(e0.bs b o e).1
 have lim:s.heap.NoLimit:=e0.mod.nolimit.keeps fun b o e=>(e0.bs b o e).1
 have hkind:∀ y ∈ ps.zip us,scope.names.lookup y.1=some .local\/(scope.names.lookup y.1=some .cell/\((cellsFrom (s.heap.objs.size+1) scope.names []).lookup y.1).isSome=true):=fun ⟨n,v⟩ hy=>by
  rcases S.par n (List.of_mem_zip hy).1 with q | q
  ·exact .inl q
  ·exact .inr ⟨q,W.cellsFrom_some _ _ _ (.inl q)⟩
 refine codeAny_call_function hr.depth (KX _ _ lk) rfl S.co S.gen rfl (W.codeRec_of KX hcd) (hb _ _ _ _ ?_)
 refine wpAny_newFunctionEnv_cells S.kind hkind fun env he s1 x=>?_
 subst he; refine ⟨lim.keeps x.toInCall.keep,codeAny_func ?_⟩; obtain ⟨t,ht,hq⟩:=hbody A outer s H vs Q E (hr.deeper _) hsp
 have I:Inv (zd9 CX P w K mg base N qual scope f cdv A outer s H E) [] (start N vs) H s1:=zeF S hr.hd e0 hl r x
 refine YD (ht [] s1 (start N vs) H _ I hq) (fun fl s' hs=>?_) fun e s' hs=>hs
 have fin:∀ {σ':St} {H':Hp} {v:V} {u:Value},Inv (zd9 CX P w K mg base N qual scope f cdv A outer s H E) [] σ' H' s'->zbh v u->Q v H'->CE outer P w H s Q u s' :=
  fun {σ' H' v u} J rv q=>⟨v,H',J.os,J.bare,J.base,J.hok,rv,q⟩
 cases fl with
 | ret u =>
  obtain ⟨v,σ',H',J,rv,q⟩:=hs; exact fin J rv q
 | next =>
  obtain ⟨σ',H',J,q⟩:=hs; exact fin (v:=V.non) (u:=Value.none) J rfl q
 | brk =>
  obtain ⟨_,_,_,q⟩:=hs; exact False.elim q
 | cont =>
  obtain ⟨_,_,_,q⟩:=hs; exact False.elim q
section
variable {X:Cx} {x:Str} {p pos:Pos} {e:Expr} {es:List Expr} {t:TA} {id T:String} {r:List V->Hp->VK->Prop}
def tCB (r:List V->Hp->VK->Prop) (t:TA):TE:=fun σ H Q=>t σ H fun vs H1=>r vs H1 Q
theorem zlg (hc:zcy X (.builtin id) r) (hg:Gl X x) (hm:X.mg x=none) (hv:bootBuiltins x=some (.builtin id)) (ha:PA X (e :: es) t) (hn:x≠"__name__":=by decide) (hdb:(x == ("__debug__":Str))=false:=by decide)
  (he:starEach (e :: es) X.env=(false,eval e X.env) :: starEach es X.env:=by rfl) (hpl:(backTo pos (starEach es X.env)).any (·.1)=false:=by rfl):PE X (.Call (.Name x p) (e :: es) [] pos) (tCB r t):=by
 intro pins s σ H Q I h; refine YG (ze5 I hg hm hv ?_ hn hdb)
 exact PyProof.Rows.callWith_builtin1 (thn (ha pos pins s σ H _ I h) fun us s1 ⟨vs,H1,I1,r1,q1⟩=>hc pins s1 σ H1 vs us Q I1 r1 q1) he hpl
theorem zf1 (hc:zcy X (.type T) r) (hg:Gl X x) (hm:X.mg x=none) (hv:bootBuiltins x=some (.type T)) (ha:PA X (e :: es) t) (hn:x≠"__name__":=by decide) (hdb:(x == ("__debug__":Str))=false:=by decide)
  (he:starEach (e :: es) X.env=(false,eval e X.env) :: starEach es X.env:=by rfl) (hpl:(backTo pos (starEach es X.env)).any (·.1)=false:=by rfl):PE X (.Call (.Name x p) (e :: es) [] pos) (tCB r t):=by
 intro pins s σ H Q I h; refine YG (ze5 I hg hm hv ?_ hn hdb)
 exact PyProof.Rows.callWith_type1 (thn (ha pos pins s σ H _ I h) fun us s1 ⟨vs,H1,I1,r1,q1⟩=>hc pins s1 σ H1 vs us Q I1 r1 q1) he hpl
end
end L2
namespace HT
open PySem PyProof.Rows
section
open PySem.SeqAt
open PySem.AutoSeq1 (wpAny_loadPart')
open PySem.MeetsSeq PySem.MeetsSeq2 PySem.MeetsSeq3
end
section
variable {prog:Program} {w:World} {A:Around} {E:Value->Shared->Prop} {s:Shared}
theorem cat_tup {t b:Addr} {vs ws:List Value} {Q:Value->Shared->Prop} (ht:IsTup s.heap t vs.toArray) (hb:IsTup s.heap b ws.toArray) (hv:vs≠[])
  (h1:ws=[]->Q (.ref t) s) (h2:ws≠[]->Q (.ref s.heap.objs.size) { s with heap:=s.heap.push { cls:=.type "tuple",data:=.seq (vs ++ ws).toArray } })
  (hsz:vs.length+ws.length<=sizeLine):wpAny (model prog w) A (binaryOp .Add (.ref t) (.ref b)) Q E s:=by
 obtain ⟨⟨cls,dd,data,sl⟩,ho,hc,n,hd⟩:=id ht
 obtain ⟨⟨cls2,dd2,data2,sl2⟩,ho2,hc2,n2,hd2⟩:=id hb
 simp only at hc hd hc2 hd2
 subst hc hd hc2 hd2
 have e:vs.toArray ++ ws.toArray=(vs ++ ws).toArray:=by simp
 by_cases hw:ws=[]
 ·exact concat_meets ⟨_,ho,rfl⟩ ⟨_,ho2,rfl⟩ noFill_tuple_add seq_tuple_add PySem.F.slot_tuple_add PySem.F.entry_tuple_add (PySem.F.args_tuple_add_2 _ _)
   (tuple_addW1 t b vs.toArray ws.toArray n n2 dd dd2 sl sl2 (by simpa using hv) (by simp [hw])) ⟨ho,ho2,h1 hw⟩
 ·refine concat_meets ⟨_,ho,rfl⟩ ⟨_,ho2,rfl⟩ noFill_tuple_add seq_tuple_add PySem.F.slot_tuple_add PySem.F.entry_tuple_add (PySem.F.args_tuple_add_2 _ _)
   (tuple_addW2 t b vs.toArray ws.toArray n n2 dd dd2 sl sl2 (by simpa using hv) (by simpa using hw) (by rw [yM,yM]; exact hsz)) ⟨ho,ho2,?_⟩
  rw [e]; exact h2 hw
def sIx (n d:Nat):Option Int->Nat
 | none=>d
 | some v=>if v<0 then (v+(n:Int)).toNat else min v.toNat n
theorem sIx_none (n d:Nat):sIx n d none=d:=rfl
theorem zoL (n d:Nat) (hd:d<=n) (o:Option Int):sIx n d o<=n:=by
 cases o with
 | none=>exact hd
 | some v =>
  show (if v<0 then (v+(n:Int)).toNat else min v.toNat n)<=n
  by_cases hv:v<0
  ·rw [yP hv]; omega
  ·rw [yN hv]; exact Nat.min_le_right _ _
theorem zj7 (v:Int) (n d:Nat):(if v<0 then max (v+(n:Int)) 0 else min v (n:Int))=((sIx n d (some v):Nat):Int):=by
 show (if v<0 then max (v+(n:Int)) 0 else min v (n:Int))=(((if v<0 then (v+(n:Int)).toNat else min v.toNat n):Nat):Int)
 by_cases hv:v<0
 ·simp only [yP hv]; omega
 ·simp only [yN hv]; omega
theorem ziD (lo hi:Option Int) (n:Nat):Builtin.Slice.sliceAdjust lo hi 1 (n:Int)=(((sIx n 0 lo:Nat):Int),((sIx n n hi:Nat):Int)):=by
 have h1:¬ ((1:Int)<0):=by omega
 unfold Builtin.Slice.sliceAdjust; simp only [h1,if_false]; refine Prod.ext ?_ ?_
 ·cases lo with
  | none=>rfl
  | some v=>exact zj7 v n 0
 ·cases hi with
  | none=>rfl
  | some v=>exact zj7 v n n
theorem zik (i j:Nat):Builtin.Slice.slicePlaces (i:Int) (j:Int) 1=j-i:=by
 unfold Builtin.Slice.slicePlaces
 have h1:(1:Int) > 0:=by omega
 simp only [h1,if_true,Int.ediv_one]
 split <;> omega
theorem zeW {v:Value} {o:Option Int} {Q:Option Int->Shared->Prop} (p:IsPart v o) (h:Q o s):wpAny (model prog w) A (Builtin.Slice.slicePartIndex v) Q E s:=by
 cases p with
 | none=>exact slicePart_none h
 | int i t=>exact slicePart_int h
theorem zcA {sl:Addr} {vl vu:Value} {lo hi:Option Int} {n:Nat} {Q:Int × Int × Nat->Shared->Prop} (hs:s.heap.IsSliceOf sl vl vu .none) (pl:IsPart vl lo) (pu:IsPart vu hi)
  (h:Q (((sIx n 0 lo:Nat):Int),1,sIx n n hi-sIx n 0 lo) s):wpAny (model prog w) A (Builtin.Slice.sliceApplied (.ref sl) (pure (n:Int))) Q E s:=by
 obtain ⟨os,hos,hcs,hds⟩:=id hs; unfold Builtin.Slice.sliceApplied Builtin.Slice.sliceFields; refine yA (yA (yt hos hds (x:=vl) rfl (yA (yt hos hds (x:=vu) rfl (yA (yt hos hds (x:=.none) rfl (yE ?_))))))); refine yA (slicePart_none ?_)
 show wpAny _ _ (if ((1:Int) == 0)=true then _ else _) _ _ s
 rw [yN (by decide)]
 refine yA (zeW pl (yA (zeW pu (yA (yE ?_)))))
 show wpAny _ _ (match Builtin.Slice.sliceAdjust lo hi 1 (n:Int) with | (lo,hi)=>pure (lo,(1:Int),Builtin.Slice.slicePlaces lo hi 1)) _ _ s
 rw [ziD lo hi n]
 show wpAny _ _ (pure (((sIx n 0 lo:Nat):Int),(1:Int),Builtin.Slice.slicePlaces ((sIx n 0 lo:Nat):Int) ((sIx n n hi:Nat):Int) 1)) _ _ s
 rw [zik]; exact yE h
theorem zk8 (xs:Array Value) (i k:Nat):((List.range k).filterMap fun (m:Nat)=>xs[((i:Int)+(m:Int) * 1).toNat]?).toArray=((xs.toList.drop i).take k).toArray:=by
 have e:(fun (m:Nat)=>xs[((i:Int)+(m:Int) * 1).toNat]?)=fun m=>xs[i+m]?:=by
  funext m
  have:((i:Int)+(m:Int) * 1).toNat=i+m:=by omega
  rw [this]
 rw [e]
 have:=pick_run xs i k
 rw [List.filterMap_map] at this
 have e2:((fun x=>xs[x]?) ∘ fun x=>i+x)=fun m=>xs[i+m]?:=rfl
 rw [e2] at this; rw [this]
theorem getItem_tuple_cut {t sl:Addr} {items:Array Value} {vl vu:Value} {lo hi:Option Int} {Q:Value->Shared->Prop} (ht:IsTup s.heap t items) (hs:s.heap.IsSliceOf sl vl vu .none) (pl:IsPart vl lo) (pu:IsPart vu hi)
  (hw:¬ (sIx items.size 0 lo=0/\sIx items.size items.size hi=items.size))
  (h:Q (.ref s.heap.objs.size) { s with heap:=s.heap.push { cls:=.type "tuple",data:=.seq ((items.toList.drop (sIx items.size 0 lo)).take (sIx items.size items.size hi-sIx items.size 0 lo)).toArray } })
  (hsz:items.size<=sizeLine):wpAny (model prog w) A (getItem (.ref t) (.ref sl)) Q E s:=by
 have htake:sizeOk (.seq ((items.toList.drop (sIx items.size 0 lo)).take (sIx items.size items.size hi-sIx items.size 0 lo)).toArray):=by
  show ((items.toList.drop (sIx items.size 0 lo)).take (sIx items.size items.size hi-sIx items.size 0 lo)).toArray.size<=sizeLine
  rw [yM,YH,YY,yj]; omega
 have hj:sIx items.size items.size hi<=items.size:=zoL _ _ (yF _) hi
 obtain ⟨os,hos,hcs,hds⟩:=id hs
 have hTs:s.TypeIs (.ref sl) "slice":=⟨os,hos,hcs⟩
 unfold getItem
 try with_reducible refine YO ?_
 first | refine yA (yE ?_) | skip
 refine yA (wpAny_sequenceKey ht.typeIs (by decide) ?_)
 refine yA (wpAny_callSpecial?_slot (name:=Str.ofString "__getitem__") ht.typeIs yw
  (yx yw ht.typeIs entry_tuple_getitem ?_ (args_tuple_getitem _ _)))
 show wpAny _ _ (Builtin.Tuple.tupleItemsOf (.ref t) >>= _) _ _ s
 refine yA (tupleItemsOf_ ht ?_); refine yA (wpAny_typeOf hTs ?_)
 rw [yP (by decide)]
 refine yA (zcA hs pl pu ?_)
 have hno:¬ ((((sIx items.size 0 lo:Nat):Int) == 0 && (1:Int) == 1 && (sIx items.size items.size hi-sIx items.size 0 lo) == items.size)=true):=by
  intro q; rw [yd,yd] at q
  have q1:((sIx items.size 0 lo:Nat):Int)=0:=eq_of_beq q.1.1
  have q2:sIx items.size items.size hi-sIx items.size 0 lo=items.size:=eq_of_beq q.2
  exact hw ⟨by omega,by omega⟩
 show wpAny _ _ (if (((sIx items.size 0 lo:Nat):Int) == 0 && (1:Int) == 1 && (sIx items.size items.size hi-sIx items.size 0 lo) == items.size)=true then _ else _) _ _ s
 rw [yN hno,zk8]
 first
  | exact yA (m:=Builtin.Tuple.tupleExact _) (ya (yE ⟨_,rfl,yE h⟩) htake)
  | exact yA (m:=Builtin.Tuple.tupleExact _) (ya (yA (yE (yE ⟨_,rfl,yE h⟩))) htake)
  | exact yA (yA (m:=Builtin.Tuple.tupleExact _) (ya (yE (yE ⟨_,rfl,yE h⟩)) htake))
  | exact yA (yA (m:=Builtin.Tuple.tupleExact _) (ya (yE ⟨_,rfl,yE h⟩) htake))
end
end HT
namespace L2
open PySem PySem.Spec PyProof.Rows
abbrev TO:=St->Hp->(Option Int->Hp->Prop)->Prop
def PO (X:Cx) (e:Option Expr) (t:TO):Prop :=
 ∀ (pins:List (Addr × Obj)) (s:Shared) (σ:St) (H:Hp) (Q:Option Int->Hp->Prop),Inv X pins σ H s->t σ H Q ->
  wpAny (model X.prog X.w) X.A (evalPart e X.env) (fun u s'=>∃ o H',Inv X pins σ H' s'/\IsPart u o/\Q o H') X.xe s
def zmR:TO:=fun _ H Q=>Q none H
def zqQ (t:TE):TO:=fun σ H Q=>t σ H fun x H1=>∃ i,x=.int i/\Q (some i) H1
section
variable {X:Cx} {e:Expr} {te:TE} {lo hi:Option Expr} {tl th:TO} {pos p2:Pos}
theorem znk:PO X none zmR:=by
 intro pins s σ H Q I h; rw [evalPart_none]; exact yE ⟨none,H,I,.none,h⟩
theorem znj (h:PE X e te):PO X (some e) (zqQ te):=by
 intro pins s σ H Q I hw; rw [evalPart_some]
 refine thn (h pins s σ H _ I hw) fun u s1 ⟨x,H1,I1,r1,q1⟩=>?_
 obtain ⟨i,rfl,q⟩:=q1; obtain ⟨t,rfl⟩:=r1; exact ⟨some i,H1,I1,.int i t,q⟩
def SlR (X:Cx) (r:V->Option Int->Option Int->Hp->VK->Prop):Prop :=
 ∀ (pins:List (Addr × Obj)) (s:Shared) (σ:St) (H:Hp) (x:V) (v vl vu:Value) (lo hi:Option Int) (sl:Addr) (Q:VK),Inv X pins σ H s->zbh x v->s.heap.IsSliceOf sl vl vu .none->IsPart vl lo->IsPart vu hi->r x lo hi H Q ->
  ∃ T id,typeLookup (.type T) "__getitem__"=pure (some (.builtin id))/\s.TypeIs v T/\wpAny (model X.prog X.w) X.A (getItem v (.ref sl)) (EP X pins σ Q) X.xe s
theorem SlR.or {r r':V->Option Int->Option Int->Hp->VK->Prop} (h:SlR X r) (h':SlR X r'):SlR X (fun x lo hi H Q=>r x lo hi H Q\/r' x lo hi H Q):=by
 intro pins s σ H x v vl vu lo hi sl Q I rx hs pl pu q
 rcases q with q | q
 ·exact h pins s σ H x v vl vu lo hi sl Q I rx hs pl pu q
 ·exact h' pins s σ H x v vl vu lo hi sl Q I rx hs pl pu q
def tSl (r:V->Option Int->Option Int->Hp->VK->Prop) (te:TE) (tl th:TO):TE:=fun σ H Q=>te σ H fun x H1=>tl σ H1 fun l H2=>th σ H2 fun u H3=>r x l u H3 Q
theorem zlb {r:V->Option Int->Option Int->Hp->VK->Prop} (hr:SlR X r) (he:PE X e te) (hl:PO X lo tl) (hu:PO X hi th):PE X (.Subscript e (.Slice lo hi none p2) pos) (tSl r te tl th):=by
 intro pins s σ H Q I h
 refine Subscript_ (thn (he pins s σ H _ I h) fun v s1 ⟨x,H1,I1,r1,q1⟩=>?_)
 refine wpAny_Slice (thn (hl pins s1 σ H1 _ I1 q1) fun vl s2 ⟨l,H2,I2,pl,q2⟩=>thn (hu pins s2 σ H2 _ I2 q2) fun vu s3 ⟨u,H3,I3,pu,q3⟩=>?_)
 rw [evalPart_none]; refine yE ?_
 have I4:Inv X pins σ H3 { s3 with heap:=s3.heap.push { cls:=.type "slice",data:=.fields #[vl,vu,.none] } }:=I3.kept (t':=s3.toks) fun b ob q=>yB _ q
 obtain ⟨T,id,hT,ht,hg⟩:=hr pins { s3 with heap:=s3.heap.push { cls:=.type "slice",data:=.fields #[vl,vu,.none] } } σ H3 x v vl vu l u s3.heap.objs.size Q I4 r1 (Heap.IsSliceOf.new ..) pl pu q3
 show wpAny (model X.prog X.w) X.A (subscriptTail e (.Slice lo hi none p2) v (.ref s3.heap.objs.size)) (EP X pins σ Q) X.xe { s3 with heap:=s3.heap.push { cls:=.type "slice",data:=.fields #[vl,vu,.none] } }
 exact tail_any (ops:=[.ref s3.heap.objs.size,v]) ht hT hg (by with_unfolding_all rfl)
def zj5 (xs:List V) (lo hi:Option Int):List V:=(xs.drop (HT.sIx xs.length 0 lo)).take (HT.sIx xs.length xs.length hi-HT.sIx xs.length 0 lo)
theorem zeM (xs:List V) (lo hi:Option Int):(zj5 xs lo hi).length<=xs.length:=by
 unfold zj5; rw [YH,YY]; omega
def zsE (K:W.Frag):V->Option Int->Option Int->Hp->VK->Prop:=fun x lo hi H Q=>∃ a xs,x=.ref a/\SqT K H a xs /\
 ¬ (HT.sIx xs.length 0 lo=0/\HT.sIx xs.length xs.length hi=xs.length)/\∀ p,H p=none->Q (.ref p) (upd H p (.tup (zj5 xs lo hi)))
theorem zoH:SlR X (zsE X.K):=by
 intro pins s σ H x v vl vu lo hi sl Q I rx hs pl pu h; obtain ⟨a,xs,rfl,hx,hw,q⟩:=h; cases rx; obtain ⟨its,r,ht,hz⟩:=I.tuple hx
 have hlen:its.toArray.size=xs.length:=by rw [yM]; exact r.length.symm
 refine ⟨"tuple",_,PyProof.Rows.slot_tuple_getitem.lookup,ht.typeIs,?_⟩
 refine HT.getItem_tuple_cut ht hs pl pu (by rw [hlen]; exact hw) ?_ (by rw [hlen]; exact hz)
 rw [hlen]
 refine ⟨.ref s.heap.objs.size,_,I.laid (t':=s.toks) (o:=.tup (zj5 xs lo hi)) (fun b ob q=>yB _ q) (yF _) ?_,rfl,q _ (I.hok.fresh (yF _))⟩
 exact ⟨yu (zeM xs lo hi) hz,_,(r.drop (HT.sIx xs.length 0 lo)).take (HT.sIx xs.length xs.length hi-HT.sIx xs.length 0 lo),IsTup.new _ _⟩
def zq8 (K:W.Frag):R2:=fun x y H Q=>∃ a b xs ys,x=.ref a/\y=.ref b/\SqT K H a xs/\SqT K H b ys/\xs≠[]/\xs.length+ys.length<=sizeLine /\
 (ys=[]->Q (.ref a) H)/\(ys≠[]->∀ p,H p=none->Q (.ref p) (upd H p (.tup (xs ++ ys))))
theorem zaT.nil_iff {xs:List V} {us:List Value} (r:zaT xs us):us=[]↔xs=[]:=by
 cases r with
 | nil=>simp
 | cons _ _=>simp
theorem znE:OpR X (binaryOp .Add) (zq8 X.K):=by
 intro pins s σ H x y v u Q I rx ry h; obtain ⟨a,b,xs,ys,rfl,rfl,ha,hb,hx,hz,q1,q2⟩:=h; cases rx; cases ry; obtain ⟨its,r1,p1,_⟩:=I.tuple ha; obtain ⟨its2,r2,p2,_⟩:=I.tuple hb
 refine HT.cat_tup p1 p2 (fun z=>hx (r1.nil_iff.mp z)) (fun z=>⟨.ref a,H,I,rfl,q1 (r2.nil_iff.mp z)⟩) (fun z=>?_) (by rw [<- r1.length,<- r2.length]; exact hz)
 refine ⟨.ref s.heap.objs.size,_,I.laid (t':=s.toks) (o:=.tup (xs ++ ys)) (fun b ob q=>yB _ q) (yF _) ?_,rfl,q2 (fun w=>z (r2.nil_iff.mpr w)) _ (I.hok.fresh (yF _))⟩
 exact ⟨by rw [yQ]; exact hz,_,r1.append r2,IsTup.new _ _⟩
end
def ixN (n:Nat) (i:Int):Option Nat:=if 0<=i then (if i<n then some i.toNat else none) else if -(n:Int)<=i then some (i+n).toNat else none
def atI {α:Type} (xs:List α) (i:Int):Option α:=(ixN xs.length i).bind fun j=>xs[j]?
theorem znX {n:Nat} {i:Int} {j:Nat} (h:ixN n i=some j):seqIndex? i n=some j/\j<n/\-(n:Int)<=i/\i<n:=by
 unfold ixN at h
 by_cases h0:0<=i
 ·rw [yP h0] at h
  by_cases h1:i<n
  ·rw [yP h1] at h
   have e:i.toNat=j:=Option.some.inj h
   exact ⟨by rw [seqIndex_of h0 h1,e],by omega,by omega,h1⟩
  ·rw [yN h1] at h; cases h
 ·rw [yN h0] at h
  by_cases h1:-(n:Int)<=i
  ·rw [yP h1] at h
   have e:(i+n).toNat=j:=Option.some.inj h
   exact ⟨by rw [seqIndex_neg (by omega) h1,e],by omega,h1,by omega⟩
  ·rw [yN h1] at h; cases h
theorem zhg {α:Type} {xs:List α} {i:Int} {v:α} (h:atI xs i=some v):∃ j,seqIndex? i xs.length=some j/\xs[j]?=some v/\j<xs.length/\-(xs.length:Int)<=i/\i<xs.length:=by
 unfold atI at h
 cases e:ixN xs.length i with
 | none=>rw [e] at h; cases h
 | some j =>
  rw [e] at h; obtain ⟨h1,h2,h3,h4⟩:=znX e; exact ⟨j,h1,h,h2,h3,h4⟩
theorem zdV {α:Type} {xs:List α} {j:Nat} {v:α} (h:xs[j]?=some v):atI xs (j:Int)=some v:=by
 have hj:j<xs.length:=(yG.mp h).1
 have e:ixN xs.length (j:Int)=some j:=by
  unfold ixN
  rw [yP (by omega),yP (by omega)]; simp
 unfold atI; rw [e]; exact h
theorem zl5 {α:Type} (xs:List α) (v:α):atI (xs ++ [v]) (-1)=some v:=by
 have hl:(xs ++ [v]).length=xs.length+1:=by simp
 have e:ixN (xs ++ [v]).length (-1)=some xs.length:=by
  unfold ixN
  rw [hl,yN (by decide),yP (by omega)]
  congr 1
  omega
 unfold atI; rw [e]
 show (xs ++ [v])[xs.length]?=some v
 simp
def zkj (b:Expr):Prop:=∀ o i,subscripted b false o i=operate [o,i] (getItem o i)
def IxR (X:Cx) (r:R2):Prop :=
 ∀ (value slice:Expr) (pins:List (Addr × Obj)) (s:Shared) (σ:St) (H:Hp) (x y:V) (v u:Value) (Q:VK),Inv X pins σ H s->zbh x v->zbh y u->r x y H Q ->
  subscripted slice false v u=operate [v,u] (getItem v u)->wpAny (model X.prog X.w) X.A (subscriptTail value slice v u) (EP X pins σ Q) X.xe s
def MtR (X:Cx) (id:String) (r:V->List V->Hp->VK->Prop):Prop :=
 ∀ (pins:List (Addr × Obj)) (s:Shared) (σ:St) (H:Hp) (x:V) (xs:List V) (v:Value) (us:List Value) (Q:VK),Inv X pins σ H s->zbh x v->zaT xs us->r x xs H Q ->
  wpAny (model X.prog X.w) X.A (call (.builtin id) (v :: us)) (EP X pins σ Q) X.xe s
section
variable {X:Cx} {a b:Expr} {ta tb:TE} {pos:Pos}
theorem IxR.or {r r':R2} (h:IxR X r) (h':IxR X r'):IxR X (fun x y H Q=>r x y H Q\/r' x y H Q):=by
 intro value slice pins s σ H x y v u Q I rx ry q hs
 rcases q with q | q
 ·exact h value slice pins s σ H x y v u Q I rx ry q hs
 ·exact h' value slice pins s σ H x y v u Q I rx ry q hs
theorem zre {r:R2} (hr:IxR X r) (ha:PE X a ta) (hb:PE X b tb) (hs:zkj b):PE X (.Subscript a b pos) (tOp r ta tb):=by
 intro pins s σ H Q I h
 exact Subscript_ (zrT ha hb I h fun v u s2 x y H2 I2 rx ry q=>hr a b pins s2 σ H2 x y v u Q I2 rx ry q (hs _ _))
def zsa (K:W.Frag):R2:=fun x y H Q=>∃ p xs i v,x=.ref p/\y=.int i/\SqL K H p xs/\atI xs i=some v/\Q v H
def zr8 (K:W.Frag):R2:=fun x y H Q=>∃ p xs i v,x=.ref p/\y=.int i/\SqT K H p xs/\atI xs i=some v/\Q v H
def zr9:R2:=fun x y H Q=>∃ z i c,x=.str z/\y=.int i/\z.length<=sizeLine/\atI z.cps.toList i=some c/\Q (.str ⟨#[c]⟩) H
theorem znV:IxR X (zsa X.K):=by
 intro value slice pins s σ H x y v u Q I rx ry h hs; obtain ⟨p,xs,i,z,rfl,rfl,hq,he,q⟩:=h; cases rx; obtain ⟨t,rfl⟩:=ry; obtain ⟨its,r,pl,hz⟩:=I.list hq; obtain ⟨j,h1,h2,h3,h4,h5⟩:=zhg he; obtain ⟨w,ew,rw'⟩:=r.get h2; have hl:=r.length; have hn:=zgd
 have fin:EP X pins σ Q w s:=⟨z,H,I,rw',q⟩
 by_cases h0:0<=i
 ·have hj:i.toNat=j:=by
   rw [seqIndex_of h0 h5] at h1; exact Option.some.inj h1
  exact item_listR pl.isList h0 (by omega) (by rw [hj]; simpa using ew) fin hs
 ·have hj:(i+(its.toArray.size:Int)).toNat=j:=by
   rw [seqIndex_neg (by omega) h4] at h1
   rw [yM,<- hl]; exact Option.some.inj h1
  exact subscriptTail_builtinR (x:=w) pl.isList.typeIs slot_list_getitem.lookup
   (wpAny_getItem_list_neg (Q:=fun r s'=>r=w/\EP X pins σ Q r s') pl.isList (by omega) (by rw [yM] <;> omega) (by omega) (by rw [hj]; simpa using ew) ⟨rfl,fin⟩) hs
theorem zpL:IxR X (zr8 X.K):=by
 intro value slice pins s σ H x y v u Q I rx ry h hs; obtain ⟨p,xs,i,z,rfl,rfl,hq,he,q⟩:=h; cases rx; obtain ⟨t,rfl⟩:=ry; obtain ⟨its,r,pl,hz⟩:=I.tuple hq; obtain ⟨j,h1,h2,h3,h4,h5⟩:=zhg he; obtain ⟨w,ew,rw'⟩:=r.get h2; have hl:=r.length; have hn:=zgd
 have fin:EP X pins σ Q w s:=⟨z,H,I,rw',q⟩
 exact subscriptTail_builtinR (x:=w) pl.typeIs slot_tuple_getitem.lookup
  (getItem_tuple (j:=j) (Q:=fun r s'=>r=w/\EP X pins σ Q r s') pl (by omega) (by omega) (by rw [yM,<- hl]; exact h1) (by simpa using ew) ⟨rfl,fin⟩) hs
theorem zpM:IxR X zr9:=by
 intro value slice pins s σ H x y v u Q I rx ry h hs; obtain ⟨z,i,c,rfl,rfl,hz,he,q⟩:=h; obtain ⟨t,rfl⟩:=rx; obtain ⟨t',rfl⟩:=ry; obtain ⟨j,h1,h2,h3,h4,h5⟩:=zhg he
 have hl:z.cps.toList.length=z.length:=by simp [Str.length]
 rw [hl] at h1 h4 h5; have hn:=zgd
 exact tail_any (typeIs_str s z t) slot_str_getitem.lookup (getItem_str (c:=c) (by
  have e1:decide (i< -(2 ^ 63:Int))=false:=yR (by omega)
  have e2:decide (i >= 2 ^ 63)=false:=yR (by omega)
  rw [e1,e2,Bool.or_false]) (by rw [h1]; simpa using h2) ⟨.str ⟨#[c]⟩,H,I.tok _,⟨_,rfl⟩,q⟩) hs
def rIx (K:W.Frag):R2:=fun x y H Q=>zsa K x y H Q\/zr8 K x y H Q\/zr9 x y H Q
theorem zpN:IxR X (rIx X.K):=znV.or (zpL.or zpM)
theorem zfR (lo hi:Option Int) (n:Nat):(sliceBounds lo hi none n).1=((HT.sIx n 0 lo:Nat):Int)/\(sliceBounds lo hi none n).2.1=((HT.sIx n n hi:Nat):Int)/\(sliceBounds lo hi none n).2.2=1:=by
 refine ⟨?_,?_,rfl⟩
 ·cases lo with
  | none=>simp [sliceBounds,HT.sIx]
  | some i =>
   simp only [sliceBounds,HT.sIx,Option.getD_none,show (1:Int) > 0 by decide,if_true]
   by_cases h:i<0
   ·simp only [h,if_true] <;> omega
   ·simp only [h,if_false] <;> omega
 ·cases hi with
  | none=>simp [sliceBounds,HT.sIx]
  | some i =>
   simp only [sliceBounds,HT.sIx,Option.getD_none,show (1:Int) > 0 by decide,if_true]
   by_cases h:i<0
   ·simp only [h,if_true] <;> omega
   ·simp only [h,if_false] <;> omega
theorem zfg (its:List Value) (lo hi:Option Int):slicePick its.toArray lo hi none=((its.drop (HT.sIx its.length 0 lo)).take (HT.sIx its.length its.length hi-HT.sIx its.length 0 lo)).toArray:=by
 obtain ⟨h1,h2,h3⟩:=zfR lo hi its.toArray.size; unfold slicePick; rw [h1,h2,h3]
 simp only [sliceRange_one,pick_run,yM] <;> rfl
def zsG (K:W.Frag):V->Option Int->Option Int->Hp->VK->Prop:=fun x lo hi H Q=>∃ a xs,x=.ref a/\SqL K H a xs/\∀ p,H p=none->Q (.ref p) (upd H p (.lst (zj5 xs lo hi)))
theorem zmZ:SlR X (zsG X.K):=by
 intro pins s σ H x v vl vu lo hi sl Q I rx hs pl pu h; obtain ⟨a,xs,rfl,hx,q⟩:=h; cases rx; obtain ⟨its,r,ht,hz⟩:=I.list hx; have hlen:=r.length; refine ⟨"list",_,slot_list_getitem.lookup,ht.isList.typeIs,?_⟩
 refine wpAny_getItem_list_slice ht.isList hs pl pu .none (by simp) ?_ (by rw [yM] <;> omega)
 rw [zfg,<- hlen]
 refine ⟨.ref s.heap.objs.size,_,I.laid (t':=s.toks) (o:=.lst (zj5 xs lo hi)) (fun b ob q=>yB _ q) (yF _) ?_,rfl,q _ (I.hok.fresh (yF _))⟩
 exact ⟨yu (zeM xs lo hi) hz,_,0,(r.drop (HT.sIx xs.length 0 lo)).take (HT.sIx xs.length xs.length hi-HT.sIx xs.length 0 lo),yK _ rfl⟩
def zeI:V->Bool
 | .non=>true
 | .bl _=>true
 | .int _=>true
 | .str _=>true
 | _=>false
def eqV:V->V->Bool
 | .non,.non=>true
 | .bl a,.bl b=>a == b
 | .bl a,.int b=>(if a then 1 else 0) == b
 | .int a,.bl b=>a == (if b then 1 else 0)
 | .int a,.int b=>a == b
 | .str a,.str b=>a == b
 | _,_=>false
theorem zjQ {A:Around} {s:Shared} {y x:V} {u v:Value} (ry:zbh y u) (rx:zbh x v) (fy:zeI y=true) (fx:zeI x=true):SeqAt.EqAt A s u v (eqV y x):=by
 cases y with
 | non =>
  cases ry
  cases x with
  | non=>cases rx; exact SeqAt.EqAt.same _
  | bl b=>cases rx; exact SeqAt.EqAt.none_bool b
  | int b=>obtain ⟨t,rfl⟩:=rx; exact SeqAt.EqAt.none_int b t
  | str b=>obtain ⟨t,rfl⟩:=rx; exact SeqAt.EqAt.none_str b t
  | _=>exact yL (show false=true from fx) yI
 | bl a =>
  cases ry
  cases x with
  | non=>cases rx; exact SeqAt.EqAt.bool_none a
  | bl b=>cases rx; exact SeqAt.EqAt.bool_bool a b
  | int b=>obtain ⟨t,rfl⟩:=rx; exact SeqAt.EqAt.bool_int a b t
  | str b=>obtain ⟨t,rfl⟩:=rx; exact SeqAt.EqAt.bool_str a b t
  | _=>exact yL (show false=true from fx) yI
 | int a =>
  obtain ⟨t',rfl⟩:=ry
  cases x with
  | non=>cases rx; exact SeqAt.EqAt.int_none a t'
  | bl b=>cases rx; exact SeqAt.EqAt.int_bool a t' b
  | int b=>obtain ⟨t,rfl⟩:=rx; exact SeqAt.EqAt.int_int a t' b t
  | str b=>obtain ⟨t,rfl⟩:=rx; exact SeqAt.EqAt.int_str a t' b t
  | _=>exact yL (show false=true from fx) yI
 | str a =>
  obtain ⟨t',rfl⟩:=ry
  cases x with
  | non=>cases rx; exact SeqAt.EqAt.str_none a t'
  | bl b=>cases rx; exact SeqAt.EqAt.str_bool a t' b
  | int b=>obtain ⟨t,rfl⟩:=rx; exact SeqAt.EqAt.str_int a t' b t
  | str b=>obtain ⟨t,rfl⟩:=rx; exact SeqAt.EqAt.str_str a t' b t
  | _=>exact yL (show false=true from fx) yI
 | _=>exact yL (show false=true from fy) yI
def eqU (x:V) (u:Value):Bool:=match u with
 | .none=>eqV .non x
 | .bool b=>eqV (.bl b) x
 | .int i _=>eqV (.int i) x
 | .str z _=>eqV (.str z) x
 | _=>false
theorem zmE {x y:V} {u:Value} (r:zbh y u) (f:zeI y=true):eqU x u=eqV y x:=by
 cases y with
 | non=>cases r; rfl
 | bl b=>cases r; rfl
 | int i=>obtain ⟨t,rfl⟩:=r; rfl
 | str z=>obtain ⟨t,rfl⟩:=r; rfl
 | _=>exact yL (show false=true from f) yI
theorem zeO {x:V}:∀ {xs:List V} {us:List Value},zaT xs us->xs.all zeI=true->us.any (eqU x)=xs.any fun y=>eqV y x
 | _,_,.nil,_=>rfl
 | y :: xs,u :: us,.cons r t,f=>by
  rw [List.all_cons,yd] at f; rw [List.any_cons,List.any_cons,zmE r f.1,zeO t f.2]
theorem zdw {A:Around} {s:Shared} {x:V} {v:Value} (rx:zbh x v) (fx:zeI x=true):∀ {xs:List V} {us:List Value},zaT xs us->xs.all zeI=true->∀ u ∈ us,SeqAt.EqAt A s u v (eqU x u)
 | _,_,.nil,_=>fun u hu=>by cases hu
 | y :: xs,u :: us,.cons r t,f=>fun u' hu=>by
  rw [List.all_cons,yd] at f
  rcases yO.mp hu with rfl | hu
  ·rw [zmE r f.1]; exact zjQ r rx f.1 fx
  ·exact zdw rx fx t f.2 u' hu
def inV (x:V) (xs:List V):Bool:=xs.any fun y=>eqV y x
def rIn (K:W.Frag) (neg:Bool):R2:=fun x y H Q=>∃ p xs,y=.ref p/\(SqL K H p xs\/SqT K H p xs)/\zeI x=true/\xs.all zeI=true/\Q (.bl (if neg then !inV x xs else inV x xs)) H
theorem zjn:OpR X (compareOp .In) (rIn X.K false):=by
 intro pins s σ H x y v u Q I rx ry h; obtain ⟨p,xs,rfl,hq,fx,fs,q⟩:=h; cases ry
 rcases hq with hq | hq
 ·obtain ⟨its,r,pl,hz⟩:=I.list hq
  refine SeqAt.in_listAt (eqU x) pl.isList (fun w hw=>zdw rx fx r fs w (by simpa using hw)) ⟨.bl _,H,I,rfl,?_⟩
  rw [show its.toArray.any (eqU x)=its.any (eqU x) by simp,zeO r fs]
  exact q
 ·obtain ⟨its,r,pl,hz⟩:=I.tuple hq
  refine SeqAt.in_tupleAt (eqU x) pl (fun w hw=>zdw rx fx r fs w (by simpa using hw)) ⟨.bl _,H,I,rfl,?_⟩
  rw [show its.toArray.any (eqU x)=its.any (eqU x) by simp,zeO r fs]
  exact q
theorem zf4:OpR X (compareOp .NotIn) (rIn X.K true):=by
 intro pins s σ H x y v u Q I rx ry h; obtain ⟨p,xs,rfl,hq,fx,fs,q⟩:=h; cases ry
 rcases hq with hq | hq
 ·obtain ⟨its,r,pl,hz⟩:=I.list hq
  refine SeqAt.notIn_listAt (eqU x) pl.isList (fun w hw=>zdw rx fx r fs w (by simpa using hw)) ⟨.bl _,H,I,rfl,?_⟩
  rw [show its.toArray.any (eqU x)=its.any (eqU x) by simp,zeO r fs]
  exact q
 ·obtain ⟨its,r,pl,hz⟩:=I.tuple hq
  refine SeqAt.notIn_tupleAt (eqU x) pl (fun w hw=>zdw rx fx r fs w (by simpa using hw)) ⟨.bl _,H,I,rfl,?_⟩
  rw [show its.toArray.any (eqU x)=its.any (eqU x) by simp,zeO r fs]
  exact q
theorem zgC:zcy X (.builtin "len") (fun xs H Q=>∃ p ys,xs=[.ref p]/\(SqL X.K H p ys\/SqT X.K H p ys)/\Q (.int ys.length) H):=by
 intro pins s σ H xs us Q I r h; obtain ⟨p,ys,rfl,hq,q⟩:=h; obtain ⟨u,rfl,rx⟩:=zc6 r; cases rx; have hn:=zgd
 rcases hq with hq | hq
 ·obtain ⟨its,r',pl,hz⟩:=I.list hq
  have hlen:=r'.length
  exact Calls.call_len_list pl.isList (by simp only [yM] <;> omega) ⟨.int ys.length,H,I.tok _,⟨s.toks+1,by rw [yM,hlen]⟩,q⟩
 ·obtain ⟨its,r',pl,hz⟩:=I.tuple hq
  have hlen:=r'.length
  exact len_tuple pl (by simp only [yM] <;> omega) ⟨.int ys.length,H,I.tok _,⟨s.toks+1,by rw [yM,hlen]⟩,q⟩
theorem zgB:zcy X (.builtin "len") (fun xs H Q=>∃ z,xs=[.str z]/\z.length<=sizeLine/\Q (.int z.length) H):=by
 intro pins s σ H xs us Q I r h; obtain ⟨z,rfl,hz,q⟩:=h; obtain ⟨u,rfl,t,rfl⟩:=zc6 r; have hn:=zgd
 exact len_str (by omega) ⟨.int z.length,H,I.tok _,⟨_,rfl⟩,q⟩
theorem zcy.or {f:Value} {r r':List V->Hp->VK->Prop} (h:zcy X f r) (h':zcy X f r'):zcy X f (fun xs H Q=>r xs H Q\/r' xs H Q):=by
 intro pins s σ H xs us Q I rs q
 rcases q with q | q
 ·exact h pins s σ H xs us Q I rs q
 ·exact h' pins s σ H xs us Q I rs q
theorem zgA:zcy X (.type "list") (fun xs H Q=>∃ p ys,xs=[.ref p]/\(SqL X.K H p ys\/SqT X.K H p ys)/\∀ l,H l=none->Q (.ref l) (upd H l (.lst ys))):=by
 intro pins s σ H xs us Q I r h; obtain ⟨p,ys,rfl,hq,q⟩:=h; obtain ⟨u,rfl,rx⟩:=zc6 r; cases rx
 have fin:∀ (its:List Value),zaT ys its->ys.length<=sizeLine->∀ (h':Heap) (c':Nat),(∀ b o',s.heap.get? b=some o'->h'.get? b=some o') ->
   h'.get? s.heap.objs.size=some { cls:=.type "list",dict:=none,data:=.seq its.toArray c',slots:=#[] }->EP X pins σ Q (.ref s.heap.objs.size) { s with heap:=h' }:=fun its r' hz h' c' kp e =>
  ⟨.ref s.heap.objs.size,_,I.laid (t':=s.toks) kp (yF _) (show zbv X.prog X.w _ h' _ (.lst ys) from ⟨hz,its,c',r',e⟩),rfl,q _ (I.hok.fresh (yF _))⟩
 rcases hq with hq | hq
 ·obtain ⟨its,r',pl,hz⟩:=I.list hq
  have hlen:=r'.length; obtain ⟨o,ho,hc,n,hd⟩:=pl.isList
  exact call_list_seq p (.inl rfl) ho hc hd (fun h' c' kp e=>fin its r' hz h' c' kp e) (by simp only [yM] <;> omega)
 ·obtain ⟨its,r',pl,hz⟩:=I.tuple hq
  have hlen:=r'.length; obtain ⟨o,ho,hc,n,hd⟩:=pl
  exact call_list_seq p (.inr rfl) ho hc hd (fun h' c' kp e=>fin its r' hz h' c' kp e) (by simp only [yM] <;> omega)
theorem zfJ:zcy X (.type "tuple") (fun xs H Q=>∃ p ys,xs=[.ref p]/\((SqL X.K H p ys/\∀ l,H l=none->Q (.ref l) (upd H l (.tup ys)))\/(SqT X.K H p ys/\Q (.ref p) H))):=by
 intro pins s σ H xs us Q I r h; obtain ⟨p,ys,rfl,h⟩:=h; obtain ⟨u,rfl,rx⟩:=zc6 r; cases rx
 rcases h with ⟨hq,q⟩ | ⟨hq,q⟩
 ·obtain ⟨its,r',pl,hz⟩:=I.list hq
  have hlen:=r'.length
  refine call_tuple_list pl.isList (fun h' kp=>?_) (by simp only [yM] <;> omega)
  have I1:Inv X pins σ H { s with heap:=h' }:=I.kept (t':=s.toks) kp
  have I2:Inv X pins σ (upd H h'.objs.size (.tup ys)) { s with heap:=h'.push { cls:=.type "tuple",data:=.seq its.toArray } } :=
   I1.laid (t':=s.toks) (fun b o e=>yB _ e) (yF _) (show zbv X.prog X.w _ _ _ (.tup ys) from ⟨hz,its,r',IsTup.new _ _⟩)
  exact ⟨.ref h'.objs.size,_,I2,rfl,q _ (I1.hok.fresh (yF _))⟩
 ·obtain ⟨its,r',pl,hz⟩:=I.tuple hq
  exact call_tuple_same pl ⟨.ref p,H,I,rfl,q⟩
def tyV (K:W.Frag) (T:String) (x:V) (H:Hp):Prop:=match x with
 | .str _=>T="str"
 | .int _=>T="int"
 | .ref p=>(T="list"/\∃ xs,SqL K H p xs)\/(T="tuple"/\∃ o,K.lookup p=some o/\o.cls=.type "tuple"/\o.dict=none) \/
   (T="dict"/\((∃ kvs,H p=some (.dK kvs))\/∃ kvs,H p=some (.dT kvs)))\/(T="set"/\∃ S n,H p=some (.set S n))
 | _=>False
theorem zos {pins:List (Addr × Obj)} {σ:St} {H:Hp} {s:Shared} {T:String} {x:V} {v:Value} (I:Inv X pins σ H s) (r:zbh x v) (ty:tyV X.K T x H) :
  s.TypeIs v T/\∀ a,v=.ref a->∃ ob,s.heap.get? a=some ob/\ob.dict=none:=by
 cases x with
 | str z =>
  obtain ⟨t,rfl⟩:=r
  cases (show T="str" from ty)
  exact ⟨typeIs_str s z t,fun _ e=>nomatch e⟩
 | int i =>
  obtain ⟨t,rfl⟩:=r
  cases (show T="int" from ty)
  exact ⟨typeIs_int s i t,fun _ e=>nomatch e⟩
 | ref p =>
  cases r
  rcases ty with ⟨rfl,xs,hq⟩ | ⟨rfl,o,hk,hc,hd⟩ | ⟨rfl,hk⟩ | ⟨rfl,S,n,hk⟩
  ·obtain ⟨its,_,pl,_⟩:=I.list hq
   refine ⟨pl.isList.typeIs,fun a e=>?_⟩
   cases e; obtain ⟨o,n,e,c,hd,_⟩:=pl; exact ⟨o,e,hd⟩
  ·refine ⟨⟨o,I.kIn p o hk,hc⟩,fun a e=>?_⟩
   cases e; exact ⟨o,I.kIn _ o hk,hd⟩
  ·have z:∃ o,s.heap.get? p=some o/\o.ExactDict:=by
    rcases hk with ⟨kvs,hk⟩ | ⟨kvs,hk⟩
    ·obtain ⟨_,_,_,_,o,_,_,e,ex,_⟩:=I.hok p _ hk
     exact ⟨o,e,ex⟩
    ·obtain ⟨_,_,_,_,o,_,_,e,ex,_⟩:=I.hok p _ hk
     exact ⟨o,e,ex⟩
   obtain ⟨o,e,ex⟩:=z
   refine ⟨⟨o,e,ex.1⟩,fun a e2=>?_⟩
   cases e2; exact ⟨o,e,ex.2.1⟩
  ·obtain ⟨o,_,_,_,e,ex,_⟩:=I.hok p _ hk
   refine ⟨⟨o,e,ex.1⟩,fun a e2=>?_⟩
   cases e2; exact ⟨o,e,ex.2.1⟩
 | _=>exact False.elim ty
def tBM (K:W.Frag) (T:String) (r:V->List V->Hp->VK->Prop) (to:TE) (t:TA):TE:=fun σ H Q=>to σ H fun x H1=>tyV K T x H1/\t σ H1 fun xs H2=>r x xs H2 Q
variable {o e:Expr} {es:List Expr} {to:TE} {t:TA} {name:Str} {apos cpos:Pos} {T id:String} {r:V->List V->Hp->VK->Prop}
theorem zpg (pa:PlainAttrs T) (slot:Slot T name id) (hty:typeOf (.builtin id)=pure (.type "method_descriptor")) (hm:MtR X id r) (ho:PE X o to) (ha:PA X (e :: es) t)
  (hbase:attributeBase o name X.env (eval o X.env)=eval o X.env:=by rfl)
  (hfew:((backTo cpos (starEach (e :: es) X.env)).all (fun x=>!x.1) && (backToKw cpos (keywordEach [] X.env)).all (fun x=>x.1.isSome)
   && decide ((e :: es).length+([]:List Keyword).length+(if ([]:List Keyword).isEmpty then 0 else 1)<30))=true:=by rfl)
  (hline:(apos.endLine == cpos.line)=true:=by rfl) (hs:starEach (e :: es) X.env=(false,eval e X.env) :: starEach es X.env:=by rfl) (hplain:(backTo cpos (starEach es X.env)).any (·.1)=false:=by rfl) :
  PE X (.Call (.Attribute o name apos) (e :: es) [] cpos) (tBM X.K T r to t):=by
 intro pins s σ H Q I h
 refine wpAny_Call_method_late hbase hfew hline rfl (thn (ho pins s σ H _ I h) fun v s1 ⟨x,H1,I1,r1,ty,q1⟩=>?_)
 obtain ⟨h1,h2⟩:=zos I1 r1 ty; refine ⟨T,id,pa,slot,hty,h1,h2,?_⟩; have hA:=ha cpos pins s1 σ H1 _ I1 q1; rw [hs] at hA ⊢
 refine Calls.callWith_builtin (by show (false || (backTo cpos (starEach es X.env)).any (·.1))=false; rw [hplain] <;> rfl) (Calls.evalArgs_plain ?_)
 exact thn hA fun us s2 ⟨vs,H2,I2,r2,q2⟩=>hm pins s2 σ H2 x vs v us Q I2 r1 r2 q2
end
def MtM (X:Cx) (id:String) (r:V->List V->Hp->VK->Prop):Prop :=
 ∀ (pins:List (Addr × Obj)) (s:Shared) (σ:St) (H:Hp) (x:V) (xs:List V) (v:Value) (us:List Value) (Q:VK),Inv X pins σ H s->zbh x v->zaT xs us->r x xs H Q ->
  wpAny (model X.prog X.w) X.A (call (.builtin id) (v :: us)) (EP X pins σ Q) X.xe s
theorem zaT.one:∀ {x:V} {us:List Value},zaT [x] us->∃ u,us=[u]/\zbh x u
 | _,_,.cons r .nil=>⟨_,rfl,r⟩
theorem zaT.rep {xs:List V} {us:List Value} (h:zaT xs us):∀ k:Nat,zaT (List.replicate k xs).flatten (List.replicate k us).flatten
 | 0=>.nil
 | k+1=>by
  rw [YL,YL,Yi,Yi]; exact zaT.append h (zaT.rep h k)
theorem foldl_rep (its:List Value):∀ (k:Nat) (acc:List Value),
  List.foldl (fun x1 x2=>x1 ++ x2) acc.toArray (List.replicate k its.toArray)=(acc ++ (List.replicate k its).flatten).toArray
 | 0,acc=>by simp
 | k+1,acc=>by
  have e:acc.toArray ++ its.toArray=(acc ++ its).toArray:=by simp
  have e2:(acc ++ its) ++ (List.replicate k its).flatten=acc ++ (List.replicate (k+1) its).flatten:=by
   rw [YL,Yi,List.append_assoc]
  rw [<- e2,<- foldl_rep its k (acc ++ its),<- e,YL,List.foldl_cons]
section
variable {X:Cx} {pins:List (Addr × Obj)} {σ:St} {H:Hp} {s:Shared} {l b:Addr} {xs ys zs:List V}
theorem Inv.lset {its its':List Value} {n:Nat} {f:Array Value->Array Value} {t':Nat} (I:Inv X pins σ H s) (hH:H l=some (.lst xs))
  (e:s.heap.get? l=some { cls:=.type "list",data:=.seq its.toArray n }) (hf:f its.toArray=its'.toArray) (hv:zaT ys its') (hz:ys.length<=sizeLine) :
  Inv X pins σ (upd H l (.lst ys)) { s with heap:=s.heap.update l (Obj.mapSeq f),toks:=t' }:=by
 have q:=PySem.IsL.update e f; rw [hf] at q
 refine I.write (x:=l) (e:=l) (by rw [hH]; exact trivial) (.inl rfl) (fun b' u hb hu=>(Yd s.heap (Obj.mapSeq f) (Ne.symm hb)).trans hu) ⟨_,q⟩ ?_
 exact ⟨hz,its',_,hv,q⟩
theorem Inv.fresh (I:Inv X pins σ H s):H s.heap.objs.size=none:=I.hok.fresh (yF _)
theorem Inv.lstM (I:Inv X pins σ H s) (hH:H l=some (.lst xs)):xs.length<=sizeLine/\∃ (its:List Value) (n:Nat),zaT xs its/\xs.length=its.length/\s.heap.get? l=some { cls:=.type "list",data:=.seq its.toArray n }:=by
 obtain ⟨z,its,n,r,e⟩:=I.hok l _ hH; exact ⟨z,its,n,r,r.length,e⟩
end
section
variable {X:Cx}
def zm7:V->List V->Hp->VK->Prop:=fun x vs H Q=>∃ l xs y,x=.ref l/\vs=[y]/\H l=some (.lst xs)/\xs.length<sizeLine/\Q .non (upd H l (.lst (xs ++ [y])))
theorem zev:MtM X "list.append" zm7:=by
 intro pins s σ H x vs v us Q I rx rv h; obtain ⟨l,xs,y,rfl,rfl,hH,hz,q⟩:=h; cases rx; obtain ⟨u,rfl,ru⟩:=rv.one; obtain ⟨z,its,n,r,hl,e⟩:=I.lstM hH
 refine call_meets F.slot_list_append ⟨_,e,rfl⟩ F.entry_list_append (F.args_list_append_2 _ _) (PySem.list_append l its.toArray n u (by rw [yM]; omega)) ⟨e,?_⟩
 refine ⟨.non,_,I.lset (its':=its ++ [u]) hH e (by simp) (r.append (.cons ru .nil)) ?_,rfl,q⟩
 rw [yQ,YT]; omega
theorem len_rep {α:Type} (xs:List α) (k:Nat):(List.replicate k xs).flatten.length=k * xs.length:=by
 induction k with
 | zero=>simp
 | succ k ih=>rw [YL,Yi,yQ,ih,Nat.succ_mul,Nat.add_comm]
end
section
variable {prog:Program} {w:World} {A:Around} {E:Value->Shared->Prop} {s:Shared}
set_option maxRecDepth 100000 in
end
section
variable {X:Cx}
end
end L2
namespace Att
open PySem PySem.W PySem.Calls PyProof.Rows
theorem zeG {P:Params} {h:Heap}:∀ (ns:List Int) (vs:List Value),WellAll P h vs (ns.map WData.int)->IntsAre vs ns:=by
 intro ns
 induction ns with
 | nil =>
  intro vs w; rw [List.map_nil] at w; cases w; exact .nil
 | cons n ns ih =>
  intro vs w; rw [yq] at w
  cases w with
  | cons a b =>
   cases a; exact .cons _ _ (ih _ b)
theorem ziX {l:OpenLaw} {n:Nat} (hn:l.most=some n) {P:Params} {h:Heap} {args:List WData} {vals:List Value}
  (hpre:l.row.toRowW.claim.pre args=true) (hwl:WellAll P h vals args) :
  ∃ a vs ns,vals=[Value.ref a]/\args=[WData.list (ns.map WData.int)]/\h.get? a=some { cls:=.type "list",data:=.seq vs.toArray }/\IntsAre vs ns/\ns.length<=n:=by
 have hsh:WShape.hasAll [] args [.list .int]=true:=(pre_splitW hpre).1
 have hc:l.pre.holds [] { args:=args }=true:=(pre_splitW hpre).2
 obtain ⟨d,r,rfl,h1,h2⟩:=hasAllW_cons hsh
 obtain rfl:=hasAllW_nil h2
 obtain ⟨xs,rfl,h3⟩:=hasW_list h1; obtain ⟨ns,rfl⟩:=items_int h3
 have hlen:ns.length<=n:=by
  unfold OpenLaw.pre at hc
  have h4:(WTm.not (.lt (.lit (.int (n:Int))) (.len (.arg 0)))).holds [] { args:=[.list (ns.map .int)] }=true:=by
   have h4:=(holds_andW hc).1; rw [hn] at h4; exact h4
  have h5:=condW_of h4 (w_not (w_lt w_lit (w_len_list (w_arg rfl)))); rw [yD] at h5
  refine Nat.le_of_not_lt fun q=>?_
  have q':(n:Int)<((ns.length:Nat):Int):=by omega
  first
   | (rw [yZ q'] at h5; exact yL h5 (by decide))
   | (simp at h5; omega)
 cases hwl with
 | cons w1 w2 =>
  cases w2
  cases w1 with
  | list ho hall=>exact ⟨_,_,ns,rfl,rfl,ho,zeG ns _ hall,hlen⟩
theorem zjf (l:OpenLaw) (args:List WData):l.row.toRowW.claim.post args (.bool true) args=true :=
 postW_of (r:=l.row.toRowW) (X:=(true == true))
  (show WShape.has [] (.bool true) .bool=true by first | rfl | decide | simp [WShape.has,WShape.arms,WShape.armsAll])
  (show (WTm.eq .res (.lit (.bool true))).value [] { args:=args,res:=some (.bool true),after:=args }=some (.bool (true == true)) from w_eq_bool (w_res rfl) w_lit) rfl
theorem attach_call {l:OpenLaw} {n:Nat} {q:Program} {loose:List Str} {XP:(Str->Option Value)->Heap->Prop} {YP:World->Heap->Prop} {d:DefRec}
  (hn:l.most=some n) (hdf:d.params.defaults=[])
  (call:∀ (w:World) (s₀ s₁:Shared) (mg mb:Str->Option Value) (fa:Addr) (o:Obj) (pm cd doc:Value) (a:Addr) (vs:List Value) (ns:List Int),
   Ground q loose [] XP w s₀ mg mb s₁.heap->YP w s₁.heap ->
   s₁.heap.get? fa=some o->o.data=.func (docDef d.name d.params d.body d.scope pm cd doc)->s₁.heap.CodeRec cd d.name->mg d.name=some (.ref fa) ->
   s₁.heap.get? a=some { cls:=.type "list",data:=.seq vs.toArray }->IntsAre vs ns->ns.length<=n->s₁.gens=#[] ->
   codeAny (model l.prog w) callerA (.call (.ref fa) ⟨[.ref a],[]⟩) (fun r s'=>r=.ok (.ret (.bool true))/\OldK s₁.heap s'.heap/\s'.os=s₁.os/\AllBare s'.gens) s₁) :
  WalkO q loose XP YP l.row.toRowW d [] (fun f vs=>PySem.call f vs):=by
 intro w s₀ s₁ mg mb G Y fa o pm cd doc dV kV ho hd hcd hD hmg hg args vals as hpre hlay hrd hwl hlo
 obtain rfl:dV=.none:=Dflts.none hD hdf
 obtain rfl:kV=.none:=Dflts.noKw hD
 obtain ⟨a,vs,ns,rfl,rfl,hobj,hints,hlen⟩:=ziX hn hpre hwl
 refine enter_call (codeAny_mono (call w s₀ s₁ mg mb fa o pm cd doc a vs ns G Y ho (fd_plain hd) hcd hmg hobj hints hlen hg) fun r s' hq=>?_)
 obtain ⟨rfl,h2,h3,h4⟩:=hq
 exact ⟨.inl ⟨.bool true,.bool true,[],rfl,fun _=>rfl,.bool true,zjf l _,fun _=>⟨List.Pairwise.nil,fun _ hm=>(nomatch hm)⟩⟩,h2,h3,h4⟩
section
variable {prog:Program} {w:World} {A:Around} {E:Value->Shared->Prop} {s:Shared} {K:Frag}
def zsl (h:Heap) (L d:Addr):List (Addr × Obj):=(List.range h.objs.size).filterMap fun a=>if a=L\/a=d then none else (h.get? a).map fun o=>(a,o)
end
end Att
namespace L2
open PySem PySem.Spec PyProof.Rows
theorem zfM:∀ {vs:List Value} {ns:List Int},IntsAre vs ns->zaT (ns.map V.int) vs
 | _,_,.nil=>.nil
 | _,_,.cons n t h=>.cons ⟨t,rfl⟩ (zfM h)
def zcd (s:Stmt):Arguments:=match s with
 | .FunctionDef _ a _ _ _ _ _ _ _ _=>a
 | _=>{ posonlyargs:=[],args:=[],vararg:=none,kwonlyargs:=[],kw_defaults:=[],kwarg:=none,defaults:=[] }
def zaU (s:Stmt):List Stmt:=match s with
 | .FunctionDef _ _ b _ _ _ _ _ _ _=>b
 | _=>[]
def zm (s:Stmt):Scope:=match s with
 | .FunctionDef _ _ _ _ _ _ sc _ _ _=>sc
 | _=>{ kind:=.function,names:=[],isGenerator:=false,isCoroutine:=false }
abbrev CX0:CXT:=fun _ _ _ _ _ _=>False
abbrev E0:XK:=fun _ _ _=>False
theorem zrg {X:Cx}:zkk CX0 X E0:=fun _ _ _ _ _ _ _ h=>h.elim
structure Fun (K:W.Frag) (x qual:Str) (st:Stmt) (f:Addr) (fd:FuncData):Prop where
 ex:∃ (oc:Value) (od:Option Addr) (kV doc pm:Value) (an:Option Addr) (cdv ct:Value) (osl:Array (Option Value)),
  fd=W.fnOf x qual (zcd st) (zaU st) (zm st) .none kV doc pm an cdv ct/\K.lookup f=some ⟨oc,od,.func fd,osl⟩/\W.codeIn K cdv qual=true
 kp:W.keepIn K (.ref f)=true
section
variable {P:Program} {w:World} {K:W.Frag} {mg:Str->Option Value} {base:Heap}
theorem Fun.ok {x qual:Str} {st:Stmt} {f:Addr} {fd:FuncData} {N ps:List Str} {k:Nat} {sp:Sp} (F:Fun K x qual st f fd) (S:FnScope N ps (zm st)) (len:∀ vs H Q E,sp vs H Q E->vs.length=ps.length)
  (hbody:∀ (cdv:Value) (A:Around) (outer:List Env) (s:Shared) (H:Hp) (vs:List V) (Q:VK) (E:XK),Room k (A.deeper (envOfC qual (zm st) s.heap.objs.size f cdv))->sp vs H Q E ->
   ∃ t,PSs (zd9 CX0 P w K mg base N qual (zm st) f cdv A outer s H E).nox (zaU st) t/\t { nx:=fun _ H'=>Q .non H',rt:=Q } (start N vs) H):FnOk P w K mg base CX0 (k+1) f fd ps sp:=by
 obtain ⟨oc,od,kV,doc,pm,an,cdv,ct,osl,rfl,lk,hcd⟩:=F.ex
 refine zpS lk hcd S len fun A outer s H vs Q E hr hsp=>?_
 obtain ⟨t,h,q⟩:=hbody cdv A outer s H vs Q E hr hsp; exact ⟨t,h.nox,q⟩
theorem Fun.binds {x qual:Str} {st:Stmt} {f:Addr} {fd:FuncData} {ps:List Str} (F:Fun K x qual st f fd)
  (h:∀ (kV doc pm:Value) (an:Option Addr) (cdv ct:Value) (us:List Value),us.length=ps.length->bindArgs (W.fnOf x qual (zcd st) (zaU st) (zm st) .none kV doc pm an cdv ct) ⟨us,[]⟩=pure (ps.zip us)):zd4 K fd ps []:=by
 obtain ⟨oc,od,kV,doc,pm,an,cdv,ct,osl,rfl,lk,hcd⟩:=F.ex; exact .all (h kV doc pm an cdv ct)
theorem zhK {x qual:Str} {st:Stmt} {f:Addr} {oc:Value} {od an:Option Addr} {osl:Array (Option Value)} {kV doc pm cdv ct:Value} (l:K.lookup f=some ⟨oc,od,.func (W.fnOf x qual (zcd st) (zaU st) (zm st) .none kV doc pm an cdv ct),osl⟩)
  (c:W.codeIn K cdv qual=true) (k:W.keepIn K (.ref f)=true):Fun K x qual st f (W.fnOf x qual (zcd st) (zaU st) (zm st) .none kV doc pm an cdv ct):=⟨⟨oc,od,kV,doc,pm,an,cdv,ct,osl,rfl,l,c⟩,k⟩
end
theorem zaC {A:Around} {k:Nat} (hr:Room k A):A.units+1<cLine:=Nat.lt_of_le_of_lt (Nat.add_le_add_left (by decide:1<=64) _) hr.units
theorem zcL {n:Nat} (h:n<=1000):n<sizeLine:=Nat.lt_of_le_of_lt h (by decide)
section
variable {X:Cx}
end
def zaM (H H':Hp):Prop:=∀ b o,H b=some o->H' b=some o
theorem zaM.refl (H:Hp):zaM H H:=fun _ _ h=>h
theorem zaM.trans {H H1 H2:Hp} (a:zaM H H1) (b:zaM H1 H2):zaM H H2:=fun c o h=>b c o (a c o h)
theorem zaM.free {H H':Hp} (e:zaM H H') {l:Addr} (h:H' l=Option.none):H l=Option.none:=by
 cases q:H l with
 | none=>rfl
 | some o =>
  rw [e l o q] at h; cases h
section
variable {κ:Type} [DecidableEq κ]
def zkC (kvs:List (κ × V)) (k:κ):Option V:=(kvs.find? fun kv=>decide (kv.1=k)).map (·.2)
def zjc (kvs:List (κ × V)) (k:κ) (v:V):List (κ × V) :=
 if (kvs.any fun kv=>decide (kv.1=k))=true then kvs.map (fun kv=>if kv.1=k then (kv.1,v) else kv) else kvs ++ [(k,v)]
theorem zfb {p:κ × V} {r:List (κ × V)} {k:κ} (e:p.1=k):zkC (p :: r) k=some p.2:=by simp [zkC,YU,e]
theorem zfc {p:κ × V} {r:List (κ × V)} {k:κ} (e:¬ p.1=k):zkC (p :: r) k=zkC r k:=by simp [zkC,YU,e]
theorem zfd (k:κ):∀ kvs:List (κ × V),(kvs.any fun kv=>decide (kv.1=k))=(zkC kvs k).isSome
 | []=>rfl
 | p :: r=>by
  rw [List.any_cons]
  by_cases e:p.1=k
  ·simp only [zfb e,yZ e,Bool.true_or,Option.isSome_some]
  ·rw [zfc e,yR e,Bool.false_or]; exact zfd k r
theorem zg7 (kvs:List (κ × V)) (k:κ) (v:V):(zjc kvs k v).length<=kvs.length+1:=by
 unfold zjc; split
 ·rw [yD]; omega
 ·rw [yQ,List.length_cons,List.length_nil]; omega
theorem zl6.isSome_eq {o:Option V} {u:Option Value} (r:zl6 o u):o.isSome=u.isSome:=by
 cases o with
 | none=>cases u with
  | none=>rfl
  | some _=>exact (show False from r).elim
 | some _=>cases u with
  | none=>exact (show False from r).elim
  | some _=>rfl
theorem KV.length {kvs:List (κ × V)} {vs:List (κ × Value)} (r:KV kvs vs):kvs.length=vs.length:=Paired.length r
end
theorem zry {P:Program} {w:World} {k:Key} {u:Value} (r:zbh (kV k) u):(zbF P w).is k u=true:=by
 cases k with
 | inl i=>obtain ⟨t,e⟩:=(show ∃ t,u=Value.int i t from r); subst e; exact zg6 P w i t
 | inr x=>obtain ⟨t,e⟩:=(show ∃ t,u=Value.str x t from r); subst e; exact zg5 P w x t
theorem zgj {P:Program} {w:World}:∀ {ks:List Key} {us:List Value},zaT (ks.map kV) us->ItemsAre (zbF P w) ks us
 | [],_,r=>by rw [List.map_nil] at r; cases r; exact .nil
 | k :: ks,_,r=>by
  rw [yq] at r
  cases r with
  | cons h t=>exact .cons (zry h) (zgj t)
abbrev KT (H:Hp):List (List Key × V)->List (List Key × Addr × Value)->Prop:=Paired fun p q=>p.1=q.1/\H q.2.1=some (.tup (p.1.map kV))/\zbh p.2 q.2.2
theorem KT.val {H:Hp} {kvs:List (List Key × V)} {xs:List (List Key × Addr × Value)} (r:KT H kvs xs) (k:List Key):zl6 (zkC kvs k) ((atKey xs k).map (·.2)):=by
 induction r with
 | nil=>exact True.intro
 | @cons p q ps qs h t ih =>
  obtain ⟨h1,_,h2⟩:=h
  by_cases e:p.1=k
  ·have e':q.1=k:=h1.symm.trans e
   have b:atKey (q :: qs) k=some q.2:=by simp [atKey,YU,e']
   rw [zfb e,b]; exact h2
  ·have e':¬ q.1=k:=fun z=>e (h1.trans z)
   have b:atKey (q :: qs) k=atKey qs k:=by simp [atKey,YU,e']
   rw [zfc e,b]; exact ih
theorem KT.repl {H:Hp} {kvs:List (List Key × V)} {xs:List (List Key × Addr × Value)} (r:KT H kvs xs) (k:List Key) {y:V} {u:Value} (ry:zbh y u) :
  KT H (kvs.map fun kv=>if kv.1=k then (kv.1,y) else kv) (xs.map (putAt k u)):=by
 induction r with
 | nil=>exact .nil
 | @cons p q ps qs h t ih =>
  rw [yq,yq]; refine .cons ?_ ih; obtain ⟨h1,h2,h3⟩:=h; unfold putAt
  by_cases e:p.1=k
  ·rw [yP e,yP (h1.symm.trans e)]; exact ⟨h1,h2,ry⟩
  ·rw [yN e,yN (fun z=>e (h1.trans z))]; exact ⟨h1,h2,h3⟩
theorem KT.put {H:Hp} {kvs:List (List Key × V)} {xs:List (List Key × Addr × Value)} (r:KT H kvs xs) (k:List Key) {b:Addr} {y:V} {u:Value} (hb:H b=some (.tup (k.map kV))) (ry:zbh y u) :
  KT H (zjc kvs k y) (storedH xs k b u):=by
 have e:(kvs.any fun kv=>decide (kv.1=k))=(atKey xs k).isSome:=by
  rw [zfd,(r.val k).isSome_eq,Option.isSome_map]
 unfold zjc storedH; rw [e]
 by_cases q:(atKey xs k).isSome=true
 ·rw [yP q,yP q]; exact r.repl k ry
 ·rw [yN q,yN q]; exact Paired.snoc r ⟨rfl,hb,ry⟩
theorem KT.keeps {H H':Hp} {kvs:List (List Key × V)} {xs:List (List Key × Addr × Value)} (r:KT H kvs xs) (ht:∀ b ys,H b=some (.tup ys)->H' b=some (.tup ys)):KT H' kvs xs :=
 Paired.mapP r fun _ _ z=>⟨z.1,ht _ _ z.2.1,z.2.2⟩
section
variable {P:Program} {w:World} {H:Hp} {h:Heap} {a:Addr}
theorem ze7 {ks:List Key} (ok:HOk P w H h) (e:H a=some (.tup (ks.map kV))):(tupleKind (zbF P w)).is h ks a:=by
 obtain ⟨_,its,r,o,h1,h2,n,h3⟩:=(show zbv P w H h a (.tup (ks.map kV)) from ok a _ e)
 exact ⟨o,its.toArray,n,h1,h2,h3,by simpa using zgj r⟩
end
section
variable {X:Cx} {pins:List (Addr × Obj)} {σ:St} {H:Hp} {s:Shared} {a:Addr} {y v:V} {u r:Value} {o:Option V} {A:Around} {E:Value->Shared->Prop}
theorem Inv.big (I:Inv X pins σ H s):sysModules<s.heap.objs.size:=by
 have h:mainGlobals<s.heap.objs.size:=(I.mod.glob.keeps I.bk).lt
 exact Nat.lt_trans (by decide) h
theorem zjY {h':Heap} {t':Nat} {ob:HO} (I:Inv X pins σ H s) (mu:Mut (H a)) (hs:Heap.SameBut a s.heap h') (he:∃ q,h'.get? a=some q) (new:zbv X.prog X.w (upd H a ob) h' a ob) :
  Inv X pins σ (upd H a ob) { s with heap:=h',toks:=t' } :=
 I.write (x:=a) (e:=a) mu (.inl rfl) (fun b q hb z=>(hs.2 b hb).trans z) he new
end
section
variable {X:Cx} {pins:List (Addr × Obj)} {σ:St} {H:Hp} {s:Shared} {a:Addr} {kvs:List (Key × V)} {k:Key} {u:Value} {A:Around} {E:Value->Shared->Prop}
end
section
variable {X:Cx} {o i e value:Expr} {pos pos' tpos:Pos} {td ty tv:TE}
end
theorem zlZ {P:Program} {w:World} {H:Hp} (h:Heap) (hb:sysModules<h.objs.size):zbv P w H (h.push { cls:=.type "dict",data:=.dict #[] }) h.objs.size (.dK []) :=
 ⟨yi _,beq_eq_false_iff_ne.mpr (Ne.symm (yS hb)),[],.nil,Heap.DictOf.new h⟩
def zoz:TE:=fun _ H Q=>∀ p,H p=none->Q (.ref p) (upd H p (.dK []))
section
variable {X:Cx} {pos:Pos}
theorem zlc:PE X (.Dict [] [] pos) zoz:=fun pins s σ H Q I h =>
 wpAny_Dict_empty ⟨.ref s.heap.objs.size,_,I.laid (a:=s.heap.objs.size) (o:=.dK []) (t':=s.toks) (fun _ _ q=>yB _ q) (yF _) (zlZ s.heap I.big),rfl,h _ (I.hok.fresh (yF _))⟩
end
section
variable {X:Cx} {pins:List (Addr × Obj)} {σ:St} {H:Hp} {s:Shared} {a:Addr} {y d:V} {u r:Value} {o:Option V} {A:Around} {E:Value->Shared->Prop}
end
section
variable {X:Cx} {o e f:Expr} {apos cpos:Pos} {td ty tx:TE}
end
section
variable {X:Cx} {pins:List (Addr × Obj)} {σ:St} {H:Hp} {s:Shared} {a:Addr} {kvs:List (Key × V)} {A:Around} {E:Value->Shared->Prop}
end
section
variable {X:Cx} {pins:List (Addr × Obj)} {σ:St} {H:Hp} {s:Shared} {a:Addr} {y:V} {u:Value} {A:Around} {E:Value->Shared->Prop}
end
end L2
set_option maxHeartbeats 4000000
namespace L2
open PySem PySem.Spec PyProof.Rows
def st (l:List Nat):Str:=⟨l.toArray⟩
theorem zaN (l:List Nat):(st l).cps.toList=l:=by simp [st]
theorem zb3 (l:List Nat):(st l).length=l.length:=by simp [st,Str.length]
theorem zoF (x:Str):x=st x.cps.toList:=by cases x; simp [st]
theorem st_inj {a b:List Nat} (h:st a=st b):a=b:=by
 have e:=yc (fun x:Str=>x.cps.toList) h
 simpa [st] using e
theorem zoG (a b:List Nat):st a ++ st b=st (a ++ b):=by
 show Str.append (st a) (st b)=st (a ++ b)
 unfold Str.append st; simp
theorem zmD (l:List Nat) (c:Nat):(!(Builtin.Str.occurrences (st l) (st [c]) 0 (st l).length 1).isEmpty)=decide (c ∈ l):=by
 have e:=StrLaws.found_one (st l) c; rw [zaN] at e; exact e
theorem zkN (l:List Nat) (n:Nat):Txt.slice (st l) none (some (n:Int))=st (l.take n):=by
 by_cases h:n<=l.length
 ·have q:Txt.slice (st l) none (some (n:Int))=⟨(((st l).cps.toList.drop 0).take ((n:Int)-0).toNat).toArray⟩:=StrLaws.sliceText_to ⟨by omega,by rw [zaN]; omega⟩
  rw [q,zaN]; simp [st]
 ·have e:Txt.slice (st l) none (some (n:Int))=Txt.slice (st l) none (some (l.length:Int)):=by
   unfold Txt.slice
   have z:Builtin.Str.strSliceIndices none (some (n:Int)) 1 (st l).length=Builtin.Str.strSliceIndices none (some (l.length:Int)) 1 (st l).length:=by
    rw [zb3]
    have h0:¬ (n:Int)<0:=by omega
    have h1:¬ ((l.length:Int)<0):=by omega
    have h2:(1:Int) > 0:=by decide
    have h3:min (n:Int) (l.length:Int)=(l.length:Int):=by omega
    simp only [Builtin.Str.strSliceIndices,h0,h1,h2,if_false,if_true,h3,Int.min_self]
   rw [z]
  have q:Txt.slice (st l) none (some (l.length:Int))=⟨(((st l).cps.toList.drop 0).take ((l.length:Int)-0).toNat).toArray⟩:=StrLaws.sliceText_to ⟨by omega,by rw [zaN]; omega⟩
  rw [e,q,zaN,yn (by omega:l.length<=n)]
  simp [st]
theorem zh9 (l:List Nat) (n:Nat):Txt.slice (st l) (some (n:Int)) none=st (l.drop n):=by
 by_cases h:n<=l.length
 ·have q:Txt.slice (st l) (some (n:Int)) none=⟨(((st l).cps.toList.drop (n:Int).toNat).take (((st l).cps.toList.length:Int)-(n:Int)).toNat).toArray⟩:=StrLaws.sliceText_from ⟨by omega,by rw [zaN]; omega⟩
  rw [q,zaN]
  have e1:(n:Int).toNat=n:=by omega
  have e2:((l.length:Int)-(n:Int)).toNat=l.length-n:=by omega
  rw [e1,e2,yn (by rw [YY]; omega)]
  rfl
 ·rw [slice_beyond (by rw [zb3]; omega),YN (by omega)]
  rfl
section
variable {X:Cx}
theorem zgD:zcy X (.type "int") (fun xs H Q=>∃ x n,xs=[.str x]/\PySem.intText? x=some n/\x.length<=640/\Q (.int n) H):=by
 intro pins s σ H xs us Q I r h; obtain ⟨x,n,rfl,hn,hl,q⟩:=h; obtain ⟨u,rfl,t,rfl⟩:=zc6 r; exact W.KIN.call_text hn hl ⟨.int n,H,I.tok _,⟨_,rfl⟩,q⟩
def zsF:V->Option Int->Option Int->Hp->VK->Prop:=fun x lo hi H Q=>∃ z,x=.str z/\z.length<=sizeLine/\Q (.str (Txt.slice z lo hi)) H
theorem zoI:SlR X zsF:=by
 intro pins s σ H x v vl vu lo hi sl Q I rx hs pl pu h; obtain ⟨z,rfl,hz,q⟩:=h; obtain ⟨t,rfl⟩:=rx; refine ⟨"str",_,PySem.F.slot_str_getitem.lookup,typeIs_str _ _ _,?_⟩
 have fin:∀ t' k,EP X pins σ Q (.str (Txt.slice z lo hi) t') { s with toks:=k }:=fun t' k=>⟨.str (Txt.slice z lo hi),H,I.tok _,⟨_,rfl⟩,q⟩
 cases pl with
 | none =>
  cases pu with
  | none=>exact wpAny_getItem_str_slice (l:=none) (u:=none) (st:=none) hs rfl (post_val_or_str ⟨yu (Txt.slice_le z _ _) hz,fin⟩)
  | int j u=>exact wpAny_getItem_str_slice (l:=none) (u:=some (j,u)) (st:=none) hs rfl (post_val_or_str ⟨yu (Txt.slice_le z _ _) hz,fin⟩)
 | int i u' =>
  cases pu with
  | none=>exact wpAny_getItem_str_slice (l:=some (i,u')) (u:=none) (st:=none) hs rfl (post_val_or_str ⟨yu (Txt.slice_le z _ _) hz,fin⟩)
  | int j u=>exact wpAny_getItem_str_slice (l:=some (i,u')) (u:=some (j,u)) (st:=none) hs rfl (post_val_or_str ⟨yu (Txt.slice_le z _ _) hz,fin⟩)
theorem zjw:MtR X "str.rstrip" (fun x xs H Q=>∃ z y,x=.str z/\xs=[.str y]/\z.length<=sizeLine/\Q (.str (Txt.rstripChars z y)) H):=by
 intro pins s σ H x xs v us Q I rx rs h; obtain ⟨z,y,rfl,rfl,hz,q⟩:=h; obtain ⟨t,rfl⟩:=rx; obtain ⟨u,rfl,t',rfl⟩:=zc6 rs
 exact PySem.SC.rstripChars (fun t' k=>⟨.str _,H,I.tok _,⟨_,rfl⟩,q⟩) hz
end
def ltV:V->V->Bool
 | .int i,.int j=>decide (i<j)
 | .str x,.str y=>decide (x.cps.toList<y.cps.toList)
 | _,_=>false
def zrL:V->V->Bool
 | .int _,.int _=>true
 | .str _,.str _=>true
 | _,_=>false
def ziH:List V->List V->Bool
 | [],[]=>false
 | [],_ :: _=>true
 | _ :: _,[]=>false
 | x :: xs,y :: ys=>if x=y then ziH xs ys else ltV x y
def zj6:List V->List V->Prop
 | x :: xs,y :: ys=>zrL x y=true/\zj6 xs ys
 | _,_=>True
theorem zey (x y:V) (xs ys:List V):ziH (x :: xs) (y :: ys)=if x=y then ziH xs ys else ltV x y:=rfl
theorem zlX {A:Around} {s:Shared} {x y:V} {u v:Value} (rx:zbh x u) (ry:zbh y v) (h:zrL x y=true):∃ e,SeqAt.EqAt A s u v e/\(e=true↔x=y):=by
 cases x with
 | int i =>
  cases y with
  | int j =>
   obtain ⟨t,rfl⟩:=rx; obtain ⟨t',rfl⟩:=ry
   exact ⟨(i == j),SeqAt.EqAt.int_int i t j t',by simp⟩
  | _=>exact yL (show false=true from h) yI
 | str a =>
  cases y with
  | str b =>
   obtain ⟨t,rfl⟩:=rx; obtain ⟨t',rfl⟩:=ry
   exact ⟨(a == b),SeqAt.EqAt.str_str a t b t',by simp⟩
  | _=>exact yL (show false=true from h) yI
 | _=>cases y <;> exact yL (show false=true from h) yI
theorem zkP {A:Around} {s:Shared} {x y:V} {u v:Value} (rx:zbh x u) (ry:zbh y v) (h:zrL x y=true) (prog:Program) (w:World) (E:Value->Shared->Prop) (Q:Value->Shared->Prop) (q:Q (.bool (ltV x y)) s) :
  wpAny (model prog w) A (richCompare .Lt u v) Q E s:=by
 cases x with
 | int i =>
  cases y with
  | int j =>
   obtain ⟨t,rfl⟩:=rx; obtain ⟨t',rfl⟩:=ry; exact (PyProof.Rows.lt_int q:wpAny (model prog w) A (compareOp .Lt (.int i t) (.int j t')) Q E s)
  | _=>exact yL (show false=true from h) yI
 | str a =>
  cases y with
  | str b =>
   obtain ⟨t,rfl⟩:=rx; obtain ⟨t',rfl⟩:=ry; exact (PyProof.Rows.lt_str q:wpAny (model prog w) A (compareOp .Lt (.str a t) (.str b t')) Q E s)
  | _=>exact yL (show false=true from h) yI
 | _=>cases y <;> exact yL (show false=true from h) yI
end L2
namespace HT
open PySem PyProof.Rows L2
section
open PySem.SeqAt
open PySem.AutoSeq1 (wpAny_loadPart')
open PySem.MeetsSeq PySem.MeetsSeq2 PySem.MeetsSeq3
theorem zfe (l b:Addr) (items items2:Array Value) (n n2:Nat) (dd dd2:Option Addr) (sl sl2:Array (Option Value)) (ns ms:List V) (hi:zaT ns items.toList) (hj:zaT ms items2.toList) (hc:zj6 ns ms) :
  Meets (Builtin.«tuple.__lt__» ⟨[.ref l,.ref b],[]⟩)
   (fun _ R s=>s.heap.get? l=some { cls:=.type "tuple",dict:=dd,data:=.seq items n,slots:=sl }/\s.heap.get? b=some { cls:=.type "tuple",dict:=dd2,data:=.seq items2 n2,slots:=sl2 } /\
    R (.ok (.ret (.bool (ziH ns ms)))) s) :=
 .of_wp fun prog w A R s h=>by
  obtain ⟨hp,g,d,tk,os⟩:=s; obtain ⟨hl,hb,h⟩:=h
  have f2:=AutoSeq1.sub_tuple_tuple
  have z1:items.size=ns.length:=by rw [hi.length]; simp
  have z2:items2.size=ms.length:=by rw [hj.length]; simp
  wp_walk using wpAny_loadPart' hl,wpAny_loadPart' hb,wpAny_forIn_list _ (fun zdF b s'=>b.1=none/\s'=⟨hp,g,d,tk,os⟩/\∃ (vs ws:List Value) (ns' ms':List V),zdF=vs.zip ws /\
   zaT ns' vs/\zaT ms' ws/\zj6 ns' ms'/\ns'.length+items2.size=ms'.length+items.size/\R (.ok (.ret (.bool (ziH ns' ms')))) ⟨hp,g,d,tk,os⟩) _
  case turn =>
   rintro ⟨y,x⟩ zdF b s' ⟨hb',rfl,vs,ws,ns',ms',hz,hvi,hwi,hcc,hlen,hR⟩
   cases hvi with
   | nil=>rw [List.zip_nil_left] at hz; cases hz
   | cons ra hvi' =>
    cases hwi with
    | nil=>rw [List.zip_nil_right] at hz; cases hz
    | cons rc hwi' =>
     rw [List.zip_cons_cons] at hz
     injection hz with hyx hrest
     injection hyx with hy hx
     subst hy hx
     rw [zey] at hR; simp only [List.length_cons] at hlen; obtain ⟨hc1,hc2⟩:=hcc; obtain ⟨e,he,hiff⟩:=zlX (A:=A.in1) (s:=⟨hp,g,d,tk,os⟩) ra rc hc1; refine yA (he prog w _ _ ?_)
     cases e with
     | true =>
      rw [yP (hiff.mp rfl)] at hR
      wp_walk
      exact ⟨rfl,rfl,_,_,_,_,hrest,hvi',hwi',hc2,by omega,hR⟩
     | false =>
      rw [yN (fun q=>yL (hiff.mpr q) yI)] at hR
      have hri:=fun E Q=>zkP (A:=A.in1) (s:=⟨hp,g,d,tk,os⟩) ra rc hc1 prog w E Q
      wp_walk using hri
      exact ⟨_,rfl,by simpa using hR⟩
  case fin =>
   rintro ⟨b1,b2⟩ s' ⟨hb',rfl,vs,ws,ns',ms',hz,hvi,hwi,hcc,hlen,hR⟩
   simp only at hb'
   subst hb'
   have hv:ziH ns' ms'=decide (items.size<items2.size):=by
    cases hvi with
    | nil =>
     cases hwi with
     | nil =>
      simp only [List.length_nil] at hlen
      exact (yR (by omega)).symm
     | cons rc hw =>
      simp only [List.length_nil,List.length_cons] at hlen
      exact (yZ (by omega)).symm
    | cons ra hv =>
     cases hwi with
     | nil =>
      simp only [List.length_nil,List.length_cons] at hlen
      exact (yR (by omega)).symm
     | cons rc hw =>
      rw [List.zip_cons_cons] at hz; cases hz
   rw [hv] at hR
   wp_walk
   exact ⟨_,rfl,by simpa [Builtin.Tuple.tupleCompareSizes] using hR⟩
  case h =>
   exact ⟨rfl,rfl,items.toList,items2.toList,ns,ms,rfl,hi,hj,hc,by omega,h⟩
end
section
variable {prog:Program} {w:World} {A:Around} {E:Value->Shared->Prop} {s:Shared}
theorem lt_tupVals {l b:Addr} {items items2:Array Value} {ns ms:List V} {Q:Value->Shared->Prop} (hl:IsTup s.heap l items) (hb:IsTup s.heap b items2) (hi:zaT ns items.toList) (hj:zaT ms items2.toList) (hcc:zj6 ns ms)
  (hu:A.units<cLine) (h:Q (.bool (ziH ns ms)) s):wpAny (model prog w) A (compareOp .Lt (.ref l) (.ref b)) Q E s:=by
 obtain ⟨⟨cls,dd,data,sl⟩,ho,hc,n,hd⟩:=id hl
 obtain ⟨⟨cls2,dd2,data2,sl2⟩,ho2,hc2,n2,hd2⟩:=id hb
 simp only at hc hd hc2 hd2
 subst hc hd hc2 hd2
 exact richCompare_meets_room (op:=.Lt) ⟨_,ho,rfl⟩ ⟨_,ho2,rfl⟩ PySem.F.slot_tuple_lt PySem.F.entry_tuple_lt (PySem.F.args_tuple_lt_2 _ _) (zfe l b items items2 n n2 dd dd2 sl sl2 ns ms hi hj hcc)
  ⟨ho,ho2,show Value.bool (ziH ns ms)≠Value.notImplemented/\Q (.bool (ziH ns ms)) s from ⟨(fun x=>nomatch x),h⟩⟩ hu
end
end HT
namespace L2
open PySem PySem.Spec PyProof.Rows
section
variable {X:Cx}
def zsH (K:W.Frag):R2:=fun x y H Q=>∃ a b ns ms,x=.ref a/\y=.ref b/\SqT K H a ns/\SqT K H b ms/\zj6 ns ms/\Q (.bl (ziH ns ms)) H
theorem zpl (hu:X.A.units<cLine):OpR X (compareOp .Lt) (zsH X.K):=by
 intro pins s σ H x y v u Q I rx ry h; obtain ⟨a,b,ns,ms,rfl,rfl,ha,hb,hc,q⟩:=h; cases rx; cases ry; obtain ⟨its,r1,p1,_⟩:=I.tuple ha; obtain ⟨its2,r2,p2,_⟩:=I.tuple hb
 exact HT.lt_tupVals p1 p2 (by simpa using r1) (by simpa using r2) hc hu ⟨.bl (ziH ns ms),H,I,rfl,q⟩
end
def Its (l:List Nat):It:=⟨fun i _=>i<l.length,fun i H x H'=>H'=H/\∃ c,l[i]?=some c/\x=.str (st [c]),fun i _=>i=l.length⟩
theorem zhh {P:Program} {w:World} {A:Around} {cls:String} (hA:A.handled=none) (it:Addr) (x:Str) (t:Tok) (hcls:cls="str_ascii_iterator"\/cls="str_iterator"):Walks P w A it [it] [it] x.cps.size (SignAt x) (fun i h=>h.IsStrIter it cls x t i):=by
 rcases hcls with rfl | rfl
 ·exact Walks.strAscii hA it x t
 ·exact Walks.strWide hA it x t
theorem zhj {P:Program} {w:World} {K:W.Frag} {tg:Expr} {cls:String} (x:Str) (t:Tok) (it:Addr) (hcls:cls="str_ascii_iterator"\/cls="str_iterator"):Turn P w K tg (Its x.cps.toList) [it] it (fun i h=>h.IsStrIter it cls x t i) where
 mem:=by simp
 obj:=fun i h stt b hb=>by
  have e:b=it:=by simpa using hb
  subst e; obtain ⟨o,e,c,d⟩:=stt
  exact ⟨o,e,fun v z=>by rw [d] at z; cases z⟩
 keep:=fun i h h' stt k=>by
  obtain ⟨o,e,r⟩:=stt
  exact ⟨o,k it (by simp) o e,r⟩
 item:=by
  intro X hP hw hK hc i pins s σ H E I hf stt hg
  subst hP hw hK
  obtain ⟨f0,f1,f2,f3,f4,f5⟩:=hf it (by simp)
  have hg':i<x.cps.toList.length:=hg
  refine (zhh (I.ok.hd hc) it x t hcls).item i s _ _ (by simpa using hg') stt fun v h' tk hv st' kk=>?_
  obtain ⟨c,u,hc',rfl⟩:=hv
  have I1:Inv X pins σ H { s with heap:=h',toks:=tk }:=I.turned (fun b o hb e=>kk b o (by simpa using hb) e) f0 f1 f3 f4 f5
  obtain ⟨o,e,hcl,d⟩:=id st'
  exact ⟨_,rfl,zjN (s:={ s with heap:=h',toks:=tk }) e hcl d (by rcases hcls with rfl | rfl <;> decide) ⟨.str (st [c]),H,I1,⟨u,rfl⟩,⟨rfl,c,by simpa using hc',rfl⟩,st',fun b hb=>(hf b hb).1⟩⟩
 done:=by
  intro X hP hw hK hc i pins s σ H E I hf stt hg
  subst hP hw hK
  obtain ⟨f0,f1,f2,f3,f4,f5⟩:=hf it (by simp)
  have hg':i=x.cps.toList.length:=hg
  subst hg'
  refine (zhh (I.ok.hd hc) it x t hcls).done s _ _ (by simpa using stt) fun h' tk kk=>?_
  exact ⟨rfl,I.turned (fun b o hb e=>kk b o (by simpa using hb) e) f0 f1 f3 f4 f5⟩
 self:=fun A i s Q E stt h=>by
  rcases hcls with rfl | rfl
  ·exact wpAny_pyIter_striter_ascii stt h
  ·exact wpAny_pyIter_striter_wide stt h
section
variable {X:Cx} {tg:Expr}
end
def zdc (cells:List (Str × Addr)):List (Str × NameKind)->List (Str × Addr)->List (Str × Addr)
 | [],acc=>acc
 | (n,k) :: r,acc=>if k == .free then zdc cells r ((n,(cells.lookup n).getD 0) :: acc) else zdc cells r acc
theorem ze9 {env:Env}:∀ (l:List (Str × NameKind)) (acc:List (Str × Addr)),(∀ y ∈ l,y.2=.free->∃ c,env.cells.lookup y.1=some c) ->
  (forIn (m:=Sem) l acc fun x r=>if (x.2 == NameKind.free)=true then do let a <- cellOf env x.1; pure (ForInStep.yield ((x.1,a) :: r)) else pure (ForInStep.yield r))=pure (zdc env.cells l acc)
 | [],acc,_=>rfl
 | (n,k) :: r,acc,h=>by
  rw [List.forIn_cons]
  have ih:=fun acc'=>ze9 r acc' fun y hy=>h y (yV _ hy)
  by_cases hk:k=.free
  ·subst hk
   obtain ⟨c,hc⟩:=h (n,.free) (yh ..) rfl
   have e:cellOf env n=pure c:=by
    unfold cellOf
    rw [show env.cells.lookup n=some c from hc]
   show ((if ((NameKind.free:NameKind) == NameKind.free)=true then _ else _) >>= _)=_
   rw [yP (by decide),e]
   unfold zdc
   rw [yP (by decide),show env.cells.lookup n=some c from hc]
   exact ih _
  ·have hb:(k == NameKind.free)=false:=by simpa using hk
   show ((if (k == NameKind.free)=true then _ else _) >>= _)=_
   rw [yN (by rw [hb]; decide)]
   unfold zdc
   rw [yN (by rw [hb]; decide)]
   exact ih _
theorem ze8 {scope:Scope} {env:Env} (h:∀ y ∈ scope.names,y.2=.free->∃ c,env.cells.lookup y.1=some c):closureFor scope env=pure (zdc env.cells scope.names []):=by
 unfold closureFor; have e:=ze9 scope.names [] h
 refine Eq.trans ?_ (yc (fun z=>z >>= fun cs=>(pure cs:Sem (List (Str × Addr)))) e)
 rfl
theorem zdE {cells:List (Str × Addr)} {x:Str} {c:Addr}:∀ (l:List (Str × NameKind)) (acc:List (Str × Addr)),(∀ y ∈ l,y.2=.free->∃ c,cells.lookup y.1=some c)->(∀ x c,acc.lookup x=some c->cells.lookup x=some c)->(zdc cells l acc).lookup x=some c->cells.lookup x=some c
 | [],acc,_,ha,h=>ha x c h
 | (n,k) :: r,acc,hl,ha,h=>by
  unfold zdc at h; split at h
  ·rename_i hk
   obtain ⟨c',hc'⟩:=hl (n,k) (yh ..) (by simpa using hk)
   refine zdE r _ (fun y hy=>hl y (yV _ hy)) (fun z d hz=>?_) h
   rw [show cells.lookup n=some c' from hc'] at hz
   rw [yk] at hz
   cases hzn:z == n with
   | true =>
    rw [hzn] at hz
    have e1:z=n:=by simpa using hzn
    rw [e1,show cells.lookup n=some c' from hc']
    simpa using hz
   | false =>
    rw [hzn] at hz; exact ha z d hz
  ·exact zdE r acc (fun y hy=>hl y (yV _ hy)) ha h
theorem zfI {cells:List (Str × Addr)} {x:Str}:∀ (l:List (Str × NameKind)) (acc:List (Str × Addr)),(∃ c,acc.lookup x=some c)->∃ c,(zdc cells l acc).lookup x=some c
 | [],_,h=>h
 | (n,k) :: r,acc,h=>by
  unfold zdc; split
  ·refine zfI r _ ?_
   rw [yk]; split
   ·exact ⟨_,rfl⟩
   ·exact h
  ·exact zfI r acc h
theorem zfH {cells:List (Str × Addr)} {x:Str}:∀ (l:List (Str × NameKind)) (acc:List (Str × Addr)),(x,NameKind.free) ∈ l->∃ c,(zdc cells l acc).lookup x=some c
 | [],_,h=>yL h yU
 | (n,k) :: r,acc,h=>by
  unfold zdc
  rcases yO.mp h with e | e
  ·cases e
   rw [yP (by decide)]
   refine zfI r _ ?_; rw [yk,beq_self_eq_true]; exact ⟨_,rfl⟩
  ·split
   ·exact zfH r _ e
   ·exact zfH r _ e
theorem zdT {x:Str} {k:NameKind}:∀ {l:List (Str × NameKind)},l.lookup x=some k->(x,k) ∈ l
 | [],h=>by simp at h
 | (n,j) :: r,h=>by
  rw [yk] at h
  cases e:x == n with
  | true =>
   rw [e] at h
   have e1:x=n:=by simpa using e
   have e2:j=k:=by simpa using h
   rw [e1,e2]; exact yh ..
  | false =>
   rw [e] at h; exact yV _ (zdT h)
theorem zeY {env:Env} (hk:env.scope.kind=.function) {x:Str} (hx:env.kindOf x=some .cell):∀ {l:List (Str × NameKind)},l.lookup x=some .free ->
  (l.map fun (n,k)=>if (k == NameKind.free && env.scope.kind == .function && env.kindOf n == some .cell) then (n,NameKind.cell) else (n,k)).lookup x=some .cell
 | [],h=>by simp at h
 | (n,k) :: r,h=>by
  rw [yk] at h; rw [yq]
  show List.lookup x ((if (k == NameKind.free && env.scope.kind == .function && env.kindOf n == some .cell)=true then (n,NameKind.cell) else (n,k)) :: _)=_
  cases e:x == n with
  | true =>
   rw [e] at h
   have e1:x=n:=by simpa using e
   have e2:k=.free:=by simpa using h
   subst e1 e2
   have z:((NameKind.free == NameKind.free && env.scope.kind == .function && env.kindOf x == some .cell):Bool)=true:=by rw [hk,hx]; decide
   rw [yP z,yk,beq_self_eq_true]
  | false =>
   rw [e] at h; have ih:=zeY hk hx (l:=r) h
   by_cases z:(k == NameKind.free && env.scope.kind == .function && env.kindOf n == some .cell)=true
   ·rw [yP z,yk,e]
    exact ih
   ·rw [yN z,yk,e]
    exact ih
theorem zeZ {env:Env} {x:Str}:∀ {l:List (Str × NameKind)},(∀ y ∈ l,y.2≠.cell)->((l.map fun (n,k)=>if (k == NameKind.free && env.scope.kind == .function && env.kindOf n == some .cell) then (n,NameKind.cell) else (n,k)).lookup x=some .cell \/
  (l.map fun (n,k)=>if (k == NameKind.free && env.scope.kind == .function && env.kindOf n == some .cell) then (n,NameKind.cell) else (n,k)).lookup x=some .free)->(x,NameKind.free) ∈ l
 | [],_,h=>by simp at h
 | (n,k) :: r,hc,h=>by
  have again:∀ (z:(r.map fun (n,k)=>if (k == NameKind.free && env.scope.kind == .function && env.kindOf n == some .cell) then (n,NameKind.cell) else (n,k)).lookup x=some .cell\/(r.map fun (n,k)=>if (k == NameKind.free && env.scope.kind == .function && env.kindOf n == some .cell) then (n,NameKind.cell) else (n,k)).lookup x=some .free),(x,NameKind.free) ∈ (n,k) :: r :=
   fun z=>yV _ (zeZ (fun y hy=>hc y (yV _ hy)) z)
  rw [yq] at h
  change List.lookup x ((if (k == NameKind.free && env.scope.kind == .function && env.kindOf n == some .cell)=true then (n,NameKind.cell) else (n,k)) :: _)=some NameKind.cell\/List.lookup x ((if (k == NameKind.free && env.scope.kind == .function && env.kindOf n == some .cell)=true then (n,NameKind.cell) else (n,k)) :: _)=some NameKind.free at h
  by_cases z:(k == NameKind.free && env.scope.kind == .function && env.kindOf n == some .cell)=true
  ·have hk:k=.free:=by
    simp only [yd,beq_iff_eq] at z; exact z.1.1
   rw [yP z,yk] at h
   cases e:x == n with
   | true =>
    have e1:x=n:=by simpa using e
    rw [e1,hk]; exact yh ..
   | false =>
    rw [e] at h; exact again h
  ·rw [yN z,yk] at h
   cases e:x == n with
   | true =>
    rw [e] at h
    have e1:x=n:=by simpa using e
    rcases h with h | h
    ·exact yL (by simpa using h) (hc (n,k) (yh ..))
    ·have e2:k=.free:=by simpa using h
     rw [e1,e2]; exact yh ..
   | false =>
    rw [e] at h; exact again h
structure Blk (N N':List Str) (src:List (Option Nat)) (fsc sc:Scope):Prop where
 kind:sc.kind=.function
 cell:∀ y ∈ sc.names,y.2≠.cell
 names:∀ y ∈ sc.names,y.2=.local->sc.names.lookup y.1=some .local
 free:∀ y ∈ sc.names,y.2=.free->fsc.names.lookup y.1=some .cell
 len:src.length=N'.length
 sees:((N'.zip src).all fun y=>match y.2 with | none=>true | some i=>decide (N[i]?=some y.1) && decide (sc.names.lookup y.1=some .free))=true
def zkO (src:List (Option Nat)) (σ:St):St:=src.map fun o=>o.bind fun i=>(σ[i]?).join
abbrev blk (X:Cx) (N':List Str) (sc:Scope) (cl:List (Str × Addr)) (C:Addr) (s:Shared) (H:Hp) (fp:List Addr) (pn:List (Addr × Obj)):Cx :=
 { X with N:=N',s₀:=s,H₀:=H,env:=compEnvC sc cl C X.env,outer:=X.stack,ex:=fp,fn:=fun _=>false,pn:=pn }
theorem zmI {X:Cx} {N N':List Str} {src:List (Option Nat)} {fsc sc:Scope} {pins:List (Addr × Obj)} {σ:St} {H:Hp} {s:Shared} {fp:List Addr} {h':Heap} {tk:Nat} {m:Str->Option Value} (I:Inv X pins σ H s) (B:Blk N N' src fsc sc) (hN:X.N=N) (hs:X.env.scope=fsc)
  (f2:∀ b ∈ fp,zfL X pins H b) (fb:∀ b ∈ fp,b<s.heap.objs.size) (hn:h'.Ns s.heap.objs.size m) (kp:∀ b o,s.heap.get? b=some o->h'.get? b=some o) :
  Inv (blk X N' sc (zdc X.env.cells sc.names []) s.heap.objs.size s H fp (X.pn ++ pins)) [] (zkO src σ) H { s with heap:=h',toks:=tk }:=by
 subst hN hs
 have hfr:∀ y ∈ sc.names,y.2=.free->∃ c,X.env.cells.lookup y.1=some c:=fun y hy e=>I.ok.has y.1 (.inl (B.free y hy e))
 have sub:∀ x c,(zdc X.env.cells sc.names []).lookup x=some c->X.env.cells.lookup x=some c:=fun x c e=>zdE sc.names [] hfr (fun _ _ z=>by simp at z) e
 have has:∀ x,(x,NameKind.free) ∈ sc.names->∃ c,(zdc X.env.cells sc.names []).lookup x=some c:=fun x hx=>zfH sc.names [] hx
 have ok:Cx.Ok (blk X N' sc (zdc X.env.cells sc.names []) s.heap.objs.size s H fp (X.pn ++ pins)):=by
  refine ⟨I.ok.mod,B.kind,I.ok.glob,I.ok.blt,yF _,fun x y c e1 e2=>I.ok.inj x y c (sub x c e1) (sub y c e2),fun x hx=>has x (zeZ B.cell hx),fun x c e=>(nomatch e),I.ok.hd,I.ok.frames,.inl rfl,fun b hb=>⟨yS (fb b hb),fun x c e=>(f2 b hb).2.2.2.2.1 x c (sub x c e)⟩,
   I.bs,yu I.ok.bsz I.sz,fun b o e hb=>?_,fun b hb z=>?_,I.stack,I.stkFree,I.ok.tab.un I.base.tbls⟩
  ·rcases (f2 b hb).2.2.2.1 with z | z
   ·exact I.ok.noex b o e z
   ·exact yL (yT (yJ e) (yu I.ok.bsz z)) (Yg _)
  ·rcases yO.mp (I.stkSub b z) with e | e
   ·exact (f2 b hb).2.1 e
   ·exact (f2 b hb).2.2.1 e
 refine ⟨ok,rfl,I.bare,Un.kept kp,⟨m,hn,fun j x v e1 e2 e3=>?_⟩,fun x c e=>?_,I.hok.fresh (yF _),fun x c e=>I.freeC x c (sub x c e),fun p hp=>?_,I.hok.kept kp,?_⟩
 ·have e2':(src[j]?).map (fun o=>o.bind fun i=>(σ[i]?).join)=some (some v):=by
   have z:=e2; unfold zkO at z; rw [yH] at z; exact z
  cases hj:src[j]? with
  | none=>rw [hj] at e2'; cases e2'
  | some o =>
   rw [hj] at e2'
   cases o with
   | none=>cases e2'
   | some i =>
    have hσ:σ[i]?=some (some v):=by
     have z:(σ[i]?).join=some v:=by simpa using e2'
     cases hz:σ[i]? with
     | none=>rw [hz] at z; cases z
     | some w=>rw [hz] at z; exact yc some z
    have hz:(x,some i) ∈ N'.zip src:=by
     have q:(N'.zip src)[j]?=some (x,some i):=by
      rw [List.getElem?_zip_eq_some]; exact ⟨e1,hj⟩
     exact yW q
    have q:=yp.mp B.sees _ hz; simp only [yd,YA] at q; obtain ⟨q1,q2⟩:=q
    have hkc:X.env.kindOf x=some .cell:=B.free _ (zdT q2) rfl
    obtain ⟨m0,_,hl⟩:=I.loc; obtain ⟨u,ru,lk⟩:=hl i x v q1 hσ (.inr (.inl hkc)); refine ⟨u,ru,.inr ⟨.inl (zeY I.ok.kind hkc q2),?_⟩⟩
    rcases lk with ⟨k,_⟩ | ⟨_,c,e,z⟩
    ·rw [hkc] at k; cases k
    ·obtain ⟨c',hc'⟩:=has x (zdT q2)
     have e':=sub x c' hc'; rw [e] at e'; cases e'; obtain ⟨o,ho,hd⟩:=z; exact ⟨c,hc',o,kp _ _ ho,hd⟩
 ·obtain ⟨v,o,ho,hd⟩:=I.cell x c (sub x c e)
  exact ⟨v,o,kp _ _ ho,hd⟩
 ·rw [yf] at hp
  obtain ⟨e,n,ne,nf,d⟩:=I.pin p hp
  refine ⟨kp _ _ e,n,yS (yJ e),fun z=>?_,d⟩
  rcases yO.mp (I.stkSub p.1 z) with q | q
  ·exact ne q
  ·exact nf q
 ·show (zkO src σ).length=N'.length
  unfold zkO; rw [yD,B.len]
theorem Un.same {fs ex:List Addr} {H H1:Hp} {h h1 h2:Heap} {a:Addr} (u:Un fs ex H H1 h h1) (hs:Heap.SameBut a h1 h2) (ha:h.objs.size<=a):Un fs ex H H1 h h2:=by
 have ne:∀ b o,h.get? b=some o->b≠a:=fun b o e=>yS (yT (yJ e) ha)
 refine ⟨fun b o e n h1 h2=>?_,fun b o e n h1 h2=>?_,u.free,fun b o e h1=>?_,u.tups,u.frzs,u.tbls⟩
 ·exact (hs.2 b (ne b o e)).trans (u.keep b o e n h1 h2)
 ·obtain ⟨sl,q⟩:=u.slot b o e n h1 h2
  exact ⟨sl,(hs.2 b (ne b o e)).trans q⟩
 ·obtain ⟨o',q⟩:=u.there b o e h1
  exact ⟨o',(hs.2 b (ne b o e)).trans q⟩
theorem HOk.same {P:Program} {w:World} {H:Hp} {h h':Heap} {a:Addr} (x:HOk P w H h) (hs:Heap.SameBut a h h') (ha:H a=none):HOk P w H h':=fun b o e=>by
 refine (x b o e).stay (fun c u hc q=>(hs.2 c ?_).trans q) (fun _ q=>q) fun _ _ q=>q
 rintro rfl
 rcases hc with rfl | hc
 ·rw [ha] at e; cases e
 ·rw [ha] at hc; cases hc
def PTs (X:Cx) (ifs:List Expr) (t:TT):Prop :=
 ∀ (pins:List (Addr × Obj)) (s:Shared) (σ:St) (H:Hp) (Q:Bool->Hp->Prop),Inv X pins σ H s->t σ H Q ->
  wpAny (model X.prog X.w) X.A (forIn ifs true fun c r=>if r=true then do let ok <- isTrue c X.env (eval c X.env); pure (ForInStep.yield ok) else pure (ForInStep.yield r)) (TP X pins σ Q) X.xe s
theorem znb {X:Cx}:PTs X [] (fun _ H Q=>Q true H):=fun _ _ _ H _ I h=>yE ⟨H,I,h⟩
theorem zna {X:Cx} {c:Expr} {t:TT} (h:PT X c t):PTs X [c] t:=fun pins s σ H Q I q=>wpAny_tests_one (h pins s σ H Q I q)
theorem zgv {P:Program} {w:World} {A:Around} {R:Result->Shared->Prop} {s:Shared} {elt tg iter:Expr} {ifs:List Expr} {sc:Scope} {pos:Pos} {it acc:Value} {env:Env} (J:Nat->Shared->Prop)
  (turn:∀ k s',J k s'->wpAny (model P w) A (pyNext it) (fun r s1=>match r with
   | none=>R (.ok .next) s1
   | some v=>wpAny (model P w) A (letOwnedTupleGo tg it v) (fun _ s2=>wpAny (model P w) A (assign tg env v) (fun _ s3 =>
     wpAny (model P w) A (forIn ifs true fun c r=>if r=true then do let ok <- isTrue c env (eval c env); pure (ForInStep.yield ok) else pure (ForInStep.yield r)) (fun b s4 =>
      if b=true then wpAny (model P w) A (eval elt env) (fun y s5=>wpAny (model P w) A (call (.builtin "list.append") [acc,y]) (fun _ s6=>∃ m,m<k/\J m s6) (fun _ _=>False) s5) (fun _ _=>False) s4
      else ∃ m,m<k/\J m s4) (fun _ _=>False) s3) (fun _ _=>False) s2) (fun _ _=>False) s1) (fun _ _=>False) s')
  (k:Nat) (h:J k s):codeAny (model P w) A (.compLoop (.ListComp elt [⟨tg,iter,ifs,0⟩] sc pos) 0 it acc env) R s:=by
 have no:∀ {α:Type} {t:Sem α} {Q Q':α->Shared->Prop} {E:Value->Shared->Prop} {z:Shared},wpAny (model P w) A t Q (fun _ _=>False) z->(∀ a z',Q a z'->Q' a z')->wpAny (model P w) A t Q' E z:=fun g1 g2=>YD g1 g2 fun _ _ f=>f.elim
 refine codeAny_loop rfl J (fun k s' hJ=>?_) k h
 show wpAny _ A ((compTurn (.ListComp elt [⟨tg,iter,ifs,0⟩] sc pos) 0 it acc env).onRaise (fun x=>do noteFrame x env; theTreesLotGoes x)) _ _ s'
 refine wpAny_noted ?_; rw [compTurn_list]
 refine yA (wpAny_standAt (yA (no (turn k s' hJ) fun r s1 h1=>?_)))
 cases r with
 | none=>exact yE h1
 | some v =>
  refine yA (no h1 fun _ s2 h2=>yA (no h2 fun _ s3 h3=>yA (no h3 fun b s4 h4=>?_)))
  cases b with
  | false=>exact yE ⟨rfl,h4⟩
  | true=>exact yA (yA (no h4 fun y s5 h5=>yA (no h5 fun _ s6 h6=>yE (yE ⟨rfl,h6⟩))))
def zoB (wi:TI) (src:List (Option Nat)) (g:TG) (tc:TT) (te:TE):TE:=fun σ H Q=>wi σ H fun J H1=>∀ D,H1 D=none->∃ W:Nat->Nat->St->Hp->Prop,(∃ m,W 0 m (zkO src σ) (upd H1 D (.lst [])))/\∀ i m σ2 H2,W i m σ2 H2 ->
 (J.stop i H2/\Q (.ref D) H2)\/(J.go i H2/\∃ M:St->Hp->Prop,(∀ σ' H',M σ' H'->∃ m',m'<m/\W (i+1) m' σ' H')/\∀ x H',J.yld i H2 x H'->g x σ2 H' fun σ3 H3=>tc σ3 H3 fun b H4 =>
  if b=true then te σ3 H4 fun y H5=>∃ ys,H5 D=some (.lst ys)/\ys.length<sizeLine/\M σ3 (upd H5 D (.lst (ys ++ [y]))) else M σ3 H4)
theorem znx {X:Cx} {elt tg iter:Expr} {ifs:List Expr} {sc fsc:Scope} {pos:Pos} {wi:TI} {g:TG} {tc:TT} {te:TE} {N N':List Str} {src:List (Option Nat)} (B:Blk N N' src fsc sc) (hi:PI X tg iter wi)
  (hg:∀ cl C s H fp pn,PG (blk X N' sc cl C s H fp pn) tg g) (ht:∀ cl C s H fp pn,PTs (blk X N' sc cl C s H fp pn) ifs tc) (he:∀ cl C s H fp pn,PE (blk X N' sc cl C s H fp pn) elt te)
  (hx:X.xe=(fun _ _=>False):=by rfl) (hc:X.calm=true:=by rfl) (hN:X.N=N:=by rfl) (hs:X.env.scope=fsc:=by rfl)
  (hf:∀ x,foldedSetIterable iter X.env x=pure x:=by intro _; rfl):PE X (.ListComp elt [⟨tg,iter,ifs,0⟩] sc pos) (zoB wi src g tc te):=by
 intro pins s σ H Q I h; rw [eval_ListComp]
 have hfr:∀ y ∈ sc.names,y.2=.free->∃ c,X.env.cells.lookup y.1=some c:=fun y hy e=>I.ok.has y.1 (.inl (by have:=B.free y hy e; rw [<- hs] at this; exact this))
 refine wpAny_comprehension_free (use:=none) (cl:=zdc X.env.cells sc.names []) rfl hf (ze8 hfr) B.kind B.names ?_
 refine thn (hi pins s σ H _ I h) fun v s1 h1=>thn h1 fun itv s2 h2=>?_
 obtain ⟨it,fp,tn,J,H2,e,I2,T,st2,f2,q⟩:=h2; subst e
 obtain ⟨W,⟨m0,w0⟩,turn⟩:=q s2.heap.objs.size (I2.hok.fresh (yF _))
 refine ya (wpAny_newFunctionEnv B.cell (by intro y hy; simp at hy) (fun h1 hns hsb=>?_) B.kind)
 dsimp only at hns hsb ⊢
 have I3:Inv X pins σ (upd H2 s2.heap.objs.size (.lst [])) { s2 with heap:=s2.heap.push { cls:=.type "list",dict:=none,data:=.seq ([]:List Value).toArray } } :=
  I2.laid (t':=s2.toks) (fun b o e=>yB _ e) (yF _) ⟨yi _,[],0,.nil,yK _ rfl⟩
 have fb:∀ b ∈ fp,b<s2.heap.objs.size:=fun b hb=>by
  obtain ⟨o,e,_⟩:=T.obj 0 _ st2 b hb; exact yJ e
 have f3:∀ b ∈ fp,zfL X pins (upd H2 s2.heap.objs.size (.lst [])) b:=fun b hb=>by
  refine ⟨?_,(f2 b hb).2⟩; rw [zU (yS (fb b hb))]; exact (f2 b hb).1
 generalize hh3:s2.heap.push { cls:=.type "list",dict:=none,data:=.seq ([]:List Value).toArray }=h3 at hns hsb I3 ⊢
 have z3:s2.heap.objs.size<h3.objs.size:=by rw [<- hh3,Heap.size_push]; exact Nat.lt_succ_self _
 have k3:∀ b o,h3.get? b=some o->h1.get? b=some o:=fun b o e=>hsb.extBut b o (yS (yJ e)) (yB _ e)
 have I4:=zmI (tk:=s2.toks+([]:List (Str × Value)).length) I3 B hN hs f3 (fun b hb=>Nat.lt_trans (fb b hb) z3) hns k3
 have st4:tn 0 h1:=T.keep 0 _ _ st2 fun b hb o e=>k3 b o (by rw [<- hh3]; exact yB _ e)
 have fok:∀ {H':Hp},(∀ b ∈ fp,H' b=none)->∀ b ∈ fp,zfL (blk X N' sc (zdc X.env.cells sc.names []) h3.objs.size { s2 with heap:=h3 } (upd H2 s2.heap.objs.size (.lst [])) fp (X.pn ++ pins)) [] H' b:=fun hn b hb=>by
  obtain ⟨_,g1,g2,g3,g4,g5⟩:=f3 b hb
  refine ⟨hn b hb,yS (Nat.lt_trans (fb b hb) z3),fun z=>?_,.inl hb,fun x c e=>g4 x c (zdE sc.names [] hfr (fun _ _ z=>by simp at z) e),fun p hp=>g5 p (by rw [yf] at hp; exact hp)⟩
  rcases yO.mp (I3.stkSub b z) with e | e
  ·exact g1 e
  ·exact g2 e
 have loop:∀ s4:Shared,s4={ s2 with heap:=h1,toks:=s2.toks+([]:List (Str × Value)).length } ->
   codeAny (model X.prog X.w) X.A (.compLoop (.ListComp elt [⟨tg,iter,ifs,0⟩] sc pos) 0 (.ref it) (.ref s2.heap.objs.size) (compEnvC sc (zdc X.env.cells sc.names []) h3.objs.size X.env))
    (compPost (model X.prog X.w) X.A X.xe none (EP X pins σ Q) (.ref s2.heap.objs.size) h3.objs.size) s4:=by
  rintro s4 rfl
  refine zgv (fun k s'=>∃ i σ5 H5,Inv (blk X N' sc (zdc X.env.cells sc.names []) h3.objs.size { s2 with heap:=h3 } (upd H2 s2.heap.objs.size (.lst [])) fp (X.pn ++ pins)) [] σ5 H5 s'/\tn i s'.heap/\(∀ b ∈ fp,H5 b=none)/\W i k σ5 H5) ?_ m0
   ⟨0,_,_,I4,st4,fun b hb=>(f3 b hb).1,w0⟩
  rintro k s5 ⟨i,σ5,H5,I5,st5,fr5,w5⟩
  rcases turn i k σ5 H5 w5 with ⟨stop,qd⟩ | ⟨go,M,hM,step⟩
  ·refine thn (T.done (blk X N' sc (zdc X.env.cells sc.names []) h3.objs.size { s2 with heap:=h3 } (upd H2 s2.heap.objs.size (.lst [])) fp (X.pn ++ pins)) rfl rfl rfl hc i [] s5 σ5 H5 _ I5 (fok fr5) st5 stop) fun r s6 ⟨hr,I6⟩=>?_
   subst hr; obtain ⟨m6,hn6,_⟩:=id I6.loc
   refine ⟨m6,hn6,fun h' hsb'=>⟨.ref s2.heap.objs.size,H5,?_,rfl,qd⟩⟩
   exact I3.call' (s':={ s6 with heap:=h' }) (ch:=fp) I6.os (Un.same I6.base hsb' (yF _)) (HOk.same I6.hok hsb' I6.free) I6.bare fun b hb=>⟨(f3 b hb).2.2.2.1,(f3 b hb).2.1,(f3 b hb).2.2.2.2.1,(f3 b hb).2.2.2.2.2⟩
  ·refine thn (T.item (blk X N' sc (zdc X.env.cells sc.names []) h3.objs.size { s2 with heap:=h3 } (upd H2 s2.heap.objs.size (.lst [])) fp (X.pn ++ pins)) rfl rfl rfl hc i [] s5 σ5 H5 _ I5 (fok fr5) st5 go) fun r s6 ⟨u,hr,h6⟩=>?_
   subst hr
   refine thn h6 fun _ s7 ⟨x,H7,I7,r7,y7,st7,fr7⟩=>?_
   have I7':=I7.pinned (fok fr7) (T.obj _ _ st7)
   have back:∀ {σ8:St} {H8:Hp} {s8:Shared},Inv (blk X N' sc (zdc X.env.cells sc.names []) h3.objs.size { s2 with heap:=h3 } (upd H2 s2.heap.objs.size (.lst [])) fp (X.pn ++ pins)) ([] ++ ze2 fp s7.heap) σ8 H8 s8->tn (i+1) s8.heap/\∀ b ∈ fp,H8 b=none:=fun {σ8 H8 s8} I8=>by
    have pn8:∀ b ∈ fp,∀ o,s7.heap.get? b=some o->s8.heap.get? b=some o/\H8 b=none:=fun b hb o e=>by
     have q:=I8.pin (b,o) (yY _ (yY _ (zc3 hb e))); exact ⟨q.1,q.2.1⟩
    refine ⟨T.keep _ _ _ st7 fun b hb o e=>(pn8 b hb o e).1,fun b hb=>?_⟩
    obtain ⟨o,e,_⟩:=T.obj _ _ st7 b hb; exact (pn8 b hb o e).2
   have xf:∀ {α:Type} {t:Sem α} {Q1 Q2:α->Shared->Prop} {z:Shared},wpAny (model X.prog X.w) X.A t Q1 X.xe z->(∀ a z',Q1 a z'->Q2 a z')->wpAny (model X.prog X.w) X.A t Q2 (fun _ _=>False) z:=fun g1 g2=>by
    rw [hx] at g1; exact thn g1 g2
   refine xf (hg _ _ _ _ _ _ _ s7 σ5 H7 x u _ I7' r7 (step x H7 y7)) fun _ s8 ⟨σ8,H8,I8,q8⟩=>?_
   refine xf (ht _ _ _ _ _ _ _ s8 σ8 H8 _ I8 q8) fun b s9 ⟨H9,I9,q9⟩=>?_
   cases b with
   | false =>
    obtain ⟨m',hm,w'⟩:=hM σ8 H9 (by simpa using q9)
    obtain ⟨g1,g2⟩:=back I9; exact ⟨m',hm,i+1,σ8,H9,I9.unpinned,g1,g2,w'⟩
   | true =>
    rw [yP rfl] at q9 ⊢
    refine xf (he _ _ _ _ _ _ _ s9 σ8 H9 _ I9 q9) fun y s10 ⟨yv,H10,I10,r10,ys,hy,hz,w⟩=>?_
    obtain ⟨m',hm,w'⟩:=hM _ _ w
    refine xf (zev (X:=(blk X N' sc (zdc X.env.cells sc.names []) h3.objs.size { s2 with heap:=h3 } (upd H2 s2.heap.objs.size (.lst [])) fp (X.pn ++ pins))) _ s10 σ8 H10 (.ref s2.heap.objs.size) [yv] _ [y] (fun _ H11=>H11=upd H10 s2.heap.objs.size (.lst (ys ++ [yv]))) I10 rfl (.cons r10 .nil) ⟨_,ys,yv,rfl,rfl,hy,hz,rfl⟩) fun _ s11 ⟨_,H11,I11,_,e11⟩=>?_
    subst e11; obtain ⟨g1,g2⟩:=back I11; exact ⟨m',hm,i+1,σ8,_,I11.unpinned,g1,g2,w'⟩
 exact codeAny_compStart_list (loop _ rfl) (T.self _ 0 _ _ _ st4 (loop _ rfl))
theorem zgt {J:It} {n:Nat} {g:TG} {tc:TT} {te:TE} {Q:VK} {D:Addr} {σ0:St} {H0:Hp} (Pv:Nat->St->Hp->Prop) (h0:Pv 0 σ0 H0)
  (hs:∀ i σ H,i<n->Pv i σ H->J.go i H/\∀ x H',J.yld i H x H'->g x σ H' fun σ3 H3=>tc σ3 H3 fun b H4=>if b=true then te σ3 H4 fun y H5=>∃ ys,H5 D=some (.lst ys)/\ys.length<sizeLine/\Pv (i+1) σ3 (upd H5 D (.lst (ys ++ [y]))) else Pv (i+1) σ3 H4)
  (hd:∀ σ H,Pv n σ H->J.stop n H/\Q (.ref D) H) :
  ∃ W:Nat->Nat->St->Hp->Prop,(∃ m,W 0 m σ0 H0)/\∀ i m σ2 H2,W i m σ2 H2 ->
   (J.stop i H2/\Q (.ref D) H2)\/(J.go i H2/\∃ M:St->Hp->Prop,(∀ σ' H',M σ' H'->∃ m',m'<m/\W (i+1) m' σ' H')/\∀ x H',J.yld i H2 x H'->g x σ2 H' fun σ3 H3=>tc σ3 H3 fun b H4 =>
    if b=true then te σ3 H4 fun y H5=>∃ ys,H5 D=some (.lst ys)/\ys.length<sizeLine/\M σ3 (upd H5 D (.lst (ys ++ [y]))) else M σ3 H4):=by
 refine ⟨fun i m σ H=>m=n-i/\i<=n/\Pv i σ H,⟨n,by simp,yi _,h0⟩,?_⟩
 rintro i m σ2 H2 ⟨rfl,hi,p⟩
 by_cases hlt:i<n
 ·obtain ⟨go,stp⟩:=hs i σ2 H2 hlt p
  exact .inr ⟨go,Pv (i+1),fun σ' H' p'=>⟨n-(i+1),by omega,rfl,hlt,p'⟩,stp⟩
 ·have e:i=n:=by omega
  subst e; exact .inl (hd σ2 H2 p)
end L2
namespace L2
open PySem
def XAt (a C:Addr) (dd:Option Addr):Heap->Prop:=fun h=>∃ vs sl,h.get? a=some ⟨.ref C,dd,.fields vs,sl⟩
end L2
namespace PL
open PySem L2
inductive D where
 | non | bl (b:Bool) | int (i:Int) | str (l:List Nat) | ty (n:String) | rng (lo hi:Int) | cls (C:Addr) | adr (b:Addr)
 | tup (l:List D) | lst (l:List D) | dic (l:List (D × D)) | dit (l:List (D × D)) | obj (C:Addr) (fs:List (Str × D)) | exc (C:Addr) (fs:List (Str × D))
inductive OD where
 | lst (l:List D) | dic (l:List (D × D)) | dit (l:List (D × D)) | obj (C:Addr) (fs:List (Str × D))
def OD.toD:OD->D
 | .lst l=>.lst l
 | .dic l=>.dic l
 | .dit l=>.dit l
 | .obj C fs=>.obj C fs
theorem paired_of {α β:Type} {R:α->β->Prop}:∀ {l:List α} {m:List β},l.length=m.length->(∀ (i:Nat) a b,l[i]?=some a->m[i]?=some b->R a b)->Paired R l m
 | [],[],_,_=>.nil
 | a :: l,b :: m,h,r=>.cons (r 0 a b rfl rfl) (paired_of (by simpa using h) fun i x y hx hy=>r (i+1) x y (by simpa using hx) (by simpa using hy))
 | [],_ :: _,h,_=>by simp at h
 | _ :: _,[],h,_=>by simp at h
theorem paired_get {α β:Type} {R:α->β->Prop}:∀ {l:List α} {m:List β} (i:Nat) {a:α} {b:β},Paired R l m->l[i]?=some a->m[i]?=some b->R a b
 | _,_,_,_,_,.nil,h,_=>by simp at h
 | _,_,0,_,_,.cons r _,h1,h2=>by simp at h1 h2; subst h1; subst h2; exact r
 | _,_,i+1,_,_,.cons _ t,h1,h2=>paired_get i t (by simpa using h1) (by simpa using h2)
theorem zl {α β:Type} {R:α->β->Prop} {l:List α} {m:List β} (h:Paired R l m):l.length=m.length:=Paired.length h
theorem zaS {α β:Type} {R:α->β->Prop} {l:List α} {m:List β} (h:Paired R l m) {i:Nat} {b:β} (e:m[i]?=some b):∃ a,l[i]?=some a/\R a b:=by
 have hl:=zl h
 have hi:i<l.length:=by rw [hl]; exact (yG.mp e).1
 exact ⟨l[i],yC hi,paired_get i h (yC hi) e⟩
theorem zcw {α β:Type} {R:α->β->Prop} {l:List α} {m:List β} (h:Paired R l m) {i:Nat} {a:α} (e:l[i]?=some a):∃ b,m[i]?=some b/\R a b:=by
 have hl:=zl h
 have hi:i<m.length:=by rw [<- hl]; exact (yG.mp e).1
 exact ⟨m[i],yC hi,paired_get i h e (yC hi)⟩
theorem zbg {α β:Type} {R:α->β->Prop}:∀ {l l':List α} {m m':List β},Paired R l m->Paired R l' m'->Paired R (l ++ l') (m ++ m')
 | _,_,_,_,.nil,h=>h
 | _,_,_,_,.cons r t,h=>.cons r (zbg t h)
theorem zer {α β:Type} {R:α->β->Prop}:∀ {l:List α} {m:List β} (n:Nat),Paired R l m->Paired R (l.take n) (m.take n)
 | _,_,0,_=>.nil
 | _,_,_+1,.nil=>.nil
 | _,_,n+1,.cons r t=>.cons r (zer n t)
theorem zes {α β:Type} {R:α->β->Prop}:∀ {l:List α} {m:List β} (n:Nat),Paired R l m->Paired R (l.drop n) (m.drop n)
 | _,_,0,h=>h
 | _,_,_+1,.nil=>.nil
 | _,_,n+1,.cons _ t=>zes n t
def keyD:Key->D
 | .inl i=>.int i
 | .inr x=>.str x.cps.toList
inductive Den (K:W.Frag) (H:Hp):V->D->Prop where
 | non:Den K H .non .non
 | bl (b:Bool):Den K H (.bl b) (.bl b)
 | int (i:Int):Den K H (.int i) (.int i)
 | str (l:List Nat):Den K H (.str (st l)) (.str l)
 | ty (n:String):Den K H (.ty n) (.ty n)
 | rng {a:Addr} {lo hi:Int} (h:Rd H a (.rng lo hi)):Den K H (.ref a) (.rng lo hi)
 | cls (C:Addr):Den K H (.ref C) (.cls C)
 | adr (b:Addr):Den K H (.ref b) (.adr b)
 | tup {a:Addr} {vs:List V} {ds:List D} (h:H a=some (.tup vs)) (l:vs.length=ds.length) (r:∀ (i:Nat) v d,vs[i]?=some v->ds[i]?=some d->Den K H v d):Den K H (.ref a) (.tup ds)
 | lst {a:Addr} {vs:List V} {ds:List D} (h:SqL K H a vs) (l:vs.length=ds.length) (r:∀ (i:Nat) v d,vs[i]?=some v->ds[i]?=some d->Den K H v d):Den K H (.ref a) (.lst ds)
 | dicK {a:Addr} {kvs:List (Key × V)} {ds:List (D × D)} (h:Rd H a (.dK kvs)) (l:kvs.length=ds.length) (r:∀ (i:Nat) p q,kvs[i]?=some p->ds[i]?=some q->q.1=keyD p.1) (r2:∀ (i:Nat) p q,kvs[i]?=some p->ds[i]?=some q->Den K H p.2 q.2):Den K H (.ref a) (.dic ds)
 | dicT {a:Addr} {kvs:List (List Key × V)} {ep:Nat} {ds:List (D × D)} (h:H a=some (.dE kvs ep)) (l:kvs.length=ds.length) (r:∀ (i:Nat) p q,kvs[i]?=some p->ds[i]?=some q->q.1=.tup (p.1.map keyD)) (r2:∀ (i:Nat) p q,kvs[i]?=some p->ds[i]?=some q->Den K H p.2 q.2):Den K H (.ref a) (.dit ds)
 | obj {a C dx:Addr} {fs:List (Str × V)} {ds:List (Str × D)} (h:H a=some (.ins C dx fs)) (l:fs.length=ds.length) (r:∀ (i:Nat) p q,fs[i]?=some p->ds[i]?=some q->q.1=p.1) (r2:∀ (i:Nat) p q,fs[i]?=some p->ds[i]?=some q->Den K H p.2 q.2):Den K H (.ref a) (.obj C ds)
 | excN {a C:Addr} (h:H a=some (.ext (XAt a C none))):Den K H (.ref a) (.exc C [])
 | exc {a C dx:Addr} {fs:List (Str × V)} {ds:List (Str × D)} (h:H a=some (.ext (XAt a C (some dx)))) (h2:H dx=some (.xd fs)) (l:fs.length=ds.length) (r:∀ (i:Nat) p q,fs[i]?=some p->ds[i]?=some q->q.1=p.1) (r2:∀ (i:Nat) p q,fs[i]?=some p->ds[i]?=some q->Den K H p.2 q.2):Den K H (.ref a) (.exc C ds)
abbrev zqa (K:W.Frag) (H:Hp):List (Key × V)->List (D × D)->Prop:=Paired fun p q=>q.1=keyD p.1/\Den K H p.2 q.2
abbrev ziK (K:W.Frag) (H:Hp):List (List Key × V)->List (D × D)->Prop:=Paired fun p q=>q.1=.tup (p.1.map keyD)/\Den K H p.2 q.2
abbrev zoj (K:W.Frag) (H:Hp):List (Str × V)->List (Str × D)->Prop:=Paired fun p q=>q.1=p.1/\Den K H p.2 q.2
abbrev zbI (K:W.Frag) (H:Hp):List V->List D->Prop:=Paired (Den K H)
section
variable {K:W.Frag} {H H':Hp} {v:V} {a:Addr} {vs:List V} {ds:List D}
theorem zdM {u:HO} (e:zaM H H') (h:Rd H a u):Rd H' a u:=by
 rcases h with h | ⟨o,h⟩
 ·exact .inl (e _ _ h)
 ·exact .inr ⟨o,e _ _ h⟩
theorem zaE (e:zaM H H') (h:SqT K H a vs):SqT K H' a vs:=by
 rcases h with h | h
 ·exact .inl (zdM e h)
 ·exact .inr h
theorem zaF (e:zaM H H') (h:SqL K H a vs):SqL K H' a vs:=by
 rcases h with h | h
 ·exact .inl (zdM e h)
 ·exact .inr h
theorem Den.mono {d:D} (h:Den K H v d) (e:zaM H H'):Den K H' v d:=by
 induction h with
 | non=>exact .non
 | bl b=>exact .bl b
 | int i=>exact .int i
 | str l=>exact .str l
 | ty n=>exact .ty n
 | rng h=>exact .rng (zdM e h)
 | cls C=>exact .cls C
 | adr C=>exact .adr C
 | tup h l r ih=>exact .tup (e _ _ h) l ih
 | lst h l r ih=>exact .lst (zaF e h) l ih
 | dicK h l r r2 ih=>exact .dicK (zdM e h) l r ih
 | dicT h l r r2 ih=>exact .dicT (e _ _ h) l r ih
 | obj h l r r2 ih=>exact .obj (e _ _ h) l r ih
 | excN h=>exact .excN (e _ _ h)
 | exc h h2 l r r2 ih=>exact .exc (e _ _ h) (e _ _ h2) l r ih
theorem zbI.mono (h:zbI K H vs ds) (e:zaM H H'):zbI K H' vs ds:=Paired.mapP h fun _ _ q=>q.mono e
theorem zqa.mono {kvs:List (Key × V)} {es:List (D × D)} (h:zqa K H kvs es) (e:zaM H H'):zqa K H' kvs es:=Paired.mapP h fun _ _ q=>⟨q.1,q.2.mono e⟩
theorem ziK.mono {kvs:List (List Key × V)} {es:List (D × D)} (h:ziK K H kvs es) (e:zaM H H'):ziK K H' kvs es:=Paired.mapP h fun _ _ q=>⟨q.1,q.2.mono e⟩
theorem zoj.mono {fs:List (Str × V)} {es:List (Str × D)} (h:zoj K H fs es) (e:zaM H H'):zoj K H' fs es:=Paired.mapP h fun _ _ q=>⟨q.1,q.2.mono e⟩
theorem Den.mkO {C dx:Addr} {fs:List (Str × V)} {es:List (Str × D)} (h:H a=some (.ins C dx fs)) (r:zoj K H fs es):Den K H (.ref a) (.obj C es):=.obj h (zl r) (fun i _ _ h1 h2=>(paired_get i r h1 h2).1) fun i _ _ h1 h2=>(paired_get i r h1 h2).2
theorem Den.objI {C:Addr} {es:List (Str × D)} (h:Den K H v (.obj C es)):∃ a dx fs,v=.ref a/\H a=some (.ins C dx fs)/\zoj K H fs es:=by
 cases h with
 | obj h l r r2=>exact ⟨_,_,_,rfl,h,paired_of l fun i p q h1 h2=>⟨r i p q h1 h2,r2 i p q h1 h2⟩⟩
def zsY (K:W.Frag) (H:Hp) (dd:Option Addr) (es:List (Str × D)):Prop:=(dd=none/\es=[])\/∃ dx fs,dd=some dx/\H dx=some (.xd fs)/\zoj K H fs es
theorem Den.excI {C:Addr} {es:List (Str × D)} (h:Den K H v (.exc C es)):∃ a dd,v=.ref a/\H a=some (.ext (XAt a C dd))/\zsY K H dd es:=by
 cases h with
 | excN h=>exact ⟨_,_,rfl,h,.inl ⟨rfl,rfl⟩⟩
 | exc h h2 l r r2=>exact ⟨_,_,rfl,h,.inr ⟨_,_,rfl,h2,paired_of l fun i p q h1 h2=>⟨r i p q h1 h2,r2 i p q h1 h2⟩⟩⟩
theorem Den.adrI {b:Addr} (h:Den K H v (.adr b)):v=.ref b:=by cases h; rfl
theorem Den.mkDK {kvs:List (Key × V)} {es:List (D × D)} (h:Rd H a (.dK kvs)) (r:zqa K H kvs es):Den K H (.ref a) (.dic es):=.dicK h (zl r) (fun i _ _ h1 h2=>(paired_get i r h1 h2).1) fun i _ _ h1 h2=>(paired_get i r h1 h2).2
theorem Den.mkDT {kvs:List (List Key × V)} {ep:Nat} {es:List (D × D)} (h:H a=some (.dE kvs ep)) (r:ziK K H kvs es):Den K H (.ref a) (.dit es):=.dicT h (zl r) (fun i _ _ h1 h2=>(paired_get i r h1 h2).1) fun i _ _ h1 h2=>(paired_get i r h1 h2).2
theorem Den.ditI {es:List (D × D)} (h:Den K H v (.dit es)):∃ a kvs ep,v=.ref a/\H a=some (.dE kvs ep)/\ziK K H kvs es:=by
 cases h with
 | dicT h l r r2=>exact ⟨_,_,_,rfl,h,paired_of l fun i p q h1 h2=>⟨r i p q h1 h2,r2 i p q h1 h2⟩⟩
theorem Den.mkT (h:H a=some (.tup vs)) (r:zbI K H vs ds):Den K H (.ref a) (.tup ds):=.tup h (zl r) fun i _ _ h1 h2=>paired_get i r h1 h2
theorem Den.mkL (h:SqL K H a vs) (r:zbI K H vs ds):Den K H (.ref a) (.lst ds):=.lst h (zl r) fun i _ _ h1 h2=>paired_get i r h1 h2
theorem Den.tupJ (h:Den K H v (.tup ds)):∃ a vs,v=.ref a/\H a=some (.tup vs)/\zbI K H vs ds:=by
 cases h with
 | tup h l r=>exact ⟨_,_,rfl,h,paired_of l r⟩
theorem Den.tupI (h:Den K H v (.tup ds)):∃ a vs,v=.ref a/\SqT K H a vs/\zbI K H vs ds:=by
 cases h with
 | tup h l r=>exact ⟨_,_,rfl,SqT.of h,paired_of l r⟩
theorem Den.lstI (h:Den K H v (.lst ds)):∃ a vs,v=.ref a/\SqL K H a vs/\zbI K H vs ds:=by
 cases h with
 | lst h l r=>exact ⟨_,_,rfl,h,paired_of l r⟩
theorem Den.intI {i:Int} (h:Den K H v (.int i)):v=.int i:=by cases h; rfl
theorem Den.blI {b:Bool} (h:Den K H v (.bl b)):v=.bl b:=by cases h; rfl
theorem Den.strI {l:List Nat} (h:Den K H v (.str l)):v=.str (st l):=by cases h; rfl
theorem Den.nonI (h:Den K H v .non):v=.non:=by cases h; rfl
end
inductive Slot where
 | emp | val (d:D) | own (o:OD)
 | bk (d:D->D) (b:Addr) (xs:OD)
abbrev Sts:=List Slot
structure Wd where
 H₀:Hp
 Hi₀:Hp
 F:List Addr
def zco (K:W.Frag) (Hi H:Hp) (a:Addr):OD->Prop
 | .lst ds=>∃ vs,H a=some (.lst vs)/\zbI K Hi vs ds
 | .dic ds=>∃ kvs,H a=some (.dK kvs)/\zqa K Hi kvs ds
 | .dit ds=>∃ kvs ep,H a=some (.dE kvs ep)/\ziK K Hi kvs ds
 | .obj C ds=>∃ dx fs,H a=some (.ins C dx fs)/\zoj K Hi fs ds
def zm3:Option (Option V)->Option Addr
 | some (some (.ref a))=>some a
 | _=>none
def adr (n:Nat) (W:Wd) (σ:St) (i:Nat):Option Addr:=if i<n then zm3 σ[i]? else W.F[i-n]?
structure Free (n:Nat) (W:Wd) (Γ:Sts) (σ:St) (a:Addr):Prop where
 own:∀ (j:Nat) o',Γ[j]?=some (.own o')->adr n W σ j≠some a
 bk:∀ (j:Nat) d xs,Γ[j]?≠some (.bk d a xs)
def Hol (K:W.Frag) (d:D->D):Prop:=∀ (b:Addr) (Hi:Hp) (v:V) (o:OD),Den K Hi (.ref b) o.toD->Den K Hi v (d (.adr b))->Den K Hi v (d o.toD)
structure BkAt (K:W.Frag) (n:Nat) (W:Wd) (Hi:Hp) (Γ:Sts) (σ:St) (H:Hp) (i:Nat) (d:D->D) (b:Addr) (xs:OD):Prop where
 val:∃ v,σ[i]?=some (some v)/\Den K Hi v (d (.adr b))
 hol:Hol K d
 hi:Hi b=none
 h0:b ∉ W.F->W.H₀ b=none
 at_:zco K Hi H b xs
 one:∀ (j:Nat) d' xs',Γ[j]?=some (.bk d' b xs')->j=i
 ne:∀ (j:Nat) o',Γ[j]?=some (.own o')->adr n W σ j≠some b
structure Fz (Hi H:Hp):Prop where
 sub:zaM Hi H
 tups:∀ a xs,H a=some (.tup xs)->Hi a=some (.tup xs)
structure Good (K:W.Frag) (n:Nat) (W:Wd) (Hi:Hp) (Γ:Sts) (σ:St) (H:Hp):Prop where
 len:σ.length=n
 fz:Fz Hi H
 keep:∀ a o,W.H₀ a=some o->a ∉ W.F->H a=some o
 there:∀ a o,W.H₀ a=some o->∃ o',H a=some o'
 fro:∀ a o,W.H₀ a=some o->Hi a=W.Hi₀ a
 val:∀ (i:Nat) d,Γ[i]?=some (.val d)->∃ v,σ[i]?=some (some v)/\Den K Hi v d
 own:∀ (i:Nat) o,Γ[i]?=some (.own o)->∃ a,adr n W σ i=some a/\Hi a=none/\(i<n->W.H₀ a=none)/\zco K Hi H a o
 apart:∀ (i j:Nat) o o' a,Γ[i]?=some (.own o)->Γ[j]?=some (.own o')->adr n W σ i=some a->adr n W σ j=some a->i=j
 bk:∀ (i:Nat) d b xs,Γ[i]?=some (.bk d b xs)->BkAt K n W Hi Γ σ H i d b xs
theorem Good.sub {K:W.Frag} {n:Nat} {W:Wd} {Hi:Hp} {Γ:Sts} {σ:St} {H:Hp} (g:Good K n W Hi Γ σ H):zaM Hi H:=g.fz.sub
structure Ext (Hi H Hi' H':Hp):Prop where
 hi:zaM Hi Hi'
 h:zaM H H'
 fz:Fz Hi' H'
 fro:∀ a o,H a=some o->Hi' a=Hi a
theorem Ext.refl {Hi H:Hp} (s:Fz Hi H):Ext Hi H Hi H:=⟨zaM.refl _,zaM.refl _,s,fun _ _ _=>rfl⟩
theorem Ext.trans {A B A1 B1 A2 B2:Hp} (x:Ext A B A1 B1) (y:Ext A1 B1 A2 B2):Ext A B A2 B2 :=
 ⟨x.hi.trans y.hi,x.h.trans y.h,y.fz,fun a o e=>(y.fro a o (x.h a o e)).trans (x.fro a o e)⟩
theorem zaB {H:Hp} {p:Addr} (h:H p=none) (o:HO):zaM H (upd H p o):=fun b u q=>by rw [zU (zaH q h)]; exact q
theorem Ext.new {Hi H:Hp} {p:Addr} (s:Fz Hi H) (h:H p=none) (o:HO):Ext Hi H (upd Hi p o) (upd H p o):=by
 have hi:Hi p=none:=s.sub.free h
 refine ⟨zaB hi o,zaB h o,⟨fun b u q=>?_,fun b xs q=>?_⟩,fun b u q=>?_⟩
 ·by_cases e:b=p
  ·subst e; rw [zw] at q ⊢; exact q
  ·rw [zU e] at q ⊢; exact s.sub b u q
 ·by_cases e:b=p
  ·subst e; rw [zw] at q ⊢; exact q
  ·rw [zU e] at q ⊢; exact s.tups b xs q
 ·exact zU (zaH q h)
theorem Ext.newO {Hi H:Hp} {p:Addr} (s:Fz Hi H) (h:H p=none) (o:HO) (ho:∀ xs,o≠.tup xs):Ext Hi H Hi (upd H p o) :=
 ⟨zaM.refl _,zaB h o,⟨s.sub.trans (zaB h o),fun b xs q=>by
  by_cases e:b=p
  ·subst e; rw [zw] at q; exact yL (Option.some.inj q) (ho xs)
  ·rw [zU e] at q; exact s.tups b xs q⟩,fun _ _ _=>rfl⟩
section
variable {K:W.Frag} {n:Nat} {W:Wd} {Hi Hi' H H':Hp} {Γ:Sts} {σ:St} {a:Addr} {o:OD}
theorem zco.there (h:zco K Hi H a o):∃ u,H a=some u:=by
 cases o with
 | lst ds=>obtain ⟨vs,e,_⟩:=h; exact ⟨_,e⟩
 | dic ds=>obtain ⟨kvs,e,_⟩:=h; exact ⟨_,e⟩
 | dit ds=>obtain ⟨kvs,ep,e,_⟩:=h; exact ⟨_,e⟩
 | obj C ds=>obtain ⟨dx,fs,e,_⟩:=h; exact ⟨_,e⟩
theorem zco.mono (h:zco K Hi H a o) (hi:zaM Hi Hi') (e:∀ u,H a=some u->H' a=some u):zco K Hi' H' a o:=by
 cases o with
 | lst ds=>obtain ⟨vs,q,r⟩:=h; exact ⟨vs,e _ q,r.mono hi⟩
 | dic ds=>obtain ⟨kvs,q,r⟩:=h; exact ⟨kvs,e _ q,r.mono hi⟩
 | dit ds=>obtain ⟨kvs,ep,q,r⟩:=h; exact ⟨kvs,ep,e _ q,r.mono hi⟩
 | obj C ds=>obtain ⟨dx,fs,q,r⟩:=h; exact ⟨dx,fs,e _ q,r.mono hi⟩
theorem zco.notTup (h:zco K Hi H a o):∀ xs,H a≠some (.tup xs):=fun xs z=>by
 cases o with
 | lst ds=>obtain ⟨vs,e,_⟩:=h; rw [e] at z; cases z
 | dic ds=>obtain ⟨kvs,e,_⟩:=h; rw [e] at z; cases z
 | dit ds=>obtain ⟨kvs,ep,e,_⟩:=h; rw [e] at z; cases z
 | obj C ds=>obtain ⟨dx,fs,e,_⟩:=h; rw [e] at z; cases z
theorem Good.ext (g:Good K n W Hi Γ σ H) (e:Ext Hi H Hi' H'):Good K n W Hi' Γ σ H' where
 len:=g.len
 fz:=e.fz
 keep:=fun a o h n=>e.h a o (g.keep a o h n)
 there:=fun a o h=>by
  obtain ⟨o',q⟩:=g.there a o h; exact ⟨o',e.h a o' q⟩
 fro:=fun a o h=>by
  obtain ⟨o',q⟩:=g.there a o h; exact (e.fro a o' q).trans (g.fro a o h)
 val:=fun i d h=>by
  obtain ⟨v,h1,h2⟩:=g.val i d h; exact ⟨v,h1,h2.mono e.hi⟩
 own:=fun i o h=>by
  obtain ⟨a,h1,h2,h3,h4⟩:=g.own i o h; obtain ⟨u,hu⟩:=h4.there
  exact ⟨a,h1,(e.fro a u hu).trans h2,h3,h4.mono e.hi fun u q=>e.h a u q⟩
 apart:=g.apart
 bk:=fun i d b xs h=>by
  obtain ⟨⟨v,h0,h1⟩,h2,h3,h4,h5,h6,h7⟩:=g.bk i d b xs h
  obtain ⟨u,hu⟩:=h5.there
  exact ⟨⟨v,h0,h1.mono e.hi⟩,h2,(e.fro b u hu).trans h3,h4,h5.mono e.hi fun u q=>e.h b u q,h6,h7⟩
theorem Good.weak (g:Good K n W Hi Γ σ H) {Γ':Sts} (h:∀ (i:Nat) s,Γ'[i]?=some s->s=.emp\/Γ[i]?=some s):Good K n W Hi Γ' σ H where
 len:=g.len
 fz:=g.fz
 keep:=g.keep
 there:=g.there
 fro:=g.fro
 val:=fun i d e=>by
  rcases h i _ e with z | z
  ·cases z
  ·exact g.val i d z
 own:=fun i d e=>by
  rcases h i _ e with z | z
  ·cases z
  ·exact g.own i d z
 apart:=fun i j o o' a e1 e2=>by
  rcases h i _ e1 with z | z
  ·cases z
  ·rcases h j _ e2 with y | y
   ·cases y
   ·exact g.apart i j o o' a z y
 bk:=fun i d b xs e=>by
  rcases h i _ e with z | z
  ·cases z
  ·obtain ⟨h0,h1,h2,h3,h4,h5,h6⟩:=g.bk i d b xs z
   refine ⟨h0,h1,h2,h3,h4,fun j d' xs' q=>?_,fun j o' q=>?_⟩
   ·rcases h j _ q with y | y
    ·cases y
    ·exact h5 j _ _ y
   ·rcases h j _ q with y | y
    ·cases y
    ·exact h6 j o' y
theorem ze0 {o:Option (Option V)} (h:zm3 o=some a):o=some (some (.ref a)):=by
 unfold zm3 at h; split at h
 ·cases h; rfl
 ·cases h
theorem Good.set (g:Good K n W Hi Γ σ H) {i:Nat} {v:V} {d:D} (hi:i<n) (r:Den K Hi v d):Good K n W Hi (Γ.set i (.val d)) (σ.set i (some v)) H:=by
 have ad:∀ j,j≠i->adr n W (σ.set i (some v)) j=adr n W σ j:=fun j hj=>by
  unfold adr
  rw [yX (fun z=>hj z.symm)]
 have inv:∀ (j:Nat) (s:Slot),(Γ.set i (.val d))[j]?=some s->(j=i/\s=.val d)\/(j≠i/\Γ[j]?=some s):=fun j s e=>by
  by_cases hj:j=i
  ·subst hj
   refine .inl ⟨rfl,?_⟩; rw [List.getElem?_set] at e; simp only [if_true] at e; split at e
   ·exact (Option.some.inj e).symm
   ·cases e
  ·rw [yX (fun z=>hj z.symm)] at e
   exact .inr ⟨hj,e⟩
 refine ⟨by rw [List.length_set]; exact g.len,g.fz,g.keep,g.there,g.fro,fun j d' e=>?_,fun j o e=>?_,fun j k o o' a e1 e2 h1 h2=>?_,fun j d' b xs e=>?_⟩
 ·rcases inv j _ e with ⟨rfl,z⟩ | ⟨hj,z⟩
  ·cases z
   exact ⟨v,by rw [yz (by rw [g.len]; exact hi)],r⟩
  ·obtain ⟨w,h1,h2⟩:=g.val j d' z
   exact ⟨w,by rw [yX (fun z=>hj z.symm)]; exact h1,h2⟩
 ·rcases inv j _ e with ⟨rfl,z⟩ | ⟨hj,z⟩
  ·cases z
  ·obtain ⟨a,h1,h2⟩:=g.own j o z
   exact ⟨a,by rw [ad j hj]; exact h1,h2⟩
 ·rcases inv j _ e1 with ⟨rfl,z⟩ | ⟨hj,z⟩
  ·cases z
  ·rcases inv k _ e2 with ⟨rfl,y⟩ | ⟨hk,y⟩
   ·cases y
   ·exact g.apart j k o o' a z y (by rw [<- ad j hj]; exact h1) (by rw [<- ad k hk]; exact h2)
 ·rcases inv j _ e with ⟨rfl,z⟩ | ⟨hj,z⟩
  ·cases z
  ·obtain ⟨⟨w,w1,w2⟩,h1,h2,h3,h4,h5,h6⟩:=g.bk j d' b xs z
   refine ⟨⟨w,by rw [yX (fun z=>hj z.symm)]; exact w1,w2⟩,h1,h2,h3,h4,fun k d' xs' q=>?_,fun k o' q=>?_⟩
   ·rcases inv k _ q with ⟨rfl,y⟩ | ⟨hk,y⟩
    ·cases y
    ·exact h5 k _ _ y
   ·rcases inv k _ q with ⟨rfl,y⟩ | ⟨hk,y⟩
    ·cases y
    ·rw [ad k hk]
     exact h6 k o' y
theorem Good.setO (g:Good K n W Hi Γ σ H) {i:Nat} (hi:i<n) (h0:Hi a=none) (h1:W.H₀ a=none) (fr:Free n W Γ σ a) (h3:zco K Hi H a o):Good K n W Hi (Γ.set i (.own o)) (σ.set i (some (.ref a))) H:=by
 have ad:∀ j,j≠i->adr n W (σ.set i (some (.ref a))) j=adr n W σ j:=fun j hj=>by
  unfold adr
  rw [yX (fun z=>hj z.symm)]
 have ai:adr n W (σ.set i (some (.ref a))) i=some a:=by
  unfold adr
  rw [yP hi,yz (by rw [g.len]; exact hi)]
  rfl
 have inv:∀ (j:Nat) (s:Slot),(Γ.set i (.own o))[j]?=some s->(j=i/\s=.own o)\/(j≠i/\Γ[j]?=some s):=fun j s e=>by
  by_cases hj:j=i
  ·subst hj
   refine .inl ⟨rfl,?_⟩; rw [List.getElem?_set] at e; simp only [if_true] at e; split at e
   ·exact (Option.some.inj e).symm
   ·cases e
  ·rw [yX (fun z=>hj z.symm)] at e
   exact .inr ⟨hj,e⟩
 refine ⟨by rw [List.length_set]; exact g.len,g.fz,g.keep,g.there,g.fro,fun j d' e=>?_,fun j o e=>?_,fun j k o o' b e1 e2 q1 q2=>?_,fun j d' b xs e=>?_⟩
 ·rcases inv j _ e with ⟨rfl,z⟩ | ⟨hj,z⟩
  ·cases z
  ·obtain ⟨w,h1,h2⟩:=g.val j d' z
   exact ⟨w,by rw [yX (fun z=>hj z.symm)]; exact h1,h2⟩
 ·rcases inv j _ e with ⟨rfl,z⟩ | ⟨hj,z⟩
  ·cases z
   exact ⟨a,ai,h0,fun _=>h1,h3⟩
  ·obtain ⟨b,q1,q2⟩:=g.own j o z
   exact ⟨b,by rw [ad j hj]; exact q1,q2⟩
 ·rcases inv j _ e1 with ⟨rfl,z⟩ | ⟨hj,z⟩
  ·rcases inv k _ e2 with ⟨rfl,y⟩ | ⟨hk,y⟩
   ·rfl
   ·rw [ai] at q1
    cases q1; rw [ad k hk] at q2; exact yL q2 (fr.own k _ y)
  ·rcases inv k _ e2 with ⟨rfl,y⟩ | ⟨hk,y⟩
   ·rw [ai] at q2
    cases q2; rw [ad j hj] at q1; exact yL q1 (fr.own j _ z)
   ·exact g.apart j k o o' b z y (by rw [<- ad j hj]; exact q1) (by rw [<- ad k hk]; exact q2)
 ·rcases inv j _ e with ⟨rfl,z⟩ | ⟨hj,z⟩
  ·cases z
  ·obtain ⟨⟨w,w1,w2⟩,h1,h2,h3,h4,h5,h6⟩:=g.bk j d' b xs z
   refine ⟨⟨w,by rw [yX (fun z=>hj z.symm)]; exact w1,w2⟩,h1,h2,h3,h4,fun k d' xs' q=>?_,fun k o' q=>?_⟩
   ·rcases inv k _ q with ⟨rfl,y⟩ | ⟨hk,y⟩
    ·cases y
    ·exact h5 k _ _ y
   ·rcases inv k _ q with ⟨rfl,y⟩ | ⟨hk,y⟩
    ·rw [ai]
     intro w; cases w; exact fr.bk j _ _ z
    ·rw [ad k hk]
     exact h6 k o' y
theorem Good.put (g:Good K n W Hi Γ σ H) {i:Nat} {o0:OD} {u:HO} (e0:Γ[i]?=some (.own o0)) (ha:adr n W σ i=some a) (hn:zco K Hi (upd H a u) a o):Good K n W Hi (Γ.set i (.own o)) σ (upd H a u):=by
 obtain ⟨a',h1,h2,h3,h4⟩:=g.own i _ e0; rw [ha] at h1; cases h1
 have hF:i<n\/a ∈ W.F:=by
  by_cases hi:i<n
  ·exact .inl hi
  ·unfold adr at ha
   rw [yN hi] at ha; exact .inr (yW ha)
 have inv:∀ (j:Nat) (s:Slot),(Γ.set i (.own o))[j]?=some s->(j=i/\s=.own o)\/(j≠i/\Γ[j]?=some s):=fun j s e=>by
  by_cases hj:j=i
  ·subst hj
   refine .inl ⟨rfl,?_⟩; rw [List.getElem?_set] at e; simp only [if_true] at e; split at e
   ·exact (Option.some.inj e).symm
   ·cases e
  ·rw [yX (fun z=>hj z.symm)] at e
   exact .inr ⟨hj,e⟩
 refine ⟨g.len,⟨fun b w q=>?_,fun b xs q=>?_⟩,fun b w q nf=>?_,fun b w q=>?_,g.fro,fun j d' e=>?_,fun j o' e=>?_,fun j k o1 o2 b e1 e2 q1 q2=>?_,fun j d' b xs e=>?_⟩
 ·rw [zU (fun z=>by rw [z,h2] at q; cases q)]
  exact g.sub b w q
 ·by_cases hb:b=a
  ·subst hb
   exact yL q (hn.notTup xs)
  ·rw [zU hb] at q
   exact g.fz.tups b xs q
 ·have hb:b≠a:=fun z=>by
   subst z
   rcases hF with hi | hf
   ·rw [h3 hi] at q; cases q
   ·exact nf hf
  rw [zU hb]; exact g.keep b w q nf
 ·by_cases hb:b=a
  ·exact ⟨u,by rw [hb,zw]⟩
  ·obtain ⟨w',hw⟩:=g.there b w q
   exact ⟨w',by rw [zU hb]; exact hw⟩
 ·rcases inv j _ e with ⟨rfl,z⟩ | ⟨hj,z⟩
  ·cases z
  ·exact g.val j d' z
 ·rcases inv j _ e with ⟨rfl,z⟩ | ⟨hj,z⟩
  ·cases z
   exact ⟨a,ha,h2,h3,hn⟩
  ·obtain ⟨b,q1,q2,q3,q4⟩:=g.own j o' z
   have hb:b≠a:=fun w=>hj (g.apart j i _ _ a z e0 (by rw [<- w]; exact q1) ha)
   exact ⟨b,q1,q2,q3,q4.mono (zaM.refl _) fun w hw=>by rw [zU hb]; exact hw⟩
 ·have e1':∃ oo,Γ[j]?=some (.own oo):=by
   rcases inv j _ e1 with ⟨rfl,z⟩ | ⟨hj,z⟩
   ·exact ⟨_,e0⟩
   ·exact ⟨_,z⟩
  have e2':∃ oo,Γ[k]?=some (.own oo):=by
   rcases inv k _ e2 with ⟨rfl,z⟩ | ⟨hj,z⟩
   ·exact ⟨_,e0⟩
   ·exact ⟨_,z⟩
  obtain ⟨_,z1⟩:=e1'; obtain ⟨_,z2⟩:=e2'; exact g.apart j k _ _ b z1 z2 q1 q2
 ·rcases inv j _ e with ⟨rfl,z⟩ | ⟨hj,z⟩
  ·cases z
  ·obtain ⟨p0,p1,p2,p3,p4,p5,p6⟩:=g.bk j d' b xs z
   have hb:b≠a:=fun w=>p6 i _ e0 (by rw [w]; exact ha)
   refine ⟨p0,p1,p2,p3,p4.mono (zaM.refl _) fun w hw=>by rw [zU hb]; exact hw,fun k d' xs' q=>?_,fun k o' q=>?_⟩
   ·rcases inv k _ q with ⟨rfl,y⟩ | ⟨hk,y⟩
    ·cases y
    ·exact p5 k _ _ y
   ·rcases inv k _ q with ⟨rfl,y⟩ | ⟨hk,y⟩
    ·exact p6 k _ e0
    ·exact p6 k o' y
theorem Good.freezeA (g:Good K n W Hi Γ σ H) (h0:Hi a=none) (h1:W.H₀ a=none) (fr:Free n W Γ σ a) {u:HO} (hu:H a=some u):Good K n W (upd Hi a u) Γ σ H:=by
 have hs:zaM Hi (upd Hi a u):=zaB h0 u
 refine ⟨g.len,⟨fun b w q=>?_,fun b xs q=>?_⟩,g.keep,g.there,fun b w q=>?_,fun j d' e=>?_,fun j o' e=>?_,g.apart,fun j d' b xs e=>?_⟩
 ·by_cases hb:b=a
  ·subst hb; rw [zw] at q; cases q; exact hu
  ·rw [zU hb] at q; exact g.sub b w q
 ·have hb:b≠a:=fun z=>by
   have:=g.fz.tups b xs q
   rw [z,h0] at this; cases this
  rw [zU hb]; exact g.fz.tups b xs q
 ·have hb:b≠a:=fun z=>by subst z; rw [h1] at q; cases q
  rw [zU hb]; exact g.fro b w q
 ·obtain ⟨w,q1,q2⟩:=g.val j d' e
  exact ⟨w,q1,q2.mono hs⟩
 ·obtain ⟨b,q1,q2,q3,q4⟩:=g.own j o' e
  have hb:b≠a:=fun z=>fr.own j o' e (by rw [<- z]; exact q1)
  exact ⟨b,q1,by rw [zU hb]; exact q2,q3,q4.mono hs fun _ z=>z⟩
 ·obtain ⟨⟨w,w1,w2⟩,p1,p2,p3,p4,p5,p6⟩:=g.bk j d' b xs e
  have hb:b≠a:=fun z=>fr.bk j _ _ (by rw [<- z]; exact e)
  exact ⟨⟨w,w1,w2.mono hs⟩,p1,by rw [zU hb]; exact p2,p3,p4.mono hs fun _ z=>z,p5,p6⟩
theorem zco.den (h:zco K Hi H a o) (h0:Hi a=none) {u:HO} (hu:H a=some u):Den K (upd Hi a u) (.ref a) o.toD:=by
 cases o with
 | lst ds =>
  obtain ⟨vs,q,r⟩:=h; rw [hu] at q; cases q; exact Den.mkL (SqL.of zw) (r.mono (zaB h0 _))
 | dic ds =>
  obtain ⟨kvs,q,r⟩:=h; rw [hu] at q; cases q; exact Den.mkDK (.inl zw) (r.mono (zaB h0 _))
 | dit ds =>
  obtain ⟨kvs,ep,q,r⟩:=h; rw [hu] at q; cases q; exact Den.mkDT zw (r.mono (zaB h0 _))
 | obj C ds =>
  obtain ⟨dx,fs,q,r⟩:=h; rw [hu] at q; cases q; exact Den.mkO zw (r.mono (zaB h0 _))
end
abbrev TE':=Sts->(D->Sts->Prop)->Prop
abbrev TT':=Sts->(Bool->Sts->Prop)->Prop
abbrev TA':=Sts->(List D->Sts->Prop)->Prop
abbrev TO':=Sts->(OD->Sts->Prop)->Prop
abbrev TI':=Sts->(List D->Sts->Prop)->Prop
abbrev TG':=D->Sts->(Sts->Prop)->Prop
inductive Res where
 | val (d:D) | own (o:OD)
 | bk (d:D->D) (o:OD)
def Res.toD:Res->D
 | .val d=>d
 | .own o=>o.toD
 | .bk d o=>d o.toD
structure Ends' where
 nx:Sts->Prop
 rt:Res->Sts->Prop
 bk:Sts->Prop:=fun _=>False
 ct:Sts->Prop:=fun _=>False
abbrev TS':=Ends'->Sts->Prop
def zrV (K:W.Frag) (n:Nat) (W:Wd) (Hi:Hp) (σ:St) (Q:D->Sts->Prop):VK:=fun v H'=>∃ Hi' d Γ',zaM Hi Hi'/\Good K n W Hi' Γ' σ H'/\Den K Hi' v d/\Q d Γ'
def tOf (K:W.Frag) (n:Nat) (t:TE'):TE:=fun σ H Q2=>∃ W Hi Γ Q,Good K n W Hi Γ σ H/\t Γ Q/\∀ v H',zrV K n W Hi σ Q v H'->Q2 v H'
def zok (K:W.Frag) (n:Nat) (t:TT'):TT:=fun σ H Q2=>∃ W Hi Γ Q,Good K n W Hi Γ σ H/\t Γ Q/\∀ b H' Hi' Γ',zaM Hi Hi'->Good K n W Hi' Γ' σ H'->Q b Γ'->Q2 b H'
def zqO (K:W.Frag) (n:Nat) (t:TA'):TA:=fun σ H Q2=>∃ W Hi Γ Q,Good K n W Hi Γ σ H/\t Γ Q/\∀ vs H' Hi' Γ' ds,zaM Hi Hi'->Good K n W Hi' Γ' σ H'->zbI K Hi' vs ds->Q ds Γ'->Q2 vs H'
structure New (K:W.Frag) (n:Nat) (W:Wd) (Hi:Hp) (Γ:Sts) (σ:St) (H:Hp) (a:Addr) (o:OD):Prop where
 hi:Hi a=none
 h0:W.H₀ a=none
 ne:Free n W Γ σ a
 own:zco K Hi H a o
def oOf (K:W.Frag) (n:Nat) (t:TO'):TE:=fun σ H Q2=>∃ W Hi Γ Q,Good K n W Hi Γ σ H/\t Γ Q/\∀ a H' Hi' Γ' o,zaM Hi Hi'->Good K n W Hi' Γ' σ H'->New K n W Hi' Γ' σ H' a o->Q o Γ'->Q2 (.ref a) H'
def gOf (K:W.Frag) (n:Nat) (g:TG'):TG:=fun v σ H Q2=>∃ W Hi Γ d Q,Good K n W Hi Γ σ H/\Den K Hi v d/\g d Γ Q/\∀ σ' H' Hi' Γ',zaM Hi Hi'->Good K n W Hi' Γ' σ' H'->Q Γ'->Q2 σ' H'
def zp6 (K:W.Frag) (H₀ Hi H:Hp) (v:V):Res->Prop
 | .val d=>Den K Hi v d
 | .own o=>∃ a,v=.ref a/\Hi a=none/\H₀ a=none/\zco K Hi H a o
 | .bk d o=>∃ b,Den K Hi v (d (.adr b))/\Hol K d/\Hi b=none/\H₀ b=none/\zco K Hi H b o
structure Lifts (K:W.Frag) (n:Nat) (W:Wd) (Hi:Hp) (N:Ends') (N2:Ends):Prop where
 nx:∀ σ' H' Hi' Γ',zaM Hi Hi'->Good K n W Hi' Γ' σ' H'->N.nx Γ'->N2.nx σ' H'
 bk:∀ σ' H' Hi' Γ',zaM Hi Hi'->Good K n W Hi' Γ' σ' H'->N.bk Γ'->N2.bk σ' H'
 ct:∀ σ' H' Hi' Γ',zaM Hi Hi'->Good K n W Hi' Γ' σ' H'->N.ct Γ'->N2.ct σ' H'
 rt:∀ v σ' H' Hi' Γ' r,zaM Hi Hi'->Good K n W Hi' Γ' σ' H'->zp6 K W.H₀ Hi' H' v r->N.rt r Γ'->N2.rt v H'
theorem Lifts.mono {K:W.Frag} {n:Nat} {W:Wd} {Hi Hi':Hp} {N:Ends'} {N2:Ends} (l:Lifts K n W Hi N N2) (s:zaM Hi Hi'):Lifts K n W Hi' N N2 :=
 ⟨fun σ' H' Hi2 Γ' e=>l.nx σ' H' Hi2 Γ' (s.trans e),fun σ' H' Hi2 Γ' e=>l.bk σ' H' Hi2 Γ' (s.trans e),fun σ' H' Hi2 Γ' e=>l.ct σ' H' Hi2 Γ' (s.trans e),fun v σ' H' Hi2 Γ' r e=>l.rt v σ' H' Hi2 Γ' r (s.trans e)⟩
def sOf (K:W.Frag) (n:Nat) (t:TS'):TS:=fun N2 σ H=>∃ W Hi Γ N,Good K n W Hi Γ σ H/\t N Γ/\Lifts K n W Hi N N2
def ItD (K:W.Frag) (Hi:Hp) (J:It) (ds:List D):Prop:=∀ Hi' H',zaM Hi Hi'->Fz Hi' H' ->
 (∀ (i:Nat) d,ds[i]?=some d->J.go i H'/\∀ x H'',J.yld i H' x H''->∃ Hi'',Ext Hi' H' Hi'' H''/\Den K Hi'' x d)/\J.stop ds.length H'
def iOf (K:W.Frag) (n:Nat) (t:TI'):TI:=fun σ H R=>∃ W Hi Γ Q,Good K n W Hi Γ σ H/\t Γ Q/\∀ J H' Hi' Γ' ds,zaM Hi Hi'->Good K n W Hi' Γ' σ H'->ItD K Hi' J ds->Q ds Γ'->R J H'
structure PE' (X:Cx) (e:Expr) (t:TE'):Prop where
 h:PE X e (tOf X.K X.N.length t)
structure PO' (X:Cx) (e:Expr) (t:TO'):Prop where
 h:PE X e (oOf X.K X.N.length t)
structure PT' (X:Cx) (e:Expr) (t:TT'):Prop where
 h:PT X e (zok X.K X.N.length t)
structure PW' (X:Cx) (e:Expr) (t:TT'):Prop where
 h:PW X e (zok X.K X.N.length t)
def zb8:Expr->Bool
 | .Starred _ _=>true
 | _=>false
def zch:List Expr->Bool
 | []=>true
 | e :: es=>!zb8 e && zch es
theorem zaP {e:Expr} {es:List Expr} {env:Env} (h:zb8 e=false):starEach (e :: es) env=(false,eval e env) :: starEach es env:=by
 cases e <;> first | rfl | (exact yL (show true=false from h) Bool.noConfusion)
theorem zaY {pos:Pos} {env:Env}:∀ {es:List Expr},zch es=true->(backTo pos (starEach es env)).any (·.1)=false
 | [],_=>rfl
 | e :: es,h=>by
  have h1:zb8 e=false/\zch es=true:=by
   unfold zch at h
   simpa using h
  rw [zaP h1.1]
  show (false || (backTo pos (starEach es env)).any (·.1))=false
  rw [zaY h1.2]; rfl
theorem zaL {e:Expr} {es:List Expr} (h:zch (e :: es)=true):zb8 e=false/\zch es=true:=by
 unfold zch at h
 simpa using h
structure PA' (X:Cx) (es:List Expr) (t:TA'):Prop where
 pa:PA X es (zqO X.K X.N.length t)
 pl:zch es=true
structure PS' (X:Cx) (s:Stmt) (t:TS'):Prop where
 h:PS X s (sOf X.K X.N.length t)
structure PSs' (X:Cx) (s:List Stmt) (t:TS'):Prop where
 h:PSs X s (sOf X.K X.N.length t)
structure PG' (X:Cx) (tg:Expr) (g:TG'):Prop where
 h:PG X tg (gOf X.K X.N.length g)
structure PI' (X:Cx) (tg iter:Expr) (t:TI'):Prop where
 h:PI X tg iter (iOf X.K X.N.length t)
section
variable {X:Cx}
theorem PE.weak {e:Expr} {t t2:TE} (h:PE X e t) (w:∀ σ H Q,t2 σ H Q->t σ H Q):PE X e t2:=fun pins s σ H Q I q=>h pins s σ H Q I (w _ _ _ q)
theorem PT.weak {e:Expr} {t t2:TT} (h:PT X e t) (w:∀ σ H Q,t2 σ H Q->t σ H Q):PT X e t2:=fun pins s σ H Q I q=>h pins s σ H Q I (w _ _ _ q)
theorem PW.weak {e:Expr} {t t2:TT} (h:PW X e t) (w:∀ σ H Q,t2 σ H Q->t σ H Q):PW X e t2:=fun wh pins s σ H Q I q=>h wh pins s σ H Q I (w _ _ _ q)
theorem PA.weak {es:List Expr} {t t2:TA} (h:PA X es t) (w:∀ σ H Q,t2 σ H Q->t σ H Q):PA X es t2:=fun pos pins s σ H Q I q=>h pos pins s σ H Q I (w _ _ _ q)
theorem PS.weak {st:Stmt} {t t2:TS} (h:PS X st t) (w:∀ N σ H,t2 N σ H->t N σ H):PS X st t2:=fun pins s σ H N I q=>h pins s σ H N I (w _ _ _ q)
theorem PSs.weak {st:List Stmt} {t t2:TS} (h:PSs X st t) (w:∀ N σ H,t2 N σ H->t N σ H):PSs X st t2:=fun pins s σ H N I q=>h pins s σ H N I (w _ _ _ q)
theorem PG.weak {tg:Expr} {t t2:TG} (h:PG X tg t) (w:∀ v σ H Q,t2 v σ H Q->t v σ H Q):PG X tg t2:=fun pins s σ H v u Q I r q=>h pins s σ H v u Q I r (w _ _ _ _ q)
theorem PI.weak {tg iter:Expr} {t t2:TI} (h:PI X tg iter t) (w:∀ σ H Q,t2 σ H Q->t σ H Q):PI X tg iter t2:=fun pins s σ H Q I q=>h pins s σ H Q I (w _ _ _ q)
def zab (i:Nat):TE':=fun Γ Q=>∃ d,Γ[i]?=some (.val d)/\Q d Γ
def tC' (d:D):TE':=fun Γ Q=>Q d Γ
theorem pv' (i:Nat) {x:Str} {pos:Pos} (hN:X.N[i]?=some x:=by rfl) (hv:Vis X.env.scope x:=by first | exact Or.inl rfl | exact Or.inr (Or.inl rfl) | exact Or.inr (Or.inr rfl)) (hd:(x == ("__debug__":Str))=false:=by decide)
  (hcd:(x == ("__classdict__":Str))=false:=by decide):PE' X (.Name x pos) (zab i):=by
 refine ⟨PE.weak (zf0 (i:=i) hN hv hd hcd) ?_⟩
 rintro σ H Q ⟨W,Hi,Γ,Q',g,⟨d,e,q⟩,fin⟩
 obtain ⟨v,h1,h2⟩:=g.val i d e; exact ⟨v,h1,fin v H ⟨Hi,d,Γ,zaM.refl _,g,h2,q⟩⟩
theorem zgW {e:Expr} {v:V} {d:D} (h:PE X e (tC v)) (r:∀ Hi,Den X.K Hi v d):PE' X e (tC' d):=by
 refine ⟨PE.weak h ?_⟩
 rintro σ H Q ⟨W,Hi,Γ,Q',g,q,fin⟩
 exact fin v H ⟨Hi,d,Γ,zaM.refl _,g,r Hi,q⟩
theorem zj {i j pos}:PE' X (.Constant (.int i) j pos) (tC' (.int i)):=zgW zmn fun _=>.int i
theorem zbw {b j pos}:PE' X (.Constant (.bool b) j pos) (tC' (.bl b)):=zgW zrf fun _=>.bl b
theorem zgV {j pos}:PE' X (.Constant .none j pos) (tC' .non):=zgW zpb fun _=>.non
theorem zW (l:List Nat) {x j pos} (h:x=st l:=by decide +kernel):PE' X (.Constant (.str x) j pos) (tC' (.str l)):=by
 subst h
 exact zgW zo9 fun _=>.str l
theorem zpd {x:Str} {v:V} {u:Value} {d:D} {pos:Pos} (hm:X.mg x=some u) (r:zbh v u) (rd:∀ Hi,Den X.K Hi v d) (hg:Gl X x:=by rfl) (hd:(x == ("__debug__":Str))=false:=by decide):PE' X (.Name x pos) (tC' d):=zgW (znw hg hm r hd) rd
theorem zji {x:Str} {l:List Nat} {t:Tok} {pos:Pos} (hm:X.mg x=some (.str (st l) t)) (hg:Gl X x:=by rfl) (hd:(x == ("__debug__":Str))=false:=by decide):PE' X (.Name x pos) (tC' (.str l)):=zpd (v:=.str (st l)) hm ⟨_,rfl⟩ (fun _=>.str l) hg hd
theorem zhA {x:Str} {i:Int} {t:Tok} {pos:Pos} (hm:X.mg x=some (.int i t)) (hg:Gl X x:=by rfl) (hd:(x == ("__debug__":Str))=false:=by decide):PE' X (.Name x pos) (tC' (.int i)):=zpd (v:=.int i) hm ⟨_,rfl⟩ (fun _=>.int i) hg hd
theorem zeq {x:Str} {c:String} {pos:Pos} (hm:X.mg x=none) (hv:bootBuiltins x=some (.type c)) (hg:Gl X x:=by rfl) (hn:x≠"__name__":=by decide) (hd:(x == ("__debug__":Str))=false:=by decide):PE' X (.Name x pos) (tC' (.ty c)) :=
 zgW (znA (v:=.ty c) hg hm hv rfl hn hd) fun _=>.ty c
def zau (t:TO'):TE':=fun Γ Q=>t Γ fun o Γ1=>Q o.toD Γ1
theorem za2 {e:Expr} {t:TO'} (h:PO' X e t):PE' X e (zau t):=by
 refine ⟨PE.weak h.h ?_⟩
 rintro σ H Q ⟨W,Hi,Γ,Q',g,q,fin⟩
 refine ⟨W,Hi,Γ,_,g,q,?_⟩; intro a H' Hi' Γ' o s1 g1 nw q1; obtain ⟨u,hu⟩:=nw.own.there; exact fin _ _ ⟨upd Hi' a u,_,Γ',s1.trans (zaB nw.hi u),g1.freezeA nw.hi nw.h0 nw.ne hu,nw.own.den nw.hi hu,q1⟩
abbrev R2':=D->D->(D->Prop)->Prop
def zfK (K:W.Frag) (r:R2) (r':R2'):Prop:=∀ (Hi H:Hp) (x y:V) (dx dy:D) (Q:D->Prop) (Q2:VK),Fz Hi H->Den K Hi x dx->Den K Hi y dy->r' dx dy Q->(∀ Hi' H' v d,Ext Hi H Hi' H'->Den K Hi' v d->Q d->Q2 v H')->r x y H Q2
def zaX (r:R2') (ta tb:TE'):TE':=fun Γ Q=>ta Γ fun x Γ1=>tb Γ1 fun y Γ2=>r x y fun d=>Q d Γ2
theorem zhl {K:W.Frag} {n:Nat} {r:R2} {r':R2'} {ta tb:TE'} {σ:St} {H:Hp} {Q:VK} (l:zfK K r r') (h:tOf K n (zaX r' ta tb) σ H Q):tOp r (tOf K n ta) (tOf K n tb) σ H Q:=by
 obtain ⟨W,Hi,Γ,Q',g,h,fin⟩:=h; refine ⟨W,Hi,Γ,_,g,h,?_⟩
 rintro x H1 ⟨Hi1,dx,Γ1,s1,g1,den1,h1⟩
 refine ⟨W,Hi1,Γ1,_,g1,h1,?_⟩
 rintro y H2 ⟨Hi2,dy,Γ2,s2,g2,den2,h2⟩
 refine l Hi2 H2 x y dx dy _ _ g2.fz (den1.mono s2) den2 h2 ?_
 rintro Hi3 H3 v d e den q
 exact fin v H3 ⟨Hi3,d,Γ2,s1.trans (s2.trans e.hi),g2.ext e,den,q⟩
structure Op2 (X:Cx) (f:Value->Value->Sem Value) (r':R2'):Prop where
 ex:∃ r,OpR X f r/\zfK X.K r r'
theorem Op2.or {f:Value->Value->Sem Value} {r r':R2'} (h:Op2 X f r) (h':Op2 X f r'):Op2 X f (fun x y Q=>r x y Q\/r' x y Q):=by
 obtain ⟨a,ha,la⟩:=h.ex; obtain ⟨b,hb,lb⟩:=h'.ex
 refine ⟨_,ha.or hb,fun Hi H x y dx dy Q Q2 s d1 d2 q fin=>?_⟩
 rcases q with q | q
 ·exact .inl (la Hi H x y dx dy Q Q2 s d1 d2 q fin)
 ·exact .inr (lb Hi H x y dx dy Q Q2 s d1 d2 q fin)
theorem zX {a b:Expr} {op:Operator} {r':R2'} {ta tb:TE'} {pos:Pos} (h:Op2 X (binaryOp op) r') (ha:PE' X a ta) (hb:PE' X b tb):PE' X (.BinOp a op b pos) (zaX r' ta tb):=by
 obtain ⟨r,ho,l⟩:=h.ex
 exact ⟨PE.weak (zrd ho ha.h hb.h) fun σ H Q q=>zhl l q⟩
theorem zbm {a b:Expr} {op:CmpOp} {r':R2'} {ta tb:TE'} {pos:Pos} (h:Op2 X (compareOp op) r') (ha:PE' X a ta) (hb:PE' X b tb) (hm:behindInMarks op b=false:=by first | exact zmp _ | rfl):PE' X (.Compare a [op] [b] pos) (zaX r' ta tb):=by
 obtain ⟨r,ho,l⟩:=h.ex
 exact ⟨PE.weak (zny ho ha.h hb.h hm) fun σ H Q q=>zhl l q⟩
def tB' (t:TE'):TT':=fun Γ Q=>t Γ fun d Γ1=>∃ b,d=.bl b/\Q b Γ1
theorem zmU {K:W.Frag} {n:Nat} {t:TE'} {σ:St} {H:Hp} {Q:Bool->Hp->Prop} (h:zok K n (tB' t) σ H Q):tOf K n t σ H fun x H1=>∃ c,x=.bl c/\Q c H1:=by
 obtain ⟨W,Hi,Γ,Q',g,h,fin⟩:=h; refine ⟨W,Hi,Γ,_,g,h,?_⟩
 rintro x H1 ⟨Hi1,dx,Γ1,s1,g1,den1,b,rfl,h1⟩
 exact ⟨b,den1.blI,fin b H1 Hi1 Γ1 s1 g1 h1⟩
theorem zdN {e:Expr} {t:TE'} (h:PE' X e t) (he:∀ whole,isTrue e X.env whole=(do let v <- whole; standAt e.pos; holding [v] (truthy v)):=by intro _; rfl):PT' X e (tB' t) :=
 ⟨PT.weak (zo0 h.h he) fun σ H Q q=>zmU q⟩
theorem zaJ {a b:Expr} {op:CmpOp} {r':R2'} {ta tb:TE'} {pos:Pos} (h:Op2 X (compareOp op) r') (ha:PE' X a ta) (hb:PE' X b tb) (hm:behindInMarks op b=false:=by first | exact zmp _ | rfl):PT' X (.Compare a [op] [b] pos) (tB' (zaX r' ta tb)):=by
 obtain ⟨r,ho,l⟩:=h.ex
 exact ⟨PT.weak (znd ho ha.h hb.h hm) fun σ H Q q=>zhl l (zmU q)⟩
def zai (t u:TT'):TT':=fun Γ Q=>t Γ fun c Γ1=>if c=true then u Γ1 Q else Q false Γ1
def zba (t u:TT'):TT':=fun Γ Q=>t Γ fun c Γ1=>if c=true then Q true Γ1 else u Γ1 Q
def zal (t:TT'):TT':=fun Γ Q=>t Γ fun c Γ1=>Q (!c) Γ1
variable {a b c:Expr} {tA tB2:TT'} {zdF:List Expr} {pos:Pos} {ta tb:TE'}
theorem zds (ha:PT' X a tA):PW' X (.BoolOp .And [a] pos) tA:=⟨zm8 ha.h⟩
theorem zjb (ha:PT' X a tA):PW' X (.BoolOp .Or [a] pos) tA:=⟨zoX ha.h⟩
theorem zeo (ha:PT' X a tA) (hb:PW' X (.BoolOp .And (b :: zdF) pos) tB2):PW' X (.BoolOp .And (a :: b :: zdF) pos) (zai tA tB2):=by
 refine ⟨PW.weak (zoY ha.h hb.h) ?_⟩
 rintro σ H Q ⟨W,Hi,Γ,Q',g,h,fin⟩
 refine ⟨W,Hi,Γ,_,g,h,?_⟩; intro k H1 Hi1 Γ1 s1 g1 h1
 cases k with
 | true=>exact ⟨W,Hi1,Γ1,_,g1,h1,fun b H2 Hi2 Γ2 s2 g2 q=>fin b H2 Hi2 Γ2 (s1.trans s2) g2 q⟩
 | false=>exact fin false H1 Hi1 Γ1 s1 g1 h1
theorem zmi (ha:PT' X a tA) (hb:PW' X (.BoolOp .Or (b :: zdF) pos) tB2):PW' X (.BoolOp .Or (a :: b :: zdF) pos) (zba tA tB2):=by
 refine ⟨PW.weak (zq9 ha.h hb.h) ?_⟩
 rintro σ H Q ⟨W,Hi,Γ,Q',g,h,fin⟩
 refine ⟨W,Hi,Γ,_,g,h,?_⟩; intro k H1 Hi1 Γ1 s1 g1 h1
 cases k with
 | false=>exact ⟨W,Hi1,Γ1,_,g1,h1,fun b H2 Hi2 Γ2 s2 g2 q=>fin b H2 Hi2 Γ2 (s1.trans s2) g2 q⟩
 | true=>exact fin true H1 Hi1 Γ1 s1 g1 h1
theorem PW'.pt {e:Expr} {t:TT'} (h:PW' X e t):PT' X e t:=⟨h.h _⟩
theorem zdh (ha:PT' X a tA):PT' X (.UnaryOp .Not a pos) (zal tA):=by
 refine ⟨PT.weak (zo1 ha.h) ?_⟩
 rintro σ H Q ⟨W,Hi,Γ,Q',g,h,fin⟩
 exact ⟨W,Hi,Γ,_,g,h,fun k H1 Hi1 Γ1 s1 g1 h1=>fin _ H1 Hi1 Γ1 s1 g1 h1⟩
def zL (ta tb:TE'):TE':=fun Γ Q=>ta Γ fun x Γ1=>∃ c,x=.bl c/\if c=true then tb Γ1 Q else Q (.bl false) Γ1
def zay (ta tb:TE'):TE':=fun Γ Q=>ta Γ fun x Γ1=>∃ c,x=.bl c/\if c=true then Q (.bl true) Γ1 else tb Γ1 Q
def zP (ta:TE'):TE':=fun Γ Q=>ta Γ fun x Γ1=>∃ c,x=.bl c/\Q (.bl (!c)) Γ1
theorem zca {op} (h:PE' X a ta):PE' X (.BoolOp op [a] pos) ta:=⟨zpa h.h⟩
theorem zbE (ha:PE' X a ta) (hb:PE' X (.BoolOp .And (b :: zdF) pos) tb):PE' X (.BoolOp .And (a :: b :: zdF) pos) (zL ta tb):=by
 refine ⟨PE.weak (zph ha.h hb.h) ?_⟩
 rintro σ H Q ⟨W,Hi,Γ,Q',g,h,fin⟩
 refine ⟨W,Hi,Γ,_,g,h,?_⟩
 rintro x H1 ⟨Hi1,dx,Γ1,s1,g1,den1,k,rfl,h1⟩
 refine ⟨k,den1.blI,?_⟩
 cases k with
 | true=>exact ⟨W,Hi1,Γ1,_,g1,h1,fun v H2 ⟨Hi2,d,Γ2,s2,g2,d2,q⟩=>fin v H2 ⟨Hi2,d,Γ2,s1.trans s2,g2,d2,q⟩⟩
 | false=>exact fin _ H1 ⟨Hi1,_,Γ1,s1,g1,.bl false,h1⟩
def zbj (t:TT') (ta tb:TE'):TE':=fun Γ Q=>t Γ fun c Γ1=>if c=true then ta Γ1 Q else tb Γ1 Q
def zae:TA':=fun Γ Q=>Q [] Γ
def zA (ta:TE') (tr:TA'):TA':=fun Γ Q=>ta Γ fun x Γ1=>tr Γ1 fun xs Γ2=>Q (x :: xs) Γ2
theorem zi:PA' X [] zae:=by
 refine ⟨PA.weak zhB ?_,rfl⟩
 rintro σ H Q ⟨W,Hi,Γ,Q',g,h,fin⟩
 exact fin [] H Hi Γ [] (zaM.refl _) g .nil h
theorem zc {e:Expr} {es:List Expr} {te:TE'} {t:TA'} (ha:PE' X e te) (hr:PA' X es t) (hs:zb8 e=false:=by rfl):PA' X (e :: es) (zA te t):=by
 refine ⟨PA.weak (zcR ha.h hr.pa (zaP hs)) ?_,by unfold zch; rw [hs,hr.pl]; rfl⟩
 rintro σ H Q ⟨W,Hi,Γ,Q',g,h,fin⟩
 refine ⟨W,Hi,Γ,_,g,h,?_⟩
 rintro x H1 ⟨Hi1,dx,Γ1,s1,g1,den1,h1⟩
 refine ⟨W,Hi1,Γ1,_,g1,h1,?_⟩; intro vs H2 Hi2 Γ2 ds s2 g2 dl q; exact fin (x :: vs) H2 Hi2 Γ2 (dx :: ds) (s1.trans s2) g2 (.cons (den1.mono s2) dl) q
def zag (t:TA'):TE':=fun Γ Q=>t Γ fun ds Γ1=>ds.length<=sizeLine/\Q (.tup ds) Γ1
theorem zv {es:List Expr} {t:TA'} {x1} (h:PA' X es t):PE' X (.Tuple es x1 pos) (zag t):=by
 refine ⟨PE.weak (zo8 h.pa) ?_⟩
 rintro σ H Q ⟨W,Hi,Γ,Q',g,h,fin⟩
 refine ⟨W,Hi,Γ,_,g,h,?_⟩
 rintro vs H1 Hi1 Γ1 ds s1 g1 dl ⟨hl,q⟩
 refine ⟨by rw [zl dl]; exact hl,fun p hp=>?_⟩
 have e:=Ext.new g1.fz hp (.tup vs); exact fin _ _ ⟨_,_,Γ1,s1.trans e.hi,g1.ext e,Den.mkT zw (dl.mono e.hi),q⟩
theorem New.mk' {K:W.Frag} {n:Nat} {W:Wd} {Hi H:Hp} {Γ:Sts} {σ:St} {p:Addr} {u:HO} {o:OD} (g:Good K n W Hi Γ σ H) (hp:H p=none) (own:zco K Hi (upd H p u) p o):New K n W Hi Γ σ (upd H p u) p o:=by
 refine ⟨g.sub.free hp,?_,⟨fun j o' e z=>?_,fun j d xs e=>?_⟩,own⟩
 ·cases q:W.H₀ p with
  | none=>rfl
  | some w =>
   obtain ⟨w',hw⟩:=g.there p w q
   rw [hp] at hw; cases hw
 ·obtain ⟨a,h1,_,_,h4⟩:=g.own j o' e
  rw [z] at h1; cases h1; obtain ⟨w,hw⟩:=h4.there
  rw [hp] at hw; cases hw
 ·obtain ⟨w,hw⟩:=(g.bk j d p xs e).at_.there
  rw [hp] at hw; cases hw
def zam (t:TA'):TO':=fun Γ Q=>t Γ fun ds Γ1=>ds.length<=sizeLine/\Q (.lst ds) Γ1
theorem zcg {es:List Expr} {t:TA'} (h:PA' X es t):PO' X (.List es pos) (zam t):=by
 refine ⟨PE.weak (zpc h.pa) ?_⟩
 rintro σ H Q ⟨W,Hi,Γ,Q',g,h,fin⟩
 refine ⟨W,Hi,Γ,_,g,h,?_⟩
 rintro vs H1 Hi1 Γ1 ds s1 g1 dl ⟨hl,q⟩
 refine ⟨by rw [zl dl]; exact hl,fun p hp=>?_⟩
 exact fin p _ Hi1 Γ1 (.lst ds) s1 (g1.ext (Ext.newO g1.fz hp _ (fun _ z=>by cases z))) (New.mk' g1 hp ⟨vs,zw,dl⟩) q
abbrev RC':=List D->(D->Prop)->Prop
def zp7 (K:W.Frag) (r:List V->Hp->VK->Prop) (r':RC'):Prop:=∀ (Hi H:Hp) (vs:List V) (ds:List D) (Q:D->Prop) (Q2:VK),Fz Hi H->zbI K Hi vs ds->r' ds Q->(∀ Hi' H' v d,Ext Hi H Hi' H'->Den K Hi' v d->Q d->Q2 v H')->r vs H Q2
structure Cal (X:Cx) (f:Value) (r':RC'):Prop where
 ex:∃ r,zcy X f r/\zp7 X.K r r'
theorem Cal.or {f:Value} {r r':RC'} (h:Cal X f r) (h':Cal X f r'):Cal X f (fun x Q=>r x Q\/r' x Q):=by
 obtain ⟨a,ha,la⟩:=h.ex; obtain ⟨b,hb,lb⟩:=h'.ex
 refine ⟨_,ha.or hb,fun Hi H vs ds Q Q2 s d q fin=>?_⟩
 rcases q with q | q
 ·exact .inl (la Hi H vs ds Q Q2 s d q fin)
 ·exact .inr (lb Hi H vs ds Q Q2 s d q fin)
def za4 (r:RC') (t:TA'):TE':=fun Γ Q=>t Γ fun ds Γ1=>r ds fun d=>Q d Γ1
theorem zl9 {K:W.Frag} {n:Nat} {r:List V->Hp->VK->Prop} {r':RC'} {t:TA'} {σ:St} {H:Hp} {Q:VK} (l:zp7 K r r') (h:tOf K n (za4 r' t) σ H Q):tCB r (zqO K n t) σ H Q:=by
 obtain ⟨W,Hi,Γ,Q',g,h,fin⟩:=h; refine ⟨W,Hi,Γ,_,g,h,?_⟩; intro vs H1 Hi1 Γ1 ds s1 g1 dl h1; refine l Hi1 H1 vs ds _ _ g1.fz dl h1 ?_; intro Hi2 H2 v d e den q; exact fin v H2 ⟨Hi2,d,Γ1,s1.trans e.hi,g1.ext e,den,q⟩
variable {x:Str} {p:Pos} {e:Expr} {es:List Expr} {t:TA'} {id T:String}
theorem zZ {r':RC'} (hc:Cal X (.builtin id) r') (hm:X.mg x=none) (hv:bootBuiltins x=some (.builtin id)) (ha:PA' X (e :: es) t) (hg:Gl X x:=by rfl) (hn:x≠"__name__":=by decide) (hdb:(x == ("__debug__":Str))=false:=by decide):PE' X (.Call (.Name x p) (e :: es) [] pos) (za4 r' t):=by
 obtain ⟨r,ho,l⟩:=hc.ex; obtain ⟨p1,p2⟩:=zaL ha.pl
 exact ⟨PE.weak (zlg ho hg hm hv ha.pa hn hdb (zaP p1) (zaY p2)) fun σ H Q q=>zl9 l q⟩
theorem zbD {r':RC'} (hc:Cal X (.type T) r') (hm:X.mg x=none) (hv:bootBuiltins x=some (.type T)) (ha:PA' X (e :: es) t) (hg:Gl X x:=by rfl) (hn:x≠"__name__":=by decide) (hdb:(x == ("__debug__":Str))=false:=by decide):PE' X (.Call (.Name x p) (e :: es) [] pos) (za4 r' t):=by
 obtain ⟨r,ho,l⟩:=hc.ex; obtain ⟨p1,p2⟩:=zaL ha.pl
 exact ⟨PE.weak (zf1 ho hg hm hv ha.pa hn hdb (zaP p1) (zaY p2)) fun σ H Q q=>zl9 l q⟩
end
section
variable {X:Cx} {a b c:Expr} {pos:Pos} {ta tb:TE'}
structure Ixs (X:Cx) (r':R2'):Prop where
 ex:∃ r,IxR X r/\zfK X.K r r'
theorem Ixs.or {r r':R2'} (h:Ixs X r) (h':Ixs X r'):Ixs X (fun x y Q=>r x y Q\/r' x y Q):=by
 obtain ⟨a,ha,la⟩:=h.ex; obtain ⟨b,hb,lb⟩:=h'.ex
 refine ⟨_,ha.or hb,fun Hi H x y dx dy Q Q2 s d1 d2 q fin=>?_⟩
 rcases q with q | q
 ·exact .inl (la Hi H x y dx dy Q Q2 s d1 d2 q fin)
 ·exact .inr (lb Hi H x y dx dy Q Q2 s d1 d2 q fin)
theorem zT {r':R2'} (h:Ixs X r') (ha:PE' X a ta) (hb:PE' X b tb) (hs:zkj b:=by intro _ _; rfl):PE' X (.Subscript a b pos) (zaX r' ta tb):=by
 obtain ⟨r,ho,l⟩:=h.ex
 exact ⟨PE.weak (zre ho ha.h hb.h hs) fun σ H Q q=>zhl l q⟩
abbrev TP':=Sts->(Option Int->Sts->Prop)->Prop
def zsr (K:W.Frag) (n:Nat) (t:TP'):TO:=fun σ H Q2=>∃ W Hi Γ Q,Good K n W Hi Γ σ H/\t Γ Q/\∀ i H' Hi' Γ',zaM Hi Hi'->Good K n W Hi' Γ' σ H'->Q i Γ'->Q2 i H'
structure PB' (X:Cx) (e:Option Expr) (t:TP'):Prop where
 h:PO X e (zsr X.K X.N.length t)
def zah:TP':=fun Γ Q=>Q none Γ
def za8 (t:TE'):TP':=fun Γ Q=>t Γ fun d Γ1=>∃ i,d=.int i/\Q (some i) Γ1
theorem PO.weak {e:Option Expr} {t t2:TO} (h:PO X e t) (w:∀ σ H Q,t2 σ H Q->t σ H Q):PO X e t2:=fun pins s σ H Q I q=>h pins s σ H Q I (w _ _ _ q)
theorem zd3:PB' X none zah:=by
 refine ⟨PO.weak znk ?_⟩
 rintro σ H Q ⟨W,Hi,Γ,Q',g,h,fin⟩
 exact fin none H Hi Γ (zaM.refl _) g h
theorem zdk {e:Expr} {te:TE'} (h:PE' X e te):PB' X (some e) (za8 te):=by
 refine ⟨PO.weak (znj h.h) ?_⟩
 rintro σ H Q ⟨W,Hi,Γ,Q',g,h,fin⟩
 refine ⟨W,Hi,Γ,_,g,h,?_⟩
 rintro v H1 ⟨Hi1,d,Γ1,s1,g1,den,i,rfl,q⟩
 exact ⟨i,den.intI,fin _ H1 Hi1 Γ1 s1 g1 q⟩
abbrev RS':=D->Option Int->Option Int->(D->Prop)->Prop
def zrX (K:W.Frag) (r:V->Option Int->Option Int->Hp->VK->Prop) (r':RS'):Prop:=∀ (Hi H:Hp) (x:V) (dx:D) (lo hi:Option Int) (Q:D->Prop) (Q2:VK),Fz Hi H->Den K Hi x dx->r' dx lo hi Q->(∀ Hi' H' v d,Ext Hi H Hi' H'->Den K Hi' v d->Q d->Q2 v H')->r x lo hi H Q2
structure Sli (X:Cx) (r':RS'):Prop where
 ex:∃ r,SlR X r/\zrX X.K r r'
theorem Sli.or {r r':RS'} (h:Sli X r) (h':Sli X r'):Sli X (fun x lo hi Q=>r x lo hi Q\/r' x lo hi Q):=by
 obtain ⟨a,ha,la⟩:=h.ex; obtain ⟨b,hb,lb⟩:=h'.ex
 refine ⟨_,ha.or hb,fun Hi H x dx lo hi Q Q2 s d1 q fin=>?_⟩
 rcases q with q | q
 ·exact .inl (la Hi H x dx lo hi Q Q2 s d1 q fin)
 ·exact .inr (lb Hi H x dx lo hi Q Q2 s d1 q fin)
def za7 (r:RS') (te:TE') (tl th:TP'):TE':=fun Γ Q=>te Γ fun x Γ1=>tl Γ1 fun l Γ2=>th Γ2 fun u Γ3=>r x l u fun d=>Q d Γ3
theorem zci {e:Expr} {lo hi:Option Expr} {p2:Pos} {te:TE'} {tl th:TP'} {r':RS'} (h:Sli X r') (he:PE' X e te) (hl:PB' X lo tl) (hu:PB' X hi th):PE' X (.Subscript e (.Slice lo hi none p2) pos) (za7 r' te tl th):=by
 obtain ⟨r,ho,l⟩:=h.ex; refine ⟨PE.weak (zlb ho he.h hl.h hu.h) ?_⟩
 rintro σ H Q ⟨W,Hi,Γ,Q',g,h,fin⟩
 refine ⟨W,Hi,Γ,_,g,h,?_⟩
 rintro x H1 ⟨Hi1,dx,Γ1,s1,g1,den1,h1⟩
 refine ⟨W,Hi1,Γ1,_,g1,h1,?_⟩; intro i H2 Hi2 Γ2 s2 g2 h2; refine ⟨W,Hi2,Γ2,_,g2,h2,?_⟩; intro j H3 Hi3 Γ3 s3 g3 h3; refine l Hi3 H3 x dx i j _ _ g3.fz (den1.mono (s2.trans s3)) h3 ?_; intro Hi4 H4 v d e den q; exact fin v H4 ⟨Hi4,d,Γ3,s1.trans (s2.trans (s3.trans e.hi)),g3.ext e,den,q⟩
abbrev RM':=D->List D->(D->Prop)->Prop
def zrY (K:W.Frag) (T:String) (r:V->List V->Hp->VK->Prop) (r':RM'):Prop:=∀ (Hi H:Hp) (x:V) (vs:List V) (dx:D) (ds:List D) (Q:D->Prop) (Q2:VK),Fz Hi H->Den K Hi x dx->zbI K Hi vs ds->r' dx ds Q->(∀ Hi' H' v d,Ext Hi H Hi' H'->Den K Hi' v d->Q d->Q2 v H')->r x vs H Q2
def tyD (T:String):D->Prop
 | .str _=>T="str"
 | .int _=>T="int"
 | .lst _=>T="list"
 | _=>False
theorem zot {K:W.Frag} {Hi H:Hp} {x:V} {dx:D} (s:zaM Hi H) (den:Den K Hi x dx) (h:tyD T dx):tyV K T x H:=by
 cases den with
 | str l=>exact h
 | int i=>exact h
 | lst hq l r =>
  refine .inl ⟨h,_,zaF s hq⟩
 | _=>exact h.elim
structure Met (X:Cx) (T:String) (id:String) (r':RM'):Prop where
 ex:∃ r,MtR X id r/\zrY X.K T r r'
def zbi (T:String) (r:RM') (to:TE') (t:TA'):TE':=fun Γ Q=>to Γ fun x Γ1=>tyD T x/\t Γ1 fun ds Γ2=>r x ds fun d=>Q d Γ2
theorem zpf {o e:Expr} {es:List Expr} {to:TE'} {t:TA'} {name:Str} {apos cpos:Pos} {T id:String} {r':RM'} (h:Met X T id r') (pa:PlainAttrs T) (slot:PySem.Slot T name id) (hty:typeOf (.builtin id)=pure (.type "method_descriptor")) (ho:PE' X o to) (ha:PA' X (e :: es) t)
  (hbase:attributeBase o name X.env (eval o X.env)=eval o X.env:=by rfl) (hlen:(e :: es).length<30:=by decide)
  (hline:(apos.endLine == cpos.line)=true:=by rfl) :
  PE' X (.Call (.Attribute o name apos) (e :: es) [] cpos) (zbi T r' to t):=by
 obtain ⟨r,hm,l⟩:=h.ex; obtain ⟨p1,p2⟩:=zaL ha.pl
 have hfew:((backTo cpos (starEach (e :: es) X.env)).all (fun x=>!x.1) && (backToKw cpos (keywordEach [] X.env)).all (fun x=>x.1.isSome)
   && decide ((e :: es).length+([]:List Keyword).length+(if ([]:List Keyword).isEmpty then 0 else 1)<30))=true:=by
  have h1:(backTo cpos (starEach (e :: es) X.env)).all (fun x=>!x.1)=true:=by
   rw [yp]; intro y hy
   have:=zaY (pos:=cpos) (env:=X.env) ha.pl
   rw [List.any_eq_false] at this
   simpa using this y hy
  rw [h1,yZ (by simpa using hlen)]
  rfl
 refine ⟨PE.weak (zpg pa slot hty hm ho.h ha.pa hbase hfew hline (zaP p1) (zaY p2)) ?_⟩
 rintro σ H Q ⟨W,Hi,Γ,Q',g,h,fin⟩
 refine ⟨W,Hi,Γ,_,g,h,?_⟩
 rintro x H1 ⟨Hi1,dx,Γ1,s1,g1,den1,ty,h1⟩
 refine ⟨zot g1.sub den1 ty,W,Hi1,Γ1,_,g1,h1,?_⟩; intro vs H2 Hi2 Γ2 ds s2 g2 dl h2; refine l Hi2 H2 x vs dx ds _ _ g2.fz (den1.mono s2) dl h2 ?_; intro Hi3 H3 v d e den q; exact fin v H3 ⟨Hi3,d,Γ2,s1.trans (s2.trans e.hi),g2.ext e,den,q⟩
def zB:TS':=fun N Γ=>N.nx Γ
def zaj (t u:TS'):TS':=fun N Γ=>t { N with nx:=u N } Γ
theorem zaG:PSs' X [] zB:=by
 refine ⟨PSs.weak znf ?_⟩
 rintro N2 σ H ⟨W,Hi,Γ,N,g,h,l⟩
 exact l.nx σ H Hi Γ (zaM.refl _) g h
theorem zk {s:Stmt} {zdF:List Stmt} {t u:TS'} (h1:PS' X s t) (h2:PSs' X zdF u):PSs' X (s :: zdF) (zaj t u):=by
 refine ⟨PSs.weak (zkY h1.h h2.h) ?_⟩
 rintro N2 σ H ⟨W,Hi,Γ,N,g,h,l⟩
 refine ⟨W,Hi,Γ,_,g,h,?_,l.bk,l.ct,l.rt⟩; intro σ1 H1 Hi1 Γ1 s1 g1 q; exact ⟨W,Hi1,Γ1,N,g1,q,l.mono s1⟩
theorem zn {s:Stmt} {t:TS'} (h1:PS' X s t):PSs' X [s] t:=⟨zne h1.h⟩
def zak (te:TE'):TS':=fun N Γ=>te Γ fun d Γ1=>N.rt (.val d) Γ1
def zO (te:TO'):TS':=fun N Γ=>te Γ fun o Γ1=>N.rt (.own o) Γ1
theorem zV {e:Expr} {te:TE'} (he:PE' X e te):PS' X (.Return (some e) pos) (zak te):=by
 refine ⟨PS.weak (zml he.h) ?_⟩
 rintro N2 σ H ⟨W,Hi,Γ,N,g,h,l⟩
 refine ⟨W,Hi,Γ,_,g,h,?_⟩
 rintro v H1 ⟨Hi1,d,Γ1,s1,g1,den,q⟩
 exact l.rt v σ H1 Hi1 Γ1 (.val d) s1 g1 den q
def zH (n i:Nat):TS':=fun N Γ=>i<n/\∃ o,Γ[i]?=some (.own o)/\N.rt (.own o) Γ
theorem zk1 (i:Nat) {x:Str} {p:Pos} (hN:X.N[i]?=some x:=by rfl) (hv:Vis X.env.scope x:=by first | exact Or.inl rfl | exact Or.inr (Or.inl rfl) | exact Or.inr (Or.inr rfl)) (hd:(x == ("__debug__":Str))=false:=by decide)
  (hcd:(x == ("__classdict__":Str))=false:=by decide):PS' X (.Return (some (.Name x p)) pos) (zH X.N.length i):=by
 refine ⟨PS.weak (zml (zf0 (i:=i) hN hv hd hcd)) ?_⟩
 rintro N2 σ H ⟨W,Hi,Γ,N,g,⟨hi,o,e,q⟩,l⟩
 obtain ⟨a,h1,h2,h3,h4⟩:=g.own i o e; unfold adr at h1; rw [yP hi] at h1; exact ⟨.ref a,ze0 h1,l.rt _ σ H Hi Γ (.own o) (zaM.refl _) g ⟨a,rfl,h2,h3 hi,h4⟩ q⟩
def zao (c:TT') (t u:TS'):TS':=fun N Γ=>c Γ fun b Γ1=>if b=true then t N Γ1 else u N Γ1
theorem za1 {c:Expr} {sa sb:List Stmt} {tc:TT'} {t u:TS'} (hc:PT' X c tc) (ha:PSs' X sa t) (hb:PSs' X sb u):PS' X (.If c sa sb pos) (zao tc t u):=by
 refine ⟨PS.weak (zra hc.h ha.h hb.h) ?_⟩
 rintro N2 σ H ⟨W,Hi,Γ,N,g,h,l⟩
 refine ⟨W,Hi,Γ,_,g,h,?_⟩; intro k H1 Hi1 Γ1 s1 g1 q
 cases k with
 | true=>exact ⟨W,Hi1,Γ1,N,g1,q,l.mono s1⟩
 | false=>exact ⟨W,Hi1,Γ1,N,g1,q,l.mono s1⟩
def zR (te:TE'):TS':=fun N Γ=>te Γ fun _ Γ1=>N.nx Γ1
def zx (i:Nat):TG':=fun d Γ Q=>Q (Γ.set i (.val d))
theorem zaR (i:Nat) {x:Str} (hN:X.N.Nodup) (hi:X.N[i]?=some x:=by rfl) (hx:Loc X.env.scope x:=by first | exact Or.inl rfl | exact Or.inr rfl) (hf:X.fn x=true\/X.env.scope.names.lookup x=some .local:=by first | exact .inl rfl | exact .inr rfl | assumption):PG' X (.Name x pos) (zx i):=by
 refine ⟨PG.weak (znr (i:=i) hN hi hx hf) ?_⟩
 rintro v σ H Q ⟨W,Hi,Γ,d,Q',g,den,q,fin⟩
 exact fin _ H Hi _ (zaM.refl _) (g.set (yG.mp hi).1 den) q
def zaf (te:TE') (g:TG'):TS':=fun N Γ=>te Γ fun d Γ1=>g d Γ1 N.nx
theorem zac (i:Nat) {x:Str} {e:Expr} {te:TE'} {pos':Pos} (hN:X.N.Nodup) (he:PE' X e te) (hi:X.N[i]?=some x:=by rfl) (hx:Loc X.env.scope x:=by first | exact Or.inl rfl | exact Or.inr rfl) (hs:swapsWith e (some (.Name x pos')) pos.line X.env=pure false:=by rfl)
  (hf:X.fn x=true\/X.env.scope.names.lookup x=some .local:=by first | exact .inl rfl | exact .inr rfl | assumption):PS' X (.Assign [.Name x pos'] e pos) (zaf te (zx i)):=by
 refine ⟨PS.weak (zmk (i:=i) hN hi hx he.h hs hf) ?_⟩
 rintro N2 σ H ⟨W,Hi,Γ,N,g,h,l⟩
 refine ⟨W,Hi,Γ,_,g,h,?_⟩
 rintro v H1 ⟨Hi1,d,Γ1,s1,g1,den,q⟩
 exact l.nx _ H1 Hi1 _ s1 (g1.set (yG.mp hi).1 den) q
def zK (te:TO') (i:Nat):TS':=fun N Γ=>te Γ fun o Γ1=>N.nx (Γ1.set i (.own o))
theorem zfr (i:Nat) {x:Str} {e:Expr} {te:TO'} {pos':Pos} (hN:X.N.Nodup) (he:PO' X e te) (hi:X.N[i]?=some x:=by rfl) (hx:Loc X.env.scope x:=by first | exact Or.inl rfl | exact Or.inr rfl) (hs:swapsWith e (some (.Name x pos')) pos.line X.env=pure false:=by rfl)
  (hf:X.fn x=true\/X.env.scope.names.lookup x=some .local:=by first | exact .inl rfl | exact .inr rfl | assumption):PS' X (.Assign [.Name x pos'] e pos) (zK te i):=by
 refine ⟨PS.weak (zmk (i:=i) hN hi hx he.h hs hf) ?_⟩
 rintro N2 σ H ⟨W,Hi,Γ,N,g,h,l⟩
 refine ⟨W,Hi,Γ,_,g,h,?_⟩; intro a H1 Hi1 Γ1 o s1 g1 nw q; exact l.nx _ H1 Hi1 _ s1 (g1.setO (yG.mp hi).1 nw.hi nw.h0 nw.ne nw.own) q
def zkv (g:TG') (tb:TS') (N:Ends'):List D->Sts->Prop
 | [],Γ=>N.nx Γ
 | d :: ds,Γ=>g d Γ fun Γ2=>tb { N with nx:=zkv g tb N ds,ct:=zkv g tb N ds,bk:=N.nx } Γ2
def zav (ti:TI') (g:TG') (tb:TS'):TS':=fun N Γ=>ti Γ fun ds Γ1=>zkv g tb N ds Γ1
theorem zep {tg iter:Expr} {body:List Stmt} {ti:TI'} {g:TG'} {tb:TS'} (hi:PI' X tg iter ti) (hg:PG' X tg g) (hb:PSs' X body tb) (hp:PassesOwn (model X.prog X.w) X.A X.env X.xe:=by exact PassesOwn.never) (hc:X.calm=true:=by rfl)
  (hs:∀ x,foldedSetIterable iter X.env x=pure x:=by intro _; rfl):PS' X (.For tg iter body [] pos) (zav ti g tb):=by
 refine ⟨PS.weak (zo2 hp hc hi.h hg.h hb.h hs) ?_⟩
 rintro N2 σ H ⟨W,Hi,Γ,N,gd,h,l⟩
 refine ⟨W,Hi,Γ,_,gd,h,?_⟩; intro J H1 Hi1 Γ1 ds s1 g1 itd q
 refine ⟨fun i m σ' H'=>m=ds.length-i/\i<=ds.length/\∃ Hi' Γ',zaM Hi1 Hi'/\Good X.K X.N.length W Hi' Γ' σ' H'/\zkv g tb N (ds.drop i) Γ',⟨ds.length,by simp,yi _,Hi1,Γ1,zaM.refl _,g1,by simpa using q⟩,?_⟩
 rintro i m σ' H' ⟨rfl,hi',Hi',Γ',s2,g2,q2⟩
 have wk:=itd Hi' H' s2 g2.fz
 by_cases hlt:i<ds.length
 ·have hd:ds.drop i=ds[i] :: ds.drop (i+1):=YF hlt
  rw [hd] at q2; obtain ⟨go,yl⟩:=wk.1 i ds[i] (yC hlt)
  refine .inr ⟨go,fun σ3 H3=>∃ Hi3 Γ3,zaM Hi' Hi3/\Good X.K X.N.length W Hi3 Γ3 σ3 H3/\zkv g tb N (ds.drop (i+1)) Γ3,fun σ3 H3 ⟨Hi3,Γ3,s3,g3,q3⟩=>⟨ds.length-(i+1),by omega,rfl,hlt,Hi3,Γ3,s2.trans s3,g3,q3⟩,fun x H'' y=>?_⟩
  obtain ⟨Hi'',ex,den⟩:=yl x H'' y; refine ⟨W,Hi'',Γ',ds[i],_,g2.ext ex,den,q2,?_⟩; intro σ4 H4 Hi4 Γ4 s4 g4 q4
  have sx:zaM Hi' Hi4:=ex.hi.trans s4
  refine ⟨W,Hi4,Γ4,_,g4,q4,?_⟩
  refine ⟨fun σ5 H5 Hi5 Γ5 s5 g5 q5=>⟨Hi5,Γ5,sx.trans s5,g5,q5⟩,fun σ5 H5 Hi5 Γ5 s5 g5 q5=>l.nx σ5 H5 Hi5 Γ5 (s1.trans (s2.trans (sx.trans s5))) g5 q5,fun σ5 H5 Hi5 Γ5 s5 g5 q5=>⟨Hi5,Γ5,sx.trans s5,g5,q5⟩,fun v σ5 H5 Hi5 Γ5 r s5 g5 ro q5=>l.rt v σ5 H5 Hi5 Γ5 r (s1.trans (s2.trans (sx.trans s5))) g5 ro q5⟩
 ·have e:i=ds.length:=by omega
  subst e; rw [YN (yF _)] at q2; exact .inl ⟨wk.2,l.nx σ' H' Hi' Γ' (s1.trans s2) g2 q2⟩
def ziQ (c:TT') (tb:TS'):TS':=fun N Γ=>∃ Wv:Nat->Sts->Prop,(∃ m,Wv m Γ)/\∀ m Γ,Wv m Γ->c Γ fun b Γ1=>if b=true then tb { N with nx:=fun Γ2=>∃ m',m'<m/\Wv m' Γ2,ct:=fun Γ2=>∃ m',m'<m/\Wv m' Γ2,bk:=N.nx } Γ1 else N.nx Γ1
theorem zjd {c:Expr} {body:List Stmt} {tc:TT'} {tb:TS'} (hc:PT' X c tc) (hb:PSs' X body tb) (hp:PassesOwn (model X.prog X.w) X.A X.env X.xe:=by exact PassesOwn.never):PS' X (.While c body [] pos) (ziQ tc tb):=by
 refine ⟨PS.weak (zkZ hp hc.h hb.h) ?_⟩
 rintro N2 σ H ⟨W,Hi,Γ,N,gd,⟨Wv,⟨m0,w0⟩,turn⟩,l⟩
 refine ⟨fun m σ' H'=>∃ Hi' Γ',zaM Hi Hi'/\Good X.K X.N.length W Hi' Γ' σ' H'/\Wv m Γ',⟨m0,Hi,Γ,zaM.refl _,gd,w0⟩,?_⟩
 rintro m σ' H' ⟨Hi',Γ',s1,g1,w1⟩
 refine ⟨W,Hi',Γ',_,g1,turn m Γ' w1,?_⟩; intro k H1 Hi1 Γ1 s2 g2 q
 cases k with
 | false=>exact l.nx σ' H1 Hi1 Γ1 (s1.trans s2) g2 q
 | true =>
  refine ⟨fun σ3 H3=>∃ m',m'<m/\∃ Hi3 Γ3,zaM Hi Hi3/\Good X.K X.N.length W Hi3 Γ3 σ3 H3/\Wv m' Γ3,fun σ3 H3 z=>z,W,Hi1,Γ1,_,g2,q,?_⟩
  refine ⟨fun σ5 H5 Hi5 Γ5 s5 g5 ⟨m',hm,q5⟩=>⟨m',hm,Hi5,Γ5,s1.trans (s2.trans s5),g5,q5⟩,fun σ5 H5 Hi5 Γ5 s5 g5 q5=>l.nx σ5 H5 Hi5 Γ5 (s1.trans (s2.trans s5)) g5 q5,fun σ5 H5 Hi5 Γ5 s5 g5 ⟨m',hm,q5⟩=>⟨m',hm,Hi5,Γ5,s1.trans (s2.trans s5),g5,q5⟩,fun v σ5 H5 Hi5 Γ5 r s5 g5 ro q5=>l.rt v σ5 H5 Hi5 Γ5 r (s1.trans (s2.trans s5)) g5 ro q5⟩
theorem zlR {K:W.Frag} {Hi:Hp} {a:Addr} {vs:List V} {ds:List D} (h:SqL K Hi a vs) (r:zbI K Hi vs ds):ItD K Hi (Itl K a) ds:=by
 intro Hi' H' s1 s2
 have hq:SqL K H' a vs:=zaF (s1.trans s2.sub) h
 refine ⟨fun i d e=>?_,vs,hq,by rw [zl r]; exact yF _⟩
 obtain ⟨v,e1,e2⟩:=zaS r e; refine ⟨⟨vs,v,hq,e1⟩,?_⟩
 rintro x H'' ⟨rfl,y⟩
 have:=y vs hq
 rw [e1] at this; cases this; exact ⟨Hi',Ext.refl s2,e2.mono s1⟩
theorem znY {K:W.Frag} {Hi:Hp} {a:Addr} {vs:List V} {ds:List D} (h:SqT K Hi a vs) (r:zbI K Hi vs ds):ItD K Hi (Itt K a) ds:=by
 intro Hi' H' s1 s2
 have hq:SqT K H' a vs:=zaE (s1.trans s2.sub) h
 refine ⟨fun i d e=>?_,vs,hq,by rw [zl r]; exact yF _⟩
 obtain ⟨v,e1,e2⟩:=zaS r e; refine ⟨⟨vs,v,hq,e1⟩,?_⟩
 rintro x H'' ⟨rfl,y⟩
 have:=y vs hq
 rw [e1] at this; cases this; exact ⟨Hi',Ext.refl s2,e2.mono s1⟩
theorem znZ {K:W.Frag} {Hi:Hp} (l:List Nat):ItD K Hi (Its l) (l.map fun c=>.str [c]):=by
 intro Hi' H' s1 s2
 refine ⟨fun i d e=>?_,by rw [yD]; rfl⟩
 rw [yH] at e
 cases hc:l[i]? with
 | none=>rw [hc] at e; cases e
 | some c =>
  rw [hc] at e; cases e; refine ⟨(yG.mp hc).1,?_⟩
  rintro x H'' ⟨rfl,c',e',rfl⟩
  rw [hc] at e'; cases e'; exact ⟨Hi',Ext.refl s2,.str [c]⟩
theorem zn0 {K:W.Frag} {Hi:Hp} (lo:Int) (n:Nat):ItD K Hi (Itr lo n) ((List.range n).map fun k=>.int (lo+(k:Nat))):=by
 intro Hi' H' s1 s2
 refine ⟨fun i d e=>?_,by rw [yD,List.length_range]; exact yF _⟩
 rw [yH] at e
 cases hc:(List.range n)[i]? with
 | none=>rw [hc] at e; cases e
 | some c =>
  rw [hc] at e; cases e
  have hi:i<n:=by
   have:=(yG.mp hc).1
   rwa [List.length_range] at this
  have ec:c=i:=by
   rw [List.getElem?_range hi] at hc; exact (Option.some.inj hc).symm
  subst ec; refine ⟨hi,?_⟩
  rintro x H'' ⟨rfl,rfl⟩
  exact ⟨Hi',Ext.refl s2,.int _⟩
def zoJ:D->Option (List D)
 | .lst ds=>some ds
 | .tup ds=>some ds
 | .str l=>some (l.map fun c=>.str [c])
 | _=>none
def zax (t:TE'):TI':=fun Γ Q=>t Γ fun d Γ1=>∃ ds,zoJ d=some ds/\Q ds Γ1
theorem zno {l tg:Expr} {tl:TE} (hl:PE X l tl):PI X tg l (fun σ H R=>tl σ H fun x H1=>(∃ a,x=.ref a/\(∃ xs,SqL X.K H1 a xs)/\R (Itl X.K a) H1)\/(∃ a,x=.ref a/\(∃ xs,SqT X.K H1 a xs)/\R (Itt X.K a) H1)\/(∃ z,x=.str z/\R (Its z.cps.toList) H1)):=by
 intro pins s σ H R I h
 refine thn (hl pins s σ H _ I h) fun v s1 ⟨x,H1,I1,r1,q1⟩=>?_
 have fin:∀ b ∈ [s1.heap.objs.size],zfL X pins H1 b:=fun b hb=>by
  have e:b=s1.heap.objs.size:=by simpa using hb
  subst e; exact I1.fpOk (yF _) (I1.hok.fresh (yF _))
 rcases q1 with ⟨a,rfl,⟨xs,hq⟩,q⟩ | ⟨a,rfl,⟨xs,hq⟩,q⟩ | ⟨z,rfl,q⟩
 ·cases r1
  obtain ⟨its,rv,p,hz⟩:=I1.list hq; refine wpAny_pyIter_list p.isList ?_
  exact ⟨s1.heap.objs.size,[s1.heap.objs.size],_,_,H1,rfl,I1.kept (t':=s1.toks) fun b o e=>yB _ e,ziM a _,⟨_,yK _ rfl,rfl,rfl⟩,fin,q⟩
 ·cases r1
  obtain ⟨its,rv,p,hz⟩:=I1.tuple hq
  refine wpAny_pyIter_tuple (show s1.heap.IsTuple a its.toArray from p) ?_
  exact ⟨s1.heap.objs.size,[s1.heap.objs.size],_,_,H1,rfl,I1.kept (t':=s1.toks) fun b o e=>yB _ e,zh3 a _,⟨_,yK _ rfl,rfl,rfl⟩,fin,q⟩
 ·obtain ⟨t,rfl⟩:=r1
  cases ha:z.cps.all (·<128)
  ·refine wpAny_pyIter_wide ha ?_
   exact ⟨s1.heap.objs.size,[s1.heap.objs.size],_,_,H1,rfl,I1.kept (t':=s1.toks) fun b o e=>yB _ e,zhj z t _ (.inr rfl),⟨_,yK _ rfl,rfl,rfl⟩,fin,q⟩
  ·refine wpAny_pyIter_ascii ha ?_
   exact ⟨s1.heap.objs.size,[s1.heap.objs.size],_,_,H1,rfl,I1.kept (t':=s1.toks) fun b o e=>yB _ e,zhj z t _ (.inl rfl),⟨_,yK _ rfl,rfl,rfl⟩,fin,q⟩
theorem zdi {l tg:Expr} {t:TE'} (hl:PE' X l t):PI' X tg l (zax t):=by
 refine ⟨PI.weak (zno hl.h) ?_⟩
 rintro σ H R ⟨W,Hi,Γ,Q',g,h,fin⟩
 refine ⟨W,Hi,Γ,_,g,h,?_⟩
 rintro v H1 ⟨Hi1,d,Γ1,s1,g1,den,ds,e,q⟩
 cases d with
 | lst es =>
  cases e; obtain ⟨a,vs,rfl,h1,h2⟩:=den.lstI; exact .inl ⟨a,rfl,⟨vs,zaF g1.sub h1⟩,fin _ H1 Hi1 Γ1 _ s1 g1 (zlR h1 h2) q⟩
 | tup es =>
  cases e; obtain ⟨a,vs,rfl,h1,h2⟩:=den.tupI; exact .inr (.inl ⟨a,rfl,⟨vs,zaE g1.sub h1⟩,fin _ H1 Hi1 Γ1 _ s1 g1 (znY h1 h2) q⟩)
 | str l =>
  cases e; refine .inr (.inr ⟨_,den.strI,?_⟩); rw [zaN]; exact fin _ H1 Hi1 Γ1 _ s1 g1 (znZ l) q
 | _=>cases e
def zM (t:TA'):TI':=fun Γ Q=>t Γ fun ds Γ1=>∃ j:Int,ds=[.int j]/\-(2 ^ 62)<=j/\j<2 ^ 62/\Q ((List.range j.toNat).map fun k=>.int (0+(k:Nat))) Γ1
theorem zdC {K:W.Frag} {H:Hp} {vs:List V} {d:D} (h:zbI K H vs [d]):∃ v,vs=[v]/\Den K H v d:=by
 cases h with
 | cons r t=>cases t; exact ⟨_,rfl,r⟩
theorem ziy {K:W.Frag} {H:Hp} {vs:List V} {d e:D} (h:zbI K H vs [d,e]):∃ v w,vs=[v,w]/\Den K H v d/\Den K H w e:=by
 cases h with
 | cons r t =>
  obtain ⟨w,rfl,q⟩:=zdC t; exact ⟨_,w,rfl,r,q⟩
theorem zdQ {a tg:Expr} {t:TA'} {p pos:Pos} (hm:X.mg "range"=none) (ha:PA' X [a] t) (hg:Gl X "range":=by rfl):PI' X tg (.Call (.Name "range" p) [a] [] pos) (zM t):=by
 refine ⟨PI.weak (zjg hg hm ha.pa (zaP (zaL ha.pl).1)) ?_⟩
 rintro σ H R ⟨W,Hi,Γ,Q',g,h,fin⟩
 refine ⟨W,Hi,Γ,_,g,h,?_⟩
 rintro vs H1 Hi1 Γ1 ds s1 g1 dl ⟨j,rfl,b1,b2,q⟩
 obtain ⟨v,rfl,den⟩:=zdC dl; rw [den.intI]; exact ⟨j,rfl,b1,b2,fin _ H1 Hi1 Γ1 _ s1 g1 (zn0 0 _) q⟩
def zku (src:List (Option Nat)) (Γ:Sts):Sts:=src.map fun o=>match o with
 | none=>.emp
 | some i=>match Γ[i]? with
  | some (.val d)=>.val d
  | _=>.emp
def voS:Slot->Slot
 | .val d=>.val d
 | _=>.emp
def vo (Γ:Sts):Sts:=Γ.map voS
def zdX (g:TG') (tc:TT') (te:TE') (Q:List D->Prop):List D->List D->Sts->Prop
 | [],acc,_=>Q acc
 | d :: ds,acc,Γ=>g d Γ fun Γ2=>tc Γ2 fun b Γ3=>if b=true then te Γ3 fun y Γ4=>zdX g tc te Q ds (acc ++ [y]) (vo Γ4) else zdX g tc te Q ds acc (vo Γ3)
def zE (ti:TI') (src:List (Option Nat)) (g:TG') (tc:TT') (te:TE'):TO':=fun Γ Q=>ti Γ fun ds Γ1=>ds.length<=sizeLine/\zdX g tc te (fun acc=>Q (.lst acc) Γ1) ds [] (zku src Γ1)
structure PTs' (X:Cx) (ifs:List Expr) (t:TT'):Prop where
 h:PTs X ifs (zok X.K X.N.length t)
def za3:TT':=fun Γ Q=>Q true Γ
theorem zc2:PTs' X [] za3:=by
 refine ⟨?_⟩; intro pins s σ H Q I h; obtain ⟨W,Hi,Γ,Q',g,h,fin⟩:=h; exact znb pins s σ H Q I (fin true H Hi Γ (zaM.refl _) g h)
theorem zfq {c:Expr} {t:TT'} (h:PT' X c t):PTs' X [c] t:=⟨zna h.h⟩
theorem zcP {elt tg iter:Expr} {ifs:List Expr} {sc fsc:Scope} {ti:TI'} {g:TG'} {tc:TT'} {te:TE'} {N N':List Str} {src:List (Option Nat)} (B:Blk N N' src fsc sc) (hi:PI' X tg iter ti)
  (hg:∀ cl C s H fp pn,PG' (blk X N' sc cl C s H fp pn) tg g) (ht:∀ cl C s H fp pn,PTs' (blk X N' sc cl C s H fp pn) ifs tc) (he:∀ cl C s H fp pn,PE' (blk X N' sc cl C s H fp pn) elt te)
  (hx:X.xe=(fun _ _=>False):=by rfl) (hc:X.calm=true:=by rfl) (hN:X.N=N:=by rfl) (hs:X.env.scope=fsc:=by rfl)
  (hf:∀ x,foldedSetIterable iter X.env x=pure x:=by intro _; rfl):PO' X (.ListComp elt [⟨tg,iter,ifs,0⟩] sc pos) (zE ti src g tc te):=by
 refine ⟨PE.weak (znx (g:=gOf X.K N'.length g) (tc:=zok X.K N'.length tc) (te:=tOf X.K N'.length te) B hi.h (fun a b c d e f=>(hg a b c d e f).h) (fun a b c d e f=>(ht a b c d e f).h) (fun a b c d e f=>(he a b c d e f).h) hx hc hN hs hf) ?_⟩
 rintro σ H Q2 ⟨W,Hi,Γ,Q,gd,h,fin⟩
 refine ⟨W,Hi,Γ,_,gd,h,?_⟩
 rintro J H1 Hi1 Γ1 ds s1 g1 itd ⟨hlen,q⟩
 intro A hA
 -- the state between two turns
 have hn':src.length=N'.length:=B.len
 refine zgt (n:=ds.length) (fun i σ' H'=>∃ Hi' acc vs Γ',zaM Hi1 Hi'/\Fz Hi' H'/\(∀ b o,H1 b=some o->H' b=some o)/\(∀ b o,H1 b=some o->Hi' b=Hi1 b)/\Hi' A=none/\H' A=some (.lst vs)/\zbI X.K Hi' vs acc/\vs.length<=i/\σ'.length=N'.length /\
   (∀ (j:Nat) s,Γ'[j]?=some s->s=.emp\/∃ d,s=.val d/\∃ v,σ'[j]?=some (some v)/\Den X.K Hi' v d)/\zdX g tc te (fun acc=>Q (.lst acc) Γ1) (ds.drop i) acc Γ') ?_ ?_ ?_
 ·refine ⟨Hi1,[],[],zku src Γ1,zaM.refl _,(Ext.newO g1.fz hA _ (fun _ z=>by cases z)).fz,fun b o e=>zaB hA _ b o e,fun b o e=>rfl,g1.sub.free hA,zw,.nil,yi _,?_,fun j s e=>?_,by simpa using q⟩
  ·unfold zkO; rw [yD,hn']
  ·unfold zku at e
   rw [yH] at e
   cases hj:src[j]? with
   | none=>rw [hj] at e; cases e
   | some o =>
    rw [hj] at e
    cases o with
    | none=>cases e; exact .inl rfl
    | some i =>
     have e':(match Γ1[i]? with | some (.val d)=>Slot.val d | _=>.emp)=s:=Option.some.inj e
     cases hΓ:Γ1[i]? with
     | none=>rw [hΓ] at e'; exact .inl e'.symm
     | some sl =>
      rw [hΓ] at e'
      cases sl with
      | val d =>
       refine .inr ⟨d,e'.symm,?_⟩; obtain ⟨v,h1,h2⟩:=g1.val i d hΓ; refine ⟨v,?_,h2⟩; unfold zkO; rw [yH,hj]
       show some ((some i).bind fun i=>(σ[i]?).join)=some (some v)
       show some ((σ[i]?).join)=some (some v)
       rw [h1]; rfl
      | emp=>exact .inl e'.symm
      | own o=>exact .inl e'.symm
      | bk _ _ _=>exact .inl e'.symm
 ·rintro i σ' H' hlt ⟨Hi',acc,vs,Γ',s2,s3,k1,k2,hA1,hA2,dl,hv,hl,hsl,q⟩
  have hd:ds.drop i=ds[i] :: ds.drop (i+1):=YF hlt
  rw [hd] at q; obtain ⟨go,yl⟩:=(itd Hi' H' s2 s3).1 i ds[i] (yC hlt)
  refine ⟨go,fun x H'' y=>?_⟩
  obtain ⟨Hi'',ex,den⟩:=yl x H'' y
  have gb:Good X.K N'.length ⟨H'',Hi'',[]⟩ Hi'' Γ' σ' H'':=by
   refine ⟨hl,ex.fz,fun b o e _=>e,fun b o e=>⟨o,e⟩,fun b o e=>rfl,fun j d e=>?_,fun j o e=>?_,fun j k o o' b e=>?_,fun j d b xs e=>?_⟩
   ·rcases hsl j _ e with z | ⟨d',z,v,h1,h2⟩
    ·cases z
    ·cases z; exact ⟨v,h1,h2.mono ex.hi⟩
   ·rcases hsl j _ e with z | ⟨d',z,_⟩ <;> cases z
   ·rcases hsl j _ e with z | ⟨d',z,_⟩ <;> cases z
   ·rcases hsl j _ e with z | ⟨d',z,_⟩ <;> cases z
  refine ⟨⟨H'',Hi'',[]⟩,Hi'',Γ',ds[i],_,gb,den,q,?_⟩; intro σ3 H3 Hi3 Γ3 s4 g3 q3; refine ⟨⟨H'',Hi'',[]⟩,Hi3,Γ3,_,g3,q3,?_⟩; intro b H4 Hi4 Γ4 s5 g4 q4
  -- what the state is behind a turn
  have back:∀ {Γ5:Sts} {Hi5 H5:Hp},zaM Hi4 Hi5->Good X.K N'.length ⟨H'',Hi'',[]⟩ Hi5 Γ5 σ3 H5 ->
    zaM Hi1 Hi5/\Fz Hi5 H5/\(∀ b o,H1 b=some o->H5 b=some o)/\(∀ b o,H1 b=some o->Hi5 b=Hi1 b)/\Hi5 A=none/\H5 A=some (.lst vs)/\zaM Hi' Hi5:=fun {Γ5 Hi5 H5} s6 g5=>by
   have sx:zaM Hi' Hi5:=ex.hi.trans (s4.trans (s5.trans s6))
   have hA3:H'' A=some (.lst vs):=ex.h _ _ hA2
   refine ⟨s2.trans sx,g5.fz,fun b o e=>g5.keep b o (ex.h _ _ (k1 b o e)) (by simp),fun b o e=>?_,?_,g5.keep A _ hA3 (by simp),sx⟩
   ·rw [g5.fro b o (ex.h _ _ (k1 b o e))]
    show Hi'' b=Hi1 b
    rw [ex.fro b o (k1 b o e),k2 b o e]
   ·rw [g5.fro A _ hA3]
    show Hi'' A=none
    rw [ex.fro A _ hA2,hA1]
  have sl:∀ {Γ5:Sts} {Hi5 H5:Hp},Good X.K N'.length ⟨H'',Hi'',[]⟩ Hi5 Γ5 σ3 H5->∀ (j:Nat) s,(vo Γ5)[j]?=some s->s=.emp\/∃ d,s=.val d/\∃ v,σ3[j]?=some (some v)/\Den X.K Hi5 v d:=fun {Γ5 Hi5 H5} g5 j s e=>by
   unfold vo at e; rw [yH] at e
   cases hj:Γ5[j]? with
   | none=>rw [hj] at e; cases e
   | some sl =>
    rw [hj] at e
    cases sl with
    | val d =>
     cases e; exact .inr ⟨d,rfl,g5.val j d hj⟩
    | emp=>cases e; exact .inl rfl
    | own o=>cases e; exact .inl rfl
    | bk _ _ _=>cases e; exact .inl rfl
  cases b with
  | false =>
   simp only [YC,if_false] at q4 ⊢; obtain ⟨b1,b2,b3,b4,b5,b6,b7⟩:=back (zaM.refl _) g4
   exact ⟨Hi4,acc,vs,vo Γ4,b1,b2,b3,b4,b5,b6,dl.mono b7,by omega,g4.len,sl g4,q4⟩
  | true =>
   simp only [if_true] at q4 ⊢; refine ⟨⟨H'',Hi'',[]⟩,Hi4,Γ4,_,g4,q4,?_⟩
   rintro y' H5 ⟨Hi5,dy,Γ5,s6,g5,den5,q5⟩
   obtain ⟨b1,b2,b3,b4,b5,b6,b7⟩:=back s6 g5
   refine ⟨vs,b6,by omega,Hi5,acc ++ [dy],vs ++ [y'],vo Γ5,b1,?_,?_,b4,b5,zw,zbg (dl.mono b7) (.cons den5 .nil),by rw [yQ]; simp; omega,g5.len,sl g5,q5⟩
   ·refine ⟨fun b o e=>?_,fun b xs e=>?_⟩
    ·rw [zU (fun z=>by rw [z,b5] at e; cases e)]
     exact b2.sub b o e
    ·by_cases hb:b=A
     ·subst hb; rw [zw] at e; cases e
     ·rw [zU hb] at e; exact b2.tups b xs e
   ·intro b o e
    rw [zU (zaH e hA)]; exact b3 b o e
 ·rintro σ' H' ⟨Hi',acc,vs,Γ',s2,s3,k1,k2,hA1,hA2,dl,hv,hl,hsl,q⟩
  refine ⟨(itd Hi' H' s2 s3).2,?_⟩; rw [YN (yF _)] at q
  have ex:Ext Hi1 H1 Hi' H':=⟨s2,k1,s3,k2⟩
  refine fin A H' Hi' Γ1 (.lst acc) (s1.trans s2) (g1.ext ex) ⟨hA1,?_,⟨fun j o' e z=>?_,fun j d xs e=>?_⟩,vs,hA2,dl⟩ q
  ·cases hq:W.H₀ A with
   | none=>rfl
   | some w =>
    obtain ⟨w',hw⟩:=g1.there A w hq
    rw [hA] at hw; cases hw
  ·obtain ⟨a,h1,_,_,h4⟩:=g1.own j o' e
   rw [z] at h1; cases h1; obtain ⟨w,hw⟩:=h4.there
   rw [hA] at hw; cases hw
  ·obtain ⟨w,hw⟩:=(g1.bk j d A xs e).at_.there
   rw [hA] at hw; cases hw
abbrev Sp':=List D->(Res->Prop)->Prop
def zhr (K:W.Frag) (sp:Sp'):Sp:=fun vs H Q2 _=>∃ Hi ds Q,Fz Hi H/\zbI K Hi vs ds/\sp ds Q/\∀ Hi' H' v r,Ext Hi H Hi' H'->zp6 K H Hi' H' v r->Q r->Q2 v H'
def zy (sp:Sp') (t:TA'):TE':=fun Γ Q=>t Γ fun ds Γ1=>sp ds fun r=>Q r.toD Γ1
def zu (sp:Sp') (t:TA'):TO':=fun Γ Q=>t Γ fun ds Γ1=>sp ds fun r=>∃ o,r=.own o/\Q o Γ1
variable {k:Nat} {f:Addr} {fd:FuncData} {ps:List Str} {sp:Sp'} {x:Str} {p:Pos} {e:Expr} {es:List Expr} {t:TA'}
theorem zb6 {K:W.Frag} {n:Nat} {W:Wd} {Hi H Hi' H':Hp} {Γ:Sts} {σ:St} {a:Addr} {o:OD} (g:Good K n W Hi Γ σ H) (ex:Ext Hi H Hi' H') (h1:Hi' a=none) (h2:H a=none) (h3:zco K Hi' H' a o):New K n W Hi' Γ σ H' a o:=by
 refine ⟨h1,?_,⟨fun j o' e z=>?_,fun j d xs e=>?_⟩,h3⟩
 ·cases q:W.H₀ a with
  | none=>rfl
  | some w =>
   obtain ⟨w',hw⟩:=g.there a w q
   rw [h2] at hw; cases hw
 ·obtain ⟨b,q1,_,_,q4⟩:=g.own j o' e
  rw [z] at q1; cases q1; obtain ⟨w,hw⟩:=q4.there
  rw [h2] at hw; cases hw
 ·obtain ⟨w,hw⟩:=(g.bk j d a xs e).at_.there
  rw [h2] at hw; cases hw
theorem zlh (F:FnOk X.prog X.w X.K X.mg X.base CX0 k f fd ps (zhr X.K sp)) (hr:Room k X.A) (hm:X.mg x=some (.ref f)) (hk:W.keepIn X.K (.ref f)=true) (hb:zd4 X.K fd ps [])
  (ha:PA' X (e :: es) t) (hg:Gl X x:=by rfl) (hdb:(x == ("__debug__":Str))=false:=by decide) :
  PE' X (.Call (.Name x p) (e :: es) [] pos) (zy sp t):=by
 refine ⟨PE.weak (znz (E:=E0) (dvs:=[]) F hr hg hm hk hb .nil zrg ha.pa hdb (zaP (zaL ha.pl).1) (zaY (zaL ha.pl).2)) ?_⟩
 rintro σ H Q ⟨W,Hi,Γ,Q',g,h,fin⟩
 refine ⟨W,Hi,Γ,_,g,h,?_⟩; intro vs H1 Hi1 Γ1 ds s1 g1 dl q; rw [yf]; refine ⟨Hi1,ds,_,g1.fz,dl,q,?_⟩; intro Hi2 H2 v r ex ro q2
 cases r with
 | val d=>exact fin v H2 ⟨Hi2,d,Γ1,s1.trans ex.hi,g1.ext ex,ro,q2⟩
 | own o =>
  obtain ⟨a,rfl,h1,h2,h3⟩:=ro; have nw:=zb6 g1 ex h1 h2 h3; obtain ⟨u,hu⟩:=h3.there; exact fin _ H2 ⟨upd Hi2 a u,_,Γ1,s1.trans (ex.hi.trans (zaB h1 u)),(g1.ext ex).freezeA nw.hi nw.h0 nw.ne hu,h3.den h1 hu,q2⟩
 | bk d o =>
  obtain ⟨b,dv,hol,h1,h2,h3⟩:=ro; have nw:=zb6 g1 ex h1 h2 h3; obtain ⟨u,hu⟩:=h3.there; exact fin _ H2 ⟨upd Hi2 b u,_,Γ1,s1.trans (ex.hi.trans (zaB h1 u)),(g1.ext ex).freezeA nw.hi nw.h0 nw.ne hu,hol b _ v o (h3.den h1 hu) (dv.mono (zaB h1 u)),q2⟩
end
def zbn (N:List Str) (ds:List D):Sts:=ds.map .val ++ List.replicate (N.length-ds.length) .emp
section
variable {P:Program} {w:World} {K:W.Frag} {mg:Str->Option Value} {base:Heap}
theorem Fun.ok' {x qual:Str} {st:Stmt} {f:Addr} {fd:FuncData} {N ps:List Str} {k:Nat} {sp:Sp'} (F:Fun K x qual st f fd) (S:FnScope N ps (zm st)) (len:∀ ds Q,sp ds Q->ds.length=ps.length)
  (hbody:∀ (cdv:Value) (A:Around) (outer:List Env) (s:Shared) (H:Hp) (E:XK),Room k (A.deeper (PyProof.Rows.envOfC qual (zm st) s.heap.objs.size f cdv))->∀ ds Q,sp ds Q ->
   ∃ t,PSs' (zd9 CX0 P w K mg base N qual (zm st) f cdv A outer s H E).nox (zaU st) t/\t { nx:=fun _=>Q (.val .non),rt:=fun r _=>Q r } (zbn N ds)):FnOk P w K mg base CX0 (k+1) f fd ps (zhr K sp):=by
 refine F.ok S (fun vs H Q E h=>?_) (fun cdv A outer s H vs Q E hr h=>?_)
 ·obtain ⟨Hi,ds,Q',_,dl,h,_⟩:=h
  rw [zl dl]; exact len ds Q' h
 obtain ⟨Hi,ds,Q',sb,dl,h,fin⟩:=h; obtain ⟨t,h1,h2⟩:=hbody cdv A outer s H E hr ds Q' h
 have hlen:ds.length=ps.length:=len ds Q' h
 have hpl:ps.length<=N.length:=by have:=yc List.length S.pre; rw [YH] at this; omega
 have hvl:=zl dl; refine ⟨_,h1.h,⟨H,Hi,[]⟩,Hi,zbn N ds,_,?_,h2,?_⟩
 ·refine ⟨?_,sb,fun b o e _=>e,fun b o e=>⟨o,e⟩,fun b o e=>rfl,fun j d e=>?_,fun j o e=>?_,fun j k o o' b e=>?_,fun j d b xs e=>?_⟩
  ·unfold L2.start
   show _=N.length
   rw [yQ,yD,List.length_replicate]; omega
  all_goals
   unfold zbn at e
   by_cases hj:j<ds.length
   ·rw [YE (by simpa using hj),yH,yC hj] at e
    try cases e
    try
     obtain ⟨v,e1,e2⟩:=zaS dl (yC hj); refine ⟨v,?_,e2⟩; unfold L2.start
     rw [YE (by rw [yD]; omega),yH,e1]
     rfl
   ·rw [List.getElem?_append_right (by simpa using hj),List.getElem?_replicate] at e
    split at e <;> cases e
 ·refine ⟨fun σ' H' Hi' Γ' s1 g1 q=>?_,fun _ _ _ _ _ _ q=>q.elim,fun _ _ _ _ _ _ q=>q.elim,fun v σ' H' Hi' Γ' r s1 g1 ro q=>?_⟩
  ·exact fin Hi' H' .non (.val .non) ⟨s1,fun b o e=>g1.keep b o e (by simp),g1.fz,fun b o e=>g1.fro b o e⟩ .non q
  ·exact fin Hi' H' v r ⟨s1,fun b o e=>g1.keep b o e (by simp),g1.fz,fun b o e=>g1.fro b o e⟩ ro q
end
end PL
namespace L2
open PySem PySem.Spec PyProof.Rows
section
variable {X:Cx}
theorem zl4 {vs:List Value} {bs:List Bool} (r:zaT (bs.map V.bl) vs) {i:Nat} {v:Value} (h:vs[i]?=some v):v=.bool (bs.getD i false):=by
 obtain ⟨b,hb⟩:∃ b,bs[i]?=some b:=by
  have hl:=r.length; rw [yD] at hl
  have hi:i<bs.length:=by rw [hl]; exact (yG.mp h).1
  exact ⟨bs[i],yC hi⟩
 obtain ⟨u,e1,e2⟩:=zaT.get (i:=i) (x:=.bl b) r (by rw [yH,hb]; rfl)
 rw [h] at e1; cases e1; cases e2; rw [List.getD_eq_getElem?_getD,hb]; rfl
theorem zkh (bs:List Bool):((List.range bs.length).all fun i=>bs.getD i false)=bs.all id:=by
 rw [Bool.eq_iff_iff,yp,yp]; constructor
 ·intro h b hb
  obtain ⟨i,hi,e⟩:=List.getElem_of_mem hb
  have:=h i (List.mem_range.mpr hi)
  rw [List.getD_eq_getElem?_getD,yC hi,e] at this; exact this
 ·intro h i hi
  have hi':=List.mem_range.mp hi; rw [List.getD_eq_getElem?_getD,yC hi']; exact h _ (YZ hi')
theorem ziA {pins:List (Addr × Obj)} {σ:St} {H:Hp} {s:Shared} {a:Addr} {bs:List Bool} (hc:X.calm=true) (I:Inv X pins σ H s) (hq:SqL X.K H a (bs.map V.bl)) {E:Value->Shared->Prop} (R:Bool->Bool->Prop) (f:(Nat->Bool)->List Nat->Bool) {Q:Value->Shared->Prop}
  (fin:∀ h' tk,Inv X pins σ H { s with heap:=h',toks:=tk }->Q (.bool (f (fun i=>bs.getD i false) (List.range bs.length))) { s with heap:=h',toks:=tk }) :
  wpAny (model X.prog X.w) X.A.in1 (pyIter (.ref a)) (fun it s₂=>∃ I fp wr n P St tr,it=.ref I/\Walks X.prog X.w X.A.in1 I fp wr n P St/\St 0 s₂.heap/\TruthOf X.prog X.w X.A.in1 P tr /\
   ∀ h' tk,(∀ b o,b ∉ wr->s₂.heap.get? b=some o->h'.get? b=some o)->Q (.bool (f tr (List.range n))) { s₂ with heap:=h',toks:=tk }) E s:=by
 obtain ⟨its,rv,p,hz⟩:=I.list hq
 have hlen:its.length=bs.length:=by have:=rv.length; rw [yD] at this; exact this.symm
 have hne:a≠s.heap.objs.size:=by
  obtain ⟨o,ho,_⟩:=p.isList; exact yS (yJ ho)
 refine wpAny_pyIter_list p.isList ?_
 refine ⟨s.heap.objs.size,_,_,_,_,_,fun i=>bs.getD i false,rfl,Walks.list (show X.A.in1.handled=none from I.ok.hd hc) s.heap.objs.size a hne its.toArray,⟨⟨_,yK _ rfl,rfl,rfl⟩,p.isList.at fun o e=>yB _ e⟩,?_,?_⟩
 ·intro i v s' Q' E' hP hQ
  have hv:its[i]?=some v:=by simpa using hP
  rw [zl4 rv hv]; exact YV hQ
 ·intro h' tk kp
  have z:=fin h' tk (I.kept (t':=tk) fun b o e=>kp b o (by simp; exact yS (yJ e)) (yB _ e))
  have e:its.toArray.size=bs.length:=by simpa using hlen
  rw [e]; exact z
theorem zeV (hc:X.calm=true):zcy X (.builtin "all") (fun xs H Q=>∃ (a:Addr) (bs:List Bool),xs=[.ref a]/\SqL X.K H a (bs.map V.bl)/\Q (.bl (bs.all id)) H):=by
 intro pins s σ H xs us Q I r h; obtain ⟨a,bs,rfl,hq,q⟩:=h; obtain ⟨u,rfl,rx⟩:=zc6 r; cases rx
 refine PySem.call_all_walk (ziA hc I hq (fun _ _=>True) (fun tr l=>l.all tr) fun h' tk I'=>⟨.bl _,H,I',rfl,?_⟩)
 rw [zkh]; exact q
theorem zi2 (r:Addr) (a b:Int) (t u v:Tok) (i:Int) (t':Tok):Meets (Builtin.«range.__contains__» ⟨[.ref r,.int i t'],[]⟩) (fun _ R s=>s.heap.get? r=some { cls:=.type "range",dict:=none,data:=.fields #[.int a t,.int b u,.int 1 v],slots:=#[] } /\
  R (.ok (.ret (.bool (Builtin.Range.rangePlace? a b 1 i).isSome))) s) :=
 .of_wp fun prog w A R s h=>by obtain ⟨hp,g,d,tk,os⟩:=s; obtain ⟨hl,h⟩:=h; wp_walk; exact ⟨_,rfl,h⟩
theorem zil (a b i:Int):(Builtin.Range.rangePlace? a b 1 i).isSome=decide (a<=i/\i<b):=by
 unfold Builtin.Range.rangePlace?
 have h1:(1:Int) > 0:=by decide
 have h2:(i-a) % 1=0:=Int.emod_one _
 simp only [h1,if_true,h2,beq_self_eq_true,Bool.and_true]
 by_cases h:a<=i/\i<b
 ·have e:(decide (a<=i) && decide (i<b))=true:=by simp [h.1,h.2]
  rw [yP e,yZ h]; rfl
 ·have e:¬ (decide (a<=i) && decide (i<b))=true:=by
   intro z; simp only [yd,YA] at z; exact h z
  rw [yN e,yR h]; rfl
def zsJ (neg:Bool):R2:=fun x y H Q=>∃ i p lo hi,x=.int i/\y=.ref p/\Rd H p (.rng lo hi)/\Q (.bl (if neg then !decide (lo<=i/\i<hi) else decide (lo<=i/\i<hi))) H
theorem zf5:OpR X (compareOp .NotIn) (zsJ true):=by
 intro pins s σ H x y v u Q I rx ry h; obtain ⟨i,p,lo,hi,rfl,rfl,hp,q⟩:=h; obtain ⟨t,rfl⟩:=rx; cases ry; obtain ⟨t1,t2,t3,e⟩:=hp.ok I.hok; refine PySem.SeqRoads2.notIn_meets ⟨_,e,rfl⟩ F.slot_range_contains F.entry_range_contains (F.args_range_contains_2 _ _) (zi2 p lo hi t1 t2 t3 i t) ⟨e,_,rfl,⟨.bl _,H,I,rfl,?_⟩⟩; rw [zil]; exact q
def zp8 (K:W.Frag) (H:Hp):V->String->Prop
 | .non,t=>t="NoneType"
 | .bl _,t=>t="bool"
 | .int _,t=>t="int"
 | .str _,t=>t="str"
 | .ref a,t=>(t="list"/\∃ xs,SqL K H a xs)\/(t="tuple"/\∃ xs,SqT K H a xs)\/(t="dict"/\((∃ kvs,Rd H a (.dK kvs))\/∃ kvs,Rd H a (.dT kvs)))
 | _,_=>False
end
end L2
namespace PL
open PySem L2
section
variable {X:Cx} {K:W.Frag}
theorem zex {g:Int->Int->V} (g':Int->Int->D) (hg:∀ i j Hi,Den K Hi (g i j) (g' i j)):zfK K (rI0 g) (fun x y Q=>∃ i j,x=.int i/\y=.int j/\Q (g' i j)):=by
 rintro Hi H x y dx dy Q Q2 s d1 d2 ⟨i,j,rfl,rfl,q⟩ fin
 exact ⟨i,j,d1.intI,d2.intI,fin Hi H _ _ (Ext.refl s) (hg i j Hi) q⟩
theorem zjA {C:Int->Int->Prop} {g:Int->Int->V} (g':Int->Int->D) (hg:∀ i j Hi,Den K Hi (g i j) (g' i j)):zfK K (rI C g) (fun x y Q=>∃ i j,x=.int i/\y=.int j/\C i j/\Q (g' i j)):=by
 rintro Hi H x y dx dy Q Q2 s d1 d2 ⟨i,j,rfl,rfl,c,q⟩ fin
 exact ⟨i,j,d1.intI,d2.intI,c,fin Hi H _ _ (Ext.refl s) (hg i j Hi) q⟩
def zmh (g:Int->Int->D):R2':=fun x y Q=>∃ i j,x=.int i/\y=.int j/\Q (g i j)
def rI' (C:Int->Int->Prop) (g:Int->Int->D):R2':=fun x y Q=>∃ i j,x=.int i/\y=.int j/\C i j/\Q (g i j)
theorem zru:Op2 X (binaryOp .Add) (zmh fun i j=>.int (i+j)):=⟨_,zpo,zex _ fun i j _=>.int _⟩
theorem znG:Op2 X (binaryOp .Sub) (zmh fun i j=>.int (i-j)):=⟨_,zpi,zex _ fun i j _=>.int _⟩
theorem zro:Op2 X (binaryOp .Mult) (rI' zmL fun i j=>.int (i * j)):=⟨_,zpj,zjA _ fun i j _=>.int _⟩
theorem zcj:Op2 X (binaryOp .FloorDiv) (rI' zl8 fun i j=>.int (i / j)):=⟨_,znC,zjA _ fun i j _=>.int _⟩
theorem zcb:Op2 X (binaryOp .Mod) (rI' (fun _ j=>0<j) fun i j=>.int (i % j)):=⟨_,zpk,zjA _ fun i j _=>.int _⟩
theorem zon:Op2 X (compareOp .Lt) (zmh fun i j=>.bl (decide (i<j))):=⟨_,zrj,zex _ fun i j _=>.bl _⟩
theorem zpt:Op2 X (compareOp .LtE) (zmh fun i j=>.bl (decide (i<=j))):=⟨_,zrk,zex _ fun i j _=>.bl _⟩
theorem zsh:Op2 X (compareOp .Gt) (zmh fun i j=>.bl (decide (j<i))):=⟨_,zrl,zex _ fun i j _=>.bl _⟩
def zgU:R2':=fun x y Q=>∃ l m,x=.str l/\y=.str m/\l.length+m.length<=sizeLine/\Q (.str (l ++ m))
theorem zpv:Op2 X (binaryOp .Add) zgU:=⟨_,zim,by
 rintro Hi H x y dx dy Q Q2 s d1 d2 ⟨l,m,rfl,rfl,hl,q⟩ fin
 refine ⟨_,_,d1.strI,d2.strI,by rw [zb3,zb3]; exact hl,?_⟩
 rw [zoG]; exact fin Hi H _ _ (Ext.refl s) (.str _) q⟩
def eqS:D->D->Option Bool
 | .non,.non=>some true
 | .non,.int _=>some false
 | .non,.bl _=>some false
 | .non,.str _=>some false
 | .int _,.non=>some false
 | .bl _,.non=>some false
 | .str _,.non=>some false
 | .int i,.int j=>some (decide (i=j))
 | .bl i,.bl j=>some (decide (i=j))
 | .str i,.str j=>some (decide (i=j))
 | .int _,.str _=>some false
 | .str _,.int _=>some false
 | .bl _,.str _=>some false
 | .str _,.bl _=>some false
 | _,_=>none
inductive Scl (K:W.Frag) (Hi:Hp) (x:V):D->Prop where
 | n (h:x=.non):Scl K Hi x .non
 | b (b:Bool) (h:x=.bl b):Scl K Hi x (.bl b)
 | i (i:Int) (h:x=.int i):Scl K Hi x (.int i)
 | s (l:List Nat) (h:x=.str (st l)):Scl K Hi x (.str l)
theorem zdA {dx dy:D} {b:Bool} (h:eqS dx dy=some b):dx=.non\/(∃ b,dx=.bl b)\/(∃ i,dx=.int i)\/∃ l,dx=.str l:=by
 cases dx with
 | non=>exact .inl rfl
 | bl b=>exact .inr (.inl ⟨b,rfl⟩)
 | int i=>exact .inr (.inr (.inl ⟨i,rfl⟩))
 | str l=>exact .inr (.inr (.inr ⟨l,rfl⟩))
 | _=>cases dy <;> exact nomatch h
theorem zjO (dx dy:D) {b:Bool} (h:eqS dx dy=some b):∃ c,eqS dy dx=some c:=by
 rcases zdA h with rfl | ⟨i,rfl⟩ | ⟨i,rfl⟩ | ⟨i,rfl⟩ <;> cases dy <;> first | exact ⟨_,rfl⟩ | exact nomatch h
theorem Den.scl {Hi:Hp} {x:V} {d:D} (d1:Den K Hi x d) (h:d=.non\/(∃ b,d=.bl b)\/(∃ i,d=.int i)\/∃ l,d=.str l):Scl K Hi x d:=by
 rcases h with rfl | ⟨i,rfl⟩ | ⟨i,rfl⟩ | ⟨i,rfl⟩
 ·exact .n d1.nonI
 ·exact .b _ d1.blI
 ·exact .i _ d1.intI
 ·exact .s _ d1.strI
theorem zmF {Hi:Hp} {x y:V} {dx dy:D} {b:Bool} (d1:Den K Hi x dx) (d2:Den K Hi y dy) (h:eqS dx dy=some b):zm0 x y=true/\decide (x=y)=b:=by
  have s1:=d1.scl (zdA h); have s2:=d2.scl (zdA (zjO _ _ h).choose_spec)
  cases s1 <;> rename_i e1 <;> subst e1 <;> cases s2 <;> rename_i e2 <;> subst e2 <;> first
    | (exact yL (show (none:Option Bool)=some b from h) (fun z=>nomatch z))
    | (refine ⟨rfl,?_⟩
       have h':=Option.some.inj h
       subst h'
       first
         | rfl
         | (exact decide_eq_decide.mpr ⟨fun z=>V.int.inj z,fun z=>yc V.int z⟩)
         | (exact decide_eq_decide.mpr ⟨fun z=>V.bl.inj z,fun z=>yc V.bl z⟩)
         | (exact decide_eq_decide.mpr ⟨fun z=>st_inj (V.str.inj z),fun z=>yc (fun l=>V.str (st l)) z⟩)
         | (exact yR (fun z=>nomatch z)))
def zkT (neg:Bool):R2':=fun x y Q=>∃ c l,x=.str [c]/\y=.str l/\Q (.bl (if neg then !decide (c ∈ l) else decide (c ∈ l)))
theorem zrs:Op2 X (compareOp .In) (zkT false):=⟨_,zjm,by
 rintro Hi H x y dx dy Q Q2 s d1 d2 ⟨c,l,rfl,rfl,q⟩ fin
 refine ⟨_,_,d1.strI,d2.strI,?_⟩; rw [zmD]; exact fin Hi H _ _ (Ext.refl s) (.bl _) q⟩
theorem zlk:Op2 X (compareOp .NotIn) (zkT true):=⟨_,zf3,by
 rintro Hi H x y dx dy Q Q2 s d1 d2 ⟨c,l,rfl,rfl,q⟩ fin
 refine ⟨_,_,d1.strI,d2.strI,?_⟩; rw [zmD]; exact fin Hi H _ _ (Ext.refl s) (.bl _) q⟩
def zkU (neg:Bool):R2':=fun x y Q=>∃ i lo hi,x=.int i/\y=.rng lo hi/\Q (.bl (if neg then !decide (lo<=i/\i<hi) else decide (lo<=i/\i<hi)))
theorem zll:Op2 X (compareOp .NotIn) (zkU true):=⟨_,zf5,by
 rintro Hi H x y dx dy Q Q2 s d1 d2 ⟨i,lo,hi,rfl,rfl,q⟩ fin
 cases d2 with
 | rng h=>exact ⟨i,_,lo,hi,d1.intI,rfl,zdM s.sub h,fin Hi H _ _ (Ext.refl s) (.bl _) q⟩⟩
def zkl:R2':=fun x y Q=>∃ i,y=.int i/\((∃ ds d,x=.lst ds/\atI ds i=some d/\Q d)\/(∃ ds d,x=.tup ds/\atI ds i=some d/\Q d)\/∃ l c,x=.str l/\l.length<=sizeLine/\atI l i=some c/\Q (.str [c]))
theorem zkg {Hi:Hp} {vs:List V} {ds:List D} {i:Int} {d:D} (r:zbI K Hi vs ds) (h:atI ds i=some d):∃ v,atI vs i=some v/\Den K Hi v d:=by
 unfold atI at h ⊢
 rw [zl r]
 cases e:ixN ds.length i with
 | none=>rw [e] at h; cases h
 | some j =>
  rw [e] at h
  obtain ⟨v,h1,h2⟩:=zaS r (show ds[j]?=some d from h)
  exact ⟨v,h1,h2⟩
theorem zrz:Ixs X zkl:=⟨_,zpN,by
 rintro Hi H x y dx dy Q Q2 s d1 d2 ⟨i,rfl,h⟩ fin
 rcases h with ⟨ds,d,rfl,e,q⟩ | ⟨ds,d,rfl,e,q⟩ | ⟨l,c,rfl,hl,e,q⟩
 ·obtain ⟨a,vs,rfl,h1,h2⟩:=d1.lstI
  obtain ⟨v,h3,h4⟩:=zkg h2 e; exact .inl ⟨a,vs,i,v,rfl,d2.intI,zaF s.sub h1,h3,fin Hi H _ _ (Ext.refl s) h4 q⟩
 ·obtain ⟨a,vs,rfl,h1,h2⟩:=d1.tupI
  obtain ⟨v,h3,h4⟩:=zkg h2 e; exact .inr (.inl ⟨a,vs,i,v,rfl,d2.intI,zaE s.sub h1,h3,fin Hi H _ _ (Ext.refl s) h4 q⟩)
 ·refine .inr (.inr ⟨_,i,c,d1.strI,d2.intI,by rw [zb3]; exact hl,by rw [zaN]; exact e,fin Hi H _ _ (Ext.refl s) (.str [c]) q⟩)⟩
def zcV {α:Type} (xs:List α) (lo hi:Option Int):List α:=(xs.drop (HT.sIx xs.length 0 lo)).take (HT.sIx xs.length xs.length hi-HT.sIx xs.length 0 lo)
def zid:RS':=fun x lo hi Q=>∃ l,x=.str l/\l.length<=sizeLine/\((lo=none/\∃ n,hi=some n/\0<=n/\Q (.str (l.take n.toNat)))\/(hi=none/\∃ n,lo=some n/\0<=n/\Q (.str (l.drop n.toNat))))
theorem zqW:Sli X zid:=⟨_,zoI,by
 rintro Hi H x dx lo hi Q Q2 s d1 ⟨l,rfl,hl,h⟩ fin
 refine ⟨st l,d1.strI,by rw [zb3]; exact hl,?_⟩
 rcases h with ⟨rfl,n,rfl,hn,q⟩ | ⟨rfl,n,rfl,hn,q⟩
 ·obtain ⟨m,rfl⟩:=Int.eq_ofNat_of_zero_le hn
  rw [zkN]; exact fin Hi H _ _ (Ext.refl s) (.str _) q
 ·obtain ⟨m,rfl⟩:=Int.eq_ofNat_of_zero_le hn
  rw [zh9]; exact fin Hi H _ _ (Ext.refl s) (.str _) q⟩
def zfV:RS':=fun x lo hi Q=>∃ ds,x=.tup ds/\Q (.tup (zcV ds lo hi))
def zie:RS':=fun x lo hi Q=>∃ ds,x=.lst ds/\Q (.lst (zcV ds lo hi))
theorem zj4 {Hi:Hp} {vs:List V} {ds:List D} {lo hi:Option Int} (r:zbI K Hi vs ds):zbI K Hi (zj5 vs lo hi) (zcV ds lo hi):=by
 unfold zj5 zcV; rw [zl r]; exact zer _ (zes _ r)
theorem zoK:Sli X zie:=⟨_,zmZ,by
 rintro Hi H x dx lo hi Q Q2 s d1 ⟨ds,rfl,q⟩ fin
 obtain ⟨a,vs,rfl,h1,h2⟩:=d1.lstI
 refine ⟨a,vs,rfl,zaF s.sub h1,fun p hp=>?_⟩
 have e:=Ext.new s hp (.lst (zj5 vs lo hi)); exact fin _ _ _ _ e (Den.mkL (SqL.of zw) (zj4 (h2.mono e.hi))) q⟩
def zen:RC':=fun ds Q=>∃ d,ds=[d]/\((∃ l,d=.str l/\l.length<=sizeLine/\Q (.int (l.length:Nat)))\/(∃ es,d=.lst es/\Q (.int (es.length:Nat)))\/∃ es,d=.tup es/\Q (.int (es.length:Nat)))
theorem zrQ:Cal X (.builtin "len") zen:=⟨_,zgB.or zgC,by
 rintro Hi H vs ds Q Q2 s dl ⟨d,rfl,h⟩ fin
 obtain ⟨v,rfl,den⟩:=zdC dl
 rcases h with ⟨l,rfl,hl,q⟩ | ⟨es,rfl,q⟩ | ⟨es,rfl,q⟩
 ·refine .inl ⟨_,by rw [den.strI],by rw [zb3]; exact hl,?_⟩
  rw [zb3]; exact fin Hi H _ _ (Ext.refl s) (.int _) q
 ·obtain ⟨a,us,rfl,h1,h2⟩:=den.lstI
  refine .inr ⟨a,us,rfl,.inl (zaF s.sub h1),?_⟩; rw [zl h2]; exact fin Hi H _ _ (Ext.refl s) (.int _) q
 ·obtain ⟨a,us,rfl,h1,h2⟩:=den.tupI
  refine .inr ⟨a,us,rfl,.inr (zaE s.sub h1),?_⟩; rw [zl h2]; exact fin Hi H _ _ (Ext.refl s) (.int _) q⟩
def zi6:RC':=fun ds Q=>∃ l n,ds=[.str l]/\PySem.intText? (st l)=some n/\l.length<=640/\Q (.int n)
theorem zrR:Cal X (.type "int") zi6:=⟨_,zgD,by
 rintro Hi H vs ds Q Q2 s dl ⟨l,n,rfl,e,hl,q⟩ fin
 obtain ⟨v,rfl,den⟩:=zdC dl
 exact ⟨_,n,by rw [den.strI],e,by rw [zb3]; exact hl,fin Hi H _ _ (Ext.refl s) (.int _) q⟩⟩
def zkm (i:Int):List Nat:=(Str.ofString (toString i)).cps.toList
def zm5:RC':=fun ds Q=>∃ i,ds=[.int i]/\i.natAbs.log2<1920/\Q (.str (zkm i))
theorem zrP:Cal X (.type "str") zm5:=⟨_,zgx,by
 rintro Hi H vs ds Q Q2 s dl ⟨i,rfl,hl,q⟩ fin
 obtain ⟨v,rfl,den⟩:=zdC dl
 refine ⟨i,by rw [den.intI],hl,?_⟩
 refine fin Hi H _ (.str (zkm i)) (Ext.refl s) ?_ q
 have e:(V.str (toString i))=.str (st (zkm i)):=by
  unfold zkm; rw [<- zoF]
 rw [e]; exact .str _⟩
def zse:RC':=fun ds Q=>∃ bs:List Bool,ds=[.lst (bs.map .bl)]/\Q (.bl (bs.all id))
theorem zgq {Hi:Hp}:∀ {vs:List V} {bs:List Bool},zbI K Hi vs (bs.map .bl)->vs=bs.map .bl
 | _,[],h=>by cases h; rfl
 | _,b :: bs,h=>by
  cases h with
  | cons r t=>rw [r.blI,zgq t]; rfl
theorem zoh (hc:X.calm=true):Cal X (.builtin "all") zse:=⟨_,zeV hc,by
 rintro Hi H vs ds Q Q2 s dl ⟨bs,rfl,q⟩ fin
 obtain ⟨v,rfl,den⟩:=zdC dl; obtain ⟨a,us,rfl,h1,h2⟩:=den.lstI; rw [zgq h2] at h1; exact ⟨a,bs,rfl,zaF s.sub h1,fin Hi H _ _ (Ext.refl s) (.bl _) q⟩⟩
def zi3:RC':=fun ds Q=>∃ d es,ds=[d]/\(d=.lst es\/d=.tup es)/\Q (.tup es)
theorem zhe:Cal X (.type "tuple") zi3:=⟨_,zfJ,by
 rintro Hi H vs ds Q Q2 s dl ⟨d,es,rfl,h,q⟩ fin
 obtain ⟨v,rfl,den⟩:=zdC dl
 rcases h with rfl | rfl
 ·obtain ⟨a,us,rfl,h1,h2⟩:=den.lstI
  refine ⟨a,us,rfl,.inl ⟨zaF s.sub h1,fun l hl=>?_⟩⟩
  have e:=Ext.new s hl (.tup us); exact fin _ _ _ _ e (Den.mkT zw (h2.mono e.hi)) q
 ·obtain ⟨a,us,rfl,h1,h2⟩:=den.tupI
  exact ⟨a,us,rfl,.inr ⟨zaE s.sub h1,fin Hi H _ _ (Ext.refl s) den q⟩⟩⟩
def zha:D->Option String
 | .non=>some "NoneType"
 | .bl _=>some "bool"
 | .int _=>some "int"
 | .str _=>some "str"
 | .lst _=>some "list"
 | .tup _=>some "tuple"
 | .dic _=>some "dict"
 | _=>none
theorem zlM {Hi H:Hp} {x:V} {d:D} {t:String} (s:zaM Hi H) (den:Den K Hi x d) (h:zha d=some t):zp8 K H x t:=by
 cases den with
 | non=>exact (Option.some.inj h).symm
 | bl b=>exact (Option.some.inj h).symm
 | int i=>exact (Option.some.inj h).symm
 | str l=>exact (Option.some.inj h).symm
 | ty n=>cases h
 | adr b=>cases h
 | rng h'=>cases h
 | tup hq l r=>exact .inr (.inl ⟨(Option.some.inj h).symm,_,SqT.of (s _ _ hq)⟩)
 | lst hq l r=>exact .inl ⟨(Option.some.inj h).symm,_,zaF s hq⟩
 | dicK hq l r r2=>exact .inr (.inr ⟨(Option.some.inj h).symm,.inl ⟨_,zdM s hq⟩⟩)
 | dicT hq l r r2=>cases h
 | cls C=>cases h
 | obj hq l r r2=>cases h
 | excN hq=>cases h
 | exc hq h2 l r r2=>cases h
def zgO:RM':=fun x ds Q=>∃ l y,x=.str l/\ds=[.str y]/\l.length<=sizeLine/\Q (.str (Txt.rstripChars (st l) (st y)).cps.toList)
theorem zls:Met X "str" "str.rstrip" zgO:=⟨_,zjw,by
 rintro Hi H x vs dx ds Q Q2 s d1 dl ⟨l,y,rfl,rfl,hl,q⟩ fin
 obtain ⟨v,rfl,den⟩:=zdC dl
 refine ⟨_,_,d1.strI,by rw [den.strI],by rw [zb3]; exact hl,?_⟩
 rw [zoF (Txt.rstripChars (st l) (st y))]; exact fin Hi H _ _ (Ext.refl s) (.str _) q⟩
end
section
variable {X:Cx} {a b c:Expr} {pos:Pos} {ta tb tc:TE'}
def zo (r r':R2') (ta tb tc:TE'):TE':=fun Γ Q=>ta Γ fun x Γ1=>tb Γ1 fun y Γ2=>r x y fun z=>∃ k,z=.bl k/\(if k=true then tc Γ2 fun w Γ3=>r' y w fun d=>Q d Γ3 else Q (.bl false) Γ2)
theorem zfN {K:W.Frag} {n:Nat} {r s:R2} {r' s':R2'} {σ:St} {H:Hp} {Q:VK} (l:zfK K r r') (l2:zfK K s s') (h:tOf K n (zo r' s' ta tb tc) σ H Q):ziR r s (tOf K n ta) (tOf K n tb) (tOf K n tc) σ H Q:=by
 obtain ⟨W,Hi,Γ,Q',g,h,fin⟩:=h; refine ⟨W,Hi,Γ,_,g,h,?_⟩
 rintro x H1 ⟨Hi1,dx,Γ1,s1,g1,den1,h1⟩
 refine ⟨W,Hi1,Γ1,_,g1,h1,?_⟩
 rintro y H2 ⟨Hi2,dy,Γ2,s2,g2,den2,h2⟩
 refine l Hi2 H2 x y dx dy _ _ g2.fz (den1.mono s2) den2 h2 ?_
 rintro Hi3 H3 v d e den ⟨k,rfl,q⟩
 refine ⟨k,den.blI,?_⟩
 cases k with
 | false=>exact fin _ H3 ⟨Hi3,_,Γ2,s1.trans (s2.trans e.hi),g2.ext e,.bl false,q⟩
 | true =>
  refine ⟨W,Hi3,Γ2,_,g2.ext e,q,?_⟩
  rintro w H4 ⟨Hi4,dw,Γ4,s4,g4,den4,q4⟩
  refine l2 Hi4 H4 y w dy dw _ _ g4.fz (den2.mono (e.hi.trans s4)) den4 q4 ?_; intro Hi5 H5 v5 d5 e5 den5 q5; exact fin _ H5 ⟨Hi5,d5,Γ4,s1.trans (s2.trans (e.hi.trans (s4.trans e5.hi))),g4.ext e5,den5,q5⟩
theorem zjk {op op':CmpOp} {r r':R2'} (ho:Op2 X (compareOp op) r) (ho':Op2 X (compareOp op') r') (ha:PE' X a ta) (hb:PE' X b tb) (hc:PE' X c tc)
  (hm:lastMarks [op,op'] [b,c]=false:=by with_unfolding_all rfl):PE' X (.Compare a [op,op'] [b,c] pos) (zo r r' ta tb tc):=by
 obtain ⟨q,h1,l1⟩:=ho.ex; obtain ⟨q',h2,l2⟩:=ho'.ex
 exact ⟨PE.weak (zld h1 h2 ha.h hb.h hc.h hm) fun σ H Q z=>zfN l1 l2 z⟩
theorem zfZ {op op':CmpOp} {r r':R2'} (ho:Op2 X (compareOp op) r) (ho':Op2 X (compareOp op') r') (ha:PE' X a ta) (hb:PE' X b tb) (hc:PE' X c tc)
  (hm:lastMarks [op,op'] [b,c]=false:=by with_unfolding_all rfl):PT' X (.Compare a [op,op'] [b,c] pos) (tB' (zo r r' ta tb tc)):=by
 obtain ⟨q,h1,l1⟩:=ho.ex; obtain ⟨q',h2,l2⟩:=ho'.ex
 exact ⟨PT.weak (zkX h1 h2 ha.h hb.h hc.h hm) fun σ H Q z=>zfN l1 l2 (zmU z)⟩
def zfp:R2':=fun x y Q=>(∃ i j,x=.int i/\y=.int j/\Q (.int (i+j)))\/zgU x y Q
theorem zrv:Op2 X (binaryOp .Add) zfp:=zru.or zpv
def zfm:R2':=fun x y Q=>zkT true x y Q\/zkU true x y Q
theorem znH:Op2 X (compareOp .NotIn) zfm:=zlk.or zll
end
structure Df (K:W.Frag) (mg:Str->Option Value) (x:Str) (st:Stmt) (ps:List Str):Prop where
 ex:∃ f fd,Fun K x x st f fd/\zd4 K fd ps []/\mg x=some (.ref f)
structure Fn (P:Program) (w:World) (K:W.Frag) (mg:Str->Option Value) (base:Heap) (k:Nat) (x:Str) (ps:List Str) (sp:Sp'):Prop where
 ex:∃ f fd,FnOk P w K mg base CX0 k f fd ps (zhr K sp)/\zd4 K fd ps []/\W.keepIn K (.ref f)=true/\mg x=some (.ref f)/\∃ oc od osl,K.lookup f=some ⟨oc,od,.func fd,osl⟩
section
variable {P:Program} {w:World} {K:W.Frag} {mg:Str->Option Value} {base:Heap} {k:Nat} {x:Str} {ps:List Str} {sp:Sp'}
theorem Df.ok {st:Stmt} {N:List Str} (d:Df K mg x st ps) (S:FnScope N ps (zm st)) (len:∀ ds Q,sp ds Q->ds.length=ps.length)
  (hbody:∀ (f:Addr) (cdv:Value) (A:Around) (outer:List Env) (s:Shared) (H:Hp) (E:XK),Room k (A.deeper (PyProof.Rows.envOfC x (zm st) s.heap.objs.size f cdv))->∀ ds Q,sp ds Q ->
   ∃ t,PSs' (zd9 CX0 P w K mg base N x (zm st) f cdv A outer s H E).nox (zaU st) t/\t { nx:=fun _=>Q (.val .non),rt:=fun r _=>Q r } (zbn N ds)):Fn P w K mg base (k+1) x ps sp:=by
 obtain ⟨f,fd,F,b,m⟩:=d.ex; obtain ⟨oc,od,kV,doc,pm,an,cdv,ct,osl,e,lk,_⟩:=F.ex; exact ⟨f,fd,PL.Fun.ok' F S len (hbody f),b,F.kp,m,oc,od,osl,lk⟩
end
section
variable {X:Cx} {k:Nat} {x:Str} {ps:List Str} {sp:Sp'} {p pos:Pos} {e:Expr} {es:List Expr} {t:TA'}
theorem zbf (h:Fn X.prog X.w X.K X.mg X.base k x ps sp) (hr:Room k X.A) (ha:PA' X (e :: es) t) (hg:Gl X x:=by rfl) (hdb:(x == ("__debug__":Str))=false:=by decide) :
  PE' X (.Call (.Name x p) (e :: es) [] pos) (zy sp t):=by
 obtain ⟨f,fd,F,b,kp,m,_⟩:=h.ex; exact zlh F hr m kp b ha hg hdb
end
section
variable {X:Cx} {pos:Pos}
def zi4:RS':=fun x lo hi Q=>zid x lo hi Q\/zie x lo hi Q
theorem zsD:Sli X zi4:=zqW.or zoK
end
@[simp] theorem ex2 {α β:Type} {x:α} {y:β} {P:α->β->Prop}:(∃ a b,(x=a/\y=b)/\P a b)↔P x y:=⟨fun ⟨_,_,⟨e1,e2⟩,h⟩=>e1 ▸ e2 ▸ h,fun h=>⟨x,y,⟨rfl,rfl⟩,h⟩⟩
@[simp] theorem zqM (d:D):(Res.val d).toD=d:=rfl
@[simp] theorem zqN (o:OD):(Res.own o).toD=o.toD:=rfl
@[simp] theorem zr2 (d:D->D) (o:OD):(Res.bk d o).toD=d o.toD:=rfl
@[simp] theorem zsi (l:List D):(OD.lst l).toD=.lst l:=rfl
@[simp] theorem zsk (l:List (D × D)):(OD.dic l).toD=.dic l:=rfl
@[simp] theorem zsj (l:List (D × D)):(OD.dit l).toD=.dit l:=rfl
@[simp] theorem zoE (N:List Str) (ds:List D):zbn N ds=ds.map .val ++ List.replicate (N.length-ds.length) .emp:=rfl
@[simp] theorem zqG (d:D):voS (.val d)=.val d:=rfl
@[simp] theorem zqI:voS .emp=.emp:=rfl
@[simp] theorem zqH (o:OD):voS (.own o)=.emp:=rfl
@[simp] theorem zr1:vo []=[]:=rfl
@[simp] theorem zqF (s:Slot) (Γ:Sts):vo (s :: Γ)=voS s :: vo Γ:=rfl
@[simp] theorem zqf (ds:List D):zoJ (.lst ds)=some ds:=rfl
@[simp] theorem zqc (ds:List D):zoJ (.tup ds)=some ds:=rfl
@[simp] theorem zqd (l:List Nat):zoJ (.str l)=some (l.map fun c=>.str [c]):=rfl
@[simp] theorem zrS (Γ:Sts):zku [] Γ=[]:=rfl
@[simp] theorem zqD (src:List (Option Nat)) (Γ:Sts):zku (none :: src) Γ=.emp :: zku src Γ:=rfl
@[simp] theorem zqC (i:Nat) (src:List (Option Nat)) (Γ:Sts):zku (some i :: src) Γ=(match Γ[i]? with | some (.val d)=>.val d | _=>.emp) :: zku src Γ:=rfl
@[simp] theorem zp1 (g:TG') (tc:TT') (te:TE') (Q:List D->Prop) (acc:List D) (Γ:Sts):zdX g tc te Q [] acc Γ↔Q acc:=Iff.rfl
@[simp] theorem zqA (g:TG') (tb:TS') (N:Ends') (Γ:Sts):zkv g tb N [] Γ↔N.nx Γ:=Iff.rfl
section
variable {Q:D->Prop}
@[simp] theorem zsc (g:Int->Int->D) (i j:Int):zmh g (.int i) (.int j) Q↔Q (g i j):=by simp [zmh]
@[simp] theorem zsK (C:Int->Int->Prop) (g:Int->Int->D) (i j:Int):rI' C g (.int i) (.int j) Q↔C i j/\Q (g i j):=by simp [rI']
@[simp] theorem zqx (i j:Int):zfp (.int i) (.int j) Q↔Q (.int (i+j)):=by simp [zfp,zgU]
@[simp] theorem zqw (l m:List Nat):zfp (.str l) (.str m) Q↔l.length+m.length<=sizeLine/\Q (.str (l ++ m)):=by simp [zfp,zgU]
@[simp] theorem zrG (i j:Int):eqS (.int i) (.int j)=some (decide (i=j)):=rfl
@[simp] theorem zrE (i j:List Nat):eqS (.str i) (.str j)=some (decide (i=j)):=rfl
@[simp] theorem zsm (i j:Bool):eqS (.bl i) (.bl j)=some (decide (i=j)):=rfl
@[simp] theorem zrF:eqS .non .non=some true:=rfl
@[simp] theorem zn5 (i:List Nat):eqS .non (.str i)=some false:=rfl
@[simp] theorem zn6 (i:Int):eqS .non (.int i)=some false:=rfl
@[simp] theorem zn4 (i:List Nat):eqS (.str i) .non=some false:=rfl
@[simp] theorem zn7 (i:Int):eqS (.int i) .non=some false:=rfl
@[simp] theorem zq6 (c:Nat) (l:List Nat):zkT false (.str [c]) (.str l) Q↔Q (.bl (decide (c ∈ l))):=by simp [zkT]
@[simp] theorem zq5 (ds:List D) (i:Int):zkl (.lst ds) (.int i) Q↔∃ d,atI ds i=some d/\Q d:=by simp [zkl]
@[simp] theorem zq3 (ds:List D) (i:Int):zkl (.tup ds) (.int i) Q↔∃ d,atI ds i=some d/\Q d:=by simp [zkl]
@[simp] theorem zq4 (l:List Nat) (i:Int):zkl (.str l) (.int i) Q↔l.length<=sizeLine/\∃ c,atI l i=some c/\Q (.str [c]):=by simp [zkl]
@[simp] theorem zr7 (l:List Nat) (n:Int):zi4 (.str l) none (some n) Q↔l.length<=sizeLine/\0<=n/\Q (.str (l.take n.toNat)):=by simp [zi4,zid,zie]
@[simp] theorem zqi (l:List Nat) (n:Int):zi4 (.str l) (some n) none Q↔l.length<=sizeLine/\0<=n/\Q (.str (l.drop n.toNat)):=by simp [zi4,zid,zie]
@[simp] theorem zq0 (ds:List D) (lo hi:Option Int):zi4 (.lst ds) lo hi Q↔Q (.lst (zcV ds lo hi)):=by simp [zi4,zid,zie]
@[simp] theorem zqo (l:List Nat):zen [.str l] Q↔l.length<=sizeLine/\Q (.int (l.length:Nat)):=by simp [zen]
@[simp] theorem zqp (l:List D):zen [.lst l] Q↔Q (.int (l.length:Nat)):=by simp [zen]
@[simp] theorem zqn (l:List D):zen [.tup l] Q↔Q (.int (l.length:Nat)):=by simp [zen]
@[simp] theorem zm4 (i:Int):zm5 [.int i] Q↔i.natAbs.log2<1920/\Q (.str (zkm i)):=by simp [zm5]
@[simp] theorem zqh (ds:List D):zi3 [.lst ds] Q↔Q (.tup ds):=by simp [zi3]
@[simp] theorem zol (l y:List Nat):zgO (.str l) [.str y] Q↔l.length<=sizeLine/\Q (.str (Txt.rstripChars (st l) (st y)).cps.toList):=by simp [zgO]
@[simp] theorem zqJ (l:List Nat):tyD "str" (.str l)↔True:=by simp [tyD]
theorem zgS {ds:List D} {bs:List Bool} (e:ds=bs.map .bl):zse [.lst ds] Q↔Q (.bl (bs.all id)):=by
 subst e; constructor
 ·rintro ⟨cs,e,q⟩
  have e':bs.map D.bl=cs.map D.bl:=by simpa using e
  have:bs=cs:=(List.map_inj_right (fun a b h=>D.bl.inj h)).mp e'
  rw [this]; exact q
 ·intro q
  exact ⟨bs,rfl,q⟩
end
@[simp] theorem ziI (K:W.Frag):W.kitOne K (.type "NoneType") (.type "str")=some false:=by rfl
@[simp] theorem zmA (K:W.Frag):W.kitOne K (.type "bool") (.type "str")=some false:=by rfl
@[simp] theorem znR (K:W.Frag):W.kitOne K (.type "int") (.type "str")=some false:=by rfl
@[simp] theorem znP (K:W.Frag):W.kitOne K (.type "str") (.type "str")=some true:=by rfl
@[simp] theorem zmt (K:W.Frag):W.kitOne K (.type "list") (.type "str")=some false:=by rfl
@[simp] theorem zlz (K:W.Frag):W.kitOne K (.type "tuple") (.type "str")=some false:=by rfl
@[simp] theorem zmy (K:W.Frag):W.kitOne K (.type "dict") (.type "str")=some false:=by rfl
@[simp] theorem ziu (K:W.Frag):W.kitOne K (.type "NoneType") (.type "bool")=some false:=by rfl
@[simp] theorem zlL (K:W.Frag):W.kitOne K (.type "bool") (.type "bool")=some true:=by rfl
@[simp] theorem zmx (K:W.Frag):W.kitOne K (.type "int") (.type "bool")=some false:=by rfl
@[simp] theorem zms (K:W.Frag):W.kitOne K (.type "str") (.type "bool")=some false:=by rfl
@[simp] theorem zlE (K:W.Frag):W.kitOne K (.type "list") (.type "bool")=some false:=by rfl
@[simp] theorem zkq (K:W.Frag):W.kitOne K (.type "tuple") (.type "bool")=some false:=by rfl
@[simp] theorem zlI (K:W.Frag):W.kitOne K (.type "dict") (.type "bool")=some false:=by rfl
@[simp] theorem ziJ (K:W.Frag):W.kitOne K (.type "NoneType") (.type "int")=some false:=by rfl
@[simp] theorem zmB (K:W.Frag):W.kitOne K (.type "bool") (.type "int")=some true:=by rfl
@[simp] theorem znS (K:W.Frag):W.kitOne K (.type "int") (.type "int")=some true:=by rfl
@[simp] theorem znQ (K:W.Frag):W.kitOne K (.type "str") (.type "int")=some false:=by rfl
@[simp] theorem zmu (K:W.Frag):W.kitOne K (.type "list") (.type "int")=some false:=by rfl
@[simp] theorem zlA (K:W.Frag):W.kitOne K (.type "tuple") (.type "int")=some false:=by rfl
@[simp] theorem zmz (K:W.Frag):W.kitOne K (.type "dict") (.type "int")=some false:=by rfl
@[simp] theorem zis (K:W.Frag):W.kitOne K (.type "NoneType") (.type "list")=some false:=by rfl
@[simp] theorem zlJ (K:W.Frag):W.kitOne K (.type "bool") (.type "list")=some false:=by rfl
@[simp] theorem zmv (K:W.Frag):W.kitOne K (.type "int") (.type "list")=some false:=by rfl
@[simp] theorem zmq (K:W.Frag):W.kitOne K (.type "str") (.type "list")=some false:=by rfl
@[simp] theorem zlC (K:W.Frag):W.kitOne K (.type "list") (.type "list")=some true:=by rfl
@[simp] theorem zko (K:W.Frag):W.kitOne K (.type "tuple") (.type "list")=some false:=by rfl
@[simp] theorem zlG (K:W.Frag):W.kitOne K (.type "dict") (.type "list")=some false:=by rfl
@[simp] theorem zhG (K:W.Frag):W.kitOne K (.type "NoneType") (.type "tuple")=some false:=by rfl
@[simp] theorem zkt (K:W.Frag):W.kitOne K (.type "bool") (.type "tuple")=some false:=by rfl
@[simp] theorem zlF (K:W.Frag):W.kitOne K (.type "int") (.type "tuple")=some false:=by rfl
@[simp] theorem zlB (K:W.Frag):W.kitOne K (.type "str") (.type "tuple")=some false:=by rfl
@[simp] theorem zkr (K:W.Frag):W.kitOne K (.type "list") (.type "tuple")=some false:=by rfl
@[simp] theorem zjF (K:W.Frag):W.kitOne K (.type "tuple") (.type "tuple")=some true:=by rfl
@[simp] theorem zks (K:W.Frag):W.kitOne K (.type "dict") (.type "tuple")=some false:=by rfl
@[simp] theorem zit (K:W.Frag):W.kitOne K (.type "NoneType") (.type "dict")=some false:=by rfl
@[simp] theorem zlK (K:W.Frag):W.kitOne K (.type "bool") (.type "dict")=some false:=by rfl
@[simp] theorem zmw (K:W.Frag):W.kitOne K (.type "int") (.type "dict")=some false:=by rfl
@[simp] theorem zmr (K:W.Frag):W.kitOne K (.type "str") (.type "dict")=some false:=by rfl
@[simp] theorem zlD (K:W.Frag):W.kitOne K (.type "list") (.type "dict")=some false:=by rfl
@[simp] theorem zkp (K:W.Frag):W.kitOne K (.type "tuple") (.type "dict")=some false:=by rfl
@[simp] theorem zlH (K:W.Frag):W.kitOne K (.type "dict") (.type "dict")=some true:=by rfl
section
variable {Q:D->Prop}
end
class ME (t:TE'):Prop where
 mono:∀ Γ Q Q',(∀ d Γ',Q d Γ'->Q' d Γ')->t Γ Q->t Γ Q'
class MT (t:TT'):Prop where
 mono:∀ Γ Q Q',(∀ d Γ',Q d Γ'->Q' d Γ')->t Γ Q->t Γ Q'
class MA (t:TA'):Prop where
 mono:∀ Γ Q Q',(∀ d Γ',Q d Γ'->Q' d Γ')->t Γ Q->t Γ Q'
class MO (t:TO'):Prop where
 mono:∀ Γ Q Q',(∀ d Γ',Q d Γ'->Q' d Γ')->t Γ Q->t Γ Q'
class MP (t:TP'):Prop where
 mono:∀ Γ Q Q',(∀ d Γ',Q d Γ'->Q' d Γ')->t Γ Q->t Γ Q'
class MG (g:TG'):Prop where
 mono:∀ d Γ Q Q',(∀ Γ',Q Γ'->Q' Γ')->g d Γ Q->g d Γ Q'
class MR2 (r:R2'):Prop where
 mono:∀ x y Q Q',(∀ d,Q d->Q' d)->r x y Q->r x y Q'
class MRC (r:RC'):Prop where
 mono:∀ x Q Q',(∀ d,Q d->Q' d)->r x Q->r x Q'
class MRS (r:RS'):Prop where
 mono:∀ x y z Q Q',(∀ d,Q d->Q' d)->r x y z Q->r x y z Q'
class MSp (sp:Sp'):Prop where
 mono:∀ x Q Q',(∀ d,Q d->Q' d)->sp x Q->sp x Q'
structure Ends'.le (N N':Ends'):Prop where
 nx:∀ Γ,N.nx Γ->N'.nx Γ
 rt:∀ r Γ,N.rt r Γ->N'.rt r Γ
 bk:∀ Γ,N.bk Γ->N'.bk Γ
 ct:∀ Γ,N.ct Γ->N'.ct Γ
class MS (t:TS'):Prop where
 mono:∀ N N' Γ,N.le N'->t N Γ->t N' Γ
instance {i:Nat}:ME (zab i):=⟨fun _ _ _ h ⟨d,e,q⟩=>⟨d,e,h _ _ q⟩⟩
instance {d:D}:ME (tC' d):=⟨fun _ _ _ h q=>h _ _ q⟩
instance {t:TO'} [MO t]:ME (zau t):=⟨fun Γ _ _ h q=>MO.mono (t:=t) Γ _ _ (fun _ _ z=>h _ _ z) q⟩
instance {r:R2'} {a b:TE'} [MR2 r] [ME a] [ME b]:ME (zaX r a b):=⟨fun Γ _ _ h q=>ME.mono (t:=a) Γ _ _ (fun _ _ z=>ME.mono (t:=b) _ _ _ (fun _ _ z=>MR2.mono (r:=r) _ _ _ _ (fun _ z=>h _ _ z) z) z) q⟩
instance {t:TE'} [ME t]:MT (tB' t):=⟨fun Γ _ _ h q=>ME.mono (t:=t) Γ _ _ (fun _ _ ⟨b,e,z⟩=>⟨b,e,h _ _ z⟩) q⟩
instance {t u:TT'} [MT t] [MT u]:MT (zai t u):=⟨fun Γ _ _ h q=>MT.mono (t:=t) Γ _ _ (fun b _ z=>by
 cases b with
 | true=>exact MT.mono (t:=u) _ _ _ h z
 | false=>exact h _ _ z) q⟩
instance {t u:TT'} [MT t] [MT u]:MT (zba t u):=⟨fun Γ _ _ h q=>MT.mono (t:=t) Γ _ _ (fun b _ z=>by
 cases b with
 | false=>exact MT.mono (t:=u) _ _ _ h z
 | true=>exact h _ _ z) q⟩
instance {t:TT'} [MT t]:MT (zal t):=⟨fun Γ _ _ h q=>MT.mono (t:=t) Γ _ _ (fun b _ z=>h _ _ z) q⟩
instance:MT za3:=⟨fun _ _ _ h q=>h _ _ q⟩
instance:MA zae:=⟨fun _ _ _ h q=>h _ _ q⟩
instance {a:TE'} {r:TA'} [ME a] [MA r]:MA (zA a r):=⟨fun Γ _ _ h q=>ME.mono (t:=a) Γ _ _ (fun _ _ z=>MA.mono (t:=r) _ _ _ (fun _ _ z=>h _ _ z) z) q⟩
instance {t:TA'} [MA t]:ME (zag t):=⟨fun Γ _ _ h q=>MA.mono (t:=t) Γ _ _ (fun _ _ ⟨a,z⟩=>⟨a,h _ _ z⟩) q⟩
instance {t:TA'} [MA t]:MO (zam t):=⟨fun Γ _ _ h q=>MA.mono (t:=t) Γ _ _ (fun _ _ ⟨a,z⟩=>⟨a,h _ _ z⟩) q⟩
instance {r:RC'} {t:TA'} [MRC r] [MA t]:ME (za4 r t):=⟨fun Γ _ _ h q=>MA.mono (t:=t) Γ _ _ (fun _ _ z=>MRC.mono (r:=r) _ _ _ (fun _ z=>h _ _ z) z) q⟩
instance:MP zah:=⟨fun _ _ _ h q=>h _ _ q⟩
instance {t:TE'} [ME t]:MP (za8 t):=⟨fun Γ _ _ h q=>ME.mono (t:=t) Γ _ _ (fun _ _ ⟨i,e,z⟩=>⟨i,e,h _ _ z⟩) q⟩
instance {r:RS'} {e:TE'} {l u:TP'} [MRS r] [ME e] [MP l] [MP u]:ME (za7 r e l u):=⟨fun Γ _ _ h q=>ME.mono (t:=e) Γ _ _ (fun _ _ z=>MP.mono (t:=l) _ _ _ (fun _ _ z=>MP.mono (t:=u) _ _ _ (fun _ _ z=>MRS.mono (r:=r) _ _ _ _ _ (fun _ z=>h _ _ z) z) z) z) q⟩
instance {sp:Sp'} {t:TA'} [MSp sp] [MA t]:ME (zy sp t):=⟨fun Γ _ _ h q=>MA.mono (t:=t) Γ _ _ (fun _ _ z=>MSp.mono (sp:=sp) _ _ _ (fun _ z=>h _ _ z) z) q⟩
instance {i:Nat}:MG (zx i):=⟨fun _ _ _ _ h q=>h _ q⟩
theorem Ends'.le.nxt {N N':Ends'} (h:N.le N') {P P':Sts->Prop} (hp:∀ Γ,P Γ->P' Γ):Ends'.le { N with nx:=P } { N' with nx:=P' }:=⟨hp,h.rt,h.bk,h.ct⟩
instance:MS zB:=⟨fun _ _ _ h q=>h.nx _ q⟩
instance {t u:TS'} [MS t] [MS u]:MS (zaj t u):=⟨fun N N' Γ h q=>MS.mono (t:=t) _ _ _ (h.nxt fun Γ' z=>MS.mono (t:=u) N N' Γ' h z) q⟩
instance {t:TE'} [ME t]:MS (zak t):=⟨fun N N' Γ h q=>ME.mono (t:=t) _ _ _ (fun _ _ z=>h.rt _ _ z) q⟩
instance {c:TT'} {t u:TS'} [MT c] [MS t] [MS u]:MS (zao c t u):=⟨fun N N' Γ h q=>MT.mono (t:=c) _ _ _ (fun b Γ1 z=>by
 cases b with
 | true=>exact MS.mono (t:=t) N N' Γ1 h z
 | false=>exact MS.mono (t:=u) N N' Γ1 h z) q⟩
instance {t:TE'} {g:TG'} [ME t] [MG g]:MS (zaf t g):=⟨fun N N' Γ h q=>ME.mono (t:=t) _ _ _ (fun _ _ z=>MG.mono (g:=g) _ _ _ _ (fun _ z=>h.nx _ z) z) q⟩
theorem zhb {g:TG'} {tb:TS'} [MG g] [MS tb] {N:Ends'} (I:List D->Sts->Prop) (h0:∀ Γ,I [] Γ->N.nx Γ) (hs:∀ d ds Γ,I (d :: ds) Γ->g d Γ fun Γ2=>tb { N with nx:=I ds,ct:=I ds,bk:=N.nx } Γ2) :
  ∀ (ds:List D) (Γ:Sts),I ds Γ->zkv g tb N ds Γ
 | [],Γ,h=>h0 Γ h
 | d :: ds,Γ,h=>MG.mono (g:=g) _ _ _ _ (fun Γ2 z=>MS.mono (t:=tb) { N with nx:=I ds,ct:=I ds,bk:=N.nx } { N with nx:=zkv g tb N ds,ct:=zkv g tb N ds,bk:=N.nx } _ ⟨fun Γ3 z=>zhb I h0 hs ds Γ3 z,fun _ _ z=>z,fun _ z=>z,fun Γ3 z=>zhb I h0 hs ds Γ3 z⟩ z) (hs d ds Γ h)
theorem zgl {g:TG'} {tb:TS'} [MG g] [MS tb] {N:Ends'} {ds:List D} {Γ:Sts} (I:Nat->Sts->Prop) (h:I 0 Γ) (hs:∀ (i:Nat) d Γ,ds[i]?=some d->I i Γ->g d Γ fun Γ2=>tb { N with nx:=I (i+1),ct:=I (i+1),bk:=N.nx } Γ2) (h0:∀ Γ,I ds.length Γ->N.nx Γ):zkv g tb N ds Γ:=by
 refine zhb (fun es Γ=>∃ i,es=ds.drop i/\i<=ds.length/\I i Γ) ?_ ?_ ds Γ ⟨0,rfl,yi _,h⟩
 ·rintro Γ ⟨i,e,hi,q⟩
  have:i=ds.length:=by
   have:=yc List.length e
   rw [YY] at this
   simp at this
   omega
  subst this; exact h0 Γ q
 ·rintro d es Γ ⟨i,e,hi,q⟩
  have hlt:i<ds.length:=by
   have:=yc List.length e
   rw [YY] at this
   simp at this
   omega
  rw [YF hlt] at e
  injection e with e1 e2
  subst e1
  have go:∀ Γ',I (i+1) Γ'->∃ j,es=ds.drop j/\j<=ds.length/\I j Γ':=fun Γ' z=>⟨i+1,e2,hlt,z⟩
  exact MG.mono (g:=g) _ _ _ _ (fun Γ2 z=>MS.mono (t:=tb) { N with nx:=I (i+1),ct:=I (i+1),bk:=N.nx } _ _ ⟨go,fun _ _ z=>z,fun _ z=>z,go⟩ z) (hs i _ Γ (yC hlt) q)
theorem ziL {c:TT'} {tb:TS'} [MT c] [MS tb] {N:Ends'} {Γ:Sts} (I:Sts->Prop) (μ:Sts->Nat) (h:I Γ) (hs:∀ Γ,I Γ->c Γ fun b Γ1=>if b=true then tb { N with nx:=fun Γ2=>I Γ2/\μ Γ2<μ Γ,ct:=fun Γ2=>I Γ2/\μ Γ2<μ Γ,bk:=N.nx } Γ1 else N.nx Γ1):ziQ c tb N Γ:=by
 refine ⟨fun m Γ=>m=μ Γ/\I Γ,⟨_,rfl,h⟩,?_⟩
 rintro m Γ ⟨rfl,p⟩
 refine MT.mono (t:=c) _ _ _ (fun b Γ1 z=>?_) (hs Γ p)
 cases b with
 | true=>exact MS.mono (t:=tb) { N with nx:=fun Γ2=>I Γ2/\μ Γ2<μ Γ,ct:=fun Γ2=>I Γ2/\μ Γ2<μ Γ,bk:=N.nx } _ _ ⟨fun Γ2 ⟨a,b⟩=>⟨_,b,rfl,a⟩,fun _ _ z=>z,fun _ z=>z,fun Γ2 ⟨a,b⟩=>⟨_,b,rfl,a⟩⟩ z
 | false=>exact z
theorem zdm {g:TG'} {tc:TT'} {te:TE'} [MG g] [MT tc] [ME te] {Q:List D->Prop} {ds:List D} {Γ:Sts} (I:Nat->List D->Sts->Prop) (h:I 0 [] Γ)
  (hs:∀ (i:Nat) d acc Γ,ds[i]?=some d->I i acc Γ->g d Γ fun Γ2=>tc Γ2 fun b Γ3=>if b=true then te Γ3 fun y Γ4=>I (i+1) (acc ++ [y]) (vo Γ4) else I (i+1) acc (vo Γ3)) (h0:∀ acc Γ,I ds.length acc Γ->Q acc):zdX g tc te Q ds [] Γ:=by
 have key:∀ (n i:Nat) (acc:List D) (Γ:Sts),n=ds.length-i->i<=ds.length->I i acc Γ->zdX g tc te Q (ds.drop i) acc Γ:=by
  intro n
  induction n with
  | zero =>
   intro i acc Γ hn hi q
   have:i=ds.length:=by omega
   subst this; rw [YN (yF _)]; exact h0 acc Γ q
  | succ n ih =>
   intro i acc Γ hn hi q
   have hlt:i<ds.length:=by omega
   rw [YF hlt]
   refine MG.mono (g:=g) _ _ _ _ (fun Γ2 z=>MT.mono (t:=tc) _ _ _ (fun b Γ3 z=>?_) z) (hs i _ acc Γ (yC hlt) q)
   cases b with
   | true=>exact ME.mono (t:=te) _ _ _ (fun y Γ4 z=>ih (i+1) _ _ (by omega) hlt z) z
   | false=>exact ih (i+1) _ _ (by omega) hlt z
 exact key _ 0 [] Γ rfl (yi _) h
instance {g:Int->Int->D}:MR2 (zmh g):=⟨fun _ _ _ _ h ⟨i,j,a,b,q⟩=>⟨i,j,a,b,h _ q⟩⟩
instance {C:Int->Int->Prop} {g:Int->Int->D}:MR2 (rI' C g):=⟨fun _ _ _ _ h ⟨i,j,a,b,c,q⟩=>⟨i,j,a,b,c,h _ q⟩⟩
instance:MR2 zgU:=⟨fun _ _ _ _ h ⟨i,j,a,b,c,q⟩=>⟨i,j,a,b,c,h _ q⟩⟩
instance:MR2 zfp:=⟨fun _ _ _ _ h q=>by
 rcases q with ⟨i,j,a,b,q⟩ | q
 ·exact .inl ⟨i,j,a,b,h _ q⟩
 ·exact .inr (MR2.mono (r:=zgU) _ _ _ _ h q)⟩
instance {neg:Bool}:MR2 (zkT neg):=⟨fun _ _ _ _ h ⟨c,l,a,b,q⟩=>⟨c,l,a,b,h _ q⟩⟩
instance {neg:Bool}:MR2 (zkU neg):=⟨fun _ _ _ _ h ⟨i,c,l,a,b,q⟩=>⟨i,c,l,a,b,h _ q⟩⟩
instance:MR2 zfm:=⟨fun _ _ _ _ h q=>by
 rcases q with q | q
 ·exact .inl (MR2.mono (r:=zkT true) _ _ _ _ h q)
 ·exact .inr (MR2.mono (r:=zkU true) _ _ _ _ h q)⟩
instance:MR2 zkl:=⟨fun _ _ _ _ h ⟨i,e,q⟩=>⟨i,e,by
 rcases q with ⟨ds,d,a,b,q⟩ | ⟨ds,d,a,b,q⟩ | ⟨l,c,a,b,e,q⟩
 ·exact .inl ⟨ds,d,a,b,h _ q⟩
 ·exact .inr (.inl ⟨ds,d,a,b,h _ q⟩)
 ·exact .inr (.inr ⟨l,c,a,b,e,h _ q⟩)⟩⟩
instance:MRS zi4:=⟨fun _ _ _ _ _ h q=>by
 rcases q with ⟨l,a,b,q⟩ | ⟨l,a,q⟩
 ·refine .inl ⟨l,a,b,?_⟩
  rcases q with ⟨c,n,d,e,q⟩ | ⟨c,n,d,e,q⟩
  ·exact .inl ⟨c,n,d,e,h _ q⟩
  ·exact .inr ⟨c,n,d,e,h _ q⟩
 ·exact .inr ⟨l,a,h _ q⟩⟩
instance:MRC zen:=⟨fun _ _ _ h ⟨d,e,q⟩=>⟨d,e,by
 rcases q with ⟨l,a,b,q⟩ | ⟨l,a,q⟩ | ⟨l,a,q⟩
 ·exact .inl ⟨l,a,b,h _ q⟩
 ·exact .inr (.inl ⟨l,a,h _ q⟩)
 ·exact .inr (.inr ⟨l,a,h _ q⟩)⟩⟩
def zh7:Sp':=fun ds Q=>∃ ns:List Int,ds=[.lst (ns.map .int)]/\ns.length<=63/\Q (.val (.bl true))
theorem zhT {K:W.Frag} {H:Hp}:∀ ns:List Int,zbI K H (ns.map V.int) (ns.map D.int)
 | []=>.nil
 | n :: ns=>.cons (.int n) (zhT ns)
theorem zpB {P:Program} {w:World} {K:W.Frag} {mg:Str->Option Value} {k:Nat} {fa:Addr} {oc:Value} {od:Option Addr} {fd:FuncData} {sl:Array (Option Value)} {ps:List Str}
  (hfa:mg "law"=some (.ref fa)) (lk:K.lookup fa=some ⟨oc,od,.func fd,sl⟩) (base:Heap) (G:Fn P w K mg base k "law" ps zh7):FnOk P w K mg base CX0 k fa fd ps (zhr K zh7):=by
 obtain ⟨f,fd',F,_,_,m,oc',od',sl',lk'⟩:=G.ex; rw [hfa] at m; cases m; rw [lk] at lk'; cases lk'; exact F
end PL
namespace L2
open PySem PySem.Spec PyProof.Rows
section
variable {X:Cx}
theorem znF:OpR X (binaryOp .Add) (fun x y H Q=>∃ a b xs ys,x=.ref a/\y=.ref b/\SqT X.K H a xs/\SqT X.K H b ys/\xs.length+ys.length<=sizeLine/\(xs=[]->Q (.ref b) H)/\(xs≠[]->ys=[]->Q (.ref a) H) /\
  (xs≠[]->ys≠[]->∀ p,H p=none->Q (.ref p) (upd H p (.tup (xs ++ ys))))):=by
 intro pins s σ H x y v u Q I rx ry h; obtain ⟨a,b,xs,ys,rfl,rfl,ha,hb,hz,q0,q1,q2⟩:=h
 by_cases hx:xs=[]
 ·cases rx
  cases ry; obtain ⟨its,r1,p1,_⟩:=I.tuple ha; obtain ⟨its2,r2,p2,_⟩:=I.tuple hb
  obtain ⟨⟨cls,dd,data,sl⟩,ho,hc,n,hd⟩:=id p1
  obtain ⟨⟨cls2,dd2,data2,sl2⟩,ho2,hc2,n2,hd2⟩:=id p2
  simp only at hc hd hc2 hd2
  subst hc hd hc2 hd2
  have hi:its=[]:=r1.nil_iff.mpr hx
  refine concat_meets ⟨_,ho,rfl⟩ ⟨_,ho2,rfl⟩ noFill_tuple_add seq_tuple_add PySem.F.slot_tuple_add PySem.F.entry_tuple_add (PySem.F.args_tuple_add_2 _ _)
   (tuple_addW0 a b its.toArray its2.toArray n n2 dd dd2 sl sl2 (by simp [hi])) ⟨ho,ho2,?_⟩
  exact ⟨.ref b,H,I,rfl,q0 hx⟩
 ·exact znE pins s σ H _ _ v u Q I rx ry ⟨a,b,xs,ys,rfl,rfl,ha,hb,hx,hz,q1 hx,q2 hx⟩
end
end L2
namespace HT
open PySem PyProof.Rows
section
variable {prog:Program} {w:World} {A:Around} {E:Value->Shared->Prop} {s:Shared}
theorem getItem_tuple_whole {t sl:Addr} {items:Array Value} {vl vu:Value} {lo hi:Option Int} {Q:Value->Shared->Prop} (ht:IsTup s.heap t items) (hs:s.heap.IsSliceOf sl vl vu .none) (pl:IsPart vl lo) (pu:IsPart vu hi)
  (hw:sIx items.size 0 lo=0/\sIx items.size items.size hi=items.size) (h:Q (.ref t) s):wpAny (model prog w) A (getItem (.ref t) (.ref sl)) Q E s:=by
 obtain ⟨os,hos,hcs,hds⟩:=id hs
 have hTs:s.TypeIs (.ref sl) "slice":=⟨os,hos,hcs⟩
 unfold getItem
 try with_reducible refine YO ?_
 first | refine yA (yE ?_) | skip
 refine yA (wpAny_sequenceKey ht.typeIs (by decide) ?_)
 refine yA (wpAny_callSpecial?_slot (name:=Str.ofString "__getitem__") ht.typeIs yw
  (yx yw ht.typeIs entry_tuple_getitem ?_ (args_tuple_getitem _ _)))
 show wpAny _ _ (Builtin.Tuple.tupleItemsOf (.ref t) >>= _) _ _ s
 refine yA (tupleItemsOf_ ht ?_); refine yA (wpAny_typeOf hTs ?_)
 rw [yP (by decide)]
 refine yA (zcA hs pl pu ?_)
 have hyes:((((sIx items.size 0 lo:Nat):Int) == 0 && (1:Int) == 1 && (sIx items.size items.size hi-sIx items.size 0 lo) == items.size)=true):=by
  rw [hw.1,hw.2]; simp
 show wpAny _ _ (if (((sIx items.size 0 lo:Nat):Int) == 0 && (1:Int) == 1 && (sIx items.size items.size hi-sIx items.size 0 lo) == items.size)=true then _ else _) _ _ s
 rw [yP hyes]; refine yA (m:=Builtin.Tuple.tupleIsExact (.ref t)) ?_; unfold Builtin.Tuple.tupleIsExact; refine yA (wpAny_typeOf ht.typeIs ?_); refine yE ?_
 rw [yP (by decide)]
 exact yA (wpAny_rule (yE ⟨_,rfl,yE h⟩))
end
end HT
namespace L2
open PySem PySem.Spec PyProof.Rows
section
variable {X:Cx}
theorem zmY:SlR X (fun x lo hi H Q=>∃ a xs,x=.ref a/\SqT X.K H a xs/\((HT.sIx xs.length 0 lo=0/\HT.sIx xs.length xs.length hi=xs.length)->Q (.ref a) H) /\
  (¬ (HT.sIx xs.length 0 lo=0/\HT.sIx xs.length xs.length hi=xs.length)->∀ p,H p=none->Q (.ref p) (upd H p (.tup (zj5 xs lo hi))))):=by
 intro pins s σ H x v vl vu lo hi sl Q I rx hs pl pu h; obtain ⟨a,xs,rfl,hx,q1,q2⟩:=h
 by_cases hw:HT.sIx xs.length 0 lo=0/\HT.sIx xs.length xs.length hi=xs.length
 ·cases rx
  obtain ⟨its,r,ht,hz⟩:=I.tuple hx
  have hlen:its.toArray.size=xs.length:=by rw [yM]; exact r.length.symm
  refine ⟨"tuple",_,PyProof.Rows.slot_tuple_getitem.lookup,ht.typeIs,?_⟩
  exact HT.getItem_tuple_whole ht hs pl pu (by rw [hlen]; exact hw) ⟨.ref a,H,I,rfl,q1 hw⟩
 ·exact zoH pins s σ H _ v vl vu lo hi sl Q I rx hs pl pu ⟨a,xs,rfl,hx,hw,q2 hw⟩
end
end L2
namespace PL
open PySem L2
section
variable {X:Cx} {K:W.Frag}
def zgT:R2':=fun x y Q=>∃ xs ys,x=.tup xs/\y=.tup ys/\xs.length+ys.length<=sizeLine/\Q (.tup (xs ++ ys))
theorem zpu:Op2 X (binaryOp .Add) zgT:=⟨_,znF,by
 rintro Hi H x y dx dy Q Q2 s d1 d2 ⟨xs,ys,rfl,rfl,hl,q⟩ fin
 obtain ⟨a,vs,rfl,h1,h2⟩:=d1.tupI; obtain ⟨b,us,rfl,h3,h4⟩:=d2.tupI
 refine ⟨a,b,vs,us,rfl,rfl,zaE s.sub h1,zaE s.sub h3,by rw [zl h2,zl h4]; exact hl,fun e=>?_,fun _ e=>?_,fun _ _ p hp=>?_⟩
 ·subst e
  cases h2; exact fin Hi H _ _ (Ext.refl s) d2 q
 ·subst e
  cases h4; rw [yf] at q; exact fin Hi H _ _ (Ext.refl s) d1 q
 ·have e:=Ext.new s hp (.tup (vs ++ us))
  exact fin _ _ _ _ e (Den.mkT zw (zbg (h2.mono e.hi) (h4.mono e.hi))) q⟩
theorem zqV:Sli X zfV:=⟨_,zmY,by
 rintro Hi H x dx lo hi Q Q2 s d1 ⟨ds,rfl,q⟩ fin
 obtain ⟨a,vs,rfl,h1,h2⟩:=d1.tupI; have hl:=zl h2
 refine ⟨a,vs,rfl,zaE s.sub h1,fun hw=>?_,fun _ p hp=>?_⟩
 ·have e:zcV ds lo hi=ds:=by
   unfold zcV; rw [<- hl,hw.1,hw.2,List.drop_zero,Nat.sub_zero,hl,List.take_length]
  rw [e] at q; exact fin Hi H _ _ (Ext.refl s) d1 q
 ·have e:=Ext.new s hp (.tup (zj5 vs lo hi))
  exact fin _ _ _ _ e (Den.mkT zw (zj4 (h2.mono e.hi))) q⟩
def eqL (f:D->D->Option Bool):List D->List D->Option Bool
 | x :: xs,y :: ys=>match f x y,eqL f xs ys with
  | some a,some b=>some (a && b)
  | _,_=>none
 | [],[]=>some true
 | _,_=>some false
def eqD:Nat->D->D->Option Bool
 | n+1,.tup xs,.tup ys=>eqL (eqD n) xs ys
 | n+1,.lst xs,.lst ys=>if xs.length=ys.length then eqL (eqD n) xs ys else some false
 | _,x,y=>eqS x y
theorem zn8 {x y:V} {dx dy:D} {b:Bool} {Hi:Hp} (d1:Den K Hi x dx) (d2:Den K Hi y dy) (h:eqS dx dy=some b):zeI x=true/\zeI y=true/\eqV x y=b:=by
  have s1:=d1.scl (zdA h); have s2:=d2.scl (zdA (zjO _ _ h).choose_spec)
  cases s1 <;> rename_i e1 <;> subst e1 <;> cases s2 <;> rename_i e2 <;> subst e2 <;> first
    | (exact yL (show (none:Option Bool)=some b from h) (fun z=>nomatch z))
    | (refine ⟨rfl,rfl,?_⟩
       have h':=Option.some.inj h
       subst h'
       first
         | rfl
         | (show ((_:Int) == _)=decide _; rw [Bool.beq_eq_decide_eq])
         | (show ((_:Bool) == _)=decide _; rw [Bool.beq_eq_decide_eq])
         | (show ((_:Str) == _)=decide _
            rw [Bool.beq_eq_decide_eq]
            exact decide_eq_decide.mpr ⟨fun z=>st_inj z,fun z=>yc st z⟩))
theorem zd7 {x:V} {dx dy:D} {b:Bool} {Hi:Hp} (d1:Den K Hi x dx) (d2:Den K Hi x dy) (h:eqS dx dy=some b):b=true:=by
 obtain ⟨f1,f2,e⟩:=zn8 d1 d2 h; rw [<- e]
 cases x <;> first | rfl | (exact yL (show false=true from f1) yI) | (show ((_:_) == _)=true; exact beq_self_eq_true _)
theorem zdB {f:D->D->Option Bool} {Hi:Hp} (hf:∀ v x y b,Den K Hi v x->Den K Hi v y->f x y=some b->b=true):∀ {vs:List V} {xs ys:List D} {b:Bool},zbI K Hi vs xs->zbI K Hi vs ys->eqL f xs ys=some b->b=true
 | [],_,_,b,.nil,.nil,h=>(Option.some.inj h).symm
 | v :: vs,x :: xs,y :: ys,b,.cons r1 t1,.cons r2 t2,h=>by
  unfold eqL at h
  cases e1:f x y with
  | none=>rw [e1] at h; cases h
  | some a =>
   cases e2:eqL f xs ys with
   | none=>rw [e1,e2] at h; cases h
   | some c =>
    rw [e1,e2] at h; rw [<- Option.some.inj h,hf v x y a r1 r2 e1,zdB hf t1 t2 e2]; rfl
theorem zd8 (x y:D):eqD 0 x y=eqS x y:=by cases x <;> cases y <;> rfl
section
variable {pins:List (Addr × Obj)} {σ:St} {H Hi:Hp} {s:Shared}
theorem zhP (I:L2.Inv X pins σ H s) (sub:zaM Hi H):∀ (n:Nat) (v:V) (x y:D) (b:Bool),Den X.K Hi v x->Den X.K Hi v y->eqD n x y=some b->b=true:=by
 intro n
 induction n with
 | zero =>
  intro v x y b d1 d2 h; rw [zd8] at h; exact zd7 d1 d2 h
 | succ n ih =>
  intro v x y b d1 d2 h
  cases x with
  | tup xs =>
   cases y with
   | tup ys =>
    obtain ⟨a,vs,rfl,h1,h2⟩:=d1.tupI; obtain ⟨a',us,e,h3,h4⟩:=d2.tupI; cases e; have e:=I.tuple_inj (zaE sub h1) (zaE sub h3); subst e; exact zdB ih h2 h4 h
   | _=>exact zd7 d1 d2 h
  | lst xs =>
   cases y with
   | lst ys =>
    obtain ⟨a,vs,rfl,h1,h2⟩:=d1.lstI; obtain ⟨a',us,e,h3,h4⟩:=d2.lstI; cases e; have e:=I.list_inj (zaF sub h1) (zaF sub h3); subst e
    have hl:xs.length=ys.length:=by rw [<- zl h2,<- zl h4]
    unfold eqD at h; rw [yP hl] at h; exact zdB ih h2 h4 h
   | _=>exact zd7 d1 d2 h
  | _=>exact zd7 d1 d2 h
theorem zcU {f:D->D->Option Bool}:∀ {xs ys:List D} {b:Bool},eqL f xs ys=some b->∃ e:Nat->Bool,(∀ (j:Nat) x y,xs[j]?=some x->ys[j]?=some y->f x y=some (e j))/\b=((List.range (min xs.length ys.length)).all e && xs.length == ys.length)
 | [],[],b,h=>⟨fun _=>true,fun j x y h1 _=>by simp at h1,by simpa [eqL] using h.symm⟩
 | [],y :: ys,b,h=>⟨fun _=>true,fun j x y h1 _=>by simp at h1,by simpa [eqL] using h.symm⟩
 | x :: xs,[],b,h=>⟨fun _=>true,fun j x y _ h2=>by simp at h2,by simpa [eqL] using h.symm⟩
 | x :: xs,y :: ys,b,h=>by
  unfold eqL at h
  cases e1:f x y with
  | none=>rw [e1] at h; cases h
  | some a =>
   cases e2:eqL f xs ys with
   | none=>rw [e1,e2] at h; cases h
   | some c =>
    rw [e1,e2] at h; obtain ⟨e,h1,h2⟩:=zcU e2
    refine ⟨fun j=>match j with | 0=>a | j+1=>e j,fun j x' y' hx hy=>?_,?_⟩
    ·cases j with
     | zero=>simp at hx hy; subst hx; subst hy; exact e1
     | succ j=>exact h1 j x' y' (by simpa using hx) (by simpa using hy)
    ·rw [<- Option.some.inj h,h2]
     have hm:min (x :: xs).length (y :: ys).length=min xs.length ys.length+1:=by simp [Nat.succ_min_succ]
     rw [hm,List.range_succ_eq_map,List.all_cons,List.all_map]
     show (a && ((List.range (min xs.length ys.length)).all e && xs.length == ys.length))=((a && (List.range (min xs.length ys.length)).all e) && (x :: xs).length == (y :: ys).length)
     rw [Bool.and_assoc]
     congr 2
     simp
theorem zpU (I:L2.Inv X pins σ H s) (sub:zaM Hi H):∀ (n:Nat) (A:Around) (x y:V) (u v:Value) (dx dy:D) (b:Bool),A.units+n<cLine->Den X.K Hi x dx->Den X.K Hi y dy->zbh x u->zbh y v->eqD n dx dy=some b->SeqAt.EqAt A s u v b:=by
 intro n
 induction n with
 | zero =>
  intro A x y u v dx dy b hu d1 d2 rx ry h; rw [zd8] at h; obtain ⟨f1,f2,e⟩:=zn8 d1 d2 h; rw [<- e]; exact zjQ rx ry f1 f2
 | succ n ih =>
  intro A x y u v dx dy b hu d1 d2 rx ry h
  have zm0:eqS dx dy=some b->SeqAt.EqAt A s u v b:=fun h=>by
   obtain ⟨f1,f2,e⟩:=zn8 d1 d2 h; rw [<- e]; exact zjQ rx ry f1 f2
  have items:∀ {vs ws:List V} {its jts:List Value} {xs ys:List D} {e:Nat->Bool},zbI X.K Hi vs xs->zbI X.K Hi ws ys->zaT vs its->zaT ws jts->(∀ (j:Nat) x y,xs[j]?=some x->ys[j]?=some y->eqD n x y=some (e j)) ->
    ∀ j (h1:j<its.toArray.size) (h2:j<jts.toArray.size),SeqAt.EqAt A.in1 s its.toArray[j] jts.toArray[j] (e j):=fun {vs ws its jts xs ys e} r1 r2 v1 v2 he j h1 h2=>by
   have l1:j<vs.length:=by rw [v1.length]; simpa using h1
   have l2:j<ws.length:=by rw [v2.length]; simpa using h2
   obtain ⟨dx',e1,q1⟩:=zcw r1 (yC l1); obtain ⟨dy',e2,q2⟩:=zcw r2 (yC l2); obtain ⟨u1,e3,q3⟩:=v1.get (yC l1); obtain ⟨u2,e4,q4⟩:=v2.get (yC l2)
   have z1:its.toArray[j]=u1:=by
    have:=yG.mp e3
    obtain ⟨_,z⟩:=this
    simpa using z
   have z2:jts.toArray[j]=u2:=by
    have:=yG.mp e4
    obtain ⟨_,z⟩:=this
    simpa using z
   rw [z1,z2]
   exact ih A.in1 _ _ u1 u2 dx' dy' (e j) (by show A.units+1+n<cLine; omega) q1 q2 q3 q4 (he j dx' dy' e1 e2)
  cases dx with
  | tup xs =>
   cases dy with
   | tup ys =>
    obtain ⟨a,vs,rfl,h1,h2⟩:=d1.tupI; obtain ⟨c,ws,rfl,h3,h4⟩:=d2.tupI; cases rx; cases ry
    by_cases hac:a=c
    ·subst hac
     have e:=I.tuple_inj (zaE sub h1) (zaE sub h3); subst e; rw [zdB (zhP I sub n) h2 h4 h]; exact SeqAt.EqAt.same _
    ·obtain ⟨its,r1,p1,_⟩:=I.tuple (zaE sub h1)
     obtain ⟨jts,r2,p2,_⟩:=I.tuple (zaE sub h3); obtain ⟨e,he,hb⟩:=zcU h
     have lx:xs.length=its.length:=by rw [<- zl h2,r1.length]
     have ly:ys.length=jts.length:=by rw [<- zl h4,r2.length]
     have hb':b=((List.range (min its.toArray.size jts.toArray.size)).all e && its.toArray.size == jts.toArray.size):=by
      rw [hb,lx,ly]; simp
     rw [hb']
     exact SeqAt.EqAt.of_refs hac (SeqAt.RcAt.tuples (show s.heap.IsTuple a its.toArray from p1) (show s.heap.IsTuple c jts.toArray from p2) (by omega) (items h2 h4 r1 r2 he))
   | _=>exact zm0 h
  | lst xs =>
   cases dy with
   | lst ys =>
    obtain ⟨a,vs,rfl,h1,h2⟩:=d1.lstI; obtain ⟨c,ws,rfl,h3,h4⟩:=d2.lstI; cases rx; cases ry; unfold eqD at h
    by_cases hac:a=c
    ·subst hac
     have e:=I.list_inj (zaF sub h1) (zaF sub h3); subst e
     have hl:xs.length=ys.length:=by rw [<- zl h2,<- zl h4]
     rw [yP hl] at h; rw [zdB (zhP I sub n) h2 h4 h]; exact SeqAt.EqAt.same _
    ·obtain ⟨its,r1,p1,_⟩:=I.list (zaF sub h1)
     obtain ⟨jts,r2,p2,_⟩:=I.list (zaF sub h3)
     have lx:xs.length=its.length:=by rw [<- zl h2,r1.length]
     have ly:ys.length=jts.length:=by rw [<- zl h4,r2.length]
     by_cases hl:xs.length=ys.length
     ·rw [yP hl] at h
      obtain ⟨e,he,hb⟩:=zcU h
      have hs:its.toArray.size=jts.toArray.size:=by simp; omega
      have hb':b=((List.range its.toArray.size).all e):=by
       rw [hb,lx,ly]
       have z:(its.length == jts.length)=true:=by simp; omega
       have z2:min its.length jts.length=its.length:=by omega
       rw [z,z2,Bool.and_true]; simp
      rw [hb']
      exact SeqAt.EqAt.of_refs hac (SeqAt.RcAt.lists p1.isList p2.isList hs (by omega) (items h2 h4 r1 r2 he))
     ·rw [yN hl] at h
      cases h
      exact SeqAt.EqAt.of_refs hac (SeqAt.RcAt.lists_lengths p1.isList p2.isList (by simp; omega) (by omega))
   | _=>exact zm0 h
  | _=>exact zm0 h
end
section
variable {pins:List (Addr × Obj)} {σ:St} {H Hi:Hp} {s:Shared}
theorem zhM (I:L2.Inv X pins σ H s) (sub:zaM Hi H) {n:Nat} {A:Around} (hu:A.units+1+n<cLine) {vs ws:List V} {its jts:List Value} {xs ys:List D} {e:Nat->Bool} (r1:zbI X.K Hi vs xs) (r2:zbI X.K Hi ws ys) (v1:zaT vs its) (v2:zaT ws jts) (he:∀ (j:Nat) x y,xs[j]?=some x->ys[j]?=some y->eqD n x y=some (e j)) :
  ∀ j (h1:j<its.toArray.size) (h2:j<jts.toArray.size),SeqAt.EqAt A.in1 s its.toArray[j] jts.toArray[j] (e j):=fun j h1 h2=>by
 have l1:j<vs.length:=by rw [v1.length]; simpa using h1
 have l2:j<ws.length:=by rw [v2.length]; simpa using h2
 obtain ⟨dx',e1,q1⟩:=zcw r1 (yC l1); obtain ⟨dy',e2,q2⟩:=zcw r2 (yC l2); obtain ⟨u1,e3,q3⟩:=v1.get (yC l1); obtain ⟨u2,e4,q4⟩:=v2.get (yC l2)
 have z1:its.toArray[j]=u1:=by
  obtain ⟨_,z⟩:=yG.mp e3
  simpa using z
 have z2:jts.toArray[j]=u2:=by
  obtain ⟨_,z⟩:=yG.mp e4
  simpa using z
 rw [z1,z2]
 exact zpU I sub n A.in1 _ _ u1 u2 dx' dy' (e j) (by show A.units+1+n<cLine; omega) q1 q2 q3 q4 (he j dx' dy' e1 e2)
theorem zr5 (I:L2.Inv X pins σ H s) (sub:zaM Hi H) {n:Nat} {A:Around} {x y:V} {u v:Value} {dx dy:D} {b:Bool} (hu:A.units+n<cLine) (d1:Den X.K Hi x dx) (d2:Den X.K Hi y dy) (rx:zbh x u) (ry:zbh y v) (h:eqD n dx dy=some b) (hn:eqS dx dy=none) :
  SeqAt.RcAt A s u v b/\SeqAt.RcNeAt A s u v (!b):=by
 cases n with
 | zero=>rw [zd8,hn] at h; cases h
 | succ n =>
  cases dx with
  | tup xs =>
   cases dy with
   | tup ys =>
    obtain ⟨a,vs,rfl,h1,h2⟩:=d1.tupI; obtain ⟨c,ws,rfl,h3,h4⟩:=d2.tupI; cases rx; cases ry; obtain ⟨its,r1,p1,_⟩:=I.tuple (zaE sub h1); obtain ⟨jts,r2,p2,_⟩:=I.tuple (zaE sub h3); obtain ⟨e,he,hb⟩:=zcU h
    have lx:xs.length=its.length:=by rw [<- zl h2,r1.length]
    have ly:ys.length=jts.length:=by rw [<- zl h4,r2.length]
    have hb':b=((List.range (min its.toArray.size jts.toArray.size)).all e && its.toArray.size == jts.toArray.size):=by
     rw [hb,lx,ly]; simp
    have hi:=zhM (A:=A) I sub (by omega) h2 h4 r1 r2 he
    rw [hb']
    exact ⟨SeqAt.RcAt.tuples (show s.heap.IsTuple a its.toArray from p1) (show s.heap.IsTuple c jts.toArray from p2) (by omega) hi,SeqAt.RcNeAt.tuples (show s.heap.IsTuple a its.toArray from p1) (show s.heap.IsTuple c jts.toArray from p2) (by omega) hi⟩
   | _=>exact yL (hn.symm.trans h) (fun z=>nomatch z)
  | lst xs =>
   cases dy with
   | lst ys =>
    obtain ⟨a,vs,rfl,h1,h2⟩:=d1.lstI; obtain ⟨c,ws,rfl,h3,h4⟩:=d2.lstI; cases rx; cases ry; unfold eqD at h; obtain ⟨its,r1,p1,_⟩:=I.list (zaF sub h1); obtain ⟨jts,r2,p2,_⟩:=I.list (zaF sub h3)
    have lx:xs.length=its.length:=by rw [<- zl h2,r1.length]
    have ly:ys.length=jts.length:=by rw [<- zl h4,r2.length]
    by_cases hl:xs.length=ys.length
    ·rw [yP hl] at h
     obtain ⟨e,he,hb⟩:=zcU h
     have hs:its.toArray.size=jts.toArray.size:=by simp; omega
     have hb':b=((List.range its.toArray.size).all e):=by
      rw [hb,lx,ly]
      have z:(its.length == jts.length)=true:=by simp; omega
      have z2:min its.length jts.length=its.length:=by omega
      rw [z,z2,Bool.and_true]; simp
     have hi:=zhM (A:=A) I sub (by omega) h2 h4 r1 r2 he
     rw [hb']
     exact ⟨SeqAt.RcAt.lists p1.isList p2.isList hs (by omega) hi,SeqAt.RcNeAt.lists p1.isList p2.isList hs (by omega) hi⟩
    ·rw [yN hl] at h
     cases h
     exact ⟨SeqAt.RcAt.lists_lengths p1.isList p2.isList (by simp; omega) (by omega),SeqAt.RcNeAt.lists_lengths p1.isList p2.isList (by simp; omega) (by omega)⟩
   | _=>exact yL (hn.symm.trans h) (fun z=>nomatch z)
  | _=>exact yL (hn.symm.trans h) (fun z=>nomatch z)
end
def zhy:R2':=fun x y Q=>∃ b,eqD 100 x y=some b/\Q (.bl b)
def zmf:R2':=fun x y Q=>∃ b,eqD 100 x y=some b/\Q (.bl (!b))
theorem zhO {n:Nat} {x y:D} {b c:Bool} (h:eqD n x y=some b) (e:eqS x y=some c):b=c:=by
 cases n with
 | zero=>rw [zd8,e] at h; exact (Option.some.inj h).symm
 | succ n =>
  have z:eqD (n+1) x y=eqS x y:=by
   cases x <;> first | rfl | (cases y <;> first | rfl | (exact yL (show (none:Option Bool)=some c from e) (fun z=>nomatch z)))
  rw [z,e] at h; exact (Option.some.inj h).symm
theorem zbN (hu:X.A.units+100<cLine):Op2 X (compareOp .Eq) zhy:=by
 refine ⟨fun x y H Q=>∃ Hi dx dy b,zaM Hi H/\Den X.K Hi x dx/\Den X.K Hi y dy/\eqD 100 dx dy=some b/\Q (.bl b) H,?_,?_⟩
 ·intro pins s σ H x y v u Q I rx ry h
  obtain ⟨Hi,dx,dy,b,sub,d1,d2,e,q⟩:=h
  cases hn:eqS dx dy with
  | some c =>
   obtain ⟨h1,h2⟩:=zmF d1 d2 hn; refine zrm pins s σ H x y v u Q I rx ry ⟨h1,?_⟩; rw [h2,<- zhO e hn]; exact q
  | none=>exact (zr5 I sub hu d1 d2 rx ry e hn).1 X.prog X.w X.xe _ ⟨.bl b,H,I,rfl,q⟩
 ·rintro Hi H x y dx dy Q Q2 s d1 d2 ⟨b,e,q⟩ fin
  exact ⟨Hi,dx,dy,b,s.sub,d1,d2,e,fin Hi H _ _ (Ext.refl s) (.bl b) q⟩
theorem zjs (hu:X.A.units+100<cLine):Op2 X (compareOp .NotEq) zmf:=by
 refine ⟨fun x y H Q=>∃ Hi dx dy b,zaM Hi H/\Den X.K Hi x dx/\Den X.K Hi y dy/\eqD 100 dx dy=some b/\Q (.bl (!b)) H,?_,?_⟩
 ·intro pins s σ H x y v u Q I rx ry h
  obtain ⟨Hi,dx,dy,b,sub,d1,d2,e,q⟩:=h
  cases hn:eqS dx dy with
  | some c =>
   obtain ⟨h1,h2⟩:=zmF d1 d2 hn; refine zri pins s σ H x y v u Q I rx ry ⟨h1,?_⟩; rw [h2,<- zhO e hn]; exact q
  | none=>exact (zr5 I sub hu d1 d2 rx ry e hn).2 X.prog X.w X.xe _ ⟨.bl (!b),H,I,rfl,q⟩
 ·rintro Hi H x y dx dy Q Q2 s d1 d2 ⟨b,e,q⟩ fin
  exact ⟨Hi,dx,dy,b,s.sub,d1,d2,e,fin Hi H _ _ (Ext.refl s) (.bl (!b)) q⟩
instance:MR2 zhy:=⟨fun _ _ _ _ h ⟨b,e,q⟩=>⟨b,e,h _ q⟩⟩
instance:MR2 zmf:=⟨fun _ _ _ _ h ⟨b,e,q⟩=>⟨b,e,h _ q⟩⟩
@[simp] theorem zrH (n:Nat) (i j:Int):eqD n (.int i) (.int j)=some (decide (i=j)):=by cases n <;> rfl
@[simp] theorem zn9 (n:Nat) (i j:List Nat):eqD n (.str i) (.str j)=some (decide (i=j)):=by cases n <;> rfl
@[simp] theorem zsn (n:Nat) (i j:Bool):eqD n (.bl i) (.bl j)=some (decide (i=j)):=by cases n <;> rfl
@[simp] theorem zqv {Q:D->Prop} (i j:Int):zhy (.int i) (.int j) Q↔Q (.bl (decide (i=j))):=by simp [zhy]
@[simp] theorem zkV {Q:D->Prop} (i j:List Nat):zhy (.str i) (.str j) Q↔Q (.bl (decide (i=j))):=by simp [zhy]
@[simp] theorem zm6 {Q:D->Prop} (i j:Bool):zhy (.bl i) (.bl j) Q↔Q (.bl (decide (i=j))):=by simp [zhy]
@[simp] theorem zql {Q:D->Prop} (i j:List Nat):zmf (.str i) (.str j) Q↔Q (.bl (!decide (i=j))):=by simp [zmf]
def plc (p:List (List Nat)):D:=.tup (p.map .str)
theorem zhN (f:D->D->Option Bool) (hf:∀ i j:List Nat,f (.str i) (.str j)=some (decide (i=j))):∀ p q:List (List Nat),eqL f (p.map .str) (q.map .str)=some (decide (p=q))
 | [],[]=>rfl
 | [],_ :: _=>by simp [eqL]
 | _ :: _,[]=>by simp [eqL]
 | a :: p,b :: q=>by
  simp only [yq,eqL,hf,zhN f hf p q]
  by_cases h1:a=b <;> by_cases h2:p=q <;> simp [h1,h2]
theorem zjP (n:Nat) (p q:List (List Nat)):eqD (n+1) (plc p) (plc q)=some (decide (p=q)):=zhN _ (fun i j=>zn9 n i j) p q
@[simp] theorem zqu {Q:D->Prop} (p q:List (List Nat)):zhy (plc p) (plc q) Q↔Q (.bl (decide (p=q))):=by
 unfold zhy; rw [zjP]; simp
@[simp] theorem zqm {Q:D->Prop} (p q:List (List Nat)):zmf (plc p) (plc q) Q↔Q (.bl (!decide (p=q))):=by
 unfold zmf; rw [zjP]; simp
end
section
variable {K:W.Frag} {n:Nat} {W:Wd} {Hi Hi' H H':Hp} {Γ:Sts} {σ:St} {a:Addr} {o:OD}
theorem zhZ {i:Nat} (h:i<n) (e:adr n W σ i=some a):σ[i]?=some (some (.ref a)):=by
 unfold adr at e; rw [yP h] at e; exact ze0 e
theorem Good.freeze (g:Good K n W Hi Γ σ H) {i:Nat} (hi:i<n) (e:Γ[i]?=some (.own o)):∃ Hi',zaM Hi Hi'/\Good K n W Hi' (Γ.set i (.val o.toD)) σ H:=by
 obtain ⟨a,h1,h2,h3,h4⟩:=g.own i o e; obtain ⟨u,hu⟩:=h4.there
 have hil:i<Γ.length:=(yG.mp e).1
 have g1:Good K n W Hi (Γ.set i .emp) σ H:=g.weak fun j s hs=>by
  by_cases hj:j=i
  ·subst hj
   rw [yz hil] at hs; exact .inl (Option.some.inj hs).symm
  ·rw [yX (fun z=>hj z.symm)] at hs
   exact .inr hs
 have g2:=g1.freezeA h2 (h3 hi) ⟨fun j o' hj z=>by
  by_cases hji:j=i
  ·subst hji
   rw [yz hil] at hj; cases hj
  ·rw [yX (fun z=>hji z.symm)] at hj
   exact hji (g.apart j i _ _ a hj e z h1),fun j d xs hj=>by
  by_cases hji:j=i
  ·subst hji
   rw [yz hil] at hj; cases hj
  ·rw [yX (fun z=>hji z.symm)] at hj
   exact (g.bk j d a xs hj).ne i _ e h1⟩ hu
 refine ⟨upd Hi a u,zaB h2 u,?_⟩; have hv:=zhZ hi h1; have g3:=g2.set (i:=i) (v:=.ref a) (d:=o.toD) hi (h4.den h2 hu)
 have es:σ.set i (some (.ref a))=σ:=by
  apply List.ext_getElem?
  intro j
  by_cases hj:j=i
  ·subst hj
   rw [yz (by rw [g.len]; exact hi),hv]
  ·rw [yX (fun z=>hj z.symm)]
 rw [es,List.set_set] at g3; exact g3
end
section
variable {X:Cx}
def zq (n i:Nat) (t:TS'):TS':=fun N Γ=>i<n/\∃ o,Γ[i]?=some (.own o)/\t N (Γ.set i (.val o.toD))
theorem zii (i:Nat) {sts:List Stmt} {t:TS'} (h:PSs' X sts t):PSs' X sts (zq X.N.length i t):=by
 refine ⟨PSs.weak h.h ?_⟩
 rintro N2 σ H ⟨W,Hi,Γ,N,g,⟨hi,o,e,q⟩,l⟩
 obtain ⟨Hi',s1,g1⟩:=g.freeze hi e; exact ⟨W,Hi',_,N,g1,q,l.mono s1⟩
def zaq (i:Nat) (te:TE'):TS':=fun N Γ=>(∃ ds0,Γ[i]?=some (.own (.lst ds0)))/\te Γ fun d Γ1=>∃ ds,Γ1[i]?=some (.own (.lst ds))/\ds.length<sizeLine/\N.nx (Γ1.set i (.own (.lst (ds ++ [d]))))
theorem zdO (i:Nat) {x:Str} {e:Expr} {te:TE'} {pos p apos cpos:Pos} (he:PE' X e te) (hN:X.N[i]?=some x:=by rfl) (hv:Vis X.env.scope x:=by first | exact Or.inl rfl | exact Or.inr (Or.inl rfl) | exact Or.inr (Or.inr rfl)) (hd:(x == ("__debug__":Str))=false:=by decide)
  (hcd:(x == ("__classdict__":Str))=false:=by decide) (hst:zb8 e=false:=by rfl)
  (hbase:attributeBase (.Name x p) "append" X.env (eval (.Name x p) X.env)=eval (.Name x p) X.env:=by rfl) (hline:(apos.endLine == cpos.line)=true:=by rfl)
  (hs:swapsWith (.Call (.Attribute (.Name x p) "append" apos) [e] [] cpos) none pos.line X.env=pure false:=by rfl) :
  PS' X (.Expr (.Call (.Attribute (.Name x p) "append" apos) [e] [] cpos) pos) (zaq i te):=by
 have pl:zch [e]=true:=by unfold zch; rw [hst]; rfl
 have hfew:((backTo cpos (starEach [e] X.env)).all (fun x=>!x.1) && (backToKw cpos (keywordEach [] X.env)).all (fun x=>x.1.isSome)
   && decide ([e].length+([]:List Keyword).length+(if ([]:List Keyword).isEmpty then 0 else 1)<30))=true:=by
  rw [zaP hst]; rfl
 have base:=zng (zpg PySem.F.plainAttrs_list PySem.F.slot_list_append PySem.F.type_list_append (zev (X:=X)) (zf0 (i:=i) (pos:=p) hN hv hd hcd) (zcR he.h zhB (zaP hst)) hbase hfew hline (zaP hst) rfl) hs; refine ⟨PS.weak base ?_⟩
 rintro N2 σ H ⟨W,Hi,Γ,N,g,⟨⟨ds0,e0⟩,q⟩,l⟩
 have hi:i<X.N.length:=(yG.mp hN).1
 obtain ⟨a,h1,h2,h3,vs0,h4,h5⟩:=g.own i _ e0; refine ⟨.ref a,zhZ hi h1,.inl ⟨rfl,vs0,SqL.of h4⟩,W,Hi,Γ,_,g,q,?_⟩
 rintro v H1 ⟨Hi1,d,Γ1,s1,g1,den,ds,e1,hl,q1⟩
 obtain ⟨a',k1,k2,k3,vs,k4,k5⟩:=g1.own i _ e1; rw [h1] at k1; cases k1
 refine ⟨a,vs,v,rfl,rfl,k4,by rw [zl k5]; exact hl,?_⟩
 exact l.nx σ _ Hi1 _ s1 (g1.put (o:=.lst (ds ++ [d])) e1 h1 ⟨vs ++ [v],zw,zbg k5 (.cons den .nil)⟩) q1
instance {i:Nat} {te:TE'} [ME te]:MS (zaq i te):=⟨fun N N' Γ h ⟨a,q⟩=>⟨a,ME.mono (t:=te) _ _ _ (fun _ _ ⟨ds,e,l,z⟩=>⟨ds,e,l,h.nx _ z⟩) q⟩⟩
end
inductive Imm:D->Prop where
 | non:Imm .non
 | bl (b:Bool):Imm (.bl b)
 | int (i:Int):Imm (.int i)
 | str (l:List Nat):Imm (.str l)
 | ty (n:String):Imm (.ty n)
 | cls (C:Addr):Imm (.cls C)
 | tup {ds:List D} (h:∀ d,d ∈ ds->Imm d):Imm (.tup ds)
theorem Imm.plc (p:List (List Nat)):Imm (plc p):=.tup fun d hd=>by
 obtain ⟨l,_,rfl⟩:=yb.mp hd; exact .str l
theorem Imm.den {K:W.Frag} {H H':Hp} {v:V} {d:D} (im:Imm d) (h:Den K H v d) (e:∀ a xs,(H a=some (.tup xs)->H' a=some (.tup xs))/\∀ o,H a=some (.frz o (.tup xs))->H' a=some (.frz o (.tup xs))):Den K H' v d:=by
 induction h with
 | non=>exact .non
 | bl b=>exact .bl b
 | int i=>exact .int i
 | str l=>exact .str l
 | ty n=>exact .ty n
 | cls C=>exact .cls C
 | tup h l r ih =>
  cases im with
  | tup hi =>
   exact .tup ((e _ _).1 h) l fun j v d h1 h2=>ih j v d h1 h2 (hi d (yW h2))
 | _=>cases im
def za9:Slot->Slot
 | .own o=>.val o.toD
 | .val d=>.val d
 | .bk d _ xs=>.val (d xs.toD)
 | _=>.emp
section
variable {K:W.Frag} {n:Nat} {W:Wd} {Hi Hi' H H':Hp} {Γ:Sts} {σ:St} {a:Addr} {o:OD}
def zdW (n:Nat) (W:Wd) (Γ:Sts) (σ:St) (b:Addr):Prop:=(∃ (i:Nat) (o:OD),i<n/\Γ[i]?=some (.own o)/\adr n W σ i=some b)\/∃ (i:Nat) (d:D->D) (xs:OD),Γ[i]?=some (.bk d b xs)
open Classical in
noncomputable def zb1 (n:Nat) (W:Wd) (Γ:Sts) (σ:St) (Hi H:Hp):Hp:=fun b=>if zdW n W Γ σ b then H b else Hi b
open Classical in
noncomputable def zcW (n:Nat) (W:Wd) (Γ:Sts) (σ:St) (Hb:Hp):Hp:=fun b=>if zdW n W Γ σ b then none else Hb b
theorem zdW.hi (g:Good K n W Hi Γ σ H) {b:Addr} (h:zdW n W Γ σ b):Hi b=none/\∃ u,H b=some u/\(∀ xs,u≠.tup xs)/\∀ o xs,u≠.frz o xs:=by
 have key:∃ o,Hi b=none/\zco K Hi H b o:=by
  rcases h with ⟨i,o,hi,e,ad⟩ | ⟨i,d,xs,e⟩
  ·obtain ⟨a,h1,h2,h3,h4⟩:=g.own i o e
   rw [ad] at h1; cases h1; exact ⟨o,h2,h4⟩
  ·exact ⟨xs,(g.bk i d b xs e).hi,(g.bk i d b xs e).at_⟩
 obtain ⟨o,h2,h4⟩:=key; refine ⟨h2,?_⟩
 cases o with
 | lst ds=>obtain ⟨vs,q,_⟩:=h4; exact ⟨_,q,⟨fun _ z=>(by cases z),fun _ _ z=>(by cases z)⟩⟩
 | dic ds=>obtain ⟨kvs,q,_⟩:=h4; exact ⟨_,q,⟨fun _ z=>(by cases z),fun _ _ z=>(by cases z)⟩⟩
 | dit ds=>obtain ⟨kvs,ep,q,_⟩:=h4; exact ⟨_,q,⟨fun _ z=>(by cases z),fun _ _ z=>(by cases z)⟩⟩
 | obj C ds=>obtain ⟨dx,fs,q,_⟩:=h4; exact ⟨_,q,⟨fun _ z=>(by cases z),fun _ _ z=>(by cases z)⟩⟩
def zad (n:Nat) (Γ:Sts):Sts:=(Γ.take n).map za9
theorem Good.look (g:Good K n W Hi Γ σ H):zaM Hi (zb1 n W Γ σ Hi H)/\Good K n ⟨H,zb1 n W Γ σ Hi H,[]⟩ (zb1 n W Γ σ Hi H) (zad n Γ) σ H:=by
 have s1:zaM Hi (zb1 n W Γ σ Hi H):=fun b u e=>by
  unfold zb1
  rw [yN (fun z=>by rw [(zdW.hi g z).1] at e; cases e)]
  exact e
 have inv:∀ (i:Nat) (sl:Slot),(zad n Γ)[i]?=some sl->∃ s0,Γ[i]?=some s0/\i<n/\sl=za9 s0:=fun i sl e=>by
  unfold zad at e; rw [yH] at e
  cases hj:(Γ.take n)[i]? with
  | none=>rw [hj] at e; cases e
  | some s0 =>
   rw [hj] at e; rw [List.getElem?_take] at hj; split at hj
   ·exact ⟨s0,hj,by assumption,(Option.some.inj e).symm⟩
   ·cases hj
 refine ⟨s1,g.len,⟨fun b u e=>?_,fun b xs e=>s1 _ _ (g.fz.tups b xs e)⟩,fun b u e _=>e,fun b u e=>⟨u,e⟩,fun b u e=>rfl,fun i d e=>?_,fun i o e=>?_,fun i j o o' a e=>?_,fun i d b xs e=>?_⟩
 ·unfold zb1 at e
  split at e
  ·exact e
  ·exact g.sub b u e
 ·obtain ⟨s0,hj,hi,hs⟩:=inv i _ e
  cases s0 with
  | val d' =>
   cases hs; obtain ⟨v,h1,h2⟩:=g.val i d hj; exact ⟨v,h1,h2.mono s1⟩
  | own o =>
   cases hs; obtain ⟨a,h1,h2,h3,h4⟩:=g.own i o hj; refine ⟨.ref a,zhZ hi h1,?_⟩
   have hO:zdW n W Γ σ a:=.inl ⟨i,o,hi,hj,h1⟩
   have hl:zb1 n W Γ σ Hi H a=H a:=by unfold zb1; rw [yP hO]
   cases o with
   | lst ds=>obtain ⟨vs,q,r⟩:=h4; exact Den.mkL (SqL.of (hl.trans q)) (r.mono s1)
   | dic ds=>obtain ⟨kvs,q,r⟩:=h4; exact Den.mkDK (.inl (hl.trans q)) (r.mono s1)
   | dit ds=>obtain ⟨kvs,ep,q,r⟩:=h4; exact Den.mkDT (hl.trans q) (r.mono s1)
   | obj C ds=>obtain ⟨dx,fs,q,r⟩:=h4; exact Den.mkO (hl.trans q) (r.mono s1)
  | emp=>cases hs
  | bk d' b xs =>
   cases hs
   obtain ⟨⟨v,h1,h2⟩,hol,_,_,h4,_⟩:=g.bk i d' b xs hj
   have hl:zb1 n W Γ σ Hi H b=H b:=by unfold zb1; rw [yP (.inr ⟨i,d',xs,hj⟩)]
   refine ⟨v,h1,hol b _ v xs ?_ (h2.mono s1)⟩
   cases xs with
   | lst ds=>obtain ⟨vs,q,r⟩:=h4; exact Den.mkL (SqL.of (hl.trans q)) (r.mono s1)
   | dic ds=>obtain ⟨kvs,q,r⟩:=h4; exact Den.mkDK (.inl (hl.trans q)) (r.mono s1)
   | dit ds=>obtain ⟨kvs,ep,q,r⟩:=h4; exact Den.mkDT (hl.trans q) (r.mono s1)
   | obj C ds=>obtain ⟨dx,fs,q,r⟩:=h4; exact Den.mkO (hl.trans q) (r.mono s1)
 all_goals
  obtain ⟨s0,hj,hi,hs⟩:=inv i _ e
  cases s0 <;> cases hs
theorem Good.unlook (g:Good K n W Hi Γ σ H) {Hb:Hp} {Γ':Sts} (sb:zaM (zb1 n W Γ σ Hi H) Hb) (g':Good K n ⟨H,zb1 n W Γ σ Hi H,[]⟩ Hb Γ' σ H') :
  Ext Hi H (zcW n W Γ σ Hb) H'/\Good K n W (zcW n W Γ σ Hb) Γ σ H'/\∀ v d,Imm d->Den K Hb v d->Den K (zcW n W Γ σ Hb) v d:=by
 have kp:∀ b u,H b=some u->H' b=some u:=fun b u e=>g'.keep b u e (by simp)
 have s1:zaM Hi (zcW n W Γ σ Hb):=fun b u e=>by
  have no:¬ zdW n W Γ σ b:=fun z=>by rw [(zdW.hi g z).1] at e; cases e
  unfold zcW; rw [yN no]; refine sb b u ?_; unfold zb1; rw [yN no]; exact e
 have ex:Ext Hi H (zcW n W Γ σ Hb) H':=by
  refine ⟨s1,kp,⟨fun b u e=>?_,fun b xs e=>?_⟩,fun b u e=>?_⟩
  ·unfold zcW at e
   split at e
   ·cases e
   ·exact g'.sub b u e
  ·have z:=g'.fz.tups b xs e
   have no:¬ zdW n W Γ σ b:=fun z=>by
    obtain ⟨_,w,hw,w1,_⟩:=zdW.hi g z; rw [kp b w hw] at e; cases e; exact w1 xs rfl
   unfold zcW; rw [yN no]; exact z
  ·unfold zcW
   split
   ·rename_i z
    exact (zdW.hi g z).1.symm
   ·rename_i z
    rw [g'.fro b u e]
    show zb1 n W Γ σ Hi H b=Hi b
    unfold zb1; rw [yN z]
 refine ⟨ex,g.ext ex,fun v d im den=>im.den den fun b xs=>?_⟩
 have no:∀ u,Hb b=some u->((∃ xs,u=.tup xs)\/∃ o xs,u=.frz o xs)->¬ zdW n W Γ σ b:=fun u e hu z=>by
  obtain ⟨_,w,hw,w1,w2⟩:=zdW.hi g z; have e2:=g'.sub b u e; rw [kp b w hw] at e2; cases e2
  rcases hu with ⟨xs,hu⟩ | ⟨o,xs,hu⟩
  ·exact w1 xs hu
  ·exact w2 o xs hu
 constructor
 ·intro e
  unfold zcW; rw [yN (no _ e (.inl ⟨_,rfl⟩))]; exact e
 ·intro o e
  unfold zcW; rw [yN (no _ e (.inr ⟨_,_,rfl⟩))]; exact e
end
section
variable {X:Cx}
def zan (n:Nat) (t:TE'):TE':=fun Γ Q=>t (zad n Γ) fun d _=>Imm d/\Q d Γ
def zC (n:Nat) (t:TT'):TT':=fun Γ Q=>t (zad n Γ) fun b _=>Q b Γ
theorem znu {e:Expr} {t:TE'} (h:PE' X e t):PE' X e (zan X.N.length t):=by
 refine ⟨PE.weak h.h ?_⟩
 rintro σ H Q ⟨W,Hi,Γ,Q',g,q,fin⟩
 obtain ⟨s1,g1⟩:=g.look; refine ⟨_,_,_,_,g1,q,?_⟩
 rintro v H' ⟨Hb,d,Γ',sb,g',den,im,q'⟩
 obtain ⟨s2,g2,hd⟩:=g.unlook sb g'; exact fin v H' ⟨_,d,Γ,s2.hi,g2,hd v d im den,q'⟩
theorem znc {e:Expr} {t:TT'} (h:PT' X e t):PT' X e (zC X.N.length t):=by
 refine ⟨PT.weak h.h ?_⟩
 rintro σ H Q ⟨W,Hi,Γ,Q',g,q,fin⟩
 obtain ⟨s1,g1⟩:=g.look; refine ⟨_,_,_,_,g1,q,?_⟩; intro b H' Hb Γ' sb g' q'; obtain ⟨s2,g2,hd⟩:=g.unlook sb g'; exact fin b H' _ Γ s2.hi g2 q'
instance {n:Nat} {t:TE'} [ME t]:ME (zan n t):=⟨fun Γ _ _ h q=>ME.mono (t:=t) _ _ _ (fun _ _ ⟨a,z⟩=>⟨a,h _ _ z⟩) q⟩
instance {n:Nat} {t:TT'} [MT t]:MT (zC n t):=⟨fun Γ _ _ h q=>MT.mono (t:=t) _ _ _ (fun _ _ z=>h _ _ z) q⟩
end
end PL
namespace L2
open PySem PySem.Spec PyProof.Rows
section
variable {P:Program} {w:World} {H:Hp} {h:Heap} {a:Addr} {kvs:List (List Key × V)} {ep:Nat}
theorem zeU (ok:HOk P w H h) (e:H a=some (.dE kvs ep)):kvs.length<=sizeLine/\(a == sysModules)=false /\
  ∃ xs,KT H kvs xs/\h.DictOfH (tupleKind (zbF P w)) a xs/\∃ o es,h.get? a=some o/\o.ExactDict/\o.data=.dict es ep/\es.toList=xs.map (entryOfKey (tupleKind (zbF P w))):=by
 obtain ⟨z,y,xs,r,o,es,h1,h2,h3,h4,h5⟩:=(show zbv P w H h a (.dE kvs ep) from ok a _ e)
 refine ⟨z,y,xs,r,⟨o,es,ep,h1,h2,h3,h4,fun x hx=>?_,h5⟩,o,es,h1,h2,h3,h4⟩
 obtain ⟨j,hj⟩:=List.getElem?_of_mem hx
 have hl:j<kvs.length:=by
  rw [Paired.length r]; exact (yG.mp hj).1
 have q:=PL.paired_get j r (yC hl) hj
 exact ze7 ok (by rw [<- q.1]; exact q.2.1)
end
def zmK (H:Hp) (a:Addr) (y:V) (r:Option V):Prop:=∃ kvs ep k b,H a=some (.dE kvs ep)/\y=.ref b/\H b=some (.tup (k.map kV))/\r=zkC kvs k
section
variable {X:Cx} {pins:List (Addr × Obj)} {σ:St} {H:Hp} {s:Shared} {a:Addr} {y v:V} {u r:Value} {o:Option V} {A:Around} {E:Value->Shared->Prop}
theorem zlY (I:Inv X pins σ H s) (g:zmK H a y o):s.TypeIs (.ref a) "dict":=by
 obtain ⟨kvs,ep,k,b,e,_⟩:=g; obtain ⟨_,_,xs,_,dd,_⟩:=zeU I.hok e; exact dd.typeIs
theorem zjS {Q:Value->Shared->Prop} (hu:A.units+1<cLine) (I:Inv X pins σ H s) (g:zmK H a y (some v)) (ry:zbh y u) (h:∀ w' s',Inv X pins σ H s'->zbh v w'->Q w' s') :
  wpAny (model X.prog X.w) A (getItem (.ref a) u) Q E s:=by
 obtain ⟨kvs,ep,k,b,e,ey,eb,l⟩:=g; subst ey
 cases (show u=Value.ref b from ry)
 obtain ⟨z,hd,xs,rel,dd,_⟩:=zeU I.hok e
 obtain ⟨w',hw,rw'⟩:=zl6.some_of (v:=v) (o:=(atKey xs k).map (·.2)) (by rw [l]; exact rel.val k)
 obtain ⟨p,hp,hp2⟩:=Option.map_eq_some_iff.mp hw; refine wpAny_getItem_heap (tupleKind_room_in1 hu) (ze7 I.hok eb) dd hp ?_; rw [hp2]; exact h w' _ (I.tok _) rw'
theorem zsS {Q:Value->Shared->Prop} (hu:A.units+1<cLine) (I:Inv X pins σ H s) (g:zmK H a y o) (ry:zbh y u) (h:∀ s',Inv X pins σ H s'->Q (.bool o.isSome) s') :
  wpAny (model X.prog X.w) A (compareOp .In u (.ref a)) Q E s:=by
 obtain ⟨kvs,ep,k,b,e,ey,eb,l⟩:=g; subst ey
 cases (show u=Value.ref b from ry)
 obtain ⟨z,hd,xs,rel,dd,_⟩:=zeU I.hok e; refine wpAny_in_heap (tupleKind_room_in1 hu) (ze7 I.hok eb) hd dd ?_; have q:=(rel.val k).isSome_eq; rw [Option.isSome_map] at q; rw [<- q,<- l]; exact h _ (I.tok _)
theorem zoa {Q:Value->Shared->Prop} (hu:A.units+1<cLine) (I:Inv X pins σ H s) (g:zmK H a y o) (ry:zbh y u) (h:∀ s',Inv X pins σ H s'->Q (.bool (!o.isSome)) s') :
  wpAny (model X.prog X.w) A (compareOp .NotIn u (.ref a)) Q E s:=by
 obtain ⟨kvs,ep,k,b,e,ey,eb,l⟩:=g; subst ey
 cases (show u=Value.ref b from ry)
 obtain ⟨z,hd,xs,rel,dd,_⟩:=zeU I.hok e; refine wpAny_notIn_heap (tupleKind_room_in1 hu) (ze7 I.hok eb) hd dd ?_; have q:=(rel.val k).isSome_eq; rw [Option.isSome_map] at q; rw [<- q,<- l]; exact h _ (I.tok _)
theorem zjR {kvs:List (List Key × V)} {ep:Nat} {k:List Key} {b:Addr} {Q:Unit->Shared->Prop} (hu:A.units+1<cLine) (I:Inv X pins σ H s) (e:H a=some (.dE kvs ep)) (eb:H b=some (.tup (k.map kV))) (l:kvs.length<sizeLine) (rv:zbh v r)
  (h:∀ ep' s',Inv X pins σ (upd H a (.dE (zjc kvs k v) ep')) s'->Q () s'):wpAny (model X.prog X.w) A (setItem (.ref a) (.ref b) r) Q E s:=by
 obtain ⟨z,hd,xs,rel,dd,_⟩:=zeU I.hok e
 have hz:xs.length<=sizeLine:=by rw [<- Paired.length rel]; exact z
 have hl:(zjc kvs k v).length<=sizeLine:=by have:=zg7 kvs k v; omega
 refine wpAny_setItem_heap (hsz:=hz) (tupleKind_room_in1 hu) (ze7 I.hok eb) dd fun h' dd' hs=>?_
 obtain ⟨q,es,ep',hq,h2,h3,h4,_,h5⟩:=dd'
 refine h ep' _ (zjY I (by rw [e]; exact True.intro) hs ⟨q,hq⟩ ⟨hl,hd,_,(rel.put k eb rv).keeps fun c ys ec=>?_,q,es,hq,h2,h3,h4,h5⟩)
 rw [zU (zpy ec e (fun z=>nomatch z))]
 exact ec
end
section
variable {X:Cx}
theorem znW (hu:X.A.units+1<cLine):IxR X (fun x y H Q=>∃ a v,x=.ref a/\zmK H a y (some v)/\Q v H):=by
 intro value slice pins s σ H x y v u Q I rx ry h hs; obtain ⟨a,w,rfl,g,q⟩:=h; cases rx
 exact tail_any (zlY I g) PySem.F.slot_dict_getitem.lookup (zjS hu I g ry fun w' s3 I3 rw'=>⟨w,H,I3,rw',q⟩) hs
theorem zpn (hu:X.A.units+1<cLine):OpR X (compareOp .In) (fun x y H Q=>∃ a o,y=.ref a/\zmK H a x o/\Q (.bl o.isSome) H):=by
 intro pins s σ H x y v u Q I rx ry h; obtain ⟨a,o,rfl,g,q⟩:=h; cases ry
 exact zsS hu I g rx fun s' I'=>⟨.bl _,H,I',rfl,q⟩
theorem zjo (hu:X.A.units+1<cLine):OpR X (compareOp .NotIn) (fun x y H Q=>∃ a o,y=.ref a/\zmK H a x o/\Q (.bl (!o.isSome)) H):=by
 intro pins s σ H x y v u Q I rx ry h; obtain ⟨a,o,rfl,g,q⟩:=h; cases ry
 exact zoa hu I g rx fun s' I'=>⟨.bl _,H,I',rfl,q⟩
def zqX (td ty tv:TE):TS:=fun D σ H=>tv σ H fun v H1=>td σ H1 fun x H2=>ty σ H2 fun y H3=>∃ a kvs ep k b,x=.ref a/\H3 a=some (.dE kvs ep)/\y=.ref b/\H3 b=some (.tup (k.map kV))/\kvs.length<sizeLine/\∀ ep',D.nx σ (upd H3 a (.dE (zjc kvs k v) ep'))
theorem znh {o i value:Expr} {pos pos':Pos} {td ty tv:TE} (hu:X.A.units+1<cLine) (ho:PE X o td) (hi:PE X i ty) (hv:PE X value tv) (hs:swapsWith value (some (.Subscript o i pos')) pos.line X.env=pure false) :
  PS X (.Assign [.Subscript o i pos'] value pos) (zqX td ty tv):=by
 intro pins s σ H D I h
 refine wpAny_Assign_Subscript (thn (hv pins s σ H _ I h) fun r s1 ⟨v,H1,I1,rv,q1⟩=>thn (ho pins s1 σ H1 _ I1 q1) fun u s2 ⟨x,H2,I2,rx,q2⟩=>thn (hi pins s2 σ H2 _ I2 q2) fun iv s3 ⟨y,H3,I3,ry,a,kvs,ep,k,b,ex,e,ey,eb,l,q3⟩=>?_) hs
 subst ex ey
 obtain rfl:u=Value.ref a:=rx
 obtain rfl:iv=Value.ref b:=ry
 exact zjR hu I3 e eb l rv fun ep' s4 I4=>⟨σ,_,I4,q3 ep'⟩
theorem zl1 {P:Program} {w:World} {H:Hp} (h:Heap) (hb:sysModules<h.objs.size):zbv P w H (h.push { cls:=.type "dict",data:=.dict #[] }) h.objs.size (.dE [] 0) :=
 ⟨yi _,beq_eq_false_iff_ne.mpr (Ne.symm (yS hb)),[],.nil,_,#[],yK _ rfl,⟨rfl,rfl,rfl⟩,rfl,rfl,List.nodup_nil⟩
theorem zfP (d:Addr) (k v:Value):storeAll d [(k,v)]=(dictSet d k v >>= fun _=>pure PUnit.unit):=by
 unfold storeAll; rw [List.forIn_cons]; simp only [bind_assoc,pure_bind,List.forIn_nil]
def zmS (tk tv:TE):TE:=fun σ H Q=>∀ p,H p=none->tk σ (upd H p (.dE [] 0)) fun x H1=>tv σ H1 fun y H2=>H2 p=some (.dE [] 0)/\∃ b ks,x=.ref b/\H2 b=some (.tup (ks.map kV))/\∀ ep',Q (.ref p) (upd H2 p (.dE [(ks,y)] ep'))
theorem zjT (hu:X.A.units+1<cLine) {pins:List (Addr × Obj)} {σ:St} {H2:Hp} {s2:Shared} {p b:Addr} {ks:List Key} {y:V} {u2:Value} {Q:Value->Shared->Prop} (I2:Inv X pins σ H2 s2) (e:H2 p=some (.dE [] 0)) (eb:H2 b=some (.tup (ks.map kV))) (r2:zbh y u2)
  (h:∀ ep' s3,Inv X pins σ (upd H2 p (.dE [(ks,y)] ep')) s3->Q (.ref p) s3):wpAny (model X.prog X.w) X.A (storeAll p [(Value.ref b,u2)]) (fun _ s3=>Q (.ref p) s3) X.xe s2:=by
 rw [zfP]; obtain ⟨z,hd,xs,rel,dd,_⟩:=zeU I2.hok e
 obtain rfl:xs=[]:=by
  have:=Paired.length rel
  exact Yb this.symm
 refine yA (wpAny_dictSet_heap (hsz:=yi _) (knd:=tupleKind (zbF X.prog X.w)) (show X.A.units<cLine by omega) (ze7 I2.hok eb) dd fun h' dd' hs=>?_)
 obtain ⟨q,es,ep',hq,h2,h3,h4,_,h5⟩:=dd'
 have hk:KT H2 (zjc [] ks y) (storedH [] ks b u2):=KT.put (kvs:=[]) (xs:=[]) .nil ks eb r2
 have hp:zjc ([]:List (List Key × V)) ks y=[(ks,y)]:=rfl
 rw [hp] at hk
 have ok:zbv X.prog X.w (upd H2 p (.dE [(ks,y)] ep')) h' p (.dE [(ks,y)] ep'):=by
  refine ⟨?_,hd,_,hk.keeps fun c ys ec=>?_,q,es,hq,h2,h3,h4,h5⟩
  ·rw [sizeLine_eq]; exact Nat.le_of_ble_eq_true rfl
  ·rw [zU (zpy ec e (fun z=>nomatch z))]
   exact ec
 exact yE (h ep' _ (zjY I2 (by rw [e]; exact True.intro) hs ⟨q,hq⟩ ok))
theorem zjj (hu:X.A.units+1<cLine) {k v:Expr} {tk tv:TE} {pos:Pos} (hk:PE X k tk) (hv:PE X v tv):PE X (.Dict [some k] [v] pos) (zmS tk tv):=by
 intro pins s σ H Q I q; have hn:=I.hok.fresh (yF s.heap.objs.size)
 have I1:=I.laid (a:=s.heap.objs.size) (o:=.dE [] 0) (h':=s.heap.push { cls:=.type "dict",data:=.dict #[] }) (t':=s.toks) (fun _ _ q=>yB _ q) (yF _) (zl1 s.heap I.big)
 refine wpAny_Dict_any rfl rfl (fun z=>nomatch z) (Nat.le_of_ble_eq_true rfl) ?_
 refine pairTrees_cons_walk (thn (hk pins _ σ _ _ I1 (q _ hn)) fun u1 s1 ⟨x,H1,J1,rx,q1⟩=>thn (hv pins s1 σ H1 _ J1 q1) fun u2 s2 ⟨y,H2,I2,ry,e,b,ks,ex,eb,q2⟩=>pairTrees_nil_walk ?_)
 subst ex
 obtain rfl:u1=Value.ref b:=rx
 exact zjT hu I2 e eb ry fun ep' s3 I3=>⟨.ref s.heap.objs.size,_,I3,rfl,q2 ep'⟩
end
end L2
namespace PL
open PySem L2
section
variable {K:W.Frag} {H Hi:Hp}
theorem zod {v:V}:∀ {k:Key},Den K H v (keyD k)->v=kV k
 | .inl i,h=>h.intI
 | .inr x,h=>h.strI
theorem zhS:∀ {vs:List V} {ks:List Key},zbI K H vs (ks.map keyD)->vs=ks.map kV
 | [],[],_=>rfl
 | [],_ :: _,h=>nomatch h
 | _ :: _,[],h=>nomatch h
 | v :: vs,k :: ks,.cons r t=>by rw [yq,<- zod r,<- zhS t]
theorem zlQ {a b:Key} (h:keyD a=keyD b):a=b:=by
 cases a with
 | inl i=>cases b with
  | inl j=>injection h with h; rw [h]
  | inr y=>cases h
 | inr x=>cases b with
  | inl j=>cases h
  | inr y =>
   injection h with h
   obtain ⟨⟨x⟩⟩:=x
   obtain ⟨⟨y⟩⟩:=y
   exact yc (fun l=>Sum.inr (Str.mk ⟨l⟩)) h
theorem zeC:∀ {a b:List Key},a.map keyD=b.map keyD->a=b
 | [],[],_=>rfl
 | [],_ :: _,h=>nomatch h
 | _ :: _,[],h=>nomatch h
 | x :: a,y :: b,h=>by
  injection h with h1 h2
  rw [zlQ h1,zeC h2]
theorem zfE {v:V} {ks:List Key} (h:Den K Hi v (.tup (ks.map keyD))):∃ b,v=.ref b/\Hi b=some (.tup (ks.map kV)):=by
 obtain ⟨a,vs,rfl,h1,h2⟩:=h.tupJ; rw [zhS h2] at h1; exact ⟨a,rfl,h1⟩
open Classical in
noncomputable def zce (ds:List (D × D)) (k:D):Option D:=(ds.find? fun p=>decide (p.1=k)).map (·.2)
open Classical in
noncomputable def zmH (ds:List (D × D)) (k v:D):List (D × D):=if (zce ds k).isSome=true then ds.map (fun p=>if p.1=k then (p.1,v) else p) else ds ++ [(k,v)]
theorem zj0 {p:D × D} {r:List (D × D)} {k:D} (e:p.1=k):zce (p :: r) k=some p.2:=by simp [zce,YU,e]
theorem zj1 {p:D × D} {r:List (D × D)} {k:D} (e:¬ p.1=k):zce (p :: r) k=zce r k:=by simp [zce,YU,e]
inductive OptD (K:W.Frag) (H:Hp):Option V->Option D->Prop where
 | none:OptD K H none none
 | some {v:V} {d:D} (h:Den K H v d):OptD K H (some v) (some d)
theorem zpT {kvs:List (List Key × V)} {ds:List (D × D)} (r:ziK K H kvs ds) (ks:List Key):OptD K H (zkC kvs ks) (zce ds (.tup (ks.map keyD))):=by
 induction r with
 | nil=>exact .none
 | @cons p q ps qs h t ih =>
  by_cases e:p.1=ks
  ·rw [zfb e,zj0 (h.1.trans (by rw [e]))]
   exact .some h.2
  ·rw [zfc e,zj1 (fun z=>e (zeC (by
    have:=h.1.symm.trans z
    injection this)))]
   exact ih
theorem OptD.isSome {o:Option V} {d:Option D} (h:OptD K H o d):o.isSome=d.isSome:=by cases h <;> rfl
open Classical in
theorem zqZ {ks:List Key} {v:V} {d:D} (h:Den K H v d) {kvs:List (List Key × V)} {ds:List (D × D)} (r:ziK K H kvs ds):ziK K H (kvs.map fun kv=>if kv.1=ks then (kv.1,v) else kv) (ds.map fun p=>if p.1=.tup (ks.map keyD) then (p.1,d) else p):=by
 induction r with
 | nil=>exact .nil
 | @cons p q ps qs hh t ih =>
  rw [yq,yq]; refine .cons ?_ ih
  by_cases e:p.1=ks
  ·rw [yP e,yP (hh.1.trans (by rw [e]))]
   exact ⟨hh.1,h⟩
  ·rw [yN e,yN (fun z=>e (zeC (by
    have:=hh.1.symm.trans z
    injection this)))]
   exact hh
theorem zsL {kvs:List (List Key × V)} {ds:List (D × D)} (r:ziK K H kvs ds) (ks:List Key) {v:V} {d:D} (h:Den K H v d):ziK K H (zjc kvs ks v) (zmH ds (.tup (ks.map keyD)) d):=by
 unfold zjc zmH; rw [zfd,(zpT r ks).isSome]; split
 ·exact zqZ h r
 ·exact zbg r (.cons ⟨rfl,h⟩ .nil)
end
section
variable {X:Cx}
def zgR:R2':=fun x y Q=>∃ (ds:List (D × D)) (ks:List Key) (v:D),x=.dit ds/\y=.tup (ks.map keyD)/\zce ds y=some v/\Q v
def zmg (neg:Bool):R2':=fun x y Q=>∃ (ks:List Key) (ds:List (D × D)),x=.tup (ks.map keyD)/\y=.dit ds/\Q (.bl (if neg then !(zce ds x).isSome else (zce ds x).isSome))
theorem zob {K:W.Frag} {Hi H:Hp} {x y:V} {ds:List (D × D)} {ks:List Key} (s:Fz Hi H) (d1:Den K Hi x (.dit ds)) (d2:Den K Hi y (.tup (ks.map keyD))):∃ a o,x=.ref a/\zmK H a y o/\OptD K Hi o (zce ds (.tup (ks.map keyD))):=by
 obtain ⟨a,kvs,ep,rfl,h1,h2⟩:=d1.ditI; obtain ⟨b,rfl,h3⟩:=zfE d2; exact ⟨a,_,rfl,⟨kvs,ep,ks,b,s.sub _ _ h1,rfl,s.sub _ _ h3,rfl⟩,zpT h2 ks⟩
theorem zrA (hu:X.A.units+1<cLine):Ixs X zgR:=⟨_,znW hu,by
 rintro Hi H x y dx dy Q Q2 s d1 d2 ⟨ds,ks,v,rfl,rfl,e,q⟩ fin
 obtain ⟨a,o,rfl,g,r⟩:=zob s d1 d2; rw [e] at r
 cases r with
 | some h=>exact ⟨a,_,rfl,g,fin Hi H _ _ (Ext.refl s) h q⟩⟩
theorem zrr (hu:X.A.units+1<cLine):Op2 X (compareOp .In) (zmg false):=⟨_,zpn hu,by
 rintro Hi H x y dx dy Q Q2 s d1 d2 ⟨ks,ds,rfl,rfl,q⟩ fin
 obtain ⟨a,o,rfl,g,r⟩:=zob s d2 d1; refine ⟨a,o,rfl,g,?_⟩; rw [r.isSome]; exact fin Hi H _ _ (Ext.refl s) (.bl _) q⟩
theorem zlj (hu:X.A.units+1<cLine):Op2 X (compareOp .NotIn) (zmg true):=⟨_,zjo hu,by
 rintro Hi H x y dx dy Q Q2 s d1 d2 ⟨ks,ds,rfl,rfl,q⟩ fin
 obtain ⟨a,o,rfl,g,r⟩:=zob s d2 d1; refine ⟨a,o,rfl,g,?_⟩; rw [r.isSome]; exact fin Hi H _ _ (Ext.refl s) (.bl _) q⟩
def zD (i:Nat) (tk tv:TE'):TS':=fun N Γ=>tv Γ fun v Γ1=>(∃ ds0,Γ1[i]?=some (.own (.dit ds0)))/\tk Γ1 fun k Γ2=>∃ (ds:List (D × D)) (ks:List Key),Γ2[i]?=some (.own (.dit ds))/\k=.tup (ks.map keyD)/\ds.length<sizeLine/\N.nx (Γ2.set i (.own (.dit (zmH ds k v))))
theorem zk2 (hu:X.A.units+1<cLine) (i:Nat) {x:Str} {k value:Expr} {tk tv:TE'} {p pos pos':Pos} (hk:PE' X k tk) (hv:PE' X value tv) (hN:X.N[i]?=some x:=by rfl) (hvi:Vis X.env.scope x:=by first | exact Or.inl rfl | exact Or.inr (Or.inl rfl) | exact Or.inr (Or.inr rfl)) (hd:(x == ("__debug__":Str))=false:=by decide)
  (hcd:(x == ("__classdict__":Str))=false:=by decide) (hs:swapsWith value (some (.Subscript (.Name x p) k pos')) pos.line X.env=pure false:=by rfl) :
  PS' X (.Assign [.Subscript (.Name x p) k pos'] value pos) (zD i tk tv):=by
 refine ⟨PS.weak (znh hu (zf0 (i:=i) (pos:=p) hN hvi hd hcd) hk.h hv.h hs) ?_⟩
 rintro N2 σ H ⟨W,Hi,Γ,N,g,q,l⟩
 have hi:i<X.N.length:=(yG.mp hN).1
 refine ⟨W,Hi,Γ,_,g,q,?_⟩
 rintro v H1 ⟨Hi1,d,Γ1,s1,g1,den,⟨ds0,e0⟩,q1⟩
 obtain ⟨a,h1,h2,h3,kvs0,ep0,h4,h5⟩:=g1.own i _ e0; refine ⟨.ref a,zhZ hi h1,W,Hi1,Γ1,_,g1,q1,?_⟩
 rintro y H2 ⟨Hi2,dk,Γ2,s2,g2,den2,ds,ks,e2,rfl,hl,q2⟩
 obtain ⟨a',k1,k2,k3,kvs,ep,k4,k5⟩:=g2.own i _ e2; rw [h1] at k1; cases k1; obtain ⟨b,rfl,hb⟩:=zfE den2
 refine ⟨a,kvs,ep,ks,b,rfl,k4,rfl,g2.sub _ _ hb,by rw [zl k5]; exact hl,fun ep'=>?_⟩
 exact l.nx σ _ Hi2 _ (s1.trans s2) (g2.put (o:=.dit (zmH ds (.tup (ks.map keyD)) d)) e2 h1 ⟨_,_,zw,zsL k5 ks (den.mono s2)⟩) q2
instance {i:Nat} {tk tv:TE'} [ME tk] [ME tv]:MS (zD i tk tv):=⟨fun N N' Γ h q=>ME.mono (t:=tv) _ _ _ (fun _ _ ⟨a,z⟩=>⟨a,ME.mono (t:=tk) _ _ _ (fun _ _ ⟨ds,ks,e1,e2,e3,w⟩=>⟨ds,ks,e1,e2,e3,h.nx _ w⟩) z⟩) q⟩
theorem Good.putN {K:W.Frag} {n:Nat} {W:Wd} {Hi H:Hp} {Γ:Sts} {σ:St} {p:Addr} {u:HO} (g:Good K n W Hi Γ σ H) (h0:Hi p=none) (h1:W.H₀ p=none) (ne:Free n W Γ σ p) (hu:∀ xs,u≠.tup xs):Good K n W Hi Γ σ (upd H p u):=by
 refine ⟨g.len,⟨fun b w q=>?_,fun b xs q=>?_⟩,fun b w q nf=>?_,fun b w q=>?_,g.fro,g.val,fun j o e=>?_,g.apart,fun j d b xs e=>?_⟩
 ·rw [zU (fun z=>by rw [z,h0] at q; cases q)]
  exact g.sub b w q
 ·by_cases hb:b=p
  ·subst hb
   rw [zw] at q; exact yL (Option.some.inj q) (hu xs)
  ·rw [zU hb] at q
   exact g.fz.tups b xs q
 ·rw [zU (fun z=>by rw [z,h1] at q; cases q)]
  exact g.keep b w q nf
 ·rw [zU (fun z=>by rw [z,h1] at q; cases q)]
  exact g.there b w q
 ·obtain ⟨b,q1,q2,q3,q4⟩:=g.own j o e
  have hb:b≠p:=fun z=>ne.own j o e (by rw [<- z]; exact q1)
  exact ⟨b,q1,q2,q3,q4.mono (zaM.refl _) fun w hw=>by rw [zU hb]; exact hw⟩
 ·obtain ⟨p0,p1,p2,p3,p4,p5,p6⟩:=g.bk j d b xs e
  have hb:b≠p:=fun z=>ne.bk j _ _ (by rw [<- z]; exact e)
  exact ⟨p0,p1,p2,p3,p4.mono (zaM.refl _) fun w hw=>by rw [zU hb]; exact hw,p5,p6⟩
def zI (n:Nat) (tk tv:TE'):TO':=fun Γ Q=>tk (zad n Γ) fun k _=>Imm k/\tv (zad n Γ) fun v _=>Imm v/\(∃ ks:List Key,k=.tup (ks.map keyD))/\Q (.dit [(k,v)]) Γ
theorem zk4 (hu:X.A.units+1<cLine) {k v:Expr} {tk tv:TE'} {pos:Pos} (hk:PE' X k tk) (hv:PE' X v tv):PO' X (.Dict [some k] [v] pos) (zI X.N.length tk tv):=by
 refine ⟨PE.weak (zjj hu hk.h hv.h) ?_⟩
 rintro σ H Q ⟨W,Hi,Γ,Q',g,h,fin⟩
 intro p hp; have new:=New.mk' (u:=.dE [] 0) (o:=.dit []) g hp ⟨[],0,zw,.nil⟩
 have e0:Ext Hi H Hi (upd H p (.dE [] 0)):=Ext.newO g.fz hp _ (fun _ z=>by cases z)
 have g0:=g.ext e0; obtain ⟨s1,g1⟩:=g0.look; refine ⟨_,_,_,_,g1,h,?_⟩
 rintro x H1 ⟨Hb,dk,Γ',sb,g',den,im,h'⟩
 obtain ⟨x1,y1,hd1⟩:=g0.unlook sb g'; have den1:=hd1 x dk im den; obtain ⟨s2,g2⟩:=y1.look; refine ⟨_,_,_,_,g2,h',?_⟩
 rintro y H2 ⟨Hc,dv,Γ'',sc,g'',den2,im2,⟨ks,rfl⟩,q⟩
 obtain ⟨x2,y2,hd2⟩:=y1.unlook sc g''; have den3:=hd2 y dv im2 den2
 have ep:H2 p=some (.dE [] 0):=x2.h _ _ (x1.h _ _ zw)
 have hi0:_=_:=(x2.fro p _ (x1.h _ _ zw)).trans (x1.fro p _ zw)
 obtain ⟨b,rfl,hb⟩:=zfE den1
 refine ⟨ep,b,ks,rfl,x2.h _ _ (y1.sub _ _ hb),fun ep'=>?_⟩
 refine fin p _ _ Γ (.dit [(.tup (ks.map keyD),dv)]) (x1.hi.trans x2.hi) (y2.putN (hi0.trans new.hi) new.h0 new.ne (fun _ z=>by cases z)) ⟨hi0.trans new.hi,new.h0,new.ne,⟨[(ks,y)],ep',zw,.cons ⟨rfl,den3⟩ .nil⟩⟩ q
end
end PL
namespace PySem
section
variable {prog:Program} {w:World} {A:Around} {E:Value->Shared->Prop} {s:Shared} {dd kk:Addr} {ob:Obj} {ens:Array DictEntry} {tick nn:Nat}
theorem zcl (hob:s.heap.get? dd=some ob) (hex:ob.ExactDict):s.TypeIs (.ref dd) "dict":=⟨ob,hob,hex.1⟩
theorem zdZ {Q:Value->Shared->Prop} (hsys:(dd == sysModules)=false) (hob:s.heap.get? dd=some ob) (hex:ob.ExactDict) (hdt:ob.data=.dict ens tick)
  (fin:Q (.ref s.heap.objs.size) { s with heap:=s.heap.push { cls:=.type "dict_keyiterator",data:=.fields #[.ref dd,.int 0 0,.int ens.size 0,.int tick 0] } }) :
  wpAny (model prog w) A (pyIter (.ref dd)) Q E s:=by
 have ty:=zcl hob hex; refine wpAny_pyIter_slot ty F.slot_dict_iter (yx F.slot_dict_iter ty F.entry_dict_iter ?_ (F.args_dict_iter_1 _))
 unfold Builtin.«dict.__iter__» Builtin.Dict.dictSlotNone
 refine yA (yA (wpAny_notOrdered_dict ty ?_))
 show wpAny _ _ (pure (Value.ref dd)) _ _ s
 refine yE (show wpAny _ _ (Builtin.Dict.showsAll dd >>= _) _ _ s from ?_)
 unfold Builtin.Dict.showsAll
 rw [yN (by rw [hsys]; exact yI)]
 refine yA (yE (yA (wpAny_dictEntries hob hdt (yA (wpAny_dictEpoch hob hdt ?_))))); refine yA (ya (yE ⟨_,rfl,"dict_keyiterator",_,⟨_,yK _ rfl,rfl⟩,F.slot_dict_keyiterator_next.lookup,?_⟩))
 simpa [rawInt] using fin
theorem zeB {ii:Nat} {Q:Option Value->Shared->Prop} (st:s.heap.IsKeyIter kk dd ii ens.size tick) (hob:s.heap.get? dd=some ob) (hdt:ob.data=.dict ens tick) (lt:ii<ens.size)
  (fin:∀ h2,h2.IsKeyIter kk dd (ii+1) ens.size tick->Heap.SameBut kk s.heap h2->Q (some ens[ii].key) { s with heap:=h2 }):wpAny (model prog w) A (pyNext (.ref kk)) Q E s:=by
 obtain ⟨ki,hki,hkc,hkd⟩:=id st; have ty:=st.typeIs; unfold pyNext; refine yA (wpAny_attempt (wpAny_callSpecial?_slot (name:=Str.ofString "__next__") ty F.slot_dict_keyiterator_next (yx F.slot_dict_keyiterator_next ty F.entry_dict_keyiterator_next ?_ (F.args_dict_keyiterator_next_1 _)))); refine yA (yE (yA (yA ?_)))
 first
  | refine yA (Ya ty (yE (yA (wpAny_fieldsOf hki hkd ?_))))
  | refine yA (wpAny_typeNameOf_keyiter ty (yE (yA (wpAny_fieldsOf hki hkd ?_))))
 simp only [show Builtin.Dict_items.ownsTuple "dict_keyiterator"=false by decide,YC,if_false]
 show wpAny _ _ (if (Value.ref dd == Value.none)=true then _ else _) _ _ s
 rw [yN (show ¬ ((Value.ref dd == Value.none)=true) from yI)]
 refine yA (yE (yA (wpAny_dictEntries hob hdt ?_)))
 rw [yN (by simp)]
 refine yA (yE (yA (wpAny_dictEpoch hob hdt ?_)))
 rw [yN (by simp)]
 refine yE ?_
 simp only [show ¬ ((ii:Int)<0) from by omega,if_false,Int.toNat_natCast,ye lt]
 refine yA ?_
 first
  | refine yA (Ya ty (yE (yA (wpAny_isOneOf_keyiter ty ?_))))
  | refine yA (wpAny_typeNameOf_keyiter ty (yE (yA (wpAny_isOneOf_keyiter ty ?_))))
 show wpAny _ _ (setField (.ref kk) 1 (rawInt ((ii:Int)+1)) >>= _) _ _ s
 have st2:(s.heap.update kk (Obj.mapFields (·.setIfInBounds 1 (rawInt ((ii:Int)+1))))).IsKeyIter kk dd (ii+1) ens.size tick :=
  ⟨_,Yh _ hki (Obj.isFreed_of_fields (Obj.data_mapFields hkd _)),(Obj.cls_mapFields ..).trans hkc,by rw [Obj.data_mapFields hkd]; simp [rawInt]⟩
 refine yA (wpAny_setField hki hkd (by simp) (yA (YO ?_)))
 refine yA (wpAny_isOneOf_keyiter (s:={ s with heap:=s.heap.update kk (Obj.mapFields (·.setIfInBounds 1 (rawInt ((ii:Int)+1)))) }) st2.typeIs ?_)
 show wpAny _ _ (pure ens[ii].key) _ _ _
 exact yE (yE ⟨_,rfl,yE (fin _ st2 (Heap.SameBut.update ..))⟩)
theorem ze6 {ii:Nat} {Q:Option Value->Shared->Prop} (calm:A.handled=none) (st:s.heap.IsKeyIter kk dd ii ens.size tick) (hob:s.heap.get? dd=some ob) (hdt:ob.data=.dict ens tick) (ge:ens.size<=ii)
  (fin:∀ h2,Heap.ExtBut kk s.heap h2->Q none { s with heap:=h2 }):wpAny (model prog w) A (pyNext (.ref kk)) Q E s:=by
 obtain ⟨ki,hki,hkc,hkd⟩:=id st; have ty:=st.typeIs; unfold pyNext; refine yA (wpAny_attempt (wpAny_callSpecial?_slot (name:=Str.ofString "__next__") ty F.slot_dict_keyiterator_next (yx F.slot_dict_keyiterator_next ty F.entry_dict_keyiterator_next ?_ (F.args_dict_keyiterator_next_1 _)))); refine yA (yE (yA (yA ?_)))
 first
  | refine yA (Ya ty (yE (yA (wpAny_fieldsOf hki hkd ?_))))
  | refine yA (wpAny_typeNameOf_keyiter ty (yE (yA (wpAny_fieldsOf hki hkd ?_))))
 simp only [show Builtin.Dict_items.ownsTuple "dict_keyiterator"=false by decide,YC,if_false]
 show wpAny _ _ (if (Value.ref dd == Value.none)=true then _ else _) _ _ s
 rw [yN (show ¬ ((Value.ref dd == Value.none)=true) from yI)]
 refine yA (yE (yA (wpAny_dictEntries hob hdt ?_)))
 rw [yN (by simp)]
 refine yA (yE (yA (wpAny_dictEpoch hob hdt ?_)))
 rw [yN (by simp)]
 refine yE ?_
 simp only [show ¬ ((ii:Int)<0) from by omega,if_false,Int.toNat_natCast,Array.getElem?_eq_none ge]
 refine yA ?_
 first
  | refine yA (Ya ty (yE ?_))
  | refine yA (wpAny_typeNameOf_keyiter ty (yE ?_))
 show wpAny _ _ (setField (.ref kk) 0 .none >>= _) _ _ s
 refine yA (wpAny_setField hki hkd (by simp) (show wpAny _ _ (newExc (.type "StopIteration") [] >>= _) _ _ _ from yA ?_))
 simp only [newExc,newTuple]
 apply yA
 refine ya ?_ (by size_fits)
 refine yA (m:=firstArgMember _ _) (wpAny_of_eq (a:=Value.none) (by first | rfl | (simp only [firstArgMember]; rfl)) (ya ?_ (by size_fits)))
 simp only [raiseNew]; refine yA (wpAny_handled ?_)
 rw [show A.in1.handled=none from calm]
 refine (yA (yE (wpAny_throw ?_))); refine yA (wpAny_isInstance (T:="StopIteration") (b:=true) ⟨_,yK _ rfl,rfl⟩ isSubtype_stop (yE (fin _ ?_))); exact ((Heap.SameBut.update ..).extBut.push _).push _
end
end PySem
namespace L2
open PySem PySem.Spec PyProof.Rows
def Ite (a:Addr) (kvs:List (List Key × V)) (ep:Nat):It :=
 ⟨fun i H=>H a=some (.dE kvs ep)/\i<kvs.length,fun i H x H'=>H'=H/\∃ k y b,kvs[i]?=some (k,y)/\x=.ref b/\H b=some (.tup (k.map kV)),fun i H=>H a=some (.dE kvs ep)/\kvs.length<=i⟩
theorem ziN {P:Program} {w:World} {K:W.Frag} {tg:Expr} (a it:Addr) (kvs:List (List Key × V)) (ep:Nat):Turn P w K tg (Ite a kvs ep) [it] it (fun i h=>h.IsKeyIter it a i kvs.length ep) where
 mem:=by simp
 obj:=fun i h st b hb=>by
  have e:b=it:=by simpa using hb
  subst e; obtain ⟨o,e,c,d⟩:=st
  exact ⟨o,e,fun v z=>by rw [d] at z; cases z⟩
 keep:=fun i h h' st k=>st.at fun o e=>k it (by simp) o e
 item:=by
  intro X hP hw hK hc i pins s σ H E I hf st hg
  subst hP hw hK
  obtain ⟨hq,hi⟩:=hg; obtain ⟨z,hd,xs,rel,_,o,es,ho,hx,hdat,he⟩:=zeU I.hok hq
  obtain ⟨f0,f1,f2,f3,f4,f5⟩:=hf it (by simp)
  have hl:kvs.length=xs.length:=Paired.length rel
  have hs:es.size=kvs.length:=by
   have:=yc List.length he
   rw [yD,yj] at this; rw [this,hl]
  have hi':i<es.size:=by rw [hs]; exact hi
  have hix:i<xs.length:=by rw [<- hl]; exact hi
  have q:=PL.paired_get i rel (yC hi) (yC hix)
  have hk:es[i].key=.ref xs[i].2.1:=by
   have e1:es.toList[i]?=(xs.map (entryOfKey (tupleKind (zbF X.prog X.w))))[i]?:=by rw [he]
   rw [yH,yC hix,Array.getElem?_toList,ye hi'] at e1; rw [Option.some.inj e1]; rfl
  rw [<- hs] at st
  refine zeB st ho hdat hi' fun h' st' sb=>?_
  have I1:Inv X pins σ H { s with heap:=h' }:=I.turned (t':=s.toks) (fun b o hb e=>(sb.2 b hb).trans e) f0 f1 f3 f4 f5
  rw [hs] at st'; obtain ⟨o2,e,c,d⟩:=id st'; rw [hk]
  exact ⟨_,rfl,zjN (s:={ s with heap:=h' }) e c d (by decide) ⟨.ref xs[i].2.1,H,I1,rfl,⟨rfl,kvs[i].1,kvs[i].2,_,yC hi,rfl,q.2.1⟩,st',fun b hb=>(hf b hb).1⟩⟩
 done:=by
  intro X hP hw hK hc i pins s σ H E I hf st hg
  subst hP hw hK
  obtain ⟨hq,hi⟩:=hg; obtain ⟨z,hd,xs,rel,_,o,es,ho,hx,hdat,he⟩:=zeU I.hok hq
  obtain ⟨f0,f1,f2,f3,f4,f5⟩:=hf it (by simp)
  have hl:kvs.length=xs.length:=Paired.length rel
  have hs:es.size=kvs.length:=by
   have:=yc List.length he
   rw [yD,yj] at this; rw [this,hl]
  rw [<- hs] at st
  exact ze6 (I.ok.hd hc) st ho hdat (by omega) fun h' eb=>⟨rfl,I.turned (t':=s.toks) (fun b o hb e=>eb b o hb e) f0 f1 f3 f4 f5⟩
 self:=fun _ _ _ _ _ st h=>wpAny_pyIter_keyiter st h
section
variable {X:Cx} {tg:Expr}
def zrC (tl:TE):TI:=fun σ H R=>tl σ H fun x H1=>∃ a kvs ep,x=.ref a/\H1 a=some (.dE kvs ep)/\R (Ite a kvs ep) H1
theorem znp {l:Expr} {tl:TE} (hl:PE X l tl):PI X tg l (zrC tl):=by
 intro pins s σ H R I h
 refine thn (hl pins s σ H _ I h) fun v s1 ⟨x,H1,I1,r1,a,kvs,ep,e,hq,q⟩=>?_
 subst e; cases r1; obtain ⟨z,hd,xs,rel,_,o,es,ho,hx,hdat,he⟩:=zeU I1.hok hq
 have hs:es.size=kvs.length:=by
  have:=yc List.length he
  rw [yD,yj] at this; rw [this,Paired.length rel]
 refine zdZ hd ho hx hdat ?_
 refine ⟨s1.heap.objs.size,[s1.heap.objs.size],_,_,H1,rfl,I1.kept (t':=s1.toks) fun b o e=>yB _ e,ziN a _ kvs ep,⟨_,yK _ rfl,rfl,by rw [hs]; rfl⟩,fun b hb=>?_,q⟩
 have e:b=s1.heap.objs.size:=by simpa using hb
 subst e; exact I1.fpOk (yF _) (I1.hok.fresh (yF _))
end
end L2
namespace PL
open PySem L2
theorem znT {K:W.Frag} {Hi:Hp}:∀ k:Key,Den K Hi (kV k) (keyD k)
 | .inl i=>.int i
 | .inr x=>by
  have e:kV (.inr x)=.str (st x.cps.toList):=by
   show V.str x=_
   rfl
  rw [e]; exact .str _
theorem zjK {K:W.Frag} {Hi:Hp}:∀ ks:List Key,zbI K Hi (ks.map kV) (ks.map keyD)
 | []=>.nil
 | k :: ks=>.cons (znT k) (zjK ks)
theorem zlS {K:W.Frag} {Hi:Hp} {a:Addr} {kvs:List (List Key × V)} {ep:Nat} {ds:List (D × D)} (h:Hi a=some (.dE kvs ep)) (r:ziK K Hi kvs ds):ItD K Hi (Ite a kvs ep) (ds.map (·.1)):=by
 intro Hi' H' s1 s2
 have hq:H' a=some (.dE kvs ep):=(s1.trans s2.sub) _ _ h
 have hl:=zl r
 refine ⟨fun i d e=>?_,hq,by rw [yD,hl]; exact yF _⟩
 rw [yH] at e
 cases hc:ds[i]? with
 | none=>rw [hc] at e; cases e
 | some q =>
  rw [hc] at e; cases e; obtain ⟨p,e1,e2⟩:=zaS r hc; refine ⟨⟨hq,(yG.mp e1).1⟩,?_⟩
  rintro x H'' ⟨rfl,k,y,b,ek,rfl,hb⟩
  rw [e1] at ek; cases ek; refine ⟨Hi',Ext.refl s2,?_⟩
  show Den K Hi' (.ref b) q.1
  rw [e2.1]; exact Den.mkT (s2.tups _ _ hb) (zjK _)
def zN (t:TE'):TI':=fun Γ Q=>t Γ fun d Γ1=>∃ ds,d=.dit ds/\Q (ds.map (·.1)) Γ1
theorem zft {X:Cx} {l tg:Expr} {t:TE'} (hl:PE' X l t):PI' X tg l (zN t):=by
 refine ⟨PI.weak (znp hl.h) ?_⟩
 rintro σ H R ⟨W,Hi,Γ,Q',g,h,fin⟩
 refine ⟨W,Hi,Γ,_,g,h,?_⟩
 rintro v H1 ⟨Hi1,d,Γ1,s1,g1,den,ds,rfl,q⟩
 obtain ⟨a,kvs,ep,rfl,h1,h2⟩:=den.ditI; exact ⟨a,kvs,ep,rfl,g1.sub _ _ h1,fin _ H1 Hi1 Γ1 _ s1 g1 (zlS h1 h2) q⟩
end PL
namespace PySem
section
variable {prog:Program} {w:World} {A:Around} {E:Value->Shared->Prop} {s:Shared} {dd kk:Addr} {ob:Obj} {ens:Array DictEntry} {tick nn:Nat}
theorem zoN {Q:Value->Shared->Prop} (hsys:(dd == sysModules)=false) (hob:s.heap.get? dd=some ob) (hex:ob.ExactDict) (hdt:ob.data=.dict ens tick) (fin:Q (.int ens.size s.toks) { s with toks:=s.toks+1 }) :
  wpAny (model prog w) A (call (.builtin "dict.__len__") [.ref dd]) Q E s:=by
 have ty:=zcl hob hex; refine yx F.slot_dict_len ty F.entry_dict_len ?_ (F.args_dict_len_1 _)
 show wpAny _ _ (dictSize dd >>= _) _ _ s
 unfold dictSize
 refine yA (yA (wpAny_dictEntries hob hdt (yE (show wpAny _ _ (Builtin.Dict.pendingCount dd >>= _) _ _ s from yA (wpAny_pendingCount_other hsys ?_)))))
 refine wpAny_ret_mkInt ?_
 have z:((ens.size:Int)+((0:Nat):Int))=ens.size:=by omega
 first
  | exact fin
  | (rw [z]; exact fin)
  | (refine ⟨_,rfl,?_⟩; simpa using fin)
theorem zrw {Q:Value->Shared->Prop} (hsys:(dd == sysModules)=false) (hob:s.heap.get? dd=some ob) (hex:ob.ExactDict) (hdt:ob.data=.dict ens tick) (few:ens.size<=sizeLine) (fin:Q (.int ens.size (s.toks+1)) { s with toks:=s.toks+1+1 }) :
  wpAny (model prog w) A (call (.builtin "len") [.ref dd]) Q E s :=
 PyProof.Rows.call_len_slot (n:=ens.size) (zcl hob hex) F.slot_dict_len (fun Q' hq=>zoN hsys hob hex hdt hq) (by omega) (by rw [sizeLine_eq] at few; omega) fin
theorem zpO {Q:Bool->Shared->Prop} (hob:s.heap.get? dd=some ob) (hex:ob.ExactDict) (fin:Q false s):wpAny (model prog w) A (Builtin.List.listLengthHint (.ref dd)) Q E s:=by
 have ty:=zcl hob hex; unfold Builtin.List.listLengthHint; refine yA (wpAny_specialOf ty F.slot_dict_len.lookup ?_); generalize hid:("dict.__len__":String)=id0
 wp_delta
 rw [show splitId id0=some ("dict","__len__") from by subst hid; decide +kernel]
 subst hid
 refine yA (wpAny_isInstance (T:="dict") (b:=true) ty (by rw [isSubtype_type]; kernel_rfl) ?_)
 refine wpAny_ite_split (fun z=>yL z (by decide)) (fun _=>?_)
 refine wpAny_ite_split (fun _=>?_) (fun z=>yL (by decide +kernel) z)
 refine yA (wpAny_typeOf ty ?_); exact yE fin
theorem zkA (calm:A.handled=none) (hne:dd≠kk) (hdt:ob.data=.dict ens tick):Walks prog w A kk [kk,dd] [kk] ens.size (fun i v=>∃ e,ens[i]?=some e/\v=e.key) (fun i h=>h.IsKeyIter kk dd i ens.size tick/\h.get? dd=some ob) where
 sub:=fun b hb=>by
  have e:b=kk:=by simpa using hb
  simp [e]
 frame:=fun _ _ _ st hk=>⟨st.1.at fun o e=>hk kk (by simp) o e,hk dd (by simp) _ st.2⟩
 item:=fun i s Q E hi st hQ=>zeB st.1 st.2 hdt hi fun h2 st2 sb=>hQ _ h2 s.toks ⟨_,ye hi,rfl⟩ ⟨st2,(sb.2 dd hne).trans st.2⟩ fun b o hb e=>(sb.2 b (fun z=>hb (by simp [z]))).trans e
 done:=fun s Q E st hQ=>ze6 calm st.1 st.2 hdt (yF _) fun h2 eb=>hQ h2 s.toks fun b o hb e=>eb b o (fun z=>hb (by simp [z])) e
 self:=fun _ _ _ _ st hQ=>wpAny_pyIter_keyiter st.1 hQ
theorem zix {R:Result->Shared->Prop} {S:Addr} {res:Value} {c₀:Nat} (calm:A.handled=none) (hsys:(dd == sysModules)=false) (hob:s.heap.get? dd=some ob) (hex:ob.ExactDict) (hdt:ob.data=.dict ens tick) (few:ens.size<=sizeLine) (hne:S≠dd) (hS:s.heap.get? S=some { cls:=.type "list",data:=.seq #[] c₀ })
  (fin:∀ h2 tk acc c2,(∀ b o,b≠S->s.heap.get? b=some o->h2.get? b=some o)->h2.get? S=some { cls:=.type "list",dict:=none,data:=.seq acc c2,slots:=#[] }->ItemsOf (fun i v=>∃ e,ens[i]?=some e/\v=e.key) acc ens.size->R (.ok (.ret res)) { s with heap:=h2,toks:=tk }) :
  wpAny (model prog w) A.in1 (Builtin.List.listExtendWith (.ref S) (.ref dd) res) (fun f s'=>match f with | .done f=>R (.ok f) s' | .again c'=>c'.quiet=true/\codeAny (model prog w) A c' R s') (fun e s'=>R (.error e) s') s:=by
 have hSlt:S<s.heap.objs.size:=yJ hS
 have hSI:S≠s.heap.objs.size:=yS hSlt
 have hdI:dd≠s.heap.objs.size:=yS (yJ hob)
 have hSf:S ∉ [s.heap.objs.size,dd]:=fun hm=>by
  rcases yO.mp hm with z | z
  ·exact hSI z
  ·exact hne (yg.mp z)
 have W:=(zkA (prog:=prog) (w:=w) (A:=A.in1) (kk:=s.heap.objs.size) calm hdI hdt).toS
 have loop:∀ (h:Heap) (c₁ tk:Nat),h.IsKeyIter s.heap.objs.size dd 0 ens.size tick->h.get? dd=some ob->(∀ b o,b≠S->s.heap.get? b=some o->h.get? b=some o) ->
   h.get? S=some { cls:=.type "list",data:=.seq #[] c₁ }->codeAny (model prog w) A (.builtin "list.extend.loop" ⟨[.ref S,.ref s.heap.objs.size,res],[]⟩) R { s with heap:=h,toks:=tk }:=by
  intro h c₁ tk hit hod hk hS₁
  refine codeAny_extend_loopS W few S hSf res ens.size 0 _ #[] c₁ rfl (yi _) ⟨hit,hod⟩ hS₁ (ItemsOf.nil _) fun s' acc' c' hm hS' hacc=>?_
  rw [Moved.eq_with hm]
  refine fin s'.heap s'.toks acc' c' (fun b o hb e=>hm.heap b o (fun z=>?_) (hk b o hb e)) hS' hacc
  rcases yO.mp z with e' | z
  ·exact hb e'
  ·exact yL (yJ e) (by rw [yg.mp z]; exact Yg _)
 unfold Builtin.List.listExtendWith; refine yA (wpAny_typeOf (zcl hob hex) ?_)
 have h1:Builtin.List.listSameRef (.ref S) (.ref dd)=false:=by simp [Builtin.List.listSameRef,hne]
 simp only [h1,show (Value.type "dict" == Value.type "list")=false by decide,show (Value.type "dict" == Value.type "tuple")=false by decide,Bool.or_false,YC,if_false]
 refine yA (zdZ hsys hob hex hdt ?_); refine yA (YO (zpO (yB _ hob) hex ?_))
 have hit₁:(s.heap.push { cls:=.type "dict_keyiterator",data:=.fields #[.ref dd,.int 0 0,.int ens.size 0,.int tick 0] }).IsKeyIter s.heap.objs.size dd 0 ens.size tick:=⟨_,yK _ rfl,rfl,rfl⟩
 have hS₁:=yB { cls:=.type "dict_keyiterator",data:=.fields #[.ref dd,.int 0 0,.int ens.size 0,.int tick 0] } hS
 refine wpAny_ite_split (fun _=>?_) (fun _=>yE ⟨plainId_quiet F.plain_extend_loop _,loop _ c₀ _ hit₁ (yB _ hob) (fun b o _ e=>yB _ e) hS₁⟩)
 refine yA (wpAny_rule (yA ?_))
 show wpAny _ _ (updateSeq S (·.push .none) >>= fun _=>updateSeq S (·.pop)) _ _ _
 refine yA (wpAny_updateSeq hS₁ rfl ?_); have hS₂:=Yh (Obj.mapSeq (·.push Value.none)) hS₁ rfl
 refine wpAny_updateSeq (hz:=by seq_fits) hS₂ rfl ?_
 have hS₃:=Yh (Obj.mapSeq (·.pop)) hS₂ rfl
 have oth:∀ b o,b≠S->(s.heap.push { cls:=.type "dict_keyiterator",data:=.fields #[.ref dd,.int 0 0,.int ens.size 0,.int tick 0] }).get? b=some o->(((s.heap.push { cls:=.type "dict_keyiterator",data:=.fields #[.ref dd,.int 0 0,.int ens.size 0,.int tick 0] }).update S (Obj.mapSeq (·.push Value.none))).update S (Obj.mapSeq (·.pop))).get? b=some o :=
  fun b o hb e=>(Yd _ _ (Ne.symm hb)).trans ((Yd _ _ (Ne.symm hb)).trans e)
 exact yE ⟨plainId_quiet F.plain_extend_loop _,loop _ _ _ (hit₁.at fun o e=>oth _ o (Ne.symm hSI) e) (oth _ _ (Ne.symm hne) (yB _ hob)) (fun b o hb e=>oth b o hb (yB _ e)) hS₃⟩
theorem zlT {R:Result->Shared->Prop} {S:Addr} (calm:A.handled=none) (hsys:(dd == sysModules)=false) (hob:s.heap.get? dd=some ob) (hex:ob.ExactDict) (hdt:ob.data=.dict ens tick) (few:ens.size<=sizeLine) (hne:S≠dd) (hS:s.heap.get? S=some { cls:=.type "list",data:=.seq #[] })
  (fin:∀ h2 tk acc c2,(∀ b o,b≠S->s.heap.get? b=some o->h2.get? b=some o)->h2.get? S=some { cls:=.type "list",dict:=none,data:=.seq acc c2,slots:=#[] }->ItemsOf (fun i v=>∃ e,ens[i]?=some e/\v=e.key) acc ens.size->R (.ok (.ret .none)) { s with heap:=h2,toks:=tk }) :
  wpAny (model prog w) A.in1 (Builtin.«list.__init__» ⟨[.ref S,.ref dd],[]⟩) (fun f s'=>match f with | .done f=>R (.ok f) s' | .again c'=>c'.quiet=true/\codeAny (model prog w) A c' R s') (fun e s'=>R (.error e) s') s:=by
 show wpAny _ _ (Builtin.List.listItems (.ref S) >>= fun old=>Builtin.List.listUpdate (.ref S) (fun _=>#[]) >>= fun _=>letGo old.toList.reverse >>= fun _=>Builtin.List.listExtendWith (.ref S) (.ref dd) .none) _ _ s
 unfold Builtin.List.listItems; refine yA (yA (YQ hS rfl (yE ?_)))
 show wpAny _ _ (updateSeq S (fun _=>#[]) >>= fun _=>letGo (#[]:Array Value).toList.reverse >>= fun _=>Builtin.List.listExtendWith (.ref S) (.ref dd) .none) _ _ s
 have hS₂:=Yh (Obj.mapSeq (fun _=>(#[]:Array Value))) hS rfl
 have oth:∀ b o,b≠S->s.heap.get? b=some o->(s.heap.update S (Obj.mapSeq (fun _=>(#[]:Array Value)))).get? b=some o:=fun b o hb e=>(Yd _ _ (Ne.symm hb)).trans e
 refine yA (wpAny_updateSeq hS rfl (yA (wpAny_letGo ?_)))
 exact zix calm hsys (oth dd _ (Ne.symm hne) hob) hex hdt few hne hS₂ fun h2 tk acc c2 hk hS' hacc=>fin h2 tk acc c2 (fun b o hb e=>hk b o hb (oth b o hb e)) hS' hacc
theorem zlu {Q:Value->Shared->Prop} (calm:A.handled=none) (hsys:(dd == sysModules)=false) (hob:s.heap.get? dd=some ob) (hex:ob.ExactDict) (hdt:ob.data=.dict ens tick) (few:ens.size<=sizeLine)
  (fin:∀ h2 tk acc c2,(∀ b o,s.heap.get? b=some o->h2.get? b=some o)->h2.get? s.heap.objs.size=some { cls:=.type "list",dict:=none,data:=.seq acc c2,slots:=#[] }->ItemsOf (fun i v=>∃ e,ens[i]?=some e/\v=e.key) acc ens.size->Q (.ref s.heap.objs.size) { s with heap:=h2,toks:=tk }) :
  wpAny (model prog w) A (call (.type "list") [.ref dd]) Q E s:=by
 refine callType_codes (Q₁:=fun obj s₁=>obj=.ref s.heap.objs.size/\s₁={ s with heap:=s.heap.push { cls:=.type "list",data:=.seq #[] } }) F.called_list (F.typeCall_list_1 _) F.entry_list_init (code_list_new _ ⟨rfl,rfl⟩) fun obj s₁ h₁=>?_
 obtain ⟨rfl,rfl⟩:=h₁
 have hS:(s.heap.push { cls:=.type "list",data:=.seq #[] }).get? s.heap.objs.size=some { cls:=.type "list",data:=.seq #[] }:=yK _ rfl
 refine ⟨⟨_,hS,rfl⟩,F.args_list_init_2 _ _,zlT (A:=A.in1) calm hsys (yB _ hob) hex hdt few (Ne.symm (yS (yJ hob))) hS fun h2 tk acc c2 hk hS' hacc=>?_⟩
 exact ⟨rfl,fin h2 tk acc c2 (fun b o e=>hk b o (yS (yJ e)) (yB _ e)) hS' hacc⟩
end
end PySem
namespace L2
open PySem PySem.Spec PyProof.Rows
section
variable {X:Cx}
def zqg:Value->V
 | .ref b=>.ref b
 | _=>.non
theorem Inv.keys {pins:List (Addr × Obj)} {σ:St} {H:Hp} {s:Shared} {a:Addr} {kvs:List (List Key × V)} {ep:Nat} (I:Inv X pins σ H s) (e:H a=some (.dE kvs ep)):kvs.length<=sizeLine/\(a == sysModules)=false/\∃ (o:Obj) (es:Array DictEntry),s.heap.get? a=some o/\o.ExactDict/\o.data=.dict es ep/\es.size=kvs.length /\
  ∀ (i:Nat) k y,kvs[i]?=some (k,y)->∃ b x,es[i]?=some x/\x.key=.ref b/\H b=some (.tup (k.map kV)):=by
 obtain ⟨z,hd,xs,rel,_,o,es,ho,hx,hdat,he⟩:=zeU I.hok e
 have hl:kvs.length=xs.length:=Paired.length rel
 have hs:es.size=kvs.length:=by
  have:=yc List.length he
  rw [yD,yj] at this; rw [this,hl]
 refine ⟨z,hd,o,es,ho,hx,hdat,hs,fun i k y hk=>?_⟩
 have hi:i<kvs.length:=(yG.mp hk).1
 have hix:i<xs.length:=by rw [<- hl]; exact hi
 have hi':i<es.size:=by rw [hs]; exact hi
 have q:=PL.paired_get i rel hk (yC hix); refine ⟨xs[i].2.1,es[i],ye hi',?_,q.2.1⟩
 have e1:es.toList[i]?=(xs.map (entryOfKey (tupleKind (zbF X.prog X.w))))[i]?:=by rw [he]
 rw [yH,yC hix,Array.getElem?_toList,ye hi'] at e1; rw [Option.some.inj e1]; rfl
theorem zka:zcy X (.builtin "len") (fun xs H Q=>∃ a kvs ep,xs=[.ref a]/\H a=some (.dE kvs ep)/\Q (.int kvs.length) H):=by
 intro pins s σ H xs us Q I r h; obtain ⟨a,kvs,ep,rfl,e,q⟩:=h; obtain ⟨u,rfl,rx⟩:=zc6 r; cases rx; obtain ⟨z,hd,o,es,ho,hx,hdat,hs,_⟩:=I.keys e
 refine zrw hd ho hx hdat (by rw [hs]; exact z) ?_
 rw [hs]; exact ⟨.int kvs.length,H,I.tok _,⟨_,rfl⟩,q⟩
theorem ziz (hc:X.calm=true):zcy X (.type "list") (fun xs H Q=>∃ a kvs ep,xs=[.ref a]/\H a=some (.dE kvs ep)/\∀ l ys,H l=none->ys.length=kvs.length->(∀ (i:Nat) k y,kvs[i]?=some (k,y)->∃ b,ys[i]?=some (.ref b)/\H b=some (.tup (k.map kV)))->Q (.ref l) (upd H l (.lst ys))):=by
 intro pins s σ H xs us Q I r h; obtain ⟨a,kvs,ep,rfl,e,q⟩:=h; obtain ⟨u,rfl,rx⟩:=zc6 r; cases rx; obtain ⟨z,hd,o,es,ho,hx,hdat,hs,hk⟩:=I.keys e
 refine zlu (I.ok.hd hc) hd ho hx hdat (by rw [hs]; exact z) fun h2 tk acc c2 kp e2 hit=>?_
 obtain ⟨hsz,hit⟩:=hit
 have each:∀ (j:Nat) v,acc[j]?=some v->∃ b k y,v=.ref b/\kvs[j]?=some (k,y)/\H b=some (.tup (k.map kV)):=fun j v hj=>by
  obtain ⟨x,hx1,rfl⟩:=hit j v hj
  have hjl:j<kvs.length:=by
   rw [<- hs]; exact (Array.getElem?_eq_some_iff.mp hx1).1
  obtain ⟨b,x',hx2,hb,ht⟩:=hk j kvs[j].1 kvs[j].2 (yC hjl); rw [hx1] at hx2; cases hx2; exact ⟨b,kvs[j].1,kvs[j].2,hb,yC hjl,ht⟩
 have hys:zaT (acc.toList.map zqg) acc.toList:=by
  refine PL.paired_of (by rw [yD]) fun j x v h1 h2=>?_
  rw [yH,h2] at h1
  obtain ⟨b,_,_,rfl,_⟩:=each j v (by rw [<- Array.getElem?_toList]; exact h2)
  cases h1; exact rfl
 have hl:(acc.toList.map zqg).length=kvs.length:=by rw [yD,yj,hsz,hs]
 have I2:=I.laid (t':=tk) (o:=.lst (acc.toList.map zqg)) kp (yF _) (show zbv X.prog X.w _ h2 _ (.lst (acc.toList.map zqg)) from ⟨by rw [hl]; exact z,acc.toList,c2,hys,by simpa using e2⟩)
 refine ⟨.ref s.heap.objs.size,_,I2,rfl,q _ _ (I.hok.fresh (yF _)) hl fun i k y hi=>?_⟩
 have hil:i<acc.size:=by rw [hsz,hs]; exact (yG.mp hi).1
 obtain ⟨b,k',y',hv,hk',ht⟩:=each i acc[i] (ye hil); rw [hi] at hk'; cases hk'; refine ⟨b,?_,ht⟩; rw [yH,Array.getElem?_toList,ye hil,hv]; rfl
end
end L2
namespace PL
open PySem L2
section
variable {X:Cx}
abbrev zl7:=List D->(OD->Prop)->Prop
def zmJ (K:W.Frag) (r:List V->Hp->VK->Prop) (r':zl7):Prop:=∀ (Hi H:Hp) (vs:List V) (ds:List D) (Q:OD->Prop) (Q2:VK),Fz Hi H->zbI K Hi vs ds->r' ds Q ->
 (∀ Hi1 H1 p u o,Ext Hi H Hi1 H1->H1 p=none->(∀ xs,u≠.tup xs)->zco K Hi1 (upd H1 p u) p o->Q o->Q2 (.ref p) (upd H1 p u))->r vs H Q2
structure CalO (X:Cx) (f:Value) (r':zl7):Prop where
 ex:∃ r,zcy X f r/\zmJ X.K r r'
theorem CalO.or {f:Value} {r r':zl7} (h:CalO X f r) (h':CalO X f r'):CalO X f (fun x Q=>r x Q\/r' x Q):=by
 obtain ⟨a,ha,la⟩:=h.ex; obtain ⟨b,hb,lb⟩:=h'.ex
 refine ⟨_,ha.or hb,fun Hi H vs ds Q Q2 s d q fin=>?_⟩
 rcases q with q | q
 ·exact .inl (la Hi H vs ds Q Q2 s d q fin)
 ·exact .inr (lb Hi H vs ds Q Q2 s d q fin)
def zap (r:zl7) (t:TA'):TO':=fun Γ Q=>t Γ fun ds Γ1=>r ds fun o=>Q o Γ1
theorem zmT {K:W.Frag} {n:Nat} {r:List V->Hp->VK->Prop} {r':zl7} {t:TA'} {σ:St} {H:Hp} {Q:VK} (l:zmJ K r r') (h:oOf K n (zap r' t) σ H Q):tCB r (zqO K n t) σ H Q:=by
 obtain ⟨W,Hi,Γ,Q',g,h,fin⟩:=h; refine ⟨W,Hi,Γ,_,g,h,?_⟩; intro vs H1 Hi1 Γ1 ds s1 g1 dl h1; refine l Hi1 H1 vs ds _ _ g1.fz dl h1 ?_; intro Hi2 H2 p u o e hp hu own q; have g2:=g1.ext e; exact fin p _ Hi2 Γ1 o (s1.trans e.hi) (g2.ext (Ext.newO g2.fz hp u hu)) (New.mk' g2 hp own) q
variable {x:Str} {p pos:Pos} {e:Expr} {es:List Expr} {t:TA'} {id T:String}
theorem zdP {r':zl7} (hc:CalO X (.type T) r') (hm:X.mg x=none) (hv:bootBuiltins x=some (.type T)) (ha:PA' X (e :: es) t) (hg:Gl X x:=by rfl) (hn:x≠"__name__":=by decide) (hdb:(x == ("__debug__":Str))=false:=by decide):PO' X (.Call (.Name x p) (e :: es) [] pos) (zap r' t):=by
 obtain ⟨r,ho,l⟩:=hc.ex; obtain ⟨p1,p2⟩:=zaL ha.pl
 exact ⟨PE.weak (zf1 ho hg hm hv ha.pa hn hdb (zaP p1) (zaY p2)) fun σ H Q q=>zmT l q⟩
def zfn:zl7:=fun ds Q=>∃ d es,ds=[d]/\(d=.lst es\/d=.tup es)/\Q (.lst es)
theorem zp2:CalO X (.type "list") zfn:=⟨_,zgA,by
 rintro Hi H vs ds Q Q2 s dl ⟨d,es,rfl,h,q⟩ fin
 obtain ⟨v,rfl,den⟩:=zdC dl
 rcases h with rfl | rfl
 ·obtain ⟨a,us,rfl,h1,h2⟩:=den.lstI
  exact ⟨a,us,rfl,.inl (zaF s.sub h1),fun l hl=>fin Hi H l _ (.lst es) (Ext.refl s) hl (fun _ z=>by cases z) ⟨us,zw,h2⟩ q⟩
 ·obtain ⟨a,us,rfl,h1,h2⟩:=den.tupI
  exact ⟨a,us,rfl,.inr (zaE s.sub h1),fun l hl=>fin Hi H l _ (.lst es) (Ext.refl s) hl (fun _ z=>by cases z) ⟨us,zw,h2⟩ q⟩⟩
def zd5:zl7:=fun ds Q=>∃ es,ds=[.dit es]/\Q (.lst (es.map (·.1)))
theorem zog (hc:X.calm=true):CalO X (.type "list") zd5:=⟨_,ziz hc,by
 rintro Hi H vs ds Q Q2 s dl ⟨es,rfl,q⟩ fin
 obtain ⟨v,rfl,den⟩:=zdC dl; obtain ⟨a,kvs,ep,rfl,h1,h2⟩:=den.ditI
 refine ⟨a,kvs,ep,rfl,s.sub _ _ h1,fun l ys hl hy hk=>fin Hi H l _ (.lst (es.map (·.1))) (Ext.refl s) hl (fun _ z=>by cases z) ⟨ys,zw,?_⟩ q⟩
 refine paired_of (by rw [hy,yD,zl h2]) fun i v d e1 e2=>?_
 rw [yH] at e2
 cases hc2:es[i]? with
 | none=>rw [hc2] at e2; cases e2
 | some q =>
  rw [hc2] at e2; cases e2; obtain ⟨p,ep,ep2⟩:=zaS h2 hc2; obtain ⟨b,eb,hb⟩:=hk i p.1 p.2 ep; rw [e1] at eb; cases eb
  show Den X.K Hi (.ref b) q.1
  rw [ep2.1]; exact Den.mkT (s.tups _ _ hb) (zjK _)⟩
def zfX:RC':=fun ds Q=>∃ es,ds=[.dit es]/\Q (.int es.length)
theorem zp3:Cal X (.builtin "len") zfX:=⟨_,zka,by
 rintro Hi H vs ds Q Q2 s dl ⟨es,rfl,q⟩ fin
 obtain ⟨v,rfl,den⟩:=zdC dl; obtain ⟨a,kvs,ep,rfl,h1,h2⟩:=den.ditI; refine ⟨a,kvs,ep,rfl,s.sub _ _ h1,?_⟩; rw [zl h2]; exact fin Hi H _ _ (Ext.refl s) (.int _) q⟩
instance:MRC zfX:=⟨fun _ _ _ h ⟨es,a,q⟩=>⟨es,a,h _ q⟩⟩
end
end PL
namespace PySem
section
variable {prog:Program} {w:World} {A:Around} {E:Value->Shared->Prop} {s:Shared} {S tt:Addr} {ob:Obj} {mine items:Array Value} {n c₀:Nat} {T:String}
end
end PySem
namespace L2
open PySem PySem.Spec PyProof.Rows
section
variable {X:Cx}
end
end L2
namespace PL
open PySem L2
section
variable {X:Cx}
abbrev zs0:=D->D->(OD->Prop)->Prop
def zaz (r:zs0) (ta tb:TE'):TO':=fun Γ Q=>ta Γ fun x Γ1=>tb Γ1 fun y Γ2=>r x y fun o=>Q o Γ2
end
end PL
namespace L2
open PySem PySem.Spec PyProof.Rows
section
variable {X:Cx}
end
end L2
namespace PL
open PySem L2
section
variable {X:Cx}
end
end PL
namespace PySem
open PyProof.Rows
namespace F
end F
section
variable {prog:Program} {w:World} {A:Around} {E:Value->Shared->Prop} {s:Shared} {tt rr:Addr} {items:Array Value}
end
end PySem
namespace L2
open PySem PySem.Spec PyProof.Rows
section
variable {X:Cx} {tg:Expr}
end
end L2
namespace PL
open PySem L2
end PL
namespace X1
open PySem
def Ex (h:Heap) (e:Addr) (cl:Value) (dd:Option Addr) (vs:Array Value):Prop:=∃ sl,h.get? e=some ⟨cl,dd,.fields vs,sl⟩
def Ent (h:Heap) (T:Addr) (fl:Value):Prop:=∃ c d ts sl,h.get? T=some ⟨c,d,.fields ts,sl⟩/\ts[3]?=some fl
def Hd (h:Heap) (e:Addr) (vs:Array Value) (fl:Value) (R:Addr->Prop):Prop:=(vs[1]?=some .none/\fl=.none)\/∃ T,vs[1]?=some (.ref T)/\T≠e/\R T/\Ent h T fl
section
variable {M:Model} {A:Around} {E:Value->Shared->Prop} {s:Shared} {base:Heap} {env:Env} {outer:List Env} {L e:Addr} {cl fl:Value} {dd:Option Addr} {vs:Array Value} {R:Addr->Prop}
end
section
variable {prog:Program} {w:World} {A:Around} {E:Value->Shared->Prop} {h:Heap} {g:Array GenState} {d:Drawn} {t:Nat} {os:OsState} {C N fI:Addr} {oI:Obj} {bm bmB:List Value} {B nid iid:String} {mN:Str->Option Value} {zdF:List Value}
end
section
variable {M:Model} {A:Around} {E:Value->Shared->Prop} {env:Env} {s:Shared} {C N:Addr} {bm:List Value} {nid:String}
end
end X1
namespace X1
open PySem PySem.W
section
variable {prog:Program} {w:World} {A:Around} {E:Value->Shared->Prop} {s:Shared} {K:Frag} {x C:Addr} {ox:Obj} {od:Option Obj} {name:Str}
structure XGet (K:Frag) (C:Addr):Prop where
 ga:findIn K (.ref C) "__getattribute__"=some (some (.builtin "BaseException.__getattribute__"))
 gr:findIn K (.ref C) "__getattr__"=some none
 sub:mroIn K C (.type "BaseException")=some true
theorem zmM {tk:Tok} {fill expr:Bool} {v:Value} {Q:Value->Shared->Prop} (X:K.In s.heap) (I:InstAt s.heap x ox C od) (T:XGet K C) (h:∀ R:Result->Shared->Prop,R (.ok (.ret v)) s->codeAny (model prog w) A (.call (.builtin "BaseException.__getattribute__") ⟨[.ref x,.str name tk],[]⟩) R s)
  (hh:handedIn v=true) (q:Q v s):wpAny (model prog w) A (getAttrBy (.ref x) (.str name tk) fill expr) Q E s:=by
 obtain ⟨hh',g,d,t,os⟩:=s; have L0:=I.type (M:=model prog w); have L1:=looks_findIn (M:=model prog w) X T.ga; have L2:=looks_findIn (M:=model prog w) X T.gr; unfold getAttrBy; refine YO (yA (L0.at (yA (L1.at ?_))))
 show wpAny _ _ (if (onTheHeap (.ref C) && Value.builtin "BaseException.__getattribute__" == Value.builtin "object.__getattribute__")=true then _ else _) _ _ _
 rw [yN (by
  have z:(Value.builtin "BaseException.__getattribute__" == Value.builtin "object.__getattribute__")=false:=by decide +kernel
  rw [z,YS]; exact yI)]
 unfold getAttrByItsOwn hookBefore; refine yA (L2.at ?_); refine yA (wpAny_attempt (YO ?_)); unfold callGetattribute
 rw [yN (by cases expr <;> decide)]
 unfold boundAndCalled; rw [F.excAttr_ValueError.ga.bind]; refine yA (yE (wpAny_call (h _ ?_)))
 show wpAny _ _ (handedOut v) _ _ _
 rw [handedOut_of hh]; exact yE q
theorem zh1 {tk:Tok} {R:Result->Shared->Prop} (X:K.In s.heap) (I:InstAt s.heap x ox C od) (T:XGet K C) (hf:findObj K C od "__class__"=some (.bind (.builtin "getset_descriptor.__get__") (.builtin "object.__class__"))) (hm:mroIn K C (.type "object")=some true)
  (h:R (.ok (.ret (.ref C))) s):codeAny (model prog w) A (.call (.builtin "BaseException.__getattribute__") ⟨[.ref x,.str "__class__" tk],[]⟩) R s:=by
 obtain ⟨hh',g,d,t,os⟩:=s; have L0:=I.type (M:=model prog w); have L1:=looks_find (M:=model prog w) X I hf
 have LI:Looks (model prog w) hh' (isInstance (.ref x) (.type "BaseException")) true:=L0.andThen (looks_mroIn X T.sub)
 have hk:builtinKind "BaseException.__getattribute__"=some .slot:=by decide +kernel
 have hsp:splitId "BaseException.__getattribute__"=some ("BaseException","__getattribute__"):=by decide +kernel
 refine codeAny_call_builtin F.excAttr_ValueError.ga.plain F.entry_bexc_ga (@check_slot (model prog w) _ _ _ "BaseException.__getattribute__" "BaseException" "__getattribute__" (.ref x) [.str "__class__" tk] [] _ hk hsp LI (F.args_bexc_ga (.ref x) (.str "__class__" tk)) ?_); refine yA (yE (yA (yE (yA (L0.at (yA (L1.at ?_)))))))
 show wpAny _ _ (Builtin.ObjectAttr.bindTo (.builtin "getset_descriptor.__get__") (.builtin "object.__class__") (.ref x) (.ref C)) _ _ _
 show wpAny _ _ (do let r <- holding [Value.builtin "object.__class__"] (call (.builtin "getset_descriptor.__get__") [.builtin "object.__class__",.ref x,.ref C]); ret r) _ _ _
 exact yA (YO (wpAny_call (class_get (ox:=ox) (od:=od) X I hm (yE h))))
theorem xget_class? {Q:Option Value->Shared->Prop} (X:K.In s.heap) (I:InstAt s.heap x ox C od) (T:XGet K C) (hf:findObj K C od "__class__"=some (.bind (.builtin "getset_descriptor.__get__") (.builtin "object.__class__"))) (hm:mroIn K C (.type "object")=some true)
  (h:Q (some (.ref C)) { s with toks:=s.toks+1 }):wpAny (model prog w) A (getAttr? (.ref x) "__class__") Q E s:=by
 unfold getAttr? getAttrBy?
 refine yA (wpAny_mkText (yA (wpAny_attempt ?_)))
 exact zmM (s:={ s with toks:=s.toks+1 }) X I T (fun R hR=>zh1 (s:={ s with toks:=s.toks+1 }) X I T hf hm hR) rfl (yE h)
end
structure XIs (K:Frag) (C:Addr):Prop extends XGet K C where
 cl:(clsIn K C).isSome=true
 ha:findIn K (.ref C) "__class__"=some (some (.builtin "object.__class__"))
 hn:specialIn K (.builtin "object.__class__") "__get__"=some (some (.builtin "getset_descriptor.__get__"))
 tk:takesIn K (.builtin "object.__class__")=some true
 ob:mroIn K C (.type "object")=some true
theorem zhc {K:Frag} {C:Addr} {a g:Value} {od:Option Obj} {name:Str} (hc:(clsIn K C).isSome=true) (ha:findIn K (.ref C) name=some (some a)) (hg:specialIn K a "__get__"=some (some g)) (ht:takesIn K a=some true):findObj K C od name=some (.bind g a):=by
 obtain ⟨cd,e⟩:=Option.isSome_iff_exists.mp hc; unfold findObj; rw [e,Option.bind_some,ha]; simp [hg,ht]
theorem kitx_exc {K:Frag} {x C:Addr} (T:XIs K C):KitX K (.ref x) (.ref C) (fun h=>∃ ox od,InstAt h x ox C od) where
 ty:=fun _ _ _ ⟨_,_,I⟩=>I.type
 it:=fun _ _ X _=>by
  have hcD:=T.cl; unfold clsIn at hcD; split at hcD
  ·rename_i c' d' cd' sl' ho
   intro A' Q' E' s' k q; unfold isType loadHead; exact yA (wpAny_loadPart (k _ _ (X _ _ ho)) (yE q))
  ·cases hcD
 ne:=fun h tp dd its n sl X htp=>by
  have hcD:=T.cl
  refine Bool.eq_false_iff.mpr fun q=>?_
  have e:C=tp:=Value.ref.inj (beq_iff_eq.mp q)
  subst e; unfold clsIn at hcD; split at hcD
  ·rename_i c' d' cd' sl' ho
   have z:=(X _ _ ho).symm.trans htp; cases z
  ·cases hcD
 ca:=fun X ⟨_,_,I⟩ k=>xget_class? X I T.toXGet (zhc T.cl T.ha T.hn T.tk) T.ob k
end X1
namespace L2
open PySem PySem.Spec PyProof.Rows
structure InsT (K:W.Frag) (C:Addr):Prop where
 cl:Cls K C
 ha:W.findIn K (.ref C) "__class__"=some (some (.builtin "object.__class__"))
 hn:W.specialIn K (.builtin "object.__class__") "__get__"=some (some (.builtin "getset_descriptor.__get__"))
 htk:W.takesIn K (.builtin "object.__class__")=some true
 hm:W.mroIn K C (.type "object")=some true
def TyA (K:W.Frag) (H:Hp) (x:V) (t:Value):Prop:=(∃ n,t=.type n/\zp8 K H x n)\/(∃ a C dx fs,x=.ref a/\H a=some (.ins C dx fs)/\t=.ref C/\InsT K C)\/∃ a C dd,x=.ref a/\H a=some (.ext (XAt a C dd))/\(∀ dx,dd=some dx->∃ fs,H dx=some (.xd fs))/\t=.ref C/\X1.XIs K C
def zrN:V->Option Value
 | .ty n=>some (.type n)
 | .ref C=>some (.ref C)
 | _=>none
theorem zl2 {c:V} {u v:Value} (r:zbh c u) (h:zrN c=some v):u=v:=by
 cases c with
 | ty n=>cases h; exact r
 | ref C=>cases h; exact r
 | _=>cases h
section
variable {X:Cx}
theorem zmP {pins:List (Addr × Obj)} {σ:St} {H:Hp} {s:Shared} {x:V} {u t:Value} (I:Inv X pins σ H s) (r1:zbh x u) (ty:TyA X.K H x t):∃ Hh,W.KitX X.K u t Hh/\Hh s.heap/\u≠.builtin "__main__.__loader__#opaque":=by
 rcases ty with ⟨n,rfl,ty⟩ | ⟨a,C,dx,fs,rfl,ea,rfl,T⟩ | ⟨a,C,dd,rfl,ea,hdd,rfl,T⟩
 ·cases x with
  | non=>cases (show n=_ from ty); cases (show u=Value.none from r1); exact ⟨_,W.kitx_none,True.intro,fun z=>nomatch z⟩
  | bl y=>cases (show n=_ from ty); cases (show u=Value.bool y from r1); exact ⟨_,W.kitx_bool,True.intro,fun z=>nomatch z⟩
  | int i=>cases (show n=_ from ty); obtain ⟨tk,z⟩:=(show ∃ t,u=Value.int i t from r1); cases z; exact ⟨_,W.kitx_int,True.intro,fun z=>nomatch z⟩
  | str y=>cases (show n=_ from ty); obtain ⟨tk,z⟩:=(show ∃ t,u=Value.str y t from r1); cases z; exact ⟨_,W.kitx_str,True.intro,fun z=>nomatch z⟩
  | ref a =>
   cases (show u=Value.ref a from r1)
   rcases ty with ⟨rfl,xs,hq⟩ | ⟨rfl,xs,hq⟩ | ⟨rfl,hq⟩
   ·obtain ⟨its,_,p,_⟩:=I.list hq
    obtain ⟨o,n,e1,c1,_⟩:=p
    exact ⟨_,W.kitx_list,⟨o,e1,c1⟩,fun z=>nomatch z⟩
   ·obtain ⟨its,_,p,_⟩:=I.tuple hq
    obtain ⟨o,h1,h2,_⟩:=p
    exact ⟨_,W.kitx_tuple,⟨o,h1,h2⟩,fun z=>nomatch z⟩
   ·have z:∃ o,s.heap.get? a=some o/\o.ExactDict:=by
     rcases hq with ⟨kvs,hq⟩ | ⟨kvs,hq⟩
     ·obtain ⟨_,_,_,_,o,_,_,e,ex,_⟩:=hq.ok I.hok
      exact ⟨o,e,ex⟩
     ·obtain ⟨_,_,_,_,o,_,_,e,ex,_⟩:=hq.ok I.hok
      exact ⟨o,e,ex⟩
    obtain ⟨o,h1,h2⟩:=z
    exact ⟨_,W.kitx_dict,⟨o,h1,h2.1⟩,fun z=>nomatch z⟩
  | _=>exact False.elim ty
 ·cases (show u=Value.ref a from r1)
  obtain ⟨mA,O,_⟩:=zn1 I.hok ea; obtain ⟨od,J,_⟩:=O.look
  exact ⟨_,W.kitx_own (T.cl.get _) T.cl.hd T.ha T.hn T.htk T.hm,J,fun z=>nomatch z⟩
 ·cases (show u=Value.ref a from r1)
  obtain ⟨⟨vs,sl,hx⟩,_⟩:=(show zbv X.prog X.w H s.heap a (.ext (XAt a C dd)) from I.hok a _ ea)
  refine ⟨_,X1.kitx_exc T,?_,fun z=>nomatch z⟩
  cases dd with
  | none=>exact ⟨_,none,hx,rfl,rfl,True.intro⟩
  | some dx =>
   obtain ⟨fs,hf⟩:=hdd dx rfl
   obtain ⟨mA,⟨o,es,ep,ho,_⟩,_⟩:=(show zbv X.prog X.w H s.heap dx (.xd fs) from I.hok dx _ hf)
   exact ⟨_,some o,hx,rfl,rfl,ho⟩
theorem zkb:zcy X (.builtin "isinstance") (fun xs H Q=>∃ x t cv c b,xs=[x,cv]/\zrN cv=some c/\TyA X.K H x t/\W.kitOne X.K t c=some b/\Q (.bl b) H):=by
 intro pins s σ H xs us Q I r h; obtain ⟨x,t,cv,c,b,rfl,hc,ty,e,q⟩:=h; obtain ⟨u,w',rfl,r1,r2⟩:=zmO r
 cases zl2 r2 hc
 obtain ⟨Hh,kx,hp,ne⟩:=zmP I r1 ty
 exact W.kia_one kx I.kIn hp e ne fun tk=>⟨.bl b,H,I.tok _,rfl,q⟩
end
end L2
namespace PL
open PySem L2
section
variable {X:Cx} {pos:Pos}
def zrO:D->Option Value
 | .ty n=>some (.type n)
 | .cls C=>some (.ref C)
 | _=>none
theorem zoe {K:W.Frag} {H:Hp} {v:V} {d:D} {c:Value} (h:Den K H v d) (e:zrO d=some c):zrN v=some c:=by
 cases h with
 | ty n=>exact e
 | cls C=>exact e
 | _=>cases e
def TyD (K:W.Frag) (d:D) (t:Value):Prop:=(∃ n,t=.type n/\zha d=some n)\/(∃ C fs,d=.obj C fs/\t=.ref C/\InsT K C)\/∃ C fs,d=.exc C fs/\t=.ref C/\X1.XIs K C
theorem TyD.ok {K:W.Frag} {Hi H:Hp} {x:V} {d:D} {t:Value} (s:zaM Hi H) (den:Den K Hi x d) (h:TyD K d t):TyA K H x t:=by
 rcases h with ⟨n,rfl,h⟩ | ⟨C,fs,rfl,rfl,T⟩ | ⟨C,fs,rfl,rfl,T⟩
 ·exact .inl ⟨n,rfl,zlM s den h⟩
 ·obtain ⟨a,dx,fvs,rfl,ha,_⟩:=den.objI
  exact .inr (.inl ⟨a,C,dx,fvs,rfl,s _ _ ha,rfl,T⟩)
 ·obtain ⟨a,dd,rfl,ha,xd⟩:=den.excI
  refine .inr (.inr ⟨a,C,dd,rfl,s _ _ ha,fun dx e=>?_,rfl,T⟩)
  rcases xd with ⟨e',_⟩ | ⟨dx',fs',e',hf,_⟩
  ·rw [e'] at e; cases e
  ·rw [e'] at e
   cases e; exact ⟨fs',s _ _ hf⟩
def zih (K:W.Frag):RC':=fun ds Q=>∃ d t cd c b,ds=[d,cd]/\zrO cd=some c/\TyD K d t/\W.kitOne K t c=some b/\Q (.bl b)
theorem zp4:Cal X (.builtin "isinstance") (zih X.K):=⟨_,zkb,by
 rintro Hi H vs ds Q Q2 s dl ⟨d,t,cd,c,b,rfl,hc,ty,e,q⟩ fin
 obtain ⟨v,w,rfl,d1,d2⟩:=ziy dl; exact ⟨v,t,w,c,b,rfl,zoe d2 hc,ty.ok s.sub d1,e,fin Hi H _ _ (Ext.refl s) (.bl _) q⟩⟩
end
end PL
namespace L2
open PySem PySem.Spec PyProof.Rows
section
variable {X:Cx} {pins:List (Addr × Obj)} {σ:St} {H:Hp} {s:Shared} {a:Addr} {y d:V} {u r:Value} {o:Option V} {A:Around} {E:Value->Shared->Prop}
end
section
variable {X:Cx} {o e f:Expr} {apos cpos:Pos} {td ty tx:TE}
end
section
variable {X:Cx} {tg:Expr}
end
end L2
namespace PL
open PySem L2
section
variable {X:Cx} {pos:Pos}
def zfo (neg:Bool):R2':=fun x y Q=>∃ (l:List Nat) (ms:List (List Nat)),x=.str l/\(y=.tup (ms.map .str)\/y=.lst (ms.map .str))/\Q (.bl (if neg then !decide (l ∈ ms) else decide (l ∈ ms)))
theorem zfD {K:W.Frag} {Hi:Hp}:∀ {vs:List V} {ms:List (List Nat)},zbI K Hi vs (ms.map .str)->vs=ms.map fun m=>V.str (st m)
 | [],[],_=>rfl
 | v :: vs,m :: ms,.cons r t=>by rw [yq,<- r.strI,<- zfD t]
 | [],_ :: _,h=>nomatch h
 | _ :: _,[],h=>nomatch h
theorem zfB (l:List Nat):∀ ms:List (List Nat),inV (.str (st l)) (ms.map fun m=>V.str (st m))=decide (l ∈ ms)
 | []=>rfl
 | m :: ms=>by
  have ih:=zfB l ms
  unfold inV at ih ⊢
  rw [yq,List.any_cons,ih]
  have e:eqV (.str (st m)) (.str (st l))=decide (m=l):=by
   show decide (st m=st l)=_
   by_cases h:m=l
   ·rw [h]; simp
   ·rw [yR h,yR (fun z=>h (by
     have:=yc (fun x:Str=>x.cps.toList) z
     simpa [st] using this))]
  rw [e]
  by_cases h:m=l
  ·subst h; simp
  ·have h':¬ l=m:=fun z=>h z.symm
   simp [h,h']
theorem zgm (ms:List (List Nat)):(ms.map fun m=>V.str (st m)).all zeI=true:=by
 rw [yp]; intro x hx; obtain ⟨m,_,rfl⟩:=yb.mp hx; rfl
theorem zhF {K:W.Frag} (neg:Bool):zfK K (rIn K neg) (zfo neg):=by
 rintro Hi H x y dx dy Q Q2 s d1 d2 ⟨l,ms,rfl,hy,q⟩ fin
 cases d1.strI
 rcases hy with rfl | rfl
 ·obtain ⟨a,vs,rfl,h1,h2⟩:=d2.tupJ
  rw [zfD h2] at h1; refine ⟨a,_,rfl,.inr (SqT.of (s.sub _ _ h1)),rfl,zgm ms,?_⟩; rw [zfB]; exact fin Hi H _ _ (Ext.refl s) (.bl _) q
 ·obtain ⟨a,vs,rfl,h1,h2⟩:=d2.lstI
  rw [zfD h2] at h1; refine ⟨a,_,rfl,.inl (zaF s.sub h1),rfl,zgm ms,?_⟩; rw [zfB]; exact fin Hi H _ _ (Ext.refl s) (.bl _) q
theorem zlm:Op2 X (compareOp .In) (zfo false):=⟨_,zjn,zhF false⟩
theorem zg4:Op2 X (compareOp .NotIn) (zfo true):=⟨_,zf4,zhF true⟩
instance {neg:Bool}:MR2 (zfo neg):=⟨fun _ _ _ _ h ⟨l,ms,a,b,q⟩=>⟨l,ms,a,b,h _ q⟩⟩
end
section
variable {X:Cx} {Q:D->Prop}
instance:MR2 zgT:=⟨fun _ _ _ _ h ⟨i,j,a,b,c,q⟩=>⟨i,j,a,b,c,h _ q⟩⟩
def zfY:R2':=fun x y Q=>zfp x y Q\/zgT x y Q
theorem zbZ:Op2 X (binaryOp .Add) zfY:=zrv.or zpu
instance:MR2 zfY:=⟨fun _ _ _ _ h q=>q.imp (MR2.mono (r:=zfp) _ _ _ _ h) (MR2.mono (r:=zgT) _ _ _ _ h)⟩
instance {neg:Bool}:MR2 (zmg neg):=⟨fun _ _ _ _ h ⟨i,j,a,b,q⟩=>⟨i,j,a,b,h _ q⟩⟩
def zoV:R2':=fun x y Q=>zkT false x y Q\/zmg false x y Q\/zfo false x y Q
theorem zpw (hu:X.A.units+1<cLine):Op2 X (compareOp .In) zoV:=zrs.or ((zrr hu).or zlm)
instance:MR2 zoV:=⟨fun _ _ _ _ h q=>q.imp (MR2.mono (r:=zkT false) _ _ _ _ h) (fun q=>q.imp (MR2.mono (r:=zmg false) _ _ _ _ h) (MR2.mono (r:=zfo false) _ _ _ _ h))⟩
def zgP:R2':=fun x y Q=>zfm x y Q\/zmg true x y Q\/zfo true x y Q
theorem zln (hu:X.A.units+1<cLine):Op2 X (compareOp .NotIn) zgP:=znH.or ((zlj hu).or zg4)
instance:MR2 zgP:=⟨fun _ _ _ _ h q=>q.imp (MR2.mono (r:=zfm) _ _ _ _ h) (fun q=>q.imp (MR2.mono (r:=zmg true) _ _ _ _ h) (MR2.mono (r:=zfo true) _ _ _ _ h))⟩
instance:MR2 zgR:=⟨fun _ _ _ _ h ⟨i,j,v,a,b,c,q⟩=>⟨i,j,v,a,b,c,h _ q⟩⟩
def zgQ:R2':=fun x y Q=>zkl x y Q\/zgR x y Q
theorem i_A (hu:X.A.units+1<cLine):Ixs X zgQ:=zrz.or (zrA hu)
instance:MR2 zgQ:=⟨fun _ _ _ _ h q=>q.imp (MR2.mono (r:=zkl) _ _ _ _ h) (MR2.mono (r:=zgR) _ _ _ _ h)⟩
instance:MRS zfV:=⟨fun _ _ _ _ _ h ⟨ds,e,q⟩=>⟨ds,e,h _ q⟩⟩
def ziG:RS':=fun x lo hi Q=>zi4 x lo hi Q\/zfV x lo hi Q
theorem s_A:Sli X ziG:=zsD.or zqV
instance:MRS ziG:=⟨fun _ _ _ _ _ h q=>q.imp (MRS.mono (r:=zi4) _ _ _ _ _ h) (MRS.mono (r:=zfV) _ _ _ _ _ h)⟩
def zem:RC':=fun ds Q=>zen ds Q\/zfX ds Q
theorem zbQ:Cal X (.builtin "len") zem:=zrQ.or zp3
instance:MRC zem:=⟨fun _ _ _ h q=>q.imp (MRC.mono (r:=zen) _ _ _ h) (MRC.mono (r:=zfX) _ _ _ h)⟩
def ze1:zl7:=fun ds Q=>zfn ds Q\/zd5 ds Q
theorem zhf (hc:X.calm=true):CalO X (.type "list") ze1:=zp2.or (zog hc)
@[simp] theorem zqL:D.tup []=plc []:=rfl
@[simp] theorem zqK (l:List Nat):D.tup [.str l]=plc [l]:=rfl
def zdb (p:List (List Nat)):List Key:=p.map fun l=>Sum.inr (st l)
theorem zcQ (p:List (List Nat)):plc p=.tup ((zdb p).map keyD):=by
 unfold plc zdb; rw [yo]
 exact yc D.tup (YM fun l _=>by
  show D.str l=D.str (st l).cps.toList
  rw [zaN])
theorem zfs {p q:List (List Nat)} (h:plc p=plc q):p=q:=by
 unfold plc at h
 injection h with h
 exact (List.map_inj_right (fun a b h=>D.str.inj h)).mp h
@[simp] theorem zsf (p q:List (List Nat)):plc p=plc q↔p=q:=⟨zfs,fun h=>by rw [h]⟩
@[simp] theorem zoW (i j:Int):zfY (.int i) (.int j) Q↔Q (.int (i+j)):=by simp [zfY,zgT]
@[simp] theorem zi9 (l m:List Nat):zfY (.str l) (.str m) Q↔l.length+m.length<=sizeLine/\Q (.str (l ++ m)):=by simp [zfY,zgT]
@[simp] theorem zja (p q:List (List Nat)):zfY (plc p) (plc q) Q↔p.length+q.length<=sizeLine/\Q (plc (p ++ q)):=by
 simp [zfY,zgT,zfp,zgU,plc]
@[simp] theorem zq7 (c:Nat) (l:List Nat):zoV (.str [c]) (.str l) Q↔Q (.bl (decide (c ∈ l))):=by simp [zoV,zmg,zfo]
theorem zdg (p:List (List Nat)) (ds:List (D × D)) (h:Q (.bl (!(zce ds (plc p)).isSome))):zgP (plc p) (.dit ds) Q:=.inr (.inl ⟨zdb p,ds,zcQ p,rfl,h⟩)
@[simp] theorem zqs (ds:List D) (i:Int):zgQ (.lst ds) (.int i) Q↔∃ d,atI ds i=some d/\Q d:=by simp [zgQ,zgR]
@[simp] theorem zkS (ds:List D) (i:Int):zgQ (.tup ds) (.int i) Q↔∃ d,atI ds i=some d/\Q d:=by simp [zgQ,zgR]
@[simp] theorem zqq (l:List Nat) (i:Int):zgQ (.str l) (.int i) Q↔l.length<=sizeLine/\∃ c,atI l i=some c/\Q (.str [c]):=by simp [zgQ,zgR]
@[simp] theorem zqr (p:List (List Nat)) (i:Int):zgQ (plc p) (.int i) Q↔∃ d,atI (p.map D.str) i=some d/\Q d:=zkS _ i
theorem zhx (p:List (List Nat)) (ds:List (D × D)) {v:D} (e:zce ds (plc p)=some v) (h:Q v):zgQ (.dit ds) (plc p) Q:=.inr ⟨ds,zdb p,v,rfl,zcQ p,e,h⟩
@[simp] theorem zq1 (l:List Nat) (n:Int):ziG (.str l) none (some n) Q↔l.length<=sizeLine/\0<=n/\Q (.str (l.take n.toNat)):=by simp [ziG,zfV]
@[simp] theorem zoO (l:List Nat) (n:Int):ziG (.str l) (some n) none Q↔l.length<=sizeLine/\0<=n/\Q (.str (l.drop n.toNat)):=by simp [ziG,zfV]
@[simp] theorem zqk (ds:List D) (lo hi:Option Int):ziG (.lst ds) lo hi Q↔Q (.lst (zcV ds lo hi)):=by simp [ziG,zfV]
@[simp] theorem zhw (ds:List D) (lo hi:Option Int):ziG (.tup ds) lo hi Q↔Q (.tup (zcV ds lo hi)):=by simp [ziG,zfV,zi4,zid,zie]
theorem zhU {α β:Type} (f:α->β) (xs:List α) (lo hi:Option Int):zcV (xs.map f) lo hi=(zcV xs lo hi).map f:=by
 unfold zcV; rw [yD,List.map_take,List.map_drop]
@[simp] theorem zqj (p:List (List Nat)) (lo hi:Option Int):ziG (plc p) lo hi Q↔Q (plc (zcV p lo hi)):=by
 unfold plc; rw [zhw,zhU]
@[simp] theorem zoQ (l:List Nat):zem [.str l] Q↔l.length<=sizeLine/\Q (.int (l.length:Nat)):=by simp [zem,zfX]
@[simp] theorem zoS (l:List D):zem [.lst l] Q↔Q (.int (l.length:Nat)):=by simp [zem,zfX]
@[simp] theorem zi5 (l:List D):zem [.tup l] Q↔Q (.int (l.length:Nat)):=by simp [zem,zfX]
@[simp] theorem zoR (p:List (List Nat)):zem [plc p] Q↔Q (.int (p.length:Nat)):=by
 unfold plc; rw [zi5,yD]
@[simp] theorem zoT (l:List (D × D)):zem [.dit l] Q↔Q (.int (l.length:Nat)):=by simp [zem,zfX,zen]
@[simp] theorem zqe (p:List (List Nat)):zoJ (plc p)=some (p.map .str):=rfl
@[simp] theorem zif {Q:OD->Prop} (l:List D):ze1 [.tup l] Q↔Q (.lst l):=by simp [ze1,zfn,zd5]
@[simp] theorem zom {Q:OD->Prop} (l:List (D × D)):ze1 [.dit l] Q↔Q (.lst (l.map (·.1))):=by simp [ze1,zfn,zd5]
theorem zgs {α:Type} (xs:List α):zcV xs none (some (-1))=xs.dropLast:=by
 unfold zcV
 have e:HT.sIx xs.length xs.length (some (-1))=xs.length-1:=by
  show (if (-1:Int)<0 then ((-1:Int)+(xs.length:Int)).toNat else min (-1:Int).toNat xs.length)=_
  rw [yP (by decide)]
  omega
 rw [HT.sIx_none,e,List.drop_zero,Nat.sub_zero,List.dropLast_eq_take]
theorem zdj {i:Int} {j:Nat} {p pos:Pos}:PE' X (.UnaryOp .USub (.Constant (.int i) j p) pos) (tC' (.int (-i))):=by
 refine zgW (v:=.int (-i)) (PE.weak (zrc zor zmn) ?_) fun _=>.int _
 intro σ H Q q; exact ⟨i,rfl,q⟩
theorem zbt {A:Around} {k:Nat} (hr:Room k A):A.units+100<cLine:=by have:=hr.un; omega
@[simp] theorem zsW {α:Type} (a:α) (l:List α):atI (a :: l) 0=some a:=zdV (j:=0) rfl
@[simp] theorem zsV {α:Type} (a b:α) (l:List α):atI (a :: b :: l) 1=some b:=zdV (j:=1) rfl
@[simp] theorem zsU {α:Type} (a b c:α) (l:List α):atI (a :: b :: c :: l) 2=some c:=zdV (j:=2) rfl
@[simp] theorem zsp {CX:CXT} {P:Program} {w:World} {K:W.Frag} {mg:Str->Option Value} {base:Heap} {N:List Str} {q:Str} {sc:Scope} {f:Addr} {cd:Value} {A:Around} {o:List Env} {s:Shared} {H:Hp} {E:XK}:(zd9 CX P w K mg base N q sc f cd A o s H E).K=K:=rfl
@[simp] theorem zso {CX:CXT} {P:Program} {w:World} {K:W.Frag} {mg:Str->Option Value} {base:Heap} {N:List Str} {q:Str} {sc:Scope} {f:Addr} {cd:Value} {A:Around} {o:List Env} {s:Shared} {H:Hp} {E:XK}:(zd9 CX P w K mg base N q sc f cd A o s H E).N=N:=rfl
theorem zig (K:W.Frag) {d:D} {n:String} (hk:zha d=some n) {cd:D} {c:Value} (hc:zrO cd=some c):zih K [d,cd] Q↔∃ b,W.kitOne K (.type n) c=some b/\Q (.bl b):=by
 constructor
 ·rintro ⟨d',t,cd',v,b,e,h1,h2,h3,q⟩
  injection e with e1 e2
  injection e2 with e2 _
  subst e1 e2
  rw [hc] at h1; cases h1
  rcases h2 with ⟨m,rfl,h2⟩ | ⟨C',fs',rfl,rfl,T⟩ | ⟨C',fs',rfl,rfl,T⟩
  ·rw [hk] at h2
   cases h2; exact ⟨b,h3,q⟩
  ·cases hk
  ·cases hk
 ·rintro ⟨b,h,q⟩
  exact ⟨d,_,cd,c,b,rfl,hc,.inl ⟨n,rfl,hk⟩,h,q⟩
@[simp] theorem zoU (K:W.Frag) (c:String) (x:List Nat):zih K [(.str x),.ty c] Q↔∃ b,W.kitOne K (.type "str") (.type c)=some b/\Q (.bl b):=zig K rfl rfl
end
end PL
namespace X1
open PySem PySem.W
section
variable {prog:Program} {w:World} {A:Around} {E:Value->Shared->Prop} {s:Shared} {K:Frag} {x C:Addr} {vs:Array Value} {sl:Array (Option Value)} {name:Str} {v:Value}
end
section
variable {prog:Program} {w:World} {A:Around} {E:Value->Shared->Prop} {h:Heap} {g:Array GenState} {d:Drawn} {t:Nat} {os:OsState} {C N e:Addr} {bm bmB:List Value} {B nid iid:String} {zdF:List Value} {vs:Array Value} {dd:Option Addr} {sl:Array (Option Value)}
end
end X1
namespace L2
open PySem PySem.Spec PyProof.Rows
section
variable {P:Program} {w:World} {K:W.Frag} {mg:Str->Option Value} {base:Heap} {N:List Str} {qual:Str} {scope:Scope} {f:Addr} {cd:Value} {A:Around} {outer:List Env} {s s':Shared} {H H':Hp} {E:XK} {pins:List (Addr × Obj)} {σ:St} {e C:Addr} {dd:Option Addr}
end
structure FlyI (X:Cx) (pins:List (Addr × Obj)) (H:Hp) (h:Heap) (e C:Addr) (dd:Option Addr):Prop where
 fe:zfL X pins H e
 ex:∃ vs,X1.Ex h e (.ref C) dd vs/\1<vs.size/\X1.Hd h e vs .none (zfL X pins H)
abbrev XS:=St->XK
def XP (X:Cx) (pins:List (Addr × Obj)) (E:XS) (e:Value) (s':Shared):Prop:=∃ ae C dd σ' H',e=.ref ae/\Inv X pins σ' H' s'/\FlyI X pins H' s'.heap ae C dd/\E σ' (.ref C) dd H'
abbrev TEx:=St->Hp->VK->XK->Prop
abbrev TSx:=Ends->XS->St->Hp->Prop
section
variable {X:Cx} {st:Stmt} {zdF:List Stmt} {t u:TSx} {e:Expr} {te:TEx} {pos:Pos}
end
section
variable {P:Program} {w:World} {K:W.Frag} {mg:Str->Option Value} {base:Heap}
end
def del (H:Hp) (a:Addr):Hp:=fun b=>if b=a then none else H b
section
variable {X:Cx}
end
section
variable {X:Cx} {pins:List (Addr × Obj)} {σ:St} {H:Hp} {s:Shared}
end
section
variable {X:Cx}
end
end L2
namespace PL
open PySem L2
abbrev XW:=Addr->List (Str × D)->Sts->Prop
abbrev zsZ:=Sts->(D->Sts->Prop)->XW->Prop
abbrev zsq:=Ends'->XW->Sts->Prop
section
variable {X:Cx} {pos:Pos} {e:Expr} {te:zsZ} {st:Stmt} {zdF:List Stmt} {t u:zsq}
abbrev zrU:=List D->(Res->Prop)->(Addr->List (Str × D)->Prop)->Prop
end
section
variable {X:Cx} {k:Nat} {x:Str} {ps:List Str} {sp:zrU} {p pos:Pos} {e:Expr} {es:List Expr} {t:TA'}
end
section
variable {P:Program} {w:World} {K:W.Frag} {mg:Str->Option Value} {base:Heap}
theorem zc5 {N ps:List Str} {vs:List V} {ds:List D} {Hi H:Hp} (hlen:ds.length=ps.length) (hpl:ps.length<=N.length) (sb:Fz Hi H) (dl:zbI K Hi vs ds):Good K N.length ⟨H,Hi,[]⟩ Hi (zbn N ds) (L2.start N vs) H:=by
 have hvl:=zl dl
 refine ⟨?_,sb,fun b o e _=>e,fun b o e=>⟨o,e⟩,fun b o e=>rfl,fun j d e=>?_,fun j o e=>?_,fun j k o o' b e=>?_,fun j d b xs e=>?_⟩
 ·unfold L2.start
  rw [yQ,yD,List.length_replicate]; omega
 all_goals
  unfold zbn at e
  by_cases hj:j<ds.length
  ·rw [YE (by simpa using hj),yH,yC hj] at e
   try cases e
   try
    obtain ⟨v,e1,e2⟩:=zaS dl (yC hj); refine ⟨v,?_,e2⟩; unfold L2.start
    rw [YE (by rw [yD]; omega),yH,e1]
    rfl
  ·rw [List.getElem?_append_right (by simpa using hj),List.getElem?_replicate] at e
   split at e <;> cases e
end
section
variable {X:Cx} {k:Nat} {x fld:Str} {C:Addr} {ok:V->Hp->Prop} {okD:D->Prop} {p cpos pos:Pos} {e:Expr} {ta:TA'}
end
section
variable {X:Cx} {M:Addr} {x n:Str} {body suite:List Stmt} {b0:Stmt} {tb:zsq} {ts:TS'} {p hpos pos:Pos}
end
end PL
namespace L2
open PySem PySem.Spec PyProof.Rows PySem.Builtin PySem.Builtin.Str
section
variable {X:Cx}
end
end L2
namespace PL
open PySem L2
section
variable {X:Cx}
theorem zi0 {K:W.Frag} {H:Hp} {vs:List V} {ds:List D} (h:zbI K H vs ds):∀ k,zbI K H (List.replicate k vs).flatten (List.replicate k ds).flatten
 | 0=>.nil
 | k+1=>by
  rw [YL,YL,Yi,Yi]; exact zbg h (zi0 h k)
end
section
variable {X:Cx} {k:Nat} {x:Str} {ps:List Str} {sp:zrU} {p pos:Pos} {e:Expr} {es:List Expr} {t:TA'}
end
theorem zeN {X:Cx} (K:W.Frag) (h:X.K=K):Cal X (.builtin "isinstance") (zih K):=by
 subst h; exact zp4
end PL
namespace L2
open PySem PySem.Spec PyProof.Rows
section
variable {K:W.Frag} {C M N NM f:Addr} {c cM:Value} {d dM od:Option Addr} {es eM:Array DictEntry} {ep epM:Nat} {sl slM sf:Array (Option Value)}
end
end L2
namespace L2
open PySem
end L2
namespace L2
open PySem PySem.Spec PyProof.Rows
section
variable {X:Cx}
end
end L2
namespace PL
open PySem L2
section
variable {X:Cx} {k:Nat} {C:Addr} {m:Str} {ps:List Str} {sp:Sp'} {spx:zrU} {apos pos:Pos} {o e:Expr} {es:List Expr} {to:TE'} {t:TA'}
abbrev zki:=List D->Sts->(Sts->Prop)->Prop
def zsP (K:W.Frag) (n:Nat) (g:zki):TGs:=fun vs σ H Q2=>∃ W Hi Γ ds Q,Good K n W Hi Γ σ H/\zbI K Hi vs ds/\g ds Γ Q/\∀ σ' H' Hi' Γ',zaM Hi Hi'->Good K n W Hi' Γ' σ' H'->Q Γ'->Q2 σ' H'
structure PGs' (X:Cx) (es:List Expr) (g:zki):Prop where
 h:PGs X es (zsP X.K X.N.length g)
theorem PGs.weak {es:List Expr} {t t2:TGs} (h:PGs X es t) (w:∀ vs σ H Q,t2 vs σ H Q->t vs σ H Q):PGs X es t2:=fun pins s σ H vs us Q I r q=>h pins s σ H vs us Q I r (w _ _ _ _ q)
def zas:zki:=fun ds Γ Q=>ds=[]/\Q Γ
def zF (t:TG') (u:zki):zki:=fun ds Γ Q=>∃ d r,ds=d :: r/\t d Γ fun Γ1=>u r Γ1 Q
def zar (n:Nat) (t:zki):TG':=fun d Γ Q=>∃ ds,d=.tup ds/\ds.length=n/\t ds Γ Q
theorem zhz:PGs' X [] zas:=by
 refine ⟨PGs.weak znq ?_⟩
 rintro vs σ H Q ⟨W,Hi,Γ,ds,Q',g,dl,⟨rfl,q⟩,fin⟩
 cases dl; exact ⟨rfl,fin σ H Hi Γ (zaM.refl _) g q⟩
theorem zdt {e:Expr} {es:List Expr} {t:TG'} {u:zki} (h1:PG' X e t) (h2:PGs' X es u) (hs:(assignEach (e :: es) X.env).map (·.2)=assign e X.env :: (assignEach es X.env).map (·.2):=by rfl):PGs' X (e :: es) (zF t u):=by
 refine ⟨PGs.weak (zk9 h1.h h2.h hs) ?_⟩
 rintro vs σ H Q ⟨W,Hi,Γ,ds,Q',g,dl,⟨d,r,rfl,q⟩,fin⟩
 cases dl with
 | cons r0 rr =>
  refine ⟨_,_,rfl,W,Hi,Γ,d,_,g,r0,q,?_⟩; intro σ1 H1 Hi1 Γ1 s1 g1 q1
  exact ⟨W,Hi1,Γ1,r,Q',g1,zbI.mono rr s1,q1,fun σ2 H2 Hi2 Γ2 s2=>fin σ2 H2 Hi2 Γ2 (s1.trans s2)⟩
theorem zjh {es:List Expr} {k n:Nat} {t:zki} (h:PGs' X es t) (hc:X.calm=true:=by rfl) (hn:(assignEach es X.env).length=n:=by rfl) (hst:(assignEach es X.env).findIdx? (·.1)=none:=by rfl):PG' X (.Tuple es k pos) (zar n t):=by
 refine ⟨PG.weak (zo7 hc h.h hn hst) ?_⟩
 rintro v σ H Q ⟨W,Hi,Γ,d,Q',g,den,⟨ds,rfl,hl,q⟩,fin⟩
 obtain ⟨a,vs,rfl,ha,dl⟩:=den.tupI
 exact ⟨a,vs,rfl,zaE g.sub ha,by rw [zl dl]; exact hl,W,Hi,Γ,ds,Q',g,dl,q,fin⟩
theorem zni {tg e:Expr} {te:TE'} {g:TG'} (he:PE' X e te) (hg:PG' X tg g) (hs:swapsWithSole [tg] e pos.line X.env=pure false:=by rfl) (hw:swappedStores [tg] e X.env=pure none:=by rfl) (h1:(assignEach [tg] X.env).map (·.2)=[assign tg X.env]:=by rfl):PS' X (.Assign [tg] e pos) (zaf te g):=by
 refine ⟨PS.weak (zo3 he.h hg.h hs hw h1) ?_⟩
 rintro N2 σ H ⟨W,Hi,Γ,N,g,h,l⟩
 refine ⟨W,Hi,Γ,_,g,h,?_⟩
 rintro v H1 ⟨Hi1,d,Γ1,s1,g1,den,q⟩
 exact ⟨W,Hi1,Γ1,d,_,g1,den,q,fun σ2 H2 Hi2 Γ2 s2 g2 q2=>l.nx σ2 H2 Hi2 Γ2 (s1.trans s2) g2 q2⟩
end
section
variable {X:Cx}
end
section
variable {P:Program} {w:World} {K:PySem.W.Frag} {mg:Str->Option Value} {base:Heap}
end
end PL
namespace Mu
open PySem PySem.Builtin
theorem noFill_tup:fillsNumberSlot (.type "tuple") "mul"=pure false :=
 fillsNumberSlot_seq (id:="tuple.__mul__") (r:=some (.builtin "tuple.__rmul__")) PySem.F.slot_tuple_mul.lookup (by decide +kernel) PySem.F.slot_tuple_rmul.lookup (by decide +kernel)
theorem rep_tup:seqRepeat? (.type "tuple")=pure (some (.builtin "tuple.__mul__")):=by
 unfold seqRepeat?
 rw [seqSlot_of (T:="tuple") (name:="__mul__") (id:="tuple.__mul__") PySem.F.slot_tuple_mul.lookup (by decide +kernel),seqSlot_of (T:="tuple") (name:="__rmul__") (id:="tuple.__rmul__") PySem.F.slot_tuple_rmul.lookup (by decide +kernel)]
 rfl
theorem rmul_tup (a:Int) (t:Tok) (l:Addr) (o:Obj) (xs:Array Value) (n:Nat) (hc:o.cls=.type "tuple") (hd:o.data=.seq xs n):Meets (Builtin.«int.__rmul__» ⟨[.int a t,.ref l],[]⟩) (fun _ R s=>s.heap.get? l=some o/\R (.ok (.ret Value.notImplemented)) s) :=
 .of_wp fun prog w A R s h=>by
  obtain ⟨hp,g,d,tk,os⟩:=s; obtain ⟨hl,h⟩:=h; obtain ⟨oc,od,dt,sl⟩:=o
  dsimp only at hc hd
  subst hc hd
  wp_walk
  exact ⟨_,rfl,h⟩
theorem mul_tup (k:Nat) (t:Tok) (l:Addr) (o:Obj) (xs:Array Value) (n:Nat) (hc:o.cls=.type "tuple") (hd:o.data=.seq xs n) (hk:2<=k) (hk2:k<=100) (hz:xs.size * k<=10000) :
  Meets (Builtin.«tuple.__mul__» ⟨[.ref l,.int k t],[]⟩) (fun _ R s=>s.heap.get? l=some o/\(xs.isEmpty=true->R (.ok (.ret (.ref l))) s) /\
   (xs.isEmpty=false->R (.ok (.ret (.ref s.heap.objs.size))) { s with heap:=s.heap.push { cls:=.type "tuple",data:=.seq ((List.replicate k xs).foldl (· ++ ·) #[]) } })) :=
 .of_wp fun prog w A R s h=>by
  obtain ⟨hp,g,d,tk,os⟩:=s; obtain ⟨hl,h1,h2⟩:=h; obtain ⟨oc,od,dt,sl⟩:=o
  dsimp only at hc hd
  subst hc hd
  have e1:(decide ((k:Int)< -(2 ^ 63)) || decide ((k:Int) >= 2 ^ 63))=false:=by
   rw [yR (by omega),yR (by omega)]
   rfl
  have e2:((k:Int) == 1)=false:=by rw [beq_eq_false_iff_ne]; omega
  have e3:decide ((k:Int)<=0)=false:=yR (by omega)
  have e4:¬ ((xs.size:Int) * (k:Int) > (2 ^ 63-1) / 8):=by
   have:((xs.size * k:Nat):Int)<=10000:=by omega
   rw [Int.natCast_mul] at this; omega
  have e5:Builtin.Tuple.tupleTooMany ((xs.size:Int) * (k:Int))=false:=by
   unfold Builtin.Tuple.tupleTooMany
   have:((xs.size * k:Nat):Int)<=10000:=by omega
   rw [Int.natCast_mul] at this
   have b:10000<sizeLine:=by decide
   exact yR (by omega)
  wp_walk
  rw [yN (by rw [e1]; exact yI)]
  wp_walk
  cases he:xs.isEmpty with
  | true =>
   wp_walk
   exact ⟨_,rfl,h1 he⟩
  | false =>
   wp_walk
   rw [yN (by rw [e3]; decide)]
   dsimp only
   rw [yN e4,yN (by rw [e5]; decide),Int.toNat_natCast]
   have hsz:(List.foldl (fun x1 x2=>x1 ++ x2) #[] (List.replicate k xs)).size<=sizeLine:=by
    have e:=L2.foldl_rep xs.toList k []
    have e':List.foldl (fun x1 x2=>x1 ++ x2) #[] (List.replicate k xs)=([] ++ (List.replicate k xs.toList).flatten).toArray:=by simpa using e
    rw [e',yM,List.nil_append,L2.len_rep,yj,Nat.mul_comm]
    have b:10000<sizeLine:=by decide
    omega
   unfold Builtin.Tuple.tupleExact; exact yA (ya (yE ⟨_,rfl,h2 he⟩) hsz)
end Mu
namespace L2
open PySem PySem.Spec PyProof.Rows
section
variable {X:Cx}
def zq2:R2:=fun x y H Q=>∃ (l:Addr) (k:Nat) (xs:List V),x=.ref l/\y=.int k/\H l=some (.tup xs)/\2<=k/\k<=100/\xs.length * k<=10000/\(xs=[]->Q (.ref l) H)/\(xs≠[]->∀ p,H p=none->Q (.ref p) (upd H p (.tup (List.replicate k xs).flatten)))
theorem znB:OpR X (binaryOp .Mult) zq2:=by
 intro pins s σ H x y v u Q I rx ry h; obtain ⟨l,k,xs,rfl,rfl,hH,h1,h2,hz,q1,q2⟩:=h; cases rx; obtain ⟨t,rfl⟩:=ry
 obtain ⟨z,its,r,o,ho,hc,n,hd⟩:=(show zbv X.prog X.w H s.heap l (.tup xs) from I.hok l _ hH)
 have hl:=r.length
 refine wpAny_binaryOp_repeat_ref (T:="tuple") (U:="int") (by decide) ⟨_,ho,hc⟩ (fun s'=>typeIs_int s' k t) Mu.noFill_tup PySem.F.fills_int_mul PySem.F.slot_int_rmul Mu.rep_tup PySem.F.slot_int_index.lookup
  (call_meets PySem.F.slot_int_rmul (typeIs_int s k t) PySem.F.entry_int_rmul (PySem.F.args_int_rmul_2 _ _) (Mu.rmul_tup k t l o its.toArray n hc hd) ⟨ho,rfl,⟨_,ho,hc⟩,call_meets PySem.F.slot_tuple_mul ⟨_,ho,hc⟩ PySem.F.entry_tuple_mul (PySem.F.args_tuple_mul_2 _ _) (Mu.mul_tup k t l o its.toArray n hc hd h1 h2 (by rw [yM,<- hl]; exact hz)) ⟨ho,fun e=>?_,fun e=>?_⟩⟩)
 ·have:xs=[]:=Yb (by rw [hl]; simpa using e)
  exact ⟨.ref l,H,I,rfl,q1 this⟩
 ·have hne:xs≠[]:=fun z=>by
   rw [z] at hl
   have:its=[]:=Yb hl.symm
   rw [this] at e
   simp at e
  have e':List.foldl (fun x1 x2=>x1 ++ x2) #[] (List.replicate k its.toArray)=(List.replicate k its).flatten.toArray:=by
   have:=foldl_rep its k []
   rw [List.nil_append] at this; exact this
  rw [e']
  have hlen:(List.replicate k xs).flatten.length<=sizeLine:=by
   rw [len_rep,Nat.mul_comm]
   have b:10000<sizeLine:=by decide
   omega
  refine ⟨.ref _,upd H s.heap.objs.size (.tup (List.replicate k xs).flatten),I.laid (t':=s.toks) (fun _ _ q=>yB _ q) (yF _) ⟨hlen,(List.replicate k its).flatten,r.rep k,⟨_,yK _ rfl,rfl,_,rfl⟩⟩,rfl,q2 hne _ I.fresh⟩
end
end L2
namespace PL
open PySem L2
section
variable {X:Cx}
def zfW:R2':=fun x y Q=>∃ (ds:List D) (k:Nat),x=.tup ds/\y=.int k/\2<=k/\k<=100/\ds.length * k<=10000/\Q (.tup (List.replicate k ds).flatten)
theorem zps:Op2 X (binaryOp .Mult) zfW:=⟨_,znB,by
 rintro Hi H x y dx dy Q Q2 s d1 d2 ⟨ds,k,rfl,rfl,h1,h2,h3,q⟩ fin
 obtain ⟨a,vs,rfl,ha,dl⟩:=d1.tupJ; have hl:=zl dl
 refine ⟨a,k,vs,rfl,d2.intI,s.sub _ _ ha,h1,h2,by rw [hl]; exact h3,fun e=>?_,fun _ p hp=>?_⟩
 ·have:ds=[]:=Yb (by rw [<- hl,e]; rfl)
  subst this; refine fin Hi H _ (.tup []) (Ext.refl s) d1 ?_
  simpa using q
 ·have e:=Ext.new s hp (.tup (List.replicate k vs).flatten)
  exact fin _ _ _ _ e (Den.mkT zw (zi0 (dl.mono e.hi) k)) q⟩
instance:MR2 zfW:=⟨fun _ _ _ _ h ⟨ds,k,a,b,c,d,e,q⟩=>⟨ds,k,a,b,c,d,e,h _ q⟩⟩
end
section
variable {X:Cx} {Q:D->Prop}
def zkR:R2':=fun x y Q=>rI' zmL (fun i j=>.int (i * j)) x y Q\/zfW x y Q
theorem zjt:Op2 X (binaryOp .Mult) zkR:=zro.or zps
instance:MR2 zkR:=⟨fun _ _ _ _ h q=>q.imp (MR2.mono (r:=rI' zmL fun i j=>.int (i * j)) _ _ _ _ h) (MR2.mono (r:=zfW) _ _ _ _ h)⟩
@[simp] theorem zoP (i j:Int):zkR (.int i) (.int j) Q↔zmL i j/\Q (.int (i * j)):=by simp [zkR,zfW]
def zi7:RC':=fun ds Q=>∃ b:Bool,ds=[.bl b]/\Q (.int (if b then 1 else 0))
theorem zp5:Cal X (.type "int") zi7:=⟨_,zkc,by
 rintro Hi H vs ds Q Q2 s dl ⟨b,rfl,q⟩ fin
 obtain ⟨v,rfl,den⟩:=zdC dl
 exact .inr ⟨b,by rw [den.blI],fin Hi H _ _ (Ext.refl s) (.int _) q⟩⟩
instance:MRC zi7:=⟨fun _ _ _ h ⟨b,e,q⟩=>⟨b,e,h _ q⟩⟩
instance:MRC zi6:=⟨fun _ _ _ h ⟨l,n,a,b,c,q⟩=>⟨l,n,a,b,c,h _ q⟩⟩
def zi8:RC':=fun ds Q=>zi6 ds Q\/zi7 ds Q
theorem zkd:Cal X (.type "int") zi8:=zrR.or zp5
instance:MRC zi8:=⟨fun _ _ _ h q=>q.imp (MRC.mono (r:=zi6) _ _ _ h) (MRC.mono (r:=zi7) _ _ _ h)⟩
@[simp] theorem zqt (b:Bool):zi8 [.bl b] Q↔Q (.int (if b then 1 else 0)):=by simp [zi8,zi6,zi7]
end
end PL
namespace Zp
open PySem
structure Src (prog:Program) (w:World) (it:Addr) (xs:List Value) (fp:List Addr) (nx:Nat->Heap->Prop):Prop where
 mem:it ∈ fp
 fr:∀ i h h',nx i h->(∀ c ∈ fp,∀ o,h.get? c=some o->h'.get? c=some o)->nx i h'
 at_:∀ i h,nx i h->∃ o,h.get? it=some o/\∀ v,o.data≠.cell v
 item:∀ (A:Around) (s:Shared) (i:Nat) (x:Value) (Q:Value->Shared->Prop) (E:Value->Shared->Prop),nx i s.heap->xs[i]?=some x->(∀ h',nx (i+1) h'->Heap.SameBut it s.heap h'->Q x { s with heap:=h' })->wpAny (model prog w) A (Builtin.SmallTypes.nextOf (.ref it)) Q E s
 stop:∀ (A:Around) (s:Shared) (i:Nat) (Q:Value->Shared->Prop) (E:Value->Shared->Prop),A.handled=none->nx i s.heap->xs[i]?=none ->
  (∀ h' e,Heap.ExtBut it s.heap h'->(∃ o,h'.get? e=some o/\o.cls=.type "StopIteration")->E (.ref e) { s with heap:=h' })->wpAny (model prog w) A (Builtin.SmallTypes.nextOf (.ref it)) Q E s
theorem zaa {a:Addr} {h h':Heap} (x:Heap.SameBut a h h'):∀ c o,c≠a->h.get? c=some o->h'.get? c=some o:=fun c o n e=>x.extBut _ _ n e
theorem zkJ {prog:Program} {w:World} {it l:Addr} {xs:List Value} (ne:l≠it):Src prog w it xs [it,l] (fun i h=>h.IsListIter it l i/\h.IsList l xs.toArray) where
 mem:=by simp
 fr:=fun i h h' ⟨a,b⟩ k=>⟨a.at fun o e=>k it (by simp) o e,b.at fun o e=>k l (by simp) o e⟩
 at_:=fun i h ⟨⟨o,e,_,d⟩,_⟩=>⟨o,e,fun v z=>by rw [d] at z; cases z⟩
 item:=fun A s i x Q E ⟨a,b⟩ hx q=>wpAny_nextOf_list_item a b (by simpa using hx) fun h' n sb=>q h' ⟨n,b.at fun o e=>zaa sb _ o ne e⟩ sb
 stop:=fun A s i Q E hh ⟨a,b⟩ hx q=>wpAny_nextOf_list_end hh a b (by simpa using hx) q
theorem ziS {prog:Program} {w:World} {it l:Addr} {xs:List Value} (ne:l≠it):Src prog w it xs [it,l] (fun i h=>h.IsTupleIter it l i/\h.IsTuple l xs.toArray) where
 mem:=by simp
 fr:=fun i h h' ⟨a,⟨ol,e,r⟩⟩ k=>⟨a.at fun o e=>k it (by simp) o e,⟨ol,k l (by simp) ol e,r⟩⟩
 at_:=fun i h ⟨⟨o,e,_,d⟩,_⟩=>⟨o,e,fun v z=>by rw [d] at z; cases z⟩
 item:=by
  intro A s i x Q E ⟨a,b⟩ hx q
  obtain ⟨oi,gi,ci,di⟩:=id a; obtain ⟨ot,gt,ct,nt,dt⟩:=id b; unfold Builtin.SmallTypes.nextOf; refine yA (wpAny_callSpecial?_slot (name:=Str.ofString "__next__") a.typeIs YW (yx YW a.typeIs PySem.F.entry_tuple_iterator_next ?_ (PySem.F.args_tuple_iterator_next_1 _)))
  show wpAny _ _ (field (.ref it) 0 >>= _) _ _ _
  refine yA (yt gi di (x:=.ref l) rfl ?_)
  show wpAny _ _ (if (Value.ref l == Value.none)=true then _ else _) _ _ _
  rw [yN (by simp)]
  show wpAny _ _ (field (.ref it) 1 >>= _) _ _ _
  refine yA (yt gi di (x:=.int i 0) rfl ?_)
  show wpAny _ _ (seqItems? (.ref l) >>= _) _ _ _
  refine yA (YQ gt dt ?_)
  have hx':xs.toArray[i]?=some x:=by simpa using hx
  simp only [Int.toNat_natCast,hx']
  refine yA (wpAny_setField gi di (by simp) (yE ⟨x,rfl,yE (q _ ⟨⟨_,Yh _ gi (Obj.isFreed_of_fields (Obj.data_mapFields di _)),(Obj.cls_mapFields ..).trans ci,by rw [Obj.data_mapFields di]; simp [rawInt]⟩,?_⟩ (Heap.SameBut.update ..))⟩))
  exact ⟨ot,(Yd _ _ (Ne.symm ne)).trans gt,ct,nt,dt⟩
 stop:=by
  intro A s i Q E hh ⟨a,b⟩ hx q
  obtain ⟨oi,gi,ci,di⟩:=id a; obtain ⟨ot,gt,ct,nt,dt⟩:=id b; unfold Builtin.SmallTypes.nextOf; refine yA (wpAny_callSpecial?_slot (name:=Str.ofString "__next__") a.typeIs YW (yx YW a.typeIs PySem.F.entry_tuple_iterator_next ?_ (PySem.F.args_tuple_iterator_next_1 _)))
  show wpAny _ _ (field (.ref it) 0 >>= _) _ _ _
  refine yA (yt gi di (x:=.ref l) rfl ?_)
  show wpAny _ _ (if (Value.ref l == Value.none)=true then _ else _) _ _ _
  rw [yN (by simp)]
  show wpAny _ _ (field (.ref it) 1 >>= _) _ _ _
  refine yA (yt gi di (x:=.int i 0) rfl ?_)
  show wpAny _ _ (seqItems? (.ref l) >>= _) _ _ _
  refine yA (YQ gt dt ?_)
  have hx':xs.toArray[i]?=none:=by simpa using hx
  simp only [Int.toNat_natCast,hx']
  refine yA (wpAny_rule (yA (wpAny_setField gi di (by simp) ?_)))
  show wpAny _ _ (newExc (.type "StopIteration") [] >>= _) _ _ _
  refine yA ?_; simp only [newExc,newTuple]
  refine yA (ya ?_ (by size_fits))
  refine yA (m:=firstArgMember _ _) (wpAny_of_eq (a:=Value.none) (by first | rfl | (simp only [firstArgMember]; rfl)) ?_)
  refine ya ?_ (by size_fits)
  simp only [raiseNew]; refine yA (wpAny_handled ?_)
  first | rw [show A.in1.handled=none from hh] | rw [hh]
  exact yA (yE (wpAny_throw (q _ _ (((Heap.SameBut.update ..).extBut.push _).push _) ⟨_,yK _ rfl,rfl⟩)))
structure Apart (z TI TO i1 i2:Addr) (f1 f2:List Addr):Prop where
 z1:z ∉ f1
 z2:z ∉ f2
 o1:TO ∉ f1
 o2:TO ∉ f2
 i21:i2 ∉ f1
 i12:i1 ∉ f2
 iz:TI≠z
 oz:TO≠z
 io:TI≠TO
 ii1:TI≠i1
 ii2:TI≠i2
section
variable {prog:Program} {w:World} {A:Around} {E:Value->Shared->Prop} {s:Shared} {z TI TO i1 i2:Addr} {f1 f2:List Addr} {n1 n2:Nat->Heap->Prop} {xs ys:List Value} {k:Nat} {a b x y:Value}
theorem Src.but {it:Addr} {zs:List Value} {fp:List Addr} {nx:Nat->Heap->Prop} (S:Src prog w it zs fp nx) {i:Nat} {h h':Heap} {c:Addr} (g:nx i h) (sb:Heap.SameBut c h h') (hc:c ∉ fp):nx i h':=S.fr i h h' g fun d hd o e=>zaa sb d o (fun q=>hc (q ▸ hd)) e
theorem zkx {Q:Value->Shared->Prop} (S1:Src prog w i1 xs f1 n1) (S2:Src prog w i2 ys f2 n2) (D:Apart z TI TO i1 i2 f1 f2) (wz:IsZip s.heap z TI TO .none) (wI:IsPair s.heap TI (.ref i1) (.ref i2)) (wO:IsPair s.heap TO a b) (g1:n1 k s.heap) (g2:n2 k s.heap) (hx:xs[k]?=some x) (hy:ys[k]?=some y)
  (q:∀ h',IsZip h' z TI TO (rawInt s.heap.objs.size)->IsPair h' TO x y->n1 (k+1) h'->n2 (k+1) h'->IsPair h' s.heap.objs.size x y->h'.objs.size=s.heap.objs.size+1->(∀ c o,c≠z->c≠TO->c≠i1->c≠i2->s.heap.get? c=some o->h'.get? c=some o)->Q (.ref s.heap.objs.size) { s with heap:=h' }) :
  wpAny (model prog w) A (Builtin.«zip.__next__» ⟨[.ref z],[]⟩) (fun fin s'=>∃ v,fin=.done (.ret v)/\Q v s') E s:=by
 have ne1:i1≠z:=fun e=>D.z1 (e ▸ S1.mem)
 have ne2:i2≠z:=fun e=>D.z2 (e ▸ S2.mem)
 have no1:i1≠TO:=fun e=>D.o1 (e ▸ S1.mem)
 have no2:i2≠TO:=fun e=>D.o2 (e ▸ S2.mem)
 show wpAny _ _ (field (.ref z) 2 >>= _) _ _ _
 refine yA (yt wz rfl (x:=.bool false) rfl ?_)
 show wpAny _ _ (field (.ref z) 3 >>= _) _ _ _
 refine yA (yt wz rfl (x:=.ref TI) rfl ?_); refine yA (YQ wI rfl ?_)
 show wpAny _ _ (Builtin.SmallTypes.ownedTupleIsFree (.ref z) >>= _) _ _ _
 refine yA ?_; unfold Builtin.SmallTypes.ownedTupleIsFree; refine yA (yt wz rfl (x:=.none) rfl (yE ?_)); simp only [if_true]; refine yA (wpAny_rule ?_); refine yA (yt wz rfl (x:=.ref TO) rfl ?_)
 refine yA (Yc wz (by simp) fun ha za sa=>?_)
 have za:IsZip ha z TI TO .ellipsis:=za
 refine yA ?_; simp only [List.zipIdx_cons,List.zipIdx_nil,List.forIn_cons,List.forIn_nil]; refine yA (yA (wpAny_onRaise ?_))
 show wpAny _ _ (Builtin.SmallTypes.nextOf (.ref i1) >>= _) _ _ _
 refine yA (S1.item _ { s with heap:=ha } k x _ _ (S1.but g1 sa D.z1) hx fun hb g1b sb=>yE ?_)
 have ob:IsPair hb TO a b:=zaa sb _ _ (Ne.symm no1) (zaa sa _ _ D.oz wO)
 refine yA (YQ ob rfl ?_)
 refine yA (wpAny_updateSeq_pair ob fun hc oc sc=>?_)
 have oc:IsPair hc TO x b:=oc
 refine yA (wpAny_letGo (yE ?_)); refine yA (yA (wpAny_onRaise ?_))
 show wpAny _ _ (Builtin.SmallTypes.nextOf (.ref i2) >>= _) _ _ _
 refine yA (S2.item _ { s with heap:=hc } k y _ _ (S2.but (S2.but (S2.but g2 sa D.z2) sb D.i12) sc D.o2) hy fun hd g2d sd=>yE ?_)
 have od:IsPair hd TO x b:=zaa sd _ _ (Ne.symm no2) oc
 refine yA (YQ od rfl ?_)
 refine yA (wpAny_updateSeq_pair od fun he oe se=>?_)
 have oe:IsPair he TO x y:=oe
 refine yA (wpAny_letGo (yE (yE ?_))); refine yA (YQ oe rfl ?_); refine yA (wpAny_newTuple ?_)
 have hsz:he.objs.size=s.heap.objs.size:=by rw [se.1,sd.1,sc.1,sb.1,sa.1]
 have ze:IsZip he z TI TO .ellipsis:=zaa se _ _ (Ne.symm D.oz) (zaa sd _ _ (Ne.symm ne2) (zaa sc _ _ (Ne.symm D.oz) (zaa sb _ _ (Ne.symm ne1) za)))
 have hk:∀ c o,c≠z->c≠TO->c≠i1->c≠i2->s.heap.get? c=some o->he.get? c=some o:=fun c o c1 c2 c3 c4 e=>zaa se _ _ c2 (zaa sd _ _ c4 (zaa sc _ _ c2 (zaa sb _ _ c3 (zaa sa _ _ c1 e))))
 have g1e:n1 (k+1) he:=S1.but (S1.but (S1.but g1b sc D.o1) sd D.i21) se D.o1
 have g2e:n2 (k+1) he:=S2.but g2d se D.o2
 have zlt:z<he.objs.size:=yJ ze
 show wpAny _ _ (Builtin.SmallTypes.ownedTupleHandOut (.ref z) (.ref he.objs.size) >>= _) _ _ _
 refine yA ?_; unfold Builtin.SmallTypes.ownedTupleHandOut
 have zf:IsZip (he.push { cls:=.type "tuple",data:=.seq #[x,y] }) z TI TO .ellipsis:=yB _ ze
 refine yA (Yc zf (by simp) fun hg zg sg=>?_)
 have zg:IsZip hg z TI TO (rawInt he.objs.size):=zg
 refine Yc zg (by simp) fun hh zh sh=>?_
 have zh:IsZip hh z TI TO (rawInt he.objs.size):=zh
 have up:∀ c o,c≠z->he.get? c=some o->hh.get? c=some o:=fun c o c1 e=>zaa sh _ _ c1 (zaa sg _ _ c1 (yB _ e))
 have tp:IsPair hh he.objs.size x y:=zaa sh _ _ (Nat.ne_of_gt zlt) (zaa sg _ _ (Nat.ne_of_gt zlt) (yK _ rfl))
 have hs8:hh.objs.size=he.objs.size+1:=by rw [sh.1,sg.1,Heap.size_push]
 rw [hsz] at zh tp hs8; refine yE ⟨_,rfl,?_⟩
 show Q (.ref he.objs.size) _
 rw [hsz]
 exact q hh zh (up _ _ D.oz oe) (S1.fr _ he hh g1e fun c hc o e=>up c o (fun z'=>D.z1 (z' ▸ hc)) e) (S2.fr _ he hh g2e fun c hc o e=>up c o (fun z'=>D.z2 (z' ▸ hc)) e) tp hs8 fun c o c1 c2 c3 c4 e=>up c o c1 (hk c o c1 c2 c3 c4 e)
theorem zkw {Q:PySem.Fin->Shared->Prop} (hh:A.handled=none) (S1:Src prog w i1 xs f1 n1) (S2:Src prog w i2 ys f2 n2) (D:Apart z TI TO i1 i2 f1 f2) (wz:IsZip s.heap z TI TO .none) (wI:IsPair s.heap TI (.ref i1) (.ref i2)) (wO:IsPair s.heap TO a b) (g1:n1 k s.heap) (g2:n2 k s.heap) (hend:xs[k]?=none\/ys[k]?=none)
  (q:∀ h' e,(∀ c o,c≠z->c≠TO->c≠i1->c≠i2->s.heap.get? c=some o->h'.get? c=some o)->(∃ o,h'.get? e=some o/\o.cls=.type "StopIteration")->E (.ref e) { s with heap:=h' }) :
  wpAny (model prog w) A (Builtin.«zip.__next__» ⟨[.ref z],[]⟩) Q E s:=by
 have ne1:i1≠z:=fun e=>D.z1 (e ▸ S1.mem)
 have ne2:i2≠z:=fun e=>D.z2 (e ▸ S2.mem)
 have no1:i1≠TO:=fun e=>D.o1 (e ▸ S1.mem)
 show wpAny _ _ (field (.ref z) 2 >>= _) _ _ _
 refine yA (yt wz rfl (x:=.bool false) rfl ?_)
 show wpAny _ _ (field (.ref z) 3 >>= _) _ _ _
 refine yA (yt wz rfl (x:=.ref TI) rfl ?_); refine yA (YQ wI rfl ?_)
 show wpAny _ _ (Builtin.SmallTypes.ownedTupleIsFree (.ref z) >>= _) _ _ _
 refine yA ?_; unfold Builtin.SmallTypes.ownedTupleIsFree; refine yA (yt wz rfl (x:=.none) rfl (yE ?_)); simp only [if_true]; refine yA (wpAny_rule ?_); refine yA (yt wz rfl (x:=.ref TO) rfl ?_)
 refine yA (Yc wz (by simp) fun ha za sa=>?_)
 have za:IsZip ha z TI TO .ellipsis:=za
 refine yA ?_; simp only [List.zipIdx_cons,List.zipIdx_nil,List.forIn_cons,List.forIn_nil]; refine yA (yA (wpAny_onRaise ?_))
 show wpAny _ _ (Builtin.SmallTypes.nextOf (.ref i1) >>= _) _ _ _
 cases hx:xs[k]? with
 | none =>
  refine yA (S1.stop _ { s with heap:=ha } k _ _ hh (S1.but g1 sa D.z1) hx fun hb e sb st=>?_)
  obtain ⟨ox,gx,cx⟩:=st
  have zb:IsZip hb z TI TO .ellipsis:=sb _ _ (Ne.symm ne1) za
  have ez:e≠z:=fun c=>by subst c; rw [zb] at gx; cases gx; simp at cx
  exact Yc zb (by simp) fun hc _ sc=>q hc e (fun c o c1 _ c3 _ v=>zaa sc _ _ c1 (sb _ _ c3 (zaa sa _ _ c1 v))) ⟨ox,zaa sc _ _ ez gx,cx⟩
 | some x =>
  have hy:ys[k]?=none:=by rcases hend with h | h; rw [hx] at h; cases h; exact h
  refine yA (S1.item _ { s with heap:=ha } k x _ _ (S1.but g1 sa D.z1) hx fun hb g1b sb=>yE ?_)
  have ob:IsPair hb TO a b:=zaa sb _ _ (Ne.symm no1) (zaa sa _ _ D.oz wO)
  refine yA (YQ ob rfl ?_)
  refine yA (wpAny_updateSeq_pair ob fun hc oc sc=>?_)
  refine yA (wpAny_letGo (yE ?_)); refine yA (yA (wpAny_onRaise ?_))
  show wpAny _ _ (Builtin.SmallTypes.nextOf (.ref i2) >>= _) _ _ _
  refine yA (S2.stop _ { s with heap:=hc } k _ _ hh (S2.but (S2.but (S2.but g2 sa D.z2) sb D.i12) sc D.o2) hy fun hd e sd st=>?_)
  obtain ⟨ox,gx,cx⟩:=st
  have zd:IsZip hd z TI TO .ellipsis:=sd _ _ (Ne.symm ne2) (zaa sc _ _ (Ne.symm D.oz) (zaa sb _ _ (Ne.symm ne1) za))
  have ez:e≠z:=fun c=>by subst c; rw [zd] at gx; cases gx; simp at cx
  exact Yc zd (by simp) fun he _ se=>q he e (fun c o c1 c2 c3 c4 v=>zaa se _ _ c1 (sd _ _ c4 (zaa sc _ _ c2 (zaa sb _ _ c3 (zaa sa _ _ c1 v))))) ⟨ox,zaa se _ _ ez gx,cx⟩
theorem zjv {Q:Option Value->Shared->Prop} (S1:Src prog w i1 xs f1 n1) (S2:Src prog w i2 ys f2 n2) (D:Apart z TI TO i1 i2 f1 f2) (wz:IsZip s.heap z TI TO .none) (wI:IsPair s.heap TI (.ref i1) (.ref i2)) (wO:IsPair s.heap TO a b) (g1:n1 k s.heap) (g2:n2 k s.heap) (hx:xs[k]?=some x) (hy:ys[k]?=some y)
  (q:∀ h',IsZip h' z TI TO (rawInt s.heap.objs.size)->IsPair h' TO x y->n1 (k+1) h'->n2 (k+1) h'->IsPair h' s.heap.objs.size x y->h'.objs.size=s.heap.objs.size+1->(∀ c o,c≠z->c≠TO->c≠i1->c≠i2->s.heap.get? c=some o->h'.get? c=some o)->Q (some (.ref s.heap.objs.size)) { s with heap:=h' }) :
  wpAny (model prog w) A (pyNext (.ref z)) Q E s:=by
 have ty:s.TypeIs (.ref z) "zip":=⟨_,wz,rfl⟩
 unfold pyNext
 exact yA (wpAny_attempt (wpAny_callSpecial?_slot (name:=Str.ofString "__next__") ty PySem.F.slot_zip_next (yx PySem.F.slot_zip_next ty PySem.F.entry_zip_next (zkx S1 S2 D wz wI wO g1 g2 hx hy fun h' c1 c2 c3 c4 c5 c6 c7=>yE (q h' c1 c2 c3 c4 c5 c6 c7)) (PySem.F.args_zip_next_1 _))))
theorem zju {Q:Option Value->Shared->Prop} (hh:A.handled=none) (S1:Src prog w i1 xs f1 n1) (S2:Src prog w i2 ys f2 n2) (D:Apart z TI TO i1 i2 f1 f2) (wz:IsZip s.heap z TI TO .none) (wI:IsPair s.heap TI (.ref i1) (.ref i2)) (wO:IsPair s.heap TO a b) (g1:n1 k s.heap) (g2:n2 k s.heap) (hend:xs[k]?=none\/ys[k]?=none)
  (q:∀ h',(∀ c o,c≠z->c≠TO->c≠i1->c≠i2->s.heap.get? c=some o->h'.get? c=some o)->Q none { s with heap:=h' }):wpAny (model prog w) A (pyNext (.ref z)) Q E s:=by
 have ty:s.TypeIs (.ref z) "zip":=⟨_,wz,rfl⟩
 unfold pyNext
 refine yA (wpAny_attempt (wpAny_callSpecial?_slot (name:=Str.ofString "__next__") ty PySem.F.slot_zip_next (yx PySem.F.slot_zip_next ty PySem.F.entry_zip_next (zkw hh S1 S2 D wz wI wO g1 g2 hend fun h' e ke st=>?_) (PySem.F.args_zip_next_1 _))))
 obtain ⟨ox,gx,cx⟩:=st; exact yA (wpAny_isInstance (T:="StopIteration") (b:=true) ⟨ox,gx,cx⟩ isSubtype_stop (yE (q _ ke)))
end
abbrev tIt (l:Addr):Obj:={ cls:=.type "tuple_iterator",data:=.fields #[.ref l,.int 0 0] }
abbrev zt1 (h:Heap) (l1:Addr):Heap:=h.push (tIt l1)
abbrev zt2 (h:Heap) (l1 l2:Addr):Heap:=(zt1 h l1).push (tIt l2)
abbrev zt3 (h:Heap) (l1 l2:Addr):Heap:=(zt2 h l1 l2).push { cls:=.type "tuple",data:=.seq #[.ref h.objs.size,.ref (zt1 h l1).objs.size] }
abbrev zt4 (h:Heap) (l1 l2:Addr):Heap:=(zt3 h l1 l2).push { cls:=.type "tuple",data:=.seq #[.none,.none] }
abbrev zt5 (h:Heap) (l1 l2:Addr):Heap:=(zt4 h l1 l2).push { cls:=.type "zip",data:=.fields #[.none,.bool false,.bool false,.ref (zt2 h l1 l2).objs.size,.ref (zt3 h l1 l2).objs.size] }
theorem zpx (l1 l2:Addr) (us vs:Array Value):Meets (Builtin.«zip.__new__» ⟨[.type "zip",.ref l1,.ref l2],[]⟩) (fun _ R s=>s.heap.IsTuple l1 us/\s.heap.IsTuple l2 vs/\R (.ok (.ret (.ref (zt4 s.heap l1 l2).objs.size))) { s with heap:=zt5 s.heap l1 l2 }) :=
 .of_wp fun prog w A R s h=>by
  obtain ⟨hp,g,d,tk,os⟩:=s; obtain ⟨t1,t2,h⟩:=h; have sb:=sub_zip
  have T1:Heap.IsTuple (Shared.heap ⟨hp,g,d,tk,os⟩) l1 us:=t1
  have T2:Heap.IsTuple (Shared.heap ⟨hp.push (tIt l1),g,d,tk,os⟩) l2 vs:=Heap.IsTuple.push t2 _
  wp_walk using wpAny_pyIter_tuple T1,wpAny_pyIter_tuple T2
  exact ⟨_,rfl,h⟩
section
variable {prog:Program} {w:World} {A:Around} {E:Value->Shared->Prop} {s:Shared}
theorem zof {l1 l2:Addr} {us vs:Array Value} {Q:Value->Shared->Prop} (t1:s.heap.IsTuple l1 us) (t2:s.heap.IsTuple l2 vs)
  (q:∀ h',IsZip h' (s.heap.objs.size+4) (s.heap.objs.size+2) (s.heap.objs.size+3) .none->IsPair h' (s.heap.objs.size+2) (.ref s.heap.objs.size) (.ref (s.heap.objs.size+1))->IsPair h' (s.heap.objs.size+3) .none .none ->
   h'.IsTupleIter s.heap.objs.size l1 0->h'.IsTupleIter (s.heap.objs.size+1) l2 0->(∀ c o,s.heap.get? c=some o->h'.get? c=some o)->Q (.ref (s.heap.objs.size+4)) { s with heap:=h' }) :
  wpAny (model prog w) A (call (.type "zip") [.ref l1,.ref l2]) Q E s:=by
 refine callType_new PySem.F.called_zip (by decide) (PySem.F.typeCall_zip_2 _ _) (PySem.F.newCall_zip_2 _ _) (fun obj=>PySem.F.args_object_init_3 obj _ _) PySem.F.entry_zip_new (zpx l1 l2 us vs) ⟨t1,t2,?_⟩
 have s1:(zt1 s.heap l1).objs.size=s.heap.objs.size+1:=Heap.size_push ..
 have s2:(zt2 s.heap l1 l2).objs.size=s.heap.objs.size+2:=by rw [Heap.size_push,s1]
 have s3:(zt3 s.heap l1 l2).objs.size=s.heap.objs.size+3:=by rw [Heap.size_push,s2]
 have s4:(zt4 s.heap l1 l2).objs.size=s.heap.objs.size+4:=by rw [Heap.size_push,s3]
 have e5:(zt5 s.heap l1 l2).get? (zt4 s.heap l1 l2).objs.size=some _:=yK _ rfl
 have e4:(zt5 s.heap l1 l2).get? (zt3 s.heap l1 l2).objs.size=some _:=yB _ (yK _ rfl)
 have e3:(zt5 s.heap l1 l2).get? (zt2 s.heap l1 l2).objs.size=some _:=yB _ (yB _ (yK _ rfl))
 have e2:(zt5 s.heap l1 l2).get? (zt1 s.heap l1).objs.size=some _:=yB _ (yB _ (yB _ (yK _ rfl)))
 have e1:(zt5 s.heap l1 l2).get? s.heap.objs.size=some _:=yB _ (yB _ (yB _ (yB _ (yK _ rfl))))
 show _/\_
 rw [s2,s3,s4] at e5; rw [s1,s2] at e3; rw [s3] at e4; rw [s1] at e2; rw [s4]
 exact ⟨⟨_,e5,rfl⟩,q _ e5 e3 e4 ⟨_,e1,rfl,rfl⟩ ⟨_,e2,rfl,rfl⟩ fun c o v=>yB _ (yB _ (yB _ (yB _ (yB _ v))))⟩
end
end Zp
namespace L2
open PySem PySem.Spec PyProof.Rows
section
variable {X:Cx} {pins:List (Addr × Obj)} {σ:St} {H:Hp} {s:Shared} {h':Heap}
theorem Inv.turnedNew {t':Nat} {ch:List Addr} {p:Addr} {o:HO} (I:Inv X pins σ H s) (hch:∀ b ∈ ch,zfL X pins H b) (k:∀ b u,b ∉ ch->s.heap.get? b=some u->h'.get? b=some u) (hp:s.heap.objs.size<=p) (new:zbv X.prog X.w (upd H p o) h' p o) :
  Inv X pins σ (upd H p o) { s with heap:=h',toks:=t' }:=by
 have fr:H p=none:=I.hok.fresh hp
 have sm:∀ b u,H b=some u->upd H p o b=some u:=fun b u e=>by rw [zU (zaH e fr)]; exact e
 have nch:∀ b u,H b=some u->b ∉ ch:=fun b u e z=>by rw [(hch b z).1] at e; cases e
 refine I.step (g':=s.gens) (d':=s.drawn) (ch:=ch) (fun b hb=>?_) (fun b u _ _ hc e _=>k b u hc e) (fun b u _ _ hc e _=>⟨u.slots,k b u hc e⟩) (fun b u hc e n=>?_) (fun b u hc e=>⟨u,k b u hc e⟩) (fun b xs e=>sm _ _ e) (fun b ob u e=>sm _ _ e) (fun b ps e=>⟨#[],by rw [sm _ _ e]; simp⟩) (fun m hm=>?_) (fun b u e=>?_) I.bare
 ·obtain ⟨_,y1,_,y3,y4,y5⟩:=hch b hb
  exact ⟨y3,y1,y4,y5⟩
 ·rw [zU (yS (yT (yJ e) hp))]
  exact n
 ·obtain ⟨ob,es,ep,ho,r⟩:=hm
  exact ⟨ob,es,ep,k _ ob (fun z=>(hch _ z).2.1 rfl) ho,r⟩
 ·by_cases z:b=p
  ·subst z
   rw [zw] at e; cases e; exact new
  ·rw [zU z] at e
   refine (I.hok b u e).stay (fun c v hc q=>k c v ?_ q) (fun c q=>sm _ _ q) fun c xs q=>sm _ _ q
   rcases hc with rfl | hc
   ·exact nch _ u e
   ·exact nch c _ hc
theorem Inv.turnedL {t':Nat} {ch:List Addr} (I:Inv X pins σ H s) (hch:∀ b ∈ ch,zfL X pins H b) (k:∀ b u,b ∉ ch->s.heap.get? b=some u->h'.get? b=some u):Inv X pins σ H { s with heap:=h',toks:=t' }:=by
 have nch:∀ b u,H b=some u->b ∉ ch:=fun b u e z=>by rw [(hch b z).1] at e; cases e
 refine I.step (g':=s.gens) (d':=s.drawn) (ch:=ch) (fun b hb=>?_) (fun b u _ _ hc e _=>k b u hc e) (fun b u _ _ hc e _=>⟨u.slots,k b u hc e⟩) (fun b u hc e n=>n) (fun b u hc e=>⟨u,k b u hc e⟩) (fun b xs e=>e) (fun b ob u e=>e) (fun b ps e=>⟨#[],by rw [e]; simp⟩) (fun m hm=>?_) (fun b u e=>?_) I.bare
 ·obtain ⟨_,y1,_,y3,y4,y5⟩:=hch b hb
  exact ⟨y3,y1,y4,y5⟩
 ·obtain ⟨ob,es,ep,ho,r⟩:=hm
  exact ⟨ob,es,ep,k _ ob (fun z=>(hch _ z).2.1 rfl) ho,r⟩
 ·refine (I.hok b u e).stay (fun c v hc q=>k c v ?_ q) (fun c q=>q) fun c xs q=>q
  rcases hc with rfl | hc
  ·exact nch _ u e
  ·exact nch c _ hc
end
end L2
namespace L2
open PySem PySem.Spec PyProof.Rows Zp
def SqB (lb:Bool) (K:W.Frag) (H:Hp) (a:Addr) (xs:List V):Prop:=match lb with | true=>SqL K H a xs | false=>SqT K H a xs
def ItB (lb:Bool) (h:Heap) (it l:Addr) (i:Nat):Prop:=match lb with | true=>h.IsListIter it l i | false=>h.IsTupleIter it l i
def LsB (lb:Bool) (h:Heap) (l:Addr) (its:List Value):Prop:=match lb with | true=>h.IsList l its.toArray | false=>h.IsTuple l its.toArray
theorem zqb {prog:Program} {w:World} {it l:Addr} {its:List Value} (lb:Bool) (ne:l≠it):Src prog w it its [it,l] (fun i h=>ItB lb h it l i/\LsB lb h l its):=by
 cases lb with
 | true=>exact zkJ ne
 | false=>exact ziS ne
theorem ItB.at {lb:Bool} {h h':Heap} {it l:Addr} {i:Nat} (x:ItB lb h it l i) (k:∀ o,h.get? it=some o->h'.get? it=some o):ItB lb h' it l i:=by
 cases lb with
 | true=>exact Heap.IsListIter.at x k
 | false=>exact Heap.IsTupleIter.at x k
theorem ItB.obj {lb:Bool} {h:Heap} {it l:Addr} {i:Nat} (x:ItB lb h it l i):∃ o,h.get? it=some o/\∀ v,o.data≠.cell v:=by
 cases lb with
 | true=>obtain ⟨o,e,_,d⟩:=x; exact ⟨o,e,fun v z=>by rw [d] at z; cases z⟩
 | false=>obtain ⟨o,e,_,d⟩:=x; exact ⟨o,e,fun v z=>by rw [d] at z; cases z⟩
section
variable {X:Cx} {pins:List (Addr × Obj)} {σ:St} {H:Hp} {s:Shared} {a b:Addr} {xs ys:List V} {lb:Bool}
theorem zi1 {u:HO} (h:Rd H a u):∃ o,H a=some o:=by
 rcases h with h | ⟨o,h⟩
 ·exact ⟨_,h⟩
 ·exact ⟨_,h⟩
theorem zke (I:Inv X pins σ H s) {o:Obj} (e:X.K.lookup a=some o) (f:zfL X pins H b):a≠b:=by
 have g:=I.ok.mod.kin _ _ e; obtain ⟨_,_,_,f3,_⟩:=f
 rintro rfl
 rcases f3 with z | z
 ·exact I.ok.noex _ _ g z
 ·exact yL (yT (yJ g) (yu I.ok.bsz z)) (Yg _)
theorem zkK (I:Inv X pins σ H s) (h:SqB lb X.K H a xs) (f:zfL X pins H b):a≠b:=by
 have tr:∀ o,H a=some o->a≠b:=fun o e z=>by rw [z,f.1] at e; cases e
 cases lb with
 | true =>
  rcases h with h | ⟨o,its,n,hk,_⟩
  ·obtain ⟨o,e⟩:=zi1 h; exact tr o e
  ·exact zke I hk f
 | false =>
  rcases h with h | ⟨o,its,n,hk,_⟩
  ·obtain ⟨o,e⟩:=zi1 h; exact tr o e
  ·exact zke I hk f
theorem zh6 (I:Inv X pins σ H s) (h:SqB lb X.K H a xs):∃ its:List Value,zaT xs its/\LsB lb s.heap a its:=by
 cases lb with
 | true =>
  obtain ⟨its,r,p,_⟩:=I.list h; exact ⟨its,r,p.isList⟩
 | false =>
  obtain ⟨its,r,p,_⟩:=I.tuple h; exact ⟨its,r,p⟩
theorem zma (I:Inv X pins σ H s) (h:SqB lb X.K H a xs) (h':SqB lb X.K H a ys):ys=xs:=by
 cases lb with
 | true=>exact I.list_inj h' h
 | false=>exact I.tuple_inj h' h
end
def Itz (lb:Bool) (K:W.Frag) (a b:Addr):It :=
  ⟨fun i H=>∃ xs ys x y,SqB lb K H a xs/\SqB lb K H b ys/\xs[i]?=some x/\ys[i]?=some y,
   fun i H v H'=>∃ p x y,H p=none/\v=.ref p/\H'=upd H p (.tup [x,y])/\(∀ xs,SqB lb K H a xs->xs[i]?=some x)/\∀ ys,SqB lb K H b ys->ys[i]?=some y,
   fun i H=>∃ xs ys,SqB lb K H a xs/\SqB lb K H b ys/\(xs.length<=i\/ys.length<=i)⟩
structure Ap5 (z TI TO i1 i2:Addr):Prop where
 iz:TI≠z
 oz:TO≠z
 io:TI≠TO
 ii1:TI≠i1
 ii2:TI≠i2
 z1:z≠i1
 z2:z≠i2
 o1:TO≠i1
 o2:TO≠i2
 i12:i1≠i2
theorem zkD {P:Program} {w:World} {K:W.Frag} {elts:List Expr} {c:Nat} {pos:Pos} (lb:Bool) (a b z TI TO i1 i2:Addr) (D:Ap5 z TI TO i1 i2):Turn P w K (.Tuple elts c pos) (Itz lb K a b) [z,TI,TO,i1,i2] z
  (fun i h=>IsZip h z TI TO .none/\IsPair h TI (.ref i1) (.ref i2)/\(∃ u v,IsPair h TO u v)/\ItB lb h i1 a i/\ItB lb h i2 b i) where
 mem:=by simp
 obj:=by
  rintro i h ⟨wz,wI,⟨u,v,wO⟩,g1,g2⟩ d hd
  simp only [yO,yU,or_false] at hd
  rcases hd with rfl | rfl | rfl | rfl | rfl
  ·exact ⟨_,wz,fun v z=>by cases z⟩
  ·exact ⟨_,wI,fun v z=>by cases z⟩
  ·exact ⟨_,wO,fun v z=>by cases z⟩
  ·exact g1.obj
  ·exact g2.obj
 keep:=by
  rintro i h h' ⟨wz,wI,⟨u,v,wO⟩,g1,g2⟩ k
  exact ⟨k z (by simp) _ wz,k TI (by simp) _ wI,⟨u,v,k TO (by simp) _ wO⟩,g1.at fun o e=>k i1 (by simp) o e,g2.at fun o e=>k i2 (by simp) o e⟩
 item:=by
  intro X hP hw hK hc i pins s σ H E I hf st hg
  subst hP hw hK
  obtain ⟨wz,wI,⟨u,v,wO⟩,g1,g2⟩:=st
  obtain ⟨xs,ys,x,y,sx,sy,hx,hy⟩:=hg; obtain ⟨us,rx,lx⟩:=zh6 I sx; obtain ⟨vs,ry,ly⟩:=zh6 I sy; obtain ⟨ux,hux,rux⟩:=rx.get hx; obtain ⟨vy,hvy,rvy⟩:=ry.get hy
  have ne:∀ d,d ∈ [z,TI,TO,i1,i2]->a≠d/\b≠d:=fun d hd=>⟨zkK I sx (hf d hd),zkK I sy (hf d hd)⟩
  have A0:Apart z TI TO i1 i2 [i1,a] [i2,b]:=by
   have nz:=ne z (by simp)
   have no:=ne TO (by simp)
   have n1:=ne i1 (by simp)
   have n2:=ne i2 (by simp)
   refine ⟨?_,?_,?_,?_,?_,?_,D.iz,D.oz,D.io,D.ii1,D.ii2⟩ <;> simp only [yO,yU,or_false,not_or]
   ·exact ⟨D.z1,Ne.symm nz.1⟩
   ·exact ⟨D.z2,Ne.symm nz.2⟩
   ·exact ⟨D.o1,Ne.symm no.1⟩
   ·exact ⟨D.o2,Ne.symm no.2⟩
   ·exact ⟨Ne.symm D.i12,Ne.symm n2.1⟩
   ·exact ⟨D.i12,Ne.symm n1.2⟩
  refine zjv (zqb lb (ne i1 (by simp)).1) (zqb lb (ne i2 (by simp)).2) A0 wz wI wO ⟨g1,lx⟩ ⟨g2,ly⟩ hux hvy fun h' c1 c2 c3 c4 c5 c6 c7=>⟨_,rfl,?_⟩
  refine wpAny_letOwnedTupleGo_zip (s:={ s with heap:=h' }) c1 fun h2 e1 e2=>?_
  have ext:=zaa e2
  have pz:s.heap.objs.size≠z:=Nat.ne_of_gt (yJ wz)
  have kk:∀ d o,d ∉ [z,TO,i1,i2]->s.heap.get? d=some o->h2.get? d=some o:=fun d o hd e=>by
   simp only [yO,yU,or_false,not_or] at hd; exact ext d o hd.1 (c7 d o hd.1 hd.2.1 hd.2.2.1 hd.2.2.2 e)
  have fr:H s.heap.objs.size=none:=I.hok.fresh (yF _)
  have tp:IsPair h2 s.heap.objs.size ux vy:=ext _ _ pz c5
  have I2:Inv X pins σ (upd H s.heap.objs.size (.tup [x,y])) { s with heap:=h2 }:=I.turnedNew (t':=s.toks) (ch:=[z,TO,i1,i2]) (fun d hd=>hf d (by simp at hd ⊢; rcases hd with h | h | h | h <;> simp [h])) kk (yF _)
   ⟨by show 2<=sizeLine; exact Nat.le_of_lt (zcL (by decide)),[ux,vy],.cons rux (.cons rvy .nil),⟨_,tp,rfl,_,rfl⟩⟩
  refine ⟨.ref s.heap.objs.size,_,I2,rfl,⟨_,x,y,fr,rfl,rfl,fun xs' h=>by rw [zma I sx h]; exact hx,fun ys' h=>by rw [zma I sy h]; exact hy⟩,⟨e1,?_,⟨_,_,ext _ _ D.oz c2⟩,?_,?_⟩,fun d hd=>?_⟩
  ·exact kk _ _ (by simp [D.iz,D.io,D.ii1,D.ii2]) wI
  ·exact c3.1.at fun o e=>ext _ o (Ne.symm D.z1) e
  ·exact c4.1.at fun o e=>ext _ o (Ne.symm D.z2) e
  ·obtain ⟨od,gd,_⟩:∃ o,s.heap.get? d=some o/\True:=by
    simp only [yO,yU,or_false] at hd
    rcases hd with rfl | rfl | rfl | rfl | rfl
    ·exact ⟨_,wz,trivial⟩
    ·exact ⟨_,wI,trivial⟩
    ·exact ⟨_,wO,trivial⟩
    ·obtain ⟨o,e,_⟩:=g1.obj; exact ⟨o,e,trivial⟩
    ·obtain ⟨o,e,_⟩:=g2.obj; exact ⟨o,e,trivial⟩
   rw [zU (yS (yJ gd))]; exact (hf d hd).1
 done:=by
  intro X hP hw hK hc i pins s σ H E I hf st hg
  subst hP hw hK
  obtain ⟨wz,wI,⟨u,v,wO⟩,g1,g2⟩:=st
  obtain ⟨xs,ys,sx,sy,hend⟩:=hg; obtain ⟨us,rx,lx⟩:=zh6 I sx; obtain ⟨vs,ry,ly⟩:=zh6 I sy
  have ne:∀ d,d ∈ [z,TI,TO,i1,i2]->a≠d/\b≠d:=fun d hd=>⟨zkK I sx (hf d hd),zkK I sy (hf d hd)⟩
  have A0:Apart z TI TO i1 i2 [i1,a] [i2,b]:=by
   have nz:=ne z (by simp)
   have no:=ne TO (by simp)
   have n1:=ne i1 (by simp)
   have n2:=ne i2 (by simp)
   refine ⟨?_,?_,?_,?_,?_,?_,D.iz,D.oz,D.io,D.ii1,D.ii2⟩ <;> simp only [yO,yU,or_false,not_or]
   ·exact ⟨D.z1,Ne.symm nz.1⟩
   ·exact ⟨D.z2,Ne.symm nz.2⟩
   ·exact ⟨D.o1,Ne.symm no.1⟩
   ·exact ⟨D.o2,Ne.symm no.2⟩
   ·exact ⟨Ne.symm D.i12,Ne.symm n2.1⟩
   ·exact ⟨D.i12,Ne.symm n1.2⟩
  have he:us[i]?=none\/vs[i]?=none:=by
   rcases hend with h | h
   ·exact .inl (List.getElem?_eq_none (by rw [<- rx.length]; exact h))
   ·exact .inr (List.getElem?_eq_none (by rw [<- ry.length]; exact h))
  refine zju (I.ok.hd hc) (zqb lb (ne i1 (by simp)).1) (zqb lb (ne i2 (by simp)).2) A0 wz wI wO ⟨g1,lx⟩ ⟨g2,ly⟩ he fun h' k=>⟨rfl,?_⟩
  refine I.turnedL (t':=s.toks) (ch:=[z,TO,i1,i2]) (fun d hd=>hf d (by simp at hd ⊢; rcases hd with h | h | h | h <;> simp [h])) fun d o hd e=>?_
  simp only [yO,yU,or_false,not_or] at hd; exact k d o hd.1 hd.2.1 hd.2.2.1 hd.2.2.2 e
 self:=fun A i s Q E st q=>wpAny_pyIter_zip st.1 q
theorem zc9 {a b:Nat} (h:a≠b):(a:Addr)≠(b:Addr):=h
theorem ap5 (n:Nat):Ap5 (n+4:Nat) (n+2:Nat) (n+3:Nat) n (n+1:Nat):=⟨zc9 (by omega),zc9 (by omega),zc9 (by omega),zc9 (by omega),zc9 (by omega),zc9 (by omega),zc9 (by omega),zc9 (by omega),zc9 (by omega),zc9 (by omega)⟩
theorem zl3:bootBuiltins "zip"=some (.type "zip"):=by rfl
section
variable {X:Cx}
def zsO (K:W.Frag) (ta:TA):TI:=fun σ H R=>ta σ H fun vs H1=>∃ a b xs ys lb,vs=[.ref a,.ref b]/\SqB lb K H1 a xs/\SqB lb K H1 b ys/\R (Itz lb K a b) H1
theorem zo6 {e1 e2:Expr} {elts:List Expr} {c:Nat} {ta:TA} {p pos tp:Pos} (hg:Gl X "zip") (hm:X.mg "zip"=none) (ha:PA X [e1,e2] ta) (hs:starEach [e1,e2] X.env=(false,eval e1 X.env) :: starEach [e2] X.env:=by rfl) (hpl:(backTo pos (starEach [e2] X.env)).any (·.1)=false:=by rfl) :
  PI X (.Tuple elts c tp) (.Call (.Name "zip" p) [e1,e2] [] pos) (zsO X.K ta):=by
 intro pins s σ H R I h
 refine Call_ (ze5 I hg hm zl3 (PyProof.Rows.callWith_type1 (thn (ha pos pins s σ H _ I h) fun us s1 ⟨vs,H1,I1,r1,q1⟩=>?_) hs hpl))
 obtain ⟨a,b,xs,ys,lb,e,sx,sy,q⟩:=q1; subst e; obtain ⟨u,v,rfl,ru,rv⟩:=zmO r1
 obtain rfl:u=Value.ref a:=ru
 obtain rfl:v=Value.ref b:=rv
 obtain ⟨us,rx,lx⟩:=zh6 I1 sx; obtain ⟨vs,ry,ly⟩:=zh6 I1 sy
 have fin:∀ h',IsZip h' (s1.heap.objs.size+4) (s1.heap.objs.size+2) (s1.heap.objs.size+3) .none->IsPair h' (s1.heap.objs.size+2) (.ref s1.heap.objs.size) (.ref (s1.heap.objs.size+1))->IsPair h' (s1.heap.objs.size+3) .none .none ->
   ItB lb h' s1.heap.objs.size a 0->ItB lb h' (s1.heap.objs.size+1) b 0->(∀ c o,s1.heap.get? c=some o->h'.get? c=some o) ->
   wpAny (model X.prog X.w) X.A (pyIter (.ref (s1.heap.objs.size+4))) (PIE X pins σ (.Tuple elts c tp) R) X.xe { s1 with heap:=h' }:=by
  intro h' z1 z2 z3 z4 z5 k
  refine wpAny_pyIter_zip (s:={ s1 with heap:=h' }) z1 ?_
  refine ⟨s1.heap.objs.size+4,[s1.heap.objs.size+4,s1.heap.objs.size+2,s1.heap.objs.size+3,s1.heap.objs.size,s1.heap.objs.size+1],_,_,H1,rfl,I1.kept (t':=s1.toks) k,zkD lb a b _ _ _ _ _ (ap5 _),⟨z1,z2,⟨_,_,z3⟩,z4,z5⟩,fun d hd=>?_,q⟩
  have hd':s1.heap.objs.size<=d:=by
   simp only [yO,yU,or_false] at hd
   rcases hd with rfl | rfl | rfl | rfl | rfl <;> omega
  exact I1.fpOk hd' (I1.hok.fresh hd')
 cases lb with
 | true=>exact call_zip_2 lx ly fun h' z1 z2 z3 z4 z5 _ k=>fin h' z1 z2 z3 z4 z5 k
 | false=>exact zof lx ly fun h' z1 z2 z3 z4 z5 k=>fin h' z1 z2 z3 z4 z5 k
end
end L2
namespace PL
open PySem L2
theorem zhp {lb:Bool} {K:W.Frag} {H H':Hp} {a:Addr} {vs:List V} (s:zaM H H') (h:SqB lb K H a vs):SqB lb K H' a vs:=by
 cases lb with
 | true=>exact zaF s h
 | false=>exact zaE s h
theorem zjL {K:W.Frag} {Hi:Hp} {a b:Addr} {us vs:List V} {ds es:List D} {lb:Bool} (h1:SqB lb K Hi a us) (r1:zbI K Hi us ds) (h2:SqB lb K Hi b vs) (r2:zbI K Hi vs es):ItD K Hi (Itz lb K a b) ((ds.zip es).map fun p=>.tup [p.1,p.2]):=by
 intro Hi' H' s1 s2
 have q1:SqB lb K H' a us:=zhp (s1.trans s2.sub) h1
 have q2:SqB lb K H' b vs:=zhp (s1.trans s2.sub) h2
 refine ⟨fun i d e=>?_,us,vs,q1,q2,?_⟩
 ·rw [yH] at e
  obtain ⟨⟨d1,d2⟩,hz,rfl⟩:=Option.map_eq_some_iff.mp e
  obtain ⟨e1,e2⟩:=List.getElem?_zip_eq_some.mp hz; obtain ⟨u,hu,ru⟩:=zaS r1 e1; obtain ⟨v,hv,rv⟩:=zaS r2 e2; refine ⟨⟨us,vs,u,v,q1,q2,hu,hv⟩,?_⟩
  rintro x H'' ⟨p,x1,y1,hp,rfl,rfl,k1,k2⟩
  have ex:x1=u:=by have:=k1 us q1; rw [hu] at this; exact (Option.some.inj this).symm
  have ey:y1=v:=by have:=k2 vs q2; rw [hv] at this; exact (Option.some.inj this).symm
  subst ex ey
  have ex:=Ext.new s2 hp (.tup [x1,y1]); exact ⟨_,ex,Den.mkT zw (.cons (ru.mono (s1.trans ex.hi)) (.cons (rv.mono (s1.trans ex.hi)) .nil))⟩
 ·rw [yD,List.length_zip,zl r1,zl r2]
  omega
section
variable {X:Cx}
def zaw (t:TA'):TI':=fun Γ Q=>t Γ fun ds Γ1=>∃ xs ys,(ds=[.tup xs,.tup ys]\/ds=[.lst xs,.lst ys])/\Q ((xs.zip ys).map fun p=>.tup [p.1,p.2]) Γ1
theorem znn {e1 e2:Expr} {elts:List Expr} {c:Nat} {t:TA'} {p pos tp:Pos} (hm:X.mg "zip"=none) (ha:PA' X [e1,e2] t) (hg:Gl X "zip":=by rfl):PI' X (.Tuple elts c tp) (.Call (.Name "zip" p) [e1,e2] [] pos) (zaw t):=by
 refine ⟨PI.weak (zo6 hg hm ha.pa (zaP (zaL ha.pl).1) (zaY (zaL ha.pl).2)) ?_⟩
 rintro σ H R ⟨W,Hi,Γ,Q,g,h,fin⟩
 refine ⟨W,Hi,Γ,_,g,h,?_⟩
 rintro vs H1 Hi1 Γ1 ds s1 g1 dl ⟨xs,ys,hd,q⟩
 rcases hd with rfl | rfl
 ·obtain ⟨v,w,rfl,d1,d2⟩:=ziy dl
  obtain ⟨a,us,rfl,h1,r1⟩:=d1.tupI; obtain ⟨b,ws,rfl,h2,r2⟩:=d2.tupI; exact ⟨a,b,us,ws,false,rfl,zaE g1.sub h1,zaE g1.sub h2,fin _ H1 Hi1 Γ1 _ s1 g1 (zjL (lb:=false) h1 r1 h2 r2) q⟩
 ·obtain ⟨v,w,rfl,d1,d2⟩:=ziy dl
  obtain ⟨a,us,rfl,h1,r1⟩:=d1.lstI; obtain ⟨b,ws,rfl,h2,r2⟩:=d2.lstI; exact ⟨a,b,us,ws,true,rfl,zaF g1.sub h1,zaF g1.sub h2,fin _ H1 Hi1 Γ1 _ s1 g1 (zjL (lb:=true) h1 r1 h2 r2) q⟩
end
end PL
namespace Lb
def Dig (c:Nat):Prop:=48<=c/\c<=57
def Sml (c:Nat):Prop:=97<=c/\c<=122
def zpA:List Nat:=[97,98,99,100,101,102,103,104,105,106,107,108,109,110,111,112,113,114,115,116,117,118,119,120,121,122]
def zoo:List Nat:=[48,49,50,51,52,53,54,55,56,57]
theorem zlr (c:Nat):c ∈ zpA↔Sml c:=by
 show c ∈ List.range' 97 26↔_
 rw [List.mem_range'_1]; unfold Sml; omega
theorem zd6 (c:Nat):c ∈ zoo↔Dig c:=by
 show c ∈ List.range' 48 10↔_
 rw [List.mem_range'_1]; unfold Dig; omega
theorem zc7 {p:Nat->Bool}:∀ (ls ds:List Nat),(∀ c ∈ ls,p c=true)->(∀ c ∈ ds,p c=false)->(ls ++ ds).takeWhile p=ls
 | [],[],_,_=>rfl
 | [],d :: ds,_,h=>by rw [List.nil_append,List.takeWhile_cons,h d (yh ..)]; rfl
 | l :: ls,ds,h1,h2=>by
  rw [List.cons_append,List.takeWhile_cons,h1 l (yh ..),yP rfl,zc7 ls ds (fun c hc=>h1 c (yV _ hc)) h2]
theorem zh5 {p:Nat->Bool} {ds ls:List Nat} (h1:∀ c ∈ ls,p c=true) (h2:∀ c ∈ ds,p c=false):(((ds ++ ls).reverse).takeWhile p).length=ls.length:=by
 rw [List.reverse_append,zc7 _ _ (fun c hc=>h1 c (List.mem_reverse.mp hc)) (fun c hc=>h2 c (List.mem_reverse.mp hc)),YX]
def dig (c:Nat):Bool:=decide (c ∈ zoo)
def sml (c:Nat):Bool:=decide (c ∈ zpA)
def wsg:List Nat:=zpA ++ zoo
def cut (l:List Nat):List Nat:=(l.reverse.dropWhile sml).reverse
def zdn (l:List Nat):List Nat:=(l.reverse.takeWhile sml).reverse
theorem zeL (l:List Nat):cut l ++ zdn l=l:=by
 unfold cut zdn; rw [<- List.reverse_append,List.takeWhile_append_dropWhile,List.reverse_reverse]
theorem zc8 {p:Nat->Bool}:∀ l:List Nat,∀ c ∈ l.takeWhile p,p c=true
 | [],c,h=>by simp at h
 | a :: r,c,h=>by
  rw [List.takeWhile_cons] at h; split at h
  ·rename_i ha
   rcases yO.mp h with e | e
   ·rw [e]; exact ha
   ·exact zc8 r c e
  ·simp at h
theorem zkH (l:List Nat):∀ c ∈ zdn l,sml c=true:=fun c hc=>zc8 _ c (List.mem_reverse.mp hc)
theorem zeJ {c:Nat} (h:dig c=true):sml c=false:=by
 have a:=(zd6 c).mp (of_decide_eq_true h)
 refine yR fun z=>?_
 have b:=(zlr c).mp z; unfold Dig at a; unfold Sml at b; omega
theorem zpY {ds ls:List Nat} (h1:∀ c ∈ ls,sml c=true) (h2:∀ c ∈ ds,sml c=false):cut (ds ++ ls)=ds:=by
 have e:=zh5 h1 h2; have a:=zeL (ds ++ ls)
 have hl:(zdn (ds ++ ls)).length=ls.length:=by
  unfold zdn; rw [YX]; exact e
 have hl2:(cut (ds ++ ls)).length=ds.length:=by
  have:=yc List.length a
  rw [yQ,yQ] at this; omega
 exact (List.append_inj a hl2).1
def zaI (l:List Nat):Bool:=decide (1<=(cut l).length/\(cut l).length<=9) && decide ((cut l)[0]?≠some 48) && (cut l).all dig && decide (l.length-(cut l).length<=3)
end Lb
namespace M11
open PySem L2 Lb PL
theorem zgn:∀ (m:Nat),1<=m->∃ c r,Nat.toDigits 10 m=c :: r/\c.toNat≠48
 | m,h=>by
  by_cases hm:m<10
  ·refine ⟨_,[],Nat.toDigits_of_lt_base hm,?_⟩
   have:∀ k:Fin 10,k.1≠0->(Nat.digitChar k.1).toNat≠48:=by decide
   exact this ⟨m,hm⟩ (Nat.pos_iff_ne_zero.mp h)
  ·obtain ⟨c,r,e,hc⟩:=zgn (m / 10) (by omega)
   exact ⟨c,r ++ [(m % 10).digitChar],by rw [Nat.toDigits_of_base_le (by decide) (by omega),e]; rfl,hc⟩
termination_by m=>m
decreasing_by omega
theorem num_lab {n:Int} (h0:1<=n) (h1:n<10 ^ 9):(∀ c ∈ zkm n,dig c=true)/\1<=(zkm n).length/\(zkm n).length<=9/\(zkm n)[0]?≠some 48:=by
 have hl:=PyProof.Rows.toString_length_le (v:=n) (by omega) (k:=9) (by decide) h1
 obtain ⟨m,rfl⟩:=Int.eq_ofNat_of_zero_le (show 0<=n by omega)
 have hs:=W.KIN.signs_num m
 obtain ⟨c,r,e,hc⟩:=zgn m (by omega)
 unfold zkm
 refine ⟨fun c hc=>?_,?_,?_,?_⟩
 ·rw [hs] at hc
  obtain ⟨d,hd,rfl⟩:=yb.mp hc
  have hdig:=Nat.isDigit_of_mem_toDigits (by decide) (by decide) hd
  simp only [Char.isDigit,yd,YA] at hdig; exact yZ ((zd6 _).mpr ⟨hdig.1,hdig.2⟩)
 ·rw [hs,e]
  simp
 ·rw [show (Str.ofString (toString (m:Int))).cps.toList.length=(Str.ofString (toString (m:Int))).length by simp [Str.length]]
  exact hl
 ·rw [hs,e]
  simpa using hc
theorem lab_of {ds ls:List Nat} (h1:∀ c ∈ ds,dig c=true) (h2:1<=ds.length) (h3:ds.length<=9) (h4:ds[0]?≠some 48) (h5:∀ c ∈ ls,sml c=true) (h6:ls.length<=3):zaI (ds ++ ls)=true:=by
 have e:cut (ds ++ ls)=ds:=zpY h5 fun c hc=>zeJ (h1 c hc)
 unfold zaI; rw [e]
 have ha:ds.all dig=true:=yp.mpr h1
 rw [ha,yZ (⟨h2,h3⟩:1<=ds.length/\ds.length<=9),yZ h4,yZ (show (ds ++ ls).length-ds.length<=3 by rw [yQ]; omega)]
 rfl
end M11
namespace MT
open PySem L2 PL
abbrev Pl:=List (List Nat)
inductive Tr where
 | node (l:List Nat) (ws:Pl) (ks:List Tr)
def Tr.lab:Tr->List Nat
 | .node l _ _=>l
def Tr.wds:Tr->Pl
 | .node _ ws _=>ws
def Tr.kds:Tr->List Tr
 | .node _ _ ks=>ks
mutual
def trD:Tr->D
 | .node l ws ks=>.tup [.str l,plc ws,.tup (zou ks)]
def zou:List Tr->List D
 | []=>[]
 | t :: r=>trD t :: zou r
end
theorem zhk:∀ ks:List Tr,zou ks=ks.map trD
 | []=>by simp [zou]
 | t :: r=>by simp [zou,zhk r]
theorem zbP (t:Tr):trD t=.tup [.str t.lab,plc t.wds,.tup (t.kds.map trD)]:=by
 cases t with
 | node l ws ks=>simp [trD,zhk,Tr.lab,Tr.wds,Tr.kds]
def zcx (l:List Nat) (ks:List Tr):Option Tr:=ks.find? fun k=>decide (k.lab=l)
def zb0:Tr->Pl->Option Tr
 | t,[]=>some t
 | t,l :: p=>match zcx l t.kds with
  | none=>none
  | some k=>zb0 k p
end MT
namespace L2
open PySem PySem.Spec PyProof.Rows
def PU (X:Cx) (e:Expr) (t:TE):Prop:=∀ (pins:List (Addr × Obj)) (s:Shared) (σ:St) (H:Hp) (Q:VK) (i:Nat) (x:Str) (pos pos':Pos) (D:Ends),Inv X pins σ H s->t σ H Q->X.N.Nodup->X.N[i]?=some x->X.env.scope.names.lookup x=some .local ->
 swapsWith e (some (.Name x pos')) pos.line X.env=pure true->(∀ v H',Q v H'->D.nx (σ.set i (some v)) H')->wpAny (model X.prog X.w) X.A (exec (.Assign [.Name x pos'] e pos) X.env) (SP X pins D) X.xe s
theorem PU.weak {X:Cx} {e:Expr} {t t2:TE} (h:PU X e t) (w:∀ σ H Q,t2 σ H Q->t σ H Q):PU X e t2:=fun pins s σ H Q i x pos pos' D I q=>h pins s σ H Q i x pos pos' D I (w _ _ _ q)
theorem zm9 {X:Cx} {elt tg iter:Expr} {ifs:List Expr} {sc fsc:Scope} {pos:Pos} {wi:TI} {g:TG} {tc:TT} {te:TE} {N N':List Str} {src:List (Option Nat)} (B:Blk N N' src fsc sc) (hi:PI X tg iter wi)
  (hg:∀ cl C s H fp pn,PG (blk X N' sc cl C s H fp pn) tg g) (ht:∀ cl C s H fp pn,PTs (blk X N' sc cl C s H fp pn) ifs tc) (he:∀ cl C s H fp pn,PE (blk X N' sc cl C s H fp pn) elt te)
  (hx:X.xe=(fun _ _=>False):=by rfl) (hc:X.calm=true:=by rfl) (hN:X.N=N:=by rfl) (hs:X.env.scope=fsc:=by rfl)
  (hf:∀ x,foldedSetIterable iter X.env x=pure x:=by intro _; rfl):PU X (.ListComp elt [⟨tg,iter,ifs,0⟩] sc pos) (zoB wi src g tc te):=by
 intro pins s σ H Q i0 x0 p0 p1 D0 I h hNd hi0 hx0 hsw fin; rw [exec_Assign_Name_used _ _ _ _ hsw]; refine yA (wpAny_standAt (yA ?_))
 show wpAny _ _ (do let _ <- comprehension (.ListComp elt [⟨tg,iter,ifs,0⟩] sc pos) sc X.env _ (newList []) false (eval iter X.env) (some (assign (.Name x0 p1) X.env))) _ _ _
 have hfr:∀ y ∈ sc.names,y.2=.free->∃ c,X.env.cells.lookup y.1=some c:=fun y hy e=>I.ok.has y.1 (.inl (by have:=B.free y hy e; rw [<- hs] at this; exact this))
 refine yA (YD (wpAny_comprehension_free (use:=some (assign (.Name x0 p1) X.env)) (Q:=fun _ s'=>SP X pins D0 .next s') (cl:=zdc X.env.cells sc.names []) rfl hf (ze8 hfr) B.kind B.names ?_) (fun _ s' hq=>yE (yE hq)) fun _ _ e=>e)
 refine thn (hi pins s σ H _ I h) fun v s1 h1=>thn h1 fun itv s2 h2=>?_
 obtain ⟨it,fp,tn,J,H2,e,I2,T,st2,f2,q⟩:=h2; subst e
 obtain ⟨W,⟨m0,w0⟩,turn⟩:=q s2.heap.objs.size (I2.hok.fresh (yF _))
 refine ya (wpAny_newFunctionEnv B.cell (by intro y hy; simp at hy) (fun h1 hns hsb=>?_) B.kind)
 dsimp only at hns hsb ⊢
 have I3:Inv X pins σ (upd H2 s2.heap.objs.size (.lst [])) { s2 with heap:=s2.heap.push { cls:=.type "list",dict:=none,data:=.seq ([]:List Value).toArray } } :=
  I2.laid (t':=s2.toks) (fun b o e=>yB _ e) (yF _) ⟨yi _,[],0,.nil,yK _ rfl⟩
 have fb:∀ b ∈ fp,b<s2.heap.objs.size:=fun b hb=>by
  obtain ⟨o,e,_⟩:=T.obj 0 _ st2 b hb; exact yJ e
 have f3:∀ b ∈ fp,zfL X pins (upd H2 s2.heap.objs.size (.lst [])) b:=fun b hb=>by
  refine ⟨?_,(f2 b hb).2⟩; rw [zU (yS (fb b hb))]; exact (f2 b hb).1
 generalize hh3:s2.heap.push { cls:=.type "list",dict:=none,data:=.seq ([]:List Value).toArray }=h3 at hns hsb I3 ⊢
 have z3:s2.heap.objs.size<h3.objs.size:=by rw [<- hh3,Heap.size_push]; exact Nat.lt_succ_self _
 have k3:∀ b o,h3.get? b=some o->h1.get? b=some o:=fun b o e=>hsb.extBut b o (yS (yJ e)) (yB _ e)
 have I4:=zmI (tk:=s2.toks+([]:List (Str × Value)).length) I3 B hN hs f3 (fun b hb=>Nat.lt_trans (fb b hb) z3) hns k3
 have st4:tn 0 h1:=T.keep 0 _ _ st2 fun b hb o e=>k3 b o (by rw [<- hh3]; exact yB _ e)
 have fok:∀ {H':Hp},(∀ b ∈ fp,H' b=none)->∀ b ∈ fp,zfL (blk X N' sc (zdc X.env.cells sc.names []) h3.objs.size { s2 with heap:=h3 } (upd H2 s2.heap.objs.size (.lst [])) fp (X.pn ++ pins)) [] H' b:=fun hn b hb=>by
  obtain ⟨_,g1,g2,g3,g4,g5⟩:=f3 b hb
  refine ⟨hn b hb,yS (Nat.lt_trans (fb b hb) z3),fun z=>?_,.inl hb,fun x c e=>g4 x c (zdE sc.names [] hfr (fun _ _ z=>by simp at z) e),fun p hp=>g5 p (by rw [yf] at hp; exact hp)⟩
  rcases yO.mp (I3.stkSub b z) with e | e
  ·exact g1 e
  ·exact g2 e
 have loop:∀ s4:Shared,s4={ s2 with heap:=h1,toks:=s2.toks+([]:List (Str × Value)).length } ->
   codeAny (model X.prog X.w) X.A (.compLoop (.ListComp elt [⟨tg,iter,ifs,0⟩] sc pos) 0 (.ref it) (.ref s2.heap.objs.size) (compEnvC sc (zdc X.env.cells sc.names []) h3.objs.size X.env))
    (compPost (model X.prog X.w) X.A X.xe (some (assign (.Name x0 p1) X.env)) (fun _ s'=>SP X pins D0 .next s') (.ref s2.heap.objs.size) h3.objs.size) s4:=by
  rintro s4 rfl
  refine zgv (fun k s'=>∃ i σ5 H5,Inv (blk X N' sc (zdc X.env.cells sc.names []) h3.objs.size { s2 with heap:=h3 } (upd H2 s2.heap.objs.size (.lst [])) fp (X.pn ++ pins)) [] σ5 H5 s'/\tn i s'.heap/\(∀ b ∈ fp,H5 b=none)/\W i k σ5 H5) ?_ m0
   ⟨0,_,_,I4,st4,fun b hb=>(f3 b hb).1,w0⟩
  rintro k s5 ⟨i,σ5,H5,I5,st5,fr5,w5⟩
  rcases turn i k σ5 H5 w5 with ⟨stop,qd⟩ | ⟨go,M,hM,step⟩
  ·refine thn (T.done (blk X N' sc (zdc X.env.cells sc.names []) h3.objs.size { s2 with heap:=h3 } (upd H2 s2.heap.objs.size (.lst [])) fp (X.pn ++ pins)) rfl rfl rfl hc i [] s5 σ5 H5 _ I5 (fok fr5) st5 stop) fun r s6 ⟨hr,I6⟩=>?_
   subst hr; obtain ⟨m6,hn6,_⟩:=id I6.loc
   have I7:Inv X pins σ H5 s6:=I3.call' (s':=s6) (ch:=fp) I6.os (Un.same I6.base (Heap.SameBut.refl ..) (yF _)) (HOk.same I6.hok (Heap.SameBut.refl ..) I6.free) I6.bare fun b hb=>⟨(f3 b hb).2.2.2.1,(f3 b hb).2.1,(f3 b hb).2.2.2.2.1,(f3 b hb).2.2.2.2.2⟩
   obtain ⟨c0,c1,c2,c3,c4,c5⟩:=I3.fpOk (H':=H5) (b:=h3.objs.size) (yF _) I6.free
   show wpAny _ _ (assign (.Name x0 p1) X.env (.ref s2.heap.objs.size)) _ _ _
   refine wpAny_assign_Name (zfO (v:=.ref s2.heap.objs.size) I7 hNd hi0 (.inl hx0) rfl (fun s8 I8 sb=>?_) (.inr hx0))
   obtain ⟨a8,sb8,ha8⟩:=sb
   have ne8:h3.objs.size≠a8:=by
    rcases ha8 with e | e
    ·rw [e]; exact c1
    ·exact fun z=>c4 _ _ e z.symm
   exact ⟨m6,hn6.sameBut sb8 ne8,fun h' hsb'=>⟨_,H5,I8.turned (t':=s8.toks) (fun b o hb e=>(hsb'.2 b hb).trans e) c0 c1 c3 c4 c5,fin _ _ qd⟩⟩
  ·refine thn (T.item (blk X N' sc (zdc X.env.cells sc.names []) h3.objs.size { s2 with heap:=h3 } (upd H2 s2.heap.objs.size (.lst [])) fp (X.pn ++ pins)) rfl rfl rfl hc i [] s5 σ5 H5 _ I5 (fok fr5) st5 go) fun r s6 ⟨u,hr,h6⟩=>?_
   subst hr
   refine thn h6 fun _ s7 ⟨x,H7,I7,r7,y7,st7,fr7⟩=>?_
   have I7':=I7.pinned (fok fr7) (T.obj _ _ st7)
   have back:∀ {σ8:St} {H8:Hp} {s8:Shared},Inv (blk X N' sc (zdc X.env.cells sc.names []) h3.objs.size { s2 with heap:=h3 } (upd H2 s2.heap.objs.size (.lst [])) fp (X.pn ++ pins)) ([] ++ ze2 fp s7.heap) σ8 H8 s8->tn (i+1) s8.heap/\∀ b ∈ fp,H8 b=none:=fun {σ8 H8 s8} I8=>by
    have pn8:∀ b ∈ fp,∀ o,s7.heap.get? b=some o->s8.heap.get? b=some o/\H8 b=none:=fun b hb o e=>by
     have q:=I8.pin (b,o) (yY _ (yY _ (zc3 hb e))); exact ⟨q.1,q.2.1⟩
    refine ⟨T.keep _ _ _ st7 fun b hb o e=>(pn8 b hb o e).1,fun b hb=>?_⟩
    obtain ⟨o,e,_⟩:=T.obj _ _ st7 b hb; exact (pn8 b hb o e).2
   have xf:∀ {α:Type} {t:Sem α} {Q1 Q2:α->Shared->Prop} {z:Shared},wpAny (model X.prog X.w) X.A t Q1 X.xe z->(∀ a z',Q1 a z'->Q2 a z')->wpAny (model X.prog X.w) X.A t Q2 (fun _ _=>False) z:=fun g1 g2=>by
    rw [hx] at g1; exact thn g1 g2
   refine xf (hg _ _ _ _ _ _ _ s7 σ5 H7 x u _ I7' r7 (step x H7 y7)) fun _ s8 ⟨σ8,H8,I8,q8⟩=>?_
   refine xf (ht _ _ _ _ _ _ _ s8 σ8 H8 _ I8 q8) fun b s9 ⟨H9,I9,q9⟩=>?_
   cases b with
   | false =>
    obtain ⟨m',hm,w'⟩:=hM σ8 H9 (by simpa using q9)
    obtain ⟨g1,g2⟩:=back I9; exact ⟨m',hm,i+1,σ8,H9,I9.unpinned,g1,g2,w'⟩
   | true =>
    rw [yP rfl] at q9 ⊢
    refine xf (he _ _ _ _ _ _ _ s9 σ8 H9 _ I9 q9) fun y s10 ⟨yv,H10,I10,r10,ys,hy,hz,w⟩=>?_
    obtain ⟨m',hm,w'⟩:=hM _ _ w
    refine xf (zev (X:=(blk X N' sc (zdc X.env.cells sc.names []) h3.objs.size { s2 with heap:=h3 } (upd H2 s2.heap.objs.size (.lst [])) fp (X.pn ++ pins))) _ s10 σ8 H10 (.ref s2.heap.objs.size) [yv] _ [y] (fun _ H11=>H11=upd H10 s2.heap.objs.size (.lst (ys ++ [yv]))) I10 rfl (.cons r10 .nil) ⟨_,ys,yv,rfl,rfl,hy,hz,rfl⟩) fun _ s11 ⟨_,H11,I11,_,e11⟩=>?_
    subst e11; obtain ⟨g1,g2⟩:=back I11; exact ⟨m',hm,i+1,σ8,_,I11.unpinned,g1,g2,w'⟩
 exact codeAny_compStart_list (loop _ rfl) (T.self _ 0 _ _ _ st4 (loop _ rfl))
end L2
namespace PL
open PySem L2
structure PU' (X:Cx) (e:Expr) (t:TO'):Prop where
 h:PU X e (oOf X.K X.N.length t)
section
variable {X:Cx} {pos:Pos}
theorem zkW {elt tg iter:Expr} {ifs:List Expr} {sc fsc:Scope} {ti:TI'} {g:TG'} {tc:TT'} {te:TE'} {N N':List Str} {src:List (Option Nat)} (B:Blk N N' src fsc sc) (hi:PI' X tg iter ti)
  (hg:∀ cl C s H fp pn,PG' (blk X N' sc cl C s H fp pn) tg g) (ht:∀ cl C s H fp pn,PTs' (blk X N' sc cl C s H fp pn) ifs tc) (he:∀ cl C s H fp pn,PE' (blk X N' sc cl C s H fp pn) elt te)
  (hx:X.xe=(fun _ _=>False):=by rfl) (hc:X.calm=true:=by rfl) (hN:X.N=N:=by rfl) (hs:X.env.scope=fsc:=by rfl)
  (hf:∀ x,foldedSetIterable iter X.env x=pure x:=by intro _; rfl):PU' X (.ListComp elt [⟨tg,iter,ifs,0⟩] sc pos) (zE ti src g tc te):=by
 refine ⟨PU.weak (zm9 (g:=gOf X.K N'.length g) (tc:=zok X.K N'.length tc) (te:=tOf X.K N'.length te) B hi.h (fun a b c d e f=>(hg a b c d e f).h) (fun a b c d e f=>(ht a b c d e f).h) (fun a b c d e f=>(he a b c d e f).h) hx hc hN hs hf) ?_⟩
 rintro σ H Q2 ⟨W,Hi,Γ,Q,gd,h,fin⟩
 refine ⟨W,Hi,Γ,_,gd,h,?_⟩
 rintro J H1 Hi1 Γ1 ds s1 g1 itd ⟨hlen,q⟩
 intro A hA
 -- the state between two turns
 have hn':src.length=N'.length:=B.len
 refine zgt (n:=ds.length) (fun i σ' H'=>∃ Hi' acc vs Γ',zaM Hi1 Hi'/\Fz Hi' H'/\(∀ b o,H1 b=some o->H' b=some o)/\(∀ b o,H1 b=some o->Hi' b=Hi1 b)/\Hi' A=none/\H' A=some (.lst vs)/\zbI X.K Hi' vs acc/\vs.length<=i/\σ'.length=N'.length /\
   (∀ (j:Nat) s,Γ'[j]?=some s->s=.emp\/∃ d,s=.val d/\∃ v,σ'[j]?=some (some v)/\Den X.K Hi' v d)/\zdX g tc te (fun acc=>Q (.lst acc) Γ1) (ds.drop i) acc Γ') ?_ ?_ ?_
 ·refine ⟨Hi1,[],[],zku src Γ1,zaM.refl _,(Ext.newO g1.fz hA _ (fun _ z=>by cases z)).fz,fun b o e=>zaB hA _ b o e,fun b o e=>rfl,g1.sub.free hA,zw,.nil,yi _,?_,fun j s e=>?_,by simpa using q⟩
  ·unfold zkO; rw [yD,hn']
  ·unfold zku at e
   rw [yH] at e
   cases hj:src[j]? with
   | none=>rw [hj] at e; cases e
   | some o =>
    rw [hj] at e
    cases o with
    | none=>cases e; exact .inl rfl
    | some i =>
     have e':(match Γ1[i]? with | some (.val d)=>Slot.val d | _=>.emp)=s:=Option.some.inj e
     cases hΓ:Γ1[i]? with
     | none=>rw [hΓ] at e'; exact .inl e'.symm
     | some sl =>
      rw [hΓ] at e'
      cases sl with
      | val d =>
       refine .inr ⟨d,e'.symm,?_⟩; obtain ⟨v,h1,h2⟩:=g1.val i d hΓ; refine ⟨v,?_,h2⟩; unfold zkO; rw [yH,hj]
       show some ((some i).bind fun i=>(σ[i]?).join)=some (some v)
       show some ((σ[i]?).join)=some (some v)
       rw [h1]; rfl
      | emp=>exact .inl e'.symm
      | own o=>exact .inl e'.symm
      | bk _ _ _=>exact .inl e'.symm
 ·rintro i σ' H' hlt ⟨Hi',acc,vs,Γ',s2,s3,k1,k2,hA1,hA2,dl,hv,hl,hsl,q⟩
  have hd:ds.drop i=ds[i] :: ds.drop (i+1):=YF hlt
  rw [hd] at q; obtain ⟨go,yl⟩:=(itd Hi' H' s2 s3).1 i ds[i] (yC hlt)
  refine ⟨go,fun x H'' y=>?_⟩
  obtain ⟨Hi'',ex,den⟩:=yl x H'' y
  have gb:Good X.K N'.length ⟨H'',Hi'',[]⟩ Hi'' Γ' σ' H'':=by
   refine ⟨hl,ex.fz,fun b o e _=>e,fun b o e=>⟨o,e⟩,fun b o e=>rfl,fun j d e=>?_,fun j o e=>?_,fun j k o o' b e=>?_,fun j d b xs e=>?_⟩
   ·rcases hsl j _ e with z | ⟨d',z,v,h1,h2⟩
    ·cases z
    ·cases z; exact ⟨v,h1,h2.mono ex.hi⟩
   ·rcases hsl j _ e with z | ⟨d',z,_⟩ <;> cases z
   ·rcases hsl j _ e with z | ⟨d',z,_⟩ <;> cases z
   ·rcases hsl j _ e with z | ⟨d',z,_⟩ <;> cases z
  refine ⟨⟨H'',Hi'',[]⟩,Hi'',Γ',ds[i],_,gb,den,q,?_⟩; intro σ3 H3 Hi3 Γ3 s4 g3 q3; refine ⟨⟨H'',Hi'',[]⟩,Hi3,Γ3,_,g3,q3,?_⟩; intro b H4 Hi4 Γ4 s5 g4 q4
  -- what the state is behind a turn
  have back:∀ {Γ5:Sts} {Hi5 H5:Hp},zaM Hi4 Hi5->Good X.K N'.length ⟨H'',Hi'',[]⟩ Hi5 Γ5 σ3 H5 ->
    zaM Hi1 Hi5/\Fz Hi5 H5/\(∀ b o,H1 b=some o->H5 b=some o)/\(∀ b o,H1 b=some o->Hi5 b=Hi1 b)/\Hi5 A=none/\H5 A=some (.lst vs)/\zaM Hi' Hi5:=fun {Γ5 Hi5 H5} s6 g5=>by
   have sx:zaM Hi' Hi5:=ex.hi.trans (s4.trans (s5.trans s6))
   have hA3:H'' A=some (.lst vs):=ex.h _ _ hA2
   refine ⟨s2.trans sx,g5.fz,fun b o e=>g5.keep b o (ex.h _ _ (k1 b o e)) (by simp),fun b o e=>?_,?_,g5.keep A _ hA3 (by simp),sx⟩
   ·rw [g5.fro b o (ex.h _ _ (k1 b o e))]
    show Hi'' b=Hi1 b
    rw [ex.fro b o (k1 b o e),k2 b o e]
   ·rw [g5.fro A _ hA3]
    show Hi'' A=none
    rw [ex.fro A _ hA2,hA1]
  have sl:∀ {Γ5:Sts} {Hi5 H5:Hp},Good X.K N'.length ⟨H'',Hi'',[]⟩ Hi5 Γ5 σ3 H5->∀ (j:Nat) s,(vo Γ5)[j]?=some s->s=.emp\/∃ d,s=.val d/\∃ v,σ3[j]?=some (some v)/\Den X.K Hi5 v d:=fun {Γ5 Hi5 H5} g5 j s e=>by
   unfold vo at e; rw [yH] at e
   cases hj:Γ5[j]? with
   | none=>rw [hj] at e; cases e
   | some sl =>
    rw [hj] at e
    cases sl with
    | val d =>
     cases e; exact .inr ⟨d,rfl,g5.val j d hj⟩
    | emp=>cases e; exact .inl rfl
    | own o=>cases e; exact .inl rfl
    | bk _ _ _=>cases e; exact .inl rfl
  cases b with
  | false =>
   simp only [YC,if_false] at q4 ⊢; obtain ⟨b1,b2,b3,b4,b5,b6,b7⟩:=back (zaM.refl _) g4
   exact ⟨Hi4,acc,vs,vo Γ4,b1,b2,b3,b4,b5,b6,dl.mono b7,by omega,g4.len,sl g4,q4⟩
  | true =>
   simp only [if_true] at q4 ⊢; refine ⟨⟨H'',Hi'',[]⟩,Hi4,Γ4,_,g4,q4,?_⟩
   rintro y' H5 ⟨Hi5,dy,Γ5,s6,g5,den5,q5⟩
   obtain ⟨b1,b2,b3,b4,b5,b6,b7⟩:=back s6 g5
   refine ⟨vs,b6,by omega,Hi5,acc ++ [dy],vs ++ [y'],vo Γ5,b1,?_,?_,b4,b5,zw,zbg (dl.mono b7) (.cons den5 .nil),by rw [yQ]; simp; omega,g5.len,sl g5,q5⟩
   ·refine ⟨fun b o e=>?_,fun b xs e=>?_⟩
    ·rw [zU (fun z=>by rw [z,b5] at e; cases e)]
     exact b2.sub b o e
    ·by_cases hb:b=A
     ·subst hb; rw [zw] at e; cases e
     ·rw [zU hb] at e; exact b2.tups b xs e
   ·intro b o e
    rw [zU (zaH e hA)]; exact b3 b o e
 ·rintro σ' H' ⟨Hi',acc,vs,Γ',s2,s3,k1,k2,hA1,hA2,dl,hv,hl,hsl,q⟩
  refine ⟨(itd Hi' H' s2 s3).2,?_⟩; rw [YN (yF _)] at q
  have ex:Ext Hi1 H1 Hi' H':=⟨s2,k1,s3,k2⟩
  refine fin A H' Hi' Γ1 (.lst acc) (s1.trans s2) (g1.ext ex) ⟨hA1,?_,⟨fun j o' e z=>?_,fun j d xs e=>?_⟩,vs,hA2,dl⟩ q
  ·cases hq:W.H₀ A with
   | none=>rfl
   | some w =>
    obtain ⟨w',hw⟩:=g1.there A w hq
    rw [hA] at hw; cases hw
  ·obtain ⟨a,h1,_,_,h4⟩:=g1.own j o' e
   rw [z] at h1; cases h1; obtain ⟨w,hw⟩:=h4.there
   rw [hA] at hw; cases hw
  ·obtain ⟨w,hw⟩:=(g1.bk j d A xs e).at_.there
   rw [hA] at hw; cases hw
theorem zk0 (i:Nat) {x:Str} {e:Expr} {te:TO'} {pos':Pos} (hN:X.N.Nodup) (he:PU' X e te) (hi:X.N[i]?=some x:=by rfl) (hx:X.env.scope.names.lookup x=some .local:=by rfl) (hs:swapsWith e (some (.Name x pos')) pos.line X.env=pure true:=by rfl):PS' X (.Assign [.Name x pos'] e pos) (zaf (zau te) (zx i)):=by
 refine ⟨fun pins s σ H N2 I q=>?_⟩
 obtain ⟨W,Hi,Γ,N,g,h,l⟩:=q
 refine he.h pins s σ H (fun v H'=>N2.nx (σ.set i (some v)) H') i x pos pos' N2 I ⟨W,Hi,Γ,_,g,h,?_⟩ hN hi hx hs fun _ _ z=>z
 intro a H1 Hi1 Γ1 o s1 g1 nw q; obtain ⟨u,hu⟩:=nw.own.there; exact l.nx _ H1 (upd Hi1 a u) _ (s1.trans (zaB nw.hi u)) ((g1.freezeA nw.hi nw.h0 nw.ne hu).set (yG.mp hi).1 (nw.own.den nw.hi hu)) q
end
def zs2:OD->Prop
 | .lst ds=>∀ d,d ∈ ds->Imm d
 | _=>False
def zQ (n:Nat) (t:TO'):TO':=fun Γ Q=>t (zad n Γ) fun o _=>zs2 o/\Q o Γ
section
variable {X:Cx}
end
abbrev SpB:=(D->D)->List D->List D->(D->List D->Prop)->Prop
section
variable {X:Cx} {k:Nat} {C:Addr} {m x y:Str} {ps:List Str} {sp:SpB} {apos pos p q:Pos} {e:Expr} {es:List Expr} {t:TA'}
def zS (i:Nat) (sp:SpB) (t:TA'):TE':=fun Γ Q=>(∃ d b xs,Γ[i]?=some (.bk d b (.lst xs)))/\t Γ fun ds Γ1=>∃ d b xs,Γ1[i]?=some (.bk d b (.lst xs))/\sp d xs ds fun r ys=>Q r (Γ1.set i (.bk d b (.lst ys)))
end
section
variable {P:Program} {w:World} {K:W.Frag} {mg:Str->Option Value} {base:Heap}
end
end PL
namespace L2
open PySem PySem.Spec PyProof.Rows
theorem zk5 {h:Heap} {a:Addr} {its:Array Value} (p:PlainL h a its):h.IsList a its:=by
 obtain ⟨o,n,e,c,d,e2⟩:=p
 first | exact ⟨o,e,c,n,e2⟩ | exact ⟨o,e,c,n,d⟩
section
variable {X:Cx} {tg:Expr}
end
end L2
namespace PL
open PySem L2
section
variable {X:Cx}
def zaA (t:TE'):TE':=fun Γ Q=>t Γ fun d Γ1=>∃ i:Int,d=.int i/\Q (.int (-i)) Γ1
def nmD (ms:List (List Nat)):List (D × D):=ms.map fun m=>(.str m,.bl true)
def zat:TO':=fun Γ Q=>Q (.dic (nmD [])) Γ
theorem znl {pos:Pos}:PO' X (.Dict [] [] pos) zat:=by
 refine ⟨PE.weak zlc ?_⟩
 rintro σ H Q ⟨W,Hi,Γ,Q',g,q,fin⟩
 intro p hp
 exact fin p _ Hi Γ (.dic (nmD [])) (zaM.refl _) (g.ext (Ext.newO g.fz hp _ (fun _ z=>by cases z))) (New.mk' g hp ⟨[],zw,.nil⟩) q
end
end PL
namespace L2
open PySem PySem.Spec PyProof.Rows
section
variable {X:Cx}
end
end L2
namespace PL
open PySem L2
section
variable {X:Cx}
end
class MGs (t:zki):Prop where
 mono:∀ ds Γ (Q Q':Sts->Prop),(∀ Γ,Q Γ->Q' Γ)->t ds Γ Q->t ds Γ Q'
instance:MGs zas:=⟨fun _ _ _ _ h ⟨a,q⟩=>⟨a,h _ q⟩⟩
instance {t:TG'} {u:zki} [MG t] [MGs u]:MGs (zF t u):=⟨fun _ _ _ _ h ⟨d,r,e,q⟩=>⟨d,r,e,MG.mono (g:=t) _ _ _ _ (fun _ z=>MGs.mono (t:=u) _ _ _ _ h z) q⟩⟩
instance {n:Nat} {t:zki} [MGs t]:MG (zar n t):=⟨fun _ _ _ _ h ⟨ds,e,l,q⟩=>⟨ds,e,l,MGs.mono (t:=t) _ _ _ _ h q⟩⟩
end PL
namespace So
open PySem PySem.W PyProof.Rows
def run (lt:Nat->Nat->Bool) {α:Type}:KasT α->α
 | .ret a=>a
 | .ask i j k=>run lt (k (lt i j))
theorem zc1 (lt:Nat->Nat->Bool) {α β:Type} (f:α->KasT β):∀ t:KasT α,run lt (t.bind f)=run lt (f (run lt t))
 | .ret _=>rfl
 | .ask i j k=>zc1 lt f (k (lt i j))
def g (p:Array Nat) (i:Nat):Nat:=p.getD i 0
theorem g_eq (p:Array Nat) (i:Nat):g p i=(p[i]?).getD 0:=by
 unfold g; simp [Array.getD_eq_getD_getElem?]
theorem zaO {p:Array Nat} {i j:Nat} (hj:j<=p.size) (k:Nat):g (kas_rev p i j) k=if i<=k/\k<j then g p (i+j-1-k) else g p k:=by
 unfold kas_rev; rw [g_eq,getElem?_mirror_all hj]
 split <;> rw [g_eq]
theorem zlV {p:Array Nat} {src d:Nat} (hs:src<p.size) (hd:d<=src) (k:Nat):g (bubble p src d) k=if k=src-d then g p src else if src-d<k/\k<=src then g p (k-1) else g p k:=by
 rw [g_eq,getElem?_bubble hs d hd]; split
 ·rw [g_eq]
 ·split <;> rw [g_eq]
structure Ord (lt:Nat->Nat->Bool):Prop where
 asym:∀ a b,lt a b=true->lt b a=false
 tr:∀ a b c,lt b a=false->lt c b=false->lt c a=false
def L (lt:Nat->Nat->Bool) (a b:Nat):Prop:=lt a b=true\/(lt b a=false/\a<b)
section
variable {lt:Nat->Nat->Bool}
theorem L.le (o:Ord lt) {a b:Nat} (h:L lt a b):lt b a=false:=by
 rcases h with h | h
 ·exact o.asym _ _ h
 ·exact h.1
theorem zjx (o:Ord lt) {a b c:Nat} (h:lt a b=true) (k:lt c b=false):lt a c=true:=by
 cases e:lt a c with
 | true=>rfl
 | false=>exact yL (o.tr b c a k e) (by rw [h]; exact fun z=>nomatch z)
theorem znL (o:Ord lt) {a b c:Nat} (h:lt b a=false) (k:lt b c=true):lt a c=true:=by
 cases e:lt a c with
 | true=>rfl
 | false=>exact yL (o.tr c a b e h) (by rw [k]; exact fun z=>nomatch z)
theorem L.trans (o:Ord lt) {a b c:Nat} (h:L lt a b) (k:L lt b c):L lt a c:=by
 rcases h with h | ⟨h,h'⟩
 ·exact .inl (zjx o h (L.le o k))
 ·rcases k with k | ⟨k,k'⟩
  ·exact .inl (znL o h k)
  ·exact .inr ⟨o.tr _ _ _ h k,Nat.lt_trans h' k'⟩
end
def Srt (lt:Nat->Nat->Bool) (p:Array Nat) (n:Nat):Prop:=∀ i j,i<j->j<n->L lt (g p i) (g p j)
structure B (p:Array Nat) (N n:Nat):Prop where
 size:p.size=N
 low:∀ k,k<n->g p k<n
 high:∀ k,n<=k->k<N->g p k=k
theorem B.succ {p:Array Nat} {N n:Nat} (b:B p N n) (h:n<N):B p N (n+1) where
 size:=b.size
 low:=fun k hk=>by
  by_cases e:k=n
  ·subst e; rw [b.high k (yF _) h]; omega
  ·have:=b.low k (by omega); omega
 high:=fun k h1 h2=>b.high k (by omega) h2
theorem B.mirror {p:Array Nat} {N n i j:Nat} (b:B p N n) (hj:j<=n) (hn:n<=N):B (kas_rev p i j) N n where
 size:=by rw [kas_rev_size,b.size]
 low:=fun k hk=>by
  rw [zaO (by rw [b.size]; omega)]
  split
  ·exact b.low _ (by omega)
  ·exact b.low _ hk
 high:=fun k h1 h2=>by
  rw [zaO (by rw [b.size]; omega),yN (by omega)]
  exact b.high k h1 h2
section
variable {lt:Nat->Nat->Bool} (o:Ord lt)
include o
theorem Srt.succ {p:Array Nat} {N n:Nat} (b:B p N n) (h1:1<=n) (hn:n<N) (s:Srt lt p n) (q:lt (g p n) (g p (n-1))=false):Srt lt p (n+1):=fun i j hij hj=>by
 by_cases e:j=n
 ·subst e
  have l1:L lt (g p (j-1)) (g p j):=.inr ⟨q,by
   rw [b.high j (yF _) hn]
   exact b.low _ (by omega)⟩
  by_cases e2:i=j-1
  ·subst e2; exact l1
  ·exact (s i (j-1) (by omega) (by omega)).trans o l1
 ·exact s i j hij (by omega)
theorem asc {p:Array Nat} {N:Nat}:∀ (f n:Nat),n+f=N->1<=n->B p N n->Srt lt p n->n<=run lt (kas_asc p f n)/\run lt (kas_asc p f n)<=N/\B p N (run lt (kas_asc p f n))/\Srt lt p (run lt (kas_asc p f n)) /\
  (run lt (kas_asc p f n)<N->lt (g p (run lt (kas_asc p f n))) (g p (run lt (kas_asc p f n)-1))=true)
 | 0,n,h,h1,b,s=>⟨yF _,by show n<=N; omega,b,s,fun z=>yL (show n<N from z) (by omega)⟩
 | f+1,n,h,h1,b,s=>by
  have e:run lt (kas_asc p (f+1) n)=run lt (if lt (g p n) (g p (n-1))=true then KasT.ret n else kas_asc p f (n+1)):=rfl
  rw [e]
  cases q:lt (g p n) (g p (n-1)) with
  | true =>
   rw [yP rfl]
   exact ⟨yF _,by show n<=N; omega,b,s,fun _=>q⟩
  | false =>
   rw [yN (by decide)]
   obtain ⟨a1,a2,a3,a4,a5⟩:=asc (N:=N) f (n+1) (by omega) (by omega) (b.succ (by omega)) (Srt.succ o b h1 (by omega) s q)
   exact ⟨by omega,a2,a3,a4,a5⟩
structure De (lt:Nat->Nat->Bool) (p:Array Nat) (N n q:Nat):Prop where
 b:B p N n
 le:n<=N
 q1:q+1<=n
 blk:∀ i j,n-(q+1)<=i->i<j->j<n->L lt (g p i) (g p j)/\lt (g p i) (g p j)=false
 str:∀ i j,i<n-(q+1)->n-(q+1)<=j->j<n->lt (g p j) (g p i)=true
 old:∀ i j,i<j->j<n-(q+1)->L lt (g p j) (g p i)
def Fal (lt:Nat->Nat->Bool) (p:Array Nat) (n:Nat):Prop:=∀ i j,i<j->j<n->L lt (g p j) (g p i)
theorem De.turned {p:Array Nat} {N n q:Nat} (d:De lt p N n q):Fal lt (kas_rev p (n-(q+1)) n) n:=fun i j hij hj=>by
 have hs:n<=p.size:=by rw [d.b.size]; exact d.le
 have hq:=d.q1; rw [zaO hs,zaO hs]
 by_cases hi:n-(q+1)<=i
 ·rw [yP ⟨by omega,hj⟩,yP ⟨hi,by omega⟩]
  exact (d.blk _ _ (by omega) (by omega) (by omega)).1
 ·rw [yN (show ¬ (n-(q+1)<=i/\i<n) by omega)]
  by_cases hj2:n-(q+1)<=j
  ·rw [yP ⟨hj2,hj⟩]
   exact .inl (d.str _ _ (by omega) (by omega) (by omega))
  ·rw [yN (show ¬ (n-(q+1)<=j/\j<n) by omega)]
   exact d.old i j hij (by omega)
theorem De.fal0 {p:Array Nat} {N n:Nat} (d:De lt p N n 0):Fal lt p n:=fun i j hij hj=>by
 by_cases e:n-1<=j
 ·exact .inl (d.str i j (by omega) (by omega) hj)
 ·exact d.old i j hij (by omega)
theorem De.next {p:Array Nat} {N n:Nat} (b:B p N n) (hn:n<N) (h1:1<=n) (fa:Fal lt p n) (st:∀ i,i<n->lt (g p n) (g p i)=true):De lt p N (n+1) 0 where
 b:=b.succ hn
 le:=hn
 q1:=by omega
 blk:=fun i j h1 h2 h3=>by omega
 str:=fun i j h1 h2 h3=>by
  have e:j=n:=by omega
  subst e
  exact st i (by omega)
 old:=fun i j h1 h2=>fa i j h1 (by omega)
theorem De.st {p:Array Nat} {N n q:Nat} (d:De lt p N n q) (h:lt (g p n) (g p (n-1))=true):∀ i,i<n->lt (g p n) (g p i)=true:=fun i hi=>by
 have hq:=d.q1
 by_cases e:i=n-1
 ·subst e; exact h
 ·refine zjx o h ?_
  by_cases hb:n-(q+1)<=i
  ·exact (d.blk i (n-1) hb (by omega) (by omega)).2
  ·exact o.asym _ _ (d.str i (n-1) (by omega) (by omega) (by omega))
theorem zpW {N:Nat}:∀ (f:Nat) (p:Array Nat) (n q:Nat),n+f=N->De lt p N n q->∃ p' n' q',run lt (kas_desc f p n q)=(p',n',q')/\De lt p' N n' q'
 | 0,p,n,q,_,d=>⟨p,n,q,rfl,d⟩
 | f+1,p,n,q,h,d=>by
  have hn:n<N:=by omega
  have hq:=d.q1
  have e:run lt (kas_desc (f+1) p n q)=run lt (if lt (g p n) (g p (n-1))=true then (if q > 0 then kas_desc f (kas_rev p (n-(q+1)) n) (n+1) 0 else kas_desc f p (n+1) 0)
   else KasT.ask (p.getD (n-1) 0) (p.getD n 0) fun c=>if c=true then .ret (p,n,q) else kas_desc f p (n+1) (q+1)):=rfl
  rw [e]
  cases c:lt (g p n) (g p (n-1)) with
  | true =>
   rw [yP rfl]
   by_cases hq0:q > 0
   ·rw [yP hq0]
    refine zpW f _ (n+1) 0 (by omega) (De.next o (d.b.mirror (yF _) d.le) hn (by omega) (De.turned o d) fun i hi=>?_)
    have hs:n<=p.size:=by rw [d.b.size]; exact d.le
    rw [zaO hs,zaO hs,yN (show ¬ (n-(q+1)<=n/\n<n) by omega)]
    split
    ·exact De.st o d c _ (by omega)
    ·exact De.st o d c _ hi
   ·rw [yN hq0]
    have e0:q=0:=by omega
    subst e0
    exact zpW f _ (n+1) 0 (by omega) (De.next o d.b hn (by omega) (De.fal0 o d) (De.st o d c))
  | false =>
   rw [yN (by decide)]
   have e2:run lt (KasT.ask (p.getD (n-1) 0) (p.getD n 0) fun c=>if c=true then KasT.ret (p,n,q) else kas_desc f p (n+1) (q+1))=run lt (if lt (g p (n-1)) (g p n)=true then KasT.ret (p,n,q) else kas_desc f p (n+1) (q+1)):=rfl
   rw [e2]
   cases c2:lt (g p (n-1)) (g p n) with
   | true=>rw [yP rfl]; exact ⟨p,n,q,rfl,d⟩
   | false =>
    rw [yN (by decide)]
    have hb:n+1-(q+1+1)=n-(q+1):=by omega
    have gn:g p n=n:=d.b.high n (yF _) hn
    refine zpW f _ (n+1) (q+1) (by omega) ⟨d.b.succ hn,hn,by omega,fun i j h1 h2 h3=>?_,fun i j h1 h2 h3=>?_,fun i j h1 h2=>?_⟩
    ·rw [hb] at h1
     by_cases ej:j=n
     ·subst ej
      have lo:g p i<g p j:=by rw [gn]; exact d.b.low i h2
      by_cases ei:i=j-1
      ·subst ei; exact ⟨.inr ⟨c,lo⟩,c2⟩
      ·obtain ⟨u1,u2⟩:=d.blk i (j-1) h1 (by omega) (by omega)
       exact ⟨.inr ⟨o.tr _ _ _ (L.le o u1) c,lo⟩,o.tr _ _ _ c2 u2⟩
     ·exact d.blk i j h1 h2 (by omega)
    ·rw [hb] at h1 h2
     by_cases ej:j=n
     ·subst ej
      exact znL o c2 (d.str i (j-1) h1 (by omega) (by omega))
     ·exact d.str i j h1 h2 (by omega)
    ·rw [hb] at h2
     exact d.old i j h1 h2
theorem zov {p:Array Nat} {N n:Nat} (b:B p N n) (hn:n<=N) (h1:1<=n) (fa:Fal lt p n):∃ m p',run lt (kas_tail3 n N p)=(m,p')/\1<=m/\m<=N/\B p' N m/\Srt lt p' m:=by
 unfold kas_tail3; rw [zc1]
 have hs:n<=p.size:=by rw [b.size]; exact hn
 obtain ⟨a1,a2,a3,a4,_⟩:=asc o (p:=kas_rev p 0 n) (N:=N) (N-n) n (by omega) h1 (b.mirror (yF _) hn) (fun i j hij hj=>by
  rw [zaO hs,zaO hs,yP ⟨by omega,by omega⟩,yP ⟨by omega,hj⟩]
  exact fa _ _ (by omega) (by omega))
 exact ⟨_,_,rfl,by omega,a2,a3,a4⟩
theorem zhR {p:Array Nat} {N n:Nat} (hn:n<N) (d:De lt p N (n+1) 0):∃ m p',run lt (kas_descPart n N p)=(m,p')/\1<=m/\m<=N/\B p' N m/\Srt lt p' m:=by
 unfold kas_descPart; rw [zc1]
 obtain ⟨p',n',q',e,d'⟩:=zpW o (N:=N) (N-(n+1)) p (n+1) 0 (by omega) d
 rw [e]; have hq:=d'.q1
 by_cases h:q' > 0
 ·show ∃ m p'',run lt (if q' > 0 then kas_tail3 n' N (kas_rev p' (n'-(q'+1)) n') else kas_tail3 n' N p')=(m,p'')/\_
  rw [yP h]
  exact zov o (d'.b.mirror (yF _) d'.le) d'.le (by omega) (De.turned o d')
 ·show ∃ m p'',run lt (if q' > 0 then kas_tail3 n' N (kas_rev p' (n'-(q'+1)) n') else kas_tail3 n' N p')=(m,p'')/\_
  rw [yN h]
  have e0:q'=0:=by omega
  subst e0
  exact zov o d'.b d'.le (by omega) (De.fal0 o d')
theorem zp0 {p:Array Nat} {N:Nat} (hN:1<=N) (b:B p N 1):∃ m p',run lt (kas_count N p)=(m,p')/\1<=m/\m<=N/\B p' N m/\Srt lt p' m:=by
 unfold kas_count; rw [zc1]
 obtain ⟨a1,a2,a3,a4,a5⟩:=asc o (p:=p) (N:=N) (N-1) 1 (by omega) (yF _) b (fun i j hij hj=>by omega)
 generalize run lt (kas_asc p (N-1) 1)=n at a1 a2 a3 a4 a5 ⊢
 by_cases e:n=N
 ·rw [yP (by rw [e]; exact beq_self_eq_true _)]
  exact ⟨n,p,rfl,a1,a2,a3,a4⟩
 ·have hn:n<N:=by omega
  have hs:n<=p.size:=by rw [a3.size]; exact a2
  rw [yN (by simpa using e)]
  by_cases h1:n > 1
  ·rw [yP h1]
   show ∃ m p',run lt (if lt (g p 0) (g p (n-1))=true then KasT.ret (n,p) else kas_descPart n N (kas_rev p 0 n))=(m,p')/\_
   cases c:lt (g p 0) (g p (n-1)) with
   | true=>rw [yP rfl]; exact ⟨n,p,rfl,a1,a2,a3,a4⟩
   | false =>
    rw [yN (by decide)]
    refine zhR o hn (De.next o (a3.mirror (yF _) a2) hn a1 (fun i j hij hj=>?_) fun i hi=>?_)
    ·rw [zaO hs,zaO hs,yP ⟨by omega,hj⟩,yP ⟨by omega,by omega⟩]
     exact a4 _ _ (by omega) (by omega)
    ·rw [zaO hs,zaO hs,yN (show ¬ (0<=n/\n<n) by omega),yP ⟨by omega,hi⟩]
     refine zjx o (a5 hn) ?_; generalize hk:0+n-1-i=k
     have hkn:k<n:=by omega
     by_cases k0:k=0
     ·subst k0; exact c
     ·exact o.tr _ _ _ c (L.le o (a4 0 k (by omega) hkn))
  ·rw [yN h1]
   have e1:n=1:=by omega
   subst e1
   exact zhR o hn (De.next o a3 hn (yF _) (fun i j h1 h2=>by omega) fun i hi=>by
    have e0:i=0:=by omega
    subst e0; exact a5 hn)
theorem zk6 {p:Array Nat} {k:Nat} (s:Srt lt p k):∀ (f l r:Nat),r-l<=f->l<=r->r<=k->(∀ i,i<l->lt (g p k) (g p i)=false)->(∀ i,r<=i->i<k->lt (g p k) (g p i)=true) ->
  run lt (kas_place p k f l r)<=k/\(∀ i,i<run lt (kas_place p k f l r)->lt (g p k) (g p i)=false)/\∀ i,run lt (kas_place p k f l r)<=i->i<k->lt (g p k) (g p i)=true
 | 0,l,r,h,h1,h2,a,c=>⟨show l<=k by omega,a,fun i (hi:l<=i)=>c i (by omega)⟩
 | f+1,l,r,h,h1,h2,a,c=>by
  have e:run lt (kas_place p k (f+1) l r)=run lt (if l >= r then KasT.ret l else KasT.ask (p.getD k 0) (p.getD ((l+r) / 2) 0) fun c=>if c=true then kas_place p k f l ((l+r) / 2) else kas_place p k f ((l+r) / 2+1) r):=rfl
  rw [e]
  by_cases hlr:l >= r
  ·rw [yP hlr]
   exact ⟨show l<=k by omega,a,fun i (hi:l<=i)=>c i (by omega)⟩
  ·rw [yN hlr]
   show run lt (if lt (g p k) (g p ((l+r) / 2))=true then kas_place p k f l ((l+r) / 2) else kas_place p k f ((l+r) / 2+1) r)<=k/\(∀ i,i<run lt (if lt (g p k) (g p ((l+r) / 2))=true then kas_place p k f l ((l+r) / 2) else kas_place p k f ((l+r) / 2+1) r)->_)/\∀ i,run lt (if lt (g p k) (g p ((l+r) / 2))=true then kas_place p k f l ((l+r) / 2) else kas_place p k f ((l+r) / 2+1) r)<=i->_
   cases q:lt (g p k) (g p ((l+r) / 2)) with
   | true =>
    rw [yP rfl]
    refine zk6 s f l _ (by omega) (by omega) (by omega) a fun i hi hk=>?_
    by_cases ei:i=(l+r) / 2
    ·subst ei; exact q
    ·exact zjx o q (L.le o (s _ i (by omega) hk))
   | false =>
    rw [yN (by decide)]
    refine zk6 s f _ r (by omega) (by omega) h2 (fun i hi=>?_) c
    by_cases ei:i=(l+r) / 2
    ·subst ei; exact q
    ·exact o.tr _ _ _ (L.le o (s i ((l+r) / 2) (by omega) (by omega))) q
theorem ins {p:Array Nat} {N k l:Nat} (b:B p N k) (hk:k<N) (s:Srt lt p k) (hl:l<=k) (a:∀ i,i<l->lt (g p k) (g p i)=false) (c:∀ i,l<=i->i<k->lt (g p k) (g p i)=true):B (bubble p k (k-l)) N (k+1)/\Srt lt (bubble p k (k-l)) (k+1):=by
 have hs:k<p.size:=by rw [b.size]; exact hk
 have gk:g p k=k:=b.high k (yF _) hk
 have e:∀ i,g (bubble p k (k-l)) i=if i=l then g p k else if l<i/\i<=k then g p (i-1) else g p i:=fun i=>by
  rw [zlV hs (by omega),show k-(k-l)=l by omega]
 refine ⟨⟨by rw [bubble_size,b.size],fun i hi=>?_,fun i h1 h2=>?_⟩,fun i j hij hj=>?_⟩
 ·rw [e]
  split
  ·omega
  ·split
   ·have:=b.low (i-1) (by omega); omega
   ·have:=b.low i (by omega); omega
 ·rw [e,yN (by omega),yN (by omega)]
  exact b.high i (by omega) h2
 ·rw [e,e]
  have lo:∀ x,x<k->g p x<g p k:=fun x hx=>by rw [gk]; exact b.low x hx
  by_cases h1:i=l
  ·subst h1
   rw [yP rfl,yN (by omega),yP ⟨hij,by omega⟩]
   exact .inl (c _ (by omega) (by omega))
  ·rw [yN h1]
   by_cases h2:j=l
   ·subst h2
    rw [yP rfl,yN (by omega)]
    exact .inr ⟨a i hij,lo i (by omega)⟩
   ·rw [yN h2]
    split <;> split <;> exact s _ _ (by omega) (by omega)
theorem bin {N:Nat}:∀ (f:Nat) (p:Array Nat) (k:Nat),k+f=N->B p N k->Srt lt p k->B (run lt (kas_bin f p k)) N N/\Srt lt (run lt (kas_bin f p k)) N
 | 0,p,k,h,b,s=>by
  have e:k=N:=by omega
  subst e; exact ⟨b,s⟩
 | f+1,p,k,h,b,s=>by
  have e:run lt (kas_bin (f+1) p k)=run lt ((kas_place p k k 0 k).bind fun l=>kas_bin f (bubble p k (k-l)) (k+1)):=rfl
  rw [e,zc1]
  obtain ⟨a1,a2,a3⟩:=zk6 o s k 0 k (by omega) (yi _) (yF _) (fun i hi=>yL hi (Nat.not_lt_zero _)) fun i h1 h2=>yL h1 (by omega)
  obtain ⟨b',s'⟩:=ins o b (by omega) s a1 a2 a3
  exact bin f _ (k+1) (by omega) b' s'
theorem sort {N:Nat} (hN:1<=N):B (run lt (kas_sort N)) N N/\Srt lt (run lt (kas_sort N)) N:=by
 unfold kas_sort; rw [zc1]
 have g0:∀ k,k<N->g (List.toArray (List.range N)) k=k:=fun k hk=>by
  rw [g_eq]; simp [hk]
 obtain ⟨m,p',e,h1,h2,b,s⟩:=zp0 o hN (p:=List.toArray (List.range N)) ⟨by simp,fun k hk=>by rw [g0 k (by omega)]; exact hk,fun k h1 h2=>g0 k h2⟩
 rw [e]
 show B (run lt (if m<N then kas_bin (N-max m 1) p' (max m 1) else KasT.ret p')) N N/\Srt lt (run lt (if m<N then kas_bin (N-max m 1) p' (max m 1) else KasT.ret p')) N
 by_cases hm:m<N
 ·rw [yP hm,Nat.max_eq_left h1]
  exact bin o _ _ _ (by omega) b s
 ·rw [yN hm]
  have e:m=N:=by omega
  subst e; exact ⟨b,s⟩
end
def Ok (lt:Nat->Nat->Bool) (N:Nat) {α:Type}:KasT α->Prop
 | .ret _=>True
 | .ask i j k=>i<N/\j<N/\Ok lt N (k (lt i j))
theorem Ok.bind {lt:Nat->Nat->Bool} {N:Nat} {α β:Type} {f:α->KasT β}:∀ {t:KasT α},Ok lt N t->Ok lt N (f (run lt t))->Ok lt N (t.bind f)
 | .ret _,_,h=>h
 | .ask i j k,⟨h1,h2,h3⟩,h=>⟨h1,h2,Ok.bind (t:=k (lt i j)) h3 h⟩
theorem B.lt {p:Array Nat} {N n k:Nat} (b:B p N n) (hn:n<=N) (hk:k<N):g p k<N:=by
 by_cases h:k<n
 ·have:=b.low k h; omega
 ·rw [b.high k (by omega) hk]; exact hk
section
variable {lt:Nat->Nat->Bool} (o:Ord lt)
include o
theorem zjq {p:Array Nat} {N:Nat} {n0:Nat} (b:B p N n0) (h0:n0<=N):∀ (f n:Nat),n+f=N->Ok lt N (kas_asc p f n)
 | 0,_,_=>trivial
 | f+1,n,h=>⟨b.lt h0 (k:=n) (by omega),b.lt h0 (k:=n-1) (by omega),by
  show Ok lt N (if lt (g p n) (g p (n-1))=true then KasT.ret n else kas_asc p f (n+1))
  split
  ·trivial
  ·exact zjq b h0 f (n+1) (by omega)⟩
theorem zfy {N:Nat}:∀ (f:Nat) (p:Array Nat) (n q:Nat),n+f=N->De lt p N n q->Ok lt N (kas_desc f p n q)
 | 0,_,_,_,_,_=>trivial
 | f+1,p,n,q,h,d=>⟨d.b.lt d.le (k:=n) (by omega),d.b.lt d.le (k:=n-1) (by omega),by
  show Ok lt N (if lt (g p n) (g p (n-1))=true then (if q > 0 then kas_desc f (kas_rev p (n-(q+1)) n) (n+1) 0 else kas_desc f p (n+1) 0)
   else KasT.ask (p.getD (n-1) 0) (p.getD n 0) fun c=>if c=true then .ret (p,n,q) else kas_desc f p (n+1) (q+1))
  have hn:n<N:=by omega
  have hq:=d.q1
  cases c:lt (g p n) (g p (n-1)) with
  | true =>
   rw [yP rfl]
   by_cases hq0:q > 0
   ·rw [yP hq0]
    refine zfy f _ (n+1) 0 (by omega) (De.next o (d.b.mirror (yF _) d.le) hn (by omega) (De.turned o d) fun i hi=>?_)
    have hs:n<=p.size:=by rw [d.b.size]; exact d.le
    rw [zaO hs,zaO hs,yN (show ¬ (n-(q+1)<=n/\n<n) by omega)]
    split
    ·exact De.st o d c _ (by omega)
    ·exact De.st o d c _ hi
   ·rw [yN hq0]
    have e0:q=0:=by omega
    subst e0
    exact zfy f _ (n+1) 0 (by omega) (De.next o d.b hn (by omega) (De.fal0 o d) (De.st o d c))
  | false =>
   rw [yN (by decide)]
   refine ⟨d.b.lt d.le (k:=n-1) (by omega),d.b.lt d.le (k:=n) (by omega),?_⟩
   show Ok lt N (if lt (g p (n-1)) (g p n)=true then KasT.ret (p,n,q) else kas_desc f p (n+1) (q+1))
   cases c2:lt (g p (n-1)) (g p n) with
   | true=>rw [yP rfl]; trivial
   | false =>
    rw [yN (by decide)]
    have hb:n+1-(q+1+1)=n-(q+1):=by omega
    have gn:g p n=n:=d.b.high n (yF _) hn
    refine zfy f _ (n+1) (q+1) (by omega) ⟨d.b.succ hn,hn,by omega,fun i j h1 h2 h3=>?_,fun i j h1 h2 h3=>?_,fun i j h1 h2=>?_⟩
    ·rw [hb] at h1
     by_cases ej:j=n
     ·subst ej
      have lo:g p i<g p j:=by rw [gn]; exact d.b.low i h2
      by_cases ei:i=j-1
      ·subst ei; exact ⟨.inr ⟨c,lo⟩,c2⟩
      ·obtain ⟨u1,u2⟩:=d.blk i (j-1) h1 (by omega) (by omega)
       exact ⟨.inr ⟨o.tr _ _ _ (L.le o u1) c,lo⟩,o.tr _ _ _ c2 u2⟩
     ·exact d.blk i j h1 h2 (by omega)
    ·rw [hb] at h1 h2
     by_cases ej:j=n
     ·subst ej
      exact znL o c2 (d.str i (j-1) h1 (by omega) (by omega))
     ·exact d.str i j h1 h2 (by omega)
    ·rw [hb] at h2
     exact d.old i j h1 h2⟩
theorem zhC {p:Array Nat} {N n:Nat} (b:B p N n) (hn:n<=N):Ok lt N (kas_tail3 n N p):=by
 unfold kas_tail3
 exact Ok.bind (zjq o (b.mirror (yF _) hn) hn _ n (by omega)) trivial
theorem zeu {p:Array Nat} {N n:Nat} (hn:n<N) (d:De lt p N (n+1) 0):Ok lt N (kas_descPart n N p):=by
 unfold kas_descPart
 refine Ok.bind (zfy o _ p (n+1) 0 (by omega) d) ?_
 obtain ⟨p',n',q',e,d'⟩:=zpW o (N:=N) (N-(n+1)) p (n+1) 0 (by omega) d
 rw [e]
 show Ok lt N (if q' > 0 then kas_tail3 n' N (kas_rev p' (n'-(q'+1)) n') else kas_tail3 n' N p')
 split
 ·exact zhC o (d'.b.mirror (yF _) d'.le) d'.le
 ·exact zhC o d'.b d'.le
theorem zli {p:Array Nat} {N:Nat} (hN:1<=N) (b:B p N 1):Ok lt N (kas_count N p):=by
 unfold kas_count
 refine Ok.bind (zjq o b hN _ 1 (by omega)) ?_
 obtain ⟨a1,a2,a3,a4,a5⟩:=asc o (p:=p) (N:=N) (N-1) 1 (by omega) (yF _) b (fun i j hij hj=>by omega)
 generalize run lt (kas_asc p (N-1) 1)=n at a1 a2 a3 a4 a5 ⊢
 by_cases e:n=N
 ·rw [yP (by rw [e]; exact beq_self_eq_true _)]
  trivial
 ·have hn:n<N:=by omega
  have hs:n<=p.size:=by rw [a3.size]; exact a2
  rw [yN (by simpa using e)]
  by_cases h1:n > 1
  ·rw [yP h1]
   refine ⟨a3.lt a2 (k:=0) (by omega),a3.lt a2 (k:=n-1) (by omega),?_⟩
   show Ok lt N (if lt (g p 0) (g p (n-1))=true then KasT.ret (n,p) else kas_descPart n N (kas_rev p 0 n))
   cases c:lt (g p 0) (g p (n-1)) with
   | true=>rw [yP rfl]; trivial
   | false =>
    rw [yN (by decide)]
    refine zeu o hn (De.next o (a3.mirror (yF _) a2) hn a1 (fun i j hij hj=>?_) fun i hi=>?_)
    ·rw [zaO hs,zaO hs,yP ⟨by omega,hj⟩,yP ⟨by omega,by omega⟩]
     exact a4 _ _ (by omega) (by omega)
    ·rw [zaO hs,zaO hs,yN (show ¬ (0<=n/\n<n) by omega),yP ⟨by omega,hi⟩]
     refine zjx o (a5 hn) ?_; generalize hk:0+n-1-i=k
     have hkn:k<n:=by omega
     by_cases k0:k=0
     ·subst k0; exact c
     ·exact o.tr _ _ _ c (L.le o (a4 0 k (by omega) hkn))
  ·rw [yN h1]
   have e1:n=1:=by omega
   subst e1
   exact zeu o hn (De.next o a3 hn (yF _) (fun i j h1 h2=>by omega) fun i hi=>by
    have e0:i=0:=by omega
    subst e0; exact a5 hn)
theorem zfu {p:Array Nat} {N k:Nat} (b:B p N k) (hk:k<N):∀ (f l r:Nat),r<=k->Ok lt N (kas_place p k f l r)
 | 0,_,_,_=>trivial
 | f+1,l,r,h=>by
  show Ok lt N (if l >= r then KasT.ret l else KasT.ask (p.getD k 0) (p.getD ((l+r) / 2) 0) fun c=>if c=true then kas_place p k f l ((l+r) / 2) else kas_place p k f ((l+r) / 2+1) r)
  by_cases hlr:l >= r
  ·rw [yP hlr]; trivial
  ·rw [yN hlr]
   refine ⟨b.lt (by omega) (k:=k) hk,b.lt (by omega) (k:=(l+r) / 2) (by omega),?_⟩
   show Ok lt N (if lt (g p k) (g p ((l+r) / 2))=true then kas_place p k f l ((l+r) / 2) else kas_place p k f ((l+r) / 2+1) r)
   split
   ·exact zfu b hk f _ _ (by omega)
   ·exact zfu b hk f _ _ h
theorem zmo {N:Nat}:∀ (f:Nat) (p:Array Nat) (k:Nat),k+f=N->B p N k->Srt lt p k->Ok lt N (kas_bin f p k)
 | 0,_,_,_,_,_=>trivial
 | f+1,p,k,h,b,s=>by
  refine Ok.bind (zfu o b (by omega) k 0 k (yF _)) ?_
  obtain ⟨a1,a2,a3⟩:=zk6 o s k 0 k (by omega) (yi _) (yF _) (fun i hi=>yL hi (Nat.not_lt_zero _)) fun i h1 h2=>yL h1 (by omega)
  obtain ⟨b',s'⟩:=ins o b (by omega) s a1 a2 a3
  exact zmo f _ (k+1) (by omega) b' s'
theorem ok_sort {N:Nat} (hN:1<=N):Ok lt N (kas_sort N):=by
 unfold kas_sort
 have g0:∀ k,k<N->g (List.toArray (List.range N)) k=k:=fun k hk=>by
  rw [g_eq]; simp [hk]
 have b0:B (List.toArray (List.range N)) N 1:=⟨by simp,fun k hk=>by rw [g0 k (by omega)]; exact hk,fun k h1 h2=>g0 k h2⟩
 refine Ok.bind (zli o hN b0) ?_; obtain ⟨m,p',e,h1,h2,b,s⟩:=zp0 o hN b0; rw [e]
 show Ok lt N (if m<N then kas_bin (N-max m 1) p' (max m 1) else KasT.ret p')
 split
 ·rw [Nat.max_eq_left h1]
  exact zmo o _ _ _ (by omega) b s
 ·trivial
end
theorem wp_of {lt:Nat->Nat->Bool} {N:Nat} {J:Shared->Prop} {cmp:Nat->Nat->(Bool->Shared->Prop)->Shared->Prop} (hc:∀ i j C s,i<N->j<N->J s->(∀ s',J s'->C (lt i j) s')->cmp i j C s) {α:Type} {Q:α->Shared->Prop} :
  ∀ (t:KasT α) (s:Shared),Ok lt N t->J s->(∀ s',J s'->Q (run lt t) s')->t.kasWp cmp Q s
 | .ret _,s,_,hj,h=>h s hj
 | .ask i j k,s,⟨h1,h2,h3⟩,hj,h=>hc i j _ s h1 h2 hj fun s' hj'=>wp_of hc (k (lt i j)) s' h3 hj' h
section
variable {prog:Program} {w:World} {A:Around} {E:Value->Shared->Prop} {s:Shared} {a kS:Addr} {vs ks:List Value} {κ:SortKind}
def Fin3 (a kS:Addr) (ks:List Value) (e e1:Nat) (out:List Value) (C:Shared->Prop) (s:Shared):Prop :=
 s.heap.get? kS=some (seqObj "list" ks.toArray e)/\s.heap.get? a=some (seqObj "list" #[] e1) /\
  ∀ h' c c2,(∀ b o,b≠kS->b≠a->s.heap.get? b=some o->h'.get? b=some o)->h'.objs.size=s.heap.objs.size->h'.get? kS=some (seqObj "list" #[] c)->h'.get? a=some (seqObj "list" out.toArray c2)->C { s with heap:=h' }
theorem Fin3.mono {e e1:Nat} {out:List Value} {C C':Shared->Prop} (h:Fin3 a kS ks e e1 out C s) (hc:∀ s,C s->C' s):Fin3 a kS ks e e1 out C' s :=
 ⟨h.1,h.2.1,fun h' c c2 k z x y=>hc _ (h.2.2 h' c c2 k z x y)⟩
theorem zhn {st:SortSt} {e e1:Nat} {out:List Value} {P:PySem.Fin->Shared->Prop} (ne:kS≠a) (hout:(arrOf st).map (·.2)=List.toArray out) (hz:out.length<64) (hkz:ks.length<64) (hf:failedOf st=none)
  (h:Fin3 a kS ks e e1 out (fun s'=>P (.done (.ret .none)) s') s):wpAny (model prog w) A (ksk_tail a false e1 (.ref kS) st) P E s:=by
 obtain ⟨hk,ha,k⟩:=h
 have s1:=Heap.SameBut.update s.heap kS (Obj.mapSeq fun _=>(#[]:Array Value))
 obtain ⟨ck,hck⟩:∃ ck,(s.heap.update kS (Obj.mapSeq fun _=>(#[]:Array Value))).get? kS=some (seqObj "list" #[] ck):=⟨_,get?_update_seq hk fun _=>#[]⟩
 have ha1:(s.heap.update kS (Obj.mapSeq fun _=>(#[]:Array Value))).get? a=some (seqObj "list" #[] e1):=(s1.2 a (Ne.symm ne)).trans ha
 have s2:=Heap.SameBut.update (s.heap.update kS (Obj.mapSeq fun _=>(#[]:Array Value))) a (Obj.mapSeq fun _=>List.toArray out)
 obtain ⟨c2,hc2⟩:∃ c2,((s.heap.update kS (Obj.mapSeq fun _=>(#[]:Array Value))).update a (Obj.mapSeq fun _=>List.toArray out)).get? a=some (seqObj "list" (List.toArray out) c2):=⟨_,get?_update_seq ha1 fun _=>List.toArray out⟩
 unfold ksk_tail
 try dsimp only
 rw [hout]
 refine yA (listUpdate_at hk rfl ?_ (by rw [yM,sizeLine_eq]; omega) (yi _))
 refine yA (wpAny_letGo ?_); refine yA (seqEpoch_at ha1 rfl ?_)
 refine yA (listUpdate_at ha1 rfl ?_ (yi _) (by simp only [YC,if_false]; rw [yM,sizeLine_eq]; omega))
 rw [hf]; simp only [bne_self_eq_false,YC,if_false]
 refine yE (k _ ck c2 (fun b o h1 h2 q=>(s2.2 b h2).trans ((s1.2 b h1).trans q)) (by rw [Heap.size_update,Heap.size_update]) ((s2.2 kS ne).trans hck) hc2)
theorem srt_end {e e1:Nat} {P:PySem.Fin->Shared->Prop} (ne:kS≠a) (hl:ks.length=vs.length) (h2:2<=vs.length) (h64:vs.length<64)
  (h:wpAny (model prog w) A (keyKind' (List.toArray ks)) (fun κ s'=>(kas_sort vs.length).kasWp (kas_ask prog w A κ ks) (fun p s''=>Fin3 a kS ks e e1 (p.toList.map fun i=>vs.getD i Value.none) (fun s3=>P (.done (.ret .none)) s3) s'') s') (fun _ _=>False) s) :
  wpAny (model prog w) A (ksk_end a false vs.toArray e1 (.ref kS) (List.toArray ks)) P E s:=by
 have hn2:¬ vs.toArray.size<2:=by rw [yM]; omega
 unfold ksk_end
 try dsimp only
 simp only [YC,if_false]; rw [yN hn2,yN hn2]
 refine yA (YD h (fun κ s0 hk=>?_) fun _ _ x=>x.elim)
 refine yA (YD (kat_run (Q:=fun st' s'=>∃ p:Array Nat,p.size=vs.length/\arrOf st'=p.map (kas_item ((List.toArray ks).zip (List.toArray vs)))/\failedOf st'=none /\
   Fin3 a kS ks e e1 (p.toList.map fun i=>vs.getD i Value.none) (fun s3=>P (.done (.ret .none)) s3) s')
  hl h2 h64 (fun p' st' s' a1 a2 a3 a4=>⟨p',a1,a2,a3,a4⟩) hk) ?_ fun _ _ x=>x)
 rintro ⟨⟨⟩,st'⟩ s' ⟨p,hp,har,hf,fin⟩
 try dsimp only
 exact zhn ne (kat_snds hl har) (by rw [yD,yj,hp]; exact h64) (by omega) hf fin
theorem srt_end1 {e e1:Nat} {P:PySem.Fin->Shared->Prop} (ne:kS≠a) (hl:ks.length=vs.length) (h2:vs.length<2)
  (h:Fin3 a kS ks e e1 vs (fun s3=>P (.done (.ret .none)) s3) s):wpAny (model prog w) A (ksk_end a false vs.toArray e1 (.ref kS) (List.toArray ks)) P E s:=by
 have hn2:vs.toArray.size<2:=by rw [yM]; omega
 unfold ksk_end
 try dsimp only
 simp only [YC,if_false]; rw [yP hn2,yP hn2]; refine yA (yE ?_); refine yA (m:=StateT.run (pure ()) _) (yE ?_)
 try dsimp only
 refine zhn ne ?_ (by omega) (by omega) rfl h
 apply Array.toList_inj.mp
 show (((List.toArray ks).zip (List.toArray vs)).map (·.2)).toList=_
 rw [Array.toList_map,ksk_zip]
 clear h hn2
 cases vs with
 | nil =>
  cases ks with
  | nil=>rfl
  | cons k r=>simp at hl
 | cons v r =>
  cases r with
  | cons v2 r=>exact yL h2 (by simp)
  | nil =>
   cases ks with
   | nil=>simp at hl
   | cons k r =>
    cases r with
    | nil=>rfl
    | cons k2 r=>simp at hl
theorem zho {f:Value} {n:Nat} {body:Value->PUnit->Sem (ForInStep PUnit)} (J:List Value->Nat->Shared->Prop) (hn:n<64) (all:List Value) (hall:all.length=n)
  (hb:∀ x ks e (s:Shared) (C:Value->Nat->Shared->Prop),List.length ks<64->wpAny (model prog w) A (call f [x]) (fun k s'=>s'.heap.get? kS=some (seqObj "list" ks.toArray e)/\∀ c,(s'.heap.update kS (Obj.mapSeq (·.push k))).get? kS=some (seqObj "list" (List.toArray (ks ++ [k])) c)->C k c { s' with heap:=s'.heap.update kS (Obj.mapSeq (·.push k)) }) (fun _ _=>False) s ->
   wpAny (model prog w) A (body x ⟨⟩) (fun r s'=>r=.yield ⟨⟩/\∃ k c,C k c s') E s)
  (step:∀ ks e s x,all[ks.length]?=some x->J ks e s->wpAny (model prog w) A (call f [x]) (fun k s'=>s'.heap.get? kS=some (seqObj "list" ks.toArray e)/\∀ c,(s'.heap.update kS (Obj.mapSeq (·.push k))).get? kS=some (seqObj "list" (List.toArray (ks ++ [k])) c)->J (ks ++ [k]) c { s' with heap:=s'.heap.update kS (Obj.mapSeq (·.push k)) }) (fun _ _=>False) s) :
  ∀ (r ks:List Value) (e:Nat) (s:Shared),all.drop ks.length=r->ks.length<=n->J ks e s ->
   wpAny (model prog w) A (forIn r PUnit.unit body) (fun _ s'=>∃ ks e,ks.length=n/\J ks e s') E s
 | [],ks,e,s,hl,hle,h=>by
  rw [List.forIn_nil]
  have:all.length<=ks.length:=List.drop_eq_nil_iff.mp hl
  exact yE ⟨ks,e,by omega,h⟩
 | x :: r,ks,e,s,hl,hle,h=>by
  rw [List.forIn_cons]
  have hx:all[ks.length]?=some x:=by
   have:=yc (fun l=>l[0]?) hl
   simpa using this
  have hlt:ks.length<n:=by rw [<- hall]; exact (yG.mp hx).1
  refine yA (YD (hb x ks e s (fun k c s'=>J (ks ++ [k]) c s') (by omega) (step ks e s x hx h)) (fun q s' hq=>?_) fun _ _ x=>x)
  obtain ⟨rfl,k,c,h2⟩:=hq
  show wpAny (model prog w) A (forIn r PUnit.unit body) _ E s'
  refine zho J hn all hall hb step r (ks ++ [k]) c s' ?_ (by rw [yQ,YT]; omega) h2
  rw [yQ,YT,<- List.drop_drop,hl]; rfl
theorem srt_rest {f:Value} {e1:Nat} {P:PySem.Fin->Shared->Prop} (J:List Value->Nat->Shared->Prop) (h64:vs.length<64) (hJ:∀ ks e s,J ks e s->s.heap.get? kS=some (seqObj "list" ks.toArray e))
  (step:∀ ks e s x,vs[ks.length]?=some x->J ks e s->wpAny (model prog w) A (call f [x]) (fun k s'=>s'.heap.get? kS=some (seqObj "list" ks.toArray e)/\∀ c,(s'.heap.update kS (Obj.mapSeq (·.push k))).get? kS=some (seqObj "list" (List.toArray (ks ++ [k])) c)->J (ks ++ [k]) c { s' with heap:=s'.heap.update kS (Obj.mapSeq (·.push k)) }) (fun _ _=>False) s)
  (fin:∀ ks e s,ks.length=vs.length->J ks e s->wpAny (model prog w) A (ksk_end a false vs.toArray e1 (.ref kS) (List.toArray ks)) P E s) (h0:J [] 0 s) :
  wpAny (model prog w) A (ksk_rest a f false vs.toArray e1 (.ref kS)) P E s:=by
 unfold ksk_rest; refine yA (wpAny_rule ?_)
 first
  | rw [List.forIn_toArray]
  | (rw [<- Array.forIn_toList]; simp only [List.toList_toArray])
  | rw [<- Array.forIn_toList]
 refine yA (YD (zho (f:=f) (kS:=kS) J h64 vs rfl (fun x ks e s' C hz hx=>?_) step vs [] 0 s rfl (yi _) h0) (fun _ s' hd=>?_) fun _ _ x=>x)
 ·refine yA (wpAny_attempt (YD hx (fun k s'' hk=>?_) fun _ _ hF=>hF.elim))
  obtain ⟨nk,c⟩:=hk
  have ea:(List.toArray ks).push k=List.toArray (ks ++ [k]):=by simp
  obtain ⟨c2,hc2⟩:∃ c2,(s''.heap.update kS (Obj.mapSeq (·.push k))).get? kS=some (seqObj "list" (List.toArray (ks ++ [k])) c2):=⟨_,by rw [<- ea]; exact get?_update_seq nk (·.push k)⟩
  try dsimp only
  refine yA (listUpdate_at nk rfl ?_ (by rw [yM,sizeLine_eq]; omega) (yu (Nat.le_of_eq (Array.size_push ..)) (by rw [yM,sizeLine_eq]; omega)))
  exact yE ⟨rfl,k,c2,c c2 hc2⟩
 ·obtain ⟨ks,e,hl,fj⟩:=hd
  try dsimp only
  refine yA (listItems_at (hJ _ _ _ fj) rfl ?_); exact fin ks e s' hl fj
theorem srt_tree {f:Value} {n:Nat} {P:PySem.Fin->Shared->Prop} (ho:s.heap.get? a=some (seqObj "list" vs.toArray n)) (h64:vs.length<64)
  (h:∀ e1 h',(∀ b o,b≠a->s.heap.get? b=some o->h'.get? b=some o)->h'.objs.size=s.heap.objs.size+2->h'.get? (s.heap.objs.size+1)=some (seqObj "list" #[] 0)->h'.get? a=some (seqObj "list" #[] e1) ->
   wpAny (model prog w) A (ksk_rest a f false vs.toArray e1 (.ref (s.heap.objs.size+1))) P E { s with heap:=h' }) :
  wpAny (model prog w) A (ksk_tree a f false) P E s:=by
 have ha:a<s.heap.objs.size:=yJ ho
 have s1:=Heap.SameBut.update s.heap a (Obj.mapSeq fun _=>(#[]:Array Value))
 obtain ⟨e1,ho1⟩:∃ e1,(s.heap.update a (Obj.mapSeq fun _=>(#[]:Array Value))).get? a=some (seqObj "list" #[] e1):=⟨_,get?_update_seq ho fun _=>#[]⟩
 have hkS:((s.heap.update a (Obj.mapSeq fun _=>(#[]:Array Value))).push (seqObj "tuple" vs.toArray 0)).objs.size=s.heap.objs.size+1:=by rw [size_push',Heap.size_update]
 unfold ksk_tree; refine yA (listItems_at ho rfl ?_)
 refine yA (listUpdate_at ho rfl ?_ (by rw [yM,sizeLine_eq]; omega) (yi _))
 refine yA (seqEpoch_at ho1 rfl ?_)
 refine yA (wpAny_newTuple ?_ (by show vs.length<=_; rw [sizeLine_eq]; omega))
 refine yA (wpAny_newList ?_ (yi _)); refine YO ?_
 have h':=h e1 (((s.heap.update a (Obj.mapSeq fun _=>(#[]:Array Value))).push (seqObj "tuple" vs.toArray 0)).push (seqObj "list" #[] 0)) (fun b o hb q=>yB _ (yB _ ((s1.2 b hb).trans q)))
  (by rw [size_push',hkS]) (by rw [<- hkS]; exact yK _ rfl) (yB _ (yB _ ho1))
 rw [<- hkS] at h'; exact h'
end
end So
namespace L2
open PySem PySem.Spec PyProof.Rows PySem.W
section
variable {X:Cx} {pins:List (Addr × Obj)} {σ:St} {H:Hp} {s:Shared} {h':Heap}
theorem Inv.turnedOwn {t':Nat} {ch:List Addr} {p:Addr} {o:HO} (I:Inv X pins σ H s) (hch:∀ b ∈ ch,zfL X pins H b) (hp:p ∈ ch) (k:∀ b u,b ∉ ch->s.heap.get? b=some u->h'.get? b=some u) (new:zbv X.prog X.w (upd H p o) h' p o) :
  Inv X pins σ (upd H p o) { s with heap:=h',toks:=t' }:=by
 have fr:H p=none:=(hch p hp).1
 have sm:∀ b u,H b=some u->upd H p o b=some u:=fun b u e=>by rw [zU (zaH e fr)]; exact e
 have nch:∀ b u,H b=some u->b ∉ ch:=fun b u e z=>by rw [(hch b z).1] at e; cases e
 refine I.step (g':=s.gens) (d':=s.drawn) (ch:=ch) (fun b hb=>?_) (fun b u _ _ hc e _=>k b u hc e) (fun b u _ _ hc e _=>⟨u.slots,k b u hc e⟩) (fun b u hc e n=>?_) (fun b u hc e=>⟨u,k b u hc e⟩) (fun b xs e=>sm _ _ e) (fun b ob u e=>sm _ _ e) (fun b ps e=>⟨#[],by rw [sm _ _ e]; simp⟩) (fun m hm=>?_) (fun b u e=>?_) I.bare
 ·obtain ⟨_,y1,_,y3,y4,y5⟩:=hch b hb
  exact ⟨y3,y1,y4,y5⟩
 ·rw [zU (fun z=>hc (by rw [z]; exact hp))]
  exact n
 ·obtain ⟨ob,es,ep,ho,r⟩:=hm
  exact ⟨ob,es,ep,k _ ob (fun z=>(hch _ z).2.1 rfl) ho,r⟩
 ·by_cases z:b=p
  ·subst z
   rw [zw] at e; cases e; exact new
  ·rw [zU z] at e
   refine (I.hok b u e).stay (fun c v hc q=>k c v ?_ q) (fun c q=>sm _ _ q) fun c xs q=>sm _ _ q
   rcases hc with rfl | hc
   ·exact nch _ u e
   ·exact nch c _ hc
theorem zm1 {A':Around} {k:Nat} {f:Addr} {fd:FuncData} {ps:List Str} {sp:Sp} {Q:VK} {us:List Value} {vs:List V} (F:FnOk X.prog X.w X.K X.mg X.base CX0 k f fd ps sp) (hr:Room k A') (hA:Env0 X.prog X.w X.K X.mg X.base A' X.stack s H) (hb:zd4 X.K fd ps [])
  (I:Inv X pins σ H s) (r:zaT vs us) (h:sp vs H Q E0):wpAny (model X.prog X.w) A' (call (.ref f) us) (EP X pins σ Q) (fun _ _=>False) s:=by
 have hl:(us ++ []).length=ps.length:=by rw [yf,<- r.length]; exact F.len _ _ _ _ h
 have hb':=hb s us I.kIn hl; rw [yf] at hb'
 refine wpAny_call (codeAny_mono (F.run A' X.stack s H ⟨us,[]⟩ us vs Q E0 hr hA hb' r h) fun r s' hq=>?_)
 cases r with
 | error e=>exact hq.elim
 | ok fl =>
  cases fl with
  | ret u=>exact I.after hq
  | next=>exact False.elim hq
  | brk=>exact False.elim hq
  | cont=>exact False.elim hq
def zop (sp:Sp) (Fin:List V->Hp->Prop):List V->List V->Hp->Prop
 | [],ks,H=>Fin ks H
 | v :: r,ks,H=>sp [v] H (fun k H'=>zop sp Fin r (ks ++ [k]) H') E0
def ziF (X:Cx) (ks:List V) (H:Hp) (lt:Nat->Nat->Bool):Prop:=∀ (A':Around) (pins:List (Addr × Obj)) (σ:St) (s:Shared) (kss:List Value),Inv X pins σ H s->zaT ks kss->2<=ks.length ->
 wpAny (model X.prog X.w) A' (keyKind' kss.toArray) (fun κ s'=>Inv X pins σ H s'/\∀ (i j:Nat) (C:Bool->Shared->Prop) s'',i<ks.length->j<ks.length->Inv X pins σ H s''->(∀ s3,Inv X pins σ H s3->C (lt i j) s3)->kas_ask X.prog X.w A' κ kss i j C s'') (fun _ _=>False) s
def zd1 (lt:Nat->Nat->Bool) (xs:List V):List V:=if xs.length<2 then xs else (So.run lt (kas_sort xs.length)).toList.map fun i=>xs.getD i .non
theorem zgk {xs:List V} {us:List Value} (r:zaT xs us) (i:Nat) (hi:i<xs.length):zbh (xs.getD i .non) (us.getD i Value.none):=by
 have hl:=r.length; obtain ⟨u,hu,ru⟩:=r.get (yC hi); simp only [List.getD,yC hi,Option.getD_some]; rw [hu]; exact ru
theorem zhi {xs:List V} {us:List Value} (r:zaT xs us):∀ (l:List Nat),(∀ i,i ∈ l->i<xs.length)->zaT (l.map fun i=>xs.getD i .non) (l.map fun i=>us.getD i Value.none)
 | [],_=>.nil
 | i :: l,h=>.cons (zgk r i (h i (by simp))) (zhi r l fun j hj=>h j (by simp [hj]))
theorem zff {lt:Nat->Nat->Bool} (o:So.Ord lt) {n:Nat} (hn:1<=n):((So.run lt (kas_sort n)).toList.length=n)/\∀ i,i ∈ (So.run lt (kas_sort n)).toList->i<n:=by
 obtain ⟨b,_⟩:=So.sort o hn
 refine ⟨by rw [yj]; exact b.size,fun i hi=>?_⟩
 obtain ⟨k,hk,e⟩:=List.getElem_of_mem hi
 have hk':k<(So.run lt (kas_sort n)).size:=by simpa using hk
 have:=b.low k (by rw [b.size] at hk'; exact hk')
 rw [So.g_eq] at this; simp only [Array.getElem_toList] at e; rw [ye hk',e] at this; exact this
theorem zgy {f:Addr} {sp:Sp} {l:Addr} {xs:List V} {Q:VK} {E':Value->Shared->Prop}
  (hrun:∀ (pins':List (Addr × Obj)) (H':Hp) (s':Shared) (x:V) (u:Value) (Q':VK),Inv X pins' σ H' s'->zbh x u->sp [x] H' Q' E0->wpAny (model X.prog X.w) X.A.in1.in1 (call (.ref f) [u]) (EP X pins' σ Q') (fun _ _=>False) s')
  (I:Inv X pins σ H s) (hl:SqL X.K H l xs) (h64:xs.length<64)
  (h:zop sp (fun ks H'=>∃ lt,So.Ord lt/\ziF X ks H' lt/\∀ p,H' p=none->Q (.ref p) (upd H' p (.lst (zd1 lt xs)))) xs [] H) :
  wpAny (model X.prog X.w) X.A (call (.builtin "sorted") [.ref l] [(Str.ofString "key",.ref f)]) (EP X pins σ Q) E' s:=by
 obtain ⟨vs,rv,pl,hz⟩:=I.list hl; have hlen:=rv.length
 have h64':vs.length<64:=by omega
 refine call_function_entry_kw kind_sorted plain_sorted entry_sorted (ksk_s1 _ _) ?_
 unfold Builtin.«sorted»
 refine yA (m:=checkCount "sorted" 1 1 _) (yE ?_)
 refine yA (collect_list (zk5 pl) ?_ (by rw [sizeLine_eq]; omega))
 refine yA (wpAny_newList ?_ (by rw [sizeLine_eq]; omega))
 have hsz:((s.heap.push (seqObj "list" #[] 0)).update s.heap.objs.size (Obj.mapSeq (· ++ vs.toArray))).objs.size=s.heap.objs.size+1:=by
  rw [Heap.size_update,size_push']
 have hoL:(((s.heap.push (seqObj "list" #[] 0)).update s.heap.objs.size (Obj.mapSeq (· ++ vs.toArray))).push (seqObj "list" vs.toArray 0)).get? (s.heap.objs.size+1)=some (seqObj "list" vs.toArray 0):=by
  rw [<- hsz]; exact yK _ rfl
 have hsz2:(((s.heap.push (seqObj "list" #[] 0)).update s.heap.objs.size (Obj.mapSeq (· ++ vs.toArray))).push (seqObj "list" vs.toArray 0)).objs.size=s.heap.objs.size+2:=by rw [size_push',hsz]
 have keep:∀ b o,s.heap.get? b=some o->(((s.heap.push (seqObj "list" #[] 0)).update s.heap.objs.size (Obj.mapSeq (· ++ vs.toArray))).push (seqObj "list" vs.toArray 0)).get? b=some o:=fun b o q=>by
  have hlt:b<s.heap.objs.size:=yJ q
  rw [Heap.get?_push_ne _ _ _ (by rw [hsz]; exact yS (Nat.lt_succ_of_lt hlt)),Heap.get?_update_ne _ _ _ _ (yS hlt),Heap.get?_push_ne _ _ _ (yS hlt)]
  exact q
 show wpAny _ _ _ _ _ { s with heap:=((s.heap.push (seqObj "list" #[] 0)).update s.heap.objs.size (Obj.mapSeq (· ++ vs.toArray))).push (seqObj "list" vs.toArray 0) }
 rw [hsz]; refine yA (YO (wpAny_call_entry_kw slot_list_sort ⟨_,hoL,rfl⟩ entry_list_sort ?body (ksk_l1 _ _)))
 case body =>
  show wpAny (model X.prog X.w) X.A.in1.in1 (Builtin.«list.sort» ⟨[.ref (s.heap.objs.size+1)],[(Str.ofString "key",.ref f)]⟩) _ _ _
  rw [ksk_t1]
  refine So.srt_tree (s:={ s with heap:=((s.heap.push (seqObj "list" #[] 0)).update s.heap.objs.size (Obj.mapSeq (· ++ vs.toArray))).push (seqObj "list" vs.toArray 0) }) hoL h64' fun e1 h' keep' size' hk0 ha0=>?_
  dsimp only at keep' size' hk0
  rw [hsz2] at size' hk0
  have hDk:s.heap.objs.size+2+1≠s.heap.objs.size+1:=by omega
  have hD0:s.heap.objs.size<=s.heap.objs.size+1:=by omega
  have hK0:s.heap.objs.size<=s.heap.objs.size+2+1:=by omega
  have fD:=I.fpOk (H':=H) hD0 (I.hok.fresh hD0); have fK:=I.fpOk (H':=H) hK0 (I.hok.fresh hK0); rw [hsz2]; generalize hkS:s.heap.objs.size+2+1=kS at hk0 hDk fK; generalize hDD:s.heap.objs.size+1=D at ha0 hDk fD
  have I0:Inv X pins σ H { s with heap:=h' }:=I.kept (t':=s.toks) fun b u q=>keep' b u (fun z=>yL (yJ q) (by rw [z]; exact Nat.not_lt.mpr (Nat.le_succ _))) (keep b u q)
  have pin2:∀ {H':Hp} {s':Shared} {ks:List Value} {e:Nat},Inv X pins σ H' s'->s'.heap.get? kS=some (seqObj "list" ks.toArray e)->s'.heap.get? D=some (seqObj "list" #[] e1)->H' kS=none->H' D=none->Inv X ((kS,seqObj "list" ks.toArray e) :: (D,seqObj "list" #[] e1) :: pins) σ H' s':=fun I' g1 g2 n1 n2 =>
   I'.pins_of fun p hp=>by
    rcases yO.mp hp with rfl | hp
    ·exact ⟨g1,n1,fK.2.1,fK.2.2.1,fun v z=>by cases z⟩
    ·rcases yO.mp hp with rfl | hp
     ·exact ⟨g2,n2,fD.2.1,fD.2.2.1,fun v z=>by cases z⟩
     ·exact I'.pin p (yY _ hp)
  have unpin:∀ {H':Hp} {s':Shared} {ks:List Value} {e:Nat},Inv X ((kS,seqObj "list" ks.toArray e) :: (D,seqObj "list" #[] e1) :: pins) σ H' s'->Inv X pins σ H' s'/\(s'.heap.get? kS=some (seqObj "list" ks.toArray e)/\H' kS=none)/\(s'.heap.get? D=some (seqObj "list" #[] e1)/\H' D=none):=fun I'=>by
   have p1:=I'.pin (kS,_) (yY _ (.head _)); have p2:=I'.pin (D,_) (yY _ (.tail _ (.head _)))
   exact ⟨I'.pins_of fun p hp=>I'.pin p (yY _ (.tail _ (.tail _ hp))),⟨p1.1,p1.2.1⟩,⟨p2.1,p2.2.1⟩⟩
  have fin3:∀ {H':Hp} {s':Shared} {ks:List Value} {e:Nat} {ys:List V} {out:List Value},Inv X ((kS,seqObj "list" ks.toArray e) :: (D,seqObj "list" #[] e1) :: pins) σ H' s'->zaT ys out->ys.length<64->(∀ p,H' p=none->Q (.ref p) (upd H' p (.lst ys)))->So.Fin3 D kS ks e e1 out (EP X pins σ Q (.ref D)) s':=fun {H' s' ks e ys out} I' r hy hq=>by
   obtain ⟨I2,⟨g1,n1⟩,⟨g2,n2⟩⟩:=unpin I'
   refine ⟨g1,g2,fun h2 c c2 kp sz q1 q2=>⟨.ref D,upd H' D (.lst ys),?_,rfl,hq D n2⟩⟩
   refine I2.turnedOwn (t':=s'.toks) (ch:=[kS,D]) (fun b hb=>?_) (by simp) (fun b u hb e=>kp b u (fun z=>hb (by simp [z])) (fun z=>hb (by simp [z])) e) ⟨by rw [sizeLine_eq]; omega,out,c2,r,q2⟩
   simp at hb
   rcases hb with rfl | rfl
   ·exact ⟨n1,fK.2⟩
   ·exact ⟨n2,fD.2⟩
  refine So.srt_rest (J:=fun ks e s'=>∃ (kv:List V) (H':Hp),zaT kv ks/\Inv X ((kS,seqObj "list" ks.toArray e) :: (D,seqObj "list" #[] e1) :: pins) σ H' s'/\zop sp (fun ks H'=>∃ lt,So.Ord lt/\ziF X ks H' lt/\∀ p,H' p=none->Q (.ref p) (upd H' p (.lst (zd1 lt xs)))) (xs.drop ks.length) kv H') h64' ?_ ?_ ?_ ?_
  ·rintro ks e s' ⟨kv,H',_,I',_⟩
   exact (unpin I').2.1.1
  ·rintro ks e s' x hx ⟨kv,H',rk,I',hk⟩
   have hlt:ks.length<xs.length:=by rw [hlen]; exact (yG.mp hx).1
   obtain ⟨x',hx',rx⟩:=rv.get (yC hlt); rw [hx] at hx'; cases hx'; rw [YF hlt] at hk
   refine YD (hrun _ _ _ _ _ _ I' rx hk) (fun kk s3 he=>?_) fun _ _ z=>z
   obtain ⟨v,H3,I3,r3,hk3⟩:=he
   obtain ⟨I4,⟨g1,n1⟩,⟨g2,n2⟩⟩:=unpin I3
   refine ⟨g1,fun c hc=>⟨kv ++ [v],H3,rk.append (.cons r3 .nil),?_,?_⟩⟩
   ·have sb:=Heap.SameBut.update s3.heap kS (Obj.mapSeq (·.push kk))
    have I5:Inv X pins σ H3 { s3 with heap:=s3.heap.update kS (Obj.mapSeq (·.push kk)) }:=I4.turned (t':=s3.toks) (it:=kS) (fun b o hb e=>(sb.2 b hb).trans e) n1 fK.2.1 fK.2.2.2.1 fK.2.2.2.2.1 fK.2.2.2.2.2
    exact pin2 I5 hc ((sb.2 D (fun z=>hDk z.symm)).trans g2) n1 n2
   ·rw [yQ,YT]
    exact hk3
  ·rintro ks e s' hkl ⟨kv,H',rk,I',hk⟩
   have hkl2:kv.length=xs.length:=by rw [rk.length,hkl,hlen]
   rw [show xs.drop ks.length=[] from YN (by omega)] at hk
   obtain ⟨lt,od,cmp,hq⟩:=hk
   by_cases hn:vs.length<2
   ·refine So.srt_end1 hDk hkl hn ((fin3 (ys:=zd1 lt xs) I' ?_ ?_ hq).mono fun s4 hq=>⟨_,rfl,yE ⟨_,rfl,hq⟩⟩)
    ·unfold zd1
     rw [yP (by omega)]
     exact rv
    ·unfold zd1
     rw [yP (by omega)]
     exact h64
   ·have hN:1<=vs.length:=by omega
    have hsm:=zff od hN
    refine So.srt_end (e:=e) hDk hkl (by omega) h64' (YD (cmp X.A.in1.in1 _ σ s' ks I' rk (by omega)) (fun κ s3 hc=>?_) fun _ _ z=>z)
    obtain ⟨I3,hc⟩:=hc
    refine So.wp_of (lt:=lt) (N:=vs.length) (J:=fun s=>Inv X ((kS,seqObj "list" ks.toArray e) :: (D,seqObj "list" #[] e1) :: pins) σ H' s) (fun i j C s4 hi hj I4 hC=>hc i j C s4 (by omega) (by omega) I4 hC) (kas_sort vs.length) s3 (So.ok_sort od hN) I3 fun s4 I4=>?_
    refine (fin3 (ys:=zd1 lt xs) I4 ?_ ?_ hq).mono fun s4 hq=>⟨_,rfl,yE ⟨_,rfl,hq⟩⟩
    ·unfold zd1
     rw [yN (by omega),hlen]
     exact zhi rv _ fun i hi=>by rw [hlen]; exact hsm.2 i hi
    ·unfold zd1
     rw [yN (by omega),yD,hlen,hsm.1]
     exact h64'
  ·exact ⟨[],H,.nil,pin2 I0 hk0 ha0 fK.1 fD.1,h⟩
theorem zgz {k:Nat} {f:Addr} {fd:FuncData} {ps:List Str} {sp:Sp} {l:Addr} {xs:List V} {Q:VK} {E':Value->Shared->Prop} (F:FnOk X.prog X.w X.K X.mg X.base CX0 k f fd ps sp) (hr:Room (k+2) X.A) (hb:zd4 X.K fd ps []) (I:Inv X pins σ H s) (hl:SqL X.K H l xs) (h64:xs.length<64)
  (h:zop sp (fun ks H'=>∃ lt,So.Ord lt/\ziF X ks H' lt/\∀ p,H' p=none->Q (.ref p) (upd H' p (.lst (zd1 lt xs)))) xs [] H) :
  wpAny (model X.prog X.w) X.A (call (.builtin "sorted") [.ref l] [(Str.ofString "key",.ref f)]) (EP X pins σ Q) E' s :=
 zgy (fun _ _ _ _ _ _ I' rx hk=>zm1 F hr.in1.in1 I'.env0.in1.in1 hb I' (.cons rx .nil) hk) I hl h64 h
end
section
variable {X:Cx}
def ltI (is:List Int):Nat->Nat->Bool:=fun i j=>decide (is.getD i 0<is.getD j 0)
theorem zrh (is:List Int):So.Ord (ltI is):=⟨fun a b h=>by
  unfold ltI at h ⊢
  simp at h ⊢
  omega,fun a b c h1 h2=>by
  unfold ltI at h1 h2 ⊢
  simp at h1 h2 ⊢
  omega⟩
theorem zhJ:∀ {is:List Int} {us:List Value},zaT (is.map V.int) us->IntsAre us is
 | [],_,.nil=>.nil
 | i :: is,_,.cons r t=>by
  obtain ⟨tk,rfl⟩:=r; exact .cons i tk (zhJ t)
theorem zrK (is:List Int) {H:Hp}:ziF X (is.map V.int) H (ltI is):=by
 intro A' pins σ s kss I r h2; rw [yD] at h2; have hi:=zhJ r
 have hl:kss.length=is.length:=by have:=r.length; simpa using this.symm
 rw [ksk_kind (keys:=kss.toArray) (kz:=is) (by simpa using hi) (by rw [yM]; omega)]
 refine yE ⟨I,fun i j C s'' h1 h2 I2 hC=>?_⟩
 rw [yD] at h1 h2; unfold kas_ask
 have g:∀ i,i<is.length->∃ t,kss.getD i Value.none=.int (is.getD i 0) t:=fun i h=>by
  have:=zgk r i (by rw [yD]; exact h)
  rw [show (is.map V.int).getD i .non=V.int (is.getD i 0) by simp [List.getD,yH,yC h]] at this
  exact this
 obtain ⟨t1,e1⟩:=g i h1; obtain ⟨t2,e2⟩:=g j h2; rw [e1,e2]; exact kat_lt_int (hC _ I2)
def ltP (ps:List (Int × List Nat)):Nat->Nat->Bool:=fun i j=>decide ((ps.getD i (0,[])).1<(ps.getD j (0,[])).1\/((ps.getD i (0,[])).1=(ps.getD j (0,[])).1/\(ps.getD i (0,[])).2<(ps.getD j (0,[])).2))
theorem zgX (ps:List (Int × List Nat)):So.Ord (ltP ps):=⟨fun a b h=>by
  unfold ltP at h ⊢
  simp only [YA,decide_eq_false_iff_not] at h ⊢; generalize ps.getD a (0,[])=x at h ⊢; generalize ps.getD b (0,[])=y at h ⊢
  rintro (h' | ⟨h',h''⟩)
  ·rcases h with h | ⟨h,_⟩ <;> omega
  ·rcases h with h | ⟨_,h⟩
   ·omega
   ·exact List.lt_irrefl _ (List.lt_trans h h''),fun a b c h1 h2=>by
  unfold ltP at h1 h2 ⊢
  simp only [decide_eq_false_iff_not,not_or,not_and] at h1 h2 ⊢; generalize ps.getD a (0,[])=x at h1 h2 ⊢; generalize ps.getD b (0,[])=y at h1 h2 ⊢; generalize ps.getD c (0,[])=z at h1 h2 ⊢
  refine ⟨by omega,fun e=>?_⟩
  have e1:y.1=x.1:=by omega
  have e2:z.1=y.1:=by omega
  have q1:=h1.2 e1; have q2:=h2.2 e2; intro q; rw [List.not_lt] at q1 q2; exact yL q (List.not_lt.mpr (List.le_trans q1 q2))⟩
def zoq (H:Hp):List Addr->List (Int × List Nat)->Prop:=Paired fun a p=>H a=some (.tup [.int p.1,.str (st p.2)])
theorem zg9 {s:Shared} {pins:List (Addr × Obj)} {σ:St} {H:Hp} (I:Inv X pins σ H s) {a:Addr} {p:Int × List Nat} (h:H a=some (.tup [.int p.1,.str (st p.2)])) :
  ∃ o n t1 t2,s.heap.get? a=some o/\o.cls=.type "tuple"/\o.data=.seq (List.toArray [Value.int p.1 t1,Value.str (st p.2) t2]) n:=by
 obtain ⟨its,r,⟨o,e,c,n,d⟩,_⟩:=I.tuple (SqT.of h)
 obtain ⟨u,w',rfl,r1,r2⟩:=zmO r; obtain ⟨t1,rfl⟩:=r1; obtain ⟨t2,rfl⟩:=r2; exact ⟨o,n,t1,t2,e,c,d⟩
theorem zpE {s:Shared} {pins:List (Addr × Obj)} {σ:St} {H:Hp} (I:Inv X pins σ H s):∀ {as:List Addr} {ps:List (Int × List Nat)},zoq H as ps->∃ fs:List Value,fs.length=as.length/\KatTups s.heap (as.map Value.ref) fs/\∀ v,v ∈ fs->∃ i t,v=Value.int i t
 | [],[],_=>⟨[],rfl,trivial,fun _ z=>by simp at z⟩
 | a :: as,p :: ps,.cons h t=>by
  obtain ⟨fs,hl,kt,hf⟩:=zpE I t; obtain ⟨o,n,t1,t2,e,c,d⟩:=zg9 I h
  refine ⟨.int p.1 t1 :: fs,by simp [hl],KatTups.cons e c d rfl kt,fun v hv=>?_⟩
  rcases yO.mp hv with rfl | hv
  ·exact ⟨_,_,rfl⟩
  ·exact hf v hv
theorem zhv:∀ {as:List Addr} {us:List Value},zaT (as.map V.ref) us->us=as.map Value.ref
 | [],_,.nil=>rfl
 | a :: as,_,.cons r t=>by rw [zhv t]; cases r; rfl
theorem zfA {H:Hp}:∀ {as:List Addr} {ps:List (Int × List Nat)} (i:Nat),zoq H as ps->i<as.length->H (as.getD i 0)=some (.tup [.int (ps.getD i (0,[])).1,.str (st (ps.getD i (0,[])).2)])
 | _ :: _,_ :: _,0,.cons h _,_=>h
 | _ :: _,_ :: _,i+1,.cons _ t,hi=>by
  have:=zfA i t (by simpa using hi)
  simpa using this
theorem zrJ {H:Hp} {as:List Addr} {ps:List (Int × List Nat)} (k:zoq H as ps):ziF X (as.map V.ref) H (ltP ps):=by
 intro A' pins σ s kss I r h2; rw [yD] at h2; have e:=zhv r; subst e; obtain ⟨fs,hl,kt,hf⟩:=zpE I k
 refine kat_kind (T:=.type "int") kt (by omega) (fun v hv=>?_) rfl ⟨I,fun i j C s'' h1 h2 I2 hC=>?_⟩
 ·obtain ⟨i,t,rfl⟩:=hf v hv
  exact Looks.of_pure rfl
 ·rw [yD] at h1 h2
  unfold kas_ask
  have g:∀ i,i<as.length->(as.map Value.ref).getD i Value.none=.ref (as.getD i 0):=fun i h=>by simp [List.getD,yH,yC h]
  rw [g i h1,g j h2]; obtain ⟨o,n,t1,t2,e1,c1,d1⟩:=zg9 I2 (zfA i k h1); obtain ⟨o',n',t1',t2',e1',c1',d1'⟩:=zg9 I2 (zfA j k h2); unfold ltP at hC; generalize ps.getD i (0,[])=p at *; generalize ps.getD j (0,[])=q at *; refine kat_lt e1 d1 e1' d1' ?_; refine kat_cons (wpAny_eqBool_int ?_)
  refine kat_go (fun he=>kat_yes (kat_cons (wpAny_eqBool_str (kat_go (fun he2=>kat_yes (kat_nil ?_)) fun he2=>kat_no ?_)))) fun he=>kat_no ?_
  ·have e1:p.1=q.1:=by simpa using he
   have e2:st p.2=st q.2:=by simpa using he2
   have e3:p.2=q.2:=by rw [<- zaN p.2,e2,zaN]
   have hz:=hC _ I2
   rw [show decide (p.1<q.1\/p.1=q.1/\p.2<q.2)=false by rw [e1,e3]; simp] at hz
   exact hz
  ·have e1:p.1=q.1:=by simpa using he
   have hz:=hC _ I2; refine kat_one _ _ (lt_str ?_)
   show C (decide ((st p.2).cps.toList<(st q.2).cps.toList)) s''
   simp only [zaN]
   rw [show decide (p.1<q.1\/p.1=q.1/\p.2<q.2)=decide (p.2<q.2) by rw [e1]; simp] at hz
   exact hz
  ·have e1:¬ p.1=q.1:=by simpa using he
   have hz:=hC _ I2; refine oneLt_int ?_
   rw [show decide (p.1<q.1\/p.1=q.1/\p.2<q.2)=decide (p.1<q.1) by simp [e1]] at hz
   exact hz
end
end L2
namespace PL
open PySem L2
def zrZ (ks:List D) (lt:Nat->Nat->Bool):Prop:=(∃ is:List Int,ks=is.map .int/\lt=ltI is)\/∃ ps:List (Int × List Nat),ks=ps.map (fun p=>.tup [.int p.1,.str p.2])/\lt=ltP ps
def zh8 (lt:Nat->Nat->Bool) (ds:List D):List D:=if ds.length<2 then ds else (So.run lt (W.kas_sort ds.length)).toList.map fun i=>ds.getD i .non
theorem zrZ.ord {ks:List D} {lt:Nat->Nat->Bool} (h:zrZ ks lt):So.Ord lt:=by
 rcases h with ⟨is,_,rfl⟩ | ⟨ps,_,rfl⟩
 ·exact zrh is
 ·exact zgX ps
theorem zgp {K:W.Frag} {H:Hp}:∀ {vs:List V} {is:List Int},zbI K H vs (is.map .int)->vs=is.map V.int
 | [],[],_=>rfl
 | v :: vs,i :: is,.cons r t=>by rw [r.intI,zgp t]; rfl
 | [],_ :: _,h=>nomatch h
 | _ :: _,[],h=>nomatch h
theorem zgo {K:W.Frag} {H:Hp}:∀ {vs:List V} {ps:List (Int × List Nat)},zbI K H vs (ps.map fun p=>.tup [.int p.1,.str p.2])->∃ as:List Addr,vs=as.map V.ref/\zoq H as ps
 | [],[],_=>⟨[],rfl,.nil⟩
 | v :: vs,p :: ps,.cons r t=>by
  obtain ⟨as,rfl,k⟩:=zgo t; obtain ⟨a,us,rfl,ha,dl⟩:=r.tupJ; obtain ⟨v1,v2,rfl,d1,d2⟩:=ziy dl; rw [d1.intI,d2.strI] at ha; exact ⟨a :: as,rfl,.cons ha k⟩
 | [],_ :: _,h=>nomatch h
 | _ :: _,[],h=>nomatch h
theorem zgg {H H':Hp} (e:zaM H H'):∀ {as:List Addr} {ps:List (Int × List Nat)},zoq H as ps->zoq H' as ps
 | _,_,.nil=>.nil
 | _,_,.cons h t=>.cons (e _ _ h) (zgg e t)
theorem zl0 {K:W.Frag} {H:Hp} {vs:List V} {ds:List D} (h:zbI K H vs ds) (i:Nat) (hi:i<vs.length):Den K H (vs.getD i .non) (ds.getD i .non):=by
 have hl:=zl h
 have:=paired_get i h (yC hi) (yC (by omega:i<ds.length))
 simpa [List.getD,yC hi,yC (by omega:i<ds.length)] using this
theorem zjU {K:W.Frag} {H:Hp} {vs:List V} {ds:List D} (h:zbI K H vs ds):∀ (l:List Nat),(∀ i,i ∈ l->i<vs.length)->zbI K H (l.map fun i=>vs.getD i .non) (l.map fun i=>ds.getD i .non)
 | [],_=>.nil
 | i :: l,q=>.cons (zl0 h i (q i (by simp))) (zjU h l fun j hj=>q j (by simp [hj]))
theorem zkM {K:W.Frag} {H:Hp} {lt:Nat->Nat->Bool} (o:So.Ord lt) {vs:List V} {ds:List D} (h:zbI K H vs ds):zbI K H (zd1 lt vs) (zh8 lt ds):=by
 have hl:=zl h; unfold zd1 zh8; rw [hl]; split
 ·exact h
 ·rename_i hn
  exact zjU h _ fun i hi=>by rw [hl]; exact (zff o (by omega)).2 i hi
section
variable {X:Cx}
def zp (sp:Sp') (t:TA'):TO':=fun Γ Q=>t Γ fun as Γ1=>∃ ds ks lt,as=[.lst ds]/\ds.length<64/\ks.length=ds.length/\(∀ (i:Nat) x k,ds[i]?=some x->ks[i]?=some k->sp [x] fun r=>r=.val k)/\zrZ ks lt/\Q (.lst (zh8 lt ds)) Γ1
end
end PL
namespace L2
open PySem PySem.Spec PyProof.Rows
abbrev zda (qual:Str) (params:Arguments) (body:Expr) (scope:Scope) (pm:Value) (c:Addr) (ctv:Value):Obj:=W.kla_obj "<lambda>" qual params body scope [] pm c ctv
abbrev zcS (cl:List (Str × Addr)) (qual:Str) (params:Arguments) (body:Expr) (scope:Scope) (pm:Value) (c:Addr) (ctv:Value):Obj:=W.kla_obj "<lambda>" qual params body scope cl pm c ctv
abbrev zgf (qual:Str) (params:Arguments) (body:Expr) (scope:Scope) (pm:Value) (c:Addr) (ctv:Value):FuncData:=W.kla_fn "<lambda>" qual params body scope [] pm (.ref c) ctv
def ziV (f c:Addr) (fo oc:Obj) (sp:Sp):Sp:=fun vs H Q E=>H f=some (zbV (.inr fo))/\H c=some (zbV (.inr oc))/\sp vs H Q E
section
variable {P:Program} {w:World} {K:W.Frag} {mg:Str->Option Value} {base:Heap}
theorem zpC {CX:CXT} {k:Nat} {f c:Addr} {qual:Str} {params:Arguments} {body:Expr} {scope:Scope} {pm ctv:Value} {oc:Obj} {vs0:Array Value} {t0:Tok} {N ps:List Str} {sp:Sp}
  (S:FnScope N ps scope) (hd:oc.data=.fields vs0) (hv:vs0[1]?=some (.str qual t0)) (len:∀ vs H Q E,sp vs H Q E->vs.length=ps.length)
  (hbody:∀ (A:Around) (outer:List Env) (s:Shared) (H:Hp) (vs:List V) (Q:VK) (E:XK),Room k (A.deeper (envOfC qual scope s.heap.objs.size f (.ref c)))->sp vs H Q E ->
   ∃ t,PE (zd9 CX P w K mg base N qual scope f (.ref c) A outer s H E) body t/\t (start N vs) H Q) :
  FnOk P w K mg base CX (k+1) f (zgf qual params body scope pm c ctv) ps (ziV f c (zda qual params body scope pm c ctv) oc sp):=by
 refine ⟨fun vs H Q E h=>len _ _ _ _ h.2.2,fun A outer s H args us vs Q E hr e0 hb r hsp=>?_⟩
 obtain ⟨hf,hc,hsp⟩:=hsp; have hl:=len _ _ _ _ hsp
 have of:s.heap.get? f=some (zda qual params body scope pm c ctv):=(e0.hok f _ hf).1
 have oc':s.heap.get? c=some oc:=(e0.hok c _ hc).1
 have lim:s.heap.NoLimit:=e0.mod.nolimit.keeps fun b o e=>(e0.bs b o e).1
 have hkind:∀ y ∈ ps.zip us,scope.names.lookup y.1=some .local\/(scope.names.lookup y.1=some .cell/\((cellsFrom (s.heap.objs.size+1) scope.names []).lookup y.1).isSome=true):=fun ⟨n,v⟩ hy=>by
  rcases S.par n (List.of_mem_zip hy).1 with q | q
  ·exact .inl q
  ·exact .inr ⟨q,W.cellsFrom_some _ _ _ (.inl q)⟩
 refine W.kla_callFunE hr.depth of rfl S.co S.gen rfl ⟨c,oc,vs0,t0,rfl,oc',hd,hv⟩ (hb _ _ _ _ ?_)
 refine wpAny_newFunctionEnv_cells S.kind hkind fun env he s1 x=>?_
 subst he; refine ⟨lim.keeps x.toInCall.keep,W.kla_codeExpr ?_⟩; obtain ⟨t,ht,hq⟩:=hbody A outer s H vs Q E (hr.deeper _) hsp
 have I:Inv (zd9 CX P w K mg base N qual scope f (.ref c) A outer s H E) [] (start N vs) H s1:=zeF S hr.hd e0 hl r x
 refine YD (ht [] s1 (start N vs) H _ I hq) (fun u s' hs=>?_) fun e s' hs=>hs
 obtain ⟨v,H',J,rv,q⟩:=hs; exact ⟨v,H',J.os,J.bare,J.base,J.hok,rv,q⟩
end
theorem ziB {pos:Pos} {c cv:Value} {a b:Int} (l:List Value) (h:TriplesOk l) (e:codeAmong pos (l ++ [rawInt a,rawInt b,c])=some cv):codeAmong pos l=some cv\/cv=c:=by
 fun_induction TriplesOk l with
 | case1 =>
  simp only [List.nil_append,codeAmong,rawInt] at e; split at e
  ·exact .inr (Option.some.inj e).symm
  ·cases e
 | case2 a' t b' u x zdF ih =>
  simp only [List.cons_append,codeAmong] at e ⊢; split at e
  ·rename_i hc
   rw [yP hc]; exact .inl e
  ·rename_i hc
   rw [yN hc]; exact ih h e
 | case3 l h1 h2=>exact h.elim
theorem zfG {P:Program} {w:World} {H:Hp} {h:Heap} {a:Addr} {o:Obj} (e:h.get? a=some o):zbv P w H h a (zbV (.inr o)):=⟨e,trivial,⟨o,e⟩,fun _ _ _ _=>trivial⟩
def NewLam (H H2:Hp) (f c:Addr) (fo oc:Obj):Prop:=∃ H1,(H1=H\/(H c=none/\H1=upd H c (zbV (.inr oc))))/\H1 c=some (zbV (.inr oc))/\H1 f=none/\H2=upd H1 f (zbV (.inr fo))
section
variable {X:Cx} {pins:List (Addr × Obj)} {σ:St} {H:Hp} {s:Shared}
theorem zge {cl:List (Str × Addr)} {params:Arguments} {body:Expr} {scope:Scope} {lpos:Pos} {c Pt:Addr} {Q:VK} {E':Value->Shared->Prop} (I:Inv X pins σ H s) (hc:X.env.code=.ref c) (hC:W.codeHdIn X.K c Pt=true)
  (hT:X.base.objs[Pt]?=some (zd0 (X.env.qual ++ "<lambda>"))) (hdef:defaultsOf params X.env=([],[])) (hcl:closureFor scope X.env=pure cl)
  (q:∀ (f c':Addr) (oc:Obj) (vs:Array Value) (t:Tok) (pm ctv:Value) (H2:Hp),oc.data=.fields vs->vs[1]?=some (.str (X.env.qual ++ "<lambda>") t)->NewLam H H2 f c' (zcS cl (X.env.qual ++ "<lambda>") params body scope pm c' ctv) oc->Q (.ref f) H2) :
  wpAny (model X.prog X.w) X.A (eval (.Lambda params body scope lpos) X.env) (EP X pins σ Q) E' s:=by
 obtain ⟨ps,hP,hq⟩:=I.env0.tab Pt _ hT; obtain ⟨ts,ht1,ht2,ht3⟩:=I.hok Pt _ hP
 have hg:s.heap.Ns mainGlobals X.mg:=I.mod.glob.keeps I.bk
 have C:=W.codeHd_of_K I.kIn hC; obtain ⟨bm,ob,b1,b2,b3,b4,b5,b6⟩:=I.mod.bm; have hbm:=I.bk _ _ b3
 have hgP:mainGlobals≠Pt:=fun z=>by
  obtain ⟨o,es,ep,e,_⟩:=I.mod.glob; have y:=(I.bs _ _ e).2; rw [z,hP] at y; cases y
 have hbP:bm≠Pt:=fun z=>by
  have y:=(I.bs _ _ b3).2; rw [z,hP] at y; cases y
 have hbG:bm≠mainGlobals:=fun z=>by
  obtain ⟨o,es,ep,e,hd,_⟩:=I.mod.glob; rw [<- z,b3] at e; cases e; rw [b6] at hd; cases hd
 refine W.kla_eval hdef ?_
 cases hf:codeAmong lpos ts.toList with
 | none =>
  refine W.kla_makeFunction (mg:=X.mg) hcl I.ok.glob hg hc C ht1 ht2 hf hgP ⟨bm,ob,b1,b2,hbG,hbP,hbm,b4,b5,b6⟩ fun c' ctv h' tk hx hge hlt hrec htb=>?_
  obtain ⟨c2,oc,vs,t,e2,hoc,hd,hv⟩:=hrec; cases e2
  have fr:H c'=none:=I.hok.fresh hge
  have nP:∀ b,H b=none->b≠Pt:=fun b n z=>by rw [z,hP] at n; cases n
  have sm:∀ b u,H b=some u->upd H c' (zbV (.inr oc)) b=some u:=fun b u e=>by rw [zU (zaH e fr)]; exact e
  have cP:c'≠Pt:=fun z=>by rw [z,hP] at fr; cases fr
  have un:Un X.fs [] H (upd H c' (zbV (.inr oc))) s.heap h':=by
   refine ⟨fun b o e n _ _=>hx b o (nP b n) e,fun b o e n _ _=>⟨o.slots,hx b o (nP b n) e⟩,fun b o e n _=>?_,fun b o e _=>?_,fun b xs e=>sm _ _ e,fun b o u e=>sm _ _ e,fun b ps e=>⟨#[],by rw [sm _ _ e]; simp⟩⟩
   ·rw [zU (yS (yT (yJ e) hge))]
    exact n
   ·by_cases z:b=Pt
    ·rw [z]; exact ⟨_,htb⟩
    ·exact ⟨o,hx b o z e⟩
  have hok:HOk X.prog X.w (upd H c' (zbV (.inr oc))) h':=fun b u e=>by
   by_cases z:b=c'
   ·subst z
    rw [zw] at e; cases e; exact zfG hoc
   ·rw [zU z] at e
    by_cases y:b=Pt
    ·subst y
     rw [hP] at e; cases e
     refine ⟨_,htb,?_,fun pos cv ee=>?_⟩
     ·rw [Array.toList_append]
      exact TriplesOk_snoc _ _ _ _ ht2
     ·rw [Array.toList_append] at ee
      rcases ziB _ ht2 ee with y | y
      ·obtain ⟨c3,oc3,vs3,t3,q3,t4,z1,z2,z3⟩:=ht3 pos cv y
       exact ⟨c3,oc3,vs3,t3,q3,t4,z1,sm _ _ z2,z3⟩
      ·exact ⟨c',oc,vs,t,_,_,y,zw,hd,hv,hq⟩
    ·refine (I.hok b u e).stay (fun d v hd r=>hx d v ?_ r) (fun d r=>sm _ _ r) fun d xs r=>sm _ _ r
     rcases hd with rfl | hd
     ·exact y
     ·intro zz
      rw [zz,hP] at hd; cases hd
  have I1:=I.un (t':=tk) un hok
  refine ⟨.ref h'.objs.size,_,I1.laid (a:=h'.objs.size) (o:=zbV (.inr (zcS cl (X.env.qual ++ "<lambda>") params body scope ((X.mg "__name__").getD .none) c' ctv))) (t':=tk) (fun b u e=>yB _ e) (yF _) (zfG (yK _ rfl)),rfl,?_⟩
  exact q _ c' oc vs t _ ctv _ hd hv ⟨_,.inr ⟨fr,rfl⟩,zw,hok.fresh (yF _),rfl⟩
 | some cv =>
  obtain ⟨c',oc,vs,t,q',t0,rfl,hc',hd,hv,hq'⟩:=ht3 lpos cv hf; rw [hq] at hq'; cases hq'
  refine W.kla_makeFunctionHit (mg:=X.mg) hcl I.ok.glob hg hc C ht1 ht2 hf ⟨bm,ob,b1,b2,hbG,hbP,hbm,b4,b5,b6⟩ fun ctv h' tk hk hsz=>?_
  have I1:=I.kept (t':=tk) hk
  refine ⟨.ref h'.objs.size,_,I1.laid (a:=h'.objs.size) (o:=zbV (.inr (zcS cl (X.env.qual ++ "<lambda>") params body scope ((X.mg "__name__").getD .none) c' ctv))) (t':=tk) (fun b u e=>yB _ e) (yF _) (zfG (yK _ rfl)),rfl,?_⟩
  exact q _ c' oc vs t _ ctv _ hd hv ⟨_,.inl rfl,hc',I1.hok.fresh (yF _),rfl⟩
theorem zlx {params:Arguments} {body:Expr} {scope:Scope} {lpos:Pos} {c Pt:Addr} {Q:VK} {E':Value->Shared->Prop} (I:Inv X pins σ H s) (hc:X.env.code=.ref c) (hC:W.codeHdIn X.K c Pt=true)
  (hT:X.base.objs[Pt]?=some (zd0 (X.env.qual ++ "<lambda>"))) (hdef:defaultsOf params X.env=([],[])) (hcl:closureFor scope X.env=pure [])
  (q:∀ (f c':Addr) (oc:Obj) (vs:Array Value) (t:Tok) (pm ctv:Value) (H2:Hp),oc.data=.fields vs->vs[1]?=some (.str (X.env.qual ++ "<lambda>") t)->NewLam H H2 f c' (zda (X.env.qual ++ "<lambda>") params body scope pm c' ctv) oc->Q (.ref f) H2) :
  wpAny (model X.prog X.w) X.A (eval (.Lambda params body scope lpos) X.env) (EP X pins σ Q) E' s :=
 zge I hc hC hT hdef hcl q
end
section
variable {X:Cx}
def zsy (qual:Str) (params:Arguments) (body:Expr) (scope:Scope):TE:=fun _ H Q=>∀ (f c:Addr) (oc:Obj) (vs:Array Value) (t:Tok) (pm ctv:Value) (H2:Hp),oc.data=.fields vs->vs[1]?=some (.str qual t)->NewLam H H2 f c (zda qual params body scope pm c ctv) oc->Q (.ref f) H2
structure LamAt (X:Cx) (qual:Str):Prop where
 ex:∃ c Pt,X.env.code=.ref c/\W.codeHdIn X.K c Pt=true/\X.base.objs[Pt]?=some (zd0 qual)
 qu:X.env.qual ++ "<lambda>"=qual
theorem zmm {qual:Str} {params:Arguments} {body:Expr} {scope:Scope} {lpos:Pos} (L:LamAt X qual) (hdef:defaultsOf params X.env=([],[]):=by rfl) (hcl:closureFor scope X.env=pure []:=by rfl):PE X (.Lambda params body scope lpos) (zsy qual params body scope):=by
 obtain ⟨⟨c,Pt,hc,hC,hT⟩,rfl⟩:=L
 intro pins s σ H Q I h; exact zlx I hc hC hT hdef hcl h
theorem NewLam.same {H H2:Hp} {f c:Addr} {fo oc:Obj} (n:NewLam H H2 f c fo oc):zaM H H2:=by
 obtain ⟨H1,h1,_,h3,rfl⟩:=n; intro b u e
 rcases h1 with rfl | ⟨h1,rfl⟩
 ·rw [zU (zaH e h3)]; exact e
 ·have e1:upd H c (zbV (.inr oc)) b=some u:=by rw [zU (zaH e h1)]; exact e
  rw [zU (zaH e1 h3)]; exact e1
theorem NewLam.has {H H2:Hp} {f c:Addr} {fo oc:Obj} (n:NewLam H H2 f c fo oc):H2 f=some (zbV (.inr fo))/\H2 c=some (zbV (.inr oc)):=by
 obtain ⟨H1,h1,h2,h3,rfl⟩:=n
 exact ⟨zw,by rw [zU (zaH h2 h3)]; exact h2⟩
def zoy (K:W.Frag) (X:Cx) (sp:Sp) (t:TA):TE:=fun σ H Q=>t σ H fun vs H1=>∃ l xs,vs=[.ref l]/\SqL K H1 l xs/\xs.length<64/\∀ f c fo oc H2,NewLam H1 H2 f c fo oc ->
 zop (ziV f c fo oc sp) (fun ks H'=>∃ lt,So.Ord lt/\ziF X ks H' lt/\∀ p,H' p=none->Q (.ref p) (upd H' p (.lst (zd1 lt xs)))) xs [] H2
theorem zkL {K:W.Frag} {H H':Hp} {a:Addr} {vs:List V} (e:zaM H H') (h:SqL K H a vs):SqL K H' a vs:=by
 rcases h with h | h
 ·rcases h with h | ⟨o,h⟩
  ·exact .inl (.inl (e _ _ h))
  ·exact .inl (.inr ⟨o,e _ _ h⟩)
 ·exact .inr h
theorem zla {k:Nat} {qual:Str} {params:Arguments} {body:Expr} {scope:Scope} {ps:List Str} {sp:Sp} {e:Expr} {t:TA} {p kpos lpos pos:Pos} (L:LamAt X qual)
  (hF:∀ (f c:Addr) (oc:Obj) (vs:Array Value) (t:Tok) (pm ctv:Value),oc.data=.fields vs->vs[1]?=some (.str qual t)->FnOk X.prog X.w X.K X.mg X.base CX0 k f (zgf qual params body scope pm c ctv) ps (ziV f c (zda qual params body scope pm c ctv) oc sp))
  (hb:∀ (pm:Value) (c:Addr) (ctv:Value) (us:List Value),us.length=ps.length->bindArgs (zgf qual params body scope pm c ctv) ⟨us,[]⟩=pure (ps.zip us))
  (hr:Room (k+2) X.A) (hm:X.mg "sorted"=none) (ha:PA X [e] t) (hgs:Gl X "sorted":=by rfl)
  (hdef:defaultsOf params X.env=([],[]):=by rfl) (hcl:closureFor scope X.env=pure []:=by rfl)
  (he:backTo pos (starEach [e] X.env)=(false,eval e X.env) :: backTo pos (starEach [] X.env):=by rfl)
  (hplain:(backTo pos (starEach [e] X.env)).any (·.1)=false:=by rfl) :
  PE X (.Call (.Name "sorted" p) [e] [⟨some "key",.Lambda params body scope lpos,kpos⟩] pos) (zoy X.K X sp t):=by
 intro pins s σ H Q I h; refine YG (ze5 I hgs hm boot_sorted ?_)
 refine callWith_kw (thn (ha pos pins s σ H _ I h) fun us s1 ⟨vs,H1,I1,r,q⟩=>?_) he hplain rfl rfl
 obtain ⟨l,xs,rfl,hl,h64,hk⟩:=q; obtain ⟨u,rfl,ru⟩:=zc6 r; cases ru
 refine thn (znm (nm:=some "key") (kpos:=kpos) (zmm (lpos:=lpos) L hdef hcl) zo5 pos pins s1 σ H1 (fun zs H2=>∃ (f c:Addr) (oc:Obj) (vs:Array Value) (t:Tok) (pm ctv:Value),zs=[.ref f]/\oc.data=.fields vs/\vs[1]?=some (.str qual t)/\NewLam H1 H2 f c (zda qual params body scope pm c ctv) oc) I1 ?_) fun ws s2 ⟨zs,H2,I2,rz,f,c,oc,vs,t0,pm,ctv,e1,hd,hv,nl⟩=>?_
 ·intro f c oc vs t0 pm ctv H2 hd hv nl
  exact ⟨f,c,oc,vs,t0,pm,ctv,rfl,hd,hv,nl⟩
 ·subst e1
  obtain ⟨w',rfl,rw'⟩:=zc6 rz; cases rw'; exact zgz (hF f c oc vs t0 pm ctv hd hv) hr (.all (hb pm c ctv)) I2 (zkL nl.same hl) h64 (hk _ _ _ _ _ nl)
end
end L2
namespace PL
open PySem L2
section
variable {P:Program} {w:World} {K:W.Frag} {mg:Str->Option Value} {base:Heap}
theorem zjD {k:Nat} {f c:Addr} {qual:Str} {params:Arguments} {body:Expr} {scope:Scope} {pm ctv:Value} {oc:Obj} {vs0:Array Value} {t0:Tok} {N ps:List Str} {sp:Sp'}
  (S:FnScope N ps scope) (hd:oc.data=.fields vs0) (hv:vs0[1]?=some (.str qual t0)) (len:∀ ds Q,sp ds Q->ds.length=ps.length)
  (hbody:∀ (A:Around) (outer:List Env) (s:Shared) (H:Hp) (E:XK),Room k (A.deeper (PyProof.Rows.envOfC qual scope s.heap.objs.size f (.ref c)))->∀ ds Q,sp ds Q ->
   ∃ t,PE' (zd9 CX0 P w K mg base N qual scope f (.ref c) A outer s H E).nox body t/\t (zbn N ds) fun d _=>Q (.val d)) :
  FnOk P w K mg base CX0 (k+1) f (zgf qual params body scope pm c ctv) ps (ziV f c (zda qual params body scope pm c ctv) oc (zhr K sp)):=by
 refine zpC S hd hv (fun vs H Q E h=>?_) fun A outer s H vs Q E hr h=>?_
 ·obtain ⟨Hi,ds,Q',_,dl,h,_⟩:=h
  rw [zl dl]; exact len ds Q' h
 ·obtain ⟨Hi,ds,Q',sb,dl,h,fin⟩:=h
  obtain ⟨t,h1,h2⟩:=hbody A outer s H E hr ds Q' h
  have hpl:ps.length<=N.length:=by have:=yc List.length S.pre; rw [YH] at this; omega
  refine ⟨_,h1.h.nox,⟨H,Hi,[]⟩,Hi,zbn N ds,_,zc5 (len ds Q' h) hpl sb dl,h2,?_⟩
  rintro v H' ⟨Hi',d,Γ',s1,g1,dv,q⟩
  exact fin Hi' H' v (.val d) ⟨s1,fun b o e=>g1.keep b o e (by simp),g1.fz,fun b o e=>g1.fro b o e⟩ dv q
end
theorem zgi {K:W.Frag} {sp:Sp'} {Fin:List V->Hp->Prop} {Hi1 H1:Hp} {f c:Addr} {fo oc:Obj} (hf:H1 f=some (zbV (.inr fo))) (hc:H1 c=some (zbV (.inr oc))):∀ (r:List V) (rd kd:List D) (acc:List V) (accD:List D) (Hi H:Hp),Ext Hi1 H1 Hi H->zbI K Hi r rd->kd.length=rd.length->(∀ (i:Nat) x k,rd[i]?=some x->kd[i]?=some k->sp [x] fun r=>r=.val k)->zbI K Hi acc accD ->
  (∀ acc Hi H,Ext Hi1 H1 Hi H->zbI K Hi acc (accD ++ kd)->Fin acc H)->zop (ziV f c fo oc (zhr K sp)) Fin r acc H
 | [],[],kd,acc,accD,Hi,H,ex,_,hl,_,da,fin=>by
  have:kd=[]:=List.length_eq_zero_iff.mp (by simpa using hl)
  subst this
  exact fin acc Hi H ex (by rw [yf]; exact da)
 | v :: r,d :: rd,k :: kd,acc,accD,Hi,H,ex,.cons d1 t,hl,hsp,da,fin=>by
  refine ⟨ex.h _ _ hf,ex.h _ _ hc,Hi,[d],fun r=>r=.val k,ex.fz,.cons d1 .nil,hsp 0 d k rfl rfl,fun Hi' H' v' r' e2 ro hq=>?_⟩
  subst hq
  refine zgi hf hc r rd kd (acc ++ [v']) (accD ++ [k]) Hi' H' (ex.trans e2) (zbI.mono t e2.hi) (by simpa using hl) (fun i x k h1 h2=>hsp (i+1) x k (by simpa using h1) (by simpa using h2)) (zbg (da.mono e2.hi) (.cons ro .nil)) fun acc Hi H e3 da=>?_
  exact fin acc Hi H e3 (by simpa using da)
 | [],_ :: _,_,_,_,_,_,_,h,_,_,_,_=>nomatch h
 | _ :: _,[],_,_,_,_,_,_,h,_,_,_,_=>nomatch h
 | _ :: _,_ :: _,[],_,_,_,_,_,_,hl,_,_,_=>by simp at hl
theorem NewLam.ext {Hi H H2:Hp} {f c:Addr} {fo oc:Obj} (n:NewLam H H2 f c fo oc) (fz:Fz Hi H):Ext Hi H Hi H2:=by
 obtain ⟨H1,h1,h2,h3,rfl⟩:=n
 have e1:Ext Hi H Hi H1:=by
  rcases h1 with rfl | ⟨h1,rfl⟩
  ·exact Ext.refl fz
  ·exact Ext.newO fz h1 _ fun _ z=>nomatch z
 exact e1.trans (Ext.newO e1.fz h3 _ fun _ z=>nomatch z)
section
variable {X:Cx}
theorem zk3 {k:Nat} {qual:Str} {params:Arguments} {body:Expr} {scope:Scope} {N ps:List Str} {sp:Sp'} {e:Expr} {t:TA'} {p kpos lpos pos:Pos} (L:LamAt X qual) (S:FnScope N ps scope) (len:∀ ds Q,sp ds Q->ds.length=ps.length)
  (hbody:∀ (f c:Addr) (A:Around) (outer:List Env) (s:Shared) (H:Hp) (E:XK),Room k (A.deeper (PyProof.Rows.envOfC qual scope s.heap.objs.size f (.ref c)))->∀ ds Q,sp ds Q ->
   ∃ t,PE' (zd9 CX0 X.prog X.w X.K X.mg X.base N qual scope f (.ref c) A outer s H E).nox body t/\t (zbn N ds) fun d _=>Q (.val d))
  (hb:∀ (pm:Value) (c:Addr) (ctv:Value) (us:List Value),us.length=ps.length->bindArgs (zgf qual params body scope pm c ctv) ⟨us,[]⟩=pure (ps.zip us))
  (hr:Room (k+3) X.A) (hm:X.mg "sorted"=none) (ha:PA' X [e] t) (hgs:Gl X "sorted":=by rfl)
  (hdef:defaultsOf params X.env=([],[]):=by rfl) (hcl:closureFor scope X.env=pure []:=by rfl)
  (he:backTo pos (starEach [e] X.env)=(false,eval e X.env) :: backTo pos (starEach [] X.env):=by rfl)
  (hplain:(backTo pos (starEach [e] X.env)).any (·.1)=false:=by rfl) :
  PO' X (.Call (.Name "sorted" p) [e] [⟨some "key",.Lambda params body scope lpos,kpos⟩] pos) (zp sp t):=by
 refine ⟨PE.weak (zla (k:=k+1) (sp:=zhr X.K sp) L (fun f c oc vs t pm ctv hd hv=>zjD S hd hv len (hbody f c)) hb hr hm ha.pa hgs hdef hcl he hplain) ?_⟩
 rintro σ H Q ⟨W,Hi,Γ,Q',g,h,fin⟩
 refine ⟨W,Hi,Γ,_,g,h,?_⟩
 rintro vs H1 Hi1 Γ1 as s1 g1 dl ⟨ds,ks,lt,rfl,h64,hkl,hsp,hkd,q⟩
 obtain ⟨v,rfl,den⟩:=zdC dl; obtain ⟨l,xs,rfl,hl,dx⟩:=den.lstI
 refine ⟨l,xs,rfl,zaF g1.sub hl,by rw [zl dx]; exact h64,fun f c fo oc H2 nl=>?_⟩
 have ex0:=PL.NewLam.ext nl g1.fz
 refine zgi nl.has.1 nl.has.2 xs ds ks [] [] Hi1 H2 (Ext.refl ex0.fz) dx hkl hsp .nil fun acc Hi2 H3 ex da=>?_
 rw [List.nil_append] at da
 refine ⟨lt,hkd.ord,?_,fun p hp=>?_⟩
 ·rcases hkd with ⟨is,rfl,rfl⟩ | ⟨ps,rfl,rfl⟩
  ·rw [zgp da]
   exact zrK is
  ·obtain ⟨as,rfl,kt⟩:=zgo da
   exact zrJ (zgg ex.fz.sub kt)
 ·have g2:=(g1.ext ex0).ext ex
  exact fin p _ Hi2 Γ1 (.lst (zh8 lt ds)) (s1.trans ex.hi) (g2.ext (Ext.newO g2.fz hp _ (fun _ z=>by cases z))) (New.mk' g2 hp ⟨_,zw,zkM hkd.ord (dx.mono ex.hi)⟩) q
end
end PL
namespace L2
open PySem PySem.Spec PyProof.Rows
def zrW (T:List (Addr × Str)) (a:Addr) (H:Hp):Prop:=∀ b u,H b=some u->(b=a/\∃ o xs,u=.frz o (.lst xs))\/∃ q,T.lookup b=some q/\u=.tbl #[.str q 0]
theorem zjC {P:Program} {w:World} {K:W.Frag} {mg mb:Str->Option Value} {CX:CXT} {k:Nat} {fa a:Addr} {fd:FuncData} {x:Str} {sp:Sp} {s₁:Shared} {vs:List Value} {ns:List Int} (T:List (Addr × Str))
  (KX:K.In s₁.heap) (hns:s₁.heap.Ns mainGlobals mg) (hb:s₁.heap.Ns builtinsNs mb) (hbb:∀ x:Str,x≠"__name__"->mb x=bootBuiltins x) (hlim:s₁.heap.NoLimit)
  (hbm:∃ bm ob,mg "__builtins__"=some (.ref bm)/\bm≠builtinsNs/\s₁.heap.get? bm=some ob/\ob.cls=.type "module"/\ob.dict=some builtinsNs/\ob.data=.plain) (hg:s₁.gens=#[])
  (ha:s₁.heap.get? a=some { cls:=.type "list",data:=.seq vs.toArray }) (hi:IntsAre vs ns) (hl:ns.length<=sizeLine) (hr:Room k callerA)
  (hT:∀ b q,T.lookup b=some q->s₁.heap.get? b=some (W.tabObj #[])/\(∃ c,W.codeHdIn K c b=true)/\K.lookup b=none)
  (F:∀ base:Heap,K.In base->base.Ns mainGlobals mg->(∀ b q,T.lookup b=some q->base.objs[b]?=some (zd0 q))->FnOk P w K mg base CX k fa fd [x] sp) (hbind:∀ (s:Shared) (u:Value),BindsTo s fd ⟨[u],[]⟩ [(x,u)])
  (hsp:∀ H:Hp,SqL K H a (ns.map V.int)->sp [.ref a] H (fun v _=>v=.bl true) fun _ _ _=>False)
  (hCX:∀ H e s',CX [] H s₁ (fun _ _ _=>False) e s'->False) :
  codeAny (model P w) callerA (.call (.ref fa) ⟨[.ref a],[]⟩) (fun r s'=>r=.ok (.ret (.bool true))/\OldK s₁.heap s'.heap/\s'.os=s₁.os/\AllBare s'.gens) s₁:=by
 have rv:=zfM hi; have lenV:=hi.length
 have naT:T.lookup a=none:=by
  cases q:T.lookup a with
  | none=>rfl
  | some z =>
   have e:=(hT a z q).1; rw [ha] at e; cases e
 have core:∀ H:Hp,zrW T a H->(∀ b q,T.lookup b=some q->H b=some (.tbl #[.str q 0]))->SqL K H a (ns.map V.int)->HOk P w H s₁.heap->(H a≠none->K.lookup a=none) ->
   codeAny (model P w) callerA (.call (.ref fa) ⟨[.ref a],[]⟩) (fun r s'=>r=.ok (.ret (.bool true))/\OldK s₁.heap s'.heap/\s'.os=s₁.os/\AllBare s'.gens) s₁:=by
  intro H hO hO2 hS hok hK
  have base_of:∀ {b:Addr} {o:Obj},s₁.heap.get? b=some o->H b=none->(nrm s₁.heap H).get? b=some o:=fun e n=>znI e n
  have isL:∀ {b:Addr} {u:HO} {o:Obj},H b=some u->s₁.heap.get? b=some o->(∃ its n,o.data=.seq its n)\/o.data=.fields #[]:=fun {b u o} q e=>by
   rcases hO b u q with ⟨rfl,_⟩ | ⟨z,y,_⟩
   ·rw [ha] at e; cases e
    exact .inl ⟨_,_,rfl⟩
   ·rw [(hT b z y).1] at e; cases e
    exact .inr rfl
  have noA:∀ {b:Addr} {o:Obj},s₁.heap.get? b=some o->(∀ its n,o.data≠.seq its n)->o.data≠.fields #[]->H b=none:=fun {b o} e d1 d2=>by
   cases q:H b with
   | none=>rfl
   | some u =>
    rcases isL q e with ⟨its,n,z⟩ | z
    ·exact yL z (d1 _ _)
    ·exact yL z d2
  have nsK:∀ {b:Addr} {m:Str->Option Value},s₁.heap.Ns b m->(nrm s₁.heap H).Ns b m:=fun {b m} ⟨o,es,ep,e,d,r⟩=>⟨o,es,ep,base_of e (noA e (fun _ _ z=>by rw [d] at z; cases z) (fun z=>by rw [d] at z; cases z)),d,r⟩
  have hKb:K.In (nrm s₁.heap H):=fun b o e=>base_of (KX b o e) (by
   cases q:H b with
   | none=>rfl
   | some u =>
    rcases hO b u q with ⟨rfl,_⟩ | ⟨z,y,_⟩
    ·rw [hK (by rw [q]; simp)] at e; cases e
    ·rw [(hT b z y).2.2] at e; cases e)
  have hM:Mod K mg (nrm s₁.heap H):=⟨hKb,nsK hns,⟨mb,nsK hb,hbb⟩,(let ⟨mc,h1,h2⟩:=hlim; ⟨mc,nsK h1,h2⟩),(let ⟨bm,ob,b1,b2,b3,b4,b5,b6⟩:=hbm; ⟨bm,ob,b1,b2,base_of b3 (noA b3 (fun _ _ z=>by rw [b6] at z; cases z) (fun z=>by rw [b6] at z; cases z)),b4,b5,b6⟩)⟩
  have hmk:∀ b q,T.lookup b=some q->(nrm s₁.heap H).objs[b]?=some (zd0 q):=fun b q e=>by
   rw [zhD,(zdl (hT b q e).1).1,hO2 b q e]; rfl
  have e0:Env0 P w K mg (nrm s₁.heap H) callerA [] s₁ H:=⟨rfl,hM,fun b o e=>zpq e,Nat.le_of_eq (zlp _ _),trivial,fun b hb=>yL (show b ∈ ([]:List Addr) from hb) (by simp),hok,.of_eq hg,zlo _ _⟩
  refine codeAny_mono ((F _ hKb (nsK hns) hmk).run callerA [] s₁ H ⟨[.ref a],[]⟩ [.ref a] [.ref a] _ _ hr e0 (hbind s₁ (.ref a)) (.cons rfl .nil) (hsp H hS)) fun r s' h=>?_
  cases r with
  | error e=>exact (hCX H e s' h).elim
  | ok fl =>
   cases fl with
   | next=>exact False.elim h
   | brk=>exact False.elim h
   | cont=>exact False.elim h
   | ret u =>
    obtain ⟨v,H',os,bare,un,hok',r',q⟩:=h
    have q':v=.bl true:=q
    subst q'
    obtain rfl:u=Value.bool true:=r'
    have old:∀ b o,s₁.heap.get? b=some o->asItWas s₁.heap s'.heap b o/\∃ o',s'.heap.get? b=some o':=fun b o e=>by
     cases q:H b with
     | none =>
      have z:=un.keep b o e q (by intro z; exact yL (show b ∈ ([]:List Addr) from z) (by simp)) (by simp)
      exact ⟨.inl z,o,z⟩
     | some u =>
      rcases hO b u q with ⟨_,ob,xs,rfl⟩ | ⟨z,y,rfl⟩
      ·have z2:=un.frzs b ob _ q
       obtain ⟨e1,_⟩:=hok b _ q; obtain ⟨e2,_⟩:=hok' b _ z2
       rw [e] at e1; cases e1
       exact ⟨.inl e2,o,e2⟩
      ·obtain ⟨h1,⟨c,h2⟩,_⟩:=hT b z y
       rw [e] at h1; cases h1; obtain ⟨more,z2⟩:=un.tbls b _ q; obtain ⟨ts,e2,_⟩:=hok' b _ z2; refine ⟨.inr (.inl ⟨((W.codeHd_of_K KX h2).tab e).isCodeTable,rfl,#[],ts,rfl,?_⟩),_,e2⟩; rw [e2]; simp
    exact ⟨rfl,⟨fun b o e=>(old b o e).1,fun b o e=>(old b o e).2⟩,os,bare⟩
 have tb_ok:∀ (H:Hp) (b:Addr) (q:Str),T.lookup b=some q->zbv P w H s₁.heap b (.tbl #[.str q 0]):=fun H b q e=>⟨#[],(hT b q e).1,trivial,fun pos cv z=>by cases z⟩
 cases hk:K.lookup a with
 | some o =>
  have e:=KX a o hk; rw [ha] at e; cases e
  refine core (fun b=>(T.lookup b).map fun q=>.tbl #[.str q 0]) (fun b u z=>?_) (fun b q z=>by show (T.lookup b).map _=_; rw [z]; rfl) (.inr ⟨_,vs.toArray,_,hk,rfl,rfl,rfl,by rw [yM,lenV]; exact hl,by simpa using rv⟩) (fun b u z=>?_) fun z=>yL (by show (T.lookup a).map _=none; rw [naT]; rfl) z
  ·have z':(T.lookup b).map (fun q=>HO.tbl #[.str q 0])=some u:=z
   cases y:T.lookup b with
   | none=>rw [y] at z'; cases z'
   | some q=>rw [y] at z'; cases z'; exact .inr ⟨q,rfl,rfl⟩
  ·have z':(T.lookup b).map (fun q=>HO.tbl #[.str q 0])=some u:=z
   cases y:T.lookup b with
   | none=>rw [y] at z'; cases z'
   | some q=>rw [y] at z'; cases z'; exact tb_ok _ b q y
 | none =>
  refine core (fun b=>if b=a then some (.frz { cls:=.type "list",data:=.seq vs.toArray } (.lst (ns.map V.int))) else (T.lookup b).map fun q=>.tbl #[.str q 0]) (fun b u z=>?_) (fun b q z=>?_) (.inl (.inr ⟨{ cls:=.type "list",data:=.seq vs.toArray },yP rfl⟩)) (fun b u z=>?_) fun _=>hk
  ·by_cases hb:b=a
   ·have z':=(yP hb).symm.trans z
    cases z'; exact .inl ⟨hb,_,_,rfl⟩
   ·have z':=(yN hb).symm.trans z
    cases y:T.lookup b with
    | none=>rw [y] at z'; cases z'
    | some q=>rw [y] at z'; cases z'; exact .inr ⟨q,rfl,rfl⟩
  ·have hb:b≠a:=fun y=>by rw [y,naT] at z; cases z
   show (if b=a then _ else _)=_
   rw [yN hb,z]; rfl
  ·by_cases hb:b=a
   ·have z':=(yP hb).symm.trans z
    cases z'; subst hb
    exact ⟨ha,by rw [yD]; exact hl,vs,_,rv,ha⟩
   ·have z':=(yN hb).symm.trans z
    cases y:T.lookup b with
    | none=>rw [y] at z'; cases z'
    | some q=>rw [y] at z'; cases z'; exact tb_ok _ b q y
end L2
namespace PL
open PySem L2
structure LamOf (K:W.Frag) (mg:Str->Option Value) (base:Heap) (x qual:Str):Prop where
 ex:∃ c Pt,(∀ f fd oc od sl,mg x=some (.ref f)->K.lookup f=some ⟨oc,od,.func fd,sl⟩->fd.code=.ref c)/\W.codeHdIn K c Pt=true/\base.objs[Pt]?=some (zd0 qual)
 qu:x ++ ".<locals>." ++ "<lambda>"=qual
section
variable {P:Program} {w:World} {K:W.Frag} {mg:Str->Option Value} {base:Heap} {k:Nat} {x qual:Str} {ps:List Str} {sp:Sp'}
theorem Df.okL {st:Stmt} {N:List Str} (d:Df K mg x st ps) (lo:LamOf K mg base x qual) (S:FnScope N ps (zm st)) (len:∀ ds Q,sp ds Q->ds.length=ps.length)
  (hbody:∀ (f:Addr) (cdv:Value) (A:Around) (outer:List Env) (s:Shared) (H:Hp) (E:XK),LamAt (zd9 CX0 P w K mg base N x (zm st) f cdv A outer s H E).nox qual->Room k (A.deeper (PyProof.Rows.envOfC x (zm st) s.heap.objs.size f cdv))->∀ ds Q,sp ds Q ->
   ∃ t,PSs' (zd9 CX0 P w K mg base N x (zm st) f cdv A outer s H E).nox (zaU st) t/\t { nx:=fun _=>Q (.val .non),rt:=fun r _=>Q r } (zbn N ds)):Fn P w K mg base (k+1) x ps sp:=by
 obtain ⟨f,fd,F,b,m⟩:=d.ex; obtain ⟨oc,od,kV,doc,pm,an,cdv,ct,osl,e,lk,hcd⟩:=id F.ex
 obtain ⟨⟨c,Pt,hc,hC,hT⟩,qu⟩:=lo
 have hcd':=hc f fd oc od osl m lk; subst e; refine ⟨f,_,?_,b,F.kp,m,oc,od,osl,lk⟩
 refine zpS lk hcd S (fun vs H Q E h=>?_) fun A outer s H vs Q E hr h=>?_
 ·obtain ⟨Hi,ds,Q',_,dl,h,_⟩:=h
  rw [zl dl]; exact len ds Q' h
 ·obtain ⟨Hi,ds,Q',sb,dl,h,fin⟩:=h
  obtain ⟨t,h1,h2⟩:=hbody f cdv A outer s H E ⟨⟨c,Pt,hcd',hC,hT⟩,qu⟩ hr ds Q' h
  have hpl:ps.length<=N.length:=by have:=yc List.length S.pre; rw [YH] at this; omega
  refine ⟨_,h1.h.nox,⟨H,Hi,[]⟩,Hi,zbn N ds,_,zc5 (len ds Q' h) hpl sb dl,h2,?_⟩
  refine ⟨fun σ' H' Hi' Γ' s1 g1 q=>?_,fun _ _ _ _ _ _ q=>q.elim,fun _ _ _ _ _ _ q=>q.elim,fun v σ' H' Hi' Γ' r s1 g1 ro q=>?_⟩
  ·exact fin Hi' H' .non (.val .non) ⟨s1,fun b o e=>g1.keep b o e (by simp),g1.fz,fun b o e=>g1.fro b o e⟩ .non q
  ·exact fin Hi' H' v r ⟨s1,fun b o e=>g1.keep b o e (by simp),g1.fz,fun b o e=>g1.fro b o e⟩ ro q
end
theorem ziU (K:W.Frag) (H:Hp) (a:Addr) (ns:List Int) (hl:ns.length<=63) (hS:SqL K H a (ns.map V.int)):zhr K zh7 [.ref a] H (fun v _=>v=.bl true) (fun _ _ _=>False):=by
 refine ⟨H,[.lst (ns.map .int)],fun r=>r=.val (.bl true),⟨zaM.refl _,fun b xs q=>q⟩,.cons (Den.mkL hS (zhT ns)) .nil,⟨ns,rfl,hl,rfl⟩,?_⟩
 rintro Hi' H' v r ex ro rfl
 exact Den.blI ro
theorem walk_lawT {l:W.OpenLaw} {k:Nat} {q:Program} {loose:List Str} {XP:(Str->Option Value)->Heap->Prop} {YP:World->Heap->Prop} {d:DefRec} {K:Params->W.Frag} {x:Str} (T:List (Addr × Str)) (hn:l.most=some 63) (hdf:d.params.defaults=[]) (hr:Room k callerA)
  (hY:∀ (w:World) (h:Heap),YP w h->(K w.params).In h)
  (hYT:∀ (w:World) (h:Heap),YP w h->∀ b q,T.lookup b=some q->h.get? b=some (W.tabObj #[]))
  (F:∀ (w:World) (mg:Str->Option Value) (fa:Addr) (h:Heap),(K w.params).In h->h.Ns mainGlobals mg->mg d.name=some (.ref fa) ->
   (∀ b q,T.lookup b=some q->(∃ c,W.codeHdIn (K w.params) c b=true)/\(K w.params).lookup b=none) /\
   ∃ fd:FuncData,(∀ (s:Shared) (u:Value),BindsTo s fd ⟨[u],[]⟩ [(x,u)])/\∀ base:Heap,(K w.params).In base->base.Ns mainGlobals mg->(∀ b q,T.lookup b=some q->base.objs[b]?=some (zd0 q))->FnOk l.prog w (K w.params) mg base CX0 k fa fd [x] (zhr (K w.params) zh7)) :
  W.WalkO q loose XP YP l.row.toRowW d [] (fun f vs=>PySem.call f vs):=by
 refine Att.attach_call hn hdf fun w s₀ s₁ mg mb fa o pm cd doc a vs ns G Y ho hd hcd hmg hobj hints hlen hg=>?_
 have KX:=hY w _ Y; obtain ⟨hT,fd,hb,hF⟩:=F w mg fa _ KX G.T.g hmg
 exact zjC T KX G.T.g G.T.b G.T.builtins G.T.nolimit G.T.bmain hg hobj hints (yu hlen (by decide)) hr (fun b q e=>⟨hYT w _ Y b q e,hT b q e⟩) hF hb (fun H hS=>ziU _ H a ns hlen hS) fun _ _ _ z=>z
def zgL (R:D->D->Prop):Sp':=fun ds Q=>∃ d k,ds=[d]/\R d k/\Q (.val k)
theorem zfQ (R:D->D->Prop) {x:Str}:∀ ds Q,zgL R ds Q->ds.length=[x].length:=fun _ _ ⟨_,_,e,_⟩=>by rw [e]; rfl
theorem zhq {R:D->D->Prop} {x k:D} (h:R x k):zgL R [x] fun r=>r=.val k:=⟨x,k,rfl,h,rfl⟩
section
variable {X:Cx} {pos:Pos}
end
end PL
namespace MS
open PySem L2 PL
theorem zjB:∀ (N:Nat) (l:List Nat),l.Nodup->(∀ x,x ∈ l->x<N)->l.length<=N
 | 0,l,_,h=>by
  cases l with
  | nil=>simp
  | cons a r=>exact yL (h a (by simp)) (by omega)
 | N+1,l,hd,h=>by
  by_cases e:N ∈ l
  ·have:=zjB N (l.erase N) (hd.erase N) fun x hx=>by
    have h1:=h x (List.mem_of_mem_erase hx)
    have h2:x≠N:=fun z=>by rw [z] at hx; exact (hd.not_mem_erase) hx
    omega
   rw [List.length_erase_of_mem e] at this; omega
  ·have:=zjB N l hd fun x hx=>by
    have h1:=h x hx
    have h2:x≠N:=fun z=>e (z ▸ hx)
    omega
   omega
theorem zpZ:∀ (N:Nat) (l:List Nat),l.Nodup->(∀ x,x ∈ l->x<N)->l.length=N->∀ i,i<N->i ∈ l
 | 0,_,_,_,_,i,hi=>yL hi (by omega)
 | N+1,l,hd,h,hl,i,hi=>by
  by_cases e:N ∈ l
  ·by_cases z:i=N
   ·rw [z]; exact e
   ·refine List.mem_of_mem_erase (zpZ N (l.erase N) (hd.erase N) (fun x hx=>?_) (by rw [List.length_erase_of_mem e]; omega) i (by omega))
    have h1:=h x (List.mem_of_mem_erase hx)
    have h2:x≠N:=fun z=>by rw [z] at hx; exact (hd.not_mem_erase) hx
    omega
  ·have:=zjB N l hd fun x hx=>by
    have h1:=h x hx
    have h2:x≠N:=fun z=>e (z ▸ hx)
    omega
   omega
theorem irr {lt:Nat->Nat->Bool} (o:So.Ord lt) {a:Nat} (h:So.L lt a a):False:=by
 rcases h with h | ⟨_,h⟩
 ·have:=o.asym a a h
  rw [h] at this; cases this
 ·omega
theorem zdx {lt:Nat->Nat->Bool} (o:So.Ord lt) {N:Nat} (hN:1<=N):(So.run lt (W.kas_sort N)).toList.Nodup/\(So.run lt (W.kas_sort N)).toList.length=N/\(∀ i,i ∈ (So.run lt (W.kas_sort N)).toList↔i<N):=by
 obtain ⟨b,s⟩:=So.sort o hN
 have hl:(So.run lt (W.kas_sort N)).toList.length=N:=by rw [yj]; exact b.size
 have lo:=(zff o hN).2
 have gg:∀ i (hi:i<(So.run lt (W.kas_sort N)).toList.length),So.g (So.run lt (W.kas_sort N)) i=(So.run lt (W.kas_sort N)).toList[i]:=fun i hi=>by
  rw [So.g_eq]
  have hi':i<(So.run lt (W.kas_sort N)).size:=by simpa using hi
  rw [ye hi']; simp
 have nd:(So.run lt (W.kas_sort N)).toList.Nodup:=by
  rw [List.nodup_iff_pairwise_ne,List.pairwise_iff_getElem]; intro i j hi hj hij e
  have z:=s i j hij (by omega)
  rw [gg i hi,gg j hj,e] at z; exact irr o z
 exact ⟨nd,hl,fun i=>⟨lo i,zpZ N _ nd lo hl i⟩⟩
section
variable {α:Type} {lt:Nat->Nat->Bool}
def srt (lt:Nat->Nat->Bool) (d:α) (ps:List α):List α:=if ps.length<2 then ps else (So.run lt (W.kas_sort ps.length)).toList.map fun i=>ps.getD i d
theorem zmV (o:So.Ord lt) (d:α) (ps:List α) (q:α):q ∈ srt lt d ps↔q ∈ ps:=by
 unfold srt; split
 ·rfl
 ·rename_i h
  obtain ⟨_,_,m⟩:=zdx o (N:=ps.length) (by omega)
  rw [yb]; constructor
  ·rintro ⟨i,hi,rfl⟩
   have hi':=(m i).mp hi; simp only [List.getD,yC hi',Option.getD_some]; exact YZ hi'
  ·intro hq
   obtain ⟨i,hi,e⟩:=List.getElem_of_mem hq
   exact ⟨i,(m i).mpr hi,by simp only [List.getD,yC hi,Option.getD_some]; exact e⟩
theorem zgK (o:So.Ord lt) (d:α) (ps:List α):(srt lt d ps).length=ps.length:=by
 unfold srt; split
 ·rfl
 ·rename_i h
  obtain ⟨_,hl,_⟩:=zdx o (N:=ps.length) (by omega)
  rw [yD,hl]
theorem zmW (f:α->D) (d:α) (ps:List α) (o:So.Ord lt):zh8 lt (ps.map f)=(srt lt d ps).map f:=by
 unfold zh8 srt; rw [yD]; split
 ·rfl
 ·rename_i h
  obtain ⟨_,_,m⟩:=zdx o (N:=ps.length) (by omega)
  rw [yo]
  refine YM fun i hi=>?_
  have hi':=(m i).mp hi; simp [List.getD,yC hi']
end
end MS
namespace M04
open PySem L2 Lb PL MT MS
abbrev Nd:=List (Pl × Pl)
def keys (ns:Nd):List Pl:=ns.map (·.1)
structure NOk (ns:Nd):Prop where
 nil:[] ∈ keys ns
 nd:(keys ns).Nodup
 len:∀ q,q ∈ keys ns->q.length<=8
 up:∀ q,q ∈ keys ns->q.dropLast ∈ keys ns
 lab:∀ q,q ∈ keys ns->∀ l,l ∈ q->zaI l=true
 many:ns.length<=60
def zbG (q:Pl):List Nat:=q.getLast?.getD []
def zcc (l:List Nat):Int × List Nat:=((PySem.intText? (st (cut l))).getD 0,zdn l)
def zqz (q:Pl):Int × List Nat:=zcc (zbG q)
def zbK (ns:Nd) (p:Pl):List Pl:=(keys ns).filter fun q=>decide (q.length=p.length+1) && decide (q.dropLast=p)
def zbO (ns:Nd) (p:Pl):List Pl:=srt (ltP ((zbK ns p).map zqz)) [] (zbK ns p)
def zgI (ns:Nd) (p:Pl):Pl:=(ns.lookup p).getD []
theorem zck (p:Pl) (l:List Nat):zbG (p ++ [l])=l:=by simp [zbG]
theorem zmX {p q:Pl} (h1:q.length=p.length+1) (h2:q.dropLast=p):q=p ++ [zbG q]:=by
 have hne:q≠[]:=fun z=>by rw [z] at h1; simp at h1
 rw [<- h2]; unfold zbG; rw [List.getLast?_eq_some_getLast hne]; exact (List.dropLast_concat_getLast hne).symm
theorem zew {ns:Nd} {p q:Pl}:q ∈ zbK ns p↔q ∈ keys ns/\q=p ++ [zbG q]:=by
 unfold zbK; rw [List.mem_filter]; simp only [yd,YA]; constructor
 ·rintro ⟨h,h1,h2⟩
  exact ⟨h,zmX h1 h2⟩
 ·rintro ⟨h,e⟩
  refine ⟨h,?_,?_⟩
  ·rw [e]; simp
  ·rw [e]; simp
theorem zc4 {ns:Nd} {p q:Pl}:q ∈ zbO ns p↔q ∈ keys ns/\q=p ++ [zbG q]:=by
 unfold zbO; rw [zmV (zgX _),zew]
def zaD:Nat->Nd->Pl->Tr
 | 0,ns,p=>.node (zbG p) (zgI ns p) []
 | n+1,ns,p=>.node (zbG p) (zgI ns p) ((zbO ns p).map (zaD n ns))
theorem zcX (n:Nat) (ns:Nd) (p:Pl):(zaD n ns p).lab=zbG p:=by cases n <;> rfl
theorem zgh {ns:Nd} (o:NOk ns) {p:Pl} (h:8<=p.length):zbO ns p=[]:=by
 rw [List.eq_nil_iff_forall_not_mem]; intro q hq; obtain ⟨h1,h2⟩:=zc4.mp hq
 have:=o.len q h1
 rw [h2] at this
 simp at this
 omega
theorem zje {ns:Nd} (o:NOk ns) (p:Pl):∀ r:Pl,p ++ r.reverse ∈ keys ns->p ∈ keys ns
 | [],h=>by simpa using h
 | l :: r,h=>by
  have:=o.up _ h
  rw [List.reverse_cons,<- List.append_assoc,List.dropLast_concat] at this; exact zje o p r this
theorem zo4 {ns:Nd} (o:NOk ns) (r p:Pl) (h:p ++ r ∈ keys ns):p ∈ keys ns:=zje o p r.reverse (by rw [List.reverse_reverse]; exact h)
theorem zlO {ns:Nd} (n:Nat) (p:Pl) (l:List Nat):zcx l ((zbO ns p).map (zaD n ns))=if p ++ [l] ∈ keys ns then some (zaD n ns (p ++ [l])) else none:=by
 have key:∀ qs:List Pl,(∀ q,q ∈ qs->q=p ++ [zbG q])->zcx l (qs.map (zaD n ns))=if p ++ [l] ∈ qs then some (zaD n ns (p ++ [l])) else none:=by
  intro qs
  induction qs with
  | nil=>intro _; simp [zcx]
  | cons q qs ih =>
   intro h
   have ih':=ih fun x hx=>h x (by simp [hx])
   have e:=h q (by simp)
   unfold zcx at ih' ⊢
   rw [yq,YU]
   by_cases z:zbG q=l
   ·have eq:q=p ++ [l]:=by rw [<- z]; exact e
    rw [zcX,z]; simp [eq]
   ·have ne:p ++ [l]≠q:=fun y=>z (by rw [<- y,zck])
    rw [zcX]; simp only [yR z]; rw [ih']; simp [ne]
 rw [key _ fun q hq=>(zc4.mp hq).2]
 have:p ++ [l] ∈ zbO ns p↔p ++ [l] ∈ keys ns:=by
  rw [zc4,zck]; simp
 by_cases z:p ++ [l] ∈ keys ns
 ·rw [yP z,yP (this.mpr z)]
 ·rw [yN z,yN fun y=>z (this.mp y)]
theorem zgb {ns:Nd} (o:NOk ns):∀ (r p:Pl) (n:Nat),8<=p.length+n->p ∈ keys ns->zb0 (zaD n ns p) r=if p ++ r ∈ keys ns then some (zaD (n-r.length) ns (p ++ r)) else none
 | [],p,n,_,hp=>by simp [zb0,hp]
 | l :: r,p,0,h,hp=>by
  have h1:p ++ l :: r ∉ keys ns:=fun z=>by
   have:=o.len _ z
   simp at this
   omega
  simp [zaD,zb0,Tr.kds,zcx,h1]
 | l :: r,p,n+1,h,hp=>by
  have e:p ++ l :: r=(p ++ [l]) ++ r:=by simp
  unfold zb0
  show (match zcx l ((zbO ns p).map (zaD n ns)) with | none=>none | some k=>zb0 k r)=_
  rw [zlO]
  by_cases z:p ++ [l] ∈ keys ns
  ·rw [yP z]
   simp only []
   rw [zgb o r (p ++ [l]) n (by simp; omega) z,<- e]
   simp
  ·rw [yN z,yN]
   intro y; rw [e] at y; exact z (zo4 o r (p ++ [l]) y)
theorem zjH {ns:Nd} {p q:Pl} (h:q ∈ zbO ns p):q.length=p.length+1:=by
 have:=(zc4.mp h).2
 rw [this]; simp
end M04
namespace PySem
section
variable {prog:Program} {w:World} {A:Around} {E:Value->Shared->Prop} {s:Shared} {dd:Addr} {ob:Obj} {ens:Array DictEntry} {tick:Nat}
open PyProof.Rows in
end
end PySem
namespace L2
open PySem PySem.Spec PyProof.Rows PySem.W
section
variable {X:Cx} {pins:List (Addr × Obj)} {σ:St} {H:Hp} {s:Shared} {a:Addr}
end
section
variable {X:Cx} {o e f:Expr} {apos cpos:Pos} {td ty tx:TE}
end
section
variable {X:Cx} {pins:List (Addr × Obj)} {σ:St} {H:Hp} {s:Shared} {h':Heap}
end
end L2
namespace PL
open PySem L2
section
variable {X:Cx}
end
end PL
namespace M70
open PySem L2 Lb PL MT MS M04
open PySem.NumText (digitsVal)
theorem zhd (l:List Nat) (c:Nat):digitsVal (l ++ [c])=digitsVal l * 10+(c-48):=by simp [digitsVal,List.foldl_append]
theorem zhQ:∀ (n:Nat) {l:List Nat},l.length<=n->(∀ c ∈ l,Dig c)->l≠[]->l[0]?≠some 48->1<=digitsVal l
 | 0,l,hl,_,hn,_=>yL (List.length_eq_zero_iff.mp (by omega)) hn
 | n+1,l,hl,hd,hn,h0=>by
  rcases List.eq_nil_or_concat l with e | ⟨l',c,e⟩
  ·exact yL e hn
  ·rw [List.concat_eq_append] at e
   subst e; rw [zhd]
   by_cases z:l'=[]
   ·subst z
    have:=hd c (by simp)
    have:c≠48:=fun e=>h0 (by simp [e])
    unfold Dig at *
    simp [digitsVal]; omega
   ·have:=zhQ n (l:=l') (by simp at hl; omega) (fun c hc=>hd c (by simp [hc])) z (by
     rw [YE (by cases l' with | nil=>exact yL rfl z | cons _ _=>simp)] at h0
     exact h0)
    omega
theorem zpV:∀ (n:Nat) {l m:List Nat},l.length<=n->(∀ c ∈ l,Dig c)->(∀ c ∈ m,Dig c)->l[0]?≠some 48->m[0]?≠some 48->digitsVal l=digitsVal m->l=m:=by
 intro n
 induction n with
 | zero =>
  intro l m hl h1 h2 h3 h4 e
  have:l=[]:=List.length_eq_zero_iff.mp (by omega)
  subst this
  by_cases z:m=[]
  ·rw [z]
  ·have:=zhQ _ (yF _) h2 z h4
   rw [<- e] at this; simp [digitsVal] at this
 | succ n ih =>
  intro l m hl h1 h2 h3 h4 e
  rcases List.eq_nil_or_concat l with z | ⟨l',c,z⟩
  ·subst z
   by_cases z:m=[]
   ·rw [z]
   ·have:=zhQ _ (yF _) h2 z h4
    rw [<- e] at this; simp [digitsVal] at this
  ·rcases List.eq_nil_or_concat m with y | ⟨m',d,y⟩
   ·subst y
    have:=zhQ _ (yF _) h1 (by rw [z]; simp) h3
    rw [e] at this; simp [digitsVal] at this
   ·rw [List.concat_eq_append] at z y
    subst z y
    rw [zhd,zhd] at e
    have hc:=h1 c (by simp)
    have hd:=h2 d (by simp)
    unfold Dig at hc hd
    have e1:digitsVal l'=digitsVal m':=by omega
    have e2:c=d:=by omega
    have hd:∀ (a:List Nat) (x:Nat),(a ++ [x])[0]?≠some 48->a[0]?≠some 48:=fun a x h=>by
     cases a with
     | nil=>simp
     | cons y r=>simpa using h
    rw [ih (by simp at hl; omega) (fun x hx=>h1 x (by simp [hx])) (fun x hx=>h2 x (by simp [hx])) (hd _ _ h3) (hd _ _ h4) e1,e2]
theorem zgr {l:List Nat} (h:zaI l=true):(∀ c ∈ cut l,Dig c)/\(cut l)[0]?≠some 48/\PySem.intText? (st (cut l))=some ((digitsVal (cut l):Nat):Int):=by
 unfold zaI at h; simp only [yd,YA,yp] at h
 obtain ⟨⟨⟨⟨a1,a2⟩,b⟩,c⟩,d⟩:=h
 have hd:∀ x ∈ cut l,Dig x:=fun x hx=>(zd6 x).mp (by simpa [dig] using c x hx)
 refine ⟨hd,b,?_⟩
 have q:=PySem.intText_digits (x:=st (cut l)) (by rw [zaN]; exact hd) (by rw [zaN]; exact fun z=>by rw [z] at a1; simp at a1) (by rw [zb3]; omega)
 rw [zaN] at q; exact q
theorem zlP {l m:List Nat} (hl:zaI l=true) (hm:zaI m=true) (e:zcc l=zcc m):l=m:=by
 obtain ⟨a1,a2,a3⟩:=zgr hl; obtain ⟨b1,b2,b3⟩:=zgr hm; unfold zcc at e; rw [a3,b3] at e
 injection e with e1 e2
 have e3:digitsVal (cut l)=digitsVal (cut m):=by
  simp only [Option.getD_some] at e1; omega
 rw [<- zeL l,<- zeL m,e2,zpV _ (yF _) a1 b1 a2 b2 e3]
def klt (p q:Int × List Nat):Prop:=p.1<q.1\/(p.1=q.1/\p.2<q.2)
theorem zjE (p:Int × List Nat):¬ klt p p:=by
 rintro (h | ⟨_,h⟩)
 ·omega
 ·exact List.lt_irrefl _ h
theorem zly {p q:Int × List Nat} (h:klt p q):¬ klt q p:=by
 rintro (h' | ⟨h1,h2⟩)
 ·rcases h with h | ⟨h,_⟩ <;> omega
 ·rcases h with h | ⟨_,h⟩
  ·omega
  ·exact List.lt_irrefl _ (List.lt_trans h h2)
theorem znO (p q:Int × List Nat):klt p q\/klt q p\/p=q:=by
 unfold klt
 rcases Int.lt_trichotomy p.1 q.1 with h | h | h
 ·exact .inl (.inl h)
 ·by_cases h1:p.2<q.2
  ·exact .inl (.inr ⟨h,h1⟩)
  ·by_cases h2:q.2<p.2
   ·exact .inr (.inl (.inr ⟨h.symm,h2⟩))
   ·refine .inr (.inr (Prod.ext h ?_))
    exact List.le_antisymm (List.not_lt.mp h2) (List.not_lt.mp h1)
 ·exact .inr (.inl (.inl h))
def Ris (L:List (List Nat)):Prop:=L.Pairwise fun a b=>klt (zcc a) (zcc b)
theorem Ris.nodup {L:List (List Nat)} (h:Ris L):L.Nodup:=by
 rw [List.nodup_iff_pairwise_ne]; refine List.Pairwise.imp ?_ h; intro a b hk e; rw [e] at hk; exact zjE _ hk
theorem ziW {ls:List (List Nat)} (nd:ls.Nodup) (hp:∀ l ∈ ls,zaI l=true):Ris (srt (ltP (ls.map zcc)) [] ls):=by
 unfold srt; split
 ·rename_i h
  match ls,h with
  | [],_=>exact .nil
  | [a],_=>exact List.pairwise_singleton _ _
 ·rename_i h
  have o:=zgX (ls.map zcc)
  obtain ⟨nd2,hl,m⟩:=zdx o (N:=ls.length) (by omega)
  obtain ⟨b,s⟩:=So.sort o (N:=ls.length) (by omega)
  have hsz:(So.run (ltP (ls.map zcc)) (W.kas_sort ls.length)).size=ls.length:=b.size
  unfold Ris; rw [List.pairwise_map,List.pairwise_iff_getElem]; intro i j hi hj hij
  have z:=s i j hij (by omega)
  have gg:∀ i (hi:i<(So.run (ltP (ls.map zcc)) (W.kas_sort ls.length)).toList.length),So.g (So.run (ltP (ls.map zcc)) (W.kas_sort ls.length)) i=(So.run (ltP (ls.map zcc)) (W.kas_sort ls.length)).toList[i]:=fun i hi=>by
   rw [So.g_eq]
   have hi':i<(So.run (ltP (ls.map zcc)) (W.kas_sort ls.length)).size:=by simpa using hi
   rw [ye hi']; simp
  rw [gg i hi,gg j hj] at z; have ha:=(m _).mp (YZ hi); have hb:=(m _).mp (YZ hj)
  have hne:(So.run (ltP (ls.map zcc)) (W.kas_sort ls.length)).toList[i]≠(So.run (ltP (ls.map zcc)) (W.kas_sort ls.length)).toList[j]:=fun e=>by
   have:=(List.getElem_inj nd2).mp e
   omega
  generalize (So.run (ltP (ls.map zcc)) (W.kas_sort ls.length)).toList[i]=a at *; generalize (So.run (ltP (ls.map zcc)) (W.kas_sort ls.length)).toList[j]=c at *; simp only [List.getD,yC ha,yC hb,Option.getD_some]
  have k1:∀ x (hx:x<ls.length),(ls.map zcc).getD x (0,[])=zcc ls[x]:=fun x hx=>by simp [List.getD,yH,yC hx]
  have lt_iff:∀ x y (hx:x<ls.length) (hy:y<ls.length),ltP (ls.map zcc) x y=true↔klt (zcc ls[x]) (zcc ls[y]):=fun x y hx hy=>by
   unfold ltP klt; rw [k1 x hx,k1 y hy]; simp only [YA]
  rcases z with z | ⟨z,_⟩
  ·exact (lt_iff a c ha hb).mp z
  ·rcases znO (zcc ls[a]) (zcc ls[c]) with y | y | y
   ·exact y
   ·rw [(lt_iff c a hb ha).mpr y] at z
    cases z
   ·exact yL ((List.getElem_inj nd).mp (zlP (hp _ (YZ ha)) (hp _ (YZ hb)) y)) hne
end M70
namespace M71
open PySem L2 Lb PL MT MS M04 M70
end M71
namespace L2
open PySem PySem.Spec PyProof.Rows
section
variable {X:Cx}
end
end L2
namespace PL
open PySem L2
section
variable {X:Cx}
end
end PL
namespace M71
open PySem L2 Lb PL MT MS M04 M70
end M71
namespace PL
open PySem L2
section
variable {K:W.Frag} {n:Nat} {W:Wd} {Hi H:Hp} {Γ:Sts} {σ:St} {i:Nat} {o:OD} {b:Addr}
end
section
variable {X:Cx}
theorem znK (i j:Int) (l m:List Nat):ziH [.int i,.str (st l)] [.int j,.str (st m)]=decide (i<j\/(i=j/\l<m)):=by
 rw [zey]
 by_cases h:i=j
 ·rw [yP (yc V.int h),zey]
  by_cases e:l=m
  ·subst e
   rw [yP rfl]
   have hn:¬ (i<j\/(i=j/\l<l)):=by
    rintro (z | ⟨_,z⟩)
    ·omega
    ·exact List.lt_irrefl _ z
   exact (yR hn).symm
  ·rw [yN (fun q=>e (L2.st_inj (V.str.inj q)))]
   show decide ((st l).cps.toList<(st m).cps.toList)=_
   rw [zaN,zaN]
   refine decide_eq_decide.mpr ⟨fun z=>.inr ⟨h,z⟩,?_⟩
   rintro (z | ⟨_,z⟩)
   ·omega
   ·exact z
 ·rw [yN (fun q=>h (V.int.inj q))]
  show decide (i<j)=_
  refine decide_eq_decide.mpr ⟨.inl,?_⟩
  rintro (z | ⟨z,_⟩)
  ·exact z
  ·exact yL z h
def zsI:R2':=fun x y Q=>∃ i l j m,x=.tup [.int i,.str l]/\y=.tup [.int j,.str m]/\Q (.bl (decide (i<j\/(i=j/\l<m))))
theorem zrp (hu:X.A.units<cLine):Op2 X (compareOp .Lt) zsI:=⟨_,zpl hu,by
 rintro Hi H x y dx dy Q Q2 s d1 d2 ⟨i,l,j,m,rfl,rfl,q⟩ fin
 obtain ⟨a,xs,rfl,hx,dl⟩:=d1.tupI; obtain ⟨b,ys,rfl,hy,dm⟩:=d2.tupI; obtain ⟨v,w,rfl,e1,e2⟩:=ziy dl; obtain ⟨v',w',rfl,e1',e2'⟩:=ziy dm; rw [e1.intI,e2.strI] at hx; rw [e1'.intI,e2'.strI] at hy
 refine ⟨a,b,_,_,rfl,rfl,zaE s.sub hx,zaE s.sub hy,(show _/\_/\True from ⟨rfl,rfl,True.intro⟩),?_⟩
 rw [znK]; exact fin Hi H _ _ (Ext.refl s) (.bl _) q⟩
end
section
variable {P:Program} {w:World} {K:W.Frag} {mg:Str->Option Value} {base:Heap}
end
section
variable {X:Cx}
end
section
variable {X:Cx} {e a b c:Expr} {pos:Pos}
end
end PL
namespace L2
open PySem PySem.Spec PyProof.Rows
section
variable {X:Cx}
end
end L2
namespace PL
open PySem L2
section
variable {X:Cx}
end
end PL
namespace PL
open PySem L2 PySem.Spec PyProof.Rows
section
variable {X:Cx}
end
end PL
namespace L2
open PySem PySem.Spec PyProof.Rows Zp
section
variable {X:Cx}
end
end L2
namespace PL
open PySem L2
section
variable {X:Cx}
end
end PL
namespace L2
open PySem PySem.Spec PyProof.Rows
section
variable {prog:Program} {w:World} {K:Type} [DecidableEq K] {knd:HeapKind prog w K} {A:Around} {E:Value->Shared->Prop} {s:Shared} {d a:Addr} {k:K} {xs:List (K × Addr × Value)}
end
section
variable {X:Cx} {pins:List (Addr × Obj)} {σ:St} {H:Hp} {s:Shared} {a:Addr} {y d:V} {u r:Value} {o:Option V} {A:Around} {E:Value->Shared->Prop}
end
section
variable {X:Cx} {o e:Expr} {apos cpos:Pos} {td ty:TE}
end
end L2
namespace PL
open PySem L2
section
variable {X:Cx}
open Classical in
end
end PL
namespace Itm
open PySem
section
variable {prog:Program} {w:World} {A:Around} {E:Value->Shared->Prop} {s:Shared} {d:Addr} {o:Obj} {es:Array DictEntry} {ep:Nat}
end
end Itm
namespace L2
open PySem PySem.Spec PyProof.Rows Zp
section
variable {X:Cx}
end
end L2
namespace PL
open PySem L2
section
variable {X:Cx}
end
section
variable {P:Program} {w:World} {K:W.Frag} {mg:Str->Option Value} {base:Heap}
end
end PL
namespace EnK
open PySem
open AutoSeq1 (wpAny_loadPart')
section
variable {prog:Program} {w:World} {A:Around} {E:Value->Shared->Prop} {s:Shared}
end
end EnK
namespace L2
open PySem PySem.Spec PyProof.Rows Zp EnK
section
variable {X:Cx}
end
end L2
namespace PL
open PySem L2
section
variable {X:Cx}
end
section
variable {P:Program} {w:World} {K:W.Frag} {mg:Str->Option Value} {base:Heap}
end
section
variable {X:Cx}
end
end PL
namespace L2
open PySem PySem.Spec PyProof.Rows PySem.W
def cxX (CX:CXT) (P:Program) (w:World) (K:W.Frag) (mg:Str->Option Value) (base:Heap) (N:List Str) (qual:Str) (scope:Scope) (f:Addr) (cd:Value) (cl:List (Str × Addr)) (A:Around) (outer:List Env) (s:Shared) (H:Hp) (E:XK):Cx where
 prog:=P
 w:=w
 K:=K
 mg:=mg
 base:=base
 A:=A.deeper (envX qual scope s.heap.objs.size f cd cl)
 N:=N
 s₀:=s
 H₀:=H
 env:=envX qual scope s.heap.objs.size f cd cl
 outer:=outer
 stack:=envX qual scope s.heap.objs.size f cd cl :: outer
 ex:=[]
 calm:=true
 fn:=fun _=>false
 pn:=[]
 xe:=fun e s'=>wpAny (model P w) (A.deeper (envX qual scope s.heap.objs.size f cd cl)) (leaving (envX qual scope s.heap.objs.size f cd cl) e) (fun _ s''=>CX outer H s E e s'') (fun e' s''=>CX outer H s E e' s'') s'
structure LamSc (p x:Str) (sc:Scope):Prop where
 kind:sc.kind=.function
 co:sc.isCoroutine=false
 gen:sc.isGenerator=false
 par:sc.names.lookup p=some .local
 nocell:∀ y ∈ sc.names,y.2≠.cell
 isf:sc.names.lookup x=some .free
 free:∀ y ∈ sc.names,y.2=.free->y.1=x
theorem zpD {p x:Str} {sc:Scope} (h1:sc.kind=.function) (h2:sc.isCoroutine=false) (h3:sc.isGenerator=false) (hn:sc.names=[(p,.local),(x,.free)]) (ne:(x == p)=false):LamSc p x sc:=by
 refine ⟨h1,h2,h3,by rw [hn]; simp [List.lookup],fun y hy=>?_,by rw [hn]; simp [List.lookup,ne],fun y hy e=>?_⟩
 ·rw [hn] at hy
  simp at hy
  rcases hy with rfl | rfl <;> exact fun z=>nomatch z
 ·rw [hn] at hy
  simp at hy
  rcases hy with rfl | rfl
  ·cases e
  ·rfl
theorem zhV {p x:Str} {sc:Scope} {env:Env} (hn:sc.names=[(p,.local),(x,.free)]) (c:Addr) (h:env.cells.lookup x=some c):closureFor sc env=pure [(x,c)]:=by
 unfold closureFor cellOf; rw [hn]; simp [h]
theorem lk1 {x y:Str} {c d:Addr} (h:[(x,c)].lookup y=some d):y=x/\d=c:=by
 simp only [yk,List.lookup_nil] at h; split at h
 ·rename_i e
  exact ⟨by simpa using e,(Option.some.inj h).symm⟩
 ·cases h
theorem ziw {CX:CXT} {P:Program} {w:World} {K:W.Frag} {mg:Str->Option Value} {base:Heap} {p x:Str} {qual:Str} {scope:Scope} {f c:Addr} {cd:Value} {A:Around} {outer:List Env} {s:Shared} {H:Hp} {E:XK} {u ux:Value} {v vx:V} {h1:Heap} {tk:Nat}
  (S:LamSc p x scope) (hd:A.handled=none) (e0:Env0 P w K mg base A outer s H) (r:zbh v u) (rx:zbh vx ux) (hc:s.heap.IsCell c (some ux)) (fc:H c=none)
  (hns:h1.Ns s.heap.objs.size fun y=>([(p,u)]:List (Str × Value)).reverse.lookup y) (hk:∀ b o,s.heap.get? b=some o->h1.get? b=some o) :
  Inv (cxX CX P w K mg base [p,x] qual scope f cd [(x,c)] A outer s H E) [] [some v,some vx] H { s with heap:=h1,toks:=tk }:=by
 have noA:∀ b:Addr,b ∉ (cxX CX P w K mg base [p,x] qual scope f cd [(x,c)] A outer s H E).ex:=fun b z=>yL (show b ∈ ([]:List Addr) from z) (by simp)
 have hc1:h1.IsCell c (some ux):=by
  obtain ⟨o,ho,hd⟩:=hc; exact ⟨o,hk _ _ ho,hd⟩
 refine ⟨⟨e0.mod,S.kind,rfl,rfl,yF _,fun y z c' q1 q2=>?_,fun y hy=>?_,fun y c' z _=>(nomatch z),fun _=>hd,Around.frames_deeper e0.frames,.inr ⟨rfl,rfl⟩,fun b z=>yL z (noA b),e0.bs,e0.bsz,fun b _ _=>noA b,fun b z=>yL z (noA b),e0.funs,e0.frf,e0.tab⟩,
  rfl,e0.bare,Un.kept hk,⟨_,hns,fun i y a q1 q2 q3=>?_⟩,fun y c' q=>?_,e0.hok.fresh (yF _),fun y c' q=>?_,fun b hb=>yL (show b ∈ ([]:List (Addr × Obj)) from hb) (by simp),e0.hok.kept hk,rfl⟩
 ·rw [(lk1 q1).1,(lk1 q2).1]
 ·have hy:scope.names.lookup y=some .cell\/scope.names.lookup y=some .free:=hy
  rcases hy with hy | hy
  ·exact yL rfl (S.nocell _ (YK hy))
  ·have e:=S.free _ (YK hy) rfl
   subst e
   exact ⟨c,by show [(y,c)].lookup y=_; simp⟩
 ·match i,q1,q2 with
  | 0,q1,q2 =>
   cases q1; cases q2
   exact ⟨u,r,.inl ⟨S.par,by simp⟩⟩
  | 1,q1,q2 =>
   cases q1; cases q2
   exact ⟨ux,rx,.inr ⟨.inr S.isf,c,by show [(x,c)].lookup x=_; simp,hc1⟩⟩
  | i+2,q1,q2=>cases q1
 ·obtain ⟨rfl,rfl⟩:=lk1 (show [(x,c)].lookup y=some c' from q)
  exact ⟨_,hc1⟩
 ·obtain ⟨rfl,rfl⟩:=lk1 (show [(x,c)].lookup y=some c' from q)
  exact fc
section
variable {X:Cx} {pins:List (Addr × Obj)} {σ:St} {H:Hp} {s:Shared}
end
section
variable {X:Cx}
def zqS (cl:List (Str × Addr)) (qual:Str) (params:Arguments) (body:Expr) (scope:Scope):TE:=fun _ H Q=>∀ (f c:Addr) (oc:Obj) (vs:Array Value) (t:Tok) (pm ctv:Value) (H2:Hp),oc.data=.fields vs->vs[1]?=some (.str qual t)->NewLam H H2 f c (zcS cl qual params body scope pm c ctv) oc->Q (.ref f) H2
theorem znv {cl:List (Str × Addr)} {qual:Str} {params:Arguments} {body:Expr} {scope:Scope} {lpos:Pos} (L:LamAt X qual) (hcl:closureFor scope X.env=pure cl) (hdef:defaultsOf params X.env=([],[])):PE X (.Lambda params body scope lpos) (zqS cl qual params body scope):=by
 obtain ⟨⟨c,Pt,hc,hC,hT⟩,rfl⟩:=L
 intro pins s σ H Q I h; exact zge I hc hC hT hdef hcl h
abbrev I3:=Int × Int × Int
end
section
variable {X:Cx} {o e:Expr} {apos cpos:Pos} {td ty:TE}
end
end L2
namespace PL
open PySem L2
section
variable {X:Cx}
def zmc (R:D->D->D->Prop):Sp':=fun ds Q=>∃ d x k,ds=[d,x]/\R d x k/\Q (.val k)
def zsC:D->Option (List Nat)
 | .str l=>some l
 | _=>none
end
end PL
namespace L2
open PySem PySem.Spec PyProof.Rows PySem.W
abbrev Jt:=Shared->Hp->Prop
structure JK (J:Jt):Prop where
 keep:∀ {fs:List Addr} {s s':Shared} {H H':Hp},J s H->Un fs [] H H' s.heap s'.heap->J s' H'
theorem JK.and {J J':Jt} (a:JK J) (b:JK J'):JK fun s H=>J s H/\J' s H:=⟨fun h u=>⟨a.keep h.1 u,b.keep h.2 u⟩⟩
def zr0 (f c:Addr) (fo oc:Obj):Jt:=fun _ H=>H f=some (zbV (.inr fo))/\H c=some (zbV (.inr oc))
theorem zmC (f c:Addr) (fo oc:Obj):JK (zr0 f c fo oc):=⟨fun h u=>⟨u.frzs _ _ _ h.1,u.frzs _ _ _ h.2⟩⟩
structure FnJ0 (P:Program) (w:World) (K:W.Frag) (mg:Str->Option Value) (base:Heap) (J:Jt) (k:Nat) (f:Addr) (fd:FuncData) (ps:List Str) (sp:Sp):Prop where
 len:∀ vs H Q E,sp vs H Q E->vs.length=ps.length
 run:∀ (A:Around) (outer:List Env) (s:Shared) (H:Hp) (args:Args) (us:List Value) (vs:List V) (Q:VK) (E:XK),Room k A->Env0 P w K mg base A outer s H->BindsTo s fd args (ps.zip us)->zaT vs us->J s H->sp vs H Q E ->
  codeAny (model P w) A (.call (.ref f) args) (CR CX0 outer P w H s Q E) s
section
variable {X:Cx} {pins:List (Addr × Obj)} {σ:St} {H:Hp} {s:Shared} {J:Jt} {k:Nat} {f:Addr} {fd:FuncData} {ps:List Str} {sp:Sp}
theorem zfk {Q:VK} {E':Value->Shared->Prop} {us:List Value} {vs:List V} (F:FnJ0 X.prog X.w X.K X.mg X.base J k f fd ps sp) (hr:Room k X.A) (hb:BindsTo s fd ⟨us,[]⟩ (ps.zip us)) (hj:J s H)
  (I:Inv X pins σ H s) (r:zaT vs us) (h:sp vs H Q E0):wpAny (model X.prog X.w) X.A (call (.ref f) us) (EP X pins σ Q) E' s:=by
 refine wpAny_call (codeAny_mono (F.run X.A X.stack s H ⟨us,[]⟩ us vs Q E0 hr I.env0 hb r hj h) fun r s' hq=>?_)
 cases r with
 | error e=>exact hq.elim
 | ok fl =>
  cases fl with
  | ret u=>exact I.after hq
  | next=>exact False.elim hq
  | brk=>exact False.elim hq
  | cont=>exact False.elim hq
theorem zlf {x:Str} {p pos:Pos} {e:Expr} {es:List Expr} {t:TA} (F:FnJ0 X.prog X.w X.K X.mg X.base J k f fd ps sp) (hr:Room k X.A) (hg:Gl X x) (hm:X.mg x=some (.ref f)) (hk:W.keepIn X.K (.ref f)=true) (hb:zd4 X.K fd ps [])
  (hj:∀ pins σ H s,Inv X pins σ H s->J s H) (ha:PA X (e :: es) t) (hdb:(x == ("__debug__":Str))=false:=by decide) (he:starEach (e :: es) X.env=(false,eval e X.env) :: starEach es X.env:=by rfl) (hpl:(backTo pos (starEach es X.env)).any (·.1)=false:=by rfl) :
  PE X (.Call (.Name x p) (e :: es) [] pos) (zoD sp [] E0 t):=by
 intro pins s σ H Q I h; refine YG (zez I hg hm ?_ hdb)
 refine W.callWith_K (h₀:=X.base) I.ok.mod.kin hk (thn (ha pos pins s σ H _ I h) fun us s1 ⟨vs,H1,I1,r,q⟩=>⟨I1.kIn,?_⟩) he hpl
 have q:sp vs H1 Q E0:=by simpa using q
 have hl:us.length=ps.length:=by rw [<- r.length]; exact F.len _ _ _ _ q
 have hb':=hb s1 us I1.kIn (by rw [yf]; exact hl)
 rw [yf] at hb'; exact zfk F hr hb' (hj _ _ _ _ I1) I1 r q
def zoC (i:Nat) (f:Addr) (sp:Sp) (t:TA):TE:=fun σ H Q=>σ[i]?=some (some (.ref f))/\t σ H fun vs H1=>sp vs H1 Q E0
theorem zle {x p1:Str} {i:Nat} {p pos:Pos} {e:Expr} {t:TA} {fo oc:Obj} {c:Addr} (F:FnJ0 X.prog X.w X.K X.mg X.base J k f fd [p1] sp) (hr:Room k X.A) (hfo:fo.data=.func fd) (hb:∀ u,bindArgs fd ⟨[u],[]⟩=pure [(p1,u)])
  (hj:∀ pins σ H s,Inv X pins σ H s->J s H) (hl:∀ s H,J s H->H f=some (zbV (.inr fo))) (ha:PA X [e] t) (hN:X.N[i]?=some x) (hv:Vis X.env.scope x) (hd:(x == ("__debug__":Str))=false:=by decide) (hcd:(x == ("__classdict__":Str))=false:=by decide)
  (he:starEach [e] X.env=(false,eval e X.env) :: starEach [] X.env:=by rfl) (hpl:(backTo pos (starEach [] X.env)).any (·.1)=false:=by rfl) :
  PE X (.Call (.Name x p) [e] [] pos) (zoC i f sp t):=by
 intro pins s σ H Q I h; obtain ⟨hσ,h⟩:=h
 have at_:∀ {pins σ H s},Inv X pins σ H s->FnAt f s.heap:=fun {pins σ H s} I=>by
  have:=(I.hok f _ (hl _ _ (hj _ _ _ _ I))).1
  obtain ⟨oc,od,dt,sl⟩:=fo; cases hfo; exact ⟨_,_,_,_,this⟩
 refine YG (thn (zf0 (pos:=p) hN hv hd hcd pins s σ H (fun v H'=>v=.ref f/\H'=H) I ⟨_,hσ,rfl,rfl⟩) fun u s1 ⟨v,H1,I1,rv,e1,e2⟩=>?_)
 subst e1 e2
 obtain rfl:u=Value.ref f:=rv
 refine callWith_F (at_ I1) (thn (ha pos pins s1 σ H1 _ I1 h) fun us s2 ⟨vs,H2,I2,r,q⟩=>⟨at_ I2,?_⟩) he hpl
 have hl:=F.len _ _ _ _ q
 obtain ⟨v,rfl⟩:∃ v,vs=[v]:=by
  match vs,hl with
  | [v],_=>exact ⟨v,rfl⟩
 obtain ⟨u,rfl,ru⟩:=zc6 r
 refine zfk F hr (fun _ _ _ _ z=>?_) (hj _ _ _ _ I2) I2 r q
 show wpAny _ _ (bindArgs fd ⟨[u],[]⟩) _ _ _
 rw [hb u]; exact yE z
end
theorem zpR {P:Program} {w:World} {K:W.Frag} {mg:Str->Option Value} {base:Heap} {J:Jt} {k:Nat} {f:Addr} {name qual:Str} {params:Arguments} {body:List Stmt} {scope:Scope} {dV kV doc pm cdv ct oc:Value} {an od:Option Addr}
  {osl:Array (Option Value)} {N ps:List Str} {sp:Sp} (lk:K.lookup f=some ⟨oc,od,.func (W.fnOf name qual params body scope dV kV doc pm an cdv ct),osl⟩) (hcd:W.codeIn K cdv qual=true) (S:FnScope N ps scope)
  (len:∀ vs H Q E,sp vs H Q E->vs.length=ps.length)
  (hbody:∀ (A:Around) (outer:List Env) (s:Shared) (H:Hp) (vs:List V) (Q:VK) (E:XK),Room k (A.deeper (envOfC qual scope s.heap.objs.size f cdv))->J s H->sp vs H Q E ->
   ∃ t,PSs (zd9 CX0 P w K mg base N qual scope f cdv A outer s H E) body t/\t { nx:=fun _ H'=>Q .non H',rt:=Q } (start N vs) H) :
  FnJ0 P w K mg base J (k+1) f (W.fnOf name qual params body scope dV kV doc pm an cdv ct) ps sp:=by
 refine ⟨len,fun A outer s H args us vs Q E hr e0 hb r hj hsp=>?_⟩
 have hl:=len _ _ _ _ hsp
 have KX:K.In s.heap:=e0.mod.kin.keeps fun b o e=>(e0.bs b o e).1
 have lim:s.heap.NoLimit:=e0.mod.nolimit.keeps fun b o e=>(e0.bs b o e).1
 have hkind:∀ y ∈ ps.zip us,scope.names.lookup y.1=some .local\/(scope.names.lookup y.1=some .cell/\((cellsFrom (s.heap.objs.size+1) scope.names []).lookup y.1).isSome=true):=fun ⟨n,v⟩ hy=>by
  rcases S.par n (List.of_mem_zip hy).1 with q | q
  ·exact .inl q
  ·exact .inr ⟨q,W.cellsFrom_some _ _ _ (.inl q)⟩
 refine codeAny_call_function hr.depth (KX _ _ lk) rfl S.co S.gen rfl (W.codeRec_of KX hcd) (hb _ _ _ _ ?_)
 refine wpAny_newFunctionEnv_cells S.kind hkind fun env he s1 x=>?_
 subst he; refine ⟨lim.keeps x.toInCall.keep,codeAny_func ?_⟩; obtain ⟨t,ht,hq⟩:=hbody A outer s H vs Q E (hr.deeper _) hj hsp
 have I:Inv (zd9 CX0 P w K mg base N qual scope f cdv A outer s H E) [] (start N vs) H s1:=zeF S hr.hd e0 hl r x
 refine YD (ht [] s1 (start N vs) H _ I hq) (fun fl s' hs=>?_) fun e s' hs=>hs
 have fin:∀ {σ':St} {H':Hp} {v:V} {u:Value},Inv (zd9 CX0 P w K mg base N qual scope f cdv A outer s H E) [] σ' H' s'->zbh v u->Q v H'->CE outer P w H s Q u s' :=
  fun {σ' H' v u} J rv q=>⟨v,H',J.os,J.bare,J.base,J.hok,rv,q⟩
 cases fl with
 | ret u =>
  obtain ⟨v,σ',H',J,rv,q⟩:=hs; exact fin J rv q
 | next =>
  obtain ⟨σ',H',J,q⟩:=hs; exact fin (v:=V.non) (u:=Value.none) J rfl q
 | brk =>
  obtain ⟨_,_,_,q⟩:=hs; exact False.elim q
 | cont =>
  obtain ⟨_,_,_,q⟩:=hs; exact False.elim q
end L2
namespace PL
open PySem L2
structure FnJ (P:Program) (w:World) (K:W.Frag) (mg:Str->Option Value) (base:Heap) (J:Jt) (k:Nat) (x:Str) (ps:List Str) (sp:Sp'):Prop where
 ex:∃ f fd,FnJ0 P w K mg base J k f fd ps (zhr K sp)/\zd4 K fd ps []/\W.keepIn K (.ref f)=true/\mg x=some (.ref f)
section
variable {P:Program} {w:World} {K:W.Frag} {mg:Str->Option Value} {base:Heap} {J:Jt} {k:Nat} {x:Str} {ps:List Str} {sp:Sp'}
theorem Df.okJ {st:Stmt} {N:List Str} (d:Df K mg x st ps) (S:FnScope N ps (zm st)) (hJ:JK J) (len:∀ ds Q,sp ds Q->ds.length=ps.length)
  (hbody:∀ (f:Addr) (cdv:Value) (A:Around) (outer:List Env) (s:Shared) (H:Hp) (E:XK),(∀ pins σ H' s',L2.Inv (zd9 CX0 P w K mg base N x (zm st) f cdv A outer s H E).nox pins σ H' s'->J s' H')->Room k (A.deeper (PyProof.Rows.envOfC x (zm st) s.heap.objs.size f cdv))->∀ ds Q,sp ds Q ->
   ∃ t,PSs' (zd9 CX0 P w K mg base N x (zm st) f cdv A outer s H E).nox (zaU st) t/\t { nx:=fun _=>Q (.val .non),rt:=fun r _=>Q r } (zbn N ds)):FnJ P w K mg base J (k+1) x ps sp:=by
 obtain ⟨f,fd,F,b,m⟩:=d.ex; obtain ⟨oc,od,kV,doc,pm,an,cdv,ct,osl,rfl,lk,hcd⟩:=F.ex
 refine ⟨f,_,zpR lk hcd S (fun vs H Q E h=>?_) (fun A outer s H vs Q E hr hj h=>?_),b,F.kp,m⟩
 ·obtain ⟨Hi,ds,Q',_,dl,h,_⟩:=h
  rw [zl dl]; exact len ds Q' h
 ·obtain ⟨Hi,ds,Q',sb,dl,h,fin⟩:=h
  obtain ⟨t,h1,h2⟩:=hbody f cdv A outer s H E (fun pins σ H' s' I=>hJ.keep hj I.base) hr ds Q' h
  have hpl:ps.length<=N.length:=by have:=yc List.length S.pre; rw [YH] at this; omega
  refine ⟨_,h1.h.nox,⟨H,Hi,[]⟩,Hi,zbn N ds,_,zc5 (len ds Q' h) hpl sb dl,h2,?_⟩
  refine ⟨fun σ' H' Hi' Γ' s1 g1 q=>?_,fun _ _ _ _ _ _ q=>q.elim,fun _ _ _ _ _ _ q=>q.elim,fun v σ' H' Hi' Γ' r s1 g1 ro q=>?_⟩
  ·exact fin Hi' H' .non (.val .non) ⟨s1,fun b o e=>g1.keep b o e (by simp),g1.fz,fun b o e=>g1.fro b o e⟩ .non q
  ·exact fin Hi' H' v r ⟨s1,fun b o e=>g1.keep b o e (by simp),g1.fz,fun b o e=>g1.fro b o e⟩ ro q
end
section
variable {X:Cx} {J:Jt} {k:Nat} {x:Str} {ps:List Str} {sp:Sp'} {p pos:Pos} {e:Expr} {es:List Expr} {t:TA'}
theorem zpe (h:FnJ X.prog X.w X.K X.mg X.base J k x ps sp) (hr:Room k X.A) (hj:∀ pins σ H s,L2.Inv X pins σ H s->J s H) (ha:PA' X (e :: es) t) (hg:Gl X x:=by rfl) (hdb:(x == ("__debug__":Str))=false:=by decide) :
  PE' X (.Call (.Name x p) (e :: es) [] pos) (zy sp t):=by
 obtain ⟨f,fd,F,b,kp,m⟩:=h.ex; refine ⟨PE.weak (zlf F hr hg m kp b hj ha.pa hdb (zaP (zaL ha.pl).1) (zaY (zaL ha.pl).2)) ?_⟩
 rintro σ H Q ⟨W,Hi,Γ,Q',g,h,fin⟩
 refine ⟨W,Hi,Γ,_,g,h,?_⟩; intro vs H1 Hi1 Γ1 ds s1 g1 dl q; rw [yf]; refine ⟨Hi1,ds,_,g1.fz,dl,q,?_⟩; intro Hi2 H2 v r ex ro q2
 cases r with
 | val d=>exact fin v H2 ⟨Hi2,d,Γ1,s1.trans ex.hi,g1.ext ex,ro,q2⟩
 | own o =>
  obtain ⟨a,rfl,h1,h2,h3⟩:=ro; have nw:=zb6 g1 ex h1 h2 h3; obtain ⟨u,hu⟩:=h3.there; exact fin _ H2 ⟨upd Hi2 a u,_,Γ1,s1.trans (ex.hi.trans (zaB h1 u)),(g1.ext ex).freezeA nw.hi nw.h0 nw.ne hu,h3.den h1 hu,q2⟩
 | bk d o =>
  obtain ⟨b,dv,hol,h1,h2,h3⟩:=ro; have nw:=zb6 g1 ex h1 h2 h3; obtain ⟨u,hu⟩:=h3.there; exact fin _ H2 ⟨upd Hi2 b u,_,Γ1,s1.trans (ex.hi.trans (zaB h1 u)),(g1.ext ex).freezeA nw.hi nw.h0 nw.ne hu,hol b _ v o (h3.den h1 hu) (dv.mono (zaB h1 u)),q2⟩
structure FnV (P:Program) (w:World) (K:W.Frag) (mg:Str->Option Value) (base:Heap) (J:Jt) (k:Nat) (f:Addr) (R:D->D->Prop):Prop where
 jk:JK J
 ex:∃ (fo:Obj) (fd:FuncData) (p:Str),FnJ0 P w K mg base J k f fd [p] (zhr K (zgL R))/\fo.data=.func fd/\(∀ u,bindArgs fd ⟨[u],[]⟩=pure [(p,u)])/\∀ s H,J s H->H f=some (zbV (.inr fo))
def zr (i:Nat) (f:Addr) (R:D->D->Prop) (t:TA'):TE':=fun Γ Q=>Γ[i]?=some (.val (.adr f))/\t Γ fun ds Γ1=>∃ d k,ds=[d]/\R d k/\Q k Γ1
theorem zjl (i:Nat) {f:Addr} {R:D->D->Prop} (V:FnV X.prog X.w X.K X.mg X.base J k f R) (hr:Room k X.A) (hj:∀ pins σ H s,L2.Inv X pins σ H s->J s H) (ha:PA' X [e] t) (hN:X.N[i]?=some x:=by rfl) (hv:Vis X.env.scope x:=by first | exact Or.inl rfl | exact Or.inr (Or.inl rfl) | exact Or.inr (Or.inr rfl))
  (hd:(x == ("__debug__":Str))=false:=by decide) (hcd:(x == ("__classdict__":Str))=false:=by decide) :
  PE' X (.Call (.Name x p) [e] [] pos) (zr i f R t):=by
 obtain ⟨fo,fd,p1,F,hfo,hb,hl⟩:=V.ex; refine ⟨PE.weak (zle (i:=i) (oc:=fo) (c:=f) F hr hfo hb hj hl ha.pa hN hv hd hcd (zaP (zaL ha.pl).1) (zaY (zaL ha.pl).2)) ?_⟩
 rintro σ H Q ⟨W,Hi,Γ,Q',g,⟨hi,h⟩,fin⟩
 obtain ⟨v,hσ,dv⟩:=g.val i _ hi; rw [dv.adrI] at hσ; refine ⟨hσ,W,Hi,Γ,_,g,h,?_⟩
 rintro vs H1 Hi1 Γ1 ds s1 g1 dl ⟨d,k,rfl,hR,q⟩
 refine ⟨Hi1,[d],fun r=>r=.val k,g1.fz,dl,zhq hR,?_⟩
 intro Hi2 H2 v r ex ro hq; subst hq; exact fin v H2 ⟨Hi2,k,Γ1,s1.trans ex.hi,g1.ext ex,ro,q⟩
end
section
variable {P:Program} {w:World} {K:PySem.W.Frag} {mg:Str->Option Value} {base:Heap}
theorem zn2 {k:Nat} {f c:Addr} {qual p:Str} {params:Arguments} {body:Expr} {scope:Scope} {pm ctv:Value} {oc:Obj} {vs0:Array Value} {t0:Tok} {R:D->D->Prop}
  (S:FnScope [p] [p] scope) (hd:oc.data=.fields vs0) (hv:vs0[1]?=some (.str qual t0)) (hb:∀ u,bindArgs (zgf qual params body scope pm c ctv) ⟨[u],[]⟩=pure [(p,u)])
  (hbody:∀ (A:Around) (outer:List Env) (s:Shared) (H:Hp) (E:XK),Room k (A.deeper (PyProof.Rows.envOfC qual scope s.heap.objs.size f (.ref c)))->∀ ds Q,zgL R ds Q ->
   ∃ t,PE' (zd9 CX0 P w K mg base [p] qual scope f (.ref c) A outer s H E).nox body t/\t (zbn [p] ds) fun d _=>Q (.val d)) :
  FnV P w K mg base (zr0 f c (zda qual params body scope pm c ctv) oc) (k+1) f R:=by
 have F:=zjD (P:=P) (w:=w) (K:=K) (mg:=mg) (base:=base) (pm:=pm) (ctv:=ctv) (params:=params) (sp:=zgL R) S hd hv (zfQ R) hbody
 refine ⟨zmC _ _ _ _,zda qual params body scope pm c ctv,zgf qual params body scope pm c ctv,p,⟨fun vs H Q E h=>?_,fun A outer s H args us vs Q E hr e0 hb r hj h=>F.run A outer s H args us vs Q E hr e0 hb r ⟨hj.1,hj.2,h⟩⟩,rfl,hb,fun s H h=>h.1⟩
 obtain ⟨Hi,ds,Q',_,dl,⟨d,k,rfl,_⟩,_⟩:=h
 rw [zl dl]; rfl
end
section
variable {X:Cx}
def zJ (sp:Addr->Sp') (t1 t2:TE'):TE':=fun Γ Q=>t1 Γ fun d1 Γ1=>t2 Γ1 fun d2 Γ2=>∀ f,sp f [d1,d2,.adr f] fun r=>Q r.toD Γ2
theorem zcv {k kl:Nat} {x qual p1:Str} {st:Stmt} {ps:List Str} {params:Arguments} {body:Expr} {scope:Scope} {R:D->D->Prop} {sp:Addr->Sp'} {e1 e2:Expr} {t1 t2:TE'} {p lpos pos:Pos} (L:LamAt X qual) (D:Df X.K X.mg x st ps)
  (G:∀ (J:Jt) (f:Addr),FnV X.prog X.w X.K X.mg X.base J (kl+1) f R->FnJ X.prog X.w X.K X.mg X.base J k x ps (sp f)) (S:FnScope [p1] [p1] scope)
  (hbody:∀ (f c:Addr) (A:Around) (outer:List Env) (s:Shared) (H:Hp) (E:XK),Room kl (A.deeper (PyProof.Rows.envOfC qual scope s.heap.objs.size f (.ref c)))->∀ ds Q,zgL R ds Q ->
   ∃ t,PE' (zd9 CX0 X.prog X.w X.K X.mg X.base [p1] qual scope f (.ref c) A outer s H E).nox body t/\t (zbn [p1] ds) fun d _=>Q (.val d))
  (hb:∀ (pm:Value) (c:Addr) (ctv u:Value),bindArgs (zgf qual params body scope pm c ctv) ⟨[u],[]⟩=pure [(p1,u)])
  (hr:Room k X.A) (h1:PE' X e1 t1) (h2:PE' X e2 t2) (hg:Gl X x:=by rfl) (hdb:(x == ("__debug__":Str))=false:=by decide) (hs1:zb8 e1=false:=by rfl) (hs2:zb8 e2=false:=by rfl)
  (hdef:defaultsOf params X.env=([],[]):=by rfl) (hcl:closureFor scope X.env=pure []:=by rfl) :
  PE' X (.Call (.Name x p) [e1,e2,.Lambda params body scope lpos] [] pos) (zJ sp t1 t2):=by
 obtain ⟨g0,gd0,Fg,_,hm⟩:=D.ex
 refine ⟨fun pins s σ H Q I h=>?_⟩
 obtain ⟨W,Hi,Γ,Q',g,h,fin⟩:=h; refine YG (zez I hg hm ?_ hdb)
 refine PySem.W.callWith_K (h₀:=X.base) I.ok.mod.kin Fg.kp (thn (zcR h1.h (zcR h2.h (zcR (zmm (lpos:=lpos) L hdef hcl) zhB (zaP rfl)) (zaP hs2)) (zaP hs1) pos pins s σ H
  (fun vs H3=>∃ v1 v2 f c oc vs0 t0 pm ctv H2 Hi2 Γ2 d1 d2,vs=[v1,v2,.ref f]/\oc.data=.fields vs0/\vs0[1]?=some (.str qual t0)/\NewLam H2 H3 f c (zda qual params body scope pm c ctv) oc/\zaM Hi Hi2/\Good X.K X.N.length W Hi2 Γ2 σ H2/\Den X.K Hi2 v1 d1/\Den X.K Hi2 v2 d2/\∀ f,sp f [d1,d2,.adr f] fun r=>Q' r.toD Γ2) I ?pre) fun us s1 ⟨vs,H3,I1,r,q⟩=>⟨I1.kIn,?_⟩) ?he ?hpl
 case pre =>
  refine ⟨W,Hi,Γ,_,g,h,?_⟩
  rintro v1 H1 ⟨Hi1,d1,Γ1,s1,g1,dn1,q1⟩
  refine ⟨W,Hi1,Γ1,_,g1,q1,?_⟩
  rintro v2 H2 ⟨Hi2,d2,Γ2,s2,g2,dn2,q2⟩
  intro f c oc vs0 t0 pm ctv H3 hd hv nl; exact ⟨v1,v2,f,c,oc,vs0,t0,pm,ctv,H2,Hi2,Γ2,d1,d2,rfl,hd,hv,nl,s1.trans s2,g2,dn1.mono s2,dn2,q2⟩
 case he=>exact zaP hs1
 case hpl=>exact zaY (show zch [e2,Expr.Lambda params body scope lpos]=true by show (!zb8 e2 && (!zb8 (Expr.Lambda params body scope lpos) && true))=true; rw [hs2]; rfl)
 ·obtain ⟨v1,v2,f,c,oc,vs0,t0,pm,ctv,H2,Hi2,Γ2,d1,d2,rfl,hd,hv,nl,s12,g2,dn1,dn2,q⟩:=q
  have V:=zn2 (P:=X.prog) (w:=X.w) (K:=X.K) (mg:=X.mg) (base:=X.base) (k:=kl) (f:=f) (R:=R) S hd hv (hb pm c ctv) (hbody f c); obtain ⟨g',gd,F,b,kp,m⟩:=(G _ f V).ex
  have e:g'=g0:=by rw [hm] at m; cases m; rfl
  subst e; have ex0:=PL.NewLam.ext nl g2.fz
  have sp1:zhr X.K (sp f) [v1,v2,.ref f] H3 Q E0:=by
   refine ⟨Hi2,[d1,d2,.adr f],_,ex0.fz,.cons dn1 (.cons dn2 (.cons (.adr f) .nil)),q f,?_⟩; intro Hi4 H4 v r ex ro q2; have g3:=g2.ext ex0
   cases r with
   | val d=>exact fin v H4 ⟨Hi4,d,Γ2,s12.trans ex.hi,g3.ext ex,ro,q2⟩
   | own o =>
    obtain ⟨a,rfl,h1,h2,h3⟩:=ro; have nw:=zb6 g3 ex h1 h2 h3; obtain ⟨u,hu⟩:=h3.there; exact fin _ H4 ⟨upd Hi4 a u,_,Γ2,s12.trans (ex.hi.trans (zaB h1 u)),(g3.ext ex).freezeA nw.hi nw.h0 nw.ne hu,h3.den h1 hu,q2⟩
   | bk d o =>
    obtain ⟨b,dv,hol,h1,h2,h3⟩:=ro; have nw:=zb6 g3 ex h1 h2 h3; obtain ⟨u,hu⟩:=h3.there; exact fin _ H4 ⟨upd Hi4 b u,_,Γ2,s12.trans (ex.hi.trans (zaB h1 u)),(g3.ext ex).freezeA nw.hi nw.h0 nw.ne hu,hol b _ v o (h3.den h1 hu) (dv.mono (zaB h1 u)),q2⟩
  have hl:us.length=ps.length:=by rw [<- r.length]; exact F.len _ _ _ _ sp1
  have hb':=b s1 us I1.kIn (by rw [yf]; exact hl)
  rw [yf] at hb'; exact zfk F hr hb' ⟨nl.has.1,nl.has.2⟩ I1 r sp1
end
def zmQ (H:Hp):Hp:=fun a=>match H a with
 | some (.tup xs)=>some (.tup xs)
 | _=>none
theorem ziO {H:Hp} {a:Addr} {u:HO} (h:zmQ H a=some u):∃ xs,u=.tup xs/\H a=some (.tup xs):=by
 unfold zmQ at h; split at h
 ·rename_i xs e
  exact ⟨xs,(Option.some.inj h).symm,e⟩
 ·cases h
theorem ziP {H:Hp} {a:Addr} {xs:List V} (h:H a=some (.tup xs)):zmQ H a=some (.tup xs):=by
 unfold zmQ; rw [h]
theorem zkE {Hi H:Hp} (fz:Fz Hi H):zaM (zmQ H) Hi:=fun a u h=>by
 obtain ⟨xs,rfl,e⟩:=ziO h; exact fz.tups _ _ e
theorem zlU {K:W.Frag} {Hi H:Hp} {v:V} {d:D} (im:Imm d) (fz:Fz Hi H) (h:Den K Hi v d):Den K (zmQ H) v d:=by
 induction h with
 | non=>exact .non
 | bl b=>exact .bl b
 | int i=>exact .int i
 | str l=>exact .str l
 | ty n=>exact .ty n
 | cls C=>exact .cls C
 | tup h l r ih =>
  cases im with
  | tup hi=>exact .tup (ziP (fz.sub _ _ h)) l fun j v d h1 h2=>ih j v d h1 h2 (hi d (yW h2))
 | _=>cases im
def zp9 (K:W.Frag) (c:Addr) (xd:D):Jt:=fun s H=>∃ ux vx,s.heap.IsCell c (some ux)/\zbh vx ux/\H c=none/\Den K (zmQ H) vx xd
theorem znU (K:W.Frag) (c:Addr) (xd:D):JK (zp9 K c xd):=⟨fun {fs s s' H H'} h u=>by
 obtain ⟨ux,vx,⟨o,ho,hd⟩,r,n,den⟩:=h
 obtain ⟨sl,e⟩:=u.any ho n (by simp)
 refine ⟨ux,vx,⟨_,e,hd⟩,r,u.free _ _ ho n (by simp),den.mono fun a w h=>?_⟩
 obtain ⟨xs,rfl,e⟩:=ziO h; exact ziP (u.tups _ _ e)⟩
section
variable {P:Program} {w:World} {K:W.Frag} {mg:Str->Option Value} {base:Heap}
theorem zlW {k:Nat} {f c c':Addr} {qual p x:Str} {params:Arguments} {body:Expr} {scope:Scope} {pm ctv:Value} {oc:Obj} {vs0:Array Value} {t0:Tok} {R:D->D->D->Prop} {xd:D}
  (S:LamSc p x scope) (hd:oc.data=.fields vs0) (hv:vs0[1]?=some (.str qual t0)) (hb:∀ u,bindArgs (W.kla_fn "<lambda>" qual params body scope [(x,c)] pm (.ref c') ctv) ⟨[u],[]⟩=pure [(p,u)])
  (hbody:∀ (A:Around) (outer:List Env) (s:Shared) (H:Hp) (E:XK),Room k (A.deeper (W.envX qual scope s.heap.objs.size f (.ref c') [(x,c)]))->∀ ds Q,zmc R ds Q ->
   ∃ t,PE' (cxX CX0 P w K mg base [p,x] qual scope f (.ref c') [(x,c)] A outer s H E).nox body t/\t (zbn [p,x] ds) fun d _=>Q (.val d)) :
  FnV P w K mg base (fun s H=>zr0 f c' (zcS [(x,c)] qual params body scope pm c' ctv) oc s H/\zp9 K c xd s H) (k+1) f (fun d e=>R d xd e):=by
 refine ⟨(zmC _ _ _ _).and (znU _ _ _),zcS [(x,c)] qual params body scope pm c' ctv,W.kla_fn "<lambda>" qual params body scope [(x,c)] pm (.ref c') ctv,p,⟨fun vs H Q E h=>?_,fun A outer s H args us vs Q E hr e0 hbt r hj h=>?_⟩,rfl,hb,fun s H h=>h.1.1⟩
 ·obtain ⟨Hi,ds,Q',_,dl,⟨d,k,rfl,_⟩,_⟩:=h
  rw [zl dl]; rfl
 ·obtain ⟨⟨hf,hc⟩,ux,vx,hcell,rx,fc,den⟩:=hj
  obtain ⟨Hi,ds,Q',sb,dl,⟨d,e,rfl,hR,q⟩,fin⟩:=h
  obtain ⟨v,rfl,dv⟩:=zdC dl; obtain ⟨u,rfl,ru⟩:=zc6 r
  have of:s.heap.get? f=some (zcS [(x,c)] qual params body scope pm c' ctv):=(e0.hok f _ hf).1
  have oc':s.heap.get? c'=some oc:=(e0.hok c' _ hc).1
  have lim:s.heap.NoLimit:=e0.mod.nolimit.keeps fun b o e=>(e0.bs b o e).1
  refine W.kla_callFunE hr.depth of rfl S.co S.gen rfl ⟨c',oc,vs0,t0,rfl,oc',hd,hv⟩ (hbt _ _ _ _ ?_)
  refine wpAny_newFunctionEnv S.nocell (fun y hy=>?_) (fun h1 hns hsb=>?_) S.kind
  ·rw [yg.mp (show y ∈ [(p,u)] from hy)]
   exact S.par
  ·have hk:∀ b o,s.heap.get? b=some o->h1.get? b=some o:=fun b o e=>hsb.extBut b o (yS (yJ e)) (yB _ e)
   refine ⟨lim.keeps hk,W.kla_codeExpr ?_⟩; obtain ⟨t,ht,hq⟩:=hbody A outer s H E (hr.deeper _) [d,xd] Q' ⟨d,xd,e,rfl,hR,q⟩
   have I1:L2.Inv (cxX CX0 P w K mg base [p,x] qual scope f (.ref c') [(x,c)] A outer s H E) [] [some v,some vx] H { s with heap:=h1,toks:=s.toks+[(p,u)].length }:=ziw S hr.hd e0 ru rx hcell fc hns hk
   have g0:Good K [p,x].length ⟨H,Hi,[]⟩ Hi (zbn [p,x] [d,xd]) (L2.start [p,x] [v,vx]) H:=zc5 (ps:=[p,x]) rfl (yF _) sb (.cons dv (.cons (den.mono (zkE sb)) .nil))
   refine YD (ht.h.nox [] _ _ H (fun v' H'=>Q v' H') I1 ⟨⟨H,Hi,[]⟩,Hi,zbn [p,x] [d,xd],_,g0,hq,?_⟩) (fun u' s' hs=>?_) fun e s' hs=>hs
   ·rintro v' H' ⟨Hi',d',Γ',s1,g1,dv',q'⟩
    exact fin Hi' H' v' (.val d') ⟨s1,fun b o e=>g1.keep b o e (by simp),g1.fz,fun b o e=>g1.fro b o e⟩ dv' q'
   ·obtain ⟨v',H',J,rv,q'⟩:=hs
    exact ⟨v',H',J.os,J.bare,J.base,J.hok,rv,q'⟩
end
section
variable {X:Cx}
def zt (i:Nat) (sp:D->Addr->Sp') (t1 t2:TE'):TE':=fun Γ Q=>t1 Γ fun d1 Γ1=>t2 Γ1 fun d2 Γ2=>∃ xd,Γ2[i]?=some (.val xd)/\Imm xd/\∀ f,sp xd f [d1,d2,.adr f] fun r=>Q r.toD Γ2
theorem zf2 (i:Nat) {k kl:Nat} {g qual p1 x:Str} {st:Stmt} {ps:List Str} {params:Arguments} {body:Expr} {scope:Scope} {R:D->D->D->Prop} {sp:D->Addr->Sp'} {e1 e2:Expr} {t1 t2:TE'} {p lpos pos:Pos} (L:LamAt X qual) (D:Df X.K X.mg g st ps)
  (G:∀ (J:Jt) (xd:PL.D) (f:Addr),FnV X.prog X.w X.K X.mg X.base J (kl+1) f (fun d e=>R d xd e)->FnJ X.prog X.w X.K X.mg X.base J k g ps (sp xd f)) (S:LamSc p1 x scope)
  (hbody:∀ (f c c':Addr) (A:Around) (outer:List Env) (s:Shared) (H:Hp) (E:XK),Room kl (A.deeper (W.envX qual scope s.heap.objs.size f (.ref c') [(x,c)]))->∀ ds Q,zmc R ds Q ->
   ∃ t,PE' (cxX CX0 X.prog X.w X.K X.mg X.base [p1,x] qual scope f (.ref c') [(x,c)] A outer s H E).nox body t/\t (zbn [p1,x] ds) fun d _=>Q (.val d))
  (hb:∀ (pm:Value) (c c':Addr) (ctv u:Value),bindArgs (W.kla_fn "<lambda>" qual params body scope [(x,c)] pm (.ref c') ctv) ⟨[u],[]⟩=pure [(p1,u)])
  (hr:Room k X.A) (h1:PE' X e1 t1) (h2:PE' X e2 t2) (hkx:X.env.kindOf x=some .cell) (hN:X.N[i]?=some x) (hcl:∀ c,X.env.cells.lookup x=some c->closureFor scope X.env=pure [(x,c)])
  (hg:Gl X g:=by rfl) (hdb:(g == ("__debug__":Str))=false:=by decide) (hs1:zb8 e1=false:=by rfl) (hs2:zb8 e2=false:=by rfl)
  (hdef:defaultsOf params X.env=([],[]):=by rfl) :
  PE' X (.Call (.Name g p) [e1,e2,.Lambda params body scope lpos] [] pos) (zt i sp t1 t2):=by
 obtain ⟨g0,gd0,Fg,_,hm⟩:=D.ex
 refine ⟨fun pins s σ H Q I h=>?_⟩
 obtain ⟨W,Hi,Γ,Q',gg,h,fin⟩:=h; obtain ⟨cx,hx⟩:=I.ok.has x (.inl hkx); refine YG (zez I hg hm ?_ hdb)
 refine PySem.W.callWith_K (h₀:=X.base) I.ok.mod.kin Fg.kp (thn (zcR h1.h (zcR h2.h (zcR (znv (lpos:=lpos) L (hcl cx hx) hdef) zhB (zaP rfl)) (zaP hs2)) (zaP hs1) pos pins s σ H
  (fun vs H3=>∃ v1 v2 f c oc vs0 t0 pm ctv H2 Hi2 Γ2 d1 d2 xd vx,vs=[v1,v2,.ref f]/\oc.data=.fields vs0/\vs0[1]?=some (.str qual t0)/\NewLam H2 H3 f c (zcS [(x,cx)] qual params body scope pm c ctv) oc/\zaM Hi Hi2/\Good X.K X.N.length W Hi2 Γ2 σ H2/\Den X.K Hi2 v1 d1/\Den X.K Hi2 v2 d2/\σ[i]?=some (some vx)/\Den X.K Hi2 vx xd/\Imm xd/\∀ f,sp xd f [d1,d2,.adr f] fun r=>Q' r.toD Γ2) I ?pre) fun us s1 ⟨vs,H3,I1,r,q⟩=>⟨I1.kIn,?_⟩) ?he ?hpl
 case pre =>
  refine ⟨W,Hi,Γ,_,gg,h,?_⟩
  rintro v1 H1 ⟨Hi1,d1,Γ1,s1,g1,dn1,q1⟩
  refine ⟨W,Hi1,Γ1,_,g1,q1,?_⟩
  rintro v2 H2 ⟨Hi2,d2,Γ2,s2,g2,dn2,xd,hi,im,q2⟩
  intro f c oc vs0 t0 pm ctv H3 hd hv nl; obtain ⟨vx,hσ,dvx⟩:=g2.val i xd hi; exact ⟨v1,v2,f,c,oc,vs0,t0,pm,ctv,H2,Hi2,Γ2,d1,d2,xd,vx,rfl,hd,hv,nl,s1.trans s2,g2,dn1.mono s2,dn2,hσ,dvx,im,q2⟩
 case he=>exact zaP hs1
 case hpl=>exact zaY (show zch [e2,Expr.Lambda params body scope lpos]=true by show (!zb8 e2 && (!zb8 (Expr.Lambda params body scope lpos) && true))=true; rw [hs2]; rfl)
 ·obtain ⟨v1,v2,f,c,oc,vs0,t0,pm,ctv,H2,Hi2,Γ2,d1,d2,xd,vx,rfl,hd,hv,nl,s12,g2,dn1,dn2,hσ,dvx,im,q⟩:=q
  have V:=zlW (P:=X.prog) (w:=X.w) (K:=X.K) (mg:=X.mg) (base:=X.base) (k:=kl) (f:=f) (R:=R) (xd:=xd) S hd hv (hb pm cx c ctv) (hbody f cx c); obtain ⟨g',gd,F,b,kp,m⟩:=(G _ xd f V).ex
  have e:g'=g0:=by rw [hm] at m; cases m; rfl
  subst e; have ex0:=PL.NewLam.ext nl g2.fz
  have sp1:zhr X.K (sp xd f) [v1,v2,.ref f] H3 Q E0:=by
   refine ⟨Hi2,[d1,d2,.adr f],_,ex0.fz,.cons dn1 (.cons dn2 (.cons (.adr f) .nil)),q f,?_⟩; intro Hi4 H4 v r ex ro q2; have g3:=g2.ext ex0
   cases r with
   | val d=>exact fin v H4 ⟨Hi4,d,Γ2,s12.trans ex.hi,g3.ext ex,ro,q2⟩
   | own o =>
    obtain ⟨a,rfl,h1,h2,h3⟩:=ro; have nw:=zb6 g3 ex h1 h2 h3; obtain ⟨u,hu⟩:=h3.there; exact fin _ H4 ⟨upd Hi4 a u,_,Γ2,s12.trans (ex.hi.trans (zaB h1 u)),(g3.ext ex).freezeA nw.hi nw.h0 nw.ne hu,h3.den h1 hu,q2⟩
   | bk d o =>
    obtain ⟨b,dv,hol,h1,h2,h3⟩:=ro; have nw:=zb6 g3 ex h1 h2 h3; obtain ⟨u,hu⟩:=h3.there; exact fin _ H4 ⟨upd Hi4 b u,_,Γ2,s12.trans (ex.hi.trans (zaB h1 u)),(g3.ext ex).freezeA nw.hi nw.h0 nw.ne hu,hol b _ v o (h3.den h1 hu) (dv.mono (zaB h1 u)),q2⟩
  have hl:us.length=ps.length:=by rw [<- r.length]; exact F.len _ _ _ _ sp1
  have hb':=b s1 us I1.kIn (by rw [yf]; exact hl)
  rw [yf] at hb'; obtain ⟨m,hmm,look⟩:=I1.loc; obtain ⟨ux,rx,lk⟩:=look i x vx hN hσ (.inr (.inl hkx))
  have hcell:s1.heap.IsCell cx (some ux):=by
   rcases lk with ⟨z,_⟩ | ⟨_,c2,z,q⟩
   ·rw [hkx] at z; cases z
   ·rw [hx] at z; cases z; exact q
  exact zfk F hr hb' ⟨⟨nl.has.1,nl.has.2⟩,ux,vx,hcell,rx,I1.freeC x cx hx,zlU im ex0.fz dvx⟩ I1 r sp1
end
end PL
namespace HT
open PySem PyProof.Rows
section
variable {prog:Program} {w:World} {A:Around} {E:Value->Shared->Prop} {s:Shared}
theorem ziC (n:Nat):Builtin.Slice.sliceAdjust none none (-1) (n:Int)=((n:Int)-1,-1):=by
 have h1:(-1:Int)<0:=by omega
 unfold Builtin.Slice.sliceAdjust; simp only [h1,if_true]
theorem zij (n:Nat):Builtin.Slice.slicePlaces ((n:Int)-1) (-1) (-1)=n:=by
 unfold Builtin.Slice.slicePlaces
 have h1:¬ ((-1:Int) > 0):=by omega
 simp only [h1,if_false]
 split <;> simp <;> omega
theorem zd2 {sl:Addr} {t0:Tok} {n:Nat} {Q:Int × Int × Nat->Shared->Prop} (hs:s.heap.IsSliceOf sl .none .none (.int (-1) t0))
  (h:Q ((n:Int)-1,-1,n) s):wpAny (model prog w) A (Builtin.Slice.sliceApplied (.ref sl) (pure (n:Int))) Q E s:=by
 obtain ⟨os,hos,hcs,hds⟩:=id hs; unfold Builtin.Slice.sliceApplied Builtin.Slice.sliceFields; refine yA (yA (yt hos hds (x:=.none) rfl (yA (yt hos hds (x:=.none) rfl (yA (yt hos hds (x:=.int (-1) t0) rfl (yE ?_))))))); refine yA (slicePart_int ?_)
 show wpAny _ _ (if ((-1:Int) == 0)=true then _ else _) _ _ s
 rw [yN (by decide)]
 refine yA (slicePart_none (yA (slicePart_none (yA (yE ?_)))))
 show wpAny _ _ (match Builtin.Slice.sliceAdjust none none (-1) (n:Int) with | (lo,hi)=>pure (lo,(-1:Int),Builtin.Slice.slicePlaces lo hi (-1))) _ _ s
 rw [ziC n]
 show wpAny _ _ (pure ((n:Int)-1,(-1:Int),Builtin.Slice.slicePlaces ((n:Int)-1) (-1) (-1))) _ _ s
 rw [zij]; exact yE h
theorem zk7 (xs:Array Value):((List.range xs.size).filterMap fun (m:Nat)=>xs[((xs.size:Int)-1+(m:Int) * (-1)).toNat]?).toArray=xs.toList.reverse.toArray:=by
 congr 1
 have e:∀ k,k<=xs.size->((List.range k).filterMap fun (m:Nat)=>xs[((xs.size:Int)-1+(m:Int) * (-1)).toNat]?)=xs.toList.reverse.take k:=by
  intro k
  induction k with
  | zero=>intro _; rfl
  | succ k ih =>
   intro hk
   have e1:((xs.size:Int)-1+(k:Int) * (-1)).toNat=xs.size-1-k:=by omega
   rw [List.range_succ,List.filterMap_append,ih (by omega),YR]
   congr 1
   rw [List.filterMap_cons,List.filterMap_nil,e1]
   have h2:xs.toList.reverse[k]?=xs[xs.size-1-k]?:=by
    rw [List.getElem?_reverse (by simpa using (by omega:k<xs.size))]
    simp
   rw [h2]
   cases xs[xs.size-1-k]? <;> rfl
 rw [e _ (yF _),yn (by simp)]
theorem getItem_tuple_rev {t sl:Addr} {items:Array Value} {t0:Tok} {Q:Value->Shared->Prop} (ht:IsTup s.heap t items) (hs:s.heap.IsSliceOf sl .none .none (.int (-1) t0))
  (h:Q (.ref s.heap.objs.size) { s with heap:=s.heap.push { cls:=.type "tuple",data:=.seq items.toList.reverse.toArray } })
  (hsz:items.size<=sizeLine):wpAny (model prog w) A (getItem (.ref t) (.ref sl)) Q E s:=by
 have htake:sizeOk (.seq items.toList.reverse.toArray):=by
  show items.toList.reverse.toArray.size<=sizeLine
  simpa using hsz
 obtain ⟨os,hos,hcs,hds⟩:=id hs
 have hTs:s.TypeIs (.ref sl) "slice":=⟨os,hos,hcs⟩
 unfold getItem
 try with_reducible refine YO ?_
 first | refine yA (yE ?_) | skip
 refine yA (wpAny_sequenceKey ht.typeIs (by decide) ?_)
 refine yA (wpAny_callSpecial?_slot (name:=Str.ofString "__getitem__") ht.typeIs yw
  (yx yw ht.typeIs entry_tuple_getitem ?_ (args_tuple_getitem _ _)))
 show wpAny _ _ (Builtin.Tuple.tupleItemsOf (.ref t) >>= _) _ _ s
 refine yA (tupleItemsOf_ ht ?_); refine yA (wpAny_typeOf hTs ?_)
 rw [yP (by decide)]
 refine yA (zd2 hs ?_)
 have hno:¬ ((((items.size:Int)-1) == 0 && (-1:Int) == 1 && items.size == items.size)=true):=by
  intro q; rw [yd,yd] at q
  exact yL q.1.2 (by decide)
 show wpAny _ _ (if (((items.size:Int)-1) == 0 && (-1:Int) == 1 && items.size == items.size)=true then _ else _) _ _ s
 rw [yN hno,zk7]
 first
  | exact yA (m:=Builtin.Tuple.tupleExact _) (ya (yE ⟨_,rfl,yE h⟩) htake)
  | exact yA (m:=Builtin.Tuple.tupleExact _) (ya (yA (yE (yE ⟨_,rfl,yE h⟩))) htake)
  | exact yA (yA (m:=Builtin.Tuple.tupleExact _) (ya (yE (yE ⟨_,rfl,yE h⟩)) htake))
  | exact yA (yA (m:=Builtin.Tuple.tupleExact _) (ya (yE ⟨_,rfl,yE h⟩) htake))
end
end HT
namespace L2
open PySem PySem.Spec PyProof.Rows
section
variable {X:Cx} {e st:Expr} {te:TE} {ts:TO} {pos p2:Pos}
theorem zkB:∀ {xs:List V} {us:List Value},zaT xs us->zaT xs.reverse us.reverse:=by
 intro xs us r
 induction r with
 | nil=>exact .nil
 | cons a _ ih =>
  rw [List.reverse_cons,List.reverse_cons]; exact ih.append (.cons a .nil)
def zqP (K:W.Frag) (te:TE) (ts:TO):TE:=fun σ H Q=>te σ H fun x H1=>ts σ H1 fun o H2=>o=some (-1)/\∃ a xs,x=.ref a/\SqT K H2 a xs/\∀ p,H2 p=none->Q (.ref p) (upd H2 p (.tup xs.reverse))
theorem zns (he:PE X e te) (hs:PO X (some st) ts):PE X (.Subscript e (.Slice none none (some st) p2) pos) (zqP X.K te ts):=by
 intro pins s σ H Q I h
 refine Subscript_ (thn (he pins s σ H _ I h) fun v s1 ⟨x,H1,I1,r1,q1⟩=>?_)
 refine wpAny_Slice ?_; rw [evalPart_none]; refine yE ?_; refine yE ?_
 refine thn (hs pins s1 σ H1 _ I1 q1) fun vs s2 ⟨o,H2,I2,ps,q2⟩=>?_
 obtain ⟨rfl,a,xs,rfl,hx,q⟩:=q2
 cases ps with
 | int i t0 =>
 have I4:Inv X pins σ H2 { s2 with heap:=s2.heap.push { cls:=.type "slice",data:=.fields #[.none,.none,.int (-1) t0] } }:=I2.kept (t':=s2.toks) fun b ob q=>yB _ q
 cases r1; obtain ⟨its,r,ht,hz⟩:=I4.tuple hx
 have hlen:its.toArray.size=xs.length:=by rw [yM]; exact r.length.symm
 show wpAny (model X.prog X.w) X.A (subscriptTail e (.Slice none none (some st) p2) (.ref a) (.ref s2.heap.objs.size)) (EP X pins σ Q) X.xe { s2 with heap:=s2.heap.push { cls:=.type "slice",data:=.fields #[.none,.none,.int (-1) t0] } }
 refine tail_any (ops:=[.ref a,.ref s2.heap.objs.size]) ht.typeIs PyProof.Rows.slot_tuple_getitem.lookup ?_ (by with_unfolding_all rfl)
 refine HT.getItem_tuple_rev ht (Heap.IsSliceOf.new ..) ?_ (by rw [hlen]; exact hz)
 refine ⟨.ref _,_,I4.laid (t':=s2.toks) (o:=.tup xs.reverse) (fun b ob q=>yB _ q) (yF _) ?_,rfl,q _ (I4.hok.fresh (yF _))⟩
 exact ⟨by rw [YX]; exact hz,_,zkB r,IsTup.new _ _⟩
end
end L2
namespace PL
open PySem L2
section
variable {X:Cx} {e st:Expr} {te:TE'} {ts:TP'} {pos p2:Pos}
def zG (te:TE') (ts:TP'):TE':=fun Γ Q=>te Γ fun x Γ1=>ts Γ1 fun o Γ2=>o=some (-1)/\∃ xs,x=.tup xs/\Q (.tup xs.reverse) Γ2
theorem zoc {K:W.Frag} {Hi:Hp} {vs:List V} {ds:List D} (h:zbI K Hi vs ds):zbI K Hi vs.reverse ds.reverse:=by
 induction h with
 | nil=>exact .nil
 | cons a _ ih =>
  rw [List.reverse_cons,List.reverse_cons]; exact zbg ih (.cons a .nil)
theorem znt (he:PE' X e te) (hs:PB' X (some st) ts):PE' X (.Subscript e (.Slice none none (some st) p2) pos) (zG te ts):=by
 refine ⟨PE.weak (zns he.h hs.h) ?_⟩
 rintro σ H Q ⟨W,Hi,Γ,Q',g,h,fin⟩
 refine ⟨W,Hi,Γ,_,g,h,?_⟩
 rintro x H1 ⟨Hi1,dx,Γ1,s1,g1,den1,h1⟩
 refine ⟨W,Hi1,Γ1,_,g1,h1,?_⟩
 rintro i H2 Hi2 Γ2 s2 g2 ⟨rfl,ds,rfl,q⟩
 obtain ⟨a,vs,rfl,q1,q2⟩:=(den1.mono s2).tupI
 refine ⟨rfl,a,vs,rfl,zaE g2.fz.sub q1,fun p hp=>?_⟩
 have e:=Ext.new g2.fz hp (.tup vs.reverse); exact fin _ _ ⟨_,_,Γ2,s1.trans (s2.trans e.hi),g2.ext e,Den.mkT zw (zoc (q2.mono e.hi)),q⟩
end
end PL
namespace L2
open PySem PySem.Spec PyProof.Rows
section
variable {X:Cx}
def rTS (K:W.Frag):R2:=fun x y H Q=>(∃ a vs,x=.ref a/\SqT K H a vs)/\(∃ l,y=.str l)/\Q (.bl false) H
theorem znD (hu:X.A.units<cLine):OpR X (compareOp .Eq) (rTS X.K):=by
 intro pins s σ H x y v u Q I rx ry h
 obtain ⟨⟨a,vs,rfl,hq⟩,⟨l,rfl⟩,q⟩:=h
 cases rx; obtain ⟨t0,rfl⟩:=ry; obtain ⟨its,r,pl,hz⟩:=I.tuple hq; exact SeqAt.RcAt.tuple_str l t0 pl hu X.prog X.w X.xe _ ⟨.bl false,H,I,rfl,q⟩
theorem zpm:OpR X (compareOp .Is) (fun x y H Q=>∃ a b:Bool,x=.bl a/\y=.bl b/\Q (.bl (a == b)) H):=by
 intro pins s σ H x y v u Q I rx ry h; obtain ⟨a,b,rfl,rfl,q⟩:=h; cases rx; cases ry; exact is_bool (zaK I q rfl)
end
end L2
namespace PL
open PySem L2
section
variable {X:Cx}
def zsb:R2':=fun x y Q=>∃ a b:Bool,x=.bl a/\y=.bl b/\Q (.bl (a == b))
theorem zrq:Op2 X (compareOp .Is) zsb:=⟨_,zpm,by
 rintro Hi H x y dx dy Q Q2 s d1 d2 ⟨a,b,rfl,rfl,q⟩ fin
 exact ⟨a,b,d1.blI,d2.blI,fin Hi H _ _ (Ext.refl s) (.bl _) q⟩⟩
def zr6:R2':=fun x y Q=>(∃ ds,x=.tup ds)/\(∃ l,y=.str l)/\Q (.bl false)
theorem znJ {K:W.Frag}:zfK K (rTS K) zr6:=by
 rintro Hi H x y dx dy Q Q2 s d1 d2 ⟨⟨ds,rfl⟩,⟨l,rfl⟩,q⟩ fin
 obtain ⟨a,vs,rfl,h1,h2⟩:=d1.tupI; exact ⟨⟨a,vs,rfl,zaE s.sub h1⟩,⟨_,d2.strI⟩,fin Hi H _ _ (Ext.refl s) (.bl _) q⟩
def zsd:R2':=fun x y Q=>zhy x y Q\/zr6 x y Q
theorem zrt (hu:X.A.units+100<cLine):Op2 X (compareOp .Eq) zsd:=(zbN hu).or ⟨_,znD (by omega),znJ⟩
end
end PL
set_option synthInstance.maxSize 4096
set_option synthInstance.maxHeartbeats 2000000
namespace K03
open PySem L2 Lb PL MT M04 MS M70
def top (i:Nat):Stmt:=PySem.Challenge.pw_codemend_k03_what_is_a_tree.main.body.getD i (.Pass ⟨0,0,0,0⟩)
abbrev zdL:Stmt:=top 7
abbrev zej:Stmt:=top 8
abbrev zb9:Stmt:=top 9
abbrev zcN:Stmt:=top 10
abbrev zcO:Stmt:=top 11
abbrev zbC:Stmt:=top 12
abbrev zcZ:Stmt:=top 13
abbrev zek:Stmt:=top 16
abbrev zel:Stmt:=top 17
abbrev zdf:Stmt:=top 18
abbrev zbM:Stmt:=top 19
abbrev zcu:Stmt:=top 20
abbrev zc0:Stmt:=top 21
abbrev zb5:Stmt:=top 22
abbrev zct:Stmt:=top 24
abbrev zde:Stmt:=top 25
abbrev zdJ:Stmt:=top 26
abbrev zcs:Stmt:=top 27
abbrev zei:Stmt:=top 28
abbrev zdd:Stmt:=top 29
abbrev zbe:Stmt:=top 30
abbrev zfj:Stmt:=top 31
abbrev zbT:Stmt:=top 32
abbrev zdK:Stmt:=top 33
abbrev zbL:Stmt:=top 34
abbrev zbB:Stmt:=top 35
abbrev zaQ:Stmt:=top 36
abbrev zcM:Stmt:=top 37
def keyD (l:List Nat):D:=.tup [.int (zcc l).1,.str (zcc l).2]
def zbc:Sp':=fun ds Q=>∃ l,ds=[.str l]/\l.length<=1000/\Q (.val (.str (cut l)))
def zcp:Sp':=fun ds Q=>∃ l,ds=[.str l]/\zaI l=true/\Q (.val (keyD l))
def zh0 (d:D):Prop:=∃ t,zha d=some t/\(t="NoneType"\/t="bool"\/t="int"\/t="list"\/t="tuple"\/t="dict")
def zfa (l:List Nat):Bool:=decide (1<=l.length/\l.length<=12) && l.all fun c=>decide (c ∈ wsg)
def zqy (l:List Nat):Bool:=decide (1<=l.length/\l.length<=9) && decide (l[0]?≠some 48) && l.all dig
def zby:Sp':=fun ds Q=>∃ l y,ds=[.str l,.str y]/\l.length<=1000/\Q (.val (.bl (l.all fun c=>decide (c ∈ y))))
def za0:Sp':=fun ds Q=>∃ l,ds=[.str l]/\l.length<=1000/\Q (.val (.bl (zqy l)))
def zcq:Sp':=fun ds Q=>∃ d,ds=[d]/\((∃ l,d=.str l/\l.length<=1000/\Q (.val (.bl (zaI l))))\/(zh0 d/\Q (.val (.bl false))))
def zcf:Sp':=fun ds Q=>∃ d,ds=[d]/\((∃ l,d=.str l/\l.length<=1000/\Q (.val (.bl (zfa l))))\/(zh0 d/\Q (.val (.bl false))))
instance:MSp zcf:=⟨fun _ _ _ h ⟨d,e,q⟩=>⟨d,e,q.imp (fun ⟨l,a,b,z⟩=>⟨l,a,b,h _ z⟩) fun ⟨a,z⟩=>⟨a,h _ z⟩⟩⟩
theorem zbk {n:Nat} (h:n<=1000):n<=sizeLine:=Nat.le_of_lt (zcL h)
theorem zsN {c:Prop} [Decidable c] {p q:Prop} (h:c) (x:p):if c then p else q:=by rw [yP h]; exact x
theorem zic (l y:List Nat):(Txt.rstripChars (st l) (st y)).cps.toList=(l.reverse.dropWhile fun c=>decide (c ∈ y)).reverse:=by
 have hc:(st y).cps.contains=fun c=>decide (c ∈ y):=by
  funext c
  simp [st]
 have hh:PySem.stripHi (st y).cps.contains true (st l) (PySem.stripLo (st y).cps.contains false (st l))=l.length-(l.reverse.takeWhile fun c=>decide (c ∈ y)).length:=by
  unfold PySem.stripHi PySem.stripLo
  rw [yP rfl,yN (by decide),zaN,List.drop_zero,hc,zb3]
 have ht:l.take (l.length-(l.reverse.takeWhile fun c=>decide (c ∈ y)).length)=(l.reverse.dropWhile fun c=>decide (c ∈ y)).reverse:=by
  have e:l=(l.reverse.dropWhile fun c=>decide (c ∈ y)).reverse ++ (l.reverse.takeWhile fun c=>decide (c ∈ y)).reverse:=by
   rw [<- List.reverse_append,List.takeWhile_append_dropWhile,List.reverse_reverse]
  have el:=yc List.length e; rw [yQ,YX (as:=List.takeWhile _ _)] at el
  have z:l.take (l.length-(l.reverse.takeWhile fun c=>decide (c ∈ y)).length)=((l.reverse.dropWhile fun c=>decide (c ∈ y)).reverse ++ (l.reverse.takeWhile fun c=>decide (c ∈ y)).reverse).take (l.length-(l.reverse.takeWhile fun c=>decide (c ∈ y)).length):=yc (List.take _) e
  rw [z,List.take_left' (by omega)]
 unfold Txt.rstripChars Txt.stripBy; split
 ·rename_i hs
  unfold PySem.stripSame at hs; rw [hh,zb3] at hs; simp only [yd,beq_iff_eq] at hs
  rw [zaN,<- ht,yn (by omega)]
 ·unfold PySem.stripped
  rw [hh,PyProof.Rows.strSub_mk]; unfold PySem.stripLo
  rw [yN (by decide),zaN,List.drop_zero,Nat.sub_zero,ht]
theorem zcn {α:Type} (xs:List α) {i:Int} (h0:0<=i) (h1:i<xs.length):∃ d,atI xs i=some d/\d ∈ xs:=by
 obtain ⟨n,rfl⟩:=Int.eq_ofNat_of_zero_le h0
 have hn:n<xs.length:=by omega
 exact ⟨xs[n],zdV (yC hn),YZ hn⟩
@[simp] theorem sz1:1<=sizeLine:=zbk (by decide)
@[simp] theorem sz2:2<=sizeLine:=zbk (by decide)
@[simp] theorem sz3:3<=sizeLine:=zbk (by decide)
@[simp] theorem sz4:4<=sizeLine:=zbk (by decide)
theorem zjz {n:Int} (h0:0<=n) (h1:n<10 ^ 10):n.natAbs.log2<1920:=by
  refine yT ?_ (by decide:40<=1920)
  by_cases hz:n.natAbs=0
  · rw [hz]; decide
  · exact (Nat.log2_lt hz).mpr (by have : n.natAbs < 10 ^ 10 := by omega
                                   have:10 ^ 10<2 ^ 40:=by decide
                                   omega)
theorem md {i:Int} {n:Nat} (h:0<n):0<=i % (n:Int)/\i % (n:Int)<n:=⟨Int.emod_nonneg _ (by omega),Int.emod_lt_of_pos _ (by omega)⟩
theorem zeD {l:List Nat} (h:zaI l=true):∃ m n,m=(cut l).length/\1<=m/\m<=9/\m<=l.length/\l.length<=12/\l.take m=cut l/\l.drop m=zdn l/\(∀ c,c ∈ cut l->dig c=true)/\(∀ c,c ∈ zdn l->dig c=false)/\PySem.intText? (st (cut l))=some n/\zcc l=(n,zdn l):=by
 have h':=h; unfold zaI at h; simp only [yd,YA,yp] at h
 obtain ⟨⟨⟨⟨a1,a2⟩,b⟩,c⟩,d⟩:=h
 have e:=zeL l; have el:=yc List.length e; rw [yQ] at el
 have t:l.take (cut l).length=cut l:=by
  have z:(cut l ++ zdn l).take (cut l).length=cut l:=List.take_left' rfl
  rw [e] at z; exact z
 have t2:l.drop (cut l).length=zdn l:=by
  have z:(cut l ++ zdn l).drop (cut l).length=zdn l:=List.drop_left' rfl
  rw [e] at z; exact z
 have r:∃ n,PySem.intText? (st (cut l))=some n:=by
  have q:=PySem.intText_digits (x:=st (cut l)) (by rw [zaN]; exact fun x hx=>(zd6 x).mp (by simpa [dig] using c x hx)) (by rw [zaN]; exact fun z=>by rw [z] at a1; simp at a1) (by rw [zb3]; omega)
  exact ⟨_,q⟩
 obtain ⟨n,r⟩:=r
 refine ⟨_,n,rfl,a1,a2,by omega,by omega,t,t2,c,fun x hx=>?_,r,by unfold zcc; rw [r]; rfl⟩
 have:=zkH l x hx
 cases z:dig x with
 | false=>rfl
 | true=>rw [zeJ z] at this; cases this
section
variable {P:Program} {w:World} {K:W.Frag} {mg:Str->Option Value} {base:Heap}
theorem zjM {d:D} {t n:String} {b:Bool} {Q:D->Prop} (hk:zha d=some t) (hz:W.kitOne K (.type t) (.type n)=some b) (q:Q (.bl b)):zih K [d,.ty n] Q:=⟨d,.type t,.ty n,.type n,b,rfl,rfl,.inl ⟨t,rfl,hk⟩,hz,q⟩
theorem zgu (y:List Nat) (Q:List D->Prop):∀ (l:List Nat) (acc:List Bool) (s0:Slot),Q ((acc ++ l.map fun c=>decide (c ∈ y)).map .bl) ->
  zdX (zx 0) za3 (zaX zoV (zab 0) (zab 1)) Q (l.map fun c=>.str [c]) (acc.map .bl) [s0,.val (.str y)]
 | [],acc,s0,h=>by simpa [zdX] using h
 | c :: l,acc,s0,h=>by
  have ih:=zgu y Q l (acc ++ [decide (c ∈ y)]) (.val (.str [c])) (by simpa using h)
  simpa [zdX,vo,voS,zx,za3,zaX,zab] using ih
theorem zgM:FnScope ["text","signs"] ["text","signs"] (zm zcZ):=⟨rfl,rfl,rfl,by decide +kernel,rfl,by decide +kernel,by decide +kernel⟩
theorem zg2 (d:Df K mg "has_only" zcZ ["text","signs"]) (z_all:mg "all"=none):Fn P w K mg base 1 "has_only" ["text","signs"] zby:=by
 refine d.ok zgM (fun ds Q h=>?_) (fun f cdv A outer s H E hr ds Q h=>⟨_,(zn (zV (zZ (zoh rfl) z_all PyProof.Rows.boot_all (zc (za2 (zcP (fsc:=zm zcZ) (N:=["text","signs"]) (N':=["sign","signs"]) (src:=[none,some 1]) (by refine ⟨rfl,?_,?_,?_,rfl,rfl⟩ <;> decide +kernel) (zdi (pv' 0)) (fun _ _ _ _ _ _=>(zaR 0 (show (["sign","signs"]:List Str).Nodup by decide +kernel))) (fun _ _ _ _ _ _=>zc2) (fun _ _ _ _ _ _=>(zbm (zpw (zaC hr)) (pv' 0) (pv' 1))))) zi)))),?_⟩)
 ·obtain ⟨l,y,rfl,_⟩:=h
  rfl
 obtain ⟨l,y,rfl,hl,q⟩:=h; simp [zaj,zak,zao,zaf,zx,zab,tC',zau,zaX,tB',zal,zai,zba,zL,zay,zP,zbj,zae,zA,zag,zam,za4,zbi,za7,zah,za8,zo,zav,zax,zM,zE,zy,za3,zB,zan,zC,zaq,zD,zK,zH,zI,zap,zad,za9,zN,zR,zaz,zar,zF,zas,zaw,zQ,zS,zaA,zat,zu,zO,zp,zq,zau,zr,zJ,zt,zG]; refine ⟨zbk hl,?_⟩; refine zgu y _ l [] _ ?_; rw [zgS rfl]
 simpa using q
theorem zfh:FnScope ["label"] ["label"] (zm zcO):=⟨rfl,rfl,rfl,by decide +kernel,rfl,by decide +kernel,by decide +kernel⟩
theorem zfx (d:Df K mg "figures_of" zcO ["label"]) {t_SMALL_LETTERS:Tok} (g_SMALL_LETTERS:mg "SMALL_LETTERS"=some (.str (st zpA) t_SMALL_LETTERS)):Fn P w K mg base 1 "figures_of" ["label"] zbc:=by
 refine d.ok zfh (fun ds Q h=>?_) (fun f cdv A outer s H E hr ds Q h=>⟨_,(zn (zV (zpf zls PySem.F.plainAttrs_str PySem.F.slot_str_rstrip PySem.F.type_str_rstrip (pv' 0) (zc (zji g_SMALL_LETTERS) zi)))),?_⟩)
 ·obtain ⟨l,rfl,_⟩:=h
  rfl
 obtain ⟨l,rfl,hl,q⟩:=h; simp [zaj,zak,zao,zaf,zx,zab,tC',zau,zaX,tB',zal,zai,zba,zL,zay,zP,zbj,zae,zA,zag,zam,za4,zbi,za7,zah,za8,zo,zav,zax,zM,zE,zy,za3,zB,zan,zC,zaq,zD,zK,zH,zI,zap,zad,za9,zN,zR,zaz,zar,zF,zas,zaw,zQ,zS,zaA,zat,zu,zO,zp,zq,zau,zr,zJ,zt,zG]; refine ⟨zbk hl,?_⟩; rw [zic]; exact q
theorem zdr:FnScope ["text"] ["text"] (zm zbC):=⟨rfl,rfl,rfl,by decide +kernel,rfl,by decide +kernel,by decide +kernel⟩
theorem zdv (d:Df K mg "is_label_number" zbC ["text"]) (G_has_only:Fn P w K mg base 1 "has_only" ["text","signs"] zby) (z_len:mg "len"=none) {t_FIGURES:Tok} (g_FIGURES:mg "FIGURES"=some (.str (st zoo) t_FIGURES)) {t_MOST_FIGURES:Tok} (g_MOST_FIGURES:mg "MOST_FIGURES"=some (.int 9 t_MOST_FIGURES)):Fn P w K mg base 2 "is_label_number" ["text"] za0:=by
 refine d.ok zdr (fun ds Q h=>?_) (fun f cdv A outer s H E hr ds Q h=>⟨_,(zk (za1 (zdh (zfZ zpt zpt zj (zZ zbQ z_len ym (zc (pv' 0) zi)) (zhA g_MOST_FIGURES))) (zn (zV zbw)) zaG)
  (zn (zV (zbE (zbm (zjs (zbt hr)) (zT (i_A (zaC hr)) (pv' 0) zj) (zW [48])) (zca (zbf G_has_only (hr.mono (by decide)) (zc (pv' 0) (zc (zji g_FIGURES) zi)))))))),?_⟩)
 ·obtain ⟨l,rfl,_⟩:=h
  rfl
 obtain ⟨l,rfl,hl,q⟩:=h; simp [zaj,zak,zao,zaf,zx,zab,tC',zau,zaX,tB',zal,zai,zba,zL,zay,zP,zbj,zae,zA,zag,zam,za4,zbi,za7,zah,za8,zo,zav,zax,zM,zE,zy,za3,zB,zan,zC,zaq,zD,zK,zH,zI,zap,zad,za9,zN,zR,zaz,zar,zF,zas,zaw,zQ,zS,zaA,zat,zu,zO,zp,zq,zau,zr,zJ,zt,zG,zby]; refine ⟨zbk hl,?_⟩; unfold zqy at q
 cases l with
 | nil=>exact .inl ⟨by decide,by simpa using q⟩
 | cons c r =>
  by_cases h9:(c :: r).length<=9
  ·refine .inr ⟨by simp; omega,.inr ⟨by omega,zbk hl,c,zdV (j:=0) rfl,?_⟩⟩
   by_cases h48:c=48
   ·subst h48; simpa using q
   ·refine .inr ⟨h48,hl,?_⟩
    rw [yZ (show 1<=(c :: r).length/\(c :: r).length<=9 from ⟨by simp,h9⟩),yZ (show (c :: r)[0]?≠some 48 by simpa using h48)] at q
    exact q
  ·refine .inr ⟨by simp; omega,.inl ⟨by omega,?_⟩⟩
   rw [yR (show ¬ (1<=(c :: r).length/\(c :: r).length<=9) by omega)] at q
   exact q
theorem zeg:FnScope ["thing","figures"] ["thing"] (zm zdL):=⟨rfl,rfl,rfl,by decide +kernel,rfl,by decide +kernel,by decide +kernel⟩
theorem zg1 (d:Df K mg "is_label" zdL ["thing"]) (G_figures_of:Fn P w K mg base 1 "figures_of" ["label"] zbc) (G_is_label_number:Fn P w K mg base 2 "is_label_number" ["text"] za0) (z_isinstance:mg "isinstance"=none) (z_len:mg "len"=none) (z_str:mg "str"=none) {t_MOST_LETTERS:Tok} (g_MOST_LETTERS:mg "MOST_LETTERS"=some (.int 3 t_MOST_LETTERS)):Fn P w K mg base 3 "is_label" ["thing"] zcq:=by
 refine d.ok zeg (fun ds Q h=>?_) (fun f cdv A outer s H E hr ds Q h=>⟨_,(zk (za1 (zdh (zdN (zZ (zeN K rfl) z_isinstance yr (zc (pv' 0) (zc (zeq z_str PyProof.Rows.boot_str) zi))))) (zn (zV zbw)) zaG)
  (zk (zac 1 zeg.nd (zbf G_figures_of (hr.mono (by decide)) (zc (pv' 0) zi)))
  (zn (zV (zbE (zbf G_is_label_number (hr.mono (by decide)) (zc (pv' 1) zi)) (zca (zbm zpt (zX znG (zZ zbQ z_len ym (zc (pv' 0) zi)) (zZ zbQ z_len ym (zc (pv' 1) zi))) (zhA g_MOST_LETTERS)))))))),?_⟩)
 ·obtain ⟨l,rfl,_⟩:=h
  rfl
 obtain ⟨d,rfl,h⟩:=h
 rcases h with ⟨l,rfl,hl,q⟩ | ⟨hn,q⟩
 ·have hc:(cut l).length<=l.length:=by
   have:=yc List.length (zeL l)
   rw [yQ] at this; omega
  simp [zaj,zak,zao,zaf,zx,zab,tC',zau,zaX,tB',zal,zai,zba,zL,zay,zP,zbj,zae,zA,zag,zam,za4,zbi,za7,zah,za8,zo,zav,zax,zM,zE,zy,za3,zB,zan,zC,zaq,zD,zK,zH,zI,zap,zad,za9,zN,zR,zaz,zar,zF,zas,zaw,zQ,zS,zaA,zat,zu,zO,zp,zq,zau,zr,zJ,zt,zG,zbc,za0]
  refine ⟨hl,by omega,?_⟩
  have e:zaI l=(zqy (cut l) && decide (l.length-(cut l).length<=3)):=rfl
  rw [e] at q
  cases hn:zqy (cut l) with
  | false=>rw [hn] at q; simpa using q
  | true =>
   rw [hn] at q
   refine zsN rfl ⟨zbk hl,zbk (by omega),?_⟩
   have e2:decide ((l.length:Int)-((cut l).length:Int)<=3)=decide (l.length-(cut l).length<=3):=decide_eq_decide.mpr (by omega)
   rw [e2]
   simpa using q
 ·obtain ⟨t,hk,ht⟩:=hn
  have hz:W.kitOne K (.type t) (.type "str")=some false:=by rcases ht with rfl | rfl | rfl | rfl | rfl | rfl <;> rfl
  simp [zaj,zak,zao,zaf,zx,zab,tC',zau,zaX,tB',zal,zai,zba,zL,zay,zP,zbj,zae,zA,zag,zam,za4,zbi,za7,zah,za8,zo,zav,zax,zM,zE,zy,za3,zB,zan,zC,zaq,zD,zK,zH,zI,zap,zad,za9,zN,zR,zaz,zar,zF,zas,zaw,zQ,zS,zaA,zat,zu,zO,zp,zq,zau,zr,zJ,zt,zG]; exact zjM hk hz (.inl ⟨rfl,q⟩)
theorem zia:FnScope ["thing"] ["thing"] (zm zej):=⟨rfl,rfl,rfl,by decide +kernel,rfl,by decide +kernel,by decide +kernel⟩
theorem zio (d:Df K mg "is_word" zej ["thing"]) (G_has_only:Fn P w K mg base 1 "has_only" ["text","signs"] zby) (z_isinstance:mg "isinstance"=none) (z_len:mg "len"=none) (z_str:mg "str"=none) {t_LONGEST_WORD:Tok} (g_LONGEST_WORD:mg "LONGEST_WORD"=some (.int 12 t_LONGEST_WORD)) {t_WORD_SIGNS:Tok} (g_WORD_SIGNS:mg "WORD_SIGNS"=some (.str (st wsg) t_WORD_SIGNS)):Fn P w K mg base 2 "is_word" ["thing"] zcf:=by
 refine d.ok zia (fun ds Q h=>?_) (fun f cdv A outer s H E hr ds Q h=>⟨_,(zk (za1 (zdh (zdN (zZ (zeN K rfl) z_isinstance yr (zc (pv' 0) (zc (zeq z_str PyProof.Rows.boot_str) zi))))) (zn (zV zbw)) zaG)
  (zn (zV (zbE (zjk zpt zpt zj (zZ zbQ z_len ym (zc (pv' 0) zi)) (zhA g_LONGEST_WORD)) (zca (zbf G_has_only (hr.mono (by decide)) (zc (pv' 0) (zc (zji g_WORD_SIGNS) zi)))))))),?_⟩)
 ·obtain ⟨l,rfl,_⟩:=h
  rfl
 obtain ⟨d,rfl,h⟩:=h
 rcases h with ⟨l,rfl,hl,q⟩ | ⟨hn,q⟩
 ·simp [zaj,zak,zao,zaf,zx,zab,tC',zau,zaX,tB',zal,zai,zba,zL,zay,zP,zbj,zae,zA,zag,zam,za4,zbi,za7,zah,za8,zo,zav,zax,zM,zE,zy,za3,zB,zan,zC,zaq,zD,zK,zH,zI,zap,zad,za9,zN,zR,zaz,zar,zF,zas,zaw,zQ,zS,zaA,zat,zu,zO,zp,zq,zau,zr,zJ,zt,zG,zby]
  refine ⟨zbk hl,?_⟩; unfold zfa at q
  by_cases h1:1<=l.length
  ·by_cases h12:l.length<=12
   ·refine .inr ⟨by omega,.inr ⟨by omega,hl,?_⟩⟩
    rw [yZ (show 1<=l.length/\l.length<=12 from ⟨h1,h12⟩)] at q
    exact q
   ·refine .inr ⟨by omega,.inl ⟨by omega,?_⟩⟩
    rw [yR (show ¬ (1<=l.length/\l.length<=12) by omega)] at q
    exact q
  ·refine .inl ⟨by omega,?_⟩
   rw [yR (show ¬ (1<=l.length/\l.length<=12) by omega)] at q
   exact q
 ·obtain ⟨t,hk,ht⟩:=hn
  have hz:W.kitOne K (.type t) (.type "str")=some false:=by rcases ht with rfl | rfl | rfl | rfl | rfl | rfl <;> rfl
  simp [zaj,zak,zao,zaf,zx,zab,tC',zau,zaX,tB',zal,zai,zba,zL,zay,zP,zbj,zae,zA,zag,zam,za4,zbi,za7,zah,za8,zo,zav,zax,zM,zE,zy,za3,zB,zan,zC,zaq,zD,zK,zH,zI,zap,zad,za9,zN,zR,zaz,zar,zF,zas,zaw,zQ,zS,zaA,zat,zu,zO,zp,zq,zau,zr,zJ,zt,zG]; exact zjM hk hz (.inl ⟨rfl,q⟩)
theorem zdq:FnScope ["label","figures"] ["label"] (zm zcN):=⟨rfl,rfl,rfl,by decide +kernel,rfl,by decide +kernel,by decide +kernel⟩
theorem zfw (d:Df K mg "label_rank" zcN ["label"]) (G_figures_of:Fn P w K mg base 1 "figures_of" ["label"] zbc) (z_int:mg "int"=none) (z_len:mg "len"=none):Fn P w K mg base 2 "label_rank" ["label"] zcp:=by
 refine d.ok zdq (fun ds Q h=>?_) (fun f cdv A outer s H E hr ds Q h=>⟨_,(zk (zac 1 zdq.nd (zbf G_figures_of (hr.mono (by decide)) (zc (pv' 0) zi)))
  (zn (zV (zv (zc (zbD zkd z_int PyProof.Rows.boot_int (zc (pv' 1) zi)) (zc (zci s_A (pv' 0) (zdk (zZ zbQ z_len ym (zc (pv' 1) zi))) zd3) zi)))))),?_⟩)
 ·obtain ⟨l,rfl,_⟩:=h
  rfl
 obtain ⟨l,rfl,hl,hq⟩:=h; obtain ⟨m,n,hm,m1,m9,ml,l12,tk,dr,cd,tf,rd,kf⟩:=zeD hl; simp [zaj,zak,zao,zaf,zx,zab,tC',zau,zaX,tB',zal,zai,zba,zL,zay,zP,zbj,zae,zA,zag,zam,za4,zbi,za7,zah,za8,zo,zav,zax,zM,zE,zy,za3,zB,zan,zC,zaq,zD,zK,zH,zI,zap,zad,za9,zN,zR,zaz,zar,zF,zas,zaw,zQ,zS,zaA,zat,zu,zO,zp,zq,zau,zr,zJ,zt,zG,zbc]
 refine ⟨by omega,.inl ⟨cut l,n,rfl,rd,by omega,zbk (by omega),zbk (by omega),?_⟩⟩
 rw [<- hm,dr]; unfold keyD at hq; rw [kf] at hq; exact hq
end
def zkn:D->Bool
 | .str l=>zaI l
 | _=>false
def zky:D->Bool
 | .str l=>zfa l
 | _=>false
def zs3 (d:D):Prop:=(∃ l,d=.str l/\l.length<=1000)\/zh0 d
def zcz:D->Bool
 | .tup ws=>ws.all zky
 | _=>false
def zcT:D->List Nat
 | .tup (.str l :: _)=>l
 | _=>[]
open Classical in
noncomputable def zfl:List (List Nat)->Bool
 | a :: b :: r=>decide (klt (zcc a) (zcc b)) && zfl (b :: r)
 | _=>true
noncomputable def zb7 (f:D->Bool):D->Bool
 | .tup ks=>ks.all f && zfl (ks.map zcT)
 | _=>false
noncomputable def zbu:Nat->D->Bool
 | n+1,.tup [l,w,k]=>zkn l && (zcz w && zb7 (zbu n) k)
 | _,_=>false
noncomputable def zdz (n:Nat) (w k:D):Bool:=match n with
 | 0=>false
 | n+1=>zcz w && zb7 (zbu n) k
theorem zbU (n:Nat) (l w k:D):zbu n (.tup [l,w,k])=(zkn l && zdz n w k):=by
 cases n with
 | zero=>simp [zbu,zdz]
 | succ n=>rfl
inductive Sn:D->Prop
 | str {l:List Nat} (h:l.length<=1000):Sn (.str l)
 | tup {ds:List D} (h:ds.length<=100) (hs:∀ d ∈ ds,Sn d):Sn (.tup ds)
 | oth {d:D} (h:zh0 d) (hn:∀ ds,d≠.tup ds):Sn d
theorem Sn.parts {ds:List D} (h:Sn (.tup ds)):ds.length<=100/\∀ d ∈ ds,Sn d:=by
 cases h with
 | tup h hs=>exact ⟨h,hs⟩
 | oth h hn=>exact yL rfl (hn _)
theorem Sn.any {d:D} (h:Sn d):zs3 d:=by
 cases h with
 | str h=>exact .inl ⟨_,rfl,h⟩
 | tup h hs=>exact .inr ⟨"tuple",rfl,by simp⟩
 | oth h hn=>exact .inr h
theorem Sn.kin {d:D} (h:Sn d):∃ t,zha d=some t:=by
 rcases h.any with ⟨l,rfl,_⟩ | ⟨t,h,_⟩
 ·exact ⟨"str",rfl⟩
 ·exact ⟨t,h⟩
theorem znN {d:D} {Q:Res->Prop} (h:Sn d) (q:Q (.val (.bl (zkn d)))):zcq [d] Q:=by
 refine ⟨d,rfl,?_⟩
 rcases h.any with ⟨l,rfl,hl⟩ | hn
 ·exact .inl ⟨l,rfl,hl,q⟩
 ·refine .inr ⟨hn,?_⟩
  have e:zkn d=false:=by
   obtain ⟨t,hk,ht⟩:=hn
   cases d <;> first | rfl | (cases hk; simp at ht)
  rw [e] at q; exact q
theorem zmN {d:D} {Q:Res->Prop} (h:Sn d) (q:Q (.val (.bl (zky d)))):zcf [d] Q:=by
 refine ⟨d,rfl,?_⟩
 rcases h.any with ⟨l,rfl,hl⟩ | hn
 ·exact .inl ⟨l,rfl,hl,q⟩
 ·refine .inr ⟨hn,?_⟩
  have e:zky d=false:=by
   obtain ⟨t,hk,ht⟩:=hn
   cases d <;> first | rfl | (cases hk; simp at ht)
  rw [e] at q; exact q
def zb4:Sp':=fun ds Q=>∃ d,ds=[d]/\Sn d/\∀ b:Bool,(b=true↔∃ l w k,d=.tup [l,w,k])->Q (.val (.bl b))
def zcK:Sp':=fun ds Q=>∃ d,ds=[d]/\Sn d/\Q (.val (.bl (zcz d)))
def zbS:Sp':=fun ds Q=>∃ ls:List (List Nat),ds=[.lst (ls.map .str)]/\ls.length<=100/\(∀ l ∈ ls,zaI l=true)/\Q (.val (.bl (zfl ls)))
def zbq:Nat->Sp'
 | 0=>fun _ _=>False
 | n+1=>fun ds Q=>∃ (d:D) (m:Nat),ds=[d,.int m]/\m<n+1/\Sn d/\Q (.val (.bl (zbu m d)))
def zed (n:Nat):Sp':=fun ds Q=>∃ (k:D) (m:Nat),ds=[k,.int m]/\m<n/\Sn k/\Q (.val (.bl (zb7 (zbu m) k)))
def zbz (n:Nat):Sp':=fun ds Q=>∃ (l w k:D) (m:Nat),ds=[.tup [l,w,k],.int m]/\m<=n/\Sn w/\Sn k/\Q (.val (.bl (zdz m w k)))
def zbW:Sp':=fun ds Q=>∃ d,ds=[d]/\Sn d/\∀ b:Bool,(b=true↔∃ w k,d=.tup [.str [],w,k]/\zdz 9 w k=true)->Q (.val (.bl b))
instance {n:Nat}:MSp (zbq n):=⟨fun ds Q Q' h q=>by
 cases n with
 | zero=>exact q
 | succ n=>obtain ⟨d,m,e,a,b,q⟩:=q; exact ⟨d,m,e,a,b,h _ q⟩⟩
def za5:Sp':=fun ds Q=>∃ l m,ds=[.str l,.str m]/\zaI l=true/\zaI m=true/\∀ b:Bool,(b=true↔klt (zcc l) (zcc m))->Q (.val (.bl b))
instance:MSp za5:=⟨fun _ _ _ h ⟨l,m,e,a,b,q⟩=>⟨l,m,e,a,b,fun x z=>h _ (q x z)⟩⟩
section
variable {P:Program} {w:World} {K:W.Frag} {mg:Str->Option Value} {base:Heap}
open Classical in
noncomputable def ltB (p:List Nat × List Nat):Bool:=decide (klt (zcc p.1) (zcc p.2))
theorem zkf {F:D->Bool} {ks:List D} {d:D} (hd:d ∈ ks) (h:F d=false):zb7 F (.tup ks)=false:=by
 show (ks.all F && _)=false
 have:ks.all F=false:=by
  rw [Bool.eq_false_iff]; intro z; rw [yp] at z; rw [z d hd] at h; cases h
 rw [this,Bool.false_and]
theorem zgc {n:Nat} {d:D} (h:∀ l w k,d≠.tup [l,w,k]):zbu n d=false:=by
 unfold zbu; split
 ·exact yL rfl (h _ _ _)
 ·rfl
theorem ze4 {n:Nat} {d:D} (h:zbu n d=true):∃ l w k,d=.tup [.str l,w,k]/\zaI l=true:=by
 unfold zbu at h; split at h
 ·rename_i n l w k
  rw [yd] at h
  cases l with
  | str l=>exact ⟨l,w,k,rfl,h.1⟩
  | _=>exact yL h.1 (by simp [zkn])
 ·cases h
theorem zhu:∀ ls:List (List Nat),zfl ls=(ls.zip (ls.drop 1)).all ltB
 | []=>rfl
 | [a]=>rfl
 | a :: b :: r=>by
  unfold zfl; rw [zhu (b :: r)]; rfl
theorem zsT (ls:List (List Nat)):zcV (ls.map D.str) (some 1) none=(ls.drop 1).map D.str:=by
 unfold zcV
 cases ls with
 | nil=>rfl
 | cons a r =>
  simp [HT.sIx]
  rw [yn (by simp)]
theorem zeA {d:D} {t:String} (h:zha d=some t):(∃ xs,d=.tup xs)\/((∀ xs,d≠.tup xs)/\W.kitOne K (.type t) (.type "tuple")=some false):=by
 cases d <;> first | exact .inl ⟨_,rfl⟩ | (cases h; refine .inr ⟨fun _ z=>(nomatch z),?_⟩; rfl) | (cases h; done)
theorem zfT:FnScope ["thing"] ["thing"] (zm zdf):=⟨rfl,rfl,rfl,by decide +kernel,rfl,by decide +kernel,by decide +kernel⟩
theorem zf9 (d:Df K mg "is_triple" zdf ["thing"]) (z_isinstance:mg "isinstance"=none) (z_len:mg "len"=none) (z_tuple:mg "tuple"=none):Fn P w K mg base 1 "is_triple" ["thing"] zb4:=by
 refine d.ok zfT (fun ds Q h=>?_) (fun f cdv A outer s H E hr ds Q h=>⟨_,(zn (zV (zbE (zZ (zeN K rfl) z_isinstance yr (zc (pv' 0) (zc (zeq z_tuple YJ) zi))) (zca (zbm (zbN (zbt hr)) (zZ zbQ z_len ym (zc (pv' 0) zi)) zj))))),?_⟩)
 ·obtain ⟨d,rfl,_⟩:=h
  rfl
 obtain ⟨x,rfl,hs,q⟩:=h; obtain ⟨t,hk⟩:=hs.kin; simp [zaj,zak,zao,zaf,zx,zab,tC',zau,zaX,tB',zal,zai,zba,zL,zay,zP,zbj,zae,zA,zag,zam,za4,zbi,za7,zah,za8,zo,zav,zax,zM,zE,zy,za3,zB,zan,zC,zaq,zD,zK,zH,zI,zap,zad,za9,zN,zR,zaz,zar,zF,zas,zaw,zQ,zS,zaA,zat,zu,zO,zp,zq,zau,zr,zJ,zt,zG]
 rcases zeA hk with ⟨xs,rfl⟩ | ⟨hn,hz⟩
 ·cases hk
  refine zjM (b:=true) rfl rfl (.inr ⟨rfl,?_⟩); simp [zaj,zak,zao,zaf,zx,zab,tC',zau,zaX,tB',zal,zai,zba,zL,zay,zP,zbj,zae,zA,zag,zam,za4,zbi,za7,zah,za8,zo,zav,zax,zM,zE,zy,za3,zB,zan,zC,zaq,zD,zK,zH,zI,zap,zad,za9,zN,zR,zaz,zar,zF,zas,zaw,zQ,zS,zaA,zat,zu,zO,zp,zq,zau,zr,zJ,zt,zG]
  refine q _ ⟨fun z=>?_,fun ⟨l,w,k,e⟩=>?_⟩
  ·have h3:xs.length=3:=by have:=of_decide_eq_true z; omega
   match xs,h3 with
   | [l,w,k],_=>exact ⟨l,w,k,rfl⟩
  ·cases e
   rfl
 ·refine zjM hk hz (.inl ⟨rfl,q false ⟨fun z=>(nomatch z),fun ⟨l,w,k,e⟩=>yL e (hn _)⟩⟩)
theorem zfU:FnScope ["thing"] ["thing"] (zm zcu):=⟨rfl,rfl,rfl,by decide +kernel,rfl,by decide +kernel,by decide +kernel⟩
theorem zga (d:Df K mg "are_words" zcu ["thing"]) (G_is_word:Fn P w K mg base 2 "is_word" ["thing"] zcf) (z_all:mg "all"=none) (z_isinstance:mg "isinstance"=none) (z_tuple:mg "tuple"=none):Fn P w K mg base 3 "are_words" ["thing"] zcK:=by
 refine d.ok zfU (fun ds Q h=>?_) (fun f cdv A outer s H E hr ds Q h=>⟨_,(zn (zV (zbE (zZ (zeN K rfl) z_isinstance yr (zc (pv' 0) (zc (zeq z_tuple YJ) zi))) (zca (zZ (zoh rfl) z_all PyProof.Rows.boot_all (zc (za2 (zcP (fsc:=zm zcu) (N:=["thing"]) (N':=["word"]) (src:=[none]) (by refine ⟨rfl,?_,?_,?_,rfl,rfl⟩ <;> decide +kernel) (zdi (pv' 0)) (fun _ _ _ _ _ _=>(zaR 0 (show (["word"]:List Str).Nodup by decide +kernel))) (fun _ _ _ _ _ _=>zc2) (fun _ _ _ _ _ _=>(zbf G_is_word (hr.mono (by decide)) (zc (pv' 0) zi))))) zi)))))),?_⟩)
 ·obtain ⟨d,rfl,_⟩:=h
  rfl
 obtain ⟨x,rfl,hs,q⟩:=h; obtain ⟨t,hk⟩:=hs.kin; simp [zaj,zak,zao,zaf,zx,zab,tC',zau,zaX,tB',zal,zai,zba,zL,zay,zP,zbj,zae,zA,zag,zam,za4,zbi,za7,zah,za8,zo,zav,zax,zM,zE,zy,za3,zB,zan,zC,zaq,zD,zK,zH,zI,zap,zad,za9,zN,zR,zaz,zar,zF,zas,zaw,zQ,zS,zaA,zat,zu,zO,zp,zq,zau,zr,zJ,zt,zG]
 rcases zeA hk with ⟨xs,rfl⟩ | ⟨hn,hz⟩
 ·cases hk
  refine zjM (b:=true) rfl rfl (.inr ⟨rfl,?_⟩)
  refine ⟨xs,rfl,zbk (by have:=hs.parts.1; omega),?_⟩
  refine zdm (fun i acc Γ=>∃ s0,acc=((xs.take i).map zky).map D.bl/\Γ=[s0]) ⟨.emp,rfl,rfl⟩ ?_ ?_
  ·rintro i d acc Γ hd ⟨s0,rfl,rfl⟩
   simp [zaj,zak,zao,zaf,zx,zab,tC',zau,zaX,tB',zal,zai,zba,zL,zay,zP,zbj,zae,zA,zag,zam,za4,zbi,za7,zah,za8,zo,zav,zax,zM,zE,zy,za3,zB,zan,zC,zaq,zD,zK,zH,zI,zap,zad,za9,zN,zR,zaz,zar,zF,zas,zaw,zQ,zS,zaA,zat,zu,zO,zp,zq,zau,zr,zJ,zt,zG]; refine zmN (hs.parts.2 d (yW hd)) ?_; rw [YR,yH,hd]; rfl
  ·rintro acc Γ ⟨s0,rfl,rfl⟩
   rw [zgS rfl]; rw [List.take_length]
   have e:zcz (D.tup xs)=(xs.map zky).all id:=by simp [zcz]
   rw [e] at q; exact q
 ·refine zjM hk hz (.inl ⟨rfl,?_⟩)
  have e:zcz x=false:=by
   cases x <;> first | rfl | exact yL rfl (hn _)
  rw [e] at q; exact q
theorem zef:FnScope ["one","other"] ["one","other"] (zm zb9):=⟨rfl,rfl,rfl,by decide +kernel,rfl,by decide +kernel,by decide +kernel⟩
theorem zet (d:Df K mg "label_before" zb9 ["one","other"]) (G_label_rank:Fn P w K mg base 2 "label_rank" ["label"] zcp):Fn P w K mg base 3 "label_before" ["one","other"] za5:=by
 refine d.ok zef (fun ds Q h=>?_) (fun f cdv A outer s H E hr ds Q h=>⟨_,(zn (zV (zbm (zrp hr.units0) (zbf G_label_rank (hr.mono (by decide)) (zc (pv' 0) zi)) (zbf G_label_rank (hr.mono (by decide)) (zc (pv' 1) zi))))),?_⟩)
 ·obtain ⟨l,m,rfl,_⟩:=h
  rfl
 obtain ⟨l,m,rfl,hl,hm,q⟩:=h; simp [zaj,zak,zao,zaf,zx,zab,tC',zau,zaX,tB',zal,zai,zba,zL,zay,zP,zbj,zae,zA,zag,zam,za4,zbi,za7,zah,za8,zo,zav,zax,zM,zE,zy,za3,zB,zan,zC,zaq,zD,zK,zH,zI,zap,zad,za9,zN,zR,zaz,zar,zF,zas,zaw,zQ,zS,zaA,zat,zu,zO,zp,zq,zau,zr,zJ,zt,zG]; refine ⟨l,rfl,hl,m,rfl,hm,?_⟩; refine ⟨_,_,_,_,rfl,rfl,q _ ?_⟩; rw [YA]; exact Iff.rfl
theorem zfi:FnScope ["labels"] ["labels"] (zm zb5):=⟨rfl,rfl,rfl,by decide +kernel,rfl,by decide +kernel,by decide +kernel⟩
theorem zfz (d:Df K mg "are_rising" zb5 ["labels"]) (G_label_before:Fn P w K mg base 3 "label_before" ["one","other"] za5) (z_all:mg "all"=none) (z_zip:mg "zip"=none):Fn P w K mg base 4 "are_rising" ["labels"] zbS:=by
 refine d.ok zfi (fun ds Q h=>?_) (fun f cdv A outer s H E hr ds Q h=>⟨_,(zn (zV (zZ (zoh rfl) z_all PyProof.Rows.boot_all (zc (za2 (zcP (fsc:=zm zb5) (N:=["labels"]) (N':=["one","other"]) (src:=[none,none]) (by refine ⟨rfl,?_,?_,?_,rfl,rfl⟩ <;> decide +kernel) (znn z_zip (zc (pv' 0) (zc (zci s_A (pv' 0) (zdk zj) zd3) zi))) (fun _ _ _ _ _ _=>(zjh (n:=2) (zdt (zaR 0 (show (["one","other"]:List Str).Nodup by decide +kernel)) (zdt (zaR 1 (show (["one","other"]:List Str).Nodup by decide +kernel)) zhz)))) (fun _ _ _ _ _ _=>zc2) (fun _ _ _ _ _ _=>(zbf G_label_before (hr.mono (by decide)) (zc (pv' 0) (zc (pv' 1) zi)))))) zi)))),?_⟩)
 ·obtain ⟨d,rfl,_⟩:=h
  rfl
 obtain ⟨ls,rfl,hl,hp,q⟩:=h; simp [zaj,zak,zao,zaf,zx,zab,tC',zau,zaX,tB',zal,zai,zba,zL,zay,zP,zbj,zae,zA,zag,zam,za4,zbi,za7,zah,za8,zo,zav,zax,zM,zE,zy,za3,zB,zan,zC,zaq,zD,zK,zH,zI,zap,zad,za9,zN,zR,zaz,zar,zF,zas,zaw,zQ,zS,zaA,zat,zu,zO,zp,zq,zau,zr,zJ,zt,zG]; rw [zsT,List.zip_map,yo]
 refine ⟨zbk (by simp; omega),?_⟩
 refine zdm (fun i acc Γ=>∃ s0 s1,acc=(((ls.zip (ls.drop 1)).take i).map ltB).map D.bl/\Γ=[s0,s1]) ⟨.emp,.emp,rfl,rfl⟩ ?_ ?_
 ·rintro i d acc Γ hd ⟨s0,s1,rfl,rfl⟩
  rw [yH] at hd
  cases hc:(ls.zip (ls.drop 1))[i]? with
  | none=>rw [hc] at hd; cases hd
  | some p =>
   rw [hc] at hd; cases hd; have hm:=List.of_mem_zip (a:=p.1) (b:=p.2) (yW hc); rw [YR,hc]; simp [zaj,zak,zao,zaf,zx,zab,tC',zau,zaX,tB',zal,zai,zba,zL,zay,zP,zbj,zae,zA,zag,zam,za4,zbi,za7,zah,za8,zo,zav,zax,zM,zE,zy,za3,zB,zan,zC,zaq,zD,zK,zH,zI,zap,zad,za9,zN,zR,zaz,zar,zF,zas,zaw,zQ,zS,zaA,zat,zu,zO,zp,zq,zau,zr,zJ,zt,zG,za5]
   exact ⟨_,_,⟨rfl,rfl⟩,rfl,p.1,p.2,⟨rfl,rfl⟩,hp _ hm.1,hp _ (List.mem_of_mem_drop hm.2),fun z=>by simp [ltB,z],fun z=>by simp [ltB,z]⟩
 ·rintro acc Γ ⟨s0,s1,rfl,rfl⟩
  rw [zgS rfl]
  rw [show List.take (List.map _ (ls.zip (ls.drop 1))).length (ls.zip (ls.drop 1))=ls.zip (ls.drop 1) from yn (by rw [yD]; exact yF _)]
  rw [zhu] at q
  simpa using q
theorem zeh:FnScope ["thing","levels","kid"] ["thing","levels"] (zm zc0):=⟨rfl,rfl,rfl,by decide +kernel,rfl,by decide +kernel,by decide +kernel⟩
theorem zg3 (d:Df K mg "are_kids" zc0 ["thing","levels"]) (G_are_rising:Fn P w K mg base 4 "are_rising" ["labels"] zbS) (z_isinstance:mg "isinstance"=none) (z_tuple:mg "tuple"=none):∀ n:Nat,Fn P w K mg base (3 * n+6) "is_node" ["thing","levels"] (zbq n)->Fn P w K mg base (3 * n+7) "are_kids" ["thing","levels"] (zed n):=by
 intro n G_is_node
 refine d.ok (k:=3 * n+6) zeh (fun ds Q h=>?_) (fun f cdv A outer s H E hr ds Q h=>⟨_,(zk (za1 (zdh (zdN (zZ (zeN K rfl) z_isinstance yr (zc (pv' 0) (zc (zeq z_tuple YJ) zi))))) (zn (zV zbw)) zaG)
  (zk (zep (zdi (pv' 0)) (zaR 2 zeh.nd)
   (zn (za1 (zdh (zdN (zbf G_is_node (hr.mono (by omega)) (zc (pv' 2) (zc (pv' 1) zi))))) (zn (zV zbw)) zaG)))
  (zn (zV (zbf G_are_rising (hr.mono (by omega)) (zc (za2 (zcP (fsc:=zm zc0) (N:=["thing","levels","kid"]) (N':=["kid"]) (src:=[none]) (by refine ⟨rfl,?_,?_,?_,rfl,rfl⟩ <;> decide +kernel) (zdi (pv' 0)) (fun _ _ _ _ _ _=>(zaR 0 (show (["kid"]:List Str).Nodup by decide +kernel))) (fun _ _ _ _ _ _=>zc2) (fun _ _ _ _ _ _=>(zT (i_A (zaC hr)) (pv' 0) zj)))) zi)))))),?_⟩)
 ·obtain ⟨k,m,rfl,_⟩:=h
  rfl
 obtain ⟨k,m,rfl,hm,hs,q⟩:=h; obtain ⟨t,hk⟩:=hs.kin; simp [zaj,zak,zao,zaf,zx,zab,tC',zau,zaX,tB',zal,zai,zba,zL,zay,zP,zbj,zae,zA,zag,zam,za4,zbi,za7,zah,za8,zo,zav,zax,zM,zE,zy,za3,zB,zan,zC,zaq,zD,zK,zH,zI,zap,zad,za9,zN,zR,zaz,zar,zF,zas,zaw,zQ,zS,zaA,zat,zu,zO,zp,zq,zau,zr,zJ,zt,zG]
 rcases zeA hk with ⟨xs,rfl⟩ | ⟨hn,hz⟩
 ·cases hk
  obtain ⟨n,rfl⟩:∃ j,n=j+1:=⟨n-1,by omega⟩
  refine zjM (b:=true) rfl rfl (.inr ⟨rfl,xs,rfl,?_⟩)
  refine zgl (fun i Γ=>∃ s2,Γ=[.val (.tup xs),.val (.int m),s2]/\∀ x ∈ xs.take i,zbu m x=true) ⟨.emp,rfl,by simp⟩ ?_ ?_
  ·rintro i d Γ hd ⟨s2,rfl,ha⟩
   have hdm:=yW hd; simp [zaj,zak,zao,zaf,zx,zab,tC',zau,zaX,tB',zal,zai,zba,zL,zay,zP,zbj,zae,zA,zag,zam,za4,zbi,za7,zah,za8,zo,zav,zax,zM,zE,zy,za3,zB,zan,zC,zaq,zD,zK,zH,zI,zap,zad,za9,zN,zR,zaz,zar,zF,zas,zaw,zQ,zS,zaA,zat,zu,zO,zp,zq,zau,zr,zJ,zt,zG,zbq]; refine ⟨d,m,⟨rfl,rfl⟩,hm,hs.parts.2 d hdm,?_⟩
   cases hb:zbu m d with
   | false =>
    rw [zkf hdm hb] at q
    rw [yN (by simp)]
    exact q
   | true =>
    rw [yP rfl,YR,hd]; intro x hx
    rcases YB.mp hx with z | z
    ·exact ha x z
    ·rw [show x=d by simpa using z]; exact hb
  ·rintro Γ ⟨s2,rfl,ha⟩
   rw [List.take_length] at ha; simp [zaj,zak,zao,zaf,zx,zab,tC',zau,zaX,tB',zal,zai,zba,zL,zay,zP,zbj,zae,zA,zag,zam,za4,zbi,za7,zah,za8,zo,zav,zax,zM,zE,zy,za3,zB,zan,zC,zaq,zD,zK,zH,zI,zap,zad,za9,zN,zR,zaz,zar,zF,zas,zaw,zQ,zS,zaA,zat,zu,zO,zp,zq,zau,zr,zJ,zt,zG,zbS]
   refine ⟨zbk (by have:=hs.parts.1; omega),?_⟩
   refine zdm (fun i acc Γ=>∃ s0,acc=((xs.take i).map zcT).map D.str/\Γ=[s0]) ⟨.emp,rfl,rfl⟩ ?_ ?_
   ·rintro i d acc Γ hd ⟨s0,rfl,rfl⟩
    obtain ⟨l,w,k,rfl,_⟩:=ze4 (ha d (yW hd)); rw [YR,hd]; simp [zaj,zak,zao,zaf,zx,zab,tC',zau,zaX,tB',zal,zai,zba,zL,zay,zP,zbj,zae,zA,zag,zam,za4,zbi,za7,zah,za8,zo,zav,zax,zM,zE,zy,za3,zB,zan,zC,zaq,zD,zK,zH,zI,zap,zad,za9,zN,zR,zaz,zar,zF,zas,zaw,zQ,zS,zaA,zat,zu,zO,zp,zq,zau,zr,zJ,zt,zG,zcT]
   ·rintro acc Γ ⟨s0,rfl,rfl⟩
    rw [List.take_length]
    refine ⟨xs.map zcT,rfl,by rw [yD]; exact hs.parts.1,fun l hl=>?_,?_⟩
    ·obtain ⟨x,hx,rfl⟩:=yb.mp hl
     obtain ⟨l,w,k,rfl,h⟩:=ze4 (ha x hx); exact h
    ·have e:zb7 (zbu m) (D.tup xs)=zfl (xs.map zcT):=by
      show (xs.all (zbu m) && _)=_
      rw [yp.mpr ha,YI]
     rw [e] at q; exact q
 ·refine zjM hk hz (.inl ⟨rfl,?_⟩)
  have e:zb7 (zbu m) k=false:=by
   cases k <;> first | rfl | exact yL rfl (hn _)
  rw [e] at q; exact q
theorem zdI:FnScope ["node","levels"] ["node","levels"] (zm zbM):=⟨rfl,rfl,rfl,by decide +kernel,rfl,by decide +kernel,by decide +kernel⟩
theorem zdS (d:Df K mg "has_good_parts" zbM ["node","levels"]) (G_are_words:Fn P w K mg base 3 "are_words" ["thing"] zcK) (S_are_kids:∀ n:Nat,Fn P w K mg base (3 * n+6) "is_node" ["thing","levels"] (zbq n)->Fn P w K mg base (3 * n+7) "are_kids" ["thing","levels"] (zed n)):∀ n:Nat,Fn P w K mg base (3 * n+6) "is_node" ["thing","levels"] (zbq n)->Fn P w K mg base (3 * n+8) "has_good_parts" ["node","levels"] (zbz n):=by
 intro n G_is_node; have G_are_kids:=S_are_kids n G_is_node
 refine d.ok (k:=3 * n+7) zdI (fun ds Q h=>?_) (fun f cdv A outer s H E hr ds Q h=>⟨_,(zn (zV (zbE (zbm zsh (pv' 1) zj) (zbE (zbf G_are_words (hr.mono (by omega)) (zc (zT (i_A (zaC hr)) (pv' 0) zj) zi)) (zca (zbf G_are_kids (hr.mono (by omega)) (zc (zT (i_A (zaC hr)) (pv' 0) zj) (zc (zX znG (pv' 1) zj) zi)))))))),?_⟩)
 ·obtain ⟨l,w,k,m,rfl,_⟩:=h
  rfl
 obtain ⟨l,w,k,m,rfl,hm,hw,hk,q⟩:=h; simp [zaj,zak,zao,zaf,zx,zab,tC',zau,zaX,tB',zal,zai,zba,zL,zay,zP,zbj,zae,zA,zag,zam,za4,zbi,za7,zah,za8,zo,zav,zax,zM,zE,zy,za3,zB,zan,zC,zaq,zD,zK,zH,zI,zap,zad,za9,zN,zR,zaz,zar,zF,zas,zaw,zQ,zS,zaA,zat,zu,zO,zp,zq,zau,zr,zJ,zt,zG]
 cases m with
 | zero=>exact .inl ⟨rfl,q⟩
 | succ m =>
  refine .inr ⟨Nat.succ_pos m,w,rfl,hw,?_⟩
  have e:zdz (m+1) w k=(zcz w && zb7 (zbu m) k):=rfl
  rw [e] at q
  cases hb:zcz w with
  | false =>
   rw [hb] at q; exact .inl ⟨rfl,q⟩
  | true =>
   rw [hb,YI] at q
   exact .inr ⟨rfl,k,m,by simp,by omega,hk,q⟩
theorem zeX:FnScope ["thing","levels"] ["thing","levels"] (zm zel):=⟨rfl,rfl,rfl,by decide +kernel,rfl,by decide +kernel,by decide +kernel⟩
theorem zir (d:Df K mg "is_node" zel ["thing","levels"]) (G_is_label:Fn P w K mg base 3 "is_label" ["thing"] zcq) (G_is_triple:Fn P w K mg base 1 "is_triple" ["thing"] zb4) (S_has_good_parts:∀ n:Nat,Fn P w K mg base (3 * n+6) "is_node" ["thing","levels"] (zbq n)->Fn P w K mg base (3 * n+8) "has_good_parts" ["node","levels"] (zbz n)):∀ n:Nat,Fn P w K mg base (3 * n+6) "is_node" ["thing","levels"] (zbq n):=by
 intro n
 induction n with
 | zero=>exact d.ok (k:=3 * 0+5) zeX (fun ds Q h=>(show False from h).elim) (fun f cdv A outer s H E hr ds Q h=>(show False from h).elim)
 | succ n ih =>
 have G_is_node:Fn P w K mg base (3 * n+6) "is_node" ["thing","levels"] (zbq n):=ih
 have G_has_good_parts:=S_has_good_parts n ih
 refine d.ok (k:=3 * n+8) zeX (fun ds Q h=>?_) (fun f cdv A outer s H E hr ds Q h=>⟨_,(zn (zV (zbE (zbf G_is_triple (hr.mono (by omega)) (zc (pv' 0) zi)) (zbE (zbf G_is_label (hr.mono (by omega)) (zc (zT (i_A (zaC hr)) (pv' 0) zj) zi)) (zca (zbf G_has_good_parts (hr.mono (by omega)) (zc (pv' 0) (zc (pv' 1) zi)))))))),?_⟩)
 ·obtain ⟨d,m,rfl,_⟩:=h
  rfl
 obtain ⟨d,m,rfl,hm,hs,q⟩:=h; simp [zaj,zak,zao,zaf,zx,zab,tC',zau,zaX,tB',zal,zai,zba,zL,zay,zP,zbj,zae,zA,zag,zam,za4,zbi,za7,zah,za8,zo,zav,zax,zM,zE,zy,za3,zB,zan,zC,zaq,zD,zK,zH,zI,zap,zad,za9,zN,zR,zaz,zar,zF,zas,zaw,zQ,zS,zaA,zat,zu,zO,zp,zq,zau,zr,zJ,zt,zG]
 refine ⟨d,rfl,hs,fun b hb=>?_⟩
 cases b with
 | false =>
  rw [zgc fun l w k e=>yL (hb.mpr ⟨l,w,k,e⟩) (by simp)] at q
  exact .inl ⟨rfl,q⟩
 | true =>
  obtain ⟨l,w,k,rfl⟩:=hb.mp rfl; have hp:=hs.parts.2; rw [zbU] at q; refine .inr ⟨rfl,?_⟩; simp [zaj,zak,zao,zaf,zx,zab,tC',zau,zaX,tB',zal,zai,zba,zL,zay,zP,zbj,zae,zA,zag,zam,za4,zbi,za7,zah,za8,zo,zav,zax,zM,zE,zy,za3,zB,zan,zC,zaq,zD,zK,zH,zI,zap,zad,za9,zN,zR,zaz,zar,zF,zas,zaw,zQ,zS,zaA,zat,zu,zO,zp,zq,zau,zr,zJ,zt,zG]
  refine znN (hp l (by simp)) ?_
  cases hl:zkn l with
  | false =>
   rw [hl] at q; exact .inl ⟨rfl,q⟩
  | true =>
   rw [hl,YI] at q
   exact .inr ⟨rfl,l,w,k,m,rfl,by omega,hp w (by simp),hp k (by simp),q⟩
theorem zib:FnScope ["thing"] ["thing"] (zm zek):=⟨rfl,rfl,rfl,by decide +kernel,rfl,by decide +kernel,by decide +kernel⟩
theorem ziq (d:Df K mg "is_tree" zek ["thing"]) (G_is_triple:Fn P w K mg base 1 "is_triple" ["thing"] zb4) (G_has_good_parts:Fn P w K mg base 38 "has_good_parts" ["node","levels"] (zbz 10)) (z_isinstance:mg "isinstance"=none) (z_str:mg "str"=none) {t_MOST_DEEP:Tok} (g_MOST_DEEP:mg "MOST_DEEP"=some (.int 9 t_MOST_DEEP)):Fn P w K mg base 39 "is_tree" ["thing"] zbW:=by
 refine d.ok zib (fun ds Q h=>?_) (fun f cdv A outer s H E hr ds Q h=>⟨_,(zk (za1 (PW'.pt (zmi (zdh (zdN (zbf G_is_triple (hr.mono (by decide)) (zc (pv' 0) zi)))) (zjb (zdh (zdN (zZ (zeN K rfl) z_isinstance yr (zc (zT (i_A (zaC hr)) (pv' 0) zj) (zc (zeq z_str PyProof.Rows.boot_str) zi)))))))) (zn (zV zbw)) zaG)
  (zn (zV (zbE (zbm (zbN (zbt hr)) (zT (i_A (zaC hr)) (pv' 0) zj) (zW [])) (zca (zbf G_has_good_parts (hr.mono (by decide)) (zc (pv' 0) (zc (zhA g_MOST_DEEP) zi)))))))),?_⟩)
 ·obtain ⟨d,rfl,_⟩:=h
  rfl
 obtain ⟨d,rfl,hs,q⟩:=h; simp [zaj,zak,zao,zaf,zx,zab,tC',zau,zaX,tB',zal,zai,zba,zL,zay,zP,zbj,zae,zA,zag,zam,za4,zbi,za7,zah,za8,zo,zav,zax,zM,zE,zy,za3,zB,zan,zC,zaq,zD,zK,zH,zI,zap,zad,za9,zN,zR,zaz,zar,zF,zas,zaw,zQ,zS,zaA,zat,zu,zO,zp,zq,zau,zr,zJ,zt,zG]
 refine ⟨d,rfl,hs,fun b hb=>?_⟩
 cases b with
 | false=>exact .inl ⟨rfl,q false ⟨fun z=>(nomatch z),fun ⟨w,k,e,_⟩=>hb.mpr ⟨_,w,k,e⟩⟩⟩
 | true =>
  obtain ⟨l,w,k,rfl⟩:=hb.mp rfl; have hp:=hs.parts.2; refine .inr ⟨rfl,?_⟩; simp [zaj,zak,zao,zaf,zx,zab,tC',zau,zaX,tB',zal,zai,zba,zL,zay,zP,zbj,zae,zA,zag,zam,za4,zbi,za7,zah,za8,zo,zav,zax,zM,zE,zy,za3,zB,zan,zC,zaq,zD,zK,zH,zI,zap,zad,za9,zN,zR,zaz,zar,zF,zas,zaw,zQ,zS,zaA,zat,zu,zO,zp,zq,zau,zr,zJ,zt,zG]
  rcases (hp l (by simp)).any with ⟨l,rfl,hl⟩ | ⟨t,hk,ht⟩
  ·refine zjM (b:=true) rfl rfl (.inr ⟨rfl,?_⟩)
   simp [zaj,zak,zao,zaf,zx,zab,tC',zau,zaX,tB',zal,zai,zba,zL,zay,zP,zbj,zae,zA,zag,zam,za4,zbi,za7,zah,za8,zo,zav,zax,zM,zE,zy,za3,zB,zan,zC,zaq,zD,zK,zH,zI,zap,zad,za9,zN,zR,zaz,zar,zF,zas,zaw,zQ,zS,zaA,zat,zu,zO,zp,zq,zau,zr,zJ,zt,zG]
   by_cases e:l=[]
   ·subst e
    refine .inr ⟨rfl,.str [],w,k,9,rfl,by omega,hp w (by simp),hp k (by simp),q _ ⟨fun z=>⟨w,k,rfl,z⟩,fun ⟨w',k',e,z⟩=>?_⟩⟩
    cases e; exact z
   ·refine .inl ⟨e,q false ⟨fun z=>(nomatch z),fun ⟨w',k',e',z⟩=>?_⟩⟩
    cases e'; exact yL rfl e
  ·have hz:W.kitOne K (.type t) (.type "str")=some false:=by rcases ht with rfl | rfl | rfl | rfl | rfl | rfl <;> rfl
   refine zjM hk hz (.inl ⟨rfl,q false ⟨fun z=>(nomatch z),fun ⟨w,k,e,_⟩=>?_⟩⟩)
   cases e; cases hk
   simp at ht
end
def ndD (ns:Nd):List (D × D):=ns.map fun x=>(plc x.1,plc x.2)
def WS (ws:Pl):Prop:=ws.length<=4/\∀ x ∈ ws,zfa x=true
def zbp:Sp':=fun ds Q=>∃ c:Int,ds=[.int c]/\∀ l,zaI l=true->Q (.val (.str l))
def zbx:Sp':=fun ds Q=>∃ c:Int,ds=[.int c]/\∀ l,zfa l=true->Q (.val (.str l))
def zbo:Sp':=fun ds Q=>∃ c:Int,ds=[.int c]/\∀ ws:Pl,WS ws->Q (.val (plc ws))
def zbl:Sp':=fun ds Q=>∃ (ns:List Int) (k:Int),ds=[.lst (ns.map .int),.int k]/\0<=k/\∀ c:Int,Q (.val (.int c))
def zcY:Sp':=fun ds Q=>∃ l,ds=[.str l]/\zaI l=true/\Q (.val (keyD l))
instance:MSp zbp:=⟨fun _ _ _ h ⟨c,e,q⟩=>⟨c,e,fun l z=>h _ (q l z)⟩⟩
instance:MSp zbx:=⟨fun _ _ _ h ⟨c,e,q⟩=>⟨c,e,fun l z=>h _ (q l z)⟩⟩
instance:MSp zbo:=⟨fun _ _ _ h ⟨c,e,q⟩=>⟨c,e,fun l z=>h _ (q l z)⟩⟩
@[simp] theorem sz5:5<=sizeLine:=zbk (by decide)
@[simp] theorem sz8:8<=sizeLine:=zbk (by decide)
section
variable {P:Program} {w:World} {K:W.Frag} {mg:Str->Option Value} {base:Heap}
theorem zdY:FnScope ["_law_cell","_law_number"] ["_law_cell"] (zm zde):=⟨rfl,rfl,rfl,by decide +kernel,rfl,by decide +kernel,by decide +kernel⟩
theorem zf8 (d:Df K mg "_law_label" zde ["_law_cell"]) (z_str:mg "str"=none):Fn P w K mg base 1 "_law_label" ["_law_cell"] zbp:=by
 refine d.ok zdY (fun ds Q h=>?_) (fun f cdv A outer s H E hr ds Q h=>⟨_,(zk (zac 1 zdY.nd (zT (i_A (zaC hr)) (za2 (zcg (zc zj (zc zj (zc zj (zc zj (zc (zX zbZ zj (zX zcb (zX zjt (zX zcj (pv' 0) zj) zj) zj)) zi))))))) (zX zcb (pv' 0) zj)))
  (zn (zV (zX zbZ (zbD zrP z_str PyProof.Rows.boot_str (zc (pv' 1) zi)) (zT (i_A (zaC hr)) (za2 (zcg (zc (zW []) (zc (zW [97]) (zc (zW []) (zc (zW [98]) (zc (zW [97,97]) (zc (zW []) (zc (zW [97,122]) (zc (zW [122,122,122]) zi)))))))))) (zX zcb (zX zcj (pv' 0) zj) zj)))))),?_⟩)
 ·obtain ⟨c,rfl,_⟩:=h
  rfl
 obtain ⟨c,rfl,hq⟩:=h; simp [zaj,zak,zao,zaf,zx,zab,tC',zau,zaX,tB',zal,zai,zba,zL,zay,zP,zbj,zae,zA,zag,zam,za4,zbi,za7,zah,za8,zo,zav,zax,zM,zE,zy,za3,zB,zan,zC,zaq,zD,zK,zH,zI,zap,zad,za9,zN,zR,zaz,zar,zF,zas,zaw,zQ,zS,zaA,zat,zu,zO,zp,zq,zau,zr,zJ,zt,zG,zl8,zmL]
 obtain ⟨d,e1,m1⟩:=zcn [D.int 1,D.int 2,D.int 3,D.int 10,D.int (1+c / 40 * 48271 % 999999999)] (md (i:=c) (n:=5) (by decide)).1 (md (i:=c) (n:=5) (by decide)).2
 have hm:=md (i:=c / 40 * 48271) (n:=999999999) (by decide)
 have hd:∃ n:Int,d=.int n/\1<=n/\n<10 ^ 9:=by
  simp only [yO,yU,or_false] at m1
  rcases m1 with rfl | rfl | rfl | rfl | rfl
  ·exact ⟨_,rfl,by omega,by omega⟩
  ·exact ⟨_,rfl,by omega,by omega⟩
  ·exact ⟨_,rfl,by omega,by omega⟩
  ·exact ⟨_,rfl,by omega,by omega⟩
  ·exact ⟨_,rfl,by omega,by omega⟩
 obtain ⟨n,rfl,h0,h1⟩:=hd; refine ⟨.int n,e1,?_⟩; rw [zm4]
 refine ⟨zjz (by omega) (by omega),?_⟩
 obtain ⟨x,e2,m2⟩:=zcn [D.str [],D.str [97],D.str [],D.str [98],D.str [97,97],D.str [],D.str [97,122],D.str [122,122,122]] (md (i:=c / 5) (n:=8) (by decide)).1 (md (i:=c / 5) (n:=8) (by decide)).2
 have hx:∃ l:List Nat,x=.str l/\l.length<=3/\∀ c ∈ l,sml c=true:=by
  simp only [yO,yU,or_false] at m2
  rcases m2 with rfl | rfl | rfl | rfl | rfl | rfl | rfl | rfl <;> exact ⟨_,rfl,by decide,by decide⟩
 obtain ⟨l,rfl,hl,hs⟩:=hx; refine ⟨.str l,e2,?_⟩; rw [zi9]; obtain ⟨n1,n2,n3,n4⟩:=M11.num_lab h0 h1
 exact ⟨zbk (by omega),hq _ (M11.lab_of n1 n2 n3 n4 hs hl)⟩
theorem zbY:FnScope ["_law_cell","_law_word_here","_law_k","_law_at_here"] ["_law_cell"] (zm zdJ):=⟨rfl,rfl,rfl,by decide +kernel,rfl,by decide +kernel,by decide +kernel⟩
theorem zgY (d:Df K mg "_law_word" zdJ ["_law_cell"]) (z_range:mg "range"=none):Fn P w K mg base 1 "_law_word" ["_law_cell"] zbx:=by
 refine d.ok zbY (fun ds Q h=>?_) (fun f cdv A outer s H E hr ds Q h=>⟨_,(zk (zac 1 zbY.nd (zT (i_A (zaC hr)) (zW [97,98,49,122]) (zX zcb (pv' 0) zj)))
  (zk (zep (zdQ z_range (zc (zT (i_A (zaC hr)) (za2 (zcg (zc zj (zc zj (zc zj (zc zj zi)))))) (zX zcb (zX zcj (pv' 0) zj) zj)) zi)) (zaR 2 zbY.nd)
   (zk (zac 3 zbY.nd (zX zbZ (zX zcj (pv' 0) zj) (zX zjt (pv' 2) (zX zbZ zj (zX zcb (zX zcj (pv' 0) zj) zj)))))
  (zn (zac 1 zbY.nd (zX zbZ (pv' 1) (zT (i_A (zaC hr)) (zW wsg) (zX zcb (pv' 3) zj)))))))
  (zn (zV (pv' 1))))),?_⟩)
 ·obtain ⟨c,rfl,_⟩:=h
  rfl
 obtain ⟨c,rfl,hq⟩:=h; simp [zaj,zak,zao,zaf,zx,zab,tC',zau,zaX,tB',zal,zai,zba,zL,zay,zP,zbj,zae,zA,zag,zam,za4,zbi,za7,zah,za8,zo,zav,zax,zM,zE,zy,za3,zB,zan,zC,zaq,zD,zK,zH,zI,zap,zad,za9,zN,zR,zaz,zar,zF,zas,zaw,zQ,zS,zaA,zat,zu,zO,zp,zq,zau,zr,zJ,zt,zG,zl8]
 obtain ⟨z,e1,m1⟩:=zcn [97,98,49,122] (md (i:=c) (n:=4) (by decide)).1 (md (i:=c) (n:=4) (by decide)).2
 have hz:z ∈ wsg:=by
  simp only [yO,yU,or_false] at m1
  rcases m1 with rfl | rfl | rfl | rfl <;> decide
 refine ⟨z,e1,?_⟩
 obtain ⟨d,e2,m2⟩:=zcn [D.int 0,D.int 0,D.int 1,D.int 11] (md (i:=c / 4) (n:=4) (by decide)).1 (md (i:=c / 4) (n:=4) (by decide)).2
 have hd:∃ n:Int,d=.int n/\0<=n/\n<=11:=by
  simp only [yO,yU,or_false] at m2
  rcases m2 with rfl | rfl | rfl | rfl <;> exact ⟨_,rfl,by omega,by omega⟩
 obtain ⟨n,rfl,h0,h1⟩:=hd
 refine ⟨_,e2,n,rfl,by omega,by omega,?_⟩
 refine zgl (fun i Γ=>∃ (l:List Nat) (s2 s3:Slot),Γ=[.val (.int c),.val (.str l),s2,s3]/\l.length=1+i/\∀ c ∈ l,c ∈ wsg) ⟨[z],.emp,.emp,rfl,rfl,fun c hc=>by rw [yg.mp hc]; exact hz⟩ ?_ ?_
 ·rintro i d Γ hd ⟨l,s2,s3,rfl,hl,hw⟩
  rw [yH] at hd
  have hi:i<n.toNat:=by
   cases hc:(List.range n.toNat)[i]? with
   | none=>rw [hc] at hd; cases hd
   | some k=>simpa using (yG.mp hc).1
  rw [List.getElem?_range hi] at hd; cases hd
  have hm:=md (i:=c / 5) (n:=7) (by decide)
  simp [zaj,zak,zao,zaf,zx,zab,tC',zau,zaX,tB',zal,zai,zba,zL,zay,zP,zbj,zae,zA,zag,zam,za4,zbi,za7,zah,za8,zo,zav,zax,zM,zE,zy,za3,zB,zan,zC,zaq,zD,zK,zH,zI,zap,zad,za9,zN,zR,zaz,zar,zF,zas,zaw,zQ,zS,zaA,zat,zu,zO,zp,zq,zau,zr,zJ,zt,zG,zl8]
  refine ⟨.inr ⟨by omega,by omega⟩,?_⟩
  obtain ⟨y,e3,m3⟩:=zcn wsg (md (i:=c / 16+↑i * (1+c / 5 % 7)) (n:=36) (by decide)).1 (md (i:=c / 16+↑i * (1+c / 5 % 7)) (n:=36) (by decide)).2
  refine ⟨zbk (by decide),y,e3,zbk (by omega),by omega,fun c hc=>hc.elim (hw c) fun z=>by rw [z]; exact m3⟩
 ·rintro Γ ⟨l,s2,s3,rfl,hl,hw⟩
  simp [zaj,zak,zao,zaf,zx,zab,tC',zau,zaX,tB',zal,zai,zba,zL,zay,zP,zbj,zae,zA,zag,zam,za4,zbi,za7,zah,za8,zo,zav,zax,zM,zE,zy,za3,zB,zan,zC,zaq,zD,zK,zH,zI,zap,zad,za9,zN,zR,zaz,zar,zF,zas,zaw,zQ,zS,zaA,zat,zu,zO,zp,zq,zau,zr,zJ,zt,zG]; rw [yD,List.length_range] at hl; refine hq l ?_; unfold zfa
  rw [yZ (show 1<=l.length/\l.length<=12 by omega),YI,yp]
  exact fun c hc=>yZ (hw c hc)
theorem zfS:FnScope ["_law_cell"] ["_law_cell"] (zm zcs):=⟨rfl,rfl,rfl,by decide +kernel,rfl,by decide +kernel,by decide +kernel⟩
theorem zf6 (d:Df K mg "_law_words" zcs ["_law_cell"]) (G_law_word:Fn P w K mg base 1 "_law_word" ["_law_cell"] zbx) (z_range:mg "range"=none) (z_tuple:mg "tuple"=none):Fn P w K mg base 2 "_law_words" ["_law_cell"] zbo:=by
 refine d.ok zfS (fun ds Q h=>?_) (fun f cdv A outer s H E hr ds Q h=>⟨_,(zn (zV (zbD zhe z_tuple YJ (zc (za2 (zcP (fsc:=zm zcs) (N:=["_law_cell"]) (N':=["_law_k","_law_cell"]) (src:=[none,some 0]) (by refine ⟨rfl,?_,?_,?_,rfl,rfl⟩ <;> decide +kernel) (zdQ z_range (zc (zX zcb (pv' 0) zj) zi)) (fun _ _ _ _ _ _=>(zaR 0 (show (["_law_k","_law_cell"]:List Str).Nodup by decide +kernel))) (fun _ _ _ _ _ _=>zc2) (fun _ _ _ _ _ _=>(zbf G_law_word (hr.mono (by decide)) (zc (zX zbZ (zX zcj (pv' 1) zj) (zX zjt (pv' 0) (zX zbZ zj (zX zcb (zX zcj (pv' 1) zj) zj)))) zi))))) zi)))),?_⟩)
 ·obtain ⟨c,rfl,_⟩:=h
  rfl
 obtain ⟨c,rfl,hq⟩:=h; simp [zaj,zak,zao,zaf,zx,zab,tC',zau,zaX,tB',zal,zai,zba,zL,zay,zP,zbj,zae,zA,zag,zam,za4,zbi,za7,zah,za8,zo,zav,zax,zM,zE,zy,za3,zB,zan,zC,zaq,zD,zK,zH,zI,zap,zad,za9,zN,zR,zaz,zar,zF,zas,zaw,zQ,zS,zaA,zat,zu,zO,zp,zq,zau,zr,zJ,zt,zG,zbx]
 have hm:=md (i:=c) (n:=5) (by decide)
 have h5:5<=sizeLine:=sz5
 refine ⟨by omega,by omega,by omega,?_⟩
 refine zdm (fun i acc Γ=>∃ (ws:Pl) (s0:Slot),acc=ws.map .str/\ws.length=i/\(∀ x ∈ ws,zfa x=true)/\Γ=[s0,.val (.int c)]) ⟨[],.emp,rfl,rfl,fun _ z=>(nomatch z),rfl⟩ ?_ ?_
 ·rintro i d acc Γ hd ⟨ws,s0,rfl,hl,hw,rfl⟩
  rw [yH] at hd
  have hi:i<(c % 5).toNat:=by
   cases hc:(List.range (c % 5).toNat)[i]? with
   | none=>rw [hc] at hd; cases hd
   | some k=>simpa using (yG.mp hc).1
  rw [List.getElem?_range hi] at hd; cases hd
  have hm2:=md (i:=c / 20) (n:=3) (by decide)
  simp [zaj,zak,zao,zaf,zx,zab,tC',zau,zaX,tB',zal,zai,zba,zL,zay,zP,zbj,zae,zA,zag,zam,za4,zbi,za7,zah,za8,zo,zav,zax,zM,zE,zy,za3,zB,zan,zC,zaq,zD,zK,zH,zI,zap,zad,za9,zN,zR,zaz,zar,zF,zas,zaw,zQ,zS,zaA,zat,zu,zO,zp,zq,zau,zr,zJ,zt,zG,zl8,zbx]
  refine ⟨.inr ⟨by omega,by omega⟩,fun l hwl=>⟨ws ++ [l],by simp,by simp; omega,fun x hx=>(YB.mp hx).elim (hw x) fun z=>by rw [yg.mp z]; exact hwl⟩⟩
 ·rintro acc Γ ⟨ws,s0,rfl,hl,hw,rfl⟩
  rw [yD,List.length_range] at hl
  exact hq ws ⟨by omega,hw⟩
theorem zdH:FnScope ["_law_label_here","_law_at_here"] ["_law_label_here"] (zm zei):=⟨rfl,rfl,rfl,by decide +kernel,rfl,by decide +kernel,by decide +kernel⟩
theorem zin (d:Df K mg "_law_key" zei ["_law_label_here"]) (z_int:mg "int"=none) (z_len:mg "len"=none):Fn P w K mg base 1 "_law_key" ["_law_label_here"] zcY:=by
 refine d.ok zdH (fun ds Q h=>?_) (fun f cdv A outer s H E hr ds Q h=>⟨_,(zk (zac 1 zdH.nd zj)
  (zk (zjd (PW'.pt (zeo (zaJ zon (pv' 1) (zZ zbQ z_len ym (zc (pv' 0) zi))) (zds (zaJ (zpw (zaC hr)) (zT (i_A (zaC hr)) (pv' 0) (pv' 1)) (zW zoo)))))
   (zn (zac 1 zdH.nd (zX zbZ (pv' 1) zj))))
  (zn (zV (zv (zc (zbD zkd z_int PyProof.Rows.boot_int (zc (zci s_A (pv' 0) zd3 (zdk (pv' 1))) zi)) (zc (zci s_A (pv' 0) (zdk (pv' 1)) zd3) zi))))))),?_⟩)
 ·obtain ⟨l,rfl,_⟩:=h
  rfl
 obtain ⟨l,rfl,hl,hq⟩:=h; obtain ⟨m,n,hm,m1,m9,ml,l12,tk,dr,cd,tf,rd,kf⟩:=zeD hl; simp [zaj,zak,zao,zaf,zx,zab,tC',zau,zaX,tB',zal,zai,zba,zL,zay,zP,zbj,zae,zA,zag,zam,za4,zbi,za7,zah,za8,zo,zav,zax,zM,zE,zy,za3,zB,zan,zC,zaq,zD,zK,zH,zI,zap,zad,za9,zN,zR,zaz,zar,zF,zas,zaw,zQ,zS,zaA,zat,zu,zO,zp,zq,zau,zr,zJ,zt,zG]
 refine ziL (fun Γ=>∃ k:Nat,k<=m/\Γ=[.val (.str l),.val (.int k)]) (fun Γ=>match Γ with | [_,.val (.int k)]=>m-k.toNat | _=>0) ⟨0,yi _,rfl⟩ ?_
 rintro Γ ⟨k,hk,rfl⟩
 simp [zaj,zak,zao,zaf,zx,zab,tC',zau,zaX,tB',zal,zai,zba,zL,zay,zP,zbj,zae,zA,zag,zam,za4,zbi,za7,zah,za8,zo,zav,zax,zM,zE,zy,za3,zB,zan,zC,zaq,zD,zK,zH,zI,zap,zad,za9,zN,zR,zaz,zar,zF,zas,zaw,zQ,zS,zaA,zat,zu,zO,zp,zq,zau,zr,zJ,zt,zG]
 have hs:l.length<=sizeLine:=zbk (by omega)
 have fin:k=m->zi8 [D.str (l.take k)] fun d=>l.length<=sizeLine/\Q (.val (.tup [d,.str (l.drop k)])):=by
  rintro rfl
  rw [tk,dr]
  refine .inl ⟨cut l,n,rfl,rd,by omega,hs,?_⟩
  unfold keyD at hq; rw [kf] at hq; exact hq
 refine ⟨hs,?_⟩
 by_cases e:l.length<=k
 ·exact .inl ⟨e,hs,fin (by omega)⟩
 ·have hg:l[k]?=some (l[k]'(by omega)):=yC (by omega)
  refine .inr ⟨by omega,hs,_,zdV hg,?_⟩
  by_cases e2:k=m
  ·refine .inl ⟨?_,hs,fin e2⟩
   have:l[k]'(by omega) ∈ zdn l:=by
    rw [<- dr]; refine yW (i:=0) ?_; rw [List.getElem?_drop,Nat.add_zero,<- e2]; exact hg
   have:=tf _ this
   simpa [dig] using this
  ·refine .inr ⟨?_,⟨k+1,by omega,by simp⟩,by omega⟩
   have:l[k]'(by omega) ∈ cut l:=by
    rw [<- tk]; refine yW (i:=k) ?_
    rw [List.getElem?_take_of_lt (by omega)]
    exact hg
   have:=cd _ this
   simpa [dig] using this
theorem zeQ:FnScope ["_law_script","_law_k"] ["_law_script","_law_k"] (zm zct):=⟨rfl,rfl,rfl,by decide +kernel,rfl,by decide +kernel,by decide +kernel⟩
theorem zeS (d:Df K mg "_law_cell_at" zct ["_law_script","_law_k"]) (z_len:mg "len"=none):Fn P w K mg base 1 "_law_cell_at" ["_law_script","_law_k"] zbl:=by
 refine d.ok zeQ (fun ds Q h=>?_) (fun f cdv A outer s H E hr ds Q h=>⟨_,(zk (za1 (zaJ zon (pv' 1) (zZ zbQ z_len ym (zc (pv' 0) zi))) (zn (zV (zT (i_A (zaC hr)) (pv' 0) (pv' 1)))) zaG)
  (zn (zV zj))),?_⟩)
 ·obtain ⟨ns,k,rfl,_⟩:=h
  rfl
 obtain ⟨ns,k,rfl,h0,q⟩:=h; simp [zaj,zak,zao,zaf,zx,zab,tC',zau,zaX,tB',zal,zai,zba,zL,zay,zP,zbj,zae,zA,zag,zam,za4,zbi,za7,zah,za8,zo,zav,zax,zM,zE,zy,za3,zB,zan,zC,zaq,zD,zK,zH,zI,zap,zad,za9,zN,zR,zaz,zar,zF,zas,zaw,zQ,zS,zaA,zat,zu,zO,zp,zq,zau,zr,zJ,zt,zG]
 by_cases e:(ns.length:Int)<=k
 ·exact .inl ⟨e,q 0⟩
 ·obtain ⟨d,e1,m1⟩:=zcn (ns.map D.int) h0 (by simp; omega)
  obtain ⟨c,_,rfl⟩:=yb.mp m1
  exact .inr ⟨by omega,_,e1,q c⟩
end
open Classical in
theorem zfF {ns:Nd} {p:Pl} (h:p ∈ keys ns):zce (ndD ns) (plc p)=some (plc (zgI ns p)):=by
 unfold zgI zce ndD
 induction ns with
 | nil=>cases h
 | cons x r ih =>
  obtain ⟨a,b⟩:=x
  by_cases e:p=a
  ·subst e
   simp
  ·have h':p ∈ keys r:=by
    rcases yO.mp h with z | z
    ·exact yL z e
    ·exact z
   have ne:¬ plc a=plc p:=fun z=>e (zfs z).symm
   have ne2:(p == a)=false:=beq_eq_false_iff_ne.mpr e
   simp only [yq,yk,ne2]; rw [YU]; simp only [ne,decide_false]; exact ih h'
theorem zhY {q:Pl} (h:q≠[]):atI (q.map D.str) (-1)=some (.str (zbG q)):=by
 have e:=List.dropLast_concat_getLast h
 have e2:zbG q=q.getLast h:=by unfold zbG; rw [List.getLast?_eq_some_getLast h]; rfl
 rw [e2]
 conv=>lhs; rw [<- e,List.map_append,List.map_singleton]
 exact zl5 _ _
theorem zkF {ns:Nd} (o:NOk ns) {n:Nat} {p:Pl} (h8:8<=p.length+n):trD (zaD n ns p)=.tup [.str (zbG p),plc (zgI ns p),.tup ((zbO ns p).map fun q=>trD (zaD (n-1) ns q))]:=by
 cases n with
 | zero =>
  rw [zgh o (by omega)]
  rw [zbP]; rfl
 | succ n =>
  rw [zbP]
  show D.tup [_,_,.tup (((zbO ns p).map (zaD n ns)).map trD)]=_
  rw [yo]; rfl
def zeT:D->D->Prop:=fun d k=>∃ q:Pl,d=plc q/\q≠[]/\zaI (zbG q)=true/\k=keyD (zbG q)
def zaV:Nat->Sp'
 | 0=>fun _ _=>False
 | n+1=>fun ds Q=>∃ ns p,ds=[.dit (ndD ns),plc p]/\NOk ns/\p ∈ keys ns/\8<=p.length+n/\Q (.val (trD (zaD n ns p)))
instance {n:Nat}:MSp (zaV n):=⟨fun _ _ _ h q=>by
 cases n with
 | zero=>exact q
 | succ n =>
  obtain ⟨ns,p,a,b,c,d,q⟩:=q; exact ⟨ns,p,a,b,c,d,h _ q⟩⟩
section
variable {P:Program} {w:World} {K:W.Frag} {mg:Str->Option Value} {base:Heap}
theorem zbA:FnScope ["_law_nodes_here","_law_place","_law_kids","_law_label_here"] ["_law_nodes_here","_law_place"] (zm zbe):=⟨rfl,rfl,rfl,by decide +kernel,rfl,by decide +kernel,by decide +kernel⟩
theorem zgZ (d:Df K mg "_law_tree" zbe ["_law_nodes_here","_law_place"]) (G_law_key:Fn P w K mg base 1 "_law_key" ["_law_label_here"] zcY) (z_len:mg "len"=none) (z_sorted:mg "sorted"=none) (z_tuple:mg "tuple"=none) (lo:LamOf K mg base "_law_tree" "_law_tree.<locals>.<lambda>"):∀ n:Nat,Fn P w K mg base (n+5) "_law_tree" ["_law_nodes_here","_law_place"] (zaV n):=by
 intro n
 induction n with
 | zero=>exact d.okL lo (k:=4) zbA (fun ds Q h=>(show False from h).elim) (fun f cdv A outer s H E la hr ds Q h=>(show False from h).elim)
 | succ n ih =>
 have G_law_tree:Fn P w K mg base (n+5) "_law_tree" ["_law_nodes_here","_law_place"] (zaV n):=ih
 refine d.okL lo (k:=n+5) zbA (fun ds Q h=>?_) (fun f cdv A outer s H E la hr ds Q h=>⟨_,(zk (zk0 2 zbA.nd (zkW (fsc:=zm zbe) (N:=["_law_nodes_here","_law_place","_law_kids","_law_label_here"]) (N':=["_law_other","_law_place"]) (src:=[none,some 1]) (by refine ⟨rfl,?_,?_,?_,rfl,rfl⟩ <;> decide +kernel) (zft (pv' 0)) (fun _ _ _ _ _ _=>(zaR 0 (show (["_law_other","_law_place"]:List Str).Nodup by decide +kernel))) (fun _ _ _ _ _ _=>(zfq (PW'.pt (zeo (zaJ (zbN (zbt hr)) (zZ zbQ z_len ym (zc (pv' 0) zi)) (zX zbZ (zZ zbQ z_len ym (zc (pv' 1) zi)) zj)) (zds (zaJ (zbN (zbt hr)) (zci s_A (pv' 0) zd3 (zdk zdj)) (pv' 1))))))) (fun _ _ _ _ _ _=>(pv' 0))))
  (zk (zac 2 zbA.nd (za2 (zk3 (k:=1) (N:=["_law_kid"]) (ps:=["_law_kid"]) (sp:=zgL zeT) la ⟨rfl,rfl,rfl,by decide +kernel,rfl,by decide +kernel,by decide +kernel⟩ (zfQ _)
   (fun f c A outer s H E hr ds Q h=>⟨_,(zbf G_law_key (hr.mono (by omega)) (zc (zT (i_A (zaC hr)) (pv' 0) zdj) zi)),?lam1⟩) (fun _ _ _ us hl=>match us,hl with | [_],_=>rfl) (hr.mono (by omega)) z_sorted (zc (pv' 2) zi))))
  (zk (zac 3 zbA.nd (zW []))
  (zk (za1 (zaJ (zjs (zbt hr)) (pv' 1) (zv zi)) (zn (zac 3 zbA.nd (zT (i_A (zaC hr)) (pv' 1) zdj))) zaG)
  (zn (zV (zv (zc (pv' 3) (zc (zT (i_A (zaC hr)) (pv' 0) (pv' 1)) (zc (zbD zhe z_tuple YJ (zc (za2 (zcP (fsc:=zm zbe) (N:=["_law_nodes_here","_law_place","_law_kids","_law_label_here"]) (N':=["_law_kid","_law_nodes_here"]) (src:=[none,some 0]) (by refine ⟨rfl,?_,?_,?_,rfl,rfl⟩ <;> decide +kernel) (zdi (pv' 2)) (fun _ _ _ _ _ _=>(zaR 0 (show (["_law_kid","_law_nodes_here"]:List Str).Nodup by decide +kernel))) (fun _ _ _ _ _ _=>zc2) (fun _ _ _ _ _ _=>(zbf G_law_tree (hr.mono (by omega)) (zc (pv' 1) (zc (pv' 0) zi)))))) zi)) zi)))))))))),?_⟩)
 case lam1 =>
  obtain ⟨d,k,rfl,⟨q,rfl,hn,hp,rfl⟩,hq⟩:=h
  simp [zaj,zak,zao,zaf,zx,zab,tC',zau,zaX,tB',zal,zai,zba,zL,zay,zP,zbj,zae,zA,zag,zam,za4,zbi,za7,zah,za8,zo,zav,zax,zM,zE,zy,za3,zB,zan,zC,zaq,zD,zK,zH,zI,zap,zad,za9,zN,zR,zaz,zar,zF,zas,zaw,zQ,zS,zaA,zat,zu,zO,zp,zq,zau,zr,zJ,zt,zG,zcY]; exact ⟨_,zhY hn,_,rfl,hp,hq⟩
 ·obtain ⟨ns,p,rfl,_⟩:=h
  rfl
 obtain ⟨ns,p,rfl,o,hp,h8,hq⟩:=h; simp [zaj,zak,zao,zaf,zx,zab,tC',zau,zaX,tB',zal,zai,zba,zL,zay,zP,zbj,zae,zA,zag,zam,za4,zbi,za7,zah,za8,zo,zav,zax,zM,zE,zy,za3,zB,zan,zC,zaq,zD,zK,zH,zI,zap,zad,za9,zN,zR,zaz,zar,zF,zas,zaw,zQ,zS,zaA,zat,zu,zO,zp,zq,zau,zr,zJ,zt,zG]
 have hnl:(ndD ns).length<=60:=by unfold ndD; rw [yD]; exact o.many
 have hkeys:List.map (fun x=>x.fst) (ndD ns)=(keys ns).map plc:=by unfold ndD keys; rw [yo,yo]; rfl
 refine ⟨zbk (by omega),?_⟩
 rw [hkeys]
 refine zdm (fun i acc Γ=>∃ s0,acc=((((keys ns).take i).filter fun q=>decide (q.length=p.length+1) && decide (q.dropLast=p)).map plc)/\Γ=[s0,.val (plc p)]) ⟨.emp,rfl,rfl⟩ ?_ ?_
 ·rintro i d acc Γ hd ⟨s0,rfl,rfl⟩
  rw [yH] at hd
  cases hc:(keys ns)[i]? with
  | none=>rw [hc] at hd; cases hd
  | some q =>
   rw [hc] at hd; cases hd; have hq8:=o.len q (yW hc); have hp8:=o.len p hp; rw [YR,hc]; simp [zaj,zak,zao,zaf,zx,zab,tC',zau,zaX,tB',zal,zai,zba,zL,zay,zP,zbj,zae,zA,zag,zam,za4,zbi,za7,zah,za8,zo,zav,zax,zM,zE,zy,za3,zB,zan,zC,zaq,zD,zK,zH,zI,zap,zad,za9,zN,zR,zaz,zar,zF,zas,zaw,zQ,zS,zaA,zat,zu,zO,zp,zq,zau,zr,zJ,zt,zG,List.filter_append,zgs]
   by_cases h1:q.length=p.length+1
   ·refine .inr ⟨by omega,?_⟩
    by_cases h2:q.dropLast=p
    ·exact .inr ⟨h2,by simp [h1,h2]⟩
    ·exact .inl ⟨h2,fun _=>h2⟩
   ·exact .inl ⟨by omega,fun z=>yL z h1⟩
 ·rintro acc Γ ⟨s0,rfl,rfl⟩
  rw [show List.take (List.map plc (keys ns)).length (keys ns)=keys ns from yn (by rw [yD]; exact yF _)]
  rw [show List.filter (fun q:Pl=>decide (q.length=p.length+1) && decide (q.dropLast=p)) (keys ns)=zbK ns p from rfl]
  have hkl:(zbK ns p).length<=60:=by
   have h1:=List.length_filter_le (fun q:Pl=>decide (q.length=p.length+1) && decide (q.dropLast=p)) (keys ns)
   have h2:(keys ns).length<=60:=by unfold keys; rw [yD]; exact o.many
   unfold zbK; omega
  have hkc:∀ R:List D->Prop,R ((zbO ns p).map fun q=>trD (zaD (n-1) ns q))->zdX (zx 0) za3 (zy (zaV n) (zA (zab 1) (zA (zab 0) zae))) R ((zbO ns p).map plc) [] [Slot.emp,Slot.val (D.dit (ndD ns))]:=by
   intro R hR
   refine zdm (fun i acc Γ=>∃ s0,acc=(((zbO ns p).take i).map fun q=>trD (zaD (n-1) ns q))/\Γ=[s0,.val (D.dit (ndD ns))]) ⟨.emp,rfl,rfl⟩ ?_ ?_
   ·rintro i d acc Γ hd ⟨s0,rfl,rfl⟩
    rw [yH] at hd
    cases hc:(zbO ns p)[i]? with
    | none=>rw [hc] at hd; cases hd
    | some q =>
     rw [hc] at hd; cases hd; have hm:=yW hc; have hql:=zjH hm
     cases n with
     | zero =>
      rw [zgh o (by omega)] at hm
      cases hm
     | succ n =>
      simp [zaj,zak,zao,zaf,zx,zab,tC',zau,zaX,tB',zal,zai,zba,zL,zay,zP,zbj,zae,zA,zag,zam,za4,zbi,za7,zah,za8,zo,zav,zax,zM,zE,zy,za3,zB,zan,zC,zaq,zD,zK,zH,zI,zap,zad,za9,zN,zR,zaz,zar,zF,zas,zaw,zQ,zS,zaA,zat,zu,zO,zp,zq,zau,zr,zJ,zt,zG,zaV]
      refine ⟨ns,q,⟨rfl,rfl⟩,o,(zc4.mp hm).1,by omega,?_⟩
      rw [YR,yH,hc]; rfl
   ·rintro acc Γ ⟨s0,rfl,rfl⟩
    rw [show List.take (List.map plc (zbO ns p)).length (zbO ns p)=zbO ns p from yn (by rw [yD]; exact yF _)]
    exact hR
  have hlen:(zbO ns p).length=(zbK ns p).length:=zgK (zgX _) _ _
  refine ⟨by rw [yD]; omega,(zbK ns p).map (fun q=>keyD (zbG q)),by simp,fun i x k h1 h2=>?_,ltP ((zbK ns p).map zqz),.inr ⟨(zbK ns p).map zqz,by rw [yo]; rfl,rfl⟩,?_⟩
  ·rw [yH] at h1 h2
   cases hc:(zbK ns p)[i]? with
   | none=>rw [hc] at h1; cases h1
   | some q =>
    rw [hc] at h1 h2; cases h1; cases h2; obtain ⟨m1,m2⟩:=zew.mp (yW hc)
    refine zhq ⟨q,rfl,fun z=>?_,o.lab q m1 _ ?_,rfl⟩
    ·have:=yc List.length m2
     rw [z] at this
     simp at this
    ·rw [m2,zck]
     simp
  ·rw [zmW plc [] (zbK ns p) (zgX _)]
   rw [show srt (ltP ((zbK ns p).map zqz)) [] (zbK ns p)=zbO ns p from rfl]
   rw [zkF o h8] at hq
   by_cases hp0:p=[]
   ·refine .inl ⟨hp0,zhx p (ndD ns) (zfF hp) ⟨zbk (by rw [yD]; omega),hkc _ ?_⟩⟩
    subst hp0; exact hq
   ·exact .inr ⟨hp0,_,zhY hp0,zhx p (ndD ns) (zfF hp) ⟨zbk (by rw [yD]; omega),hkc _ hq⟩⟩
end
structure NW (ns:Nd):Prop where
 ok:NOk ns
 wd:∀ x ∈ ns,WS x.2
def zbs (l:List Nat):Nat->D
 | 0=>.tup [.str l,.tup [],.tup []]
 | n+1=>.tup [.str [49],.tup [],.tup [zbs l n]]
def WW (d:D):Prop:=Imm d/\Sn d/\zky d=false
def WL (d:D):Prop:=Imm d/\Sn d/\zkn d=false
def zdo:Sp':=fun ds Q=>∃ ns c,ds=[.dit (ndD ns),.int c]/\NW ns/\∀ p,p ∈ keys ns->Q (.val (plc p))
def zbX:Sp':=fun ds Q=>∃ (m:Nat) (l:List Nat),ds=[.int m,.str l]/\1<=m/\m<=1000/\Q (.val (.tup [.str [],.tup [],.tup [zbs l (m-1)]]))
def zbb:Sp':=fun ds Q=>∃ c:Int,ds=[.int c]/\∀ d,WW d->Q (.val d)
def zaZ:Sp':=fun ds Q=>∃ c:Int,ds=[.int c]/\∀ d,WL d->Q (.val d)
def zbJ:Sp':=fun ds Q=>∃ cs:List Int,ds=[.lst (cs.map .int)]/\cs.length<=50/\∀ ns,NW ns->Q (.own (.dit (ndD ns)))
open Classical in
open Classical in
open Classical in
open Classical in
theorem zj2 {es:List (D × D)} {k v:D} (h:zce es k=some v):(k,v) ∈ es:=by
 unfold zce at h; obtain ⟨q,hq,e⟩:=Option.map_eq_some_iff.mp h; have h1:=List.mem_of_find?_eq_some hq; have h2:=List.find?_some hq; obtain ⟨a,b⟩:=q
 have h2':a=k:=by simpa using h2
 dsimp only at e
 rw [<- h2',<- e]; exact h1
def putN (ns:Nd) (q ws:Pl):Nd:=if q ∈ keys ns then ns.map (fun x=>if x.1=q then (q,ws) else x) else ns ++ [(q,ws)]
theorem zhI (ns:Nd) (q ws:Pl):keys (putN ns q ws)=if q ∈ keys ns then keys ns else keys ns ++ [q]:=by
 unfold putN; split
 ·unfold keys
  rw [yo]
  refine YM fun x _=>?_
  show (if x.1=q then (q,ws) else x).1=x.1
  split
  ·rename_i h; exact h.symm
  ·rfl
 ·simp [keys]
open Classical in
theorem zjZ (ns:Nd) (q ws:Pl):zmH (ndD ns) (plc q) (plc ws)=ndD (putN ns q ws):=by
 have hs:(zce (ndD ns) (plc q)).isSome=true↔q ∈ keys ns:=by
  constructor
  ·intro h
   obtain ⟨v,hv⟩:=Option.isSome_iff_exists.mp h; obtain ⟨y,hy,e⟩:=yb.mp (zj2 hv)
   injection e with e1 e2
   rw [<- zfs e1]; exact List.mem_map_of_mem hy
  ·intro h
   rw [zfF h]; rfl
 unfold zmH putN
 by_cases e:q ∈ keys ns
 ·rw [yP (hs.mpr e),yP e]
  unfold ndD; rw [yo,yo]
  refine YM fun x _=>?_
  show (if plc x.1=plc q then (plc x.1,plc ws) else (plc x.1,plc x.2))=(plc (if x.1=q then (q,ws) else x).1,plc (if x.1=q then (q,ws) else x).2)
  by_cases z:x.1=q
  ·rw [yP (by rw [z]),yP z,z]
  ·rw [yN (fun y=>z (zfs y)),yN z]
 ·rw [yN (fun z=>e (hs.mp z)),yN e]
  simp [ndD]
theorem zoZ {ns:Nd} (o:NOk ns) {q ws:Pl} (hl:ns.length<=59) (h8:q.length<=8) (hu:q.dropLast ∈ keys ns) (hlab:∀ l,l ∈ q->zaI l=true):NOk (putN ns q ws):=by
 have hk:=zhI ns q ws
 have hlen:(putN ns q ws).length<=ns.length+1:=by
  unfold putN; split
  ·rw [yD]; omega
  ·simp
 by_cases e:q ∈ keys ns
 ·rw [yP e] at hk
  exact ⟨by rw [hk]; exact o.nil,by rw [hk]; exact o.nd,by rw [hk]; exact o.len,by rw [hk]; exact o.up,by rw [hk]; exact o.lab,by omega⟩
 ·rw [yN e] at hk
  refine ⟨by rw [hk]; simp [o.nil],?_,fun x hx=>?_,fun x hx=>?_,fun x hx=>?_,by omega⟩
  ·rw [hk,List.nodup_append]
   refine ⟨o.nd,by simp,fun a ha b hb=>?_⟩
   rw [show b=q by simpa using hb]
   exact fun z=>e (z ▸ ha)
  all_goals
   rw [hk] at hx
   rcases YB.mp hx with h | h
  ·exact o.len x h
  ·rw [show x=q by simpa using h]; exact h8
  ·rw [hk]; simp [o.up x h]
  ·rw [hk,show x=q by simpa using h]; simp [hu]
  ·exact o.lab x h
  ·rw [show x=q by simpa using h]; exact hlab
theorem zmj {ns:Nd} (o:NW ns) {q ws:Pl} (hw:WS ws) (hl:ns.length<=59) (h8:q.length<=8) (hu:q.dropLast ∈ keys ns) (hlab:∀ l,l ∈ q->zaI l=true):NW (putN ns q ws):=by
 refine ⟨zoZ o.ok hl h8 hu hlab,fun x hx=>?_⟩
 unfold putN at hx; split at hx
 ·obtain ⟨y,hy,e⟩:=yb.mp hx
  rw [<- e]; split
  ·exact hw
  ·exact o.wd y hy
 ·rcases YB.mp hx with z | z
  ·exact o.wd x z
  ·rw [yg.mp z]; exact hw
section
variable {P:Program} {w:World} {K:W.Frag} {mg:Str->Option Value} {base:Heap}
theorem za6:FnScope ["_law_cells","_law_nodes_here","_law_made","_law_cell","_law_above","_law_place"] ["_law_cells"] (zm zdd):=⟨rfl,rfl,rfl,by decide +kernel,rfl,by decide +kernel,by decide +kernel⟩
theorem zf7 (d:Df K mg "_law_nodes" zdd ["_law_cells"]) (G_law_label:Fn P w K mg base 1 "_law_label" ["_law_cell"] zbp) (G_law_words:Fn P w K mg base 2 "_law_words" ["_law_cell"] zbo) (z_len:mg "len"=none):Fn P w K mg base 3 "_law_nodes" ["_law_cells"] zbJ:=by
 refine d.ok za6 (fun ds Q h=>?_) (fun f cdv A outer s H E hr ds Q h=>⟨_,(zk (zfr 1 za6.nd (zk4 (zaC hr) (zv zi) (zv (zc (zW [97,108,108]) zi))))
  (zk (zfr 2 za6.nd (zcg (zc (zv zi) zi)))
  (zk (zep (zdi (pv' 0)) (zaR 3 za6.nd)
   (zk (zac 4 za6.nd (znu (zT (i_A (zaC hr)) (pv' 2) (zX zcb (zX zbZ (zX zcj (pv' 3) zj) (zX zcb (pv' 3) zj)) (zZ zbQ z_len ym (zc (pv' 2) zi))))))
  (zk (zac 5 za6.nd (zX zbZ (pv' 4) (zv (zc (zbf G_law_label (hr.mono (by decide)) (zc (zX zcj (pv' 3) zj) zi)) zi))))
  (zk (za1 (PW'.pt (zmi (zaJ zsh (zZ zbQ z_len ym (zc (pv' 5) zi)) zj) (zjb (zaJ (zbN (zbt hr)) (zX zcb (pv' 3) zj) zj)))) (zn (zac 5 za6.nd (pv' 4))) zaG)
  (zk (za1 (znc (zaJ (zln (zaC hr)) (pv' 5) (pv' 1))) (zn (zdO 2 (pv' 5))) zaG)
  (zn (zk2 (zaC hr) 1 (pv' 5) (zbf G_law_words (hr.mono (by decide)) (zc (zX zcj (pv' 3) zj) zi)))))))))
  (zn (zk1 1))))),?_⟩)
 ·obtain ⟨cs,rfl,_⟩:=h
  rfl
 obtain ⟨cs,rfl,hl,hq⟩:=h; simp [zaj,zak,zao,zaf,zx,zab,tC',zau,zaX,tB',zal,zai,zba,zL,zay,zP,zbj,zae,zA,zag,zam,za4,zbi,za7,zah,za8,zo,zav,zax,zM,zE,zy,za3,zB,zan,zC,zaq,zD,zK,zH,zI,zap,zad,za9,zN,zR,zaz,zar,zF,zas,zaw,zQ,zS,zaA,zat,zu,zO,zp,zq,zau,zr,zJ,zt,zG,zbp,zbo]; refine ⟨Imm.plc _,Imm.plc _,⟨[],rfl⟩,?_⟩
 refine zgl (fun i Γ=>∃ (ns:Nd) (mp:List Pl) (s3 s4 s5:Slot),Γ=[.val (.lst (cs.map .int)),.own (.dit (ndD ns)),.own (.lst (mp.map plc)),s3,s4,s5]/\NW ns/\ns.length<=1+i/\mp≠[]/\mp.length<=1+i/\∀ p ∈ mp,p ∈ keys ns)
  ⟨[([],[[97,108,108]])],[[]],_,_,_,rfl,⟨⟨by simp [keys],by simp [keys],by simp [keys],by simp [keys],by simp [keys],by simp⟩,fun x hx=>by rw [yg.mp hx]; exact ⟨by decide,by decide +kernel⟩⟩,by simp,by simp,by simp,by simp [keys]⟩ ?_ ?_
 ·rintro i d Γ hd ⟨ns,mp,s3,s4,s5,rfl,o,hle,hmp,hml,hma⟩
  have hi:i<cs.length:=by simpa using (yG.mp hd).1
  rw [yH,yC hi] at hd; cases hd
  have hpos:0<mp.length:=List.length_pos_iff.mpr hmp
  have hp0:=md (i:=cs[i] / 120+cs[i] % 120) (n:=mp.length) hpos
  obtain ⟨d,e1,m1⟩:=zcn (mp.map plc) hp0.1 (by rw [yD]; exact hp0.2)
  obtain ⟨p,mq,rfl⟩:=yb.mp m1; have hpk:=hma p mq; have hp8:=o.ok.len p hpk; simp [zaj,zak,zao,zaf,zx,zab,tC',zau,zaX,tB',zal,zai,zba,zL,zay,zP,zbj,zae,zA,zag,zam,za4,zbi,za7,zah,za8,zo,zav,zax,zM,zE,zy,za3,zB,zan,zC,zaq,zD,zK,zH,zI,zap,zad,za9,zN,zR,zaz,zar,zF,zas,zaw,zQ,zS,zaA,zat,zu,zO,zp,zq,zau,zr,zJ,zt,zG,zl8,zbp,zbo]; refine ⟨hpos,plc p,e1,Imm.plc p,?_⟩
  have hnl:(ndD ns).length=ns.length:=by unfold ndD; rw [yD]
  have hsE:(ndD ns).length<sizeLine:=zcL (by omega)
  have hsM:mp.length<sizeLine:=zcL (by omega)
  have fl:∀ q ws:Pl,(putN ns q ws).length<=1+(i+1):=fun q ws=>by
   have:(putN ns q ws).length<=ns.length+1:=by
    unfold putN; split
    ·rw [yD]; omega
    ·simp
   omega
  have fk:∀ (q ws r:Pl),r ∈ keys ns\/r=q->r ∈ keys (putN ns q ws):=fun q ws r h=>by
   rw [zhI]
   rcases h with z | z
   ·split
    ·exact z
    ·simp [z]
   ·split
    ·rename_i y; rw [z]; exact y
    ·simp [z]
  have finA:∀ q ws:Pl,WS ws->q.length<=8->q.dropLast ∈ keys ns->(∀ l,l ∈ q->zaI l=true)->∃ (ns':Nd) (mp2:List Pl),(zmH (ndD ns) (plc q) (plc ws)=ndD ns'/\List.map plc mp=List.map plc mp2)/\NW ns'/\ns'.length<=1+(i+1)/\¬ mp2=[]/\mp2.length<=1+(i+1)/\∀ r:Pl,r ∈ mp2->r ∈ keys ns':=fun q ws hw4 h1 h2 h3 =>
   ⟨putN ns q ws,mp,⟨zjZ _ _ _,rfl⟩,zmj o hw4 (by omega) h1 h2 h3,fl q ws,hmp,by omega,fun r hr=>fk q ws r (.inl (hma r hr))⟩
  have finB:∀ q ws:Pl,WS ws->q.length<=8->q.dropLast ∈ keys ns->(∀ l,l ∈ q->zaI l=true)->∃ (ns':Nd) (mp2:List Pl),(zmH (ndD ns) (plc q) (plc ws)=ndD ns'/\List.map plc mp ++ [plc q]=List.map plc mp2)/\NW ns'/\ns'.length<=1+(i+1)/\¬ mp2=[]/\mp2.length<=1+(i+1)/\∀ r:Pl,r ∈ mp2->r ∈ keys ns':=fun q ws hw4 h1 h2 h3 =>
   ⟨putN ns q ws,mp ++ [q],⟨zjZ _ _ _,by simp⟩,zmj o hw4 (by omega) h1 h2 h3,fl q ws,by simp,by simp; omega,fun r hr=>fk q ws r (by
    rcases YB.mp hr with z | z
    ·exact .inl (hma r z)
    ·exact .inr (by simpa using z))⟩
  have hpu:=o.ok.up p hpk; have hpl:=o.ok.lab p hpk; intro l hlab; rw [zja]
  refine ⟨zbk (by simp; omega),?_⟩
  simp
  by_cases h8:8<=p.length
  ·refine .inr ⟨by omega,zdg _ _ ?_⟩
   cases (zce (ndD ns) (plc p)).isSome <;> simp
   ·exact ⟨hsM,fun ws hws=>⟨⟨zdb p,zcQ p⟩,hsE,finB p ws hws hp8 hpu hpl⟩⟩
   ·exact fun ws hws=>⟨⟨zdb p,zcQ p⟩,hsE,finA p ws hws hp8 hpu hpl⟩
  ·refine .inl ⟨by omega,?_⟩
   by_cases h7:cs[i] % 7=6
   ·refine .inr ⟨h7,zdg _ _ ?_⟩
    cases (zce (ndD ns) (plc p)).isSome <;> simp
    ·exact ⟨hsM,fun ws hws=>⟨⟨zdb p,zcQ p⟩,hsE,finB p ws hws hp8 hpu hpl⟩⟩
    ·exact fun ws hws=>⟨⟨zdb p,zcQ p⟩,hsE,finA p ws hws hp8 hpu hpl⟩
   ·have h1:(p ++ [l]).length<=8:=by simp; omega
    have h2:(p ++ [l]).dropLast ∈ keys ns:=by rw [List.dropLast_concat]; exact hpk
    have h3:∀ x,x ∈ p ++ [l]->zaI x=true:=fun x hx=>by
     rcases YB.mp hx with z | z
     ·exact hpl x z
     ·rw [show x=l by simpa using z]; exact hlab
    refine .inl ⟨h7,zdg _ _ ?_⟩
    cases (zce (ndD ns) (plc (p ++ [l]))).isSome <;> simp
    ·exact ⟨hsM,fun ws hws=>⟨⟨zdb (p ++ [l]),zcQ (p ++ [l])⟩,hsE,finB (p ++ [l]) ws hws h1 h2 h3⟩⟩
    ·exact fun ws hws=>⟨⟨zdb (p ++ [l]),zcQ (p ++ [l])⟩,hsE,finA (p ++ [l]) ws hws h1 h2 h3⟩
 ·rintro Γ ⟨ns,mp,s3,s4,s5,rfl,o,hle,hmp,hml,hma⟩
  simp [zaj,zak,zao,zaf,zx,zab,tC',zau,zaX,tB',zal,zai,zba,zL,zay,zP,zbj,zae,zA,zag,zam,za4,zbi,za7,zah,za8,zo,zav,zax,zM,zE,zy,za3,zB,zan,zC,zaq,zD,zK,zH,zI,zap,zad,za9,zN,zR,zaz,zar,zF,zas,zaw,zQ,zS,zaA,zat,zu,zO,zp,zq,zau,zr,zJ,zt,zG]; exact hq ns o
theorem ziY:FnScope ["_law_nodes_here","_law_cell"] ["_law_nodes_here","_law_cell"] (zm zfj):=⟨rfl,rfl,rfl,by decide +kernel,rfl,by decide +kernel,by decide +kernel⟩
theorem zjp (d:Df K mg "_law_at" zfj ["_law_nodes_here","_law_cell"]) (z_len:mg "len"=none) (z_list:mg "list"=none):Fn P w K mg base 1 "_law_at" ["_law_nodes_here","_law_cell"] zdo:=by
 refine d.ok ziY (fun ds Q h=>?_) (fun f cdv A outer s H E hr ds Q h=>⟨_,(zn (zV (zT (i_A (zaC hr)) (za2 (zdP (zhf rfl) z_list PyProof.Rows.boot_list (zc (pv' 0) zi))) (zX zcb (pv' 1) (zZ zbQ z_len ym (zc (pv' 0) zi)))))),?_⟩)
 ·obtain ⟨ns,c,rfl,_⟩:=h
  rfl
 obtain ⟨ns,c,rfl,o,q⟩:=h; simp [zaj,zak,zao,zaf,zx,zab,tC',zau,zaX,tB',zal,zai,zba,zL,zay,zP,zbj,zae,zA,zag,zam,za4,zbi,za7,zah,za8,zo,zav,zax,zM,zE,zy,za3,zB,zan,zC,zaq,zD,zK,zH,zI,zap,zad,za9,zN,zR,zaz,zar,zF,zas,zaw,zQ,zS,zaA,zat,zu,zO,zp,zq,zau,zr,zJ,zt,zG]
 have hkeys:List.map (fun x=>x.fst) (ndD ns)=(keys ns).map plc:=by unfold ndD keys; rw [yo,yo]; rfl
 have hl:(ndD ns).length=(keys ns).length:=by unfold ndD keys; rw [yD,yD]
 have hpos:0<(keys ns).length:=List.length_pos_of_mem o.ok.nil
 rw [hkeys,hl]; have hm:=md (i:=c) (n:=(keys ns).length) hpos
 obtain ⟨d,e1,m1⟩:=zcn ((keys ns).map plc) hm.1 (by rw [yD]; exact hm.2)
 obtain ⟨p,hp,rfl⟩:=yb.mp m1; exact ⟨hpos,_,e1,q p hp⟩
theorem zcr:FnScope ["_law_many","_law_label_here","_law_node","_law_k"] ["_law_many","_law_label_here"] (zm zdK):=⟨rfl,rfl,rfl,by decide +kernel,rfl,by decide +kernel,by decide +kernel⟩
theorem zg0 (d:Df K mg "_law_deep" zdK ["_law_many","_law_label_here"]) (z_int:mg "int"=none) (z_range:mg "range"=none):Fn P w K mg base 1 "_law_deep" ["_law_many","_law_label_here"] zbX:=by
 refine d.ok zcr (fun ds Q h=>?_) (fun f cdv A outer s H E hr ds Q h=>⟨_,(zk (zac 2 zcr.nd (zv (zc (pv' 1) (zc (zv zi) (zc (zv zi) zi)))))
  (zk (zep (zdQ z_range (zc (pv' 0) zi)) (zaR 3 zcr.nd)
   (zn (zac 2 zcr.nd (zv (zc (zT (i_A (zaC hr)) (za2 (zcg (zc (zW [49]) (zc (zW []) zi)))) (zbD zkd z_int PyProof.Rows.boot_int (zc (zbm (zbN (zbt hr)) (pv' 3) (zX znG (pv' 0) zj)) zi))) (zc (zv zi) (zc (zv (zc (pv' 2) zi)) zi)))))))
  (zn (zV (pv' 2))))),?_⟩)
 ·obtain ⟨m,l,rfl,_⟩:=h
  rfl
 obtain ⟨m,l,rfl,h1,h2,q⟩:=h; simp [zaj,zak,zao,zaf,zx,zab,tC',zau,zaX,tB',zal,zai,zba,zL,zay,zP,zbj,zae,zA,zag,zam,za4,zbi,za7,zah,za8,zo,zav,zax,zM,zE,zy,za3,zB,zan,zC,zaq,zD,zK,zH,zI,zap,zad,za9,zN,zR,zaz,zar,zF,zas,zaw,zQ,zS,zaA,zat,zu,zO,zp,zq,zau,zr,zJ,zt,zG]
 refine ⟨by omega,?_⟩
 refine zgl (fun i Γ=>∃ s3,Γ=[.val (.int m),.val (.str l),.val (if i=m then .tup [.str [],.tup [],.tup [zbs l (m-1)]] else zbs l i),s3]) ⟨.emp,?_⟩ ?_ ?_
 ·rw [yN (by omega)]
  rfl
 ·rintro i d Γ hd ⟨s3,rfl⟩
  rw [yH] at hd
  have hi:i<m:=by
   cases hc:(List.range m)[i]? with
   | none=>rw [hc] at hd; cases hd
   | some k=>simpa using (yG.mp hc).1
  rw [List.getElem?_range hi] at hd; cases hd
  rw [yN (by omega)]
  simp [zaj,zak,zao,zaf,zx,zab,tC',zau,zaX,tB',zal,zai,zba,zL,zay,zP,zbj,zae,zA,zag,zam,za4,zbi,za7,zah,za8,zo,zav,zax,zM,zE,zy,za3,zB,zan,zC,zaq,zD,zK,zH,zI,zap,zad,za9,zN,zR,zaz,zar,zF,zas,zaw,zQ,zS,zaA,zat,zu,zO,zp,zq,zau,zr,zJ,zt,zG]
  by_cases e:i+1=m
  ·rw [yP (by omega),yP e]
   exact ⟨.str [],rfl,by rw [show m-1=i by omega]⟩
  ·rw [yN (by omega),yN e]
   exact ⟨.str [49],rfl,rfl⟩
 ·rintro Γ ⟨s3,rfl⟩
  simp [zaj,zak,zao,zaf,zx,zab,tC',zau,zaX,tB',zal,zai,zba,zL,zay,zP,zbj,zae,zA,zag,zam,za4,zbi,za7,zah,za8,zo,zav,zax,zM,zE,zy,za3,zB,zan,zC,zaq,zD,zK,zH,zI,zap,zad,za9,zN,zR,zaz,zar,zF,zas,zaw,zQ,zS,zaA,zat,zu,zO,zp,zq,zau,zr,zJ,zt,zG]; exact q
theorem zdG:FnScope ["_law_cell"] ["_law_cell"] (zm zbL):=⟨rfl,rfl,rfl,by decide +kernel,rfl,by decide +kernel,by decide +kernel⟩
theorem zdR (d:Df K mg "_law_wrong_word" zbL ["_law_cell"]):Fn P w K mg base 1 "_law_wrong_word" ["_law_cell"] zbb:=by
 refine d.ok zdG (fun ds Q h=>?_) (fun f cdv A outer s H E hr ds Q h=>⟨_,(zn (zV (zT (i_A (zaC hr)) (za2 (zcg (zc (zW []) (zc (zW [65]) (zc (zW [97,98,99,100,101,102,103,104,105,106,107,108,109]) (zc (zW [97,32,98]) (zc zj (zc zgV (zc zbw (zc (zv (zc (zW [97]) zi)) (zc (zW [97,46]) zi))))))))))) (zX zcb (pv' 0) zj)))),?_⟩)
 ·obtain ⟨c,rfl,_⟩:=h
  rfl
 obtain ⟨c,rfl,q⟩:=h; simp [zaj,zak,zao,zaf,zx,zab,tC',zau,zaX,tB',zal,zai,zba,zL,zay,zP,zbj,zae,zA,zag,zam,za4,zbi,za7,zah,za8,zo,zav,zax,zM,zE,zy,za3,zB,zan,zC,zaq,zD,zK,zH,zI,zap,zad,za9,zN,zR,zaz,zar,zF,zas,zaw,zQ,zS,zaA,zat,zu,zO,zp,zq,zau,zr,zJ,zt,zG]
 refine ⟨zbk (by decide),?_⟩
 obtain ⟨d,e1,m1⟩:=zcn [D.str [],D.str [65],D.str [97,98,99,100,101,102,103,104,105,106,107,108,109],D.str [97,32,98],D.int 1,D.non,D.bl true,plc [[97]],D.str [97,46]] (md (i:=c) (n:=9) (by decide)).1 (md (i:=c) (n:=9) (by decide)).2
 refine ⟨d,e1,q d ?_⟩; simp only [yO,yU,or_false] at m1
 rcases m1 with rfl | rfl | rfl | rfl | rfl | rfl | rfl | rfl | rfl <;> first
  | exact ⟨.str _,.str (by decide),by decide +kernel⟩
  | exact ⟨.int _,.oth ⟨"int",rfl,by simp⟩ (fun _ z=>nomatch z),rfl⟩
  | exact ⟨.non,.oth ⟨"NoneType",rfl,by simp⟩ (fun _ z=>nomatch z),rfl⟩
  | exact ⟨.bl _,.oth ⟨"bool",rfl,by simp⟩ (fun _ z=>nomatch z),rfl⟩
  | exact ⟨Imm.plc _,.tup (by decide) (fun d hd=>by rw [yg.mp hd]; exact .str (by decide)),rfl⟩
theorem zdp:FnScope ["_law_cell"] ["_law_cell"] (zm zbB):=⟨rfl,rfl,rfl,by decide +kernel,rfl,by decide +kernel,by decide +kernel⟩
theorem zdu (d:Df K mg "_law_wrong_label" zbB ["_law_cell"]):Fn P w K mg base 1 "_law_wrong_label" ["_law_cell"] zaZ:=by
 refine d.ok zdp (fun ds Q h=>?_) (fun f cdv A outer s H E hr ds Q h=>⟨_,(zn (zV (zT (i_A (zaC hr)) (za2 (zcg (zc (zW []) (zc (zW [48]) (zc (zW [48,49]) (zc (zW [49,65]) (zc (zW [97]) (zc (zW [49,97,98,99,100]) (zc (zW [49,50,51,52,53,54,55,56,57,48]) (zc zj (zc zgV (zc (zv (zc (zW [49]) zi)) (zc (zW [32,49]) zi))))))))))))) (zX zcb (pv' 0) zj)))),?_⟩)
 ·obtain ⟨c,rfl,_⟩:=h
  rfl
 obtain ⟨c,rfl,q⟩:=h; simp [zaj,zak,zao,zaf,zx,zab,tC',zau,zaX,tB',zal,zai,zba,zL,zay,zP,zbj,zae,zA,zag,zam,za4,zbi,za7,zah,za8,zo,zav,zax,zM,zE,zy,za3,zB,zan,zC,zaq,zD,zK,zH,zI,zap,zad,za9,zN,zR,zaz,zar,zF,zas,zaw,zQ,zS,zaA,zat,zu,zO,zp,zq,zau,zr,zJ,zt,zG]
 refine ⟨zbk (by decide),?_⟩
 obtain ⟨d,e1,m1⟩:=zcn [D.str [],D.str [48],D.str [48,49],D.str [49,65],D.str [97],D.str [49,97,98,99,100],D.str [49,50,51,52,53,54,55,56,57,48],D.int 1,D.non,plc [[49]],D.str [32,49]] (md (i:=c) (n:=11) (by decide)).1 (md (i:=c) (n:=11) (by decide)).2
 refine ⟨d,e1,q d ?_⟩; simp only [yO,yU,or_false] at m1
 rcases m1 with rfl | rfl | rfl | rfl | rfl | rfl | rfl | rfl | rfl | rfl | rfl <;> first
  | exact ⟨.str _,.str (by decide),by decide +kernel⟩
  | exact ⟨.int _,.oth ⟨"int",rfl,by simp⟩ (fun _ z=>nomatch z),rfl⟩
  | exact ⟨.non,.oth ⟨"NoneType",rfl,by simp⟩ (fun _ z=>nomatch z),rfl⟩
  | exact ⟨.bl _,.oth ⟨"bool",rfl,by simp⟩ (fun _ z=>nomatch z),rfl⟩
  | exact ⟨Imm.plc _,.tup (by decide) (fun d hd=>by rw [yg.mp hd]; exact .str (by decide)),rfl⟩
end
def zeP (t:Tr):Prop:=t.lab.length<=12/\WS t.wds/\t.kds.length<=60/\∀ k ∈ t.kds,Sn (trD k)
def Fit:Nat->Tr->Prop
 | 0,_=>False
 | n+1,t=>t.lab.length<=12/\WS t.wds/\t.kds.length<=60/\Ris (t.kds.map Tr.lab)/\∀ k ∈ t.kds,zaI k.lab=true/\Fit n k
def chg (F:Tr->D):Pl->Tr->D
 | [],t=>F t
 | l :: p,t=>.tup [.str t.lab,plc t.wds,.tup (t.kds.map fun k=>if k.lab=l then chg F p k else trD k)]
theorem zrx {l:List Nat} (h:zaI l=true):l.length<=12:=by
 obtain ⟨m,n,hm,m1,m9,ml,l12,_⟩:=zeD h; exact l12
theorem zqE {l:List Nat} (h:zfa l=true):l.length<=12:=by
 unfold zfa at h; rw [yd,YA] at h; exact h.1.2
theorem Sn.plc {ws:Pl} (h:WS ws):Sn (plc ws):=.tup (by rw [yD]; have:=h.1; omega) fun d hd=>by
 obtain ⟨l,hl,rfl⟩:=yb.mp hd
 have:=zqE (h.2 l hl)
 exact .str (by omega)
theorem Sn.three {a b c:D} (ha:Sn a) (hb:Sn b) (hc:Sn c):Sn (.tup [a,b,c]):=.tup (by simp) fun d hd=>by
 simp only [yO,yU,or_false] at hd
 rcases hd with rfl | rfl | rfl
 ·exact ha
 ·exact hb
 ·exact hc
theorem zeP.kids {t:Tr} (h:zeP t):Sn (.tup (t.kds.map trD)):=.tup (by rw [yD]; have:=h.2.2.1; omega) fun d hd=>by
 obtain ⟨k,hk,rfl⟩:=yb.mp hd; exact h.2.2.2 k hk
theorem zeP.sn {t:Tr} (h:zeP t):Sn (trD t):=by
 rw [zbP]
 exact .three (.str (by have:=h.1; omega)) (.plc h.2.1) h.kids
theorem Fit.sn:∀ {n:Nat} {t:Tr},Fit n t->Sn (trD t)
 | n+1,t,h=>zeP.sn ⟨h.1,h.2.1,h.2.2.1,fun k hk=>Fit.sn (h.2.2.2.2 k hk).2⟩
theorem Fit.a {n:Nat} {t:Tr} (h:Fit n t):zeP t:=by
 cases n with
 | zero=>exact h.elim
 | succ n=>exact ⟨h.1,h.2.1,h.2.2.1,fun k hk=>(h.2.2.2.2 k hk).2.sn⟩
theorem zh2 {ws:Pl} (h:WS ws):zcz (plc ws)=true:=by
 show (ws.map D.str).all zky=true
 rw [yp]; intro d hd; obtain ⟨l,hl,rfl⟩:=yb.mp hd; exact h.2 l hl
theorem zg8 (ks:List Tr):(ks.map trD).map zcT=ks.map Tr.lab:=by
 rw [yo]
 refine YM fun k _=>?_
 show zcT (trD k)=_
 rw [zbP]; rfl
open Classical in
theorem zht:∀ {L:List (List Nat)},Ris L->zfl L=true
 | [],_=>rfl
 | [a],_=>rfl
 | a :: b :: r,h=>by
  have h':=List.pairwise_cons.mp h; unfold zfl
  rw [yZ (h'.1 b (by simp)),YI]
  exact zht h'.2
open Classical in
theorem zm2 {L:List (List Nat)} (h:Ris L) (h2:2<=L.length):zfl L.reverse=false:=by
 have hl:L.reverse.length=L.length:=YX
 cases hr:L.reverse with
 | nil=>rw [hr] at hl; simp at hl; omega
 | cons a r =>
  cases r with
  | nil=>rw [hr] at hl; simp at hl; omega
  | cons b r =>
   have e:L=r.reverse ++ [b,a]:=by
    rw [<- List.reverse_reverse (as:=L),hr]; simp
   unfold Ris at h; rw [e,List.pairwise_append] at h
   have hk:=(List.pairwise_cons.mp h.2.1).1 a (by simp)
   unfold zfl; rw [yR (zly hk),Bool.false_and]
open Classical in
theorem zec (x:List Nat):∀ L:List (List Nat),zfl (L ++ [x,x])=false
 | []=>by
  show (decide (klt (zcc x) (zcc x)) && _)=false
  rw [yR (zjE _),Bool.false_and]
 | [a]=>by
  show (decide (klt (zcc a) (zcc x)) && zfl ([] ++ [x,x]))=false
  rw [zec x [],YS]
 | a :: b :: L=>by
  show (decide (klt (zcc a) (zcc b)) && zfl ((b :: L) ++ [x,x]))=false
  rw [zec x (b :: L),YS]
theorem zfC:∀ {n:Nat} {t:Tr},Fit n t->zdz n (plc t.wds) (.tup (t.kds.map trD))=true
 | n+1,t,h=>by
  show (zcz (plc t.wds) && zb7 (zbu n) (.tup (t.kds.map trD)))=true
  rw [zh2 h.2.1,YI]
  show ((t.kds.map trD).all (zbu n) && zfl ((t.kds.map trD).map zcT))=true
  rw [zg8,zht h.2.2.2.1,Bool.and_true,yp]; intro d hd; obtain ⟨k,hk,rfl⟩:=yb.mp hd; obtain ⟨h1,h2⟩:=h.2.2.2.2 k hk; rw [zbP,zbU,zfC h2,Bool.and_true]; exact h1
def Bad (d:D):Prop:=∀ n,zbu n d=false
theorem zj8 {F:Tr->D}:∀ (p:Pl) (t u:Tr),zb0 t p=some u->Bad (F u)->p≠[]->∀ n w,zdz n w (.tup (t.kds.map fun k=>if k.lab=p.headD [] then chg F (p.drop 1) k else trD k))=false
 | [],_,_,_,_,hp=>yL rfl hp
 | l :: p,t,u,h,hb,_=>by
  intro n w
  cases n with
  | zero=>rfl
  | succ n =>
  simp only [zb0] at h
  cases hk:zcx l t.kds with
  | none=>rw [hk] at h; cases h
  | some k =>
   rw [hk] at h; have hm:=List.mem_of_find?_eq_some hk
   have hl:k.lab=l:=by simpa using List.find?_some hk
   show (zcz w && zb7 (zbu n) _)=false
   rw [zkf (d:=chg F p k) (yb.mpr ⟨k,hm,by simp [hl]⟩),YS]
   cases p with
   | nil =>
    simp only [zb0,Option.some.injEq] at h; subst h; exact hb n
   | cons m p =>
    show zbu n (.tup [_,_,_])=false
    rw [zbU]
    have:=zj8 (m :: p) k u h hb (by simp) n (plc k.wds)
    simp only [List.headD_cons,List.drop_one,List.tail_cons] at this; rw [this,YS]
theorem zhH:∀ {ks:List Tr},(ks.map Tr.lab).Nodup->∀ k ∈ ks,∀ k' ∈ ks,k.lab=k'.lab->k=k'
 | [],_=>fun _ h=>(nomatch h)
 | a :: r,nd=>fun k hk k' hk' e=>by
  have nd':=Yf.mp nd
  rcases yO.mp hk with h1 | h1
  ·rcases yO.mp hk' with h2 | h2
   ·rw [h1,h2]
   ·exact yL (yb.mpr ⟨k',h2,by rw [<- e,h1]⟩) nd'.1
  ·rcases yO.mp hk' with h2 | h2
   ·exact yL (yb.mpr ⟨k,h1,by rw [e,h2]⟩) nd'.1
   ·exact zhH nd'.2 k h1 k' h2 e
theorem zhW {F:Tr->D}:∀ (p:Pl) (n:Nat) (t u:Tr),Fit n t->zb0 t p=some u->F u=trD u->chg F p t=trD t
 | [],n,t,u,_,h,e=>by
  simp only [zb0,Option.some.injEq] at h; subst h; exact e
 | l :: p,n+1,t,u,hf,h,e=>by
  simp only [zb0] at h; rw [zbP t]; unfold chg
  cases hk:zcx l t.kds with
  | none=>rw [hk] at h; cases h
  | some k =>
   rw [hk] at h; have hm:=List.mem_of_find?_eq_some hk
   have hl:k.lab=l:=by simpa using List.find?_some hk
   have:(t.kds.map fun k=>if k.lab=l then chg F p k else trD k)=t.kds.map trD:=by
    refine YM fun x hx=>?_
    split
    ·rename_i hxl
     have:x=k:=zhH hf.2.2.2.1.nodup x hx k hm (hxl.trans hl.symm)
     subst this; exact zhW p n x u (hf.2.2.2.2 x hx).2 h e
    ·rfl
   rw [this]
theorem zgw {F:Tr->D} (hF:∀ u,zeP u->Sn (F u)):∀ (p:Pl) (n:Nat) (t:Tr),Fit n t->Sn (chg F p t)
 | [],n,t,h=>hF t h.a
 | l :: p,n+1,t,h=>by
  refine .three (.str (by have:=h.1; omega)) (.plc h.2.1) (.tup (by rw [yD]; have:=h.2.2.1; omega) fun d hd=>?_)
  obtain ⟨k,hk,rfl⟩:=yb.mp hd; have hf:=(h.2.2.2.2 k hk).2; split
  ·exact zgw hF p n k hf
  ·exact hf.sn
theorem ze3 {α β:Type} {f:α->β}:∀ {l:List α},l.Nodup->(∀ a ∈ l,∀ b ∈ l,f a=f b->a=b)->(l.map f).Nodup
 | [],_,_=>List.nodup_nil
 | x :: l,h,hi=>by
  rw [Yf] at h; rw [yq,Yf]
  refine ⟨fun z=>?_,ze3 h.2 fun a ha b hb=>hi a (yV _ ha) b (yV _ hb)⟩
  obtain ⟨y,hy,e⟩:=yb.mp z; rw [hi y (yV _ hy) x yh e] at hy; exact h.1 hy
theorem zkI {α β:Type} (f:α->β) (lt:Nat->Nat->Bool) (d:α) (ps:List α):(srt lt d ps).map f=srt lt (f d) (ps.map f):=by
 unfold srt; rw [yD]; split
 ·rfl
 ·rw [yo]
  refine YM fun i _=>?_
  simp [List.getD,yH]
theorem zjG (ns:Nd) (n:Nat) (p:Pl):((zbO ns p).map (zaD n ns)).map Tr.lab=srt (ltP (((zbK ns p).map zbG).map zcc)) [] ((zbK ns p).map zbG):=by
 rw [yo]
 have e:(Tr.lab ∘ zaD n ns)=zbG:=by funext q; exact zcX n ns q
 rw [e]; unfold zbO; rw [zkI,yo]; rfl
theorem zkz {ns:Nd} (o:NW ns) (p:Pl):WS (zgI ns p):=by
 unfold zgI
 cases h:ns.lookup p with
 | none=>exact ⟨by simp,by simp⟩
 | some ws =>
  have:(p,ws) ∈ ns:=by
   clear o
   induction ns with
   | nil=>cases h
   | cons x r ih =>
    obtain ⟨a,b⟩:=x; rw [yk] at h
    by_cases e:p=a
    ·subst e
     simp at h
     subst h; exact yh
    ·rw [show (p == a)=false from beq_eq_false_iff_ne.mpr e] at h
     exact yV _ (ih h)
  exact o.wd _ this
theorem zb2 {ns:Nd} (o:NW ns):∀ (m n:Nat) (p:Pl),p ∈ keys ns->8<=p.length+n->9<=p.length+m->Fit m (zaD n ns p)
 | 0,n,p,hp,_,h9=>by
  have:=o.ok.len p hp
  omega
 | m+1,n,p,hp,h8,h9=>by
  have hlab:(zaD n ns p).lab.length<=12:=by
   rw [zcX]
   cases hc:p.getLast? with
   | none=>unfold zbG; rw [hc]; exact yi _
   | some l =>
    unfold zbG; rw [hc]; exact zrx (o.ok.lab p hp l (List.mem_of_getLast? hc))
  have hw:WS (zaD n ns p).wds:=by cases n <;> exact zkz o p
  cases n with
  | zero=>exact ⟨hlab,hw,yi _,.nil,fun k hk=>(nomatch hk)⟩
  | succ n =>
   have hf:∀ q ∈ zbK ns p,q ∈ keys ns/\q=p ++ [zbG q]:=fun q hq=>zew.mp hq
   have hkl:(zbK ns p).length<=60:=by
    have h1:=List.length_filter_le (fun q:Pl=>decide (q.length=p.length+1) && decide (q.dropLast=p)) (keys ns)
    have h2:(keys ns).length<=60:=by unfold keys; rw [yD]; exact o.ok.many
    unfold zbK; omega
   have hsl:(zbO ns p).length=(zbK ns p).length:=zgK (zgX _) _ _
   refine ⟨hlab,hw,?_,?_,fun k hk=>?_⟩
   ·show ((zbO ns p).map _).length<=_
    rw [yD]; omega
   ·show Ris (((zbO ns p).map (zaD n ns)).map Tr.lab)
    rw [zjG]
    refine ziW ?_ fun l hl=>?_
    ·refine ze3 (o.ok.nd.sublist List.filter_sublist) fun a ha b hb e=>?_
     rw [(hf a ha).2,(hf b hb).2,e]
    ·obtain ⟨q,hq,rfl⟩:=yb.mp hl
     exact o.ok.lab q (hf q hq).1 (zbG q) (by rw [(hf q hq).2,zck]; simp)
   ·obtain ⟨q,hq,rfl⟩:=yb.mp hk
    have hm:=zc4.mp hq; have hl:=zjH hq
    refine ⟨?_,zb2 o m n q hm.1 (by omega) (by omega)⟩
    rw [zcX]
    exact o.ok.lab q hm.1 (zbG q) (by rw [hm.2,zck]; simp)
theorem zpX {α:Type} (a:α) (r:List α):zcV (a :: r) (some 1) none=r:=by
 unfold zcV; simp [HT.sIx]
def rF (F:Tr->D):D->D->Prop:=fun d k=>∃ u,d=trD u/\zeP u/\k=F u
def zY (R:D->D->Prop) (f:Addr):Nat->Sp'
 | 0=>fun _ _=>False
 | n+1=>fun ds Q=>∃ (t:Tr) (p:Pl) (F:Tr->D),ds=[trD t,plc p,.adr f]/\Fit (n+1) t/\(∀ u,zeP u->R (trD u) (F u))/\p.length<=100/\Q (.val (chg F p t))
instance {R:D->D->Prop} {f:Addr} {n:Nat}:MSp (zY R f n):=⟨fun _ _ _ h q=>by
 cases n with
 | zero=>exact q
 | succ n =>
  obtain ⟨t,p,F,a,b,c,d,q⟩:=q; exact ⟨t,p,F,a,b,c,d,h _ q⟩⟩
@[simp] theorem ix0 (k:Tr) (Q:D->Prop):zgQ (trD k) (.int 0) Q↔Q (.str k.lab):=by
 rw [zbP]; simp
@[simp] theorem ix1 (k:Tr) (Q:D->Prop):zgQ (trD k) (.int 1) Q↔Q (plc k.wds):=by
 rw [zbP]; simp
@[simp] theorem ix2 (k:Tr) (Q:D->Prop):zgQ (trD k) (.int 2) Q↔Q (.tup (k.kds.map trD)):=by
 rw [zbP]; simp
section
variable {P:Program} {w:World} {K:W.Frag} {mg:Str->Option Value} {base:Heap}
theorem zbH:FnScope ["_law_node","_law_place","_law_form","_law_kids","_law_kid"] ["_law_node","_law_place","_law_form"] (zm zbT):=⟨rfl,rfl,rfl,by decide +kernel,rfl,by decide +kernel,by decide +kernel⟩
theorem zeR {J:L2.Jt} {R:D->D->Prop} {fv:Addr} (V:FnV P w K mg base J 1 fv R) (d:Df K mg "_law_changed" zbT ["_law_node","_law_place","_law_form"]) (z_tuple:mg "tuple"=none):∀ n:Nat,FnJ P w K mg base J (n+1) "_law_changed" ["_law_node","_law_place","_law_form"] (zY R fv n):=by
 intro n
 induction n with
 | zero=>exact d.okJ (k:=0) zbH V.jk (fun ds Q h=>(show False from h).elim) (fun f cdv A outer s H E hj hr ds Q h=>(show False from h).elim)
 | succ n ih =>
 have G_law_changed:FnJ P w K mg base J (n+1) "_law_changed" ["_law_node","_law_place","_law_form"] (zY R fv n):=ih
 refine d.okJ (k:=n+1) zbH V.jk (fun ds Q h=>?_) (fun f cdv A outer s H E hj hr ds Q h=>⟨_,(zk (za1 (zaJ (zbN (zbt hr)) (pv' 1) (zv zi)) (zn (zV (zjl 2 V (hr.mono (by omega)) hj (zc (pv' 0) zi)))) zaG)
  (zk (zfr 3 zbH.nd (zcg zi))
  (zk (zep (zdi (zT (i_A (zaC hr)) (pv' 0) zj)) (zaR 4 zbH.nd)
   (zn (za1 (zaJ (zbN (zbt hr)) (zT (i_A (zaC hr)) (pv' 4) zj) (zT (i_A (zaC hr)) (pv' 1) zj)) (zn (zdO 3 (zpe G_law_changed (hr.mono (by omega)) hj (zc (pv' 4) (zc (zci s_A (pv' 1) (zdk zj) zd3) (zc (pv' 2) zi)))))) (zn (zdO 3 (pv' 4))))))
  (zii 3 (zn (zV (zv (zc (zT (i_A (zaC hr)) (pv' 0) zj) (zc (zT (i_A (zaC hr)) (pv' 0) zj) (zc (zbD zhe z_tuple YJ (zc (pv' 3) zi)) zi)))))))))),?_⟩)
 ·obtain ⟨t,p,F,rfl,_⟩:=h
  rfl
 obtain ⟨t,p,F,rfl,hf,hF,hpl,q⟩:=h; simp [zaj,zak,zao,zaf,zx,zab,tC',zau,zaX,tB',zal,zai,zba,zL,zay,zP,zbj,zae,zA,zag,zam,za4,zbi,za7,zah,za8,zo,zav,zax,zM,zE,zy,za3,zB,zan,zC,zaq,zD,zK,zH,zI,zap,zad,za9,zN,zR,zaz,zar,zF,zas,zaw,zQ,zS,zaA,zat,zu,zO,zp,zq,zau,zr,zJ,zt,zG]
 by_cases hp0:p=[]
 ·subst hp0
  exact .inr ⟨rfl,F t,hF t hf.a,q⟩
 refine .inl ⟨hp0,?_⟩
 obtain ⟨l,p,rfl⟩:∃ l p',p=l :: p':=by
  cases p with
  | nil=>exact yL rfl hp0
  | cons l p=>exact ⟨l,p,rfl⟩
 refine zgl (fun i Γ=>∃ s4,Γ=[.val (trD t),.val (plc (l :: p)),.val (.adr fv),.own (.lst ((t.kds.take i).map fun k=>if k.lab=l then chg F p k else trD k)),s4]) ⟨.emp,rfl⟩ ?_ ?_
 ·rintro i d Γ hd ⟨s4,rfl⟩
  rw [yH] at hd
  cases hc:t.kds[i]? with
  | none=>rw [hc] at hd; cases hd
  | some k =>
   rw [hc] at hd; cases hd; have hk:=hf.2.2.2.2 k (yW hc); rw [YR,hc]; simp [zaj,zak,zao,zaf,zx,zab,tC',zau,zaX,tB',zal,zai,zba,zL,zay,zP,zbj,zae,zA,zag,zam,za4,zbi,za7,zah,za8,zo,zav,zax,zM,zE,zy,za3,zB,zan,zC,zaq,zD,zK,zH,zI,zap,zad,za9,zN,zR,zaz,zar,zF,zas,zaw,zQ,zS,zaA,zat,zu,zO,zp,zq,zau,zr,zJ,zt,zG,ix0]
   have hsz:min i t.kds.length<sizeLine:=zcL (by have:=hf.2.2.1; omega)
   by_cases e:k.lab=l
   ·refine .inr ⟨e,?_⟩
    rw [zpX]
    cases n with
    | zero=>exact hk.2.elim
    | succ n=>exact ⟨k,p,F,rfl,hk.2,hF,by simp at hpl; omega,hsz,by rw [yP e]; rfl⟩
   ·exact .inl ⟨e,hsz,fun z=>yL z e⟩
 ·rintro Γ ⟨s4,rfl⟩
  rw [show List.take (List.map trD t.kds).length t.kds=t.kds from yn (by rw [yD]; exact yF _)]
  simp [zaj,zak,zao,zaf,zx,zab,tC',zau,zaX,tB',zal,zai,zba,zL,zay,zP,zbj,zae,zA,zag,zam,za4,zbi,za7,zah,za8,zo,zav,zax,zM,zE,zy,za3,zB,zan,zC,zaq,zD,zK,zH,zI,zap,zad,za9,zN,zR,zaz,zar,zF,zas,zaw,zQ,zS,zaA,zat,zu,zO,zp,zq,zau,zr,zJ,zt,zG,ix0,ix1]; exact q
end
def kD (u:Tr):List D:=u.kds.map trD
def F1 (u:Tr):D:=.lst [.str u.lab,plc u.wds,.tup (kD u)]
def F2 (u:Tr):D:=.tup [.str u.lab,.lst (u.wds.map .str),.tup (kD u)]
def F3 (u:Tr):D:=.tup [.str u.lab,plc u.wds,.lst (kD u)]
def F4 (u:Tr):D:=.tup [.str u.lab,plc u.wds]
def F5 (u:Tr):D:=.tup [.str u.lab,plc u.wds,.tup (kD u),.tup []]
def F6 (x:D) (u:Tr):D:=.tup [.str u.lab,.tup ((zcV u.wds none (some 1)).map D.str ++ [x] ++ (zcV u.wds (some 1) none).map D.str),.tup (kD u)]
def F7 (x:D) (u:Tr):D:=.tup [x,plc u.wds,.tup (kD u)]
def F8 (u:Tr):D:=.tup [.str u.lab,plc u.wds,.tup (kD u).reverse]
def F9 (u:Tr):D:=.tup [.str u.lab,plc u.wds,.tup (kD u ++ zcV (kD u) (some (-1)) none)]
def zcJ:D->D->Prop:=rF F1
def zcI:D->D->Prop:=rF F2
def zcH:D->D->Prop:=rF F3
def zcG:D->D->Prop:=rF F4
def zcF:D->D->Prop:=rF F5
def zcE:D->D->D->Prop:=fun d x k=>∃ y,x=.tup [y]/\rF (F6 y) d k
def zcD:D->D->D->Prop:=fun d x k=>rF (F7 x) d k
def zcC:D->D->Prop:=rF F8
def zcB:D->D->Prop:=rF F9
def zeE (d:D):Prop:=∃ w k,d=.tup [.str [],w,k]/\zdz 9 w k=true
def Spo (d:D) (b:Bool):Prop:=Sn d/\(b=true↔zeE d)
def zbR:Sp':=fun ds Q=>∃ (ns:Nd) (w c:Int),ds=[trD (zaD 9 ns []),.dit (ndD ns),.int w,.int c]/\NW ns/\1<=w/\w<=9/\∀ d b,Spo d b->Q (.val (.tup [d,.bl b]))
def Bd (d:D):Prop:=∀ n l w k,d=.tup [l,w,k]->zdz n w k=false
theorem Bd.bad {d:D} (h:Bd d):Bad d:=fun n=>by
 by_cases e:∃ l w k,d=.tup [l,w,k]
 ·obtain ⟨l,w,k,rfl⟩:=e
  rw [zbU,h n l w k rfl,YS]
 ·exact zgc fun l w k z=>e ⟨l,w,k,z⟩
theorem Bd.no {d:D} (h:Bd d):¬ zeE d:=fun ⟨w,k,e,z⟩=>by
 rw [h 9 _ w k e] at z; cases z
theorem zdy {n:Nat} {w k:D} (h:∀ f,zb7 f k=false):zdz n w k=false:=by
 cases n with
 | zero=>rfl
 | succ n =>
  show (_ && _)=false
  rw [h,YS]
theorem zdU {n:Nat} {w k:D} (h:zcz w=false):zdz n w k=false:=by
 cases n with
 | zero=>rfl
 | succ n =>
  show (_ && _)=false
  rw [h,Bool.false_and]
theorem bd1 (u:Tr):Bd (F1 u):=fun _ _ _ _ e=>(nomatch e)
theorem bd2 (u:Tr):Bd (F2 u):=fun n l w k e=>by
 cases e; exact zdU rfl
theorem bd3 (u:Tr):Bd (F3 u):=fun n l w k e=>by
 cases e
 exact zdy fun _=>rfl
theorem bd4 (u:Tr):Bd (F4 u):=fun n l w k e=>by
 unfold F4 at e
 injection e with e
 simp at e
theorem bd5 (u:Tr):Bd (F5 u):=fun n l w k e=>by
 unfold F5 at e
 injection e with e
 simp at e
theorem bd6 {x:D} (h:zky x=false) (u:Tr):Bd (F6 x u):=fun n l w k e=>by
 cases e; refine zdU ?_
 show List.all _ zky=false
 rw [List.all_append,List.all_append,List.all_cons,h]; simp
theorem bd8 {u:Tr} (r:Ris (u.kds.map Tr.lab)) (h:2<=u.kds.length):Bd (F8 u):=fun n l w k e=>by
 cases e
 refine zdy fun f=>?_
 show (_ && zfl ((kD u).reverse.map zcT))=false
 rw [List.map_reverse]; unfold kD
 rw [zg8,zm2 r (by rw [yD]; exact h),YS]
theorem zlw {α:Type} (xs:List α) (x:α):zcV (xs ++ [x]) (some (-1)) none=[x]:=by
 unfold zcV HT.sIx
 have e:((-1:Int)+((xs ++ [x]).length:Int)).toNat=xs.length:=by rw [yQ,YT]; omega
 simp only [yP (by omega:(-1:Int)<0)]
 rw [e,List.drop_left,yQ]; simp
theorem bd9 {u:Tr} (h:1<=u.kds.length):Bd (F9 u):=fun n l w k e=>by
 obtain ⟨ks,x,hk⟩:∃ ks x,u.kds=ks ++ [x]:=⟨u.kds.dropLast,u.kds.getLast (by intro z; rw [z] at h; simp at h),(List.dropLast_concat_getLast _).symm⟩
 cases e
 refine zdy fun f=>?_
 show (_ && zfl ((kD u ++ zcV (kD u) (some (-1)) none).map zcT))=false
 have e1:(kD u ++ zcV (kD u) (some (-1)) none).map zcT=ks.map Tr.lab ++ [x.lab,x.lab]:=by
  unfold kD
  have:zcT (trD x)=x.lab:=by rw [zbP]; rfl
  rw [hk,show (ks ++ [x]).map trD=ks.map trD ++ [trD x] by simp,zlw,List.append_assoc,List.map_append,zg8]
  simp [this]
 rw [e1,zec,YS]
theorem ziT {F:Tr->D} {p:Pl} {t u:Tr} (h:zb0 t p=some u) (hb:Bad (F u)) (h0:p=[]->¬ zeE (F u)):¬ zeE (chg F p t):=by
 cases p with
 | nil =>
  simp only [zb0,Option.some.injEq] at h; subst h; exact h0 rfl
 | cons l p =>
  rintro ⟨w,k,e,z⟩
  have:=zj8 (F:=F) (l :: p) t u h hb (by simp) 9 w
  unfold chg at e
  injection e with e
  injection e with _ e
  injection e with _ e
  injection e with e _
  simp only [List.headD_cons,List.drop_one,List.tail_cons] at this; rw [<- e] at z; rw [this] at z; cases z
theorem zgJ {ns:Nd} (o:NW ns):zeE (trD (zaD 9 ns [])):=by
 have hf:=zb2 o 9 9 [] o.ok.nil (by decide) (by decide)
 refine ⟨_,_,?_,zfC hf⟩; rw [zbP,zcX]; rfl
structure Pk (ns:Nd) (p:Pl) (u:Tr):Prop where
 o:NW ns
 hp:p ∈ keys ns
 at_:zb0 (zaD 9 ns []) p=some u
 fit:∃ n,Fit n u
 len:u.kds.length=(zbK ns p).length
theorem zrb {ns:Nd} (o:NW ns) {p:Pl} (hp:p ∈ keys ns):∃ u,Pk ns p u:=by
 have h8:=o.ok.len p hp
 have e:=zgb o.ok p [] 9 (by decide) o.ok.nil
 rw [List.nil_append,yP hp] at e
 refine ⟨_,o,hp,e,⟨10,zb2 o 10 _ p hp (by omega) (by omega)⟩,?_⟩
 obtain ⟨m,hm⟩:∃ m,9-p.length=m+1:=⟨8-p.length,by omega⟩
 rw [hm]
 show ((zbO ns p).map _).length=_
 rw [yD]; exact zgK (zgX _) _ _
theorem Pk.fit10 {ns:Nd} {p:Pl} {u:Tr} (k:Pk ns p u):Fit 10 (zaD 9 ns []):=zb2 k.o 10 9 [] k.o.ok.nil (by decide) (by decide)
theorem Pk.no {ns:Nd} {p:Pl} {u:Tr} (k:Pk ns p u) {F:Tr->D} (hF:∀ u,zeP u->Sn (F u)) (h:Bd (F u)):Spo (chg F p (zaD 9 ns [])) false :=
 ⟨zgw hF p 10 _ k.fit10,⟨fun z=>(nomatch z),fun z=>yL z (ziT k.at_ h.bad fun _=>h.no)⟩⟩
theorem Pk.yes {ns:Nd} {p:Pl} {u:Tr} (k:Pk ns p u) {F:Tr->D} (hF:∀ u,zeP u->Sn (F u)) (h:F u=trD u):Spo (chg F p (zaD 9 ns [])) true :=
 ⟨zgw hF p 10 _ k.fit10,⟨fun _=>by rw [zhW p 10 _ u k.fit10 k.at_ h]; exact zgJ k.o,fun _=>rfl⟩⟩
theorem zhs (ds:List D):Sn (.lst ds):=.oth ⟨"list",rfl,by simp⟩ fun _ z=>(nomatch z)
theorem zee {u:Tr} (h:zeP u):Sn (.str u.lab):=.str (by have:=h.1; omega)
theorem sn1 (u:Tr) (h:zeP u):Sn (F1 u):=zhs _
theorem sn2 (u:Tr) (h:zeP u):Sn (F2 u):=.three (zee h) (zhs _) h.kids
theorem sn3 (u:Tr) (h:zeP u):Sn (F3 u):=.three (zee h) (.plc h.2.1) (zhs _)
theorem sn4 (u:Tr) (h:zeP u):Sn (F4 u):=.tup (by simp) fun d hd=>by
 simp only [yO,yU,or_false] at hd
 rcases hd with rfl | rfl
 ·exact zee h
 ·exact .plc h.2.1
theorem sn5 (u:Tr) (h:zeP u):Sn (F5 u):=.tup (by simp) fun d hd=>by
 simp only [yO,yU,or_false] at hd
 rcases hd with rfl | rfl | rfl | rfl
 ·exact zee h
 ·exact .plc h.2.1
 ·exact h.kids
 ·exact .tup (by simp) fun _ z=>(nomatch z)
theorem zeK {α:Type} (xs:List α) (lo hi:Option Int):(zcV xs lo hi).length<=xs.length:=by
 unfold zcV; rw [YH,YY]; omega
theorem zj3 {α:Type} {xs:List α} {lo hi:Option Int} {x:α} (h:x ∈ zcV xs lo hi):x ∈ xs:=List.mem_of_mem_drop (List.mem_of_mem_take h)
theorem sn6 {x:D} (hx:Sn x) (u:Tr) (h:zeP u):Sn (F6 x u):=by
 refine .three (zee h) (.tup ?_ fun d hd=>?_) h.kids
 ·have h1:=zeK u.wds none (some 1)
  have h2:=zeK u.wds (some 1) none; have h3:=h.2.1.1; rw [yQ,yQ,YT,yD,yD]; omega
 ·have hp:=(Sn.plc h.2.1).parts.2
  have hc:∀ lo hi,d ∈ (zcV u.wds lo hi).map D.str->Sn d:=fun lo hi z=>by
   obtain ⟨l,hl,rfl⟩:=yb.mp z; exact hp _ (List.mem_map_of_mem (zj3 hl))
  rcases YB.mp hd with z | z
  ·rcases YB.mp z with z | z
   ·exact hc _ _ z
   ·rw [yg.mp z]; exact hx
  ·exact hc _ _ z
theorem sn7 {x:D} (hx:Sn x) (u:Tr) (h:zeP u):Sn (F7 x u):=.three hx (.plc h.2.1) h.kids
theorem sn8 (u:Tr) (h:zeP u):Sn (F8 u):=.three (zee h) (.plc h.2.1) (.tup (by rw [YX]; exact h.kids.parts.1) fun d hd=>h.kids.parts.2 d (List.mem_reverse.mp hd))
theorem sn9 (u:Tr) (h:zeP u):Sn (F9 u):=by
 refine .three (zee h) (.plc h.2.1) (.tup ?_ fun d hd=>?_)
 ·have h1:(zcV (kD u) (some (-1)) none).length<=1:=by
   unfold zcV HT.sIx; simp; omega
  have h2:=h.2.2.1
  have h3:(kD u).length=u.kds.length:=yD _
  rw [yQ]; omega
 ·rcases YB.mp hd with z | z
  ·exact h.kids.parts.2 d z
  ·exact h.kids.parts.2 d (zj3 z)
theorem zlN (ns:Nd) (p:Pl):(keys ns).filter (fun q=>decide (q.dropLast=p) && decide (q≠[]))=zbK ns p:=by
 unfold zbK
 refine List.filter_congr fun q _=>?_
 by_cases h:q.dropLast=p
 ·subst h
  cases q with
  | nil=>simp
  | cons a q=>simp
 ·simp [h]
theorem ziZ {α:Type} {xs:List α} (h:xs.length<2):xs.reverse=xs:=by
 match xs,h with
 | [],_=>rfl
 | [a],_=>rfl
theorem Pk.ris {ns:Nd} {p:Pl} {u:Tr} (k:Pk ns p u):Ris (u.kds.map Tr.lab):=by
 obtain ⟨n,h⟩:=k.fit
 cases n with
 | zero=>exact h.elim
 | succ n=>exact h.2.2.2.1
theorem Pk.no7 {ns:Nd} {p:Pl} {u:Tr} (k:Pk ns p u) {d:D} (hd:WL d) (hp:p≠[]):Spo (chg (F7 d) p (zaD 9 ns [])) false :=
 ⟨zgw (sn7 hd.2.1) p 10 _ k.fit10,⟨fun z=>(nomatch z),fun z=>yL z (ziT k.at_ (fun n=>by unfold F7; rw [zbU,hd.2.2,Bool.false_and]) fun z=>yL z hp)⟩⟩
theorem Pk.root {ns:Nd} {u:Tr} (k:Pk ns [] u) {d:D} (hd:WL d) {b:Bool} (hb:b=true↔d=.str []):Spo (chg (F7 d) [] (zaD 9 ns [])) b:=by
 refine ⟨zgw (sn7 hd.2.1) [] 10 _ k.fit10,hb.trans ⟨fun e=>?_,fun ⟨w,x,e,_⟩=>?_⟩⟩
 ·subst e
  exact ⟨_,_,rfl,zfC (zb2 k.o 9 9 [] k.o.ok.nil (by decide) (by decide))⟩
 ·exact (List.cons.inj (D.tup.inj e)).1
theorem zn3 {d:D} (h:WL d) {Q:D->Prop} (q:∀ b:Bool,(b=true↔d=.str [])->Q (.bl b)):zsd d (.str []) Q:=by
 obtain ⟨im,sn,_⟩:=h
 have no:∀ {e:D},e≠.str []->(false=true↔e=.str []):=fun ne=>⟨fun z=>(nomatch z),fun z=>yL z ne⟩
 cases im with
 | str l =>
  refine .inl ?_; rw [zkV]
  exact q _ ⟨fun z=>by rw [of_decide_eq_true z],fun z=>yZ (D.str.inj z)⟩
 | tup h=>exact .inr ⟨⟨_,rfl⟩,⟨_,rfl⟩,q false (no (by simp))⟩
 | non=>exact .inl ⟨false,rfl,q false (no (by simp))⟩
 | bl b=>exact .inl ⟨false,rfl,q false (no (by simp))⟩
 | int i=>exact .inl ⟨false,rfl,q false (no (by simp))⟩
 | ty n=>exact yL sn.kin (fun ⟨t,h⟩=>by cases h)
 | cls C=>exact yL sn.kin (fun ⟨t,h⟩=>by cases h)
theorem zhL {ns:Nd} {p:Pl} {R:List D->Prop} (h:R ((zbK ns p).map plc)):zdX (zx 0) (zai (tB' (zaX zhy (za7 ziG (zab 0) zah (za8 (tC' (D.int (-1))))) (zab 1))) (tB' (zaX zmf (zab 0) (zag zae)))) (zab 0) R (List.map (fun x=>x.fst) (ndD ns)) [] [Slot.emp,Slot.val (plc p)]:=by
 have hkeys:List.map (fun x=>x.fst) (ndD ns)=(keys ns).map plc:=by unfold ndD keys; rw [yo,yo]; rfl
 rw [hkeys,<- zlN] at *
 refine zdm (fun i acc Γ=>∃ s0,acc=(((keys ns).take i).filter fun q=>decide (q.dropLast=p) && decide (q≠[])).map plc/\Γ=[s0,.val (plc p)]) ⟨.emp,rfl,rfl⟩ ?_ ?_
 ·rintro i d acc Γ hd ⟨s0,rfl,rfl⟩
  rw [yH] at hd
  cases hc:(keys ns)[i]? with
  | none=>rw [hc] at hd; cases hd
  | some q =>
   rw [hc] at hd; cases hd; rw [YR,hc]; simp [zaj,zak,zao,zaf,zx,zab,tC',zau,zaX,tB',zal,zai,zba,zL,zay,zP,zbj,zae,zA,zag,zam,za4,zbi,za7,zah,za8,zo,zav,zax,zM,zE,zy,za3,zB,zan,zC,zaq,zD,zK,zH,zI,zap,zad,za9,zN,zR,zaz,zar,zF,zas,zaw,zQ,zS,zaA,zat,zu,zO,zp,zq,zau,zr,zJ,zt,zG,List.filter_append,zgs]
   by_cases h1:q.dropLast=p
   ·refine .inr ⟨h1,?_⟩
    by_cases h2:q=[]
    ·exact .inl ⟨h2,fun _=>h2⟩
    ·exact .inr ⟨h2,by simp [h1,h2]⟩
   ·exact .inl ⟨h1,fun z=>yL z h1⟩
 ·rintro acc Γ ⟨s0,rfl,rfl⟩
  rw [show List.take (List.map plc (keys ns)).length (keys ns)=keys ns from yn (by rw [yD]; exact yF _)]
  exact h
section
variable {P:Program} {w:World} {K:W.Frag} {mg:Str->Option Value} {base:Heap}
theorem zbd:FnScope ["_law_tree_here","_law_nodes_here","_law_way","_law_cell","_law_place","_law_wrong","_law_label_here","_law_few"] ["_law_tree_here","_law_nodes_here","_law_way","_law_cell"] (zm zaQ):=⟨rfl,rfl,rfl,by decide +kernel,rfl,by decide +kernel,by decide +kernel⟩
theorem zfv (d:Df K mg "_law_spoilt" zaQ ["_law_tree_here","_law_nodes_here","_law_way","_law_cell"]) (G_law_at:Fn P w K mg base 1 "_law_at" ["_law_nodes_here","_law_cell"] zdo) (D_law_changed:Df K mg "_law_changed" zbT ["_law_node","_law_place","_law_form"]) (G_law_changed:∀ (J:L2.Jt) (R:D->D->Prop) (f:Addr),FnV P w K mg base J 1 f R->FnJ P w K mg base J 11 "_law_changed" ["_law_node","_law_place","_law_form"] (zY R f 10)) (G_law_wrong_word:Fn P w K mg base 1 "_law_wrong_word" ["_law_cell"] zbb) (G_law_wrong_label:Fn P w K mg base 1 "_law_wrong_label" ["_law_cell"] zaZ) (z_len:mg "len"=none) (z_list:mg "list"=none) (lo:LamOf K mg base "_law_spoilt" "_law_spoilt.<locals>.<lambda>"):Fn P w K mg base 12 "_law_spoilt" ["_law_tree_here","_law_nodes_here","_law_way","_law_cell"] zbR:=by
 refine d.okL lo zbd (fun ds Q h=>?_) (fun f cdv A outer s H E la hr ds Q h=>⟨_,(zk (zac 4 zbd.nd (zbf G_law_at (hr.mono (by decide)) (zc (pv' 1) (zc (pv' 3) zi))))
  (zk (za1 (zaJ (zbN (zbt hr)) (pv' 2) zj) (zn (zV (zv (zc (zcv (kl:=0) (R:=zcJ) (sp:=fun f=>zY zcJ f 10) la D_law_changed (fun J f V=>G_law_changed J _ f V) ⟨rfl,rfl,rfl,by decide +kernel,rfl,by decide +kernel,by decide +kernel⟩
   (fun f c A outer s H E hr ds Q h=>⟨_,(za2 (zcg (zc (zT (i_A (zaC hr)) (pv' 0) zj) (zc (zT (i_A (zaC hr)) (pv' 0) zj) (zc (zT (i_A (zaC hr)) (pv' 0) zj) zi))))),?lam1⟩) (fun _ _ _ _=>rfl) (hr.mono (by decide)) (pv' 0) (pv' 4)) (zc zbw zi))))) zaG)
  (zk (za1 (zaJ (zbN (zbt hr)) (pv' 2) zj) (zn (zV (zv (zc (zcv (kl:=0) (R:=zcI) (sp:=fun f=>zY zcI f 10) la D_law_changed (fun J f V=>G_law_changed J _ f V) ⟨rfl,rfl,rfl,by decide +kernel,rfl,by decide +kernel,by decide +kernel⟩
   (fun f c A outer s H E hr ds Q h=>⟨_,(zv (zc (zT (i_A (zaC hr)) (pv' 0) zj) (zc (za2 (zdP (zhf rfl) z_list PyProof.Rows.boot_list (zc (zT (i_A (zaC hr)) (pv' 0) zj) zi))) (zc (zT (i_A (zaC hr)) (pv' 0) zj) zi)))),?lam2⟩) (fun _ _ _ _=>rfl) (hr.mono (by decide)) (pv' 0) (pv' 4)) (zc zbw zi))))) zaG)
  (zk (za1 (zaJ (zbN (zbt hr)) (pv' 2) zj) (zn (zV (zv (zc (zcv (kl:=0) (R:=zcH) (sp:=fun f=>zY zcH f 10) la D_law_changed (fun J f V=>G_law_changed J _ f V) ⟨rfl,rfl,rfl,by decide +kernel,rfl,by decide +kernel,by decide +kernel⟩
   (fun f c A outer s H E hr ds Q h=>⟨_,(zv (zc (zT (i_A (zaC hr)) (pv' 0) zj) (zc (zT (i_A (zaC hr)) (pv' 0) zj) (zc (za2 (zdP (zhf rfl) z_list PyProof.Rows.boot_list (zc (zT (i_A (zaC hr)) (pv' 0) zj) zi))) zi)))),?lam3⟩) (fun _ _ _ _=>rfl) (hr.mono (by decide)) (pv' 0) (pv' 4)) (zc zbw zi))))) zaG)
  (zk (za1 (zaJ (zbN (zbt hr)) (pv' 2) zj) (zn (zV (zv (zc (zcv (kl:=0) (R:=zcG) (sp:=fun f=>zY zcG f 10) la D_law_changed (fun J f V=>G_law_changed J _ f V) ⟨rfl,rfl,rfl,by decide +kernel,rfl,by decide +kernel,by decide +kernel⟩
   (fun f c A outer s H E hr ds Q h=>⟨_,(zci s_A (pv' 0) zd3 (zdk zj)),?lam4⟩) (fun _ _ _ _=>rfl) (hr.mono (by decide)) (pv' 0) (pv' 4)) (zc zbw zi))))) zaG)
  (zk (za1 (zaJ (zbN (zbt hr)) (pv' 2) zj) (zn (zV (zv (zc (zcv (kl:=0) (R:=zcF) (sp:=fun f=>zY zcF f 10) la D_law_changed (fun J f V=>G_law_changed J _ f V) ⟨rfl,rfl,rfl,by decide +kernel,rfl,by decide +kernel,by decide +kernel⟩
   (fun f c A outer s H E hr ds Q h=>⟨_,(zX zbZ (pv' 0) (zv (zc (zv zi) zi))),?lam5⟩) (fun _ _ _ _=>rfl) (hr.mono (by decide)) (pv' 0) (pv' 4)) (zc zbw zi))))) zaG)
  (zk (za1 (zaJ (zbN (zbt hr)) (pv' 2) zj) (zk (zac 5 zbd.nd (zv (zc (zbf G_law_wrong_word (hr.mono (by decide)) (zc (zX zcj (pv' 3) zj) zi)) zi)))
  (zn (zV (zv (zc (zf2 5 (kl:=0) (x:="_law_wrong") (R:=zcE) (sp:=fun xd f=>zY (fun d e=>zcE d xd e) f 10) la D_law_changed (fun J xd f V=>G_law_changed J _ f V) (zpD rfl rfl rfl rfl (by decide +kernel))
   (fun f c c' A outer s H E hr ds Q h=>⟨_,(zv (zc (zT (i_A (zaC hr)) (pv' 0) zj) (zc (zX zbZ (zX zbZ (zci s_A (zT (i_A (zaC hr)) (pv' 0) zj) zd3 (zdk zj)) (pv' 1)) (zci s_A (zT (i_A (zaC hr)) (pv' 0) zj) (zdk zj) zd3)) (zc (zT (i_A (zaC hr)) (pv' 0) zj) zi)))),?lam6⟩) (fun _ _ _ _ _=>rfl) (hr.mono (by decide)) (pv' 0) (pv' 4) rfl rfl (zhV rfl)) (zc zbw zi)))))) zaG)
  (zk (za1 (zaJ (zbN (zbt hr)) (pv' 2) zj) (zk (zac 6 zbd.nd (zbf G_law_wrong_label (hr.mono (by decide)) (zc (zX zcj (pv' 3) zj) zi)))
  (zn (zV (zv (zc (zf2 6 (kl:=0) (x:="_law_label_here") (R:=zcD) (sp:=fun xd f=>zY (fun d e=>zcD d xd e) f 10) la D_law_changed (fun J xd f V=>G_law_changed J _ f V) (zpD rfl rfl rfl rfl (by decide +kernel))
   (fun f c c' A outer s H E hr ds Q h=>⟨_,(zv (zc (pv' 1) (zc (zT (i_A (zaC hr)) (pv' 0) zj) (zc (zT (i_A (zaC hr)) (pv' 0) zj) zi)))),?lam7⟩) (fun _ _ _ _ _=>rfl) (hr.mono (by decide)) (pv' 0) (pv' 4) rfl rfl (zhV rfl)) (zc (zbE (zbm (zbN (zbt hr)) (pv' 4) (zv zi)) (zca (zbm (zrt (zbt hr)) (pv' 6) (zW [])))) zi)))))) zaG)
  (zk (za1 (zaJ (zbN (zbt hr)) (pv' 2) zj) (zk (zac 7 zbd.nd (zbm zon (zZ zbQ z_len ym (zc (za2 (zcP (fsc:=zm zaQ) (N:=["_law_tree_here","_law_nodes_here","_law_way","_law_cell","_law_place","_law_wrong","_law_label_here","_law_few"]) (N':=["_law_other","_law_place"]) (src:=[none,some 4]) (by refine ⟨rfl,?_,?_,?_,rfl,rfl⟩ <;> decide +kernel) (zft (pv' 1)) (fun _ _ _ _ _ _=>(zaR 0 (show (["_law_other","_law_place"]:List Str).Nodup by decide +kernel))) (fun _ _ _ _ _ _=>(zfq (PW'.pt (zeo (zaJ (zbN (zbt hr)) (zci s_A (pv' 0) zd3 (zdk zdj)) (pv' 1)) (zds (zaJ (zjs (zbt hr)) (pv' 0) (zv zi))))))) (fun _ _ _ _ _ _=>(pv' 0)))) zi)) zj))
  (zn (zV (zv (zc (zcv (kl:=0) (R:=zcC) (sp:=fun f=>zY zcC f 10) la D_law_changed (fun J f V=>G_law_changed J _ f V) ⟨rfl,rfl,rfl,by decide +kernel,rfl,by decide +kernel,by decide +kernel⟩
   (fun f c A outer s H E hr ds Q h=>⟨_,(zv (zc (zT (i_A (zaC hr)) (pv' 0) zj) (zc (zT (i_A (zaC hr)) (pv' 0) zj) (zc (znt (zT (i_A (zaC hr)) (pv' 0) zj) (zdk zdj)) zi)))),?lam8⟩) (fun _ _ _ _=>rfl) (hr.mono (by decide)) (pv' 0) (pv' 4)) (zc (pv' 7) zi)))))) zaG)
  (zk (zac 7 zbd.nd (zbm zon (zZ zbQ z_len ym (zc (za2 (zcP (fsc:=zm zaQ) (N:=["_law_tree_here","_law_nodes_here","_law_way","_law_cell","_law_place","_law_wrong","_law_label_here","_law_few"]) (N':=["_law_other","_law_place"]) (src:=[none,some 4]) (by refine ⟨rfl,?_,?_,?_,rfl,rfl⟩ <;> decide +kernel) (zft (pv' 1)) (fun _ _ _ _ _ _=>(zaR 0 (show (["_law_other","_law_place"]:List Str).Nodup by decide +kernel))) (fun _ _ _ _ _ _=>(zfq (PW'.pt (zeo (zaJ (zbN (zbt hr)) (zci s_A (pv' 0) zd3 (zdk zdj)) (pv' 1)) (zds (zaJ (zjs (zbt hr)) (pv' 0) (zv zi))))))) (fun _ _ _ _ _ _=>(pv' 0)))) zi)) zj))
  (zn (zV (zv (zc (zcv (kl:=0) (R:=zcB) (sp:=fun f=>zY zcB f 10) la D_law_changed (fun J f V=>G_law_changed J _ f V) ⟨rfl,rfl,rfl,by decide +kernel,rfl,by decide +kernel,by decide +kernel⟩
   (fun f c A outer s H E hr ds Q h=>⟨_,(zv (zc (zT (i_A (zaC hr)) (pv' 0) zj) (zc (zT (i_A (zaC hr)) (pv' 0) zj) (zc (zX zbZ (zT (i_A (zaC hr)) (pv' 0) zj) (zci s_A (zT (i_A (zaC hr)) (pv' 0) zj) (zdk zdj) zd3)) zi)))),?lam9⟩) (fun _ _ _ _=>rfl) (hr.mono (by decide)) (pv' 0) (pv' 4)) (zc (pv' 7) zi))))))))))))))),?_⟩)
 case lam1 =>
  obtain ⟨d,k,rfl,⟨u,rfl,hu,rfl⟩,hq⟩:=h
  simp [zaj,zak,zao,zaf,zx,zab,tC',zau,zaX,tB',zal,zai,zba,zL,zay,zP,zbj,zae,zA,zag,zam,za4,zbi,za7,zah,za8,zo,zav,zax,zM,zE,zy,za3,zB,zan,zC,zaq,zD,zK,zH,zI,zap,zad,za9,zN,zR,zaz,zar,zF,zas,zaw,zQ,zS,zaA,zat,zu,zO,zp,zq,zau,zr,zJ,zt,zG,ix0,ix1,ix2]; exact hq
 case lam2 =>
  obtain ⟨d,k,rfl,⟨u,rfl,hu,rfl⟩,hq⟩:=h
  simp [zaj,zak,zao,zaf,zx,zab,tC',zau,zaX,tB',zal,zai,zba,zL,zay,zP,zbj,zae,zA,zag,zam,za4,zbi,za7,zah,za8,zo,zav,zax,zM,zE,zy,za3,zB,zan,zC,zaq,zD,zK,zH,zI,zap,zad,za9,zN,zR,zaz,zar,zF,zas,zaw,zQ,zS,zaA,zat,zu,zO,zp,zq,zau,zr,zJ,zt,zG,ix0,ix1,ix2]
  show ze1 [.tup _] _
  rw [zif]; exact hq
 case lam3 =>
  obtain ⟨d,k,rfl,⟨u,rfl,hu,rfl⟩,hq⟩:=h
  simp [zaj,zak,zao,zaf,zx,zab,tC',zau,zaX,tB',zal,zai,zba,zL,zay,zP,zbj,zae,zA,zag,zam,za4,zbi,za7,zah,za8,zo,zav,zax,zM,zE,zy,za3,zB,zan,zC,zaq,zD,zK,zH,zI,zap,zad,za9,zN,zR,zaz,zar,zF,zas,zaw,zQ,zS,zaA,zat,zu,zO,zp,zq,zau,zr,zJ,zt,zG,ix0,ix1,ix2]; exact hq
 case lam4 =>
  obtain ⟨d,k,rfl,⟨u,rfl,hu,rfl⟩,hq⟩:=h
  simp [zaj,zak,zao,zaf,zx,zab,tC',zau,zaX,tB',zal,zai,zba,zL,zay,zP,zbj,zae,zA,zag,zam,za4,zbi,za7,zah,za8,zo,zav,zax,zM,zE,zy,za3,zB,zan,zC,zaq,zD,zK,zH,zI,zap,zad,za9,zN,zR,zaz,zar,zF,zas,zaw,zQ,zS,zaA,zat,zu,zO,zp,zq,zau,zr,zJ,zt,zG,ix0,ix1,ix2]; rw [zbP,zhw]; exact hq
 case lam5 =>
  obtain ⟨d,k,rfl,⟨u,rfl,hu,rfl⟩,hq⟩:=h
  simp [zaj,zak,zao,zaf,zx,zab,tC',zau,zaX,tB',zal,zai,zba,zL,zay,zP,zbj,zae,zA,zag,zam,za4,zbi,za7,zah,za8,zo,zav,zax,zM,zE,zy,za3,zB,zan,zC,zaq,zD,zK,zH,zI,zap,zad,za9,zN,zR,zaz,zar,zF,zas,zaw,zQ,zS,zaA,zat,zu,zO,zp,zq,zau,zr,zJ,zt,zG,ix0,ix1,ix2]; rw [zbP]
  exact .inr ⟨_,_,rfl,rfl,zbk (by simp),hq⟩
 case lam8 =>
  obtain ⟨d,k,rfl,⟨u,rfl,hu,rfl⟩,hq⟩:=h
  simp [zaj,zak,zao,zaf,zx,zab,tC',zau,zaX,tB',zal,zai,zba,zL,zay,zP,zbj,zae,zA,zag,zam,za4,zbi,za7,zah,za8,zo,zav,zax,zM,zE,zy,za3,zB,zan,zC,zaq,zD,zK,zH,zI,zap,zad,za9,zN,zR,zaz,zar,zF,zas,zaw,zQ,zS,zaA,zat,zu,zO,zp,zq,zau,zr,zJ,zt,zG,ix0,ix1,ix2]; exact hq
 case lam9 =>
  obtain ⟨d,k,rfl,⟨u,rfl,hu,rfl⟩,hq⟩:=h
  simp [zaj,zak,zao,zaf,zx,zab,tC',zau,zaX,tB',zal,zai,zba,zL,zay,zP,zbj,zae,zA,zag,zam,za4,zbi,za7,zah,za8,zo,zav,zax,zM,zE,zy,za3,zB,zan,zC,zaq,zD,zK,zH,zI,zap,zad,za9,zN,zR,zaz,zar,zF,zas,zaw,zQ,zS,zaA,zat,zu,zO,zp,zq,zau,zr,zJ,zt,zG,ix0,ix1,ix2]; refine .inr ⟨_,_,rfl,rfl,zbk ?_,hq⟩; have h1:=zeK (u.kds.map trD) (some (-1)) none; have h2:=hu.2.2.1; rw [yD] at h1 ⊢; omega
 case lam6 =>
  obtain ⟨d,x,k,rfl,⟨y,rfl,u,rfl,hu,rfl⟩,hq⟩:=h
  simp [zaj,zak,zao,zaf,zx,zab,tC',zau,zaX,tB',zal,zai,zba,zL,zay,zP,zbj,zae,zA,zag,zam,za4,zbi,za7,zah,za8,zo,zav,zax,zM,zE,zy,za3,zB,zan,zC,zaq,zD,zK,zH,zI,zap,zad,za9,zN,zR,zaz,zar,zF,zas,zaw,zQ,zS,zaA,zat,zu,zO,zp,zq,zau,zr,zJ,zt,zG,ix0,ix1,ix2]; have h1:=zeK u.wds none (some 1); have h2:=zeK u.wds (some 1) none; have h3:=hu.2.1.1
  exact .inr ⟨_,_,rfl,rfl,zbk (by simp; omega),.inr ⟨_,_,rfl,rfl,zbk (by simp; omega),hq⟩⟩
 case lam7 =>
  obtain ⟨d,x,k,rfl,⟨u,rfl,hu,rfl⟩,hq⟩:=h
  simp [zaj,zak,zao,zaf,zx,zab,tC',zau,zaX,tB',zal,zai,zba,zL,zay,zP,zbj,zae,zA,zag,zam,za4,zbi,za7,zah,za8,zo,zav,zax,zM,zE,zy,za3,zB,zan,zC,zaq,zD,zK,zH,zI,zap,zad,za9,zN,zR,zaz,zar,zF,zas,zaw,zQ,zS,zaA,zat,zu,zO,zp,zq,zau,zr,zJ,zt,zG,ix0,ix1,ix2]; exact hq
 ·obtain ⟨ns,w,c,rfl,_⟩:=h
  rfl
 obtain ⟨ns,w,c,rfl,o,h1,h9,q⟩:=h; simp [zaj,zak,zao,zaf,zx,zab,tC',zau,zaX,tB',zal,zai,zba,zL,zay,zP,zbj,zae,zA,zag,zam,za4,zbi,za7,zah,za8,zo,zav,zax,zM,zE,zy,za3,zB,zan,zC,zaq,zD,zK,zH,zI,zap,zad,za9,zN,zR,zaz,zar,zF,zas,zaw,zQ,zS,zaA,zat,zu,zO,zp,zq,zau,zr,zJ,zt,zG,zdo,zbb,zaZ,zl8]
 refine ⟨ns,rfl,o,fun p hp=>?_⟩
 obtain ⟨u,k⟩:=zrb o hp; have h8:=o.ok.len p hp
 have go:∀ {R:D->D->Prop} {F:Tr->D} {f:Addr} {b:Bool},(∀ u,zeP u->R (trD u) (F u))->Spo (chg F p (zaD 9 ns [])) b->zY R f 10 [trD (zaD 9 ns []),plc p,D.adr f] fun r=>Q (Res.val (D.tup [r.toD,D.bl b])) :=
  fun {R F f b} hR hs=>⟨_,p,F,rfl,k.fit10,hR,by omega,q _ _ hs⟩
 have hsz:(ndD ns).length<=sizeLine:=zbk (by unfold ndD; rw [yD]; have:=o.ok.many; omega)
 by_cases w1:w=1
 ·exact .inr ⟨w1,fun f=>go (fun u h=>⟨u,rfl,h,rfl⟩) (k.no sn1 (bd1 u))⟩
 refine .inl ⟨w1,?_⟩
 by_cases w2:w=2
 ·exact .inr ⟨w2,fun f=>go (fun u h=>⟨u,rfl,h,rfl⟩) (k.no sn2 (bd2 u))⟩
 refine .inl ⟨w2,?_⟩
 by_cases w3:w=3
 ·exact .inr ⟨w3,fun f=>go (fun u h=>⟨u,rfl,h,rfl⟩) (k.no sn3 (bd3 u))⟩
 refine .inl ⟨w3,?_⟩
 by_cases w4:w=4
 ·exact .inr ⟨w4,fun f=>go (fun u h=>⟨u,rfl,h,rfl⟩) (k.no sn4 (bd4 u))⟩
 refine .inl ⟨w4,?_⟩
 by_cases w5:w=5
 ·exact .inr ⟨w5,fun f=>go (fun u h=>⟨u,rfl,h,rfl⟩) (k.no sn5 (bd5 u))⟩
 refine .inl ⟨w5,?_⟩
 by_cases w6:w=6
 ·exact .inr ⟨w6,fun d hd=>⟨.tup fun x hx=>by rw [yg.mp hx]; exact hd.1,fun f=>go (fun u h=>⟨d,rfl,u,rfl,h,rfl⟩) (k.no (sn6 hd.2.1) (bd6 hd.2.2 u))⟩⟩
 refine .inl ⟨w6,?_⟩
 by_cases w7:w=7
 ·refine .inr ⟨w7,fun d hd=>⟨hd.1,fun f=>⟨_,p,F7 d,rfl,k.fit10,fun u h=>⟨u,rfl,h,rfl⟩,by omega,?_⟩⟩⟩
  by_cases hp0:p=[]
  ·refine .inr ⟨hp0,zn3 hd fun b hb=>q _ _ ?_⟩
   subst hp0; exact k.root hd hb
  ·exact .inl ⟨hp0,q _ _ (k.no7 hd hp0)⟩
 refine .inl ⟨w7,?_⟩
 have hlen:((zbK ns p).map plc).length=u.kds.length:=by rw [yD,k.len]
 have hfa:=k.fit
 by_cases w8:w=8
 ·refine .inr ⟨w8,hsz,zhL fun f=>go (F:=F8) (fun u h=>⟨u,rfl,h,rfl⟩) ?_⟩
  rw [hlen]
  by_cases h2:u.kds.length<2
  ·rw [yZ (by omega)]
   exact k.yes sn8 (by unfold F8; rw [zbP,ziZ (by unfold kD; rw [yD]; exact h2)]; rfl)
  ·rw [yR (by omega)]
   exact k.no sn8 (bd8 k.ris (by omega))
 ·refine .inl ⟨w8,hsz,zhL fun f=>go (F:=F9) (fun u h=>⟨u,rfl,h,rfl⟩) ?_⟩
  rw [hlen]
  by_cases h2:u.kds.length<1
  ·rw [yZ (by omega)]
   have e:u.kds=[]:=List.length_eq_zero_iff.mp (by omega)
   exact k.yes sn9 (by unfold F9 kD; rw [zbP,e]; rfl)
  ·rw [yR (by omega)]
   exact k.no sn9 (bd9 (by omega))
end
theorem zrI (xs:List Int):(zcV xs (some 6) (some 56)).length<=50:=by
 unfold zcV; rw [YH,YY]
 have e1:HT.sIx xs.length 0 (some 6)=min 6 xs.length:=by unfold HT.sIx; simp
 have e2:HT.sIx xs.length xs.length (some 56)=min 56 xs.length:=by unfold HT.sIx; simp
 rw [e1,e2]; omega
theorem zkG (a b:D) (Q:Res->Prop):zaV 10 [a,b] Q↔∃ ns p,(a=.dit (ndD ns)/\b=plc p)/\NOk ns/\p ∈ keys ns/\8<=p.length+9/\Q (.val (trD (zaD 9 ns p))):=by
 constructor
 ·rintro ⟨ns,p,h,r⟩
  cases h; exact ⟨ns,p,⟨rfl,rfl⟩,r⟩
 ·rintro ⟨ns,p,⟨rfl,rfl⟩,r⟩
  exact ⟨ns,p,rfl,r⟩
def zmb:Sp':=zh7
theorem zea:∀ n,Sn (zbs [50] n)
 | 0=>.three (.str (by decide)) (.tup (by decide) fun _ z=>nomatch z) (.tup (by decide) fun _ z=>nomatch z)
 | n+1=>.three (.str (by decide)) (.tup (by decide) fun _ z=>nomatch z) (.tup (by simp) fun d hd=>by rw [yg.mp hd]; exact zea n)
theorem znM {K:W.Frag} {d:D} {b:Bool} {ns:Nd} {Q:Res->Prop} (o:NW ns) (hs:Spo d b) (hq:Q (.val (.bl true))):zbW [d] fun r=>zbW [trD (zaD 9 ns [])] fun r2=>zih K [r.toD,D.ty "bool"] fun x=>x=D.bl false/\Q (Res.val (D.bl false))\/x=D.bl true/\zhy r.toD (D.bl b) fun x=>x=D.bl false/\Q (Res.val (D.bl false))\/x=D.bl true/\zsb r2.toD (D.bl true) fun x=>Q (Res.val x):=by
 refine ⟨d,rfl,hs.1,fun b1 h1=>⟨_,rfl,(zb2 o 9 9 [] o.ok.nil (by decide) (by decide)).sn,fun b2 h2=>?_⟩⟩
 have e:b1=b:=Bool.eq_iff_iff.mpr (h1.trans hs.2.symm)
 have e2:b2=true:=h2.mpr (zgJ o)
 subst e e2
 refine zjM (b:=true) rfl rfl (.inr ⟨rfl,?_⟩)
 show zhy (.bl b1) (.bl b1) _
 rw [zm6]
 exact .inr ⟨by simp,true,true,rfl,rfl,hq⟩
theorem zpP (n:Nat) (x:D):zdz (n+1) (.tup []) (.tup [x])=zbu n x:=by
 show (true && (([x].all (zbu n)) && true))=_
 simp
theorem zj9 (n:Nat):zcT (zbs [50] (n+1))=[49]:=rfl
theorem zcm:∀ (j n:Nat),zbu n (zbs [50] j)=decide (j+1<=n)
 | 0,n=>by
  unfold zbs; rw [zbU]
  cases n with
  | zero=>rfl
  | succ n =>
   rw [yZ (by omega)]
   rfl
 | j+1,n=>by
  unfold zbs; rw [zbU]
  cases n with
  | zero=>rfl
  | succ n =>
   rw [zpP,zcm j n,show zkn (.str [49])=true from rfl,YI]
   exact decide_eq_decide.mpr (by omega)
open Classical in
theorem zqY:zfl [[49],[50]]=true:=by
 unfold zfl
 rw [yZ (show klt (zcc [49]) (zcc [50]) from .inl (by decide +kernel)),YI]
 rfl
theorem zpF {f:D->Bool} {a b:D} (ha:zcT a=[49]) (hb:zcT b=[50]):zb7 f (.tup [a,b])=(f a && f b):=by
 show ([a,b].all f && zfl [zcT a,zcT b])=_
 rw [ha,hb,zqY]; simp
theorem zgN (k:D) (b:Bool) (hs:Sn k) (h:zb7 (zbu 8) k=b):Spo (.tup [.str [],plc [],k]) b:=by
 refine ⟨.three (.str (by decide)) (.tup (by decide) fun _ z=>nomatch z) hs,⟨fun z=>⟨_,_,rfl,?_⟩,fun ⟨w,x,e,z⟩=>?_⟩⟩
 ·show (true && zb7 (zbu 8) k)=true
  rw [h,z]; rfl
 ·cases e
  have z:(true && zb7 (zbu 8) k)=true:=z
  rw [h,YI] at z; exact z
theorem sn0:Sn (.tup []):=.tup (by decide) fun _ z=>nomatch z
theorem zme {x:D} (h:Sn x):Sn (.tup [x]):=.tup (by simp) fun d hd=>by rw [yg.mp hd]; exact h
theorem zmd {x y:D} (h:Sn x) (h':Sn y):Sn (.tup [x,y]):=.tup (by simp) fun d hd=>by
 simp only [yO,yU,or_false] at hd
 rcases hd with rfl | rfl
 ·exact h
 ·exact h'
theorem zdD (j:Nat) (i:Int) (h0:0<=i) (h3:i<3) {R:D->Prop} (h:∀ d,Spo (.tup [.str [],plc [],d]) (decide (j+2<=8))->R d) :
  ∃ d,atI [D.tup [zbs [50] (j+1)],D.tup [zbs [50] (j+1),D.tup [D.str [50],plc [],plc []]],D.tup [D.tup [D.str [49],plc [],plc []],D.tup [D.str [50],plc [],D.tup [zbs [50] j]]]] i=some d/\R d:=by
 obtain ⟨d,e1,m1⟩:=zcn [D.tup [zbs [50] (j+1)],D.tup [zbs [50] (j+1),D.tup [D.str [50],plc [],plc []]],D.tup [D.tup [D.str [49],plc [],plc []],D.tup [D.str [50],plc [],D.tup [zbs [50] j]]]] h0 h3; refine ⟨d,e1,h d ?_⟩
 have hl:Sn (D.tup [D.str [50],plc [],plc []]):=.three (.str (by decide)) sn0 sn0
 have hl':Sn (D.tup [D.str [49],plc [],plc []]):=.three (.str (by decide)) sn0 sn0
 simp only [yO,yU,or_false] at m1
 rcases m1 with rfl | rfl | rfl
 ·refine zgN _ _ (zme (zea _)) ?_
  show ([zbs [50] (j+1)].all (zbu 8) && true)=_
  rw [List.all_cons,zcm]; simp
 ·refine zgN _ _ (zmd (zea _) hl) ?_
  rw [zpF (zj9 j) rfl,zcm,show zbu 8 (D.tup [D.str [50],plc [],plc []])=true from zcm 0 8,Bool.and_true]
 ·refine zgN _ _ (zmd hl' (.three (.str (by decide)) sn0 (zme (zea _)))) ?_
  rw [zpF rfl rfl,zbU,zbU]
  rw [show (zkn (D.str [49]) && zdz 8 (plc []) (plc []))=true from rfl,show zkn (D.str [50])=true from rfl,YI,YI]
  show zdz (7+1) (.tup []) _=_
  rw [zpP,zcm]
  exact decide_eq_decide.mpr (by omega)
theorem zeb {j:Nat} {Q:D->D->Prop} (h:Q (plc []) (.tup [zbs [50] j])):zgQ (zbs [50] (j+1)) (.int 1) fun a=>zgQ (zbs [50] (j+1)) (.int 2) fun b=>Q a b:=by
 unfold zbs; simp; exact h
theorem zpz {xs:List D} {Q:D->Prop} (h0:xs=[]->Q (.bl false)) (h1:xs≠[]->Q (.bl true)):zmf (.tup xs) (plc []) Q:=by
 cases xs with
 | nil=>exact ⟨true,rfl,h0 rfl⟩
 | cons a r=>exact ⟨false,rfl,h1 (by simp)⟩
theorem zpG {ns:Nd} (o:NW ns) {x:Tr} (h:x ∈ (zaD 9 ns []).kds):Spo (trD x) false:=by
 have hf:=zb2 o 9 9 [] o.ok.nil (by decide) (by decide)
 obtain ⟨h1,h2⟩:=hf.2.2.2.2 x h
 refine ⟨h2.sn,⟨fun z=>(nomatch z),fun ⟨w,k,e,_⟩=>?_⟩⟩
 rw [zbP] at e
 injection e with e
 injection e with e _
 injection e with e
 rw [e] at h1
 exact yL h1 (by decide)
theorem zpr {d:D} (h:d ∈ [D.non,D.bl true,D.int 0,D.str [],plc [],D.tup [D.str [],plc [],D.lst []],D.tup [D.str [],D.str [],plc []],D.dic (nmD [])]):Spo d false:=by
 have no:∀ {e:D},¬ zeE e->(false=true↔zeE e):=fun h=>⟨fun z=>(nomatch z),fun z=>yL z h⟩
 simp only [yO,yU,or_false] at h
 rcases h with rfl | rfl | rfl | rfl | rfl | rfl | rfl | rfl
 ·exact ⟨.oth ⟨"NoneType",rfl,by simp⟩ (fun _ z=>nomatch z),no fun ⟨_,_,e,_⟩=>nomatch e⟩
 ·exact ⟨.oth ⟨"bool",rfl,by simp⟩ (fun _ z=>nomatch z),no fun ⟨_,_,e,_⟩=>nomatch e⟩
 ·exact ⟨.oth ⟨"int",rfl,by simp⟩ (fun _ z=>nomatch z),no fun ⟨_,_,e,_⟩=>nomatch e⟩
 ·exact ⟨.str (by decide),no fun ⟨_,_,e,_⟩=>nomatch e⟩
 ·exact ⟨sn0,no fun ⟨_,_,e,_⟩=>nomatch D.tup.inj e⟩
 ·exact ⟨.three (.str (by decide)) sn0 (zhs _),no fun ⟨_,_,e,z⟩=>by cases e; exact yL z (by rw [zdy fun _=>rfl]; simp)⟩
 ·exact ⟨.three (.str (by decide)) (.str (by decide)) sn0,no fun ⟨_,_,e,z⟩=>by cases e; exact yL z (by rw [zdU rfl]; simp)⟩
 ·exact ⟨.oth ⟨"dict",rfl,by simp⟩ (fun _ z=>nomatch z),no fun ⟨_,_,e,_⟩=>nomatch e⟩
section
variable {P:Program} {w:World} {K:W.Frag} {mg:Str->Option Value} {base:Heap}
theorem zbr:FnScope ["_law_script","_law_nodes_here","_law_tree_here","_law_way","_law_cell","_law_thing","_law_due","_law_kid","_law_beside","_law_found","_law_again"] ["_law_script"] (zm zcM):=⟨rfl,rfl,rfl,by decide +kernel,rfl,by decide +kernel,by decide +kernel⟩
abbrev LX (P:Program) (w:World) (K:W.Frag) (mg:Str->Option Value) (base:Heap) (f:Addr) (cdv:Value) (A:Around) (outer:List Env) (s:Shared) (H:Hp) (E:XK):Cx:=(zd9 CX0 P w K mg base ["_law_script","_law_nodes_here","_law_tree_here","_law_way","_law_cell","_law_thing","_law_due","_law_kid","_law_beside","_law_found","_law_again"] "law" (zm zcM) f cdv A outer s H E).nox
theorem zlv (G_is_tree:Fn P w K mg base 39 "is_tree" ["thing"] zbW) (G_law_cell_at:Fn P w K mg base 1 "_law_cell_at" ["_law_script","_law_k"] zbl) (G_law_nodes:Fn P w K mg base 3 "_law_nodes" ["_law_cells"] zbJ) (G_law_tree:Fn P w K mg base 15 "_law_tree" ["_law_nodes_here","_law_place"] (zaV 10)) (G_law_deep:Fn P w K mg base 1 "_law_deep" ["_law_many","_law_label_here"] zbX) (G_law_spoilt:Fn P w K mg base 12 "_law_spoilt" ["_law_tree_here","_law_nodes_here","_law_way","_law_cell"] zbR) (z_bool:mg "bool"=none) (z_isinstance:mg "isinstance"=none) (z_len:mg "len"=none) {f:Addr} {cdv:Value} {A:Around} {outer:List Env} {s:Shared} {H:Hp} {E:XK} (hr:Room 39 (A.deeper (PyProof.Rows.envOfC "law" (zm zcM) s.heap.objs.size f cdv))) :
  ∃ t,PSs' (LX P w K mg base f cdv A outer s H E) ((zaU zcM).drop 6) t/\∀ (Q:Res->Prop) (x0:D) (ns:Nd) (w c:Int) (x:D) (b:Bool) (s7 s8:Slot),NW ns->Q (.val (.bl true))->0<=w->w<14->(Spo x b)->t { nx:=fun _=>Q (.val .non),rt:=fun r _=>Q r } [.val x0,.val (.dit (ndD ns)),.val (trD (zaD 9 ns [])),.val (.int w),.val (.int c),.val x,.val (.bl b),s7,s8,.emp,.emp]:=by
 obtain ⟨t5,p5,h5⟩:∃ t,PSs' (LX P w K mg base f cdv A outer s H E) ((zaU zcM).drop 10) t/\∀ (Q:Res->Prop) (x0:D) (ns:Nd) (w c:Int) (x:D) (b:Bool) (s7 s8:Slot),NW ns->Q (.val (.bl true))->0<=w->w<14->(Spo x b)->t { nx:=fun _=>Q (.val .non),rt:=fun r _=>Q r } [.val x0,.val (.dit (ndD ns)),.val (trD (zaD 9 ns [])),.val (.int w),.val (.int c),.val x,.val (.bl b),s7,s8,.emp,.emp]:=by
  refine ⟨_,(zk (zac 9 zbr.nd (zbf G_is_tree (hr.mono (by decide)) (zc (pv' 5) zi)))
  (zk (zac 10 zbr.nd (zbf G_is_tree (hr.mono (by decide)) (zc (pv' 2) zi)))
  (zn (zV (zbE (zZ (zeN K rfl) z_isinstance yr (zc (pv' 9) (zc (zeq z_bool PyProof.Rows.boot_bool) zi))) (zbE (zbm (zbN (zbt hr)) (pv' 9) (pv' 6)) (zca (zbm zrq (pv' 10) zbw)))))))),fun Q x0 ns w c x b s7 s8 o hq h0 h14 hs=>?_⟩
  simp [zaj,zak,zao,zaf,zx,zab,tC',zau,zaX,tB',zal,zai,zba,zL,zay,zP,zbj,zae,zA,zag,zam,za4,zbi,za7,zah,za8,zo,zav,zax,zM,zE,zy,za3,zB,zan,zC,zaq,zD,zK,zH,zI,zap,zad,za9,zN,zR,zaz,zar,zF,zas,zaw,zQ,zS,zaA,zat,zu,zO,zp,zq,zau,zr,zJ,zt,zG]; exact znM o hs hq
 obtain ⟨t4,p4,h4⟩:∃ t,PSs' (LX P w K mg base f cdv A outer s H E) ((zaU zcM).drop 9) t/\∀ (Q:Res->Prop) (x0:D) (ns:Nd) (w c:Int) (x:D) (b:Bool) (s7 s8:Slot),NW ns->Q (.val (.bl true))->0<=w->w<14->(w≠12->Spo x b)->t { nx:=fun _=>Q (.val .non),rt:=fun r _=>Q r } [.val x0,.val (.dit (ndD ns)),.val (trD (zaD 9 ns [])),.val (.int w),.val (.int c),.val x,.val (.bl b),s7,s8,.emp,.emp]:=by
  refine ⟨_,(zk (za1 (zaJ (zbN (zbt hr)) (pv' 3) zj) (zk (zac 5 zbr.nd (zT (i_A (zaC hr)) (za2 (zcg (zc zgV (zc zbw (zc zj (zc (zW []) (zc (zv zi) (zc (zv (zc (zW []) (zc (zv zi) (zc (za2 (zcg zi)) zi)))) (zc (zv (zc (zW []) (zc (zW []) (zc (zv zi) zi)))) (zc (za2 znl) zi)))))))))) (zX zcb (pv' 4) zj)))
  (zn (zac 6 zbr.nd zbw))) zaG) p5),fun Q x0 ns w c x b s7 s8 o hq h0 h14 hs=>?_⟩
  simp [zaj,zak,zao,zaf,zx,zab,tC',zau,zaX,tB',zal,zai,zba,zL,zay,zP,zbj,zae,zA,zag,zam,za4,zbi,za7,zah,za8,zo,zav,zax,zM,zE,zy,za3,zB,zan,zC,zaq,zD,zK,zH,zI,zap,zad,za9,zN,zR,zaz,zar,zF,zas,zaw,zQ,zS,zaA,zat,zu,zO,zp,zq,zau,zr,zJ,zt,zG]
  by_cases h12:w=12
  ·refine .inr ⟨h12,?_⟩
   obtain ⟨d,e1,m1⟩:=zcn [D.non,D.bl true,D.int 0,D.str [],plc [],D.tup [D.str [],plc [],D.lst []],D.tup [D.str [],D.str [],plc []],D.dic (nmD [])] (md (i:=c) (n:=8) (by decide)).1 (md (i:=c) (n:=8) (by decide)).2
   exact ⟨d,e1,h5 _ _ _ _ _ _ _ _ _ o hq h0 h14 (zpr m1)⟩
  ·exact .inl ⟨h12,h5 _ _ _ _ _ _ _ _ _ o hq h0 h14 (hs h12)⟩
 obtain ⟨t3,p3,h3⟩:∃ t,PSs' (LX P w K mg base f cdv A outer s H E) ((zaU zcM).drop 8) t/\∀ (Q:Res->Prop) (x0:D) (ns:Nd) (w c:Int) (x:D) (b:Bool) (s7 s8:Slot),NW ns->Q (.val (.bl true))->0<=w->w<14->(w≠11->w≠12->Spo x b)->t { nx:=fun _=>Q (.val .non),rt:=fun r _=>Q r } [.val x0,.val (.dit (ndD ns)),.val (trD (zaD 9 ns [])),.val (.int w),.val (.int c),.val x,.val (.bl b),s7,s8,.emp,.emp]:=by
  refine ⟨_,(zk (za1 (zaJ (zbN (zbt hr)) (pv' 3) zj) (zk (zac 5 zbr.nd (zbf G_law_deep (hr.mono (by decide)) (zc (zT (i_A (zaC hr)) (za2 (zcg (zc zj (zc zj (zc zj (zc zj zi)))))) (zX zcb (pv' 4) zj)) (zc (zW [50]) zi))))
  (zk (zac 7 zbr.nd (zT (i_A (zaC hr)) (zT (i_A (zaC hr)) (pv' 5) zj) zj))
  (zk (zac 8 zbr.nd (za2 (zcg (zc (zT (i_A (zaC hr)) (pv' 5) zj) (zc (zv (zc (pv' 7) (zc (zv (zc (zW [50]) (zc (zv zi) (zc (zv zi) zi)))) zi))) (zc (zv (zc (zv (zc (zW [49]) (zc (zv zi) (zc (zv zi) zi)))) (zc (zv (zc (zW [50]) (zc (zT (i_A (zaC hr)) (pv' 7) zj) (zc (zT (i_A (zaC hr)) (pv' 7) zj) zi)))) zi))) zi))))))
  (zk (zac 5 zbr.nd (zv (zc (zW []) (zc (zv zi) (zc (zT (i_A (zaC hr)) (pv' 8) (zX zcb (zX zcj (pv' 4) zj) zj)) zi)))))
  (zn (zac 6 zbr.nd (zbm (zbN (zbt hr)) (zX zcb (pv' 4) zj) zj))))))) zaG) p4),fun Q x0 ns w c x b s7 s8 o hq h0 h14 hs=>?_⟩
  simp [zaj,zak,zao,zaf,zx,zab,tC',zau,zaX,tB',zal,zai,zba,zL,zay,zP,zbj,zae,zA,zag,zam,za4,zbi,za7,zah,za8,zo,zav,zax,zM,zE,zy,za3,zB,zan,zC,zaq,zD,zK,zH,zI,zap,zad,za9,zN,zR,zaz,zar,zF,zas,zaw,zQ,zS,zaA,zat,zu,zO,zp,zq,zau,zr,zJ,zt,zG,zbX,zl8]
  by_cases h11:w=11
  ·refine .inr ⟨h11,?_⟩
   have h3:=md (i:=c / 4) (n:=3) (by decide)
   have hc:c % 4=0\/c % 4=1\/c % 4=2\/c % 4=3:=by omega
   rcases hc with h | h | h | h <;> rw [h]
   ·exact ⟨_,rfl,8,[50],⟨rfl,rfl⟩,by decide,by decide,zeb (j:=6) (zdD 6 _ h3.1 h3.2 fun d hs=>h4 _ _ _ _ _ _ _ _ _ o hq h0 h14 fun _=>((decide_eq_decide.mpr (by omega):decide (6+2<=8)=decide (c % 2=0)) ▸ hs))⟩
   ·exact ⟨_,rfl,9,[50],⟨rfl,rfl⟩,by decide,by decide,zeb (j:=7) (zdD 7 _ h3.1 h3.2 fun d hs=>h4 _ _ _ _ _ _ _ _ _ o hq h0 h14 fun _=>((decide_eq_decide.mpr (by omega):decide (7+2<=8)=decide (c % 2=0)) ▸ hs))⟩
   ·exact ⟨_,rfl,7,[50],⟨rfl,rfl⟩,by decide,by decide,zeb (j:=5) (zdD 5 _ h3.1 h3.2 fun d hs=>h4 _ _ _ _ _ _ _ _ _ o hq h0 h14 fun _=>((decide_eq_decide.mpr (by omega):decide (5+2<=8)=decide (c % 2=0)) ▸ hs))⟩
   ·exact ⟨_,rfl,60,[50],⟨rfl,rfl⟩,by decide,by decide,zeb (j:=58) (zdD 58 _ h3.1 h3.2 fun d hs=>h4 _ _ _ _ _ _ _ _ _ o hq h0 h14 fun _=>((decide_eq_decide.mpr (by omega):decide (58+2<=8)=decide (c % 2=0)) ▸ hs))⟩
  ·exact .inl ⟨h11,h4 _ _ _ _ _ _ _ _ _ o hq h0 h14 (hs h11)⟩
 obtain ⟨t2,p2,h2⟩:∃ t,PSs' (LX P w K mg base f cdv A outer s H E) ((zaU zcM).drop 7) t/\∀ (Q:Res->Prop) (x0:D) (ns:Nd) (w c:Int) (x:D) (b:Bool) (s7 s8:Slot),NW ns->Q (.val (.bl true))->0<=w->w<14->(w≠11->w≠12->Spo x b)->t { nx:=fun _=>Q (.val .non),rt:=fun r _=>Q r } [.val x0,.val (.dit (ndD ns)),.val (trD (zaD 9 ns [])),.val (.int w),.val (.int c),.val x,.val (.bl b),s7,s8,.emp,.emp]:=by
  refine ⟨_,(zk (za1 (PW'.pt (zeo (zaJ (zbN (zbt hr)) (pv' 3) zj) (zds (zaJ (zjs (zbt hr)) (zT (i_A (zaC hr)) (pv' 2) zj) (zv zi))))) (zk (zac 5 zbr.nd (zT (i_A (zaC hr)) (zT (i_A (zaC hr)) (pv' 2) zj) (zX zcb (pv' 4) (zZ zbQ z_len ym (zc (zT (i_A (zaC hr)) (pv' 2) zj) zi)))))
  (zn (zac 6 zbr.nd zbw))) zaG) p3),fun Q x0 ns w c x b s7 s8 o hq h0 h14 hs=>?_⟩
  simp [zaj,zak,zao,zaf,zx,zab,tC',zau,zaX,tB',zal,zai,zba,zL,zay,zP,zbj,zae,zA,zag,zam,za4,zbi,za7,zah,za8,zo,zav,zax,zM,zE,zy,za3,zB,zan,zC,zaq,zD,zK,zH,zI,zap,zad,za9,zN,zR,zaz,zar,zF,zas,zaw,zQ,zS,zaA,zat,zu,zO,zp,zq,zau,zr,zJ,zt,zG]
  by_cases h10:w=10
  ·refine .inr ⟨h10,?_⟩
   refine zpz (fun _=>.inl ⟨rfl,h3 _ _ _ _ _ _ _ _ _ o hq h0 h14 hs⟩) fun hne=>.inr ⟨rfl,?_⟩
   have hpos:0<(zaD 9 ns []).kds.length:=by
    have:=List.length_pos_iff.mpr hne
    rwa [yD] at this
   have hm:=md (i:=c) (n:=(zaD 9 ns []).kds.length) hpos
   obtain ⟨d,e1,m1⟩:=zcn ((zaD 9 ns []).kds.map trD) hm.1 (by rw [yD]; exact hm.2)
   obtain ⟨y,hy,rfl⟩:=yb.mp m1
   exact ⟨hpos,_,e1,h3 _ _ _ _ _ _ _ _ _ o hq h0 h14 fun _ _=>zpG o hy⟩
  ·exact .inl ⟨h10,h3 _ _ _ _ _ _ _ _ _ o hq h0 h14 hs⟩
 refine ⟨_,(zk (za1 (zfZ zon zon zj (pv' 3) zj) (zn (zni (zbf G_law_spoilt (hr.mono (by decide)) (zc (pv' 2) (zc (pv' 1) (zc (pv' 3) (zc (pv' 4) zi))))) (zjh (n:=2) (zdt (zaR 5 zbr.nd) (zdt (zaR 6 zbr.nd) zhz))))) zaG) p2),fun Q x0 ns w c x b s7 s8 o hq h0 h14 hs=>?_⟩
 simp [zaj,zak,zao,zaf,zx,zab,tC',zau,zaX,tB',zal,zai,zba,zL,zay,zP,zbj,zae,zA,zag,zam,za4,zbi,za7,zah,za8,zo,zav,zax,zM,zE,zy,za3,zB,zan,zC,zaq,zD,zK,zH,zI,zap,zad,za9,zN,zR,zaz,zar,zF,zas,zaw,zQ,zS,zaA,zat,zu,zO,zp,zq,zau,zr,zJ,zt,zG]
 by_cases hA:0<w
 ·by_cases hB:w<10
  ·exact .inr ⟨hA,.inr ⟨hB,ns,w,c,rfl,o,by omega,by omega,fun d b hs=>⟨[d,.bl b],rfl,rfl,d,_,rfl,.bl b,_,rfl,rfl,h2 _ _ _ _ _ _ _ _ _ o hq h0 h14 fun _ _=>hs⟩⟩⟩
  ·exact .inr ⟨hA,.inl ⟨by omega,h2 _ _ _ _ _ _ _ _ _ o hq h0 h14 fun _ _=>hs⟩⟩
 ·exact .inl ⟨by omega,h2 _ _ _ _ _ _ _ _ _ o hq h0 h14 fun _ _=>hs⟩
theorem zpp (d:Df K mg "law" zcM ["_law_script"]) (G_is_tree:Fn P w K mg base 39 "is_tree" ["thing"] zbW) (G_law_cell_at:Fn P w K mg base 1 "_law_cell_at" ["_law_script","_law_k"] zbl) (G_law_nodes:Fn P w K mg base 3 "_law_nodes" ["_law_cells"] zbJ) (G_law_tree:Fn P w K mg base 15 "_law_tree" ["_law_nodes_here","_law_place"] (zaV 10)) (G_law_deep:Fn P w K mg base 1 "_law_deep" ["_law_many","_law_label_here"] zbX) (G_law_spoilt:Fn P w K mg base 12 "_law_spoilt" ["_law_tree_here","_law_nodes_here","_law_way","_law_cell"] zbR) (z_bool:mg "bool"=none) (z_isinstance:mg "isinstance"=none) (z_len:mg "len"=none):Fn P w K mg base 40 "law" ["_law_script"] zmb:=by
 refine d.ok zbr (fun ds Q h=>?_) (fun f cdv A outer s H E hr ds Q h=>?_)
 ·obtain ⟨cs,rfl,_⟩:=h
  rfl
 obtain ⟨t,pt,ht⟩:=zlv G_is_tree G_law_cell_at G_law_nodes G_law_tree G_law_deep G_law_spoilt z_bool z_isinstance z_len hr
 refine ⟨_,(zk (zac 1 zbr.nd (zbf G_law_nodes (hr.mono (by decide)) (zc (zci s_A (pv' 0) (zdk zj) (zdk zj)) zi)))
  (zk (zac 2 zbr.nd (zbf G_law_tree (hr.mono (by decide)) (zc (pv' 1) (zc (zv zi) zi))))
  (zk (zac 3 zbr.nd (zX zcb (zbf G_law_cell_at (hr.mono (by decide)) (zc (pv' 0) (zc zj zi))) zj))
  (zk (zac 4 zbr.nd (zbf G_law_cell_at (hr.mono (by decide)) (zc (pv' 0) (zc zj zi))))
  (zk (zac 5 zbr.nd (pv' 2))
  (zk (zac 6 zbr.nd zbw)
  pt)))))),?_⟩
 obtain ⟨cs,rfl,hl,hq⟩:=h; simp [zaj,zak,zao,zaf,zx,zab,tC',zau,zaX,tB',zal,zai,zba,zL,zay,zP,zbj,zae,zA,zag,zam,za4,zbi,za7,zah,za8,zo,zav,zax,zM,zE,zy,za3,zB,zan,zC,zaq,zD,zK,zH,zI,zap,zad,za9,zN,zR,zaz,zar,zF,zas,zaw,zQ,zS,zaA,zat,zu,zO,zp,zq,zau,zr,zJ,zt,zG,zbJ,zkG,zbl]
 refine ⟨zcV cs (some 6) (some 56),zhU _ _ _ _,zrI cs,fun ns o=>⟨ns,[],⟨rfl,rfl⟩,o.ok,o.ok.nil,cs,1,⟨rfl,rfl⟩,by decide,fun n=>⟨cs,2,⟨rfl,rfl⟩,by decide,fun c=>?_⟩⟩⟩
 have hm:=md (i:=n) (n:=14) (by decide)
 exact ht Q _ ns _ c _ _ _ _ o hq hm.1 hm.2 ⟨(zb2 o 9 9 [] o.ok.nil (by decide) (by decide)).sn,fun _=>zgJ o,fun _=>rfl⟩
end
end K03
namespace PL
open PySem L2
theorem ar1 {A B C D E F:Sort _} {p:A->B->C->D->E->F->List Value->Prop} (h:∀ a b c d e f x0,p a b c d e f [x0]):∀ a b c d e f us,us.length=1->p a b c d e f us:=fun a b c d e f us hl=>match us,hl with | [x0],_=>h a b c d e f x0
theorem ar2 {A B C D E F:Sort _} {p:A->B->C->D->E->F->List Value->Prop} (h:∀ a b c d e f x0 x1,p a b c d e f [x0,x1]):∀ a b c d e f us,us.length=2->p a b c d e f us:=fun a b c d e f us hl=>match us,hl with | [x0,x1],_=>h a b c d e f x0 x1
theorem ar3 {A B C D E F:Sort _} {p:A->B->C->D->E->F->List Value->Prop} (h:∀ a b c d e f x0 x1 x2,p a b c d e f [x0,x1,x2]):∀ a b c d e f us,us.length=3->p a b c d e f us:=fun a b c d e f us hl=>match us,hl with | [x0,x1,x2],_=>h a b c d e f x0 x1 x2
theorem ar4 {A B C D E F:Sort _} {p:A->B->C->D->E->F->List Value->Prop} (h:∀ a b c d e f x0 x1 x2 x3,p a b c d e f [x0,x1,x2,x3]):∀ a b c d e f us,us.length=4->p a b c d e f us:=fun a b c d e f us hl=>match us,hl with | [x0,x1,x2,x3],_=>h a b c d e f x0 x1 x2 x3
def Dn (K:W.Frag) (x:Str) (st:Stmt):Prop:=∃ f fd,Fun K x x st f fd/\W.nsIn K mainGlobals x=some (some (.ref f))
section
variable {K:W.Frag} {x:Str} {st:Stmt}
theorem Dn.mk {f:Addr} {oc:Value} {od an:Option Addr} {osl:Array (Option Value)} {kV doc pm cdv ct:Value} (a:W.nsIn K mainGlobals x=some (some (.ref f))) (l:K.lookup f=some ⟨oc,od,.func (W.fnOf x x (zcd st) (zaU st) (zm st) .none kV doc pm an cdv ct),osl⟩) (c:W.codeIn K cdv x=true) (k:W.keepIn K (.ref f)=true):Dn K x st:=⟨f,_,zhK l c k,a⟩
theorem Dn.df {h:Heap} {mg:Str->Option Value} (D:Dn K x st) (X:K.In h) (G:h.Ns mainGlobals mg) (ps:List Str) (hb:∀ (kV doc pm:Value) (an:Option Addr) (cdv ct:Value) (us:List Value),us.length=ps.length->bindArgs (W.fnOf x x (zcd st) (zaU st) (zm st) .none kV doc pm an cdv ct) ⟨us,[]⟩=pure (ps.zip us)):Df K mg x st ps:=by
 obtain ⟨f,fd,F,a⟩:=D; exact ⟨f,fd,F,F.binds hb,W.mg_of X G a⟩
end
end PL
namespace K03
open PySem L2 Lb PL MT M04 MS M70
section
variable {P:Program} {w:World} {K:W.Frag} {mg:Str->Option Value} {base:Heap}
end
theorem tab_mem {T:List (Addr × Str)} {b:Addr} {q:Str} (h:T.lookup b=some q):b ∈ T.map (·.1):=by
 induction T with
 | nil=>cases h
 | cons x r ih =>
  obtain ⟨a,s⟩:=x
  by_cases e:b=a
  ·subst e; simp
  ·have e':(b == a)=false:=beq_eq_false_iff_ne.mpr e
   rw [yk,e'] at h; exact yV _ (ih h)
theorem all_mk {l:W.OpenLaw} {w:World} {K:W.Frag} {h:Heap} {mg:Str->Option Value} {fa f22 f23 f28  :Addr} (X:K.In h) (G:h.Ns mainGlobals mg) (hfa:mg "law"=some (.ref fa))
  {od22 an22 od23 an23 od28 an28:Option Addr} {sl22 sl23 sl28:Array (Option Value)} {oc22 kV22 dc22 pm22 ct22 oc23 kV23 dc23 pm23 ct23 oc28 kV28 dc28 pm28 cd28 ct28:Value}
  {x1:Str} {t1:Tok} {x2:Int} {t2:Tok} {x3:Int} {t3:Tok} {x4:Int} {t4:Tok} {x5:Int} {t5:Tok} {x6:Str} {t6:Tok} {x7:Str} {t7:Tok}
  {cc22 PT22 cc23 PT23:Addr}
  (D1:Dn K "figures_of" zcO)
  (D2:Dn K "has_only" zcZ)
  (D3:Dn K "is_triple" zdf)
  (D4:Dn K "_law_cell_at" zct)
  (D5:Dn K "_law_label" zde)
  (D6:Dn K "_law_word" zdJ)
  (D7:Dn K "_law_key" zei)
  (D8:Dn K "_law_at" zfj)
  (D9:Dn K "_law_deep" zdK)
  (D10:Dn K "_law_wrong_word" zbL)
  (D11:Dn K "_law_wrong_label" zbB)
  (D12:Dn K "is_word" zej)
  (D13:Dn K "label_rank" zcN)
  (D14:Dn K "is_label_number" zbC)
  (D15:Dn K "_law_words" zcs)
  (D16:Dn K "is_label" zdL)
  (D17:Dn K "label_before" zb9)
  (D18:Dn K "are_words" zcu)
  (D19:Dn K "_law_nodes" zdd)
  (D20:Dn K "are_rising" zb5)
  (D21:Dn K "_law_changed" zbT)
  (a22:W.nsIn K mainGlobals "_law_spoilt"=some (some (.ref f22)))
  (l22:K.lookup f22=some ⟨oc22,od22,.func (W.fnOf "_law_spoilt" "_law_spoilt" (zcd zaQ) (zaU zaQ) (zm zaQ) .none kV22 dc22 pm22 an22 (.ref cc22) ct22),sl22⟩)
  (c22:W.codeIn K (.ref cc22) "_law_spoilt"=true)
  (k22:W.keepIn K (.ref f22)=true)
  (a23:W.nsIn K mainGlobals "_law_tree"=some (some (.ref f23)))
  (l23:K.lookup f23=some ⟨oc23,od23,.func (W.fnOf "_law_tree" "_law_tree" (zcd zbe) (zaU zbe) (zm zbe) .none kV23 dc23 pm23 an23 (.ref cc23) ct23),sl23⟩)
  (c23:W.codeIn K (.ref cc23) "_law_tree"=true)
  (k23:W.keepIn K (.ref f23)=true)
  (D24:Dn K "is_node" zel)
  (D25:Dn K "has_good_parts" zbM)
  (D26:Dn K "are_kids" zc0)
  (D27:Dn K "is_tree" zek)
  (a28:W.nsIn K mainGlobals "law"=some (some (.ref f28)))
  (l28:K.lookup f28=some ⟨oc28,od28,.func (W.fnOf "law" "law" (zcd zcM) (zaU zcM) (zm zcM) .none kV28 dc28 pm28 an28 cd28 ct28),sl28⟩)
  (c28:W.codeIn K cd28 "law"=true)
  (k28:W.keepIn K (.ref f28)=true)
  (z1:W.nsIn K mainGlobals "all"=some none)
  (z2:W.nsIn K mainGlobals "bool"=some none)
  (z3:W.nsIn K mainGlobals "int"=some none)
  (z4:W.nsIn K mainGlobals "isinstance"=some none)
  (z5:W.nsIn K mainGlobals "len"=some none)
  (z6:W.nsIn K mainGlobals "list"=some none)
  (z7:W.nsIn K mainGlobals "range"=some none)
  (z8:W.nsIn K mainGlobals "sorted"=some none)
  (z9:W.nsIn K mainGlobals "str"=some none)
  (z10:W.nsIn K mainGlobals "tuple"=some none)
  (z11:W.nsIn K mainGlobals "zip"=some none)
  (g1:W.nsIn K mainGlobals "FIGURES"=some (some (.str x1 t1)))
  (e1:x1=st zoo)
  (g2:W.nsIn K mainGlobals "LONGEST_WORD"=some (some (.int x2 t2)))
  (e2:x2=12)
  (g3:W.nsIn K mainGlobals "MOST_DEEP"=some (some (.int x3 t3)))
  (e3:x3=9)
  (g4:W.nsIn K mainGlobals "MOST_FIGURES"=some (some (.int x4 t4)))
  (e4:x4=9)
  (g5:W.nsIn K mainGlobals "MOST_LETTERS"=some (some (.int x5 t5)))
  (e5:x5=3)
  (g6:W.nsIn K mainGlobals "SMALL_LETTERS"=some (some (.str x6 t6)))
  (e6:x6=st zpA)
  (g7:W.nsIn K mainGlobals "WORD_SIGNS"=some (some (.str x7 t7)))
  (e7:x7=st wsg)
  (hL22:W.codeHdIn K cc22 PT22=true)
  (nL22:K.lookup PT22=none)
  (tL22:([(PT22,"_law_spoilt.<locals>.<lambda>"),(PT23,"_law_tree.<locals>.<lambda>")]:List (Addr × Str)).lookup PT22=some "_law_spoilt.<locals>.<lambda>")
  (hL23:W.codeHdIn K cc23 PT23=true)
  (nL23:K.lookup PT23=none)
  (tL23:([(PT22,"_law_spoilt.<locals>.<lambda>"),(PT23,"_law_tree.<locals>.<lambda>")]:List (Addr × Str)).lookup PT23=some "_law_tree.<locals>.<lambda>")
  :
  (∀ b q,([(PT22,"_law_spoilt.<locals>.<lambda>"),(PT23,"_law_tree.<locals>.<lambda>")]:List (Addr × Str)).lookup b=some q->(∃ c,W.codeHdIn K c b=true)/\K.lookup b=none) /\
  ∃ fd:FuncData,(∀ (s:Shared) (v:Value),BindsTo s fd ⟨[v],[]⟩ [("_law_script",v)])/\∀ base:Heap,K.In base->base.Ns mainGlobals mg->(∀ b q,([(PT22,"_law_spoilt.<locals>.<lambda>"),(PT23,"_law_tree.<locals>.<lambda>")]:List (Addr × Str)).lookup b=some q->base.objs[b]?=some (zd0 q))->FnOk l.prog w K mg base CX0 40 fa fd ["_law_script"] (zhr K zh7):=by
 subst e1; subst e2; subst e3; subst e4; subst e5; subst e6; subst e7
 have d1:=D1.df X G ["label"] <| ar1 fun _ _ _ _ _ _ _=>rfl
 have d2:=D2.df X G ["text","signs"] <| ar2 fun _ _ _ _ _ _ _ _=>rfl
 have d3:=D3.df X G ["thing"] <| ar1 fun _ _ _ _ _ _ _=>rfl
 have d4:=D4.df X G ["_law_script","_law_k"] <| ar2 fun _ _ _ _ _ _ _ _=>rfl
 have d5:=D5.df X G ["_law_cell"] <| ar1 fun _ _ _ _ _ _ _=>rfl
 have d6:=D6.df X G ["_law_cell"] <| ar1 fun _ _ _ _ _ _ _=>rfl
 have d7:=D7.df X G ["_law_label_here"] <| ar1 fun _ _ _ _ _ _ _=>rfl
 have d8:=D8.df X G ["_law_nodes_here","_law_cell"] <| ar2 fun _ _ _ _ _ _ _ _=>rfl
 have d9:=D9.df X G ["_law_many","_law_label_here"] <| ar2 fun _ _ _ _ _ _ _ _=>rfl
 have d10:=D10.df X G ["_law_cell"] <| ar1 fun _ _ _ _ _ _ _=>rfl
 have d11:=D11.df X G ["_law_cell"] <| ar1 fun _ _ _ _ _ _ _=>rfl
 have d12:=D12.df X G ["thing"] <| ar1 fun _ _ _ _ _ _ _=>rfl
 have d13:=D13.df X G ["label"] <| ar1 fun _ _ _ _ _ _ _=>rfl
 have d14:=D14.df X G ["text"] <| ar1 fun _ _ _ _ _ _ _=>rfl
 have d15:=D15.df X G ["_law_cell"] <| ar1 fun _ _ _ _ _ _ _=>rfl
 have d16:=D16.df X G ["thing"] <| ar1 fun _ _ _ _ _ _ _=>rfl
 have d17:=D17.df X G ["one","other"] <| ar2 fun _ _ _ _ _ _ _ _=>rfl
 have d18:=D18.df X G ["thing"] <| ar1 fun _ _ _ _ _ _ _=>rfl
 have d19:=D19.df X G ["_law_cells"] <| ar1 fun _ _ _ _ _ _ _=>rfl
 have d20:=D20.df X G ["labels"] <| ar1 fun _ _ _ _ _ _ _=>rfl
 have d21:=D21.df X G ["_law_node","_law_place","_law_form"] <| ar3 fun _ _ _ _ _ _ _ _ _=>rfl
 have F22:=zhK (st:=zaQ) l22 c22 k22; have m22:=W.mg_of X G a22
 have b22:=F22.binds (ps:=["_law_tree_here","_law_nodes_here","_law_way","_law_cell"]) <| ar4 fun _ _ _ _ _ _ _ _ _ _=>rfl
 have d22:Df K mg "_law_spoilt" zaQ ["_law_tree_here","_law_nodes_here","_law_way","_law_cell"]:=⟨f22,_,F22,b22,m22⟩
 have F23:=zhK (st:=zbe) l23 c23 k23; have m23:=W.mg_of X G a23
 have b23:=F23.binds (ps:=["_law_nodes_here","_law_place"]) <| ar2 fun _ _ _ _ _ _ _ _=>rfl
 have d23:Df K mg "_law_tree" zbe ["_law_nodes_here","_law_place"]:=⟨f23,_,F23,b23,m23⟩
 have d24:=D24.df X G ["thing","levels"] <| ar2 fun _ _ _ _ _ _ _ _=>rfl
 have d25:=D25.df X G ["node","levels"] <| ar2 fun _ _ _ _ _ _ _ _=>rfl
 have d26:=D26.df X G ["thing","levels"] <| ar2 fun _ _ _ _ _ _ _ _=>rfl
 have d27:=D27.df X G ["thing"] <| ar1 fun _ _ _ _ _ _ _=>rfl
 have F28:=zhK (st:=zcM) l28 c28 k28; have m28:=W.mg_of X G a28
 have b28:=F28.binds (ps:=["_law_script"]) <| ar1 fun _ _ _ _ _ _ _=>rfl
 have d28:Df K mg "law" zcM ["_law_script"]:=⟨f28,_,F28,b28,m28⟩
 have z_all:=W.mg_none_of X G z1; have z_bool:=W.mg_none_of X G z2; have z_int:=W.mg_none_of X G z3; have z_isinstance:=W.mg_none_of X G z4; have z_len:=W.mg_none_of X G z5; have z_list:=W.mg_none_of X G z6; have z_range:=W.mg_none_of X G z7; have z_sorted:=W.mg_none_of X G z8; have z_str:=W.mg_none_of X G z9; have z_tuple:=W.mg_none_of X G z10; have z_zip:=W.mg_none_of X G z11; have g_FIGURES:=W.mg_of X G g1; have g_LONGEST_WORD:=W.mg_of X G g2; have g_MOST_DEEP:=W.mg_of X G g3; have g_MOST_FIGURES:=W.mg_of X G g4; have g_MOST_LETTERS:=W.mg_of X G g5; have g_SMALL_LETTERS:=W.mg_of X G g6; have g_WORD_SIGNS:=W.mg_of X G g7; have e:=hfa.symm.trans m28; cases e
 refine ⟨fun b q e=>?_,?_⟩
 ·have:=tab_mem e
  simp only [yq,List.map_nil,yO,yU,or_false] at this
  rcases this with rfl | rfl
  ·exact ⟨⟨_,hL22⟩,nL22⟩
  ·exact ⟨⟨_,hL23⟩,nL23⟩
 refine ⟨W.fnOf "law" "law" (zcd zcM) (zaU zcM) (zm zcM) .none kV28 dc28 pm28 an28 cd28 ct28,fun s v=>.of_eq rfl,fun base _ _ hmk=>?_⟩
 have lo_law_spoilt:LamOf K mg base "_law_spoilt" "_law_spoilt.<locals>.<lambda>":=⟨⟨cc22,PT22,fun f fd oc od sl m lk=>by
  rw [m22] at m; cases m; rw [l22] at lk; cases lk
  rfl,hL22,hmk _ _ tL22⟩,by decide +kernel⟩
 have lo_law_tree:LamOf K mg base "_law_tree" "_law_tree.<locals>.<lambda>":=⟨⟨cc23,PT23,fun f fd oc od sl m lk=>by
  rw [m23] at m; cases m; rw [l23] at lk; cases lk
  rfl,hL23,hmk _ _ tL23⟩,by decide +kernel⟩
 have G_figures_of:Fn l.prog w K mg base 1 "figures_of" ["label"] zbc:=zfx d1 g_SMALL_LETTERS
 have G_has_only:Fn l.prog w K mg base 1 "has_only" ["text","signs"] zby:=zg2 d2 z_all
 have G_is_triple:Fn l.prog w K mg base 1 "is_triple" ["thing"] zb4:=zf9 d3 z_isinstance z_len z_tuple
 have G_law_cell_at:Fn l.prog w K mg base 1 "_law_cell_at" ["_law_script","_law_k"] zbl:=zeS d4 z_len
 have G_law_label:Fn l.prog w K mg base 1 "_law_label" ["_law_cell"] zbp:=zf8 d5 z_str
 have G_law_word:Fn l.prog w K mg base 1 "_law_word" ["_law_cell"] zbx:=zgY d6 z_range
 have G_law_key:Fn l.prog w K mg base 1 "_law_key" ["_law_label_here"] zcY:=zin d7 z_int z_len
 have G_law_at:Fn l.prog w K mg base 1 "_law_at" ["_law_nodes_here","_law_cell"] zdo:=zjp d8 z_len z_list
 have G_law_deep:Fn l.prog w K mg base 1 "_law_deep" ["_law_many","_law_label_here"] zbX:=zg0 d9 z_int z_range
 have G_law_wrong_word:Fn l.prog w K mg base 1 "_law_wrong_word" ["_law_cell"] zbb:=zdR d10 
 have G_law_wrong_label:Fn l.prog w K mg base 1 "_law_wrong_label" ["_law_cell"] zaZ:=zdu d11 
 have G_is_word:Fn l.prog w K mg base 2 "is_word" ["thing"] zcf:=zio d12 G_has_only z_isinstance z_len z_str g_LONGEST_WORD g_WORD_SIGNS
 have G_label_rank:Fn l.prog w K mg base 2 "label_rank" ["label"] zcp:=zfw d13 G_figures_of z_int z_len
 have G_is_label_number:Fn l.prog w K mg base 2 "is_label_number" ["text"] za0:=zdv d14 G_has_only z_len g_FIGURES g_MOST_FIGURES
 have G_law_words:Fn l.prog w K mg base 2 "_law_words" ["_law_cell"] zbo:=zf6 d15 G_law_word z_range z_tuple
 have G_is_label:Fn l.prog w K mg base 3 "is_label" ["thing"] zcq:=zg1 d16 G_figures_of G_is_label_number z_isinstance z_len z_str g_MOST_LETTERS
 have G_label_before:Fn l.prog w K mg base 3 "label_before" ["one","other"] za5:=zet d17 G_label_rank
 have G_are_words:Fn l.prog w K mg base 3 "are_words" ["thing"] zcK:=zga d18 G_is_word z_all z_isinstance z_tuple
 have G_law_nodes:Fn l.prog w K mg base 3 "_law_nodes" ["_law_cells"] zbJ:=zf7 d19 G_law_label G_law_words z_len
 have G_are_rising:Fn l.prog w K mg base 4 "are_rising" ["labels"] zbS:=zfz d20 G_label_before z_all z_zip
 have G_law_changed:=fun (J:L2.Jt) (R:D->D->Prop) (f:Addr) (V:FnV l.prog w K mg base J 1 f R)=>zeR V d21 z_tuple 10
 have G_law_spoilt:Fn l.prog w K mg base 12 "_law_spoilt" ["_law_tree_here","_law_nodes_here","_law_way","_law_cell"] zbR:=zfv d22 G_law_at d21 G_law_changed G_law_wrong_word G_law_wrong_label z_len z_list lo_law_spoilt
 have G_law_tree:Fn l.prog w K mg base 15 "_law_tree" ["_law_nodes_here","_law_place"] (zaV 10):=zgZ d23 G_law_key z_len z_sorted z_tuple lo_law_tree 10
 have S_are_kids:=zg3 (P:=l.prog) (w:=w) (base:=base) d26 G_are_rising z_isinstance z_tuple; have S_has_good_parts:=zdS (P:=l.prog) (w:=w) (base:=base) d25 G_are_words S_are_kids; have G_has_good_parts:=S_has_good_parts 10 (zir d24 G_is_label G_is_triple S_has_good_parts 10)
 have G_is_tree:Fn l.prog w K mg base 39 "is_tree" ["thing"] zbW:=ziq d27 G_is_triple G_has_good_parts z_isinstance z_str g_MOST_DEEP
 have G_law:Fn l.prog w K mg base 40 "law" ["_law_script"] zmb:=zpp d28 G_is_tree G_law_cell_at G_law_nodes G_law_tree G_law_deep G_law_spoilt z_bool z_isinstance z_len
 exact zpB m28 l28 base G_law
end K03
namespace PySem.W.Fast
def tw15622354514345376955:=yy
def tw12682011257679092285:=yy
def tw1668261749547366901:=yy
def tw4173535393085222020:=yy
def tw4753199135797108773:=yy
def tw15241456250330274943:=yy
def tw16056675174423399408:=yy
def tw16326963593565424793:=yy
def tw13995135534426257555:=yy
def tw4880089480666691927:=yy
def tw4587710327589657244:=yy
def tw1922313865366132024:=yy
def tw3723498168920079734:=yy
def tw8445159360792492099:=yy
def tw278580861526590488:=yy
def tw14822269407095550651:=yy
def tw8412115303126473197:=yy
def tw7697034022735696747:=yy
def tw11886048335252956036:=yy
def tw4753206426851551941:=yy
def tw15298271779059288014:=yy
def tw15384525856771295357:=yy
def tw13004975921402379548:=yy
def tw13724827366808308978:=yy
def tw3097714597431027934:=yy
def tw16845851137071632380:=yy
def tw18432077399920236576:=yy
def tw919932883797470599:=yy
def tw5601034036882986571:=yy
def tw4868103952448595303:=yy
def tw15879783220527433018:=yy
def tw17904904690613877794:=yy
def tw7029212280882807305:=yy
def tw17308531689165090368:=yy
def tw13064778708822942288:=yy
def tw4004445915490120545:=yy
def tw9324236262719351102:=yy
def tw16498198226582841145:=yy
def tw16823883509967967984:=yy
def tw12430478979122827532:=yy
def tw18367374584444384268:=yy
def tw4810282501603452430:=yy
def tw4333472860434824886:=yy
def tw8180946167622220594:=yy
def tw9127863253380485559:=yy
def tw4778878081546411347:=yy
def tw11737811218460922922:=yy
def tw16936219283853998133:=yy
def tw15751574700509538336:=yy
def tw10988730244153973357:=yy
def tw8427527479724597137:=yy
def tw8833797775188442266:=yy
def tw314456157369801448:=yy
def tw13924962949876517784:=yy
def tw436307929010844832:=yy
def tw9025843197456146360:=yy
def tw13890492448212564607:=yy
def tw9873902545472477387:=yy
def tw5555694176700205247:=yy
def tw5438425294451887730:=yy
def tw18109315228441685884:=yy
def tw12456832210481659182:=yy
def tw8163435610041318286:=yy
def tw8907036420352987990:=yy
def tw9912029264653394765:=yy
def tw2293062199747759608:=yy
def tw17505698823071864578:=yy
def tw13144119015767164175:=yy
def tw14513578513983917779:=yy
def tw7953986068279874798:=yy
def tw10739709931733019606:=yy
def tw17224991911200822802:=yy
def tw3588254711574081361:=yy
def tw503137588634144292:=yy
def tw7269204411300056587:=yy
def tw1172701368103189972:=yy
def tw14178084596954601768:=yy
def tw4319768217702624054:=yy
def tw18082113447755435578:=yy
def tw8753822514592012812:=yy
def tw10012066285219162341:=yy
def tw12335589475514904225:=yy
def tw12222552154411063779:=yy
def tw11035420846167004457:=yy
def tw6726702464696190724:=yy
def tw11535232422364559182:=yy
def tw13111052576983893981:=yy
def tw2805906332716456470:=yy
def tw3681566517471331388:=yy
def tw13845887611666031987:=yy
def tw14989215128134000232:=yy
def tw15107061121957497442:=yy
def tw16769852319807120461:=yy
def tw12996014249314740818:=yy
def tw4210459381166041751:=yy
def tw12801623367602023456:=yy
def tw8179173926055317504:=yy
def tw12617756305868686011:=yy
def tw482317978609367797:=yy
def tw4681495240236071386:=yy
def tw6768454585802510548:=yy
def tw5371337708252936194:=yy
def tw8494643895282096157:=yy
def tw17763723345093653125:=yy
def tw3565446332007769887:=yy
def tw7984998627297518570:=yy
def tw1775846319752046532:=yy
def tw5356477775997122624:=yy
def tw5020337434658021123:=yy
def tw3430240770408531111:=yy
def tw223297944693907275:=yy
def tw4262473806795236045:=yy
def tw11901416597221107096:=yy
def tw2263970964542637591:=yy
def tw7308857503520506627:=yy
def tw1333076912936942350:=yy
def tw17526119026450475647:=yy
def tw7849395518043361780:=yy
def tw14842517465764085520:=yy
def tw3515980600752752620:=yy
def tw4235624176172889341:=yy
def tw14417407654179886247:=yy
def tw665383107042822617:=yy
def tw2218425111564042320:=yy
def tw1809681107586569182:=yy
def tw8222890807433533509:=yy
def tw1345782734558457825:=yy
def tw18396900977792932808:=yy
def tw17633080253074564820:=yy
def tw14870873019660261476:=yy
def tw7803482403608820176:=yy
def tw17420406768720566169:=yy
def tw4774048462795372648:=yy
def tw1779075582359342154:=yy
def tw5069612436786780551:=yy
def tw17437254379250028153:=yy
def tw1378903003100238262:=yy
def tw13033147505980028379:=yy
def tw7297330763338670125:=yy
def tw1234815532661946601:=yy
def tw17692290345638750673:=yy
def tw16257044013066574789:=yy
def tw14710623582333865171:=yy
def tw6255065356833431495:=yy
def tw18272743042616787302:=yy
def tw8591272751463213907:=yy
def tw15218968047072242655:=yy
def tw7596624328434032035:=yy
def tw7915022268093919704:=yy
def tw3647658257334325651:=yy
def tw9898537433112250013:=yy
def tw8851906819343253075:=yy
def tw714303780255284201:=yy
def tw4426167227090699126:=yy
def tw13071261891508151096:=yy
def tw12712762292331328835:=yy
def tw10590779904774796379:=yy
def tw2476019421364250009:=yy
def tw11223110072689413001:=yy
def tw8654560313869984238:=yy
def tw9326991984357508845:=yy
def tw18023656763646384659:=yy
def tw12973574590648670525:=yy
def tw3561755580477932775:=yy
def tw6775973251737450184:=yy
def tw7719142837712154732:=yy
def tw2286837698261738892:=yy
def tw13498843410564597708:=yy
def tw17717827058710433014:=yy
def tw5479478776651890207:=yy
def tw5380493700892976132:=yy
def tw10539822732204291478:=yy
def tw7817649712667319557:=yy
def tw6194982836978561232:=yy
end PySem.W.Fast
open PySem PySem.W PyProof.Rows
set_option maxRecDepth 100000 in
set_option maxHeartbeats 0 in
theorem PySem.Challenge.cw_codemend_k03_what_is_a_tree_holds : PySem.Challenge.rw_codemend_k03_what_is_a_tree.Holds := by
 w_on; o_law; k_head; (case hw=>w_witness2)
 k_fill
 refine PL.walk_lawT (l:=PySem.Challenge.rw_codemend_k03_what_is_a_tree) (k:=40) (x:="_law_script") [(186,"_law_spoilt.<locals>.<lambda>"),(146,"_law_tree.<locals>.<lambda>")] rfl rfl ⟨rfl,by decide,by decide⟩ (fun w h Y=>PySem.W.km_in_of Y) (fun w h Y b q e=>PySem.W.km_tabs_of Y b (K03.tab_mem e)) ?F
 case F =>
  intro w mg fa h KX G hmg
  refine' K03.all_mk KX G hmg ?q0 ?q1 ?q2 ?q3 ?q4 ?q5 ?q6 ?q7 ?q8 ?q9 ?qa ?qb ?qc ?qd ?qe ?qf ?qg ?qh ?qi ?qj ?qk ?ql ?qm ?qn ?qo ?qp ?qq ?qr ?qs ?qt ?qu ?qv ?qw ?qx ?qy ?qz ?q10 ?q11 ?q12 ?q13 ?q14 ?q15 ?q16 ?q17 ?q18 ?q19 ?q1a ?q1b ?q1c ?q1d ?q1e ?q1f ?q1g ?q1h ?q1i ?q1j ?q1k ?q1l ?q1m ?q1n ?q1o ?q1p ?q1q ?q1r ?q1s ?q1t ?q1u ?q1v
  (case q0|q1|q2|q3|q4|q5|q6|q7|q8|q9|qa|qb|qc|qd|qe|qf|qg|qh|qi|qj|qk=>apply PL.Dn.mk<;>k_is)
  (case ql|qm|qn|qo|qp|qq|qr|qs=>k_is)
  (case qt|qu|qv|qw=>apply PL.Dn.mk<;>k_is)
  (case qx|qy|qz|q10|q11|q12|q13|q14|q15|q16|q17|q18|q19|q1a|q1b|q1c=>k_is)
  (case q1d=>decide +kernel)
  (case q1e=>k_is)
  (case q1f=>decide +kernel)
  (case q1g=>k_is)
  (case q1h=>decide +kernel)
  (case q1i=>k_is)
  (case q1j=>decide +kernel)
  (case q1k=>k_is)
  (case q1l=>decide +kernel)
  (case q1m=>k_is)
  (case q1n=>decide +kernel)
  (case q1o=>k_is)
  (case q1p=>decide +kernel)
  (case q1q|q1r=>kernel_rfl)
  (case q1s=>exact rfl)
  (case q1t|q1u=>kernel_rfl)
  (case q1v=>exact rfl)

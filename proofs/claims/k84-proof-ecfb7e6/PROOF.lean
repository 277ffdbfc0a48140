import PyProof.Rows.All
import Wide.All
import OpenK.AllK
import Wide.FinOn
import Lean
import PyProof.EqAt
import PyProof.EqKinds
import PyProof.TupleCall
import KE.KRevIter
import PyProof.StationsW
import PyProof.ExcClass2
import PyProof.ExcInit
import PyProof.ExcBaseAll.ValueError
import PyProof.ExcArgsOwn
import OpenK.KMake
import KE.KIsAll
import PyProof.InstStoreFacts
import PyProof.FString2
import KE.KTryMore
import PyProof.NsDelKeeps
import PyProof.Rows.StrSplitJoin
import PyProof.StrLawsTight
import PyProof.ListMulRoad
import PyProof.ZipIter
import PyProof.TupleIter
import PyProof.WalksMore
import KE.KSortAsk
import KE.KSortTup
import KE.KDictLaws
import PyProof.NeKinds
import PySem.Challenge.RW_codemend_k84_whole_either_order
noncomputable section
set_option Elab.async false
set_option linter.all false
set_option maxRecDepth 100000
namespace L2
open PySem PySem.Spec PyProof.Rows
abbrev Key:=Sum Int Str
def zi3:Key→Value→Bool
  | .inl k,v=>Value.isInt k v
  | .inr x,v=>Value.isStrOf x v
def zvG (w:World):Key→Int
  | .inl k=>hashInt k
  | .inr x=>hashStr w x
theorem za7:∀ {k:Key} {v:Value},zi3 k v=true→(∃ i t,k=Sum.inl i∧v=Value.int i t)∨(∃ x t,k=Sum.inr x∧v=Value.str x t)
  | .inl i,v,h=>by
    obtain ⟨t,e⟩:=Value.isInt_shape (k:=i) (v:=v) h; exact .inl ⟨i,t,rfl,e⟩
  | .inr x,v,h=>by
    obtain ⟨t,e⟩:=Value.isStrOf_shape (x:=x) (v:=v) h; exact .inr ⟨x,t,rfl,e⟩
theorem zlY (i:Int) (t:Tok):zi3 (.inl i) (.int i t)=true:=by simp [zi3,Value.isInt]
theorem zlX (x:Str) (t:Tok):zi3 (.inr x) (.str x t)=true:=by simp [zi3,Value.isStrOf]
theorem zsl (a b:Int):decide ((Sum.inl a:Key)=Sum.inl b)=(a == b):=by
  by_cases e:a=b
  · subst e; simp
  · have h:¬ (Sum.inl a:Key)=Sum.inl b:=fun q=>e (Sum.inl.inj q)
    rw [decide_eq_false h]; exact (beq_eq_false_iff_ne.mpr e).symm
theorem zsi (a b:Str):decide ((Sum.inr a:Key)=Sum.inr b)=decide (a=b):=by
  by_cases e:a=b
  · subst e; simp
  · have h:¬ (Sum.inr a:Key)=Sum.inr b:=fun q=>e (Sum.inr.inj q)
    rw [decide_eq_false h,decide_eq_false e]
theorem zsk (a:Int) (b:Str):decide ((Sum.inl a:Key)=Sum.inr b)=false:=decide_eq_false (fun q=>nomatch q)
theorem zsj (a:Str) (b:Int):decide ((Sum.inr a:Key)=Sum.inl b)=false:=decide_eq_false (fun q=>nomatch q)
def zbr (prog:Program) (w:World):PySem.KeyKind prog w Key where
  is:=zi3
  hash:=zvG w
  inj:=fun v a b ha hb=>by
    rcases za7 ha with ⟨i,t,rfl,rfl⟩ | ⟨x,t,rfl,rfl⟩
    · rcases za7 hb with ⟨j,u,rfl,e⟩ | ⟨y,u,rfl,e⟩
      · injection e with e1 _; rw [e1]
      · exact nomatch e
    · rcases za7 hb with ⟨j,u,rfl,e⟩ | ⟨y,u,rfl,e⟩
      · exact nomatch e
      · injection e with e1 _; rw [e1]
  byValue:=fun k v h=>by
    rcases za7 h with ⟨i,t,rfl,rfl⟩ | ⟨x,t,rfl,rfl⟩ <;> rfl
  pyHash:=fun hv h=>by
    rcases za7 hv with ⟨i,t,rfl,rfl⟩ | ⟨x,t,rfl,rfl⟩
    · exact wpAny_pyHash_int h
    · exact wpAny_pyHash_str h
  eqBool:=fun hu hv h=>by
    rcases za7 hu with ⟨i,t,rfl,rfl⟩ | ⟨x,t,rfl,rfl⟩
    · rcases za7 hv with ⟨j,u,rfl,rfl⟩ | ⟨y,u,rfl,rfl⟩
      · rw [zsl] at h; exact wpAny_eqBool_int h
      · rw [zsk] at h; exact SeqAt.EqAt.int_str i t y u _ _ _ _ h
    · rcases za7 hv with ⟨j,u,rfl,rfl⟩ | ⟨y,u,rfl,rfl⟩
      · rw [zsj] at h; exact SeqAt.EqAt.str_int x t j u _ _ _ _ h
      · rw [zsi] at h; exact wpAny_eqBool_str h
  «strs»:=fun k x t v h=>by
    rcases za7 h with ⟨i,u,rfl,e⟩ | ⟨y,u,rfl,e⟩
    · exact nomatch e
    · injection e with e1 _
      subst e1
      cases v <;> rfl
theorem ziV (prog:Program) (w:World) (i:Int) (t:Tok):(zbr prog w).is (.inl i) (.int i t)=true:=zlY i t
theorem ziU (prog:Program) (w:World) (x:Str) (t:Tok):(zbr prog w).is (.inr x) (.str x t)=true:=zlX x t
end L2
namespace L2
open PySem PySem.Spec PyProof.Rows
inductive V where
  | non | bl (b:Bool) | int (i:Int) | str (x:Str) | byt (b:Array UInt8) | flt (b:UInt64) | ref (a:Addr) | ty (n:String)
  deriving DecidableEq
def zby:V→Value→Prop
  | .non,u=>u=Value.none
  | .bl b,u=>u=Value.bool b
  | .int i,u=>∃ t,u=Value.int i t
  | .str x,u=>∃ t,u=Value.str x t
  | .byt b,u=>∃ t,u=Value.bytes b t
  | .flt b,u=>∃ t,u=Value.float b t
  | .ref a,u=>u=Value.ref a
  | .ty n,u=>u=Value.type n
abbrev za5:List V→List Value→Prop:=Paired zby
theorem za5.length {xs:List V} {us:List Value} (r:za5 xs us):xs.length=us.length:=Paired.length r
theorem za5.get:∀ {xs:List V} {us:List Value} {i:Nat} {x:V},za5 xs us→xs[i]?=some x→∃ u,us[i]?=some u∧zby x u
  | _,_,_,_,.nil,e=>by simp at e
  | _,_,0,_,.cons r _,e=>by simp at e; subst e; exact ⟨_,rfl,r⟩
  | _,_,i+1,x,.cons _ t,e=>by
    obtain ⟨u,h1,h2⟩:=za5.get (i:=i) (x:=x) t (by simpa using e)
    exact ⟨u,by simpa using h1,h2⟩
theorem za5.set {x:V} {u:Value} (r:zby x u):∀ {xs:List V} {us:List Value} (i:Nat),za5 xs us→za5 (xs.set i x) (us.set i u)
  | _,_,_,.nil=>.nil
  | _,_,0,.cons _ t=>.cons r t
  | _,_,i+1,.cons q t=>.cons q (za5.set r i t)
theorem za5.append:∀ {xs ys:List V} {us ws:List Value},za5 xs us→za5 ys ws→za5 (xs ++ ys) (us ++ ws)
  | _,_,_,_,.nil,s=>s
  | _,_,_,_,.cons r t,s=>.cons r (za5.append t s)
theorem za5.take:∀ {xs:List V} {us:List Value} (n:Nat),za5 xs us→za5 (xs.take n) (us.take n)
  | _,_,0,_=>.nil
  | _,_,_+1,.nil=>.nil
  | _,_,n+1,.cons r t=>.cons r (za5.take n t)
theorem za5.drop:∀ {xs:List V} {us:List Value} (n:Nat),za5 xs us→za5 (xs.drop n) (us.drop n)
  | _,_,0,r=>r
  | _,_,_+1,.nil=>.nil
  | _,_,n+1,.cons _ t=>za5.drop n t
def zik:Option V→Option Value→Prop
  | some v,some u=>zby v u
  | none,none=>True
  | _,_=>False
def KV {κ:Type}:List (κ × V)→List (κ × Value)→Prop:=Paired fun (p:κ × V) (q:κ × Value)=>p.1=q.1∧zby p.2 q.2
def kV:Key→V
  | .inl i=>.int i
  | .inr x=>.str x
inductive HO where
  | lst (xs:List V)
  | tup (xs:List V)
  | dK (kvs:List (Key × V)) | dT (kvs:List (List Key × V))
  | dE (kvs:List (List Key × V)) (ep:Nat)
  | set (S:Int→Bool) (n:Nat)
  | ins (C dx:Addr) (fs:List (Str × V))
  | own (x:Addr)
  | xd (fs:List (Str × V))
  | met (f x:Addr)
  | rng (lo hi:Int)
  | frz (o:Obj) (u:HO)
  | tbl (ps:Array Value)
  | ext (φ:Heap→Prop)
abbrev zuB:HO:=.ext fun _=>True
def zn5:List V ⊕ Obj→HO
  | .inl xs=>.tup xs
  | .inr o=>.frz o zuB
abbrev Hp:=Addr→Option HO
def upd (H:Hp) (a:Addr) (o:HO):Hp:=fun b=>if b=a then some o else H b
theorem zP {H:Hp} {a:Addr} {o:HO}:upd H a o a=some o:=by unfold upd; rw [if_pos rfl]
theorem zaE {H:Hp} {a b:Addr} {o:HO} (h:b≠a):upd H a o b=H b:=by unfold upd; rw [if_neg h]
theorem zgu {H:Hp} {a:Addr} {o u:HO}:upd (upd H a o) a u=upd H a u:=by
  funext b; unfold upd; split <;> rfl
theorem zui {H:Hp} {a b:Addr} {o u:HO} (h:H a=some o) (h':H b=some u) (d:o≠u):a≠b:=by
  intro e; subst e; rw [h] at h'; exact d (Option.some.inj h')
theorem zbw {H:Hp} {a b:Addr} {o:HO} (h:H a=some o) (h':H b=none):a≠b:=by
  intro e; subst e; rw [h] at h'; cases h'
section
variable (P:Program) (w:World)
def zbT (H:Hp) (h:Heap) (a:Addr):HO→Prop
  | .lst xs=>xs.length≤sizeLine∧∃ (its:List Value) (n:Nat),za5 xs its∧h.get? a=some { cls:=.type "list",data:=.seq its.toArray n }
  | .tup xs=>xs.length≤sizeLine∧∃ its:List Value,za5 xs its∧IsTup h a its.toArray
  | .dK kvs=>kvs.length≤sizeLine∧(a == sysModules)=false∧∃ vs,KV kvs vs∧h.DictOf (zbr P w) a vs
  | .dT kvs=>kvs.length≤sizeLine∧(a == sysModules)=false∧∃ xs:List (List Key × Addr × Value),
      Paired (fun (p:List Key × V) (q:List Key × Addr × Value)=>p.1=q.1∧H q.2.1=some (.tup (p.1.map kV))∧zby p.2 q.2.2) kvs xs ∧
      ∃ o es ep,h.get? a=some o∧o.ExactDict∧o.data=.dict es ep∧es.toList=xs.map (entryOfKey (tupleKind (zbr P w)))∧(xs.map (·.1)).Nodup
  | .dE kvs ep=>kvs.length≤sizeLine∧(a == sysModules)=false∧∃ xs:List (List Key × Addr × Value),
      Paired (fun (p:List Key × V) (q:List Key × Addr × Value)=>p.1=q.1∧H q.2.1=some (.tup (p.1.map kV))∧zby p.2 q.2.2) kvs xs ∧
      ∃ o es,h.get? a=some o∧o.ExactDict∧o.data=.dict es ep∧es.toList=xs.map (entryOfKey (tupleKind (zbr P w)))∧(xs.map (·.1)).Nodup
  | .set S n=>h.SetOf (intKind P w) a S n
  | .ins C dx fs=>H dx=some (.own a)∧fs.length≤1000∧dx≠a∧h.get? a=some (PySem.W.instObj C dx) ∧
      ∃ mA,h.Ns1 dx mA∧(∀ f,zik (fs.lookup f) (mA f))∧PySem.Within mA (fs.map (·.1))
  | .own _=>∃ o,h.get? a=some o
  | .xd fs=>∃ mA,h.Ns1 a mA∧∀ f,zik (fs.lookup f) (mA f)
  | .rng lo hi=>∃ t u v,h.get? a=some { cls:=.type "range",data:=.fields #[.int lo t,.int hi u,.int 1 v] }
  | .frz o u=>h.get? a=some o∧zbT H h a u
  | .tbl ps=>∃ ts:Array Value,h.get? a=some { cls:=.none,data:=.fields ts }∧TriplesOk ts.toList∧∀ pos cv,codeAmong pos ts.toList=some cv→∃ c oc vs t q t0,cv=.ref c∧H c=some (zn5 (.inr oc))∧oc.data=.fields vs∧vs[1]?=some (.str q t)∧ps[0]?=some (.str q t0)
  | .met f x=>h.get? a=some (PySem.W.methodObj (.ref f) (.ref x))
  | .ext φ=>φ h∧(∃ o,h.get? a=some o)∧∀ h1 h2:Heap,φ h1→(∀ o,h1.get? a=some o→h2.get? a=some o)→φ h2
def HOk (H:Hp) (h:Heap):Prop:=∀ a o,H a=some o→zbT P w H h a o
end
section
variable {P:Program} {w:World} {H H':Hp} {h h':Heap} {a:Addr} {o:HO}
theorem zbT.lt (x:zbT P w H h a o):a<h.objs.size:=by
  cases o with
  | lst xs=>obtain ⟨_,_,_,_,e⟩:=x; exact Heap.lt_size e
  | tup xs=>obtain ⟨_,_,_,p⟩:=x; exact p.lt
  | dK kvs=>obtain ⟨_,_,_,_,o,_,_,e,_⟩:=x; exact Heap.lt_size e
  | dT kvs=>obtain ⟨_,_,_,_,o,_,_,e,_⟩:=x; exact Heap.lt_size e
  | dE kvs ep=>obtain ⟨_,_,_,_,o,_,e,_⟩:=x; exact Heap.lt_size e
  | set S n=>obtain ⟨o,_,_,_,e,_⟩:=x; exact Heap.lt_size e
  | ins C dx fs=>obtain ⟨_,_,_,e,_⟩:=x; exact Heap.lt_size e
  | own y=>obtain ⟨_,e⟩:=x; exact Heap.lt_size e
  | xd fs=>obtain ⟨_,⟨_,_,_,e,_⟩,_⟩:=x; exact Heap.lt_size e
  | rng lo hi=>obtain ⟨_,_,_,e⟩:=x; exact Heap.lt_size e
  | frz ob u=>obtain ⟨e,_⟩:=x; exact Heap.lt_size e
  | tbl ps=>obtain ⟨_,e,_⟩:=x; exact Heap.lt_size e
  | met f y=>exact Heap.lt_size (show h.get? a=some _ from x)
  | ext φ=>obtain ⟨_,⟨_,e⟩,_⟩:=x; exact Heap.lt_size e
theorem Paired.mapP {α β:Type} {F G:α→β→Prop}:∀ {l₁:List α} {l₂:List β},Paired F l₁ l₂→(∀ a b,F a b→G a b)→Paired G l₁ l₂
  | _,_,.nil,_=>.nil
  | _,_,.cons r t,f=>.cons (f _ _ r) (Paired.mapP t f)
theorem zbT.stay (x:zbT P w H h a o) (k:∀ b u,(b=a∨H b=some (.own a))→h.get? b=some u→h'.get? b=some u)
    (ho:∀ b,H b=some (.own a)→H' b=some (.own a)) (ht:∀ b xs,H b=some (zn5 xs)→H' b=some (zn5 xs)):zbT P w H' h' a o:=by
  induction o with
  | lst xs=>obtain ⟨z,its,n,r,e⟩:=x; exact ⟨z,its,n,r,k _ _ (.inl rfl) e⟩
  | tup xs=>obtain ⟨z,its,r,ob,e,c⟩:=x; exact ⟨z,its,r,ob,k _ _ (.inl rfl) e,c⟩
  | dK kvs=>obtain ⟨z,y,vs,r,ob,es,ep,e,c⟩:=x; exact ⟨z,y,vs,r,ob,es,ep,k _ _ (.inl rfl) e,c⟩
  | dT kvs =>
    obtain ⟨z,y,xs,r,ob,es,ep,e,c⟩:=x
    exact ⟨z,y,xs,Paired.mapP r fun p q z=>⟨z.1,ht _ (.inl _) z.2.1,z.2.2⟩,ob,es,ep,k _ _ (.inl rfl) e,c⟩
  | dE kvs ep =>
    obtain ⟨z,y,xs,r,ob,es,e,c⟩:=x
    exact ⟨z,y,xs,Paired.mapP r fun p q z=>⟨z.1,ht _ (.inl _) z.2.1,z.2.2⟩,ob,es,k _ _ (.inl rfl) e,c⟩
  | set S n=>obtain ⟨ob,es,ep,t,e,c⟩:=x; exact ⟨ob,es,ep,t,k _ _ (.inl rfl) e,c⟩
  | ins C dx fs =>
    obtain ⟨d,z,ne,e,mA,⟨od,es,ep,e2,c⟩,r⟩:=x
    exact ⟨ho _ d,z,ne,k _ _ (.inl rfl) e,mA,⟨od,es,ep,k _ _ (.inr d) e2,c⟩,r⟩
  | own y=>obtain ⟨ob,e⟩:=x; exact ⟨ob,k _ _ (.inl rfl) e⟩
  | xd fs=>obtain ⟨mA,⟨od,es,ep,e,c⟩,r⟩:=x; exact ⟨mA,⟨od,es,ep,k _ _ (.inl rfl) e,c⟩,r⟩
  | rng lo hi=>obtain ⟨t,u,v,e⟩:=x; exact ⟨t,u,v,k _ _ (.inl rfl) e⟩
  | frz ob u ih=>obtain ⟨e,q⟩:=x; exact ⟨k _ _ (.inl rfl) e,ih q⟩
  | tbl ps=>obtain ⟨ts,e,t,c⟩:=x; exact ⟨ts,k _ _ (.inl rfl) e,t,fun pos cv z=>let ⟨c,oc,vs,t,q,t0,z1,z2,z3⟩:=c pos cv z; ⟨c,oc,vs,t,q,t0,z1,ht _ _ z2,z3⟩⟩
  | met f y =>
    have e:h.get? a=some (PySem.W.methodObj (.ref f) (.ref y)):=x
    show h'.get? a=some (PySem.W.methodObj (.ref f) (.ref y))
    exact k a _ (.inl rfl) e
  | ext φ=>obtain ⟨p,⟨o,e⟩,st⟩:=x; exact ⟨st _ _ p fun o q=>k _ _ (.inl rfl) q,⟨o,k _ _ (.inl rfl) e⟩,st⟩
theorem HOk.lt (x:HOk P w H h) (e:H a=some o):a<h.objs.size:=(x a o e).lt
theorem HOk.fresh (x:HOk P w H h) (e:h.objs.size≤a):H a=none:=by
  cases q:H a with
  | none=>rfl
  | some u=>exact absurd (Nat.lt_of_lt_of_le (x.lt q) e) (Nat.lt_irrefl _)
theorem HOk.kept (x:HOk P w H h) (k:∀ b u,h.get? b=some u→h'.get? b=some u):HOk P w H h':=fun a o e =>
  (x a o e).stay (fun b u _ q=>k b u q) (fun _ q=>q) fun _ _ q=>q
theorem HOk.laid (x:HOk P w H h) (k:∀ b u,h.get? b=some u→h'.get? b=some u) (hp:h.objs.size≤a) (new:zbT P w (upd H a o) h' a o):HOk P w (upd H a o) h':=fun b u e=>by
  have hn:=x.fresh hp
  by_cases hb:b=a
  · subst hb; rw [zP] at e; cases e; exact new
  · rw [zaE hb] at e
    exact (x b u e).stay (fun c v _ q=>k c v q) (fun c q=>by rw [zaE (zbw q hn)]; exact q) fun c xs q=>by rw [zaE (zbw q hn)]; exact q
end
def Rd (H:Hp) (a:Addr) (u:HO):Prop:=H a=some u∨∃ o,H a=some (.frz o u)
theorem Rd.ok {P:Program} {w:World} {H:Hp} {h:Heap} {a:Addr} {u:HO} (r:Rd H a u) (x:HOk P w H h):zbT P w H h a u:=by
  rcases r with r | ⟨o,r⟩
  · exact x a u r
  · obtain ⟨_,q⟩:=x a _ r
    exact q
def Mut:Option HO→Prop
  | some (.lst _)=>True
  | some (.dK _)=>True
  | some (.dT _)=>True
  | some (.dE _ _)=>True
  | some (.set _ _)=>True
  | some (.ins _ _ _)=>True
  | some (.ext _)=>True
  | _=>False
section
variable {P:Program} {w:World} {H:Hp} {h h':Heap} {x e:Addr} {o':HO}
theorem HOk.write (ok:HOk P w H h) (mu:Mut (H x)) (he:e=x∨H e=some (.own x)) (k:∀ b u,b≠e→h.get? b=some u→h'.get? b=some u) (heo:∃ u,h'.get? e=some u)
    (new:zbT P w (upd H x o') h' x o'):HOk P w (upd H x o') h':=fun b u q=>by
  have nown:∀ c y,H c=some (.own y)→c≠x:=fun c y r z=>by subst z; rw [r] at mu; exact mu
  have ntup:∀ c xs,H c=some (zn5 xs)→c≠x:=fun c xs r z=>by subst z; rw [r] at mu; cases xs <;> exact mu
  by_cases hb:b=x
  · subst hb; rw [zP] at q; cases q; exact new
  · rw [zaE hb] at q
    by_cases hbe:b=e
    · have q':H b=some (.own x):=by
        rcases he with z | z
        · exact absurd (hbe.trans z) hb
        · rw [hbe]; exact z
      rw [q] at q'; cases q'
      obtain ⟨v,hv⟩:=heo
      exact ⟨v,by rw [hbe]; exact hv⟩
    · refine (ok b u q).stay (fun c v hc r=>k c v ?_ r) (fun c r=>by rw [zaE (nown c b r)]; exact r) fun c xs r=>by rw [zaE (ntup c xs r)]; exact r
      rcases hc with rfl | hc
      · exact hbe
      · rintro rfl
        rcases he with z | z
        · exact nown c b hc z
        · rw [hc] at z; cases z; exact hb rfl
end
structure Un (fs ex:List Addr) (H H':Hp) (h h':Heap):Prop where
  keep:∀ b o,h.get? b=some o→H b=none→b ∉ fs→b ∉ ex→h'.get? b=some o
  slot:∀ b o,h.get? b=some o→H b=none→b ∈ fs→b ∉ ex→∃ sl,h'.get? b=some { o with slots:=sl }
  free:∀ b o,h.get? b=some o→H b=none→b ∉ ex→H' b=none
  there:∀ b o,h.get? b=some o→b ∉ ex→∃ o',h'.get? b=some o'
  tups:∀ b xs,H b=some (.tup xs)→H' b=some (.tup xs)
  frzs:∀ b o u,H b=some (.frz o u)→H' b=some (.frz o u)
  tbls:∀ b ps,H b=some (.tbl ps)→∃ more,H' b=some (.tbl (ps ++ more))
section
variable {fs fs' ex ex':List Addr} {H H1 H2:Hp} {h h1 h2 h':Heap} {a x e:Addr} {o:HO}
theorem Un.any (u:Un fs ex H H1 h h1) {b:Addr} {ob:Obj} (q:h.get? b=some ob) (n:H b=none) (hx:b ∉ ex):∃ sl,h1.get? b=some { ob with slots:=sl }:=by
  by_cases hb:b ∈ fs
  · exact u.slot b ob q n hb hx
  · exact ⟨ob.slots,u.keep b ob q n hb hx⟩
theorem Un.kept (k:∀ b u,h.get? b=some u→h'.get? b=some u):Un fs ex H H h h' :=
  ⟨fun b ob q _ _ _=>k b ob q,fun b ob q _ _ _=>⟨ob.slots,k b ob q⟩,fun _ _ _ n _=>n,fun b ob q _=>⟨ob,k b ob q⟩,fun _ _ q=>q,fun _ _ _ q=>q,fun _ ps q=>⟨#[],by rw [q]; simp⟩⟩
theorem Un.refl:Un fs ex H H h h:=Un.kept fun _ _ q=>q
theorem Un.laid (k:∀ b u,h.get? b=some u→h'.get? b=some u) (hp:h.objs.size≤a) (hn:H a=none):Un fs ex H (upd H a o) h h' where
  keep:=fun b u q _ _ _=>k b u q
  slot:=fun b u q _ _ _=>⟨u.slots,k b u q⟩
  free:=fun b u q n _=>by rw [zaE (Nat.ne_of_lt (Nat.lt_of_lt_of_le (Heap.lt_size q) hp))]; exact n
  there:=fun b u q _=>⟨u,k b u q⟩
  tups:=fun b xs q=>by rw [zaE (zbw q hn)]; exact q
  frzs:=fun b u xs q=>by rw [zaE (zbw q hn)]; exact q
  tbls:=fun b ps q=>⟨#[],by rw [zaE (zbw q hn),q]; simp⟩
theorem Un.write (mu:Mut (H x)) (he:e=x∨H e=some (.own x)) (k:∀ b u,b≠e→h.get? b=some u→h'.get? b=some u) (heo:∃ u,h'.get? e=some u):Un fs ex H (upd H x o) h h':=by
  have hx:∀ b,H b=none→b≠x:=fun b n z=>by subst z; rw [n] at mu; exact mu
  have hb:∀ b,H b=none→b≠e:=fun b n z=>by
    subst z
    rcases he with r | r
    · exact hx b n r
    · rw [n] at r; cases r
  have hm:∀ b u,H b=some u→¬ Mut (some u)→b≠x:=fun b u q nm z=>by subst z; rw [q] at mu; exact nm mu
  refine ⟨fun b u q n _ _=>k b u (hb b n) q,fun b u q n _ _=>⟨u.slots,k b u (hb b n) q⟩,fun b u q n _=>by rw [zaE (hx b n)]; exact n,fun b u q _=>?_,
    fun b xs q=>by rw [zaE (hm b _ q fun z=>z)]; exact q,fun b u xs q=>by rw [zaE (hm b _ q fun z=>z)]; exact q,fun b ps q=>⟨#[],by rw [zaE (hm b _ q fun z=>z),q]; simp⟩⟩
  by_cases hbe:b=e
  · subst hbe; exact heo
  · exact ⟨u,k b u hbe q⟩
end
def zqK (g h:Heap) (L:Addr):List (Addr × Obj):=(List.range h.objs.size).filterMap fun a=>if a=L∨(g.get? a).isSome=true then none else (h.get? a).map fun o=>(a,o)
def ze3 (g h:Heap) (L d:Addr):List (Addr × Obj):=(zqK g h L).filter fun p=>decide (p.1≠d)
end L2
namespace L2
open PySem PySem.Spec PyProof.Rows
def zmM (q:Str):Obj:=⟨.str q 0,none,.freed,#[]⟩
def zkT (base:Heap) (H:Hp):Prop:=∀ P q,base.objs[P]?=some (zmM q)→∃ ps,H P=some (.tbl ps)∧ps[0]?=some (.str q 0)
theorem zkT.un {base:Heap} {H H':Hp} (t:zkT base H) (u:∀ b ps,H b=some (.tbl ps)→∃ more,H' b=some (.tbl (ps ++ more))):zkT base H':=fun P q e=>by
  obtain ⟨ps,e1,e2⟩:=t P q e; obtain ⟨more,e3⟩:=u P ps e1; refine ⟨_,e3,?_⟩
  rw [Array.getElem?_append_left (by rw [Array.getElem?_eq_some_iff] at e2; exact e2.1)]
  exact e2
def zti:Obj:=⟨.none,none,.freed,#[]⟩
def znq (o:Obj):Option HO→Obj
  | some (.tbl ps)=>match (ps[0]?:Option Value) with
    | some (.str q 0)=>zmM q
    | _=>zti
  | some _=>zti
  | none=>match o.data with
    | .freed=>zti
    | _=>o
def nrm (h:Heap) (H:Hp):Heap:=⟨h.objs.mapIdx fun a o=>znq o (H a),h.life⟩
theorem znp (h:Heap) (H:Hp):(nrm h H).objs.size=h.objs.size:=by unfold nrm; simp
theorem zlJ (h:Heap) (H:Hp) (b:Addr):(nrm h H).objs[b]?=(h.objs[b]?).map fun o=>znq o (H b):=by unfold nrm; simp
theorem zfR {h:Heap} {b:Addr} {o:Obj} (e:h.objs[b]?=some o) (n:o.data≠.freed):h.get? b=some o:=by
  unfold Heap.get?
  rw [e]; obtain ⟨c,d,dt,sl⟩:=o
  cases dt <;> first | rfl | exact absurd rfl n
theorem zfE {h:Heap} {b:Addr} {o:Obj} (e:h.get? b=some o):h.objs[b]?=some o∧o.data≠.freed:=by
  unfold Heap.get? at e
  cases q:h.objs[b]? with
  | none=>rw [q] at e; cases e
  | some u =>
    rw [q] at e; obtain ⟨c,d,dt,sl⟩:=u
    cases dt <;> first | (cases e; exact ⟨rfl,fun z=>nomatch z⟩) | cases e
theorem zp1 {h:Heap} {H:Hp} {b:Addr} {o:Obj} (e:h.get? b=some o) (n:H b=none):(nrm h H).get? b=some o:=by
  obtain ⟨e1,e2⟩:=zfE e; refine zfR ?_ e2; rw [zlJ,e1,n]
  show some (znq o none)=some o
  obtain ⟨c,d,dt,sl⟩:=o
  cases dt <;> first | rfl | exact absurd rfl e2
theorem zr6 {h:Heap} {H:Hp} {b:Addr} {o:Obj} (e:(nrm h H).get? b=some o):h.get? b=some o∧H b=none:=by
  obtain ⟨e1,e2⟩:=zfE e; rw [zlJ] at e1
  cases q:h.objs[b]? with
  | none=>rw [q] at e1; cases e1
  | some u =>
    rw [q] at e1
    have e3:znq u (H b)=o:=Option.some.inj e1
    cases z:H b with
    | some t =>
      rw [z] at e3
      exfalso
      unfold znq at e3; split at e3
      · split at e3 <;> exact e2 (by rw [← e3]; rfl)
      · exact e2 (by rw [← e3]; rfl)
      · rename_i y; cases y
    | none =>
      rw [z] at e3; refine ⟨?_,rfl⟩; obtain ⟨c,d,dt,sl⟩:=u; unfold znq at e3
      cases dt <;> first | (cases e3; exact zfR q fun y=>nomatch y) | exact absurd (show o.data=.freed by rw [← e3]; rfl) e2
theorem zno (h:Heap) (H:Hp):zkT (nrm h H) H:=fun P q e=>by
  rw [zlJ] at e
  cases z:h.objs[P]? with
  | none=>rw [z] at e; cases e
  | some u =>
    rw [z] at e
    have e3:znq u (H P)=zmM q:=Option.some.inj e
    cases y:H P with
    | none =>
      rw [y] at e3
      exfalso
      obtain ⟨c,d,dt,sl⟩:=u; unfold znq zmM zti at e3
      cases dt <;> cases e3
    | some t =>
      rw [y] at e3; unfold znq at e3; split at e3
      · rename_i ps hps
        cases hps; split at e3
        · rename_i q' hq
          cases e3; exact ⟨_,rfl,hq⟩
        · cases e3
      · cases e3
      · rename_i hh; cases hh
structure Mod (K:PySem.W.Frag) (mg:Str→Option Value) (base:Heap):Prop where
  kin:K.In base
  glob:base.Ns mainGlobals mg
  blt:∃ mb,base.Ns builtinsNs mb∧∀ x:Str,x≠"__name__"→mb x=bootBuiltins x
  nolimit:base.NoLimit
  bm:∃ bm ob,mg "__builtins__"=some (.ref bm)∧bm≠builtinsNs∧base.get? bm=some ob∧ob.cls=.type "module"∧ob.dict=some builtinsNs∧ob.data=.plain
/-- the context: a def's body (or a comprehension's block) running. base: fixed through the whole law; s₀, H₀: the entry; outer: the frames whose slots others may change (a def's callers); stack: all frames that run;
   ex: iterators that were made ahead of the entry and are walked here (a comprehension's); fn: the names whose cells were made at the entry (a def: all; a comprehension's block: its own); calm: not within an except suite; pn: pins that every state bears; xe: what is wanted of an exception that leaves the code -/
structure Cx where
  prog:Program
  w:World
  K:PySem.W.Frag
  mg:Str→Option Value
  base:Heap
  A:Around
  N:List Str
  s₀:Shared
  H₀:Hp
  env:Env
  outer:List Env
  stack:List Env
  ex:List Addr
  fn:Str→Bool
  calm:Bool
  pn:List (Addr × Obj)
  xe:Value→Shared→Prop
def frs (l:List Env):List Addr:=l.filterMap (·.frame)
abbrev Cx.fs (X:Cx):List Addr:=frs X.outer
def Vis (sc:Scope) (x:Str):Prop:=sc.names.lookup x=some .local∨sc.names.lookup x=some .cell∨sc.names.lookup x=some .free
def Loc (sc:Scope) (x:Str):Prop:=sc.names.lookup x=some .local∨sc.names.lookup x=some .cell
def zvS (env:Env) (h:Heap) (m:Str→Option Value) (x:Str) (u:Value):Prop :=
  (env.kindOf x=some .local∧m x=some u)∨((env.kindOf x=some .cell∨env.kindOf x=some .free)∧∃ c,env.cells.lookup x=some c∧h.IsCell c (some u))
structure Cx.Ok (X:Cx):Prop where
  mod:Mod X.K X.mg X.base
  kind:X.env.scope.kind=.function
  glob:X.env.globals=mainGlobals
  blt:X.env.builtins=builtinsNs
  above:X.s₀.heap.objs.size≤X.env.locals
  inj:∀ x y c,X.env.cells.lookup x=some c→X.env.cells.lookup y=some c→x=y
  has:∀ x,(X.env.kindOf x=some .cell∨X.env.kindOf x=some .free)→∃ c,X.env.cells.lookup x=some c
  cab:∀ x c,X.fn x=true→X.env.cells.lookup x=some c→X.s₀.heap.objs.size≤c
  hd:X.calm=true→X.A.handled=none
  frames:X.A.frames=some X.stack
  stk:X.stack=X.outer∨(X.stack=X.env :: X.outer∧X.env.frame=some X.env.locals)
  exf:∀ b ∈ X.ex,b≠X.env.locals∧∀ x c,X.env.cells.lookup x=some c→c≠b
  bs:∀ b o,X.base.get? b=some o→X.s₀.heap.get? b=some o∧X.H₀ b=none
  bsz:X.base.objs.size≤X.s₀.heap.objs.size
  noex:∀ b o,X.base.get? b=some o→b ∉ X.ex
  exfs:∀ b ∈ X.ex,b ∉ X.fs
  funs:X.s₀.heap.FunFrames X.base X.outer
  frf:∀ b ∈ X.fs,X.H₀ b=none
  tab:zkT X.base X.H₀
structure Inv (X:Cx) (pins:List (Addr × Obj)) (σ:List (Option V)) (H:Hp) (s:Shared):Prop where
  ok:X.Ok
  os:s.os=X.s₀.os
  bare:AllBare s.gens
  base:Un X.fs X.ex X.H₀ H X.s₀.heap s.heap
  loc:∃ m,s.heap.Ns X.env.locals m∧∀ (i:Nat) (x:Str) (v:V),X.N[i]?=some x→σ[i]?=some (some v)→Vis X.env.scope x→∃ u,zby v u∧zvS X.env s.heap m x u
  cell:∀ x c,X.env.cells.lookup x=some c→∃ v,s.heap.IsCell c v
  free:H X.env.locals=none
  freeC:∀ x c,X.env.cells.lookup x=some c→H c=none
  pin:∀ p ∈ X.pn ++ pins,s.heap.get? p.1=some p.2∧H p.1=none∧p.1≠X.env.locals∧p.1 ∉ X.fs∧∀ v,p.2.data≠.cell v
  hok:HOk X.prog X.w H s.heap
  len:σ.length=X.N.length
section
variable {X:Cx} {pins:List (Addr × Obj)} {σ:List (Option V)} {H H':Hp} {s:Shared} {h':Heap}
theorem Cx.Ok.nofr (ok:X.Ok) {b:Addr} {o:Obj} (e:X.base.get? b=some o):b ∉ X.fs:=fun hb=>by
  have:=(ok.funs.mem hb).1
  rw [e] at this; cases this
theorem Inv.bs (I:Inv X pins σ H s):∀ b o,X.base.get? b=some o→s.heap.get? b=some o∧H b=none:=fun b o e =>
  ⟨I.base.keep b o (I.ok.bs b o e).1 (I.ok.bs b o e).2 (I.ok.nofr e) (I.ok.noex b o e),I.base.free b o (I.ok.bs b o e).1 (I.ok.bs b o e).2 (I.ok.noex b o e)⟩
theorem Inv.bk (I:Inv X pins σ H s):∀ b o,X.base.get? b=some o→s.heap.get? b=some o:=fun b o e=>(I.bs b o e).1
theorem Inv.mod (I:Inv X pins σ H s):Mod X.K X.mg X.base:=I.ok.mod
theorem Inv.kIn (I:Inv X pins σ H s):X.K.In s.heap:=I.ok.mod.kin.keeps I.bk
theorem Inv.lt (I:Inv X pins σ H s):X.env.locals<s.heap.objs.size:=let ⟨_,hn,_⟩:=I.loc; hn.lt
theorem Inv.sz (I:Inv X pins σ H s):X.s₀.heap.objs.size≤s.heap.objs.size:=Nat.le_trans I.ok.above (Nat.le_of_lt I.lt)
theorem Inv.nofs (I:Inv X pins σ H s) {a:Addr} (h:s.heap.objs.size≤a):a ∉ X.fs:=fun hb=>by
  obtain ⟨_,o,ho,_⟩:=I.ok.funs.mem hb; exact absurd (Nat.lt_of_lt_of_le (Heap.lt_size ho) (Nat.le_trans I.sz h)) (Nat.lt_irrefl _)
theorem Inv.cne (I:Inv X pins σ H s):∀ x c,X.env.cells.lookup x=some c→c≠X.env.locals:=fun x c e z=>by
  obtain ⟨v,o,ho,hd⟩:=I.cell x c e
  obtain ⟨m,⟨o',es,ep,ho',hd',_⟩,_⟩:=I.loc
  rw [z,ho'] at ho; cases ho; rw [hd'] at hd; cases hd
theorem Inv.funs (I:Inv X pins σ H s):s.heap.FunFrames X.base X.outer:=by
  have all:∀ (l:List Env),(∀ b ∈ frs l,b ∈ X.fs)→X.s₀.heap.FunFrames X.base l→s.heap.FunFrames X.base l:=by
    intro l
    induction l with
    | nil=>intro _ _; trivial
    | cons env r ih =>
      intro hs hl
      obtain ⟨hk,⟨L,o,hf,hn,ho,hd⟩,hr⟩:=hl
      have hL:L ∈ X.fs:=hs L (by unfold frs; rw [List.filterMap_cons,hf]; exact List.mem_cons_self)
      obtain ⟨sl,e⟩:=I.base.slot L o ho (I.ok.frf L hL) hL fun z=>I.ok.exfs L z hL
      exact ⟨hk,⟨L,_,hf,hn,e,hd⟩,ih (fun b hb=>hs b (by unfold frs; rw [List.filterMap_cons,hf]; exact List.mem_cons_of_mem _ hb)) hr⟩
  exact all X.outer (fun _ hb=>hb) I.ok.funs
theorem Inv.stack (I:Inv X pins σ H s):s.heap.FunFrames X.base X.stack:=by
  rcases I.ok.stk with e | ⟨e,hf⟩
  · rw [e]; exact I.funs
  · rw [e]
    obtain ⟨m,hn,_⟩:=I.loc
    refine .cons (by rw [I.ok.kind]; decide) hf hn ?_ I.funs
    exact Heap.get?_none_of_le (Nat.le_trans I.ok.bsz I.ok.above)
theorem Inv.stkSub (I:Inv X pins σ H s):∀ b ∈ frs X.stack,b ∈ X.env.locals :: X.fs:=fun b hb=>by
  rcases I.ok.stk with e | ⟨e,hf⟩
  · rw [e] at hb; exact List.mem_cons_of_mem _ hb
  · rw [e] at hb
    unfold frs at hb; rw [List.filterMap_cons,hf] at hb; exact hb
theorem Inv.stkFree (I:Inv X pins σ H s):∀ b ∈ frs X.stack,H b=none:=fun b hb=>by
  rcases List.mem_cons.mp (I.stkSub b hb) with e | hb
  · rw [e]; exact I.free
  · obtain ⟨_,o,ho,_⟩:=I.ok.funs.mem hb
    exact I.base.free b o ho (I.ok.frf b hb) fun z=>I.ok.exfs b z hb
theorem Inv.step {g':Array GenState} {t':Nat} {d':Drawn} {ch:List Addr} (I:Inv X pins σ H s)
    (hch:∀ b ∈ ch,(b ∈ X.ex∨X.s₀.heap.objs.size≤b)∧b≠X.env.locals∧(∀ x c,X.env.cells.lookup x=some c→c≠b)∧∀ p ∈ X.pn ++ pins,p.1≠b)
    (keep:∀ b o,b≠X.env.locals→b ∉ X.fs→b ∉ ch→s.heap.get? b=some o→H b=none→h'.get? b=some o)
    (slot:∀ b o,b≠X.env.locals→b ∈ X.fs→b ∉ ch→s.heap.get? b=some o→H b=none→∃ sl,h'.get? b=some { o with slots:=sl }) (free:∀ b o,b ∉ ch→s.heap.get? b=some o→H b=none→H' b=none)
    (there:∀ b o,b ∉ ch→s.heap.get? b=some o→∃ o',h'.get? b=some o')
    (tups:∀ b xs,H b=some (.tup xs)→H' b=some (.tup xs)) (frzs:∀ b o u,H b=some (.frz o u)→H' b=some (.frz o u)) (tbls:∀ b ps,H b=some (.tbl ps)→∃ more,H' b=some (.tbl (ps ++ more)))
    (ns:∀ m,s.heap.Ns X.env.locals m→h'.Ns X.env.locals m) (hok:HOk X.prog X.w H' h') (hg:AllBare g') :
    Inv X pins σ H' { s with heap:=h',gens:=g',drawn:=d',toks:=t' }:=by
  have neL:∀ b o,X.s₀.heap.get? b=some o→b≠X.env.locals:=fun b o e=>Nat.ne_of_lt (Nat.lt_of_lt_of_le (Heap.lt_size e) I.ok.above)
  have neC:∀ b o,X.s₀.heap.get? b=some o→b ∉ X.ex→b ∉ ch:=fun b o e hx hb=>by
    rcases (hch b hb).1 with z | z
    · exact hx z
    · exact absurd (Nat.lt_of_lt_of_le (Heap.lt_size e) z) (Nat.lt_irrefl _)
  have cellK:∀ x c,X.env.cells.lookup x=some c→∀ v,s.heap.IsCell c v→h'.IsCell c v:=fun x c e v ⟨o,ho,hd⟩=>by
    have nch:c ∉ ch:=fun z=>(hch c z).2.2.1 x c e rfl
    by_cases hc:c ∈ X.fs
    · obtain ⟨sl,q⟩:=slot c o (I.cne x c e) hc nch ho (I.freeC x c e)
      exact ⟨_,q,hd⟩
    · exact ⟨o,keep c o (I.cne x c e) hc nch ho (I.freeC x c e),hd⟩
  refine ⟨I.ok,I.os,hg,⟨fun b o e n hb hx=>?_,fun b o e n hb hx=>?_,fun b o e n hx=>?_,fun b o e hx=>?_,fun b xs e=>tups b xs (I.base.tups b xs e),fun b o xs e=>frzs b o xs (I.base.frzs b o xs e),fun b ps e=>?_⟩,?_,fun x c e=>?_,?_,fun x c e=>?_,fun p hp=>?_,hok,I.len⟩
  · exact keep b o (neL b o e) hb (neC b o e hx) (I.base.keep b o e n hb hx) (I.base.free b o e n hx)
  · obtain ⟨sl,e1⟩:=I.base.slot b o e n hb hx
    obtain ⟨sl',e2⟩:=slot b _ (neL b o e) hb (neC b o e hx) e1 (I.base.free b o e n hx); exact ⟨sl',e2⟩
  · obtain ⟨o',e1⟩:=I.base.there b o e hx
    exact free b o' (neC b o e hx) e1 (I.base.free b o e n hx)
  · obtain ⟨o',e1⟩:=I.base.there b o e hx
    exact there b o' (neC b o e hx) e1
  · obtain ⟨m1,e1⟩:=I.base.tbls b ps e
    obtain ⟨m2,e2⟩:=tbls b _ e1
    exact ⟨m1 ++ m2,by rw [e2,Array.append_assoc]⟩
  · obtain ⟨m,hn,hl⟩:=I.loc
    refine ⟨m,ns m hn,fun i x v e1 e2 e3=>?_⟩
    obtain ⟨u,r,l⟩:=hl i x v e1 e2 e3; refine ⟨u,r,?_⟩
    rcases l with l | ⟨k,c,e,z⟩
    · exact .inl l
    · exact .inr ⟨k,c,e,cellK x c e _ z⟩
  · obtain ⟨v,z⟩:=I.cell x c e
    exact ⟨v,cellK x c e v z⟩
  · obtain ⟨m,⟨o,_,_,ho,_⟩,_⟩:=I.loc
    exact free _ o (fun z=>(hch _ z).2.1 rfl) ho I.free
  · obtain ⟨v,o,ho,hd⟩:=I.cell x c e
    exact free c o (fun z=>(hch c z).2.2.1 x c e rfl) ho (I.freeC x c e)
  · obtain ⟨e,n,ne,nf,d⟩:=I.pin p hp
    have nch:p.1 ∉ ch:=fun z=>(hch p.1 z).2.2.2 p hp rfl
    exact ⟨keep p.1 p.2 ne nf nch e n,free p.1 p.2 nch e n,ne,nf,d⟩
theorem Inv.un {t':Nat} (I:Inv X pins σ H s) (u:Un X.fs [] H H' s.heap h') (hok:HOk X.prog X.w H' h'):Inv X pins σ H' { s with heap:=h',toks:=t' }:=by
  obtain ⟨m,⟨o,es,ep,ho,r⟩,_⟩:=id I.loc
  obtain ⟨sl,hL⟩:=u.any ho I.free (by simp)
  exact I.step (g':=s.gens) (d':=s.drawn) (ch:=[]) (fun _ z=>nomatch z) (fun b o _ hb _ e n=>u.keep b o e n hb (by simp)) (fun b o _ hb _ e n=>u.slot b o e n hb (by simp)) (fun b o _ e n=>u.free b o e n (by simp)) (fun b o _ e=>u.there b o e (by simp)) u.tups u.frzs u.tbls (fun m' hm=>by
    obtain ⟨o',es',ep',ho',r'⟩:=hm
    rw [ho] at ho'; cases ho'
    exact ⟨_,es',ep',hL,r'⟩) hok I.bare
theorem Inv.call {g':Array GenState} {t':Nat} {d':Drawn} {ch:List Addr} (I:Inv X pins σ H s) (u:Un (frs X.stack) ch H H' s.heap h') (hok:HOk X.prog X.w H' h') (hg:AllBare g')
    (hch:∀ b ∈ ch,(b ∈ X.ex∨X.s₀.heap.objs.size≤b)∧b≠X.env.locals∧(∀ x c,X.env.cells.lookup x=some c→c≠b)∧∀ p ∈ X.pn ++ pins,p.1≠b) :
    Inv X pins σ H' { s with heap:=h',gens:=g',drawn:=d',toks:=t' }:=by
  obtain ⟨m,⟨o,es,ep,ho,r⟩,_⟩:=id I.loc
  obtain ⟨sl,hL⟩:=u.any ho I.free fun z=>(hch _ z).2.1 rfl
  exact I.step (ch:=ch) hch (fun b o hL hb hc e n=>u.keep b o e n (fun z=>(List.mem_cons.mp (I.stkSub b z)).elim hL hb) hc) (fun b o _ _ hc e n=>u.any e n hc) (fun b o hc e n=>u.free b o e n hc) (fun b o hc e=>u.there b o e hc) u.tups u.frzs u.tbls (fun m' hm=>by
    obtain ⟨o',es',ep',ho',r'⟩:=hm
    rw [ho] at ho'; cases ho'
    exact ⟨_,es',ep',hL,r'⟩) hok hg
theorem Inv.turned {t':Nat} {it:Addr} (I:Inv X pins σ H s) (k:∀ b o,b≠it→s.heap.get? b=some o→h'.get? b=some o) (hn:H it=none) (hL:it≠X.env.locals)
    (h1:it ∈ X.ex∨X.s₀.heap.objs.size≤it) (h2:∀ x c,X.env.cells.lookup x=some c→c≠it) (h3:∀ p ∈ X.pn ++ pins,p.1≠it):Inv X pins σ H { s with heap:=h',toks:=t' }:=by
  have nit:∀ b u,H b=some u→b≠it:=fun b u e z=>by rw [z,hn] at e; cases e
  refine I.step (g':=s.gens) (d':=s.drawn) (ch:=[it]) (fun b hb=>?_) (fun b o _ _ hc e _=>k b o (fun z=>hc (by simp [z])) e) (fun b o _ _ hc e _=>⟨o.slots,k b o (fun z=>hc (by simp [z])) e⟩) (fun _ _ _ _ n=>n)
    (fun b o hc e=>⟨o,k b o (fun z=>hc (by simp [z])) e⟩) (fun _ _ e=>e) (fun _ _ _ e=>e) (fun b ps e=>⟨#[],by rw [e]; simp⟩) (fun m hm=>?_) (fun b u e=>?_) I.bare
  · have e:b=it:=by simpa using hb
    subst e; exact ⟨h1,hL,h2,h3⟩
  · obtain ⟨o,es,ep,ho,r⟩:=hm
    exact ⟨o,es,ep,k _ o (Ne.symm hL) ho,r⟩
  · refine (I.hok b u e).stay (fun c v hc q=>k c v ?_ q) (fun _ q=>q) fun _ _ q=>q
    rcases hc with z | z
    · rw [z]; exact nit b u e
    · exact nit c _ z
theorem Inv.tok (I:Inv X pins σ H s) (t:Nat):Inv X pins σ H { s with toks:=t }:=I.un (h':=s.heap) (t':=t) Un.refl I.hok
theorem Inv.kept {t':Nat} (I:Inv X pins σ H s) (k:∀ b u,s.heap.get? b=some u→h'.get? b=some u):Inv X pins σ H { s with heap:=h',toks:=t' }:=I.un (Un.kept k) (I.hok.kept k)
theorem Inv.laid {a:Addr} {o:HO} {t':Nat} (I:Inv X pins σ H s) (k:∀ b u,s.heap.get? b=some u→h'.get? b=some u) (hp:s.heap.objs.size≤a) (new:zbT X.prog X.w (upd H a o) h' a o) :
    Inv X pins σ (upd H a o) { s with heap:=h',toks:=t' }:=I.un (Un.laid k hp (I.hok.fresh hp)) (I.hok.laid k hp new)
theorem Inv.write {x e:Addr} {o:HO} {t':Nat} (I:Inv X pins σ H s) (mu:Mut (H x)) (he:e=x∨H e=some (.own x)) (k:∀ b u,b≠e→s.heap.get? b=some u→h'.get? b=some u) (heo:∃ u,h'.get? e=some u)
    (new:zbT X.prog X.w (upd H x o) h' x o):Inv X pins σ (upd H x o) { s with heap:=h',toks:=t' }:=I.un (Un.write mu he k heo) (I.hok.write mu he k heo new)
theorem Inv.pins_of {pins':List (Addr × Obj)} (I:Inv X pins σ H s) (h:∀ p ∈ pins',s.heap.get? p.1=some p.2∧H p.1=none∧p.1≠X.env.locals∧p.1 ∉ X.fs∧∀ v,p.2.data≠.cell v):Inv X pins' σ H s :=
  ⟨I.ok,I.os,I.bare,I.base,I.loc,I.cell,I.free,I.freeC,fun p hp=>(List.mem_append.mp hp).elim (fun z=>I.pin p (List.mem_append_left _ z)) (h p),I.hok,I.len⟩
theorem zjL {N:List Str} (hN:N.Nodup) {i j:Nat} {x:Str} (a:N[i]?=some x) (b:N[j]?=some x):i=j:=by
  obtain ⟨h1,e1⟩:=List.getElem?_eq_some_iff.mp a; obtain ⟨h2,e2⟩:=List.getElem?_eq_some_iff.mp b; exact (List.getElem_inj hN).mp (e1.trans e2.symm)
theorem zho {M:Model} {A:Around} {E:Value→Shared→Prop} {i:Nat} {x:Str} {v:V} {u:Value} {Q:Unit→Shared→Prop} (I:Inv X pins σ H s) (hN:X.N.Nodup) (hi:X.N[i]?=some x) (hx:Loc X.env.scope x) (r:zby v u)
    (h:∀ s',Inv X pins (σ.set i (some v)) H s'→(∃ a,Heap.SameBut a s.heap s'.heap∧(a=X.env.locals∨X.env.cells.lookup x=some a))→Q () s') (hf:X.fn x=true∨X.env.scope.names.lookup x=some .local:=by first | exact .inl rfl | exact .inr rfl | assumption):wpAny M A (storeName X.env x u) Q E s:=by
  obtain ⟨m,hn,hl⟩:=id I.loc
  have hcls:(X.env.scope.kind == .class || (X.env.scope.kind == .module && X.env.locals != X.env.globals))=false:=by rw [I.ok.kind]; rfl
  have hiσ:i<σ.length:=by rw [I.len]; exact (List.getElem?_eq_some_iff.mp hi).1
  have cne:=I.cne
  have tracked:∀ {a:Addr} {h':Heap},(∃ o,s.heap.get? a=some o∧H a=none)→Heap.SameBut a s.heap h'→HOk X.prog X.w H h':=fun {a h'} ha hs b ob e=>by
    obtain ⟨_,_,hfree⟩:=ha
    refine (I.hok b ob e).stay (fun c w' hc q=>(hs.2 c ?_).trans q) (fun _ q=>q) fun _ _ q=>q
    rintro rfl
    rcases hc with rfl | hc
    · rw [hfree] at e; cases e
    · rw [hfree] at hc; cases hc
  rcases hx with hk | hk
  · refine wpAny_storeName_local hk hn (fun h' hn' hs=>?_) hcls
    obtain ⟨oL,_,_,hoL,_⟩:=id hn
    refine h _ ⟨I.ok,I.os,I.bare,⟨fun b o e n hb hx=>?_,fun b o e n hb hx=>?_,I.base.free,fun b o e hx=>?_,I.base.tups,I.base.frzs,I.base.tbls⟩,⟨_,hn',fun j y v' e1 e2 e3=>?_⟩,fun y c e=>?_,I.free,I.freeC,fun p hp=>?_,tracked ⟨oL,hoL,I.free⟩ hs,by simpa using I.len⟩ ⟨_,hs,.inl rfl⟩
    · exact (hs.2 b (Nat.ne_of_lt (Nat.lt_of_lt_of_le (Heap.lt_size e) I.ok.above))).trans (I.base.keep b o e n hb hx)
    · obtain ⟨sl,e1⟩:=I.base.slot b o e n hb hx
      exact ⟨sl,(hs.2 b (Nat.ne_of_lt (Nat.lt_of_lt_of_le (Heap.lt_size e) I.ok.above))).trans e1⟩
    · obtain ⟨o',e1⟩:=I.base.there b o e hx
      exact ⟨o',(hs.2 b (Nat.ne_of_lt (Nat.lt_of_lt_of_le (Heap.lt_size e) I.ok.above))).trans e1⟩
    · by_cases hj:j=i
      · subst hj
        rw [hi] at e1; cases e1
        rw [List.getElem?_set_self hiσ] at e2; cases e2
        exact ⟨u,r,.inl ⟨hk,by simp⟩⟩
      · rw [List.getElem?_set_ne (Ne.symm hj)] at e2
        obtain ⟨u',r',q⟩:=hl j y v' e1 e2 e3; refine ⟨u',r',?_⟩
        rcases q with ⟨k,e⟩ | ⟨k,c,e,z⟩
        · refine .inl ⟨k,?_⟩
          have:y≠x:=fun e=>hj (zjL hN e1 (e ▸ hi))
          simp [this,e]
        · exact .inr ⟨k,c,e,z.sameBut hs (cne y c e)⟩
    · obtain ⟨w',z⟩:=I.cell y c e
      exact ⟨w',z.sameBut hs (cne y c e)⟩
    · obtain ⟨e,n,ne,nf,d⟩:=I.pin p hp
      exact ⟨(hs.2 p.1 ne).trans e,n,ne,nf,d⟩
  · have hfn:X.fn x=true:=by
      rcases hf with z | z
      · exact z
      · rw [z] at hk; cases hk
    obtain ⟨c,hc⟩:=I.ok.has x (.inl hk); obtain ⟨w',z⟩:=I.cell x c hc
    refine wpAny_storeName_cell I.ok.kind hk hc z (fun h' hc' hs=>?_)
    obtain ⟨oc,hoc,hocd⟩:=id z
    refine h { s with heap:=h' } ⟨I.ok,I.os,I.bare,⟨fun b o e n hb hx=>?_,fun b o e n hb hx=>?_,I.base.free,fun b o e hx=>?_,I.base.tups,I.base.frzs,I.base.tbls⟩,⟨m,hn.sameBut hs (Ne.symm (cne x c hc)),fun j y v' e1 e2 e3=>?_⟩,fun y c' e=>?_,I.free,I.freeC,fun p hp=>?_,tracked ⟨oc,hoc,I.freeC x c hc⟩ hs,by simpa using I.len⟩ ⟨c,hs,.inr hc⟩
    · exact (hs.2 b (Nat.ne_of_lt (Nat.lt_of_lt_of_le (Heap.lt_size e) (I.ok.cab x c hfn hc)))).trans (I.base.keep b o e n hb hx)
    · obtain ⟨sl,e1⟩:=I.base.slot b o e n hb hx
      exact ⟨sl,(hs.2 b (Nat.ne_of_lt (Nat.lt_of_lt_of_le (Heap.lt_size e) (I.ok.cab x c hfn hc)))).trans e1⟩
    · obtain ⟨o',e1⟩:=I.base.there b o e hx
      exact ⟨o',(hs.2 b (Nat.ne_of_lt (Nat.lt_of_lt_of_le (Heap.lt_size e) (I.ok.cab x c hfn hc)))).trans e1⟩
    · by_cases hj:j=i
      · subst hj
        rw [hi] at e1; cases e1
        rw [List.getElem?_set_self hiσ] at e2; cases e2; exact ⟨u,r,.inr ⟨.inl hk,c,hc,hc'⟩⟩
      · rw [List.getElem?_set_ne (Ne.symm hj)] at e2
        obtain ⟨u',r',q⟩:=hl j y v' e1 e2 e3; refine ⟨u',r',?_⟩
        rcases q with q | ⟨k,c',e,z'⟩
        · exact .inl q
        · refine .inr ⟨k,c',e,z'.sameBut hs ?_⟩
          rintro rfl
          exact hj (zjL hN e1 (I.ok.inj _ _ _ e hc ▸ hi))
    · by_cases hcc:c'=c
      · subst hcc; exact ⟨_,hc'⟩
      · obtain ⟨w2,z2⟩:=I.cell y c' e
        exact ⟨w2,z2.sameBut hs hcc⟩
    · obtain ⟨e,n,ne,nf,d⟩:=I.pin p hp
      refine ⟨(hs.2 p.1 ?_).trans e,n,ne,nf,d⟩; intro q; rw [q,hoc] at e
      have q':oc=p.2:=Option.some.inj e
      exact d w' (by rw [← q']; exact hocd)
theorem zjw {M:Model} {A:Around} {E:Value→Shared→Prop} {i:Nat} {x:Str} {v:V} {u:Value} {Q:Unit→Shared→Prop} (I:Inv X pins σ H s) (hN:X.N.Nodup) (hi:X.N[i]?=some x) (hx:Loc X.env.scope x) (r:zby v u)
    (h:∀ s',Inv X pins (σ.set i (some v)) H s'→Q () s') (hf:X.fn x=true∨X.env.scope.names.lookup x=some .local:=by first | exact .inl rfl | exact .inr rfl | assumption):wpAny M A (storeName X.env x u) Q E s :=
  zho I hN hi hx r (fun s' I' _=>h s' I') hf
theorem Inv.call' {s':Shared} {ch:List Addr} (I:Inv X pins σ H s) (ho:s'.os=s.os) (u:Un (frs X.stack) ch H H' s.heap s'.heap) (hok:HOk X.prog X.w H' s'.heap) (hg:AllBare s'.gens)
    (hch:∀ b ∈ ch,(b ∈ X.ex∨X.s₀.heap.objs.size≤b)∧b≠X.env.locals∧(∀ x c,X.env.cells.lookup x=some c→c≠b)∧∀ p ∈ X.pn ++ pins,p.1≠b):Inv X pins σ H' s':=by
  obtain ⟨h',g',d',t',o'⟩:=s'
  have e:o'=s.os:=ho
  subst e; exact I.call (g':=g') (t':=t') (d':=d') u hok hg hch
end
abbrev XK:=Value→Option Addr→Hp→Prop
abbrev St:=List (Option V)
abbrev VK:=V→Hp→Prop
abbrev TE:=St→Hp→VK→Prop
abbrev TT:=St→Hp→(Bool→Hp→Prop)→Prop
abbrev TA:=St→Hp→(List V→Hp→Prop)→Prop
structure Ends where
  nx:St→Hp→Prop
  rt:VK
  bk:St→Hp→Prop:=fun _ _=>False
  ct:St→Hp→Prop:=fun _ _=>False
abbrev TS:=Ends→St→Hp→Prop
def EP (X:Cx) (pins:List (Addr × Obj)) (σ:St) (Q:VK) (u:Value) (s':Shared):Prop:=∃ v H',Inv X pins σ H' s'∧zby v u∧Q v H'
def TP (X:Cx) (pins:List (Addr × Obj)) (σ:St) (Q:Bool→Hp→Prop) (b:Bool) (s':Shared):Prop:=∃ H',Inv X pins σ H' s'∧Q b H'
def AP (X:Cx) (pins:List (Addr × Obj)) (σ:St) (Q:List V→Hp→Prop) (us:List Value) (s':Shared):Prop:=∃ vs H',Inv X pins σ H' s'∧za5 vs us∧Q vs H'
def SP (X:Cx) (pins:List (Addr × Obj)) (D:Ends) (f:Flow) (s':Shared):Prop :=
  match f with
  | .next=>∃ σ' H',Inv X pins σ' H' s'∧D.nx σ' H'
  | .brk=>∃ σ' H',Inv X pins σ' H' s'∧D.bk σ' H'
  | .cont=>∃ σ' H',Inv X pins σ' H' s'∧D.ct σ' H'
  | .ret u=>∃ v σ' H',Inv X pins σ' H' s'∧zby v u∧D.rt v H'
def PE (X:Cx) (e:Expr) (t:TE):Prop :=
  ∀ (pins:List (Addr × Obj)) (s:Shared) (σ:St) (H:Hp) (Q:VK),Inv X pins σ H s→t σ H Q→wpAny (model X.prog X.w) X.A (eval e X.env) (EP X pins σ Q) X.xe s
def PT (X:Cx) (e:Expr) (t:TT):Prop :=
  ∀ (pins:List (Addr × Obj)) (s:Shared) (σ:St) (H:Hp) (Q:Bool→Hp→Prop),Inv X pins σ H s→t σ H Q→wpAny (model X.prog X.w) X.A (isTrue e X.env (eval e X.env)) (TP X pins σ Q) X.xe s
def PW (X:Cx) (e:Expr) (t:TT):Prop :=
  ∀ (whole:Sem Value) (pins:List (Addr × Obj)) (s:Shared) (σ:St) (H:Hp) (Q:Bool→Hp→Prop),Inv X pins σ H s→t σ H Q→wpAny (model X.prog X.w) X.A (isTrue e X.env whole) (TP X pins σ Q) X.xe s
def PA (X:Cx) (es:List Expr) (t:TA):Prop :=
  ∀ (pos:Pos) (pins:List (Addr × Obj)) (s:Shared) (σ:St) (H:Hp) (Q:List V→Hp→Prop),Inv X pins σ H s→t σ H Q→wpAny (model X.prog X.w) X.A (spliced (backTo pos (starEach es X.env))) (AP X pins σ Q) X.xe s
def PS (X:Cx) (st:Stmt) (t:TS):Prop :=
  ∀ (pins:List (Addr × Obj)) (s:Shared) (σ:St) (H:Hp) (D:Ends),Inv X pins σ H s→t D σ H→wpAny (model X.prog X.w) X.A (exec st X.env) (SP X pins D) X.xe s
def PSs (X:Cx) (st:List Stmt) (t:TS):Prop :=
  ∀ (pins:List (Addr × Obj)) (s:Shared) (σ:St) (H:Hp) (D:Ends),Inv X pins σ H s→t D σ H→wpAny (model X.prog X.w) X.A (execs st X.env) (SP X pins D) X.xe s
theorem thn {α:Type} {t:Sem α} {Q Q':α→Shared→Prop} {M:Model} {A:Around} {E:Value→Shared→Prop} {s:Shared} (h:wpAny M A t Q E s) (hQ:∀ a s,Q a s→Q' a s):wpAny M A t Q' E s:=wpAny_mono h hQ fun _ _ x=>x
end L2
namespace L2
open PySem PySem.Spec PyProof.Rows
section
variable {X:Cx}
def zuS (i:Nat):TE:=fun σ H Q=>∃ v,σ[i]?=some (some v)∧Q v H
def tC (v:V):TE:=fun _ H Q=>Q v H
theorem zcS {i:Nat} {x:Str} {pos:Pos} (hN:X.N[i]?=some x) (hv:Vis X.env.scope x) (hd:(x == ("__debug__":Str))=false:=by decide) (hcd:(x == ("__classdict__":Str))=false:=by decide):PE X (.Name x pos) (zuS i):=by
  intro pins s σ H Q I h; obtain ⟨v,e,h⟩:=h; obtain ⟨m,hn,hl⟩:=I.loc; obtain ⟨u,r,l⟩:=hl i x v hN e hv
  have fin:EP X pins σ Q u s:=⟨v,H,I,r,h⟩
  rcases l with ⟨hk,hm⟩ | ⟨hk,c,hc,hcell⟩
  · exact wpAny_Name (wpAny_loadName_local I.ok.kind hk hn hm fin) hd
  · rcases hk with hk | hk
    · exact wpAny_Name (wpAny_loadName_cell I.ok.kind hk hc hcell fin) hd
    · exact wpAny_Name (wpAny_loadName_free I.ok.kind hk hc hcell fin hcd) hd
theorem zov {i j pos}:PE X (.Constant (.int i) j pos) (tC (.int i)):=fun _ _ _ H _ I h=>wpAny_Constant_int ⟨.int i,H,I.tok _,⟨_,rfl⟩,h⟩
theorem zt3 {b j pos}:PE X (.Constant (.bool b) j pos) (tC (.bl b)):=fun _ _ _ H _ I h=>Constant_bool ⟨.bl b,H,I,rfl,h⟩
theorem zrS {j pos}:PE X (.Constant .none j pos) (tC .non):=fun _ _ _ H _ I h=>Constant_none ⟨.non,H,I,rfl,h⟩
theorem zrQ {x j pos}:PE X (.Constant (.str x) j pos) (tC (.str x)):=fun _ _ _ H _ I h=>Calls.Constant_str ⟨.str x,H,I.tok _,⟨_,rfl⟩,h⟩
def Gl (X:Cx) (x:Str):Prop:=X.env.kindOf x=some .globalImplicit
theorem ziX {E:Value→Shared→Prop} {pins:List (Addr × Obj)} {s:Shared} {σ:St} {H:Hp} {x:Str} {u:Value} {pos:Pos} {Q:Value→Shared→Prop} (I:Inv X pins σ H s) (hg:Gl X x) (hm:X.mg x=some u) (h:Q u s)
    (hd:(x == ("__debug__":Str))=false:=by decide):wpAny (model X.prog X.w) X.A (eval (.Name x pos) X.env) Q E s :=
  Calls.Name_function_global I.ok.kind hg (Calls.loadGlobal_global (by rw [I.ok.glob]; exact I.mod.glob.keeps I.bk) hm h) hd
theorem zgm {E:Value→Shared→Prop} {pins:List (Addr × Obj)} {s:Shared} {σ:St} {H:Hp} {x:Str} {u:Value} {pos:Pos} {Q:Value→Shared→Prop} (I:Inv X pins σ H s) (hg:Gl X x) (hm:X.mg x=none) (hv:bootBuiltins x=some u) (h:Q u s)
    (hn:x≠"__name__":=by decide) (hd:(x == ("__debug__":Str))=false:=by decide):wpAny (model X.prog X.w) X.A (eval (.Name x pos) X.env) Q E s:=by
  obtain ⟨mb,h1,h2⟩:=I.mod.blt
  exact Calls.Name_function_global I.ok.kind hg (Calls.loadGlobal_builtin (by rw [I.ok.glob]; exact I.mod.glob.keeps I.bk) hm (by rw [I.ok.blt]; exact h1.keeps I.bk) ((h2 x hn).trans hv) h) hd
theorem ziC {x:Str} {v:V} {u:Value} {pos:Pos} (hg:Gl X x) (hm:X.mg x=some u) (r:zby v u) (hd:(x == ("__debug__":Str))=false:=by decide):PE X (.Name x pos) (tC v) :=
  fun _ _ _ H _ I h=>ziX I hg hm ⟨v,H,I,r,h⟩ hd
theorem zpP {x:Str} {v:V} {u:Value} {pos:Pos} (hg:Gl X x) (hm:X.mg x=none) (hv:bootBuiltins x=some u) (r:zby v u) (hn:x≠"__name__":=by decide) (hd:(x == ("__debug__":Str))=false:=by decide):PE X (.Name x pos) (tC v) :=
  fun _ _ _ H _ I h=>zgm I hg hm hv ⟨v,H,I,r,h⟩ hn hd
variable {a b:Expr} {ta tb:TE} {pos:Pos}
def tB (t:TE):TT:=fun σ H Q=>t σ H fun x H1=>∃ c,x=.bl c∧Q c H1
theorem zrH {e:Expr} {t:TE} (h:PE X e t) (he:∀ whole,isTrue e X.env whole=(do let v ← whole; standAt e.pos; holding [v] (truthy v)):=by intro _; rfl):PT X e (tB t):=by
  intro pins s σ H Q I hw
  refine isTrue_plain (thn (h pins s σ H _ I hw) fun v s1 ⟨x,H1,I1,r1,q1⟩=>?_) (he _)
  obtain ⟨d,rfl,q⟩:=q1; cases r1; exact wpAny_truthy_bool ⟨H1,I1,q⟩
variable {tA tB':TT} {ze3:List Expr}
def zvv (t u:TT):TT:=fun σ H Q=>t σ H fun c H1=>if c=true then u σ H1 Q else Q false H1
def tOr (t u:TT):TT:=fun σ H Q=>t σ H fun c H1=>if c=true then Q true H1 else u σ H1 Q
def zvr (t:TT):TT:=fun σ H Q=>t σ H fun c H1=>Q (!c) H1
theorem zpq (ha:PT X a tA):PW X (.BoolOp .And [a] pos) tA:=by
  intro wh pins s σ H Q I h
  refine isTrue_and (thn (ha pins s σ H Q I h) fun c s1 e=>?_)
  cases c with
  | true=>exact isTrue_and_nil e
  | false=>exact e
theorem zrE (ha:PT X a tA):PW X (.BoolOp .Or [a] pos) tA:=by
  intro wh pins s σ H Q I h
  refine isTrue_or (thn (ha pins s σ H Q I h) fun c s1 e=>?_)
  cases c with
  | false=>exact isTrue_or_nil e
  | true=>exact e
theorem zrF (ha:PT X a tA) (hb:PW X (.BoolOp .And (b :: ze3) pos) tB'):PW X (.BoolOp .And (a :: b :: ze3) pos) (zvv tA tB'):=by
  intro wh pins s σ H Q I h
  refine isTrue_and (thn (ha pins s σ H _ I h) fun c s1 ⟨H1,I1,q1⟩=>?_)
  cases c with
  | true=>exact hb wh pins s1 σ H1 Q I1 q1
  | false=>exact ⟨H1,I1,q1⟩
theorem ztW (ha:PT X a tA) (hb:PW X (.BoolOp .Or (b :: ze3) pos) tB'):PW X (.BoolOp .Or (a :: b :: ze3) pos) (tOr tA tB'):=by
  intro wh pins s σ H Q I h
  refine isTrue_or (thn (ha pins s σ H _ I h) fun c s1 ⟨H1,I1,q1⟩=>?_)
  cases c with
  | true=>exact ⟨H1,I1,q1⟩
  | false=>exact hb wh pins s1 σ H1 Q I1 q1
theorem zrI (ha:PT X a tA):PT X (.UnaryOp .Not a pos) (zvr tA):=by
  intro pins s σ H Q I h
  exact isTrue_not (ha pins s σ H (fun c H1=>Q (!c) H1) I h)
def ztG (ta tb:TE):TE:=fun σ H Q=>ta σ H fun x H1=>∃ c,x=.bl c∧if c=true then tb σ H1 Q else Q (.bl false) H1
theorem zrR {op} {t:TE} (h:PE X a t):PE X (.BoolOp op [a] pos) t:=fun pins s σ H Q I hw=>BoolOp_one (h pins s σ H Q I hw)
theorem zrW (ha:PE X a ta) (hb:PE X (.BoolOp .And (b :: ze3) pos) tb):PE X (.BoolOp .And (a :: b :: ze3) pos) (ztG ta tb):=by
  intro pins s σ H Q I h
  refine BoolOp_and (thn (ha pins s σ H _ I h) fun v s1 ⟨x,H1,I1,r1,q1⟩=>?_)
  obtain ⟨c,rfl,q1⟩:=q1; cases r1; refine wpAny_truthy_bool ?_
  cases c with
  | true=>exact hb pins s1 σ H1 Q I1 q1
  | false=>exact ⟨.bl false,H1,I1,rfl,q1⟩
def tIf (t:TT) (ta tb:TE):TE:=fun σ H Q=>t σ H fun c H1=>if c=true then ta σ H1 Q else tb σ H1 Q
theorem zgO {c:Expr} (hc:PT X c tA) (ha:PE X a ta) (hb:PE X b tb):PE X (.IfExp c a b pos) (tIf tA ta tb):=by
  intro pins s σ H Q I h
  refine wpAny_IfExp (thn (hc pins s σ H _ I h) fun d s1 ⟨H1,I1,q1⟩=>?_)
  cases d with
  | true=>exact ha pins s1 σ H1 Q I1 q1
  | false=>exact hb pins s1 σ H1 Q I1 q1
end
end L2
namespace L2
open PySem PySem.Spec PyProof.Rows
def SqL (K:PySem.W.Frag) (H:Hp) (a:Addr) (xs:List V):Prop :=
  Rd H a (.lst xs) ∨
    ∃ (o:Obj) (its:Array Value) (n:Nat),K.lookup a=some o∧o.cls=.type "list"∧o.dict=none∧o.data=.seq its n∧its.size≤sizeLine∧za5 xs its.toList
def SqT (K:PySem.W.Frag) (H:Hp) (a:Addr) (xs:List V):Prop :=
  Rd H a (.tup xs) ∨
    ∃ (o:Obj) (its:Array Value) (n:Nat),K.lookup a=some o∧o.cls=.type "tuple"∧o.data=.seq its n∧its.size≤sizeLine∧za5 xs its.toList
def zvP:Value→Option V
  | .none=>some .non
  | .bool b=>some (.bl b)
  | .int i _=>some (.int i)
  | .str x _=>some (.str x)
  | .bytes b _=>some (.byt b)
  | .float b _=>some (.flt b)
  | .ref a=>some (.ref a)
  | .type n=>some (.ty n)
  | _=>none
theorem zby.abs {x:V} {u:Value} (r:zby x u):zvP u=some x:=by
  cases x with
  | non=>cases r; rfl
  | bl _=>cases r; rfl
  | int _=>obtain ⟨t,rfl⟩:=r; rfl
  | str _=>obtain ⟨t,rfl⟩:=r; rfl
  | byt _=>obtain ⟨t,rfl⟩:=r; rfl
  | flt _=>obtain ⟨t,rfl⟩:=r; rfl
  | ref _=>cases r; rfl
  | ty _=>cases r; rfl
theorem zby.inj {x y:V} {u:Value} (r:zby x u) (q:zby y u):x=y:=Option.some.inj (r.abs.symm.trans q.abs)
theorem za5.inj:∀ {xs ys:List V} {us:List Value},za5 xs us→za5 ys us→xs=ys
  | _,_,_,.nil,.nil=>rfl
  | _,_,_,.cons r t,.cons r' t'=>by rw [r.inj r',za5.inj t t']
section
variable {X:Cx} {pins:List (Addr × Obj)} {σ:St} {H:Hp} {s:Shared} {a:Addr} {xs ys:List V}
theorem SqL.of {K:PySem.W.Frag} (h:H a=some (.lst xs)):SqL K H a xs:=.inl (.inl h)
theorem SqT.of {K:PySem.W.Frag} (h:H a=some (.tup xs)):SqT K H a xs:=.inl (.inl h)
theorem Inv.list (I:Inv X pins σ H s) (h:SqL X.K H a xs):∃ its:List Value,za5 xs its∧PlainL s.heap a its.toArray∧xs.length≤sizeLine:=by
  rcases h with h | ⟨o,its,n,hk,hc,hd,hs,hz,r⟩
  · obtain ⟨z,its,n,r,e⟩:=h.ok I.hok
    exact ⟨its,r,⟨_,n,e,rfl,rfl,rfl⟩,z⟩
  · refine ⟨its.toList,r,⟨o,n,I.kIn a o hk,hc,hd,by simpa using hs⟩,?_⟩
    have e:=r.length; simp only [Array.length_toList] at e; omega
theorem Inv.tuple (I:Inv X pins σ H s) (h:SqT X.K H a xs):∃ its:List Value,za5 xs its∧IsTup s.heap a its.toArray∧xs.length≤sizeLine:=by
  rcases h with h | ⟨o,its,n,hk,hc,hs,hz,r⟩
  · obtain ⟨z,its,r,p⟩:=h.ok I.hok
    exact ⟨its,r,p,z⟩
  · refine ⟨its.toList,r,⟨o,I.kIn a o hk,hc,n,by simpa using hs⟩,?_⟩
    have e:=r.length; simp only [Array.length_toList] at e; omega
theorem Inv.list_inj (I:Inv X pins σ H s) (h:SqL X.K H a xs) (h':SqL X.K H a ys):xs=ys:=by
  obtain ⟨its,r,⟨o,n,e,_,_,d⟩,_⟩:=I.list h
  obtain ⟨its',r',⟨o',n',e',_,_,d'⟩,_⟩:=I.list h'
  rw [e] at e'; cases e'
  rw [d] at d'
  injection d' with d1 _
  have:its=its':=by simpa using congrArg Array.toList d1
  subst this; exact r.inj r'
theorem Inv.tuple_inj (I:Inv X pins σ H s) (h:SqT X.K H a xs) (h':SqT X.K H a ys):xs=ys:=by
  obtain ⟨its,r,⟨o,e,_,n,d⟩,_⟩:=I.tuple h
  obtain ⟨its',r',⟨o',e',_,n',d'⟩,_⟩:=I.tuple h'
  rw [e] at e'; cases e'
  rw [d] at d'
  injection d' with d1 _
  have:its=its':=by simpa using congrArg Array.toList d1
  subst this; exact r.inj r'
end
abbrev Cx.wish (X:Cx) (E:Value→Shared→Prop):Cx:={ X with xe:=E }
abbrev Cx.nox (X:Cx):Cx:=X.wish fun _ _=>False
theorem Cx.Ok.wish {X:Cx} (ok:X.Ok) (E:Value→Shared→Prop):(X.wish E).Ok :=
  ⟨ok.mod,ok.kind,ok.glob,ok.blt,ok.above,ok.inj,ok.has,ok.cab,ok.hd,ok.frames,ok.stk,ok.exf,ok.bs,ok.bsz,ok.noex,ok.exfs,ok.funs,ok.frf,ok.tab⟩
theorem Cx.Ok.unwish {X:Cx} {E:Value→Shared→Prop} (ok:(X.wish E).Ok):X.Ok :=
  ⟨ok.mod,ok.kind,ok.glob,ok.blt,ok.above,ok.inj,ok.has,ok.cab,ok.hd,ok.frames,ok.stk,ok.exf,ok.bs,ok.bsz,ok.noex,ok.exfs,ok.funs,ok.frf,ok.tab⟩
section
variable {X:Cx} {pins:List (Addr × Obj)} {σ:St} {H:Hp} {s:Shared} {E:Value→Shared→Prop}
theorem Inv.wish (I:Inv X pins σ H s) (E:Value→Shared→Prop):Inv (X.wish E) pins σ H s:=⟨I.ok.wish E,I.os,I.bare,I.base,I.loc,I.cell,I.free,I.freeC,I.pin,I.hok,I.len⟩
theorem Inv.unwish (I:Inv (X.wish E) pins σ H s):Inv X pins σ H s:=⟨I.ok.unwish,I.os,I.bare,I.base,I.loc,I.cell,I.free,I.freeC,I.pin,I.hok,I.len⟩
theorem SP.unwish {D:Ends} {f:Flow} {s':Shared} (h:SP (X.wish E) pins D f s'):SP X pins D f s':=by
  cases f with
  | next=>obtain ⟨σ',H',I,q⟩:=h; exact ⟨σ',H',I.unwish,q⟩
  | brk=>obtain ⟨σ',H',I,q⟩:=h; exact ⟨σ',H',I.unwish,q⟩
  | cont=>obtain ⟨σ',H',I,q⟩:=h; exact ⟨σ',H',I.unwish,q⟩
  | ret u=>obtain ⟨v,σ',H',I,r,q⟩:=h; exact ⟨v,σ',H',I.unwish,r,q⟩
theorem PSs.nox {st:List Stmt} {t:TS} (h:PSs X.nox st t):PSs X st t:=fun pins s σ H D I hw =>
  wpAny_mono (h pins s σ H D (I.wish _) hw) (fun _ _ q=>q.unwish) fun _ _ z=>False.elim z
end
section
variable {X:Cx} {st:Stmt} {ze3:List Stmt} {t u:TS} {e:Expr} {te:TE} {pos:Pos}
def ztB:TS:=fun D σ H=>D.nx σ H
def zvp (t u:TS):TS:=fun D σ H=>t { D with nx:=u D } σ H
theorem zpx:PSs X [] ztB:=fun _ _ σ H _ I h=>wpAny_execs_nil ⟨σ,H,I,h⟩
theorem zgI (h1:PS X st t) (h2:PSs X ze3 u):PSs X (st :: ze3) (zvp t u):=by
  intro pins s σ H D I h
  refine wpAny_execs_cons (thn (h1 pins s σ H { D with nx:=u D } I h) fun f s1 q=>?_)
  cases f with
  | next =>
    obtain ⟨σ',H',I',q⟩:=q; exact h2 pins s1 σ' H' D I' q
  | ret v=>exact q
  | brk=>exact q
  | cont=>exact q
theorem zgH (h1:PS X st t):PSs X [st] t:=by
  intro pins s σ H D I h
  refine wpAny_execs_cons (thn (h1 pins s σ H D I h) fun f s1 q=>?_)
  cases f with
  | next=>exact wpAny_execs_nil q
  | ret v=>exact q
  | brk=>exact q
  | cont=>exact q
theorem Inv.quiet {pins:List (Addr × Obj)} {σ:St} {H:Hp} {s:Shared} (I:Inv X pins σ H s):interactive X.env=false:=by simp [interactive,I.ok.kind]
def ztE (te:TE):TS:=fun D σ H=>te σ H fun _ H1=>D.nx σ H1
theorem zgJ (he:PE X e te) (hs:swapsWith e none pos.line X.env=pure false:=by rfl):PS X (.Expr e pos) (ztE te):=by
  intro pins s σ H D I h
  exact wpAny_Expr_any (thn (he pins s σ H _ I h) fun v s1 ⟨x,H1,I1,r1,q1⟩=>⟨σ,H1,I1,q1⟩) I.quiet hs
def zvq (te:TE):TS:=fun D σ H=>te σ H D.rt
theorem zjG (he:PE X e te):PS X (.Return (some e) pos) (zvq te):=by
  intro pins s σ H D I h
  exact wpAny_Return_some (thn (he pins s σ H _ I h) fun v s1 ⟨x,H1,I1,r1,q1⟩=>⟨x,σ,H1,I1,r1,q1⟩)
def zvt (c:TT) (t u:TS):TS:=fun D σ H=>c σ H fun b H1=>if b=true then t D σ H1 else u D σ H1
theorem ztX {c:Expr} {a b:List Stmt} {tc:TT} (hc:PT X c tc) (ha:PSs X a t) (hb:PSs X b u):PS X (.If c a b pos) (zvt tc t u):=by
  intro pins s σ H D I h
  refine wpAny_If (thn (hc pins s σ H _ I h) fun d s1 ⟨H1,I1,q1⟩=>?_)
  cases d with
  | true=>exact ha pins s1 σ H1 D I1 q1
  | false=>exact hb pins s1 σ H1 D I1 q1
end
abbrev TG:=V→St→Hp→(St→Hp→Prop)→Prop
abbrev TGs:=List V→St→Hp→(St→Hp→Prop)→Prop
def PG (X:Cx) (target:Expr) (t:TG):Prop :=
  ∀ (pins:List (Addr × Obj)) (s:Shared) (σ:St) (H:Hp) (v:V) (u:Value) (Q:St→Hp→Prop),Inv X pins σ H s→zby v u→t v σ H Q →
    wpAny (model X.prog X.w) X.A (assign target X.env u) (fun _ s'=>∃ σ' H',Inv X pins σ' H' s'∧Q σ' H') X.xe s
def PGs (X:Cx) (ts:List Expr) (t:TGs):Prop :=
  ∀ (pins:List (Addr × Obj)) (s:Shared) (σ:St) (H:Hp) (vs:List V) (us:List Value) (Q:St→Hp→Prop),Inv X pins σ H s→za5 vs us→t vs σ H Q →
    wpAny (model X.prog X.w) X.A (assignInOrder ((assignEach ts X.env).map (·.2)) us) (fun _ s'=>∃ σ' H',Inv X pins σ' H' s'∧Q σ' H') X.xe s
abbrev zuI:=V→V→V→Hp→(Hp→Prop)→Prop
def zvg (X:Cx) (t:zuI):Prop :=
  ∀ (pins:List (Addr × Obj)) (s:Shared) (σ:St) (H:Hp) (o i v:V) (ov iv u:Value) (Q:Hp→Prop),Inv X pins σ H s→zby o ov→zby i iv→zby v u→t o i v H Q →
    wpAny (model X.prog X.w) X.A (setItem ov iv u) (fun _ s'=>∃ H',Inv X pins σ H' s'∧Q H') X.xe s
section
variable {X:Cx} {pos:Pos}
def zsu (i:Nat):TG:=fun v σ H Q=>Q (σ.set i (some v)) H
theorem zpJ {i:Nat} {x:Str} (hN:X.N.Nodup) (hi:X.N[i]?=some x) (hx:Loc X.env.scope x) (hf:X.fn x=true∨X.env.scope.names.lookup x=some .local:=by first | exact .inl rfl | exact .inr rfl | assumption):PG X (.Name x pos) (zsu i):=by
  intro pins s σ H v u Q I r h
  exact wpAny_assign_Name (zjw I hN hi hx r (fun s' I'=>⟨_,H,I',h⟩) hf)
def zvK:TGs:=fun vs σ H Q=>vs=[]∧Q σ H
def zup (t:TG) (u:TGs):TGs:=fun vs σ H Q=>∃ v r,vs=v :: r∧t v σ H fun σ' H'=>u r σ' H' Q
theorem zpH:PGs X [] zvK:=by
  intro pins s σ H vs us Q I r h; obtain ⟨e,h⟩:=h; subst e; cases r; exact assignInOrder_nil ⟨σ,H,I,h⟩
theorem znb {e:Expr} {es:List Expr} {t:TG} {u:TGs} (h1:PG X e t) (h2:PGs X es u)
    (hs:(assignEach (e :: es) X.env).map (·.2)=assign e X.env :: (assignEach es X.env).map (·.2):=by rfl):PGs X (e :: es) (zup t u):=by
  intro pins s σ H vs us Q I r h; obtain ⟨v,vr,e1,h⟩:=h; subst e1
  cases r with
  | cons r rr =>
    rw [hs]
    refine assignInOrder_cons (thn (h1 pins s σ H _ _ _ I r h) fun _ s1 ⟨σ1,H1,I1,q1⟩=>?_)
    exact h2 pins s1 σ1 H1 _ _ Q I1 rr q1
def zvI (K:PySem.W.Frag) (n:Nat) (t:TGs):TG:=fun v σ H Q=>∃ a xs,v=.ref a∧SqT K H a xs∧xs.length=n∧t xs σ H Q
theorem zrO {es:List Expr} {k:Nat} {t:TGs} {n:Nat} (hc:X.calm=true) (h:PGs X es t)
    (hn:(assignEach es X.env).length=n:=by rfl) (hst:(assignEach es X.env).findIdx? (·.1)=none:=by rfl):PG X (.Tuple es k pos) (zvI X.K n t):=by
  intro pins s σ H v u Q I r hw; obtain ⟨a,xs,e1,hq,hl,hw⟩:=hw; subst e1; cases r; obtain ⟨its,rv,ht,hz⟩:=I.tuple hq
  refine assign_Tuple_tuple (I.ok.hd hc) ht (by simp [hn,← hl,rv.length]) hst fun h' hx=>?_
  have I1:Inv X pins σ H { s with heap:=h' }:=I.kept (t':=s.toks) fun b o e=>hx b o (Nat.ne_of_lt (Heap.lt_size e)) e
  exact h pins _ σ H xs _ Q I1 (by simpa using rv) hw
def zvJ (to ti:TE) (t:zuI):TG:=fun v σ H Q=>to σ H fun o H1=>ti σ H1 fun i H2=>t o i v H2 fun H3=>Q σ H3
theorem zrP {o i:Expr} {to ti:TE} {t:zuI} (ho:PE X o to) (hi:PE X i ti) (hs:zvg X t)
    (ha:∀ v,assign (.Subscript o i pos) X.env v=(do
      let ov ← holding [v] (eval o X.env)
      let iv ← holding [v,ov] (eval i X.env)
      standAt pos
      holding [v,ov,iv] (setItem ov iv v)
      release [v,ov,iv] []):=by intro _; rfl):PG X (.Subscript o i pos) (zvJ to ti t):=by
  intro pins s σ H v u Q I r h; rw [ha]
  refine wpAny_bind (wpAny_holding (thn (ho pins s σ H _ I h) fun ov s1 ⟨x,H1,I1,r1,q1⟩=>?_))
  refine wpAny_bind (wpAny_holding (thn (hi pins s1 σ H1 _ I1 q1) fun iv s2 ⟨y,H2,I2,r2,q2⟩=>?_))
  refine wpAny_bind (wpAny_standAt (wpAny_bind (wpAny_holding (thn (hs pins s2 σ H2 x y v ov iv u _ I2 r1 r2 r q2) fun _ s3 ⟨H3,I3,q3⟩=>?_))))
  exact wpAny_release ⟨σ,H3,I3,q3⟩
def zuU (te:TE) (g:TG):TS:=fun D σ H=>te σ H fun x H1=>g x σ H1 D.nx
theorem zoq {tg e:Expr} {te:TE} {g:TG} (he:PE X e te) (hg:PG X tg g) (hs:swapsWithSole [tg] e pos.line X.env=pure false:=by rfl) (hw:swappedStores [tg] e X.env=pure none:=by rfl)
    (h1:(assignEach [tg] X.env).map (·.2)=[assign tg X.env]:=by rfl):PS X (.Assign [tg] e pos) (zuU te g):=by
  intro pins s σ H D I h
  refine wpAny_Assign_stores (thn (he pins s σ H _ I h) fun v s1 ⟨x,H1,I1,r1,q1⟩=>?_) hs hw
  rw [h1]
  exact thn (hg pins s1 σ H1 x v _ I1 r1 q1) fun _ s2 q=>q
theorem zop {i:Nat} {x:Str} {e:Expr} {te:TE} {pos':Pos} (hN:X.N.Nodup) (hi:X.N[i]?=some x) (hx:Loc X.env.scope x) (he:PE X e te) (hs:swapsWith e (some (.Name x pos')) pos.line X.env=pure false:=by rfl) (hf:X.fn x=true∨X.env.scope.names.lookup x=some .local:=by first | exact .inl rfl | exact .inr rfl | assumption) :
    PS X (.Assign [.Name x pos'] e pos) (zuU te (zsu i)):=by
  intro pins s σ H D I h
  refine wpAny_Assign_Name (thn (he pins s σ H _ I h) fun v s1 ⟨y,H1,I1,r1,q1⟩=>?_) hs
  exact zjw I1 hN hi hx r1 (fun s2 I2=>⟨_,H1,I2,q1⟩) hf
end
section
variable {X:Cx} {pos:Pos}
def zra (c:TT) (tb:TS):TS:=fun D σ H=>∃ W:Nat→St→Hp→Prop,(∃ m,W m σ H)∧∀ m σ H,W m σ H →
  c σ H fun b H1=>if b=true then ∃ N:St→Hp→Prop,(∀ σ' H',N σ' H'→∃ m',m'<m∧W m' σ' H')∧tb { D with nx:=N,ct:=N,bk:=D.nx } σ H1 else D.nx σ H1
theorem zm2 {c:Expr} {body:List Stmt} {tc:TT} {tb:TS} (hp:PassesOwn (model X.prog X.w) X.A X.env X.xe) (hc:PT X c tc) (hb:PSs X body tb):PS X (.While c body [] pos) (zra tc tb):=by
  intro pins s σ H D I h
  obtain ⟨W,⟨m0,w0⟩,turn⟩:=h
  refine wpAny_While (codeAny_whileLoop (fun n s'=>∃ σ' H',Inv X pins σ' H' s'∧W n σ' H') ?_ m0 ⟨σ,H,I,w0⟩)
  rintro n s1 ⟨σ1,H1,I1,w1⟩
  refine wpAny_passesOwn hp (thn (hc pins s1 σ1 H1 _ I1 (turn n σ1 H1 w1)) fun b s2 ⟨H2,I2,q2⟩=>?_)
  cases b with
  | true =>
    obtain ⟨N,hN,q2⟩:=q2; rw [if_pos rfl]
    refine wpAny_passesOwn hp (thn (hb pins s2 σ1 H2 _ I2 q2) fun f s3 q3=>?_)
    cases f with
    | next =>
      obtain ⟨σ3,H3,I3,n3⟩:=q3; obtain ⟨m',hm,w3⟩:=hN σ3 H3 n3; exact ⟨m',hm,σ3,H3,I3,w3⟩
    | cont =>
      obtain ⟨σ3,H3,I3,n3⟩:=q3; obtain ⟨m',hm,w3⟩:=hN σ3 H3 n3; exact ⟨m',hm,σ3,H3,I3,w3⟩
    | brk=>exact q3
    | ret v=>exact q3
  | false =>
    rw [if_neg Bool.false_ne_true]; exact wpAny_execs_nil ⟨σ1,H2,I2,q2⟩
end
structure It where
  go:Nat→Hp→Prop
  yld:Nat→Hp→V→Hp→Prop
  stop:Nat→Hp→Prop
def zjp (X:Cx) (pins:List (Addr × Obj)) (H:Hp) (b:Addr):Prop :=
  H b=none∧b≠X.env.locals∧b ∉ X.fs∧(b ∈ X.ex∨X.s₀.heap.objs.size≤b)∧(∀ x c,X.env.cells.lookup x=some c→c≠b)∧∀ p ∈ X.pn ++ pins,p.1≠b
theorem Inv.fpOk {X:Cx} {pins:List (Addr × Obj)} {σ:St} {H H':Hp} {s:Shared} {b:Addr} (I:Inv X pins σ H s) (hb:s.heap.objs.size≤b) (hn:H' b=none):zjp X pins H' b:=by
  refine ⟨hn,Nat.ne_of_gt (Nat.lt_of_lt_of_le I.lt hb),I.nofs hb,.inr (Nat.le_trans I.sz hb),fun x c e z=>?_,fun p hp z=>?_⟩
  · obtain ⟨v,q⟩:=I.cell x c e
    exact absurd (Nat.lt_of_lt_of_le q.lt (by rw [z]; exact hb)) (Nat.lt_irrefl _)
  · exact absurd (Nat.lt_of_lt_of_le (Heap.lt_size (I.pin p hp).1) (by rw [z]; exact hb)) (Nat.lt_irrefl _)
structure Turn (P:Program) (w:World) (K:PySem.W.Frag) (tg:Expr) (J:It) (fp:List Addr) (it:Addr) (tn:Nat→Heap→Prop):Prop where
  mem:it ∈ fp
  obj:∀ i h,tn i h→∀ b ∈ fp,∃ o,h.get? b=some o∧∀ v,o.data≠.cell v
  keep:∀ i h h',tn i h→(∀ b ∈ fp,∀ o,h.get? b=some o→h'.get? b=some o)→tn i h'
  item:∀ (X:Cx),X.prog=P→X.w=w→X.K=K→X.calm=true→∀ (i:Nat) (pins:List (Addr × Obj)) (s:Shared) (σ:St) (H:Hp) (E:Value→Shared→Prop),Inv X pins σ H s→(∀ b ∈ fp,zjp X pins H b)→tn i s.heap→J.go i H →
    wpAny (model P w) X.A (pyNext (.ref it)) (fun r s1=>∃ u,r=some u ∧
      wpAny (model P w) X.A (letOwnedTupleGo tg (.ref it) u) (fun _ s2=>∃ x H',Inv X pins σ H' s2∧zby x u∧J.yld i H x H'∧tn (i+1) s2.heap∧∀ b ∈ fp,H' b=none) E s1) E s
  done:∀ (X:Cx),X.prog=P→X.w=w→X.K=K→X.calm=true→∀ (i:Nat) (pins:List (Addr × Obj)) (s:Shared) (σ:St) (H:Hp) (E:Value→Shared→Prop),Inv X pins σ H s→(∀ b ∈ fp,zjp X pins H b)→tn i s.heap→J.stop i H →
    wpAny (model P w) X.A (pyNext (.ref it)) (fun r s1=>r=none∧Inv X pins σ H s1) E s
  self:∀ (A:Around) (i:Nat) (s:Shared) (Q:Value→Shared→Prop) (E:Value→Shared→Prop),tn i s.heap→Q (.ref it) s→wpAny (model P w) A (pyIter (.ref it)) Q E s
abbrev TI:=St→Hp→(It→Hp→Prop)→Prop
def PIE (X:Cx) (pins:List (Addr × Obj)) (σ:St) (tg:Expr) (R:It→Hp→Prop) (itv:Value) (s2:Shared):Prop :=
  ∃ (it:Addr) (fp:List Addr) (tn:Nat→Heap→Prop) (J:It) (H':Hp),itv=.ref it∧Inv X pins σ H' s2∧Turn X.prog X.w X.K tg J fp it tn∧tn 0 s2.heap∧(∀ b ∈ fp,zjp X pins H' b)∧R J H'
def PI (X:Cx) (tg iter:Expr) (wi:TI):Prop :=
  ∀ (pins:List (Addr × Obj)) (s:Shared) (σ:St) (H:Hp) (R:It→Hp→Prop),Inv X pins σ H s→wi σ H R →
    wpAny (model X.prog X.w) X.A (eval iter X.env) (fun v s1=>wpAny (model X.prog X.w) X.A (pyIter v) (PIE X pins σ tg R) X.xe s1) X.xe s
theorem zn1 {M:Model} {A:Around} {E:Value→Shared→Prop} {s:Shared} {tg:Expr} {it:Addr} {u:Value} {o:Obj} {n:String} {vs:Array Value} {Q:Unit→Shared→Prop} (ho:s.heap.get? it=some o) (hc:o.cls=.type n) (hd:o.data=.fields vs)
    (hn:["enumerate","zip","dict_itemiterator","dict_reverseitemiterator","odict_iterator","itertools.zip_longest","itertools.pairwise"].contains n=false) (hQ:Q () s):wpAny M A (letOwnedTupleGo tg (.ref it) u) Q E s:=by
  unfold letOwnedTupleGo
  cases tg <;> first
    | exact wpAny_pure hQ
    | (cases u <;> first
        | exact wpAny_pure hQ
        | (refine wpAny_bind (wpAny_load ho ?_)
           rw [hc,hd]
           show wpAny M A (if (["enumerate","zip","dict_itemiterator","dict_reverseitemiterator","odict_iterator","itertools.zip_longest","itertools.pairwise"].contains n && vs[0]? == some (rawInt _))=true then _ else _) Q E s
           rw [if_neg (by intro h; rw [hn,Bool.false_and] at h; cases h)]
           exact wpAny_pure hQ))
def Itl (K:PySem.W.Frag) (a:Addr):It :=
  ⟨fun i H=>∃ xs x,SqL K H a xs∧xs[i]?=some x,fun i H x H'=>H'=H∧∀ xs,SqL K H a xs→xs[i]?=some x,fun i H=>∃ xs,SqL K H a xs∧xs.length≤i⟩
def Itt (K:PySem.W.Frag) (a:Addr):It :=
  ⟨fun i H=>∃ xs x,SqT K H a xs∧xs[i]?=some x,fun i H x H'=>H'=H∧∀ xs,SqT K H a xs→xs[i]?=some x,fun i H=>∃ xs,SqT K H a xs∧xs.length≤i⟩
def Itr (lo:Int) (n:Nat):It:=⟨fun i _=>i<n,fun i H x H'=>H'=H∧x=.int (lo+i),fun i _=>n≤i⟩
theorem zk5 {P:Program} {w:World} {K:PySem.W.Frag} {tg:Expr} (a it:Addr):Turn P w K tg (Itl K a) [it] it (fun i h=>h.IsListIter it a i) where
  mem:=by simp
  obj:=fun i h st b hb=>by
    have e:b=it:=by simpa using hb
    subst e; obtain ⟨o,e,c,d⟩:=st
    exact ⟨o,e,fun v z=>by rw [d] at z; cases z⟩
  keep:=fun i h h' st k=>st.at fun o e=>k it (by simp) o e
  item:=by
    intro X hP hw hK hc i pins s σ H E I hf st hg
    subst hP hw hK
    obtain ⟨xs,x,hq,hx⟩:=hg; obtain ⟨its,rv,p,hz⟩:=I.list hq; obtain ⟨u,hu,ru⟩:=rv.get hx
    obtain ⟨f0,f1,f2,f3,f4,f5⟩:=hf it (by simp)
    refine wpAny_pyNext_list_item st p.isList (x:=u) (by simpa using hu) fun h' st' sb=>?_
    have I1:Inv X pins σ H { s with heap:=h' }:=I.turned (t':=s.toks) (fun b o hb e=>(sb.2 b hb).trans e) f0 f1 f3 f4 f5
    obtain ⟨o,e,c,d⟩:=id st'
    exact ⟨u,rfl,zn1 (s:={ s with heap:=h' }) e c d (by decide) ⟨x,H,I1,ru,⟨rfl,fun ys hy=>by rw [I.list_inj hy hq]; exact hx⟩,st',fun b hb=>(hf b hb).1⟩⟩
  done:=by
    intro X hP hw hK hc i pins s σ H E I hf st hg
    subst hP hw hK
    obtain ⟨xs,hq,hx⟩:=hg; obtain ⟨its,rv,p,hz⟩:=I.list hq
    obtain ⟨f0,f1,f2,f3,f4,f5⟩:=hf it (by simp)
    have hl:=rv.length
    exact wpAny_pyNext_list_end (I.ok.hd hc) st p.isList (by simp; omega) fun h' eb=>⟨rfl,I.turned (t':=s.toks) (fun b o hb e=>eb b o hb e) f0 f1 f3 f4 f5⟩
  self:=fun _ _ _ _ _ st h=>wpAny_pyIter_listiter st h
theorem zkk {P:Program} {w:World} {K:PySem.W.Frag} {tg:Expr} (a it:Addr):Turn P w K tg (Itt K a) [it] it (fun i h=>h.IsTupleIter it a i) where
  mem:=by simp
  obj:=fun i h st b hb=>by
    have e:b=it:=by simpa using hb
    subst e; obtain ⟨o,e,c,d⟩:=st
    exact ⟨o,e,fun v z=>by rw [d] at z; cases z⟩
  keep:=fun i h h' st k=>st.at fun o e=>k it (by simp) o e
  item:=by
    intro X hP hw hK hc i pins s σ H E I hf st hg
    subst hP hw hK
    obtain ⟨xs,x,hq,hx⟩:=hg; obtain ⟨its,rv,p,hz⟩:=I.tuple hq; obtain ⟨u,hu,ru⟩:=rv.get hx
    obtain ⟨f0,f1,f2,f3,f4,f5⟩:=hf it (by simp)
    refine wpAny_pyNext_tuple_item st (show s.heap.IsTuple a its.toArray from p) (x:=u) (by simpa using hu) fun h' st' sb=>?_
    have I1:Inv X pins σ H { s with heap:=h' }:=I.turned (t':=s.toks) (fun b o hb e=>(sb.2 b hb).trans e) f0 f1 f3 f4 f5
    obtain ⟨o,e,c,d⟩:=id st'
    exact ⟨u,rfl,zn1 (s:={ s with heap:=h' }) e c d (by decide) ⟨x,H,I1,ru,⟨rfl,fun ys hy=>by rw [I.tuple_inj hy hq]; exact hx⟩,st',fun b hb=>(hf b hb).1⟩⟩
  done:=by
    intro X hP hw hK hc i pins s σ H E I hf st hg
    subst hP hw hK
    obtain ⟨xs,hq,hx⟩:=hg; obtain ⟨its,rv,p,hz⟩:=I.tuple hq
    obtain ⟨f0,f1,f2,f3,f4,f5⟩:=hf it (by simp)
    have hl:=rv.length
    exact wpAny_pyNext_tuple_end (I.ok.hd hc) st (show s.heap.IsTuple a its.toArray from p) (by simp; omega) fun h' eb=>⟨rfl,I.turned (t':=s.toks) (fun b o hb e=>eb b o hb e) f0 f1 f3 f4 f5⟩
  self:=fun _ _ _ _ _ st h=>wpAny_pyIter_tupleiter st h
theorem zkl {P:Program} {w:World} {K:PySem.W.Frag} {tg:Expr} (it:Addr) (lo:Int) (n:Nat):Turn P w K tg (Itr lo n) [it] it (fun i h=>IsRangeIter h it (lo+(i:Nat) * 1) ((n:Int)-(i:Nat)) 1) where
  mem:=by simp
  obj:=fun i h st b hb=>by
    have e:b=it:=by simpa using hb
    subst e
    exact ⟨_,st,fun v z=>by
      have z':Data.fields _=Data.cell v:=z
      cases z'⟩
  keep:=fun i h h' st k=>k it (by simp) _ st
  item:=by
    intro X hP hw hK hc i pins s σ H E I hf st hg
    subst hP hw hK
    obtain ⟨f0,f1,f2,f3,f4,f5⟩:=hf it (by simp)
    have W:=Walks.range (prog:=X.prog) (w:=X.w) (I.ok.hd hc) it lo 1 n
    refine W.item i s _ _ hg st fun v h' tk hv st' kk=>?_
    obtain ⟨t,rfl⟩:=hv
    have I1:Inv X pins σ H { s with heap:=h',toks:=tk }:=I.turned (fun b o hb e=>kk b o (by simpa using hb) e) f0 f1 f3 f4 f5
    refine ⟨_,rfl,zn1 (s:={ s with heap:=h',toks:=tk }) (n:="range_iterator") st' rfl rfl (by decide) ⟨.int (lo+i),H,I1,⟨t,?_⟩,⟨rfl,rfl⟩,st',fun b hb=>(hf b hb).1⟩⟩
    rw [Int.mul_one]
  done:=by
    intro X hP hw hK hc i pins s σ H E I hf st hg
    subst hP hw hK
    obtain ⟨f0,f1,f2,f3,f4,f5⟩:=hf it (by simp)
    exact wpAny_pyNext_range_end (I.ok.hd hc) st (by have:n≤i:=hg; omega) fun h' eb=>⟨rfl,I.turned (t':=s.toks) (fun b o hb e=>eb b o hb e) f0 f1 f3 f4 f5⟩
  self:=fun _ _ _ _ _ st h=>wpAny_pyIter_rangeiter st h
end L2
namespace L2
open PySem PySem.Spec PyProof.Rows
section
variable {X:Cx} {tg:Expr}
theorem zmW {pins:List (Addr × Obj)} {σ:St} {H:Hp} {s:Shared} {R:It→Hp→Prop} {E:Value→Shared→Prop} {lo hi:Int} {t u v:Tok} {tk:Nat} (I:Inv X pins σ H s) (h1:-(2 ^ 62)≤lo) (h2:lo<2 ^ 62) (h3:-(2 ^ 62)≤hi) (h4:hi<2 ^ 62)
    (q:R (Itr lo (hi-lo).toNat) H):wpAny (model X.prog X.w) X.A (pyIter (.ref s.heap.objs.size)) (PIE X pins σ tg R) E { s with heap:=s.heap.push { cls:=.type "range",data:=.fields #[.int lo t,.int hi u,.int 1 v] },toks:=tk }:=by
  refine wpAny_pyIter_range (IsRange.new ..) (small_one h1 h2 h3 h4) ?_
  have I1:Inv X pins σ H { s with heap:=s.heap.push { cls:=.type "range",data:=.fields #[.int lo t,.int hi u,.int 1 v] },toks:=tk }:=I.kept fun b o e=>Heap.get?_push_of_some _ e
  refine ⟨(s.heap.push { cls:=.type "range",data:=.fields #[.int lo t,.int hi u,.int 1 v] }).objs.size,[(s.heap.push { cls:=.type "range",data:=.fields #[.int lo t,.int hi u,.int 1 v] }).objs.size],_,_,H,rfl,
    I1.kept (t':=tk) fun b o e=>Heap.get?_push_of_some _ e,zkl _ lo (hi-lo).toNat,?_,fun b hb=>?_,q⟩
  · have e1:lo+((0:Nat):Int) * 1=lo:=by simp
    have e2:(((hi-lo).toNat:Nat):Int)-((0:Nat):Int)=Builtin.Range.rangeSize lo hi 1:=by rw [rangeSize_one]; split <;> omega
    show IsRangeIter _ _ (lo+((0:Nat):Int) * 1) ((((hi-lo).toNat:Nat):Int)-((0:Nat):Int)) 1
    rw [e1,e2]; exact Heap.get?_push_size _ rfl
  · have e:b=(s.heap.push { cls:=.type "range",data:=.fields #[.int lo t,.int hi u,.int 1 v] }).objs.size:=by simpa using hb
    subst e; exact I1.fpOk (Nat.le_refl _) (I1.hok.fresh (Nat.le_refl _))
def zuo (ta:TA):TI:=fun σ H R=>ta σ H fun vs H1=>∃ j:Int,vs=[.int j]∧-(2 ^ 62)≤j∧j<2 ^ 62∧R (Itr 0 j.toNat) H1
theorem zlx {a:Expr} {ta:TA} {p pos:Pos} (hg:Gl X "range") (hm:X.mg "range"=none) (ha:PA X [a] ta) (hs:starEach [a] X.env=[(false,eval a X.env)]:=by rfl):PI X tg (.Call (.Name "range" p) [a] [] pos) (zuo ta):=by
  intro pins s σ H R I h
  refine Call_ (zgm I hg hm boot_range (PyProof.Rows.callWith_type1 (thn (ha pos pins s σ H _ I h) fun us s1 ⟨vs,H1,I1,r1,q1⟩=>?_) hs rfl))
  obtain ⟨j,e,q1,q2,q⟩:=q1; subst e
  cases r1 with
  | cons r rr =>
    cases rr; obtain ⟨t,rfl⟩:=r
    exact call_range_1 (zmW I1 (by omega) (by omega) q1 q2 (by simpa using q))
def zvu (wi:TI) (g:TG) (tb:TS):TS:=fun D σ H=>wi σ H fun J H1=>∃ W:Nat→Nat→St→Hp→Prop,(∃ m,W 0 m σ H1)∧∀ i m σ H,W i m σ H →
  (J.stop i H∧D.nx σ H)∨(J.go i H∧∃ N:St→Hp→Prop,(∀ σ' H',N σ' H'→∃ m',m'<m∧W (i+1) m' σ' H')∧∀ x H',J.yld i H x H'→g x σ H' fun σ2 H2=>tb { D with nx:=N,ct:=N,bk:=D.nx } σ2 H2)
def zgi (fp:List Addr) (h:Heap):List (Addr × Obj):=fp.filterMap fun b=>(h.get? b).map fun o=>(b,o)
theorem zdK {fp:List Addr} {h:Heap} {b:Addr} {o:Obj} (hb:b ∈ fp) (e:h.get? b=some o):(b,o) ∈ zgi fp h:=List.mem_filterMap.mpr ⟨b,hb,by rw [e]; rfl⟩
theorem zlI {fp:List Addr} {h:Heap} {p:Addr × Obj} (hp:p ∈ zgi fp h):p.1 ∈ fp∧h.get? p.1=some p.2:=by
  obtain ⟨b,hb,e⟩:=List.mem_filterMap.mp hp
  cases q:h.get? b with
  | none=>rw [q] at e; cases e
  | some o =>
    rw [q] at e
    have e':(b,o)=p:=Option.some.inj e
    subst e'
    exact ⟨hb,q⟩
theorem Inv.pinned {pins:List (Addr × Obj)} {σ:St} {H:Hp} {s:Shared} {fp:List Addr} (I:Inv X pins σ H s) (hf:∀ b ∈ fp,zjp X pins H b) (ho:∀ b ∈ fp,∃ o,s.heap.get? b=some o∧∀ v,o.data≠.cell v):Inv X (pins ++ zgi fp s.heap) σ H s :=
  I.pins_of fun p hp=>(List.mem_append.mp hp).elim (fun z=>I.pin p (List.mem_append_right _ z)) fun z=>by
    obtain ⟨hb,e⟩:=zlI z; obtain ⟨f0,f1,f2,_⟩:=hf p.1 hb; obtain ⟨o,e',d⟩:=ho p.1 hb
    rw [e] at e'; cases e'
    exact ⟨e,f0,f1,f2,d⟩
theorem Inv.unpinned {pins pl:List (Addr × Obj)} {σ:St} {H:Hp} {s:Shared} (I:Inv X (pins ++ pl) σ H s):Inv X pins σ H s:=I.pins_of fun p hp=>I.pin p (List.mem_append_right _ (List.mem_append_left _ hp))
theorem zrJ {iter:Expr} {body:List Stmt} {wi:TI} {g:TG} {tb:TS} {pos:Pos} (hp:PassesOwn (model X.prog X.w) X.A X.env X.xe) (hc:X.calm=true) (hi:PI X tg iter wi) (hg:PG X tg g) (hb:PSs X body tb)
    (hs:∀ x,foldedSetIterable iter X.env x=pure x:=by intro _; rfl):PS X (.For tg iter body [] pos) (zvu wi g tb):=by
  intro pins s σ H D I h
  refine wpAny_For (thn (hi pins s σ H _ I h) fun v s1 h1=>thn h1 fun itv s2 h2=>?_) hs
  obtain ⟨it,fp,tn,J,H2,e,I2,T,st2,f2,W,⟨m0,w0⟩,turn⟩:=h2
  subst e
  -- what stays true of the iterator's objects through the loop
  have stat:∀ {H':Hp},(∀ b ∈ fp,H' b=none)→∀ b ∈ fp,zjp X pins H' b:=fun hn b hb=>⟨hn b hb,(f2 b hb).2⟩
  refine codeAny_forLoop_any (fun n s'=>∃ i σ' H',Inv X pins σ' H' s'∧tn i s'.heap∧(∀ b ∈ fp,H' b=none)∧W i n σ' H') ?_ m0 ⟨0,σ,H2,I2,st2,fun b hb=>(f2 b hb).1,w0⟩
  rintro n s3 ⟨i,σ3,H3,I3,st3,fr3,w3⟩
  rcases turn i n σ3 H3 w3 with ⟨stop,qn⟩ | ⟨go,N,hN,step⟩
  · refine wpAny_passesOwn hp (thn (T.done X rfl rfl rfl hc i pins s3 σ3 H3 X.xe I3 (stat fr3) st3 stop) fun r s4 ⟨hr,I4⟩=>?_)
    subst hr; exact wpAny_execs_nil ⟨σ3,H3,I4,qn⟩
  · refine wpAny_passesOwn hp (thn (T.item X rfl rfl rfl hc i pins s3 σ3 H3 X.xe I3 (stat fr3) st3 go) fun r s4 ⟨u,hr,h4⟩=>?_)
    subst hr
    refine wpAny_passesOwn hp (thn h4 fun _ s5 ⟨x,H5,I5,r5,y5,st5,fr5⟩=>?_)
    have I5':=I5.pinned (stat fr5) (T.obj _ _ st5)
    refine wpAny_passesOwn hp (thn (hg _ s5 σ3 H5 x u _ I5' r5 (step x H5 y5)) fun _ s6 ⟨σ6,H6,I6,q6⟩=>?_)
    refine wpAny_passesOwn hp (thn (hb _ s6 σ6 H6 _ I6 q6) fun f s7 q7=>?_)
    have again:∀ {σ7:St} {H7:Hp},Inv X (pins ++ zgi fp s5.heap) σ7 H7 s7→N σ7 H7→∃ m,m<n∧∃ i σ' H',Inv X pins σ' H' s7∧tn i s7.heap∧(∀ b ∈ fp,H' b=none)∧W i m σ' H':=fun {σ7 H7} I7 n7=>by
      obtain ⟨m',hm,w7⟩:=hN σ7 H7 n7
      refine ⟨m',hm,i+1,σ7,H7,I7.unpinned,T.keep _ _ _ st5 fun b hb o e=>(I7.pin (b,o) (List.mem_append_right _ (List.mem_append_right _ (zdK hb e)))).1,fun b hb=>?_,w7⟩
      obtain ⟨o,e,d⟩:=T.obj _ _ st5 b hb; exact (I7.pin (b,o) (List.mem_append_right _ (List.mem_append_right _ (zdK hb e)))).2.1
    cases f with
    | next=>obtain ⟨σ7,H7,I7,n7⟩:=q7; exact again I7 n7
    | cont=>obtain ⟨σ7,H7,I7,n7⟩:=q7; exact again I7 n7
    | brk=>obtain ⟨σ7,H7,I7,q7⟩:=q7; exact ⟨σ7,H7,I7.unpinned,q7⟩
    | ret v=>obtain ⟨x7,σ7,H7,I7,r7,q7⟩:=q7; exact ⟨x7,σ7,H7,I7.unpinned,r7,q7⟩
end
end L2
namespace L2
open PySem PySem.Spec PyProof.Rows
abbrev R2:=V→V→Hp→VK→Prop
def OpR (X:Cx) (f:Value→Value→Sem Value) (r:R2):Prop :=
  ∀ (pins:List (Addr × Obj)) (s:Shared) (σ:St) (H:Hp) (x y:V) (v u:Value) (Q:VK),Inv X pins σ H s→zby x v→zby y u→r x y H Q →
    wpAny (model X.prog X.w) X.A (f v u) (EP X pins σ Q) X.xe s
def UnR (X:Cx) (f:Value→Sem Value) (r:V→Hp→VK→Prop):Prop :=
  ∀ (pins:List (Addr × Obj)) (s:Shared) (σ:St) (H:Hp) (x:V) (v:Value) (Q:VK),Inv X pins σ H s→zby x v→r x H Q →
    wpAny (model X.prog X.w) X.A (f v) (EP X pins σ Q) X.xe s
def zdh (X:Cx) (f:Value) (r:List V→Hp→VK→Prop):Prop :=
  ∀ (pins:List (Addr × Obj)) (s:Shared) (σ:St) (H:Hp) (xs:List V) (us:List Value) (Q:VK),Inv X pins σ H s→za5 xs us→r xs H Q →
    wpAny (model X.prog X.w) X.A (call f us) (EP X pins σ Q) X.xe s
def tOp (r:R2) (ta tb:TE):TE:=fun σ H Q=>ta σ H fun x H1=>tb σ H1 fun y H2=>r x y H2 Q
def tUn (r:V→Hp→VK→Prop) (ta:TE):TE:=fun σ H Q=>ta σ H fun x H1=>r x H1 Q
def rI (C:Int→Int→Prop) (g:Int→Int→V):R2:=fun x y H Q=>∃ i j,x=.int i∧y=.int j∧C i j∧Q (g i j) H
def rI0 (g:Int→Int→V):R2:=fun x y H Q=>∃ i j,x=.int i∧y=.int j∧Q (g i j) H
def rU (g:Int→V):V→Hp→VK→Prop:=fun x H Q=>∃ i,x=.int i∧Q (g i) H
section
variable {X:Cx} {a b c:Expr} {ta tb tc:TE} {pos:Pos}
theorem zuH (ha:PE X a ta) (hb:PE X b tb) {pins:List (Addr × Obj)} {s:Shared} {σ:St} {H:Hp} {R:V→V→Hp→Prop} (I:Inv X pins σ H s)
    (h:ta σ H fun x H1=>tb σ H1 fun y H2=>R x y H2) {Q:Value→Shared→Prop} {f:Value→Value→Sem Value}
    (hf:∀ v u s2 x y H2,Inv X pins σ H2 s2→zby x v→zby y u→R x y H2→wpAny (model X.prog X.w) X.A (f v u) Q X.xe s2) :
    wpAny (model X.prog X.w) X.A (eval a X.env) (fun v s₁=>wpAny (model X.prog X.w) X.A (eval b X.env) (fun u s₂=>wpAny (model X.prog X.w) X.A (f v u) Q X.xe s₂) X.xe s₁) X.xe s:=by
  refine thn (ha pins s σ H _ I h) fun v s1 ⟨x,H1,I1,r1,q1⟩=>?_
  refine thn (hb pins s1 σ H1 _ I1 q1) fun u s2 ⟨y,H2,I2,r2,q2⟩=>?_
  exact hf v u s2 x y H2 I2 r1 r2 q2
theorem zpK {op:Operator} {r:R2} (ho:OpR X (binaryOp op) r) (ha:PE X a ta) (hb:PE X b tb):PE X (.BinOp a op b pos) (tOp r ta tb):=by
  intro pins s σ H Q I h
  exact wpAny_BinOp (zuH ha hb I h fun v u s2 x y H2 I2 rx ry q=>ho pins s2 σ H2 x y v u Q I2 rx ry q)
theorem zt1 {op:UnaryOp} {r:V→Hp→VK→Prop} (ho:UnR X (unaryOp op) r) (ha:PE X a ta):PE X (.UnaryOp op a pos) (tUn r ta):=by
  intro pins s σ H Q I h
  exact UnaryOp_ (thn (ha pins s σ H _ I h) fun v s1 ⟨x,H1,I1,r1,q1⟩=>ho pins s1 σ H1 x v Q I1 r1 q1)
theorem opI {f:Value→Value→Sem Value} {C:Int→Int→Prop} {g:Int→Int→Int}
    (rule:∀ (i j:Int) (t u:Tok) (s:Shared) (Q:Value→Shared→Prop) (E:Value→Shared→Prop),C i j→Q (.int (g i j) s.toks) { s with toks:=s.toks+1 }→wpAny (model X.prog X.w) X.A (f (.int i t) (.int j u)) Q E s) :
    OpR X f (rI C fun i j=>.int (g i j)):=by
  intro pins s σ H x y v u Q I rx ry h; obtain ⟨i,j,rfl,rfl,hc,q⟩:=h; obtain ⟨t,rfl⟩:=rx; obtain ⟨t',rfl⟩:=ry; exact rule i j t t' s _ _ hc ⟨.int (g i j),H,I.tok _,⟨_,rfl⟩,q⟩
theorem zu5 {f:Value→Value→Sem Value} {g:Int→Int→Int}
    (rule:∀ (i j:Int) (t u:Tok) (s:Shared) (Q:Value→Shared→Prop) (E:Value→Shared→Prop),Q (.int (g i j) s.toks) { s with toks:=s.toks+1 }→wpAny (model X.prog X.w) X.A (f (.int i t) (.int j u)) Q E s) :
    OpR X f (rI0 fun i j=>.int (g i j)):=by
  intro pins s σ H x y v u Q I rx ry h; obtain ⟨i,j,rfl,rfl,q⟩:=h; obtain ⟨t,rfl⟩:=rx; obtain ⟨t',rfl⟩:=ry; exact rule i j t t' s _ _ ⟨.int (g i j),H,I.tok _,⟨_,rfl⟩,q⟩
theorem zu6 {f:Value→Value→Sem Value} {g:Int→Int→Bool}
    (rule:∀ (i j:Int) (t u:Tok) (s:Shared) (Q:Value→Shared→Prop) (E:Value→Shared→Prop),Q (.bool (g i j)) s→wpAny (model X.prog X.w) X.A (f (.int i t) (.int j u)) Q E s) :
    OpR X f (rI0 fun i j=>.bl (g i j)):=by
  intro pins s σ H x y v u Q I rx ry h; obtain ⟨i,j,rfl,rfl,q⟩:=h; obtain ⟨t,rfl⟩:=rx; obtain ⟨t',rfl⟩:=ry; exact rule i j t t' s _ _ ⟨.bl (g i j),H,I,rfl,q⟩
def zf7 (i j:Int):Prop:=0<j∧j<1073741824
def zq1 (i j:Int):Prop:=0≤j∧j≤1000000∧i.natAbs<2 ^ 64
def zkh (i j:Int):Prop:=(-(2 ^ 64)<i∧i<2 ^ 64)∨(-(2 ^ 64)<j∧j<2 ^ 64)
theorem zkh.ok {i j:Int} (h:zkh i j):IntMulOk i j:=by
  rcases h with ⟨h1,h2⟩ | ⟨h1,h2⟩
  · exact .of_left (intBits_le_64 h1 h2)
  · exact .of_right (intBits_le_64 h1 h2)
theorem zr4:OpR X (binaryOp .Add) (rI0 fun i j=>.int (i+j)):=zu5 fun _ _ _ _ _ _ _ q=>add_int q
theorem zrY:OpR X (binaryOp .Sub) (rI0 fun i j=>.int (i-j)):=zu5 fun _ _ _ _ _ _ _ q=>sub_int q
theorem zr0:OpR X (binaryOp .Mult) (rI zkh fun i j=>.int (i * j)):=opI fun _ _ _ _ _ _ _ hc q=>mul_int q hc.ok
theorem zpU:OpR X (binaryOp .FloorDiv) (rI zf7 fun i j=>.int (i / j)):=opI fun i j _ _ _ _ _ hc q=>by
  have h1:(0:Int)<j:=hc.1
  have h2:j<1073741824:=hc.2
  exact floordiv_int (by omega) (by rw [Int.fdiv_eq_ediv_of_nonneg i (by omega)]; exact q) (.inl (PyProof.noPylong_small (by omega)))
theorem zr1:OpR X (binaryOp .Mod) (rI (fun _ j=>0<j) fun i j=>.int (i % j)):=opI fun i j _ _ _ _ _ hc q=>by
  have h1:(0:Int)<j:=hc
  exact mod_int' (by omega) (by rw [Int.fmod_eq_emod_of_nonneg i (by omega)]; exact q)
theorem zrZ:OpR X (binaryOp .Pow) (rI zq1 fun i j=>.int (i ^ j.toNat)):=opI fun _ _ _ _ _ _ _ hc q=>pow_int_small hc.1 hc.2.1 hc.2.2 q
theorem unI {f:Value→Sem Value} {g:Int→Int}
    (rule:∀ (i:Int) (t:Tok) (s:Shared) (Q:Value→Shared→Prop) (E:Value→Shared→Prop),Q (.int (g i) s.toks) { s with toks:=s.toks+1 }→wpAny (model X.prog X.w) X.A (f (.int i t)) Q E s) :
    UnR X f (rU fun i=>.int (g i)):=by
  intro pins s σ H x v Q I rx h; obtain ⟨i,rfl,q⟩:=h; obtain ⟨t,rfl⟩:=rx; exact rule i t s _ _ ⟨.int (g i),H,I.tok _,⟨_,rfl⟩,q⟩
theorem zq5:UnR X (unaryOp .USub) (rU fun i=>.int (-i)):=unI fun _ _ _ _ _ q=>neg_int q
end
def zpj:V→V→Bool
  | .non,.non=>true | .non,.int _=>true | .int _,.non=>true | .non,.bl _=>true | .bl _,.non=>true | .non,.str _=>true | .str _,.non=>true
  | .int _,.int _=>true | .bl _,.bl _=>true | .str _,.str _=>true | .byt _,.byt _=>true
  | .int _,.str _=>true | .str _,.int _=>true | .bl _,.str _=>true | .str _,.bl _=>true
  | _,_=>false
def rEq:R2:=fun x y H Q=>zpj x y=true∧Q (.bl (decide (x=y))) H
def rNe:R2:=fun x y H Q=>zpj x y=true∧Q (.bl (!decide (x=y))) H
theorem zmc {i j:Int}:decide (V.int i=V.int j)=(i == j):=by
  rw [Bool.eq_iff_iff]; simp
theorem zoX {i j:Bool}:decide (V.bl i=V.bl j)=(i == j):=by
  rw [Bool.eq_iff_iff]; simp
theorem zmb {i j:Str}:decide (V.str i=V.str j)=(i == j):=by
  rw [Bool.eq_iff_iff]; simp
theorem zmd {i j:Array UInt8}:decide (V.byt i=V.byt j)=(i.toList == j.toList):=by
  rw [Bool.eq_iff_iff]; cases i; cases j; simp
section
variable {X:Cx} {a b c:Expr} {ta tb tc:TE} {pos:Pos}
theorem zaW {pins:List (Addr × Obj)} {σ:St} {H:Hp} {s:Shared} {Q:VK} {k k':Bool} (I:Inv X pins σ H s) (q:Q (.bl k) H) (e:k=k'):EP X pins σ Q (.bool k') s:=by
  subst e; exact ⟨.bl k,H,I,rfl,q⟩
theorem zt8:OpR X (compareOp .Eq) rEq:=by
  intro pins s σ H x y v u Q I rx ry h; obtain ⟨hs,q⟩:=h
  cases x with
  | non =>
    cases rx
    cases y with
    | non=>cases ry; exact PySem.EqNone.eq_none_none (zaW I q (by simp))
    | bl j=>cases ry; exact PySem.EqNone.eq_none_bool (zaW I q (by simp))
    | int j=>obtain ⟨t',rfl⟩:=ry; exact PySem.EqNone.eq_none_int (zaW I q (by simp))
    | str j=>obtain ⟨t',rfl⟩:=ry; exact PySem.EqNone.eq_none_str (zaW I q (by simp))
    | _=>exact absurd (show false=true from hs) Bool.false_ne_true
  | bl i =>
    cases rx
    cases y with
    | non=>cases ry; exact PySem.EqNone.eq_bool_none (zaW I q (by simp))
    | bl j=>cases ry; exact eq_bool (zaW I q zoX)
    | str j=>obtain ⟨t',rfl⟩:=ry; exact PySem.EqMixed.eq_bool_str (zaW I q (by simp))
    | _=>exact absurd (show false=true from hs) Bool.false_ne_true
  | int i =>
    obtain ⟨t,rfl⟩:=rx
    cases y with
    | non=>cases ry; exact PySem.EqNone.eq_int_none (zaW I q (by simp))
    | int j=>obtain ⟨t',rfl⟩:=ry; exact eq_int (zaW I q zmc)
    | str j=>obtain ⟨t',rfl⟩:=ry; exact PySem.EqMixed.eq_int_str (zaW I q (by simp))
    | _=>exact absurd (show false=true from hs) Bool.false_ne_true
  | str i =>
    obtain ⟨t,rfl⟩:=rx
    cases y with
    | non=>cases ry; exact PySem.EqNone.eq_str_none (zaW I q (by simp))
    | bl j=>cases ry; exact PySem.EqMixed.eq_str_bool (zaW I q (by simp))
    | int j=>obtain ⟨t',rfl⟩:=ry; exact PySem.EqMixed.eq_str_int (zaW I q (by simp))
    | str j=>obtain ⟨t',rfl⟩:=ry; exact eq_str (zaW I q zmb)
    | _=>exact absurd (show false=true from hs) Bool.false_ne_true
  | byt i =>
    obtain ⟨t,rfl⟩:=rx
    cases y with
    | byt j=>obtain ⟨t',rfl⟩:=ry; exact PySem.W.eq_bytes (zaW I q zmd)
    | _=>exact absurd (show false=true from hs) Bool.false_ne_true
  | _=>cases y <;> exact absurd (show false=true from hs) Bool.false_ne_true
theorem zt5:OpR X (compareOp .NotEq) rNe:=by
  intro pins s σ H x y v u Q I rx ry h; obtain ⟨hs,q⟩:=h
  cases x with
  | non =>
    cases rx
    cases y with
    | non=>cases ry; exact PySem.EqNone.ne_none_none (zaW I q (by simp))
    | bl j=>cases ry; exact PySem.EqNone.ne_none_bool (zaW I q (by simp))
    | int j=>obtain ⟨t',rfl⟩:=ry; exact PySem.EqNone.ne_none_int (zaW I q (by simp))
    | str j=>obtain ⟨t',rfl⟩:=ry; exact PySem.EqNone.ne_none_str (zaW I q (by simp))
    | _=>exact absurd (show false=true from hs) Bool.false_ne_true
  | bl i =>
    cases rx
    cases y with
    | non=>cases ry; exact PySem.EqNone.ne_bool_none (zaW I q (by simp))
    | bl j=>cases ry; exact ne_bool (zaW I q (congrArg not zoX))
    | str j=>obtain ⟨t',rfl⟩:=ry; exact PySem.EqMixed.ne_bool_str (zaW I q (by simp))
    | _=>exact absurd (show false=true from hs) Bool.false_ne_true
  | int i =>
    obtain ⟨t,rfl⟩:=rx
    cases y with
    | non=>cases ry; exact PySem.EqNone.ne_int_none (zaW I q (by simp))
    | int j=>obtain ⟨t',rfl⟩:=ry; exact ne_int (zaW I q (congrArg not zmc))
    | str j=>obtain ⟨t',rfl⟩:=ry; exact PySem.EqMixed.ne_int_str (zaW I q (by simp))
    | _=>exact absurd (show false=true from hs) Bool.false_ne_true
  | str i =>
    obtain ⟨t,rfl⟩:=rx
    cases y with
    | non=>cases ry; exact PySem.EqNone.ne_str_none (zaW I q (by simp))
    | bl j=>cases ry; exact PySem.EqMixed.ne_str_bool (zaW I q (by simp))
    | int j=>obtain ⟨t',rfl⟩:=ry; exact PySem.EqMixed.ne_str_int (zaW I q (by simp))
    | str j=>obtain ⟨t',rfl⟩:=ry; exact ne_str (zaW I q (congrArg not zmb))
    | _=>exact absurd (show false=true from hs) Bool.false_ne_true
  | byt i =>
    obtain ⟨t,rfl⟩:=rx
    cases y with
    | byt j=>obtain ⟨t',rfl⟩:=ry; exact PySem.W.ne_bytes (zaW I q (congrArg not zmd))
    | _=>exact absurd (show false=true from hs) Bool.false_ne_true
  | _=>cases y <;> exact absurd (show false=true from hs) Bool.false_ne_true
theorem zt6:OpR X (compareOp .Lt) (rI0 fun i j=>.bl (decide (i<j))):=zu6 fun _ _ _ _ _ _ _ q=>lt_int q
theorem zt7:OpR X (compareOp .Gt) (rI0 fun i j=>.bl (decide (j<i))):=zu6 fun _ _ _ _ _ _ _ q=>gt_int q
theorem zr2:OpR X (compareOp .Is) (fun x y H Q=>y=.non∧Q (.bl (decide (x=.non))) H):=by
  intro pins s σ H x y v u Q I rx ry h; obtain ⟨rfl,q⟩:=h; cases ry; refine is_none_gen (zaW I q ?_)
  cases x <;> first
    | (cases rx; rfl)
    | (obtain ⟨t,rfl⟩:=rx; rfl)
theorem zpS:OpR X (compareOp .IsNot) (fun x y H Q=>y=.non∧Q (.bl (!decide (x=.non))) H):=by
  intro pins s σ H x y v u Q I rx ry h; obtain ⟨rfl,q⟩:=h; cases ry; refine isnot_none_gen (zaW I q ?_)
  cases x <;> first
    | (cases rx; rfl)
    | (obtain ⟨t,rfl⟩:=rx; rfl)
theorem OpR.or {f:Value→Value→Sem Value} {r r':R2} (h:OpR X f r) (h':OpR X f r'):OpR X f (fun x y H Q=>r x y H Q∨r' x y H Q):=by
  intro pins s σ H x y v u Q I rx ry q
  rcases q with q | q
  · exact h pins s σ H x y v u Q I rx ry q
  · exact h' pins s σ H x y v u Q I rx ry q
theorem zoz (b:Expr) {op:CmpOp} (h:op≠.In:=by decide) (h2:op≠.NotIn:=by decide):behindInMarks op b=false:=by
  have e1:(op == CmpOp.In)=false:=by cases op <;> first | rfl | exact absurd rfl h
  have e2:(op == CmpOp.NotIn)=false:=by cases op <;> first | rfl | exact absurd rfl h2
  cases b <;> simp [behindInMarks,e1,e2]
theorem zpO {op:CmpOp} {r:R2} (ho:OpR X (compareOp op) r) (ha:PE X a ta) (hb:PE X b tb) (hm:behindInMarks op b=false):PE X (.Compare a [op] [b] pos) (tOp r ta tb):=by
  intro pins s σ H Q I h
  exact wpAny_Compare1 (zuH ha hb I h fun v u s2 x y H2 I2 rx ry q=>ho pins s2 σ H2 x y v u Q I2 rx ry q) hm
def ztz (t:TE):TT:=fun σ H Q=>t σ H fun x H'=>∃ k,x=.bl k∧Q k H'
theorem zpw {op:CmpOp} {r:R2} (ho:OpR X (compareOp op) r) (ha:PE X a ta) (hb:PE X b tb) (hm:behindInMarks op b=false):PT X (.Compare a [op] [b] pos) (ztz (tOp r ta tb)):=by
  intro pins s σ H Q I h
  refine wpAny_isTrue_Compare1 (thn (ha pins s σ H _ I h) fun v s1 ⟨x,H1,I1,r1,q1⟩=>thn (hb pins s1 σ H1 _ I1 q1) fun u s2 ⟨y,H2,I2,r2,q2⟩ =>
    thn (ho pins s2 σ H2 x y v u _ I2 r1 r2 q2) fun c s3 ⟨z,H3,I3,r3,k,e,q3⟩=>?_) hm
  subst e; cases r3; exact wpAny_truthy_bool ⟨H3,I3,q3⟩
theorem zgl:(sizeLine:Nat)<2 ^ 63:=by rw [sizeLine_eq]; decide
theorem zkz:OpR X (binaryOp .Add) (fun x y H Q=>∃ i j,x=.str i∧y=.str j∧i.length+j.length≤sizeLine∧Q (.str (i ++ j)) H):=by
  intro pins s σ H x y v u Q I rx ry h; obtain ⟨i,j,rfl,rfl,hz,q⟩:=h; obtain ⟨t,rfl⟩:=rx; obtain ⟨t',rfl⟩:=ry
  exact add_str (fun t' tk=>⟨.str (i ++ j),H,I.tok _,⟨_,rfl⟩,q⟩) hz
theorem zdj {x:V} {us:List Value} (r:za5 [x] us):∃ u,us=[u]∧zby x u:=by
  cases r with
  | cons r1 r2=>cases r2; exact ⟨_,rfl,r1⟩
theorem zq4 {x y:V} {us:List Value} (r:za5 [x,y] us):∃ u w',us=[u,w']∧zby x u∧zby y w':=by
  cases r with
  | cons r1 r2 =>
    cases r2 with
    | cons r3 r4=>cases r4; exact ⟨_,_,rfl,r1,r3⟩
theorem zoj:zdh X (.builtin "abs") (fun xs H Q=>∃ i,xs=[.int i]∧Q (.int (if i<0 then -i else i)) H):=by
  intro pins s σ H xs us Q I r h; obtain ⟨i,rfl,q⟩:=h; obtain ⟨u,rfl,t,rfl⟩:=zdj r
  exact call_abs_int fun u tk=>⟨.int (if i<0 then -i else i),H,I.tok _,⟨_,rfl⟩,q⟩
theorem zmt:zdh X (.type "int") (fun xs H Q=>(∃ i,xs=[.int i]∧Q (.int i) H)∨∃ k,xs=[.bl k]∧Q (.int (if k then 1 else 0)) H):=by
  intro pins s σ H xs us Q I r h
  rcases h with ⟨i,rfl,q⟩ | ⟨k,rfl,q⟩
  · obtain ⟨u,rfl,t,rfl⟩:=zdj r
    exact call_int_int ⟨.int i,H,I,⟨_,rfl⟩,q⟩
  · obtain ⟨u,rfl,r1⟩:=zdj r
    cases r1
    exact call_int_bool ⟨.int (if k then 1 else 0),H,I.tok _,⟨_,rfl⟩,q⟩
theorem zh9:zdh X (.type "str") (fun xs H Q=>∃ i,xs=[.int i]∧i.natAbs.log2<1920∧Q (.str (toString i)) H):=by
  intro pins s σ H xs us Q I r h; obtain ⟨i,rfl,hz,q⟩:=h; obtain ⟨u,rfl,t,rfl⟩:=zdj r; exact PySem.P.str_of_int hz ⟨.str _,H,I.tok _,⟨_,rfl⟩,q⟩
end
end L2
namespace L2
open PySem PySem.Spec PyProof.Rows
structure ObjM (h:Heap) (x dx C:Addr) (mA:Str→Option Value):Prop where
  obj:h.get? x=some (PySem.W.instObj C dx)
  ns:h.Ns1 dx mA
  ne:dx≠x
theorem zhM {h:Heap} {dx:Addr} {mA:Str→Option Value} (n:h.Ns1 dx mA):∃ od,h.get? dx=some od∧∀ name,PySem.W.lookIn name od=some (mA name):=by
  obtain ⟨o,es,ep,ho,hd,hk,_,hm⟩:=n
  refine ⟨o,ho,fun name=>?_⟩
  have e:=hm name; unfold nsFind findBy at e; rw [← Array.find?_toList] at e; unfold PySem.W.lookIn; rw [hd]
  dsimp only
  split
  · rename_i y q
    rw [q] at e; exact congrArg some e
  · rename_i q
    rw [q] at e
    have a:es.toList.any (·.refKey)=false:=by
      rw [List.any_eq_false]; intro y hy; obtain ⟨z,t,hkey⟩:=hk y (Array.mem_toList_iff.mp hy); simp [DictEntry.refKey,hkey]
    have a':¬ es.toList.any (·.refKey)=true:=by rw [a]; exact Bool.false_ne_true
    rw [if_neg a']; exact congrArg some e
theorem ObjM.look {h:Heap} {x dx C:Addr} {mA:Str→Option Value} (I:ObjM h x dx C mA):∃ od,PySem.W.InstAt h x (PySem.W.instObj C dx) C (some od)∧∀ name,PySem.W.lookIn name od=some (mA name) :=
  let ⟨od,ho,hl⟩:=zhM I.ns
  ⟨od,⟨I.obj,rfl,rfl,ho⟩,hl⟩
section
variable {prog:Program} {w:World} {A:Around} {E:Value→Shared→Prop} {s:Shared} {K:PySem.W.Frag} {x dx C f:Addr} {mA:Str→Option Value} {name:Str} {v:Value}
theorem zqq {expr:Bool} {Q:Value→Shared→Prop} (X:K.In s.heap) (I:ObjM s.heap x dx C mA) (hg:PySem.W.plainGet K C name=true) (hh:PySem.W.hasDictIn K C=true)
    (ha:PySem.W.findIn K (.ref C) name=some none) (hv:mA name=some v) (hv':PySem.W.handedIn v=true) (h:Q v { s with toks:=s.toks+1 }) :
    wpAny (model prog w) A (getAttr (.ref x) name expr) Q E s:=by
  obtain ⟨od,J,hl⟩:=I.look
  exact PySem.W.get_value X J (PySem.W.plainGet_of hg).1 (PySem.W.findObj_own hh ha rfl (by rw [hl,hv])) hv' h
theorem zpg {ns:List Str} {Q:Unit→Shared→Prop} (X:K.In s.heap) (I:ObjM s.heap x dx C mA)
    (hs:PySem.W.findIn K (.ref C) "__setattr__"=some (some (.builtin "object.__setattr__"))) (hp:PySem.W.plainOver K C=true) (ht:PySem.W.takerIn K C name=some none) (hh:PySem.W.hasDictIn K C=true)
    (hw:PySem.Within mA ns) (hsz:ns.length≤sizeLine)
    (h:∀ h',ObjM h' x dx C (fun y=>if y=name then some v else mA y)→Heap.SameBut dx s.heap h'→Q () { s with heap:=h',toks:=s.toks+2 }) :
    wpAny (model prog w) A (setAttr (.ref x) name v) Q E s:=by
  obtain ⟨od,J,hl⟩:=I.look
  refine PySem.W.set_plain X J hs (PySem.W.osa_open (s:={ s with toks:=s.toks+1 }) (r:=none) X J hp ht fun b=>?_)
  obtain ⟨cd,hc,hd'⟩:=PySem.W.any_some hh
  have hx:s.heap.get? x=some ⟨.ref C,some dx,.plain,#[]⟩:=I.obj
  refine wpAny_bind (wpAny_pure (wpAny_bind (wpAny_bind (wpAny_loadPart hx (wpAny_bind (PySem.W.Looks.here (s:={ s with toks:=s.toks+1 }) (PySem.W.looks_clsIn X hc) ?_))))))
  rw [hd']; refine wpAny_pure (a:=some dx) (wpAny_bind (wpAny_pure (wpAny_bind ?_)))
  refine wpAny_nsSet1 (s:={ s with toks:=s.toks+1 }) I.ns fun h' hn2 hs2=>?_
  obtain ⟨oD,esD,epD,hoD,hdD,hcD⟩:=hn2.count (PySem.Within.cons name v hw)
  refine wpAny_bind (wpAny_lookBehind hoD (by rw [hdD]; exact pastItsLine_dict (Nat.le_trans hcD (by rw [List.length_cons]; omega))) ?_)
  exact wpAny_pure (h _ ⟨(hs2.2 _ (Ne.symm I.ne)).trans I.obj,hn2,I.ne⟩ hs2)
theorem znw {R:Result→Shared→Prop} {vs:List Value} {kw:List (Str × Value)} (X:K.In s.heap) (hm:PySem.W.makesIn K C=true)
    (hi:PySem.W.findIn K (.ref C) "__init__"=some (some (.ref f))) (hf:PySem.W.typeIn K (.ref f)=some (.type "function"))
    (h:codeAny (model prog w) (A.under (.builtin "type.__call__" ⟨.ref C :: vs,kw⟩)) (.call (.ref f) ⟨.ref (s.heap.objs.size+1) :: vs,kw⟩) (PySem.W.InitBack (s.heap.objs.size+1) R)
      { s with heap:=(s.heap.push PySem.W.emptyDict).push (PySem.W.instObj C s.heap.objs.size) }) :
    codeAny (model prog w) A (.call (.ref C) ⟨vs,kw⟩) R s:=by
  obtain ⟨hh,g,d,t,os⟩:=s
  exact PySem.W.make_core (PySem.W.makes_of X hm) (PySem.W.looks_findIn X hi) (fun self=>PySem.W.bind_fn X self hf) (.inl rfl) h
end
def zfs (f:Str) (v:V):List (Str × V)→List (Str × V)
  | []=>[(f,v)]
  | (g,x) :: r=>if g=f then (g,v) :: r else (g,x) :: zfs f v r
theorem zfJ (f g:Str) (v:V):∀ fs:List (Str × V),(zfs f v fs).lookup g=if g=f then some v else fs.lookup g
  | []=>by
    show List.lookup g [(f,v)]=_
    by_cases h:g=f
    · have hb:(g == f)=true:=beq_iff_eq.mpr h
      simp only [List.lookup,hb,if_pos h]
    · have hb:(g == f)=false:=beq_eq_false_iff_ne.mpr h
      simp only [List.lookup,hb,if_neg h]
  | (k,x) :: r=>by
    have ih:=zfJ f g v r
    rw [show zfs f v ((k,x) :: r)=(if k=f then (k,v) :: r else (k,x) :: zfs f v r) from rfl]
    by_cases hk:k=f
    · rw [if_pos hk]
      by_cases h:g=k
      · have hb:(g == k)=true:=beq_iff_eq.mpr h
        simp only [List.lookup,hb,if_pos (h.trans hk)]
      · have hb:(g == k)=false:=beq_eq_false_iff_ne.mpr h
        simp only [List.lookup,hb,if_neg (fun e:g=f=>h (e.trans hk.symm))]
    · rw [if_neg hk]
      by_cases h:g=k
      · have hb:(g == k)=true:=beq_iff_eq.mpr h
        simp only [List.lookup,hb,if_neg (fun e:g=f=>hk (h.symm.trans e))]
      · have hb:(g == k)=false:=beq_eq_false_iff_ne.mpr h
        simp only [List.lookup,hb]; exact ih
theorem zfO (f:Str) (v:V):∀ fs:List (Str × V),f ∈ (zfs f v fs).map (·.1)∧∀ g,g ∈ fs.map (·.1)→g ∈ (zfs f v fs).map (·.1)
  | []=>⟨by simp [zfs],fun g h=>by simp at h⟩
  | (k,x) :: r=>by
    obtain ⟨i1,i2⟩:=zfO f v r
    rw [show zfs f v ((k,x) :: r)=(if k=f then (k,v) :: r else (k,x) :: zfs f v r) from rfl]
    by_cases hk:k=f
    · rw [if_pos hk]
      subst hk
      exact ⟨by simp,fun g h=>by simpa using h⟩
    · rw [if_neg hk]
      refine ⟨?_,fun g h=>?_⟩
      · rw [List.map_cons]
        exact List.mem_cons_of_mem _ i1
      · rw [List.map_cons] at h ⊢
        rcases List.mem_cons.mp h with e | e
        · exact List.mem_cons.mpr (.inl e)
        · exact List.mem_cons_of_mem _ (i2 g e)
theorem zfL (f:Str) (v:V):∀ fs:List (Str × V),(zfs f v fs).length≤fs.length+1
  | []=>by simp [zfs]
  | (k,x) :: r=>by
    have ih:=zfL f v r
    rw [show zfs f v ((k,x) :: r)=(if k=f then (k,v) :: r else (k,x) :: zfs f v r) from rfl]
    by_cases hk:k=f
    · rw [if_pos hk,List.length_cons,List.length_cons]; omega
    · rw [if_neg hk,List.length_cons,List.length_cons]; omega
theorem zik.some_of {v:V} {o:Option Value} (r:zik (some v) o):∃ u,o=some u∧zby v u:=by
  cases o with
  | none=>exact (show False from r).elim
  | some u=>exact ⟨u,rfl,r⟩
theorem zhW {v:V} {u:Value} (r:zby v u):PySem.W.handedIn u=true:=by
  cases v with
  | non=>cases (show u=Value.none from r); rfl
  | bl b=>cases (show u=Value.bool b from r); rfl
  | int i=>obtain ⟨t,e⟩:=(show ∃ t,u=Value.int i t from r); cases e; rfl
  | str x=>obtain ⟨t,e⟩:=(show ∃ t,u=Value.str x t from r); cases e; rfl
  | byt b=>obtain ⟨t,e⟩:=(show ∃ t,u=Value.bytes b t from r); cases e; rfl
  | flt b=>obtain ⟨t,e⟩:=(show ∃ t,u=Value.float b t from r); cases e; rfl
  | ref a=>cases (show u=Value.ref a from r); rfl
  | ty n=>cases (show u=Value.type n from r); rfl
section
variable {P:Program} {w:World} {H H':Hp} {h h':Heap} {a C dx:Addr} {fs fs':List (Str × V)}
theorem zi8 (hok:HOk P w H h) (e:H a=some (.ins C dx fs)):∃ mA,ObjM h a dx C mA∧(∀ f,zik (fs.lookup f) (mA f))∧PySem.Within mA (fs.map (·.1))∧fs.length≤1000∧H dx=some (.own a):=by
  obtain ⟨d,z,ne,ob,mA,n,r,q⟩:=(show zbT P w H h a (.ins C dx fs) from hok a _ e)
  exact ⟨mA,⟨ob,n,ne⟩,r,q,z,d⟩
end
structure Cls (K:PySem.W.Frag) (C:Addr):Prop where
  pg:PySem.W.plainGet K C Str.empty=true
  hd:PySem.W.hasDictIn K C=true
  po:PySem.W.plainOver K C=true
  sa:PySem.W.findIn K (.ref C) "__setattr__"=some (some (.builtin "object.__setattr__"))
theorem Cls.get {K:PySem.W.Frag} {C:Addr} (c:Cls K C) (f:Str):PySem.W.plainGet K C f=true:=c.pg
def zbO (K:PySem.W.Frag) (C:Addr) (f:Str):Prop:=PySem.W.findIn K (.ref C) f=some none
theorem zbO.taker {K:PySem.W.Frag} {C:Addr} {f:Str} (n:zbO K C f):PySem.W.takerIn K C f=some none:=by
  unfold PySem.W.takerIn
  rw [show PySem.W.findIn K (.ref C) f=some none from n]
  rfl
section
variable {X:Cx} {pins:List (Addr × Obj)} {σ:St} {H:Hp} {s:Shared} {a C dx:Addr} {fs:List (Str × V)} {f:Str} {v:V} {A:Around} {E:Value→Shared→Prop}
theorem zkN {b:Bool} {Q:Value→Shared→Prop} (I:Inv X pins σ H s) (e:H a=some (.ins C dx fs)) (c:Cls X.K C) (n:zbO X.K C f) (l:fs.lookup f=some v)
    (h:∀ u s',Inv X pins σ H s'→zby v u→Q u s'):wpAny (model X.prog X.w) A (getAttr (.ref a) f b) Q E s:=by
  obtain ⟨mA,O,r,_,_,_⟩:=zi8 I.hok e
  obtain ⟨u,hu,ru⟩:=zik.some_of (v:=v) (o:=mA f) (by rw [← l]; exact r f)
  exact zqq I.kIn O (c.get f) c.hd n hu (zhW ru) (h u _ (I.tok _) ru)
theorem zkp {y:V} {u:Value} {Q:Unit→Shared→Prop} (I:Inv X pins σ H s) (e:H a=some (.ins C dx fs)) (c:Cls X.K C) (n:zbO X.K C f) (hl:fs.length<1000) (ry:zby y u)
    (h:∀ s',Inv X pins σ (upd H a (.ins C dx (zfs f y fs))) s'→Q () s'):wpAny (model X.prog X.w) A (setAttr (.ref a) f u) Q E s:=by
  obtain ⟨mA,O,r,wi,_,ho⟩:=zi8 I.hok e
  have hz:(fs.map (·.1)).length≤sizeLine:=by rw [List.length_map,sizeLine_eq]; omega
  refine zpg I.kIn O c.sa c.po n.taker c.hd wi hz fun h' O' sb=>h _ ?_
  have hd:∃ o,h'.get? dx=some o:=let ⟨o,_,_,e',_⟩:=O'.ns; ⟨o,e'⟩
  refine I.write (x:=a) (e:=dx) (by rw [e]; exact True.intro) (.inr ho) (fun b q hb z=>(sb.2 b hb).trans z) hd ?_
  refine ⟨by rw [zaE O.ne]; exact ho,?_,O.ne,O'.obj,_,O'.ns,fun g=>?_,fun g hg=>?_⟩
  · have:=zfL f y fs; omega
  · show zik ((zfs f y fs).lookup g) (if g=f then some u else mA g)
    rw [zfJ]
    by_cases q:g=f
    · rw [if_pos q,if_pos q]; exact ry
    · rw [if_neg q,if_neg q]; exact r g
  · by_cases q:g=f
    · rw [q]; exact (zfO f y fs).1
    · refine (zfO f y fs).2 g (wi g fun z=>hg ?_)
      show (if g=f then some u else mA g)=none
      rw [if_neg q]; exact z
theorem Inv.made (I:Inv X pins σ H s):Inv X pins σ (upd (upd H s.heap.objs.size (.own (s.heap.objs.size+1))) (s.heap.objs.size+1) (.ins C s.heap.objs.size []))
    { s with heap:=(s.heap.push PySem.W.emptyDict).push (PySem.W.instObj C s.heap.objs.size) }:=by
  have e1:(s.heap.push PySem.W.emptyDict).get? s.heap.objs.size=some PySem.W.emptyDict:=Heap.get?_push_size s.heap rfl
  have e2:((s.heap.push PySem.W.emptyDict).push (PySem.W.instObj C s.heap.objs.size)).get? (s.heap.objs.size+1)=some (PySem.W.instObj C s.heap.objs.size):=by
    have:=Heap.get?_push_size (s.heap.push PySem.W.emptyDict) (o:=PySem.W.instObj C s.heap.objs.size) rfl
    rwa [Heap.size_push] at this
  have e3:(s.heap.push PySem.W.emptyDict).Ns s.heap.objs.size (fun _=>none):=⟨PySem.W.emptyDict,#[],_,e1,rfl,(fun e he=>absurd he (by simp)),fun _=>rfl⟩
  have I1:=I.laid (a:=s.heap.objs.size) (o:=.own (s.heap.objs.size+1)) (h':=s.heap.push PySem.W.emptyDict) (t':=s.toks) (fun b u q=>Heap.get?_push_of_some _ q) (Nat.le_refl _) ⟨_,e1⟩
  refine I1.laid (a:=s.heap.objs.size+1) (o:=.ins C s.heap.objs.size []) (t':=s.toks) (fun b u q=>Heap.get?_push_of_some _ q) (Nat.le_of_eq (Heap.size_push _ _)) ?_
  have ne:s.heap.objs.size≠s.heap.objs.size+1:=Nat.ne_of_lt (Nat.lt_succ_self _)
  refine ⟨by rw [zaE ne,zP],Nat.zero_le _,ne,e2,fun _=>none,(Heap.Ns1.of_empty e3).at fun o q=>Heap.get?_push_of_some _ q,fun _=>True.intro,fun y hy=>absurd rfl hy⟩
theorem zqJ {prog:Program} {w:World} {env:Env} {e:Expr} {f:Str} {pos:Pos} {s:Shared} {Q:Value→Shared→Prop} (hb:attributeBase e f env (eval e env)=eval e env)
    (h:wpAny (model prog w) A (eval e env) (fun o s₁=>wpAny (model prog w) A (getAttr o f true) Q E s₁) E s):wpAny (model prog w) A (eval (.Attribute e f pos) env) Q E s :=
  Attribute_any_ h (by rw [arm_eval_Attribute,hb])
end
def zvx (K:PySem.W.Frag) (ta tv:TE) (f:Str):TS:=fun D σ H=>tv σ H fun y H1=>ta σ H1 fun x H2=>∃ a C dx fs,x=.ref a∧H2 a=some (.ins C dx fs)∧Cls K C∧zbO K C f∧fs.length<1000 ∧
  D.nx σ (upd H2 a (.ins C dx (zfs f y fs)))
section
variable {X:Cx} {o e value:Expr} {f:Str} {pos pos' tpos:Pos} {ta tv:TE}
theorem zhz (ha:PE X o ta) (hv:PE X value tv) (hs:swapsWith value (some (.Attribute o f pos')) pos.line X.env=pure false):PS X (.Assign [.Attribute o f pos'] value pos) (zvx X.K ta tv f):=by
  intro pins s σ H D I h
  refine plainObj_wpAny_Assign_Attribute (thn (hv pins s σ H _ I h) fun u s1 ⟨y,H1,I1,ry,q⟩=>thn (ha pins s1 σ H1 _ I1 q) fun ov s2 ⟨x,H2,I2,rx,a,C,dx,fs,ex,ea,c,n,l,q2⟩=>?_) hs
  subst ex
  obtain rfl:ov=Value.ref a:=rx
  exact zkp I2 ea c n l ry fun s3 I3=>⟨σ,_,I3,q2⟩
end
section
variable {X:Cx} {pins:List (Addr × Obj)} {σ:St} {H:Hp} {s:Shared} {A:Around} {E:Value→Shared→Prop} {Q:Value→Shared→Prop} {c:Value} {b:Bool}
end
end L2
namespace L2
open PySem PySem.Spec PyProof.Rows
structure Room (k:Nat) (A:Around):Prop where
  hd:A.handled=none
  dp:A.depth+3 * k+5<recursionLimit
  un:A.units+16 * k+200<cLine
theorem Room.mono {j k:Nat} {A:Around} (r:Room k A) (h:j≤k):Room j A:=⟨r.hd,by have:=r.dp; omega,by have:=r.un; omega⟩
theorem Room.deeper {k:Nat} {A:Around} (r:Room (k+1) A) (env:Env):Room k (A.deeper env) :=
  ⟨r.hd,by have:=r.dp; show A.depth+1+3 * k+5<_; omega,by have:=r.un; show A.units+3+16 * k+200<_; omega⟩
theorem Room.in1 {k:Nat} {A:Around} (r:Room (k+1) A):Room k A.in1 :=
  ⟨r.hd,by have:=r.dp; show A.depth+3 * k+5<_; omega,by have:=r.un; show A.units+1+16 * k+200<_; omega⟩
theorem zkG {A:Around} {C:Addr} {us:List Value} {kw:List (Str × Value)}:(A.under (.builtin "type.__call__" ⟨.ref C :: us,kw⟩)).depth=A.depth+1:=by
  first | rfl | simp [Around.under,Code.weight,Code.isCreation,Code.isGuard,Code.isCaller,Code.frames,Code.isFrame,guardIds]
theorem zkF {A:Around} {C:Addr} {us:List Value} {kw:List (Str × Value)}:(A.under (.builtin "type.__call__" ⟨.ref C :: us,kw⟩)).units=A.units+1:=by
  first | rfl | simp [Around.under,Code.cUnits,Code.frames,Code.isFrame]
theorem Room.make {k:Nat} {A:Around} (r:Room (k+1) A) (C:Addr) (us:List Value) (kw:List (Str × Value)):Room k (A.under (.builtin "type.__call__" ⟨.ref C :: us,kw⟩)) :=
  ⟨r.hd,by have:=r.dp; rw [zkG]; omega,by have:=r.un; rw [zkF]; omega⟩
theorem Room.depth {k:Nat} {A:Around} (r:Room k A):A.depth<recursionLimit:=by have:=r.dp; omega
theorem Room.units {k:Nat} {A:Around} (r:Room k A):A.units+64<cLine:=by have:=r.un; omega
def zuT:TA:=fun _ H Q=>Q [] H
def zrd (ta:TE) (tr:TA):TA:=fun σ H Q=>ta σ H fun x H1=>tr σ H1 fun xs H2=>Q (x :: xs) H2
section
variable {X:Cx} {e:Expr} {es:List Expr} {te:TE} {t:TA} {pos:Pos}
theorem zhG:PA X [] zuT:=fun _ _ _ _ H Q I h=>Calls.spliced_nil ⟨[],H,I,.nil,h⟩
theorem zdv (ha:PE X e te) (hr:PA X es t) (hs:starEach (e :: es) X.env=(false,eval e X.env) :: starEach es X.env:=by rfl):PA X (e :: es) (zrd te t):=by
  intro pos pins s σ H Q I h; rw [hs]
  show wpAny _ _ (spliced ((false,eval e X.env) :: backTo pos (starEach es X.env))) _ _ s
  refine Calls.spliced_cons (thn (ha pins s σ H _ I h) fun u s1 ⟨x,H1,I1,r1,q1⟩=>?_)
  exact thn (hr pos pins s1 σ H1 _ I1 q1) fun us s2 ⟨xs,H2,I2,r2,q2⟩=>⟨x :: xs,H2,I2,.cons r1 r2,q2⟩
def zvo (t:TA):TE:=fun σ H Q=>t σ H fun xs H1=>xs.length≤sizeLine∧∀ p,H1 p=none→Q (.ref p) (upd H1 p (.tup xs))
def zvs (t:TA):TE:=fun σ H Q=>t σ H fun xs H1=>xs.length≤sizeLine∧∀ p,H1 p=none→Q (.ref p) (upd H1 p (.lst xs))
theorem zou {x1} (h:PA X es t):PE X (.Tuple es x1 pos) (zvo t):=by
  intro pins s σ H Q I hq
  refine wpAny_Tuple_spliced (thn (h pos pins s σ H _ I hq) fun us s1 ⟨xs,H1,I1,r,z,q⟩=>⟨by rw [← r.length]; exact z,?_⟩)
  have hf:H1 s1.heap.objs.size=none:=I1.hok.fresh (Nat.le_refl _)
  refine ⟨.ref s1.heap.objs.size,upd H1 s1.heap.objs.size (.tup xs),I1.laid (t':=s1.toks) (fun b u e=>Heap.get?_push_of_some _ e) (Nat.le_refl _) ?_,rfl,q _ hf⟩
  exact ⟨z,us,r,⟨_,Heap.get?_push_size _ rfl,rfl,_,rfl⟩⟩
theorem zrT (h:PA X es t):PE X (.List es pos) (zvs t):=by
  intro pins s σ H Q I hq
  refine wpAny_List_spliced (thn (h pos pins s σ H _ I hq) fun us s1 ⟨xs,H1,I1,r,z,q⟩=>⟨by rw [← r.length]; exact z,?_⟩)
  have hf:H1 s1.heap.objs.size=none:=I1.hok.fresh (Nat.le_refl _)
  refine ⟨.ref s1.heap.objs.size,upd H1 s1.heap.objs.size (.lst xs),I1.laid (t':=s1.toks) (fun b u e=>Heap.get?_push_of_some _ e) (Nat.le_refl _) ?_,rfl,q _ hf⟩
  exact ⟨z,us,0,r,Heap.get?_push_size _ rfl⟩
end
abbrev Sp:=List V→Hp→VK→XK→Prop
abbrev CXT:=List Env→Hp→Shared→XK→Value→Shared→Prop
structure Env0 (P:Program) (w:World) (K:PySem.W.Frag) (mg:Str→Option Value) (base:Heap) (A:Around) (outer:List Env) (s:Shared) (H:Hp):Prop where
  frames:A.frames=some outer
  mod:Mod K mg base
  bs:∀ b o,base.get? b=some o→s.heap.get? b=some o∧H b=none
  bsz:base.objs.size≤s.heap.objs.size
  funs:s.heap.FunFrames base outer
  frf:∀ b ∈ frs outer,H b=none
  hok:HOk P w H s.heap
  bare:AllBare s.gens
  tab:zkT base H
def CE (outer:List Env) (P:Program) (w:World) (H:Hp) (s:Shared) (Q:VK) (u:Value) (s':Shared):Prop :=
  ∃ v H',s'.os=s.os∧AllBare s'.gens∧Un (frs outer) [] H H' s.heap s'.heap∧HOk P w H' s'.heap∧zby v u∧Q v H'
def CR (CX:CXT) (outer:List Env) (P:Program) (w:World) (H:Hp) (s:Shared) (Q:VK) (E:XK) (r:Result) (s':Shared):Prop :=
  match r with
  | .ok (.ret u)=>CE outer P w H s Q u s'
  | .ok _=>False
  | .error e=>CX outer H s E e s'
structure FnOk (P:Program) (w:World) (K:PySem.W.Frag) (mg:Str→Option Value) (base:Heap) (CX:CXT) (k:Nat) (f:Addr) (fd:FuncData) (ps:List Str) (sp:Sp):Prop where
  len:∀ vs H Q E,sp vs H Q E→vs.length=ps.length
  run:∀ (A:Around) (outer:List Env) (s:Shared) (H:Hp) (args:Args) (us:List Value) (vs:List V) (Q:VK) (E:XK),Room k A→Env0 P w K mg base A outer s H→BindsTo s fd args (ps.zip us)→za5 vs us→sp vs H Q E →
    codeAny (model P w) A (.call (.ref f) args) (CR CX outer P w H s Q E) s
theorem Env0.make {P:Program} {w:World} {K:PySem.W.Frag} {mg:Str→Option Value} {base:Heap} {A:Around} {outer:List Env} {s:Shared} {H:Hp} (e:Env0 P w K mg base A outer s H) (C:Addr) (us:List Value) (kw:List (Str × Value)) :
    Env0 P w K mg base (A.under (.builtin "type.__call__" ⟨.ref C :: us,kw⟩)) outer s H:=⟨by first | exact e.frames | (simpa [Around.under,Code.envs,Code.isFrame,pushEnvs] using e.frames),e.mod,e.bs,e.bsz,e.funs,e.frf,e.hok,e.bare,e.tab⟩
theorem Env0.in1 {P:Program} {w:World} {K:PySem.W.Frag} {mg:Str→Option Value} {base:Heap} {A:Around} {outer:List Env} {s:Shared} {H:Hp} (e:Env0 P w K mg base A outer s H) :
    Env0 P w K mg base A.in1 outer s H:=⟨e.frames,e.mod,e.bs,e.bsz,e.funs,e.frf,e.hok,e.bare,e.tab⟩
section
variable {X:Cx} {pins:List (Addr × Obj)} {σ:St} {H:Hp} {s s':Shared}
theorem Inv.env0 (I:Inv X pins σ H s):Env0 X.prog X.w X.K X.mg X.base X.A X.stack s H :=
  ⟨I.ok.frames,I.ok.mod,I.bs,Nat.le_trans I.ok.bsz I.sz,I.stack,I.stkFree,I.hok,I.bare,I.ok.tab.un I.base.tbls⟩
theorem Inv.after {Q:VK} {u:Value} (I:Inv X pins σ H s) (h:CE X.stack X.prog X.w H s Q u s'):EP X pins σ Q u s':=by
  obtain ⟨v,H',os,bare,un,hok,r,q⟩:=h; obtain ⟨hh,g,d,t,os'⟩:=s'
  obtain rfl:os'=s.os:=os
  exact ⟨v,H',I.call (h':=hh) (g':=g) (d':=d) (t':=t) (ch:=[]) un hok bare (fun b z=>absurd z (by simp)),r,q⟩
end
def ztF (sp:Sp) (dvs:List V) (E:XK) (t:TA):TE:=fun σ H Q=>t σ H fun vs H1=>sp (vs ++ dvs) H1 Q E
def ztC (C:Addr) (sp:Sp) (dvs:List V) (E:XK) (t:TA):TE:=fun σ H Q=>t σ H fun vs H1=>∀ x dx,H1 x=none→H1 dx=none→dx≠x →
  sp (.ref x :: (vs ++ dvs)) (upd (upd H1 dx (.own x)) x (.ins C dx [])) (fun v H2=>v=.non∧Q (.ref x) H2) E
def zdi (K:PySem.W.Frag) (fd:FuncData) (ps:List Str) (ds:List Value):Prop :=
  ∀ (s:Shared) (us:List Value),K.In s.heap→(us ++ ds).length=ps.length→BindsTo s fd ⟨us,[]⟩ (ps.zip (us ++ ds))
theorem zdi.all {K:PySem.W.Frag} {fd:FuncData} {ps:List Str} (h:∀ us:List Value,us.length=ps.length→bindArgs fd ⟨us,[]⟩=pure (ps.zip us)):zdi K fd ps []:=fun s us _ hl=>by
  rw [List.append_nil] at hl ⊢; exact .of_eq (h us hl)
def zil (CX:CXT) (X:Cx) (E:XK):Prop:=∀ (pins:List (Addr × Obj)) (σ:St) (H:Hp) (s:Shared) (e:Value) (s':Shared),Inv X pins σ H s→CX X.stack H s E e s'→X.xe e s'
section
variable {X:Cx} {CX:CXT} {k:Nat} {f C:Addr} {fd:FuncData} {ps:List Str} {sp:Sp} {dvs:List V} {ds:List Value} {E:XK} {x m:Str} {p pos apos:Pos} {e o:Expr} {es:List Expr} {ta:TE} {t:TA}
theorem zro {pins:List (Addr × Obj)} {σ:St} {H:Hp} {s:Shared} {Q:VK} {us:List Value} {vs:List V} (F:FnOk X.prog X.w X.K X.mg X.base CX k f fd ps sp) (hr:Room k X.A) (hb:zdi X.K fd ps ds) (hd:za5 dvs ds) (hx:zil CX X E)
    (I:Inv X pins σ H s) (r:za5 vs us) (h:sp (vs ++ dvs) H Q E):wpAny (model X.prog X.w) X.A (call (.ref f) us) (EP X pins σ Q) X.xe s:=by
  have r2:za5 (vs ++ dvs) (us ++ ds):=r.append hd
  have hl:(us ++ ds).length=ps.length:=by rw [← r2.length]; exact F.len _ _ _ _ h
  refine wpAny_call (codeAny_mono (F.run X.A X.stack s H ⟨us,[]⟩ (us ++ ds) (vs ++ dvs) Q E hr I.env0 (hb s us I.kIn hl) r2 h) fun r s' hq=>?_)
  cases r with
  | error e=>exact hx pins σ H s e s' I hq
  | ok fl =>
    cases fl with
    | ret u=>exact I.after hq
    | next=>exact False.elim hq
    | brk=>exact False.elim hq
    | cont=>exact False.elim hq
theorem ziE (F:FnOk X.prog X.w X.K X.mg X.base CX k f fd ps sp) (hr:Room k X.A) (hg:Gl X x) (hm:X.mg x=some (.ref f)) (hk:PySem.W.keepIn X.K (.ref f)=true) (hb:zdi X.K fd ps ds) (hd:za5 dvs ds) (hx:zil CX X E)
    (ha:PA X (e :: es) t) (hdb:(x == ("__debug__":Str))=false:=by decide) (he:starEach (e :: es) X.env=(false,eval e X.env) :: starEach es X.env:=by rfl) (hpl:(backTo pos (starEach es X.env)).any (·.1)=false:=by rfl) :
    PE X (.Call (.Name x p) (e :: es) [] pos) (ztF sp dvs E t):=by
  intro pins s σ H Q I h; refine wpAny_Call_Name_kw (ziX I hg hm ?_ hdb)
  refine PySem.W.callWith_K (h₀:=X.base) I.ok.mod.kin hk (thn (ha pos pins s σ H _ I h) fun us s1 ⟨vs,H1,I1,r,q⟩=>⟨I1.kIn,?_⟩) he hpl
  exact zro F hr hb hd hx I1 r q
structure Mk (K:PySem.W.Frag) (C f:Addr):Prop where
  makes:PySem.W.makesIn K C=true
  init:PySem.W.findIn K (.ref C) "__init__"=some (some (.ref f))
  fn:PySem.W.isFn K (.ref f)=true
  kp:PySem.W.keepIn K (.ref C)=true
theorem zmV {pins:List (Addr × Obj)} {σ:St} {H:Hp} {s:Shared} {Q:VK} {us:List Value} {vs:List V} (M:Mk X.K C f) (F:FnOk X.prog X.w X.K X.mg X.base CX k f fd ps sp) (hr:Room (k+1) X.A) (hb:zdi X.K fd ps ds) (hd:za5 dvs ds)
    (hx:zil CX X E) (I:Inv X pins σ H s) (r:za5 vs us)
    (h:∀ x dx,H x=none→H dx=none→dx≠x→sp (.ref x :: (vs ++ dvs)) (upd (upd H dx (.own x)) x (.ins C dx [])) (fun v H2=>v=.non∧Q (.ref x) H2) E) :
    wpAny (model X.prog X.w) X.A (call (.ref C) us) (EP X pins σ Q) X.xe s:=by
  have hq:=h (s.heap.objs.size+1) s.heap.objs.size (I.hok.fresh (Nat.le_succ _)) (I.hok.fresh (Nat.le_refl _)) (Nat.ne_of_lt (Nat.lt_succ_self _)); have I2:=Inv.made (C:=C) I
  have r2:za5 (V.ref (s.heap.objs.size+1) :: (vs ++ dvs)) (Value.ref (s.heap.objs.size+1) :: (us ++ ds)):=.cons rfl (r.append hd)
  have hl:(Value.ref (s.heap.objs.size+1) :: us ++ ds).length=ps.length:=by
    have e:=r2.length; rw [F.len _ _ _ _ hq] at e; exact e.symm
  refine wpAny_call (znw (f:=f) I.kIn M.makes M.init (beq_iff_eq.mp M.fn) (codeAny_mono (F.run _ X.stack _ _ ⟨Value.ref (s.heap.objs.size+1) :: us,[]⟩ (Value.ref (s.heap.objs.size+1) :: (us ++ ds)) _ _ E (hr.make C us [])
    (I2.env0.make C us []) (hb _ (Value.ref (s.heap.objs.size+1) :: us) I2.kIn hl) r2 hq) fun r s' hq'=>?_))
  cases r with
  | error e=>exact hx pins σ _ _ e s' I2 hq'
  | ok fl =>
    cases fl with
    | ret u =>
      obtain ⟨v,H',I3,rv,ev,q3⟩:=I2.after hq'; subst ev; exact ⟨rv,⟨V.ref (s.heap.objs.size+1),H',I3,rfl,q3⟩⟩
    | next=>exact False.elim hq'
    | brk=>exact False.elim hq'
    | cont=>exact False.elim hq'
theorem zpL (M:Mk X.K C f) (F:FnOk X.prog X.w X.K X.mg X.base CX k f fd ps sp) (hr:Room (k+1) X.A) (hg:Gl X x) (hm:X.mg x=some (.ref C)) (hb:zdi X.K fd ps ds) (hd:za5 dvs ds) (hx:zil CX X E)
    (ha:PA X (e :: es) t) (hdb:(x == ("__debug__":Str))=false:=by decide) (he:starEach (e :: es) X.env=(false,eval e X.env) :: starEach es X.env:=by rfl) (hpl:(backTo pos (starEach es X.env)).any (·.1)=false:=by rfl) :
    PE X (.Call (.Name x p) (e :: es) [] pos) (ztC C sp dvs E t):=by
  intro pins s σ H Q I h; refine wpAny_Call_Name_kw (ziX I hg hm ?_ hdb)
  refine PySem.W.callWith_K (h₀:=X.base) I.ok.mod.kin M.kp (thn (ha pos pins s σ H _ I h) fun us s1 ⟨vs,H1,I1,r,q⟩=>⟨I1.kIn,?_⟩) he hpl
  exact zmV M F hr hb hd hx I1 r q
end
def PK (X:Cx) (kws:List Keyword) (t:TA):Prop :=
  ∀ (pos:Pos) (pins:List (Addr × Obj)) (s:Shared) (σ:St) (H:Hp) (Q:List V→Hp→Prop),Inv X pins σ H s→t σ H Q→wpAny (model X.prog X.w) X.A (evalAll ((backToKw pos (keywordEach kws X.env)).map (·.2))) (AP X pins σ Q) X.xe s
section
variable {X:Cx} {CX:CXT} {k:Nat} {f C:Addr} {fd:FuncData} {ps ks:List Str} {sp:Sp} {E:XK} {x m:Str} {p pos apos kpos:Pos} {e o:Expr} {es:List Expr} {kws:List Keyword} {te ta:TE} {t tk:TA} {nm:Option Str}
theorem zos:PK X [] zuT:=fun _ _ _ _ H Q I h=>wpAny_evalAll_nil ⟨[],H,I,.nil,h⟩
theorem zlw (ha:PE X e te) (hr:PK X kws t):PK X (⟨nm,e,kpos⟩ :: kws) (zrd te t):=by
  intro pos pins s σ H Q I h
  show wpAny _ _ (evalAll ((do let v ← eval e X.env; standAt pos; pure v) :: (backToKw pos (keywordEach kws X.env)).map (·.2))) _ _ s
  refine wpAny_evalAll_cons (wpAny_bind (thn (ha pins s σ H _ I h) fun u s1 ⟨x,H1,I1,r1,q1⟩=>wpAny_bind (wpAny_standAt (wpAny_pure ?_))))
  exact thn (hr pos pins s1 σ H1 _ I1 q1) fun us s2 ⟨xs,H2,I2,r2,q2⟩=>⟨x :: xs,H2,I2,.cons r1 r2,q2⟩
variable {g:List Value→List Value→List Value} {gV:List V→List V→List V}
end
structure FnScope (N P:List Str) (sc:Scope):Prop where
  kind:sc.kind=.function
  co:sc.isCoroutine=false
  gen:sc.isGenerator=false
  nd:N.Nodup
  pre:N.take P.length=P
  par:∀ x ∈ P,sc.names.lookup x=some .local∨sc.names.lookup x=some .cell
  nofree:∀ y ∈ sc.names,y.2≠.free
theorem zig {kindOf:Str→Option NameKind} {x:Str}:∀ {binds:List (Str × Value)} {m:Str→Option Value},(∀ v,(x,v) ∉ binds)→bindL kindOf binds m x=m x
  | [],_,_=>rfl
  | (n,v) :: r,m,h=>by
    unfold bindL
    rw [zig fun w hw=>h w (List.mem_cons_of_mem _ hw)]
    split
    · have:x≠n:=by rintro rfl; exact h v List.mem_cons_self
      simp [this]
    · rfl
theorem zii {kindOf:Str→Option NameKind} {x:Str}:∀ {binds:List (Str × Value)} {m:Str→Option Value},(∀ v,(x,v) ∉ binds)→bindC kindOf binds m x=m x
  | [],_,_=>rfl
  | (n,v) :: r,m,h=>by
    unfold bindC
    rw [zii fun w hw=>h w (List.mem_cons_of_mem _ hw)]
    split
    · rfl
    · have:x≠n:=by rintro rfl; exact h v List.mem_cons_self
      simp [this]
theorem zih {kindOf:Str→Option NameKind} {x:Str} {v:Value}:∀ {P:List Str} {vs:List Value} {i:Nat} {m:Str→Option Value},P.Nodup→P[i]?=some x→vs[i]?=some v→kindOf x=some .local →
    bindL kindOf (P.zip vs) m x=some v
  | [],_,_,_,_,h,_,_=>by simp at h
  | _ :: _,[],_,_,_,_,h,_=>by simp at h
  | p :: P,w :: vs,0,m,nd,h1,h2,hk=>by
    simp at h1 h2; subst h1; subst h2
    show bindL kindOf ((p,w) :: P.zip vs) m p=_
    unfold bindL
    rw [zig fun v hv=>(List.nodup_cons.mp nd).1 (List.of_mem_zip hv).1,if_pos hk]
    simp
  | p :: P,w :: vs,i+1,m,nd,h1,h2,hk=>by
    show bindL kindOf ((p,w) :: P.zip vs) m x=_
    unfold bindL
    exact zih (i:=i) (List.nodup_cons.mp nd).2 (by simpa using h1) (by simpa using h2) hk
theorem zij {kindOf:Str→Option NameKind} {x:Str} {v:Value}:∀ {P:List Str} {vs:List Value} {i:Nat} {m:Str→Option Value},P.Nodup→P[i]?=some x→vs[i]?=some v→kindOf x≠some .local →
    bindC kindOf (P.zip vs) m x=some v
  | [],_,_,_,_,h,_,_=>by simp at h
  | _ :: _,[],_,_,_,_,h,_=>by simp at h
  | p :: P,w :: vs,0,m,nd,h1,h2,hk=>by
    simp at h1 h2; subst h1; subst h2
    show bindC kindOf ((p,w) :: P.zip vs) m p=_
    unfold bindC
    rw [zii fun v hv=>(List.nodup_cons.mp nd).1 (List.of_mem_zip hv).1,if_neg hk]
    simp
  | p :: P,w :: vs,i+1,m,nd,h1,h2,hk=>by
    show bindC kindOf ((p,w) :: P.zip vs) m x=_
    unfold bindC
    exact zij (i:=i) (List.nodup_cons.mp nd).2 (by simpa using h1) (by simpa using h2) hk
def start (N:List Str) (vs:List V):St:=vs.map some ++ List.replicate (N.length-vs.length) none
def zkX (CX:CXT) (P:Program) (w:World) (K:PySem.W.Frag) (mg:Str→Option Value) (base:Heap) (N:List Str) (qual:Str) (scope:Scope) (f:Addr) (cd:Value) (A:Around) (outer:List Env) (s:Shared) (H:Hp) (E:XK):Cx where
  prog:=P
  w:=w
  K:=K
  mg:=mg
  base:=base
  A:=A.deeper (envOfC qual scope s.heap.objs.size f cd)
  N:=N
  s₀:=s
  H₀:=H
  env:=envOfC qual scope s.heap.objs.size f cd
  outer:=outer
  stack:=envOfC qual scope s.heap.objs.size f cd :: outer
  ex:=[]
  calm:=true
  fn:=fun _=>true
  pn:=[]
  xe:=fun e s'=>wpAny (model P w) (A.deeper (envOfC qual scope s.heap.objs.size f cd)) (leaving (envOfC qual scope s.heap.objs.size f cd) e) (fun _ s''=>CX outer H s E e s'') (fun e' s''=>CX outer H s E e' s'') s'
theorem zkb {sc:Scope} {n:Nat} {x:Str} (h:sc.names.lookup x=some .cell):∃ c,(cellsFrom n sc.names []).lookup x=some c:=by
  have q:=PySem.W.cellsFrom_some sc.names n [] (.inl h); exact Option.isSome_iff_exists.mp q
theorem zl2 {CX:CXT} {P:Program} {w:World} {K:PySem.W.Frag} {mg:Str→Option Value} {base:Heap} {N ps:List Str} {qual:Str} {scope:Scope} {f:Addr} {cd:Value} {A:Around} {outer:List Env} {s s1:Shared} {H:Hp} {E:XK} {us:List Value} {vs:List V}
    (S:FnScope N ps scope) (hd:A.handled=none) (e0:Env0 P w K mg base A outer s H) (hl:vs.length=ps.length) (r:za5 vs us)
    (x:InCallC s s.heap.objs.size (bindL (envOfC qual scope s.heap.objs.size f cd).kindOf (ps.zip us) fun _=>none) (cellsFrom (s.heap.objs.size+1) scope.names []) (bindC (envOfC qual scope s.heap.objs.size f cd).kindOf (ps.zip us) fun _=>none) s1) :
    Inv (zkX CX P w K mg base N qual scope f cd A outer s H E) [] (start N vs) H s1:=by
  have hpl:ps.length≤N.length:=by have:=congrArg List.length S.pre; rw [List.length_take] at this; omega
  obtain ⟨h1,tk,rfl,hk⟩:=x.done
  have noA:∀ b:Addr,b ∉ (zkX CX P w K mg base N qual scope f cd A outer s H E).ex:=fun b z=>absurd (show b ∈ ([]:List Addr) from z) (by simp)
  refine ⟨⟨e0.mod,S.kind,rfl,rfl,Nat.le_refl _,fun y z c h1 h2=>?_,fun y hy=>?_,fun y c _ h=>?_,fun _=>hd,Around.frames_deeper e0.frames,.inr ⟨rfl,rfl⟩,fun b z=>absurd z (noA b),e0.bs,e0.bsz,fun b _ _=>noA b,fun b z=>absurd z (noA b),e0.funs,e0.frf,e0.tab⟩,
    rfl,e0.bare,Un.kept hk,⟨_,x.toInCall.ns,fun i y v h1 h2 h3=>?_⟩,fun y c h=>⟨_,x.cell y c h⟩,e0.hok.fresh (Nat.le_refl _),fun y c h=>?_,fun p hp=>absurd (show p ∈ ([]:List (Addr × Obj)) from hp) (by simp),e0.hok.kept hk,?_⟩
  · exact name_of_addr x.apart (PySem.mem_of_lookup h1) (PySem.mem_of_lookup h2)
  · have hy:scope.names.lookup y=some .cell∨scope.names.lookup y=some .free:=hy
    rcases hy with hy | hy
    · exact zkb hy
    · exact absurd rfl (S.nofree _ (PySem.mem_of_lookup hy))
  · exact Nat.le_of_lt (x.above y c (PySem.mem_of_lookup h))
  · have hi:i<vs.length:=by
      unfold start at h2
      by_cases hi:i<vs.length
      · exact hi
      · rw [List.getElem?_append_right (by simpa using hi)] at h2
        rw [List.getElem?_replicate] at h2
        split at h2 <;> cases h2
    have ha:vs[i]?=some v:=by
      unfold start at h2
      rw [List.getElem?_append_left (by simpa using hi),List.getElem?_map] at h2
      cases e:vs[i]? with
      | none=>rw [e] at h2; cases h2
      | some a=>rw [e] at h2; cases h2; rfl
    obtain ⟨u,hu,rv⟩:=r.get ha
    have hp:ps[i]?=some y:=by
      rw [← S.pre,List.getElem?_take_of_lt (by omega)]; exact h1
    have ndP:ps.Nodup:=by rw [← S.pre]; exact S.nd.sublist (List.take_sublist _ _)
    refine ⟨u,rv,?_⟩
    rcases S.par y (List.mem_of_getElem? hp) with k | k
    · exact .inl ⟨k,zih ndP hp hu k⟩
    · obtain ⟨c,e⟩:=zkb (n:=s.heap.objs.size+1) k
      refine .inr ⟨.inl k,c,e,?_⟩; have q:=x.cell y c e
      rw [zij ndP hp hu (by show scope.names.lookup y≠_; rw [k]; decide)] at q
      exact q
  · exact e0.hok.fresh (Nat.le_of_lt (x.above y c (PySem.mem_of_lookup h)))
  · unfold start
    show _=N.length
    rw [List.length_append,List.length_map,List.length_replicate]; omega
theorem zuq {CX:CXT} {P:Program} {w:World} {K:PySem.W.Frag} {mg:Str→Option Value} {base:Heap} {k:Nat} {f:Addr} {name qual:Str} {params:Arguments} {body:List Stmt} {scope:Scope} {dV kV doc pm cdv ct oc:Value} {an od:Option Addr}
    {osl:Array (Option Value)} {N ps:List Str} {sp:Sp} (lk:K.lookup f=some ⟨oc,od,.func (PySem.W.fnOf name qual params body scope dV kV doc pm an cdv ct),osl⟩) (hcd:PySem.W.codeIn K cdv qual=true) (S:FnScope N ps scope)
    (len:∀ vs H Q E,sp vs H Q E→vs.length=ps.length)
    (hbody:∀ (A:Around) (outer:List Env) (s:Shared) (H:Hp) (vs:List V) (Q:VK) (E:XK),Room k (A.deeper (envOfC qual scope s.heap.objs.size f cdv))→sp vs H Q E →
      ∃ t,PSs (zkX CX P w K mg base N qual scope f cdv A outer s H E) body t∧t { nx:=fun _ H'=>Q .non H',rt:=Q } (start N vs) H) :
    FnOk P w K mg base CX (k+1) f (PySem.W.fnOf name qual params body scope dV kV doc pm an cdv ct) ps sp:=by
  refine ⟨len,fun A outer s H args us vs Q E hr e0 hb r hsp=>?_⟩
  have hl:=len _ _ _ _ hsp
  have KX:K.In s.heap:=e0.mod.kin.keeps fun b o e=>(e0.bs b o e).1
  have lim:s.heap.NoLimit:=e0.mod.nolimit.keeps fun b o e=>(e0.bs b o e).1
  have hkind:∀ y ∈ ps.zip us,scope.names.lookup y.1=some .local∨(scope.names.lookup y.1=some .cell∧((cellsFrom (s.heap.objs.size+1) scope.names []).lookup y.1).isSome=true):=fun ⟨n,v⟩ hy=>by
    rcases S.par n (List.of_mem_zip hy).1 with q | q
    · exact .inl q
    · exact .inr ⟨q,PySem.W.cellsFrom_some _ _ _ (.inl q)⟩
  refine codeAny_call_function hr.depth (KX _ _ lk) rfl S.co S.gen rfl (PySem.W.codeRec_of KX hcd) (hb _ _ _ _ ?_)
  refine wpAny_newFunctionEnv_cells S.kind hkind fun env he s1 x=>?_
  subst he; refine ⟨lim.keeps x.toInCall.keep,codeAny_func ?_⟩; obtain ⟨t,ht,hq⟩:=hbody A outer s H vs Q E (hr.deeper _) hsp
  have I:Inv (zkX CX P w K mg base N qual scope f cdv A outer s H E) [] (start N vs) H s1:=zl2 S hr.hd e0 hl r x
  refine wpAny_mono (ht [] s1 (start N vs) H _ I hq) (fun fl s' hs=>?_) fun e s' hs=>hs
  have fin:∀ {σ':St} {H':Hp} {v:V} {u:Value},Inv (zkX CX P w K mg base N qual scope f cdv A outer s H E) [] σ' H' s'→zby v u→Q v H'→CE outer P w H s Q u s' :=
    fun {σ' H' v u} J rv q=>⟨v,H',J.os,J.bare,J.base,J.hok,rv,q⟩
  cases fl with
  | ret u =>
    obtain ⟨v,σ',H',J,rv,q⟩:=hs; exact fin J rv q
  | next =>
    obtain ⟨σ',H',J,q⟩:=hs; exact fin (v:=V.non) (u:=Value.none) J rfl q
  | brk =>
    obtain ⟨_,_,_,q⟩:=hs; exact False.elim q
  | cont =>
    obtain ⟨_,_,_,q⟩:=hs; exact False.elim q
end L2
namespace L2
open PySem PySem.Spec PyProof.Rows
section
variable {X:Cx} {x:Str} {p pos:Pos} {e:Expr} {es:List Expr} {t:TA} {id T:String} {r:List V→Hp→VK→Prop}
def tCB (r:List V→Hp→VK→Prop) (t:TA):TE:=fun σ H Q=>t σ H fun vs H1=>r vs H1 Q
theorem znf (hc:zdh X (.builtin id) r) (hg:Gl X x) (hm:X.mg x=none) (hv:bootBuiltins x=some (.builtin id)) (ha:PA X (e :: es) t) (hn:x≠"__name__":=by decide) (hdb:(x == ("__debug__":Str))=false:=by decide)
    (he:starEach (e :: es) X.env=(false,eval e X.env) :: starEach es X.env:=by rfl) (hpl:(backTo pos (starEach es X.env)).any (·.1)=false:=by rfl):PE X (.Call (.Name x p) (e :: es) [] pos) (tCB r t):=by
  intro pins s σ H Q I h; refine wpAny_Call_Name_kw (zgm I hg hm hv ?_ hn hdb)
  exact PyProof.Rows.callWith_builtin1 (thn (ha pos pins s σ H _ I h) fun us s1 ⟨vs,H1,I1,r1,q1⟩=>hc pins s1 σ H1 vs us Q I1 r1 q1) he hpl
theorem zhF (hc:zdh X (.type T) r) (hg:Gl X x) (hm:X.mg x=none) (hv:bootBuiltins x=some (.type T)) (ha:PA X (e :: es) t) (hn:x≠"__name__":=by decide) (hdb:(x == ("__debug__":Str))=false:=by decide)
    (he:starEach (e :: es) X.env=(false,eval e X.env) :: starEach es X.env:=by rfl) (hpl:(backTo pos (starEach es X.env)).any (·.1)=false:=by rfl):PE X (.Call (.Name x p) (e :: es) [] pos) (tCB r t):=by
  intro pins s σ H Q I h; refine wpAny_Call_Name_kw (zgm I hg hm hv ?_ hn hdb)
  exact PyProof.Rows.callWith_type1 (thn (ha pos pins s σ H _ I h) fun us s1 ⟨vs,H1,I1,r1,q1⟩=>hc pins s1 σ H1 vs us Q I1 r1 q1) he hpl
end
end L2
namespace HT
open PySem PyProof.Rows
section
open PySem.SeqAt
open PySem.AutoSeq1 (wpAny_loadPart')
open PySem.MeetsSeq PySem.MeetsSeq2 PySem.MeetsSeq3
end
section
variable {prog:Program} {w:World} {A:Around} {E:Value→Shared→Prop} {s:Shared}
theorem cat_tup {t b:Addr} {vs ws:List Value} {Q:Value→Shared→Prop} (ht:IsTup s.heap t vs.toArray) (hb:IsTup s.heap b ws.toArray) (hv:vs≠[])
    (h1:ws=[]→Q (.ref t) s) (h2:ws≠[]→Q (.ref s.heap.objs.size) { s with heap:=s.heap.push { cls:=.type "tuple",data:=.seq (vs ++ ws).toArray } })
    (hsz:vs.length+ws.length≤sizeLine):wpAny (model prog w) A (binaryOp .Add (.ref t) (.ref b)) Q E s:=by
  obtain ⟨⟨cls,dd,data,sl⟩,ho,hc,n,hd⟩:=id ht
  obtain ⟨⟨cls2,dd2,data2,sl2⟩,ho2,hc2,n2,hd2⟩:=id hb
  simp only at hc hd hc2 hd2
  subst hc hd hc2 hd2
  have e:vs.toArray ++ ws.toArray=(vs ++ ws).toArray:=by simp
  by_cases hw:ws=[]
  · exact concat_meets ⟨_,ho,rfl⟩ ⟨_,ho2,rfl⟩ noFill_tuple_add seq_tuple_add PySem.F.slot_tuple_add PySem.F.entry_tuple_add (PySem.F.args_tuple_add_2 _ _)
      (tuple_addW1 t b vs.toArray ws.toArray n n2 dd dd2 sl sl2 (by simpa using hv) (by simp [hw])) ⟨ho,ho2,h1 hw⟩
  · refine concat_meets ⟨_,ho,rfl⟩ ⟨_,ho2,rfl⟩ noFill_tuple_add seq_tuple_add PySem.F.slot_tuple_add PySem.F.entry_tuple_add (PySem.F.args_tuple_add_2 _ _)
      (tuple_addW2 t b vs.toArray ws.toArray n n2 dd dd2 sl sl2 (by simpa using hv) (by simpa using hw) (by rw [List.size_toArray,List.size_toArray]; exact hsz)) ⟨ho,ho2,?_⟩
    rw [e]; exact h2 hw
def sIx (n d:Nat):Option Int→Nat
  | none=>d
  | some v=>if v<0 then (v+(n:Int)).toNat else min v.toNat n
theorem sIx_none (n d:Nat):sIx n d none=d:=rfl
theorem sIx_nat (n d k:Nat):sIx n d (some (k:Int))=min k n:=by
  show (if (k:Int)<0 then ((k:Int)+(n:Int)).toNat else min (k:Int).toNat n)=min k n
  rw [if_neg (by omega),Int.toNat_natCast]
theorem zrn (n d:Nat) (hd:d≤n) (o:Option Int):sIx n d o≤n:=by
  cases o with
  | none=>exact hd
  | some v =>
    show (if v<0 then (v+(n:Int)).toNat else min v.toNat n)≤n
    by_cases hv:v<0
    · rw [if_pos hv]; omega
    · rw [if_neg hv]; exact Nat.min_le_right _ _
theorem zmp (v:Int) (n d:Nat):(if v<0 then max (v+(n:Int)) 0 else min v (n:Int))=((sIx n d (some v):Nat):Int):=by
  show (if v<0 then max (v+(n:Int)) 0 else min v (n:Int))=(((if v<0 then (v+(n:Int)).toNat else min v.toNat n):Nat):Int)
  by_cases hv:v<0
  · simp only [if_pos hv]; omega
  · simp only [if_neg hv]; omega
theorem zkS (lo hi:Option Int) (n:Nat):Builtin.Slice.sliceAdjust lo hi 1 (n:Int)=(((sIx n 0 lo:Nat):Int),((sIx n n hi:Nat):Int)):=by
  have h1:¬ ((1:Int)<0):=by omega
  unfold Builtin.Slice.sliceAdjust; simp only [h1,if_false]; refine Prod.ext ?_ ?_
  · cases lo with
    | none=>rfl
    | some v=>exact zmp v n 0
  · cases hi with
    | none=>rfl
    | some v=>exact zmp v n n
theorem zkx (i j:Nat):Builtin.Slice.slicePlaces (i:Int) (j:Int) 1=j-i:=by
  unfold Builtin.Slice.slicePlaces
  have h1:(1:Int) > 0:=by omega
  simp only [h1,if_true,Int.ediv_one]
  split <;> omega
theorem zgb {v:Value} {o:Option Int} {Q:Option Int→Shared→Prop} (p:IsPart v o) (h:Q o s):wpAny (model prog w) A (Builtin.Slice.slicePartIndex v) Q E s:=by
  cases p with
  | none=>exact slicePart_none h
  | int i t=>exact slicePart_int h
theorem zdb {sl:Addr} {vl vu:Value} {lo hi:Option Int} {n:Nat} {Q:Int × Int × Nat→Shared→Prop} (hs:s.heap.IsSliceOf sl vl vu .none) (pl:IsPart vl lo) (pu:IsPart vu hi)
    (h:Q (((sIx n 0 lo:Nat):Int),1,sIx n n hi-sIx n 0 lo) s):wpAny (model prog w) A (Builtin.Slice.sliceApplied (.ref sl) (pure (n:Int))) Q E s:=by
  obtain ⟨os,hos,hcs,hds⟩:=id hs; unfold Builtin.Slice.sliceApplied Builtin.Slice.sliceFields; refine wpAny_bind (wpAny_bind (wpAny_field hos hds (x:=vl) rfl (wpAny_bind (wpAny_field hos hds (x:=vu) rfl (wpAny_bind (wpAny_field hos hds (x:=.none) rfl (wpAny_pure ?_))))))); refine wpAny_bind (slicePart_none ?_)
  show wpAny _ _ (if ((1:Int) == 0)=true then _ else _) _ _ s
  rw [if_neg (by decide)]
  refine wpAny_bind (zgb pl (wpAny_bind (zgb pu (wpAny_bind (wpAny_pure ?_)))))
  show wpAny _ _ (match Builtin.Slice.sliceAdjust lo hi 1 (n:Int) with | (lo,hi)=>pure (lo,(1:Int),Builtin.Slice.slicePlaces lo hi 1)) _ _ s
  rw [zkS lo hi n]
  show wpAny _ _ (pure (((sIx n 0 lo:Nat):Int),(1:Int),Builtin.Slice.slicePlaces ((sIx n 0 lo:Nat):Int) ((sIx n n hi:Nat):Int) 1)) _ _ s
  rw [zkx]; exact wpAny_pure h
theorem zm9 (xs:Array Value) (i k:Nat):((List.range k).filterMap fun (m:Nat)=>xs[((i:Int)+(m:Int) * 1).toNat]?).toArray=((xs.toList.drop i).take k).toArray:=by
  have e:(fun (m:Nat)=>xs[((i:Int)+(m:Int) * 1).toNat]?)=fun m=>xs[i+m]?:=by
    funext m
    have:((i:Int)+(m:Int) * 1).toNat=i+m:=by omega
    rw [this]
  rw [e]
  have:=pick_run xs i k
  rw [List.filterMap_map] at this
  have e2:((fun x=>xs[x]?) ∘ fun x=>i+x)=fun m=>xs[i+m]?:=rfl
  rw [e2] at this; rw [this]
theorem getItem_tuple_cut {t sl:Addr} {items:Array Value} {vl vu:Value} {lo hi:Option Int} {Q:Value→Shared→Prop} (ht:IsTup s.heap t items) (hs:s.heap.IsSliceOf sl vl vu .none) (pl:IsPart vl lo) (pu:IsPart vu hi)
    (hw:¬ (sIx items.size 0 lo=0∧sIx items.size items.size hi=items.size))
    (h:Q (.ref s.heap.objs.size) { s with heap:=s.heap.push { cls:=.type "tuple",data:=.seq ((items.toList.drop (sIx items.size 0 lo)).take (sIx items.size items.size hi-sIx items.size 0 lo)).toArray } })
    (hsz:items.size≤sizeLine):wpAny (model prog w) A (getItem (.ref t) (.ref sl)) Q E s:=by
  have htake:sizeOk (.seq ((items.toList.drop (sIx items.size 0 lo)).take (sIx items.size items.size hi-sIx items.size 0 lo)).toArray):=by
    show ((items.toList.drop (sIx items.size 0 lo)).take (sIx items.size items.size hi-sIx items.size 0 lo)).toArray.size≤sizeLine
    rw [List.size_toArray,List.length_take,List.length_drop,Array.length_toList]; omega
  have hj:sIx items.size items.size hi≤items.size:=zrn _ _ (Nat.le_refl _) hi
  obtain ⟨os,hos,hcs,hds⟩:=id hs
  have hTs:s.TypeIs (.ref sl) "slice":=⟨os,hos,hcs⟩
  unfold getItem
  try with_reducible refine wpAny_holding ?_
  first | refine wpAny_bind (wpAny_pure ?_) | skip
  refine wpAny_bind (wpAny_sequenceKey ht.typeIs (by decide) ?_)
  refine wpAny_bind (wpAny_callSpecial?_slot (name:=Str.ofString "__getitem__") ht.typeIs PyProof.Rows.slot_tuple_getitem
    (wpAny_call_entry PyProof.Rows.slot_tuple_getitem ht.typeIs entry_tuple_getitem ?_ (args_tuple_getitem _ _)))
  show wpAny _ _ (Builtin.Tuple.tupleItemsOf (.ref t) >>= _) _ _ s
  refine wpAny_bind (tupleItemsOf_ ht ?_); refine wpAny_bind (wpAny_typeOf hTs ?_)
  rw [if_pos (by decide)]
  refine wpAny_bind (zdb hs pl pu ?_)
  have hno:¬ ((((sIx items.size 0 lo:Nat):Int) == 0 && (1:Int) == 1 && (sIx items.size items.size hi-sIx items.size 0 lo) == items.size)=true):=by
    intro q; rw [Bool.and_eq_true,Bool.and_eq_true] at q
    have q1:((sIx items.size 0 lo:Nat):Int)=0:=eq_of_beq q.1.1
    have q2:sIx items.size items.size hi-sIx items.size 0 lo=items.size:=eq_of_beq q.2
    exact hw ⟨by omega,by omega⟩
  show wpAny _ _ (if (((sIx items.size 0 lo:Nat):Int) == 0 && (1:Int) == 1 && (sIx items.size items.size hi-sIx items.size 0 lo) == items.size)=true then _ else _) _ _ s
  rw [if_neg hno,zm9]
  first
    | exact wpAny_bind (m:=Builtin.Tuple.tupleExact _) (wpAny_newObj_type (wpAny_pure ⟨_,rfl,wpAny_pure h⟩) htake)
    | exact wpAny_bind (m:=Builtin.Tuple.tupleExact _) (wpAny_newObj_type (wpAny_bind (wpAny_pure (wpAny_pure ⟨_,rfl,wpAny_pure h⟩))) htake)
    | exact wpAny_bind (wpAny_bind (m:=Builtin.Tuple.tupleExact _) (wpAny_newObj_type (wpAny_pure (wpAny_pure ⟨_,rfl,wpAny_pure h⟩)) htake))
    | exact wpAny_bind (wpAny_bind (m:=Builtin.Tuple.tupleExact _) (wpAny_newObj_type (wpAny_pure ⟨_,rfl,wpAny_pure h⟩) htake))
end
end HT
namespace L2
open PySem PySem.Spec PyProof.Rows
abbrev TO:=St→Hp→(Option Int→Hp→Prop)→Prop
def PO (X:Cx) (e:Option Expr) (t:TO):Prop :=
  ∀ (pins:List (Addr × Obj)) (s:Shared) (σ:St) (H:Hp) (Q:Option Int→Hp→Prop),Inv X pins σ H s→t σ H Q →
    wpAny (model X.prog X.w) X.A (evalPart e X.env) (fun u s'=>∃ o H',Inv X pins σ H' s'∧IsPart u o∧Q o H') X.xe s
def zo8:TO:=fun _ H Q=>Q none H
def ztA (t:TE):TO:=fun σ H Q=>t σ H fun x H1=>∃ i,x=.int i∧Q (some i) H1
section
variable {X:Cx} {e:Expr} {te:TE} {lo hi:Option Expr} {tl th:TO} {pos p2:Pos}
theorem zpE:PO X none zo8:=by
  intro pins s σ H Q I h; rw [evalPart_none]; exact wpAny_pure ⟨none,H,I,.none,h⟩
theorem zpD (h:PE X e te):PO X (some e) (ztA te):=by
  intro pins s σ H Q I hw; rw [evalPart_some]
  refine thn (h pins s σ H _ I hw) fun u s1 ⟨x,H1,I1,r1,q1⟩=>?_
  obtain ⟨i,rfl,q⟩:=q1; obtain ⟨t,rfl⟩:=r1; exact ⟨some i,H1,I1,.int i t,q⟩
def SlR (X:Cx) (r:V→Option Int→Option Int→Hp→VK→Prop):Prop :=
  ∀ (pins:List (Addr × Obj)) (s:Shared) (σ:St) (H:Hp) (x:V) (v vl vu:Value) (lo hi:Option Int) (sl:Addr) (Q:VK),Inv X pins σ H s→zby x v→s.heap.IsSliceOf sl vl vu .none→IsPart vl lo→IsPart vu hi→r x lo hi H Q →
    ∃ T id,typeLookup (.type T) "__getitem__"=pure (some (.builtin id))∧s.TypeIs v T∧wpAny (model X.prog X.w) X.A (getItem v (.ref sl)) (EP X pins σ Q) X.xe s
theorem SlR.or {r r':V→Option Int→Option Int→Hp→VK→Prop} (h:SlR X r) (h':SlR X r'):SlR X (fun x lo hi H Q=>r x lo hi H Q∨r' x lo hi H Q):=by
  intro pins s σ H x v vl vu lo hi sl Q I rx hs pl pu q
  rcases q with q | q
  · exact h pins s σ H x v vl vu lo hi sl Q I rx hs pl pu q
  · exact h' pins s σ H x v vl vu lo hi sl Q I rx hs pl pu q
def tSl (r:V→Option Int→Option Int→Hp→VK→Prop) (te:TE) (tl th:TO):TE:=fun σ H Q=>te σ H fun x H1=>tl σ H1 fun l H2=>th σ H2 fun u H3=>r x l u H3 Q
theorem znd {r:V→Option Int→Option Int→Hp→VK→Prop} (hr:SlR X r) (he:PE X e te) (hl:PO X lo tl) (hu:PO X hi th):PE X (.Subscript e (.Slice lo hi none p2) pos) (tSl r te tl th):=by
  intro pins s σ H Q I h
  refine Subscript_ (thn (he pins s σ H _ I h) fun v s1 ⟨x,H1,I1,r1,q1⟩=>?_)
  refine wpAny_Slice (thn (hl pins s1 σ H1 _ I1 q1) fun vl s2 ⟨l,H2,I2,pl,q2⟩=>thn (hu pins s2 σ H2 _ I2 q2) fun vu s3 ⟨u,H3,I3,pu,q3⟩=>?_)
  rw [evalPart_none]; refine wpAny_pure ?_
  have I4:Inv X pins σ H3 { s3 with heap:=s3.heap.push { cls:=.type "slice",data:=.fields #[vl,vu,.none] } }:=I3.kept (t':=s3.toks) fun b ob q=>Heap.get?_push_of_some _ q
  obtain ⟨T,id,hT,ht,hg⟩:=hr pins { s3 with heap:=s3.heap.push { cls:=.type "slice",data:=.fields #[vl,vu,.none] } } σ H3 x v vl vu l u s3.heap.objs.size Q I4 r1 (Heap.IsSliceOf.new ..) pl pu q3
  show wpAny (model X.prog X.w) X.A (subscriptTail e (.Slice lo hi none p2) v (.ref s3.heap.objs.size)) (EP X pins σ Q) X.xe { s3 with heap:=s3.heap.push { cls:=.type "slice",data:=.fields #[vl,vu,.none] } }
  exact tail_any (ops:=[.ref s3.heap.objs.size,v]) ht hT hg (by with_unfolding_all rfl)
def zmh (xs:List V) (lo hi:Option Int):List V:=(xs.drop (HT.sIx xs.length 0 lo)).take (HT.sIx xs.length xs.length hi-HT.sIx xs.length 0 lo)
theorem zfZ (xs:List V) (lo hi:Option Int):(zmh xs lo hi).length≤xs.length:=by
  unfold zmh; rw [List.length_take,List.length_drop]; omega
def zvy (K:PySem.W.Frag):V→Option Int→Option Int→Hp→VK→Prop:=fun x lo hi H Q=>∃ a xs,x=.ref a∧SqT K H a xs ∧
  ¬ (HT.sIx xs.length 0 lo=0∧HT.sIx xs.length xs.length hi=xs.length)∧∀ p,H p=none→Q (.ref p) (upd H p (.tup (zmh xs lo hi)))
theorem zrj:SlR X (zvy X.K):=by
  intro pins s σ H x v vl vu lo hi sl Q I rx hs pl pu h; obtain ⟨a,xs,rfl,hx,hw,q⟩:=h; cases rx; obtain ⟨its,r,ht,hz⟩:=I.tuple hx
  have hlen:its.toArray.size=xs.length:=by rw [List.size_toArray]; exact r.length.symm
  refine ⟨"tuple",_,PyProof.Rows.slot_tuple_getitem.lookup,ht.typeIs,?_⟩
  refine HT.getItem_tuple_cut ht hs pl pu (by rw [hlen]; exact hw) ?_ (by rw [hlen]; exact hz)
  rw [hlen]
  refine ⟨.ref s.heap.objs.size,_,I.laid (t':=s.toks) (o:=.tup (zmh xs lo hi)) (fun b ob q=>Heap.get?_push_of_some _ q) (Nat.le_refl _) ?_,rfl,q _ (I.hok.fresh (Nat.le_refl _))⟩
  exact ⟨Nat.le_trans (zfZ xs lo hi) hz,_,(r.drop (HT.sIx xs.length 0 lo)).take (HT.sIx xs.length xs.length hi-HT.sIx xs.length 0 lo),IsTup.new _ _⟩
def ztV (K:PySem.W.Frag):R2:=fun x y H Q=>∃ a b xs ys,x=.ref a∧y=.ref b∧SqT K H a xs∧SqT K H b ys∧xs≠[]∧xs.length+ys.length≤sizeLine ∧
  (ys=[]→Q (.ref a) H)∧(ys≠[]→∀ p,H p=none→Q (.ref p) (upd H p (.tup (xs ++ ys))))
theorem za5.nil_iff {xs:List V} {us:List Value} (r:za5 xs us):us=[]↔xs=[]:=by
  cases r with
  | nil=>simp
  | cons _ _=>simp
theorem zpW:OpR X (binaryOp .Add) (ztV X.K):=by
  intro pins s σ H x y v u Q I rx ry h; obtain ⟨a,b,xs,ys,rfl,rfl,ha,hb,hx,hz,q1,q2⟩:=h; cases rx; cases ry; obtain ⟨its,r1,p1,_⟩:=I.tuple ha; obtain ⟨its2,r2,p2,_⟩:=I.tuple hb
  refine HT.cat_tup p1 p2 (fun z=>hx (r1.nil_iff.mp z)) (fun z=>⟨.ref a,H,I,rfl,q1 (r2.nil_iff.mp z)⟩) (fun z=>?_) (by rw [← r1.length,← r2.length]; exact hz)
  refine ⟨.ref s.heap.objs.size,_,I.laid (t':=s.toks) (o:=.tup (xs ++ ys)) (fun b ob q=>Heap.get?_push_of_some _ q) (Nat.le_refl _) ?_,rfl,q2 (fun w=>z (r2.nil_iff.mpr w)) _ (I.hok.fresh (Nat.le_refl _))⟩
  exact ⟨by rw [List.length_append]; exact hz,_,r1.append r2,IsTup.new _ _⟩
end
end L2
namespace L2
open PySem PySem.Spec PyProof.Rows
def ixN (n:Nat) (i:Int):Option Nat:=if 0≤i then (if i<n then some i.toNat else none) else if -(n:Int)≤i then some (i+n).toNat else none
def atI {α:Type} (xs:List α) (i:Int):Option α:=(ixN xs.length i).bind fun j=>xs[j]?
theorem zl0 {n:Nat} {i:Int} {j:Nat} (h:ixN n i=some j):seqIndex? i n=some j∧j<n∧-(n:Int)≤i∧i<n:=by
  unfold ixN at h
  by_cases h0:0≤i
  · rw [if_pos h0] at h
    by_cases h1:i<n
    · rw [if_pos h1] at h
      have e:i.toNat=j:=Option.some.inj h
      exact ⟨by rw [seqIndex_of h0 h1,e],by omega,by omega,h1⟩
    · rw [if_neg h1] at h; cases h
  · rw [if_neg h0] at h
    by_cases h1:-(n:Int)≤i
    · rw [if_pos h1] at h
      have e:(i+n).toNat=j:=Option.some.inj h
      exact ⟨by rw [seqIndex_neg (by omega) h1,e],by omega,h1,by omega⟩
    · rw [if_neg h1] at h; cases h
theorem zjo {α:Type} {xs:List α} {i:Int} {v:α} (h:atI xs i=some v):∃ j,seqIndex? i xs.length=some j∧xs[j]?=some v∧j<xs.length∧-(xs.length:Int)≤i∧i<xs.length:=by
  unfold atI at h
  cases e:ixN xs.length i with
  | none=>rw [e] at h; cases h
  | some j =>
    rw [e] at h; obtain ⟨h1,h2,h3,h4⟩:=zl0 e; exact ⟨j,h1,h,h2,h3,h4⟩
theorem zda {α:Type} {xs:List α} {j:Nat} {v:α} (h:xs[j]?=some v):atI xs (j:Int)=some v:=by
  have hj:j<xs.length:=(List.getElem?_eq_some_iff.mp h).1
  have e:ixN xs.length (j:Int)=some j:=by
    unfold ixN
    rw [if_pos (by omega),if_pos (by omega)]; simp
  unfold atI; rw [e]; exact h
theorem zol {α:Type} (xs:List α) (v:α):atI (xs ++ [v]) (-1)=some v:=by
  have hl:(xs ++ [v]).length=xs.length+1:=by simp
  have e:ixN (xs ++ [v]).length (-1)=some xs.length:=by
    unfold ixN
    rw [hl,if_neg (by decide),if_pos (by omega)]
    congr 1
    omega
  unfold atI; rw [e]
  show (xs ++ [v])[xs.length]?=some v
  simp
def zmw (b:Expr):Prop:=∀ o i,subscripted b false o i=operate [o,i] (getItem o i)
def IxR (X:Cx) (r:R2):Prop :=
  ∀ (value slice:Expr) (pins:List (Addr × Obj)) (s:Shared) (σ:St) (H:Hp) (x y:V) (v u:Value) (Q:VK),Inv X pins σ H s→zby x v→zby y u→r x y H Q →
    subscripted slice false v u=operate [v,u] (getItem v u)→wpAny (model X.prog X.w) X.A (subscriptTail value slice v u) (EP X pins σ Q) X.xe s
def MtR (X:Cx) (id:String) (r:V→List V→Hp→VK→Prop):Prop :=
  ∀ (pins:List (Addr × Obj)) (s:Shared) (σ:St) (H:Hp) (x:V) (xs:List V) (v:Value) (us:List Value) (Q:VK),Inv X pins σ H s→zby x v→za5 xs us→r x xs H Q →
    wpAny (model X.prog X.w) X.A (call (.builtin id) (v :: us)) (EP X pins σ Q) X.xe s
section
variable {X:Cx} {a b:Expr} {ta tb:TE} {pos:Pos}
theorem IxR.or {r r':R2} (h:IxR X r) (h':IxR X r'):IxR X (fun x y H Q=>r x y H Q∨r' x y H Q):=by
  intro value slice pins s σ H x y v u Q I rx ry q hs
  rcases q with q | q
  · exact h value slice pins s σ H x y v u Q I rx ry q hs
  · exact h' value slice pins s σ H x y v u Q I rx ry q hs
theorem zt2 {r:R2} (hr:IxR X r) (ha:PE X a ta) (hb:PE X b tb) (hs:zmw b):PE X (.Subscript a b pos) (tOp r ta tb):=by
  intro pins s σ H Q I h
  exact Subscript_ (zuH ha hb I h fun v u s2 x y H2 I2 rx ry q=>hr a b pins s2 σ H2 x y v u Q I2 rx ry q (hs _ _))
def zu1 (K:PySem.W.Frag):R2:=fun x y H Q=>∃ p xs i v,x=.ref p∧y=.int i∧SqL K H p xs∧atI xs i=some v∧Q v H
def zuZ (K:PySem.W.Frag):R2:=fun x y H Q=>∃ p xs i v,x=.ref p∧y=.int i∧SqT K H p xs∧atI xs i=some v∧Q v H
def zu0:R2:=fun x y H Q=>∃ z i c,x=.str z∧y=.int i∧z.length≤sizeLine∧atI z.cps.toList i=some c∧Q (.str ⟨#[c]⟩) H
theorem zqi:IxR X (zu1 X.K):=by
  intro value slice pins s σ H x y v u Q I rx ry h hs; obtain ⟨p,xs,i,z,rfl,rfl,hq,he,q⟩:=h; cases rx; obtain ⟨t,rfl⟩:=ry; obtain ⟨its,r,pl,hz⟩:=I.list hq; obtain ⟨j,h1,h2,h3,h4,h5⟩:=zjo he; obtain ⟨w,ew,rw'⟩:=r.get h2; have hl:=r.length; have hn:=zgl
  have fin:EP X pins σ Q w s:=⟨z,H,I,rw',q⟩
  by_cases h0:0≤i
  · have hj:i.toNat=j:=by
      rw [seqIndex_of h0 h5] at h1; exact Option.some.inj h1
    exact item_listR pl.isList h0 (by omega) (by rw [hj]; simpa using ew) fin hs
  · have hj:(i+(its.toArray.size:Int)).toNat=j:=by
      rw [seqIndex_neg (by omega) h4] at h1
      rw [List.size_toArray,← hl]; exact Option.some.inj h1
    exact subscriptTail_builtinR (x:=w) pl.isList.typeIs slot_list_getitem.lookup
      (wpAny_getItem_list_neg (Q:=fun r s'=>r=w∧EP X pins σ Q r s') pl.isList (by omega) (by rw [List.size_toArray] <;> omega) (by omega) (by rw [hj]; simpa using ew) ⟨rfl,fin⟩) hs
theorem zsn:IxR X (zuZ X.K):=by
  intro value slice pins s σ H x y v u Q I rx ry h hs; obtain ⟨p,xs,i,z,rfl,rfl,hq,he,q⟩:=h; cases rx; obtain ⟨t,rfl⟩:=ry; obtain ⟨its,r,pl,hz⟩:=I.tuple hq; obtain ⟨j,h1,h2,h3,h4,h5⟩:=zjo he; obtain ⟨w,ew,rw'⟩:=r.get h2; have hl:=r.length; have hn:=zgl
  have fin:EP X pins σ Q w s:=⟨z,H,I,rw',q⟩
  exact subscriptTail_builtinR (x:=w) pl.typeIs slot_tuple_getitem.lookup
    (getItem_tuple (j:=j) (Q:=fun r s'=>r=w∧EP X pins σ Q r s') pl (by omega) (by omega) (by rw [List.size_toArray,← hl]; exact h1) (by simpa using ew) ⟨rfl,fin⟩) hs
theorem zso:IxR X zu0:=by
  intro value slice pins s σ H x y v u Q I rx ry h hs; obtain ⟨z,i,c,rfl,rfl,hz,he,q⟩:=h; obtain ⟨t,rfl⟩:=rx; obtain ⟨t',rfl⟩:=ry; obtain ⟨j,h1,h2,h3,h4,h5⟩:=zjo he
  have hl:z.cps.toList.length=z.length:=by simp [Str.length]
  rw [hl] at h1 h4 h5; have hn:=zgl
  exact tail_any (typeIs_str s z t) slot_str_getitem.lookup (getItem_str (c:=c) (by
    have e1:decide (i< -(2 ^ 63:Int))=false:=decide_eq_false (by omega)
    have e2:decide (i ≥ 2 ^ 63)=false:=decide_eq_false (by omega)
    rw [e1,e2,Bool.or_false]) (by rw [h1]; simpa using h2) ⟨.str ⟨#[c]⟩,H,I.tok _,⟨_,rfl⟩,q⟩) hs
def rIx (K:PySem.W.Frag):R2:=fun x y H Q=>zu1 K x y H Q∨zuZ K x y H Q∨zu0 x y H Q
theorem zsp:IxR X (rIx X.K):=zqi.or (zsn.or zso)
theorem zkE (its:List Value) (n j:Nat) (u:Value):Obj.mapSeq (·.setIfInBounds j u) { cls:=.type "list",data:=.seq its.toArray n }={ cls:=.type "list",data:=.seq (its.set j u).toArray n }:=by
  simp [Obj.mapSeq]
theorem Inv.lst {pins:List (Addr × Obj)} {σ:St} {H:Hp} {s:Shared} {p:Addr} {xs:List V} (I:Inv X pins σ H s) (h:H p=some (.lst xs)) :
    ∃ (its:List Value) (n:Nat),za5 xs its∧s.heap.get? p=some { cls:=.type "list",data:=.seq its.toArray n }∧xs.length≤sizeLine:=by
  obtain ⟨z,its,n,r,e⟩:=I.hok p _ h; exact ⟨its,n,r,e,z⟩
theorem Inv.lstUpd {pins:List (Addr × Obj)} {σ:St} {H:Hp} {s:Shared} {p:Addr} {xs ys:List V} {its its':List Value} {n n':Nat} {f:Obj→Obj} (I:Inv X pins σ H s) (h:H p=some (.lst xs))
    (ho:s.heap.get? p=some { cls:=.type "list",data:=.seq its.toArray n }) (hf:f { cls:=.type "list",data:=.seq its.toArray n }={ cls:=.type "list",data:=.seq its'.toArray n' }) (r:za5 ys its') (hz:ys.length≤sizeLine) (t:Nat) :
    Inv X pins σ (upd H p (.lst ys)) { s with heap:=s.heap.update p f,toks:=t }:=by
  have e:(s.heap.update p f).get? p=some { cls:=.type "list",data:=.seq its'.toArray n' }:=by
    rw [Heap.get?_update_self f ho (by rw [hf] <;> rfl),hf]
  refine I.write (x:=p) (e:=p) (by rw [h]; trivial) (.inl rfl) (fun b u hb q=>(Heap.get?_update_other _ _ (Ne.symm hb)).trans q) ⟨_,e⟩ ?_
  exact ⟨hz,its',n',r,e⟩
def ztN:V→V→V→Hp→(Hp→Prop)→Prop:=fun o i v H Q=>∃ p xs k j,o=.ref p∧i=.int k∧H p=some (.lst xs)∧ixN xs.length k=some j∧Q (upd H p (.lst (xs.set j v)))
theorem zmS:zvg X ztN:=by
  intro pins s σ H o i v ov iv u Q I ro ri rv h; obtain ⟨p,xs,k,j,rfl,rfl,hp,hj,q⟩:=h; cases ro; obtain ⟨t,rfl⟩:=ri; obtain ⟨its,n,r,ho,hz⟩:=I.lst hp; obtain ⟨h1,h2,h3,h4⟩:=zl0 hj; have hl:=r.length; have hn:=zgl
  have I':Inv X pins σ (upd H p (.lst (xs.set j v))) { s with heap:=s.heap.update p (Obj.mapSeq (·.setIfInBounds j u)) } :=
    I.lstUpd hp ho (zkE its n j u) (r.set rv j) (by rw [List.length_set]; exact hz) s.toks
  by_cases h0:0≤k
  · have hk:k.toNat=j:=by
      rw [seqIndex_of h0 h4] at h1; exact Option.some.inj h1
    exact PySem.W.ki_setAt ho h0 (by omega) (by rw [List.size_toArray,← hl]; exact h4) (by rw [hk]; exact ⟨_,I',q⟩)
  · have hk:(k+(its.toArray.size:Int)).toNat=j:=by
      rw [seqIndex_neg (by omega) h3] at h1
      rw [List.size_toArray,← hl]; exact Option.some.inj h1
    exact PySem.W.ki_setBack ho (by omega) (by rw [List.size_toArray,← hl]; exact h3) (by omega) (by rw [hk]; exact ⟨_,I',q⟩)
theorem zht (lo hi:Option Int) (n:Nat):(sliceBounds lo hi none n).1=((HT.sIx n 0 lo:Nat):Int)∧(sliceBounds lo hi none n).2.1=((HT.sIx n n hi:Nat):Int)∧(sliceBounds lo hi none n).2.2=1:=by
  refine ⟨?_,?_,rfl⟩
  · cases lo with
    | none=>simp [sliceBounds,HT.sIx]
    | some i =>
      simp only [sliceBounds,HT.sIx,Option.getD_none,show (1:Int) > 0 by decide,if_true]
      by_cases h:i<0
      · simp only [h,if_true] <;> omega
      · simp only [h,if_false] <;> omega
  · cases hi with
    | none=>simp [sliceBounds,HT.sIx]
    | some i =>
      simp only [sliceBounds,HT.sIx,Option.getD_none,show (1:Int) > 0 by decide,if_true]
      by_cases h:i<0
      · simp only [h,if_true] <;> omega
      · simp only [h,if_false] <;> omega
theorem zgz (its:List Value) (lo hi:Option Int):slicePick its.toArray lo hi none=((its.drop (HT.sIx its.length 0 lo)).take (HT.sIx its.length its.length hi-HT.sIx its.length 0 lo)).toArray:=by
  obtain ⟨h1,h2,h3⟩:=zht lo hi its.toArray.size; unfold slicePick; rw [h1,h2,h3]
  simp only [sliceRange_one,pick_run,List.size_toArray] <;> rfl
def zvA (K:PySem.W.Frag):V→Option Int→Option Int→Hp→VK→Prop:=fun x lo hi H Q=>∃ a xs,x=.ref a∧SqL K H a xs∧∀ p,H p=none→Q (.ref p) (upd H p (.lst (zmh xs lo hi)))
theorem zpf:SlR X (zvA X.K):=by
  intro pins s σ H x v vl vu lo hi sl Q I rx hs pl pu h; obtain ⟨a,xs,rfl,hx,q⟩:=h; cases rx; obtain ⟨its,r,ht,hz⟩:=I.list hx; have hlen:=r.length; refine ⟨"list",_,slot_list_getitem.lookup,ht.isList.typeIs,?_⟩
  refine wpAny_getItem_list_slice ht.isList hs pl pu .none (by simp) ?_ (by rw [List.size_toArray] <;> omega)
  rw [zgz,← hlen]
  refine ⟨.ref s.heap.objs.size,_,I.laid (t':=s.toks) (o:=.lst (zmh xs lo hi)) (fun b ob q=>Heap.get?_push_of_some _ q) (Nat.le_refl _) ?_,rfl,q _ (I.hok.fresh (Nat.le_refl _))⟩
  exact ⟨Nat.le_trans (zfZ xs lo hi) hz,_,0,(r.drop (HT.sIx xs.length 0 lo)).take (HT.sIx xs.length xs.length hi-HT.sIx xs.length 0 lo),Heap.get?_push_size _ rfl⟩
def zn4:V→Bool
  | .non=>true
  | .bl _=>true
  | .int _=>true
  | .str _=>true
  | _=>false
def eqV:V→V→Bool
  | .non,.non=>true
  | .bl a,.bl b=>a == b
  | .bl a,.int b=>(if a then 1 else 0) == b
  | .int a,.bl b=>a == (if b then 1 else 0)
  | .int a,.int b=>a == b
  | .str a,.str b=>a == b
  | _,_=>false
theorem zoU {A:Around} {s:Shared} {y x:V} {u v:Value} (ry:zby y u) (rx:zby x v) (fy:zn4 y=true) (fx:zn4 x=true):SeqAt.EqAt A s u v (eqV y x):=by
  cases y with
  | non =>
    cases ry
    cases x with
    | non=>cases rx; exact SeqAt.EqAt.same _
    | bl b=>cases rx; exact SeqAt.EqAt.none_bool b
    | int b=>obtain ⟨t,rfl⟩:=rx; exact SeqAt.EqAt.none_int b t
    | str b=>obtain ⟨t,rfl⟩:=rx; exact SeqAt.EqAt.none_str b t
    | _=>exact absurd (show false=true from fx) Bool.false_ne_true
  | bl a =>
    cases ry
    cases x with
    | non=>cases rx; exact SeqAt.EqAt.bool_none a
    | bl b=>cases rx; exact SeqAt.EqAt.bool_bool a b
    | int b=>obtain ⟨t,rfl⟩:=rx; exact SeqAt.EqAt.bool_int a b t
    | str b=>obtain ⟨t,rfl⟩:=rx; exact SeqAt.EqAt.bool_str a b t
    | _=>exact absurd (show false=true from fx) Bool.false_ne_true
  | int a =>
    obtain ⟨t',rfl⟩:=ry
    cases x with
    | non=>cases rx; exact SeqAt.EqAt.int_none a t'
    | bl b=>cases rx; exact SeqAt.EqAt.int_bool a t' b
    | int b=>obtain ⟨t,rfl⟩:=rx; exact SeqAt.EqAt.int_int a t' b t
    | str b=>obtain ⟨t,rfl⟩:=rx; exact SeqAt.EqAt.int_str a t' b t
    | _=>exact absurd (show false=true from fx) Bool.false_ne_true
  | str a =>
    obtain ⟨t',rfl⟩:=ry
    cases x with
    | non=>cases rx; exact SeqAt.EqAt.str_none a t'
    | bl b=>cases rx; exact SeqAt.EqAt.str_bool a t' b
    | int b=>obtain ⟨t,rfl⟩:=rx; exact SeqAt.EqAt.str_int a t' b t
    | str b=>obtain ⟨t,rfl⟩:=rx; exact SeqAt.EqAt.str_str a t' b t
    | _=>exact absurd (show false=true from fx) Bool.false_ne_true
  | _=>exact absurd (show false=true from fy) Bool.false_ne_true
theorem zid:zdh X (.builtin "len") (fun xs H Q=>∃ p ys,xs=[.ref p]∧(SqL X.K H p ys∨SqT X.K H p ys)∧Q (.int ys.length) H):=by
  intro pins s σ H xs us Q I r h; obtain ⟨p,ys,rfl,hq,q⟩:=h; obtain ⟨u,rfl,rx⟩:=zdj r; cases rx; have hn:=zgl
  rcases hq with hq | hq
  · obtain ⟨its,r',pl,hz⟩:=I.list hq
    have hlen:=r'.length
    exact Calls.call_len_list pl.isList (by simp only [List.size_toArray] <;> omega) ⟨.int ys.length,H,I.tok _,⟨s.toks+1,by rw [List.size_toArray,hlen]⟩,q⟩
  · obtain ⟨its,r',pl,hz⟩:=I.tuple hq
    have hlen:=r'.length
    exact len_tuple pl (by simp only [List.size_toArray] <;> omega) ⟨.int ys.length,H,I.tok _,⟨s.toks+1,by rw [List.size_toArray,hlen]⟩,q⟩
theorem zic:zdh X (.builtin "len") (fun xs H Q=>∃ z,xs=[.str z]∧z.length≤sizeLine∧Q (.int z.length) H):=by
  intro pins s σ H xs us Q I r h; obtain ⟨z,rfl,hz,q⟩:=h; obtain ⟨u,rfl,t,rfl⟩:=zdj r; have hn:=zgl
  exact len_str (by omega) ⟨.int z.length,H,I.tok _,⟨_,rfl⟩,q⟩
theorem zdh.or {f:Value} {r r':List V→Hp→VK→Prop} (h:zdh X f r) (h':zdh X f r'):zdh X f (fun xs H Q=>r xs H Q∨r' xs H Q):=by
  intro pins s σ H xs us Q I rs q
  rcases q with q | q
  · exact h pins s σ H xs us Q I rs q
  · exact h' pins s σ H xs us Q I rs q
theorem zhj:zdh X (.type "tuple") (fun xs H Q=>∃ p ys,xs=[.ref p]∧((SqL X.K H p ys∧∀ l,H l=none→Q (.ref l) (upd H l (.tup ys)))∨(SqT X.K H p ys∧Q (.ref p) H))):=by
  intro pins s σ H xs us Q I r h; obtain ⟨p,ys,rfl,h⟩:=h; obtain ⟨u,rfl,rx⟩:=zdj r; cases rx
  rcases h with ⟨hq,q⟩ | ⟨hq,q⟩
  · obtain ⟨its,r',pl,hz⟩:=I.list hq
    have hlen:=r'.length
    refine call_tuple_list pl.isList (fun h' kp=>?_) (by simp only [List.size_toArray] <;> omega)
    have I1:Inv X pins σ H { s with heap:=h' }:=I.kept (t':=s.toks) kp
    have I2:Inv X pins σ (upd H h'.objs.size (.tup ys)) { s with heap:=h'.push { cls:=.type "tuple",data:=.seq its.toArray } } :=
      I1.laid (t':=s.toks) (fun b o e=>Heap.get?_push_of_some _ e) (Nat.le_refl _) (show zbT X.prog X.w _ _ _ (.tup ys) from ⟨hz,its,r',IsTup.new _ _⟩)
    exact ⟨.ref h'.objs.size,_,I2,rfl,q _ (I1.hok.fresh (Nat.le_refl _))⟩
  · obtain ⟨its,r',pl,hz⟩:=I.tuple hq
    exact call_tuple_same pl ⟨.ref p,H,I,rfl,q⟩
def tyV (K:PySem.W.Frag) (T:String) (x:V) (H:Hp):Prop:=match x with
  | .str _=>T="str"
  | .int _=>T="int"
  | .ref p=>(T="list"∧∃ xs,SqL K H p xs)∨(T="tuple"∧∃ o,K.lookup p=some o∧o.cls=.type "tuple"∧o.dict=none) ∨
      (T="dict"∧((∃ kvs,H p=some (.dK kvs))∨∃ kvs,H p=some (.dT kvs)))∨(T="set"∧∃ S n,H p=some (.set S n))
  | _=>False
theorem zq6 {pins:List (Addr × Obj)} {σ:St} {H:Hp} {s:Shared} {T:String} {x:V} {v:Value} (I:Inv X pins σ H s) (r:zby x v) (ty:tyV X.K T x H) :
    s.TypeIs v T∧∀ a,v=.ref a→∃ ob,s.heap.get? a=some ob∧ob.dict=none:=by
  cases x with
  | str z =>
    obtain ⟨t,rfl⟩:=r
    cases (show T="str" from ty)
    exact ⟨typeIs_str s z t,fun _ e=>nomatch e⟩
  | int i =>
    obtain ⟨t,rfl⟩:=r
    cases (show T="int" from ty)
    exact ⟨typeIs_int s i t,fun _ e=>nomatch e⟩
  | ref p =>
    cases r
    rcases ty with ⟨rfl,xs,hq⟩ | ⟨rfl,o,hk,hc,hd⟩ | ⟨rfl,hk⟩ | ⟨rfl,S,n,hk⟩
    · obtain ⟨its,_,pl,_⟩:=I.list hq
      refine ⟨pl.isList.typeIs,fun a e=>?_⟩
      cases e; obtain ⟨o,n,e,c,hd,_⟩:=pl; exact ⟨o,e,hd⟩
    · refine ⟨⟨o,I.kIn p o hk,hc⟩,fun a e=>?_⟩
      cases e; exact ⟨o,I.kIn _ o hk,hd⟩
    · have z:∃ o,s.heap.get? p=some o∧o.ExactDict:=by
        rcases hk with ⟨kvs,hk⟩ | ⟨kvs,hk⟩
        · obtain ⟨_,_,_,_,o,_,_,e,ex,_⟩:=I.hok p _ hk
          exact ⟨o,e,ex⟩
        · obtain ⟨_,_,_,_,o,_,_,e,ex,_⟩:=I.hok p _ hk
          exact ⟨o,e,ex⟩
      obtain ⟨o,e,ex⟩:=z
      refine ⟨⟨o,e,ex.1⟩,fun a e2=>?_⟩
      cases e2; exact ⟨o,e,ex.2.1⟩
    · obtain ⟨o,_,_,_,e,ex,_⟩:=I.hok p _ hk
      refine ⟨⟨o,e,ex.1⟩,fun a e2=>?_⟩
      cases e2; exact ⟨o,e,ex.2.1⟩
  | _=>exact False.elim ty
def tBM (K:PySem.W.Frag) (T:String) (r:V→List V→Hp→VK→Prop) (to:TE) (t:TA):TE:=fun σ H Q=>to σ H fun x H1=>tyV K T x H1∧t σ H1 fun xs H2=>r x xs H2 Q
variable {o e:Expr} {es:List Expr} {to:TE} {t:TA} {name:Str} {apos cpos:Pos} {T id:String} {r:V→List V→Hp→VK→Prop}
theorem znh (pa:PlainAttrs T) (slot:Slot T name id) (hty:typeOf (.builtin id)=pure (.type "method_descriptor")) (hm:MtR X id r) (ho:PE X o to) (ha:PA X (e :: es) t)
    (hbase:attributeBase o name X.env (eval o X.env)=eval o X.env:=by rfl)
    (hfew:((backTo cpos (starEach (e :: es) X.env)).all (fun x=>!x.1) && (backToKw cpos (keywordEach [] X.env)).all (fun x=>x.1.isSome)
      && decide ((e :: es).length+([]:List Keyword).length+(if ([]:List Keyword).isEmpty then 0 else 1)<30))=true:=by rfl)
    (hline:(apos.endLine == cpos.line)=true:=by rfl) (hs:starEach (e :: es) X.env=(false,eval e X.env) :: starEach es X.env:=by rfl) (hplain:(backTo cpos (starEach es X.env)).any (·.1)=false:=by rfl) :
    PE X (.Call (.Attribute o name apos) (e :: es) [] cpos) (tBM X.K T r to t):=by
  intro pins s σ H Q I h
  refine wpAny_Call_method_late hbase hfew hline rfl (thn (ho pins s σ H _ I h) fun v s1 ⟨x,H1,I1,r1,ty,q1⟩=>?_)
  obtain ⟨h1,h2⟩:=zq6 I1 r1 ty; refine ⟨T,id,pa,slot,hty,h1,h2,?_⟩; have hA:=ha cpos pins s1 σ H1 _ I1 q1; rw [hs] at hA ⊢
  refine Calls.callWith_builtin (by show (false || (backTo cpos (starEach es X.env)).any (·.1))=false; rw [hplain] <;> rfl) (Calls.evalArgs_plain ?_)
  exact thn hA fun us s2 ⟨vs,H2,I2,r2,q2⟩=>hm pins s2 σ H2 x vs v us Q I2 r1 r2 q2
end
end L2
namespace L2
open PySem PySem.Spec PyProof.Rows
def MtM (X:Cx) (id:String) (r:V→List V→Hp→VK→Prop):Prop :=
  ∀ (pins:List (Addr × Obj)) (s:Shared) (σ:St) (H:Hp) (x:V) (xs:List V) (v:Value) (us:List Value) (Q:VK),Inv X pins σ H s→zby x v→za5 xs us→r x xs H Q →
    wpAny (model X.prog X.w) X.A (call (.builtin id) (v :: us)) (EP X pins σ Q) X.xe s
theorem za5.one:∀ {x:V} {us:List Value},za5 [x] us→∃ u,us=[u]∧zby x u
  | _,_,.cons r .nil=>⟨_,rfl,r⟩
theorem za5.dropLast {xs:List V} {us:List Value} (h:za5 xs us):za5 xs.dropLast us.dropLast:=by
  induction h with
  | nil=>exact .nil
  | cons r t ih =>
    cases t with
    | nil=>exact .nil
    | cons q t'=>exact .cons r ih
theorem za5.rep {xs:List V} {us:List Value} (h:za5 xs us):∀ k:Nat,za5 (List.replicate k xs).flatten (List.replicate k us).flatten
  | 0=>.nil
  | k+1=>by
    rw [List.replicate_succ,List.replicate_succ,List.flatten_cons,List.flatten_cons]; exact za5.append h (za5.rep h k)
theorem foldl_rep (its:List Value):∀ (k:Nat) (acc:List Value),
    List.foldl (fun x1 x2=>x1 ++ x2) acc.toArray (List.replicate k its.toArray)=(acc ++ (List.replicate k its).flatten).toArray
  | 0,acc=>by simp
  | k+1,acc=>by
    have e:acc.toArray ++ its.toArray=(acc ++ its).toArray:=by simp
    have e2:(acc ++ its) ++ (List.replicate k its).flatten=acc ++ (List.replicate (k+1) its).flatten:=by
      rw [List.replicate_succ,List.flatten_cons,List.append_assoc]
    rw [← e2,← foldl_rep its k (acc ++ its),← e,List.replicate_succ,List.foldl_cons]
section
variable {X:Cx} {pins:List (Addr × Obj)} {σ:St} {H:Hp} {s:Shared} {l b:Addr} {xs ys zs:List V}
theorem Inv.lset {its its':List Value} {n:Nat} {f:Array Value→Array Value} {t':Nat} (I:Inv X pins σ H s) (hH:H l=some (.lst xs))
    (e:s.heap.get? l=some { cls:=.type "list",data:=.seq its.toArray n }) (hf:f its.toArray=its'.toArray) (hv:za5 ys its') (hz:ys.length≤sizeLine) :
    Inv X pins σ (upd H l (.lst ys)) { s with heap:=s.heap.update l (Obj.mapSeq f),toks:=t' }:=by
  have q:=PySem.IsL.update e f; rw [hf] at q
  refine I.write (x:=l) (e:=l) (by rw [hH]; exact trivial) (.inl rfl) (fun b' u hb hu=>(Heap.get?_update_other s.heap (Obj.mapSeq f) (Ne.symm hb)).trans hu) ⟨_,q⟩ ?_
  exact ⟨hz,its',_,hv,q⟩
theorem Inv.lnew {its:List Value} {t':Nat} (I:Inv X pins σ H s) (hv:za5 ys its) (hz:ys.length≤sizeLine) :
    Inv X pins σ (upd H s.heap.objs.size (.lst ys)) { s with heap:=s.heap.push { cls:=.type "list",data:=.seq its.toArray },toks:=t' } :=
  I.laid (fun _ _ q=>Heap.get?_push_of_some _ q) (Nat.le_refl _) ⟨hz,its,0,hv,Heap.get?_push_size _ rfl⟩
theorem Inv.fresh (I:Inv X pins σ H s):H s.heap.objs.size=none:=I.hok.fresh (Nat.le_refl _)
theorem Inv.lstM (I:Inv X pins σ H s) (hH:H l=some (.lst xs)):xs.length≤sizeLine∧∃ (its:List Value) (n:Nat),za5 xs its∧xs.length=its.length∧s.heap.get? l=some { cls:=.type "list",data:=.seq its.toArray n }:=by
  obtain ⟨z,its,n,r,e⟩:=I.hok l _ hH; exact ⟨z,its,n,r,r.length,e⟩
theorem notLongL {n:Nat} (h:n≤sizeLine):Builtin.List.listTooLong n=false:=by
  unfold Builtin.List.listTooLong
  exact decide_eq_false (by omega)
end
section
variable {X:Cx}
def zpo:V→List V→Hp→VK→Prop:=fun x vs H Q=>∃ l xs y,x=.ref l∧vs=[y]∧H l=some (.lst xs)∧xs.length<sizeLine∧Q .non (upd H l (.lst (xs ++ [y])))
theorem zek:MtM X "list.append" zpo:=by
  intro pins s σ H x vs v us Q I rx rv h; obtain ⟨l,xs,y,rfl,rfl,hH,hz,q⟩:=h; cases rx; obtain ⟨u,rfl,ru⟩:=rv.one; obtain ⟨z,its,n,r,hl,e⟩:=I.lstM hH
  refine call_meets F.slot_list_append ⟨_,e,rfl⟩ F.entry_list_append (F.args_list_append_2 _ _) (PySem.list_append l its.toArray n u (by rw [List.size_toArray]; omega)) ⟨e,?_⟩
  refine ⟨.non,_,I.lset (its':=its ++ [u]) hH e (by simp) (r.append (.cons ru .nil)) ?_,rfl,q⟩
  rw [List.length_append,List.length_singleton]; omega
theorem len_rep {α:Type} (xs:List α) (k:Nat):(List.replicate k xs).flatten.length=k * xs.length:=by
  induction k with
  | zero=>simp
  | succ k ih=>rw [List.replicate_succ,List.flatten_cons,List.length_append,ih,Nat.succ_mul,Nat.add_comm]
end
section
variable {prog:Program} {w:World} {A:Around} {E:Value→Shared→Prop} {s:Shared}
set_option maxRecDepth 100000 in
end
section
variable {X:Cx}
end
end L2
namespace Att
open PySem PySem.W PySem.Calls PyProof.Rows
theorem zfQ {P:Params} {h:Heap}:∀ (ns:List Int) (vs:List Value),WellAll P h vs (ns.map WData.int)→IntsAre vs ns:=by
  intro ns
  induction ns with
  | nil =>
    intro vs w; rw [List.map_nil] at w; cases w; exact .nil
  | cons n ns ih =>
    intro vs w; rw [List.map_cons] at w
    cases w with
    | cons a b =>
      cases a; exact .cons _ _ (ih _ b)
theorem zle {l:OpenLaw} {n:Nat} (hn:l.most=some n) {P:Params} {h:Heap} {args:List WData} {vals:List Value}
    (hpre:l.row.toRowW.claim.pre args=true) (hwl:WellAll P h vals args) :
    ∃ a vs ns,vals=[Value.ref a]∧args=[WData.list (ns.map WData.int)]∧h.get? a=some { cls:=.type "list",data:=.seq vs.toArray }∧IntsAre vs ns∧ns.length≤n:=by
  have hsh:WShape.hasAll [] args [.list .int]=true:=(pre_splitW hpre).1
  have hc:l.pre.holds [] { args:=args }=true:=(pre_splitW hpre).2
  obtain ⟨d,r,rfl,h1,h2⟩:=hasAllW_cons hsh
  obtain rfl:=hasAllW_nil h2
  obtain ⟨xs,rfl,h3⟩:=hasW_list h1; obtain ⟨ns,rfl⟩:=items_int h3
  have hlen:ns.length≤n:=by
    unfold OpenLaw.pre at hc
    have h4:(WTm.not (.lt (.lit (.int (n:Int))) (.len (.arg 0)))).holds [] { args:=[.list (ns.map .int)] }=true:=by
      have h4:=(holds_andW hc).1; rw [hn] at h4; exact h4
    have h5:=condW_of h4 (w_not (w_lt w_lit (w_len_list (w_arg rfl)))); rw [List.length_map] at h5
    refine Nat.le_of_not_lt fun q=>?_
    have q':(n:Int)<((ns.length:Nat):Int):=by omega
    first
      | (rw [decide_eq_true q'] at h5; exact absurd h5 (by decide))
      | (simp at h5; omega)
  cases hwl with
  | cons w1 w2 =>
    cases w2
    cases w1 with
    | list ho hall=>exact ⟨_,_,ns,rfl,rfl,ho,zfQ ns _ hall,hlen⟩
theorem zls (l:OpenLaw) (args:List WData):l.row.toRowW.claim.post args (.bool true) args=true :=
  postW_of (r:=l.row.toRowW) (X:=(true == true))
    (show WShape.has [] (.bool true) .bool=true by first | rfl | decide | simp [WShape.has,WShape.arms,WShape.armsAll])
    (show (WTm.eq .res (.lit (.bool true))).value [] { args:=args,res:=some (.bool true),after:=args }=some (.bool (true == true)) from w_eq_bool (w_res rfl) w_lit) rfl
theorem attach_call {l:OpenLaw} {n:Nat} {q:Program} {loose:List Str} {XP:(Str→Option Value)→Heap→Prop} {YP:World→Heap→Prop} {d:DefRec}
    (hn:l.most=some n) (hdf:d.params.defaults=[])
    (call:∀ (w:World) (s₀ s₁:Shared) (mg mb:Str→Option Value) (fa:Addr) (o:Obj) (pm cd doc:Value) (a:Addr) (vs:List Value) (ns:List Int),
      Ground q loose [] XP w s₀ mg mb s₁.heap→YP w s₁.heap →
      s₁.heap.get? fa=some o→o.data=.func (docDef d.name d.params d.body d.scope pm cd doc)→s₁.heap.CodeRec cd d.name→mg d.name=some (.ref fa) →
      s₁.heap.get? a=some { cls:=.type "list",data:=.seq vs.toArray }→IntsAre vs ns→ns.length≤n→s₁.gens=#[] →
      codeAny (model l.prog w) callerA (.call (.ref fa) ⟨[.ref a],[]⟩) (fun r s'=>r=.ok (.ret (.bool true))∧OldK s₁.heap s'.heap∧s'.os=s₁.os∧AllBare s'.gens) s₁) :
    WalkO q loose XP YP l.row.toRowW d [] (fun f vs=>PySem.call f vs):=by
  intro w s₀ s₁ mg mb G Y fa o pm cd doc dV kV ho hd hcd hD hmg hg args vals as hpre hlay hrd hwl hlo
  obtain rfl:dV=.none:=Dflts.none hD hdf
  obtain rfl:kV=.none:=Dflts.noKw hD
  obtain ⟨a,vs,ns,rfl,rfl,hobj,hints,hlen⟩:=zle hn hpre hwl
  refine enter_call (codeAny_mono (call w s₀ s₁ mg mb fa o pm cd doc a vs ns G Y ho (fd_plain hd) hcd hmg hobj hints hlen hg) fun r s' hq=>?_)
  obtain ⟨rfl,h2,h3,h4⟩:=hq
  exact ⟨.inl ⟨.bool true,.bool true,[],rfl,fun _=>rfl,.bool true,zls l _,fun _=>⟨List.Pairwise.nil,fun _ hm=>(nomatch hm)⟩⟩,h2,h3,h4⟩
section
variable {prog:Program} {w:World} {A:Around} {E:Value→Shared→Prop} {s:Shared} {K:Frag}
def zva (h:Heap) (L d:Addr):List (Addr × Obj):=(List.range h.objs.size).filterMap fun a=>if a=L∨a=d then none else (h.get? a).map fun o=>(a,o)
end
end Att
namespace L2
open PySem PySem.Spec PyProof.Rows
theorem zhk:∀ {vs:List Value} {ns:List Int},IntsAre vs ns→za5 (ns.map V.int) vs
  | _,_,.nil=>.nil
  | _,_,.cons n t h=>.cons ⟨t,rfl⟩ (zhk h)
def ztl (H:Hp):Prop:=∀ b,H b=none∨∃ o xs,H b=some (.frz o (.lst xs))
theorem znB {P:Program} {w:World} {K:PySem.W.Frag} {mg mb:Str→Option Value} {CX:CXT} {k:Nat} {fa a:Addr} {fd:FuncData} {x:Str} {sp:Sp} {s₁:Shared} {vs:List Value} {ns:List Int}
    (KX:K.In s₁.heap) (hns:s₁.heap.Ns mainGlobals mg) (hb:s₁.heap.Ns builtinsNs mb) (hbb:∀ x:Str,x≠"__name__"→mb x=bootBuiltins x) (hlim:s₁.heap.NoLimit) (hbm:∃ bm ob,mg "__builtins__"=some (.ref bm)∧bm≠builtinsNs∧s₁.heap.get? bm=some ob∧ob.cls=.type "module"∧ob.dict=some builtinsNs∧ob.data=.plain) (hg:s₁.gens=#[])
    (ha:s₁.heap.get? a=some { cls:=.type "list",data:=.seq vs.toArray }) (hi:IntsAre vs ns) (hl:ns.length≤sizeLine) (hr:Room k callerA)
    (F:∀ base:Heap,K.In base→base.Ns mainGlobals mg→FnOk P w K mg base CX k fa fd [x] sp) (hbind:∀ (s:Shared) (u:Value),BindsTo s fd ⟨[u],[]⟩ [(x,u)])
    (hsp:∀ H:Hp,ztl H→SqL K H a (ns.map V.int)→sp [.ref a] H (fun v _=>v=.bl true) fun _ _ _=>False)
    (hCX:∀ H e s',CX [] H s₁ (fun _ _ _=>False) e s'→False) :
    codeAny (model P w) callerA (.call (.ref fa) ⟨[.ref a],[]⟩) (fun r s'=>r=.ok (.ret (.bool true))∧OldK s₁.heap s'.heap∧s'.os=s₁.os∧AllBare s'.gens) s₁:=by
  have rv:=zhk hi; have lenV:=hi.length
  -- from an abstract heap in which nothing but the script may be tracked
  have core:∀ H:Hp,ztl H→SqL K H a (ns.map V.int)→HOk P w H s₁.heap→(∀ b,H b≠none→b=a)→(H a≠none→K.lookup a=none) →
      codeAny (model P w) callerA (.call (.ref fa) ⟨[.ref a],[]⟩) (fun r s'=>r=.ok (.ret (.bool true))∧OldK s₁.heap s'.heap∧s'.os=s₁.os∧AllBare s'.gens) s₁:=by
    intro H hO hS hok hA hK
    have base_of:∀ {b:Addr} {o:Obj},s₁.heap.get? b=some o→H b=none→(nrm s₁.heap H).get? b=some o:=fun e n=>zp1 e n
    have noA:∀ {b:Addr} {o:Obj} {es:Array DictEntry} {ep:Nat},s₁.heap.get? b=some o→o.data=.dict es ep→H b=none:=fun {b o es ep} e d=>by
      cases q:H b with
      | none=>rfl
      | some u =>
        have e':b=a:=hA b (by rw [q]; simp)
        subst e'
        rw [ha] at e; cases e
        have d':Data.seq vs.toArray _=Data.dict es ep:=d
        cases d'
    have nsK:∀ {b:Addr} {m:Str→Option Value},s₁.heap.Ns b m→(nrm s₁.heap H).Ns b m:=fun {b m} ⟨o,es,ep,e,d,r⟩=>⟨o,es,ep,base_of e (noA e d),d,r⟩
    have hKb:K.In (nrm s₁.heap H):=fun b o e=>base_of (KX b o e) (by
      cases q:H b with
      | none=>rfl
      | some u =>
        have e':b=a:=hA b (by rw [q]; simp)
        subst e'
        rw [hK (by rw [q]; simp)] at e; cases e)
    have hM:Mod K mg (nrm s₁.heap H):=⟨hKb,nsK hns,⟨mb,nsK hb,hbb⟩,(let ⟨mc,h1,h2⟩:=hlim; ⟨mc,nsK h1,h2⟩),(let ⟨bm,ob,b1,b2,b3,b4,b5,b6⟩:=hbm; ⟨bm,ob,b1,b2,base_of b3 (by
      cases q:H bm with
      | none=>rfl
      | some u =>
        have e':bm=a:=hA bm (by rw [q]; simp)
        subst e'
        rw [ha] at b3; cases b3; cases b6),b4,b5,b6⟩)⟩
    have e0:Env0 P w K mg (nrm s₁.heap H) callerA [] s₁ H:=⟨rfl,hM,fun b o e=>zr6 e,Nat.le_of_eq (znp _ _),trivial,fun b hb=>absurd (show b ∈ ([]:List Addr) from hb) (by simp),hok,.of_eq hg,zno _ _⟩
    refine codeAny_mono ((F _ hKb (nsK hns)).run callerA [] s₁ H ⟨[.ref a],[]⟩ [.ref a] [.ref a] _ _ hr e0 (hbind s₁ (.ref a)) (.cons rfl .nil) (hsp H hO hS)) fun r s' h=>?_
    cases r with
    | error e=>exact (hCX H e s' h).elim
    | ok fl =>
      cases fl with
      | next=>exact False.elim h
      | brk=>exact False.elim h
      | cont=>exact False.elim h
      | ret u =>
        obtain ⟨v,H',os,bare,un,hok',r',q⟩:=h
        have q':v=.bl true:=q
        subst q'
        obtain rfl:u=Value.bool true:=r'
        refine ⟨rfl,OldK.of_keep fun b o e=>?_,os,bare⟩
        cases q:H b with
        | none=>exact un.keep b o e q (by intro z; exact absurd (show b ∈ ([]:List Addr) from z) (by simp)) (by simp)
        | some u =>
          rcases hO b with z | ⟨ob,xs,z⟩
          · rw [q] at z; cases z
          · have z2:=un.frzs b ob _ z
            obtain ⟨e1,_⟩:=hok b _ z; obtain ⟨e2,_⟩:=hok' b _ z2
            rw [e] at e1; cases e1
            exact e2
  cases hk:K.lookup a with
  | some o =>
    -- the script is one of the module's own objects
    have e:=KX a o hk; rw [ha] at e; cases e
    refine core (fun _=>none) (fun _=>.inl rfl) (.inr ⟨_,vs.toArray,_,hk,rfl,rfl,rfl,by rw [List.size_toArray,lenV]; exact hl,by simpa using rv⟩) (fun b u z=>by have z':(none:Option HO)=some u:=z; cases z') (fun b z=>absurd rfl z) fun z=>absurd rfl z
  | none =>
    refine core (fun b=>if b=a then some (.frz { cls:=.type "list",data:=.seq vs.toArray } (.lst (ns.map V.int))) else none) (fun b=>?_) (.inl (.inr ⟨{ cls:=.type "list",data:=.seq vs.toArray },if_pos rfl⟩)) (fun b u z=>?_) (fun b z=>?_) fun _=>hk
    · by_cases hb:b=a
      · exact .inr ⟨_,_,if_pos hb⟩
      · exact .inl (if_neg hb)
    · by_cases hb:b=a
      · have z':=(if_pos hb).symm.trans z
        cases z'; subst hb
        exact ⟨ha,by rw [List.length_map]; exact hl,vs,_,rv,ha⟩
      · have z':=(if_neg hb).symm.trans z
        cases z'
    · by_cases hb:b=a
      · exact hb
      · exact absurd (if_neg hb) z
end L2
namespace L2
open PySem PySem.Spec PyProof.Rows
theorem walk_of {l:PySem.W.OpenLaw} {n k:Nat} {q:Program} {loose:List Str} {XP:(Str→Option Value)→Heap→Prop} {YP:World→Heap→Prop} {d:DefRec} {K:Params→PySem.W.Frag} {CX:World→CXT} {sp:World→Sp} {x:Str}
    (hn:l.most=some n) (hn2:n≤sizeLine) (hdf:d.params.defaults=[]) (hr:Room k callerA)
    (hY:∀ (w:World) (h:Heap),YP w h→(K w.params).In h)
    (F:∀ (w:World) (mg:Str→Option Value) (fa:Addr) (h:Heap),(K w.params).In h→h.Ns mainGlobals mg→mg d.name=some (.ref fa) →
      ∃ fd:FuncData,(∀ (s:Shared) (u:Value),BindsTo s fd ⟨[u],[]⟩ [(x,u)]) ∧
        ∀ base:Heap,(K w.params).In base→base.Ns mainGlobals mg→FnOk l.prog w (K w.params) mg base (CX w) k fa fd [x] (sp w))
    (hsp:∀ (w:World) (H:Hp) (a:Addr) (ns:List Int),ns.length≤n→ztl H→SqL (K w.params) H a (ns.map V.int)→sp w [.ref a] H (fun v _=>v=.bl true) fun _ _ _=>False)
    (hCX:∀ (w:World) (H:Hp) (s:Shared) (e:Value) (s':Shared),CX w [] H s (fun _ _ _=>False) e s'→False) :
    PySem.W.WalkO q loose XP YP l.row.toRowW d [] (fun f vs=>PySem.call f vs):=by
  refine Att.attach_call hn hdf fun w s₀ s₁ mg mb fa o pm cd doc a vs ns G Y ho hd hcd hmg hobj hints hlen hg=>?_
  have KX:=hY w _ Y; obtain ⟨fd,hb,hF⟩:=F w mg fa _ KX G.T.g hmg
  exact znB KX G.T.g G.T.b G.T.builtins G.T.nolimit G.T.bmain hg hobj hints (Nat.le_trans hlen hn2) hr hF hb (fun H hO hS=>hsp w H a ns hlen hO hS) fun H e s'=>hCX w H s₁ e s'
end L2
namespace L2
open PySem PySem.Spec PyProof.Rows
def zi9 (s:Stmt) (j:Nat):Stmt:=match s with
  | .ClassDef _ _ _ body _ _ _ _ _ _ _=>body.getD j (.Pass ⟨0,0,0,0⟩)
  | _=>.Pass ⟨0,0,0,0⟩
def zcB (s:Stmt):Arguments:=match s with
  | .FunctionDef _ a _ _ _ _ _ _ _ _=>a
  | _=>{ posonlyargs:=[],args:=[],vararg:=none,kwonlyargs:=[],kw_defaults:=[],kwarg:=none,defaults:=[] }
def zbD (s:Stmt):List Stmt:=match s with
  | .FunctionDef _ _ b _ _ _ _ _ _ _=>b
  | _=>[]
def zj (s:Stmt):Scope:=match s with
  | .FunctionDef _ _ _ _ _ _ sc _ _ _=>sc
  | _=>{ kind:=.function,names:=[],isGenerator:=false,isCoroutine:=false }
abbrev CX0:CXT:=fun _ _ _ _ _ _=>False
abbrev E0:XK:=fun _ _ _=>False
theorem zni {X:Cx}:zil CX0 X E0:=fun _ _ _ _ _ _ _ h=>h.elim
structure Fun (K:PySem.W.Frag) (x qual:Str) (st:Stmt) (f:Addr) (fd:FuncData):Prop where
  ex:∃ (oc:Value) (od:Option Addr) (kV doc pm:Value) (an:Option Addr) (cdv ct:Value) (osl:Array (Option Value)),
    fd=PySem.W.fnOf x qual (zcB st) (zbD st) (zj st) .none kV doc pm an cdv ct∧K.lookup f=some ⟨oc,od,.func fd,osl⟩∧PySem.W.codeIn K cdv qual=true
  kp:PySem.W.keepIn K (.ref f)=true
section
variable {P:Program} {w:World} {K:PySem.W.Frag} {mg:Str→Option Value} {base:Heap}
theorem Fun.ok {x qual:Str} {st:Stmt} {f:Addr} {fd:FuncData} {N ps:List Str} {k:Nat} {sp:Sp} (F:Fun K x qual st f fd) (S:FnScope N ps (zj st)) (len:∀ vs H Q E,sp vs H Q E→vs.length=ps.length)
    (hbody:∀ (cdv:Value) (A:Around) (outer:List Env) (s:Shared) (H:Hp) (vs:List V) (Q:VK) (E:XK),Room k (A.deeper (envOfC qual (zj st) s.heap.objs.size f cdv))→sp vs H Q E →
      ∃ t,PSs (zkX CX0 P w K mg base N qual (zj st) f cdv A outer s H E).nox (zbD st) t∧t { nx:=fun _ H'=>Q .non H',rt:=Q } (start N vs) H):FnOk P w K mg base CX0 (k+1) f fd ps sp:=by
  obtain ⟨oc,od,kV,doc,pm,an,cdv,ct,osl,rfl,lk,hcd⟩:=F.ex
  refine zuq lk hcd S len fun A outer s H vs Q E hr hsp=>?_
  obtain ⟨t,h,q⟩:=hbody cdv A outer s H vs Q E hr hsp; exact ⟨t,h.nox,q⟩
theorem Fun.binds {x qual:Str} {st:Stmt} {f:Addr} {fd:FuncData} {ps:List Str} (F:Fun K x qual st f fd)
    (h:∀ (kV doc pm:Value) (an:Option Addr) (cdv ct:Value) (us:List Value),us.length=ps.length→bindArgs (PySem.W.fnOf x qual (zcB st) (zbD st) (zj st) .none kV doc pm an cdv ct) ⟨us,[]⟩=pure (ps.zip us)):zdi K fd ps []:=by
  obtain ⟨oc,od,kV,doc,pm,an,cdv,ct,osl,rfl,lk,hcd⟩:=F.ex; exact .all (h kV doc pm an cdv ct)
theorem zhY {x qual:Str} {st:Stmt} {f:Addr} {oc:Value} {od an:Option Addr} {osl:Array (Option Value)} {kV doc pm cdv ct:Value} (l:K.lookup f=some ⟨oc,od,.func (PySem.W.fnOf x qual (zcB st) (zbD st) (zj st) .none kV doc pm an cdv ct),osl⟩)
    (c:PySem.W.codeIn K cdv qual=true) (k:PySem.W.keepIn K (.ref f)=true):Fun K x qual st f (PySem.W.fnOf x qual (zcB st) (zbD st) (zj st) .none kV doc pm an cdv ct):=⟨⟨oc,od,kV,doc,pm,an,cdv,ct,osl,rfl,l,c⟩,k⟩
end
theorem zaG {A:Around} {k:Nat} (hr:Room k A):A.units+1<cLine:=Nat.lt_of_le_of_lt (Nat.add_le_add_left (by decide:1≤64) _) hr.units
theorem zbE {n:Nat} (h:n≤1000):n<sizeLine:=Nat.lt_of_le_of_lt h (by decide)
section
variable {X:Cx}
theorem pv (i:Nat) {x:Str} {pos:Pos} (hN:X.N[i]?=some x:=by rfl) (hv:Vis X.env.scope x:=by first | exact Or.inl rfl | exact Or.inr (Or.inl rfl) | exact Or.inr (Or.inr rfl)) (hd:(x == ("__debug__":Str))=false:=by decide)
    (hcd:(x == ("__classdict__":Str))=false:=by decide):PE X (.Name x pos) (zuS i):=zcS hN hv hd hcd
end
def zaX (H H':Hp):Prop:=∀ b o,H b=some o→H' b=some o
theorem zaX.refl (H:Hp):zaX H H:=fun _ _ h=>h
theorem zaX.trans {H H1 H2:Hp} (a:zaX H H1) (b:zaX H1 H2):zaX H H2:=fun c o h=>b c o (a c o h)
theorem zaX.free {H H':Hp} (e:zaX H H') {l:Addr} (h:H' l=Option.none):H l=Option.none:=by
  cases q:H l with
  | none=>rfl
  | some o =>
    rw [e l o q] at h; cases h
end L2
namespace L2
open PySem PySem.Spec PyProof.Rows
section
variable {κ:Type} [DecidableEq κ]
def zf8 (kvs:List (κ × V)) (k:κ):Option V:=(kvs.find? fun kv=>decide (kv.1=k)).map (·.2)
def zjF (kvs:List (κ × V)) (k:κ) (v:V):List (κ × V) :=
  if (kvs.any fun kv=>decide (kv.1=k))=true then kvs.map (fun kv=>if kv.1=k then (kv.1,v) else kv) else kvs ++ [(k,v)]
theorem zd7 {p:κ × V} {r:List (κ × V)} {k:κ} (e:p.1=k):zf8 (p :: r) k=some p.2:=by simp [zf8,List.find?_cons,e]
theorem zd8 {p:κ × V} {r:List (κ × V)} {k:κ} (e:¬ p.1=k):zf8 (p :: r) k=zf8 r k:=by simp [zf8,List.find?_cons,e]
theorem zgt (k:κ):∀ kvs:List (κ × V),(kvs.any fun kv=>decide (kv.1=k))=(zf8 kvs k).isSome
  | []=>rfl
  | p :: r=>by
    rw [List.any_cons]
    by_cases e:p.1=k
    · simp only [zd7 e,decide_eq_true e,Bool.true_or,Option.isSome_some]
    · rw [zd8 e,decide_eq_false e,Bool.false_or]; exact zgt k r
theorem zfK (kvs:List (κ × V)) (k:κ) (v:V):(zjF kvs k v).length≤kvs.length+1:=by
  unfold zjF; split
  · rw [List.length_map]; omega
  · rw [List.length_append,List.length_cons,List.length_nil]; omega
theorem zik.isSome_eq {o:Option V} {u:Option Value} (r:zik o u):o.isSome=u.isSome:=by
  cases o with
  | none=>cases u with
    | none=>rfl
    | some _=>exact (show False from r).elim
  | some _=>cases u with
    | none=>exact (show False from r).elim
    | some _=>rfl
theorem zik.getD {o:Option V} {u:Option Value} {d:V} {d':Value} (r:zik o u) (rd:zby d d'):zby (o.getD d) (u.getD d'):=by
  cases o with
  | none=>cases u with
    | none=>exact rd
    | some _=>exact (show False from r).elim
  | some _=>cases u with
    | none=>exact (show False from r).elim
    | some _=>exact r
theorem KV.val {kvs:List (κ × V)} {vs:List (κ × Value)} (r:KV kvs vs) (k:κ):zik (zf8 kvs k) (valueAt vs k):=by
  unfold KV at r
  induction r with
  | nil=>exact True.intro
  | @cons p q ps qs h t ih =>
    obtain ⟨h1,h2⟩:=h
    by_cases e:p.1=k
    · have e':q.1=k:=h1.symm.trans e
      have b:valueAt (q :: qs) k=some q.2:=by simp [valueAt,List.find?_cons,e']
      rw [zd7 e,b]; exact h2
    · have e':¬ q.1=k:=fun z=>e (h1.trans z)
      have b:valueAt (q :: qs) k=valueAt qs k:=by simp [valueAt,List.find?_cons,e']
      rw [zd8 e,b]; exact ih
theorem KV.any {kvs:List (κ × V)} {vs:List (κ × Value)} (r:KV kvs vs) (k:κ):(kvs.any fun kv=>decide (kv.1=k))=vs.any fun kv=>decide (kv.1=k):=by
  unfold KV at r
  induction r with
  | nil=>rfl
  | cons h t ih=>rw [List.any_cons,List.any_cons,ih,h.1]
theorem KV.repl {kvs:List (κ × V)} {vs:List (κ × Value)} (r:KV kvs vs) (k:κ) {y:V} {u:Value} (ry:zby y u) :
    KV (kvs.map fun kv=>if kv.1=k then (kv.1,y) else kv) (vs.map fun kv=>if kv.1=k then (kv.1,u) else kv):=by
  unfold KV at r ⊢
  induction r with
  | nil=>exact .nil
  | @cons p q ps qs h t ih =>
    rw [List.map_cons,List.map_cons]; refine .cons ?_ ih; obtain ⟨h1,h2⟩:=h
    by_cases e:p.1=k
    · rw [if_pos e,if_pos (h1.symm.trans e)]; exact ⟨h1,ry⟩
    · rw [if_neg e,if_neg (fun z=>e (h1.trans z))]; exact ⟨h1,h2⟩
theorem KV.put {kvs:List (κ × V)} {vs:List (κ × Value)} (r:KV kvs vs) (k:κ) {y:V} {u:Value} (ry:zby y u):KV (zjF kvs k y) (stored vs k u):=by
  unfold zjF stored; rw [r.any k]
  by_cases e:(vs.any fun kv=>decide (kv.1=k))=true
  · rw [if_pos e,if_pos e]; exact r.repl k ry
  · rw [if_neg e,if_neg e]; exact Paired.snoc r ⟨rfl,ry⟩
theorem KV.length {kvs:List (κ × V)} {vs:List (κ × Value)} (r:KV kvs vs):kvs.length=vs.length:=Paired.length r
end
theorem znT {P:Program} {w:World} {k:Key} {u:Value} (r:zby (kV k) u):(zbr P w).is k u=true:=by
  cases k with
  | inl i=>obtain ⟨t,e⟩:=(show ∃ t,u=Value.int i t from r); subst e; exact ziV P w i t
  | inr x=>obtain ⟨t,e⟩:=(show ∃ t,u=Value.str x t from r); subst e; exact ziU P w x t
theorem zhU {P:Program} {w:World}:∀ {ks:List Key} {us:List Value},za5 (ks.map kV) us→ItemsAre (zbr P w) ks us
  | [],_,r=>by rw [List.map_nil] at r; cases r; exact .nil
  | k :: ks,_,r=>by
    rw [List.map_cons] at r
    cases r with
    | cons h t=>exact .cons (znT h) (zhU t)
abbrev KT (H:Hp):List (List Key × V)→List (List Key × Addr × Value)→Prop:=Paired fun p q=>p.1=q.1∧H q.2.1=some (.tup (p.1.map kV))∧zby p.2 q.2.2
theorem KT.val {H:Hp} {kvs:List (List Key × V)} {xs:List (List Key × Addr × Value)} (r:KT H kvs xs) (k:List Key):zik (zf8 kvs k) ((atKey xs k).map (·.2)):=by
  induction r with
  | nil=>exact True.intro
  | @cons p q ps qs h t ih =>
    obtain ⟨h1,_,h2⟩:=h
    by_cases e:p.1=k
    · have e':q.1=k:=h1.symm.trans e
      have b:atKey (q :: qs) k=some q.2:=by simp [atKey,List.find?_cons,e']
      rw [zd7 e,b]; exact h2
    · have e':¬ q.1=k:=fun z=>e (h1.trans z)
      have b:atKey (q :: qs) k=atKey qs k:=by simp [atKey,List.find?_cons,e']
      rw [zd8 e,b]; exact ih
theorem KT.repl {H:Hp} {kvs:List (List Key × V)} {xs:List (List Key × Addr × Value)} (r:KT H kvs xs) (k:List Key) {y:V} {u:Value} (ry:zby y u) :
    KT H (kvs.map fun kv=>if kv.1=k then (kv.1,y) else kv) (xs.map (putAt k u)):=by
  induction r with
  | nil=>exact .nil
  | @cons p q ps qs h t ih =>
    rw [List.map_cons,List.map_cons]; refine .cons ?_ ih; obtain ⟨h1,h2,h3⟩:=h; unfold putAt
    by_cases e:p.1=k
    · rw [if_pos e,if_pos (h1.symm.trans e)]; exact ⟨h1,h2,ry⟩
    · rw [if_neg e,if_neg (fun z=>e (h1.trans z))]; exact ⟨h1,h2,h3⟩
theorem KT.put {H:Hp} {kvs:List (List Key × V)} {xs:List (List Key × Addr × Value)} (r:KT H kvs xs) (k:List Key) {b:Addr} {y:V} {u:Value} (hb:H b=some (.tup (k.map kV))) (ry:zby y u) :
    KT H (zjF kvs k y) (storedH xs k b u):=by
  have e:(kvs.any fun kv=>decide (kv.1=k))=(atKey xs k).isSome:=by
    rw [zgt,(r.val k).isSome_eq,Option.isSome_map]
  unfold zjF storedH; rw [e]
  by_cases q:(atKey xs k).isSome=true
  · rw [if_pos q,if_pos q]; exact r.repl k ry
  · rw [if_neg q,if_neg q]; exact Paired.snoc r ⟨rfl,hb,ry⟩
theorem KT.keeps {H H':Hp} {kvs:List (List Key × V)} {xs:List (List Key × Addr × Value)} (r:KT H kvs xs) (ht:∀ b ys,H b=some (.tup ys)→H' b=some (.tup ys)):KT H' kvs xs :=
  Paired.mapP r fun _ _ z=>⟨z.1,ht _ _ z.2.1,z.2.2⟩
section
variable {P:Program} {w:World} {H:Hp} {h:Heap} {a:Addr}
theorem zrp {u:HO} (ok:HOk P w H h) (e:Rd H a u):zbT P w H h a u:=e.ok ok
theorem zl9 {kvs:List (Key × V)} (ok:HOk P w H h) (e:Rd H a (.dK kvs)):kvs.length≤sizeLine∧(a == sysModules)=false∧∃ vs,KV kvs vs∧h.DictOf (zbr P w) a vs :=
  show zbT P w H h a (.dK kvs) from zrp ok e
theorem zsB {kvs:List (Key × V)} (ok:HOk P w H h) (e:H a=some (.dK kvs)):kvs.length≤sizeLine∧(a == sysModules)=false∧∃ vs,KV kvs vs∧h.DictOf (zbr P w) a vs:=zl9 ok (.inl e)
theorem zhS {ks:List Key} (ok:HOk P w H h) (e:H a=some (.tup (ks.map kV))):(tupleKind (zbr P w)).is h ks a:=by
  obtain ⟨_,its,r,o,h1,h2,n,h3⟩:=(show zbT P w H h a (.tup (ks.map kV)) from ok a _ e)
  exact ⟨o,its.toArray,n,h1,h2,h3,by simpa using zhU r⟩
theorem zoa {kvs:List (List Key × V)} (ok:HOk P w H h) (e:Rd H a (.dT kvs)):kvs.length≤sizeLine∧(a == sysModules)=false ∧
    ∃ xs,KT H kvs xs∧h.DictOfH (tupleKind (zbr P w)) a xs:=by
  obtain ⟨z,y,xs,r,o,es,ep,h1,h2,h3,h4,h5⟩:=(show zbT P w H h a (.dT kvs) from zrp ok e)
  refine ⟨z,y,xs,r,o,es,ep,h1,h2,h3,h4,fun x hx=>?_,h5⟩
  have all:∀ {l:List (List Key × V)} {m:List (List Key × Addr × Value)},KT H l m→∀ x ∈ m,(tupleKind (zbr P w)).is h x.1 x.2.1:=by
    intro l m q
    induction q with
    | nil=>intro x hx; exact nomatch hx
    | @cons p q ps qs hq t ih =>
      intro x hx
      rcases List.mem_cons.mp hx with e | hx
      · subst e
        exact zhS ok (by rw [← hq.1]; exact hq.2.1)
      · exact ih x hx
  exact all r x hx
theorem zuw {kvs:List (List Key × V)} (ok:HOk P w H h) (e:H a=some (.dT kvs)):kvs.length≤sizeLine∧(a == sysModules)=false ∧
    ∃ xs,KT H kvs xs∧h.DictOfH (tupleKind (zbr P w)) a xs:=zoa ok (.inl e)
end
def zuP (H:Hp) (a:Addr) (y:V) (r:Option V):Prop :=
  (∃ kvs k,Rd H a (.dK kvs)∧y=kV k∧r=zf8 kvs k)∨∃ kvs k b,Rd H a (.dT kvs)∧y=.ref b∧H b=some (.tup (k.map kV))∧r=zf8 kvs k
def zvh (H:Hp) (a:Addr) (y v:V) (H':Hp):Prop :=
  (∃ kvs k,H a=some (.dK kvs)∧y=kV k∧kvs.length<sizeLine∧H'=upd H a (.dK (zjF kvs k v))) ∨
  ∃ kvs k b,H a=some (.dT kvs)∧y=.ref b∧H b=some (.tup (k.map kV))∧kvs.length<sizeLine∧H'=upd H a (.dT (zjF kvs k v))
section
variable {X:Cx} {pins:List (Addr × Obj)} {σ:St} {H:Hp} {s:Shared} {a:Addr} {y v:V} {u r:Value} {o:Option V} {A:Around} {E:Value→Shared→Prop}
theorem Inv.big (I:Inv X pins σ H s):sysModules<s.heap.objs.size:=by
  have h:mainGlobals<s.heap.objs.size:=(I.mod.glob.keeps I.bk).lt
  exact Nat.lt_trans (by decide) h
theorem zmf {Q:Value→Shared→Prop} (hu:A.units+1<cLine) (I:Inv X pins σ H s) (g:zuP H a y (some v)) (ry:zby y u) (h:∀ w' s',Inv X pins σ H s'→zby v w'→Q w' s') :
    wpAny (model X.prog X.w) A (getItem (.ref a) u) Q E s:=by
  rcases g with ⟨kvs,k,e,ey,l⟩ | ⟨kvs,k,b,e,ey,eb,l⟩
  · subst ey
    obtain ⟨z,hd,vs,rel,dd⟩:=zl9 I.hok e
    obtain ⟨w',hw,rw'⟩:=zik.some_of (v:=v) (o:=valueAt vs k) (by rw [l]; exact rel.val k)
    exact wpAny_getItem_of (znT ry) dd.mapOf hw (h w' _ (I.tok _) rw')
  · subst ey
    cases (show u=Value.ref b from ry)
    obtain ⟨z,hd,xs,rel,dd⟩:=zoa I.hok e
    obtain ⟨w',hw,rw'⟩:=zik.some_of (v:=v) (o:=(atKey xs k).map (·.2)) (by rw [l]; exact rel.val k)
    obtain ⟨p,hp,hp2⟩:=Option.map_eq_some_iff.mp hw; refine wpAny_getItem_heap (tupleKind_room_in1 hu) (zhS I.hok eb) dd hp ?_; rw [hp2]; exact h w' _ (I.tok _) rw'
theorem zjh {h':Heap} {t':Nat} {ob:HO} (I:Inv X pins σ H s) (mu:Mut (H a)) (hs:Heap.SameBut a s.heap h') (he:∃ q,h'.get? a=some q) (new:zbT X.prog X.w (upd H a ob) h' a ob) :
    Inv X pins σ (upd H a ob) { s with heap:=h',toks:=t' } :=
  I.write (x:=a) (e:=a) mu (.inl rfl) (fun b q hb z=>(hs.2 b hb).trans z) he new
theorem zoW {P:Program} {w:World} {H':Hp} {h':Heap} {kvs:List (Key × V)} {vs:List (Key × Value)} (z:kvs.length≤sizeLine) (hd:(a == sysModules)=false) (rel:KV kvs vs) (dd:h'.DictOf (zbr P w) a vs) :
    zbT P w H' h' a (.dK kvs):=⟨z,hd,vs,rel,dd⟩
theorem zme {H':Hp} {Q:Unit→Shared→Prop} (hu:A.units+1<cLine) (I:Inv X pins σ H s) (g:zvh H a y v H') (ry:zby y u) (rv:zby v r) (h:∀ s',Inv X pins σ H' s'→Q () s') :
    wpAny (model X.prog X.w) A (setItem (.ref a) u r) Q E s:=by
  rcases g with ⟨kvs,k,e,ey,l,eH⟩ | ⟨kvs,k,b,e,ey,eb,l,eH⟩
  · subst ey eH
    obtain ⟨z,hd,vs,rel,dd⟩:=zsB I.hok e
    have hz:vs.length≤sizeLine:=by rw [← rel.length]; exact z
    have hl:(zjF kvs k v).length≤sizeLine:=by have:=zfK kvs k v; omega
    refine wpAny_setItem_pairs (hsz:=hz) (znT ry) dd fun h' dd' hs=>h _ ?_
    have he:∃ q,h'.get? a=some q:=let ⟨q,_,_,hq,_⟩:=dd'; ⟨q,hq⟩
    exact zjh I (by rw [e]; exact True.intro) hs he (zoW hl hd (rel.put k rv) dd')
  · subst ey eH
    cases (show u=Value.ref b from ry)
    obtain ⟨z,hd,xs,rel,dd⟩:=zuw I.hok e
    have hz:xs.length≤sizeLine:=by rw [← Paired.length rel]; exact z
    have hl:(zjF kvs k v).length≤sizeLine:=by have:=zfK kvs k v; omega
    refine wpAny_setItem_heap (hsz:=hz) (tupleKind_room_in1 hu) (zhS I.hok eb) dd fun h' dd' hs=>h _ ?_
    obtain ⟨q,es,ep,hq,h2,h3,h4,_,h5⟩:=dd'
    refine zjh I (by rw [e]; exact True.intro) hs ⟨q,hq⟩ ⟨hl,hd,_,(rel.put k eb rv).keeps fun c ys ec=>?_,q,es,ep,hq,h2,h3,h4,h5⟩
    rw [zaE (zui ec e (fun z=>nomatch z))]
    exact ec
end
section
variable {X:Cx} {pins:List (Addr × Obj)} {σ:St} {H:Hp} {s:Shared} {a:Addr} {kvs:List (Key × V)} {k:Key} {u:Value} {A:Around} {E:Value→Shared→Prop}
end
theorem zjg {X:Cx} {pins:List (Addr × Obj)} {σ:St} {H:Hp} {s:Shared} {a:Addr} {y:V} {o:Option V} (I:Inv X pins σ H s) (g:zuP H a y o):s.TypeIs (.ref a) "dict":=by
  rcases g with ⟨kvs,k,e,_,_⟩ | ⟨kvs,k,b,e,_,_,_⟩
  · obtain ⟨_,_,vs,_,dd⟩:=zl9 I.hok e
    exact dd.typeIs
  · obtain ⟨_,_,xs,_,dd⟩:=zoa I.hok e
    exact dd.typeIs
def ztJ (td ty tv:TE):TS:=fun D σ H=>tv σ H fun v H1=>td σ H1 fun x H2=>ty σ H2 fun y H3=>∃ a H4,x=.ref a∧zvh H3 a y v H4∧D.nx σ H4
section
variable {X:Cx} {o i e value:Expr} {pos pos' tpos:Pos} {td ty tv:TE}
theorem zpA (hu:X.A.units+1<cLine) (ho:PE X o td) (hi:PE X i ty) (hv:PE X value tv) (hs:swapsWith value (some (.Subscript o i pos')) pos.line X.env=pure false) :
    PS X (.Assign [.Subscript o i pos'] value pos) (ztJ td ty tv):=by
  intro pins s σ H D I h
  refine wpAny_Assign_Subscript (thn (hv pins s σ H _ I h) fun r s1 ⟨v,H1,I1,rv,q1⟩=>thn (ho pins s1 σ H1 _ I1 q1) fun u s2 ⟨x,H2,I2,rx,q2⟩=>thn (hi pins s2 σ H2 _ I2 q2) fun iv s3 ⟨y,H3,I3,ry,a,H4,ex,g,q3⟩=>?_) hs
  subst ex
  obtain rfl:u=Value.ref a:=rx
  exact zme hu I3 g ry rv fun s4 I4=>⟨σ,H4,I4,q3⟩
end
theorem zoc {P:Program} {w:World} {H:Hp} (h:Heap) (hb:sysModules<h.objs.size):zbT P w H (h.push { cls:=.type "dict",data:=.dict #[] }) h.objs.size (.dK []) :=
  ⟨Nat.zero_le _,beq_eq_false_iff_ne.mpr (Ne.symm (Nat.ne_of_lt hb)),[],.nil,Heap.DictOf.new h⟩
def zrc:TE:=fun _ H Q=>∀ p,H p=none→Q (.ref p) (upd H p (.dK []))
section
variable {X:Cx} {pos:Pos}
theorem zne:PE X (.Dict [] [] pos) zrc:=fun pins s σ H Q I h =>
  wpAny_Dict_empty ⟨.ref s.heap.objs.size,_,I.laid (a:=s.heap.objs.size) (o:=.dK []) (t':=s.toks) (fun _ _ q=>Heap.get?_push_of_some _ q) (Nat.le_refl _) (zoc s.heap I.big),rfl,h _ (I.hok.fresh (Nat.le_refl _))⟩
end
structure M2 (X:Cx) (o:Expr) (m:Str) (apos:Pos) (e f:Expr) (cpos:Pos):Prop where
  base:attributeBase o m X.env (eval o X.env)=eval o X.env
  few:((backTo cpos (starEach [e,f] X.env)).all (fun x=>!x.1) && (backToKw cpos (keywordEach [] X.env)).all (fun x=>x.1.isSome)
    && decide (([e,f]:List Expr).length+([]:List Keyword).length+(if ([]:List Keyword).isEmpty then 0 else 1)<30))=true
  line:(apos.endLine == cpos.line)=true
  trees:backTo cpos (starEach [e,f] X.env)=[(false,eval e X.env),(false,eval f X.env)]
def IsD (H:Hp) (a:Addr):Prop:=(∃ kvs,Rd H a (.dK kvs))∨∃ kvs,Rd H a (.dT kvs)
theorem zsq {X:Cx} {pins:List (Addr × Obj)} {σ:St} {H:Hp} {s:Shared} {a:Addr} (I:Inv X pins σ H s) (d:IsD H a) :
    s.TypeIs (.ref a) "dict"∧(∀ b,Value.ref a=.ref b→∃ ob,s.heap.get? b=some ob∧ob.dict=none)∧(a == sysModules)=false:=by
  rcases d with ⟨kvs,e⟩ | ⟨kvs,e⟩
  · obtain ⟨_,hd,vs,_,dd⟩:=zl9 I.hok e
    refine ⟨dd.typeIs,fun b q=>?_,hd⟩
    cases q; obtain ⟨ob,_,_,h1,h2,_⟩:=dd; exact ⟨ob,h1,h2.2.1⟩
  · obtain ⟨_,hd,xs,_,dd⟩:=zoa I.hok e
    refine ⟨dd.typeIs,fun b q=>?_,hd⟩
    cases q; obtain ⟨ob,_,_,h1,h2,_⟩:=dd; exact ⟨ob,h1,h2.2.1⟩
section
variable {X:Cx} {pins:List (Addr × Obj)} {σ:St} {H:Hp} {s:Shared} {a:Addr} {y d:V} {u r:Value} {o:Option V} {A:Around} {E:Value→Shared→Prop}
end
section
variable {X:Cx} {o e f:Expr} {apos cpos:Pos} {td ty tx:TE}
end
section
variable {X:Cx} {pins:List (Addr × Obj)} {σ:St} {H:Hp} {s:Shared} {a:Addr} {kvs:List (Key × V)} {A:Around} {E:Value→Shared→Prop}
end
section
variable {X:Cx} {pins:List (Addr × Obj)} {σ:St} {H:Hp} {s:Shared} {a:Addr} {y:V} {u:Value} {A:Around} {E:Value→Shared→Prop}
end
end L2
set_option maxHeartbeats 4000000
namespace L2
open PySem PySem.Spec PyProof.Rows
def st (l:List Nat):Str:=⟨l.toArray⟩
theorem zaP (l:List Nat):(st l).cps.toList=l:=by simp [st]
theorem zbP (l:List Nat):(st l).length=l.length:=by simp [st,Str.length]
theorem zla (x:Str):x=st x.cps.toList:=by cases x; simp [st]
theorem st_inj {a b:List Nat} (h:st a=st b):a=b:=by
  have e:=congrArg (fun x:Str=>x.cps.toList) h
  simpa [st] using e
theorem zrh (a b:List Nat):st a ++ st b=st (a ++ b):=by
  show Str.append (st a) (st b)=st (a ++ b)
  unfold Str.append st; simp
theorem zmQ (l:List Nat) (n:Nat):Txt.slice (st l) none (some (n:Int))=st (l.take n):=by
  by_cases h:n≤l.length
  · have q:Txt.slice (st l) none (some (n:Int))=⟨(((st l).cps.toList.drop 0).take ((n:Int)-0).toNat).toArray⟩:=StrLaws.sliceText_to ⟨by omega,by rw [zaP]; omega⟩
    rw [q,zaP]; simp [st]
  · have e:Txt.slice (st l) none (some (n:Int))=Txt.slice (st l) none (some (l.length:Int)):=by
      unfold Txt.slice
      have z:Builtin.Str.strSliceIndices none (some (n:Int)) 1 (st l).length=Builtin.Str.strSliceIndices none (some (l.length:Int)) 1 (st l).length:=by
        rw [zbP]
        have h0:¬ (n:Int)<0:=by omega
        have h1:¬ ((l.length:Int)<0):=by omega
        have h2:(1:Int) > 0:=by decide
        have h3:min (n:Int) (l.length:Int)=(l.length:Int):=by omega
        simp only [Builtin.Str.strSliceIndices,h0,h1,h2,if_false,if_true,h3,Int.min_self]
      rw [z]
    have q:Txt.slice (st l) none (some (l.length:Int))=⟨(((st l).cps.toList.drop 0).take ((l.length:Int)-0).toNat).toArray⟩:=StrLaws.sliceText_to ⟨by omega,by rw [zaP]; omega⟩
    rw [e,q,zaP,List.take_of_length_le (by omega:l.length≤n)]
    simp [st]
theorem zko (l:List Nat) (n:Nat):Txt.slice (st l) (some (n:Int)) none=st (l.drop n):=by
  by_cases h:n≤l.length
  · have q:Txt.slice (st l) (some (n:Int)) none=⟨(((st l).cps.toList.drop (n:Int).toNat).take (((st l).cps.toList.length:Int)-(n:Int)).toNat).toArray⟩:=StrLaws.sliceText_from ⟨by omega,by rw [zaP]; omega⟩
    rw [q,zaP]
    have e1:(n:Int).toNat=n:=by omega
    have e2:((l.length:Int)-(n:Int)).toNat=l.length-n:=by omega
    rw [e1,e2,List.take_of_length_le (by rw [List.length_drop]; omega)]
    rfl
  · rw [slice_beyond (by rw [zbP]; omega),List.drop_eq_nil_of_le (by omega)]
    rfl
section
variable {X:Cx}
theorem zie:zdh X (.type "int") (fun xs H Q=>∃ x n,xs=[.str x]∧PySem.intText? x=some n∧x.length≤640∧Q (.int n) H):=by
  intro pins s σ H xs us Q I r h; obtain ⟨x,n,rfl,hn,hl,q⟩:=h; obtain ⟨u,rfl,t,rfl⟩:=zdj r; exact PySem.W.KIN.call_text hn hl ⟨.int n,H,I.tok _,⟨_,rfl⟩,q⟩
def zvz:V→Option Int→Option Int→Hp→VK→Prop:=fun x lo hi H Q=>∃ z,x=.str z∧z.length≤sizeLine∧Q (.str (Txt.slice z lo hi)) H
theorem zrk:SlR X zvz:=by
  intro pins s σ H x v vl vu lo hi sl Q I rx hs pl pu h; obtain ⟨z,rfl,hz,q⟩:=h; obtain ⟨t,rfl⟩:=rx; refine ⟨"str",_,PySem.F.slot_str_getitem.lookup,typeIs_str _ _ _,?_⟩
  have fin:∀ t' k,EP X pins σ Q (.str (Txt.slice z lo hi) t') { s with toks:=k }:=fun t' k=>⟨.str (Txt.slice z lo hi),H,I.tok _,⟨_,rfl⟩,q⟩
  cases pl with
  | none =>
    cases pu with
    | none=>exact wpAny_getItem_str_slice (l:=none) (u:=none) (st:=none) hs rfl (post_val_or_str ⟨Nat.le_trans (Txt.slice_le z _ _) hz,fin⟩)
    | int j u=>exact wpAny_getItem_str_slice (l:=none) (u:=some (j,u)) (st:=none) hs rfl (post_val_or_str ⟨Nat.le_trans (Txt.slice_le z _ _) hz,fin⟩)
  | int i u' =>
    cases pu with
    | none=>exact wpAny_getItem_str_slice (l:=some (i,u')) (u:=none) (st:=none) hs rfl (post_val_or_str ⟨Nat.le_trans (Txt.slice_le z _ _) hz,fin⟩)
    | int j u=>exact wpAny_getItem_str_slice (l:=some (i,u')) (u:=some (j,u)) (st:=none) hs rfl (post_val_or_str ⟨Nat.le_trans (Txt.slice_le z _ _) hz,fin⟩)
theorem zlK:MtR X "str.rstrip" (fun x xs H Q=>∃ z y,x=.str z∧xs=[.str y]∧z.length≤sizeLine∧Q (.str (Txt.rstripChars z y)) H):=by
  intro pins s σ H x xs v us Q I rx rs h; obtain ⟨z,y,rfl,rfl,hz,q⟩:=h; obtain ⟨t,rfl⟩:=rx; obtain ⟨u,rfl,t',rfl⟩:=zdj rs
  exact PySem.SC.rstripChars (fun t' k=>⟨.str _,H,I.tok _,⟨_,rfl⟩,q⟩) hz
end
def zvL:V→V→Bool
  | .int _,.int _=>true
  | .str _,.str _=>true
  | _,_=>false
def zuA:List V→List V→Prop
  | x :: xs,y :: ys=>zvL x y=true∧zuA xs ys
  | _,_=>True
end L2
namespace HT
open PySem PyProof.Rows L2
section
open PySem.SeqAt
open PySem.AutoSeq1 (wpAny_loadPart')
open PySem.MeetsSeq PySem.MeetsSeq2 PySem.MeetsSeq3
end
section
variable {prog:Program} {w:World} {A:Around} {E:Value→Shared→Prop} {s:Shared}
end
end HT
namespace L2
open PySem PySem.Spec PyProof.Rows
section
variable {X:Cx}
end
end L2
namespace L2
open PySem PySem.Spec PyProof.Rows
def Its (l:List Nat):It:=⟨fun i _=>i<l.length,fun i H x H'=>H'=H∧∃ c,l[i]?=some c∧x=.str (st [c]),fun i _=>i=l.length⟩
theorem zjq {P:Program} {w:World} {A:Around} {cls:String} (hA:A.handled=none) (it:Addr) (x:Str) (t:Tok) (hcls:cls="str_ascii_iterator"∨cls="str_iterator"):Walks P w A it [it] [it] x.cps.size (SignAt x) (fun i h=>h.IsStrIter it cls x t i):=by
  rcases hcls with rfl | rfl
  · exact Walks.strAscii hA it x t
  · exact Walks.strWide hA it x t
theorem zjs {P:Program} {w:World} {K:PySem.W.Frag} {tg:Expr} {cls:String} (x:Str) (t:Tok) (it:Addr) (hcls:cls="str_ascii_iterator"∨cls="str_iterator"):Turn P w K tg (Its x.cps.toList) [it] it (fun i h=>h.IsStrIter it cls x t i) where
  mem:=by simp
  obj:=fun i h stt b hb=>by
    have e:b=it:=by simpa using hb
    subst e; obtain ⟨o,e,c,d⟩:=stt
    exact ⟨o,e,fun v z=>by rw [d] at z; cases z⟩
  keep:=fun i h h' stt k=>by
    obtain ⟨o,e,r⟩:=stt
    exact ⟨o,k it (by simp) o e,r⟩
  item:=by
    intro X hP hw hK hc i pins s σ H E I hf stt hg
    subst hP hw hK
    obtain ⟨f0,f1,f2,f3,f4,f5⟩:=hf it (by simp)
    have hg':i<x.cps.toList.length:=hg
    refine (zjq (I.ok.hd hc) it x t hcls).item i s _ _ (by simpa using hg') stt fun v h' tk hv st' kk=>?_
    obtain ⟨c,u,hc',rfl⟩:=hv
    have I1:Inv X pins σ H { s with heap:=h',toks:=tk }:=I.turned (fun b o hb e=>kk b o (by simpa using hb) e) f0 f1 f3 f4 f5
    obtain ⟨o,e,hcl,d⟩:=id st'
    exact ⟨_,rfl,zn1 (s:={ s with heap:=h',toks:=tk }) e hcl d (by rcases hcls with rfl | rfl <;> decide) ⟨.str (st [c]),H,I1,⟨u,rfl⟩,⟨rfl,c,by simpa using hc',rfl⟩,st',fun b hb=>(hf b hb).1⟩⟩
  done:=by
    intro X hP hw hK hc i pins s σ H E I hf stt hg
    subst hP hw hK
    obtain ⟨f0,f1,f2,f3,f4,f5⟩:=hf it (by simp)
    have hg':i=x.cps.toList.length:=hg
    subst hg'
    refine (zjq (I.ok.hd hc) it x t hcls).done s _ _ (by simpa using stt) fun h' tk kk=>?_
    exact ⟨rfl,I.turned (fun b o hb e=>kk b o (by simpa using hb) e) f0 f1 f3 f4 f5⟩
  self:=fun A i s Q E stt h=>by
    rcases hcls with rfl | rfl
    · exact wpAny_pyIter_striter_ascii stt h
    · exact wpAny_pyIter_striter_wide stt h
section
variable {X:Cx} {tg:Expr}
end
def zdT (cells:List (Str × Addr)):List (Str × NameKind)→List (Str × Addr)→List (Str × Addr)
  | [],acc=>acc
  | (n,k) :: r,acc=>if k == .free then zdT cells r ((n,(cells.lookup n).getD 0) :: acc) else zdT cells r acc
theorem zgq {env:Env}:∀ (l:List (Str × NameKind)) (acc:List (Str × Addr)),(∀ y ∈ l,y.2=.free→∃ c,env.cells.lookup y.1=some c) →
    (forIn (m:=Sem) l acc fun x r=>if (x.2 == NameKind.free)=true then do let a ← cellOf env x.1; pure (ForInStep.yield ((x.1,a) :: r)) else pure (ForInStep.yield r))=pure (zdT env.cells l acc)
  | [],acc,_=>rfl
  | (n,k) :: r,acc,h=>by
    rw [List.forIn_cons]
    have ih:=fun acc'=>zgq r acc' fun y hy=>h y (List.mem_cons_of_mem _ hy)
    by_cases hk:k=.free
    · subst hk
      obtain ⟨c,hc⟩:=h (n,.free) (List.mem_cons_self ..) rfl
      have e:cellOf env n=pure c:=by
        unfold cellOf
        rw [show env.cells.lookup n=some c from hc]
      show ((if ((NameKind.free:NameKind) == NameKind.free)=true then _ else _) >>= _)=_
      rw [if_pos (by decide),e]
      unfold zdT
      rw [if_pos (by decide),show env.cells.lookup n=some c from hc]
      exact ih _
    · have hb:(k == NameKind.free)=false:=by simpa using hk
      show ((if (k == NameKind.free)=true then _ else _) >>= _)=_
      rw [if_neg (by rw [hb]; decide)]
      unfold zdT
      rw [if_neg (by rw [hb]; decide)]
      exact ih _
theorem zgp {scope:Scope} {env:Env} (h:∀ y ∈ scope.names,y.2=.free→∃ c,env.cells.lookup y.1=some c):closureFor scope env=pure (zdT env.cells scope.names []):=by
  unfold closureFor; have e:=zgq scope.names [] h
  refine Eq.trans ?_ (congrArg (fun z=>z >>= fun cs=>(pure cs:Sem (List (Str × Addr)))) e)
  rfl
theorem zer {cells:List (Str × Addr)} {x:Str} {c:Addr}:∀ (l:List (Str × NameKind)) (acc:List (Str × Addr)),(∀ y ∈ l,y.2=.free→∃ c,cells.lookup y.1=some c)→(∀ x c,acc.lookup x=some c→cells.lookup x=some c)→(zdT cells l acc).lookup x=some c→cells.lookup x=some c
  | [],acc,_,ha,h=>ha x c h
  | (n,k) :: r,acc,hl,ha,h=>by
    unfold zdT at h; split at h
    · rename_i hk
      obtain ⟨c',hc'⟩:=hl (n,k) (List.mem_cons_self ..) (by simpa using hk)
      refine zer r _ (fun y hy=>hl y (List.mem_cons_of_mem _ hy)) (fun z d hz=>?_) h
      rw [show cells.lookup n=some c' from hc'] at hz
      rw [List.lookup_cons] at hz
      cases hzn:z == n with
      | true =>
        rw [hzn] at hz
        have e1:z=n:=by simpa using hzn
        rw [e1,show cells.lookup n=some c' from hc']
        simpa using hz
      | false =>
        rw [hzn] at hz; exact ha z d hz
    · exact zer r acc (fun y hy=>hl y (List.mem_cons_of_mem _ hy)) ha h
theorem zhh {cells:List (Str × Addr)} {x:Str}:∀ (l:List (Str × NameKind)) (acc:List (Str × Addr)),(∃ c,acc.lookup x=some c)→∃ c,(zdT cells l acc).lookup x=some c
  | [],_,h=>h
  | (n,k) :: r,acc,h=>by
    unfold zdT; split
    · refine zhh r _ ?_
      rw [List.lookup_cons]; split
      · exact ⟨_,rfl⟩
      · exact h
    · exact zhh r acc h
theorem zhg {cells:List (Str × Addr)} {x:Str}:∀ (l:List (Str × NameKind)) (acc:List (Str × Addr)),(x,NameKind.free) ∈ l→∃ c,(zdT cells l acc).lookup x=some c
  | [],_,h=>absurd h List.not_mem_nil
  | (n,k) :: r,acc,h=>by
    unfold zdT
    rcases List.mem_cons.mp h with e | e
    · cases e
      rw [if_pos (by decide)]
      refine zhh r _ ?_; rw [List.lookup_cons,beq_self_eq_true]; exact ⟨_,rfl⟩
    · split
      · exact zhg r _ e
      · exact zhg r _ e
theorem zeI {x:Str} {k:NameKind}:∀ {l:List (Str × NameKind)},l.lookup x=some k→(x,k) ∈ l
  | [],h=>by simp at h
  | (n,j) :: r,h=>by
    rw [List.lookup_cons] at h
    cases e:x == n with
    | true =>
      rw [e] at h
      have e1:x=n:=by simpa using e
      have e2:j=k:=by simpa using h
      rw [e1,e2]; exact List.mem_cons_self ..
    | false =>
      rw [e] at h; exact List.mem_cons_of_mem _ (zeI h)
theorem zgc {env:Env} (hk:env.scope.kind=.function) {x:Str} (hx:env.kindOf x=some .cell):∀ {l:List (Str × NameKind)},l.lookup x=some .free →
    (l.map fun (n,k)=>if (k == NameKind.free && env.scope.kind == .function && env.kindOf n == some .cell) then (n,NameKind.cell) else (n,k)).lookup x=some .cell
  | [],h=>by simp at h
  | (n,k) :: r,h=>by
    rw [List.lookup_cons] at h; rw [List.map_cons]
    show List.lookup x ((if (k == NameKind.free && env.scope.kind == .function && env.kindOf n == some .cell)=true then (n,NameKind.cell) else (n,k)) :: _)=_
    cases e:x == n with
    | true =>
      rw [e] at h
      have e1:x=n:=by simpa using e
      have e2:k=.free:=by simpa using h
      subst e1 e2
      have z:((NameKind.free == NameKind.free && env.scope.kind == .function && env.kindOf x == some .cell):Bool)=true:=by rw [hk,hx]; decide
      rw [if_pos z,List.lookup_cons,beq_self_eq_true]
    | false =>
      rw [e] at h; have ih:=zgc hk hx (l:=r) h
      by_cases z:(k == NameKind.free && env.scope.kind == .function && env.kindOf n == some .cell)=true
      · rw [if_pos z,List.lookup_cons,e]
        exact ih
      · rw [if_neg z,List.lookup_cons,e]
        exact ih
theorem zgd {env:Env} {x:Str}:∀ {l:List (Str × NameKind)},(∀ y ∈ l,y.2≠.cell)→((l.map fun (n,k)=>if (k == NameKind.free && env.scope.kind == .function && env.kindOf n == some .cell) then (n,NameKind.cell) else (n,k)).lookup x=some .cell ∨
    (l.map fun (n,k)=>if (k == NameKind.free && env.scope.kind == .function && env.kindOf n == some .cell) then (n,NameKind.cell) else (n,k)).lookup x=some .free)→(x,NameKind.free) ∈ l
  | [],_,h=>by simp at h
  | (n,k) :: r,hc,h=>by
    have again:∀ (z:(r.map fun (n,k)=>if (k == NameKind.free && env.scope.kind == .function && env.kindOf n == some .cell) then (n,NameKind.cell) else (n,k)).lookup x=some .cell∨(r.map fun (n,k)=>if (k == NameKind.free && env.scope.kind == .function && env.kindOf n == some .cell) then (n,NameKind.cell) else (n,k)).lookup x=some .free),(x,NameKind.free) ∈ (n,k) :: r :=
      fun z=>List.mem_cons_of_mem _ (zgd (fun y hy=>hc y (List.mem_cons_of_mem _ hy)) z)
    rw [List.map_cons] at h
    change List.lookup x ((if (k == NameKind.free && env.scope.kind == .function && env.kindOf n == some .cell)=true then (n,NameKind.cell) else (n,k)) :: _)=some NameKind.cell∨List.lookup x ((if (k == NameKind.free && env.scope.kind == .function && env.kindOf n == some .cell)=true then (n,NameKind.cell) else (n,k)) :: _)=some NameKind.free at h
    by_cases z:(k == NameKind.free && env.scope.kind == .function && env.kindOf n == some .cell)=true
    · have hk:k=.free:=by
        simp only [Bool.and_eq_true,beq_iff_eq] at z; exact z.1.1
      rw [if_pos z,List.lookup_cons] at h
      cases e:x == n with
      | true =>
        have e1:x=n:=by simpa using e
        rw [e1,hk]; exact List.mem_cons_self ..
      | false =>
        rw [e] at h; exact again h
    · rw [if_neg z,List.lookup_cons] at h
      cases e:x == n with
      | true =>
        rw [e] at h
        have e1:x=n:=by simpa using e
        rcases h with h | h
        · exact absurd (by simpa using h) (hc (n,k) (List.mem_cons_self ..))
        · have e2:k=.free:=by simpa using h
          rw [e1,e2]; exact List.mem_cons_self ..
      | false =>
        rw [e] at h; exact again h
structure Blk (N N':List Str) (src:List (Option Nat)) (fsc sc:Scope):Prop where
  kind:sc.kind=.function
  cell:∀ y ∈ sc.names,y.2≠.cell
  names:∀ y ∈ sc.names,y.2=.local→sc.names.lookup y.1=some .local
  free:∀ y ∈ sc.names,y.2=.free→fsc.names.lookup y.1=some .cell
  len:src.length=N'.length
  sees:((N'.zip src).all fun y=>match y.2 with | none=>true | some i=>decide (N[i]?=some y.1) && decide (sc.names.lookup y.1=some .free))=true
def zmT (src:List (Option Nat)) (σ:St):St:=src.map fun o=>o.bind fun i=>(σ[i]?).join
abbrev blk (X:Cx) (N':List Str) (sc:Scope) (cl:List (Str × Addr)) (C:Addr) (s:Shared) (H:Hp) (fp:List Addr) (pn:List (Addr × Obj)):Cx :=
  { X with N:=N',s₀:=s,H₀:=H,env:=compEnvC sc cl C X.env,outer:=X.stack,ex:=fp,fn:=fun _=>false,pn:=pn }
theorem zo2 {X:Cx} {N N':List Str} {src:List (Option Nat)} {fsc sc:Scope} {pins:List (Addr × Obj)} {σ:St} {H:Hp} {s:Shared} {fp:List Addr} {h':Heap} {tk:Nat} {m:Str→Option Value} (I:Inv X pins σ H s) (B:Blk N N' src fsc sc) (hN:X.N=N) (hs:X.env.scope=fsc)
    (f2:∀ b ∈ fp,zjp X pins H b) (fb:∀ b ∈ fp,b<s.heap.objs.size) (hn:h'.Ns s.heap.objs.size m) (kp:∀ b o,s.heap.get? b=some o→h'.get? b=some o) :
    Inv (blk X N' sc (zdT X.env.cells sc.names []) s.heap.objs.size s H fp (X.pn ++ pins)) [] (zmT src σ) H { s with heap:=h',toks:=tk }:=by
  subst hN hs
  have hfr:∀ y ∈ sc.names,y.2=.free→∃ c,X.env.cells.lookup y.1=some c:=fun y hy e=>I.ok.has y.1 (.inl (B.free y hy e))
  have sub:∀ x c,(zdT X.env.cells sc.names []).lookup x=some c→X.env.cells.lookup x=some c:=fun x c e=>zer sc.names [] hfr (fun _ _ z=>by simp at z) e
  have has:∀ x,(x,NameKind.free) ∈ sc.names→∃ c,(zdT X.env.cells sc.names []).lookup x=some c:=fun x hx=>zhg sc.names [] hx
  have ok:Cx.Ok (blk X N' sc (zdT X.env.cells sc.names []) s.heap.objs.size s H fp (X.pn ++ pins)):=by
    refine ⟨I.ok.mod,B.kind,I.ok.glob,I.ok.blt,Nat.le_refl _,fun x y c e1 e2=>I.ok.inj x y c (sub x c e1) (sub y c e2),fun x hx=>has x (zgd B.cell hx),fun x c e=>(nomatch e),I.ok.hd,I.ok.frames,.inl rfl,fun b hb=>⟨Nat.ne_of_lt (fb b hb),fun x c e=>(f2 b hb).2.2.2.2.1 x c (sub x c e)⟩,
      I.bs,Nat.le_trans I.ok.bsz I.sz,fun b o e hb=>?_,fun b hb z=>?_,I.stack,I.stkFree,I.ok.tab.un I.base.tbls⟩
    · rcases (f2 b hb).2.2.2.1 with z | z
      · exact I.ok.noex b o e z
      · exact absurd (Nat.lt_of_lt_of_le (Heap.lt_size e) (Nat.le_trans I.ok.bsz z)) (Nat.lt_irrefl _)
    · rcases List.mem_cons.mp (I.stkSub b z) with e | e
      · exact (f2 b hb).2.1 e
      · exact (f2 b hb).2.2.1 e
  refine ⟨ok,rfl,I.bare,Un.kept kp,⟨m,hn,fun j x v e1 e2 e3=>?_⟩,fun x c e=>?_,I.hok.fresh (Nat.le_refl _),fun x c e=>I.freeC x c (sub x c e),fun p hp=>?_,I.hok.kept kp,?_⟩
  · have e2':(src[j]?).map (fun o=>o.bind fun i=>(σ[i]?).join)=some (some v):=by
      have z:=e2; unfold zmT at z; rw [List.getElem?_map] at z; exact z
    cases hj:src[j]? with
    | none=>rw [hj] at e2'; cases e2'
    | some o =>
      rw [hj] at e2'
      cases o with
      | none=>cases e2'
      | some i =>
        have hσ:σ[i]?=some (some v):=by
          have z:(σ[i]?).join=some v:=by simpa using e2'
          cases hz:σ[i]? with
          | none=>rw [hz] at z; cases z
          | some w=>rw [hz] at z; exact congrArg some z
        have hz:(x,some i) ∈ N'.zip src:=by
          have q:(N'.zip src)[j]?=some (x,some i):=by
            rw [List.getElem?_zip_eq_some]; exact ⟨e1,hj⟩
          exact List.mem_of_getElem? q
        have q:=List.all_eq_true.mp B.sees _ hz; simp only [Bool.and_eq_true,decide_eq_true_eq] at q; obtain ⟨q1,q2⟩:=q
        have hkc:X.env.kindOf x=some .cell:=B.free _ (zeI q2) rfl
        obtain ⟨m0,_,hl⟩:=I.loc; obtain ⟨u,ru,lk⟩:=hl i x v q1 hσ (.inr (.inl hkc)); refine ⟨u,ru,.inr ⟨.inl (zgc I.ok.kind hkc q2),?_⟩⟩
        rcases lk with ⟨k,_⟩ | ⟨_,c,e,z⟩
        · rw [hkc] at k; cases k
        · obtain ⟨c',hc'⟩:=has x (zeI q2)
          have e':=sub x c' hc'; rw [e] at e'; cases e'; obtain ⟨o,ho,hd⟩:=z; exact ⟨c,hc',o,kp _ _ ho,hd⟩
  · obtain ⟨v,o,ho,hd⟩:=I.cell x c (sub x c e)
    exact ⟨v,o,kp _ _ ho,hd⟩
  · rw [List.append_nil] at hp
    obtain ⟨e,n,ne,nf,d⟩:=I.pin p hp
    refine ⟨kp _ _ e,n,Nat.ne_of_lt (Heap.lt_size e),fun z=>?_,d⟩
    rcases List.mem_cons.mp (I.stkSub p.1 z) with q | q
    · exact ne q
    · exact nf q
  · show (zmT src σ).length=N'.length
    unfold zmT; rw [List.length_map,B.len]
theorem Un.same {fs ex:List Addr} {H H1:Hp} {h h1 h2:Heap} {a:Addr} (u:Un fs ex H H1 h h1) (hs:Heap.SameBut a h1 h2) (ha:h.objs.size≤a):Un fs ex H H1 h h2:=by
  have ne:∀ b o,h.get? b=some o→b≠a:=fun b o e=>Nat.ne_of_lt (Nat.lt_of_lt_of_le (Heap.lt_size e) ha)
  refine ⟨fun b o e n h1 h2=>?_,fun b o e n h1 h2=>?_,u.free,fun b o e h1=>?_,u.tups,u.frzs,u.tbls⟩
  · exact (hs.2 b (ne b o e)).trans (u.keep b o e n h1 h2)
  · obtain ⟨sl,q⟩:=u.slot b o e n h1 h2
    exact ⟨sl,(hs.2 b (ne b o e)).trans q⟩
  · obtain ⟨o',q⟩:=u.there b o e h1
    exact ⟨o',(hs.2 b (ne b o e)).trans q⟩
theorem HOk.same {P:Program} {w:World} {H:Hp} {h h':Heap} {a:Addr} (x:HOk P w H h) (hs:Heap.SameBut a h h') (ha:H a=none):HOk P w H h':=fun b o e=>by
  refine (x b o e).stay (fun c u hc q=>(hs.2 c ?_).trans q) (fun _ q=>q) fun _ _ q=>q
  rintro rfl
  rcases hc with rfl | hc
  · rw [ha] at e; cases e
  · rw [ha] at hc; cases hc
def PTs (X:Cx) (ifs:List Expr) (t:TT):Prop :=
  ∀ (pins:List (Addr × Obj)) (s:Shared) (σ:St) (H:Hp) (Q:Bool→Hp→Prop),Inv X pins σ H s→t σ H Q →
    wpAny (model X.prog X.w) X.A (forIn ifs true fun c r=>if r=true then do let ok ← isTrue c X.env (eval c X.env); pure (ForInStep.yield ok) else pure (ForInStep.yield r)) (TP X pins σ Q) X.xe s
theorem zpv {X:Cx}:PTs X [] (fun _ H Q=>Q true H):=fun _ _ _ H _ I h=>wpAny_pure ⟨H,I,h⟩
theorem zpu {X:Cx} {c:Expr} {t:TT} (h:PT X c t):PTs X [c] t:=fun pins s σ H Q I q=>wpAny_tests_one (h pins s σ H Q I q)
end L2
namespace L2
open PySem PySem.Spec PyProof.Rows
theorem zh7 {P:Program} {w:World} {A:Around} {R:Result→Shared→Prop} {s:Shared} {elt tg iter:Expr} {ifs:List Expr} {sc:Scope} {pos:Pos} {it acc:Value} {env:Env} (J:Nat→Shared→Prop)
    (turn:∀ k s',J k s'→wpAny (model P w) A (pyNext it) (fun r s1=>match r with
      | none=>R (.ok .next) s1
      | some v=>wpAny (model P w) A (letOwnedTupleGo tg it v) (fun _ s2=>wpAny (model P w) A (assign tg env v) (fun _ s3 =>
          wpAny (model P w) A (forIn ifs true fun c r=>if r=true then do let ok ← isTrue c env (eval c env); pure (ForInStep.yield ok) else pure (ForInStep.yield r)) (fun b s4 =>
            if b=true then wpAny (model P w) A (eval elt env) (fun y s5=>wpAny (model P w) A (call (.builtin "list.append") [acc,y]) (fun _ s6=>∃ m,m<k∧J m s6) (fun _ _=>False) s5) (fun _ _=>False) s4
            else ∃ m,m<k∧J m s4) (fun _ _=>False) s3) (fun _ _=>False) s2) (fun _ _=>False) s1) (fun _ _=>False) s')
    (k:Nat) (h:J k s):codeAny (model P w) A (.compLoop (.ListComp elt [⟨tg,iter,ifs,0⟩] sc pos) 0 it acc env) R s:=by
  have no:∀ {α:Type} {t:Sem α} {Q Q':α→Shared→Prop} {E:Value→Shared→Prop} {z:Shared},wpAny (model P w) A t Q (fun _ _=>False) z→(∀ a z',Q a z'→Q' a z')→wpAny (model P w) A t Q' E z:=fun g1 g2=>wpAny_mono g1 g2 fun _ _ f=>f.elim
  refine codeAny_loop rfl J (fun k s' hJ=>?_) k h
  show wpAny _ A ((compTurn (.ListComp elt [⟨tg,iter,ifs,0⟩] sc pos) 0 it acc env).onRaise (fun x=>do noteFrame x env; theTreesLotGoes x)) _ _ s'
  refine wpAny_noted ?_; rw [compTurn_list]
  refine wpAny_bind (wpAny_standAt (wpAny_bind (no (turn k s' hJ) fun r s1 h1=>?_)))
  cases r with
  | none=>exact wpAny_pure h1
  | some v =>
    refine wpAny_bind (no h1 fun _ s2 h2=>wpAny_bind (no h2 fun _ s3 h3=>wpAny_bind (no h3 fun b s4 h4=>?_)))
    cases b with
    | false=>exact wpAny_pure ⟨rfl,h4⟩
    | true=>exact wpAny_bind (wpAny_bind (no h4 fun y s5 h5=>wpAny_bind (no h5 fun _ s6 h6=>wpAny_pure (wpAny_pure ⟨rfl,h6⟩))))
def zre (wi:TI) (src:List (Option Nat)) (g:TG) (tc:TT) (te:TE):TE:=fun σ H Q=>wi σ H fun J H1=>∀ D,H1 D=none→∃ W:Nat→Nat→St→Hp→Prop,(∃ m,W 0 m (zmT src σ) (upd H1 D (.lst [])))∧∀ i m σ2 H2,W i m σ2 H2 →
  (J.stop i H2∧Q (.ref D) H2)∨(J.go i H2∧∃ M:St→Hp→Prop,(∀ σ' H',M σ' H'→∃ m',m'<m∧W (i+1) m' σ' H')∧∀ x H',J.yld i H2 x H'→g x σ2 H' fun σ3 H3=>tc σ3 H3 fun b H4 =>
    if b=true then te σ3 H4 fun y H5=>∃ ys,H5 D=some (.lst ys)∧ys.length<sizeLine∧M σ3 (upd H5 D (.lst (ys ++ [y]))) else M σ3 H4)
theorem zpN {X:Cx} {elt tg iter:Expr} {ifs:List Expr} {sc fsc:Scope} {pos:Pos} {wi:TI} {g:TG} {tc:TT} {te:TE} {N N':List Str} {src:List (Option Nat)} (B:Blk N N' src fsc sc) (hi:PI X tg iter wi)
    (hg:∀ cl C s H fp pn,PG (blk X N' sc cl C s H fp pn) tg g) (ht:∀ cl C s H fp pn,PTs (blk X N' sc cl C s H fp pn) ifs tc) (he:∀ cl C s H fp pn,PE (blk X N' sc cl C s H fp pn) elt te)
    (hx:X.xe=(fun _ _=>False):=by rfl) (hc:X.calm=true:=by rfl) (hN:X.N=N:=by rfl) (hs:X.env.scope=fsc:=by rfl)
    (hf:∀ x,foldedSetIterable iter X.env x=pure x:=by intro _; rfl):PE X (.ListComp elt [⟨tg,iter,ifs,0⟩] sc pos) (zre wi src g tc te):=by
  intro pins s σ H Q I h; rw [eval_ListComp]
  have hfr:∀ y ∈ sc.names,y.2=.free→∃ c,X.env.cells.lookup y.1=some c:=fun y hy e=>I.ok.has y.1 (.inl (by have:=B.free y hy e; rw [← hs] at this; exact this))
  refine wpAny_comprehension_free (use:=none) (cl:=zdT X.env.cells sc.names []) rfl hf (zgp hfr) B.kind B.names ?_
  refine thn (hi pins s σ H _ I h) fun v s1 h1=>thn h1 fun itv s2 h2=>?_
  obtain ⟨it,fp,tn,J,H2,e,I2,T,st2,f2,q⟩:=h2; subst e
  obtain ⟨W,⟨m0,w0⟩,turn⟩:=q s2.heap.objs.size (I2.hok.fresh (Nat.le_refl _))
  refine wpAny_newObj_type (wpAny_newFunctionEnv B.cell (by intro y hy; simp at hy) (fun h1 hns hsb=>?_) B.kind)
  dsimp only at hns hsb ⊢
  have I3:Inv X pins σ (upd H2 s2.heap.objs.size (.lst [])) { s2 with heap:=s2.heap.push { cls:=.type "list",dict:=none,data:=.seq ([]:List Value).toArray } } :=
    I2.laid (t':=s2.toks) (fun b o e=>Heap.get?_push_of_some _ e) (Nat.le_refl _) ⟨Nat.zero_le _,[],0,.nil,Heap.get?_push_size _ rfl⟩
  have fb:∀ b ∈ fp,b<s2.heap.objs.size:=fun b hb=>by
    obtain ⟨o,e,_⟩:=T.obj 0 _ st2 b hb; exact Heap.lt_size e
  have f3:∀ b ∈ fp,zjp X pins (upd H2 s2.heap.objs.size (.lst [])) b:=fun b hb=>by
    refine ⟨?_,(f2 b hb).2⟩; rw [zaE (Nat.ne_of_lt (fb b hb))]; exact (f2 b hb).1
  generalize hh3:s2.heap.push { cls:=.type "list",dict:=none,data:=.seq ([]:List Value).toArray }=h3 at hns hsb I3 ⊢
  have z3:s2.heap.objs.size<h3.objs.size:=by rw [← hh3,Heap.size_push]; exact Nat.lt_succ_self _
  have k3:∀ b o,h3.get? b=some o→h1.get? b=some o:=fun b o e=>hsb.extBut b o (Nat.ne_of_lt (Heap.lt_size e)) (Heap.get?_push_of_some _ e)
  have I4:=zo2 (tk:=s2.toks+([]:List (Str × Value)).length) I3 B hN hs f3 (fun b hb=>Nat.lt_trans (fb b hb) z3) hns k3
  have st4:tn 0 h1:=T.keep 0 _ _ st2 fun b hb o e=>k3 b o (by rw [← hh3]; exact Heap.get?_push_of_some _ e)
  have fok:∀ {H':Hp},(∀ b ∈ fp,H' b=none)→∀ b ∈ fp,zjp (blk X N' sc (zdT X.env.cells sc.names []) h3.objs.size { s2 with heap:=h3 } (upd H2 s2.heap.objs.size (.lst [])) fp (X.pn ++ pins)) [] H' b:=fun hn b hb=>by
    obtain ⟨_,g1,g2,g3,g4,g5⟩:=f3 b hb
    refine ⟨hn b hb,Nat.ne_of_lt (Nat.lt_trans (fb b hb) z3),fun z=>?_,.inl hb,fun x c e=>g4 x c (zer sc.names [] hfr (fun _ _ z=>by simp at z) e),fun p hp=>g5 p (by rw [List.append_nil] at hp; exact hp)⟩
    rcases List.mem_cons.mp (I3.stkSub b z) with e | e
    · exact g1 e
    · exact g2 e
  have loop:∀ s4:Shared,s4={ s2 with heap:=h1,toks:=s2.toks+([]:List (Str × Value)).length } →
      codeAny (model X.prog X.w) X.A (.compLoop (.ListComp elt [⟨tg,iter,ifs,0⟩] sc pos) 0 (.ref it) (.ref s2.heap.objs.size) (compEnvC sc (zdT X.env.cells sc.names []) h3.objs.size X.env))
        (compPost (model X.prog X.w) X.A X.xe none (EP X pins σ Q) (.ref s2.heap.objs.size) h3.objs.size) s4:=by
    rintro s4 rfl
    refine zh7 (fun k s'=>∃ i σ5 H5,Inv (blk X N' sc (zdT X.env.cells sc.names []) h3.objs.size { s2 with heap:=h3 } (upd H2 s2.heap.objs.size (.lst [])) fp (X.pn ++ pins)) [] σ5 H5 s'∧tn i s'.heap∧(∀ b ∈ fp,H5 b=none)∧W i k σ5 H5) ?_ m0
      ⟨0,_,_,I4,st4,fun b hb=>(f3 b hb).1,w0⟩
    rintro k s5 ⟨i,σ5,H5,I5,st5,fr5,w5⟩
    rcases turn i k σ5 H5 w5 with ⟨stop,qd⟩ | ⟨go,M,hM,step⟩
    · refine thn (T.done (blk X N' sc (zdT X.env.cells sc.names []) h3.objs.size { s2 with heap:=h3 } (upd H2 s2.heap.objs.size (.lst [])) fp (X.pn ++ pins)) rfl rfl rfl hc i [] s5 σ5 H5 _ I5 (fok fr5) st5 stop) fun r s6 ⟨hr,I6⟩=>?_
      subst hr; obtain ⟨m6,hn6,_⟩:=id I6.loc
      refine ⟨m6,hn6,fun h' hsb'=>⟨.ref s2.heap.objs.size,H5,?_,rfl,qd⟩⟩
      exact I3.call' (s':={ s6 with heap:=h' }) (ch:=fp) I6.os (Un.same I6.base hsb' (Nat.le_refl _)) (HOk.same I6.hok hsb' I6.free) I6.bare fun b hb=>⟨(f3 b hb).2.2.2.1,(f3 b hb).2.1,(f3 b hb).2.2.2.2.1,(f3 b hb).2.2.2.2.2⟩
    · refine thn (T.item (blk X N' sc (zdT X.env.cells sc.names []) h3.objs.size { s2 with heap:=h3 } (upd H2 s2.heap.objs.size (.lst [])) fp (X.pn ++ pins)) rfl rfl rfl hc i [] s5 σ5 H5 _ I5 (fok fr5) st5 go) fun r s6 ⟨u,hr,h6⟩=>?_
      subst hr
      refine thn h6 fun _ s7 ⟨x,H7,I7,r7,y7,st7,fr7⟩=>?_
      have I7':=I7.pinned (fok fr7) (T.obj _ _ st7)
      have back:∀ {σ8:St} {H8:Hp} {s8:Shared},Inv (blk X N' sc (zdT X.env.cells sc.names []) h3.objs.size { s2 with heap:=h3 } (upd H2 s2.heap.objs.size (.lst [])) fp (X.pn ++ pins)) ([] ++ zgi fp s7.heap) σ8 H8 s8→tn (i+1) s8.heap∧∀ b ∈ fp,H8 b=none:=fun {σ8 H8 s8} I8=>by
        have pn8:∀ b ∈ fp,∀ o,s7.heap.get? b=some o→s8.heap.get? b=some o∧H8 b=none:=fun b hb o e=>by
          have q:=I8.pin (b,o) (List.mem_append_right _ (List.mem_append_right _ (zdK hb e))); exact ⟨q.1,q.2.1⟩
        refine ⟨T.keep _ _ _ st7 fun b hb o e=>(pn8 b hb o e).1,fun b hb=>?_⟩
        obtain ⟨o,e,_⟩:=T.obj _ _ st7 b hb; exact (pn8 b hb o e).2
      have xf:∀ {α:Type} {t:Sem α} {Q1 Q2:α→Shared→Prop} {z:Shared},wpAny (model X.prog X.w) X.A t Q1 X.xe z→(∀ a z',Q1 a z'→Q2 a z')→wpAny (model X.prog X.w) X.A t Q2 (fun _ _=>False) z:=fun g1 g2=>by
        rw [hx] at g1; exact thn g1 g2
      refine xf (hg _ _ _ _ _ _ _ s7 σ5 H7 x u _ I7' r7 (step x H7 y7)) fun _ s8 ⟨σ8,H8,I8,q8⟩=>?_
      refine xf (ht _ _ _ _ _ _ _ s8 σ8 H8 _ I8 q8) fun b s9 ⟨H9,I9,q9⟩=>?_
      cases b with
      | false =>
        obtain ⟨m',hm,w'⟩:=hM σ8 H9 (by simpa using q9)
        obtain ⟨g1,g2⟩:=back I9; exact ⟨m',hm,i+1,σ8,H9,I9.unpinned,g1,g2,w'⟩
      | true =>
        rw [if_pos rfl] at q9 ⊢
        refine xf (he _ _ _ _ _ _ _ s9 σ8 H9 _ I9 q9) fun y s10 ⟨yv,H10,I10,r10,ys,hy,hz,w⟩=>?_
        obtain ⟨m',hm,w'⟩:=hM _ _ w
        refine xf (zek (X:=(blk X N' sc (zdT X.env.cells sc.names []) h3.objs.size { s2 with heap:=h3 } (upd H2 s2.heap.objs.size (.lst [])) fp (X.pn ++ pins))) _ s10 σ8 H10 (.ref s2.heap.objs.size) [yv] _ [y] (fun _ H11=>H11=upd H10 s2.heap.objs.size (.lst (ys ++ [yv]))) I10 rfl (.cons r10 .nil) ⟨_,ys,yv,rfl,rfl,hy,hz,rfl⟩) fun _ s11 ⟨_,H11,I11,_,e11⟩=>?_
        subst e11; obtain ⟨g1,g2⟩:=back I11; exact ⟨m',hm,i+1,σ8,_,I11.unpinned,g1,g2,w'⟩
  exact codeAny_compStart_list (loop _ rfl) (T.self _ 0 _ _ _ st4 (loop _ rfl))
theorem zh6 {J:It} {n:Nat} {g:TG} {tc:TT} {te:TE} {Q:VK} {D:Addr} {σ0:St} {H0:Hp} (Pv:Nat→St→Hp→Prop) (h0:Pv 0 σ0 H0)
    (hs:∀ i σ H,i<n→Pv i σ H→J.go i H∧∀ x H',J.yld i H x H'→g x σ H' fun σ3 H3=>tc σ3 H3 fun b H4=>if b=true then te σ3 H4 fun y H5=>∃ ys,H5 D=some (.lst ys)∧ys.length<sizeLine∧Pv (i+1) σ3 (upd H5 D (.lst (ys ++ [y]))) else Pv (i+1) σ3 H4)
    (hd:∀ σ H,Pv n σ H→J.stop n H∧Q (.ref D) H) :
    ∃ W:Nat→Nat→St→Hp→Prop,(∃ m,W 0 m σ0 H0)∧∀ i m σ2 H2,W i m σ2 H2 →
      (J.stop i H2∧Q (.ref D) H2)∨(J.go i H2∧∃ M:St→Hp→Prop,(∀ σ' H',M σ' H'→∃ m',m'<m∧W (i+1) m' σ' H')∧∀ x H',J.yld i H2 x H'→g x σ2 H' fun σ3 H3=>tc σ3 H3 fun b H4 =>
        if b=true then te σ3 H4 fun y H5=>∃ ys,H5 D=some (.lst ys)∧ys.length<sizeLine∧M σ3 (upd H5 D (.lst (ys ++ [y]))) else M σ3 H4):=by
  refine ⟨fun i m σ H=>m=n-i∧i≤n∧Pv i σ H,⟨n,by simp,Nat.zero_le _,h0⟩,?_⟩
  rintro i m σ2 H2 ⟨rfl,hi,p⟩
  by_cases hlt:i<n
  · obtain ⟨go,stp⟩:=hs i σ2 H2 hlt p
    exact .inr ⟨go,Pv (i+1),fun σ' H' p'=>⟨n-(i+1),by omega,rfl,hlt,p'⟩,stp⟩
  · have e:i=n:=by omega
    subst e; exact .inl (hd σ2 H2 p)
end L2
namespace L2
open PySem
def XAt (a C:Addr) (dd:Option Addr):Heap→Prop:=fun h=>∃ vs sl,h.get? a=some ⟨.ref C,dd,.fields vs,sl⟩
end L2
namespace PL
open PySem L2
inductive D where
  | non | bl (b:Bool) | int (i:Int) | str (l:List Nat) | ty (n:String) | rng (lo hi:Int) | cls (C:Addr) | adr (b:Addr)
  | tup (l:List D) | lst (l:List D) | dic (l:List (D × D)) | dit (l:List (D × D)) | obj (C:Addr) (fs:List (Str × D)) | exc (C:Addr) (fs:List (Str × D))
inductive OD where
  | lst (l:List D) | dic (l:List (D × D)) | dit (l:List (D × D)) | obj (C:Addr) (fs:List (Str × D))
def OD.toD:OD→D
  | .lst l=>.lst l
  | .dic l=>.dic l
  | .dit l=>.dit l
  | .obj C fs=>.obj C fs
theorem paired_of {α β:Type} {R:α→β→Prop}:∀ {l:List α} {m:List β},l.length=m.length→(∀ (i:Nat) a b,l[i]?=some a→m[i]?=some b→R a b)→Paired R l m
  | [],[],_,_=>.nil
  | a :: l,b :: m,h,r=>.cons (r 0 a b rfl rfl) (paired_of (by simpa using h) fun i x y hx hy=>r (i+1) x y (by simpa using hx) (by simpa using hy))
  | [],_ :: _,h,_=>by simp at h
  | _ :: _,[],h,_=>by simp at h
theorem paired_get {α β:Type} {R:α→β→Prop}:∀ {l:List α} {m:List β} (i:Nat) {a:α} {b:β},Paired R l m→l[i]?=some a→m[i]?=some b→R a b
  | _,_,_,_,_,.nil,h,_=>by simp at h
  | _,_,0,_,_,.cons r _,h1,h2=>by simp at h1 h2; subst h1; subst h2; exact r
  | _,_,i+1,_,_,.cons _ t,h1,h2=>paired_get i t (by simpa using h1) (by simpa using h2)
theorem zi {α β:Type} {R:α→β→Prop} {l:List α} {m:List β} (h:Paired R l m):l.length=m.length:=Paired.length h
theorem zbN {α β:Type} {R:α→β→Prop} {l:List α} {m:List β} (h:Paired R l m) {i:Nat} {b:β} (e:m[i]?=some b):∃ a,l[i]?=some a∧R a b:=by
  have hl:=zi h
  have hi:i<l.length:=by rw [hl]; exact (List.getElem?_eq_some_iff.mp e).1
  exact ⟨l[i],List.getElem?_eq_getElem hi,paired_get i h (List.getElem?_eq_getElem hi) e⟩
theorem zcx {α β:Type} {R:α→β→Prop} {l:List α} {m:List β} (h:Paired R l m) {i:Nat} {a:α} (e:l[i]?=some a):∃ b,m[i]?=some b∧R a b:=by
  have hl:=zi h
  have hi:i<m.length:=by rw [← hl]; exact (List.getElem?_eq_some_iff.mp e).1
  exact ⟨m[i],List.getElem?_eq_getElem hi,paired_get i h e (List.getElem?_eq_getElem hi)⟩
theorem zaY {α β:Type} {R:α→β→Prop}:∀ {l l':List α} {m m':List β},Paired R l m→Paired R l' m'→Paired R (l ++ l') (m ++ m')
  | _,_,_,_,.nil,h=>h
  | _,_,_,_,.cons r t,h=>.cons r (zaY t h)
theorem zfx {α β:Type} {R:α→β→Prop}:∀ {l:List α} {m:List β} (n:Nat),Paired R l m→Paired R (l.take n) (m.take n)
  | _,_,0,_=>.nil
  | _,_,_+1,.nil=>.nil
  | _,_,n+1,.cons r t=>.cons r (zfx n t)
theorem zfy {α β:Type} {R:α→β→Prop}:∀ {l:List α} {m:List β} (n:Nat),Paired R l m→Paired R (l.drop n) (m.drop n)
  | _,_,0,h=>h
  | _,_,_+1,.nil=>.nil
  | _,_,n+1,.cons _ t=>zfy n t
def keyD:Key→D
  | .inl i=>.int i
  | .inr x=>.str x.cps.toList
inductive Den (K:PySem.W.Frag) (H:Hp):V→D→Prop where
  | non:Den K H .non .non
  | bl (b:Bool):Den K H (.bl b) (.bl b)
  | int (i:Int):Den K H (.int i) (.int i)
  | str (l:List Nat):Den K H (.str (st l)) (.str l)
  | ty (n:String):Den K H (.ty n) (.ty n)
  | rng {a:Addr} {lo hi:Int} (h:Rd H a (.rng lo hi)):Den K H (.ref a) (.rng lo hi)
  | cls (C:Addr):Den K H (.ref C) (.cls C)
  | adr (b:Addr):Den K H (.ref b) (.adr b)
  | tup {a:Addr} {vs:List V} {ds:List D} (h:H a=some (.tup vs)) (l:vs.length=ds.length) (r:∀ (i:Nat) v d,vs[i]?=some v→ds[i]?=some d→Den K H v d):Den K H (.ref a) (.tup ds)
  | lst {a:Addr} {vs:List V} {ds:List D} (h:SqL K H a vs) (l:vs.length=ds.length) (r:∀ (i:Nat) v d,vs[i]?=some v→ds[i]?=some d→Den K H v d):Den K H (.ref a) (.lst ds)
  | dicK {a:Addr} {kvs:List (Key × V)} {ds:List (D × D)} (h:Rd H a (.dK kvs)) (l:kvs.length=ds.length) (r:∀ (i:Nat) p q,kvs[i]?=some p→ds[i]?=some q→q.1=keyD p.1) (r2:∀ (i:Nat) p q,kvs[i]?=some p→ds[i]?=some q→Den K H p.2 q.2):Den K H (.ref a) (.dic ds)
  | dicT {a:Addr} {kvs:List (List Key × V)} {ep:Nat} {ds:List (D × D)} (h:H a=some (.dE kvs ep)) (l:kvs.length=ds.length) (r:∀ (i:Nat) p q,kvs[i]?=some p→ds[i]?=some q→q.1=.tup (p.1.map keyD)) (r2:∀ (i:Nat) p q,kvs[i]?=some p→ds[i]?=some q→Den K H p.2 q.2):Den K H (.ref a) (.dit ds)
  | obj {a C dx:Addr} {fs:List (Str × V)} {ds:List (Str × D)} (h:H a=some (.ins C dx fs)) (l:fs.length=ds.length) (r:∀ (i:Nat) p q,fs[i]?=some p→ds[i]?=some q→q.1=p.1) (r2:∀ (i:Nat) p q,fs[i]?=some p→ds[i]?=some q→Den K H p.2 q.2):Den K H (.ref a) (.obj C ds)
  | excN {a C:Addr} (h:H a=some (.ext (XAt a C none))):Den K H (.ref a) (.exc C [])
  | exc {a C dx:Addr} {fs:List (Str × V)} {ds:List (Str × D)} (h:H a=some (.ext (XAt a C (some dx)))) (h2:H dx=some (.xd fs)) (l:fs.length=ds.length) (r:∀ (i:Nat) p q,fs[i]?=some p→ds[i]?=some q→q.1=p.1) (r2:∀ (i:Nat) p q,fs[i]?=some p→ds[i]?=some q→Den K H p.2 q.2):Den K H (.ref a) (.exc C ds)
abbrev zmK (K:PySem.W.Frag) (H:Hp):List (Key × V)→List (D × D)→Prop:=Paired fun p q=>q.1=keyD p.1∧Den K H p.2 q.2
abbrev zqO (K:PySem.W.Frag) (H:Hp):List (List Key × V)→List (D × D)→Prop:=Paired fun p q=>q.1=.tup (p.1.map keyD)∧Den K H p.2 q.2
abbrev zmy (K:PySem.W.Frag) (H:Hp):List (Str × V)→List (Str × D)→Prop:=Paired fun p q=>q.1=p.1∧Den K H p.2 q.2
abbrev zbU (K:PySem.W.Frag) (H:Hp):List V→List D→Prop:=Paired (Den K H)
section
variable {K:PySem.W.Frag} {H H':Hp} {v:V} {a:Addr} {vs:List V} {ds:List D}
theorem zdr {u:HO} (e:zaX H H') (h:Rd H a u):Rd H' a u:=by
  rcases h with h | ⟨o,h⟩
  · exact .inl (e _ _ h)
  · exact .inr ⟨o,e _ _ h⟩
theorem zaO (e:zaX H H') (h:SqT K H a vs):SqT K H' a vs:=by
  rcases h with h | h
  · exact .inl (zdr e h)
  · exact .inr h
theorem zaK (e:zaX H H') (h:SqL K H a vs):SqL K H' a vs:=by
  rcases h with h | h
  · exact .inl (zdr e h)
  · exact .inr h
theorem Den.mono {d:D} (h:Den K H v d) (e:zaX H H'):Den K H' v d:=by
  induction h with
  | non=>exact .non
  | bl b=>exact .bl b
  | int i=>exact .int i
  | str l=>exact .str l
  | ty n=>exact .ty n
  | rng h=>exact .rng (zdr e h)
  | cls C=>exact .cls C
  | adr C=>exact .adr C
  | tup h l r ih=>exact .tup (e _ _ h) l ih
  | lst h l r ih=>exact .lst (zaK e h) l ih
  | dicK h l r r2 ih=>exact .dicK (zdr e h) l r ih
  | dicT h l r r2 ih=>exact .dicT (e _ _ h) l r ih
  | obj h l r r2 ih=>exact .obj (e _ _ h) l r ih
  | excN h=>exact .excN (e _ _ h)
  | exc h h2 l r r2 ih=>exact .exc (e _ _ h) (e _ _ h2) l r ih
theorem zbU.mono (h:zbU K H vs ds) (e:zaX H H'):zbU K H' vs ds:=Paired.mapP h fun _ _ q=>q.mono e
theorem zmK.mono {kvs:List (Key × V)} {es:List (D × D)} (h:zmK K H kvs es) (e:zaX H H'):zmK K H' kvs es:=Paired.mapP h fun _ _ q=>⟨q.1,q.2.mono e⟩
theorem zqO.mono {kvs:List (List Key × V)} {es:List (D × D)} (h:zqO K H kvs es) (e:zaX H H'):zqO K H' kvs es:=Paired.mapP h fun _ _ q=>⟨q.1,q.2.mono e⟩
theorem zmy.mono {fs:List (Str × V)} {es:List (Str × D)} (h:zmy K H fs es) (e:zaX H H'):zmy K H' fs es:=Paired.mapP h fun _ _ q=>⟨q.1,q.2.mono e⟩
theorem Den.mkO {C dx:Addr} {fs:List (Str × V)} {es:List (Str × D)} (h:H a=some (.ins C dx fs)) (r:zmy K H fs es):Den K H (.ref a) (.obj C es):=.obj h (zi r) (fun i _ _ h1 h2=>(paired_get i r h1 h2).1) fun i _ _ h1 h2=>(paired_get i r h1 h2).2
theorem Den.objI {C:Addr} {es:List (Str × D)} (h:Den K H v (.obj C es)):∃ a dx fs,v=.ref a∧H a=some (.ins C dx fs)∧zmy K H fs es:=by
  cases h with
  | obj h l r r2=>exact ⟨_,_,_,rfl,h,paired_of l fun i p q h1 h2=>⟨r i p q h1 h2,r2 i p q h1 h2⟩⟩
def zvQ (K:PySem.W.Frag) (H:Hp) (dd:Option Addr) (es:List (Str × D)):Prop:=(dd=none∧es=[])∨∃ dx fs,dd=some dx∧H dx=some (.xd fs)∧zmy K H fs es
theorem Den.excI {C:Addr} {es:List (Str × D)} (h:Den K H v (.exc C es)):∃ a dd,v=.ref a∧H a=some (.ext (XAt a C dd))∧zvQ K H dd es:=by
  cases h with
  | excN h=>exact ⟨_,_,rfl,h,.inl ⟨rfl,rfl⟩⟩
  | exc h h2 l r r2=>exact ⟨_,_,rfl,h,.inr ⟨_,_,rfl,h2,paired_of l fun i p q h1 h2=>⟨r i p q h1 h2,r2 i p q h1 h2⟩⟩⟩
theorem Den.adrI {b:Addr} (h:Den K H v (.adr b)):v=.ref b:=by cases h; rfl
theorem Den.mkDK {kvs:List (Key × V)} {es:List (D × D)} (h:Rd H a (.dK kvs)) (r:zmK K H kvs es):Den K H (.ref a) (.dic es):=.dicK h (zi r) (fun i _ _ h1 h2=>(paired_get i r h1 h2).1) fun i _ _ h1 h2=>(paired_get i r h1 h2).2
theorem Den.mkDT {kvs:List (List Key × V)} {ep:Nat} {es:List (D × D)} (h:H a=some (.dE kvs ep)) (r:zqO K H kvs es):Den K H (.ref a) (.dit es):=.dicT h (zi r) (fun i _ _ h1 h2=>(paired_get i r h1 h2).1) fun i _ _ h1 h2=>(paired_get i r h1 h2).2
theorem Den.dicI {es:List (D × D)} (h:Den K H v (.dic es)):∃ a kvs,v=.ref a∧Rd H a (.dK kvs)∧zmK K H kvs es:=by
  cases h with
  | dicK h l r r2=>exact ⟨_,_,rfl,h,paired_of l fun i p q h1 h2=>⟨r i p q h1 h2,r2 i p q h1 h2⟩⟩
theorem Den.ditI {es:List (D × D)} (h:Den K H v (.dit es)):∃ a kvs ep,v=.ref a∧H a=some (.dE kvs ep)∧zqO K H kvs es:=by
  cases h with
  | dicT h l r r2=>exact ⟨_,_,_,rfl,h,paired_of l fun i p q h1 h2=>⟨r i p q h1 h2,r2 i p q h1 h2⟩⟩
theorem Den.mkT (h:H a=some (.tup vs)) (r:zbU K H vs ds):Den K H (.ref a) (.tup ds):=.tup h (zi r) fun i _ _ h1 h2=>paired_get i r h1 h2
theorem Den.mkL (h:SqL K H a vs) (r:zbU K H vs ds):Den K H (.ref a) (.lst ds):=.lst h (zi r) fun i _ _ h1 h2=>paired_get i r h1 h2
theorem Den.tupJ (h:Den K H v (.tup ds)):∃ a vs,v=.ref a∧H a=some (.tup vs)∧zbU K H vs ds:=by
  cases h with
  | tup h l r=>exact ⟨_,_,rfl,h,paired_of l r⟩
theorem Den.tupI (h:Den K H v (.tup ds)):∃ a vs,v=.ref a∧SqT K H a vs∧zbU K H vs ds:=by
  cases h with
  | tup h l r=>exact ⟨_,_,rfl,SqT.of h,paired_of l r⟩
theorem Den.lstI (h:Den K H v (.lst ds)):∃ a vs,v=.ref a∧SqL K H a vs∧zbU K H vs ds:=by
  cases h with
  | lst h l r=>exact ⟨_,_,rfl,h,paired_of l r⟩
theorem Den.intI {i:Int} (h:Den K H v (.int i)):v=.int i:=by cases h; rfl
theorem Den.blI {b:Bool} (h:Den K H v (.bl b)):v=.bl b:=by cases h; rfl
theorem Den.strI {l:List Nat} (h:Den K H v (.str l)):v=.str (st l):=by cases h; rfl
theorem Den.nonI (h:Den K H v .non):v=.non:=by cases h; rfl
theorem Den.non_iff {d:D} (h:Den K H v d):v=.non↔d=.non:=by cases h <;> simp
end
inductive Slot where
  | emp | val (d:D) | own (o:OD)
  | bk (d:D→D) (b:Addr) (xs:OD)
abbrev Sts:=List Slot
structure Wd where
  H₀:Hp
  Hi₀:Hp
  F:List Addr
def zbY (K:PySem.W.Frag) (Hi H:Hp) (a:Addr):OD→Prop
  | .lst ds=>∃ vs,H a=some (.lst vs)∧zbU K Hi vs ds
  | .dic ds=>∃ kvs,H a=some (.dK kvs)∧zmK K Hi kvs ds
  | .dit ds=>∃ kvs ep,H a=some (.dE kvs ep)∧zqO K Hi kvs ds
  | .obj C ds=>∃ dx fs,H a=some (.ins C dx fs)∧zmy K Hi fs ds
def zpl:Option (Option V)→Option Addr
  | some (some (.ref a))=>some a
  | _=>none
def adr (n:Nat) (W:Wd) (σ:St) (i:Nat):Option Addr:=if i<n then zpl σ[i]? else W.F[i-n]?
structure Free (n:Nat) (W:Wd) (Γ:Sts) (σ:St) (a:Addr):Prop where
  own:∀ (j:Nat) o',Γ[j]?=some (.own o')→adr n W σ j≠some a
  bk:∀ (j:Nat) d xs,Γ[j]?≠some (.bk d a xs)
def Hol (K:PySem.W.Frag) (d:D→D):Prop:=∀ (b:Addr) (Hi:Hp) (v:V) (o:OD),Den K Hi (.ref b) o.toD→Den K Hi v (d (.adr b))→Den K Hi v (d o.toD)
structure BkAt (K:PySem.W.Frag) (n:Nat) (W:Wd) (Hi:Hp) (Γ:Sts) (σ:St) (H:Hp) (i:Nat) (d:D→D) (b:Addr) (xs:OD):Prop where
  val:∃ v,σ[i]?=some (some v)∧Den K Hi v (d (.adr b))
  hol:Hol K d
  hi:Hi b=none
  h0:b ∉ W.F→W.H₀ b=none
  at_:zbY K Hi H b xs
  one:∀ (j:Nat) d' xs',Γ[j]?=some (.bk d' b xs')→j=i
  ne:∀ (j:Nat) o',Γ[j]?=some (.own o')→adr n W σ j≠some b
structure Fz (Hi H:Hp):Prop where
  sub:zaX Hi H
  tups:∀ a xs,H a=some (.tup xs)→Hi a=some (.tup xs)
structure Good (K:PySem.W.Frag) (n:Nat) (W:Wd) (Hi:Hp) (Γ:Sts) (σ:St) (H:Hp):Prop where
  len:σ.length=n
  fz:Fz Hi H
  keep:∀ a o,W.H₀ a=some o→a ∉ W.F→H a=some o
  there:∀ a o,W.H₀ a=some o→∃ o',H a=some o'
  fro:∀ a o,W.H₀ a=some o→Hi a=W.Hi₀ a
  val:∀ (i:Nat) d,Γ[i]?=some (.val d)→∃ v,σ[i]?=some (some v)∧Den K Hi v d
  own:∀ (i:Nat) o,Γ[i]?=some (.own o)→∃ a,adr n W σ i=some a∧Hi a=none∧(i<n→W.H₀ a=none)∧zbY K Hi H a o
  apart:∀ (i j:Nat) o o' a,Γ[i]?=some (.own o)→Γ[j]?=some (.own o')→adr n W σ i=some a→adr n W σ j=some a→i=j
  bk:∀ (i:Nat) d b xs,Γ[i]?=some (.bk d b xs)→BkAt K n W Hi Γ σ H i d b xs
theorem Good.sub {K:PySem.W.Frag} {n:Nat} {W:Wd} {Hi:Hp} {Γ:Sts} {σ:St} {H:Hp} (g:Good K n W Hi Γ σ H):zaX Hi H:=g.fz.sub
structure Ext (Hi H Hi' H':Hp):Prop where
  hi:zaX Hi Hi'
  h:zaX H H'
  fz:Fz Hi' H'
  fro:∀ a o,H a=some o→Hi' a=Hi a
theorem Ext.refl {Hi H:Hp} (s:Fz Hi H):Ext Hi H Hi H:=⟨zaX.refl _,zaX.refl _,s,fun _ _ _=>rfl⟩
theorem Ext.trans {A B A1 B1 A2 B2:Hp} (x:Ext A B A1 B1) (y:Ext A1 B1 A2 B2):Ext A B A2 B2 :=
  ⟨x.hi.trans y.hi,x.h.trans y.h,y.fz,fun a o e=>(y.fro a o (x.h a o e)).trans (x.fro a o e)⟩
theorem zba {H:Hp} {p:Addr} (h:H p=none) (o:HO):zaX H (upd H p o):=fun b u q=>by rw [zaE (zbw q h)]; exact q
theorem Ext.new {Hi H:Hp} {p:Addr} (s:Fz Hi H) (h:H p=none) (o:HO):Ext Hi H (upd Hi p o) (upd H p o):=by
  have hi:Hi p=none:=s.sub.free h
  refine ⟨zba hi o,zba h o,⟨fun b u q=>?_,fun b xs q=>?_⟩,fun b u q=>?_⟩
  · by_cases e:b=p
    · subst e; rw [zP] at q ⊢; exact q
    · rw [zaE e] at q ⊢; exact s.sub b u q
  · by_cases e:b=p
    · subst e; rw [zP] at q ⊢; exact q
    · rw [zaE e] at q ⊢; exact s.tups b xs q
  · exact zaE (zbw q h)
theorem Ext.newO {Hi H:Hp} {p:Addr} (s:Fz Hi H) (h:H p=none) (o:HO) (ho:∀ xs,o≠.tup xs):Ext Hi H Hi (upd H p o) :=
  ⟨zaX.refl _,zba h o,⟨s.sub.trans (zba h o),fun b xs q=>by
    by_cases e:b=p
    · subst e; rw [zP] at q; exact absurd (Option.some.inj q) (ho xs)
    · rw [zaE e] at q; exact s.tups b xs q⟩,fun _ _ _=>rfl⟩
section
variable {K:PySem.W.Frag} {n:Nat} {W:Wd} {Hi Hi' H H':Hp} {Γ:Sts} {σ:St} {a:Addr} {o:OD}
theorem zbY.there (h:zbY K Hi H a o):∃ u,H a=some u:=by
  cases o with
  | lst ds=>obtain ⟨vs,e,_⟩:=h; exact ⟨_,e⟩
  | dic ds=>obtain ⟨kvs,e,_⟩:=h; exact ⟨_,e⟩
  | dit ds=>obtain ⟨kvs,ep,e,_⟩:=h; exact ⟨_,e⟩
  | obj C ds=>obtain ⟨dx,fs,e,_⟩:=h; exact ⟨_,e⟩
theorem zbY.mono (h:zbY K Hi H a o) (hi:zaX Hi Hi') (e:∀ u,H a=some u→H' a=some u):zbY K Hi' H' a o:=by
  cases o with
  | lst ds=>obtain ⟨vs,q,r⟩:=h; exact ⟨vs,e _ q,r.mono hi⟩
  | dic ds=>obtain ⟨kvs,q,r⟩:=h; exact ⟨kvs,e _ q,r.mono hi⟩
  | dit ds=>obtain ⟨kvs,ep,q,r⟩:=h; exact ⟨kvs,ep,e _ q,r.mono hi⟩
  | obj C ds=>obtain ⟨dx,fs,q,r⟩:=h; exact ⟨dx,fs,e _ q,r.mono hi⟩
theorem zbY.notTup (h:zbY K Hi H a o):∀ xs,H a≠some (.tup xs):=fun xs z=>by
  cases o with
  | lst ds=>obtain ⟨vs,e,_⟩:=h; rw [e] at z; cases z
  | dic ds=>obtain ⟨kvs,e,_⟩:=h; rw [e] at z; cases z
  | dit ds=>obtain ⟨kvs,ep,e,_⟩:=h; rw [e] at z; cases z
  | obj C ds=>obtain ⟨dx,fs,e,_⟩:=h; rw [e] at z; cases z
theorem Good.ext (g:Good K n W Hi Γ σ H) (e:Ext Hi H Hi' H'):Good K n W Hi' Γ σ H' where
  len:=g.len
  fz:=e.fz
  keep:=fun a o h n=>e.h a o (g.keep a o h n)
  there:=fun a o h=>by
    obtain ⟨o',q⟩:=g.there a o h; exact ⟨o',e.h a o' q⟩
  fro:=fun a o h=>by
    obtain ⟨o',q⟩:=g.there a o h; exact (e.fro a o' q).trans (g.fro a o h)
  val:=fun i d h=>by
    obtain ⟨v,h1,h2⟩:=g.val i d h; exact ⟨v,h1,h2.mono e.hi⟩
  own:=fun i o h=>by
    obtain ⟨a,h1,h2,h3,h4⟩:=g.own i o h; obtain ⟨u,hu⟩:=h4.there
    exact ⟨a,h1,(e.fro a u hu).trans h2,h3,h4.mono e.hi fun u q=>e.h a u q⟩
  apart:=g.apart
  bk:=fun i d b xs h=>by
    obtain ⟨⟨v,h0,h1⟩,h2,h3,h4,h5,h6,h7⟩:=g.bk i d b xs h
    obtain ⟨u,hu⟩:=h5.there
    exact ⟨⟨v,h0,h1.mono e.hi⟩,h2,(e.fro b u hu).trans h3,h4,h5.mono e.hi fun u q=>e.h b u q,h6,h7⟩
theorem zdH {o:Option (Option V)} (h:zpl o=some a):o=some (some (.ref a)):=by
  unfold zpl at h; split at h
  · cases h; rfl
  · cases h
theorem Good.set (g:Good K n W Hi Γ σ H) {i:Nat} {v:V} {d:D} (hi:i<n) (r:Den K Hi v d):Good K n W Hi (Γ.set i (.val d)) (σ.set i (some v)) H:=by
  have ad:∀ j,j≠i→adr n W (σ.set i (some v)) j=adr n W σ j:=fun j hj=>by
    unfold adr
    rw [List.getElem?_set_ne (fun z=>hj z.symm)]
  have inv:∀ (j:Nat) (s:Slot),(Γ.set i (.val d))[j]?=some s→(j=i∧s=.val d)∨(j≠i∧Γ[j]?=some s):=fun j s e=>by
    by_cases hj:j=i
    · subst hj
      refine .inl ⟨rfl,?_⟩; rw [List.getElem?_set] at e; simp only [if_true] at e; split at e
      · exact (Option.some.inj e).symm
      · cases e
    · rw [List.getElem?_set_ne (fun z=>hj z.symm)] at e
      exact .inr ⟨hj,e⟩
  refine ⟨by rw [List.length_set]; exact g.len,g.fz,g.keep,g.there,g.fro,fun j d' e=>?_,fun j o e=>?_,fun j k o o' a e1 e2 h1 h2=>?_,fun j d' b xs e=>?_⟩
  · rcases inv j _ e with ⟨rfl,z⟩ | ⟨hj,z⟩
    · cases z
      exact ⟨v,by rw [List.getElem?_set_self (by rw [g.len]; exact hi)],r⟩
    · obtain ⟨w,h1,h2⟩:=g.val j d' z
      exact ⟨w,by rw [List.getElem?_set_ne (fun z=>hj z.symm)]; exact h1,h2⟩
  · rcases inv j _ e with ⟨rfl,z⟩ | ⟨hj,z⟩
    · cases z
    · obtain ⟨a,h1,h2⟩:=g.own j o z
      exact ⟨a,by rw [ad j hj]; exact h1,h2⟩
  · rcases inv j _ e1 with ⟨rfl,z⟩ | ⟨hj,z⟩
    · cases z
    · rcases inv k _ e2 with ⟨rfl,y⟩ | ⟨hk,y⟩
      · cases y
      · exact g.apart j k o o' a z y (by rw [← ad j hj]; exact h1) (by rw [← ad k hk]; exact h2)
  · rcases inv j _ e with ⟨rfl,z⟩ | ⟨hj,z⟩
    · cases z
    · obtain ⟨⟨w,w1,w2⟩,h1,h2,h3,h4,h5,h6⟩:=g.bk j d' b xs z
      refine ⟨⟨w,by rw [List.getElem?_set_ne (fun z=>hj z.symm)]; exact w1,w2⟩,h1,h2,h3,h4,fun k d' xs' q=>?_,fun k o' q=>?_⟩
      · rcases inv k _ q with ⟨rfl,y⟩ | ⟨hk,y⟩
        · cases y
        · exact h5 k _ _ y
      · rcases inv k _ q with ⟨rfl,y⟩ | ⟨hk,y⟩
        · cases y
        · rw [ad k hk]
          exact h6 k o' y
theorem Good.setO (g:Good K n W Hi Γ σ H) {i:Nat} (hi:i<n) (h0:Hi a=none) (h1:W.H₀ a=none) (fr:Free n W Γ σ a) (h3:zbY K Hi H a o):Good K n W Hi (Γ.set i (.own o)) (σ.set i (some (.ref a))) H:=by
  have ad:∀ j,j≠i→adr n W (σ.set i (some (.ref a))) j=adr n W σ j:=fun j hj=>by
    unfold adr
    rw [List.getElem?_set_ne (fun z=>hj z.symm)]
  have ai:adr n W (σ.set i (some (.ref a))) i=some a:=by
    unfold adr
    rw [if_pos hi,List.getElem?_set_self (by rw [g.len]; exact hi)]
    rfl
  have inv:∀ (j:Nat) (s:Slot),(Γ.set i (.own o))[j]?=some s→(j=i∧s=.own o)∨(j≠i∧Γ[j]?=some s):=fun j s e=>by
    by_cases hj:j=i
    · subst hj
      refine .inl ⟨rfl,?_⟩; rw [List.getElem?_set] at e; simp only [if_true] at e; split at e
      · exact (Option.some.inj e).symm
      · cases e
    · rw [List.getElem?_set_ne (fun z=>hj z.symm)] at e
      exact .inr ⟨hj,e⟩
  refine ⟨by rw [List.length_set]; exact g.len,g.fz,g.keep,g.there,g.fro,fun j d' e=>?_,fun j o e=>?_,fun j k o o' b e1 e2 q1 q2=>?_,fun j d' b xs e=>?_⟩
  · rcases inv j _ e with ⟨rfl,z⟩ | ⟨hj,z⟩
    · cases z
    · obtain ⟨w,h1,h2⟩:=g.val j d' z
      exact ⟨w,by rw [List.getElem?_set_ne (fun z=>hj z.symm)]; exact h1,h2⟩
  · rcases inv j _ e with ⟨rfl,z⟩ | ⟨hj,z⟩
    · cases z
      exact ⟨a,ai,h0,fun _=>h1,h3⟩
    · obtain ⟨b,q1,q2⟩:=g.own j o z
      exact ⟨b,by rw [ad j hj]; exact q1,q2⟩
  · rcases inv j _ e1 with ⟨rfl,z⟩ | ⟨hj,z⟩
    · rcases inv k _ e2 with ⟨rfl,y⟩ | ⟨hk,y⟩
      · rfl
      · rw [ai] at q1
        cases q1; rw [ad k hk] at q2; exact absurd q2 (fr.own k _ y)
    · rcases inv k _ e2 with ⟨rfl,y⟩ | ⟨hk,y⟩
      · rw [ai] at q2
        cases q2; rw [ad j hj] at q1; exact absurd q1 (fr.own j _ z)
      · exact g.apart j k o o' b z y (by rw [← ad j hj]; exact q1) (by rw [← ad k hk]; exact q2)
  · rcases inv j _ e with ⟨rfl,z⟩ | ⟨hj,z⟩
    · cases z
    · obtain ⟨⟨w,w1,w2⟩,h1,h2,h3,h4,h5,h6⟩:=g.bk j d' b xs z
      refine ⟨⟨w,by rw [List.getElem?_set_ne (fun z=>hj z.symm)]; exact w1,w2⟩,h1,h2,h3,h4,fun k d' xs' q=>?_,fun k o' q=>?_⟩
      · rcases inv k _ q with ⟨rfl,y⟩ | ⟨hk,y⟩
        · cases y
        · exact h5 k _ _ y
      · rcases inv k _ q with ⟨rfl,y⟩ | ⟨hk,y⟩
        · rw [ai]
          intro w; cases w; exact fr.bk j _ _ z
        · rw [ad k hk]
          exact h6 k o' y
theorem Good.put (g:Good K n W Hi Γ σ H) {i:Nat} {o0:OD} {u:HO} (e0:Γ[i]?=some (.own o0)) (ha:adr n W σ i=some a) (hn:zbY K Hi (upd H a u) a o):Good K n W Hi (Γ.set i (.own o)) σ (upd H a u):=by
  obtain ⟨a',h1,h2,h3,h4⟩:=g.own i _ e0; rw [ha] at h1; cases h1
  have hF:i<n∨a ∈ W.F:=by
    by_cases hi:i<n
    · exact .inl hi
    · unfold adr at ha
      rw [if_neg hi] at ha; exact .inr (List.mem_of_getElem? ha)
  have inv:∀ (j:Nat) (s:Slot),(Γ.set i (.own o))[j]?=some s→(j=i∧s=.own o)∨(j≠i∧Γ[j]?=some s):=fun j s e=>by
    by_cases hj:j=i
    · subst hj
      refine .inl ⟨rfl,?_⟩; rw [List.getElem?_set] at e; simp only [if_true] at e; split at e
      · exact (Option.some.inj e).symm
      · cases e
    · rw [List.getElem?_set_ne (fun z=>hj z.symm)] at e
      exact .inr ⟨hj,e⟩
  refine ⟨g.len,⟨fun b w q=>?_,fun b xs q=>?_⟩,fun b w q nf=>?_,fun b w q=>?_,g.fro,fun j d' e=>?_,fun j o' e=>?_,fun j k o1 o2 b e1 e2 q1 q2=>?_,fun j d' b xs e=>?_⟩
  · rw [zaE (fun z=>by rw [z,h2] at q; cases q)]
    exact g.sub b w q
  · by_cases hb:b=a
    · subst hb
      exact absurd q (hn.notTup xs)
    · rw [zaE hb] at q
      exact g.fz.tups b xs q
  · have hb:b≠a:=fun z=>by
      subst z
      rcases hF with hi | hf
      · rw [h3 hi] at q; cases q
      · exact nf hf
    rw [zaE hb]; exact g.keep b w q nf
  · by_cases hb:b=a
    · exact ⟨u,by rw [hb,zP]⟩
    · obtain ⟨w',hw⟩:=g.there b w q
      exact ⟨w',by rw [zaE hb]; exact hw⟩
  · rcases inv j _ e with ⟨rfl,z⟩ | ⟨hj,z⟩
    · cases z
    · exact g.val j d' z
  · rcases inv j _ e with ⟨rfl,z⟩ | ⟨hj,z⟩
    · cases z
      exact ⟨a,ha,h2,h3,hn⟩
    · obtain ⟨b,q1,q2,q3,q4⟩:=g.own j o' z
      have hb:b≠a:=fun w=>hj (g.apart j i _ _ a z e0 (by rw [← w]; exact q1) ha)
      exact ⟨b,q1,q2,q3,q4.mono (zaX.refl _) fun w hw=>by rw [zaE hb]; exact hw⟩
  · have e1':∃ oo,Γ[j]?=some (.own oo):=by
      rcases inv j _ e1 with ⟨rfl,z⟩ | ⟨hj,z⟩
      · exact ⟨_,e0⟩
      · exact ⟨_,z⟩
    have e2':∃ oo,Γ[k]?=some (.own oo):=by
      rcases inv k _ e2 with ⟨rfl,z⟩ | ⟨hj,z⟩
      · exact ⟨_,e0⟩
      · exact ⟨_,z⟩
    obtain ⟨_,z1⟩:=e1'; obtain ⟨_,z2⟩:=e2'; exact g.apart j k _ _ b z1 z2 q1 q2
  · rcases inv j _ e with ⟨rfl,z⟩ | ⟨hj,z⟩
    · cases z
    · obtain ⟨p0,p1,p2,p3,p4,p5,p6⟩:=g.bk j d' b xs z
      have hb:b≠a:=fun w=>p6 i _ e0 (by rw [w]; exact ha)
      refine ⟨p0,p1,p2,p3,p4.mono (zaX.refl _) fun w hw=>by rw [zaE hb]; exact hw,fun k d' xs' q=>?_,fun k o' q=>?_⟩
      · rcases inv k _ q with ⟨rfl,y⟩ | ⟨hk,y⟩
        · cases y
        · exact p5 k _ _ y
      · rcases inv k _ q with ⟨rfl,y⟩ | ⟨hk,y⟩
        · exact p6 k _ e0
        · exact p6 k o' y
theorem Good.freezeA (g:Good K n W Hi Γ σ H) (h0:Hi a=none) (h1:W.H₀ a=none) (fr:Free n W Γ σ a) {u:HO} (hu:H a=some u):Good K n W (upd Hi a u) Γ σ H:=by
  have hs:zaX Hi (upd Hi a u):=zba h0 u
  refine ⟨g.len,⟨fun b w q=>?_,fun b xs q=>?_⟩,g.keep,g.there,fun b w q=>?_,fun j d' e=>?_,fun j o' e=>?_,g.apart,fun j d' b xs e=>?_⟩
  · by_cases hb:b=a
    · subst hb; rw [zP] at q; cases q; exact hu
    · rw [zaE hb] at q; exact g.sub b w q
  · have hb:b≠a:=fun z=>by
      have:=g.fz.tups b xs q
      rw [z,h0] at this; cases this
    rw [zaE hb]; exact g.fz.tups b xs q
  · have hb:b≠a:=fun z=>by subst z; rw [h1] at q; cases q
    rw [zaE hb]; exact g.fro b w q
  · obtain ⟨w,q1,q2⟩:=g.val j d' e
    exact ⟨w,q1,q2.mono hs⟩
  · obtain ⟨b,q1,q2,q3,q4⟩:=g.own j o' e
    have hb:b≠a:=fun z=>fr.own j o' e (by rw [← z]; exact q1)
    exact ⟨b,q1,by rw [zaE hb]; exact q2,q3,q4.mono hs fun _ z=>z⟩
  · obtain ⟨⟨w,w1,w2⟩,p1,p2,p3,p4,p5,p6⟩:=g.bk j d' b xs e
    have hb:b≠a:=fun z=>fr.bk j _ _ (by rw [← z]; exact e)
    exact ⟨⟨w,w1,w2.mono hs⟩,p1,by rw [zaE hb]; exact p2,p3,p4.mono hs fun _ z=>z,p5,p6⟩
theorem zbY.den (h:zbY K Hi H a o) (h0:Hi a=none) {u:HO} (hu:H a=some u):Den K (upd Hi a u) (.ref a) o.toD:=by
  cases o with
  | lst ds =>
    obtain ⟨vs,q,r⟩:=h; rw [hu] at q; cases q; exact Den.mkL (SqL.of zP) (r.mono (zba h0 _))
  | dic ds =>
    obtain ⟨kvs,q,r⟩:=h; rw [hu] at q; cases q; exact Den.mkDK (.inl zP) (r.mono (zba h0 _))
  | dit ds =>
    obtain ⟨kvs,ep,q,r⟩:=h; rw [hu] at q; cases q; exact Den.mkDT zP (r.mono (zba h0 _))
  | obj C ds =>
    obtain ⟨dx,fs,q,r⟩:=h; rw [hu] at q; cases q; exact Den.mkO zP (r.mono (zba h0 _))
end
end PL
namespace PL
open PySem L2
abbrev TE':=Sts→(D→Sts→Prop)→Prop
abbrev TT':=Sts→(Bool→Sts→Prop)→Prop
abbrev TA':=Sts→(List D→Sts→Prop)→Prop
abbrev TO':=Sts→(OD→Sts→Prop)→Prop
abbrev TI':=Sts→(List D→Sts→Prop)→Prop
abbrev TG':=D→Sts→(Sts→Prop)→Prop
inductive Res where
  | val (d:D) | own (o:OD)
  | bk (d:D→D) (o:OD)
def Res.toD:Res→D
  | .val d=>d
  | .own o=>o.toD
  | .bk d o=>d o.toD
structure Ends' where
  nx:Sts→Prop
  rt:Res→Sts→Prop
  bk:Sts→Prop:=fun _=>False
  ct:Sts→Prop:=fun _=>False
abbrev TS':=Ends'→Sts→Prop
def zuK (K:PySem.W.Frag) (n:Nat) (W:Wd) (Hi:Hp) (σ:St) (Q:D→Sts→Prop):VK:=fun v H'=>∃ Hi' d Γ',zaX Hi Hi'∧Good K n W Hi' Γ' σ H'∧Den K Hi' v d∧Q d Γ'
def tOf (K:PySem.W.Frag) (n:Nat) (t:TE'):TE:=fun σ H Q2=>∃ W Hi Γ Q,Good K n W Hi Γ σ H∧t Γ Q∧∀ v H',zuK K n W Hi σ Q v H'→Q2 v H'
def zqQ (K:PySem.W.Frag) (n:Nat) (t:TT'):TT:=fun σ H Q2=>∃ W Hi Γ Q,Good K n W Hi Γ σ H∧t Γ Q∧∀ b H' Hi' Γ',zaX Hi Hi'→Good K n W Hi' Γ' σ H'→Q b Γ'→Q2 b H'
def zty (K:PySem.W.Frag) (n:Nat) (t:TA'):TA:=fun σ H Q2=>∃ W Hi Γ Q,Good K n W Hi Γ σ H∧t Γ Q∧∀ vs H' Hi' Γ' ds,zaX Hi Hi'→Good K n W Hi' Γ' σ H'→zbU K Hi' vs ds→Q ds Γ'→Q2 vs H'
structure New (K:PySem.W.Frag) (n:Nat) (W:Wd) (Hi:Hp) (Γ:Sts) (σ:St) (H:Hp) (a:Addr) (o:OD):Prop where
  hi:Hi a=none
  h0:W.H₀ a=none
  ne:Free n W Γ σ a
  own:zbY K Hi H a o
def oOf (K:PySem.W.Frag) (n:Nat) (t:TO'):TE:=fun σ H Q2=>∃ W Hi Γ Q,Good K n W Hi Γ σ H∧t Γ Q∧∀ a H' Hi' Γ' o,zaX Hi Hi'→Good K n W Hi' Γ' σ H'→New K n W Hi' Γ' σ H' a o→Q o Γ'→Q2 (.ref a) H'
def gOf (K:PySem.W.Frag) (n:Nat) (g:TG'):TG:=fun v σ H Q2=>∃ W Hi Γ d Q,Good K n W Hi Γ σ H∧Den K Hi v d∧g d Γ Q∧∀ σ' H' Hi' Γ',zaX Hi Hi'→Good K n W Hi' Γ' σ' H'→Q Γ'→Q2 σ' H'
def zqL (K:PySem.W.Frag) (H₀ Hi H:Hp) (v:V):Res→Prop
  | .val d=>Den K Hi v d
  | .own o=>∃ a,v=.ref a∧Hi a=none∧H₀ a=none∧zbY K Hi H a o
  | .bk d o=>∃ b,Den K Hi v (d (.adr b))∧Hol K d∧Hi b=none∧H₀ b=none∧zbY K Hi H b o
structure Lifts (K:PySem.W.Frag) (n:Nat) (W:Wd) (Hi:Hp) (N:Ends') (N2:Ends):Prop where
  nx:∀ σ' H' Hi' Γ',zaX Hi Hi'→Good K n W Hi' Γ' σ' H'→N.nx Γ'→N2.nx σ' H'
  bk:∀ σ' H' Hi' Γ',zaX Hi Hi'→Good K n W Hi' Γ' σ' H'→N.bk Γ'→N2.bk σ' H'
  ct:∀ σ' H' Hi' Γ',zaX Hi Hi'→Good K n W Hi' Γ' σ' H'→N.ct Γ'→N2.ct σ' H'
  rt:∀ v σ' H' Hi' Γ' r,zaX Hi Hi'→Good K n W Hi' Γ' σ' H'→zqL K W.H₀ Hi' H' v r→N.rt r Γ'→N2.rt v H'
theorem Lifts.mono {K:PySem.W.Frag} {n:Nat} {W:Wd} {Hi Hi':Hp} {N:Ends'} {N2:Ends} (l:Lifts K n W Hi N N2) (s:zaX Hi Hi'):Lifts K n W Hi' N N2 :=
  ⟨fun σ' H' Hi2 Γ' e=>l.nx σ' H' Hi2 Γ' (s.trans e),fun σ' H' Hi2 Γ' e=>l.bk σ' H' Hi2 Γ' (s.trans e),fun σ' H' Hi2 Γ' e=>l.ct σ' H' Hi2 Γ' (s.trans e),fun v σ' H' Hi2 Γ' r e=>l.rt v σ' H' Hi2 Γ' r (s.trans e)⟩
def sOf (K:PySem.W.Frag) (n:Nat) (t:TS'):TS:=fun N2 σ H=>∃ W Hi Γ N,Good K n W Hi Γ σ H∧t N Γ∧Lifts K n W Hi N N2
def ItD (K:PySem.W.Frag) (Hi:Hp) (J:It) (ds:List D):Prop:=∀ Hi' H',zaX Hi Hi'→Fz Hi' H' →
  (∀ (i:Nat) d,ds[i]?=some d→J.go i H'∧∀ x H'',J.yld i H' x H''→∃ Hi'',Ext Hi' H' Hi'' H''∧Den K Hi'' x d)∧J.stop ds.length H'
def iOf (K:PySem.W.Frag) (n:Nat) (t:TI'):TI:=fun σ H R=>∃ W Hi Γ Q,Good K n W Hi Γ σ H∧t Γ Q∧∀ J H' Hi' Γ' ds,zaX Hi Hi'→Good K n W Hi' Γ' σ H'→ItD K Hi' J ds→Q ds Γ'→R J H'
structure PE' (X:Cx) (e:Expr) (t:TE'):Prop where
  h:PE X e (tOf X.K X.N.length t)
structure PO' (X:Cx) (e:Expr) (t:TO'):Prop where
  h:PE X e (oOf X.K X.N.length t)
structure PT' (X:Cx) (e:Expr) (t:TT'):Prop where
  h:PT X e (zqQ X.K X.N.length t)
structure PW' (X:Cx) (e:Expr) (t:TT'):Prop where
  h:PW X e (zqQ X.K X.N.length t)
def zdS:Expr→Bool
  | .Starred _ _=>true
  | _=>false
def zcG:List Expr→Bool
  | []=>true
  | e :: es=>!zdS e && zcG es
theorem zaU {e:Expr} {es:List Expr} {env:Env} (h:zdS e=false):starEach (e :: es) env=(false,eval e env) :: starEach es env:=by
  cases e <;> first | rfl | (exact absurd (show true=false from h) Bool.noConfusion)
theorem zbG {pos:Pos} {env:Env}:∀ {es:List Expr},zcG es=true→(backTo pos (starEach es env)).any (·.1)=false
  | [],_=>rfl
  | e :: es,h=>by
    have h1:zdS e=false∧zcG es=true:=by
      unfold zcG at h
      simpa using h
    rw [zaU h1.1]
    show (false || (backTo pos (starEach es env)).any (·.1))=false
    rw [zbG h1.2]; rfl
theorem za1 {e:Expr} {es:List Expr} (h:zcG (e :: es)=true):zdS e=false∧zcG es=true:=by
  unfold zcG at h
  simpa using h
structure PA' (X:Cx) (es:List Expr) (t:TA'):Prop where
  pa:PA X es (zty X.K X.N.length t)
  pl:zcG es=true
structure PS' (X:Cx) (s:Stmt) (t:TS'):Prop where
  h:PS X s (sOf X.K X.N.length t)
structure PSs' (X:Cx) (s:List Stmt) (t:TS'):Prop where
  h:PSs X s (sOf X.K X.N.length t)
structure PG' (X:Cx) (tg:Expr) (g:TG'):Prop where
  h:PG X tg (gOf X.K X.N.length g)
structure PI' (X:Cx) (tg iter:Expr) (t:TI'):Prop where
  h:PI X tg iter (iOf X.K X.N.length t)
section
variable {X:Cx}
theorem PE.weak {e:Expr} {t t2:TE} (h:PE X e t) (w:∀ σ H Q,t2 σ H Q→t σ H Q):PE X e t2:=fun pins s σ H Q I q=>h pins s σ H Q I (w _ _ _ q)
theorem PT.weak {e:Expr} {t t2:TT} (h:PT X e t) (w:∀ σ H Q,t2 σ H Q→t σ H Q):PT X e t2:=fun pins s σ H Q I q=>h pins s σ H Q I (w _ _ _ q)
theorem PW.weak {e:Expr} {t t2:TT} (h:PW X e t) (w:∀ σ H Q,t2 σ H Q→t σ H Q):PW X e t2:=fun wh pins s σ H Q I q=>h wh pins s σ H Q I (w _ _ _ q)
theorem PA.weak {es:List Expr} {t t2:TA} (h:PA X es t) (w:∀ σ H Q,t2 σ H Q→t σ H Q):PA X es t2:=fun pos pins s σ H Q I q=>h pos pins s σ H Q I (w _ _ _ q)
theorem PS.weak {st:Stmt} {t t2:TS} (h:PS X st t) (w:∀ N σ H,t2 N σ H→t N σ H):PS X st t2:=fun pins s σ H N I q=>h pins s σ H N I (w _ _ _ q)
theorem PSs.weak {st:List Stmt} {t t2:TS} (h:PSs X st t) (w:∀ N σ H,t2 N σ H→t N σ H):PSs X st t2:=fun pins s σ H N I q=>h pins s σ H N I (w _ _ _ q)
theorem PG.weak {tg:Expr} {t t2:TG} (h:PG X tg t) (w:∀ v σ H Q,t2 v σ H Q→t v σ H Q):PG X tg t2:=fun pins s σ H v u Q I r q=>h pins s σ H v u Q I r (w _ _ _ _ q)
theorem PI.weak {tg iter:Expr} {t t2:TI} (h:PI X tg iter t) (w:∀ σ H Q,t2 σ H Q→t σ H Q):PI X tg iter t2:=fun pins s σ H Q I q=>h pins s σ H Q I (w _ _ _ q)
def zQ (i:Nat):TE':=fun Γ Q=>∃ d,Γ[i]?=some (.val d)∧Q d Γ
def tC' (d:D):TE':=fun Γ Q=>Q d Γ
theorem pv' (i:Nat) {x:Str} {pos:Pos} (hN:X.N[i]?=some x:=by rfl) (hv:Vis X.env.scope x:=by first | exact Or.inl rfl | exact Or.inr (Or.inl rfl) | exact Or.inr (Or.inr rfl)) (hd:(x == ("__debug__":Str))=false:=by decide)
    (hcd:(x == ("__classdict__":Str))=false:=by decide):PE' X (.Name x pos) (zQ i):=by
  refine ⟨PE.weak (zcS (i:=i) hN hv hd hcd) ?_⟩
  rintro σ H Q ⟨W,Hi,Γ,Q',g,⟨d,e,q⟩,fin⟩
  obtain ⟨v,h1,h2⟩:=g.val i d e; exact ⟨v,h1,fin v H ⟨Hi,d,Γ,zaX.refl _,g,h2,q⟩⟩
theorem ziF {e:Expr} {v:V} {d:D} (h:PE X e (tC v)) (r:∀ Hi,Den X.K Hi v d):PE' X e (tC' d):=by
  refine ⟨PE.weak h ?_⟩
  rintro σ H Q ⟨W,Hi,Γ,Q',g,q,fin⟩
  exact fin v H ⟨Hi,d,Γ,zaX.refl _,g,r Hi,q⟩
theorem ze {i j pos}:PE' X (.Constant (.int i) j pos) (tC' (.int i)):=ziF zov fun _=>.int i
theorem zeS {b j pos}:PE' X (.Constant (.bool b) j pos) (tC' (.bl b)):=ziF zt3 fun _=>.bl b
theorem zbA {j pos}:PE' X (.Constant .none j pos) (tC' .non):=ziF zrS fun _=>.non
theorem zbK (l:List Nat) {x j pos} (h:x=st l:=by decide +kernel):PE' X (.Constant (.str x) j pos) (tC' (.str l)):=by
  subst h
  exact ziF zrQ fun _=>.str l
theorem zrV {x:Str} {v:V} {u:Value} {d:D} {pos:Pos} (hm:X.mg x=some u) (r:zby v u) (rd:∀ Hi,Den X.K Hi v d) (hg:Gl X x:=by rfl) (hd:(x == ("__debug__":Str))=false:=by decide):PE' X (.Name x pos) (tC' d):=ziF (ziC hg hm r hd) rd
theorem zrU {x:Str} {l:List Nat} {t:Tok} {pos:Pos} (hm:X.mg x=some (.str (st l) t)) (hg:Gl X x:=by rfl) (hd:(x == ("__debug__":Str))=false:=by decide):PE' X (.Name x pos) (tC' (.str l)):=zrV (v:=.str (st l)) hm ⟨_,rfl⟩ (fun _=>.str l) hg hd
theorem zot {x:Str} {c:String} {pos:Pos} (hm:X.mg x=none) (hv:bootBuiltins x=some (.type c)) (hg:Gl X x:=by rfl) (hn:x≠"__name__":=by decide) (hd:(x == ("__debug__":Str))=false:=by decide):PE' X (.Name x pos) (tC' (.ty c)) :=
  ziF (zpP (v:=.ty c) hg hm hv rfl hn hd) fun _=>.ty c
def za9 (t:TO'):TE':=fun Γ Q=>t Γ fun o Γ1=>Q o.toD Γ1
theorem zb4 {e:Expr} {t:TO'} (h:PO' X e t):PE' X e (za9 t):=by
  refine ⟨PE.weak h.h ?_⟩
  rintro σ H Q ⟨W,Hi,Γ,Q',g,q,fin⟩
  refine ⟨W,Hi,Γ,_,g,q,?_⟩; intro a H' Hi' Γ' o s1 g1 nw q1; obtain ⟨u,hu⟩:=nw.own.there; exact fin _ _ ⟨upd Hi' a u,_,Γ',s1.trans (zba nw.hi u),g1.freezeA nw.hi nw.h0 nw.ne hu,nw.own.den nw.hi hu,q1⟩
abbrev R2':=D→D→(D→Prop)→Prop
def zkU (K:PySem.W.Frag) (r:R2) (r':R2'):Prop:=∀ (Hi H:Hp) (x y:V) (dx dy:D) (Q:D→Prop) (Q2:VK),Fz Hi H→Den K Hi x dx→Den K Hi y dy→r' dx dy Q→(∀ Hi' H' v d,Ext Hi H Hi' H'→Den K Hi' v d→Q d→Q2 v H')→r x y H Q2
def zaR (r:R2') (ta tb:TE'):TE':=fun Γ Q=>ta Γ fun x Γ1=>tb Γ1 fun y Γ2=>r x y fun d=>Q d Γ2
theorem zjv {K:PySem.W.Frag} {n:Nat} {r:R2} {r':R2'} {ta tb:TE'} {σ:St} {H:Hp} {Q:VK} (l:zkU K r r') (h:tOf K n (zaR r' ta tb) σ H Q):tOp r (tOf K n ta) (tOf K n tb) σ H Q:=by
  obtain ⟨W,Hi,Γ,Q',g,h,fin⟩:=h; refine ⟨W,Hi,Γ,_,g,h,?_⟩
  rintro x H1 ⟨Hi1,dx,Γ1,s1,g1,den1,h1⟩
  refine ⟨W,Hi1,Γ1,_,g1,h1,?_⟩
  rintro y H2 ⟨Hi2,dy,Γ2,s2,g2,den2,h2⟩
  refine l Hi2 H2 x y dx dy _ _ g2.fz (den1.mono s2) den2 h2 ?_
  rintro Hi3 H3 v d e den q
  exact fin v H3 ⟨Hi3,d,Γ2,s1.trans (s2.trans e.hi),g2.ext e,den,q⟩
structure Op2 (X:Cx) (f:Value→Value→Sem Value) (r':R2'):Prop where
  ex:∃ r,OpR X f r∧zkU X.K r r'
theorem Op2.or {f:Value→Value→Sem Value} {r r':R2'} (h:Op2 X f r) (h':Op2 X f r'):Op2 X f (fun x y Q=>r x y Q∨r' x y Q):=by
  obtain ⟨a,ha,la⟩:=h.ex; obtain ⟨b,hb,lb⟩:=h'.ex
  refine ⟨_,ha.or hb,fun Hi H x y dx dy Q Q2 s d1 d2 q fin=>?_⟩
  rcases q with q | q
  · exact .inl (la Hi H x y dx dy Q Q2 s d1 d2 q fin)
  · exact .inr (lb Hi H x y dx dy Q Q2 s d1 d2 q fin)
theorem zS {a b:Expr} {op:Operator} {r':R2'} {ta tb:TE'} {pos:Pos} (h:Op2 X (binaryOp op) r') (ha:PE' X a ta) (hb:PE' X b tb):PE' X (.BinOp a op b pos) (zaR r' ta tb):=by
  obtain ⟨r,ho,l⟩:=h.ex
  exact ⟨PE.weak (zpK ho ha.h hb.h) fun σ H Q q=>zjv l q⟩
theorem zgP {a b:Expr} {op:CmpOp} {r':R2'} {ta tb:TE'} {pos:Pos} (h:Op2 X (compareOp op) r') (ha:PE' X a ta) (hb:PE' X b tb) (hm:behindInMarks op b=false:=by first | exact zoz _ | rfl):PE' X (.Compare a [op] [b] pos) (zaR r' ta tb):=by
  obtain ⟨r,ho,l⟩:=h.ex
  exact ⟨PE.weak (zpO ho ha.h hb.h hm) fun σ H Q q=>zjv l q⟩
def tB' (t:TE'):TT':=fun Γ Q=>t Γ fun d Γ1=>∃ b,d=.bl b∧Q b Γ1
theorem zrf {K:PySem.W.Frag} {n:Nat} {t:TE'} {σ:St} {H:Hp} {Q:Bool→Hp→Prop} (h:zqQ K n (tB' t) σ H Q):tOf K n t σ H fun x H1=>∃ c,x=.bl c∧Q c H1:=by
  obtain ⟨W,Hi,Γ,Q',g,h,fin⟩:=h; refine ⟨W,Hi,Γ,_,g,h,?_⟩
  rintro x H1 ⟨Hi1,dx,Γ1,s1,g1,den1,b,rfl,h1⟩
  exact ⟨b,den1.blI,fin b H1 Hi1 Γ1 s1 g1 h1⟩
theorem zeE {e:Expr} {t:TE'} (h:PE' X e t) (he:∀ whole,isTrue e X.env whole=(do let v ← whole; standAt e.pos; holding [v] (truthy v)):=by intro _; rfl):PT' X e (tB' t) :=
  ⟨PT.weak (zrH h.h he) fun σ H Q q=>zrf q⟩
theorem zU {a b:Expr} {op:CmpOp} {r':R2'} {ta tb:TE'} {pos:Pos} (h:Op2 X (compareOp op) r') (ha:PE' X a ta) (hb:PE' X b tb) (hm:behindInMarks op b=false:=by first | exact zoz _ | rfl):PT' X (.Compare a [op] [b] pos) (tB' (zaR r' ta tb)):=by
  obtain ⟨r,ho,l⟩:=h.ex
  exact ⟨PT.weak (zpw ho ha.h hb.h hm) fun σ H Q q=>zjv l (zrf q)⟩
def zam (t u:TT'):TT':=fun Γ Q=>t Γ fun c Γ1=>if c=true then u Γ1 Q else Q false Γ1
def zbf (t u:TT'):TT':=fun Γ Q=>t Γ fun c Γ1=>if c=true then Q true Γ1 else u Γ1 Q
def zaq (t:TT'):TT':=fun Γ Q=>t Γ fun c Γ1=>Q (!c) Γ1
variable {a b c:Expr} {tA tB2:TT'} {ze3:List Expr} {pos:Pos} {ta tb:TE'}
theorem zeb (ha:PT' X a tA):PW' X (.BoolOp .And [a] pos) tA:=⟨zpq ha.h⟩
theorem zds (ha:PT' X a tA):PW' X (.BoolOp .Or [a] pos) tA:=⟨zrE ha.h⟩
theorem zd3 (ha:PT' X a tA) (hb:PW' X (.BoolOp .And (b :: ze3) pos) tB2):PW' X (.BoolOp .And (a :: b :: ze3) pos) (zam tA tB2):=by
  refine ⟨PW.weak (zrF ha.h hb.h) ?_⟩
  rintro σ H Q ⟨W,Hi,Γ,Q',g,h,fin⟩
  refine ⟨W,Hi,Γ,_,g,h,?_⟩; intro k H1 Hi1 Γ1 s1 g1 h1
  cases k with
  | true=>exact ⟨W,Hi1,Γ1,_,g1,h1,fun b H2 Hi2 Γ2 s2 g2 q=>fin b H2 Hi2 Γ2 (s1.trans s2) g2 q⟩
  | false=>exact fin false H1 Hi1 Γ1 s1 g1 h1
theorem zeR (ha:PT' X a tA) (hb:PW' X (.BoolOp .Or (b :: ze3) pos) tB2):PW' X (.BoolOp .Or (a :: b :: ze3) pos) (zbf tA tB2):=by
  refine ⟨PW.weak (ztW ha.h hb.h) ?_⟩
  rintro σ H Q ⟨W,Hi,Γ,Q',g,h,fin⟩
  refine ⟨W,Hi,Γ,_,g,h,?_⟩; intro k H1 Hi1 Γ1 s1 g1 h1
  cases k with
  | false=>exact ⟨W,Hi1,Γ1,_,g1,h1,fun b H2 Hi2 Γ2 s2 g2 q=>fin b H2 Hi2 Γ2 (s1.trans s2) g2 q⟩
  | true=>exact fin true H1 Hi1 Γ1 s1 g1 h1
theorem PW'.pt {e:Expr} {t:TT'} (h:PW' X e t):PT' X e t:=⟨h.h _⟩
theorem zln (ha:PT' X a tA):PT' X (.UnaryOp .Not a pos) (zaq tA):=by
  refine ⟨PT.weak (zrI ha.h) ?_⟩
  rintro σ H Q ⟨W,Hi,Γ,Q',g,h,fin⟩
  exact ⟨W,Hi,Γ,_,g,h,fun k H1 Hi1 Γ1 s1 g1 h1=>fin _ H1 Hi1 Γ1 s1 g1 h1⟩
def zI (ta tb:TE'):TE':=fun Γ Q=>ta Γ fun x Γ1=>∃ c,x=.bl c∧if c=true then tb Γ1 Q else Q (.bl false) Γ1
def zay (ta tb:TE'):TE':=fun Γ Q=>ta Γ fun x Γ1=>∃ c,x=.bl c∧if c=true then Q (.bl true) Γ1 else tb Γ1 Q
def zM (ta:TE'):TE':=fun Γ Q=>ta Γ fun x Γ1=>∃ c,x=.bl c∧Q (.bl (!c)) Γ1
theorem zlz {op} (h:PE' X a ta):PE' X (.BoolOp op [a] pos) ta:=⟨zrR h.h⟩
theorem zlB (ha:PE' X a ta) (hb:PE' X (.BoolOp .And (b :: ze3) pos) tb):PE' X (.BoolOp .And (a :: b :: ze3) pos) (zI ta tb):=by
  refine ⟨PE.weak (zrW ha.h hb.h) ?_⟩
  rintro σ H Q ⟨W,Hi,Γ,Q',g,h,fin⟩
  refine ⟨W,Hi,Γ,_,g,h,?_⟩
  rintro x H1 ⟨Hi1,dx,Γ1,s1,g1,den1,k,rfl,h1⟩
  refine ⟨k,den1.blI,?_⟩
  cases k with
  | true=>exact ⟨W,Hi1,Γ1,_,g1,h1,fun v H2 ⟨Hi2,d,Γ2,s2,g2,d2,q⟩=>fin v H2 ⟨Hi2,d,Γ2,s1.trans s2,g2,d2,q⟩⟩
  | false=>exact fin _ H1 ⟨Hi1,_,Γ1,s1,g1,.bl false,h1⟩
def zbj (t:TT') (ta tb:TE'):TE':=fun Γ Q=>t Γ fun c Γ1=>if c=true then ta Γ1 Q else tb Γ1 Q
theorem zow (hc:PT' X c tA) (ha:PE' X a ta) (hb:PE' X b tb):PE' X (.IfExp c a b pos) (zbj tA ta tb):=by
  refine ⟨PE.weak (zgO hc.h ha.h hb.h) ?_⟩
  rintro σ H Q ⟨W,Hi,Γ,Q',g,h,fin⟩
  refine ⟨W,Hi,Γ,_,g,h,?_⟩; intro k H1 Hi1 Γ1 s1 g1 h1
  cases k with
  | true=>exact ⟨W,Hi1,Γ1,_,g1,h1,fun v H2 ⟨Hi2,d,Γ2,s2,g2,d2,q⟩=>fin v H2 ⟨Hi2,d,Γ2,s1.trans s2,g2,d2,q⟩⟩
  | false=>exact ⟨W,Hi1,Γ1,_,g1,h1,fun v H2 ⟨Hi2,d,Γ2,s2,g2,d2,q⟩=>fin v H2 ⟨Hi2,d,Γ2,s1.trans s2,g2,d2,q⟩⟩
def zac:TA':=fun Γ Q=>Q [] Γ
def zv (ta:TE') (tr:TA'):TA':=fun Γ Q=>ta Γ fun x Γ1=>tr Γ1 fun xs Γ2=>Q (x :: xs) Γ2
theorem zc:PA' X [] zac:=by
  refine ⟨PA.weak zhG ?_,rfl⟩
  rintro σ H Q ⟨W,Hi,Γ,Q',g,h,fin⟩
  exact fin [] H Hi Γ [] (zaX.refl _) g .nil h
theorem za {e:Expr} {es:List Expr} {te:TE'} {t:TA'} (ha:PE' X e te) (hr:PA' X es t) (hs:zdS e=false:=by rfl):PA' X (e :: es) (zv te t):=by
  refine ⟨PA.weak (zdv ha.h hr.pa (zaU hs)) ?_,by unfold zcG; rw [hs,hr.pl]; rfl⟩
  rintro σ H Q ⟨W,Hi,Γ,Q',g,h,fin⟩
  refine ⟨W,Hi,Γ,_,g,h,?_⟩
  rintro x H1 ⟨Hi1,dx,Γ1,s1,g1,den1,h1⟩
  refine ⟨W,Hi1,Γ1,_,g1,h1,?_⟩; intro vs H2 Hi2 Γ2 ds s2 g2 dl q; exact fin (x :: vs) H2 Hi2 Γ2 (dx :: ds) (s1.trans s2) g2 (.cons (den1.mono s2) dl) q
def zae (t:TA'):TE':=fun Γ Q=>t Γ fun ds Γ1=>ds.length≤sizeLine∧Q (.tup ds) Γ1
theorem zaI {es:List Expr} {t:TA'} {x1} (h:PA' X es t):PE' X (.Tuple es x1 pos) (zae t):=by
  refine ⟨PE.weak (zou h.pa) ?_⟩
  rintro σ H Q ⟨W,Hi,Γ,Q',g,h,fin⟩
  refine ⟨W,Hi,Γ,_,g,h,?_⟩
  rintro vs H1 Hi1 Γ1 ds s1 g1 dl ⟨hl,q⟩
  refine ⟨by rw [zi dl]; exact hl,fun p hp=>?_⟩
  have e:=Ext.new g1.fz hp (.tup vs); exact fin _ _ ⟨_,_,Γ1,s1.trans e.hi,g1.ext e,Den.mkT zP (dl.mono e.hi),q⟩
theorem New.mk' {K:PySem.W.Frag} {n:Nat} {W:Wd} {Hi H:Hp} {Γ:Sts} {σ:St} {p:Addr} {u:HO} {o:OD} (g:Good K n W Hi Γ σ H) (hp:H p=none) (own:zbY K Hi (upd H p u) p o):New K n W Hi Γ σ (upd H p u) p o:=by
  refine ⟨g.sub.free hp,?_,⟨fun j o' e z=>?_,fun j d xs e=>?_⟩,own⟩
  · cases q:W.H₀ p with
    | none=>rfl
    | some w =>
      obtain ⟨w',hw⟩:=g.there p w q
      rw [hp] at hw; cases hw
  · obtain ⟨a,h1,_,_,h4⟩:=g.own j o' e
    rw [z] at h1; cases h1; obtain ⟨w,hw⟩:=h4.there
    rw [hp] at hw; cases hw
  · obtain ⟨w,hw⟩:=(g.bk j d p xs e).at_.there
    rw [hp] at hw; cases hw
def zah (t:TA'):TO':=fun Γ Q=>t Γ fun ds Γ1=>ds.length≤sizeLine∧Q (.lst ds) Γ1
theorem zb3 {es:List Expr} {t:TA'} (h:PA' X es t):PO' X (.List es pos) (zah t):=by
  refine ⟨PE.weak (zrT h.pa) ?_⟩
  rintro σ H Q ⟨W,Hi,Γ,Q',g,h,fin⟩
  refine ⟨W,Hi,Γ,_,g,h,?_⟩
  rintro vs H1 Hi1 Γ1 ds s1 g1 dl ⟨hl,q⟩
  refine ⟨by rw [zi dl]; exact hl,fun p hp=>?_⟩
  exact fin p _ Hi1 Γ1 (.lst ds) s1 (g1.ext (Ext.newO g1.fz hp _ (fun _ z=>by cases z))) (New.mk' g1 hp ⟨vs,zP,dl⟩) q
abbrev RC':=List D→(D→Prop)→Prop
def zsO (K:PySem.W.Frag) (r:List V→Hp→VK→Prop) (r':RC'):Prop:=∀ (Hi H:Hp) (vs:List V) (ds:List D) (Q:D→Prop) (Q2:VK),Fz Hi H→zbU K Hi vs ds→r' ds Q→(∀ Hi' H' v d,Ext Hi H Hi' H'→Den K Hi' v d→Q d→Q2 v H')→r vs H Q2
structure Cal (X:Cx) (f:Value) (r':RC'):Prop where
  ex:∃ r,zdh X f r∧zsO X.K r r'
theorem Cal.or {f:Value} {r r':RC'} (h:Cal X f r) (h':Cal X f r'):Cal X f (fun x Q=>r x Q∨r' x Q):=by
  obtain ⟨a,ha,la⟩:=h.ex; obtain ⟨b,hb,lb⟩:=h'.ex
  refine ⟨_,ha.or hb,fun Hi H vs ds Q Q2 s d q fin=>?_⟩
  rcases q with q | q
  · exact .inl (la Hi H vs ds Q Q2 s d q fin)
  · exact .inr (lb Hi H vs ds Q Q2 s d q fin)
def zbb (r:RC') (t:TA'):TE':=fun Γ Q=>t Γ fun ds Γ1=>r ds fun d=>Q d Γ1
theorem zom {K:PySem.W.Frag} {n:Nat} {r:List V→Hp→VK→Prop} {r':RC'} {t:TA'} {σ:St} {H:Hp} {Q:VK} (l:zsO K r r') (h:tOf K n (zbb r' t) σ H Q):tCB r (zty K n t) σ H Q:=by
  obtain ⟨W,Hi,Γ,Q',g,h,fin⟩:=h; refine ⟨W,Hi,Γ,_,g,h,?_⟩; intro vs H1 Hi1 Γ1 ds s1 g1 dl h1; refine l Hi1 H1 vs ds _ _ g1.fz dl h1 ?_; intro Hi2 H2 v d e den q; exact fin v H2 ⟨Hi2,d,Γ1,s1.trans e.hi,g1.ext e,den,q⟩
variable {x:Str} {p:Pos} {e:Expr} {es:List Expr} {t:TA'} {id T:String}
theorem zaN {r':RC'} (hc:Cal X (.builtin id) r') (hm:X.mg x=none) (hv:bootBuiltins x=some (.builtin id)) (ha:PA' X (e :: es) t) (hg:Gl X x:=by rfl) (hn:x≠"__name__":=by decide) (hdb:(x == ("__debug__":Str))=false:=by decide):PE' X (.Call (.Name x p) (e :: es) [] pos) (zbb r' t):=by
  obtain ⟨r,ho,l⟩:=hc.ex; obtain ⟨p1,p2⟩:=za1 ha.pl
  exact ⟨PE.weak (znf ho hg hm hv ha.pa hn hdb (zaU p1) (zbG p2)) fun σ H Q q=>zom l q⟩
theorem zbv {r':RC'} (hc:Cal X (.type T) r') (hm:X.mg x=none) (hv:bootBuiltins x=some (.type T)) (ha:PA' X (e :: es) t) (hg:Gl X x:=by rfl) (hn:x≠"__name__":=by decide) (hdb:(x == ("__debug__":Str))=false:=by decide):PE' X (.Call (.Name x p) (e :: es) [] pos) (zbb r' t):=by
  obtain ⟨r,ho,l⟩:=hc.ex; obtain ⟨p1,p2⟩:=za1 ha.pl
  exact ⟨PE.weak (zhF ho hg hm hv ha.pa hn hdb (zaU p1) (zbG p2)) fun σ H Q q=>zom l q⟩
end
end PL
namespace PL
open PySem L2
section
variable {X:Cx} {a b c:Expr} {pos:Pos} {ta tb:TE'}
structure Ixs (X:Cx) (r':R2'):Prop where
  ex:∃ r,IxR X r∧zkU X.K r r'
theorem Ixs.or {r r':R2'} (h:Ixs X r) (h':Ixs X r'):Ixs X (fun x y Q=>r x y Q∨r' x y Q):=by
  obtain ⟨a,ha,la⟩:=h.ex; obtain ⟨b,hb,lb⟩:=h'.ex
  refine ⟨_,ha.or hb,fun Hi H x y dx dy Q Q2 s d1 d2 q fin=>?_⟩
  rcases q with q | q
  · exact .inl (la Hi H x y dx dy Q Q2 s d1 d2 q fin)
  · exact .inr (lb Hi H x y dx dy Q Q2 s d1 d2 q fin)
theorem zT {r':R2'} (h:Ixs X r') (ha:PE' X a ta) (hb:PE' X b tb) (hs:zmw b:=by intro _ _; rfl):PE' X (.Subscript a b pos) (zaR r' ta tb):=by
  obtain ⟨r,ho,l⟩:=h.ex
  exact ⟨PE.weak (zt2 ho ha.h hb.h hs) fun σ H Q q=>zjv l q⟩
abbrev TP':=Sts→(Option Int→Sts→Prop)→Prop
def zvm (K:PySem.W.Frag) (n:Nat) (t:TP'):TO:=fun σ H Q2=>∃ W Hi Γ Q,Good K n W Hi Γ σ H∧t Γ Q∧∀ i H' Hi' Γ',zaX Hi Hi'→Good K n W Hi' Γ' σ H'→Q i Γ'→Q2 i H'
structure PB' (X:Cx) (e:Option Expr) (t:TP'):Prop where
  h:PO X e (zvm X.K X.N.length t)
def zag:TP':=fun Γ Q=>Q none Γ
def zbg (t:TE'):TP':=fun Γ Q=>t Γ fun d Γ1=>∃ i,d=.int i∧Q (some i) Γ1
theorem PO.weak {e:Option Expr} {t t2:TO} (h:PO X e t) (w:∀ σ H Q,t2 σ H Q→t σ H Q):PO X e t2:=fun pins s σ H Q I q=>h pins s σ H Q I (w _ _ _ q)
theorem zeH:PB' X none zag:=by
  refine ⟨PO.weak zpE ?_⟩
  rintro σ H Q ⟨W,Hi,Γ,Q',g,h,fin⟩
  exact fin none H Hi Γ (zaX.refl _) g h
theorem zdu {e:Expr} {te:TE'} (h:PE' X e te):PB' X (some e) (zbg te):=by
  refine ⟨PO.weak (zpD h.h) ?_⟩
  rintro σ H Q ⟨W,Hi,Γ,Q',g,h,fin⟩
  refine ⟨W,Hi,Γ,_,g,h,?_⟩
  rintro v H1 ⟨Hi1,d,Γ1,s1,g1,den,i,rfl,q⟩
  exact ⟨i,den.intI,fin _ H1 Hi1 Γ1 s1 g1 q⟩
abbrev RS':=D→Option Int→Option Int→(D→Prop)→Prop
def zuL (K:PySem.W.Frag) (r:V→Option Int→Option Int→Hp→VK→Prop) (r':RS'):Prop:=∀ (Hi H:Hp) (x:V) (dx:D) (lo hi:Option Int) (Q:D→Prop) (Q2:VK),Fz Hi H→Den K Hi x dx→r' dx lo hi Q→(∀ Hi' H' v d,Ext Hi H Hi' H'→Den K Hi' v d→Q d→Q2 v H')→r x lo hi H Q2
structure Sli (X:Cx) (r':RS'):Prop where
  ex:∃ r,SlR X r∧zuL X.K r r'
theorem Sli.or {r r':RS'} (h:Sli X r) (h':Sli X r'):Sli X (fun x lo hi Q=>r x lo hi Q∨r' x lo hi Q):=by
  obtain ⟨a,ha,la⟩:=h.ex; obtain ⟨b,hb,lb⟩:=h'.ex
  refine ⟨_,ha.or hb,fun Hi H x dx lo hi Q Q2 s d1 q fin=>?_⟩
  rcases q with q | q
  · exact .inl (la Hi H x dx lo hi Q Q2 s d1 q fin)
  · exact .inr (lb Hi H x dx lo hi Q Q2 s d1 q fin)
def zbe (r:RS') (te:TE') (tl th:TP'):TE':=fun Γ Q=>te Γ fun x Γ1=>tl Γ1 fun l Γ2=>th Γ2 fun u Γ3=>r x l u fun d=>Q d Γ3
theorem zcw {e:Expr} {lo hi:Option Expr} {p2:Pos} {te:TE'} {tl th:TP'} {r':RS'} (h:Sli X r') (he:PE' X e te) (hl:PB' X lo tl) (hu:PB' X hi th):PE' X (.Subscript e (.Slice lo hi none p2) pos) (zbe r' te tl th):=by
  obtain ⟨r,ho,l⟩:=h.ex; refine ⟨PE.weak (znd ho he.h hl.h hu.h) ?_⟩
  rintro σ H Q ⟨W,Hi,Γ,Q',g,h,fin⟩
  refine ⟨W,Hi,Γ,_,g,h,?_⟩
  rintro x H1 ⟨Hi1,dx,Γ1,s1,g1,den1,h1⟩
  refine ⟨W,Hi1,Γ1,_,g1,h1,?_⟩; intro i H2 Hi2 Γ2 s2 g2 h2; refine ⟨W,Hi2,Γ2,_,g2,h2,?_⟩; intro j H3 Hi3 Γ3 s3 g3 h3; refine l Hi3 H3 x dx i j _ _ g3.fz (den1.mono (s2.trans s3)) h3 ?_; intro Hi4 H4 v d e den q; exact fin v H4 ⟨Hi4,d,Γ3,s1.trans (s2.trans (s3.trans e.hi)),g3.ext e,den,q⟩
abbrev RM':=D→List D→(D→Prop)→Prop
def zuM (K:PySem.W.Frag) (T:String) (r:V→List V→Hp→VK→Prop) (r':RM'):Prop:=∀ (Hi H:Hp) (x:V) (vs:List V) (dx:D) (ds:List D) (Q:D→Prop) (Q2:VK),Fz Hi H→Den K Hi x dx→zbU K Hi vs ds→r' dx ds Q→(∀ Hi' H' v d,Ext Hi H Hi' H'→Den K Hi' v d→Q d→Q2 v H')→r x vs H Q2
def tyD (T:String):D→Prop
  | .str _=>T="str"
  | .int _=>T="int"
  | .lst _=>T="list"
  | _=>False
theorem zq7 {K:PySem.W.Frag} {Hi H:Hp} {x:V} {dx:D} (s:zaX Hi H) (den:Den K Hi x dx) (h:tyD T dx):tyV K T x H:=by
  cases den with
  | str l=>exact h
  | int i=>exact h
  | lst hq l r =>
    refine .inl ⟨h,_,zaK s hq⟩
  | _=>exact h.elim
structure Met (X:Cx) (T:String) (id:String) (r':RM'):Prop where
  ex:∃ r,MtR X id r∧zuM X.K T r r'
def zbk (T:String) (r:RM') (to:TE') (t:TA'):TE':=fun Γ Q=>to Γ fun x Γ1=>tyD T x∧t Γ1 fun ds Γ2=>r x ds fun d=>Q d Γ2
theorem zlA {o e:Expr} {es:List Expr} {to:TE'} {t:TA'} {name:Str} {apos cpos:Pos} {T id:String} {r':RM'} (h:Met X T id r') (pa:PlainAttrs T) (slot:PySem.Slot T name id) (hty:typeOf (.builtin id)=pure (.type "method_descriptor")) (ho:PE' X o to) (ha:PA' X (e :: es) t)
    (hbase:attributeBase o name X.env (eval o X.env)=eval o X.env:=by rfl) (hlen:(e :: es).length<30:=by decide)
    (hline:(apos.endLine == cpos.line)=true:=by rfl) :
    PE' X (.Call (.Attribute o name apos) (e :: es) [] cpos) (zbk T r' to t):=by
  obtain ⟨r,hm,l⟩:=h.ex; obtain ⟨p1,p2⟩:=za1 ha.pl
  have hfew:((backTo cpos (starEach (e :: es) X.env)).all (fun x=>!x.1) && (backToKw cpos (keywordEach [] X.env)).all (fun x=>x.1.isSome)
      && decide ((e :: es).length+([]:List Keyword).length+(if ([]:List Keyword).isEmpty then 0 else 1)<30))=true:=by
    have h1:(backTo cpos (starEach (e :: es) X.env)).all (fun x=>!x.1)=true:=by
      rw [List.all_eq_true]; intro y hy
      have:=zbG (pos:=cpos) (env:=X.env) ha.pl
      rw [List.any_eq_false] at this
      simpa using this y hy
    rw [h1,decide_eq_true (by simpa using hlen)]
    rfl
  refine ⟨PE.weak (znh pa slot hty hm ho.h ha.pa hbase hfew hline (zaU p1) (zbG p2)) ?_⟩
  rintro σ H Q ⟨W,Hi,Γ,Q',g,h,fin⟩
  refine ⟨W,Hi,Γ,_,g,h,?_⟩
  rintro x H1 ⟨Hi1,dx,Γ1,s1,g1,den1,ty,h1⟩
  refine ⟨zq7 g1.sub den1 ty,W,Hi1,Γ1,_,g1,h1,?_⟩; intro vs H2 Hi2 Γ2 ds s2 g2 dl h2; refine l Hi2 H2 x vs dx ds _ _ g2.fz (den1.mono s2) dl h2 ?_; intro Hi3 H3 v d e den q; exact fin v H3 ⟨Hi3,d,Γ2,s1.trans (s2.trans e.hi),g2.ext e,den,q⟩
def zr:TS':=fun N Γ=>N.nx Γ
def zab (t u:TS'):TS':=fun N Γ=>t { N with nx:=u N } Γ
theorem zaF:PSs' X [] zr:=by
  refine ⟨PSs.weak zpx ?_⟩
  rintro N2 σ H ⟨W,Hi,Γ,N,g,h,l⟩
  exact l.nx σ H Hi Γ (zaX.refl _) g h
theorem zd {s:Stmt} {ze3:List Stmt} {t u:TS'} (h1:PS' X s t) (h2:PSs' X ze3 u):PSs' X (s :: ze3) (zab t u):=by
  refine ⟨PSs.weak (zgI h1.h h2.h) ?_⟩
  rintro N2 σ H ⟨W,Hi,Γ,N,g,h,l⟩
  refine ⟨W,Hi,Γ,_,g,h,?_,l.bk,l.ct,l.rt⟩; intro σ1 H1 Hi1 Γ1 s1 g1 q; exact ⟨W,Hi1,Γ1,N,g1,q,l.mono s1⟩
theorem zh {s:Stmt} {t:TS'} (h1:PS' X s t):PSs' X [s] t:=⟨zgH h1.h⟩
def zW (te:TE'):TS':=fun N Γ=>te Γ fun d Γ1=>N.rt (.val d) Γ1
def zF (te:TO'):TS':=fun N Γ=>te Γ fun o Γ1=>N.rt (.own o) Γ1
theorem zR {e:Expr} {te:TE'} (he:PE' X e te):PS' X (.Return (some e) pos) (zW te):=by
  refine ⟨PS.weak (zjG he.h) ?_⟩
  rintro N2 σ H ⟨W,Hi,Γ,N,g,h,l⟩
  refine ⟨W,Hi,Γ,_,g,h,?_⟩
  rintro v H1 ⟨Hi1,d,Γ1,s1,g1,den,q⟩
  exact l.rt v σ H1 Hi1 Γ1 (.val d) s1 g1 den q
theorem zee {e:Expr} {te:TO'} (he:PO' X e te):PS' X (.Return (some e) pos) (zF te):=by
  refine ⟨PS.weak (zjG he.h) ?_⟩
  rintro N2 σ H ⟨W,Hi,Γ,N,g,h,l⟩
  refine ⟨W,Hi,Γ,_,g,h,?_⟩; intro a H1 Hi1 Γ1 o s1 g1 nw q; exact l.rt _ σ H1 Hi1 Γ1 (.own o) s1 g1 ⟨a,rfl,nw.hi,nw.h0,nw.own⟩ q
def zE (n i:Nat):TS':=fun N Γ=>i<n∧∃ o,Γ[i]?=some (.own o)∧N.rt (.own o) Γ
theorem zm3 (i:Nat) {x:Str} {p:Pos} (hN:X.N[i]?=some x:=by rfl) (hv:Vis X.env.scope x:=by first | exact Or.inl rfl | exact Or.inr (Or.inl rfl) | exact Or.inr (Or.inr rfl)) (hd:(x == ("__debug__":Str))=false:=by decide)
    (hcd:(x == ("__classdict__":Str))=false:=by decide):PS' X (.Return (some (.Name x p)) pos) (zE X.N.length i):=by
  refine ⟨PS.weak (zjG (zcS (i:=i) hN hv hd hcd)) ?_⟩
  rintro N2 σ H ⟨W,Hi,Γ,N,g,⟨hi,o,e,q⟩,l⟩
  obtain ⟨a,h1,h2,h3,h4⟩:=g.own i o e; unfold adr at h1; rw [if_pos hi] at h1; exact ⟨.ref a,zdH h1,l.rt _ σ H Hi Γ (.own o) (zaX.refl _) g ⟨a,rfl,h2,h3 hi,h4⟩ q⟩
def zY (c:TT') (t u:TS'):TS':=fun N Γ=>c Γ fun b Γ1=>if b=true then t N Γ1 else u N Γ1
theorem za2 {c:Expr} {sa sb:List Stmt} {tc:TT'} {t u:TS'} (hc:PT' X c tc) (ha:PSs' X sa t) (hb:PSs' X sb u):PS' X (.If c sa sb pos) (zY tc t u):=by
  refine ⟨PS.weak (ztX hc.h ha.h hb.h) ?_⟩
  rintro N2 σ H ⟨W,Hi,Γ,N,g,h,l⟩
  refine ⟨W,Hi,Γ,_,g,h,?_⟩; intro k H1 Hi1 Γ1 s1 g1 q
  cases k with
  | true=>exact ⟨W,Hi1,Γ1,N,g1,q,l.mono s1⟩
  | false=>exact ⟨W,Hi1,Γ1,N,g1,q,l.mono s1⟩
def zN (te:TE'):TS':=fun N Γ=>te Γ fun _ Γ1=>N.nx Γ1
def zp (i:Nat):TG':=fun d Γ Q=>Q (Γ.set i (.val d))
theorem zaL (i:Nat) {x:Str} (hN:X.N.Nodup) (hi:X.N[i]?=some x:=by rfl) (hx:Loc X.env.scope x:=by first | exact Or.inl rfl | exact Or.inr rfl) (hf:X.fn x=true∨X.env.scope.names.lookup x=some .local:=by first | exact .inl rfl | exact .inr rfl | assumption):PG' X (.Name x pos) (zp i):=by
  refine ⟨PG.weak (zpJ (i:=i) hN hi hx hf) ?_⟩
  rintro v σ H Q ⟨W,Hi,Γ,d,Q',g,den,q,fin⟩
  exact fin _ H Hi _ (zaX.refl _) (g.set (List.getElem?_eq_some_iff.mp hi).1 den) q
def zZ (te:TE') (g:TG'):TS':=fun N Γ=>te Γ fun d Γ1=>g d Γ1 N.nx
theorem zV (i:Nat) {x:Str} {e:Expr} {te:TE'} {pos':Pos} (hN:X.N.Nodup) (he:PE' X e te) (hi:X.N[i]?=some x:=by rfl) (hx:Loc X.env.scope x:=by first | exact Or.inl rfl | exact Or.inr rfl) (hs:swapsWith e (some (.Name x pos')) pos.line X.env=pure false:=by rfl)
    (hf:X.fn x=true∨X.env.scope.names.lookup x=some .local:=by first | exact .inl rfl | exact .inr rfl | assumption):PS' X (.Assign [.Name x pos'] e pos) (zZ te (zp i)):=by
  refine ⟨PS.weak (zop (i:=i) hN hi hx he.h hs hf) ?_⟩
  rintro N2 σ H ⟨W,Hi,Γ,N,g,h,l⟩
  refine ⟨W,Hi,Γ,_,g,h,?_⟩
  rintro v H1 ⟨Hi1,d,Γ1,s1,g1,den,q⟩
  exact l.nx _ H1 Hi1 _ s1 (g1.set (List.getElem?_eq_some_iff.mp hi).1 den) q
def zy (te:TO') (i:Nat):TS':=fun N Γ=>te Γ fun o Γ1=>N.nx (Γ1.set i (.own o))
theorem zb1 (i:Nat) {x:Str} {e:Expr} {te:TO'} {pos':Pos} (hN:X.N.Nodup) (he:PO' X e te) (hi:X.N[i]?=some x:=by rfl) (hx:Loc X.env.scope x:=by first | exact Or.inl rfl | exact Or.inr rfl) (hs:swapsWith e (some (.Name x pos')) pos.line X.env=pure false:=by rfl)
    (hf:X.fn x=true∨X.env.scope.names.lookup x=some .local:=by first | exact .inl rfl | exact .inr rfl | assumption):PS' X (.Assign [.Name x pos'] e pos) (zy te i):=by
  refine ⟨PS.weak (zop (i:=i) hN hi hx he.h hs hf) ?_⟩
  rintro N2 σ H ⟨W,Hi,Γ,N,g,h,l⟩
  refine ⟨W,Hi,Γ,_,g,h,?_⟩; intro a H1 Hi1 Γ1 o s1 g1 nw q; exact l.nx _ H1 Hi1 _ s1 (g1.setO (List.getElem?_eq_some_iff.mp hi).1 nw.hi nw.h0 nw.ne nw.own) q
def zim (g:TG') (tb:TS') (N:Ends'):List D→Sts→Prop
  | [],Γ=>N.nx Γ
  | d :: ds,Γ=>g d Γ fun Γ2=>tb { N with nx:=zim g tb N ds,ct:=zim g tb N ds,bk:=N.nx } Γ2
def zat (ti:TI') (g:TG') (tb:TS'):TS':=fun N Γ=>ti Γ fun ds Γ1=>zim g tb N ds Γ1
theorem zbS {tg iter:Expr} {body:List Stmt} {ti:TI'} {g:TG'} {tb:TS'} (hi:PI' X tg iter ti) (hg:PG' X tg g) (hb:PSs' X body tb) (hp:PassesOwn (model X.prog X.w) X.A X.env X.xe:=by exact PassesOwn.never) (hc:X.calm=true:=by rfl)
    (hs:∀ x,foldedSetIterable iter X.env x=pure x:=by intro _; rfl):PS' X (.For tg iter body [] pos) (zat ti g tb):=by
  refine ⟨PS.weak (zrJ hp hc hi.h hg.h hb.h hs) ?_⟩
  rintro N2 σ H ⟨W,Hi,Γ,N,gd,h,l⟩
  refine ⟨W,Hi,Γ,_,gd,h,?_⟩; intro J H1 Hi1 Γ1 ds s1 g1 itd q
  refine ⟨fun i m σ' H'=>m=ds.length-i∧i≤ds.length∧∃ Hi' Γ',zaX Hi1 Hi'∧Good X.K X.N.length W Hi' Γ' σ' H'∧zim g tb N (ds.drop i) Γ',⟨ds.length,by simp,Nat.zero_le _,Hi1,Γ1,zaX.refl _,g1,by simpa using q⟩,?_⟩
  rintro i m σ' H' ⟨rfl,hi',Hi',Γ',s2,g2,q2⟩
  have wk:=itd Hi' H' s2 g2.fz
  by_cases hlt:i<ds.length
  · have hd:ds.drop i=ds[i] :: ds.drop (i+1):=List.drop_eq_getElem_cons hlt
    rw [hd] at q2; obtain ⟨go,yl⟩:=wk.1 i ds[i] (List.getElem?_eq_getElem hlt)
    refine .inr ⟨go,fun σ3 H3=>∃ Hi3 Γ3,zaX Hi' Hi3∧Good X.K X.N.length W Hi3 Γ3 σ3 H3∧zim g tb N (ds.drop (i+1)) Γ3,fun σ3 H3 ⟨Hi3,Γ3,s3,g3,q3⟩=>⟨ds.length-(i+1),by omega,rfl,hlt,Hi3,Γ3,s2.trans s3,g3,q3⟩,fun x H'' y=>?_⟩
    obtain ⟨Hi'',ex,den⟩:=yl x H'' y; refine ⟨W,Hi'',Γ',ds[i],_,g2.ext ex,den,q2,?_⟩; intro σ4 H4 Hi4 Γ4 s4 g4 q4
    have sx:zaX Hi' Hi4:=ex.hi.trans s4
    refine ⟨W,Hi4,Γ4,_,g4,q4,?_⟩
    refine ⟨fun σ5 H5 Hi5 Γ5 s5 g5 q5=>⟨Hi5,Γ5,sx.trans s5,g5,q5⟩,fun σ5 H5 Hi5 Γ5 s5 g5 q5=>l.nx σ5 H5 Hi5 Γ5 (s1.trans (s2.trans (sx.trans s5))) g5 q5,fun σ5 H5 Hi5 Γ5 s5 g5 q5=>⟨Hi5,Γ5,sx.trans s5,g5,q5⟩,fun v σ5 H5 Hi5 Γ5 r s5 g5 ro q5=>l.rt v σ5 H5 Hi5 Γ5 r (s1.trans (s2.trans (sx.trans s5))) g5 ro q5⟩
  · have e:i=ds.length:=by omega
    subst e; rw [List.drop_eq_nil_of_le (Nat.le_refl _)] at q2; exact .inl ⟨wk.2,l.nx σ' H' Hi' Γ' (s1.trans s2) g2 q2⟩
def zk7 (c:TT') (tb:TS'):TS':=fun N Γ=>∃ Wv:Nat→Sts→Prop,(∃ m,Wv m Γ)∧∀ m Γ,Wv m Γ→c Γ fun b Γ1=>if b=true then tb { N with nx:=fun Γ2=>∃ m',m'<m∧Wv m' Γ2,ct:=fun Γ2=>∃ m',m'<m∧Wv m' Γ2,bk:=N.nx } Γ1 else N.nx Γ1
theorem zlp {c:Expr} {body:List Stmt} {tc:TT'} {tb:TS'} (hc:PT' X c tc) (hb:PSs' X body tb) (hp:PassesOwn (model X.prog X.w) X.A X.env X.xe:=by exact PassesOwn.never):PS' X (.While c body [] pos) (zk7 tc tb):=by
  refine ⟨PS.weak (zm2 hp hc.h hb.h) ?_⟩
  rintro N2 σ H ⟨W,Hi,Γ,N,gd,⟨Wv,⟨m0,w0⟩,turn⟩,l⟩
  refine ⟨fun m σ' H'=>∃ Hi' Γ',zaX Hi Hi'∧Good X.K X.N.length W Hi' Γ' σ' H'∧Wv m Γ',⟨m0,Hi,Γ,zaX.refl _,gd,w0⟩,?_⟩
  rintro m σ' H' ⟨Hi',Γ',s1,g1,w1⟩
  refine ⟨W,Hi',Γ',_,g1,turn m Γ' w1,?_⟩; intro k H1 Hi1 Γ1 s2 g2 q
  cases k with
  | false=>exact l.nx σ' H1 Hi1 Γ1 (s1.trans s2) g2 q
  | true =>
    refine ⟨fun σ3 H3=>∃ m',m'<m∧∃ Hi3 Γ3,zaX Hi Hi3∧Good X.K X.N.length W Hi3 Γ3 σ3 H3∧Wv m' Γ3,fun σ3 H3 z=>z,W,Hi1,Γ1,_,g2,q,?_⟩
    refine ⟨fun σ5 H5 Hi5 Γ5 s5 g5 ⟨m',hm,q5⟩=>⟨m',hm,Hi5,Γ5,s1.trans (s2.trans s5),g5,q5⟩,fun σ5 H5 Hi5 Γ5 s5 g5 q5=>l.nx σ5 H5 Hi5 Γ5 (s1.trans (s2.trans s5)) g5 q5,fun σ5 H5 Hi5 Γ5 s5 g5 ⟨m',hm,q5⟩=>⟨m',hm,Hi5,Γ5,s1.trans (s2.trans s5),g5,q5⟩,fun v σ5 H5 Hi5 Γ5 r s5 g5 ro q5=>l.rt v σ5 H5 Hi5 Γ5 r (s1.trans (s2.trans s5)) g5 ro q5⟩
theorem znW {K:PySem.W.Frag} {Hi:Hp} {a:Addr} {vs:List V} {ds:List D} (h:SqL K Hi a vs) (r:zbU K Hi vs ds):ItD K Hi (Itl K a) ds:=by
  intro Hi' H' s1 s2
  have hq:SqL K H' a vs:=zaK (s1.trans s2.sub) h
  refine ⟨fun i d e=>?_,vs,hq,by rw [zi r]; exact Nat.le_refl _⟩
  obtain ⟨v,e1,e2⟩:=zbN r e; refine ⟨⟨vs,v,hq,e1⟩,?_⟩
  rintro x H'' ⟨rfl,y⟩
  have:=y vs hq
  rw [e1] at this; cases this; exact ⟨Hi',Ext.refl s2,e2.mono s1⟩
theorem zqk {K:PySem.W.Frag} {Hi:Hp} {a:Addr} {vs:List V} {ds:List D} (h:SqT K Hi a vs) (r:zbU K Hi vs ds):ItD K Hi (Itt K a) ds:=by
  intro Hi' H' s1 s2
  have hq:SqT K H' a vs:=zaO (s1.trans s2.sub) h
  refine ⟨fun i d e=>?_,vs,hq,by rw [zi r]; exact Nat.le_refl _⟩
  obtain ⟨v,e1,e2⟩:=zbN r e; refine ⟨⟨vs,v,hq,e1⟩,?_⟩
  rintro x H'' ⟨rfl,y⟩
  have:=y vs hq
  rw [e1] at this; cases this; exact ⟨Hi',Ext.refl s2,e2.mono s1⟩
theorem zql {K:PySem.W.Frag} {Hi:Hp} (l:List Nat):ItD K Hi (Its l) (l.map fun c=>.str [c]):=by
  intro Hi' H' s1 s2
  refine ⟨fun i d e=>?_,by rw [List.length_map]; rfl⟩
  rw [List.getElem?_map] at e
  cases hc:l[i]? with
  | none=>rw [hc] at e; cases e
  | some c =>
    rw [hc] at e; cases e; refine ⟨(List.getElem?_eq_some_iff.mp hc).1,?_⟩
    rintro x H'' ⟨rfl,c',e',rfl⟩
    rw [hc] at e'; cases e'; exact ⟨Hi',Ext.refl s2,.str [c]⟩
theorem zqm {K:PySem.W.Frag} {Hi:Hp} (lo:Int) (n:Nat):ItD K Hi (Itr lo n) ((List.range n).map fun k=>.int (lo+(k:Nat))):=by
  intro Hi' H' s1 s2
  refine ⟨fun i d e=>?_,by rw [List.length_map,List.length_range]; exact Nat.le_refl _⟩
  rw [List.getElem?_map] at e
  cases hc:(List.range n)[i]? with
  | none=>rw [hc] at e; cases e
  | some c =>
    rw [hc] at e; cases e
    have hi:i<n:=by
      have:=(List.getElem?_eq_some_iff.mp hc).1
      rwa [List.length_range] at this
    have ec:c=i:=by
      rw [List.getElem?_range hi] at hc; exact (Option.some.inj hc).symm
    subst ec; refine ⟨hi,?_⟩
    rintro x H'' ⟨rfl,rfl⟩
    exact ⟨Hi',Ext.refl s2,.int _⟩
def zoo:D→Option (List D)
  | .lst ds=>some ds
  | .tup ds=>some ds
  | .str l=>some (l.map fun c=>.str [c])
  | _=>none
def zad (t:TE'):TI':=fun Γ Q=>t Γ fun d Γ1=>∃ ds,zoo d=some ds∧Q ds Γ1
theorem zpG {l tg:Expr} {tl:TE} (hl:PE X l tl):PI X tg l (fun σ H R=>tl σ H fun x H1=>(∃ a,x=.ref a∧(∃ xs,SqL X.K H1 a xs)∧R (Itl X.K a) H1)∨(∃ a,x=.ref a∧(∃ xs,SqT X.K H1 a xs)∧R (Itt X.K a) H1)∨(∃ z,x=.str z∧R (Its z.cps.toList) H1)):=by
  intro pins s σ H R I h
  refine thn (hl pins s σ H _ I h) fun v s1 ⟨x,H1,I1,r1,q1⟩=>?_
  have fin:∀ b ∈ [s1.heap.objs.size],zjp X pins H1 b:=fun b hb=>by
    have e:b=s1.heap.objs.size:=by simpa using hb
    subst e; exact I1.fpOk (Nat.le_refl _) (I1.hok.fresh (Nat.le_refl _))
  rcases q1 with ⟨a,rfl,⟨xs,hq⟩,q⟩ | ⟨a,rfl,⟨xs,hq⟩,q⟩ | ⟨z,rfl,q⟩
  · cases r1
    obtain ⟨its,rv,p,hz⟩:=I1.list hq; refine wpAny_pyIter_list p.isList ?_
    exact ⟨s1.heap.objs.size,[s1.heap.objs.size],_,_,H1,rfl,I1.kept (t':=s1.toks) fun b o e=>Heap.get?_push_of_some _ e,zk5 a _,⟨_,Heap.get?_push_size _ rfl,rfl,rfl⟩,fin,q⟩
  · cases r1
    obtain ⟨its,rv,p,hz⟩:=I1.tuple hq
    refine wpAny_pyIter_tuple (show s1.heap.IsTuple a its.toArray from p) ?_
    exact ⟨s1.heap.objs.size,[s1.heap.objs.size],_,_,H1,rfl,I1.kept (t':=s1.toks) fun b o e=>Heap.get?_push_of_some _ e,zkk a _,⟨_,Heap.get?_push_size _ rfl,rfl,rfl⟩,fin,q⟩
  · obtain ⟨t,rfl⟩:=r1
    cases ha:z.cps.all (·<128)
    · refine wpAny_pyIter_wide ha ?_
      exact ⟨s1.heap.objs.size,[s1.heap.objs.size],_,_,H1,rfl,I1.kept (t':=s1.toks) fun b o e=>Heap.get?_push_of_some _ e,zjs z t _ (.inr rfl),⟨_,Heap.get?_push_size _ rfl,rfl,rfl⟩,fin,q⟩
    · refine wpAny_pyIter_ascii ha ?_
      exact ⟨s1.heap.objs.size,[s1.heap.objs.size],_,_,H1,rfl,I1.kept (t':=s1.toks) fun b o e=>Heap.get?_push_of_some _ e,zjs z t _ (.inl rfl),⟨_,Heap.get?_push_size _ rfl,rfl,rfl⟩,fin,q⟩
theorem zbq {l tg:Expr} {t:TE'} (hl:PE' X l t):PI' X tg l (zad t):=by
  refine ⟨PI.weak (zpG hl.h) ?_⟩
  rintro σ H R ⟨W,Hi,Γ,Q',g,h,fin⟩
  refine ⟨W,Hi,Γ,_,g,h,?_⟩
  rintro v H1 ⟨Hi1,d,Γ1,s1,g1,den,ds,e,q⟩
  cases d with
  | lst es =>
    cases e; obtain ⟨a,vs,rfl,h1,h2⟩:=den.lstI; exact .inl ⟨a,rfl,⟨vs,zaK g1.sub h1⟩,fin _ H1 Hi1 Γ1 _ s1 g1 (znW h1 h2) q⟩
  | tup es =>
    cases e; obtain ⟨a,vs,rfl,h1,h2⟩:=den.tupI; exact .inr (.inl ⟨a,rfl,⟨vs,zaO g1.sub h1⟩,fin _ H1 Hi1 Γ1 _ s1 g1 (zqk h1 h2) q⟩)
  | str l =>
    cases e; refine .inr (.inr ⟨_,den.strI,?_⟩); rw [zaP]; exact fin _ H1 Hi1 Γ1 _ s1 g1 (zql l) q
  | _=>cases e
def zK (t:TA'):TI':=fun Γ Q=>t Γ fun ds Γ1=>∃ j:Int,ds=[.int j]∧-(2 ^ 62)≤j∧j<2 ^ 62∧Q ((List.range j.toNat).map fun k=>.int (0+(k:Nat))) Γ1
theorem zd6 {K:PySem.W.Frag} {H:Hp} {vs:List V} {d:D} (h:zbU K H vs [d]):∃ v,vs=[v]∧Den K H v d:=by
  cases h with
  | cons r t=>cases t; exact ⟨_,rfl,r⟩
theorem zsD {K:PySem.W.Frag} {H:Hp} {vs:List V} {d e:D} (h:zbU K H vs [d,e]):∃ v w,vs=[v,w]∧Den K H v d∧Den K H w e:=by
  cases h with
  | cons r t =>
    obtain ⟨w,rfl,q⟩:=zd6 t; exact ⟨_,w,rfl,r,q⟩
theorem zeF {a tg:Expr} {t:TA'} {p pos:Pos} (hm:X.mg "range"=none) (ha:PA' X [a] t) (hg:Gl X "range":=by rfl):PI' X tg (.Call (.Name "range" p) [a] [] pos) (zK t):=by
  refine ⟨PI.weak (zlx hg hm ha.pa (zaU (za1 ha.pl).1)) ?_⟩
  rintro σ H R ⟨W,Hi,Γ,Q',g,h,fin⟩
  refine ⟨W,Hi,Γ,_,g,h,?_⟩
  rintro vs H1 Hi1 Γ1 ds s1 g1 dl ⟨j,rfl,b1,b2,q⟩
  obtain ⟨v,rfl,den⟩:=zd6 dl; rw [den.intI]; exact ⟨j,rfl,b1,b2,fin _ H1 Hi1 Γ1 _ s1 g1 (zqm 0 _) q⟩
def zmI (src:List (Option Nat)) (Γ:Sts):Sts:=src.map fun o=>match o with
  | none=>.emp
  | some i=>match Γ[i]? with
    | some (.val d)=>.val d
    | _=>.emp
def voS:Slot→Slot
  | .val d=>.val d
  | _=>.emp
def vo (Γ:Sts):Sts:=Γ.map voS
def zdg (g:TG') (tc:TT') (te:TE') (Q:List D→Prop):List D→List D→Sts→Prop
  | [],acc,_=>Q acc
  | d :: ds,acc,Γ=>g d Γ fun Γ2=>tc Γ2 fun b Γ3=>if b=true then te Γ3 fun y Γ4=>zdg g tc te Q ds (acc ++ [y]) (vo Γ4) else zdg g tc te Q ds acc (vo Γ3)
def zw (ti:TI') (src:List (Option Nat)) (g:TG') (tc:TT') (te:TE'):TO':=fun Γ Q=>ti Γ fun ds Γ1=>ds.length≤sizeLine∧zdg g tc te (fun acc=>Q (.lst acc) Γ1) ds [] (zmI src Γ1)
structure PTs' (X:Cx) (ifs:List Expr) (t:TT'):Prop where
  h:PTs X ifs (zqQ X.K X.N.length t)
def za8:TT':=fun Γ Q=>Q true Γ
theorem zed:PTs' X [] za8:=by
  refine ⟨?_⟩; intro pins s σ H Q I h; obtain ⟨W,Hi,Γ,Q',g,h,fin⟩:=h; exact zpv pins s σ H Q I (fin true H Hi Γ (zaX.refl _) g h)
theorem zgG {c:Expr} {t:TT'} (h:PT' X c t):PTs' X [c] t:=⟨zpu h.h⟩
theorem ziB {elt tg iter:Expr} {ifs:List Expr} {sc fsc:Scope} {ti:TI'} {g:TG'} {tc:TT'} {te:TE'} {N N':List Str} {src:List (Option Nat)} (B:Blk N N' src fsc sc) (hi:PI' X tg iter ti)
    (hg:∀ cl C s H fp pn,PG' (blk X N' sc cl C s H fp pn) tg g) (ht:∀ cl C s H fp pn,PTs' (blk X N' sc cl C s H fp pn) ifs tc) (he:∀ cl C s H fp pn,PE' (blk X N' sc cl C s H fp pn) elt te)
    (hx:X.xe=(fun _ _=>False):=by rfl) (hc:X.calm=true:=by rfl) (hN:X.N=N:=by rfl) (hs:X.env.scope=fsc:=by rfl)
    (hf:∀ x,foldedSetIterable iter X.env x=pure x:=by intro _; rfl):PO' X (.ListComp elt [⟨tg,iter,ifs,0⟩] sc pos) (zw ti src g tc te):=by
  refine ⟨PE.weak (zpN (g:=gOf X.K N'.length g) (tc:=zqQ X.K N'.length tc) (te:=tOf X.K N'.length te) B hi.h (fun a b c d e f=>(hg a b c d e f).h) (fun a b c d e f=>(ht a b c d e f).h) (fun a b c d e f=>(he a b c d e f).h) hx hc hN hs hf) ?_⟩
  rintro σ H Q2 ⟨W,Hi,Γ,Q,gd,h,fin⟩
  refine ⟨W,Hi,Γ,_,gd,h,?_⟩
  rintro J H1 Hi1 Γ1 ds s1 g1 itd ⟨hlen,q⟩
  intro A hA
  -- the state between two turns
  have hn':src.length=N'.length:=B.len
  refine zh6 (n:=ds.length) (fun i σ' H'=>∃ Hi' acc vs Γ',zaX Hi1 Hi'∧Fz Hi' H'∧(∀ b o,H1 b=some o→H' b=some o)∧(∀ b o,H1 b=some o→Hi' b=Hi1 b)∧Hi' A=none∧H' A=some (.lst vs)∧zbU X.K Hi' vs acc∧vs.length≤i∧σ'.length=N'.length ∧
      (∀ (j:Nat) s,Γ'[j]?=some s→s=.emp∨∃ d,s=.val d∧∃ v,σ'[j]?=some (some v)∧Den X.K Hi' v d)∧zdg g tc te (fun acc=>Q (.lst acc) Γ1) (ds.drop i) acc Γ') ?_ ?_ ?_
  · refine ⟨Hi1,[],[],zmI src Γ1,zaX.refl _,(Ext.newO g1.fz hA _ (fun _ z=>by cases z)).fz,fun b o e=>zba hA _ b o e,fun b o e=>rfl,g1.sub.free hA,zP,.nil,Nat.zero_le _,?_,fun j s e=>?_,by simpa using q⟩
    · unfold zmT; rw [List.length_map,hn']
    · unfold zmI at e
      rw [List.getElem?_map] at e
      cases hj:src[j]? with
      | none=>rw [hj] at e; cases e
      | some o =>
        rw [hj] at e
        cases o with
        | none=>cases e; exact .inl rfl
        | some i =>
          have e':(match Γ1[i]? with | some (.val d)=>Slot.val d | _=>.emp)=s:=Option.some.inj e
          cases hΓ:Γ1[i]? with
          | none=>rw [hΓ] at e'; exact .inl e'.symm
          | some sl =>
            rw [hΓ] at e'
            cases sl with
            | val d =>
              refine .inr ⟨d,e'.symm,?_⟩; obtain ⟨v,h1,h2⟩:=g1.val i d hΓ; refine ⟨v,?_,h2⟩; unfold zmT; rw [List.getElem?_map,hj]
              show some ((some i).bind fun i=>(σ[i]?).join)=some (some v)
              show some ((σ[i]?).join)=some (some v)
              rw [h1]; rfl
            | emp=>exact .inl e'.symm
            | own o=>exact .inl e'.symm
            | bk _ _ _=>exact .inl e'.symm
  · rintro i σ' H' hlt ⟨Hi',acc,vs,Γ',s2,s3,k1,k2,hA1,hA2,dl,hv,hl,hsl,q⟩
    have hd:ds.drop i=ds[i] :: ds.drop (i+1):=List.drop_eq_getElem_cons hlt
    rw [hd] at q; obtain ⟨go,yl⟩:=(itd Hi' H' s2 s3).1 i ds[i] (List.getElem?_eq_getElem hlt)
    refine ⟨go,fun x H'' y=>?_⟩
    obtain ⟨Hi'',ex,den⟩:=yl x H'' y
    have gb:Good X.K N'.length ⟨H'',Hi'',[]⟩ Hi'' Γ' σ' H'':=by
      refine ⟨hl,ex.fz,fun b o e _=>e,fun b o e=>⟨o,e⟩,fun b o e=>rfl,fun j d e=>?_,fun j o e=>?_,fun j k o o' b e=>?_,fun j d b xs e=>?_⟩
      · rcases hsl j _ e with z | ⟨d',z,v,h1,h2⟩
        · cases z
        · cases z; exact ⟨v,h1,h2.mono ex.hi⟩
      · rcases hsl j _ e with z | ⟨d',z,_⟩ <;> cases z
      · rcases hsl j _ e with z | ⟨d',z,_⟩ <;> cases z
      · rcases hsl j _ e with z | ⟨d',z,_⟩ <;> cases z
    refine ⟨⟨H'',Hi'',[]⟩,Hi'',Γ',ds[i],_,gb,den,q,?_⟩; intro σ3 H3 Hi3 Γ3 s4 g3 q3; refine ⟨⟨H'',Hi'',[]⟩,Hi3,Γ3,_,g3,q3,?_⟩; intro b H4 Hi4 Γ4 s5 g4 q4
    -- what the state is behind a turn
    have back:∀ {Γ5:Sts} {Hi5 H5:Hp},zaX Hi4 Hi5→Good X.K N'.length ⟨H'',Hi'',[]⟩ Hi5 Γ5 σ3 H5 →
        zaX Hi1 Hi5∧Fz Hi5 H5∧(∀ b o,H1 b=some o→H5 b=some o)∧(∀ b o,H1 b=some o→Hi5 b=Hi1 b)∧Hi5 A=none∧H5 A=some (.lst vs)∧zaX Hi' Hi5:=fun {Γ5 Hi5 H5} s6 g5=>by
      have sx:zaX Hi' Hi5:=ex.hi.trans (s4.trans (s5.trans s6))
      have hA3:H'' A=some (.lst vs):=ex.h _ _ hA2
      refine ⟨s2.trans sx,g5.fz,fun b o e=>g5.keep b o (ex.h _ _ (k1 b o e)) (by simp),fun b o e=>?_,?_,g5.keep A _ hA3 (by simp),sx⟩
      · rw [g5.fro b o (ex.h _ _ (k1 b o e))]
        show Hi'' b=Hi1 b
        rw [ex.fro b o (k1 b o e),k2 b o e]
      · rw [g5.fro A _ hA3]
        show Hi'' A=none
        rw [ex.fro A _ hA2,hA1]
    have sl:∀ {Γ5:Sts} {Hi5 H5:Hp},Good X.K N'.length ⟨H'',Hi'',[]⟩ Hi5 Γ5 σ3 H5→∀ (j:Nat) s,(vo Γ5)[j]?=some s→s=.emp∨∃ d,s=.val d∧∃ v,σ3[j]?=some (some v)∧Den X.K Hi5 v d:=fun {Γ5 Hi5 H5} g5 j s e=>by
      unfold vo at e; rw [List.getElem?_map] at e
      cases hj:Γ5[j]? with
      | none=>rw [hj] at e; cases e
      | some sl =>
        rw [hj] at e
        cases sl with
        | val d =>
          cases e; exact .inr ⟨d,rfl,g5.val j d hj⟩
        | emp=>cases e; exact .inl rfl
        | own o=>cases e; exact .inl rfl
        | bk _ _ _=>cases e; exact .inl rfl
    cases b with
    | false =>
      simp only [Bool.false_eq_true,if_false] at q4 ⊢; obtain ⟨b1,b2,b3,b4,b5,b6,b7⟩:=back (zaX.refl _) g4
      exact ⟨Hi4,acc,vs,vo Γ4,b1,b2,b3,b4,b5,b6,dl.mono b7,by omega,g4.len,sl g4,q4⟩
    | true =>
      simp only [if_true] at q4 ⊢; refine ⟨⟨H'',Hi'',[]⟩,Hi4,Γ4,_,g4,q4,?_⟩
      rintro y' H5 ⟨Hi5,dy,Γ5,s6,g5,den5,q5⟩
      obtain ⟨b1,b2,b3,b4,b5,b6,b7⟩:=back s6 g5
      refine ⟨vs,b6,by omega,Hi5,acc ++ [dy],vs ++ [y'],vo Γ5,b1,?_,?_,b4,b5,zP,zaY (dl.mono b7) (.cons den5 .nil),by rw [List.length_append]; simp; omega,g5.len,sl g5,q5⟩
      · refine ⟨fun b o e=>?_,fun b xs e=>?_⟩
        · rw [zaE (fun z=>by rw [z,b5] at e; cases e)]
          exact b2.sub b o e
        · by_cases hb:b=A
          · subst hb; rw [zP] at e; cases e
          · rw [zaE hb] at e; exact b2.tups b xs e
      · intro b o e
        rw [zaE (zbw e hA)]; exact b3 b o e
  · rintro σ' H' ⟨Hi',acc,vs,Γ',s2,s3,k1,k2,hA1,hA2,dl,hv,hl,hsl,q⟩
    refine ⟨(itd Hi' H' s2 s3).2,?_⟩; rw [List.drop_eq_nil_of_le (Nat.le_refl _)] at q
    have ex:Ext Hi1 H1 Hi' H':=⟨s2,k1,s3,k2⟩
    refine fin A H' Hi' Γ1 (.lst acc) (s1.trans s2) (g1.ext ex) ⟨hA1,?_,⟨fun j o' e z=>?_,fun j d xs e=>?_⟩,vs,hA2,dl⟩ q
    · cases hq:W.H₀ A with
      | none=>rfl
      | some w =>
        obtain ⟨w',hw⟩:=g1.there A w hq
        rw [hA] at hw; cases hw
    · obtain ⟨a,h1,_,_,h4⟩:=g1.own j o' e
      rw [z] at h1; cases h1; obtain ⟨w,hw⟩:=h4.there
      rw [hA] at hw; cases hw
    · obtain ⟨w,hw⟩:=(g1.bk j d A xs e).at_.there
      rw [hA] at hw; cases hw
abbrev Sp':=List D→(Res→Prop)→Prop
def zmz (K:PySem.W.Frag) (sp:Sp'):Sp:=fun vs H Q2 _=>∃ Hi ds Q,Fz Hi H∧zbU K Hi vs ds∧sp ds Q∧∀ Hi' H' v r,Ext Hi H Hi' H'→zqL K H Hi' H' v r→Q r→Q2 v H'
def zx (sp:Sp') (t:TA'):TE':=fun Γ Q=>t Γ fun ds Γ1=>sp ds fun r=>Q r.toD Γ1
def zm (sp:Sp') (t:TA'):TO':=fun Γ Q=>t Γ fun ds Γ1=>sp ds fun r=>∃ o,r=.own o∧Q o Γ1
variable {k:Nat} {f:Addr} {fd:FuncData} {ps:List Str} {sp:Sp'} {x:Str} {p:Pos} {e:Expr} {es:List Expr} {t:TA'}
theorem zgD {K:PySem.W.Frag} {n:Nat} {W:Wd} {Hi H Hi' H':Hp} {Γ:Sts} {σ:St} {a:Addr} {o:OD} (g:Good K n W Hi Γ σ H) (ex:Ext Hi H Hi' H') (h1:Hi' a=none) (h2:H a=none) (h3:zbY K Hi' H' a o):New K n W Hi' Γ σ H' a o:=by
  refine ⟨h1,?_,⟨fun j o' e z=>?_,fun j d xs e=>?_⟩,h3⟩
  · cases q:W.H₀ a with
    | none=>rfl
    | some w =>
      obtain ⟨w',hw⟩:=g.there a w q
      rw [h2] at hw; cases hw
  · obtain ⟨b,q1,_,_,q4⟩:=g.own j o' e
    rw [z] at q1; cases q1; obtain ⟨w,hw⟩:=q4.there
    rw [h2] at hw; cases hw
  · obtain ⟨w,hw⟩:=(g.bk j d a xs e).at_.there
    rw [h2] at hw; cases hw
theorem zng (F:FnOk X.prog X.w X.K X.mg X.base CX0 k f fd ps (zmz X.K sp)) (hr:Room k X.A) (hm:X.mg x=some (.ref f)) (hk:PySem.W.keepIn X.K (.ref f)=true) (hb:zdi X.K fd ps [])
    (ha:PA' X (e :: es) t) (hg:Gl X x:=by rfl) (hdb:(x == ("__debug__":Str))=false:=by decide) :
    PE' X (.Call (.Name x p) (e :: es) [] pos) (zx sp t):=by
  refine ⟨PE.weak (ziE (E:=E0) (dvs:=[]) F hr hg hm hk hb .nil zni ha.pa hdb (zaU (za1 ha.pl).1) (zbG (za1 ha.pl).2)) ?_⟩
  rintro σ H Q ⟨W,Hi,Γ,Q',g,h,fin⟩
  refine ⟨W,Hi,Γ,_,g,h,?_⟩; intro vs H1 Hi1 Γ1 ds s1 g1 dl q; rw [List.append_nil]; refine ⟨Hi1,ds,_,g1.fz,dl,q,?_⟩; intro Hi2 H2 v r ex ro q2
  cases r with
  | val d=>exact fin v H2 ⟨Hi2,d,Γ1,s1.trans ex.hi,g1.ext ex,ro,q2⟩
  | own o =>
    obtain ⟨a,rfl,h1,h2,h3⟩:=ro; have nw:=zgD g1 ex h1 h2 h3; obtain ⟨u,hu⟩:=h3.there; exact fin _ H2 ⟨upd Hi2 a u,_,Γ1,s1.trans (ex.hi.trans (zba h1 u)),(g1.ext ex).freezeA nw.hi nw.h0 nw.ne hu,h3.den h1 hu,q2⟩
  | bk d o =>
    obtain ⟨b,dv,hol,h1,h2,h3⟩:=ro; have nw:=zgD g1 ex h1 h2 h3; obtain ⟨u,hu⟩:=h3.there; exact fin _ H2 ⟨upd Hi2 b u,_,Γ1,s1.trans (ex.hi.trans (zba h1 u)),(g1.ext ex).freezeA nw.hi nw.h0 nw.ne hu,hol b _ v o (h3.den h1 hu) (dv.mono (zba h1 u)),q2⟩
theorem zpF (F:FnOk X.prog X.w X.K X.mg X.base CX0 k f fd ps (zmz X.K sp)) (hr:Room k X.A) (hm:X.mg x=some (.ref f)) (hk:PySem.W.keepIn X.K (.ref f)=true) (hb:zdi X.K fd ps [])
    (ha:PA' X (e :: es) t) (hg:Gl X x:=by rfl) (hdb:(x == ("__debug__":Str))=false:=by decide) :
    PO' X (.Call (.Name x p) (e :: es) [] pos) (zm sp t):=by
  refine ⟨PE.weak (ziE (E:=E0) (dvs:=[]) F hr hg hm hk hb .nil zni ha.pa hdb (zaU (za1 ha.pl).1) (zbG (za1 ha.pl).2)) ?_⟩
  rintro σ H Q ⟨W,Hi,Γ,Q',g,h,fin⟩
  refine ⟨W,Hi,Γ,_,g,h,?_⟩; intro vs H1 Hi1 Γ1 ds s1 g1 dl q; rw [List.append_nil]; refine ⟨Hi1,ds,_,g1.fz,dl,q,?_⟩
  rintro Hi2 H2 v r ex ro ⟨o,rfl,q2⟩
  obtain ⟨a,rfl,h1,h2,h3⟩:=ro; exact fin a H2 Hi2 Γ1 o (s1.trans ex.hi) (g1.ext ex) (zgD g1 ex h1 h2 h3) q2
end
def zhp (N:List Str) (ds:List D):Sts:=ds.map .val ++ List.replicate (N.length-ds.length) .emp
section
variable {P:Program} {w:World} {K:PySem.W.Frag} {mg:Str→Option Value} {base:Heap}
theorem Fun.ok' {x qual:Str} {st:Stmt} {f:Addr} {fd:FuncData} {N ps:List Str} {k:Nat} {sp:Sp'} (F:Fun K x qual st f fd) (S:FnScope N ps (zj st)) (len:∀ ds Q,sp ds Q→ds.length=ps.length)
    (hbody:∀ (cdv:Value) (A:Around) (outer:List Env) (s:Shared) (H:Hp) (E:XK),Room k (A.deeper (PyProof.Rows.envOfC qual (zj st) s.heap.objs.size f cdv))→∀ ds Q,sp ds Q →
      ∃ t,PSs' (zkX CX0 P w K mg base N qual (zj st) f cdv A outer s H E).nox (zbD st) t∧t { nx:=fun _=>Q (.val .non),rt:=fun r _=>Q r } (zhp N ds)):FnOk P w K mg base CX0 (k+1) f fd ps (zmz K sp):=by
  refine F.ok S (fun vs H Q E h=>?_) (fun cdv A outer s H vs Q E hr h=>?_)
  · obtain ⟨Hi,ds,Q',_,dl,h,_⟩:=h
    rw [zi dl]; exact len ds Q' h
  obtain ⟨Hi,ds,Q',sb,dl,h,fin⟩:=h; obtain ⟨t,h1,h2⟩:=hbody cdv A outer s H E hr ds Q' h
  have hlen:ds.length=ps.length:=len ds Q' h
  have hpl:ps.length≤N.length:=by have:=congrArg List.length S.pre; rw [List.length_take] at this; omega
  have hvl:=zi dl; refine ⟨_,h1.h,⟨H,Hi,[]⟩,Hi,zhp N ds,_,?_,h2,?_⟩
  · refine ⟨?_,sb,fun b o e _=>e,fun b o e=>⟨o,e⟩,fun b o e=>rfl,fun j d e=>?_,fun j o e=>?_,fun j k o o' b e=>?_,fun j d b xs e=>?_⟩
    · unfold L2.start
      show _=N.length
      rw [List.length_append,List.length_map,List.length_replicate]; omega
    all_goals
      unfold zhp at e
      by_cases hj:j<ds.length
      · rw [List.getElem?_append_left (by simpa using hj),List.getElem?_map,List.getElem?_eq_getElem hj] at e
        try cases e
        try
          obtain ⟨v,e1,e2⟩:=zbN dl (List.getElem?_eq_getElem hj); refine ⟨v,?_,e2⟩; unfold L2.start
          rw [List.getElem?_append_left (by rw [List.length_map]; omega),List.getElem?_map,e1]
          rfl
      · rw [List.getElem?_append_right (by simpa using hj),List.getElem?_replicate] at e
        split at e <;> cases e
  · refine ⟨fun σ' H' Hi' Γ' s1 g1 q=>?_,fun _ _ _ _ _ _ q=>q.elim,fun _ _ _ _ _ _ q=>q.elim,fun v σ' H' Hi' Γ' r s1 g1 ro q=>?_⟩
    · exact fin Hi' H' .non (.val .non) ⟨s1,fun b o e=>g1.keep b o e (by simp),g1.fz,fun b o e=>g1.fro b o e⟩ .non q
    · exact fin Hi' H' v r ⟨s1,fun b o e=>g1.keep b o e (by simp),g1.fz,fun b o e=>g1.fro b o e⟩ ro q
end
end PL
namespace L2
open PySem PySem.Spec PyProof.Rows
section
variable {X:Cx}
def zsS (K:PySem.W.Frag) (H:Hp):V→String→Prop
  | .non,t=>t="NoneType"
  | .bl _,t=>t="bool"
  | .int _,t=>t="int"
  | .str _,t=>t="str"
  | .ref a,t=>(t="list"∧∃ xs,SqL K H a xs)∨(t="tuple"∧∃ xs,SqT K H a xs)∨(t="dict"∧((∃ kvs,Rd H a (.dK kvs))∨∃ kvs,Rd H a (.dT kvs)))
  | _,_=>False
end
end L2
namespace PL
open PySem L2
section
variable {X:Cx} {K:PySem.W.Frag}
theorem zg1 {g:Int→Int→V} (g':Int→Int→D) (hg:∀ i j Hi,Den K Hi (g i j) (g' i j)):zkU K (rI0 g) (fun x y Q=>∃ i j,x=.int i∧y=.int j∧Q (g' i j)):=by
  rintro Hi H x y dx dy Q Q2 s d1 d2 ⟨i,j,rfl,rfl,q⟩ fin
  exact ⟨i,j,d1.intI,d2.intI,fin Hi H _ _ (Ext.refl s) (hg i j Hi) q⟩
theorem zjO {C:Int→Int→Prop} {g:Int→Int→V} (g':Int→Int→D) (hg:∀ i j Hi,Den K Hi (g i j) (g' i j)):zkU K (rI C g) (fun x y Q=>∃ i j,x=.int i∧y=.int j∧C i j∧Q (g' i j)):=by
  rintro Hi H x y dx dy Q Q2 s d1 d2 ⟨i,j,rfl,rfl,c,q⟩ fin
  exact ⟨i,j,d1.intI,d2.intI,c,fin Hi H _ _ (Ext.refl s) (hg i j Hi) q⟩
def zpn (g:Int→Int→D):R2':=fun x y Q=>∃ i j,x=.int i∧y=.int j∧Q (g i j)
def rI' (C:Int→Int→Prop) (g:Int→Int→D):R2':=fun x y Q=>∃ i j,x=.int i∧y=.int j∧C i j∧Q (g i j)
theorem zue:Op2 X (binaryOp .Add) (zpn fun i j=>.int (i+j)):=⟨_,zr4,zg1 _ fun i j _=>.int _⟩
theorem zt9:Op2 X (binaryOp .Sub) (zpn fun i j=>.int (i-j)):=⟨_,zrY,zg1 _ fun i j _=>.int _⟩
theorem zua:Op2 X (binaryOp .Mult) (rI' zkh fun i j=>.int (i * j)):=⟨_,zr0,zjO _ fun i j _=>.int _⟩
theorem zb7:Op2 X (binaryOp .FloorDiv) (rI' zf7 fun i j=>.int (i / j)):=⟨_,zpU,zjO _ fun i j _=>.int _⟩
theorem zcy:Op2 X (binaryOp .Mod) (rI' (fun _ j=>0<j) fun i j=>.int (i % j)):=⟨_,zr1,zjO _ fun i j _=>.int _⟩
theorem zqT:Op2 X (compareOp .Lt) (zpn fun i j=>.bl (decide (i<j))):=⟨_,zt6,zg1 _ fun i j _=>.bl _⟩
theorem zvE:Op2 X (compareOp .Gt) (zpn fun i j=>.bl (decide (j<i))):=⟨_,zt7,zg1 _ fun i j _=>.bl _⟩
def ziA:R2':=fun x y Q=>∃ l m,x=.str l∧y=.str m∧l.length+m.length≤sizeLine∧Q (.str (l ++ m))
theorem zr9:Op2 X (binaryOp .Add) ziA:=⟨_,zkz,by
  rintro Hi H x y dx dy Q Q2 s d1 d2 ⟨l,m,rfl,rfl,hl,q⟩ fin
  refine ⟨_,_,d1.strI,d2.strI,by rw [zbP,zbP]; exact hl,?_⟩
  rw [zrh]; exact fin Hi H _ _ (Ext.refl s) (.str _) q⟩
def eqS:D→D→Option Bool
  | .non,.non=>some true
  | .non,.int _=>some false
  | .non,.bl _=>some false
  | .non,.str _=>some false
  | .int _,.non=>some false
  | .bl _,.non=>some false
  | .str _,.non=>some false
  | .int i,.int j=>some (decide (i=j))
  | .bl i,.bl j=>some (decide (i=j))
  | .str i,.str j=>some (decide (i=j))
  | .int _,.str _=>some false
  | .str _,.int _=>some false
  | .bl _,.str _=>some false
  | .str _,.bl _=>some false
  | _,_=>none
theorem zoS {Hi:Hp} {x y:V} {dx dy:D} {b:Bool} (d1:Den K Hi x dx) (d2:Den K Hi y dy) (h:eqS dx dy=some b):zpj x y=true∧decide (x=y)=b:=by
  cases d1 <;> cases d2 <;> first
    | (exact absurd (show (none:Option Bool)=some b from h) (fun z=>nomatch z))
    | (refine ⟨rfl,?_⟩
       have h':=Option.some.inj h
       subst h'
       first
         | rfl
         | (exact decide_eq_decide.mpr ⟨fun z=>V.int.inj z,fun z=>congrArg V.int z⟩)
         | (exact decide_eq_decide.mpr ⟨fun z=>V.bl.inj z,fun z=>congrArg V.bl z⟩)
         | (exact decide_eq_decide.mpr ⟨fun z=>st_inj (V.str.inj z),fun z=>congrArg (fun l=>V.str (st l)) z⟩)
         | (exact decide_eq_false (fun z=>nomatch z)))
def zgf (neg:Bool):R2':=fun x y Q=>y=.non∧∃ b:Bool,(b=true↔x=.non)∧Q (.bl (if neg then !b else b))
theorem ziS:Op2 X (compareOp .Is) (zgf false):=⟨_,zr2,by
  rintro Hi H x y dx dy Q Q2 s d1 d2 ⟨rfl,b,e,q⟩ fin
  refine ⟨d2.nonI,?_⟩
  have z:decide (x=.non)=b:=by
    rw [Bool.eq_iff_iff,e,decide_eq_true_eq]; exact d1.non_iff
  rw [z]; exact fin Hi H _ _ (Ext.refl s) (.bl _) q⟩
theorem zgY:Op2 X (compareOp .IsNot) (zgf true):=⟨_,zpS,by
  rintro Hi H x y dx dy Q Q2 s d1 d2 ⟨rfl,b,e,q⟩ fin
  refine ⟨d2.nonI,?_⟩
  have z:decide (x=.non)=b:=by
    rw [Bool.eq_iff_iff,e,decide_eq_true_eq]; exact d1.non_iff
  rw [z]; exact fin Hi H _ _ (Ext.refl s) (.bl _) q⟩
def zmA:R2':=fun x y Q=>∃ i,y=.int i∧((∃ ds d,x=.lst ds∧atI ds i=some d∧Q d)∨(∃ ds d,x=.tup ds∧atI ds i=some d∧Q d)∨∃ l c,x=.str l∧l.length≤sizeLine∧atI l i=some c∧Q (.str [c]))
theorem zmu {Hi:Hp} {vs:List V} {ds:List D} {i:Int} {d:D} (r:zbU K Hi vs ds) (h:atI ds i=some d):∃ v,atI vs i=some v∧Den K Hi v d:=by
  unfold atI at h ⊢
  rw [zi r]
  cases e:ixN ds.length i with
  | none=>rw [e] at h; cases h
  | some j =>
    rw [e] at h
    obtain ⟨v,h1,h2⟩:=zbN r (show ds[j]?=some d from h)
    exact ⟨v,h1,h2⟩
theorem zul:Ixs X zmA:=⟨_,zsp,by
  rintro Hi H x y dx dy Q Q2 s d1 d2 ⟨i,rfl,h⟩ fin
  rcases h with ⟨ds,d,rfl,e,q⟩ | ⟨ds,d,rfl,e,q⟩ | ⟨l,c,rfl,hl,e,q⟩
  · obtain ⟨a,vs,rfl,h1,h2⟩:=d1.lstI
    obtain ⟨v,h3,h4⟩:=zmu h2 e; exact .inl ⟨a,vs,i,v,rfl,d2.intI,zaK s.sub h1,h3,fin Hi H _ _ (Ext.refl s) h4 q⟩
  · obtain ⟨a,vs,rfl,h1,h2⟩:=d1.tupI
    obtain ⟨v,h3,h4⟩:=zmu h2 e; exact .inr (.inl ⟨a,vs,i,v,rfl,d2.intI,zaO s.sub h1,h3,fin Hi H _ _ (Ext.refl s) h4 q⟩)
  · refine .inr (.inr ⟨_,i,c,d1.strI,d2.intI,by rw [zbP]; exact hl,by rw [zaP]; exact e,fin Hi H _ _ (Ext.refl s) (.str [c]) q⟩)⟩
def zcV {α:Type} (xs:List α) (lo hi:Option Int):List α:=(xs.drop (HT.sIx xs.length 0 lo)).take (HT.sIx xs.length xs.length hi-HT.sIx xs.length 0 lo)
def zkt:RS':=fun x lo hi Q=>∃ l,x=.str l∧l.length≤sizeLine∧((lo=none∧∃ n,hi=some n∧0≤n∧Q (.str (l.take n.toNat)))∨(hi=none∧∃ n,lo=some n∧0≤n∧Q (.str (l.drop n.toNat))))
theorem ztI:Sli X zkt:=⟨_,zrk,by
  rintro Hi H x dx lo hi Q Q2 s d1 ⟨l,rfl,hl,h⟩ fin
  refine ⟨st l,d1.strI,by rw [zbP]; exact hl,?_⟩
  rcases h with ⟨rfl,n,rfl,hn,q⟩ | ⟨rfl,n,rfl,hn,q⟩
  · obtain ⟨m,rfl⟩:=Int.eq_ofNat_of_zero_le hn
    rw [zmQ]; exact fin Hi H _ _ (Ext.refl s) (.str _) q
  · obtain ⟨m,rfl⟩:=Int.eq_ofNat_of_zero_le hn
    rw [zko]; exact fin Hi H _ _ (Ext.refl s) (.str _) q⟩
def zhx:RS':=fun x lo hi Q=>∃ ds,x=.tup ds∧Q (.tup (zcV ds lo hi))
def zku:RS':=fun x lo hi Q=>∃ ds,x=.lst ds∧Q (.lst (zcV ds lo hi))
theorem zmg {Hi:Hp} {vs:List V} {ds:List D} {lo hi:Option Int} (r:zbU K Hi vs ds):zbU K Hi (zmh vs lo hi) (zcV ds lo hi):=by
  unfold zmh zcV; rw [zi r]; exact zfx _ (zfy _ r)
theorem zrm:Sli X zku:=⟨_,zpf,by
  rintro Hi H x dx lo hi Q Q2 s d1 ⟨ds,rfl,q⟩ fin
  obtain ⟨a,vs,rfl,h1,h2⟩:=d1.lstI
  refine ⟨a,vs,rfl,zaK s.sub h1,fun p hp=>?_⟩
  have e:=Ext.new s hp (.lst (zmh vs lo hi)); exact fin _ _ _ _ e (Den.mkL (SqL.of zP) (zmg (h2.mono e.hi))) q⟩
def zf3:RC':=fun ds Q=>∃ d,ds=[d]∧((∃ l,d=.str l∧l.length≤sizeLine∧Q (.int (l.length:Nat)))∨(∃ es,d=.lst es∧Q (.int (es.length:Nat)))∨∃ es,d=.tup es∧Q (.int (es.length:Nat)))
theorem zuE:Cal X (.builtin "len") zf3:=⟨_,zic.or zid,by
  rintro Hi H vs ds Q Q2 s dl ⟨d,rfl,h⟩ fin
  obtain ⟨v,rfl,den⟩:=zd6 dl
  rcases h with ⟨l,rfl,hl,q⟩ | ⟨es,rfl,q⟩ | ⟨es,rfl,q⟩
  · refine .inl ⟨_,by rw [den.strI],by rw [zbP]; exact hl,?_⟩
    rw [zbP]; exact fin Hi H _ _ (Ext.refl s) (.int _) q
  · obtain ⟨a,us,rfl,h1,h2⟩:=den.lstI
    refine .inr ⟨a,us,rfl,.inl (zaK s.sub h1),?_⟩; rw [zi h2]; exact fin Hi H _ _ (Ext.refl s) (.int _) q
  · obtain ⟨a,us,rfl,h1,h2⟩:=den.tupI
    refine .inr ⟨a,us,rfl,.inr (zaO s.sub h1),?_⟩; rw [zi h2]; exact fin Hi H _ _ (Ext.refl s) (.int _) q⟩
def zrA:RC':=fun ds Q=>∃ l n,ds=[.str l]∧PySem.intText? (st l)=some n∧l.length≤640∧Q (.int n)
theorem zuF:Cal X (.type "int") zrA:=⟨_,zie,by
  rintro Hi H vs ds Q Q2 s dl ⟨l,n,rfl,e,hl,q⟩ fin
  obtain ⟨v,rfl,den⟩:=zd6 dl
  exact ⟨_,n,by rw [den.strI],e,by rw [zbP]; exact hl,fin Hi H _ _ (Ext.refl s) (.int _) q⟩⟩
def zmB (i:Int):List Nat:=(Str.ofString (toString i)).cps.toList
def zpm:RC':=fun ds Q=>∃ i,ds=[.int i]∧i.natAbs.log2<1920∧Q (.str (zmB i))
theorem zsJ:Cal X (.type "str") zpm:=⟨_,zh9,by
  rintro Hi H vs ds Q Q2 s dl ⟨i,rfl,hl,q⟩ fin
  obtain ⟨v,rfl,den⟩:=zd6 dl
  refine ⟨i,by rw [den.intI],hl,?_⟩
  refine fin Hi H _ (.str (zmB i)) (Ext.refl s) ?_ q
  have e:(V.str (toString i))=.str (st (zmB i)):=by
    unfold zmB; rw [← zla]
  rw [e]; exact .str _⟩
def zlh:RC':=fun ds Q=>∃ d es,ds=[d]∧(d=.lst es∨d=.tup es)∧Q (.tup es)
theorem zeO:Cal X (.type "tuple") zlh:=⟨_,zhj,by
  rintro Hi H vs ds Q Q2 s dl ⟨d,es,rfl,h,q⟩ fin
  obtain ⟨v,rfl,den⟩:=zd6 dl
  rcases h with rfl | rfl
  · obtain ⟨a,us,rfl,h1,h2⟩:=den.lstI
    refine ⟨a,us,rfl,.inl ⟨zaK s.sub h1,fun l hl=>?_⟩⟩
    have e:=Ext.new s hl (.tup us); exact fin _ _ _ _ e (Den.mkT zP (h2.mono e.hi)) q
  · obtain ⟨a,us,rfl,h1,h2⟩:=den.tupI
    exact ⟨a,us,rfl,.inr ⟨zaO s.sub h1,fin Hi H _ _ (Ext.refl s) den q⟩⟩⟩
def zqc:D→Option String
  | .non=>some "NoneType"
  | .bl _=>some "bool"
  | .int _=>some "int"
  | .str _=>some "str"
  | .lst _=>some "list"
  | .tup _=>some "tuple"
  | .dic _=>some "dict"
  | _=>none
theorem znQ {Hi H:Hp} {x:V} {d:D} {t:String} (s:zaX Hi H) (den:Den K Hi x d) (h:zqc d=some t):zsS K H x t:=by
  cases den with
  | non=>exact (Option.some.inj h).symm
  | bl b=>exact (Option.some.inj h).symm
  | int i=>exact (Option.some.inj h).symm
  | str l=>exact (Option.some.inj h).symm
  | ty n=>cases h
  | adr b=>cases h
  | rng h'=>cases h
  | tup hq l r=>exact .inr (.inl ⟨(Option.some.inj h).symm,_,SqT.of (s _ _ hq)⟩)
  | lst hq l r=>exact .inl ⟨(Option.some.inj h).symm,_,zaK s hq⟩
  | dicK hq l r r2=>exact .inr (.inr ⟨(Option.some.inj h).symm,.inl ⟨_,zdr s hq⟩⟩)
  | dicT hq l r r2=>cases h
  | cls C=>cases h
  | obj hq l r r2=>cases h
  | excN hq=>cases h
  | exc hq h2 l r r2=>cases h
def ziu:RM':=fun x ds Q=>∃ l y,x=.str l∧ds=[.str y]∧l.length≤sizeLine∧Q (.str (Txt.rstripChars (st l) (st y)).cps.toList)
theorem znx:Met X "str" "str.rstrip" ziu:=⟨_,zlK,by
  rintro Hi H x vs dx ds Q Q2 s d1 dl ⟨l,y,rfl,rfl,hl,q⟩ fin
  obtain ⟨v,rfl,den⟩:=zd6 dl
  refine ⟨_,_,d1.strI,by rw [den.strI],by rw [zbP]; exact hl,?_⟩
  rw [zla (Txt.rstripChars (st l) (st y))]; exact fin Hi H _ _ (Ext.refl s) (.str _) q⟩
end
end PL
namespace PL
open PySem L2
section
variable {X:Cx} {a b c:Expr} {pos:Pos} {ta tb tc:TE'}
def zgF:R2':=fun x y Q=>(∃ i j,x=.int i∧y=.int j∧Q (.int (i+j)))∨ziA x y Q
theorem zuf:Op2 X (binaryOp .Add) zgF:=zue.or zr9
end
structure Df (K:PySem.W.Frag) (mg:Str→Option Value) (x:Str) (st:Stmt) (ps:List Str):Prop where
  ex:∃ f fd,Fun K x x st f fd∧zdi K fd ps []∧mg x=some (.ref f)
structure Fn (P:Program) (w:World) (K:PySem.W.Frag) (mg:Str→Option Value) (base:Heap) (k:Nat) (x:Str) (ps:List Str) (sp:Sp'):Prop where
  ex:∃ f fd,FnOk P w K mg base CX0 k f fd ps (zmz K sp)∧zdi K fd ps []∧PySem.W.keepIn K (.ref f)=true∧mg x=some (.ref f)∧∃ oc od osl,K.lookup f=some ⟨oc,od,.func fd,osl⟩
section
variable {P:Program} {w:World} {K:PySem.W.Frag} {mg:Str→Option Value} {base:Heap} {k:Nat} {x:Str} {ps:List Str} {sp:Sp'}
theorem Df.ok {st:Stmt} {N:List Str} (d:Df K mg x st ps) (S:FnScope N ps (zj st)) (len:∀ ds Q,sp ds Q→ds.length=ps.length)
    (hbody:∀ (f:Addr) (cdv:Value) (A:Around) (outer:List Env) (s:Shared) (H:Hp) (E:XK),Room k (A.deeper (PyProof.Rows.envOfC x (zj st) s.heap.objs.size f cdv))→∀ ds Q,sp ds Q →
      ∃ t,PSs' (zkX CX0 P w K mg base N x (zj st) f cdv A outer s H E).nox (zbD st) t∧t { nx:=fun _=>Q (.val .non),rt:=fun r _=>Q r } (zhp N ds)):Fn P w K mg base (k+1) x ps sp:=by
  obtain ⟨f,fd,F,b,m⟩:=d.ex; obtain ⟨oc,od,kV,doc,pm,an,cdv,ct,osl,e,lk,_⟩:=F.ex; exact ⟨f,fd,PL.Fun.ok' F S len (hbody f),b,F.kp,m,oc,od,osl,lk⟩
end
section
variable {X:Cx} {k:Nat} {x:Str} {ps:List Str} {sp:Sp'} {p pos:Pos} {e:Expr} {es:List Expr} {t:TA'}
theorem zaJ (h:Fn X.prog X.w X.K X.mg X.base k x ps sp) (hr:Room k X.A) (ha:PA' X (e :: es) t) (hg:Gl X x:=by rfl) (hdb:(x == ("__debug__":Str))=false:=by decide) :
    PE' X (.Call (.Name x p) (e :: es) [] pos) (zx sp t):=by
  obtain ⟨f,fd,F,b,kp,m,_⟩:=h.ex; exact zng F hr m kp b ha hg hdb
theorem zrN (h:Fn X.prog X.w X.K X.mg X.base k x ps sp) (hr:Room k X.A) (ha:PA' X (e :: es) t) (hg:Gl X x:=by rfl) (hdb:(x == ("__debug__":Str))=false:=by decide) :
    PO' X (.Call (.Name x p) (e :: es) [] pos) (zm sp t):=by
  obtain ⟨f,fd,F,b,kp,m,_⟩:=h.ex; exact zpF F hr m kp b ha hg hdb
end
end PL
namespace PL
open PySem L2
section
variable {X:Cx} {pos:Pos}
def zlj:RS':=fun x lo hi Q=>zkt x lo hi Q∨zku x lo hi Q
theorem zvw:Sli X zlj:=ztI.or zrm
end
end PL
namespace PL
open PySem L2
@[simp] theorem ex2 {α β:Type} {x:α} {y:β} {P:α→β→Prop}:(∃ a b,(x=a∧y=b)∧P a b)↔P x y:=⟨fun ⟨_,_,⟨e1,e2⟩,h⟩=>e1 ▸ e2 ▸ h,fun h=>⟨x,y,⟨rfl,rfl⟩,h⟩⟩
@[simp] theorem ztw (d:D):(Res.val d).toD=d:=rfl
@[simp] theorem ztx (o:OD):(Res.own o).toD=o.toD:=rfl
@[simp] theorem zuR (d:D→D) (o:OD):(Res.bk d o).toD=d o.toD:=rfl
@[simp] theorem zu7 (l:List D):(OD.lst l).toD=.lst l:=rfl
@[simp] theorem zu9 (l:List (D × D)):(OD.dic l).toD=.dic l:=rfl
@[simp] theorem zu8 (l:List (D × D)):(OD.dit l).toD=.dit l:=rfl
@[simp] theorem zrg (N:List Str) (ds:List D):zhp N ds=ds.map .val ++ List.replicate (N.length-ds.length) .emp:=rfl
@[simp] theorem ztp (d:D):voS (.val d)=.val d:=rfl
@[simp] theorem ztr:voS .emp=.emp:=rfl
@[simp] theorem ztq (o:OD):voS (.own o)=.emp:=rfl
@[simp] theorem zuQ:vo []=[]:=rfl
@[simp] theorem zto (s:Slot) (Γ:Sts):vo (s :: Γ)=voS s :: vo Γ:=rfl
@[simp] theorem zsW (ds:List D):zoo (.lst ds)=some ds:=rfl
@[simp] theorem zsT (ds:List D):zoo (.tup ds)=some ds:=rfl
@[simp] theorem zsU (l:List Nat):zoo (.str l)=some (l.map fun c=>.str [c]):=rfl
@[simp] theorem zuG (Γ:Sts):zmI [] Γ=[]:=rfl
@[simp] theorem ztk (src:List (Option Nat)) (Γ:Sts):zmI (none :: src) Γ=.emp :: zmI src Γ:=rfl
@[simp] theorem ztj (i:Nat) (src:List (Option Nat)) (Γ:Sts):zmI (some i :: src) Γ=(match Γ[i]? with | some (.val d)=>.val d | _=>.emp) :: zmI src Γ:=rfl
@[simp] theorem zsG (g:TG') (tc:TT') (te:TE') (Q:List D→Prop) (acc:List D) (Γ:Sts):zdg g tc te Q [] acc Γ↔Q acc:=Iff.rfl
@[simp] theorem zth (g:TG') (tb:TS') (N:Ends') (Γ:Sts):zim g tb N [] Γ↔N.nx Γ:=Iff.rfl
section
variable {Q:D→Prop}
@[simp] theorem zu2 (g:Int→Int→D) (i j:Int):zpn g (.int i) (.int j) Q↔Q (g i j):=by simp [zpn]
@[simp] theorem zvC (C:Int→Int→Prop) (g:Int→Int→D) (i j:Int):rI' C g (.int i) (.int j) Q↔C i j∧Q (g i j):=by simp [rI']
@[simp] theorem ztg (i j:Int):zgF (.int i) (.int j) Q↔Q (.int (i+j)):=by simp [zgF,ziA]
@[simp] theorem ztf (l m:List Nat):zgF (.str l) (.str m) Q↔l.length+m.length≤sizeLine∧Q (.str (l ++ m)):=by simp [zgF,ziA]
@[simp] theorem zuu (i j:Int):eqS (.int i) (.int j)=some (decide (i=j)):=rfl
@[simp] theorem zus (i j:List Nat):eqS (.str i) (.str j)=some (decide (i=j)):=rfl
@[simp] theorem zvc (i j:Bool):eqS (.bl i) (.bl j)=some (decide (i=j)):=rfl
@[simp] theorem zut:eqS .non .non=some true:=rfl
@[simp] theorem zqt (i:List Nat):eqS .non (.str i)=some false:=rfl
@[simp] theorem zqu (i:Int):eqS .non (.int i)=some false:=rfl
@[simp] theorem zqs (i:List Nat):eqS (.str i) .non=some false:=rfl
@[simp] theorem zqv (i:Int):eqS (.int i) .non=some false:=rfl
@[simp] theorem ztS (ds:List D) (i:Int):zmA (.lst ds) (.int i) Q↔∃ d,atI ds i=some d∧Q d:=by simp [zmA]
@[simp] theorem ztQ (ds:List D) (i:Int):zmA (.tup ds) (.int i) Q↔∃ d,atI ds i=some d∧Q d:=by simp [zmA]
@[simp] theorem ztR (l:List Nat) (i:Int):zmA (.str l) (.int i) Q↔l.length≤sizeLine∧∃ c,atI l i=some c∧Q (.str [c]):=by simp [zmA]
@[simp] theorem zuX (l:List Nat) (n:Int):zlj (.str l) none (some n) Q↔l.length≤sizeLine∧0≤n∧Q (.str (l.take n.toNat)):=by simp [zlj,zkt,zku]
@[simp] theorem zsY (l:List Nat) (n:Int):zlj (.str l) (some n) none Q↔l.length≤sizeLine∧0≤n∧Q (.str (l.drop n.toNat)):=by simp [zlj,zkt,zku]
@[simp] theorem ztL (ds:List D) (lo hi:Option Int):zlj (.lst ds) lo hi Q↔Q (.lst (zcV ds lo hi)):=by simp [zlj,zkt,zku]
@[simp] theorem zs5 (l:List Nat):zf3 [.str l] Q↔l.length≤sizeLine∧Q (.int (l.length:Nat)):=by simp [zf3]
@[simp] theorem zs6 (l:List D):zf3 [.lst l] Q↔Q (.int (l.length:Nat)):=by simp [zf3]
@[simp] theorem zs4 (l:List D):zf3 [.tup l] Q↔Q (.int (l.length:Nat)):=by simp [zf3]
@[simp] theorem ztK (i:Int):zpm [.int i] Q↔i.natAbs.log2<1920∧Q (.str (zmB i)):=by simp [zpm]
@[simp] theorem zsX (ds:List D):zlh [.lst ds] Q↔Q (.tup ds):=by simp [zlh]
@[simp] theorem zqR (l y:List Nat):ziu (.str l) [.str y] Q↔l.length≤sizeLine∧Q (.str (Txt.rstripChars (st l) (st y)).cps.toList):=by simp [ziu]
@[simp] theorem ztt (l:List Nat):tyD "str" (.str l)↔True:=by simp [tyD]
end
@[simp] theorem zkV (K:PySem.W.Frag):PySem.W.kitOne K (.type "NoneType") (.type "str")=some false:=by rfl
@[simp] theorem zoN (K:PySem.W.Frag):PySem.W.kitOne K (.type "bool") (.type "str")=some false:=by rfl
@[simp] theorem zqa (K:PySem.W.Frag):PySem.W.kitOne K (.type "int") (.type "str")=some false:=by rfl
@[simp] theorem zp8 (K:PySem.W.Frag):PySem.W.kitOne K (.type "str") (.type "str")=some true:=by rfl
@[simp] theorem zoG (K:PySem.W.Frag):PySem.W.kitOne K (.type "list") (.type "str")=some false:=by rfl
@[simp] theorem znD (K:PySem.W.Frag):PySem.W.kitOne K (.type "tuple") (.type "str")=some false:=by rfl
@[simp] theorem zoL (K:PySem.W.Frag):PySem.W.kitOne K (.type "dict") (.type "str")=some false:=by rfl
@[simp] theorem zkK (K:PySem.W.Frag):PySem.W.kitOne K (.type "NoneType") (.type "bool")=some false:=by rfl
@[simp] theorem znP (K:PySem.W.Frag):PySem.W.kitOne K (.type "bool") (.type "bool")=some true:=by rfl
@[simp] theorem zoK (K:PySem.W.Frag):PySem.W.kitOne K (.type "int") (.type "bool")=some false:=by rfl
@[simp] theorem zoF (K:PySem.W.Frag):PySem.W.kitOne K (.type "str") (.type "bool")=some false:=by rfl
@[simp] theorem znI (K:PySem.W.Frag):PySem.W.kitOne K (.type "list") (.type "bool")=some false:=by rfl
@[simp] theorem zmE (K:PySem.W.Frag):PySem.W.kitOne K (.type "tuple") (.type "bool")=some false:=by rfl
@[simp] theorem znM (K:PySem.W.Frag):PySem.W.kitOne K (.type "dict") (.type "bool")=some false:=by rfl
@[simp] theorem zkW (K:PySem.W.Frag):PySem.W.kitOne K (.type "NoneType") (.type "int")=some false:=by rfl
@[simp] theorem zoO (K:PySem.W.Frag):PySem.W.kitOne K (.type "bool") (.type "int")=some true:=by rfl
@[simp] theorem zqb (K:PySem.W.Frag):PySem.W.kitOne K (.type "int") (.type "int")=some true:=by rfl
@[simp] theorem zp9 (K:PySem.W.Frag):PySem.W.kitOne K (.type "str") (.type "int")=some false:=by rfl
@[simp] theorem zoH (K:PySem.W.Frag):PySem.W.kitOne K (.type "list") (.type "int")=some false:=by rfl
@[simp] theorem znE (K:PySem.W.Frag):PySem.W.kitOne K (.type "tuple") (.type "int")=some false:=by rfl
@[simp] theorem zoM (K:PySem.W.Frag):PySem.W.kitOne K (.type "dict") (.type "int")=some false:=by rfl
@[simp] theorem zkI (K:PySem.W.Frag):PySem.W.kitOne K (.type "NoneType") (.type "list")=some false:=by rfl
@[simp] theorem znN (K:PySem.W.Frag):PySem.W.kitOne K (.type "bool") (.type "list")=some false:=by rfl
@[simp] theorem zoI (K:PySem.W.Frag):PySem.W.kitOne K (.type "int") (.type "list")=some false:=by rfl
@[simp] theorem zoD (K:PySem.W.Frag):PySem.W.kitOne K (.type "str") (.type "list")=some false:=by rfl
@[simp] theorem znG (K:PySem.W.Frag):PySem.W.kitOne K (.type "list") (.type "list")=some true:=by rfl
@[simp] theorem zmC (K:PySem.W.Frag):PySem.W.kitOne K (.type "tuple") (.type "list")=some false:=by rfl
@[simp] theorem znK (K:PySem.W.Frag):PySem.W.kitOne K (.type "dict") (.type "list")=some false:=by rfl
@[simp] theorem zjQ (K:PySem.W.Frag):PySem.W.kitOne K (.type "NoneType") (.type "tuple")=some false:=by rfl
@[simp] theorem zmH (K:PySem.W.Frag):PySem.W.kitOne K (.type "bool") (.type "tuple")=some false:=by rfl
@[simp] theorem znJ (K:PySem.W.Frag):PySem.W.kitOne K (.type "int") (.type "tuple")=some false:=by rfl
@[simp] theorem znF (K:PySem.W.Frag):PySem.W.kitOne K (.type "str") (.type "tuple")=some false:=by rfl
@[simp] theorem zmF (K:PySem.W.Frag):PySem.W.kitOne K (.type "list") (.type "tuple")=some false:=by rfl
@[simp] theorem zlW (K:PySem.W.Frag):PySem.W.kitOne K (.type "tuple") (.type "tuple")=some true:=by rfl
@[simp] theorem zmG (K:PySem.W.Frag):PySem.W.kitOne K (.type "dict") (.type "tuple")=some false:=by rfl
@[simp] theorem zkJ (K:PySem.W.Frag):PySem.W.kitOne K (.type "NoneType") (.type "dict")=some false:=by rfl
@[simp] theorem znO (K:PySem.W.Frag):PySem.W.kitOne K (.type "bool") (.type "dict")=some false:=by rfl
@[simp] theorem zoJ (K:PySem.W.Frag):PySem.W.kitOne K (.type "int") (.type "dict")=some false:=by rfl
@[simp] theorem zoE (K:PySem.W.Frag):PySem.W.kitOne K (.type "str") (.type "dict")=some false:=by rfl
@[simp] theorem znH (K:PySem.W.Frag):PySem.W.kitOne K (.type "list") (.type "dict")=some false:=by rfl
@[simp] theorem zmD (K:PySem.W.Frag):PySem.W.kitOne K (.type "tuple") (.type "dict")=some false:=by rfl
@[simp] theorem znL (K:PySem.W.Frag):PySem.W.kitOne K (.type "dict") (.type "dict")=some true:=by rfl
section
variable {Q:D→Prop}
end
end PL
namespace PL
open PySem L2
class ME (t:TE'):Prop where
  mono:∀ Γ Q Q',(∀ d Γ',Q d Γ'→Q' d Γ')→t Γ Q→t Γ Q'
class MT (t:TT'):Prop where
  mono:∀ Γ Q Q',(∀ d Γ',Q d Γ'→Q' d Γ')→t Γ Q→t Γ Q'
class MA (t:TA'):Prop where
  mono:∀ Γ Q Q',(∀ d Γ',Q d Γ'→Q' d Γ')→t Γ Q→t Γ Q'
class MO (t:TO'):Prop where
  mono:∀ Γ Q Q',(∀ d Γ',Q d Γ'→Q' d Γ')→t Γ Q→t Γ Q'
class MP (t:TP'):Prop where
  mono:∀ Γ Q Q',(∀ d Γ',Q d Γ'→Q' d Γ')→t Γ Q→t Γ Q'
class MI (t:TI'):Prop where
  mono:∀ Γ Q Q',(∀ d Γ',Q d Γ'→Q' d Γ')→t Γ Q→t Γ Q'
class MG (g:TG'):Prop where
  mono:∀ d Γ Q Q',(∀ Γ',Q Γ'→Q' Γ')→g d Γ Q→g d Γ Q'
class MR2 (r:R2'):Prop where
  mono:∀ x y Q Q',(∀ d,Q d→Q' d)→r x y Q→r x y Q'
class MRC (r:RC'):Prop where
  mono:∀ x Q Q',(∀ d,Q d→Q' d)→r x Q→r x Q'
class MRS (r:RS'):Prop where
  mono:∀ x y z Q Q',(∀ d,Q d→Q' d)→r x y z Q→r x y z Q'
class MSp (sp:Sp'):Prop where
  mono:∀ x Q Q',(∀ d,Q d→Q' d)→sp x Q→sp x Q'
structure Ends'.le (N N':Ends'):Prop where
  nx:∀ Γ,N.nx Γ→N'.nx Γ
  rt:∀ r Γ,N.rt r Γ→N'.rt r Γ
  bk:∀ Γ,N.bk Γ→N'.bk Γ
  ct:∀ Γ,N.ct Γ→N'.ct Γ
class MS (t:TS'):Prop where
  mono:∀ N N' Γ,N.le N'→t N Γ→t N' Γ
instance {i:Nat}:ME (zQ i):=⟨fun _ _ _ h ⟨d,e,q⟩=>⟨d,e,h _ _ q⟩⟩
instance {d:D}:ME (tC' d):=⟨fun _ _ _ h q=>h _ _ q⟩
instance {t:TO'} [MO t]:ME (za9 t):=⟨fun Γ _ _ h q=>MO.mono (t:=t) Γ _ _ (fun _ _ z=>h _ _ z) q⟩
instance {r:R2'} {a b:TE'} [MR2 r] [ME a] [ME b]:ME (zaR r a b):=⟨fun Γ _ _ h q=>ME.mono (t:=a) Γ _ _ (fun _ _ z=>ME.mono (t:=b) _ _ _ (fun _ _ z=>MR2.mono (r:=r) _ _ _ _ (fun _ z=>h _ _ z) z) z) q⟩
instance {t:TE'} [ME t]:MT (tB' t):=⟨fun Γ _ _ h q=>ME.mono (t:=t) Γ _ _ (fun _ _ ⟨b,e,z⟩=>⟨b,e,h _ _ z⟩) q⟩
instance {t u:TT'} [MT t] [MT u]:MT (zam t u):=⟨fun Γ _ _ h q=>MT.mono (t:=t) Γ _ _ (fun b _ z=>by
  cases b with
  | true=>exact MT.mono (t:=u) _ _ _ h z
  | false=>exact h _ _ z) q⟩
instance {t u:TT'} [MT t] [MT u]:MT (zbf t u):=⟨fun Γ _ _ h q=>MT.mono (t:=t) Γ _ _ (fun b _ z=>by
  cases b with
  | false=>exact MT.mono (t:=u) _ _ _ h z
  | true=>exact h _ _ z) q⟩
instance:MT za8:=⟨fun _ _ _ h q=>h _ _ q⟩
instance:MA zac:=⟨fun _ _ _ h q=>h _ _ q⟩
instance {a:TE'} {r:TA'} [ME a] [MA r]:MA (zv a r):=⟨fun Γ _ _ h q=>ME.mono (t:=a) Γ _ _ (fun _ _ z=>MA.mono (t:=r) _ _ _ (fun _ _ z=>h _ _ z) z) q⟩
instance {t:TA'} [MA t]:ME (zae t):=⟨fun Γ _ _ h q=>MA.mono (t:=t) Γ _ _ (fun _ _ ⟨a,z⟩=>⟨a,h _ _ z⟩) q⟩
instance {r:RC'} {t:TA'} [MRC r] [MA t]:ME (zbb r t):=⟨fun Γ _ _ h q=>MA.mono (t:=t) Γ _ _ (fun _ _ z=>MRC.mono (r:=r) _ _ _ (fun _ z=>h _ _ z) z) q⟩
instance:MP zag:=⟨fun _ _ _ h q=>h _ _ q⟩
instance {t:TE'} [ME t]:MP (zbg t):=⟨fun Γ _ _ h q=>ME.mono (t:=t) Γ _ _ (fun _ _ ⟨i,e,z⟩=>⟨i,e,h _ _ z⟩) q⟩
instance {r:RS'} {e:TE'} {l u:TP'} [MRS r] [ME e] [MP l] [MP u]:ME (zbe r e l u):=⟨fun Γ _ _ h q=>ME.mono (t:=e) Γ _ _ (fun _ _ z=>MP.mono (t:=l) _ _ _ (fun _ _ z=>MP.mono (t:=u) _ _ _ (fun _ _ z=>MRS.mono (r:=r) _ _ _ _ _ (fun _ z=>h _ _ z) z) z) z) q⟩
instance {sp:Sp'} {t:TA'} [MSp sp] [MA t]:ME (zx sp t):=⟨fun Γ _ _ h q=>MA.mono (t:=t) Γ _ _ (fun _ _ z=>MSp.mono (sp:=sp) _ _ _ (fun _ z=>h _ _ z) z) q⟩
instance {t:TE'} [ME t]:MI (zad t):=⟨fun Γ _ _ h q=>ME.mono (t:=t) Γ _ _ (fun _ _ ⟨i,e,z⟩=>⟨i,e,h _ _ z⟩) q⟩
instance {i:Nat}:MG (zp i):=⟨fun _ _ _ _ h q=>h _ q⟩
theorem zeN {g:TG'} {tc:TT'} {te:TE'} [MG g] [MT tc] [ME te] {Q Q':List D→Prop} (h:∀ l,Q l→Q' l):∀ (ds acc:List D) (Γ:Sts),zdg g tc te Q ds acc Γ→zdg g tc te Q' ds acc Γ
  | [],acc,Γ,q=>h acc q
  | d :: ds,acc,Γ,q=>MG.mono (g:=g) _ _ _ _ (fun Γ2 z=>MT.mono (t:=tc) _ _ _ (fun b Γ3 z=>by
    cases b with
    | true=>exact ME.mono (t:=te) _ _ _ (fun y Γ4 z=>zeN h ds _ _ z) z
    | false=>exact zeN h ds _ _ z) z) q
instance {ti:TI'} {src:List (Option Nat)} {g:TG'} {tc:TT'} {te:TE'} [MI ti] [MG g] [MT tc] [ME te]:MO (zw ti src g tc te):=⟨fun Γ _ _ h q=>MI.mono (t:=ti) Γ _ _ (fun ds Γ1 ⟨a,z⟩=>⟨a,zeN (fun l=>h _ _) _ _ _ z⟩) q⟩
theorem Ends'.le.nxt {N N':Ends'} (h:N.le N') {P P':Sts→Prop} (hp:∀ Γ,P Γ→P' Γ):Ends'.le { N with nx:=P } { N' with nx:=P' }:=⟨hp,h.rt,h.bk,h.ct⟩
instance:MS zr:=⟨fun _ _ _ h q=>h.nx _ q⟩
instance {t u:TS'} [MS t] [MS u]:MS (zab t u):=⟨fun N N' Γ h q=>MS.mono (t:=t) _ _ _ (h.nxt fun Γ' z=>MS.mono (t:=u) N N' Γ' h z) q⟩
instance {t:TE'} [ME t]:MS (zW t):=⟨fun N N' Γ h q=>ME.mono (t:=t) _ _ _ (fun _ _ z=>h.rt _ _ z) q⟩
instance {c:TT'} {t u:TS'} [MT c] [MS t] [MS u]:MS (zY c t u):=⟨fun N N' Γ h q=>MT.mono (t:=c) _ _ _ (fun b Γ1 z=>by
  cases b with
  | true=>exact MS.mono (t:=t) N N' Γ1 h z
  | false=>exact MS.mono (t:=u) N N' Γ1 h z) q⟩
instance {t:TE'} {g:TG'} [ME t] [MG g]:MS (zZ t g):=⟨fun N N' Γ h q=>ME.mono (t:=t) _ _ _ (fun _ _ z=>MG.mono (g:=g) _ _ _ _ (fun _ z=>h.nx _ z) z) q⟩
instance {t:TO'} {i:Nat} [MO t]:MS (zy t i):=⟨fun N N' Γ h q=>MO.mono (t:=t) _ _ _ (fun _ _ z=>h.nx _ z) q⟩
theorem zjc {g:TG'} {tb:TS'} [MG g] [MS tb] {N:Ends'} (I:List D→Sts→Prop) (h0:∀ Γ,I [] Γ→N.nx Γ) (hs:∀ d ds Γ,I (d :: ds) Γ→g d Γ fun Γ2=>tb { N with nx:=I ds,ct:=I ds,bk:=N.nx } Γ2) :
    ∀ (ds:List D) (Γ:Sts),I ds Γ→zim g tb N ds Γ
  | [],Γ,h=>h0 Γ h
  | d :: ds,Γ,h=>MG.mono (g:=g) _ _ _ _ (fun Γ2 z=>MS.mono (t:=tb) { N with nx:=I ds,ct:=I ds,bk:=N.nx } { N with nx:=zim g tb N ds,ct:=zim g tb N ds,bk:=N.nx } _ ⟨fun Γ3 z=>zjc I h0 hs ds Γ3 z,fun _ _ z=>z,fun _ z=>z,fun Γ3 z=>zjc I h0 hs ds Γ3 z⟩ z) (hs d ds Γ h)
theorem zdy {g:TG'} {tb:TS'} [MG g] [MS tb] {N:Ends'} {ds:List D} {Γ:Sts} (I:Nat→Sts→Prop) (h:I 0 Γ) (hs:∀ (i:Nat) d Γ,ds[i]?=some d→I i Γ→g d Γ fun Γ2=>tb { N with nx:=I (i+1),ct:=I (i+1),bk:=N.nx } Γ2) (h0:∀ Γ,I ds.length Γ→N.nx Γ):zim g tb N ds Γ:=by
  refine zjc (fun es Γ=>∃ i,es=ds.drop i∧i≤ds.length∧I i Γ) ?_ ?_ ds Γ ⟨0,rfl,Nat.zero_le _,h⟩
  · rintro Γ ⟨i,e,hi,q⟩
    have:i=ds.length:=by
      have:=congrArg List.length e
      rw [List.length_drop] at this
      simp at this
      omega
    subst this; exact h0 Γ q
  · rintro d es Γ ⟨i,e,hi,q⟩
    have hlt:i<ds.length:=by
      have:=congrArg List.length e
      rw [List.length_drop] at this
      simp at this
      omega
    rw [List.drop_eq_getElem_cons hlt] at e
    injection e with e1 e2
    subst e1
    have go:∀ Γ',I (i+1) Γ'→∃ j,es=ds.drop j∧j≤ds.length∧I j Γ':=fun Γ' z=>⟨i+1,e2,hlt,z⟩
    exact MG.mono (g:=g) _ _ _ _ (fun Γ2 z=>MS.mono (t:=tb) { N with nx:=I (i+1),ct:=I (i+1),bk:=N.nx } _ _ ⟨go,fun _ _ z=>z,fun _ z=>z,go⟩ z) (hs i _ Γ (List.getElem?_eq_getElem hlt) q)
theorem zk0 {c:TT'} {tb:TS'} [MT c] [MS tb] {N:Ends'} {Γ:Sts} (I:Sts→Prop) (μ:Sts→Nat) (h:I Γ) (hs:∀ Γ,I Γ→c Γ fun b Γ1=>if b=true then tb { N with nx:=fun Γ2=>I Γ2∧μ Γ2<μ Γ,ct:=fun Γ2=>I Γ2∧μ Γ2<μ Γ,bk:=N.nx } Γ1 else N.nx Γ1):zk7 c tb N Γ:=by
  refine ⟨fun m Γ=>m=μ Γ∧I Γ,⟨_,rfl,h⟩,?_⟩
  rintro m Γ ⟨rfl,p⟩
  refine MT.mono (t:=c) _ _ _ (fun b Γ1 z=>?_) (hs Γ p)
  cases b with
  | true=>exact MS.mono (t:=tb) { N with nx:=fun Γ2=>I Γ2∧μ Γ2<μ Γ,ct:=fun Γ2=>I Γ2∧μ Γ2<μ Γ,bk:=N.nx } _ _ ⟨fun Γ2 ⟨a,b⟩=>⟨_,b,rfl,a⟩,fun _ _ z=>z,fun _ z=>z,fun Γ2 ⟨a,b⟩=>⟨_,b,rfl,a⟩⟩ z
  | false=>exact z
theorem zeM {g:TG'} {tc:TT'} {te:TE'} [MG g] [MT tc] [ME te] {Q:List D→Prop} {ds:List D} {Γ:Sts} (I:Nat→List D→Sts→Prop) (h:I 0 [] Γ)
    (hs:∀ (i:Nat) d acc Γ,ds[i]?=some d→I i acc Γ→g d Γ fun Γ2=>tc Γ2 fun b Γ3=>if b=true then te Γ3 fun y Γ4=>I (i+1) (acc ++ [y]) (vo Γ4) else I (i+1) acc (vo Γ3)) (h0:∀ acc Γ,I ds.length acc Γ→Q acc):zdg g tc te Q ds [] Γ:=by
  have key:∀ (n i:Nat) (acc:List D) (Γ:Sts),n=ds.length-i→i≤ds.length→I i acc Γ→zdg g tc te Q (ds.drop i) acc Γ:=by
    intro n
    induction n with
    | zero =>
      intro i acc Γ hn hi q
      have:i=ds.length:=by omega
      subst this; rw [List.drop_eq_nil_of_le (Nat.le_refl _)]; exact h0 acc Γ q
    | succ n ih =>
      intro i acc Γ hn hi q
      have hlt:i<ds.length:=by omega
      rw [List.drop_eq_getElem_cons hlt]
      refine MG.mono (g:=g) _ _ _ _ (fun Γ2 z=>MT.mono (t:=tc) _ _ _ (fun b Γ3 z=>?_) z) (hs i _ acc Γ (List.getElem?_eq_getElem hlt) q)
      cases b with
      | true=>exact ME.mono (t:=te) _ _ _ (fun y Γ4 z=>ih (i+1) _ _ (by omega) hlt z) z
      | false=>exact ih (i+1) _ _ (by omega) hlt z
  exact key _ 0 [] Γ rfl (Nat.zero_le _) h
instance {g:Int→Int→D}:MR2 (zpn g):=⟨fun _ _ _ _ h ⟨i,j,a,b,q⟩=>⟨i,j,a,b,h _ q⟩⟩
instance {C:Int→Int→Prop} {g:Int→Int→D}:MR2 (rI' C g):=⟨fun _ _ _ _ h ⟨i,j,a,b,c,q⟩=>⟨i,j,a,b,c,h _ q⟩⟩
instance:MR2 ziA:=⟨fun _ _ _ _ h ⟨i,j,a,b,c,q⟩=>⟨i,j,a,b,c,h _ q⟩⟩
instance:MR2 zgF:=⟨fun _ _ _ _ h q=>by
  rcases q with ⟨i,j,a,b,q⟩ | q
  · exact .inl ⟨i,j,a,b,h _ q⟩
  · exact .inr (MR2.mono (r:=ziA) _ _ _ _ h q)⟩
instance {neg:Bool}:MR2 (zgf neg):=⟨fun _ _ _ _ h ⟨a,b,e,q⟩=>⟨a,b,e,h _ q⟩⟩
instance:MR2 zmA:=⟨fun _ _ _ _ h ⟨i,e,q⟩=>⟨i,e,by
  rcases q with ⟨ds,d,a,b,q⟩ | ⟨ds,d,a,b,q⟩ | ⟨l,c,a,b,e,q⟩
  · exact .inl ⟨ds,d,a,b,h _ q⟩
  · exact .inr (.inl ⟨ds,d,a,b,h _ q⟩)
  · exact .inr (.inr ⟨l,c,a,b,e,h _ q⟩)⟩⟩
instance:MRS zlj:=⟨fun _ _ _ _ _ h q=>by
  rcases q with ⟨l,a,b,q⟩ | ⟨l,a,q⟩
  · refine .inl ⟨l,a,b,?_⟩
    rcases q with ⟨c,n,d,e,q⟩ | ⟨c,n,d,e,q⟩
    · exact .inl ⟨c,n,d,e,h _ q⟩
    · exact .inr ⟨c,n,d,e,h _ q⟩
  · exact .inr ⟨l,a,h _ q⟩⟩
instance:MRC zf3:=⟨fun _ _ _ h ⟨d,e,q⟩=>⟨d,e,by
  rcases q with ⟨l,a,b,q⟩ | ⟨l,a,q⟩ | ⟨l,a,q⟩
  · exact .inl ⟨l,a,b,h _ q⟩
  · exact .inr (.inl ⟨l,a,h _ q⟩)
  · exact .inr (.inr ⟨l,a,h _ q⟩)⟩⟩
end PL
namespace PL
open PySem L2
def zis:Sp':=fun ds Q=>∃ ns:List Int,ds=[.lst (ns.map .int)]∧ns.length≤63∧Q (.val (.bl true))
theorem zj6 {K:PySem.W.Frag} {H:Hp}:∀ ns:List Int,zbU K H (ns.map V.int) (ns.map D.int)
  | []=>.nil
  | n :: ns=>.cons (.int n) (zj6 ns)
theorem zmP (K:PySem.W.Frag) (H:Hp) (a:Addr) (ns:List Int) (hl:ns.length≤63) (hO:ztl H) (hS:SqL K H a (ns.map V.int)):zmz K zis [.ref a] H (fun v _=>v=.bl true) (fun _ _ _=>False):=by
  refine ⟨H,[.lst (ns.map .int)],fun r=>r=.val (.bl true),⟨zaX.refl _,fun b xs q=>q⟩,.cons (Den.mkL hS (zj6 ns)) .nil,⟨ns,rfl,hl,rfl⟩,?_⟩
  rintro Hi' H' v r ex ro rfl
  exact Den.blI ro
theorem zsf {P:Program} {w:World} {K:PySem.W.Frag} {mg:Str→Option Value} {k:Nat} {fa:Addr} {oc:Value} {od:Option Addr} {fd:FuncData} {sl:Array (Option Value)} {ps:List Str}
    (hfa:mg "law"=some (.ref fa)) (lk:K.lookup fa=some ⟨oc,od,.func fd,sl⟩) (base:Heap) (G:Fn P w K mg base k "law" ps zis):FnOk P w K mg base CX0 k fa fd ps (zmz K zis):=by
  obtain ⟨f,fd',F,_,_,m,oc',od',sl',lk'⟩:=G.ex; rw [hfa] at m; cases m; rw [lk] at lk'; cases lk'; exact F
theorem walk_law {l:PySem.W.OpenLaw} {k:Nat} {q:Program} {loose:List Str} {XP:(Str→Option Value)→Heap→Prop} {YP:World→Heap→Prop} {d:DefRec} {K:Params→PySem.W.Frag} {x:Str} (hn:l.most=some 63) (hdf:d.params.defaults=[]) (hr:Room k callerA)
    (hY:∀ (w:World) (h:Heap),YP w h→(K w.params).In h)
    (F:∀ (w:World) (mg:Str→Option Value) (fa:Addr) (h:Heap),(K w.params).In h→h.Ns mainGlobals mg→mg d.name=some (.ref fa) →
      ∃ fd:FuncData,(∀ (s:Shared) (u:Value),BindsTo s fd ⟨[u],[]⟩ [(x,u)])∧∀ base:Heap,(K w.params).In base→base.Ns mainGlobals mg→FnOk l.prog w (K w.params) mg base CX0 k fa fd [x] (zmz (K w.params) zis)) :
    PySem.W.WalkO q loose XP YP l.row.toRowW d [] (fun f vs=>PySem.call f vs) :=
  L2.walk_of (n:=63) (k:=k) (x:=x) (CX:=fun _=>CX0) (sp:=fun w=>zmz (K w.params) zis) hn (by decide) hdf hr hY F (fun _ _ a ns hl hO hS=>zmP _ _ a ns hl hO hS) fun _ _ _ _ _ z=>z
end PL
namespace L2
open PySem PySem.Spec PyProof.Rows
section
variable {X:Cx}
theorem zpX:OpR X (binaryOp .Add) (fun x y H Q=>∃ a b xs ys,x=.ref a∧y=.ref b∧SqT X.K H a xs∧SqT X.K H b ys∧xs.length+ys.length≤sizeLine∧(xs=[]→Q (.ref b) H)∧(xs≠[]→ys=[]→Q (.ref a) H) ∧
    (xs≠[]→ys≠[]→∀ p,H p=none→Q (.ref p) (upd H p (.tup (xs ++ ys))))):=by
  intro pins s σ H x y v u Q I rx ry h; obtain ⟨a,b,xs,ys,rfl,rfl,ha,hb,hz,q0,q1,q2⟩:=h
  by_cases hx:xs=[]
  · cases rx
    cases ry; obtain ⟨its,r1,p1,_⟩:=I.tuple ha; obtain ⟨its2,r2,p2,_⟩:=I.tuple hb
    obtain ⟨⟨cls,dd,data,sl⟩,ho,hc,n,hd⟩:=id p1
    obtain ⟨⟨cls2,dd2,data2,sl2⟩,ho2,hc2,n2,hd2⟩:=id p2
    simp only at hc hd hc2 hd2
    subst hc hd hc2 hd2
    have hi:its=[]:=r1.nil_iff.mpr hx
    refine concat_meets ⟨_,ho,rfl⟩ ⟨_,ho2,rfl⟩ noFill_tuple_add seq_tuple_add PySem.F.slot_tuple_add PySem.F.entry_tuple_add (PySem.F.args_tuple_add_2 _ _)
      (tuple_addW0 a b its.toArray its2.toArray n n2 dd dd2 sl sl2 (by simp [hi])) ⟨ho,ho2,?_⟩
    exact ⟨.ref b,H,I,rfl,q0 hx⟩
  · exact zpW pins s σ H _ _ v u Q I rx ry ⟨a,b,xs,ys,rfl,rfl,ha,hb,hx,hz,q1 hx,q2 hx⟩
end
end L2
namespace HT
open PySem PyProof.Rows
section
variable {prog:Program} {w:World} {A:Around} {E:Value→Shared→Prop} {s:Shared}
theorem getItem_tuple_whole {t sl:Addr} {items:Array Value} {vl vu:Value} {lo hi:Option Int} {Q:Value→Shared→Prop} (ht:IsTup s.heap t items) (hs:s.heap.IsSliceOf sl vl vu .none) (pl:IsPart vl lo) (pu:IsPart vu hi)
    (hw:sIx items.size 0 lo=0∧sIx items.size items.size hi=items.size) (h:Q (.ref t) s):wpAny (model prog w) A (getItem (.ref t) (.ref sl)) Q E s:=by
  obtain ⟨os,hos,hcs,hds⟩:=id hs
  have hTs:s.TypeIs (.ref sl) "slice":=⟨os,hos,hcs⟩
  unfold getItem
  try with_reducible refine wpAny_holding ?_
  first | refine wpAny_bind (wpAny_pure ?_) | skip
  refine wpAny_bind (wpAny_sequenceKey ht.typeIs (by decide) ?_)
  refine wpAny_bind (wpAny_callSpecial?_slot (name:=Str.ofString "__getitem__") ht.typeIs PyProof.Rows.slot_tuple_getitem
    (wpAny_call_entry PyProof.Rows.slot_tuple_getitem ht.typeIs entry_tuple_getitem ?_ (args_tuple_getitem _ _)))
  show wpAny _ _ (Builtin.Tuple.tupleItemsOf (.ref t) >>= _) _ _ s
  refine wpAny_bind (tupleItemsOf_ ht ?_); refine wpAny_bind (wpAny_typeOf hTs ?_)
  rw [if_pos (by decide)]
  refine wpAny_bind (zdb hs pl pu ?_)
  have hyes:((((sIx items.size 0 lo:Nat):Int) == 0 && (1:Int) == 1 && (sIx items.size items.size hi-sIx items.size 0 lo) == items.size)=true):=by
    rw [hw.1,hw.2]; simp
  show wpAny _ _ (if (((sIx items.size 0 lo:Nat):Int) == 0 && (1:Int) == 1 && (sIx items.size items.size hi-sIx items.size 0 lo) == items.size)=true then _ else _) _ _ s
  rw [if_pos hyes]; refine wpAny_bind (m:=Builtin.Tuple.tupleIsExact (.ref t)) ?_; unfold Builtin.Tuple.tupleIsExact; refine wpAny_bind (wpAny_typeOf ht.typeIs ?_); refine wpAny_pure ?_
  rw [if_pos (by decide)]
  exact wpAny_bind (wpAny_rule (wpAny_pure ⟨_,rfl,wpAny_pure h⟩))
end
end HT
namespace L2
open PySem PySem.Spec PyProof.Rows
section
variable {X:Cx}
theorem zpe:SlR X (fun x lo hi H Q=>∃ a xs,x=.ref a∧SqT X.K H a xs∧((HT.sIx xs.length 0 lo=0∧HT.sIx xs.length xs.length hi=xs.length)→Q (.ref a) H) ∧
    (¬ (HT.sIx xs.length 0 lo=0∧HT.sIx xs.length xs.length hi=xs.length)→∀ p,H p=none→Q (.ref p) (upd H p (.tup (zmh xs lo hi))))):=by
  intro pins s σ H x v vl vu lo hi sl Q I rx hs pl pu h; obtain ⟨a,xs,rfl,hx,q1,q2⟩:=h
  by_cases hw:HT.sIx xs.length 0 lo=0∧HT.sIx xs.length xs.length hi=xs.length
  · cases rx
    obtain ⟨its,r,ht,hz⟩:=I.tuple hx
    have hlen:its.toArray.size=xs.length:=by rw [List.size_toArray]; exact r.length.symm
    refine ⟨"tuple",_,PyProof.Rows.slot_tuple_getitem.lookup,ht.typeIs,?_⟩
    exact HT.getItem_tuple_whole ht hs pl pu (by rw [hlen]; exact hw) ⟨.ref a,H,I,rfl,q1 hw⟩
  · exact zrj pins s σ H _ v vl vu lo hi sl Q I rx hs pl pu ⟨a,xs,rfl,hx,hw,q2 hw⟩
end
end L2
namespace PL
open PySem L2
section
variable {X:Cx} {K:PySem.W.Frag}
def ziz:R2':=fun x y Q=>∃ xs ys,x=.tup xs∧y=.tup ys∧xs.length+ys.length≤sizeLine∧Q (.tup (xs ++ ys))
theorem zr8:Op2 X (binaryOp .Add) ziz:=⟨_,zpX,by
  rintro Hi H x y dx dy Q Q2 s d1 d2 ⟨xs,ys,rfl,rfl,hl,q⟩ fin
  obtain ⟨a,vs,rfl,h1,h2⟩:=d1.tupI; obtain ⟨b,us,rfl,h3,h4⟩:=d2.tupI
  refine ⟨a,b,vs,us,rfl,rfl,zaO s.sub h1,zaO s.sub h3,by rw [zi h2,zi h4]; exact hl,fun e=>?_,fun _ e=>?_,fun _ _ p hp=>?_⟩
  · subst e
    cases h2; exact fin Hi H _ _ (Ext.refl s) d2 q
  · subst e
    cases h4; rw [List.append_nil] at q; exact fin Hi H _ _ (Ext.refl s) d1 q
  · have e:=Ext.new s hp (.tup (vs ++ us))
    exact fin _ _ _ _ e (Den.mkT zP (zaY (h2.mono e.hi) (h4.mono e.hi))) q⟩
theorem ztH:Sli X zhx:=⟨_,zpe,by
  rintro Hi H x dx lo hi Q Q2 s d1 ⟨ds,rfl,q⟩ fin
  obtain ⟨a,vs,rfl,h1,h2⟩:=d1.tupI; have hl:=zi h2
  refine ⟨a,vs,rfl,zaO s.sub h1,fun hw=>?_,fun _ p hp=>?_⟩
  · have e:zcV ds lo hi=ds:=by
      unfold zcV; rw [← hl,hw.1,hw.2,List.drop_zero,Nat.sub_zero,hl,List.take_length]
    rw [e] at q; exact fin Hi H _ _ (Ext.refl s) d1 q
  · have e:=Ext.new s hp (.tup (zmh vs lo hi))
    exact fin _ _ _ _ e (Den.mkT zP (zmg (h2.mono e.hi))) q⟩
def eqL (f:D→D→Option Bool):List D→List D→Option Bool
  | x :: xs,y :: ys=>match f x y,eqL f xs ys with
    | some a,some b=>some (a && b)
    | _,_=>none
  | [],[]=>some true
  | _,_=>some false
def eqD:Nat→D→D→Option Bool
  | n+1,.tup xs,.tup ys=>eqL (eqD n) xs ys
  | n+1,.lst xs,.lst ys=>if xs.length=ys.length then eqL (eqD n) xs ys else some false
  | _,x,y=>eqS x y
theorem zqw {x y:V} {dx dy:D} {b:Bool} {Hi:Hp} (d1:Den K Hi x dx) (d2:Den K Hi y dy) (h:eqS dx dy=some b):zn4 x=true∧zn4 y=true∧eqV x y=b:=by
  cases d1 <;> cases d2 <;> first
    | (exact absurd (show (none:Option Bool)=some b from h) (fun z=>nomatch z))
    | (refine ⟨rfl,rfl,?_⟩
       have h':=Option.some.inj h
       subst h'
       first
         | rfl
         | (show ((_:Int) == _)=decide _; rw [Bool.beq_eq_decide_eq])
         | (show ((_:Bool) == _)=decide _; rw [Bool.beq_eq_decide_eq])
         | (show ((_:Str) == _)=decide _
            rw [Bool.beq_eq_decide_eq]
            exact decide_eq_decide.mpr ⟨fun z=>st_inj z,fun z=>congrArg st z⟩))
theorem zfe {x:V} {dx dy:D} {b:Bool} {Hi:Hp} (d1:Den K Hi x dx) (d2:Den K Hi x dy) (h:eqS dx dy=some b):b=true:=by
  obtain ⟨f1,f2,e⟩:=zqw d1 d2 h; rw [← e]
  cases x <;> first | rfl | (exact absurd (show false=true from f1) Bool.false_ne_true) | (show ((_:_) == _)=true; exact beq_self_eq_true _)
theorem zeq {f:D→D→Option Bool} {Hi:Hp} (hf:∀ v x y b,Den K Hi v x→Den K Hi v y→f x y=some b→b=true):∀ {vs:List V} {xs ys:List D} {b:Bool},zbU K Hi vs xs→zbU K Hi vs ys→eqL f xs ys=some b→b=true
  | [],_,_,b,.nil,.nil,h=>(Option.some.inj h).symm
  | v :: vs,x :: xs,y :: ys,b,.cons r1 t1,.cons r2 t2,h=>by
    unfold eqL at h
    cases e1:f x y with
    | none=>rw [e1] at h; cases h
    | some a =>
      cases e2:eqL f xs ys with
      | none=>rw [e1,e2] at h; cases h
      | some c =>
        rw [e1,e2] at h; rw [← Option.some.inj h,hf v x y a r1 r2 e1,zeq hf t1 t2 e2]; rfl
theorem zff (x y:D):eqD 0 x y=eqS x y:=by cases x <;> cases y <;> rfl
section
variable {pins:List (Addr × Obj)} {σ:St} {H Hi:Hp} {s:Shared}
theorem zhc (I:L2.Inv X pins σ H s) (sub:zaX Hi H):∀ (n:Nat) (v:V) (x y:D) (b:Bool),Den X.K Hi v x→Den X.K Hi v y→eqD n x y=some b→b=true:=by
  intro n
  induction n with
  | zero =>
    intro v x y b d1 d2 h; rw [zff] at h; exact zfe d1 d2 h
  | succ n ih =>
    intro v x y b d1 d2 h
    cases x with
    | tup xs =>
      cases y with
      | tup ys =>
        obtain ⟨a,vs,rfl,h1,h2⟩:=d1.tupI; obtain ⟨a',us,e,h3,h4⟩:=d2.tupI; cases e; have e:=I.tuple_inj (zaO sub h1) (zaO sub h3); subst e; exact zeq ih h2 h4 h
      | _=>exact zfe d1 d2 h
    | lst xs =>
      cases y with
      | lst ys =>
        obtain ⟨a,vs,rfl,h1,h2⟩:=d1.lstI; obtain ⟨a',us,e,h3,h4⟩:=d2.lstI; cases e; have e:=I.list_inj (zaK sub h1) (zaK sub h3); subst e
        have hl:xs.length=ys.length:=by rw [← zi h2,← zi h4]
        unfold eqD at h; rw [if_pos hl] at h; exact zeq ih h2 h4 h
      | _=>exact zfe d1 d2 h
    | _=>exact zfe d1 d2 h
theorem zdz {f:D→D→Option Bool}:∀ {xs ys:List D} {b:Bool},eqL f xs ys=some b→∃ e:Nat→Bool,(∀ (j:Nat) x y,xs[j]?=some x→ys[j]?=some y→f x y=some (e j))∧b=((List.range (min xs.length ys.length)).all e && xs.length == ys.length)
  | [],[],b,h=>⟨fun _=>true,fun j x y h1 _=>by simp at h1,by simpa [eqL] using h.symm⟩
  | [],y :: ys,b,h=>⟨fun _=>true,fun j x y h1 _=>by simp at h1,by simpa [eqL] using h.symm⟩
  | x :: xs,[],b,h=>⟨fun _=>true,fun j x y _ h2=>by simp at h2,by simpa [eqL] using h.symm⟩
  | x :: xs,y :: ys,b,h=>by
    unfold eqL at h
    cases e1:f x y with
    | none=>rw [e1] at h; cases h
    | some a =>
      cases e2:eqL f xs ys with
      | none=>rw [e1,e2] at h; cases h
      | some c =>
        rw [e1,e2] at h; obtain ⟨e,h1,h2⟩:=zdz e2
        refine ⟨fun j=>match j with | 0=>a | j+1=>e j,fun j x' y' hx hy=>?_,?_⟩
        · cases j with
          | zero=>simp at hx hy; subst hx; subst hy; exact e1
          | succ j=>exact h1 j x' y' (by simpa using hx) (by simpa using hy)
        · rw [← Option.some.inj h,h2]
          have hm:min (x :: xs).length (y :: ys).length=min xs.length ys.length+1:=by simp [Nat.succ_min_succ]
          rw [hm,List.range_succ_eq_map,List.all_cons,List.all_map]
          show (a && ((List.range (min xs.length ys.length)).all e && xs.length == ys.length))=((a && (List.range (min xs.length ys.length)).all e) && (x :: xs).length == (y :: ys).length)
          rw [Bool.and_assoc]
          congr 2
          simp
theorem zoV (I:L2.Inv X pins σ H s) (sub:zaX Hi H):∀ (n:Nat) (A:Around) (x y:V) (u v:Value) (dx dy:D) (b:Bool),A.units+n<cLine→Den X.K Hi x dx→Den X.K Hi y dy→zby x u→zby y v→eqD n dx dy=some b→SeqAt.EqAt A s u v b:=by
  intro n
  induction n with
  | zero =>
    intro A x y u v dx dy b hu d1 d2 rx ry h; rw [zff] at h; obtain ⟨f1,f2,e⟩:=zqw d1 d2 h; rw [← e]; exact zoU rx ry f1 f2
  | succ n ih =>
    intro A x y u v dx dy b hu d1 d2 rx ry h
    have zpj:eqS dx dy=some b→SeqAt.EqAt A s u v b:=fun h=>by
      obtain ⟨f1,f2,e⟩:=zqw d1 d2 h; rw [← e]; exact zoU rx ry f1 f2
    have items:∀ {vs ws:List V} {its jts:List Value} {xs ys:List D} {e:Nat→Bool},zbU X.K Hi vs xs→zbU X.K Hi ws ys→za5 vs its→za5 ws jts→(∀ (j:Nat) x y,xs[j]?=some x→ys[j]?=some y→eqD n x y=some (e j)) →
        ∀ j (h1:j<its.toArray.size) (h2:j<jts.toArray.size),SeqAt.EqAt A.in1 s its.toArray[j] jts.toArray[j] (e j):=fun {vs ws its jts xs ys e} r1 r2 v1 v2 he j h1 h2=>by
      have l1:j<vs.length:=by rw [v1.length]; simpa using h1
      have l2:j<ws.length:=by rw [v2.length]; simpa using h2
      obtain ⟨dx',e1,q1⟩:=zcx r1 (List.getElem?_eq_getElem l1); obtain ⟨dy',e2,q2⟩:=zcx r2 (List.getElem?_eq_getElem l2); obtain ⟨u1,e3,q3⟩:=v1.get (List.getElem?_eq_getElem l1); obtain ⟨u2,e4,q4⟩:=v2.get (List.getElem?_eq_getElem l2)
      have z1:its.toArray[j]=u1:=by
        have:=List.getElem?_eq_some_iff.mp e3
        obtain ⟨_,z⟩:=this
        simpa using z
      have z2:jts.toArray[j]=u2:=by
        have:=List.getElem?_eq_some_iff.mp e4
        obtain ⟨_,z⟩:=this
        simpa using z
      rw [z1,z2]
      exact ih A.in1 _ _ u1 u2 dx' dy' (e j) (by show A.units+1+n<cLine; omega) q1 q2 q3 q4 (he j dx' dy' e1 e2)
    cases dx with
    | tup xs =>
      cases dy with
      | tup ys =>
        obtain ⟨a,vs,rfl,h1,h2⟩:=d1.tupI; obtain ⟨c,ws,rfl,h3,h4⟩:=d2.tupI; cases rx; cases ry
        by_cases hac:a=c
        · subst hac
          have e:=I.tuple_inj (zaO sub h1) (zaO sub h3); subst e; rw [zeq (zhc I sub n) h2 h4 h]; exact SeqAt.EqAt.same _
        · obtain ⟨its,r1,p1,_⟩:=I.tuple (zaO sub h1)
          obtain ⟨jts,r2,p2,_⟩:=I.tuple (zaO sub h3); obtain ⟨e,he,hb⟩:=zdz h
          have lx:xs.length=its.length:=by rw [← zi h2,r1.length]
          have ly:ys.length=jts.length:=by rw [← zi h4,r2.length]
          have hb':b=((List.range (min its.toArray.size jts.toArray.size)).all e && its.toArray.size == jts.toArray.size):=by
            rw [hb,lx,ly]; simp
          rw [hb']
          exact SeqAt.EqAt.of_refs hac (SeqAt.RcAt.tuples (show s.heap.IsTuple a its.toArray from p1) (show s.heap.IsTuple c jts.toArray from p2) (by omega) (items h2 h4 r1 r2 he))
      | _=>exact zpj h
    | lst xs =>
      cases dy with
      | lst ys =>
        obtain ⟨a,vs,rfl,h1,h2⟩:=d1.lstI; obtain ⟨c,ws,rfl,h3,h4⟩:=d2.lstI; cases rx; cases ry; unfold eqD at h
        by_cases hac:a=c
        · subst hac
          have e:=I.list_inj (zaK sub h1) (zaK sub h3); subst e
          have hl:xs.length=ys.length:=by rw [← zi h2,← zi h4]
          rw [if_pos hl] at h; rw [zeq (zhc I sub n) h2 h4 h]; exact SeqAt.EqAt.same _
        · obtain ⟨its,r1,p1,_⟩:=I.list (zaK sub h1)
          obtain ⟨jts,r2,p2,_⟩:=I.list (zaK sub h3)
          have lx:xs.length=its.length:=by rw [← zi h2,r1.length]
          have ly:ys.length=jts.length:=by rw [← zi h4,r2.length]
          by_cases hl:xs.length=ys.length
          · rw [if_pos hl] at h
            obtain ⟨e,he,hb⟩:=zdz h
            have hs:its.toArray.size=jts.toArray.size:=by simp; omega
            have hb':b=((List.range its.toArray.size).all e):=by
              rw [hb,lx,ly]
              have z:(its.length == jts.length)=true:=by simp; omega
              have z2:min its.length jts.length=its.length:=by omega
              rw [z,z2,Bool.and_true]; simp
            rw [hb']
            exact SeqAt.EqAt.of_refs hac (SeqAt.RcAt.lists p1.isList p2.isList hs (by omega) (items h2 h4 r1 r2 he))
          · rw [if_neg hl] at h
            cases h
            exact SeqAt.EqAt.of_refs hac (SeqAt.RcAt.lists_lengths p1.isList p2.isList (by simp; omega) (by omega))
      | _=>exact zpj h
    | _=>exact zpj h
end
end
end PL
namespace PL
open PySem L2
section
variable {X:Cx} {K:PySem.W.Frag}
section
variable {pins:List (Addr × Obj)} {σ:St} {H Hi:Hp} {s:Shared}
theorem zjZ (I:L2.Inv X pins σ H s) (sub:zaX Hi H) {n:Nat} {A:Around} (hu:A.units+1+n<cLine) {vs ws:List V} {its jts:List Value} {xs ys:List D} {e:Nat→Bool} (r1:zbU X.K Hi vs xs) (r2:zbU X.K Hi ws ys) (v1:za5 vs its) (v2:za5 ws jts) (he:∀ (j:Nat) x y,xs[j]?=some x→ys[j]?=some y→eqD n x y=some (e j)) :
    ∀ j (h1:j<its.toArray.size) (h2:j<jts.toArray.size),SeqAt.EqAt A.in1 s its.toArray[j] jts.toArray[j] (e j):=fun j h1 h2=>by
  have l1:j<vs.length:=by rw [v1.length]; simpa using h1
  have l2:j<ws.length:=by rw [v2.length]; simpa using h2
  obtain ⟨dx',e1,q1⟩:=zcx r1 (List.getElem?_eq_getElem l1); obtain ⟨dy',e2,q2⟩:=zcx r2 (List.getElem?_eq_getElem l2); obtain ⟨u1,e3,q3⟩:=v1.get (List.getElem?_eq_getElem l1); obtain ⟨u2,e4,q4⟩:=v2.get (List.getElem?_eq_getElem l2)
  have z1:its.toArray[j]=u1:=by
    obtain ⟨_,z⟩:=List.getElem?_eq_some_iff.mp e3
    simpa using z
  have z2:jts.toArray[j]=u2:=by
    obtain ⟨_,z⟩:=List.getElem?_eq_some_iff.mp e4
    simpa using z
  rw [z1,z2]
  exact zoV I sub n A.in1 _ _ u1 u2 dx' dy' (e j) (by show A.units+1+n<cLine; omega) q1 q2 q3 q4 (he j dx' dy' e1 e2)
theorem zuW (I:L2.Inv X pins σ H s) (sub:zaX Hi H) {n:Nat} {A:Around} {x y:V} {u v:Value} {dx dy:D} {b:Bool} (hu:A.units+n<cLine) (d1:Den X.K Hi x dx) (d2:Den X.K Hi y dy) (rx:zby x u) (ry:zby y v) (h:eqD n dx dy=some b) (hn:eqS dx dy=none) :
    SeqAt.RcAt A s u v b∧SeqAt.RcNeAt A s u v (!b):=by
  cases n with
  | zero=>rw [zff,hn] at h; cases h
  | succ n =>
    cases dx with
    | tup xs =>
      cases dy with
      | tup ys =>
        obtain ⟨a,vs,rfl,h1,h2⟩:=d1.tupI; obtain ⟨c,ws,rfl,h3,h4⟩:=d2.tupI; cases rx; cases ry; obtain ⟨its,r1,p1,_⟩:=I.tuple (zaO sub h1); obtain ⟨jts,r2,p2,_⟩:=I.tuple (zaO sub h3); obtain ⟨e,he,hb⟩:=zdz h
        have lx:xs.length=its.length:=by rw [← zi h2,r1.length]
        have ly:ys.length=jts.length:=by rw [← zi h4,r2.length]
        have hb':b=((List.range (min its.toArray.size jts.toArray.size)).all e && its.toArray.size == jts.toArray.size):=by
          rw [hb,lx,ly]; simp
        have hi:=zjZ (A:=A) I sub (by omega) h2 h4 r1 r2 he
        rw [hb']
        exact ⟨SeqAt.RcAt.tuples (show s.heap.IsTuple a its.toArray from p1) (show s.heap.IsTuple c jts.toArray from p2) (by omega) hi,SeqAt.RcNeAt.tuples (show s.heap.IsTuple a its.toArray from p1) (show s.heap.IsTuple c jts.toArray from p2) (by omega) hi⟩
      | _=>exact absurd (hn.symm.trans h) (fun z=>nomatch z)
    | lst xs =>
      cases dy with
      | lst ys =>
        obtain ⟨a,vs,rfl,h1,h2⟩:=d1.lstI; obtain ⟨c,ws,rfl,h3,h4⟩:=d2.lstI; cases rx; cases ry; unfold eqD at h; obtain ⟨its,r1,p1,_⟩:=I.list (zaK sub h1); obtain ⟨jts,r2,p2,_⟩:=I.list (zaK sub h3)
        have lx:xs.length=its.length:=by rw [← zi h2,r1.length]
        have ly:ys.length=jts.length:=by rw [← zi h4,r2.length]
        by_cases hl:xs.length=ys.length
        · rw [if_pos hl] at h
          obtain ⟨e,he,hb⟩:=zdz h
          have hs:its.toArray.size=jts.toArray.size:=by simp; omega
          have hb':b=((List.range its.toArray.size).all e):=by
            rw [hb,lx,ly]
            have z:(its.length == jts.length)=true:=by simp; omega
            have z2:min its.length jts.length=its.length:=by omega
            rw [z,z2,Bool.and_true]; simp
          have hi:=zjZ (A:=A) I sub (by omega) h2 h4 r1 r2 he
          rw [hb']
          exact ⟨SeqAt.RcAt.lists p1.isList p2.isList hs (by omega) hi,SeqAt.RcNeAt.lists p1.isList p2.isList hs (by omega) hi⟩
        · rw [if_neg hl] at h
          cases h
          exact ⟨SeqAt.RcAt.lists_lengths p1.isList p2.isList (by simp; omega) (by omega),SeqAt.RcNeAt.lists_lengths p1.isList p2.isList (by simp; omega) (by omega)⟩
      | _=>exact absurd (hn.symm.trans h) (fun z=>nomatch z)
    | _=>exact absurd (hn.symm.trans h) (fun z=>nomatch z)
end
def ziy:R2':=fun x y Q=>∃ b,eqD 100 x y=some b∧Q (.bl b)
def zlk:R2':=fun x y Q=>∃ b,eqD 100 x y=some b∧Q (.bl (!b))
theorem zj1 {n:Nat} {x y:D} {b c:Bool} (h:eqD n x y=some b) (e:eqS x y=some c):b=c:=by
  cases n with
  | zero=>rw [zff,e] at h; exact (Option.some.inj h).symm
  | succ n =>
    have z:eqD (n+1) x y=eqS x y:=by
      cases x <;> first | rfl | (cases y <;> first | rfl | (exact absurd (show (none:Option Bool)=some c from e) (fun z=>nomatch z)))
    rw [z,e] at h; exact (Option.some.inj h).symm
theorem zdw (hu:X.A.units+100<cLine):Op2 X (compareOp .Eq) ziy:=by
  refine ⟨fun x y H Q=>∃ Hi dx dy b,zaX Hi H∧Den X.K Hi x dx∧Den X.K Hi y dy∧eqD 100 dx dy=some b∧Q (.bl b) H,?_,?_⟩
  · intro pins s σ H x y v u Q I rx ry h
    obtain ⟨Hi,dx,dy,b,sub,d1,d2,e,q⟩:=h
    cases hn:eqS dx dy with
    | some c =>
      obtain ⟨h1,h2⟩:=zoS d1 d2 hn; refine zt8 pins s σ H x y v u Q I rx ry ⟨h1,?_⟩; rw [h2,← zj1 e hn]; exact q
    | none=>exact (zuW I sub hu d1 d2 rx ry e hn).1 X.prog X.w X.xe _ ⟨.bl b,H,I,rfl,q⟩
  · rintro Hi H x y dx dy Q Q2 s d1 d2 ⟨b,e,q⟩ fin
    exact ⟨Hi,dx,dy,b,s.sub,d1,d2,e,fin Hi H _ _ (Ext.refl s) (.bl b) q⟩
theorem zfF (hu:X.A.units+100<cLine):Op2 X (compareOp .NotEq) zlk:=by
  refine ⟨fun x y H Q=>∃ Hi dx dy b,zaX Hi H∧Den X.K Hi x dx∧Den X.K Hi y dy∧eqD 100 dx dy=some b∧Q (.bl (!b)) H,?_,?_⟩
  · intro pins s σ H x y v u Q I rx ry h
    obtain ⟨Hi,dx,dy,b,sub,d1,d2,e,q⟩:=h
    cases hn:eqS dx dy with
    | some c =>
      obtain ⟨h1,h2⟩:=zoS d1 d2 hn; refine zt5 pins s σ H x y v u Q I rx ry ⟨h1,?_⟩; rw [h2,← zj1 e hn]; exact q
    | none=>exact (zuW I sub hu d1 d2 rx ry e hn).2 X.prog X.w X.xe _ ⟨.bl (!b),H,I,rfl,q⟩
  · rintro Hi H x y dx dy Q Q2 s d1 d2 ⟨b,e,q⟩ fin
    exact ⟨Hi,dx,dy,b,s.sub,d1,d2,e,fin Hi H _ _ (Ext.refl s) (.bl (!b)) q⟩
instance:MR2 ziy:=⟨fun _ _ _ _ h ⟨b,e,q⟩=>⟨b,e,h _ q⟩⟩
instance:MR2 zlk:=⟨fun _ _ _ _ h ⟨b,e,q⟩=>⟨b,e,h _ q⟩⟩
@[simp] theorem zuv (n:Nat) (i j:Int):eqD n (.int i) (.int j)=some (decide (i=j)):=by cases n <;> rfl
@[simp] theorem zfS (n:Nat) (i j:List Nat):eqD n (.str i) (.str j)=some (decide (i=j)):=by cases n <;> rfl
@[simp] theorem zqx (n:Nat):eqD n .non .non=some true:=by cases n <;> rfl
@[simp] theorem zte {Q:D→Prop} (i j:Int):ziy (.int i) (.int j) Q↔Q (.bl (decide (i=j))):=by simp [ziy]
@[simp] theorem ztc {Q:D→Prop} (i j:List Nat):ziy (.str i) (.str j) Q↔Q (.bl (decide (i=j))):=by simp [ziy]
@[simp] theorem zs3 {Q:D→Prop} (i j:Int):zlk (.int i) (.int j) Q↔Q (.bl (!decide (i=j))):=by simp [zlk]
@[simp] theorem zs1 {Q:D→Prop} (i j:List Nat):zlk (.str i) (.str j) Q↔Q (.bl (!decide (i=j))):=by simp [zlk]
def plc (p:List (List Nat)):D:=.tup (p.map .str)
theorem zj0 (f:D→D→Option Bool) (hf:∀ i j:List Nat,f (.str i) (.str j)=some (decide (i=j))):∀ p q:List (List Nat),eqL f (p.map .str) (q.map .str)=some (decide (p=q))
  | [],[]=>rfl
  | [],_ :: _=>by simp [eqL]
  | _ :: _,[]=>by simp [eqL]
  | a :: p,b :: q=>by
    simp only [List.map_cons,eqL,hf,zj0 f hf p q]
    by_cases h1:a=b <;> by_cases h2:p=q <;> simp [h1,h2]
theorem zdA (n:Nat) (p q:List (List Nat)):eqD (n+1) (plc p) (plc q)=some (decide (p=q)):=zj0 _ (fun i j=>zfS n i j) p q
@[simp] theorem ztd {Q:D→Prop} (p q:List (List Nat)):ziy (plc p) (plc q) Q↔Q (.bl (decide (p=q))):=by
  unfold ziy; rw [zdA]; simp
@[simp] theorem zs2 {Q:D→Prop} (p q:List (List Nat)):zlk (plc p) (plc q) Q↔Q (.bl (!decide (p=q))):=by
  unfold zlk; rw [zdA]; simp
end
section
variable {K:PySem.W.Frag} {n:Nat} {W:Wd} {Hi Hi' H H':Hp} {Γ:Sts} {σ:St} {a:Addr} {o:OD}
theorem zeT {i:Nat} (h:i<n) (e:adr n W σ i=some a):σ[i]?=some (some (.ref a)):=by
  unfold adr at e; rw [if_pos h] at e; exact zdH e
end
section
variable {X:Cx}
def zo (n i:Nat) (t:TS'):TS':=fun N Γ=>i<n∧∃ o,Γ[i]?=some (.own o)∧t N (Γ.set i (.val o.toD))
def zal (i:Nat) (te:TE'):TS':=fun N Γ=>(∃ ds0,Γ[i]?=some (.own (.lst ds0)))∧te Γ fun d Γ1=>∃ ds,Γ1[i]?=some (.own (.lst ds))∧ds.length<sizeLine∧N.nx (Γ1.set i (.own (.lst (ds ++ [d]))))
theorem zdI (i:Nat) {x:Str} {e:Expr} {te:TE'} {pos p apos cpos:Pos} (he:PE' X e te) (hN:X.N[i]?=some x:=by rfl) (hv:Vis X.env.scope x:=by first | exact Or.inl rfl | exact Or.inr (Or.inl rfl) | exact Or.inr (Or.inr rfl)) (hd:(x == ("__debug__":Str))=false:=by decide)
    (hcd:(x == ("__classdict__":Str))=false:=by decide) (hst:zdS e=false:=by rfl)
    (hbase:attributeBase (.Name x p) "append" X.env (eval (.Name x p) X.env)=eval (.Name x p) X.env:=by rfl) (hline:(apos.endLine == cpos.line)=true:=by rfl)
    (hs:swapsWith (.Call (.Attribute (.Name x p) "append" apos) [e] [] cpos) none pos.line X.env=pure false:=by rfl) :
    PS' X (.Expr (.Call (.Attribute (.Name x p) "append" apos) [e] [] cpos) pos) (zal i te):=by
  have pl:zcG [e]=true:=by unfold zcG; rw [hst]; rfl
  have hfew:((backTo cpos (starEach [e] X.env)).all (fun x=>!x.1) && (backToKw cpos (keywordEach [] X.env)).all (fun x=>x.1.isSome)
      && decide ([e].length+([]:List Keyword).length+(if ([]:List Keyword).isEmpty then 0 else 1)<30))=true:=by
    rw [zaU hst]; rfl
  have base:=zgJ (znh PySem.F.plainAttrs_list PySem.F.slot_list_append PySem.F.type_list_append (zek (X:=X)) (zcS (i:=i) (pos:=p) hN hv hd hcd) (zdv he.h zhG (zaU hst)) hbase hfew hline (zaU hst) rfl) hs; refine ⟨PS.weak base ?_⟩
  rintro N2 σ H ⟨W,Hi,Γ,N,g,⟨⟨ds0,e0⟩,q⟩,l⟩
  have hi:i<X.N.length:=(List.getElem?_eq_some_iff.mp hN).1
  obtain ⟨a,h1,h2,h3,vs0,h4,h5⟩:=g.own i _ e0; refine ⟨.ref a,zeT hi h1,.inl ⟨rfl,vs0,SqL.of h4⟩,W,Hi,Γ,_,g,q,?_⟩
  rintro v H1 ⟨Hi1,d,Γ1,s1,g1,den,ds,e1,hl,q1⟩
  obtain ⟨a',k1,k2,k3,vs,k4,k5⟩:=g1.own i _ e1; rw [h1] at k1; cases k1
  refine ⟨a,vs,v,rfl,rfl,k4,by rw [zi k5]; exact hl,?_⟩
  exact l.nx σ _ Hi1 _ s1 (g1.put (o:=.lst (ds ++ [d])) e1 h1 ⟨vs ++ [v],zP,zaY k5 (.cons den .nil)⟩) q1
instance {i:Nat} {te:TE'} [ME te]:MS (zal i te):=⟨fun N N' Γ h ⟨a,q⟩=>⟨a,ME.mono (t:=te) _ _ _ (fun _ _ ⟨ds,e,l,z⟩=>⟨ds,e,l,h.nx _ z⟩) q⟩⟩
end
end PL
namespace PL
open PySem L2
inductive Imm:D→Prop where
  | non:Imm .non
  | bl (b:Bool):Imm (.bl b)
  | int (i:Int):Imm (.int i)
  | str (l:List Nat):Imm (.str l)
  | ty (n:String):Imm (.ty n)
  | cls (C:Addr):Imm (.cls C)
  | tup {ds:List D} (h:∀ d,d ∈ ds→Imm d):Imm (.tup ds)
theorem Imm.plc (p:List (List Nat)):Imm (plc p):=.tup fun d hd=>by
  obtain ⟨l,_,rfl⟩:=List.mem_map.mp hd; exact .str l
theorem Imm.den {K:PySem.W.Frag} {H H':Hp} {v:V} {d:D} (im:Imm d) (h:Den K H v d) (e:∀ a xs,(H a=some (.tup xs)→H' a=some (.tup xs))∧∀ o,H a=some (.frz o (.tup xs))→H' a=some (.frz o (.tup xs))):Den K H' v d:=by
  induction h with
  | non=>exact .non
  | bl b=>exact .bl b
  | int i=>exact .int i
  | str l=>exact .str l
  | ty n=>exact .ty n
  | cls C=>exact .cls C
  | tup h l r ih =>
    cases im with
    | tup hi =>
      exact .tup ((e _ _).1 h) l fun j v d h1 h2=>ih j v d h1 h2 (hi d (List.mem_of_getElem? h2))
  | _=>cases im
def zbd:Slot→Slot
  | .own o=>.val o.toD
  | .val d=>.val d
  | .bk d _ xs=>.val (d xs.toD)
  | _=>.emp
section
variable {K:PySem.W.Frag} {n:Nat} {W:Wd} {Hi Hi' H H':Hp} {Γ:Sts} {σ:St} {a:Addr} {o:OD}
def zeP (n:Nat) (W:Wd) (Γ:Sts) (σ:St) (b:Addr):Prop:=(∃ (i:Nat) (o:OD),i<n∧Γ[i]?=some (.own o)∧adr n W σ i=some b)∨∃ (i:Nat) (d:D→D) (xs:OD),Γ[i]?=some (.bk d b xs)
open Classical in
noncomputable def zcz (n:Nat) (W:Wd) (Γ:Sts) (σ:St) (Hi H:Hp):Hp:=fun b=>if zeP n W Γ σ b then H b else Hi b
open Classical in
noncomputable def zcU (n:Nat) (W:Wd) (Γ:Sts) (σ:St) (Hb:Hp):Hp:=fun b=>if zeP n W Γ σ b then none else Hb b
theorem zeP.hi (g:Good K n W Hi Γ σ H) {b:Addr} (h:zeP n W Γ σ b):Hi b=none∧∃ u,H b=some u∧(∀ xs,u≠.tup xs)∧∀ o xs,u≠.frz o xs:=by
  have key:∃ o,Hi b=none∧zbY K Hi H b o:=by
    rcases h with ⟨i,o,hi,e,ad⟩ | ⟨i,d,xs,e⟩
    · obtain ⟨a,h1,h2,h3,h4⟩:=g.own i o e
      rw [ad] at h1; cases h1; exact ⟨o,h2,h4⟩
    · exact ⟨xs,(g.bk i d b xs e).hi,(g.bk i d b xs e).at_⟩
  obtain ⟨o,h2,h4⟩:=key; refine ⟨h2,?_⟩
  cases o with
  | lst ds=>obtain ⟨vs,q,_⟩:=h4; exact ⟨_,q,⟨fun _ z=>(by cases z),fun _ _ z=>(by cases z)⟩⟩
  | dic ds=>obtain ⟨kvs,q,_⟩:=h4; exact ⟨_,q,⟨fun _ z=>(by cases z),fun _ _ z=>(by cases z)⟩⟩
  | dit ds=>obtain ⟨kvs,ep,q,_⟩:=h4; exact ⟨_,q,⟨fun _ z=>(by cases z),fun _ _ z=>(by cases z)⟩⟩
  | obj C ds=>obtain ⟨dx,fs,q,_⟩:=h4; exact ⟨_,q,⟨fun _ z=>(by cases z),fun _ _ z=>(by cases z)⟩⟩
def zaa (n:Nat) (Γ:Sts):Sts:=(Γ.take n).map zbd
theorem Good.look (g:Good K n W Hi Γ σ H):zaX Hi (zcz n W Γ σ Hi H)∧Good K n ⟨H,zcz n W Γ σ Hi H,[]⟩ (zcz n W Γ σ Hi H) (zaa n Γ) σ H:=by
  have s1:zaX Hi (zcz n W Γ σ Hi H):=fun b u e=>by
    unfold zcz
    rw [if_neg (fun z=>by rw [(zeP.hi g z).1] at e; cases e)]
    exact e
  have inv:∀ (i:Nat) (sl:Slot),(zaa n Γ)[i]?=some sl→∃ s0,Γ[i]?=some s0∧i<n∧sl=zbd s0:=fun i sl e=>by
    unfold zaa at e; rw [List.getElem?_map] at e
    cases hj:(Γ.take n)[i]? with
    | none=>rw [hj] at e; cases e
    | some s0 =>
      rw [hj] at e; rw [List.getElem?_take] at hj; split at hj
      · exact ⟨s0,hj,by assumption,(Option.some.inj e).symm⟩
      · cases hj
  refine ⟨s1,g.len,⟨fun b u e=>?_,fun b xs e=>s1 _ _ (g.fz.tups b xs e)⟩,fun b u e _=>e,fun b u e=>⟨u,e⟩,fun b u e=>rfl,fun i d e=>?_,fun i o e=>?_,fun i j o o' a e=>?_,fun i d b xs e=>?_⟩
  · unfold zcz at e
    split at e
    · exact e
    · exact g.sub b u e
  · obtain ⟨s0,hj,hi,hs⟩:=inv i _ e
    cases s0 with
    | val d' =>
      cases hs; obtain ⟨v,h1,h2⟩:=g.val i d hj; exact ⟨v,h1,h2.mono s1⟩
    | own o =>
      cases hs; obtain ⟨a,h1,h2,h3,h4⟩:=g.own i o hj; refine ⟨.ref a,zeT hi h1,?_⟩
      have hO:zeP n W Γ σ a:=.inl ⟨i,o,hi,hj,h1⟩
      have hl:zcz n W Γ σ Hi H a=H a:=by unfold zcz; rw [if_pos hO]
      cases o with
      | lst ds=>obtain ⟨vs,q,r⟩:=h4; exact Den.mkL (SqL.of (hl.trans q)) (r.mono s1)
      | dic ds=>obtain ⟨kvs,q,r⟩:=h4; exact Den.mkDK (.inl (hl.trans q)) (r.mono s1)
      | dit ds=>obtain ⟨kvs,ep,q,r⟩:=h4; exact Den.mkDT (hl.trans q) (r.mono s1)
      | obj C ds=>obtain ⟨dx,fs,q,r⟩:=h4; exact Den.mkO (hl.trans q) (r.mono s1)
    | emp=>cases hs
    | bk d' b xs =>
      cases hs
      obtain ⟨⟨v,h1,h2⟩,hol,_,_,h4,_⟩:=g.bk i d' b xs hj
      have hl:zcz n W Γ σ Hi H b=H b:=by unfold zcz; rw [if_pos (.inr ⟨i,d',xs,hj⟩)]
      refine ⟨v,h1,hol b _ v xs ?_ (h2.mono s1)⟩
      cases xs with
      | lst ds=>obtain ⟨vs,q,r⟩:=h4; exact Den.mkL (SqL.of (hl.trans q)) (r.mono s1)
      | dic ds=>obtain ⟨kvs,q,r⟩:=h4; exact Den.mkDK (.inl (hl.trans q)) (r.mono s1)
      | dit ds=>obtain ⟨kvs,ep,q,r⟩:=h4; exact Den.mkDT (hl.trans q) (r.mono s1)
      | obj C ds=>obtain ⟨dx,fs,q,r⟩:=h4; exact Den.mkO (hl.trans q) (r.mono s1)
  all_goals
    obtain ⟨s0,hj,hi,hs⟩:=inv i _ e
    cases s0 <;> cases hs
theorem Good.unlook (g:Good K n W Hi Γ σ H) {Hb:Hp} {Γ':Sts} (sb:zaX (zcz n W Γ σ Hi H) Hb) (g':Good K n ⟨H,zcz n W Γ σ Hi H,[]⟩ Hb Γ' σ H') :
    Ext Hi H (zcU n W Γ σ Hb) H'∧Good K n W (zcU n W Γ σ Hb) Γ σ H'∧∀ v d,Imm d→Den K Hb v d→Den K (zcU n W Γ σ Hb) v d:=by
  have kp:∀ b u,H b=some u→H' b=some u:=fun b u e=>g'.keep b u e (by simp)
  have s1:zaX Hi (zcU n W Γ σ Hb):=fun b u e=>by
    have no:¬ zeP n W Γ σ b:=fun z=>by rw [(zeP.hi g z).1] at e; cases e
    unfold zcU; rw [if_neg no]; refine sb b u ?_; unfold zcz; rw [if_neg no]; exact e
  have ex:Ext Hi H (zcU n W Γ σ Hb) H':=by
    refine ⟨s1,kp,⟨fun b u e=>?_,fun b xs e=>?_⟩,fun b u e=>?_⟩
    · unfold zcU at e
      split at e
      · cases e
      · exact g'.sub b u e
    · have z:=g'.fz.tups b xs e
      have no:¬ zeP n W Γ σ b:=fun z=>by
        obtain ⟨_,w,hw,w1,_⟩:=zeP.hi g z; rw [kp b w hw] at e; cases e; exact w1 xs rfl
      unfold zcU; rw [if_neg no]; exact z
    · unfold zcU
      split
      · rename_i z
        exact (zeP.hi g z).1.symm
      · rename_i z
        rw [g'.fro b u e]
        show zcz n W Γ σ Hi H b=Hi b
        unfold zcz; rw [if_neg z]
  refine ⟨ex,g.ext ex,fun v d im den=>im.den den fun b xs=>?_⟩
  have no:∀ u,Hb b=some u→((∃ xs,u=.tup xs)∨∃ o xs,u=.frz o xs)→¬ zeP n W Γ σ b:=fun u e hu z=>by
    obtain ⟨_,w,hw,w1,w2⟩:=zeP.hi g z; have e2:=g'.sub b u e; rw [kp b w hw] at e2; cases e2
    rcases hu with ⟨xs,hu⟩ | ⟨o,xs,hu⟩
    · exact w1 xs hu
    · exact w2 o xs hu
  constructor
  · intro e
    unfold zcU; rw [if_neg (no _ e (.inl ⟨_,rfl⟩))]; exact e
  · intro o e
    unfold zcU; rw [if_neg (no _ e (.inr ⟨_,_,rfl⟩))]; exact e
end
section
variable {X:Cx}
def zai (n:Nat) (t:TE'):TE':=fun Γ Q=>t (zaa n Γ) fun d _=>Imm d∧Q d Γ
def zB (n:Nat) (t:TT'):TT':=fun Γ Q=>t (zaa n Γ) fun b _=>Q b Γ
theorem zfw {e:Expr} {t:TE'} (h:PE' X e t):PE' X e (zai X.N.length t):=by
  refine ⟨PE.weak h.h ?_⟩
  rintro σ H Q ⟨W,Hi,Γ,Q',g,q,fin⟩
  obtain ⟨s1,g1⟩:=g.look; refine ⟨_,_,_,_,g1,q,?_⟩
  rintro v H' ⟨Hb,d,Γ',sb,g',den,im,q'⟩
  obtain ⟨s2,g2,hd⟩:=g.unlook sb g'; exact fin v H' ⟨_,d,Γ,s2.hi,g2,hd v d im den,q'⟩
theorem zlo {e:Expr} {t:TT'} (h:PT' X e t):PT' X e (zB X.N.length t):=by
  refine ⟨PT.weak h.h ?_⟩
  rintro σ H Q ⟨W,Hi,Γ,Q',g,q,fin⟩
  obtain ⟨s1,g1⟩:=g.look; refine ⟨_,_,_,_,g1,q,?_⟩; intro b H' Hb Γ' sb g' q'; obtain ⟨s2,g2,hd⟩:=g.unlook sb g'; exact fin b H' _ Γ s2.hi g2 q'
instance {n:Nat} {t:TE'} [ME t]:ME (zai n t):=⟨fun Γ _ _ h q=>ME.mono (t:=t) _ _ _ (fun _ _ ⟨a,z⟩=>⟨a,h _ _ z⟩) q⟩
instance {n:Nat} {t:TT'} [MT t]:MT (zB n t):=⟨fun Γ _ _ h q=>MT.mono (t:=t) _ _ _ (fun _ _ z=>h _ _ z) q⟩
end
end PL
namespace L2
open PySem PySem.Spec PyProof.Rows
section
variable {P:Program} {w:World} {H:Hp} {h:Heap} {a:Addr} {kvs:List (List Key × V)} {ep:Nat}
theorem zqB (ok:HOk P w H h) (e:H a=some (.dE kvs ep)):kvs.length≤sizeLine∧(a == sysModules)=false ∧
    ∃ xs,KT H kvs xs∧h.DictOfH (tupleKind (zbr P w)) a xs∧∃ o es,h.get? a=some o∧o.ExactDict∧o.data=.dict es ep∧es.toList=xs.map (entryOfKey (tupleKind (zbr P w))):=by
  obtain ⟨z,y,xs,r,o,es,h1,h2,h3,h4,h5⟩:=(show zbT P w H h a (.dE kvs ep) from ok a _ e)
  refine ⟨z,y,xs,r,⟨o,es,ep,h1,h2,h3,h4,fun x hx=>?_,h5⟩,o,es,h1,h2,h3,h4⟩
  obtain ⟨j,hj⟩:=List.getElem?_of_mem hx
  have hl:j<kvs.length:=by
    rw [Paired.length r]; exact (List.getElem?_eq_some_iff.mp hj).1
  have q:=PL.paired_get j r (List.getElem?_eq_getElem hl) hj
  exact zhS ok (by rw [← q.1]; exact q.2.1)
end
def ztn (H:Hp) (a:Addr) (y:V) (r:Option V):Prop:=∃ kvs ep k b,H a=some (.dE kvs ep)∧y=.ref b∧H b=some (.tup (k.map kV))∧r=zf8 kvs k
section
variable {X:Cx} {pins:List (Addr × Obj)} {σ:St} {H:Hp} {s:Shared} {a:Addr} {y v:V} {u r:Value} {o:Option V} {A:Around} {E:Value→Shared→Prop}
theorem zn9 (I:Inv X pins σ H s) (g:ztn H a y o):s.TypeIs (.ref a) "dict":=by
  obtain ⟨kvs,ep,k,b,e,_⟩:=g; obtain ⟨_,_,xs,_,dd,_⟩:=zqB I.hok e; exact dd.typeIs
theorem zl8 {Q:Value→Shared→Prop} (hu:A.units+1<cLine) (I:Inv X pins σ H s) (g:ztn H a y (some v)) (ry:zby y u) (h:∀ w' s',Inv X pins σ H s'→zby v w'→Q w' s') :
    wpAny (model X.prog X.w) A (getItem (.ref a) u) Q E s:=by
  obtain ⟨kvs,ep,k,b,e,ey,eb,l⟩:=g; subst ey
  cases (show u=Value.ref b from ry)
  obtain ⟨z,hd,xs,rel,dd,_⟩:=zqB I.hok e
  obtain ⟨w',hw,rw'⟩:=zik.some_of (v:=v) (o:=(atKey xs k).map (·.2)) (by rw [l]; exact rel.val k)
  obtain ⟨p,hp,hp2⟩:=Option.map_eq_some_iff.mp hw; refine wpAny_getItem_heap (tupleKind_room_in1 hu) (zhS I.hok eb) dd hp ?_; rw [hp2]; exact h w' _ (I.tok _) rw'
end
section
variable {X:Cx}
theorem zqj (hu:X.A.units+1<cLine):IxR X (fun x y H Q=>∃ a v,x=.ref a∧ztn H a y (some v)∧Q v H):=by
  intro value slice pins s σ H x y v u Q I rx ry h hs; obtain ⟨a,w,rfl,g,q⟩:=h; cases rx
  exact tail_any (zn9 I g) PySem.F.slot_dict_getitem.lookup (zl8 hu I g ry fun w' s3 I3 rw'=>⟨w,H,I3,rw',q⟩) hs
end
end L2
namespace PL
open PySem L2
section
variable {K:PySem.W.Frag} {H Hi:Hp}
theorem zqA {v:V}:∀ {k:Key},Den K H v (keyD k)→v=kV k
  | .inl i,h=>h.intI
  | .inr x,h=>h.strI
theorem zj5:∀ {vs:List V} {ks:List Key},zbU K H vs (ks.map keyD)→vs=ks.map kV
  | [],[],_=>rfl
  | [],_ :: _,h=>nomatch h
  | _ :: _,[],h=>nomatch h
  | v :: vs,k :: ks,.cons r t=>by rw [List.map_cons,← zqA r,← zj5 t]
theorem zjS {a b:Key} (h:keyD a=keyD b):a=b:=by
  cases a with
  | inl i=>cases b with
    | inl j=>injection h with h; rw [h]
    | inr y=>cases h
  | inr x=>cases b with
    | inl j=>cases h
    | inr y =>
      injection h with h
      obtain ⟨⟨x⟩⟩:=x
      obtain ⟨⟨y⟩⟩:=y
      exact congrArg (fun l=>Sum.inr (Str.mk ⟨l⟩)) h
theorem zhR:∀ {a b:List Key},a.map keyD=b.map keyD→a=b
  | [],[],_=>rfl
  | [],_ :: _,h=>nomatch h
  | _ :: _,[],h=>nomatch h
  | x :: a,y :: b,h=>by
    injection h with h1 h2
    rw [zjS h1,zhR h2]
theorem zod {v:V} {ks:List Key} (h:Den K Hi v (.tup (ks.map keyD))):∃ b,v=.ref b∧Hi b=some (.tup (ks.map kV)):=by
  obtain ⟨a,vs,rfl,h1,h2⟩:=h.tupJ; rw [zj5 h2] at h1; exact ⟨a,rfl,h1⟩
open Classical in
noncomputable def zeY (ds:List (D × D)) (k:D):Option D:=(ds.find? fun p=>decide (p.1=k)).map (·.2)
open Classical in
theorem zfX {p:D × D} {r:List (D × D)} {k:D} (e:p.1=k):zeY (p :: r) k=some p.2:=by simp [zeY,List.find?_cons,e]
theorem zfY {p:D × D} {r:List (D × D)} {k:D} (e:¬ p.1=k):zeY (p :: r) k=zeY r k:=by simp [zeY,List.find?_cons,e]
inductive OptD (K:PySem.W.Frag) (H:Hp):Option V→Option D→Prop where
  | none:OptD K H none none
  | some {v:V} {d:D} (h:Den K H v d):OptD K H (some v) (some d)
theorem zur {kvs:List (List Key × V)} {ds:List (D × D)} (r:zqO K H kvs ds) (ks:List Key):OptD K H (zf8 kvs ks) (zeY ds (.tup (ks.map keyD))):=by
  induction r with
  | nil=>exact .none
  | @cons p q ps qs h t ih =>
    by_cases e:p.1=ks
    · rw [zd7 e,zfX (h.1.trans (by rw [e]))]
      exact .some h.2
    · rw [zd8 e,zfY (fun z=>e (zhR (by
        have:=h.1.symm.trans z
        injection this)))]
      exact ih
theorem OptD.isSome {o:Option V} {d:Option D} (h:OptD K H o d):o.isSome=d.isSome:=by cases h <;> rfl
open Classical in
end
section
variable {X:Cx}
def zix:R2':=fun x y Q=>∃ (ds:List (D × D)) (ks:List Key) (v:D),x=.dit ds∧y=.tup (ks.map keyD)∧zeY ds y=some v∧Q v
theorem zux {K:PySem.W.Frag} {Hi H:Hp} {x y:V} {ds:List (D × D)} {ks:List Key} (s:Fz Hi H) (d1:Den K Hi x (.dit ds)) (d2:Den K Hi y (.tup (ks.map keyD))):∃ a o,x=.ref a∧ztn H a y o∧OptD K Hi o (zeY ds (.tup (ks.map keyD))):=by
  obtain ⟨a,kvs,ep,rfl,h1,h2⟩:=d1.ditI; obtain ⟨b,rfl,h3⟩:=zod d2; exact ⟨a,_,rfl,⟨kvs,ep,ks,b,s.sub _ _ h1,rfl,s.sub _ _ h3,rfl⟩,zur h2 ks⟩
theorem zum (hu:X.A.units+1<cLine):Ixs X zix:=⟨_,zqj hu,by
  rintro Hi H x y dx dy Q Q2 s d1 d2 ⟨ds,ks,v,rfl,rfl,e,q⟩ fin
  obtain ⟨a,o,rfl,g,r⟩:=zux s d1 d2; rw [e] at r
  cases r with
  | some h=>exact ⟨a,_,rfl,g,fin Hi H _ _ (Ext.refl s) h q⟩⟩
end
end PL
namespace PySem
section
variable {prog:Program} {w:World} {A:Around} {E:Value→Shared→Prop} {s:Shared} {dd kk:Addr} {ob:Obj} {ens:Array DictEntry} {tick nn:Nat}
theorem zcT (hob:s.heap.get? dd=some ob) (hex:ob.ExactDict):s.TypeIs (.ref dd) "dict":=⟨ob,hob,hex.1⟩
theorem zhQ {Q:Value→Shared→Prop} (hsys:(dd == sysModules)=false) (hob:s.heap.get? dd=some ob) (hex:ob.ExactDict) (hdt:ob.data=.dict ens tick)
    (fin:Q (.ref s.heap.objs.size) { s with heap:=s.heap.push { cls:=.type "dict_keyiterator",data:=.fields #[.ref dd,.int 0 0,.int ens.size 0,.int tick 0] } }) :
    wpAny (model prog w) A (pyIter (.ref dd)) Q E s:=by
  have ty:=zcT hob hex; refine wpAny_pyIter_slot ty F.slot_dict_iter (wpAny_call_entry F.slot_dict_iter ty F.entry_dict_iter ?_ (F.args_dict_iter_1 _))
  unfold Builtin.«dict.__iter__» Builtin.Dict.dictSlotNone
  refine wpAny_bind (wpAny_bind (wpAny_notOrdered_dict ty ?_))
  show wpAny _ _ (pure (Value.ref dd)) _ _ s
  refine wpAny_pure (show wpAny _ _ (Builtin.Dict.showsAll dd >>= _) _ _ s from ?_)
  unfold Builtin.Dict.showsAll
  rw [if_neg (by rw [hsys]; exact Bool.false_ne_true)]
  refine wpAny_bind (wpAny_pure (wpAny_bind (wpAny_dictEntries hob hdt (wpAny_bind (wpAny_dictEpoch hob hdt ?_))))); refine wpAny_bind (wpAny_newObj_type (wpAny_pure ⟨_,rfl,"dict_keyiterator",_,⟨_,Heap.get?_push_size _ rfl,rfl⟩,F.slot_dict_keyiterator_next.lookup,?_⟩))
  simpa [rawInt] using fin
theorem zi2 {ii:Nat} {Q:Option Value→Shared→Prop} (st:s.heap.IsKeyIter kk dd ii ens.size tick) (hob:s.heap.get? dd=some ob) (hdt:ob.data=.dict ens tick) (lt:ii<ens.size)
    (fin:∀ h2,h2.IsKeyIter kk dd (ii+1) ens.size tick→Heap.SameBut kk s.heap h2→Q (some ens[ii].key) { s with heap:=h2 }):wpAny (model prog w) A (pyNext (.ref kk)) Q E s:=by
  obtain ⟨ki,hki,hkc,hkd⟩:=id st; have ty:=st.typeIs; unfold pyNext; refine wpAny_bind (wpAny_attempt (wpAny_callSpecial?_slot (name:=Str.ofString "__next__") ty F.slot_dict_keyiterator_next (wpAny_call_entry F.slot_dict_keyiterator_next ty F.entry_dict_keyiterator_next ?_ (F.args_dict_keyiterator_next_1 _)))); refine wpAny_bind (wpAny_pure (wpAny_bind (wpAny_bind ?_)))
  first
    | refine wpAny_bind (wpAny_typeNameOfWhole_keyiter ty (wpAny_pure (wpAny_bind (wpAny_fieldsOf hki hkd ?_))))
    | refine wpAny_bind (wpAny_typeNameOf_keyiter ty (wpAny_pure (wpAny_bind (wpAny_fieldsOf hki hkd ?_))))
  simp only [show Builtin.Dict_items.ownsTuple "dict_keyiterator"=false by decide,Bool.false_eq_true,if_false]
  show wpAny _ _ (if (Value.ref dd == Value.none)=true then _ else _) _ _ s
  rw [if_neg (show ¬ ((Value.ref dd == Value.none)=true) from Bool.false_ne_true)]
  refine wpAny_bind (wpAny_pure (wpAny_bind (wpAny_dictEntries hob hdt ?_)))
  rw [if_neg (by simp)]
  refine wpAny_bind (wpAny_pure (wpAny_bind (wpAny_dictEpoch hob hdt ?_)))
  rw [if_neg (by simp)]
  refine wpAny_pure ?_
  simp only [show ¬ ((ii:Int)<0) from by omega,if_false,Int.toNat_natCast,Array.getElem?_eq_getElem lt]
  refine wpAny_bind ?_
  first
    | refine wpAny_bind (wpAny_typeNameOfWhole_keyiter ty (wpAny_pure (wpAny_bind (wpAny_isOneOf_keyiter ty ?_))))
    | refine wpAny_bind (wpAny_typeNameOf_keyiter ty (wpAny_pure (wpAny_bind (wpAny_isOneOf_keyiter ty ?_))))
  show wpAny _ _ (setField (.ref kk) 1 (rawInt ((ii:Int)+1)) >>= _) _ _ s
  have st2:(s.heap.update kk (Obj.mapFields (·.setIfInBounds 1 (rawInt ((ii:Int)+1))))).IsKeyIter kk dd (ii+1) ens.size tick :=
    ⟨_,Heap.get?_update_self _ hki (Obj.isFreed_of_fields (Obj.data_mapFields hkd _)),(Obj.cls_mapFields ..).trans hkc,by rw [Obj.data_mapFields hkd]; simp [rawInt]⟩
  refine wpAny_bind (wpAny_setField hki hkd (by simp) (wpAny_bind (wpAny_holding ?_)))
  refine wpAny_bind (wpAny_isOneOf_keyiter (s:={ s with heap:=s.heap.update kk (Obj.mapFields (·.setIfInBounds 1 (rawInt ((ii:Int)+1)))) }) st2.typeIs ?_)
  show wpAny _ _ (pure ens[ii].key) _ _ _
  exact wpAny_pure (wpAny_pure ⟨_,rfl,wpAny_pure (fin _ st2 (Heap.SameBut.update ..))⟩)
theorem zkL {ii:Nat} {Q:Option Value→Shared→Prop} (calm:A.handled=none) (st:s.heap.IsKeyIter kk dd ii ens.size tick) (hob:s.heap.get? dd=some ob) (hdt:ob.data=.dict ens tick) (ge:ens.size≤ii)
    (fin:∀ h2,Heap.ExtBut kk s.heap h2→Q none { s with heap:=h2 }):wpAny (model prog w) A (pyNext (.ref kk)) Q E s:=by
  obtain ⟨ki,hki,hkc,hkd⟩:=id st; have ty:=st.typeIs; unfold pyNext; refine wpAny_bind (wpAny_attempt (wpAny_callSpecial?_slot (name:=Str.ofString "__next__") ty F.slot_dict_keyiterator_next (wpAny_call_entry F.slot_dict_keyiterator_next ty F.entry_dict_keyiterator_next ?_ (F.args_dict_keyiterator_next_1 _)))); refine wpAny_bind (wpAny_pure (wpAny_bind (wpAny_bind ?_)))
  first
    | refine wpAny_bind (wpAny_typeNameOfWhole_keyiter ty (wpAny_pure (wpAny_bind (wpAny_fieldsOf hki hkd ?_))))
    | refine wpAny_bind (wpAny_typeNameOf_keyiter ty (wpAny_pure (wpAny_bind (wpAny_fieldsOf hki hkd ?_))))
  simp only [show Builtin.Dict_items.ownsTuple "dict_keyiterator"=false by decide,Bool.false_eq_true,if_false]
  show wpAny _ _ (if (Value.ref dd == Value.none)=true then _ else _) _ _ s
  rw [if_neg (show ¬ ((Value.ref dd == Value.none)=true) from Bool.false_ne_true)]
  refine wpAny_bind (wpAny_pure (wpAny_bind (wpAny_dictEntries hob hdt ?_)))
  rw [if_neg (by simp)]
  refine wpAny_bind (wpAny_pure (wpAny_bind (wpAny_dictEpoch hob hdt ?_)))
  rw [if_neg (by simp)]
  refine wpAny_pure ?_
  simp only [show ¬ ((ii:Int)<0) from by omega,if_false,Int.toNat_natCast,Array.getElem?_eq_none ge]
  refine wpAny_bind ?_
  first
    | refine wpAny_bind (wpAny_typeNameOfWhole_keyiter ty (wpAny_pure ?_))
    | refine wpAny_bind (wpAny_typeNameOf_keyiter ty (wpAny_pure ?_))
  show wpAny _ _ (setField (.ref kk) 0 .none >>= _) _ _ s
  refine wpAny_bind (wpAny_setField hki hkd (by simp) (show wpAny _ _ (newExc (.type "StopIteration") [] >>= _) _ _ _ from wpAny_bind ?_))
  simp only [newExc,newTuple]
  apply wpAny_bind
  refine wpAny_newObj_type ?_ (by size_fits)
  refine wpAny_bind (m:=firstArgMember _ _) (wpAny_of_eq (a:=Value.none) (by first | rfl | (simp only [firstArgMember]; rfl)) (wpAny_newObj_type ?_ (by size_fits)))
  simp only [raiseNew]; refine wpAny_bind (wpAny_handled ?_)
  rw [show A.in1.handled=none from calm]
  refine (wpAny_bind (wpAny_pure (wpAny_throw ?_))); refine wpAny_bind (wpAny_isInstance (T:="StopIteration") (b:=true) ⟨_,Heap.get?_push_size _ rfl,rfl⟩ isSubtype_stop (wpAny_pure (fin _ ?_))); exact ((Heap.SameBut.update ..).extBut.push _).push _
end
end PySem
namespace L2
open PySem PySem.Spec PyProof.Rows
section
variable {X:Cx} {tg:Expr}
end
end L2
namespace PL
open PySem L2
end PL
namespace PySem
section
variable {prog:Program} {w:World} {A:Around} {E:Value→Shared→Prop} {s:Shared} {dd kk:Addr} {ob:Obj} {ens:Array DictEntry} {tick nn:Nat}
theorem zrr {Q:Value→Shared→Prop} (hsys:(dd == sysModules)=false) (hob:s.heap.get? dd=some ob) (hex:ob.ExactDict) (hdt:ob.data=.dict ens tick) (fin:Q (.int ens.size s.toks) { s with toks:=s.toks+1 }) :
    wpAny (model prog w) A (call (.builtin "dict.__len__") [.ref dd]) Q E s:=by
  have ty:=zcT hob hex; refine wpAny_call_entry F.slot_dict_len ty F.entry_dict_len ?_ (F.args_dict_len_1 _)
  show wpAny _ _ (dictSize dd >>= _) _ _ s
  unfold dictSize
  refine wpAny_bind (wpAny_bind (wpAny_dictEntries hob hdt (wpAny_pure (show wpAny _ _ (Builtin.Dict.pendingCount dd >>= _) _ _ s from wpAny_bind (wpAny_pendingCount_other hsys ?_)))))
  refine wpAny_ret_mkInt ?_
  have z:((ens.size:Int)+((0:Nat):Int))=ens.size:=by omega
  first
    | exact fin
    | (rw [z]; exact fin)
    | (refine ⟨_,rfl,?_⟩; simpa using fin)
theorem zuj {Q:Value→Shared→Prop} (hsys:(dd == sysModules)=false) (hob:s.heap.get? dd=some ob) (hex:ob.ExactDict) (hdt:ob.data=.dict ens tick) (few:ens.size≤sizeLine) (fin:Q (.int ens.size (s.toks+1)) { s with toks:=s.toks+1+1 }) :
    wpAny (model prog w) A (call (.builtin "len") [.ref dd]) Q E s :=
  PyProof.Rows.call_len_slot (n:=ens.size) (zcT hob hex) F.slot_dict_len (fun Q' hq=>zrr hsys hob hex hdt hq) (by omega) (by rw [sizeLine_eq] at few; omega) fin
theorem zss {Q:Bool→Shared→Prop} (hob:s.heap.get? dd=some ob) (hex:ob.ExactDict) (fin:Q false s):wpAny (model prog w) A (Builtin.List.listLengthHint (.ref dd)) Q E s:=by
  have ty:=zcT hob hex; unfold Builtin.List.listLengthHint; refine wpAny_bind (wpAny_specialOf ty F.slot_dict_len.lookup ?_); generalize hid:("dict.__len__":String)=id0
  wp_delta
  rw [show splitId id0=some ("dict","__len__") from by subst hid; decide +kernel]
  subst hid
  refine wpAny_bind (wpAny_isInstance (T:="dict") (b:=true) ty (by rw [isSubtype_type]; kernel_rfl) ?_)
  refine wpAny_ite_split (fun z=>absurd z (by decide)) (fun _=>?_)
  refine wpAny_ite_split (fun _=>?_) (fun z=>absurd (by decide +kernel) z)
  refine wpAny_bind (wpAny_typeOf ty ?_); exact wpAny_pure fin
theorem zmL (calm:A.handled=none) (hne:dd≠kk) (hdt:ob.data=.dict ens tick):Walks prog w A kk [kk,dd] [kk] ens.size (fun i v=>∃ e,ens[i]?=some e∧v=e.key) (fun i h=>h.IsKeyIter kk dd i ens.size tick∧h.get? dd=some ob) where
  sub:=fun b hb=>by
    have e:b=kk:=by simpa using hb
    simp [e]
  frame:=fun _ _ _ st hk=>⟨st.1.at fun o e=>hk kk (by simp) o e,hk dd (by simp) _ st.2⟩
  item:=fun i s Q E hi st hQ=>zi2 st.1 st.2 hdt hi fun h2 st2 sb=>hQ _ h2 s.toks ⟨_,Array.getElem?_eq_getElem hi,rfl⟩ ⟨st2,(sb.2 dd hne).trans st.2⟩ fun b o hb e=>(sb.2 b (fun z=>hb (by simp [z]))).trans e
  done:=fun s Q E st hQ=>zkL calm st.1 st.2 hdt (Nat.le_refl _) fun h2 eb=>hQ h2 s.toks fun b o hb e=>eb b o (fun z=>hb (by simp [z])) e
  self:=fun _ _ _ _ st hQ=>wpAny_pyIter_keyiter st.1 hQ
theorem zgn {R:Result→Shared→Prop} {S:Addr} {res:Value} {c₀:Nat} (calm:A.handled=none) (hsys:(dd == sysModules)=false) (hob:s.heap.get? dd=some ob) (hex:ob.ExactDict) (hdt:ob.data=.dict ens tick) (few:ens.size≤sizeLine) (hne:S≠dd) (hS:s.heap.get? S=some { cls:=.type "list",data:=.seq #[] c₀ })
    (fin:∀ h2 tk acc c2,(∀ b o,b≠S→s.heap.get? b=some o→h2.get? b=some o)→h2.get? S=some { cls:=.type "list",dict:=none,data:=.seq acc c2,slots:=#[] }→ItemsOf (fun i v=>∃ e,ens[i]?=some e∧v=e.key) acc ens.size→R (.ok (.ret res)) { s with heap:=h2,toks:=tk }) :
    wpAny (model prog w) A.in1 (Builtin.List.listExtendWith (.ref S) (.ref dd) res) (fun f s'=>match f with | .done f=>R (.ok f) s' | .again c'=>c'.quiet=true∧codeAny (model prog w) A c' R s') (fun e s'=>R (.error e) s') s:=by
  have hSlt:S<s.heap.objs.size:=Heap.lt_size hS
  have hSI:S≠s.heap.objs.size:=Nat.ne_of_lt hSlt
  have hdI:dd≠s.heap.objs.size:=Nat.ne_of_lt (Heap.lt_size hob)
  have hSf:S ∉ [s.heap.objs.size,dd]:=fun hm=>by
    rcases List.mem_cons.mp hm with z | z
    · exact hSI z
    · exact hne (List.mem_singleton.mp z)
  have W:=(zmL (prog:=prog) (w:=w) (A:=A.in1) (kk:=s.heap.objs.size) calm hdI hdt).toS
  have loop:∀ (h:Heap) (c₁ tk:Nat),h.IsKeyIter s.heap.objs.size dd 0 ens.size tick→h.get? dd=some ob→(∀ b o,b≠S→s.heap.get? b=some o→h.get? b=some o) →
      h.get? S=some { cls:=.type "list",data:=.seq #[] c₁ }→codeAny (model prog w) A (.builtin "list.extend.loop" ⟨[.ref S,.ref s.heap.objs.size,res],[]⟩) R { s with heap:=h,toks:=tk }:=by
    intro h c₁ tk hit hod hk hS₁
    refine codeAny_extend_loopS W few S hSf res ens.size 0 _ #[] c₁ rfl (Nat.zero_le _) ⟨hit,hod⟩ hS₁ (ItemsOf.nil _) fun s' acc' c' hm hS' hacc=>?_
    rw [Moved.eq_with hm]
    refine fin s'.heap s'.toks acc' c' (fun b o hb e=>hm.heap b o (fun z=>?_) (hk b o hb e)) hS' hacc
    rcases List.mem_cons.mp z with e' | z
    · exact hb e'
    · exact absurd (Heap.lt_size e) (by rw [List.mem_singleton.mp z]; exact Nat.lt_irrefl _)
  unfold Builtin.List.listExtendWith; refine wpAny_bind (wpAny_typeOf (zcT hob hex) ?_)
  have h1:Builtin.List.listSameRef (.ref S) (.ref dd)=false:=by simp [Builtin.List.listSameRef,hne]
  simp only [h1,show (Value.type "dict" == Value.type "list")=false by decide,show (Value.type "dict" == Value.type "tuple")=false by decide,Bool.or_false,Bool.false_eq_true,if_false]
  refine wpAny_bind (zhQ hsys hob hex hdt ?_); refine wpAny_bind (wpAny_holding (zss (Heap.get?_push_of_some _ hob) hex ?_))
  have hit₁:(s.heap.push { cls:=.type "dict_keyiterator",data:=.fields #[.ref dd,.int 0 0,.int ens.size 0,.int tick 0] }).IsKeyIter s.heap.objs.size dd 0 ens.size tick:=⟨_,Heap.get?_push_size _ rfl,rfl,rfl⟩
  have hS₁:=Heap.get?_push_of_some { cls:=.type "dict_keyiterator",data:=.fields #[.ref dd,.int 0 0,.int ens.size 0,.int tick 0] } hS
  refine wpAny_ite_split (fun _=>?_) (fun _=>wpAny_pure ⟨plainId_quiet F.plain_extend_loop _,loop _ c₀ _ hit₁ (Heap.get?_push_of_some _ hob) (fun b o _ e=>Heap.get?_push_of_some _ e) hS₁⟩)
  refine wpAny_bind (wpAny_rule (wpAny_bind ?_))
  show wpAny _ _ (updateSeq S (·.push .none) >>= fun _=>updateSeq S (·.pop)) _ _ _
  refine wpAny_bind (wpAny_updateSeq hS₁ rfl ?_); have hS₂:=Heap.get?_update_self (Obj.mapSeq (·.push Value.none)) hS₁ rfl
  refine wpAny_updateSeq (hz:=by seq_fits) hS₂ rfl ?_
  have hS₃:=Heap.get?_update_self (Obj.mapSeq (·.pop)) hS₂ rfl
  have oth:∀ b o,b≠S→(s.heap.push { cls:=.type "dict_keyiterator",data:=.fields #[.ref dd,.int 0 0,.int ens.size 0,.int tick 0] }).get? b=some o→(((s.heap.push { cls:=.type "dict_keyiterator",data:=.fields #[.ref dd,.int 0 0,.int ens.size 0,.int tick 0] }).update S (Obj.mapSeq (·.push Value.none))).update S (Obj.mapSeq (·.pop))).get? b=some o :=
    fun b o hb e=>(Heap.get?_update_other _ _ (Ne.symm hb)).trans ((Heap.get?_update_other _ _ (Ne.symm hb)).trans e)
  exact wpAny_pure ⟨plainId_quiet F.plain_extend_loop _,loop _ _ _ (hit₁.at fun o e=>oth _ o (Ne.symm hSI) e) (oth _ _ (Ne.symm hne) (Heap.get?_push_of_some _ hob)) (fun b o hb e=>oth b o hb (Heap.get?_push_of_some _ e)) hS₃⟩
theorem znX {R:Result→Shared→Prop} {S:Addr} (calm:A.handled=none) (hsys:(dd == sysModules)=false) (hob:s.heap.get? dd=some ob) (hex:ob.ExactDict) (hdt:ob.data=.dict ens tick) (few:ens.size≤sizeLine) (hne:S≠dd) (hS:s.heap.get? S=some { cls:=.type "list",data:=.seq #[] })
    (fin:∀ h2 tk acc c2,(∀ b o,b≠S→s.heap.get? b=some o→h2.get? b=some o)→h2.get? S=some { cls:=.type "list",dict:=none,data:=.seq acc c2,slots:=#[] }→ItemsOf (fun i v=>∃ e,ens[i]?=some e∧v=e.key) acc ens.size→R (.ok (.ret .none)) { s with heap:=h2,toks:=tk }) :
    wpAny (model prog w) A.in1 (Builtin.«list.__init__» ⟨[.ref S,.ref dd],[]⟩) (fun f s'=>match f with | .done f=>R (.ok f) s' | .again c'=>c'.quiet=true∧codeAny (model prog w) A c' R s') (fun e s'=>R (.error e) s') s:=by
  show wpAny _ _ (Builtin.List.listItems (.ref S) >>= fun old=>Builtin.List.listUpdate (.ref S) (fun _=>#[]) >>= fun _=>letGo old.toList.reverse >>= fun _=>Builtin.List.listExtendWith (.ref S) (.ref dd) .none) _ _ s
  unfold Builtin.List.listItems; refine wpAny_bind (wpAny_bind (wpAny_seqItems hS rfl (wpAny_pure ?_)))
  show wpAny _ _ (updateSeq S (fun _=>#[]) >>= fun _=>letGo (#[]:Array Value).toList.reverse >>= fun _=>Builtin.List.listExtendWith (.ref S) (.ref dd) .none) _ _ s
  have hS₂:=Heap.get?_update_self (Obj.mapSeq (fun _=>(#[]:Array Value))) hS rfl
  have oth:∀ b o,b≠S→s.heap.get? b=some o→(s.heap.update S (Obj.mapSeq (fun _=>(#[]:Array Value)))).get? b=some o:=fun b o hb e=>(Heap.get?_update_other _ _ (Ne.symm hb)).trans e
  refine wpAny_bind (wpAny_updateSeq hS rfl (wpAny_bind (wpAny_letGo ?_)))
  exact zgn calm hsys (oth dd _ (Ne.symm hne) hob) hex hdt few hne hS₂ fun h2 tk acc c2 hk hS' hacc=>fin h2 tk acc c2 (fun b o hb e=>hk b o hb (oth b o hb e)) hS' hacc
theorem znA {Q:Value→Shared→Prop} (calm:A.handled=none) (hsys:(dd == sysModules)=false) (hob:s.heap.get? dd=some ob) (hex:ob.ExactDict) (hdt:ob.data=.dict ens tick) (few:ens.size≤sizeLine)
    (fin:∀ h2 tk acc c2,(∀ b o,s.heap.get? b=some o→h2.get? b=some o)→h2.get? s.heap.objs.size=some { cls:=.type "list",dict:=none,data:=.seq acc c2,slots:=#[] }→ItemsOf (fun i v=>∃ e,ens[i]?=some e∧v=e.key) acc ens.size→Q (.ref s.heap.objs.size) { s with heap:=h2,toks:=tk }) :
    wpAny (model prog w) A (call (.type "list") [.ref dd]) Q E s:=by
  refine callType_codes (Q₁:=fun obj s₁=>obj=.ref s.heap.objs.size∧s₁={ s with heap:=s.heap.push { cls:=.type "list",data:=.seq #[] } }) F.called_list (F.typeCall_list_1 _) F.entry_list_init (code_list_new _ ⟨rfl,rfl⟩) fun obj s₁ h₁=>?_
  obtain ⟨rfl,rfl⟩:=h₁
  have hS:(s.heap.push { cls:=.type "list",data:=.seq #[] }).get? s.heap.objs.size=some { cls:=.type "list",data:=.seq #[] }:=Heap.get?_push_size _ rfl
  refine ⟨⟨_,hS,rfl⟩,F.args_list_init_2 _ _,znX (A:=A.in1) calm hsys (Heap.get?_push_of_some _ hob) hex hdt few (Ne.symm (Nat.ne_of_lt (Heap.lt_size hob))) hS fun h2 tk acc c2 hk hS' hacc=>?_⟩
  exact ⟨rfl,fin h2 tk acc c2 (fun b o e=>hk b o (Nat.ne_of_lt (Heap.lt_size e)) (Heap.get?_push_of_some _ e)) hS' hacc⟩
end
end PySem
namespace L2
open PySem PySem.Spec PyProof.Rows
section
variable {X:Cx}
def zvT:Value→V
  | .ref b=>.ref b
  | _=>.non
theorem Inv.keys {pins:List (Addr × Obj)} {σ:St} {H:Hp} {s:Shared} {a:Addr} {kvs:List (List Key × V)} {ep:Nat} (I:Inv X pins σ H s) (e:H a=some (.dE kvs ep)):kvs.length≤sizeLine∧(a == sysModules)=false∧∃ (o:Obj) (es:Array DictEntry),s.heap.get? a=some o∧o.ExactDict∧o.data=.dict es ep∧es.size=kvs.length ∧
    ∀ (i:Nat) k y,kvs[i]?=some (k,y)→∃ b x,es[i]?=some x∧x.key=.ref b∧H b=some (.tup (k.map kV)):=by
  obtain ⟨z,hd,xs,rel,_,o,es,ho,hx,hdat,he⟩:=zqB I.hok e
  have hl:kvs.length=xs.length:=Paired.length rel
  have hs:es.size=kvs.length:=by
    have:=congrArg List.length he
    rw [List.length_map,Array.length_toList] at this; rw [this,hl]
  refine ⟨z,hd,o,es,ho,hx,hdat,hs,fun i k y hk=>?_⟩
  have hi:i<kvs.length:=(List.getElem?_eq_some_iff.mp hk).1
  have hix:i<xs.length:=by rw [← hl]; exact hi
  have hi':i<es.size:=by rw [hs]; exact hi
  have q:=PL.paired_get i rel hk (List.getElem?_eq_getElem hix); refine ⟨xs[i].2.1,es[i],Array.getElem?_eq_getElem hi',?_,q.2.1⟩
  have e1:es.toList[i]?=(xs.map (entryOfKey (tupleKind (zbr X.prog X.w))))[i]?:=by rw [he]
  rw [List.getElem?_map,List.getElem?_eq_getElem hix,Array.getElem?_toList,Array.getElem?_eq_getElem hi'] at e1; rw [Option.some.inj e1]; rfl
theorem zmr:zdh X (.builtin "len") (fun xs H Q=>∃ a kvs ep,xs=[.ref a]∧H a=some (.dE kvs ep)∧Q (.int kvs.length) H):=by
  intro pins s σ H xs us Q I r h; obtain ⟨a,kvs,ep,rfl,e,q⟩:=h; obtain ⟨u,rfl,rx⟩:=zdj r; cases rx; obtain ⟨z,hd,o,es,ho,hx,hdat,hs,_⟩:=I.keys e
  refine zuj hd ho hx hdat (by rw [hs]; exact z) ?_
  rw [hs]; exact ⟨.int kvs.length,H,I.tok _,⟨_,rfl⟩,q⟩
end
end L2
namespace PL
open PySem L2
section
variable {X:Cx}
abbrev zqX:=List D→(OD→Prop)→Prop
def zo4 (K:PySem.W.Frag) (r:List V→Hp→VK→Prop) (r':zqX):Prop:=∀ (Hi H:Hp) (vs:List V) (ds:List D) (Q:OD→Prop) (Q2:VK),Fz Hi H→zbU K Hi vs ds→r' ds Q →
  (∀ Hi1 H1 p u o,Ext Hi H Hi1 H1→H1 p=none→(∀ xs,u≠.tup xs)→zbY K Hi1 (upd H1 p u) p o→Q o→Q2 (.ref p) (upd H1 p u))→r vs H Q2
structure CalO (X:Cx) (f:Value) (r':zqX):Prop where
  ex:∃ r,zdh X f r∧zo4 X.K r r'
def zak (r:zqX) (t:TA'):TO':=fun Γ Q=>t Γ fun ds Γ1=>r ds fun o=>Q o Γ1
theorem zo9 {K:PySem.W.Frag} {n:Nat} {r:List V→Hp→VK→Prop} {r':zqX} {t:TA'} {σ:St} {H:Hp} {Q:VK} (l:zo4 K r r') (h:oOf K n (zak r' t) σ H Q):tCB r (zty K n t) σ H Q:=by
  obtain ⟨W,Hi,Γ,Q',g,h,fin⟩:=h; refine ⟨W,Hi,Γ,_,g,h,?_⟩; intro vs H1 Hi1 Γ1 ds s1 g1 dl h1; refine l Hi1 H1 vs ds _ _ g1.fz dl h1 ?_; intro Hi2 H2 p u o e hp hu own q; have g2:=g1.ext e; exact fin p _ Hi2 Γ1 o (s1.trans e.hi) (g2.ext (Ext.newO g2.fz hp u hu)) (New.mk' g2 hp own) q
variable {x:Str} {p pos:Pos} {e:Expr} {es:List Expr} {t:TA'} {id T:String}
theorem zkw {r':zqX} (hc:CalO X (.type T) r') (hm:X.mg x=none) (hv:bootBuiltins x=some (.type T)) (ha:PA' X (e :: es) t) (hg:Gl X x:=by rfl) (hn:x≠"__name__":=by decide) (hdb:(x == ("__debug__":Str))=false:=by decide):PO' X (.Call (.Name x p) (e :: es) [] pos) (zak r' t):=by
  obtain ⟨r,ho,l⟩:=hc.ex; obtain ⟨p1,p2⟩:=za1 ha.pl
  exact ⟨PE.weak (zhF ho hg hm hv ha.pa hn hdb (zaU p1) (zbG p2)) fun σ H Q q=>zo9 l q⟩
def ziw:RC':=fun ds Q=>∃ es,ds=[.dit es]∧Q (.int es.length)
theorem zsK:Cal X (.builtin "len") ziw:=⟨_,zmr,by
  rintro Hi H vs ds Q Q2 s dl ⟨es,rfl,q⟩ fin
  obtain ⟨v,rfl,den⟩:=zd6 dl; obtain ⟨a,kvs,ep,rfl,h1,h2⟩:=den.ditI; refine ⟨a,kvs,ep,rfl,s.sub _ _ h1,?_⟩; rw [zi h2]; exact fin Hi H _ _ (Ext.refl s) (.int _) q⟩
instance:MRC ziw:=⟨fun _ _ _ h ⟨es,a,q⟩=>⟨es,a,h _ q⟩⟩
end
end PL
namespace PySem
section
variable {prog:Program} {w:World} {A:Around} {E:Value→Shared→Prop} {s:Shared} {S tt:Addr} {ob:Obj} {mine items:Array Value} {n c₀:Nat} {T:String}
theorem zjY {Q:Value→Shared→Prop} (hT:T="list"∨T="tuple") (hS:s.heap.get? S=some { cls:=.type "list",data:=.seq mine c₀ }) (hob:s.heap.get? tt=some ob) (hcl:ob.cls=.type T) (hdt:ob.data=.seq items n) (few:mine.size+items.size≤sizeLine)
    (fin:Q .none { s with heap:=s.heap.update S (Obj.mapSeq (· ++ items)) }):wpAny (model prog w) A (call (.builtin "list.extend") [.ref S,.ref tt]) Q E s:=by
  refine wpAny_call_entry F.slot_list_extend ⟨_,hS,rfl⟩ F.entry_list_extend ?_ (F.args_list_extend_2 _ _)
  show wpAny _ _ (Builtin.List.listExtendWith (.ref S) (.ref tt) .none) _ _ s
  unfold Builtin.List.listExtendWith; refine wpAny_bind (wpAny_typeOf ⟨ob,hob,hcl⟩ ?_)
  have h1:(Builtin.List.listSameRef (.ref S) (.ref tt) || Value.type T == Value.type "list" || Value.type T == Value.type "tuple")=true:=by
    rcases hT with rfl | rfl <;> simp
  simp only [h1,if_true]; unfold Builtin.List.listItems; refine wpAny_bind (wpAny_bind (wpAny_seqItems hob hdt (wpAny_pure (wpAny_bind (wpAny_bind (wpAny_seqItems hS rfl (wpAny_pure ?_)))))))
  have hlong:¬ (!mine.isEmpty && Builtin.List.listTooLong (mine.size+items.size))=true:=by
    rw [L2.notLongL few,Bool.and_false]; exact Bool.false_ne_true
  rw [if_neg hlong]
  show wpAny _ _ (updateSeq S (· ++ items) >>= fun _=>ret .none) _ _ s
  refine wpAny_bind (wpAny_updateSeq hS rfl (wpAny_pure ⟨_,rfl,fin⟩) (by omega) (by rw [Array.size_append]; omega))
end
end PySem
namespace L2
open PySem PySem.Spec PyProof.Rows
section
variable {X:Cx}
theorem zkD:MtM X "list.extend" (fun x vs H Q=>∃ l b xs zs,x=.ref l∧vs=[.ref b]∧H l=some (.lst xs)∧(SqL X.K H b zs∨SqT X.K H b zs)∧xs.length+zs.length≤sizeLine∧Q .non (upd H l (.lst (xs ++ zs)))):=by
  intro pins s σ H x vs v us Q I rx rv h; obtain ⟨l,b,xs,zs,rfl,rfl,hH,hB,hz,q⟩:=h; cases rx; obtain ⟨u,rfl,ru⟩:=rv.one; cases ru; obtain ⟨z,its,n,r,hl,e⟩:=I.lstM hH
  have fin:∀ (its2:List Value),za5 zs its2→EP X pins σ Q .none { s with heap:=s.heap.update l (Obj.mapSeq (· ++ its2.toArray)) }:=fun its2 r2 =>
    ⟨.non,_,I.lset (its':=its ++ its2) hH e (by simp) (r.append r2) (by rw [List.length_append]; exact hz),rfl,q⟩
  rcases hB with hB | hB
  · obtain ⟨its2,r2,pl,_⟩:=I.list hB
    obtain ⟨o,ho,hc,n2,hd⟩:=pl.isList
    exact zjY (T:="list") (.inl rfl) e ho hc hd (by rw [List.size_toArray,List.size_toArray,← r.length,← r2.length]; exact hz) (fin its2 r2)
  · obtain ⟨its2,r2,⟨o,ho,hc,n2,hd⟩,_⟩:=I.tuple hB
    exact zjY (T:="tuple") (.inr rfl) e ho hc hd (by rw [List.size_toArray,List.size_toArray,← r.length,← r2.length]; exact hz) (fin its2 r2)
theorem zlD:OpR X (binaryOp .Add) (fun x y H Q=>∃ a b xs ys,x=.ref a∧y=.ref b∧SqL X.K H a xs∧SqL X.K H b ys∧xs.length+ys.length≤sizeLine∧∀ p,H p=none→Q (.ref p) (upd H p (.lst (xs ++ ys)))):=by
  intro pins s σ H x y v u Q I rx ry h; obtain ⟨a,b,xs,ys,rfl,rfl,ha,hb,hz,q⟩:=h; cases rx; cases ry; obtain ⟨its,r1,p1,_⟩:=I.list ha; obtain ⟨its2,r2,p2,_⟩:=I.list hb
  obtain ⟨⟨cls,dd,data,sl⟩,ho,hc,n,hd⟩:=id p1.isList
  obtain ⟨⟨cls2,dd2,data2,sl2⟩,ho2,hc2,n2,hd2⟩:=id p2.isList
  simp only at hc hd hc2 hd2
  subst hc hd hc2 hd2
  have ea:its.toArray ++ its2.toArray=(its ++ its2).toArray:=by simp
  refine concat_meets ⟨_,ho,rfl⟩ ⟨_,ho2,rfl⟩ noFill_list_add seq_list_add PySem.F.slot_list_add PySem.F.entry_list_add (PySem.F.args_list_add_2 _ _)
    (list_addW a b its.toArray its2.toArray n n2 dd dd2 sl sl2 (by rw [List.size_toArray,List.size_toArray,← r1.length,← r2.length]; exact hz)) ⟨ho,ho2,?_⟩
  rw [ea]
  exact ⟨.ref _,_,I.lnew (t':=s.toks) (r1.append r2) (by rw [List.length_append]; exact hz),rfl,q _ I.fresh⟩
end
end L2
namespace PL
open PySem L2
section
variable {X:Cx}
abbrev zqM:=D→D→(OD→Prop)→Prop
def zsP (K:PySem.W.Frag) (r:R2) (r':zqM):Prop:=∀ (Hi H:Hp) (x y:V) (dx dy:D) (Q:OD→Prop) (Q2:VK),Fz Hi H→Den K Hi x dx→Den K Hi y dy→r' dx dy Q →
  (∀ Hi1 H1 p u o,Ext Hi H Hi1 H1→H1 p=none→(∀ xs,u≠.tup xs)→zbY K Hi1 (upd H1 p u) p o→Q o→Q2 (.ref p) (upd H1 p u))→r x y H Q2
structure Op2O (X:Cx) (f:Value→Value→Sem Value) (r':zqM):Prop where
  ex:∃ r,OpR X f r∧zsP X.K r r'
def zaf (r:zqM) (ta tb:TE'):TO':=fun Γ Q=>ta Γ fun x Γ1=>tb Γ1 fun y Γ2=>r x y fun o=>Q o Γ2
theorem zhC {a b:Expr} {op:Operator} {r':zqM} {ta tb:TE'} {pos:Pos} (h:Op2O X (binaryOp op) r') (ha:PE' X a ta) (hb:PE' X b tb):PO' X (.BinOp a op b pos) (zaf r' ta tb):=by
  obtain ⟨r,ho,l⟩:=h.ex; refine ⟨PE.weak (zpK ho ha.h hb.h) ?_⟩
  rintro σ H Q ⟨W,Hi,Γ,Q',g,h,fin⟩
  refine ⟨W,Hi,Γ,_,g,h,?_⟩
  rintro x H1 ⟨Hi1,dx,Γ1,s1,g1,den1,h1⟩
  refine ⟨W,Hi1,Γ1,_,g1,h1,?_⟩
  rintro y H2 ⟨Hi2,dy,Γ2,s2,g2,den2,h2⟩
  refine l Hi2 H2 x y dx dy _ _ g2.fz (den1.mono s2) den2 h2 ?_; intro Hi3 H3 p u o e hp hu own q; have g3:=g2.ext e; exact fin p _ Hi3 Γ2 o (s1.trans (s2.trans e.hi)) (g3.ext (Ext.newO g3.fz hp u hu)) (New.mk' g3 hp own) q
class MR2O (r:zqM):Prop where
  mono:∀ x y (Q Q':OD→Prop),(∀ o,Q o→Q' o)→r x y Q→r x y Q'
instance {r:zqM} {ta tb:TE'} [MR2O r] [ME ta] [ME tb]:MO (zaf r ta tb):=⟨fun Γ _ _ h q=>ME.mono (t:=ta) _ _ _ (fun _ _ z=>ME.mono (t:=tb) _ _ _ (fun _ _ y=>MR2O.mono (r:=r) _ _ _ _ (fun _ w=>h _ _ w) y) z) q⟩
def zpp:zqM:=fun x y Q=>∃ xs ys,x=.lst xs∧y=.lst ys∧xs.length+ys.length≤sizeLine∧Q (.lst (xs ++ ys))
theorem zhL:Op2O X (binaryOp .Add) zpp:=⟨_,zlD,by
  rintro Hi H x y dx dy Q Q2 s d1 d2 ⟨xs,ys,rfl,rfl,hl,q⟩ fin
  obtain ⟨a,vs,rfl,h1,h2⟩:=d1.lstI; obtain ⟨b,us,rfl,h3,h4⟩:=d2.lstI
  exact ⟨a,b,vs,us,rfl,rfl,zaK s.sub h1,zaK s.sub h3,by rw [zi h2,zi h4]; exact hl,fun p hp=>fin Hi H p _ (.lst (xs ++ ys)) (Ext.refl s) hp (fun _ z=>by cases z) ⟨_,zP,zaY h2 h4⟩ q⟩⟩
instance:MR2O zpp:=⟨fun _ _ _ _ h ⟨xs,ys,a,b,c,q⟩=>⟨xs,ys,a,b,c,h _ q⟩⟩
def zf (i:Nat) (te:TE'):TS':=fun N Γ=>(∃ ds0,Γ[i]?=some (.own (.lst ds0)))∧te Γ fun d Γ1=>∃ ds es,Γ1[i]?=some (.own (.lst ds))∧(d=.lst es∨d=.tup es)∧ds.length+es.length≤sizeLine∧N.nx (Γ1.set i (.own (.lst (ds ++ es))))
theorem zgg (i:Nat) {x:Str} {e:Expr} {te:TE'} {pos p apos cpos:Pos} (he:PE' X e te) (hN:X.N[i]?=some x:=by rfl) (hv:Vis X.env.scope x:=by first | exact Or.inl rfl | exact Or.inr (Or.inl rfl) | exact Or.inr (Or.inr rfl)) (hd:(x == ("__debug__":Str))=false:=by decide)
    (hcd:(x == ("__classdict__":Str))=false:=by decide) (hst:zdS e=false:=by rfl)
    (hbase:attributeBase (.Name x p) "extend" X.env (eval (.Name x p) X.env)=eval (.Name x p) X.env:=by rfl) (hline:(apos.endLine == cpos.line)=true:=by rfl)
    (hs:swapsWith (.Call (.Attribute (.Name x p) "extend" apos) [e] [] cpos) none pos.line X.env=pure false:=by rfl) :
    PS' X (.Expr (.Call (.Attribute (.Name x p) "extend" apos) [e] [] cpos) pos) (zf i te):=by
  have hfew:((backTo cpos (starEach [e] X.env)).all (fun x=>!x.1) && (backToKw cpos (keywordEach [] X.env)).all (fun x=>x.1.isSome)
      && decide ([e].length+([]:List Keyword).length+(if ([]:List Keyword).isEmpty then 0 else 1)<30))=true:=by
    rw [zaU hst]; rfl
  have base:=zgJ (znh PySem.F.plainAttrs_list PySem.F.slot_list_extend PySem.F.type_list_extend (zkD (X:=X)) (zcS (i:=i) (pos:=p) hN hv hd hcd) (zdv he.h zhG (zaU hst)) hbase hfew hline (zaU hst) rfl) hs; refine ⟨PS.weak base ?_⟩
  rintro N2 σ H ⟨W,Hi,Γ,N,g,⟨⟨ds0,e0⟩,q⟩,l⟩
  have hi:i<X.N.length:=(List.getElem?_eq_some_iff.mp hN).1
  obtain ⟨a,h1,h2,h3,vs0,h4,h5⟩:=g.own i _ e0; refine ⟨.ref a,zeT hi h1,.inl ⟨rfl,vs0,SqL.of h4⟩,W,Hi,Γ,_,g,q,?_⟩
  rintro v H1 ⟨Hi1,d,Γ1,s1,g1,den,ds,es,e1,hd',hl,q1⟩
  obtain ⟨a',k1,k2,k3,vs,k4,k5⟩:=g1.own i _ e1; rw [h1] at k1; cases k1
  have fin:∀ b us,v=.ref b→(SqL X.K H1 b us∨SqT X.K H1 b us)→zbU X.K Hi1 us es→_:=fun b us hb hsq hden =>
    (⟨a,b,vs,us,rfl,by rw [hb],k4,hsq,by rw [zi k5,zi hden]; exact hl,l.nx σ _ Hi1 _ s1 (g1.put (o:=.lst (ds ++ es)) e1 h1 ⟨vs ++ us,zP,zaY k5 hden⟩) q1⟩:∃ l b xs zs,V.ref a=.ref l∧[v]=[.ref b]∧H1 l=some (.lst xs)∧(SqL X.K H1 b zs∨SqT X.K H1 b zs)∧xs.length+zs.length≤sizeLine∧N2.nx σ (upd H1 l (.lst (xs ++ zs))))
  rcases hd' with rfl | rfl
  · obtain ⟨b,us,hb,m1,m2⟩:=den.lstI
    exact fin b us hb (.inl (zaK g1.sub m1)) m2
  · obtain ⟨b,us,hb,m1,m2⟩:=den.tupI
    exact fin b us hb (.inr (zaO g1.sub m1)) m2
instance {i:Nat} {te:TE'} [ME te]:MS (zf i te):=⟨fun N N' Γ h ⟨a,q⟩=>⟨a,ME.mono (t:=te) _ _ _ (fun _ _ ⟨ds,es,e,b,l,z⟩=>⟨ds,es,e,b,l,h.nx _ z⟩) q⟩⟩
end
end PL
namespace L2
open PySem PySem.Spec PyProof.Rows
section
variable {X:Cx}
end
end L2
namespace PL
open PySem L2
section
variable {X:Cx}
end
end PL
namespace PySem
open PyProof.Rows
namespace F
end F
section
variable {prog:Program} {w:World} {A:Around} {E:Value→Shared→Prop} {s:Shared} {tt rr:Addr} {items:Array Value}
end
end PySem
namespace L2
open PySem PySem.Spec PyProof.Rows
section
variable {X:Cx} {tg:Expr}
end
end L2
namespace PL
open PySem L2
end PL
namespace X1
open PySem
def Ex (h:Heap) (e:Addr) (cl:Value) (dd:Option Addr) (vs:Array Value):Prop:=∃ sl,h.get? e=some ⟨cl,dd,.fields vs,sl⟩
def Ent (h:Heap) (T:Addr) (fl:Value):Prop:=∃ c d ts sl,h.get? T=some ⟨c,d,.fields ts,sl⟩∧ts[3]?=some fl
def Hd (h:Heap) (e:Addr) (vs:Array Value) (fl:Value) (R:Addr→Prop):Prop:=(vs[1]?=some .none∧fl=.none)∨∃ T,vs[1]?=some (.ref T)∧T≠e∧R T∧Ent h T fl
section
variable {M:Model} {A:Around} {E:Value→Shared→Prop} {s:Shared} {base:Heap} {env:Env} {outer:List Env} {L e:Addr} {cl fl:Value} {dd:Option Addr} {vs:Array Value} {R:Addr→Prop}
end
end X1
namespace X1
open PySem
section
variable {prog:Program} {w:World} {A:Around} {E:Value→Shared→Prop} {h:Heap} {g:Array GenState} {d:Drawn} {t:Nat} {os:OsState} {C N fI:Addr} {oI:Obj} {bm bmB:List Value} {B nid iid:String} {mN:Str→Option Value} {ze3:List Value}
end
end X1
namespace X1
open PySem
section
variable {M:Model} {A:Around} {E:Value→Shared→Prop} {env:Env} {s:Shared} {C N:Addr} {bm:List Value} {nid:String}
end
end X1
namespace X1
open PySem PySem.W
section
variable {prog:Program} {w:World} {A:Around} {E:Value→Shared→Prop} {s:Shared} {K:Frag} {x C:Addr} {ox:Obj} {od:Option Obj} {name:Str}
structure XGet (K:Frag) (C:Addr):Prop where
  ga:findIn K (.ref C) "__getattribute__"=some (some (.builtin "BaseException.__getattribute__"))
  gr:findIn K (.ref C) "__getattr__"=some none
  sub:mroIn K C (.type "BaseException")=some true
theorem zki {tk:Tok} {v:Value} {R:Result→Shared→Prop} (X:K.In s.heap) (I:InstAt s.heap x ox C od) (T:XGet K C) (hf:findObj K C od name=some (.value v)) (h:R (.ok (.ret v)) s) :
    codeAny (model prog w) A (.call (.builtin "BaseException.__getattribute__") ⟨[.ref x,.str name tk],[]⟩) R s:=by
  obtain ⟨hh',g,d,t,os⟩:=s; have L0:=I.type (M:=model prog w); have L1:=looks_find (M:=model prog w) X I hf
  have LI:Looks (model prog w) hh' (isInstance (.ref x) (.type "BaseException")) true:=L0.andThen (looks_mroIn X T.sub)
  have hk:builtinKind "BaseException.__getattribute__"=some .slot:=by decide +kernel
  have hsp:splitId "BaseException.__getattribute__"=some ("BaseException","__getattribute__"):=by decide +kernel
  refine codeAny_call_builtin F.excAttr_ValueError.ga.plain F.entry_bexc_ga (@check_slot (model prog w) _ _ _ "BaseException.__getattribute__" "BaseException" "__getattribute__" (.ref x) [.str name tk] [] _ hk hsp LI (F.args_bexc_ga (.ref x) (.str name tk)) ?_); refine wpAny_bind (wpAny_pure (wpAny_bind (wpAny_pure (wpAny_bind (L0.at (wpAny_bind (L1.at ?_))))))); exact wpAny_pure h
theorem zkZ {tk:Tok} {fill expr:Bool} {v:Value} {Q:Value→Shared→Prop} (X:K.In s.heap) (I:InstAt s.heap x ox C od) (T:XGet K C) (h:∀ R:Result→Shared→Prop,R (.ok (.ret v)) s→codeAny (model prog w) A (.call (.builtin "BaseException.__getattribute__") ⟨[.ref x,.str name tk],[]⟩) R s)
    (hh:handedIn v=true) (q:Q v s):wpAny (model prog w) A (getAttrBy (.ref x) (.str name tk) fill expr) Q E s:=by
  obtain ⟨hh',g,d,t,os⟩:=s; have L0:=I.type (M:=model prog w); have L1:=looks_findIn (M:=model prog w) X T.ga; have L2:=looks_findIn (M:=model prog w) X T.gr; unfold getAttrBy; refine wpAny_holding (wpAny_bind (L0.at (wpAny_bind (L1.at ?_))))
  show wpAny _ _ (if (onTheHeap (.ref C) && Value.builtin "BaseException.__getattribute__" == Value.builtin "object.__getattribute__")=true then _ else _) _ _ _
  rw [if_neg (by
    have z:(Value.builtin "BaseException.__getattribute__" == Value.builtin "object.__getattribute__")=false:=by decide +kernel
    rw [z,Bool.and_false]; exact Bool.false_ne_true)]
  unfold getAttrByItsOwn hookBefore; refine wpAny_bind (L2.at ?_); refine wpAny_bind (wpAny_attempt (wpAny_holding ?_)); unfold callGetattribute
  rw [if_neg (by cases expr <;> decide)]
  unfold boundAndCalled; rw [F.excAttr_ValueError.ga.bind]; refine wpAny_bind (wpAny_pure (wpAny_call (h _ ?_)))
  show wpAny _ _ (handedOut v) _ _ _
  rw [handedOut_of hh]; exact wpAny_pure q
theorem xget {expr:Bool} {v:Value} {Q:Value→Shared→Prop} (X:K.In s.heap) (I:InstAt s.heap x ox C od) (T:XGet K C) (hf:findObj K C od name=some (.value v)) (hh:handedIn v=true) (q:Q v { s with toks:=s.toks+1 }):wpAny (model prog w) A (getAttr (.ref x) name expr) Q E s:=by
  unfold getAttr
  exact wpAny_bind (wpAny_mkText (zkZ (s:={ s with toks:=s.toks+1 }) X I T (fun R hR=>zki (s:={ s with toks:=s.toks+1 }) X I T hf hR) hh q))
theorem zkj {tk:Tok} {R:Result→Shared→Prop} (X:K.In s.heap) (I:InstAt s.heap x ox C od) (T:XGet K C) (hf:findObj K C od "__class__"=some (.bind (.builtin "getset_descriptor.__get__") (.builtin "object.__class__"))) (hm:mroIn K C (.type "object")=some true)
    (h:R (.ok (.ret (.ref C))) s):codeAny (model prog w) A (.call (.builtin "BaseException.__getattribute__") ⟨[.ref x,.str "__class__" tk],[]⟩) R s:=by
  obtain ⟨hh',g,d,t,os⟩:=s; have L0:=I.type (M:=model prog w); have L1:=looks_find (M:=model prog w) X I hf
  have LI:Looks (model prog w) hh' (isInstance (.ref x) (.type "BaseException")) true:=L0.andThen (looks_mroIn X T.sub)
  have hk:builtinKind "BaseException.__getattribute__"=some .slot:=by decide +kernel
  have hsp:splitId "BaseException.__getattribute__"=some ("BaseException","__getattribute__"):=by decide +kernel
  refine codeAny_call_builtin F.excAttr_ValueError.ga.plain F.entry_bexc_ga (@check_slot (model prog w) _ _ _ "BaseException.__getattribute__" "BaseException" "__getattribute__" (.ref x) [.str "__class__" tk] [] _ hk hsp LI (F.args_bexc_ga (.ref x) (.str "__class__" tk)) ?_); refine wpAny_bind (wpAny_pure (wpAny_bind (wpAny_pure (wpAny_bind (L0.at (wpAny_bind (L1.at ?_)))))))
  show wpAny _ _ (Builtin.ObjectAttr.bindTo (.builtin "getset_descriptor.__get__") (.builtin "object.__class__") (.ref x) (.ref C)) _ _ _
  show wpAny _ _ (do let r ← holding [Value.builtin "object.__class__"] (call (.builtin "getset_descriptor.__get__") [.builtin "object.__class__",.ref x,.ref C]); ret r) _ _ _
  exact wpAny_bind (wpAny_holding (wpAny_call (class_get (ox:=ox) (od:=od) X I hm (wpAny_pure h))))
theorem xget_class? {Q:Option Value→Shared→Prop} (X:K.In s.heap) (I:InstAt s.heap x ox C od) (T:XGet K C) (hf:findObj K C od "__class__"=some (.bind (.builtin "getset_descriptor.__get__") (.builtin "object.__class__"))) (hm:mroIn K C (.type "object")=some true)
    (h:Q (some (.ref C)) { s with toks:=s.toks+1 }):wpAny (model prog w) A (getAttr? (.ref x) "__class__") Q E s:=by
  unfold getAttr? getAttrBy?
  refine wpAny_bind (wpAny_mkText (wpAny_bind (wpAny_attempt ?_)))
  exact zkZ (s:={ s with toks:=s.toks+1 }) X I T (fun R hR=>zkj (s:={ s with toks:=s.toks+1 }) X I T hf hm hR) rfl (wpAny_pure h)
end
structure XIs (K:Frag) (C:Addr):Prop extends XGet K C where
  cl:(clsIn K C).isSome=true
  ha:findIn K (.ref C) "__class__"=some (some (.builtin "object.__class__"))
  hn:specialIn K (.builtin "object.__class__") "__get__"=some (some (.builtin "getset_descriptor.__get__"))
  tk:takesIn K (.builtin "object.__class__")=some true
  ob:mroIn K C (.type "object")=some true
theorem zje {K:Frag} {C:Addr} {a g:Value} {od:Option Obj} {name:Str} (hc:(clsIn K C).isSome=true) (ha:findIn K (.ref C) name=some (some a)) (hg:specialIn K a "__get__"=some (some g)) (ht:takesIn K a=some true):findObj K C od name=some (.bind g a):=by
  obtain ⟨cd,e⟩:=Option.isSome_iff_exists.mp hc; unfold findObj; rw [e,Option.bind_some,ha]; simp [hg,ht]
theorem kitx_exc {K:Frag} {x C:Addr} (T:XIs K C):KitX K (.ref x) (.ref C) (fun h=>∃ ox od,InstAt h x ox C od) where
  ty:=fun _ _ _ ⟨_,_,I⟩=>I.type
  it:=fun _ _ X _=>by
    have hcD:=T.cl; unfold clsIn at hcD; split at hcD
    · rename_i c' d' cd' sl' ho
      intro A' Q' E' s' k q; unfold isType loadHead; exact wpAny_bind (wpAny_loadPart (k _ _ (X _ _ ho)) (wpAny_pure q))
    · cases hcD
  ne:=fun h tp dd its n sl X htp=>by
    have hcD:=T.cl
    refine Bool.eq_false_iff.mpr fun q=>?_
    have e:C=tp:=Value.ref.inj (beq_iff_eq.mp q)
    subst e; unfold clsIn at hcD; split at hcD
    · rename_i c' d' cd' sl' ho
      have z:=(X _ _ ho).symm.trans htp; cases z
    · cases hcD
  ca:=fun X ⟨_,_,I⟩ k=>xget_class? X I T.toXGet (zje T.cl T.ha T.hn T.tk) T.ob k
end X1
namespace L2
open PySem PySem.Spec PyProof.Rows
structure InsT (K:PySem.W.Frag) (C:Addr):Prop where
  cl:Cls K C
  ha:PySem.W.findIn K (.ref C) "__class__"=some (some (.builtin "object.__class__"))
  hn:PySem.W.specialIn K (.builtin "object.__class__") "__get__"=some (some (.builtin "getset_descriptor.__get__"))
  htk:PySem.W.takesIn K (.builtin "object.__class__")=some true
  hm:PySem.W.mroIn K C (.type "object")=some true
def TyA (K:PySem.W.Frag) (H:Hp) (x:V) (t:Value):Prop:=(∃ n,t=.type n∧zsS K H x n)∨(∃ a C dx fs,x=.ref a∧H a=some (.ins C dx fs)∧t=.ref C∧InsT K C)∨∃ a C dd,x=.ref a∧H a=some (.ext (XAt a C dd))∧(∀ dx,dd=some dx→∃ fs,H dx=some (.xd fs))∧t=.ref C∧X1.XIs K C
def zuC:V→Option Value
  | .ty n=>some (.type n)
  | .ref C=>some (.ref C)
  | _=>none
theorem zoh {c:V} {u v:Value} (r:zby c u) (h:zuC c=some v):u=v:=by
  cases c with
  | ty n=>cases h; exact r
  | ref C=>cases h; exact r
  | _=>cases h
theorem zfN {K:PySem.W.Frag} {C D':Addr} {b:Bool} (hd:PySem.W.hasDictIn K D'=true) (ht:PySem.W.typeIn K (.ref D')=some (.type "type")) (hm:PySem.W.mroIn K C (.ref D')=some b) (hne:b=true∨(Value.ref C == Value.ref D')=false):PySem.W.kitOne K (.ref C) (.ref D')=some b:=by
  have hc:(PySem.W.clsIn K D').isSome=true:=by
    obtain ⟨cd,e,_⟩:=PySem.W.any_some hd; rw [e]; rfl
  have hk:PySem.W.kitCls K (.ref C) (.ref D')=some b:=by
    show (if ((PySem.W.clsIn K D').isSome && PySem.W.typeIn K (.ref D') == some (.type "type"))=true then PySem.W.subIn K (.ref C) (.ref D') else none)=some b
    rw [hc,ht,if_pos (by simp)]
    exact hm
  unfold PySem.W.kitOne
  by_cases e:(Value.ref C == Value.ref D')=true
  · rw [if_pos e]
    rcases hne with h | h
    · rw [h]
    · rw [h] at e
      cases e
  · rw [if_neg e]
    exact hk
section
variable {X:Cx}
theorem zo6 {pins:List (Addr × Obj)} {σ:St} {H:Hp} {s:Shared} {x:V} {u t:Value} (I:Inv X pins σ H s) (r1:zby x u) (ty:TyA X.K H x t):∃ Hh,PySem.W.KitX X.K u t Hh∧Hh s.heap∧u≠.builtin "__main__.__loader__#opaque":=by
  rcases ty with ⟨n,rfl,ty⟩ | ⟨a,C,dx,fs,rfl,ea,rfl,T⟩ | ⟨a,C,dd,rfl,ea,hdd,rfl,T⟩
  · cases x with
    | non=>cases (show n=_ from ty); cases (show u=Value.none from r1); exact ⟨_,PySem.W.kitx_none,True.intro,fun z=>nomatch z⟩
    | bl y=>cases (show n=_ from ty); cases (show u=Value.bool y from r1); exact ⟨_,PySem.W.kitx_bool,True.intro,fun z=>nomatch z⟩
    | int i=>cases (show n=_ from ty); obtain ⟨tk,z⟩:=(show ∃ t,u=Value.int i t from r1); cases z; exact ⟨_,PySem.W.kitx_int,True.intro,fun z=>nomatch z⟩
    | str y=>cases (show n=_ from ty); obtain ⟨tk,z⟩:=(show ∃ t,u=Value.str y t from r1); cases z; exact ⟨_,PySem.W.kitx_str,True.intro,fun z=>nomatch z⟩
    | ref a =>
      cases (show u=Value.ref a from r1)
      rcases ty with ⟨rfl,xs,hq⟩ | ⟨rfl,xs,hq⟩ | ⟨rfl,hq⟩
      · obtain ⟨its,_,p,_⟩:=I.list hq
        obtain ⟨o,n,e1,c1,_⟩:=p
        exact ⟨_,PySem.W.kitx_list,⟨o,e1,c1⟩,fun z=>nomatch z⟩
      · obtain ⟨its,_,p,_⟩:=I.tuple hq
        obtain ⟨o,h1,h2,_⟩:=p
        exact ⟨_,PySem.W.kitx_tuple,⟨o,h1,h2⟩,fun z=>nomatch z⟩
      · have z:∃ o,s.heap.get? a=some o∧o.ExactDict:=by
          rcases hq with ⟨kvs,hq⟩ | ⟨kvs,hq⟩
          · obtain ⟨_,_,_,_,o,_,_,e,ex,_⟩:=hq.ok I.hok
            exact ⟨o,e,ex⟩
          · obtain ⟨_,_,_,_,o,_,_,e,ex,_⟩:=hq.ok I.hok
            exact ⟨o,e,ex⟩
        obtain ⟨o,h1,h2⟩:=z
        exact ⟨_,PySem.W.kitx_dict,⟨o,h1,h2.1⟩,fun z=>nomatch z⟩
    | _=>exact False.elim ty
  · cases (show u=Value.ref a from r1)
    obtain ⟨mA,O,_⟩:=zi8 I.hok ea; obtain ⟨od,J,_⟩:=O.look
    exact ⟨_,PySem.W.kitx_own (T.cl.get _) T.cl.hd T.ha T.hn T.htk T.hm,J,fun z=>nomatch z⟩
  · cases (show u=Value.ref a from r1)
    obtain ⟨⟨vs,sl,hx⟩,_⟩:=(show zbT X.prog X.w H s.heap a (.ext (XAt a C dd)) from I.hok a _ ea)
    refine ⟨_,X1.kitx_exc T,?_,fun z=>nomatch z⟩
    cases dd with
    | none=>exact ⟨_,none,hx,rfl,rfl,True.intro⟩
    | some dx =>
      obtain ⟨fs,hf⟩:=hdd dx rfl
      obtain ⟨mA,⟨o,es,ep,ho,_⟩,_⟩:=(show zbT X.prog X.w H s.heap dx (.xd fs) from I.hok dx _ hf)
      exact ⟨_,some o,hx,rfl,rfl,ho⟩
theorem zms:zdh X (.builtin "isinstance") (fun xs H Q=>∃ x t cv c b,xs=[x,cv]∧zuC cv=some c∧TyA X.K H x t∧PySem.W.kitOne X.K t c=some b∧Q (.bl b) H):=by
  intro pins s σ H xs us Q I r h; obtain ⟨x,t,cv,c,b,rfl,hc,ty,e,q⟩:=h; obtain ⟨u,w',rfl,r1,r2⟩:=zq4 r
  cases zoh r2 hc
  obtain ⟨Hh,kx,hp,ne⟩:=zo6 I r1 ty
  exact PySem.W.kia_one kx I.kIn hp e ne fun tk=>⟨.bl b,H,I.tok _,rfl,q⟩
def zjA (C:Addr) (fs:List Str):Sp:=fun vs H Q _=>∃ a dx us,vs=.ref a :: us∧us.length=fs.length∧H a=some (.ins C dx [])∧Q .non (upd H a (.ins C dx (fs.zip us)))
end
end L2
namespace PL
open PySem L2
section
variable {X:Cx} {pos:Pos}
theorem zmy.look {K:PySem.W.Frag} {H:Hp} {f:Str} {d:D}:∀ {fs:List (Str × V)} {ds:List (Str × D)},zmy K H fs ds→ds.lookup f=some d→∃ v,fs.lookup f=some v∧Den K H v d
  | _,_,.nil,h=>by simp at h
  | p :: fs,q :: ds,.cons r t,h=>by
    obtain ⟨p1,p2⟩:=p; obtain ⟨q1,q2⟩:=q; obtain ⟨r1,r2⟩:=r
    dsimp only at r1 r2
    subst r1
    by_cases e:f=q1
    · have hb:(f == q1)=true:=beq_iff_eq.mpr e
      simp only [List.lookup,hb] at h ⊢; cases h; exact ⟨_,rfl,r2⟩
    · have hb:(f == q1)=false:=beq_eq_false_iff_ne.mpr e
      simp only [List.lookup,hb] at h ⊢; exact zmy.look t h
theorem zkY {K:PySem.W.Frag} {H:Hp}:∀ (fs:List Str) {vs:List V} {ds:List D},zbU K H vs ds→zmy K H (fs.zip vs) (fs.zip ds)
  | [],_,_,_=>.nil
  | f :: fs,_,_,.nil=>by simp only [List.zip_nil_right]; exact .nil
  | f :: fs,_,_,.cons r t=>.cons ⟨rfl,r⟩ (zkY fs t)
def zaA (K:PySem.W.Frag) (t:TE') (f:Str):TE':=fun Γ Q=>t Γ fun d Γ1=>∃ C fs v,d=.obj C fs∧Cls K C∧zbO K C f∧fs.lookup f=some v∧Q v Γ1
theorem ziD {x:Str} {C:Addr} (hm:X.mg x=some (.ref C)) (hg:Gl X x:=by rfl) (hd:(x == ("__debug__":Str))=false:=by decide):PE' X (.Name x pos) (tC' (.cls C)):=zrV (v:=.ref C) hm rfl (fun _=>.cls C) hg hd
def zuD:D→Option Value
  | .ty n=>some (.type n)
  | .cls C=>some (.ref C)
  | _=>none
theorem zqC {K:PySem.W.Frag} {H:Hp} {v:V} {d:D} {c:Value} (h:Den K H v d) (e:zuD d=some c):zuC v=some c:=by
  cases h with
  | ty n=>exact e
  | cls C=>exact e
  | _=>cases e
def TyD (K:PySem.W.Frag) (d:D) (t:Value):Prop:=(∃ n,t=.type n∧zqc d=some n)∨(∃ C fs,d=.obj C fs∧t=.ref C∧InsT K C)∨∃ C fs,d=.exc C fs∧t=.ref C∧X1.XIs K C
theorem TyD.ok {K:PySem.W.Frag} {Hi H:Hp} {x:V} {d:D} {t:Value} (s:zaX Hi H) (den:Den K Hi x d) (h:TyD K d t):TyA K H x t:=by
  rcases h with ⟨n,rfl,h⟩ | ⟨C,fs,rfl,rfl,T⟩ | ⟨C,fs,rfl,rfl,T⟩
  · exact .inl ⟨n,rfl,znQ s den h⟩
  · obtain ⟨a,dx,fvs,rfl,ha,_⟩:=den.objI
    exact .inr (.inl ⟨a,C,dx,fvs,rfl,s _ _ ha,rfl,T⟩)
  · obtain ⟨a,dd,rfl,ha,xd⟩:=den.excI
    refine .inr (.inr ⟨a,C,dd,rfl,s _ _ ha,fun dx e=>?_,rfl,T⟩)
    rcases xd with ⟨e',_⟩ | ⟨dx',fs',e',hf,_⟩
    · rw [e'] at e; cases e
    · rw [e'] at e
      cases e; exact ⟨fs',s _ _ hf⟩
def zgE (K:PySem.W.Frag):RC':=fun ds Q=>∃ d t cd c b,ds=[d,cd]∧zuD cd=some c∧TyD K d t∧PySem.W.kitOne K t c=some b∧Q (.bl b)
theorem zsL:Cal X (.builtin "isinstance") (zgE X.K):=⟨_,zms,by
  rintro Hi H vs ds Q Q2 s dl ⟨d,t,cd,c,b,rfl,hc,ty,e,q⟩ fin
  obtain ⟨v,w,rfl,d1,d2⟩:=zsD dl; exact ⟨v,t,w,c,b,rfl,zqC d2 hc,ty.ok s.sub d1,e,fin Hi H _ _ (Ext.refl s) (.bl _) q⟩⟩
structure Mak (P:Program) (w:World) (K:PySem.W.Frag) (mg:Str→Option Value) (base:Heap) (k:Nat) (x:Str) (C:Addr) (fs:List Str):Prop where
  ex:∃ f fd ps,Mk K C f∧FnOk P w K mg base CX0 k f fd ps (zjA C fs)∧zdi K fd ps []∧mg x=some (.ref C)
def zG (C:Addr) (fs:List Str) (t:TA'):TE':=fun Γ Q=>t Γ fun ds Γ1=>ds.length=fs.length∧Q (.obj C (fs.zip ds)) Γ1
theorem zgN {k:Nat} {x:Str} {C:Addr} {fs:List Str} {p:Pos} {e:Expr} {es:List Expr} {t:TA'} (M:Mak X.prog X.w X.K X.mg X.base k x C fs) (hr:Room (k+1) X.A) (ha:PA' X (e :: es) t) (hg:Gl X x:=by rfl) (hdb:(x == ("__debug__":Str))=false:=by decide) :
    PE' X (.Call (.Name x p) (e :: es) [] pos) (zG C fs t):=by
  obtain ⟨f,fd,ps,mk,F,b,hm⟩:=M.ex; refine ⟨PE.weak (zpL (E:=E0) (dvs:=[]) mk F hr hg hm b .nil zni ha.pa hdb (zaU (za1 ha.pl).1) (zbG (za1 ha.pl).2)) ?_⟩
  rintro σ H Q ⟨W,Hi,Γ,Q',g,h,fin⟩
  refine ⟨W,Hi,Γ,_,g,h,?_⟩
  rintro vs H1 Hi1 Γ1 ds s1 g1 dl ⟨hl,q⟩
  intro a dx hna hdx ne; rw [List.append_nil]
  refine ⟨a,dx,vs,rfl,by rw [zi dl]; exact hl,zP,rfl,?_⟩
  rw [zgu]
  have e1:=Ext.newO g1.fz hdx (.own a) (fun _ z=>by cases z)
  have hna':upd H1 dx (.own a) a=none:=by rw [zaE (fun z=>ne z.symm)]; exact hna
  have e2:=Ext.new e1.fz hna' (.ins C dx (fs.zip vs)); have e3:=e1.trans e2; exact fin _ _ ⟨_,_,Γ1,s1.trans e3.hi,g1.ext e3,Den.mkO zP ((zkY fs dl).mono e3.hi),q⟩
end
end PL
namespace L2
open PySem PySem.Spec PyProof.Rows
section
variable {X:Cx} {pins:List (Addr × Obj)} {σ:St} {H:Hp} {s:Shared} {a:Addr} {y d:V} {u r:Value} {o:Option V} {A:Around} {E:Value→Shared→Prop}
end
section
variable {X:Cx} {o e f:Expr} {apos cpos:Pos} {td ty tx:TE}
end
section
variable {X:Cx} {tg:Expr}
end
end L2
namespace PL
open PySem L2
section
variable {X:Cx} {pos:Pos}
theorem OptD.getD {K:PySem.W.Frag} {H:Hp} {o:Option V} {d:Option D} {v:V} {e:D} (h:OptD K H o d) (r:Den K H v e):Den K H (o.getD v) (d.getD e):=by
  cases h with
  | none=>exact r
  | some h=>exact h
end
end PL
namespace PL
open PySem L2
section
variable {X:Cx} {Q:D→Prop}
instance:MR2 ziz:=⟨fun _ _ _ _ h ⟨i,j,a,b,c,q⟩=>⟨i,j,a,b,c,h _ q⟩⟩
def zeW:R2':=fun x y Q=>zgF x y Q∨ziz x y Q
theorem zb8:Op2 X (binaryOp .Add) zeW:=zuf.or zr8
instance:MR2 zeW:=⟨fun _ _ _ _ h q=>q.imp (MR2.mono (r:=zgF) _ _ _ _ h) (MR2.mono (r:=ziz) _ _ _ _ h)⟩
instance:MR2 zix:=⟨fun _ _ _ _ h ⟨i,j,v,a,b,c,q⟩=>⟨i,j,v,a,b,c,h _ q⟩⟩
def zfr:R2':=fun x y Q=>zmA x y Q∨zix x y Q
theorem i_A (hu:X.A.units+1<cLine):Ixs X zfr:=zul.or (zum hu)
instance:MR2 zfr:=⟨fun _ _ _ _ h q=>q.imp (MR2.mono (r:=zmA) _ _ _ _ h) (MR2.mono (r:=zix) _ _ _ _ h)⟩
instance:MRS zhx:=⟨fun _ _ _ _ _ h ⟨ds,e,q⟩=>⟨ds,e,h _ q⟩⟩
def zli:RS':=fun x lo hi Q=>zlj x lo hi Q∨zhx x lo hi Q
theorem s_A:Sli X zli:=zvw.or ztH
instance:MRS zli:=⟨fun _ _ _ _ _ h q=>q.imp (MRS.mono (r:=zlj) _ _ _ _ _ h) (MRS.mono (r:=zhx) _ _ _ _ _ h)⟩
def zfq:RC':=fun ds Q=>zf3 ds Q∨ziw ds Q
theorem zdc:Cal X (.builtin "len") zfq:=zuE.or zsK
instance:MRC zfq:=⟨fun _ _ _ h q=>q.imp (MRC.mono (r:=zf3) _ _ _ h) (MRC.mono (r:=ziw) _ _ _ h)⟩
@[simp] theorem ztv:D.tup []=plc []:=rfl
@[simp] theorem ztu (l:List Nat):D.tup [.str l]=plc [l]:=rfl
theorem zdt {p q:List (List Nat)} (h:plc p=plc q):p=q:=by
  unfold plc at h
  injection h with h
  exact (List.map_inj_right (fun a b h=>D.str.inj h)).mp h
@[simp] theorem zu4 (p q:List (List Nat)):plc p=plc q↔p=q:=⟨zdt,fun h=>by rw [h]⟩
@[simp] theorem zrD (i j:Int):zeW (.int i) (.int j) Q↔Q (.int (i+j)):=by simp [zeW,ziz]
@[simp] theorem zlm (l m:List Nat):zeW (.str l) (.str m) Q↔l.length+m.length≤sizeLine∧Q (.str (l ++ m)):=by simp [zeW,ziz]
@[simp] theorem zrC (p q:List (List Nat)):zeW (plc p) (plc q) Q↔p.length+q.length≤sizeLine∧Q (plc (p ++ q)):=by
  simp [zeW,ziz,zgF,ziA,plc]
@[simp] theorem zs9 (ds:List D) (i:Int):zfr (.lst ds) (.int i) Q↔∃ d,atI ds i=some d∧Q d:=by simp [zfr,zix]
@[simp] theorem zm0 (ds:List D) (i:Int):zfr (.tup ds) (.int i) Q↔∃ d,atI ds i=some d∧Q d:=by simp [zfr,zix]
@[simp] theorem zs7 (l:List Nat) (i:Int):zfr (.str l) (.int i) Q↔l.length≤sizeLine∧∃ c,atI l i=some c∧Q (.str [c]):=by simp [zfr,zix]
@[simp] theorem zs8 (p:List (List Nat)) (i:Int):zfr (plc p) (.int i) Q↔∃ d,atI (p.map D.str) i=some d∧Q d:=zm0 _ i
@[simp] theorem ztM (l:List Nat) (n:Int):zli (.str l) none (some n) Q↔l.length≤sizeLine∧0≤n∧Q (.str (l.take n.toNat)):=by simp [zli,zhx]
@[simp] theorem zrs (l:List Nat) (n:Int):zli (.str l) (some n) none Q↔l.length≤sizeLine∧0≤n∧Q (.str (l.drop n.toNat)):=by simp [zli,zhx]
@[simp] theorem zs0 (ds:List D) (lo hi:Option Int):zli (.lst ds) lo hi Q↔Q (.lst (zcV ds lo hi)):=by simp [zli,zhx]
@[simp] theorem zmX (ds:List D) (lo hi:Option Int):zli (.tup ds) lo hi Q↔Q (.tup (zcV ds lo hi)):=by simp [zli,zhx,zlj,zkt,zku]
theorem zc9 {α β:Type} (f:α→β) (xs:List α) (lo hi:Option Int):zcV (xs.map f) lo hi=(zcV xs lo hi).map f:=by
  unfold zcV; rw [List.length_map,List.map_take,List.map_drop]
@[simp] theorem zsZ (p:List (List Nat)) (lo hi:Option Int):zli (plc p) lo hi Q↔Q (plc (zcV p lo hi)):=by
  unfold plc; rw [zmX,zc9]
@[simp] theorem zru (l:List Nat):zfq [.str l] Q↔l.length≤sizeLine∧Q (.int (l.length:Nat)):=by simp [zfq,ziw]
@[simp] theorem zrw (l:List D):zfq [.lst l] Q↔Q (.int (l.length:Nat)):=by simp [zfq,ziw]
@[simp] theorem zll (l:List D):zfq [.tup l] Q↔Q (.int (l.length:Nat)):=by simp [zfq,ziw]
@[simp] theorem zrv (p:List (List Nat)):zfq [plc p] Q↔Q (.int (p.length:Nat)):=by
  unfold plc; rw [zll,List.length_map]
@[simp] theorem zsV (p:List (List Nat)):zoo (plc p)=some (p.map .str):=rfl
theorem zmi {α:Type} (xs:List α) (n:Nat):zcV xs none (some (n:Int))=xs.take n:=by
  unfold zcV; rw [HT.sIx_none,HT.sIx_nat,List.drop_zero,Nat.sub_zero]
  by_cases h:n≤xs.length
  · rw [Nat.min_eq_left h]
  · rw [Nat.min_eq_right (by omega),List.take_length,List.take_of_length_le (by omega)]
theorem zh5 {α:Type} (xs:List α) (n:Nat):zcV xs (some (n:Int)) none=xs.drop n:=by
  unfold zcV; rw [HT.sIx_none,HT.sIx_nat]
  by_cases h:n≤xs.length
  · rw [Nat.min_eq_left h,List.take_of_length_le (by rw [List.length_drop]; exact Nat.le_refl _)]
  · rw [Nat.min_eq_right (by omega),List.drop_length,List.take_nil,List.drop_eq_nil_of_le (by omega)]
theorem zh4 {α:Type} (xs:List α):zcV xs none (some (-1))=xs.dropLast:=by
  unfold zcV
  have e:HT.sIx xs.length xs.length (some (-1))=xs.length-1:=by
    show (if (-1:Int)<0 then ((-1:Int)+(xs.length:Int)).toNat else min (-1:Int).toNat xs.length)=_
    rw [if_pos (by decide)]
    omega
  rw [HT.sIx_none,e,List.drop_zero,Nat.sub_zero,List.dropLast_eq_take]
theorem zeG {i:Int} {j:Nat} {p pos:Pos}:PE' X (.UnaryOp .USub (.Constant (.int i) j p) pos) (tC' (.int (-i))):=by
  refine ziF (v:=.int (-i)) (PE.weak (zt1 zq5 zov) ?_) fun _=>.int _
  intro σ H Q q; exact ⟨i,rfl,q⟩
theorem zbH {A:Around} {k:Nat} (hr:Room k A):A.units+100<cLine:=by have:=hr.un; omega
@[simp] theorem zvO {α:Type} (a:α) (l:List α):atI (a :: l) 0=some a:=zda (j:=0) rfl
@[simp] theorem zvN {α:Type} (a b:α) (l:List α):atI (a :: b :: l) 1=some b:=zda (j:=1) rfl
@[simp] theorem zvM {α:Type} (a b c:α) (l:List α):atI (a :: b :: c :: l) 2=some c:=zda (j:=2) rfl
@[simp] theorem zve {CX:CXT} {P:Program} {w:World} {K:PySem.W.Frag} {mg:Str→Option Value} {base:Heap} {N:List Str} {q:Str} {sc:Scope} {f:Addr} {cd:Value} {A:Around} {o:List Env} {s:Shared} {H:Hp} {E:XK}:(zkX CX P w K mg base N q sc f cd A o s H E).K=K:=rfl
@[simp] theorem zvd {CX:CXT} {P:Program} {w:World} {K:PySem.W.Frag} {mg:Str→Option Value} {base:Heap} {N:List Str} {q:Str} {sc:Scope} {f:Addr} {cd:Value} {A:Around} {o:List Env} {s:Shared} {H:Hp} {E:XK}:(zkX CX P w K mg base N q sc f cd A o s H E).N=N:=rfl
@[simp] theorem zcv (K:PySem.W.Frag) (C c:Addr) (fs:List (Str × D)):zgE K [.obj C fs,.cls c] Q↔InsT K C∧∃ b,PySem.W.kitOne K (.ref C) (.ref c)=some b∧Q (.bl b):=by
  constructor
  · rintro ⟨d,t,cd,v,b,e,h1,h2,h3,q⟩
    injection e with e1 e2
    injection e2 with e2 _
    subst e1 e2
    cases h1
    rcases h2 with ⟨n,_,h2⟩ | ⟨C',fs',e,rfl,T⟩ | ⟨C',fs',e,_,_⟩
    · cases h2
    · cases e
      exact ⟨T,b,h3,q⟩
    · cases e
  · rintro ⟨T,b,h,q⟩
    exact ⟨_,_,_,_,b,rfl,rfl,.inr (.inl ⟨C,fs,rfl,rfl,T⟩),h,q⟩
theorem zge (K:PySem.W.Frag) {d:D} {n:String} (hk:zqc d=some n) {cd:D} {c:Value} (hc:zuD cd=some c):zgE K [d,cd] Q↔∃ b,PySem.W.kitOne K (.type n) c=some b∧Q (.bl b):=by
  constructor
  · rintro ⟨d',t,cd',v,b,e,h1,h2,h3,q⟩
    injection e with e1 e2
    injection e2 with e2 _
    subst e1 e2
    rw [hc] at h1; cases h1
    rcases h2 with ⟨m,rfl,h2⟩ | ⟨C',fs',rfl,rfl,T⟩ | ⟨C',fs',rfl,rfl,T⟩
    · rw [hk] at h2
      cases h2; exact ⟨b,h3,q⟩
    · cases hk
    · cases hk
  · rintro ⟨b,h,q⟩
    exact ⟨d,_,cd,c,b,rfl,hc,.inl ⟨n,rfl,hk⟩,h,q⟩
@[simp] theorem zrz (K:PySem.W.Frag) (c:String) (x:List D):zgE K [(.lst x),.ty c] Q↔∃ b,PySem.W.kitOne K (.type "list") (.type c)=some b∧Q (.bl b):=zge K rfl rfl
@[simp] theorem zry (K:PySem.W.Frag) (c:String) (x:List D):zgE K [(.tup x),.ty c] Q↔∃ b,PySem.W.kitOne K (.type "tuple") (.type c)=some b∧Q (.bl b):=zge K rfl rfl
end
end PL
namespace X1
open PySem PySem.W
section
variable {prog:Program} {w:World} {A:Around} {E:Value→Shared→Prop} {s:Shared} {K:Frag} {x C:Addr} {vs:Array Value} {sl:Array (Option Value)} {name:Str} {v:Value}
end
end X1
namespace X1
open PySem PySem.W
section
variable {prog:Program} {w:World} {A:Around} {E:Value→Shared→Prop} {h:Heap} {g:Array GenState} {d:Drawn} {t:Nat} {os:OsState} {C N e:Addr} {bm bmB:List Value} {B nid iid:String} {ze3:List Value} {vs:Array Value} {dd:Option Addr} {sl:Array (Option Value)}
end
end X1
namespace L2
open PySem PySem.Spec PyProof.Rows
section
variable {P:Program} {w:World} {K:PySem.W.Frag} {mg:Str→Option Value} {base:Heap} {N:List Str} {qual:Str} {scope:Scope} {f:Addr} {cd:Value} {A:Around} {outer:List Env} {s s':Shared} {H H':Hp} {E:XK} {pins:List (Addr × Obj)} {σ:St} {e C:Addr} {dd:Option Addr}
end
end L2
namespace L2
open PySem PySem.Spec PyProof.Rows
structure FlyI (X:Cx) (pins:List (Addr × Obj)) (H:Hp) (h:Heap) (e C:Addr) (dd:Option Addr):Prop where
  fe:zjp X pins H e
  ex:∃ vs,X1.Ex h e (.ref C) dd vs∧1<vs.size∧X1.Hd h e vs .none (zjp X pins H)
abbrev XS:=St→XK
def XP (X:Cx) (pins:List (Addr × Obj)) (E:XS) (e:Value) (s':Shared):Prop:=∃ ae C dd σ' H',e=.ref ae∧Inv X pins σ' H' s'∧FlyI X pins H' s'.heap ae C dd∧E σ' (.ref C) dd H'
abbrev TEx:=St→Hp→VK→XK→Prop
abbrev TSx:=Ends→XS→St→Hp→Prop
section
variable {X:Cx} {st:Stmt} {ze3:List Stmt} {t u:TSx} {e:Expr} {te:TEx} {pos:Pos}
end
section
variable {P:Program} {w:World} {K:PySem.W.Frag} {mg:Str→Option Value} {base:Heap}
end
end L2
namespace L2
open PySem PySem.Spec PyProof.Rows
def del (H:Hp) (a:Addr):Hp:=fun b=>if b=a then none else H b
section
variable {X:Cx}
end
end L2
namespace L2
open PySem PySem.Spec PyProof.Rows
section
variable {X:Cx}
end
end L2
namespace L2
open PySem PySem.Spec PyProof.Rows
section
variable {X:Cx} {pins:List (Addr × Obj)} {σ:St} {H:Hp} {s:Shared}
end
section
variable {X:Cx}
end
end L2
namespace PL
open PySem L2
abbrev XW:=Addr→List (Str × D)→Sts→Prop
abbrev zvR:=Sts→(D→Sts→Prop)→XW→Prop
abbrev zvf:=Ends'→XW→Sts→Prop
section
variable {X:Cx} {pos:Pos} {e:Expr} {te:zvR} {st:Stmt} {ze3:List Stmt} {t u:zvf}
abbrev zuJ:=List D→(Res→Prop)→(Addr→List (Str × D)→Prop)→Prop
end
section
variable {X:Cx} {k:Nat} {x:Str} {ps:List Str} {sp:zuJ} {p pos:Pos} {e:Expr} {es:List Expr} {t:TA'}
end
section
variable {P:Program} {w:World} {K:PySem.W.Frag} {mg:Str→Option Value} {base:Heap}
end
section
variable {X:Cx} {k:Nat} {x fld:Str} {C:Addr} {ok:V→Hp→Prop} {okD:D→Prop} {p cpos pos:Pos} {e:Expr} {ta:TA'}
end
section
variable {X:Cx} {M:Addr} {x n:Str} {body suite:List Stmt} {b0:Stmt} {tb:zvf} {ts:TS'} {p hpos pos:Pos}
end
end PL
namespace L2
open PySem PySem.Spec PyProof.Rows PySem.Builtin PySem.Builtin.Str
structure XFl (K:PySem.W.Frag) (C:Addr):Prop where
  get:X1.XGet K C
  hd:PySem.W.hasDictIn K C=true
section
variable {X:Cx}
def ztD (K:PySem.W.Frag) (ta:TE) (f:Str):TE:=fun σ H Q=>ta σ H fun x H1=>(∃ a C dx fs v,x=.ref a∧H1 a=some (.ins C dx fs)∧Cls K C∧zbO K C f∧fs.lookup f=some v∧Q v H1) ∨
  ∃ a C dx fs v,x=.ref a∧H1 a=some (.ext (XAt a C (some dx)))∧H1 dx=some (.xd fs)∧XFl K C∧zbO K C f∧fs.lookup f=some v∧Q v H1
theorem zpM {e:Expr} {f:Str} {pos:Pos} {ta:TE} (he:PE X e ta) (hb:attributeBase e f X.env (eval e X.env)=eval e X.env):PE X (.Attribute e f pos) (ztD X.K ta f):=by
  intro pins s σ H Q I h
  refine zqJ hb (thn (he pins s σ H _ I h) fun u s1 ⟨x,H1,I1,rx,q⟩=>?_)
  rcases q with ⟨a,C,dx,fs,v,rfl,ea,c,n,l,q⟩ | ⟨a,C,dx,fs,v,rfl,ea,ed,c,n,l,q⟩
  · obtain rfl:u=Value.ref a:=rx
    exact zkN I1 ea c n l fun u' s2 I2 ru=>⟨v,H1,I2,ru,q⟩
  · obtain rfl:u=Value.ref a:=rx
    obtain ⟨⟨vs,sl,hx⟩,_⟩:=(show zbT X.prog X.w H1 s1.heap a (.ext (XAt a C (some dx))) from I1.hok a _ ea)
    obtain ⟨mA,ns,r⟩:=(show zbT X.prog X.w H1 s1.heap dx (.xd fs) from I1.hok dx _ ed)
    obtain ⟨od,ho,hl⟩:=zhM ns
    obtain ⟨w',hw,rw'⟩:=zik.some_of (v:=v) (o:=mA f) (by rw [← l]; exact r f)
    have J:PySem.W.InstAt s1.heap a ⟨.ref C,some dx,.fields vs,sl⟩ C (some od):=⟨hx,rfl,rfl,ho⟩
    exact X1.xget I1.kIn J c.get (PySem.W.findObj_own c.hd n rfl (by rw [hl,hw])) (zhW rw') ⟨v,H1,I1.tok _,rw',q⟩
theorem zet:∀ {ys:List Str} {its:List Value},za5 (ys.map V.str) its→StrsAre its ys
  | [],_,.nil=>.nil
  | y :: r,_,.cons h t=>by
    obtain ⟨tk,rfl⟩:=h; exact .cons y tk (zet t)
theorem zp2:MtR X "str.join" (fun x xs H Q=>∃ z a ys,x=.str z∧xs=[.ref a]∧(SqL X.K H a (ys.map .str)∨SqT X.K H a (ys.map .str))∧(ys.map (·.length)).sum+ys.length * z.length≤16777216∧Q (.str (Txt.join z ys)) H):=by
  intro pins s σ H x xs v us Q I rx rs h; obtain ⟨z,a,ys,rfl,rfl,hs,hz,q⟩:=h; obtain ⟨t,rfl⟩:=rx; obtain ⟨u,rfl,ru⟩:=zdj rs
  obtain rfl:u=Value.ref a:=ru
  rcases hs with hs | hs
  · obtain ⟨its,r,p,_⟩:=I.list hs
    obtain ⟨o,n,e1,e2,e3,e4⟩:=p
    exact join_list (items:=its.toArray) ⟨o,e1,e2,n,by first | exact e3 | exact e4⟩ (zet (by simpa using r)) hz fun t' k=>⟨.str _,H,I.tok _,⟨_,rfl⟩,q⟩
  · obtain ⟨its,r,p,_⟩:=I.tuple hs
    exact join_tuple p (zet (by simpa using r)) hz fun t' k=>⟨.str _,H,I.tok _,⟨_,rfl⟩,q⟩
end
end L2
namespace PL
open PySem L2
section
variable {X:Cx}
theorem zh2 {K:PySem.W.Frag} {H:Hp}:∀ {vs:List V} {ls:List (List Nat)},zbU K H vs (ls.map .str)→vs=(ls.map st).map V.str
  | _,[],.nil=>rfl
  | _,l :: ls,.cons r t=>by rw [r.strI,zh2 t]; rfl
def zH (K:PySem.W.Frag) (t:TE') (f:Str):TE':=fun Γ Q=>t Γ fun d Γ1=>(∃ C fs v,d=.obj C fs∧Cls K C∧zbO K C f∧fs.lookup f=some v∧Q v Γ1)∨∃ C fs v,d=.exc C fs∧XFl K C∧zbO K C f∧fs.lookup f=some v∧Q v Γ1
theorem zdJ {e:Expr} {t:TE'} {f:Str} {pos:Pos} (he:PE' X e t) (hb:attributeBase e f X.env (eval e X.env)=eval e X.env:=by rfl):PE' X (.Attribute e f pos) (zH X.K t f):=by
  refine ⟨PE.weak (zpM he.h hb) ?_⟩
  rintro σ H Q ⟨W,Hi,Γ,Q',g,h,fin⟩
  refine ⟨W,Hi,Γ,_,g,h,?_⟩
  rintro x H1 ⟨Hi1,d,Γ1,s1,g1,den1,h1⟩
  rcases h1 with ⟨C,fs,v,rfl,cl,na,lk,q⟩ | ⟨C,fs,v,rfl,cl,na,lk,q⟩
  · obtain ⟨a,dx,fvs,rfl,ha,df⟩:=den1.objI
    obtain ⟨u,hu,du⟩:=df.look lk; exact .inl ⟨a,C,dx,fvs,u,rfl,g1.sub _ _ ha,cl,na,hu,fin u H1 ⟨Hi1,v,Γ1,s1,g1,du,q⟩⟩
  · obtain ⟨a,dd,rfl,ha,xd⟩:=den1.excI
    rcases xd with ⟨_,rfl⟩ | ⟨dx,fvs,rfl,hd,df⟩
    · cases lk
    · obtain ⟨u,hu,du⟩:=df.look lk
      exact .inr ⟨a,C,dx,fvs,u,rfl,g1.sub _ _ ha,g1.sub _ _ hd,cl,na,hu,fin u H1 ⟨Hi1,v,Γ1,s1,g1,du,q⟩⟩
theorem zlg {K:PySem.W.Frag} {H:Hp} {vs:List V} {ds:List D} (h:zbU K H vs ds):∀ k,zbU K H (List.replicate k vs).flatten (List.replicate k ds).flatten
  | 0=>.nil
  | k+1=>by
    rw [List.replicate_succ,List.replicate_succ,List.flatten_cons,List.flatten_cons]; exact zaY h (zlg h k)
end
end PL
namespace PL
open PySem L2
section
variable {X:Cx} {k:Nat} {x:Str} {ps:List Str} {sp:zuJ} {p pos:Pos} {e:Expr} {es:List Expr} {t:TA'}
end
end PL
namespace PL
open PySem L2
theorem zif {X:Cx} (K:PySem.W.Frag) (h:X.K=K):Cal X (.builtin "isinstance") (zgE K):=by
  subst h; exact zsL
end PL
namespace L2
open PySem PySem.Spec PyProof.Rows
section
variable {K:PySem.W.Frag} {C M N NM f:Addr} {c cM:Value} {d dM od:Option Addr} {es eM:Array DictEntry} {ep epM:Nat} {sl slM sf:Array (Option Value)}
theorem zg4:PySem.W.kitOne K (.ref C) (.ref C)=some true:=by
  unfold PySem.W.kitOne
  rw [if_pos (by simp)]
end
end L2
namespace L2
open PySem
end L2
namespace L2
open PySem PySem.Spec PyProof.Rows
section
variable {X:Cx}
end
end L2
namespace PL
open PySem L2
section
variable {X:Cx} {k:Nat} {C:Addr} {m:Str} {ps:List Str} {sp:Sp'} {spx:zuJ} {apos pos:Pos} {o e:Expr} {es:List Expr} {to:TE'} {t:TA'}
abbrev zo3:=List D→Sts→(Sts→Prop)→Prop
def zvH (K:PySem.W.Frag) (n:Nat) (g:zo3):TGs:=fun vs σ H Q2=>∃ W Hi Γ ds Q,Good K n W Hi Γ σ H∧zbU K Hi vs ds∧g ds Γ Q∧∀ σ' H' Hi' Γ',zaX Hi Hi'→Good K n W Hi' Γ' σ' H'→Q Γ'→Q2 σ' H'
structure PGs' (X:Cx) (es:List Expr) (g:zo3):Prop where
  h:PGs X es (zvH X.K X.N.length g)
theorem PGs.weak {es:List Expr} {t t2:TGs} (h:PGs X es t) (w:∀ vs σ H Q,t2 vs σ H Q→t vs σ H Q):PGs X es t2:=fun pins s σ H vs us Q I r q=>h pins s σ H vs us Q I r (w _ _ _ _ q)
def zaw:zo3:=fun ds Γ Q=>ds=[]∧Q Γ
def zL (t:TG') (u:zo3):zo3:=fun ds Γ Q=>∃ d r,ds=d :: r∧t d Γ fun Γ1=>u r Γ1 Q
def zav (n:Nat) (t:zo3):TG':=fun d Γ Q=>∃ ds,d=.tup ds∧ds.length=n∧t ds Γ Q
theorem zna:PGs' X [] zaw:=by
  refine ⟨PGs.weak zpH ?_⟩
  rintro vs σ H Q ⟨W,Hi,Γ,ds,Q',g,dl,⟨rfl,q⟩,fin⟩
  cases dl; exact ⟨rfl,fin σ H Hi Γ (zaX.refl _) g q⟩
theorem zfv {e:Expr} {es:List Expr} {t:TG'} {u:zo3} (h1:PG' X e t) (h2:PGs' X es u) (hs:(assignEach (e :: es) X.env).map (·.2)=assign e X.env :: (assignEach es X.env).map (·.2):=by rfl):PGs' X (e :: es) (zL t u):=by
  refine ⟨PGs.weak (znb h1.h h2.h hs) ?_⟩
  rintro vs σ H Q ⟨W,Hi,Γ,ds,Q',g,dl,⟨d,r,rfl,q⟩,fin⟩
  cases dl with
  | cons r0 rr =>
    refine ⟨_,_,rfl,W,Hi,Γ,d,_,g,r0,q,?_⟩; intro σ1 H1 Hi1 Γ1 s1 g1 q1
    exact ⟨W,Hi1,Γ1,r,Q',g1,zbU.mono rr s1,q1,fun σ2 H2 Hi2 Γ2 s2=>fin σ2 H2 Hi2 Γ2 (s1.trans s2)⟩
theorem zpI {es:List Expr} {k n:Nat} {t:zo3} (h:PGs' X es t) (hc:X.calm=true:=by rfl) (hn:(assignEach es X.env).length=n:=by rfl) (hst:(assignEach es X.env).findIdx? (·.1)=none:=by rfl):PG' X (.Tuple es k pos) (zav n t):=by
  refine ⟨PG.weak (zrO hc h.h hn hst) ?_⟩
  rintro v σ H Q ⟨W,Hi,Γ,d,Q',g,den,⟨ds,rfl,hl,q⟩,fin⟩
  obtain ⟨a,vs,rfl,ha,dl⟩:=den.tupI
  exact ⟨a,vs,rfl,zaO g.sub ha,by rw [zi dl]; exact hl,W,Hi,Γ,ds,Q',g,dl,q,fin⟩
theorem zpB {tg e:Expr} {te:TE'} {g:TG'} (he:PE' X e te) (hg:PG' X tg g) (hs:swapsWithSole [tg] e pos.line X.env=pure false:=by rfl) (hw:swappedStores [tg] e X.env=pure none:=by rfl) (h1:(assignEach [tg] X.env).map (·.2)=[assign tg X.env]:=by rfl):PS' X (.Assign [tg] e pos) (zZ te g):=by
  refine ⟨PS.weak (zoq he.h hg.h hs hw h1) ?_⟩
  rintro N2 σ H ⟨W,Hi,Γ,N,g,h,l⟩
  refine ⟨W,Hi,Γ,_,g,h,?_⟩
  rintro v H1 ⟨Hi1,d,Γ1,s1,g1,den,q⟩
  exact ⟨W,Hi1,Γ1,d,_,g1,den,q,fun σ2 H2 Hi2 Γ2 s2 g2 q2=>l.nx σ2 H2 Hi2 Γ2 (s1.trans s2) g2 q2⟩
end
end PL
namespace PL
open PySem L2
section
variable {X:Cx}
end
section
variable {P:Program} {w:World} {K:PySem.W.Frag} {mg:Str→Option Value} {base:Heap}
end
end PL
namespace Mu
open PySem PySem.Builtin
theorem noFill_tup:fillsNumberSlot (.type "tuple") "mul"=pure false :=
  fillsNumberSlot_seq (id:="tuple.__mul__") (r:=some (.builtin "tuple.__rmul__")) PySem.F.slot_tuple_mul.lookup (by decide +kernel) PySem.F.slot_tuple_rmul.lookup (by decide +kernel)
theorem rep_tup:seqRepeat? (.type "tuple")=pure (some (.builtin "tuple.__mul__")):=by
  unfold seqRepeat?
  rw [seqSlot_of (T:="tuple") (name:="__mul__") (id:="tuple.__mul__") PySem.F.slot_tuple_mul.lookup (by decide +kernel),seqSlot_of (T:="tuple") (name:="__rmul__") (id:="tuple.__rmul__") PySem.F.slot_tuple_rmul.lookup (by decide +kernel)]
  rfl
theorem rmul_tup (a:Int) (t:Tok) (l:Addr) (o:Obj) (xs:Array Value) (n:Nat) (hc:o.cls=.type "tuple") (hd:o.data=.seq xs n):Meets (Builtin.«int.__rmul__» ⟨[.int a t,.ref l],[]⟩) (fun _ R s=>s.heap.get? l=some o∧R (.ok (.ret Value.notImplemented)) s) :=
  .of_wp fun prog w A R s h=>by
    obtain ⟨hp,g,d,tk,os⟩:=s; obtain ⟨hl,h⟩:=h; obtain ⟨oc,od,dt,sl⟩:=o
    dsimp only at hc hd
    subst hc hd
    wp_walk
    exact ⟨_,rfl,h⟩
theorem mul_tup (k:Nat) (t:Tok) (l:Addr) (o:Obj) (xs:Array Value) (n:Nat) (hc:o.cls=.type "tuple") (hd:o.data=.seq xs n) (hk:2≤k) (hk2:k≤100) (hz:xs.size * k≤10000) :
    Meets (Builtin.«tuple.__mul__» ⟨[.ref l,.int k t],[]⟩) (fun _ R s=>s.heap.get? l=some o∧(xs.isEmpty=true→R (.ok (.ret (.ref l))) s) ∧
      (xs.isEmpty=false→R (.ok (.ret (.ref s.heap.objs.size))) { s with heap:=s.heap.push { cls:=.type "tuple",data:=.seq ((List.replicate k xs).foldl (· ++ ·) #[]) } })) :=
  .of_wp fun prog w A R s h=>by
    obtain ⟨hp,g,d,tk,os⟩:=s; obtain ⟨hl,h1,h2⟩:=h; obtain ⟨oc,od,dt,sl⟩:=o
    dsimp only at hc hd
    subst hc hd
    have e1:(decide ((k:Int)< -(2 ^ 63)) || decide ((k:Int) ≥ 2 ^ 63))=false:=by
      rw [decide_eq_false (by omega),decide_eq_false (by omega)]
      rfl
    have e2:((k:Int) == 1)=false:=by rw [beq_eq_false_iff_ne]; omega
    have e3:decide ((k:Int)≤0)=false:=decide_eq_false (by omega)
    have e4:¬ ((xs.size:Int) * (k:Int) > (2 ^ 63-1) / 8):=by
      have:((xs.size * k:Nat):Int)≤10000:=by omega
      rw [Int.natCast_mul] at this; omega
    have e5:Builtin.Tuple.tupleTooMany ((xs.size:Int) * (k:Int))=false:=by
      unfold Builtin.Tuple.tupleTooMany
      have:((xs.size * k:Nat):Int)≤10000:=by omega
      rw [Int.natCast_mul] at this
      have b:10000<sizeLine:=by decide
      exact decide_eq_false (by omega)
    wp_walk
    rw [if_neg (by rw [e1]; exact Bool.false_ne_true)]
    wp_walk
    cases he:xs.isEmpty with
    | true =>
      wp_walk
      exact ⟨_,rfl,h1 he⟩
    | false =>
      wp_walk
      rw [if_neg (by rw [e3]; decide)]
      dsimp only
      rw [if_neg e4,if_neg (by rw [e5]; decide),Int.toNat_natCast]
      have hsz:(List.foldl (fun x1 x2=>x1 ++ x2) #[] (List.replicate k xs)).size≤sizeLine:=by
        have e:=L2.foldl_rep xs.toList k []
        have e':List.foldl (fun x1 x2=>x1 ++ x2) #[] (List.replicate k xs)=([] ++ (List.replicate k xs.toList).flatten).toArray:=by simpa using e
        rw [e',List.size_toArray,List.nil_append,L2.len_rep,Array.length_toList,Nat.mul_comm]
        have b:10000<sizeLine:=by decide
        omega
      unfold Builtin.Tuple.tupleExact; exact wpAny_bind (wpAny_newObj_type (wpAny_pure ⟨_,rfl,h2 he⟩) hsz)
end Mu
namespace L2
open PySem PySem.Spec PyProof.Rows
section
variable {X:Cx}
def ztO:R2:=fun x y H Q=>∃ (l:Addr) (k:Nat) (xs:List V),x=.ref l∧y=.int k∧H l=some (.tup xs)∧2≤k∧k≤100∧xs.length * k≤10000∧(xs=[]→Q (.ref l) H)∧(xs≠[]→∀ p,H p=none→Q (.ref p) (upd H p (.tup (List.replicate k xs).flatten)))
theorem zpR:OpR X (binaryOp .Mult) ztO:=by
  intro pins s σ H x y v u Q I rx ry h; obtain ⟨l,k,xs,rfl,rfl,hH,h1,h2,hz,q1,q2⟩:=h; cases rx; obtain ⟨t,rfl⟩:=ry
  obtain ⟨z,its,r,o,ho,hc,n,hd⟩:=(show zbT X.prog X.w H s.heap l (.tup xs) from I.hok l _ hH)
  have hl:=r.length
  refine wpAny_binaryOp_repeat_ref (T:="tuple") (U:="int") (by decide) ⟨_,ho,hc⟩ (fun s'=>typeIs_int s' k t) Mu.noFill_tup PySem.F.fills_int_mul PySem.F.slot_int_rmul Mu.rep_tup PySem.F.slot_int_index.lookup
    (call_meets PySem.F.slot_int_rmul (typeIs_int s k t) PySem.F.entry_int_rmul (PySem.F.args_int_rmul_2 _ _) (Mu.rmul_tup k t l o its.toArray n hc hd) ⟨ho,rfl,⟨_,ho,hc⟩,call_meets PySem.F.slot_tuple_mul ⟨_,ho,hc⟩ PySem.F.entry_tuple_mul (PySem.F.args_tuple_mul_2 _ _) (Mu.mul_tup k t l o its.toArray n hc hd h1 h2 (by rw [List.size_toArray,← hl]; exact hz)) ⟨ho,fun e=>?_,fun e=>?_⟩⟩)
  · have:xs=[]:=List.eq_nil_of_length_eq_zero (by rw [hl]; simpa using e)
    exact ⟨.ref l,H,I,rfl,q1 this⟩
  · have hne:xs≠[]:=fun z=>by
      rw [z] at hl
      have:its=[]:=List.eq_nil_of_length_eq_zero hl.symm
      rw [this] at e
      simp at e
    have e':List.foldl (fun x1 x2=>x1 ++ x2) #[] (List.replicate k its.toArray)=(List.replicate k its).flatten.toArray:=by
      have:=foldl_rep its k []
      rw [List.nil_append] at this; exact this
    rw [e']
    have hlen:(List.replicate k xs).flatten.length≤sizeLine:=by
      rw [len_rep,Nat.mul_comm]
      have b:10000<sizeLine:=by decide
      omega
    refine ⟨.ref _,upd H s.heap.objs.size (.tup (List.replicate k xs).flatten),I.laid (t':=s.toks) (fun _ _ q=>Heap.get?_push_of_some _ q) (Nat.le_refl _) ⟨hlen,(List.replicate k its).flatten,r.rep k,⟨_,Heap.get?_push_size _ rfl,rfl,_,rfl⟩⟩,rfl,q2 hne _ I.fresh⟩
end
end L2
namespace PL
open PySem L2
section
variable {X:Cx}
def zhy:R2':=fun x y Q=>∃ (ds:List D) (k:Nat),x=.tup ds∧y=.int k∧2≤k∧k≤100∧ds.length * k≤10000∧Q (.tup (List.replicate k ds).flatten)
theorem zr7:Op2 X (binaryOp .Mult) zhy:=⟨_,zpR,by
  rintro Hi H x y dx dy Q Q2 s d1 d2 ⟨ds,k,rfl,rfl,h1,h2,h3,q⟩ fin
  obtain ⟨a,vs,rfl,ha,dl⟩:=d1.tupJ; have hl:=zi dl
  refine ⟨a,k,vs,rfl,d2.intI,s.sub _ _ ha,h1,h2,by rw [hl]; exact h3,fun e=>?_,fun _ p hp=>?_⟩
  · have:ds=[]:=List.eq_nil_of_length_eq_zero (by rw [← hl,e]; rfl)
    subst this; refine fin Hi H _ (.tup []) (Ext.refl s) d1 ?_
    simpa using q
  · have e:=Ext.new s hp (.tup (List.replicate k vs).flatten)
    exact fin _ _ _ _ e (Den.mkT zP (zlg (dl.mono e.hi) k)) q⟩
instance:MR2 zhy:=⟨fun _ _ _ _ h ⟨ds,k,a,b,c,d,e,q⟩=>⟨ds,k,a,b,c,d,e,h _ q⟩⟩
end
end PL
namespace PL
open PySem L2
section
variable {X:Cx} {Q:D→Prop}
def zmY:R2':=fun x y Q=>rI' zkh (fun i j=>.int (i * j)) x y Q∨zhy x y Q
theorem zgk:Op2 X (binaryOp .Mult) zmY:=zua.or zr7
instance:MR2 zmY:=⟨fun _ _ _ _ h q=>q.imp (MR2.mono (r:=rI' zkh fun i j=>.int (i * j)) _ _ _ _ h) (MR2.mono (r:=zhy) _ _ _ _ h)⟩
@[simp] theorem zrt (i j:Int):zmY (.int i) (.int j) Q↔zkh i j∧Q (.int (i * j)):=by simp [zmY,zhy]
end
end PL
namespace PL
open PySem L2
section
variable {X:Cx} {Q:D→Prop}
def zrB:RC':=fun ds Q=>∃ b:Bool,ds=[.bl b]∧Q (.int (if b then 1 else 0))
theorem zsM:Cal X (.type "int") zrB:=⟨_,zmt,by
  rintro Hi H vs ds Q Q2 s dl ⟨b,rfl,q⟩ fin
  obtain ⟨v,rfl,den⟩:=zd6 dl
  exact .inr ⟨b,by rw [den.blI],fin Hi H _ _ (Ext.refl s) (.int _) q⟩⟩
def ztT:RC':=fun ds Q=>zrA ds Q∨zrB ds Q
theorem zo1:Cal X (.type "int") ztT:=zuF.or zsM
end
end PL
namespace Zp
open PySem
section
variable {prog:Program} {w:World} {A:Around} {E:Value→Shared→Prop} {s:Shared} {z TI TO i1 i2:Addr} {f1 f2:List Addr} {n1 n2:Nat→Heap→Prop} {xs ys:List Value} {k:Nat} {a b x y:Value}
end
end Zp
namespace Zp
open PySem
section
variable {prog:Program} {w:World} {A:Around} {E:Value→Shared→Prop} {s:Shared}
end
end Zp
namespace L2
open PySem PySem.Spec PyProof.Rows
section
variable {X:Cx} {pins:List (Addr × Obj)} {σ:St} {H:Hp} {s:Shared} {h':Heap}
end
end L2
namespace L2
open PySem PySem.Spec PyProof.Rows Zp
def ItB (lb:Bool) (h:Heap) (it l:Addr) (i:Nat):Prop:=match lb with | true=>h.IsListIter it l i | false=>h.IsTupleIter it l i
theorem ItB.obj {lb:Bool} {h:Heap} {it l:Addr} {i:Nat} (x:ItB lb h it l i):∃ o,h.get? it=some o∧∀ v,o.data≠.cell v:=by
  cases lb with
  | true=>obtain ⟨o,e,_,d⟩:=x; exact ⟨o,e,fun v z=>by rw [d] at z; cases z⟩
  | false=>obtain ⟨o,e,_,d⟩:=x; exact ⟨o,e,fun v z=>by rw [d] at z; cases z⟩
section
variable {X:Cx} {pins:List (Addr × Obj)} {σ:St} {H:Hp} {s:Shared} {a b:Addr} {xs ys:List V} {lb:Bool}
end
end L2
namespace L2
open PySem PySem.Spec PyProof.Rows Zp
section
variable {X:Cx}
end
end L2
namespace PL
open PySem L2
section
variable {X:Cx}
end
end PL
namespace Lb
def Dig (c:Nat):Prop:=48≤c∧c≤57
def Sml (c:Nat):Prop:=97≤c∧c≤122
def zqU:List Nat:=[97,98,99,100,101,102,103,104,105,106,107,108,109,110,111,112,113,114,115,116,117,118,119,120,121,122]
def zoR:List Nat:=[48,49,50,51,52,53,54,55,56,57]
theorem znu (c:Nat):c ∈ zqU↔Sml c:=by
  simp only [zqU,Sml,List.mem_cons,List.not_mem_nil,or_false]; omega
theorem ze9 (c:Nat):c ∈ zoR↔Dig c:=by
  simp only [zoR,Dig,List.mem_cons,List.not_mem_nil,or_false]; omega
theorem zdQ {p:Nat→Bool}:∀ (ls ds:List Nat),(∀ c ∈ ls,p c=true)→(∀ c ∈ ds,p c=false)→(ls ++ ds).takeWhile p=ls
  | [],[],_,_=>rfl
  | [],d :: ds,_,h=>by rw [List.nil_append,List.takeWhile_cons,h d (List.mem_cons_self ..)]; rfl
  | l :: ls,ds,h1,h2=>by
    rw [List.cons_append,List.takeWhile_cons,h1 l (List.mem_cons_self ..),if_pos rfl,zdQ ls ds (fun c hc=>h1 c (List.mem_cons_of_mem _ hc)) h2]
theorem zkn {p:Nat→Bool} {ds ls:List Nat} (h1:∀ c ∈ ls,p c=true) (h2:∀ c ∈ ds,p c=false):(((ds ++ ls).reverse).takeWhile p).length=ls.length:=by
  rw [List.reverse_append,zdQ _ _ (fun c hc=>h1 c (List.mem_reverse.mp hc)) (fun c hc=>h2 c (List.mem_reverse.mp hc)),List.length_reverse]
end Lb
namespace Lb
def dig (c:Nat):Bool:=decide (c ∈ zoR)
def sml (c:Nat):Bool:=decide (c ∈ zqU)
def wsg:List Nat:=zqU ++ zoR
def cut (l:List Nat):List Nat:=(l.reverse.dropWhile sml).reverse
def zdd (l:List Nat):List Nat:=(l.reverse.takeWhile sml).reverse
theorem zeL (l:List Nat):cut l ++ zdd l=l:=by
  unfold cut zdd; rw [← List.reverse_append,List.takeWhile_append_dropWhile,List.reverse_reverse]
theorem zdR {p:Nat→Bool}:∀ l:List Nat,∀ c ∈ l.takeWhile p,p c=true
  | [],c,h=>by simp at h
  | a :: r,c,h=>by
    rw [List.takeWhile_cons] at h; split at h
    · rename_i ha
      rcases List.mem_cons.mp h with e | e
      · rw [e]; exact ha
      · exact zdR r c e
    · simp at h
theorem zmN (l:List Nat):∀ c ∈ zdd l,sml c=true:=fun c hc=>zdR _ c (List.mem_reverse.mp hc)
theorem zfT {c:Nat} (h:dig c=true):sml c=false:=by
  have a:=(ze9 c).mp (of_decide_eq_true h)
  refine decide_eq_false fun z=>?_
  have b:=(znu c).mp z; unfold Dig at a; unfold Sml at b; omega
theorem zsE {ds ls:List Nat} (h1:∀ c ∈ ls,sml c=true) (h2:∀ c ∈ ds,sml c=false):cut (ds ++ ls)=ds:=by
  have e:=zkn h1 h2; have a:=zeL (ds ++ ls)
  have hl:(zdd (ds ++ ls)).length=ls.length:=by
    unfold zdd; rw [List.length_reverse]; exact e
  have hl2:(cut (ds ++ ls)).length=ds.length:=by
    have:=congrArg List.length a
    rw [List.length_append,List.length_append] at this; omega
  exact (List.append_inj a hl2).1
def zX (l:List Nat):Bool:=decide (1≤(cut l).length∧(cut l).length≤9) && decide ((cut l)[0]?≠some 48) && (cut l).all dig && decide (l.length-(cut l).length≤3)
end Lb
namespace M11
open PySem L2 Lb PL
theorem zhZ:∀ (m:Nat),1≤m→∃ c r,Nat.toDigits 10 m=c :: r∧c.toNat≠48
  | m,h=>by
    by_cases hm:m<10
    · refine ⟨_,[],Nat.toDigits_of_lt_base hm,?_⟩
      have:m=1∨m=2∨m=3∨m=4∨m=5∨m=6∨m=7∨m=8∨m=9:=by omega
      rcases this with rfl | rfl | rfl | rfl | rfl | rfl | rfl | rfl | rfl <;> decide
    · obtain ⟨c,r,e,hc⟩:=zhZ (m / 10) (by omega)
      exact ⟨c,r ++ [(m % 10).digitChar],by rw [Nat.toDigits_of_base_le (by decide) (by omega),e]; rfl,hc⟩
termination_by m=>m
decreasing_by omega
theorem num_lab {n:Int} (h0:1≤n) (h1:n<10 ^ 9):(∀ c ∈ zmB n,dig c=true)∧1≤(zmB n).length∧(zmB n).length≤9∧(zmB n)[0]?≠some 48:=by
  have hl:=PyProof.Rows.toString_length_le (v:=n) (by omega) (k:=9) (by decide) h1
  obtain ⟨m,rfl⟩:=Int.eq_ofNat_of_zero_le (show 0≤n by omega)
  have hs:=PySem.W.KIN.signs_num m
  obtain ⟨c,r,e,hc⟩:=zhZ m (by omega)
  unfold zmB
  refine ⟨fun c hc=>?_,?_,?_,?_⟩
  · rw [hs] at hc
    obtain ⟨d,hd,rfl⟩:=List.mem_map.mp hc
    have hdig:=Nat.isDigit_of_mem_toDigits (by decide) (by decide) hd
    simp only [Char.isDigit,Bool.and_eq_true,decide_eq_true_eq] at hdig; exact decide_eq_true ((ze9 _).mpr ⟨hdig.1,hdig.2⟩)
  · rw [hs,e]
    simp
  · rw [show (Str.ofString (toString (m:Int))).cps.toList.length=(Str.ofString (toString (m:Int))).length by simp [Str.length]]
    exact hl
  · rw [hs,e]
    simpa using hc
theorem lab_of {ds ls:List Nat} (h1:∀ c ∈ ds,dig c=true) (h2:1≤ds.length) (h3:ds.length≤9) (h4:ds[0]?≠some 48) (h5:∀ c ∈ ls,sml c=true) (h6:ls.length≤3):zX (ds ++ ls)=true:=by
  have e:cut (ds ++ ls)=ds:=zsE h5 fun c hc=>zfT (h1 c hc)
  unfold zX; rw [e]
  have ha:ds.all dig=true:=List.all_eq_true.mpr h1
  rw [ha,decide_eq_true (⟨h2,h3⟩:1≤ds.length∧ds.length≤9),decide_eq_true h4,decide_eq_true (show (ds ++ ls).length-ds.length≤3 by rw [List.length_append]; omega)]
  rfl
end M11
namespace MT
open PySem L2 PL
abbrev Pl:=List (List Nat)
inductive Tr where
  | node (l:List Nat) (ws:Pl) (ks:List Tr)
def Tr.lab:Tr→List Nat
  | .node l _ _=>l
def Tr.wds:Tr→Pl
  | .node _ ws _=>ws
def Tr.kds:Tr→List Tr
  | .node _ _ ks=>ks
mutual
def trD:Tr→D
  | .node l ws ks=>.tup [.str l,plc ws,.tup (zq8 ks)]
def zq8:List Tr→List D
  | []=>[]
  | t :: r=>trD t :: zq8 r
end
theorem zjt:∀ ks:List Tr,zq8 ks=ks.map trD
  | []=>by simp [zq8]
  | t :: r=>by simp [zq8,zjt r]
theorem zbi (t:Tr):trD t=.tup [.str t.lab,plc t.wds,.tup (t.kds.map trD)]:=by
  cases t with
  | node l ws ks=>simp [trD,zjt,Tr.lab,Tr.wds,Tr.kds]
def zb (l:List Nat) (ks:List Tr):Option Tr:=ks.find? fun k=>decide (k.lab=l)
def zb6:Option Tr→D
  | none=>.non
  | some t=>trD t
def zq:Tr→Pl→Option Tr
  | t,[]=>some t
  | t,l :: p=>match zb l t.kds with
    | none=>none
    | some k=>zq k p
theorem zaS (t:Tr):trD t≠.non:=by rw [zbi]; simp
inductive Dp:Nat→Tr→Prop where
  | mk {n:Nat} {l:List Nat} {ws:Pl} {ks:List Tr} (h:∀ k ∈ ks,Dp n k):Dp (n+1) (.node l ws ks)
theorem zfH:∀ (p:Pl) (t:Tr) (l:List Nat),zq t (p ++ [l])=match zq t p with
    | none=>none
    | some k=>zb l k.kds
  | [],t,l=>by
    simp only [List.nil_append,zq]
    cases zb l t.kds <;> rfl
  | m :: p,t,l=>by
    simp only [List.cons_append,zq]
    cases zb m t.kds with
    | none=>rfl
    | some k=>exact zfH p k l
theorem zfG {t:Tr} {p:Pl} (h:(zq t p).isSome=true):∀ i,(zq t (p.take i)).isSome=true:=by
  intro i
  have e:p=p.take i ++ p.drop i:=(List.take_append_drop i p).symm
  generalize p.drop i=r at e; generalize hq:p.take i=a at e
  clear hq
  subst e
  induction r generalizing a with
  | nil=>simpa using h
  | cons l r ih =>
    have h':(zq t ((a ++ [l]) ++ r)).isSome=true:=by simpa using h
    have:=ih (a ++ [l]) h'
    rw [zfH] at this
    cases hn:zq t a with
    | none=>rw [hn] at this; exact this
    | some k=>rfl
end MT
namespace L2
open PySem PySem.Spec PyProof.Rows
def PU (X:Cx) (e:Expr) (t:TE):Prop:=∀ (pins:List (Addr × Obj)) (s:Shared) (σ:St) (H:Hp) (Q:VK) (i:Nat) (x:Str) (pos pos':Pos) (D:Ends),Inv X pins σ H s→t σ H Q→X.N.Nodup→X.N[i]?=some x→X.env.scope.names.lookup x=some .local →
  swapsWith e (some (.Name x pos')) pos.line X.env=pure true→(∀ v H',Q v H'→D.nx (σ.set i (some v)) H')→wpAny (model X.prog X.w) X.A (exec (.Assign [.Name x pos'] e pos) X.env) (SP X pins D) X.xe s
theorem PU.weak {X:Cx} {e:Expr} {t t2:TE} (h:PU X e t) (w:∀ σ H Q,t2 σ H Q→t σ H Q):PU X e t2:=fun pins s σ H Q i x pos pos' D I q=>h pins s σ H Q i x pos pos' D I (w _ _ _ q)
theorem zpt {X:Cx} {elt tg iter:Expr} {ifs:List Expr} {sc fsc:Scope} {pos:Pos} {wi:TI} {g:TG} {tc:TT} {te:TE} {N N':List Str} {src:List (Option Nat)} (B:Blk N N' src fsc sc) (hi:PI X tg iter wi)
    (hg:∀ cl C s H fp pn,PG (blk X N' sc cl C s H fp pn) tg g) (ht:∀ cl C s H fp pn,PTs (blk X N' sc cl C s H fp pn) ifs tc) (he:∀ cl C s H fp pn,PE (blk X N' sc cl C s H fp pn) elt te)
    (hx:X.xe=(fun _ _=>False):=by rfl) (hc:X.calm=true:=by rfl) (hN:X.N=N:=by rfl) (hs:X.env.scope=fsc:=by rfl)
    (hf:∀ x,foldedSetIterable iter X.env x=pure x:=by intro _; rfl):PU X (.ListComp elt [⟨tg,iter,ifs,0⟩] sc pos) (zre wi src g tc te):=by
  intro pins s σ H Q i0 x0 p0 p1 D0 I h hNd hi0 hx0 hsw fin; rw [exec_Assign_Name_used _ _ _ _ hsw]; refine wpAny_bind (wpAny_standAt (wpAny_bind ?_))
  show wpAny _ _ (do let _ ← comprehension (.ListComp elt [⟨tg,iter,ifs,0⟩] sc pos) sc X.env _ (newList []) false (eval iter X.env) (some (assign (.Name x0 p1) X.env))) _ _ _
  have hfr:∀ y ∈ sc.names,y.2=.free→∃ c,X.env.cells.lookup y.1=some c:=fun y hy e=>I.ok.has y.1 (.inl (by have:=B.free y hy e; rw [← hs] at this; exact this))
  refine wpAny_bind (wpAny_mono (wpAny_comprehension_free (use:=some (assign (.Name x0 p1) X.env)) (Q:=fun _ s'=>SP X pins D0 .next s') (cl:=zdT X.env.cells sc.names []) rfl hf (zgp hfr) B.kind B.names ?_) (fun _ s' hq=>wpAny_pure (wpAny_pure hq)) fun _ _ e=>e)
  refine thn (hi pins s σ H _ I h) fun v s1 h1=>thn h1 fun itv s2 h2=>?_
  obtain ⟨it,fp,tn,J,H2,e,I2,T,st2,f2,q⟩:=h2; subst e
  obtain ⟨W,⟨m0,w0⟩,turn⟩:=q s2.heap.objs.size (I2.hok.fresh (Nat.le_refl _))
  refine wpAny_newObj_type (wpAny_newFunctionEnv B.cell (by intro y hy; simp at hy) (fun h1 hns hsb=>?_) B.kind)
  dsimp only at hns hsb ⊢
  have I3:Inv X pins σ (upd H2 s2.heap.objs.size (.lst [])) { s2 with heap:=s2.heap.push { cls:=.type "list",dict:=none,data:=.seq ([]:List Value).toArray } } :=
    I2.laid (t':=s2.toks) (fun b o e=>Heap.get?_push_of_some _ e) (Nat.le_refl _) ⟨Nat.zero_le _,[],0,.nil,Heap.get?_push_size _ rfl⟩
  have fb:∀ b ∈ fp,b<s2.heap.objs.size:=fun b hb=>by
    obtain ⟨o,e,_⟩:=T.obj 0 _ st2 b hb; exact Heap.lt_size e
  have f3:∀ b ∈ fp,zjp X pins (upd H2 s2.heap.objs.size (.lst [])) b:=fun b hb=>by
    refine ⟨?_,(f2 b hb).2⟩; rw [zaE (Nat.ne_of_lt (fb b hb))]; exact (f2 b hb).1
  generalize hh3:s2.heap.push { cls:=.type "list",dict:=none,data:=.seq ([]:List Value).toArray }=h3 at hns hsb I3 ⊢
  have z3:s2.heap.objs.size<h3.objs.size:=by rw [← hh3,Heap.size_push]; exact Nat.lt_succ_self _
  have k3:∀ b o,h3.get? b=some o→h1.get? b=some o:=fun b o e=>hsb.extBut b o (Nat.ne_of_lt (Heap.lt_size e)) (Heap.get?_push_of_some _ e)
  have I4:=zo2 (tk:=s2.toks+([]:List (Str × Value)).length) I3 B hN hs f3 (fun b hb=>Nat.lt_trans (fb b hb) z3) hns k3
  have st4:tn 0 h1:=T.keep 0 _ _ st2 fun b hb o e=>k3 b o (by rw [← hh3]; exact Heap.get?_push_of_some _ e)
  have fok:∀ {H':Hp},(∀ b ∈ fp,H' b=none)→∀ b ∈ fp,zjp (blk X N' sc (zdT X.env.cells sc.names []) h3.objs.size { s2 with heap:=h3 } (upd H2 s2.heap.objs.size (.lst [])) fp (X.pn ++ pins)) [] H' b:=fun hn b hb=>by
    obtain ⟨_,g1,g2,g3,g4,g5⟩:=f3 b hb
    refine ⟨hn b hb,Nat.ne_of_lt (Nat.lt_trans (fb b hb) z3),fun z=>?_,.inl hb,fun x c e=>g4 x c (zer sc.names [] hfr (fun _ _ z=>by simp at z) e),fun p hp=>g5 p (by rw [List.append_nil] at hp; exact hp)⟩
    rcases List.mem_cons.mp (I3.stkSub b z) with e | e
    · exact g1 e
    · exact g2 e
  have loop:∀ s4:Shared,s4={ s2 with heap:=h1,toks:=s2.toks+([]:List (Str × Value)).length } →
      codeAny (model X.prog X.w) X.A (.compLoop (.ListComp elt [⟨tg,iter,ifs,0⟩] sc pos) 0 (.ref it) (.ref s2.heap.objs.size) (compEnvC sc (zdT X.env.cells sc.names []) h3.objs.size X.env))
        (compPost (model X.prog X.w) X.A X.xe (some (assign (.Name x0 p1) X.env)) (fun _ s'=>SP X pins D0 .next s') (.ref s2.heap.objs.size) h3.objs.size) s4:=by
    rintro s4 rfl
    refine zh7 (fun k s'=>∃ i σ5 H5,Inv (blk X N' sc (zdT X.env.cells sc.names []) h3.objs.size { s2 with heap:=h3 } (upd H2 s2.heap.objs.size (.lst [])) fp (X.pn ++ pins)) [] σ5 H5 s'∧tn i s'.heap∧(∀ b ∈ fp,H5 b=none)∧W i k σ5 H5) ?_ m0
      ⟨0,_,_,I4,st4,fun b hb=>(f3 b hb).1,w0⟩
    rintro k s5 ⟨i,σ5,H5,I5,st5,fr5,w5⟩
    rcases turn i k σ5 H5 w5 with ⟨stop,qd⟩ | ⟨go,M,hM,step⟩
    · refine thn (T.done (blk X N' sc (zdT X.env.cells sc.names []) h3.objs.size { s2 with heap:=h3 } (upd H2 s2.heap.objs.size (.lst [])) fp (X.pn ++ pins)) rfl rfl rfl hc i [] s5 σ5 H5 _ I5 (fok fr5) st5 stop) fun r s6 ⟨hr,I6⟩=>?_
      subst hr; obtain ⟨m6,hn6,_⟩:=id I6.loc
      have I7:Inv X pins σ H5 s6:=I3.call' (s':=s6) (ch:=fp) I6.os (Un.same I6.base (Heap.SameBut.refl ..) (Nat.le_refl _)) (HOk.same I6.hok (Heap.SameBut.refl ..) I6.free) I6.bare fun b hb=>⟨(f3 b hb).2.2.2.1,(f3 b hb).2.1,(f3 b hb).2.2.2.2.1,(f3 b hb).2.2.2.2.2⟩
      obtain ⟨c0,c1,c2,c3,c4,c5⟩:=I3.fpOk (H':=H5) (b:=h3.objs.size) (Nat.le_refl _) I6.free
      show wpAny _ _ (assign (.Name x0 p1) X.env (.ref s2.heap.objs.size)) _ _ _
      refine wpAny_assign_Name (zho (v:=.ref s2.heap.objs.size) I7 hNd hi0 (.inl hx0) rfl (fun s8 I8 sb=>?_) (.inr hx0))
      obtain ⟨a8,sb8,ha8⟩:=sb
      have ne8:h3.objs.size≠a8:=by
        rcases ha8 with e | e
        · rw [e]; exact c1
        · exact fun z=>c4 _ _ e z.symm
      exact ⟨m6,hn6.sameBut sb8 ne8,fun h' hsb'=>⟨_,H5,I8.turned (t':=s8.toks) (fun b o hb e=>(hsb'.2 b hb).trans e) c0 c1 c3 c4 c5,fin _ _ qd⟩⟩
    · refine thn (T.item (blk X N' sc (zdT X.env.cells sc.names []) h3.objs.size { s2 with heap:=h3 } (upd H2 s2.heap.objs.size (.lst [])) fp (X.pn ++ pins)) rfl rfl rfl hc i [] s5 σ5 H5 _ I5 (fok fr5) st5 go) fun r s6 ⟨u,hr,h6⟩=>?_
      subst hr
      refine thn h6 fun _ s7 ⟨x,H7,I7,r7,y7,st7,fr7⟩=>?_
      have I7':=I7.pinned (fok fr7) (T.obj _ _ st7)
      have back:∀ {σ8:St} {H8:Hp} {s8:Shared},Inv (blk X N' sc (zdT X.env.cells sc.names []) h3.objs.size { s2 with heap:=h3 } (upd H2 s2.heap.objs.size (.lst [])) fp (X.pn ++ pins)) ([] ++ zgi fp s7.heap) σ8 H8 s8→tn (i+1) s8.heap∧∀ b ∈ fp,H8 b=none:=fun {σ8 H8 s8} I8=>by
        have pn8:∀ b ∈ fp,∀ o,s7.heap.get? b=some o→s8.heap.get? b=some o∧H8 b=none:=fun b hb o e=>by
          have q:=I8.pin (b,o) (List.mem_append_right _ (List.mem_append_right _ (zdK hb e))); exact ⟨q.1,q.2.1⟩
        refine ⟨T.keep _ _ _ st7 fun b hb o e=>(pn8 b hb o e).1,fun b hb=>?_⟩
        obtain ⟨o,e,_⟩:=T.obj _ _ st7 b hb; exact (pn8 b hb o e).2
      have xf:∀ {α:Type} {t:Sem α} {Q1 Q2:α→Shared→Prop} {z:Shared},wpAny (model X.prog X.w) X.A t Q1 X.xe z→(∀ a z',Q1 a z'→Q2 a z')→wpAny (model X.prog X.w) X.A t Q2 (fun _ _=>False) z:=fun g1 g2=>by
        rw [hx] at g1; exact thn g1 g2
      refine xf (hg _ _ _ _ _ _ _ s7 σ5 H7 x u _ I7' r7 (step x H7 y7)) fun _ s8 ⟨σ8,H8,I8,q8⟩=>?_
      refine xf (ht _ _ _ _ _ _ _ s8 σ8 H8 _ I8 q8) fun b s9 ⟨H9,I9,q9⟩=>?_
      cases b with
      | false =>
        obtain ⟨m',hm,w'⟩:=hM σ8 H9 (by simpa using q9)
        obtain ⟨g1,g2⟩:=back I9; exact ⟨m',hm,i+1,σ8,H9,I9.unpinned,g1,g2,w'⟩
      | true =>
        rw [if_pos rfl] at q9 ⊢
        refine xf (he _ _ _ _ _ _ _ s9 σ8 H9 _ I9 q9) fun y s10 ⟨yv,H10,I10,r10,ys,hy,hz,w⟩=>?_
        obtain ⟨m',hm,w'⟩:=hM _ _ w
        refine xf (zek (X:=(blk X N' sc (zdT X.env.cells sc.names []) h3.objs.size { s2 with heap:=h3 } (upd H2 s2.heap.objs.size (.lst [])) fp (X.pn ++ pins))) _ s10 σ8 H10 (.ref s2.heap.objs.size) [yv] _ [y] (fun _ H11=>H11=upd H10 s2.heap.objs.size (.lst (ys ++ [yv]))) I10 rfl (.cons r10 .nil) ⟨_,ys,yv,rfl,rfl,hy,hz,rfl⟩) fun _ s11 ⟨_,H11,I11,_,e11⟩=>?_
        subst e11; obtain ⟨g1,g2⟩:=back I11; exact ⟨m',hm,i+1,σ8,_,I11.unpinned,g1,g2,w'⟩
  exact codeAny_compStart_list (loop _ rfl) (T.self _ 0 _ _ _ st4 (loop _ rfl))
end L2
namespace PL
open PySem L2
structure PU' (X:Cx) (e:Expr) (t:TO'):Prop where
  h:PU X e (oOf X.K X.N.length t)
section
variable {X:Cx} {pos:Pos}
theorem zec {elt tg iter:Expr} {ifs:List Expr} {sc fsc:Scope} {ti:TI'} {g:TG'} {tc:TT'} {te:TE'} {N N':List Str} {src:List (Option Nat)} (B:Blk N N' src fsc sc) (hi:PI' X tg iter ti)
    (hg:∀ cl C s H fp pn,PG' (blk X N' sc cl C s H fp pn) tg g) (ht:∀ cl C s H fp pn,PTs' (blk X N' sc cl C s H fp pn) ifs tc) (he:∀ cl C s H fp pn,PE' (blk X N' sc cl C s H fp pn) elt te)
    (hx:X.xe=(fun _ _=>False):=by rfl) (hc:X.calm=true:=by rfl) (hN:X.N=N:=by rfl) (hs:X.env.scope=fsc:=by rfl)
    (hf:∀ x,foldedSetIterable iter X.env x=pure x:=by intro _; rfl):PU' X (.ListComp elt [⟨tg,iter,ifs,0⟩] sc pos) (zw ti src g tc te):=by
  refine ⟨PU.weak (zpt (g:=gOf X.K N'.length g) (tc:=zqQ X.K N'.length tc) (te:=tOf X.K N'.length te) B hi.h (fun a b c d e f=>(hg a b c d e f).h) (fun a b c d e f=>(ht a b c d e f).h) (fun a b c d e f=>(he a b c d e f).h) hx hc hN hs hf) ?_⟩
  rintro σ H Q2 ⟨W,Hi,Γ,Q,gd,h,fin⟩
  refine ⟨W,Hi,Γ,_,gd,h,?_⟩
  rintro J H1 Hi1 Γ1 ds s1 g1 itd ⟨hlen,q⟩
  intro A hA
  -- the state between two turns
  have hn':src.length=N'.length:=B.len
  refine zh6 (n:=ds.length) (fun i σ' H'=>∃ Hi' acc vs Γ',zaX Hi1 Hi'∧Fz Hi' H'∧(∀ b o,H1 b=some o→H' b=some o)∧(∀ b o,H1 b=some o→Hi' b=Hi1 b)∧Hi' A=none∧H' A=some (.lst vs)∧zbU X.K Hi' vs acc∧vs.length≤i∧σ'.length=N'.length ∧
      (∀ (j:Nat) s,Γ'[j]?=some s→s=.emp∨∃ d,s=.val d∧∃ v,σ'[j]?=some (some v)∧Den X.K Hi' v d)∧zdg g tc te (fun acc=>Q (.lst acc) Γ1) (ds.drop i) acc Γ') ?_ ?_ ?_
  · refine ⟨Hi1,[],[],zmI src Γ1,zaX.refl _,(Ext.newO g1.fz hA _ (fun _ z=>by cases z)).fz,fun b o e=>zba hA _ b o e,fun b o e=>rfl,g1.sub.free hA,zP,.nil,Nat.zero_le _,?_,fun j s e=>?_,by simpa using q⟩
    · unfold zmT; rw [List.length_map,hn']
    · unfold zmI at e
      rw [List.getElem?_map] at e
      cases hj:src[j]? with
      | none=>rw [hj] at e; cases e
      | some o =>
        rw [hj] at e
        cases o with
        | none=>cases e; exact .inl rfl
        | some i =>
          have e':(match Γ1[i]? with | some (.val d)=>Slot.val d | _=>.emp)=s:=Option.some.inj e
          cases hΓ:Γ1[i]? with
          | none=>rw [hΓ] at e'; exact .inl e'.symm
          | some sl =>
            rw [hΓ] at e'
            cases sl with
            | val d =>
              refine .inr ⟨d,e'.symm,?_⟩; obtain ⟨v,h1,h2⟩:=g1.val i d hΓ; refine ⟨v,?_,h2⟩; unfold zmT; rw [List.getElem?_map,hj]
              show some ((some i).bind fun i=>(σ[i]?).join)=some (some v)
              show some ((σ[i]?).join)=some (some v)
              rw [h1]; rfl
            | emp=>exact .inl e'.symm
            | own o=>exact .inl e'.symm
            | bk _ _ _=>exact .inl e'.symm
  · rintro i σ' H' hlt ⟨Hi',acc,vs,Γ',s2,s3,k1,k2,hA1,hA2,dl,hv,hl,hsl,q⟩
    have hd:ds.drop i=ds[i] :: ds.drop (i+1):=List.drop_eq_getElem_cons hlt
    rw [hd] at q; obtain ⟨go,yl⟩:=(itd Hi' H' s2 s3).1 i ds[i] (List.getElem?_eq_getElem hlt)
    refine ⟨go,fun x H'' y=>?_⟩
    obtain ⟨Hi'',ex,den⟩:=yl x H'' y
    have gb:Good X.K N'.length ⟨H'',Hi'',[]⟩ Hi'' Γ' σ' H'':=by
      refine ⟨hl,ex.fz,fun b o e _=>e,fun b o e=>⟨o,e⟩,fun b o e=>rfl,fun j d e=>?_,fun j o e=>?_,fun j k o o' b e=>?_,fun j d b xs e=>?_⟩
      · rcases hsl j _ e with z | ⟨d',z,v,h1,h2⟩
        · cases z
        · cases z; exact ⟨v,h1,h2.mono ex.hi⟩
      · rcases hsl j _ e with z | ⟨d',z,_⟩ <;> cases z
      · rcases hsl j _ e with z | ⟨d',z,_⟩ <;> cases z
      · rcases hsl j _ e with z | ⟨d',z,_⟩ <;> cases z
    refine ⟨⟨H'',Hi'',[]⟩,Hi'',Γ',ds[i],_,gb,den,q,?_⟩; intro σ3 H3 Hi3 Γ3 s4 g3 q3; refine ⟨⟨H'',Hi'',[]⟩,Hi3,Γ3,_,g3,q3,?_⟩; intro b H4 Hi4 Γ4 s5 g4 q4
    -- what the state is behind a turn
    have back:∀ {Γ5:Sts} {Hi5 H5:Hp},zaX Hi4 Hi5→Good X.K N'.length ⟨H'',Hi'',[]⟩ Hi5 Γ5 σ3 H5 →
        zaX Hi1 Hi5∧Fz Hi5 H5∧(∀ b o,H1 b=some o→H5 b=some o)∧(∀ b o,H1 b=some o→Hi5 b=Hi1 b)∧Hi5 A=none∧H5 A=some (.lst vs)∧zaX Hi' Hi5:=fun {Γ5 Hi5 H5} s6 g5=>by
      have sx:zaX Hi' Hi5:=ex.hi.trans (s4.trans (s5.trans s6))
      have hA3:H'' A=some (.lst vs):=ex.h _ _ hA2
      refine ⟨s2.trans sx,g5.fz,fun b o e=>g5.keep b o (ex.h _ _ (k1 b o e)) (by simp),fun b o e=>?_,?_,g5.keep A _ hA3 (by simp),sx⟩
      · rw [g5.fro b o (ex.h _ _ (k1 b o e))]
        show Hi'' b=Hi1 b
        rw [ex.fro b o (k1 b o e),k2 b o e]
      · rw [g5.fro A _ hA3]
        show Hi'' A=none
        rw [ex.fro A _ hA2,hA1]
    have sl:∀ {Γ5:Sts} {Hi5 H5:Hp},Good X.K N'.length ⟨H'',Hi'',[]⟩ Hi5 Γ5 σ3 H5→∀ (j:Nat) s,(vo Γ5)[j]?=some s→s=.emp∨∃ d,s=.val d∧∃ v,σ3[j]?=some (some v)∧Den X.K Hi5 v d:=fun {Γ5 Hi5 H5} g5 j s e=>by
      unfold vo at e; rw [List.getElem?_map] at e
      cases hj:Γ5[j]? with
      | none=>rw [hj] at e; cases e
      | some sl =>
        rw [hj] at e
        cases sl with
        | val d =>
          cases e; exact .inr ⟨d,rfl,g5.val j d hj⟩
        | emp=>cases e; exact .inl rfl
        | own o=>cases e; exact .inl rfl
        | bk _ _ _=>cases e; exact .inl rfl
    cases b with
    | false =>
      simp only [Bool.false_eq_true,if_false] at q4 ⊢; obtain ⟨b1,b2,b3,b4,b5,b6,b7⟩:=back (zaX.refl _) g4
      exact ⟨Hi4,acc,vs,vo Γ4,b1,b2,b3,b4,b5,b6,dl.mono b7,by omega,g4.len,sl g4,q4⟩
    | true =>
      simp only [if_true] at q4 ⊢; refine ⟨⟨H'',Hi'',[]⟩,Hi4,Γ4,_,g4,q4,?_⟩
      rintro y' H5 ⟨Hi5,dy,Γ5,s6,g5,den5,q5⟩
      obtain ⟨b1,b2,b3,b4,b5,b6,b7⟩:=back s6 g5
      refine ⟨vs,b6,by omega,Hi5,acc ++ [dy],vs ++ [y'],vo Γ5,b1,?_,?_,b4,b5,zP,zaY (dl.mono b7) (.cons den5 .nil),by rw [List.length_append]; simp; omega,g5.len,sl g5,q5⟩
      · refine ⟨fun b o e=>?_,fun b xs e=>?_⟩
        · rw [zaE (fun z=>by rw [z,b5] at e; cases e)]
          exact b2.sub b o e
        · by_cases hb:b=A
          · subst hb; rw [zP] at e; cases e
          · rw [zaE hb] at e; exact b2.tups b xs e
      · intro b o e
        rw [zaE (zbw e hA)]; exact b3 b o e
  · rintro σ' H' ⟨Hi',acc,vs,Γ',s2,s3,k1,k2,hA1,hA2,dl,hv,hl,hsl,q⟩
    refine ⟨(itd Hi' H' s2 s3).2,?_⟩; rw [List.drop_eq_nil_of_le (Nat.le_refl _)] at q
    have ex:Ext Hi1 H1 Hi' H':=⟨s2,k1,s3,k2⟩
    refine fin A H' Hi' Γ1 (.lst acc) (s1.trans s2) (g1.ext ex) ⟨hA1,?_,⟨fun j o' e z=>?_,fun j d xs e=>?_⟩,vs,hA2,dl⟩ q
    · cases hq:W.H₀ A with
      | none=>rfl
      | some w =>
        obtain ⟨w',hw⟩:=g1.there A w hq
        rw [hA] at hw; cases hw
    · obtain ⟨a,h1,_,_,h4⟩:=g1.own j o' e
      rw [z] at h1; cases h1; obtain ⟨w,hw⟩:=h4.there
      rw [hA] at hw; cases hw
    · obtain ⟨w,hw⟩:=(g1.bk j d A xs e).at_.there
      rw [hA] at hw; cases hw
theorem zlr (i:Nat) {x:Str} {e:Expr} {te:TO'} {pos':Pos} (hN:X.N.Nodup) (he:PU' X e te) (hi:X.N[i]?=some x:=by rfl) (hx:X.env.scope.names.lookup x=some .local:=by rfl) (hs:swapsWith e (some (.Name x pos')) pos.line X.env=pure true:=by rfl):PS' X (.Assign [.Name x pos'] e pos) (zy te i):=by
  refine ⟨fun pins s σ H N2 I q=>?_⟩
  obtain ⟨W,Hi,Γ,N,g,h,l⟩:=q
  refine he.h pins s σ H (fun v H'=>N2.nx (σ.set i (some v)) H') i x pos pos' N2 I ⟨W,Hi,Γ,_,g,h,?_⟩ hN hi hx hs fun _ _ z=>z
  intro a H1 Hi1 Γ1 o s1 g1 nw q; exact l.nx _ H1 Hi1 _ s1 (g1.setO (List.getElem?_eq_some_iff.mp hi).1 nw.hi nw.h0 nw.ne nw.own) q
theorem ze4 (i:Nat) {x:Str} {e:Expr} {te:TO'} {pos':Pos} (hN:X.N.Nodup) (he:PU' X e te) (hi:X.N[i]?=some x:=by rfl) (hx:X.env.scope.names.lookup x=some .local:=by rfl) (hs:swapsWith e (some (.Name x pos')) pos.line X.env=pure true:=by rfl):PS' X (.Assign [.Name x pos'] e pos) (zZ (za9 te) (zp i)):=by
  refine ⟨fun pins s σ H N2 I q=>?_⟩
  obtain ⟨W,Hi,Γ,N,g,h,l⟩:=q
  refine he.h pins s σ H (fun v H'=>N2.nx (σ.set i (some v)) H') i x pos pos' N2 I ⟨W,Hi,Γ,_,g,h,?_⟩ hN hi hx hs fun _ _ z=>z
  intro a H1 Hi1 Γ1 o s1 g1 nw q; obtain ⟨u,hu⟩:=nw.own.there; exact l.nx _ H1 (upd Hi1 a u) _ (s1.trans (zba nw.hi u)) ((g1.freezeA nw.hi nw.h0 nw.ne hu).set (List.getElem?_eq_some_iff.mp hi).1 (nw.own.den nw.hi hu)) q
end
end PL
namespace PL
open PySem L2
def zuN:OD→Prop
  | .lst ds=>∀ d,d ∈ ds→Imm d
  | _=>False
def zu (n:Nat) (t:TO'):TO':=fun Γ Q=>t (zaa n Γ) fun o _=>zuN o∧Q o Γ
theorem zlv {X:Cx} {e:Expr} {t:TO'} (h:PO' X e t):PO' X e (zu X.N.length t):=by
  refine ⟨PE.weak h.h ?_⟩
  rintro σ H Q ⟨W,Hi,Γ,Q',g,q,fin⟩
  obtain ⟨s1,g1⟩:=g.look; refine ⟨_,_,_,_,g1,q,?_⟩
  rintro a H' Hb Γ' o sb g' nw ⟨im,q'⟩
  obtain ⟨s2,g2,hd⟩:=g.unlook sb g'
  have ha:H a=none:=nw.h0
  refine fin a H' _ Γ o s2.hi g2 ⟨?_,?_,⟨fun j o' e z=>?_,fun j d xs e=>?_⟩,?_⟩ q'
  · unfold zcU
    split
    · rfl
    · exact nw.hi
  · cases hq:W.H₀ a with
    | none=>rfl
    | some w =>
      obtain ⟨w',hw⟩:=g.there a w hq
      rw [ha] at hw; cases hw
  · obtain ⟨b,h1,_,_,h4⟩:=g.own j o' e
    rw [z] at h1; cases h1; obtain ⟨w,hw⟩:=h4.there
    rw [ha] at hw; cases hw
  · obtain ⟨w,hw⟩:=(g.bk j d a _ e).at_.there
    rw [ha] at hw; cases hw
  · cases o with
    | lst ds =>
      obtain ⟨vs,e,dl⟩:=nw.own
      exact ⟨vs,e,paired_of (zi dl) fun i v d h1 h2=>hd v d (im d (List.mem_of_getElem? h2)) (paired_get i dl h1 h2)⟩
    | dic ds=>exact im.elim
    | dit ds=>exact im.elim
    | obj C ds=>exact im.elim
structure ExtB (b:Addr) (Hi H Hi' H':Hp):Prop where
  hi:zaX Hi Hi'
  h:∀ a o,a≠b→H a=some o→H' a=some o
  fz:Fz Hi' H'
  fro:∀ a o,H a=some o→Hi' a=Hi a
theorem zaQ {Γ:Sts} {i:Nat} {t:Slot} {j:Nat} {s:Slot} (e:(Γ.set i t)[j]?=some s):(j=i∧s=t)∨(j≠i∧Γ[j]?=some s):=by
  by_cases hj:j=i
  · subst hj
    refine .inl ⟨rfl,?_⟩; rw [List.getElem?_set] at e; simp only [if_true] at e; split at e
    · exact (Option.some.inj e).symm
    · cases e
  · rw [List.getElem?_set_ne (fun z=>hj z.symm)] at e
    exact .inr ⟨hj,e⟩
theorem Good.extB {K:PySem.W.Frag} {n:Nat} {W:Wd} {Hi Hi' H H':Hp} {Γ:Sts} {σ:St} {i:Nat} {d:D→D} {b:Addr} {xs xs':OD} (g:Good K n W Hi Γ σ H) (e0:Γ[i]?=some (.bk d b xs)) (e:ExtB b Hi H Hi' H') (at_:zbY K Hi' H' b xs'):Good K n W Hi' (Γ.set i (.bk d b xs')) σ H':=by
  have B:=g.bk i d b _ e0
  have hbi:Hi' b=none:=by
    obtain ⟨u,hu⟩:=B.at_.there; exact (e.fro b u hu).trans B.hi
  have mv:∀ {a:Addr} {o:OD},a≠b→zbY K Hi H a o→zbY K Hi' H' a o:=fun ne h=>h.mono e.hi fun u q=>e.h _ u ne q
  refine ⟨g.len,e.fz,fun a o q nf=>?_,fun a o q=>?_,fun a o q=>?_,fun j d' q=>?_,fun j o q=>?_,fun j k o o' a q1 q2 h1 h2=>?_,fun j d' b' ys q=>?_⟩
  · refine e.h a o (fun z=>?_) (g.keep a o q nf)
    rw [z] at q nf; rw [B.h0 nf] at q; cases q
  · by_cases z:a=b
    · rw [z]
      exact at_.there
    · obtain ⟨o',h⟩:=g.there a o q
      exact ⟨o',e.h a o' z h⟩
  · obtain ⟨o',h⟩:=g.there a o q
    exact (e.fro a o' h).trans (g.fro a o q)
  · rcases zaQ q with ⟨_,z⟩ | ⟨_,z⟩
    · cases z
    · obtain ⟨v,h1,h2⟩:=g.val j d' z
      exact ⟨v,h1,h2.mono e.hi⟩
  · rcases zaQ q with ⟨_,z⟩ | ⟨_,z⟩
    · cases z
    · obtain ⟨a,h1,h2,h3,h4⟩:=g.own j o z
      have ne:a≠b:=fun w=>B.ne j o z (by rw [← w]; exact h1)
      obtain ⟨u,hu⟩:=h4.there; exact ⟨a,h1,(e.fro a u hu).trans h2,h3,mv ne h4⟩
  · rcases zaQ q1 with ⟨_,z⟩ | ⟨_,z⟩
    · cases z
    · rcases zaQ q2 with ⟨_,y⟩ | ⟨_,y⟩
      · cases y
      · exact g.apart j k o o' a z y h1 h2
  · rcases zaQ q with ⟨rfl,z⟩ | ⟨hj,z⟩
    · cases z
      obtain ⟨⟨v,v1,v2⟩,p1,p2,p3,p4,p5,p6⟩:=B
      refine ⟨⟨v,v1,v2.mono e.hi⟩,p1,hbi,p3,at_,fun k d2 ys q=>?_,fun k o' q=>?_⟩
      · rcases zaQ q with ⟨rfl,y⟩ | ⟨_,y⟩
        · rfl
        · exact p5 k _ _ y
      · rcases zaQ q with ⟨_,y⟩ | ⟨_,y⟩
        · cases y
        · exact p6 k o' y
    · obtain ⟨⟨v,v1,v2⟩,p1,p2,p3,p4,p5,p6⟩:=g.bk j d' b' _ z
      have ne:b'≠b:=fun w=>hj (B.one j d' ys (by rw [← w]; exact z))
      obtain ⟨u,hu⟩:=p4.there
      refine ⟨⟨v,v1,v2.mono e.hi⟩,p1,(e.fro b' u hu).trans p2,p3,mv ne p4,fun k d2 ys q=>?_,fun k o' q=>?_⟩
      · rcases zaQ q with ⟨rfl,y⟩ | ⟨_,y⟩
        · cases y
          exact absurd rfl ne
        · exact p5 k _ _ y
      · rcases zaQ q with ⟨_,y⟩ | ⟨_,y⟩
        · cases y
        · exact p6 k o' y
theorem ExtB.put {Hi H:Hp} {b:Addr} {ws:List V} (s:Fz Hi H) (hb:Hi b=none) {u:HO} (hu:H b=some u) (nt:∀ xs,u≠.tup xs):ExtB b Hi H Hi (upd H b (.lst ws)):=by
  refine ⟨zaX.refl _,fun a o ne q=>by rw [zaE ne]; exact q,⟨fun a o q=>?_,fun a xs q=>?_⟩,fun _ _ _=>rfl⟩
  · rw [zaE (fun z=>by rw [z,hb] at q; cases q)]
    exact s.sub a o q
  · by_cases z:a=b
    · subst z
      rw [zP] at q; cases q
    · rw [zaE z] at q
      exact s.tups a xs q
section
variable {X:Cx}
end
abbrev SpB:=(D→D)→List D→List D→(D→List D→Prop)→Prop
section
variable {X:Cx} {k:Nat} {C:Addr} {m x y:Str} {ps:List Str} {sp:SpB} {apos pos p q:Pos} {e:Expr} {es:List Expr} {t:TA'}
end
section
variable {P:Program} {w:World} {K:PySem.W.Frag} {mg:Str→Option Value} {base:Heap}
end
end PL
namespace L2
open PySem PySem.Spec PyProof.Rows
theorem zm7 {h:Heap} {a:Addr} {its:Array Value} (p:PlainL h a its):h.IsList a its:=by
  obtain ⟨o,n,e,c,d,e2⟩:=p
  first | exact ⟨o,e,c,n,e2⟩ | exact ⟨o,e,c,n,d⟩
section
variable {X:Cx} {tg:Expr}
end
end L2
namespace PL
open PySem L2
section
variable {X:Cx}
theorem znm:Op2 X (binaryOp .Pow) (rI' zq1 fun i j=>.int (i ^ j.toNat)):=⟨_,zrZ,zjO _ fun i j _=>.int _⟩
def nmD (ms:List (List Nat)):List (D × D):=ms.map fun m=>(.str m,.bl true)
def nmV (ms:List (List Nat)):List (Key × V):=ms.map fun m=>(.inr (st m),.bl true)
theorem zoA {K:PySem.W.Frag} {H:Hp}:∀ (ms:List (List Nat)),zmK K H (nmV ms) (nmD ms)
  | []=>.nil
  | m :: ms=>.cons ⟨by show D.str m=.str (st m).cps.toList; rw [zaP],.bl true⟩ (zoA ms)
theorem zsc {K:PySem.W.Frag} {H:Hp}:∀ {kvs:List (Key × V)} {ms:List (List Nat)},zmK K H kvs (nmD ms)→kvs=nmV ms
  | [],[],_=>rfl
  | p :: kvs,m :: ms,.cons r t=>by
    obtain ⟨k,v⟩:=p; obtain ⟨r1,r2⟩:=r
    cases r2.blI
    cases k with
    | inl i=>cases r1
    | inr x =>
      have e:m=x.cps.toList:=by injection r1
      show _=(Sum.inr (st m),V.bl true) :: nmV ms
      rw [← zsc t,e,← zla x]
  | [],_ :: _,h=>nomatch h
  | _ :: _,[],h=>nomatch h
theorem st_inj {l m:List Nat}:st l=st m↔l=m:=⟨fun h=>by rw [← zaP l,h,zaP],fun h=>by rw [h]⟩
theorem zsd {l m:List Nat}:((Sum.inr (st m):Key)=.inr (st l))↔m=l:=⟨fun h=>st_inj.mp (Sum.inr.inj h),fun h=>by rw [h]⟩
theorem zse (l:List Nat) (ms:List (List Nat)):((nmV ms).any fun kv=>decide (kv.1=.inr (st l)))=decide (l ∈ ms):=by
  induction ms with
  | nil=>rfl
  | cons m ms ih =>
    show (decide ((Sum.inr (st m):Key)=.inr (st l)) || (nmV ms).any _)=_
    rw [ih]
    by_cases e:m=l
    · subst e; simp
    · have h1:¬ ((Sum.inr (st m):Key)=.inr (st l)):=fun z=>e (zsd.mp z)
      have h2:¬ l=m:=fun z=>e z.symm
      simp [h1,h2]
def znr (ms:List (List Nat)) (l:List Nat):List (List Nat):=if l ∈ ms then ms else ms ++ [l]
theorem zsb (l:List Nat) (ms:List (List Nat)):zjF (nmV ms) (.inr (st l)) (.bl true)=nmV (znr ms l):=by
  unfold zjF znr; rw [zse]
  by_cases e:l ∈ ms
  · simp only [e,decide_true,if_true]
    unfold nmV; rw [List.map_map]
    refine List.map_congr_left fun m _=>?_
    show (if (Sum.inr (st m):Key)=.inr (st l) then _ else _)=_
    split <;> rfl
  · simp only [e,decide_false,Bool.false_eq_true,if_false]
    unfold nmV; simp
def zar:TO':=fun Γ Q=>Q (.dic (nmD [])) Γ
theorem zlu {pos:Pos}:PO' X (.Dict [] [] pos) zar:=by
  refine ⟨PE.weak zne ?_⟩
  rintro σ H Q ⟨W,Hi,Γ,Q',g,q,fin⟩
  intro p hp
  exact fin p _ Hi Γ (.dic (nmD [])) (zaX.refl _) (g.ext (Ext.newO g.fz hp _ (fun _ z=>by cases z))) (New.mk' g hp ⟨[],zP,.nil⟩) q
def zC (i:Nat) (tk tv:TE'):TS':=fun N Γ=>tv Γ fun v Γ1=>v=.bl true∧(∃ ms0,Γ1[i]?=some (.own (.dic (nmD ms0))))∧tk Γ1 fun k Γ2=>∃ (ms:List (List Nat)) (l:List Nat),Γ2[i]?=some (.own (.dic (nmD ms)))∧k=.str l∧ms.length<sizeLine∧N.nx (Γ2.set i (.own (.dic (nmD (znr ms l)))))
theorem zm4 (hu:X.A.units+1<cLine) (i:Nat) {x:Str} {k value:Expr} {tk tv:TE'} {p pos pos':Pos} (hk:PE' X k tk) (hv:PE' X value tv) (hN:X.N[i]?=some x:=by rfl) (hvi:Vis X.env.scope x:=by first | exact Or.inl rfl | exact Or.inr (Or.inl rfl) | exact Or.inr (Or.inr rfl)) (hd:(x == ("__debug__":Str))=false:=by decide)
    (hcd:(x == ("__classdict__":Str))=false:=by decide) (hs:swapsWith value (some (.Subscript (.Name x p) k pos')) pos.line X.env=pure false:=by rfl) :
    PS' X (.Assign [.Subscript (.Name x p) k pos'] value pos) (zC i tk tv):=by
  refine ⟨PS.weak (zpA hu (zcS (i:=i) (pos:=p) hN hvi hd hcd) hk.h hv.h hs) ?_⟩
  rintro N2 σ H ⟨W,Hi,Γ,N,g,q,l⟩
  have hi:i<X.N.length:=(List.getElem?_eq_some_iff.mp hN).1
  refine ⟨W,Hi,Γ,_,g,q,?_⟩
  rintro v H1 ⟨Hi1,d,Γ1,s1,g1,den,rfl,⟨ms0,e0⟩,q1⟩
  obtain ⟨a,h1,h2,h3,kvs0,h4,h5⟩:=g1.own i _ e0; refine ⟨.ref a,zeT hi h1,W,Hi1,Γ1,_,g1,q1,?_⟩
  rintro y H2 ⟨Hi2,dk,Γ2,s2,g2,den2,ms,lk,e2,rfl,hl,q2⟩
  obtain ⟨a',k1,k2,k3,kvs,k4,k5⟩:=g2.own i _ e2; rw [h1] at k1; cases k1
  cases den2.strI
  cases den.blI
  have e:=zsc k5; subst e
  refine ⟨a,_,rfl,.inl ⟨_,.inr (st lk),k4,rfl,by unfold nmV; rw [List.length_map]; exact hl,rfl⟩,?_⟩
  rw [zsb]; exact l.nx σ _ Hi2 _ (s1.trans s2) (g2.put (o:=.dic (nmD (znr ms lk))) e2 h1 ⟨_,zP,zoA _⟩) q2
instance {i:Nat} {tk tv:TE'} [ME tk] [ME tv]:MS (zC i tk tv):=⟨fun N N' Γ h q=>ME.mono (t:=tv) _ _ _ (fun _ _ ⟨a,b,z⟩=>⟨a,b,ME.mono (t:=tk) _ _ _ (fun _ _ ⟨ds,ks,e1,e2,e3,w⟩=>⟨ds,ks,e1,e2,e3,h.nx _ w⟩) z⟩) q⟩
end
end PL
namespace L2
open PySem PySem.Spec PyProof.Rows
section
variable {X:Cx}
end
end L2
namespace PL
open PySem L2
section
variable {X:Cx}
end
end PL
namespace PL
open PySem L2
instance {n:Nat} {t:TO'} [MO t]:MO (zu n t):=⟨fun Γ _ _ h q=>MO.mono (t:=t) _ _ _ (fun _ _ ⟨a,z⟩=>⟨a,h _ _ z⟩) q⟩
theorem zk4:∀ L:List (List Nat),Txt.join (st []) (L.map st)=st L.flatten:=by
  intro L
  show PySem.Builtin.Str.glued (st []) (L.map st)=_
  rw [StrLaws.glued_eq_join]
  induction L with
  | nil=>rfl
  | cons a t ih =>
    cases t with
    | nil=>show st a=st [a].flatten; simp
    | cons b r =>
      show st a ++ st [] ++ Str.join (st []) (st b :: r.map st)=st (a :: b :: r).flatten
      rw [show Str.join (st []) (st b :: r.map st)=st (b :: r).flatten from ih]
      show (⟨(a.toArray ++ #[]) ++ ((b :: r).flatten).toArray⟩:Str)=⟨((a :: b :: r).flatten).toArray⟩
      simp
def zrx:RM':=fun x ds Q=>∃ ls:List (List Nat),x=.str []∧ds=[.lst (ls.map .str)]∧(ls.map (·.length)).sum≤16777216∧Q (.str ls.flatten)
theorem zp3 {X:Cx}:Met X "str" "str.join" zrx:=⟨_,zp2,by
  rintro Hi H x vs dx ds Q Q2 s d1 dl ⟨ls,rfl,rfl,hl,q⟩ fin
  have hz:(((ls.map st).map (·.length)).sum+(ls.map st).length * (st []).length)≤16777216:=by
    rw [List.map_map,zbP]
    have:(ls.map ((fun z:Str=>z.length) ∘ st))=ls.map (·.length):=List.map_congr_left fun z _=>zbP z
    rw [this,List.length_map]
    simpa using hl
  obtain ⟨v,rfl,den⟩:=zd6 dl; obtain ⟨a,us,rfl,h1,h2⟩:=den.lstI; rw [zh2 h2] at h1; refine ⟨_,a,ls.map st,d1.strI,rfl,.inl (zaK s.sub h1),hz,?_⟩; rw [zk4]; exact fin Hi H _ _ (Ext.refl s) (.str _) q⟩
end PL
namespace So
open PySem PySem.W PyProof.Rows
def run (lt:Nat→Nat→Bool) {α:Type}:KasT α→α
  | .ret a=>a
  | .ask i j k=>run lt (k (lt i j))
theorem zdG (lt:Nat→Nat→Bool) {α β:Type} (f:α→KasT β):∀ t:KasT α,run lt (t.bind f)=run lt (f (run lt t))
  | .ret _=>rfl
  | .ask i j k=>zdG lt f (k (lt i j))
def g (p:Array Nat) (i:Nat):Nat:=p.getD i 0
theorem g_eq (p:Array Nat) (i:Nat):g p i=(p[i]?).getD 0:=by
  unfold g; simp [Array.getD_eq_getD_getElem?]
theorem za0 {p:Array Nat} {i j:Nat} (hj:j≤p.size) (k:Nat):g (kas_rev p i j) k=if i≤k∧k<j then g p (i+j-1-k) else g p k:=by
  unfold kas_rev; rw [g_eq,getElem?_mirror_all hj]
  split <;> rw [g_eq]
theorem zn2 {p:Array Nat} {src d:Nat} (hs:src<p.size) (hd:d≤src) (k:Nat):g (bubble p src d) k=if k=src-d then g p src else if src-d<k∧k≤src then g p (k-1) else g p k:=by
  rw [g_eq,getElem?_bubble hs d hd]; split
  · rw [g_eq]
  · split <;> rw [g_eq]
structure Ord (lt:Nat→Nat→Bool):Prop where
  asym:∀ a b,lt a b=true→lt b a=false
  tr:∀ a b c,lt b a=false→lt c b=false→lt c a=false
def L (lt:Nat→Nat→Bool) (a b:Nat):Prop:=lt a b=true∨(lt b a=false∧a<b)
section
variable {lt:Nat→Nat→Bool}
theorem L.le (o:Ord lt) {a b:Nat} (h:L lt a b):lt b a=false:=by
  rcases h with h | h
  · exact o.asym _ _ h
  · exact h.1
theorem zlO (o:Ord lt) {a b c:Nat} (h:lt a b=true) (k:lt c b=false):lt a c=true:=by
  cases e:lt a c with
  | true=>rfl
  | false=>exact absurd (o.tr b c a k e) (by rw [h]; exact fun z=>nomatch z)
theorem zp6 (o:Ord lt) {a b c:Nat} (h:lt b a=false) (k:lt b c=true):lt a c=true:=by
  cases e:lt a c with
  | true=>rfl
  | false=>exact absurd (o.tr c a b e h) (by rw [k]; exact fun z=>nomatch z)
theorem L.trans (o:Ord lt) {a b c:Nat} (h:L lt a b) (k:L lt b c):L lt a c:=by
  rcases h with h | ⟨h,h'⟩
  · exact .inl (zlO o h (L.le o k))
  · rcases k with k | ⟨k,k'⟩
    · exact .inl (zp6 o h k)
    · exact .inr ⟨o.tr _ _ _ h k,Nat.lt_trans h' k'⟩
end
def Srt (lt:Nat→Nat→Bool) (p:Array Nat) (n:Nat):Prop:=∀ i j,i<j→j<n→L lt (g p i) (g p j)
structure B (p:Array Nat) (N n:Nat):Prop where
  size:p.size=N
  low:∀ k,k<n→g p k<n
  high:∀ k,n≤k→k<N→g p k=k
theorem B.succ {p:Array Nat} {N n:Nat} (b:B p N n) (h:n<N):B p N (n+1) where
  size:=b.size
  low:=fun k hk=>by
    by_cases e:k=n
    · subst e; rw [b.high k (Nat.le_refl _) h]; omega
    · have:=b.low k (by omega); omega
  high:=fun k h1 h2=>b.high k (by omega) h2
theorem B.mirror {p:Array Nat} {N n i j:Nat} (b:B p N n) (hj:j≤n) (hn:n≤N):B (kas_rev p i j) N n where
  size:=by rw [kas_rev_size,b.size]
  low:=fun k hk=>by
    rw [za0 (by rw [b.size]; omega)]
    split
    · exact b.low _ (by omega)
    · exact b.low _ hk
  high:=fun k h1 h2=>by
    rw [za0 (by rw [b.size]; omega),if_neg (by omega)]
    exact b.high k h1 h2
section
variable {lt:Nat→Nat→Bool} (o:Ord lt)
include o
theorem Srt.succ {p:Array Nat} {N n:Nat} (b:B p N n) (h1:1≤n) (hn:n<N) (s:Srt lt p n) (q:lt (g p n) (g p (n-1))=false):Srt lt p (n+1):=fun i j hij hj=>by
  by_cases e:j=n
  · subst e
    have l1:L lt (g p (j-1)) (g p j):=.inr ⟨q,by
      rw [b.high j (Nat.le_refl _) hn]
      exact b.low _ (by omega)⟩
    by_cases e2:i=j-1
    · subst e2; exact l1
    · exact (s i (j-1) (by omega) (by omega)).trans o l1
  · exact s i j hij (by omega)
theorem asc {p:Array Nat} {N:Nat}:∀ (f n:Nat),n+f=N→1≤n→B p N n→Srt lt p n→n≤run lt (kas_asc p f n)∧run lt (kas_asc p f n)≤N∧B p N (run lt (kas_asc p f n))∧Srt lt p (run lt (kas_asc p f n)) ∧
    (run lt (kas_asc p f n)<N→lt (g p (run lt (kas_asc p f n))) (g p (run lt (kas_asc p f n)-1))=true)
  | 0,n,h,h1,b,s=>⟨Nat.le_refl _,by show n≤N; omega,b,s,fun z=>absurd (show n<N from z) (by omega)⟩
  | f+1,n,h,h1,b,s=>by
    have e:run lt (kas_asc p (f+1) n)=run lt (if lt (g p n) (g p (n-1))=true then KasT.ret n else kas_asc p f (n+1)):=rfl
    rw [e]
    cases q:lt (g p n) (g p (n-1)) with
    | true =>
      rw [if_pos rfl]
      exact ⟨Nat.le_refl _,by show n≤N; omega,b,s,fun _=>q⟩
    | false =>
      rw [if_neg (by decide)]
      obtain ⟨a1,a2,a3,a4,a5⟩:=asc (N:=N) f (n+1) (by omega) (by omega) (b.succ (by omega)) (Srt.succ o b h1 (by omega) s q)
      exact ⟨by omega,a2,a3,a4,a5⟩
structure De (lt:Nat→Nat→Bool) (p:Array Nat) (N n q:Nat):Prop where
  b:B p N n
  le:n≤N
  q1:q+1≤n
  blk:∀ i j,n-(q+1)≤i→i<j→j<n→L lt (g p i) (g p j)∧lt (g p i) (g p j)=false
  str:∀ i j,i<n-(q+1)→n-(q+1)≤j→j<n→lt (g p j) (g p i)=true
  old:∀ i j,i<j→j<n-(q+1)→L lt (g p j) (g p i)
def Fal (lt:Nat→Nat→Bool) (p:Array Nat) (n:Nat):Prop:=∀ i j,i<j→j<n→L lt (g p j) (g p i)
theorem De.turned {p:Array Nat} {N n q:Nat} (d:De lt p N n q):Fal lt (kas_rev p (n-(q+1)) n) n:=fun i j hij hj=>by
  have hs:n≤p.size:=by rw [d.b.size]; exact d.le
  have hq:=d.q1; rw [za0 hs,za0 hs]
  by_cases hi:n-(q+1)≤i
  · rw [if_pos ⟨by omega,hj⟩,if_pos ⟨hi,by omega⟩]
    exact (d.blk _ _ (by omega) (by omega) (by omega)).1
  · rw [if_neg (show ¬ (n-(q+1)≤i∧i<n) by omega)]
    by_cases hj2:n-(q+1)≤j
    · rw [if_pos ⟨hj2,hj⟩]
      exact .inl (d.str _ _ (by omega) (by omega) (by omega))
    · rw [if_neg (show ¬ (n-(q+1)≤j∧j<n) by omega)]
      exact d.old i j hij (by omega)
theorem De.fal0 {p:Array Nat} {N n:Nat} (d:De lt p N n 0):Fal lt p n:=fun i j hij hj=>by
  by_cases e:n-1≤j
  · exact .inl (d.str i j (by omega) (by omega) hj)
  · exact d.old i j hij (by omega)
theorem De.next {p:Array Nat} {N n:Nat} (b:B p N n) (hn:n<N) (h1:1≤n) (fa:Fal lt p n) (st:∀ i,i<n→lt (g p n) (g p i)=true):De lt p N (n+1) 0 where
  b:=b.succ hn
  le:=hn
  q1:=by omega
  blk:=fun i j h1 h2 h3=>by omega
  str:=fun i j h1 h2 h3=>by
    have e:j=n:=by omega
    subst e
    exact st i (by omega)
  old:=fun i j h1 h2=>fa i j h1 (by omega)
theorem De.st {p:Array Nat} {N n q:Nat} (d:De lt p N n q) (h:lt (g p n) (g p (n-1))=true):∀ i,i<n→lt (g p n) (g p i)=true:=fun i hi=>by
  have hq:=d.q1
  by_cases e:i=n-1
  · subst e; exact h
  · refine zlO o h ?_
    by_cases hb:n-(q+1)≤i
    · exact (d.blk i (n-1) hb (by omega) (by omega)).2
    · exact o.asym _ _ (d.str i (n-1) (by omega) (by omega) (by omega))
theorem zsC {N:Nat}:∀ (f:Nat) (p:Array Nat) (n q:Nat),n+f=N→De lt p N n q→∃ p' n' q',run lt (kas_desc f p n q)=(p',n',q')∧De lt p' N n' q'
  | 0,p,n,q,_,d=>⟨p,n,q,rfl,d⟩
  | f+1,p,n,q,h,d=>by
    have hn:n<N:=by omega
    have hq:=d.q1
    have e:run lt (kas_desc (f+1) p n q)=run lt (if lt (g p n) (g p (n-1))=true then (if q > 0 then kas_desc f (kas_rev p (n-(q+1)) n) (n+1) 0 else kas_desc f p (n+1) 0)
      else KasT.ask (p.getD (n-1) 0) (p.getD n 0) fun c=>if c=true then .ret (p,n,q) else kas_desc f p (n+1) (q+1)):=rfl
    rw [e]
    cases c:lt (g p n) (g p (n-1)) with
    | true =>
      rw [if_pos rfl]
      by_cases hq0:q > 0
      · rw [if_pos hq0]
        refine zsC f _ (n+1) 0 (by omega) (De.next o (d.b.mirror (Nat.le_refl _) d.le) hn (by omega) (De.turned o d) fun i hi=>?_)
        have hs:n≤p.size:=by rw [d.b.size]; exact d.le
        rw [za0 hs,za0 hs,if_neg (show ¬ (n-(q+1)≤n∧n<n) by omega)]
        split
        · exact De.st o d c _ (by omega)
        · exact De.st o d c _ hi
      · rw [if_neg hq0]
        have e0:q=0:=by omega
        subst e0
        exact zsC f _ (n+1) 0 (by omega) (De.next o d.b hn (by omega) (De.fal0 o d) (De.st o d c))
    | false =>
      rw [if_neg (by decide)]
      have e2:run lt (KasT.ask (p.getD (n-1) 0) (p.getD n 0) fun c=>if c=true then KasT.ret (p,n,q) else kas_desc f p (n+1) (q+1))=run lt (if lt (g p (n-1)) (g p n)=true then KasT.ret (p,n,q) else kas_desc f p (n+1) (q+1)):=rfl
      rw [e2]
      cases c2:lt (g p (n-1)) (g p n) with
      | true=>rw [if_pos rfl]; exact ⟨p,n,q,rfl,d⟩
      | false =>
        rw [if_neg (by decide)]
        have hb:n+1-(q+1+1)=n-(q+1):=by omega
        have gn:g p n=n:=d.b.high n (Nat.le_refl _) hn
        refine zsC f _ (n+1) (q+1) (by omega) ⟨d.b.succ hn,hn,by omega,fun i j h1 h2 h3=>?_,fun i j h1 h2 h3=>?_,fun i j h1 h2=>?_⟩
        · rw [hb] at h1
          by_cases ej:j=n
          · subst ej
            have lo:g p i<g p j:=by rw [gn]; exact d.b.low i h2
            by_cases ei:i=j-1
            · subst ei; exact ⟨.inr ⟨c,lo⟩,c2⟩
            · obtain ⟨u1,u2⟩:=d.blk i (j-1) h1 (by omega) (by omega)
              exact ⟨.inr ⟨o.tr _ _ _ (L.le o u1) c,lo⟩,o.tr _ _ _ c2 u2⟩
          · exact d.blk i j h1 h2 (by omega)
        · rw [hb] at h1 h2
          by_cases ej:j=n
          · subst ej
            exact zp6 o c2 (d.str i (j-1) h1 (by omega) (by omega))
          · exact d.str i j h1 h2 (by omega)
        · rw [hb] at h2
          exact d.old i j h1 h2
theorem zq9 {p:Array Nat} {N n:Nat} (b:B p N n) (hn:n≤N) (h1:1≤n) (fa:Fal lt p n):∃ m p',run lt (kas_tail3 n N p)=(m,p')∧1≤m∧m≤N∧B p' N m∧Srt lt p' m:=by
  unfold kas_tail3; rw [zdG]
  have hs:n≤p.size:=by rw [b.size]; exact hn
  obtain ⟨a1,a2,a3,a4,_⟩:=asc o (p:=kas_rev p 0 n) (N:=N) (N-n) n (by omega) h1 (b.mirror (Nat.le_refl _) hn) (fun i j hij hj=>by
    rw [za0 hs,za0 hs,if_pos ⟨by omega,by omega⟩,if_pos ⟨by omega,hj⟩]
    exact fa _ _ (by omega) (by omega))
  exact ⟨_,_,rfl,by omega,a2,a3,a4⟩
theorem zj3 {p:Array Nat} {N n:Nat} (hn:n<N) (d:De lt p N (n+1) 0):∃ m p',run lt (kas_descPart n N p)=(m,p')∧1≤m∧m≤N∧B p' N m∧Srt lt p' m:=by
  unfold kas_descPart; rw [zdG]
  obtain ⟨p',n',q',e,d'⟩:=zsC o (N:=N) (N-(n+1)) p (n+1) 0 (by omega) d
  rw [e]; have hq:=d'.q1
  by_cases h:q' > 0
  · show ∃ m p'',run lt (if q' > 0 then kas_tail3 n' N (kas_rev p' (n'-(q'+1)) n') else kas_tail3 n' N p')=(m,p'')∧_
    rw [if_pos h]
    exact zq9 o (d'.b.mirror (Nat.le_refl _) d'.le) d'.le (by omega) (De.turned o d')
  · show ∃ m p'',run lt (if q' > 0 then kas_tail3 n' N (kas_rev p' (n'-(q'+1)) n') else kas_tail3 n' N p')=(m,p'')∧_
    rw [if_neg h]
    have e0:q'=0:=by omega
    subst e0
    exact zq9 o d'.b d'.le (by omega) (De.fal0 o d')
theorem count {p:Array Nat} {N:Nat} (hN:1≤N) (b:B p N 1):∃ m p',run lt (kas_count N p)=(m,p')∧1≤m∧m≤N∧B p' N m∧Srt lt p' m:=by
  unfold kas_count; rw [zdG]
  obtain ⟨a1,a2,a3,a4,a5⟩:=asc o (p:=p) (N:=N) (N-1) 1 (by omega) (Nat.le_refl _) b (fun i j hij hj=>by omega)
  generalize run lt (kas_asc p (N-1) 1)=n at a1 a2 a3 a4 a5 ⊢
  by_cases e:n=N
  · rw [if_pos (by rw [e]; exact beq_self_eq_true _)]
    exact ⟨n,p,rfl,a1,a2,a3,a4⟩
  · have hn:n<N:=by omega
    have hs:n≤p.size:=by rw [a3.size]; exact a2
    rw [if_neg (by simpa using e)]
    by_cases h1:n > 1
    · rw [if_pos h1]
      show ∃ m p',run lt (if lt (g p 0) (g p (n-1))=true then KasT.ret (n,p) else kas_descPart n N (kas_rev p 0 n))=(m,p')∧_
      cases c:lt (g p 0) (g p (n-1)) with
      | true=>rw [if_pos rfl]; exact ⟨n,p,rfl,a1,a2,a3,a4⟩
      | false =>
        rw [if_neg (by decide)]
        refine zj3 o hn (De.next o (a3.mirror (Nat.le_refl _) a2) hn a1 (fun i j hij hj=>?_) fun i hi=>?_)
        · rw [za0 hs,za0 hs,if_pos ⟨by omega,hj⟩,if_pos ⟨by omega,by omega⟩]
          exact a4 _ _ (by omega) (by omega)
        · rw [za0 hs,za0 hs,if_neg (show ¬ (0≤n∧n<n) by omega),if_pos ⟨by omega,hi⟩]
          refine zlO o (a5 hn) ?_; generalize hk:0+n-1-i=k
          have hkn:k<n:=by omega
          by_cases k0:k=0
          · subst k0; exact c
          · exact o.tr _ _ _ c (L.le o (a4 0 k (by omega) hkn))
    · rw [if_neg h1]
      have e1:n=1:=by omega
      subst e1
      exact zj3 o hn (De.next o a3 hn (Nat.le_refl _) (fun i j h1 h2=>by omega) fun i hi=>by
        have e0:i=0:=by omega
        subst e0; exact a5 hn)
theorem zm8 {p:Array Nat} {k:Nat} (s:Srt lt p k):∀ (f l r:Nat),r-l≤f→l≤r→r≤k→(∀ i,i<l→lt (g p k) (g p i)=false)→(∀ i,r≤i→i<k→lt (g p k) (g p i)=true) →
    run lt (kas_place p k f l r)≤k∧(∀ i,i<run lt (kas_place p k f l r)→lt (g p k) (g p i)=false)∧∀ i,run lt (kas_place p k f l r)≤i→i<k→lt (g p k) (g p i)=true
  | 0,l,r,h,h1,h2,a,c=>⟨show l≤k by omega,a,fun i (hi:l≤i)=>c i (by omega)⟩
  | f+1,l,r,h,h1,h2,a,c=>by
    have e:run lt (kas_place p k (f+1) l r)=run lt (if l ≥ r then KasT.ret l else KasT.ask (p.getD k 0) (p.getD ((l+r) / 2) 0) fun c=>if c=true then kas_place p k f l ((l+r) / 2) else kas_place p k f ((l+r) / 2+1) r):=rfl
    rw [e]
    by_cases hlr:l ≥ r
    · rw [if_pos hlr]
      exact ⟨show l≤k by omega,a,fun i (hi:l≤i)=>c i (by omega)⟩
    · rw [if_neg hlr]
      show run lt (if lt (g p k) (g p ((l+r) / 2))=true then kas_place p k f l ((l+r) / 2) else kas_place p k f ((l+r) / 2+1) r)≤k∧(∀ i,i<run lt (if lt (g p k) (g p ((l+r) / 2))=true then kas_place p k f l ((l+r) / 2) else kas_place p k f ((l+r) / 2+1) r)→_)∧∀ i,run lt (if lt (g p k) (g p ((l+r) / 2))=true then kas_place p k f l ((l+r) / 2) else kas_place p k f ((l+r) / 2+1) r)≤i→_
      cases q:lt (g p k) (g p ((l+r) / 2)) with
      | true =>
        rw [if_pos rfl]
        refine zm8 s f l _ (by omega) (by omega) (by omega) a fun i hi hk=>?_
        by_cases ei:i=(l+r) / 2
        · subst ei; exact q
        · exact zlO o q (L.le o (s _ i (by omega) hk))
      | false =>
        rw [if_neg (by decide)]
        refine zm8 s f _ r (by omega) (by omega) h2 (fun i hi=>?_) c
        by_cases ei:i=(l+r) / 2
        · subst ei; exact q
        · exact o.tr _ _ _ (L.le o (s i ((l+r) / 2) (by omega) (by omega))) q
theorem ins {p:Array Nat} {N k l:Nat} (b:B p N k) (hk:k<N) (s:Srt lt p k) (hl:l≤k) (a:∀ i,i<l→lt (g p k) (g p i)=false) (c:∀ i,l≤i→i<k→lt (g p k) (g p i)=true):B (bubble p k (k-l)) N (k+1)∧Srt lt (bubble p k (k-l)) (k+1):=by
  have hs:k<p.size:=by rw [b.size]; exact hk
  have gk:g p k=k:=b.high k (Nat.le_refl _) hk
  have e:∀ i,g (bubble p k (k-l)) i=if i=l then g p k else if l<i∧i≤k then g p (i-1) else g p i:=fun i=>by
    rw [zn2 hs (by omega),show k-(k-l)=l by omega]
  refine ⟨⟨by rw [bubble_size,b.size],fun i hi=>?_,fun i h1 h2=>?_⟩,fun i j hij hj=>?_⟩
  · rw [e]
    split
    · omega
    · split
      · have:=b.low (i-1) (by omega); omega
      · have:=b.low i (by omega); omega
  · rw [e,if_neg (by omega),if_neg (by omega)]
    exact b.high i (by omega) h2
  · rw [e,e]
    have lo:∀ x,x<k→g p x<g p k:=fun x hx=>by rw [gk]; exact b.low x hx
    by_cases h1:i=l
    · subst h1
      rw [if_pos rfl,if_neg (by omega),if_pos ⟨hij,by omega⟩]
      exact .inl (c _ (by omega) (by omega))
    · rw [if_neg h1]
      by_cases h2:j=l
      · subst h2
        rw [if_pos rfl,if_neg (by omega)]
        exact .inr ⟨a i hij,lo i (by omega)⟩
      · rw [if_neg h2]
        split <;> split <;> exact s _ _ (by omega) (by omega)
theorem bin {N:Nat}:∀ (f:Nat) (p:Array Nat) (k:Nat),k+f=N→B p N k→Srt lt p k→B (run lt (kas_bin f p k)) N N∧Srt lt (run lt (kas_bin f p k)) N
  | 0,p,k,h,b,s=>by
    have e:k=N:=by omega
    subst e; exact ⟨b,s⟩
  | f+1,p,k,h,b,s=>by
    have e:run lt (kas_bin (f+1) p k)=run lt ((kas_place p k k 0 k).bind fun l=>kas_bin f (bubble p k (k-l)) (k+1)):=rfl
    rw [e,zdG]
    obtain ⟨a1,a2,a3⟩:=zm8 o s k 0 k (by omega) (Nat.zero_le _) (Nat.le_refl _) (fun i hi=>absurd hi (Nat.not_lt_zero _)) fun i h1 h2=>absurd h1 (by omega)
    obtain ⟨b',s'⟩:=ins o b (by omega) s a1 a2 a3
    exact bin f _ (k+1) (by omega) b' s'
theorem sort {N:Nat} (hN:1≤N):B (run lt (kas_sort N)) N N∧Srt lt (run lt (kas_sort N)) N:=by
  unfold kas_sort; rw [zdG]
  have g0:∀ k,k<N→g (List.toArray (List.range N)) k=k:=fun k hk=>by
    rw [g_eq]; simp [hk]
  obtain ⟨m,p',e,h1,h2,b,s⟩:=count o hN (p:=List.toArray (List.range N)) ⟨by simp,fun k hk=>by rw [g0 k (by omega)]; exact hk,fun k h1 h2=>g0 k h2⟩
  rw [e]
  show B (run lt (if m<N then kas_bin (N-max m 1) p' (max m 1) else KasT.ret p')) N N∧Srt lt (run lt (if m<N then kas_bin (N-max m 1) p' (max m 1) else KasT.ret p')) N
  by_cases hm:m<N
  · rw [if_pos hm,Nat.max_eq_left h1]
    exact bin o _ _ _ (by omega) b s
  · rw [if_neg hm]
    have e:m=N:=by omega
    subst e; exact ⟨b,s⟩
end
def Ok (lt:Nat→Nat→Bool) (N:Nat) {α:Type}:KasT α→Prop
  | .ret _=>True
  | .ask i j k=>i<N∧j<N∧Ok lt N (k (lt i j))
theorem Ok.bind {lt:Nat→Nat→Bool} {N:Nat} {α β:Type} {f:α→KasT β}:∀ {t:KasT α},Ok lt N t→Ok lt N (f (run lt t))→Ok lt N (t.bind f)
  | .ret _,_,h=>h
  | .ask i j k,⟨h1,h2,h3⟩,h=>⟨h1,h2,Ok.bind (t:=k (lt i j)) h3 h⟩
theorem B.lt {p:Array Nat} {N n k:Nat} (b:B p N n) (hn:n≤N) (hk:k<N):g p k<N:=by
  by_cases h:k<n
  · have:=b.low k h; omega
  · rw [b.high k (by omega) hk]; exact hk
section
variable {lt:Nat→Nat→Bool} (o:Ord lt)
include o
theorem zlH {p:Array Nat} {N:Nat} {n0:Nat} (b:B p N n0) (h0:n0≤N):∀ (f n:Nat),n+f=N→Ok lt N (kas_asc p f n)
  | 0,_,_=>trivial
  | f+1,n,h=>⟨b.lt h0 (k:=n) (by omega),b.lt h0 (k:=n-1) (by omega),by
    show Ok lt N (if lt (g p n) (g p (n-1))=true then KasT.ret n else kas_asc p f (n+1))
    split
    · trivial
    · exact zlH b h0 f (n+1) (by omega)⟩
theorem zgX {N:Nat}:∀ (f:Nat) (p:Array Nat) (n q:Nat),n+f=N→De lt p N n q→Ok lt N (kas_desc f p n q)
  | 0,_,_,_,_,_=>trivial
  | f+1,p,n,q,h,d=>⟨d.b.lt d.le (k:=n) (by omega),d.b.lt d.le (k:=n-1) (by omega),by
    show Ok lt N (if lt (g p n) (g p (n-1))=true then (if q > 0 then kas_desc f (kas_rev p (n-(q+1)) n) (n+1) 0 else kas_desc f p (n+1) 0)
      else KasT.ask (p.getD (n-1) 0) (p.getD n 0) fun c=>if c=true then .ret (p,n,q) else kas_desc f p (n+1) (q+1))
    have hn:n<N:=by omega
    have hq:=d.q1
    cases c:lt (g p n) (g p (n-1)) with
    | true =>
      rw [if_pos rfl]
      by_cases hq0:q > 0
      · rw [if_pos hq0]
        refine zgX f _ (n+1) 0 (by omega) (De.next o (d.b.mirror (Nat.le_refl _) d.le) hn (by omega) (De.turned o d) fun i hi=>?_)
        have hs:n≤p.size:=by rw [d.b.size]; exact d.le
        rw [za0 hs,za0 hs,if_neg (show ¬ (n-(q+1)≤n∧n<n) by omega)]
        split
        · exact De.st o d c _ (by omega)
        · exact De.st o d c _ hi
      · rw [if_neg hq0]
        have e0:q=0:=by omega
        subst e0
        exact zgX f _ (n+1) 0 (by omega) (De.next o d.b hn (by omega) (De.fal0 o d) (De.st o d c))
    | false =>
      rw [if_neg (by decide)]
      refine ⟨d.b.lt d.le (k:=n-1) (by omega),d.b.lt d.le (k:=n) (by omega),?_⟩
      show Ok lt N (if lt (g p (n-1)) (g p n)=true then KasT.ret (p,n,q) else kas_desc f p (n+1) (q+1))
      cases c2:lt (g p (n-1)) (g p n) with
      | true=>rw [if_pos rfl]; trivial
      | false =>
        rw [if_neg (by decide)]
        have hb:n+1-(q+1+1)=n-(q+1):=by omega
        have gn:g p n=n:=d.b.high n (Nat.le_refl _) hn
        refine zgX f _ (n+1) (q+1) (by omega) ⟨d.b.succ hn,hn,by omega,fun i j h1 h2 h3=>?_,fun i j h1 h2 h3=>?_,fun i j h1 h2=>?_⟩
        · rw [hb] at h1
          by_cases ej:j=n
          · subst ej
            have lo:g p i<g p j:=by rw [gn]; exact d.b.low i h2
            by_cases ei:i=j-1
            · subst ei; exact ⟨.inr ⟨c,lo⟩,c2⟩
            · obtain ⟨u1,u2⟩:=d.blk i (j-1) h1 (by omega) (by omega)
              exact ⟨.inr ⟨o.tr _ _ _ (L.le o u1) c,lo⟩,o.tr _ _ _ c2 u2⟩
          · exact d.blk i j h1 h2 (by omega)
        · rw [hb] at h1 h2
          by_cases ej:j=n
          · subst ej
            exact zp6 o c2 (d.str i (j-1) h1 (by omega) (by omega))
          · exact d.str i j h1 h2 (by omega)
        · rw [hb] at h2
          exact d.old i j h1 h2⟩
theorem zjJ {p:Array Nat} {N n:Nat} (b:B p N n) (hn:n≤N):Ok lt N (kas_tail3 n N p):=by
  unfold kas_tail3
  exact Ok.bind (zlH o (b.mirror (Nat.le_refl _) hn) hn _ n (by omega)) trivial
theorem zfC {p:Array Nat} {N n:Nat} (hn:n<N) (d:De lt p N (n+1) 0):Ok lt N (kas_descPart n N p):=by
  unfold kas_descPart
  refine Ok.bind (zgX o _ p (n+1) 0 (by omega) d) ?_
  obtain ⟨p',n',q',e,d'⟩:=zsC o (N:=N) (N-(n+1)) p (n+1) 0 (by omega) d
  rw [e]
  show Ok lt N (if q' > 0 then kas_tail3 n' N (kas_rev p' (n'-(q'+1)) n') else kas_tail3 n' N p')
  split
  · exact zjJ o (d'.b.mirror (Nat.le_refl _) d'.le) d'.le
  · exact zjJ o d'.b d'.le
theorem znl {p:Array Nat} {N:Nat} (hN:1≤N) (b:B p N 1):Ok lt N (kas_count N p):=by
  unfold kas_count
  refine Ok.bind (zlH o b hN _ 1 (by omega)) ?_
  obtain ⟨a1,a2,a3,a4,a5⟩:=asc o (p:=p) (N:=N) (N-1) 1 (by omega) (Nat.le_refl _) b (fun i j hij hj=>by omega)
  generalize run lt (kas_asc p (N-1) 1)=n at a1 a2 a3 a4 a5 ⊢
  by_cases e:n=N
  · rw [if_pos (by rw [e]; exact beq_self_eq_true _)]
    trivial
  · have hn:n<N:=by omega
    have hs:n≤p.size:=by rw [a3.size]; exact a2
    rw [if_neg (by simpa using e)]
    by_cases h1:n > 1
    · rw [if_pos h1]
      refine ⟨a3.lt a2 (k:=0) (by omega),a3.lt a2 (k:=n-1) (by omega),?_⟩
      show Ok lt N (if lt (g p 0) (g p (n-1))=true then KasT.ret (n,p) else kas_descPart n N (kas_rev p 0 n))
      cases c:lt (g p 0) (g p (n-1)) with
      | true=>rw [if_pos rfl]; trivial
      | false =>
        rw [if_neg (by decide)]
        refine zfC o hn (De.next o (a3.mirror (Nat.le_refl _) a2) hn a1 (fun i j hij hj=>?_) fun i hi=>?_)
        · rw [za0 hs,za0 hs,if_pos ⟨by omega,hj⟩,if_pos ⟨by omega,by omega⟩]
          exact a4 _ _ (by omega) (by omega)
        · rw [za0 hs,za0 hs,if_neg (show ¬ (0≤n∧n<n) by omega),if_pos ⟨by omega,hi⟩]
          refine zlO o (a5 hn) ?_; generalize hk:0+n-1-i=k
          have hkn:k<n:=by omega
          by_cases k0:k=0
          · subst k0; exact c
          · exact o.tr _ _ _ c (L.le o (a4 0 k (by omega) hkn))
    · rw [if_neg h1]
      have e1:n=1:=by omega
      subst e1
      exact zfC o hn (De.next o a3 hn (Nat.le_refl _) (fun i j h1 h2=>by omega) fun i hi=>by
        have e0:i=0:=by omega
        subst e0; exact a5 hn)
theorem zgQ {p:Array Nat} {N k:Nat} (b:B p N k) (hk:k<N):∀ (f l r:Nat),r≤k→Ok lt N (kas_place p k f l r)
  | 0,_,_,_=>trivial
  | f+1,l,r,h=>by
    show Ok lt N (if l ≥ r then KasT.ret l else KasT.ask (p.getD k 0) (p.getD ((l+r) / 2) 0) fun c=>if c=true then kas_place p k f l ((l+r) / 2) else kas_place p k f ((l+r) / 2+1) r)
    by_cases hlr:l ≥ r
    · rw [if_pos hlr]; trivial
    · rw [if_neg hlr]
      refine ⟨b.lt (by omega) (k:=k) hk,b.lt (by omega) (k:=(l+r) / 2) (by omega),?_⟩
      show Ok lt N (if lt (g p k) (g p ((l+r) / 2))=true then kas_place p k f l ((l+r) / 2) else kas_place p k f ((l+r) / 2+1) r)
      split
      · exact zgQ b hk f _ _ (by omega)
      · exact zgQ b hk f _ _ h
theorem zox {N:Nat}:∀ (f:Nat) (p:Array Nat) (k:Nat),k+f=N→B p N k→Srt lt p k→Ok lt N (kas_bin f p k)
  | 0,_,_,_,_,_=>trivial
  | f+1,p,k,h,b,s=>by
    refine Ok.bind (zgQ o b (by omega) k 0 k (Nat.le_refl _)) ?_
    obtain ⟨a1,a2,a3⟩:=zm8 o s k 0 k (by omega) (Nat.zero_le _) (Nat.le_refl _) (fun i hi=>absurd hi (Nat.not_lt_zero _)) fun i h1 h2=>absurd h1 (by omega)
    obtain ⟨b',s'⟩:=ins o b (by omega) s a1 a2 a3
    exact zox f _ (k+1) (by omega) b' s'
theorem ok_sort {N:Nat} (hN:1≤N):Ok lt N (kas_sort N):=by
  unfold kas_sort
  have g0:∀ k,k<N→g (List.toArray (List.range N)) k=k:=fun k hk=>by
    rw [g_eq]; simp [hk]
  have b0:B (List.toArray (List.range N)) N 1:=⟨by simp,fun k hk=>by rw [g0 k (by omega)]; exact hk,fun k h1 h2=>g0 k h2⟩
  refine Ok.bind (znl o hN b0) ?_; obtain ⟨m,p',e,h1,h2,b,s⟩:=count o hN b0; rw [e]
  show Ok lt N (if m<N then kas_bin (N-max m 1) p' (max m 1) else KasT.ret p')
  split
  · rw [Nat.max_eq_left h1]
    exact zox o _ _ _ (by omega) b s
  · trivial
end
theorem wp_of {lt:Nat→Nat→Bool} {N:Nat} {J:Shared→Prop} {cmp:Nat→Nat→(Bool→Shared→Prop)→Shared→Prop} (hc:∀ i j C s,i<N→j<N→J s→(∀ s',J s'→C (lt i j) s')→cmp i j C s) {α:Type} {Q:α→Shared→Prop} :
    ∀ (t:KasT α) (s:Shared),Ok lt N t→J s→(∀ s',J s'→Q (run lt t) s')→t.kasWp cmp Q s
  | .ret _,s,_,hj,h=>h s hj
  | .ask i j k,s,⟨h1,h2,h3⟩,hj,h=>hc i j _ s h1 h2 hj fun s' hj'=>wp_of hc (k (lt i j)) s' h3 hj' h
end So
namespace So
open PySem PySem.W PyProof.Rows
section
variable {prog:Program} {w:World} {A:Around} {E:Value→Shared→Prop} {s:Shared} {a kS:Addr} {vs ks:List Value} {κ:SortKind}
def Fin3 (a kS:Addr) (ks:List Value) (e e1:Nat) (out:List Value) (C:Shared→Prop) (s:Shared):Prop :=
  s.heap.get? kS=some (seqObj "list" ks.toArray e)∧s.heap.get? a=some (seqObj "list" #[] e1) ∧
    ∀ h' c c2,(∀ b o,b≠kS→b≠a→s.heap.get? b=some o→h'.get? b=some o)→h'.objs.size=s.heap.objs.size→h'.get? kS=some (seqObj "list" #[] c)→h'.get? a=some (seqObj "list" out.toArray c2)→C { s with heap:=h' }
theorem Fin3.mono {e e1:Nat} {out:List Value} {C C':Shared→Prop} (h:Fin3 a kS ks e e1 out C s) (hc:∀ s,C s→C' s):Fin3 a kS ks e e1 out C' s :=
  ⟨h.1,h.2.1,fun h' c c2 k z x y=>hc _ (h.2.2 h' c c2 k z x y)⟩
theorem zjy {st:SortSt} {e e1:Nat} {out:List Value} {P:PySem.Fin→Shared→Prop} (ne:kS≠a) (hout:(arrOf st).map (·.2)=List.toArray out) (hz:out.length<64) (hkz:ks.length<64) (hf:failedOf st=none)
    (h:Fin3 a kS ks e e1 out (fun s'=>P (.done (.ret .none)) s') s):wpAny (model prog w) A (ksk_tail a false e1 (.ref kS) st) P E s:=by
  obtain ⟨hk,ha,k⟩:=h
  have s1:=Heap.SameBut.update s.heap kS (Obj.mapSeq fun _=>(#[]:Array Value))
  obtain ⟨ck,hck⟩:∃ ck,(s.heap.update kS (Obj.mapSeq fun _=>(#[]:Array Value))).get? kS=some (seqObj "list" #[] ck):=⟨_,get?_update_seq hk fun _=>#[]⟩
  have ha1:(s.heap.update kS (Obj.mapSeq fun _=>(#[]:Array Value))).get? a=some (seqObj "list" #[] e1):=(s1.2 a (Ne.symm ne)).trans ha
  have s2:=Heap.SameBut.update (s.heap.update kS (Obj.mapSeq fun _=>(#[]:Array Value))) a (Obj.mapSeq fun _=>List.toArray out)
  obtain ⟨c2,hc2⟩:∃ c2,((s.heap.update kS (Obj.mapSeq fun _=>(#[]:Array Value))).update a (Obj.mapSeq fun _=>List.toArray out)).get? a=some (seqObj "list" (List.toArray out) c2):=⟨_,get?_update_seq ha1 fun _=>List.toArray out⟩
  unfold ksk_tail
  try dsimp only
  rw [hout]
  refine wpAny_bind (listUpdate_at hk rfl ?_ (by rw [List.size_toArray,sizeLine_eq]; omega) (Nat.zero_le _))
  refine wpAny_bind (wpAny_letGo ?_); refine wpAny_bind (seqEpoch_at ha1 rfl ?_)
  refine wpAny_bind (listUpdate_at ha1 rfl ?_ (Nat.zero_le _) (by simp only [Bool.false_eq_true,if_false]; rw [List.size_toArray,sizeLine_eq]; omega))
  rw [hf]; simp only [bne_self_eq_false,Bool.false_eq_true,if_false]
  refine wpAny_pure (k _ ck c2 (fun b o h1 h2 q=>(s2.2 b h2).trans ((s1.2 b h1).trans q)) (by rw [Heap.size_update,Heap.size_update]) ((s2.2 kS ne).trans hck) hc2)
theorem srt_end {e e1:Nat} {P:PySem.Fin→Shared→Prop} (ne:kS≠a) (hl:ks.length=vs.length) (h2:2≤vs.length) (h64:vs.length<64)
    (h:wpAny (model prog w) A (keyKind' (List.toArray ks)) (fun κ s'=>(kas_sort vs.length).kasWp (kas_ask prog w A κ ks) (fun p s''=>Fin3 a kS ks e e1 (p.toList.map fun i=>vs.getD i Value.none) (fun s3=>P (.done (.ret .none)) s3) s'') s') (fun _ _=>False) s) :
    wpAny (model prog w) A (ksk_end a false vs.toArray e1 (.ref kS) (List.toArray ks)) P E s:=by
  have hn2:¬ vs.toArray.size<2:=by rw [List.size_toArray]; omega
  unfold ksk_end
  try dsimp only
  simp only [Bool.false_eq_true,if_false]; rw [if_neg hn2,if_neg hn2]
  refine wpAny_bind (wpAny_mono h (fun κ s0 hk=>?_) fun _ _ x=>x.elim)
  refine wpAny_bind (wpAny_mono (kat_run (Q:=fun st' s'=>∃ p:Array Nat,p.size=vs.length∧arrOf st'=p.map (kas_item ((List.toArray ks).zip (List.toArray vs)))∧failedOf st'=none ∧
      Fin3 a kS ks e e1 (p.toList.map fun i=>vs.getD i Value.none) (fun s3=>P (.done (.ret .none)) s3) s')
    hl h2 h64 (fun p' st' s' a1 a2 a3 a4=>⟨p',a1,a2,a3,a4⟩) hk) ?_ fun _ _ x=>x)
  rintro ⟨⟨⟩,st'⟩ s' ⟨p,hp,har,hf,fin⟩
  try dsimp only
  exact zjy ne (kat_snds hl har) (by rw [List.length_map,Array.length_toList,hp]; exact h64) (by omega) hf fin
theorem srt_end1 {e e1:Nat} {P:PySem.Fin→Shared→Prop} (ne:kS≠a) (hl:ks.length=vs.length) (h2:vs.length<2)
    (h:Fin3 a kS ks e e1 vs (fun s3=>P (.done (.ret .none)) s3) s):wpAny (model prog w) A (ksk_end a false vs.toArray e1 (.ref kS) (List.toArray ks)) P E s:=by
  have hn2:vs.toArray.size<2:=by rw [List.size_toArray]; omega
  unfold ksk_end
  try dsimp only
  simp only [Bool.false_eq_true,if_false]; rw [if_pos hn2,if_pos hn2]; refine wpAny_bind (wpAny_pure ?_); refine wpAny_bind (m:=StateT.run (pure ()) _) (wpAny_pure ?_)
  try dsimp only
  refine zjy ne ?_ (by omega) (by omega) rfl h
  apply Array.toList_inj.mp
  show (((List.toArray ks).zip (List.toArray vs)).map (·.2)).toList=_
  rw [Array.toList_map,ksk_zip]
  clear h hn2
  cases vs with
  | nil =>
    cases ks with
    | nil=>rfl
    | cons k r=>simp at hl
  | cons v r =>
    cases r with
    | cons v2 r=>exact absurd h2 (by simp)
    | nil =>
      cases ks with
      | nil=>simp at hl
      | cons k r =>
        cases r with
        | nil=>rfl
        | cons k2 r=>simp at hl
theorem zjz {f:Value} {n:Nat} {body:Value→PUnit→Sem (ForInStep PUnit)} (J:List Value→Nat→Shared→Prop) (hn:n<64) (all:List Value) (hall:all.length=n)
    (hb:∀ x ks e (s:Shared) (C:Value→Nat→Shared→Prop),List.length ks<64→wpAny (model prog w) A (call f [x]) (fun k s'=>s'.heap.get? kS=some (seqObj "list" ks.toArray e)∧∀ c,(s'.heap.update kS (Obj.mapSeq (·.push k))).get? kS=some (seqObj "list" (List.toArray (ks ++ [k])) c)→C k c { s' with heap:=s'.heap.update kS (Obj.mapSeq (·.push k)) }) (fun _ _=>False) s →
      wpAny (model prog w) A (body x ⟨⟩) (fun r s'=>r=.yield ⟨⟩∧∃ k c,C k c s') E s)
    (step:∀ ks e s x,all[ks.length]?=some x→J ks e s→wpAny (model prog w) A (call f [x]) (fun k s'=>s'.heap.get? kS=some (seqObj "list" ks.toArray e)∧∀ c,(s'.heap.update kS (Obj.mapSeq (·.push k))).get? kS=some (seqObj "list" (List.toArray (ks ++ [k])) c)→J (ks ++ [k]) c { s' with heap:=s'.heap.update kS (Obj.mapSeq (·.push k)) }) (fun _ _=>False) s) :
    ∀ (r ks:List Value) (e:Nat) (s:Shared),all.drop ks.length=r→ks.length≤n→J ks e s →
      wpAny (model prog w) A (forIn r PUnit.unit body) (fun _ s'=>∃ ks e,ks.length=n∧J ks e s') E s
  | [],ks,e,s,hl,hle,h=>by
    rw [List.forIn_nil]
    have:all.length≤ks.length:=List.drop_eq_nil_iff.mp hl
    exact wpAny_pure ⟨ks,e,by omega,h⟩
  | x :: r,ks,e,s,hl,hle,h=>by
    rw [List.forIn_cons]
    have hx:all[ks.length]?=some x:=by
      have:=congrArg (fun l=>l[0]?) hl
      simpa using this
    have hlt:ks.length<n:=by rw [← hall]; exact (List.getElem?_eq_some_iff.mp hx).1
    refine wpAny_bind (wpAny_mono (hb x ks e s (fun k c s'=>J (ks ++ [k]) c s') (by omega) (step ks e s x hx h)) (fun q s' hq=>?_) fun _ _ x=>x)
    obtain ⟨rfl,k,c,h2⟩:=hq
    show wpAny (model prog w) A (forIn r PUnit.unit body) _ E s'
    refine zjz J hn all hall hb step r (ks ++ [k]) c s' ?_ (by rw [List.length_append,List.length_singleton]; omega) h2
    rw [List.length_append,List.length_singleton,← List.drop_drop,hl]; rfl
theorem srt_rest {f:Value} {e1:Nat} {P:PySem.Fin→Shared→Prop} (J:List Value→Nat→Shared→Prop) (h64:vs.length<64) (hJ:∀ ks e s,J ks e s→s.heap.get? kS=some (seqObj "list" ks.toArray e))
    (step:∀ ks e s x,vs[ks.length]?=some x→J ks e s→wpAny (model prog w) A (call f [x]) (fun k s'=>s'.heap.get? kS=some (seqObj "list" ks.toArray e)∧∀ c,(s'.heap.update kS (Obj.mapSeq (·.push k))).get? kS=some (seqObj "list" (List.toArray (ks ++ [k])) c)→J (ks ++ [k]) c { s' with heap:=s'.heap.update kS (Obj.mapSeq (·.push k)) }) (fun _ _=>False) s)
    (fin:∀ ks e s,ks.length=vs.length→J ks e s→wpAny (model prog w) A (ksk_end a false vs.toArray e1 (.ref kS) (List.toArray ks)) P E s) (h0:J [] 0 s) :
    wpAny (model prog w) A (ksk_rest a f false vs.toArray e1 (.ref kS)) P E s:=by
  unfold ksk_rest; refine wpAny_bind (wpAny_rule ?_)
  first
    | rw [List.forIn_toArray]
    | (rw [← Array.forIn_toList]; simp only [List.toList_toArray])
    | rw [← Array.forIn_toList]
  refine wpAny_bind (wpAny_mono (zjz (f:=f) (kS:=kS) J h64 vs rfl (fun x ks e s' C hz hx=>?_) step vs [] 0 s rfl (Nat.zero_le _) h0) (fun _ s' hd=>?_) fun _ _ x=>x)
  · refine wpAny_bind (wpAny_attempt (wpAny_mono hx (fun k s'' hk=>?_) fun _ _ hF=>hF.elim))
    obtain ⟨nk,c⟩:=hk
    have ea:(List.toArray ks).push k=List.toArray (ks ++ [k]):=by simp
    obtain ⟨c2,hc2⟩:∃ c2,(s''.heap.update kS (Obj.mapSeq (·.push k))).get? kS=some (seqObj "list" (List.toArray (ks ++ [k])) c2):=⟨_,by rw [← ea]; exact get?_update_seq nk (·.push k)⟩
    try dsimp only
    refine wpAny_bind (listUpdate_at nk rfl ?_ (by rw [List.size_toArray,sizeLine_eq]; omega) (Nat.le_trans (Nat.le_of_eq (Array.size_push ..)) (by rw [List.size_toArray,sizeLine_eq]; omega)))
    exact wpAny_pure ⟨rfl,k,c2,c c2 hc2⟩
  · obtain ⟨ks,e,hl,fj⟩:=hd
    try dsimp only
    refine wpAny_bind (listItems_at (hJ _ _ _ fj) rfl ?_); exact fin ks e s' hl fj
theorem srt_tree {f:Value} {n:Nat} {P:PySem.Fin→Shared→Prop} (ho:s.heap.get? a=some (seqObj "list" vs.toArray n)) (h64:vs.length<64)
    (h:∀ e1 h',(∀ b o,b≠a→s.heap.get? b=some o→h'.get? b=some o)→h'.objs.size=s.heap.objs.size+2→h'.get? (s.heap.objs.size+1)=some (seqObj "list" #[] 0)→h'.get? a=some (seqObj "list" #[] e1) →
      wpAny (model prog w) A (ksk_rest a f false vs.toArray e1 (.ref (s.heap.objs.size+1))) P E { s with heap:=h' }) :
    wpAny (model prog w) A (ksk_tree a f false) P E s:=by
  have ha:a<s.heap.objs.size:=Heap.lt_size ho
  have s1:=Heap.SameBut.update s.heap a (Obj.mapSeq fun _=>(#[]:Array Value))
  obtain ⟨e1,ho1⟩:∃ e1,(s.heap.update a (Obj.mapSeq fun _=>(#[]:Array Value))).get? a=some (seqObj "list" #[] e1):=⟨_,get?_update_seq ho fun _=>#[]⟩
  have hkS:((s.heap.update a (Obj.mapSeq fun _=>(#[]:Array Value))).push (seqObj "tuple" vs.toArray 0)).objs.size=s.heap.objs.size+1:=by rw [size_push',Heap.size_update]
  unfold ksk_tree; refine wpAny_bind (listItems_at ho rfl ?_)
  refine wpAny_bind (listUpdate_at ho rfl ?_ (by rw [List.size_toArray,sizeLine_eq]; omega) (Nat.zero_le _))
  refine wpAny_bind (seqEpoch_at ho1 rfl ?_)
  refine wpAny_bind (wpAny_newTuple ?_ (by show vs.length≤_; rw [sizeLine_eq]; omega))
  refine wpAny_bind (wpAny_newList ?_ (Nat.zero_le _)); refine wpAny_holding ?_
  have h':=h e1 (((s.heap.update a (Obj.mapSeq fun _=>(#[]:Array Value))).push (seqObj "tuple" vs.toArray 0)).push (seqObj "list" #[] 0)) (fun b o hb q=>Heap.get?_push_of_some _ (Heap.get?_push_of_some _ ((s1.2 b hb).trans q)))
    (by rw [size_push',hkS]) (by rw [← hkS]; exact Heap.get?_push_size _ rfl) (Heap.get?_push_of_some _ (Heap.get?_push_of_some _ ho1))
  rw [← hkS] at h'; exact h'
end
end So
namespace L2
open PySem PySem.Spec PyProof.Rows PySem.W
section
variable {X:Cx} {pins:List (Addr × Obj)} {σ:St} {H:Hp} {s:Shared} {h':Heap}
theorem Inv.turnedOwn {t':Nat} {ch:List Addr} {p:Addr} {o:HO} (I:Inv X pins σ H s) (hch:∀ b ∈ ch,zjp X pins H b) (hp:p ∈ ch) (k:∀ b u,b ∉ ch→s.heap.get? b=some u→h'.get? b=some u) (new:zbT X.prog X.w (upd H p o) h' p o) :
    Inv X pins σ (upd H p o) { s with heap:=h',toks:=t' }:=by
  have fr:H p=none:=(hch p hp).1
  have sm:∀ b u,H b=some u→upd H p o b=some u:=fun b u e=>by rw [zaE (zbw e fr)]; exact e
  have nch:∀ b u,H b=some u→b ∉ ch:=fun b u e z=>by rw [(hch b z).1] at e; cases e
  refine I.step (g':=s.gens) (d':=s.drawn) (ch:=ch) (fun b hb=>?_) (fun b u _ _ hc e _=>k b u hc e) (fun b u _ _ hc e _=>⟨u.slots,k b u hc e⟩) (fun b u hc e n=>?_) (fun b u hc e=>⟨u,k b u hc e⟩) (fun b xs e=>sm _ _ e) (fun b ob u e=>sm _ _ e) (fun b ps e=>⟨#[],by rw [sm _ _ e]; simp⟩) (fun m hm=>?_) (fun b u e=>?_) I.bare
  · obtain ⟨_,y1,_,y3,y4,y5⟩:=hch b hb
    exact ⟨y3,y1,y4,y5⟩
  · rw [zaE (fun z=>hc (by rw [z]; exact hp))]
    exact n
  · obtain ⟨ob,es,ep,ho,r⟩:=hm
    exact ⟨ob,es,ep,k _ ob (fun z=>(hch _ z).2.1 rfl) ho,r⟩
  · by_cases z:b=p
    · subst z
      rw [zP] at e; cases e; exact new
    · rw [zaE z] at e
      refine (I.hok b u e).stay (fun c v hc q=>k c v ?_ q) (fun c q=>sm _ _ q) fun c xs q=>sm _ _ q
      rcases hc with rfl | hc
      · exact nch _ u e
      · exact nch c _ hc
theorem zlf {A':Around} {k:Nat} {f:Addr} {fd:FuncData} {ps:List Str} {sp:Sp} {Q:VK} {us:List Value} {vs:List V} (F:FnOk X.prog X.w X.K X.mg X.base CX0 k f fd ps sp) (hr:Room k A') (hA:Env0 X.prog X.w X.K X.mg X.base A' X.stack s H) (hb:zdi X.K fd ps [])
    (I:Inv X pins σ H s) (r:za5 vs us) (h:sp vs H Q E0):wpAny (model X.prog X.w) A' (call (.ref f) us) (EP X pins σ Q) (fun _ _=>False) s:=by
  have hl:(us ++ []).length=ps.length:=by rw [List.append_nil,← r.length]; exact F.len _ _ _ _ h
  have hb':=hb s us I.kIn hl; rw [List.append_nil] at hb'
  refine wpAny_call (codeAny_mono (F.run A' X.stack s H ⟨us,[]⟩ us vs Q E0 hr hA hb' r h) fun r s' hq=>?_)
  cases r with
  | error e=>exact hq.elim
  | ok fl =>
    cases fl with
    | ret u=>exact I.after hq
    | next=>exact False.elim hq
    | brk=>exact False.elim hq
    | cont=>exact False.elim hq
def zo5 (sp:Sp) (Fin:List V→Hp→Prop):List V→List V→Hp→Prop
  | [],ks,H=>Fin ks H
  | v :: r,ks,H=>sp [v] H (fun k H'=>zo5 sp Fin r (ks ++ [k]) H') E0
def zin (X:Cx) (ks:List V) (H:Hp) (lt:Nat→Nat→Bool):Prop:=∀ (A':Around) (pins:List (Addr × Obj)) (σ:St) (s:Shared) (kss:List Value),Inv X pins σ H s→za5 ks kss→2≤ks.length →
  wpAny (model X.prog X.w) A' (keyKind' kss.toArray) (fun κ s'=>Inv X pins σ H s'∧∀ (i j:Nat) (C:Bool→Shared→Prop) s'',i<ks.length→j<ks.length→Inv X pins σ H s''→(∀ s3,Inv X pins σ H s3→C (lt i j) s3)→kas_ask X.prog X.w A' κ kss i j C s'') (fun _ _=>False) s
def zcR (lt:Nat→Nat→Bool) (xs:List V):List V:=if xs.length<2 then xs else (So.run lt (kas_sort xs.length)).toList.map fun i=>xs.getD i .non
theorem zhX {xs:List V} {us:List Value} (r:za5 xs us) (i:Nat) (hi:i<xs.length):zby (xs.getD i .non) (us.getD i Value.none):=by
  have hl:=r.length; obtain ⟨u,hu,ru⟩:=r.get (List.getElem?_eq_getElem hi); simp only [List.getD,List.getElem?_eq_getElem hi,Option.getD_some]; rw [hu]; exact ru
theorem zgs {xs:List V} {us:List Value} (r:za5 xs us):∀ (l:List Nat),(∀ i,i ∈ l→i<xs.length)→za5 (l.map fun i=>xs.getD i .non) (l.map fun i=>us.getD i Value.none)
  | [],_=>.nil
  | i :: l,h=>.cons (zhX r i (h i (by simp))) (zgs r l fun j hj=>h j (by simp [hj]))
theorem ze0 {lt:Nat→Nat→Bool} (o:So.Ord lt) {n:Nat} (hn:1≤n):((So.run lt (kas_sort n)).toList.length=n)∧∀ i,i ∈ (So.run lt (kas_sort n)).toList→i<n:=by
  obtain ⟨b,_⟩:=So.sort o hn
  refine ⟨by rw [Array.length_toList]; exact b.size,fun i hi=>?_⟩
  obtain ⟨k,hk,e⟩:=List.getElem_of_mem hi
  have hk':k<(So.run lt (kas_sort n)).size:=by simpa using hk
  have:=b.low k (by rw [b.size] at hk'; exact hk')
  rw [So.g_eq] at this; simp only [Array.getElem_toList] at e; rw [Array.getElem?_eq_getElem hk',e] at this; exact this
theorem zia {k:Nat} {f:Addr} {fd:FuncData} {ps:List Str} {sp:Sp} {l:Addr} {xs:List V} {Q:VK} {E':Value→Shared→Prop} (F:FnOk X.prog X.w X.K X.mg X.base CX0 k f fd ps sp) (hr:Room (k+2) X.A) (hb:zdi X.K fd ps []) (I:Inv X pins σ H s) (hl:SqL X.K H l xs) (h64:xs.length<64)
    (h:zo5 sp (fun ks H'=>∃ lt,So.Ord lt∧zin X ks H' lt∧∀ p,H' p=none→Q (.ref p) (upd H' p (.lst (zcR lt xs)))) xs [] H) :
    wpAny (model X.prog X.w) X.A (call (.builtin "sorted") [.ref l] [(Str.ofString "key",.ref f)]) (EP X pins σ Q) E' s:=by
  obtain ⟨vs,rv,pl,hz⟩:=I.list hl; have hlen:=rv.length
  have h64':vs.length<64:=by omega
  refine call_function_entry_kw kind_sorted plain_sorted entry_sorted (ksk_s1 _ _) ?_
  unfold Builtin.«sorted»
  refine wpAny_bind (m:=checkCount "sorted" 1 1 _) (wpAny_pure ?_)
  refine wpAny_bind (collect_list (zm7 pl) ?_ (by rw [sizeLine_eq]; omega))
  refine wpAny_bind (wpAny_newList ?_ (by rw [sizeLine_eq]; omega))
  have hsz:((s.heap.push (seqObj "list" #[] 0)).update s.heap.objs.size (Obj.mapSeq (· ++ vs.toArray))).objs.size=s.heap.objs.size+1:=by
    rw [Heap.size_update,size_push']
  have hoL:(((s.heap.push (seqObj "list" #[] 0)).update s.heap.objs.size (Obj.mapSeq (· ++ vs.toArray))).push (seqObj "list" vs.toArray 0)).get? (s.heap.objs.size+1)=some (seqObj "list" vs.toArray 0):=by
    rw [← hsz]; exact Heap.get?_push_size _ rfl
  have hsz2:(((s.heap.push (seqObj "list" #[] 0)).update s.heap.objs.size (Obj.mapSeq (· ++ vs.toArray))).push (seqObj "list" vs.toArray 0)).objs.size=s.heap.objs.size+2:=by rw [size_push',hsz]
  have keep:∀ b o,s.heap.get? b=some o→(((s.heap.push (seqObj "list" #[] 0)).update s.heap.objs.size (Obj.mapSeq (· ++ vs.toArray))).push (seqObj "list" vs.toArray 0)).get? b=some o:=fun b o q=>by
    have hlt:b<s.heap.objs.size:=Heap.lt_size q
    rw [Heap.get?_push_ne _ _ _ (by rw [hsz]; exact Nat.ne_of_lt (Nat.lt_succ_of_lt hlt)),Heap.get?_update_ne _ _ _ _ (Nat.ne_of_lt hlt),Heap.get?_push_ne _ _ _ (Nat.ne_of_lt hlt)]
    exact q
  show wpAny _ _ _ _ _ { s with heap:=((s.heap.push (seqObj "list" #[] 0)).update s.heap.objs.size (Obj.mapSeq (· ++ vs.toArray))).push (seqObj "list" vs.toArray 0) }
  rw [hsz]; refine wpAny_bind (wpAny_holding (wpAny_call_entry_kw slot_list_sort ⟨_,hoL,rfl⟩ entry_list_sort ?body (ksk_l1 _ _)))
  case body =>
    show wpAny (model X.prog X.w) X.A.in1.in1 (Builtin.«list.sort» ⟨[.ref (s.heap.objs.size+1)],[(Str.ofString "key",.ref f)]⟩) _ _ _
    rw [ksk_t1]
    refine So.srt_tree (s:={ s with heap:=((s.heap.push (seqObj "list" #[] 0)).update s.heap.objs.size (Obj.mapSeq (· ++ vs.toArray))).push (seqObj "list" vs.toArray 0) }) hoL h64' fun e1 h' keep' size' hk0 ha0=>?_
    dsimp only at keep' size' hk0
    rw [hsz2] at size' hk0
    have hDk:s.heap.objs.size+2+1≠s.heap.objs.size+1:=by omega
    have hD0:s.heap.objs.size≤s.heap.objs.size+1:=by omega
    have hK0:s.heap.objs.size≤s.heap.objs.size+2+1:=by omega
    have fD:=I.fpOk (H':=H) hD0 (I.hok.fresh hD0); have fK:=I.fpOk (H':=H) hK0 (I.hok.fresh hK0); rw [hsz2]; generalize hkS:s.heap.objs.size+2+1=kS at hk0 hDk fK; generalize hDD:s.heap.objs.size+1=D at ha0 hDk fD
    have I0:Inv X pins σ H { s with heap:=h' }:=I.kept (t':=s.toks) fun b u q=>keep' b u (fun z=>absurd (Heap.lt_size q) (by rw [z]; exact Nat.not_lt.mpr (Nat.le_succ _))) (keep b u q)
    have pin2:∀ {H':Hp} {s':Shared} {ks:List Value} {e:Nat},Inv X pins σ H' s'→s'.heap.get? kS=some (seqObj "list" ks.toArray e)→s'.heap.get? D=some (seqObj "list" #[] e1)→H' kS=none→H' D=none→Inv X ((kS,seqObj "list" ks.toArray e) :: (D,seqObj "list" #[] e1) :: pins) σ H' s':=fun I' g1 g2 n1 n2 =>
      I'.pins_of fun p hp=>by
        rcases List.mem_cons.mp hp with rfl | hp
        · exact ⟨g1,n1,fK.2.1,fK.2.2.1,fun v z=>by cases z⟩
        · rcases List.mem_cons.mp hp with rfl | hp
          · exact ⟨g2,n2,fD.2.1,fD.2.2.1,fun v z=>by cases z⟩
          · exact I'.pin p (List.mem_append_right _ hp)
    have unpin:∀ {H':Hp} {s':Shared} {ks:List Value} {e:Nat},Inv X ((kS,seqObj "list" ks.toArray e) :: (D,seqObj "list" #[] e1) :: pins) σ H' s'→Inv X pins σ H' s'∧(s'.heap.get? kS=some (seqObj "list" ks.toArray e)∧H' kS=none)∧(s'.heap.get? D=some (seqObj "list" #[] e1)∧H' D=none):=fun I'=>by
      have p1:=I'.pin (kS,_) (List.mem_append_right _ (.head _)); have p2:=I'.pin (D,_) (List.mem_append_right _ (.tail _ (.head _)))
      exact ⟨I'.pins_of fun p hp=>I'.pin p (List.mem_append_right _ (.tail _ (.tail _ hp))),⟨p1.1,p1.2.1⟩,⟨p2.1,p2.2.1⟩⟩
    have fin3:∀ {H':Hp} {s':Shared} {ks:List Value} {e:Nat} {ys:List V} {out:List Value},Inv X ((kS,seqObj "list" ks.toArray e) :: (D,seqObj "list" #[] e1) :: pins) σ H' s'→za5 ys out→ys.length<64→(∀ p,H' p=none→Q (.ref p) (upd H' p (.lst ys)))→So.Fin3 D kS ks e e1 out (EP X pins σ Q (.ref D)) s':=fun {H' s' ks e ys out} I' r hy hq=>by
      obtain ⟨I2,⟨g1,n1⟩,⟨g2,n2⟩⟩:=unpin I'
      refine ⟨g1,g2,fun h2 c c2 kp sz q1 q2=>⟨.ref D,upd H' D (.lst ys),?_,rfl,hq D n2⟩⟩
      refine I2.turnedOwn (t':=s'.toks) (ch:=[kS,D]) (fun b hb=>?_) (by simp) (fun b u hb e=>kp b u (fun z=>hb (by simp [z])) (fun z=>hb (by simp [z])) e) ⟨by rw [sizeLine_eq]; omega,out,c2,r,q2⟩
      simp at hb
      rcases hb with rfl | rfl
      · exact ⟨n1,fK.2⟩
      · exact ⟨n2,fD.2⟩
    refine So.srt_rest (J:=fun ks e s'=>∃ (kv:List V) (H':Hp),za5 kv ks∧Inv X ((kS,seqObj "list" ks.toArray e) :: (D,seqObj "list" #[] e1) :: pins) σ H' s'∧zo5 sp (fun ks H'=>∃ lt,So.Ord lt∧zin X ks H' lt∧∀ p,H' p=none→Q (.ref p) (upd H' p (.lst (zcR lt xs)))) (xs.drop ks.length) kv H') h64' ?_ ?_ ?_ ?_
    · rintro ks e s' ⟨kv,H',_,I',_⟩
      exact (unpin I').2.1.1
    · rintro ks e s' x hx ⟨kv,H',rk,I',hk⟩
      have hlt:ks.length<xs.length:=by rw [hlen]; exact (List.getElem?_eq_some_iff.mp hx).1
      obtain ⟨x',hx',rx⟩:=rv.get (List.getElem?_eq_getElem hlt); rw [hx] at hx'; cases hx'; rw [List.drop_eq_getElem_cons hlt] at hk
      refine wpAny_mono (zlf F hr.in1.in1 I'.env0.in1.in1 hb I' (.cons rx .nil) hk) (fun kk s3 he=>?_) fun _ _ z=>z
      obtain ⟨v,H3,I3,r3,hk3⟩:=he
      obtain ⟨I4,⟨g1,n1⟩,⟨g2,n2⟩⟩:=unpin I3
      refine ⟨g1,fun c hc=>⟨kv ++ [v],H3,rk.append (.cons r3 .nil),?_,?_⟩⟩
      · have sb:=Heap.SameBut.update s3.heap kS (Obj.mapSeq (·.push kk))
        have I5:Inv X pins σ H3 { s3 with heap:=s3.heap.update kS (Obj.mapSeq (·.push kk)) }:=I4.turned (t':=s3.toks) (it:=kS) (fun b o hb e=>(sb.2 b hb).trans e) n1 fK.2.1 fK.2.2.2.1 fK.2.2.2.2.1 fK.2.2.2.2.2
        exact pin2 I5 hc ((sb.2 D (fun z=>hDk z.symm)).trans g2) n1 n2
      · rw [List.length_append,List.length_singleton]
        exact hk3
    · rintro ks e s' hkl ⟨kv,H',rk,I',hk⟩
      have hkl2:kv.length=xs.length:=by rw [rk.length,hkl,hlen]
      rw [show xs.drop ks.length=[] from List.drop_eq_nil_of_le (by omega)] at hk
      obtain ⟨lt,od,cmp,hq⟩:=hk
      by_cases hn:vs.length<2
      · refine So.srt_end1 hDk hkl hn ((fin3 (ys:=zcR lt xs) I' ?_ ?_ hq).mono fun s4 hq=>⟨_,rfl,wpAny_pure ⟨_,rfl,hq⟩⟩)
        · unfold zcR
          rw [if_pos (by omega)]
          exact rv
        · unfold zcR
          rw [if_pos (by omega)]
          exact h64
      · have hN:1≤vs.length:=by omega
        have hsm:=ze0 od hN
        refine So.srt_end (e:=e) hDk hkl (by omega) h64' (wpAny_mono (cmp X.A.in1.in1 _ σ s' ks I' rk (by omega)) (fun κ s3 hc=>?_) fun _ _ z=>z)
        obtain ⟨I3,hc⟩:=hc
        refine So.wp_of (lt:=lt) (N:=vs.length) (J:=fun s=>Inv X ((kS,seqObj "list" ks.toArray e) :: (D,seqObj "list" #[] e1) :: pins) σ H' s) (fun i j C s4 hi hj I4 hC=>hc i j C s4 (by omega) (by omega) I4 hC) (kas_sort vs.length) s3 (So.ok_sort od hN) I3 fun s4 I4=>?_
        refine (fin3 (ys:=zcR lt xs) I4 ?_ ?_ hq).mono fun s4 hq=>⟨_,rfl,wpAny_pure ⟨_,rfl,hq⟩⟩
        · unfold zcR
          rw [if_neg (by omega),hlen]
          exact zgs rv _ fun i hi=>by rw [hlen]; exact hsm.2 i hi
        · unfold zcR
          rw [if_neg (by omega),List.length_map,hlen,hsm.1]
          exact h64'
    · exact ⟨[],H,.nil,pin2 I0 hk0 ha0 fK.1 fD.1,h⟩
end
end L2
namespace L2
open PySem PySem.Spec PyProof.Rows PySem.W
section
variable {X:Cx}
def ltI (is:List Int):Nat→Nat→Bool:=fun i j=>decide (is.getD i 0<is.getD j 0)
theorem zt4 (is:List Int):So.Ord (ltI is):=⟨fun a b h=>by
    unfold ltI at h ⊢
    simp at h ⊢
    omega,fun a b c h1 h2=>by
    unfold ltI at h1 h2 ⊢
    simp at h1 h2 ⊢
    omega⟩
theorem zjT:∀ {is:List Int} {us:List Value},za5 (is.map V.int) us→IntsAre us is
  | [],_,.nil=>.nil
  | i :: is,_,.cons r t=>by
    obtain ⟨tk,rfl⟩:=r; exact .cons i tk (zjT t)
theorem zsI (is:List Int) {H:Hp}:zin X (is.map V.int) H (ltI is):=by
  intro A' pins σ s kss I r h2; rw [List.length_map] at h2; have hi:=zjT r
  have hl:kss.length=is.length:=by have:=r.length; simpa using this.symm
  rw [ksk_kind (keys:=kss.toArray) (kz:=is) (by simpa using hi) (by rw [List.size_toArray]; omega)]
  refine wpAny_pure ⟨I,fun i j C s'' h1 h2 I2 hC=>?_⟩
  rw [List.length_map] at h1 h2; unfold kas_ask
  have g:∀ i,i<is.length→∃ t,kss.getD i Value.none=.int (is.getD i 0) t:=fun i h=>by
    have:=zhX r i (by rw [List.length_map]; exact h)
    rw [show (is.map V.int).getD i .non=V.int (is.getD i 0) by simp [List.getD,List.getElem?_map,List.getElem?_eq_getElem h]] at this
    exact this
  obtain ⟨t1,e1⟩:=g i h1; obtain ⟨t2,e2⟩:=g j h2; rw [e1,e2]; exact kat_lt_int (hC _ I2)
def ltP (ps:List (Int × List Nat)):Nat→Nat→Bool:=fun i j=>decide ((ps.getD i (0,[])).1<(ps.getD j (0,[])).1∨((ps.getD i (0,[])).1=(ps.getD j (0,[])).1∧(ps.getD i (0,[])).2<(ps.getD j (0,[])).2))
theorem ziG (ps:List (Int × List Nat)):So.Ord (ltP ps):=⟨fun a b h=>by
    unfold ltP at h ⊢
    simp only [decide_eq_true_eq,decide_eq_false_iff_not] at h ⊢; generalize ps.getD a (0,[])=x at h ⊢; generalize ps.getD b (0,[])=y at h ⊢
    rintro (h' | ⟨h',h''⟩)
    · rcases h with h | ⟨h,_⟩ <;> omega
    · rcases h with h | ⟨_,h⟩
      · omega
      · exact List.lt_irrefl _ (List.lt_trans h h''),fun a b c h1 h2=>by
    unfold ltP at h1 h2 ⊢
    simp only [decide_eq_false_iff_not,not_or,not_and] at h1 h2 ⊢; generalize ps.getD a (0,[])=x at h1 h2 ⊢; generalize ps.getD b (0,[])=y at h1 h2 ⊢; generalize ps.getD c (0,[])=z at h1 h2 ⊢
    refine ⟨by omega,fun e=>?_⟩
    have e1:y.1=x.1:=by omega
    have e2:z.1=y.1:=by omega
    have q1:=h1.2 e1; have q2:=h2.2 e2; intro q; rw [List.not_lt] at q1 q2; exact absurd q (List.not_lt.mpr (List.le_trans q1 q2))⟩
def zqZ (H:Hp):List Addr→List (Int × List Nat)→Prop:=Paired fun a p=>H a=some (.tup [.int p.1,.str (st p.2)])
theorem ziZ {s:Shared} {pins:List (Addr × Obj)} {σ:St} {H:Hp} (I:Inv X pins σ H s) {a:Addr} {p:Int × List Nat} (h:H a=some (.tup [.int p.1,.str (st p.2)])) :
    ∃ o n t1 t2,s.heap.get? a=some o∧o.cls=.type "tuple"∧o.data=.seq (List.toArray [Value.int p.1 t1,Value.str (st p.2) t2]) n:=by
  obtain ⟨its,r,⟨o,e,c,n,d⟩,_⟩:=I.tuple (SqT.of h)
  obtain ⟨u,w',rfl,r1,r2⟩:=zq4 r; obtain ⟨t1,rfl⟩:=r1; obtain ⟨t2,rfl⟩:=r2; exact ⟨o,n,t1,t2,e,c,d⟩
theorem zsg {s:Shared} {pins:List (Addr × Obj)} {σ:St} {H:Hp} (I:Inv X pins σ H s):∀ {as:List Addr} {ps:List (Int × List Nat)},zqZ H as ps→∃ fs:List Value,fs.length=as.length∧KatTups s.heap (as.map Value.ref) fs∧∀ v,v ∈ fs→∃ i t,v=Value.int i t
  | [],[],_=>⟨[],rfl,trivial,fun _ z=>by simp at z⟩
  | a :: as,p :: ps,.cons h t=>by
    obtain ⟨fs,hl,kt,hf⟩:=zsg I t; obtain ⟨o,n,t1,t2,e,c,d⟩:=ziZ I h
    refine ⟨.int p.1 t1 :: fs,by simp [hl],KatTups.cons e c d rfl kt,fun v hv=>?_⟩
    rcases List.mem_cons.mp hv with rfl | hv
    · exact ⟨_,_,rfl⟩
    · exact hf v hv
theorem zjC:∀ {as:List Addr} {us:List Value},za5 (as.map V.ref) us→us=as.map Value.ref
  | [],_,.nil=>rfl
  | a :: as,_,.cons r t=>by rw [zjC t]; cases r; rfl
theorem zg3 {H:Hp}:∀ {as:List Addr} {ps:List (Int × List Nat)} (i:Nat),zqZ H as ps→i<as.length→H (as.getD i 0)=some (.tup [.int (ps.getD i (0,[])).1,.str (st (ps.getD i (0,[])).2)])
  | _ :: _,_ :: _,0,.cons h _,_=>h
  | _ :: _,_ :: _,i+1,.cons _ t,hi=>by
    have:=zg3 i t (by simpa using hi)
    simpa using this
theorem zsH {H:Hp} {as:List Addr} {ps:List (Int × List Nat)} (k:zqZ H as ps):zin X (as.map V.ref) H (ltP ps):=by
  intro A' pins σ s kss I r h2; rw [List.length_map] at h2; have e:=zjC r; subst e; obtain ⟨fs,hl,kt,hf⟩:=zsg I k
  refine kat_kind (T:=.type "int") kt (by omega) (fun v hv=>?_) rfl ⟨I,fun i j C s'' h1 h2 I2 hC=>?_⟩
  · obtain ⟨i,t,rfl⟩:=hf v hv
    exact Looks.of_pure rfl
  · rw [List.length_map] at h1 h2
    unfold kas_ask
    have g:∀ i,i<as.length→(as.map Value.ref).getD i Value.none=.ref (as.getD i 0):=fun i h=>by simp [List.getD,List.getElem?_map,List.getElem?_eq_getElem h]
    rw [g i h1,g j h2]; obtain ⟨o,n,t1,t2,e1,c1,d1⟩:=ziZ I2 (zg3 i k h1); obtain ⟨o',n',t1',t2',e1',c1',d1'⟩:=ziZ I2 (zg3 j k h2); unfold ltP at hC; generalize ps.getD i (0,[])=p at *; generalize ps.getD j (0,[])=q at *; refine kat_lt e1 d1 e1' d1' ?_; refine kat_cons (wpAny_eqBool_int ?_)
    refine kat_go (fun he=>kat_yes (kat_cons (wpAny_eqBool_str (kat_go (fun he2=>kat_yes (kat_nil ?_)) fun he2=>kat_no ?_)))) fun he=>kat_no ?_
    · have e1:p.1=q.1:=by simpa using he
      have e2:st p.2=st q.2:=by simpa using he2
      have e3:p.2=q.2:=by rw [← zaP p.2,e2,zaP]
      have hz:=hC _ I2
      rw [show decide (p.1<q.1∨p.1=q.1∧p.2<q.2)=false by rw [e1,e3]; simp] at hz
      exact hz
    · have e1:p.1=q.1:=by simpa using he
      have hz:=hC _ I2; refine kat_one _ _ (lt_str ?_)
      show C (decide ((st p.2).cps.toList<(st q.2).cps.toList)) s''
      simp only [zaP]
      rw [show decide (p.1<q.1∨p.1=q.1∧p.2<q.2)=decide (p.2<q.2) by rw [e1]; simp] at hz
      exact hz
    · have e1:¬ p.1=q.1:=by simpa using he
      have hz:=hC _ I2; refine oneLt_int ?_
      rw [show decide (p.1<q.1∨p.1=q.1∧p.2<q.2)=decide (p.1<q.1) by simp [e1]] at hz
      exact hz
def zrb (K:PySem.W.Frag) (X:Cx) (sp:Sp) (t:TA):TE:=fun σ H Q=>t σ H fun vs H1=>∃ l xs,vs=[.ref l]∧SqL K H1 l xs∧xs.length<64∧zo5 sp (fun ks H'=>∃ lt,So.Ord lt∧zin X ks H' lt∧∀ p,H' p=none→Q (.ref p) (upd H' p (.lst (zcR lt xs)))) xs [] H1
theorem znc {k:Nat} {f:Addr} {fd:FuncData} {ps:List Str} {sp:Sp} {x:Str} {e:Expr} {t:TA} {p q kpos pos:Pos} (F:FnOk X.prog X.w X.K X.mg X.base CX0 k f fd ps sp) (hr:Room (k+2) X.A) (hb:zdi X.K fd ps []) (hmf:X.mg x=some (.ref f)) (hm:X.mg "sorted"=none) (ha:PA X [e] t)
    (hgs:Gl X "sorted":=by rfl) (hg:Gl X x:=by rfl) (hdb:(x == ("__debug__":Str))=false:=by decide)
    (he:backTo pos (starEach [e] X.env)=(false,eval e X.env) :: backTo pos (starEach [] X.env):=by rfl)
    (hplain:(backTo pos (starEach [e] X.env)).any (·.1)=false:=by rfl) :
    PE X (.Call (.Name "sorted" p) [e] [⟨some "key",.Name x q,kpos⟩] pos) (zrb X.K X sp t):=by
  intro pins s σ H Q I h; refine wpAny_Call_Name_kw (zgm I hgs hm boot_sorted ?_)
  refine callWith_kw (thn (ha pos pins s σ H _ I h) fun us s1 ⟨vs,H1,I1,r,q⟩=>?_) he hplain rfl rfl
  obtain ⟨l,xs,rfl,hl,h64,hk⟩:=q; obtain ⟨u,rfl,ru⟩:=zdj r; cases ru
  refine thn (zlw (nm:=some "key") (kpos:=kpos) (ziC (v:=.ref f) hg hmf rfl hdb) zos pos pins s1 σ H1 (fun zs H2=>zs=[.ref f]∧H2=H1) I1 ⟨rfl,rfl⟩) fun ws s2 ⟨zs,H2,I2,rz,e1,e2⟩=>?_
  subst e1 e2
  obtain ⟨w',rfl,rw'⟩:=zdj rz; cases rw'; exact zia F hr hb I2 hl h64 hk
end
end L2
namespace PL
open PySem L2
def zqY (ks:List D) (lt:Nat→Nat→Bool):Prop:=(∃ is:List Int,ks=is.map .int∧lt=ltI is)∨∃ ps:List (Int × List Nat),ks=ps.map (fun p=>.tup [.int p.1,.str p.2])∧lt=ltP ps
def zfi (lt:Nat→Nat→Bool) (ds:List D):List D:=if ds.length<2 then ds else (So.run lt (PySem.W.kas_sort ds.length)).toList.map fun i=>ds.getD i .non
theorem zqY.ord {ks:List D} {lt:Nat→Nat→Bool} (h:zqY ks lt):So.Ord lt:=by
  rcases h with ⟨is,_,rfl⟩ | ⟨ps,_,rfl⟩
  · exact zt4 is
  · exact ziG ps
theorem zfV {K:PySem.W.Frag} {H:Hp}:∀ {vs:List V} {is:List Int},zbU K H vs (is.map .int)→vs=is.map V.int
  | [],[],_=>rfl
  | v :: vs,i :: is,.cons r t=>by rw [r.intI,zfV t]; rfl
  | [],_ :: _,h=>nomatch h
  | _ :: _,[],h=>nomatch h
theorem zfU {K:PySem.W.Frag} {H:Hp}:∀ {vs:List V} {ps:List (Int × List Nat)},zbU K H vs (ps.map fun p=>.tup [.int p.1,.str p.2])→∃ as:List Addr,vs=as.map V.ref∧zqZ H as ps
  | [],[],_=>⟨[],rfl,.nil⟩
  | v :: vs,p :: ps,.cons r t=>by
    obtain ⟨as,rfl,k⟩:=zfU t; obtain ⟨a,us,rfl,ha,dl⟩:=r.tupJ; obtain ⟨v1,v2,rfl,d1,d2⟩:=zsD dl; rw [d1.intI,d2.strI] at ha; exact ⟨a :: as,rfl,.cons ha k⟩
  | [],_ :: _,h=>nomatch h
  | _ :: _,[],h=>nomatch h
theorem zfM {H H':Hp} (e:zaX H H'):∀ {as:List Addr} {ps:List (Int × List Nat)},zqZ H as ps→zqZ H' as ps
  | _,_,.nil=>.nil
  | _,_,.cons h t=>.cons (e _ _ h) (zfM e t)
theorem zoe {K:PySem.W.Frag} {H:Hp} {vs:List V} {ds:List D} (h:zbU K H vs ds) (i:Nat) (hi:i<vs.length):Den K H (vs.getD i .non) (ds.getD i .non):=by
  have hl:=zi h
  have:=paired_get i h (List.getElem?_eq_getElem hi) (List.getElem?_eq_getElem (by omega:i<ds.length))
  simpa [List.getD,List.getElem?_eq_getElem hi,List.getElem?_eq_getElem (by omega:i<ds.length)] using this
theorem zma {K:PySem.W.Frag} {H:Hp} {vs:List V} {ds:List D} (h:zbU K H vs ds):∀ (l:List Nat),(∀ i,i ∈ l→i<vs.length)→zbU K H (l.map fun i=>vs.getD i .non) (l.map fun i=>ds.getD i .non)
  | [],_=>.nil
  | i :: l,q=>.cons (zoe h i (q i (by simp))) (zma h l fun j hj=>q j (by simp [hj]))
theorem zjB {K:PySem.W.Frag} {H:Hp} {lt:Nat→Nat→Bool} (o:So.Ord lt) {vs:List V} {ds:List D} (h:zbU K H vs ds):zbU K H (zcR lt vs) (zfi lt ds):=by
  have hl:=zi h; unfold zcR zfi; rw [hl]; split
  · exact h
  · rename_i hn
    exact zma h _ fun i hi=>by rw [hl]; exact (ze0 o (by omega)).2 i hi
section
variable {X:Cx}
def zn (sp:Sp') (t:TA'):TO':=fun Γ Q=>t Γ fun as Γ1=>∃ ds ks lt,as=[.lst ds]∧ds.length<64∧ks.length=ds.length∧(∀ (i:Nat) x k,ds[i]?=some x→ks[i]?=some k→sp [x] fun r=>r=.val k)∧zqY ks lt∧Q (.lst (zfi lt ds)) Γ1
theorem zg5 {K:PySem.W.Frag} {sp:Sp'} {Fin:List V→Hp→Prop} {Hi1 H1:Hp}:∀ (r:List V) (rd kd:List D) (acc:List V) (accD:List D) (Hi H:Hp),Ext Hi1 H1 Hi H→zbU K Hi r rd→kd.length=rd.length→(∀ (i:Nat) x k,rd[i]?=some x→kd[i]?=some k→sp [x] fun r=>r=.val k)→zbU K Hi acc accD →
    (∀ acc Hi H,Ext Hi1 H1 Hi H→zbU K Hi acc (accD ++ kd)→Fin acc H)→zo5 (zmz K sp) Fin r acc H
  | [],[],kd,acc,accD,Hi,H,ex,_,hl,_,da,fin=>by
    have:kd=[]:=List.length_eq_zero_iff.mp (by simpa using hl)
    subst this
    exact fin acc Hi H ex (by rw [List.append_nil]; exact da)
  | v :: r,d :: rd,k :: kd,acc,accD,Hi,H,ex,.cons d1 t,hl,hsp,da,fin=>by
    refine ⟨Hi,[d],fun r=>r=.val k,ex.fz,.cons d1 .nil,hsp 0 d k rfl rfl,fun Hi' H' v' r' e2 ro hq=>?_⟩
    subst hq
    refine zg5 r rd kd (acc ++ [v']) (accD ++ [k]) Hi' H' (ex.trans e2) (zbU.mono t e2.hi) (by simpa using hl) (fun i x k h1 h2=>hsp (i+1) x k (by simpa using h1) (by simpa using h2)) (zaY (da.mono e2.hi) (.cons ro .nil)) fun acc Hi H e3 da=>?_
    exact fin acc Hi H e3 (by simpa using da)
  | [],_ :: _,_,_,_,_,_,_,h,_,_,_,_=>nomatch h
  | _ :: _,[],_,_,_,_,_,_,h,_,_,_,_=>nomatch h
  | _ :: _,_ :: _,[],_,_,_,_,_,_,hl,_,_,_=>by simp at hl
theorem zm5 {k:Nat} {x:Str} {ps:List Str} {sp:Sp'} {e:Expr} {t:TA'} {p q kpos pos:Pos} (G:Fn X.prog X.w X.K X.mg X.base k x ps sp) (hr:Room (k+2) X.A) (hm:X.mg "sorted"=none) (ha:PA' X [e] t)
    (hgs:Gl X "sorted":=by rfl) (hg:Gl X x:=by rfl) (hdb:(x == ("__debug__":Str))=false:=by decide)
    (he:backTo pos (starEach [e] X.env)=(false,eval e X.env) :: backTo pos (starEach [] X.env):=by rfl) (hplain:(backTo pos (starEach [e] X.env)).any (·.1)=false:=by rfl) :
    PO' X (.Call (.Name "sorted" p) [e] [⟨some "key",.Name x q,kpos⟩] pos) (zn sp t):=by
  obtain ⟨f,fd,F,b,kp,m,_⟩:=G.ex; refine ⟨PE.weak (znc F hr b m hm ha.pa hgs hg hdb he hplain) ?_⟩
  rintro σ H Q ⟨W,Hi,Γ,Q',g,h,fin⟩
  refine ⟨W,Hi,Γ,_,g,h,?_⟩
  rintro vs H1 Hi1 Γ1 as s1 g1 dl ⟨ds,ks,lt,rfl,h64,hkl,hsp,hkd,q⟩
  obtain ⟨v,rfl,den⟩:=zd6 dl; obtain ⟨l,xs,rfl,hl,dx⟩:=den.lstI
  refine ⟨l,xs,rfl,zaK g1.sub hl,by rw [zi dx]; exact h64,?_⟩
  refine zg5 xs ds ks [] [] Hi1 H1 (Ext.refl g1.fz) dx hkl hsp .nil fun acc Hi2 H2 ex da=>?_
  rw [List.nil_append] at da
  refine ⟨lt,hkd.ord,?_,fun p hp=>?_⟩
  · rcases hkd with ⟨is,rfl,rfl⟩ | ⟨ps,rfl,rfl⟩
    · rw [zfV da]
      exact zsI is
    · obtain ⟨as,rfl,kt⟩:=zfU da
      exact zsH (zfM ex.fz.sub kt)
  · have g2:=g1.ext ex
    exact fin p _ Hi2 Γ1 (.lst (zfi lt ds)) (s1.trans ex.hi) (g2.ext (Ext.newO g2.fz hp _ (fun _ z=>by cases z))) (New.mk' g2 hp ⟨_,zP,zjB hkd.ord (dx.mono ex.hi)⟩) q
end
end PL
namespace L2
open PySem PySem.Spec PyProof.Rows
section
variable {P:Program} {w:World} {K:PySem.W.Frag} {mg:Str→Option Value} {base:Heap}
end
section
variable {X:Cx} {pins:List (Addr × Obj)} {σ:St} {H:Hp} {s:Shared}
end
end L2
namespace L2
open PySem PySem.Spec PyProof.Rows
section
variable {X:Cx}
end
end L2
namespace PL
open PySem L2
section
variable {P:Program} {w:World} {K:PySem.W.Frag} {mg:Str→Option Value} {base:Heap}
end
section
variable {X:Cx}
end
end PL
namespace L2
open PySem PySem.Spec PyProof.Rows
end L2
namespace PL
open PySem L2
section
variable {P:Program} {w:World} {K:PySem.W.Frag} {mg:Str→Option Value} {base:Heap} {k:Nat} {x qual:Str} {ps:List Str} {sp:Sp'}
end
end PL
namespace PL
open PySem L2
end PL
namespace PL
open PySem L2
section
variable {X:Cx} {pos:Pos}
def zaB (i:Nat) (te:TE'):TS':=fun N Γ=>∃ a,Γ[i]?=some (.val (.int a))∧te Γ fun d Γ1=>∃ b,d=.int b∧N.nx (Γ1.set i (.val (.int (a+b))))
end
end PL
namespace MS
open PySem L2 PL
theorem zlQ:∀ (N:Nat) (l:List Nat),l.Nodup→(∀ x,x ∈ l→x<N)→l.length≤N
  | 0,l,_,h=>by
    cases l with
    | nil=>simp
    | cons a r=>exact absurd (h a (by simp)) (by omega)
  | N+1,l,hd,h=>by
    by_cases e:N ∈ l
    · have:=zlQ N (l.erase N) (hd.erase N) fun x hx=>by
        have h1:=h x (List.mem_of_mem_erase hx)
        have h2:x≠N:=fun z=>by rw [z] at hx; exact (hd.not_mem_erase) hx
        omega
      rw [List.length_erase_of_mem e] at this; omega
    · have:=zlQ N l hd fun x hx=>by
        have h1:=h x hx
        have h2:x≠N:=fun z=>e (z ▸ hx)
        omega
      omega
theorem zsF:∀ (N:Nat) (l:List Nat),l.Nodup→(∀ x,x ∈ l→x<N)→l.length=N→∀ i,i<N→i ∈ l
  | 0,_,_,_,_,i,hi=>absurd hi (by omega)
  | N+1,l,hd,h,hl,i,hi=>by
    by_cases e:N ∈ l
    · by_cases z:i=N
      · rw [z]; exact e
      · refine List.mem_of_mem_erase (zsF N (l.erase N) (hd.erase N) (fun x hx=>?_) (by rw [List.length_erase_of_mem e]; omega) i (by omega))
        have h1:=h x (List.mem_of_mem_erase hx)
        have h2:x≠N:=fun z=>by rw [z] at hx; exact (hd.not_mem_erase) hx
        omega
    · have:=zlQ N l hd fun x hx=>by
        have h1:=h x hx
        have h2:x≠N:=fun z=>e (z ▸ hx)
        omega
      omega
theorem irr {lt:Nat→Nat→Bool} (o:So.Ord lt) {a:Nat} (h:So.L lt a a):False:=by
  rcases h with h | ⟨_,h⟩
  · have:=o.asym a a h
    rw [h] at this; cases this
  · omega
theorem zdx {lt:Nat→Nat→Bool} (o:So.Ord lt) {N:Nat} (hN:1≤N):(So.run lt (PySem.W.kas_sort N)).toList.Nodup∧(So.run lt (PySem.W.kas_sort N)).toList.length=N∧(∀ i,i ∈ (So.run lt (PySem.W.kas_sort N)).toList↔i<N):=by
  obtain ⟨b,s⟩:=So.sort o hN
  have hl:(So.run lt (PySem.W.kas_sort N)).toList.length=N:=by rw [Array.length_toList]; exact b.size
  have lo:=(ze0 o hN).2
  have gg:∀ i (hi:i<(So.run lt (PySem.W.kas_sort N)).toList.length),So.g (So.run lt (PySem.W.kas_sort N)) i=(So.run lt (PySem.W.kas_sort N)).toList[i]:=fun i hi=>by
    rw [So.g_eq]
    have hi':i<(So.run lt (PySem.W.kas_sort N)).size:=by simpa using hi
    rw [Array.getElem?_eq_getElem hi']; simp
  have nd:(So.run lt (PySem.W.kas_sort N)).toList.Nodup:=by
    rw [List.nodup_iff_pairwise_ne,List.pairwise_iff_getElem]; intro i j hi hj hij e
    have z:=s i j hij (by omega)
    rw [gg i hi,gg j hj,e] at z; exact irr o z
  exact ⟨nd,hl,fun i=>⟨lo i,zsF N _ nd lo hl i⟩⟩
section
variable {α:Type} {lt:Nat→Nat→Bool}
def srt (lt:Nat→Nat→Bool) (d:α) (ps:List α):List α:=if ps.length<2 then ps else (So.run lt (PySem.W.kas_sort ps.length)).toList.map fun i=>ps.getD i d
theorem zld (o:So.Ord lt) (d:α) (ps:List α) (q:α):q ∈ srt lt d ps↔q ∈ ps:=by
  unfold srt; split
  · rfl
  · rename_i h
    obtain ⟨_,_,m⟩:=zdx o (N:=ps.length) (by omega)
    rw [List.mem_map]; constructor
    · rintro ⟨i,hi,rfl⟩
      have hi':=(m i).mp hi; simp only [List.getD,List.getElem?_eq_getElem hi',Option.getD_some]; exact List.getElem_mem hi'
    · intro hq
      obtain ⟨i,hi,e⟩:=List.getElem_of_mem hq
      exact ⟨i,(m i).mpr hi,by simp only [List.getD,List.getElem?_eq_getElem hi,Option.getD_some]; exact e⟩
theorem zpb (o:So.Ord lt) (d:α) (ps:List α):(srt lt d ps).length=ps.length:=by
  unfold srt; split
  · rfl
  · rename_i h
    obtain ⟨_,hl,_⟩:=zdx o (N:=ps.length) (by omega)
    rw [List.length_map,hl]
theorem zlc (o:So.Ord lt) (d:α) {ps:List α} (hd:ps.Nodup):(srt lt d ps).Nodup:=by
  unfold srt; split
  · exact hd
  · rename_i h
    obtain ⟨nd,_,m⟩:=zdx o (N:=ps.length) (by omega)
    rw [List.nodup_iff_pairwise_ne,List.pairwise_map]; refine List.Pairwise.imp_of_mem ?_ (List.nodup_iff_pairwise_ne.mp nd); intro i j hi hj hij e; have hi':=(m i).mp hi; have hj':=(m j).mp hj; simp only [List.getD,List.getElem?_eq_getElem hi',List.getElem?_eq_getElem hj',Option.getD_some] at e; exact hij ((List.getElem_inj hd).mp e)
theorem zpa (f:α→D) (d:α) (ps:List α) (o:So.Ord lt):zfi lt (ps.map f)=(srt lt d ps).map f:=by
  unfold zfi srt; rw [List.length_map]; split
  · rfl
  · rename_i h
    obtain ⟨_,_,m⟩:=zdx o (N:=ps.length) (by omega)
    rw [List.map_map]
    refine List.map_congr_left fun i hi=>?_
    have hi':=(m i).mp hi; simp [List.getD,List.getElem?_eq_getElem hi']
end
end MS
namespace M04
open PySem L2 Lb PL MT MS
abbrev Nd:=List (Pl × Pl)
def keys (ns:Nd):List Pl:=ns.map (·.1)
structure NOk (ns:Nd):Prop where
  nil:[] ∈ keys ns
  nd:(keys ns).Nodup
  len:∀ q,q ∈ keys ns→q.length≤8
  up:∀ q,q ∈ keys ns→q.dropLast ∈ keys ns
  lab:∀ q,q ∈ keys ns→∀ l,l ∈ q→zX l=true
  many:ns.length≤60
def zem (q:Pl):List Nat:=q.getLast?.getD []
def zd5 (l:List Nat):Int × List Nat:=((PySem.intText? (st (cut l))).getD 0,zdd l)
def zvF (q:Pl):Int × List Nat:=zd5 (zem q)
def znR (ns:Nd) (p:Pl):List Pl:=(keys ns).filter fun q=>decide (q.length=p.length+1) && decide (q.dropLast=p)
def zqe (ns:Nd) (p:Pl):List Pl:=srt (ltP ((znR ns p).map zvF)) [] (znR ns p)
def zvi (ns:Nd) (p:Pl):Pl:=(ns.lookup p).getD []
theorem zpc {p q:Pl} (h1:q.length=p.length+1) (h2:q.dropLast=p):q=p ++ [zem q]:=by
  have hne:q≠[]:=fun z=>by rw [z] at h1; simp at h1
  rw [← h2]; unfold zem; rw [List.getLast?_eq_some_getLast hne]; exact (List.dropLast_concat_getLast hne).symm
theorem zlM {ns:Nd} {p q:Pl}:q ∈ znR ns p↔q ∈ keys ns∧q=p ++ [zem q]:=by
  unfold znR; rw [List.mem_filter]; simp only [Bool.and_eq_true,decide_eq_true_eq]; constructor
  · rintro ⟨h,h1,h2⟩
    exact ⟨h,zpc h1 h2⟩
  · rintro ⟨h,e⟩
    refine ⟨h,?_,?_⟩
    · rw [e]; simp
    · rw [e]; simp
theorem znv {ns:Nd} {p q:Pl}:q ∈ zqe ns p↔q ∈ keys ns∧q=p ++ [zem q]:=by
  unfold zqe; rw [zld (ziG _),zlM]
mutual
def zde:Tr→Pl→List Pl
  | .node _ _ ks,p=>p :: zhB ks p
def zhB:List Tr→Pl→List Pl
  | [],_=>[]
  | k :: ks,p=>zde k (p ++ [k.lab]) ++ zhB ks p
end
theorem zjH (p:Pl):∀ ks:List Tr,zhB ks p=ks.flatMap fun k=>zde k (p ++ [k.lab])
  | []=>by simp [zhB]
  | k :: ks=>by simp [zhB,zjH p ks]
theorem zd4 (t:Tr) (p:Pl):zde t p=p :: t.kds.flatMap fun k=>zde k (p ++ [k.lab]):=by
  cases t with
  | node l ws ks=>simp [zde,zjH,Tr.kds]
theorem zsh {ns:Nd} (o:NOk ns) {p:Pl} (h:8≤p.length):zqe ns p=[]:=by
  rw [List.eq_nil_iff_forall_not_mem]; intro q hq; obtain ⟨h1,h2⟩:=znv.mp hq
  have:=o.len q h1
  rw [h2] at this
  simp at this
  omega
end M04
namespace M70
open PySem L2 Lb PL MT MS M04
open PySem.NumText (digitsVal)
theorem zjf (l:List Nat) (c:Nat):digitsVal (l ++ [c])=digitsVal l * 10+(c-48):=by simp [digitsVal,List.foldl_append]
theorem zj2:∀ (n:Nat) {l:List Nat},l.length≤n→(∀ c ∈ l,Dig c)→l≠[]→l[0]?≠some 48→1≤digitsVal l
  | 0,l,hl,_,hn,_=>absurd (List.length_eq_zero_iff.mp (by omega)) hn
  | n+1,l,hl,hd,hn,h0=>by
    rcases List.eq_nil_or_concat l with e | ⟨l',c,e⟩
    · exact absurd e hn
    · rw [List.concat_eq_append] at e
      subst e; rw [zjf]
      by_cases z:l'=[]
      · subst z
        have:=hd c (by simp)
        have:c≠48:=fun e=>h0 (by simp [e])
        unfold Dig at *
        simp [digitsVal]; omega
      · have:=zj2 n (l:=l') (by simp at hl; omega) (fun c hc=>hd c (by simp [hc])) z (by
          rw [List.getElem?_append_left (by cases l' with | nil=>exact absurd rfl z | cons _ _=>simp)] at h0
          exact h0)
        omega
theorem zsw:∀ (n:Nat) {l m:List Nat},l.length≤n→(∀ c ∈ l,Dig c)→(∀ c ∈ m,Dig c)→l[0]?≠some 48→m[0]?≠some 48→digitsVal l=digitsVal m→l=m:=by
  intro n
  induction n with
  | zero =>
    intro l m hl h1 h2 h3 h4 e
    have:l=[]:=List.length_eq_zero_iff.mp (by omega)
    subst this
    by_cases z:m=[]
    · rw [z]
    · have:=zj2 _ (Nat.le_refl _) h2 z h4
      rw [← e] at this; simp [digitsVal] at this
  | succ n ih =>
    intro l m hl h1 h2 h3 h4 e
    rcases List.eq_nil_or_concat l with z | ⟨l',c,z⟩
    · subst z
      by_cases z:m=[]
      · rw [z]
      · have:=zj2 _ (Nat.le_refl _) h2 z h4
        rw [← e] at this; simp [digitsVal] at this
    · rcases List.eq_nil_or_concat m with y | ⟨m',d,y⟩
      · subst y
        have:=zj2 _ (Nat.le_refl _) h1 (by rw [z]; simp) h3
        rw [e] at this; simp [digitsVal] at this
      · rw [List.concat_eq_append] at z y
        subst z y
        rw [zjf,zjf] at e
        have hc:=h1 c (by simp)
        have hd:=h2 d (by simp)
        unfold Dig at hc hd
        have e1:digitsVal l'=digitsVal m':=by omega
        have e2:c=d:=by omega
        have hd:∀ (a:List Nat) (x:Nat),(a ++ [x])[0]?≠some 48→a[0]?≠some 48:=fun a x h=>by
          cases a with
          | nil=>simp
          | cons y r=>simpa using h
        rw [ih (by simp at hl; omega) (fun x hx=>h1 x (by simp [hx])) (fun x hx=>h2 x (by simp [hx])) (hd _ _ h3) (hd _ _ h4) e1,e2]
theorem zh3 {l:List Nat} (h:zX l=true):(∀ c ∈ cut l,Dig c)∧(cut l)[0]?≠some 48∧PySem.intText? (st (cut l))=some ((digitsVal (cut l):Nat):Int):=by
  unfold zX at h; simp only [Bool.and_eq_true,decide_eq_true_eq,List.all_eq_true] at h
  obtain ⟨⟨⟨⟨a1,a2⟩,b⟩,c⟩,d⟩:=h
  have hd:∀ x ∈ cut l,Dig x:=fun x hx=>(ze9 x).mp (by simpa [dig] using c x hx)
  refine ⟨hd,b,?_⟩
  have q:=PySem.intText_digits (x:=st (cut l)) (by rw [zaP]; exact hd) (by rw [zaP]; exact fun z=>by rw [z] at a1; simp at a1) (by rw [zbP]; omega)
  rw [zaP] at q; exact q
theorem znS {l m:List Nat} (hl:zX l=true) (hm:zX m=true) (e:zd5 l=zd5 m):l=m:=by
  obtain ⟨a1,a2,a3⟩:=zh3 hl; obtain ⟨b1,b2,b3⟩:=zh3 hm; unfold zd5 at e; rw [a3,b3] at e
  injection e with e1 e2
  have e3:digitsVal (cut l)=digitsVal (cut m):=by
    simp only [Option.getD_some] at e1; omega
  rw [← zeL l,← zeL m,e2,zsw _ (Nat.le_refl _) a1 b1 a2 b2 e3]
def klt (p q:Int × List Nat):Prop:=p.1<q.1∨(p.1=q.1∧p.2<q.2)
theorem zi0 (p:Int × List Nat):¬ klt p p:=by
  rintro (h | ⟨_,h⟩)
  · omega
  · exact List.lt_irrefl _ h
theorem znC {p q:Int × List Nat} (h:klt p q):¬ klt q p:=by
  rintro (h' | ⟨h1,h2⟩)
  · rcases h with h | ⟨h,_⟩ <;> omega
  · rcases h with h | ⟨_,h⟩
    · omega
    · exact List.lt_irrefl _ (List.lt_trans h h2)
theorem zp7 (p q:Int × List Nat):klt p q∨klt q p∨p=q:=by
  unfold klt
  rcases Int.lt_trichotomy p.1 q.1 with h | h | h
  · exact .inl (.inl h)
  · by_cases h1:p.2<q.2
    · exact .inl (.inr ⟨h,h1⟩)
    · by_cases h2:q.2<p.2
      · exact .inr (.inl (.inr ⟨h.symm,h2⟩))
      · refine .inr (.inr (Prod.ext h ?_))
        exact List.le_antisymm (List.not_lt.mp h2) (List.not_lt.mp h1)
  · exact .inr (.inl (.inl h))
def Ris (L:List (List Nat)):Prop:=L.Pairwise fun a b=>klt (zd5 a) (zd5 b)
theorem Ris.nodup {L:List (List Nat)} (h:Ris L):L.Nodup:=by
  rw [List.nodup_iff_pairwise_ne]; refine List.Pairwise.imp ?_ h; intro a b hk e; rw [e] at hk; exact zi0 _ hk
theorem zgC:∀ {L M:List (List Nat)},Ris L→Ris M→(∀ x,x ∈ L↔x ∈ M)→L=M
  | [],[],_,_,_=>rfl
  | [],b :: M,_,_,h=>absurd ((h b).mpr List.mem_cons_self) (by simp)
  | a :: L,[],_,_,h=>absurd ((h a).mp List.mem_cons_self) (by simp)
  | a :: L,b :: M,h1,h2,h=>by
    unfold Ris at h1 h2; rw [List.pairwise_cons] at h1 h2
    have e:a=b:=by
      rcases List.mem_cons.mp ((h a).mp List.mem_cons_self) with z | z
      · exact z
      · rcases List.mem_cons.mp ((h b).mpr List.mem_cons_self) with y | y
        · exact y.symm
        · exact absurd (h2.1 a z) (znC (h1.1 b y))
    subst e
    have:L=M:=zgC h1.2 h2.2 fun x=>by
      constructor
      · intro hx
        rcases List.mem_cons.mp ((h x).mp (List.mem_cons_of_mem _ hx)) with z | z
        · exact absurd (h1.1 x hx) (by rw [z]; exact zi0 _)
        · exact z
      · intro hx
        rcases List.mem_cons.mp ((h x).mpr (List.mem_cons_of_mem _ hx)) with z | z
        · exact absurd (h2.1 x hx) (by rw [z]; exact zi0 _)
        · exact z
    rw [this]
theorem zhr {ls:List (List Nat)} (nd:ls.Nodup) (hp:∀ l ∈ ls,zX l=true):Ris (srt (ltP (ls.map zd5)) [] ls):=by
  unfold srt; split
  · rename_i h
    match ls,h with
    | [],_=>exact .nil
    | [a],_=>exact List.pairwise_singleton _ _
  · rename_i h
    have o:=ziG (ls.map zd5)
    obtain ⟨nd2,hl,m⟩:=zdx o (N:=ls.length) (by omega)
    obtain ⟨b,s⟩:=So.sort o (N:=ls.length) (by omega)
    have hsz:(So.run (ltP (ls.map zd5)) (PySem.W.kas_sort ls.length)).size=ls.length:=b.size
    unfold Ris; rw [List.pairwise_map,List.pairwise_iff_getElem]; intro i j hi hj hij
    have z:=s i j hij (by omega)
    have gg:∀ i (hi:i<(So.run (ltP (ls.map zd5)) (PySem.W.kas_sort ls.length)).toList.length),So.g (So.run (ltP (ls.map zd5)) (PySem.W.kas_sort ls.length)) i=(So.run (ltP (ls.map zd5)) (PySem.W.kas_sort ls.length)).toList[i]:=fun i hi=>by
      rw [So.g_eq]
      have hi':i<(So.run (ltP (ls.map zd5)) (PySem.W.kas_sort ls.length)).size:=by simpa using hi
      rw [Array.getElem?_eq_getElem hi']; simp
    rw [gg i hi,gg j hj] at z; have ha:=(m _).mp (List.getElem_mem hi); have hb:=(m _).mp (List.getElem_mem hj)
    have hne:(So.run (ltP (ls.map zd5)) (PySem.W.kas_sort ls.length)).toList[i]≠(So.run (ltP (ls.map zd5)) (PySem.W.kas_sort ls.length)).toList[j]:=fun e=>by
      have:=(List.getElem_inj nd2).mp e
      omega
    generalize (So.run (ltP (ls.map zd5)) (PySem.W.kas_sort ls.length)).toList[i]=a at *; generalize (So.run (ltP (ls.map zd5)) (PySem.W.kas_sort ls.length)).toList[j]=c at *; simp only [List.getD,List.getElem?_eq_getElem ha,List.getElem?_eq_getElem hb,Option.getD_some]
    have k1:∀ x (hx:x<ls.length),(ls.map zd5).getD x (0,[])=zd5 ls[x]:=fun x hx=>by simp [List.getD,List.getElem?_map,List.getElem?_eq_getElem hx]
    have lt_iff:∀ x y (hx:x<ls.length) (hy:y<ls.length),ltP (ls.map zd5) x y=true↔klt (zd5 ls[x]) (zd5 ls[y]):=fun x y hx hy=>by
      unfold ltP klt; rw [k1 x hx,k1 y hy]; simp only [decide_eq_true_eq]
    rcases z with z | ⟨z,_⟩
    · exact (lt_iff a c ha hb).mp z
    · rcases zp7 (zd5 ls[a]) (zd5 ls[c]) with y | y | y
      · exact y
      · rw [(lt_iff c a hb ha).mpr y] at z
        cases z
      · exact absurd ((List.getElem_inj nd).mp (znS (hp _ (List.getElem_mem ha)) (hp _ (List.getElem_mem hb)) y)) hne
def zfh (ls:List (List Nat)):List (List Nat):=srt (ltP (ls.map zd5)) [] ls
theorem zcp (ls:List (List Nat)) (l:List Nat):l ∈ zfh ls↔l ∈ ls:=zld (ziG _) _ _ _
theorem zdX {ls:List (List Nat)} (h:ls.Nodup):(zfh ls).Nodup:=zlc (ziG _) _ h
theorem zhs (ls:List (List Nat)):(zfh ls).length=ls.length:=zpb (ziG _) _ _
end M70
namespace M71
open PySem L2 Lb PL MT MS M04 M70
theorem zbt (l:List Nat) (ws:Pl) (ks:List Tr):(Tr.node l ws ks).kds=ks:=rfl
def zaM (ks:List Tr):List (List Nat):=ks.map Tr.lab
theorem za3 {l:List Nat} {ks:List Tr} {k:Tr} (h:zb l ks=some k):k ∈ ks∧k.lab=l:=by
  unfold zb at h
  exact ⟨List.mem_of_find?_eq_some h,by simpa using List.find?_some h⟩
theorem zbs {l:List Nat} {ks:List Tr}:zb l ks=none↔l ∉ zaM ks:=by
  unfold zb zaM; rw [List.find?_eq_none,List.mem_map]; constructor
  · rintro h ⟨k,hk,e⟩
    exact h k hk (by simpa using e)
  · intro h k hk e
    exact h ⟨k,hk,by simpa using e⟩
theorem zc8 {l:List Nat} {ks:List Tr} (h:l ∈ zaM ks):∃ k,zb l ks=some k:=by
  cases e:zb l ks with
  | none=>exact absurd h (zbs.mp e)
  | some k=>exact ⟨k,rfl⟩
theorem zbC:∀ {ks:List Tr} {k:Tr},(zaM ks).Nodup→k ∈ ks→zb k.lab ks=some k
  | k' :: ks,k,hn,h=>by
    unfold zaM at hn; rw [List.map_cons,List.nodup_cons] at hn
    rcases List.mem_cons.mp h with rfl | h
    · simp [zb]
    · have ne:¬ k'.lab=k.lab:=fun e=>hn.1 (by rw [e]; exact List.mem_map_of_mem h)
      have:=zbC (ks:=ks) hn.2 h
      unfold zb at this ⊢
      rw [List.find?_cons]; simp [ne,this]
def zmJ (ms:List (List Nat)) (l:List Nat):List (List Nat):=if l ∈ ms then ms else ms ++ [l]
def zf9 (ls:List (List Nat)):List (List Nat):=ls.foldl zmJ []
theorem zk2 (ls:List (List Nat)) (l:List Nat):zf9 (ls ++ [l])=zmJ (zf9 ls) l:=by
  unfold zf9; rw [List.foldl_append]; rfl
theorem zgv:∀ (ls acc:List (List Nat)),acc.Nodup→(ls.foldl zmJ acc).Nodup∧(∀ l,l ∈ ls.foldl zmJ acc↔l ∈ acc∨l ∈ ls)∧(ls.foldl zmJ acc).length≤acc.length+ls.length
  | [],acc,h=>⟨h,fun l=>by simp,by simp⟩
  | x :: ls,acc,h=>by
    have ha:(zmJ acc x).Nodup∧(∀ l,l ∈ zmJ acc x↔l ∈ acc∨l=x)∧(zmJ acc x).length≤acc.length+1:=by
      unfold zmJ; split
      · rename_i e
        exact ⟨h,fun l=>⟨.inl,fun z=>z.elim id fun z=>z ▸ e⟩,by omega⟩
      · rename_i e
        refine ⟨?_,fun l=>by simp,by simp⟩
        rw [List.nodup_append]
        exact ⟨h,by simp,fun a ha b hb z=>e (by rw [← List.mem_singleton.mp hb,← z]; exact ha)⟩
    obtain ⟨a,b,c⟩:=zgv ls (zmJ acc x) ha.1; rw [List.foldl_cons]
    refine ⟨a,fun l=>?_,by rw [List.length_cons]; have:=ha.2.2; omega⟩
    rw [b,ha.2.1,List.mem_cons,or_assoc]
theorem zcg (ls:List (List Nat)):(zf9 ls).Nodup:=(zgv ls [] (by simp)).1
theorem zb9 (ls:List (List Nat)) (l:List Nat):l ∈ zf9 ls↔l ∈ ls:=by
  have:=(zgv ls [] (by simp)).2.1 l
  unfold zf9
  simpa using this
theorem zjr (ls:List (List Nat)):(zf9 ls).length≤ls.length:=by
  have:=(zgv ls [] (by simp)).2.2
  unfold zf9
  simpa using this
theorem zei:∀ {l m:List (List Nat)},l.Nodup→(∀ x ∈ l,x ∈ m)→l.length≤m.length
  | [],m,_,_=>by simp
  | a :: l,m,hn,h=>by
    rw [List.nodup_cons] at hn; have ha:=h a List.mem_cons_self
    have ih:=zei (l:=l) (m:=m.erase a) hn.2 fun x hx=>(List.mem_erase_of_ne (fun z:x=a=>hn.1 (by rw [← z]; exact hx))).mpr (h x (List.mem_cons_of_mem _ hx))
    rw [List.length_erase_of_mem ha] at ih
    have:=List.length_pos_of_mem ha
    rw [List.length_cons]; omega
def zqW (acc:List Tr) (k:Tr):List Tr:=if k.lab ∈ zaM acc then acc else acc ++ [k]
def ddp (ks:List Tr):List Tr:=ks.foldl zqW []
structure Ddp (ks acc:List Tr):Prop where
  nd:(zaM acc).Nodup
  mem:∀ k ∈ acc,k ∈ ks
  cov:∀ k ∈ ks,k.lab ∈ zaM acc
  len:acc.length≤ks.length
theorem zbB (a b:List Tr):zaM (a ++ b)=zaM a ++ zaM b:=List.map_append
theorem Ddp.add {ks acc:List Tr} (h:Ddp ks acc) (k:Tr):Ddp (ks ++ [k]) (zqW acc k):=by
  unfold zqW; split
  · rename_i e
    refine ⟨h.nd,fun x hx=>List.mem_append_left _ (h.mem x hx),fun x hx=>?_,by have:=h.len; simp; omega⟩
    rcases List.mem_append.mp hx with z | z
    · exact h.cov x z
    · rw [List.mem_singleton.mp z]; exact e
  · rename_i e
    refine ⟨?_,fun x hx=>?_,fun x hx=>?_,by have:=h.len; simp; omega⟩
    · rw [zbB,List.nodup_append]
      refine ⟨h.nd,by simp [zaM],fun a ha b hb z=>?_⟩
      have:b=k.lab:=by simpa [zaM] using hb
      exact e (by rw [← this,← z]; exact ha)
    · rcases List.mem_append.mp hx with z | z
      · exact List.mem_append_left _ (h.mem x z)
      · exact List.mem_append_right _ z
    · rw [zbB]
      rcases List.mem_append.mp hx with z | z
      · exact List.mem_append_left _ (h.cov x z)
      · rw [List.mem_singleton.mp z]; simp [zaM]
theorem zhd (ks:List Tr):∀ i,i≤ks.length→Ddp (ks.take i) (ddp (ks.take i))
  | 0,_=>⟨by simp [ddp,zaM],fun k h=>by simp [ddp] at h,fun k h=>by simp at h,by simp [ddp]⟩
  | i+1,h=>by
    have e:ks.take (i+1)=ks.take i ++ [ks[i]'(by omega)]:=(List.take_append_getElem (by omega)).symm
    rw [e]
    have:=(zhd ks i (by omega)).add (ks[i]'(by omega))
    unfold ddp at this ⊢
    rw [List.foldl_append]; exact this
theorem zfW (ks:List Tr):Ddp ks (ddp ks):=by
  have:=zhd ks ks.length (Nat.le_refl _)
  rwa [List.take_length] at this
theorem zof (ks:List Tr) (k:Tr):ddp (ks ++ [k])=zqW (ddp ks) k:=by
  unfold ddp; rw [List.foldl_append]; rfl
def zgM (L:List (List Nat)) (acc:List Tr):List Tr:=L.filterMap fun l=>zb l acc
theorem zhE:∀ {L:List (List Nat)} {acc:List Tr},(∀ l ∈ L,l ∈ zaM acc)→zaM (zgM L acc)=L
  | [],_,_=>rfl
  | l :: L,acc,h=>by
    obtain ⟨k,hk⟩:=zc8 (h l List.mem_cons_self)
    have ih:=zhE (L:=L) (acc:=acc) fun l hl=>h l (List.mem_cons_of_mem _ hl)
    unfold zgM at ih ⊢
    rw [List.filterMap_cons_some (f:=fun l=>zb l acc) hk]
    unfold zaM at ih ⊢
    rw [List.map_cons,ih,(za3 hk).2]
theorem zeg {L:List (List Nat)} {acc:List Tr} {k:Tr} (h:k ∈ zgM L acc):k ∈ acc:=by
  obtain ⟨l,_,e⟩:=List.mem_filterMap.mp h; exact (za3 e).1
theorem zc6 (ks:List Tr):(zaM ks).length=ks.length:=List.length_map _
inductive Wf (c:Nat):Nat→Tr→Prop where
  | mk {n:Nat} {l:List Nat} {ws:Pl} {ks:List Tr} (hk:∀ k ∈ ks,Wf c n k) (hp:∀ k ∈ ks,zX k.lab=true) (hn:Ris (zaM ks)) (hl:ks.length≤c+1) (hw:ws.length≤3 * c+3):Wf c (n+1) (.node l ws ks)
theorem Wf.pos {c n:Nat} {t:Tr} (h:Wf c n t):∃ m,n=m+1:=by cases h; exact ⟨_,rfl⟩
theorem Wf.kid {c n:Nat} {t:Tr} (h:Wf c (n+1) t):∀ k ∈ t.kds,Wf c n k:=by cases h; assumption
theorem Wf.plab {c n:Nat} {t:Tr} (h:Wf c n t):∀ k ∈ t.kds,zX k.lab=true:=by cases h; assumption
theorem Wf.ris {c n:Nat} {t:Tr} (h:Wf c n t):Ris (zaM t.kds):=by cases h; assumption
theorem Wf.nd {c n:Nat} {t:Tr} (h:Wf c n t):(zaM t.kds).Nodup:=h.ris.nodup
theorem Wf.few {c n:Nat} {t:Tr} (h:Wf c n t):t.kds.length≤c+1:=by cases h; assumption
theorem Wf.wfew {c n:Nat} {t:Tr} (h:Wf c n t):t.wds.length≤3 * c+3:=by cases h; assumption
theorem Wf.mk' {c n:Nat} {t:Tr} (hk:∀ k ∈ t.kds,Wf c n k) (hp:∀ k ∈ t.kds,zX k.lab=true) (hn:Ris (zaM t.kds)) (hl:t.kds.length≤c+1) (hw:t.wds.length≤3 * c+3):Wf c (n+1) t:=by
  cases t with
  | node l ws ks=>exact .mk hk hp hn hl hw
theorem Wf.up {c n:Nat} {t:Tr} (h:Wf c n t):∀ {d m:Nat},c≤d→n≤m→Wf d m t:=by
  induction h with
  | @mk n l ws ks hk hp hn hl hw ih =>
    intro d m h1 h2
    obtain ⟨m',rfl⟩:∃ m',m=m'+1:=⟨m-1,by omega⟩
    exact .mk (fun k hk'=>ih k hk' h1 (by omega)) hp hn (by omega) (by omega)
theorem Wf.kw {c n:Nat} {t k:Tr} {l:List Nat} (h:Wf c (n+1) t) (e:zb l t.kds=some k):Wf c n k:=h.kid k (za3 e).1
theorem Wf.at {c:Nat}:∀ {p:Pl} {n:Nat} {t nd:Tr},Wf c n t→zq t p=some nd→p.length<n∧Wf c (n-p.length) nd
  | [],n,t,nd,h,e=>by
    obtain ⟨m,rfl⟩:=h.pos; simp only [zq,Option.some.injEq] at e; subst e
    exact ⟨by simp,by simpa using h⟩
  | l :: p,n,t,nd,h,e=>by
    obtain ⟨m,rfl⟩:=h.pos; simp only [zq] at e
    cases hk:zb l t.kds with
    | none=>rw [hk] at e; cases e
    | some k =>
      rw [hk] at e; obtain ⟨a,b⟩:=Wf.at (h.kw hk) e; rw [List.length_cons]
      refine ⟨by omega,?_⟩
      rw [show m+1-(p.length+1)=m-p.length by omega]
      exact b
theorem zcN {α:Type} {f g:α→Nat}:∀ {l:List α},(∀ x ∈ l,f x=g x)→(l.map f).sum=(l.map g).sum
  | [],_=>rfl
  | x :: l,h=>by
    rw [List.map_cons,List.map_cons,List.sum_cons,List.sum_cons,h x List.mem_cons_self,zcN fun y hy=>h y (List.mem_cons_of_mem _ hy)]
mutual
def cnt:Tr→Nat
  | .node _ _ ks=>1+zo0 ks
def zo0:List Tr→Nat
  | []=>0
  | k :: ks=>cnt k+zo0 ks
end
theorem zmn:∀ ks:List Tr,zo0 ks=(ks.map cnt).sum
  | []=>by simp [zo0]
  | k :: ks=>by simp [zo0,zmn ks]
theorem zcC (t:Tr):cnt t=1+(t.kds.map cnt).sum:=by
  cases t with
  | node l ws ks=>simp [cnt,zmn,Tr.kds]
mutual
theorem zc5:∀ (t:Tr) (p:Pl),(zde t p).length=cnt t
  | .node l ws ks,p=>by simp only [zde,cnt,List.length_cons,zhA ks p]; omega
theorem zhA:∀ (ks:List Tr) (p:Pl),(zhB ks p).length=zo0 ks
  | [],p=>by simp [zhB,zo0]
  | k :: ks,p=>by simp only [zhB,zo0,List.length_append,zc5 k _,zhA ks p]
end
theorem zor {c:Nat}:∀ {n:Nat} {t:Tr} {p q:Pl},Wf c n t→q ∈ zde t p→∃ r nd,q=p ++ r∧zq t r=some nd
  | 0,t,p,q,h,_=>by cases h
  | n+1,t,p,q,h,hq=>by
    rw [zd4] at hq
    rcases List.mem_cons.mp hq with rfl | hq
    · exact ⟨[],t,by simp,by simp [zq]⟩
    · obtain ⟨k,hk,hq⟩:=List.mem_flatMap.mp hq
      obtain ⟨r,nd,e,ea⟩:=zor (h.kid k hk) hq
      exact ⟨k.lab :: r,nd,by rw [e]; simp,by simp only [zq,zbC h.nd hk]; exact ea⟩
theorem zir {α:Type} (f:α→Nat) (a b:List α):((a ++ b).map f).sum=(a.map f).sum+(b.map f).sum:=by rw [List.map_append,List.sum_append]
theorem zgy (f:Tr→Nat):∀ {ks' ks:List Tr},(zaM ks').Nodup→(∀ k ∈ ks',k ∈ ks)→(ks'.map f).sum≤(ks.map f).sum
  | [],ks,_,_=>by simp
  | k :: ks',ks,hn,h=>by
    unfold zaM at hn; rw [List.map_cons,List.nodup_cons] at hn; obtain ⟨a,b,e⟩:=List.append_of_mem (h k List.mem_cons_self)
    have ih:=zgy f (ks':=ks') (ks:=a ++ b) hn.2 fun x hx=>by
      have hm:=h x (List.mem_cons_of_mem _ hx); rw [e] at hm
      rcases List.mem_append.mp hm with z | z
      · exact List.mem_append_left _ z
      · rcases List.mem_cons.mp z with z | z
        · exact absurd (List.mem_map_of_mem hx) (by rw [z]; exact hn.1)
        · exact List.mem_append_right _ z
    rw [e,zir,List.map_cons,List.sum_cons,List.map_cons,List.sum_cons]; rw [zir] at ih; omega
theorem ziq {α:Type}:∀ l:List α,(l.map fun _=>1).sum=l.length
  | []=>rfl
  | a :: l=>by rw [List.map_cons,List.sum_cons,ziq l,List.length_cons]; omega
theorem zgx {α:Type} (f:α→Nat) {a b:List α} (h:a.Sublist b):(a.map f).sum≤(b.map f).sum:=by
  induction h with
  | slnil=>simp
  | cons x h ih=>rw [List.map_cons,List.sum_cons]; omega
  | cons_cons x h ih=>rw [List.map_cons,List.sum_cons,List.map_cons,List.sum_cons]; omega
structure KidsOk (ks ks':List Tr):Prop where
  ris:Ris (zaM ks')
  mem:∀ k ∈ ks',k ∈ ks
  len:ks'.length≤ks.length
  cnt:(ks'.map cnt).sum≤(ks.map cnt).sum
theorem KidsOk.of {ks ks':List Tr} (h1:Ris (zaM ks')) (h2:∀ k ∈ ks',k ∈ ks):KidsOk ks ks' :=
  ⟨h1,h2,by have:=zgy (fun _=>1) h1.nodup h2; rwa [ziq,ziq] at this,zgy _ h1.nodup h2⟩
theorem KidsOk.nd {ks ks':List Tr} (h:KidsOk ks ks'):(zaM ks').Nodup:=h.ris.nodup
theorem zqd {ks:List Tr} {L:List (List Nat)} (h1:Ris L) (h2:∀ l,l ∈ L→l ∈ zaM (ddp ks)):KidsOk ks (zgM L (ddp ks)):=by
  refine .of ?_ fun k hk=>(zfW ks).mem k (zeg hk)
  rw [zhE h2]; exact h1
def zdf (ks:List Tr):List Tr:=zgM (zfh (zaM (ddp ks))) (ddp ks)
theorem zdN {ks:List Tr} (hp:∀ k ∈ ks,zX k.lab=true):KidsOk ks (zdf ks):=by
  refine zqd (zhr (zfW ks).nd fun l hl=>?_) fun l hl=>(zcp _ _).mp hl
  obtain ⟨k,hk,rfl⟩:=List.mem_map.mp hl; exact hp k ((zfW ks).mem k hk)
theorem zen {ks:List Tr} (hn:(zaM ks).Nodup) {x:Tr}:x ∈ zdf ks↔x ∈ ks:=by
  constructor
  · intro h
    exact (zfW ks).mem x (zeg h)
  · intro h
    have hl:=(zfW ks).cov x h; obtain ⟨k,hk⟩:=zc8 hl; obtain ⟨k1,k2⟩:=za3 hk; have e1:=zbC hn ((zfW ks).mem k k1); have e2:=zbC hn h; rw [k2,e2] at e1; rw [← Option.some.inj e1] at hk; exact List.mem_filterMap.mpr ⟨x.lab,(zcp _ _).mpr hl,hk⟩
def made:Tr→Pl→Pl→List Tr→Tr
  | t,[],ws,ks=>.node t.lab ws ks
  | t,l :: p,ws,ks=>.node t.lab t.wds (t.kds.map fun k=>if k.lab=l then made k p ws ks else k)
theorem zce (t:Tr) (p ws:Pl) (ks:List Tr):(made t p ws ks).lab=t.lab:=by cases p <;> simp [made,Tr.lab]
theorem zfI {l:List Nat} {p ws:Pl} {ks:List Tr} (r:List Tr):zaM (r.map fun k=>if k.lab=l then made k p ws ks else k)=zaM r:=by
  unfold zaM; rw [List.map_map]
  refine List.map_congr_left fun k _=>?_
  simp only [Function.comp]; split
  · exact zce _ _ _ _
  · rfl
theorem zgZ {c:Nat} {ws:Pl} {ks:List Tr}:∀ {p:Pl} {n:Nat} {t nd:Tr},Wf c n t→zq t p=some nd→Wf c (n-p.length) (.node nd.lab ws ks)→Wf c n (made t p ws ks)
  | [],n,t,nd,h,e,h'=>by
    simp only [zq,Option.some.injEq] at e; subst e
    simpa [made] using h'
  | l :: p,n,t,nd,h,e,h'=>by
    obtain ⟨m,rfl⟩:=h.pos; simp only [zq] at e
    cases hk:zb l t.kds with
    | none=>rw [hk] at e; cases e
    | some k =>
      rw [hk] at e
      rw [List.length_cons,show m+1-(p.length+1)=m-p.length by omega] at h'
      have hm:=zgZ (h.kw hk) e h'; simp only [made]
      have each:∀ k' ∈ (t.kds.map fun k=>if k.lab=l then made k p ws ks else k),Wf c m k'∧zX k'.lab=true:=by
        intro k' hk'; obtain ⟨k0,h0,rfl⟩:=List.mem_map.mp hk'
        by_cases e0:k0.lab=l
        · have:k0=k:=by
            have:=zbC h.nd h0
            rw [e0,hk] at this; exact (Option.some.inj this).symm
          rw [if_pos e0]
          exact ⟨by rw [this]; exact hm,by rw [zce]; exact h.plab k0 h0⟩
        · rw [if_neg e0]
          exact ⟨h.kid k0 h0,h.plab k0 h0⟩
      exact .mk (fun k' h=>(each k' h).1) (fun k' h=>(each k' h).2) (by rw [zfI]; exact h.ris) (by rw [List.length_map]; exact h.few) h.wfew
theorem zk8 {l:List Nat} {f g:Tr→Nat}:∀ {ks:List Tr} {k:Tr},(zaM ks).Nodup→zb l ks=some k→(ks.map fun k'=>if k'.lab=l then f k' else g k').sum+g k=(ks.map g).sum+f k
  | k' :: ks,k,hn,h=>by
    unfold zaM at hn; rw [List.map_cons,List.nodup_cons] at hn; unfold zb at h; rw [List.find?_cons] at h; simp only [List.map_cons,List.sum_cons]
    by_cases e:k'.lab=l
    · simp only [e,decide_true,Option.some.injEq] at h
      subst h
      have:(ks.map fun k'=>if k'.lab=l then f k' else g k').sum=(ks.map g).sum:=zcN fun x hx=>by
        have:¬ x.lab=l:=fun z=>hn.1 (by rw [e,← z]; exact List.mem_map_of_mem hx)
        simp [this]
      simp only [e,if_true,this]; omega
    · simp only [e,decide_false] at h
      have:=zk8 (f:=f) (g:=g) (ks:=ks) hn.2 (show zb l ks=some k from h)
      simp only [e,if_false]; omega
theorem zfa {c:Nat} {ws:Pl} {ks:List Tr}:∀ {p:Pl} {n:Nat} {t nd:Tr},Wf c n t→zq t p=some nd→cnt (made t p ws ks)+(nd.kds.map cnt).sum=cnt t+(ks.map cnt).sum
  | [],n,t,nd,h,e=>by
    simp only [zq,Option.some.injEq] at e; subst e; rw [zcC t,zcC (made _ _ _ _)]; simp only [made,Tr.kds]; omega
  | l :: p,n,t,nd,h,e=>by
    obtain ⟨m,rfl⟩:=h.pos; simp only [zq] at e
    cases hk:zb l t.kds with
    | none=>rw [hk] at e; cases e
    | some k =>
      rw [hk] at e; have ih:=zfa (ws:=ws) (ks:=ks) (h.kw hk) e
      have s1:=zk8 (f:=fun k=>cnt (made k p ws ks)) (g:=cnt) h.nd hk
      rw [zcC t,zcC (made _ _ _ _)]; simp only [made,zbt]
      rw [List.map_map,show (cnt ∘ fun k=>if k.lab=l then made k p ws ks else k)=fun k=>if k.lab=l then cnt (made k p ws ks) else cnt k from funext fun k=>by simp only [Function.comp]; split <;> rfl]
      omega
theorem ze5:∀ (L:List (List Nat)) (acc:List Tr),(zaM (zgM L acc)).Sublist L
  | [],acc=>.slnil
  | l :: L,acc=>by
    unfold zgM; rw [List.filterMap_cons]
    cases e:zb l acc with
    | none=>exact .cons _ (ze5 L acc)
    | some k =>
      unfold zaM; rw [List.map_cons,(za3 e).2]; exact .cons_cons _ (ze5 L acc)
theorem zgL {L:List (List Nat)} {ks:List Tr} (h1:Ris L) (h2:Ris (zaM ks)) (h3:∀ l ∈ zaM ks,l ∈ L):zgM L ks=ks:=by
  have e:zaM (zgM L ks)=zaM ks:=by
    refine zgC (List.Pairwise.sublist (ze5 L ks) h1) h2 fun l=>?_
    constructor
    · intro h
      obtain ⟨k,hk,rfl⟩:=List.mem_map.mp h; exact List.mem_map_of_mem (zeg hk)
    · intro h
      obtain ⟨k,hk⟩:=zc8 h
      have h':k ∈ zgM L ks:=List.mem_filterMap.mpr ⟨l,h3 l h,hk⟩
      rw [← (za3 hk).2]; exact List.mem_map_of_mem h'
  have hn:=h2.nodup
  have hm:∀ k ∈ zgM L ks,k ∈ ks:=fun k hk=>zeg hk
  have:∀ a b:List Tr,zaM a=zaM b→(∀ k ∈ a,k ∈ ks)→(∀ k ∈ b,k ∈ ks)→a=b:=by
    intro a
    induction a with
    | nil=>intro b h _ _; cases b with
      | nil=>rfl
      | cons _ _=>simp [zaM] at h
    | cons x a ih =>
      intro b h ha hb
      cases b with
      | nil=>simp [zaM] at h
      | cons y b =>
        unfold zaM at h; rw [List.map_cons,List.map_cons] at h
        injection h with h1 h2
        have e1:=zbC hn (ha x List.mem_cons_self); have e2:=zbC hn (hb y List.mem_cons_self); rw [h1,e2] at e1
        rw [Option.some.inj e1,ih b h2 (fun k hk=>ha k (List.mem_cons_of_mem _ hk)) fun k hk=>hb k (List.mem_cons_of_mem _ hk)]
  exact this _ _ e hm fun k hk=>hk
def far:Nat→Tr→Tr→Nat
  | 0,_,_=>0
  | n+1,t,u=>(if t.wds=u.wds then 0 else 1)+(t.kds.map fun k=>match zb k.lab u.kds with
      | none=>1
      | some k'=>min 2 (far n k k')).sum+(u.kds.map fun k=>match zb k.lab t.kds with
      | none=>1
      | some _=>0).sum
def kd (n:Nat) (t u:Tr) (l:List Nat):Nat:=match zb l t.kds,zb l u.kds with
  | some k,some k'=>min 2 (far n k k')
  | _,_=>1
theorem zhn {f:List Nat→Nat}:∀ {l:List (List Nat)} {a:List Nat},a ∈ l→(l.map f).sum=f a+((l.erase a).map f).sum
  | b :: l,a,h=>by
    by_cases e:b=a
    · subst e
      simp
    · rw [List.erase_cons_tail (by simpa using e)]
      rcases List.mem_cons.mp h with z | z
      · exact absurd z.symm e
      · rw [List.map_cons,List.sum_cons,List.map_cons,List.sum_cons,zhn z]
        omega
theorem zk9 {f:List Nat→Nat}:∀ {l m:List (List Nat)},l.Nodup→m.Nodup→(∀ x,x ∈ l↔x ∈ m)→(l.map f).sum=(m.map f).sum
  | [],m,_,_,h=>by
    cases m with
    | nil=>rfl
    | cons b m=>exact absurd ((h b).mpr List.mem_cons_self) (by simp)
  | a :: l,m,hl,hm,h=>by
    have ha:a ∈ m:=(h a).mp List.mem_cons_self
    rw [List.nodup_cons] at hl
    rw [zhn ha,List.map_cons,List.sum_cons,zk9 hl.2 (hm.erase a) fun x=>?_]
    rw [List.Nodup.mem_erase_iff hm]; constructor
    · intro hx
      exact ⟨fun z=>hl.1 (z ▸ hx),(h x).mp (List.mem_cons_of_mem _ hx)⟩
    · rintro ⟨h1,h2⟩
      rcases List.mem_cons.mp ((h x).mpr h2) with z | z
      · exact absurd z h1
      · exact z
def uni (t u:Tr):List (List Nat):=zaM t.kds ++ (zaM u.kds).filter fun l=>decide (l ∉ zaM t.kds)
theorem zk3 {t u:Tr} {l:List Nat}:l ∈ uni t u↔l ∈ zaM t.kds∨l ∈ zaM u.kds:=by
  unfold uni; rw [List.mem_append,List.mem_filter]; simp only [decide_eq_true_eq]
  by_cases h:l ∈ zaM t.kds
  · simp [h]
  · simp [h]
theorem zhl {t u:Tr} (h1:(zaM t.kds).Nodup) (h2:(zaM u.kds).Nodup):(uni t u).Nodup:=by
  unfold uni; rw [List.nodup_append]
  refine ⟨h1,h2.sublist List.filter_sublist,fun a ha b hb e=>?_⟩
  have:=(List.mem_filter.mp hb).2
  simp only [decide_eq_true_eq] at this; exact this (e ▸ ha)
theorem zga {f:List Nat→Nat} {p:List Nat→Bool}:∀ l:List (List Nat),((l.filter p).map f).sum=(l.map fun x=>if p x=true then f x else 0).sum
  | []=>rfl
  | a :: l=>by
    rw [List.filter_cons,List.map_cons,List.sum_cons,← zga l]
    cases p a <;> simp
theorem zl6 {n:Nat} {t u:Tr} (h1:(zaM t.kds).Nodup) (h2:(zaM u.kds).Nodup):far (n+1) t u=(if t.wds=u.wds then 0 else 1)+((uni t u).map (kd n t u)).sum:=by
  unfold uni; rw [List.map_append,List.sum_append,zga]; unfold zaM; rw [List.map_map,List.map_map]; simp only [far]; rw [Nat.add_assoc]
  congr 1
  congr 1
  · refine zcN fun k hk=>?_
    simp only [Function.comp,kd,zbC h1 hk]
    cases zb k.lab u.kds <;> rfl
  · refine zcN fun k hk=>?_
    simp only [Function.comp]
    cases e:zb k.lab t.kds with
    | none =>
      have:k.lab ∉ List.map Tr.lab t.kds:=zbs.mp e
      simp [this,kd,e]
    | some k' =>
      have:k.lab ∈ List.map Tr.lab t.kds:=by
        have:=za3 e
        rw [← this.2]; exact List.mem_map_of_mem this.1
      simp [this]
theorem zkP {n:Nat} {t u:Tr} {L:List (List Nat)} (h1:(zaM t.kds).Nodup) (h2:(zaM u.kds).Nodup) (hL:L.Nodup) (hm:∀ l,l ∈ L↔l ∈ zaM t.kds∨l ∈ zaM u.kds):far (n+1) t u=(if t.wds=u.wds then 0 else 1)+(L.map (kd n t u)).sum:=by
  rw [zl6 h1 h2,zk9 (zhl h1 h2) hL fun x=>by rw [zk3,hm]]
theorem zn6 {c d:Nat}:∀ {n:Nat} {t u:Tr},Wf c n t→Wf d n u→far n t u=far n u t
  | 0,t,u,h,_=>by cases h
  | n+1,t,u,h1,h2=>by
    rw [zl6 h1.nd h2.nd,zkP h2.nd h1.nd (zhl h1.nd h2.nd) fun l=>by rw [zk3,Or.comm]]
    congr 1
    · by_cases e:t.wds=u.wds
      · rw [if_pos e,if_pos e.symm]
      · rw [if_neg e,if_neg (fun z=>e z.symm)]
    · congr 1
      refine List.map_congr_left fun l _=>?_
      unfold kd
      cases e1:zb l t.kds with
      | none=>cases zb l u.kds <;> rfl
      | some k=>cases e2:zb l u.kds with
        | none=>rfl
        | some k'=>simp only [zn6 (h1.kw e1) (h2.kw e2)]
theorem zn7 {c:Nat}:∀ {n:Nat} {t:Tr},Wf c n t→far n t t=0
  | 0,t,h=>by cases h
  | n+1,t,h=>by
    simp only [far,if_true,Nat.zero_add]
    have s1:(t.kds.map fun k=>match zb k.lab t.kds with
      | none=>1
      | some k'=>min 2 (far n k k')).sum=(t.kds.map fun _=>0).sum:=zcN fun k hk=>by
        simp only [zbC h.nd hk,zn7 (h.kid k hk)]; rfl
    have s2:(t.kds.map fun k=>match zb k.lab t.kds with
      | none=>1
      | some _=>0).sum=(t.kds.map fun _=>0).sum:=zcN fun k hk=>by
        simp only [zbC h.nd hk]
    rw [s1,s2]
    have:∀ l:List Tr,(l.map fun _=>0).sum=0:=fun l=>by induction l <;> simp_all
    rw [this]
theorem zlS {c:Nat} {l:List Nat} {ws:Pl} (h:ws.length≤3 * c+3):Wf c 1 (.node l ws []):=.mk (fun k hk=>nomatch hk) (fun k hk=>nomatch hk) .nil (by simp) h
theorem ziT {c n:Nat} {l:List Nat} {ws:Pl} {ks ks':List Tr} (h:KidsOk ks ks') (hk:∀ k ∈ ks,Wf c n k) (hp:∀ k ∈ ks,zX k.lab=true) (hl:ks.length≤c+1) (hw:ws.length≤3 * c+3):Wf c (n+1) (.node l ws ks') :=
  .mk (fun k hk'=>hk k (h.mem k hk')) (fun k hk'=>hp k (h.mem k hk')) h.ris (by have:=h.len; omega) hw
theorem zjM {l:List Nat} {ws:Pl} (ks:List Tr):cnt (.node l ws ks)=1+(ks.map cnt).sum:=by rw [zcC]; rfl
theorem zrG {c:Nat} {t nd k:Tr} {p:Pl} {ks':List Tr} (h:Wf c 9 t) (hn:zq t p=some nd) (h6:p.length<6) (hk:Wf 1 3 k) (hp:zX k.lab=true) (ok:KidsOk (nd.kds ++ [k]) ks'):Wf (c+1) 9 (made t p nd.wds ks'):=by
  obtain ⟨a,b⟩:=h.at hn; obtain ⟨m,hm⟩:=b.pos
  refine zgZ (h.up (by omega) (Nat.le_refl _)) hn ?_
  rw [hm] at b ⊢
  refine ziT ok (fun k' hk'=>?_) (fun k' hk'=>?_) (by have:=b.few; simp; omega) (by have:=b.wfew; omega)
  · rcases List.mem_append.mp hk' with z | z
    · exact (b.kid k' z).up (by omega) (Nat.le_refl _)
    · rw [List.mem_singleton.mp z]; exact hk.up (by omega) (by omega)
  · rcases List.mem_append.mp hk' with z | z
    · exact b.plab k' z
    · rw [List.mem_singleton.mp z]; exact hp
theorem zpr {c:Nat} {t nd k:Tr} {p:Pl} {ks':List Tr} {ws:Pl} (h:Wf c 9 t) (hn:zq t p=some nd) (ok:KidsOk (nd.kds ++ [k]) ks'):cnt (made t p ws ks')≤cnt t+cnt k:=by
  have:=zfa (ws:=ws) (ks:=ks') h hn
  have:=ok.cnt
  rw [zir] at this; simp only [List.map_cons,List.map_nil,List.sum_cons,List.sum_nil] at this; omega
theorem zrX {c:Nat} {t nd:Tr} {p:Pl} {ks':List Tr} (h:Wf c 9 t) (hn:zq t p=some nd) (sb:ks'.Sublist nd.kds):Wf (c+1) 9 (made t p nd.wds ks'):=by
  obtain ⟨a,b⟩:=h.at hn; obtain ⟨m,hm⟩:=b.pos
  refine zgZ (h.up (by omega) (Nat.le_refl _)) hn ?_
  rw [hm] at b ⊢
  exact .mk (fun k hk=>(b.kid k (sb.subset hk)).up (by omega) (Nat.le_refl _)) (fun k hk=>b.plab k (sb.subset hk)) (List.Pairwise.sublist (sb.map _) b.ris) (by have:=b.few; have:=sb.length_le; omega) (by have:=b.wfew; omega)
theorem zpQ {c:Nat} {t nd:Tr} {p ws:Pl} {ks':List Tr} (h:Wf c 9 t) (hn:zq t p=some nd) (sb:ks'.Sublist nd.kds):cnt (made t p ws ks')≤cnt t:=by
  have:=zfa (ws:=ws) (ks:=ks') h hn
  have:=zgx cnt sb
  omega
theorem zq2 {c:Nat} {t nd:Tr} {p ws:Pl} (h:Wf c 9 t) (hn:zq t p=some nd) (hw:ws.length≤nd.wds.length+3∨ws.length≤3):Wf (c+1) 9 (made t p ws nd.kds):=by
  obtain ⟨a,b⟩:=h.at hn; obtain ⟨m,hm⟩:=b.pos
  refine zgZ (h.up (by omega) (Nat.le_refl _)) hn ?_
  rw [hm] at b ⊢
  exact .mk (fun k hk=>(b.kid k hk).up (by omega) (Nat.le_refl _)) (fun k hk=>b.plab k hk) b.ris (by have:=b.few; omega) (by have:=b.wfew; omega)
end M71
namespace PySem
section
variable {prog:Program} {w:World} {A:Around} {E:Value→Shared→Prop} {s:Shared} {dd:Addr} {ob:Obj} {ens:Array DictEntry} {tick:Nat}
open PyProof.Rows in
theorem zjk {Q:List Value→Shared→Prop} (calm:A.handled=none) (hsys:(dd == sysModules)=false) (hob:s.heap.get? dd=some ob) (hex:ob.ExactDict) (hdt:ob.data=.dict ens tick) (few:ens.size≤sizeLine)
    (fin:∀ h2 tk acc,(∀ b o,s.heap.get? b=some o→h2.get? b=some o)→ItemsOf (fun i v=>∃ e,ens[i]?=some e∧v=e.key) acc ens.size→Q acc.toList { s with heap:=h2,toks:=tk }) :
    wpAny (model prog w) A (collect (.ref dd)) Q E s:=by
  unfold collect; refine wpAny_bind (wpAny_runValue (codeAny_builtin entry_proto_collect' ?_))
  show wpAny _ _ (do again (.builtin "list.__iadd__" ⟨[← newList [],.ref dd],[]⟩)) _ _ s
  refine wpAny_bind (wpAny_newList (wpAny_pure ⟨Code.quiet_builtin _ (by decide +kernel),codeAny_builtin entry_list_iadd' ?_⟩))
  show wpAny _ _ (Builtin.List.listExtendWith (.ref s.heap.objs.size) (.ref dd) (.ref s.heap.objs.size)) _ _ { s with heap:=s.heap.push (seqObj "list" #[] 0) }
  have hne:s.heap.objs.size≠dd:=Ne.symm (Nat.ne_of_lt (Heap.lt_size hob))
  refine zgn (prog:=prog) (w:=w) (A:=A) (R:=fun r s'=>match r with
      | Except.ok (Flow.ret v) => wpAny (model prog w) A (match v with
            | Value.ref a=>do
              let __do_lift ← load a
              match __do_lift.data with
                | Data.seq xs epoch=>pure xs.toList
                | x=>unsupported "internal:collect"
            | x=>unsupported "internal:collect") Q E s'
      | Except.ok a=>False
      | Except.error e=>E e s') (c₀:=0) (s:={ s with heap:=s.heap.push (seqObj "list" #[] 0) }) calm hsys (Heap.get?_push_of_some _ hob) hex hdt few hne (Heap.get?_push_size _ rfl) fun h2 tk acc c2 kp hS hit=>?_
  show wpAny (model prog w) A (do
      let o ← load s.heap.objs.size
      match o.data with
      | .seq xs _=>pure xs.toList
      | _=>unsupported "internal:collect") Q E { s with heap:=h2,toks:=tk }
  refine wpAny_bind (wpAny_load hS ?_)
  show wpAny _ _ (pure acc.toList) Q E _
  exact wpAny_pure (fin h2 tk acc (fun b o e=>kp b o (Nat.ne_of_lt (Heap.lt_size e)) (Heap.get?_push_of_some _ e)) hit)
end
end PySem
namespace L2
open PySem PySem.Spec PyProof.Rows PySem.W
theorem zlC {P:Program} {w:World} {es:List DictEntry} {vs:List (Key × Value)} (p:Pairs (zbr P w) es vs):∀ (i:Nat) kv,vs[i]?=some kv→∃ e,es[i]?=some e∧zby (kV kv.1) e.key:=by
  induction p with
  | nil=>intro i kv h; cases i <;> cases h
  | @cons e kv0 es vs h1 h2 t ih =>
    intro i kv h
    cases i with
    | zero =>
      cases h; refine ⟨e,rfl,?_⟩
      rcases za7 (show zi3 kv0.1 e.key=true from h1) with ⟨j,tk,e1,e2⟩ | ⟨x,tk,e1,e2⟩
      · rw [e1,e2]; exact ⟨tk,rfl⟩
      · rw [e1,e2]; exact ⟨tk,rfl⟩
    | succ i=>exact ih i kv (by simpa using h)
section
variable {X:Cx} {pins:List (Addr × Obj)} {σ:St} {H:Hp} {s:Shared} {a:Addr}
theorem Inv.keysK {kvs:List (Key × V)} (I:Inv X pins σ H s) (e:Rd H a (.dK kvs)):kvs.length≤sizeLine∧(a == sysModules)=false∧∃ (o:Obj) (es:Array DictEntry) (ep:Nat),s.heap.get? a=some o∧o.ExactDict∧o.data=.dict es ep∧es.size=kvs.length ∧
    ∀ (acc:Array Value),ItemsOf (fun i v=>∃ e,es[i]?=some e∧v=e.key) acc es.size→za5 (kvs.map fun p=>kV p.1) acc.toList:=by
  obtain ⟨z,hd,vs,rel,o,es,ep,ho,hx,hdat,_,pr,_⟩:=zl9 I.hok e; have hl:=rel.length
  have hs:es.size=kvs.length:=by
    have:=pr.length
    rw [Array.length_toList] at this; omega
  refine ⟨z,hd,o,es,ep,ho,hx,hdat,hs,fun acc hit=>?_⟩
  obtain ⟨hsz,hit⟩:=hit
  refine PL.paired_of (by simp; omega) fun i x v h1 h2=>?_
  rw [List.getElem?_map] at h1
  cases hk:kvs[i]? with
  | none=>rw [hk] at h1; cases h1
  | some kv =>
    rw [hk] at h1; cases h1
    have hi:i<vs.length:=by rw [← hl]; exact (List.getElem?_eq_some_iff.mp hk).1
    have hq:=PL.paired_get i rel hk (List.getElem?_eq_getElem hi); obtain ⟨en,he,hr⟩:=zlC pr i _ (List.getElem?_eq_getElem hi); rw [Array.getElem?_toList] at h2 he; obtain ⟨en',he',rfl⟩:=hit i v h2; rw [he] at he'; cases he'
    show zby (kV kv.1) en.key
    rw [hq.1]; exact hr
theorem zkQ (hc:X.calm=true):zdh X (.type "list") (fun xs H Q=>∃ a kvs,xs=[.ref a]∧Rd H a (.dK kvs)∧∀ l,H l=none→Q (.ref l) (upd H l (.lst (kvs.map fun p=>kV p.1)))):=by
  intro pins s σ H xs us Q I r h; obtain ⟨a,kvs,rfl,e,q⟩:=h; obtain ⟨u,rfl,rx⟩:=zdj r; cases rx; obtain ⟨z,hd,o,es,ep,ho,hx,hdat,hs,hk⟩:=I.keysK e
  refine znA (I.ok.hd hc) hd ho hx hdat (by rw [hs]; exact z) fun h2 tk acc c2 kp e2 hit=>?_
  have hys:=hk acc hit
  have I2:=I.laid (t':=tk) (o:=.lst (kvs.map fun p=>kV p.1)) kp (Nat.le_refl _) (show zbT X.prog X.w _ h2 _ (.lst (kvs.map fun p=>kV p.1)) from ⟨by rw [List.length_map]; exact z,acc.toList,c2,hys,by simpa using e2⟩)
  exact ⟨.ref s.heap.objs.size,_,I2,rfl,q _ (I.hok.fresh (Nat.le_refl _))⟩
theorem zuk (hu:X.A.units+1<cLine):IxR X (fun x y H Q=>∃ a v,x=.ref a∧zuP H a y (some v)∧Q v H):=by
  intro value slice pins s σ H x y v u Q I rx ry h hs; obtain ⟨a,w,rfl,g,q⟩:=h; cases rx
  exact tail_any (zjg I g) PySem.F.slot_dict_getitem.lookup (zmf hu I g ry fun w' s3 I3 rw'=>⟨w,H,I3,rw',q⟩) hs
theorem zog {k:Key} {v:V} {u r:Value} {kvs:List (Key × V)} {A:Around} {E:Value→Shared→Prop} {Q:Value→Shared→Prop} (I:Inv X pins σ H s) (e:H a=some (.dK kvs)) (ry:zby (kV k) u) (rv:zby v r) (hl:kvs.length<sizeLine)
    (h1:∀ v' w' s',zf8 kvs k=some v'→Inv X pins σ H s'→zby v' w'→Q w' s') (h2:zf8 kvs k=none→∀ s',Inv X pins σ (upd H a (.dK (kvs ++ [(k,v)]))) s'→Q r s') :
    wpAny (model X.prog X.w) A (call (.builtin "dict.setdefault") [.ref a,u,r]) Q E s:=by
  obtain ⟨z,hd,vs,rel,dd⟩:=zsB I.hok e; have rk:=rel.val k
  refine call_meetsIn PySem.F.slot_dict_setdefault dd.typeIs PySem.F.entry_dict_setdefault (PySem.F.args_dict_setdefault_3 _ _ _) (kt_meets_setdefault (zbr X.prog X.w) a (znT ry) hd r) ⟨vs,dd,by rw [← rel.length]; exact z,fun v' hv'=>?_,fun hn h' dd' hs=>?_⟩
  · rw [hv'] at rk
    cases hv:zf8 kvs k with
    | none=>rw [hv] at rk; exact rk.elim
    | some v''=>rw [hv] at rk; exact h1 v'' v' _ hv (I.tok _) rk
  · rw [hn] at rk
    cases hv:zf8 kvs k with
    | some v''=>rw [hv] at rk; exact rk.elim
    | none =>
      have he:∃ q,h'.get? a=some q:=let ⟨q,_,_,hq,_⟩:=dd'; ⟨q,hq⟩
      have ep:zjF kvs k v=kvs ++ [(k,v)]:=by
        unfold zjF; rw [zgt,hv]; rfl
      have rp:=rel.put k rv; rw [ep] at rp
      exact h2 hv _ (zjh I (by rw [e]; exact True.intro) hs he (zoW (by rw [List.length_append,List.length_singleton]; omega) hd rp dd'))
end
def zmO (td ty tx:TE):TE:=fun σ H Q=>td σ H fun x H1=>∃ a,x=.ref a∧IsD H1 a∧ty σ H1 fun y H2=>tx σ H2 fun z H3=>∃ kvs k,H3 a=some (.dK kvs)∧y=kV k∧kvs.length<sizeLine ∧
  (∀ v,zf8 kvs k=some v→Q v H3)∧(zf8 kvs k=none→Q z (upd H3 a (.dK (kvs ++ [(k,z)]))))
section
variable {X:Cx} {o e f:Expr} {apos cpos:Pos} {td ty tx:TE}
theorem zky (ho:PE X o td) (he:PE X e ty) (hf:PE X f tx) (m:M2 X o "setdefault" apos e f cpos):PE X (.Call (.Attribute o "setdefault" apos) [e,f] [] cpos) (zmO td ty tx):=by
  intro pins s σ H Q I h
  refine wpAny_Call_method m.base m.few m.line PySem.F.plainAttrs_dict PySem.F.slot_dict_setdefault PySem.F.type_dict_setdefault (thn (ho pins s σ H _ I h) fun u s1 ⟨x,H1,I1,rx,a,ex,d,q1⟩=>?_)
  subst ex
  obtain rfl:u=Value.ref a:=rx
  obtain ⟨t1,t2,_⟩:=zsq I1 d; refine ⟨t1,t2,?_⟩; rw [m.trees]
  refine Calls.callWith_builtin rfl (Calls.evalArgs_plain (Calls.spliced_cons (thn (he pins s1 σ H1 _ I1 q1) fun iv s2 ⟨y,H2,I2,ry,q2⟩ =>
    Calls.spliced_cons (thn (hf pins s2 σ H2 _ I2 q2) fun fv s3 ⟨z,H3,I3,rz,kvs,k,ea,ey,hl,q3,q4⟩=>Calls.spliced_nil ?_))))
  subst ey
  exact zog I3 ea ry rz hl (fun v' w' s4 hv I4 rw'=>⟨v',H3,I4,rw',q3 v' hv⟩) fun hv s4 I4=>⟨z,_,I4,rz,q4 hv⟩
end
theorem zlL {X:Cx}:MtR X "str.lstrip" (fun x xs H Q=>∃ z y,x=.str z∧xs=[.str y]∧z.length≤sizeLine∧Q (.str (Txt.lstripChars z y)) H):=by
  intro pins s σ H x xs v us Q I rx rs h; obtain ⟨z,y,rfl,rfl,hz,q⟩:=h; obtain ⟨t,rfl⟩:=rx; obtain ⟨u,rfl,t',rfl⟩:=zdj rs
  exact PySem.SC.lstripChars (fun t' k=>⟨.str _,H,I.tok _,⟨_,rfl⟩,q⟩) hz
end L2
namespace L2
open PySem PySem.Spec PyProof.Rows PySem.W
section
variable {X:Cx} {pins:List (Addr × Obj)} {σ:St} {H:Hp} {s:Shared} {h':Heap}
theorem zib {k:Nat} {f:Addr} {fd:FuncData} {ps:List Str} {sp:Sp} {u:Value} {xs:List V} {vs:List Value} {Q:VK} {E':Value→Shared→Prop} (F:FnOk X.prog X.w X.K X.mg X.base CX0 k f fd ps sp) (hr:Room (k+2) X.A) (hb:zdi X.K fd ps []) (h64:xs.length<64) (rv:za5 xs vs)
    (col:∀ {Q':List Value→Shared→Prop} {E2:Value→Shared→Prop},(∀ s1,Inv X pins σ H s1→Q' vs s1)→wpAny (model X.prog X.w) X.A.in1 (collect u) Q' E2 s)
    (h:zo5 sp (fun ks H'=>∃ lt,So.Ord lt∧zin X ks H' lt∧∀ p,H' p=none→Q (.ref p) (upd H' p (.lst (zcR lt xs)))) xs [] H) :
    wpAny (model X.prog X.w) X.A (call (.builtin "sorted") [u] [(Str.ofString "key",.ref f)]) (EP X pins σ Q) E' s:=by
  have hlen:=rv.length
  have h64':vs.length<64:=by omega
  refine call_function_entry_kw kind_sorted plain_sorted entry_sorted (ksk_s1 _ _) ?_
  unfold Builtin.«sorted»
  refine wpAny_bind (m:=checkCount "sorted" 1 1 _) (wpAny_pure ?_)
  refine wpAny_bind (col fun s1 I=>?_)
  refine wpAny_bind (wpAny_newList ?_ (by rw [sizeLine_eq]; omega))
  have hoL:(s1.heap.push (seqObj "list" vs.toArray 0)).get? s1.heap.objs.size=some (seqObj "list" vs.toArray 0):=Heap.get?_push_size _ rfl
  have hsz2:(s1.heap.push (seqObj "list" vs.toArray 0)).objs.size=s1.heap.objs.size+1:=size_push' _ _
  have keep:∀ b o,s1.heap.get? b=some o→(s1.heap.push (seqObj "list" vs.toArray 0)).get? b=some o:=fun b o q=>Heap.get?_push_of_some _ q
  show wpAny _ _ _ _ _ { s1 with heap:=s1.heap.push (seqObj "list" vs.toArray 0) }
  refine wpAny_bind (wpAny_holding (wpAny_call_entry_kw slot_list_sort ⟨_,hoL,rfl⟩ entry_list_sort ?body (ksk_l1 _ _)))
  case body =>
    show wpAny (model X.prog X.w) X.A.in1.in1 (Builtin.«list.sort» ⟨[.ref s1.heap.objs.size],[(Str.ofString "key",.ref f)]⟩) _ _ _
    rw [ksk_t1]
    refine So.srt_tree (s:={ s1 with heap:=s1.heap.push (seqObj "list" vs.toArray 0) }) hoL h64' fun e1 h' keep' size' hk0 ha0=>?_
    dsimp only at keep' size' hk0
    rw [hsz2] at size' hk0
    have hDk:s1.heap.objs.size+1+1≠s1.heap.objs.size:=by omega
    have hD0:s1.heap.objs.size≤s1.heap.objs.size:=Nat.le_refl _
    have hK0:s1.heap.objs.size≤s1.heap.objs.size+1+1:=by omega
    have fD:=I.fpOk (H':=H) hD0 (I.hok.fresh hD0); have fK:=I.fpOk (H':=H) hK0 (I.hok.fresh hK0); rw [hsz2]; generalize hkS:s1.heap.objs.size+1+1=kS at hk0 hDk fK; generalize hDD:s1.heap.objs.size=D at ha0 hDk fD
    have I0:Inv X pins σ H { s1 with heap:=h' }:=I.kept (t':=s1.toks) fun b u q=>keep' b u (fun z=>absurd (Heap.lt_size q) (by rw [z]; exact Nat.lt_irrefl _)) (keep b u q)
    have pin2:∀ {H':Hp} {s':Shared} {ks:List Value} {e:Nat},Inv X pins σ H' s'→s'.heap.get? kS=some (seqObj "list" ks.toArray e)→s'.heap.get? D=some (seqObj "list" #[] e1)→H' kS=none→H' D=none→Inv X ((kS,seqObj "list" ks.toArray e) :: (D,seqObj "list" #[] e1) :: pins) σ H' s':=fun I' g1 g2 n1 n2 =>
      I'.pins_of fun p hp=>by
        rcases List.mem_cons.mp hp with rfl | hp
        · exact ⟨g1,n1,fK.2.1,fK.2.2.1,fun v z=>by cases z⟩
        · rcases List.mem_cons.mp hp with rfl | hp
          · exact ⟨g2,n2,fD.2.1,fD.2.2.1,fun v z=>by cases z⟩
          · exact I'.pin p (List.mem_append_right _ hp)
    have unpin:∀ {H':Hp} {s':Shared} {ks:List Value} {e:Nat},Inv X ((kS,seqObj "list" ks.toArray e) :: (D,seqObj "list" #[] e1) :: pins) σ H' s'→Inv X pins σ H' s'∧(s'.heap.get? kS=some (seqObj "list" ks.toArray e)∧H' kS=none)∧(s'.heap.get? D=some (seqObj "list" #[] e1)∧H' D=none):=fun I'=>by
      have p1:=I'.pin (kS,_) (List.mem_append_right _ (.head _)); have p2:=I'.pin (D,_) (List.mem_append_right _ (.tail _ (.head _)))
      exact ⟨I'.pins_of fun p hp=>I'.pin p (List.mem_append_right _ (.tail _ (.tail _ hp))),⟨p1.1,p1.2.1⟩,⟨p2.1,p2.2.1⟩⟩
    have fin3:∀ {H':Hp} {s':Shared} {ks:List Value} {e:Nat} {ys:List V} {out:List Value},Inv X ((kS,seqObj "list" ks.toArray e) :: (D,seqObj "list" #[] e1) :: pins) σ H' s'→za5 ys out→ys.length<64→(∀ p,H' p=none→Q (.ref p) (upd H' p (.lst ys)))→So.Fin3 D kS ks e e1 out (EP X pins σ Q (.ref D)) s':=fun {H' s' ks e ys out} I' r hy hq=>by
      obtain ⟨I2,⟨g1,n1⟩,⟨g2,n2⟩⟩:=unpin I'
      refine ⟨g1,g2,fun h2 c c2 kp sz q1 q2=>⟨.ref D,upd H' D (.lst ys),?_,rfl,hq D n2⟩⟩
      refine I2.turnedOwn (t':=s'.toks) (ch:=[kS,D]) (fun b hb=>?_) (by simp) (fun b u hb e=>kp b u (fun z=>hb (by simp [z])) (fun z=>hb (by simp [z])) e) ⟨by rw [sizeLine_eq]; omega,out,c2,r,q2⟩
      simp at hb
      rcases hb with rfl | rfl
      · exact ⟨n1,fK.2⟩
      · exact ⟨n2,fD.2⟩
    refine So.srt_rest (J:=fun ks e s'=>∃ (kv:List V) (H':Hp),za5 kv ks∧Inv X ((kS,seqObj "list" ks.toArray e) :: (D,seqObj "list" #[] e1) :: pins) σ H' s'∧zo5 sp (fun ks H'=>∃ lt,So.Ord lt∧zin X ks H' lt∧∀ p,H' p=none→Q (.ref p) (upd H' p (.lst (zcR lt xs)))) (xs.drop ks.length) kv H') h64' ?_ ?_ ?_ ?_
    · rintro ks e s' ⟨kv,H',_,I',_⟩
      exact (unpin I').2.1.1
    · rintro ks e s' x hx ⟨kv,H',rk,I',hk⟩
      have hlt:ks.length<xs.length:=by rw [hlen]; exact (List.getElem?_eq_some_iff.mp hx).1
      obtain ⟨x',hx',rx⟩:=rv.get (List.getElem?_eq_getElem hlt); rw [hx] at hx'; cases hx'; rw [List.drop_eq_getElem_cons hlt] at hk
      refine wpAny_mono (zlf F hr.in1.in1 I'.env0.in1.in1 hb I' (.cons rx .nil) hk) (fun kk s3 he=>?_) fun _ _ z=>z
      obtain ⟨v,H3,I3,r3,hk3⟩:=he
      obtain ⟨I4,⟨g1,n1⟩,⟨g2,n2⟩⟩:=unpin I3
      refine ⟨g1,fun c hc=>⟨kv ++ [v],H3,rk.append (.cons r3 .nil),?_,?_⟩⟩
      · have sb:=Heap.SameBut.update s3.heap kS (Obj.mapSeq (·.push kk))
        have I5:Inv X pins σ H3 { s3 with heap:=s3.heap.update kS (Obj.mapSeq (·.push kk)) }:=I4.turned (t':=s3.toks) (it:=kS) (fun b o hb e=>(sb.2 b hb).trans e) n1 fK.2.1 fK.2.2.2.1 fK.2.2.2.2.1 fK.2.2.2.2.2
        exact pin2 I5 hc ((sb.2 D (fun z=>hDk z.symm)).trans g2) n1 n2
      · rw [List.length_append,List.length_singleton]
        exact hk3
    · rintro ks e s' hkl ⟨kv,H',rk,I',hk⟩
      have hkl2:kv.length=xs.length:=by rw [rk.length,hkl,hlen]
      rw [show xs.drop ks.length=[] from List.drop_eq_nil_of_le (by omega)] at hk
      obtain ⟨lt,od,cmp,hq⟩:=hk
      by_cases hn:vs.length<2
      · refine So.srt_end1 hDk hkl hn ((fin3 (ys:=zcR lt xs) I' ?_ ?_ hq).mono fun s4 hq=>⟨_,rfl,wpAny_pure ⟨_,rfl,hq⟩⟩)
        · unfold zcR
          rw [if_pos (by omega)]
          exact rv
        · unfold zcR
          rw [if_pos (by omega)]
          exact h64
      · have hN:1≤vs.length:=by omega
        have hsm:=ze0 od hN
        refine So.srt_end (e:=e) hDk hkl (by omega) h64' (wpAny_mono (cmp X.A.in1.in1 _ σ s' ks I' rk (by omega)) (fun κ s3 hc=>?_) fun _ _ z=>z)
        obtain ⟨I3,hc⟩:=hc
        refine So.wp_of (lt:=lt) (N:=vs.length) (J:=fun s=>Inv X ((kS,seqObj "list" ks.toArray e) :: (D,seqObj "list" #[] e1) :: pins) σ H' s) (fun i j C s4 hi hj I4 hC=>hc i j C s4 (by omega) (by omega) I4 hC) (kas_sort vs.length) s3 (So.ok_sort od hN) I3 fun s4 I4=>?_
        refine (fin3 (ys:=zcR lt xs) I4 ?_ ?_ hq).mono fun s4 hq=>⟨_,rfl,wpAny_pure ⟨_,rfl,hq⟩⟩
        · unfold zcR
          rw [if_neg (by omega),hlen]
          exact zgs rv _ fun i hi=>by rw [hlen]; exact hsm.2 i hi
        · unfold zcR
          rw [if_neg (by omega),List.length_map,hlen,hsm.1]
          exact h64'
    · exact ⟨[],H,.nil,pin2 I0 hk0 ha0 fK.1 fD.1,h⟩
def zo7 (X:Cx) (sp:Sp) (t:TA):TE:=fun σ H Q=>t σ H fun vs H1=>∃ a kvs,vs=[.ref a]∧Rd H1 a (.dK kvs)∧kvs.length<64∧zo5 sp (fun ks H'=>∃ lt,So.Ord lt∧zin X ks H' lt∧∀ p,H' p=none→Q (.ref p) (upd H' p (.lst (zcR lt (kvs.map fun p=>kV p.1))))) (kvs.map fun p=>kV p.1) [] H1
theorem zly {k:Nat} {f:Addr} {fd:FuncData} {ps:List Str} {sp:Sp} {x:Str} {e:Expr} {t:TA} {p q kpos pos:Pos} (hc:X.calm=true) (F:FnOk X.prog X.w X.K X.mg X.base CX0 k f fd ps sp) (hr:Room (k+2) X.A) (hb:zdi X.K fd ps []) (hmf:X.mg x=some (.ref f)) (hm:X.mg "sorted"=none) (ha:PA X [e] t)
    (hgs:Gl X "sorted":=by rfl) (hg:Gl X x:=by rfl) (hdb:(x == ("__debug__":Str))=false:=by decide)
    (he:backTo pos (starEach [e] X.env)=(false,eval e X.env) :: backTo pos (starEach [] X.env):=by rfl)
    (hplain:(backTo pos (starEach [e] X.env)).any (·.1)=false:=by rfl) :
    PE X (.Call (.Name "sorted" p) [e] [⟨some "key",.Name x q,kpos⟩] pos) (zo7 X sp t):=by
  intro pins s σ H Q I h; refine wpAny_Call_Name_kw (zgm I hgs hm boot_sorted ?_)
  refine callWith_kw (thn (ha pos pins s σ H _ I h) fun us s1 ⟨vs,H1,I1,r,q⟩=>?_) he hplain rfl rfl
  obtain ⟨a,kvs,rfl,hl,h64,hk⟩:=q; obtain ⟨u,rfl,ru⟩:=zdj r; cases ru
  refine thn (zlw (nm:=some "key") (kpos:=kpos) (ziC (v:=.ref f) hg hmf rfl hdb) zos pos pins s1 σ H1 (fun zs H2=>zs=[.ref f]∧H2=H1) I1 ⟨rfl,rfl⟩) fun ws s2 ⟨zs,H2,I2,rz,e1,e2⟩=>?_
  subst e1 e2
  obtain ⟨w',rfl,rw'⟩:=zdj rz; cases rw'; obtain ⟨z,hd,o,es,ep,ho,hx,hdat,hs,hkk⟩:=I2.keysK hl
  have hal:∃ acc:Array Value,ItemsOf (fun i v=>∃ e,es[i]?=some e∧v=e.key) acc es.size:=⟨es.map (·.key),by simp,fun i v hv=>by
    rw [Array.getElem?_map] at hv
    cases he:es[i]? with
    | none=>rw [he] at hv; cases hv
    | some en=>rw [he] at hv; cases hv; exact ⟨en,rfl,rfl⟩⟩
  obtain ⟨acc,hacc⟩:=hal
  refine zib (vs:=acc.toList) F hr hb (by rw [List.length_map]; exact h64) (hkk acc hacc) (fun {Q' E2} hQ=>?_) hk
  refine zjk (I2.ok.hd hc) hd ho hx hdat (by rw [hs]; exact z) fun h2 tk acc2 kp hit=>?_
  have e3:acc2=acc:=by
    obtain ⟨z1,z2⟩:=hacc; obtain ⟨y1,y2⟩:=hit
    refine Array.ext (by omega) fun i h1 h2=>?_
    obtain ⟨a1,b1,c1⟩:=z2 i _ (Array.getElem?_eq_getElem h2); obtain ⟨a2,b2,c2⟩:=y2 i _ (Array.getElem?_eq_getElem h1); rw [b1] at b2; cases b2; rw [c1,c2]
  rw [e3]; exact hQ _ (I2.kept (t':=tk) kp)
end
end L2
namespace PL
open PySem L2
theorem zqh {K:PySem.W.Frag} {H:Hp} (k:Key):Den K H (kV k) (keyD k):=by
  cases k with
  | inl i=>exact .int i
  | inr x =>
    show Den K H (.str x) (.str x.cps.toList)
    have:=Den.str (K:=K) (H:=H) x.cps.toList
    rw [← zla x] at this; exact this
theorem zg6 {K:PySem.W.Frag} {H:Hp}:∀ {kvs:List (Key × V)} {es:List (D × D)},zmK K H kvs es→zbU K H (kvs.map fun p=>kV p.1) (es.map (·.1))
  | [],[],_=>.nil
  | p :: kvs,q :: es,.cons r t=>.cons (by show Den K H (kV p.1) q.1; rw [r.1]; exact zqh p.1) (zg6 t)
  | [],_ :: _,h=>nomatch h
  | _ :: _,[],h=>nomatch h
theorem zsv {K:PySem.W.Frag} {H:Hp} {kvs:List (Key × V)} {es:List (D × D)} (r:zmK K H kvs es) (k:Key):OptD K H (zf8 kvs k) (zeY es (keyD k)):=by
  induction r with
  | nil=>exact .none
  | @cons p q ps qs h t ih =>
    by_cases e:p.1=k
    · rw [zd7 e,zfX (h.1.trans (by rw [e]))]
      exact .some h.2
    · rw [zd8 e,zfY (fun z=>e (zjS (h.1.symm.trans z)))]
      exact ih
theorem zi4 (l:List Nat):keyD (.inr (st l))=.str l:=by
  show D.str (st l).cps.toList=_
  rw [zaP]
section
variable {X:Cx}
def ziv:RM':=fun x ds Q=>∃ l y,x=.str l∧ds=[.str y]∧l.length≤sizeLine∧Q (.str (Txt.lstripChars (st l) (st y)).cps.toList)
theorem zny:Met X "str" "str.lstrip" ziv:=⟨_,zlL,by
  rintro Hi H x vs dx ds Q Q2 s d1 dl ⟨l,y,rfl,rfl,hl,q⟩ fin
  obtain ⟨v,rfl,den⟩:=zd6 dl
  refine ⟨_,_,d1.strI,by rw [den.strI],by rw [zbP]; exact hl,?_⟩
  rw [zla (Txt.lstripChars (st l) (st y))]; exact fin Hi H _ _ (Ext.refl s) (.str _) q⟩
@[simp] theorem zqS (l y:List Nat) (Q:D→Prop):ziv (.str l) [.str y] Q↔l.length≤sizeLine∧Q (.str (Txt.lstripChars (st l) (st y)).cps.toList):=by simp [ziv]
def zmZ:zqX:=fun ds Q=>∃ es,ds=[.dic es]∧Q (.lst (es.map (·.1)))
theorem zqE (hc:X.calm=true):CalO X (.type "list") zmZ:=⟨_,zkQ hc,by
  rintro Hi H vs ds Q Q2 s dl ⟨es,rfl,q⟩ fin
  obtain ⟨v,rfl,den⟩:=zd6 dl; obtain ⟨a,kvs,rfl,h1,h2⟩:=den.dicI
  exact ⟨a,kvs,rfl,zdr s.sub h1,fun l hl=>fin Hi H l _ (.lst (es.map (·.1))) (Ext.refl s) hl (fun _ z=>by cases z) ⟨_,zP,zg6 h2⟩ q⟩⟩
def zkv:R2':=fun x y Q=>∃ (es:List (D × D)) (l:List Nat) (v:D),x=.dic es∧y=.str l∧zeY es (.str l)=some v∧Q v
theorem zun (hu:X.A.units+1<cLine):Ixs X zkv:=⟨_,zuk hu,by
  rintro Hi H x y dx dy Q Q2 s d1 d2 ⟨es,l,v,rfl,rfl,e,q⟩ fin
  obtain ⟨a,kvs,rfl,h1,h2⟩:=d1.dicI
  cases d2.strI
  have r:=zsv h2 (.inr (st l)); rw [zi4,e] at r; generalize ho:zf8 kvs (.inr (st l))=o at r
  cases r with
  | some h=>exact ⟨a,_,rfl,.inl ⟨kvs,.inr (st l),zdr s.sub h1,rfl,ho.symm⟩,fin Hi H _ _ (Ext.refl s) h q⟩⟩
instance:MR2 zkv:=⟨fun _ _ _ _ h ⟨es,l,v,a,b,c,q⟩=>⟨es,l,v,a,b,c,h _ q⟩⟩
def zg (sp:Sp') (t:TA'):TO':=fun Γ Q=>t Γ fun as Γ1=>∃ es ks lt,as=[.dic es]∧es.length<64∧ks.length=es.length∧(∀ (i:Nat) x k,(es.map (·.1))[i]?=some x→ks[i]?=some k→sp [x] fun r=>r=.val k)∧zqY ks lt∧Q (.lst (zfi lt (es.map (·.1)))) Γ1
theorem zlt {k:Nat} {x:Str} {ps:List Str} {sp:Sp'} {e:Expr} {t:TA'} {p q kpos pos:Pos} (hc:X.calm=true) (G:Fn X.prog X.w X.K X.mg X.base k x ps sp) (hr:Room (k+2) X.A) (hm:X.mg "sorted"=none) (ha:PA' X [e] t)
    (hgs:Gl X "sorted":=by rfl) (hg:Gl X x:=by rfl) (hdb:(x == ("__debug__":Str))=false:=by decide)
    (he:backTo pos (starEach [e] X.env)=(false,eval e X.env) :: backTo pos (starEach [] X.env):=by rfl) (hplain:(backTo pos (starEach [e] X.env)).any (·.1)=false:=by rfl) :
    PO' X (.Call (.Name "sorted" p) [e] [⟨some "key",.Name x q,kpos⟩] pos) (zg sp t):=by
  obtain ⟨f,fd,F,b,kp,m,_⟩:=G.ex; refine ⟨PE.weak (zly hc F hr b m hm ha.pa hgs hg hdb he hplain) ?_⟩
  rintro σ H Q ⟨W,Hi,Γ,Q',g,h,fin⟩
  refine ⟨W,Hi,Γ,_,g,h,?_⟩
  rintro vs H1 Hi1 Γ1 as s1 g1 dl ⟨es,ks,lt,rfl,h64,hkl,hsp,hkd,q⟩
  obtain ⟨v,rfl,den⟩:=zd6 dl; obtain ⟨a,kvs,rfl,h1,h2⟩:=den.dicI; have dx:=zg6 h2
  refine ⟨a,kvs,rfl,zdr g1.sub h1,by rw [zi h2]; exact h64,?_⟩
  refine zg5 _ (es.map (·.1)) ks [] [] Hi1 H1 (Ext.refl g1.fz) dx (by rw [List.length_map]; exact hkl) hsp .nil fun acc Hi2 H2 ex da=>?_
  rw [List.nil_append] at da
  refine ⟨lt,hkd.ord,?_,fun p hp=>?_⟩
  · rcases hkd with ⟨is,rfl,rfl⟩ | ⟨ps,rfl,rfl⟩
    · rw [zfV da]
      exact zsI is
    · obtain ⟨as,rfl,kt⟩:=zfU da
      exact zsH (zfM ex.fz.sub kt)
  · have g2:=g1.ext ex
    exact fin p _ Hi2 Γ1 (.lst (zfi lt (es.map (·.1)))) (s1.trans ex.hi) (g2.ext (Ext.newO g2.fz hp _ (fun _ z=>by cases z))) (New.mk' g2 hp ⟨_,zP,zjB hkd.ord (dx.mono ex.hi)⟩) q
noncomputable def zpi (es:List (D × D)) (k v:D):List (D × D):=if (zeY es k).isSome=true then es else es ++ [(k,v)]
noncomputable def zk (i:Nat) (tk tv:TE'):TS':=fun N Γ=>(∃ es0,Γ[i]?=some (.own (.dic es0)))∧tk Γ fun k Γ1=>tv Γ1 fun v Γ2=>∃ (es:List (D × D)) (l:List Nat),Γ2[i]?=some (.own (.dic es))∧k=.str l∧es.length<sizeLine∧N.nx (Γ2.set i (.own (.dic (zpi es (.str l) v))))
theorem zmR {Γ:Sts} {i:Nat} {x:Slot} (h:Γ[i]?=some x):Γ.set i x=Γ:=by
  obtain ⟨hi,e⟩:=List.getElem?_eq_some_iff.mp h; rw [← e]; exact List.set_getElem_self hi
theorem zlq (i:Nat) {x:Str} {k value:Expr} {tk tv:TE'} {p apos cpos pos:Pos} (hk:PE' X k tk) (hv:PE' X value tv) (hN:X.N[i]?=some x:=by rfl) (hvi:Vis X.env.scope x:=by first | exact Or.inl rfl | exact Or.inr (Or.inl rfl) | exact Or.inr (Or.inr rfl)) (hd:(x == ("__debug__":Str))=false:=by decide)
    (hcd:(x == ("__classdict__":Str))=false:=by decide) (m:M2 X (.Name x p) "setdefault" apos k value cpos:=by exact ⟨rfl,rfl,rfl,rfl⟩)
    (hs:swapsWith (.Call (.Attribute (.Name x p) "setdefault" apos) [k,value] [] cpos) none pos.line X.env=pure false:=by rfl) :
    PS' X (.Expr (.Call (.Attribute (.Name x p) "setdefault" apos) [k,value] [] cpos) pos) (zk i tk tv):=by
  refine ⟨PS.weak (zgJ (zky (zcS (i:=i) (pos:=p) hN hvi hd hcd) hk.h hv.h m) hs) ?_⟩
  rintro N2 σ H ⟨W,Hi,Γ,N,g,⟨⟨es0,e0⟩,q⟩,l⟩
  have hi:i<X.N.length:=(List.getElem?_eq_some_iff.mp hN).1
  obtain ⟨a,h1,h2,h3,kvs0,h4,h5⟩:=g.own i _ e0; refine ⟨.ref a,zeT hi h1,a,rfl,.inl ⟨kvs0,.inl h4⟩,W,Hi,Γ,_,g,q,?_⟩
  rintro y H2 ⟨Hi2,dk,Γ2,s2,g2,den2,q2⟩
  refine ⟨W,Hi2,Γ2,_,g2,q2,?_⟩
  rintro z H3 ⟨Hi3,dv,Γ3,s3,g3,den3,es,lk,e3,rfl,hl,q3⟩
  obtain ⟨a',k1,k2,k3,kvs,k4,k5⟩:=g3.own i _ e3; rw [h1] at k1; cases k1
  cases den2.strI
  have r:=zsv k5 (.inr (st lk)); rw [zi4] at r
  refine ⟨kvs,.inr (st lk),k4,rfl,by rw [zi k5]; exact hl,fun v hv=>?_,fun hv=>?_⟩
  · rw [hv] at r
    have e5:zpi es (.str lk) dv=es:=by
      unfold zpi; rw [← r.isSome]; rfl
    rw [e5,zmR e3] at q3; exact l.nx σ _ Hi3 _ (s2.trans s3) g3 q3
  · rw [hv] at r
    have e5:zpi es (.str lk) dv=es ++ [(.str lk,dv)]:=by
      unfold zpi; rw [← r.isSome]; rfl
    rw [e5] at q3; exact l.nx σ _ Hi3 _ (s2.trans s3) (g3.put (o:=.dic (es ++ [(.str lk,dv)])) e3 h1 ⟨_,zP,zaY k5 (.cons ⟨(zi4 lk).symm,den3⟩ .nil)⟩) q3
instance {i:Nat} {tk tv:TE'} [ME tk] [ME tv]:MS (zk i tk tv):=⟨fun N N' Γ h ⟨a,q⟩=>⟨a,ME.mono (t:=tk) _ _ _ (fun _ _ z=>ME.mono (t:=tv) _ _ _ (fun _ _ ⟨es,l,e1,e2,e3,w⟩=>⟨es,l,e1,e2,e3,h.nx _ w⟩) z) q⟩⟩
end
end PL
namespace M81
open PySem L2 Lb PL MT MS M04 M70 M71
inductive Ch where
  | read (p ws:Pl) | out (p:Pl) | put (p:Pl) (t:Tr)
def zb5 (t u:Tr):List (List Nat):=zfh (zf9 (zaM (t.kds ++ u.kds)))
def rd (t u:Tr) (p:Pl):List Ch:=if t.wds=u.wds then [] else [.read p u.wds]
def zcM (t u:Tr) (p:Pl) (l:List Nat):List Ch:=match zb l t.kds,zb l u.kds with
  | none,some k=>[.put p k]
  | some _,none=>[.out (p ++ [l])]
  | _,_=>[]
def plain:Nat→Tr→Tr→Pl→List Ch
  | 0,_,_,_=>[]
  | n+1,t,u,p=>rd t u p ++ (zb5 t u).flatMap (zcM t u p) ++ (zb5 t u).flatMap fun l=>match zb l t.kds,zb l u.kds with
      | some k,some k'=>plain n k k' (p ++ [l])
      | _,_=>[]
def zgr (n:Nat) (t u:Tr) (p:Pl) (l:List Nat):List Ch:=match zb l t.kds,zb l u.kds with
  | some k,some k'=>plain n k k' (p ++ [l])
  | _,_=>[]
theorem zcF (n:Nat) (t u:Tr) (p:Pl):plain (n+1) t u p=rd t u p ++ (zb5 t u).flatMap (zcM t u p) ++ (zb5 t u).flatMap (zgr n t u p):=rfl
def oc (f:Tr→Nat):Option Tr→Nat
  | none=>0
  | some k=>f k
theorem zoy (f:Tr→Nat) (ks:List Tr):∀ L:List (List Nat),(L.map fun l=>oc f (zb l ks)).sum=((zgM L ks).map f).sum
  | []=>rfl
  | l :: L=>by
    unfold zgM; rw [List.map_cons,List.sum_cons,zoy f ks L,List.filterMap_cons]
    cases e:zb l ks with
    | none=>simp [oc,zgM]
    | some k=>simp [oc,zgM]
theorem zhK (f:Tr→Nat) {ks:List Tr} {L:List (List Nat)} (h:L.Nodup):(L.map fun l=>oc f (zb l ks)).sum≤(ks.map f).sum:=by
  rw [zoy]
  exact zgy f (h.sublist (ze5 L ks)) fun k hk=>zeg hk
theorem zhe (t:Tr):1≤cnt t:=by rw [zcC]; omega
theorem zeu {α:Type} {f g h:α→Nat}:∀ {L:List α},(∀ l ∈ L,f l≤g l+h l)→(L.map f).sum≤(L.map g).sum+(L.map h).sum
  | [],_=>by simp
  | a :: L,q=>by
    have h1:=q a List.mem_cons_self
    have h2:=zeu (L:=L) fun l hl=>q l (List.mem_cons_of_mem _ hl)
    simp only [List.map_cons,List.sum_cons]; omega
theorem zc7 {t u:Tr}:(zb5 t u).Nodup:=by
  have:(zfh (zf9 (zaM (t.kds ++ u.kds)))).Nodup:=zdX (zcg _)
  exact this
theorem zcA {t u:Tr} {l:List Nat}:l ∈ zb5 t u↔l ∈ zaM t.kds∨l ∈ zaM u.kds:=by
  unfold zb5; rw [zcp,zb9,zbB,List.mem_append]
theorem zrq (t u:Tr) (p:Pl):(rd t u p).length≤1:=by
  unfold rd
  split <;> simp
theorem zef:∀ (n:Nat) (t u:Tr) (p:Pl),(plain n t u p).length≤cnt t+cnt u
  | 0,t,u,p=>by simp [plain]
  | n+1,t,u,p=>by
    rw [zcF,List.length_append,List.length_append,List.length_flatMap,List.length_flatMap]; have h1:=zrq t u p
    have hs:((zb5 t u).map fun l=>(zcM t u p l).length).sum+((zb5 t u).map fun l=>(zgr n t u p l).length).sum≤((zb5 t u).map fun l=>oc cnt (zb l t.kds)).sum+((zb5 t u).map fun l=>oc cnt (zb l u.kds)).sum:=by
      have e:∀ L:List (List Nat),(L.map fun l=>(zcM t u p l).length).sum+(L.map fun l=>(zgr n t u p l).length).sum=(L.map fun l=>(zcM t u p l).length+(zgr n t u p l).length).sum:=fun L=>by
        induction L with
        | nil=>rfl
        | cons a L ih=>simp only [List.map_cons,List.sum_cons]; omega
      rw [e]
      refine zeu fun l _=>?_
      unfold zcM zgr
      cases e1:zb l t.kds with
      | none=>cases e2:zb l u.kds with
        | none=>simp [oc]
        | some k'=>have:=zhe k'; simp [oc]; omega
      | some k=>cases e2:zb l u.kds with
        | none=>have:=zhe k; simp [oc]; omega
        | some k'=>have:=zef n k k' (p ++ [l]); simp [oc]; omega
    have h2:=zhK cnt (ks:=t.kds) (zc7 (t:=t) (u:=u)); have h3:=zhK cnt (ks:=u.kds) (zc7 (t:=t) (u:=u)); rw [zcC t,zcC u]; omega
theorem zju {α β:Type} (f:α→List β) (L:List α) (i:Nat):((L.take i).flatMap f).length≤(L.flatMap f).length:=by
  have e:L.flatMap f=(L.take i).flatMap f ++ (L.drop i).flatMap f:=by rw [← List.flatMap_append,List.take_append_drop]
  rw [e,List.length_append]; omega
theorem zfg {α β:Type} (f:α→List β) {L:List α} {i:Nat} {a:α} (h:L[i]?=some a):(L.take (i+1)).flatMap f=(L.take i).flatMap f ++ f a:=by
  rw [List.take_succ,h,List.flatMap_append]; simp
end M81
namespace M73
open PySem L2 Lb PL MT MS M04 M70 M71 M81
theorem ziY {l x:List Nat} {p ws:Pl} {ks:List Tr}:∀ {r:List Tr},zb x (r.map fun k=>if k.lab=l then made k p ws ks else k)=(zb x r).map fun k=>if k.lab=l then made k p ws ks else k
  | []=>rfl
  | k :: r=>by
    unfold zb; rw [List.map_cons,List.find?_cons,List.find?_cons]
    have e:(if k.lab=l then made k p ws ks else k).lab=k.lab:=by
      split
      · exact zce _ _ _ _
      · rfl
    rw [e]
    cases decide (k.lab=x) with
    | true=>rfl
    | false=>exact ziY
end M73
namespace M72
open PySem L2 Lb PL MT MS M04 M70 M71 M81 M73
def zhV:Ch→Bool
  | .put _ _=>true
  | _=>false
def zvb (n:Nat) (F:Tr→Tr→Pl→List Ch) (t u:Tr) (p:Pl) (l:List Nat):List Ch:=match zb l t.kds,zb l u.kds with
  | none,some k=>[.put p k]
  | some _,none=>[.out (p ++ [l])]
  | some k,some k'=>if (F k k' (p ++ [l])).length≤2 then F k k' (p ++ [l]) else [.out (p ++ [l]),.put p k']
  | none,none=>[]
def zqV:Nat→Tr→Tr→Pl→List Ch
  | 0,_,_,_=>[]
  | n+1,t,u,p=>rd t u p ++ (zb5 t u).flatMap (zvb n (zqV n) t u p)
def few (n:Nat) (t u:Tr):List Ch:=(zqV n t u []).filter (fun c=>!zhV c) ++ (zqV n t u []).filter zhV
def byL (L:List (List Nat)) (g:List Nat→Option Tr):List Tr:=L.filterMap g
structure GOk (g:List Nat→Option Tr):Prop where
  lab:∀ l k,g l=some k→k.lab=l
theorem zjm {g:List Nat→Option Tr} (h:GOk g):∀ L:List (List Nat),(zaM (byL L g)).Sublist L
  | []=>.slnil
  | l :: L=>by
    unfold byL; rw [List.filterMap_cons]
    cases e:g l with
    | none=>exact .cons _ (zjm h L)
    | some k =>
      unfold zaM; rw [List.map_cons,h.lab l k e]; exact .cons_cons _ (zjm h L)
theorem zjn {g:List Nat→Option Tr} (h:GOk g) {L:List (List Nat)} (hL:Ris L):Ris (zaM (byL L g)):=List.Pairwise.sublist (zjm h L) hL
theorem zf0 {g:List Nat→Option Tr} (h:GOk g) {L:List (List Nat)} {k:Tr}:k ∈ byL L g↔k.lab ∈ L∧g k.lab=some k:=by
  unfold byL; rw [List.mem_filterMap]; constructor
  · rintro ⟨l,hl,e⟩
    rw [h.lab l k e]; exact ⟨hl,e⟩
  · rintro ⟨h1,h2⟩
    exact ⟨_,h1,h2⟩
theorem zkc {g:List Nat→Option Tr} (h:GOk g) {L:List (List Nat)} (hL:Ris L) {l:List Nat} (hl:l ∈ L):zb l (byL L g)=g l:=by
  cases e:g l with
  | none =>
    rw [zbs]; intro z; obtain ⟨k,hk,rfl⟩:=List.mem_map.mp z; rw [((zf0 h).mp hk).2] at e; cases e
  | some k =>
    have hk:=h.lab l k e
    have:k ∈ byL L g:=(zf0 h).mpr ⟨by rw [hk]; exact hl,by rw [hk]; exact e⟩
    rw [← hk]; exact zbC (zjn h hL).nodup this
theorem zjR {ks:List Tr} {L:List (List Nat)} (h1:Ris L) (h2:Ris (zaM ks)) (h3:∀ l ∈ zaM ks,l ∈ L):ks=byL L fun l=>zb l ks:=(zgL h1 h2 h3).symm
theorem zst (ks:List Tr):GOk fun l=>zb l ks:=⟨fun l k e=>(za3 e).2⟩
theorem zf1 {g g':List Nat→Option Tr} {L:List (List Nat)} (h:∀ l ∈ L,g l=g' l):byL L g=byL L g':=by
  unfold byL
  induction L with
  | nil=>rfl
  | cons a L ih=>rw [List.filterMap_cons,List.filterMap_cons,h a List.mem_cons_self,ih fun l hl=>h l (List.mem_cons_of_mem _ hl)]
def zdB (g:List Nat→Option Tr) (l:List Nat) (o:Option Tr):List Nat→Option Tr:=fun x=>if x=l then o else g x
theorem zl5 {g:List Nat→Option Tr} (h:GOk g) {l:List Nat} {o:Option Tr} (ho:∀ k,o=some k→k.lab=l):GOk (zdB g l o):=⟨fun x k e=>by
  unfold zdB at e; split at e
  · rename_i z; rw [z]; exact ho k e
  · exact h.lab x k e⟩
theorem zqH {g:List Nat→Option Tr} (h:GOk g) (l:List Nat) (L:List (List Nat)):(byL L g).filter (fun k=>decide (k.lab≠l))=byL L (zdB g l none):=by
  unfold byL
  induction L with
  | nil=>rfl
  | cons a L ih =>
    rw [List.filterMap_cons,List.filterMap_cons]
    by_cases e:a=l
    · have e1:zdB g l none a=none:=by simp [zdB,e]
      rw [e1]
      cases eg:g a with
      | none=>exact ih
      | some k =>
        have:k.lab=l:=(h.lab a k eg).trans e
        rw [List.filter_cons]; simp only [this,ne_eq,not_true_eq_false,decide_false,Bool.false_eq_true,if_false]; exact ih
    · have e1:zdB g l none a=g a:=by simp [zdB,e]
      rw [e1]
      cases eg:g a with
      | none=>exact ih
      | some k =>
        have:¬ k.lab=l:=fun z=>e ((h.lab a k eg).symm.trans z)
        rw [List.filter_cons]; simp only [this,ne_eq,not_false_eq_true,decide_true,if_true]; rw [ih]
theorem zqF {g:List Nat→Option Tr} (h:GOk g) {l:List Nat} {k:Tr} (f:Tr→Tr) (hk:g l=some k) (L:List (List Nat)):(byL L g).map (fun x=>if x.lab=l then f x else x)=byL L (zdB g l (some (f k))):=by
  unfold byL
  induction L with
  | nil=>rfl
  | cons a L ih =>
    rw [List.filterMap_cons,List.filterMap_cons]
    by_cases e:a=l
    · subst e
      have e1:zdB g a (some (f k)) a=some (f k):=by simp [zdB]
      rw [e1,hk]; simp only [List.map_cons,h.lab a k hk,if_true]; rw [ih]
    · have e1:zdB g l (some (f k)) a=g a:=by simp [zdB,e]
      rw [e1]
      cases eg:g a with
      | none=>exact ih
      | some x =>
        have:¬ x.lab=l:=fun z=>e ((h.lab a x eg).symm.trans z)
        simp only [List.map_cons,this,if_false]; rw [ih]
theorem zqG {g:List Nat→Option Tr} (h:GOk g) {L:List (List Nat)} (hL:Ris L) {l:List Nat} {k:Tr} (hl:l ∈ L) (hg:g l=none) (hk:k.lab=l) {ks':List Tr} (r:Ris (zaM ks')) (m:∀ x,x ∈ ks'↔x ∈ byL L g∨x=k):ks'=byL L (zdB g l (some k)):=by
  have go:=zl5 (o:=some k) h (l:=l) fun x e=>by rw [← Option.some.inj e]; exact hk
  have hr:=zjn go hL
  have hm:∀ x,x ∈ ks'↔x ∈ byL L (zdB g l (some k)):=fun x=>by
    rw [m,zf0 h,zf0 go]; unfold zdB
    by_cases e:x.lab=l
    · rw [if_pos e,e,hg]
      simp only [and_false,false_or,reduceCtorEq,Option.some.injEq]
      exact ⟨fun z=>⟨hl,z.symm⟩,fun z=>z.2.symm⟩
    · rw [if_neg e]
      constructor
      · rintro (z | z)
        · exact z
        · exact absurd (by rw [z]; exact hk) e
      · exact .inl
  have el:zaM ks'=zaM (byL L (zdB g l (some k))):=zgC r hr fun x=>by
    unfold zaM; rw [List.mem_map,List.mem_map]
    exact ⟨fun ⟨y,a,b⟩=>⟨y,(hm y).mp a,b⟩,fun ⟨y,a,b⟩=>⟨y,(hm y).mpr a,b⟩⟩
  have e1:=zgL r r fun x hx=>hx
  have e2:=zgL hr hr fun x hx=>hx
  rw [← e1,← e2,← el]; unfold zgM
  have each:∀ x,zb x ks'=zb x (byL L (zdB g l (some k))):=fun x=>by
    cases ex:zb x ks' with
    | none =>
      symm
      rw [zbs,← el,← zbs]; exact ex
    | some y =>
      obtain ⟨a,b⟩:=za3 ex; rw [← b]; exact (zbC hr.nodup ((hm y).mp a)).symm
  congr 1
  funext x
  exact each x
def zeJ (p:Pl):List Nat:=p.getLast?.getD []
def dn (t:Tr):Ch→Option Tr
  | .read p ws=>(zq t p).map fun nd=>made t p ws nd.kds
  | .out p=>if p=[] then none else (zq t p).bind fun _=>(zq t p.dropLast).map fun nd=>made t p.dropLast nd.wds (nd.kds.filter fun k=>decide (k.lab≠zeJ p))
  | .put p k=>(zq t p).bind fun nd=>match zb k.lab nd.kds with
      | some _=>none
      | none=>some (made t p nd.wds (zdf (nd.kds ++ [k])))
def run:Tr→List Ch→Option Tr
  | t,[]=>some t
  | t,c :: cs=>(dn t c).bind fun x=>run x cs
def zhu (l:List Nat):Ch→Ch
  | .read p ws=>.read (l :: p) ws
  | .out p=>.out (l :: p)
  | .put p k=>.put (l :: p) k
theorem zsz {t x:Tr} {c:Ch} (h:dn t c=some x):x.lab=t.lab:=by
  cases c with
  | read p ws =>
    simp only [dn,Option.map_eq_some_iff] at h; obtain ⟨nd,_,rfl⟩:=h; exact zce _ _ _ _
  | out p =>
    simp only [dn] at h; split at h
    · cases h
    · rw [Option.bind_eq_some_iff] at h
      obtain ⟨_,_,h⟩:=h; rw [Option.map_eq_some_iff] at h; obtain ⟨nd,_,rfl⟩:=h; exact zce _ _ _ _
  | put p k =>
    simp only [dn] at h; rw [Option.bind_eq_some_iff] at h; obtain ⟨nd,_,h⟩:=h; split at h
    · cases h
    · rw [← Option.some.inj h]
      exact zce _ _ _ _
section
variable {L:List (List Nat)} {lb:List Nat} {ws:Pl}
theorem zg0 {g:List Nat→Option Tr} (h:GOk g) {l:List Nat} {k:Tr} (hk:g l=some k) (p ws':Pl) (ks:List Tr):made (.node lb ws (byL L g)) (l :: p) ws' ks=.node lb ws (byL L (zdB g l (some (made k p ws' ks)))):=by
  simp only [made]
  show Tr.node lb ws ((byL L g).map _)=_
  rw [zqF h (fun x=>made x p ws' ks) hk]
theorem ze8 {g:List Nat→Option Tr} (h:GOk g) (hL:Ris L) {l:List Nat} (hl:l ∈ L) {k:Tr} (hk:g l=some k) (p:Pl):zq (.node lb ws (byL L g)) (l :: p)=zq k p:=by
  simp only [zq,zbt]; rw [zkc h hL hl,hk]
theorem zsA {g:List Nat→Option Tr} (h:GOk g) (hL:Ris L) {l:List Nat} (hl:l ∈ L) {k:Tr} (hk:g l=some k) {c:Ch} (hc:c≠.out []):dn (.node lb ws (byL L g)) (zhu l c)=(dn k c).map fun x=>.node lb ws (byL L (zdB g l (some x))):=by
  cases c with
  | read p ws' =>
    simp only [zhu,dn,ze8 h hL hl hk]
    cases zq k p with
    | none=>rfl
    | some nd=>simp only [Option.map_some,zg0 h hk]
  | put p x =>
    simp only [zhu,dn,ze8 h hL hl hk]
    cases zq k p with
    | none=>rfl
    | some nd =>
      simp only [Option.bind_some]
      cases zb x.lab nd.kds with
      | some _=>rfl
      | none=>simp only [Option.map_some,zg0 h hk]
  | out p =>
    have hp:p≠[]:=fun z=>hc (by rw [z])
    have e1:(l :: p).dropLast=l :: p.dropLast:=by
      cases p with
      | nil=>exact absurd rfl hp
      | cons a r=>rfl
    have e2:zeJ (l :: p)=zeJ p:=by
      cases p with
      | nil=>exact absurd rfl hp
      | cons a r=>simp [zeJ]
    simp only [zhu,dn,if_neg hp,reduceCtorEq,if_false,e1,e2,ze8 h hL hl hk]
    cases zq k p with
    | none=>rfl
    | some _ =>
      simp only [Option.bind_some]
      cases zq k p.dropLast with
      | none=>rfl
      | some nd=>simp only [Option.map_some,zg0 h hk]
theorem zqz {g:List Nat→Option Tr} {ws':Pl}:dn (.node lb ws (byL L g)) (.read [] ws')=some (.node lb ws' (byL L g)):=by
  simp [dn,zq,made,Tr.kds,Tr.lab]
theorem zsy {g:List Nat→Option Tr} (h:GOk g) (hL:Ris L) {l:List Nat} (hl:l ∈ L) {k:Tr} (hk:g l=some k):dn (.node lb ws (byL L g)) (.out [l])=some (.node lb ws (byL L (zdB g l none))):=by
  simp only [dn,ze8 h hL hl hk]
  have e:(byL L g).filter (fun k=>decide (k.lab≠zeJ [l]))=byL L (zdB g l none):=zqH h l L
  simp only [zq,List.dropLast,reduceCtorEq,if_false,Option.bind_some,Option.map_some,made,zbt]; rw [e]; rfl
theorem zsx {g:List Nat→Option Tr} (h:GOk g) (hL:Ris L) (hp:∀ l ∈ L,zX l=true) {k:Tr} (hl:k.lab ∈ L) (hg:g k.lab=none):dn (.node lb ws (byL L g)) (.put [] k)=some (.node lb ws (byL L (zdB g k.lab (some k)))):=by
  have e0:zb k.lab (byL L g)=none:=by rw [zkc h hL hl]; exact hg
  have hn:(zaM (byL L g ++ [k])).Nodup:=by
    rw [zbB,List.nodup_append]
    refine ⟨(zjn h hL).nodup,by simp [zaM],fun a ha b hb e=>?_⟩
    have:b=k.lab:=by simpa [zaM] using hb
    exact zbs.mp e0 (by rw [← this,← e]; exact ha)
  have hpp:∀ x ∈ byL L g ++ [k],zX x.lab=true:=fun x hx=>by
    rcases List.mem_append.mp hx with z | z
    · exact hp _ ((zf0 h).mp z).1
    · rw [List.mem_singleton.mp z]; exact hp _ hl
  have e1:=zqG h hL hl hg rfl (zdN hpp).ris fun x=>by
    rw [zen hn,List.mem_append,List.mem_singleton]
  simp only [dn,zq,zbt,Option.bind_some,e0,made]; rw [e1]; rfl
end
theorem zjD (t u:Tr) (l:List Nat) (p:Pl):rd t u (l :: p)=(rd t u p).map (zhu l):=by
  unfold rd
  split <;> rfl
theorem zkO (l:List Nat):∀ (n:Nat) (t u:Tr) (p:Pl),zqV n t u (l :: p)=(zqV n t u p).map (zhu l)
  | 0,_,_,_=>rfl
  | n+1,t,u,p=>by
    simp only [zqV,List.map_append,zjD]
    congr 1
    rw [List.map_flatMap]
    congr 1
    funext x
    unfold zvb
    cases zb x t.kds with
    | none=>cases zb x u.kds <;> rfl
    | some k=>cases zb x u.kds with
      | none=>rfl
      | some k' =>
        simp only [List.cons_append,zkO l n k k' (p ++ [x]),List.length_map]
        split <;> rfl
def mix (R:List (List Nat)) (g g':List Nat→Option Tr):List Nat→Option Tr:=fun l=>if l ∈ R then g l else g' l
theorem zqp {R:List (List Nat)} {g g':List Nat→Option Tr} (h:GOk g) (h':GOk g'):GOk (mix R g g'):=⟨fun l k e=>by
  unfold mix at e; split at e
  · exact h.lab l k e
  · exact h'.lab l k e⟩
theorem zns {L R:List (List Nat)} {l:List Nat} {g g':List Nat→Option Tr} (hl:l ∉ R) {o:Option Tr} (ho:o=g' l):byL L (zdB (mix (l :: R) g g') l o)=byL L (mix R g g'):=by
  refine zf1 fun x _=>?_
  unfold zdB mix
  by_cases e:x=l
  · rw [if_pos e,e,if_neg hl]; exact ho
  · rw [if_neg e]
    simp [e]
theorem znt {R:List (List Nat)} {l:List Nat} {g g':List Nat→Option Tr}:mix (l :: R) g g' l=g l:=by simp [mix]
end M72
namespace M74
open PySem L2 Lb PL MT MS M04 M70 M71 M81 M73 M72
theorem zoC {x:List Nat} {a b:List Tr} (ha:(zaM a).Nodup) (hb:(zaM b).Nodup) (h:∀ k:Tr,k.lab=x→(k ∈ a↔k ∈ b)):zb x a=zb x b:=by
  cases e:zb x a with
  | none =>
    symm
    rw [zbs]; intro z; obtain ⟨k,hk,ek⟩:=List.mem_map.mp z
    have:=(h k ek).mpr hk
    exact zbs.mp e (ek ▸ List.mem_map_of_mem this)
  | some k =>
    obtain ⟨m,l⟩:=za3 e; rw [← l]; exact (zbC hb ((h k l).mp m)).symm
section
variable {c d n:Nat} {s t nd:Tr} {p:Pl}
theorem zpd {k:Tr} (h:(zaM nd.kds).Nodup) (hk:zb k.lab nd.kds=none):(zaM (nd.kds ++ [k])).Nodup:=by
  rw [zbB,List.nodup_append]
  refine ⟨h,by simp [zaM],fun a ha b hb e=>?_⟩
  have:b=k.lab:=by simpa [zaM] using hb
  rw [e,this] at ha; exact zbs.mp hk ha
end
def zq0 (d n:Nat):Ch→Prop
  | .read p ws=>p.length<n∧ws.length≤3 * d+3
  | .out p=>p.length≤n
  | .put p k=>p.length+1<n∧zX k.lab=true∧Wf d (n-p.length-1) k
end M74
namespace M75
open PySem L2 Lb PL MT MS M04 M70 M71 M81 M73 M72 M74
end M75
namespace M76
open PySem L2 Lb PL MT MS M04 M70 M71 M81 M73 M72 M74 M75
end M76
namespace M83
open PySem L2 Lb PL MT MS M04 M70 M71 M81 M73 M72 M74
def lb (t:Tr) (q:Pl):List (List Nat):=match zq t q with
  | none=>[]
  | some nd=>zaM nd.kds
def One (t t':Tr):Prop:=∀ q,(∃ l,∀ x ∈ lb t' q,x=l∨x ∈ lb t q)∨(lb t q=[]∧(lb t' q).length≤2)
theorem zbL (t:Tr) (m:List Nat) (q:Pl):lb t (m :: q)=match zb m t.kds with
    | none=>[]
    | some k=>lb k q:=by
  unfold lb; simp only [zq]
  cases zb m t.kds <;> rfl
theorem zel (t:Tr):lb t []=zaM t.kds:=rfl
theorem znk {t t':Tr} (h:∀ q,lb t' q=lb t q):One t t':=fun q=>.inl ⟨[],fun x hx=>.inr (by rw [← h q]; exact hx)⟩
theorem ze7 {ws:Pl} {ks:List Tr}:∀ {p:Pl} {t nd:Tr},zq t p=some nd→One nd (.node nd.lab ws ks)→One t (made t p ws ks)
  | [],t,nd,hn,h=>by
    simp only [zq,Option.some.injEq] at hn; subst hn; exact h
  | l :: p,t,nd,hn,h=>by
    intro q; simp only [zq] at hn
    cases hk:zb l t.kds with
    | none=>rw [hk] at hn; cases hn
    | some k =>
      rw [hk] at hn; simp only [made]
      cases q with
      | nil =>
        refine .inl ⟨[],fun x hx=>.inr ?_⟩
        rw [zel,zbt,zfI] at hx; exact hx
      | cons m q =>
        rw [zbL,zbL,zbt,ziY]
        cases hm:zb m t.kds with
        | none=>exact .inl ⟨[],fun x hx=>nomatch hx⟩
        | some k' =>
          simp only [Option.map_some]; have el:=(za3 hm).2
          by_cases e:m=l
          · subst e
            rw [hk] at hm; cases hm; rw [if_pos el]; exact ze7 hn h q
          · rw [if_neg (by rw [el]; exact e)]
            exact .inl ⟨[],fun x hx=>.inr hx⟩
section
variable {c n:Nat} {t nd:Tr} {p:Pl}
theorem zlE {ws:Pl} (hn:zq t p=some nd):One t (made t p ws nd.kds):=ze7 hn <| znk fun q=>by
  cases q with
  | nil=>rfl
  | cons m q=>rw [zbL,zbL]; rfl
theorem zpZ (l:List Nat) (ht:Wf c n t) (hn:zq t p=some nd):One t (made t p nd.wds (nd.kds.filter fun k=>decide (k.lab≠l))):=ze7 hn fun q=>by
  obtain ⟨_,wn⟩:=ht.at hn
  have hnd:(zaM (nd.kds.filter fun k=>decide (k.lab≠l))).Nodup:=wn.nd.sublist (List.filter_sublist.map _)
  refine .inl ⟨[],fun x hx=>.inr ?_⟩
  cases q with
  | nil =>
    rw [zel,zbt] at hx; exact (List.filter_sublist.map _).subset hx
  | cons m q =>
    rw [zbL,zbt] at hx; rw [zbL]
    by_cases e:m=l
    · have:zb m (nd.kds.filter fun k=>decide (k.lab≠l))=none:=zbs.mpr fun z=>by
        obtain ⟨k,hk,ek⟩:=List.mem_map.mp z; rw [List.mem_filter] at hk; simp [ek,e] at hk
      rw [this] at hx; cases hx
    · rw [show zb m (nd.kds.filter fun k=>decide (k.lab≠l))=zb m nd.kds from zoC hnd wn.nd fun k hk=>by rw [List.mem_filter]; simp [hk,e]] at hx
      exact hx
theorem zpY {k:Tr} (ht:Wf c n t) (hn:zq t p=some nd) (hk:zb k.lab nd.kds=none) (hp:zX k.lab=true) (wk:Wf 1 3 k):One t (made t p nd.wds (zdf (nd.kds ++ [k]))):=ze7 hn fun q=>by
  obtain ⟨_,wn⟩:=ht.at hn; have nd2:=zpd wn.nd hk
  have ok:KidsOk (nd.kds ++ [k]) (zdf (nd.kds ++ [k])):=zdN fun x hx=>by
    rcases List.mem_append.mp hx with z | z
    · exact wn.plab x z
    · rw [List.mem_singleton.mp z]; exact hp
  cases q with
  | nil =>
    refine .inl ⟨k.lab,fun x hx=>?_⟩
    rw [zel,zbt] at hx; obtain ⟨y,hy,rfl⟩:=List.mem_map.mp hx; rw [zen nd2,List.mem_append,List.mem_singleton] at hy
    rcases hy with z | z
    · exact .inr (List.mem_map_of_mem z)
    · exact .inl (by rw [z])
  | cons m q =>
    rw [zbL,zbL,zbt]
    by_cases e:m=k.lab
    · rw [e,hk,show zb k.lab (zdf (nd.kds ++ [k]))=some k from zbC ok.nd ((zen nd2).mpr (by simp))]
      refine .inr ⟨rfl,?_⟩
      show (lb k q).length≤2
      unfold lb
      cases hq:zq k q with
      | none=>simp
      | some y =>
        have:=(wk.at hq).2.few
        show (zaM y.kds).length≤2
        rw [zc6]; omega
    · rw [show zb m (zdf (nd.kds ++ [k]))=zb m nd.kds from zoC ok.nd wn.nd fun y hy=>by
        rw [zen nd2,List.mem_append,List.mem_singleton]
        exact ⟨fun z=>z.elim id fun z=>absurd (hy.symm.trans (by rw [z])) e,.inl⟩]
      exact .inl ⟨[],fun x hx=>.inr hx⟩
end
def cu (L:List (List Nat)):Nat:=(zf9 L).length
theorem zgo {L M:List (List Nat)} (h:∀ x ∈ L,x ∈ M):cu L≤cu M:=zei (zcg L) fun x hx=>(zb9 M x).mpr (h x ((zb9 L x).mp hx))
theorem zoZ (L M:List (List Nat)):cu (L ++ M)≤cu L+M.length:=by
  have:=zei (zcg (L ++ M)) (m:=zf9 L ++ M) fun x hx=>by
    rcases List.mem_append.mp ((zb9 _ x).mp hx) with z | z
    · exact List.mem_append_left _ ((zb9 L x).mpr z)
    · exact List.mem_append_right _ z
  rw [List.length_append] at this; exact this
theorem zmj (L:List (List Nat)):cu L≤L.length:=zjr L
theorem zoY {t t':Tr} (h:One t t') (q:Pl) (L:List (List Nat)):cu (L ++ lb t' q)≤cu (L ++ lb t q)+1∨cu (L ++ lb t' q)≤cu L+2:=by
  rcases h q with ⟨l,z⟩ | ⟨_,z⟩
  · refine .inl (Nat.le_trans (zgo (M:=(L ++ lb t q) ++ [l]) fun x hx=>?_) (Nat.le_trans (zoZ _ _) (by simp)))
    rcases List.mem_append.mp hx with y | y
    · exact List.mem_append_left _ (List.mem_append_left _ y)
    · rcases z x y with rfl | w
      · simp
      · exact List.mem_append_left _ (List.mem_append_right _ w)
  · exact .inr (Nat.le_trans (zoZ _ _) (by omega))
theorem zlT {c n:Nat} {t:Tr} (h:Wf c n t) (q:Pl):(lb t q).length≤c+1:=by
  unfold lb
  cases e:zq t q with
  | none=>simp
  | some nd =>
    show (zaM nd.kds).length≤_
    rw [zc6]; exact (h.at e).2.few
def Two (b:Nat) (s t:Tr):Prop:=∀ q,cu (lb s q ++ lb t q)≤b
theorem Two.symm {b:Nat} {s t:Tr} (h:Two b s t):Two b t s:=fun q=>Nat.le_trans (zgo fun x hx=>by
  rcases List.mem_append.mp hx with z | z
  · exact List.mem_append_right _ z
  · exact List.mem_append_left _ z) (h q)
theorem zgw {c n:Nat} {t:Tr} (h:Wf c n t):Two (c+1) t t:=fun q=>by
  refine Nat.le_trans (zgo (M:=lb t q) fun x hx=>?_) (Nat.le_trans (zmj _) (zlT h q))
  rcases List.mem_append.mp hx with z | z <;> exact z
theorem Two.one {b c n:Nat} {s t t':Tr} (h:Two b s t) (hs:Wf c n s) (hb:c+3≤b+1) (o:One t t'):Two (b+1) s t':=fun q=>by
  have h1:=h q; have h2:=zlT hs q; have h3:=zmj (lb s q)
  rcases zoY o q (lb s q) with z | z <;> omega
theorem Two.up {b b':Nat} {s t:Tr} (h:Two b s t) (hb:b≤b'):Two b' s t:=fun q=>Nat.le_trans (h q) hb
theorem Two.kid {b:Nat} {s t k k':Tr} {l:List Nat} (h:Two b s t) (e1:zb l s.kds=some k) (e2:zb l t.kds=some k'):Two b k k':=fun q=>by
  have:=h (l :: q)
  rw [zbL,zbL,e1,e2] at this; exact this
theorem Two.top {b:Nat} {s t:Tr} (h:Two b s t):(zf9 (zaM (s.kds ++ t.kds))).length≤b:=by
  have:=h []
  rw [zel,zel,← zbB] at this; exact this
def zbI (b:Nat) (r s t:Tr):Prop:=∀ q,cu (lb r q ++ (lb s q ++ lb t q))≤b
theorem zkm {c n:Nat} {t:Tr} (h:Wf c n t):zbI (c+1) t t t:=fun q=>by
  refine Nat.le_trans (zgo (M:=lb t q) fun x hx=>?_) (Nat.le_trans (zmj _) (zlT h q))
  rcases List.mem_append.mp hx with z | z
  · exact z
  · rcases List.mem_append.mp z with z | z <;> exact z
theorem zbI.one {b b2:Nat} {r s t t':Tr} (h:zbI b r s t) (h2:Two b2 r s) (hb:b2+2≤b+1) (o:One t t'):zbI (b+1) r s t':=fun q=>by
  have h1:=h q; have h3:=h2 q; rw [← List.append_assoc] at h1 ⊢
  rcases zoY o q (lb r q ++ lb s q) with z | z <;> omega
theorem zbI.swap {b:Nat} {r s t:Tr} (h:zbI b r s t):zbI b r t s:=fun q=>Nat.le_trans (zgo fun x hx=>by
  rcases List.mem_append.mp hx with z | z
  · exact List.mem_append_left _ z
  · rcases List.mem_append.mp z with z | z
    · exact List.mem_append_right _ (List.mem_append_right _ z)
    · exact List.mem_append_right _ (List.mem_append_left _ z)) (h q)
structure Dr (B:Nat) (f a b:Tr):Prop where
  fa:Two B f a
  fb:Two B f b
  ab:Two B a b
theorem Dr.up {B B':Nat} {f a b:Tr} (h:Dr B f a b) (hb:B≤B'):Dr B' f a b:=⟨h.fa.up hb,h.fb.up hb,h.ab.up hb⟩
theorem Dr.swap {B:Nat} {f a b:Tr} (h:Dr B f a b):Dr B f b a:=⟨h.fb,h.fa,h.ab.symm⟩
theorem Dr.one {B c d n:Nat} {f a b b':Tr} (h:Dr B f a b) (hf:Wf c n f) (ha:Wf d n a) (h1:c+3≤B+1) (h2:d+3≤B+1) (o:One b b'):Dr (B+1) f a b' :=
  ⟨h.fa.up (by omega),h.fb.one hf h1 o,h.ab.one ha h2 o⟩
theorem zqy {B c n:Nat} {t:Tr} (h:Wf c n t) (hb:c+1≤B):Dr B t t t:=⟨(zgw h).up hb,(zgw h).up hb,(zgw h).up hb⟩
theorem zmo {t k:Tr} (h:k ∈ t.kds):cnt k≤cnt t:=by
  rw [zcC t]
  have:∀ ks:List Tr,k ∈ ks→cnt k≤(ks.map cnt).sum:=by
    intro ks
    induction ks with
    | nil=>intro h; cases h
    | cons a ks ih =>
      intro h; rw [List.map_cons,List.sum_cons]
      rcases List.mem_cons.mp h with rfl | z
      · omega
      · have:=ih z; omega
  have:=this t.kds h
  omega
def zvD (t u:Tr) (L:List (List Nat)):List (Tr × Tr):=L.filterMap fun l=>match zb l t.kds,zb l u.kds with
  | some k,some k'=>some (k,k')
  | _,_=>none
end M83
namespace M82
open PySem L2 Lb PL MT MS M04 M70 M71
def Tri {α:Type} (f a b r:α):Prop:=(a=f∧r=b)∨(b=f∧r=a)∨(a=b∧r=a)
theorem Tri.map {α β:Type} (g:α→β) {f a b r:α} (h:Tri f a b r):Tri (g f) (g a) (g b) (g r):=by
  rcases h with ⟨rfl,rfl⟩ | ⟨rfl,rfl⟩ | ⟨rfl,rfl⟩
  · exact .inl ⟨rfl,rfl⟩
  · exact .inr (.inl ⟨rfl,rfl⟩)
  · exact .inr (.inr ⟨rfl,rfl⟩)
def zlV (f a b:Tr):List (List Nat):=zf9 (zaM (f.kds ++ (a.kds ++ b.kds)))
end M82
namespace M84
open PySem L2 Lb PL MT MS M04 M70 M71 M81 M82 M83
noncomputable section
open Classical
def st3 {α:Type} (f a b:α):α:=if a=f then b else a
def ck3 {α:Type} (f a b:α):Prop:=a≠f∧b≠f∧a≠b
def L3 (f a b:Tr):List (List Nat):=zfh (zlV f a b)
def kk3 {α:Type} (g:Tr→Tr→Tr→α) (s:Option Tr→Option Tr→Option Tr→α):Option Tr→Option Tr→Option Tr→α
  | some f,some a,some b=>g f a b
  | f,a,b=>s f a b
def jn:Nat→Tr→Tr→Tr→Tr
  | 0,f,_,_=>f
  | n+1,f,a,b=>.node f.lab (st3 f.wds a.wds b.wds) ((L3 f a b).filterMap fun l=>kk3 (fun f a b=>some (jn n f a b)) st3 (zb l f.kds) (zb l a.kds) (zb l b.kds))
def cl:Nat→Tr→Tr→Tr→Pl→List Pl
  | 0,_,_,_,_=>[]
  | n+1,f,a,b,p=>(if ck3 f.wds a.wds b.wds then [p] else []) ++ (L3 f a b).flatMap fun l=>kk3 (fun f a b=>cl n f a b (p ++ [l])) (fun f a b=>if ck3 f a b then [p ++ [l]] else []) (zb l f.kds) (zb l a.kds) (zb l b.kds)
def zi7 (n:Nat) (f a b:Option Tr):Option Tr:=kk3 (fun f a b=>some (jn n f a b)) st3 f a b
def zio (n:Nat) (f a b:Option Tr) (p:Pl):List Pl:=kk3 (fun f a b=>cl n f a b p) (fun f a b=>if ck3 f a b then [p] else []) f a b
theorem znU (n:Nat) (f a b:Tr):jn (n+1) f a b=.node f.lab (st3 f.wds a.wds b.wds) ((L3 f a b).filterMap fun l=>zi7 n (zb l f.kds) (zb l a.kds) (zb l b.kds)):=rfl
theorem zqD (n:Nat) (f a b:Tr) (p:Pl):cl (n+1) f a b p=(if ck3 f.wds a.wds b.wds then [p] else []) ++ (L3 f a b).flatMap fun l=>zio n (zb l f.kds) (zb l a.kds) (zb l b.kds) (p ++ [l]):=rfl
def wt:Nat→Tr→Tr→Tr→Tr
  | 0,f,_,_=>f
  | n+1,f,a,b=>.node f.lab (if ck3 f.wds a.wds b.wds then [] else st3 f.wds a.wds b.wds) ((L3 f a b).filterMap fun l=>kk3 (fun f a b=>some (wt n f a b)) (fun f a b=>if ck3 f a b then none else st3 f a b) (zb l f.kds) (zb l a.kds) (zb l b.kds))
theorem zdM {α:Type} {g:Tr→Tr→Tr→α} {s:Option Tr→Option Tr→Option Tr→α} {f a b:Option Tr} (h:f=none∨a=none∨b=none):kk3 g s f a b=s f a b:=by
  cases f with
  | none=>rfl
  | some f=>cases a with
    | none=>rfl
    | some a=>cases b with
      | none=>rfl
      | some b=>rcases h with h | h | h <;> cases h
theorem zeK {α β:Type} {g h:α→Option β}:∀ {L:List α},(∀ l ∈ L,g l=h l)→L.filterMap g=L.filterMap h
  | [],_=>rfl
  | a :: L,q=>by rw [List.filterMap_cons,List.filterMap_cons,q a List.mem_cons_self,zeK fun l hl=>q l (List.mem_cons_of_mem _ hl)]
theorem zjx {α:Type} (f a b:α):st3 f a b=a∨st3 f a b=b:=by
  unfold st3; split
  · exact .inr rfl
  · exact .inl rfl
theorem zk1 {c:Nat}:∀ {n:Nat} {t:Tr},Wf c n t→Dp n t
  | 0,t,h=>by cases h
  | n+1,.node l ws ks,h=>.mk fun k hk=>zk1 (h.kid k hk)
theorem znV {c:Nat}:∀ {n:Nat} {f a b:Tr},Wf c n f→Wf c n a→Wf c n b→Dp n (jn n f a b)
  | 0,f,_,_,h,_,_=>by cases h
  | n+1,f,a,b,h1,h2,h3=>by
    rw [znU]
    refine .mk fun k hk=>?_
    obtain ⟨l,_,e⟩:=List.mem_filterMap.mp hk; unfold zi7 at e
    cases e1:zb l f.kds with
    | none =>
      rw [e1,zdM (.inl rfl)] at e
      rcases zjx none (zb l a.kds) (zb l b.kds) with z | z <;> rw [z] at e
      · exact zk1 (h2.kw e)
      · exact zk1 (h3.kw e)
    | some f'=>cases e2:zb l a.kds with
      | none =>
        rw [e1,e2,zdM (.inr (.inl rfl))] at e
        rcases zjx (some f') none (zb l b.kds) with z | z <;> rw [z] at e
        · cases e
        · exact zk1 (h3.kw e)
      | some a'=>cases e3:zb l b.kds with
        | none =>
          rw [e1,e2,e3,zdM (.inr (.inr rfl))] at e
          rcases zjx (some f') (some a') none with z | z <;> rw [z] at e
          · rw [← e2] at e; exact zk1 (h2.kw e)
          · cases e
        | some b' =>
          rw [e1,e2,e3] at e; cases e; exact znV (h1.kw e1) (h2.kw e2) (h3.kw e3)
theorem zj9:∀ (n:Nat) (f a b:Tr) (p:Pl),(cl n f a b p).length≤cnt f+cnt a+cnt b
  | 0,f,a,b,p=>by simp [cl]
  | n+1,f,a,b,p=>by
    rw [zqD,List.length_append,List.length_flatMap]
    have hnd:(L3 f a b).Nodup:=zdX (zcg _)
    have each:∀ l ∈ L3 f a b,(zio n (zb l f.kds) (zb l a.kds) (zb l b.kds) (p ++ [l])).length≤oc cnt (zb l f.kds)+(oc cnt (zb l a.kds)+oc cnt (zb l b.kds)):=fun l hl=>by
      have hm:l ∈ zaM f.kds∨l ∈ zaM a.kds∨l ∈ zaM b.kds:=by
        unfold L3 zlV at hl; rw [zcp,zb9,zbB,zbB,List.mem_append,List.mem_append] at hl; exact hl
      have pos:1≤oc cnt (zb l f.kds)+(oc cnt (zb l a.kds)+oc cnt (zb l b.kds)):=by
        rcases hm with z | z | z <;> (obtain ⟨k,hk⟩:=zc8 z; rw [hk]; have:=zhe k; simp only [oc]; omega)
      have zbo:∀ (x y z:Option Tr),(x=none∨y=none∨z=none)→(zio n x y z (p ++ [l])).length≤1:=fun x y z h=>by
        unfold zio; rw [zdM h]
        split <;> simp
      cases e1:zb l f.kds with
      | none=>rw [e1] at pos; exact Nat.le_trans (zbo _ _ _ (.inl rfl)) pos
      | some f'=>cases e2:zb l a.kds with
        | none=>rw [e1,e2] at pos; exact Nat.le_trans (zbo _ _ _ (.inr (.inl rfl))) pos
        | some a'=>cases e3:zb l b.kds with
          | none=>rw [e1,e2,e3] at pos; exact Nat.le_trans (zbo _ _ _ (.inr (.inr rfl))) pos
          | some b' =>
            have:=zj9 n f' a' b' (p ++ [l])
            show (cl n f' a' b' (p ++ [l])).length≤cnt f'+(cnt a'+cnt b')
            omega
    have hs:=zeu each
    have hs2:=zeu (L:=L3 f a b) (f:=fun l=>oc cnt (zb l a.kds)+oc cnt (zb l b.kds)) (g:=fun l=>oc cnt (zb l a.kds)) (h:=fun l=>oc cnt (zb l b.kds)) fun l _=>Nat.le_refl _
    have h1:=zhK cnt (ks:=f.kds) hnd; have h2:=zhK cnt (ks:=a.kds) hnd; have h3:=zhK cnt (ks:=b.kds) hnd
    have hw:(if ck3 f.wds a.wds b.wds then [p] else []).length≤1:=by split <;> simp
    rw [zcC f,zcC a,zcC b]; omega
end
end M84
namespace M85
open PySem L2 Lb PL MT MS M04 M70 M71 M81 M73 M72 M74 M82 M83 M84
noncomputable section
open Classical
def zfd {α β:Type} (f a b:α) (x:β):List β:=if ck3 f a b then [x] else []
theorem zh8 (n:Nat) (f a b:Tr) (p:Pl):cl (n+1) f a b p=zfd f.wds a.wds b.wds p ++ (L3 f a b).flatMap fun l=>zio n (zb l f.kds) (zb l a.kds) (zb l b.kds) (p ++ [l]):=rfl
theorem zaT {n:Nat} {x y z:Option Tr} {p:Pl} (h:x=none∨y=none∨z=none):zio n x y z p=zfd x y z p:=by
  unfold zio; rw [zdM h]; rfl
theorem za4 {n:Nat} {x y z:Option Tr} (h:x=none∨y=none∨z=none):zi7 n x y z=st3 x y z:=by
  unfold zi7; rw [zdM h]
theorem zlb {α β:Type} (g:α→β) {f a b:α} (h:g a=g f→a=f):st3 (g f) (g a) (g b)=g (st3 f a b):=by
  unfold st3
  by_cases e:a=f
  · rw [if_pos e,if_pos (by rw [e])]
  · rw [if_neg e,if_neg fun z=>e (h z)]
theorem zjU {α β γ:Type} (g:α→β) {f a b:α} {x:γ} (h1:g a=g f→a=f) (h2:g b=g f→b=f) (h3:g a=g b→a=b):zfd (g f) (g a) (g b) x=zfd f a b x:=by
  have:ck3 (g f) (g a) (g b)↔ck3 f a b:=⟨fun ⟨u,v,w⟩=>⟨fun e=>u (by rw [e]),fun e=>v (by rw [e]),fun e=>w (by rw [e])⟩,fun ⟨u,v,w⟩=>⟨fun e=>u (h1 e),fun e=>v (h2 e),fun e=>w (h3 e)⟩⟩
  unfold zfd
  by_cases e:ck3 f a b
  · rw [if_pos e,if_pos (this.mpr e)]
  · rw [if_neg e,if_neg fun z=>e (this.mp z)]
theorem zfc {α β:Type} (f a b:α) (x:β):(zfd f a b x).length≤1:=by unfold zfd; split <;> simp
theorem zjV {α β γ:Type} (f a b:α) (x:β) (g:β→γ):(zfd f a b x).map g=zfd f a b (g x):=by unfold zfd; split <;> simp
theorem zoi {n:Nat} {x y z:Option Tr} {p:Pl} (pos:1≤oc cnt x+(oc cnt y+oc cnt z)):(zio n x y z p).length≤oc cnt x+(oc cnt y+oc cnt z):=by
  cases x with
  | none=>rw [zaT (.inl rfl)]; exact Nat.le_trans (zfc _ _ _ _) pos
  | some f=>cases y with
    | none=>rw [zaT (.inr (.inl rfl))]; exact Nat.le_trans (zfc _ _ _ _) pos
    | some a=>cases z with
      | none=>rw [zaT (.inr (.inr rfl))]; exact Nat.le_trans (zfc _ _ _ _) pos
      | some b =>
        have:=zj9 n f a b p
        show (cl n f a b p).length≤cnt f+(cnt a+cnt b)
        omega
theorem zeU {f a b:Tr} {l:List Nat}:l ∈ L3 f a b↔l ∈ zaM f.kds∨l ∈ zaM a.kds∨l ∈ zaM b.kds:=by
  unfold L3 zlV; rw [zcp,zb9,zbB,zbB,List.mem_append,List.mem_append]
theorem zkg (f a b:Tr):(L3 f a b).Nodup:=zdX (zcg _)
theorem zsQ {f a b:Tr} {l:List Nat} (h:l ∈ L3 f a b):1≤oc cnt (zb l f.kds)+(oc cnt (zb l a.kds)+oc cnt (zb l b.kds)):=by
  rcases zeU.mp h with z | z | z <;> (obtain ⟨k,hk⟩:=zc8 z; rw [hk]; have:=zhe k; simp only [oc]; omega)
theorem znj {n:Nat} {f a b:Tr} {p:Pl} {i:Nat} {l:List Nat} (h:(L3 f a b)[i]?=some l) :
    (zfd f.wds a.wds b.wds p).length+(((L3 f a b).take i).flatMap fun l=>zio n (zb l f.kds) (zb l a.kds) (zb l b.kds) (p ++ [l])).length+oc cnt (zb l f.kds)+oc cnt (zb l a.kds)+oc cnt (zb l b.kds)≤cnt f+cnt a+cnt b:=by
  have hnd:((L3 f a b).take (i+1)).Nodup:=(zkg f a b).sublist (List.take_sublist _ _)
  have h1:=zhK cnt (ks:=f.kds) hnd; have h2:=zhK cnt (ks:=a.kds) hnd; have h3:=zhK cnt (ks:=b.kds) hnd
  have hm:∀ l ∈ (L3 f a b).take i,(zio n (zb l f.kds) (zb l a.kds) (zb l b.kds) (p ++ [l])).length≤oc cnt (zb l f.kds)+(oc cnt (zb l a.kds)+oc cnt (zb l b.kds)):=fun l hl=>zoi (zsQ (List.mem_of_mem_take hl))
  have hs:=zeu hm
  have hs2:=zeu (L:=(L3 f a b).take i) (f:=fun l=>oc cnt (zb l a.kds)+oc cnt (zb l b.kds)) (g:=fun l=>oc cnt (zb l a.kds)) (h:=fun l=>oc cnt (zb l b.kds)) fun l _=>Nat.le_refl _
  rw [List.take_succ,h] at h1 h2 h3; simp only [Option.toList_some,List.map_append,List.map_cons,List.map_nil,List.sum_append,List.sum_cons,List.sum_nil] at h1 h2 h3; have hw:=zfc f.wds a.wds b.wds p; rw [List.length_flatMap,zcC f,zcC a,zcC b]; omega
theorem zbI.kid {b:Nat} {r s t k k' k'':Tr} {l:List Nat} (h:zbI b r s t) (e1:zb l r.kds=some k) (e2:zb l s.kds=some k') (e3:zb l t.kds=some k''):zbI b k k' k'':=fun q=>by
  have:=h (l :: q)
  rw [zbL,zbL,zbL,e1,e2,e3] at this; exact this
theorem zbI.top {b:Nat} {r s t:Tr} (h:zbI b r s t):(zlV r s t).length≤b:=by
  have:=h []
  rw [zel,zel,zel,← zbB,← zbB] at this; exact this
theorem zbI.up {b b':Nat} {r s t:Tr} (h:zbI b r s t) (hb:b≤b'):zbI b' r s t:=fun q=>Nat.le_trans (h q) hb
theorem zsR {b:Nat} {r s t:Tr} (h:zbI b r s t):(L3 r s t).length≤b:=by
  unfold L3; rw [zhs]; exact zbI.top h
theorem zt0 {c n:Nat} {f a b:Tr} (h1:Wf c n f) (h2:Wf c n a) (h3:Wf c n b):∀ k ∈ f.kds ++ (a.kds ++ b.kds),zX k.lab=true:=fun k hk=>by
  rcases List.mem_append.mp hk with z | z
  · exact h1.plab k z
  · rcases List.mem_append.mp z with z | z
    · exact h2.plab k z
    · exact h3.plab k z
theorem zi6 {n:Nat} {f a b:Tr} (i:Nat):(((L3 f a b).take i).filterMap fun l=>zi7 n (zb l f.kds) (zb l a.kds) (zb l b.kds)).length≤(L3 f a b).length:=by
  refine Nat.le_trans (List.length_filterMap_le _ _) ?_; rw [List.length_take]; exact Nat.min_le_right _ _
end
end M85
namespace M86
open PySem L2 Lb PL MT MS M04 M70 M71 M81 M73 M72 M74 M82 M83 M84 M85
noncomputable section
open Classical
def zdP (t:Tr) (cs:List Ch):Tr:=cs.foldl (fun x c=>(dn x c).getD x) t
theorem zcf (t:Tr):zdP t []=t:=rfl
theorem zhP (t:Tr) (c:Ch) (cs:List Ch):zdP t (c :: cs)=zdP ((dn t c).getD t) cs:=rfl
theorem zdL (t:Tr) (a b:List Ch):zdP t (a ++ b)=zdP (zdP t a) b:=List.foldl_append
theorem zg2 (t:Tr) (c:Ch):zdP t [c]=(dn t c).getD t:=rfl
theorem zb2 {g:List Nat→Option Tr} {l:List Nat} {o:Option Tr} (h:g l=o):zdB g l o=g:=by
  funext x
  unfold zdB; split
  · rename_i e; rw [e,h]
  · rfl
section
variable {L:List (List Nat)} {lb:List Nat} {ws:Pl}
theorem ziW {l:List Nat} (hL:Ris L) (hl:l ∈ L):∀ (cs:List Ch) {g:List Nat→Option Tr} {k:Tr},GOk g→g l=some k→(∀ c ∈ cs,c≠.out [])→zdP (.node lb ws (byL L g)) (cs.map (zhu l))=.node lb ws (byL L (zdB g l (some (zdP k cs))))
  | [],g,k,h,hk,_=>by
    rw [List.map_nil,zcf,zcf,zb2 hk]
  | c :: cs,g,k,h,hk,hc=>by
    rw [List.map_cons,zhP,zhP,zsA h hL hl hk (hc c List.mem_cons_self)]
    cases ed:dn k c with
    | none =>
      simp only [Option.map_none,Option.getD_none]
      exact ziW hL hl cs h hk fun c hc'=>hc c (List.mem_cons_of_mem _ hc')
    | some x =>
      simp only [Option.map_some,Option.getD_some]
      have hx:x.lab=l:=(zsz ed).trans (h.lab l k hk)
      have h':GOk (zdB g l (some x)):=zl5 h fun y e=>by rw [← Option.some.inj e]; exact hx
      rw [ziW hL hl cs h' (k:=x) (by simp [zdB]) fun c hc'=>hc c (List.mem_cons_of_mem _ hc')]
      congr 1
      refine zf1 fun z _=>?_
      unfold zdB
      split <;> rfl
theorem zjP {g0 g1:List Nat→Option Tr} (h0:GOk g0) (h1:GOk g1) {H:List Nat→List Ch}:∀ R:List (List Nat),R.Nodup→(∀ l ∈ R,∀ g,GOk g→g l=g0 l→zdP (.node lb ws (byL L g)) (H l)=.node lb ws (byL L (zdB g l (g1 l))))→zdP (.node lb ws (byL L (mix R g0 g1))) (R.flatMap H)=.node lb ws (byL L g1)
  | [],_,_=>by
    rw [List.flatMap_nil,zcf]
    congr 1
  | l :: R,hn,h=>by
    rw [List.nodup_cons] at hn; rw [List.flatMap_cons,zdL,h l List.mem_cons_self _ (zqp h0 h1) znt,zns hn.1 rfl]
    exact zjP h0 h1 R hn.2 fun x hx=>h x (List.mem_cons_of_mem _ hx)
theorem zlR {g0 g1:List Nat→Option Tr} (h0:GOk g0) (h1:GOk g1) {H:List Nat→List Ch} {R:List (List Nat)} (hn:R.Nodup) (ho:∀ l ∈ L,l ∉ R→g0 l=g1 l) (h:∀ l ∈ R,∀ g,GOk g→g l=g0 l→zdP (.node lb ws (byL L g)) (H l)=.node lb ws (byL L (zdB g l (g1 l)))):zdP (.node lb ws (byL L g0)) (R.flatMap H)=.node lb ws (byL L g1):=by
  have e:byL L g0=byL L (mix R g0 g1):=zf1 fun x hx=>by
    unfold mix; split
    · rfl
    · rename_i z; exact ho x hx z
  rw [e]; exact zjP h0 h1 R hn h
theorem zp5 {g:List Nat→Option Tr} (h:GOk g) (hL:Ris L) {l:List Nat} (hl:l ∈ L):zdP (.node lb ws (byL L g)) [.out [l]]=.node lb ws (byL L (zdB g l none)):=by
  rw [zg2]
  cases e:g l with
  | some k=>rw [zsy h hL hl e]; rfl
  | none =>
    rw [zb2 e]
    have:zq (.node lb ws (byL L g)) [l]=none:=by
      simp only [zq,zbt]; rw [zkc h hL hl,e]
    simp only [dn,this,reduceCtorEq,if_false,Option.bind_none,Option.getD_none]
theorem zp4 {g:List Nat→Option Tr} (h:GOk g) (hL:Ris L) (hp:∀ l ∈ L,zX l=true) {k:Tr} (hl:k.lab ∈ L):zdP (.node lb ws (byL L g)) [.put [] k]=.node lb ws (byL L (zdB g k.lab (some ((g k.lab).getD k)))):=by
  rw [zg2]
  cases e:g k.lab with
  | none=>rw [zsx h hL hp hl e]; rfl
  | some k' =>
    rw [Option.getD_some,zb2 e]
    have:zb k.lab (byL L g)=some k':=by rw [zkc h hL hl,e]
    simp only [dn,zq,zbt,Option.bind_some,this,Option.getD_none]
end
theorem zfu (l:List Nat):∀ (n:Nat) (t u:Tr) (p:Pl),plain n t u (l :: p)=(plain n t u p).map (zhu l)
  | 0,_,_,_=>rfl
  | n+1,t,u,p=>by
    rw [zcF,zcF,List.map_append,List.map_append,zjD,List.map_flatMap,List.map_flatMap]
    congr 1
    · congr 1
      congr 1
      funext x
      unfold zcM
      cases zb x t.kds <;> cases zb x u.kds <;> rfl
    · congr 1
      funext x
      unfold zgr
      cases zb x t.kds with
      | none=>rfl
      | some k=>cases zb x u.kds with
        | none=>rfl
        | some k'=>exact zfu l n k k' (p ++ [x])
theorem zhD:∀ (n:Nat) (t u:Tr) (p:Pl),∀ c ∈ plain n t u p,c≠.out []
  | 0,_,_,_,c,h=>by simp [M81.plain] at h
  | n+1,t,u,p,c,h=>by
    rw [zcF,List.mem_append,List.mem_append,List.mem_flatMap,List.mem_flatMap] at h
    rcases h with (h | ⟨x,_,h⟩) | ⟨x,_,h⟩
    · unfold rd at h
      split at h
      · cases h
      · rw [List.mem_singleton.mp h]; simp
    · unfold zcM at h
      cases e1:zb x t.kds with
      | none=>cases e2:zb x u.kds with
        | none=>rw [e1,e2] at h; cases h
        | some k'=>rw [e1,e2] at h; rw [List.mem_singleton.mp h]; simp
      | some k=>cases e2:zb x u.kds with
        | none=>rw [e1,e2] at h; rw [List.mem_singleton.mp h]; simp
        | some k'=>rw [e1,e2] at h; cases h
    · unfold zgr at h
      cases e1:zb x t.kds with
      | none=>rw [e1] at h; cases h
      | some k=>cases e2:zb x u.kds with
        | none=>rw [e1,e2] at h; cases h
        | some k' =>
          rw [e1,e2] at h; exact zhD n k k' _ c h
theorem zgh:∀ (n:Nat) (t:Tr) (p:Pl),plain n t t p=[]
  | 0,_,_=>rfl
  | n+1,t,p=>by
    have e1:∀ l ∈ zb5 t t,zcM t t p l=[]:=fun l _=>by unfold zcM; cases zb l t.kds <;> rfl
    have e2:∀ l ∈ zb5 t t,zgr n t t p l=[]:=fun l _=>by
      unfold zgr
      cases zb l t.kds with
      | none=>rfl
      | some k=>exact zgh n k _
    rw [zcF,List.flatMap_eq_nil_iff.mpr e1,List.flatMap_eq_nil_iff.mpr e2]; unfold rd; rw [if_pos rfl]; rfl
theorem zsm (n:Nat) (f a b:Tr):(jn n f a b).lab=f.lab:=by cases n <;> rfl
theorem zg7 {n:Nat} {f a b:Tr} {l:List Nat} {k:Tr} (e:zi7 n (zb l f.kds) (zb l a.kds) (zb l b.kds)=some k):k.lab=l:=by
  have os:∀ {x y z:Option Tr},(x=none∨y=none∨z=none)→(∀ k,y=some k→k.lab=l)→(∀ k,z=some k→k.lab=l)→zi7 n x y z=some k→k.lab=l:=fun h hy hz e=>by
    rw [za4 h] at e
    rcases zjx _ _ _ with w | w <;> rw [w] at e
    · exact hy _ e
    · exact hz _ e
  have ha:∀ k,zb l a.kds=some k→k.lab=l:=fun k h=>(za3 h).2
  have hb:∀ k,zb l b.kds=some k→k.lab=l:=fun k h=>(za3 h).2
  cases e1:zb l f.kds with
  | none=>rw [e1] at e; exact os (.inl rfl) ha hb e
  | some f'=>cases e2:zb l a.kds with
    | none=>rw [e1,e2] at e; exact os (.inr (.inl rfl)) (by rw [← e2]; exact ha) hb e
    | some a'=>cases e3:zb l b.kds with
      | none=>rw [e1,e2,e3] at e; exact os (.inr (.inr rfl)) (by rw [← e2]; exact ha) (by rw [← e3]; exact hb) e
      | some b' =>
        rw [e1,e2,e3] at e
        have:some (jn n f' a' b')=some k:=e
        rw [← Option.some.inj this,zsm]; exact (za3 e1).2
theorem zkf {c n:Nat} {f a b:Tr} (h1:Wf c n f) (h2:Wf c n a) (h3:Wf c n b):Ris (L3 f a b)∧∀ l ∈ L3 f a b,zX l=true:=by
  have hp:∀ l,l ∈ L3 f a b→zX l=true:=fun l hl=>by
    rcases zeU.mp hl with z | z | z
    · obtain ⟨k,hk,rfl⟩:=List.mem_map.mp z
      exact h1.plab k hk
    · obtain ⟨k,hk,rfl⟩:=List.mem_map.mp z
      exact h2.plab k hk
    · obtain ⟨k,hk,rfl⟩:=List.mem_map.mp z
      exact h3.plab k hk
  refine ⟨zhr (zcg _) fun l hl=>hp l ?_,hp⟩
  unfold L3 zlV; rw [zcp]; exact hl
def zoB (n:Nat) (f a b:Tr) (l:List Nat):Option Tr:=match zb l f.kds,zb l b.kds with
  | none,some _=>zi7 n (zb l f.kds) (zb l a.kds) (zb l b.kds)
  | some _,none=>zi7 n (zb l f.kds) (zb l a.kds) (zb l b.kds)
  | _,_=>zb l a.kds
theorem zjX (n:Nat) (f a b:Tr):GOk (zoB n f a b):=⟨fun l k e=>by
  unfold zoB at e; split at e
  · exact zg7 e
  · exact zg7 e
  · exact (za3 e).2⟩
theorem zn0 (n:Nat) (f a b:Tr):GOk fun l=>zi7 n (zb l f.kds) (zb l a.kds) (zb l b.kds):=⟨fun l k e=>zg7 e⟩
theorem zjK {α:Type} {f a b:α} (h:¬ ck3 f a b):a=f∨b=f∨a=b:=by
  by_cases h1:a=f
  · exact .inl h1
  · by_cases h2:b=f
    · exact .inr (.inl h2)
    · by_cases h3:a=b
      · exact .inr (.inr h3)
      · exact absurd ⟨h1,h2,h3⟩ h
theorem zoP {P:Prop} {α:Type} {x:α} (h:(if P then [x] else [])=[]):¬ P:=fun z=>by rw [if_pos z] at h; cases h
theorem zj7 {n:Nat} {f a b:Tr} {p:Pl} (h:cl (n+1) f a b p=[]):¬ ck3 f.wds a.wds b.wds∧∀ l ∈ L3 f a b,zio n (zb l f.kds) (zb l a.kds) (zb l b.kds) (p ++ [l])=[]:=by
  rw [zqD,List.append_eq_nil_iff] at h
  exact ⟨zoP h.1,fun l hl=>List.flatMap_eq_nil_iff.mp h.2 l hl⟩
theorem zes {n:Nat} {x y z:Option Tr} {p:Pl} (hn:x=none∨y=none∨z=none) (h:zio n x y z p=[]):¬ ck3 x y z:=by
  rw [zaT hn] at h; exact zoP h
theorem zfb {c:Nat}:∀ {n:Nat} {f a b:Tr} {p:Pl},Wf c n f→Wf c n a→Wf c n b→f.lab=a.lab→cl n f a b p=[]→zdP a (plain n f b [])=jn n f a b
  | 0,f,a,b,p,h,_,_,_,_=>by cases h
  | n+1,f,a,b,p,h1,h2,h3,hlab,hcl=>by
    obtain ⟨hL,hp⟩:=zkf h1 h2 h3; obtain ⟨hw,hk⟩:=zj7 hcl; have hg0:=zst a.kds
    have ea:a=.node f.lab a.wds (byL (L3 f a b) fun l=>zb l a.kds):=by
      rw [← zjR hL h2.ris fun l hl=>zeU.mpr (.inr (.inl hl)),hlab]
      cases a; rfl
    have in2:∀ l,l ∈ zb5 f b→l ∈ L3 f a b:=fun l hl=>zeU.mpr ((zcA.mp hl).elim .inl fun z=>.inr (.inr z))
    have s1:zdP a (rd f b [])=.node f.lab (st3 f.wds a.wds b.wds) (byL (L3 f a b) fun l=>zb l a.kds):=by
      unfold rd
      by_cases e:f.wds=b.wds
      · rw [if_pos e,zcf]
        have:st3 f.wds a.wds b.wds=a.wds:=by
          unfold st3; split
          · rename_i z; rw [z,e]
          · rfl
        rw [this,← ea]
      · rw [if_neg e,zg2]
        have:st3 f.wds a.wds b.wds=b.wds:=by
          unfold st3; split
          · rfl
          · rename_i z
            rcases zjK hw with w | w | w
            · exact absurd w z
            · exact absurd w.symm e
            · exact w
        conv=>lhs; rw [ea]
        rw [zqz,this]; rfl
    have s2:zdP (.node f.lab (st3 f.wds a.wds b.wds) (byL (L3 f a b) fun l=>zb l a.kds)) ((zb5 f b).flatMap (zcM f b []))=.node f.lab (st3 f.wds a.wds b.wds) (byL (L3 f a b) (zoB n f a b)):=by
      refine zlR hg0 (zjX n f a b) zc7 (fun l hl hn=>?_) fun l hl g hg eg=>?_
      · have n1:zb l f.kds=none:=zbs.mpr fun z=>hn (zcA.mpr (.inl z))
        have n2:zb l b.kds=none:=zbs.mpr fun z=>hn (zcA.mpr (.inr z))
        unfold zoB; rw [n1,n2]
      · have hc:=hk l (in2 l hl)
        unfold zcM zoB
        cases e1:zb l f.kds with
        | none=>cases e2:zb l b.kds with
          | none =>
            show zdP _ []=_
            rw [zcf]
            simp only
            rw [zb2 eg]
          | some k =>
            rw [e1,e2] at hc; have kl:=(za3 e2).2
            show zdP _ [Ch.put [] k]=_
            simp only
            rw [zp4 hg hL hp (by rw [kl]; exact in2 l hl),kl,eg,za4 (.inl rfl)]
            congr 3
            cases e3:zb l a.kds with
            | none=>unfold st3; rw [if_pos rfl]; rfl
            | some k'=>unfold st3; rw [if_neg (by simp)]; rfl
        | some k=>cases e2:zb l b.kds with
          | some k' =>
            show zdP _ []=_
            rw [zcf]
            simp only
            rw [zb2 eg]
          | none =>
            rw [e1,e2] at hc; have hc':=zes (.inr (.inr rfl)) hc
            show zdP _ [Ch.out ([] ++ [l])]=_
            simp only [List.nil_append]; rw [zp5 hg hL (in2 l hl),za4 (.inr (.inr rfl))]
            congr 3
            unfold st3; split
            · rfl
            · rename_i z
              rcases zjK hc' with w | w | w
              · exact absurd w z
              · cases w
              · exact w.symm
    have s3:zdP (.node f.lab (st3 f.wds a.wds b.wds) (byL (L3 f a b) (zoB n f a b))) ((zb5 f b).flatMap (zgr n f b []))=.node f.lab (st3 f.wds a.wds b.wds) (byL (L3 f a b) fun l=>zi7 n (zb l f.kds) (zb l a.kds) (zb l b.kds)):=by
      refine zlR (zjX n f a b) (zn0 n f a b) zc7 (fun l hl hn=>?_) fun l hl g hg eg=>?_
      · have n1:zb l f.kds=none:=zbs.mpr fun z=>hn (zcA.mpr (.inl z))
        have n2:zb l b.kds=none:=zbs.mpr fun z=>hn (zcA.mpr (.inr z))
        unfold zoB; rw [n1,n2,za4 (.inl rfl)]; unfold st3
        cases zb l a.kds with
        | none=>rw [if_pos rfl]
        | some k=>rw [if_neg (by simp)]
      · have hc:=hk l (in2 l hl)
        unfold zgr; unfold zoB at eg
        cases e1:zb l f.kds with
        | none =>
          rw [e1] at eg
          show zdP _ []=_
          rw [zcf]
          cases e2:zb l b.kds with
          | none=>exact absurd (zcA.mp hl) (by rintro (z | z); exact zbs.mp e1 z; exact zbs.mp e2 z)
          | some k =>
            rw [e2] at eg; rw [zb2 eg]
        | some k=>cases e2:zb l b.kds with
          | none =>
            rw [e1,e2] at eg
            show zdP _ []=_
            rw [zcf,zb2 eg]
          | some k' =>
            rw [e1,e2] at eg hc
            simp only at eg
            show zdP _ (plain n k k' ([] ++ [l]))=_
            simp only [List.nil_append]
            cases e3:zb l a.kds with
            | none =>
              rw [e3] at eg hc; have hc':=zes (.inr (.inl rfl)) hc
              have ek:k'=k:=by
                rcases zjK hc' with w | w | w
                · cases w
                · exact Option.some.inj w
                · cases w
              rw [ek,zgh,zcf,za4 (.inr (.inl rfl))]
              have:st3 (some k) none (some k)=none:=by unfold st3; rw [if_neg (by simp)]
              rw [this,zb2 eg]
            | some ka =>
              rw [e3] at eg hc
              rw [zfu l n k k' [],ziW hL (in2 l hl) _ hg eg fun c hc=>zhD n k k' [] c hc]
              have:=zfb (h1.kw e1) (h2.kw e3) (h3.kw e2) ((za3 e1).2.trans (za3 e3).2.symm) hc
              rw [this]; rfl
    rw [zcF,zdL,zdL,s1,s2,s3]; rfl
theorem zmq:∀ (n:Nat) (f b:Tr) (p:Pl),cl n f f b p=[]
  | 0,_,_,_=>rfl
  | n+1,f,b,p=>by
    rw [zqD,if_neg fun z=>z.1 rfl,List.nil_append]
    refine List.flatMap_eq_nil_iff.mpr fun l _=>?_
    cases e1:zb l f.kds with
    | none=>rw [zaT (.inl rfl)]; exact if_neg fun z=>z.1 rfl
    | some k=>cases e2:zb l b.kds with
      | none=>rw [zaT (.inr (.inr rfl))]; exact if_neg fun z=>z.1 rfl
      | some k'=>exact zmq n k k' _
theorem zlZ {c:Nat}:∀ {n:Nat} {f b:Tr},Wf c n f→Wf c n b→f.lab=b.lab→jn n f f b=b
  | 0,f,b,h,_,_=>by cases h
  | n+1,f,b,h1,h2,hl=>by
    rw [znU]
    have e:∀ l ∈ L3 f f b,zi7 n (zb l f.kds) (zb l f.kds) (zb l b.kds)=zb l b.kds:=fun l _=>by
      cases e1:zb l f.kds with
      | none=>rw [za4 (.inl rfl)]; unfold st3; rw [if_pos rfl]
      | some k=>cases e2:zb l b.kds with
        | none=>rw [za4 (.inr (.inr rfl))]; unfold st3; rw [if_pos rfl]
        | some k' =>
          show some (jn n k k k')=some k'
          rw [zlZ (h1.kw e1) (h2.kw e2) ((za3 e1).2.trans (za3 e2).2.symm)]
    rw [zeK e]
    have ek:=zjR (zkf h1 h1 h2).1 h2.ris fun l hl=>zeU.mpr (.inr (.inr hl))
    unfold byL at ek; rw [← ek]
    have:st3 f.wds f.wds b.wds=b.wds:=by unfold st3; rw [if_pos rfl]
    rw [this,hl]
    cases b; rfl
theorem zhO {c n:Nat} {f b:Tr} (h1:Wf c n f) (h2:Wf c n b) (hl:f.lab=b.lab):zdP f (plain n f b [])=b:=by
  rw [zfb h1 h1 h2 rfl (zmq n f b []),zlZ h1 h2 hl]
theorem zmx {c n:Nat} {f a b:Tr} (h1:Wf c n f) (h2:Wf c n a) (h3:Wf c n b):L3 f a b=L3 f b a :=
  zgC (zkf h1 h2 h3).1 (zkf h1 h3 h2).1 fun x=>by
    rw [zeU,zeU]
    exact ⟨fun h=>h.elim .inl fun h=>.inr h.symm,fun h=>h.elim .inl fun h=>.inr h.symm⟩
theorem zka {α:Type} {f a b:α}:ck3 f a b↔ck3 f b a:=⟨fun ⟨x,y,z⟩=>⟨y,x,fun e=>z e.symm⟩,fun ⟨x,y,z⟩=>⟨y,x,fun e=>z e.symm⟩⟩
theorem zep {α β:Type} (f a b:α) (x:β):zfd f a b x=zfd f b a x:=by
  unfold zfd
  by_cases e:ck3 f a b
  · rw [if_pos e,if_pos (zka.mp e)]
  · rw [if_neg e,if_neg fun z=>e (zka.mp z)]
theorem zeZ {α:Type} {f a b:α} (h:¬ ck3 f a b):st3 f a b=st3 f b a:=by
  unfold st3
  by_cases e1:a=f <;> by_cases e2:b=f
  · rw [if_pos e1,if_pos e2,e1,e2]
  · rw [if_pos e1,if_neg e2]
  · rw [if_neg e1,if_pos e2]
  · rw [if_neg e1,if_neg e2]
    rcases zjK h with w | w | w
    · exact absurd w e1
    · exact absurd w e2
    · exact w
theorem zn3 {α β:Type} {g h:α→List β} {L:List α} (q:∀ l ∈ L,g l=h l):L.flatMap g=L.flatMap h:=by
  induction L with
  | nil=>rfl
  | cons a L ih=>rw [List.flatMap_cons,List.flatMap_cons,q a List.mem_cons_self,ih fun l hl=>q l (List.mem_cons_of_mem _ hl)]
theorem zjl {c:Nat}:∀ {n:Nat} {f a b:Tr} {p:Pl},Wf c n f→Wf c n a→Wf c n b→cl n f a b p=cl n f b a p
  | 0,f,a,b,p,h,_,_=>by cases h
  | n+1,f,a,b,p,h1,h2,h3=>by
    rw [zh8,zh8,zep,zmx h1 h2 h3]
    congr 1
    refine zn3 fun l _=>?_
    cases e1:zb l f.kds with
    | none=>rw [zaT (.inl rfl),zaT (.inl rfl),zep]
    | some f'=>cases e2:zb l a.kds with
      | none=>rw [zaT (.inr (.inl rfl)),zaT (.inr (.inr rfl)),zep]
      | some a'=>cases e3:zb l b.kds with
        | none=>rw [zaT (.inr (.inr rfl)),zaT (.inr (.inl rfl)),zep]
        | some b'=>exact zjl (h1.kw e1) (h2.kw e2) (h3.kw e3)
theorem zi5 {c:Nat}:∀ {n:Nat} {f a b:Tr} {p:Pl},Wf c n f→Wf c n a→Wf c n b→cl n f a b p=[]→jn n f a b=jn n f b a
  | 0,f,a,b,p,h,_,_,_=>by cases h
  | n+1,f,a,b,p,h1,h2,h3,hcl=>by
    obtain ⟨hw,hk⟩:=zj7 hcl; rw [znU,znU,zeZ hw,← zmx h1 h2 h3]
    congr 1
    refine zeK fun l hl=>?_
    have hc:=hk l hl
    cases e1:zb l f.kds with
    | none =>
      rw [e1] at hc; rw [za4 (.inl rfl),za4 (.inl rfl),zeZ (zes (.inl rfl) hc)]
    | some f'=>cases e2:zb l a.kds with
      | none =>
        rw [e1,e2] at hc; rw [za4 (.inr (.inl rfl)),za4 (.inr (.inr rfl)),zeZ (zes (.inr (.inl rfl)) hc)]
      | some a'=>cases e3:zb l b.kds with
        | none =>
          rw [e1,e2,e3] at hc; rw [za4 (.inr (.inr rfl)),za4 (.inr (.inl rfl)),zeZ (zes (.inr (.inr rfl)) hc)]
        | some b' =>
          rw [e1,e2,e3] at hc
          show some (jn n f' a' b')=some (jn n f' b' a')
          rw [zi5 (h1.kw e1) (h2.kw e2) (h3.kw e3) hc]
theorem zhf:∀ {n:Nat} {f a b:Tr} {p q:Pl},q ∈ cl n f a b p→(∃ r,q=p ++ r)∧(q ∈ zde f p∨q ∈ zde a p∨q ∈ zde b p)
  | 0,f,a,b,p,q,h=>by simp [cl] at h
  | n+1,f,a,b,p,q,h=>by
    have up:∀ {x k:Tr} {l:List Nat},zb l x.kds=some k→q ∈ zde k (p ++ [l])→q ∈ zde x p:=fun {x k l} e hq=>by
      obtain ⟨m,rfl⟩:=za3 e; rw [zd4]; exact List.mem_cons_of_mem _ (List.mem_flatMap.mpr ⟨k,m,hq⟩)
    rw [zh8,List.mem_append] at h
    rcases h with h | h
    · unfold zfd at h
      split at h
      · rw [List.mem_singleton.mp h]
        exact ⟨⟨[],by simp⟩,.inl (by rw [zd4]; simp)⟩
      · cases h
    · obtain ⟨l,hl,h⟩:=List.mem_flatMap.mp h
      have one:(zb l f.kds=none∨zb l a.kds=none∨zb l b.kds=none)→(∃ r,q=p ++ r)∧(q ∈ zde f p∨q ∈ zde a p∨q ∈ zde b p):=fun hn=>by
        rw [zaT hn] at h; unfold zfd at h; split at h
        · have eq:=List.mem_singleton.mp h
          refine ⟨⟨[l],eq⟩,?_⟩
          have hd:∀ k:Tr,q ∈ zde k (p ++ [l]):=fun k=>by rw [zd4,eq]; simp
          rcases zeU.mp hl with z | z | z
          · obtain ⟨k,e⟩:=zc8 z
            exact .inl (up e (hd k))
          · obtain ⟨k,e⟩:=zc8 z
            exact .inr (.inl (up e (hd k)))
          · obtain ⟨k,e⟩:=zc8 z
            exact .inr (.inr (up e (hd k)))
        · cases h
      cases e1:zb l f.kds with
      | none=>exact one (.inl e1)
      | some f'=>cases e2:zb l a.kds with
        | none=>exact one (.inr (.inl e2))
        | some a'=>cases e3:zb l b.kds with
          | none=>exact one (.inr (.inr e3))
          | some b' =>
            rw [e1,e2,e3] at h
            obtain ⟨⟨r,er⟩,hq⟩:=zhf (n:=n) (f:=f') (a:=a') (b:=b') (p:=p ++ [l]) h
            refine ⟨⟨l :: r,by rw [er]; simp⟩,?_⟩
            rcases hq with z | z | z
            · exact .inl (up e1 z)
            · exact .inr (.inl (up e2 z))
            · exact .inr (.inr (up e3 z))
theorem zhi {n:Nat} {x y z:Option Tr} {p q:Pl} (h:q ∈ zio n x y z p):∃ r,q=p ++ r:=by
  have one:(x=none∨y=none∨z=none)→∃ r,q=p ++ r:=fun hn=>by
    rw [zaT hn] at h; unfold zfd at h; split at h
    · exact ⟨[],by rw [List.mem_singleton.mp h]; simp⟩
    · cases h
  cases x with
  | none=>exact one (.inl rfl)
  | some f=>cases y with
    | none=>exact one (.inr (.inl rfl))
    | some a=>cases z with
      | none=>exact one (.inr (.inr rfl))
      | some b=>exact (zhf h).1
theorem zj8:∀ (n:Nat) (f a b:Tr) (p:Pl),(cl n f a b p).Nodup
  | 0,_,_,_,_=>by simp [cl]
  | n+1,f,a,b,p=>by
    rw [zh8,List.nodup_append]; refine ⟨?_,?_,?_⟩
    · unfold zfd
      split <;> simp
    · unfold List.Nodup
      rw [List.pairwise_flatMap]; constructor
      · intro l _
        have one:∀ {x y z:Option Tr},(x=none∨y=none∨z=none)→(zio n x y z (p ++ [l])).Pairwise (·≠·):=fun hn=>by
          rw [zaT hn]; unfold zfd
          split <;> simp
        cases zb l f.kds with
        | none=>exact one (.inl rfl)
        | some f'=>cases zb l a.kds with
          | none=>exact one (.inr (.inl rfl))
          | some a'=>cases zb l b.kds with
            | none=>exact one (.inr (.inr rfl))
            | some b'=>exact zj8 n f' a' b' _
      · refine (zkg f a b).imp fun {l m} hne x hx y hy e=>hne ?_
        obtain ⟨r,er⟩:=zhi hx; obtain ⟨s,es⟩:=zhi hy; rw [er,es,List.append_assoc,List.append_assoc] at e
        have:=List.append_cancel_left e
        simp at this
        exact this.1
    · intro x hx y hy e
      unfold zfd at hx; split at hx
      · obtain ⟨l,_,hy⟩:=List.mem_flatMap.mp hy
        obtain ⟨r,er⟩:=zhi hy; rw [← e,List.mem_singleton.mp hx] at er
        have:=congrArg List.length er
        simp at this
      · cases hx
end
end M86
namespace M87
open PySem L2 Lb PL MT MS M04 M70 M71 M81 M73 M72 M74 M82 M83 M84 M85 M86
def ztm (n W:Nat) (U:Pl→List (List Nat)) (q:Pl) (nd:Tr):Prop:=q.length<n∧Ris (zaM nd.kds)∧(∀ l ∈ zaM nd.kds,l ∈ U q∧zX l=true)∧nd.wds.length≤W
def Fr (n W:Nat) (U:Pl→List (List Nat)) (t:Tr):Prop:=∀ q nd,zq t q=some nd→ztm n W U q nd
theorem zej {t k:Tr} {l:List Nat} {q:Pl} (e:zb l t.kds=some k):zq t (l :: q)=zq k q:=by
  simp only [zq,e]
theorem Fr.wf {c:Nat}:∀ {n:Nat} {U:Pl→List (List Nat)} {t:Tr},Fr n (3 * c+3) U t→(∀ q,cu (U q)≤c+1)→Wf c n t
  | 0,U,t,h,_=>absurd (h [] t rfl).1 (by simp)
  | n+1,U,t,h,hu=>by
    obtain ⟨_,hr,hl,hw⟩:=h [] t rfl
    refine .mk' (fun k hk=>?_) (fun k hk=>(hl k.lab (List.mem_map_of_mem hk)).2) hr ?_ hw
    · refine Fr.wf (U:=fun q=>U (k.lab :: q)) (fun q nd e=>?_) fun q=>hu _
      obtain ⟨a,b,d,f⟩:=h (k.lab :: q) nd (by rw [zej (zbC hr.nodup hk)]; exact e)
      exact ⟨by simpa using a,b,d,f⟩
    · have:=zei hr.nodup (m:=zf9 (U [])) fun l h=>(zb9 _ _).mpr (hl l h).1
      rw [zc6] at this; exact Nat.le_trans this (hu [])
theorem zq3 {c n W:Nat} {U:Pl→List (List Nat)} {t nd:Tr} {q:Pl} (h:Wf c n t) (hW:3 * c+3≤W) (hu:∀ q,∀ l ∈ lb t q,l ∈ U q) (e:zq t q=some nd):ztm n W U q nd:=by
  obtain ⟨a,b⟩:=h.at e
  refine ⟨a,b.ris,fun l hl=>⟨hu q l ?_,?_⟩,Nat.le_trans b.wfew hW⟩
  · unfold lb
    rw [e]; exact hl
  · obtain ⟨k,hk,rfl⟩:=List.mem_map.mp hl
    exact b.plab k hk
theorem Wf.fr {c n W:Nat} {U:Pl→List (List Nat)} {t:Tr} (h:Wf c n t) (hW:3 * c+3≤W) (hu:∀ q,∀ l ∈ lb t q,l ∈ U q):Fr n W U t:=fun q nd e=>zq3 h hW hu e
def zqP (n W:Nat) (U:Pl→List (List Nat)):Ch→Prop
  | .read p ws=>ws.length≤W
  | .out p=>True
  | .put p k=>k.lab ∈ U p∧zX k.lab=true∧∀ r m,zq k r=some m→ztm n W U (p ++ k.lab :: r) m
theorem zlN {ws:Pl} {ks:List Tr}:∀ {p:Pl} {t:Tr} {q:Pl} {m:Tr},zq (made t p ws ks) q=some m→(∃ r lb,q=p ++ r∧zq (.node lb ws ks) r=some m)∨∃ m',zq t q=some m'∧zaM m.kds=zaM m'.kds∧m.wds=m'.wds
  | [],t,q,m,h=>.inl ⟨q,t.lab,rfl,h⟩
  | l :: p,t,[],m,h=>by
    simp only [made,zq,Option.some.injEq] at h; subst h
    exact .inr ⟨t,rfl,by rw [zbt,zfI],rfl⟩
  | l :: p,t,x :: q,m,h=>by
    simp only [made,zq,zbt] at h; rw [ziY] at h
    cases e:zb x t.kds with
    | none=>rw [e] at h; cases h
    | some k =>
      rw [e] at h; simp only [Option.map_some] at h
      by_cases el:k.lab=l
      · rw [if_pos el] at h
        have ex:x=l:=(za3 e).2.symm.trans el
        subst ex
        rcases zlN h with ⟨r,lb,e1,e2⟩ | ⟨m',e1,e2⟩
        · exact .inl ⟨r,lb,by rw [e1]; rfl,e2⟩
        · exact .inr ⟨m',by rw [zej e]; exact e1,e2⟩
      · rw [if_neg el] at h
        exact .inr ⟨m,by rw [zej e]; exact h,rfl,rfl⟩
theorem zjN:∀ (p:Pl) (t:Tr) (r:Pl),zq t (p ++ r)=(zq t p).bind fun x=>zq x r
  | [],t,r=>rfl
  | l :: p,t,r=>by
    simp only [List.cons_append,zq]
    cases zb l t.kds with
    | none=>rfl
    | some k=>exact zjN p k r
theorem zjb {n W:Nat} {U:Pl→List (List Nat)} {t nd:Tr} {p ws:Pl} {ks:List Tr} (h:Fr n W U t) (hn:zq t p=some nd) (hw:ws.length≤W) (hr:Ris (zaM ks)) (hk:∀ k ∈ ks,k ∈ nd.kds∨(k.lab ∈ U p∧zX k.lab=true∧∀ r m,zq k r=some m→ztm n W U (p ++ k.lab :: r) m)):Fr n W U (made t p ws ks):=fun q m e0=>by
  obtain ⟨n1,n2,n3,n4⟩:=h p nd hn
  rcases zlN e0 with ⟨r,lb,rfl,e⟩ | ⟨m',e1,e2,e3⟩
  · cases r with
    | nil =>
      simp only [zq,Option.some.injEq] at e; subst e; rw [List.append_nil]
      refine ⟨n1,hr,fun l hl=>?_,hw⟩
      obtain ⟨k,hk',rfl⟩:=List.mem_map.mp hl
      rcases hk k hk' with z | z
      · exact n3 _ (List.mem_map_of_mem z)
      · exact ⟨z.1,z.2.1⟩
    | cons x r =>
      simp only [zq,zbt] at e
      cases ek:zb x ks with
      | none=>rw [ek] at e; cases e
      | some k =>
        rw [ek] at e; obtain ⟨hm,hl⟩:=za3 ek
        rcases hk k hm with z | z
        · have e':=zbC n2.nodup z
          rw [hl] at e'; refine h (p ++ x :: r) m ?_; rw [zjN,hn]
          show zq nd (x :: r)=some m
          rw [zej e']; exact e
        · have:=z.2.2 r m e
          rw [hl] at this; exact this
  · obtain ⟨a,b,c,d⟩:=h q m' e1
    exact ⟨a,by rw [e2]; exact b,by rw [e2]; exact c,by rw [e3]; exact d⟩
theorem Fr.dn {n W:Nat} {U:Pl→List (List Nat)} {t x:Tr} {ch:Ch} (h:Fr n W U t) (hc:zqP n W U ch) (e:dn t ch=some x):Fr n W U x:=by
  cases ch with
  | read p ws =>
    simp only [M72.dn,Option.map_eq_some_iff] at e; obtain ⟨nd,hn,rfl⟩:=e
    exact zjb h hn hc (h p nd hn).2.1 fun k hk=>.inl hk
  | out p =>
    simp only [M72.dn] at e; split at e
    · cases e
    · rw [Option.bind_eq_some_iff] at e
      obtain ⟨_,_,e⟩:=e; rw [Option.map_eq_some_iff] at e; obtain ⟨nd,hn,rfl⟩:=e; obtain ⟨_,n2,_,n4⟩:=h _ nd hn
      exact zjb h hn n4 (List.Pairwise.sublist (List.filter_sublist.map _) n2) fun k hk=>.inl (List.mem_filter.mp hk).1
  | put p k =>
    simp only [M72.dn] at e; rw [Option.bind_eq_some_iff] at e; obtain ⟨nd,hn,e⟩:=e; split at e
    · cases e
    · rename_i hk
      rw [← Option.some.inj e]; obtain ⟨n1,n2,n3,n4⟩:=h p nd hn
      have hpp:∀ y ∈ nd.kds ++ [k],zX y.lab=true:=fun y hy=>by
        rcases List.mem_append.mp hy with z | z
        · exact (n3 _ (List.mem_map_of_mem z)).2
        · rw [List.mem_singleton.mp z]; exact hc.2.1
      have ok:=zdN hpp
      refine zjb h hn n4 ok.ris fun y hy=>?_
      rcases List.mem_append.mp (ok.mem y hy) with z | z
      · exact .inl z
      · rw [List.mem_singleton.mp z]
        exact .inr hc
theorem Fr.dnD {n W:Nat} {U:Pl→List (List Nat)} {t:Tr} {ch:Ch} (h:Fr n W U t) (hc:zqP n W U ch):Fr n W U ((M72.dn t ch).getD t):=by
  cases e:M72.dn t ch with
  | none=>exact h
  | some x=>exact h.dn hc e
theorem zgK {c d N W:Nat} {U:Pl→List (List Nat)} (hW:3 * d+3≤W):∀ {n:Nat} {t u:Tr} {p:Pl},Wf c n t→Wf d n u→p.length+n≤N→(∀ q,∀ l ∈ lb u q,l ∈ U (p ++ q))→∀ x ∈ plain n t u p,zqP N W U x∧zq0 d N x
  | 0,t,u,p,h,_,_,_,_,_=>by cases h
  | n+1,t,u,p,h1,h2,hN,hu,x,hx=>by
    rw [zcF,List.mem_append,List.mem_append,List.mem_flatMap,List.mem_flatMap] at hx
    rcases hx with (hx | ⟨l,_,hx⟩) | ⟨l,_,hx⟩
    · unfold rd at hx
      split at hx
      · cases hx
      · rw [List.mem_singleton.mp hx]
        exact ⟨Nat.le_trans h2.wfew hW,by omega,h2.wfew⟩
    · unfold zcM at hx
      cases e1:zb l t.kds with
      | none=>cases e2:zb l u.kds with
        | none=>rw [e1,e2] at hx; cases hx
        | some k =>
          rw [e1,e2] at hx; rw [List.mem_singleton.mp hx]; have wk:=h2.kw e2; obtain ⟨hk,hl⟩:=za3 e2
          refine ⟨⟨?_,h2.plab k hk,fun r m e=>?_⟩,?_⟩
          · have:=hu [] k.lab (by rw [zel]; exact List.mem_map_of_mem hk)
            rwa [List.append_nil] at this
          · have:=zq3 (U:=fun q=>U (p ++ k.lab :: q)) wk hW (fun q l' hl'=>hu (k.lab :: q) l' (by rw [zbL,hl,e2]; exact hl')) e
            obtain ⟨a,b,f,g⟩:=this
            exact ⟨by rw [List.length_append,List.length_cons]; omega,b,f,g⟩
          · obtain ⟨m,rfl⟩:=wk.pos
            exact ⟨by omega,h2.plab k hk,wk.up (Nat.le_refl _) (by omega)⟩
      | some k0=>cases e2:zb l u.kds with
        | none =>
          rw [e1,e2] at hx; rw [List.mem_singleton.mp hx]; refine ⟨trivial,?_⟩
          show (p ++ [l]).length≤N
          rw [List.length_append,List.length_singleton]; omega
        | some k=>rw [e1,e2] at hx; cases hx
    · unfold zgr at hx
      cases e1:zb l t.kds with
      | none=>rw [e1] at hx; cases hx
      | some k0=>cases e2:zb l u.kds with
        | none=>rw [e1,e2] at hx; cases hx
        | some k =>
          rw [e1,e2] at hx
          refine zgK hW (h1.kw e1) (h2.kw e2) (by rw [List.length_append,List.length_singleton]; omega) (fun q l' hl'=>?_) x hx
          rw [List.append_assoc]
          exact hu (l :: q) l' (by rw [zbL,e2]; exact hl')
def U3 (f a b:Tr):Pl→List (List Nat):=fun q=>lb f q ++ (lb a q ++ lb b q)
theorem zts {B:Nat} {f a b:Tr} (h:zbI B f a b):∀ q,cu (U3 f a b q)≤B:=h
theorem zvj {f a b:Tr}:∀ q,∀ l ∈ lb f q,l ∈ U3 f a b q:=fun q l h=>List.mem_append_left _ h
theorem zvl {f a b:Tr}:∀ q,∀ l ∈ lb a q,l ∈ U3 f a b q:=fun q l h=>List.mem_append_right _ (List.mem_append_left _ h)
theorem zvk {f a b:Tr}:∀ q,∀ l ∈ lb b q,l ∈ U3 f a b q:=fun q l h=>List.mem_append_right _ (List.mem_append_right _ h)
theorem zhm {B:Nat} {f a b:Tr} (h:zbI B f a b):Two B f a:=fun q=>Nat.le_trans (zgo fun x hx=>by
  rcases List.mem_append.mp hx with z | z
  · exact List.mem_append_left _ z
  · exact List.mem_append_right _ (List.mem_append_left _ z)) (h q)
end M87
namespace PL
open PySem L2
section
variable {X:Cx}
def zas (t:TT') (ta tb:TO'):TO':=fun Γ Q=>t Γ fun c Γ1=>if c=true then ta Γ1 Q else tb Γ1 Q
theorem zrM {c a b:Expr} {tA:TT'} {ta tb:TO'} {pos:Pos} (hc:PT' X c tA) (ha:PO' X a ta) (hb:PO' X b tb):PO' X (.IfExp c a b pos) (zas tA ta tb):=by
  refine ⟨PE.weak (zgO hc.h ha.h hb.h) ?_⟩
  rintro σ H Q ⟨W,Hi,Γ,Q',g,h,fin⟩
  refine ⟨W,Hi,Γ,_,g,h,?_⟩; intro k H1 Hi1 Γ1 s1 g1 h1
  cases k with
  | true=>exact ⟨W,Hi1,Γ1,_,g1,h1,fun a H2 Hi2 Γ2 o s2 g2 nw q=>fin a H2 Hi2 Γ2 o (s1.trans s2) g2 nw q⟩
  | false=>exact ⟨W,Hi1,Γ1,_,g1,h1,fun a H2 Hi2 Γ2 o s2 g2 nw q=>fin a H2 Hi2 Γ2 o (s1.trans s2) g2 nw q⟩
def zJ (i j:Nat):TO':=fun Γ Q=>∃ xs ys,Γ[i]?=some (.own (.lst xs))∧Γ[j]?=some (.own (.lst ys))∧xs.length+ys.length≤sizeLine∧Q (.lst (xs ++ ys)) Γ
theorem zm6 (i j:Nat) {x y:Str} {p q pos:Pos} (hN:X.N[i]?=some x:=by rfl) (hM:X.N[j]?=some y:=by rfl) (hv:Vis X.env.scope x:=by first | exact Or.inl rfl | exact Or.inr (Or.inl rfl) | exact Or.inr (Or.inr rfl)) (hw:Vis X.env.scope y:=by first | exact Or.inl rfl | exact Or.inr (Or.inl rfl) | exact Or.inr (Or.inr rfl))
    (hd:(x == ("__debug__":Str))=false:=by decide) (hcd:(x == ("__classdict__":Str))=false:=by decide) (he:(y == ("__debug__":Str))=false:=by decide) (hce:(y == ("__classdict__":Str))=false:=by decide) :
    PO' X (.BinOp (.Name x p) .Add (.Name y q) pos) (zJ i j):=by
  refine ⟨PE.weak (zpK zlD (zcS (i:=i) (pos:=p) hN hv hd hcd) (zcS (i:=j) (pos:=q) hM hw he hce)) ?_⟩
  rintro σ H Q ⟨W,Hi,Γ,Q',g,⟨xs,ys,e1,e2,hl,q⟩,fin⟩
  have hi:i<X.N.length:=(List.getElem?_eq_some_iff.mp hN).1
  have hj:j<X.N.length:=(List.getElem?_eq_some_iff.mp hM).1
  obtain ⟨a,h1,h2,h3,vs,h4,h5⟩:=g.own i _ e1; obtain ⟨b,k1,k2,k3,us,k4,k5⟩:=g.own j _ e2
  refine ⟨.ref a,zeT hi h1,.ref b,zeT hj k1,a,b,vs,us,rfl,rfl,SqL.of h4,SqL.of k4,by rw [zi h5,zi k5]; exact hl,fun p hp=>?_⟩
  exact fin p _ Hi Γ (.lst (xs ++ ys)) (zaX.refl _) (g.ext (Ext.newO g.fz hp _ (fun _ z=>by cases z))) (New.mk' g hp ⟨_,zP,zaY h5 k5⟩) q
def zO (i:Nat):TS':=fun N Γ=>∃ ds,Γ[i]?=some (.own (.lst ds))∧N.nx (Γ.set i (.own (.lst [])))
theorem zgj {α β:Type} {R:α→β→Prop}:∀ {l:List α} {m:List β} (i:Nat) {a:α} {b:β},Paired R l m→R a b→Paired R (l.set i a) (m.set i b)
  | [],[],_,_,_,.nil,_=>.nil
  | _ :: _,_ :: _,0,_,_,.cons _ t,r=>.cons r t
  | _ :: _,_ :: _,i+1,_,_,.cons r0 t,r=>.cons r0 (zgj i t r)
def zaj (i:Nat) (tk tv:TE'):TS':=fun N Γ=>tv Γ fun v Γ1=>(∃ ds0,Γ1[i]?=some (.own (.lst ds0)))∧tk Γ1 fun k Γ2=>∃ (ds:List D) (j:Int) (m:Nat),Γ2[i]?=some (.own (.lst ds))∧k=.int j∧ixN ds.length j=some m∧N.nx (Γ2.set i (.own (.lst (ds.set m v))))
theorem zpz (i:Nat) {x:Str} {k value:Expr} {tk tv:TE'} {p pos pos':Pos} (hk:PE' X k tk) (hv:PE' X value tv) (hN:X.N[i]?=some x:=by rfl) (hvi:Vis X.env.scope x:=by first | exact Or.inl rfl | exact Or.inr (Or.inl rfl) | exact Or.inr (Or.inr rfl)) (hd:(x == ("__debug__":Str))=false:=by decide)
    (hcd:(x == ("__classdict__":Str))=false:=by decide) (hs:swapsWithSole [.Subscript (.Name x p) k pos'] value pos.line X.env=pure false:=by rfl) (hw:swappedStores [.Subscript (.Name x p) k pos'] value X.env=pure none:=by rfl)
    (h1:(assignEach [.Subscript (.Name x p) k pos'] X.env).map (·.2)=[assign (.Subscript (.Name x p) k pos') X.env]:=by rfl)
    (ha:∀ v,assign (.Subscript (.Name x p) k pos') X.env v=(do
      let ov ← holding [v] (eval (.Name x p) X.env)
      let iv ← holding [v,ov] (eval k X.env)
      standAt pos'
      holding [v,ov,iv] (setItem ov iv v)
      release [v,ov,iv] []):=by intro _; rfl) :
    PS' X (.Assign [.Subscript (.Name x p) k pos'] value pos) (zaj i tk tv):=by
  refine ⟨PS.weak (zoq hv.h (zrP (pos:=pos') (zcS (i:=i) (pos:=p) hN hvi hd hcd) hk.h zmS ha) hs hw h1) ?_⟩
  rintro N2 σ H ⟨W,Hi,Γ,N,g,q,l⟩
  have hi:i<X.N.length:=(List.getElem?_eq_some_iff.mp hN).1
  refine ⟨W,Hi,Γ,_,g,q,?_⟩
  rintro v H1 ⟨Hi1,d,Γ1,s1,g1,den,⟨ds0,e0⟩,q1⟩
  obtain ⟨a,b1,b2,b3,vs0,b4,b5⟩:=g1.own i _ e0; refine ⟨.ref a,zeT hi b1,W,Hi1,Γ1,_,g1,q1,?_⟩
  rintro y H2 ⟨Hi2,dk,Γ2,s2,g2,den2,ds,j,m,e2,rfl,hm,q2⟩
  obtain ⟨a',k1,k2,k3,vs,k4,k5⟩:=g2.own i _ e2; rw [b1] at k1; cases k1
  cases den2.intI
  refine ⟨a,vs,j,m,rfl,rfl,k4,by rw [zi k5]; exact hm,?_⟩
  exact l.nx σ _ Hi2 _ (s1.trans s2) (g2.put (o:=.lst (ds.set m d)) e2 b1 ⟨vs.set m v,zP,zgj m k5 (den.mono s2)⟩) q2
instance {i:Nat} {tk tv:TE'} [ME tk] [ME tv]:MS (zaj i tk tv):=⟨fun N N' Γ h q=>ME.mono (t:=tv) _ _ _ (fun _ _ ⟨a,z⟩=>⟨a,ME.mono (t:=tk) _ _ _ (fun _ _ ⟨ds,j,m,e1,e2,e3,w⟩=>⟨ds,j,m,e1,e2,e3,h.nx _ w⟩) z⟩) q⟩
end
end PL
namespace L2
open PySem PySem.Spec PyProof.Rows
section
variable {X:Cx}
def rNT (K:PySem.W.Frag) (b:Bool):R2:=fun x y H Q=>((x=.non∧∃ a vs,y=.ref a∧SqT K H a vs)∨((∃ a vs,x=.ref a∧SqT K H a vs)∧y=.non))∧Q (.bl b) H
theorem zpV (hu:X.A.units<cLine):OpR X (compareOp .Eq) (rNT X.K false):=by
  intro pins s σ H x y v u Q I rx ry h; obtain ⟨h,q⟩:=h
  rcases h with ⟨rfl,a,vs,rfl,hq⟩ | ⟨⟨a,vs,rfl,hq⟩,rfl⟩
  · cases rx
    cases ry; obtain ⟨its,r,pl,hz⟩:=I.tuple hq; exact SeqAt.RcAt.none_tuple pl hu X.prog X.w X.xe _ ⟨.bl false,H,I,rfl,q⟩
  · cases rx
    cases ry; obtain ⟨its,r,pl,hz⟩:=I.tuple hq; exact SeqAt.RcAt.tuple_none pl hu X.prog X.w X.xe _ ⟨.bl false,H,I,rfl,q⟩
theorem zpT (hu:X.A.units<cLine):OpR X (compareOp .NotEq) (rNT X.K true):=by
  intro pins s σ H x y v u Q I rx ry h; obtain ⟨h,q⟩:=h
  rcases h with ⟨rfl,a,vs,rfl,hq⟩ | ⟨⟨a,vs,rfl,hq⟩,rfl⟩
  · cases rx
    cases ry; obtain ⟨its,r,pl,hz⟩:=I.tuple hq; exact SeqAt.RcNeAt.none_tuple pl hu X.prog X.w X.xe _ ⟨.bl true,H,I,rfl,q⟩
  · cases rx
    cases ry; obtain ⟨its,r,pl,hz⟩:=I.tuple hq; exact SeqAt.RcNeAt.tuple_none pl hu X.prog X.w X.xe _ ⟨.bl true,H,I,rfl,q⟩
def zug:V→Bool
  | .non=>true
  | _=>false
def zsa:Value→Bool
  | .none=>true
  | _=>false
def zvB (K:PySem.W.Frag):R2:=fun x y H Q=>x=.non∧∃ p vs,y=.ref p∧SqL K H p vs∧(∀ v ∈ vs,v=.non∨∃ a ws,v=.ref a∧SqT K H a ws)∧Q (.bl (vs.any zug)) H
theorem zmv:∀ {vs:List V} {us:List Value},za5 vs us→(∀ v ∈ vs,v=.non∨∃ a,v=.ref a)→us.any zsa=vs.any zug
  | _,_,.nil,_=>rfl
  | v :: vs,u :: us,.cons r t,h=>by
    rw [List.any_cons,List.any_cons,zmv t fun x hx=>h x (List.mem_cons_of_mem _ hx)]
    rcases h v List.mem_cons_self with rfl | ⟨a,rfl⟩
    · cases r; rfl
    · cases r; rfl
theorem zr3 (hu:X.A.units+1<cLine):OpR X (compareOp .In) (zvB X.K):=by
  intro pins s σ H x y v u Q I rx ry h; obtain ⟨rfl,p,vs,rfl,hq,hv,q⟩:=h; cases rx; cases ry; obtain ⟨its,r,pl,hz⟩:=I.list hq
  have hm:∀ w ∈ its,SeqAt.EqAt X.A.in1 s w .none (zsa w):=fun w hw=>by
    obtain ⟨i,hi,e⟩:=List.getElem_of_mem hw
    have hi':i<vs.length:=by rw [r.length]; exact hi
    have rr:=PL.paired_get i r (List.getElem?_eq_getElem hi') (List.getElem?_eq_getElem hi); rw [e] at rr
    rcases hv _ (List.getElem_mem hi') with z | ⟨a,ws,z,ht⟩
    · rw [z] at rr
      cases rr; exact SeqAt.EqAt.same _
    · rw [z] at rr
      cases rr; obtain ⟨jts,r2,pl2,_⟩:=I.tuple ht; exact SeqAt.EqAt.tuple_none pl2 hu
  refine SeqAt.in_listAt zsa pl.isList (fun w hw=>hm w (by simpa using hw)) ⟨.bl _,H,I,rfl,?_⟩
  rw [show its.toArray.any zsa=its.any zsa by simp,zmv r fun v hv'=>(hv v hv').imp id fun ⟨a,ws,e,_⟩=>⟨a,e⟩]
  exact q
end
end L2
namespace PL
open PySem L2
section
variable {X:Cx}
def ztP (b:Bool):R2':=fun x y Q=>((x=.non∧∃ ds,y=.tup ds)∨((∃ ds,x=.tup ds)∧y=.non))∧Q (.bl b)
theorem zlP {K:PySem.W.Frag} (b:Bool):zkU K (rNT K b) (ztP b):=by
  rintro Hi H x y dx dy Q Q2 s d1 d2 ⟨h,q⟩ fin
  rcases h with ⟨rfl,ds,rfl⟩ | ⟨⟨ds,rfl⟩,rfl⟩
  · obtain ⟨a,vs,rfl,h1,_⟩:=d2.tupI
    exact ⟨.inl ⟨d1.nonI,a,vs,rfl,zaO s.sub h1⟩,fin Hi H _ _ (Ext.refl s) (.bl b) q⟩
  · obtain ⟨a,vs,rfl,h1,_⟩:=d1.tupI
    exact ⟨.inr ⟨⟨a,vs,rfl,zaO s.sub h1⟩,d2.nonI⟩,fin Hi H _ _ (Ext.refl s) (.bl b) q⟩
def ztb:R2':=fun x y Q=>ziy x y Q∨ztP false x y Q
def zuY:R2':=fun x y Q=>zlk x y Q∨ztP true x y Q
theorem zud (hu:X.A.units+100<cLine):Op2 X (compareOp .Eq) ztb:=(zdw hu).or ⟨_,zpV (by omega),zlP false⟩
theorem zp0 (hu:X.A.units+100<cLine):Op2 X (compareOp .NotEq) zuY:=(zfF hu).or ⟨_,zpT (by omega),zlP true⟩
def zuh:D→Bool
  | .non=>true
  | _=>false
def ztU:R2':=fun x y Q=>∃ ds:List D,x=.non∧y=.lst ds∧(∀ d ∈ ds,d=.non∨∃ es,d=.tup es)∧Q (.bl (ds.any zuh))
theorem zj4 {K:PySem.W.Frag} {Hi H:Hp} (s:zaX Hi H):∀ {vs:List V} {ds:List D},zbU K Hi vs ds→(∀ d ∈ ds,d=.non∨∃ es,d=.tup es)→(∀ v ∈ vs,v=.non∨∃ a ws,v=.ref a∧SqT K H a ws)∧vs.any zug=ds.any zuh
  | _,_,.nil,_=>⟨fun v hv=>(nomatch hv),rfl⟩
  | v :: vs,d :: ds,.cons r t,h=>by
    obtain ⟨a,b⟩:=zj4 s t fun x hx=>h x (List.mem_cons_of_mem _ hx)
    rw [List.any_cons,List.any_cons,b]
    rcases h d List.mem_cons_self with rfl | ⟨es,rfl⟩
    · have e:=r.nonI
      subst e
      exact ⟨fun w hw=>(List.mem_cons.mp hw).elim .inl fun z=>a w z,rfl⟩
    · obtain ⟨c,ws,rfl,h1,_⟩:=r.tupI
      exact ⟨fun w hw=>(List.mem_cons.mp hw).elim (fun z=>.inr ⟨c,ws,z,zaO s h1⟩) fun z=>a w z,rfl⟩
theorem zuc (hu:X.A.units+1<cLine):Op2 X (compareOp .In) ztU:=⟨_,zr3 hu,by
  rintro Hi H x y dx dy Q Q2 s d1 d2 ⟨ds,rfl,rfl,hd,q⟩ fin
  obtain ⟨a,vs,rfl,h1,h2⟩:=d2.lstI; obtain ⟨k1,k2⟩:=zj4 s.sub h2 hd; refine ⟨d1.nonI,a,vs,rfl,zaK s.sub h1,k1,?_⟩; rw [k2]; exact fin Hi H _ _ (Ext.refl s) (.bl _) q⟩
end
end PL
namespace M71
open PySem L2 Lb PL MT MS M04 M70
theorem zoT {f:D→D→Option Bool}:∀ {ks js:List Tr},(∀ k ∈ ks,∀ j ∈ js,∃ b,f (trD k) (trD j)=some b∧(b=true↔k=j))→∃ b,eqL f (ks.map trD) (js.map trD)=some b∧(b=true↔ks=js)
  | [],[],_=>⟨true,rfl,by simp⟩
  | [],_ :: _,_=>⟨false,rfl,by simp⟩
  | _ :: _,[],_=>⟨false,rfl,by simp⟩
  | k :: ks,j :: js,h=>by
    obtain ⟨a,e1,i1⟩:=h k List.mem_cons_self j List.mem_cons_self
    obtain ⟨b,e2,i2⟩:=zoT (f:=f) (ks:=ks) (js:=js) fun x hx y hy=>h x (List.mem_cons_of_mem _ hx) y (List.mem_cons_of_mem _ hy)
    refine ⟨a && b,?_,?_⟩
    · show (match f (trD k) (trD j),eqL f (ks.map trD) (js.map trD) with
        | some a,some b=>some (a && b)
        | _,_=>none)=_
      rw [e1,e2]
    · rw [Bool.and_eq_true,i1,i2]
      simp
theorem zh1 {c d:Nat}:∀ {n:Nat} {t u:Tr},Wf c n t→Wf d n u→∀ m,2 * n+1≤m→∃ b,eqD m (trD t) (trD u)=some b∧(b=true↔t=u)
  | 0,t,u,h,_,_,_=>by cases h
  | n+1,.node l ws ks,.node l' ws' ks',h1,h2,m,hm=>by
    obtain ⟨m,rfl⟩:∃ k,m=k+1+1:=⟨m-2,by omega⟩
    obtain ⟨b,e,i⟩:=zoT (f:=eqD m) (ks:=ks) (js:=ks') fun k hk j hj=>zh1 (h1.kid k hk) (h2.kid j hj) m (by omega)
    refine ⟨decide (l=l') && (decide (ws=ws') && (b && true)),?_,?_⟩
    · rw [zbi,zbi]
      show eqL (eqD (m+1)) [.str l,plc ws,.tup (ks.map trD)] [.str l',plc ws',.tup (ks'.map trD)]=_
      simp only [eqL,zfS,zdA]
      rw [show eqD (m+1) (.tup (ks.map trD)) (.tup (ks'.map trD))=eqL (eqD m) (ks.map trD) (ks'.map trD) from rfl,e]
    · simp only [Bool.and_eq_true,decide_eq_true_eq,i,and_true]
      constructor
      · rintro ⟨rfl,rfl,rfl⟩; rfl
      · intro z; injection z with z1 z2 z3; exact ⟨z1,z2,z3⟩
end M71
namespace PL
open PySem L2
theorem znz {K:PySem.W.Frag} {n:Nat} {t:TO'} {σ:St} {H:Hp} {Q:VK} (h:oOf K n (zu n t) σ H Q):oOf K n t σ H Q:=by
  obtain ⟨W,Hi,Γ,Q',g,q,fin⟩:=h; obtain ⟨s1,g1⟩:=g.look; refine ⟨_,_,_,_,g1,q,?_⟩
  rintro a H' Hb Γ' o sb g' nw ⟨im,q'⟩
  obtain ⟨s2,g2,hd⟩:=g.unlook sb g'
  have ha:H a=none:=nw.h0
  refine fin a H' _ Γ o s2.hi g2 ⟨?_,?_,⟨fun j o' e z=>?_,fun j d xs e=>?_⟩,?_⟩ q'
  · unfold zcU
    split
    · rfl
    · exact nw.hi
  · cases hq:W.H₀ a with
    | none=>rfl
    | some w =>
      obtain ⟨w',hw⟩:=g.there a w hq
      rw [ha] at hw; cases hw
  · obtain ⟨b,h1,_,_,h4⟩:=g.own j o' e
    rw [z] at h1; cases h1; obtain ⟨w,hw⟩:=h4.there
    rw [ha] at hw; cases hw
  · obtain ⟨w,hw⟩:=(g.bk j d a xs e).at_.there
    rw [ha] at hw; cases hw
  · cases o with
    | lst ds =>
      obtain ⟨vs,e,dl⟩:=nw.own
      exact ⟨vs,e,paired_of (zi dl) fun i v d h1 h2=>hd v d (im d (List.mem_of_getElem? h2)) (paired_get i dl h1 h2)⟩
    | dic ds=>exact im.elim
    | dit ds=>exact im.elim
    | obj C ds=>exact im.elim
theorem zps {X:Cx} {e:Expr} {t:TO'} (h:PU' X e t):PU' X e (zu X.N.length t):=⟨fun pins s σ H Q i x pos pos' N2 I q=>h.h pins s σ H Q i x pos pos' N2 I (znz q)⟩
end PL
namespace PL
open PySem L2
section
variable {K:PySem.W.Frag} {n:Nat} {W:Wd} {Hi H:Hp} {Γ:Sts} {σ:St} {i:Nat} {o:OD} {b:Addr}
theorem zoQ:Hol K fun z=>z:=fun b Hi v o h dv=>by
  cases dv.adrI
  exact h
theorem Good.ownBk (g:Good K n W Hi Γ σ H) (hi:i<n) (e:Γ[i]?=some (.own o)):∃ a,σ[i]?=some (some (.ref a))∧W.H₀ a=none∧Good K n W Hi (Γ.set i (.bk (fun z=>z) a o)) σ H:=by
  obtain ⟨a,h1,h2,h3,h4⟩:=g.own i _ e
  have h1':σ[i]?=some (some (.ref a)):=by
    unfold adr at h1; rw [if_pos hi] at h1; exact zdH h1
  refine ⟨a,h1',h3 hi,g.len,g.fz,g.keep,g.there,g.fro,fun j d' q=>?_,fun j o2 q=>?_,fun j k o o' c q1 q2 p1 p2=>?_,fun j d' c xs q=>?_⟩
  · rcases zaQ q with ⟨_,z⟩ | ⟨_,z⟩
    · cases z
    · exact g.val j d' z
  · rcases zaQ q with ⟨_,z⟩ | ⟨_,z⟩
    · cases z
    · exact g.own j o2 z
  · rcases zaQ q1 with ⟨_,z⟩ | ⟨_,z⟩
    · cases z
    · rcases zaQ q2 with ⟨_,y⟩ | ⟨_,y⟩
      · cases y
      · exact g.apart j k o o' c z y p1 p2
  · rcases zaQ q with ⟨ej,z⟩ | ⟨hj,z⟩
    · cases z
      subst ej
      refine ⟨⟨_,h1',.adr a⟩,zoQ,h2,fun _=>h3 hi,h4,fun k d2 ys q=>?_,fun k o' q w=>?_⟩
      · rcases zaQ q with ⟨z,_⟩ | ⟨_,y⟩
        · exact z
        · exact absurd h1 ((g.bk k _ _ _ y).ne _ _ e)
      · rcases zaQ q with ⟨_,y⟩ | ⟨hk,y⟩
        · cases y
        · exact hk (g.apart k _ _ _ _ y e w h1)
    · obtain ⟨p0,p1,p2,p3,p4,p5,p6⟩:=g.bk j d' c _ z
      refine ⟨p0,p1,p2,p3,p4,fun k d2 ys q=>?_,fun k o' q=>?_⟩
      · rcases zaQ q with ⟨_,y⟩ | ⟨_,y⟩
        · cases y
          exact absurd h1 (p6 _ _ e)
        · exact p5 k _ _ y
      · rcases zaQ q with ⟨_,y⟩ | ⟨_,y⟩
        · cases y
        · exact p6 k o' y
theorem Good.bkOwn (g:Good K n W Hi Γ σ H) (hi:i<n) (e:Γ[i]?=some (.bk (fun z=>z) b o)) (h0:W.H₀ b=none):Good K n W Hi (Γ.set i (.own o)) σ H:=by
  have B:=g.bk i _ _ _ e
  have ai:adr n W σ i=some b:=by
    obtain ⟨v,v1,v2⟩:=B.val
    cases v2.adrI
    unfold adr; rw [if_pos hi,v1]; rfl
  refine ⟨g.len,g.fz,g.keep,g.there,g.fro,fun j d' q=>?_,fun j o2 q=>?_,fun j k o o' c q1 q2 p1 p2=>?_,fun j d' c xs q=>?_⟩
  · rcases zaQ q with ⟨_,z⟩ | ⟨_,z⟩
    · cases z
    · exact g.val j d' z
  · rcases zaQ q with ⟨ej,z⟩ | ⟨_,z⟩
    · cases z
      subst ej
      exact ⟨b,ai,B.hi,fun _=>h0,B.at_⟩
    · exact g.own j o2 z
  · rcases zaQ q1 with ⟨e1,z⟩ | ⟨h1,z⟩
    · rcases zaQ q2 with ⟨e2,y⟩ | ⟨_,y⟩
      · rw [e1,e2]
      · rw [e1,ai] at p1
        cases p1; exact absurd p2 (B.ne k o' y)
    · rcases zaQ q2 with ⟨e2,y⟩ | ⟨_,y⟩
      · rw [e2,ai] at p2
        cases p2; exact absurd p1 (B.ne j o z)
      · exact g.apart j k o o' c z y p1 p2
  · rcases zaQ q with ⟨_,z⟩ | ⟨hj,z⟩
    · cases z
    · obtain ⟨p0,p1,p2,p3,p4,p5,p6⟩:=g.bk j d' c _ z
      refine ⟨p0,p1,p2,p3,p4,fun k d2 ys q=>?_,fun k o' q w=>?_⟩
      · rcases zaQ q with ⟨_,y⟩ | ⟨_,y⟩
        · cases y
        · exact p5 k _ _ y
      · rcases zaQ q with ⟨ek,y⟩ | ⟨_,y⟩
        · rw [ek,ai] at w
          cases w; exact hj (B.one j _ _ z)
        · exact p6 k o' y w
end
def zuO (i:Nat) (b:Addr) (ds:List D) (g:TG') (tb:TS') (N:Ends'):List D→Sts→Prop
  | [],Γ=>Γ[i]?=some (.bk (fun z=>z) b (.lst ds))∧N.nx (Γ.set i (.own (.lst ds)))
  | d :: r,Γ=>Γ[i]?=some (.bk (fun z=>z) b (.lst ds))∧g d Γ fun Γ2=>tb { N with nx:=zuO i b ds g tb N r,ct:=zuO i b ds g tb N r,bk:=fun Γ3=>Γ3[i]?=some (.bk (fun z=>z) b (.lst ds))∧N.nx (Γ3.set i (.own (.lst ds))) } Γ2
def zaz (n i:Nat) (g:TG') (tb:TS'):TS':=fun N Γ=>i<n∧∃ ds,Γ[i]?=some (.own (.lst ds))∧∀ b,zuO i b ds g tb N ds (Γ.set i (.bk (fun z=>z) b (.lst ds)))
section
variable {X:Cx}
end
end PL
namespace PL
open PySem L2
theorem zkd:bootBuiltins "abs"=some (.builtin "abs"):=by decide +kernel
section
variable {X:Cx}
def zu3:RC':=fun ds Q=>∃ i,ds=[.int i]∧Q (.int (if i<0 then -i else i))
theorem zsN:Cal X (.builtin "abs") zu3:=⟨_,zoj,by
  rintro Hi H vs ds Q Q2 s dl ⟨i,rfl,q⟩ fin
  obtain ⟨v,rfl,den⟩:=zd6 dl
  exact ⟨i,by rw [den.intI],fin Hi H _ _ (Ext.refl s) (.int _) q⟩⟩
@[simp] theorem zm1 {i:Int} {Q:D→Prop}:zu3 [.int i] Q↔Q (.int (if i<0 then -i else i)):=by
  constructor
  · rintro ⟨j,e,q⟩
    cases e; exact q
  · exact fun q=>⟨i,rfl,q⟩
end
end PL
namespace PL
open PySem L2
def zbm (t u:TE'):TE':=fun Γ Q=>t Γ Q∨u Γ Q
section
variable {X:Cx}
end
end PL
namespace PL
open PySem L2
section
variable {X:Cx}
def brN (i:Nat) (b:Addr) (N:Ends'):Ends':={ nx:=fun Γ1=>∃ o',Γ1[i]?=some (.bk (fun z=>z) b o')∧N.nx (Γ1.set i (.own o')),rt:=N.rt,bk:=fun Γ1=>∃ o',Γ1[i]?=some (.bk (fun z=>z) b o')∧N.bk (Γ1.set i (.own o')),ct:=fun Γ1=>∃ o',Γ1[i]?=some (.bk (fun z=>z) b o')∧N.ct (Γ1.set i (.own o')) }
def tBr (n i:Nat) (t:TS'):TS':=fun N Γ=>i<n∧∃ o,Γ[i]?=some (.own o)∧∀ b,t (brN i b N) (Γ.set i (.bk (fun z=>z) b o))
theorem ztY (i:Nat) {s:Stmt} {t:TS'} (h:PS' X s t):PS' X s (tBr X.N.length i t):=by
  refine ⟨PS.weak h.h ?_⟩
  rintro N2 σ H ⟨W,Hi,Γ,N,g,⟨hi,o,e,q⟩,l⟩
  obtain ⟨b,hσ,h0,g1⟩:=g.ownBk hi e; refine ⟨W,Hi,_,_,g1,q b,?_⟩
  exact ⟨fun σ' H' Hi' Γ' s1 g' ⟨o',e',q'⟩=>l.nx σ' H' Hi' _ s1 (g'.bkOwn hi e' h0) q',fun σ' H' Hi' Γ' s1 g' ⟨o',e',q'⟩=>l.bk σ' H' Hi' _ s1 (g'.bkOwn hi e' h0) q',fun σ' H' Hi' Γ' s1 g' ⟨o',e',q'⟩=>l.ct σ' H' Hi' _ s1 (g'.bkOwn hi e' h0) q',fun v σ' H' Hi' Γ' r s1 g' ro q'=>l.rt v σ' H' Hi' Γ' r s1 g' ro q'⟩
end
abbrev SpM:=OD→List D→(D→OD→Prop)→Prop
def zri (K:PySem.W.Frag) (j:Nat) (sp:SpM):Sp:=fun vs H Q2 _=>∃ Hi b o v1 v2 ds Q,vs=v1 ++ .ref b :: v2∧v1.length=j∧zbU K Hi (v1 ++ v2) ds∧Fz Hi H∧Hi b=none∧zbY K Hi H b o∧sp o ds Q ∧
  ∀ Hi' H' v' r o',ExtB b Hi H Hi' H'→Den K Hi' v' r→zbY K Hi' H' b o'→Q r o'→Q2 v' H'
structure FnM (P:Program) (w:World) (K:PySem.W.Frag) (mg:Str→Option Value) (base:Heap) (k:Nat) (x:Str) (ps:List Str) (j:Nat) (sp:SpM):Prop where
  ex:∃ f fd,FnOk P w K mg base CX0 k f fd ps (zri K j sp)∧zdi K fd ps []∧PySem.W.keepIn K (.ref f)=true∧mg x=some (.ref f)
class MSpM (sp:SpM):Prop where
  mono:∀ o ds Q Q',(∀ r o',Q r o'→Q' r o')→sp o ds Q→sp o ds Q'
abbrev TM':=Sts→(List D→List D→Sts→Prop)→Prop
def zvn (K:PySem.W.Frag) (n i j:Nat) (t:TM'):TA:=fun σ H Q2=>∃ W Hi Γ Q,Good K n W Hi Γ σ H∧t Γ Q∧∀ vs H' Hi' Γ' d1 d2 b v1 v2,zaX Hi Hi'→Good K n W Hi' Γ' σ H'→vs=v1 ++ .ref b :: v2→v1.length=j→σ[i]?=some (some (.ref b))→zbU K Hi' v1 d1→zbU K Hi' v2 d2→Q d1 d2 Γ'→Q2 vs H'
structure PM' (X:Cx) (i j:Nat) (es:List Expr) (t:TM'):Prop where
  pa:PA X es (zvn X.K X.N.length i j t)
  pl:zcG es=true
class MM (t:TM'):Prop where
  mono:∀ Γ Q Q',(∀ d1 d2 Γ',Q d1 d2 Γ'→Q' d1 d2 Γ')→t Γ Q→t Γ Q'
section
variable {X:Cx}
def zz (i:Nat) (t:TA'):TM':=fun Γ Q=>(∃ b o,Γ[i]?=some (.bk (fun z=>z) b o))∧t Γ fun ds Γ1=>Q [] ds Γ1
theorem zft (i:Nat) {y:Str} {q:Pos} {es:List Expr} {t:TA'} (ha:PA' X es t) (hN:X.N[i]?=some y:=by rfl) (hv:Vis X.env.scope y:=by first | exact Or.inl rfl | exact Or.inr (Or.inl rfl) | exact Or.inr (Or.inr rfl)) (hd:(y == ("__debug__":Str))=false:=by decide)
    (hcd:(y == ("__classdict__":Str))=false:=by decide):PM' X i 0 (.Name y q :: es) (zz i t):=by
  refine ⟨PA.weak (zdv (zcS (i:=i) (pos:=q) hN hv hd hcd) ha.pa (zaU rfl)) ?_,by unfold zcG; rw [ha.pl]; rfl⟩
  rintro σ H Q ⟨W,Hi,Γ,Q',g,⟨⟨b,o,e⟩,h⟩,fin⟩
  obtain ⟨v,hv',dv⟩:=(g.bk i _ _ _ e).val
  cases dv.adrI
  refine ⟨.ref b,hv',W,Hi,Γ,_,g,h,?_⟩; intro vs H1 Hi1 Γ1 ds s1 g1 dl q1; exact fin _ H1 Hi1 Γ1 [] ds b [] vs s1 g1 rfl rfl hv' .nil dl q1
def zA (te:TE') (t:TM'):TM':=fun Γ Q=>te Γ fun d Γ1=>t Γ1 fun d1 d2 Γ2=>Q (d :: d1) d2 Γ2
theorem zbx {i j:Nat} {e:Expr} {es:List Expr} {te:TE'} {t:TM'} (he:PE' X e te) (hr:PM' X i j es t) (hs:zdS e=false:=by rfl):PM' X i (j+1) (e :: es) (zA te t):=by
  refine ⟨PA.weak (zdv he.h hr.pa (zaU hs)) ?_,by unfold zcG; rw [hs,hr.pl]; rfl⟩
  rintro σ H Q ⟨W,Hi,Γ,Q',g,h,fin⟩
  refine ⟨W,Hi,Γ,_,g,h,?_⟩
  rintro x H1 ⟨Hi1,dx,Γ1,s1,g1,den1,h1⟩
  refine ⟨W,Hi1,Γ1,_,g1,h1,?_⟩; intro vs H2 Hi2 Γ2 d1 d2 b v1 v2 s2 g2 ev hj hb dl1 dl2 q
  exact fin (x :: vs) H2 Hi2 Γ2 (dx :: d1) d2 b (x :: v1) v2 (s1.trans s2) g2 (by rw [ev]; rfl) (by rw [List.length_cons,hj]) hb (.cons (den1.mono s2) dl1) dl2 q
instance {i:Nat} {t:TA'} [MA t]:MM (zz i t):=⟨fun Γ _ _ h ⟨a,q⟩=>⟨a,MA.mono (t:=t) Γ _ _ (fun _ _ z=>h _ _ _ z) q⟩⟩
instance {te:TE'} {t:TM'} [ME te] [MM t]:MM (zA te t):=⟨fun Γ _ _ h q=>ME.mono (t:=te) Γ _ _ (fun _ _ z=>MM.mono (t:=t) _ _ _ (fun _ _ _ z=>h _ _ _ z) z) q⟩
def zD (i:Nat) (sp:SpM) (t:TM'):TE':=fun Γ Q=>t Γ fun d1 d2 Γ1=>∃ b o,Γ1[i]?=some (.bk (fun z=>z) b o)∧sp o (d1 ++ d2) fun r o'=>Q r (Γ1.set i (.bk (fun z=>z) b o'))
theorem zeh {i j k:Nat} {x:Str} {ps:List Str} {sp:SpM} {es:List Expr} {t:TM'} {p pos:Pos} {e:Expr} (h:FnM X.prog X.w X.K X.mg X.base k x ps j sp) (hr:Room k X.A) (ha:PM' X i j (e :: es) t) (hg:Gl X x:=by rfl) (hdb:(x == ("__debug__":Str))=false:=by decide) :
    PE' X (.Call (.Name x p) (e :: es) [] pos) (zD i sp t):=by
  obtain ⟨f,fd,F,bd,hk,hm⟩:=h.ex; obtain ⟨p1,p2⟩:=za1 ha.pl; refine ⟨PE.weak (ziE (E:=E0) (dvs:=[]) F hr hg hm hk bd .nil zni ha.pa hdb (zaU p1) (zbG p2)) ?_⟩
  rintro σ H Q ⟨W,Hi,Γ,Q',g,h,fin⟩
  refine ⟨W,Hi,Γ,_,g,h,?_⟩
  rintro vs H1 Hi1 Γ1 d1 d2 b' v1 v2 s1 g1 ev hj hb dl1 dl2 ⟨b,o,e1,q1⟩
  have B:=g1.bk i _ b o e1; obtain ⟨v,hv1,dv⟩:=B.val
  cases dv.adrI
  rw [hb] at hv1; cases hv1; rw [List.append_nil]; refine ⟨Hi1,b',o,v1,v2,d1 ++ d2,_,ev,hj,zaY dl1 dl2,g1.fz,B.hi,B.at_,q1,?_⟩; intro Hi2 H2 v' r o' ex den at_ q2; exact fin v' H2 ⟨Hi2,r,_,s1.trans ex.hi,g1.extB e1 ex at_,den,q2⟩
instance {i:Nat} {sp:SpM} {t:TM'} [MSpM sp] [MM t]:ME (zD i sp t):=⟨fun Γ _ _ h q=>MM.mono (t:=t) Γ _ _ (fun _ _ _ ⟨b,o,e,z⟩=>⟨b,o,e,MSpM.mono (sp:=sp) _ _ _ _ (fun _ _ w=>h _ _ w) z⟩) q⟩
end
def zt (N:List Str) (j:Nat) (b:Addr) (o:OD) (ds:List D):Sts:=(ds.take j).map .val ++ .bk (fun z=>z) b o :: ((ds.drop j).map .val ++ List.replicate (N.length-(ds.length+1)) .emp)
theorem zch {N:List Str} {j:Nat} {b:Addr} {o:OD} {ds:List D} (hj:j≤ds.length) {k:Nat} {s:Slot} (e:(zt N j b o ds)[k]?=some s):(k=j∧s=.bk (fun z=>z) b o)∨s=.emp∨∃ d,s=.val d∧((k<j∧ds[k]?=some d)∨(j<k∧ds[k-1]?=some d)):=by
  unfold zt at e
  have hl:((ds.take j).map Slot.val).length=j:=by rw [List.length_map,List.length_take]; omega
  rcases Nat.lt_trichotomy k j with h | h | h
  · rw [List.getElem?_append_left (by rw [hl]; exact h),List.getElem?_map,List.getElem?_take,if_pos h] at e
    obtain ⟨d,hd,rfl⟩:=Option.map_eq_some_iff.mp e; exact .inr (.inr ⟨d,rfl,.inl ⟨h,hd⟩⟩)
  · rw [List.getElem?_append_right (by rw [hl]; omega),hl,h,Nat.sub_self] at e
    exact .inl ⟨h,(Option.some.inj e).symm⟩
  · rw [List.getElem?_append_right (by rw [hl]; omega),hl] at e
    obtain ⟨m,hm⟩:∃ m,k-j=m+1:=⟨k-j-1,by omega⟩
    rw [hm,List.getElem?_cons_succ] at e
    by_cases hlt:m<(ds.drop j).length
    · rw [List.getElem?_append_left (by rw [List.length_map]; exact hlt),List.getElem?_map] at e
      obtain ⟨d,hd,rfl⟩:=Option.map_eq_some_iff.mp e
      rw [List.getElem?_drop,show j+m=k-1 by omega] at hd
      exact .inr (.inr ⟨d,rfl,.inr ⟨h,hd⟩⟩)
    · rw [List.getElem?_append_right (by rw [List.length_map]; omega),List.getElem?_replicate] at e
      split at e
      · exact .inr (.inl (Option.some.inj e).symm)
      · cases e
theorem zja {K:PySem.W.Frag} {N ps:List Str} {v1 v2:List V} {j:Nat} {b:Addr} {o:OD} {ds:List D} {Hi H:Hp} (hlen:ds.length+1=ps.length) (hpl:ps.length≤N.length) (hj:v1.length=j) (sb:Fz Hi H) (hb:Hi b=none) (at_:zbY K Hi H b o) (dl:zbU K Hi (v1 ++ v2) ds) :
    Good K N.length ⟨H,Hi,[b]⟩ Hi (zt N j b o ds) (L2.start N (v1 ++ .ref b :: v2)) H:=by
  have hvl:=zi dl; rw [List.length_append] at hvl
  have hjd:j≤ds.length:=by omega
  have st:∀ k:Nat,k<ds.length+1→(L2.start N (v1 ++ .ref b :: v2))[k]?=((v1 ++ .ref b :: v2)[k]?).map some:=fun k hk=>by
    unfold L2.start
    rw [List.getElem?_append_left (by rw [List.length_map,List.length_append,List.length_cons]; omega),List.getElem?_map]
  refine ⟨?_,sb,fun a o e _=>e,fun a o e=>⟨o,e⟩,fun a o e=>rfl,fun k d' e=>?_,fun k o' e=>?_,fun k l o1 o2 a e=>?_,fun k d' b' o' e=>?_⟩
  · unfold L2.start
    rw [List.length_append,List.length_map,List.length_replicate,List.length_append,List.length_cons]; omega
  · rcases zch hjd e with ⟨_,z⟩ | z | ⟨d2,z,h⟩
    · cases z
    · cases z
    · cases z
      rcases h with ⟨hk,hd⟩ | ⟨hk,hd⟩
      · obtain ⟨w,e1,dw⟩:=zbN dl hd
        rw [List.getElem?_append_left (by omega)] at e1
        refine ⟨w,?_,dw⟩
        rw [st k (by omega),List.getElem?_append_left (by omega),e1]
        rfl
      · obtain ⟨w,e1,dw⟩:=zbN dl hd
        have hk1:=(List.getElem?_eq_some_iff.mp hd).1
        rw [List.getElem?_append_right (by omega)] at e1
        refine ⟨w,?_,dw⟩
        obtain ⟨m,hm⟩:∃ m,k-v1.length=m+1:=⟨k-v1.length-1,by omega⟩
        rw [st k (by omega),List.getElem?_append_right (by omega),hm,List.getElem?_cons_succ,show m=k-1-v1.length by omega,e1]
        rfl
  · rcases zch hjd e with ⟨_,z⟩ | z | ⟨d2,z,_⟩ <;> cases z
  · rcases zch hjd e with ⟨_,z⟩ | z | ⟨d2,z,_⟩ <;> cases z
  · rcases zch hjd e with ⟨hk,z⟩ | z | ⟨d2,z,_⟩
    · cases z
      refine ⟨⟨.ref b,?_,.adr b⟩,zoQ,hb,fun z=>absurd (List.mem_singleton.mpr rfl) z,at_,fun l d2 o2 q=>?_,fun l o2 q=>?_⟩
      · rw [st k (by omega),List.getElem?_append_right (by omega),hk,hj,Nat.sub_self]
        rfl
      · rcases zch hjd q with ⟨hl,z⟩ | z | ⟨d2,z,_⟩
        · rw [hl,hk]
        · cases z
        · cases z
      · rcases zch hjd q with ⟨hl,z⟩ | z | ⟨d2,z,_⟩ <;> cases z
    · cases z
    · cases z
section
variable {P:Program} {w:World} {K:PySem.W.Frag} {mg:Str→Option Value} {base:Heap}
theorem Fun.okM {x qual:Str} {st:Stmt} {f:Addr} {fd:FuncData} {N ps:List Str} {k j:Nat} {sp:SpM} (F:Fun K x qual st f fd) (S:FnScope N ps (zj st)) (len:∀ o ds Q,sp o ds Q→ds.length+1=ps.length)
    (hbody:∀ (cdv:Value) (A:Around) (outer:List Env) (s:Shared) (H:Hp) (E:XK),Room k (A.deeper (PyProof.Rows.envOfC qual (zj st) s.heap.objs.size f cdv))→∀ b o ds Q,sp o ds Q →
      ∃ t,PSs' (zkX CX0 P w K mg base N qual (zj st) f cdv A outer s H E).nox (zbD st) t∧t { nx:=fun Γ=>∃ o',Γ[j]?=some (.bk (fun z=>z) b o')∧Q .non o',rt:=fun r Γ=>∃ o' d',r=.val d'∧Γ[j]?=some (.bk (fun z=>z) b o')∧Q d' o' } (zt N j b o ds)):FnOk P w K mg base CX0 (k+1) f fd ps (zri K j sp):=by
  refine F.ok S (fun vs H Q E h=>?_) (fun cdv A outer s H vs Q E hr h=>?_)
  · obtain ⟨Hi,b,o,v1,v2,ds,Q',rfl,_,dl,_,_,_,h,_⟩:=h
    have:=len o ds Q' h
    have hl:=zi dl; rw [List.length_append] at hl; rw [List.length_append,List.length_cons]; omega
  obtain ⟨Hi,b,o,v1,v2,ds,Q',rfl,hj,dl,sb,hb,at_,h,fin⟩:=h; obtain ⟨t,h1,h2⟩:=hbody cdv A outer s H E hr b o ds Q' h; have hlen:=len o ds Q' h
  have hpl:ps.length≤N.length:=by have:=congrArg List.length S.pre; rw [List.length_take] at this; omega
  refine ⟨_,h1.h,⟨H,Hi,[b]⟩,Hi,zt N j b o ds,_,zja hlen hpl hj sb hb at_ dl,h2,?_⟩
  have ex:∀ {σ':St} {H' Hi':Hp} {Γ':Sts},zaX Hi Hi'→Good K N.length ⟨H,Hi,[b]⟩ Hi' Γ' σ' H'→ExtB b Hi H Hi' H':=fun s1 g1 =>
    ⟨s1,fun a o ne e=>g1.keep a o e (by simpa using ne),g1.fz,fun a o e=>g1.fro a o e⟩
  refine ⟨fun σ' H' Hi' Γ' s1 g1 q=>?_,fun _ _ _ _ _ _ q=>q.elim,fun _ _ _ _ _ _ q=>q.elim,fun v σ' H' Hi' Γ' r s1 g1 ro q=>?_⟩
  · obtain ⟨o',e,q⟩:=q
    exact fin Hi' H' .non .non o' (ex s1 g1) .non (g1.bk j _ b o' e).at_ q
  · obtain ⟨o',d',rfl,e,q⟩:=q
    exact fin Hi' H' v d' o' (ex s1 g1) ro (g1.bk j _ b o' e).at_ q
theorem Df.okM {k j:Nat} {x:Str} {ps:List Str} {sp:SpM} {st:Stmt} {N:List Str} (d:Df K mg x st ps) (S:FnScope N ps (zj st)) (len:∀ o ds Q,sp o ds Q→ds.length+1=ps.length)
    (hbody:∀ (f:Addr) (cdv:Value) (A:Around) (outer:List Env) (s:Shared) (H:Hp) (E:XK),Room k (A.deeper (PyProof.Rows.envOfC x (zj st) s.heap.objs.size f cdv))→∀ b o ds Q,sp o ds Q →
      ∃ t,PSs' (zkX CX0 P w K mg base N x (zj st) f cdv A outer s H E).nox (zbD st) t∧t { nx:=fun Γ=>∃ o',Γ[j]?=some (.bk (fun z=>z) b o')∧Q .non o',rt:=fun r Γ=>∃ o' d',r=.val d'∧Γ[j]?=some (.bk (fun z=>z) b o')∧Q d' o' } (zt N j b o ds)):FnM P w K mg base (k+1) x ps j sp:=by
  obtain ⟨f,fd,F,b,m⟩:=d.ex; exact ⟨f,fd,PL.Fun.okM F S len (hbody f),b,F.kp,m⟩
end
section
variable {X:Cx}
def zau (i:Nat) (te:TE'):TS':=fun N Γ=>(∃ b xs,Γ[i]?=some (.bk (fun z=>z) b (.lst xs)))∧te Γ fun v Γ1=>∃ b ys,Γ1[i]?=some (.bk (fun z=>z) b (.lst ys))∧ys.length<sizeLine∧N.nx (Γ1.set i (.bk (fun z=>z) b (.lst (ys ++ [v]))))
theorem zpC (i:Nat) {x:Str} {e:Expr} {te:TE'} {pos p apos cpos:Pos} (he:PE' X e te) (hN:X.N[i]?=some x:=by rfl) (hv:Vis X.env.scope x:=by first | exact Or.inl rfl | exact Or.inr (Or.inl rfl) | exact Or.inr (Or.inr rfl)) (hd:(x == ("__debug__":Str))=false:=by decide)
    (hcd:(x == ("__classdict__":Str))=false:=by decide) (hst:zdS e=false:=by rfl)
    (hbase:attributeBase (.Name x p) "append" X.env (eval (.Name x p) X.env)=eval (.Name x p) X.env:=by rfl) (hline:(apos.endLine == cpos.line)=true:=by rfl)
    (hs:swapsWith (.Call (.Attribute (.Name x p) "append" apos) [e] [] cpos) none pos.line X.env=pure false:=by rfl) :
    PS' X (.Expr (.Call (.Attribute (.Name x p) "append" apos) [e] [] cpos) pos) (zau i te):=by
  have hfew:((backTo cpos (starEach [e] X.env)).all (fun x=>!x.1) && (backToKw cpos (keywordEach [] X.env)).all (fun x=>x.1.isSome)
      && decide ([e].length+([]:List Keyword).length+(if ([]:List Keyword).isEmpty then 0 else 1)<30))=true:=by
    rw [zaU hst]; rfl
  have base:=zgJ (znh PySem.F.plainAttrs_list PySem.F.slot_list_append PySem.F.type_list_append (zek (X:=X)) (zcS (i:=i) (pos:=p) hN hv hd hcd) (zdv he.h zhG (zaU hst)) hbase hfew hline (zaU hst) rfl) hs; refine ⟨PS.weak base ?_⟩
  rintro N2 σ H ⟨W,Hi,Γ,N,g,⟨⟨b,xs,e0⟩,q⟩,l⟩
  have B:=g.bk i _ b _ e0; obtain ⟨v0,hv0,den0⟩:=B.val
  cases den0.adrI
  obtain ⟨vs0,hb4,_⟩:=B.at_; refine ⟨.ref b,hv0,.inl ⟨rfl,vs0,SqL.of hb4⟩,W,Hi,Γ,_,g,q,?_⟩
  rintro v H1 ⟨Hi1,d1,Γ1,s1,g1,den,b1,ys,e1,hl,q1⟩
  have B1:=g1.bk i _ b1 _ e1; obtain ⟨w,hw,dw⟩:=B1.val
  cases dw.adrI
  rw [hv0] at hw; cases hw; obtain ⟨vs,k4,k5⟩:=B1.at_
  refine ⟨b,vs,v,rfl,rfl,k4,by rw [zi k5]; exact hl,?_⟩
  exact l.nx σ _ Hi1 _ s1 (g1.extB (xs':=.lst (ys ++ [d1])) e1 (ExtB.put g1.fz B1.hi k4 (fun _ z=>by cases z)) ⟨vs ++ [v],zP,zaY k5 (.cons den .nil)⟩) q1
end
end PL
namespace PL
open PySem L2
abbrev TR':=Sts→(Res→Sts→Prop)→Prop
def rOf (K:PySem.W.Frag) (n:Nat) (t:TR'):TE:=fun σ H Q2=>∃ W Hi Γ Q,Good K n W Hi Γ σ H∧t Γ Q∧∀ v H' Hi' Γ' r,zaX Hi Hi'→Good K n W Hi' Γ' σ H'→zqL K W.H₀ Hi' H' v r→Q r Γ'→Q2 v H'
structure PR' (X:Cx) (e:Expr) (t:TR'):Prop where
  h:PE X e (rOf X.K X.N.length t)
section
variable {X:Cx} {e a b c:Expr} {pos:Pos}
def zan (te:TE'):TR':=fun Γ Q=>te Γ fun d Γ1=>Q (.val d) Γ1
theorem zrK {te:TE'} (h:PE' X e te):PR' X e (zan te):=by
  refine ⟨PE.weak h.h ?_⟩
  rintro σ H Q ⟨W,Hi,Γ,Q',g,h,fin⟩
  refine ⟨W,Hi,Γ,_,g,h,?_⟩
  rintro v H1 ⟨Hi1,d,Γ1,s1,g1,den,q⟩
  exact fin v H1 Hi1 Γ1 (.val d) s1 g1 den q
def zbh (t:TT') (ta tb:TR'):TR':=fun Γ Q=>t Γ fun c Γ1=>if c=true then ta Γ1 Q else tb Γ1 Q
theorem ztZ {tc:TT'} {ta tb:TR'} (hc:PT' X c tc) (ha:PR' X a ta) (hb:PR' X b tb):PR' X (.IfExp c a b pos) (zbh tc ta tb):=by
  refine ⟨PE.weak (zgO hc.h ha.h hb.h) ?_⟩
  rintro σ H Q ⟨W,Hi,Γ,Q',g,h,fin⟩
  refine ⟨W,Hi,Γ,_,g,h,?_⟩; intro k H1 Hi1 Γ1 s1 g1 h1
  cases k with
  | true=>exact ⟨W,Hi1,Γ1,_,g1,h1,fun v H2 Hi2 Γ2 r s2 g2 ro q=>fin v H2 Hi2 Γ2 r (s1.trans s2) g2 ro q⟩
  | false=>exact ⟨W,Hi1,Γ1,_,g1,h1,fun v H2 Hi2 Γ2 r s2 g2 ro q=>fin v H2 Hi2 Γ2 r (s1.trans s2) g2 ro q⟩
theorem znZ {K:PySem.W.Frag} {t:D}:Hol K fun z=>.tup [t,z]:=by
  intro b Hi v o hb den
  cases den with
  | tup h l r =>
    rename_i a vs
    match vs,l with
    | [v0,v1],_ =>
      have r0:=r 0 v0 t rfl rfl; have r1:=r 1 v1 (.adr b) rfl rfl
      cases r1.adrI
      exact Den.mkT h (.cons r0 (.cons hb .nil))
def zao (n i:Nat) (te:TE'):TR':=fun Γ Q=>te Γ fun d Γ1=>i<n∧∃ o,Γ1[i]?=some (.own o)∧Q (.bk (fun z=>.tup [d,z]) o) Γ1
theorem zrL (i:Nat) {x:Str} {te:TE'} {p:Pos} {x1} (he:PE' X e te) (hN:X.N[i]?=some x:=by rfl) (hv:Vis X.env.scope x:=by first | exact Or.inl rfl | exact Or.inr (Or.inl rfl) | exact Or.inr (Or.inr rfl)) (hd:(x == ("__debug__":Str))=false:=by decide)
    (hcd:(x == ("__classdict__":Str))=false:=by decide) (hs:zdS e=false:=by rfl):PR' X (.Tuple [e,.Name x p] x1 pos) (zao X.N.length i te):=by
  refine ⟨PE.weak (zou (zdv he.h (zdv (zcS (i:=i) (pos:=p) hN hv hd hcd) zhG (zaU rfl)) (zaU hs))) ?_⟩
  rintro σ H Q ⟨W,Hi,Γ,Q',g,h,fin⟩
  refine ⟨W,Hi,Γ,_,g,h,?_⟩
  rintro v H1 ⟨Hi1,d,Γ1,s1,g1,den,hi,o,e1,q⟩
  obtain ⟨b,h1,h2,h3,h4⟩:=g1.own i o e1
  have hb:σ[i]?=some (some (.ref b)):=by
    unfold adr at h1; rw [if_pos hi] at h1; exact zdH h1
  refine ⟨.ref b,hb,by show 2≤sizeLine; decide,fun a ha=>?_⟩
  have ex:=Ext.new g1.fz ha (.tup [v,.ref b]); obtain ⟨u,hu⟩:=h4.there
  have hab:b≠a:=fun z=>by rw [z,ha] at hu; cases hu
  exact fin _ _ _ Γ1 (.bk (fun z=>.tup [d,z]) o) (s1.trans ex.hi) (g1.ext ex) ⟨b,Den.mkT zP (.cons (den.mono ex.hi) (.cons (.adr b) .nil)),znZ,by rw [zaE hab]; exact h2,h3 hi,h4.mono ex.hi fun u q=>ex.h b u q⟩ q
def zap (t:TR'):TS':=fun N Γ=>t Γ fun r Γ1=>N.rt r Γ1
theorem zpy {t:TR'} (h:PR' X e t):PS' X (.Return (some e) pos) (zap t):=by
  refine ⟨PS.weak (zjG h.h) ?_⟩
  rintro N2 σ H ⟨W,Hi,Γ,N,g,q,l⟩
  refine ⟨W,Hi,Γ,_,g,q,?_⟩; intro v H1 Hi1 Γ1 r s1 g1 ro q1; exact l.rt v σ H1 Hi1 Γ1 r s1 g1 ro q1
def zbl (i:Nat) (N:Ends') (Γ:Sts):Res→Prop
  | .val d=>N.nx (Γ.set i (.val d))
  | .own o=>N.nx (Γ.set i (.own o))
  | .bk d o=>∀ b,N.nx (Γ.set i (.bk d b o))
def zax (i:Nat) (sp:Sp') (t:TA'):TS':=fun N Γ=>t Γ fun ds Γ1=>sp ds fun r=>zbl i N Γ1 r
def zaC (i:Nat) (te:TE'):TS':=fun N Γ=>∃ d b xs,Γ[i]?=some (.bk (fun z=>.tup [d,z]) b (.lst xs))∧te Γ fun v Γ1=>∃ ys,Γ1[i]?=some (.bk (fun z=>.tup [d,z]) b (.lst ys))∧ys.length<sizeLine∧N.nx (Γ1.set i (.bk (fun z=>.tup [d,z]) b (.lst (ys ++ [v]))))
end
end PL
namespace L2
open PySem PySem.Spec PyProof.Rows
section
variable {X:Cx}
end
end L2
namespace PL
open PySem L2
section
variable {X:Cx}
end
end PL
namespace PL
open PySem L2 PySem.Spec PyProof.Rows
section
variable {X:Cx}
def zta (neg:Bool):R2':=fun x y Q=>∃ (p:List (List Nat)) (ps:List (List (List Nat))),x=plc p∧y=.lst (ps.map plc)∧Q (.bl (Bool.xor neg (decide (p ∈ ps))))
noncomputable def zl4 (K:PySem.W.Frag) (Hi:Hp) (p:List (List Nat)) (w:Value):Bool:=@decide (∃ b,w=.ref b∧Den K Hi (.ref b) (plc p)) (Classical.propDecidable _)
theorem zjW {K:PySem.W.Frag} {Hi:Hp} {p:List (List Nat)} {w:Value}:zl4 K Hi p w=true↔∃ b,w=.ref b∧Den K Hi (.ref b) (plc p):=by
  unfold zl4; exact @decide_eq_true_iff _ (Classical.propDecidable _)
theorem zsr {pins:List (Addr × Obj)} {s:Shared} {σ:L2.St} {H Hi:Hp} (I:L2.Inv X pins σ H s) (sub:zaX Hi H) (hu:X.A.units+100<cLine) {vs:List V} {its:List Value} {p:List (List Nat)} {ps:List (List (List Nat))} {x:V} {v:Value} (h2:zbU X.K Hi vs (ps.map plc)) (r:za5 vs its) (d1:Den X.K Hi x (plc p)) (rx:zby x v) :
    (∀ w ∈ its,SeqAt.EqAt X.A.in1 s w v (zl4 X.K Hi p w))∧its.any (zl4 X.K Hi p)=decide (p ∈ ps):=by
  have each:∀ i (hi:i<its.length),∃ b q,its[i]=.ref b∧ps[i]?=some q∧Den X.K Hi (.ref b) (plc q):=fun i hi=>by
    have hi':i<vs.length:=by rw [r.length]; exact hi
    have rr:=paired_get i r (List.getElem?_eq_getElem hi') (List.getElem?_eq_getElem hi); obtain ⟨d,e1,q1⟩:=zcx h2 (List.getElem?_eq_getElem hi'); rw [List.getElem?_map] at e1
    cases eq:ps[i]? with
    | none=>rw [eq] at e1; cases e1
    | some q =>
      rw [eq] at e1; cases e1; obtain ⟨a,ws,e,h3,h4⟩:=q1.tupJ; rw [e] at rr q1
      have rr':its[i]=.ref a:=rr
      exact ⟨a,q,rr',rfl,q1⟩
  have hit:∀ b q,Den X.K Hi (.ref b) (plc q)→zl4 X.K Hi p (.ref b)=decide (q=p):=fun b q d=>by
    by_cases e:q=p
    · rw [decide_eq_true e]
      exact zjW.mpr ⟨b,rfl,e ▸ d⟩
    · rw [decide_eq_false e,Bool.eq_false_iff]
      intro z; obtain ⟨b',eb,d'⟩:=zjW.mp z; cases eb
      have:=zhc I sub 100 _ _ _ _ d d' (zdA 99 q p)
      exact e (of_decide_eq_true this)
  refine ⟨fun w hw=>?_,?_⟩
  · obtain ⟨i,hi,rfl⟩:=List.getElem_of_mem hw
    obtain ⟨b,q,e,_,d⟩:=each i hi; rw [e,hit b q d]
    exact zoV I sub 99 X.A.in1 _ _ _ _ _ _ _ (by show X.A.units+1+99<cLine; omega) d d1 rfl rx (zdA 98 q p)
  · rw [Bool.eq_iff_iff,List.any_eq_true,decide_eq_true_eq]
    constructor
    · rintro ⟨w,hw,hh⟩
      obtain ⟨i,hi,rfl⟩:=List.getElem_of_mem hw; obtain ⟨b,q,e,eq,d⟩:=each i hi; rw [e,hit b q d,decide_eq_true_eq] at hh; rw [← hh]; exact List.mem_of_getElem? eq
    · intro hp
      obtain ⟨i,hi,rfl⟩:=List.getElem_of_mem hp
      have hl:its.length=ps.length:=by
        rw [← r.length,zi h2,List.length_map]
      have hi2:i<its.length:=by omega
      obtain ⟨b,q,e,eq,d⟩:=each i hi2; refine ⟨its[i],List.getElem_mem hi2,?_⟩; rw [e,hit b q d,decide_eq_true_eq]; rw [List.getElem?_eq_getElem hi] at eq; exact (Option.some.inj eq).symm
theorem zub (hu:X.A.units+100<cLine):Op2 X (compareOp .In) (zta false):=by
  refine ⟨fun x y H Q=>∃ (Hi:Hp) (p:List (List Nat)) (ps:List (List (List Nat))),zaX Hi H∧Den X.K Hi x (plc p)∧Den X.K Hi y (.lst (ps.map plc))∧Q (.bl (decide (p ∈ ps))) H,?_,?_⟩
  · intro pins s σ H x y v u Q I rx ry h
    obtain ⟨Hi,p,ps,sub,d1,d2,q⟩:=h; obtain ⟨a,vs,rfl,h1,h2⟩:=d2.lstI; cases ry; obtain ⟨its,r,pl,hz⟩:=I.list (zaK sub h1); obtain ⟨m1,m2⟩:=zsr I sub hu h2 r d1 rx
    refine SeqAt.in_listAt (zl4 X.K Hi p) pl.isList (fun w hw=>m1 w (by simpa using hw)) ⟨.bl _,H,I,rfl,?_⟩
    rw [show its.toArray.any (zl4 X.K Hi p)=its.any (zl4 X.K Hi p) by simp,m2]
    exact q
  · rintro Hi H x y dx dy Q Q2 s d1 d2 ⟨p,ps,rfl,rfl,q⟩ fin
    exact ⟨Hi,p,ps,s.sub,d1,d2,fin Hi H _ _ (Ext.refl s) (.bl _) (by simpa using q)⟩
theorem znn (hu:X.A.units+100<cLine):Op2 X (compareOp .NotIn) (zta true):=by
  refine ⟨fun x y H Q=>∃ (Hi:Hp) (p:List (List Nat)) (ps:List (List (List Nat))),zaX Hi H∧Den X.K Hi x (plc p)∧Den X.K Hi y (.lst (ps.map plc))∧Q (.bl (!decide (p ∈ ps))) H,?_,?_⟩
  · intro pins s σ H x y v u Q I rx ry h
    obtain ⟨Hi,p,ps,sub,d1,d2,q⟩:=h; obtain ⟨a,vs,rfl,h1,h2⟩:=d2.lstI; cases ry; obtain ⟨its,r,pl,hz⟩:=I.list (zaK sub h1); obtain ⟨m1,m2⟩:=zsr I sub hu h2 r d1 rx
    refine SeqAt.notIn_listAt (zl4 X.K Hi p) pl.isList (fun w hw=>m1 w (by simpa using hw)) ⟨.bl _,H,I,rfl,?_⟩
    rw [show its.toArray.any (zl4 X.K Hi p)=its.any (zl4 X.K Hi p) by simp,m2]
    exact q
  · rintro Hi H x y dx dy Q Q2 s d1 d2 ⟨p,ps,rfl,rfl,q⟩ fin
    exact ⟨Hi,p,ps,s.sub,d1,d2,fin Hi H _ _ (Ext.refl s) (.bl _) (by simpa using q)⟩
instance {neg:Bool}:MR2 (zta neg):=⟨fun _ _ _ _ h ⟨p,ps,a,b,q⟩=>⟨p,ps,a,b,h _ q⟩⟩
@[simp] theorem zjE {neg:Bool} {p:List (List Nat)} {ps:List (List (List Nat))} {Q:D→Prop}:zta neg (plc p) (.lst (ps.map plc)) Q↔Q (.bl (Bool.xor neg (decide (p ∈ ps)))):=by
  constructor
  · rintro ⟨p',ps',e1,e2,q⟩
    have h1:=zdt e1
    have h2:ps=ps':=by
      have:=D.lst.inj e2
      clear q e1 e2
      induction ps generalizing ps' with
      | nil=>cases ps' with
        | nil=>rfl
        | cons=>simp at this
      | cons a r ih=>cases ps' with
        | nil=>simp at this
        | cons b r' =>
          simp only [List.map_cons,List.cons.injEq] at this; rw [zdt this.1,ih r' this.2]
    rw [h1,h2]; exact q
  · exact fun q=>⟨p,ps,rfl,rfl,q⟩
end
end PL
namespace K84
open PySem L2 Lb PL MT M04 MS M70 M71 M81 M73 M72 M74 M82 M83 M84 M85 M86 M87
def top (i:Nat):Stmt:=PySem.Challenge.pw_codemend_k84_whole_either_order.main.body.getD i (.Pass ⟨0,0,0,0⟩)
abbrev zdn:Stmt:=top 3
abbrev zdq:Stmt:=top 4
abbrev zc4:Stmt:=top 6
abbrev zeD:Stmt:=top 7
abbrev zdo:Stmt:=top 8
abbrev zd1:Stmt:=top 15
abbrev zcL:Stmt:=top 16
abbrev zcu:Stmt:=top 18
abbrev zew:Stmt:=top 19
abbrev zev:Stmt:=top 20
abbrev ze2:Stmt:=top 21
abbrev zdp:Stmt:=top 22
abbrev zfn:Stmt:=top 23
abbrev zez:Stmt:=top 25
abbrev zfo:Stmt:=top 26
abbrev zdE:Stmt:=top 27
abbrev zc2:Stmt:=top 28
abbrev zd2:Stmt:=top 29
abbrev zdF:Stmt:=top 30
abbrev zeA:Stmt:=top 31
abbrev zdm:Stmt:=top 32
abbrev ze1:Stmt:=top 33
abbrev zeB:Stmt:=top 34
abbrev zcd:Stmt:=top 35
abbrev zey:Stmt:=top 36
abbrev zcE:Stmt:=top 37
abbrev zcJ:Stmt:=top 38
abbrev zb0:Stmt:=top 39
abbrev zeC:Stmt:=top 40
abbrev zfp:Stmt:=top 41
abbrev zc3:Stmt:=top 42
abbrev zcK:Stmt:=top 43
abbrev zex:Stmt:=top 44
abbrev zf2:Stmt:=top 45
abbrev zbX:Stmt:=zi9 (top 11) 0
abbrev zbM:Stmt:=zi9 (top 12) 0
abbrev zbc:Stmt:=zi9 (top 13) 0
def keyD (l:List Nat):D:=.tup [.int (zd5 l).1,.str (zd5 l).2]
def zcc:Sp':=fun ds Q=>∃ l,ds=[.str l]∧l.length≤1000∧Q (.val (.str (cut l)))
def zca:Sp':=fun ds Q=>∃ l,ds=[.str l]∧zX l=true∧Q (.val (keyD l))
def zck:Sp':=fun ds Q=>∃ l,ds=[.str l]∧zX l=true∧Q (.val (keyD l))
def zbz:Sp':=fun ds Q=>∃ t l,ds=[trD t,.str l]∧Q (.val (zb6 (zb l t.kds)))
def zbZ:Sp':=fun ds Q=>∃ ts:List Tr,ds=[.tup (ts.map trD)]∧(ts.flatMap Tr.kds).length≤1000∧Q (.own (.lst ((ts.flatMap Tr.kds).map trD)))
def zcb:Sp':=fun ds Q=>∃ ts:List Tr,ds=[.tup (ts.map trD)]∧(ts.flatMap Tr.kds).length≤1000∧(zf9 (zaM (ts.flatMap Tr.kds))).length<64∧(∀ k ∈ ts.flatMap Tr.kds,zX k.lab=true)∧Q (.own (.lst ((zfh (zf9 (zaM (ts.flatMap Tr.kds)))).map .str)))
def zcP:Sp':=fun ds Q=>∃ c f:Int,ds=[.int c,.int f]∧∀ m:Int,0≤m→m<2147483647→Q (.val (.int m))
def zbV:Sp':=fun ds Q=>∃ c:Int,ds=[.int c]∧∀ l,Q (.val (.str l))
def zaV:Sp':=fun ds Q=>∃ c:Int,ds=[.int c]∧∀ ws:Pl,ws.length≤3→Q (.val (plc ws))
def zcD:Sp':=fun ds Q=>∃ c:Int,ds=[.int c]∧∀ l,zX l=true→Q (.val (.str l))
def zbW:Sp':=fun ds Q=>∃ d ks,ds=[d]∧(d=.lst (ks.map trD)∨d=.tup (ks.map trD))∧(∀ k ∈ ks,zX k.lab=true)∧ks.length<64∧Q (.val (.tup ((zdf ks).map trD)))
def zdW:Sp':=fun ds Q=>∃ c:Int,ds=[.int c]∧∀ t,Wf 1 3 t→zX t.lab=true→cnt t≤4→Q (.val (trD t))
def zbn:Nat→Sp'
  | 0=>fun _ _=>False
  | n+1=>fun ds Q=>∃ t p c,ds=[trD t,plc p]∧Wf c (n+1) t∧p.length+n≤100∧M71.cnt t≤63∧Q (.val (.lst ((zde t p).map plc)))
def zcn:Sp':=fun ds Q=>∃ t p c n,ds=[trD t,plc p]∧Wf c n t∧c≤60∧Q (.val (zb6 (zq t p)))
def zaH:Nat→Sp'
  | 0=>fun _ _=>False
  | n+1=>fun ds Q=>∃ t p ws ks c m,ds=[trD t,plc p,plc ws,.tup (ks.map trD)]∧Wf c m t∧c≤60∧p.length≤n∧Q (.val (trD (made t p ws ks)))
def za6:Sp':=fun ds Q=>∃ t x c,ds=[trD t,.int x]∧Wf c 9 t∧c≤50∧M71.cnt t≤63∧∀ t',Wf (c+1) 9 t'→M71.cnt t'≤63→t'.lab=t.lab→One t t'→Q (.val (trD t'))
def zdV:Sp':=fun ds Q=>∃ ns:List Int,ds=[.lst (ns.map .int)]∧ns.length≤50∧∀ t,Wf ns.length 9 t→M71.cnt t≤63→t.lab=[]→Q (.val (trD t))
instance:MSp zbz:=⟨fun _ _ _ h ⟨t,l,e,q⟩=>⟨t,l,e,h _ q⟩⟩
instance:MSp zcP:=⟨fun _ _ _ h ⟨c,f,e,q⟩=>⟨c,f,e,fun m a b=>h _ (q m a b)⟩⟩
instance:MSp zbV:=⟨fun _ _ _ h ⟨c,e,q⟩=>⟨c,e,fun l=>h _ (q l)⟩⟩
instance {n:Nat}:MSp (zbn n):=⟨fun _ _ _ h q=>by
  cases n with
  | zero=>exact q
  | succ n =>
    obtain ⟨t,p,c,e,a,b,z,q⟩:=q; exact ⟨t,p,c,e,a,b,z,h _ q⟩⟩
instance {n:Nat}:MSp (zaH n):=⟨fun _ _ _ h q=>by
  cases n with
  | zero=>exact q
  | succ n =>
    obtain ⟨t,p,ws,ks,c,m,e,a,b,z,q⟩:=q; exact ⟨t,p,ws,ks,c,m,e,a,b,z,h _ q⟩⟩
instance:MSp za6:=⟨fun _ _ _ h ⟨t,x,c,e,a,b,z,q⟩=>⟨t,x,c,e,a,b,z,fun t' p1 p2 p3 p4=>h _ (q t' p1 p2 p3 p4)⟩⟩
theorem zbo {n:Nat} (h:n≤1000):n≤sizeLine:=Nat.le_of_lt (zbE h)
theorem zke {α:Type} (xs:List α) {i:Int} (h0:0≤i) (h1:i<xs.length):∃ d,atI xs i=some d∧d ∈ xs:=by
  obtain ⟨n,rfl⟩:=Int.eq_ofNat_of_zero_le h0
  have hn:n<xs.length:=by omega
  exact ⟨xs[n],zda (List.getElem?_eq_getElem hn),List.getElem_mem hn⟩
@[simp] theorem sz1:1≤sizeLine:=zbo (by decide)
@[simp] theorem sz2:2≤sizeLine:=zbo (by decide)
@[simp] theorem sz3:3≤sizeLine:=zbo (by decide)
@[simp] theorem sz6:6≤sizeLine:=zbo (by decide)
@[simp] theorem zuV:36≤sizeLine:=zbo (by decide)
theorem zhN {n:Int} (h0:0≤n) (h1:n<10 ^ 10):n.natAbs.log2<1920:=by
  refine Nat.lt_of_lt_of_le ?_ (by decide:40≤1920)
  by_cases hz:n.natAbs=0
  · rw [hz]; decide
  · exact (Nat.log2_lt hz).mpr (by have : n.natAbs < 10 ^ 10 := by omega
                                   have:10 ^ 10<2 ^ 40:=by decide
                                   omega)
theorem md {i:Int} {n:Nat} (h:0<n):0≤i % (n:Int)∧i % (n:Int)<n:=⟨Int.emod_nonneg _ (by omega),Int.emod_lt_of_pos _ (by omega)⟩
theorem zks (l y:List Nat):(Txt.rstripChars (st l) (st y)).cps.toList=(l.reverse.dropWhile fun c=>decide (c ∈ y)).reverse:=by
  have hc:(st y).cps.contains=fun c=>decide (c ∈ y):=by
    funext c
    simp [st]
  have hh:PySem.stripHi (st y).cps.contains true (st l) (PySem.stripLo (st y).cps.contains false (st l))=l.length-(l.reverse.takeWhile fun c=>decide (c ∈ y)).length:=by
    unfold PySem.stripHi PySem.stripLo
    rw [if_pos rfl,if_neg (by decide),zaP,List.drop_zero,hc,zbP]
  have ht:l.take (l.length-(l.reverse.takeWhile fun c=>decide (c ∈ y)).length)=(l.reverse.dropWhile fun c=>decide (c ∈ y)).reverse:=by
    have e:l=(l.reverse.dropWhile fun c=>decide (c ∈ y)).reverse ++ (l.reverse.takeWhile fun c=>decide (c ∈ y)).reverse:=by
      rw [← List.reverse_append,List.takeWhile_append_dropWhile,List.reverse_reverse]
    have el:=congrArg List.length e; rw [List.length_append,List.length_reverse (as:=List.takeWhile _ _)] at el
    have z:l.take (l.length-(l.reverse.takeWhile fun c=>decide (c ∈ y)).length)=((l.reverse.dropWhile fun c=>decide (c ∈ y)).reverse ++ (l.reverse.takeWhile fun c=>decide (c ∈ y)).reverse).take (l.length-(l.reverse.takeWhile fun c=>decide (c ∈ y)).length):=congrArg (List.take _) e
    rw [z,List.take_left' (by omega)]
  unfold Txt.rstripChars Txt.stripBy; split
  · rename_i hs
    unfold PySem.stripSame at hs; rw [hh,zbP] at hs; simp only [Bool.and_eq_true,beq_iff_eq] at hs
    rw [zaP,← ht,List.take_of_length_le (by omega)]
  · unfold PySem.stripped
    rw [hh,PyProof.Rows.strSub_mk]; unfold PySem.stripLo
    rw [if_neg (by decide),zaP,List.drop_zero,Nat.sub_zero,ht]
theorem zkH (l y:List Nat):(Txt.lstripChars (st l) (st y)).cps.toList=l.dropWhile fun c=>decide (c ∈ y):=by
  have hc:(st y).cps.contains=fun c=>decide (c ∈ y):=by
    funext c
    simp [st]
  have h0:PySem.stripLo (st y).cps.contains true (st l)=(l.takeWhile fun c=>decide (c ∈ y)).length:=by
    unfold PySem.stripLo; rw [if_pos rfl,zaP,hc]
  have hh:PySem.stripHi (st y).cps.contains false (st l) (PySem.stripLo (st y).cps.contains true (st l))=l.length:=by
    unfold PySem.stripHi
    rw [if_neg (by decide),zbP]
  have ht:l.drop (l.takeWhile fun c=>decide (c ∈ y)).length=l.dropWhile fun c=>decide (c ∈ y):=by
    conv=>lhs; rw [← List.takeWhile_append_dropWhile (p:=fun c=>decide (c ∈ y)) (l:=l)]
    rw [List.takeWhile_append_dropWhile]
    have e:=List.takeWhile_append_dropWhile (p:=fun c=>decide (c ∈ y)) (l:=l)
    generalize l.takeWhile (fun c=>decide (c ∈ y))=a at e ⊢
    generalize l.dropWhile (fun c=>decide (c ∈ y))=b at e ⊢
    subst e; exact List.drop_left' rfl
  unfold Txt.lstripChars Txt.stripBy; split
  · rename_i hs
    unfold PySem.stripSame at hs; rw [hh,h0,zbP] at hs; simp only [Bool.and_eq_true,beq_iff_eq] at hs
    have z:(l.takeWhile fun c=>decide (c ∈ y)).length=0:=by omega
    rw [zaP,← ht,z,List.drop_zero]
  · unfold PySem.stripped
    rw [hh,h0,PyProof.Rows.strSub_mk,zaP,ht]; rw [List.take_of_length_le]; rw [← ht,List.length_drop]; exact Nat.le_refl _
theorem zhT {l:List Nat} (h:zX l=true):∃ m n,m=(cut l).length∧1≤m∧m≤9∧m≤l.length∧l.length≤12∧l.take m=cut l∧l.drop m=zdd l∧(∀ c,c ∈ cut l→dig c=true)∧(∀ c,c ∈ zdd l→dig c=false)∧PySem.intText? (st (cut l))=some n∧zd5 l=(n,zdd l):=by
  have h':=h; unfold zX at h; simp only [Bool.and_eq_true,decide_eq_true_eq,List.all_eq_true] at h
  obtain ⟨⟨⟨⟨a1,a2⟩,b⟩,c⟩,d⟩:=h
  have e:=zeL l; have el:=congrArg List.length e; rw [List.length_append] at el
  have t:l.take (cut l).length=cut l:=by
    have z:(cut l ++ zdd l).take (cut l).length=cut l:=List.take_left' rfl
    rw [e] at z; exact z
  have t2:l.drop (cut l).length=zdd l:=by
    have z:(cut l ++ zdd l).drop (cut l).length=zdd l:=List.drop_left' rfl
    rw [e] at z; exact z
  have r:∃ n,PySem.intText? (st (cut l))=some n:=by
    have q:=PySem.intText_digits (x:=st (cut l)) (by rw [zaP]; exact fun x hx=>(ze9 x).mp (by simpa [dig] using c x hx)) (by rw [zaP]; exact fun z=>by rw [z] at a1; simp at a1) (by rw [zbP]; omega)
    exact ⟨_,q⟩
  obtain ⟨n,r⟩:=r
  refine ⟨_,n,rfl,a1,a2,by omega,by omega,t,t2,c,fun x hx=>?_,r,by unfold zd5; rw [r]; rfl⟩
  have:=zmN l x hx
  cases z:dig x with
  | false=>rfl
  | true=>rw [zfT z] at this; cases this
theorem zob {l:List Nat} (cd:∀ c,c ∈ cut l→dig c=true) (tf:∀ c,c ∈ zdd l→dig c=false):(l.dropWhile fun c=>decide (c ∈ zoR))=zdd l:=by
  have e:=zeL l; generalize cut l=a at cd e; generalize zdd l=b at tf e ⊢; subst e
  induction a with
  | nil =>
    cases b with
    | nil=>rfl
    | cons x r =>
      have:=tf x List.mem_cons_self
      rw [List.nil_append,List.dropWhile_cons]
      rw [show decide (x ∈ zoR)=false from this]
      rfl
  | cons x a ih =>
    have:=cd x List.mem_cons_self
    rw [List.cons_append,List.dropWhile_cons,show decide (x ∈ zoR)=true from this]
    simp only [if_true]
    exact ih fun c hc=>cd c (List.mem_cons_of_mem _ hc)
section
variable {P:Program} {w:World} {K:PySem.W.Frag} {mg:Str→Option Value} {base:Heap}
theorem zgB:FnScope ["label"] ["label"] (zj zdq):=⟨rfl,rfl,rfl,by decide +kernel,rfl,by decide +kernel,by decide +kernel⟩
theorem zgW (d:Df K mg "figures_of" zdq ["label"]) {t_SMALL_LETTERS:Tok} (g_SMALL_LETTERS:mg "SMALL_LETTERS"=some (.str (st zqU) t_SMALL_LETTERS)):Fn P w K mg base 1 "figures_of" ["label"] zcc:=by
  refine d.ok zgB (fun ds Q h=>?_) (fun f cdv A outer s H E hr ds Q h=>⟨_,(zh (zR (zlA znx PySem.F.plainAttrs_str PySem.F.slot_str_rstrip PySem.F.type_str_rstrip (pv' 0) (za (zrU g_SMALL_LETTERS) zc)))),?_⟩)
  · obtain ⟨l,rfl,_⟩:=h
    rfl
  obtain ⟨l,rfl,hl,q⟩:=h; simp [zab,zW,zY,zZ,zp,zQ,tC',za9,zaR,tB',zaq,zam,zbf,zI,zay,zM,zbj,zac,zv,zae,zah,zbb,zbk,zbe,zag,zbg,zat,zad,zK,zw,zx,za8,zr,zaA,zG,zai,zB,zal,zy,zE,zak,zaa,zbd,zN,zaf,zH,zav,zL,zaw,zu,zar,zC,zm,zF,zn,zaB,zg,zk,zas,zJ,zO,zaz,zbm,zaj,zf,zo,tBr,brN,zD,zz,zA,zau,zt,zan,zbh,zao,zap,zax,zbl,zaC]; refine ⟨zbo hl,?_⟩; rw [zks]; exact q
theorem zea:FnScope ["label","figures"] ["label"] (zj zdn):=⟨rfl,rfl,rfl,by decide +kernel,rfl,by decide +kernel,by decide +kernel⟩
theorem zgT (d:Df K mg "label_rank" zdn ["label"]) (G_figures_of:Fn P w K mg base 1 "figures_of" ["label"] zcc) (z_int:mg "int"=none) (z_len:mg "len"=none):Fn P w K mg base 2 "label_rank" ["label"] zca:=by
  refine d.ok zea (fun ds Q h=>?_) (fun f cdv A outer s H E hr ds Q h=>⟨_,(zd (zV 1 zea.nd (zaJ G_figures_of (hr.mono (by decide)) (za (pv' 0) zc)))
    (zh (zR (zaI (za (zbv zo1 z_int PyProof.Rows.boot_int (za (pv' 1) zc)) (za (zcw s_A (pv' 0) (zdu (zaN zdc z_len PySem.boot_len (za (pv' 1) zc))) zeH) zc)))))),?_⟩)
  · obtain ⟨l,rfl,_⟩:=h
    rfl
  obtain ⟨l,rfl,hl,hq⟩:=h; obtain ⟨m,n,hm,m1,m9,ml,l12,tk,dr,cd,tf,rd,kf⟩:=zhT hl; simp [zab,zW,zY,zZ,zp,zQ,tC',za9,zaR,tB',zaq,zam,zbf,zI,zay,zM,zbj,zac,zv,zae,zah,zbb,zbk,zbe,zag,zbg,zat,zad,zK,zw,zx,za8,zr,zaA,zG,zai,zB,zal,zy,zE,zak,zaa,zbd,zN,zaf,zH,zav,zL,zaw,zu,zar,zC,zm,zF,zn,zaB,zg,zk,zas,zJ,zO,zaz,zbm,zaj,zf,zo,tBr,brN,zD,zz,zA,zau,zt,zan,zbh,zao,zap,zax,zbl,zaC,zcc]
  refine ⟨by omega,.inl ⟨cut l,n,rfl,rd,by omega,zbo (by omega),zbo (by omega),?_⟩⟩
  rw [← hm,dr]; unfold keyD at hq; rw [kf] at hq; exact hq
theorem zfj:FnScope ["_law_label_here","_law_letters"] ["_law_label_here"] (zj zez):=⟨rfl,rfl,rfl,by decide +kernel,rfl,by decide +kernel,by decide +kernel⟩
theorem ziM (d:Df K mg "_law_rank" zez ["_law_label_here"]) (z_int:mg "int"=none) (z_len:mg "len"=none):Fn P w K mg base 1 "_law_rank" ["_law_label_here"] zck:=by
  refine d.ok zfj (fun ds Q h=>?_) (fun f cdv A outer s H E hr ds Q h=>⟨_,(zd (zV 1 zfj.nd (zlA zny PySem.F.plainAttrs_str PySem.F.slot_str_lstrip PySem.F.type_str_lstrip (pv' 0) (za (zbK zoR) zc)))
    (zh (zR (zaI (za (zbv zo1 z_int PyProof.Rows.boot_int (za (zcw s_A (pv' 0) zeH (zdu (zS zt9 (zaN zdc z_len PySem.boot_len (za (pv' 0) zc)) (zaN zdc z_len PySem.boot_len (za (pv' 1) zc))))) zc)) (za (pv' 1) zc)))))),?_⟩)
  · obtain ⟨l,rfl,_⟩:=h
    rfl
  obtain ⟨l,rfl,hl,hq⟩:=h; obtain ⟨m,n,hm,m1,m9,ml,l12,tk,dr,cd,tf,rd,kf⟩:=zhT hl
  have hll:l.length=m+(zdd l).length:=by
    have:=congrArg List.length (zeL l)
    rw [List.length_append] at this; omega
  simp [zab,zW,zY,zZ,zp,zQ,tC',za9,zaR,tB',zaq,zam,zbf,zI,zay,zM,zbj,zac,zv,zae,zah,zbb,zbk,zbe,zag,zbg,zat,zad,zK,zw,zx,za8,zr,zaA,zG,zai,zB,zal,zy,zE,zak,zaa,zbd,zN,zaf,zH,zav,zL,zaw,zu,zar,zC,zm,zF,zn,zaB,zg,zk,zas,zJ,zO,zaz,zbm,zaj,zf,zo,tBr,brN,zD,zz,zA,zau,zt,zan,zbh,zao,zap,zax,zbl,zaC,zkH,zob cd tf]
  refine ⟨zbo (by omega),zbo (by omega),zbo (by omega),by omega,?_⟩
  rw [show l.length-(zdd l).length=m by omega,tk]
  refine .inl ⟨cut l,n,rfl,rd,by omega,?_⟩
  unfold keyD at hq; rw [kf] at hq; exact hq
theorem zfl:FnScope ["node","label","kid"] ["node","label"] (zj zeD):=⟨rfl,rfl,rfl,by decide +kernel,rfl,by decide +kernel,by decide +kernel⟩
theorem ziR (d:Df K mg "kid_with" zeD ["node","label"]):Fn P w K mg base 1 "kid_with" ["node","label"] zbz:=by
  refine d.ok zfl (fun ds Q h=>?_) (fun f cdv A outer s H E hr ds Q h=>⟨_,(zd (zbS (zbq (zT (i_A (zaG hr)) (pv' 0) ze)) (zaL 2 zfl.nd)
      (zh (za2 (zU (zdw (zbH hr)) (zT (i_A (zaG hr)) (pv' 2) ze) (pv' 1)) (zh (zR (pv' 2))) zaF)))
    (zh (zR zbA))),?_⟩)
  · obtain ⟨t,l,rfl,_⟩:=h
    rfl
  obtain ⟨t,l,rfl,q⟩:=h; rw [zbi]; simp [zab,zW,zY,zZ,zp,zQ,tC',za9,zaR,tB',zaq,zam,zbf,zI,zay,zM,zbj,zac,zv,zae,zah,zbb,zbk,zbe,zag,zbg,zat,zad,zK,zw,zx,za8,zr,zaA,zG,zai,zB,zal,zy,zE,zak,zaa,zbd,zN,zaf,zH,zav,zL,zaw,zu,zar,zC,zm,zF,zn,zaB,zg,zk,zas,zJ,zO,zaz,zbm,zaj,zf,zo,tBr,brN,zD,zz,zA,zau,zt,zan,zbh,zao,zap,zax,zbl,zaC]
  have key:∀ (ks:List Tr) (A s2:Slot),Q (.val (zb6 (zb l ks)))→zim (zp 2) (zY (tB' (zaR ziy (zaR zfr (zQ 2) (tC' (D.int 0))) (zQ 1))) (zW (zQ 2)) zr)
      { nx:=zW (tC' D.non) { nx:=fun x=>Q (Res.val D.non),rt:=fun r x=>Q r },rt:=fun r x=>Q r } (ks.map trD) [A,.val (.str l),s2]:=by
    intro ks
    induction ks with
    | nil=>intro A s2 q; simpa [zim,zW,tC',zb,zb6] using q
    | cons k ks ih =>
      intro A s2 q; have ih':=ih A (.val (trD k)); rw [zbi] at ih'; simp only [List.map_cons,zim]; rw [zbi k]
      by_cases e:k.lab=l
      · have:zb l (k :: ks)=some k:=by simp [zb,e]
        rw [this] at q
        have q':Q (.val (trD k)):=q
        rw [zbi k] at q'
        simpa [zp,zY,tB',zaR,zQ,tC',zW,zr,e] using q'
      · have:zb l (k :: ks)=zb l ks:=by simp [zb,e]
        rw [this] at q
        simpa [zp,zY,tB',zaR,zQ,tC',zW,zr,e] using ih' q
  exact key _ _ _ q
theorem zcI:FnScope ["nodes","kids","node"] ["nodes"] (zj zc4):=⟨rfl,rfl,rfl,by decide +kernel,rfl,by decide +kernel,by decide +kernel⟩
theorem zf6 (d:Df K mg "kids_of_all" zc4 ["nodes"]):Fn P w K mg base 1 "kids_of_all" ["nodes"] zbZ:=by
  refine d.ok zcI (fun ds Q h=>?_) (fun f cdv A outer s H E hr ds Q h=>⟨_,(zd (zb1 1 zcI.nd (zb3 zc))
    (zd (zbS (zbq (pv' 0)) (zaL 2 zcI.nd)
      (zh (zgg 1 (zT (i_A (zaG hr)) (pv' 2) ze))))
    (zh (zm3 1)))),?_⟩)
  · obtain ⟨ts,rfl,_⟩:=h
    rfl
  obtain ⟨ts,rfl,hl,hq⟩:=h; simp [zab,zW,zY,zZ,zp,zQ,tC',za9,zaR,tB',zaq,zam,zbf,zI,zay,zM,zbj,zac,zv,zae,zah,zbb,zbk,zbe,zag,zbg,zat,zad,zK,zw,zx,za8,zr,zaA,zG,zai,zB,zal,zy,zE,zak,zaa,zbd,zN,zaf,zH,zav,zL,zaw,zu,zar,zC,zm,zF,zn,zaB,zg,zk,zas,zJ,zO,zaz,zbm,zaj,zf,zo,tBr,brN,zD,zz,zA,zau,zt,zan,zbh,zao,zap,zax,zbl,zaC]
  refine zdy (fun i Γ=>∃ s2,Γ=[.val (.tup (ts.map trD)),.own (.lst (((ts.take i).flatMap Tr.kds).map trD)),s2]) ⟨.emp,rfl⟩ ?_ ?_
  · rintro i d Γ hd ⟨s2,rfl⟩
    rw [List.getElem?_map] at hd
    cases hc:ts[i]? with
    | none=>rw [hc] at hd; cases hd
    | some t =>
      rw [hc] at hd; cases hd
      have e1:(ts.take (i+1)).flatMap Tr.kds=(ts.take i).flatMap Tr.kds ++ t.kds:=by
        rw [List.take_succ,hc,List.flatMap_append]; simp
      have e2:ts.flatMap Tr.kds=(ts.take (i+1)).flatMap Tr.kds ++ (ts.drop (i+1)).flatMap Tr.kds:=by
        rw [← List.flatMap_append,List.take_append_drop]
      rw [e2,List.length_append,e1,List.length_append] at hl; rw [zbi t]; simp [zab,zW,zY,zZ,zp,zQ,tC',za9,zaR,tB',zaq,zam,zbf,zI,zay,zM,zbj,zac,zv,zae,zah,zbb,zbk,zbe,zag,zbg,zat,zad,zK,zw,zx,za8,zr,zaA,zG,zai,zB,zal,zy,zE,zak,zaa,zbd,zN,zaf,zH,zav,zL,zaw,zu,zar,zC,zm,zF,zn,zaB,zg,zk,zas,zJ,zO,zaz,zbm,zaj,zf,zo,tBr,brN,zD,zz,zA,zau,zt,zan,zbh,zao,zap,zax,zbl,zaC,zf,e1]; refine zbo ?_; simp only [List.length_flatMap,List.map_take] at hl; omega
  · rintro Γ ⟨s2,rfl⟩
    rw [show List.take (List.map trD ts).length ts=ts from List.take_of_length_le (by rw [List.length_map]; exact Nat.le_refl _)]
    simp [zab,zW,zY,zZ,zp,zQ,tC',za9,zaR,tB',zaq,zam,zbf,zI,zay,zM,zbj,zac,zv,zae,zah,zbb,zbk,zbe,zag,zbg,zat,zad,zK,zw,zx,za8,zr,zaA,zG,zai,zB,zal,zy,zE,zak,zaa,zbd,zN,zaf,zH,zav,zL,zaw,zu,zar,zC,zm,zF,zn,zaB,zg,zk,zas,zJ,zO,zaz,zbm,zaj,zf,zo,tBr,brN,zD,zz,zA,zau,zt,zan,zbh,zao,zap,zax,zbl,zaC]; exact hq
theorem zkr:FnScope ["_law_cell","_law_factor"] ["_law_cell","_law_factor"] (zj zfo):=⟨rfl,rfl,rfl,by decide +kernel,rfl,by decide +kernel,by decide +kernel⟩
theorem zkB (d:Df K mg "_law_mix" zfo ["_law_cell","_law_factor"]):Fn P w K mg base 1 "_law_mix" ["_law_cell","_law_factor"] zcP:=by
  refine d.ok zkr (fun ds Q h=>?_) (fun f cdv A outer s H E hr ds Q h=>⟨_,(zh (zR (zS zcy (zS zgk (zS zb8 (zS zcy (pv' 0) (zS znm ze ze)) ze) (pv' 1)) ze))),?_⟩)
  · obtain ⟨c,f,rfl,_⟩:=h
    rfl
  obtain ⟨c,f,rfl,q⟩:=h; simp [zab,zW,zY,zZ,zp,zQ,tC',za9,zaR,tB',zaq,zam,zbf,zI,zay,zM,zbj,zac,zv,zae,zah,zbb,zbk,zbe,zag,zbg,zat,zad,zK,zw,zx,za8,zr,zaA,zG,zai,zB,zal,zy,zE,zak,zaa,zbd,zN,zaf,zH,zav,zL,zaw,zu,zar,zC,zm,zF,zn,zaB,zg,zk,zas,zJ,zO,zaz,zbm,zaj,zf,zo,tBr,brN,zD,zz,zA,zau,zt,zan,zbh,zao,zap,zax,zbl,zaC,zf7,zkh,zq1]
  have hm:=md (i:=c) (n:=1000000000000000000) (by decide)
  have h2:=md (i:=(c % 1000000000000000000+19) * f) (n:=2147483647) (by decide)
  exact ⟨.inl ⟨by omega,by omega⟩,q _ h2.1 h2.2⟩
end
end K84
namespace K84
open PySem L2 Lb PL MT M04 MS M70 M71 M81 M73 M72 M74 M82 M83 M84 M85 M86 M87
def tdD (acc:List Tr):List (D × D):=acc.map fun k=>(.str k.lab,trD k)
theorem zjd (l:List Nat):∀ acc:List Tr,zeY (tdD acc) (.str l)=(zb l acc).map trD
  | []=>rfl
  | k :: acc=>by
    rw [show tdD (k :: acc)=(.str k.lab,trD k) :: tdD acc from rfl]
    by_cases e:k.lab=l
    · rw [zfX (by rw [e])]
      simp [zb,e]
    · rw [zfY (fun z=>e (by injection z)),zjd l acc]
      simp [zb,e]
theorem zph (acc:List Tr) (k:Tr):zpi (tdD acc) (.str k.lab) (trD k)=tdD (zqW acc k):=by
  unfold zpi zqW; rw [zjd,Option.isSome_map]
  cases e:zb k.lab acc with
  | none =>
    rw [if_neg (zbs.mp e)]; simp [tdD]
  | some k' =>
    have:k.lab ∈ zaM acc:=by
      rw [← (za3 e).2]; exact List.mem_map_of_mem (za3 e).1
    rw [if_pos this]; rfl
theorem zqf (acc:List Tr):(tdD acc).map (·.1)=(zaM acc).map .str:=by
  unfold tdD zaM; rw [List.map_map,List.map_map]; rfl
theorem zqg (ms:List (List Nat)):(nmD ms).map (·.1)=ms.map .str:=by
  unfold nmD; rw [List.map_map]; rfl
theorem zeo:∀ t:Tr,Imm (trD t)
  | .node l ws ks=>by
    rw [zbi]
    refine .tup fun d hd=>?_
    simp only [List.mem_cons,List.not_mem_nil,or_false] at hd
    rcases hd with rfl | rfl | rfl
    · exact .str _
    · exact .plc _
    · refine .tup fun d hd=>?_
      obtain ⟨k,hk,rfl⟩:=List.mem_map.mp hd
      have hk':k ∈ ks:=hk
      exact zeo k
termination_by t=>sizeOf t
decreasing_by
  have:=List.sizeOf_lt_of_mem hk'
  simp; omega
theorem zhq {sp:Sp'} (hsp:∀ l,zX l=true→sp [.str l] fun r=>r=.val (keyD l)) {ms:List (List Nat)} (h64:ms.length<64) (hp:∀ l ∈ ms,zX l=true) {R:List D→Prop} (h:R ((zfh ms).map .str)) :
    ∃ (ks:List D) (lt:Nat→Nat→Bool),ks.length=(ms.map D.str).length∧(∀ (i:Nat) x k,(ms.map D.str)[i]?=some x→ks[i]?=some k→sp [x] fun r=>r=.val k)∧zqY ks lt∧R (zfi lt (ms.map .str)):=by
  refine ⟨ms.map keyD,ltP (ms.map zd5),by simp,fun i x k h1 h2=>?_,.inr ⟨ms.map zd5,by rw [List.map_map]; rfl,rfl⟩,?_⟩
  · rw [List.getElem?_map] at h1 h2
    cases hc:ms[i]? with
    | none=>rw [hc] at h1; cases h1
    | some l =>
      rw [hc] at h1 h2; cases h1; cases h2; exact hsp l (hp l (List.mem_of_getElem? hc))
  · rw [zpa D.str [] ms (ziG _)]
    exact h
@[simp] theorem ix0 (k:Tr) (Q:D→Prop):zfr (trD k) (.int 0) Q↔Q (.str k.lab):=by
  rw [zbi]; simp
@[simp] theorem ix1 (k:Tr) (Q:D→Prop):zfr (trD k) (.int 1) Q↔Q (plc k.wds):=by
  rw [zbi]; simp
@[simp] theorem ix2 (k:Tr) (Q:D→Prop):zfr (trD k) (.int 2) Q↔Q (.tup (k.kds.map trD)):=by
  rw [zbi]; simp
theorem zjI:∀ ls:List (List Nat),(∀ x ∈ ls,x.length=1)→(ls.map (·.length)).sum=ls.length
  | [],_=>rfl
  | a :: l,h=>by
    rw [List.map_cons,List.sum_cons,zjI l fun x hx=>h x (List.mem_cons_of_mem _ hx),h a List.mem_cons_self,List.length_cons]
    omega
theorem zmk {acc:List Tr} {L:List (List Nat)} {R:List D→Prop} (hL:∀ l ∈ L,l ∈ zaM acc) (h:R ((zgM L acc).map trD)):zdg (zp 0) za8 (zaR zkv (zQ 1) (zQ 0)) R (L.map .str) [] [Slot.emp,Slot.val (D.dic (tdD acc))]:=by
  refine zeM (fun i a Γ=>∃ s0,a=(zgM (L.take i) acc).map trD∧Γ=[s0,.val (.dic (tdD acc))]) ⟨.emp,rfl,rfl⟩ ?_ ?_
  · rintro i d a Γ hd ⟨s0,rfl,rfl⟩
    rw [List.getElem?_map] at hd
    cases hc:L[i]? with
    | none=>rw [hc] at hd; cases hd
    | some l =>
      rw [hc] at hd; cases hd; obtain ⟨k,hk⟩:=zc8 (hL l (List.mem_of_getElem? hc)); simp [zab,zW,zY,zZ,zp,zQ,tC',za9,zaR,tB',zaq,zam,zbf,zI,zay,zM,zbj,zac,zv,zae,zah,zbb,zbk,zbe,zag,zbg,zat,zad,zK,zw,zx,za8,zr,zaA,zG,zai,zB,zal,zy,zE,zak,zaa,zbd,zN,zaf,zH,zav,zL,zaw,zu,zar,zC,zm,zF,zn,zaB,zg,zk,zas,zJ,zO,zaz,zbm,zaj,zf,zo,tBr,brN,zD,zz,zA,zau,zt,zan,zbh,zao,zap,zax,zbl,zaC,zkv]; rw [zjd,hk]; refine ⟨_,rfl,?_⟩; rw [List.take_succ,hc]; unfold zgM; rw [List.filterMap_append]; simp [hk]
  · rintro a Γ ⟨s0,rfl,rfl⟩
    rw [show List.take (List.map D.str L).length L=L from List.take_of_length_le (by rw [List.length_map]; exact Nat.le_refl _)]
    exact h
theorem zi1 {ks:List Tr} {Q:Res→Prop} (hp:∀ (k:Tr),k ∈ ks→zX k.lab=true) (h64:ks.length<64) (hq:Q (Res.val (D.tup (List.map trD (zdf ks))))):(tdD (ddp ks)).length<64 ∧
    ∃ x:List D,
      x.length=(tdD (ddp ks)).length ∧
        (∀ (i:Nat) (x_1 k x_2:D),
            (tdD (ddp ks))[i]?=some (x_1,x_2)→x[i]?=some k→zck [x_1] fun r=>r=Res.val k) ∧
          ∃ x_1,
            zqY x x_1 ∧
              (zfi x_1 (List.map (fun x=>x.fst) (tdD (ddp ks)))).length≤sizeLine ∧
                zdg (zp 0) za8 (zaR zkv (zQ 1) (zQ 0))
                  (fun acc=>Imm (D.tup acc)∧Q (Res.val (D.tup acc)))
                  (zfi x_1 (List.map (fun x=>x.fst) (tdD (ddp ks)))) [] [Slot.emp,Slot.val (D.dic (tdD (ddp ks)))]:=by
  have hd:=zfW ks
  have hl:(zaM (ddp ks)).length<64:=by rw [zc6]; have:=hd.len; omega
  have e:=zqf (ddp ks)
  have e':List.map (fun x=>x.fst) (tdD (ddp ks))=(zaM (ddp ks)).map .str:=e
  obtain ⟨ks',lt,a,b,c,r⟩:=zhq (sp:=zck) (fun l hl=>⟨l,rfl,hl,rfl⟩) hl (fun l hl=>by
    obtain ⟨k,hk,rfl⟩:=List.mem_map.mp hl
    exact hp k (hd.mem k hk)) (R:=fun ds=>ds.length≤sizeLine∧zdg (zp 0) za8 (zaR zkv (zQ 1) (zQ 0)) (fun acc=>Imm (D.tup acc)∧Q (Res.val (D.tup acc))) ds [] [Slot.emp,Slot.val (D.dic (tdD (ddp ks)))]) ⟨by rw [List.length_map,zhs]; exact zbo (by omega),zmk (fun l hl=>(zcp _ _).mp hl) ⟨.tup fun d hd=>by
      obtain ⟨k,_,rfl⟩:=List.mem_map.mp hd; exact zeo k,hq⟩⟩
  refine ⟨by unfold tdD; rw [List.length_map,← zc6]; exact hl,ks',by rw [a]; unfold tdD; rw [List.length_map,List.length_map,zc6],fun i x k x2 h1 h2=>b i x k ?_ h2,lt,c,?_⟩
  · rw [← e,List.getElem?_map,h1]
    rfl
  · rw [e']
    exact r
section
variable {P:Program} {w:World} {K:PySem.W.Frag} {mg:Str→Option Value} {base:Heap}
theorem zdZ:FnScope ["_law_number","_law_signs","_law_size"] ["_law_number"] (zj zdE):=⟨rfl,rfl,rfl,by decide +kernel,rfl,by decide +kernel,by decide +kernel⟩
theorem ziJ (d:Df K mg "_law_word" zdE ["_law_number"]) (z_range:mg "range"=none):Fn P w K mg base 1 "_law_word" ["_law_number"] zbV:=by
  refine d.ok zdZ (fun ds Q h=>?_) (fun f cdv A outer s H E hr ds Q h=>⟨_,(zd (za2 (zU (zfF (zbH hr)) (zS zcy (pv' 0) ze) ze) (zh (zR (zT (i_A (zaG hr)) (zbK [97,98,120]) (zS zcy (zS zb7 (pv' 0) ze) ze)))) zaF)
    (zd (zV 1 zdZ.nd (zbK wsg))
    (zd (zV 2 zdZ.nd (zS zb8 ze (zS zcy (zS zb7 (pv' 0) ze) ze)))
    (zh (zR (zlA zp3 PySem.F.plainAttrs_str PySem.F.slot_str_join PySem.F.type_str_join (zbK []) (za (zb4 (ziB (fsc:=zj zdE) (N:=["_law_number","_law_signs","_law_size"]) (N':=["_law_k","_law_signs","_law_number"]) (src:=[none,some 1,some 0]) (by refine ⟨rfl,?_,?_,?_,rfl,rfl⟩ <;> decide +kernel) (zeF z_range (za (pv' 2) zc)) (fun _ _ _ _ _ _=>(zaL 0 (show (["_law_k","_law_signs","_law_number"]:List Str).Nodup by decide +kernel))) (fun _ _ _ _ _ _=>zed) (fun _ _ _ _ _ _=>(zT (i_A (zaG hr)) (pv' 1) (zS zcy (zS zcy (zS zgk (zS zb7 (pv' 2) (zS zb8 (pv' 0) ze)) ze) ze) ze))))) zc))))))),?_⟩)
  · obtain ⟨c,rfl,_⟩:=h
    rfl
  obtain ⟨c,rfl,hq⟩:=h; simp [zab,zW,zY,zZ,zp,zQ,tC',za9,zaR,tB',zaq,zam,zbf,zI,zay,zM,zbj,zac,zv,zae,zah,zbb,zbk,zbe,zag,zbg,zat,zad,zK,zw,zx,za8,zr,zaA,zG,zai,zB,zal,zy,zE,zak,zaa,zbd,zN,zaf,zH,zav,zL,zaw,zu,zar,zC,zm,zF,zn,zaB,zg,zk,zas,zJ,zO,zaz,zbm,zaj,zf,zo,tBr,brN,zD,zz,zA,zau,zt,zan,zbh,zao,zap,zax,zbl,zaC,zf7,zkh]
  by_cases e:c % 3=1
  · have m12:=md (i:=c / 3) (n:=12) (by decide)
    have h36:36≤sizeLine:=zuV
    refine .inl ⟨e,by omega,by omega,by omega,?_⟩
    refine zeM (fun i acc Γ=>∃ (ls:List (List Nat)) (s0:Slot),acc=ls.map .str∧ls.length=i∧(∀ x ∈ ls,x.length=1)∧Γ=[s0,.val (.str wsg),.val (.int c)]) ⟨[],.emp,rfl,rfl,fun _ h=>(nomatch h),rfl⟩ ?_ ?_
    · rintro i d acc Γ hd ⟨ls,s0,rfl,hl,h1,rfl⟩
      rw [List.getElem?_map] at hd; obtain ⟨k,hk,rfl⟩:=Option.map_eq_some_iff.mp hd; have hi:=(List.getElem?_eq_some_iff.mp hk).1; rw [List.length_range] at hi; rw [List.getElem?_range hi] at hk; cases hk; simp [zab,zW,zY,zZ,zp,zQ,tC',za9,zaR,tB',zaq,zam,zbf,zI,zay,zM,zbj,zac,zv,zae,zah,zbb,zbk,zbe,zag,zbg,zat,zad,zK,zw,zx,za8,zr,zaA,zG,zai,zB,zal,zy,zE,zak,zaa,zbd,zN,zaf,zH,zav,zL,zaw,zu,zar,zC,zm,zF,zn,zaB,zg,zk,zas,zJ,zO,zaz,zbm,zaj,zf,zo,tBr,brN,zD,zz,zA,zau,zt,zan,zbh,zao,zap,zax,zbl,zaC,zf7,zkh]
      obtain ⟨y,e3,_⟩:=zke wsg (md (i:=c / (↑i+4) * 48271 % 2147483647) (n:=36) (by decide)).1 (md (i:=c / (↑i+4) * 48271 % 2147483647) (n:=36) (by decide)).2
      refine ⟨⟨by omega,by omega⟩,zbo (by decide),y,e3,ls ++ [[y]],by simp,by simp; omega,fun x hx=>?_⟩
      rcases List.mem_append.mp hx with z | z
      · exact h1 x z
      · rw [List.mem_singleton.mp z]; rfl
    · rintro acc Γ ⟨ls,s0,rfl,hl,h1,rfl⟩
      rw [List.length_map,List.length_range] at hl; refine ⟨ls,rfl,rfl,?_,hq _⟩; rw [zjI ls h1]; omega
  · obtain ⟨z,e1,_⟩:=zke [97,98,120] (md (i:=c / 3) (n:=3) (by decide)).1 (md (i:=c / 3) (n:=3) (by decide)).2
    exact .inr ⟨e,z,e1,hq _⟩
theorem zeQ:FnScope ["_law_number","_law_many"] ["_law_number"] (zj zc2):=⟨rfl,rfl,rfl,by decide +kernel,rfl,by decide +kernel,by decide +kernel⟩
theorem zhI (d:Df K mg "_law_words" zc2 ["_law_number"]) (G_law_word:Fn P w K mg base 1 "_law_word" ["_law_number"] zbV) (z_range:mg "range"=none) (z_tuple:mg "tuple"=none):Fn P w K mg base 2 "_law_words" ["_law_number"] zaV:=by
  refine d.ok zeQ (fun ds Q h=>?_) (fun f cdv A outer s H E hr ds Q h=>⟨_,(zd (zV 1 zeQ.nd (zS zcy (pv' 0) ze))
    (zh (zR (zbv zeO z_tuple PyProof.Rows.boot_tuple (za (zb4 (ziB (fsc:=zj zc2) (N:=["_law_number","_law_many"]) (N':=["_law_k","_law_number"]) (src:=[none,some 0]) (by refine ⟨rfl,?_,?_,?_,rfl,rfl⟩ <;> decide +kernel) (zeF z_range (za (pv' 1) zc)) (fun _ _ _ _ _ _=>(zaL 0 (show (["_law_k","_law_number"]:List Str).Nodup by decide +kernel))) (fun _ _ _ _ _ _=>zed) (fun _ _ _ _ _ _=>(zaJ G_law_word (hr.mono (by decide)) (za (zS zcy (zS zgk (zS zb7 (pv' 1) (zS zb8 (zS zgk ze (pv' 0)) ze)) ze) ze) zc))))) zc))))),?_⟩)
  · obtain ⟨c,rfl,_⟩:=h
    rfl
  obtain ⟨c,rfl,hq⟩:=h; simp [zab,zW,zY,zZ,zp,zQ,tC',za9,zaR,tB',zaq,zam,zbf,zI,zay,zM,zbj,zac,zv,zae,zah,zbb,zbk,zbe,zag,zbg,zat,zad,zK,zw,zx,za8,zr,zaA,zG,zai,zB,zal,zy,zE,zak,zaa,zbd,zN,zaf,zH,zav,zL,zaw,zu,zar,zC,zm,zF,zn,zaB,zg,zk,zas,zJ,zO,zaz,zbm,zaj,zf,zo,tBr,brN,zD,zz,zA,zau,zt,zan,zbh,zao,zap,zax,zbl,zaC,zbV]
  have hm:=md (i:=c) (n:=4) (by decide)
  have h36:36≤sizeLine:=zuV
  refine ⟨by omega,by omega,by omega,?_⟩
  refine zeM (fun i acc Γ=>∃ (ws:Pl) (s0:Slot),acc=ws.map .str∧ws.length=i∧Γ=[s0,.val (.int c)]) ⟨[],.emp,rfl,rfl,rfl⟩ ?_ ?_
  · rintro i d acc Γ hd ⟨ws,s0,rfl,hl,rfl⟩
    rw [List.getElem?_map] at hd; obtain ⟨k,hk,rfl⟩:=Option.map_eq_some_iff.mp hd; have hi:=(List.getElem?_eq_some_iff.mp hk).1; rw [List.length_range] at hi; rw [List.getElem?_range hi] at hk; cases hk; simp [zab,zW,zY,zZ,zp,zQ,tC',za9,zaR,tB',zaq,zam,zbf,zI,zay,zM,zbj,zac,zv,zae,zah,zbb,zbk,zbe,zag,zbg,zat,zad,zK,zw,zx,za8,zr,zaA,zG,zai,zB,zal,zy,zE,zak,zaa,zbd,zN,zaf,zH,zav,zL,zaw,zu,zar,zC,zm,zF,zn,zaB,zg,zk,zas,zJ,zO,zaz,zbm,zaj,zf,zo,tBr,brN,zD,zz,zA,zau,zt,zan,zbh,zao,zap,zax,zbl,zaC,zf7,zkh,zbV]
    exact ⟨⟨by omega,by omega⟩,fun l=>⟨ws ++ [l],by simp,by simp; omega⟩⟩
  · rintro acc Γ ⟨ws,s0,rfl,hl,rfl⟩
    rw [List.length_map,List.length_range] at hl
    exact hq ws (by omega)
theorem zhw:FnScope ["_law_number"] ["_law_number"] (zj zd2):=⟨rfl,rfl,rfl,by decide +kernel,rfl,by decide +kernel,by decide +kernel⟩
theorem zhJ (d:Df K mg "_law_label" zd2 ["_law_number"]) (z_str:mg "str"=none):Fn P w K mg base 1 "_law_label" ["_law_number"] zcD:=by
  refine d.ok zhw (fun ds Q h=>?_) (fun f cdv A outer s H E hr ds Q h=>⟨_,(zd (za2 (zU (zdw (zbH hr)) (zS zcy (pv' 0) ze) ze) (zh (zR (zbv zsJ z_str PyProof.Rows.boot_str (za (zS zb8 ze (zS zcy (zS zb7 (pv' 0) ze) ze)) zc)))) zaF)
    (zh (zR (zS zb8 (zbv zsJ z_str PyProof.Rows.boot_str (za (zS zb8 ze (zS zcy (zS zb7 (pv' 0) ze) ze)) zc)) (zT (i_A (zaG hr)) (zb4 (zb3 (za (zbK []) (za (zbK []) (za (zbK [97]) (za (zbK [98]) (za (zbK [97,97]) (za (zbK [122,122,122]) zc)))))))) (zS zcy (zS zb7 (pv' 0) ze) ze)))))),?_⟩)
  · obtain ⟨c,rfl,_⟩:=h
    rfl
  obtain ⟨c,rfl,hq⟩:=h; simp [zab,zW,zY,zZ,zp,zQ,tC',za9,zaR,tB',zaq,zam,zbf,zI,zay,zM,zbj,zac,zv,zae,zah,zbb,zbk,zbe,zag,zbg,zat,zad,zK,zw,zx,za8,zr,zaA,zG,zai,zB,zal,zy,zE,zak,zaa,zbd,zN,zaf,zH,zav,zL,zaw,zu,zar,zC,zm,zF,zn,zaB,zg,zk,zas,zJ,zO,zaz,zbm,zaj,zf,zo,tBr,brN,zD,zz,zA,zau,zt,zan,zbh,zao,zap,zax,zbl,zaC,zf7,zkh]
  by_cases e:c % 5=0
  · have hm:=md (i:=c / 5) (n:=999999999) (by decide)
    obtain ⟨n1,n2,n3,n4⟩:=M11.num_lab (n:=1+c / 5 % 999999999) (by omega) (by omega)
    refine .inr ⟨e,zhN (by omega) (by omega),hq _ ?_⟩
    have:=M11.lab_of (ls:=[]) n1 n2 n3 n4 (fun _ h=>nomatch h) (by simp)
    rwa [List.append_nil] at this
  · have hm:=md (i:=c / 5) (n:=4) (by decide)
    obtain ⟨x,e2,m2⟩:=zke [D.str [],D.str [],D.str [97],D.str [98],D.str [97,97],D.str [122,122,122]] (md (i:=c / 20) (n:=6) (by decide)).1 (md (i:=c / 20) (n:=6) (by decide)).2
    have hx:∃ l:List Nat,x=.str l∧l.length≤3∧∀ c ∈ l,sml c=true:=by
      simp only [List.mem_cons,List.not_mem_nil,or_false] at m2
      rcases m2 with rfl | rfl | rfl | rfl | rfl | rfl <;> exact ⟨_,rfl,by decide,by decide⟩
    obtain ⟨l,rfl,hl,hs⟩:=hx
    obtain ⟨n1,n2,n3,n4⟩:=M11.num_lab (n:=1+c / 5 % 4) (by omega) (by omega)
    refine .inl ⟨e,zhN (by omega) (by omega),_,e2,?_⟩
    rw [zlm]
    exact ⟨zbo (by omega),hq _ (M11.lab_of n1 n2 n3 n4 hs hl)⟩
theorem zc1:FnScope ["nodes","labels","kid"] ["nodes"] (zj zdo):=⟨rfl,rfl,rfl,by decide +kernel,rfl,by decide +kernel,by decide +kernel⟩
theorem zgU (d:Df K mg "kid_labels" zdo ["nodes"]) (G_label_rank:Fn P w K mg base 2 "label_rank" ["label"] zca) (G_kids_of_all:Fn P w K mg base 1 "kids_of_all" ["nodes"] zbZ) (z_list:mg "list"=none) (z_sorted:mg "sorted"=none):Fn P w K mg base 5 "kid_labels" ["nodes"] zcb:=by
  refine d.ok zc1 (fun ds Q h=>?_) (fun f cdv A outer s H E hr ds Q h=>⟨_,(zd (zb1 1 zc1.nd zlu)
    (zd (zbS (zbq (zaJ G_kids_of_all (hr.mono (by decide)) (za (pv' 0) zc))) (zaL 2 zc1.nd)
      (zh (zm4 (zaG hr) 1 (zT (i_A (zaG hr)) (pv' 2) ze) zeS)))
    (zh (zee (zlv (zm5 G_label_rank (hr.mono (by decide)) z_sorted (za (zb4 (zkw (zqE rfl) z_list PyProof.Rows.boot_list (za (pv' 1) zc))) zc))))))),?_⟩)
  · obtain ⟨ts,rfl,_⟩:=h
    rfl
  obtain ⟨ts,rfl,hk,h64,hp,hq⟩:=h; simp [zab,zW,zY,zZ,zp,zQ,tC',za9,zaR,tB',zaq,zam,zbf,zI,zay,zM,zbj,zac,zv,zae,zah,zbb,zbk,zbe,zag,zbg,zat,zad,zK,zw,zx,za8,zr,zaA,zG,zai,zB,zal,zy,zE,zak,zaa,zbd,zN,zaf,zH,zav,zL,zaw,zu,zar,zC,zm,zF,zn,zaB,zg,zk,zas,zJ,zO,zaz,zbm,zaj,zf,zo,tBr,brN,zD,zz,zA,zau,zt,zan,zbh,zao,zap,zax,zbl,zaC,zbZ]
  refine ⟨ts,rfl,by simpa using hk,?_⟩
  generalize hks:ts.flatMap Tr.kds=ks at hk h64 hp hq ⊢
  refine zdy (fun i Γ=>∃ s2,Γ=[.val (.tup (ts.map trD)),.own (.dic (nmD (zf9 (zaM (ks.take i))))),s2]) ⟨.emp,rfl⟩ ?_ ?_
  · rintro i d Γ hd ⟨s2,rfl⟩
    rw [List.getElem?_map] at hd
    cases hc:ks[i]? with
    | none=>rw [hc] at hd; cases hd
    | some k =>
      rw [hc] at hd; cases hd; simp [zab,zW,zY,zZ,zp,zQ,tC',za9,zaR,tB',zaq,zam,zbf,zI,zay,zM,zbj,zac,zv,zae,zah,zbb,zbk,zbe,zag,zbg,zat,zad,zK,zw,zx,za8,zr,zaA,zG,zai,zB,zal,zy,zE,zak,zaa,zbd,zN,zaf,zH,zav,zL,zaw,zu,zar,zC,zm,zF,zn,zaB,zg,zk,zas,zJ,zO,zaz,zbm,zaj,zf,zo,tBr,brN,zD,zz,zA,zau,zt,zan,zbh,zao,zap,zax,zbl,zaC]; refine ⟨⟨_,rfl⟩,_,rfl,zbE ?_,?_⟩
      · have:=zjr (zaM (ks.take i))
        rw [zc6,List.length_take] at this; omega
      · rw [List.take_succ,hc,zbB,show zaM (Option.toList (some k))=[k.lab] from rfl,zk2]
        rfl
  · rintro Γ ⟨s2,rfl⟩
    rw [show List.take (List.map trD ks).length ks=ks from List.take_of_length_le (by rw [List.length_map]; exact Nat.le_refl _)]
    simp [zab,zW,zY,zZ,zp,zQ,tC',za9,zaR,tB',zaq,zam,zbf,zI,zay,zM,zbj,zac,zv,zae,zah,zbb,zbk,zbe,zag,zbg,zat,zad,zK,zw,zx,za8,zr,zaA,zG,zai,zB,zal,zy,zE,zak,zaa,zbd,zN,zaf,zH,zav,zL,zaw,zu,zar,zC,zm,zF,zn,zaB,zg,zk,zas,zJ,zO,zaz,zbm,zaj,zf,zo,tBr,brN,zD,zz,zA,zau,zt,zan,zbh,zao,zap,zax,zbl,zaC]; refine ⟨_,rfl,?_⟩; rw [zqg]
    refine ⟨_,rfl,by simpa using h64,?_⟩
    obtain ⟨ks',lt,a,b,c,r⟩:=zhq (sp:=zca) (fun l hl=>⟨l,rfl,hl,rfl⟩) h64 (fun l hl=>by
      obtain ⟨k,hk,rfl⟩:=List.mem_map.mp ((zb9 _ _).mp hl)
      exact hp k hk) (R:=fun ds=>zuN (.lst ds)∧Q (.own (.lst ds))) ⟨fun d hd=>by
      obtain ⟨l,_,rfl⟩:=List.mem_map.mp hd; exact .str l,hq⟩
    exact ⟨ks',a,b,lt,c,r⟩
theorem zd0:FnScope ["_law_kids_here","_law_found","_law_kid"] ["_law_kids_here"] (zj zdF):=⟨rfl,rfl,rfl,by decide +kernel,rfl,by decide +kernel,by decide +kernel⟩
theorem ziP (d:Df K mg "_law_kids" zdF ["_law_kids_here"]) (G_law_rank:Fn P w K mg base 1 "_law_rank" ["_law_label_here"] zck) (z_sorted:mg "sorted"=none) (z_tuple:mg "tuple"=none):Fn P w K mg base 4 "_law_kids" ["_law_kids_here"] zbW:=by
  refine d.ok zd0 (fun ds Q h=>?_) (fun f cdv A outer s H E hr ds Q h=>⟨_,(zd (zb1 1 zd0.nd zlu)
    (zd (zbS (zbq (pv' 0)) (zaL 2 zd0.nd)
      (zh (zlq 1 (zT (i_A (zaG hr)) (pv' 2) ze) (pv' 2))))
    (zh (zR (zfw (zbv zeO z_tuple PyProof.Rows.boot_tuple (za (zb4 (ziB (fsc:=zj zdF) (N:=["_law_kids_here","_law_found","_law_kid"]) (N':=["_law_label_here","_law_found"]) (src:=[none,some 1]) (by refine ⟨rfl,?_,?_,?_,rfl,rfl⟩ <;> decide +kernel) (zbq (zb4 (zlt rfl G_law_rank (hr.mono (by decide)) z_sorted (za (pv' 1) zc)))) (fun _ _ _ _ _ _=>(zaL 0 (show (["_law_label_here","_law_found"]:List Str).Nodup by decide +kernel))) (fun _ _ _ _ _ _=>zed) (fun _ _ _ _ _ _=>(zT (zun (zaG hr)) (pv' 1) (pv' 0))))) zc))))))),?_⟩)
  · obtain ⟨d,ks,rfl,_⟩:=h
    rfl
  obtain ⟨d,ks,rfl,hd,hp,h64,hq⟩:=h
  rcases hd with rfl | rfl
  all_goals
    simp [zab,zW,zY,zZ,zp,zQ,tC',za9,zaR,tB',zaq,zam,zbf,zI,zay,zM,zbj,zac,zv,zae,zah,zbb,zbk,zbe,zag,zbg,zat,zad,zK,zw,zx,za8,zr,zaA,zG,zai,zB,zal,zy,zE,zak,zaa,zbd,zN,zaf,zH,zav,zL,zaw,zu,zar,zC,zm,zF,zn,zaB,zg,zk,zas,zJ,zO,zaz,zbm,zaj,zf,zo,tBr,brN,zD,zz,zA,zau,zt,zan,zbh,zao,zap,zax,zbl,zaC]
    refine zdy (fun i Γ=>∃ A s2:Slot,Γ=[A,.own (.dic (tdD (ddp (ks.take i)))),s2]) ⟨_,.emp,rfl⟩ ?_ ?_
    · rintro i d Γ hd ⟨A,s2,rfl⟩
      rw [List.getElem?_map] at hd
      cases hc:ks[i]? with
      | none=>rw [hc] at hd; cases hd
      | some k =>
        rw [hc] at hd; cases hd; simp [zab,zW,zY,zZ,zp,zQ,tC',za9,zaR,tB',zaq,zam,zbf,zI,zay,zM,zbj,zac,zv,zae,zah,zbb,zbk,zbe,zag,zbg,zat,zad,zK,zw,zx,za8,zr,zaA,zG,zai,zB,zal,zy,zE,zak,zaa,zbd,zN,zaf,zH,zav,zL,zaw,zu,zar,zC,zm,zF,zn,zaB,zg,zk,zas,zJ,zO,zaz,zbm,zaj,zf,zo,tBr,brN,zD,zz,zA,zau,zt,zan,zbh,zao,zap,zax,zbl,zaC]; constructor
        · have h1:=(zhd ks i (by have:=(List.getElem?_eq_some_iff.mp hc).1; omega)).len
          rw [List.length_take] at h1; unfold tdD; rw [List.length_map]
          exact zbE (by omega)
        · rw [zph,List.take_succ,hc,show Option.toList (some k)=[k] from rfl,zof]
    · rintro Γ ⟨A,s2,rfl⟩
      rw [show List.take (List.map trD ks).length ks=ks from List.take_of_length_le (by rw [List.length_map]; exact Nat.le_refl _)]
      simp [zab,zW,zY,zZ,zp,zQ,tC',za9,zaR,tB',zaq,zam,zbf,zI,zay,zM,zbj,zac,zv,zae,zah,zbb,zbk,zbe,zag,zbg,zat,zad,zK,zw,zx,za8,zr,zaA,zG,zai,zB,zal,zy,zE,zak,zaa,zbd,zN,zaf,zH,zav,zL,zaw,zu,zar,zC,zm,zF,zn,zaB,zg,zk,zas,zJ,zO,zaz,zbm,zaj,zf,zo,tBr,brN,zD,zz,zA,zau,zt,zan,zbh,zao,zap,zax,zbl,zaC]; exact zi1 hp h64 hq
end
end K84
namespace K84
open PySem L2 Lb PL MT M04 MS M70 M71 M81 M73 M72 M74 M82 M83 M84 M85 M86 M87
theorem zji {α:Type} (xs:List α) (lo hi:Option Int):(zcV xs lo hi).Sublist xs:=by
  unfold zcV; exact (List.take_sublist _ _).trans (List.drop_sublist _ _)
theorem zjj {ks:List Tr} {l:List Nat} {R:List D→Prop} (h:R ((ks.filter fun k=>decide (k.lab=l)).map trD)):zdg (zp 0) (tB' (zaR ziy (zaR zfr (zQ 0) (tC' (D.int 0))) (zQ 1))) (zQ 0) R (ks.map trD) [] [Slot.emp,Slot.val (D.str l)]:=by
  refine zeM (fun i a Γ=>∃ s0,a=((ks.take i).filter fun k=>decide (k.lab=l)).map trD∧Γ=[s0,.val (.str l)]) ⟨.emp,rfl,rfl⟩ ?_ ?_
  · rintro i d a Γ hd ⟨s0,rfl,rfl⟩
    rw [List.getElem?_map] at hd
    cases hc:ks[i]? with
    | none=>rw [hc] at hd; cases hd
    | some k =>
      rw [hc] at hd; cases hd; simp [zab,zW,zY,zZ,zp,zQ,tC',za9,zaR,tB',zaq,zam,zbf,zI,zay,zM,zbj,zac,zv,zae,zah,zbb,zbk,zbe,zag,zbg,zat,zad,zK,zw,zx,za8,zr,zaA,zG,zai,zB,zal,zy,zE,zak,zaa,zbd,zN,zaf,zH,zav,zL,zaw,zu,zar,zC,zm,zF,zn,zaB,zg,zk,zas,zJ,zO,zaz,zbm,zaj,zf,zo,tBr,brN,zD,zz,zA,zau,zt,zan,zbh,zao,zap,zax,zbl,zaC]; rw [List.take_succ,hc,List.filter_append]
      by_cases e:k.lab=l
      · exact .inr ⟨e,by simp [e]⟩
      · exact .inl ⟨e,by simp [e]⟩
  · rintro a Γ ⟨s0,rfl,rfl⟩
    rw [show List.take (List.map trD ks).length ks=ks from List.take_of_length_le (by rw [List.length_map]; exact Nat.le_refl _)]
    exact h
theorem zok {q:Pl} (h:q≠[]):atI (q.map D.str) (-1)=some (.str (zem q)):=by
  have e:=List.dropLast_concat_getLast h
  have e2:zem q=q.getLast h:=by unfold zem; rw [List.getLast?_eq_some_getLast h]; rfl
  rw [e2]
  conv=>lhs; rw [← e,List.map_append,List.map_singleton]
  exact zol _ _
theorem zml {ks : List Tr} {p : Pl} {R : List D → Prop} (hp : p ≠ []) (h : R ((ks.filter fun k => decide (k.lab ≠ zem p)).map trD)) : zdg (zp 0)
                            (tB'
                              (zaR zlk (zaR zfr (zQ 0) (tC' (D.int 0)))
                                (zaR zfr (zQ 1) (tC' (D.int (-1))))))
                            (zQ 0) R (ks.map trD) [] [Slot.emp,Slot.val (plc p)]:=by
  refine zeM (fun i a Γ=>∃ s0,a=((ks.take i).filter fun k=>decide (k.lab≠zem p)).map trD∧Γ=[s0,.val (plc p)]) ⟨.emp,rfl,rfl⟩ ?_ ?_
  · rintro i d a Γ hd ⟨s0,rfl,rfl⟩
    rw [List.getElem?_map] at hd
    cases hc:ks[i]? with
    | none=>rw [hc] at hd; cases hd
    | some k =>
      rw [hc] at hd; cases hd; simp [zab,zW,zY,zZ,zp,zQ,tC',za9,zaR,tB',zaq,zam,zbf,zI,zay,zM,zbj,zac,zv,zae,zah,zbb,zbk,zbe,zag,zbg,zat,zad,zK,zw,zx,za8,zr,zaA,zG,zai,zB,zal,zy,zE,zak,zaa,zbd,zN,zaf,zH,zav,zL,zaw,zu,zar,zC,zm,zF,zn,zaB,zg,zk,zas,zJ,zO,zaz,zbm,zaj,zf,zo,tBr,brN,zD,zz,zA,zau,zt,zan,zbh,zao,zap,zax,zbl,zaC]; refine ⟨_,zok hp,?_⟩; rw [List.take_succ,hc,List.filter_append]
      by_cases e:k.lab=zem p
      · simp [e]
      · simp [e]
  · rintro a Γ ⟨s0,rfl,rfl⟩
    rw [show List.take (List.map trD ks).length ks=ks from List.take_of_length_le (by rw [List.length_map]; exact Nat.le_refl _)]
    exact h
theorem zh0:∀ (ks:List Tr) (l:List Nat),(ks.filter fun k=>decide (k.lab=l)).head?=zb l ks
  | [],l=>rfl
  | k :: ks,l=>by
    unfold zb; rw [List.filter_cons,List.find?_cons]
    by_cases e:k.lab=l
    · simp [e]
    · simp only [e,decide_false,Bool.false_eq_true,if_false]
      exact zh0 ks l
theorem zqI:Wf 0 1 (.node [] [] []):=zlS (by simp)
section
variable {P:Program} {w:World} {K:PySem.W.Frag} {mg:Str→Option Value} {base:Heap}
theorem zcq:FnScope ["_law_number","_law_inner","_law_beneath","_law_other","_law_kids_here"] ["_law_number"] (zj zeA):=⟨rfl,rfl,rfl,by decide +kernel,rfl,by decide +kernel,by decide +kernel⟩
theorem ziN (d:Df K mg "_law_node" zeA ["_law_number"]) (G_law_words:Fn P w K mg base 2 "_law_words" ["_law_number"] zaV) (G_law_label:Fn P w K mg base 1 "_law_label" ["_law_number"] zcD) (G_law_kids:Fn P w K mg base 4 "_law_kids" ["_law_kids_here"] zbW):Fn P w K mg base 5 "_law_node" ["_law_number"] zdW:=by
  refine d.ok zcq (fun ds Q h=>?_) (fun f cdv A outer s H E hr ds Q h=>⟨_,(zd (zV 1 zcq.nd (zaI (za (zaJ G_law_label (hr.mono (by decide)) (za (zS zcy (zS zgk (pv' 0) ze) ze) zc)) (za (zaJ G_law_words (hr.mono (by decide)) (za (zS zb7 (pv' 0) ze) zc)) (za (zaI zc) zc)))))
    (zd (zV 2 zcq.nd (zaJ G_law_kids (hr.mono (by decide)) (za (zcw s_A (zb4 (zb3 (za (pv' 1) zc))) zeH (zdu (zS zcy (zS zb7 (pv' 0) ze) ze))) zc)))
    (zd (zV 3 zcq.nd (zaI (za (zaJ G_law_label (hr.mono (by decide)) (za (zS zcy (zS zgk (pv' 0) ze) ze) zc)) (za (zaJ G_law_words (hr.mono (by decide)) (za (zS zb7 (pv' 0) ze) zc)) (za (pv' 2) zc)))))
    (zd (zV 4 zcq.nd (zaJ G_law_kids (hr.mono (by decide)) (za (zcw s_A (zb4 (zb3 (za (pv' 1) (za (pv' 3) zc)))) zeH (zdu (zS zcy (zS zb7 (pv' 0) ze) ze))) zc)))
    (zh (zR (zaI (za (zaJ G_law_label (hr.mono (by decide)) (za (pv' 0) zc)) (za (zaJ G_law_words (hr.mono (by decide)) (za (zS zb7 (pv' 0) ze) zc)) (za (pv' 4) zc)))))))))),?_⟩)
  · obtain ⟨c,rfl,_⟩:=h
    rfl
  obtain ⟨c,rfl,hq⟩:=h; simp [zab,zW,zY,zZ,zp,zQ,tC',za9,zaR,tB',zaq,zam,zbf,zI,zay,zM,zbj,zac,zv,zae,zah,zbb,zbk,zbe,zag,zbg,zat,zad,zK,zw,zx,za8,zr,zaA,zG,zai,zB,zal,zy,zE,zak,zaa,zbd,zN,zaf,zH,zav,zL,zaw,zu,zar,zC,zm,zF,zn,zaB,zg,zk,zas,zJ,zO,zaz,zbm,zaj,zf,zo,tBr,brN,zD,zz,zA,zau,zt,zan,zbh,zao,zap,zax,zbl,zaC,zf7,zkh,zcD,zaV,zbW]; intro l1 p1 ws1 w1
  have ei:D.tup [D.str l1,plc ws1,plc []]=trD (.node l1 ws1 []):=by rw [zbi]; rfl
  generalize hI:Tr.node l1 ws1 []=I at ei
  have wI:Wf 1 1 I:=by rw [← hI]; exact zlS (by omega)
  have lI:zX I.lab=true:=by rw [← hI]; exact p1
  have cI:cnt I=1:=by rw [← hI]; rfl
  have hx:=zji [I] none (some (c / 3 % 2)); rw [ei]
  refine ⟨zcV [I] none (some (c / 3 % 2)),by rw [← zc9]; rfl,fun k hk=>?_,by have:=hx.length_le; simp at this; omega,?_⟩
  · have:=hx.subset hk
    rw [List.mem_singleton.mp this]; exact lI
  generalize zcV [I] none (some (c / 3 % 2))=xs at hx
  have hxs:∀ k ∈ xs,k=I:=fun k hk=>List.mem_singleton.mp (hx.subset hk)
  have okx:KidsOk xs (zdf xs):=zdN fun k hk=>by rw [hxs k hk]; exact lI
  intro l2 p2 ws2 w2
  have eo:D.tup [D.str l2,plc ws2,D.tup (List.map trD (zdf xs))]=trD (.node l2 ws2 (zdf xs)):=by rw [zbi]; rfl
  have wO:Wf 1 2 (.node l2 ws2 (zdf xs)):=ziT okx (fun k hk=>by rw [hxs k hk]; exact wI) (fun k hk=>by rw [hxs k hk]; exact lI) (by have:=hx.length_le; simp at this; omega) (by omega)
  have cO:cnt (.node l2 ws2 (zdf xs))≤2:=by
    rw [zjM]; have h1:=okx.cnt; have h2:=zgx cnt hx; simp [cI] at h2; omega
  rw [eo]
  have lO:zX (Tr.node l2 ws2 (zdf xs)).lab=true:=p2
  generalize Tr.node l2 ws2 (zdf xs)=O at wO cO lO; have hy:=zji [I,O] none (some (c / 2 % 3)); have hyl:=hy.length_le; have hyc:=zgx cnt hy; simp [cI] at hyc; simp only [List.length_cons,List.length_nil] at hyl
  refine ⟨zcV [I,O] none (some (c / 2 % 3)),by rw [← zc9]; rfl,fun k hk=>?_,by omega,?_⟩
  · have:=hy.subset hk
    simp only [List.mem_cons,List.not_mem_nil,or_false] at this
    rcases this with rfl | rfl
    · exact lI
    · exact lO
  generalize zcV [I,O] none (some (c / 2 % 3))=ys at hy hyl hyc
  have hys:∀ k ∈ ys,Wf 1 2 k∧zX k.lab=true:=fun k hk=>by
    have:=hy.subset hk
    simp only [List.mem_cons,List.not_mem_nil,or_false] at this
    rcases this with rfl | rfl
    · exact ⟨wI.up (Nat.le_refl _) (by omega),lI⟩
    · exact ⟨wO,lO⟩
  have oky:KidsOk ys (zdf ys):=zdN fun k hk=>(hys k hk).2
  intro l3 p3 ws3 w3
  have:=hq (.node l3 ws3 (zdf ys)) (ziT oky (fun k hk=>(hys k hk).1) (fun k hk=>(hys k hk).2) (by omega) (by omega)) p3 (by
    rw [zjM]; have h1:=oky.cnt
    omega)
  rw [zbi] at this; exact this
theorem zbR:FnScope ["_law_node_here","_law_place","_law_found","_law_kid"] ["_law_node_here","_law_place"] (zj zdm):=⟨rfl,rfl,rfl,by decide +kernel,rfl,by decide +kernel,by decide +kernel⟩
theorem zgR (d:Df K mg "_law_places" zdm ["_law_node_here","_law_place"]):∀ n:Nat,Fn P w K mg base (n+1) "_law_places" ["_law_node_here","_law_place"] (zbn n):=by
  intro n
  induction n with
  | zero=>exact d.ok (k:=0) zbR (fun ds Q h=>(show False from h).elim) (fun f cdv A outer s H E hr ds Q h=>(show False from h).elim)
  | succ n ih =>
  have G_law_places:Fn P w K mg base (n+1) "_law_places" ["_law_node_here","_law_place"] (zbn n):=ih
  refine d.ok (k:=n+1) zbR (fun ds Q h=>?_) (fun f cdv A outer s H E hr ds Q h=>⟨_,(zd (zV 2 zbR.nd (zb4 (zb3 (za (pv' 1) zc))))
    (zd (zbS (zbq (zT (i_A (zaG hr)) (pv' 0) ze)) (zaL 3 zbR.nd)
      (zh (zV 2 zbR.nd (zb4 (zhC zhL (pv' 2) (zaJ G_law_places (hr.mono (by omega)) (za (pv' 3) (za (zS zb8 (pv' 1) (zaI (za (zT (i_A (zaG hr)) (pv' 3) ze) zc))) zc))))))))
    (zh (zR (pv' 2))))),?_⟩)
  · obtain ⟨t,p,c,rfl,_⟩:=h
    rfl
  obtain ⟨t,p,c,rfl,hw,hpl,hc63,hq⟩:=h; simp [zab,zW,zY,zZ,zp,zQ,tC',za9,zaR,tB',zaq,zam,zbf,zI,zay,zM,zbj,zac,zv,zae,zah,zbb,zbk,zbe,zag,zbg,zat,zad,zK,zw,zx,za8,zr,zaA,zG,zai,zB,zal,zy,zE,zak,zaa,zbd,zN,zaf,zH,zav,zL,zaw,zu,zar,zC,zm,zF,zn,zaB,zg,zk,zas,zJ,zO,zaz,zbm,zaj,zf,zo,tBr,brN,zD,zz,zA,zau,zt,zan,zbh,zao,zap,zax,zbl,zaC]
  have hb:∀ i,(p :: (t.kds.take i).flatMap fun k=>zde k (p ++ [k.lab])).length≤63:=fun i=>by
    have h1:=zc5 t p; rw [zd4] at h1
    have h2:t.kds.flatMap (fun k=>zde k (p ++ [k.lab]))=(t.kds.take i).flatMap (fun k=>zde k (p ++ [k.lab])) ++ (t.kds.drop i).flatMap fun k=>zde k (p ++ [k.lab]):=by
      rw [← List.flatMap_append,List.take_append_drop]
    rw [h2] at h1; simp only [List.length_cons,List.length_append] at h1 ⊢; omega
  refine zdy (fun i Γ=>∃ s3,Γ=[.val (trD t),.val (plc p),.val (.lst ((p :: (t.kds.take i).flatMap fun k=>zde k (p ++ [k.lab])).map plc)),s3]) ⟨.emp,by simp⟩ ?_ ?_
  · rintro i d Γ hd ⟨s3,rfl⟩
    rw [List.getElem?_map] at hd
    cases hc:t.kds[i]? with
    | none=>rw [hc] at hd; cases hd
    | some k =>
      rw [hc] at hd; cases hd; have hm:=List.mem_of_getElem? hc; have hk:=hw.kid k hm; obtain ⟨m,rfl⟩:=hk.pos; have hb1:=hb (i+1)
      have e1:(t.kds.take (i+1)).flatMap (fun k=>zde k (p ++ [k.lab]))=(t.kds.take i).flatMap (fun k=>zde k (p ++ [k.lab])) ++ zde k (p ++ [k.lab]):=by
        rw [List.take_succ,hc,List.flatMap_append]; simp
      rw [e1] at hb1 ⊢
      have hck:cnt k≤63:=by
        rw [← zc5 k (p ++ [k.lab])]
        simp only [List.length_cons,List.length_append] at hb1; omega
      simp [zab,zW,zY,zZ,zp,zQ,tC',za9,zaR,tB',zaq,zam,zbf,zI,zay,zM,zbj,zac,zv,zae,zah,zbb,zbk,zbe,zag,zbg,zat,zad,zK,zw,zx,za8,zr,zaA,zG,zai,zB,zal,zy,zE,zak,zaa,zbd,zN,zaf,zH,zav,zL,zaw,zu,zar,zC,zm,zF,zn,zaB,zg,zk,zas,zJ,zO,zaz,zbm,zaj,zf,zo,tBr,brN,zD,zz,zA,zau,zt,zan,zbh,zao,zap,zax,zbl,zaC,zbn]
      refine ⟨zbo (by omega),k,_,⟨rfl,rfl⟩,⟨c,hk⟩,by simp; omega,hck,_,_,rfl,rfl,zbo ?_,by simp [OD.toD]⟩
      simp only [List.length_cons,List.length_append,List.length_map] at hb1 ⊢; omega
  · rintro Γ ⟨s3,rfl⟩
    rw [show List.take (List.map trD t.kds).length t.kds=t.kds from List.take_of_length_le (by rw [List.length_map]; exact Nat.le_refl _),← zd4]
    simp [zab,zW,zY,zZ,zp,zQ,tC',za9,zaR,tB',zaq,zam,zbf,zI,zay,zM,zbj,zac,zv,zae,zah,zbb,zbk,zbe,zag,zbg,zat,zad,zK,zw,zx,za8,zr,zaA,zG,zai,zB,zal,zy,zE,zak,zaa,zbd,zN,zaf,zH,zav,zL,zaw,zu,zar,zC,zm,zF,zn,zaB,zg,zk,zas,zJ,zO,zaz,zbm,zaj,zf,zo,tBr,brN,zD,zz,zA,zau,zt,zan,zbh,zao,zap,zax,zbl,zaC]; exact hq
theorem zd9:FnScope ["_law_node_here","_law_place","_law_label_here","_law_some"] ["_law_node_here","_law_place"] (zj ze1):=⟨rfl,rfl,rfl,by decide +kernel,rfl,by decide +kernel,by decide +kernel⟩
theorem zlF (d:Df K mg "_law_at" ze1 ["_law_node_here","_law_place"]):Fn P w K mg base 1 "_law_at" ["_law_node_here","_law_place"] zcn:=by
  refine d.ok zd9 (fun ds Q h=>?_) (fun f cdv A outer s H E hr ds Q h=>⟨_,(zd (zbS (zbq (pv' 1)) (zaL 2 zd9.nd)
      (zd (ze4 3 zd9.nd (zec (fsc:=zj ze1) (N:=["_law_node_here","_law_place","_law_label_here","_law_some"]) (N':=["_law_kid","_law_label_here"]) (src:=[none,some 2]) (by refine ⟨rfl,?_,?_,?_,rfl,rfl⟩ <;> decide +kernel) (zbq (zT (i_A (zaG hr)) (pv' 0) ze)) (fun _ _ _ _ _ _=>(zaL 0 (show (["_law_kid","_law_label_here"]:List Str).Nodup by decide +kernel))) (fun _ _ _ _ _ _=>(zgG (zU (zdw (zbH hr)) (zT (i_A (zaG hr)) (pv' 0) ze) (pv' 1)))) (fun _ _ _ _ _ _=>(pv' 0))))
    (zd (za2 (zU (zdw (zbH hr)) (pv' 3) (zb4 (zb3 zc))) (zh (zR zbA)) zaF)
    (zh (zV 0 zd9.nd (zT (i_A (zaG hr)) (pv' 3) ze))))))
    (zh (zR (pv' 0)))),?_⟩)
  · obtain ⟨t,p,c,n,rfl,_⟩:=h
    rfl
  obtain ⟨t,p,c,n,rfl,hw,hc,hq⟩:=h; simp [zab,zW,zY,zZ,zp,zQ,tC',za9,zaR,tB',zaq,zam,zbf,zI,zay,zM,zbj,zac,zv,zae,zah,zbb,zbk,zbe,zag,zbg,zat,zad,zK,zw,zx,za8,zr,zaA,zG,zai,zB,zal,zy,zE,zak,zaa,zbd,zN,zaf,zH,zav,zL,zaw,zu,zar,zC,zm,zF,zn,zaB,zg,zk,zas,zJ,zO,zaz,zbm,zaj,zf,zo,tBr,brN,zD,zz,zA,zau,zt,zan,zbh,zao,zap,zax,zbl,zaC]
  have key:∀ (p:Pl) (t:Tr) (n:Nat) (B s2 s3:Slot),Wf c n t→Q (.val (zb6 (zq t p)))→zim (zp 2)
    (zab
      (zZ
        (za9
          (zw (zad (zaR zfr (zQ 0) (tC' (D.int 2)))) [none,some 2] (zp 0)
            (tB' (zaR ziy (zaR zfr (zQ 0) (tC' (D.int 0))) (zQ 1))) (zQ 0)))
        (zp 3))
      (zab (zY (tB' (zaR ziy (zQ 3) (za9 (zah zac)))) (zW (tC' D.non)) zr)
        (zZ (zaR zfr (zQ 3) (tC' (D.int 0))) (zp 0))))
    { nx:=zW (zQ 0) { nx:=fun x=>Q (Res.val D.non),rt:=fun r x=>Q r },rt:=fun r x=>Q r }
    (List.map D.str p) [Slot.val (trD t),B,s2,s3]:=by
    intro p
    induction p with
    | nil=>intro t n B s2 s3 _ q; simpa [zim,zW,zQ,zq,zb6] using q
    | cons l p ih =>
      intro t n B s2 s3 hw q; have hf:=hw.few; simp only [List.map_cons,zim]; simp [zab,zW,zY,zZ,zp,zQ,tC',za9,zaR,tB',zaq,zam,zbf,zI,zay,zM,zbj,zac,zv,zae,zah,zbb,zbk,zbe,zag,zbg,zat,zad,zK,zw,zx,za8,zr,zaA,zG,zai,zB,zal,zy,zE,zak,zaa,zbd,zN,zaf,zH,zav,zL,zaw,zu,zar,zC,zm,zF,zn,zaB,zg,zk,zas,zJ,zO,zaz,zbm,zaj,zf,zo,tBr,brN,zD,zz,zA,zau,zt,zan,zbh,zao,zap,zax,zbl,zaC]
      refine ⟨zbo (by omega),zjj ?_⟩
      have hh:=zh0 t.kds l; obtain ⟨m,rfl⟩:=hw.pos
      cases hfil:t.kds.filter fun k=>decide (k.lab=l) with
      | nil =>
        rw [hfil] at hh
        have:zq t (l :: p)=none:=by simp [zq,← hh]
        rw [this] at q; exact ⟨true,rfl,.inr ⟨rfl,q⟩⟩
      | cons k r =>
        rw [hfil] at hh
        have hk:zb l t.kds=some k:=hh.symm
        have:zq t (l :: p)=zq k p:=by simp [zq,hk]
        rw [this] at q
        exact ⟨false,rfl,.inl ⟨rfl,_,(show atI _ ((0:Nat):Int)=_ from zda rfl),ih k m _ _ _ (hw.kw hk) q⟩⟩
  exact key _ _ _ _ _ _ hw hq
theorem zcr:FnScope ["_law_node_here","_law_place","_law_words_here","_law_kids_here","_law_some","_law_kid"] ["_law_node_here","_law_place","_law_words_here","_law_kids_here"] (zj zeB):=⟨rfl,rfl,rfl,by decide +kernel,rfl,by decide +kernel,by decide +kernel⟩
theorem ziO (d:Df K mg "_law_made" zeB ["_law_node_here","_law_place","_law_words_here","_law_kids_here"]) (z_tuple:mg "tuple"=none):∀ n:Nat,Fn P w K mg base (n+1) "_law_made" ["_law_node_here","_law_place","_law_words_here","_law_kids_here"] (zaH n):=by
  intro n
  induction n with
  | zero=>exact d.ok (k:=0) zcr (fun ds Q h=>(show False from h).elim) (fun f cdv A outer s H E hr ds Q h=>(show False from h).elim)
  | succ n ih =>
  have G_law_made:Fn P w K mg base (n+1) "_law_made" ["_law_node_here","_law_place","_law_words_here","_law_kids_here"] (zaH n):=ih
  refine d.ok (k:=n+1) zcr (fun ds Q h=>?_) (fun f cdv A outer s H E hr ds Q h=>⟨_,(zd (za2 (zU (zdw (zbH hr)) (pv' 1) (zaI zc)) (zh (zR (zaI (za (zT (i_A (zaG hr)) (pv' 0) ze) (za (pv' 2) (za (pv' 3) zc)))))) zaF)
    (zd (zb1 4 zcr.nd (zb3 zc))
    (zd (zbS (zbq (zT (i_A (zaG hr)) (pv' 0) ze)) (zaL 5 zcr.nd)
      (zd (za2 (zU (zdw (zbH hr)) (zT (i_A (zaG hr)) (pv' 5) ze) (zT (i_A (zaG hr)) (pv' 1) ze)) (zh (zV 5 zcr.nd (zaJ G_law_made (hr.mono (by omega)) (za (pv' 5) (za (zcw s_A (pv' 1) (zdu ze) zeH) (za (pv' 2) (za (pv' 3) zc))))))) zaF)
    (zh (zdI 4 (pv' 5)))))
    (zh (zR (zfw (zaI (za (zT (i_A (zaG hr)) (pv' 0) ze) (za (zT (i_A (zaG hr)) (pv' 0) ze) (za (zbv zeO z_tuple PyProof.Rows.boot_tuple (za (pv' 4) zc)) zc)))))))))),?_⟩)
  · obtain ⟨t,p,ws,ks,c,m,rfl,_⟩:=h
    rfl
  obtain ⟨t,p,ws,ks,c,m,rfl,hw,hc,hn,hq⟩:=h; simp [zab,zW,zY,zZ,zp,zQ,tC',za9,zaR,tB',zaq,zam,zbf,zI,zay,zM,zbj,zac,zv,zae,zah,zbb,zbk,zbe,zag,zbg,zat,zad,zK,zw,zx,za8,zr,zaA,zG,zai,zB,zal,zy,zE,zak,zaa,zbd,zN,zaf,zH,zav,zL,zaw,zu,zar,zC,zm,zF,zn,zaB,zg,zk,zas,zJ,zO,zaz,zbm,zaj,zf,zo,tBr,brN,zD,zz,zA,zau,zt,zan,zbh,zao,zap,zax,zbl,zaC]
  cases p with
  | nil =>
    refine .inr ⟨rfl,?_⟩; rw [zbi] at hq; exact hq
  | cons l p =>
    obtain ⟨n,rfl⟩:∃ n',n=n'+1:=⟨n-1,by simp at hn; omega⟩
    obtain ⟨m,rfl⟩:=hw.pos; have hf:=hw.few
    refine .inl ⟨by simp,?_⟩
    refine zdy (fun i Γ=>∃ s5,Γ=[.val (trD t),.val (plc (l :: p)),.val (plc ws),.val (.tup (ks.map trD)),.own (.lst (((t.kds.take i).map fun k=>if k.lab=l then made k p ws ks else k).map trD)),s5]) ⟨.emp,rfl⟩ ?_ ?_
    · rintro i d Γ hd ⟨s5,rfl⟩
      rw [List.getElem?_map] at hd
      cases hc':t.kds[i]? with
      | none=>rw [hc'] at hd; cases hd
      | some k =>
        rw [hc'] at hd; cases hd; have hm:=List.mem_of_getElem? hc'; simp [zab,zW,zY,zZ,zp,zQ,tC',za9,zaR,tB',zaq,zam,zbf,zI,zay,zM,zbj,zac,zv,zae,zah,zbb,zbk,zbe,zag,zbg,zat,zad,zK,zw,zx,za8,zr,zaA,zG,zai,zB,zal,zy,zE,zak,zaa,zbd,zN,zaf,zH,zav,zL,zaw,zu,zar,zC,zm,zF,zn,zaB,zg,zk,zas,zJ,zO,zaz,zbm,zaj,zf,zo,tBr,brN,zD,zz,zA,zau,zt,zan,zbh,zao,zap,zax,zbl,zaC,zaH]
        by_cases e:k.lab=l
        · refine .inr ⟨e,k,p,ws,ks,⟨rfl,?_,rfl,rfl⟩,c,⟨m,hw.kid k hm⟩,hc,by simp at hn; omega,zbE (by omega),?_⟩
          · show zcV (l :: p) (some ((1:Nat):Int)) none=p
            rw [zh5]; rfl
          · rw [List.take_succ,List.getElem?_map,hc']
            simp [e]
        · refine .inl ⟨e,zbE (by omega),?_⟩
          rw [List.take_succ,List.getElem?_map,hc']; simp [e]
    · rintro Γ ⟨s5,rfl⟩
      rw [show List.take (List.map trD t.kds).length t.kds=t.kds from List.take_of_length_le (by rw [List.length_map]; exact Nat.le_refl _)]
      simp [zab,zW,zY,zZ,zp,zQ,tC',za9,zaR,tB',zaq,zam,zbf,zI,zay,zM,zbj,zac,zv,zae,zah,zbb,zbk,zbe,zag,zbg,zat,zad,zK,zw,zx,za8,zr,zaA,zG,zai,zB,zal,zy,zE,zak,zaa,zbd,zN,zaf,zH,zav,zL,zaw,zu,zar,zC,zm,zF,zn,zaB,zg,zk,zas,zJ,zO,zaz,zbm,zaj,zf,zo,tBr,brN,zD,zz,zA,zau,zt,zan,zbh,zao,zap,zax,zbl,zaC]
      have e2:trD (made t (l :: p) ws ks)=D.tup [D.str t.lab,plc t.wds,D.tup (List.map (trD ∘ fun k=>if k.lab=l then made k p ws ks else k) t.kds)]:=by
        simp only [made]; rw [zbi]
        show D.tup [_,_,D.tup (List.map trD (List.map _ t.kds))]=_
        rw [List.map_map]; rfl
      rw [← e2]; exact ⟨zeo _,hq⟩
theorem zaD:FnScope ["_law_tree_here","_law_cell","_law_number","_law_spots","_law_place","_law_node_here","_law_kid","_law_way","_law_room","_law_above","_law_left","_law_old","_law_at_here","_law_new"] ["_law_tree_here","_law_cell"] (zj zcd):=⟨rfl,rfl,rfl,by decide +kernel,rfl,by decide +kernel,by decide +kernel⟩
theorem zf5 (d:Df K mg "_law_changed" zcd ["_law_tree_here","_law_cell"]) (G_law_mix:Fn P w K mg base 1 "_law_mix" ["_law_cell","_law_factor"] zcP) (G_law_words:Fn P w K mg base 2 "_law_words" ["_law_number"] zaV) (G_law_kids:Fn P w K mg base 4 "_law_kids" ["_law_kids_here"] zbW) (G_law_node:Fn P w K mg base 5 "_law_node" ["_law_number"] zdW) (G_law_places:Fn P w K mg base 11 "_law_places" ["_law_node_here","_law_place"] (zbn 10)) (G_law_at:Fn P w K mg base 1 "_law_at" ["_law_node_here","_law_place"] zcn) (G_law_made:Fn P w K mg base 11 "_law_made" ["_law_node_here","_law_place","_law_words_here","_law_kids_here"] (zaH 10)) (z_len:mg "len"=none) (z_tuple:mg "tuple"=none):Fn P w K mg base 12 "_law_changed" ["_law_tree_here","_law_cell"] za6:=by
  refine d.ok zaD (fun ds Q h=>?_) (fun f cdv A outer s H E hr ds Q h=>⟨_,(zd (zV 2 zaD.nd (zaJ G_law_mix (hr.mono (by decide)) (za (pv' 1) (za ze zc))))
    (zd (zV 3 zaD.nd (zaJ G_law_places (hr.mono (by decide)) (za (pv' 0) (za (zaI zc) zc))))
    (zd (zV 4 zaD.nd (zT (i_A (zaG hr)) (pv' 3) (zS zcy (zaJ G_law_mix (hr.mono (by decide)) (za (pv' 1) (za ze zc))) (zaN zdc z_len PySem.boot_len (za (pv' 3) zc)))))
    (zd (zV 5 zaD.nd (zaJ G_law_at (hr.mono (by decide)) (za (pv' 0) (za (pv' 4) zc))))
    (zd (zV 6 zaD.nd (zaJ G_law_node (hr.mono (by decide)) (za (zaJ G_law_mix (hr.mono (by decide)) (za (pv' 1) (za ze zc))) zc)))
    (zd (zV 7 zaD.nd (zS zcy (pv' 2) ze))
    (zd (zV 8 zaD.nd (zlB (zgP zqT (zaN zdc z_len PySem.boot_len (za (pv' 4) zc)) ze) (zlz (zgP zqT (zaN zdc z_len PySem.boot_len (za (pv' 3) zc)) ze))))
    (zd (za2 (PW'.pt (zd3 (zU zqT (pv' 7) ze) (zd3 (zeE (pv' 8)) (zeb (zU ziS (zaJ G_law_at (hr.mono (by decide)) (za (pv' 5) (za (zaI (za (zT (i_A (zaG hr)) (pv' 6) ze) zc)) zc))) zbA))))) (zh (zR (zaJ G_law_made (hr.mono (by decide)) (za (pv' 0) (za (pv' 4) (za (zT (i_A (zaG hr)) (pv' 5) ze) (za (zaJ G_law_kids (hr.mono (by decide)) (za (zS zb8 (zT (i_A (zaG hr)) (pv' 5) ze) (zaI (za (pv' 6) zc))) zc)) zc))))))) zaF)
    (zd (za2 (PW'.pt (zd3 (zU (zdw (zbH hr)) (pv' 7) ze) (zeb (zU (zfF (zbH hr)) (pv' 4) (zaI zc))))) (zd (zV 9 zaD.nd (zaJ G_law_at (hr.mono (by decide)) (za (pv' 0) (za (zcw s_A (pv' 4) zeH (zdu zeG)) zc))))
    (zd (ze4 10 zaD.nd (zec (fsc:=zj zcd) (N:=["_law_tree_here","_law_cell","_law_number","_law_spots","_law_place","_law_node_here","_law_kid","_law_way","_law_room","_law_above","_law_left","_law_old","_law_at_here","_law_new"]) (N':=["_law_one","_law_place"]) (src:=[none,some 4]) (by refine ⟨rfl,?_,?_,?_,rfl,rfl⟩ <;> decide +kernel) (zbq (zT (i_A (zaG hr)) (pv' 9) ze)) (fun _ _ _ _ _ _=>(zaL 0 (show (["_law_one","_law_place"]:List Str).Nodup by decide +kernel))) (fun _ _ _ _ _ _=>(zgG (zU (zfF (zbH hr)) (zT (i_A (zaG hr)) (pv' 0) ze) (zT (i_A (zaG hr)) (pv' 1) zeG)))) (fun _ _ _ _ _ _=>(pv' 0))))
    (zh (zR (zaJ G_law_made (hr.mono (by decide)) (za (pv' 0) (za (zcw s_A (pv' 4) zeH (zdu zeG)) (za (zT (i_A (zaG hr)) (pv' 9) ze) (za (zbv zeO z_tuple PyProof.Rows.boot_tuple (za (pv' 10) zc)) zc))))))))) zaF)
    (zd (za2 (PW'.pt (zd3 (zU (zdw (zbH hr)) (pv' 7) ze) (zeb (zU (zfF (zbH hr)) (zT (i_A (zaG hr)) (pv' 5) ze) (zaI zc))))) (zd (zV 11 zaD.nd (zT (i_A (zaG hr)) (pv' 5) ze))
    (zd (zV 12 zaD.nd (zS zcy (zS zb7 (pv' 2) ze) (zaN zdc z_len PySem.boot_len (za (pv' 11) zc))))
    (zd (zV 13 zaD.nd (zS zb8 (zS zb8 (zcw s_A (pv' 11) zeH (zdu (pv' 12))) (zaJ G_law_words (hr.mono (by decide)) (za (zS zb7 (pv' 2) ze) zc))) (zcw s_A (pv' 11) (zdu (zS zb8 (pv' 12) ze)) zeH)))
    (zh (zR (zaJ G_law_made (hr.mono (by decide)) (za (pv' 0) (za (pv' 4) (za (pv' 13) (za (zT (i_A (zaG hr)) (pv' 5) ze) zc)))))))))) zaF)
    (zh (zR (zaJ G_law_made (hr.mono (by decide)) (za (pv' 0) (za (pv' 4) (za (zaJ G_law_words (hr.mono (by decide)) (za (zS zb7 (pv' 2) ze) zc)) (za (zT (i_A (zaG hr)) (pv' 5) ze) zc))))))))))))))))),?_⟩)
  · obtain ⟨t,x,c,rfl,_⟩:=h
    rfl
  obtain ⟨t,x,c,rfl,hw,hc,h63,hq⟩:=h; simp [zab,zW,zY,zZ,zp,zQ,tC',za9,zaR,tB',zaq,zam,zbf,zI,zay,zM,zbj,zac,zv,zae,zah,zbb,zbk,zbe,zag,zbg,zat,zad,zK,zw,zx,za8,zr,zaA,zG,zai,zB,zal,zy,zE,zak,zaa,zbd,zN,zaf,zH,zav,zL,zaw,zu,zar,zC,zm,zF,zn,zaB,zg,zk,zas,zJ,zO,zaz,zbm,zaj,zf,zo,tBr,brN,zD,zz,zA,zau,zt,zan,zbh,zao,zap,zax,zbl,zaC,zf7,zkh]
  refine ⟨_,_,rfl,fun m m0 m1=>?_⟩
  refine ⟨t,[],c,rfl,hw.up (Nat.le_refl _) (by decide),by decide,h63,?_⟩
  refine ⟨_,_,rfl,fun m2 a0 a1=>?_⟩
  simp [zab,zW,zY,zZ,zp,zQ,tC',za9,zaR,tB',zaq,zam,zbf,zI,zay,zM,zbj,zac,zv,zae,zah,zbb,zbk,zbe,zag,zbg,zat,zad,zK,zw,zx,za8,zr,zaA,zG,zai,zB,zal,zy,zE,zak,zaa,zbd,zN,zaf,zH,zav,zL,zaw,zu,zar,zC,zm,zF,zn,zaB,zg,zk,zas,zJ,zO,zaz,zbm,zaj,zf,zo,tBr,brN,zD,zz,zA,zau,zt,zan,zbh,zao,zap,zax,zbl,zaC]
  have hpl:0<(zde t []).length:=by rw [zd4]; simp
  obtain ⟨d,e1,hd⟩:=zke ((zde t []).map plc) (md (i:=m2) (n:=(zde t []).length) hpl).1 (by rw [List.length_map]; exact (md (i:=m2) (n:=(zde t []).length) hpl).2)
  obtain ⟨p,hp,rfl⟩:=List.mem_map.mp hd; obtain ⟨p',nd,ep,hn⟩:=zor hw hp; rw [List.nil_append] at ep; subst ep; obtain ⟨hp9,wn⟩:=hw.at hn
  refine ⟨hpl,_,e1,t,p,c,9,rfl,hw,by omega,?_⟩
  rw [hn]
  refine ⟨_,_,rfl,fun m3 b0 b1=>?_⟩
  refine ⟨_,rfl,fun kd wk lk ck=>?_⟩
  simp [zab,zW,zY,zZ,zp,zQ,tC',za9,zaR,tB',zaq,zam,zbf,zI,zay,zM,zbj,zac,zv,zae,zah,zbb,zbk,zbe,zag,zbg,zat,zad,zK,zw,zx,za8,zr,zaA,zG,zai,zB,zal,zy,zE,zak,zaa,zbd,zN,zaf,zH,zav,zL,zaw,zu,zar,zC,zm,zF,zn,zaB,zg,zk,zas,zJ,zO,zaz,zbm,zaj,zf,zo,tBr,brN,zD,zz,zA,zau,zt,zan,zbh,zao,zap,zax,zbl,zaC,zb6]
  have cd5:zf7 m 5:=by simp [zf7]
  have cd40:zf7 m 40:=by simp [zf7]
  have wrd:∀ ws:Pl,(ws.length≤nd.wds.length+3∨ws.length≤3)→zaH 10 [trD t,plc p,plc ws,D.tup (List.map trD nd.kds)] fun r=>Q (Res.val r.toD):=fun ws h=>by
    refine ⟨t,p,ws,nd.kds,c,9,rfl,hw,by omega,Nat.le_of_lt hp9,hq _ (zq2 hw hn h) ?_ (zce _ _ _ _) (zlE hn)⟩
    have:=zfa (ws:=ws) (ks:=nd.kds) hw hn
    omega
  have w4:zf7 m 5∧zaV [D.int (m / 5)] fun r=>zaH 10 [trD t,plc p,r.toD,D.tup (List.map trD nd.kds)] fun r=>Q (Res.val r.toD):=⟨cd5,_,rfl,fun ws hws=>wrd ws (.inr hws)⟩
  have w3 : ¬nd.wds = [] → zf7 m 5 ∧
                    0<List.length nd.wds ∧
                      zf7 m 40 ∧
                        zaV [D.int (m / 40)] fun r =>
                          zeW (plc (zcV nd.wds none (some (m / 5 % ↑(List.length nd.wds))))) r.toD fun d =>
                            zeW d (plc (zcV nd.wds (some (m / 5 % ↑(List.length nd.wds)+1)) none)) fun d =>
                              zaH 10 [trD t,plc p,d,D.tup (List.map trD nd.kds)] fun r =>
                                Q (Res.val r.toD):=fun hne=>by
    have hpos:0<nd.wds.length:=List.length_pos_iff.mpr hne
    refine ⟨cd5,hpos,cd40,_,rfl,fun ws hws=>?_⟩
    have hi:=md (i:=m / 5) (n:=nd.wds.length) hpos; have hwf:=wn.wfew; obtain ⟨k,hk⟩:=Int.eq_ofNat_of_zero_le hi.1; rw [hk] at hi ⊢
    rw [zmi,show ((k:Int)+1)=((k+1:Nat):Int) by omega,zh5]
    simp [Res.toD]
    refine ⟨zbo (by omega),zbo (by omega),wrd _ (.inl ?_)⟩
    simp; omega
  have w2 : ¬p = [] → zcn [trD t, plc (zcV p none (some (-1)))] fun r =>
                  zfr r.toD (D.int 2) fun d =>
                    ∃ ds,
                      zoo d=some ds ∧
                        ds.length≤sizeLine ∧
                          zdg (zp 0)
                            (tB'
                              (zaR zlk (zaR zfr (zQ 0) (tC' (D.int 0)))
                                (zaR zfr (zQ 1) (tC' (D.int (-1))))))
                            (zQ 0)
                            (fun acc =>
                              zfr r.toD (D.int 1) fun d =>
                                zaH 10 [trD t,plc (zcV p none (some (-1))),d,D.tup acc] fun r =>
                                  Q (Res.val r.toD))
                            ds [] [Slot.emp,Slot.val (plc p)]:=fun hne=>by
    rw [zh4]
    obtain ⟨ab,hab⟩:∃ ab,zq t p.dropLast=some ab:=by
      have:=zfG (t:=t) (p:=p) (by rw [hn]; rfl) (p.length-1)
      rw [← List.dropLast_eq_take] at this; exact Option.isSome_iff_exists.mp this
    have hf:=(hw.at hab).2.few
    refine ⟨t,p.dropLast,c,9,rfl,hw,by omega,?_⟩
    rw [hab]; simp [Res.toD,zb6,zoo]
    refine ⟨zbo (by omega),?_⟩
    refine zml hne ?_
    have sb:(ab.kds.filter fun k=>decide (k.lab≠zem p)).Sublist ab.kds:=List.filter_sublist
    refine ⟨t,p.dropLast,ab.wds,_,c,9,rfl,hw,by omega,by simp; omega,hq _ (zrX hw hab sb) ?_ (zce _ _ _ _) (zpZ (zem p) hw hab)⟩
    have:=zpQ (ws:=ab.wds) hw hab sb
    omega
  have t3 : (¬m % 5 = 3 ∧ zf7 m 5 ∧ zaV [D.int (m / 5)] fun r => zaH 10 [trD t, plc p, r.toD, D.tup (List.map trD nd.kds)] fun r => Q (Res.val r.toD)) ∨ m % 5 = 3 ∧ ((nd.wds = [] ∧ zf7 m 5 ∧ zaV [D.int (m / 5)] fun r => zaH 10 [trD t, plc p, r.toD, D.tup (List.map trD nd.kds)] fun r => Q (Res.val r.toD)) ∨ ¬nd.wds = [] ∧ zf7 m 5 ∧
                    0<List.length nd.wds ∧
                      zf7 m 40 ∧
                        zaV [D.int (m / 40)] fun r =>
                          zeW (plc (zcV nd.wds none (some (m / 5 % ↑(List.length nd.wds))))) r.toD fun d =>
                            zeW d (plc (zcV nd.wds (some (m / 5 % ↑(List.length nd.wds)+1)) none)) fun d =>
                              zaH 10 [trD t,plc p,d,D.tup (List.map trD nd.kds)] fun r =>
                                Q (Res.val r.toD)):=by
    by_cases e3:m % 5=3
    · by_cases e4:nd.wds=[]
      · exact .inr ⟨e3,.inl ⟨e4,w4⟩⟩
      · exact .inr ⟨e3,.inr ⟨e4,w3 e4⟩⟩
    · exact .inl ⟨e3,w4⟩
  by_cases p6:p.length<6
  · by_cases m2':m % 5<2
    · by_cases c60:(zde t []).length<60
      · refine .inr ⟨by omega,.inr ⟨m2',.inr ⟨by omega,?_⟩⟩⟩
        refine ⟨nd,[kd.lab],c,_,rfl,wn,by omega,?_⟩
        cases hk:zb kd.lab nd.kds with
        | some k' =>
          rw [show zq nd [kd.lab]=some k' by simp [zq,hk]]
          simp [Res.toD,zb6,zgf,zaS]
          by_cases e2:m % 5=2
          · by_cases e5:p=[]
            · exact .inr ⟨e2,.inl ⟨e5,t3⟩⟩
            · exact .inr ⟨e2,.inr ⟨e5,w2 e5⟩⟩
          · exact .inl ⟨e2,t3⟩
        | none =>
          rw [show zq nd [kd.lab]=none by simp [zq,hk]]
          simp [Res.toD,zb6,zgf]
          have hpk:∀ k ∈ nd.kds ++ [kd],zX k.lab=true:=fun k hk=>by
            rcases List.mem_append.mp hk with z | z
            · exact wn.plab k z
            · rw [List.mem_singleton.mp z]; exact lk
          have hf:=wn.few; have ok:=zdN hpk
          refine .inr ⟨_,_,rfl,rfl,zbo (by simp; omega),?_⟩
          refine ⟨_,nd.kds ++ [kd],rfl,.inr (by simp),hpk,by simp; omega,?_⟩
          refine ⟨t,p,nd.wds,_,c,9,rfl,hw,by omega,Nat.le_of_lt hp9,hq _ (zrG hw hn p6 wk lk ok) ?_ (zce _ _ _ _) (zpY hw hn hk lk wk)⟩
          have h1:=zpr (ws:=nd.wds) hw hn ok; have h2:=zc5 t []; omega
      · refine .inr ⟨by omega,.inr ⟨m2',.inl ⟨by omega,?_⟩⟩⟩
        by_cases e2:m % 5=2
        · by_cases e5:p=[]
          · exact .inr ⟨e2,.inl ⟨e5,t3⟩⟩
          · exact .inr ⟨e2,.inr ⟨e5,w2 e5⟩⟩
        · exact .inl ⟨e2,t3⟩
    · refine .inr ⟨by omega,.inl ⟨by omega,?_⟩⟩
      by_cases e2:m % 5=2
      · by_cases e5:p=[]
        · exact .inr ⟨e2,.inl ⟨e5,t3⟩⟩
        · exact .inr ⟨e2,.inr ⟨e5,w2 e5⟩⟩
      · exact .inl ⟨e2,t3⟩
  · refine .inl ⟨by omega,by omega,?_⟩
    by_cases e2:m % 5=2
    · by_cases e5:p=[]
      · exact .inr ⟨e2,.inl ⟨e5,t3⟩⟩
      · exact .inr ⟨e2,.inr ⟨e5,w2 e5⟩⟩
    · exact .inl ⟨e2,t3⟩
theorem zc0:FnScope ["_law_cells","_law_tree_here","_law_cell"] ["_law_cells"] (zj zey):=⟨rfl,rfl,rfl,by decide +kernel,rfl,by decide +kernel,by decide +kernel⟩
theorem ziL (d:Df K mg "_law_tree" zey ["_law_cells"]) (G_law_changed:Fn P w K mg base 12 "_law_changed" ["_law_tree_here","_law_cell"] za6):Fn P w K mg base 13 "_law_tree" ["_law_cells"] zdV:=by
  refine d.ok zc0 (fun ds Q h=>?_) (fun f cdv A outer s H E hr ds Q h=>⟨_,(zd (zV 1 zc0.nd (zaI (za (zbK []) (za (zaI zc) (za (zaI zc) zc)))))
    (zd (zbS (zbq (pv' 0)) (zaL 2 zc0.nd)
      (zh (zV 1 zc0.nd (zaJ G_law_changed (hr.mono (by decide)) (za (pv' 1) (za (pv' 2) zc))))))
    (zh (zR (pv' 1))))),?_⟩)
  · obtain ⟨ns,rfl,_⟩:=h
    rfl
  obtain ⟨ns,rfl,hl,hq⟩:=h; simp [zab,zW,zY,zZ,zp,zQ,tC',za9,zaR,tB',zaq,zam,zbf,zI,zay,zM,zbj,zac,zv,zae,zah,zbb,zbk,zbe,zag,zbg,zat,zad,zK,zw,zx,za8,zr,zaA,zG,zai,zB,zal,zy,zE,zak,zaa,zbd,zN,zaf,zH,zav,zL,zaw,zu,zar,zC,zm,zF,zn,zaB,zg,zk,zas,zJ,zO,zaz,zbm,zaj,zf,zo,tBr,brN,zD,zz,zA,zau,zt,zan,zbh,zao,zap,zax,zbl,zaC]
  refine zdy (fun i Γ=>∃ (t:Tr) (s2:Slot),Γ=[.val (.lst (ns.map .int)),.val (trD t),s2]∧Wf i 9 t∧M71.cnt t≤63∧t.lab=[]) ⟨.node [] [] [],.emp,by rw [zbi]; rfl,zqI.up (Nat.le_refl _) (by omega),by decide,rfl⟩ ?_ ?_
  · rintro i d Γ hd ⟨t,s2,rfl,hw,h63,hlab⟩
    rw [List.getElem?_map] at hd
    cases hc:ns[i]? with
    | none=>rw [hc] at hd; cases hd
    | some x =>
      rw [hc] at hd; cases hd; have hi:=(List.getElem?_eq_some_iff.mp hc).1; simp [zab,zW,zY,zZ,zp,zQ,tC',za9,zaR,tB',zaq,zam,zbf,zI,zay,zM,zbj,zac,zv,zae,zah,zbb,zbk,zbe,zag,zbg,zat,zad,zK,zw,zx,za8,zr,zaA,zG,zai,zB,zal,zy,zE,zak,zaa,zbd,zN,zaf,zH,zav,zL,zaw,zu,zar,zC,zm,zF,zn,zaB,zg,zk,zas,zJ,zO,zaz,zbm,zaj,zf,zo,tBr,brN,zD,zz,zA,zau,zt,zan,zbh,zao,zap,zax,zbl,zaC]
      exact ⟨t,_,i,rfl,hw,by omega,h63,fun t' a b e _=>⟨t',rfl,a,b,e.trans hlab⟩⟩
  · rintro Γ ⟨t,s2,rfl,hw,h63,hlab⟩
    rw [List.length_map] at hw; simp [zab,zW,zY,zZ,zp,zQ,tC',za9,zaR,tB',zaq,zam,zbf,zI,zay,zM,zbj,zac,zv,zae,zah,zbb,zbk,zbe,zag,zbg,zat,zad,zK,zw,zx,za8,zr,zaA,zG,zai,zB,zal,zy,zE,zak,zaa,zbd,zN,zaf,zH,zav,zL,zaw,zu,zar,zC,zm,zF,zn,zaB,zg,zk,zas,zJ,zO,zaz,zbm,zaj,zf,zo,tBr,brN,zD,zz,zA,zau,zt,zan,zbh,zao,zap,zax,zbl,zaC]; exact hq t hw h63 hlab
end
end K84
namespace K84
open PySem L2 Lb PL MT M04 MS M70 M71 M81 M73 M72 M74 M82 M83 M84 M85 M86 M87
def zqN (x y:D):Prop:=∃ b:Bool,(b=true↔x=y)∧∀ Q:D→Prop,(Q (.bl b)→ztb x y Q)∧(Q (.bl (!b))→zuY x y Q)
theorem zqN.of {x y:D} {b:Bool} (e:eqD 100 x y=some b) (h:b=true↔x=y):zqN x y:=⟨b,h,fun Q=>⟨fun q=>.inl ⟨b,e,q⟩,fun q=>.inl ⟨b,e,q⟩⟩⟩
theorem zha (p q:Pl):zqN (plc p) (plc q):=.of (zdA 99 p q) (by
  rw [decide_eq_true_eq]
  exact ⟨fun h=>by rw [h],fun h=>zdt h⟩)
theorem zk6 {t u:Tr} {c d n:Nat} (h1:Wf c n t) (h2:Wf d n u) (hn:n≤20) (e:trD t=trD u):t=u:=by
  obtain ⟨b,e1,i⟩:=zh1 h1 h1 100 (by omega)
  obtain ⟨b',e2,i'⟩:=zh1 h1 h2 100 (by omega)
  rw [← e,e1] at e2
  have:b=true:=i.mpr rfl
  rw [← Option.some.inj e2] at i'; exact i'.mp this
theorem zhb {c d n:Nat} {o o':Option Tr} (h1:∀ t,o=some t→Wf c n t) (h2:∀ t,o'=some t→Wf d n t) (hn:n≤20):zqN (zb6 o) (zb6 o'):=by
  cases o with
  | none=>cases o' with
    | none=>exact .of (zqx 100) (by simp)
    | some u=>exact ⟨false,⟨fun z=>(nomatch z),fun z=>absurd z.symm (zaS u)⟩,fun Q=>⟨fun q=>.inr ⟨.inl ⟨rfl,_,zbi u⟩,q⟩,fun q=>.inr ⟨.inl ⟨rfl,_,zbi u⟩,q⟩⟩⟩
  | some t=>cases o' with
    | none=>exact ⟨false,⟨fun z=>(nomatch z),fun z=>absurd z (zaS t)⟩,fun Q=>⟨fun q=>.inr ⟨.inr ⟨⟨_,zbi t⟩,rfl⟩,q⟩,fun q=>.inr ⟨.inr ⟨⟨_,zbi t⟩,rfl⟩,q⟩⟩⟩
    | some u =>
      obtain ⟨b,e,i⟩:=zh1 (h1 t rfl) (h2 u rfl) 100 (by omega)
      refine .of e ⟨fun z=>?_,fun z=>i.mpr (zk6 (h1 t rfl) (h2 u rfl) hn z)⟩
      rw [i.mp z]
def zcO:SpM:=fun o ds Q=>∃ xs f a b p,o=.lst xs∧ds=[f,a,b,plc p]∧zqN a f∧zqN b f∧zqN a b∧xs.length≤1000∧Q (st3 f a b) (.lst (xs ++ zfd f a b (plc p)))
def zcQ:Nat→SpM
  | 0=>fun _ _ _=>False
  | n+1=>fun o ds Q=>∃ xs f a b c p,o=.lst xs∧ds=[trD f,trD a,trD b,plc p]∧Wf c (n+1) f∧Wf c (n+1) a∧Wf c (n+1) b∧c≤36∧zbI 60 f a b∧n≤12∧p.length+n≤100∧xs.length+cnt f+cnt a+cnt b≤900∧Q (trD (jn (n+1) f a b)) (.lst (xs ++ (cl (n+1) f a b p).map plc))
def zcY:Nat→SpM:=fun n o ds Q=>∃ xs f a b c p,o=.lst xs∧ds=[.lst [zb6 f,zb6 a,zb6 b],plc p]∧(∀ t,f=some t→Wf c n t)∧(∀ t,a=some t→Wf c n t)∧(∀ t,b=some t→Wf c n t)∧c≤36∧(∀ t u v,f=some t→a=some u→b=some v→zbI 60 t u v)∧n≤12∧p.length+n≤101∧xs.length+oc cnt f+oc cnt a+oc cnt b≤900∧Q (zb6 (zi7 n f a b)) (.lst (xs ++ (zio n f a b p).map plc))
def tgR (f a b:Tr) (Q:Res→Prop):Prop:=(cl 10 f a b []=[]∧Q (.val (.tup [.str [116,114,101,101],trD (jn 10 f a b)])))∨(cl 10 f a b []≠[]∧Q (.bk (fun z=>.tup [.str [99,108,97,115,104],z]) (.lst ((cl 10 f a b []).map plc))))
def zci:Sp':=fun ds Q=>∃ f a b c,ds=[trD f,trD a,trD b]∧Wf c 10 f∧Wf c 10 a∧Wf c 10 b∧c≤36∧zbI 60 f a b∧cnt f+cnt a+cnt b≤900∧tgR f a b Q
instance {n:Nat}:MSpM (zcY n):=⟨fun _ _ _ _ h ⟨xs,f,a,b,c,p,e,z1,z2,z3,z4,z5,z6,z7,z8,z9,q⟩=>⟨xs,f,a,b,c,p,e,z1,z2,z3,z4,z5,z6,z7,z8,z9,h _ _ q⟩⟩
theorem zmm {l:List Nat} {R:List D→Prop} (ts:List Tr) (h:R (ts.map fun t=>zb6 (zb l t.kds))):zdg (zp 0) za8 (zx zbz (zv (zQ 0) (zv (zQ 1) zac))) R (ts.map trD) [] [Slot.emp,Slot.val (D.str l)]:=by
  refine zeM (fun i a Γ=>∃ s0,a=(ts.take i).map (fun t=>zb6 (zb l t.kds))∧Γ=[s0,.val (.str l)]) ⟨.emp,rfl,rfl⟩ ?_ ?_
  · rintro i d a Γ hd ⟨s0,rfl,rfl⟩
    rw [List.getElem?_map] at hd
    cases hc:ts[i]? with
    | none=>rw [hc] at hd; cases hd
    | some t =>
      rw [hc] at hd; cases hd; simp [zab,zW,zY,zZ,zp,zQ,tC',za9,zaR,tB',zaq,zam,zbf,zI,zay,zM,zbj,zac,zv,zae,zah,zbb,zbk,zbe,zag,zbg,zat,zad,zK,zw,zx,za8,zr,zaA,zG,zai,zB,zal,zy,zE,zak,zaa,zbd,zN,zaf,zH,zav,zL,zaw,zu,zar,zC,zm,zF,zn,zaB,zg,zk,zas,zJ,zO,zaz,zbm,zaj,zf,zo,tBr,brN,zD,zz,zA,zau,zt,zan,zbh,zao,zap,zax,zbl,zaC,zbz]; refine ⟨t,l,⟨rfl,rfl⟩,?_⟩; rw [List.take_succ,List.getElem?_map,hc]; simp
  · rintro a Γ ⟨s0,rfl,rfl⟩
    rw [show List.take (List.map trD ts).length ts=ts from List.take_of_length_le (by rw [List.length_map]; exact Nat.le_refl _)]
    exact h
theorem zqo {α β:Type} {f a b:α} {x:β} (h:¬ ck3 f a b):zfd f a b x=[]:=if_neg h
theorem znY {α β:Type} {f a b:α} {x:β} (h:ck3 f a b):zfd f a b x=[x]:=if_pos h
theorem ze6 {c d n:Nat} {o o':Option Tr} (h1:∀ t,o=some t→Wf c n t) (h2:∀ t,o'=some t→Wf d n t) (hn:n≤20) (e:zb6 o=zb6 o'):o=o':=by
  cases o with
  | none=>cases o' with
    | none=>rfl
    | some u=>exact absurd e.symm (zaS u)
  | some t=>cases o' with
    | none=>exact absurd e (zaS t)
    | some u=>rw [zk6 (h1 t rfl) (h2 u rfl) hn e]
section
variable {P:Program} {w:World} {K:PySem.W.Frag} {mg:Str→Option Value} {base:Heap}
theorem zkq:FnScope ["first","one","other","place","clashes"] ["first","one","other","place","clashes"] (zj zfn):=⟨rfl,rfl,rfl,by decide +kernel,rfl,by decide +kernel,by decide +kernel⟩
theorem zkA (d:Df K mg "settled" zfn ["first","one","other","place","clashes"]):FnM P w K mg base 1 "settled" ["first","one","other","place","clashes"] 4 zcO:=by
  refine d.okM zkq (fun o ds Q h=>?_) (fun f cdv A outer s H E hr b o ds Q h=>⟨_,(zd (za2 (PW'.pt (zd3 (zU (zp0 (zbH hr)) (pv' 1) (pv' 0)) (zd3 (zU (zp0 (zbH hr)) (pv' 2) (pv' 0)) (zeb (zU (zp0 (zbH hr)) (pv' 1) (pv' 2)))))) (zh (zpC 4 (pv' 3))) zaF)
    (zh (zR (zow (zU (zud (zbH hr)) (pv' 1) (pv' 0)) (pv' 2) (pv' 1))))),?_⟩)
  · obtain ⟨xs,f,a,b,p,rfl,rfl,_⟩:=h
    rfl
  obtain ⟨xs,f,a,b,p,rfl,rfl,⟨b1,i1,h1⟩,⟨b2,i2,h2⟩,⟨b3,i3,h3⟩,hx,hq⟩:=h
  simp [zab,zW,zY,zZ,zp,zQ,tC',za9,zaR,tB',zaq,zam,zbf,zI,zay,zM,zbj,zac,zv,zae,zah,zbb,zbk,zbe,zag,zbg,zat,zad,zK,zw,zx,za8,zr,zaA,zG,zai,zB,zal,zy,zE,zak,zaa,zbd,zN,zaf,zH,zav,zL,zaw,zu,zar,zC,zm,zF,zn,zaB,zg,zk,zas,zJ,zO,zaz,zbm,zaj,zf,zo,tBr,brN,zD,zz,zA,zau,zt,zan,zbh,zao,zap,zax,zbl,zaC]
  have tail:∀ ys,Q (st3 f a b) (OD.lst ys)→ztb a f fun d=>d=D.bl false∧Q a (OD.lst ys)∨d=D.bl true∧Q b (OD.lst ys):=fun ys hq=>by
    refine (h1 _).1 ?_
    cases b1 with
    | true =>
      rw [st3,if_pos (i1.mp rfl)] at hq; exact .inr ⟨rfl,hq⟩
    | false =>
      rw [st3,if_neg fun z=>absurd (i1.mpr z) (by simp)] at hq
      exact .inl ⟨rfl,hq⟩
  have no:¬ ck3 f a b→ztb a f fun d=>d=D.bl false∧Q a (OD.lst xs)∨d=D.bl true∧Q b (OD.lst xs):=fun z=>tail xs (by rw [zqo z,List.append_nil] at hq; exact hq)
  refine (h1 _).2 ?_
  cases b1 with
  | true=>exact .inl ⟨rfl,no fun z=>z.1 (i1.mp rfl)⟩
  | false =>
    refine .inr ⟨rfl,(h2 _).2 ?_⟩
    cases b2 with
    | true=>exact .inl ⟨rfl,no fun z=>z.2.1 (i2.mp rfl)⟩
    | false =>
      refine .inr ⟨rfl,(h3 _).2 ?_⟩
      cases b3 with
      | true=>exact .inl ⟨rfl,no fun z=>z.2.2 (i3.mp rfl)⟩
      | false =>
        refine .inr ⟨rfl,zbE hx,tail _ ?_⟩
        rw [znY ⟨fun z=>absurd (i1.mpr z) (by simp),fun z=>absurd (i2.mpr z) (by simp),fun z=>absurd (i3.mpr z) (by simp)⟩] at hq
        exact hq
theorem zgA:FnScope ["three","place","clashes"] ["three","place","clashes"] (zj zdp):=⟨rfl,rfl,rfl,by decide +kernel,rfl,by decide +kernel,by decide +kernel⟩
theorem zgV (d:Df K mg "joined_kid" zdp ["three","place","clashes"]) (G_settled:FnM P w K mg base 1 "settled" ["first","one","other","place","clashes"] 4 zcO):∀ n:Nat,FnM P w K mg base (2 * n+7) "joined" ["first","one","other","place","clashes"] 4 (zcQ n)→FnM P w K mg base (2 * n+8) "joined_kid" ["three","place","clashes"] 2 (zcY n):=by
  intro n G_joined
  refine d.okM (k:=2 * n+7) zgA (fun o ds Q h=>?_) (fun f cdv A outer s H E hr b o ds Q h=>⟨_,(zd (za2 (zU (zuc (zaG hr)) zbA (pv' 0)) (zh (zR (zeh G_settled (hr.mono (by omega)) (zbx (zT (i_A (zaG hr)) (pv' 0) ze) (zbx (zT (i_A (zaG hr)) (pv' 0) ze) (zbx (zT (i_A (zaG hr)) (pv' 0) ze) (zbx (pv' 1) (zft 2 zc)))))))) zaF)
    (zh (zR (zeh G_joined (hr.mono (by omega)) (zbx (zT (i_A (zaG hr)) (pv' 0) ze) (zbx (zT (i_A (zaG hr)) (pv' 0) ze) (zbx (zT (i_A (zaG hr)) (pv' 0) ze) (zbx (pv' 1) (zft 2 zc))))))))),?_⟩)
  · obtain ⟨xs,f,a,b,c,p,rfl,rfl,_⟩:=h
    rfl
  obtain ⟨xs,f,a,b,c,p,rfl,rfl,hf,ha,hb,hc,h3,hn,hp,hx,hq⟩:=h; simp [zab,zW,zY,zZ,zp,zQ,tC',za9,zaR,tB',zaq,zam,zbf,zI,zay,zM,zbj,zac,zv,zae,zah,zbb,zbk,zbe,zag,zbg,zat,zad,zK,zw,zx,za8,zr,zaA,zG,zai,zB,zal,zy,zE,zak,zaa,zbd,zN,zaf,zH,zav,zL,zaw,zu,zar,zC,zm,zF,zn,zaB,zg,zk,zas,zJ,zO,zaz,zbm,zaj,zf,zo,tBr,brN,zD,zz,zA,zau,zt,zan,zbh,zao,zap,zax,zbl,zaC]
  have shape:∀ o:Option Tr,zb6 o=.non∨∃ es,zb6 o=.tup es:=fun o=>by
    cases o with
    | none=>exact .inl rfl
    | some t=>exact .inr ⟨_,zbi t⟩
  have nonO:∀ o:Option Tr,zuh (zb6 o)=o.isNone:=fun o=>by
    cases o with
    | none=>rfl
    | some t=>rw [show zb6 (some t)=trD t from rfl,zbi]; rfl
  refine ⟨_,rfl,rfl,fun x hx=>?_,?_⟩
  · simp only [List.mem_cons,List.not_mem_nil,or_false] at hx
    rcases hx with rfl | rfl | rfl <;> exact shape _
  simp only [List.any_cons,List.any_nil,nonO]
  have st:(f=none∨a=none∨b=none)→zcO (OD.lst xs) [zb6 f,zb6 a,zb6 b,plc p] fun r o'=>Q r o':=fun z=>by
    rw [za4 z,zaT z,zjV] at hq
    refine ⟨xs,_,_,_,p,rfl,rfl,zhb ha hf (by omega),zhb hb hf (by omega),zhb ha hb (by omega),by omega,?_⟩
    rw [zlb zb6 (ze6 ha hf (by omega)),zjU zb6 (ze6 ha hf (by omega)) (ze6 hb hf (by omega)) (ze6 ha hb (by omega))]
    exact hq
  cases f with
  | none=>exact .inr ⟨rfl,st (.inl rfl)⟩
  | some tf=>cases a with
    | none=>exact .inr ⟨rfl,st (.inr (.inl rfl))⟩
    | some ta=>cases b with
      | none=>exact .inr ⟨rfl,st (.inr (.inr rfl))⟩
      | some tb =>
        have wf:=hf tf rfl; obtain ⟨m,rfl⟩:=wf.pos
        exact .inl ⟨rfl,xs,tf,ta,tb,c,p,rfl,rfl,wf,ha _ rfl,hb _ rfl,hc,h3 _ _ _ rfl rfl rfl,by omega,by omega,hx,hq⟩
theorem zct:FnScope ["first","one","other","place","clashes","words","kids","label","three","kid"] ["first","one","other","place","clashes"] (zj ze2):=⟨rfl,rfl,rfl,by decide +kernel,rfl,by decide +kernel,by decide +kernel⟩
theorem zlG (d:Df K mg "joined" ze2 ["first","one","other","place","clashes"]) (G_kid_with:Fn P w K mg base 1 "kid_with" ["node","label"] zbz) (G_kid_labels:Fn P w K mg base 5 "kid_labels" ["nodes"] zcb) (G_settled:FnM P w K mg base 1 "settled" ["first","one","other","place","clashes"] 4 zcO) (z_tuple:mg "tuple"=none) (S_joined_kid:∀ n:Nat,FnM P w K mg base (2 * n+7) "joined" ["first","one","other","place","clashes"] 4 (zcQ n)→FnM P w K mg base (2 * n+8) "joined_kid" ["three","place","clashes"] 2 (zcY n)):∀ n:Nat,FnM P w K mg base (2 * n+7) "joined" ["first","one","other","place","clashes"] 4 (zcQ n):=by
  intro n
  induction n with
  | zero=>exact d.okM (k:=2 * 0+6) zct (fun o ds Q h=>(show False from h).elim) (fun f cdv A outer s H E hr b o ds Q h=>(show False from h).elim)
  | succ n ih =>
  have G_joined:FnM P w K mg base (2 * n+7) "joined" ["first","one","other","place","clashes"] 4 (zcQ n):=ih
  have G_joined_kid:=S_joined_kid n ih
  refine d.okM (k:=2 * n+8) zct (fun o ds Q h=>?_) (fun f cdv A outer s H E hr b o ds Q h=>⟨_,(zd (zV 5 zct.nd (zeh G_settled (hr.mono (by omega)) (zbx (zT (i_A (zaG hr)) (pv' 0) ze) (zbx (zT (i_A (zaG hr)) (pv' 1) ze) (zbx (zT (i_A (zaG hr)) (pv' 2) ze) (zbx (pv' 3) (zft 4 zc)))))))
    (zd (zb1 6 zct.nd (zb3 zc))
    (zd (zbS (zbq (zaJ G_kid_labels (hr.mono (by omega)) (za (zaI (za (pv' 0) (za (pv' 1) (za (pv' 2) zc)))) zc))) (zaL 7 zct.nd)
      (zd (ze4 8 zct.nd (zec (fsc:=zj ze2) (N:=["first","one","other","place","clashes","words","kids","label","three","kid"]) (N':=["node","label"]) (src:=[none,some 7]) (by refine ⟨rfl,?_,?_,?_,rfl,rfl⟩ <;> decide +kernel) (zbq (zaI (za (pv' 0) (za (pv' 1) (za (pv' 2) zc))))) (fun _ _ _ _ _ _=>(zaL 0 (show (["node","label"]:List Str).Nodup by decide +kernel))) (fun _ _ _ _ _ _=>zed) (fun _ _ _ _ _ _=>(zaJ G_kid_with (hr.mono (by omega)) (za (pv' 0) (za (pv' 1) zc))))))
    (zd (zV 9 zct.nd (zeh G_joined_kid (hr.mono (by omega)) (zbx (pv' 8) (zbx (zS zb8 (pv' 3) (zaI (za (pv' 7) zc))) (zft 4 zc)))))
    (zh (za2 (zU zgY (pv' 9) zbA) (zh (zdI 6 (pv' 9))) zaF)))))
    (zh (zR (zfw (zaI (za (zT (i_A (zaG hr)) (pv' 0) ze) (za (pv' 5) (za (zbv zeO z_tuple PyProof.Rows.boot_tuple (za (pv' 6) zc)) zc)))))))))),?_⟩)
  · obtain ⟨xs,f,a,b,c,p,rfl,rfl,_⟩:=h
    rfl
  obtain ⟨xs,f,a,g,c,p,rfl,rfl,hf,ha,hg,hc,h3,hn,hp,hx,hq⟩:=h; simp [zab,zW,zY,zZ,zp,zQ,tC',za9,zaR,tB',zaq,zam,zbf,zI,zay,zM,zbj,zac,zv,zae,zah,zbb,zbk,zbe,zag,zbg,zat,zad,zK,zw,zx,za8,zr,zaA,zG,zai,zB,zal,zy,zE,zak,zaa,zbd,zN,zaf,zH,zav,zL,zaw,zu,zar,zC,zm,zF,zn,zaB,zg,zk,zas,zJ,zO,zaz,zbm,zaj,zf,zo,tBr,brN,zD,zz,zA,zau,zt,zan,zbh,zao,zap,zax,zbl,zaC]
  refine ⟨xs,_,_,_,p,rfl,rfl,zha _ _,zha _ _,zha _ _,by omega,?_⟩
  rw [zlb plc zdt,zjU plc zdt zdt zdt]
  have e3:List.flatMap Tr.kds [f,a,g]=f.kds ++ (a.kds ++ g.kds):=by simp
  have hL:=zsR h3
  refine ⟨[f,a,g],rfl,?_,by rw [e3]; exact Nat.lt_of_le_of_lt (zbI.top h3) (by decide),fun k hk=>?_,?_⟩
  · rw [e3,List.length_append,List.length_append]
    have:=hf.few
    have:=ha.few
    have:=hg.few
    omega
  · rw [e3] at hk
    exact zt0 hf ha hg k hk
  rw [e3,show zfh (zf9 (zaM (f.kds ++ (a.kds ++ g.kds))))=L3 f a g from rfl]
  refine ⟨_,rfl,?_⟩
  refine zdy (fun i Γ=>∃ s7 s8 s9,Γ=[.val (trD f),.val (trD a),.val (trD g),.val (plc p),.bk (fun z=>z) b (.lst (xs ++ (zfd f.wds a.wds g.wds p ++ ((L3 f a g).take i).flatMap fun l=>zio n (zb l f.kds) (zb l a.kds) (zb l g.kds) (p ++ [l])).map plc)),.val (plc (st3 f.wds a.wds g.wds)),.own (.lst ((((L3 f a g).take i).filterMap fun l=>zi7 n (zb l f.kds) (zb l a.kds) (zb l g.kds)).map trD)),s7,s8,s9]) ⟨.emp,.emp,.emp,by simp [zjV]⟩ ?_ ?_
  · rintro i x Γ hx' ⟨s7,s8,s9,rfl⟩
    rw [List.getElem?_map] at hx'
    cases hc':(L3 f a g)[i]? with
    | none=>rw [hc'] at hx'; cases hx'
    | some l =>
      rw [hc'] at hx'; cases hx'; have hpl:=znj (n:=n) (p:=p) hc'; have hkl:=zi6 (n:=n) (f:=f) (a:=a) (b:=g) i; simp [zab,zW,zY,zZ,zp,zQ,tC',za9,zaR,tB',zaq,zam,zbf,zI,zay,zM,zbj,zac,zv,zae,zah,zbb,zbk,zbe,zag,zbg,zat,zad,zK,zw,zx,za8,zr,zaA,zG,zai,zB,zal,zy,zE,zak,zaa,zbd,zN,zaf,zH,zav,zL,zaw,zu,zar,zC,zm,zF,zn,zaB,zg,zk,zas,zJ,zO,zaz,zbm,zaj,zf,zo,tBr,brN,zD,zz,zA,zau,zt,zan,zbh,zao,zap,zax,zbl,zaC]; refine zmm [f,a,g] ?_
      refine ⟨zbo (by omega),_,zb l f.kds,zb l a.kds,zb l g.kds,c,p ++ [l],rfl,rfl,fun t e=>hf.kw e,fun t e=>ha.kw e,fun t e=>hg.kw e,hc,fun t u v e1 e2 e3=>zbI.kid h3 e1 e2 e3,hn,by simp; omega,by simp only [List.length_append,List.length_map]; omega,?_⟩
      have tk:(L3 f a g).take (i+1)=(L3 f a g).take i ++ [l]:=by rw [List.take_succ,hc']; rfl
      simp only [tk,List.flatMap_append,List.filterMap_append,List.map_append,List.flatMap_cons,List.flatMap_nil,List.append_nil,List.filterMap_cons,List.filterMap_nil]
      have hpk:=zbE (Nat.le_trans hkl (Nat.le_trans hL (by decide)))
      cases hk:zi7 n (zb l f.kds) (zb l a.kds) (zb l g.kds) with
      | none=>simp [zb6,zgf]
      | some k=>simp [zb6,zgf,zaS,hpk]
  · rintro Γ ⟨s7,s8,s9,rfl⟩
    rw [show List.take (List.map D.str (L3 f a g)).length (L3 f a g)=L3 f a g from List.take_of_length_le (by rw [List.length_map]; exact Nat.le_refl _),← zh8]
    simp [zab,zW,zY,zZ,zp,zQ,tC',za9,zaR,tB',zaq,zam,zbf,zI,zay,zM,zbj,zac,zv,zae,zah,zbb,zbk,zbe,zag,zbg,zat,zad,zK,zw,zx,za8,zr,zaA,zG,zai,zB,zal,zy,zE,zak,zaa,zbd,zN,zaf,zH,zav,zL,zaw,zu,zar,zC,zm,zF,zn,zaB,zg,zk,zas,zJ,zO,zaz,zbm,zaj,zf,zo,tBr,brN,zD,zz,zA,zau,zt,zan,zbh,zao,zap,zax,zbl,zaC]
    have:=zeo (jn (n+1) f a g)
    rw [zbi] at hq this; exact ⟨this,hq⟩
theorem zdY:FnScope ["first","one","other","clashes","tree"] ["first","one","other"] (zj zev):=⟨rfl,rfl,rfl,by decide +kernel,rfl,by decide +kernel,by decide +kernel⟩
theorem ziH (d:Df K mg "together" zev ["first","one","other"]) (G_joined:FnM P w K mg base 27 "joined" ["first","one","other","place","clashes"] 4 (zcQ 10)) (z_len:mg "len"=none):Fn P w K mg base 28 "together" ["first","one","other"] zci:=by
  refine d.ok zdY (fun ds Q h=>?_) (fun f cdv A outer s H E hr ds Q h=>⟨_,(zd (zb1 3 zdY.nd (zb3 zc))
    (zd (ztY 3 (zV 4 zdY.nd (zeh G_joined (hr.mono (by decide)) (zbx (pv' 0) (zbx (pv' 1) (zbx (pv' 2) (zbx (zaI zc) (zft 3 zc))))))))
    (zh (zpy (ztZ (zlo (zU (zdw (zbH hr)) (zaN zdc z_len PySem.boot_len (za (pv' 3) zc)) ze)) (zrK (zaI (za (zbK [116,114,101,101]) (za (pv' 4) zc)))) (zrL 3 (zbK [99,108,97,115,104]))))))),?_⟩)
  · obtain ⟨f,a,b,c,rfl,_⟩:=h
    rfl
  obtain ⟨f,a,b,c,rfl,hf,ha,hb,hc,h3,hx,hq⟩:=h; simp [zab,zW,zY,zZ,zp,zQ,tC',za9,zaR,tB',zaq,zam,zbf,zI,zay,zM,zbj,zac,zv,zae,zah,zbb,zbk,zbe,zag,zbg,zat,zad,zK,zw,zx,za8,zr,zaA,zG,zai,zB,zal,zy,zE,zak,zaa,zbd,zN,zaf,zH,zav,zL,zaw,zu,zar,zC,zm,zF,zn,zaB,zg,zk,zas,zJ,zO,zaz,zbm,zaj,zf,zo,tBr,brN,zD,zz,zA,zau,zt,zan,zbh,zao,zap,zax,zbl,zaC]
  refine ⟨[],f,a,b,c,[],rfl,rfl,hf,ha,hb,hc,h3,by decide,by decide,by simp; omega,?_⟩
  have hl:=zj9 10 f a b []
  rcases hq with ⟨e,q⟩ | ⟨e,q⟩
  · rw [e]
    simp [zab,zW,zY,zZ,zp,zQ,tC',za9,zaR,tB',zaq,zam,zbf,zI,zay,zM,zbj,zac,zv,zae,zah,zbb,zbk,zbe,zag,zbg,zat,zad,zK,zw,zx,za8,zr,zaA,zG,zai,zB,zal,zy,zE,zak,zaa,zbd,zN,zaf,zH,zav,zL,zaw,zu,zar,zC,zm,zF,zn,zaB,zg,zk,zas,zJ,zO,zaz,zbm,zaj,zf,zo,tBr,brN,zD,zz,zA,zau,zt,zan,zbh,zao,zap,zax,zbl,zaC,zfq,ziy,OD.toD]; exact .inl q
  · cases hc':cl 10 f a b [] with
    | nil=>exact absurd hc' e
    | cons x X =>
      rw [hc'] at q hl; simp [zab,zW,zY,zZ,zp,zQ,tC',za9,zaR,tB',zaq,zam,zbf,zI,zay,zM,zbj,zac,zv,zae,zah,zbb,zbk,zbe,zag,zbg,zat,zad,zK,zw,zx,za8,zr,zaA,zG,zai,zB,zal,zy,zE,zak,zaa,zbd,zN,zaf,zH,zav,zL,zaw,zu,zar,zC,zm,zF,zn,zaB,zg,zk,zas,zJ,zO,zaz,zbm,zaj,zf,zo,tBr,brN,zD,zz,zA,zau,zt,zan,zbh,zao,zap,zax,zbl,zaC,zfq,ziy,OD.toD]
      exact .inl (.inl ⟨by omega,q⟩)
end
end K84
namespace K84
open PySem L2 Lb PL MT M04 MS M70 M71 M81 M73 M72 M74 M82 M83 M84 M85 M86 M87
structure Cs where
  Read:Addr
  PutIn:Addr
  LeaveOut:Addr
structure CF (K:PySem.W.Frag) (T:Cs):Prop where
  iR:InsT K T.Read
  iP:InsT K T.PutIn
  iL:InsT K T.LeaveOut
  nR1:zbO K T.Read "place"
  nR2:zbO K T.Read "words"
  nP1:zbO K T.PutIn "place"
  nP2:zbO K T.PutIn "node"
  nL1:zbO K T.LeaveOut "place"
  kRR:PySem.W.kitOne K (.ref T.Read) (.ref T.Read)=some true
  kRP:PySem.W.kitOne K (.ref T.Read) (.ref T.PutIn)=some false
  kPR:PySem.W.kitOne K (.ref T.PutIn) (.ref T.Read)=some false
  kPP:PySem.W.kitOne K (.ref T.PutIn) (.ref T.PutIn)=some true
  kPL:PySem.W.kitOne K (.ref T.PutIn) (.ref T.LeaveOut)=some false
  kLR:PySem.W.kitOne K (.ref T.LeaveOut) (.ref T.Read)=some false
  kLP:PySem.W.kitOne K (.ref T.LeaveOut) (.ref T.PutIn)=some false
  kLL:PySem.W.kitOne K (.ref T.LeaveOut) (.ref T.LeaveOut)=some true
def chD (T:Cs):Ch→D
  | .read p ws=>.obj T.Read [("place",plc p),("words",plc ws)]
  | .out p=>.obj T.LeaveOut [("place",plc p)]
  | .put p t=>.obj T.PutIn [("place",plc p),("node",trD t)]
def zdk (T:Cs):Sp':=fun ds Q=>∃ t u p,ds=[trD t,trD u,plc p]∧Q (.own (.lst ((rd t u p).map (chD T))))
def zbQ (T:Cs):Sp':=fun ds Q=>∃ o o' p,ds=[zb6 o,zb6 o',plc p]∧p.length≤100∧((o=none∧∃ k,o'=some k∧Q (.val (chD T (.put p k))))∨∃ k,o=some k∧Q (.val (chD T (.out (p ++ [k.lab])))))
def zcj (T:Cs):Nat→Sp'
  | 0=>fun _ _=>False
  | n+1=>fun ds Q=>∃ t u p c d,ds=[trD t,trD u,plc p]∧Wf c (n+1) t∧Wf d (n+1) u∧c≤60∧d≤60∧Two 63 t u∧M71.cnt t≤63∧M71.cnt u≤63∧p.length+n≤90∧Q (.own (.lst ((plain (n+1) t u p).map (chD T))))
def zbu (T:Cs):Sp':=fun ds Q=>∃ t u c d,ds=[trD t,trD u]∧Wf c 10 t∧Wf d 10 u∧c≤60∧d≤60∧Two 63 t u∧M71.cnt t≤63∧M71.cnt u≤63∧Q (.own (.lst ((plain 10 t u []).map (chD T))))
instance {T:Cs}:MSp (zbQ T):=⟨fun _ _ _ h ⟨o,o',p,e,a,q⟩=>⟨o,o',p,e,a,q.imp (fun ⟨z,k,y,w⟩=>⟨z,k,y,h _ w⟩) fun ⟨k,y,w⟩=>⟨k,y,h _ w⟩⟩⟩
instance {T:Cs} {n:Nat}:MSp (zcj T n):=⟨fun _ _ _ h q=>by
  cases n with
  | zero=>exact q
  | succ n =>
    obtain ⟨t,u,p,c,d,e,z1,z2,z3,z4,z5,z6,z7,z8,q⟩:=q; exact ⟨t,u,p,c,d,e,z1,z2,z3,z4,z5,z6,z7,z8,h _ q⟩⟩
theorem zkR {n:Nat} {t u:Tr} {p:Pl} {l:List Nat} (h:l ∈ zaM t.kds∨l ∈ zaM u.kds) :
    (zb l t.kds=none∧∃ k',zb l u.kds=some k'∧zcM t u p l=[.put p k']∧zgr n t u p l=[]) ∨
    (∃ k,zb l t.kds=some k∧zb l u.kds=none∧zcM t u p l=[.out (p ++ [l])]∧zgr n t u p l=[]) ∨
    ∃ k k',zb l t.kds=some k∧zb l u.kds=some k'∧zcM t u p l=[]∧zgr n t u p l=plain n k k' (p ++ [l]):=by
  unfold zcM zgr
  cases e1:zb l t.kds with
  | none=>cases e2:zb l u.kds with
    | none=>exact absurd h (by rintro (z | z); exact zbs.mp e1 z; exact zbs.mp e2 z)
    | some k'=>exact .inl ⟨rfl,k',rfl,rfl,rfl⟩
  | some k=>cases e2:zb l u.kds with
    | none=>exact .inr (.inl ⟨k,rfl,rfl,rfl,rfl⟩)
    | some k'=>exact .inr (.inr ⟨k,k',rfl,rfl,rfl,rfl⟩)
section
variable {P:Program} {w:World} {K:PySem.W.Frag} {mg:Str→Option Value} {base:Heap} {T:Cs}
theorem zhv:FnScope ["one","other","place"] ["one","other","place"] (zj zd1):=⟨rfl,rfl,rfl,by decide +kernel,rfl,by decide +kernel,by decide +kernel⟩
theorem zhH (d:Df K mg "read_anew" zd1 ["one","other","place"]) (cf:CF K T) (M_Read:Mak P w K mg base 1 "Read" T.Read ["place","words"]):Fn P w K mg base 3 "read_anew" ["one","other","place"] (zdk T):=by
  refine d.ok zhv (fun ds Q h=>?_) (fun f cdv A outer s H E hr ds Q h=>⟨_,(zh (zee (zrM (zU (zdw (zbH hr)) (zT (i_A (zaG hr)) (pv' 0) ze) (zT (i_A (zaG hr)) (pv' 1) ze)) (zb3 zc) (zb3 (za (zgN M_Read (hr.mono (by decide)) (za (pv' 2) (za (zT (i_A (zaG hr)) (pv' 1) ze) zc))) zc))))),?_⟩)
  · obtain ⟨t,u,p,rfl,_⟩:=h
    rfl
  obtain ⟨t,u,p,rfl,q⟩:=h; simp [zab,zW,zY,zZ,zp,zQ,tC',za9,zaR,tB',zaq,zam,zbf,zI,zay,zM,zbj,zac,zv,zae,zah,zbb,zbk,zbe,zag,zbg,zat,zad,zK,zw,zx,za8,zr,zaA,zG,zai,zB,zal,zy,zE,zak,zaa,zbd,zN,zaf,zH,zav,zL,zaw,zu,zar,zC,zm,zF,zn,zaB,zg,zk,zas,zJ,zO,zaz,zbm,zaj,zf,zo,tBr,brN,zD,zz,zA,zau,zt,zan,zbh,zao,zap,zax,zbl,zaC]; unfold rd at q
  by_cases e:t.wds=u.wds
  · rw [if_pos e] at q
    exact .inr ⟨e,q⟩
  · rw [if_neg e] at q
    exact .inl ⟨e,q⟩
theorem zfm:FnScope ["one","other","above"] ["one","other","above"] (zj zcL):=⟨rfl,rfl,rfl,by decide +kernel,rfl,by decide +kernel,by decide +kernel⟩
theorem zfD (d:Df K mg "come_or_gone" zcL ["one","other","above"]) (cf:CF K T) (M_LeaveOut:Mak P w K mg base 1 "LeaveOut" T.LeaveOut ["place"]) (M_PutIn:Mak P w K mg base 1 "PutIn" T.PutIn ["place","node"]):Fn P w K mg base 3 "come_or_gone" ["one","other","above"] (zbQ T):=by
  refine d.ok zfm (fun ds Q h=>?_) (fun f cdv A outer s H E hr ds Q h=>⟨_,(zh (zR (zow (zU ziS (pv' 0) zbA) (zgN M_PutIn (hr.mono (by decide)) (za (pv' 2) (za (pv' 1) zc))) (zgN M_LeaveOut (hr.mono (by decide)) (za (zS zb8 (pv' 2) (zaI (za (zT (i_A (zaG hr)) (pv' 0) ze) zc))) zc))))),?_⟩)
  · obtain ⟨o,o',p,rfl,_⟩:=h
    rfl
  obtain ⟨o,o',p,rfl,hp,q⟩:=h; simp [zab,zW,zY,zZ,zp,zQ,tC',za9,zaR,tB',zaq,zam,zbf,zI,zay,zM,zbj,zac,zv,zae,zah,zbb,zbk,zbe,zag,zbg,zat,zad,zK,zw,zx,za8,zr,zaA,zG,zai,zB,zal,zy,zE,zak,zaa,zbd,zN,zaf,zH,zav,zL,zaw,zu,zar,zC,zm,zF,zn,zaB,zg,zk,zas,zJ,zO,zaz,zbm,zaj,zf,zo,tBr,brN,zD,zz,zA,zau,zt,zan,zbh,zao,zap,zax,zbl,zaC]
  rcases q with ⟨rfl,k,rfl,q⟩ | ⟨k,rfl,q⟩
  · simp [zb6,zgf]
    exact q
  · simp [zb6,zgf,zaS]
    exact ⟨zbo (by omega),q⟩
theorem zbJ:FnScope ["one","other","place","changes","within","label","kid","other_kid"] ["one","other","place"] (zj zew):=⟨rfl,rfl,rfl,by decide +kernel,rfl,by decide +kernel,by decide +kernel⟩
theorem ziI (d:Df K mg "plain_at" zew ["one","other","place"]) (cf:CF K T) (G_kid_with:Fn P w K mg base 1 "kid_with" ["node","label"] zbz) (G_kid_labels:Fn P w K mg base 5 "kid_labels" ["nodes"] zcb) (G_read_anew:Fn P w K mg base 3 "read_anew" ["one","other","place"] (zdk T)) (G_come_or_gone:Fn P w K mg base 3 "come_or_gone" ["one","other","above"] (zbQ T)):∀ n:Nat,Fn P w K mg base (n+6) "plain_at" ["one","other","place"] (zcj T n):=by
  intro n
  induction n with
  | zero=>exact d.ok (k:=5) zbJ (fun ds Q h=>(show False from h).elim) (fun f cdv A outer s H E hr ds Q h=>(show False from h).elim)
  | succ n ih =>
  have G_plain_at:Fn P w K mg base (n+6) "plain_at" ["one","other","place"] (zcj T n):=ih
  refine d.ok (k:=n+6) zbJ (fun ds Q h=>?_) (fun f cdv A outer s H E hr ds Q h=>⟨_,(zd (zb1 3 zbJ.nd (zrN G_read_anew (hr.mono (by omega)) (za (pv' 0) (za (pv' 1) (za (pv' 2) zc)))))
    (zd (zb1 4 zbJ.nd (zb3 zc))
    (zd (zbS (zbq (zaJ G_kid_labels (hr.mono (by omega)) (za (zaI (za (pv' 0) (za (pv' 1) zc))) zc))) (zaL 5 zbJ.nd)
      (zd (zV 6 zbJ.nd (zaJ G_kid_with (hr.mono (by omega)) (za (pv' 0) (za (pv' 5) zc))))
    (zd (zV 7 zbJ.nd (zaJ G_kid_with (hr.mono (by omega)) (za (pv' 1) (za (pv' 5) zc))))
    (zh (za2 (PW'.pt (zeR (zU ziS (pv' 6) zbA) (zds (zU ziS (pv' 7) zbA)))) (zh (zdI 3 (zaJ G_come_or_gone (hr.mono (by omega)) (za (pv' 6) (za (pv' 7) (za (pv' 2) zc)))))) (zh (zgg 4 (zaJ G_plain_at (hr.mono (by omega)) (za (pv' 6) (za (pv' 7) (za (zS zb8 (pv' 2) (zaI (za (pv' 5) zc))) zc)))))))))))
    (zh (zee (zm6 3 4)))))),?_⟩)
  · obtain ⟨t,u,p,c,d,rfl,_⟩:=h
    rfl
  obtain ⟨t,u,p,c,d,rfl,h1,h2,hc,hd,two,n1,n2,hp,q⟩:=h; simp [zab,zW,zY,zZ,zp,zQ,tC',za9,zaR,tB',zaq,zam,zbf,zI,zay,zM,zbj,zac,zv,zae,zah,zbb,zbk,zbe,zag,zbg,zat,zad,zK,zw,zx,za8,zr,zaA,zG,zai,zB,zal,zy,zE,zak,zaa,zbd,zN,zaf,zH,zav,zL,zaw,zu,zar,zC,zm,zF,zn,zaB,zg,zk,zas,zJ,zO,zaz,zbm,zaj,zf,zo,tBr,brN,zD,zz,zA,zau,zt,zan,zbh,zao,zap,zax,zbl,zaC]; have f1:=h1.few; have f2:=h2.few
  have el:zaM (List.flatMap Tr.kds [t,u])=zaM (t.kds ++ u.kds):=by simp
  have htop:=two.top
  refine ⟨t,u,p,rfl,_,rfl,[t,u],rfl,by simp; omega,by rw [el]; omega,fun k hk=>?_,?_⟩
  · simp at hk
    rcases hk with hk | hk
    · exact h1.plab k hk
    · exact h2.plab k hk
  rw [el,show zfh (zf9 (zaM (t.kds ++ u.kds)))=zb5 t u from rfl]
  have hall:=zef (n+1) t u p; rw [zcF] at q hall; rw [List.length_append,List.length_append] at hall
  have hb1:∀ i,(((zb5 t u).take i).flatMap (zcM t u p)).length≤(List.flatMap (zcM t u p) (zb5 t u)).length:=fun i=>zju (zcM t u p) (zb5 t u) i
  have hb2:∀ i,(((zb5 t u).take i).flatMap (zgr n t u p)).length≤(List.flatMap (zgr n t u p) (zb5 t u)).length:=fun i=>zju (zgr n t u p) (zb5 t u) i
  have hmem:∀ l ∈ zb5 t u,l ∈ zaM t.kds∨l ∈ zaM u.kds:=fun l hl=>zcA.mp hl
  generalize zb5 t u=L at hb1 hb2 hmem q hall; refine ⟨_,rfl,?_⟩
  refine zdy (fun i Γ=>∃ s5 s6 s7,Γ=[.val (trD t),.val (trD u),.val (plc p),.own (.lst ((rd t u p ++ (L.take i).flatMap (zcM t u p)).map (chD T))),.own (.lst (((L.take i).flatMap (zgr n t u p)).map (chD T))),s5,s6,s7]) ⟨.emp,.emp,.emp,by simp⟩ ?_ ?_
  · rintro i x Γ hx ⟨s5,s6,s7,rfl⟩
    rw [List.getElem?_map] at hx
    cases hc':L[i]? with
    | none=>rw [hc'] at hx; cases hx
    | some l =>
      rw [hc'] at hx; cases hx; have hl:=hmem l (List.mem_of_getElem? hc'); have b1:=hb1 (i+1); have b2:=hb2 (i+1); rw [zfg _ hc'] at b1 b2; rw [zfg _ hc',zfg _ hc']; rw [List.length_append] at b1 b2; simp [zab,zW,zY,zZ,zp,zQ,tC',za9,zaR,tB',zaq,zam,zbf,zI,zay,zM,zbj,zac,zv,zae,zah,zbb,zbk,zbe,zag,zbg,zat,zad,zK,zw,zx,za8,zr,zaA,zG,zai,zB,zal,zy,zE,zak,zaa,zbd,zN,zaf,zH,zav,zL,zaw,zu,zar,zC,zm,zF,zn,zaB,zg,zk,zas,zJ,zO,zaz,zbm,zaj,zf,zo,tBr,brN,zD,zz,zA,zau,zt,zan,zbh,zao,zap,zax,zbl,zaC,zbz]; refine ⟨t,l,⟨rfl,rfl⟩,u,l,⟨rfl,rfl⟩,?_⟩
      rcases zkR (n:=n) (p:=p) hl with ⟨e1,k',e2,ea,eb⟩ | ⟨k,e1,e2,ea,eb⟩ | ⟨k,k',e1,e2,ea,eb⟩
      · rw [e1,e2,ea,eb]
        simp only [List.length_flatMap,List.map_take] at b1 b2 hall; simp [zb6,zgf,Res.toD]
        exact ⟨none,some k',p,rfl,by omega,.inl ⟨rfl,k',rfl,zbE (by omega),rfl⟩⟩
      · rw [e1,e2,ea,eb]
        simp only [List.length_flatMap,List.map_take] at b1 b2 hall; simp [zb6,zgf,Res.toD,zaS]
        exact ⟨some k,none,p,rfl,by omega,.inr ⟨k,rfl,zbE (by omega),by rw [(za3 e1).2]⟩⟩
      · rw [e1,e2,ea,eb]
        rw [eb] at b2; simp only [List.length_flatMap,List.map_take] at b1 b2 hall; simp [zb6,zgf,Res.toD,zaS]; have c1:=zmo (za3 e1).1; have c2:=zmo (za3 e2).1; have w1:=h1.kw e1; have w2:=h2.kw e2; obtain ⟨m,rfl⟩:=w1.pos
        exact ⟨zbo (by omega),k,k',p ++ [l],c,d,rfl,w1,w2,hc,hd,two.kid e1 e2,by omega,by omega,by simp; omega,.inl rfl,zbo (by omega)⟩
  · rintro Γ ⟨s5,s6,s7,rfl⟩
    rw [show List.take (List.map D.str L).length L=L from List.take_of_length_le (by rw [List.length_map]; exact Nat.le_refl _)]
    simp only [List.length_flatMap] at hall; simp [zab,zW,zY,zZ,zp,zQ,tC',za9,zaR,tB',zaq,zam,zbf,zI,zay,zM,zbj,zac,zv,zae,zah,zbb,zbk,zbe,zag,zbg,zat,zad,zK,zw,zx,za8,zr,zaA,zG,zai,zB,zal,zy,zE,zak,zaa,zbd,zN,zaf,zH,zav,zL,zaw,zu,zar,zC,zm,zF,zn,zaB,zg,zk,zas,zJ,zO,zaz,zbm,zaj,zf,zo,tBr,brN,zD,zz,zA,zau,zt,zan,zbh,zao,zap,zax,zbl,zaC]
    exact ⟨zbo (by omega),by simpa using q⟩
theorem zeV:FnScope ["one","other"] ["one","other"] (zj zcu):=⟨rfl,rfl,rfl,by decide +kernel,rfl,by decide +kernel,by decide +kernel⟩
theorem zeX (d:Df K mg "plain_changes" zcu ["one","other"]) (cf:CF K T) (G_plain_at:Fn P w K mg base 16 "plain_at" ["one","other","place"] (zcj T 10)):Fn P w K mg base 17 "plain_changes" ["one","other"] (zbu T):=by
  refine d.ok zeV (fun ds Q h=>?_) (fun f cdv A outer s H E hr ds Q h=>⟨_,(zh (zee (zrN G_plain_at (hr.mono (by decide)) (za (pv' 0) (za (pv' 1) (za (zaI zc) zc)))))),?_⟩)
  · obtain ⟨t,u,c,d,rfl,_⟩:=h
    rfl
  obtain ⟨t,u,c,d,rfl,h1,h2,hc,hd,two,n1,n2,q⟩:=h; simp [zab,zW,zY,zZ,zp,zQ,tC',za9,zaR,tB',zaq,zam,zbf,zI,zay,zM,zbj,zac,zv,zae,zah,zbb,zbk,zbe,zag,zbg,zat,zad,zK,zw,zx,za8,zr,zaA,zG,zai,zB,zal,zy,zE,zak,zaa,zbd,zN,zaf,zH,zav,zL,zaw,zu,zar,zC,zm,zF,zn,zaB,zg,zk,zas,zJ,zO,zaz,zbm,zaj,zf,zo,tBr,brN,zD,zz,zA,zau,zt,zan,zbh,zao,zap,zax,zbl,zaC]
  exact ⟨t,u,[],c,d,rfl,h1,h2,hc,hd,two,n1,n2,by decide,_,rfl,q⟩
end
end K84
namespace K84
open PySem L2 Lb PL MT M04 MS M70 M71 M81 M73 M72 M74 M82 M83 M84 M85 M86 M87
theorem zuz (xs:List Int):(zcV xs (some 1) (some 19)).length≤18:=by
  unfold zcV; rw [List.length_take,List.length_drop]
  have e1:HT.sIx xs.length 0 (some 1)=min 1 xs.length:=by unfold HT.sIx; simp
  have e2:HT.sIx xs.length xs.length (some 19)=min 19 xs.length:=by unfold HT.sIx; simp
  rw [e1,e2]; omega
theorem zuy (xs:List Int):(zcV xs (some 19) (some 37)).length≤18:=by
  unfold zcV; rw [List.length_take,List.length_drop]
  have e1:HT.sIx xs.length 0 (some 19)=min 19 xs.length:=by unfold HT.sIx; simp
  have e2:HT.sIx xs.length xs.length (some 37)=min 37 xs.length:=by unfold HT.sIx; simp
  rw [e1,e2]; omega
def zcW:Sp':=fun ds Q=>∃ ns:List Int,ds=[.lst (ns.map .int)]∧∀ f a b,Wf 36 9 f→Wf 36 9 a→Wf 36 9 b→M71.cnt f≤63→M71.cnt a≤63→M71.cnt b≤63→f.lab=[]→a.lab=[]→b.lab=[]→zbI 60 f a b→Q (.val (.tup [trD f,trD a,trD b]))
section
variable {P:Program} {w:World} {K:PySem.W.Frag} {mg:Str→Option Value} {base:Heap} {T:Cs}
theorem zbp:FnScope ["_law_script","_law_first","_law_drafts_here","_law_cell","_law_number","_law_at_here"] ["_law_script"] (zj zcE):=⟨rfl,rfl,rfl,by decide +kernel,rfl,by decide +kernel,by decide +kernel⟩
theorem zgS (d:Df K mg "_law_drafts" zcE ["_law_script"]) (G_law_mix:Fn P w K mg base 1 "_law_mix" ["_law_cell","_law_factor"] zcP) (G_law_changed:Fn P w K mg base 12 "_law_changed" ["_law_tree_here","_law_cell"] za6) (G_law_tree:Fn P w K mg base 13 "_law_tree" ["_law_cells"] zdV):Fn P w K mg base 14 "_law_drafts" ["_law_script"] zcW:=by
  refine d.ok zbp (fun ds Q h=>?_) (fun f cdv A outer s H E hr ds Q h=>⟨_,(zd (zV 1 zbp.nd (zaJ G_law_tree (hr.mono (by decide)) (za (zcw s_A (pv' 0) (zdu ze) (zdu ze)) zc)))
    (zd (zb1 2 zbp.nd (zb3 (za (pv' 1) (za (pv' 1) zc))))
    (zd (zbS (zbq (zcw s_A (pv' 0) (zdu ze) (zdu ze))) (zaL 3 zbp.nd)
      (zd (zV 4 zbp.nd (zaJ G_law_mix (hr.mono (by decide)) (za (pv' 3) (za ze zc))))
    (zh (za2 (zU (zdw (zbH hr)) (zS zcy (pv' 4) ze) ze) (zh (zlr 2 zbp.nd (zps (zec (fsc:=zj zcE) (N:=["_law_script","_law_first","_law_drafts_here","_law_cell","_law_number","_law_at_here"]) (N':=["_law_draft","_law_cell"]) (src:=[none,some 3]) (by refine ⟨rfl,?_,?_,?_,rfl,rfl⟩ <;> decide +kernel) (zbq (pv' 2)) (fun _ _ _ _ _ _=>(zaL 0 (show (["_law_draft","_law_cell"]:List Str).Nodup by decide +kernel))) (fun _ _ _ _ _ _=>zed) (fun _ _ _ _ _ _=>(zaJ G_law_changed (hr.mono (by decide)) (za (pv' 0) (za (pv' 1) zc)))))))) (zd (zV 5 zbp.nd (zS zcy (pv' 4) ze))
    (zh (zpz 2 (pv' 5) (zfw (zaJ G_law_changed (hr.mono (by decide)) (za (zT (i_A (zaG hr)) (pv' 2) (pv' 5)) (za (pv' 3) zc)))))))))))
    (zh (zR (zfw (zaI (za (pv' 1) (za (zT (i_A (zaG hr)) (pv' 2) ze) (za (zT (i_A (zaG hr)) (pv' 2) ze) zc)))))))))),?_⟩)
  · obtain ⟨ns,rfl,_⟩:=h
    rfl
  obtain ⟨ns,rfl,hq⟩:=h; simp [zab,zW,zY,zZ,zp,zQ,tC',za9,zaR,tB',zaq,zam,zbf,zI,zay,zM,zbj,zac,zv,zae,zah,zbb,zbk,zbe,zag,zbg,zat,zad,zK,zw,zx,za8,zr,zaA,zG,zai,zB,zal,zy,zE,zak,zaa,zbd,zN,zaf,zH,zav,zL,zaw,zu,zar,zC,zm,zF,zn,zaB,zg,zk,zas,zJ,zO,zaz,zbm,zaj,zf,zo,tBr,brN,zD,zz,zA,zau,zt,zan,zbh,zao,zap,zax,zbl,zaC]; have h18:=zuz ns; have h37:=zuy ns
  refine ⟨zcV ns (some 1) (some 19),by rw [zc9],by omega,fun t wt ct lt=>?_⟩
  rw [zc9]; generalize (zcV ns (some 1) (some 19)).length=J at h18 wt; generalize zcV ns (some 19) (some 37)=cs at h37
  refine zdy (fun i Γ=>∃ (a b:Tr) (s3 s4 s5:Slot),Γ=[.val (.lst (ns.map .int)),.val (trD t),.own (.lst [trD a,trD b]),s3,s4,s5]∧(Wf (J+i) 9 a∧M71.cnt a≤63∧a.lab=[])∧(Wf (J+i) 9 b∧M71.cnt b≤63∧b.lab=[])∧Dr (J+3+2 * i) t a b∧zbI (J+5+2 * i) t a b) ⟨t,t,.emp,.emp,.emp,rfl,⟨wt,ct,lt⟩,⟨wt,ct,lt⟩,zqy wt (by omega),zbI.up (zkm wt) (by omega)⟩ ?_ ?_
  · rintro i d Γ hd ⟨a,b,s3,s4,s5,rfl,⟨wa,ca,la⟩,⟨wb,cb,lb'⟩,dr,th⟩
    rw [List.getElem?_map] at hd
    cases hc:cs[i]? with
    | none=>rw [hc] at hd; cases hd
    | some x =>
      rw [hc] at hd; cases hd; have hi:=(List.getElem?_eq_some_iff.mp hc).1
      have cha:∀ (R:Res→Prop),(∀ t',Wf (J+i+1) 9 t'→M71.cnt t'≤63→t'.lab=[]→One a t'→R (.val (trD t')))→za6 [trD a,.int x] R:=fun R h=>⟨a,x,J+i,rfl,wa,by omega,ca,fun t' z1 z2 z3 z4=>h t' z1 z2 (z3.trans la) z4⟩
      have chb:∀ (R:Res→Prop),(∀ t',Wf (J+i+1) 9 t'→M71.cnt t'≤63→t'.lab=[]→One b t'→R (.val (trD t')))→za6 [trD b,.int x] R:=fun R h=>⟨b,x,J+i,rfl,wb,by omega,cb,fun t' z1 z2 z3 z4=>h t' z1 z2 (z3.trans lb') z4⟩
      have ona:∀ a',One a a'→Dr (J+3+2 * i+1) t a' b:=fun a' o=>(dr.swap.one wt wb (by omega) (by omega) o).swap
      have oth:∀ a',One a a'→zbI (J+5+2 * i+1) t a' b:=fun a' o=>(th.swap.one dr.fb (by omega) o).swap
      simp [zab,zW,zY,zZ,zp,zQ,tC',za9,zaR,tB',zaq,zam,zbf,zI,zay,zM,zbj,zac,zv,zae,zah,zbb,zbk,zbe,zag,zbg,zat,zad,zK,zw,zx,za8,zr,zaA,zG,zai,zB,zal,zy,zE,zak,zaa,zbd,zN,zaf,zH,zav,zL,zaw,zu,zar,zC,zm,zF,zn,zaB,zg,zk,zas,zJ,zO,zaz,zbm,zaj,zf,zo,tBr,brN,zD,zz,zA,zau,zt,zan,zbh,zao,zap,zax,zbl,zaC]
      refine ⟨_,_,rfl,fun m m0 m1=>?_⟩
      simp [zab,zW,zY,zZ,zp,zQ,tC',za9,zaR,tB',zaq,zam,zbf,zI,zay,zM,zbj,zac,zv,zae,zah,zbb,zbk,zbe,zag,zbg,zat,zad,zK,zw,zx,za8,zr,zaA,zG,zai,zB,zal,zy,zE,zak,zaa,zbd,zN,zaf,zH,zav,zL,zaw,zu,zar,zC,zm,zF,zn,zaB,zg,zk,zas,zJ,zO,zaz,zbm,zaj,zf,zo,tBr,brN,zD,zz,zA,zau,zt,zan,zbh,zao,zap,zax,zbl,zaC]
      by_cases e7:m % 7=0
      · refine .inr ⟨e7,?_⟩
        simp [zab,zW,zY,zZ,zp,zQ,tC',za9,zaR,tB',zaq,zam,zbf,zI,zay,zM,zbj,zac,zv,zae,zah,zbb,zbk,zbe,zag,zbg,zat,zad,zK,zw,zx,za8,zr,zaA,zG,zai,zB,zal,zy,zE,zak,zaa,zbd,zN,zaf,zH,zav,zL,zaw,zu,zar,zC,zm,zF,zn,zaB,zg,zk,zas,zJ,zO,zaz,zbm,zaj,zf,zo,tBr,brN,zD,zz,zA,zau,zt,zan,zbh,zao,zap,zax,zbl,zaC,zdg,vo,voS]
        refine cha _ fun a' z1 z2 zl z3=>chb _ fun b' y1 y2 yl y3=>⟨fun d hd=>?_,a',b',⟨rfl,rfl⟩,⟨z1,z2,zl⟩,⟨y1,y2,yl⟩,((ona a' z3).one wt z1 (by omega) (by omega) y3).up (by omega),zbI.up ((oth a' z3).one (ona a' z3).fa (by omega) y3) (by omega)⟩
        simp only [List.mem_cons,List.not_mem_nil,or_false] at hd
        rcases hd with rfl | rfl
        · exact zeo _
        · exact zeo _
      · refine .inl ⟨e7,?_⟩
        by_cases e2:m % 2=0
        · rw [e2]
          exact ⟨trD a,show atI _ ((0:Nat):Int)=_ from zda rfl,cha _ fun a' z1 z2 zl z3=>⟨zeo _,0,rfl,a',b,rfl,⟨z1,z2,zl⟩,⟨wb.up (by omega) (Nat.le_refl _),cb,lb'⟩,(ona a' z3).up (by omega),zbI.up (oth a' z3) (by omega)⟩⟩
        · rw [show m % 2=1 by omega]
          exact ⟨trD b,show atI _ ((1:Nat):Int)=_ from zda rfl,chb _ fun b' z1 z2 zl z3=>⟨zeo _,1,rfl,a,b',rfl,⟨wa.up (by omega) (Nat.le_refl _),ca,la⟩,⟨z1,z2,zl⟩,(dr.one wt wa (by omega) (by omega) z3).up (by omega),zbI.up (th.one dr.fa (by omega) z3) (by omega)⟩⟩
  · rintro Γ ⟨a,b,s3,s4,s5,rfl,⟨wa,ca,la⟩,⟨wb,cb,lb'⟩,dr,th⟩
    rw [List.length_map] at wa wb dr th; simp [zab,zW,zY,zZ,zp,zQ,tC',za9,zaR,tB',zaq,zam,zbf,zI,zay,zM,zbj,zac,zv,zae,zah,zbb,zbk,zbe,zag,zbg,zat,zad,zK,zw,zx,za8,zr,zaA,zG,zai,zB,zal,zy,zE,zak,zaa,zbd,zN,zaf,zH,zav,zL,zaw,zu,zar,zC,zm,zF,zn,zaB,zg,zk,zas,zJ,zO,zaz,zbm,zaj,zf,zo,tBr,brN,zD,zz,zA,zau,zt,zan,zbh,zao,zap,zax,zbl,zaC]
    refine ⟨.tup fun d hd=>?_,hq t a b (wt.up (by omega) (Nat.le_refl _)) (wa.up (by omega) (Nat.le_refl _)) (wb.up (by omega) (Nat.le_refl _)) ct ca cb lt la lb' (zbI.up th (by omega))⟩
    simp only [List.mem_cons,List.not_mem_nil,or_false] at hd
    rcases hd with rfl | rfl | rfl <;> exact zeo _
end
def zcl:Sp':=fun ds Q=>∃ t p k c n,ds=[trD t,plc p,trD k]∧Wf c n t∧c≤60∧p.length≤9∧zX k.lab=true∧Q (.val (zb6 (dn t (.put p k))))
section
variable {P:Program} {w:World} {K:PySem.W.Frag} {mg:Str→Option Value} {base:Heap} {T:Cs}
theorem zdl:FnScope ["_law_tree_here","_law_place","_law_kid","_law_node_here"] ["_law_tree_here","_law_place","_law_kid"] (zj zcJ):=⟨rfl,rfl,rfl,by decide +kernel,rfl,by decide +kernel,by decide +kernel⟩
theorem zfz (d:Df K mg "_law_put_done" zcJ ["_law_tree_here","_law_place","_law_kid"]) (G_law_kids:Fn P w K mg base 4 "_law_kids" ["_law_kids_here"] zbW) (G_law_at:Fn P w K mg base 1 "_law_at" ["_law_node_here","_law_place"] zcn) (G_law_made:Fn P w K mg base 11 "_law_made" ["_law_node_here","_law_place","_law_words_here","_law_kids_here"] (zaH 10)):Fn P w K mg base 12 "_law_put_done" ["_law_tree_here","_law_place","_law_kid"] zcl:=by
  refine d.ok zdl (fun ds Q h=>?_) (fun f cdv A outer s H E hr ds Q h=>⟨_,(zd (zV 3 zdl.nd (zaJ G_law_at (hr.mono (by decide)) (za (pv' 0) (za (pv' 1) zc))))
    (zd (za2 (PW'.pt (zeR (zU ziS (pv' 3) zbA) (zds (zU zgY (zaJ G_law_at (hr.mono (by decide)) (za (pv' 3) (za (zaI (za (zT (i_A (zaG hr)) (pv' 2) ze) zc)) zc))) zbA)))) (zh (zR zbA)) zaF)
    (zh (zR (zaJ G_law_made (hr.mono (by decide)) (za (pv' 0) (za (pv' 1) (za (zT (i_A (zaG hr)) (pv' 3) ze) (za (zaJ G_law_kids (hr.mono (by decide)) (za (zS zb8 (zT (i_A (zaG hr)) (pv' 3) ze) (zaI (za (pv' 2) zc))) zc)) zc))))))))),?_⟩)
  · obtain ⟨t,p,k,c,n,rfl,_⟩:=h
    rfl
  obtain ⟨t,p,k,c,n,rfl,hw,hc,hp,hk,q⟩:=h; simp [zab,zW,zY,zZ,zp,zQ,tC',za9,zaR,tB',zaq,zam,zbf,zI,zay,zM,zbj,zac,zv,zae,zah,zbb,zbk,zbe,zag,zbg,zat,zad,zK,zw,zx,za8,zr,zaA,zG,zai,zB,zal,zy,zE,zak,zaa,zbd,zN,zaf,zH,zav,zL,zaw,zu,zar,zC,zm,zF,zn,zaB,zg,zk,zas,zJ,zO,zaz,zbm,zaj,zf,zo,tBr,brN,zD,zz,zA,zau,zt,zan,zbh,zao,zap,zax,zbl,zaC]
  refine ⟨t,p,c,n,rfl,hw,by omega,?_⟩
  cases hn:zq t p with
  | none =>
    simp only [dn,hn] at q; simp [zb6,zgf,Res.toD]; exact q
  | some nd =>
    obtain ⟨a1,wn⟩:=hw.at hn; have hf:=wn.few; simp [zb6,zgf,Res.toD,zaS]
    refine ⟨nd,[k.lab],c,_,rfl,wn,by omega,?_⟩
    cases hk':zb k.lab nd.kds with
    | some k' =>
      rw [show zq nd [k.lab]=some k' by simp [zq,hk']]
      simp only [dn,hn,hk',Option.bind_some] at q; simp [zb6,zaS]; exact q
    | none =>
      rw [show zq nd [k.lab]=none by simp [zq,hk']]
      simp only [dn,hn,hk',Option.bind_some] at q
      have hpk:∀ x ∈ nd.kds ++ [k],zX x.lab=true:=fun x hx=>by
        rcases List.mem_append.mp hx with z | z
        · exact wn.plab x z
        · rw [List.mem_singleton.mp z]; exact hk
      simp [zb6]
      refine .inr ⟨_,_,rfl,rfl,zbo (by simp; omega),?_⟩
      refine ⟨_,nd.kds ++ [k],rfl,.inr (by simp),hpk,by simp; omega,?_⟩
      exact ⟨t,p,nd.wds,_,c,n,rfl,hw,by omega,hp,q⟩
end
def zcm:Sp':=fun ds Q=>∃ t p c n,ds=[trD t,plc p]∧Wf c n t∧c≤60∧p.length≤10∧Q (.val (zb6 (dn t (.out p))))
def zcX (T:Cs):Sp':=fun ds Q=>∃ t ch c d n,ds=[trD t,chD T ch]∧Wf c n t∧c≤60∧zq0 d 10 ch∧Q (.val (zb6 (dn t ch)))
instance {T:Cs}:MSp (zcX T):=⟨fun _ _ _ h ⟨t,ch,c,d,n,e,z1,z2,z3,q⟩=>⟨t,ch,c,d,n,e,z1,z2,z3,h _ q⟩⟩
theorem zlU (p:Pl):zeJ p=zem p:=rfl
def zfP:Ch→Bool
  | .read _ _=>true
  | _=>false
theorem zg8 {K:PySem.W.Frag} {T:Cs} (cf:CF K T) (c:Ch) (Q:D→Prop):zgE K [chD T c,.cls T.Read] Q↔Q (.bl (zfP c)):=by
  cases c with
  | read p ws =>
    simp only [chD,zcv,cf.kRR,zfP]
    exact ⟨fun ⟨_,b,e,q⟩=>by cases e; exact q,fun q=>⟨cf.iR,_,rfl,q⟩⟩
  | out p =>
    simp only [chD,zcv,cf.kLR,zfP]
    exact ⟨fun ⟨_,b,e,q⟩=>by cases e; exact q,fun q=>⟨cf.iL,_,rfl,q⟩⟩
  | put p t =>
    simp only [chD,zcv,cf.kPR,zfP]
    exact ⟨fun ⟨_,b,e,q⟩=>by cases e; exact q,fun q=>⟨cf.iP,_,rfl,q⟩⟩
theorem zl1 {K:PySem.W.Frag} {T:Cs} (cf:CF K T) (c:Ch) (Q:D→Prop):zgE K [chD T c,.cls T.PutIn] Q↔Q (.bl (zhV c)):=by
  cases c with
  | read p ws =>
    simp only [chD,zcv,cf.kRP,zhV]
    exact ⟨fun ⟨_,b,e,q⟩=>by cases e; exact q,fun q=>⟨cf.iR,_,rfl,q⟩⟩
  | out p =>
    simp only [chD,zcv,cf.kLP,zhV]
    exact ⟨fun ⟨_,b,e,q⟩=>by cases e; exact q,fun q=>⟨cf.iL,_,rfl,q⟩⟩
  | put p t =>
    simp only [chD,zcv,cf.kPP,zhV]
    exact ⟨fun ⟨_,b,e,q⟩=>by cases e; exact q,fun q=>⟨cf.iP,_,rfl,q⟩⟩
theorem zqn {K:PySem.W.Frag} {T:Cs} (cf:CF K T) (p:Pl) (Q:D→Prop):zgE K [chD T (.out p),.cls T.LeaveOut] Q↔Q (.bl true):=by
  simp only [chD,zcv,cf.kLL]
  exact ⟨fun ⟨_,b,e,q⟩=>by cases e; exact q,fun q=>⟨cf.iL,_,rfl,q⟩⟩
section
variable {P:Program} {w:World} {K:PySem.W.Frag} {mg:Str→Option Value} {base:Heap} {T:Cs}
theorem zcs:FnScope ["_law_tree_here","_law_place","_law_node_here","_law_left"] ["_law_tree_here","_law_place"] (zj zb0):=⟨rfl,rfl,rfl,by decide +kernel,rfl,by decide +kernel,by decide +kernel⟩
theorem zfA (d:Df K mg "_law_left_out" zb0 ["_law_tree_here","_law_place"]) (G_law_at:Fn P w K mg base 1 "_law_at" ["_law_node_here","_law_place"] zcn) (G_law_made:Fn P w K mg base 11 "_law_made" ["_law_node_here","_law_place","_law_words_here","_law_kids_here"] (zaH 10)) (z_tuple:mg "tuple"=none):Fn P w K mg base 12 "_law_left_out" ["_law_tree_here","_law_place"] zcm:=by
  refine d.ok zcs (fun ds Q h=>?_) (fun f cdv A outer s H E hr ds Q h=>⟨_,(zd (za2 (PW'.pt (zeR (zU (zdw (zbH hr)) (pv' 1) (zaI zc)) (zds (zU ziS (zaJ G_law_at (hr.mono (by decide)) (za (pv' 0) (za (pv' 1) zc))) zbA)))) (zh (zR zbA)) zaF)
    (zd (zV 2 zcs.nd (zaJ G_law_at (hr.mono (by decide)) (za (pv' 0) (za (zcw s_A (pv' 1) zeH (zdu zeG)) zc))))
    (zd (ze4 3 zcs.nd (zec (fsc:=zj zb0) (N:=["_law_tree_here","_law_place","_law_node_here","_law_left"]) (N':=["_law_kid","_law_place"]) (src:=[none,some 1]) (by refine ⟨rfl,?_,?_,?_,rfl,rfl⟩ <;> decide +kernel) (zbq (zT (i_A (zaG hr)) (pv' 2) ze)) (fun _ _ _ _ _ _=>(zaL 0 (show (["_law_kid","_law_place"]:List Str).Nodup by decide +kernel))) (fun _ _ _ _ _ _=>(zgG (zU (zfF (zbH hr)) (zT (i_A (zaG hr)) (pv' 0) ze) (zT (i_A (zaG hr)) (pv' 1) zeG)))) (fun _ _ _ _ _ _=>(pv' 0))))
    (zh (zR (zaJ G_law_made (hr.mono (by decide)) (za (pv' 0) (za (zcw s_A (pv' 1) zeH (zdu zeG)) (za (zT (i_A (zaG hr)) (pv' 2) ze) (za (zbv zeO z_tuple PyProof.Rows.boot_tuple (za (pv' 3) zc)) zc)))))))))),?_⟩)
  · obtain ⟨t,p,c,n,rfl,_⟩:=h
    rfl
  obtain ⟨t,p,c,n,rfl,hw,hc,hp,q⟩:=h; simp [zab,zW,zY,zZ,zp,zQ,tC',za9,zaR,tB',zaq,zam,zbf,zI,zay,zM,zbj,zac,zv,zae,zah,zbb,zbk,zbe,zag,zbg,zat,zad,zK,zw,zx,za8,zr,zaA,zG,zai,zB,zal,zy,zE,zak,zaa,zbd,zN,zaf,zH,zav,zL,zaw,zu,zar,zC,zm,zF,zn,zaB,zg,zk,zas,zJ,zO,zaz,zbm,zaj,zf,zo,tBr,brN,zD,zz,zA,zau,zt,zan,zbh,zao,zap,zax,zbl,zaC]
  by_cases e0:p=[]
  · subst e0
    simp only [dn,if_true] at q; exact .inr ⟨rfl,q⟩
  refine .inl ⟨e0,?_⟩; refine ⟨t,p,c,n,rfl,hw,hc,?_⟩
  cases hn:zq t p with
  | none =>
    simp only [dn,if_neg e0,hn] at q; simp [zb6,zgf,Res.toD]; exact q
  | some nd =>
    simp [zb6,zgf,Res.toD,zaS]; obtain ⟨hp9,_⟩:=hw.at hn; rw [zh4]
    obtain ⟨ab,hab⟩:∃ ab,zq t p.dropLast=some ab:=by
      have:=zfG (t:=t) (p:=p) (by rw [hn]; rfl) (p.length-1)
      rw [← List.dropLast_eq_take] at this; exact Option.isSome_iff_exists.mp this
    have hf:=(hw.at hab).2.few; refine ⟨t,p.dropLast,c,n,rfl,hw,hc,?_⟩; rw [hab]; simp [Res.toD,zb6,zoo]
    refine ⟨zbo (by omega),?_⟩
    refine zml e0 ?_
    refine ⟨t,p.dropLast,ab.wds,_,c,n,rfl,hw,hc,by simp; omega,?_⟩
    simp only [dn,if_neg e0,hn,hab,Option.bind_some,Option.map_some,zlU] at q; exact q
theorem zfk:FnScope ["_law_tree_here","_law_change","_law_node_here"] ["_law_tree_here","_law_change"] (zj zeC):=⟨rfl,rfl,rfl,by decide +kernel,rfl,by decide +kernel,by decide +kernel⟩
theorem ziQ (d:Df K mg "_law_done" zeC ["_law_tree_here","_law_change"]) (cf:CF K T) (G_law_at:Fn P w K mg base 1 "_law_at" ["_law_node_here","_law_place"] zcn) (G_law_made:Fn P w K mg base 11 "_law_made" ["_law_node_here","_law_place","_law_words_here","_law_kids_here"] (zaH 10)) (G_law_put_done:Fn P w K mg base 12 "_law_put_done" ["_law_tree_here","_law_place","_law_kid"] zcl) (G_law_left_out:Fn P w K mg base 12 "_law_left_out" ["_law_tree_here","_law_place"] zcm) (z_isinstance:mg "isinstance"=none) (m_LeaveOut:mg "LeaveOut"=some (.ref T.LeaveOut)) (m_PutIn:mg "PutIn"=some (.ref T.PutIn)) (m_Read:mg "Read"=some (.ref T.Read)):Fn P w K mg base 13 "_law_done" ["_law_tree_here","_law_change"] (zcX T):=by
  refine d.ok zfk (fun ds Q h=>?_) (fun f cdv A outer s H E hr ds Q h=>⟨_,(zd (za2 (zeE (zaN (zif K rfl) z_isinstance PyProof.Rows.boot_isinstance (za (pv' 1) (za (ziD m_Read) zc)))) (zd (zV 2 zfk.nd (zaJ G_law_at (hr.mono (by decide)) (za (pv' 0) (za (zdJ (pv' 1)) zc))))
    (zd (za2 (zU ziS (pv' 2) zbA) (zh (zR zbA)) zaF)
    (zh (zR (zaJ G_law_made (hr.mono (by decide)) (za (pv' 0) (za (zdJ (pv' 1)) (za (zdJ (pv' 1)) (za (zT (i_A (zaG hr)) (pv' 2) ze) zc))))))))) zaF)
    (zd (za2 (zeE (zaN (zif K rfl) z_isinstance PyProof.Rows.boot_isinstance (za (pv' 1) (za (ziD m_PutIn) zc)))) (zh (zR (zaJ G_law_put_done (hr.mono (by decide)) (za (pv' 0) (za (zdJ (pv' 1)) (za (zdJ (pv' 1)) zc)))))) zaF)
    (zd (za2 (zeE (zaN (zif K rfl) z_isinstance PyProof.Rows.boot_isinstance (za (pv' 1) (za (ziD m_LeaveOut) zc)))) (zh (zR (zaJ G_law_left_out (hr.mono (by decide)) (za (pv' 0) (za (zdJ (pv' 1)) zc))))) zaF)
    (zh (zR zbA))))),?_⟩)
  · obtain ⟨t,ch,c,d,n,rfl,_⟩:=h
    rfl
  obtain ⟨t,ch,c,d,n,rfl,hw,hc,ok,q⟩:=h
  cases ch with
  | read p ws =>
    simp [zab,zW,zY,zZ,zp,zQ,tC',za9,zaR,tB',zaq,zam,zbf,zI,zay,zM,zbj,zac,zv,zae,zah,zbb,zbk,zbe,zag,zbg,zat,zad,zK,zw,zx,za8,zr,zaA,zG,zai,zB,zal,zy,zE,zak,zaa,zbd,zN,zaf,zH,zav,zL,zaw,zu,zar,zC,zm,zF,zn,zaB,zg,zk,zas,zJ,zO,zaz,zbm,zaj,zf,zo,tBr,brN,zD,zz,zA,zau,zt,zan,zbh,zao,zap,zax,zbl,zaC,zg8 cf,zfP]; refine .inl ⟨_,_,rfl,cf.iR.cl,cf.nR1,_,rfl,?_⟩; refine ⟨t,p,c,n,rfl,hw,hc,?_⟩
    cases hn:zq t p with
    | none =>
      simp only [dn,hn,Option.map_none] at q; simp [zb6,zgf,Res.toD]; exact q
    | some nd =>
      simp only [dn,hn,Option.map_some] at q; simp [zb6,zgf,Res.toD,zaS]; refine .inl ⟨_,_,rfl,cf.iR.cl,cf.nR1,_,rfl,?_⟩; refine .inl ⟨_,_,rfl,cf.iR.cl,cf.nR2,_,rfl,?_⟩
      have:=ok.1
      exact ⟨t,p,ws,nd.kds,c,n,rfl,hw,hc,Nat.le_of_lt_succ ok.1,q⟩
  | put p k =>
    simp [zab,zW,zY,zZ,zp,zQ,tC',za9,zaR,tB',zaq,zam,zbf,zI,zay,zM,zbj,zac,zv,zae,zah,zbb,zbk,zbe,zag,zbg,zat,zad,zK,zw,zx,za8,zr,zaA,zG,zai,zB,zal,zy,zE,zak,zaa,zbd,zN,zaf,zH,zav,zL,zaw,zu,zar,zC,zm,zF,zn,zaB,zg,zk,zas,zJ,zO,zaz,zbm,zaj,zf,zo,tBr,brN,zD,zz,zA,zau,zt,zan,zbh,zao,zap,zax,zbl,zaC,zg8 cf,zfP,zl1 cf,zhV]; refine .inl ⟨_,_,rfl,cf.iP.cl,cf.nP1,_,rfl,?_⟩; refine .inl ⟨_,_,rfl,cf.iP.cl,cf.nP2,_,rfl,?_⟩
    have:=ok.1
    exact ⟨t,p,k,c,n,rfl,hw,by omega,by omega,ok.2.1,q⟩
  | out p =>
    simp [zab,zW,zY,zZ,zp,zQ,tC',za9,zaR,tB',zaq,zam,zbf,zI,zay,zM,zbj,zac,zv,zae,zah,zbb,zbk,zbe,zag,zbg,zat,zad,zK,zw,zx,za8,zr,zaA,zG,zai,zB,zal,zy,zE,zak,zaa,zbd,zN,zaf,zH,zav,zL,zaw,zu,zar,zC,zm,zF,zn,zaB,zg,zk,zas,zJ,zO,zaz,zbm,zaj,zf,zo,tBr,brN,zD,zz,zA,zau,zt,zan,zbh,zao,zap,zax,zbl,zaC,zg8 cf,zfP,zl1 cf,zhV,zqn cf]; refine .inl ⟨_,_,rfl,cf.iL.cl,cf.nL1,_,rfl,?_⟩; exact ⟨t,p,c,n,rfl,hw,hc,ok,q⟩
end
end K84
namespace K84
open PySem L2 Lb PL MT M04 MS M70 M71 M81 M73 M72 M74 M82 M83 M84 M85 M86 M87
def zdC (T:Cs):Sp':=fun ds Q=>∃ t cs U,ds=[trD t,.lst (cs.map (chD T))]∧Fr 10 180 U t∧(∀ q,cu (U q)≤60)∧(∀ x ∈ cs,zqP 10 180 U x∧zq0 36 10 x)∧Q (.val (trD (zdP t cs)))
def zcH:Sp':=fun ds Q=>∃ f a b c,ds=[.lst ((cl 10 f a b []).map plc),.lst [trD f,trD a,trD b]]∧Wf c 10 f∧Wf c 10 a∧Wf c 10 b∧M71.cnt f≤63∧M71.cnt a≤63∧M71.cnt b≤63∧cl 10 f a b []≠[]∧Q (.val (.bl true))
def zdU:Sp':=fun ds Q=>∃ ns:List Int,ds=[.lst (ns.map .int)]∧ns.length≤63∧∀ (ms:List Int) (r:Res),r.toD=.lst (ms.map .int)→Q r
section
variable {P:Program} {w:World} {K:PySem.W.Frag} {mg:Str→Option Value} {base:Heap} {T:Cs}
theorem zdD:FnScope ["_law_tree_here","_law_changes","_law_change","_law_behind"] ["_law_tree_here","_law_changes"] (zj zfp):=⟨rfl,rfl,rfl,by decide +kernel,rfl,by decide +kernel,by decide +kernel⟩
theorem zkC (d:Df K mg "_law_led" zfp ["_law_tree_here","_law_changes"]) (cf:CF K T) (G_law_done:Fn P w K mg base 13 "_law_done" ["_law_tree_here","_law_change"] (zcX T)):Fn P w K mg base 14 "_law_led" ["_law_tree_here","_law_changes"] (zdC T):=by
  refine d.ok zdD (fun ds Q h=>?_) (fun f cdv A outer s H E hr ds Q h=>⟨_,(zd (zbS (zbq (pv' 1)) (zaL 2 zdD.nd)
      (zd (zV 3 zdD.nd (zaJ G_law_done (hr.mono (by decide)) (za (pv' 0) (za (pv' 2) zc))))
    (zh (za2 (zU zgY (pv' 3) zbA) (zh (zV 0 zdD.nd (pv' 3))) zaF))))
    (zh (zR (pv' 0)))),?_⟩)
  · obtain ⟨t,cs,U,rfl,_⟩:=h
    rfl
  obtain ⟨t,cs,U,rfl,hf,hu,hcs,q⟩:=h; simp [zab,zW,zY,zZ,zp,zQ,tC',za9,zaR,tB',zaq,zam,zbf,zI,zay,zM,zbj,zac,zv,zae,zah,zbb,zbk,zbe,zag,zbg,zat,zad,zK,zw,zx,za8,zr,zaA,zG,zai,zB,zal,zy,zE,zak,zaa,zbd,zN,zaf,zH,zav,zL,zaw,zu,zar,zC,zm,zF,zn,zaB,zg,zk,zas,zJ,zO,zaz,zbm,zaj,zf,zo,tBr,brN,zD,zz,zA,zau,zt,zan,zbh,zao,zap,zax,zbl,zaC]
  refine zdy (fun i Γ=>∃ (x:Tr) (s2 s3:Slot),Γ=[.val (trD x),.val (.lst (cs.map (chD T))),s2,s3]∧x=zdP t (cs.take i)∧Fr 10 180 U x) ⟨t,.emp,.emp,rfl,rfl,hf⟩ ?_ ?_
  · rintro i y Γ hy ⟨x,s2,s3,rfl,ex,fx⟩
    rw [List.getElem?_map] at hy
    cases hc:cs[i]? with
    | none=>rw [hc] at hy; cases hy
    | some ch =>
      rw [hc] at hy; cases hy; obtain ⟨c1,c2⟩:=hcs ch (List.mem_of_getElem? hc)
      have wx:Wf 59 10 x:=Fr.wf fx hu
      have fy:=fx.dnD c1
      have e':zdP t (cs.take (i+1))=(M72.dn x ch).getD x:=by
        rw [List.take_succ,hc,zdL,← ex]; rfl
      rw [e']; simp [zab,zW,zY,zZ,zp,zQ,tC',za9,zaR,tB',zaq,zam,zbf,zI,zay,zM,zbj,zac,zv,zae,zah,zbb,zbk,zbe,zag,zbg,zat,zad,zK,zw,zx,za8,zr,zaA,zG,zai,zB,zal,zy,zE,zak,zaa,zbd,zN,zaf,zH,zav,zL,zaw,zu,zar,zC,zm,zF,zn,zaB,zg,zk,zas,zJ,zO,zaz,zbm,zaj,zf,zo,tBr,brN,zD,zz,zA,zau,zt,zan,zbh,zao,zap,zax,zbl,zaC]
      refine ⟨x,ch,59,36,10,rfl,wx,by omega,c2,?_⟩
      cases ed:M72.dn x ch with
      | none =>
        rw [ed] at fy; simp [zb6,zgf,Res.toD]; exact ⟨x,rfl,rfl,fy⟩
      | some y =>
        rw [ed] at fy; simp [zb6,zgf,Res.toD,zaS]; exact ⟨y,rfl,rfl,fy⟩
  · rintro Γ ⟨x,s2,s3,rfl,ex,fx⟩
    rw [List.length_map,List.take_of_length_le (Nat.le_refl _)] at ex; subst ex; simp [zab,zW,zY,zZ,zp,zQ,tC',za9,zaR,tB',zaq,zam,zbf,zI,zay,zM,zbj,zac,zv,zae,zah,zbb,zbk,zbe,zag,zbg,zat,zad,zK,zw,zx,za8,zr,zaA,zG,zai,zB,zal,zy,zE,zak,zaa,zbd,zN,zaf,zH,zav,zL,zaw,zu,zar,zC,zm,zF,zn,zaB,zg,zk,zas,zJ,zO,zaz,zbm,zaj,zf,zo,tBr,brN,zD,zz,zA,zau,zt,zan,zbh,zao,zap,zax,zbl,zaC]; exact q
theorem zbF:FnScope ["_law_found","_law_trees","_law_known","_law_tree_here","_law_k"] ["_law_found","_law_trees"] (zj zc3):=⟨rfl,rfl,rfl,by decide +kernel,rfl,by decide +kernel,by decide +kernel⟩
theorem zf4 (d:Df K mg "_law_clashes" zc3 ["_law_found","_law_trees"]) (G_law_places:Fn P w K mg base 11 "_law_places" ["_law_node_here","_law_place"] (zbn 10)) (z_isinstance:mg "isinstance"=none) (z_len:mg "len"=none) (z_list:mg "list"=none) (z_range:mg "range"=none):Fn P w K mg base 12 "_law_clashes" ["_law_found","_law_trees"] zcH:=by
  refine d.ok zbF (fun ds Q h=>?_) (fun f cdv A outer s H E hr ds Q h=>⟨_,(zd (za2 (PW'.pt (zeR (zln (zeE (zaN (zif K rfl) z_isinstance PyProof.Rows.boot_isinstance (za (pv' 0) (za (zot z_list PyProof.Rows.boot_list) zc))))) (zds (zU (zdw (zbH hr)) (pv' 0) (zb4 (zb3 zc)))))) (zh (zR zeS)) zaF)
    (zd (zV 2 zbF.nd (zb4 (zb3 zc)))
    (zd (zbS (zbq (pv' 1)) (zaL 3 zbF.nd)
      (zh (zV 2 zbF.nd (zb4 (zhC zhL (pv' 2) (zaJ G_law_places (hr.mono (by decide)) (za (pv' 3) (za (zaI zc) zc))))))))
    (zd (zbS (zeF z_range (za (zaN zdc z_len PySem.boot_len (za (pv' 0) zc)) zc)) (zaL 4 zbF.nd)
      (zh (za2 (PW'.pt (zeR (zU (znn (zbH hr)) (zT (i_A (zaG hr)) (pv' 0) (pv' 4)) (pv' 2)) (zds (zU (zub (zbH hr)) (zT (i_A (zaG hr)) (pv' 0) (pv' 4)) (zcw s_A (pv' 0) zeH (zdu (pv' 4))))))) (zh (zR zeS)) zaF)))
    (zh (zR zeS)))))),?_⟩)
  · obtain ⟨f,a,b,c,rfl,_⟩:=h
    rfl
  obtain ⟨f,a,b,c,rfl,hf,ha,hb,cf',ca,cb,hne,q⟩:=h; simp [zab,zW,zY,zZ,zp,zQ,tC',za9,zaR,tB',zaq,zam,zbf,zI,zay,zM,zbj,zac,zv,zae,zah,zbb,zbk,zbe,zag,zbg,zat,zad,zK,zw,zx,za8,zr,zaA,zG,zai,zB,zal,zy,zE,zak,zaa,zbd,zN,zaf,zH,zav,zL,zaw,zu,zar,zC,zm,zF,zn,zaB,zg,zk,zas,zJ,zO,zaz,zbm,zaj,zf,zo,tBr,brN,zD,zz,zA,zau,zt,zan,zbh,zao,zap,zax,zbl,zaC]; have hl:=zj9 10 f a b []
  have hk:=fun q (h:q ∈ cl 10 f a b [])=>(zhf h).2
  have hn:=zj8 10 f a b []; generalize cl 10 f a b []=X at hl hk hn hne; refine ⟨false,?_,.inl ⟨rfl,?_⟩⟩
  · cases X with
    | nil=>exact absurd rfl hne
    | cons x X=>rfl
  simp only [zim]; simp [zab,zW,zY,zZ,zp,zQ,tC',za9,zaR,tB',zaq,zam,zbf,zI,zay,zM,zbj,zac,zv,zae,zah,zbb,zbk,zbe,zag,zbg,zat,zad,zK,zw,zx,za8,zr,zaA,zG,zai,zB,zal,zy,zE,zak,zaa,zbd,zN,zaf,zH,zav,zL,zaw,zu,zar,zC,zm,zF,zn,zaB,zg,zk,zas,zJ,zO,zaz,zbm,zaj,zf,zo,tBr,brN,zD,zz,zA,zau,zt,zan,zbh,zao,zap,zax,zbl,zaC]; have lf:=zc5 f []; have la:=zc5 a []; have lb:=zc5 b []
  refine ⟨f,[],c,rfl,hf,by decide,cf',_,_,rfl,rfl,zbo (by simp; omega),?_⟩
  simp [zab,zW,zY,zZ,zp,zQ,tC',za9,zaR,tB',zaq,zam,zbf,zI,zay,zM,zbj,zac,zv,zae,zah,zbb,zbk,zbe,zag,zbg,zat,zad,zK,zw,zx,za8,zr,zaA,zG,zai,zB,zal,zy,zE,zak,zaa,zbd,zN,zaf,zH,zav,zL,zaw,zu,zar,zC,zm,zF,zn,zaB,zg,zk,zas,zJ,zO,zaz,zbm,zaj,zf,zo,tBr,brN,zD,zz,zA,zau,zt,zan,zbh,zao,zap,zax,zbl,zaC]
  refine ⟨a,[],c,rfl,ha,by decide,ca,_,_,rfl,rfl,zbo (by simp; omega),?_⟩
  simp [zab,zW,zY,zZ,zp,zQ,tC',za9,zaR,tB',zaq,zam,zbf,zI,zay,zM,zbj,zac,zv,zae,zah,zbb,zbk,zbe,zag,zbg,zat,zad,zK,zw,zx,za8,zr,zaA,zG,zai,zB,zal,zy,zE,zak,zaa,zbd,zN,zaf,zH,zav,zL,zaw,zu,zar,zC,zm,zF,zn,zaB,zg,zk,zas,zJ,zO,zaz,zbm,zaj,zf,zo,tBr,brN,zD,zz,zA,zau,zt,zan,zbh,zao,zap,zax,zbl,zaC]
  refine ⟨b,[],c,rfl,hb,by decide,cb,_,_,rfl,rfl,zbo (by simp; omega),?_⟩
  simp [zab,zW,zY,zZ,zp,zQ,tC',za9,zaR,tB',zaq,zam,zbf,zI,zay,zM,zbj,zac,zv,zae,zah,zbb,zbk,zbe,zag,zbg,zat,zad,zK,zw,zx,za8,zr,zaA,zG,zai,zB,zal,zy,zE,zak,zaa,zbd,zN,zaf,zH,zav,zL,zaw,zu,zar,zC,zm,zF,zn,zaB,zg,zk,zas,zJ,zO,zaz,zbm,zaj,zf,zo,tBr,brN,zD,zz,zA,zau,zt,zan,zbh,zao,zap,zax,zbl,zaC]
  refine ⟨by omega,?_⟩
  rw [← List.map_append,← List.map_append]
  have hk':∀ q,q ∈ X→q ∈ zde f [] ++ (zde a [] ++ zde b []):=fun q h=>by
    rw [List.mem_append,List.mem_append]; exact hk q h
  generalize zde f [] ++ (zde a [] ++ zde b [])=Y at hk'
  refine zdy (fun i Γ=>∃ s4,Γ=[.val (.lst (X.map plc)),.val (.lst [trD f,trD a,trD b]),.val (.lst (Y.map plc)),.val (trD b),s4]) ⟨.emp,rfl⟩ ?_ ?_
  · rintro i d Γ hd ⟨s4,rfl⟩
    rw [List.getElem?_map] at hd; obtain ⟨j,hj,rfl⟩:=Option.map_eq_some_iff.mp hd; have hj1:=(List.getElem?_eq_some_iff.mp hj).1; rw [List.length_range] at hj1; rw [List.getElem?_range hj1] at hj; cases hj
    have ha':atI (X.map plc) ((i:Nat):Int)=some (plc X[i]):=zda (by rw [List.getElem?_map,List.getElem?_eq_getElem hj1]; rfl)
    simp [zab,zW,zY,zZ,zp,zQ,tC',za9,zaR,tB',zaq,zam,zbf,zI,zay,zM,zbj,zac,zv,zae,zah,zbb,zbk,zbe,zag,zbg,zat,zad,zK,zw,zx,za8,zr,zaA,zG,zai,zB,zal,zy,zE,zak,zaa,zbd,zN,zaf,zH,zav,zL,zaw,zu,zar,zC,zm,zF,zn,zaB,zg,zk,zas,zJ,zO,zaz,zbm,zaj,zf,zo,tBr,brN,zD,zz,zA,zau,zt,zan,zbh,zao,zap,zax,zbl,zaC]; refine ⟨_,ha',?_⟩; rw [zjE]
    have y1:X[i] ∈ Y:=hk' _ (List.getElem_mem hj1)
    refine .inl ⟨by simp [y1],_,ha',?_⟩
    rw [zc9,zmi,zjE]
    have y2:X[i] ∉ X.take i:=fun z=>by
      obtain ⟨j,hj,e⟩:=List.getElem_of_mem z; rw [List.length_take] at hj; rw [List.getElem_take] at e
      exact List.pairwise_iff_getElem.mp hn j i (by omega) hj1 (by omega) e
    refine .inl (by simp [y2])
  · rintro Γ ⟨s4,rfl⟩
    simp [zab,zW,zY,zZ,zp,zQ,tC',za9,zaR,tB',zaq,zam,zbf,zI,zay,zM,zbj,zac,zv,zae,zah,zbb,zbk,zbe,zag,zbg,zat,zad,zK,zw,zx,za8,zr,zaA,zG,zai,zB,zal,zy,zE,zak,zaa,zbd,zN,zaf,zH,zav,zL,zaw,zu,zar,zC,zm,zF,zn,zaB,zg,zk,zas,zJ,zO,zaz,zbm,zaj,zf,zo,tBr,brN,zD,zz,zA,zau,zt,zan,zbh,zao,zap,zax,zbl,zaC]; exact q
theorem zcZ:FnScope ["_law_script","_law_found","_law_number"] ["_law_script"] (zj zex):=⟨rfl,rfl,rfl,by decide +kernel,rfl,by decide +kernel,by decide +kernel⟩
theorem ziK (d:Df K mg "_law_wide" zex ["_law_script"]) (z_abs:mg "abs"=none) (z_len:mg "len"=none):Fn P w K mg base 1 "_law_wide" ["_law_script"] zdU:=by
  refine d.ok zcZ (fun ds Q h=>?_) (fun f cdv A outer s H E hr ds Q h=>⟨_,(zd (za2 (PW'.pt (zeR (zU zqT (zaN zdc z_len PySem.boot_len (za (pv' 0) zc)) ze) (zds (zU zqT (zaN zsN z_abs zkd (za (zT (i_A (zaG hr)) (pv' 0) ze) zc)) (zS znm ze ze))))) (zh (zR (pv' 0))) zaF)
    (zd (zb1 1 zcZ.nd (zb3 zc))
    (zd (zV 2 zcZ.nd (zaN zsN z_abs zkd (za (zT (i_A (zaG hr)) (pv' 0) ze) zc)))
    (zd (zlp (zlo (PW'.pt (zd3 (zU zvE (pv' 2) ze) (zeb (zU zqT (zaN zdc z_len PySem.boot_len (za (pv' 1) zc)) ze)))))
      (zd (zdI 1 (zS zcy (pv' 2) (zS znm ze ze)))
    (zh (zV 2 zcZ.nd (zS zb7 (pv' 2) (zS znm ze ze))))))
    (zh (zee (zlv (zhC zhL (pv' 1) (zcw s_A (pv' 0) (zdu ze) zeH))))))))),?_⟩)
  · obtain ⟨ns,rfl,_⟩:=h
    rfl
  obtain ⟨ns,rfl,h63,hq⟩:=h; simp [zab,zW,zY,zZ,zp,zQ,tC',za9,zaR,tB',zaq,zam,zbf,zI,zay,zM,zbj,zac,zv,zae,zah,zbb,zbk,zbe,zag,zbg,zat,zad,zK,zw,zx,za8,zr,zaA,zG,zai,zB,zal,zy,zE,zak,zaa,zbd,zN,zaf,zH,zav,zL,zaw,zu,zar,zC,zm,zF,zn,zaB,zg,zk,zas,zJ,zO,zaz,zbm,zaj,zf,zo,tBr,brN,zD,zz,zA,zau,zt,zan,zbh,zao,zap,zax,zbl,zaC]
  rcases Nat.lt_or_ge ns.length 2 with h2 | h2
  · exact .inr ⟨by omega,hq ns _ rfl⟩
  refine .inl ⟨by omega,?_⟩
  obtain ⟨z,hz⟩:∃ z,ns[1]?=some z:=⟨_,List.getElem?_eq_getElem (by omega)⟩
  have ha:atI (ns.map D.int) 1=some (.int z):=show atI _ ((1:Nat):Int)=_ from zda (by rw [List.getElem?_map,hz]; rfl)
  refine ⟨.int z,ha,?_⟩; rw [zm1]
  refine ⟨by simp [zq1],?_⟩
  simp; rw [ha]; simp
  generalize (if z<0 then -z else z)=N
  by_cases hN:N<1000000000000000000
  · exact .inr ⟨hN,hq ns _ rfl⟩
  refine .inl ⟨by omega,?_⟩
  refine zk0 (fun Γ=>∃ (fs:List Int) (M:Int),Γ=[.val (.lst (ns.map .int)),.own (.lst (fs.map .int)),.val (.int M)]∧fs.length≤63) (fun Γ=>match Γ with | [_,.own (.lst l),_]=>63-l.length | _=>0) ⟨[],N,rfl,by simp⟩ ?_
  rintro Γ ⟨fs,M,rfl,hf⟩
  simp [zab,zW,zY,zZ,zp,zQ,tC',za9,zaR,tB',zaq,zam,zbf,zI,zay,zM,zbj,zac,zv,zae,zah,zbb,zbk,zbe,zag,zbg,zat,zad,zK,zw,zx,za8,zr,zaA,zG,zai,zB,zal,zy,zE,zak,zaa,zbd,zN,zaf,zH,zav,zL,zaw,zu,zar,zC,zm,zF,zn,zaB,zg,zk,zas,zJ,zO,zaz,zbm,zaj,zf,zo,tBr,brN,zD,zz,zA,zau,zt,zan,zbh,zao,zap,zax,zbl,zaC,OD.toD]
  have hadd:zpp (.lst (fs.map .int)) (.lst (zcV (ns.map .int) (some 2) none)) fun o=>zuN o∧Q (.own o):=by
    rw [zc9]; have hl:=(zji ns (some 2) none).length_le
    refine ⟨_,_,rfl,rfl,zbo (by simp; omega),?_⟩
    rw [← List.map_append]
    exact ⟨fun d hd=>by obtain ⟨i,_,rfl⟩:=List.mem_map.mp hd; exact .int i,hq _ _ rfl⟩
  by_cases hM:M≤0
  · exact .inl ⟨hM,hadd⟩
  refine .inr ⟨by omega,?_⟩
  by_cases h6:fs.length<63
  · exact .inr ⟨by omega,by simp [zq1],zbE (by omega),by simp [zq1],by simp [zf7],⟨fs ++ [M % 1000000],by simp,by simp; omega⟩,by omega⟩
  · exact .inl ⟨by omega,hadd⟩
end
end K84
namespace K84
open PySem L2 Lb PL MT M04 MS M70 M71 M81 M73 M72 M74 M82 M83 M84 M85 M86 M87
def zco (T:Cs):Sp':=fun ds Q=>∃ ns:List Int,ds=[.lst (ns.map .int)]∧Q (.val (.bl true))
theorem zdO {f:D→D→Option Bool}:∀ {xs:List D},(∀ x ∈ xs,f x x=some true)→eqL f xs xs=some true
  | [],_=>rfl
  | x :: xs,h=>by simp [eqL,h x List.mem_cons_self,zdO fun y hy=>h y (List.mem_cons_of_mem _ hy)]
theorem zl7 {n:Nat} {t:Tr} (h:Dp n t):∀ m,2 * n+1≤m→eqD m (trD t) (trD t)=some true:=by
  induction h with
  | @mk n l ws ks h ih =>
    intro m hm
    obtain ⟨m,rfl⟩:∃ k,m=k+3:=⟨m-3,by omega⟩
    rw [zbi]
    show eqL (eqD (m+2)) _ _=_
    refine zdO fun x hx=>?_
    simp only [List.mem_cons,List.not_mem_nil,or_false] at hx
    rcases hx with rfl | rfl | rfl
    · rw [zfS]; simp
    · rw [zdA]; simp
    · show eqL (eqD (m+1)) _ _=_
      refine zdO fun y hy=>?_
      obtain ⟨k,hk,rfl⟩:=List.mem_map.mp hy
      exact ih k hk (m+1) (by omega)
theorem zqr {n:Nat} {t:Tr} (h:Dp n t) (hn:n≤20):eqD 100 (.tup [.str [116,114,101,101],trD t]) (.tup [.str [116,114,101,101],trD t])=some true:=by
  show eqL (eqD 99) _ _=_
  refine zdO fun x hx=>?_
  simp only [List.mem_cons,List.not_mem_nil,or_false] at hx
  rcases hx with rfl | rfl
  · rw [zfS]; simp
  · exact zl7 h 99 (by omega)
theorem zn8 (X:List Pl):eqD 100 (.tup [.str [99,108,97,115,104],.lst (X.map plc)]) (.tup [.str [99,108,97,115,104],.lst (X.map plc)])=some true:=by
  show eqL (eqD 99) _ _=_
  refine zdO fun x hx=>?_
  simp only [List.mem_cons,List.not_mem_nil,or_false] at hx
  rcases hx with rfl | rfl
  · rw [zfS]; simp
  · show (if _=_ then eqL (eqD 98) _ _ else some false)=_
    rw [if_pos rfl]
    refine zdO fun y hy=>?_
    obtain ⟨k,hk,rfl⟩:=List.mem_map.mp hy
    rw [zdA]; simp
section
variable {P:Program} {w:World} {K:PySem.W.Frag} {mg:Str→Option Value} {base:Heap} {T:Cs}
theorem zaZ:FnScope ["_law_script","_law_first","_law_one","_law_other","_law_told","_law_there","_law_beside"] ["_law_script"] (zj zcK):=⟨rfl,rfl,rfl,by decide +kernel,rfl,by decide +kernel,by decide +kernel⟩
theorem zfB (d:Df K mg "_law_asked_so" zcK ["_law_script"]) (cf:CF K T) (G_plain_changes:Fn P w K mg base 17 "plain_changes" ["one","other"] (zbu T)) (G_together:Fn P w K mg base 28 "together" ["first","one","other"] zci) (G_law_drafts:Fn P w K mg base 14 "_law_drafts" ["_law_script"] zcW) (G_law_led:Fn P w K mg base 14 "_law_led" ["_law_tree_here","_law_changes"] (zdC T)) (G_law_clashes:Fn P w K mg base 12 "_law_clashes" ["_law_found","_law_trees"] zcH) (z_isinstance:mg "isinstance"=none) (z_len:mg "len"=none) (z_tuple:mg "tuple"=none):Fn P w K mg base 29 "_law_asked_so" ["_law_script"] (zco T):=by
  refine d.ok zaZ (fun ds Q h=>?_) (fun f cdv A outer s H E hr ds Q h=>⟨_,(zd (zpB (zaJ G_law_drafts (hr.mono (by decide)) (za (pv' 0) zc)) (zpI (n:=3) (zfv (zaL 1 zaZ.nd) (zfv (zaL 2 zaZ.nd) (zfv (zaL 3 zaZ.nd) zna)))))
    (zd (zV 4 zaZ.nd (zaJ G_together (hr.mono (by decide)) (za (pv' 1) (za (pv' 2) (za (pv' 3) zc)))))
    (zd (za2 (PW'.pt (zeR (zln (zeE (zaN (zif K rfl) z_isinstance PyProof.Rows.boot_isinstance (za (pv' 4) (za (zot z_tuple PyProof.Rows.boot_tuple) zc))))) (zds (zU (zfF (zbH hr)) (zaN zdc z_len PySem.boot_len (za (pv' 4) zc)) ze)))) (zh (zR zeS)) zaF)
    (zd (za2 (zU (zfF (zbH hr)) (zaJ G_together (hr.mono (by decide)) (za (pv' 1) (za (pv' 3) (za (pv' 2) zc)))) (pv' 4)) (zh (zR zeS)) zaF)
    (zd (zV 5 zaZ.nd (zaJ G_plain_changes (hr.mono (by decide)) (za (pv' 1) (za (pv' 2) zc))))
    (zd (zV 6 zaZ.nd (zaJ G_plain_changes (hr.mono (by decide)) (za (pv' 1) (za (pv' 3) zc))))
    (zd (za2 (PW'.pt (zeR (zU (zfF (zbH hr)) (zaJ G_law_led (hr.mono (by decide)) (za (pv' 1) (za (pv' 5) zc))) (pv' 2)) (zds (zU (zfF (zbH hr)) (zaJ G_law_led (hr.mono (by decide)) (za (pv' 1) (za (pv' 6) zc))) (pv' 3))))) (zh (zR zeS)) zaF)
    (zd (za2 (zU (zdw (zbH hr)) (zT (i_A (zaG hr)) (pv' 4) ze) (zbK [116,114,101,101])) (zd (za2 (zU (zfF (zbH hr)) (zaJ G_law_led (hr.mono (by decide)) (za (pv' 1) (za (zb4 (zhC zhL (pv' 5) (pv' 6))) zc))) (zT (i_A (zaG hr)) (pv' 4) ze)) (zh (zR zeS)) zaF)
    (zh (zR (zgP (zdw (zbH hr)) (zaJ G_law_led (hr.mono (by decide)) (za (pv' 1) (za (zb4 (zhC zhL (pv' 6) (pv' 5))) zc))) (zT (i_A (zaG hr)) (pv' 4) ze))))) zaF)
    (zh (zR (zlB (zgP (zdw (zbH hr)) (zT (i_A (zaG hr)) (pv' 4) ze) (zbK [99,108,97,115,104])) (zlz (zaJ G_law_clashes (hr.mono (by decide)) (za (zT (i_A (zaG hr)) (pv' 4) ze) (za (zb4 (zb3 (za (pv' 1) (za (pv' 2) (za (pv' 3) zc))))) zc))))))))))))))),?_⟩)
  · obtain ⟨ns,rfl,_⟩:=h
    rfl
  obtain ⟨cs,rfl,hq⟩:=h; simp [zab,zW,zY,zZ,zp,zQ,tC',za9,zaR,tB',zaq,zam,zbf,zI,zay,zM,zbj,zac,zv,zae,zah,zbb,zbk,zbe,zag,zbg,zat,zad,zK,zw,zx,za8,zr,zaA,zG,zai,zB,zal,zy,zE,zak,zaa,zbd,zN,zaf,zH,zav,zL,zaw,zu,zar,zC,zm,zF,zn,zaB,zg,zk,zas,zJ,zO,zaz,zbm,zaj,zf,zo,tBr,brN,zD,zz,zA,zau,zt,zan,zbh,zao,zap,zax,zbl,zaC]
  refine ⟨cs,rfl,fun f a b wf wa wb nf na nb lf la lb' th=>?_⟩
  have f10:Wf 36 10 f:=wf.up (Nat.le_refl _) (by omega)
  have a10:Wf 36 10 a:=wa.up (Nat.le_refl _) (by omega)
  have b10:Wf 36 10 b:=wb.up (Nat.le_refl _) (by omega)
  have tg:∀ R:Res→Prop,tgR f a b R→zci [trD f,trD a,trD b] R:=fun R h=>⟨f,a,b,36,rfl,f10,a10,b10,by omega,th,by omega,h⟩
  have tg2:∀ R:Res→Prop,tgR f b a R→zci [trD f,trD b,trD a] R:=fun R h=>⟨f,b,a,36,rfl,f10,b10,a10,by omega,th.swap,by omega,h⟩
  have th2:=zhm th; have th3:=zhm th.swap
  have p1:∀ R:Res→Prop,R (.own (.lst ((plain 10 f a []).map (chD T))))→zbu T [trD f,trD a] R:=fun R h=>⟨f,a,36,36,rfl,f10,a10,by omega,by omega,th2.up (by omega),nf,na,h⟩
  have p2:∀ R:Res→Prop,R (.own (.lst ((plain 10 f b []).map (chD T))))→zbu T [trD f,trD b] R:=fun R h=>⟨f,b,36,36,rfl,f10,b10,by omega,by omega,th3.up (by omega),nf,nb,h⟩
  have lab1:f.lab=a.lab:=lf.trans la.symm
  have lab2:f.lab=b.lab:=lf.trans lb'.symm
  have i1:=zgK (W:=180) (N:=10) (U:=U3 f a b) (by omega) f10 a10 (p:=[]) (by simp) (fun q l h=>zvl q l h)
  have i2:=zgK (W:=180) (N:=10) (U:=U3 f a b) (by omega) f10 b10 (p:=[]) (by simp) (fun q l h=>zvk q l h)
  have ff:Fr 10 180 (U3 f a b) f:=Wf.fr f10 (by omega) zvj
  have l1:=zhO f10 a10 lab1; have l2:=zhO f10 b10 lab2
  have j12:cl 10 f a b []=[]→zdP f (plain 10 f a [] ++ plain 10 f b [])=jn 10 f a b:=fun h=>by
    rw [zdL,l1]; exact zfb f10 a10 b10 lab1 h
  have j21:cl 10 f a b []=[]→zdP f (plain 10 f b [] ++ plain 10 f a [])=jn 10 f a b:=fun h=>by
    rw [zdL,l2,zi5 f10 a10 b10 h]
    exact zfb f10 b10 a10 lab2 (by rw [← zjl f10 a10 b10]; exact h)
  have n1:=zef 10 f a []; have n2:=zef 10 f b []
  have led:∀ (xs:List Ch),(∀ x ∈ xs,zqP 10 180 (U3 f a b) x∧zq0 36 10 x)→∀ R:Res→Prop,R (.val (trD (zdP f xs)))→zdC T [trD f,.lst (xs.map (chD T))] R:=fun xs h R r=>⟨f,xs,U3 f a b,rfl,ff,zts th,h,r⟩
  generalize plain 10 f a []=A1 at *; generalize plain 10 f b []=B1 at *
  have i12:∀ x ∈ A1 ++ B1,zqP 10 180 (U3 f a b) x∧zq0 36 10 x:=fun x h=>(List.mem_append.mp h).elim (i1 x) (i2 x)
  have i21:∀ x ∈ B1 ++ A1,zqP 10 180 (U3 f a b) x∧zq0 36 10 x:=fun x h=>(List.mem_append.mp h).elim (i2 x) (i1 x)
  have eqv:∀ t,Wf 36 10 t→eqD 100 (trD t) (trD t)=some true:=fun t h=>by
    obtain ⟨b,e,i⟩:=zh1 h h 100 (by omega)
    rw [e,i.mpr rfl]
  have v1:∀ X:List D,(Res.own (OD.lst X)).toD=D.lst X:=fun _=>rfl
  have v2:∀ d:D,(Res.val d).toD=d:=fun _=>rfl
  have clsw:=zjl (p:=[]) f10 a10 b10; simp [zab,zW,zY,zZ,zp,zQ,tC',za9,zaR,tB',zaq,zam,zbf,zI,zay,zM,zbj,zac,zv,zae,zah,zbb,zbk,zbe,zag,zbg,zat,zad,zK,zw,zx,za8,zr,zaA,zG,zai,zB,zal,zy,zE,zak,zaa,zbd,zN,zaf,zH,zav,zL,zaw,zu,zar,zC,zm,zF,zn,zaB,zg,zk,zas,zJ,zO,zaz,zbm,zaj,zf,zo,tBr,brN,zD,zz,zA,zau,zt,zan,zbh,zao,zap,zax,zbl,zaC]; refine ⟨_,[],⟨rfl,rfl⟩,rfl,?_⟩; refine tg _ ?_
  by_cases e:cl 10 f a b []=[]
  · refine .inl ⟨e,?_⟩
    simp [zab,zW,zY,zZ,zp,zQ,tC',za9,zaR,tB',zaq,zam,zbf,zI,zay,zM,zbj,zac,zv,zae,zah,zbb,zbk,zbe,zag,zbg,zat,zad,zK,zw,zx,za8,zr,zaA,zG,zai,zB,zal,zy,zE,zak,zaa,zbd,zN,zaf,zH,zav,zL,zaw,zu,zar,zC,zm,zF,zn,zaB,zg,zk,zas,zJ,zO,zaz,zbm,zaj,zf,zo,tBr,brN,zD,zz,zA,zau,zt,zan,zbh,zao,zap,zax,zbl,zaC]
    refine tg2 _ (.inl ⟨by rw [← clsw]; exact e,?_⟩)
    rw [← zi5 f10 a10 b10 e]
    refine ⟨true,zqr (znV f10 a10 b10) (by omega),.inl ⟨rfl,p1 _ (p2 _ ?_)⟩⟩
    refine led A1 i1 _ ?_; rw [l1]; refine ⟨true,eqv a a10,.inl ⟨rfl,led B1 i2 _ ?_⟩⟩; rw [l2]
    refine ⟨true,eqv b b10,.inl ⟨rfl,_,_,rfl,rfl,zbo (by rw [List.length_map,List.length_map]; omega),?_⟩⟩
    rw [← List.map_append]; refine led _ i12 _ ?_; rw [j12 e]
    refine ⟨true,zl7 (znV f10 a10 b10) 100 (by omega),.inl ⟨rfl,_,_,rfl,rfl,zbo (by rw [List.length_map,List.length_map]; omega),?_⟩⟩
    rw [← List.map_append]; refine led _ i21 _ ?_; rw [j21 e]
    exact ⟨true,zl7 (znV f10 a10 b10) 100 (by omega),hq⟩
  · refine .inr ⟨e,?_⟩
    simp [zab,zW,zY,zZ,zp,zQ,tC',za9,zaR,tB',zaq,zam,zbf,zI,zay,zM,zbj,zac,zv,zae,zah,zbb,zbk,zbe,zag,zbg,zat,zad,zK,zw,zx,za8,zr,zaA,zG,zai,zB,zal,zy,zE,zak,zaa,zbd,zN,zaf,zH,zav,zL,zaw,zu,zar,zC,zm,zF,zn,zaB,zg,zk,zas,zJ,zO,zaz,zbm,zaj,zf,zo,tBr,brN,zD,zz,zA,zau,zt,zan,zbh,zao,zap,zax,zbl,zaC]
    refine tg2 _ (.inr ⟨by rw [← clsw]; exact e,?_⟩)
    rw [← clsw]; refine ⟨true,zn8 _,.inl ⟨rfl,p1 _ (p2 _ ?_)⟩⟩; refine led A1 i1 _ ?_; rw [l1]; refine ⟨true,eqv a a10,.inl ⟨rfl,led B1 i2 _ ?_⟩⟩; rw [l2]; refine ⟨true,eqv b b10,.inl ⟨rfl,?_⟩⟩; exact ⟨f,a,b,36,rfl,f10,a10,b10,nf,na,nb,e,hq⟩
end
def zon:Sp':=zis
section
variable {P:Program} {w:World} {K:PySem.W.Frag} {mg:Str→Option Value} {base:Heap} {T:Cs}
theorem zrl:FnScope ["_law_script"] ["_law_script"] (zj zf2):=⟨rfl,rfl,rfl,by decide +kernel,rfl,by decide +kernel,by decide +kernel⟩
theorem zr5 (d:Df K mg "law" zf2 ["_law_script"]) (G_law_asked_so:Fn P w K mg base 29 "_law_asked_so" ["_law_script"] (zco T)) (G_law_wide:Fn P w K mg base 1 "_law_wide" ["_law_script"] zdU):Fn P w K mg base 30 "law" ["_law_script"] zon:=by
  refine d.ok zrl (fun ds Q h=>?_) (fun f cdv A outer s H E hr ds Q h=>⟨_,(zh (zR (zaJ G_law_asked_so (hr.mono (by decide)) (za (zaJ G_law_wide (hr.mono (by decide)) (za (pv' 0) zc)) zc)))),?_⟩)
  · obtain ⟨ns,rfl,_⟩:=h
    rfl
  obtain ⟨cs,rfl,hl,hq⟩:=h; simp [zab,zW,zY,zZ,zp,zQ,tC',za9,zaR,tB',zaq,zam,zbf,zI,zay,zM,zbj,zac,zv,zae,zah,zbb,zbk,zbe,zag,zbg,zat,zad,zK,zw,zx,za8,zr,zaA,zG,zai,zB,zal,zy,zE,zak,zaa,zbd,zN,zaf,zH,zav,zL,zaw,zu,zar,zC,zm,zF,zn,zaB,zg,zk,zas,zJ,zO,zaz,zbm,zaj,zf,zo,tBr,brN,zD,zz,zA,zau,zt,zan,zbh,zao,zap,zax,zbl,zaC]
  exact ⟨cs,rfl,hl,fun ms r e=>⟨ms,by rw [e],hq⟩⟩
end
end K84
namespace PL
open PySem L2
def Dn (K:PySem.W.Frag) (x:Str) (st:Stmt):Prop:=∃ f fd,Fun K x x st f fd∧PySem.W.nsIn K mainGlobals x=some (some (.ref f))
section
variable {K:PySem.W.Frag} {x:Str} {st:Stmt}
theorem Dn.mk {f:Addr} {oc:Value} {od an:Option Addr} {osl:Array (Option Value)} {kV doc pm cdv ct:Value} (a:PySem.W.nsIn K mainGlobals x=some (some (.ref f))) (l:K.lookup f=some ⟨oc,od,.func (PySem.W.fnOf x x (zcB st) (zbD st) (zj st) .none kV doc pm an cdv ct),osl⟩) (c:PySem.W.codeIn K cdv x=true) (k:PySem.W.keepIn K (.ref f)=true):Dn K x st:=⟨f,_,zhY l c k,a⟩
theorem Dn.df {h:Heap} {mg:Str→Option Value} (D:Dn K x st) (X:K.In h) (G:h.Ns mainGlobals mg) (ps:List Str) (hb:∀ (kV doc pm:Value) (an:Option Addr) (cdv ct:Value) (us:List Value),us.length=ps.length→bindArgs (PySem.W.fnOf x x (zcB st) (zbD st) (zj st) .none kV doc pm an cdv ct) ⟨us,[]⟩=pure (ps.zip us)):Df K mg x st ps:=by
  obtain ⟨f,fd,F,a⟩:=D; exact ⟨f,fd,F,F.binds hb,PySem.W.mg_of X G a⟩
end
end PL
namespace K84
open PySem L2 Lb PL MT M04 MS M70 M71 M81 M73 M72 M74 M82 M83 M84 M85 M86 M87
section
variable {P:Program} {w:World} {K:PySem.W.Frag} {mg:Str→Option Value} {base:Heap}
theorem zpk:FnScope ["self","place","words"] ["self","place","words"] (zj zbX):=⟨rfl,rfl,rfl,by decide +kernel,rfl,by decide +kernel,by decide +kernel⟩
theorem zl3 {f C:Addr} {fd:FuncData} (F:Fun K "__init__" "Read.__init__" zbX f fd) (cl:Cls K C) (n1:zbO K C "place") (n2:zbO K C "words"):FnOk P w K mg base CX0 1 f fd ["self","place","words"] (zjA C ["place","words"]):=by
  refine F.ok zpk (fun vs H Q E h=>?_) (fun cdv A outer s H vs Q E hr h=>?_)
  · obtain ⟨a,dx,us,rfl,hl,_⟩:=h
    simpa using hl
  · obtain ⟨a,dx,us,rfl,hl,ha,k⟩:=h
    obtain ⟨v1,v2,rfl⟩:∃ v1 v2,us=[v1,v2]:=by
      match us,hl with
      | [v1,v2],_=>exact ⟨v1,v2,rfl⟩
    refine ⟨_,(zgI (zhz (pv 0) (pv 1) rfl) (zgH (zhz (pv 0) (pv 2) rfl))),?_⟩
    refine ⟨_,rfl,_,rfl,a,C,dx,_,rfl,ha,cl,n1,(by show 0<1000; decide),_,rfl,_,rfl,a,C,dx,_,rfl,zP,cl,n2,(by show 1<1000; decide),?_⟩
    have e:zfs "words" v2 (zfs "place" v1 ([]))=List.zip (["place","words"]:List Str) [v1,v2]:=by
      have q1:¬ ("place":Str)="words":=by decide +kernel
      simp only [zfs,if_neg q1]; rfl
    simp only [zgu]; exact e ▸ k
theorem zmU:FnScope ["self","place","node"] ["self","place","node"] (zj zbM):=⟨rfl,rfl,rfl,by decide +kernel,rfl,by decide +kernel,by decide +kernel⟩
theorem zkM {f C:Addr} {fd:FuncData} (F:Fun K "__init__" "PutIn.__init__" zbM f fd) (cl:Cls K C) (n1:zbO K C "place") (n2:zbO K C "node"):FnOk P w K mg base CX0 1 f fd ["self","place","node"] (zjA C ["place","node"]):=by
  refine F.ok zmU (fun vs H Q E h=>?_) (fun cdv A outer s H vs Q E hr h=>?_)
  · obtain ⟨a,dx,us,rfl,hl,_⟩:=h
    simpa using hl
  · obtain ⟨a,dx,us,rfl,hl,ha,k⟩:=h
    obtain ⟨v1,v2,rfl⟩:∃ v1 v2,us=[v1,v2]:=by
      match us,hl with
      | [v1,v2],_=>exact ⟨v1,v2,rfl⟩
    refine ⟨_,(zgI (zhz (pv 0) (pv 1) rfl) (zgH (zhz (pv 0) (pv 2) rfl))),?_⟩
    refine ⟨_,rfl,_,rfl,a,C,dx,_,rfl,ha,cl,n1,(by show 0<1000; decide),_,rfl,_,rfl,a,C,dx,_,rfl,zP,cl,n2,(by show 1<1000; decide),?_⟩
    have e:zfs "node" v2 (zfs "place" v1 ([]))=List.zip (["place","node"]:List Str) [v1,v2]:=by
      have q1:¬ ("place":Str)="node":=by decide +kernel
      simp only [zfs,if_neg q1]; rfl
    simp only [zgu]; exact e ▸ k
theorem zit:FnScope ["self","place"] ["self","place"] (zj zbc):=⟨rfl,rfl,rfl,by decide +kernel,rfl,by decide +kernel,by decide +kernel⟩
theorem zg9 {f C:Addr} {fd:FuncData} (F:Fun K "__init__" "LeaveOut.__init__" zbc f fd) (cl:Cls K C) (n1:zbO K C "place"):FnOk P w K mg base CX0 1 f fd ["self","place"] (zjA C ["place"]):=by
  refine F.ok zit (fun vs H Q E h=>?_) (fun cdv A outer s H vs Q E hr h=>?_)
  · obtain ⟨a,dx,us,rfl,hl,_⟩:=h
    simpa using hl
  · obtain ⟨a,dx,us,rfl,hl,ha,k⟩:=h
    obtain ⟨v1,rfl⟩:∃ v1,us=[v1]:=by
      match us,hl with
      | [v1],_=>exact ⟨v1,rfl⟩
    refine ⟨_,(zgH (zhz (pv 0) (pv 1) rfl)),?_⟩
    refine ⟨_,rfl,_,rfl,a,C,dx,_,rfl,ha,cl,n1,(by show 0<1000; decide),?_⟩
    have e:zfs "place" v1 ([])=List.zip (["place"]:List Str) [v1]:=by
      rfl
    simp only [zgu]; exact e ▸ k
end
theorem all_mk {l:PySem.W.OpenLaw} {w:World} {K:PySem.W.Frag} {h:Heap} {mg:Str→Option Value} {fa f34 j_Read C_Read j_PutIn C_PutIn j_LeaveOut C_LeaveOut :Addr} (X:K.In h) (G:h.Ns mainGlobals mg) (hfa:mg "law"=some (.ref fa))
    {od34 an34:Option Addr} {sl34:Array (Option Value)} {oc34 kV34 dc34 pm34 cd34 ct34:Value}
    {jd_Read jn_Read:Option Addr} {js_Read:Array (Option Value)} {jk_Read jo_Read jm_Read je_Read jt_Read:Value}
    {jd_PutIn jn_PutIn:Option Addr} {js_PutIn:Array (Option Value)} {jk_PutIn jo_PutIn jm_PutIn je_PutIn jt_PutIn:Value}
    {jd_LeaveOut jn_LeaveOut:Option Addr} {js_LeaveOut:Array (Option Value)} {jk_LeaveOut jo_LeaveOut jm_LeaveOut je_LeaveOut jt_LeaveOut:Value}
    {x1:Str} {t1:Tok}
    (D1:Dn K "figures_of" zdq)
    (D2:Dn K "kids_of_all" zc4)
    (D3:Dn K "kid_with" zeD)
    (D4:Dn K "settled" zfn)
    (D5:Dn K "_law_rank" zez)
    (D6:Dn K "_law_mix" zfo)
    (D7:Dn K "_law_word" zdE)
    (D8:Dn K "_law_label" zd2)
    (D9:Dn K "_law_at" ze1)
    (D10:Dn K "_law_wide" zex)
    (D11:Dn K "label_rank" zdn)
    (D12:Dn K "_law_words" zc2)
    (D13:Dn K "read_anew" zd1)
    (D14:Dn K "come_or_gone" zcL)
    (D15:Dn K "_law_kids" zdF)
    (D16:Dn K "kid_labels" zdo)
    (D17:Dn K "_law_node" zeA)
    (D18:Dn K "_law_places" zdm)
    (D19:Dn K "_law_made" zeB)
    (D20:Dn K "_law_changed" zcd)
    (D21:Dn K "_law_put_done" zcJ)
    (D22:Dn K "_law_left_out" zb0)
    (D23:Dn K "_law_clashes" zc3)
    (D24:Dn K "_law_tree" zey)
    (D25:Dn K "_law_done" zeC)
    (D26:Dn K "_law_drafts" zcE)
    (D27:Dn K "_law_led" zfp)
    (D28:Dn K "plain_at" zew)
    (D29:Dn K "plain_changes" zcu)
    (D30:Dn K "joined" ze2)
    (D31:Dn K "together" zev)
    (D32:Dn K "joined_kid" zdp)
    (D33:Dn K "_law_asked_so" zcK)
    (a34:PySem.W.nsIn K mainGlobals "law"=some (some (.ref f34)))
    (l34:K.lookup f34=some ⟨oc34,od34,.func (PySem.W.fnOf "law" "law" (zcB zf2) (zbD zf2) (zj zf2) .none kV34 dc34 pm34 an34 cd34 ct34),sl34⟩)
    (c34:PySem.W.codeIn K cd34 "law"=true)
    (k34:PySem.W.keepIn K (.ref f34)=true)
    (z1:PySem.W.nsIn K mainGlobals "abs"=some none)
    (z2:PySem.W.nsIn K mainGlobals "int"=some none)
    (z3:PySem.W.nsIn K mainGlobals "isinstance"=some none)
    (z4:PySem.W.nsIn K mainGlobals "len"=some none)
    (z5:PySem.W.nsIn K mainGlobals "list"=some none)
    (z6:PySem.W.nsIn K mainGlobals "range"=some none)
    (z7:PySem.W.nsIn K mainGlobals "sorted"=some none)
    (z8:PySem.W.nsIn K mainGlobals "str"=some none)
    (z9:PySem.W.nsIn K mainGlobals "tuple"=some none)
    (g1:PySem.W.nsIn K mainGlobals "SMALL_LETTERS"=some (some (.str x1 t1)))
    (e1:x1=st zqU)
    (aC_Read:PySem.W.nsIn K mainGlobals "Read"=some (some (.ref C_Read)))
    (hdC_Read:PySem.W.hasDictIn K C_Read=true)
    (aI_Read:PySem.W.findIn K (.ref C_Read) "__init__"=some (some (.ref j_Read)))
    (iI_Read:PySem.W.isFn K (.ref j_Read)=true)
    (lI_Read:K.lookup j_Read=some ⟨.type "function",jd_Read,.func (PySem.W.fnOf "__init__" "Read.__init__" (zcB zbX) (zbD zbX) (zj zbX) .none jk_Read jo_Read jm_Read jn_Read je_Read jt_Read),js_Read⟩)
    (cI_Read:PySem.W.codeIn K je_Read "Read.__init__"=true)
    (kI_Read:PySem.W.keepIn K (.ref j_Read)=true)
    (pg_Read:PySem.W.plainGet K C_Read Str.empty=true)
    (po_Read:PySem.W.plainOver K C_Read=true)
    (sa_Read:PySem.W.findIn K (.ref C_Read) "__setattr__"=some (some (.builtin "object.__setattr__")))
    (mk_Read:PySem.W.makesIn K C_Read=true)
    (kc_Read:PySem.W.keepIn K (.ref C_Read)=true)
    (n_Read_place:PySem.W.findIn K (.ref C_Read) "place"=some none)
    (n_Read_words:PySem.W.findIn K (.ref C_Read) "words"=some none)
    (aC_PutIn:PySem.W.nsIn K mainGlobals "PutIn"=some (some (.ref C_PutIn)))
    (hdC_PutIn:PySem.W.hasDictIn K C_PutIn=true)
    (aI_PutIn:PySem.W.findIn K (.ref C_PutIn) "__init__"=some (some (.ref j_PutIn)))
    (iI_PutIn:PySem.W.isFn K (.ref j_PutIn)=true)
    (lI_PutIn:K.lookup j_PutIn=some ⟨.type "function",jd_PutIn,.func (PySem.W.fnOf "__init__" "PutIn.__init__" (zcB zbM) (zbD zbM) (zj zbM) .none jk_PutIn jo_PutIn jm_PutIn jn_PutIn je_PutIn jt_PutIn),js_PutIn⟩)
    (cI_PutIn:PySem.W.codeIn K je_PutIn "PutIn.__init__"=true)
    (kI_PutIn:PySem.W.keepIn K (.ref j_PutIn)=true)
    (pg_PutIn:PySem.W.plainGet K C_PutIn Str.empty=true)
    (po_PutIn:PySem.W.plainOver K C_PutIn=true)
    (sa_PutIn:PySem.W.findIn K (.ref C_PutIn) "__setattr__"=some (some (.builtin "object.__setattr__")))
    (mk_PutIn:PySem.W.makesIn K C_PutIn=true)
    (kc_PutIn:PySem.W.keepIn K (.ref C_PutIn)=true)
    (n_PutIn_place:PySem.W.findIn K (.ref C_PutIn) "place"=some none)
    (n_PutIn_node:PySem.W.findIn K (.ref C_PutIn) "node"=some none)
    (aC_LeaveOut:PySem.W.nsIn K mainGlobals "LeaveOut"=some (some (.ref C_LeaveOut)))
    (hdC_LeaveOut:PySem.W.hasDictIn K C_LeaveOut=true)
    (aI_LeaveOut:PySem.W.findIn K (.ref C_LeaveOut) "__init__"=some (some (.ref j_LeaveOut)))
    (iI_LeaveOut:PySem.W.isFn K (.ref j_LeaveOut)=true)
    (lI_LeaveOut:K.lookup j_LeaveOut=some ⟨.type "function",jd_LeaveOut,.func (PySem.W.fnOf "__init__" "LeaveOut.__init__" (zcB zbc) (zbD zbc) (zj zbc) .none jk_LeaveOut jo_LeaveOut jm_LeaveOut jn_LeaveOut je_LeaveOut jt_LeaveOut),js_LeaveOut⟩)
    (cI_LeaveOut:PySem.W.codeIn K je_LeaveOut "LeaveOut.__init__"=true)
    (kI_LeaveOut:PySem.W.keepIn K (.ref j_LeaveOut)=true)
    (pg_LeaveOut:PySem.W.plainGet K C_LeaveOut Str.empty=true)
    (po_LeaveOut:PySem.W.plainOver K C_LeaveOut=true)
    (sa_LeaveOut:PySem.W.findIn K (.ref C_LeaveOut) "__setattr__"=some (some (.builtin "object.__setattr__")))
    (mk_LeaveOut:PySem.W.makesIn K C_LeaveOut=true)
    (kc_LeaveOut:PySem.W.keepIn K (.ref C_LeaveOut)=true)
    (n_LeaveOut_place:PySem.W.findIn K (.ref C_LeaveOut) "place"=some none)
    (hn:PySem.W.specialIn K (.builtin "object.__class__") "__get__"=some (some (.builtin "getset_descriptor.__get__")))
    (htk:PySem.W.takesIn K (.builtin "object.__class__")=some true)
    (ty_Read:PySem.W.typeIn K (.ref C_Read)=some (.type "type"))
    (ha_Read:PySem.W.findIn K (.ref C_Read) "__class__"=some (some (.builtin "object.__class__")))
    (hm_Read:PySem.W.mroIn K C_Read (.type "object")=some true)
    (ty_PutIn:PySem.W.typeIn K (.ref C_PutIn)=some (.type "type"))
    (ha_PutIn:PySem.W.findIn K (.ref C_PutIn) "__class__"=some (some (.builtin "object.__class__")))
    (hm_PutIn:PySem.W.mroIn K C_PutIn (.type "object")=some true)
    (ty_LeaveOut:PySem.W.typeIn K (.ref C_LeaveOut)=some (.type "type"))
    (ha_LeaveOut:PySem.W.findIn K (.ref C_LeaveOut) "__class__"=some (some (.builtin "object.__class__")))
    (hm_LeaveOut:PySem.W.mroIn K C_LeaveOut (.type "object")=some true)
    (q_Read_PutIn:PySem.W.mroIn K C_Read (.ref C_PutIn)=some false)
    (r_Read_PutIn:(Value.ref C_Read == Value.ref C_PutIn)=false)
    (q_PutIn_Read:PySem.W.mroIn K C_PutIn (.ref C_Read)=some false)
    (r_PutIn_Read:(Value.ref C_PutIn == Value.ref C_Read)=false)
    (q_PutIn_LeaveOut:PySem.W.mroIn K C_PutIn (.ref C_LeaveOut)=some false)
    (r_PutIn_LeaveOut:(Value.ref C_PutIn == Value.ref C_LeaveOut)=false)
    (q_LeaveOut_Read:PySem.W.mroIn K C_LeaveOut (.ref C_Read)=some false)
    (r_LeaveOut_Read:(Value.ref C_LeaveOut == Value.ref C_Read)=false)
    (q_LeaveOut_PutIn:PySem.W.mroIn K C_LeaveOut (.ref C_PutIn)=some false)
    (r_LeaveOut_PutIn:(Value.ref C_LeaveOut == Value.ref C_PutIn)=false)
    :
    ∃ fd:FuncData,(∀ (s:Shared) (v:Value),BindsTo s fd ⟨[v],[]⟩ [("_law_script",v)])∧∀ base:Heap,K.In base→base.Ns mainGlobals mg→FnOk l.prog w K mg base CX0 30 fa fd ["_law_script"] (zmz K zis):=by
  subst e1
  have d1:=D1.df X G ["label"] fun _ _ _ _ _ _ us hl=>match us,hl with | [_],_=>rfl
  have d2:=D2.df X G ["nodes"] fun _ _ _ _ _ _ us hl=>match us,hl with | [_],_=>rfl
  have d3:=D3.df X G ["node","label"] fun _ _ _ _ _ _ us hl=>match us,hl with | [_,_],_=>rfl
  have d4:=D4.df X G ["first","one","other","place","clashes"] fun _ _ _ _ _ _ us hl=>match us,hl with | [_,_,_,_,_],_=>rfl
  have d5:=D5.df X G ["_law_label_here"] fun _ _ _ _ _ _ us hl=>match us,hl with | [_],_=>rfl
  have d6:=D6.df X G ["_law_cell","_law_factor"] fun _ _ _ _ _ _ us hl=>match us,hl with | [_,_],_=>rfl
  have d7:=D7.df X G ["_law_number"] fun _ _ _ _ _ _ us hl=>match us,hl with | [_],_=>rfl
  have d8:=D8.df X G ["_law_number"] fun _ _ _ _ _ _ us hl=>match us,hl with | [_],_=>rfl
  have d9:=D9.df X G ["_law_node_here","_law_place"] fun _ _ _ _ _ _ us hl=>match us,hl with | [_,_],_=>rfl
  have d10:=D10.df X G ["_law_script"] fun _ _ _ _ _ _ us hl=>match us,hl with | [_],_=>rfl
  have d11:=D11.df X G ["label"] fun _ _ _ _ _ _ us hl=>match us,hl with | [_],_=>rfl
  have d12:=D12.df X G ["_law_number"] fun _ _ _ _ _ _ us hl=>match us,hl with | [_],_=>rfl
  have d13:=D13.df X G ["one","other","place"] fun _ _ _ _ _ _ us hl=>match us,hl with | [_,_,_],_=>rfl
  have d14:=D14.df X G ["one","other","above"] fun _ _ _ _ _ _ us hl=>match us,hl with | [_,_,_],_=>rfl
  have d15:=D15.df X G ["_law_kids_here"] fun _ _ _ _ _ _ us hl=>match us,hl with | [_],_=>rfl
  have d16:=D16.df X G ["nodes"] fun _ _ _ _ _ _ us hl=>match us,hl with | [_],_=>rfl
  have d17:=D17.df X G ["_law_number"] fun _ _ _ _ _ _ us hl=>match us,hl with | [_],_=>rfl
  have d18:=D18.df X G ["_law_node_here","_law_place"] fun _ _ _ _ _ _ us hl=>match us,hl with | [_,_],_=>rfl
  have d19:=D19.df X G ["_law_node_here","_law_place","_law_words_here","_law_kids_here"] fun _ _ _ _ _ _ us hl=>match us,hl with | [_,_,_,_],_=>rfl
  have d20:=D20.df X G ["_law_tree_here","_law_cell"] fun _ _ _ _ _ _ us hl=>match us,hl with | [_,_],_=>rfl
  have d21:=D21.df X G ["_law_tree_here","_law_place","_law_kid"] fun _ _ _ _ _ _ us hl=>match us,hl with | [_,_,_],_=>rfl
  have d22:=D22.df X G ["_law_tree_here","_law_place"] fun _ _ _ _ _ _ us hl=>match us,hl with | [_,_],_=>rfl
  have d23:=D23.df X G ["_law_found","_law_trees"] fun _ _ _ _ _ _ us hl=>match us,hl with | [_,_],_=>rfl
  have d24:=D24.df X G ["_law_cells"] fun _ _ _ _ _ _ us hl=>match us,hl with | [_],_=>rfl
  have d25:=D25.df X G ["_law_tree_here","_law_change"] fun _ _ _ _ _ _ us hl=>match us,hl with | [_,_],_=>rfl
  have d26:=D26.df X G ["_law_script"] fun _ _ _ _ _ _ us hl=>match us,hl with | [_],_=>rfl
  have d27:=D27.df X G ["_law_tree_here","_law_changes"] fun _ _ _ _ _ _ us hl=>match us,hl with | [_,_],_=>rfl
  have d28:=D28.df X G ["one","other","place"] fun _ _ _ _ _ _ us hl=>match us,hl with | [_,_,_],_=>rfl
  have d29:=D29.df X G ["one","other"] fun _ _ _ _ _ _ us hl=>match us,hl with | [_,_],_=>rfl
  have d30:=D30.df X G ["first","one","other","place","clashes"] fun _ _ _ _ _ _ us hl=>match us,hl with | [_,_,_,_,_],_=>rfl
  have d31:=D31.df X G ["first","one","other"] fun _ _ _ _ _ _ us hl=>match us,hl with | [_,_,_],_=>rfl
  have d32:=D32.df X G ["three","place","clashes"] fun _ _ _ _ _ _ us hl=>match us,hl with | [_,_,_],_=>rfl
  have d33:=D33.df X G ["_law_script"] fun _ _ _ _ _ _ us hl=>match us,hl with | [_],_=>rfl
  have F34:=zhY (st:=zf2) l34 c34 k34; have m34:=PySem.W.mg_of X G a34
  have b34:=F34.binds (ps:=["_law_script"]) fun _ _ _ _ _ _ us hl=>match us,hl with | [_],_=>rfl
  have d34:Df K mg "law" zf2 ["_law_script"]:=⟨f34,_,F34,b34,m34⟩
  have z_abs:=PySem.W.mg_none_of X G z1; have z_int:=PySem.W.mg_none_of X G z2; have z_isinstance:=PySem.W.mg_none_of X G z3; have z_len:=PySem.W.mg_none_of X G z4; have z_list:=PySem.W.mg_none_of X G z5; have z_range:=PySem.W.mg_none_of X G z6; have z_sorted:=PySem.W.mg_none_of X G z7; have z_str:=PySem.W.mg_none_of X G z8; have z_tuple:=PySem.W.mg_none_of X G z9; have g_SMALL_LETTERS:=PySem.W.mg_of X G g1; have m_Read:=PySem.W.mg_of X G aC_Read
  have cl_Read:Cls K C_Read:=⟨pg_Read,hdC_Read,po_Read,sa_Read⟩
  have FI_Read:=zhY (st:=zbX) lI_Read cI_Read kI_Read
  have bI_Read:=FI_Read.binds (ps:=["self","place","words"]) fun _ _ _ _ _ _ us hl=>match us,hl with | [_,_,_],_=>rfl
  have m_PutIn:=PySem.W.mg_of X G aC_PutIn
  have cl_PutIn:Cls K C_PutIn:=⟨pg_PutIn,hdC_PutIn,po_PutIn,sa_PutIn⟩
  have FI_PutIn:=zhY (st:=zbM) lI_PutIn cI_PutIn kI_PutIn
  have bI_PutIn:=FI_PutIn.binds (ps:=["self","place","node"]) fun _ _ _ _ _ _ us hl=>match us,hl with | [_,_,_],_=>rfl
  have m_LeaveOut:=PySem.W.mg_of X G aC_LeaveOut
  have cl_LeaveOut:Cls K C_LeaveOut:=⟨pg_LeaveOut,hdC_LeaveOut,po_LeaveOut,sa_LeaveOut⟩
  have FI_LeaveOut:=zhY (st:=zbc) lI_LeaveOut cI_LeaveOut kI_LeaveOut
  have bI_LeaveOut:=FI_LeaveOut.binds (ps:=["self","place"]) fun _ _ _ _ _ _ us hl=>match us,hl with | [_,_],_=>rfl
  have cf:CF K ⟨C_Read,C_PutIn,C_LeaveOut⟩:=⟨⟨cl_Read,ha_Read,hn,htk,hm_Read⟩,⟨cl_PutIn,ha_PutIn,hn,htk,hm_PutIn⟩,⟨cl_LeaveOut,ha_LeaveOut,hn,htk,hm_LeaveOut⟩,n_Read_place,n_Read_words,n_PutIn_place,n_PutIn_node,n_LeaveOut_place,zg4,zfN hdC_PutIn ty_PutIn q_Read_PutIn (.inr r_Read_PutIn),zfN hdC_Read ty_Read q_PutIn_Read (.inr r_PutIn_Read),zg4,zfN hdC_LeaveOut ty_LeaveOut q_PutIn_LeaveOut (.inr r_PutIn_LeaveOut),zfN hdC_Read ty_Read q_LeaveOut_Read (.inr r_LeaveOut_Read),zfN hdC_PutIn ty_PutIn q_LeaveOut_PutIn (.inr r_LeaveOut_PutIn),zg4⟩
  have e:=hfa.symm.trans m34; cases e
  refine ⟨PySem.W.fnOf "law" "law" (zcB zf2) (zbD zf2) (zj zf2) .none kV34 dc34 pm34 an34 cd34 ct34,fun s v=>.of_eq rfl,fun base _ _=>?_⟩
  have M_Read:Mak l.prog w K mg base 1 "Read" C_Read ["place","words"]:=⟨j_Read,_,["self","place","words"],⟨mk_Read,aI_Read,iI_Read,kc_Read⟩,zl3 FI_Read cl_Read n_Read_place n_Read_words,bI_Read,m_Read⟩
  have M_PutIn:Mak l.prog w K mg base 1 "PutIn" C_PutIn ["place","node"]:=⟨j_PutIn,_,["self","place","node"],⟨mk_PutIn,aI_PutIn,iI_PutIn,kc_PutIn⟩,zkM FI_PutIn cl_PutIn n_PutIn_place n_PutIn_node,bI_PutIn,m_PutIn⟩
  have M_LeaveOut:Mak l.prog w K mg base 1 "LeaveOut" C_LeaveOut ["place"]:=⟨j_LeaveOut,_,["self","place"],⟨mk_LeaveOut,aI_LeaveOut,iI_LeaveOut,kc_LeaveOut⟩,zg9 FI_LeaveOut cl_LeaveOut n_LeaveOut_place,bI_LeaveOut,m_LeaveOut⟩
  have G_figures_of:Fn l.prog w K mg base 1 "figures_of" ["label"] zcc:=zgW d1 g_SMALL_LETTERS
  have G_kids_of_all:Fn l.prog w K mg base 1 "kids_of_all" ["nodes"] zbZ:=zf6 d2 
  have G_kid_with:Fn l.prog w K mg base 1 "kid_with" ["node","label"] zbz:=ziR d3 
  have G_settled:FnM l.prog w K mg base 1 "settled" ["first","one","other","place","clashes"] 4 zcO:=zkA d4 
  have G_law_rank:Fn l.prog w K mg base 1 "_law_rank" ["_law_label_here"] zck:=ziM d5 z_int z_len
  have G_law_mix:Fn l.prog w K mg base 1 "_law_mix" ["_law_cell","_law_factor"] zcP:=zkB d6 
  have G_law_word:Fn l.prog w K mg base 1 "_law_word" ["_law_number"] zbV:=ziJ d7 z_range
  have G_law_label:Fn l.prog w K mg base 1 "_law_label" ["_law_number"] zcD:=zhJ d8 z_str
  have G_law_at:Fn l.prog w K mg base 1 "_law_at" ["_law_node_here","_law_place"] zcn:=zlF d9 
  have G_law_wide:Fn l.prog w K mg base 1 "_law_wide" ["_law_script"] zdU:=ziK d10 z_abs z_len
  have G_label_rank:Fn l.prog w K mg base 2 "label_rank" ["label"] zca:=zgT d11 G_figures_of z_int z_len
  have G_law_words:Fn l.prog w K mg base 2 "_law_words" ["_law_number"] zaV:=zhI d12 G_law_word z_range z_tuple
  have G_read_anew:Fn l.prog w K mg base 3 "read_anew" ["one","other","place"] (zdk ⟨C_Read,C_PutIn,C_LeaveOut⟩):=zhH (T:=⟨C_Read,C_PutIn,C_LeaveOut⟩) d13 cf M_Read
  have G_come_or_gone:Fn l.prog w K mg base 3 "come_or_gone" ["one","other","above"] (zbQ ⟨C_Read,C_PutIn,C_LeaveOut⟩):=zfD (T:=⟨C_Read,C_PutIn,C_LeaveOut⟩) d14 cf M_LeaveOut M_PutIn
  have G_law_kids:Fn l.prog w K mg base 4 "_law_kids" ["_law_kids_here"] zbW:=ziP d15 G_law_rank z_sorted z_tuple
  have G_kid_labels:Fn l.prog w K mg base 5 "kid_labels" ["nodes"] zcb:=zgU d16 G_label_rank G_kids_of_all z_list z_sorted
  have G_law_node:Fn l.prog w K mg base 5 "_law_node" ["_law_number"] zdW:=ziN d17 G_law_words G_law_label G_law_kids
  have G_law_places:Fn l.prog w K mg base 11 "_law_places" ["_law_node_here","_law_place"] (zbn 10):=zgR d18  10
  have G_law_made:Fn l.prog w K mg base 11 "_law_made" ["_law_node_here","_law_place","_law_words_here","_law_kids_here"] (zaH 10):=ziO d19 z_tuple 10
  have G_law_changed:Fn l.prog w K mg base 12 "_law_changed" ["_law_tree_here","_law_cell"] za6:=zf5 d20 G_law_mix G_law_words G_law_kids G_law_node G_law_places G_law_at G_law_made z_len z_tuple
  have G_law_put_done:Fn l.prog w K mg base 12 "_law_put_done" ["_law_tree_here","_law_place","_law_kid"] zcl:=zfz d21 G_law_kids G_law_at G_law_made
  have G_law_left_out:Fn l.prog w K mg base 12 "_law_left_out" ["_law_tree_here","_law_place"] zcm:=zfA d22 G_law_at G_law_made z_tuple
  have G_law_clashes:Fn l.prog w K mg base 12 "_law_clashes" ["_law_found","_law_trees"] zcH:=zf4 d23 G_law_places z_isinstance z_len z_list z_range
  have G_law_tree:Fn l.prog w K mg base 13 "_law_tree" ["_law_cells"] zdV:=ziL d24 G_law_changed
  have G_law_done:Fn l.prog w K mg base 13 "_law_done" ["_law_tree_here","_law_change"] (zcX ⟨C_Read,C_PutIn,C_LeaveOut⟩):=ziQ (T:=⟨C_Read,C_PutIn,C_LeaveOut⟩) d25 cf G_law_at G_law_made G_law_put_done G_law_left_out z_isinstance m_LeaveOut m_PutIn m_Read
  have G_law_drafts:Fn l.prog w K mg base 14 "_law_drafts" ["_law_script"] zcW:=zgS d26 G_law_mix G_law_changed G_law_tree
  have G_law_led:Fn l.prog w K mg base 14 "_law_led" ["_law_tree_here","_law_changes"] (zdC ⟨C_Read,C_PutIn,C_LeaveOut⟩):=zkC (T:=⟨C_Read,C_PutIn,C_LeaveOut⟩) d27 cf G_law_done
  have G_plain_at:Fn l.prog w K mg base 16 "plain_at" ["one","other","place"] (zcj ⟨C_Read,C_PutIn,C_LeaveOut⟩ 10):=ziI (T:=⟨C_Read,C_PutIn,C_LeaveOut⟩) d28 cf G_kid_with G_kid_labels G_read_anew G_come_or_gone 10
  have G_plain_changes:Fn l.prog w K mg base 17 "plain_changes" ["one","other"] (zbu ⟨C_Read,C_PutIn,C_LeaveOut⟩):=zeX (T:=⟨C_Read,C_PutIn,C_LeaveOut⟩) d29 cf G_plain_at
  have S_joined_kid:=zgV (P:=l.prog) (w:=w) (base:=base) d32 G_settled
  have G_joined:FnM l.prog w K mg base 27 "joined" ["first","one","other","place","clashes"] 4 (zcQ 10):=zlG d30 G_kid_with G_kid_labels G_settled z_tuple S_joined_kid 10
  have G_together:Fn l.prog w K mg base 28 "together" ["first","one","other"] zci:=ziH d31 G_joined z_len
  have G_law_asked_so:Fn l.prog w K mg base 29 "_law_asked_so" ["_law_script"] (zco ⟨C_Read,C_PutIn,C_LeaveOut⟩):=zfB (T:=⟨C_Read,C_PutIn,C_LeaveOut⟩) d33 cf G_plain_changes G_together G_law_drafts G_law_led G_law_clashes z_isinstance z_len z_tuple
  have G_law:Fn l.prog w K mg base 30 "law" ["_law_script"] zon:=zr5 (T:=⟨C_Read,C_PutIn,C_LeaveOut⟩) d34 G_law_asked_so G_law_wide
  exact zsf m34 l34 base G_law
end K84
namespace PySem.W.Fast
def tw1160459264193367011:=0
def tw13157283326612456508:=0
def tw5422041127313166055:=0
def tw118173373994036448:=0
def tw7652775585110590483:=0
def tw12581766757643524300:=0
def tw14940881612323677548:=0
def tw16473211364998968557:=0
def tw4443015238929832425:=0
def tw13195868472702377285:=0
def tw16189712559945346721:=0
def tw9714461050557529228:=0
def tw16679346798446419342:=0
def tw17897969247282625898:=0
def tw1726704208433209922:=0
def tw260159284354939464:=0
def tw9696579088402955442:=0
def tw7745436721067536033:=0
def tw2107153811015710249:=0
def tw12080362570002520839:=0
def tw5508221647036557000:=0
def tw4080306371922344008:=0
def tw8793187453115217931:=0
def tw4687763340745243903:=0
def tw12211585160604644264:=0
def tw1789952075362126951:=0
def tw10003743466449126244:=0
def tw3470535229962072311:=0
def tw2606062012660844197:=0
def tw7668339619539485775:=0
def tw4480849419138032096:=0
def tw11491561225902429835:=0
def tw18298159603144750428:=0
def tw17395975954071564803:=0
def tw16435437680686949047:=0
def tw6970955178027169383:=0
def tw3298153496838349784:=0
def tw14372238255481141267:=0
def tw14319107008219219270:=0
def tw4013191819394996433:=0
def tw13093477888110289766:=0
def tw9687258216253766865:=0
def tw16220696504535782161:=0
def tw2743139152812143078:=0
def tw16818471007279830289:=0
def tw12659284055786163400:=0
def tw16634380298547419507:=0
def tw13630532810746909280:=0
def tw8105700495363309708:=0
def tw6062244875444128528:=0
def tw12823436426723025806:=0
def tw11181311471330728958:=0
def tw10498870552130037336:=0
def tw8619674463499855136:=0
def tw10493936045560476832:=0
def tw17339824857347102001:=0
def tw16700489881847047516:=0
def tw6719861018266869510:=0
def tw7739840602944726237:=0
def tw16089103747759429320:=0
def tw12153801630128617993:=0
def tw11982335590346812480:=0
def tw9712646923085597161:=0
def tw1611057046898062987:=0
def tw481774528471362675:=0
def tw6586397197664570036:=0
def tw11920843837361370527:=0
def tw7076879123653816058:=0
def tw10155280063776920062:=0
def tw18121141025880348384:=0
def tw13345567333924971676:=0
def tw382935428852798097:=0
def tw9218214402305365536:=0
def tw16590772532987913838:=0
def tw2404695935551112442:=0
def tw4799433269259071779:=0
def tw14631524232946376978:=0
def tw10521657693510028166:=0
def tw1217811150222465522:=0
def tw16192954795431921777:=0
def tw18210276531630718723:=0
def tw6955543144873661847:=0
def tw17325198856790730320:=0
def tw13274088917546043411:=0
def tw13778173007866752358:=0
def tw5865261994667854228:=0
def tw13838255888828909213:=0
def tw12626336891399574081:=0
def tw9809715157203325348:=0
def tw11116919708459388348:=0
def tw8741921343385939826:=0
def tw18129061666457261159:=0
def tw12270633199185399772:=0
def tw6562019485714063808:=0
def tw3917641976066944813:=0
def tw10571758390699577502:=0
def tw15674513040142606159:=0
def tw17602770387541115971:=0
def tw13298914921575766158:=0
def tw10174514176995392254:=0
def tw8449322521559132847:=0
def tw13358904536360328223:=0
def tw10382081039870128735:=0
def tw16113708502306037967:=0
def tw7148076010836384603:=0
def tw18161268799276377550:=0
def tw3686928684374434983:=0
def tw15908786827557007342:=0
def tw9133043850840191920:=0
def tw12889208304968377893:=0
def tw2032626099049068372:=0
def tw4420159450284285415:=0
def tw11009275022211740550:=0
def tw8438397187695520494:=0
def tw8744498974951384655:=0
def tw9855807399026174753:=0
def tw3173385943265376506:=0
def tw14225982517318575112:=0
def tw5259937742603064413:=0
def tw1123325536850517227:=0
def tw6557139775800257132:=0
def tw3046665897685235135:=0
def tw8017747598808722363:=0
def tw10382108531752617273:=0
def tw4817685123639119333:=0
def tw7547518739447833773:=0
def tw18443221697281292651:=0
def tw10390136624527414836:=0
def tw4588085998793253925:=0
def tw3358951773704999315:=0
def tw8392908089780244476:=0
def tw17629849104069396878:=0
def tw13287329587621077974:=0
def tw2763598223616112415:=0
def tw4378948476538322854:=0
def tw16862312890467561939:=0
def tw16660185415072856066:=0
def tw14512177594857306798:=0
def tw14779000040980859516:=0
def tw6165997830366507589:=0
def tw13925076466534164792:=0
def tw12356353339583534793:=0
def tw14880581210353900986:=0
def tw1484022744789696019:=0
def tw16698394746303652058:=0
def tw11009986853556212782:=0
def tw12005272496360037388:=0
def tw12559737492575468768:=0
def tw12742133789900416003:=0
def tw3189711688046858954:=0
def tw12448169977576622105:=0
def tw3811394849806044301:=0
def tw16847778311625262512:=0
def tw3808140173972708804:=0
def tw3559815823503610834:=0
def tw638445455106127450:=0
def tw10303875276600577577:=0
def tw2077614118466998774:=0
def tw8252623828619244016:=0
def tw10510268217099337144:=0
def tw5997928316671121798:=0
def tw11649998143607366699:=0
def tw7740326023652686844:=0
def tw5317354516374622810:=0
def tw12758890552492241416:=0
def tw17393592110381843153:=0
def tw7707412844260014140:=0
def tw12074712597405849613:=0
def tw3557848802929383918:=0
def tw10172938497960703981:=0
def tw16277145643646768970:=0
def tw9593776031419655549:=0
def tw489424948163316641:=0
def tw5223576540183257351:=0
def tw2060631697022775657:=0
def tw15775797818168456933:=0
def tw6356530001748435179:=0
def tw17764269910044947695:=0
def tw4665809467225910338:=0
def tw3444808036286656922:=0
def tw13710210693601009832:=0
def tw9837690835936665731:=0
def tw3804933204281743643:=0
def tw2319415658246681280:=0
def tw10585639962298900431:=0
def tw8741203539120894682:=0
def tw9306563879880289632:=0
def tw4813411390353374481:=0
def tw12433709898712621902:=0
def tw14418348279894051403:=0
def tw4136384165493133319:=0
def tw1860971250517629487:=0
def tw13263529447015012640:=0
def tw6046500140246002126:=0
def tw2576640972844599128:=0
def tw9745586337747677457:=0
def tw13740896477003277262:=0
def tw12845429371034078883:=0
def tw7430931450837103668:=0
def tw10045513316056133702:=0
def tw14491573159527716275:=0
def tw15918034431942925168:=0
def tw3647682347710917797:=0
def tw16046154845360977166:=0
def tw7145371250946389978:=0
def tw16459604432217745549:=0
def tw17253329679209921285:=0
def tw3373183429543056720:=0
def tw12548411769203948823:=0
def tw9989910902835204884:=0
def tw16934988485048619406:=0
def tw13176802503481613783:=0
def tw2692007713062975830:=0
def tw3742182695437156200:=0
def tw9494914725251434340:=0
def tw8945846313839779658:=0
def tw11825811114595012700:=0
def tw1971444420229956943:=0
def tw17399943465434796654:=0
def tw15702788390047580175:=0
def tw10583525528649094362:=0
def tw9401758600692847291:=0
def tw9411476895047359370:=0
def tw10313847026830029997:=0
def tw1711256812399940401:=0
def tw6184893097818815701:=0
def tw4288428128812539455:=0
def tw9915504276742680905:=0
def tw3840948232693521901:=0
def tw9122707399736496333:=0
def tw6368477506768739476:=0
def tw5131869970516409533:=0
def tw8128747613252523095:=0
def tw14427148272099508679:=0
def tw17298478384273056438:=0
def tw3873876449193444522:=0
def tw7479869236720302997:=0
def tw12751994888442996976:=0
def tw665063615843424976:=0
def tw14531682754899770948:=0
def tw2035050133631763872:=0
def tw10293093730037390277:=0
def tw5148127435731040339:=0
def tw2945341478890639631:=0
def tw14885490068017662875:=0
def tw2720179860685082702:=0
def tw4895500052405006159:=0
def tw3906094717025422183:=0
def tw13803198378293568467:=0
def tw532987566162774824:=0
def tw17244953244606958368:=0
def tw3304043994840285118:=0
def tw13063637993848020074:=0
def tw14587242174060240822:=0
def tw2115490067508233780:=0
def tw16114335698882207735:=0
def tw9296837652442579333:=0
def tw6938567067842995617:=0
def tw7206471563932119929:=0
def tw14883242594042186266:=0
def tw3253284604097371525:=0
def tw3933692835010173468:=0
def tw6269450667873337658:=0
def tw17196965575936863159:=0
def tw920272097371343434:=0
def tw18016389091082688409:=0
def tw15928397300641051640:=0
def tw1635219007751881347:=0
def tw1349587833960632255:=0
def tw7868780597646140763:=0
def tw16877673301620359592:=0
def tw6198854634323036992:=0
def tw13047494519083242463:=0
def tw12660567316415631021:=0
def tw17912074118185421878:=0
def tw14021819303313567186:=0
def tw13064479189247041570:=0
def tw2659885167593868781:=0
def tw2993398660338327391:=0
def tw15758483195531894615:=0
def tw1054165697906834804:=0
def tw4206287285500174787:=0
def tw10521389196764197388:=0
def tw16383813574130668825:=0
def tw463663499078428669:=0
def tw4990465369841626648:=0
def tw8686595965037251811:=0
def tw5814702058138930531:=0
def tw1292880578876119504:=0
def tw2245144030650680288:=0
def tw205251864303051707:=0
def tw18016435068521436624:=0
def tw7424813314795477861:=0
def tw8267861225719871392:=0
def tw4245601812867014706:=0
def tw14679577716035987866:=0
def tw7939975974680586397:=0
def tw14420485433683092270:=0
def tw14245456180053860538:=0
def tw12349019666848212751:=0
def tw16326513433696031189:=0
def tw17184753075642641338:=0
def tw171163648834399355:=0
def tw12918629644574488115:=0
def tw7865779034128283606:=0
def tw17080556023372276914:=0
def tw1646656226543565365:=0
def tw18147184952796160663:=0
def tw15530073325890947503:=0
def tw8379900887113201680:=0
def tw5882886336593940320:=0
def tw4069746580291429222:=0
def tw536336354629693010:=0
def tw6224137716976194284:=0
def tw4829798564533925257:=0
def tw7412979706027962732:=0
def tw12020141302432103776:=0
def tw12472398869232704521:=0
def tw4434135630354153836:=0
def tw713955812088142215:=0
def tw15236620396967178441:=0
def tw11189411227371564542:=0
def tw10540542894507525723:=0
def tw1153871010436114626:=0
def tw12925499657846913620:=0
def tw16664003843294746422:=0
def tw14831011576105792773:=0
def tw1160701140566321003:=0
def tw4303040938992702761:=0
def tw9984965561105279429:=0
def tw4236007567032674802:=0
def tw7018143277038114119:=0
end PySem.W.Fast
open PySem PySem.W PyProof.Rows
set_option maxRecDepth 100000 in
set_option maxHeartbeats 0 in
theorem PySem.Challenge.cw_codemend_k84_whole_either_order_holds : PySem.Challenge.rw_codemend_k84_whole_either_order.Holds := by
  w_on; o_law; k_head; (case hw=>w_witness2)
  k_fill
  refine PL.walk_law (l:=PySem.Challenge.rw_codemend_k84_whole_either_order) (k:=30) (x:="_law_script") rfl rfl ⟨rfl,by decide,by decide⟩ (fun w h Y=>PySem.W.kIn_of Y) ?F
  case F =>
    intro w mg fa h KX G hmg
    refine' K84.all_mk KX G hmg ?D1 ?D2 ?D3 ?D4 ?D5 ?D6 ?D7 ?D8 ?D9 ?D10 ?D11 ?D12 ?D13 ?D14 ?D15 ?D16 ?D17 ?D18 ?D19 ?D20 ?D21 ?D22 ?D23 ?D24 ?D25 ?D26 ?D27 ?D28 ?D29 ?D30 ?D31 ?D32 ?D33 ?a34 ?l34 ?c34 ?k34 ?z1 ?z2 ?z3 ?z4 ?z5 ?z6 ?z7 ?z8 ?z9 ?g1 ?e1 ?aC_Read ?hdC_Read ?aI_Read ?iI_Read ?lI_Read ?cI_Read ?kI_Read ?pg_Read ?po_Read ?sa_Read ?mk_Read ?kc_Read ?n_Read_place ?n_Read_words ?aC_PutIn ?hdC_PutIn ?aI_PutIn ?iI_PutIn ?lI_PutIn ?cI_PutIn ?kI_PutIn ?pg_PutIn ?po_PutIn ?sa_PutIn ?mk_PutIn ?kc_PutIn ?n_PutIn_place ?n_PutIn_node ?aC_LeaveOut ?hdC_LeaveOut ?aI_LeaveOut ?iI_LeaveOut ?lI_LeaveOut ?cI_LeaveOut ?kI_LeaveOut ?pg_LeaveOut ?po_LeaveOut ?sa_LeaveOut ?mk_LeaveOut ?kc_LeaveOut ?n_LeaveOut_place ?hn ?htk ?ty_Read ?ha_Read ?hm_Read ?ty_PutIn ?ha_PutIn ?hm_PutIn ?ty_LeaveOut ?ha_LeaveOut ?hm_LeaveOut ?q_Read_PutIn ?r_Read_PutIn ?q_PutIn_Read ?r_PutIn_Read ?q_PutIn_LeaveOut ?r_PutIn_LeaveOut ?q_LeaveOut_Read ?r_LeaveOut_Read ?q_LeaveOut_PutIn ?r_LeaveOut_PutIn
    (case D1=>apply PL.Dn.mk <;> k_is)
    (case D2=>apply PL.Dn.mk <;> k_is)
    (case D3=>apply PL.Dn.mk <;> k_is)
    (case D4=>apply PL.Dn.mk <;> k_is)
    (case D5=>apply PL.Dn.mk <;> k_is)
    (case D6=>apply PL.Dn.mk <;> k_is)
    (case D7=>apply PL.Dn.mk <;> k_is)
    (case D8=>apply PL.Dn.mk <;> k_is)
    (case D9=>apply PL.Dn.mk <;> k_is)
    (case D10=>apply PL.Dn.mk <;> k_is)
    (case D11=>apply PL.Dn.mk <;> k_is)
    (case D12=>apply PL.Dn.mk <;> k_is)
    (case D13=>apply PL.Dn.mk <;> k_is)
    (case D14=>apply PL.Dn.mk <;> k_is)
    (case D15=>apply PL.Dn.mk <;> k_is)
    (case D16=>apply PL.Dn.mk <;> k_is)
    (case D17=>apply PL.Dn.mk <;> k_is)
    (case D18=>apply PL.Dn.mk <;> k_is)
    (case D19=>apply PL.Dn.mk <;> k_is)
    (case D20=>apply PL.Dn.mk <;> k_is)
    (case D21=>apply PL.Dn.mk <;> k_is)
    (case D22=>apply PL.Dn.mk <;> k_is)
    (case D23=>apply PL.Dn.mk <;> k_is)
    (case D24=>apply PL.Dn.mk <;> k_is)
    (case D25=>apply PL.Dn.mk <;> k_is)
    (case D26=>apply PL.Dn.mk <;> k_is)
    (case D27=>apply PL.Dn.mk <;> k_is)
    (case D28=>apply PL.Dn.mk <;> k_is)
    (case D29=>apply PL.Dn.mk <;> k_is)
    (case D30=>apply PL.Dn.mk <;> k_is)
    (case D31=>apply PL.Dn.mk <;> k_is)
    (case D32=>apply PL.Dn.mk <;> k_is)
    (case D33=>apply PL.Dn.mk <;> k_is)
    (case a34=>k_is)
    (case l34=>k_is)
    (case c34=>k_is)
    (case k34=>k_is)
    (case z1=>k_is)
    (case z2=>k_is)
    (case z3=>k_is)
    (case z4=>k_is)
    (case z5=>k_is)
    (case z6=>k_is)
    (case z7=>k_is)
    (case z8=>k_is)
    (case z9=>k_is)
    (case g1=>k_is)
    (case e1=>decide +kernel)
    (case aC_Read=>k_is)
    (case hdC_Read=>k_is)
    (case aI_Read=>k_is)
    (case iI_Read=>k_is)
    (case lI_Read=>k_is)
    (case cI_Read=>k_is)
    (case kI_Read=>k_is)
    (case pg_Read=>k_is)
    (case po_Read=>k_is)
    (case sa_Read=>k_is)
    (case mk_Read=>k_is)
    (case kc_Read=>k_is)
    (case n_Read_place=>k_is)
    (case n_Read_words=>k_is)
    (case aC_PutIn=>k_is)
    (case hdC_PutIn=>k_is)
    (case aI_PutIn=>k_is)
    (case iI_PutIn=>k_is)
    (case lI_PutIn=>k_is)
    (case cI_PutIn=>k_is)
    (case kI_PutIn=>k_is)
    (case pg_PutIn=>k_is)
    (case po_PutIn=>k_is)
    (case sa_PutIn=>k_is)
    (case mk_PutIn=>k_is)
    (case kc_PutIn=>k_is)
    (case n_PutIn_place=>k_is)
    (case n_PutIn_node=>k_is)
    (case aC_LeaveOut=>k_is)
    (case hdC_LeaveOut=>k_is)
    (case aI_LeaveOut=>k_is)
    (case iI_LeaveOut=>k_is)
    (case lI_LeaveOut=>k_is)
    (case cI_LeaveOut=>k_is)
    (case kI_LeaveOut=>k_is)
    (case pg_LeaveOut=>k_is)
    (case po_LeaveOut=>k_is)
    (case sa_LeaveOut=>k_is)
    (case mk_LeaveOut=>k_is)
    (case kc_LeaveOut=>k_is)
    (case n_LeaveOut_place=>k_is)
    (case hn=>k_is)
    (case htk=>k_is)
    (case ty_Read=>k_is)
    (case ha_Read=>k_is)
    (case hm_Read=>k_is)
    (case ty_PutIn=>k_is)
    (case ha_PutIn=>k_is)
    (case hm_PutIn=>k_is)
    (case ty_LeaveOut=>k_is)
    (case ha_LeaveOut=>k_is)
    (case hm_LeaveOut=>k_is)
    (case q_Read_PutIn=>k_is)
    (case r_Read_PutIn=>rfl)
    (case q_PutIn_Read=>k_is)
    (case r_PutIn_Read=>rfl)
    (case q_PutIn_LeaveOut=>k_is)
    (case r_PutIn_LeaveOut=>rfl)
    (case q_LeaveOut_Read=>k_is)
    (case r_LeaveOut_Read=>rfl)
    (case q_LeaveOut_PutIn=>k_is)
    (case r_LeaveOut_PutIn=>rfl)

import PyProof.Rows.All
import Wide.All
import OpenK.AllK
import Wide.FinOn
import PyProof.EqAt
import PyProof.EqKinds
import PyProof.TupleCall
import KE.BitLaws
import Open.SpecLaws
import KE.OsHead
import KE.OsGo
import PyProof.Rows.SortShellAny
import KE.KSortKeyAny
import KE.KSortTupG
import PySem.Challenge.RW_crewlegs_s01_answers
set_option Elab.async false
set_option linter.all false
set_option maxRecDepth 100000
set_option maxHeartbeats 4000000
namespace L2
open PySem PySem.Spec PyProof.Rows
abbrev Key:=Sum Int Str
def Jf:Key->Value->Bool
 | .inl k,v=>Value.isInt k v
 | .inr x,v=>Value.isStrOf x v
def keyH (w:World):Key->Int
 | .inl k=>hashInt k
 | .inr x=>hashStr w x
theorem cW:∀ {k:Key} {v:Value},Jf k v=true->(∃ i t,k=Sum.inl i/\v=Value.int i t)\/(∃ x t,k=Sum.inr x/\v=Value.str x t)
 | .inl i,v,h=>by
  obtain ⟨t,e⟩:=Value.isInt_shape (k:=i) (v:=v) h
  exact .inl ⟨i,t,rfl,e⟩
 | .inr x,v,h=>by
  obtain ⟨t,e⟩:=Value.isStrOf_shape (x:=x) (v:=v) h
  exact .inr ⟨x,t,rfl,e⟩
theorem Uj (i:Int) (t:Tok):Jf (.inl i) (.int i t)=true:=by simp [Jf,Value.isInt]
theorem Ui (x:Str) (t:Tok):Jf (.inr x) (.str x t)=true:=by simp [Jf,Value.isStrOf]
theorem aa5 (a b:Int):decide ((Sum.inl a:Key)=Sum.inl b)=(a == b):=by
 by_cases e:a=b
 ·subst e; simp
 ·have h:¬ (Sum.inl a:Key)=Sum.inl b:=fun q=>e (Sum.inl.inj q)
  rw [decide_eq_false h]
  exact (beq_eq_false_iff_ne.mpr e).symm
theorem aa2 (a b:Str):decide ((Sum.inr a:Key)=Sum.inr b)=decide (a=b):=by
 by_cases e:a=b
 ·subst e; simp
 ·have h:¬ (Sum.inr a:Key)=Sum.inr b:=fun q=>e (Sum.inr.inj q)
  rw [decide_eq_false h,decide_eq_false e]
theorem aa4 (a:Int) (b:Str):decide ((Sum.inl a:Key)=Sum.inr b)=false:=decide_eq_false (fun q=>nomatch q)
theorem aa3 (a:Str) (b:Int):decide ((Sum.inr a:Key)=Sum.inl b)=false:=decide_eq_false (fun q=>nomatch q)
def cT (prog:Program) (w:World):PySem.KeyKind prog w Key where
 is:=Jf
 hash:=keyH w
 inj:=fun v a b ha hb=>by
  rcases cW ha with ⟨i,t,rfl,rfl⟩ | ⟨x,t,rfl,rfl⟩
  ·rcases cW hb with ⟨j,u,rfl,e⟩ | ⟨y,u,rfl,e⟩
   ·injection e with e1 _; rw [e1]
   ·exact nomatch e
  ·rcases cW hb with ⟨j,u,rfl,e⟩ | ⟨y,u,rfl,e⟩
   ·exact nomatch e
   ·injection e with e1 _; rw [e1]
 byValue:=fun k v h=>by
  rcases cW h with ⟨i,t,rfl,rfl⟩ | ⟨x,t,rfl,rfl⟩ <;> rfl
 pyHash:=fun hv h=>by
  rcases cW hv with ⟨i,t,rfl,rfl⟩ | ⟨x,t,rfl,rfl⟩
  ·exact wpAny_pyHash_int h
  ·exact wpAny_pyHash_str h
 eqBool:=fun hu hv h=>by
  rcases cW hu with ⟨i,t,rfl,rfl⟩ | ⟨x,t,rfl,rfl⟩
  ·rcases cW hv with ⟨j,u,rfl,rfl⟩ | ⟨y,u,rfl,rfl⟩
   ·rw [aa5] at h; exact wpAny_eqBool_int h
   ·rw [aa4] at h; exact SeqAt.EqAt.int_str i t y u _ _ _ _ h
  ·rcases cW hv with ⟨j,u,rfl,rfl⟩ | ⟨y,u,rfl,rfl⟩
   ·rw [aa3] at h; exact SeqAt.EqAt.str_int x t j u _ _ _ _ h
   ·rw [aa2] at h; exact wpAny_eqBool_str h
 «strs» := fun k x t v h=>by
  rcases cW h with ⟨i,u,rfl,e⟩ | ⟨y,u,rfl,e⟩
  ·exact nomatch e
  ·injection e with e1 _
   subst e1
   cases v <;> rfl
theorem Ng (prog:Program) (w:World) (i:Int) (t:Tok):(cT prog w).is (.inl i) (.int i t)=true:=Uj i t
theorem Nf (prog:Program) (w:World) (x:Str) (t:Tok):(cT prog w).is (.inr x) (.str x t)=true:=Ui x t
inductive V where
 | non | bl (b:Bool) | int (i:Int) | str (x:Str) | byt (b:Array UInt8) | flt (b:UInt64) | ref (a:Addr) | ty (n:String)
 deriving DecidableEq
def RelV:V->Value->Prop
 | .non,u=>u=Value.none
 | .bl b,u=>u=Value.bool b
 | .int i,u=>∃ t,u=Value.int i t
 | .str x,u=>∃ t,u=Value.str x t
 | .byt b,u=>∃ t,u=Value.bytes b t
 | .flt b,u=>∃ t,u=Value.float b t
 | .ref a,u=>u=Value.ref a
 | .ty n,u=>u=Value.type n
abbrev Vals:List V->List Value->Prop:=Paired RelV
theorem Vals.length {xs:List V} {us:List Value} (r:Vals xs us):xs.length=us.length:=Paired.length r
theorem Vals.get:∀ {xs:List V} {us:List Value} {i:Nat} {x:V},Vals xs us->xs[i]? = some x->∃ u,us[i]? = some u/\RelV x u
 | _,_,_,_,.nil,e=>by simp at e
 | _,_,0,_,.cons r _,e=>by simp at e; subst e; exact ⟨_,rfl,r⟩
 | _,_,i + 1,x,.cons _ t,e=>by
  obtain ⟨u,h1,h2⟩:=Vals.get (i:=i) (x:=x) t (by simpa using e)
  exact ⟨u,by simpa using h1,h2⟩
theorem Vals.append:∀ {xs ys:List V} {us ws:List Value},Vals xs us->Vals ys ws->Vals (xs++ys) (us++ws)
 | _,_,_,_,.nil,s=>s
 | _,_,_,_,.cons r t,s=> .cons r (Vals.append t s)
theorem Vals.take:∀ {xs:List V} {us:List Value} (n:Nat),Vals xs us->Vals (xs.take n) (us.take n)
 | _,_,0,_=> .nil
 | _,_,_ + 1,.nil=> .nil
 | _,_,n + 1,.cons r t=> .cons r (Vals.take n t)
theorem Vals.drop:∀ {xs:List V} {us:List Value} (n:Nat),Vals xs us->Vals (xs.drop n) (us.drop n)
 | _,_,0,r=>r
 | _,_,_ + 1,.nil=> .nil
 | _,_,n + 1,.cons _ t=>Vals.drop n t
def rG:Option V->Option Value->Prop
 | some v,some u=>RelV v u
 | none,none=>True
 | _,_=>False
def KV {κ : Type}:List (κ × V)->List (κ × Value)->Prop:=Paired fun (p : κ × V) (q : κ × Value)=>p.1=q.1/\RelV p.2 q.2
def kV:Key->V
 | .inl i=> .int i
 | .inr x=> .str x
inductive HO where
 | lst (xs:List V)
 | tup (xs:List V)
 | dK (kvs:List (Key × V)) | dT (kvs:List (List Key × V))
 | set (S:Int->Bool) (n:Nat)
 | ins (C dx:Addr) (fs:List (Str × V))
 | own (x:Addr)
 | xd (fs:List (Str × V))
 | met (f x:Addr)
 | rng (lo hi:Int)
 | frz (o:Obj) (u:HO)
 | tbl (ps:Array Value)
 | ext (φ : Heap->Prop)
abbrev Hp:=Addr->Option HO
def upd (H:Hp) (a:Addr) (o:HO):Hp:=fun b=>if b=a then some o else H b
theorem aj {H:Hp} {a:Addr} {o:HO}:upd H a o a=some o:=by unfold upd; rw [if_pos rfl]
theorem ak {H:Hp} {a b:Addr} {o:HO} (h:b ≠ a):upd H a o b=H b:=by unfold upd; rw [if_neg h]
theorem cQ {H:Hp} {a:Addr} {o u:HO}:upd (upd H a o) a u=upd H a u:=by
 funext b; unfold upd; split <;> rfl
theorem ne_of {H:Hp} {a b:Addr} {o u:HO} (h:H a=some o) (h':H b=some u) (d:o ≠ u):a ≠ b:=by
 intro e; subst e; rw [h] at h'; exact d (Option.some.inj h')
theorem az {H:Hp} {a b:Addr} {o:HO} (h:H a=some o) (h':H b=none):a ≠ b:=by
 intro e; subst e; rw [h] at h'; cases h'
section
variable (P:Program) (w:World)
def cO (H:Hp) (h:Heap) (a:Addr):HO->Prop
 | .lst xs=>xs.length<=sizeLine/\∃ (its:List Value) (n:Nat),Vals xs its/\h.get? a=some { cls:= .type "list",data:= .seq its.toArray n }
 | .tup xs=>xs.length<=sizeLine/\∃ its:List Value,Vals xs its/\IsTup h a its.toArray
 | .dK kvs=>kvs.length<=sizeLine/\(a == sysModules)=false/\∃ vs,KV kvs vs/\h.DictOf (cT P w) a vs
 | .dT kvs=>kvs.length<=sizeLine/\(a == sysModules)=false/\∃ xs:List (List Key × Addr × Value),
   Paired (fun (p:List Key × V) (q:List Key × Addr × Value)=>p.1=q.1/\H q.2.1=some (.tup (p.1.map kV))/\RelV p.2 q.2.2) kvs xs /\
   ∃ o es ep,h.get? a=some o/\o.ExactDict/\o.data = .dict es ep/\es.toList=xs.map (entryOfKey (tupleKind (cT P w)))/\(xs.map (·.1)).Nodup
 | .set S n=>h.SetOf (intKind P w) a S n
 | .ins C dx fs=>H dx=some (.own a)/\fs.length<=1000/\dx ≠ a/\h.get? a=some (PySem.W.instObj C dx) /\
   ∃ mA,h.Ns1 dx mA/\(∀ f,rG (fs.lookup f) (mA f))/\PySem.Within mA (fs.map (·.1))
 | .own _=>∃ o,h.get? a=some o
 | .xd fs=>∃ mA,h.Ns1 a mA/\∀ f,rG (fs.lookup f) (mA f)
 | .rng lo hi=>∃ t u v,h.get? a=some { cls:= .type "range",data:= .fields #[.int lo t,.int hi u,.int 1 v] }
 | .frz o u=>h.get? a=some o/\cO H h a u
 | .tbl ps=>h.get? a=some { cls:= .none,data:= .fields ps }
 | .met f x=>h.get? a=some (PySem.W.methodObj (.ref f) (.ref x))
 | .ext φ => φ h/\(∃ o,h.get? a=some o)/\∀ h1 h2:Heap,φ h1->(∀ o,h1.get? a=some o->h2.get? a=some o) -> φ h2
def HOk (H:Hp) (h:Heap):Prop:=∀ a o,H a=some o->cO P w H h a o
end
section
variable {P:Program} {w:World} {H H':Hp} {h h':Heap} {a:Addr} {o:HO}
theorem cO.lt (x:cO P w H h a o):a < h.objs.size:=by
 cases o with
 | lst xs=>obtain ⟨_,_,_,_,e⟩:=x; exact Heap.lt_size e
 | tup xs=>obtain ⟨_,_,_,p⟩:=x; exact p.lt
 | dK kvs=>obtain ⟨_,_,_,_,o,_,_,e,_⟩:=x; exact Heap.lt_size e
 | dT kvs=>obtain ⟨_,_,_,_,o,_,_,e,_⟩:=x; exact Heap.lt_size e
 | set S n=>obtain ⟨o,_,_,_,e,_⟩:=x; exact Heap.lt_size e
 | ins C dx fs=>obtain ⟨_,_,_,e,_⟩:=x; exact Heap.lt_size e
 | own y=>obtain ⟨_,e⟩:=x; exact Heap.lt_size e
 | xd fs=>obtain ⟨_,⟨_,_,_,e,_⟩,_⟩:=x; exact Heap.lt_size e
 | rng lo hi=>obtain ⟨_,_,_,e⟩:=x; exact Heap.lt_size e
 | frz ob u=>obtain ⟨e,_⟩:=x; exact Heap.lt_size e
 | tbl ps=>exact Heap.lt_size (show h.get? a=some _ from x)
 | met f y=>exact Heap.lt_size (show h.get? a=some _ from x)
 | ext φ => obtain ⟨_,⟨_,e⟩,_⟩:=x; exact Heap.lt_size e
theorem Paired.mapP {α β : Type} {F G : α -> β -> Prop}:∀ {l₁ : List α} {l₂ : List β},Paired F l₁ l₂ -> (∀ a b,F a b->G a b)->Paired G l₁ l₂
 | _,_,.nil,_=> .nil
 | _,_,.cons r t,f=> .cons (f _ _ r) (Paired.mapP t f)
theorem cO.stay (x:cO P w H h a o) (k:∀ b u,(b=a\/H b=some (.own a))->h.get? b=some u->h'.get? b=some u)
  (ho:∀ b,H b=some (.own a)->H' b=some (.own a)) (ht:∀ b xs,H b=some (.tup xs)->H' b=some (.tup xs)):cO P w H' h' a o:=by
 induction o with
 | lst xs=>obtain ⟨z,its,n,r,e⟩:=x; exact ⟨z,its,n,r,k _ _ (.inl rfl) e⟩
 | tup xs=>obtain ⟨z,its,r,ob,e,c⟩:=x; exact ⟨z,its,r,ob,k _ _ (.inl rfl) e,c⟩
 | dK kvs=>obtain ⟨z,y,vs,r,ob,es,ep,e,c⟩:=x; exact ⟨z,y,vs,r,ob,es,ep,k _ _ (.inl rfl) e,c⟩
 | dT kvs =>
  obtain ⟨z,y,xs,r,ob,es,ep,e,c⟩:=x
  exact ⟨z,y,xs,Paired.mapP r fun p q z=>⟨z.1,ht _ _ z.2.1,z.2.2⟩,ob,es,ep,k _ _ (.inl rfl) e,c⟩
 | set S n=>obtain ⟨ob,es,ep,t,e,c⟩:=x; exact ⟨ob,es,ep,t,k _ _ (.inl rfl) e,c⟩
 | ins C dx fs =>
  obtain ⟨d,z,ne,e,mA,⟨od,es,ep,e2,c⟩,r⟩:=x
  exact ⟨ho _ d,z,ne,k _ _ (.inl rfl) e,mA,⟨od,es,ep,k _ _ (.inr d) e2,c⟩,r⟩
 | own y=>obtain ⟨ob,e⟩:=x; exact ⟨ob,k _ _ (.inl rfl) e⟩
 | xd fs=>obtain ⟨mA,⟨od,es,ep,e,c⟩,r⟩:=x; exact ⟨mA,⟨od,es,ep,k _ _ (.inl rfl) e,c⟩,r⟩
 | rng lo hi=>obtain ⟨t,u,v,e⟩:=x; exact ⟨t,u,v,k _ _ (.inl rfl) e⟩
 | frz ob u ih=>obtain ⟨e,q⟩:=x; exact ⟨k _ _ (.inl rfl) e,ih q⟩
 | tbl ps =>
  have e:h.get? a=some { cls:= .none,data:= .fields ps }:=x
  show h'.get? a=some { cls:= .none,data:= .fields ps }
  exact k a _ (.inl rfl) e
 | met f y =>
  have e:h.get? a=some (PySem.W.methodObj (.ref f) (.ref y)):=x
  show h'.get? a=some (PySem.W.methodObj (.ref f) (.ref y))
  exact k a _ (.inl rfl) e
 | ext φ => obtain ⟨p,⟨o,e⟩,st⟩:=x; exact ⟨st _ _ p fun o q=>k _ _ (.inl rfl) q,⟨o,k _ _ (.inl rfl) e⟩,st⟩
theorem HOk.lt (x:HOk P w H h) (e:H a=some o):a < h.objs.size:=(x a o e).lt
theorem HOk.fresh (x:HOk P w H h) (e:h.objs.size<=a):H a=none:=by
 cases q:H a with
 | none=>rfl
 | some u=>exact absurd (Nat.lt_of_lt_of_le (x.lt q) e) (Nat.lt_irrefl _)
theorem HOk.kept (x:HOk P w H h) (k:∀ b u,h.get? b=some u->h'.get? b=some u):HOk P w H h':=fun a o e =>
 (x a o e).stay (fun b u _ q=>k b u q) (fun _ q=>q) fun _ _ q=>q
theorem HOk.laid (x:HOk P w H h) (k:∀ b u,h.get? b=some u->h'.get? b=some u) (hp:h.objs.size<=a) (new:cO P w (upd H a o) h' a o):HOk P w (upd H a o) h':=fun b u e=>by
 have hn:=x.fresh hp
 by_cases hb:b=a
 ·subst hb; rw [aj] at e; cases e; exact new
 ·rw [ak hb] at e
  exact (x b u e).stay (fun c v _ q=>k c v q) (fun c q=>by rw [ak (az q hn)]; exact q) fun c xs q=>by rw [ak (az q hn)]; exact q
end
def Rd (H:Hp) (a:Addr) (u:HO):Prop:=H a=some u\/∃ o,H a=some (.frz o u)
theorem Rd.ok {P:Program} {w:World} {H:Hp} {h:Heap} {a:Addr} {u:HO} (r:Rd H a u) (x:HOk P w H h):cO P w H h a u:=by
 rcases r with r | ⟨o,r⟩
 ·exact x a u r
 ·obtain ⟨_,q⟩:=x a _ r
  exact q
def Mut:Option HO->Prop
 | some (.lst _)=>True
 | some (.dK _)=>True
 | some (.dT _)=>True
 | some (.set _ _)=>True
 | some (.ins _ _ _)=>True
 | some (.ext _)=>True
 | _=>False
section
variable {P:Program} {w:World} {H:Hp} {h h':Heap} {x e:Addr} {o':HO}
theorem HOk.write (ok:HOk P w H h) (mu:Mut (H x)) (he:e=x\/H e=some (.own x)) (k:∀ b u,b ≠ e->h.get? b=some u->h'.get? b=some u) (heo:∃ u,h'.get? e=some u)
  (new:cO P w (upd H x o') h' x o'):HOk P w (upd H x o') h':=fun b u q=>by
 have nown:∀ c y,H c=some (.own y)->c ≠ x:=fun c y r z=>by subst z; rw [r] at mu; exact mu
 have ntup:∀ c xs,H c=some (.tup xs)->c ≠ x:=fun c xs r z=>by subst z; rw [r] at mu; exact mu
 by_cases hb:b=x
 ·subst hb; rw [aj] at q; cases q; exact new
 ·rw [ak hb] at q
  by_cases hbe:b=e
  ·have q':H b=some (.own x):=by
    rcases he with z | z
    ·exact absurd (hbe.trans z) hb
    ·rw [hbe]; exact z
   rw [q] at q'; cases q'
   obtain ⟨v,hv⟩:=heo
   exact ⟨v,by rw [hbe]; exact hv⟩
  ·refine (ok b u q).stay (fun c v hc r=>k c v ?_ r) (fun c r=>by rw [ak (nown c b r)]; exact r) fun c xs r=>by rw [ak (ntup c xs r)]; exact r
   rcases hc with rfl | hc
   ·exact hbe
   ·rintro rfl
    rcases he with z | z
    ·exact nown c b hc z
    ·rw [hc] at z; cases z; exact hb rfl
end
structure Un (fs ex:List Addr) (H H':Hp) (h h':Heap):Prop where
 keep:∀ b o,h.get? b=some o->H b=none->b ∉ fs->b ∉ ex->h'.get? b=some o
 slot:∀ b o,h.get? b=some o->H b=none->b ∈ fs->b ∉ ex->∃ sl,h'.get? b=some { o with slots:=sl }
 free:∀ b o,h.get? b=some o->H b=none->b ∉ ex->H' b=none
 there:∀ b o,h.get? b=some o->b ∉ ex->∃ o',h'.get? b=some o'
 tups:∀ b xs,H b=some (.tup xs)->H' b=some (.tup xs)
 Di:∀ b o u,H b=some (.frz o u)->H' b=some (.frz o u)
 GZ:∀ b ps,H b=some (.tbl ps)->∃ more,H' b=some (.tbl (ps++more))
section
variable {fs fs' ex ex':List Addr} {H H1 H2:Hp} {h h1 h2 h':Heap} {a x e:Addr} {o:HO}
theorem Un.any (u:Un fs ex H H1 h h1) {b:Addr} {ob:Obj} (q:h.get? b=some ob) (n:H b=none) (hx:b ∉ ex):∃ sl,h1.get? b=some { ob with slots:=sl }:=by
 by_cases hb:b ∈ fs
 ·exact u.slot b ob q n hb hx
 ·exact ⟨ob.slots,u.keep b ob q n hb hx⟩
theorem Un.kept (k:∀ b u,h.get? b=some u->h'.get? b=some u):Un fs ex H H h h' :=
 ⟨fun b ob q _ _ _=>k b ob q,fun b ob q _ _ _=>⟨ob.slots,k b ob q⟩,fun _ _ _ n _=>n,fun b ob q _=>⟨ob,k b ob q⟩,fun _ _ q=>q,fun _ _ _ q=>q,fun _ ps q=>⟨#[],by rw [q]; simp⟩⟩
theorem Un.refl:Un fs ex H H h h:=Un.kept fun _ _ q=>q
theorem Un.laid (k:∀ b u,h.get? b=some u->h'.get? b=some u) (hp:h.objs.size<=a) (hn:H a=none):Un fs ex H (upd H a o) h h' where
 keep:=fun b u q _ _ _=>k b u q
 slot:=fun b u q _ _ _=>⟨u.slots,k b u q⟩
 free:=fun b u q n _=>by rw [ak (Nat.ne_of_lt (Nat.lt_of_lt_of_le (Heap.lt_size q) hp))]; exact n
 there:=fun b u q _=>⟨u,k b u q⟩
 tups:=fun b xs q=>by rw [ak (az q hn)]; exact q
 Di:=fun b u xs q=>by rw [ak (az q hn)]; exact q
 GZ:=fun b ps q=>⟨#[],by rw [ak (az q hn),q]; simp⟩
theorem Un.write (mu:Mut (H x)) (he:e=x\/H e=some (.own x)) (k:∀ b u,b ≠ e->h.get? b=some u->h'.get? b=some u) (heo:∃ u,h'.get? e=some u):Un fs ex H (upd H x o) h h':=by
 have hx:∀ b,H b=none->b ≠ x:=fun b n z=>by subst z; rw [n] at mu; exact mu
 have hb:∀ b,H b=none->b ≠ e:=fun b n z=>by
  subst z
  rcases he with r | r
  ·exact hx b n r
  ·rw [n] at r; cases r
 have hm:∀ b u,H b=some u->¬ Mut (some u)->b ≠ x:=fun b u q nm z=>by subst z; rw [q] at mu; exact nm mu
 refine ⟨fun b u q n _ _=>k b u (hb b n) q,fun b u q n _ _=>⟨u.slots,k b u (hb b n) q⟩,fun b u q n _=>by rw [ak (hx b n)]; exact n,fun b u q _=> ?_,
  fun b xs q=>by rw [ak (hm b _ q fun z=>z)]; exact q,fun b u xs q=>by rw [ak (hm b _ q fun z=>z)]; exact q,fun b ps q=>⟨#[],by rw [ak (hm b _ q fun z=>z),q]; simp⟩⟩
 by_cases hbe:b=e
 ·subst hbe; exact heo
 ·exact ⟨u,k b u hbe q⟩
end
def trk (h:Heap) (H:Hp):List Addr:=(List.range h.objs.size).filter fun a=>(H a).isSome
def KC (h:Heap) (H:Hp):Heap:=PySem.W.hideAll h (trk h H)
theorem Ul (h:Heap) (H:Hp):(KC h H).objs.size=h.objs.size:=PySem.W.hideAll_size _ _
theorem Wy {h:Heap} {H:Hp} {b:Addr} {o:Obj} (e:h.get? b=some o) (n:H b=none):(KC h H).get? b=some o :=
 PySem.W.hideAll_get _ e fun hm=>by
  have q:(H b).isSome=true:=(List.mem_filter.mp hm).2
  rw [n] at q; simp at q
theorem YK {h:Heap} {H:Hp} {b:Addr} {o:Obj} (e:(KC h H).get? b=some o):h.get? b=some o/\H b=none:=by
 have e':h.get? b=some o:=PySem.W.of_hideAll (trk h H) e
 refine ⟨e',?_⟩
 cases q:H b with
 | none=>rfl
 | some x =>
  have hm:b ∈ trk h H:=List.mem_filter.mpr ⟨List.mem_range.mpr (Heap.lt_size e'),by simp [q]⟩
  have z:(KC h H).get? b=none:=PySem.W.hideAll_none (trk h H) hm
  rw [z] at e; cases e
structure Mod (K:PySem.W.Frag) (mg:Str->Option Value) (base:Heap):Prop where
 kin:K.In base
 glob:base.Ns mainGlobals mg
 blt:∃ mb,base.Ns builtinsNs mb/\∀ x:Str,x ≠ "__name__" -> mb x=bootBuiltins x
 nolimit:base.NoLimit
structure Cx where
 prog:Program
 w:World
 K:PySem.W.Frag
 mg:Str->Option Value
 base:Heap
 A:Around
 N:List Str
 s_0:Shared
 H_0:Hp
 env:Env
 outer:List Env
 stack:List Env
 ex:List Addr
 fn:Str->Bool
 calm:Bool
 pn:List (Addr × Obj)
 xe:Value->Shared->Prop
def frs (l:List Env):List Addr:=l.filterMap (·.frame)
abbrev Cx.fs (X:Cx):List Addr:=frs X.outer
def Vis (sc:Scope) (x:Str):Prop:=sc.names.lookup x=some .local\/sc.names.lookup x=some .cell\/sc.names.lookup x=some .free
def Loc (sc:Scope) (x:Str):Prop:=sc.names.lookup x=some .local\/sc.names.lookup x=some .cell
def Look (env:Env) (h:Heap) (m:Str->Option Value) (x:Str) (u:Value):Prop :=
 (env.kindOf x=some .local/\m x=some u)\/((env.kindOf x=some .cell\/env.kindOf x=some .free)/\∃ c,env.cells.lookup x=some c/\h.IsCell c (some u))
structure Cx.Ok (X:Cx):Prop where
 mod:Mod X.K X.mg X.base
 kind:X.env.scope.kind = .function
 glob:X.env.globals=mainGlobals
 blt:X.env.builtins=builtinsNs
 above:X.s_0.heap.objs.size<=X.env.locals
 inj:∀ x y c,X.env.cells.lookup x=some c->X.env.cells.lookup y=some c->x=y
 has:∀ x,(X.env.kindOf x=some .cell\/X.env.kindOf x=some .free)->∃ c,X.env.cells.lookup x=some c
 cab:∀ x c,X.fn x=true->X.env.cells.lookup x=some c->X.s_0.heap.objs.size<=c
 hd:X.calm=true->X.A.handled=none
 frames:X.A.frames=some X.stack
 stk:X.stack=X.outer\/(X.stack=X.env :: X.outer/\X.env.frame=some X.env.locals)
 exf:∀ b ∈ X.ex,b ≠ X.env.locals/\∀ x c,X.env.cells.lookup x=some c->c ≠ b
 bs:∀ b o,X.base.get? b=some o->X.s_0.heap.get? b=some o/\X.H_0 b=none
 bsz:X.base.objs.size<=X.s_0.heap.objs.size
 Wg:∀ b o,X.base.get? b=some o->b ∉ X.ex
 W7:∀ b ∈ X.ex,b ∉ X.fs
 Aq:X.s_0.heap.FunFrames X.base X.outer
 frf:∀ b ∈ X.fs,X.H_0 b=none
structure Inv (X:Cx) (pins:List (Addr × Obj)) (σ : List (Option V)) (H:Hp) (s:Shared):Prop where
 ok:X.Ok
 os:s.os=X.s_0.os
 bare:AllBare s.gens
 base:Un X.fs X.ex X.H_0 H X.s_0.heap s.heap
 loc:∃ m,s.heap.Ns X.env.locals m/\∀ (i:Nat) (x:Str) (v:V),X.N[i]? = some x -> σ[i]? = some (some v)->Vis X.env.scope x->∃ u,RelV v u/\Look X.env s.heap m x u
 cell:∀ x c,X.env.cells.lookup x=some c->∃ v,s.heap.IsCell c v
 free:H X.env.locals=none
 lF:∀ x c,X.env.cells.lookup x=some c->H c=none
 pin:∀ p ∈ X.pn++pins,s.heap.get? p.1=some p.2/\H p.1=none/\p.1 ≠ X.env.locals/\p.1 ∉ X.fs/\∀ v,p.2.data ≠ .cell v
 hok:HOk X.prog X.w H s.heap
 len : σ.length=X.N.length
section
variable {X:Cx} {pins:List (Addr × Obj)} {σ : List (Option V)} {H H':Hp} {s:Shared} {h':Heap}
theorem Cx.Ok.nofr (ok:X.Ok) {b:Addr} {o:Obj} (e:X.base.get? b=some o):b ∉ X.fs:=fun hb=>by
 have:=(ok.Aq.mem hb).1
 rw [e] at this; cases this
theorem Inv.bs (I:Inv X pins σ H s):∀ b o,X.base.get? b=some o->s.heap.get? b=some o/\H b=none:=fun b o e =>
 ⟨I.base.keep b o (I.ok.bs b o e).1 (I.ok.bs b o e).2 (I.ok.nofr e) (I.ok.Wg b o e),I.base.free b o (I.ok.bs b o e).1 (I.ok.bs b o e).2 (I.ok.Wg b o e)⟩
theorem Inv.bk (I:Inv X pins σ H s):∀ b o,X.base.get? b=some o->s.heap.get? b=some o:=fun b o e=>(I.bs b o e).1
theorem Inv.mod (I:Inv X pins σ H s):Mod X.K X.mg X.base:=I.ok.mod
theorem Inv.kIn (I:Inv X pins σ H s):X.K.In s.heap:=I.ok.mod.kin.keeps I.bk
theorem Inv.fr (I:Inv X pins σ H s):∃ m,Fr X.base X.env.locals s.heap m :=
 let ⟨m,hn,_⟩:=I.loc
 ⟨m,hn,I.bk,Nat.le_trans I.ok.bsz I.ok.above⟩
theorem Inv.lt (I:Inv X pins σ H s):X.env.locals < s.heap.objs.size:=let ⟨_,hn,_⟩:=I.loc; hn.lt
theorem Inv.sz (I:Inv X pins σ H s):X.s_0.heap.objs.size<=s.heap.objs.size:=Nat.le_trans I.ok.above (Nat.le_of_lt I.lt)
theorem Inv.nofs (I:Inv X pins σ H s) {a:Addr} (h:s.heap.objs.size<=a):a ∉ X.fs:=fun hb=>by
 obtain ⟨_,o,ho,_⟩:=I.ok.Aq.mem hb
 exact absurd (Nat.lt_of_lt_of_le (Heap.lt_size ho) (Nat.le_trans I.sz h)) (Nat.lt_irrefl _)
theorem Inv.cne (I:Inv X pins σ H s):∀ x c,X.env.cells.lookup x=some c->c ≠ X.env.locals:=fun x c e z=>by
 obtain ⟨v,o,ho,hd⟩:=I.cell x c e
 obtain ⟨m,⟨o',es,ep,ho',hd',_⟩,_⟩:=I.loc
 rw [z,ho'] at ho; cases ho; rw [hd'] at hd; cases hd
theorem Inv.Aq (I:Inv X pins σ H s):s.heap.FunFrames X.base X.outer:=by
 have all:∀ (l:List Env),(∀ b ∈ frs l,b ∈ X.fs)->X.s_0.heap.FunFrames X.base l->s.heap.FunFrames X.base l:=by
  intro l
  induction l with
  | nil=>intro _ _; trivial
  | cons env r ih =>
   intro hs hl
   obtain ⟨hk,⟨L,o,hf,hn,ho,hd⟩,hr⟩:=hl
   have hL:L ∈ X.fs:=hs L (by unfold frs; rw [List.filterMap_cons,hf]; exact List.mem_cons_self)
   obtain ⟨sl,e⟩:=I.base.slot L o ho (I.ok.frf L hL) hL fun z=>I.ok.W7 L z hL
   exact ⟨hk,⟨L,_,hf,hn,e,hd⟩,ih (fun b hb=>hs b (by unfold frs; rw [List.filterMap_cons,hf]; exact List.mem_cons_of_mem _ hb)) hr⟩
 exact all X.outer (fun _ hb=>hb) I.ok.Aq
theorem Inv.stack (I:Inv X pins σ H s):s.heap.FunFrames X.base X.stack:=by
 rcases I.ok.stk with e | ⟨e,hf⟩
 ·rw [e]; exact I.Aq
 ·rw [e]
  obtain ⟨m,hn,_⟩:=I.loc
  refine .cons (by rw [I.ok.kind]; decide) hf hn ?_ I.Aq
  exact Heap.get?_none_of_le (Nat.le_trans I.ok.bsz I.ok.above)
theorem Inv.PL (I:Inv X pins σ H s):∀ b ∈ frs X.stack,b ∈ X.env.locals :: X.fs:=fun b hb=>by
 rcases I.ok.stk with e | ⟨e,hf⟩
 ·rw [e] at hb; exact List.mem_cons_of_mem _ hb
 ·rw [e] at hb
  unfold frs at hb
  rw [List.filterMap_cons,hf] at hb
  exact hb
theorem Inv.Ru (I:Inv X pins σ H s):∀ b ∈ frs X.stack,H b=none:=fun b hb=>by
 rcases List.mem_cons.mp (I.PL b hb) with e | hb
 ·rw [e]; exact I.free
 ·obtain ⟨_,o,ho,_⟩:=I.ok.Aq.mem hb
  exact I.base.free b o ho (I.ok.frf b hb) fun z=>I.ok.W7 b z hb
theorem Inv.step {g':Array GenState} {t':Nat} {d':Drawn} {ch:List Addr} (I:Inv X pins σ H s)
  (hch:∀ b ∈ ch,(b ∈ X.ex\/X.s_0.heap.objs.size<=b)/\b ≠ X.env.locals/\(∀ x c,X.env.cells.lookup x=some c->c ≠ b)/\∀ p ∈ X.pn++pins,p.1 ≠ b)
  (keep:∀ b o,b ≠ X.env.locals->b ∉ X.fs->b ∉ ch->s.heap.get? b=some o->H b=none->h'.get? b=some o)
  (slot:∀ b o,b ≠ X.env.locals->b ∈ X.fs->b ∉ ch->s.heap.get? b=some o->H b=none->∃ sl,h'.get? b=some { o with slots:=sl }) (free:∀ b o,b ∉ ch->s.heap.get? b=some o->H b=none->H' b=none)
  (there:∀ b o,b ∉ ch->s.heap.get? b=some o->∃ o',h'.get? b=some o')
  (tups:∀ b xs,H b=some (.tup xs)->H' b=some (.tup xs)) (Di:∀ b o u,H b=some (.frz o u)->H' b=some (.frz o u)) (GZ:∀ b ps,H b=some (.tbl ps)->∃ more,H' b=some (.tbl (ps++more)))
  (ns:∀ m,s.heap.Ns X.env.locals m->h'.Ns X.env.locals m) (hok:HOk X.prog X.w H' h') (hg:AllBare g') :
  Inv X pins σ H' { s with heap:=h',gens:=g',drawn:=d',toks:=t' }:=by
 have neL:∀ b o,X.s_0.heap.get? b=some o->b ≠ X.env.locals:=fun b o e=>Nat.ne_of_lt (Nat.lt_of_lt_of_le (Heap.lt_size e) I.ok.above)
 have neC:∀ b o,X.s_0.heap.get? b=some o->b ∉ X.ex->b ∉ ch:=fun b o e hx hb=>by
  rcases (hch b hb).1 with z | z
  ·exact hx z
  ·exact absurd (Nat.lt_of_lt_of_le (Heap.lt_size e) z) (Nat.lt_irrefl _)
 have cellK:∀ x c,X.env.cells.lookup x=some c->∀ v,s.heap.IsCell c v->h'.IsCell c v:=fun x c e v ⟨o,ho,hd⟩=>by
  have nch:c ∉ ch:=fun z=>(hch c z).2.2.1 x c e rfl
  by_cases hc:c ∈ X.fs
  ·obtain ⟨sl,q⟩:=slot c o (I.cne x c e) hc nch ho (I.lF x c e)
   exact ⟨_,q,hd⟩
  ·exact ⟨o,keep c o (I.cne x c e) hc nch ho (I.lF x c e),hd⟩
 refine ⟨I.ok,I.os,hg,⟨fun b o e n hb hx=> ?_,fun b o e n hb hx=> ?_,fun b o e n hx=> ?_,fun b o e hx=> ?_,fun b xs e=>tups b xs (I.base.tups b xs e),fun b o xs e=>Di b o xs (I.base.Di b o xs e),fun b ps e=> ?_⟩,?_,fun x c e=> ?_,?_,fun x c e=> ?_,fun p hp=> ?_,hok,I.len⟩
 ·exact keep b o (neL b o e) hb (neC b o e hx) (I.base.keep b o e n hb hx) (I.base.free b o e n hx)
 ·obtain ⟨sl,e1⟩:=I.base.slot b o e n hb hx
  obtain ⟨sl',e2⟩:=slot b _ (neL b o e) hb (neC b o e hx) e1 (I.base.free b o e n hx)
  exact ⟨sl',e2⟩
 ·obtain ⟨o',e1⟩:=I.base.there b o e hx
  exact free b o' (neC b o e hx) e1 (I.base.free b o e n hx)
 ·obtain ⟨o',e1⟩:=I.base.there b o e hx
  exact there b o' (neC b o e hx) e1
 ·obtain ⟨m1,e1⟩:=I.base.GZ b ps e
  obtain ⟨m2,e2⟩:=GZ b _ e1
  exact ⟨m1++m2,by rw [e2,Array.append_assoc]⟩
 ·obtain ⟨m,hn,hl⟩:=I.loc
  refine ⟨m,ns m hn,fun i x v e1 e2 e3=> ?_⟩
  obtain ⟨u,r,l⟩:=hl i x v e1 e2 e3
  refine ⟨u,r,?_⟩
  rcases l with l | ⟨k,c,e,z⟩
  ·exact .inl l
  ·exact .inr ⟨k,c,e,cellK x c e _ z⟩
 ·obtain ⟨v,z⟩:=I.cell x c e
  exact ⟨v,cellK x c e v z⟩
 ·obtain ⟨m,⟨o,_,_,ho,_⟩,_⟩:=I.loc
  exact free _ o (fun z=>(hch _ z).2.1 rfl) ho I.free
 ·obtain ⟨v,o,ho,hd⟩:=I.cell x c e
  exact free c o (fun z=>(hch c z).2.2.1 x c e rfl) ho (I.lF x c e)
 ·obtain ⟨e,n,ne,nf,d⟩:=I.pin p hp
  have nch:p.1 ∉ ch:=fun z=>(hch p.1 z).2.2.2 p hp rfl
  exact ⟨keep p.1 p.2 ne nf nch e n,free p.1 p.2 nch e n,ne,nf,d⟩
theorem Inv.un {t':Nat} (I:Inv X pins σ H s) (u:Un X.fs [] H H' s.heap h') (hok:HOk X.prog X.w H' h'):Inv X pins σ H' { s with heap:=h',toks:=t' }:=by
 obtain ⟨m,⟨o,es,ep,ho,r⟩,_⟩:=id I.loc
 obtain ⟨sl,hL⟩:=u.any ho I.free (by simp)
 exact I.step (g':=s.gens) (d':=s.drawn) (ch:=[]) (fun _ z=>nomatch z) (fun b o _ hb _ e n=>u.keep b o e n hb (by simp)) (fun b o _ hb _ e n=>u.slot b o e n hb (by simp)) (fun b o _ e n=>u.free b o e n (by simp)) (fun b o _ e=>u.there b o e (by simp)) u.tups u.Di u.GZ (fun m' hm=>by
  obtain ⟨o',es',ep',ho',r'⟩:=hm
  rw [ho] at ho'; cases ho'
  exact ⟨_,es',ep',hL,r'⟩) hok I.bare
theorem Inv.call {g':Array GenState} {t':Nat} {d':Drawn} {ch:List Addr} (I:Inv X pins σ H s) (u:Un (frs X.stack) ch H H' s.heap h') (hok:HOk X.prog X.w H' h') (hg:AllBare g')
  (hch:∀ b ∈ ch,(b ∈ X.ex\/X.s_0.heap.objs.size<=b)/\b ≠ X.env.locals/\(∀ x c,X.env.cells.lookup x=some c->c ≠ b)/\∀ p ∈ X.pn++pins,p.1 ≠ b) :
  Inv X pins σ H' { s with heap:=h',gens:=g',drawn:=d',toks:=t' }:=by
 obtain ⟨m,⟨o,es,ep,ho,r⟩,_⟩:=id I.loc
 obtain ⟨sl,hL⟩:=u.any ho I.free fun z=>(hch _ z).2.1 rfl
 exact I.step (ch:=ch) hch (fun b o hL hb hc e n=>u.keep b o e n (fun z=>(List.mem_cons.mp (I.PL b z)).elim hL hb) hc) (fun b o _ _ hc e n=>u.any e n hc) (fun b o hc e n=>u.free b o e n hc) (fun b o hc e=>u.there b o e hc) u.tups u.Di u.GZ (fun m' hm=>by
  obtain ⟨o',es',ep',ho',r'⟩:=hm
  rw [ho] at ho'; cases ho'
  exact ⟨_,es',ep',hL,r'⟩) hok hg
theorem Inv.turned {t':Nat} {it:Addr} (I:Inv X pins σ H s) (k:∀ b o,b ≠ it->s.heap.get? b=some o->h'.get? b=some o) (hn:H it=none) (hL:it ≠ X.env.locals)
  (h1:it ∈ X.ex\/X.s_0.heap.objs.size<=it) (h2:∀ x c,X.env.cells.lookup x=some c->c ≠ it) (h3:∀ p ∈ X.pn++pins,p.1 ≠ it):Inv X pins σ H { s with heap:=h',toks:=t' }:=by
 have nit:∀ b u,H b=some u->b ≠ it:=fun b u e z=>by rw [z,hn] at e; cases e
 refine I.step (g':=s.gens) (d':=s.drawn) (ch:=[it]) (fun b hb=> ?_) (fun b o _ _ hc e _=>k b o (fun z=>hc (by simp [z])) e) (fun b o _ _ hc e _=>⟨o.slots,k b o (fun z=>hc (by simp [z])) e⟩) (fun _ _ _ _ n=>n)
  (fun b o hc e=>⟨o,k b o (fun z=>hc (by simp [z])) e⟩) (fun _ _ e=>e) (fun _ _ _ e=>e) (fun b ps e=>⟨#[],by rw [e]; simp⟩) (fun m hm=> ?_) (fun b u e=> ?_) I.bare
 ·have e:b=it:=by simpa using hb
  subst e
  exact ⟨h1,hL,h2,h3⟩
 ·obtain ⟨o,es,ep,ho,r⟩:=hm
  exact ⟨o,es,ep,k _ o (Ne.symm hL) ho,r⟩
 ·refine (I.hok b u e).stay (fun c v hc q=>k c v ?_ q) (fun _ q=>q) fun _ _ q=>q
  rcases hc with z | z
  ·rw [z]; exact nit b u e
  ·exact nit c _ z
theorem Inv.tok (I:Inv X pins σ H s) (t:Nat):Inv X pins σ H { s with toks:=t }:=I.un (h':=s.heap) (t':=t) Un.refl I.hok
theorem Inv.kept {t':Nat} (I:Inv X pins σ H s) (k:∀ b u,s.heap.get? b=some u->h'.get? b=some u):Inv X pins σ H { s with heap:=h',toks:=t' }:=I.un (Un.kept k) (I.hok.kept k)
theorem Inv.laid {a:Addr} {o:HO} {t':Nat} (I:Inv X pins σ H s) (k:∀ b u,s.heap.get? b=some u->h'.get? b=some u) (hp:s.heap.objs.size<=a) (new:cO X.prog X.w (upd H a o) h' a o) :
  Inv X pins σ (upd H a o) { s with heap:=h',toks:=t' }:=I.un (Un.laid k hp (I.hok.fresh hp)) (I.hok.laid k hp new)
theorem Inv.write {x e:Addr} {o:HO} {t':Nat} (I:Inv X pins σ H s) (mu:Mut (H x)) (he:e=x\/H e=some (.own x)) (k:∀ b u,b ≠ e->s.heap.get? b=some u->h'.get? b=some u) (heo:∃ u,h'.get? e=some u)
  (new:cO X.prog X.w (upd H x o) h' x o):Inv X pins σ (upd H x o) { s with heap:=h',toks:=t' }:=I.un (Un.write mu he k heo) (I.hok.write mu he k heo new)
theorem Inv.weak {σ':List (Option V)} (I:Inv X pins σ H s) (hl : σ'.length = σ.length) (w:∀ (i:Nat) v,σ'[i]? = some (some v) -> σ[i]? = some (some v)):Inv X pins σ' H s :=
 ⟨I.ok,I.os,I.bare,I.base,let ⟨m,hn,hl'⟩:=I.loc; ⟨m,hn,fun i x v e1 e2 e3=>hl' i x v e1 (w i v e2) e3⟩,I.cell,I.free,I.lF,I.pin,I.hok,hl.trans I.len⟩
theorem Inv.Ry {pins':List (Addr × Obj)} (I:Inv X pins σ H s) (h:∀ p ∈ pins',s.heap.get? p.1=some p.2/\H p.1=none/\p.1 ≠ X.env.locals/\p.1 ∉ X.fs/\∀ v,p.2.data ≠ .cell v):Inv X pins' σ H s :=
 ⟨I.ok,I.os,I.bare,I.base,I.loc,I.cell,I.free,I.lF,fun p hp=>(List.mem_append.mp hp).elim (fun z=>I.pin p (List.mem_append_left _ z)) (h p),I.hok,I.len⟩
theorem Fd {N:List Str} (hN:N.Nodup) {i j:Nat} {x:Str} (a:N[i]? = some x) (b:N[j]? = some x):i=j:=by
 obtain ⟨h1,e1⟩:=List.getElem?_eq_some_iff.mp a
 obtain ⟨h2,e2⟩:=List.getElem?_eq_some_iff.mp b
 exact (List.getElem_inj hN).mp (e1.trans e2.symm)
theorem Ij {M:Model} {A:Around} {E:Value->Shared->Prop} {i:Nat} {x:Str} {v:V} {u:Value} {Q:Unit->Shared->Prop} (I:Inv X pins σ H s) (hN:X.N.Nodup) (hi:X.N[i]? = some x) (hx:Loc X.env.scope x) (r:RelV v u)
  (h:∀ s',Inv X pins (σ.set i (some v)) H s'->(∃ a,Heap.SameBut a s.heap s'.heap/\(a=X.env.locals\/X.env.cells.lookup x=some a))->Q () s') (hf:X.fn x=true\/X.env.scope.names.lookup x=some .local:=by first | exact .inl rfl | exact .inr rfl | assumption):wpAny M A (storeName X.env x u) Q E s:=by
 obtain ⟨m,hn,hl⟩:=id I.loc
 have hcls:(X.env.scope.kind == .class || (X.env.scope.kind == .module && X.env.locals != X.env.globals))=false:=by rw [I.ok.kind]; rfl
 have hiσ : i < σ.length:=by rw [I.len]; exact (List.getElem?_eq_some_iff.mp hi).1
 have cne:=I.cne
 have tracked:∀ {a:Addr} {h':Heap},(∃ o,s.heap.get? a=some o/\H a=none)->Heap.SameBut a s.heap h'->HOk X.prog X.w H h':=fun {a h'} ha hs b ob e=>by
  obtain ⟨_,_,hfree⟩:=ha
  refine (I.hok b ob e).stay (fun c w' hc q=>(hs.2 c ?_).trans q) (fun _ q=>q) fun _ _ q=>q
  rintro rfl
  rcases hc with rfl | hc
  ·rw [hfree] at e; cases e
  ·rw [hfree] at hc; cases hc
 rcases hx with hk | hk
 ·refine wpAny_storeName_local hk hn (fun h' hn' hs=> ?_) hcls
  obtain ⟨oL,_,_,hoL,_⟩:=id hn
  refine h _ ⟨I.ok,I.os,I.bare,⟨fun b o e n hb hx=> ?_,fun b o e n hb hx=> ?_,I.base.free,fun b o e hx=> ?_,I.base.tups,I.base.Di,I.base.GZ⟩,⟨_,hn',fun j y v' e1 e2 e3=> ?_⟩,fun y c e=> ?_,I.free,I.lF,fun p hp=> ?_,tracked ⟨oL,hoL,I.free⟩ hs,by simpa using I.len⟩ ⟨_,hs,.inl rfl⟩
  ·exact (hs.2 b (Nat.ne_of_lt (Nat.lt_of_lt_of_le (Heap.lt_size e) I.ok.above))).trans (I.base.keep b o e n hb hx)
  ·obtain ⟨sl,e1⟩:=I.base.slot b o e n hb hx
   exact ⟨sl,(hs.2 b (Nat.ne_of_lt (Nat.lt_of_lt_of_le (Heap.lt_size e) I.ok.above))).trans e1⟩
  ·obtain ⟨o',e1⟩:=I.base.there b o e hx
   exact ⟨o',(hs.2 b (Nat.ne_of_lt (Nat.lt_of_lt_of_le (Heap.lt_size e) I.ok.above))).trans e1⟩
  ·by_cases hj:j=i
   ·subst hj
    rw [hi] at e1; cases e1
    rw [List.getElem?_set_self hiσ] at e2
    cases e2
    exact ⟨u,r,.inl ⟨hk,by simp⟩⟩
   ·rw [List.getElem?_set_ne (Ne.symm hj)] at e2
    obtain ⟨u',r',q⟩:=hl j y v' e1 e2 e3
    refine ⟨u',r',?_⟩
    rcases q with ⟨k,e⟩ | ⟨k,c,e,z⟩
    ·refine .inl ⟨k,?_⟩
     have:y ≠ x:=fun e=>hj (Fd hN e1 (e ▸ hi))
     simp [this,e]
    ·exact .inr ⟨k,c,e,z.sameBut hs (cne y c e)⟩
  ·obtain ⟨w',z⟩:=I.cell y c e
   exact ⟨w',z.sameBut hs (cne y c e)⟩
  ·obtain ⟨e,n,ne,nf,d⟩:=I.pin p hp
   exact ⟨(hs.2 p.1 ne).trans e,n,ne,nf,d⟩
 ·have hfn:X.fn x=true:=by
   rcases hf with z | z
   ·exact z
   ·rw [z] at hk; cases hk
  obtain ⟨c,hc⟩:=I.ok.has x (.inl hk)
  obtain ⟨w',z⟩:=I.cell x c hc
  refine wpAny_storeName_cell I.ok.kind hk hc z (fun h' hc' hs=> ?_)
  obtain ⟨oc,hoc,hocd⟩:=id z
  refine h { s with heap:=h' } ⟨I.ok,I.os,I.bare,⟨fun b o e n hb hx=> ?_,fun b o e n hb hx=> ?_,I.base.free,fun b o e hx=> ?_,I.base.tups,I.base.Di,I.base.GZ⟩,⟨m,hn.sameBut hs (Ne.symm (cne x c hc)),fun j y v' e1 e2 e3=> ?_⟩,fun y c' e=> ?_,I.free,I.lF,fun p hp=> ?_,tracked ⟨oc,hoc,I.lF x c hc⟩ hs,by simpa using I.len⟩ ⟨c,hs,.inr hc⟩
  ·exact (hs.2 b (Nat.ne_of_lt (Nat.lt_of_lt_of_le (Heap.lt_size e) (I.ok.cab x c hfn hc)))).trans (I.base.keep b o e n hb hx)
  ·obtain ⟨sl,e1⟩:=I.base.slot b o e n hb hx
   exact ⟨sl,(hs.2 b (Nat.ne_of_lt (Nat.lt_of_lt_of_le (Heap.lt_size e) (I.ok.cab x c hfn hc)))).trans e1⟩
  ·obtain ⟨o',e1⟩:=I.base.there b o e hx
   exact ⟨o',(hs.2 b (Nat.ne_of_lt (Nat.lt_of_lt_of_le (Heap.lt_size e) (I.ok.cab x c hfn hc)))).trans e1⟩
  ·by_cases hj:j=i
   ·subst hj
    rw [hi] at e1; cases e1
    rw [List.getElem?_set_self hiσ] at e2
    cases e2
    exact ⟨u,r,.inr ⟨.inl hk,c,hc,hc'⟩⟩
   ·rw [List.getElem?_set_ne (Ne.symm hj)] at e2
    obtain ⟨u',r',q⟩:=hl j y v' e1 e2 e3
    refine ⟨u',r',?_⟩
    rcases q with q | ⟨k,c',e,z'⟩
    ·exact .inl q
    ·refine .inr ⟨k,c',e,z'.sameBut hs ?_⟩
     rintro rfl
     exact hj (Fd hN e1 (I.ok.inj _ _ _ e hc ▸ hi))
  ·by_cases hcc:c'=c
   ·subst hcc; exact ⟨_,hc'⟩
   ·obtain ⟨w2,z2⟩:=I.cell y c' e
    exact ⟨w2,z2.sameBut hs hcc⟩
  ·obtain ⟨e,n,ne,nf,d⟩:=I.pin p hp
   refine ⟨(hs.2 p.1 ?_).trans e,n,ne,nf,d⟩
   intro q
   rw [q,hoc] at e
   have q':oc=p.2:=Option.some.inj e
   exact d w' (by rw [<-q']; exact hocd)
theorem DR {M:Model} {A:Around} {E:Value->Shared->Prop} {i:Nat} {x:Str} {v:V} {u:Value} {Q:Unit->Shared->Prop} (I:Inv X pins σ H s) (hN:X.N.Nodup) (hi:X.N[i]? = some x) (hx:Loc X.env.scope x) (r:RelV v u)
  (h:∀ s',Inv X pins (σ.set i (some v)) H s'->Q () s') (hf:X.fn x=true\/X.env.scope.names.lookup x=some .local:=by first | exact .inl rfl | exact .inr rfl | assumption):wpAny M A (storeName X.env x u) Q E s :=
 Ij I hN hi hx r (fun s' I' _=>h s' I') hf
theorem Inv.call' {s':Shared} {ch:List Addr} (I:Inv X pins σ H s) (ho:s'.os=s.os) (u:Un (frs X.stack) ch H H' s.heap s'.heap) (hok:HOk X.prog X.w H' s'.heap) (hg:AllBare s'.gens)
  (hch:∀ b ∈ ch,(b ∈ X.ex\/X.s_0.heap.objs.size<=b)/\b ≠ X.env.locals/\(∀ x c,X.env.cells.lookup x=some c->c ≠ b)/\∀ p ∈ X.pn++pins,p.1 ≠ b):Inv X pins σ H' s':=by
 obtain ⟨h',g',d',t',o'⟩:=s'
 have e:o'=s.os:=ho
 subst e
 exact I.call (g':=g') (t':=t') (d':=d') u hok hg hch
end
abbrev XK:=Value->Option Addr->Hp->Prop
abbrev St:=List (Option V)
abbrev VK:=V->Hp->Prop
abbrev TE:=St->Hp->VK->Prop
abbrev TT:=St->Hp->(Bool->Hp->Prop)->Prop
abbrev TA:=St->Hp->(List V->Hp->Prop)->Prop
structure Ends where
 nx:St->Hp->Prop
 rt:VK
 bk:St->Hp->Prop:=fun _ _=>False
 ct:St->Hp->Prop:=fun _ _=>False
abbrev TS:=Ends->St->Hp->Prop
def EP (X:Cx) (pins:List (Addr × Obj)) (σ : St) (Q:VK) (u:Value) (s':Shared):Prop:=∃ v H',Inv X pins σ H' s'/\RelV v u/\Q v H'
def TP (X:Cx) (pins:List (Addr × Obj)) (σ : St) (Q:Bool->Hp->Prop) (b:Bool) (s':Shared):Prop:=∃ H',Inv X pins σ H' s'/\Q b H'
def AP (X:Cx) (pins:List (Addr × Obj)) (σ : St) (Q:List V->Hp->Prop) (us:List Value) (s':Shared):Prop:=∃ vs H',Inv X pins σ H' s'/\Vals vs us/\Q vs H'
def SP (X:Cx) (pins:List (Addr × Obj)) (D:Ends) (f:Flow) (s':Shared):Prop :=
 match f with
 | .next=>∃ σ' H',Inv X pins σ' H' s'/\D.nx σ' H'
 | .brk=>∃ σ' H',Inv X pins σ' H' s'/\D.bk σ' H'
 | .cont=>∃ σ' H',Inv X pins σ' H' s'/\D.ct σ' H'
 | .ret u=>∃ v σ' H',Inv X pins σ' H' s'/\RelV v u/\D.rt v H'
def PE (X:Cx) (e:Expr) (t:TE):Prop :=
 ∀ (pins:List (Addr × Obj)) (s:Shared) (σ : St) (H:Hp) (Q:VK),Inv X pins σ H s->t σ H Q->wpAny (model X.prog X.w) X.A (eval e X.env) (EP X pins σ Q) X.xe s
def PT (X:Cx) (e:Expr) (t:TT):Prop :=
 ∀ (pins:List (Addr × Obj)) (s:Shared) (σ : St) (H:Hp) (Q:Bool->Hp->Prop),Inv X pins σ H s->t σ H Q->wpAny (model X.prog X.w) X.A (isTrue e X.env (eval e X.env)) (TP X pins σ Q) X.xe s
def PW (X:Cx) (e:Expr) (t:TT):Prop :=
 ∀ (whole:Sem Value) (pins:List (Addr × Obj)) (s:Shared) (σ : St) (H:Hp) (Q:Bool->Hp->Prop),Inv X pins σ H s->t σ H Q->wpAny (model X.prog X.w) X.A (isTrue e X.env whole) (TP X pins σ Q) X.xe s
theorem PW.pt {X:Cx} {e:Expr} {t:TT} (h:PW X e t):PT X e t:=h _
def PA (X:Cx) (es:List Expr) (t:TA):Prop :=
 ∀ (pos:Pos) (pins:List (Addr × Obj)) (s:Shared) (σ : St) (H:Hp) (Q:List V->Hp->Prop),Inv X pins σ H s->t σ H Q->wpAny (model X.prog X.w) X.A (spliced (backTo pos (starEach es X.env))) (AP X pins σ Q) X.xe s
def PS (X:Cx) (st:Stmt) (t:TS):Prop :=
 ∀ (pins:List (Addr × Obj)) (s:Shared) (σ : St) (H:Hp) (D:Ends),Inv X pins σ H s->t D σ H->wpAny (model X.prog X.w) X.A (exec st X.env) (SP X pins D) X.xe s
def PSs (X:Cx) (st:List Stmt) (t:TS):Prop :=
 ∀ (pins:List (Addr × Obj)) (s:Shared) (σ : St) (H:Hp) (D:Ends),Inv X pins σ H s->t D σ H->wpAny (model X.prog X.w) X.A (execs st X.env) (SP X pins D) X.xe s
theorem thn {α : Type} {t:Sem α} {Q Q' : α -> Shared->Prop} {M:Model} {A:Around} {E:Value->Shared->Prop} {s:Shared} (h:wpAny M A t Q E s) (hQ:∀ a s,Q a s->Q' a s):wpAny M A t Q' E s:=wpAny_mono h hQ fun _ _ x=>x
section
variable {X:Cx}
theorem bin {a b:Expr} {ta tb:TE} (ha:PE X a ta) (hb:PE X b tb) {pins:List (Addr × Obj)} {s:Shared} {σ : St} {H:Hp} {R:V->V->Hp->Prop} (I:Inv X pins σ H s) (h:ta σ H fun x H1=>tb σ H1 fun y H2=>R x y H2)
  {α : Type} {Q : α -> Shared->Prop} {f:Value->Value->Sem α}
  (hf:∀ v u s2 x y H2,Inv X pins σ H2 s2->RelV x v->RelV y u->R x y H2->wpAny (model X.prog X.w) X.A (f v u) Q X.xe s2) :
  wpAny (model X.prog X.w) X.A (eval a X.env) (fun v s₁ => wpAny (model X.prog X.w) X.A (eval b X.env) (fun u s₂ => wpAny (model X.prog X.w) X.A (f v u) Q X.xe s₂) X.xe s₁) X.xe s:=by
 refine thn (ha pins s σ H _ I h) fun v s1 ⟨x,H1,I1,r1,q1⟩=> ?_
 refine thn (hb pins s1 σ H1 _ I1 q1) fun u s2 ⟨y,H2,I2,r2,q2⟩=> ?_
 exact hf v u s2 x y H2 I2 r1 r2 q2
def JD (i:Nat):TE:=fun σ H Q=>∃ v,σ[i]? = some (some v)/\Q v H
def tC (v:V):TE:=fun _ H Q=>Q v H
theorem aaP {i:Nat} {x:Str} {pos:Pos} (hN:X.N[i]? = some x) (hv:Vis X.env.scope x) (hd:(x == ("__debug__" : Str))=false:=by decide) (hcd:(x == ("__classdict__" : Str))=false:=by decide):PE X (.Name x pos) (JD i):=by
 intro pins s σ H Q I h
 obtain ⟨v,e,h⟩:=h
 obtain ⟨m,hn,hl⟩:=I.loc
 obtain ⟨u,r,l⟩:=hl i x v hN e hv
 have fin:EP X pins σ Q u s:=⟨v,H,I,r,h⟩
 rcases l with ⟨hk,hm⟩ | ⟨hk,c,hc,hcell⟩
 ·exact wpAny_Name (wpAny_loadName_local I.ok.kind hk hn hm fin) hd
 ·rcases hk with hk | hk
  ·exact wpAny_Name (wpAny_loadName_cell I.ok.kind hk hc hcell fin) hd
  ·exact wpAny_Name (wpAny_loadName_free I.ok.kind hk hc hcell fin hcd) hd
theorem aB {i j pos}:PE X (.Constant (.int i) j pos) (tC (.int i)):=fun _ _ _ H _ I h=>wpAny_Constant_int ⟨.int i,H,I.tok _,⟨_,rfl⟩,h⟩
theorem pe_bl {b j pos}:PE X (.Constant (.bool b) j pos) (tC (.bl b)):=fun _ _ _ H _ I h=>Constant_bool ⟨.bl b,H,I,rfl,h⟩
theorem VR {j pos}:PE X (.Constant .none j pos) (tC .non):=fun _ _ _ H _ I h=>Constant_none ⟨.non,H,I,rfl,h⟩
theorem J1 {x j pos}:PE X (.Constant (.str x) j pos) (tC (.str x)):=fun _ _ _ H _ I h=>Calls.Constant_str ⟨.str x,H,I.tok _,⟨_,rfl⟩,h⟩
def Gl (X:Cx) (x:Str):Prop:=X.env.kindOf x=some .globalImplicit
theorem Dq {E:Value->Shared->Prop} {pins:List (Addr × Obj)} {s:Shared} {σ : St} {H:Hp} {x:Str} {u:Value} {pos:Pos} {Q:Value->Shared->Prop} (I:Inv X pins σ H s) (hg:Gl X x) (hm:X.mg x=some u) (h:Q u s)
  (hd:(x == ("__debug__" : Str))=false:=by decide):wpAny (model X.prog X.w) X.A (eval (.Name x pos) X.env) Q E s :=
 Calls.Name_function_global I.ok.kind hg (Calls.loadGlobal_global (by rw [I.ok.glob]; exact I.mod.glob.keeps I.bk) hm h) hd
theorem m6 {E:Value->Shared->Prop} {pins:List (Addr × Obj)} {s:Shared} {σ : St} {H:Hp} {x:Str} {u:Value} {pos:Pos} {Q:Value->Shared->Prop} (I:Inv X pins σ H s) (hg:Gl X x) (hm:X.mg x=none) (hv:bootBuiltins x=some u) (h:Q u s)
  (hn:x ≠ "__name__" := by decide) (hd:(x == ("__debug__" : Str))=false:=by decide):wpAny (model X.prog X.w) X.A (eval (.Name x pos) X.env) Q E s:=by
 obtain ⟨mb,h1,h2⟩:=I.mod.blt
 exact Calls.Name_function_global I.ok.kind hg (Calls.loadGlobal_builtin (by rw [I.ok.glob]; exact I.mod.glob.keeps I.bk) hm (by rw [I.ok.blt]; exact h1.keeps I.bk) ((h2 x hn).trans hv) h) hd
theorem RG {x:Str} {v:V} {u:Value} {pos:Pos} (hg:Gl X x) (hm:X.mg x=some u) (r:RelV v u) (hd:(x == ("__debug__" : Str))=false:=by decide):PE X (.Name x pos) (tC v) :=
 fun _ _ _ H _ I h=>Dq I hg hm ⟨v,H,I,r,h⟩ hd
variable {a b:Expr} {ta tb:TE} {pos:Pos}
def PC (X:Cx) (op:CmpOp) (a b:Expr) (t:TE):Prop :=
 ∀ (pins:List (Addr × Obj)) (s:Shared) (σ : St) (H:Hp) (Q:VK),Inv X pins σ H s->t σ H Q ->
  wpAny (model X.prog X.w) X.A (eval a X.env) (fun v s₁ => wpAny (model X.prog X.w) X.A (eval b X.env) (fun u s₂ => wpAny (model X.prog X.w) X.A (compareOp op v u) (EP X pins σ Q) X.xe s₂) X.xe s₁) X.xe s
def tB (t:TE):TT:=fun σ H Q=>t σ H fun x H1=>∃ c,x = .bl c/\Q c H1
theorem aaM {op:CmpOp} {t:TE} (h:PC X op a b t) (h1:behindInMarks op b=false:=by first | exact nobehind _ (by decide) (by decide) | rfl):PT X (.Compare a [op] [b] pos) (tB t):=by
 intro pins s σ H Q I hw
 refine wpAny_isTrue_Compare1 (thn (h pins s σ H _ I hw) fun v s1 h1=>thn h1 fun u s2 h2=>thn h2 fun c s3 ⟨x,H1,I1,r1,q1⟩=> ?_) h1
 obtain ⟨d,rfl,q⟩:=q1
 cases r1
 exact wpAny_truthy_bool ⟨H1,I1,q⟩
theorem tQ {e:Expr} {t:TE} (h:PE X e t) (he:∀ whole,isTrue e X.env whole=(do let v <- whole; standAt e.pos; holding [v] (truthy v)):=by intro _; rfl):PT X e (tB t):=by
 intro pins s σ H Q I hw
 refine isTrue_plain (thn (h pins s σ H _ I hw) fun v s1 ⟨x,H1,I1,r1,q1⟩=> ?_) (he _)
 obtain ⟨d,rfl,q⟩:=q1
 cases r1
 exact wpAny_truthy_bool ⟨H1,I1,q⟩
variable {tA tB':TT} {rest:List Expr}
def tAnd (t u:TT):TT:=fun σ H Q=>t σ H fun c H1=>if c=true then u σ H1 Q else Q false H1
def tOr (t u:TT):TT:=fun σ H Q=>t σ H fun c H1=>if c=true then Q true H1 else u σ H1 Q
def tNot (t:TT):TT:=fun σ H Q=>t σ H fun c H1=>Q (!c) H1
theorem JX (ha:PT X a tA):PW X (.BoolOp .And [a] pos) tA:=by
 intro wh pins s σ H Q I h
 refine isTrue_and (thn (ha pins s σ H Q I h) fun c s1 e=> ?_)
 cases c with
 | true=>exact isTrue_and_nil e
 | false=>exact e
theorem JW (ha:PT X a tA):PW X (.BoolOp .Or [a] pos) tA:=by
 intro wh pins s σ H Q I h
 refine isTrue_or (thn (ha pins s σ H Q I h) fun c s1 e=> ?_)
 cases c with
 | false=>exact isTrue_or_nil e
 | true=>exact e
theorem Qa (ha:PT X a tA) (hb:PW X (.BoolOp .And (b :: rest) pos) tB'):PW X (.BoolOp .And (a :: b :: rest) pos) (tAnd tA tB'):=by
 intro wh pins s σ H Q I h
 refine isTrue_and (thn (ha pins s σ H _ I h) fun c s1 ⟨H1,I1,q1⟩=> ?_)
 cases c with
 | true=>exact hb wh pins s1 σ H1 Q I1 q1
 | false=>exact ⟨H1,I1,q1⟩
theorem Iv (ha:PT X a tA) (hb:PW X (.BoolOp .Or (b :: rest) pos) tB'):PW X (.BoolOp .Or (a :: b :: rest) pos) (tOr tA tB'):=by
 intro wh pins s σ H Q I h
 refine isTrue_or (thn (ha pins s σ H _ I h) fun c s1 ⟨H1,I1,q1⟩=> ?_)
 cases c with
 | true=>exact ⟨H1,I1,q1⟩
 | false=>exact hb wh pins s1 σ H1 Q I1 q1
theorem VJ (ha:PT X a tA):PT X (.UnaryOp .Not a pos) (tNot tA):=by
 intro pins s σ H Q I h
 exact isTrue_not (ha pins s σ H (fun c H1=>Q (!c) H1) I h)
def tAndV (ta tb:TE):TE:=fun σ H Q=>ta σ H fun x H1=>∃ c,x = .bl c/\if c=true then tb σ H1 Q else Q (.bl false) H1
def tOrV (ta tb:TE):TE:=fun σ H Q=>ta σ H fun x H1=>∃ c,x = .bl c/\if c=true then Q (.bl true) H1 else tb σ H1 Q
theorem Qc {op} {t:TE} (h:PE X a t):PE X (.BoolOp op [a] pos) t:=fun pins s σ H Q I hw=>BoolOp_one (h pins s σ H Q I hw)
theorem V5 (ha:PE X a ta) (hb:PE X (.BoolOp .And (b :: rest) pos) tb):PE X (.BoolOp .And (a :: b :: rest) pos) (tAndV ta tb):=by
 intro pins s σ H Q I h
 refine BoolOp_and (thn (ha pins s σ H _ I h) fun v s1 ⟨x,H1,I1,r1,q1⟩=> ?_)
 obtain ⟨c,rfl,q1⟩:=q1
 cases r1
 refine wpAny_truthy_bool ?_
 cases c with
 | true=>exact hb pins s1 σ H1 Q I1 q1
 | false=>exact ⟨.bl false,H1,I1,rfl,q1⟩
theorem pe_or (ha:PE X a ta) (hb:PE X (.BoolOp .Or (b :: rest) pos) tb):PE X (.BoolOp .Or (a :: b :: rest) pos) (tOrV ta tb):=by
 intro pins s σ H Q I h
 refine BoolOp_or (thn (ha pins s σ H _ I h) fun v s1 ⟨x,H1,I1,r1,q1⟩=> ?_)
 obtain ⟨c,rfl,q1⟩:=q1
 cases r1
 refine wpAny_truthy_bool ?_
 cases c with
 | false=>exact hb pins s1 σ H1 Q I1 q1
 | true=>exact ⟨.bl true,H1,I1,rfl,q1⟩
def tIf (t:TT) (ta tb:TE):TE:=fun σ H Q=>t σ H fun c H1=>if c=true then ta σ H1 Q else tb σ H1 Q
theorem Mz {c:Expr} (hc:PT X c tA) (ha:PE X a ta) (hb:PE X b tb):PE X (.IfExp c a b pos) (tIf tA ta tb):=by
 intro pins s σ H Q I h
 refine wpAny_IfExp (thn (hc pins s σ H _ I h) fun d s1 ⟨H1,I1,q1⟩=> ?_)
 cases d with
 | true=>exact ha pins s1 σ H1 Q I1 q1
 | false=>exact hb pins s1 σ H1 Q I1 q1
end
def SqL (K:PySem.W.Frag) (H:Hp) (a:Addr) (xs:List V):Prop :=
 Rd H a (.lst xs) \/
  ∃ (o:Obj) (its:Array Value) (n:Nat),K.lookup a=some o/\o.cls = .type "list" /\ o.dict=none/\o.data = .seq its n/\its.size<=sizeLine/\Vals xs its.toList
def SqT (K:PySem.W.Frag) (H:Hp) (a:Addr) (xs:List V):Prop :=
 Rd H a (.tup xs) \/
  ∃ (o:Obj) (its:Array Value) (n:Nat),K.lookup a=some o/\o.cls = .type "tuple" /\ o.data = .seq its n/\its.size<=sizeLine/\Vals xs its.toList
def Xn:Value->Option V
 | .none=>some .non
 | .bool b=>some (.bl b)
 | .int i _=>some (.int i)
 | .str x _=>some (.str x)
 | .bytes b _=>some (.byt b)
 | .float b _=>some (.flt b)
 | .ref a=>some (.ref a)
 | .type n=>some (.ty n)
 | _=>none
theorem RelV.abs {x:V} {u:Value} (r:RelV x u):Xn u=some x:=by
 cases x with
 | non=>cases r; rfl
 | bl _=>cases r; rfl
 | int _=>obtain ⟨t,rfl⟩:=r; rfl
 | str _=>obtain ⟨t,rfl⟩:=r; rfl
 | byt _=>obtain ⟨t,rfl⟩:=r; rfl
 | flt _=>obtain ⟨t,rfl⟩:=r; rfl
 | ref _=>cases r; rfl
 | ty _=>cases r; rfl
theorem RelV.inj {x y:V} {u:Value} (r:RelV x u) (q:RelV y u):x=y:=Option.some.inj (r.abs.symm.trans q.abs)
theorem Vals.inj:∀ {xs ys:List V} {us:List Value},Vals xs us->Vals ys us->xs=ys
 | _,_,_,.nil,.nil=>rfl
 | _,_,_,.cons r t,.cons r' t'=>by rw [r.inj r',Vals.inj t t']
section
variable {X:Cx} {pins:List (Addr × Obj)} {σ : St} {H:Hp} {s:Shared} {a:Addr} {xs ys:List V}
theorem SqL.of {K:PySem.W.Frag} (h:H a=some (.lst xs)):SqL K H a xs:= .inl (.inl h)
theorem SqT.of {K:PySem.W.Frag} (h:H a=some (.tup xs)):SqT K H a xs:= .inl (.inl h)
theorem Inv.list (I:Inv X pins σ H s) (h:SqL X.K H a xs):∃ its:List Value,Vals xs its/\PlainL s.heap a its.toArray/\xs.length<=sizeLine:=by
 rcases h with h | ⟨o,its,n,hk,hc,hd,hs,hz,r⟩
 ·obtain ⟨z,its,n,r,e⟩:=h.ok I.hok
  exact ⟨its,r,⟨_,n,e,rfl,rfl,rfl⟩,z⟩
 ·refine ⟨its.toList,r,⟨o,n,I.kIn a o hk,hc,hd,by simpa using hs⟩,?_⟩
  have e:=r.length
  simp only [Array.length_toList] at e
  omega
theorem Inv.tuple (I:Inv X pins σ H s) (h:SqT X.K H a xs):∃ its:List Value,Vals xs its/\IsTup s.heap a its.toArray/\xs.length<=sizeLine:=by
 rcases h with h | ⟨o,its,n,hk,hc,hs,hz,r⟩
 ·obtain ⟨z,its,r,p⟩:=h.ok I.hok
  exact ⟨its,r,p,z⟩
 ·refine ⟨its.toList,r,⟨o,I.kIn a o hk,hc,n,by simpa using hs⟩,?_⟩
  have e:=r.length
  simp only [Array.length_toList] at e
  omega
theorem Inv.n8 (I:Inv X pins σ H s) (h:SqL X.K H a xs) (h':SqL X.K H a ys):xs=ys:=by
 obtain ⟨its,r,⟨o,n,e,_,_,d⟩,_⟩:=I.list h
 obtain ⟨its',r',⟨o',n',e',_,_,d'⟩,_⟩:=I.list h'
 rw [e] at e'; cases e'
 rw [d] at d'
 injection d' with d1 _
 have:its=its':=by simpa using congrArg Array.toList d1
 subst this
 exact r.inj r'
theorem Inv.zR (I:Inv X pins σ H s) (h:SqT X.K H a xs) (h':SqT X.K H a ys):xs=ys:=by
 obtain ⟨its,r,⟨o,e,_,n,d⟩,_⟩:=I.tuple h
 obtain ⟨its',r',⟨o',e',_,n',d'⟩,_⟩:=I.tuple h'
 rw [e] at e'; cases e'
 rw [d] at d'
 injection d' with d1 _
 have:its=its':=by simpa using congrArg Array.toList d1
 subst this
 exact r.inj r'
end
abbrev Cx.wish (X:Cx) (E:Value->Shared->Prop):Cx:={ X with xe:=E }
abbrev Cx.nox (X:Cx):Cx:=X.wish fun _ _=>False
theorem Cx.Ok.wish {X:Cx} (ok:X.Ok) (E:Value->Shared->Prop):(X.wish E).Ok :=
 ⟨ok.mod,ok.kind,ok.glob,ok.blt,ok.above,ok.inj,ok.has,ok.cab,ok.hd,ok.frames,ok.stk,ok.exf,ok.bs,ok.bsz,ok.Wg,ok.W7,ok.Aq,ok.frf⟩
theorem Cx.Ok.rM {X:Cx} {E:Value->Shared->Prop} (ok:(X.wish E).Ok):X.Ok :=
 ⟨ok.mod,ok.kind,ok.glob,ok.blt,ok.above,ok.inj,ok.has,ok.cab,ok.hd,ok.frames,ok.stk,ok.exf,ok.bs,ok.bsz,ok.Wg,ok.W7,ok.Aq,ok.frf⟩
section
variable {X:Cx} {pins:List (Addr × Obj)} {σ : St} {H:Hp} {s:Shared} {E:Value->Shared->Prop}
theorem Inv.wish (I:Inv X pins σ H s) (E:Value->Shared->Prop):Inv (X.wish E) pins σ H s:=⟨I.ok.wish E,I.os,I.bare,I.base,I.loc,I.cell,I.free,I.lF,I.pin,I.hok,I.len⟩
theorem Inv.rM (I:Inv (X.wish E) pins σ H s):Inv X pins σ H s:=⟨I.ok.rM,I.os,I.bare,I.base,I.loc,I.cell,I.free,I.lF,I.pin,I.hok,I.len⟩
theorem SP.rM {D:Ends} {f:Flow} {s':Shared} (h:SP (X.wish E) pins D f s'):SP X pins D f s':=by
 cases f with
 | next=>obtain ⟨σ',H',I,q⟩:=h; exact ⟨σ',H',I.rM,q⟩
 | brk=>obtain ⟨σ',H',I,q⟩:=h; exact ⟨σ',H',I.rM,q⟩
 | cont=>obtain ⟨σ',H',I,q⟩:=h; exact ⟨σ',H',I.rM,q⟩
 | ret u=>obtain ⟨v,σ',H',I,r,q⟩:=h; exact ⟨v,σ',H',I.rM,r,q⟩
theorem PSs.nox {st:List Stmt} {t:TS} (h:PSs X.nox st t):PSs X st t:=fun pins s σ H D I hw =>
 wpAny_mono (h pins s σ H D (I.wish _) hw) (fun _ _ q=>q.rM) fun _ _ z=>False.elim z
end
section
variable {X:Cx} {st:Stmt} {rest:List Stmt} {t u:TS} {e:Expr} {te:TE} {pos:Pos}
def tNext:TS:=fun D σ H=>D.nx σ H
def tSeq (t u:TS):TS:=fun D σ H=>t { D with nx:=u D } σ H
theorem bD:PSs X [] tNext:=fun _ _ σ H _ I h=>wpAny_execs_nil ⟨σ,H,I,h⟩
theorem ao (h1:PS X st t) (h2:PSs X rest u):PSs X (st :: rest) (tSeq t u):=by
 intro pins s σ H D I h
 refine wpAny_execs_cons (thn (h1 pins s σ H { D with nx:=u D } I h) fun f s1 q=> ?_)
 cases f with
 | next =>
  obtain ⟨σ',H',I',q⟩:=q
  exact h2 pins s1 σ' H' D I' q
 | ret v=>exact q
 | brk=>exact q
 | cont=>exact q
theorem au (h1:PS X st t):PSs X [st] t:=by
 intro pins s σ H D I h
 refine wpAny_execs_cons (thn (h1 pins s σ H D I h) fun f s1 q=> ?_)
 cases f with
 | next=>exact wpAny_execs_nil q
 | ret v=>exact q
 | brk=>exact q
 | cont=>exact q
theorem Inv.quiet {pins:List (Addr × Obj)} {σ : St} {H:Hp} {s:Shared} (I:Inv X pins σ H s):interactive X.env=false:=by simp [interactive,I.ok.kind]
def Rq (te:TE):TS:=fun D σ H=>te σ H fun _ H1=>D.nx σ H1
theorem uX (he:PE X e te) (hs:swapsWith e none pos.line X.env=pure false:=by rfl):PS X (.Expr e pos) (Rq te):=by
 intro pins s σ H D I h
 exact wpAny_Expr_any (thn (he pins s σ H _ I h) fun v s1 ⟨x,H1,I1,r1,q1⟩=>⟨σ,H1,I1,q1⟩) I.quiet hs
def tRet (te:TE):TS:=fun D σ H=>te σ H D.rt
theorem aJ (he:PE X e te):PS X (.Return (some e) pos) (tRet te):=by
 intro pins s σ H D I h
 exact wpAny_Return_some (thn (he pins s σ H _ I h) fun v s1 ⟨x,H1,I1,r1,q1⟩=>⟨x,σ,H1,I1,r1,q1⟩)
def tIfS (c:TT) (t u:TS):TS:=fun D σ H=>c σ H fun b H1=>if b=true then t D σ H1 else u D σ H1
theorem cV {c:Expr} {a b:List Stmt} {tc:TT} (hc:PT X c tc) (ha:PSs X a t) (hb:PSs X b u):PS X (.If c a b pos) (tIfS tc t u):=by
 intro pins s σ H D I h
 refine wpAny_If (thn (hc pins s σ H _ I h) fun d s1 ⟨H1,I1,q1⟩=> ?_)
 cases d with
 | true=>exact ha pins s1 σ H1 D I1 q1
 | false=>exact hb pins s1 σ H1 D I1 q1
end
abbrev TG:=V->St->Hp->(St->Hp->Prop)->Prop
abbrev TGs:=List V->St->Hp->(St->Hp->Prop)->Prop
def PG (X:Cx) (target:Expr) (t:TG):Prop :=
 ∀ (pins:List (Addr × Obj)) (s:Shared) (σ : St) (H:Hp) (v:V) (u:Value) (Q:St->Hp->Prop),Inv X pins σ H s->RelV v u->t v σ H Q ->
  wpAny (model X.prog X.w) X.A (assign target X.env u) (fun _ s'=>∃ σ' H',Inv X pins σ' H' s'/\Q σ' H') X.xe s
def PGs (X:Cx) (ts:List Expr) (t:TGs):Prop :=
 ∀ (pins:List (Addr × Obj)) (s:Shared) (σ : St) (H:Hp) (vs:List V) (us:List Value) (Q:St->Hp->Prop),Inv X pins σ H s->Vals vs us->t vs σ H Q ->
  wpAny (model X.prog X.w) X.A (assignInOrder ((assignEach ts X.env).map (·.2)) us) (fun _ s'=>∃ σ' H',Inv X pins σ' H' s'/\Q σ' H') X.xe s
abbrev TIp:=V->V->Hp->VK->Prop
def PIp (X:Cx) (op:Operator) (t:TIp):Prop :=
 ∀ (pins:List (Addr × Obj)) (s:Shared) (σ : St) (H:Hp) (x y:V) (v u:Value) (Q:VK),Inv X pins σ H s->RelV x v->RelV y u->t x y H Q ->
  wpAny (model X.prog X.w) X.A (inplaceOp op v u) (EP X pins σ Q) X.xe s
section
variable {X:Cx} {pos:Pos}
def yp (i:Nat):TG:=fun v σ H Q=>Q (σ.set i (some v)) H
theorem YC {i:Nat} {x:Str} (hN:X.N.Nodup) (hi:X.N[i]? = some x) (hx:Loc X.env.scope x) (hf:X.fn x=true\/X.env.scope.names.lookup x=some .local:=by first | exact .inl rfl | exact .inr rfl | assumption):PG X (.Name x pos) (yp i):=by
 intro pins s σ H v u Q I r h
 exact wpAny_assign_Name (DR I hN hi hx r (fun s' I'=>⟨_,H,I',h⟩) hf)
def gNil:TGs:=fun vs σ H Q=>vs=[]/\Q σ H
def gCons (t:TG) (u:TGs):TGs:=fun vs σ H Q=>∃ v r,vs=v :: r/\t v σ H fun σ' H'=>u r σ' H' Q
theorem fY:PGs X [] gNil:=by
 intro pins s σ H vs us Q I r h
 obtain ⟨e,h⟩:=h
 subst e
 cases r
 exact assignInOrder_nil ⟨σ,H,I,h⟩
theorem bA {e:Expr} {es:List Expr} {t:TG} {u:TGs} (h1:PG X e t) (h2:PGs X es u)
  (hs:(assignEach (e :: es) X.env).map (·.2)=assign e X.env :: (assignEach es X.env).map (·.2):=by rfl):PGs X (e :: es) (gCons t u):=by
 intro pins s σ H vs us Q I r h
 obtain ⟨v,vr,e1,h⟩:=h
 subst e1
 cases r with
 | cons r rr =>
  rw [hs]
  refine assignInOrder_cons (thn (h1 pins s σ H _ _ _ I r h) fun _ s1 ⟨σ1,H1,I1,q1⟩=> ?_)
  exact h2 pins s1 σ1 H1 _ _ Q I1 rr q1
def gTup (K:PySem.W.Frag) (n:Nat) (t:TGs):TG:=fun v σ H Q=>∃ a xs,v = .ref a/\SqT K H a xs/\xs.length=n/\t xs σ H Q
theorem wO {es:List Expr} {k:Nat} {t:TGs} {n:Nat} (hc:X.calm=true) (h:PGs X es t)
  (hn:(assignEach es X.env).length=n:=by rfl) (hst:(assignEach es X.env).findIdx? (·.1)=none:=by rfl):PG X (.Tuple es k pos) (gTup X.K n t):=by
 intro pins s σ H v u Q I r hw
 obtain ⟨a,xs,e1,hq,hl,hw⟩:=hw
 subst e1
 cases r
 obtain ⟨its,rv,ht,hz⟩:=I.tuple hq
 refine assign_Tuple_tuple (I.ok.hd hc) ht (by simp [hn,<-hl,rv.length]) hst fun h' hx=> ?_
 have I1:Inv X pins σ H { s with heap:=h' }:=I.kept (t':=s.toks) fun b o e=>hx b o (Nat.ne_of_lt (Heap.lt_size e)) e
 exact h pins _ σ H xs _ Q I1 (by simpa using rv) hw
def tAsg (te:TE) (g:TG):TS:=fun D σ H=>te σ H fun x H1=>g x σ H1 D.nx
theorem aaN {i:Nat} {x:Str} {e:Expr} {te:TE} {pos':Pos} (hN:X.N.Nodup) (hi:X.N[i]? = some x) (hx:Loc X.env.scope x) (he:PE X e te) (hs:swapsWith e (some (.Name x pos')) pos.line X.env=pure false:=by rfl) (hf:X.fn x=true\/X.env.scope.names.lookup x=some .local:=by first | exact .inl rfl | exact .inr rfl | assumption) :
  PS X (.Assign [.Name x pos'] e pos) (tAsg te (yp i)):=by
 intro pins s σ H D I h
 refine wpAny_Assign_Name (thn (he pins s σ H _ I h) fun v s1 ⟨y,H1,I1,r1,q1⟩=> ?_) hs
 exact DR I1 hN hi hx r1 (fun s2 I2=>⟨_,H1,I2,q1⟩) hf
def tAug (i:Nat) (te:TE) (ti:TIp):TS:=fun D σ H=>∃ x,σ[i]? = some (some x)/\te σ H fun y H1=>ti x y H1 fun z H2=>D.nx (σ.set i (some z)) H2
theorem VL {i:Nat} {x:Str} {e:Expr} {te:TE} {op:Operator} {ti:TIp} {pos':Pos} (hN:X.N.Nodup) (hi:X.N[i]? = some x) (hx:Loc X.env.scope x) (he:PE X e te) (ho:PIp X op ti) (hf:X.fn x=true\/X.env.scope.names.lookup x=some .local:=by first | exact .inl rfl | exact .inr rfl | assumption) :
  PS X (.AugAssign (.Name x pos') op e pos) (tAug i te ti):=by
 intro pins s σ H D I h
 obtain ⟨v,e1,h⟩:=h
 obtain ⟨m,hn,hl⟩:=I.loc
 have vis:Vis X.env.scope x:=by rcases hx with k | k; exact .inl k; exact .inr (.inl k)
 obtain ⟨u,r,l⟩:=hl i x v hi e1 vis
 refine wpAny_AugAssign_Name ?_
 have go:wpAny (model X.prog X.w) X.A (eval e X.env) (fun w s₂ => wpAny (model X.prog X.w) X.A (inplaceOp op u w) (fun r s₃ => wpAny (model X.prog X.w) X.A (storeName X.env x r) (fun _=>SP X pins D .next) X.xe s₃) X.xe s₂) X.xe s:=by
  refine thn (he pins s σ H _ I h) fun w s1 ⟨y,H1,I1,r1,q1⟩=> ?_
  refine thn (ho pins s1 σ H1 v y u w _ I1 r r1 q1) fun z s2 ⟨zv,H2,I2,r2,q2⟩=> ?_
  exact DR I2 hN hi hx r2 (fun s3 I3=>⟨_,H2,I3,q2⟩) hf
 rcases l with ⟨hk,hm⟩ | ⟨hk,c,hc,hcell⟩
 ·exact wpAny_loadName_local I.ok.kind hk hn hm go
 ·rcases hk with hk | hk
  ·exact wpAny_loadName_cell I.ok.kind hk hc hcell go
  ·rcases hx with k | k
   ·have:X.env.scope.names.lookup x=some .free:=hk
    rw [k] at this; cases this
   ·have:X.env.scope.names.lookup x=some .free:=hk
    rw [k] at this; cases this
def ipI (f:Int->Int->Int):TIp:=fun x y H Q=>∃ i j,x = .int i/\y = .int j/\Q (.int (f i j)) H
theorem Wv:PIp X .Add (ipI fun i j=>i + j):=by
 intro pins s σ H x y v u Q I r1 r2 h
 obtain ⟨i,j,e1,e2,q⟩:=h
 subst e1; subst e2
 obtain ⟨t,rfl⟩:=r1
 obtain ⟨t',rfl⟩:=r2
 exact iadd_int ⟨.int _,H,I.tok _,⟨_,rfl⟩,q⟩
end
section
variable {X:Cx} {pos:Pos}
def Vs (c:TT) (tb:TS):TS:=fun D σ H=>∃ W:Nat->St->Hp->Prop,(∃ m,W m σ H)/\∀ m σ H,W m σ H ->
 c σ H fun b H1=>if b=true then ∃ N:St->Hp->Prop,(∀ σ' H',N σ' H'->∃ m',m' < m/\W m' σ' H')/\tb { D with nx:=N,ct:=N,bk:=D.nx } σ H1 else D.nx σ H1
theorem Mv {c:Expr} {body:List Stmt} {tc:TT} {tb:TS} (hp:PassesOwn (model X.prog X.w) X.A X.env X.xe) (hc:PT X c tc) (hb:PSs X body tb):PS X (.While c body [] pos) (Vs tc tb):=by
 intro pins s σ H D I h
 obtain ⟨W,⟨m0,w0⟩,turn⟩:=h
 refine wpAny_While (codeAny_whileLoop (fun n s'=>∃ σ' H',Inv X pins σ' H' s'/\W n σ' H') ?_ m0 ⟨σ,H,I,w0⟩)
 rintro n s1 ⟨σ1,H1,I1,w1⟩
 refine wpAny_passesOwn hp (thn (hc pins s1 σ1 H1 _ I1 (turn n σ1 H1 w1)) fun b s2 ⟨H2,I2,q2⟩=> ?_)
 cases b with
 | true =>
  obtain ⟨N,hN,q2⟩:=q2
  rw [if_pos rfl]
  refine wpAny_passesOwn hp (thn (hb pins s2 σ1 H2 _ I2 q2) fun f s3 q3=> ?_)
  cases f with
  | next =>
   obtain ⟨σ3,H3,I3,n3⟩:=q3
   obtain ⟨m',hm,w3⟩:=hN σ3 H3 n3
   exact ⟨m',hm,σ3,H3,I3,w3⟩
  | cont =>
   obtain ⟨σ3,H3,I3,n3⟩:=q3
   obtain ⟨m',hm,w3⟩:=hN σ3 H3 n3
   exact ⟨m',hm,σ3,H3,I3,w3⟩
  | brk=>exact q3
  | ret v=>exact q3
 | false =>
  rw [if_neg Bool.false_ne_true]
  exact wpAny_execs_nil ⟨σ1,H2,I2,q2⟩
end
structure It where
 go:Nat->Hp->Prop
 yld:Nat->Hp->V->Hp->Prop
 stop:Nat->Hp->Prop
def zp (X:Cx) (pins:List (Addr × Obj)) (H:Hp) (b:Addr):Prop :=
 H b=none/\b ≠ X.env.locals/\b ∉ X.fs/\(b ∈ X.ex\/X.s_0.heap.objs.size<=b)/\(∀ x c,X.env.cells.lookup x=some c->c ≠ b)/\∀ p ∈ X.pn++pins,p.1 ≠ b
theorem Inv.Dj {X:Cx} {pins:List (Addr × Obj)} {σ : St} {H H':Hp} {s:Shared} {b:Addr} (I:Inv X pins σ H s) (hb:s.heap.objs.size<=b) (hn:H' b=none):zp X pins H' b:=by
 refine ⟨hn,Nat.ne_of_gt (Nat.lt_of_lt_of_le I.lt hb),I.nofs hb,.inr (Nat.le_trans I.sz hb),fun x c e z=> ?_,fun p hp z=> ?_⟩
 ·obtain ⟨v,q⟩:=I.cell x c e
  exact absurd (Nat.lt_of_lt_of_le q.lt (by rw [z]; exact hb)) (Nat.lt_irrefl _)
 ·exact absurd (Nat.lt_of_lt_of_le (Heap.lt_size (I.pin p hp).1) (by rw [z]; exact hb)) (Nat.lt_irrefl _)
structure Turn (P:Program) (w:World) (K:PySem.W.Frag) (tg:Expr) (J:It) (fp:List Addr) (it:Addr) (tn:Nat->Heap->Prop):Prop where
 mem:it ∈ fp
 obj:∀ i h,tn i h->∀ b ∈ fp,∃ o,h.get? b=some o/\∀ v,o.data ≠ .cell v
 keep:∀ i h h',tn i h->(∀ b ∈ fp,∀ o,h.get? b=some o->h'.get? b=some o)->tn i h'
 item:∀ (X:Cx),X.prog=P->X.w=w->X.K=K->X.calm=true->∀ (i:Nat) (pins:List (Addr × Obj)) (s:Shared) (σ : St) (H:Hp) (E:Value->Shared->Prop),Inv X pins σ H s->(∀ b ∈ fp,zp X pins H b)->tn i s.heap->J.go i H ->
  wpAny (model P w) X.A (pyNext (.ref it)) (fun r s1=>∃ u,r=some u /\
   wpAny (model P w) X.A (letOwnedTupleGo tg (.ref it) u) (fun _ s2=>∃ x H',Inv X pins σ H' s2/\RelV x u/\J.yld i H x H'/\tn (i + 1) s2.heap/\∀ b ∈ fp,H' b=none) E s1) E s
 done:∀ (X:Cx),X.prog=P->X.w=w->X.K=K->X.calm=true->∀ (i:Nat) (pins:List (Addr × Obj)) (s:Shared) (σ : St) (H:Hp) (E:Value->Shared->Prop),Inv X pins σ H s->(∀ b ∈ fp,zp X pins H b)->tn i s.heap->J.stop i H ->
  wpAny (model P w) X.A (pyNext (.ref it)) (fun r s1=>r=none/\Inv X pins σ H s1) E s
 self:∀ (A:Around) (i:Nat) (s:Shared) (Q:Value->Shared->Prop) (E:Value->Shared->Prop),tn i s.heap->Q (.ref it) s->wpAny (model P w) A (pyIter (.ref it)) Q E s
abbrev TI:=St->Hp->(It->Hp->Prop)->Prop
def PIE (X:Cx) (pins:List (Addr × Obj)) (σ : St) (tg:Expr) (R:It->Hp->Prop) (itv:Value) (s2:Shared):Prop :=
 ∃ (it:Addr) (fp:List Addr) (tn:Nat->Heap->Prop) (J:It) (H':Hp),itv = .ref it/\Inv X pins σ H' s2/\Turn X.prog X.w X.K tg J fp it tn/\tn 0 s2.heap/\(∀ b ∈ fp,zp X pins H' b)/\R J H'
def PI (X:Cx) (tg iter:Expr) (wi:TI):Prop :=
 ∀ (pins:List (Addr × Obj)) (s:Shared) (σ : St) (H:Hp) (R:It->Hp->Prop),Inv X pins σ H s->wi σ H R ->
  wpAny (model X.prog X.w) X.A (eval iter X.env) (fun v s1=>wpAny (model X.prog X.w) X.A (pyIter v) (PIE X pins σ tg R) X.xe s1) X.xe s
theorem Nz {M:Model} {A:Around} {E:Value->Shared->Prop} {s:Shared} {tg:Expr} {it:Addr} {u:Value} {o:Obj} {n:String} {vs:Array Value} {Q:Unit->Shared->Prop} (ho:s.heap.get? it=some o) (hc:o.cls = .type n) (hd:o.data = .fields vs)
    (hn:["enumerate", "zip", "dict_itemiterator", "dict_reverseitemiterator", "odict_iterator", "itertools.zip_longest", "itertools.pairwise"].contains n=false) (hQ:Q () s):wpAny M A (letOwnedTupleGo tg (.ref it) u) Q E s:=by
  unfold letOwnedTupleGo
  cases tg <;> first
    | exact wpAny_pure hQ
    | (cases u <;> first
        | exact wpAny_pure hQ
        | (refine wpAny_bind (wpAny_load ho ?_)
           rw [hc,hd]
           show wpAny M A (if (["enumerate", "zip", "dict_itemiterator", "dict_reverseitemiterator", "odict_iterator", "itertools.zip_longest", "itertools.pairwise"].contains n && vs[0]? == some (rawInt _))=true then _ else _) Q E s
           rw [if_neg (by intro h; rw [hn,Bool.false_and] at h; cases h)]
           exact wpAny_pure hQ))
def Itl (K:PySem.W.Frag) (a:Addr):It :=
 ⟨fun i H=>∃ xs x,SqL K H a xs/\xs[i]? = some x,fun i H x H'=>H'=H/\∀ xs,SqL K H a xs->xs[i]? = some x,fun i H=>∃ xs,SqL K H a xs/\xs.length<=i⟩
def Itt (K:PySem.W.Frag) (a:Addr):It :=
 ⟨fun i H=>∃ xs x,SqT K H a xs/\xs[i]? = some x,fun i H x H'=>H'=H/\∀ xs,SqT K H a xs->xs[i]? = some x,fun i H=>∃ xs,SqT K H a xs/\xs.length<=i⟩
def Itr (lo:Int) (n:Nat):It:=⟨fun i _=>i < n,fun i H x H'=>H'=H/\x = .int (lo + i),fun i _=>n<=i⟩
theorem Tf {P:Program} {w:World} {K:PySem.W.Frag} {tg:Expr} (a it:Addr):Turn P w K tg (Itl K a) [it] it (fun i h=>h.IsListIter it a i) where
 mem:=by simp
 obj:=fun i h st b hb=>by
  have e:b=it:=by simpa using hb
  subst e
  obtain ⟨o,e,c,d⟩:=st
  exact ⟨o,e,fun v z=>by rw [d] at z; cases z⟩
 keep:=fun i h h' st k=>st.at fun o e=>k it (by simp) o e
 item:=by
  intro X hP hw hK hc i pins s σ H E I hf st hg
  subst hP hw hK
  obtain ⟨xs,x,hq,hx⟩:=hg
  obtain ⟨its,rv,p,hz⟩:=I.list hq
  obtain ⟨u,hu,ru⟩:=rv.get hx
  obtain ⟨f0,f1,f2,f3,f4,f5⟩:=hf it (by simp)
  refine wpAny_pyNext_list_item st p.isList (x:=u) (by simpa using hu) fun h' st' sb=> ?_
  have I1:Inv X pins σ H { s with heap:=h' }:=I.turned (t':=s.toks) (fun b o hb e=>(sb.2 b hb).trans e) f0 f1 f3 f4 f5
  obtain ⟨o,e,c,d⟩:=id st'
  exact ⟨u,rfl,Nz (s:={ s with heap:=h' }) e c d (by decide) ⟨x,H,I1,ru,⟨rfl,fun ys hy=>by rw [I.n8 hy hq]; exact hx⟩,st',fun b hb=>(hf b hb).1⟩⟩
 done:=by
  intro X hP hw hK hc i pins s σ H E I hf st hg
  subst hP hw hK
  obtain ⟨xs,hq,hx⟩:=hg
  obtain ⟨its,rv,p,hz⟩:=I.list hq
  obtain ⟨f0,f1,f2,f3,f4,f5⟩:=hf it (by simp)
  have hl:=rv.length
  exact wpAny_pyNext_list_end (I.ok.hd hc) st p.isList (by simp; omega) fun h' eb=>⟨rfl,I.turned (t':=s.toks) (fun b o hb e=>eb b o hb e) f0 f1 f3 f4 f5⟩
 self:=fun _ _ _ _ _ st h=>wpAny_pyIter_listiter st h
theorem Px {P:Program} {w:World} {K:PySem.W.Frag} {tg:Expr} (a it:Addr):Turn P w K tg (Itt K a) [it] it (fun i h=>h.IsTupleIter it a i) where
 mem:=by simp
 obj:=fun i h st b hb=>by
  have e:b=it:=by simpa using hb
  subst e
  obtain ⟨o,e,c,d⟩:=st
  exact ⟨o,e,fun v z=>by rw [d] at z; cases z⟩
 keep:=fun i h h' st k=>st.at fun o e=>k it (by simp) o e
 item:=by
  intro X hP hw hK hc i pins s σ H E I hf st hg
  subst hP hw hK
  obtain ⟨xs,x,hq,hx⟩:=hg
  obtain ⟨its,rv,p,hz⟩:=I.tuple hq
  obtain ⟨u,hu,ru⟩:=rv.get hx
  obtain ⟨f0,f1,f2,f3,f4,f5⟩:=hf it (by simp)
  refine wpAny_pyNext_tuple_item st (show s.heap.IsTuple a its.toArray from p) (x:=u) (by simpa using hu) fun h' st' sb=> ?_
  have I1:Inv X pins σ H { s with heap:=h' }:=I.turned (t':=s.toks) (fun b o hb e=>(sb.2 b hb).trans e) f0 f1 f3 f4 f5
  obtain ⟨o,e,c,d⟩:=id st'
  exact ⟨u,rfl,Nz (s:={ s with heap:=h' }) e c d (by decide) ⟨x,H,I1,ru,⟨rfl,fun ys hy=>by rw [I.zR hy hq]; exact hx⟩,st',fun b hb=>(hf b hb).1⟩⟩
 done:=by
  intro X hP hw hK hc i pins s σ H E I hf st hg
  subst hP hw hK
  obtain ⟨xs,hq,hx⟩:=hg
  obtain ⟨its,rv,p,hz⟩:=I.tuple hq
  obtain ⟨f0,f1,f2,f3,f4,f5⟩:=hf it (by simp)
  have hl:=rv.length
  exact wpAny_pyNext_tuple_end (I.ok.hd hc) st (show s.heap.IsTuple a its.toArray from p) (by simp; omega) fun h' eb=>⟨rfl,I.turned (t':=s.toks) (fun b o hb e=>eb b o hb e) f0 f1 f3 f4 f5⟩
 self:=fun _ _ _ _ _ st h=>wpAny_pyIter_tupleiter st h
theorem Py {P:Program} {w:World} {K:PySem.W.Frag} {tg:Expr} (it:Addr) (lo:Int) (n:Nat):Turn P w K tg (Itr lo n) [it] it (fun i h=>IsRangeIter h it (lo + (i:Nat) * 1) ((n:Int) - (i:Nat)) 1) where
 mem:=by simp
 obj:=fun i h st b hb=>by
  have e:b=it:=by simpa using hb
  subst e
  exact ⟨_,st,fun v z=>by
   have z':Data.fields _=Data.cell v:=z
   cases z'⟩
 keep:=fun i h h' st k=>k it (by simp) _ st
 item:=by
  intro X hP hw hK hc i pins s σ H E I hf st hg
  subst hP hw hK
  obtain ⟨f0,f1,f2,f3,f4,f5⟩:=hf it (by simp)
  have W:=Walks.range (prog:=X.prog) (w:=X.w) (I.ok.hd hc) it lo 1 n
  refine W.item i s _ _ hg st fun v h' tk hv st' kk=> ?_
  obtain ⟨t,rfl⟩:=hv
  have I1:Inv X pins σ H { s with heap:=h',toks:=tk }:=I.turned (fun b o hb e=>kk b o (by simpa using hb) e) f0 f1 f3 f4 f5
  refine ⟨_,rfl,Nz (s:={ s with heap:=h',toks:=tk }) (n := "range_iterator") st' rfl rfl (by decide) ⟨.int (lo + i),H,I1,⟨t,?_⟩,⟨rfl,rfl⟩,st',fun b hb=>(hf b hb).1⟩⟩
  rw [Int.mul_one]
 done:=by
  intro X hP hw hK hc i pins s σ H E I hf st hg
  subst hP hw hK
  obtain ⟨f0,f1,f2,f3,f4,f5⟩:=hf it (by simp)
  exact wpAny_pyNext_range_end (I.ok.hd hc) st (by have:n<=i:=hg; omega) fun h' eb=>⟨rfl,I.turned (t':=s.toks) (fun b o hb e=>eb b o hb e) f0 f1 f3 f4 f5⟩
 self:=fun _ _ _ _ _ st h=>wpAny_pyIter_rangeiter st h
section
variable {X:Cx} {tg:Expr}
def iList (K:PySem.W.Frag) (tl:TE):TI:=fun σ H R=>tl σ H fun x H1=>∃ a,x = .ref a/\(∃ xs,SqL K H1 a xs)/\R (Itl K a) H1
def iTup (K:PySem.W.Frag) (tl:TE):TI:=fun σ H R=>tl σ H fun x H1=>∃ a,x = .ref a/\(∃ xs,SqT K H1 a xs)/\R (Itt K a) H1
theorem cR {l:Expr} {tl:TE} (hl:PE X l tl):PI X tg l (iList X.K tl):=by
 intro pins s σ H R I h
 refine thn (hl pins s σ H _ I h) fun v s1 ⟨x,H1,I1,r1,q1⟩=> ?_
 obtain ⟨a,e,⟨xs,hq⟩,q⟩:=q1
 subst e
 cases r1
 obtain ⟨its,rv,p,hz⟩:=I1.list hq
 refine wpAny_pyIter_list p.isList ?_
 refine ⟨s1.heap.objs.size,[s1.heap.objs.size],_,_,H1,rfl,I1.kept (t':=s1.toks) fun b o e=>Heap.get?_push_of_some _ e,Tf a _,⟨_,Heap.get?_push_size _ rfl,rfl,rfl⟩,fun b hb=> ?_,q⟩
 have e:b=s1.heap.objs.size:=by simpa using hb
 subst e
 exact I1.Dj (Nat.le_refl _) (I1.hok.fresh (Nat.le_refl _))
theorem JZ {l:Expr} {tl:TE} (hl:PE X l tl):PI X tg l (iTup X.K tl):=by
 intro pins s σ H R I h
 refine thn (hl pins s σ H _ I h) fun v s1 ⟨x,H1,I1,r1,q1⟩=> ?_
 obtain ⟨a,e,⟨xs,hq⟩,q⟩:=q1
 subst e
 cases r1
 obtain ⟨its,rv,p,hz⟩:=I1.tuple hq
 refine wpAny_pyIter_tuple (show s1.heap.IsTuple a its.toArray from p) ?_
 refine ⟨s1.heap.objs.size,[s1.heap.objs.size],_,_,H1,rfl,I1.kept (t':=s1.toks) fun b o e=>Heap.get?_push_of_some _ e,Px a _,⟨_,Heap.get?_push_size _ rfl,rfl,rfl⟩,fun b hb=> ?_,q⟩
 have e:b=s1.heap.objs.size:=by simpa using hb
 subst e
 exact I1.Dj (Nat.le_refl _) (I1.hok.fresh (Nat.le_refl _))
theorem VB {pins:List (Addr × Obj)} {σ : St} {H:Hp} {s:Shared} {R:It->Hp->Prop} {E:Value->Shared->Prop} {lo hi:Int} {t u v:Tok} {tk:Nat} (I:Inv X pins σ H s) (h1 : -(2 ^ 62)<=lo) (h2:lo < 2 ^ 62) (h3 : -(2 ^ 62)<=hi) (h4:hi < 2 ^ 62)
  (q:R (Itr lo (hi - lo).toNat) H):wpAny (model X.prog X.w) X.A (pyIter (.ref s.heap.objs.size)) (PIE X pins σ tg R) E { s with heap:=s.heap.push { cls:= .type "range",data:= .fields #[.int lo t,.int hi u,.int 1 v] },toks:=tk }:=by
 refine wpAny_pyIter_range (IsRange.new ..) (small_one h1 h2 h3 h4) ?_
 have I1:Inv X pins σ H { s with heap:=s.heap.push { cls:= .type "range",data:= .fields #[.int lo t,.int hi u,.int 1 v] },toks:=tk }:=I.kept fun b o e=>Heap.get?_push_of_some _ e
 refine ⟨(s.heap.push { cls:= .type "range",data:= .fields #[.int lo t,.int hi u,.int 1 v] }).objs.size,[(s.heap.push { cls:= .type "range",data:= .fields #[.int lo t,.int hi u,.int 1 v] }).objs.size],_,_,H,rfl,
  I1.kept (t':=tk) fun b o e=>Heap.get?_push_of_some _ e,Py _ lo (hi - lo).toNat,?_,fun b hb=> ?_,q⟩
 ·have e1:lo + ((0:Nat):Int) * 1=lo:=by simp
  have e2:(((hi - lo).toNat:Nat):Int) - ((0:Nat):Int)=Builtin.Range.rangeSize lo hi 1:=by rw [rangeSize_one]; split <;> omega
  show IsRangeIter _ _ (lo + ((0:Nat):Int) * 1) ((((hi - lo).toNat:Nat):Int) - ((0:Nat):Int)) 1
  rw [e1,e2]
  exact Heap.get?_push_size _ rfl
 ·have e:b=(s.heap.push { cls:= .type "range",data:= .fields #[.int lo t,.int hi u,.int 1 v] }).objs.size:=by simpa using hb
  subst e
  exact I1.Dj (Nat.le_refl _) (I1.hok.fresh (Nat.le_refl _))
def iRng2 (ta:TA):TI:=fun σ H R=>ta σ H fun vs H1=>∃ i j:Int,vs=[.int i,.int j]/\(-(2 ^ 62)<=i/\i < 2 ^ 62 /\ -(2 ^ 62)<=j/\j < 2 ^ 62)/\R (Itr i (j - i).toNat) H1
theorem Iz {a b:Expr} {ta:TA} {p pos:Pos} (hg:Gl X "range") (hm:X.mg "range" = none) (ha:PA X [a,b] ta) (hs:starEach [a,b] X.env=[(false,eval a X.env),(false,eval b X.env)]:=by rfl) (hs2:starEach [b] X.env=[(false,eval b X.env)]:=by rfl) :
  PI X tg (.Call (.Name "range" p) [a,b] [] pos) (iRng2 ta):=by
 intro pins s σ H R I h
 refine Call_ (m6 I hg hm boot_range (PyProof.Rows.callWith_type1 (thn (ha pos pins s σ H _ I h) fun us s1 ⟨vs,H1,I1,r1,q1⟩=> ?_) (by rw [hs,hs2]) (by rw [hs2]; rfl)))
 obtain ⟨i,j,e,⟨q1,q2,q3,q4⟩,q⟩:=q1
 subst e
 cases r1 with
 | cons r rr =>
  cases rr with
  | cons r' rr =>
   cases rr
   obtain ⟨t,rfl⟩:=r
   obtain ⟨t',rfl⟩:=r'
   exact call_range_2 (VB I1 q1 q2 q3 q4 q)
def tFor (wi:TI) (g:TG) (tb:TS):TS:=fun D σ H=>wi σ H fun J H1=>∃ W:Nat->Nat->St->Hp->Prop,(∃ m,W 0 m σ H1)/\∀ i m σ H,W i m σ H ->
 (J.stop i H/\D.nx σ H)\/(J.go i H/\∃ N:St->Hp->Prop,(∀ σ' H',N σ' H'->∃ m',m' < m/\W (i + 1) m' σ' H')/\∀ x H',J.yld i H x H'->g x σ H' fun σ2 H2=>tb { D with nx:=N,ct:=N,bk:=D.nx } σ2 H2)
def El (fp:List Addr) (h:Heap):List (Addr × Obj):=fp.filterMap fun b=>(h.get? b).map fun o=>(b,o)
theorem j8 {fp:List Addr} {h:Heap} {b:Addr} {o:Obj} (hb:b ∈ fp) (e:h.get? b=some o):(b,o) ∈ El fp h:=List.mem_filterMap.mpr ⟨b,hb,by rw [e]; rfl⟩
theorem T4 {fp:List Addr} {h:Heap} {p:Addr × Obj} (hp:p ∈ El fp h):p.1 ∈ fp/\h.get? p.1=some p.2:=by
 obtain ⟨b,hb,e⟩:=List.mem_filterMap.mp hp
 cases q:h.get? b with
 | none=>rw [q] at e; cases e
 | some o =>
  rw [q] at e
  have e':(b,o)=p:=Option.some.inj e
  subst e'
  exact ⟨hb,q⟩
theorem Inv.pinned {pins:List (Addr × Obj)} {σ : St} {H:Hp} {s:Shared} {fp:List Addr} (I:Inv X pins σ H s) (hf:∀ b ∈ fp,zp X pins H b) (ho:∀ b ∈ fp,∃ o,s.heap.get? b=some o/\∀ v,o.data ≠ .cell v):Inv X (pins++El fp s.heap) σ H s :=
 I.Ry fun p hp=>(List.mem_append.mp hp).elim (fun z=>I.pin p (List.mem_append_right _ z)) fun z=>by
  obtain ⟨hb,e⟩:=T4 z
  obtain ⟨f0,f1,f2,_⟩:=hf p.1 hb
  obtain ⟨o,e',d⟩:=ho p.1 hb
  rw [e] at e'; cases e'
  exact ⟨e,f0,f1,f2,d⟩
theorem Inv.rN {pins pl:List (Addr × Obj)} {σ : St} {H:Hp} {s:Shared} (I:Inv X (pins++pl) σ H s):Inv X pins σ H s:=I.Ry fun p hp=>I.pin p (List.mem_append_right _ (List.mem_append_left _ hp))
theorem gq {iter:Expr} {body:List Stmt} {wi:TI} {g:TG} {tb:TS} {pos:Pos} (hp:PassesOwn (model X.prog X.w) X.A X.env X.xe) (hc:X.calm=true) (hi:PI X tg iter wi) (hg:PG X tg g) (hb:PSs X body tb)
  (hs:∀ x,foldedSetIterable iter X.env x=pure x:=by intro _; rfl):PS X (.For tg iter body [] pos) (tFor wi g tb):=by
 intro pins s σ H D I h
 refine wpAny_For (thn (hi pins s σ H _ I h) fun v s1 h1=>thn h1 fun itv s2 h2=> ?_) hs
 obtain ⟨it,fp,tn,J,H2,e,I2,T,st2,f2,W,⟨m0,w0⟩,turn⟩:=h2
 subst e
 have stat:∀ {H':Hp},(∀ b ∈ fp,H' b=none)->∀ b ∈ fp,zp X pins H' b:=fun hn b hb=>⟨hn b hb,(f2 b hb).2⟩
 refine codeAny_forLoop_any (fun n s'=>∃ i σ' H',Inv X pins σ' H' s'/\tn i s'.heap/\(∀ b ∈ fp,H' b=none)/\W i n σ' H') ?_ m0 ⟨0,σ,H2,I2,st2,fun b hb=>(f2 b hb).1,w0⟩
 rintro n s3 ⟨i,σ3,H3,I3,st3,fr3,w3⟩
 rcases turn i n σ3 H3 w3 with ⟨stop,qn⟩ | ⟨go,N,hN,step⟩
 ·refine wpAny_passesOwn hp (thn (T.done X rfl rfl rfl hc i pins s3 σ3 H3 X.xe I3 (stat fr3) st3 stop) fun r s4 ⟨hr,I4⟩=> ?_)
  subst hr
  exact wpAny_execs_nil ⟨σ3,H3,I4,qn⟩
 ·refine wpAny_passesOwn hp (thn (T.item X rfl rfl rfl hc i pins s3 σ3 H3 X.xe I3 (stat fr3) st3 go) fun r s4 ⟨u,hr,h4⟩=> ?_)
  subst hr
  refine wpAny_passesOwn hp (thn h4 fun _ s5 ⟨x,H5,I5,r5,y5,st5,fr5⟩=> ?_)
  have I5':=I5.pinned (stat fr5) (T.obj _ _ st5)
  refine wpAny_passesOwn hp (thn (hg _ s5 σ3 H5 x u _ I5' r5 (step x H5 y5)) fun _ s6 ⟨σ6,H6,I6,q6⟩=> ?_)
  refine wpAny_passesOwn hp (thn (hb _ s6 σ6 H6 _ I6 q6) fun f s7 q7=> ?_)
  have again:∀ {σ7:St} {H7:Hp},Inv X (pins++El fp s5.heap) σ7 H7 s7->N σ7 H7->∃ m,m < n/\∃ i σ' H',Inv X pins σ' H' s7/\tn i s7.heap/\(∀ b ∈ fp,H' b=none)/\W i m σ' H':=fun {σ7 H7} I7 n7=>by
   obtain ⟨m',hm,w7⟩:=hN σ7 H7 n7
   refine ⟨m',hm,i + 1,σ7,H7,I7.rN,T.keep _ _ _ st5 fun b hb o e=>(I7.pin (b,o) (List.mem_append_right _ (List.mem_append_right _ (j8 hb e)))).1,fun b hb=> ?_,w7⟩
   obtain ⟨o,e,d⟩:=T.obj _ _ st5 b hb
   exact (I7.pin (b,o) (List.mem_append_right _ (List.mem_append_right _ (j8 hb e)))).2.1
  cases f with
  | next=>obtain ⟨σ7,H7,I7,n7⟩:=q7; exact again I7 n7
  | cont=>obtain ⟨σ7,H7,I7,n7⟩:=q7; exact again I7 n7
  | brk=>obtain ⟨σ7,H7,I7,q7⟩:=q7; exact ⟨σ7,H7,I7.rN,q7⟩
  | ret v=>obtain ⟨x7,σ7,H7,I7,r7,q7⟩:=q7; exact ⟨x7,σ7,H7,I7.rN,r7,q7⟩
end
theorem for_list {K:PySem.W.Frag} {a:Addr} {xs:List V} {g:TG} {tb:TS} {D:Ends} {σ : St} {H:Hp} (Pv:Nat->St->Hp->Prop) (h0:Pv 0 σ H) (hl:∀ i σ H,i<=xs.length->Pv i σ H->SqL K H a xs)
  (hs:∀ i x σ H,xs[i]? = some x->Pv i σ H->g x σ H fun σ2 H2=>tb { D with nx:=Pv (i + 1),ct:=Pv (i + 1),bk:=D.nx } σ2 H2) (hd:∀ σ H,Pv xs.length σ H->D.nx σ H) :
  ∃ W:Nat->Nat->St->Hp->Prop,(∃ m,W 0 m σ H)/\∀ i m σ H,W i m σ H ->
   ((Itl K a).stop i H/\D.nx σ H)\/((Itl K a).go i H/\∃ N:St->Hp->Prop,(∀ σ' H',N σ' H'->∃ m',m' < m/\W (i + 1) m' σ' H')/\∀ x H',(Itl K a).yld i H x H'->g x σ H' fun σ2 H2=>tb { D with nx:=N,ct:=N,bk:=D.nx } σ2 H2):=by
 refine ⟨fun i m σ H=>m=xs.length - i/\i<=xs.length/\Pv i σ H,⟨xs.length,by simp,Nat.zero_le _,h0⟩,?_⟩
 rintro i m σ H ⟨rfl,hi,p⟩
 have q:=hl i σ H hi p
 by_cases hlt:i < xs.length
 ·refine .inr ⟨⟨xs,xs[i],q,by simp [hlt]⟩,Pv (i + 1),fun σ' H' p'=>⟨xs.length - (i + 1),by omega,rfl,hlt,p'⟩,fun x H' y=> ?_⟩
  obtain ⟨e,y⟩:=y
  subst e
  exact hs i x σ _ (y xs q) p
 ·have e:i=xs.length:=by omega
  subst e
  exact .inl ⟨⟨xs,q,Nat.le_refl _⟩,hd σ H p⟩
theorem Lq {c:TT} {tb:TS} {D:Ends} {σ : St} {H:Hp} (Pv:St->Hp->Prop) (μ : St->Hp->Nat) (h0:Pv σ H)
  (hs:∀ σ H,Pv σ H->c σ H fun b H1=>if b=true then tb { D with nx:=fun σ' H'=>Pv σ' H' /\ μ σ' H' < μ σ H,ct:=fun σ' H'=>Pv σ' H' /\ μ σ' H' < μ σ H,bk:=D.nx } σ H1 else D.nx σ H1)
  (mono:∀ σ H Q Q',(∀ b H1,Q b H1->Q' b H1)->c σ H Q->c σ H Q'):Vs c tb D σ H:=by
 refine ⟨fun m σ H=>m = μ σ H/\Pv σ H,⟨_,rfl,h0⟩,?_⟩
 rintro m σ H ⟨rfl,p⟩
 refine mono σ H _ _ (fun b H1 q=> ?_) (hs σ H p)
 cases b with
 | true=>exact ⟨_,fun σ' H' ⟨p',l⟩=>⟨_,l,rfl,p'⟩,q⟩
 | false=>exact q
abbrev R2:=V->V->Hp->VK->Prop
def OpR (X:Cx) (f:Value->Value->Sem Value) (r:R2):Prop :=
 ∀ (pins:List (Addr × Obj)) (s:Shared) (σ : St) (H:Hp) (x y:V) (v u:Value) (Q:VK),Inv X pins σ H s->RelV x v->RelV y u->r x y H Q ->
  wpAny (model X.prog X.w) X.A (f v u) (EP X pins σ Q) X.xe s
def UnR (X:Cx) (f:Value->Sem Value) (r:V->Hp->VK->Prop):Prop :=
 ∀ (pins:List (Addr × Obj)) (s:Shared) (σ : St) (H:Hp) (x:V) (v:Value) (Q:VK),Inv X pins σ H s->RelV x v->r x H Q ->
  wpAny (model X.prog X.w) X.A (f v) (EP X pins σ Q) X.xe s
def rE (X:Cx) (f:Value) (r:List V->Hp->VK->Prop):Prop :=
 ∀ (pins:List (Addr × Obj)) (s:Shared) (σ : St) (H:Hp) (xs:List V) (us:List Value) (Q:VK),Inv X pins σ H s->Vals xs us->r xs H Q ->
  wpAny (model X.prog X.w) X.A (call f us) (EP X pins σ Q) X.xe s
def tOp (r:R2) (ta tb:TE):TE:=fun σ H Q=>ta σ H fun x H1=>tb σ H1 fun y H2=>r x y H2 Q
def tUn (r:V->Hp->VK->Prop) (ta:TE):TE:=fun σ H Q=>ta σ H fun x H1=>r x H1 Q
def rI (C:Int->Int->Prop) (g:Int->Int->V):R2:=fun x y H Q=>∃ i j,x = .int i/\y = .int j/\C i j/\Q (g i j) H
def rI0 (g:Int->Int->V):R2:=fun x y H Q=>∃ i j,x = .int i/\y = .int j/\Q (g i j) H
def rU (g:Int->V):V->Hp->VK->Prop:=fun x H Q=>∃ i,x = .int i/\Q (g i) H
section
variable {X:Cx} {a b c:Expr} {ta tb tc:TE} {pos:Pos}
theorem binT (ha:PE X a ta) (hb:PE X b tb) {pins:List (Addr × Obj)} {s:Shared} {σ : St} {H:Hp} {R:V->V->Hp->Prop} (I:Inv X pins σ H s)
  (h:ta σ H fun x H1=>tb σ H1 fun y H2=>R x y H2) {Q:Value->Shared->Prop} {f:Value->Value->Sem Value}
  (hf:∀ v u s2 x y H2,Inv X pins σ H2 s2->RelV x v->RelV y u->R x y H2->wpAny (model X.prog X.w) X.A (f v u) Q X.xe s2) :
  wpAny (model X.prog X.w) X.A (eval a X.env) (fun v s₁ => wpAny (model X.prog X.w) X.A (eval b X.env) (fun u s₂ => wpAny (model X.prog X.w) X.A (f v u) Q X.xe s₂) X.xe s₁) X.xe s:=by
 refine thn (ha pins s σ H _ I h) fun v s1 ⟨x,H1,I1,r1,q1⟩=> ?_
 refine thn (hb pins s1 σ H1 _ I1 q1) fun u s2 ⟨y,H2,I2,r2,q2⟩=> ?_
 exact hf v u s2 x y H2 I2 r1 r2 q2
theorem bB {op:Operator} {r:R2} (ho:OpR X (binaryOp op) r) (ha:PE X a ta) (hb:PE X b tb):PE X (.BinOp a op b pos) (tOp r ta tb):=by
 intro pins s σ H Q I h
 exact wpAny_BinOp (binT ha hb I h fun v u s2 x y H2 I2 rx ry q=>ho pins s2 σ H2 x y v u Q I2 rx ry q)
theorem VP {op:UnaryOp} {r:V->Hp->VK->Prop} (ho:UnR X (unaryOp op) r) (ha:PE X a ta):PE X (.UnaryOp op a pos) (tUn r ta):=by
 intro pins s σ H Q I h
 exact UnaryOp_ (thn (ha pins s σ H _ I h) fun v s1 ⟨x,H1,I1,r1,q1⟩=>ho pins s1 σ H1 x v Q I1 r1 q1)
theorem opI {f:Value->Value->Sem Value} {C:Int->Int->Prop} {g:Int->Int->Int}
  (rule:∀ (i j:Int) (t u:Tok) (s:Shared) (Q:Value->Shared->Prop) (E:Value->Shared->Prop),C i j->Q (.int (g i j) s.toks) { s with toks:=s.toks + 1 }->wpAny (model X.prog X.w) X.A (f (.int i t) (.int j u)) Q E s) :
  OpR X f (rI C fun i j=> .int (g i j)):=by
 intro pins s σ H x y v u Q I rx ry h
 obtain ⟨i,j,rfl,rfl,hc,q⟩:=h
 obtain ⟨t,rfl⟩:=rx
 obtain ⟨t',rfl⟩:=ry
 exact rule i j t t' s _ _ hc ⟨.int (g i j),H,I.tok _,⟨_,rfl⟩,q⟩
theorem opI0 {f:Value->Value->Sem Value} {g:Int->Int->Int}
  (rule:∀ (i j:Int) (t u:Tok) (s:Shared) (Q:Value->Shared->Prop) (E:Value->Shared->Prop),Q (.int (g i j) s.toks) { s with toks:=s.toks + 1 }->wpAny (model X.prog X.w) X.A (f (.int i t) (.int j u)) Q E s) :
  OpR X f (rI0 fun i j=> .int (g i j)):=by
 intro pins s σ H x y v u Q I rx ry h
 obtain ⟨i,j,rfl,rfl,q⟩:=h
 obtain ⟨t,rfl⟩:=rx
 obtain ⟨t',rfl⟩:=ry
 exact rule i j t t' s _ _ ⟨.int (g i j),H,I.tok _,⟨_,rfl⟩,q⟩
theorem YH {f:Value->Value->Sem Value} {g:Int->Int->Bool}
  (rule:∀ (i j:Int) (t u:Tok) (s:Shared) (Q:Value->Shared->Prop) (E:Value->Shared->Prop),Q (.bool (g i j)) s->wpAny (model X.prog X.w) X.A (f (.int i t) (.int j u)) Q E s) :
  OpR X f (rI0 fun i j=> .bl (g i j)):=by
 intro pins s σ H x y v u Q I rx ry h
 obtain ⟨i,j,rfl,rfl,q⟩:=h
 obtain ⟨t,rfl⟩:=rx
 obtain ⟨t',rfl⟩:=ry
 exact rule i j t t' s _ _ ⟨.bl (g i j),H,I,rfl,q⟩
def CDiv (i j:Int):Prop:=0 < j/\j < 1073741824
def Z0 (i j:Int):Prop:=(-(2 ^ 64) < i/\i < 2 ^ 64)\/(-(2 ^ 64) < j/\j < 2 ^ 64)
theorem Z0.ok {i j:Int} (h:Z0 i j):IntMulOk i j:=by
 rcases h with ⟨h1,h2⟩ | ⟨h1,h2⟩
 ·exact .of_left (intBits_le_64 h1 h2)
 ·exact .of_right (intBits_le_64 h1 h2)
theorem gr:OpR X (binaryOp .Add) (rI0 fun i j=> .int (i + j)):=opI0 fun _ _ _ _ _ _ _ q=>add_int q
theorem d8:OpR X (binaryOp .Sub) (rI0 fun i j=> .int (i - j)):=opI0 fun _ _ _ _ _ _ _ q=>sub_int q
theorem aaS:OpR X (binaryOp .Mult) (rI Z0 fun i j=> .int (i * j)):=opI fun _ _ _ _ _ _ _ hc q=>mul_int q hc.ok
theorem RL:OpR X (binaryOp .FloorDiv) (rI CDiv fun i j=> .int (i / j)):=opI fun i j _ _ _ _ _ hc q=>by
 have h1:(0:Int) < j:=hc.1
 have h2:j < 1073741824:=hc.2
 exact floordiv_int (by omega) (by rw [Int.fdiv_eq_ediv_of_nonneg i (by omega)]; exact q) (.inl (PyProof.noPylong_small (by omega)))
theorem aaT:OpR X (binaryOp .Mod) (rI (fun _ j=>0 < j) fun i j=> .int (i % j)):=opI fun i j _ _ _ _ _ hc q=>by
 have h1:(0:Int) < j:=hc
 exact mod_int' (by omega) (by rw [Int.fmod_eq_emod_of_nonneg i (by omega)]; exact q)
theorem unI {f:Value->Sem Value} {g:Int->Int}
  (rule:∀ (i:Int) (t:Tok) (s:Shared) (Q:Value->Shared->Prop) (E:Value->Shared->Prop),Q (.int (g i) s.toks) { s with toks:=s.toks + 1 }->wpAny (model X.prog X.w) X.A (f (.int i t)) Q E s) :
  UnR X f (rU fun i=> .int (g i)):=by
 intro pins s σ H x v Q I rx h
 obtain ⟨i,rfl,q⟩:=h
 obtain ⟨t,rfl⟩:=rx
 exact rule i t s _ _ ⟨.int (g i),H,I.tok _,⟨_,rfl⟩,q⟩
theorem Pr:UnR X (unaryOp .USub) (rU fun i=> .int (-i)):=unI fun _ _ _ _ _ q=>neg_int q
end
def scal:V->V->Bool
 | .non,.non=>true | .non,.int _=>true | .int _,.non=>true | .non,.bl _=>true | .bl _,.non=>true | .non,.str _=>true | .str _,.non=>true
 | .int _,.int _=>true | .bl _,.bl _=>true | .str _,.str _=>true | .byt _,.byt _=>true
 | .int _,.str _=>true | .str _,.int _=>true | .bl _,.str _=>true | .str _,.bl _=>true
 | _,_=>false
def rEq:R2:=fun x y H Q=>scal x y=true/\Q (.bl (decide (x=y))) H
def rNe:R2:=fun x y H Q=>scal x y=true/\Q (.bl (!decide (x=y))) H
theorem yE {i j:Int}:decide (V.int i=V.int j)=(i == j):=by
 rw [Bool.eq_iff_iff]
 simp
theorem Xf {i j:Bool}:decide (V.bl i=V.bl j)=(i == j):=by
 rw [Bool.eq_iff_iff]
 simp
theorem yC {i j:Str}:decide (V.str i=V.str j)=(i == j):=by
 rw [Bool.eq_iff_iff]
 simp
theorem Ss {i j:Array UInt8}:decide (V.byt i=V.byt j)=(i.toList == j.toList):=by
 rw [Bool.eq_iff_iff]
 cases i
 cases j
 simp
section
variable {X:Cx} {a b c:Expr} {ta tb tc:TE} {pos:Pos}
theorem bI {pins:List (Addr × Obj)} {σ : St} {H:Hp} {s:Shared} {Q:VK} {k k':Bool} (I:Inv X pins σ H s) (q:Q (.bl k) H) (e:k=k'):EP X pins σ Q (.bool k') s:=by
 subst e
 exact ⟨.bl k,H,I,rfl,q⟩
theorem vL:OpR X (compareOp .Eq) rEq:=by
 intro pins s σ H x y v u Q I rx ry h
 obtain ⟨hs,q⟩:=h
 cases x with
 | non =>
  cases rx
  cases y with
  | non=>cases ry; exact PySem.EqNone.eq_none_none (bI I q (by simp))
  | bl j=>cases ry; exact PySem.EqNone.eq_none_bool (bI I q (by simp))
  | int j=>obtain ⟨t',rfl⟩:=ry; exact PySem.EqNone.eq_none_int (bI I q (by simp))
  | str j=>obtain ⟨t',rfl⟩:=ry; exact PySem.EqNone.eq_none_str (bI I q (by simp))
  | _=>exact absurd (show false=true from hs) Bool.false_ne_true
 | bl i =>
  cases rx
  cases y with
  | non=>cases ry; exact PySem.EqNone.eq_bool_none (bI I q (by simp))
  | bl j=>cases ry; exact eq_bool (bI I q Xf)
  | str j=>obtain ⟨t',rfl⟩:=ry; exact PySem.EqMixed.eq_bool_str (bI I q (by simp))
  | _=>exact absurd (show false=true from hs) Bool.false_ne_true
 | int i =>
  obtain ⟨t,rfl⟩:=rx
  cases y with
  | non=>cases ry; exact PySem.EqNone.eq_int_none (bI I q (by simp))
  | int j=>obtain ⟨t',rfl⟩:=ry; exact eq_int (bI I q yE)
  | str j=>obtain ⟨t',rfl⟩:=ry; exact PySem.EqMixed.eq_int_str (bI I q (by simp))
  | _=>exact absurd (show false=true from hs) Bool.false_ne_true
 | str i =>
  obtain ⟨t,rfl⟩:=rx
  cases y with
  | non=>cases ry; exact PySem.EqNone.eq_str_none (bI I q (by simp))
  | bl j=>cases ry; exact PySem.EqMixed.eq_str_bool (bI I q (by simp))
  | int j=>obtain ⟨t',rfl⟩:=ry; exact PySem.EqMixed.eq_str_int (bI I q (by simp))
  | str j=>obtain ⟨t',rfl⟩:=ry; exact eq_str (bI I q yC)
  | _=>exact absurd (show false=true from hs) Bool.false_ne_true
 | byt i =>
  obtain ⟨t,rfl⟩:=rx
  cases y with
  | byt j=>obtain ⟨t',rfl⟩:=ry; exact PySem.W.eq_bytes (bI I q Ss)
  | _=>exact absurd (show false=true from hs) Bool.false_ne_true
 | _=>cases y <;> exact absurd (show false=true from hs) Bool.false_ne_true
theorem Z5:OpR X (compareOp .NotEq) rNe:=by
 intro pins s σ H x y v u Q I rx ry h
 obtain ⟨hs,q⟩:=h
 cases x with
 | non =>
  cases rx
  cases y with
  | non=>cases ry; exact PySem.EqNone.ne_none_none (bI I q (by simp))
  | bl j=>cases ry; exact PySem.EqNone.ne_none_bool (bI I q (by simp))
  | int j=>obtain ⟨t',rfl⟩:=ry; exact PySem.EqNone.ne_none_int (bI I q (by simp))
  | str j=>obtain ⟨t',rfl⟩:=ry; exact PySem.EqNone.ne_none_str (bI I q (by simp))
  | _=>exact absurd (show false=true from hs) Bool.false_ne_true
 | bl i =>
  cases rx
  cases y with
  | non=>cases ry; exact PySem.EqNone.ne_bool_none (bI I q (by simp))
  | bl j=>cases ry; exact ne_bool (bI I q (congrArg not Xf))
  | str j=>obtain ⟨t',rfl⟩:=ry; exact PySem.EqMixed.ne_bool_str (bI I q (by simp))
  | _=>exact absurd (show false=true from hs) Bool.false_ne_true
 | int i =>
  obtain ⟨t,rfl⟩:=rx
  cases y with
  | non=>cases ry; exact PySem.EqNone.ne_int_none (bI I q (by simp))
  | int j=>obtain ⟨t',rfl⟩:=ry; exact ne_int (bI I q (congrArg not yE))
  | str j=>obtain ⟨t',rfl⟩:=ry; exact PySem.EqMixed.ne_int_str (bI I q (by simp))
  | _=>exact absurd (show false=true from hs) Bool.false_ne_true
 | str i =>
  obtain ⟨t,rfl⟩:=rx
  cases y with
  | non=>cases ry; exact PySem.EqNone.ne_str_none (bI I q (by simp))
  | bl j=>cases ry; exact PySem.EqMixed.ne_str_bool (bI I q (by simp))
  | int j=>obtain ⟨t',rfl⟩:=ry; exact PySem.EqMixed.ne_str_int (bI I q (by simp))
  | str j=>obtain ⟨t',rfl⟩:=ry; exact ne_str (bI I q (congrArg not yC))
  | _=>exact absurd (show false=true from hs) Bool.false_ne_true
 | byt i =>
  obtain ⟨t,rfl⟩:=rx
  cases y with
  | byt j=>obtain ⟨t',rfl⟩:=ry; exact PySem.W.ne_bytes (bI I q (congrArg not Ss))
  | _=>exact absurd (show false=true from hs) Bool.false_ne_true
 | _=>cases y <;> exact absurd (show false=true from hs) Bool.false_ne_true
theorem xX:OpR X (compareOp .Lt) (rI0 fun i j=> .bl (decide (i < j))):=YH fun _ _ _ _ _ _ _ q=>lt_int q
theorem Wc:OpR X (compareOp .LtE) (rI0 fun i j=> .bl (decide (i<=j))):=YH fun _ _ _ _ _ _ _ q=>le_int q
theorem qJ:OpR X (compareOp .Gt) (rI0 fun i j=> .bl (decide (j < i))):=YH fun _ _ _ _ _ _ _ q=>gt_int q
theorem MJ:OpR X (compareOp .GtE) (rI0 fun i j=> .bl (decide (j<=i))):=YH fun _ _ _ _ _ _ _ q=>ge_int q
theorem aaU:OpR X (compareOp .Is) (fun x y H Q=>y = .non/\Q (.bl (decide (x = .non))) H):=by
 intro pins s σ H x y v u Q I rx ry h
 obtain ⟨rfl,q⟩:=h
 cases ry
 refine is_none_gen (bI I q ?_)
 cases x <;> first
  | (cases rx; rfl)
  | (obtain ⟨t,rfl⟩:=rx; rfl)
theorem bh (b:Expr) {op:CmpOp} (h:op ≠ .In:=by decide) (h2:op ≠ .NotIn:=by decide):behindInMarks op b=false:=by
 have e1:(op == CmpOp.In)=false:=by cases op <;> first | rfl | exact absurd rfl h
 have e2:(op == CmpOp.NotIn)=false:=by cases op <;> first | rfl | exact absurd rfl h2
 cases b <;> simp [behindInMarks,e1,e2]
theorem lz {op:CmpOp} {r:R2} (ho:OpR X (compareOp op) r) (ha:PE X a ta) (hb:PE X b tb) (hm:behindInMarks op b=false):PE X (.Compare a [op] [b] pos) (tOp r ta tb):=by
 intro pins s σ H Q I h
 exact wpAny_Compare1 (binT ha hb I h fun v u s2 x y H2 I2 rx ry q=>ho pins s2 σ H2 x y v u Q I2 rx ry q) hm
def tTest (t:TE):TT:=fun σ H Q=>t σ H fun x H'=>∃ k,x = .bl k/\Q k H'
theorem aV {op:CmpOp} {r:R2} (ho:OpR X (compareOp op) r) (ha:PE X a ta) (hb:PE X b tb) (hm:behindInMarks op b=false):PT X (.Compare a [op] [b] pos) (tTest (tOp r ta tb)):=by
 intro pins s σ H Q I h
 refine wpAny_isTrue_Compare1 (thn (ha pins s σ H _ I h) fun v s1 ⟨x,H1,I1,r1,q1⟩=>thn (hb pins s1 σ H1 _ I1 q1) fun u s2 ⟨y,H2,I2,r2,q2⟩ =>
  thn (ho pins s2 σ H2 x y v u _ I2 r1 r2 q2) fun c s3 ⟨z,H3,I3,r3,k,e,q3⟩=> ?_) hm
 subst e
 cases r3
 exact wpAny_truthy_bool ⟨H3,I3,q3⟩
def aaz (r r':R2) (ta tb tc:TE):TE:=fun σ H Q=>ta σ H fun x H1=>tb σ H1 fun y H2=>r x y H2 fun z H3=>∃ k,z = .bl k /\
 (if k=true then tc σ H3 fun w' H4=>r' y w' H4 Q else Q (.bl false) H3)
theorem V4 {op op':CmpOp} {r r':R2} (ho:OpR X (compareOp op) r) (ho':OpR X (compareOp op') r') (ha:PE X a ta) (hb:PE X b tb) (hc:PE X c tc)
  (hm:lastMarks [op,op'] [b,c]=false:=by with_unfolding_all rfl):PE X (.Compare a [op,op'] [b,c] pos) (aaz r r' ta tb tc):=by
 intro pins s σ H Q I h
 refine Compare_chain (thn (ha pins s σ H _ I h) fun v s1 ⟨x,H1,I1,r1,q1⟩=>chain_link (thn (hb pins s1 σ H1 _ I1 q1) fun u s2 ⟨y,H2,I2,r2,q2⟩ =>
  thn (ho pins s2 σ H2 x y v u _ I2 r1 r2 q2) fun d s3 ⟨z,H3,I3,r3,k,e,q3⟩=> ?_)) hm
 subst e
 cases r3
 refine wpAny_truthy_bool ?_
 cases k with
 | false=>exact ite_ff ⟨.bl false,H3,I3,rfl,q3⟩
 | true=>exact ite_tt (chain_last (thn (hc pins s3 σ H3 _ I3 q3) fun w' s4 ⟨z',H4,I4,r4,q4⟩=>ho' pins s4 σ H4 y z' u w' Q I4 r2 r4 q4))
theorem Qp:(sizeLine:Nat) < 2 ^ 63:=by rw [sizeLine_eq]; decide
theorem vals1 {x:V} {us:List Value} (r:Vals [x] us):∃ u,us=[u]/\RelV x u:=by
 cases r with
 | cons r1 r2=>cases r2; exact ⟨_,rfl,r1⟩
theorem vals2 {x y:V} {us:List Value} (r:Vals [x,y] us):∃ u w',us=[u,w']/\RelV x u/\RelV y w':=by
 cases r with
 | cons r1 r2 =>
  cases r2 with
  | cons r3 r4=>cases r4; exact ⟨_,_,rfl,r1,r3⟩
theorem jQ (hc:X.calm=true):rE X (.builtin "max") (fun xs H Q=>∃ i j,xs=[.int i,.int j]/\Q (.int (if j > i then j else i)) H):=by
 intro pins s σ H xs us Q I r h
 obtain ⟨i,j,rfl,q⟩:=h
 obtain ⟨u,w',rfl,⟨t,rfl⟩,⟨t',rfl⟩⟩:=vals2 r
 refine max_two_ints (I.ok.hd hc) fun h' tk k=>⟨_,H,I.kept k,?_,q⟩
 by_cases hj:j > i
 ·rw [if_pos hj,if_pos hj]; exact ⟨_,rfl⟩
 ·rw [if_neg hj,if_neg hj]; exact ⟨_,rfl⟩
end
structure Q6 (h:Heap) (x dx C:Addr) (mA:Str->Option Value):Prop where
 obj:h.get? x=some (PySem.W.instObj C dx)
 ns:h.Ns1 dx mA
 ne:dx ≠ x
theorem Ub {h:Heap} {dx:Addr} {mA:Str->Option Value} (n:h.Ns1 dx mA):∃ od,h.get? dx=some od/\∀ name,PySem.W.lookIn name od=some (mA name):=by
 obtain ⟨o,es,ep,ho,hd,hk,_,hm⟩:=n
 refine ⟨o,ho,fun name=> ?_⟩
 have e:=hm name
 unfold nsFind findBy at e
 rw [<-Array.find?_toList] at e
 unfold PySem.W.lookIn
 rw [hd]
 dsimp only
 split
 ·rename_i y q
  rw [q] at e
  exact congrArg some e
 ·rename_i q
  rw [q] at e
  have a:es.toList.any (·.refKey)=false:=by
   rw [List.any_eq_false]
   intro y hy
   obtain ⟨z,t,hkey⟩:=hk y (Array.mem_toList_iff.mp hy)
   simp [DictEntry.refKey,hkey]
  have a':¬ es.toList.any (·.refKey)=true:=by rw [a]; exact Bool.false_ne_true
  rw [if_neg a']
  exact congrArg some e
theorem Q6.look {h:Heap} {x dx C:Addr} {mA:Str->Option Value} (I:Q6 h x dx C mA):∃ od,PySem.W.InstAt h x (PySem.W.instObj C dx) C (some od)/\∀ name,PySem.W.lookIn name od=some (mA name) :=
 let ⟨od,ho,hl⟩:=Ub I.ns
 ⟨od,⟨I.obj,rfl,rfl,ho⟩,hl⟩
section
variable {prog:Program} {w:World} {A:Around} {E:Value->Shared->Prop} {s:Shared} {K:PySem.W.Frag} {x dx C f:Addr} {mA:Str->Option Value} {name:Str} {v:Value}
theorem cU {expr:Bool} {Q:Value->Shared->Prop} (X:K.In s.heap) (I:Q6 s.heap x dx C mA) (hg:PySem.W.plainGet K C name=true) (hh:PySem.W.hasDictIn K C=true)
  (ha:PySem.W.findIn K (.ref C) name=some none) (hv:mA name=some v) (hv':PySem.W.handedIn v=true) (h:Q v { s with toks:=s.toks + 1 }) :
  wpAny (model prog w) A (getAttr (.ref x) name expr) Q E s:=by
 obtain ⟨od,J,hl⟩:=I.look
 exact PySem.W.get_value X J (PySem.W.plainGet_of hg).1 (PySem.W.findObj_own hh ha rfl (by rw [hl,hv])) hv' h
theorem WD {pl:Sem Bool} {Q:Value × List Value->Shared->Prop} (X:K.In s.heap) (I:Q6 s.heap x dx C mA) (hg:PySem.W.plainGet K C name=true)
  (hf:PySem.W.findIn K (.ref C) name=some (some (.ref f))) (ht:PySem.W.isFn K (.ref f)=true) (hv:mA name=none) (h:Q (.ref f,[.ref x]) s) :
  wpAny (model prog w) A (getMethod (.ref x) name pl) Q E s:=by
 obtain ⟨od,J,hl⟩:=I.look
 exact PySem.W.method_fn X J (PySem.W.plainGet_of hg).1 (PySem.W.plainGet_of hg).2 hf (beq_iff_eq.mp ht) (by show (PySem.W.lookIn name od).map (·.isSome)=some false; rw [hl,hv]; rfl) h
theorem Yn {ns:List Str} {Q:Unit->Shared->Prop} (X:K.In s.heap) (I:Q6 s.heap x dx C mA)
  (hs:PySem.W.findIn K (.ref C) "__setattr__" = some (some (.builtin "object.__setattr__"))) (hp:PySem.W.plainOver K C=true) (ht:PySem.W.takerIn K C name=some none) (hh:PySem.W.hasDictIn K C=true)
  (hw:PySem.Within mA ns) (hsz:ns.length<=sizeLine)
  (h:∀ h',Q6 h' x dx C (fun y=>if y=name then some v else mA y)->Heap.SameBut dx s.heap h'->Q () { s with heap:=h',toks:=s.toks + 2 }) :
  wpAny (model prog w) A (setAttr (.ref x) name v) Q E s:=by
 obtain ⟨od,J,hl⟩:=I.look
 refine PySem.W.set_plain X J hs (PySem.W.osa_open (s:={ s with toks:=s.toks + 1 }) (r:=none) X J hp ht fun b=> ?_)
 obtain ⟨cd,hc,hd'⟩:=PySem.W.any_some hh
 have hx:s.heap.get? x=some ⟨.ref C,some dx,.plain,#[]⟩:=I.obj
 refine wpAny_bind (wpAny_pure (wpAny_bind (wpAny_bind (wpAny_loadPart hx (wpAny_bind (PySem.W.Looks.here (s:={ s with toks:=s.toks + 1 }) (PySem.W.looks_clsIn X hc) ?_))))))
 rw [hd']
 refine wpAny_pure (a:=some dx) (wpAny_bind (wpAny_pure (wpAny_bind ?_)))
 refine wpAny_nsSet1 (s:={ s with toks:=s.toks + 1 }) I.ns fun h' hn2 hs2=> ?_
 obtain ⟨oD,esD,epD,hoD,hdD,hcD⟩:=hn2.count (PySem.Within.cons name v hw)
 refine wpAny_bind (wpAny_lookBehind hoD (by rw [hdD]; exact pastItsLine_dict (Nat.le_trans hcD (by rw [List.length_cons]; omega))) ?_)
 exact wpAny_pure (h _ ⟨(hs2.2 _ (Ne.symm I.ne)).trans I.obj,hn2,I.ne⟩ hs2)
theorem Wm {R:Result->Shared->Prop} {vs:List Value} {kw:List (Str × Value)} (X:K.In s.heap) (hm:PySem.W.makesIn K C=true)
    (hi:PySem.W.findIn K (.ref C) "__init__" = some (some (.ref f))) (hf:PySem.W.typeIn K (.ref f)=some (.type "function"))
    (h:codeAny (model prog w) (A.under (.builtin "type.__call__" ⟨.ref C :: vs,kw⟩)) (.call (.ref f) ⟨.ref (s.heap.objs.size + 1) :: vs,kw⟩) (PySem.W.InitBack (s.heap.objs.size + 1) R)
      { s with heap:=(s.heap.push PySem.W.emptyDict).push (PySem.W.instObj C s.heap.objs.size) }) :
    codeAny (model prog w) A (.call (.ref C) ⟨vs,kw⟩) R s:=by
  obtain ⟨hh,g,d,t,os⟩:=s
  exact PySem.W.make_core (PySem.W.makes_of X hm) (PySem.W.looks_findIn X hi) (fun self=>PySem.W.bind_fn X self hf) (.inl rfl) h
end
def dw (f:Str) (v:V):List (Str × V)->List (Str × V)
 | []=>[(f,v)]
 | (g,x) :: r=>if g=f then (g,v) :: r else (g,x) :: dw f v r
theorem Bl (f g:Str) (v:V):∀ fs:List (Str × V),(dw f v fs).lookup g=if g=f then some v else fs.lookup g
 | []=>by
  show List.lookup g [(f,v)]=_
  by_cases h:g=f
  ·have hb:(g == f)=true:=beq_iff_eq.mpr h
   simp only [List.lookup,hb,if_pos h]
  ·have hb:(g == f)=false:=beq_eq_false_iff_ne.mpr h
   simp only [List.lookup,hb,if_neg h]
 | (k,x) :: r=>by
  have ih:=Bl f g v r
  rw [show dw f v ((k,x) :: r)=(if k=f then (k,v) :: r else (k,x) :: dw f v r) from rfl]
  by_cases hk:k=f
  ·rw [if_pos hk]
   by_cases h:g=k
   ·have hb:(g == k)=true:=beq_iff_eq.mpr h
    simp only [List.lookup,hb,if_pos (h.trans hk)]
   ·have hb:(g == k)=false:=beq_eq_false_iff_ne.mpr h
    simp only [List.lookup,hb,if_neg (fun e:g=f=>h (e.trans hk.symm))]
  ·rw [if_neg hk]
   by_cases h:g=k
   ·have hb:(g == k)=true:=beq_iff_eq.mpr h
    simp only [List.lookup,hb,if_neg (fun e:g=f=>hk (h.symm.trans e))]
   ·have hb:(g == k)=false:=beq_eq_false_iff_ne.mpr h
    simp only [List.lookup,hb]
    exact ih
theorem Aj (f:Str) (v:V):∀ fs:List (Str × V),f ∈ (dw f v fs).map (·.1)/\∀ g,g ∈ fs.map (·.1)->g ∈ (dw f v fs).map (·.1)
 | []=>⟨by simp [dw],fun g h=>by simp at h⟩
 | (k,x) :: r=>by
  obtain ⟨i1,i2⟩:=Aj f v r
  rw [show dw f v ((k,x) :: r)=(if k=f then (k,v) :: r else (k,x) :: dw f v r) from rfl]
  by_cases hk:k=f
  ·rw [if_pos hk]
   subst hk
   exact ⟨by simp,fun g h=>by simpa using h⟩
  ·rw [if_neg hk]
   refine ⟨?_,fun g h=> ?_⟩
   ·rw [List.map_cons]
    exact List.mem_cons_of_mem _ i1
   ·rw [List.map_cons] at h ⊢
    rcases List.mem_cons.mp h with e | e
    ·exact List.mem_cons.mpr (.inl e)
    ·exact List.mem_cons_of_mem _ (i2 g e)
theorem Bo (f:Str) (v:V):∀ fs:List (Str × V),(dw f v fs).length<=fs.length + 1
 | []=>by simp [dw]
 | (k,x) :: r=>by
  have ih:=Bo f v r
  rw [show dw f v ((k,x) :: r)=(if k=f then (k,v) :: r else (k,x) :: dw f v r) from rfl]
  by_cases hk:k=f
  ·rw [if_pos hk,List.length_cons,List.length_cons]; omega
  ·rw [if_neg hk,List.length_cons,List.length_cons]; omega
theorem rG.some_of {v:V} {o:Option Value} (r:rG (some v) o):∃ u,o=some u/\RelV v u:=by
 cases o with
 | none=>exact (show False from r).elim
 | some u=>exact ⟨u,rfl,r⟩
theorem rG.none_of {o:Option Value} (r:rG none o):o=none:=by
 cases o with
 | none=>rfl
 | some u=>exact (show False from r).elim
theorem Uo {v:V} {u:Value} (r:RelV v u):PySem.W.handedIn u=true:=by
 cases v with
 | non=>cases (show u=Value.none from r); rfl
 | bl b=>cases (show u=Value.bool b from r); rfl
 | int i=>obtain ⟨t,e⟩:=(show ∃ t,u=Value.int i t from r); cases e; rfl
 | str x=>obtain ⟨t,e⟩:=(show ∃ t,u=Value.str x t from r); cases e; rfl
 | byt b=>obtain ⟨t,e⟩:=(show ∃ t,u=Value.bytes b t from r); cases e; rfl
 | flt b=>obtain ⟨t,e⟩:=(show ∃ t,u=Value.float b t from r); cases e; rfl
 | ref a=>cases (show u=Value.ref a from r); rfl
 | ty n=>cases (show u=Value.type n from r); rfl
section
variable {P:Program} {w:World} {H H':Hp} {h h':Heap} {a C dx:Addr} {fs fs':List (Str × V)}
theorem Ky (hok:HOk P w H h) (e:H a=some (.ins C dx fs)):∃ mA,Q6 h a dx C mA/\(∀ f,rG (fs.lookup f) (mA f))/\PySem.Within mA (fs.map (·.1))/\fs.length<=1000/\H dx=some (.own a):=by
 obtain ⟨d,z,ne,ob,mA,n,r,q⟩:=(show cO P w H h a (.ins C dx fs) from hok a _ e)
 exact ⟨mA,⟨ob,n,ne⟩,r,q,z,d⟩
end
structure Cls (K:PySem.W.Frag) (C:Addr):Prop where
 pg:PySem.W.plainGet K C Str.empty=true
 hd:PySem.W.hasDictIn K C=true
 po:PySem.W.plainOver K C=true
 sa:PySem.W.findIn K (.ref C) "__setattr__" = some (some (.builtin "object.__setattr__"))
theorem Cls.get {K:PySem.W.Frag} {C:Addr} (c:Cls K C) (f:Str):PySem.W.plainGet K C f=true:=c.pg
def bc (K:PySem.W.Frag) (C:Addr) (f:Str):Prop:=PySem.W.findIn K (.ref C) f=some none
theorem bc.taker {K:PySem.W.Frag} {C:Addr} {f:Str} (n:bc K C f):PySem.W.takerIn K C f=some none:=by
 unfold PySem.W.takerIn
 rw [show PySem.W.findIn K (.ref C) f=some none from n]
 rfl
structure Meth (K:PySem.W.Frag) (C:Addr) (m:Str) (f:Addr):Prop where
 at_:PySem.W.findIn K (.ref C) m=some (some (.ref f))
 fn:PySem.W.isFn K (.ref f)=true
 kp:PySem.W.keepIn K (.ref f)=true
section
variable {X:Cx} {pins:List (Addr × Obj)} {σ : St} {H:Hp} {s:Shared} {a C dx:Addr} {fs:List (Str × V)} {f:Str} {v:V} {A:Around} {E:Value->Shared->Prop}
theorem Fv {b:Bool} {Q:Value->Shared->Prop} (I:Inv X pins σ H s) (e:H a=some (.ins C dx fs)) (c:Cls X.K C) (n:bc X.K C f) (l:fs.lookup f=some v)
  (h:∀ u s',Inv X pins σ H s'->RelV v u->Q u s'):wpAny (model X.prog X.w) A (getAttr (.ref a) f b) Q E s:=by
 obtain ⟨mA,O,r,_,_,_⟩:=Ky I.hok e
 obtain ⟨u,hu,ru⟩:=rG.some_of (v:=v) (o:=mA f) (by rw [<-l]; exact r f)
 exact cU I.kIn O (c.get f) c.hd n hu (Uo ru) (h u _ (I.tok _) ru)
theorem wV {m:Str} {g:Addr} {pl:Sem Bool} {Q:Value × List Value->Shared->Prop} (I:Inv X pins σ H s) (e:H a=some (.ins C dx fs)) (c:Cls X.K C) (k:Meth X.K C m g) (l:fs.lookup m=none)
  (h:Q (.ref g,[.ref a]) s):wpAny (model X.prog X.w) A (getMethod (.ref a) m pl) Q E s:=by
 obtain ⟨mA,O,r,_,_,_⟩:=Ky I.hok e
 have hn:mA m=none:=rG.none_of (by rw [<-l]; exact r m)
 exact WD I.kIn O (c.get m) k.at_ k.fn hn h
theorem DY {y:V} {u:Value} {Q:Unit->Shared->Prop} (I:Inv X pins σ H s) (e:H a=some (.ins C dx fs)) (c:Cls X.K C) (n:bc X.K C f) (hl:fs.length < 1000) (ry:RelV y u)
  (h:∀ s',Inv X pins σ (upd H a (.ins C dx (dw f y fs))) s'->Q () s'):wpAny (model X.prog X.w) A (setAttr (.ref a) f u) Q E s:=by
 obtain ⟨mA,O,r,wi,_,ho⟩:=Ky I.hok e
 have hz:(fs.map (·.1)).length<=sizeLine:=by rw [List.length_map,sizeLine_eq]; omega
 refine Yn I.kIn O c.sa c.po n.taker c.hd wi hz fun h' O' sb=>h _ ?_
 have hd:∃ o,h'.get? dx=some o:=let ⟨o,_,_,e',_⟩:=O'.ns; ⟨o,e'⟩
 refine I.write (x:=a) (e:=dx) (by rw [e]; exact True.intro) (.inr ho) (fun b q hb z=>(sb.2 b hb).trans z) hd ?_
 refine ⟨by rw [ak O.ne]; exact ho,?_,O.ne,O'.obj,_,O'.ns,fun g=> ?_,fun g hg=> ?_⟩
 ·have:=Bo f y fs; omega
 ·show rG ((dw f y fs).lookup g) (if g=f then some u else mA g)
  rw [Bl]
  by_cases q:g=f
  ·rw [if_pos q,if_pos q]; exact ry
  ·rw [if_neg q,if_neg q]; exact r g
 ·by_cases q:g=f
  ·rw [q]; exact (Aj f y fs).1
  ·refine (Aj f y fs).2 g (wi g fun z=>hg ?_)
   show (if g=f then some u else mA g)=none
   rw [if_neg q]; exact z
theorem Inv.made (I:Inv X pins σ H s):Inv X pins σ (upd (upd H s.heap.objs.size (.own (s.heap.objs.size + 1))) (s.heap.objs.size + 1) (.ins C s.heap.objs.size []))
  { s with heap:=(s.heap.push PySem.W.emptyDict).push (PySem.W.instObj C s.heap.objs.size) }:=by
 have e1:(s.heap.push PySem.W.emptyDict).get? s.heap.objs.size=some PySem.W.emptyDict:=Heap.get?_push_size s.heap rfl
 have e2:((s.heap.push PySem.W.emptyDict).push (PySem.W.instObj C s.heap.objs.size)).get? (s.heap.objs.size + 1)=some (PySem.W.instObj C s.heap.objs.size):=by
  have:=Heap.get?_push_size (s.heap.push PySem.W.emptyDict) (o:=PySem.W.instObj C s.heap.objs.size) rfl
  rwa [Heap.size_push] at this
 have e3:(s.heap.push PySem.W.emptyDict).Ns s.heap.objs.size (fun _=>none):=⟨PySem.W.emptyDict,#[],_,e1,rfl,(fun e he=>absurd he (by simp)),fun _=>rfl⟩
 have I1:=I.laid (a:=s.heap.objs.size) (o:= .own (s.heap.objs.size + 1)) (h':=s.heap.push PySem.W.emptyDict) (t':=s.toks) (fun b u q=>Heap.get?_push_of_some _ q) (Nat.le_refl _) ⟨_,e1⟩
 refine I1.laid (a:=s.heap.objs.size + 1) (o:= .ins C s.heap.objs.size []) (t':=s.toks) (fun b u q=>Heap.get?_push_of_some _ q) (Nat.le_of_eq (Heap.size_push _ _)) ?_
 have ne:s.heap.objs.size ≠ s.heap.objs.size + 1:=Nat.ne_of_lt (Nat.lt_succ_self _)
 refine ⟨by rw [ak ne,aj],Nat.zero_le _,ne,e2,fun _=>none,(Heap.Ns1.of_empty e3).at fun o q=>Heap.get?_push_of_some _ q,fun _=>True.intro,fun y hy=>absurd rfl hy⟩
theorem ZS {prog:Program} {w:World} {env:Env} {e:Expr} {f:Str} {pos:Pos} {s:Shared} {Q:Value->Shared->Prop} (hb:attributeBase e f env (eval e env)=eval e env)
  (h:wpAny (model prog w) A (eval e env) (fun o s₁ => wpAny (model prog w) A (getAttr o f true) Q E s₁) E s):wpAny (model prog w) A (eval (.Attribute e f pos) env) Q E s :=
 Attribute_any_ h (by rw [arm_eval_Attribute,hb])
end
def tFld (K:PySem.W.Frag) (ta:TE) (f:Str):TE:=fun σ H Q=>ta σ H fun x H1=>∃ a C dx fs v,x = .ref a/\H1 a=some (.ins C dx fs)/\Cls K C/\bc K C f/\fs.lookup f=some v/\Q v H1
def sFld (K:PySem.W.Frag) (ta tv:TE) (f:Str):TS:=fun D σ H=>tv σ H fun y H1=>ta σ H1 fun x H2=>∃ a C dx fs,x = .ref a/\H2 a=some (.ins C dx fs)/\Cls K C/\bc K C f/\fs.length < 1000 /\
 D.nx σ (upd H2 a (.ins C dx (dw f y fs)))
def InOp (X:Cx) (op:Operator) (rd:V->V->Hp->VK->Prop):Prop :=
 ∀ (pins:List (Addr × Obj)) (s:Shared) (σ : St) (H:Hp) (x y:V) (u v:Value) (Q:VK),Inv X pins σ H s->RelV x u->RelV y v->rd x y H Q->wpAny (model X.prog X.w) X.A (inplaceOp op u v) (EP X pins σ Q) X.xe s
def Yo (K:PySem.W.Frag) (ta tv:TE) (rd:V->V->Hp->VK->Prop) (f:Str):TS:=fun D σ H=>ta σ H fun x H1=>∃ a C dx fs v,x = .ref a/\H1 a=some (.ins C dx fs)/\Cls K C/\bc K C f/\fs.lookup f=some v /\
 tv σ H1 fun y H2=>rd v y H2 fun z H3=>∃ dx' fs',H3 a=some (.ins C dx' fs')/\fs'.length < 1000/\D.nx σ (upd H3 a (.ins C dx' (dw f z fs')))
section
variable {X:Cx} {o e value:Expr} {f:Str} {pos pos' tpos:Pos} {ta tv:TE}
theorem V1 (he:PE X e ta) (hb:attributeBase e f X.env (eval e X.env)=eval e X.env):PE X (.Attribute e f pos) (tFld X.K ta f):=by
 intro pins s σ H Q I h
 refine ZS hb (thn (he pins s σ H _ I h) fun u s1 ⟨x,H1,I1,rx,a,C,dx,fs,v,ex,ea,c,n,l,q⟩=> ?_)
 subst ex
 obtain rfl:u=Value.ref a:=rx
 exact Fv I1 ea c n l fun u' s2 I2 ru=>⟨v,H1,I2,ru,q⟩
theorem aaO (ha:PE X o ta) (hv:PE X value tv) (hs:swapsWith value (some (.Attribute o f pos')) pos.line X.env=pure false):PS X (.Assign [.Attribute o f pos'] value pos) (sFld X.K ta tv f):=by
 intro pins s σ H D I h
 refine plainObj_wpAny_Assign_Attribute (thn (hv pins s σ H _ I h) fun u s1 ⟨y,H1,I1,ry,q⟩=>thn (ha pins s1 σ H1 _ I1 q) fun ov s2 ⟨x,H2,I2,rx,a,C,dx,fs,ex,ea,c,n,l,q2⟩=> ?_) hs
 subst ex
 obtain rfl:ov=Value.ref a:=rx
 exact DY I2 ea c n l ry fun s3 I3=>⟨σ,_,I3,q2⟩
theorem Tz {op:Operator} {rd:V->V->Hp->VK->Prop} (ha:PE X o ta) (hv:PE X value tv) (hop:InOp X op rd):PS X (.AugAssign (.Attribute o f tpos) op value pos) (Yo X.K ta tv rd f):=by
 intro pins s σ H D I h
 refine wpAny_AugAssign_AttributeAny (thn (ha pins s σ H _ I h) fun ov s1 ⟨x,H1,I1,rx,a,C,dx,fs,v,ex,ea,c,n,l,q⟩=> ?_)
 subst ex
 obtain rfl:ov=Value.ref a:=rx
 refine Fv I1 ea c n l fun u s2 I2 ru=>thn (hv pins s2 σ H1 _ I2 q) fun w3 s3 ⟨y,H2,I3,ry,q3⟩=>thn (hop pins s3 σ H2 v y u w3 _ I3 ru ry q3) fun w4 s4 ⟨z,H3,I4,rz,dx',fs',ea',l',q4⟩=> ?_
 exact DY I4 ea' c n l' rz fun s5 I5=>⟨σ,_,I5,q4⟩
def rAdd:V->V->Hp->VK->Prop:=fun x y H Q=>∃ i j,x = .int i/\y = .int j/\Q (.int (i + j)) H
theorem aa8:InOp X .Add rAdd:=by
 rintro pins s σ H x y u v Q I rx ry ⟨i,j,rfl,rfl,q⟩
 obtain ⟨t,rfl⟩:=(show ∃ t,u=Value.int i t from rx)
 obtain ⟨t',rfl⟩:=(show ∃ t',v=Value.int j t' from ry)
 exact PyProof.Rows.iadd_int ⟨.int (i + j),H,I.tok _,⟨_,rfl⟩,q⟩
theorem Z7 {pl:Sem Bool} {m:Str} {apos:Pos} {args:List Expr} {pins:List (Addr × Obj)} {s:Shared} {σ : St} {H:Hp} {Q:Value->Shared->Prop} {te:TE} (he:PE X e te) (I:Inv X pins σ H s)
    (h:te σ H fun x H1=>∃ a C dx fs g,x = .ref a/\H1 a=some (.ins C dx fs)/\Cls X.K C/\Meth X.K C m g/\fs.lookup m=none /\
      ∀ s1,Inv X pins σ H1 s1->wpAny (model X.prog X.w) X.A (callWith pos (.ref g) [.ref a] (backTo pos (starEach args X.env)) (backToKw pos (keywordEach [] X.env))) Q X.xe s1)
    (ht:eval (.Call (.Attribute e m apos) args [] pos) X.env=(do
      let ov <- eval e X.env
      standAt apos.atName
      let (f,first) <- holding [ov] (getMethod ov m pl)
      callWith pos f first (backTo pos (starEach args X.env)) (backToKw pos (keywordEach [] X.env)))) :
    wpAny (model X.prog X.w) X.A (eval (.Call (.Attribute e m apos) args [] pos) X.env) Q X.xe s:=by
  refine PySem.W.methodCall_KW (pl:=pl) (thn (he pins s σ H _ I h) fun u s1 ⟨x,H1,I1,rx,a,C,dx,fs,g,ex,ea,c,k,l,q⟩=> ?_) ht
  subst ex
  obtain rfl:u=Value.ref a:=rx
  exact wV I1 ea c k l (q s1 I1)
end
structure dF (k:Nat) (A:Around):Prop where
 hd:A.handled=none
 dp:A.depth + 3 * k + 5 < recursionLimit
 un:A.units + 16 * k + 200 < cLine
theorem dF.mono {j k:Nat} {A:Around} (r:dF k A) (h:j<=k):dF j A:=⟨r.hd,by have:=r.dp; omega,by have:=r.un; omega⟩
theorem dF.deeper {k:Nat} {A:Around} (r:dF (k + 1) A) (env:Env):dF k (A.deeper env) :=
 ⟨r.hd,by have:=r.dp; show A.depth + 1 + 3 * k + 5 < _; omega,by have:=r.un; show A.units + 3 + 16 * k + 200 < _; omega⟩
theorem dF.in1 {k:Nat} {A:Around} (r:dF (k + 1) A):dF k A.in1 :=
 ⟨r.hd,by have:=r.dp; show A.depth + 3 * k + 5 < _; omega,by have:=r.un; show A.units + 1 + 16 * k + 200 < _; omega⟩
theorem Qn {A:Around} {C:Addr} {us:List Value} {kw:List (Str × Value)}:(A.under (.builtin "type.__call__" ⟨.ref C :: us,kw⟩)).depth=A.depth + 1:=by
 first | rfl | simp [Around.under,Code.weight,Code.isCreation,Code.isGuard,Code.isCaller,Code.frames,Code.isFrame,guardIds]
theorem Qm {A:Around} {C:Addr} {us:List Value} {kw:List (Str × Value)}:(A.under (.builtin "type.__call__" ⟨.ref C :: us,kw⟩)).units=A.units + 1:=by
 first | rfl | simp [Around.under,Code.cUnits,Code.frames,Code.isFrame]
theorem dF.make {k:Nat} {A:Around} (r:dF (k + 1) A) (C:Addr) (us:List Value) (kw:List (Str × Value)):dF k (A.under (.builtin "type.__call__" ⟨.ref C :: us,kw⟩)) :=
 ⟨r.hd,by have:=r.dp; rw [Qn]; omega,by have:=r.un; rw [Qm]; omega⟩
theorem dF.depth {k:Nat} {A:Around} (r:dF k A):A.depth < recursionLimit:=by have:=r.dp; omega
theorem dF.units {k:Nat} {A:Around} (r:dF k A):A.units + 64 < cLine:=by have:=r.un; omega
def G6:TA:=fun _ H Q=>Q [] H
def Ii (ta:TE) (tr:TA):TA:=fun σ H Q=>ta σ H fun x H1=>tr σ H1 fun xs H2=>Q (x :: xs) H2
section
variable {X:Cx} {e:Expr} {es:List Expr} {te:TE} {t:TA} {pos:Pos}
theorem aq:PA X [] G6:=fun _ _ _ _ H Q I h=>Calls.spliced_nil ⟨[],H,I,.nil,h⟩
theorem aa (ha:PE X e te) (hr:PA X es t) (hs:starEach (e :: es) X.env=(false,eval e X.env) :: starEach es X.env:=by rfl):PA X (e :: es) (Ii te t):=by
 intro pos pins s σ H Q I h
 rw [hs]
 show wpAny _ _ (spliced ((false,eval e X.env) :: backTo pos (starEach es X.env))) _ _ s
 refine Calls.spliced_cons (thn (ha pins s σ H _ I h) fun u s1 ⟨x,H1,I1,r1,q1⟩=> ?_)
 exact thn (hr pos pins s1 σ H1 _ I1 q1) fun us s2 ⟨xs,H2,I2,r2,q2⟩=>⟨x :: xs,H2,I2,.cons r1 r2,q2⟩
def tTup (t:TA):TE:=fun σ H Q=>t σ H fun xs H1=>xs.length<=sizeLine/\∀ p,H1 p=none->Q (.ref p) (upd H1 p (.tup xs))
def tLst (t:TA):TE:=fun σ H Q=>t σ H fun xs H1=>xs.length<=sizeLine/\∀ p,H1 p=none->Q (.ref p) (upd H1 p (.lst xs))
theorem z6 {x1} (h:PA X es t):PE X (.Tuple es x1 pos) (tTup t):=by
 intro pins s σ H Q I hq
 refine wpAny_Tuple_spliced (thn (h pos pins s σ H _ I hq) fun us s1 ⟨xs,H1,I1,r,z,q⟩=>⟨by rw [<-r.length]; exact z,?_⟩)
 have hf:H1 s1.heap.objs.size=none:=I1.hok.fresh (Nat.le_refl _)
 refine ⟨.ref s1.heap.objs.size,upd H1 s1.heap.objs.size (.tup xs),I1.laid (t':=s1.toks) (fun b u e=>Heap.get?_push_of_some _ e) (Nat.le_refl _) ?_,rfl,q _ hf⟩
 exact ⟨z,us,r,⟨_,Heap.get?_push_size _ rfl,rfl,_,rfl⟩⟩
theorem aX (h:PA X es t):PE X (.List es pos) (tLst t):=by
 intro pins s σ H Q I hq
 refine wpAny_List_spliced (thn (h pos pins s σ H _ I hq) fun us s1 ⟨xs,H1,I1,r,z,q⟩=>⟨by rw [<-r.length]; exact z,?_⟩)
 have hf:H1 s1.heap.objs.size=none:=I1.hok.fresh (Nat.le_refl _)
 refine ⟨.ref s1.heap.objs.size,upd H1 s1.heap.objs.size (.lst xs),I1.laid (t':=s1.toks) (fun b u e=>Heap.get?_push_of_some _ e) (Nat.le_refl _) ?_,rfl,q _ hf⟩
 exact ⟨z,us,0,r,Heap.get?_push_size _ rfl⟩
end
abbrev Sp:=List V->Hp->VK->XK->Prop
abbrev CXT:=List Env->Hp->Shared->XK->Value->Shared->Prop
structure O6 (P:Program) (w:World) (K:PySem.W.Frag) (mg:Str->Option Value) (base:Heap) (A:Around) (outer:List Env) (s:Shared) (H:Hp):Prop where
 frames:A.frames=some outer
 mod:Mod K mg base
 bs:∀ b o,base.get? b=some o->s.heap.get? b=some o/\H b=none
 bsz:base.objs.size<=s.heap.objs.size
 Aq:s.heap.FunFrames base outer
 frf:∀ b ∈ frs outer,H b=none
 hok:HOk P w H s.heap
 bare:AllBare s.gens
def CE (outer:List Env) (P:Program) (w:World) (H:Hp) (s:Shared) (Q:VK) (u:Value) (s':Shared):Prop :=
 ∃ v H',s'.os=s.os/\AllBare s'.gens/\Un (frs outer) [] H H' s.heap s'.heap/\HOk P w H' s'.heap/\RelV v u/\Q v H'
def CR (CX:CXT) (outer:List Env) (P:Program) (w:World) (H:Hp) (s:Shared) (Q:VK) (E:XK) (r:Result) (s':Shared):Prop :=
 match r with
 | .ok (.ret u)=>CE outer P w H s Q u s'
 | .ok _=>False
 | .error e=>CX outer H s E e s'
structure aY (P:Program) (w:World) (K:PySem.W.Frag) (mg:Str->Option Value) (base:Heap) (CX:CXT) (k:Nat) (f:Addr) (fd:FuncData) (ps:List Str) (sp:Sp):Prop where
 len:∀ vs H Q E,sp vs H Q E->vs.length=ps.length
 run:∀ (A:Around) (outer:List Env) (s:Shared) (H:Hp) (args:Args) (us:List Value) (vs:List V) (Q:VK) (E:XK),dF k A->O6 P w K mg base A outer s H->BindsTo s fd args (ps.zip us)->Vals vs us->sp vs H Q E ->
  codeAny (model P w) A (.call (.ref f) args) (CR CX outer P w H s Q E) s
theorem aY.mono {P:Program} {w:World} {K:PySem.W.Frag} {mg:Str->Option Value} {base:Heap} {CX:CXT} {j k:Nat} {f:Addr} {fd:FuncData} {ps:List Str} {sp:Sp} (F:aY P w K mg base CX j f fd ps sp) (h:j<=k) :
  aY P w K mg base CX k f fd ps sp:=⟨F.len,fun A outer s H args us vs Q E hr=>F.run A outer s H args us vs Q E (hr.mono h)⟩
theorem O6.make {P:Program} {w:World} {K:PySem.W.Frag} {mg:Str->Option Value} {base:Heap} {A:Around} {outer:List Env} {s:Shared} {H:Hp} (e:O6 P w K mg base A outer s H) (C:Addr) (us:List Value) (kw:List (Str × Value)) :
  O6 P w K mg base (A.under (.builtin "type.__call__" ⟨.ref C :: us,kw⟩)) outer s H:=⟨by first | exact e.frames | (simpa [Around.under,Code.envs,Code.isFrame,pushEnvs] using e.frames),e.mod,e.bs,e.bsz,e.Aq,e.frf,e.hok,e.bare⟩
section
variable {X:Cx} {pins:List (Addr × Obj)} {σ : St} {H:Hp} {s s':Shared}
theorem Inv.env0 (I:Inv X pins σ H s):O6 X.prog X.w X.K X.mg X.base X.A X.stack s H :=
 ⟨I.ok.frames,I.ok.mod,I.bs,Nat.le_trans I.ok.bsz I.sz,I.stack,I.Ru,I.hok,I.bare⟩
theorem Inv.after {Q:VK} {u:Value} (I:Inv X pins σ H s) (h:CE X.stack X.prog X.w H s Q u s'):EP X pins σ Q u s':=by
 obtain ⟨v,H',os,bare,un,hok,r,q⟩:=h
 obtain ⟨hh,g,d,t,os'⟩:=s'
 obtain rfl:os'=s.os:=os
 exact ⟨v,H',I.call (h':=hh) (g':=g) (d':=d) (t':=t) (ch:=[]) un hok bare (fun b z=>absurd z (by simp)),r,q⟩
end
def Z1 (sp:Sp) (dvs:List V) (E:XK) (t:TA):TE:=fun σ H Q=>t σ H fun vs H1=>sp (vs++dvs) H1 Q E
def Ro (C:Addr) (m:Str) (sp:Sp) (dvs:List V) (E:XK) (ta:TE) (t:TA):TE:=fun σ H Q=>ta σ H fun x H1=>∃ a dx fs,x = .ref a/\H1 a=some (.ins C dx fs)/\fs.lookup m=none /\
 t σ H1 fun vs H2=>sp (x :: (vs++dvs)) H2 Q E
def Rp (C:Addr) (sp:Sp) (dvs:List V) (E:XK) (t:TA):TE:=fun σ H Q=>t σ H fun vs H1=>∀ x dx,H1 x=none->H1 dx=none->dx ≠ x ->
 sp (.ref x :: (vs++dvs)) (upd (upd H1 dx (.own x)) x (.ins C dx [])) (fun v H2=>v = .non/\Q (.ref x) H2) E
def Binds (K:PySem.W.Frag) (fd:FuncData) (ps:List Str) (ds:List Value):Prop :=
 ∀ (s:Shared) (us:List Value),K.In s.heap->(us++ds).length=ps.length->BindsTo s fd ⟨us,[]⟩ (ps.zip (us++ds))
theorem Binds.all {K:PySem.W.Frag} {fd:FuncData} {ps:List Str} (h:∀ us:List Value,us.length=ps.length->bindArgs fd ⟨us,[]⟩=pure (ps.zip us)):Binds K fd ps []:=fun s us _ hl=>by
 rw [List.append_nil] at hl ⊢
 exact .of_eq (h us hl)
def ql (CX:CXT) (X:Cx) (E:XK):Prop:=∀ (pins:List (Addr × Obj)) (σ : St) (H:Hp) (s:Shared) (e:Value) (s':Shared),Inv X pins σ H s->CX X.stack H s E e s'->X.xe e s'
section
variable {X:Cx} {CX:CXT} {k:Nat} {f C:Addr} {fd:FuncData} {ps:List Str} {sp:Sp} {dvs:List V} {ds:List Value} {E:XK} {x m:Str} {p pos apos:Pos} {e o:Expr} {es:List Expr} {ta:TE} {t:TA}
theorem JT {pins:List (Addr × Obj)} {σ : St} {H:Hp} {s:Shared} {Q:VK} {us:List Value} {vs:List V} (F:aY X.prog X.w X.K X.mg X.base CX k f fd ps sp) (hr:dF k X.A) (hb:Binds X.K fd ps ds) (hd:Vals dvs ds) (hx:ql CX X E)
  (I:Inv X pins σ H s) (r:Vals vs us) (h:sp (vs++dvs) H Q E):wpAny (model X.prog X.w) X.A (call (.ref f) us) (EP X pins σ Q) X.xe s:=by
 have r2:Vals (vs++dvs) (us++ds):=r.append hd
 have hl:(us++ds).length=ps.length:=by rw [<-r2.length]; exact F.len _ _ _ _ h
 refine wpAny_call (codeAny_mono (F.run X.A X.stack s H ⟨us,[]⟩ (us++ds) (vs++dvs) Q E hr I.env0 (hb s us I.kIn hl) r2 h) fun r s' hq=> ?_)
 cases r with
 | error e=>exact hx pins σ H s e s' I hq
 | ok fl =>
  cases fl with
  | ret u=>exact I.after hq
  | next=>exact False.elim hq
  | brk=>exact False.elim hq
  | cont=>exact False.elim hq
theorem YG (F:aY X.prog X.w X.K X.mg X.base CX k f fd ps sp) (hr:dF k X.A) (hg:Gl X x) (hm:X.mg x=some (.ref f)) (hk:PySem.W.keepIn X.K (.ref f)=true) (hb:Binds X.K fd ps ds) (hd:Vals dvs ds) (hx:ql CX X E)
  (ha:PA X (e :: es) t) (hdb:(x == ("__debug__" : Str))=false:=by decide) (he:starEach (e :: es) X.env=(false,eval e X.env) :: starEach es X.env:=by rfl) (hpl:(backTo pos (starEach es X.env)).any (·.1)=false:=by rfl) :
  PE X (.Call (.Name x p) (e :: es) [] pos) (Z1 sp dvs E t):=by
 intro pins s σ H Q I h
 refine wpAny_Call_Name_kw (Dq I hg hm ?_ hdb)
 refine PySem.W.callWith_K (h₀ := X.base) I.ok.mod.kin hk (thn (ha pos pins s σ H _ I h) fun us s1 ⟨vs,H1,I1,r,q⟩=>⟨I1.kIn,?_⟩) he hpl
 exact JT F hr hb hd hx I1 r q
theorem YD {pl:Sem Bool} (he:PE X o ta) (c:Cls X.K C) (hm:Meth X.K C m f) (F:aY X.prog X.w X.K X.mg X.base CX k f fd ps sp) (hr:dF k X.A) (hb:Binds X.K fd ps ds) (hd:Vals dvs ds) (hx:ql CX X E) (ha:PA X (e :: es) t)
    (hst:starEach (e :: es) X.env=(false,eval e X.env) :: starEach es X.env:=by rfl) (hpl:(backTo pos (starEach es X.env)).any (·.1)=false:=by rfl)
    (ht:eval (.Call (.Attribute o m apos) (e :: es) [] pos) X.env=(do
      let ov <- eval o X.env
      standAt apos.atName
      let (f,first) <- holding [ov] (getMethod ov m pl)
      callWith pos f first (backTo pos (starEach (e :: es) X.env)) (backToKw pos (keywordEach [] X.env))):=by rfl) :
    PE X (.Call (.Attribute o m apos) (e :: es) [] pos) (Ro C m sp dvs E ta t):=by
  intro pins s σ H Q I h
  refine PySem.W.methodCall_KW (pl:=pl) (thn (he pins s σ H _ I h) fun u s1 ⟨x,H1,I1,rx,a,dx,fs,ex,ea,l,q⟩=> ?_) ht
  subst ex
  obtain rfl:u=Value.ref a:=rx
  refine wV I1 ea c hm l ?_
  refine PySem.W.callWith_K (first:=[.ref a]) (h₀ := X.base) I.ok.mod.kin hm.kp (thn (ha pos pins s1 σ H1 _ I1 q) fun us s2 ⟨vs,H2,I2,r,q2⟩=>⟨I2.kIn,?_⟩) hst hpl
  exact JT (us:= .ref a :: us) (vs:= .ref a :: vs) F hr hb hd hx I2 (.cons rfl r) q2
theorem VV {pl:Sem Bool} (he:PE X o ta) (c:Cls X.K C) (hm:Meth X.K C m f) (F:aY X.prog X.w X.K X.mg X.base CX k f fd ps sp) (hr:dF k X.A) (hb:Binds X.K fd ps ds) (hd:Vals dvs ds) (hx:ql CX X E)
    (ht:eval (.Call (.Attribute o m apos) [] [] pos) X.env=(do
      let ov <- eval o X.env
      standAt apos.atName
      let (f,first) <- holding [ov] (getMethod ov m pl)
      callWith pos f first (backTo pos (starEach [] X.env)) (backToKw pos (keywordEach [] X.env))):=by rfl) :
    PE X (.Call (.Attribute o m apos) [] [] pos) (Ro C m sp dvs E ta G6):=by
  intro pins s σ H Q I h
  refine PySem.W.methodCall_KW (pl:=pl) (thn (he pins s σ H _ I h) fun u s1 ⟨x,H1,I1,rx,a,dx,fs,ex,ea,l,q⟩=> ?_) ht
  subst ex
  obtain rfl:u=Value.ref a:=rx
  refine wV I1 ea c hm l ?_
  exact PySem.W.callWith_K0 (first:=[.ref a]) I1.kIn hm.kp (JT (us:=[.ref a]) (vs:=[.ref a]) F hr hb hd hx I1 (.cons rfl .nil) q)
structure Mk (K:PySem.W.Frag) (C f:Addr):Prop where
 makes:PySem.W.makesIn K C=true
 init:PySem.W.findIn K (.ref C) "__init__" = some (some (.ref f))
 fn:PySem.W.isFn K (.ref f)=true
 kp:PySem.W.keepIn K (.ref C)=true
theorem Ml {pins:List (Addr × Obj)} {σ : St} {H:Hp} {s:Shared} {Q:VK} {us:List Value} {vs:List V} (M:Mk X.K C f) (F:aY X.prog X.w X.K X.mg X.base CX k f fd ps sp) (hr:dF (k + 1) X.A) (hb:Binds X.K fd ps ds) (hd:Vals dvs ds)
  (hx:ql CX X E) (I:Inv X pins σ H s) (r:Vals vs us)
  (h:∀ x dx,H x=none->H dx=none->dx ≠ x->sp (.ref x :: (vs++dvs)) (upd (upd H dx (.own x)) x (.ins C dx [])) (fun v H2=>v = .non/\Q (.ref x) H2) E) :
  wpAny (model X.prog X.w) X.A (call (.ref C) us) (EP X pins σ Q) X.xe s:=by
 have hq:=h (s.heap.objs.size + 1) s.heap.objs.size (I.hok.fresh (Nat.le_succ _)) (I.hok.fresh (Nat.le_refl _)) (Nat.ne_of_lt (Nat.lt_succ_self _))
 have I2:=Inv.made (C:=C) I
 have r2:Vals (V.ref (s.heap.objs.size + 1) :: (vs++dvs)) (Value.ref (s.heap.objs.size + 1) :: (us++ds)):= .cons rfl (r.append hd)
 have hl:(Value.ref (s.heap.objs.size + 1) :: us++ds).length=ps.length:=by
  have e:=r2.length
  rw [F.len _ _ _ _ hq] at e
  exact e.symm
 refine wpAny_call (Wm (f:=f) I.kIn M.makes M.init (beq_iff_eq.mp M.fn) (codeAny_mono (F.run _ X.stack _ _ ⟨Value.ref (s.heap.objs.size + 1) :: us,[]⟩ (Value.ref (s.heap.objs.size + 1) :: (us++ds)) _ _ E (hr.make C us [])
  (I2.env0.make C us []) (hb _ (Value.ref (s.heap.objs.size + 1) :: us) I2.kIn hl) r2 hq) fun r s' hq'=> ?_))
 cases r with
 | error e=>exact hx pins σ _ _ e s' I2 hq'
 | ok fl =>
  cases fl with
  | ret u =>
   obtain ⟨v,H',I3,rv,ev,q3⟩:=I2.after hq'
   subst ev
   exact ⟨rv,⟨V.ref (s.heap.objs.size + 1),H',I3,rfl,q3⟩⟩
  | next=>exact False.elim hq'
  | brk=>exact False.elim hq'
  | cont=>exact False.elim hq'
theorem YF (M:Mk X.K C f) (F:aY X.prog X.w X.K X.mg X.base CX k f fd ps sp) (hr:dF (k + 1) X.A) (hg:Gl X x) (hm:X.mg x=some (.ref C)) (hb:Binds X.K fd ps ds) (hd:Vals dvs ds) (hx:ql CX X E)
  (ha:PA X (e :: es) t) (hdb:(x == ("__debug__" : Str))=false:=by decide) (he:starEach (e :: es) X.env=(false,eval e X.env) :: starEach es X.env:=by rfl) (hpl:(backTo pos (starEach es X.env)).any (·.1)=false:=by rfl) :
  PE X (.Call (.Name x p) (e :: es) [] pos) (Rp C sp dvs E t):=by
 intro pins s σ H Q I h
 refine wpAny_Call_Name_kw (Dq I hg hm ?_ hdb)
 refine PySem.W.callWith_K (h₀ := X.base) I.ok.mod.kin M.kp (thn (ha pos pins s σ H _ I h) fun us s1 ⟨vs,H1,I1,r,q⟩=>⟨I1.kIn,?_⟩) he hpl
 exact Ml M F hr hb hd hx I1 r q
theorem V0 (M:Mk X.K C f) (F:aY X.prog X.w X.K X.mg X.base CX k f fd ps sp) (hr:dF (k + 1) X.A) (hg:Gl X x) (hm:X.mg x=some (.ref C)) (hb:Binds X.K fd ps ds) (hd:Vals dvs ds) (hx:ql CX X E)
  (hdb:(x == ("__debug__" : Str))=false:=by decide):PE X (.Call (.Name x p) [] [] pos) (Rp C sp dvs E G6):=by
 intro pins s σ H Q I h
 refine wpAny_Call_Name_kw (Dq I hg hm ?_ hdb)
 exact PySem.W.callWith_K0 I.kIn M.kp (Ml (us:=[]) M F hr hb hd hx I .nil h)
end
def PK (X:Cx) (kws:List Keyword) (t:TA):Prop :=
 ∀ (pos:Pos) (pins:List (Addr × Obj)) (s:Shared) (σ : St) (H:Hp) (Q:List V->Hp->Prop),Inv X pins σ H s->t σ H Q->wpAny (model X.prog X.w) X.A (evalAll ((backToKw pos (keywordEach kws X.env)).map (·.2))) (AP X pins σ Q) X.xe s
section
variable {X:Cx} {CX:CXT} {k:Nat} {f C:Addr} {fd:FuncData} {ps ks:List Str} {sp:Sp} {E:XK} {x m:Str} {p pos apos kpos:Pos} {e o:Expr} {es:List Expr} {kws:List Keyword} {te ta:TE} {t tk:TA} {nm:Option Str}
theorem wN:PK X [] G6:=fun _ _ _ _ H Q I h=>wpAny_evalAll_nil ⟨[],H,I,.nil,h⟩
theorem pL (ha:PE X e te) (hr:PK X kws t):PK X (⟨nm,e,kpos⟩ :: kws) (Ii te t):=by
 intro pos pins s σ H Q I h
 show wpAny _ _ (evalAll ((do let v <- eval e X.env; standAt pos; pure v) :: (backToKw pos (keywordEach kws X.env)).map (·.2))) _ _ s
 refine wpAny_evalAll_cons (wpAny_bind (thn (ha pins s σ H _ I h) fun u s1 ⟨x,H1,I1,r1,q1⟩=>wpAny_bind (wpAny_standAt (wpAny_pure ?_))))
 exact thn (hr pos pins s1 σ H1 _ I1 q1) fun us s2 ⟨xs,H2,I2,r2,q2⟩=>⟨x :: xs,H2,I2,.cons r1 r2,q2⟩
variable {g:List Value->List Value->List Value} {gV:List V->List V->List V}
end
structure aG (N P:List Str) (sc:Scope):Prop where
 kind:sc.kind = .function
 co:sc.isCoroutine=false
 gen:sc.isGenerator=false
 nd:N.Nodup
 pre:N.take P.length=P
 par:∀ x ∈ P,sc.names.lookup x=some .local\/sc.names.lookup x=some .cell
 aaV:∀ y ∈ sc.names,y.2 ≠ .free
theorem Js {kindOf:Str->Option NameKind} {x:Str}:∀ {binds:List (Str × Value)} {m:Str->Option Value},(∀ v,(x,v) ∉ binds)->bindL kindOf binds m x=m x
 | [],_,_=>rfl
 | (n,v) :: r,m,h=>by
  unfold bindL
  rw [Js fun w hw=>h w (List.mem_cons_of_mem _ hw)]
  split
  ·have:x ≠ n:=by rintro rfl; exact h v List.mem_cons_self
   simp [this]
  ·rfl
theorem Ju {kindOf:Str->Option NameKind} {x:Str}:∀ {binds:List (Str × Value)} {m:Str->Option Value},(∀ v,(x,v) ∉ binds)->bindC kindOf binds m x=m x
 | [],_,_=>rfl
 | (n,v) :: r,m,h=>by
  unfold bindC
  rw [Ju fun w hw=>h w (List.mem_cons_of_mem _ hw)]
  split
  ·rfl
  ·have:x ≠ n:=by rintro rfl; exact h v List.mem_cons_self
   simp [this]
theorem Jt {kindOf:Str->Option NameKind} {x:Str} {v:Value}:∀ {P:List Str} {vs:List Value} {i:Nat} {m:Str->Option Value},P.Nodup->P[i]? = some x->vs[i]? = some v->kindOf x=some .local ->
  bindL kindOf (P.zip vs) m x=some v
 | [],_,_,_,_,h,_,_=>by simp at h
 | _ :: _,[],_,_,_,_,h,_=>by simp at h
 | p :: P,w :: vs,0,m,nd,h1,h2,hk=>by
  simp at h1 h2; subst h1; subst h2
  show bindL kindOf ((p,w) :: P.zip vs) m p=_
  unfold bindL
  rw [Js fun v hv=>(List.nodup_cons.mp nd).1 (List.of_mem_zip hv).1,if_pos hk]
  simp
 | p :: P,w :: vs,i + 1,m,nd,h1,h2,hk=>by
  show bindL kindOf ((p,w) :: P.zip vs) m x=_
  unfold bindL
  exact Jt (i:=i) (List.nodup_cons.mp nd).2 (by simpa using h1) (by simpa using h2) hk
theorem Jv {kindOf:Str->Option NameKind} {x:Str} {v:Value}:∀ {P:List Str} {vs:List Value} {i:Nat} {m:Str->Option Value},P.Nodup->P[i]? = some x->vs[i]? = some v->kindOf x ≠ some .local ->
  bindC kindOf (P.zip vs) m x=some v
 | [],_,_,_,_,h,_,_=>by simp at h
 | _ :: _,[],_,_,_,_,h,_=>by simp at h
 | p :: P,w :: vs,0,m,nd,h1,h2,hk=>by
  simp at h1 h2; subst h1; subst h2
  show bindC kindOf ((p,w) :: P.zip vs) m p=_
  unfold bindC
  rw [Ju fun v hv=>(List.nodup_cons.mp nd).1 (List.of_mem_zip hv).1,if_neg hk]
  simp
 | p :: P,w :: vs,i + 1,m,nd,h1,h2,hk=>by
  show bindC kindOf ((p,w) :: P.zip vs) m x=_
  unfold bindC
  exact Jv (i:=i) (List.nodup_cons.mp nd).2 (by simpa using h1) (by simpa using h2) hk
def start (N:List Str) (vs:List V):St:=vs.map some++List.replicate (N.length - vs.length) none
def UW (CX:CXT) (P:Program) (w:World) (K:PySem.W.Frag) (mg:Str->Option Value) (base:Heap) (N:List Str) (qual:Str) (scope:Scope) (f:Addr) (cd:Value) (A:Around) (outer:List Env) (s:Shared) (H:Hp) (E:XK):Cx where
 prog:=P
 w:=w
 K:=K
 mg:=mg
 base:=base
 A:=A.deeper (envOfC qual scope s.heap.objs.size f cd)
 N:=N
 s_0:=s
 H_0:=H
 env:=envOfC qual scope s.heap.objs.size f cd
 outer:=outer
 stack:=envOfC qual scope s.heap.objs.size f cd :: outer
 ex:=[]
 calm:=true
 fn:=fun _=>true
 pn:=[]
 xe:=fun e s'=>wpAny (model P w) (A.deeper (envOfC qual scope s.heap.objs.size f cd)) (leaving (envOfC qual scope s.heap.objs.size f cd) e) (fun _ s''=>CX outer H s E e s'') (fun e' s''=>CX outer H s E e' s'') s'
theorem Oz {sc:Scope} {n:Nat} {x:Str} (h:sc.names.lookup x=some .cell):∃ c,(cellsFrom n sc.names []).lookup x=some c:=by
 have q:=PySem.W.cellsFrom_some sc.names n [] (.inl h)
 exact Option.isSome_iff_exists.mp q
theorem Uk {CX:CXT} {P:Program} {w:World} {K:PySem.W.Frag} {mg:Str->Option Value} {base:Heap} {N ps:List Str} {qual:Str} {scope:Scope} {f:Addr} {cd:Value} {A:Around} {outer:List Env} {s s1:Shared} {H:Hp} {E:XK} {us:List Value} {vs:List V}
  (S:aG N ps scope) (hd:A.handled=none) (e0:O6 P w K mg base A outer s H) (hl:vs.length=ps.length) (r:Vals vs us)
  (x:InCallC s s.heap.objs.size (bindL (envOfC qual scope s.heap.objs.size f cd).kindOf (ps.zip us) fun _=>none) (cellsFrom (s.heap.objs.size + 1) scope.names []) (bindC (envOfC qual scope s.heap.objs.size f cd).kindOf (ps.zip us) fun _=>none) s1) :
  Inv (UW CX P w K mg base N qual scope f cd A outer s H E) [] (start N vs) H s1:=by
 have hpl:ps.length<=N.length:=by have:=congrArg List.length S.pre; rw [List.length_take] at this; omega
 obtain ⟨h1,tk,rfl,hk⟩:=x.done
 have noA:∀ b:Addr,b ∉ (UW CX P w K mg base N qual scope f cd A outer s H E).ex:=fun b z=>absurd (show b ∈ ([]:List Addr) from z) (by simp)
 refine ⟨⟨e0.mod,S.kind,rfl,rfl,Nat.le_refl _,fun y z c h1 h2=> ?_,fun y hy=> ?_,fun y c _ h=> ?_,fun _=>hd,Around.frames_deeper e0.frames,.inr ⟨rfl,rfl⟩,fun b z=>absurd z (noA b),e0.bs,e0.bsz,fun b _ _=>noA b,fun b z=>absurd z (noA b),e0.Aq,e0.frf⟩,
  rfl,e0.bare,Un.kept hk,⟨_,x.toInCall.ns,fun i y v h1 h2 h3=> ?_⟩,fun y c h=>⟨_,x.cell y c h⟩,e0.hok.fresh (Nat.le_refl _),fun y c h=> ?_,fun p hp=>absurd (show p ∈ ([]:List (Addr × Obj)) from hp) (by simp),e0.hok.kept hk,?_⟩
 ·exact name_of_addr x.apart (PySem.mem_of_lookup h1) (PySem.mem_of_lookup h2)
 ·have hy:scope.names.lookup y=some .cell\/scope.names.lookup y=some .free:=hy
  rcases hy with hy | hy
  ·exact Oz hy
  ·exact absurd rfl (S.aaV _ (PySem.mem_of_lookup hy))
 ·exact Nat.le_of_lt (x.above y c (PySem.mem_of_lookup h))
 ·have hi:i < vs.length:=by
   unfold start at h2
   by_cases hi:i < vs.length
   ·exact hi
   ·rw [List.getElem?_append_right (by simpa using hi)] at h2
    rw [List.getElem?_replicate] at h2
    split at h2 <;> cases h2
  have ha:vs[i]? = some v:=by
   unfold start at h2
   rw [List.getElem?_append_left (by simpa using hi),List.getElem?_map] at h2
   cases e:vs[i]? with
   | none=>rw [e] at h2; cases h2
   | some a=>rw [e] at h2; cases h2; rfl
  obtain ⟨u,hu,rv⟩:=r.get ha
  have hp:ps[i]? = some y:=by
   rw [<-S.pre,List.getElem?_take_of_lt (by omega)]; exact h1
  have ndP:ps.Nodup:=by rw [<-S.pre]; exact S.nd.sublist (List.take_sublist _ _)
  refine ⟨u,rv,?_⟩
  rcases S.par y (List.mem_of_getElem? hp) with k | k
  ·exact .inl ⟨k,Jt ndP hp hu k⟩
  ·obtain ⟨c,e⟩:=Oz (n:=s.heap.objs.size + 1) k
   refine .inr ⟨.inl k,c,e,?_⟩
   have q:=x.cell y c e
   rw [Jv ndP hp hu (by show scope.names.lookup y ≠ _; rw [k]; decide)] at q
   exact q
 ·exact e0.hok.fresh (Nat.le_of_lt (x.above y c (PySem.mem_of_lookup h)))
 ·unfold start
  show _=N.length
  rw [List.length_append,List.length_map,List.length_replicate]
  omega
theorem fn_of {CX:CXT} {P:Program} {w:World} {K:PySem.W.Frag} {mg:Str->Option Value} {base:Heap} {k:Nat} {f:Addr} {name qual:Str} {params:Arguments} {body:List Stmt} {scope:Scope} {dV kV doc pm cdv ct oc:Value} {an od:Option Addr}
    {osl:Array (Option Value)} {N ps:List Str} {sp:Sp} (lk:K.lookup f=some ⟨oc,od,.func (PySem.W.fnOf name qual params body scope dV kV doc pm an cdv ct),osl⟩) (hcd:PySem.W.codeIn K cdv qual=true) (S:aG N ps scope)
    (len:∀ vs H Q E,sp vs H Q E->vs.length=ps.length)
    (hbody:∀ (A:Around) (outer:List Env) (s:Shared) (H:Hp) (vs:List V) (Q:VK) (E:XK),dF k (A.deeper (envOfC qual scope s.heap.objs.size f cdv))->sp vs H Q E ->
      ∃ t,PSs (UW CX P w K mg base N qual scope f cdv A outer s H E) body t/\t { nx:=fun _ H'=>Q .non H',rt:=Q } (start N vs) H) :
    aY P w K mg base CX (k + 1) f (PySem.W.fnOf name qual params body scope dV kV doc pm an cdv ct) ps sp:=by
  refine ⟨len,fun A outer s H args us vs Q E hr e0 hb r hsp=> ?_⟩
  have hl:=len _ _ _ _ hsp
  have KX:K.In s.heap:=e0.mod.kin.keeps fun b o e=>(e0.bs b o e).1
  have lim:s.heap.NoLimit:=e0.mod.nolimit.keeps fun b o e=>(e0.bs b o e).1
  have hkind:∀ y ∈ ps.zip us,scope.names.lookup y.1=some .local\/(scope.names.lookup y.1=some .cell/\((cellsFrom (s.heap.objs.size + 1) scope.names []).lookup y.1).isSome=true):=fun ⟨n,v⟩ hy=>by
    rcases S.par n (List.of_mem_zip hy).1 with q | q
    · exact .inl q
    · exact .inr ⟨q,PySem.W.cellsFrom_some _ _ _ (.inl q)⟩
  refine codeAny_call_function hr.depth (KX _ _ lk) rfl S.co S.gen rfl (PySem.W.codeRec_of KX hcd) (hb _ _ _ _ ?_)
  refine wpAny_newFunctionEnv_cells S.kind hkind fun env he s1 x=> ?_
  subst he
  refine ⟨lim.keeps x.toInCall.keep,codeAny_func ?_⟩
  obtain ⟨t,ht,hq⟩:=hbody A outer s H vs Q E (hr.deeper _) hsp
  have I:Inv (UW CX P w K mg base N qual scope f cdv A outer s H E) [] (start N vs) H s1:=Uk S hr.hd e0 hl r x
  refine wpAny_mono (ht [] s1 (start N vs) H _ I hq) (fun fl s' hs=> ?_) fun e s' hs=>hs
  have fin:∀ {σ':St} {H':Hp} {v:V} {u:Value},Inv (UW CX P w K mg base N qual scope f cdv A outer s H E) [] σ' H' s'->RelV v u->Q v H'->CE outer P w H s Q u s' :=
    fun {σ' H' v u} J rv q=>⟨v,H',J.os,J.bare,J.base,J.hok,rv,q⟩
  cases fl with
  | ret u =>
    obtain ⟨v,σ',H',J,rv,q⟩:=hs
    exact fin J rv q
  | next =>
    obtain ⟨σ',H',J,q⟩:=hs
    exact fin (v:=V.non) (u:=Value.none) J rfl q
  | brk =>
    obtain ⟨_,_,_,q⟩:=hs
    exact False.elim q
  | cont =>
    obtain ⟨_,_,_,q⟩:=hs
    exact False.elim q
section
variable {X:Cx} {x:Str} {p pos:Pos} {e:Expr} {es:List Expr} {t:TA} {id T:String} {r:List V->Hp->VK->Prop}
def tCB (r:List V->Hp->VK->Prop) (t:TA):TE:=fun σ H Q=>t σ H fun vs H1=>r vs H1 Q
theorem aW (hc:rE X (.builtin id) r) (hg:Gl X x) (hm:X.mg x=none) (hv:bootBuiltins x=some (.builtin id)) (ha:PA X (e :: es) t) (hn:x ≠ "__name__" := by decide) (hdb:(x == ("__debug__" : Str))=false:=by decide)
  (he:starEach (e :: es) X.env=(false,eval e X.env) :: starEach es X.env:=by rfl) (hpl:(backTo pos (starEach es X.env)).any (·.1)=false:=by rfl):PE X (.Call (.Name x p) (e :: es) [] pos) (tCB r t):=by
 intro pins s σ H Q I h
 refine wpAny_Call_Name_kw (m6 I hg hm hv ?_ hn hdb)
 exact PyProof.Rows.callWith_builtin1 (thn (ha pos pins s σ H _ I h) fun us s1 ⟨vs,H1,I1,r1,q1⟩=>hc pins s1 σ H1 vs us Q I1 r1 q1) he hpl
theorem TV (hc:rE X (.type T) r) (hg:Gl X x) (hm:X.mg x=none) (hv:bootBuiltins x=some (.type T)) (ha:PA X (e :: es) t) (hn:x ≠ "__name__" := by decide) (hdb:(x == ("__debug__" : Str))=false:=by decide)
  (he:starEach (e :: es) X.env=(false,eval e X.env) :: starEach es X.env:=by rfl) (hpl:(backTo pos (starEach es X.env)).any (·.1)=false:=by rfl):PE X (.Call (.Name x p) (e :: es) [] pos) (tCB r t):=by
 intro pins s σ H Q I h
 refine wpAny_Call_Name_kw (m6 I hg hm hv ?_ hn hdb)
 exact PyProof.Rows.callWith_type1 (thn (ha pos pins s σ H _ I h) fun us s1 ⟨vs,H1,I1,r1,q1⟩=>hc pins s1 σ H1 vs us Q I1 r1 q1) he hpl
end
end L2
namespace HT
open PySem PyProof.Rows
section
variable {prog:Program} {w:World} {A:Around} {E:Value->Shared->Prop} {s:Shared}
def sIx (n d:Nat):Option Int->Nat
 | none=>d
 | some v=>if v < 0 then (v + (n:Int)).toNat else min v.toNat n
theorem Vw (n d:Nat):sIx n d none=d:=rfl
theorem JS (n d k:Nat):sIx n d (some (k:Int))=min k n:=by
 show (if (k:Int) < 0 then ((k:Int) + (n:Int)).toNat else min (k:Int).toNat n)=min k n
 rw [if_neg (by omega),Int.toNat_natCast]
end
end HT
namespace L2
open PySem PySem.Spec PyProof.Rows
abbrev TO:=St->Hp->(Option Int->Hp->Prop)->Prop
def PO (X:Cx) (e:Option Expr) (t:TO):Prop :=
 ∀ (pins:List (Addr × Obj)) (s:Shared) (σ : St) (H:Hp) (Q:Option Int->Hp->Prop),Inv X pins σ H s->t σ H Q ->
  wpAny (model X.prog X.w) X.A (evalPart e X.env) (fun u s'=>∃ o H',Inv X pins σ H' s'/\IsPart u o/\Q o H') X.xe s
def Yh:TO:=fun _ H Q=>Q none H
def tPart (t:TE):TO:=fun σ H Q=>t σ H fun x H1=>∃ i,x = .int i/\Q (some i) H1
section
variable {X:Cx} {e:Expr} {te:TE} {lo hi:Option Expr} {tl th:TO} {pos p2:Pos}
theorem Rx:PO X none Yh:=by
 intro pins s σ H Q I h
 rw [evalPart_none]
 exact wpAny_pure ⟨none,H,I,.none,h⟩
theorem lw (h:PE X e te):PO X (some e) (tPart te):=by
 intro pins s σ H Q I hw
 rw [evalPart_some]
 refine thn (h pins s σ H _ I hw) fun u s1 ⟨x,H1,I1,r1,q1⟩=> ?_
 obtain ⟨i,rfl,q⟩:=q1
 obtain ⟨t,rfl⟩:=r1
 exact ⟨some i,H1,I1,.int i t,q⟩
def SlR (X:Cx) (r:V->Option Int->Option Int->Hp->VK->Prop):Prop :=
 ∀ (pins:List (Addr × Obj)) (s:Shared) (σ : St) (H:Hp) (x:V) (v vl vu:Value) (lo hi:Option Int) (sl:Addr) (Q:VK),Inv X pins σ H s->RelV x v->s.heap.IsSliceOf sl vl vu .none->IsPart vl lo->IsPart vu hi->r x lo hi H Q ->
  ∃ T id,typeLookup (.type T) "__getitem__" = pure (some (.builtin id))/\s.TypeIs v T/\wpAny (model X.prog X.w) X.A (getItem v (.ref sl)) (EP X pins σ Q) X.xe s
def tSl (r:V->Option Int->Option Int->Hp->VK->Prop) (te:TE) (tl th:TO):TE:=fun σ H Q=>te σ H fun x H1=>tl σ H1 fun l H2=>th σ H2 fun u H3=>r x l u H3 Q
theorem tV {r:V->Option Int->Option Int->Hp->VK->Prop} (hr:SlR X r) (he:PE X e te) (hl:PO X lo tl) (hu:PO X hi th):PE X (.Subscript e (.Slice lo hi none p2) pos) (tSl r te tl th):=by
 intro pins s σ H Q I h
 refine Subscript_ (thn (he pins s σ H _ I h) fun v s1 ⟨x,H1,I1,r1,q1⟩=> ?_)
 refine wpAny_Slice (thn (hl pins s1 σ H1 _ I1 q1) fun vl s2 ⟨l,H2,I2,pl,q2⟩=>thn (hu pins s2 σ H2 _ I2 q2) fun vu s3 ⟨u,H3,I3,pu,q3⟩=> ?_)
 rw [evalPart_none]
 refine wpAny_pure ?_
 have I4:Inv X pins σ H3 { s3 with heap:=s3.heap.push { cls:= .type "slice",data:= .fields #[vl,vu,.none] } }:=I3.kept (t':=s3.toks) fun b ob q=>Heap.get?_push_of_some _ q
 obtain ⟨T,id,hT,ht,hg⟩:=hr pins { s3 with heap:=s3.heap.push { cls:= .type "slice",data:= .fields #[vl,vu,.none] } } σ H3 x v vl vu l u s3.heap.objs.size Q I4 r1 (Heap.IsSliceOf.new ..) pl pu q3
 show wpAny (model X.prog X.w) X.A (subscriptTail e (.Slice lo hi none p2) v (.ref s3.heap.objs.size)) (EP X pins σ Q) X.xe { s3 with heap:=s3.heap.push { cls:= .type "slice",data:= .fields #[vl,vu,.none] } }
 exact tail_any (ops:=[.ref s3.heap.objs.size,v]) ht hT hg (by with_unfolding_all rfl)
def Ib (xs:List V) (lo hi:Option Int):List V:=(xs.drop (HT.sIx xs.length 0 lo)).take (HT.sIx xs.length xs.length hi - HT.sIx xs.length 0 lo)
theorem Ov (xs:List V) (lo hi:Option Int):(Ib xs lo hi).length<=xs.length:=by
 unfold Ib
 rw [List.length_take,List.length_drop]
 omega
end
def ixN (n:Nat) (i:Int):Option Nat:=if 0<=i then (if i < n then some i.toNat else none) else if -(n:Int)<=i then some (i + n).toNat else none
def atI {α : Type} (xs:List α) (i:Int):Option α := (ixN xs.length i).bind fun j=>xs[j]?
theorem YX {n:Nat} {i:Int} {j:Nat} (h:ixN n i=some j):seqIndex? i n=some j/\j < n /\ -(n:Int)<=i/\i < n:=by
 unfold ixN at h
 by_cases h0:0<=i
 ·rw [if_pos h0] at h
  by_cases h1:i < n
  ·rw [if_pos h1] at h
   have e:i.toNat=j:=Option.some.inj h
   exact ⟨by rw [seqIndex_of h0 h1,e],by omega,by omega,h1⟩
  ·rw [if_neg h1] at h; cases h
 ·rw [if_neg h0] at h
  by_cases h1 : -(n:Int)<=i
  ·rw [if_pos h1] at h
   have e:(i + n).toNat=j:=Option.some.inj h
   exact ⟨by rw [seqIndex_neg (by omega) h1,e],by omega,h1,by omega⟩
  ·rw [if_neg h1] at h; cases h
theorem Sv {α : Type} {xs:List α} {i:Int} {v : α} (h:atI xs i=some v):∃ j,seqIndex? i xs.length=some j/\xs[j]? = some v/\j < xs.length /\ -(xs.length:Int)<=i/\i < xs.length:=by
 unfold atI at h
 cases e:ixN xs.length i with
 | none=>rw [e] at h; cases h
 | some j =>
  rw [e] at h
  obtain ⟨h1,h2,h3,h4⟩:=YX e
  exact ⟨j,h1,h,h2,h3,h4⟩
def zj (b:Expr):Prop:=∀ o i,subscripted b false o i=operate [o,i] (getItem o i)
def IxR (X:Cx) (r:R2):Prop :=
 ∀ (value slice:Expr) (pins:List (Addr × Obj)) (s:Shared) (σ : St) (H:Hp) (x y:V) (v u:Value) (Q:VK),Inv X pins σ H s->RelV x v->RelV y u->r x y H Q ->
  subscripted slice false v u=operate [v,u] (getItem v u)->wpAny (model X.prog X.w) X.A (subscriptTail value slice v u) (EP X pins σ Q) X.xe s
def MtR (X:Cx) (id:String) (r:V->List V->Hp->VK->Prop):Prop :=
 ∀ (pins:List (Addr × Obj)) (s:Shared) (σ : St) (H:Hp) (x:V) (xs:List V) (v:Value) (us:List Value) (Q:VK),Inv X pins σ H s->RelV x v->Vals xs us->r x xs H Q ->
  wpAny (model X.prog X.w) X.A (call (.builtin id) (v :: us)) (EP X pins σ Q) X.xe s
section
variable {X:Cx} {a b:Expr} {ta tb:TE} {pos:Pos}
theorem RD {r:R2} (hr:IxR X r) (ha:PE X a ta) (hb:PE X b tb) (hs:zj b):PE X (.Subscript a b pos) (tOp r ta tb):=by
 intro pins s σ H Q I h
 exact Subscript_ (binT ha hb I h fun v u s2 x y H2 I2 rx ry q=>hr a b pins s2 σ H2 x y v u Q I2 rx ry q (hs _ _))
def rIxL (K:PySem.W.Frag):R2:=fun x y H Q=>∃ p xs i v,x = .ref p/\y = .int i/\SqL K H p xs/\atI xs i=some v/\Q v H
def rIxT (K:PySem.W.Frag):R2:=fun x y H Q=>∃ p xs i v,x = .ref p/\y = .int i/\SqT K H p xs/\atI xs i=some v/\Q v H
theorem R4:IxR X (rIxL X.K):=by
 intro value slice pins s σ H x y v u Q I rx ry h hs
 obtain ⟨p,xs,i,z,rfl,rfl,hq,he,q⟩:=h
 cases rx
 obtain ⟨t,rfl⟩:=ry
 obtain ⟨its,r,pl,hz⟩:=I.list hq
 obtain ⟨j,h1,h2,h3,h4,h5⟩:=Sv he
 obtain ⟨w,ew,rw'⟩:=r.get h2
 have hl:=r.length
 have hn:=Qp
 have fin:EP X pins σ Q w s:=⟨z,H,I,rw',q⟩
 by_cases h0:0<=i
 ·have hj:i.toNat=j:=by
   rw [seqIndex_of h0 h5] at h1
   exact Option.some.inj h1
  exact item_listR pl.isList h0 (by omega) (by rw [hj]; simpa using ew) fin hs
 ·have hj:(i + (its.toArray.size:Int)).toNat=j:=by
   rw [seqIndex_neg (by omega) h4] at h1
   rw [List.size_toArray,<-hl]
   exact Option.some.inj h1
  exact subscriptTail_builtinR (x:=w) pl.isList.typeIs slot_list_getitem.lookup
   (wpAny_getItem_list_neg (Q:=fun r s'=>r=w/\EP X pins σ Q r s') pl.isList (by omega) (by rw [List.size_toArray] <;> omega) (by omega) (by rw [hj]; simpa using ew) ⟨rfl,fin⟩) hs
theorem Wu:IxR X (rIxT X.K):=by
 intro value slice pins s σ H x y v u Q I rx ry h hs
 obtain ⟨p,xs,i,z,rfl,rfl,hq,he,q⟩:=h
 cases rx
 obtain ⟨t,rfl⟩:=ry
 obtain ⟨its,r,pl,hz⟩:=I.tuple hq
 obtain ⟨j,h1,h2,h3,h4,h5⟩:=Sv he
 obtain ⟨w,ew,rw'⟩:=r.get h2
 have hl:=r.length
 have hn:=Qp
 have fin:EP X pins σ Q w s:=⟨z,H,I,rw',q⟩
 exact subscriptTail_builtinR (x:=w) pl.typeIs slot_tuple_getitem.lookup
  (getItem_tuple (j:=j) (Q:=fun r s'=>r=w/\EP X pins σ Q r s') pl (by omega) (by omega) (by rw [List.size_toArray,<-hl]; exact h1) (by simpa using ew) ⟨rfl,fin⟩) hs
theorem JG (lo hi:Option Int) (n:Nat):(sliceBounds lo hi none n).1=((HT.sIx n 0 lo:Nat):Int)/\(sliceBounds lo hi none n).2.1=((HT.sIx n n hi:Nat):Int)/\(sliceBounds lo hi none n).2.2=1:=by
 refine ⟨?_,?_,rfl⟩
 ·cases lo with
  | none=>simp [sliceBounds,HT.sIx]
  | some i =>
   simp only [sliceBounds,HT.sIx,Option.getD_none,show (1:Int) > 0 by decide,if_true]
   by_cases h:i < 0
   ·simp only [h,if_true] <;> omega
   ·simp only [h,if_false] <;> omega
 ·cases hi with
  | none=>simp [sliceBounds,HT.sIx]
  | some i =>
   simp only [sliceBounds,HT.sIx,Option.getD_none,show (1:Int) > 0 by decide,if_true]
   by_cases h:i < 0
   ·simp only [h,if_true] <;> omega
   ·simp only [h,if_false] <;> omega
theorem G7 (its:List Value) (lo hi:Option Int):slicePick its.toArray lo hi none=((its.drop (HT.sIx its.length 0 lo)).take (HT.sIx its.length its.length hi - HT.sIx its.length 0 lo)).toArray:=by
 obtain ⟨h1,h2,h3⟩:=JG lo hi its.toArray.size
 unfold slicePick
 rw [h1,h2,h3]
 simp only [sliceRange_one,pick_run,List.size_toArray] <;> rfl
def rSlL (K:PySem.W.Frag):V->Option Int->Option Int->Hp->VK->Prop:=fun x lo hi H Q=>∃ a xs,x = .ref a/\SqL K H a xs/\∀ p,H p=none->Q (.ref p) (upd H p (.lst (Ib xs lo hi)))
theorem xP:SlR X (rSlL X.K):=by
 intro pins s σ H x v vl vu lo hi sl Q I rx hs pl pu h
 obtain ⟨a,xs,rfl,hx,q⟩:=h
 cases rx
 obtain ⟨its,r,ht,hz⟩:=I.list hx
 have hlen:=r.length
 refine ⟨"list",_,slot_list_getitem.lookup,ht.isList.typeIs,?_⟩
 refine wpAny_getItem_list_slice ht.isList hs pl pu .none (by simp) ?_ (by rw [List.size_toArray] <;> omega)
 rw [G7,<-hlen]
 refine ⟨.ref s.heap.objs.size,_,I.laid (t':=s.toks) (o:= .lst (Ib xs lo hi)) (fun b ob q=>Heap.get?_push_of_some _ q) (Nat.le_refl _) ?_,rfl,q _ (I.hok.fresh (Nat.le_refl _))⟩
 exact ⟨Nat.le_trans (Ov xs lo hi) hz,_,0,(r.drop (HT.sIx xs.length 0 lo)).take (HT.sIx xs.length xs.length hi - HT.sIx xs.length 0 lo),Heap.get?_push_size _ rfl⟩
def vM:V->Bool
 | .non=>true
 | .bl _=>true
 | .int _=>true
 | .str _=>true
 | _=>false
def eqV:V->V->Bool
 | .non,.non=>true
 | .bl a,.bl b=>a == b
 | .bl a,.int b=>(if a then 1 else 0) == b
 | .int a,.bl b=>a == (if b then 1 else 0)
 | .int a,.int b=>a == b
 | .str a,.str b=>a == b
 | _,_=>false
theorem abt {A:Around} {s:Shared} {y x:V} {u v:Value} (ry:RelV y u) (rx:RelV x v) (fy:vM y=true) (fx:vM x=true):SeqAt.EqAt A s u v (eqV y x):=by
 cases y with
 | non =>
  cases ry
  cases x with
  | non=>cases rx; exact SeqAt.EqAt.same _
  | bl b=>cases rx; exact SeqAt.EqAt.none_bool b
  | int b=>obtain ⟨t,rfl⟩:=rx; exact SeqAt.EqAt.none_int b t
  | str b=>obtain ⟨t,rfl⟩:=rx; exact SeqAt.EqAt.none_str b t
  | _=>exact absurd (show false=true from fx) Bool.false_ne_true
 | bl a =>
  cases ry
  cases x with
  | non=>cases rx; exact SeqAt.EqAt.bool_none a
  | bl b=>cases rx; exact SeqAt.EqAt.bool_bool a b
  | int b=>obtain ⟨t,rfl⟩:=rx; exact SeqAt.EqAt.bool_int a b t
  | str b=>obtain ⟨t,rfl⟩:=rx; exact SeqAt.EqAt.bool_str a b t
  | _=>exact absurd (show false=true from fx) Bool.false_ne_true
 | int a =>
  obtain ⟨t',rfl⟩:=ry
  cases x with
  | non=>cases rx; exact SeqAt.EqAt.int_none a t'
  | bl b=>cases rx; exact SeqAt.EqAt.int_bool a t' b
  | int b=>obtain ⟨t,rfl⟩:=rx; exact SeqAt.EqAt.int_int a t' b t
  | str b=>obtain ⟨t,rfl⟩:=rx; exact SeqAt.EqAt.int_str a t' b t
  | _=>exact absurd (show false=true from fx) Bool.false_ne_true
 | str a =>
  obtain ⟨t',rfl⟩:=ry
  cases x with
  | non=>cases rx; exact SeqAt.EqAt.str_none a t'
  | bl b=>cases rx; exact SeqAt.EqAt.str_bool a t' b
  | int b=>obtain ⟨t,rfl⟩:=rx; exact SeqAt.EqAt.str_int a t' b t
  | str b=>obtain ⟨t,rfl⟩:=rx; exact SeqAt.EqAt.str_str a t' b t
  | _=>exact absurd (show false=true from fx) Bool.false_ne_true
 | _=>exact absurd (show false=true from fy) Bool.false_ne_true
def eqU (x:V) (u:Value):Bool:=match u with
 | .none=>eqV .non x
 | .bool b=>eqV (.bl b) x
 | .int i _=>eqV (.int i) x
 | .str z _=>eqV (.str z) x
 | _=>false
theorem W8 {x y:V} {u:Value} (r:RelV y u) (f:vM y=true):eqU x u=eqV y x:=by
 cases y with
 | non=>cases r; rfl
 | bl b=>cases r; rfl
 | int i=>obtain ⟨t,rfl⟩:=r; rfl
 | str z=>obtain ⟨t,rfl⟩:=r; rfl
 | _=>exact absurd (show false=true from f) Bool.false_ne_true
theorem zf {x:V}:∀ {xs:List V} {us:List Value},Vals xs us->xs.all vM=true->us.any (eqU x)=xs.any fun y=>eqV y x
 | _,_,.nil,_=>rfl
 | y :: xs,u :: us,.cons r t,f=>by
  rw [List.all_cons,Bool.and_eq_true] at f
  rw [List.any_cons,List.any_cons,W8 r f.1,zf t f.2]
theorem tX {A:Around} {s:Shared} {x:V} {v:Value} (rx:RelV x v) (fx:vM x=true):∀ {xs:List V} {us:List Value},Vals xs us->xs.all vM=true->∀ u ∈ us,SeqAt.EqAt A s u v (eqU x u)
 | _,_,.nil,_=>fun u hu=>by cases hu
 | y :: xs,u :: us,.cons r t,f=>fun u' hu=>by
  rw [List.all_cons,Bool.and_eq_true] at f
  rcases List.mem_cons.mp hu with rfl | hu
  ·rw [W8 r f.1]; exact abt r rx f.1 fx
  ·exact tX rx fx t f.2 u' hu
def inV (x:V) (xs:List V):Bool:=xs.any fun y=>eqV y x
def rIn (K:PySem.W.Frag) (neg:Bool):R2:=fun x y H Q=>∃ p xs,y = .ref p/\(SqL K H p xs\/SqT K H p xs)/\vM x=true/\xs.all vM=true/\Q (.bl (if neg then !inV x xs else inV x xs)) H
theorem Jb:OpR X (compareOp .In) (rIn X.K false):=by
 intro pins s σ H x y v u Q I rx ry h
 obtain ⟨p,xs,rfl,hq,fx,fs,q⟩:=h
 cases ry
 rcases hq with hq | hq
 ·obtain ⟨its,r,pl,hz⟩:=I.list hq
  refine SeqAt.in_listAt (eqU x) pl.isList (fun w hw=>tX rx fx r fs w (by simpa using hw)) ⟨.bl _,H,I,rfl,?_⟩
  rw [show its.toArray.any (eqU x)=its.any (eqU x) by simp,zf r fs]
  exact q
 ·obtain ⟨its,r,pl,hz⟩:=I.tuple hq
  refine SeqAt.in_tupleAt (eqU x) pl (fun w hw=>tX rx fx r fs w (by simpa using hw)) ⟨.bl _,H,I,rfl,?_⟩
  rw [show its.toArray.any (eqU x)=its.any (eqU x) by simp,zf r fs]
  exact q
theorem J2:OpR X (compareOp .NotIn) (rIn X.K true):=by
 intro pins s σ H x y v u Q I rx ry h
 obtain ⟨p,xs,rfl,hq,fx,fs,q⟩:=h
 cases ry
 rcases hq with hq | hq
 ·obtain ⟨its,r,pl,hz⟩:=I.list hq
  refine SeqAt.notIn_listAt (eqU x) pl.isList (fun w hw=>tX rx fx r fs w (by simpa using hw)) ⟨.bl _,H,I,rfl,?_⟩
  rw [show its.toArray.any (eqU x)=its.any (eqU x) by simp,zf r fs]
  exact q
 ·obtain ⟨its,r,pl,hz⟩:=I.tuple hq
  refine SeqAt.notIn_tupleAt (eqU x) pl (fun w hw=>tX rx fx r fs w (by simpa using hw)) ⟨.bl _,H,I,rfl,?_⟩
  rw [show its.toArray.any (eqU x)=its.any (eqU x) by simp,zf r fs]
  exact q
theorem bf:rE X (.builtin "len") (fun xs H Q=>∃ p ys,xs=[.ref p]/\(SqL X.K H p ys\/SqT X.K H p ys)/\Q (.int ys.length) H):=by
 intro pins s σ H xs us Q I r h
 obtain ⟨p,ys,rfl,hq,q⟩:=h
 obtain ⟨u,rfl,rx⟩:=vals1 r
 cases rx
 have hn:=Qp
 rcases hq with hq | hq
 ·obtain ⟨its,r',pl,hz⟩:=I.list hq
  have hlen:=r'.length
  exact Calls.call_len_list pl.isList (by simp only [List.size_toArray] <;> omega) ⟨.int ys.length,H,I.tok _,⟨s.toks + 1,by rw [List.size_toArray,hlen]⟩,q⟩
 ·obtain ⟨its,r',pl,hz⟩:=I.tuple hq
  have hlen:=r'.length
  exact len_tuple pl (by simp only [List.size_toArray] <;> omega) ⟨.int ys.length,H,I.tok _,⟨s.toks + 1,by rw [List.size_toArray,hlen]⟩,q⟩
theorem Lf:rE X (.type "list") (fun xs H Q=>∃ p ys,xs=[.ref p]/\(SqL X.K H p ys\/SqT X.K H p ys)/\∀ l,H l=none->Q (.ref l) (upd H l (.lst ys))):=by
 intro pins s σ H xs us Q I r h
 obtain ⟨p,ys,rfl,hq,q⟩:=h
 obtain ⟨u,rfl,rx⟩:=vals1 r
 cases rx
 have fin:∀ (its:List Value),Vals ys its->ys.length<=sizeLine->∀ (h':Heap) (c':Nat),(∀ b o',s.heap.get? b=some o'->h'.get? b=some o') ->
   h'.get? s.heap.objs.size=some { cls:= .type "list",dict:=none,data:= .seq its.toArray c',slots := #[] }->EP X pins σ Q (.ref s.heap.objs.size) { s with heap:=h' }:=fun its r' hz h' c' kp e =>
  ⟨.ref s.heap.objs.size,_,I.laid (t':=s.toks) kp (Nat.le_refl _) (show cO X.prog X.w _ h' _ (.lst ys) from ⟨hz,its,c',r',e⟩),rfl,q _ (I.hok.fresh (Nat.le_refl _))⟩
 rcases hq with hq | hq
 ·obtain ⟨its,r',pl,hz⟩:=I.list hq
  have hlen:=r'.length
  obtain ⟨o,ho,hc,n,hd⟩:=pl.isList
  exact call_list_seq p (.inl rfl) ho hc hd (fun h' c' kp e=>fin its r' hz h' c' kp e) (by simp only [List.size_toArray] <;> omega)
 ·obtain ⟨its,r',pl,hz⟩:=I.tuple hq
  have hlen:=r'.length
  obtain ⟨o,ho,hc,n,hd⟩:=pl
  exact call_list_seq p (.inr rfl) ho hc hd (fun h' c' kp e=>fin its r' hz h' c' kp e) (by simp only [List.size_toArray] <;> omega)
def tyV (K:PySem.W.Frag) (T:String) (x:V) (H:Hp):Prop:=match x with
 | .str _=>T = "str"
 | .int _=>T = "int"
 | .ref p=>(T = "list" /\ ∃ xs,SqL K H p xs)\/(T = "tuple" /\ ∃ o,K.lookup p=some o/\o.cls = .type "tuple" /\ o.dict=none) \/
   (T = "dict" /\ ((∃ kvs,H p=some (.dK kvs))\/∃ kvs,H p=some (.dT kvs)))\/(T = "set" /\ ∃ S n,H p=some (.set S n))
 | _=>False
theorem aas {pins:List (Addr × Obj)} {σ : St} {H:Hp} {s:Shared} {T:String} {x:V} {v:Value} (I:Inv X pins σ H s) (r:RelV x v) (ty:tyV X.K T x H) :
  s.TypeIs v T/\∀ a,v = .ref a->∃ ob,s.heap.get? a=some ob/\ob.dict=none:=by
 cases x with
 | str z =>
  obtain ⟨t,rfl⟩:=r
  cases (show T = "str" from ty)
  exact ⟨typeIs_str s z t,fun _ e=>nomatch e⟩
 | int i =>
  obtain ⟨t,rfl⟩:=r
  cases (show T = "int" from ty)
  exact ⟨typeIs_int s i t,fun _ e=>nomatch e⟩
 | ref p =>
  cases r
  rcases ty with ⟨rfl,xs,hq⟩ | ⟨rfl,o,hk,hc,hd⟩ | ⟨rfl,hk⟩ | ⟨rfl,S,n,hk⟩
  ·obtain ⟨its,_,pl,_⟩:=I.list hq
   refine ⟨pl.isList.typeIs,fun a e=> ?_⟩
   cases e
   obtain ⟨o,n,e,c,hd,_⟩:=pl
   exact ⟨o,e,hd⟩
  ·refine ⟨⟨o,I.kIn p o hk,hc⟩,fun a e=> ?_⟩
   cases e
   exact ⟨o,I.kIn _ o hk,hd⟩
  ·have z:∃ o,s.heap.get? p=some o/\o.ExactDict:=by
    rcases hk with ⟨kvs,hk⟩ | ⟨kvs,hk⟩
    ·obtain ⟨_,_,_,_,o,_,_,e,ex,_⟩:=I.hok p _ hk
     exact ⟨o,e,ex⟩
    ·obtain ⟨_,_,_,_,o,_,_,e,ex,_⟩:=I.hok p _ hk
     exact ⟨o,e,ex⟩
   obtain ⟨o,e,ex⟩:=z
   refine ⟨⟨o,e,ex.1⟩,fun a e2=> ?_⟩
   cases e2
   exact ⟨o,e,ex.2.1⟩
  ·obtain ⟨o,_,_,_,e,ex,_⟩:=I.hok p _ hk
   refine ⟨⟨o,e,ex.1⟩,fun a e2=> ?_⟩
   cases e2
   exact ⟨o,e,ex.2.1⟩
 | _=>exact False.elim ty
def tBM (K:PySem.W.Frag) (T:String) (r:V->List V->Hp->VK->Prop) (to:TE) (t:TA):TE:=fun σ H Q=>to σ H fun x H1=>tyV K T x H1/\t σ H1 fun xs H2=>r x xs H2 Q
variable {o e:Expr} {es:List Expr} {to:TE} {t:TA} {name:Str} {apos cpos:Pos} {T id:String} {r:V->List V->Hp->VK->Prop}
theorem IK (pa:PlainAttrs T) (slot:Slot T name id) (hty:typeOf (.builtin id)=pure (.type "method_descriptor")) (hm:MtR X id r) (ho:PE X o to) (ha:PA X (e :: es) t)
    (hbase:attributeBase o name X.env (eval o X.env)=eval o X.env:=by rfl)
    (hfew:((backTo cpos (starEach (e :: es) X.env)).all (fun x => !x.1) && (backToKw cpos (keywordEach [] X.env)).all (fun x=>x.1.isSome)
      && decide ((e :: es).length + ([]:List Keyword).length + (if ([]:List Keyword).isEmpty then 0 else 1) < 30))=true:=by rfl)
    (hline:(apos.endLine == cpos.line)=true:=by rfl) (hs:starEach (e :: es) X.env=(false,eval e X.env) :: starEach es X.env:=by rfl) (hplain:(backTo cpos (starEach es X.env)).any (·.1)=false:=by rfl) :
    PE X (.Call (.Attribute o name apos) (e :: es) [] cpos) (tBM X.K T r to t):=by
  intro pins s σ H Q I h
  refine wpAny_Call_method_late hbase hfew hline rfl (thn (ho pins s σ H _ I h) fun v s1 ⟨x,H1,I1,r1,ty,q1⟩=> ?_)
  obtain ⟨h1,h2⟩:=aas I1 r1 ty
  refine ⟨T,id,pa,slot,hty,h1,h2,?_⟩
  have hA:=ha cpos pins s1 σ H1 _ I1 q1
  rw [hs] at hA ⊢
  refine Calls.callWith_builtin (by show (false || (backTo cpos (starEach es X.env)).any (·.1))=false; rw [hplain] <;> rfl) (Calls.evalArgs_plain ?_)
  exact thn hA fun us s2 ⟨vs,H2,I2,r2,q2⟩=>hm pins s2 σ H2 x vs v us Q I2 r1 r2 q2
end
def MtM (X:Cx) (id:String) (r:V->List V->Hp->VK->Prop):Prop :=
 ∀ (pins:List (Addr × Obj)) (s:Shared) (σ : St) (H:Hp) (x:V) (xs:List V) (v:Value) (us:List Value) (Q:VK),Inv X pins σ H s->RelV x v->Vals xs us->r x xs H Q ->
  wpAny (model X.prog X.w) X.A (call (.builtin id) (v :: us)) (EP X pins σ Q) X.xe s
theorem Vals.one:∀ {x:V} {us:List Value},Vals [x] us->∃ u,us=[u]/\RelV x u
 | _,_,.cons r .nil=>⟨_,rfl,r⟩
theorem Vals.rep {xs:List V} {us:List Value} (h:Vals xs us):∀ k:Nat,Vals (List.replicate k xs).flatten (List.replicate k us).flatten
 | 0=> .nil
 | k + 1=>by
  rw [List.replicate_succ,List.replicate_succ,List.flatten_cons,List.flatten_cons]
  exact Vals.append h (Vals.rep h k)
theorem foldl_rep (its:List Value):∀ (k:Nat) (acc:List Value),
  List.foldl (fun x1 x2=>x1++x2) acc.toArray (List.replicate k its.toArray)=(acc++(List.replicate k its).flatten).toArray
 | 0,acc=>by simp
 | k + 1,acc=>by
  have e:acc.toArray++its.toArray=(acc++its).toArray:=by simp
  have e2:(acc++its)++(List.replicate k its).flatten=acc++(List.replicate (k + 1) its).flatten:=by
   rw [List.replicate_succ,List.flatten_cons,List.append_assoc]
  rw [<-e2,<-foldl_rep its k (acc++its),<-e,List.replicate_succ,List.foldl_cons]
section
variable {X:Cx} {pins:List (Addr × Obj)} {σ : St} {H:Hp} {s:Shared} {l b:Addr} {xs ys zs:List V}
theorem Inv.lset {its its':List Value} {n:Nat} {f:Array Value->Array Value} {t':Nat} (I:Inv X pins σ H s) (hH:H l=some (.lst xs))
  (e:s.heap.get? l=some { cls:= .type "list",data:= .seq its.toArray n }) (hf:f its.toArray=its'.toArray) (hv:Vals ys its') (hz:ys.length<=sizeLine) :
  Inv X pins σ (upd H l (.lst ys)) { s with heap:=s.heap.update l (Obj.mapSeq f),toks:=t' }:=by
 have q:=PySem.IsL.update e f
 rw [hf] at q
 refine I.write (x:=l) (e:=l) (by rw [hH]; exact trivial) (.inl rfl) (fun b' u hb hu=>(Heap.get?_update_other s.heap (Obj.mapSeq f) (Ne.symm hb)).trans hu) ⟨_,q⟩ ?_
 exact ⟨hz,its',_,hv,q⟩
theorem Inv.lnew {its:List Value} {t':Nat} (I:Inv X pins σ H s) (hv:Vals ys its) (hz:ys.length<=sizeLine) :
  Inv X pins σ (upd H s.heap.objs.size (.lst ys)) { s with heap:=s.heap.push { cls:= .type "list",data:= .seq its.toArray },toks:=t' } :=
 I.laid (fun _ _ q=>Heap.get?_push_of_some _ q) (Nat.le_refl _) ⟨hz,its,0,hv,Heap.get?_push_size _ rfl⟩
theorem Inv.fresh (I:Inv X pins σ H s):H s.heap.objs.size=none:=I.hok.fresh (Nat.le_refl _)
theorem Inv.Qo (I:Inv X pins σ H s) (hH:H l=some (.lst xs)):xs.length<=sizeLine/\∃ (its:List Value) (n:Nat),Vals xs its/\xs.length=its.length/\s.heap.get? l=some { cls:= .type "list",data:= .seq its.toArray n }:=by
 obtain ⟨z,its,n,r,e⟩:=I.hok l _ hH
 exact ⟨z,its,n,r,r.length,e⟩
theorem M7 {n:Nat} (h:n<=sizeLine):Builtin.List.listTooLong n=false:=by
 unfold Builtin.List.listTooLong
 exact decide_eq_false (by omega)
end
section
variable {X:Cx}
def Dn:V->List V->Hp->VK->Prop:=fun x vs H Q=>∃ l xs y,x = .ref l/\vs=[y]/\H l=some (.lst xs)/\xs.length < sizeLine/\Q .non (upd H l (.lst (xs++[y])))
theorem T7:MtM X "list.append" Dn:=by
 intro pins s σ H x vs v us Q I rx rv h
 obtain ⟨l,xs,y,rfl,rfl,hH,hz,q⟩:=h
 cases rx
 obtain ⟨u,rfl,ru⟩:=rv.one
 obtain ⟨z,its,n,r,hl,e⟩:=I.Qo hH
 refine call_meets F.slot_list_append ⟨_,e,rfl⟩ F.entry_list_append (F.args_list_append_2 _ _) (PySem.list_append l its.toArray n u (by rw [List.size_toArray]; omega)) ⟨e,?_⟩
 refine ⟨.non,_,I.lset (its':=its++[u]) hH e (by simp) (r.append (.cons ru .nil)) ?_,rfl,q⟩
 rw [List.length_append,List.length_singleton]
 omega
def Yx:V->List V->Hp->VK->Prop:=fun x vs H Q=>∃ l b xs zs,x = .ref l/\vs=[.ref b]/\H l=some (.lst xs)/\H b=some (.lst zs)/\xs.length + zs.length<=sizeLine/\Q .non (upd H l (.lst (xs++zs)))
theorem u5:MtM X "list.extend" Yx:=by
 intro pins s σ H x vs v us Q I rx rv h
 obtain ⟨l,b,xs,zs,rfl,rfl,hH,hB,hz,q⟩:=h
 cases rx
 obtain ⟨u,rfl,ru⟩:=rv.one
 cases ru
 obtain ⟨z,its,n,r,hl,e⟩:=I.Qo hH
 obtain ⟨z2,its2,n2,r2,hl2,e2⟩:=I.Qo hB
 have hsz:its.toArray.size + its2.toArray.size<=sizeLine:=by rw [List.size_toArray,List.size_toArray]; omega
 have hlong:¬ (!its.toArray.isEmpty && Builtin.List.listTooLong (its.toArray.size + its2.toArray.size))=true:=by
  rw [M7 hsz,Bool.and_false]
  exact Bool.false_ne_true
 refine call_meets F.slot_list_extend ⟨_,e,rfl⟩ F.entry_list_extend (F.args_list_extend_2 _ _)
  (AutoSeq1.list_extend_list_list_0 l its.toArray n b its2.toArray n2 hlong (by rw [List.size_toArray]; omega) (by omega)) ⟨e,e2,?_⟩
 refine ⟨.non,_,I.lset (its':=its++its2) hH e (by simp) (r.append r2) ?_,rfl,q⟩
 rw [List.length_append]
 omega
def rCat:R2:=fun x y H Q=>∃ l b xs zs,x = .ref l/\y = .ref b/\H l=some (.lst xs)/\H b=some (.lst zs)/\xs.length + zs.length<=sizeLine/\∀ p,H p=none->Q (.ref p) (upd H p (.lst (xs++zs)))
theorem jz:OpR X (binaryOp .Add) rCat:=by
 intro pins s σ H x y v u Q I rx ry h
 obtain ⟨l,b,xs,zs,rfl,rfl,hH,hB,hz,q⟩:=h
 cases rx
 cases ry
 obtain ⟨z,its,n,r,hl,e⟩:=I.Qo hH
 obtain ⟨z2,its2,n2,r2,hl2,e2⟩:=I.Qo hB
 refine PySem.P.add_list e e2 ?_ (by rw [List.size_toArray,List.size_toArray]; omega)
 have ea:its.toArray++its2.toArray=(its++its2).toArray:=by simp
 rw [ea]
 exact ⟨.ref _,_,I.lnew (t':=s.toks) (r.append r2) (by rw [List.length_append]; omega),rfl,q _ I.fresh⟩
def rRep:R2:=fun x y H Q=>∃ l k xs,x = .ref l/\y = .int k/\H l=some (.lst xs) /\ -(2 ^ 63)<=k/\k < 2 ^ 63/\xs.length * k.toNat<=sizeLine /\
 ∀ p,H p=none->Q (.ref p) (upd H p (.lst (List.replicate k.toNat xs).flatten))
theorem len_rep {α : Type} (xs:List α) (k:Nat):(List.replicate k xs).flatten.length=k * xs.length:=by
 induction k with
 | zero=>simp
 | succ k ih=>rw [List.replicate_succ,List.flatten_cons,List.length_append,ih,Nat.succ_mul,Nat.add_comm]
theorem aaR:OpR X (binaryOp .Mult) rRep:=by
  intro pins s σ H x y v u Q I rx ry h
  obtain ⟨l,k,xs,rfl,rfl,hH,h1,h2,hz,q⟩:=h
  cases rx
  obtain ⟨t,rfl⟩:=ry
  obtain ⟨z,its,n,r,hl,e⟩:=I.Qo hH
  have hlen:its.toArray.size * k.toNat<=sizeLine:=by rw [List.size_toArray,<-hl]; exact hz
  have hcap:¬ its.toArray.size * k.toNat > (2 ^ 63 - 1) / 8:=by
    have:(sizeLine:Nat)<=(2 ^ 63 - 1) / 8:=by decide
    omega
  have hfit:¬ (!Builtin.List.listFitsIndex k)=true:=by
    rw [fitsIndex_both h1 h2]
    exact Bool.false_ne_true
  have hlong:¬ Builtin.List.listTooLong (its.toArray.size * k.toNat)=true:=by
    rw [M7 hlen]
    exact Bool.false_ne_true
  have hnew:List.foldl (fun x1 x2=>x1++x2) #[] (List.replicate (if its.toArray.isEmpty=true then 0 else k.toNat) its.toArray)=(List.replicate k.toNat its).flatten.toArray:=by
    have f0:∀ m:Nat,List.foldl (fun x1 x2=>x1++x2) #[] (List.replicate m its.toArray)=(List.replicate m its).flatten.toArray:=fun m=>by
      have:=foldl_rep its m []
      rw [List.nil_append] at this
      exact this
    rw [f0]
    cases its with
    | nil=>simp
    | cons a r'=>rw [if_neg (by simp)]
  refine wpAny_binaryOp_repeat_ref (T := "list") (U := "int") (by decide) ⟨_,e,rfl⟩ (fun s'=>typeIs_int s' k t) noFill_list_mul F.fills_int_mul F.slot_int_rmul repeat_list F.slot_int_index.lookup
    (call_meets F.slot_int_rmul (typeIs_int s k t) F.entry_int_rmul (F.args_int_rmul_2 _ _) (int___rmul___int_list k t l its.toArray n)
      ⟨e,rfl,⟨_,e,rfl⟩,call_meets F.slot_list_mul ⟨_,e,rfl⟩ F.entry_list_mul (F.args_list_mul_2 _ _) (AutoListH.list___mul___list_int_3 l its.toArray n k t hfit hcap hlong) ⟨e,?_⟩⟩)
  rw [hnew]
  exact ⟨.ref _,_,I.lnew (t':=s.toks) (r.rep k.toNat) (by rw [len_rep,Nat.mul_comm]; exact hz),rfl,q _ I.fresh⟩
end
section
variable {prog:Program} {w:World} {A:Around} {E:Value->Shared->Prop} {s:Shared}
set_option maxRecDepth 100000 in
end
theorem Vals.ints:∀ {ns:List Int} {us:List Value},Vals (ns.map V.int) us->IntsAre us ns
 | [],us,h=>by
  rw [List.map_nil] at h
  cases h
  exact IntsAre.nil
 | n :: ns,us,h=>by
  rw [List.map_cons] at h
  cases h with
  | cons r t =>
   obtain ⟨k,rfl⟩:=r
   exact IntsAre.cons n k (Vals.ints t)
theorem xr:∀ {us:List Value} {ns:List Int},IntsAre us ns->Vals (ns.map V.int) us
 | _,_,.nil=>by rw [List.map_nil]; exact Paired.nil
 | _,_,.cons n t h=>by rw [List.map_cons]; exact Paired.cons (show RelV (V.int n) (Value.int n t) from ⟨t,rfl⟩) (xr h)
theorem Vals.bls:∀ {bs:List Bool} {us:List Value},Vals (bs.map V.bl) us->us=bs.map Value.bool
 | [],us,h=>by
  rw [List.map_nil] at h
  cases h
  rfl
 | b :: bs,us,h=>by
  rw [List.map_cons] at h
  cases h with
  | cons r t =>
   cases r
   rw [Vals.bls t,List.map_cons]
theorem Vals.PP {a:Addr} {us:List Value} (r:Vals [V.ref a] us):us=[Value.ref a]:=by
 cases r with
 | cons r t =>
  cases t
  cases r
  rfl
section
variable {prog:Program} {w:World} {A:Around} {E:Value->Shared->Prop} {s:Shared} {l:Addr} {its:List Value} {ns:List Int} {Q:Value->Shared->Prop}
theorem Yk (hh:A.handled=none) (hl:s.heap.IsList l its.toArray) (hi:IntsAre its ns)
  (h:∀ h' tk t',(∀ b o,s.heap.get? b=some o->h'.get? b=some o)->Q (.int ns.sum t') { s with heap:=h',toks:=tk }):wpAny (model prog w) A (call (.builtin "sum") [.ref l]) Q E s:=by
 obtain ⟨xs,e⟩:=hi.allInts.items
 have hn:numsOf (intItems xs).toList=ns:=by rw [<-e]; exact hi.numsOf
 rw [nums_intItems] at hn
 rw [e] at hl
 refine PySem.sum_intListG hh hl fun h' tk t' hk=> ?_
 have:=h h' tk t' hk
 rw [preSum_eq,List.take_of_length_le (by simp),hn]; exact this
end
section
variable {X:Cx}
def rSum (K:PySem.W.Frag):List V->Hp->VK->Prop:=fun vs H Q=>∃ (a:Addr) (ns:List Int),vs=[V.ref a]/\SqL K H a (ns.map V.int)/\Q (.int ns.sum) H
theorem abA (hc:X.calm=true):rE X (.builtin "sum") (rSum X.K):=by
 intro pins s σ H vs us Q I r h
 obtain ⟨a,ns,rfl,hs,q⟩:=h
 obtain ⟨its,rv,hl,_⟩:=I.list hs
 rw [Vals.PP r]
 exact Yk (I.ok.hd hc) hl.isList rv.ints fun h' tk t' hk=>⟨.int _,H,I.kept hk,⟨_,rfl⟩,q⟩
end
theorem Ft {prog:Program} {w:World} {A:Around} {E:Value->Shared->Prop} {s:Shared} {l:Addr} {items:Array Value} {Q:Value->Shared->Prop} (hl:s.heap.IsList l items)
    (h:∀ s₂ : Shared,s₂ = { s with heap:=s.heap.push { cls:= .type "list_iterator",data:= .fields #[.ref l,.int 0 0] } } ->
      (s₂.heap.IsListIter s.heap.objs.size l 0/\s₂.heap.IsList l items)->l ≠ s.heap.objs.size->Q (.ref s.heap.objs.size) s₂):wpAny (model prog w) A (pyIter (.ref l)) Q E s:=by
  have hlt:l < s.heap.objs.size:=by obtain ⟨_,e,_⟩:=hl; exact Heap.lt_size e
  exact wpAny_pyIter_list hl (h _ rfl ⟨⟨_,Heap.get?_push_size _ rfl,rfl,rfl⟩,hl.push _⟩ (Nat.ne_of_lt hlt))
theorem Be {prog:Program} {w:World} {A:Around} {bs:List Bool} {its:List Value} (e:its=bs.map Value.bool) :
  TruthOf prog w A (fun i v=>its.toArray[i]? = some v) (fun i=>bs.getD i false):=fun i v s Q E hv hq=>by
 have hv':its[i]? = some v:=by simpa using hv
 rw [e,List.getElem?_map] at hv'
 obtain ⟨b,hb,rfl⟩:=Option.map_eq_some_iff.mp hv'
 have hg:bs.getD i false=b:=by rw [List.getD_eq_getElem?_getD,hb] <;> rfl
 have hq':Q (bs.getD i false) s:=hq
 rw [hg] at hq'
 exact wpAny_truthy_bool hq'
theorem any_range:∀ bs:List Bool,(List.range bs.length).any (fun i=>bs.getD i false)=bs.any id
 | []=>rfl
 | b :: bs=>by
  rw [List.length_cons,List.range_succ_eq_map,List.any_cons,List.any_map,List.any_cons,<-any_range bs]
  all_goals rfl
theorem all_range:∀ bs:List Bool,(List.range bs.length).all (fun i=>bs.getD i false)=bs.all id
 | []=>rfl
 | b :: bs=>by
  rw [List.length_cons,List.range_succ_eq_map,List.all_cons,List.all_map,List.all_cons,<-all_range bs]
  all_goals rfl
section
variable {X:Cx}
def rAny (K:PySem.W.Frag):List V->Hp->VK->Prop:=fun vs H Q=>∃ (a:Addr) (bs:List Bool),vs=[V.ref a]/\SqL K H a (bs.map V.bl)/\Q (.bl (bs.any id)) H
def rAll (K:PySem.W.Frag):List V->Hp->VK->Prop:=fun vs H Q=>∃ (a:Addr) (bs:List Bool),vs=[V.ref a]/\SqL K H a (bs.map V.bl)/\Q (.bl (bs.all id)) H
theorem Xi (hc:X.calm=true):rE X (.builtin "any") (rAny X.K):=by
 intro pins s σ H vs us Q I r h
 obtain ⟨a,bs,rfl,hs,q⟩:=h
 obtain ⟨its,rv,hl,_⟩:=I.list hs
 rw [Vals.PP r]
 have hb:=rv.bls
 refine call_any_walk (Ft hl.isList fun s₂ e2 st hne=> ?_)
 subst e2
 refine ⟨_,_,_,_,_,_,_,rfl,Walks.list (A:=X.A.in1) (I.ok.hd hc) _ a hne its.toArray,st,Be hb,fun h' tk hk=> ?_⟩
 refine ⟨.bl _,H,I.kept fun b o eo=>hk b o (fun hmem=> ?_) (Heap.get?_push_of_some _ eo),?_,q⟩
 ·rcases List.mem_cons.mp hmem with e1 | hmem
  ·exact absurd (e1 ▸ Heap.lt_size eo) (Nat.lt_irrefl _)
  ·cases hmem
 ·show Value.bool _=Value.bool _
  rw [<-any_range,hb,List.size_toArray,List.length_map]
theorem QR (hc:X.calm=true):rE X (.builtin "all") (rAll X.K):=by
 intro pins s σ H vs us Q I r h
 obtain ⟨a,bs,rfl,hs,q⟩:=h
 obtain ⟨its,rv,hl,_⟩:=I.list hs
 rw [Vals.PP r]
 have hb:=rv.bls
 refine call_all_walk (Ft hl.isList fun s₂ e2 st hne=> ?_)
 subst e2
 refine ⟨_,_,_,_,_,_,_,rfl,Walks.list (A:=X.A.in1) (I.ok.hd hc) _ a hne its.toArray,st,Be hb,fun h' tk hk=> ?_⟩
 refine ⟨.bl _,H,I.kept fun b o eo=>hk b o (fun hmem=> ?_) (Heap.get?_push_of_some _ eo),?_,q⟩
 ·rcases List.mem_cons.mp hmem with e1 | hmem
  ·exact absurd (e1 ▸ Heap.lt_size eo) (Nat.lt_irrefl _)
  ·cases hmem
 ·show Value.bool _=Value.bool _
  rw [<-all_range,hb,List.size_toArray,List.length_map]
end
abbrev Xu (h:Heap) (c:Addr) (v:Option Value):Prop:=h.IsCell c v
def relS (scope sc:Scope):Scope :=
 { scope with names:=scope.names.map fun (n,k)=>if (k == .free && sc.kind == .function && sc.names.lookup n == some .cell) then (n,.cell) else (n,k) }
def bW (cells:List (Str × Addr)):List (Str × NameKind)->List (Str × Addr)->List (Str × Addr)
 | [],acc=>acc
 | (n,k) :: r,acc=>if k == .free then bW cells r ((n,(cells.lookup n).getD 0) :: acc) else bW cells r acc
theorem yZ (env:Env) (f:Str × NameKind->List (Str × Addr)->Sem (ForInStep (List (Str × Addr))))
  (hf:∀ n k c,f (n,k) c=if k == .free then (do let a <- cellOf env n; pure (.yield ((n,a) :: c))) else pure (.yield c)) :
  ∀ (names:List (Str × NameKind)) (acc:List (Str × Addr)),(∀ y ∈ names,y.2 = .free->∃ c,env.cells.lookup y.1=some c)->forIn names acc f=pure (bW env.cells names acc)
 | [],acc,_=>by rw [List.forIn_nil]; rfl
 | (n,k) :: r,acc,h=>by
  rw [List.forIn_cons,hf]
  have ih:=fun acc=>yZ env f hf r acc fun y hy=>h y (List.mem_cons_of_mem _ hy)
  unfold bW
  by_cases hk:(k == NameKind.free)=true
  ·rw [if_pos hk,if_pos hk]
   obtain ⟨c,hc⟩:=h (n,k) List.mem_cons_self (by simpa using hk)
   have e:cellOf env n=pure c:=by unfold cellOf; rw [hc]
   rw [e]
   have e2:(env.cells.lookup n).getD 0=c:=by rw [hc]; rfl
   rw [e2]
   exact ih _
  ·rw [if_neg hk,if_neg hk]
   exact ih _
theorem QS {scope:Scope} {env:Env} (h:∀ y ∈ scope.names,y.2 = .free->∃ c,env.cells.lookup y.1=some c):closureFor scope env=pure (bW env.cells scope.names []):=by
 simp only [closureFor]
 rw [yZ env _ (fun n k c=>rfl) scope.names [] h]
 rfl
theorem mem_lookup {α : Type}:∀ {l:List (Str × α)} {n:Str} {c : α},(n,c) ∈ l->∃ c',l.lookup n=some c'
 | (k,v) :: r,n,c,h=>by
  rw [List.lookup_cons]
  cases hb:n == k with
  | true=>exact ⟨_,rfl⟩
  | false =>
   rcases List.mem_cons.mp h with e | h
   ·cases e; simp at hb
   ·exact mem_lookup h
theorem lL {cells:List (Str × Addr)}:∀ {names:List (Str × NameKind)} {acc:List (Str × Addr)} {n:Str} {c:Addr},(n,c) ∈ bW cells names acc->(n,c) ∈ acc\/((n,.free) ∈ names/\c=(cells.lookup n).getD 0)
 | [],_,_,_,h=> .inl h
 | (m,k) :: r,acc,n,c,h=>by
  unfold bW at h
  split at h
  ·rename_i hk
   have hk:k = .free:=by simpa using hk
   rcases lL h with h | ⟨h1,h2⟩
   ·rcases List.mem_cons.mp h with e | h
    ·cases e; exact .inr ⟨hk ▸ List.mem_cons_self,rfl⟩
    ·exact .inl h
   ·exact .inr ⟨List.mem_cons_of_mem _ h1,h2⟩
  ·rcases lL h with h | ⟨h1,h2⟩
   ·exact .inl h
   ·exact .inr ⟨List.mem_cons_of_mem _ h1,h2⟩
theorem ux {cells:List (Str × Addr)}:∀ {names:List (Str × NameKind)} {acc:List (Str × Addr)} {p:Str × Addr},p ∈ acc->p ∈ bW cells names acc
 | [],_,_,h=>h
 | (m,k) :: r,acc,p,h=>by
  unfold bW
  split
  ·exact ux (List.mem_cons_of_mem _ h)
  ·exact ux h
theorem uw {cells:List (Str × Addr)}:∀ {names:List (Str × NameKind)} {acc:List (Str × Addr)} {n:Str},(n,.free) ∈ names->(n,(cells.lookup n).getD 0) ∈ bW cells names acc
 | (m,k) :: r,acc,n,h=>by
  unfold bW
  rcases List.mem_cons.mp h with e | h
  ·cases e
   exact ux List.mem_cons_self
  ·split
   ·exact uw h
   ·exact uw h
theorem oF:∀ {names:List (Str × NameKind)} {h:Heap} {acc:List (Str × Addr)} {x:Str} {c:Addr},(x,c) ∈ cellsFrom h.objs.size names acc ->
  (x,c) ∈ acc\/((x,.cell) ∈ names/\h.objs.size<=c/\Xu (pushCells h names) c none)
 | [],_,_,_,_,h=> .inl h
 | (n,k) :: r,h,acc,x,c,hm=>by
  unfold cellsFrom at hm
  unfold pushCells
  split at hm
  ·rename_i hk
   rw [if_pos hk]
   have hk:k = .cell:=by simpa using hk
   rw [<-Heap.size_push h { cls:= .type "cell",data:= .cell none }] at hm
   rcases oF hm with hm | ⟨h1,h2,h3⟩
   ·rcases List.mem_cons.mp hm with e | hm
    ·cases e
     exact .inr ⟨hk ▸ List.mem_cons_self,Nat.le_refl _,_,pushCells_keeps r _ _ _ (Heap.get?_push_size _ rfl),rfl⟩
    ·exact .inl hm
   ·rw [Heap.size_push] at h2
    exact .inr ⟨List.mem_cons_of_mem _ h1,Nat.le_of_succ_le h2,h3⟩
  ·rename_i hk
   rw [if_neg hk]
   rcases oF hm with hm | ⟨h1,h2,h3⟩
   ·exact .inl hm
   ·exact .inr ⟨List.mem_cons_of_mem _ h1,h2,h3⟩
theorem vf:∀ {names:List (Str × NameKind)} {n:Nat} {acc:List (Str × Addr)} {p:Str × Addr},p ∈ acc->p ∈ cellsFrom n names acc
 | [],_,_,_,h=>h
 | (m,k) :: r,n,acc,p,h=>by
  unfold cellsFrom
  split
  ·exact vf (List.mem_cons_of_mem _ h)
  ·exact vf h
theorem Ay:∀ {names:List (Str × NameKind)} {n:Nat} {acc:List (Str × Addr)} {x:Str},(x,.cell) ∈ names->∃ c,(x,c) ∈ cellsFrom n names acc
 | (m,k) :: r,n,acc,x,h=>by
  unfold cellsFrom
  rcases List.mem_cons.mp h with e | h
  ·cases e
   exact ⟨n,vf List.mem_cons_self⟩
  ·split
   ·exact Ay h
   ·exact Ay h
theorem Ax:∀ {names:List (Str × NameKind)} {h:Heap} {acc:List (Str × Addr)} {x y:Str} {c:Addr},(∀ p ∈ acc,p.2 < h.objs.size)->(∀ x y c,(x,c) ∈ acc->(y,c) ∈ acc->x=y) ->
  (x,c) ∈ cellsFrom h.objs.size names acc->(y,c) ∈ cellsFrom h.objs.size names acc->x=y
 | [],_,_,_,_,_,_,hi,h1,h2=>hi _ _ _ h1 h2
 | (n,k) :: r,h,acc,x,y,c,hl,hi,h1,h2=>by
  unfold cellsFrom at h1 h2
  split at h1
  ·rename_i hk
   rw [if_pos hk] at h2
   rw [<-Heap.size_push h { cls:= .type "cell",data:= .cell none }] at h1 h2
   refine Ax (h:=h.push _) (fun p hp=> ?_) (fun x y c a b=> ?_) h1 h2
   ·rw [Heap.size_push]
    rcases List.mem_cons.mp hp with rfl | hp
    ·exact Nat.lt_succ_self _
    ·exact Nat.lt_succ_of_lt (hl p hp)
   ·rcases List.mem_cons.mp a with e | a <;> rcases List.mem_cons.mp b with e' | b
    ·cases e; cases e'; rfl
    ·cases e; exact absurd (hl _ b) (Nat.lt_irrefl _)
    ·cases e'; exact absurd (hl _ a) (Nat.lt_irrefl _)
    ·exact hi _ _ _ a b
  ·rename_i hk
   rw [if_neg hk] at h2
   exact Ax hl hi h1 h2
theorem M9 {M:Model} {A:Around} {E:Value->Shared->Prop} {s:Shared} {scope:Scope} {globals:Addr} {closure:List (Str × Addr)} {qual:Str} {func:Option Addr} {code:Value} {around:Env} {builtins:Addr} {Q:Env->Shared->Prop}
    (h:Q (newEnv scope s.heap.objs.size globals (cellsFrom (s.heap.objs.size + 1) scope.names closure) qual func code (some around) builtins)
      { s with heap:=pushCells (s.heap.push { cls:= .type "dict",data:= .dict #[] }) scope.names }) :
    wpAny M A (newFunctionEnv scope globals closure [] qual func code (some around) builtins) Q E s:=by
  simp only [newFunctionEnv,Option.isSome_some,if_true]
  refine wpAny_bind (wpAny_alloc ?_)
  refine wpAny_bind (wpAny_layCells _ (fun n k c=>rfl) scope.names closure _ _ ?_)
  rw [show ({ s with heap:=s.heap.push { cls:= .type "dict",data:= .dict #[] } }:Shared).heap.objs.size=s.heap.objs.size + 1 from Heap.size_push ..]
  rw [List.forIn_nil]
  exact wpAny_bind (wpAny_pure (wpAny_pure h))
theorem tY {sc:Scope}:∀ {names:List (Str × NameKind)} {x:Str} {k:NameKind},
  (names.map fun (n,k)=>if (k == NameKind.free && sc.kind == .function && sc.names.lookup n == some .cell) then (n,NameKind.cell) else (n,k)).lookup x=some k ->
  ∃ k',names.lookup x=some k'/\(k=k'\/(k' = .free/\k = .cell))
 | [],_,_,h=>by simp at h
 | (n,k₀) :: r,x,k,h=>by
  have ih := @tY sc r x k
  have h':List.lookup x ((if (k₀ == NameKind.free && sc.kind == .function && sc.names.lookup n == some .cell)=true then (n,NameKind.cell) else (n,k₀)) :: (r.map _))=some k:=h
  cases hx:x == n with
  | true =>
   simp only [List.lookup_cons,hx]
   by_cases hc:(k₀ == NameKind.free && sc.kind == .function && sc.names.lookup n == some .cell)=true
   ·rw [if_pos hc] at h'
    simp only [List.lookup_cons,hx] at h'
    cases h'
    simp only [Bool.and_eq_true,beq_iff_eq] at hc
    exact ⟨k₀,rfl,.inr ⟨hc.1.1,rfl⟩⟩
   ·rw [if_neg hc] at h'
    simp only [List.lookup_cons,hx] at h'
    cases h'
    exact ⟨_,rfl,.inl rfl⟩
  | false =>
   simp only [List.lookup_cons,hx]
   by_cases hc:(k₀ == NameKind.free && sc.kind == .function && sc.names.lookup n == some .cell)=true
   ·rw [if_pos hc] at h'
    simp only [List.lookup_cons,hx] at h'
    exact ih h'
   ·rw [if_neg hc] at h'
    simp only [List.lookup_cons,hx] at h'
    exact ih h'
structure O9 (N:List Str) (sc scope:Scope) (own:List (Str × Nat)):Prop where
 kind:scope.kind = .function
 CQ:∀ y ∈ scope.names,scope.names.lookup y.1=some y.2
 ix:∀ p ∈ own,N[p.2]? = some p.1
 free:∀ y ∈ scope.names,y.2 = .free->sc.names.lookup y.1=some .cell\/sc.names.lookup y.1=some .free
 own:∀ y ∈ scope.names,y.2 = .local\/y.2 = .cell->y.1 ∈ own.map (·.1)\/y.1 ∉ N
def wipe (σ : St):List Nat->St
 | [] => σ
 | v :: vs=>(wipe σ vs).set v none
theorem rH (σ : St):∀ vs:List Nat,(wipe σ vs).length = σ.length
 | []=>rfl
 | v :: vs=>by unfold wipe; rw [List.length_set,rH σ vs]
theorem zQ {σ : St} {i:Nat} {x:V}:∀ {vs:List Nat},(wipe σ vs)[i]? = some (some x) -> σ[i]? = some (some x)/\i ∉ vs
 | [],h=>⟨h,by simp⟩
 | v :: vs,h=>by
  unfold wipe at h
  by_cases hi:v=i
  ·subst hi
   by_cases hv:v < (wipe σ vs).length
   ·rw [List.getElem?_set_self hv] at h; cases h
   ·rw [List.getElem?_eq_none (by simpa using hv)] at h; cases h
  ·rw [List.getElem?_set_ne hi] at h
   obtain ⟨h1,h2⟩:=zQ h
   exact ⟨h1,by simp only [List.mem_cons,not_or]; exact ⟨fun e=>hi e.symm,h2⟩⟩
abbrev Cx.blk (X:Cx) (s:Shared) (H:Hp) (scope:Scope) (cenv:Env) (fp:List Addr):Cx:={ X with s_0:=s,H_0:=H,env:=cenv,outer:=X.stack,ex:=fp,fn:=fun x=>scope.names.lookup x == some .cell,pn:=[],xe:=fun _ _=>False }
section
variable {X:Cx} {pins:List (Addr × Obj)} {σ : St} {H:Hp} {s:Shared}
theorem OD {scope:Scope} {own:List (Str × Nat)} {fp:List Addr} (I:Inv X pins σ H s) (ok:O9 X.N X.env.scope scope own) (hN:X.N.Nodup) (hfp:∀ b ∈ fp,zp X pins H b/\b < s.heap.objs.size) :
  Inv (X.blk s H scope (compEnvC scope (cellsFrom (s.heap.objs.size + 1) scope.names (bW X.env.cells scope.names [])) s.heap.objs.size X.env) fp) [] (wipe σ (own.map (·.2))) H { s with heap:=pushCells (s.heap.push { cls:= .type "dict",data:= .dict #[] }) scope.names }:=by
 have hfree:∀ y ∈ scope.names,y.2 = .free->∃ c,X.env.cells.lookup y.1=some c:=fun y hy e=>by
  rcases ok.free y hy e with k | k
  ·exact I.ok.has _ (.inl k)
  ·exact I.ok.has _ (.inr k)
 generalize hcenv:compEnvC scope (cellsFrom (s.heap.objs.size + 1) scope.names (bW X.env.cells scope.names [])) s.heap.objs.size X.env=cenv
 have kp:∀ b o,s.heap.get? b=some o->(pushCells (s.heap.push { cls:= .type "dict",data:= .dict #[] }) scope.names).get? b=some o:=fun b o e=>pushCells_keeps _ _ _ _ (Heap.get?_push_of_some _ e)
 have hL:cenv.locals=s.heap.objs.size:=by rw [<-hcenv]; rfl
 have hcl:cenv.cells=cellsFrom (s.heap.objs.size + 1) scope.names (bW X.env.cells scope.names []):=by rw [<-hcenv]; rfl
 have hsc:cenv.scope=relS scope X.env.scope:=by rw [<-hcenv]; rfl
 rw [<-Heap.size_push s.heap { cls:= .type "dict",data:= .dict #[] }] at hcl
 have cm:∀ {y c},(y,c) ∈ bW X.env.cells scope.names []->X.env.cells.lookup y=some c/\c < s.heap.objs.size:=fun {y c} hm=>by
  rcases lL hm with hm | ⟨h1,rfl⟩
  ·cases hm
  ·obtain ⟨c,hc⟩:=hfree _ h1 rfl
   rw [hc]
   obtain ⟨w,z⟩:=I.cell _ _ hc
   exact ⟨rfl,z.lt⟩
 have mem:∀ {y c},cenv.cells.lookup y=some c->(X.env.cells.lookup y=some c/\c < s.heap.objs.size)\/(s.heap.objs.size + 1<=c/\Xu (pushCells (s.heap.push { cls:= .type "dict",data:= .dict #[] }) scope.names) c none):=fun {y c} e=>by
  rw [hcl] at e
  rcases oF (PySem.mem_of_lookup e) with hm | ⟨_,h2,h3⟩
  ·exact .inl (cm hm)
  ·rw [Heap.size_push] at h2; exact .inr ⟨h2,h3⟩
 have look:∀ {y},scope.names.lookup y=some .free->∃ c,cenv.cells.lookup y=some c/\X.env.cells.lookup y=some c:=fun {y} hl=>by
  have hy:(y,NameKind.free) ∈ scope.names:=PySem.mem_of_lookup hl
  obtain ⟨c',e'⟩:=mem_lookup (vf (names:=scope.names) (n:=(s.heap.push { cls:= .type "dict",data:= .dict #[] }).objs.size) (uw (cells:=X.env.cells) (acc:=[]) hy))
  rw [<-hcl] at e'
  refine ⟨c',e',?_⟩
  rw [hcl] at e'
  rcases oF (PySem.mem_of_lookup e') with hm | ⟨h1,_,_⟩
  ·exact (cm hm).1
  ·have:=ok.CQ _ h1
   rw [hl] at this; cases this
 have okB:(X.blk s H scope cenv fp).Ok:=by
  refine ⟨I.ok.mod,by show cenv.scope.kind=_; rw [hsc]; exact ok.kind,by show cenv.globals=_; rw [<-hcenv]; exact I.ok.glob,by show cenv.builtins=_; rw [<-hcenv]; exact I.ok.blt,by show s.heap.objs.size<=cenv.locals; rw [hL]; exact Nat.le_refl _,
   fun y z c e1 e2=> ?_,fun y hy=> ?_,fun y c z e=> ?_,I.ok.hd,I.ok.frames,.inl rfl,fun b hb=>⟨?_,fun y c e z=> ?_⟩,I.bs,Nat.le_trans I.ok.bsz I.sz,fun b o e hb=> ?_,fun b hb z=> ?_,I.stack,I.Ru⟩
  ·have e1:cenv.cells.lookup y=some c:=e1
   have e2:cenv.cells.lookup z=some c:=e2
   rw [hcl] at e1 e2
   refine Ax (fun p hp=> ?_) (fun y z c a b=>I.ok.inj y z c (cm a).1 (cm b).1) (PySem.mem_of_lookup e1) (PySem.mem_of_lookup e2)
   rw [Heap.size_push]
   exact Nat.lt_succ_of_lt (cm (y:=p.1) (c:=p.2) hp).2
  ·show ∃ c,cenv.cells.lookup y=some c
   have key:∀ k,cenv.kindOf y=some k->(k = .cell\/k = .free)->∃ c,cenv.cells.lookup y=some c:=fun k hk hk'=>by
    unfold Env.kindOf at hk
    rw [hsc] at hk
    obtain ⟨k',e,r⟩:=tY hk
    have:k' = .cell\/k' = .free:=by
     rcases r with rfl | ⟨rfl,_⟩
     ·exact hk'
     ·exact .inr rfl
    rcases this with rfl | rfl
    ·obtain ⟨c,hm⟩:=Ay (n:=(s.heap.push { cls:= .type "dict",data:= .dict #[] }).objs.size) (acc:=bW X.env.cells scope.names []) (PySem.mem_of_lookup e)
     obtain ⟨c',e'⟩:=mem_lookup hm
     exact ⟨c',by rw [hcl]; exact e'⟩
    ·obtain ⟨c,h1,_⟩:=look e
     exact ⟨c,h1⟩
   rcases hy with hy | hy
   ·exact key _ hy (.inl rfl)
   ·exact key _ hy (.inr rfl)
  ·have z:(scope.names.lookup y == some NameKind.cell)=true:=z
   have z:scope.names.lookup y=some .cell:=by simpa using z
   have e:cenv.cells.lookup y=some c:=e
   rw [hcl] at e
   rcases oF (PySem.mem_of_lookup e) with hm | ⟨_,h2,_⟩
   ·rcases lL hm with hm | ⟨h1,_⟩
    ·cases hm
    ·have q:=ok.CQ _ h1
     rw [z] at q; cases q
   ·rw [Heap.size_push] at h2
    exact Nat.le_of_succ_le h2
  ·show b ≠ cenv.locals
   rw [hL]; exact Nat.ne_of_lt (hfp b hb).2
  ·have e:cenv.cells.lookup y=some c:=e
   rcases mem e with ⟨h1,_⟩ | ⟨h1,_⟩
   ·exact (hfp b hb).1.2.2.2.2.1 y c h1 z
   ·have h2:s.heap.objs.size + 1<=b:=by rw [<-z]; exact h1
    exact absurd (Nat.lt_of_lt_of_le (hfp b hb).2 (Nat.le_of_succ_le h2)) (Nat.lt_irrefl _)
  ·rcases (hfp b hb).1.2.2.2.1 with z | z
   ·exact I.ok.Wg b o e z
   ·exact absurd (Nat.lt_of_lt_of_le (Heap.lt_size e) (Nat.le_trans I.ok.bsz z)) (Nat.lt_irrefl _)
  ·rcases List.mem_cons.mp (I.PL b z) with z | z
   ·exact (hfp b hb).1.2.1 z
   ·exact (hfp b hb).1.2.2.1 z
 refine ⟨okB,rfl,I.bare,Un.kept kp,⟨fun _=>none,?_,fun i y av e1 e2 e3=> ?_⟩,fun y c e=> ?_,?_,fun y c e=> ?_,fun p hp=> ?_,I.hok.kept kp,by rw [rH]; exact I.len⟩
 ·show Heap.Ns _ cenv.locals _
  rw [hL]
  exact Heap.Ns.keeps (Heap.Ns.new ..) fun b o e=>pushCells_keeps _ _ _ _ e
 ·obtain ⟨e2,hne⟩:=zQ e2
  have hfr:scope.names.lookup y=some .free/\(cenv.kindOf y=some .cell\/cenv.kindOf y=some .free):=by
   have key:∀ k,cenv.scope.names.lookup y=some k->k = .local\/k = .cell\/k = .free->scope.names.lookup y=some .free/\(cenv.kindOf y=some .cell\/cenv.kindOf y=some .free):=fun k hk hk'=>by
    have hk0:=hk
    rw [hsc] at hk
    obtain ⟨k',e,r⟩:=tY hk
    have no:¬ (k' = .local\/k' = .cell):=fun hh=>by
     rcases ok.own _ (PySem.mem_of_lookup e) hh with e' | e'
     ·obtain ⟨p,hp,hpy⟩:=List.mem_map.mp e'
      have e3:=ok.ix p hp
      have:p.1=y:=hpy
      rw [this] at e3
      exact hne (List.mem_map.mpr ⟨p,hp,Fd hN e3 e1⟩)
     ·exact e' (List.mem_of_getElem? e1)
    rcases r with rfl | ⟨rfl,rfl⟩
    ·rcases hk' with rfl | rfl | rfl
     ·exact absurd (.inl rfl) no
     ·exact absurd (.inr rfl) no
     ·exact ⟨e,.inr hk0⟩
    ·exact ⟨e,.inl hk0⟩
   have e3:Vis cenv.scope y:=e3
   rcases e3 with e3 | e3 | e3
   ·exact key _ e3 (.inl rfl)
   ·exact key _ e3 (.inr (.inl rfl))
   ·exact key _ e3 (.inr (.inr rfl))
  obtain ⟨m,hn,hl⟩:=I.loc
  have hvis:Vis X.env.scope y:=(ok.free _ (PySem.mem_of_lookup hfr.1) rfl).elim (fun k=> .inr (.inl k)) (fun k=> .inr (.inr k))
  obtain ⟨w,r,q⟩:=hl i y av e1 e2 hvis
  refine ⟨w,r,.inr ⟨hfr.2,?_⟩⟩
  obtain ⟨c,h1,h2⟩:=look hfr.1
  rcases q with ⟨k,_⟩ | ⟨_,c',e',z⟩
  ·have k:X.env.scope.names.lookup y=some .local:=k
   rcases ok.free _ (PySem.mem_of_lookup hfr.1) rfl with k' | k' <;> rw [show X.env.scope.names.lookup y=_ from k'] at k <;> cases k
  ·rw [h2] at e'; cases e'
   exact ⟨c,h1,z.keeps kp⟩
 ·have e:cenv.cells.lookup y=some c:=e
  rcases mem e with ⟨h1,_⟩ | ⟨_,z⟩
  ·obtain ⟨w,z⟩:=I.cell y c h1
   exact ⟨w,z.keeps kp⟩
  ·exact ⟨_,z⟩
 ·show H cenv.locals=none
  rw [hL]; exact I.hok.fresh (Nat.le_refl _)
 ·have e:cenv.cells.lookup y=some c:=e
  rcases mem e with ⟨h1,_⟩ | ⟨h1,_⟩
  ·exact I.lF y c h1
  ·exact I.hok.fresh (Nat.le_of_succ_le h1)
 ·exact absurd (show p ∈ ([]:List (Addr × Obj))++[] from hp) (by simp)
theorem abE {E:Value->Shared->Prop} {D:Addr} {xs:List V} {y:V} {v:Value} {Q:Value->Shared->Prop} (I:Inv X pins σ H s) (hD:H D=some (.lst xs)) (hz:xs.length < sizeLine) (r:RelV y v)
  (h:∀ s',Inv X pins σ (upd H D (.lst (xs++[y]))) s'->Q .none s'):wpAny (model X.prog X.w) X.A (call (.builtin "list.append") [.ref D,v]) Q E s:=by
 obtain ⟨hz',its,n,ri,e⟩:=I.hok D _ hD
 have hl:=ri.length
 refine append_at (hsz:=by rw [List.size_toArray]; omega) e fun h' sb ho'=> ?_
 refine h { s with heap:=h' } (I.write (t':=s.toks) (by rw [hD]; trivial) (.inl rfl) (fun b u hb q=>(sb.2 b hb).trans q) ⟨_,ho'⟩ ⟨by rw [List.length_append]; exact hz,its++[v],n + 1,ri.append (.cons r .nil),?_⟩)
 rw [ho']
 simp
def PTs (X:Cx) (ifs:List Expr) (t:TT):Prop :=
 ∀ (pins:List (Addr × Obj)) (s:Shared) (σ : St) (H:Hp) (Q:Bool->Hp->Prop),Inv X pins σ H s->t σ H Q ->
  wpAny (model X.prog X.w) X.A (forIn ifs true fun c r=>if r=true then do let ok <- isTrue c X.env (eval c X.env); pure (ForInStep.yield ok) else pure (ForInStep.yield r)) (TP X pins σ Q) X.xe s
def tYes:TT:=fun _ H Q=>Q true H
theorem cF:PTs X [] tYes:=fun _ _ _ H _ I h=>wpAny_tests_nil ⟨H,I,h⟩
theorem uW {c:Expr} {t:TT} (h:PT X c t):PTs X [c] t:=fun pins s σ H Q I hw=>wpAny_tests_one (h pins s σ H Q I hw)
end
theorem Tj {α : Type} {t:Sem α} {Q Q' : α -> Shared->Prop} {M:Model} {A:Around} {E:Value->Shared->Prop} {s:Shared} (h:wpAny M A t Q (fun _ _=>False) s) (hQ:∀ a s,Q a s->Q' a s):wpAny M A t Q' E s:=wpAny_mono h hQ fun _ _ z=>False.elim z
theorem Le {prog:Program} {w:World} {A:Around} {R:Result->Shared->Prop} {s:Shared} {elt target iter:Expr} {ifs:List Expr} {scope:Scope} {pos:Pos} {it acc:Value} {env:Env} (I:Nat->Shared->Prop)
    (turn:∀ n s,I n s->wpAny (model prog w) A (pyNext it) (fun r s₁ => match r with
      | none=>R (.ok .next) s₁
      | some v=>wpAny (model prog w) A (letOwnedTupleGo target it v) (fun _ s₁'=>wpAny (model prog w) A (assign target env v) (fun _ s₂ =>
          wpAny (model prog w) A (forIn ifs true fun c r=>if r=true then do let ok <- isTrue c env (eval c env); pure (ForInStep.yield ok) else pure (ForInStep.yield r)) (fun ok s₃ =>
            if ok=true then wpAny (model prog w) A (eval elt env) (fun x s₄ =>
              wpAny (model prog w) A (call (.builtin "list.append") [acc,x]) (fun _ s₅ => ∃ m,m < n/\I m s₅) (notedBy (model prog w) A env fun e s'=>R (.error e) s') s₄) (notedBy (model prog w) A env fun e s'=>R (.error e) s') s₃
            else ∃ m,m < n/\I m s₃) (notedBy (model prog w) A env fun e s'=>R (.error e) s') s₂) (notedBy (model prog w) A env fun e s'=>R (.error e) s') s₁') (notedBy (model prog w) A env fun e s'=>R (.error e) s') s₁) (notedBy (model prog w) A env fun e s'=>R (.error e) s') s)
    (n:Nat) (h:I n s) :
    codeAny (model prog w) A (.compLoop (.ListComp elt [⟨target,iter,ifs,0⟩] scope pos) 0 it acc env) R s:=by
  refine codeAny_loop rfl I (fun n s hI=> ?_) n h
  show wpAny _ A ((compTurn (.ListComp elt [⟨target,iter,ifs,0⟩] scope pos) 0 it acc env).onRaise (fun x=>do noteFrame x env; theTreesLotGoes x)) _ _ s
  refine wpAny_noted ?_
  rw [compTurn_list]
  refine wpAny_bind (wpAny_standAt (wpAny_bind (wpAny_mono (turn n s hI) (fun r s₁ h₁ => ?_) fun _ _ h'=>h')))
  cases r with
  | none=>exact wpAny_pure h₁
  | some v =>
    refine wpAny_bind (wpAny_mono h₁ (fun _ s₁' h₁'=> ?_) fun _ _ h'=>h')
    refine wpAny_bind (wpAny_mono h₁' (fun _ s₂ h₂ => wpAny_bind (wpAny_mono h₂ (fun ok s₃ h₃ => ?_) fun _ _ h'=>h')) fun _ _ h'=>h')
    cases ok with
    | false=>exact wpAny_pure ⟨rfl,h₃⟩
    | true =>
      exact wpAny_bind (wpAny_bind (wpAny_mono h₃ (fun x s₄ h₄ => wpAny_bind (wpAny_mono h₄ (fun _ s₅ h₅ => wpAny_pure (wpAny_pure ⟨rfl,h₅⟩)) fun _ _ h'=>h')) fun _ _ h'=>h'))
section
variable {X:Cx}
def tLc (wi:TI) (g:TG) (tt:TT) (te:TE) (vs:List Nat):TE:=fun σ H Q=>wi σ H fun J H1=>∀ D,H1 D=none->∃ W:Nat->Nat->Hp->Prop,(∃ m,W 0 m (upd H1 D (.lst [])))/\∀ i m H,W i m H ->
  (J.stop i H/\Q (.ref D) H)\/(J.go i H/\∃ Nx:Hp->Prop,(∀ H',Nx H'->∃ m',m' < m/\W (i + 1) m' H')/\∀ x H',J.yld i H x H'->g x (wipe σ vs) H' fun σ2 H2=>wipe σ2 vs=wipe σ vs/\tt σ2 H2 fun b H3 =>
    if b=true then te σ2 H3 fun y H4=>∃ acc,H4 D=some (.lst acc)/\acc.length < sizeLine/\Nx (upd H4 D (.lst (acc++[y]))) else Nx H3)
theorem RX {pins:List (Addr × Obj)} {s:Shared} {σ : St} {H:Hp} {Q:VK} {elt tg iter:Expr} {ifs:List Expr} {scope:Scope} {own:List (Str × Nat)} {pos pos':Pos} {wi:TI} {g:TG} {tt:TT} {te:TE} {use:Option (Value->Sem Unit)} {Qf:Value->Shared->Prop}
  (hc:X.calm=true) (hN:X.N.Nodup) (I:Inv X pins σ H s) (hi:PI X tg iter wi) (ok:O9 X.N X.env.scope scope own)
  (hg:∀ (s:Shared) (H:Hp) (C:Addr) (cl:List (Str × Addr)) (fp:List Addr),PG (X.blk s H scope (compEnvC scope cl C X.env) fp) tg g) (ht:∀ (s:Shared) (H:Hp) (C:Addr) (cl:List (Str × Addr)) (fp:List Addr),PTs (X.blk s H scope (compEnvC scope cl C X.env) fp) ifs tt)
  (he:∀ (s:Shared) (H:Hp) (C:Addr) (cl:List (Str × Addr)) (fp:List Addr),PE (X.blk s H scope (compEnvC scope cl C X.env) fp) elt te) (hs:∀ x,foldedSetIterable iter X.env x=pure x)
  (h:tLc wi g tt te (own.map (·.2)) σ H Q)
  (hRR:∀ D C s' m H',Inv X pins σ H' s'->Q (.ref D) H'->s'.heap.Ns C m->zp X pins H' C->compPost (model X.prog X.w) X.A X.xe use Qf (.ref D) C (.ok .next) s') :
  wpAny (model X.prog X.w) X.A (comprehension (.ListComp elt [⟨tg,iter,ifs,0⟩] scope pos) scope X.env pos' (newList []) false (eval iter X.env) use) Qf X.xe s:=by
 have hfree:∀ y ∈ scope.names,y.2 = .free->∃ c,X.env.cells.lookup y.1=some c:=fun y hy e=>by
  rcases ok.free y hy e with k | k
  ·exact I.ok.has _ (.inl k)
  ·exact I.ok.has _ (.inr k)
 refine wpAny_comprehension_free (use:=use) rfl hs (QS hfree) ok.kind (fun y hy e=>by rw [ok.CQ y hy,e])
  (thn (hi pins s σ H _ I h) fun xv s1 hx=>thn hx fun itv s2 h2=> ?_)
 obtain ⟨it,fp,tn,J,H2,e,I2,T,st2,f2,q⟩:=h2
 subst e
 refine wpAny_newObj_type (M9 ?_) (by show 0<=sizeLine; decide)
 generalize hD:s2.heap.objs.size=D
 have hDn:H2 D=none:=I2.hok.fresh (Nat.le_of_eq hD)
 obtain ⟨W,⟨m0,w0⟩,turn⟩:=q D hDn
 generalize hs3:({ s2 with heap:=s2.heap.push { cls:= .type "list",data:= .seq ([]:List Value).toArray } }:Shared)=s3
 have I3:Inv X pins σ (upd H2 D (.lst [])) s3:=by
  rw [<-hs3]
  refine I2.laid (t':=s2.toks) (fun b o e=>Heap.get?_push_of_some _ e) (Nat.le_of_eq hD) ⟨Nat.zero_le _,[],0,.nil,?_⟩
  rw [<-hD]
  exact Heap.get?_push_size _ rfl
 have h3:s3.heap=s2.heap.push { cls:= .type "list",data:= .seq ([]:List Value).toArray }:=by rw [<-hs3]
 have sz:∀ b ∈ fp,b < s2.heap.objs.size:=fun b hb=>by
  obtain ⟨o,e,_⟩:=T.obj _ _ st2 b hb
  exact Heap.lt_size e
 have f3:∀ b ∈ fp,zp X pins (upd H2 D (.lst [])) b/\b < s3.heap.objs.size:=fun b hb=>by
  have hlt:=sz b hb
  refine ⟨⟨?_,(f2 b hb).2⟩,by rw [h3,Heap.size_push]; exact Nat.lt_succ_of_lt hlt⟩
  rw [ak (by rw [<-hD]; exact Nat.ne_of_lt hlt)]
  exact (f2 b hb).1
 have st3:tn 0 s3.heap:=T.keep _ _ _ st2 fun b _ o e=>by rw [h3]; exact Heap.get?_push_of_some _ e
 have I4:=OD I3 ok hN f3
 have pg:=hg s3 (upd H2 D (.lst [])) s3.heap.objs.size (cellsFrom (s3.heap.objs.size + 1) scope.names (bW X.env.cells scope.names [])) fp
 have pt:=ht s3 (upd H2 D (.lst [])) s3.heap.objs.size (cellsFrom (s3.heap.objs.size + 1) scope.names (bW X.env.cells scope.names [])) fp
 have pe:=he s3 (upd H2 D (.lst [])) s3.heap.objs.size (cellsFrom (s3.heap.objs.size + 1) scope.names (bW X.env.cells scope.names [])) fp
 show codeAny _ _ (.compStart (.ListComp elt [⟨tg,iter,ifs,0⟩] scope pos) 0 (.ref it) (.ref D) (compEnvC scope (cellsFrom (s3.heap.objs.size + 1) scope.names (bW X.env.cells scope.names [])) s3.heap.objs.size X.env)) (compPost (model X.prog X.w) X.A X.xe use Qf (.ref D) s3.heap.objs.size) { s3 with heap:=pushCells (s3.heap.push { cls:= .type "dict",data:= .dict #[] }) scope.names }
 have nfp:∀ b ∈ fp,(upd H2 D (.lst [])) b=none:=fun b hb=>(f3 b hb).1.1
 generalize hce:compEnvC scope (cellsFrom (s3.heap.objs.size + 1) scope.names (bW X.env.cells scope.names [])) s3.heap.objs.size X.env=ce at I4 pg pt pe ⊢
 have cL:ce.locals=s3.heap.objs.size:=by subst hce; rfl
 generalize hH3:upd H2 D (.lst [])=H3 at I3 I4 pg pt pe w0 nfp f3
 generalize hs4:({ s3 with heap:=pushCells (s3.heap.push { cls:= .type "dict",data:= .dict #[] }) scope.names }:Shared)=s4 at I4 ⊢
 have st4:tn 0 s4.heap:=T.keep _ _ _ st3 fun b _ o e=>by rw [<-hs4]; exact pushCells_keeps _ _ _ _ (Heap.get?_push_of_some _ e)
 have stat:∀ {σ':St} {H':Hp} {s':Shared},Inv (X.blk s3 H3 scope ce fp) [] σ' H' s'->(∀ b ∈ fp,H' b=none)->∀ b ∈ fp,zp (X.blk s3 H3 scope ce fp) [] H' b:=fun {σ' H' s'} I' hn b hb =>
  ⟨hn b hb,(I'.ok.exf b hb).1,I'.ok.W7 b hb,.inl hb,fun x c e=>(I'.ok.exf b hb).2 x c e,fun p hp=>absurd (show p ∈ ([]:List (Addr × Obj))++[] from hp) (by simp)⟩
 have loop:codeAny (model X.prog X.w) X.A (.compLoop (.ListComp elt [⟨tg,iter,ifs,0⟩] scope pos) 0 (.ref it) (.ref D) ce) (compPost (model X.prog X.w) X.A X.xe use Qf (.ref D) s3.heap.objs.size) s4:=by
  refine Le (fun n s'=>∃ i H',Inv (X.blk s3 H3 scope ce fp) [] (wipe σ (own.map (·.2))) H' s'/\tn i s'.heap/\(∀ b ∈ fp,H' b=none)/\W i n H') ?_ m0 ⟨0,H3,I4,st4,nfp,w0⟩
  rintro n s5 ⟨i,H5,I5,st5,n5,w5⟩
  rcases turn i n H5 w5 with ⟨stop,qq⟩ | ⟨go,Nx,hNx,step⟩
  ·have td:=T.done (X.blk s3 H3 scope ce fp) rfl rfl rfl hc i [] s5 _ H5 (fun _ _=>False) I5 (stat I5 n5) st5 stop
   refine Tj td fun r s6 ⟨hr,I6⟩=> ?_
   subst hr
   have I7:Inv X pins σ H5 s6:=I3.call' (ch:=fp) I6.os I6.base I6.hok I6.bare fun b hb=>⟨(f3 b hb).1.2.2.2.1,(f3 b hb).1.2.1,(f3 b hb).1.2.2.2.2.1,(f3 b hb).1.2.2.2.2.2⟩
   have nC:H5 s3.heap.objs.size=none:=by
    have z:H5 ce.locals=none:=I6.free
    rw [cL] at z
    exact z
   obtain ⟨m,hn,_⟩:=I6.loc
   have hn:s6.heap.Ns ce.locals m:=hn
   rw [cL] at hn
   exact hRR D s3.heap.objs.size s6 m H5 I7 qq hn (I3.Dj (Nat.le_refl _) nC)
  ·have ti:=T.item (X.blk s3 H3 scope ce fp) rfl rfl rfl hc i [] s5 _ H5 (fun _ _=>False) I5 (stat I5 n5) st5 go
   refine Tj ti fun r s6 ⟨u,hr,h6⟩=> ?_
   subst hr
   refine Tj h6 fun _ s7 ⟨x,H7,I7,r7,y7,st7,n7⟩=> ?_
   have I7':=I7.pinned (stat I7 n7) (T.obj _ _ st7)
   refine Tj (pg _ s7 _ H7 x u _ I7' r7 (step x H7 y7)) fun _ s8 ⟨σ8,H8,I8,hw8,q8⟩=> ?_
   refine Tj (pt _ s8 σ8 H8 _ I8 q8) fun b s9 ⟨H9,I9,q9⟩=> ?_
   have fin:∀ {s':Shared} {H':Hp},Inv (X.blk s3 H3 scope ce fp) ([]++El fp s7.heap) σ8 H' s'->Nx H'->∃ m,m < n/\∃ i H',Inv (X.blk s3 H3 scope ce fp) [] (wipe σ (own.map (·.2))) H' s'/\tn i s'.heap/\(∀ b ∈ fp,H' b=none)/\W i m H':=fun {s' H'} I' nx=>by
    obtain ⟨m',hm,w'⟩:=hNx H' nx
    have pin':∀ b ∈ fp,∀ o,s7.heap.get? b=some o->s'.heap.get? b=some o/\H' b=none:=fun b hb o e =>
     let z:=I'.pin (b,o) (List.mem_append_right _ (List.mem_append_right _ (j8 hb e)))
     ⟨z.1,z.2.1⟩
    have hl:(wipe σ (own.map (·.2))).length = σ8.length:=by rw [<-hw8,rH]
    refine ⟨m',hm,i + 1,H',(I'.rN (pins:=[])).weak hl (fun j v e=> ?_),T.keep _ _ _ st7 fun b hb o e=>(pin' b hb o e).1,fun b hb=> ?_,w'⟩
    ·rw [<-hw8] at e
     exact (zQ e).1
    ·obtain ⟨o,e,_⟩:=T.obj _ _ st7 b hb
     exact (pin' b hb o e).2
   cases b with
   | false =>
    simp only [Bool.false_eq_true,if_false] at q9 ⊢
    exact fin I9 q9
   | true =>
    simp only [if_true] at q9 ⊢
    refine Tj (pe _ s9 σ8 H9 _ I9 q9) fun z s10 ⟨yv,H10,I10,r10,acc,hD10,hz10,nx⟩=> ?_
    exact abE (X:=X.blk s3 H3 scope ce fp) I10 hD10 hz10 r10 fun s11 I11=>fin I11 nx
 exact codeAny_compStart_list loop (T.self X.A 0 _ _ _ st4 loop)
theorem jk {elt tg iter:Expr} {ifs:List Expr} {scope:Scope} {own:List (Str × Nat)} {pos:Pos} {wi:TI} {g:TG} {tt:TT} {te:TE} (hc:X.calm=true) (hN:X.N.Nodup) (hi:PI X tg iter wi) (ok:O9 X.N X.env.scope scope own)
  (hg:∀ (s:Shared) (H:Hp) (C:Addr) (cl:List (Str × Addr)) (fp:List Addr),PG (X.blk s H scope (compEnvC scope cl C X.env) fp) tg g) (ht:∀ (s:Shared) (H:Hp) (C:Addr) (cl:List (Str × Addr)) (fp:List Addr),PTs (X.blk s H scope (compEnvC scope cl C X.env) fp) ifs tt)
  (he:∀ (s:Shared) (H:Hp) (C:Addr) (cl:List (Str × Addr)) (fp:List Addr),PE (X.blk s H scope (compEnvC scope cl C X.env) fp) elt te) (hs:∀ x,foldedSetIterable iter X.env x=pure x:=by intro _; rfl) :
  PE X (.ListComp elt [⟨tg,iter,ifs,0⟩] scope pos) (tLc wi g tt te (own.map (·.2))):=by
 intro pins s σ H Q I h
 rw [eval_ListComp]
 refine RX hc hN I hi ok hg ht he hs h fun D C s' m H' I' q hn f=>⟨m,hn,fun h'' sb=> ?_⟩
 obtain ⟨f0,f1,f2,f3,f4,f5⟩:=f
 exact ⟨.ref D,H',I'.turned (t':=s'.toks) (fun b o hb e=>(sb.2 b hb).trans e) f0 f1 f3 f4 f5,rfl,q⟩
theorem ji {i:Nat} {y:Str} {py:Pos} {elt tg iter:Expr} {ifs:List Expr} {scope:Scope} {own:List (Str × Nat)} {pos spos:Pos} {wi:TI} {g:TG} {tt:TT} {te:TE} (hc:X.calm=true) (hN:X.N.Nodup) (hy:X.N[i]? = some y) (hyl:X.env.scope.names.lookup y=some .local)
  (hsw:swapsWith (.ListComp elt [⟨tg,iter,ifs,0⟩] scope pos) (some (.Name y py)) spos.line X.env=pure true) (hi:PI X tg iter wi) (ok:O9 X.N X.env.scope scope own)
  (hg:∀ (s:Shared) (H:Hp) (C:Addr) (cl:List (Str × Addr)) (fp:List Addr),PG (X.blk s H scope (compEnvC scope cl C X.env) fp) tg g) (ht:∀ (s:Shared) (H:Hp) (C:Addr) (cl:List (Str × Addr)) (fp:List Addr),PTs (X.blk s H scope (compEnvC scope cl C X.env) fp) ifs tt)
  (he:∀ (s:Shared) (H:Hp) (C:Addr) (cl:List (Str × Addr)) (fp:List Addr),PE (X.blk s H scope (compEnvC scope cl C X.env) fp) elt te) (hs:∀ x,foldedSetIterable iter X.env x=pure x:=by intro _; rfl) :
  PS X (.Assign [.Name y py] (.ListComp elt [⟨tg,iter,ifs,0⟩] scope pos) spos) (tAsg (tLc wi g tt te (own.map (·.2))) (yp i)):=by
 intro pins s σ H D I h
 rw [exec_Assign_Name_used _ _ _ _ hsw]
 refine wpAny_bind (wpAny_standAt (wpAny_bind ?_))
 show wpAny _ X.A (do let _ <- comprehension (.ListComp elt [⟨tg,iter,ifs,0⟩] scope pos) scope X.env (firstIterPos [⟨tg,iter,ifs,0⟩] pos) (newList []) false (eval iter X.env) (some (assign (.Name y py) X.env))) _ _ s
 have h:tLc wi g tt te (own.map (·.2)) σ H (fun x H1=>yp i x σ H1 D.nx):=h
 refine wpAny_bind (thn (RX (Qf:=fun _ s'=>SP X pins D .next s') hc hN I hi ok hg ht he hs h fun L C s' m H' I' q hn f=> ?_) fun _ s' hq=>wpAny_pure (wpAny_pure hq))
 show wpAny _ _ (assign (.Name y py) X.env (.ref L)) _ _ _
 refine wpAny_assign_Name (Ij (v:=V.ref L) I' hN hy (.inl hyl) rfl (fun s2 I2 ⟨a,sb,ha⟩=> ?_) (.inr hyl))
 obtain ⟨f0,f1,f2,f3,f4,f5⟩:=f
 have haC:C ≠ a:=by
  rcases ha with z | z
  ·rw [z]; exact f1
  ·exact fun e=>f4 y a z e.symm
 refine ⟨m,hn.sameBut sb haC,fun h3 sb3=> ?_⟩
 exact ⟨_,H',I2.turned (t':=s2.toks) (fun b o hb e=>(sb3.2 b hb).trans e) f0 f1 f3 f4 f5,q⟩
theorem kZ {elt:Expr} {gs:List Comprehension} {scope:Scope} {pos py:Pos} {y:Str} {l:Nat} {env:Env} (hk:env.scope.kind = .function) (hy:env.scope.names.lookup y=some .local) (hl:(py.line == pos.line)=true)
  (ha:(scope.names.any fun (n,k)=>n == y && (k == .local || k == .cell))=false):swapsWith (.ListComp elt gs scope pos) (some (.Name y py)) l env=pure true:=by
 have ky:env.kindOf y=some .local:=hy
 have hb:env.blockKind = .function:=by unfold Env.blockKind; rw [hk]; rfl
 unfold swapsWith
 simp only [hb,ky,ha,Expr.pos,hl]
 rfl
end
theorem YT {K:PySem.W.Frag} {a:Addr} {xs:List V} {g:TG} {tt:TT} {te:TE} {vs:List Nat} {σ : St} {H1:Hp} {D:Addr} {Qd:Hp->Prop} (Pv:Nat->Hp->Prop) (h0:Pv 0 (upd H1 D (.lst []))) (hl:∀ i H,i<=xs.length->Pv i H->SqL K H a xs)
    (hs:∀ i x H,xs[i]? = some x->Pv i H->g x (wipe σ vs) H fun σ2 H2=>wipe σ2 vs=wipe σ vs/\tt σ2 H2 fun b H3 =>
      if b=true then te σ2 H3 fun y H4=>∃ acc,H4 D=some (.lst acc)/\acc.length < sizeLine/\Pv (i + 1) (upd H4 D (.lst (acc++[y]))) else Pv (i + 1) H3) (hd:∀ H,Pv xs.length H->Qd H) :
    ∃ W:Nat->Nat->Hp->Prop,(∃ m,W 0 m (upd H1 D (.lst [])))/\∀ i m H,W i m H ->
      ((Itl K a).stop i H/\Qd H)\/((Itl K a).go i H/\∃ Nx:Hp->Prop,(∀ H',Nx H'->∃ m',m' < m/\W (i + 1) m' H')/\∀ x H',(Itl K a).yld i H x H'->g x (wipe σ vs) H' fun σ2 H2=>wipe σ2 vs=wipe σ vs/\tt σ2 H2 fun b H3 =>
        if b=true then te σ2 H3 fun y H4=>∃ acc,H4 D=some (.lst acc)/\acc.length < sizeLine/\Nx (upd H4 D (.lst (acc++[y]))) else Nx H3):=by
  refine ⟨fun i m H=>m=xs.length - i/\i<=xs.length/\Pv i H,⟨xs.length,by simp,Nat.zero_le _,h0⟩,?_⟩
  rintro i m H ⟨rfl,hi,p⟩
  have q:=hl i H hi p
  by_cases hlt:i < xs.length
  · refine .inr ⟨⟨xs,xs[i],q,by simp [hlt]⟩,Pv (i + 1),fun H' p'=>⟨xs.length - (i + 1),by omega,rfl,hlt,p'⟩,fun x H' y=> ?_⟩
    obtain ⟨e,y⟩:=y
    subst e
    exact hs i x _ (y xs q) p
  · have e:i=xs.length:=by omega
    subst e
    exact .inl ⟨⟨xs,q,Nat.le_refl _⟩,hd H p⟩
def blkC (N:List Str) (sc scope:Scope) (own:List (Str × Nat)):Bool :=
  (match scope.kind with | .function=>true | _=>false) && (scope.names.all fun y=>decide (scope.names.lookup y.1=some y.2)) && (own.all fun p=>decide (N[p.2]? = some p.1)) &&
    (scope.names.all fun y=>match y.2 with
      | .free=>(match sc.names.lookup y.1 with | some .cell=>true | some .free=>true | _=>false)
      | .local=>decide (y.1 ∈ own.map (·.1)) || decide (y.1 ∉ N)
      | .cell=>decide (y.1 ∈ own.map (·.1)) || decide (y.1 ∉ N)
      | _=>true)
theorem bu {N:List Str} {sc scope:Scope} {own:List (Str × Nat)} (h:blkC N sc scope own=true):O9 N sc scope own:=by
 unfold blkC at h
 simp only [Bool.and_eq_true,List.all_eq_true,decide_eq_true_eq] at h
 obtain ⟨⟨⟨h1,h2⟩,h3⟩,h4⟩:=h
 refine ⟨?_,h2,h3,fun y hy e=> ?_,fun y hy e=> ?_⟩
 ·split at h1
  ·assumption
  ·cases h1
 ·have q:=h4 y hy
  simp only [e] at q
  split at q <;> first | exact .inl (by assumption) | exact .inr (by assumption) | cases q
 ·have q:=h4 y hy
  rcases e with e | e <;> (simp only [e,Bool.or_eq_true,decide_eq_true_eq] at q; exact q)
section
variable {κ : Type} [DecidableEq κ]
def xu (kvs:List (κ × V)) (k : κ):Option V:=(kvs.find? fun kv=>decide (kv.1=k)).map (·.2)
def putK (kvs:List (κ × V)) (k : κ) (v:V):List (κ × V) :=
 if (kvs.any fun kv=>decide (kv.1=k))=true then kvs.map (fun kv=>if kv.1=k then (kv.1,v) else kv) else kvs++[(k,v)]
theorem rJ {p : κ × V} {r:List (κ × V)} {k : κ} (e:p.1=k):xu (p :: r) k=some p.2:=by simp [xu,List.find?_cons,e]
theorem rK {p : κ × V} {r:List (κ × V)} {k : κ} (e:¬ p.1=k):xu (p :: r) k=xu r k:=by simp [xu,List.find?_cons,e]
theorem DG (k : κ):∀ kvs:List (κ × V),(kvs.any fun kv=>decide (kv.1=k))=(xu kvs k).isSome
 | []=>rfl
 | p :: r=>by
  rw [List.any_cons]
  by_cases e:p.1=k
  ·simp only [rJ e,decide_eq_true e,Bool.true_or,Option.isSome_some]
  ·rw [rK e,decide_eq_false e,Bool.false_or]; exact DG k r
theorem Bm (kvs:List (κ × V)) (k : κ) (v:V):(putK kvs k v).length<=kvs.length + 1:=by
 unfold putK
 split
 ·rw [List.length_map]; omega
 ·rw [List.length_append,List.length_cons,List.length_nil]; omega
theorem VH {kvs:List (κ × V)} {k : κ} (v:V) (h:xu kvs k=none):putK kvs k v=kvs++[(k,v)]:=by
 unfold putK
 rw [DG,h]
 exact if_neg (by decide)
theorem rG.Ak {o:Option V} {u:Option Value} (r:rG o u):o.isSome=u.isSome:=by
 cases o with
 | none=>cases u with
  | none=>rfl
  | some _=>exact (show False from r).elim
 | some _=>cases u with
  | none=>exact (show False from r).elim
  | some _=>rfl
theorem rG.getD {o:Option V} {u:Option Value} {d:V} {d':Value} (r:rG o u) (rd:RelV d d'):RelV (o.getD d) (u.getD d'):=by
 cases o with
 | none=>cases u with
  | none=>exact rd
  | some _=>exact (show False from r).elim
 | some _=>cases u with
  | none=>exact (show False from r).elim
  | some _=>exact r
theorem KV.val {kvs:List (κ × V)} {vs:List (κ × Value)} (r:KV kvs vs) (k : κ):rG (xu kvs k) (valueAt vs k):=by
 unfold KV at r
 induction r with
 | nil=>exact True.intro
 | @cons p q ps qs h t ih =>
  obtain ⟨h1,h2⟩:=h
  by_cases e:p.1=k
  ·have e':q.1=k:=h1.symm.trans e
   have b:valueAt (q :: qs) k=some q.2:=by simp [valueAt,List.find?_cons,e']
   rw [rJ e,b]; exact h2
  ·have e':¬ q.1=k:=fun z=>e (h1.trans z)
   have b:valueAt (q :: qs) k=valueAt qs k:=by simp [valueAt,List.find?_cons,e']
   rw [rK e,b]; exact ih
theorem KV.any {kvs:List (κ × V)} {vs:List (κ × Value)} (r:KV kvs vs) (k : κ):(kvs.any fun kv=>decide (kv.1=k))=vs.any fun kv=>decide (kv.1=k):=by
 unfold KV at r
 induction r with
 | nil=>rfl
 | cons h t ih=>rw [List.any_cons,List.any_cons,ih,h.1]
theorem KV.repl {kvs:List (κ × V)} {vs:List (κ × Value)} (r:KV kvs vs) (k : κ) {y:V} {u:Value} (ry:RelV y u) :
  KV (kvs.map fun kv=>if kv.1=k then (kv.1,y) else kv) (vs.map fun kv=>if kv.1=k then (kv.1,u) else kv):=by
 unfold KV at r ⊢
 induction r with
 | nil=>exact .nil
 | @cons p q ps qs h t ih =>
  rw [List.map_cons,List.map_cons]
  refine .cons ?_ ih
  obtain ⟨h1,h2⟩:=h
  by_cases e:p.1=k
  ·rw [if_pos e,if_pos (h1.symm.trans e)]; exact ⟨h1,ry⟩
  ·rw [if_neg e,if_neg (fun z=>e (h1.trans z))]; exact ⟨h1,h2⟩
theorem KV.put {kvs:List (κ × V)} {vs:List (κ × Value)} (r:KV kvs vs) (k : κ) {y:V} {u:Value} (ry:RelV y u):KV (putK kvs k y) (stored vs k u):=by
 unfold putK stored
 rw [r.any k]
 by_cases e:(vs.any fun kv=>decide (kv.1=k))=true
 ·rw [if_pos e,if_pos e]; exact r.repl k ry
 ·rw [if_neg e,if_neg e]; exact Paired.snoc r ⟨rfl,ry⟩
theorem KV.length {kvs:List (κ × V)} {vs:List (κ × Value)} (r:KV kvs vs):kvs.length=vs.length:=Paired.length r
end
theorem R3 {P:Program} {w:World} {k:Key} {u:Value} (r:RelV (kV k) u):(cT P w).is k u=true:=by
 cases k with
 | inl i=>obtain ⟨t,e⟩:=(show ∃ t,u=Value.int i t from r); subst e; exact Ng P w i t
 | inr x=>obtain ⟨t,e⟩:=(show ∃ t,u=Value.str x t from r); subst e; exact Nf P w x t
theorem Jg {P:Program} {w:World}:∀ {ks:List Key} {us:List Value},Vals (ks.map kV) us->ItemsAre (cT P w) ks us
 | [],_,r=>by rw [List.map_nil] at r; cases r; exact .nil
 | k :: ks,_,r=>by
  rw [List.map_cons] at r
  cases r with
  | cons h t=>exact .cons (R3 h) (Jg t)
abbrev KT (H:Hp):List (List Key × V)->List (List Key × Addr × Value)->Prop:=Paired fun p q=>p.1=q.1/\H q.2.1=some (.tup (p.1.map kV))/\RelV p.2 q.2.2
theorem KT.val {H:Hp} {kvs:List (List Key × V)} {xs:List (List Key × Addr × Value)} (r:KT H kvs xs) (k:List Key):rG (xu kvs k) ((atKey xs k).map (·.2)):=by
 induction r with
 | nil=>exact True.intro
 | @cons p q ps qs h t ih =>
  obtain ⟨h1,_,h2⟩:=h
  by_cases e:p.1=k
  ·have e':q.1=k:=h1.symm.trans e
   have b:atKey (q :: qs) k=some q.2:=by simp [atKey,List.find?_cons,e']
   rw [rJ e,b]; exact h2
  ·have e':¬ q.1=k:=fun z=>e (h1.trans z)
   have b:atKey (q :: qs) k=atKey qs k:=by simp [atKey,List.find?_cons,e']
   rw [rK e,b]; exact ih
theorem KT.repl {H:Hp} {kvs:List (List Key × V)} {xs:List (List Key × Addr × Value)} (r:KT H kvs xs) (k:List Key) {y:V} {u:Value} (ry:RelV y u) :
  KT H (kvs.map fun kv=>if kv.1=k then (kv.1,y) else kv) (xs.map (putAt k u)):=by
 induction r with
 | nil=>exact .nil
 | @cons p q ps qs h t ih =>
  rw [List.map_cons,List.map_cons]
  refine .cons ?_ ih
  obtain ⟨h1,h2,h3⟩:=h
  unfold putAt
  by_cases e:p.1=k
  ·rw [if_pos e,if_pos (h1.symm.trans e)]; exact ⟨h1,h2,ry⟩
  ·rw [if_neg e,if_neg (fun z=>e (h1.trans z))]; exact ⟨h1,h2,h3⟩
theorem KT.put {H:Hp} {kvs:List (List Key × V)} {xs:List (List Key × Addr × Value)} (r:KT H kvs xs) (k:List Key) {b:Addr} {y:V} {u:Value} (hb:H b=some (.tup (k.map kV))) (ry:RelV y u) :
  KT H (putK kvs k y) (storedH xs k b u):=by
 have e:(kvs.any fun kv=>decide (kv.1=k))=(atKey xs k).isSome:=by
  rw [DG,(r.val k).Ak,Option.isSome_map]
 unfold putK storedH
 rw [e]
 by_cases q:(atKey xs k).isSome=true
 ·rw [if_pos q,if_pos q]; exact r.repl k ry
 ·rw [if_neg q,if_neg q]; exact Paired.snoc r ⟨rfl,hb,ry⟩
theorem KT.keeps {H H':Hp} {kvs:List (List Key × V)} {xs:List (List Key × Addr × Value)} (r:KT H kvs xs) (ht:∀ b ys,H b=some (.tup ys)->H' b=some (.tup ys)):KT H' kvs xs :=
 Paired.mapP r fun _ _ z=>⟨z.1,ht _ _ z.2.1,z.2.2⟩
section
variable {P:Program} {w:World} {H:Hp} {h:Heap} {a:Addr}
theorem Z3 {u:HO} (ok:HOk P w H h) (e:Rd H a u):cO P w H h a u:=e.ok ok
theorem Oo {kvs:List (Key × V)} (ok:HOk P w H h) (e:Rd H a (.dK kvs)):kvs.length<=sizeLine/\(a == sysModules)=false/\∃ vs,KV kvs vs/\h.DictOf (cT P w) a vs :=
 show cO P w H h a (.dK kvs) from Z3 ok e
theorem dk_of {kvs:List (Key × V)} (ok:HOk P w H h) (e:H a=some (.dK kvs)):kvs.length<=sizeLine/\(a == sysModules)=false/\∃ vs,KV kvs vs/\h.DictOf (cT P w) a vs:=Oo ok (.inl e)
theorem Kv {ks:List Key} (ok:HOk P w H h) (e:H a=some (.tup (ks.map kV))):(tupleKind (cT P w)).is h ks a:=by
 obtain ⟨_,its,r,o,h1,h2,n,h3⟩:=(show cO P w H h a (.tup (ks.map kV)) from ok a _ e)
 exact ⟨o,its.toArray,n,h1,h2,h3,by simpa using Jg r⟩
theorem Sg {kvs:List (List Key × V)} (ok:HOk P w H h) (e:Rd H a (.dT kvs)):kvs.length<=sizeLine/\(a == sysModules)=false /\
  ∃ xs,KT H kvs xs/\h.DictOfH (tupleKind (cT P w)) a xs:=by
 obtain ⟨z,y,xs,r,o,es,ep,h1,h2,h3,h4,h5⟩:=(show cO P w H h a (.dT kvs) from Z3 ok e)
 refine ⟨z,y,xs,r,o,es,ep,h1,h2,h3,h4,fun x hx=> ?_,h5⟩
 have all:∀ {l:List (List Key × V)} {m:List (List Key × Addr × Value)},KT H l m->∀ x ∈ m,(tupleKind (cT P w)).is h x.1 x.2.1:=by
  intro l m q
  induction q with
  | nil=>intro x hx; exact nomatch hx
  | @cons p q ps qs hq t ih =>
   intro x hx
   rcases List.mem_cons.mp hx with e | hx
   ·subst e
    exact Kv ok (by rw [<-hq.1]; exact hq.2.1)
   ·exact ih x hx
 exact all r x hx
theorem dt_of {kvs:List (List Key × V)} (ok:HOk P w H h) (e:H a=some (.dT kvs)):kvs.length<=sizeLine/\(a == sysModules)=false /\
  ∃ xs,KT H kvs xs/\h.DictOfH (tupleKind (cT P w)) a xs:=Sg ok (.inl e)
end
def O7 (H:Hp) (a:Addr) (y:V) (r:Option V):Prop :=
 (∃ kvs k,Rd H a (.dK kvs)/\y=kV k/\r=xu kvs k)\/∃ kvs k b,Rd H a (.dT kvs)/\y = .ref b/\H b=some (.tup (k.map kV))/\r=xu kvs k
def Xr (H:Hp) (a:Addr) (y v:V) (H':Hp):Prop :=
 (∃ kvs k,H a=some (.dK kvs)/\y=kV k/\kvs.length < sizeLine/\H'=upd H a (.dK (putK kvs k v))) \/
 ∃ kvs k b,H a=some (.dT kvs)/\y = .ref b/\H b=some (.tup (k.map kV))/\kvs.length < sizeLine/\H'=upd H a (.dT (putK kvs k v))
theorem O7.k {H:Hp} {a:Addr} {kvs:List (Key × V)} {k:Key} (e:H a=some (.dK kvs)):O7 H a (kV k) (xu kvs k):= .inl ⟨kvs,k,.inl e,rfl,rfl⟩
theorem Xr.k {H:Hp} {a:Addr} {kvs:List (Key × V)} {k:Key} {v:V} (e:H a=some (.dK kvs)) (hl:kvs.length < sizeLine):Xr H a (kV k) v (upd H a (.dK (putK kvs k v))):= .inl ⟨kvs,k,e,rfl,hl,rfl⟩
section
variable {X:Cx} {pins:List (Addr × Obj)} {σ : St} {H:Hp} {s:Shared} {a:Addr} {y v:V} {u r:Value} {o:Option V} {A:Around} {E:Value->Shared->Prop}
theorem Inv.big (I:Inv X pins σ H s):sysModules < s.heap.objs.size:=by
 have h:mainGlobals < s.heap.objs.size:=(I.mod.glob.keeps I.bk).lt
 exact Nat.lt_trans (by decide) h
theorem d_in {Q:Value->Shared->Prop} (hu:A.units + 1 < cLine) (I:Inv X pins σ H s) (g:O7 H a y o) (ry:RelV y u) (h:∀ s',Inv X pins σ H s'->Q (.bool o.isSome) s') :
  wpAny (model X.prog X.w) A (compareOp .In u (.ref a)) Q E s:=by
 rcases g with ⟨kvs,k,e,ey,l⟩ | ⟨kvs,k,b,e,ey,eb,l⟩
 ·subst ey
  obtain ⟨z,hd,vs,rel,dd⟩:=Oo I.hok e
  refine wpAny_in_of (R3 ry) hd dd.mapOf ?_
  rw [<-(rel.val k).Ak,<-l]
  exact h _ (I.tok _)
 ·subst ey
  cases (show u=Value.ref b from ry)
  obtain ⟨z,hd,xs,rel,dd⟩:=Sg I.hok e
  refine wpAny_in_heap (tupleKind_room_in1 hu) (Kv I.hok eb) hd dd ?_
  have q:=(rel.val k).Ak
  rw [Option.isSome_map] at q
  rw [<-q,<-l]
  exact h _ (I.tok _)
theorem Su {h':Heap} {t':Nat} {ob:HO} (I:Inv X pins σ H s) (mu:Mut (H a)) (hs:Heap.SameBut a s.heap h') (he:∃ q,h'.get? a=some q) (new:cO X.prog X.w (upd H a ob) h' a ob) :
  Inv X pins σ (upd H a ob) { s with heap:=h',toks:=t' } :=
 I.write (x:=a) (e:=a) mu (.inl rfl) (fun b q hb z=>(hs.2 b hb).trans z) he new
theorem aby {P:Program} {w:World} {H':Hp} {h':Heap} {kvs:List (Key × V)} {vs:List (Key × Value)} (z:kvs.length<=sizeLine) (hd:(a == sysModules)=false) (rel:KV kvs vs) (dd:h'.DictOf (cT P w) a vs) :
  cO P w H' h' a (.dK kvs):=⟨z,hd,vs,rel,dd⟩
theorem UV {H':Hp} {Q:Unit->Shared->Prop} (hu:A.units + 1 < cLine) (I:Inv X pins σ H s) (g:Xr H a y v H') (ry:RelV y u) (rv:RelV v r) (h:∀ s',Inv X pins σ H' s'->Q () s') :
  wpAny (model X.prog X.w) A (setItem (.ref a) u r) Q E s:=by
 rcases g with ⟨kvs,k,e,ey,l,eH⟩ | ⟨kvs,k,b,e,ey,eb,l,eH⟩
 ·subst ey eH
  obtain ⟨z,hd,vs,rel,dd⟩:=dk_of I.hok e
  have hz:vs.length<=sizeLine:=by rw [<-rel.length]; exact z
  have hl:(putK kvs k v).length<=sizeLine:=by have:=Bm kvs k v; omega
  refine wpAny_setItem_pairs (hsz:=hz) (R3 ry) dd fun h' dd' hs=>h _ ?_
  have he:∃ q,h'.get? a=some q:=let ⟨q,_,_,hq,_⟩:=dd'; ⟨q,hq⟩
  exact Su I (by rw [e]; exact True.intro) hs he (aby hl hd (rel.put k rv) dd')
 ·subst ey eH
  cases (show u=Value.ref b from ry)
  obtain ⟨z,hd,xs,rel,dd⟩:=dt_of I.hok e
  have hz:xs.length<=sizeLine:=by rw [<-Paired.length rel]; exact z
  have hl:(putK kvs k v).length<=sizeLine:=by have:=Bm kvs k v; omega
  refine wpAny_setItem_heap (hsz:=hz) (tupleKind_room_in1 hu) (Kv I.hok eb) dd fun h' dd' hs=>h _ ?_
  obtain ⟨q,es,ep,hq,h2,h3,h4,_,h5⟩:=dd'
  refine Su I (by rw [e]; exact True.intro) hs ⟨q,hq⟩ ⟨hl,hd,_,(rel.put k eb rv).keeps fun c ys ec=> ?_,q,es,ep,hq,h2,h3,h4,h5⟩
  rw [ak (ne_of ec e (fun z=>nomatch z))]
  exact ec
end
section
variable {X:Cx} {pins:List (Addr × Obj)} {σ : St} {H:Hp} {s:Shared} {a:Addr} {kvs:List (Key × V)} {k:Key} {u:Value} {A:Around} {E:Value->Shared->Prop}
theorem d_len {Q:Value->Shared->Prop} (I:Inv X pins σ H s) (e:Rd H a (.dK kvs)) (h:∀ t s',Inv X pins σ H s'->Q (.int kvs.length t) s'):wpAny (model X.prog X.w) A (call (.builtin "len") [.ref a]) Q E s:=by
 obtain ⟨z,hd,vs,rel,dd⟩:=Oo I.hok e
 refine call_len_dict hd dd (by rw [<-rel.length]; rw [sizeLine_eq] at z; omega) ?_
 rw [<-rel.length]
 exact h _ _ (I.tok _)
end
def NoSl (i:Expr):Prop:=∀ ov iv,subscripted i false ov iv=operate [ov,iv] (getItem ov iv)
theorem Yl {prog:Program} {w:World} {A:Around} {E:Value->Shared->Prop} {s:Shared} {env:Env} {value slice:Expr} {pos:Pos} {T id:String} {Q:Value->Shared->Prop}
  (hl:typeLookup (.type T) "__getitem__" = pure (some (.builtin id))) (hs:NoSl slice)
  (h:wpAny (model prog w) A (eval value env) (fun o s₁ => wpAny (model prog w) A (eval slice env) (fun i s₂ => s₂.TypeIs o T/\wpAny (model prog w) A (getItem o i) Q E s₂) E s₁) E s) :
  wpAny (model prog w) A (eval (.Subscript value slice pos) env) Q E s:=by
 refine Subscript_ (wpAny_mono h (fun o s₁ h₁ => wpAny_mono h₁ (fun i s₂ h₂ => ?_) fun _ _ x=>x) fun _ _ x=>x)
 obtain ⟨hT,h₂⟩:=h₂
 unfold subscriptTail
 refine wpAny_bind ?_
 rw [getitemInPython_of_ne hT.not_modules]
 refine wpAny_bind (wpAny_specialOf hT hl ?_)
 have fin:wpAny (model prog w) A (subscripted slice false o i) (fun r s₃ => wpAny (model prog w) A (letTemporaryGo value o r >>= fun _=>pure r) Q E s₃) E s₂ := by
  rw [hs o i]
  exact wpAny_operating (wpAny_mono h₂ (fun r s₃ h₃ => wpAny_bind (wpAny_letTemporaryGo (wpAny_pure h₃))) fun _ _ x=>x)
 first
  | exact wpAny_pure (wpAny_bind fin)
  | exact wpAny_bind (wpAny_pure (wpAny_bind fin))
  | exact wpAny_bind fin
def tDIn (ty td:TE):TE:=fun σ H Q=>ty σ H fun y H1=>td σ H1 fun x H2=>∃ a o,x = .ref a/\O7 H2 a y o/\Q (.bl o.isSome) H2
def sDPut (td ty tv:TE):TS:=fun D σ H=>tv σ H fun v H1=>td σ H1 fun x H2=>ty σ H2 fun y H3=>∃ a H4,x = .ref a/\Xr H3 a y v H4/\D.nx σ H4
section
variable {X:Cx} {o i e value:Expr} {pos pos' tpos:Pos} {td ty tv:TE}
theorem aaQ (hu:X.A.units + 1 < cLine) (hi:PE X i ty) (ho:PE X o td):PC X .In i o (tDIn ty td):=by
 intro pins s σ H Q I h
 refine thn (hi pins s σ H _ I h) fun iv s1 ⟨y,H1,I1,ry,q1⟩=>thn (ho pins s1 σ H1 _ I1 q1) fun u s2 ⟨x,H2,I2,rx,a,ov,ex,g,q2⟩=> ?_
 subst ex
 obtain rfl:u=Value.ref a:=rx
 exact d_in hu I2 g ry fun s3 I3=>⟨.bl ov.isSome,H2,I3,rfl,q2⟩
theorem Yz (hu:X.A.units + 1 < cLine) (ho:PE X o td) (hi:PE X i ty) (hv:PE X value tv) (hs:swapsWith value (some (.Subscript o i pos')) pos.line X.env=pure false) :
  PS X (.Assign [.Subscript o i pos'] value pos) (sDPut td ty tv):=by
 intro pins s σ H D I h
 refine wpAny_Assign_Subscript (thn (hv pins s σ H _ I h) fun r s1 ⟨v,H1,I1,rv,q1⟩=>thn (ho pins s1 σ H1 _ I1 q1) fun u s2 ⟨x,H2,I2,rx,q2⟩=>thn (hi pins s2 σ H2 _ I2 q2) fun iv s3 ⟨y,H3,I3,ry,a,H4,ex,g,q3⟩=> ?_) hs
 subst ex
 obtain rfl:u=Value.ref a:=rx
 exact UV hu I3 g ry rv fun s4 I4=>⟨σ,H4,I4,q3⟩
end
theorem Xe {P:Program} {w:World} {H:Hp} (h:Heap) (hb:sysModules < h.objs.size):cO P w H (h.push { cls:= .type "dict",data:= .dict #[] }) h.objs.size (.dK []) :=
 ⟨Nat.zero_le _,beq_eq_false_iff_ne.mpr (Ne.symm (Nat.ne_of_lt hb)),[],.nil,Heap.DictOf.new h⟩
def aaw:TE:=fun _ H Q=>∀ p,H p=none->Q (.ref p) (upd H p (.dK []))
section
variable {X:Cx} {pos:Pos}
theorem V2:PE X (.Dict [] [] pos) aaw:=fun pins s σ H Q I h =>
 wpAny_Dict_empty ⟨.ref s.heap.objs.size,_,I.laid (a:=s.heap.objs.size) (o:= .dK []) (t':=s.toks) (fun _ _ q=>Heap.get?_push_of_some _ q) (Nat.le_refl _) (Xe s.heap I.big),rfl,h _ (I.hok.fresh (Nat.le_refl _))⟩
end
structure M1 (X:Cx) (o:Expr) (m:Str) (apos:Pos) (e:Expr) (cpos:Pos):Prop where
 base:attributeBase o m X.env (eval o X.env)=eval o X.env
 few:((backTo cpos (starEach [e] X.env)).all (fun x => !x.1) && (backToKw cpos (keywordEach [] X.env)).all (fun x=>x.1.isSome)
  && decide (([e]:List Expr).length + ([]:List Keyword).length + (if ([]:List Keyword).isEmpty then 0 else 1) < 30))=true
 line:(apos.endLine == cpos.line)=true
 trees:backTo cpos (starEach [e] X.env)=[(false,eval e X.env)]
structure M2 (X:Cx) (o:Expr) (m:Str) (apos:Pos) (e f:Expr) (cpos:Pos):Prop where
 base:attributeBase o m X.env (eval o X.env)=eval o X.env
 few:((backTo cpos (starEach [e,f] X.env)).all (fun x => !x.1) && (backToKw cpos (keywordEach [] X.env)).all (fun x=>x.1.isSome)
  && decide (([e,f]:List Expr).length + ([]:List Keyword).length + (if ([]:List Keyword).isEmpty then 0 else 1) < 30))=true
 line:(apos.endLine == cpos.line)=true
 trees:backTo cpos (starEach [e,f] X.env)=[(false,eval e X.env),(false,eval f X.env)]
def IsD (H:Hp) (a:Addr):Prop:=(∃ kvs,Rd H a (.dK kvs))\/∃ kvs,Rd H a (.dT kvs)
theorem aa7 {X:Cx} {pins:List (Addr × Obj)} {σ : St} {H:Hp} {s:Shared} {a:Addr} (I:Inv X pins σ H s) (d:IsD H a) :
  s.TypeIs (.ref a) "dict" /\ (∀ b,Value.ref a = .ref b->∃ ob,s.heap.get? b=some ob/\ob.dict=none)/\(a == sysModules)=false:=by
 rcases d with ⟨kvs,e⟩ | ⟨kvs,e⟩
 ·obtain ⟨_,hd,vs,_,dd⟩:=Oo I.hok e
  refine ⟨dd.typeIs,fun b q=> ?_,hd⟩
  cases q
  obtain ⟨ob,_,_,h1,h2,_⟩:=dd
  exact ⟨ob,h1,h2.2.1⟩
 ·obtain ⟨_,hd,xs,_,dd⟩:=Sg I.hok e
  refine ⟨dd.typeIs,fun b q=> ?_,hd⟩
  cases q
  obtain ⟨ob,_,_,h1,h2,_⟩:=dd
  exact ⟨ob,h1,h2.2.1⟩
section
variable {X:Cx} {pins:List (Addr × Obj)} {σ : St} {H:Hp} {s:Shared} {a:Addr} {y d:V} {u r:Value} {o:Option V} {A:Around} {E:Value->Shared->Prop}
theorem abz {Q:Value->Shared->Prop} (hu:A.units + 1 < cLine) (I:Inv X pins σ H s) (g:O7 H a y o) (ry:RelV y u) (h:∀ w' s',Inv X pins σ H s'->RelV (o.getD .non) w'->Q w' s') :
  wpAny (model X.prog X.w) A (call (.builtin "dict.get") [.ref a,u]) Q E s:=by
 rcases g with ⟨kvs,k,e,ey,l⟩ | ⟨kvs,k,b,e,ey,eb,l⟩
 ·subst ey
  obtain ⟨z,hd,vs,rel,dd⟩:=Oo I.hok e
  refine call_meetsIn PySem.F.slot_dict_get dd.typeIs PySem.F.entry_dict_get (PySem.F.args_dict_get_2 _ _) (meets_dict_get (cT X.prog X.w) a (R3 ry) hd) ⟨_,dd.mapOf,h _ _ (I.tok _) ?_⟩
  rw [l]
  exact (rel.val k).getD rfl
 ·subst ey
  cases (show u=Value.ref b from ry)
  obtain ⟨z,hd,xs,rel,dd⟩:=Sg I.hok e
  refine call_meetsIn PySem.F.slot_dict_get dd.typeIs PySem.F.entry_dict_get (PySem.F.args_dict_get_2 _ _) (meetsH_dict_get (tupleKind (cT X.prog X.w)) a b hd) ⟨tupleKind_room_in1 hu,k,xs,Kv I.hok eb,dd,h _ _ (I.tok _) ?_⟩
  rw [l]
  exact (rel.val k).getD rfl
end
def aay (td ty:TE):TE:=fun σ H Q=>td σ H fun x H1=>∃ a,x = .ref a/\IsD H1 a/\ty σ H1 fun y H2=>∃ o,O7 H2 a y o/\Q (o.getD .non) H2
section
variable {X:Cx} {o e f:Expr} {apos cpos:Pos} {td ty tx:TE}
theorem V3 (hu:X.A.units + 1 < cLine) (ho:PE X o td) (he:PE X e ty) (m:M1 X o "get" apos e cpos):PE X (.Call (.Attribute o "get" apos) [e] [] cpos) (aay td ty):=by
 intro pins s σ H Q I h
 refine wpAny_Call_method m.base m.few m.line PySem.F.plainAttrs_dict PySem.F.slot_dict_get PySem.F.type_dict_get (thn (ho pins s σ H _ I h) fun u s1 ⟨x,H1,I1,rx,a,ex,d,q1⟩=> ?_)
 subst ex
 obtain rfl:u=Value.ref a:=rx
 obtain ⟨t1,t2,_⟩:=aa7 I1 d
 refine ⟨t1,t2,?_⟩
 rw [m.trees]
 refine Calls.callWith_builtin rfl (Calls.evalArgs_plain (Calls.spliced_cons (thn (he pins s1 σ H1 _ I1 q1) fun iv s2 ⟨y,H2,I2,ry,ov,g,q2⟩=>Calls.spliced_nil ?_)))
 exact abz hu I2 g ry fun w' s3 I3 rw'=>⟨_,H2,I3,rw',q2⟩
end
section
variable {X:Cx} {pins:List (Addr × Obj)} {σ : St} {H:Hp} {s:Shared} {h':Heap}
theorem Inv.JB {t':Nat} {ch:List Addr} (I:Inv X pins σ H s) (k:∀ b o,b ∉ ch->s.heap.get? b=some o->h'.get? b=some o) (hf:∀ b ∈ ch,zp X pins H b):Inv X pins σ H { s with heap:=h',toks:=t' }:=by
 have nit:∀ b u,H b=some u->b ∉ ch:=fun b u e z=>by
  have q:=(hf b z).1
  rw [q] at e; cases e
 refine I.step (g':=s.gens) (d':=s.drawn) (ch:=ch) (fun b hb=>⟨(hf b hb).2.2.2.1,(hf b hb).2.1,(hf b hb).2.2.2.2.1,(hf b hb).2.2.2.2.2⟩) (fun b o _ _ hc e _=>k b o hc e) (fun b o _ _ hc e _=>⟨o.slots,k b o hc e⟩)
  (fun _ _ _ _ n=>n) (fun b o hc e=>⟨o,k b o hc e⟩) (fun _ _ e=>e) (fun _ _ _ e=>e) (fun b ps e=>⟨#[],by rw [e]; simp⟩) (fun m hm=> ?_) (fun b u e=> ?_) I.bare
 ·obtain ⟨o,es,ep,ho,r⟩:=hm
  exact ⟨o,es,ep,k _ o (fun z=>(hf _ z).2.1 rfl) ho,r⟩
 ·refine (I.hok b u e).stay (fun c v hc q=>k c v ?_ q) (fun _ q=>q) fun _ _ q=>q
  rcases hc with z | z
  ·rw [z]; exact nit b u e
  ·exact nit c _ z
theorem Inv.uR {t':Nat} {ch:List Addr} {T:Addr} {ob:HO} (I:Inv X pins σ H s) (k:∀ b o,b ∉ ch->s.heap.get? b=some o->h'.get? b=some o) (hf:∀ b ∈ ch,zp X pins H b) (hT:s.heap.objs.size<=T)
  (new:cO X.prog X.w (upd H T ob) h' T ob):Inv X pins σ (upd H T ob) { s with heap:=h',toks:=t' }:=by
 have hn:H T=none:=I.hok.fresh hT
 have nit:∀ b u,H b=some u->b ∉ ch:=fun b u e z=>by
  have q:=(hf b z).1
  rw [q] at e; cases e
 refine I.step (g':=s.gens) (d':=s.drawn) (ch:=ch) (fun b hb=>⟨(hf b hb).2.2.2.1,(hf b hb).2.1,(hf b hb).2.2.2.2.1,(hf b hb).2.2.2.2.2⟩) (fun b o _ _ hc e _=>k b o hc e) (fun b o _ _ hc e _=>⟨o.slots,k b o hc e⟩)
  (fun b o _ e n=> ?_) (fun b o hc e=>⟨o,k b o hc e⟩) (fun b xs e=> ?_) (fun b o u e=> ?_) (fun b ps e=>⟨#[],?_⟩) (fun m hm=> ?_) (fun b u e=> ?_) I.bare
 ·rw [ak (Nat.ne_of_lt (Nat.lt_of_lt_of_le (Heap.lt_size e) hT))]; exact n
 ·rw [ak (az e hn)]; exact e
 ·rw [ak (az e hn)]; exact e
 ·rw [ak (az e hn),e]; simp
 ·obtain ⟨o,es,ep,ho,r⟩:=hm
  exact ⟨o,es,ep,k _ o (fun z=>(hf _ z).2.1 rfl) ho,r⟩
 ·by_cases hb:b=T
  ·subst hb
   rw [aj] at e
   cases e
   exact new
  ·rw [ak hb] at e
   refine (I.hok b u e).stay (fun c v hc q=>k c v ?_ q) (fun c q=>by rw [ak (az q hn)]; exact q) fun c xs q=>by rw [ak (az q hn)]; exact q
   rcases hc with z | z
   ·rw [z]; exact nit b u e
   ·exact nit c _ z
theorem Inv.lock {d:Addr} {u:HO} (I:Inv X pins σ H s) (h:H d=some u) (mu:Mut (some u)):∃ od,Inv X pins σ (upd H d (.frz od u)) s:=by
 have x:=I.hok d u h
 have ex:∃ od,s.heap.get? d=some od:=by
  cases u with
  | lst xs=>obtain ⟨_,_,_,_,e⟩:=x; exact ⟨_,e⟩
  | dK kvs=>obtain ⟨_,_,_,_,o,_,_,e,_⟩:=x; exact ⟨o,e⟩
  | dT kvs=>obtain ⟨_,_,_,_,o,_,_,e,_⟩:=x; exact ⟨o,e⟩
  | set S n=>obtain ⟨o,_,_,_,e,_⟩:=x; exact ⟨o,e⟩
  | ins C dx fs=>obtain ⟨_,_,_,e,_⟩:=x; exact ⟨_,e⟩
  | ext φ => obtain ⟨_,⟨_,e⟩,_⟩:=x; exact ⟨_,e⟩
  | _=>exact False.elim mu
 obtain ⟨od,e⟩:=ex
 have new:cO X.prog X.w (upd H d (.frz od u)) s.heap d (.frz od u):=by
  refine ⟨e,x.stay (fun b v _ q=>q) (fun b q=> ?_) fun b xs q=> ?_⟩
  ·rw [ak (fun z=>by rw [z,h] at q; cases q; exact mu)]; exact q
  ·rw [ak (fun z=>by rw [z,h] at q; cases q; exact mu)]; exact q
 exact ⟨od,I.write (x:=d) (e:=d) (t':=s.toks) (h':=s.heap) (by rw [h]; exact mu) (.inl rfl) (fun b v _ q=>q) ⟨od,e⟩ new⟩
theorem Inv.M8 {d:Addr} {u:HO} (I:Inv X pins σ H s) (h:H d=some u) (mu:Mut (some u)):∀ o' u',X.H_0 d ≠ some (.frz o' u'):=fun o' u' e=>by
 have q:=I.base.Di d o' u' e
 rw [h] at q
 cases q
 exact mu
theorem Inv.unlock {d:Addr} {od:Obj} {u:HO} (I:Inv X pins σ H s) (h:H d=some (.frz od u)) (hn:∀ o' u',X.H_0 d ≠ some (.frz o' u')):Inv X pins σ (upd H d u) s:=by
 have neH:∀ b o,H b=some o->(∀ o' u',o ≠ .frz o' u')->b ≠ d:=fun b o e hne z=>by
  rw [z,h] at e
  cases e
  exact hne _ _ rfl
 have neN:∀ b,H b=none->b ≠ d:=fun b e z=>by rw [z,h] at e; cases e
 refine ⟨I.ok,I.os,I.bare,⟨I.base.keep,I.base.slot,fun b o e n hx=> ?_,I.base.there,fun b xs e=> ?_,fun b o x e=> ?_,fun b ps e=> ?_⟩,I.loc,I.cell,?_,fun x c e=> ?_,fun p hp=> ?_,fun b o e=> ?_,I.len⟩
 ·rw [ak (neN b (I.base.free b o e n hx))]; exact I.base.free b o e n hx
 ·have q:=I.base.tups b xs e
  rw [ak (neH b _ q (fun _ _ z=>nomatch z))]; exact q
 ·have q:=I.base.Di b o x e
  rw [ak (fun z=>by rw [z] at e; exact hn _ _ e)]; exact q
 ·obtain ⟨m,q⟩:=I.base.GZ b ps e
  exact ⟨m,by rw [ak (neH b _ q (fun _ _ z=>nomatch z))]; exact q⟩
 ·rw [ak (neN _ I.free)]; exact I.free
 ·rw [ak (neN c (I.lF x c e))]; exact I.lF x c e
 ·obtain ⟨e,n,r⟩:=I.pin p hp
  exact ⟨e,by rw [ak (neN _ n)]; exact n,r⟩
 ·by_cases hb:b=d
  ·rw [hb,aj] at e
   cases e
   rw [hb]
   obtain ⟨_,x⟩:=I.hok d _ h
   exact x.stay (fun c v _ q=>q) (fun c q=>by rw [ak (neH c _ q (fun _ _ z=>nomatch z))]; exact q) fun c xs q=>by rw [ak (neH c _ q (fun _ _ z=>nomatch z))]; exact q
  ·rw [ak hb] at e
   exact (I.hok b o e).stay (fun c v _ q=>q) (fun c q=>by rw [ak (neH c _ q (fun _ _ z=>nomatch z))]; exact q) fun c xs q=>by rw [ak (neH c _ q (fun _ _ z=>nomatch z))]; exact q
end
def tLock (t:TS):TS:=fun D σ H=>∃ d u,H d=some u/\Mut (some u)/\∀ od,t ⟨fun σ' H'=>H' d=some (.frz od u)/\D.nx σ' (upd H' d u),fun v H'=>H' d=some (.frz od u)/\D.rt v (upd H' d u),fun σ' H'=>H' d=some (.frz od u)/\D.bk σ' (upd H' d u),fun σ' H'=>H' d=some (.frz od u)/\D.ct σ' (upd H' d u)⟩ σ (upd H d (.frz od u))
def aau (t:TE):TE:=fun σ H Q=>∃ d u,H d=some u/\Mut (some u)/\∀ od,t σ (upd H d (.frz od u)) fun v H'=>H' d=some (.frz od u)/\Q v (upd H' d u)
section
variable {X:Cx}
theorem Yy {st:Stmt} {t:TS} (h:PS X st t):PS X st (tLock t):=by
 intro pins s σ H D I hw
 obtain ⟨d,u,hd,mu,hw⟩:=hw
 obtain ⟨od,I1⟩:=I.lock hd mu
 refine thn (h pins s σ _ _ I1 (hw od)) fun f s1 q=> ?_
 cases f with
 | next=>obtain ⟨σ',H',I2,e,q⟩:=q; exact ⟨σ',_,I2.unlock e (I.M8 hd mu),q⟩
 | brk=>obtain ⟨σ',H',I2,e,q⟩:=q; exact ⟨σ',_,I2.unlock e (I.M8 hd mu),q⟩
 | cont=>obtain ⟨σ',H',I2,e,q⟩:=q; exact ⟨σ',_,I2.unlock e (I.M8 hd mu),q⟩
 | ret v=>obtain ⟨x,σ',H',I2,r,e,q⟩:=q; exact ⟨x,σ',_,I2.unlock e (I.M8 hd mu),r,q⟩
theorem RC {e:Expr} {t:TE} (h:PE X e t):PE X e (aau t):=by
 intro pins s σ H Q I hw
 obtain ⟨d,u,hd,mu,hw⟩:=hw
 obtain ⟨od,I1⟩:=I.lock hd mu
 refine thn (h pins s σ _ _ I1 (hw od)) fun v s1 ⟨x,H1,I2,r,e2,q⟩=> ?_
 exact ⟨x,_,I2.unlock e2 (I.M8 hd mu),r,q⟩
theorem VN {tg:Expr} {pins:List (Addr × Obj)} {σ : St} {H:Hp} {s:Shared} {R:It->Hp->Prop} {J:It} {tn:Nat->Heap->Prop} {tk:Nat} (I:Inv X pins σ H s) (o:Obj)
  (T:Turn X.prog X.w X.K tg J [s.heap.objs.size] s.heap.objs.size tn) (st:tn 0 (s.heap.push o)) (q:R J H):PIE X pins σ tg R (.ref s.heap.objs.size) { s with heap:=s.heap.push o,toks:=tk }:=by
 refine ⟨s.heap.objs.size,[s.heap.objs.size],tn,J,H,rfl,I.kept fun b ob e=>Heap.get?_push_of_some _ e,T,st,fun b hb=> ?_,q⟩
 have e:b=s.heap.objs.size:=by simpa using hb
 subst e
 exact I.Dj (Nat.le_refl _) (I.hok.fresh (Nat.le_refl _))
end
def Itc (lo c:Int) (n:Nat):It:=⟨fun i _=>i < n,fun i H x H'=>H'=H/\x = .int (lo + (i:Nat) * c),fun i _=>n<=i⟩
theorem Ly {P:Program} {w:World} {K:PySem.W.Frag} {tg:Expr} (it:Addr) (lo c:Int) (n:Nat):Turn P w K tg (Itc lo c n) [it] it (fun i h=>IsRangeIter h it (lo + (i:Nat) * c) ((n:Int) - (i:Nat)) c) where
 mem:=by simp
 obj:=fun i h st b hb=>by
  have e:b=it:=by simpa using hb
  subst e
  exact ⟨_,st,fun v z=>nomatch z⟩
 keep:=fun i h h' st k=>k it (by simp) _ st
 item:=by
  intro X hP hw hK hc i pins s σ H E I hf st hg
  subst hP hw hK
  obtain ⟨f0,f1,f2,f3,f4,f5⟩:=hf it (by simp)
  have W:=Walks.range (prog:=X.prog) (w:=X.w) (I.ok.hd hc) it lo c n
  refine W.item i s _ _ hg st fun v h' tk hv st' kk=> ?_
  obtain ⟨t,rfl⟩:=hv
  have I1:Inv X pins σ H { s with heap:=h',toks:=tk }:=I.turned (fun b o hb e=>kk b o (by simpa using hb) e) f0 f1 f3 f4 f5
  exact ⟨_,rfl,Nz (s:={ s with heap:=h',toks:=tk }) (n := "range_iterator") st' rfl rfl (by decide) ⟨.int (lo + (i:Nat) * c),H,I1,⟨t,rfl⟩,⟨rfl,rfl⟩,st',fun b hb=>(hf b hb).1⟩⟩
 done:=by
  intro X hP hw hK hc i pins s σ H E I hf st hg
  subst hP hw hK
  obtain ⟨f0,f1,f2,f3,f4,f5⟩:=hf it (by simp)
  exact wpAny_pyNext_range_end (I.ok.hd hc) st (by have:n<=i:=hg; omega) fun h' eb=>⟨rfl,I.turned (t':=s.toks) (fun b o hb e=>eb b o hb e) f0 f1 f3 f4 f5⟩
 self:=fun A i s Q E st h=>wpAny_pyIter_rangeiter st h
def RgC (i j c:Int) (n:Nat):Prop:=c ≠ 0/\c.natAbs < 1073741824/\Builtin.Range.small i j c=true/\Builtin.Range.rangeSize i j c=n
def iRng3 (ta:TA):TI:=fun σ H R=>ta σ H fun vs H1=>∃ (i j c:Int) (n:Nat),vs=[.int i,.int j,.int c]/\RgC i j c n/\R (Itc i c n) H1
section
variable {X:Cx} {tg:Expr}
theorem TF {a b c:Expr} {ta:TA} {p pos:Pos} (hg:Gl X "range") (hm:X.mg "range" = none) (ha:PA X [a,b,c] ta)
  (hs:starEach [a,b,c] X.env=(false,eval a X.env) :: starEach [b,c] X.env:=by rfl) (hpl:(backTo pos (starEach [b,c] X.env)).any (·.1)=false:=by rfl) :
  PI X tg (.Call (.Name "range" p) [a,b,c] [] pos) (iRng3 ta):=by
 intro pins s σ H R I h
 refine Call_ (m6 I hg hm boot_range (PyProof.Rows.callWith_type1 (thn (ha pos pins s σ H _ I h) fun us s1 ⟨vs,H1,I1,r1,q1⟩=> ?_) hs hpl))
 obtain ⟨i,j,k,n,e,⟨c0,c1,c2,c3⟩,q⟩:=q1
 subst e
 cases r1 with
 | cons r rr =>
  cases rr with
  | cons r' rr =>
   cases rr with
   | cons r'' rr =>
    cases rr
    obtain ⟨t,rfl⟩:=r
    obtain ⟨t',rfl⟩:=r'
    obtain ⟨t'',rfl⟩:=r''
    refine call_range_3 c0 ?_ (.inl (PyProof.noPylong_small c1))
    refine wpAny_pyIter_range (IsRange.new ..) c2 ?_
    have I2:Inv X pins σ H1 { s1 with heap:=s1.heap.push { cls:= .type "range",data:= .fields #[.int i t,.int j t',.int k t''] } }:=I1.kept (t':=s1.toks) fun b o e=>Heap.get?_push_of_some _ e
    refine VN (tk:=s1.toks) I2 _ (Ly _ i k n) ?_ q
    have e1:i + ((0:Nat):Int) * k=i:=by simp
    have e2:(n:Int) - ((0:Nat):Int)=Builtin.Range.rangeSize i j k:=by rw [c3]; simp
    show IsRangeIter _ _ (i + ((0:Nat):Int) * k) ((n:Int) - ((0:Nat):Int)) k
    rw [e1,e2]
    exact Heap.get?_push_size _ rfl
end
theorem aa1 {κ : Type} {kvs:List (κ × V)} {vs:List (κ × Value)} (h:KV kvs vs):∀ {i:Nat} {k : κ} {v:V},kvs[i]? = some (k,v)->∃ u,vs[i]? = some (k,u)/\RelV v u:=by
 unfold KV at h
 induction h with
 | nil=>intro i k v e; simp at e
 | @cons a b l₁ l₂ r t ih =>
  intro i k v e
  cases i with
  | zero =>
   simp only [List.getElem?_cons_zero,Option.some.injEq] at e
   subst e
   refine ⟨b.2,?_,r.2⟩
   simp only [List.getElem?_cons_zero]
   exact congrArg some (Prod.ext r.1.symm rfl)
  | succ j =>
   simp only [List.getElem?_cons_succ] at e ⊢
   exact ih e
section
variable {X:Cx} {pins:List (Addr × Obj)} {σ : St} {H:Hp} {s:Shared} {d:Addr} {o:Obj}
theorem Inv.frzK {kvs:List (Key × V)} (I:Inv X pins σ H s) (h:H d=some (.frz o (.dK kvs))) :
  (d == sysModules)=false/\s.heap.get? d=some o/\o.ExactDict/\∃ (es:Array DictEntry) (ep:Nat) (vs:List (Key × Value)),o.data = .dict es ep/\es.size=kvs.length/\KV kvs vs/\s.heap.DictAt (cT X.prog X.w) d vs ep:=by
 obtain ⟨hd,z,hs,vs,kv,o',es,ep,ho,hx,hdt,r⟩:=I.hok d _ h
 rw [hd] at ho
 cases ho
 refine ⟨hs,hd,hx,es,ep,vs,hdt,?_,kv,o,es,hd,hx,hdt,r⟩
 have l1:=r.2.1.length
 have l2:kvs.length=vs.length:=Paired.length kv
 rw [Array.length_toList] at l1
 omega
end
def Itd (d:Addr) (o:Obj) (kvs:List (Key × V)):It :=
 ⟨fun i H=>H d=some (.frz o (.dK kvs))/\i < kvs.length,fun i H x H'=>H'=H/\∃ k,kvs[i]? = some (k,x),fun i H=>H d=some (.frz o (.dK kvs))/\kvs.length<=i⟩
theorem Sq {o:Obj} {es es':Array DictEntry} {ep ep':Nat} (h:o.data = .dict es ep) (h':o.data = .dict es' ep'):es'=es/\ep'=ep:=by
 rw [h] at h'
 cases h'
 exact ⟨rfl,rfl⟩
section
variable {P:Program} {w:World} {K:PySem.W.Frag} {tg:Expr} {d:Addr} {o:Obj} {es:Array DictEntry} {ep:Nat}
theorem Te {kvs:List (Key × V)} (it:Addr) (hod:o.data = .dict es ep):Turn P w K tg (Itd d o kvs) [it] it (fun i h=>h.IsValIter it d i kvs.length ep) where
 mem:=by simp
 obj:=fun i h st b hb=>by
  have e:b=it:=by simpa using hb
  subst e
  obtain ⟨oi,e,c,dd⟩:=st
  exact ⟨oi,e,fun v z=>by rw [dd] at z; cases z⟩
 keep:=fun i h h' st k=>st.at fun oi e=>k it (by simp) oi e
 item:=by
  intro X hP hw hK hc i pins s σ H E I hf st hg
  subst hP hw hK
  obtain ⟨hd,hi⟩:=hg
  obtain ⟨f0,f1,f2,f3,f4,f5⟩:=hf it (by simp)
  obtain ⟨hs,hgd,hx,es',ep',vs,hdt,hsz,kv,hm⟩:=I.frzK hd
  obtain ⟨rfl,rfl⟩:=Sq hod hdt
  obtain ⟨⟨k,v⟩,hkv⟩:∃ p,kvs[i]? = some p:=⟨kvs[i],List.getElem?_eq_getElem hi⟩
  obtain ⟨u,hu,ru⟩:=aa1 kv hkv
  have hl:kvs.length=vs.length:=Paired.length kv
  rw [hl] at st
  refine wpAny_pyNext_values_item st hm hu fun h' st' sb=> ?_
  have I1:Inv X pins σ H { s with heap:=h' }:=I.turned (t':=s.toks) (fun b ob hb e=>(sb.2 b hb).trans e) f0 f1 f3 f4 f5
  obtain ⟨oi,e,c,dd⟩:=id st'
  refine ⟨u,rfl,Nz (s:={ s with heap:=h' }) e c dd (by decide) ⟨v,H,I1,ru,⟨rfl,k,hkv⟩,?_,fun b hb=>(hf b hb).1⟩⟩
  show h'.IsValIter it d (i + 1) kvs.length _
  rw [hl]
  exact st'
 done:=by
  intro X hP hw hK hc i pins s σ H E I hf st hg
  subst hP hw hK
  obtain ⟨hd,hi⟩:=hg
  obtain ⟨f0,f1,f2,f3,f4,f5⟩:=hf it (by simp)
  obtain ⟨hs,hgd,hx,es',ep',vs,hdt,hsz,kv,hm⟩:=I.frzK hd
  obtain ⟨rfl,rfl⟩:=Sq hod hdt
  have hl:kvs.length=vs.length:=Paired.length kv
  rw [hl] at st
  exact wpAny_pyNext_values_end (I.ok.hd hc) st hm (List.getElem?_eq_none (by omega)) fun h' eb=>⟨rfl,I.turned (t':=s.toks) (fun b ob hb e=>eb b ob hb e) f0 f1 f3 f4 f5⟩
 self:=fun A i s Q E st h=>wpAny_pyIter_valiter st h
end
def iVals (td:TE):TI:=fun σ H R=>td σ H fun x H1=>∃ d o kvs,x = .ref d/\H1 d=some (.frz o (.dK kvs))/\R (Itd d o kvs) H1
section
variable {X:Cx} {tg e:Expr} {td:TE} {apos cpos:Pos}
theorem zZ (he:PE X e td) (hbase:attributeBase e "values" X.env (eval e X.env)=eval e X.env:=by rfl) (hline:(apos.endLine == cpos.line)=true:=by rfl):PI X tg (.Call (.Attribute e "values" apos) [] [] cpos) (iVals td):=by
 intro pins s σ H R I h
 refine wpAny_Call_method (T := "dict") (id := "dict.values") hbase rfl hline F.plainAttrs_dict F.slot_dict_values F.type_dict_values (thn (he pins s σ H _ I h) fun u s1 ⟨x,H1,I1,rx,d,o,kvs,ex,hd,q⟩=> ?_)
 subst ex
 obtain rfl:u=Value.ref d:=rx
 obtain ⟨hs,hgd,hx,es,ep,vs,hdt,hsz,kv,hm⟩:=I1.frzK hd
 have hl:kvs.length=vs.length:=Paired.length kv
 refine ⟨hm.dictOf.typeIs,hm.dictOf.mapOf.noDict,?_⟩
 have I2:Inv X pins σ H1 { s1 with heap:=s1.heap.push { cls:= .type "dict_values",data:= .fields #[.ref d] } }:=I1.kept (t':=s1.toks) fun b ob q=>Heap.get?_push_of_some _ q
 have fin:wpAny (model X.prog X.w) X.A (pyIter (.ref s1.heap.objs.size)) (PIE X pins σ tg R) X.xe { s1 with heap:=s1.heap.push { cls:= .type "dict_values",data:= .fields #[.ref d] } }:=by
  refine wpAny_pyIter_values (d:=d) (knd:=cT X.prog X.w) ⟨_,Heap.get?_push_size _ rfl,rfl,rfl⟩ (hm.push _) (VN (tk:=s1.toks) I2 _ (Te _ hdt) ⟨_,Heap.get?_push_size _ rfl,rfl,?_⟩ q)
  rw [hl] <;> rfl
 show wpAny _ _ (callWith cpos (.builtin "dict.values") [.ref d] [] []) _ X.xe s1
 exact method_meetsIn F.slot_dict_values F.entry_dict_values rfl (PySem.evalArgs_none ⟨rfl,hm.dictOf.typeIs,F.args_dict_values_1 _,_,meets_dict_values (cT X.prog X.w) d hs,⟨vs,hm.dictOf⟩,fin⟩)
end
def Ite (K:PySem.W.Frag) (a:Addr):It :=
 ⟨fun i H=>∃ (xs:List V) (x:V),SqL K H a xs/\xs[i]? = some x,fun i H v H'=>∃ T x,v = .ref T/\H T=none/\H'=upd H T (.tup [.int (i:Nat),x])/\∀ xs,SqL K H a xs->xs[i]? = some x,fun i H=>∃ xs:List V,SqL K H a xs/\xs.length<=i⟩
theorem Tg {P:Program} {w:World} {K:PySem.W.Frag} {elts:List Expr} {kk:Nat} {tpos:Pos} (a e it:Addr) :
  Turn P w K (.Tuple elts kk tpos) (Ite K a) [e,it] e (fun i h=>(∃ old,IsEnum h e it ((i:Nat):Int) old)/\h.IsListIter it a i/\e ≠ it) where
 mem:=by simp
 obj:=fun i h st b hb=>by
  obtain ⟨⟨old,he⟩,⟨o,ho,hc,hd⟩,_⟩:=st
  have e':b=e\/b=it:=by simpa using hb
  rcases e' with z | z
  ·rw [z]; exact ⟨_,he,fun v q=>nomatch q⟩
  ·rw [z]; exact ⟨o,ho,fun v q=>by rw [hd] at q; cases q⟩
 keep:=fun i h h' st k=>let ⟨⟨old,he⟩,hi,hne⟩:=st; ⟨⟨old,k e (by simp) _ he⟩,hi.at fun o q=>k it (by simp) o q,hne⟩
 item:=by
  intro X hP hw hK hc i pins s σ H E I hf st hg
  subst hP hw hK
  obtain ⟨⟨old,he⟩,hit,hne⟩:=st
  obtain ⟨xs,x,hq,hx⟩:=hg
  obtain ⟨its,rv,p,hz⟩:=I.list hq
  obtain ⟨u,hu,ru⟩:=rv.get hx
  have hel:e < s.heap.objs.size:=Heap.lt_size he
  have hil:it < s.heap.objs.size:=by obtain ⟨_,q,_⟩:=hit; exact Heap.lt_size q
  refine wpAny_pyNext_enum_item he hit p.isList (x:=u) (by simpa using hu) hne fun h' ho hit' hT hsz hk=> ?_
  refine ⟨_,rfl,wpAny_letOwnedTupleGo_enum (s:={ s with heap:=h',toks:=s.toks + 1 }) ho fun h'' he' sb=> ?_⟩
  have hT2:h''.get? s.heap.objs.size=some { cls:= .type "tuple",data:= .seq #[.int i s.toks,u] }:=(sb.2 _ (Nat.ne_of_gt hel)).trans hT
  have new:cO X.prog X.w (upd H s.heap.objs.size (.tup [.int (i:Nat),x])) h'' s.heap.objs.size (.tup [.int (i:Nat),x]) :=
   ⟨by show 2<=sizeLine; decide,[.int i s.toks,u],.cons ⟨_,rfl⟩ (.cons ru .nil),⟨_,hT2,rfl,_,rfl⟩⟩
  have I1:Inv X pins σ (upd H s.heap.objs.size (.tup [.int (i:Nat),x])) { s with heap:=h'',toks:=s.toks + 1 } :=
   I.uR (ch:=[e,it]) (fun b ob hb q=>(sb.2 b (fun z=>hb (by simp [z]))).trans (hk b ob (fun z=>hb (by simp [z])) (fun z=>hb (by simp [z])) q)) hf (Nat.le_refl _) new
  refine ⟨.ref s.heap.objs.size,_,I1,rfl,⟨_,x,rfl,I.hok.fresh (Nat.le_refl _),rfl,fun ys hy=>by rw [I.n8 hy hq]; exact hx⟩,⟨⟨u,?_⟩,hit'.at fun o q=>(sb.2 it (Ne.symm hne)).trans q,hne⟩,fun b hb=> ?_⟩
  ·have e1:((i + 1:Nat):Int)=(i:Int) + 1:=by omega
   rw [e1]; exact he'
  ·have hb':b < s.heap.objs.size:=by
    have e':b=e\/b=it:=by simpa using hb
    rcases e' with z | z
    ·rw [z]; exact hel
    ·rw [z]; exact hil
   rw [ak (Nat.ne_of_lt hb')]
   exact (hf b hb).1
 done:=by
  intro X hP hw hK hc i pins s σ H E I hf st hg
  subst hP hw hK
  obtain ⟨⟨old,he⟩,hit,hne⟩:=st
  obtain ⟨xs,hq,hx⟩:=hg
  obtain ⟨its,rv,p,hz⟩:=I.list hq
  obtain ⟨f0,f1,f2,f3,f4,f5⟩:=hf it (by simp)
  have hl:=rv.length
  exact wpAny_pyNext_enum_end (I.ok.hd hc) he hit p.isList (by simp; omega) fun h' eb=>⟨rfl,I.turned (t':=s.toks) (fun b o hb q=>eb b o hb q) f0 f1 f3 f4 f5⟩
 self:=fun A i s Q E st h=>let ⟨⟨_,he⟩,_⟩:=st; wpAny_pyIter_enum he h
def iEnum (K:PySem.W.Frag) (ta:TA):TI:=fun σ H R=>ta σ H fun vs H1=>∃ a xs,vs=[.ref a]/\SqL K H1 a xs/\R (Ite K a) H1
theorem Rz {X:Cx} {e:Expr} {ta:TA} {p pos tpos:Pos} {elts:List Expr} {kk:Nat} (hg:Gl X "enumerate") (hm:X.mg "enumerate" = none) (ha:PA X [e] ta) (hs:starEach [e] X.env=[(false,eval e X.env)]:=by rfl) :
  PI X (.Tuple elts kk tpos) (.Call (.Name "enumerate" p) [e] [] pos) (iEnum X.K ta):=by
 intro pins s σ H R I h
 refine Call_ (m6 I hg hm boot_enumerate (PyProof.Rows.callWith_type1 (thn (ha pos pins s σ H _ I h) fun us s1 ⟨vs,H1,I1,r1,q1⟩=> ?_) hs rfl))
 obtain ⟨a,xs,ex,hq,q⟩:=q1
 subst ex
 cases r1 with
 | cons r rr =>
  cases rr
  cases r
  obtain ⟨its,rv,p',hz⟩:=I1.list hq
  refine call_enumerate_list p'.isList fun h' he hit hsz hk=>wpAny_pyIter_enum he ?_
  have I2:Inv X pins σ H1 { s1 with heap:=h' }:=I1.kept (t':=s1.toks) hk
  refine ⟨s1.heap.objs.size + 1,[s1.heap.objs.size + 1,s1.heap.objs.size],_,_,H1,rfl,I2,Tg a (s1.heap.objs.size + 1) s1.heap.objs.size,⟨⟨.none,he⟩,hit,Nat.succ_ne_self _⟩,fun b hb=> ?_,q⟩
  have e':b=s1.heap.objs.size + 1\/b=s1.heap.objs.size:=by simpa using hb
  have hle:s1.heap.objs.size<=b:=by
   rcases e' with z | z
   ·rw [z]; exact Nat.le_add_right _ _
   ·rw [z]; exact Nat.le_refl _
  exact I1.Dj hle (I1.hok.fresh hle)
theorem Jr:bootBuiltins "zip" = some (.type "zip"):=by decide +kernel
def Itz (K:PySem.W.Frag) (a b:Addr):It :=
 ⟨fun i H=>∃ (xs ys:List V) (x y:V),SqL K H a xs/\SqL K H b ys/\xs[i]? = some x/\ys[i]? = some y,
  fun i H v H'=>∃ T x y,v = .ref T/\H T=none/\H'=upd H T (.tup [x,y])/\(∀ xs,SqL K H a xs->xs[i]? = some x)/\∀ ys,SqL K H b ys->ys[i]? = some y,
  fun i H=>∃ xs ys:List V,SqL K H a xs/\SqL K H b ys/\(xs.length<=i\/ys.length<=i)⟩
theorem Vp {P:Program} {w:World} {K:PySem.W.Frag} {elts:List Expr} {kk:Nat} {tpos:Pos} {a b z TI TO i1 i2:Addr} (D:ZipApart z TI TO i1 i2 a b) :
  Turn P w K (.Tuple elts kk tpos) (Itz K a b) [z,TI,TO,i1,i2] z (fun i h=>IsZip h z TI TO .none/\IsPair h TI (.ref i1) (.ref i2)/\(∃ x y,IsPair h TO x y)/\h.IsListIter i1 a i/\h.IsListIter i2 b i) where
 mem:=by simp
 obj:=fun i h st c hc=>by
  obtain ⟨hz,hTI,⟨x,y,hTO⟩,⟨o1,e1,_,d1⟩,⟨o2,e2,_,d2⟩⟩:=st
  have e':c=z\/c=TI\/c=TO\/c=i1\/c=i2:=by simpa using hc
  rcases e' with q | q | q | q | q
  ·rw [q]; exact ⟨_,hz,fun v q=>nomatch q⟩
  ·rw [q]; exact ⟨_,hTI,fun v q=>nomatch q⟩
  ·rw [q]; exact ⟨_,hTO,fun v q=>nomatch q⟩
  ·rw [q]; exact ⟨o1,e1,fun v q=>by rw [d1] at q; cases q⟩
  ·rw [q]; exact ⟨o2,e2,fun v q=>by rw [d2] at q; cases q⟩
 keep:=fun i h h' st k=>by
  obtain ⟨hz,hTI,⟨x,y,hTO⟩,h1,h2⟩:=st
  exact ⟨k z (by simp) _ hz,k TI (by simp) _ hTI,⟨x,y,k TO (by simp) _ hTO⟩,h1.at fun o q=>k i1 (by simp) o q,h2.at fun o q=>k i2 (by simp) o q⟩
 item:=by
  intro X hP hw hK hc i pins s σ H E I hf st hg
  subst hP hw hK
  obtain ⟨hz,hTI,⟨x0,y0,hTO⟩,h1,h2⟩:=st
  obtain ⟨xs,ys,x,y,hqx,hqy,hx,hy⟩:=hg
  obtain ⟨its,rv,p,_⟩:=I.list hqx
  obtain ⟨its2,rv2,p2,_⟩:=I.list hqy
  obtain ⟨u,hu,ru⟩:=rv.get hx
  obtain ⟨u2,hu2,ru2⟩:=rv2.get hy
  have hzl:z < s.heap.objs.size:=Heap.lt_size hz
  refine wpAny_pyNext_zip_item D hz hTI hTO h1 h2 p.isList p2.isList (x:=u) (y:=u2) (by simpa using hu) (by simpa using hu2) fun h' z' TO' h1' h2' hT hsz hk=> ?_
  refine ⟨_,rfl,wpAny_letOwnedTupleGo_zip (s:={ s with heap:=h' }) z' fun h'' z'' sb=> ?_⟩
  have hT2:h''.get? s.heap.objs.size=some { cls:= .type "tuple",data:= .seq #[u,u2] }:=(sb.2 _ (Nat.ne_of_gt hzl)).trans hT
  have new:cO X.prog X.w (upd H s.heap.objs.size (.tup [x,y])) h'' s.heap.objs.size (.tup [x,y]) :=
   ⟨by show 2<=sizeLine; decide,[u,u2],.cons ru (.cons ru2 .nil),⟨_,hT2,rfl,_,rfl⟩⟩
  have I1:Inv X pins σ (upd H s.heap.objs.size (.tup [x,y])) { s with heap:=h'' } :=
   I.uR (t':=s.toks) (ch:=[z,TI,TO,i1,i2]) (fun c o hb q=>(sb.2 c (fun q'=>hb (by simp [q']))).trans (hk c o (fun q'=>hb (by simp [q'])) (fun q'=>hb (by simp [q'])) (fun q'=>hb (by simp [q'])) (fun q'=>hb (by simp [q'])) q)) hf (Nat.le_refl _) new
  refine ⟨.ref s.heap.objs.size,_,I1,rfl,⟨_,x,y,rfl,I.hok.fresh (Nat.le_refl _),rfl,fun l hl=>by rw [I.n8 hl hqx]; exact hx,fun l hl=>by rw [I.n8 hl hqy]; exact hy⟩,⟨z'',?_,⟨u,u2,?_⟩,?_,?_⟩,fun c hcm=> ?_⟩
  ·exact (sb.2 _ D.TIz).trans (hk _ _ D.TIz D.TITO D.TIi1 D.TIi2 hTI)
  ·exact (sb.2 _ D.TOz).trans TO'
  ·exact h1'.at fun o q=>(sb.2 _ D.i1z).trans q
  ·exact h2'.at fun o q=>(sb.2 _ D.i2z).trans q
  ·have hlt:c < s.heap.objs.size:=by
    have e':c=z\/c=TI\/c=TO\/c=i1\/c=i2:=by simpa using hcm
    rcases e' with q | q | q | q | q
    ·rw [q]; exact hzl
    ·rw [q]; exact Heap.lt_size hTI
    ·rw [q]; exact Heap.lt_size hTO
    ·rw [q]; obtain ⟨_,e1,_⟩:=h1; exact Heap.lt_size e1
    ·rw [q]; obtain ⟨_,e2,_⟩:=h2; exact Heap.lt_size e2
   rw [ak (Nat.ne_of_lt hlt)]
   exact (hf c hcm).1
 done:=by
  intro X hP hw hK hc i pins s σ H E I hf st hg
  subst hP hw hK
  obtain ⟨hz,hTI,⟨x0,y0,hTO⟩,h1,h2⟩:=st
  obtain ⟨xs,ys,hqx,hqy,hend⟩:=hg
  obtain ⟨its,rv,p,_⟩:=I.list hqx
  obtain ⟨its2,rv2,p2,_⟩:=I.list hqy
  have l1:=rv.length
  have l2:=rv2.length
  have he:its.toArray[i]? = none\/its2.toArray[i]? = none:=by
   rcases hend with q | q
   ·exact .inl (by simp; omega)
   ·exact .inr (by simp; omega)
  exact wpAny_pyNext_zip_end (I.ok.hd hc) D hz hTI hTO h1 h2 p.isList p2.isList he fun h' hk=>⟨rfl,I.JB (t':=s.toks) (ch:=[z,TI,TO,i1,i2]) (fun c o hb q =>
   hk c o (fun q'=>hb (by simp [q'])) (fun q'=>hb (by simp [q'])) (fun q'=>hb (by simp [q'])) (fun q'=>hb (by simp [q'])) q) hf⟩
 self:=fun A i s Q E st h=>wpAny_pyIter_zip st.1 h
def iZip (K:PySem.W.Frag) (ta:TA):TI:=fun σ H R=>ta σ H fun vs H1=>∃ a b xs ys,vs=[.ref a,.ref b]/\SqL K H1 a xs/\SqL K H1 b ys/\R (Itz K a b) H1
theorem VM {X:Cx} {e e2:Expr} {ta:TA} {p pos tpos:Pos} {elts:List Expr} {kk:Nat} (hg:Gl X "zip") (hm:X.mg "zip" = none) (ha:PA X [e,e2] ta)
  (hs:starEach [e,e2] X.env=(false,eval e X.env) :: starEach [e2] X.env:=by rfl) (hpl:(backTo pos (starEach [e2] X.env)).any (·.1)=false:=by rfl) :
  PI X (.Tuple elts kk tpos) (.Call (.Name "zip" p) [e,e2] [] pos) (iZip X.K ta):=by
 intro pins s σ H R I h
 refine Call_ (m6 I hg hm Jr (PyProof.Rows.callWith_type1 (thn (ha pos pins s σ H _ I h) fun us s1 ⟨vs,H1,I1,r1,q1⟩=> ?_) hs hpl))
 obtain ⟨a,b,xs,ys,ex,hqx,hqy,q⟩:=q1
 subst ex
 cases r1 with
 | cons r rr =>
  cases rr with
  | cons r' rr =>
   cases rr
   cases r
   cases r'
   obtain ⟨its,rv,p1,_⟩:=I1.list hqx
   obtain ⟨its2,rv2,p2,_⟩:=I1.list hqy
   have la:a < s1.heap.objs.size:=p1.lt
   have lb:b < s1.heap.objs.size:=p2.lt
   refine call_zip_2 p1.isList p2.isList fun h' hz hTI hTO h1 h2 hsz hk=>wpAny_pyIter_zip hz ?_
   have I2:Inv X pins σ H1 { s1 with heap:=h' }:=I1.kept (t':=s1.toks) hk
   refine ⟨s1.heap.objs.size + 4,[s1.heap.objs.size + 4,s1.heap.objs.size + 2,s1.heap.objs.size + 3,s1.heap.objs.size,s1.heap.objs.size + 1],_,_,H1,rfl,I2,Vp (PySem.W.ktu_apart s1.heap.objs.size a b la lb),⟨hz,hTI,⟨_,_,hTO⟩,h1,h2⟩,fun c hcm=> ?_,q⟩
   have e':c=s1.heap.objs.size + 4\/c=s1.heap.objs.size + 2\/c=s1.heap.objs.size + 3\/c=s1.heap.objs.size\/c=s1.heap.objs.size + 1:=by simpa using hcm
   have hle:s1.heap.objs.size<=c:=by
    rcases e' with z | z | z | z | z
    ·rw [z]; exact Nat.le_add_right _ _
    ·rw [z]; exact Nat.le_add_right _ _
    ·rw [z]; exact Nat.le_add_right _ _
    ·rw [z]; exact Nat.le_refl _
    ·rw [z]; exact Nat.le_add_right _ _
   exact I1.Dj hle (I1.hok.fresh hle)
end L2
section
namespace Bits
open PySem PyProof.Rows
end Bits
end
section
namespace TL
open PySem PySem.Builtin PySem.Builtin.Str PySem.StrLaws
end TL
end
namespace L2
open PySem PySem.Spec PyProof.Rows
end L2
namespace Att
open PySem PySem.W PySem.Calls PyProof.Rows
end Att
namespace L2
open PySem PySem.Spec PyProof.Rows
def inClass (s:Stmt) (j:Nat):Stmt:=match s with
 | .ClassDef _ _ _ body _ _ _ _ _ _ _=>body.getD j (.Pass ⟨0,0,0,0⟩)
 | _=> .Pass ⟨0,0,0,0⟩
def u9 (s:Stmt):Arguments:=match s with
 | .FunctionDef _ a _ _ _ _ _ _ _ _=>a
 | _=>{ posonlyargs:=[],args:=[],vararg:=none,kwonlyargs:=[],kw_defaults:=[],kwarg:=none,defaults:=[] }
def qe (s:Stmt):List Stmt:=match s with
 | .FunctionDef _ _ b _ _ _ _ _ _ _=>b
 | _=>[]
def aD (s:Stmt):Scope:=match s with
 | .FunctionDef _ _ _ _ _ _ sc _ _ _=>sc
 | _=>{ kind:= .function,names:=[],isGenerator:=false,isCoroutine:=false }
abbrev CX0:CXT:=fun _ _ _ _ _ _=>False
abbrev E0:XK:=fun _ _ _=>False
theorem Eo {X:Cx}:ql CX0 X E0:=fun _ _ _ _ _ _ _ h=>h.elim
structure Fun (K:PySem.W.Frag) (x qual:Str) (st:Stmt) (f:Addr) (fd:FuncData):Prop where
 ex:∃ (oc:Value) (od:Option Addr) (kV doc pm:Value) (an:Option Addr) (cdv ct:Value) (osl:Array (Option Value)),
  fd=PySem.W.fnOf x qual (u9 st) (qe st) (aD st) .none kV doc pm an cdv ct/\K.lookup f=some ⟨oc,od,.func fd,osl⟩/\PySem.W.codeIn K cdv qual=true
 kp:PySem.W.keepIn K (.ref f)=true
section
variable {P:Program} {w:World} {K:PySem.W.Frag} {mg:Str->Option Value} {base:Heap}
theorem Fun.ok {x qual:Str} {st:Stmt} {f:Addr} {fd:FuncData} {N ps:List Str} {k:Nat} {sp:Sp} (F:Fun K x qual st f fd) (S:aG N ps (aD st)) (len:∀ vs H Q E,sp vs H Q E->vs.length=ps.length)
    (hbody:∀ (cdv:Value) (A:Around) (outer:List Env) (s:Shared) (H:Hp) (vs:List V) (Q:VK) (E:XK),dF k (A.deeper (envOfC qual (aD st) s.heap.objs.size f cdv))->sp vs H Q E ->
      ∃ t,PSs (UW CX0 P w K mg base N qual (aD st) f cdv A outer s H E).nox (qe st) t/\t { nx:=fun _ H'=>Q .non H',rt:=Q } (start N vs) H):aY P w K mg base CX0 (k + 1) f fd ps sp:=by
  obtain ⟨oc,od,kV,doc,pm,an,cdv,ct,osl,rfl,lk,hcd⟩:=F.ex
  refine fn_of lk hcd S len fun A outer s H vs Q E hr hsp=> ?_
  obtain ⟨t,h,q⟩:=hbody cdv A outer s H vs Q E hr hsp
  exact ⟨t,h.nox,q⟩
theorem Fun.binds {x qual:Str} {st:Stmt} {f:Addr} {fd:FuncData} {ps:List Str} (F:Fun K x qual st f fd)
  (h:∀ (kV doc pm:Value) (an:Option Addr) (cdv ct:Value) (us:List Value),us.length=ps.length->bindArgs (PySem.W.fnOf x qual (u9 st) (qe st) (aD st) .none kV doc pm an cdv ct) ⟨us,[]⟩=pure (ps.zip us)):Binds K fd ps []:=by
 obtain ⟨oc,od,kV,doc,pm,an,cdv,ct,osl,rfl,lk,hcd⟩:=F.ex
 exact .all (h kV doc pm an cdv ct)
theorem abn {x qual:Str} {st:Stmt} {f:Addr} {oc:Value} {od an:Option Addr} {osl:Array (Option Value)} {kV doc pm cdv ct:Value} (l:K.lookup f=some ⟨oc,od,.func (PySem.W.fnOf x qual (u9 st) (qe st) (aD st) .none kV doc pm an cdv ct),osl⟩)
  (c:PySem.W.codeIn K cdv qual=true) (k:PySem.W.keepIn K (.ref f)=true):Fun K x qual st f (PySem.W.fnOf x qual (u9 st) (qe st) (aD st) .none kV doc pm an cdv ct):=⟨⟨oc,od,kV,doc,pm,an,cdv,ct,osl,rfl,l,c⟩,k⟩
end
theorem Wx {A:Around} {k:Nat} (hr:dF k A):A.units + 1 < cLine:=Nat.lt_of_le_of_lt (Nat.add_le_add_left (by decide:1<=64) _) hr.units
section
variable {X:Cx}
theorem pv (i:Nat) {x:Str} {pos:Pos} (hN:X.N[i]? = some x:=by rfl) (hv:Vis X.env.scope x:=by first | exact Or.inl rfl | exact Or.inr (Or.inl rfl) | exact Or.inr (Or.inr rfl)) (hd:(x == ("__debug__" : Str))=false:=by decide)
  (hcd:(x == ("__classdict__" : Str))=false:=by decide):PE X (.Name x pos) (JD i):=aaP hN hv hd hcd
theorem U6:rE X (.builtin "len") (fun xs H Q=>∃ a kvs,xs=[V.ref a]/\H a=some (.dK kvs)/\Q (.int kvs.length) H):=by
 intro pins s σ H xs us Q I r h
 obtain ⟨a,kvs,rfl,ha,q⟩:=h
 obtain ⟨u,rfl,ru⟩:=vals1 r
 cases ru
 exact d_len I (.inl ha) fun t s' I'=>⟨.int kvs.length,H,I',⟨t,rfl⟩,q⟩
end
theorem bY {A B:Prop} (h:B):if false=true then A else B:=by
 rw [if_neg Bool.false_ne_true]
 exact h
theorem bN {A B:Prop} (h:A):if true=true then A else B:=by
 rw [if_pos rfl]
 exact h
theorem ite2 {c A B:Prop} [Decidable c] (h1:c->A) (h2:¬ c->B):if c then A else B:=by
 by_cases h:c
 ·rw [if_pos h]
  exact h1 h
 ·rw [if_neg h]
  exact h2 h
def aC (H H':Hp):Prop:=∀ b o,H b=some o->H' b=some o
theorem aC.refl (H:Hp):aC H H:=fun _ _ h=>h
theorem aC.trans {H H1 H2:Hp} (a:aC H H1) (b:aC H1 H2):aC H H2:=fun c o h=>b c o (a c o h)
theorem aC.free {H H':Hp} (e:aC H H') {l:Addr} (h:H' l=Option.none):H l=Option.none:=by
 cases q:H l with
 | none=>rfl
 | some o =>
  rw [e l o q] at h
  cases h
theorem aC.seq {K:PySem.W.Frag} {H H':Hp} {a:Addr} {xs:List V} (e:aC H H') (h:SqL K H a xs):SqL K H' a xs:=by
 rcases h with (h | ⟨o,h⟩) | h
 ·exact .inl (.inl (e _ _ h))
 ·exact .inl (.inr ⟨o,e _ _ h⟩)
 ·exact .inr h
end L2
section
namespace L2
open PySem PySem.Spec PyProof.Rows
open PySem.W (WData Codec OpenSpec Well WellAll ReadsW ReadsAllW)
mutual
inductive Dw (K:PySem.W.Frag) (H:Hp):V->WData->Prop
 | non:Dw K H .non .none
 | bl (b:Bool):Dw K H (.bl b) (.bool b)
 | int (i:Int):Dw K H (.int i) (.int i)
 | str (x:Str):Dw K H (.str x) (.str x)
 | byt (b:Array UInt8):Dw K H (.byt b) (.bytes b.toList)
 | lst {a:Addr} {xs:List V} {ds:List WData}:SqL K H a xs->rD K H xs ds->Dw K H (.ref a) (.list ds)
 | tup {a:Addr} {xs:List V} {ds:List WData}:SqT K H a xs->rD K H xs ds->Dw K H (.ref a) (.tuple ds)
inductive rD (K:PySem.W.Frag) (H:Hp):List V->List WData->Prop
 | nil:rD K H [] []
 | cons {v:V} {vs:List V} {d:WData} {ds:List WData}:Dw K H v d->rD K H vs ds->rD K H (v :: vs) (d :: ds)
end
theorem R9 {K:PySem.W.Frag} {H:Hp}:∀ ns:List Int,rD K H (ns.map V.int) (ns.map WData.int)
 | []=> .nil
 | n :: r=> .cons (.int n) (R9 r)
theorem R5 {K:PySem.W.Frag} {H:Hp}:∀ (ns:List Int) (xs:List V),rD K H xs (ns.map WData.int)->xs=ns.map V.int
 | [],xs,h=>by
  cases h
  rfl
 | n :: r,xs,h=>by
  cases h with
  | cons h1 h2 =>
   cases h1
   rw [R5 r _ h2] <;> rfl
section
variable {P:Program} {w:World} {K:PySem.W.Frag} {H:Hp} {h:Heap} {R:PySem.W.WRecords} {cl:Str->Option Addr}
theorem aaD {a:Addr} {xs:List V} (hok:HOk P w H h) (KX:K.In h) (q:SqL K H a xs):∃ (its:List Value) (o:Obj) (n:Nat),Vals xs its/\h.get? a=some o/\o.cls = .type "list" /\ o.data = .seq its.toArray n:=by
 rcases q with q | ⟨o,its,n,e,hc,_,hd,_,hv⟩
 ·obtain ⟨_,its,n,hv,e⟩:=(show cO P w H h a (.lst xs) from q.ok hok)
  exact ⟨its,_,n,hv,e,rfl,rfl⟩
 ·exact ⟨its.toList,o,n,hv,KX _ _ e,hc,by simp [hd]⟩
theorem aaC {a:Addr} {xs:List V} (hok:HOk P w H h) (KX:K.In h) (q:SqT K H a xs):∃ (its:List Value) (o:Obj) (n:Nat),Vals xs its/\h.get? a=some o/\o.cls = .type "tuple" /\ o.data = .seq its.toArray n:=by
 rcases q with q | ⟨o,its,n,e,hc,hd,_,hv⟩
 ·obtain ⟨_,its,hv,o,e,hc,n,hd⟩:=(show cO P w H h a (.tup xs) from q.ok hok)
  exact ⟨its,o,n,hv,e,hc,hd⟩
 ·exact ⟨its.toList,o,n,hv,KX _ _ e,hc,by simp [hd]⟩
mutual
theorem Dw.reads (hok:HOk P w H h) (KX:K.In h):∀ (d:WData) (v:V) (u:Value),Dw K H v d->RelV v u->∃ as,ReadsW R cl h u d as
 | .none,_,_,x,r=>by
  cases x
  cases r
  exact ⟨_,ReadsW.none⟩
 | .bool b,_,_,x,r=>by
  cases x
  cases r
  exact ⟨_,ReadsW.bool b⟩
 | .int i,_,_,x,r=>by
  cases x
  obtain ⟨t,rfl⟩:=r
  exact ⟨_,ReadsW.int i t⟩
 | .str s,_,_,x,r=>by
  cases x
  obtain ⟨t,rfl⟩:=r
  exact ⟨_,ReadsW.str s t⟩
 | .bytes b,_,_,x,r=>by
  cases x
  obtain ⟨t,rfl⟩:=r
  exact ⟨_,ReadsW.bytes _ t⟩
 | .list ds,_,_,x,r=>by
  cases x with
  | lst hs ha =>
   cases r
   obtain ⟨its,o,n,rv,ho,hc,hd⟩:=aaD hok KX hs
   obtain ⟨as,hr⟩:=Dw.readsAll hok KX ds _ its ha rv
   exact ⟨_,ReadsW.list ho hc hd hr⟩
 | .tuple ds,_,_,x,r=>by
  cases x with
  | tup hs ha =>
   cases r
   obtain ⟨its,o,n,rv,ho,hc,hd⟩:=aaC hok KX hs
   obtain ⟨as,hr⟩:=Dw.readsAll hok KX ds _ its ha rv
   exact ⟨_,ReadsW.tuple ho hc hd hr⟩
 | .float _,_,_,x,_=>by cases x
 | .dict _,_,_,x,_=>by cases x
 | .bytearray _,_,_,x,_=>by cases x
 | .set _,_,_,x,_=>by cases x
 | .frozenset _,_,_,x,_=>by cases x
 | .obj _ _,_,_,x,_=>by cases x
theorem Dw.readsAll (hok:HOk P w H h) (KX:K.In h):∀ (ds:List WData) (vs:List V) (us:List Value),rD K H vs ds->Vals vs us->∃ as,ReadsAllW R cl h us ds as
 | [],_,_,x,r=>by
  cases x
  cases r
  exact ⟨_,ReadsAllW.nil⟩
 | d :: ds,_,_,x,r=>by
  cases x with
  | cons h1 h2 =>
   cases r with
   | cons r1 r2 =>
    obtain ⟨as,q1⟩:=Dw.reads hok KX d _ _ h1 r1
    obtain ⟨bs,q2⟩:=Dw.readsAll hok KX ds _ _ h2 r2
    exact ⟨_,ReadsAllW.cons q1 q2⟩
end
end
mutual
def plW:WData->Bool
 | .none=>true
 | .bool _=>true
 | .int _=>true
 | .str _=>true
 | .bytes _=>true
 | .list xs=>CV xs
 | .tuple xs=>CV xs
 | _=>false
def CV:List WData->Bool
 | []=>true
 | x :: r=>plW x && CV r
end
theorem My {α : Type} {f : α -> WData} (h:∀ a,plW (f a)=true):∀ l:List α,CV (l.map f)=true
 | []=>rfl
 | x :: r=>by
  show (plW (f x) && CV (r.map f))=true
  rw [h x,My h r] <;> rfl
theorem tU:∀ (c:Codec) (a:c.denote),plW (c.enc a)=true
 | .unit,_=>rfl
 | .bool,_=>rfl
 | .int _ _,_=>rfl
 | .nat _ _,_=>rfl
 | .u8,_=>rfl
 | .bytes _ _,_=>rfl
 | .text _ _ _ _,_=>rfl
 | .list _ _ c,a=>My (fun x=>tU c x) a
 | .pair c d,a=>by
  show (plW (c.enc a.1) && (plW (d.enc a.2) && true))=true
  rw [tU c a.1,tU d a.2] <;> rfl
 | .triple c d e,a=>by
  show (plW (c.enc a.1) && (plW (d.enc a.2.1) && (plW (e.enc a.2.2) && true)))=true
  rw [tU c a.1,tU d a.2.1,tU e a.2.2] <;> rfl
 | .option c,none=>rfl
 | .option c,some x=>tU c x
theorem Iw:∀ (cs:List Codec) (a:Codec.denoteAll cs),CV (Codec.encAll cs a)=true
 | [],_=>rfl
 | c :: cs,a=>by
  show (plW (c.enc a.1) && CV (Codec.encAll cs a.2))=true
  rw [tU c a.1,Iw cs a.2] <;> rfl
theorem wB:∀ {xs:List WData} {d:WData},d ∈ xs->d.weight<=WData.weightAll xs
 | [],d,h=>absurd h (by simp)
 | x :: r,d,h=>by
  show d.weight<=x.weight + 1 + WData.weightAll r
  rcases List.mem_cons.mp h with e | m
  ·rw [e]
   omega
  ·have z:=wB m
   omega
def toV:Value->V
 | .none=> .non
 | .bool b=> .bl b
 | .int i _=> .int i
 | .str x _=> .str x
 | .bytes b _=> .byt b
 | .ref a=> .ref a
 | _=> .non
def OkU (A:List Addr):Value->Prop
 | .none=>True
 | .bool _=>True
 | .int _ _=>True
 | .str _ _=>True
 | .bytes _ _=>True
 | .ref a=>a ∈ A
 | _=>False
theorem OkU.mono {A B:List Addr} (h:∀ a ∈ A,a ∈ B):∀ {u:Value},OkU A u->OkU B u:=fun {u} x=>by
 cases u with
 | ref a=>exact h a x
 | none=>trivial
 | bool b=>trivial
 | int i t=>trivial
 | str s t=>trivial
 | bytes b t=>trivial
 | _=>exact False.elim x
theorem Vz {A:List Addr} {u:Value} (x:OkU A u):RelV (toV u) u:=by
 cases u with
 | ref a=>rfl
 | none=>rfl
 | bool b=>rfl
 | int i t=>exact ⟨t,rfl⟩
 | str s t=>exact ⟨t,rfl⟩
 | bytes b t=>exact ⟨t,rfl⟩
 | _=>exact False.elim x
theorem nQ {A:List Addr}:∀ {vs:List Value},(∀ u ∈ vs,OkU A u)->Vals (vs.map toV) vs
 | [],_=> .nil
 | u :: r,h=> .cons (Vz (h u (List.mem_cons_self ..))) (nQ fun x hx=>h x (List.mem_cons_of_mem _ hx))
def rF (h:Heap) (A:List Addr) (a:Addr):Prop:=∃ vs:List Value,vs.length<=sizeLine/\(∀ u ∈ vs,OkU A u) /\
 (h.get? a=some { cls:= .type "list",data:= .seq vs.toArray }\/h.get? a=some { cls:= .type "tuple",data:= .seq vs.toArray })
theorem rF.mono {h:Heap} {A B:List Addr} {a:Addr} (k:∀ a ∈ A,a ∈ B) (x:rF h A a):rF h B a:=by
 obtain ⟨vs,h1,h2,h3⟩:=x
 exact ⟨vs,h1,fun u hu=>(h2 u hu).mono k,h3⟩
theorem kY {P:Params} {h:Heap}:∀ {vs:List Value} {ds:List WData},WellAll P h vs ds->vs.length=ds.length
 | _,_,.nil=>rfl
 | _,_,.cons _ b=>by
  show _ + 1=_ + 1
  rw [kY b]
theorem Ig {P:Params} {h:Heap} {v:Value} {ds:List WData} (x:Well P h v (.list ds)):∃ (a:Addr) (vs:List Value),v = .ref a/\h.get? a=some { cls:= .type "list",data:= .seq vs.toArray }/\WellAll P h vs ds:=by
 cases x with
 | list ho hall=>exact ⟨_,_,rfl,ho,hall⟩
theorem Dy {P:Params} {h:Heap} {v:Value} {ds:List WData} (x:Well P h v (.tuple ds)):∃ (a:Addr) (vs:List Value),v = .ref a/\h.get? a=some { cls:= .type "tuple",data:= .seq vs.toArray }/\WellAll P h vs ds:=by
 cases x with
 | tuple ho hall=>exact ⟨_,_,rfl,ho,hall⟩
theorem Ih {P:Params} {h:Heap} {us:List Value} {d:WData} {ds:List WData} (x:WellAll P h us (d :: ds)):∃ (v:Value) (vs:List Value),us=v :: vs/\Well P h v d/\WellAll P h vs ds:=by
 cases x with
 | cons a b=>exact ⟨_,_,rfl,a,b⟩
theorem RW {n:Nat} (h:n<=1048576):n<=sizeLine:=Nat.le_trans h (by decide)
section
variable {P:Params} {h:Heap}
mutual
theorem Xm:∀ (d:WData) (v:Value),Well P h v d->plW d=true->d.weight<=1048576->∃ A:List Addr,OkU A v/\∀ a ∈ A,rF h A a
 | .none,_,x,_,_=>by
  cases x
  exact ⟨[],trivial,fun a m=>absurd m (by simp)⟩
 | .bool b,_,x,_,_=>by
  cases x
  exact ⟨[],trivial,fun a m=>absurd m (by simp)⟩
 | .int i,_,x,_,_=>by
  cases x
  exact ⟨[],trivial,fun a m=>absurd m (by simp)⟩
 | .str s,_,x,_,_=>by
  cases x
  exact ⟨[],trivial,fun a m=>absurd m (by simp)⟩
 | .bytes b,_,x,_,_=>by
  cases x
  exact ⟨[],trivial,fun a m=>absurd m (by simp)⟩
 | .list ds,_,x,p,z=>by
  obtain ⟨a,vs,rfl,ho,hall⟩:=Ig x
  have z2:WData.weightAll ds<=1048576:=z
  obtain ⟨A,h1,h2⟩:=zc ds _ hall p fun d hd=>Nat.le_trans (wB hd) z2
  have k:∀ b ∈ A,b ∈ a :: A:=fun b hb=>List.mem_cons_of_mem _ hb
  refine ⟨a :: A,List.mem_cons_self ..,fun b hb=> ?_⟩
  rcases List.mem_cons.mp hb with e | m
  ·rw [e]
   exact ⟨vs,RW (by rw [kY hall]; exact Nat.le_trans (PySem.W.length_le_weightAllW ds) z2),fun u hu=>(h1 u hu).mono k,.inl ho⟩
  ·exact (h2 b m).mono k
 | .tuple ds,_,x,p,z=>by
  obtain ⟨a,vs,rfl,ho,hall⟩:=Dy x
  have z2:WData.weightAll ds<=1048576:=z
  obtain ⟨A,h1,h2⟩:=zc ds _ hall p fun d hd=>Nat.le_trans (wB hd) z2
  have k:∀ b ∈ A,b ∈ a :: A:=fun b hb=>List.mem_cons_of_mem _ hb
  refine ⟨a :: A,List.mem_cons_self ..,fun b hb=> ?_⟩
  rcases List.mem_cons.mp hb with e | m
  ·rw [e]
   exact ⟨vs,RW (by rw [kY hall]; exact Nat.le_trans (PySem.W.length_le_weightAllW ds) z2),fun u hu=>(h1 u hu).mono k,.inr ho⟩
  ·exact (h2 b m).mono k
 | .float _,_,_,p,_=>Bool.noConfusion (show false=true from p)
 | .dict _,_,_,p,_=>Bool.noConfusion (show false=true from p)
 | .bytearray _,_,_,p,_=>Bool.noConfusion (show false=true from p)
 | .set _,_,_,p,_=>Bool.noConfusion (show false=true from p)
 | .frozenset _,_,_,p,_=>Bool.noConfusion (show false=true from p)
 | .obj _ _,_,_,p,_=>Bool.noConfusion (show false=true from p)
theorem zc:∀ (ds:List WData) (vs:List Value),WellAll P h vs ds->CV ds=true->(∀ d ∈ ds,d.weight<=1048576)->∃ A:List Addr,(∀ u ∈ vs,OkU A u)/\∀ a ∈ A,rF h A a
 | [],_,x,_,_=>by
  cases x
  exact ⟨[],fun u m=>absurd m (by simp),fun a m=>absurd m (by simp)⟩
 | d :: ds,_,x,p,z=>by
  obtain ⟨v,vs,rfl,x1,x2⟩:=Ih x
  have q:plW d=true/\CV ds=true:=Bool.and_eq_true_iff.mp p
  obtain ⟨A,a1,a2⟩:=Xm d v x1 q.1 (z d (List.mem_cons_self ..))
  obtain ⟨B,b1,b2⟩:=zc ds vs x2 q.2 fun e he=>z e (List.mem_cons_of_mem _ he)
  have kA:∀ b ∈ A,b ∈ A++B:=fun b hb=>List.mem_append.mpr (.inl hb)
  have kB:∀ b ∈ B,b ∈ A++B:=fun b hb=>List.mem_append.mpr (.inr hb)
  refine ⟨A++B,fun u hu=> ?_,fun b hb=> ?_⟩
  ·rcases List.mem_cons.mp hu with e | m
   ·rw [e]
    exact a1.mono kA
   ·exact (b1 u m).mono kB
  ·rcases List.mem_append.mp hb with m | m
   ·exact (a2 b m).mono kA
   ·exact (b2 b m).mono kB
end
end
def Y0 (o:Obj):Option HO:=match o.data with
 | .seq vs _=>if (o.cls == Value.type "list")=true then some (.frz o (.lst (vs.toList.map toV))) else some (.frz o (.tup (vs.toList.map toV)))
 | _=>none
def qg (K:PySem.W.Frag) (h:Heap) (A:List Addr):Hp:=fun b=>if b ∈ A then (if (K.lookup b).isNone=true then (h.get? b).bind Y0 else none) else none
def O4 (H:Hp):Prop:=∀ b,H b=none\/∃ o u,H b=some (.frz o u)
theorem Nv (vs:List Value):Y0 { cls:= .type "list",data:= .seq vs.toArray }=some (.frz { cls:= .type "list",data:= .seq vs.toArray } (.lst (vs.map toV))):=by
 show (if (Value.type "list" == Value.type "list")=true then some (HO.frz { cls:= .type "list",data:= .seq vs.toArray } (.lst (vs.toArray.toList.map toV))) else some (HO.frz { cls:= .type "list",data:= .seq vs.toArray } (.tup (vs.toArray.toList.map toV))))=_
 rw [if_pos (beq_self_eq_true _)]
theorem Nu (vs:List Value):Y0 { cls:= .type "tuple",data:= .seq vs.toArray }=some (.frz { cls:= .type "tuple",data:= .seq vs.toArray } (.tup (vs.map toV))):=by
 show (if (Value.type "tuple" == Value.type "list")=true then some (HO.frz { cls:= .type "tuple",data:= .seq vs.toArray } (.lst (vs.toArray.toList.map toV))) else some (HO.frz { cls:= .type "tuple",data:= .seq vs.toArray } (.tup (vs.toArray.toList.map toV))))=_
 rw [if_neg (by decide)]
section
variable {P:Program} {w:World} {K:PySem.W.Frag} {h:Heap} {A:List Addr}
theorem Du {b:Addr} {o:Obj} (hb:b ∈ A) (hk:K.lookup b=none) (e:h.get? b=some o):qg K h A b=Y0 o:=by
 unfold qg
 rw [if_pos hb,hk,if_pos (show (none:Option Obj).isNone=true from rfl),e] <;> rfl
theorem YL {b:Addr} {u:HO} (q:qg K h A b=some u):b ∈ A/\K.lookup b=none:=by
 unfold qg at q
 by_cases hb:b ∈ A
 ·rw [if_pos hb] at q
  cases hk:K.lookup b with
  | none=>exact ⟨hb,rfl⟩
  | some o =>
   rw [hk,if_neg (by simp)] at q
   cases q
 ·rw [if_neg hb] at q
  cases q
theorem Dt (ar:∀ a ∈ A,rF h A a) {b:Addr} {u:HO} (q:qg K h A b=some u):K.lookup b=none/\∃ vs:List Value,vs.length<=sizeLine/\(∀ u ∈ vs,OkU A u) /\
    ((h.get? b=some { cls:= .type "list",data:= .seq vs.toArray }/\u = .frz { cls:= .type "list",data:= .seq vs.toArray } (.lst (vs.map toV))) \/
     (h.get? b=some { cls:= .type "tuple",data:= .seq vs.toArray }/\u = .frz { cls:= .type "tuple",data:= .seq vs.toArray } (.tup (vs.map toV)))):=by
  obtain ⟨hb,hk⟩:=YL q
  obtain ⟨vs,h1,h2,h3⟩:=ar b hb
  refine ⟨hk,vs,h1,h2,?_⟩
  rcases h3 with e | e
  · rw [Du hb hk e,Nv] at q
    exact .inl ⟨e,(Option.some.inj q).symm⟩
  · rw [Du hb hk e,Nu] at q
    exact .inr ⟨e,(Option.some.inj q).symm⟩
theorem U8 (ar:∀ a ∈ A,rF h A a):O4 (qg K h A):=fun b=>by
 cases q:qg K h A b with
 | none=>exact .inl rfl
 | some u =>
  obtain ⟨_,vs,_,_,⟨_,e⟩ | ⟨_,e⟩⟩:=Dt ar q
  ·exact .inr ⟨_,_,by rw [e]⟩
  ·exact .inr ⟨_,_,by rw [e]⟩
theorem ZV (ar:∀ a ∈ A,rF h A a):HOk P w (qg K h A) h:=fun b u q=>by
 obtain ⟨_,vs,h1,h2,⟨e,rfl⟩ | ⟨e,rfl⟩⟩:=Dt ar q
 ·exact ⟨e,by rw [List.length_map]; exact h1,vs,_,nQ h2,e⟩
 ·exact ⟨e,by rw [List.length_map]; exact h1,vs,nQ h2,_,e,rfl,_,rfl⟩
theorem Dm {c c':Value} {vs us:List Value} (e:(some { cls:=c,data:= .seq vs.toArray }:Option Obj)=some { cls:=c',data:= .seq us.toArray }):c=c'/\vs=us:=by
 have e1:=Option.some.inj e
 have e2:c=c':=congrArg Obj.cls e1
 have e3:Data.seq vs.toArray=Data.seq us.toArray:=congrArg Obj.data e1
 injection e3 with e4
 refine ⟨e2,?_⟩
 have e5:=congrArg Array.toList e4
 simpa using e5
theorem argL (KX:K.In h) (ar:∀ a ∈ A,rF h A a) {a:Addr} {vs:List Value} (ha:a ∈ A) (e:h.get? a=some { cls:= .type "list",data:= .seq vs.toArray }):(∀ u ∈ vs,OkU A u)/\SqL K (qg K h A) a (vs.map toV):=by
 obtain ⟨us,h1,h2,h3⟩:=ar a ha
 have hu:us=vs:=by
  rcases h3 with q | q
  ·rw [e] at q
   exact (Dm q).2.symm
  ·rw [e] at q
   exact absurd (Value.type.inj (Dm q).1) (by decide)
 subst hu
 refine ⟨h2,?_⟩
 cases hk:K.lookup a with
 | none=>exact .inl (.inr ⟨_,by rw [Du ha hk e,Nv]⟩)
 | some o =>
  have e2:=KX a o hk
  rw [e] at e2
  obtain rfl:=Option.some.inj e2
  exact .inr ⟨_,us.toArray,_,hk,rfl,rfl,rfl,by rw [List.size_toArray]; exact h1,by simpa using nQ h2⟩
theorem argT (KX:K.In h) (ar:∀ a ∈ A,rF h A a) {a:Addr} {vs:List Value} (ha:a ∈ A) (e:h.get? a=some { cls:= .type "tuple",data:= .seq vs.toArray }):(∀ u ∈ vs,OkU A u)/\SqT K (qg K h A) a (vs.map toV):=by
 obtain ⟨us,h1,h2,h3⟩:=ar a ha
 have hu:us=vs:=by
  rcases h3 with q | q
  ·rw [e] at q
   exact absurd (Value.type.inj (Dm q).1) (by decide)
  ·rw [e] at q
   exact (Dm q).2.symm
 subst hu
 refine ⟨h2,?_⟩
 cases hk:K.lookup a with
 | none=>exact .inl (.inr ⟨_,by rw [Du ha hk e,Nu]⟩)
 | some o =>
  have e2:=KX a o hk
  rw [e] at e2
  obtain rfl:=Option.some.inj e2
  exact .inr ⟨_,us.toArray,_,hk,rfl,rfl,by rw [List.size_toArray]; exact h1,by simpa using nQ h2⟩
mutual
theorem abw {Pm:Params} (KX:K.In h) (ar:∀ a ∈ A,rF h A a):∀ (d:WData) (v:Value),Well Pm h v d->plW d=true->OkU A v->Dw K (qg K h A) (toV v) d
 | .none,_,x,_,_=>by
  cases x
  exact .non
 | .bool b,_,x,_,_=>by
  cases x
  exact .bl b
 | .int i,_,x,_,_=>by
  cases x
  exact .int i
 | .str s,_,x,_,_=>by
  cases x
  exact .str s
 | .bytes b,_,x,_,_=>by
  cases x
  have z:=Dw.byt (K:=K) (H:=qg K h A) b.toArray
  exact z
 | .list ds,_,x,p,hu=>by
  obtain ⟨a,vs,rfl,ho,hall⟩:=Ig x
  obtain ⟨h2,hs⟩:=argL KX ar hu ho
  exact .lst hs (Lb KX ar ds _ hall p h2)
 | .tuple ds,_,x,p,hu=>by
  obtain ⟨a,vs,rfl,ho,hall⟩:=Dy x
  obtain ⟨h2,hs⟩:=argT KX ar hu ho
  exact .tup hs (Lb KX ar ds _ hall p h2)
 | .float _,_,_,p,_=>Bool.noConfusion (show false=true from p)
 | .dict _,_,_,p,_=>Bool.noConfusion (show false=true from p)
 | .bytearray _,_,_,p,_=>Bool.noConfusion (show false=true from p)
 | .set _,_,_,p,_=>Bool.noConfusion (show false=true from p)
 | .frozenset _,_,_,p,_=>Bool.noConfusion (show false=true from p)
 | .obj _ _,_,_,p,_=>Bool.noConfusion (show false=true from p)
theorem Lb {Pm:Params} (KX:K.In h) (ar:∀ a ∈ A,rF h A a):∀ (ds:List WData) (vs:List Value),WellAll Pm h vs ds->CV ds=true->(∀ u ∈ vs,OkU A u)->rD K (qg K h A) (vs.map toV) ds
 | [],_,x,_,_=>by
  cases x
  exact .nil
 | d :: ds,_,x,p,hu=>by
  obtain ⟨v,vs,rfl,x1,x2⟩:=Ih x
  have q:plW d=true/\CV ds=true:=Bool.and_eq_true_iff.mp p
  exact .cons (abw KX ar d v x1 q.1 (hu _ (List.mem_cons_self ..))) (Lb KX ar ds vs x2 q.2 fun u m=>hu u (List.mem_cons_of_mem _ m))
end
end
theorem Tq {P:Program} {w:World} {K:PySem.W.Frag} {mg mb:Str->Option Value} {CX:CXT} {k:Nat} {fa:Addr} {fd:FuncData} {ps:List Str} {sp:Sp} {s₁ : Shared} {vals:List Value} {ds:List WData} {R:PySem.W.WRecords} {cl:Str->Option Addr} {d0:WData}
  (KX:K.In s₁.heap) (hns:s₁.heap.Ns mainGlobals mg) (hb:s₁.heap.Ns builtinsNs mb) (hbb:∀ x:Str,x ≠ "__name__" -> mb x=bootBuiltins x) (hlim:s₁.heap.NoLimit) (hg:s₁.gens = #[])
  (hwl:WellAll w.params s₁.heap vals ds) (hpl:CV ds=true) (hwt:∀ d ∈ ds,d.weight<=1048576) (hr:dF k callerA)
  (F:∀ base:Heap,K.In base->base.Ns mainGlobals mg->aY P w K mg base CX k fa fd ps sp) (hbind:∀ (s:Shared) (us:List Value),us.length=ps.length->BindsTo s fd ⟨us,[]⟩ (ps.zip us)) (hlen:ds.length=ps.length)
  (hsp:∀ (H:Hp) (xs:List V),O4 H->rD K H xs ds->sp xs H (fun v H'=>Dw K H' v d0) fun _ _ _=>False)
  (hCX:∀ H e s',CX [] H s₁ (fun _ _ _=>False) e s'->False) :
  codeAny (model P w) callerA (.call (.ref fa) ⟨vals,[]⟩) (fun r s'=>∃ u as,r = .ok (.ret u)/\ReadsW R cl s'.heap u d0 as/\OldK s₁.heap s'.heap/\s'.os=s₁.os/\AllBare s'.gens) s₁ := by
 obtain ⟨A,ho,ar⟩:=zc ds vals hwl hpl hwt
 have hO:O4 (qg K s₁.heap A):=U8 ar
 have hok:HOk P w (qg K s₁.heap A) s₁.heap:=ZV ar
 have hS:=Lb KX ar ds vals hwl hpl ho
 have hV:=nQ ho
 have hK:∀ b u,qg K s₁.heap A b=some u->K.lookup b=none:=fun b u q=>(Dt ar q).1
 have noA:∀ {b:Addr} {o:Obj} {es:Array DictEntry} {ep:Nat},s₁.heap.get? b=some o->o.data = .dict es ep->qg K s₁.heap A b=none:=fun {b o es ep} e d=>by
  cases q:qg K s₁.heap A b with
  | none=>rfl
  | some u =>
   obtain ⟨_,vs,_,_,⟨e2,_⟩ | ⟨e2,_⟩⟩:=Dt ar q
   ·rw [e2] at e
    cases e
    have d':Data.seq vs.toArray _=Data.dict es ep:=d
    cases d'
   ·rw [e2] at e
    cases e
    have d':Data.seq vs.toArray _=Data.dict es ep:=d
    cases d'
 generalize qg K s₁.heap A=H at hO hok hS hK noA
 have base_of:∀ {b:Addr} {o:Obj},s₁.heap.get? b=some o->H b=none->(KC s₁.heap H).get? b=some o:=fun e n=>Wy e n
 have nsK:∀ {b:Addr} {m:Str->Option Value},s₁.heap.Ns b m->(KC s₁.heap H).Ns b m:=fun {b m} ⟨o,es,ep,e,d,r⟩=>⟨o,es,ep,base_of e (noA e d),d,r⟩
 have nK:∀ b o,K.lookup b=some o->H b=none:=fun b o e=>by
  cases q:H b with
  | none=>rfl
  | some u =>
   rw [hK b u q] at e
   cases e
 have hKb:K.In (KC s₁.heap H):=fun b o e=>base_of (KX b o e) (nK b o e)
 have hM:Mod K mg (KC s₁.heap H):=⟨hKb,nsK hns,⟨mb,nsK hb,hbb⟩,let ⟨mc,h1,h2⟩:=hlim; ⟨mc,nsK h1,h2⟩⟩
 have e0:O6 P w K mg (KC s₁.heap H) callerA [] s₁ H:=⟨rfl,hM,fun b o e=>YK e,Nat.le_of_eq (Ul _ _),trivial,fun b hb=>absurd (show b ∈ ([]:List Addr) from hb) (by simp),hok,.of_eq hg⟩
 have hl:vals.length=ps.length:=by rw [kY hwl]; exact hlen
 refine codeAny_mono ((F _ hKb (nsK hns)).run callerA [] s₁ H ⟨vals,[]⟩ vals (vals.map toV) _ _ hr e0 (hbind s₁ vals hl) hV (hsp H _ hO hS)) fun r s' x=> ?_
 cases r with
 | error e=>exact (hCX H e s' x).elim
 | ok fl =>
  cases fl with
  | next=>exact False.elim x
  | brk=>exact False.elim x
  | cont=>exact False.elim x
  | ret u =>
   obtain ⟨v,H',os,bare,un,hok',r',q⟩:=x
   have kept:∀ b o,s₁.heap.get? b=some o->s'.heap.get? b=some o:=fun b o e=>by
    cases q2:H b with
    | none=>exact un.keep b o e q2 (by intro z; exact absurd (show b ∈ ([]:List Addr) from z) (by simp)) (by simp)
    | some u2 =>
     rcases hO b with z | ⟨ob,u3,z⟩
     ·rw [q2] at z
      cases z
     ·have z2:=un.Di b ob _ z
      obtain ⟨e1,_⟩:=hok b _ z
      obtain ⟨e2,_⟩:=hok' b _ z2
      rw [e] at e1
      cases e1
      exact e2
   have KX':K.In s'.heap:=fun b o e=>kept b o (KX b o e)
   obtain ⟨as,hrd⟩:=Dw.reads (R:=R) (cl:=cl) hok' KX' d0 v u q r'
   exact ⟨u,as,rfl,hrd,OldK.of_keep kept,os,bare⟩
theorem Fp {ds:List WData} (h:WData.layableAll ds=true):∀ d ∈ ds,d.weight<=1048576:=fun d hd =>
 (PySem.W.layableW_iff.mp (List.all_eq_true.mp h d hd)).2.2
theorem FW:∀ (cs:List Codec) (a:Codec.denoteAll cs),(Codec.encAll cs a).length=cs.length
 | [],_=>rfl
 | c :: cs,a=>by
  show (Codec.encAll cs a.2).length + 1=cs.length + 1
  rw [FW cs a.2]
theorem S9 {r:OpenSpec} {k:Nat} {q:Program} {loose:List Str} {XP:(Str->Option Value)->Heap->Prop} {YP:World->Heap->Prop} {d:DefRec} {K:Params->PySem.W.Frag} {CX:World->CXT} {ps:List Str} {sp:World->Sp}
    (hwell:r.wellSaid=true) (hdf:d.params.defaults=[]) (hlen:r.args.length=ps.length) (hr:dF k callerA)
    (hY:∀ (w:World) (h:Heap),YP w h->(K w.params).In h)
    (F:∀ (w:World) (mg:Str->Option Value) (fa:Addr) (h:Heap),YP w h->(K w.params).In h->h.Ns mainGlobals mg->mg d.name=some (.ref fa) ->
      ∃ fd:FuncData,(∀ (s:Shared) (us:List Value),us.length=ps.length->BindsTo s fd ⟨us,[]⟩ (ps.zip us)) /\
        ∀ base:Heap,(K w.params).In base->base.Ns mainGlobals mg->aY r.prog w (K w.params) mg base (CX w) k fa fd ps (sp w))
    (hsp:∀ (w:World) (H:Hp) (xs:List V) (a:Codec.denoteAll r.args),O4 H->Codec.withinAll r.args a=true->Codec.app r.args r.asked a=true->rD (K w.params) H xs (Codec.encAll r.args a) ->
      sp w xs H (fun v H'=>Dw (K w.params) H' v (r.ret.enc (Codec.app r.args r.f a))) fun _ _ _=>False)
    (hCX:∀ (w:World) (H:Hp) (s:Shared) (e:Value) (s':Shared),CX w [] H s (fun _ _ _=>False) e s'->False) :
    PySem.W.WalkOS q loose XP YP r d [] (fun f vs=>PySem.call f vs):=by
  intro w s_0 s₁ mg mb G Y fa o pm cd doc dV kV ho hd hcd hD hmg hg args vals as hpre hlay hrd hwl hlo
  obtain ⟨a,e1,e2⟩:=PySem.W.os_pre_some hpre
  obtain ⟨e3,hwi⟩:=Codec.encAll_of_decAll r.args args a e1
  subst e3
  have KX:=hY w _ Y
  obtain ⟨fd,hb,hF⟩:=F w mg fa _ Y KX G.T.g hmg
  refine PySem.W.enter_call (codeAny_mono (Tq (R:=[]) (cl:=classAt s_0.heap) (d0:=r.ret.enc (Codec.app r.args r.f a)) KX G.T.g G.T.b G.T.builtins G.T.nolimit hg hwl (Iw _ _) (Fp hlay) hr hF hb (by rw [FW]; exact hlen)
    (fun H xs hO hS=>hsp w H xs a hO hwi e2 hS) fun H e s'=>hCX w H s₁ e s') fun r' s' hq=> ?_)
  obtain ⟨u,as',rfl,h1,h2,h3,h4⟩:=hq
  exact ⟨.inl ⟨u,_,as',rfl,fun _=>rfl,h1,(OpenSpec.post_iff hwell hwi _ _).mpr rfl,fun z=>Bool.noConfusion (show false=true from z)⟩,h2,h3,h4⟩
theorem Pq {r:OpenSpec} {k:Nat} {q:Program} {loose:List Str} {XP:(Str->Option Value)->Heap->Prop} {YP:World->Heap->Prop} {d:DefRec} {K:Params->PySem.W.Frag} {CX:CXT} {ps:List Str} {sp:PySem.W.Frag->Sp}
    (hwell:r.wellSaid=true) (hdf:d.params.defaults=[]) (hlen:r.args.length=ps.length) (hr:dF k callerA)
    (hY:∀ (w:World) (h:Heap),YP w h->(K w.params).In h)
    (F:∀ (w:World) (mg:Str->Option Value) (fa:Addr) (h:Heap),YP w h->(K w.params).In h->h.Ns mainGlobals mg->mg d.name=some (.ref fa) ->
      ∃ fd:FuncData,(∀ (s:Shared) (us:List Value),us.length=ps.length->BindsTo s fd ⟨us,[]⟩ (ps.zip us)) /\
        ∀ base:Heap,(K w.params).In base->base.Ns mainGlobals mg->aY r.prog w (K w.params) mg base CX k fa fd ps (sp (K w.params)))
    (hsp:∀ (K:PySem.W.Frag) (H:Hp) (xs:List V) (a:Codec.denoteAll r.args),O4 H->Codec.withinAll r.args a=true->Codec.app r.args r.asked a=true->rD K H xs (Codec.encAll r.args a) ->
      sp K xs H (fun v H'=>Dw K H' v (r.ret.enc (Codec.app r.args r.f a))) fun _ _ _=>False)
    (hCX:∀ (H:Hp) (s:Shared) (e:Value) (s':Shared),CX [] H s (fun _ _ _=>False) e s'->False) :
    PySem.W.WalkOS q loose XP YP r d [] (fun f vs=>PySem.call f vs) :=
  S9 (K:=K) (CX:=fun _=>CX) (sp:=fun w=>sp (K w.params)) hwell hdf hlen hr hY F (fun w H xs a h1 h2 h3 h4=>hsp (K w.params) H xs a h1 h2 h3 h4) fun _ H s e s'=>hCX H s e s'
end L2
end
namespace L2
open PySem PySem.Spec PyProof.Rows
def aaA (X:Cx) (tf:TE) (t:TA):TE:=fun σ H Q=>tf σ H fun x H1=>∃ (f:Addr) (CX:CXT) (k:Nat) (fd:FuncData) (ps:List Str) (sp:Sp) (E:XK),x = .ref f /\
 PySem.W.keepIn X.K (.ref f)=true/\aY X.prog X.w X.K X.mg X.base CX k f fd ps sp/\dF k X.A/\Binds X.K fd ps []/\ql CX X E/\t σ H1 fun vs H2=>sp vs H2 Q E
section
variable {X:Cx}
theorem MF {x:Str} {p pos:Pos} {e:Expr} {es:List Expr} {tf:TE} {t:TA} (hf:PE X (.Name x p) tf) (ha:PA X (e :: es) t)
  (he:starEach (e :: es) X.env=(false,eval e X.env) :: starEach es X.env:=by rfl) (hpl:(backTo pos (starEach es X.env)).any (·.1)=false:=by rfl) :
  PE X (.Call (.Name x p) (e :: es) [] pos) (aaA X tf t):=by
 intro pins s σ H Q I h
 refine wpAny_Call_Name_kw (thn (hf pins s σ H _ I h) fun fv s1 hfv=> ?_)
 obtain ⟨v,H1,I1,rv,f,CX,k,fd,ps,sp,E,ev,hk,F,hr,hb,hx,q⟩:=hfv
 subst ev
 obtain rfl:fv=Value.ref f:=rv
 refine PySem.W.callWith_K (h₀ := X.base) I.ok.mod.kin hk (thn (ha pos pins s1 σ H1 _ I1 q) fun us s2 ⟨vs,H2,I2,r,q2⟩=>⟨I2.kIn,?_⟩) he hpl
 refine JT (dvs:=[]) F hr hb .nil hx I2 r ?_
 rw [List.append_nil]
 exact q2
def VF (K:PySem.W.Frag):List V->Hp->VK->Prop:=fun vs H Q=>∃ (a:Addr) (ns:List Int),vs=[V.ref a]/\SqL K H a (ns.map V.int) /\
 ∀ (ns':List Int) (p:Addr),ns'.Perm ns->ns'.Pairwise (· <= ·)->H p=none->Q (.ref p) (upd H p (.lst (ns'.map V.int)))
theorem wZ:rE X (.builtin "sorted") (VF X.K):=by
 intro pins s σ H vs us Q I r h
 obtain ⟨a,ns,rfl,hs,q⟩:=h
 obtain ⟨its,rv,hl,hz⟩:=I.list hs
 rw [Vals.PP r]
 have hi:=rv.ints
 have hz2:its.length<=sizeLine:=by rw [<-rv.length]; exact hz
 rw [List.length_map] at hz
 refine PyProof.Rows.sorted_intsAny hl.isList hi hz2 fun out ns' h1 h2 h3=> ?_
 obtain ⟨ep,he'⟩:=PyProof.Rows.sortedAll_at s.heap its out
 have hlen:(ns'.map V.int).length<=sizeLine:=by rw [List.length_map,h2.length_eq]; exact hz
 exact ⟨.ref _,upd H (s.heap.objs.size + 1) (.lst (ns'.map V.int)),I.laid (t':=s.toks) (fun _ _=>PyProof.Rows.sortedAll_old) (Nat.le_succ _) ⟨hlen,out.toList,ep,xr h1,he'⟩,rfl,q ns' _ h2 h3 (I.hok.fresh (Nat.le_succ _))⟩
end
section
variable {prog:Program} {w:World} {A:Around} {E:Value->Shared->Prop} {s:Shared}
theorem W9 {e it:Addr} {c:Int} {x old:Value} {Nx:Heap->Prop} {Q:Value->Shared->Prop} (he:IsEnum s.heap e it c old) (hne:e ≠ it)
    (step:∀ {Q':Value->Shared->Prop},(∀ g,Nx g->Heap.SameBut it s.heap g->Q' x { s with heap:=g })->wpAny (model prog w) A (Builtin.SmallTypes.nextOf (.ref it)) Q' E s)
    (kN:∀ g g',Nx g->(∀ o,g.get? it=some o->g'.get? it=some o)->Nx g') (hi:∃ o,s.heap.get? it=some o)
    (fin:∀ g,IsEnumOut g e it (c + 1) x s.heap.objs.size->Nx g->g.get? s.heap.objs.size=some { cls:= .type "tuple",data:= .seq #[.int c s.toks,x] }->g.objs.size=s.heap.objs.size + 1 ->
      (∀ b o,b ≠ e->b ≠ it->s.heap.get? b=some o->g.get? b=some o)->Q (.ref s.heap.objs.size) { s with heap:=g,toks:=s.toks + 1 }) :
    wpAny (model prog w) A (Builtin.«enumerate.__next__» ⟨[.ref e],[]⟩) (fun fn s'=>∃ v,fn = .done (.ret v)/\Q v s') E s:=by
  obtain ⟨h0,gn,dd,tk,os⟩:=s
  have hel:e < h0.objs.size:=Heap.lt_size he
  have hil:it < h0.objs.size:=by obtain ⟨o,ho⟩:=hi; exact Heap.lt_size ho
  show wpAny _ _ (field (.ref e) 2 >>= _) _ _ _
  refine wpAny_bind (wpAny_field he rfl (x:= .ref it) rfl ?_)
  refine wpAny_bind (step fun g1 n1 b1=> ?_)
  replace b1:Heap.SameBut it h0 g1:=b1
  have e1:IsEnum g1 e it c old:=(b1.2 e hne).trans he
  show wpAny _ _ (field (.ref e) 3 >>= _) _ _ ⟨g1,gn,dd,tk,os⟩
  refine wpAny_bind (wpAny_field e1 rfl (x:=rawInt c) rfl ?_)
  show wpAny _ _ (field (.ref e) 4 >>= _) _ _ ⟨g1,gn,dd,tk,os⟩
  refine wpAny_bind (wpAny_field e1 rfl (x:= .none) rfl ?_)
  show wpAny _ _ (mkInt c >>= _) _ _ ⟨g1,gn,dd,tk,os⟩
  refine wpAny_bind (wpAny_mkInt ?_)
  show wpAny _ _ (setField (.ref e) 3 (rawInt (c + 1)) >>= _) _ _ ⟨g1,gn,dd,tk + 1,os⟩
  refine wpAny_bind (wpAny_setField_rec e1 (by simp) fun g2 e2 b2=> ?_)
  replace b2:Heap.SameBut e g1 g2:=b2
  replace e2:IsEnum g2 e it (c + 1) old:=e2
  show wpAny _ _ (setField (.ref e) 4 .none >>= _) _ _ ⟨g2,gn,dd,tk + 1,os⟩
  refine wpAny_bind (wpAny_setField_rec e2 (by simp) fun g3 e3 b3=> ?_)
  replace b3:Heap.SameBut e g2 g3:=b3
  replace e3:IsEnum g3 e it (c + 1) old:=e3
  show wpAny _ _ (newTuple [.int c tk,x] >>= _) _ _ ⟨g3,gn,dd,tk + 1,os⟩
  refine wpAny_bind (wpAny_newTuple ?_)
  have e4:IsEnum (g3.push { cls:= .type "tuple",data:= .seq #[.int c tk,x] }) e it (c + 1) old:=Heap.get?_push_of_some _ e3
  have hsz:g3.objs.size=h0.objs.size:=by rw [b3.1,b2.1,b1.1]
  have t4:(g3.push { cls:= .type "tuple",data:= .seq #[.int c tk,x] }).get? h0.objs.size=some { cls:= .type "tuple",data:= .seq #[.int c tk,x] }:=by rw [<-hsz]; exact Heap.get?_push_size _ rfl
  have z4:(g3.push { cls:= .type "tuple",data:= .seq #[.int c tk,x] }).objs.size=h0.objs.size + 1:=by rw [Heap.size_push,hsz]
  have k4:∀ b o,b ≠ e->b ≠ it->h0.get? b=some o->(g3.push { cls:= .type "tuple",data:= .seq #[.int c tk,x] }).get? b=some o:=fun b o q1 q2 q =>
    Heap.get?_push_of_some _ (b3.extBut b o q1 (b2.extBut b o q1 (b1.extBut b o q2 q)))
  have n4:Nx (g3.push { cls:= .type "tuple",data:= .seq #[.int c tk,x] }):=kN _ _ n1 fun o q=>Heap.get?_push_of_some _ (b3.extBut it o (Ne.symm hne) (b2.extBut it o (Ne.symm hne) q))
  generalize hg4:g3.push { cls:= .type "tuple",data:= .seq #[.int c tk,x] }=g4 at e4 t4 z4 k4 n4
  show wpAny _ _ (Builtin.SmallTypes.ownedTupleIsFree (.ref e) >>= _) _ _ ⟨g4,gn,dd,tk + 1,os⟩
  rw [hsz]
  refine wpAny_bind ?_
  unfold Builtin.SmallTypes.ownedTupleIsFree
  refine wpAny_bind (wpAny_field e4 rfl (x:= .none) rfl (wpAny_pure ?_))
  simp only [if_true]
  refine wpAny_bind (wpAny_rule ?_)
  refine wpAny_bind (wpAny_field e4 rfl (x:=old) rfl ?_)
  refine wpAny_bind (wpAny_setField_rec e4 (by simp) fun g5 e5 b5=> ?_)
  replace b5:Heap.SameBut e g4 g5:=b5
  replace e5:IsEnum g5 e it (c + 1) x:=e5
  show wpAny _ _ (Builtin.SmallTypes.ownedTupleHandOut (.ref e) (.ref h0.objs.size) >>= _) _ _ ⟨g5,gn,dd,tk + 1,os⟩
  refine wpAny_bind ?_
  unfold Builtin.SmallTypes.ownedTupleHandOut
  refine wpAny_bind (wpAny_setField_rec e5 (by simp) fun g6 e6 b6=> ?_)
  replace b6:Heap.SameBut e g5 g6:=b6
  replace e6:IsEnumOut g6 e it (c + 1) x h0.objs.size:=e6
  refine wpAny_setField_rec e6 (by simp) fun g7 e7 b7=> ?_
  replace b7:Heap.SameBut e g6 g7:=b7
  replace e7:IsEnumOut g7 e it (c + 1) x h0.objs.size:=e7
  refine wpAny_bind (wpAny_letGo (wpAny_pure ⟨_,rfl,fin g7 e7 ?_ ?_ ?_ ?_⟩))
  · exact kN _ _ n4 fun o q=>b7.extBut it o (Ne.symm hne) (b6.extBut it o (Ne.symm hne) (b5.extBut it o (Ne.symm hne) q))
  · exact b7.extBut _ _ (Nat.ne_of_gt hel) (b6.extBut _ _ (Nat.ne_of_gt hel) (b5.extBut _ _ (Nat.ne_of_gt hel) t4))
  · rw [b7.1,b6.1,b5.1,z4]
  · exact fun b o q1 q2 q=>b7.extBut b o q1 (b6.extBut b o q1 (b5.extBut b o q1 (k4 b o q1 q2 q)))
theorem Xa {e it:Addr} {c:Int} {x old:Value} {Nx:Heap->Prop} {Q:Option Value->Shared->Prop} (he:IsEnum s.heap e it c old) (hne:e ≠ it)
    (step:∀ {Q':Value->Shared->Prop} {E':Value->Shared->Prop} {A':Around},A'.handled=A.handled->(∀ g,Nx g->Heap.SameBut it s.heap g->Q' x { s with heap:=g })->wpAny (model prog w) A' (Builtin.SmallTypes.nextOf (.ref it)) Q' E' s)
    (kN:∀ g g',Nx g->(∀ o,g.get? it=some o->g'.get? it=some o)->Nx g') (hi:∃ o,s.heap.get? it=some o)
    (fin:∀ g,IsEnumOut g e it (c + 1) x s.heap.objs.size->Nx g->g.get? s.heap.objs.size=some { cls:= .type "tuple",data:= .seq #[.int c s.toks,x] }->g.objs.size=s.heap.objs.size + 1 ->
      (∀ b o,b ≠ e->b ≠ it->s.heap.get? b=some o->g.get? b=some o)->Q (some (.ref s.heap.objs.size)) { s with heap:=g,toks:=s.toks + 1 }) :
    wpAny (model prog w) A (pyNext (.ref e)) Q E s:=by
  have hT:s.TypeIs (.ref e) "enumerate" := ⟨_,he,rfl⟩
  unfold pyNext
  refine wpAny_bind (wpAny_attempt (wpAny_callSpecial?_slot (name:=Str.ofString "__next__") hT F.slot_enumerate_next (wpAny_call_entry F.slot_enumerate_next hT F.entry_enumerate_next ?_ (F.args_enumerate_next_1 _))))
  exact W9 he hne (step rfl) kN hi fun g a1 a2 a3 a4 a5=>wpAny_pure (fin g a1 a2 a3 a4 a5)
theorem Zy {e it:Addr} {c:Int} {old:Value} {Q:Option Value->Shared->Prop} (he:IsEnum s.heap e it c old)
  (step:∀ {Q':Value->Shared->Prop} {E':Value->Shared->Prop} {A':Around},A'.handled=A.handled->(∀ g x,Heap.ExtBut it s.heap g->(∃ o,g.get? x=some o/\o.cls = .type "StopIteration")->E' (.ref x) { s with heap:=g })->wpAny (model prog w) A' (Builtin.SmallTypes.nextOf (.ref it)) Q' E' s)
  (fin:∀ g,Heap.ExtBut it s.heap g->Q none { s with heap:=g }):wpAny (model prog w) A (pyNext (.ref e)) Q E s:=by
 have hT:s.TypeIs (.ref e) "enumerate" := ⟨_,he,rfl⟩
 unfold pyNext
 refine wpAny_bind (wpAny_attempt (wpAny_callSpecial?_slot (name:=Str.ofString "__next__") hT F.slot_enumerate_next (wpAny_call_entry F.slot_enumerate_next hT F.entry_enumerate_next ?_ (F.args_enumerate_next_1 _))))
 show wpAny _ _ (field (.ref e) 2 >>= _) _ _ _
 refine wpAny_bind (wpAny_field he rfl (x:= .ref it) rfl ?_)
 refine wpAny_bind (step rfl fun g x q hx=> ?_)
 obtain ⟨o,ho,hc⟩:=hx
 refine wpAny_bind (wpAny_isInstance (T := "StopIteration") (b:=true) ⟨o,ho,hc⟩ isSubtype_stop ?_)
 exact wpAny_pure (fin _ q)
end
section
variable {prog:Program} {w:World} {A:Around} {E:Value->Shared->Prop} {s:Shared}
theorem M6 {it t:Addr} {i:Nat} {items:Array Value} {x:Value} {Q:Value->Shared->Prop} (hit:IsTupIter s.heap it t i) (ht:IsTup s.heap t items) (hx:items[i]? = some x)
  (fin:∀ g,IsTupIter g it t (i + 1)->Heap.SameBut it s.heap g->Q x { s with heap:=g }) :
  wpAny (model prog w) A (Builtin.SmallTypes.nextOf (.ref it)) Q E s:=by
 obtain ⟨oi,qi,ci,di⟩:=id hit
 obtain ⟨ot,qt,ct,nt,dt⟩:=ht
 unfold Builtin.SmallTypes.nextOf
 refine wpAny_bind (wpAny_callSpecial?_slot (name:=Str.ofString "__next__") hit.typeIs slot_tupleiter_next
  (wpAny_call_entry slot_tupleiter_next hit.typeIs entry_tupleiter_next ?_ (args_tupleiter_next _)))
 show wpAny _ _ (field (.ref it) 0 >>= _) _ _ s
 refine wpAny_bind (wpAny_field qi di (x:= .ref t) rfl ?_)
 show wpAny _ _ (if (Value.ref t == Value.none)=true then _ else _) _ _ s
 rw [if_neg (show ¬ ((Value.ref t == Value.none)=true) from Bool.false_ne_true)]
 show wpAny _ _ (field (.ref it) 1 >>= _) _ _ s
 refine wpAny_bind (wpAny_field qi di (x:= .int i 0) rfl ?_)
 show wpAny _ _ (seqItems? (.ref t) >>= _) _ _ s
 refine wpAny_bind (wpAny_seqItems qt dt ?_)
 simp only [Int.toNat_natCast,hx]
 refine wpAny_bind (wpAny_setField qi di (by simp) (wpAny_pure ⟨x,rfl,wpAny_pure (fin _ ?_ (Heap.SameBut.update ..))⟩))
 exact ⟨_,Heap.get?_update_self _ qi (Obj.isFreed_of_fields (Obj.data_mapFields di _)),(Obj.cls_mapFields ..).trans ci,by
  rw [Obj.data_mapFields di]; simp [rawInt]⟩
theorem RM {it t:Addr} {i:Nat} {items:Array Value} {Q:Value->Shared->Prop} (hh:A.handled=none) (hit:IsTupIter s.heap it t i) (ht:IsTup s.heap t items) (hx:items[i]? = none)
  (fin:∀ g x,Heap.ExtBut it s.heap g->(∃ o,g.get? x=some o/\o.cls = .type "StopIteration")->E (.ref x) { s with heap:=g }) :
  wpAny (model prog w) A (Builtin.SmallTypes.nextOf (.ref it)) Q E s:=by
 obtain ⟨oi,qi,ci,di⟩:=id hit
 obtain ⟨ot,qt,ct,nt,dt⟩:=ht
 unfold Builtin.SmallTypes.nextOf
 refine wpAny_bind (wpAny_callSpecial?_slot (name:=Str.ofString "__next__") hit.typeIs slot_tupleiter_next
  (wpAny_call_entry slot_tupleiter_next hit.typeIs entry_tupleiter_next ?_ (args_tupleiter_next _)))
 show wpAny _ _ (field (.ref it) 0 >>= _) _ _ s
 refine wpAny_bind (wpAny_field qi di (x:= .ref t) rfl ?_)
 show wpAny _ _ (if (Value.ref t == Value.none)=true then _ else _) _ _ s
 rw [if_neg (show ¬ ((Value.ref t == Value.none)=true) from Bool.false_ne_true)]
 show wpAny _ _ (field (.ref it) 1 >>= _) _ _ s
 refine wpAny_bind (wpAny_field qi di (x:= .int i 0) rfl ?_)
 show wpAny _ _ (seqItems? (.ref t) >>= _) _ _ s
 refine wpAny_bind (wpAny_seqItems qt dt ?_)
 simp only [Int.toNat_natCast,hx]
 refine wpAny_bind (wpAny_rule (wpAny_bind (wpAny_setField qi di (by simp) ?_)))
 show wpAny _ _ (newExc (.type "StopIteration") [] >>= _) _ _ _
 refine wpAny_bind ?_
 simp only [newExc,newTuple]
 refine wpAny_bind (wpAny_newObj_type ?_ (by size_fits))
 refine wpAny_bind (m:=firstArgMember _ _) (wpAny_of_eq (a:=Value.none) (by first | rfl | (simp only [firstArgMember]; rfl)) ?_)
 refine wpAny_newObj_type ?_ (by size_fits)
 simp only [raiseNew]
 refine wpAny_bind (wpAny_handled ?_)
 first | rw [show A.in1.handled=none from hh] | rw [hh]
 refine wpAny_bind (wpAny_pure (wpAny_throw ?_))
 exact fin _ _ (((Heap.SameBut.update ..).extBut.push _).push _) ⟨_,Heap.get?_push_size _ rfl,rfl⟩
theorem Kz {T newId:String} {self:Value} {rest:List Value} {kw:List (Str × Value)} (hl:typeLookup (.type T) "__init__" = pure (some (.builtin "object.__init__")))
  (hm:Bind.madeBy (.type T)=pure (some newId)) (hne:(some newId != some "object.__new__")=true) :
  Meets (Builtin.«object.__init__» ⟨self :: rest,kw⟩) (fun _ R s=>s.TypeIs self T/\R (.ok (.ret .none)) s):=by
 refine Meets.of_wp fun prog w A R s hs=> ?_
 obtain ⟨hT,hq⟩:=hs
 cases rest with
 | nil =>
  cases kw with
  | nil=>exact wpAny_pure ⟨_,rfl,hq⟩
  | cons k kw =>
   repeat (any_goals (first | assumption | wp_step))
   exact ⟨_,rfl,hq⟩
 | cons a rest =>
  cases kw with
  | nil =>
   repeat (any_goals (first | assumption | wp_step))
   exact ⟨_,rfl,hq⟩
  | cons k kw =>
   repeat (any_goals (first | assumption | wp_step))
   exact ⟨_,rfl,hq⟩
theorem Vo {T newId:String} {Bn:Builtin} {args:List Value} {kw:List (Str × Value)} {S:PySem.Spec} {Q:Value->Shared->Prop} (ft:TypeCalled T newId "object.__init__")
  (hne:(some newId != some "object.__new__")=true) (hct:checkTypeCall T ⟨args,kw⟩=pure ()) (hcn:checkBuiltinCall newId ⟨.type T :: args,kw⟩=pure ())
  (hok:∀ obj,argsOk "object.__init__" ⟨obj :: args,kw⟩) (entryN:entryFor table newId=some Bn) (g:Meets (Bn ⟨.type T :: args,kw⟩) S)
  (h:S A.in1 (wants (fun obj s1=>s1.TypeIs obj T/\Q obj s1) E) s):wpAny (model prog w) A (call (.type T) args kw) Q E s:=by
 obtain ⟨c,tl,hmro⟩:=ft.mro
 have hmade:=ft.made
 have hsub:=ft.sub
 refine wpAny_call (codeAny_of_tree ?_)
 show wpAny _ _ (callAny (.type T) _) _ _ _
 refine wpAny_pure ⟨Code.quiet_builtin _ (by decide +kernel),codeAny_builtin F.entry_type_call ?_⟩
 rw [Around.under_plain (weight_type_call_type T args kw) (units_type_call_type T args kw)]
 have h1:=ft.notType
 have h2:=ft.canCreate
 repeat (any_goals (first | assumption | wp_step))
 refine codeAny_mono (codeAny_call_builtin ft.plain entryN (wpAny_of_eq hcn (g prog w A.in1 _ s h))) fun r s1 hr=> ?_
 cases r with
 | error e=>exact hr
 | ok fl =>
  cases fl with
  | ret obj =>
   obtain ⟨hT,hq1⟩:=hr
   have gi:=Kz (self:=obj) (rest:=args) (kw:=kw) ft.init.lookup ft.made hne
   have hli:=ft.init.lookup
   have hbi:=ft.init.bind obj
   repeat (any_goals (first | assumption | wp_step))
   have hsi:(fun (_:Around) R (s:Shared)=>s.TypeIs obj T/\R (.ok (.ret .none)) s) A.in1 (wants (fun v s2=>v = .none/\Q obj s2) E) s1:=⟨hT,rfl,hq1⟩
   refine codeAny_mono (codeAny_call_builtin ft.init.plain F.entry_object_init (ft.init.check _ _ _ _ _ _ _ _ hT (hok obj) (gi prog w A.in1 (wants (fun v s2=>v = .none/\Q obj s2) E) s1 hsi))) fun r2 s2 hr2=> ?_
   cases r2 with
   | error e=>exact hr2
   | ok fl2 =>
    cases fl2 with
    | ret r =>
     obtain ⟨rfl,hq⟩:=hr2
     repeat (any_goals (first | assumption | wp_step))
    | _=>exact hr2.elim
  | _=>exact hr.elim
end
end L2
namespace L2
open PySem PyProof.Rows
open PySem.AutoSeq1 (wpAny_loadPart')
theorem jJ (a v:Value):checkTypeCall "enumerate" ⟨[a],[(Str.ofString "start",v)]⟩=pure ():=by kernel_rfl
theorem j7 (a v:Value):checkBuiltinCall "enumerate.__new__" ⟨[.type "enumerate",a],[(Str.ofString "start",v)]⟩=pure ():=by kernel_rfl
theorem qY (o a v:Value):argsOk "object.__init__" ⟨[o,a],[(Str.ofString "start",v)]⟩:=by unfold argsOk; kernel_rfl
theorem Nk (l:Addr) (items:Array Value) (n:Nat) (dct:Option Addr) (sl:Array (Option Value)) (tk:Tok) :
  Meets (Builtin.«enumerate.__new__» ⟨[.type "enumerate",.ref l],[(Str.ofString "start",.int 1 tk)]⟩) (fun _ R s=>s.heap.get? l=some { cls:= .type "list",dict:=dct,data:= .seq items n,slots:=sl } /\
   R (.ok (.ret (.ref (s.heap.push { cls:= .type "list_iterator",data:= .fields #[.ref l,.int 0 0] }).objs.size)))
    { s with heap:=(s.heap.push { cls:= .type "list_iterator",data:= .fields #[.ref l,.int 0 0] }).push { cls:= .type "enumerate",data:= .fields #[.none,.bool false,.ref s.heap.objs.size,rawInt 1,.none,.none] } }) :=
 .of_wp fun prog w A R s h=>by
  obtain ⟨hp,g,d,tk,os⟩:=s; obtain ⟨hl,h⟩:=h
  have hsub:=sub_enumerate
  have hL:Heap.IsList (Shared.heap ⟨hp,g,d,tk,os⟩) l items:=⟨_,hl,rfl,n,rfl⟩
  wp_walk using wpAny_loadPart' hl
  refine wpAny_stack_any fun st=>wpAny_pure ?_
  split
  ·rename_i c _ _ _ _ _
   cases (c == Value.type "enumerate")
   ·wp_walk using wpAny_loadPart' hl,wpAny_pyIter_list hL
    exact ⟨_,rfl,h⟩
   ·wp_walk using wpAny_loadPart' hl,wpAny_pyIter_list hL
    exact ⟨_,rfl,h⟩
  ·wp_walk using wpAny_loadPart' hl,wpAny_pyIter_list hL
   exact ⟨_,rfl,h⟩
theorem Nj (l:Addr) (items:Array Value) (n:Nat) (dct:Option Addr) (sl:Array (Option Value)) (tk:Tok) :
  Meets (Builtin.«enumerate.__new__» ⟨[.type "enumerate",.ref l],[(Str.ofString "start",.int 1 tk)]⟩) (fun _ R s=>s.heap.get? l=some { cls:= .type "tuple",dict:=dct,data:= .seq items n,slots:=sl } /\
   R (.ok (.ret (.ref (s.heap.push { cls:= .type "tuple_iterator",data:= .fields #[.ref l,.int 0 0] }).objs.size)))
    { s with heap:=(s.heap.push { cls:= .type "tuple_iterator",data:= .fields #[.ref l,.int 0 0] }).push { cls:= .type "enumerate",data:= .fields #[.none,.bool false,.ref s.heap.objs.size,rawInt 1,.none,.none] } }) :=
 .of_wp fun prog w A R s h=>by
  obtain ⟨hp,g,d,tk,os⟩:=s; obtain ⟨hl,h⟩:=h
  have hsub:=sub_enumerate
  have hL:IsTup (Shared.heap ⟨hp,g,d,tk,os⟩) l items:=⟨_,hl,rfl,n,rfl⟩
  wp_walk using wpAny_loadPart' hl
  refine wpAny_stack_any fun st=>wpAny_pure ?_
  split
  ·rename_i c _ _ _ _ _
   cases (c == Value.type "enumerate")
   ·wp_walk using wpAny_loadPart' hl,iter_tuple hL
    exact ⟨_,rfl,h⟩
   ·wp_walk using wpAny_loadPart' hl,iter_tuple hL
    exact ⟨_,rfl,h⟩
  ·wp_walk using wpAny_loadPart' hl,iter_tuple hL
   exact ⟨_,rfl,h⟩
section
variable {prog:Program} {w:World} {A:Around} {E:Value->Shared->Prop} {s:Shared}
theorem QX {l:Addr} {items:Array Value} {tk:Tok} {Q:Value->Shared->Prop} (hL:s.heap.IsList l items)
    (fin:∀ g,IsEnum g (s.heap.objs.size + 1) s.heap.objs.size 1 .none->g.IsListIter s.heap.objs.size l 0->g.objs.size=s.heap.objs.size + 2 ->
      (∀ b o,s.heap.get? b=some o->g.get? b=some o)->Q (.ref (s.heap.objs.size + 1)) { s with heap:=g }) :
    wpAny (model prog w) A (call (.type "enumerate") [.ref l] [(Str.ofString "start",.int 1 tk)]) Q E s:=by
  obtain ⟨⟨c,dct,dt,sl⟩,hl,hc,n,hd⟩:=hL
  replace hc:c = .type "list" := hc
  replace hd:dt = .seq items n:=hd
  subst hc hd
  refine Vo F.called_enumerate (by decide) (jJ _ _) (j7 _ _) (fun obj=>qY obj _ _) F.entry_enumerate_new (Nk l items n dct sl tk) ⟨hl,?_⟩
  have hz:(s.heap.push { cls:= .type "list_iterator",data:= .fields #[.ref l,.int 0 0] }).objs.size=s.heap.objs.size + 1:=Heap.size_push ..
  show _/\_
  rw [hz]
  have he:IsEnum ((s.heap.push { cls:= .type "list_iterator",data:= .fields #[.ref l,.int 0 0] }).push
      { cls:= .type "enumerate",data:= .fields #[.none,.bool false,.ref s.heap.objs.size,rawInt 1,.none,.none] }) (s.heap.objs.size + 1) s.heap.objs.size 1 .none:=by
    have q:=Heap.get?_push_size (s.heap.push { cls:= .type "list_iterator",data:= .fields #[.ref l,.int 0 0] })
      (o:={ cls:= .type "enumerate",data:= .fields #[.none,.bool false,.ref s.heap.objs.size,rawInt 1,.none,.none] }) rfl
    rw [hz] at q; exact q
  exact ⟨⟨_,he,rfl⟩,fin _ he ⟨_,Heap.get?_push_of_some _ (Heap.get?_push_size _ rfl),rfl,rfl⟩ (by rw [Heap.size_push,hz]) fun b o x=>Heap.get?_push_of_some _ (Heap.get?_push_of_some _ x)⟩
theorem QW {l:Addr} {items:Array Value} {tk:Tok} {Q:Value->Shared->Prop} (hL:IsTup s.heap l items)
    (fin:∀ g,IsEnum g (s.heap.objs.size + 1) s.heap.objs.size 1 .none->IsTupIter g s.heap.objs.size l 0->g.objs.size=s.heap.objs.size + 2 ->
      (∀ b o,s.heap.get? b=some o->g.get? b=some o)->Q (.ref (s.heap.objs.size + 1)) { s with heap:=g }) :
    wpAny (model prog w) A (call (.type "enumerate") [.ref l] [(Str.ofString "start",.int 1 tk)]) Q E s:=by
  obtain ⟨⟨c,dct,dt,sl⟩,hl,hc,n,hd⟩:=hL
  replace hc:c = .type "tuple" := hc
  replace hd:dt = .seq items n:=hd
  subst hc hd
  refine Vo F.called_enumerate (by decide) (jJ _ _) (j7 _ _) (fun obj=>qY obj _ _) F.entry_enumerate_new (Nj l items n dct sl tk) ⟨hl,?_⟩
  have hz:(s.heap.push { cls:= .type "tuple_iterator",data:= .fields #[.ref l,.int 0 0] }).objs.size=s.heap.objs.size + 1:=Heap.size_push ..
  show _/\_
  rw [hz]
  have he:IsEnum ((s.heap.push { cls:= .type "tuple_iterator",data:= .fields #[.ref l,.int 0 0] }).push
      { cls:= .type "enumerate",data:= .fields #[.none,.bool false,.ref s.heap.objs.size,rawInt 1,.none,.none] }) (s.heap.objs.size + 1) s.heap.objs.size 1 .none:=by
    have q:=Heap.get?_push_size (s.heap.push { cls:= .type "tuple_iterator",data:= .fields #[.ref l,.int 0 0] })
      (o:={ cls:= .type "enumerate",data:= .fields #[.none,.bool false,.ref s.heap.objs.size,rawInt 1,.none,.none] }) rfl
    rw [hz] at q; exact q
  exact ⟨⟨_,he,rfl⟩,fin _ he ⟨_,Heap.get?_push_of_some _ (Heap.get?_push_size _ rfl),rfl,rfl⟩ (by rw [Heap.size_push,hz]) fun b o x=>Heap.get?_push_of_some _ (Heap.get?_push_of_some _ x)⟩
end
end L2
namespace L2
open PySem PySem.Spec PyProof.Rows
def U9 (sq:Hp->List V->Prop):It :=
 ⟨fun i H=>∃ (xs:List V) (x:V),sq H xs/\xs[i]? = some x,fun i H v H'=>∃ T x,v = .ref T/\H T=none/\H'=upd H T (.tup [.int ((i:Nat) + 1),x])/\∀ xs,sq H xs->xs[i]? = some x,fun i H=>∃ xs:List V,sq H xs/\xs.length<=i⟩
theorem Lz {P:Program} {w:World} {K:PySem.W.Frag} {elts:List Expr} {kk:Nat} {tpos:Pos} (sq:Hp->List V->Prop) (e it:Addr) (ti:Nat->Heap->Prop)
    (hob:∀ i h,ti i h->∃ o,h.get? it=some o/\∀ v,o.data ≠ .cell v) (hkp:∀ i h h',ti i h->(∀ o,h.get? it=some o->h'.get? it=some o)->ti i h')
    (hitem:∀ (X:Cx),X.prog=P->X.w=w->X.K=K->X.calm=true->∀ (i:Nat) (pins:List (Addr × Obj)) (s:Shared) (σ : St) (H:Hp) (xs:List V) (x:V),Inv X pins σ H s->ti i s.heap->sq H xs->xs[i]? = some x->∃ u,RelV x u /\
      ∀ {Q':Value->Shared->Prop} {E':Value->Shared->Prop} {A':Around},A'.handled=X.A.handled->(∀ g,ti (i + 1) g->Heap.SameBut it s.heap g->Q' u { s with heap:=g })->wpAny (model P w) A' (Builtin.SmallTypes.nextOf (.ref it)) Q' E' s)
    (hend:∀ (X:Cx),X.prog=P->X.w=w->X.K=K->X.calm=true->∀ (i:Nat) (pins:List (Addr × Obj)) (s:Shared) (σ : St) (H:Hp) (xs:List V),Inv X pins σ H s->ti i s.heap->sq H xs->xs.length<=i ->
      ∀ {Q':Value->Shared->Prop} {E':Value->Shared->Prop} {A':Around},A'.handled=X.A.handled->(∀ g x,Heap.ExtBut it s.heap g->(∃ o,g.get? x=some o/\o.cls = .type "StopIteration")->E' (.ref x) { s with heap:=g })->wpAny (model P w) A' (Builtin.SmallTypes.nextOf (.ref it)) Q' E' s)
    (hinj:∀ (X:Cx),X.K=K->∀ (pins:List (Addr × Obj)) (s:Shared) (σ : St) (H:Hp) (xs ys:List V),Inv X pins σ H s->sq H xs->sq H ys->xs=ys) :
    Turn P w K (.Tuple elts kk tpos) (U9 sq) [e,it] e (fun i h=>(∃ old,IsEnum h e it ((i:Nat) + 1) old)/\ti i h/\e ≠ it) where
  mem:=by simp
  obj:=fun i h st b hb=>by
    obtain ⟨⟨old,he⟩,ht,_⟩:=st
    have e':b=e\/b=it:=by simpa using hb
    rcases e' with z | z
    · rw [z]; exact ⟨_,he,fun v q=>nomatch q⟩
    · rw [z]; exact hob i h ht
  keep:=fun i h h' st k=>let ⟨⟨old,he⟩,hi,hne⟩:=st; ⟨⟨old,k e (by simp) _ he⟩,hkp i h h' hi fun o q=>k it (by simp) o q,hne⟩
  item:=by
    intro X hP hw hK hc i pins s σ H E I hf st hg
    obtain ⟨⟨old,he⟩,hit,hne⟩:=st
    obtain ⟨xs,x,hq,hx⟩:=hg
    obtain ⟨u,ru,stp⟩:=hitem X hP hw hK hc i pins s σ H xs x I hit hq hx
    have hel:e < s.heap.objs.size:=Heap.lt_size he
    have hio:=hob i _ hit
    have hil:it < s.heap.objs.size:=by obtain ⟨_,q,_⟩:=hio; exact Heap.lt_size q
    refine Xa (Nx:=ti (i + 1)) he hne stp (fun g g' a k=>hkp _ g g' a k) ⟨_,hio.choose_spec.1⟩ fun h' ho hit' hT hsz hk=> ?_
    refine ⟨_,rfl,wpAny_letOwnedTupleGo_enum (s:={ s with heap:=h',toks:=s.toks + 1 }) ho fun h'' he' sb=> ?_⟩
    have hT2:h''.get? s.heap.objs.size=some { cls:= .type "tuple",data:= .seq #[.int ((i:Nat) + 1) s.toks,u] }:=(sb.2 _ (Nat.ne_of_gt hel)).trans hT
    have new:cO X.prog X.w (upd H s.heap.objs.size (.tup [.int ((i:Nat) + 1),x])) h'' s.heap.objs.size (.tup [.int ((i:Nat) + 1),x]) :=
      ⟨by show 2<=sizeLine; decide,[.int ((i:Nat) + 1) s.toks,u],.cons ⟨_,rfl⟩ (.cons ru .nil),⟨_,hT2,rfl,_,rfl⟩⟩
    have I1:Inv X pins σ (upd H s.heap.objs.size (.tup [.int ((i:Nat) + 1),x])) { s with heap:=h'',toks:=s.toks + 1 } :=
      I.uR (ch:=[e,it]) (fun b ob hb q=>(sb.2 b (fun z=>hb (by simp [z]))).trans (hk b ob (fun z=>hb (by simp [z])) (fun z=>hb (by simp [z])) q)) hf (Nat.le_refl _) new
    refine ⟨.ref s.heap.objs.size,_,I1,rfl,⟨_,x,rfl,I.hok.fresh (Nat.le_refl _),rfl,fun ys hy=>by rw [hinj X hK pins s σ H ys xs I hy hq]; exact hx⟩,⟨⟨u,?_⟩,hkp _ h' h'' hit' (fun o q=>(sb.2 it (Ne.symm hne)).trans q),hne⟩,fun b hb=> ?_⟩
    · have e1:((i + 1:Nat):Int) + 1=(i:Int) + 1 + 1:=by omega
      rw [e1]; exact he'
    · have hb':b < s.heap.objs.size:=by
        have e':b=e\/b=it:=by simpa using hb
        rcases e' with z | z
        · rw [z]; exact hel
        · rw [z]; exact hil
      rw [ak (Nat.ne_of_lt hb')]
      exact (hf b hb).1
  done:=by
    intro X hP hw hK hc i pins s σ H E I hf st hg
    obtain ⟨⟨old,he⟩,hit,hne⟩:=st
    obtain ⟨xs,hq,hx⟩:=hg
    obtain ⟨f0,f1,f2,f3,f4,f5⟩:=hf it (by simp)
    exact Zy he (hend X hP hw hK hc i pins s σ H xs I hit hq hx) fun h' eb=>⟨rfl,I.turned (t':=s.toks) (fun b o hb q=>eb b o hb q) f0 f1 f3 f4 f5⟩
  self:=fun A i s Q E st h=>let ⟨⟨_,he⟩,_⟩:=st; wpAny_pyIter_enum he h
theorem Ti {P:Program} {w:World} {K:PySem.W.Frag} {elts:List Expr} {kk:Nat} {tpos:Pos} (a e it:Addr) :
  Turn P w K (.Tuple elts kk tpos) (U9 fun H xs=>SqL K H a xs) [e,it] e (fun i h=>(∃ old,IsEnum h e it ((i:Nat) + 1) old)/\h.IsListIter it a i/\e ≠ it):=by
 refine Lz _ e it (fun i h=>h.IsListIter it a i) ?_ ?_ ?_ ?_ ?_
 ·rintro i h ⟨o,ho,hc,hd⟩
  exact ⟨o,ho,fun v q=>by rw [hd] at q; cases q⟩
 ·intro i h h' q k
  exact q.at k
 ·intro X hP hw hK hc i pins s σ H xs x I hit hq hx
  subst hP hw hK
  obtain ⟨its,rv,p,hz⟩:=I.list hq
  obtain ⟨u,hu,ru⟩:=rv.get hx
  exact ⟨u,ru,fun {Q' E' A'} _ fin=>wpAny_nextOf_list_item hit p.isList (x:=u) (by simpa using hu) fin⟩
 ·intro X hP hw hK hc i pins s σ H xs I hit hq hx Q' E' A' hA fin
  subst hP hw hK
  obtain ⟨its,rv,p,hz⟩:=I.list hq
  have hl:=rv.length
  exact wpAny_nextOf_list_end (hA.trans (I.ok.hd hc)) hit p.isList (by simp; omega) fin
 ·intro X hK pins s σ H xs ys I h1 h2
  subst hK
  exact I.n8 h1 h2
theorem Th {P:Program} {w:World} {K:PySem.W.Frag} {elts:List Expr} {kk:Nat} {tpos:Pos} (a e it:Addr) :
  Turn P w K (.Tuple elts kk tpos) (U9 fun H xs=>SqT K H a xs) [e,it] e (fun i h=>(∃ old,IsEnum h e it ((i:Nat) + 1) old)/\IsTupIter h it a i/\e ≠ it):=by
 refine Lz _ e it (fun i h=>IsTupIter h it a i) ?_ ?_ ?_ ?_ ?_
 ·rintro i h ⟨o,ho,hc,hd⟩
  exact ⟨o,ho,fun v q=>by rw [hd] at q; cases q⟩
 ·rintro i h h' ⟨o,ho,r⟩ k
  exact ⟨o,k o ho,r⟩
 ·intro X hP hw hK hc i pins s σ H xs x I hit hq hx
  subst hP hw hK
  obtain ⟨its,rv,p,hz⟩:=I.tuple hq
  obtain ⟨u,hu,ru⟩:=rv.get hx
  exact ⟨u,ru,fun {Q' E' A'} _ fin=>M6 hit p (x:=u) (by simpa using hu) fin⟩
 ·intro X hP hw hK hc i pins s σ H xs I hit hq hx Q' E' A' hA fin
  subst hP hw hK
  obtain ⟨its,rv,p,hz⟩:=I.tuple hq
  have hl:=rv.length
  exact RM (hA.trans (I.ok.hd hc)) hit p (by simp; omega) fin
 ·intro X hK pins s σ H xs ys I h1 h2
  subst hK
  exact I.zR h1 h2
theorem Jq {M:Model} {A:Around} {E:Value->Shared->Prop} {s:Shared} {env:Env} {pos:Pos} {T:String} {e:Expr} {rest:List Expr} {kws:List Keyword} {Q:Value->Shared->Prop}
    (h:wpAny M A (spliced (backTo pos (starEach (e :: rest) env))) (fun vs s1=>wpAny M A (evalAll ((backToKw pos (keywordEach kws env)).map (·.2)))
      (fun kvs s2=>wpAny M A (call (.type T) vs (((backToKw pos (keywordEach kws env)).filterMap (·.1)).zip kvs)) Q E s2) E s1) E s)
    (he:backTo pos (starEach (e :: rest) env)=(false,eval e env) :: backTo pos (starEach rest env):=by rfl)
    (hplain:(backTo pos (starEach (e :: rest) env)).any (·.1)=false:=by rfl)
    (hall:(backToKw pos (keywordEach kws env)).all (·.1.isSome)=true:=by rfl)
    (hkw:(backToKw pos (keywordEach kws env)).any (·.1.isNone)=false:=by rfl) :
    wpAny M A (callWith pos (.type T) [] (backTo pos (starEach (e :: rest) env)) (backToKw pos (keywordEach kws env))) Q E s:=by
  unfold callWith
  have q:wpAny M A (evalArgs (.type T) true (backTo pos (starEach (e :: rest) env)) (backToKw pos (keywordEach kws env))) (fun a s1=>wpAny M A (call (.type T) ([]++a.pos) a.kw) Q E s1) E s:=by
    rw [he] at h ⊢
    exact evalArgs_kwB hall h
  refine wpAny_bind (wpAny_holding (wpAny_mono q (fun a s1 h1=>wpAny_bind (wpAny_standAt ?_)) fun _ _ x=>x))
  simp only [hplain,hkw,Bool.or_false]
  refine wpAny_bind (wpAny_pure ?_)
  exact wpAny_bind (wpAny_mono h1 (fun r s2 hr=>wpAny_bind (wpAny_holding (wpAny_point (wpAny_pure hr)))) fun _ _ x=>x)
def iEnsL (K:PySem.W.Frag) (ta tk:TA):TI:=fun σ H R=>ta σ H fun vs H1=>tk σ H1 fun ks H2=>∃ a xs,vs=[.ref a]/\ks=[.int 1]/\SqL K H2 a xs/\R (U9 fun H xs=>SqL K H a xs) H2
def iEnsT (K:PySem.W.Frag) (ta tk:TA):TI:=fun σ H R=>ta σ H fun vs H1=>tk σ H1 fun ks H2=>∃ a xs,vs=[.ref a]/\ks=[.int 1]/\SqT K H2 a xs/\R (U9 fun H xs=>SqT K H a xs) H2
theorem J0 {X:Cx} {e:Expr} {kws:List Keyword} {ta tk:TA} {p pos tpos:Pos} {elts:List Expr} {kk:Nat} (hg:Gl X "enumerate") (hm:X.mg "enumerate" = none) (ha:PA X [e] ta) (hk:PK X kws tk)
  (hks:(backToKw pos (keywordEach kws X.env)).filterMap (·.1)=[Str.ofString "start"]:=by rfl) (hall:(backToKw pos (keywordEach kws X.env)).all (·.1.isSome)=true:=by rfl)
  (hkw:(backToKw pos (keywordEach kws X.env)).any (·.1.isNone)=false:=by rfl)
  (hs:starEach [e] X.env=[(false,eval e X.env)]:=by rfl) :
  PI X (.Tuple elts kk tpos) (.Call (.Name "enumerate" p) [e] kws pos) (iEnsL X.K ta tk):=by
 intro pins s σ H R I h
 refine wpAny_Call_Name_kw (m6 I hg hm boot_enumerate ?_)
 refine Jq (thn (ha pos pins s σ H _ I h) fun us s1 ⟨vs,H1,I1,r1,q1⟩=>thn (hk pos pins s1 σ H1 _ I1 q1) fun ws s2 ⟨zs,H2,I2,r2,q2⟩=> ?_) (by rw [hs]; rfl) (by rw [hs]; rfl) hall hkw
 obtain ⟨a,xs,ex,ez,hq,q⟩:=q2
 subst ex ez
 rw [hks]
 cases r1 with
 | cons r rr =>
  cases rr
  cases r
  cases r2 with
  | cons r' rr' =>
   cases rr'
   obtain ⟨tk',rfl⟩:=r'
   obtain ⟨its,rv,p',hz⟩:=I2.list hq
   refine QX p'.isList fun h' he hit hsz hkp=>wpAny_pyIter_enum he ?_
   have I3:Inv X pins σ H2 { s2 with heap:=h' }:=I2.kept (t':=s2.toks) hkp
   refine ⟨s2.heap.objs.size + 1,[s2.heap.objs.size + 1,s2.heap.objs.size],_,_,H2,rfl,I3,Ti a (s2.heap.objs.size + 1) s2.heap.objs.size,⟨⟨.none,he⟩,hit,Nat.succ_ne_self _⟩,fun b hb=> ?_,q⟩
   have e':b=s2.heap.objs.size + 1\/b=s2.heap.objs.size:=by simpa using hb
   have hle:s2.heap.objs.size<=b:=by
    rcases e' with z | z
    ·rw [z]; exact Nat.le_add_right _ _
    ·rw [z]; exact Nat.le_refl _
   exact I2.Dj hle (I2.hok.fresh hle)
theorem YB {X:Cx} {e:Expr} {kws:List Keyword} {ta tk:TA} {p pos tpos:Pos} {elts:List Expr} {kk:Nat} (hg:Gl X "enumerate") (hm:X.mg "enumerate" = none) (ha:PA X [e] ta) (hk:PK X kws tk)
  (hks:(backToKw pos (keywordEach kws X.env)).filterMap (·.1)=[Str.ofString "start"]:=by rfl) (hall:(backToKw pos (keywordEach kws X.env)).all (·.1.isSome)=true:=by rfl)
  (hkw:(backToKw pos (keywordEach kws X.env)).any (·.1.isNone)=false:=by rfl)
  (hs:starEach [e] X.env=[(false,eval e X.env)]:=by rfl) :
  PI X (.Tuple elts kk tpos) (.Call (.Name "enumerate" p) [e] kws pos) (iEnsT X.K ta tk):=by
 intro pins s σ H R I h
 refine wpAny_Call_Name_kw (m6 I hg hm boot_enumerate ?_)
 refine Jq (thn (ha pos pins s σ H _ I h) fun us s1 ⟨vs,H1,I1,r1,q1⟩=>thn (hk pos pins s1 σ H1 _ I1 q1) fun ws s2 ⟨zs,H2,I2,r2,q2⟩=> ?_) (by rw [hs]; rfl) (by rw [hs]; rfl) hall hkw
 obtain ⟨a,xs,ex,ez,hq,q⟩:=q2
 subst ex ez
 rw [hks]
 cases r1 with
 | cons r rr =>
  cases rr
  cases r
  cases r2 with
  | cons r' rr' =>
   cases rr'
   obtain ⟨tk',rfl⟩:=r'
   obtain ⟨its,rv,p',hz⟩:=I2.tuple hq
   refine QW p' fun h' he hit hsz hkp=>wpAny_pyIter_enum he ?_
   have I3:Inv X pins σ H2 { s2 with heap:=h' }:=I2.kept (t':=s2.toks) hkp
   refine ⟨s2.heap.objs.size + 1,[s2.heap.objs.size + 1,s2.heap.objs.size],_,_,H2,rfl,I3,Th a (s2.heap.objs.size + 1) s2.heap.objs.size,⟨⟨.none,he⟩,hit,Nat.succ_ne_self _⟩,fun b hb=> ?_,q⟩
   have e':b=s2.heap.objs.size + 1\/b=s2.heap.objs.size:=by simpa using hb
   have hle:s2.heap.objs.size<=b:=by
    rcases e' with z | z
    ·rw [z]; exact Nat.le_add_right _ _
    ·rw [z]; exact Nat.le_refl _
   exact I2.Dj hle (I2.hok.fresh hle)
end L2
namespace L2
open PySem PyProof.Rows
structure Drw (P:Program) (w:World) (it l:Addr) (st:Nat->Heap->Prop) (src:Heap->Array Value->Prop):Prop where
 CT:∀ k h h',st k h->(∀ o,h.get? it=some o->h'.get? it=some o)->st k h'
 Tp:∀ h h' xs,src h xs->(∀ o,h.get? l=some o->h'.get? l=some o)->src h' xs
 ob:∀ k h,st k h->∃ o,h.get? it=some o/\∀ v,o.data ≠ .cell v
 item:∀ (A:Around) (E:Value->Shared->Prop) (s:Shared) (k:Nat) (xs:Array Value) (x:Value) (Q:Value->Shared->Prop),st k s.heap->src s.heap xs->xs[k]? = some x ->
  (∀ g,st (k + 1) g->Heap.SameBut it s.heap g->Q x { s with heap:=g })->wpAny (model P w) A (Builtin.SmallTypes.nextOf (.ref it)) Q E s
 fin:∀ (A:Around) (E:Value->Shared->Prop) (s:Shared) (k:Nat) (xs:Array Value) (Q:Value->Shared->Prop),A.handled=none->st k s.heap->src s.heap xs->xs[k]? = none ->
  (∀ g x,Heap.ExtBut it s.heap g->(∃ o,g.get? x=some o/\o.cls = .type "StopIteration")->E (.ref x) { s with heap:=g })->wpAny (model P w) A (Builtin.SmallTypes.nextOf (.ref it)) Q E s
theorem drwL {P:Program} {w:World} (it l:Addr):Drw P w it l (fun k h=>h.IsListIter it l k) (fun h xs=>h.IsList l xs) where
 CT:=fun k h h' a b=>a.at b
 Tp:=fun h h' xs a b=>a.at b
 ob:=fun k h ⟨o,ho,hc,hd⟩=>⟨o,ho,fun v q=>by rw [hd] at q; cases q⟩
 item:=fun A E s k xs x Q a b c f=>wpAny_nextOf_list_item a b c f
 fin:=fun A E s k xs Q hh a b c f=>wpAny_nextOf_list_end hh a b c f
theorem ZL {P:Program} {w:World} (it l:Addr):Drw P w it l (fun k h=>IsTupIter h it l k) (fun h xs=>IsTup h l xs) where
 CT:=fun k h h' ⟨o,ho,r⟩ b=>⟨o,b o ho,r⟩
 Tp:=fun h h' xs ⟨o,ho,r⟩ b=>⟨o,b o ho,r⟩
 ob:=fun k h ⟨o,ho,hc,hd⟩=>⟨o,ho,fun v q=>by rw [hd] at q; cases q⟩
 item:=fun A E s k xs x Q a b c f=>M6 a b c f
 fin:=fun A E s k xs Q hh a b c f=>RM hh a b c f
section
variable {P:Program} {w:World} {A:Around} {E:Value->Shared->Prop} {s:Shared} {i1 i2 l1 l2 z ti to:Addr} {s1 s2:Nat->Heap->Prop} {r1 r2:Heap->Array Value->Prop} {k:Nat} {xs ys:Array Value} {x y a b:Value}
theorem Ve {Q:Value->Shared->Prop} (d1:Drw P w i1 l1 s1 r1) (d2:Drw P w i2 l2 s2 r2) (D:ZipApart z ti to i1 i2 l1 l2)
    (qz:IsZip s.heap z ti to .none) (qi:IsPair s.heap ti (.ref i1) (.ref i2)) (qo:IsPair s.heap to a b)
    (p1:s1 k s.heap) (p2:s2 k s.heap) (m1:r1 s.heap xs) (m2:r2 s.heap ys) (hx:xs[k]? = some x) (hy:ys[k]? = some y)
    (fin:∀ g,IsZip g z ti to (rawInt s.heap.objs.size)->IsPair g to x y->s1 (k + 1) g->s2 (k + 1) g->IsPair g s.heap.objs.size x y->g.objs.size=s.heap.objs.size + 1 ->
      (∀ c o,c ≠ z->c ≠ to->c ≠ i1->c ≠ i2->s.heap.get? c=some o->g.get? c=some o)->Q (.ref s.heap.objs.size) { s with heap:=g }) :
    wpAny (model P w) A (Builtin.«zip.__next__» ⟨[.ref z],[]⟩) (fun fn s'=>∃ v,fn = .done (.ret v)/\Q v s') E s:=by
  show wpAny _ _ (field (.ref z) 2 >>= _) _ _ _
  refine wpAny_bind (wpAny_field qz rfl (x:= .bool false) rfl ?_)
  show wpAny _ _ (field (.ref z) 3 >>= _) _ _ _
  refine wpAny_bind (wpAny_field qz rfl (x:= .ref ti) rfl ?_)
  refine wpAny_bind (wpAny_seqItems qi rfl ?_)
  show wpAny _ _ (Builtin.SmallTypes.ownedTupleIsFree (.ref z) >>= _) _ _ _
  refine wpAny_bind ?_
  unfold Builtin.SmallTypes.ownedTupleIsFree
  refine wpAny_bind (wpAny_field qz rfl (x:= .none) rfl (wpAny_pure ?_))
  simp only [if_true]
  refine wpAny_bind (wpAny_rule ?_)
  refine wpAny_bind (wpAny_field qz rfl (x:= .ref to) rfl ?_)
  refine wpAny_bind (wpAny_setField_rec qz (by simp) fun g1 qz1 b1=> ?_)
  replace qz1:IsZip g1 z ti to .ellipsis:=qz1
  refine wpAny_bind ?_
  simp only [List.zipIdx_cons,List.zipIdx_nil,List.forIn_cons,List.forIn_nil]
  refine wpAny_bind (wpAny_bind (wpAny_onRaise ?_))
  show wpAny _ _ (Builtin.SmallTypes.nextOf (.ref i1) >>= _) _ _ _
  refine wpAny_bind (d1.item _ _ _ k xs x _ (d1.CT k _ g1 p1 fun o q=>b1.extBut _ _ D.i1z q) (d1.Tp _ g1 xs m1 fun o q=>b1.extBut _ _ D.l1z q) hx fun g2 p1' b2=>wpAny_pure ?_)
  have qo2:IsPair g2 to a b:=b2.extBut _ _ D.TOi1 (b1.extBut _ _ D.TOz qo)
  refine wpAny_bind (wpAny_seqItems qo2 rfl ?_)
  refine wpAny_bind (wpAny_updateSeq_pair qo2 fun g3 qo3 b3=> ?_)
  replace qo3:IsPair g3 to x b:=qo3
  refine wpAny_bind (wpAny_letGo (wpAny_pure ?_))
  refine wpAny_bind (wpAny_bind (wpAny_onRaise ?_))
  show wpAny _ _ (Builtin.SmallTypes.nextOf (.ref i2) >>= _) _ _ _
  refine wpAny_bind (d2.item _ _ _ k ys y _ (d2.CT k _ g3 p2 fun o q=>b3.extBut _ _ D.TOi2.symm (b2.extBut _ _ D.i12.symm (b1.extBut _ _ D.i2z q)))
    (d2.Tp _ g3 ys m2 fun o q=>b3.extBut _ _ D.l2TO (b2.extBut _ _ D.l2i1 (b1.extBut _ _ D.l2z q))) hy fun g4 p2' b4=>wpAny_pure ?_)
  have qo4:IsPair g4 to x b:=b4.extBut _ _ D.TOi2 qo3
  refine wpAny_bind (wpAny_seqItems qo4 rfl ?_)
  refine wpAny_bind (wpAny_updateSeq_pair qo4 fun g5 qo5 b5=> ?_)
  replace qo5:IsPair g5 to x y:=qo5
  refine wpAny_bind (wpAny_letGo (wpAny_pure (wpAny_pure ?_)))
  refine wpAny_bind (wpAny_seqItems qo5 rfl ?_)
  refine wpAny_bind (wpAny_newTuple ?_)
  have hsz:g5.objs.size=s.heap.objs.size:=by rw [b5.1,b4.1,b3.1,b2.1,b1.1]
  have qz5:IsZip g5 z ti to .ellipsis:=b5.extBut _ _ D.TOz.symm (b4.extBut _ _ D.i2z.symm (b3.extBut _ _ D.TOz.symm (b2.extBut _ _ D.i1z.symm qz1)))
  have kp5:∀ c o,c ≠ z->c ≠ to->c ≠ i1->c ≠ i2->s.heap.get? c=some o->g5.get? c=some o:=fun c o c1 c2 c3 c4 e =>
    b5.extBut _ _ c2 (b4.extBut _ _ c4 (b3.extBut _ _ c2 (b2.extBut _ _ c3 (b1.extBut _ _ c1 e))))
  have p15:s1 (k + 1) g5:=d1.CT _ g2 g5 p1' fun o q=>b5.extBut _ _ D.TOi1.symm (b4.extBut _ _ D.i12 (b3.extBut _ _ D.TOi1.symm q))
  have p25:s2 (k + 1) g5:=d2.CT _ g4 g5 p2' fun o q=>b5.extBut _ _ D.TOi2.symm q
  have zlt:z < g5.objs.size:=Heap.lt_size qz5
  show wpAny _ _ (Builtin.SmallTypes.ownedTupleHandOut (.ref z) (.ref g5.objs.size) >>= _) _ _ _
  refine wpAny_bind ?_
  unfold Builtin.SmallTypes.ownedTupleHandOut
  have qz6:IsZip (g5.push { cls:= .type "tuple",data:= .seq #[x,y] }) z ti to .ellipsis:=Heap.get?_push_of_some _ qz5
  refine wpAny_bind (wpAny_setField_rec qz6 (by simp) fun g7 qz7 b7=> ?_)
  replace qz7:IsZip g7 z ti to (rawInt g5.objs.size):=qz7
  refine wpAny_setField_rec qz7 (by simp) fun g8 qz8 b8=> ?_
  replace qz8:IsZip g8 z ti to (rawInt g5.objs.size):=qz8
  have up:∀ c o,c ≠ z->g5.get? c=some o->g8.get? c=some o:=fun c o c1 e=>b8.extBut _ _ c1 (b7.extBut _ _ c1 (Heap.get?_push_of_some _ e))
  have qt8:IsPair g8 g5.objs.size x y:=b8.extBut _ _ (Nat.ne_of_gt zlt) (b7.extBut _ _ (Nat.ne_of_gt zlt) (Heap.get?_push_size _ rfl))
  have sz8:g8.objs.size=g5.objs.size + 1:=by rw [b8.1,b7.1,Heap.size_push]
  rw [hsz] at qz8 qt8 sz8
  refine wpAny_pure ⟨_,rfl,?_⟩
  show Q (.ref g5.objs.size) _
  rw [hsz]
  exact fin g8 qz8 (up _ _ D.TOz qo5) (d1.CT _ _ _ p15 fun o e=>up _ o D.i1z e) (d2.CT _ _ _ p25 fun o e=>up _ o D.i2z e) qt8 sz8 fun c o c1 c2 c3 c4 e=>up c o c1 (kp5 c o c1 c2 c3 c4 e)
theorem Yd {Q:Fin->Shared->Prop} (hh:A.handled=none) (d1:Drw P w i1 l1 s1 r1) (d2:Drw P w i2 l2 s2 r2) (D:ZipApart z ti to i1 i2 l1 l2)
  (qz:IsZip s.heap z ti to .none) (qi:IsPair s.heap ti (.ref i1) (.ref i2)) (qo:IsPair s.heap to a b)
  (p1:s1 k s.heap) (p2:s2 k s.heap) (m1:r1 s.heap xs) (m2:r2 s.heap ys) (hend:xs[k]? = none\/ys[k]? = none)
  (hE:∀ g e,(∀ c o,c ≠ z->c ≠ to->c ≠ i1->c ≠ i2->s.heap.get? c=some o->g.get? c=some o)->(∃ o,g.get? e=some o/\o.cls = .type "StopIteration")->E (.ref e) { s with heap:=g }) :
  wpAny (model P w) A (Builtin.«zip.__next__» ⟨[.ref z],[]⟩) Q E s:=by
 show wpAny _ _ (field (.ref z) 2 >>= _) _ _ _
 refine wpAny_bind (wpAny_field qz rfl (x:= .bool false) rfl ?_)
 show wpAny _ _ (field (.ref z) 3 >>= _) _ _ _
 refine wpAny_bind (wpAny_field qz rfl (x:= .ref ti) rfl ?_)
 refine wpAny_bind (wpAny_seqItems qi rfl ?_)
 show wpAny _ _ (Builtin.SmallTypes.ownedTupleIsFree (.ref z) >>= _) _ _ _
 refine wpAny_bind ?_
 unfold Builtin.SmallTypes.ownedTupleIsFree
 refine wpAny_bind (wpAny_field qz rfl (x:= .none) rfl (wpAny_pure ?_))
 simp only [if_true]
 refine wpAny_bind (wpAny_rule ?_)
 refine wpAny_bind (wpAny_field qz rfl (x:= .ref to) rfl ?_)
 refine wpAny_bind (wpAny_setField_rec qz (by simp) fun g1 qz1 b1=> ?_)
 replace qz1:IsZip g1 z ti to .ellipsis:=qz1
 refine wpAny_bind ?_
 simp only [List.zipIdx_cons,List.zipIdx_nil,List.forIn_cons,List.forIn_nil]
 refine wpAny_bind (wpAny_bind (wpAny_onRaise ?_))
 show wpAny _ _ (Builtin.SmallTypes.nextOf (.ref i1) >>= _) _ _ _
 have p1a:=d1.CT k _ g1 p1 fun o q=>b1.extBut _ _ D.i1z q
 have m1a:=d1.Tp _ g1 xs m1 fun o q=>b1.extBut _ _ D.l1z q
 cases hx:xs[k]? with
 | none =>
  refine wpAny_bind (d1.fin _ _ _ k xs _ hh p1a m1a hx fun g2 e b2 he=> ?_)
  obtain ⟨oe,hoe,hce⟩:=he
  have qz2:IsZip g2 z ti to .ellipsis:=b2 _ _ D.i1z.symm qz1
  have hez:e ≠ z:=fun x=>by subst x; rw [qz2] at hoe; cases hoe; simp at hce
  refine wpAny_setField_rec qz2 (by simp) fun g3 _ b3=>hE g3 e (fun c o c1 _ c3 _ x=>b3.extBut _ _ c1 (b2 _ _ c3 (b1.extBut _ _ c1 x))) ⟨oe,b3.extBut _ _ hez hoe,hce⟩
 | some x =>
  have hy:ys[k]? = none:=by
   rcases hend with h | h
   ·rw [hx] at h; cases h
   ·exact h
  refine wpAny_bind (d1.item _ _ _ k xs x _ p1a m1a hx fun g2 p1' b2=>wpAny_pure ?_)
  have qo2:IsPair g2 to a b:=b2.extBut _ _ D.TOi1 (b1.extBut _ _ D.TOz qo)
  refine wpAny_bind (wpAny_seqItems qo2 rfl ?_)
  refine wpAny_bind (wpAny_updateSeq_pair qo2 fun g3 qo3 b3=> ?_)
  refine wpAny_bind (wpAny_letGo (wpAny_pure ?_))
  refine wpAny_bind (wpAny_bind (wpAny_onRaise ?_))
  show wpAny _ _ (Builtin.SmallTypes.nextOf (.ref i2) >>= _) _ _ _
  refine wpAny_bind (d2.fin _ _ _ k ys _ hh (d2.CT k _ g3 p2 fun o q=>b3.extBut _ _ D.TOi2.symm (b2.extBut _ _ D.i12.symm (b1.extBut _ _ D.i2z q)))
   (d2.Tp _ g3 ys m2 fun o q=>b3.extBut _ _ D.l2TO (b2.extBut _ _ D.l2i1 (b1.extBut _ _ D.l2z q))) hy fun g4 e b4 he=> ?_)
  obtain ⟨oe,hoe,hce⟩:=he
  have qz4:IsZip g4 z ti to .ellipsis:=b4 _ _ D.i2z.symm (b3.extBut _ _ D.TOz.symm (b2.extBut _ _ D.i1z.symm qz1))
  have hez:e ≠ z:=fun x=>by subst x; rw [qz4] at hoe; cases hoe; simp at hce
  refine wpAny_setField_rec qz4 (by simp) fun g5 _ b5=>hE g5 e (fun c o c1 c2 c3 c4 x=>b5.extBut _ _ c1 (b4 _ _ c4 (b3.extBut _ _ c2 (b2.extBut _ _ c3 (b1.extBut _ _ c1 x))))) ⟨oe,b5.extBut _ _ hez hoe,hce⟩
theorem Vf {Q:Option Value->Shared->Prop} (d1:Drw P w i1 l1 s1 r1) (d2:Drw P w i2 l2 s2 r2) (D:ZipApart z ti to i1 i2 l1 l2)
    (qz:IsZip s.heap z ti to .none) (qi:IsPair s.heap ti (.ref i1) (.ref i2)) (qo:IsPair s.heap to a b)
    (p1:s1 k s.heap) (p2:s2 k s.heap) (m1:r1 s.heap xs) (m2:r2 s.heap ys) (hx:xs[k]? = some x) (hy:ys[k]? = some y)
    (fin:∀ g,IsZip g z ti to (rawInt s.heap.objs.size)->IsPair g to x y->s1 (k + 1) g->s2 (k + 1) g->IsPair g s.heap.objs.size x y->g.objs.size=s.heap.objs.size + 1 ->
      (∀ c o,c ≠ z->c ≠ to->c ≠ i1->c ≠ i2->s.heap.get? c=some o->g.get? c=some o)->Q (some (.ref s.heap.objs.size)) { s with heap:=g }) :
    wpAny (model P w) A (pyNext (.ref z)) Q E s:=by
  have hT:s.TypeIs (.ref z) "zip" := ⟨_,qz,rfl⟩
  unfold pyNext
  refine wpAny_bind (wpAny_attempt (wpAny_callSpecial?_slot (name:=Str.ofString "__next__") hT F.slot_zip_next (wpAny_call_entry F.slot_zip_next hT F.entry_zip_next ?_ (F.args_zip_next_1 _))))
  exact Ve d1 d2 D qz qi qo p1 p2 m1 m2 hx hy fun g a1 a2 a3 a4 a5 a6 a7=>wpAny_pure (fin g a1 a2 a3 a4 a5 a6 a7)
theorem Vg {Q:Option Value->Shared->Prop} (hh:A.handled=none) (d1:Drw P w i1 l1 s1 r1) (d2:Drw P w i2 l2 s2 r2) (D:ZipApart z ti to i1 i2 l1 l2)
  (qz:IsZip s.heap z ti to .none) (qi:IsPair s.heap ti (.ref i1) (.ref i2)) (qo:IsPair s.heap to a b)
  (p1:s1 k s.heap) (p2:s2 k s.heap) (m1:r1 s.heap xs) (m2:r2 s.heap ys) (hend:xs[k]? = none\/ys[k]? = none)
  (fin:∀ g,(∀ c o,c ≠ z->c ≠ to->c ≠ i1->c ≠ i2->s.heap.get? c=some o->g.get? c=some o)->Q none { s with heap:=g }):wpAny (model P w) A (pyNext (.ref z)) Q E s:=by
 have hT:s.TypeIs (.ref z) "zip" := ⟨_,qz,rfl⟩
 unfold pyNext
 refine wpAny_bind (wpAny_attempt (wpAny_callSpecial?_slot (name:=Str.ofString "__next__") hT F.slot_zip_next (wpAny_call_entry F.slot_zip_next hT F.entry_zip_next ?_ (F.args_zip_next_1 _))))
 refine Yd hh d1 d2 D qz qi qo p1 p2 m1 m2 hend fun g e hk he=> ?_
 obtain ⟨o,ho,hc⟩:=he
 refine wpAny_bind (wpAny_isInstance (T := "StopIteration") (b:=true) ⟨o,ho,hc⟩ isSubtype_stop ?_)
 exact wpAny_pure (fin _ hk)
end
abbrev zt1 (h:Heap) (l1:Addr):Heap:=h.push { cls:= .type "tuple_iterator",data:= .fields #[.ref l1,.int 0 0] }
abbrev zt2 (h:Heap) (l1 l2:Addr):Heap:=(zt1 h l1).push { cls:= .type "list_iterator",data:= .fields #[.ref l2,.int 0 0] }
abbrev zt3 (h:Heap) (l1 l2:Addr):Heap:=(zt2 h l1 l2).push { cls:= .type "tuple",data:= .seq #[.ref h.objs.size,.ref (zt1 h l1).objs.size] }
abbrev zt4 (h:Heap) (l1 l2:Addr):Heap:=(zt3 h l1 l2).push { cls:= .type "tuple",data:= .seq #[.none,.none] }
abbrev zt5 (h:Heap) (l1 l2:Addr):Heap:=(zt4 h l1 l2).push { cls:= .type "zip",data:= .fields #[.none,.bool false,.bool false,.ref (zt2 h l1 l2).objs.size,.ref (zt3 h l1 l2).objs.size] }
theorem Ni (l1 l2:Addr) (xs ys:Array Value) :
  Meets (Builtin.«zip.__new__» ⟨[.type "zip",.ref l1,.ref l2],[]⟩) (fun _ R s=>IsTup s.heap l1 xs/\s.heap.IsList l2 ys /\
   R (.ok (.ret (.ref (zt4 s.heap l1 l2).objs.size))) { s with heap:=zt5 s.heap l1 l2 }) :=
 .of_wp fun prog w A R s h=>by
  obtain ⟨hp,g,d,tk,os⟩:=s; obtain ⟨q1,q2,h⟩:=h
  have hsub:=sub_zip
  have hL1:IsTup (Shared.heap ⟨hp,g,d,tk,os⟩) l1 xs:=q1
  have hL2:Heap.IsList (Shared.heap ⟨hp.push { cls:= .type "tuple_iterator",data:= .fields #[.ref l1,.int 0 0] },g,d,tk,os⟩) l2 ys:=Heap.IsList.push q2 _
  wp_walk using iter_tuple hL1,wpAny_pyIter_list hL2
  exact ⟨_,rfl,h⟩
theorem QV {P:Program} {w:World} {A:Around} {E:Value->Shared->Prop} {s:Shared} {l1 l2:Addr} {xs ys:Array Value} {Q:Value->Shared->Prop} (q1:IsTup s.heap l1 xs) (q2:s.heap.IsList l2 ys)
    (fin:∀ g,IsZip g (s.heap.objs.size + 4) (s.heap.objs.size + 2) (s.heap.objs.size + 3) .none->IsPair g (s.heap.objs.size + 2) (.ref s.heap.objs.size) (.ref (s.heap.objs.size + 1)) ->
      IsPair g (s.heap.objs.size + 3) .none .none->IsTupIter g s.heap.objs.size l1 0->g.IsListIter (s.heap.objs.size + 1) l2 0->g.objs.size=s.heap.objs.size + 5 ->
      (∀ c o,s.heap.get? c=some o->g.get? c=some o)->Q (.ref (s.heap.objs.size + 4)) { s with heap:=g }) :
    wpAny (model P w) A (call (.type "zip") [.ref l1,.ref l2]) Q E s:=by
  refine callType_new F.called_zip (by decide) (F.typeCall_zip_2 _ _) (F.newCall_zip_2 _ _) (fun obj=>F.args_object_init_3 obj _ _) F.entry_zip_new (Ni l1 l2 xs ys) ⟨q1,q2,?_⟩
  have z1:(zt1 s.heap l1).objs.size=s.heap.objs.size + 1:=Heap.size_push ..
  have z2:(zt2 s.heap l1 l2).objs.size=s.heap.objs.size + 2:=by rw [Heap.size_push,z1]
  have z3:(zt3 s.heap l1 l2).objs.size=s.heap.objs.size + 3:=by rw [Heap.size_push,z2]
  have z4:(zt4 s.heap l1 l2).objs.size=s.heap.objs.size + 4:=by rw [Heap.size_push,z3]
  have z5:(zt5 s.heap l1 l2).objs.size=s.heap.objs.size + 5:=by rw [Heap.size_push,z4]
  have g5:(zt5 s.heap l1 l2).get? (zt4 s.heap l1 l2).objs.size=some _:=Heap.get?_push_size _ rfl
  have g4:(zt5 s.heap l1 l2).get? (zt3 s.heap l1 l2).objs.size=some _:=Heap.get?_push_of_some _ (Heap.get?_push_size _ rfl)
  have g3:(zt5 s.heap l1 l2).get? (zt2 s.heap l1 l2).objs.size=some _:=Heap.get?_push_of_some _ (Heap.get?_push_of_some _ (Heap.get?_push_size _ rfl))
  have g2:(zt5 s.heap l1 l2).get? (zt1 s.heap l1).objs.size=some _:=Heap.get?_push_of_some _ (Heap.get?_push_of_some _ (Heap.get?_push_of_some _ (Heap.get?_push_size _ rfl)))
  have g1:(zt5 s.heap l1 l2).get? s.heap.objs.size=some _:=Heap.get?_push_of_some _ (Heap.get?_push_of_some _ (Heap.get?_push_of_some _ (Heap.get?_push_of_some _ (Heap.get?_push_size _ rfl))))
  show _/\_
  rw [z2,z3,z4] at g5
  rw [z1,z2] at g3
  rw [z3] at g4
  rw [z1] at g2
  rw [z4]
  exact ⟨⟨_,g5,rfl⟩,fin _ g5 g3 g4 ⟨_,g1,rfl,rfl⟩ ⟨_,g2,rfl,rfl⟩ z5 fun c o x =>
    Heap.get?_push_of_some _ (Heap.get?_push_of_some _ (Heap.get?_push_of_some _ (Heap.get?_push_of_some _ (Heap.get?_push_of_some _ x))))⟩
end L2
namespace L2
open PySem PySem.Spec PyProof.Rows
def Itzt (K:PySem.W.Frag) (a b:Addr):It :=
 ⟨fun i H=>∃ (xs ys:List V) (x y:V),SqT K H a xs/\SqL K H b ys/\xs[i]? = some x/\ys[i]? = some y,
  fun i H v H'=>∃ T x y,v = .ref T/\H T=none/\H'=upd H T (.tup [x,y])/\(∀ xs,SqT K H a xs->xs[i]? = some x)/\∀ ys,SqL K H b ys->ys[i]? = some y,
  fun i H=>∃ xs ys:List V,SqT K H a xs/\SqL K H b ys/\(xs.length<=i\/ys.length<=i)⟩
theorem Pu {P:Program} {w:World} {K:PySem.W.Frag} {elts:List Expr} {kk:Nat} {tpos:Pos} {a b z TI TO i1 i2:Addr} (D:ZipApart z TI TO i1 i2 a b) :
  Turn P w K (.Tuple elts kk tpos) (Itzt K a b) [z,TI,TO,i1,i2] z (fun i h=>IsZip h z TI TO .none/\IsPair h TI (.ref i1) (.ref i2)/\(∃ x y,IsPair h TO x y)/\IsTupIter h i1 a i/\h.IsListIter i2 b i) where
 mem:=by simp
 obj:=fun i h st c hc=>by
  obtain ⟨hz,hTI,⟨x,y,hTO⟩,⟨o1,e1,_,d1⟩,⟨o2,e2,_,d2⟩⟩:=st
  have e':c=z\/c=TI\/c=TO\/c=i1\/c=i2:=by simpa using hc
  rcases e' with q | q | q | q | q
  ·rw [q]; exact ⟨_,hz,fun v q=>nomatch q⟩
  ·rw [q]; exact ⟨_,hTI,fun v q=>nomatch q⟩
  ·rw [q]; exact ⟨_,hTO,fun v q=>nomatch q⟩
  ·rw [q]; exact ⟨o1,e1,fun v q=>by rw [d1] at q; cases q⟩
  ·rw [q]; exact ⟨o2,e2,fun v q=>by rw [d2] at q; cases q⟩
 keep:=fun i h h' st k=>by
  obtain ⟨hz,hTI,⟨x,y,hTO⟩,h1,h2⟩:=st
  exact ⟨k z (by simp) _ hz,k TI (by simp) _ hTI,⟨x,y,k TO (by simp) _ hTO⟩,(ZL (P:=P) (w:=w) i1 a).CT _ _ _ h1 fun o q=>k i1 (by simp) o q,h2.at fun o q=>k i2 (by simp) o q⟩
 item:=by
  intro X hP hw hK hc i pins s σ H E I hf st hg
  subst hP hw hK
  obtain ⟨hz,hTI,⟨x0,y0,hTO⟩,h1,h2⟩:=st
  obtain ⟨xs,ys,x,y,hqx,hqy,hx,hy⟩:=hg
  obtain ⟨its,rv,p,_⟩:=I.tuple hqx
  obtain ⟨its2,rv2,p2,_⟩:=I.list hqy
  obtain ⟨u,hu,ru⟩:=rv.get hx
  obtain ⟨u2,hu2,ru2⟩:=rv2.get hy
  have hzl:z < s.heap.objs.size:=Heap.lt_size hz
  refine Vf (ZL i1 a) (drwL i2 b) D hz hTI hTO h1 h2 p p2.isList (x:=u) (y:=u2) (by simpa using hu) (by simpa using hu2) fun h' z' TO' h1' h2' hT hsz hk=> ?_
  refine ⟨_,rfl,wpAny_letOwnedTupleGo_zip (s:={ s with heap:=h' }) z' fun h'' z'' sb=> ?_⟩
  have hT2:h''.get? s.heap.objs.size=some { cls:= .type "tuple",data:= .seq #[u,u2] }:=(sb.2 _ (Nat.ne_of_gt hzl)).trans hT
  have new:cO X.prog X.w (upd H s.heap.objs.size (.tup [x,y])) h'' s.heap.objs.size (.tup [x,y]) :=
   ⟨by show 2<=sizeLine; decide,[u,u2],.cons ru (.cons ru2 .nil),⟨_,hT2,rfl,_,rfl⟩⟩
  have I1:Inv X pins σ (upd H s.heap.objs.size (.tup [x,y])) { s with heap:=h'' } :=
   I.uR (t':=s.toks) (ch:=[z,TI,TO,i1,i2]) (fun c o hb q=>(sb.2 c (fun q'=>hb (by simp [q']))).trans (hk c o (fun q'=>hb (by simp [q'])) (fun q'=>hb (by simp [q'])) (fun q'=>hb (by simp [q'])) (fun q'=>hb (by simp [q'])) q)) hf (Nat.le_refl _) new
  refine ⟨.ref s.heap.objs.size,_,I1,rfl,⟨_,x,y,rfl,I.hok.fresh (Nat.le_refl _),rfl,fun l hl=>by rw [I.zR hl hqx]; exact hx,fun l hl=>by rw [I.n8 hl hqy]; exact hy⟩,⟨z'',?_,⟨u,u2,?_⟩,?_,?_⟩,fun c hcm=> ?_⟩
  ·exact (sb.2 _ D.TIz).trans (hk _ _ D.TIz D.TITO D.TIi1 D.TIi2 hTI)
  ·exact (sb.2 _ D.TOz).trans TO'
  ·exact (ZL (P:=X.prog) (w:=X.w) i1 a).CT _ _ _ h1' fun o q=>(sb.2 _ D.i1z).trans q
  ·exact h2'.at fun o q=>(sb.2 _ D.i2z).trans q
  ·have hlt:c < s.heap.objs.size:=by
    have e':c=z\/c=TI\/c=TO\/c=i1\/c=i2:=by simpa using hcm
    rcases e' with q | q | q | q | q
    ·rw [q]; exact hzl
    ·rw [q]; exact Heap.lt_size hTI
    ·rw [q]; exact Heap.lt_size hTO
    ·rw [q]; obtain ⟨_,e1,_⟩:=h1; exact Heap.lt_size e1
    ·rw [q]; obtain ⟨_,e2,_⟩:=h2; exact Heap.lt_size e2
   rw [ak (Nat.ne_of_lt hlt)]
   exact (hf c hcm).1
 done:=by
  intro X hP hw hK hc i pins s σ H E I hf st hg
  subst hP hw hK
  obtain ⟨hz,hTI,⟨x0,y0,hTO⟩,h1,h2⟩:=st
  obtain ⟨xs,ys,hqx,hqy,hend⟩:=hg
  obtain ⟨its,rv,p,_⟩:=I.tuple hqx
  obtain ⟨its2,rv2,p2,_⟩:=I.list hqy
  have l1:=rv.length
  have l2:=rv2.length
  have he:its.toArray[i]? = none\/its2.toArray[i]? = none:=by
   rcases hend with q | q
   ·exact .inl (by simp; omega)
   ·exact .inr (by simp; omega)
  exact Vg (I.ok.hd hc) (ZL i1 a) (drwL i2 b) D hz hTI hTO h1 h2 p p2.isList he fun h' hk=>⟨rfl,I.JB (t':=s.toks) (ch:=[z,TI,TO,i1,i2]) (fun c o hb q =>
   hk c o (fun q'=>hb (by simp [q'])) (fun q'=>hb (by simp [q'])) (fun q'=>hb (by simp [q'])) (fun q'=>hb (by simp [q'])) q) hf⟩
 self:=fun A i s Q E st h=>wpAny_pyIter_zip st.1 h
def aa9 (K:PySem.W.Frag) (ta:TA):TI:=fun σ H R=>ta σ H fun vs H1=>∃ a b xs ys,vs=[.ref a,.ref b]/\SqT K H1 a xs/\SqL K H1 b ys/\R (Itzt K a b) H1
theorem xW {X:Cx} {e e2:Expr} {ta:TA} {p pos tpos:Pos} {elts:List Expr} {kk:Nat} (hg:Gl X "zip") (hm:X.mg "zip" = none) (ha:PA X [e,e2] ta)
  (hs:starEach [e,e2] X.env=(false,eval e X.env) :: starEach [e2] X.env:=by rfl) (hpl:(backTo pos (starEach [e2] X.env)).any (·.1)=false:=by rfl) :
  PI X (.Tuple elts kk tpos) (.Call (.Name "zip" p) [e,e2] [] pos) (aa9 X.K ta):=by
 intro pins s σ H R I h
 refine Call_ (m6 I hg hm Jr (PyProof.Rows.callWith_type1 (thn (ha pos pins s σ H _ I h) fun us s1 ⟨vs,H1,I1,r1,q1⟩=> ?_) hs hpl))
 obtain ⟨a,b,xs,ys,ex,hqx,hqy,q⟩:=q1
 subst ex
 cases r1 with
 | cons r rr =>
  cases rr with
  | cons r' rr =>
   cases rr
   cases r
   cases r'
   obtain ⟨its,rv,p1,_⟩:=I1.tuple hqx
   obtain ⟨its2,rv2,p2,_⟩:=I1.list hqy
   have la:a < s1.heap.objs.size:=p1.lt
   have lb:b < s1.heap.objs.size:=p2.lt
   refine QV p1 p2.isList fun h' hz hTI hTO h1 h2 hsz hk=>wpAny_pyIter_zip hz ?_
   have I2:Inv X pins σ H1 { s1 with heap:=h' }:=I1.kept (t':=s1.toks) hk
   refine ⟨s1.heap.objs.size + 4,[s1.heap.objs.size + 4,s1.heap.objs.size + 2,s1.heap.objs.size + 3,s1.heap.objs.size,s1.heap.objs.size + 1],_,_,H1,rfl,I2,Pu (PySem.W.ktu_apart s1.heap.objs.size a b la lb),⟨hz,hTI,⟨_,_,hTO⟩,h1,h2⟩,fun c hcm=> ?_,q⟩
   have e':c=s1.heap.objs.size + 4\/c=s1.heap.objs.size + 2\/c=s1.heap.objs.size + 3\/c=s1.heap.objs.size\/c=s1.heap.objs.size + 1:=by simpa using hcm
   have hle:s1.heap.objs.size<=c:=by
    rcases e' with z | z | z | z | z
    ·rw [z]; exact Nat.le_add_right _ _
    ·rw [z]; exact Nat.le_add_right _ _
    ·rw [z]; exact Nat.le_add_right _ _
    ·rw [z]; exact Nat.le_refl _
    ·rw [z]; exact Nat.le_add_right _ _
   exact I1.Dj hle (I1.hok.fresh hle)
structure Wk (J:It) (ok:Hp->Prop) (n:Nat) (it:Nat->Hp->V->Hp->Prop):Prop where
 go:∀ i H,ok H->i < n->J.go i H
 yld:∀ i H v H',ok H->i < n->J.yld i H v H'->it i H v H'
 stop:∀ H,ok H->J.stop n H
def itV (xs:List V):Nat->Hp->V->Hp->Prop:=fun i H v H'=>H'=H/\xs[i]? = some v
def itP (pr:Nat->List V->Prop):Nat->Hp->V->Hp->Prop:=fun i H v H'=>∃ T ps,v = .ref T/\H T=none/\H'=upd H T (.tup ps)/\pr i ps
theorem wkL {K:PySem.W.Frag} {a:Addr} {xs:List V}:Wk (Itl K a) (fun H=>SqL K H a xs) xs.length (itV xs) :=
 ⟨fun i H h hi=>⟨xs,xs[i],h,by simp [hi]⟩,fun i H v H' h hi ⟨e,y⟩=>⟨e,y xs h⟩,fun H h=>⟨xs,h,Nat.le_refl _⟩⟩
theorem wkT {K:PySem.W.Frag} {a:Addr} {xs:List V}:Wk (Itt K a) (fun H=>SqT K H a xs) xs.length (itV xs) :=
 ⟨fun i H h hi=>⟨xs,xs[i],h,by simp [hi]⟩,fun i H v H' h hi ⟨e,y⟩=>⟨e,y xs h⟩,fun H h=>⟨xs,h,Nat.le_refl _⟩⟩
theorem wkR {lo:Int} {n:Nat}:Wk (Itr lo n) (fun _=>True) n (fun i H v H'=>H'=H/\v = .int (lo + i)) :=
 ⟨fun i H _ hi=>hi,fun i H v H' _ hi y=>y,fun H _=>Nat.le_refl _⟩
theorem wkE {K:PySem.W.Frag} {a:Addr} {xs:List V}:Wk (Ite K a) (fun H=>SqL K H a xs) xs.length (itP fun i ps=>∃ x,xs[i]? = some x/\ps=[.int (i:Nat),x]) :=
 ⟨fun i H h hi=>⟨xs,xs[i],h,by simp [hi]⟩,fun i H v H' h hi ⟨T,x,e,t,e',y⟩=>⟨T,_,e,t,e',x,y xs h,rfl⟩,fun H h=>⟨xs,h,Nat.le_refl _⟩⟩
theorem wkS {sq:Hp->List V->Prop} {xs:List V}:Wk (U9 sq) (fun H=>sq H xs) xs.length (itP fun i ps=>∃ x,xs[i]? = some x/\ps=[.int ((i:Nat) + 1),x]) :=
 ⟨fun i H h hi=>⟨xs,xs[i],h,by simp [hi]⟩,fun i H v H' h hi ⟨T,x,e,t,e',y⟩=>⟨T,_,e,t,e',x,y xs h,rfl⟩,fun H h=>⟨xs,h,Nat.le_refl _⟩⟩
theorem wkZ {K:PySem.W.Frag} {a b:Addr} {xs ys:List V}:Wk (Itz K a b) (fun H=>SqL K H a xs/\SqL K H b ys) (min xs.length ys.length) (itP fun i ps=>∃ x y,xs[i]? = some x/\ys[i]? = some y/\ps=[x,y]) :=
 ⟨fun i H h hi=>⟨xs,ys,xs[i]'(by omega),ys[i]'(by omega),h.1,h.2,by simp [show i < xs.length by omega],by simp [show i < ys.length by omega]⟩,fun i H v H' h hi ⟨T,x,y,e,t,e',y1,y2⟩=>⟨T,_,e,t,e',x,y,y1 xs h.1,y2 ys h.2,rfl⟩,
  fun H h=>⟨xs,ys,h.1,h.2,by omega⟩⟩
theorem Ye {K:PySem.W.Frag} {a b:Addr} {xs ys:List V}:Wk (Itzt K a b) (fun H=>SqT K H a xs/\SqL K H b ys) (min xs.length ys.length) (itP fun i ps=>∃ x y,xs[i]? = some x/\ys[i]? = some y/\ps=[x,y]) :=
 ⟨fun i H h hi=>⟨xs,ys,xs[i]'(by omega),ys[i]'(by omega),h.1,h.2,by simp [show i < xs.length by omega],by simp [show i < ys.length by omega]⟩,fun i H v H' h hi ⟨T,x,y,e,t,e',y1,y2⟩=>⟨T,_,e,t,e',x,y,y1 xs h.1,y2 ys h.2,rfl⟩,
  fun H h=>⟨xs,ys,h.1,h.2,by omega⟩⟩
theorem gw {J:It} {ok:Hp->Prop} {n:Nat} {it:Nat->Hp->V->Hp->Prop} {g:TG} {tb:TS} {D:Ends} {σ : St} {H:Hp} (w:Wk J ok n it) (Pv:Nat->St->Hp->Prop) (h0:Pv 0 σ H) (hl:∀ i σ H,i<=n->Pv i σ H->ok H)
  (hs:∀ i v σ H H',i < n->Pv i σ H->it i H v H'->g v σ H' fun σ2 H2=>tb { D with nx:=Pv (i + 1),ct:=Pv (i + 1),bk:=D.nx } σ2 H2) (hd:∀ σ H,Pv n σ H->D.nx σ H) :
  ∃ W:Nat->Nat->St->Hp->Prop,(∃ m,W 0 m σ H)/\∀ i m σ H,W i m σ H ->
   (J.stop i H/\D.nx σ H)\/(J.go i H/\∃ N:St->Hp->Prop,(∀ σ' H',N σ' H'->∃ m',m' < m/\W (i + 1) m' σ' H')/\∀ x H',J.yld i H x H'->g x σ H' fun σ2 H2=>tb { D with nx:=N,ct:=N,bk:=D.nx } σ2 H2):=by
 refine ⟨fun i m σ H=>m=n - i/\i<=n/\Pv i σ H,⟨n,by simp,Nat.zero_le _,h0⟩,?_⟩
 rintro i m σ H ⟨rfl,hi,p⟩
 have q:=hl i σ H hi p
 by_cases hlt:i < n
 ·exact .inr ⟨w.go i H q hlt,Pv (i + 1),fun σ' H' p'=>⟨n - (i + 1),by omega,rfl,hlt,p'⟩,fun x H' y=>hs i x σ H H' hlt p (w.yld i H x H' q hlt y)⟩
 ·have e:i=n:=by omega
  subst e
  exact .inl ⟨w.stop H q,hd σ H p⟩
theorem jb {α : Type} (out:Nat->Option α) (i:Nat):(List.range (i + 1)).filterMap out=(List.range i).filterMap out++(match out i with | some y=>[y] | none=>[]):=by
 rw [List.range_succ,List.filterMap_append,List.filterMap_cons,List.filterMap_nil]
 cases out i <;> rfl
theorem abp {α : Type} (out:Nat->Option α) (i:Nat):((List.range i).filterMap out).length<=i:=by
 have q:=List.length_filterMap_le out (List.range i)
 rw [List.length_range] at q
 exact q
theorem eE {J:It} {ok:Hp->Prop} {n:Nat} {it:Nat->Hp->V->Hp->Prop} {g:TG} {tt:TT} {te:TE} {vs:List Nat} {σ : St} {H1:Hp} {D:Addr} {Qd:Hp->Prop} (w:Wk J ok n it) (okS:∀ H H',ok H->aC H H'->ok H') (h1:ok H1) (hz:n<=sizeLine)
    (hD:H1 D=none) (out:Nat->Option V)
    (hs:∀ (i:Nat) (v:V) (H H':Hp) (Kt:V->Hp->Prop) (Kf:Hp->Prop),i < n->aC H1 H->it i H v H'->(∀ y H4,out i=some y->aC H H4->Kt y H4)->(∀ H3,out i=none->aC H H3->Kf H3) ->
      g v (wipe σ vs) H' fun σ2 H2=>wipe σ2 vs=wipe σ vs/\tt σ2 H2 fun b H3=>if b=true then te σ2 H3 Kt else Kf H3)
    (hd:∀ H,aC H1 H->H D=some (.lst ((List.range n).filterMap out))->Qd H) :
    ∃ W:Nat->Nat->Hp->Prop,(∃ m,W 0 m (upd H1 D (.lst [])))/\∀ i m H,W i m H ->
      (J.stop i H/\Qd H)\/(J.go i H/\∃ Nx:Hp->Prop,(∀ H',Nx H'->∃ m',m' < m/\W (i + 1) m' H')/\∀ x H',J.yld i H x H'->g x (wipe σ vs) H' fun σ2 H2=>wipe σ2 vs=wipe σ vs/\tt σ2 H2 fun b H3 =>
        if b=true then te σ2 H3 fun y H4=>∃ acc,H4 D=some (.lst acc)/\acc.length < sizeLine/\Nx (upd H4 D (.lst (acc++[y]))) else Nx H3):=by
  have s1:aC H1 (upd H1 D (.lst [])):=fun b o e=>by rw [ak (az e hD)]; exact e
  refine ⟨fun i m H=>m=n - i/\i<=n/\aC H1 H/\H D=some (.lst ((List.range i).filterMap out)),⟨n,by simp,Nat.zero_le _,s1,aj⟩,?_⟩
  rintro i m H ⟨rfl,hi,sm,dd⟩
  have q:=okS _ _ h1 sm
  by_cases hlt:i < n
  · refine .inr ⟨w.go i H q hlt,fun H'=>aC H1 H'/\H' D=some (.lst ((List.range (i + 1)).filterMap out)),fun H' ⟨a,b⟩=>⟨n - (i + 1),by omega,rfl,hlt,a,b⟩,fun x H' y=> ?_⟩
    refine hs i x H H' _ _ hlt sm (w.yld i H x H' q hlt y) (fun y H4 e s4=> ?_) (fun H3 e s3=> ?_)
    · refine ⟨_,s4 _ _ dd,Nat.lt_of_lt_of_le (Nat.lt_of_le_of_lt (abp out i) hlt) hz,fun b o e'=> ?_,?_⟩
      · rw [ak (az e' hD)]
        exact s4 _ _ (sm _ _ e')
      · rw [aj,jb,e]
    · refine ⟨sm.trans s3,?_⟩
      rw [jb,e,List.append_nil]
      exact s3 _ _ dd
  · have e:i=n:=by omega
    subst e
    exact .inl ⟨w.stop H q,hd H sm dd⟩
end L2
namespace L2
open PySem PyProof.Rows PyProof.Rows.G
section
variable {P:Program} {w:World} {A:Around} {E:Value->Shared->Prop} {s:Shared} {a kS:Addr} {vs:List Value} {keys:Array Value} {e e1:Nat} {R:PySem.Fin->Shared->Prop} {κ : PyProof.Rows.KeyKind} {kd:SortKind}
theorem Ma {st:SortSt} (nk:s.heap.get? kS=some (seqObj "list" keys e)) (na:s.heap.get? a=some (seqObj "list" #[] e1)) (hka:kS ≠ a) (hsz:keys.size=vs.length) (hZ:vs.length<=sizeLine)
  (hp:(arrOf st).Perm (keys.zip vs.toArray)) (hfl:failedOf st=none)
  (fin:∀ g c,(∀ b o,b ≠ kS->b ≠ a->s.heap.get? b=some o->g.get? b=some o)->g.get? a=some (seqObj "list" ((arrOf st).map (·.2)) c)->R (.done (.ret .none)) { s with heap:=g }) :
  wpAny (model P w) A (ksk_tail a false e1 (.ref kS) st) R E s:=by
 have hZ2:=hZ
 rw [sizeLine_eq] at hZ2
 have hn:(arrOf st).size=vs.length:=by rw [hp.size_eq,Array.size_zip,hsz,List.size_toArray,Nat.min_self]
 have b1:=Heap.SameBut.update s.heap kS (Obj.mapSeq fun _=>(#[]:Array Value))
 have na1:(s.heap.update kS (Obj.mapSeq fun _=>(#[]:Array Value))).get? a=some (seqObj "list" #[] e1):=(b1.2 a hka.symm).trans na
 have b2:=Heap.SameBut.update (s.heap.update kS (Obj.mapSeq fun _=>(#[]:Array Value))) a (Obj.mapSeq fun _=>(arrOf st).map (·.2))
 unfold ksk_tail
 try dsimp only
 refine wpAny_bind (listUpdate_at nk rfl ?_ (by rw [hsz,sizeLine_eq]; omega) (Nat.zero_le _))
 refine wpAny_bind (wpAny_letGo ?_)
 refine wpAny_bind (seqEpoch_at na1 rfl ?_)
 simp only [Bool.false_eq_true,if_false]
 refine wpAny_bind (listUpdate_at na1 rfl ?_ (Nat.zero_le _) (Nat.le_trans (Nat.le_of_eq ((Array.size_map ..).trans hn)) (by rw [sizeLine_eq]; omega)))
 rw [hfl]
 simp only [bne_self_eq_false,Bool.false_eq_true,if_false]
 refine wpAny_pure (fin _ _ (fun b o q1 q2 q=>b2.extBut b o q2 (b1.extBut b o q1 q)) (get?_update_seq na1 fun _=>(arrOf st).map (·.2)))
theorem Ym (nk:s.heap.get? kS=some (seqObj "list" keys e)) (na:s.heap.get? a=some (seqObj "list" #[] e1)) (hka:kS ≠ a) (hsz:keys.size=vs.length) (hZ:vs.length<=sizeLine)
    (h0:KeysOf κ (keys.zip vs.toArray)) (hO:LtAt P w s κ kd) (hkk:2<=vs.length->∀ {Q:SortKind->Shared->Prop},Q kd s->wpAny (model P w) A (keyKind' keys) Q E s)
    (fin:∀ g c (arr:Array Keyed),(∀ b o,b ≠ kS->b ≠ a->s.heap.get? b=some o->g.get? b=some o)->g.get? a=some (seqObj "list" (arr.map (·.2)) c)->arr.Perm (keys.zip vs.toArray)->SortedToK κ arr arr.size ->
      R (.done (.ret .none)) { s with heap:=g }) :
    wpAny (model P w) A (ksk_end a false vs.toArray e1 (.ref kS) keys) R E s:=by
  have hzs:(keys.zip vs.toArray).size=vs.length:=by rw [Array.size_zip,hsz,List.size_toArray,Nat.min_self]
  unfold ksk_end
  simp only [Bool.false_eq_true,if_false]
  by_cases h2:vs.toArray.size < 2
  · rw [if_pos h2,if_pos h2]
    refine wpAny_bind (wpAny_pure ?_)
    rw [StateT.run_pure]
    refine wpAny_bind (wpAny_pure ?_)
    try dsimp only
    refine Ma (st:=SortSt.mk' general' (keys.zip vs.toArray) #[] 7 none) nk na hka hsz hZ (Array.Perm.refl _) rfl fun g c k1 k2=>fin g c (keys.zip vs.toArray) k1 k2 (Array.Perm.refl _) ?_
    intro i j hij hj
    rw [hzs] at hj
    rw [List.size_toArray] at h2
    have q:i=j:=by omega
    subst q
    exact KeyOrd.kle_refl _
  · rw [if_neg h2,if_neg h2]
    rw [List.size_toArray] at h2
    refine wpAny_bind (hkk (by omega) ?_)
    refine wpAny_bind (wpAny_mono (PyProof.Rows.G.wpS_sortRunsSt (κ := κ) (kd:=kd) (a₀ := keys.zip vs.toArray) (st:=SortSt.mk' kd (keys.zip vs.toArray) #[] 7 none)
      (Q:=fun _ st'=>(arrOf st').Perm (keys.zip vs.toArray)/\failedOf st'=none/\SortedToK κ (arrOf st') (keys.zip vs.toArray).size)
      hO h0 ⟨Array.Perm.refl _,rfl,rfl⟩ rfl (Stable.refl _) (by rw [hzs]; omega) fun st' a1 a2 a3 a4=>⟨a1,a2,a3⟩) ?_ fun _ _ e=>e)
    rintro ⟨⟨⟩,st'⟩ s' ⟨rfl,hp,hf,hs⟩
    try dsimp only
    refine Ma nk na hka hsz hZ hp hf fun g c k1 k2=>fin g c (arrOf st') k1 k2 hp ?_
    rw [hp.size_eq]
    exact hs
end
theorem Yp {X:Cx} {k:Nat} {f:Addr} {fd:FuncData} {ps:List Str} {sp:Sp} {A':Around} {pins:List (Addr × Obj)} {σ : St} {H:Hp} {s:Shared} {Q:VK} {us:List Value} {vs:List V} (F:aY X.prog X.w X.K X.mg X.base CX0 k f fd ps sp) (hr:dF k A') (hA:A'.frames=X.A.frames)
  (hb:Binds X.K fd ps []) (I:Inv X pins σ H s) (r:Vals vs us) (h:sp vs H Q E0):wpAny (model X.prog X.w) A' (call (.ref f) us) (EP X pins σ Q) (fun _ _=>False) s:=by
 have hl:(us++[]).length=ps.length:=by rw [List.append_nil,<-r.length]; exact F.len _ _ _ _ h
 have e0:=I.env0
 have e1:O6 X.prog X.w X.K X.mg X.base A' X.stack s H:=⟨hA.trans e0.frames,e0.mod,e0.bs,e0.bsz,e0.Aq,e0.frf,e0.hok,e0.bare⟩
 have b:=hb s us I.kIn hl
 rw [List.append_nil] at b
 refine wpAny_call (codeAny_mono (F.run A' X.stack s H ⟨us,[]⟩ us vs Q E0 hr e1 b r h) fun r s' hq=> ?_)
 cases r with
 | error e=>exact hq
 | ok fl =>
  cases fl with
  | ret u=>exact I.after hq
  | next=>exact False.elim hq
  | brk=>exact False.elim hq
  | cont=>exact False.elim hq
theorem Inv.adopt {X:Cx} {pins:List (Addr × Obj)} {σ : St} {H:Hp} {s:Shared} {D:Addr} {o:HO} (I:Inv X pins σ H s) (hf:zp X pins H D) (hsz:X.s_0.heap.objs.size<=D) (new:cO X.prog X.w (upd H D o) s.heap D o):Inv X pins σ (upd H D o) s:=by
 obtain ⟨f0,f1,f2,f3,f4,f5⟩:=hf
 refine ⟨I.ok,I.os,I.bare,?_,I.loc,I.cell,?_,?_,?_,?_,I.len⟩
 ·have u:=I.base
  exact ⟨u.keep,u.slot,fun b ob q n hx=>by rw [ak (Nat.ne_of_lt (Nat.lt_of_lt_of_le (Heap.lt_size q) hsz))]; exact u.free b ob q n hx,u.there,
   fun b xs q=>by have z:=u.tups b xs q; rw [ak (az z f0)]; exact z,fun b ob xs q=>by have z:=u.Di b ob xs q; rw [ak (az z f0)]; exact z,
   fun b ps q=>by obtain ⟨m,z⟩:=u.GZ b ps q; exact ⟨m,by rw [ak (az z f0)]; exact z⟩⟩
 ·rw [ak (Ne.symm f1)]
  exact I.free
 ·intro x c e
  rw [ak (f4 x c e)]
  exact I.lF x c e
 ·intro p hp
  obtain ⟨a1,a2,a3⟩:=I.pin p hp
  exact ⟨a1,by rw [ak (f5 p hp)]; exact a2,a3⟩
 ·intro b u e
  by_cases hb:b=D
  ·subst hb
   rw [aj] at e
   cases e
   exact new
  ·rw [ak hb] at e
   exact (I.hok b u e).stay (fun _ _ _ q=>q) (fun c q=>by rw [ak (az q f0)]; exact q) fun c xs q=>by rw [ak (az q f0)]; exact q
theorem vA:∀ {us:List Value} {ns:List Int} (i:Nat),IntsAre us ns->tupItems (fun _=>false) i us=some (ns.map Sum.inl)
 | _,_,_,.nil=>rfl
 | _,_,i,.cons n t r=>by
  show (if (false:Bool)=true then none else (tupItems (fun _=>false) (i + 1) _).map (Sum.inl _ :: ·))=_
  rw [if_neg Bool.false_ne_true,vA (i + 1) r]
  rfl
theorem R1 {X:Cx} {pins:List (Addr × Obj)} {σ : St} {H:Hp} {s:Shared} {t:Addr} {z:List Int} (I:Inv X pins σ H s) (h:H t=some (.tup (z.map V.int))) :
  tupKeyC s.heap (fun _=>false) (.ref t)=some (z.map Sum.inl)/\(0 < z.length->∃ f,TupOf s.heap (fun _=>false) (.ref t) f):=by
 obtain ⟨its,rv,⟨o,ho,hc,n,hd⟩,_⟩:=I.tuple (SqT.of (K:=X.K) h)
 have hi:=rv.ints
 refine ⟨?_,fun hz=> ?_⟩
 ·have e1:isTupObj s.heap (.ref t)=true:=by simp [isTupObj,ho,hc]
  unfold tupKeyC
  rw [if_pos e1]
  unfold tupKey
  simp only [ho,hd]
  exact vA 0 (by simpa using hi)
 ·cases z with
  | nil=>exact absurd hz (by simp)
  | cons k r =>
   cases hi with
   | cons _ tk q=>exact ⟨.int k tk,t,o,_,n,rfl,ho,hc,hd,by simp,fun _=>⟨_,_,rfl⟩,fun q=>absurd q (by simp)⟩
def CW (h:Heap) (p:Keyed):List Int × V:=(((tupKeyC h (fun _=>false) p.1).getD []).map (fun | .inl i=>i | .inr _=>0),(Xn p.2).getD .non)
theorem unl (z:List Int):(z.map (Sum.inl:Int->Int ⊕ List Nat)).map (fun | .inl i=>i | .inr _=>0)=z:=by
 induction z with
 | nil=>rfl
 | cons a r ih=>rw [List.map_cons,List.map_cons,ih]
theorem RB (h:Heap):∀ {ts:List Addr} {kz:List (List Int)} {us:List Value} {xs:List V},ts.length=kz.length->(∀ (j:Nat) (t:Addr) (z:List Int),ts[j]? = some t->kz[j]? = some z->tupKeyC h (fun _=>false) (.ref t)=some (z.map Sum.inl))->Vals xs us ->
  ((ts.map Value.ref).zip us).map (CW h)=kz.zip xs
 | [],[],us,xs,_,_,_=>by simp
 | [],_ :: _,_,_,e,_,_=>by simp at e
 | _ :: _,[],_,_,e,_,_=>by simp at e
 | t :: ts,z :: kz,_,_,e,hk,.nil=>by simp
 | t :: ts,z :: kz,_,_,e,hk,.cons r rr=>by
  rw [List.map_cons,List.zip_cons_cons,List.map_cons,List.zip_cons_cons,RB h (by simpa using e) (fun j t z a b=>hk (j + 1) t z (by simpa using a) (by simpa using b)) rr]
  congr 1
  unfold CW
  rw [hk 0 t z rfl rfl]
  simp only [Option.getD_some,r.abs,unl]
theorem Rn (h:Heap):∀ {ts:List Addr},(∀ t ∈ ts,∃ f,TupOf h (fun _=>false) (.ref t) f)->∃ fs,TupsOf h (fun _=>false) (ts.map Value.ref) fs
 | [],_=>⟨[],.nil⟩
 | t :: ts,q=>by
  obtain ⟨f,hf⟩:=q t (by simp)
  obtain ⟨fs,hfs⟩:=Rn h (ts:=ts) fun t' m=>q t' (by simp [m])
  exact ⟨f :: fs,.cons hf hfs⟩
theorem Bd:∀ {us:List Value},(∀ u ∈ us,∃ x,RelV x u)->Vals (us.map fun u=>(Xn u).getD .non) us
 | [],_=> .nil
 | u :: us,q=>by
  obtain ⟨x,r⟩:=q u (by simp)
  refine .cons ?_ (Bd fun u' m=>q u' (by simp [m]))
  show RelV ((Xn u).getD V.non) u
  rw [r.abs]
  exact r
theorem Vu {X:Cx} {pins:List (Addr × Obj)} {σ : St} {H:Hp} {s:Shared} (I:Inv X pins σ H s) {l f:Addr} {xs:List V} {kz:List (List Int)} {k:Nat} {fd:FuncData} {ps:List Str} {sp:Sp} {Q:VK}
    (hl:SqL X.K H l xs) (hlen:kz.length=xs.length) (hpos:∀ z ∈ kz,0 < z.length) (F:aY X.prog X.w X.K X.mg X.base CX0 k f fd ps sp) (hr:dF (k + 2) X.A) (hb:Binds X.K fd ps [])
    (turn:∀ (i:Nat) (x:V) (z:List Int),xs[i]? = some x->kz[i]? = some z->∀ (H':Hp) (Kr:VK),aC H H'->(∀ t H'',aC H' H''->H'' t=some (.tup (z.map V.int))->Kr (.ref t) H'')->sp [x] H' Kr E0)
    (fin:∀ (ys:List V) (zs:List (List Int × V)) (p:Addr) (H':Hp),aC H H'->H p=none->H' p=some (.lst ys)->zs.Perm (kz.zip xs) ->
      zs.Pairwise (fun a b=>PyProof.Rows.lexLt itemOrd (b.1.map Sum.inl) (a.1.map Sum.inl)=false)->ys=zs.map (·.2)->Q (.ref p) H') :
    wpAny (model X.prog X.w) X.A (call (.builtin "sorted") [.ref l] [(Str.ofString "key",.ref f)]) (EP X pins σ Q) X.xe s:=by
  obtain ⟨vs,rv,hL,hz⟩:=I.list hl
  have hvl:=rv.length
  have hZ:vs.length<=sizeLine:=by rw [<-hvl]; exact hz
  have hZ2:=hZ
  rw [sizeLine_eq] at hZ2
  refine call_function_entry_kw kind_sorted plain_sorted entry_sorted (ksk_s1 _ _) ?_
  unfold Builtin.«sorted»
  refine wpAny_bind (m:=checkCount "sorted" 1 1 _) (wpAny_pure ?_)
  refine wpAny_bind (collect_list hL.isList ?_ (by rw [sizeLine_eq]; omega))
  refine wpAny_bind (wpAny_newList ?_ (by show vs.length<=_; rw [sizeLine_eq]; omega))
  generalize hD:s.heap.objs.size + 1=D
  have hsz:((s.heap.push (seqObj "list" #[] 0)).update s.heap.objs.size (Obj.mapSeq (· ++ vs.toArray))).objs.size=D:=by
    rw [Heap.size_update,size_push',hD]
  generalize hg0:(s.heap.push (seqObj "list" #[] 0)).update s.heap.objs.size (Obj.mapSeq (· ++ vs.toArray))=g0 at hsz
  have kp0:∀ b o,s.heap.get? b=some o->(g0.push (seqObj "list" vs.toArray 0)).get? b=some o:=fun b o q=>by
    have hlt:b < s.heap.objs.size:=Heap.lt_size q
    rw [Heap.get?_push_ne _ _ _ (by rw [hsz,<-hD]; exact Nat.ne_of_lt (Nat.lt_succ_of_lt hlt)),<-hg0,Heap.get?_update_ne _ _ _ _ (Nat.ne_of_lt hlt),Heap.get?_push_ne _ _ _ (Nat.ne_of_lt hlt)]
    exact q
  have hoD:(g0.push (seqObj "list" vs.toArray 0)).get? D=some (seqObj "list" vs.toArray 0):=by rw [<-hsz]; exact Heap.get?_push_size _ rfl
  show wpAny _ _ _ _ _ { s with heap:=g0.push (seqObj "list" vs.toArray 0) }
  rw [hsz]
  refine wpAny_bind (wpAny_holding (wpAny_call_entry_kw slot_list_sort ⟨_,hoD,rfl⟩ entry_list_sort ?body (ksk_l1 _ _)))
  case body =>
  show wpAny (model X.prog X.w) X.A.in1.in1 (Builtin.«list.sort» ⟨[.ref D],[(Str.ofString "key",.ref f)]⟩) _ _ _
  rw [ksk_t1]
  generalize hg1:g0.push (seqObj "list" vs.toArray 0)=g1 at kp0 hoD
  have z1:g1.objs.size=D + 1:=by rw [<-hg1,size_push',hsz]
  have b1:=Heap.SameBut.update g1 D (Obj.mapSeq fun _=>(#[]:Array Value))
  obtain ⟨e1,hoD1⟩:∃ e1,(g1.update D (Obj.mapSeq fun _=>(#[]:Array Value))).get? D=some (seqObj "list" #[] e1):=⟨_,get?_update_seq hoD fun _ => #[]⟩
  unfold ksk_tree
  refine wpAny_bind (listItems_at hoD rfl ?_)
  refine wpAny_bind (listUpdate_at hoD rfl ?_ (by rw [List.size_toArray,sizeLine_eq]; omega) (Nat.zero_le _))
  refine wpAny_bind (seqEpoch_at hoD1 rfl ?_)
  refine wpAny_bind (wpAny_newTuple ?_ (by show vs.length<=_; rw [sizeLine_eq]; omega))
  refine wpAny_bind (wpAny_newList ?_ (Nat.zero_le _))
  refine wpAny_holding ?_
  generalize hkS:((g1.update D (Obj.mapSeq fun _=>(#[]:Array Value))).push (seqObj "tuple" vs.toArray 0)).objs.size=kS
  have ekS:kS=D + 2:=by rw [<-hkS,size_push',Heap.size_update,z1]
  show wpAny (model X.prog X.w) X.A.in1.in1 (ksk_rest D (.ref f) false vs.toArray e1 (.ref kS)) _ _ { s with heap:=((g1.update D (Obj.mapSeq fun _=>(#[]:Array Value))).push (seqObj "tuple" vs.toArray 0)).push (seqObj "list" #[] 0) }
  generalize hg2:((g1.update D (Obj.mapSeq fun _=>(#[]:Array Value))).push (seqObj "tuple" vs.toArray 0)).push (seqObj "list" #[] 0)=g2
  have kp2:∀ b o,s.heap.get? b=some o->g2.get? b=some o:=fun b o q=>by
    have hlt:b < s.heap.objs.size:=Heap.lt_size q
    rw [<-hg2]
    exact Heap.get?_push_of_some _ (Heap.get?_push_of_some _ (b1.extBut b o (by rw [<-hD]; exact Nat.ne_of_lt (Nat.lt_succ_of_lt hlt)) (kp0 b o q)))
  have hD2:g2.get? D=some (seqObj "list" #[] e1):=by rw [<-hg2]; exact Heap.get?_push_of_some _ (Heap.get?_push_of_some _ hoD1)
  have hk2:g2.get? kS=some (seqObj "list" #[] 0):=by rw [<-hg2,<-hkS]; exact Heap.get?_push_size _ rfl
  have leD:s.heap.objs.size<=D:=by rw [<-hD]; exact Nat.le_succ _
  have lek:s.heap.objs.size<=kS:=by rw [ekS]; exact Nat.le_trans leD (Nat.le_add_right _ _)
  have hDk:D ≠ kS:=by rw [ekS]; exact Nat.ne_of_lt (by omega)
  have fD:=I.Dj leD (I.hok.fresh leD)
  have fk:=I.Dj lek (I.hok.fresh lek)
  have I2:Inv X pins σ H { s with heap:=g2 }:=I.kept (t':=s.toks) kp2
  have stat:∀ {H':Hp},H' D=none->H' kS=none->∀ b ∈ [D,kS],zp X pins H' b:=fun n1 n2 b hb=>by
    have q:b=D\/b=kS:=by simpa using hb
    rcases q with rfl | rfl
    · exact ⟨n1,fD.2⟩
    · exact ⟨n2,fk.2⟩
  have hr2:dF k X.A.in1.in1:=hr.in1.in1
  unfold ksk_rest
  refine wpAny_bind (wpAny_rule ?_)
  first
    | rw [List.forIn_toArray]
    | (rw [<-Array.forIn_toList]; simp only [List.toList_toArray])
    | rw [<-Array.forIn_toList]
  refine wpAny_bind (ksk_fold (fun i s'=>∃ (H':Hp) (e:Nat) (ts:List Addr),Inv X pins σ H' s'/\aC H H'/\H' D=none/\H' kS=none/\s'.heap.get? D=some (seqObj "list" #[] e1)/\s'.heap.get? kS=some (seqObj "list" (ts.map Value.ref).toArray e) /\
      ts.length=i/\∀ (j:Nat) (t:Addr) (z:List Int),ts[j]? = some t->kz[j]? = some z->H' t=some (.tup (z.map V.int))) vs 0 _
    ⟨H,0,[],I2,aC.refl H,I.hok.fresh leD,I.hok.fresh lek,hD2,hk2,rfl,fun j t z q=>by simp at q⟩ ?step ?done)
  case step =>
    rintro j u s' hu ⟨H',e,ts,I',sm,nD,nk,gD,gk,hts,hk⟩
    rw [Nat.zero_add] at hts
    rw [Nat.zero_add]
    have hj:j < vs.length:=(List.getElem?_eq_some_iff.mp hu).1
    obtain ⟨x,hx⟩:∃ x,xs[j]? = some x:=⟨_,List.getElem?_eq_getElem (by omega)⟩
    obtain ⟨z,hz'⟩:∃ z,kz[j]? = some z:=⟨_,List.getElem?_eq_getElem (by omega)⟩
    obtain ⟨u',hu',rx⟩:=rv.get hx
    rw [hu] at hu'
    cases hu'
    have Ip:=I'.pinned (fp:=[D,kS]) (stat nD nk) (fun b hb=>by
      have q:b=D\/b=kS:=by simpa using hb
      rcases q with rfl | rfl
      · exact ⟨_,gD,fun v q=>by cases q⟩
      · exact ⟨_,gk,fun v q=>by cases q⟩)
    refine wpAny_bind (wpAny_attempt (wpAny_mono (Yp (us:=[u]) (vs:=[x]) F hr2 rfl hb Ip (.cons rx .nil) (turn j x z hx hz' H' (fun v H''=>∃ t,v = .ref t/\aC H' H''/\H'' t=some (.tup (z.map V.int))) sm fun t H'' a b=>⟨t,rfl,a,b⟩)) (fun v s'' he=> ?_) fun _ _ q=>q.elim))
    obtain ⟨y,H'',I3,ry,t,rfl,sm2,ht⟩:=he
    cases ry
    try dsimp only
    have pD:=I3.pin (D,seqObj "list" #[] e1) (List.mem_append_right _ (List.mem_append_right _ (j8 (by simp) gD)))
    have pk:=I3.pin (kS,seqObj "list" (ts.map Value.ref).toArray e) (List.mem_append_right _ (List.mem_append_right _ (j8 (by simp) gk)))
    have I4:Inv X pins σ H'' s'':=I3.rN
    have hsm:ts.length < 16777216:=by omega
    have b3:=Heap.SameBut.update s''.heap kS (Obj.mapSeq (·.push (.ref t)))
    obtain ⟨e',hk3⟩:∃ e',(s''.heap.update kS (Obj.mapSeq (·.push (.ref t)))).get? kS=some (seqObj "list" ((ts.map Value.ref).toArray.push (.ref t)) e'):=⟨_,get?_update_seq pk.1 (·.push (.ref t))⟩
    have esz:(ts.map Value.ref).toArray.size=ts.length:=by simp
    refine wpAny_bind (listUpdate_at pk.1 rfl ?_ (by rw [esz,sizeLine_eq]; omega) (Nat.le_trans (Nat.le_of_eq (Array.size_push ..)) (by rw [esz,sizeLine_eq]; omega)))
    have f:=fk.2
    refine wpAny_pure ⟨rfl,H'',e',ts++[t],I4.turned (t':=s''.toks) (fun b o hb q=>b3.extBut b o hb q) pk.2.1 f.1 f.2.2.1 f.2.2.2.1 f.2.2.2.2,sm.trans sm2,pD.2.1,pk.2.1,(b3.2 D hDk).trans pD.1,?_,by simp [hts],?_⟩
    · rw [hk3]
      simp
    · intro i t' z' hi hz2
      by_cases hlt:i < ts.length
      · rw [List.getElem?_append_left hlt] at hi
        exact sm2 _ _ (hk i t' z' hi hz2)
      · have ei:i=ts.length:=by
          have q:=(List.getElem?_eq_some_iff.mp hi).1
          simp at q
          omega
        subst ei
        rw [List.getElem?_append_right (Nat.le_refl _)] at hi
        simp at hi
        subst hi
        rw [hts,hz'] at hz2
        cases hz2
        exact ht
  case done =>
    rintro s' ⟨H',e,ts,I',sm,nD,nk,gD,gk,hts,hk⟩
    rw [Nat.zero_add] at hts
    try dsimp only
    refine wpAny_bind (listItems_at gk rfl ?_)
    have esz:(ts.map Value.ref).toArray.size=vs.length:=by simp [hts]
    have ekz:ts.length=kz.length:=by omega
    have hkey:∀ (j:Nat) (t:Addr) (z:List Int),ts[j]? = some t->kz[j]? = some z->tupKeyC s'.heap (fun _=>false) (.ref t)=some (z.map Sum.inl):=fun j t z a b=>(R1 I' (hk j t z a b)).1
    have hall:∀ t ∈ ts,∃ z ∈ kz,tupKeyC s'.heap (fun _=>false) (.ref t)=some (z.map Sum.inl)/\∃ f,TupOf s'.heap (fun _=>false) (.ref t) f:=fun t m=>by
      obtain ⟨j,hj,e⟩:=List.mem_iff_getElem.mp m
      have hjt:ts[j]? = some t:=by rw [List.getElem?_eq_getElem hj,e]
      have hjz:kz[j]? = some kz[j]:=List.getElem?_eq_getElem (by omega)
      have q:=R1 I' (hk j t _ hjt hjz)
      exact ⟨kz[j],List.getElem_mem _,q.1,q.2 (hpos _ (List.getElem_mem _))⟩
    obtain ⟨fs,hfs⟩:=Rn s'.heap (ts:=ts) fun t m=>by
      obtain ⟨_,_,_,q⟩:=hall t m
      exact q
    have hzl:((ts.map Value.ref).toArray.zip vs.toArray).toList=(ts.map Value.ref).zip vs:=by simp
    refine Ym (κ := tupKindC s'.heap (fun _=>false)) (kd:=tuples' true) gk gD hDk.symm esz hZ ?_ (tupC_ltAt true (KeepsTups.refl _)) ?_ ?_
    · intro p hp
      rw [hzl] at hp
      obtain ⟨m,_⟩:=List.of_mem_zip hp
      obtain ⟨t,mt,e⟩:=List.mem_map.mp m
      obtain ⟨z,_,q,_⟩:=hall t mt
      exact ⟨_,by rw [<-e]; exact q⟩
    · intro h2 Q' hq
      exact tup_kind (by rw [TupsOf.length hfs,List.length_map,hts]; omega) hfs hq
    · intro g c arr kp gA hperm hsort
      refine ⟨_,rfl,wpAny_pure ⟨_,rfl,?_⟩⟩
      have I5:Inv X pins σ H' { s' with heap:=g }:=I'.JB (t':=s'.toks) (ch:=[D,kS]) (fun b o hb q=>kp b o (fun z=>hb (by simp [z])) (fun z=>hb (by simp [z])) q) (stat nD nk)
      have hpl:arr.toList.Perm ((ts.map Value.ref).zip vs):=by rw [<-hzl]; exact Array.perm_iff_toList_perm.mp hperm
      have hrel:∀ u ∈ (arr.map (·.2)).toList,∃ x,RelV x u:=fun u m=>by
        rw [Array.toList_map] at m
        obtain ⟨p,mp,e⟩:=List.mem_map.mp m
        have m2:=(List.of_mem_zip (hpl.mem_iff.mp mp)).2
        obtain ⟨j,hj,e2⟩:=List.mem_iff_getElem.mp m2
        obtain ⟨x,hx⟩:∃ x,xs[j]? = some x:=⟨_,List.getElem?_eq_getElem (by omega)⟩
        obtain ⟨u',hu',rx⟩:=rv.get hx
        rw [List.getElem?_eq_getElem hj] at hu'
        cases hu'
        exact ⟨x,by rw [<-e,<-e2]; exact rx⟩
      have hzs:(arr.toList.map (CW s'.heap)).Perm (kz.zip xs):=by
        have q:=hpl.map (CW s'.heap)
        rw [RB s'.heap ekz hkey rv] at q
        exact q
      have eys:(arr.map (·.2)).toList.map (fun u=>(Xn u).getD .non)=(arr.toList.map (CW s'.heap)).map (·.2):=by
        rw [Array.toList_map,List.map_map,List.map_map]
        rfl
      have lenY:((arr.toList.map (CW s'.heap)).map (·.2)).length<=sizeLine:=by
        rw [List.length_map,hzs.length_eq,List.length_zip]
        omega
      have new:cO X.prog X.w (upd H' D (.lst ((arr.toList.map (CW s'.heap)).map (·.2)))) g D (.lst ((arr.toList.map (CW s'.heap)).map (·.2))):=by
        refine ⟨lenY,(arr.map (·.2)).toList,c,?_,?_⟩
        · rw [<-eys]
          exact Bd hrel
        · rw [gA]
      have I6:=Inv.adopt I5 ⟨nD,fD.2⟩ (Nat.le_trans I.sz leD) new
      refine ⟨.ref D,_,I6,rfl,fin _ (arr.toList.map (CW s'.heap)) D _ (fun b o q=> ?_) (I.hok.fresh leD) aj hzs ?_ rfl⟩
      · have q2:=sm b o q
        rw [ak (az q2 nD)]
        exact q2
      · rw [List.pairwise_iff_getElem]
        intro i j hi hj hij
        rw [List.length_map,Array.length_toList] at hi hj
        have q:=hsort i j (Nat.le_of_lt hij) hj
        have kk:∀ m (hm:m < arr.size),((arr.toList.map (CW s'.heap))[m]'(by simp [hm])).1.map Sum.inl=KK (tupKindC s'.heap (fun _=>false)) arr m:=fun m hm=>by
          have hmm:arr[m] ∈ arr.toList:=by simp
          obtain ⟨mk,_⟩:=List.of_mem_zip (hpl.mem_iff.mp hmm)
          obtain ⟨t,mt,e⟩:=List.mem_map.mp mk
          obtain ⟨z,_,qz,_⟩:=hall t mt
          rw [e] at qz
          simp only [List.getElem_map,Array.getElem_toList]
          unfold KK
          rw [Array.getElem?_eq_getElem hm]
          show ((CW s'.heap arr[m]).1).map Sum.inl=((tupKindC s'.heap fun _=>false).keyOf arr[m].1).getD _
          unfold CW
          have q3:(tupKindC s'.heap fun _=>false).keyOf arr[m].1=some (z.map Sum.inl):=qz
          have q4:tupKeyC s'.heap (fun _=>false) arr[m].1=some (z.map Sum.inl):=qz
          rw [q4,q3]
          simp only [Option.getD_some,unl]
        rw [kk i hi,kk j hj]
        exact q
end L2
namespace L2
open PySem PyProof.Rows
open PySem.AutoSeq1 (wpAny_loadPart')
open PySem.MeetsSeq PySem.MeetsSeq2 PySem.MeetsSeq3
structure CEq (K:PySem.W.Frag) (C:Addr):Prop where
 ex:∃ (nm q:Str) (N:Addr) (bs:List Value) (hd:Bool) (sn:List Str) (sub:List Value) (ab:Bool) (col:Option Bool) (dd:Option Addr) (k0 k1 k2 k3 k5:Option Value) (newId:String) (oN:Obj) (es:Array DictEntry) (ep:Nat),
  K.lookup C=some (excClassObj nm q C N bs [.type "object"] hd sn sub ab col dd k0 k1 k2 k3 k5 newId)/\K.lookup N=some oN/\oN.data = .dict es ep/\StrKeys es/\nsFind es "__eq__" = none/\nsFind es "__ne__" = none
theorem CEq.inst {K:PySem.W.Frag} {C x dx:Addr} {h:Heap} (c:CEq K C) (kin:K.In h) (hx:h.get? x=some (PySem.W.instObj C dx)):h.CmpInst x C [.type "object"]:=by
 obtain ⟨nm,q,N,bs,hd,sn,sub,ab,col,dd,k0,k1,k2,k3,k5,newId,oN,es,ep,e1,e2,e3,e4,e5,e6⟩:=c.ex
 exact ⟨_,nm,q,N,bs,hd,sn,sub,ab,col,dd,k0,k1,k2,k3,k5,newId,nsFind es,hx,rfl,kin _ _ e1,⟨oN,es,ep,kin _ _ e2,e3,e4,fun _=>rfl⟩,e5,e6⟩
def zm (C:Addr) (H:Hp) (a:Addr):Prop:=∃ dx fs,H a=some (.ins C dx fs)
section
variable {X:Cx} {C:Addr}
theorem Inv.Ww {pins:List (Addr × Obj)} {σ : St} {H:Hp} {s:Shared} {a:Addr} (I:Inv X pins σ H s) (h:zm C H a):∃ dx,s.heap.get? a=some (PySem.W.instObj C dx):=by
 obtain ⟨dx,fs,e⟩:=h
 obtain ⟨_,_,_,q,_⟩:=I.hok a _ e
 exact ⟨dx,q⟩
theorem FT {pins:List (Addr × Obj)} {σ : St} {H:Hp} {s:Shared} {a b:Addr} {A:Around} (c:CEq X.K C) (hu:A.units < cLine) (I:Inv X pins σ H s) (ha:zm C H a) (hb:zm C H b) :
  SeqAt.EqAt A s (.ref a) (.ref b) (decide (a=b)):=by
 by_cases e:a=b
 ·subst e
  rw [decide_eq_true rfl]
  exact SeqAt.EqAt.same _
 ·rw [decide_eq_false e]
  obtain ⟨dx,qa⟩:=I.Ww ha
  obtain ⟨dy,qb⟩:=I.Ww hb
  refine SeqAt.EqAt.of_refs e fun prog w E Q hq=> ?_
  exact richCompare_eq_other F.cmp_object F.cmp_object (c.inst I.kIn qa) (c.inst I.kIn qb) e hu hq
def Mu (a:Addr):Value->Bool
 | .ref b=>decide (b=a)
 | _=>false
theorem uV:∀ {as:List Addr} {us:List Value},Vals (as.map V.ref) us->us=as.map Value.ref
 | [],_,.nil=>rfl
 | a :: as,_,.cons r t=>by
  rw [List.map_cons,<-uV t]
  congr 1
theorem Gn (a:Addr):∀ (as:List Addr),(as.map Value.ref).any (Mu a)=decide (a ∈ as)
 | []=>by simp
 | b :: as=>by
  rw [List.map_cons,List.any_cons,Gn a as]
  show (decide (b=a) || _)=_
  by_cases e:b=a
  ·subst e; simp
  ·have e':¬ a=b:=fun q=>e q.symm
   simp [e,e']
def rInR (C:Addr) (K:PySem.W.Frag) (neg:Bool):R2:=fun x y H Q=>∃ (a p:Addr) (as:List Addr),x = .ref a/\y = .ref p/\SqL K H p (as.map V.ref)/\zm C H a/\(∀ b ∈ as,zm C H b)/\Q (.bl (if neg then !decide (a ∈ as) else decide (a ∈ as))) H
theorem Wd (c:CEq X.K C) (hu:X.A.units + 64 < cLine):OpR X (compareOp .In) (rInR C X.K false):=by
 intro pins s σ H x y v u Q I rx ry h
 obtain ⟨a,p,as,rfl,rfl,hq,ha,hb,q⟩:=h
 cases rx
 cases ry
 obtain ⟨its,r,pl,hz⟩:=I.list hq
 have e:=uV r
 subst e
 refine SeqAt.in_listAt (Mu a) pl.isList (fun w hw=> ?_) ⟨.bl _,H,I,rfl,?_⟩
 ·obtain ⟨b,hb',rfl⟩:∃ b,b ∈ as/\Value.ref b=w:=by simpa using hw
  exact FT c (show X.A.units + 1 < cLine by omega) I (hb b hb') ha
 ·rw [show (as.map Value.ref).toArray.any (Mu a)=(as.map Value.ref).any (Mu a) by simp,Gn]
  exact q
theorem Ja (c:CEq X.K C) (hu:X.A.units + 64 < cLine):OpR X (compareOp .NotIn) (rInR C X.K true):=by
 intro pins s σ H x y v u Q I rx ry h
 obtain ⟨a,p,as,rfl,rfl,hq,ha,hb,q⟩:=h
 cases rx
 cases ry
 obtain ⟨its,r,pl,hz⟩:=I.list hq
 have e:=uV r
 subst e
 refine SeqAt.notIn_listAt (Mu a) pl.isList (fun w hw=> ?_) ⟨.bl _,H,I,rfl,?_⟩
 ·obtain ⟨b,hb',rfl⟩:∃ b,b ∈ as/\Value.ref b=w:=by simpa using hw
  exact FT c (show X.A.units + 1 < cLine by omega) I (hb b hb') ha
 ·rw [show (as.map Value.ref).toArray.any (Mu a)=(as.map Value.ref).any (Mu a) by simp,Gn]
  exact q
end
theorem Vy (l:Addr) (items:Array Value) (n:Nat) (x:Value) (e:Value->Bool) (j:Nat) (hj:j < items.size) (hit:e items[j]=true) (k:Nat) (hz:items.size<=sizeLine) :
  ∀ i:Nat,j - i=k->i<=j->(∀ m (hm:m < items.size),i<=m->m < j->e items[m]=false)->Meets (Builtin.«list.remove.loop» ⟨[.ref l,x,rawInt i],[]⟩)
   (fun A R s=>s.heap.get? l=some { cls:= .type "list",dict:=none,data:= .seq items n,slots := #[] }/\(∀ y,y ∈ items->SeqAt.EqAt A.in1 s y x (e y))/\R (.ok (.ret .none)) { s with heap:=s.heap.update l (Obj.mapSeq fun xs=>xs.eraseIdxIfInBounds j) }):=by
 induction k with
 | zero =>
  intro i hk hij hno prog w A R s h
  obtain ⟨hp,g,d,tk,os⟩:=s; obtain ⟨hl,he,h⟩:=h
  have eij:i=j:=by omega
  subst eij
  wp_walk using wpAny_loadPart' hl
  have hi:items[((i:Nat):Int).toNat]? = some items[i]:=by simp [hj]
  rw [hi]
  refine wpAny_bind (he _ (Array.getElem_mem hj) prog w _ _ ?_)
  rw [hit]
  have hz2:(items.eraseIdxIfInBounds i).size<=sizeLine + 1:=Nat.le_trans (size_erased items _) (Nat.le_succ_of_le hz)
  wp_walk using (wpAny_updateSeq hl rfl (hz:=hz) (_hz':=hz2)),wpAny_loadPart' hl
  simpa using h
 | succ k ih =>
  intro i hk hij hno prog w A R s h
  obtain ⟨hp,g,d,tk,os⟩:=s; obtain ⟨hl,he,h⟩:=h
  have hlt:i < items.size:=by omega
  wp_walk using wpAny_loadPart' hl
  have hi:items[((i:Nat):Int).toNat]? = some items[i]:=by simp [hlt]
  have hc:((i:Int) + 1)=((i + 1:Nat):Int):=by push_cast; rfl
  rw [hi]
  refine wpAny_bind (he _ (Array.getElem_mem hlt) prog w _ _ ?_)
  rw [hno i hlt (Nat.le_refl _) (by omega)]
  wp_walk
  rw [hc]
  exact ⟨plainId_quiet plain_remove_loop _,codeAny_builtin entry_remove_loop (by
   rw [Around.under_plainId plain_remove_loop _]
   exact ih (i + 1) (by omega) (by omega) (fun m hm h1 h2=>hno m hm (by omega) h2) prog w A R _ ⟨hl,he,h⟩)⟩
theorem aaG (l:Addr) (items:Array Value) (n:Nat) (x:Value) (e:Value->Bool) (j:Nat) (hj:j < items.size)
  (hit:e items[j]=true) (hno:∀ m (hm:m < items.size),m < j->e items[m]=false) (hz:items.size<=sizeLine) :
  Meets (Builtin.«list.remove» ⟨[.ref l,x],[]⟩)
   (fun A R s=>s.heap.get? l=some { cls:= .type "list",dict:=none,data:= .seq items n,slots := #[] }/\(∀ y,y ∈ items->SeqAt.EqAt A.in1 s y x (e y))/\R (.ok (.ret .none)) { s with heap:=s.heap.update l (Obj.mapSeq fun xs=>xs.eraseIdxIfInBounds j) }):=by
 intro prog w A R s h
 obtain ⟨hp,g,d,tk,os⟩:=s; obtain ⟨hl,he,h⟩:=h
 wp_walk using wpAny_loadPart' hl
 exact ⟨plainId_quiet plain_remove_loop _,codeAny_builtin entry_remove_loop (by
  rw [Around.under_plainId plain_remove_loop _]
  exact Vy l items n x e j hj hit _ hz 0 rfl (Nat.zero_le _) (fun m hm _ h2=>hno m hm h2) prog w A R _ ⟨hl,he,h⟩)⟩
theorem R8 {α β : Type} (f : α -> β):∀ (l:List α) (j:Nat),(l.map f).eraseIdx j=(l.eraseIdx j).map f
 | [],j=>by simp
 | a :: l,0=>by simp
 | a :: l,j + 1=>by simp [R8 f l j]
def Yw (C:Addr):V->List V->Hp->VK->Prop:=fun x vs H Q=>∃ (l a:Addr) (as:List Addr) (j:Nat),x = .ref l/\vs=[.ref a]/\H l=some (.lst (as.map V.ref))/\zm C H a/\(∀ b ∈ as,zm C H b)/\as[j]? = some a/\(∀ m,m < j->as[m]? ≠ some a) /\
 Q .non (upd H l (.lst ((as.eraseIdx j).map V.ref)))
theorem T6 {X:Cx} {C:Addr} (c:CEq X.K C) (hu:X.A.units + 64 < cLine):MtM X "list.remove" (Yw C):=by
 intro pins s σ H x vs v us Q I rx rv h
 obtain ⟨l,a,as,j,rfl,rfl,hH,ha,hb,hj,hno,q⟩:=h
 cases rx
 obtain ⟨u,rfl,ru⟩:=rv.one
 cases ru
 obtain ⟨z,its,n,r,hl,e⟩:=I.Qo hH
 have e':=uV r
 subst e'
 obtain ⟨hjl,hje⟩:=List.getElem?_eq_some_iff.mp hj
 have hjs:j < (as.map Value.ref).toArray.size:=by simpa using hjl
 refine call_meets F.slot_list_remove ⟨_,e,rfl⟩ F.entry_list_remove (F.args_list_remove_2 _ _) (aaG l (as.map Value.ref).toArray n (.ref a) (Mu a) j hjs ?_ ?_ (by rw [List.size_toArray,<-hl]; exact z)) ⟨e,fun w hw=> ?_,?_⟩
 ·have e1:(as.map Value.ref).toArray[j]=Value.ref a:=by simp [hje]
  rw [e1]
  exact decide_eq_true rfl
 ·intro m hm hmj
  have hml:m < as.length:=by simpa using hm
  have e1:(as.map Value.ref).toArray[m]=Value.ref as[m]:=by simp
  rw [e1]
  refine decide_eq_false fun q=>hno m hmj ?_
  rw [List.getElem?_eq_getElem hml,q]
 ·obtain ⟨b,hb',rfl⟩:∃ b,b ∈ as/\Value.ref b=w:=by simpa using hw
  exact FT c (show X.A.units + 1 < cLine by omega) I (hb b hb') ha
 ·refine ⟨.non,_,I.lset (its':=(as.eraseIdx j).map Value.ref) hH e ?_ ?_ ?_,rfl,q⟩
  ·rw [Array.eraseIdxIfInBounds,dif_pos hjs]
   simp [R8]
  ·have:∀ (bs:List Addr),Vals (bs.map V.ref) (bs.map Value.ref):=fun bs=>by
    induction bs with
    | nil=>exact .nil
    | cons b bs ih=>exact .cons rfl ih
   exact this _
  ·rw [List.length_map] at z ⊢
   exact Nat.le_trans (List.length_eraseIdx_le ..) z
end L2
namespace L2
open PySem PyProof.Rows
section
variable {prog:Program} {w:World} {A:Around} {R:Result->Shared->Prop} {I:Addr} {fp wr:List Addr} {n:Nat} {P:Nat->Value->Prop} {St:Nat->Heap->Prop} {kw:List (Str × Value)}
theorem Wj (W:Walks prog w A.in1 I fp wr n P St) (bt:Nat->Nat->Bool) (hcmp:CmpOf prog w A.in1 .Gt P bt) (S:Addr) (hSf:S ∉ fp) :
  ∀ (k j:Nat) (s:Shared) (vb:Value) (c:Nat),n - (j + 1)=k->j + 1<=n->St (j + 1) s.heap->P (argBest bt j) vb ->
  s.heap.get? S=some { cls:= .type "list",dict:=none,data:= .seq #[vb,vb] c,slots := #[] } ->
  (∀ v g tk,P (argBest bt (n - 1)) v->(∀ b o,b ∉ wr->b ≠ S->s.heap.get? b=some o->g.get? b=some o)->R (.ok (.ret v)) { s with heap:=g,toks:=tk }) ->
  codeAny (model prog w) A (.builtin "max.loop" ⟨[.ref I,.none,.ref S],kw⟩) R s:=by
 have hSw:S ∉ wr:=fun h=>hSf (W.sub _ h)
 have hname:(toString "max" ++ toString ".loop" : String) = "max.loop" := by decide
 intro k
 induction k with
 | zero =>
  intro j s vb c hk hj hst hPb hS hR
  have hin:j + 1=n:=by omega
  refine codeAny_builtin F.entry_max_loop ?_
  rw [Around.under_plainId F.plain_max_loop _]
  show wpAny _ A.in1 (seqItems? (.ref S) >>= _) _ _ s
  refine wpAny_bind (wpAny_seqItems hS rfl ?_)
  show wpAny _ A.in1 (tryCatch (pyNext (.ref I)) _ >>= _) _ _ s
  refine wpAny_bind (wpAny_tryCatch (W.done s _ _ (hin ▸ hst) fun g tk q=> ?_))
  have hS2:=q S _ hSw hS
  show wpAny _ A.in1 (updateSeq S (fun _ => #[]) >>= _) _ _ _
  refine wpAny_bind ?_
  refine wpAny_updateSeq hS2 rfl (wpAny_bind (wpAny_letGo (wpAny_pure ?_)))
  refine hR vb _ tk (by rw [<-hin]; exact hPb) fun b o hbw hbS e=>(Heap.get?_update_other _ _ (Ne.symm hbS)).trans (q b o hbw e)
 | succ k ih =>
  intro j s vb c hk hj hst hPb hS hR
  have hlt:j + 1 < n:=by omega
  refine codeAny_builtin F.entry_max_loop ?_
  rw [Around.under_plainId F.plain_max_loop _]
  show wpAny _ A.in1 (seqItems? (.ref S) >>= _) _ _ s
  refine wpAny_bind (wpAny_seqItems hS rfl ?_)
  show wpAny _ A.in1 (tryCatch (pyNext (.ref I)) _ >>= _) _ _ s
  refine wpAny_bind (wpAny_tryCatch (W.item (j + 1) s _ _ hlt hst fun v g tk hP st2 q=> ?_))
  have hS2:=q S _ hSw hS
  show wpAny _ A.in1 (tryCatch (holding [v,v] (richCompare .Gt v vb >>= _)) _ >>= _) _ _ _
  refine wpAny_bind (wpAny_tryCatch (wpAny_holding (wpAny_bind (hcmp (j + 1) (argBest bt j) v vb _ _ _ hP hPb ?_))))
  refine wpAny_bind (wpAny_holding (wpAny_truthy_bool ?_))
  refine wpAny_bind (wpAny_letGo (wpAny_pure ?_))
  cases hb:bt (j + 1) (argBest bt j) with
  | true =>
   simp only [if_true]
   refine wpAny_bind ?_
   refine wpAny_updateSeq hS2 rfl (wpAny_bind (wpAny_letGo ?_))
   rw [hname]
   refine wpAny_pure ⟨plainId_quiet F.plain_max_loop _,ih (j + 1) _ v _ (by omega) hlt (W.frame _ _ _ st2 fun b hbf o e=> ?_) (by simp only [argBest,hb,if_true]; exact hP) (Heap.get?_update_self _ hS2 rfl)
    fun v' g2 tk2 hP2 q2=> ?_⟩
   ·exact (Heap.get?_update_other _ _ (fun h:S=b=>hSf (by rw [h]; exact hbf))).trans e
   ·exact hR v' g2 tk2 hP2 fun b o hbw hbS e=>q2 b o hbw hbS ((Heap.get?_update_other _ _ (Ne.symm hbS)).trans (q b o hbw e))
  | false =>
   simp only [Bool.false_eq_true,if_false]
   refine wpAny_bind (wpAny_letGo ?_)
   rw [hname]
   refine wpAny_pure ⟨plainId_quiet F.plain_max_loop _,ih (j + 1) _ vb c (by omega) hlt st2 (by simp only [argBest,hb,Bool.false_eq_true,if_false]; exact hPb) hS2 fun v' g2 tk2 hP2 q2=> ?_⟩
   exact hR v' g2 tk2 hP2 fun b o hbw hbS e=>q2 b o hbw hbS (q b o hbw e)
theorem T5 (W:Walks prog w A.in1 I fp wr n P St) (bt:Nat->Nat->Bool) (hcmp:CmpOf prog w A.in1 .Gt P bt) (S:Addr) (hSf:S ∉ fp) {s:Shared} {c:Nat} {d:Value} {dn:Str} (hst:St 0 s.heap)
  (hS:s.heap.get? S=some { cls:= .type "list",dict:=none,data:= .seq #[] c,slots := #[] })
  (hR:∀ v g tk,0 < n->P (argBest bt (n - 1)) v->(∀ b o,b ∉ wr->b ≠ S->s.heap.get? b=some o->g.get? b=some o)->R (.ok (.ret v)) { s with heap:=g,toks:=tk })
  (hD:∀ g tk,n=0->(∀ b o,b ∉ wr->b ≠ S->s.heap.get? b=some o->g.get? b=some o)->R (.ok (.ret d)) { s with heap:=g,toks:=tk }) :
  codeAny (model prog w) A (.builtin "max.loop" ⟨[.ref I,.none,.ref S],[(dn,d)]⟩) R s:=by
 have hSw:S ∉ wr:=fun h=>hSf (W.sub _ h)
 have hname:(toString "max" ++ toString ".loop" : String) = "max.loop" := by decide
 refine codeAny_builtin F.entry_max_loop ?_
 rw [Around.under_plainId F.plain_max_loop _]
 show wpAny _ A.in1 (seqItems? (.ref S) >>= _) _ _ s
 refine wpAny_bind (wpAny_seqItems hS rfl ?_)
 show wpAny _ A.in1 (tryCatch (pyNext (.ref I)) _ >>= _) _ _ s
 by_cases hn:0 < n
 ·refine wpAny_bind (wpAny_tryCatch (W.item 0 s _ _ hn hst fun v g tk hP st2 q=> ?_))
  have hS2:=q S _ hSw hS
  show wpAny _ A.in1 (updateSeq S (fun _ => #[v,v]) >>= _) _ _ _
  refine wpAny_bind ?_
  refine wpAny_updateSeq hS2 rfl ?_
  rw [hname]
  refine wpAny_pure ⟨plainId_quiet F.plain_max_loop _,Wj W bt hcmp S hSf _ 0 _ v _ rfl hn (W.frame _ _ _ st2 fun b hbf o e=> ?_) hP (Heap.get?_update_self _ hS2 rfl) fun v' g2 tk2 hP2 q2=> ?_⟩
  ·exact (Heap.get?_update_other _ _ (fun h:S=b=>hSf (by rw [h]; exact hbf))).trans e
  ·exact hR v' g2 tk2 hn hP2 fun b o hbw hbS e=>q2 b o hbw hbS ((Heap.get?_update_other _ _ (Ne.symm hbS)).trans (q b o hbw e))
 ·have h0:n=0:=by omega
  refine wpAny_bind (wpAny_tryCatch (W.done s _ _ (by rw [h0]; exact hst) fun g tk q=> ?_))
  refine wpAny_bind (wpAny_rule (wpAny_pure ?_))
  exact hD g tk h0 fun b o hbw hbS e=>q b o hbw e
end
theorem Az (a v:Value):argsOk "max" ⟨[a],[(Str.ofString "default",v)]⟩:=by unfold argsOk; kernel_rfl
section
variable {prog:Program} {w:World} {A:Around} {E:Value->Shared->Prop} {s:Shared} {l:Addr} {xs:Array (Int × Tok)}
theorem Nm {d:Value} {Q:Value->Shared->Prop} (hh:A.handled=none) (hl:s.heap.IsList l (intItems xs))
  (h:∀ v g tk,0 < xs.size->(intItems xs)[argBest (fun i j=>decide (numAt xs i > numAt xs j)) (xs.size - 1)]? = some v->(∀ b o,s.heap.get? b=some o->g.get? b=some o)->Q v { s with heap:=g,toks:=tk })
  (hD:∀ g tk,xs.size=0->(∀ b o,s.heap.get? b=some o->g.get? b=some o)->Q d { s with heap:=g,toks:=tk }) :
  wpAny (model prog w) A (call (.builtin "max") [.ref l] [(Str.ofString "default",d)]) Q E s:=by
 have hname:(toString "max" ++ toString ".loop" : String) = "max.loop" := by decide
 refine wpAny_call (codeAny_call_builtin F.plain_max F.entry_max ?_)
 have hsig:checkBuiltinCall "max" ⟨[.ref l],[(Str.ofString "default",d)]⟩=pure ():=by
  have ha:=Az (.ref l) d
  simp only [checkBuiltinCall,F.kind_max]
  unfold argsOk at ha
  cases hs:Manifest.signature? "max" with
  | none=>rfl
  | some sig =>
   simp only [hs] at ha
   exact ha
 refine wpAny_of_eq hsig ?_
 show wpAny _ A.in1 (Builtin.Builtins.bindParams "max" ["key", "default"] 0 ⟨[],[(Str.ofString "default",d)]⟩ >>= _) _ _ s
 refine wpAny_bind (wpAny_of_eq (show Builtin.Builtins.bindParams "max" ["key", "default"] 0 ⟨[],[(Str.ofString "default",d)]⟩=pure [none,some d] from by kernel_rfl) ?_)
 refine wpAny_bind (wpAny_pure ?_)
 refine wpAny_bind (iter_intList hl fun s2 e st hfp hlI=> ?_)
 subst e
 refine wpAny_bind (wpAny_newObj_type ?_)
 have W:=Walks.list (prog:=prog) (w:=w) (A:=A.in1) hh s.heap.objs.size l hlI (intItems xs)
 rw [hname]
 refine wpAny_pure ⟨plainId_quiet F.plain_max_loop _,T5 W (fun i j=>decide (numAt xs i > numAt xs j)) (CmpOf.ints_gt (numAt xs) (fun _ _=>intItems_at)) _ (fun hm=>Nat.lt_irrefl _ (hfp _ hm))
  (W.frame _ _ _ st fun b _ o e=>Heap.get?_push_of_some _ e) (Heap.get?_push_size _ rfl) (fun v g tk hn hP hk=> ?_) (fun g tk hn hk=> ?_)⟩
 ·exact h v g tk (by simpa [intItems] using hn) (by simpa [intItems] using hP) (old_kept fun b o hbw e=>hk b o hbw (Nat.ne_of_lt (Heap.lt_size e)) (Heap.get?_push_of_some _ e))
 ·exact hD g tk (by simpa [intItems] using hn) (old_kept fun b o hbw e=>hk b o hbw (Nat.ne_of_lt (Heap.lt_size e)) (Heap.get?_push_of_some _ e))
end
def Rb (X:Cx) (id:String) (names:List Str) (r:List V->List V->Hp->VK->Prop):Prop :=
 ∀ (pins:List (Addr × Obj)) (s:Shared) (σ : St) (H:Hp) (vs:List V) (us:List Value) (zs:List V) (ws:List Value) (Q:VK),Inv X pins σ H s->Vals vs us->Vals zs ws->r vs zs H Q ->
  wpAny (model X.prog X.w) X.A (call (.builtin id) us (names.zip ws)) (EP X pins σ Q) X.xe s
def tCBK (r:List V->List V->Hp->VK->Prop) (t tk:TA):TE:=fun σ H Q=>t σ H fun vs H1=>tk σ H1 fun zs H2=>r vs zs H2 Q
section
variable {X:Cx}
theorem z8 {x:Str} {p pos:Pos} {e:Expr} {es:List Expr} {kws:List Keyword} {t tk:TA} {id:String} {names:List Str} {r:List V->List V->Hp->VK->Prop} (hc:Rb X id names r) (hg:Gl X x) (hm:X.mg x=none) (hv:bootBuiltins x=some (.builtin id))
  (ha:PA X (e :: es) t) (hkw:PK X kws tk) (hks:(backToKw pos (keywordEach kws X.env)).filterMap (·.1)=names:=by rfl) (hall:(backToKw pos (keywordEach kws X.env)).all (·.1.isSome)=true:=by rfl)
  (hkn:(backToKw pos (keywordEach kws X.env)).any (·.1.isNone)=false:=by rfl)
  (hn:x ≠ "__name__" := by decide) (hdb:(x == ("__debug__" : Str))=false:=by decide)
  (he:backTo pos (starEach (e :: es) X.env)=(false,eval e X.env) :: backTo pos (starEach es X.env):=by rfl) (hpl:(backTo pos (starEach (e :: es) X.env)).any (·.1)=false:=by rfl) :
  PE X (.Call (.Name x p) (e :: es) kws pos) (tCBK r t tk):=by
 intro pins s σ H Q I h
 refine wpAny_Call_Name_kw (m6 I hg hm hv ?_ hn hdb)
 refine PyProof.Rows.callWith_kw (thn (ha pos pins s σ H _ I h) fun us s1 ⟨vs,H1,I1,r1,q1⟩=>thn (hkw pos pins s1 σ H1 _ I1 q1) fun ws s2 ⟨zs,H2,I2,r2,q2⟩=> ?_) he hpl hall hkn
 rw [hks]
 exact hc pins s2 σ H2 vs us zs ws Q I2 r1 r2 q2
def rMaxD (K:PySem.W.Frag):List V->List V->Hp->VK->Prop:=fun vs zs H Q=>∃ (a:Addr) (ns:List Int) (d:Int),vs=[V.ref a]/\zs=[.int d]/\SqL K H a (ns.map V.int)/\(ns=[]->Q (.int d) H)/\∀ m,m ∈ ns->(∀ y,y ∈ ns->y<=m)->Q (.int m) H
theorem ZP (hc:X.calm=true):Rb X "max" [Str.ofString "default"] (rMaxD X.K):=by
 intro pins s σ H vs us zs ws Q I r rz h
 obtain ⟨a,ns,d,rfl,rfl,hs,q0,q⟩:=h
 obtain ⟨its,rv,hl,_⟩:=I.list hs
 rw [Vals.PP r]
 obtain ⟨u,rfl,ru⟩:=rz.one
 obtain ⟨td,rfl⟩:=ru
 have hi:=rv.ints
 obtain ⟨xs,e⟩:=hi.allInts.items
 have hn:numsOf (intItems xs).toList=ns:=by rw [<-e]; exact hi.numsOf
 rw [nums_intItems] at hn
 have hlen:ns.length=xs.size:=by rw [<-hn,List.length_map,Array.length_toList]
 have hl2:=hl.isList
 rw [e] at hl2
 refine Nm (I.ok.hd hc) hl2 (fun v h' tk hsz hv hk=> ?_) (fun h' tk hsz hk=> ?_)
 ·obtain ⟨t,rfl⟩:=intItems_at hv
  obtain ⟨h1,h2⟩:=argBest_gt (numAt xs) (xs.size - 1)
  refine ⟨.int _,H,I.kept hk,⟨t,rfl⟩,q _ ?_ fun y hy=> ?_⟩
  ·rw [<-hn,numAt_eq]; exact PySem.getD_mem (by rw [List.length_map,Array.length_toList]; omega)
  ·rw [<-hn] at hy
   obtain ⟨j,hj,rfl⟩:=mem_getD hy
   rw [List.length_map,Array.length_toList] at hj
   rw [<-numAt_eq]; exact h2 j (by omega)
 ·exact ⟨.int d,H,I.kept hk,⟨td,rfl⟩,q0 (List.eq_nil_of_length_eq_zero (by omega))⟩
def aaI (X:Cx):List V->List V->Hp->VK->Prop:=fun vs zs H Q=>∃ (l f:Addr) (xs:List V) (kz:List (List Int)) (k:Nat) (fd:FuncData) (ps:List Str) (sp:Sp),vs=[V.ref l]/\zs=[.ref f]/\SqL X.K H l xs/\kz.length=xs.length/\(∀ z ∈ kz,0 < z.length) /\
  aY X.prog X.w X.K X.mg X.base CX0 k f fd ps sp/\dF (k + 2) X.A/\Binds X.K fd ps [] /\
  (∀ (i:Nat) (x:V) (z:List Int),xs[i]? = some x->kz[i]? = some z->∀ (H':Hp) (Kr:VK),aC H H'->(∀ t H'',aC H' H''->H'' t=some (.tup (z.map V.int))->Kr (.ref t) H'')->sp [x] H' Kr E0) /\
  (∀ (ys:List V) (zs:List (List Int × V)) (p:Addr) (H':Hp),aC H H'->H p=none->H' p=some (.lst ys)->zs.Perm (kz.zip xs) ->
    zs.Pairwise (fun a b=>PyProof.Rows.lexLt itemOrd (b.1.map Sum.inl) (a.1.map Sum.inl)=false)->ys=zs.map (·.2)->Q (.ref p) H')
theorem Ow:Rb X "sorted" [Str.ofString "key"] (aaI X):=by
 intro pins s σ H vs us zs ws Q I r rz h
 obtain ⟨l,f,xs,kz,k,fd,ps,sp,rfl,rfl,hl,hlen,hpos,F,hr,hb,turn,fin⟩:=h
 rw [Vals.PP r]
 obtain ⟨u,rfl,ru⟩:=rz.one
 cases ru
 exact Vu I hl hlen hpos F hr hb turn fin
theorem lex2 {a b c d:Int} (h:PyProof.Rows.lexLt itemOrd ([c,d].map Sum.inl) ([a,b].map Sum.inl)=false):a < c\/(a=c/\b<=d):=by
 have e:∀ (i j:Int),itemOrd.blt (Sum.inl i) (Sum.inl j)=decide (i < j):=fun _ _=>rfl
 rw [List.map_cons,List.map_cons,List.map_nil,List.map_cons,List.map_cons,List.map_nil,lex_false] at h
 obtain ⟨h1,h2⟩:=h
 rw [e] at h1 h2
 have h1':=of_decide_eq_false h1
 rcases h2 with h2 | h2
 ·have:=of_decide_eq_true h2
  omega
 ·rw [lex_false,e,e] at h2
  have:=of_decide_eq_false h2.1
  omega
def SqD (w:World) (K:PySem.W.Frag) (a:Addr) (x:Str) (v:V):Prop:=∃ (es:Array DictEntry) (n:Nat) (u:Value),K.lookup a=some ⟨.type "dict",none,.dict es n,#[]⟩/\PySem.W.KeysLit w.params es.toList/\PySem.W.nsIn K a x=some (some u)/\RelV v u
def aax (X:Cx) (td ty:TE):TE:=fun σ H Q=>td σ H fun d H1=>ty σ H1 fun y H2=>∃ a x v,d = .ref a/\y = .str x/\SqD X.w X.K a x v/\Q v H2
theorem En {o i:Expr} {pos:Pos} {td ty:TE} (ho:PE X o td) (hi:PE X i ty) (hs:NoSl i):PE X (.Subscript o i pos) (aax X td ty):=by
 intro pins s σ H Q I h
 refine Yl slot_dict_getitem.lookup hs (thn (ho pins s σ H _ I h) fun u s1 ⟨d,H1,I1,rd,q1⟩=>thn (hi pins s1 σ H1 _ I1 q1) fun uy s2 ⟨y,H2,I2,ry,a,x,v,ed,ey,⟨es,n,uv,hl,hk,hn,rv⟩,q2⟩=> ?_)
 subst ed ey
 cases rd
 obtain ⟨t,rfl⟩:=ry
 have hm:=PySem.W.mapOf_K (prog:=X.prog) (w:=X.w) I2.kIn hl hk
 exact ⟨hm.typeIs,wpAny_getItem_of (strKind_is X.prog X.w x t) hm (PySem.W.find_K hl hn) ⟨v,H2,I2.tok _,rv,q2⟩⟩
end
def IntKeys (es:List DictEntry):Prop:=∀ e ∈ es,∃ k t,e.key = .int k t/\e.hash=hashInt k
def SqDI (K:PySem.W.Frag) (a:Addr) (kvs:List (Int × V)):Prop:=(a == sysModules)=false/\∃ (es:Array DictEntry) (n:Nat),K.lookup a=some ⟨.type "dict",none,.dict es n,#[]⟩/\IntKeys es.toList/\∀ k,rG (kvs.lookup k) (findBy Value.isInt es k)
def Yi (K:PySem.W.Frag) (td ty tx:TE):TE:=fun σ H Q=>td σ H fun d H1=>∃ a kvs,d = .ref a/\SqDI K a kvs/\ty σ H1 fun y H2=>tx σ H2 fun z H3=>∃ k,y = .int k/\Q ((kvs.lookup k).getD z) H3
section
variable {X:Cx}
theorem Np {K:PySem.W.Frag} {P:Program} {w:World} {h:Heap} {a:Addr} {es:Array DictEntry} {n:Nat} (Y:K.In h) (hl:K.lookup a=some ⟨.type "dict",none,.dict es n,#[]⟩) (hk:IntKeys es.toList):h.MapOf (PySem.intKind P w) a (fun k=>findBy Value.isInt es k) :=
 ⟨_,es,n,Y _ _ hl,⟨rfl,rfl,rfl⟩,rfl,fun e he=>by
  obtain ⟨x,t,e1,e2⟩:=hk e (Array.mem_toList_iff.mpr he)
  exact ⟨x,by rw [e1]; exact intKind_is P w x t,e2⟩,fun _=>rfl⟩
theorem TQ {o e f:Expr} {apos cpos:Pos} {td ty tx:TE} (ho:PE X o td) (he:PE X e ty) (hf:PE X f tx) (m:M2 X o "get" apos e f cpos):PE X (.Call (.Attribute o "get" apos) [e,f] [] cpos) (Yi X.K td ty tx):=by
 intro pins s σ H Q I h
 refine wpAny_Call_method m.base m.few m.line PySem.F.plainAttrs_dict PySem.F.slot_dict_get PySem.F.type_dict_get (thn (ho pins s σ H _ I h) fun u s1 ⟨x,H1,I1,rx,a,kvs,ex,⟨hs,es,n,hl,hk,hv⟩,q1⟩=> ?_)
 subst ex
 obtain rfl:u=Value.ref a:=rx
 have hm1:=Np (P:=X.prog) (w:=X.w) I1.kIn hl hk
 refine ⟨hm1.typeIs,hm1.noDict,?_⟩
 rw [m.trees]
 refine Calls.callWith_builtin rfl (Calls.evalArgs_plain (Calls.spliced_cons (thn (he pins s1 σ H1 _ I1 q1) fun iv s2 ⟨y,H2,I2,ry,q2⟩ =>
  Calls.spliced_cons (thn (hf pins s2 σ H2 _ I2 q2) fun fv s3 ⟨z,H3,I3,rz,k,ey,q3⟩=>Calls.spliced_nil ?_))))
 subst ey
 obtain ⟨t,rfl⟩:=ry
 have hm:=Np (P:=X.prog) (w:=X.w) I3.kIn hl hk
 exact call_meetsIn PySem.F.slot_dict_get hm.typeIs PySem.F.entry_dict_get (PySem.F.args_dict_get_3 _ _ _) (meets_dict_get_default (PySem.intKind X.prog X.w) a (intKind_is X.prog X.w k t) hs fv) ⟨_,hm,⟨_,H3,I3.tok _,(hv k).getD rz,q3⟩⟩
end
theorem Pz {prog:Program} {w:World} {A:Around} {ns:List Int} {its:List Value} (e:IntsAre its ns) :
  TruthOf prog w A (fun i v=>its.toArray[i]? = some v) (fun i=>(ns.map fun n=>(n != 0)).getD i false):=fun i v s Q E hv hq=>by
 have hv':its[i]? = some v:=by simpa using hv
 obtain ⟨n,t,hn,rfl⟩:∃ n t,ns[i]? = some n/\v = .int n t:=by
  clear hq hv
  induction e generalizing i with
  | nil=>simp at hv'
  | cons _ _ _ ih =>
   cases i with
   | zero=>simp at hv'; exact ⟨_,_,rfl,hv'.symm⟩
   | succ i=>exact ih i (by simpa using hv')
 have hg:(ns.map fun n=>(n != 0)).getD i false=(n != 0):=by rw [List.getD_eq_getElem?_getD,List.getElem?_map,hn] <;> rfl
 have hq':Q ((ns.map fun n=>(n != 0)).getD i false) s:=hq
 rw [hg] at hq'
 exact PySem.P.truthy_int hq'
def rAnyI (K:PySem.W.Frag):List V->Hp->VK->Prop:=fun vs H Q=>∃ (a:Addr) (ns:List Int),vs=[V.ref a]/\SqL K H a (ns.map V.int)/\Q (.bl (ns.any fun n=>(n != 0))) H
theorem ZQ {X:Cx} (hc:X.calm=true):rE X (.builtin "any") (rAnyI X.K):=by
 intro pins s σ H vs us Q I r h
 obtain ⟨a,ns,rfl,hs,q⟩:=h
 obtain ⟨its,rv,hl,_⟩:=I.list hs
 rw [Vals.PP r]
 have hb:=rv.ints
 have hlen:its.length=ns.length:=by have:=rv.length; simpa using this.symm
 refine call_any_walk (Ft hl.isList fun s₂ e2 st hne=> ?_)
 subst e2
 refine ⟨_,_,_,_,_,_,_,rfl,Walks.list (A:=X.A.in1) (I.ok.hd hc) _ a hne its.toArray,st,Pz hb,fun h' tk hk=> ?_⟩
 refine ⟨.bl _,H,I.kept fun b o eo=>hk b o (fun hmem=> ?_) (Heap.get?_push_of_some _ eo),?_,q⟩
 ·rcases List.mem_cons.mp hmem with e1 | hmem
  ·exact absurd (e1 ▸ Heap.lt_size eo) (Nat.lt_irrefl _)
  ·cases hmem
 ·show Value.bool _=Value.bool _
  have e:=any_range (ns.map fun n=>(n != 0))
  rw [List.length_map,List.any_map] at e
  rw [List.size_toArray,hlen,e]
  rfl
end L2
namespace L2
open PySem PySem.Spec PyProof.Rows
section
variable {X:Cx} {a b o e:Expr} {ta tb:TE} {pos:Pos} {f:Str}
theorem bG (i:Nat) {x:Str} {e:Expr} {te:TE} {pos':Pos} (hN:X.N.Nodup) (he:PE X e te) (hi:X.N[i]? = some x:=by rfl) (hx:Loc X.env.scope x:=by first | exact Or.inl rfl | exact Or.inr rfl)
  (hs:swapsWith e (some (.Name x pos')) pos.line X.env=pure false:=by rfl) (hf:X.fn x=true\/X.env.scope.names.lookup x=some .local:=by first | exact .inl rfl | exact .inr rfl):PS X (.Assign [.Name x pos'] e pos) (tAsg te (yp i)):=aaN (i:=i) hN hi hx he hs hf
theorem xg (i:Nat) {x:Str} (hN:X.N.Nodup) (hi:X.N[i]? = some x:=by rfl) (hx:Loc X.env.scope x:=by first | exact Or.inl rfl | exact Or.inr rfl) (hf:X.fn x=true\/X.env.scope.names.lookup x=some .local:=by first | exact .inl rfl | exact .inr rfl):PG X (.Name x pos) (yp i):=YC (i:=i) hN hi hx hf
theorem xf (he:PE X e ta) (hb:attributeBase e f X.env (eval e X.env)=eval e X.env:=by rfl):PE X (.Attribute e f pos) (tFld X.K ta f):=V1 he hb
theorem xl (ha:PE X a ta) (hb:PE X b tb) (hs:zj b:=by intro _ _; rfl):PE X (.Subscript a b pos) (tOp (rIxL X.K) ta tb):=RD R4 ha hb hs
theorem xt (ha:PE X a ta) (hb:PE X b tb) (hs:zj b:=by intro _ _; rfl):PE X (.Subscript a b pos) (tOp (rIxT X.K) ta tb):=RD Wu ha hb hs
theorem xst {value:Expr} {tv:TE} {pos':Pos} (ha:PE X o ta) (hv:PE X value tv) (hs:swapsWith value (some (.Attribute o f pos')) pos.line X.env=pure false:=by rfl):PS X (.Assign [.Attribute o f pos'] value pos) (sFld X.K ta tv f):=aaO ha hv hs
theorem xap {apos cpos:Pos} (ho:PE X o ta) (he:PE X e tb) (hst:starEach [e] X.env=(false,eval e X.env) :: starEach [] X.env:=by rfl) (hbase:attributeBase o "append" X.env (eval o X.env)=eval o X.env:=by rfl)
  (hfew:((backTo cpos (starEach [e] X.env)).all (!·.1) && (backToKw cpos (keywordEach [] X.env)).all (·.1.isSome) && decide (([e]:List Expr).length + ([]:List Keyword).length + (if ([]:List Keyword).isEmpty then 0 else 1) < 30))=true:=by rfl)
  (hline:(apos.endLine == cpos.line)=true:=by rfl)
  (hs:swapsWith (.Call (.Attribute o "append" apos) [e] [] cpos) none pos.line X.env=pure false:=by rfl) :
  PS X (.Expr (.Call (.Attribute o "append" apos) [e] [] cpos) pos) (Rq (tBM X.K "list" Dn ta (Ii tb G6))) :=
 uX (IK PySem.F.plainAttrs_list PySem.F.slot_list_append PySem.F.type_list_append T7 ho (aa he aq hst) hbase hfew hline hst) hs
theorem kf (K:PySem.W.Frag) (he:PE X e ta) (hK:X.K=K:=by rfl) (hb:attributeBase e f X.env (eval e X.env)=eval e X.env:=by rfl):PE X (.Attribute e f pos) (tFld K ta f):=by subst hK; exact V1 he hb
theorem kl (K:PySem.W.Frag) (ha:PE X a ta) (hb:PE X b tb) (hK:X.K=K:=by rfl) (hs:zj b:=by intro _ _; rfl):PE X (.Subscript a b pos) (tOp (rIxL K) ta tb):=by subst hK; exact RD R4 ha hb hs
theorem kt (K:PySem.W.Frag) (ha:PE X a ta) (hb:PE X b tb) (hK:X.K=K:=by rfl) (hs:zj b:=by intro _ _; rfl):PE X (.Subscript a b pos) (tOp (rIxT K) ta tb):=by subst hK; exact RD Wu ha hb hs
theorem kgt (K:PySem.W.Frag) (n:Nat) {es:List Expr} {k:Nat} {t:TGs} (hc:X.calm=true) (h:PGs X es t) (hK:X.K=K:=by rfl)
  (hn:(assignEach es X.env).length=n:=by rfl) (hst:(assignEach es X.env).findIdx? (·.1)=none:=by rfl):PG X (.Tuple es k pos) (gTup K n t):=by subst hK; exact wO hc h hn hst
def GI (mg:Str->Option Value) (x:Str) (n:Int):Prop:=∃ t,mg x=some (.int n t)
theorem bC {x:Str} {n:Int} (hg:Gl X x) (h:GI X.mg x n) (hd:(x == ("__debug__" : Str))=false:=by decide):PE X (.Name x pos) (tC (.int n)):=by
 obtain ⟨t,ht⟩:=h
 exact RG hg ht ⟨t,rfl⟩ hd
theorem dz {x:Str} {a:Addr} (hg:Gl X x) (h:X.mg x=some (.ref a)) (hd:(x == ("__debug__" : Str))=false:=by decide):PE X (.Name x pos) (tC (.ref a)):=RG hg h rfl hd
end
structure FnI (P:Program) (w:World) (K:PySem.W.Frag) (mg:Str->Option Value) (base:Heap) (x:Str) (k:Nat) (f:Addr) (fd:FuncData) (ps:List Str) (sp:Sp):Prop where
 ok:aY P w K mg base CX0 k f fd ps sp
 mgr:mg x=some (.ref f)
 kp:PySem.W.keepIn K (.ref f)=true
 bd:Binds K fd ps []
structure MkI (P:Program) (w:World) (K:PySem.W.Frag) (mg:Str->Option Value) (base:Heap) (x:Str) (C:Addr) (k:Nat) (f:Addr) (fd:FuncData) (ps:List Str) (sp:Sp):Prop where
 ok:aY P w K mg base CX0 k f fd ps sp
 mgr:mg x=some (.ref C)
 mkc:Mk K C f
 bd:Binds K fd ps []
structure MtI (P:Program) (w:World) (K:PySem.W.Frag) (mg:Str->Option Value) (base:Heap) (C:Addr) (m:Str) (k:Nat) (f:Addr) (fd:FuncData) (ps:List Str) (sp:Sp):Prop where
 ok:aY P w K mg base CX0 k f fd ps sp
 mt:Meth K C m f
 bd:Binds K fd ps []
section
variable {X:Cx} {x m:Str} {k:Nat} {f C:Addr} {fd:FuncData} {ps:List Str} {sp:Sp} {e o:Expr} {es:List Expr} {p pos apos:Pos} {t:TA} {ta:TE}
theorem aH (G:FnI X.prog X.w X.K X.mg X.base x k f fd ps sp) (hr:dF k X.A) (ha:PA X (e :: es) t) (hg:Gl X x:=by rfl) (hdb:(x == ("__debug__" : Str))=false:=by decide)
  (he:starEach (e :: es) X.env=(false,eval e X.env) :: starEach es X.env:=by rfl) (hpl:(backTo pos (starEach es X.env)).any (·.1)=false:=by rfl):PE X (.Call (.Name x p) (e :: es) [] pos) (Z1 sp [] E0 t) :=
 YG G.ok hr hg G.mgr G.kp G.bd .nil Eo ha hdb he hpl
theorem jj (G:MkI X.prog X.w X.K X.mg X.base x C k f fd ps sp) (hr:dF (k + 1) X.A) (ha:PA X (e :: es) t) (hg:Gl X x:=by rfl) (hdb:(x == ("__debug__" : Str))=false:=by decide)
  (he:starEach (e :: es) X.env=(false,eval e X.env) :: starEach es X.env:=by rfl) (hpl:(backTo pos (starEach es X.env)).any (·.1)=false:=by rfl):PE X (.Call (.Name x p) (e :: es) [] pos) (Rp C sp [] E0 t) :=
 YF G.mkc G.ok hr hg G.mgr G.bd .nil Eo ha hdb he hpl
theorem TJ (G:MkI X.prog X.w X.K X.mg X.base x C k f fd ps sp) (hr:dF (k + 1) X.A) (hg:Gl X x:=by rfl) (hdb:(x == ("__debug__" : Str))=false:=by decide):PE X (.Call (.Name x p) [] [] pos) (Rp C sp [] E0 G6) :=
 V0 G.mkc G.ok hr hg G.mgr G.bd .nil Eo hdb
end
theorem aO {K:PySem.W.Frag} {C a dx:Addr} {H:Hp} {fs:List (Str × V)} {f:Str} {v:V} {Q:V->Prop} (h:H a=some (.ins C dx fs)) (c:Cls K C) (n:bc K C f) (l:fs.lookup f=some v) (q:Q v) :
  ∃ (a' C' dx':Addr) (fs':List (Str × V)) (v':V),V.ref a = .ref a'/\H a'=some (.ins C' dx' fs')/\Cls K C'/\bc K C' f/\fs'.lookup f=some v'/\Q v':=⟨a,C,dx,fs,v,rfl,h,c,n,l,q⟩
theorem aC.upd {H:Hp} {a:Addr} {o:HO} (h:H a=none):aC H (upd H a o):=fun b u e=>by rw [ak (az e h)]; exact e
theorem aC.sqT {K:PySem.W.Frag} {H H':Hp} {a:Addr} {xs:List V} (e:aC H H') (h:SqT K H a xs):SqT K H' a xs:=by
 rcases h with (h | ⟨o,h⟩) | h
 ·exact .inl (.inl (e _ _ h))
 ·exact .inl (.inr ⟨o,e _ _ h⟩)
 ·exact .inr h
end L2
namespace Crew
open PySem PySem.Spec PyProof.Rows L2
open Vbaham (Leg Rules Member)
def top (i:Nat):Stmt:=PySem.Challenge.pw_crewlegs_s01_answers.main.body.getD i (.Pass ⟨0,0,0,0⟩)
theorem GQ:bootBuiltins "max" = some (.builtin "max"):=by decide +kernel
theorem B_sum:bootBuiltins "sum" = some (.builtin "sum"):=by decide +kernel
theorem Xv:bootBuiltins "any" = some (.builtin "any"):=by decide +kernel
theorem Xw:bootBuiltins "all" = some (.builtin "all"):=by decide +kernel
theorem uQ:bootBuiltins "sorted" = some (.builtin "sorted"):=by decide +kernel
theorem abN:bootBuiltins "list" = some (.type "list"):=by decide +kernel
structure Ads where
 duty:Addr
 rules:Addr
 leg:Addr
 member:Addr
 ou:Addr
 vp:Addr
 call:Addr
 reader:Addr
structure Txt (w:World) (K:PySem.W.Frag) (mg:Str->Option Value) (C:Ads):Prop where
 Bk:mg "max" = none
 Z6:mg "sum" = none
 RQ:mg "any" = none
 RT:mg "all" = none
 iG:mg "len" = none
 n6:mg "sorted" = none
 Wh:mg "list" = none
 Dp:mg "range" = none
 d9:mg "enumerate" = none
 Ff:mg "zip" = none
 NK:GI mg "DAY" 1440
 fJ:Cls K C.duty
 cY:Cls K C.rules
 bQ:Cls K C.leg
 aN:Cls K C.member
 bO:Cls K C.ou
 dY:Cls K C.vp
 km:Cls K C.call
 cN:Cls K C.reader
 FQ:CEq K C.leg
 Gf:bc K C.duty "legs"
 vd:bc K C.duty "begin"
 Gj:bc K C.duty "end"
 PQ:bc K C.rules "turn"
 VD:bc K C.rules "gap"
 Ek:bc K C.rules "before"
 JV:bc K C.rules "after"
 PX:bc K C.rules "rest"
 P0:bc K C.rules "days"
 zY:bc K C.rules "longest"
 zX:bc K C.rules "windows"
 yg:bc K C.leg "place"
 yh:bc K C.leg "origin"
 YW:bc K C.leg "to"
 lB:bc K C.leg "dep"
 t7:bc K C.leg "arr"
 Dr:bc K C.leg "needs"
 jm:bc K C.member "number"
 Fi:bc K C.member "base"
 wU:bc K C.member "rank"
 cG:bc K C.member "legs"
 pN:bc K C.vp "rules"
 Qg:bc K C.vp "base"
 nZ:bc K C.vp "roster"
 tW:bc K C.vp "duties"
def nats (l:List Nat):List V:=l.map fun (n:Nat)=>V.int (n:Int)
def Fl (p:Nat) (g:Leg) (nd:Addr):List (Str × V):=[("place",.int p),("origin",.int g.from_),("to",.int g.to_),("dep",.int g.dep),("arr",.int g.arr),("needs",.ref nd)]
def fV (C:Ads) (H:Hp) (a:Addr) (p:Nat) (g:Leg):Prop:=∃ dx nd,H a=some (.ins C.leg dx (Fl p g nd))/\H nd=some (.lst (nats g.needs))
def PN (r:Rules) (l w:Addr):List (Str × V):=[("turn",.int r.turn),("gap",.int r.gap),("before",.int r.before),("after",.int r.after),("rest",.int r.rest),("days",.int r.days),("longest",.ref l),("windows",.ref w)]
def f9 (C:Ads) (H:Hp) (a:Addr) (r:Rules):Prop:=∃ (dx l w:Addr) (ws:List Addr),H a=some (.ins C.rules dx (PN r l w))/\H l=some (.lst (nats r.longest))/\H w=some (.lst (ws.map V.ref)) /\
 ws.length=r.windows.length/\∀ (i:Nat) (b:Addr) (p:Nat × Nat),ws[i]? = some b->r.windows[i]? = some p->H b=some (.tup [.int p.1,.int p.2])
structure LG where
 a:Addr
 p:Nat
 g:Leg
def nF (C:Ads) (H:Hp) (xs:List LG):Prop:=∀ x ∈ xs,fV C H x.a x.p x.g
def refs (xs:List LG):List V:=xs.map fun x=>V.ref x.a
def legs (xs:List LG):List Leg:=xs.map (·.g)
structure dD (K:PySem.W.Frag) (C:Ads) (H:Hp) (l:Addr) (xs:List LG):Prop where
 lst:SqL K H l (refs xs)
 at_:nF C H xs
theorem fV.same {C:Ads} {H H':Hp} {a:Addr} {p:Nat} {g:Leg} (s:aC H H') (h:fV C H a p g):fV C H' a p g:=by
 obtain ⟨dx,nd,h1,h2⟩:=h
 exact ⟨dx,nd,s _ _ h1,s _ _ h2⟩
theorem f9.same {C:Ads} {H H':Hp} {a:Addr} {r:Rules} (s:aC H H') (h:f9 C H a r):f9 C H' a r:=by
 obtain ⟨dx,l,w,ws,h1,h2,h3,h4,h5⟩:=h
 exact ⟨dx,l,w,ws,s _ _ h1,s _ _ h2,s _ _ h3,h4,fun i b p e1 e2=>s _ _ (h5 i b p e1 e2)⟩
theorem nF.same {C:Ads} {H H':Hp} {xs:List LG} (s:aC H H') (h:nF C H xs):nF C H' xs:=fun x m=>(h x m).same s
theorem dD.same {K:PySem.W.Frag} {C:Ads} {H H':Hp} {l:Addr} {xs:List LG} (s:aC H H') (h:dD K C H l xs):dD K C H' l xs:=⟨s.seq h.lst,h.at_.same s⟩
def Sd (l:Addr) (b e:Nat):List (Str × V):=[("legs",.ref l),("begin",.int b),("end",.int e)]
def GJ (K:PySem.W.Frag) (C:Ads) (H:Hp) (a:Addr) (r:Rules) (xs:List LG):Prop:=∃ dx l,H a=some (.ins C.duty dx (Sd l (Vbaham.begins r (legs xs)) (Vbaham.ends r (legs xs))))/\dD K C H l xs
theorem GJ.same {K:PySem.W.Frag} {C:Ads} {H H':Hp} {a:Addr} {r:Rules} {xs:List LG} (s:aC H H') (h:GJ K C H a r xs):GJ K C H' a r xs:=by
 obtain ⟨dx,l,h1,h2⟩:=h
 exact ⟨dx,l,s _ _ h1,h2.same s⟩
theorem dm {xs:List LG} {i:Nat} {v:V} (h:(refs xs)[i]? = some v):∃ x,xs[i]? = some x/\v = .ref x.a:=by
 unfold refs at h
 rw [List.getElem?_map] at h
 cases e:xs[i]? with
 | none=>rw [e] at h; cases h
 | some x=>rw [e] at h; exact ⟨x,rfl,(Option.some.inj h).symm⟩
theorem xV {xs:List LG} {i:Nat} {x:LG} (h:xs[i]? = some x):(refs xs)[i]? = some (.ref x.a):=by
 unfold refs
 rw [List.getElem?_map,h]
 rfl
theorem aM (xs:List LG):(refs xs).length=xs.length:=by unfold refs; rw [List.length_map]
theorem aK {α : Type} {xs:List α} {z:Int} {j:Nat} {v : α} (e:z=(j:Int)) (h:xs[j]? = some v):atI xs z=some v:=by
 have hj:=(List.getElem?_eq_some_iff.mp h).1
 unfold atI ixN
 rw [if_pos (by omega),if_pos (by omega)]
 show xs[z.toNat]? = some v
 rw [e]
 exact h
theorem O1 {α : Type} {xs:List α} {v : α} (h:xs.getLast? = some v):atI xs (-1)=some v:=by
 have hn:xs ≠ []:=by intro q; subst q; cases h
 have hp:0 < xs.length:=List.length_pos_iff.mpr hn
 unfold atI ixN
 rw [if_neg (by omega),if_pos (by omega)]
 show xs[(-1 + (xs.length:Int)).toNat]? = some v
 rw [show (-1 + (xs.length:Int)).toNat=xs.length - 1 by omega,<-List.getLast?_eq_getElem?]
 exact h
end Crew
namespace L2
open PySem PySem.Spec PyProof.Rows
theorem ye {H:Hp} {a s C dx C' dx':Addr} {x:Str × V} {fs:List (Str × V)} (ha:H a=some (.ins C dx (x :: fs))) (hs:H s=some (.ins C' dx' [])):a ≠ s:=by
 rintro rfl
 rw [ha] at hs
 injection hs with e
 injection e with _ _ e2
 cases e2
theorem fZ {H:Hp} {a s C dx:Addr} {xs:List V} {fs:List (Str × V)} (ha:H a=some (.lst xs)) (hs:H s=some (.ins C dx fs)):a ≠ s:=by
 rintro rfl
 rw [ha] at hs
 cases hs
theorem RP {H:Hp} {a s C dx:Addr} {xs:List V} {fs:List (Str × V)} (ha:H a=some (.tup xs)) (hs:H s=some (.ins C dx fs)):a ≠ s:=by
 rintro rfl
 rw [ha] at hs
 cases hs
theorem SqL.Yg {K:PySem.W.Frag} {H:Hp} {l s C dx:Addr} {xs:List V} {fs:List (Str × V)} {o:HO} (h:SqL K H l xs) (hs:H s=some (.ins C dx fs)):SqL K (upd H s o) l xs:=by
 rcases h with (h | ⟨u,h⟩) | h
 ·exact .inl (.inl (by rw [ak (fZ h hs)]; exact h))
 ·refine .inl (.inr ⟨u,?_⟩)
  rw [ak (by rintro rfl; rw [h] at hs; cases hs)]
  exact h
 ·exact .inr h
end L2
namespace Crew
open PySem PySem.Spec PyProof.Rows L2
open Vbaham (Leg Rules Member)
theorem max0 (a b:Nat):(if ((a:Int) - (b:Int)) > 0 then ((a:Int) - (b:Int)) else 0)=((a - b:Nat):Int):=by
 split <;> omega
theorem lH {xs:List LG} {x:LG} (h:xs[0]? = some x):Vbaham.firstDep (legs xs)=x.g.dep:=by
 cases xs with
 | nil=>cases h
 | cons y ys=>cases h; rfl
theorem Fq {xs:List LG} {x:LG} (h:xs.getLast? = some x):Vbaham.lastArr (legs xs)=x.g.arr:=by
 unfold Vbaham.lastArr legs
 rw [List.getLast?_map,h]
 rfl
theorem Tw {xs:List LG} {x:LG} (h:xs.getLast? = some x):(refs xs).getLast? = some (.ref x.a):=by
 unfold refs
 rw [List.getLast?_map,h]
 rfl
section
variable {P:Program} {w:World} {K:PySem.W.Frag} {mg:Str->Option Value} {base:Heap} {C:Ads}
abbrev sW:Stmt:=inClass (top 2) 0
theorem JP:aG ["self", "rules", "legs"] ["self", "rules", "legs"] (aD sW):=⟨rfl,rfl,rfl,by decide +kernel,rfl,by decide +kernel,by decide +kernel⟩
def xK (K:PySem.W.Frag) (C:Ads):Sp:=fun vs H Q _=>∃ (s dx r l:Addr) (R:Rules) (xs:List LG),vs=[.ref s,.ref r,.ref l]/\H s=some (.ins C.duty dx [])/\f9 C H r R/\dD K C H l xs/\xs ≠ [] /\
 ∀ H':Hp,(∃ dx,H' s=some (.ins C.duty dx (Sd l (Vbaham.begins R (legs xs)) (Vbaham.ends R (legs xs)))))->(∀ b o,H b=some o->b ≠ s->H' b=some o)->Q .non H'
theorem Kc {f:Addr} {fd:FuncData} (F:Fun K "__init__" "Duty.__init__" sW f fd) (T:Txt w K mg C):aY P w K mg base CX0 1 f fd ["self", "rules", "legs"] (xK K C):=by
  refine F.ok JP (fun vs H Q E h=> ?_) (fun cdv A outer s H vs Q E hr h=> ?_)
  · obtain ⟨_,_,_,_,_,_,rfl,_⟩:=h
    rfl
  · obtain ⟨s,dx,r,l,R,xs,rfl,hs,hR,hL,hne,k⟩:=h
    obtain ⟨x0,hx0⟩:∃ x,xs[0]? = some x:=⟨_,List.getElem?_eq_getElem (List.length_pos_iff.mpr hne)⟩
    obtain ⟨x1,hx1⟩:∃ x,xs.getLast? = some x:=⟨_,List.getLast?_eq_some_getLast hne⟩
    have m0:x0 ∈ xs:=List.mem_of_getElem? hx0
    have m1:x1 ∈ xs:=List.mem_of_getLast? hx1
    refine ⟨_,(ao (xst (pv 0) (pv 2))
      (ao (xst (pv 0) (aW (jQ rfl) (by rfl) T.Bk GQ (aa aB (aa (bB d8 (xf (xl (pv 2) aB)) (xf (pv 1))) aq))))
      (au (xst (pv 0) (bB gr (xf (xl (pv 2) (VP Pr aB))) (xf (pv 1))))))),?_⟩
    obtain ⟨rdx,rl,rw_,rws,hr1,hr2,hr3,hr4⟩:=hR
    obtain ⟨d0,n0,g0,_⟩:=hL.at_ x0 m0
    obtain ⟨d1,n1,g1,_⟩:=hL.at_ x1 m1
    have nr:r ≠ s:=ye hr1 hs
    have e0:x0.a ≠ s:=ye g0 hs
    have e1:x1.a ≠ s:=ye g1 hs
    refine ⟨_,rfl,_,rfl,s,_,_,_,rfl,hs,T.fJ,T.Gf,(by show 0 < 1000; decide),?_⟩
    refine ⟨_,rfl,l,_,_,_,rfl,rfl,hL.lst.Yg hs,aK (j:=0) rfl (xV hx0),aO ((ak e0).trans g0) T.bQ T.lB rfl ⟨_,rfl,aO ((ak nr).trans hr1) T.cY T.Ek rfl ?_⟩⟩
    refine ⟨_,_,rfl,rfl,_,_,rfl,?_⟩
    rw [max0]
    refine ⟨_,rfl,s,_,_,_,rfl,aj,T.fJ,T.vd,(by show 1 < 1000; decide),?_⟩
    refine ⟨_,rfl,_,rfl,l,_,_,_,rfl,rfl,(hL.lst.Yg hs).Yg aj,O1 (Tw hx1),aO ((ak e1).trans ((ak e1).trans g1)) T.bQ T.t7 rfl ⟨_,rfl,aO ((ak nr).trans ((ak nr).trans hr1)) T.cY T.JV rfl ?_⟩⟩
    refine ⟨_,_,rfl,rfl,_,rfl,s,_,_,_,rfl,aj,T.fJ,T.Gj,(by show 2 < 1000; decide),?_⟩
    refine k _ ⟨dx,?_⟩ fun b o e hb=>by rw [ak hb,ak hb,ak hb]; exact e
    rw [aj]
    unfold Vbaham.begins Vbaham.ends
    rw [lH hx0,Fq hx1]
    rfl
end
def aQ (gap:Nat):List LG->List (List LG)
 | []=>[]
 | x :: r=>match r,aQ gap r with
  | y :: _,d :: l=>if y.g.dep < x.g.arr + gap then (x :: d) :: l else [x] :: d :: l
  | _,_=>[[x]]
theorem iB {gap:Nat} {x y:LG} {r d:List LG} {l:List (List LG)} (e:aQ gap (y :: r)=d :: l):aQ gap (x :: y :: r)=if y.g.dep < x.g.arr + gap then (x :: d) :: l else [x] :: d :: l:=by
 show (match (y :: r),aQ gap (y :: r) with
  | y :: _,d :: l=>if y.g.dep < x.g.arr + gap then (x :: d) :: l else [x] :: d :: l
  | _,_=>[[x]])=_
 rw [e]
theorem qd (gap:Nat) (x:LG) (r:List LG):∃ d l,aQ gap (x :: r)=d :: l:=by
 unfold aQ
 split
 ·split
  ·exact ⟨_,_,rfl⟩
  ·exact ⟨_,_,rfl⟩
 ·exact ⟨_,_,rfl⟩
theorem yw (gap:Nat):∀ xs:List LG,(aQ gap xs).map legs=Vbaham.duties gap (legs xs)
 | []=>rfl
 | [x]=>rfl
 | x :: y :: r=>by
  obtain ⟨d,l,e⟩:=qd gap y r
  have ih:=yw gap (y :: r)
  rw [e] at ih
  have e1:aQ gap (x :: y :: r)=if y.g.dep < x.g.arr + gap then (x :: d) :: l else [x] :: d :: l:=iB e
  have e2:Vbaham.duties gap (legs (x :: y :: r))=if y.g.dep < x.g.arr + gap then (x.g :: legs d) :: l.map legs else [x.g] :: legs d :: l.map legs:=by
   show (match (y.g :: legs r),Vbaham.duties gap (legs (y :: r)) with
    | y :: _,d :: l=>if y.dep < x.g.arr + gap then (x.g :: d) :: l else [x.g] :: d :: l
    | _,_=>[[x.g]])=_
   rw [<-ih]
   rfl
  rw [e1,e2]
  split <;> rfl
theorem yx (gap:Nat) (p x:LG):∀ zs:List LG,∃ ds d,aQ gap (zs++[p])=ds++[d] /\
  aQ gap (zs++[p]++[x])=if x.g.dep < p.g.arr + gap then ds++[d++[x]] else ds++[d]++[[x]]
 | []=>by
  refine ⟨[],[p],rfl,?_⟩
  show (if x.g.dep < p.g.arr + gap then [[p,x]] else [[p],[x]])=_
  split <;> rfl
 | z :: zs=>by
  obtain ⟨ds,d,e1,e2⟩:=yx gap p x zs
  obtain ⟨y,r,er⟩:∃ y r,zs++[p]=y :: r:=by
   cases zs with
   | nil=>exact ⟨p,[],rfl⟩
   | cons a b=>exact ⟨a,b++[p],rfl⟩
  have er2:zs++[p]++[x]=y :: (r++[x]):=by rw [er]; rfl
  have step:∀ (r':List LG) (d':List LG) (l':List (List LG)),aQ gap (y :: r')=d' :: l'->aQ gap (z :: y :: r')=if y.g.dep < z.g.arr + gap then (z :: d') :: l' else [z] :: d' :: l':=fun r' d' l' e=>iB e
  rw [er] at e1
  rw [er2] at e2
  rw [show z :: zs++[p]=z :: (zs++[p]) from rfl,show z :: (zs++[p])++[x]=z :: (zs++[p]++[x]) from rfl,er]
  cases ds with
  | nil =>
   rw [step r d [] e1]
   by_cases hx:x.g.dep < p.g.arr + gap
   ·rw [if_pos hx] at e2
    simp only [if_pos hx]
    rw [show y :: r++[x]=y :: (r++[x]) from rfl,step (r++[x]) (d++[x]) [] e2]
    by_cases hy:y.g.dep < z.g.arr + gap
    ·rw [if_pos hy,if_pos hy]
     exact ⟨[],z :: d,rfl,rfl⟩
    ·rw [if_neg hy,if_neg hy]
     exact ⟨[[z]],d,rfl,rfl⟩
   ·rw [if_neg hx] at e2
    simp only [if_neg hx]
    rw [show y :: r++[x]=y :: (r++[x]) from rfl,step (r++[x]) d [[x]] e2]
    by_cases hy:y.g.dep < z.g.arr + gap
    ·rw [if_pos hy,if_pos hy]
     exact ⟨[],z :: d,rfl,rfl⟩
    ·rw [if_neg hy,if_neg hy]
     exact ⟨[[z]],d,rfl,rfl⟩
  | cons d0 ds =>
   rw [step r d0 (ds++[d]) e1]
   by_cases hx:x.g.dep < p.g.arr + gap
   ·rw [if_pos hx] at e2
    simp only [if_pos hx]
    rw [show y :: r++[x]=y :: (r++[x]) from rfl,step (r++[x]) d0 (ds++[d++[x]]) e2]
    by_cases hy:y.g.dep < z.g.arr + gap
    ·rw [if_pos hy,if_pos hy]
     exact ⟨(z :: d0) :: ds,d,rfl,rfl⟩
    ·rw [if_neg hy,if_neg hy]
     exact ⟨[z] :: d0 :: ds,d,rfl,rfl⟩
   ·rw [if_neg hx] at e2
    simp only [if_neg hx]
    rw [show y :: r++[x]=y :: (r++[x]) from rfl,step (r++[x]) d0 (ds++[d]++[[x]]) e2]
    by_cases hy:y.g.dep < z.g.arr + gap
    ·rw [if_pos hy,if_pos hy]
     exact ⟨(z :: d0) :: ds,d,rfl,rfl⟩
    ·rw [if_neg hy,if_neg hy]
     exact ⟨[z] :: d0 :: ds,d,rfl,rfl⟩
theorem dC (gap:Nat):∀ (xs:List LG),∀ d ∈ aQ gap xs,d ≠ []
 | [],d,h=>by cases h
 | [x],d,h=>by
  have e:d=[x]:=by simpa [aQ] using h
  rw [e]
  simp
 | x :: y :: r,d,h=>by
  obtain ⟨d',l,e⟩:=qd gap y r
  have ih:=dC gap (y :: r)
  rw [e] at ih
  have e1:aQ gap (x :: y :: r)=if y.g.dep < x.g.arr + gap then (x :: d') :: l else [x] :: d' :: l:=iB e
  rw [e1] at h
  split at h
  ·rcases List.mem_cons.mp h with rfl | h
   ·simp
   ·exact ih d (List.mem_cons_of_mem _ h)
  ·rcases List.mem_cons.mp h with rfl | h
   ·simp
   ·exact ih d h
theorem cX (gap:Nat):∀ (xs:List LG),(aQ gap xs).flatten=xs
 | []=>rfl
 | [x]=>rfl
 | x :: y :: r=>by
  obtain ⟨d',l,e⟩:=qd gap y r
  have ih:=cX gap (y :: r)
  rw [e] at ih
  have e1:aQ gap (x :: y :: r)=if y.g.dep < x.g.arr + gap then (x :: d') :: l else [x] :: d' :: l:=iB e
  rw [e1]
  split
  ·rw [List.flatten_cons,List.cons_append,<-List.flatten_cons,ih]
  ·rw [List.flatten_cons,ih]
   rfl
theorem jo (gap:Nat):∀ (xs:List LG),(aQ gap xs).length<=xs.length
 | []=>Nat.le_refl _
 | [x]=>Nat.le_refl _
 | x :: y :: r=>by
  obtain ⟨d',l,e⟩:=qd gap y r
  have ih:=jo gap (y :: r)
  rw [e] at ih
  have e1:aQ gap (x :: y :: r)=if y.g.dep < x.g.arr + gap then (x :: d') :: l else [x] :: d' :: l:=iB e
  rw [e1]
  simp only [List.length_cons] at ih ⊢
  split
  ·simp only [List.length_cons]
   omega
  ·simp only [List.length_cons]
   omega
theorem take_snoc {α : Type} {l:List α} {i:Nat} {x : α} (h:l[i]? = some x):l.take (i + 1)=l.take i++[x]:=by
 rw [List.take_add_one,h]
 rfl
theorem sub_one (i:Nat) (h:0 < i):((i:Int) - 1)=((i - 1:Nat):Int):=by omega
section
variable {P:Program} {w:World} {K:PySem.W.Frag} {mg:Str->Option Value} {base:Heap} {C:Ads}
abbrev sJ:Stmt:=top 3
theorem JM:aG ["duty"] ["duty"] (aD sJ):=⟨rfl,rfl,rfl,by decide +kernel,rfl,by decide +kernel,by decide +kernel⟩
def oM (C:Ads):Sp:=fun vs H Q _=>∃ (d dx l:Addr) (b e:Nat),vs=[.ref d]/\H d=some (.ins C.duty dx (Sd l b e))/\Q (.int ((e:Int) - b)) H
theorem J6 {f:Addr} {fd:FuncData} (F:Fun K "length_of" "length_of" sJ f fd) (T:Txt w K mg C):aY P w K mg base CX0 1 f fd ["duty"] (oM C):=by
 refine F.ok JM (fun vs H Q E h=> ?_) (fun cdv A outer s H vs Q E hr h=> ?_)
 ·obtain ⟨_,_,_,_,_,rfl,_⟩:=h
  rfl
 ·obtain ⟨d,dx,l,b,e,rfl,hd,k⟩:=h
  refine ⟨_,(au (aJ (bB d8 (xf (pv 0)) (xf (pv 0))))),?_⟩
  exact ⟨_,rfl,aO hd T.fJ T.Gj rfl ⟨_,rfl,aO hd T.fJ T.vd rfl ⟨_,_,rfl,rfl,k⟩⟩⟩
abbrev pA:Stmt:=top 4
theorem dJ:aG ["rules", "roster", "parts", "k", "leg", "legs"] ["rules", "roster"] (aD pA):=⟨rfl,rfl,rfl,by decide +kernel,rfl,by decide +kernel,by decide +kernel⟩
structure kW (K:PySem.W.Frag) (C:Ads) (H:Hp) (q:Addr) (r:Rules) (ds:List (Addr × List LG)):Prop where
 lst:H q=some (.lst (ds.map fun d=>V.ref d.1))
 at_:∀ d ∈ ds,GJ K C H d.1 r d.2
theorem kW.same {H H':Hp} {q:Addr} {r:Rules} {ds:List (Addr × List LG)} (s:aC H H') (h:kW K C H q r ds):kW K C H' q r ds:=⟨s _ _ h.lst,fun d m=>(h.at_ d m).same s⟩
def lX (K:PySem.W.Frag) (C:Ads):Sp:=fun vs H Q _=>∃ (r l:Addr) (R:Rules) (xs:List LG),vs=[.ref r,.ref l]/\f9 C H r R/\dD K C H l xs/\xs.length<=1000 /\
 ∀ (H':Hp) (q:Addr) (ds:List (Addr × List LG)),aC H H'->kW K C H' q R ds->ds.map (·.2)=aQ R.gap xs->Q (.ref q) H'
structure iC (H0 H:Hp) (q:Addr) (as:List Addr) (ps:List (List LG)):Prop where
 lst:H q=some (.lst (as.map V.ref))
 nd:as.Nodup
 len:as.length=ps.length
 at_:∀ (j:Nat) (a:Addr) (d:List LG),as[j]? = some a->ps[j]? = some d->H a=some (.lst (refs d))/\H0 a=none
 nq:q ∉ as
theorem iC.same {H0 H H':Hp} {q:Addr} {as:List Addr} {ps:List (List LG)} (s:aC H H') (h:iC H0 H q as ps):iC H0 H' q as ps :=
 ⟨s _ _ h.lst,h.nd,h.len,fun j a d e1 e2=>⟨s _ _ (h.at_ j a d e1 e2).1,(h.at_ j a d e1 e2).2⟩,h.nq⟩
theorem iC.new {H0 H:Hp} {q p:Addr} {as:List Addr} {ps:List (List LG)} {x:LG} (h:iC H0 H q as ps) (s0:aC H0 H) (hp:H p=none) :
  iC H0 (upd (upd H p (.lst [.ref x.a])) q (.lst (as.map V.ref++[.ref p]))) q (as++[p]) (ps++[[x]]):=by
 have npq:q ≠ p:=az h.lst hp
 have hin:∀ a ∈ as,∃ d,H a=some (.lst (refs d)):=fun a m=>by
  obtain ⟨j,hj,e⟩:=List.mem_iff_getElem.mp m
  have e1:as[j]? = some a:=by rw [List.getElem?_eq_getElem hj,e]
  have hjp:j < ps.length:=by rw [<-h.len]; exact hj
  exact ⟨_,(h.at_ j a _ e1 (List.getElem?_eq_getElem hjp)).1⟩
 have nin:p ∉ as:=fun m=>by
  obtain ⟨d,e⟩:=hin p m
  rw [hp] at e
  cases e
 refine ⟨by rw [aj,List.map_append]; rfl,?_,by simp [h.len],?_,?_⟩
 ·rw [List.nodup_append]
  exact ⟨h.nd,by simp,fun a ha b hb=>by
   have e:b=p:=by simpa using hb
   subst e
   exact fun q=>nin (q ▸ ha)⟩
 ·intro j a d e1 e2
  by_cases hj:j < as.length
  ·rw [List.getElem?_append_left hj] at e1
   rw [List.getElem?_append_left (by rw [<-h.len]; exact hj)] at e2
   obtain ⟨g1,g2⟩:=h.at_ j a d e1 e2
   have m:a ∈ as:=List.mem_of_getElem? e1
   rw [ak (show a ≠ q from fun z=>h.nq (z ▸ m)),ak (show a ≠ p from fun z=>nin (z ▸ m))]
   exact ⟨g1,g2⟩
  ·have ej:j=as.length:=by
    have q:=(List.getElem?_eq_some_iff.mp e1).1
    simp at q
    omega
   subst ej
   rw [List.getElem?_append_right (Nat.le_refl _)] at e1
   rw [h.len,List.getElem?_append_right (Nat.le_refl _)] at e2
   simp at e1 e2
   subst e1 e2
   rw [ak (Ne.symm npq),aj]
   exact ⟨rfl,s0.free hp⟩
 ·intro m
  rcases List.mem_append.mp m with m | m
  ·exact h.nq m
  ·exact npq (by simpa using m)
theorem iC.more {H0 H:Hp} {q a:Addr} {as:List Addr} {ds:List (List LG)} {d:List LG} {x:LG} (h:iC H0 H q as (ds++[d])) (ha:as.getLast? = some a) :
  H a=some (.lst (refs d))/\H0 a=none/\iC H0 (upd H a (.lst (refs d++[.ref x.a]))) q as (ds++[d++[x]]):=by
 have hl:as.length=ds.length + 1:=by rw [h.len]; simp
 have ea:as[ds.length]? = some a:=by
  rw [List.getLast?_eq_getElem?,hl] at ha
  exact ha
 have ed:(ds++[d])[ds.length]? = some d:=by simp
 obtain ⟨g1,g2⟩:=h.at_ _ a d ea ed
 have nqa:q ≠ a:=fun z=>h.nq (z ▸ List.mem_of_getElem? ea)
 refine ⟨g1,g2,by rw [ak nqa]; exact h.lst,h.nd,by rw [h.len]; simp,fun j b d' e1 e2=> ?_,h.nq⟩
 by_cases hj:j=ds.length
 ·subst hj
  rw [ea] at e1
  cases e1
  simp at e2
  subst e2
  rw [aj]
  refine ⟨?_,g2⟩
  unfold refs
  rw [List.map_append]
  rfl
 ·have hjl:j < ds.length:=by
   have q:=(List.getElem?_eq_some_iff.mp e1).1
   omega
  have nba:b ≠ a:=fun z=>by
   subst z
   obtain ⟨h1,e1'⟩:=List.getElem?_eq_some_iff.mp e1
   obtain ⟨h2,e2'⟩:=List.getElem?_eq_some_iff.mp ea
   exact hj ((List.getElem_inj h.nd).mp (e1'.trans e2'.symm))
  rw [List.getElem?_append_left hjl] at e2
  have q:=h.at_ j b d' e1 (by rw [List.getElem?_append_left hjl]; exact e2)
  rw [ak nba]
  exact q
theorem Hs {f fI:Addr} {fd fdI:FuncData} (F:Fun K "cut_duties" "cut_duties" pA f fd) (T:Txt w K mg C) (Q8:MkI P w K mg base "Duty" C.duty 1 fI fdI ["self", "rules", "legs"] (xK K C)) :
    aY P w K mg base CX0 3 f fd ["rules", "roster"] (lX K C):=by
  refine F.ok dJ (fun vs H Q E h=> ?_) (fun cdv A outer s H vs Q E hr h=> ?_)
  · obtain ⟨_,_,_,_,rfl,_⟩:=h
    rfl
  · obtain ⟨r,l,R,xs,rfl,hR,hL,hlen,k⟩:=h
    refine ⟨_,(ao (bG 2 dJ.nd (aX aq))
      (ao (gq PassesOwn.never rfl (Rz rfl T.d9 (aa (pv 1) aq)) (wO rfl (bA (xg 3 dJ.nd) (bA (xg 4 dJ.nd) fY)))
        (au (cV (PW.pt (Iv (aV vL (pv 3) aB (bh _)) (JW (aV MJ (xf (pv 4)) (bB gr (xf (xl (pv 1) (bB d8 (pv 3) aB))) (xf (pv 0))) (bh _)))))
          (au (xap (pv 2) (aX (aa (pv 4) aq))))
          (au (xap (xl (pv 2) (VP Pr aB)) (pv 4))))))
      (au (aJ (jk (own:=[("legs",5)]) rfl dJ.nd (cR (pv 2)) (bu rfl) (fun _ _ _ _ _=>(xg 5 dJ.nd)) (fun _ _ _ _ _=>cF) (fun _ _ _ _ _=>(jj Q8 (hr.mono (by decide)) (aa (pv 0) (aa (pv 5) aq))))))))),?_⟩
    refine ⟨Nat.zero_le _,fun q hq=> ?_⟩
    have s1:aC H (upd H q (.lst [])):=aC.upd hq
    have sz:1000 < sizeLine:=by decide
    refine ⟨_,rfl,l,_,rfl,s1.seq hL.lst,gw (wkE (K:=K) (a:=l) (xs:=refs xs)) (fun i σ H'=>∃ (v3 v4:Option V) (as:List Addr),σ = [some (.ref r),some (.ref l),some (.ref q),v3,v4,none]/\aC H H'/\iC H H' q as (aQ R.gap (xs.take i)))
      ⟨none,none,[],rfl,s1,⟨aj,List.nodup_nil,rfl,fun j a d e=>by simp at e,by simp⟩⟩ (fun i σ H' _ ⟨_,_,_,_,s5,_⟩=>s5.seq hL.lst) ?_ ?_⟩
    · rintro i v σ H1 H2 hi ⟨v3,v4,as,rfl,s5,B⟩ ⟨t,ps,rfl,ht,rfl,y,hy,rfl⟩
      obtain ⟨x,hx,rfl⟩:=dm hy
      have s6:aC H1 (upd H1 t (.tup [.int (i:Nat),.ref x.a])):=aC.upd ht
      have B6:=B.same s6
      have s56:=s5.trans s6
      refine ⟨t,_,rfl,SqT.of aj,rfl,_,_,rfl,_,_,rfl,rfl,?_⟩
      rw [aM] at hi
      have hzx:(xs.take i).length=i:=by rw [List.length_take]; omega
      have hdl:(aQ R.gap (xs.take i)).length<=1000:=Nat.le_trans (jo _ _) (by omega)
      have hal:as.length<=1000:=by rw [B6.len]; exact hdl
      have newpart:∀ D:Ends,aQ R.gap (xs.take (i + 1))=aQ R.gap (xs.take i)++[[x]]->(∀ (as:List Addr) (H':Hp),aC H H'->iC H H' q as (aQ R.gap (xs.take (i + 1)))->D.nx [some (.ref r),some (.ref l),some (.ref q),some (.int (i:Nat)),some (.ref x.a),none] H') ->
          Rq (tBM K "list" Dn (JD 2) (Ii (tLst (Ii (JD 4) G6)) G6)) D [some (.ref r),some (.ref l),some (.ref q),some (.int (i:Nat)),some (.ref x.a),none] (upd H1 t (.tup [.int (i:Nat),.ref x.a])):=fun D e kk=>by
        refine ⟨_,rfl,.inl ⟨rfl,_,SqL.of B6.lst⟩,_,rfl,(by show 1<=sizeLine; decide),fun p hp=> ?_⟩
        have npq:q ≠ p:=az B6.lst hp
        refine ⟨q,_,_,rfl,rfl,(ak npq).trans B6.lst,(by rw [List.length_map]; omega),?_⟩
        refine kk (as++[p]) _ (fun b o e=> ?_) ?_
        · have e2:=s56 b o e
          rw [ak (fun z=>by subst z; rw [e] at hq; cases hq),ak (az e2 hp)]
          exact e2
        · rw [e]
          exact B6.new s56 hp
      refine ⟨_,rfl,rfl,_,rfl,ite2 (fun hi0=> ?_) (fun hi0=> ?_)⟩
      · have e0:i=0:=by
          have:=of_decide_eq_true hi0
          injection this with q
          omega
        refine bN (newpart _ ?_ fun as' H' a b=>⟨_,_,as',rfl,a,b⟩)
        subst e0
        rw [take_snoc hx]
        rfl
      · have e0:0 < i:=by
          rcases Nat.eq_zero_or_pos i with h | h
          · subst h
            exact absurd rfl hi0
          · exact h
        obtain ⟨y,hy2⟩:∃ y,xs[i - 1]? = some y:=⟨_,List.getElem?_eq_getElem (by omega)⟩
        obtain ⟨xd,xn,gx,_⟩:=hL.at_ x (List.mem_of_getElem? hx)
        obtain ⟨yd,yn,gy,_⟩:=hL.at_ y (List.mem_of_getElem? hy2)
        obtain ⟨rdx,rl,rww,rws,hr1,hr2⟩:=hR
        have et:xs.take i=xs.take (i - 1)++[y]:=by
          have e:i=(i - 1) + 1:=by omega
          rw [e,take_snoc hy2]
          simp
        obtain ⟨ds,d,e1,e2⟩:=yx R.gap y x (xs.take (i - 1))
        rw [<-et] at e1 e2
        rw [<-take_snoc hx] at e2
        refine ⟨_,rfl,aO (s56 _ _ gx) T.bQ T.lB rfl ⟨_,rfl,_,rfl,_,_,rfl,rfl,l,_,_,_,rfl,rfl,s56.seq hL.lst,aK (j:=i - 1) (sub_one i e0) (xV hy2),aO (s56 _ _ gy) T.bQ T.t7 rfl ⟨_,rfl,aO (s56 _ _ hr1) T.cY T.VD rfl ?_⟩⟩⟩
        refine ⟨_,_,rfl,rfl,_,_,rfl,rfl,_,rfl,?_⟩
        by_cases hge:(y.g.arr:Int) + (R.gap:Int)<=(x.g.dep:Int)
        · rw [decide_eq_true hge]
          refine bN (newpart _ ?_ fun as' H' a b=>⟨_,_,as',rfl,a,b⟩)
          rw [e2,if_neg (by omega),e1]
        · rw [decide_eq_false hge]
          rw [if_pos (by omega)] at e2
          rw [e1] at B6
          obtain ⟨a,ha⟩:∃ a,as.getLast? = some a:=by
            have hne:as ≠ []:=by
              intro z
              have q:=B6.len
              rw [z] at q
              simp at q
            exact ⟨_,List.getLast?_eq_some_getLast hne⟩
          have ha2:(as.map V.ref).getLast? = some (.ref a):=by rw [List.getLast?_map,ha]; rfl
          obtain ⟨g1,g2,B7⟩:=B6.more (x:=x) ha
          refine bY ⟨_,rfl,_,rfl,q,_,_,_,rfl,rfl,SqL.of B6.lst,O1 ha2,.inl ⟨rfl,_,SqL.of g1⟩,_,rfl,a,_,_,rfl,rfl,g1,?_,_,_,as,rfl,fun b o e=> ?_,?_⟩
          · rw [aM]
            have hm:d ∈ aQ R.gap (xs.take i):=by rw [e1]; simp
            have hfl:=cX R.gap (xs.take i)
            have hdl2:d.length<=(xs.take i).length:=by
              rw [<-hfl]
              exact List.Sublist.length_le (List.sublist_flatten_of_mem hm)
            omega
          · have e3:=s56 b o e
            rw [ak (fun z=>by subst z; rw [e] at g2; cases g2)]
            exact e3
          · rw [e2]
            exact B7
    · rintro σ H2 ⟨v3,v4,as,rfl,s5,B⟩
      have efull:xs.take (refs xs).length=xs:=by rw [aM,List.take_length]
      rw [efull] at B
      have hal:as.length<=1000:=by rw [B.len]; exact Nat.le_trans (jo _ _) hlen
      refine ⟨_,rfl,q,rfl,⟨_,SqL.of B.lst⟩,fun D hD=>YT (K:=K) (a:=q) (xs:=as.map V.ref) (fun i H'=>aC H2 H'/\∃ ds:List (Addr × List LG),H' D=some (.lst (ds.map fun d=>V.ref d.1)) /\
          (∀ d ∈ ds,∃ dx l',H' d.1=some (.ins C.duty dx (Sd l' (Vbaham.begins R (legs d.2)) (Vbaham.ends R (legs d.2))))/\dD K C H2 l' d.2)/\ds.map (·.2)=(aQ R.gap xs).take i)
        ⟨aC.upd hD,[],aj,(fun d m=>by cases m),rfl⟩ (fun i H' _ ⟨s7,_⟩=>SqL.of (s7 _ _ B.lst)) ?_ ?_⟩
      · rintro i v H3 hi ⟨s7,ds,hdl,hds,eds⟩
        obtain ⟨a,ha,rfl⟩:∃ a,as[i]? = some a/\v=V.ref a:=by
          rw [List.getElem?_map] at hi
          cases e:as[i]? with
          | none=>rw [e] at hi; cases hi
          | some a=>rw [e] at hi; exact ⟨a,rfl,(Option.some.inj hi).symm⟩
        have hil:i < as.length:=(List.getElem?_eq_some_iff.mp ha).1
        obtain ⟨d,hd⟩:∃ d,(aQ R.gap xs)[i]? = some d:=⟨_,List.getElem?_eq_getElem (by rw [<-B.len]; exact hil)⟩
        obtain ⟨g1,g2⟩:=B.at_ i a d ha hd
        have hdm:d ∈ aQ R.gap xs:=List.mem_of_getElem? hd
        have hsub:∀ x ∈ d,x ∈ xs:=fun x hx=>by
          rw [<-cX R.gap xs]
          exact List.mem_flatten.mpr ⟨d,hdm,hx⟩
        have L2':dD K C H2 a d:=⟨SqL.of g1,fun y hy=>(hL.at_ y (hsub y hy)).same s5⟩
        refine ⟨rfl,_,rfl,_,rfl,fun x dx nx nd nex=> ?_⟩
        have s8:aC H3 (upd (upd H3 dx (.own x)) x (.ins C.duty dx [])):=fun b o e=>by
          rw [ak (az e nx),ak (az e nd)]
          exact e
        refine ⟨x,dx,r,a,R,d,rfl,aj,hR.same ((s5.trans s7).trans s8),L2'.same (s7.trans s8),dC _ _ d hdm,fun H4 ⟨dx4,h4⟩ kp=>⟨rfl,?_⟩⟩
        have s9:aC H3 H4:=fun b o e=>kp b o (s8 b o e) (az e nx)
        have nDx:x ≠ D:=fun z=>by rw [<-z,nx] at hdl; cases hdl
        refine ⟨_,s9 _ _ hdl,?_,?_,ds++[(x,d)],?_,?_,?_⟩
        · rw [List.length_map]
          have q:ds.length<=(aQ R.gap xs).length:=by
            have:=congrArg List.length eds
            rw [List.length_map,List.length_take] at this
            omega
          rw [<-B.len] at q
          omega
        · intro b o e
          rw [ak (az e hD)]
          exact s9 _ _ (s7 _ _ e)
        · rw [aj,List.map_append]
          rfl
        · intro d' hd'
          rcases List.mem_append.mp hd' with m | m
          · obtain ⟨dx',l',h1,h2⟩:=hds d' m
            exact ⟨dx',l',by rw [ak (fun z=>fZ hdl h1 z.symm)]; exact s9 _ _ h1,h2⟩
          · have e:d'=(x,d):=by simpa using m
            subst e
            exact ⟨dx4,a,by rw [ak nDx]; exact h4,L2'⟩
        · rw [List.map_append,eds,take_snoc hd]
          rfl
      · rintro H3 ⟨s7,ds,hdl,hds,eds⟩
        rw [List.length_map,B.len,List.take_length] at eds
        refine k H3 D ds (s5.trans s7) ⟨hdl,fun d m=> ?_⟩ eds
        obtain ⟨dx,l',h1,h2⟩:=hds d m
        exact ⟨dx,l',h1,h2.same s7⟩
end
end Crew
namespace Crew
def j5 (st:Int × Int × Int) (p:Nat × Nat):Int × Int × Int :=
 let f:=if (p.1:Int) > st.2.2 + 1 then (p.1:Int) else st.2.1
 let l:=if (p.2:Int) > st.2.2 then (p.2:Int) else st.2.2
 (if l - f + 1 > st.1 then l - f + 1 else st.1,f,l)
def UU (ps:List (Nat × Nat)) (y:Int):Prop:=∃ p ∈ ps,(p.1:Int)<=y/\y<=(p.2:Int)
def U5 (ps:List (Nat × Nat)):Nat:=(ps.map fun p=>p.2 + 1 - p.1).sum
structure RI (ps:List (Nat × Nat)) (g f l:Int):Prop where
 top:∀ p ∈ ps,(p.2:Int)<=l
 fill:∀ y:Int,f<=y->y<=l->UU ps y
 low:¬ UU ps (f - 1)
 below:∀ x m:Int,(∀ y,x<=y->y < x + m->UU ps y)->m<=g
 cur:l - f + 1<=g
 nn:0<=g
 wit:∃ x:Int,∀ y,x<=y->y < x + g->UU ps y
 cnt:g<=(U5 ps:Int)
 fle:∀ s:Int,0<=s->(∀ p ∈ ps,(p.1:Int)<=s)->f<=s
theorem U4 (ps:List (Nat × Nat)) (p:Nat × Nat):U5 (ps++[p])=U5 ps + (p.2 + 1 - p.1):=by
 unfold U5
 rw [List.map_append,List.sum_append]
 simp
theorem d7 (ps:List (Nat × Nat)) (p:Nat × Nat) (y:Int):UU (ps++[p]) y ↔ UU ps y\/((p.1:Int)<=y/\y<=(p.2:Int)):=by
 unfold UU
 constructor
 ·rintro ⟨q,m,h⟩
  rcases List.mem_append.mp m with m | m
  ·exact .inl ⟨q,m,h⟩
  ·have e:q=p:=by simpa using m
   subst e
   exact .inr h
 ·rintro (⟨q,m,h⟩ | h)
  ·exact ⟨q,List.mem_append_left _ m,h⟩
  ·exact ⟨p,by simp,h⟩
theorem RI.start:RI [] 0 0 (-2) where
 top:=fun p m=>by cases m
 fill:=fun y h1 h2=>by omega
 low:=fun ⟨p,m,_⟩=>by cases m
 below:=fun x m h=>by
  by_cases hm:0 < m
  ·obtain ⟨p,mm,_⟩:=h x (Int.le_refl _) (by omega)
   cases mm
  ·omega
 cur:=by decide
 nn:=by decide
 wit:=⟨0,fun y h1 h2=>by omega⟩
 cnt:=by decide
 fle:=fun s h _=>h
theorem RI.step {ps:List (Nat × Nat)} {g f l:Int} {p:Nat × Nat} (h:RI ps g f l) (hp:p.1<=p.2) (hs:∀ q ∈ ps,q.1<=p.1) :
  RI (ps++[p]) (j5 (g,f,l) p).1 (j5 (g,f,l) p).2.1 (j5 (g,f,l) p).2.2:=by
 obtain ⟨s,t⟩:=p
 have hst:s<=t:=hp
 have hfs:f<=s:=h.fle s (by omega) fun q m=>by have:=hs q m; simp at this; omega
 have noU:∀ y:Int,l < y->¬ UU ps y:=fun y hy ⟨q,m,_,h2⟩=>by have:=h.top q m; omega
 have hcnt:=U4 ps (s,t)
 have cur:=h.cur
 have nn:=h.nn
 have cnt:=h.cnt
 by_cases h1:(s:Int) > l + 1
 ·
  have e1:j5 (g,f,l) (s,t)=(if (t:Int) - s + 1 > g then (t:Int) - s + 1 else g,(s:Int),(t:Int)):=by
   unfold j5
   simp only [h1,if_true]
   rw [if_pos (show (t:Int) > l by omega)]
  rw [e1]
  simp only
  generalize hg:(if (t:Int) - s + 1 > g then (t:Int) - s + 1 else g)=g'
  have hg1:g<=g':=by rw [<-hg]; split <;> omega
  have hg2:(t:Int) - s + 1<=g':=by rw [<-hg]; split <;> omega
  refine ⟨?_,?_,?_,?_,by omega,by omega,?_,?_,?_⟩
  ·intro q m
   rcases List.mem_append.mp m with m | m
   ·have:=h.top q m
    omega
   ·have e:q=(s,t):=by simpa using m
    subst e
    exact Int.le_refl _
  ·intro y a b
   exact (d7 ..).mpr (.inr ⟨a,b⟩)
  ·intro q
   rcases (d7 ..).mp q with q | ⟨q,_⟩
   ·exact noU _ (by omega) q
   ·simp only at q
    omega
  ·intro x m hx
   by_cases hm:0 < m
   ·by_cases hx2:x<=l + 1
    ·
     have hend:x + m<=l + 1:=by
      refine Int.not_lt.mp fun hlt=> ?_
      rcases (d7 ..).mp (hx (l + 1) (by omega) (by omega)) with q | ⟨q,_⟩
      ·exact noU _ (by omega) q
      ·simp only at q
       omega
     have:=h.below x m fun y a b=>by
      rcases (d7 ..).mp (hx y a b) with q | ⟨q,_⟩
      ·exact q
      ·simp only at q
       omega
     omega
    ·have a1:(s:Int)<=x/\x<=t:=by
      rcases (d7 ..).mp (hx x (Int.le_refl _) (by omega)) with q | q
      ·exact absurd q (noU _ (by omega))
      ·exact q
     have a2:(s:Int)<=x + m - 1/\x + m - 1<=t:=by
      rcases (d7 ..).mp (hx (x + m - 1) (by omega) (by omega)) with q | q
      ·exact absurd q (noU _ (by omega))
      ·exact q
     omega
   ·omega
  ·by_cases hc:(t:Int) - s + 1 > g
   ·rw [if_pos hc] at hg
    exact ⟨s,fun y a b=>(d7 ..).mpr (.inr ⟨a,by simp only; omega⟩)⟩
   ·rw [if_neg hc] at hg
    obtain ⟨x,hx⟩:=h.wit
    exact ⟨x,fun y a b=>(d7 ..).mpr (.inl (hx y a (by omega)))⟩
  ·rw [hcnt]
   simp only
   rw [<-hg]
   split <;> omega
  ·intro s' h0 hall
   have:=hall (s,t) (by simp)
   exact this
 ·
  generalize hl:(if (t:Int) > l then (t:Int) else l)=l'
  have hl1:l<=l':=by rw [<-hl]; split <;> omega
  have hl2:(t:Int)<=l':=by rw [<-hl]; split <;> omega
  have hl3:l'=l\/l'=t:=by rw [<-hl]; split <;> simp
  have e1:j5 (g,f,l) (s,t)=(if l' - f + 1 > g then l' - f + 1 else g,f,l'):=by
   unfold j5
   simp only [h1,if_false,hl]
  rw [e1]
  simp only
  generalize hg:(if l' - f + 1 > g then l' - f + 1 else g)=g'
  have hg1:g<=g':=by rw [<-hg]; split <;> omega
  have hg2:l' - f + 1<=g':=by rw [<-hg]; split <;> omega
  have hfill:∀ y:Int,f<=y->y<=l'->UU (ps++[(s,t)]) y:=fun y a b=>by
   by_cases hy:y<=l
   ·exact (d7 ..).mpr (.inl (h.fill y a hy))
   ·refine (d7 ..).mpr (.inr ⟨?_,?_⟩)
    ·simp only; omega
    ·simp only; omega
  have hlow:¬ UU (ps++[(s,t)]) (f - 1):=fun q=>by
   rcases (d7 ..).mp q with q | ⟨q,_⟩
   ·exact h.low q
   ·simp only at q
    omega
  refine ⟨?_,hfill,hlow,?_,by omega,by omega,?_,?_,?_⟩
  ·intro q m
   rcases List.mem_append.mp m with m | m
   ·have:=h.top q m
    omega
   ·have e:q=(s,t):=by simpa using m
    subst e
    exact hl2
  ·intro x m hx
   by_cases hm:0 < m
   ·by_cases hx2:f<=x
    ·have:x + m - 1<=l':=by
      rcases (d7 ..).mp (hx (x + m - 1) (by omega) (by omega)) with ⟨q,mq,_,q2⟩ | ⟨_,q2⟩
      ·have:=h.top q mq
       omega
      ·simp only at q2
       omega
     omega
    ·have hend:x + m<=f - 1:=by
      refine Int.not_lt.mp fun hlt=>hlow (hx (f - 1) (by omega) (by omega))
     have:=h.below x m fun y a b=>by
      rcases (d7 ..).mp (hx y a b) with q | ⟨q,_⟩
      ·exact q
      ·simp only at q
       omega
     omega
   ·omega
  ·by_cases hc:l' - f + 1 > g
   ·rw [if_pos hc] at hg
    exact ⟨f,fun y a b=>hfill y a (by omega)⟩
   ·rw [if_neg hc] at hg
    obtain ⟨x,hx⟩:=h.wit
    exact ⟨x,fun y a b=>(d7 ..).mpr (.inl (hx y a (by omega)))⟩
  ·rw [hcnt]
   simp only
   rw [<-hg]
   split <;> omega
  ·intro s' h0 hall
   exact h.fle s' h0 fun q m=>hall q (List.mem_append_left _ m)
theorem RI.all:∀ (rest done:List (Nat × Nat)) (g f l:Int),RI done g f l->(∀ p ∈ rest,p.1<=p.2)->(done++rest).Pairwise (fun p q=>p.1<=q.1) ->
  RI (done++rest) (rest.foldl j5 (g,f,l)).1 (rest.foldl j5 (g,f,l)).2.1 (rest.foldl j5 (g,f,l)).2.2
 | [],done,g,f,l,h,_,_=>by rw [List.append_nil]; exact h
 | p :: rest,done,g,f,l,h,hv,hs=>by
  rw [show done++p :: rest=(done++[p])++rest by simp] at hs ⊢
  have hs1:∀ q ∈ done,q.1<=p.1:=fun q m=>(List.pairwise_append.mp (List.pairwise_append.mp hs).1).2.2 q m p (by simp)
  exact RI.all rest (done++[p]) _ _ _ (h.step (hv p (by simp)) hs1) (fun q m=>hv q (by simp [m])) hs
theorem Ny {l:List Nat} {b:Nat} (h:∀ x ∈ l,x<=b):Vbaham.greatest l<=b:=by
 induction l with
 | nil=>exact Nat.zero_le _
 | cons a l ih =>
  unfold Vbaham.greatest
  have h1:=h a (by simp)
  have h2:=ih fun x m=>h x (by simp [m])
  omega
theorem Nr {l:List Nat} {x:Nat} (h:x ∈ l):x<=Vbaham.greatest l:=by
 induction l with
 | nil=>cases h
 | cons a l ih =>
  unfold Vbaham.greatest
  rcases List.mem_cons.mp h with rfl | m
  ·omega
  ·have:=ih m
   omega
theorem Eh (days:List Nat):∀ (k d j:Nat),j < Vbaham.runFrom days k d->d + j ∈ days
 | 0,d,j,h=>by simp [Vbaham.runFrom] at h
 | k + 1,d,j,h=>by
  unfold Vbaham.runFrom at h
  split at h
  ·rename_i hc
   cases j with
   | zero=>simpa using hc
   | succ j =>
    have:=Eh days k (d + 1) j (by omega)
    rw [show d + (j + 1)=d + 1 + j by omega]
    exact this
  ·omega
theorem Fo (days:List Nat):∀ (k d m:Nat),m<=k->(∀ j,j < m->d + j ∈ days)->m<=Vbaham.runFrom days k d
 | 0,d,m,h,_=>by omega
 | k + 1,d,m,h,hin=>by
  unfold Vbaham.runFrom
  cases m with
  | zero=>exact Nat.zero_le _
  | succ m =>
   have h0:=hin 0 (by omega)
   rw [if_pos (by simpa using h0)]
   have:=Fo days k (d + 1) m (by omega) fun j hj=>by
    have:=hin (j + 1) (by omega)
    rw [show d + 1 + j=d + (j + 1) by omega]
    exact this
   omega
def nA (r:Vbaham.Rules) (d:List Vbaham.Leg):Nat × Nat:=(Vbaham.begins r d / 1440,(Vbaham.ends r d - 1) / 1440)
theorem Fg {r:Vbaham.Rules} {d:List Vbaham.Leg} {y:Nat}:y ∈ Vbaham.daysOf r d ↔ (nA r d).1<=y/\y<=(nA r d).2:=by
 unfold Vbaham.daysOf nA
 rw [List.mem_map]
 constructor
 ·rintro ⟨i,hi,rfl⟩
  rw [List.mem_range] at hi
  simp only
  omega
 ·rintro ⟨h1,h2⟩
  simp only at h1 h2
  exact ⟨y - Vbaham.begins r d / 1440,List.mem_range.mpr (by omega),by omega⟩
theorem Dh (r:Vbaham.Rules) (l:List Vbaham.Leg) (hv:∀ d ∈ Vbaham.duties r.gap l,(nA r d).1<=(nA r d).2) (hs:((Vbaham.duties r.gap l).map (nA r)).Pairwise (fun p q=>p.1<=q.1)) :
  (((Vbaham.duties r.gap l).map (nA r)).foldl j5 (0,0,-2)).1=(Vbaham.longestRun r l:Int):=by
 have R:=RI.all ((Vbaham.duties r.gap l).map (nA r)) [] 0 0 (-2) RI.start (fun p m=>by
  obtain ⟨d,md,rfl⟩:=List.mem_map.mp m
  exact hv d md) (by rw [List.nil_append]; exact hs)
 rw [List.nil_append] at R
 generalize (((Vbaham.duties r.gap l).map (nA r)).foldl j5 (0,0,-2)).1=g at R ⊢
 have hU:∀ y:Nat,UU ((Vbaham.duties r.gap l).map (nA r)) (y:Int) ↔ y ∈ Vbaham.dutyDays r l:=fun y=>by
  unfold UU Vbaham.dutyDays
  rw [List.mem_flatMap]
  constructor
  ·rintro ⟨p,m,h1,h2⟩
   obtain ⟨d,md,rfl⟩:=List.mem_map.mp m
   exact ⟨d,md,Fg.mpr ⟨by omega,by omega⟩⟩
  ·rintro ⟨d,md,h⟩
   obtain ⟨h1,h2⟩:=Fg.mp h
   exact ⟨_,List.mem_map.mpr ⟨d,md,rfl⟩,by omega,by omega⟩
 have hlen:(Vbaham.dutyDays r l).length=U5 ((Vbaham.duties r.gap l).map (nA r)):=by
  unfold Vbaham.dutyDays U5
  rw [List.length_flatMap,List.map_map]
  congr 1
  refine List.map_congr_left fun d md=> ?_
  unfold Vbaham.daysOf nA
  rw [List.length_map,List.length_range]
  rfl
 unfold Vbaham.longestRun
 simp only
 generalize hD:Vbaham.dutyDays r l=days at hU hlen ⊢
 have nn:=R.nn
 have cnt:=R.cnt
 refine Int.le_antisymm ?_ ?_
 ·obtain ⟨x,hx⟩:=R.wit
  by_cases hg:0 < g
  ·have hx0:0<=x:=by
    obtain ⟨p,_,h1,_⟩:=hx x (Int.le_refl _) (by omega)
    omega
   have hin:∀ j:Nat,j < g.toNat->x.toNat + j ∈ days:=fun j hj=>by
    refine (hU _).mp ?_
    have:=hx (x + j) (by omega) (by omega)
    rw [show ((x.toNat + j:Nat):Int)=x + j by omega]
    exact this
   have m0:x.toNat ∈ days:=by have:=hin 0 (by omega); simpa using this
   have:=Fo days (days.length + 1) x.toNat g.toNat (by omega) hin
   have:=Nr (List.mem_map.mpr ⟨x.toNat,m0,rfl⟩:Vbaham.runFrom days (days.length + 1) x.toNat ∈ days.map fun d=>Vbaham.runFrom days (days.length + 1) d)
   omega
  ·omega
 ·have:Vbaham.greatest (days.map fun d=>Vbaham.runFrom days (days.length + 1) d)<=g.toNat:=Ny fun m hm=>by
   obtain ⟨d,md,rfl⟩:=List.mem_map.mp hm
   have:=R.below d (Vbaham.runFrom days (days.length + 1) d) fun y a b=>by
    have hy:=Eh days (days.length + 1) d (y.toNat - d) (by omega)
    have e:((d + (y.toNat - d):Nat):Int)=y:=by omega
    rw [<-e]
    exact (hU _).mpr hy
   omega
  omega
end Crew
namespace Crew
open PySem PySem.Spec PyProof.Rows L2
open Vbaham (Leg Rules Member)
theorem Yq {g f l b t:Int} {p:Nat × Nat} (e1:(p.1:Int)=b) (e2:(p.2:Int)=t):j5 (g,f,l) p =
  (if (if t > l then t else l) - (if b > l + 1 then b else f) + 1 > g then (if t > l then t else l) - (if b > l + 1 then b else f) + 1 else g,if b > l + 1 then b else f,if t > l then t else l):=by
 unfold j5
 simp only [e1,e2]
section
variable {P:Program} {w:World} {K:PySem.W.Frag} {mg:Str->Option Value} {base:Heap} {C:Ads}
abbrev mH:Stmt:=top 5
theorem bK:aG ["duties", "greatest", "first", "last", "duty", "begins"] ["duties"] (aD mH):=⟨rfl,rfl,rfl,by decide +kernel,rfl,by decide +kernel,by decide +kernel⟩
def kh (r:Rules) (ds:List (Addr × List LG)):List (Nat × Nat):=ds.map fun d=>nA r (legs d.2)
def jT (K:PySem.W.Frag) (C:Ads):Sp:=fun vs H Q _=>∃ (q:Addr) (R:Rules) (ds:List (Addr × List LG)),vs=[.ref q]/\kW K C H q R ds/\(∀ d ∈ ds,1<=Vbaham.ends R (legs d.2)) /\
 Q (.int ((kh R ds).foldl j5 (0,0,-2)).1) H
theorem cU {α β : Type} {g : α -> β} {l:List α} {i:Nat} {v : β} (h:(l.map g)[i]? = some v):∃ x,l[i]? = some x/\v=g x:=by
 rw [List.getElem?_map] at h
 cases e:l[i]? with
 | none=>rw [e] at h; cases h
 | some x=>rw [e] at h; exact ⟨x,rfl,(Option.some.inj h).symm⟩
theorem Es {f:Addr} {fd:FuncData} (F:Fun K "longest_run" "longest_run" mH f fd) (T:Txt w K mg C):aY P w K mg base CX0 1 f fd ["duties"] (jT K C):=by
  refine F.ok bK (fun vs H Q E h=> ?_) (fun cdv A outer s H vs Q E hr h=> ?_)
  · obtain ⟨_,_,_,rfl,_⟩:=h
    rfl
  · obtain ⟨q,R,ds,rfl,hD,hpos,k⟩:=h
    refine ⟨_,(ao (bG 1 bK.nd aB)
      (ao (bG 2 bK.nd aB)
      (ao (bG 3 bK.nd (VP Pr aB))
      (ao (gq PassesOwn.never rfl (cR (pv 0)) (xg 4 bK.nd)
        (ao (bG 5 bK.nd (bB RL (xf (pv 4)) (bC rfl T.NK)))
        (ao (cV (aV qJ (pv 5) (bB gr (pv 3) aB) (bh _))
          (au (bG 2 bK.nd (pv 5)))
          bD)
        (ao (bG 3 bK.nd (aW (jQ rfl) (by rfl) T.Bk GQ (aa (pv 3) (aa (bB RL (bB d8 (xf (pv 4)) aB) (bC rfl T.NK)) aq))))
        (au (bG 1 bK.nd (aW (jQ rfl) (by rfl) T.Bk GQ (aa (pv 1) (aa (bB gr (bB d8 (pv 3) (pv 2)) aB) aq)))))))))
      (au (aJ (pv 1))))))),?_⟩
    refine ⟨_,rfl,?_⟩
    refine ⟨_,rfl,q,rfl,⟨_,SqL.of hD.lst⟩,gw (wkL (K:=K) (a:=q) (xs:=ds.map fun d=>V.ref d.1)) (fun i σ H'=>H'=H/\∃ v4 v5:Option V,σ = [some (.ref q),some (.int (((kh R ds).take i).foldl j5 (0,0,-2)).1),some (.int (((kh R ds).take i).foldl j5 (0,0,-2)).2.1),some (.int (((kh R ds).take i).foldl j5 (0,0,-2)).2.2),v4,v5])
      ⟨rfl,none,none,rfl⟩ (fun i σ H' _ ⟨e,_⟩=>by rw [e]; exact SqL.of hD.lst) ?_ ?_⟩
    · rintro i v σ H1 H2 hi ⟨rfl,v4,v5,rfl⟩ ⟨rfl,hv⟩
      obtain ⟨d,hd,rfl⟩:=cU hv
      obtain ⟨dx,l,g1,_⟩:=hD.at_ d (List.mem_of_getElem? hd)
      have hp:=hpos d (List.mem_of_getElem? hd)
      have hdp:(kh R ds)[i]? = some (nA R (legs d.2)):=by unfold kh; rw [List.getElem?_map,hd]; rfl
      have est:((kh R ds).take (i + 1)).foldl j5 (0,0,-2)=j5 (((kh R ds).take i).foldl j5 (0,0,-2)) (nA R (legs d.2)):=by
        rw [take_snoc hdp,List.foldl_append]
        rfl
      generalize ((kh R ds).take i).foldl j5 (0,0,-2)=st at est ⊢
      obtain ⟨gg,ff,ll⟩:=st
      have e1:((nA R (legs d.2)).1:Int)=(Vbaham.begins R (legs d.2):Int) / 1440:=by unfold nA; simp only; omega
      have e2:((nA R (legs d.2)).2:Int)=((Vbaham.ends R (legs d.2):Int) - 1) / 1440:=by unfold nA; simp only; omega
      rw [Yq e1 e2] at est
      refine ⟨_,rfl,aO g1 T.fJ T.vd rfl ⟨_,_,rfl,rfl,⟨by decide,by decide⟩,?_⟩⟩
      refine ⟨_,rfl,_,rfl,_,_,rfl,rfl,_,_,rfl,rfl,_,rfl,ite2 (fun hc=> ?_) (fun hc=> ?_)⟩
      · have hc:=of_decide_eq_true hc
        refine ⟨_,rfl,_,rfl,_,rfl,aO g1 T.fJ T.Gj rfl ⟨_,_,rfl,rfl,_,_,rfl,rfl,⟨by decide,by decide⟩,_,_,rfl,?_⟩⟩
        refine ⟨_,rfl,_,rfl,_,rfl,_,_,rfl,rfl,_,_,rfl,rfl,_,_,rfl,rfl,some (.ref d.1),some (.int ((Vbaham.begins R (legs d.2):Int) / 1440)),?_⟩
        rw [if_pos hc] at est
        rw [est]
        rfl
      · have hc:¬ _:=fun z=>hc (decide_eq_true z)
        refine ⟨_,rfl,_,rfl,aO g1 T.fJ T.Gj rfl ⟨_,_,rfl,rfl,_,_,rfl,rfl,⟨by decide,by decide⟩,_,_,rfl,?_⟩⟩
        refine ⟨_,rfl,_,rfl,_,rfl,_,_,rfl,rfl,_,_,rfl,rfl,_,_,rfl,rfl,some (.ref d.1),some (.int ((Vbaham.begins R (legs d.2):Int) / 1440)),?_⟩
        rw [if_neg hc] at est
        rw [est]
        rfl
    · rintro σ H2 ⟨rfl,v4,v5,rfl⟩
      have e:(kh R ds).take (ds.map fun d=>V.ref d.1).length=kh R ds:=by
        rw [List.length_map,show ds.length=(kh R ds).length by unfold kh; rw [List.length_map],List.take_length]
      rw [e]
      exact ⟨_,rfl,k⟩
end
theorem pM {α β : Type} (f : α -> β):∀ {l1 l2:List β},l1.Perm l2->∀ xs:List α,l2=xs.map f->∃ ys:List α,ys.Perm xs/\l1=ys.map f:=by
 intro l1 l2 h
 induction h with
 | nil =>
  intro xs e
  cases xs with
  | nil=>exact ⟨[],.nil,rfl⟩
  | cons a b=>cases e
 | cons a h ih =>
  intro xs e
  cases xs with
  | nil=>cases e
  | cons x xs =>
   rw [List.map_cons] at e
   injection e with e1 e2
   obtain ⟨ys,p,q⟩:=ih xs e2
   exact ⟨x :: ys,p.cons x,by rw [List.map_cons,e1,q]⟩
 | swap a b l =>
  intro xs e
  match xs,e with
  | x :: y :: xs,e =>
   rw [List.map_cons,List.map_cons] at e
   injection e with e1 e2
   injection e2 with e2 e3
   exact ⟨y :: x :: xs,.swap ..,by rw [List.map_cons,List.map_cons,e1,e2,e3]⟩
 | trans h1 h2 ih1 ih2 =>
  intro xs e
  obtain ⟨ys,p,q⟩:=ih2 xs e
  obtain ⟨zs,p2,q2⟩:=ih1 ys q
  exact ⟨zs,p2.trans p,q2⟩
theorem gB {α β : Type} (g : α -> β):∀ (xs:List α),(List.range xs.length).filterMap (fun i=>(xs[i]?).map g)=xs.map g:=by
 intro xs
 have key:∀ (n:Nat),n<=xs.length->(List.range n).filterMap (fun i=>(xs[i]?).map g)=(xs.take n).map g:=by
  intro n
  induction n with
  | zero=>intro _; rfl
  | succ n ih =>
   intro h
   have e:xs[n]? = some (xs[n]'(by omega)):=List.getElem?_eq_getElem (by omega)
   rw [jb,ih (by omega),take_snoc e,List.map_append,e]
   rfl
 have k:=key xs.length (Nat.le_refl _)
 rw [List.take_length] at k
 exact k
def ordG (x y:LG):Prop:=x.g.dep < y.g.dep\/(x.g.dep=y.g.dep/\x.p<=y.p)
def vy (xs:List LG):Nat:=((legs xs).map fun g=>g.arr - g.dep).sum
theorem Rr (f:LG->Nat) (g:LG->Int):∀ xs:List LG,(∀ x ∈ xs,g x=(f x:Int))->(xs.map g).sum=((xs.map f).sum:Int)
 | [],_=>rfl
 | x :: xs,h=>by
  rw [List.map_cons,List.map_cons,List.sum_cons,List.sum_cons,h x (by simp),Rr f g xs fun y m=>h y (by simp [m])]
  omega
section
variable {P:Program} {w:World} {K:PySem.W.Frag} {mg:Str->Option Value} {base:Heap} {C:Ads}
abbrev ig:Stmt:=top 13
theorem wF:aG ["leg"] ["leg"] (aD ig):=⟨rfl,rfl,rfl,by decide +kernel,rfl,by decide +kernel,by decide +kernel⟩
def gh (C:Ads):Sp:=fun vs H Q _=>∃ (a:Addr) (p:Nat) (g:Leg),vs=[.ref a]/\fV C H a p g/\∀ (t:Addr) (H':Hp),aC H H'->H' t=some (.tup [.int g.dep,.int p])->Q (.ref t) H'
theorem wR {f:Addr} {fd:FuncData} (F:Fun K "departure_order" "departure_order" ig f fd) (T:Txt w K mg C):aY P w K mg base CX0 1 f fd ["leg"] (gh C):=by
 refine F.ok wF (fun vs H Q E h=> ?_) (fun cdv A outer s H vs Q E hr h=> ?_)
 ·obtain ⟨_,_,_,rfl,_⟩:=h
  rfl
 ·obtain ⟨a,p,g,rfl,⟨dx,nd,h1,h2⟩,k⟩:=h
  refine ⟨_,(au (aJ (z6 (aa (xf (pv 0)) (aa (xf (pv 0)) aq))))),?_⟩
  refine ⟨_,rfl,aO h1 T.bQ T.lB rfl ⟨_,rfl,aO h1 T.bQ T.yg rfl ⟨(by show 2<=sizeLine; decide),fun t ht=> ?_⟩⟩⟩
  exact k t _ (aC.upd ht) aj
abbrev wI:Stmt:=top 14
theorem Mh:aG ["legs"] ["legs"] (aD wI):=⟨rfl,rfl,rfl,by decide +kernel,rfl,by decide +kernel,by decide +kernel⟩
def lr (K:PySem.W.Frag) (C:Ads):Sp:=fun vs H Q _=>∃ (l:Addr) (xs:List LG),vs=[.ref l]/\dD K C H l xs /\
 ∀ (H':Hp) (q:Addr) (ys:List LG),aC H H'->H' q=some (.lst (refs ys))->ys.Perm xs->ys.Pairwise ordG->Q (.ref q) H'
theorem MT {f fo:Addr} {fd fdo:FuncData} (F:Fun K "in_order" "in_order" wI f fd) (T:Txt w K mg C) (cZ:FnI P w K mg base "departure_order" 1 fo fdo ["leg"] (gh C)) :
  aY P w K mg base CX0 4 f fd ["legs"] (lr K C):=by
 refine F.ok Mh (fun vs H Q E h=> ?_) (fun cdv A outer s H vs Q E hr h=> ?_)
 ·obtain ⟨_,_,rfl,_⟩:=h
  rfl
 ·obtain ⟨l,xs,rfl,hL,k⟩:=h
  refine ⟨_,(au (aJ (z8 Ow rfl T.n6 uQ (aa (pv 0) aq) (pL (dz rfl cZ.mgr) wN)))),?_⟩
  refine ⟨_,rfl,l,fo,refs xs,xs.map (fun x=>[(x.g.dep:Int),(x.p:Int)]),1,fdo,["leg"],gh C,rfl,rfl,hL.lst,by rw [aM,List.length_map],fun z m=> ?_,cZ.ok,hr,cZ.bd,?_,?_⟩
  ·obtain ⟨x,_,rfl⟩:=List.mem_map.mp m
   exact (by decide:0 < 2)
  ·intro i v z h1 h2 H' Kr sm kk
   obtain ⟨x,hx,rfl⟩:=dm h1
   obtain ⟨x',hx',rfl⟩:=cU h2
   rw [hx] at hx'
   cases hx'
   exact ⟨x.a,x.p,x.g,rfl,(hL.at_ x (List.mem_of_getElem? hx)).same sm,fun t H'' a b=>kk t H'' a b⟩
  ·intro ys zs p H' sm hp hq hperm hsort eys
   have ez:(xs.map (fun x=>[(x.g.dep:Int),(x.p:Int)])).zip (refs xs)=xs.map fun x=>([(x.g.dep:Int),(x.p:Int)],V.ref x.a):=by
    unfold refs
    rw [List.zip_map']
   rw [ez] at hperm
   obtain ⟨gs,pg,eg⟩:=pM _ hperm xs rfl
   subst eg
   rw [List.map_map] at eys
   subst eys
   refine k H' p gs sm hq pg ?_
   rw [List.pairwise_map] at hsort
   refine hsort.imp fun {x y} h=> ?_
   have q:=lex2 h
   unfold ordG
   omega
abbrev o6:Stmt:=top 12
theorem lZ:aG ["legs", "leg"] ["legs"] (aD o6):=⟨rfl,rfl,rfl,by decide +kernel,rfl,by decide +kernel,by decide +kernel⟩
def lU (K:PySem.W.Frag) (C:Ads):Sp:=fun vs H Q _=>∃ (l:Addr) (xs:List LG),vs=[.ref l]/\dD K C H l xs/\xs.length<=1000/\(∀ x ∈ xs,x.g.dep<=x.g.arr)/\∀ H':Hp,aC H H'->Q (.int (vy xs)) H'
theorem Hk {f:Addr} {fd:FuncData} (F:Fun K "minutes_of" "minutes_of" o6 f fd) (T:Txt w K mg C):aY P w K mg base CX0 1 f fd ["legs"] (lU K C):=by
 refine F.ok lZ (fun vs H Q E h=> ?_) (fun cdv A outer s H vs Q E hr h=> ?_)
 ·obtain ⟨_,_,rfl,_⟩:=h
  rfl
 ·obtain ⟨l,xs,rfl,hL,hlen,hv,k⟩:=h
  refine ⟨_,(au (aJ (aW (abA rfl) (by rfl) T.Z6 B_sum (aa (jk (own:=[("leg",1)]) rfl lZ.nd (cR (pv 0)) (bu rfl) (fun _ _ _ _ _=>(xg 1 lZ.nd)) (fun _ _ _ _ _=>cF) (fun _ _ _ _ _=>(bB d8 (kf K (pv 1)) (kf K (pv 1))))) aq)))),?_⟩
  have sz:1000 < sizeLine:=by decide
  refine ⟨_,rfl,l,rfl,⟨_,hL.lst⟩,fun D hD=>eE (wkL (K:=K) (a:=l) (xs:=refs xs)) (fun H H' h s=>s.seq h) hL.lst (by rw [aM]; omega) hD (fun i=>(xs[i]?).map fun x=>V.int ((x.g.arr:Int) - x.g.dep)) ?_ ?_⟩
  ·rintro i v H1 H2 Kt Kf hi sm ⟨rfl,hv2⟩ kt kf
   obtain ⟨x,hx,rfl⟩:=dm hv2
   obtain ⟨dx,nd,g1,_⟩:=(hL.at_ x (List.mem_of_getElem? hx)).same sm
   refine ⟨rfl,_,rfl,aO g1 T.bQ T.t7 rfl ⟨_,rfl,aO g1 T.bQ T.lB rfl ⟨_,_,rfl,rfl,kt _ _ ?_ (aC.refl _)⟩⟩⟩
   rw [hx]
   rfl
  ·intro H1 sm hl
   have e:(List.range (refs xs).length).filterMap (fun i=>(xs[i]?).map fun x=>V.int ((x.g.arr:Int) - x.g.dep))=(xs.map fun x=>(x.g.arr:Int) - x.g.dep).map V.int:=by
    rw [aM,List.map_map]
    exact gB _ xs
   rw [e] at hl
   refine ⟨D,_,rfl,SqL.of hl,?_⟩
   rw [Rr (fun x=>x.g.arr - x.g.dep) _ xs fun x m=>by have:=hv x m; omega]
   have em:vy xs=(xs.map fun x=>x.g.arr - x.g.dep).sum:=by unfold vy legs; rw [List.map_map]; rfl
   rw [<-em]
   exact k H1 sm
end
end Crew
namespace Crew
open Vbaham (Leg)
def cM (ms:List Int) (p:Int):Int:=(ms.map fun m=>if m < p then p - m else 0).sum
theorem Vt {l1 l2:List Int} (h:l1.Perm l2):l1.sum=l2.sum:=by
 induction h with
 | nil=>rfl
 | cons a _ ih=>rw [List.sum_cons,List.sum_cons,ih]
 | swap a b l=>simp only [List.sum_cons]; omega
 | trans _ _ h1 h2=>exact h1.trans h2
theorem DX {l1 l2:List Int} (h:l1.Perm l2) (p:Int):cM l1 p=cM l2 p:=Vt (h.map _)
theorem rP (a b:List Int):(a++b).sum=a.sum + b.sum:=by
 induction a with
 | nil=>simp
 | cons x a ih=>rw [List.cons_append,List.sum_cons,List.sum_cons,ih]; omega
theorem Mf {ms:List Int} {k:Nat} {p:Int} (hk:k<=ms.length) (h1:∀ m ∈ ms.take k,m < p) (h2:∀ m ∈ ms.drop k,¬ m < p):cM ms p=(k:Int) * p - (ms.take k).sum:=by
 have e:cM ms p=cM (ms.take k) p + cM (ms.drop k) p:=by
  unfold cM
  rw [<-rP,<-List.map_append,List.take_append_drop]
 have e2:cM (ms.drop k) p=0:=by
  unfold cM
  generalize ms.drop k=l at h2
  induction l with
  | nil=>rfl
  | cons a l ih =>
   rw [List.map_cons,List.sum_cons,ih (fun m hm=>h2 m (by simp [hm])),if_neg (h2 a (by simp))]
   rfl
 have e1:∀ (l:List Int),(∀ m ∈ l,m < p)->cM l p=(l.length:Int) * p - l.sum:=fun l=>by
  induction l with
  | nil=>intro _; simp [cM]
  | cons a l ih =>
   intro h
   have ih':=ih fun m hm=>h m (by simp [hm])
   unfold cM at ih' ⊢
   rw [List.map_cons,List.sum_cons,ih',if_pos (h a (by simp)),List.length_cons,List.sum_cons]
   have:((l.length + 1:Nat):Int) * p=(l.length:Int) * p + p:=by
    rw [show ((l.length + 1:Nat):Int)=(l.length:Int) + 1 by omega,Int.add_mul,Int.one_mul]
   rw [this]
   omega
 rw [e,e2,e1 _ h1,List.length_take,Nat.min_eq_left hk]
 omega
def Oq (l:List Leg):List Int:=l.map fun g=>(g.dep:Int)
def O2 (l:List Leg):List Int:=l.map fun g=>(g.arr:Int)
def je (l:List Leg) (p:Int):Int:=cM (Oq l) p - cM (O2 l) p
theorem lG (l:List Leg) (t w:Nat) (hv:∀ g ∈ l,g.dep<=g.arr):je l ((t:Int) + w) - je l t=(Vbaham.flown l t w:Int):=by
 induction l with
 | nil=>rfl
 | cons g l ih =>
  have ih':=ih fun x hx=>hv x (by simp [hx])
  have hg:=hv g (by simp)
  have e1:∀ p:Int,je (g :: l) p=((if (g.dep:Int) < p then p - g.dep else 0) - (if (g.arr:Int) < p then p - g.arr else 0)) + je l p:=fun p=>by
   unfold je cM Oq O2
   simp only [List.map_cons,List.sum_cons]
   omega
  have e2:Vbaham.flown (g :: l) t w=Vbaham.common g.dep g.arr t (t + w) + Vbaham.flown l t w:=by
   unfold Vbaham.flown
   rw [List.map_cons,List.sum_cons]
  rw [e1,e1,e2]
  have e3:((if (g.dep:Int) < (t:Int) + w then (t:Int) + w - g.dep else 0) - (if (g.arr:Int) < (t:Int) + w then (t:Int) + w - g.arr else 0)) - ((if (g.dep:Int) < (t:Int) then (t:Int) - g.dep else 0) - (if (g.arr:Int) < (t:Int) then (t:Int) - g.arr else 0))=(Vbaham.common g.dep g.arr t (t + w):Int):=by
   unfold Vbaham.common
   split <;> split <;> split <;> split <;> omega
  omega
theorem greatest_le' {l:List Nat} {b:Nat} (h:∀ x ∈ l,x<=b):Vbaham.greatest l<=b:=by
 induction l with
 | nil=>exact Nat.zero_le _
 | cons a l ih =>
  unfold Vbaham.greatest
  have h1:=h a (by simp)
  have h2:=ih fun x m=>h x (by simp [m])
  omega
theorem le_greatest' {l:List Nat} {x:Nat} (h:x ∈ l):x<=Vbaham.greatest l:=by
 induction l with
 | nil=>cases h
 | cons a l ih =>
  unfold Vbaham.greatest
  rcases List.mem_cons.mp h with rfl | m
  ·omega
  ·have:=ih m
   omega
def lM (l:List Leg) (w:Nat):List Nat:=(l.map fun g=>g.dep)++l.map fun g=>g.arr - w
theorem Vl (l:List Leg) (w:Nat):Vbaham.worst l w=Vbaham.greatest ((lM l w).map fun t=>Vbaham.flown l t w):=by
 unfold Vbaham.worst lM
 rw [List.map_append,List.map_map,List.map_map]
 rfl
theorem S8 {l:List Leg} {w:Nat} {ns:List Nat} {m:Nat} (hp:ns.Perm (lM l w)) (hm:m ∈ ns.map fun t=>Vbaham.flown l t w) (hle:∀ y ∈ ns.map (fun t=>Vbaham.flown l t w),y<=m):m=Vbaham.worst l w:=by
 rw [Vl]
 have hp2:=hp.map fun t=>Vbaham.flown l t w
 exact Nat.le_antisymm (le_greatest' (hp2.mem_iff.mp hm)) (greatest_le' fun x hx=>hle x (hp2.mem_iff.mpr hx))
theorem S7 (w:Nat):Vbaham.worst [] w=0:=rfl
end Crew
namespace Crew
open PySem PySem.Spec PyProof.Rows L2
open Vbaham (Leg Rules Member)
def aU (l:List Int):List V:=l.map V.int
theorem iQ {l:List Int} {i:Nat} {v:V} (h:(aU l)[i]? = some v):∃ z,l[i]? = some z/\v = .int z:=cU h
theorem Nt {l:List Int} {i:Nat} {z:Int} (h:l[i]? = some z):(aU l)[i]? = some (.int z):=by unfold aU; rw [List.getElem?_map,h]; rfl
theorem bw (l:List Int):(aU l).length=l.length:=by unfold aU; rw [List.length_map]
section
variable {P:Program} {w:World} {K:PySem.W.Frag} {mg:Str->Option Value} {base:Heap} {C:Ads}
abbrev jw:Stmt:=top 16
theorem bR:aG ["moments", "points", "sums", "passed", "total", "point"] ["moments", "points"] (aD jw):=⟨rfl,rfl,rfl,by decide +kernel,rfl,by decide +kernel,by decide +kernel⟩
def nT (K:PySem.W.Frag):Sp:=fun vs H Q _=>∃ (a b:Addr) (ms ps:List Int),vs=[.ref a,.ref b]/\SqL K H a (aU ms)/\SqL K H b (aU ps)/\ms.length<=1000/\ps.length<=1000/\ms.Pairwise (· <= ·)/\ps.Pairwise (· <= ·) /\
 ∀ (H':Hp) (q:Addr),aC H H'->H' q=some (.lst (aU (ps.map (cM ms))))->Q (.ref q) H'
def aa0 (n:Nat) (σ : List (Option V)) (_:Hp):Nat:=match σ[3]? with
 | some (some (V.int k))=>n - k.toNat
 | _=>0
theorem Ad {f:Addr} {fd:FuncData} (F:Fun K "minutes_since" "minutes_since" jw f fd) (T:Txt w K mg C):aY P w K mg base CX0 1 f fd ["moments", "points"] (nT K):=by
  refine F.ok bR (fun vs H Q E h=> ?_) (fun cdv A outer s H vs Q E hr h=> ?_)
  · obtain ⟨_,_,_,_,rfl,_⟩:=h
    rfl
  · obtain ⟨a,b,ms,ps,rfl,hA,hB,la,lb,sa,sb,k⟩:=h
    refine ⟨_,(ao (bG 2 bR.nd (aX aq))
      (ao (bG 3 bR.nd aB)
      (ao (bG 4 bR.nd aB)
      (ao (gq PassesOwn.never rfl (cR (pv 1)) (xg 5 bR.nd)
        (ao (Mv PassesOwn.never (PW.pt (Qa (aV xX (pv 3) (aW bf (by rfl) T.iG PySem.boot_len (aa (pv 0) aq)) (bh _)) (JX (aV xX (xl (pv 0) (pv 3)) (pv 5) (bh _)))))
          (ao (VL (i:=4) bR.nd rfl (Or.inl rfl) (xl (pv 0) (pv 3)) Wv)
          (au (VL (i:=3) bR.nd rfl (Or.inl rfl) aB Wv))))
        (au (xap (pv 2) (bB d8 (bB aaS (pv 3) (pv 5)) (pv 4))))))
      (au (aJ (pv 2))))))),?_⟩
    have sz:1000 < sizeLine:=by decide
    refine ⟨Nat.zero_le _,fun q hq=> ?_⟩
    have s1:aC H (upd H q (.lst [])):=aC.upd hq
    refine ⟨_,rfl,b,rfl,⟨_,s1.seq hB⟩,gw (wkL (K:=K) (a:=b) (xs:=aU ps)) (fun i σ H'=>∃ (v5:Option V) (n:Nat),σ = [some (.ref a),some (.ref b),some (.ref q),some (.int (n:Int)),some (.int (ms.take n).sum),v5]/\aC H H' /\
        H' q=some (.lst (aU ((ps.take i).map (cM ms))))/\n<=ms.length/\∀ m ∈ ms.take n,∀ p ∈ ps.drop i,m < p)
      ⟨none,0,rfl,s1,aj,Nat.zero_le _,fun m hm=>by simp at hm⟩ (fun i σ H' _ ⟨_,_,_,s5,_⟩=>s5.seq hB) ?_ ?_⟩
    · rintro i v σ H1 H2 hi ⟨v5,n,rfl,s5,hq1,hn,hlt⟩ ⟨rfl,hv⟩
      obtain ⟨p,hp,rfl⟩:=iQ hv
      rw [bw] at hi
      have hdrop:ps.drop i=p :: ps.drop (i + 1):=by
        rw [List.drop_eq_getElem_cons hi]
        congr 1
        exact (List.getElem?_eq_some_iff.mp hp).2
      refine Lq (fun σ H'=>H'=H2/\∃ n:Nat,σ = [some (.ref a),some (.ref b),some (.ref q),some (.int (n:Int)),some (.int (ms.take n).sum),some (.int p)]/\n<=ms.length/\∀ m ∈ ms.take n,m < p) (aa0 ms.length)
        ⟨rfl,n,rfl,hn,fun m hm=>hlt m hm p (by rw [hdrop]; simp)⟩ ?_ ?_
      · rintro σ H3 ⟨rfl,n,rfl,hn,hlt⟩
        have out:(∀ m ∈ ms.drop n,¬ m < p)->Rq (tBM K "list" Dn (JD 2) (Ii (tOp (rI0 fun i j=> .int (i - j)) (tOp (rI Z0 fun i j=> .int (i * j)) (JD 3) (JD 5)) (JD 4)) G6))
            { nx:=fun σ H'=>∃ (v5:Option V) (n:Nat),σ = [some (.ref a),some (.ref b),some (.ref q),some (.int (n:Int)),some (.int (ms.take n).sum),v5]/\aC H H'/\H' q=some (.lst (aU ((ps.take (i + 1)).map (cM ms))))/\n<=ms.length/\∀ m ∈ ms.take n,∀ p ∈ ps.drop (i + 1),m < p,
              ct:=fun σ H'=>∃ (v5:Option V) (n:Nat),σ = [some (.ref a),some (.ref b),some (.ref q),some (.int (n:Int)),some (.int (ms.take n).sum),v5]/\aC H H'/\H' q=some (.lst (aU ((ps.take (i + 1)).map (cM ms))))/\n<=ms.length/\∀ m ∈ ms.take n,∀ p ∈ ps.drop (i + 1),m < p,
              bk:=tRet (JD 2) { nx:=fun _ H'=>Q .non H',rt:=Q },rt:=Q }
            [some (.ref a),some (.ref b),some (.ref q),some (.int (n:Int)),some (.int (ms.take n).sum),some (.int p)] H3:=fun hge=>by
          refine ⟨_,rfl,.inl ⟨rfl,_,SqL.of hq1⟩,_,rfl,_,rfl,_,_,rfl,rfl,.inl ⟨by omega,by omega⟩,_,rfl,_,_,rfl,rfl,q,_,_,rfl,rfl,hq1,?_,?_⟩
          · rw [bw,List.length_map,List.length_take]
            omega
          · refine ⟨_,n,rfl,fun b' o e=> ?_,?_,hn,fun m hm p' hp'=> ?_⟩
            · rw [ak (az e hq)]
              exact s5 b' o e
            · rw [aj,take_snoc hp,List.map_append]
              have e:cM ms p=(n:Int) * p - (ms.take n).sum:=Mf hn hlt hge
              show some (HO.lst (aU (List.map (cM ms) (ps.take i))++[V.int ((n:Int) * p - (ms.take n).sum)]))=_
              rw [<-e]
              unfold aU
              rw [List.map_append]
              rfl
            · have h1:=hlt m hm
              have hsort:(ps.drop i).Pairwise (· <= ·):=sb.sublist (List.drop_sublist _ _)
              rw [hdrop,List.pairwise_cons] at hsort
              have:=hsort.1 p' hp'
              omega
        refine ⟨_,rfl,_,rfl,a,_,rfl,.inl (s5.seq hA),_,_,rfl,rfl,_,rfl,?_⟩
        by_cases hlen:n < ms.length
        · rw [decide_eq_true (by rw [bw]; omega)]
          obtain ⟨m,hm⟩:∃ m,ms[n]? = some m:=⟨_,List.getElem?_eq_getElem hlen⟩
          refine bN ⟨_,rfl,_,rfl,a,_,_,_,rfl,rfl,s5.seq hA,aK (j:=n) rfl (Nt hm),_,rfl,_,_,rfl,rfl,_,rfl,?_⟩
          by_cases hmp:m < p
          · rw [decide_eq_true hmp]
            refine bN ⟨_,rfl,_,rfl,_,rfl,a,_,_,_,rfl,rfl,s5.seq hA,aK (j:=n) rfl (Nt hm),_,_,rfl,rfl,_,rfl,_,_,rfl,rfl,⟨rfl,n + 1,?_,by omega,?_⟩,?_⟩
            · rw [take_snoc hm,rP]
              simp
            · intro m' hm'
              rw [take_snoc hm] at hm'
              rcases List.mem_append.mp hm' with h | h
              · exact hlt m' h
              · have e:m'=m:=by simpa using h
                rw [e]
                exact hmp
            · show ms.length - ((n:Int) + 1).toNat < ms.length - (n:Int).toNat
              omega
          · rw [decide_eq_false hmp]
            refine bY (out fun m' hm'=> ?_)
            have hd:ms.drop n=m :: ms.drop (n + 1):=by
              rw [List.drop_eq_getElem_cons hlen]
              congr 1
              exact (List.getElem?_eq_some_iff.mp hm).2
            have hsort:(ms.drop n).Pairwise (· <= ·):=sa.sublist (List.drop_sublist _ _)
            rw [hd] at hm' hsort
            rw [List.pairwise_cons] at hsort
            rcases List.mem_cons.mp hm' with h | h
            · rw [h]
              exact hmp
            · have:=hsort.1 m' h
              omega
        · rw [decide_eq_false (by rw [bw]; omega)]
          refine bY (bY (out fun m' hm'=> ?_))
          rw [List.drop_eq_nil_of_le (by omega)] at hm'
          cases hm'
      · rintro σ H3 Q1 Q2 hQ ⟨v1,e1,⟨v2,e2,p1,ys,e3,hs,i1,i2,e4,e5,b1,e6,h⟩⟩
        refine ⟨v1,e1,⟨v2,e2,p1,ys,e3,hs,i1,i2,e4,e5,b1,e6,?_⟩⟩
        cases b1 with
        | false =>
          simp only [Bool.false_eq_true,if_false] at h ⊢
          exact hQ _ _ h
        | true =>
          simp only [if_true] at h ⊢
          obtain ⟨v3,e7,v4,e8,p2,xs2,i3,vv,e9,e10,hs2,hat,v5,e11,i4,i5,e12,e13,b2,e14,h2⟩:=h
          exact ⟨v3,e7,v4,e8,p2,xs2,i3,vv,e9,e10,hs2,hat,v5,e11,i4,i5,e12,e13,b2,e14,hQ _ _ h2⟩
    · rintro σ H2 ⟨v5,n,rfl,s5,hq1,hn,hlt⟩
      rw [bw,List.take_length] at hq1
      exact ⟨_,rfl,k H2 q s5 hq1⟩
end
theorem max0w (a b:Nat):(if ((a:Int) - (b:Int)) > 0 then ((a:Int) - (b:Int)) else 0)=((a - b:Nat):Int):=by
 split <;> omega
section
variable {P:Program} {w:World} {K:PySem.W.Frag} {mg:Str->Option Value} {base:Heap} {C:Ads}
abbrev mK:Stmt:=top 17
theorem gQ:aG ["greater", "lesser", "more", "less"] ["greater", "lesser"] (aD mK):=⟨rfl,rfl,rfl,by decide +kernel,rfl,by decide +kernel,by decide +kernel⟩
def jU (K:PySem.W.Frag):Sp:=fun vs H Q _=>∃ (a b:Addr) (xs ys:List Int),vs=[.ref a,.ref b]/\SqL K H a (aU xs)/\SqL K H b (aU ys)/\xs.length=ys.length/\xs.length<=1000 /\
 ∀ (H':Hp) (q:Addr),aC H H'->H' q=some (.lst (aU ((xs.zip ys).map fun p=>p.1 - p.2)))->Q (.ref q) H'
theorem Eu {f:Addr} {fd:FuncData} (F:Fun K "differences" "differences" mK f fd) (T:Txt w K mg C):aY P w K mg base CX0 1 f fd ["greater", "lesser"] (jU K):=by
 refine F.ok gQ (fun vs H Q E h=> ?_) (fun cdv A outer s H vs Q E hr h=> ?_)
 ·obtain ⟨_,_,_,_,rfl,_⟩:=h
  rfl
 ·obtain ⟨a,b,xs,ys,rfl,hA,hB,hl,hn,k⟩:=h
  refine ⟨_,(au (aJ (jk (own:=[("more",2),("less",3)]) rfl gQ.nd (VM rfl T.Ff (aa (pv 0) (aa (pv 1) aq))) (bu rfl) (fun _ _ _ _ _=>(kgt K 2 rfl (bA (xg 2 gQ.nd) (bA (xg 3 gQ.nd) fY)))) (fun _ _ _ _ _=>cF) (fun _ _ _ _ _=>(bB d8 (pv 2) (pv 3)))))),?_⟩
  have sz:1000 < sizeLine:=by decide
  refine ⟨_,rfl,_,rfl,a,b,_,_,rfl,hA,hB,fun D hD=>eE (wkZ (K:=K) (a:=a) (b:=b) (xs:=aU xs) (ys:=aU ys)) (fun H H' h s=>⟨s.seq h.1,s.seq h.2⟩) ⟨hA,hB⟩ (by rw [bw,bw]; omega) hD (fun i=>((xs.zip ys)[i]?).map fun p=>V.int (p.1 - p.2)) ?_ ?_⟩
  ·rintro i v H1 H2 Kt Kf hi sm ⟨t,ps,rfl,ht,rfl,x,y,hx,hy,rfl⟩ kt kf
   obtain ⟨x',hx',rfl⟩:=iQ hx
   obtain ⟨y',hy',rfl⟩:=iQ hy
   refine ⟨t,_,rfl,SqT.of aj,rfl,_,_,rfl,_,_,rfl,rfl,rfl,_,rfl,_,rfl,_,_,rfl,rfl,kt _ _ ?_ (aC.upd ht)⟩
   rw [List.getElem?_zip_eq_some (z:=(x',y')) |>.mpr ⟨hx',hy'⟩]
   rfl
  ·intro H1 sm hl1
   have e:min (aU xs).length (aU ys).length=(xs.zip ys).length:=by rw [bw,bw,List.length_zip]
   rw [e,gB] at hl1
   refine k H1 D sm ?_
   rw [hl1]
   unfold aU
   rw [List.map_map]
   rfl
abbrev j4:Stmt:=top 18
theorem cA:aG ["legs", "points", "leg", "since_departures", "since_arrivals"] ["legs", "points"] (aD j4):=⟨rfl,rfl,rfl,by decide +kernel,rfl,by decide +kernel,by decide +kernel⟩
def jq (K:PySem.W.Frag) (C:Ads):Sp:=fun vs H Q _=>∃ (a b:Addr) (xs:List LG) (ps:List Int),vs=[.ref a,.ref b]/\dD K C H a xs/\SqL K H b (aU ps)/\xs.length<=500/\ps.length<=1000/\ps.Pairwise (· <= ·) /\
 ∀ (H':Hp) (q:Addr),aC H H'->H' q=some (.lst (aU (ps.map (je (legs xs)))))->Q (.ref q) H'
theorem Dg {f fm fdi:Addr} {fd fdm fdd:FuncData} (F:Fun K "flown_before" "flown_before" j4 f fd) (T:Txt w K mg C) (gb:FnI P w K mg base "minutes_since" 1 fm fdm ["moments", "points"] (nT K))
    (dX:FnI P w K mg base "differences" 1 fdi fdd ["greater", "lesser"] (jU K)):aY P w K mg base CX0 2 f fd ["legs", "points"] (jq K C):=by
  refine F.ok cA (fun vs H Q E h=> ?_) (fun cdv A outer s H vs Q E hr h=> ?_)
  · obtain ⟨_,_,_,_,rfl,_⟩:=h
    rfl
  · obtain ⟨a,b,xs,ps,rfl,hA,hB,hl,hn,hs,k⟩:=h
    refine ⟨_,(ao (bG 3 cA.nd (aH gb (hr.mono (by decide)) (aa (aW wZ (by rfl) T.n6 uQ (aa (jk (own:=[("leg",2)]) rfl cA.nd (cR (pv 0)) (bu rfl) (fun _ _ _ _ _=>(xg 2 cA.nd)) (fun _ _ _ _ _=>cF) (fun _ _ _ _ _=>(kf K (pv 2)))) aq)) (aa (pv 1) aq))))
      (ao (bG 4 cA.nd (aH gb (hr.mono (by decide)) (aa (aW wZ (by rfl) T.n6 uQ (aa (jk (own:=[("leg",2)]) rfl cA.nd (cR (pv 0)) (bu rfl) (fun _ _ _ _ _=>(xg 2 cA.nd)) (fun _ _ _ _ _=>cF) (fun _ _ _ _ _=>(kf K (pv 2)))) aq)) (aa (pv 1) aq))))
      (au (aJ (aH dX (hr.mono (by decide)) (aa (pv 3) (aa (pv 4) aq))))))),?_⟩
    have sz:1000 < sizeLine:=by decide
    refine ⟨_,rfl,a,rfl,⟨_,hA.lst⟩,fun D hD=>eE (wkL (K:=K) (a:=a) (xs:=refs xs)) (fun H H' h s=>s.seq h) hA.lst (by rw [aM]; omega) hD (fun i=>(xs[i]?).map fun x=>V.int (x.g.dep:Int)) ?_ ?_⟩
    · rintro i v H1 H2 Kt Kf hi sm ⟨rfl,hv2⟩ kt kf
      obtain ⟨x,hx,rfl⟩:=dm hv2
      obtain ⟨dx,nd,g1,_⟩:=(hA.at_ x (List.mem_of_getElem? hx)).same sm
      refine ⟨rfl,_,rfl,aO g1 T.bQ T.lB rfl (kt _ _ ?_ (aC.refl _))⟩
      rw [hx]
      rfl
    intro H1 s1 hl1
    have e1:(List.range (refs xs).length).filterMap (fun i=>(xs[i]?).map fun x=>V.int (x.g.dep:Int))=(Oq (legs xs)).map V.int:=by
      rw [aM,gB]
      unfold Oq legs
      rw [List.map_map,List.map_map]
      rfl
    rw [e1] at hl1
    refine ⟨D,_,rfl,SqL.of hl1,fun ns p hp1 hp2 hpn=> ?_⟩
    have s2:aC H (upd H1 p (.lst (ns.map V.int))):=s1.trans (aC.upd hpn)
    refine ⟨_,rfl,p,b,ns,ps,rfl,SqL.of aj,s2.seq hB,?_,hn,hp2,hs,fun H3 q3 s3 h3=> ?_⟩
    · rw [hp1.length_eq]
      unfold Oq legs
      rw [List.length_map,List.length_map]
      omega
    have s03:aC H H3:=s2.trans s3
    refine ⟨_,rfl,a,rfl,⟨_,s03.seq hA.lst⟩,fun D2 hD2=>eE (wkL (K:=K) (a:=a) (xs:=refs xs)) (fun H H' h s=>s.seq h) (s03.seq hA.lst) (by rw [aM]; omega) hD2 (fun i=>(xs[i]?).map fun x=>V.int (x.g.arr:Int)) ?_ ?_⟩
    · rintro i v H4 H5 Kt Kf hi sm ⟨rfl,hv2⟩ kt kf
      obtain ⟨x,hx,rfl⟩:=dm hv2
      obtain ⟨dx,nd,g1,_⟩:=(hA.at_ x (List.mem_of_getElem? hx)).same (s03.trans sm)
      refine ⟨rfl,_,rfl,aO g1 T.bQ T.t7 rfl (kt _ _ ?_ (aC.refl _))⟩
      rw [hx]
      rfl
    intro H4 s4 hl4
    have e4:(List.range (refs xs).length).filterMap (fun i=>(xs[i]?).map fun x=>V.int (x.g.arr:Int))=(O2 (legs xs)).map V.int:=by
      rw [aM,gB]
      unfold O2 legs
      rw [List.map_map,List.map_map]
      rfl
    rw [e4] at hl4
    refine ⟨D2,_,rfl,SqL.of hl4,fun ns4 p4 hp41 hp42 hpn4=> ?_⟩
    have s5:aC H3 (upd H4 p4 (.lst (ns4.map V.int))):=s4.trans (aC.upd hpn4)
    refine ⟨_,rfl,p4,b,ns4,ps,rfl,SqL.of aj,(s03.trans s5).seq hB,?_,hn,hp42,hs,fun H6 q6 s6 h6=> ?_⟩
    · rw [hp41.length_eq]
      unfold O2 legs
      rw [List.length_map,List.length_map]
      omega
    refine ⟨_,rfl,_,rfl,q3,q6,_,_,rfl,SqL.of ((s5.trans s6) _ _ h3),SqL.of h6,by rw [List.length_map,List.length_map],by rw [List.length_map]; omega,fun H7 q7 s7 h7=> ?_⟩
    refine k H7 q7 ((s03.trans s5).trans (s6.trans s7)) ?_
    rw [h7]
    congr 2
    rw [List.zip_map',List.map_map]
    congr 1
    refine List.map_congr_left fun p hp=> ?_
    show cM ns p - cM ns4 p=je (legs xs) p
    unfold je
    rw [DX hp1,DX hp41]
abbrev oZ:Stmt:=top 20
theorem cJ:aG ["legs", "w", "leg", "begins", "begin", "ends"] ["legs", "w"] (aD oZ):=⟨rfl,rfl,rfl,by decide +kernel,rfl,by decide +kernel,by decide +kernel⟩
def lR (K:PySem.W.Frag) (C:Ads):Sp:=fun vs H Q _=>∃ (a:Addr) (xs:List LG) (n:Nat),vs=[.ref a,.int n]/\dD K C H a xs/\xs.length<=100/\(∀ x ∈ xs,x.g.dep<=x.g.arr) /\
 ∀ H':Hp,aC H H'->Q (.int (Vbaham.worst (legs xs) n)) H'
theorem Hh {f fm fdi:Addr} {fd fdm fdd:FuncData} (F:Fun K "most_flown" "most_flown" oZ f fd) (T:Txt w K mg C) (cP:FnI P w K mg base "flown_before" 2 fm fdm ["legs", "points"] (jq K C))
    (dX:FnI P w K mg base "differences" 1 fdi fdd ["greater", "lesser"] (jU K)):aY P w K mg base CX0 3 f fd ["legs", "w"] (lR K C):=by
  refine F.ok cJ (fun vs H Q E h=> ?_) (fun cdv A outer s H vs Q E hr h=> ?_)
  · obtain ⟨_,_,_,rfl,_⟩:=h
    rfl
  · obtain ⟨a,xs,n,rfl,hA,hl,hv,k⟩:=h
    refine ⟨_,(ao (bG 3 cJ.nd (aW wZ (by rfl) T.n6 uQ (aa (bB jz (jk (own:=[("leg",2)]) rfl cJ.nd (cR (pv 0)) (bu rfl) (fun _ _ _ _ _=>(xg 2 cJ.nd)) (fun _ _ _ _ _=>cF) (fun _ _ _ _ _=>(kf K (pv 2)))) (jk (own:=[("leg",2)]) rfl cJ.nd (cR (pv 0)) (bu rfl) (fun _ _ _ _ _=>(xg 2 cJ.nd)) (fun _ _ _ _ _=>cF) (fun _ _ _ _ _=>(aW (jQ rfl) (by rfl) T.Bk GQ (aa aB (aa (bB d8 (kf K (pv 2)) (pv 1)) aq)))))) aq)))
      (ao (ji (i:=5) (own:=[("begin",4)]) rfl cJ.nd rfl rfl (kZ rfl rfl rfl rfl) (cR (pv 3)) (bu rfl) (fun _ _ _ _ _=>(xg 4 cJ.nd)) (fun _ _ _ _ _=>cF) (fun _ _ _ _ _=>(bB gr (pv 4) (pv 1))))
      (au (aJ (z8 (ZP rfl) rfl T.Bk GQ (aa (aH dX (hr.mono (by decide)) (aa (aH cP (hr.mono (by decide)) (aa (pv 0) (aa (pv 5) aq))) (aa (aH cP (hr.mono (by decide)) (aa (pv 0) (aa (pv 3) aq))) aq))) aq) (pL aB wN)))))),?_⟩
    have sz:1000 < sizeLine:=by decide
    refine ⟨_,rfl,a,rfl,⟨_,hA.lst⟩,fun D hD=>eE (wkL (K:=K) (a:=a) (xs:=refs xs)) (fun H H' h s=>s.seq h) hA.lst (by rw [aM]; omega) hD (fun i=>(xs[i]?).map fun x=>V.int (x.g.dep:Int)) ?_ ?_⟩
    · rintro i v H1 H2 Kt Kf hi sm ⟨rfl,hv2⟩ kt kf
      obtain ⟨x,hx,rfl⟩:=dm hv2
      obtain ⟨dx,nd,g1,_⟩:=(hA.at_ x (List.mem_of_getElem? hx)).same sm
      refine ⟨rfl,_,rfl,aO g1 T.bQ T.lB rfl (kt _ _ ?_ (aC.refl _))⟩
      rw [hx]
      rfl
    intro H1 s1 hl1
    rw [aM,gB] at hl1
    refine ⟨_,rfl,a,rfl,⟨_,s1.seq hA.lst⟩,fun D2 hD2=>eE (wkL (K:=K) (a:=a) (xs:=refs xs)) (fun H H' h s=>s.seq h) (s1.seq hA.lst) (by rw [aM]; omega) hD2 (fun i=>(xs[i]?).map fun x=>V.int ((x.g.arr - n:Nat):Int)) ?_ ?_⟩
    · rintro i v H4 H5 Kt Kf hi sm ⟨rfl,hv2⟩ kt kf
      obtain ⟨x,hx,rfl⟩:=dm hv2
      obtain ⟨dx,nd,g1,_⟩:=(hA.at_ x (List.mem_of_getElem? hx)).same (s1.trans sm)
      refine ⟨rfl,_,rfl,aO g1 T.bQ T.t7 rfl ⟨_,rfl,_,_,rfl,rfl,_,_,rfl,kt _ _ ?_ (aC.refl _)⟩⟩
      rw [hx,max0w]
      rfl
    intro H2 s2 hl2
    rw [aM,gB] at hl2
    have s02:aC H H2:=s1.trans s2
    refine ⟨D,D2,_,_,rfl,rfl,s2 _ _ hl1,hl2,by rw [List.length_map,List.length_map]; omega,fun p0 hp0=> ?_⟩
    have eb:(xs.map fun x=>V.int (x.g.dep:Int))++(xs.map fun x=>V.int ((x.g.arr - n:Nat):Int))=((lM (legs xs) n).map fun (t:Nat)=>(t:Int)).map V.int:=by
      unfold lM legs
      simp only [List.map_append,List.map_map]
      rfl
    rw [eb]
    refine ⟨p0,_,rfl,SqL.of aj,fun ns p hp1 hp2 hpn=> ?_⟩
    obtain ⟨bs,hbs,rfl⟩:=pM _ hp1 _ rfl
    have lbs:bs.length<=200:=by
      rw [hbs.length_eq]
      unfold lM legs
      simp only [List.length_append,List.length_map]
      omega
    generalize hH3:upd (upd H2 p0 (.lst (((lM (legs xs) n).map fun (t:Nat)=>(t:Int)).map V.int))) p (.lst ((bs.map fun (t:Nat)=>(t:Int)).map V.int))=H3
    have s03:aC H H3:=by
      rw [<-hH3]
      exact (s02.trans (aC.upd hp0)).trans (aC.upd hpn)
    have hp3:H3 p=some (.lst (aU (bs.map fun (t:Nat)=>(t:Int)))):=by rw [<-hH3]; exact aj
    refine ⟨_,rfl,p,rfl,⟨_,SqL.of hp3⟩,fun D3 hD3=>eE (wkL (K:=K) (a:=p) (xs:=aU (bs.map fun (t:Nat)=>(t:Int)))) (fun H H' h s=>s.seq h) (SqL.of hp3) (by rw [bw,List.length_map]; omega) hD3 (fun i=>(bs[i]?).map fun (t:Nat)=>V.int ((t:Int) + n)) ?_ ?_⟩
    · rintro i v H4 H5 Kt Kf hi sm ⟨rfl,hv2⟩ kt kf
      obtain ⟨z,hz,rfl⟩:=iQ hv2
      obtain ⟨t,ht,rfl⟩:=cU hz
      refine ⟨rfl,_,rfl,_,rfl,_,_,rfl,rfl,kt _ _ ?_ (aC.refl _)⟩
      rw [ht]
      rfl
    intro H4 s4 hl4
    rw [bw,List.length_map,gB] at hl4
    have e4:(bs.map fun (t:Nat)=>V.int ((t:Int) + n))=aU (bs.map fun (t:Nat)=>(t:Int) + n):=by unfold aU; rw [List.map_map]; rfl
    rw [e4] at hl4
    have s04:=s03.trans s4
    have pw:(bs.map fun (t:Nat)=>(t:Int) + n).Pairwise (· <= ·):=by
      rw [List.pairwise_map] at hp2 ⊢
      exact hp2.imp fun h=>by omega
    refine ⟨_,rfl,_,rfl,a,D3,xs,_,rfl,hA.same s04,SqL.of hl4,by omega,by rw [List.length_map]; omega,pw,fun H5 q5 s5 h5=> ?_⟩
    refine ⟨_,rfl,_,rfl,a,p,xs,_,rfl,hA.same (s04.trans s5),SqL.of ((s4.trans s5) _ _ hp3),by omega,by rw [List.length_map]; omega,hp2,fun H6 q6 s6 h6=> ?_⟩
    refine ⟨q5,q6,_,_,rfl,SqL.of (s6 _ _ h5),SqL.of h6,by simp only [List.length_map],by simp only [List.length_map]; omega,fun H7 q7 s7 h7=> ?_⟩
    have ef:((((bs.map fun (t:Nat)=>(t:Int) + n).map (je (legs xs))).zip ((bs.map fun (t:Nat)=>(t:Int)).map (je (legs xs)))).map fun p=>p.1 - p.2)=(bs.map fun t=>Vbaham.flown (legs xs) t n).map fun (m:Nat)=>(m:Int):=by
      rw [List.map_map,List.map_map,List.zip_map',List.map_map,List.map_map]
      refine List.map_congr_left fun t ht=> ?_
      exact lG (legs xs) t n fun g hg=>by
        obtain ⟨x,hx,rfl⟩:=List.mem_map.mp hg
        exact hv x hx
    rw [ef] at h7
    have s07:aC H H7:=(s04.trans s5).trans (s6.trans s7)
    refine ⟨q7,_,0,rfl,rfl,SqL.of h7,fun h0=> ?_,fun m hm hle=> ?_⟩
    · have e0:bs=[]:=by
        cases bs with
        | nil=>rfl
        | cons _ _=>cases h0
      rw [e0] at hbs
      have e1:legs xs=[]:=by
        have:=hbs.length_eq
        unfold lM at this
        rw [List.length_append,List.length_map,List.length_map] at this
        simp only [List.length_nil] at this
        exact List.eq_nil_of_length_eq_zero (by omega)
      have:=k H7 s07
      rw [e1,S7] at this
      exact this
    · obtain ⟨m',hm',rfl⟩:=List.mem_map.mp hm
      have e:=S8 hbs hm' fun y hy=>by
        have:=hle y (List.mem_map.mpr ⟨y,hy,rfl⟩)
        omega
      rw [e]
      exact k H7 s07
end
end Crew
namespace L2
open PySem PySem.Spec PyProof.Rows
def Sx (s:Addr) (H H':Hp):Prop:=∀ b o,H b=some o->b ≠ s->H' b=some o
theorem Sx.upd {s:Addr} {H H':Hp} {o:HO} (h:Sx s H H'):Sx s H (upd H' s o):=fun b u e hb=>by rw [ak hb]; exact h b u e hb
theorem Sx.same {s:Addr} {H H1 H2:Hp} (h:Sx s H H1) (q:aC H1 H2):Sx s H H2:=fun b u e hb=>q b u (h b u e hb)
theorem Sx.refl (s:Addr) (H:Hp):Sx s H H:=fun _ _ e _=>e
theorem SqL.sx {K:PySem.W.Frag} {H H':Hp} {l s C dx:Addr} {xs:List V} {fs:List (Str × V)} (h:SqL K H l xs) (hs:H s=some (.ins C dx fs)) (q:Sx s H H'):SqL K H' l xs:=by
 rcases h with (h | ⟨u,h⟩) | h
 ·exact .inl (.inl (q _ _ h (fZ h hs)))
 ·exact .inl (.inr ⟨u,q _ _ h (by rintro rfl; rw [h] at hs; cases hs)⟩)
 ·exact .inr h
end L2
namespace Crew
open PySem PySem.Spec PyProof.Rows L2
open Vbaham (Leg Rules Member)
theorem fV.sx {C:Ads} {H H':Hp} {a s Cx dx:Addr} {p:Nat} {g:Leg} (h:fV C H a p g) (hs:H s=some (.ins Cx dx [])) (q:Sx s H H'):fV C H' a p g:=by
 obtain ⟨dx,nd,h1,h2⟩:=h
 exact ⟨dx,nd,q _ _ h1 (ye h1 hs),q _ _ h2 (fZ h2 hs)⟩
theorem f9.sx {C:Ads} {H H':Hp} {a s Cx dx:Addr} {r:Rules} (h:f9 C H a r) (hs:H s=some (.ins Cx dx [])) (q:Sx s H H'):f9 C H' a r:=by
 obtain ⟨dx,l,w,ws,h1,h2,h3,h4,h5⟩:=h
 exact ⟨dx,l,w,ws,q _ _ h1 (ye h1 hs),q _ _ h2 (fZ h2 hs),q _ _ h3 (fZ h3 hs),h4,fun i b p e1 e2=>q _ _ (h5 i b p e1 e2) (RP (h5 i b p e1 e2) hs)⟩
theorem dD.sx {K:PySem.W.Frag} {C:Ads} {H H':Hp} {l s Cx dx:Addr} {xs:List LG} (h:dD K C H l xs) (hs:H s=some (.ins Cx dx [])) (q:Sx s H H'):dD K C H' l xs :=
 ⟨h.lst.sx hs q,fun x m=>(h.at_ x m).sx hs q⟩
def Z4 (r:Addr) (b:Nat) (ro du:Addr):List (Str × V):=[("rules",.ref r),("base",.int b),("roster",.ref ro),("duties",.ref du)]
structure abI (K:PySem.W.Frag) (C:Ads) (H:Hp) (R:Rules) (ys:List LG) (ds:List (Addr × List LG)) (r ro du:Addr):Prop where
 rules:f9 C H r R
 ros:H ro=some (.lst (refs ys))
 lg:nF C H ys
 dut:kW K C H du R ds
 cut:ds.map (·.2)=aQ R.gap ys
def Gq (K:PySem.W.Frag) (C:Ads) (H:Hp) (a:Addr) (R:Rules) (b:Nat) (ys:List LG) (ds:List (Addr × List LG)):Prop:=∃ dx r ro du,H a=some (.ins C.vp dx (Z4 r b ro du))/\abI K C H R ys ds r ro du
theorem Gq.same {K:PySem.W.Frag} {C:Ads} {H H':Hp} {a:Addr} {R:Rules} {b:Nat} {ys:List LG} {ds:List (Addr × List LG)} (s:aC H H') (h:Gq K C H a R b ys ds):Gq K C H' a R b ys ds:=by
 obtain ⟨dx,r,ro,du,h1,h2⟩:=h
 exact ⟨dx,r,ro,du,s _ _ h1,h2.rules.same s,s _ _ h2.ros,h2.lg.same s,h2.dut.same s,h2.cut⟩
section
variable {P:Program} {w:World} {K:PySem.W.Frag} {mg:Str->Option Value} {base:Heap} {C:Ads}
abbrev sI:Stmt:=inClass (top 22) 0
theorem JL:aG ["self", "rules", "base", "legs"] ["self", "rules", "base", "legs"] (aD sI):=⟨rfl,rfl,rfl,by decide +kernel,rfl,by decide +kernel,by decide +kernel⟩
def xG (K:PySem.W.Frag) (C:Ads):Sp:=fun vs H Q _=>∃ (s dx r l:Addr) (b:Nat) (R:Rules) (xs:List LG),vs=[.ref s,.ref r,.int b,.ref l]/\H s=some (.ins C.vp dx [])/\f9 C H r R/\dD K C H l xs/\xs.length<=1000 /\
 ∀ (H':Hp) (ys:List LG) (ds:List (Addr × List LG)),Gq K C H' s R b ys ds->Sx s H H'->ys.Perm xs->ys.Pairwise ordG->Q .non H'
theorem J5 {f fi fc:Addr} {fd fdi fdc:FuncData} (F:Fun K "__init__" "Plan.__init__" sI f fd) (T:Txt w K mg C) (dG:FnI P w K mg base "in_order" 4 fi fdi ["legs"] (lr K C))
    (eZ:FnI P w K mg base "cut_duties" 3 fc fdc ["rules", "roster"] (lX K C)):aY P w K mg base CX0 5 f fd ["self", "rules", "base", "legs"] (xG K C):=by
  refine F.ok JL (fun vs H Q E h=> ?_) (fun cdv A outer s H vs Q E hr h=> ?_)
  · obtain ⟨_,_,_,_,_,_,_,rfl,_⟩:=h
    rfl
  · obtain ⟨s,dx,r,l,b,R,xs,rfl,hs,hR,hL,hlen,k⟩:=h
    refine ⟨_,(ao (xst (pv 0) (pv 1))
      (ao (xst (pv 0) (pv 2))
      (ao (xst (pv 0) (aH dG (hr.mono (by decide)) (aa (pv 3) aq)))
      (au (xst (pv 0) (aH eZ (hr.mono (by decide)) (aa (pv 1) (aa (xf (pv 0)) aq)))))))),?_⟩
    refine ⟨_,rfl,_,rfl,s,_,_,_,rfl,hs,T.dY,T.pN,(by show 0 < 1000; decide),?_⟩
    refine ⟨_,rfl,_,rfl,s,_,_,_,rfl,aj,T.dY,T.Qg,(by show 1 < 1000; decide),?_⟩
    rw [cQ]
    have x1:=(Sx.refl s H).upd (o:= .ins C.vp dx (dw "base" (.int b) (dw "rules" (.ref r) [])))
    refine ⟨_,rfl,l,xs,rfl,hL.sx hs x1,fun H2 q ys s2 hq hp hsort=> ?_⟩
    have x2:=x1.same s2
    have hs2:=s2 _ _ (aj (H:=H) (a:=s) (o:= .ins C.vp dx (dw "base" (.int b) (dw "rules" (.ref r) []))))
    refine ⟨_,rfl,s,_,_,_,rfl,hs2,T.dY,T.nZ,(by show 2 < 1000; decide),?_⟩
    have x3:=x2.upd (o:= .ins C.vp dx (dw "roster" (.ref q) (dw "base" (.int b) (dw "rules" (.ref r) []))))
    have nq:q ≠ s:=fZ hq hs2
    have hq3:(upd H2 s (.ins C.vp dx (dw "roster" (.ref q) (dw "base" (.int b) (dw "rules" (.ref r) []))))) q=some (.lst (refs ys)):=(ak nq).trans hq
    have hlg:nF C H ys:=fun y m=>hL.at_ y (hp.mem_iff.mp m)
    have hlg3:nF C (upd H2 s (.ins C.vp dx (dw "roster" (.ref q) (dw "base" (.int b) (dw "rules" (.ref r) []))))) ys:=fun y m=>(hlg y m).sx hs x3
    refine ⟨_,rfl,_,rfl,aO aj T.dY T.nZ rfl ⟨r,q,R,ys,rfl,hR.sx hs x3,⟨SqL.of hq3,hlg3⟩,by rw [hp.length_eq]; exact hlen,fun H4 q4 ds s4 h4 ecut=> ?_⟩⟩
    have hs4:=s4 _ _ (aj (H:=H2) (a:=s) (o:= .ins C.vp dx (dw "roster" (.ref q) (dw "base" (.int b) (dw "rules" (.ref r) [])))))
    refine ⟨_,rfl,s,_,_,_,rfl,hs4,T.dY,T.tW,(by show 3 < 1000; decide),?_⟩
    have x5:=(x3.same s4).upd (o:= .ins C.vp dx (Z4 r b q q4))
    refine k _ ys ds ⟨dx,r,q,q4,aj,hR.sx hs x5,(ak nq).trans (s4 _ _ hq3),fun y m=>(hlg y m).sx hs x5,⟨(ak (fZ h4.lst hs4)).trans h4.lst,fun d m=> ?_⟩,ecut⟩ x5 hp hsort
    obtain ⟨ddx,dl,g1,g2⟩:=h4.at_ d m
    have hsub:∀ x ∈ d.2,x ∈ ys:=fun x hx=>by
      rw [<-cX R.gap ys,<-ecut]
      exact List.mem_flatten.mpr ⟨d.2,List.mem_map.mpr ⟨d,m,rfl⟩,hx⟩
    have nds:d.1 ≠ s:=fun z=>by
      rw [z,hs4] at g1
      injection g1 with e
      injection e with _ _ e2
      injection e2 with e3 e4
      injection e3 with e5 e6
      exact absurd e5 (by decide)
    refine ⟨ddx,dl,(ak nds).trans g1,?_,fun x hx=>(hlg x (hsub x hx)).sx hs x5⟩
    exact g2.lst.Yg hs4
end
structure OkG (R:Rules) (ys:List LG):Prop where
 len:ys.length<=100
 val:∀ y ∈ ys,y.g.dep < y.g.arr
 ord:ys.Pairwise ordG
 lon:R.longest.length=8
 win:R.windows.length<=4
def num (o:Option Nat):V:= .int ((o.getD 0:Nat):Int)
abbrev Lk:=Rules->Nat->List Leg->Option Nat
def oR (K:PySem.W.Frag) (C:Ads) (F:Lk):Sp:=fun vs H Q _=>∃ (a:Addr) (R:Rules) (b:Nat) (ys:List LG) (ds:List (Addr × List LG)),vs=[.ref a]/\Gq K C H a R b ys ds/\OkG R ys /\
 ∀ H':Hp,aC H H'->Q (num (F R b (legs ys))) H'
def F1:Lk:=fun _ b l=>Vbaham.wrongPlace b 1 l
def F2:Lk:=fun R _ l=>Vbaham.wrongTurn R.turn 1 l
def F3:Lk:=fun R _ l=>Vbaham.wrongDuty R 1 (Vbaham.duties R.gap l)
def F4:Lk:=fun R _ l=>Vbaham.wrongRest R 1 (Vbaham.duties R.gap l)
def F5:Lk:=fun R _ l=>Vbaham.wrongWindow l 1 R.windows
def F6:Lk:=fun R _ l=>Vbaham.wrongDays R l
theorem Rk (a n:Nat) (x:Leg) (r:List Leg):Vbaham.wrongPlace a n (x :: r)=if x.from_ ≠ a then some n else Vbaham.wrongPlace x.to_ (n + 1) r:=rfl
theorem Ri (t n:Nat) (x y:Leg) (r:List Leg):Vbaham.wrongTurn t n (x :: y :: r)=if y.dep < x.arr + t then some (n + 1) else Vbaham.wrongTurn t (n + 1) (y :: r):=rfl
theorem Wn {xs:List LG} {i:Nat} {x:LG} (h:xs[i]? = some x):(legs xs)[i]? = some x.g:=by unfold legs; rw [List.getElem?_map,h]; rfl
theorem u6 {xs:List LG} {i:Nat} {x:LG} (h:xs[i]? = some x):(legs xs).drop i=x.g :: (legs xs).drop (i + 1):=by
 obtain ⟨h1,h2⟩:=List.getElem?_eq_some_iff.mp (Wn h)
 rw [List.drop_eq_getElem_cons h1,h2]
theorem oh (xs:List LG):(legs xs).length=xs.length:=by unfold legs; rw [List.length_map]
section
variable {P:Program} {w:World} {K:PySem.W.Frag} {mg:Str->Option Value} {base:Heap} {C:Ads}
abbrev ju:Stmt:=top 23
theorem dj:aG ["plan", "where", "number", "leg"] ["plan"] (aD ju):=⟨rfl,rfl,rfl,by decide +kernel,rfl,by decide +kernel,by decide +kernel⟩
theorem Ac {f:Addr} {fd:FuncData} (F:Fun K "misplaced_leg" "misplaced_leg" ju f fd) (T:Txt w K mg C):aY P w K mg base CX0 1 f fd ["plan"] (oR K C F1):=by
  refine F.ok dj (fun vs H Q E h=> ?_) (fun cdv A outer s H vs Q E hr h=> ?_)
  · obtain ⟨_,_,_,_,_,rfl,_⟩:=h
    rfl
  · obtain ⟨a,R,b,ys,ds,rfl,⟨dx,r,ro,du,hp,hP⟩,hO,k⟩:=h
    refine ⟨_,(ao (bG 1 dj.nd (xf (pv 0)))
      (ao (gq PassesOwn.never rfl (J0 rfl T.d9 (aa (xf (pv 0)) aq) (pL aB wN)) (wO rfl (bA (xg 2 dj.nd) (bA (xg 3 dj.nd) fY)))
        (ao (cV (aV Z5 (xf (pv 3)) (pv 1) (bh _))
          (au (aJ (pv 2)))
          bD)
        (au (bG 1 dj.nd (xf (pv 3))))))
      (au (aJ aB)))),?_⟩
    refine ⟨_,rfl,aO hp T.dY T.Qg rfl ⟨_,rfl,aO hp T.dY T.nZ rfl ⟨ro,_,rfl,rfl,SqL.of hP.ros,?_⟩⟩⟩
    refine gw (wkS (xs:=refs ys)) (fun i σ H'=>∃ (at_:Nat) (v2 v3:Option V),σ = [some (.ref a),some (.int (at_:Int)),v2,v3]/\aC H H'/\Vbaham.wrongPlace b 1 (legs ys)=Vbaham.wrongPlace at_ (i + 1) ((legs ys).drop i))
      ⟨b,none,none,rfl,aC.refl H,by rw [List.drop_zero]⟩ (fun i σ H' _ ⟨_,_,_,_,s5,_⟩=>SqL.of (s5 _ _ hP.ros)) ?_ ?_
    · rintro i v σ H1 H2 hi ⟨at_,v2,v3,rfl,s5,he⟩ ⟨t,ps,rfl,ht,rfl,y,hy,rfl⟩
      obtain ⟨x,hx,rfl⟩:=dm hy
      have s6:aC H (upd H1 t (.tup [.int ((i:Nat) + 1),.ref x.a])):=s5.trans (aC.upd ht)
      obtain ⟨xd,xn,gx,_⟩:=hP.lg x (List.mem_of_getElem? hx)
      rw [u6 hx,Rk] at he
      refine ⟨t,_,rfl,SqT.of aj,rfl,_,_,rfl,_,_,rfl,rfl,?_⟩
      refine ⟨_,rfl,aO (s6 _ _ gx) T.bQ T.yh rfl ⟨_,rfl,rfl,_,rfl,?_⟩⟩
      by_cases hc:x.g.from_=at_
      · rw [hc,decide_eq_true rfl]
        refine bY ⟨_,rfl,aO (s6 _ _ gx) T.bQ T.YW rfl ⟨x.g.to_,_,_,rfl,s6,?_⟩⟩
        rw [if_neg (by simpa using hc)] at he
        exact he
      · rw [decide_eq_false (fun q=>hc (by injection q; omega))]
        rw [if_pos hc] at he
        refine bN ⟨_,rfl,?_⟩
        have q:=k _ s6
        unfold F1 num at q
        rw [he] at q
        exact q
    · rintro σ H2 ⟨at_,v2,v3,rfl,s5,he⟩
      rw [aM,<-oh,List.drop_length] at he
      have q:=k _ s5
      unfold F1 num at q
      rw [he] at q
      exact q
abbrev sU:Stmt:=top 24
theorem oV:aG ["plan", "roster", "k"] ["plan"] (aD sU):=⟨rfl,rfl,rfl,by decide +kernel,rfl,by decide +kernel,by decide +kernel⟩
theorem J9 {f:Addr} {fd:FuncData} (F:Fun K "hasty_leg" "hasty_leg" sU f fd) (T:Txt w K mg C):aY P w K mg base CX0 1 f fd ["plan"] (oR K C F2):=by
  refine F.ok oV (fun vs H Q E h=> ?_) (fun cdv A outer s H vs Q E hr h=> ?_)
  · obtain ⟨_,_,_,_,_,rfl,_⟩:=h
    rfl
  · obtain ⟨a,R,b,ys,ds,rfl,⟨dx,r,ro,du,hp,hP⟩,hO,k⟩:=h
    refine ⟨_,(ao (bG 1 oV.nd (xf (pv 0)))
      (ao (gq PassesOwn.never rfl (Iz rfl T.Dp (aa aB (aa (aW bf (by rfl) T.iG PySem.boot_len (aa (pv 1) aq)) aq))) (xg 2 oV.nd)
        (au (cV (aV xX (xf (xl (pv 1) (pv 2))) (bB gr (xf (xl (pv 1) (bB d8 (pv 2) aB))) (xf (xf (pv 0)))) (bh _))
          (au (aJ (bB gr (pv 2) aB)))
          bD)))
      (au (aJ aB)))),?_⟩
    have hlen:=hO.len
    refine ⟨_,rfl,aO hp T.dY T.nZ rfl ⟨_,rfl,ro,_,rfl,.inl (SqL.of hP.ros),1,_,rfl,⟨by decide,by decide,by rw [aM]; omega,by rw [aM]; omega⟩,?_⟩⟩
    obtain ⟨rdx,rl,rww,rws,hr1,hr2⟩:=hP.rules
    refine gw wkR (fun i σ H'=>H'=H/\(∃ v2:Option V,σ = [some (.ref a),some (.ref ro),v2])/\Vbaham.wrongTurn R.turn 1 (legs ys)=Vbaham.wrongTurn R.turn (i + 1) ((legs ys).drop i))
      ⟨rfl,⟨none,rfl⟩,by rw [List.drop_zero]⟩ (fun _ _ _ _ _=>trivial) ?_ ?_
    · rintro i v σ H1 H2 hi ⟨rfl,⟨v2,rfl⟩,he⟩ ⟨rfl,rfl⟩
      rw [aM] at hi
      obtain ⟨x,hx⟩:∃ x,ys[i]? = some x:=⟨_,List.getElem?_eq_getElem (by omega)⟩
      obtain ⟨y,hy⟩:∃ y,ys[i + 1]? = some y:=⟨_,List.getElem?_eq_getElem (by omega)⟩
      obtain ⟨xd,xn,gx,_⟩:=hP.lg x (List.mem_of_getElem? hx)
      obtain ⟨yd,yn,gy,_⟩:=hP.lg y (List.mem_of_getElem? hy)
      rw [u6 hx,u6 hy,Ri] at he
      refine ⟨_,rfl,_,rfl,ro,_,_,_,rfl,rfl,SqL.of hP.ros,aK (j:=i + 1) (by omega) (xV hy),aO gy T.bQ T.lB rfl ?_⟩
      refine ⟨_,rfl,_,rfl,_,_,rfl,rfl,ro,_,_,_,rfl,rfl,SqL.of hP.ros,aK (j:=i) (by omega) (xV hx),aO gx T.bQ T.t7 rfl ⟨_,rfl,aO hp T.dY T.pN rfl (aO hr1 T.cY T.PQ rfl ?_)⟩⟩
      refine ⟨_,_,rfl,rfl,_,_,rfl,rfl,_,rfl,?_⟩
      by_cases hc:y.g.dep < x.g.arr + R.turn
      · rw [decide_eq_true (by omega)]
        rw [if_pos hc] at he
        refine bN ⟨_,rfl,_,_,rfl,rfl,?_⟩
        have q:=k _ (aC.refl _)
        unfold F2 num at q
        rw [he] at q
        have e:((1:Int) + (i:Nat) + 1)=((i + 1 + 1:Nat):Int):=by omega
        show Q (V.int ((1:Int) + (i:Nat) + 1)) H2
        rw [e]
        exact q
      · rw [decide_eq_false (by omega)]
        rw [if_neg hc] at he
        refine bY ⟨rfl,⟨_,rfl⟩,?_⟩
        rw [he,u6 hy]
    · rintro σ H2 ⟨rfl,⟨v2,rfl⟩,he⟩
      have q:=k _ (aC.refl _)
      unfold F2 num at q
      have e0:Vbaham.wrongTurn R.turn 1 (legs ys)=none:=by
        rw [he,aM]
        have hd:((legs ys).drop ((ys.length:Int) - 1).toNat).length<=1:=by rw [List.length_drop,oh]; omega
        match (legs ys).drop ((ys.length:Int) - 1).toNat,hd with
        | [],_=>rfl
        | [_],_=>rfl
      rw [e0] at q
      exact q
end
theorem Um:∀ {d:List LG} {x y:LG},d.Pairwise ordG->d[0]? = some x->d.getLast? = some y->x.g.dep<=y.g.dep
 | [],_,_,_,h,_=>by simp at h
 | a :: r,x,y,hp,h1,h2=>by
  simp at h1
  subst h1
  rw [List.pairwise_cons] at hp
  by_cases hr:r=[]
  ·subst hr
   simp at h2
   subst h2
   exact Nat.le_refl _
  ·have m:y ∈ r:=by
    rw [List.getLast?_cons_of_ne_nil hr] at h2
    exact List.mem_of_getLast? h2
   have:=hp.1 y m
   unfold ordG at this
   omega
theorem UT {gap:Nat} {ys d:List LG} (ho:ys.Pairwise ordG) (hv:∀ y ∈ ys,y.g.dep < y.g.arr) (hd:d ∈ aQ gap ys):Vbaham.firstDep (legs d) < Vbaham.lastArr (legs d):=by
 have hs:d.Sublist ys:=by
  rw [<-cX gap ys]
  exact List.sublist_flatten_of_mem hd
 have hne:=dC gap ys d hd
 obtain ⟨x,hx⟩:∃ x,d[0]? = some x:=⟨_,List.getElem?_eq_getElem (List.length_pos_iff.mpr hne)⟩
 obtain ⟨y,hy⟩:∃ y,d.getLast? = some y:=⟨_,List.getLast?_eq_some_getLast hne⟩
 rw [lH hx,Fq hy]
 have h1:=Um (ho.sublist hs) hx hy
 have h2:=hv y (hs.subset (List.mem_of_getLast? hy))
 omega
theorem oG {R:Rules} {gap:Nat} {ys d:List LG} (ho:ys.Pairwise ordG) (hv:∀ y ∈ ys,y.g.dep < y.g.arr) (hd:d ∈ aQ gap ys):Vbaham.begins R (legs d) < Vbaham.ends R (legs d):=by
 have:=UT ho hv hd
 unfold Vbaham.begins Vbaham.ends
 omega
theorem LR {gap:Nat} {ys:List LG} (ho:ys.Pairwise ordG):((aQ gap ys).map fun d=>Vbaham.firstDep (legs d)).Pairwise (· <= ·):=by
 rw [List.pairwise_map]
 have h:=ho
 rw [<-cX gap ys,List.pairwise_flatten] at h
 refine List.Pairwise.imp_of_mem (fun {d e} md me q=> ?_) h.2
 obtain ⟨x,hx⟩:∃ x,d[0]? = some x:=⟨_,List.getElem?_eq_getElem (List.length_pos_iff.mpr (dC gap ys d md))⟩
 obtain ⟨y,hy⟩:∃ y,e[0]? = some y:=⟨_,List.getElem?_eq_getElem (List.length_pos_iff.mpr (dC gap ys e me))⟩
 rw [lH hx,lH hy]
 have:=q x (List.mem_of_getElem? hx) y (List.mem_of_getElem? hy)
 unfold ordG at this
 omega
theorem Ds {R:Rules} {ys:List LG} {ds:List (Addr × List LG)} (h:ds.map (·.2)=aQ R.gap ys):Vbaham.duties R.gap (legs ys)=ds.map fun d=>legs d.2:=by
 rw [<-yw,<-h,List.map_map]
 rfl
theorem wY {R:Rules} {ys:List LG} {ds:List (Addr × List LG)} (h:ds.map (·.2)=aQ R.gap ys) {d:Addr × List LG} (m:d ∈ ds):d.2 ∈ aQ R.gap ys:=by
 rw [<-h]
 exact List.mem_map.mpr ⟨d,m,rfl⟩
theorem abx {R:Rules} {ys:List LG} {ds:List (Addr × List LG)} (h:ds.map (·.2)=aQ R.gap ys):ds.length<=ys.length:=by
 have:=congrArg List.length h
 rw [List.length_map] at this
 rw [this]
 exact jo _ _
theorem yz {α β : Type} {g : α -> β} {l:List α} {i:Nat} {x : α} (h:l[i]? = some x):(l.map g).drop i=g x :: (l.map g).drop (i + 1):=by
 have hg:(l.map g)[i]? = some (g x):=by rw [List.getElem?_map,h]; rfl
 obtain ⟨h1,h2⟩:=List.getElem?_eq_some_iff.mp hg
 rw [List.drop_eq_getElem_cons h1,h2]
def tooLong (R:Rules) (d:List Leg):Prop:=8 < d.length\/R.longest.getD (d.length - 1) 0 < Vbaham.lengthOf R d
instance (R:Rules) (d:List Leg):Decidable (tooLong R d):=by unfold tooLong; infer_instance
theorem Rm (R:Rules) (n:Nat) (d:List Leg) (l:List (List Leg)):Vbaham.wrongDuty R n (d :: l)=if tooLong R d then some n else Vbaham.wrongDuty R (n + 1) l:=rfl
theorem Rj (R:Rules) (n:Nat) (d e:List Leg) (l:List (List Leg)):Vbaham.wrongRest R n (d :: e :: l)=if Vbaham.begins R e < Vbaham.ends R d + max R.rest (Vbaham.lengthOf R d) then some (n + 1) else Vbaham.wrongRest R (n + 1) (e :: l):=rfl
theorem Rh (l:List Leg) (n:Nat) (p:Nat × Nat) (r:List (Nat × Nat)):Vbaham.wrongWindow l n (p :: r)=if p.2 < Vbaham.worst l p.1 then some n else Vbaham.wrongWindow l (n + 1) r:=rfl
theorem Do {l:List Nat} {i n:Nat} (h:l[i]? = some n):(nats l)[i]? = some (.int (n:Int)):=by unfold nats; rw [List.getElem?_map,h]; rfl
theorem il (l:List Nat):(nats l).length=l.length:=by unfold nats; rw [List.length_map]
section
variable {P:Program} {w:World} {K:PySem.W.Frag} {mg:Str->Option Value} {base:Heap} {C:Ads}
abbrev mJ:Stmt:=top 25
theorem su:aG ["duty", "longest", "many"] ["duty", "longest"] (aD mJ):=⟨rfl,rfl,rfl,by decide +kernel,rfl,by decide +kernel,by decide +kernel⟩
def rT (K:PySem.W.Frag) (C:Ads):Sp:=fun vs H Q _=>∃ (d l:Addr) (R:Rules) (xs:List LG),vs=[.ref d,.ref l]/\GJ K C H d R xs/\H l=some (.lst (nats R.longest))/\R.longest.length=8/\xs ≠ []/\Vbaham.begins R (legs xs)<=Vbaham.ends R (legs xs) /\
 Q (.bl (decide (tooLong R (legs xs)))) H
theorem Et {f fl:Addr} {fd fdl:FuncData} (F:Fun K "is_overlong" "is_overlong" mJ f fd) (T:Txt w K mg C) (gK:FnI P w K mg base "length_of" 1 fl fdl ["duty"] (oM C)):aY P w K mg base CX0 2 f fd ["duty", "longest"] (rT K C):=by
 refine F.ok su (fun vs H Q E h=> ?_) (fun cdv A outer s H vs Q E hr h=> ?_)
 ·obtain ⟨_,_,_,_,rfl,_⟩:=h
  rfl
 ·obtain ⟨d,l,R,xs,rfl,⟨dx,dl,hd,hL⟩,hl,h8,hne,hbe,k⟩:=h
  refine ⟨_,(ao (bG 2 su.nd (aW bf (by rfl) T.iG PySem.boot_len (aa (xf (pv 0)) aq)))
   (au (aJ (pe_or (lz qJ (pv 2) (aW bf (by rfl) T.iG PySem.boot_len (aa (pv 1) aq)) (bh _)) (Qc (lz qJ (aH gK (hr.mono (by decide)) (aa (pv 0) aq)) (xl (pv 1) (bB d8 (pv 2) aB)) (bh _))))))),?_⟩
  have hpos:0 < xs.length:=List.length_pos_iff.mpr hne
  refine ⟨_,rfl,aO hd T.fJ T.Gf rfl ⟨dl,_,rfl,.inl hL.lst,?_⟩⟩
  refine ⟨_,rfl,_,rfl,l,_,rfl,.inl (SqL.of hl),_,_,rfl,rfl,_,rfl,?_⟩
  by_cases hc:8 < xs.length
  ·rw [decide_eq_true (by rw [aM,il,h8]; omega)]
   refine bN ?_
   rw [decide_eq_true (show tooLong R (legs xs) from .inl (by rw [oh]; exact hc))] at k
   exact k
  ·rw [decide_eq_false (by rw [aM,il,h8]; omega)]
   obtain ⟨z,hz⟩:∃ z,R.longest[xs.length - 1]? = some z:=⟨_,List.getElem?_eq_getElem (by omega)⟩
   have hg:R.longest.getD ((legs xs).length - 1) 0=z:=by rw [oh,List.getD_eq_getElem?_getD,hz]; rfl
   refine bY ⟨_,rfl,d,dx,dl,_,_,rfl,hd,_,rfl,_,rfl,_,_,rfl,rfl,l,_,_,_,rfl,rfl,SqL.of hl,aK (j:=xs.length - 1) (by rw [aM]; omega) (Do hz),_,_,rfl,rfl,?_⟩
   have e:decide ((z:Int) < (Vbaham.ends R (legs xs):Int) - (Vbaham.begins R (legs xs):Int))=decide (tooLong R (legs xs)):=by
    refine decide_eq_decide.mpr ⟨fun q=> .inr ?_,fun q=> ?_⟩
    ·rw [hg]
     unfold Vbaham.lengthOf
     omega
    ·rcases q with q | q
     ·rw [oh] at q
      exact absurd q hc
     ·rw [hg] at q
      unfold Vbaham.lengthOf at q
      omega
   show Q (.bl (decide ((z:Int) < (Vbaham.ends R (legs xs):Int) - (Vbaham.begins R (legs xs):Int)))) H
   rw [e]
   exact k
abbrev jt:Stmt:=top 26
theorem iH:aG ["plan", "number", "duty"] ["plan"] (aD jt):=⟨rfl,rfl,rfl,by decide +kernel,rfl,by decide +kernel,by decide +kernel⟩
theorem Ab {f fl:Addr} {fd fdl:FuncData} (F:Fun K "overlong_duty" "overlong_duty" jt f fd) (T:Txt w K mg C) (nG:FnI P w K mg base "is_overlong" 2 fl fdl ["duty", "longest"] (rT K C)):aY P w K mg base CX0 3 f fd ["plan"] (oR K C F3):=by
  refine F.ok iH (fun vs H Q E h=> ?_) (fun cdv A outer s H vs Q E hr h=> ?_)
  · obtain ⟨_,_,_,_,_,rfl,_⟩:=h
    rfl
  · obtain ⟨a,R,b,ys,ds,rfl,⟨dx,r,ro,du,hp,hP⟩,hO,k⟩:=h
    refine ⟨_,(ao (gq PassesOwn.never rfl (J0 rfl T.d9 (aa (xf (pv 0)) aq) (pL aB wN)) (wO rfl (bA (xg 1 iH.nd) (bA (xg 2 iH.nd) fY)))
        (au (cV (tQ (aH nG (hr.mono (by decide)) (aa (pv 2) (aa (xf (xf (pv 0))) aq))))
          (au (aJ (pv 1)))
          bD)))
      (au (aJ aB))),?_⟩
    obtain ⟨rdx,rl,rww,rws,hr1,hr2,hr3,_⟩:=hP.rules
    have eD:=Ds hP.cut
    refine ⟨_,rfl,aO hp T.dY T.tW rfl ⟨du,_,rfl,rfl,SqL.of hP.dut.lst,?_⟩⟩
    refine gw (wkS (xs:=ds.map fun d=>V.ref d.1)) (fun i σ H'=>∃ (v1 v2:Option V),σ = [some (.ref a),v1,v2]/\aC H H'/\Vbaham.wrongDuty R 1 (Vbaham.duties R.gap (legs ys))=Vbaham.wrongDuty R (i + 1) ((ds.map fun d=>legs d.2).drop i))
      ⟨none,none,rfl,aC.refl H,by rw [List.drop_zero,eD]⟩ (fun i σ H' _ ⟨_,_,_,s5,_⟩=>SqL.of (s5 _ _ hP.dut.lst)) ?_ ?_
    · rintro i v σ H1 H2 hi ⟨v1,v2,rfl,s5,he⟩ ⟨t,ps,rfl,ht,rfl,y,hy,rfl⟩
      obtain ⟨d,hd,rfl⟩:=cU hy
      have md:=List.mem_of_getElem? hd
      have mg:=wY hP.cut md
      have s6:aC H (upd H1 t (.tup [.int ((i:Nat) + 1),.ref d.1])):=s5.trans (aC.upd ht)
      rw [yz hd,Rm] at he
      refine ⟨t,_,rfl,SqT.of aj,rfl,_,_,rfl,_,_,rfl,rfl,?_⟩
      refine ⟨_,rfl,_,rfl,aO (s6 _ _ hp) T.dY T.pN rfl (aO (s6 _ _ hr1) T.cY T.zY rfl ⟨d.1,rl,R,d.2,rfl,(hP.dut.at_ d md).same s6,s6 _ _ hr2,hO.lon,dC _ _ _ mg,Nat.le_of_lt (oG hO.ord hO.val mg),_,rfl,?_⟩)⟩
      by_cases hc:tooLong R (legs d.2)
      · rw [decide_eq_true hc]
        rw [if_pos hc] at he
        refine bN ⟨_,rfl,?_⟩
        have q:=k _ s6
        unfold F3 num at q
        rw [he] at q
        exact q
      · rw [decide_eq_false hc]
        rw [if_neg hc] at he
        exact bY ⟨_,_,rfl,s6,he⟩
    · rintro σ H2 ⟨v1,v2,rfl,s5,he⟩
      rw [List.length_map,show ds.length=(ds.map fun d=>legs d.2).length by rw [List.length_map],List.drop_length] at he
      have q:=k _ s5
      unfold F3 num at q
      rw [he] at q
      exact q
abbrev jr:Stmt:=top 27
theorem eF:aG ["plan", "duties", "k", "earlier"] ["plan"] (aD jr):=⟨rfl,rfl,rfl,by decide +kernel,rfl,by decide +kernel,by decide +kernel⟩
theorem Aa {f fl:Addr} {fd fdl:FuncData} (F:Fun K "unrested_duty" "unrested_duty" jr f fd) (T:Txt w K mg C) (gK:FnI P w K mg base "length_of" 1 fl fdl ["duty"] (oM C)):aY P w K mg base CX0 2 f fd ["plan"] (oR K C F4):=by
  refine F.ok eF (fun vs H Q E h=> ?_) (fun cdv A outer s H vs Q E hr h=> ?_)
  · obtain ⟨_,_,_,_,_,rfl,_⟩:=h
    rfl
  · obtain ⟨a,R,b,ys,ds,rfl,⟨dx,r,ro,du,hp,hP⟩,hO,k⟩:=h
    refine ⟨_,(ao (bG 1 eF.nd (xf (pv 0)))
      (ao (gq PassesOwn.never rfl (Iz rfl T.Dp (aa aB (aa (aW bf (by rfl) T.iG PySem.boot_len (aa (pv 1) aq)) aq))) (xg 2 eF.nd)
        (ao (bG 3 eF.nd (xl (pv 1) (bB d8 (pv 2) aB)))
        (au (cV (aV xX (xf (xl (pv 1) (pv 2))) (bB gr (xf (pv 3)) (aW (jQ rfl) (by rfl) T.Bk GQ (aa (xf (xf (pv 0))) (aa (aH gK (hr.mono (by decide)) (aa (pv 3) aq)) aq)))) (bh _))
          (au (aJ (bB gr (pv 2) aB)))
          bD))))
      (au (aJ aB)))),?_⟩
    have hlen:=hO.len
    have hdl:=abx hP.cut
    have eD:=Ds hP.cut
    have lref:(ds.map fun d=>V.ref d.1).length=ds.length:=by rw [List.length_map]
    obtain ⟨rdx,rl,rww,rws,hr1,hr2⟩:=hP.rules
    refine ⟨_,rfl,aO hp T.dY T.tW rfl ⟨_,rfl,du,_,rfl,.inl (SqL.of hP.dut.lst),1,_,rfl,⟨by decide,by decide,by rw [lref]; omega,by rw [lref]; omega⟩,?_⟩⟩
    refine gw wkR (fun i σ H'=>H'=H/\(∃ v2 v3:Option V,σ = [some (.ref a),some (.ref du),v2,v3])/\Vbaham.wrongRest R 1 (Vbaham.duties R.gap (legs ys))=Vbaham.wrongRest R (i + 1) ((ds.map fun d=>legs d.2).drop i))
      ⟨rfl,⟨none,none,rfl⟩,by rw [List.drop_zero,eD]⟩ (fun _ _ _ _ _=>trivial) ?_ ?_
    · rintro i v σ H1 H2 hi ⟨rfl,⟨v2,v3,rfl⟩,he⟩ ⟨rfl,rfl⟩
      rw [lref] at hi
      obtain ⟨d,hd⟩:∃ x,ds[i]? = some x:=⟨_,List.getElem?_eq_getElem (by omega)⟩
      obtain ⟨e,hee⟩:∃ y,ds[i + 1]? = some y:=⟨_,List.getElem?_eq_getElem (by omega)⟩
      have hdr:(ds.map fun d=>V.ref d.1)[i]? = some (.ref d.1):=by rw [List.getElem?_map,hd]; rfl
      have her:(ds.map fun d=>V.ref d.1)[i + 1]? = some (.ref e.1):=by rw [List.getElem?_map,hee]; rfl
      obtain ⟨ddx,ddl,gd,_⟩:=hP.dut.at_ d (List.mem_of_getElem? hd)
      obtain ⟨edx,edl,ge,_⟩:=hP.dut.at_ e (List.mem_of_getElem? hee)
      have hbe:=oG (R:=R) hO.ord hO.val (wY hP.cut (List.mem_of_getElem? hd))
      rw [yz hd,yz hee,Rj] at he
      refine ⟨_,rfl,_,rfl,_,_,rfl,rfl,du,_,_,_,rfl,rfl,SqL.of hP.dut.lst,aK (j:=i) (by omega) hdr,?_⟩
      refine ⟨_,rfl,_,rfl,du,_,_,_,rfl,rfl,SqL.of hP.dut.lst,aK (j:=i + 1) (by omega) her,aO ge T.fJ T.vd rfl ?_⟩
      refine ⟨_,rfl,aO gd T.fJ T.Gj rfl ⟨_,rfl,aO hp T.dY T.pN rfl (aO hr1 T.cY T.PX rfl ⟨_,rfl,d.1,ddx,ddl,_,_,rfl,gd,_,_,rfl,_,_,rfl,rfl,_,_,rfl,rfl,_,rfl,?_⟩)⟩⟩
      have em:(if (Vbaham.ends R (legs d.2):Int) - (Vbaham.begins R (legs d.2):Int) > (R.rest:Int) then (Vbaham.ends R (legs d.2):Int) - (Vbaham.begins R (legs d.2):Int) else (R.rest:Int))=((max R.rest (Vbaham.lengthOf R (legs d.2)):Nat):Int):=by
        unfold Vbaham.lengthOf
        split <;> omega
      rw [em]
      by_cases hc:Vbaham.begins R (legs e.2) < Vbaham.ends R (legs d.2) + max R.rest (Vbaham.lengthOf R (legs d.2))
      · rw [decide_eq_true (by omega)]
        rw [if_pos hc] at he
        refine bN ⟨_,rfl,_,_,rfl,rfl,?_⟩
        have q:=k _ (aC.refl _)
        unfold F4 num at q
        rw [he] at q
        have e:((1:Int) + (i:Nat) + 1)=((i + 1 + 1:Nat):Int):=by omega
        show Q (V.int ((1:Int) + (i:Nat) + 1)) H2
        rw [e]
        exact q
      · rw [decide_eq_false (by omega)]
        rw [if_neg hc] at he
        refine bY ⟨rfl,⟨_,_,rfl⟩,?_⟩
        rw [he,yz hee]
    · rintro σ H2 ⟨rfl,⟨v2,v3,rfl⟩,he⟩
      have q:=k _ (aC.refl _)
      unfold F4 num at q
      have e0:Vbaham.wrongRest R 1 (Vbaham.duties R.gap (legs ys))=none:=by
        rw [he,lref]
        have hd:((ds.map fun d=>legs d.2).drop ((ds.length:Int) - 1).toNat).length<=1:=by rw [List.length_drop,List.length_map]; omega
        match (ds.map fun d=>legs d.2).drop ((ds.length:Int) - 1).toNat,hd with
        | [],_=>rfl
        | [_],_=>rfl
      rw [e0] at q
      exact q
end
theorem Vk:∀ (l:List Leg) (a n m:Nat),Vbaham.wrongPlace a n l=some m->n<=m
 | [],_,_,_,h=>by cases h
 | x :: r,a,n,m,h=>by
  rw [Rk] at h
  split at h
  ·cases h; exact Nat.le_refl _
  ·have:=Vk r _ _ _ h
   omega
theorem Vi:∀ (l:List Leg) (t n m:Nat),Vbaham.wrongTurn t n l=some m->n<=m
 | [],_,_,_,h=>by cases h
 | [_],_,_,_,h=>by cases h
 | x :: y :: r,t,n,m,h=>by
  rw [Ri] at h
  split at h
  ·cases h; omega
  ·have:=Vi (y :: r) _ _ _ h
   omega
theorem Vn (R:Rules):∀ (l:List (List Leg)) (n m:Nat),Vbaham.wrongDuty R n l=some m->n<=m
 | [],_,_,h=>by cases h
 | x :: r,n,m,h=>by
  rw [Rm] at h
  split at h
  ·cases h; exact Nat.le_refl _
  ·have:=Vn R r _ _ h
   omega
theorem Vj (R:Rules):∀ (l:List (List Leg)) (n m:Nat),Vbaham.wrongRest R n l=some m->n<=m
 | [],_,_,h=>by cases h
 | [_],_,_,h=>by cases h
 | x :: y :: r,n,m,h=>by
  rw [Rj] at h
  split at h
  ·cases h; omega
  ·have:=Vj R (y :: r) _ _ h
   omega
theorem Vh (L:List Leg):∀ (l:List (Nat × Nat)) (n m:Nat),Vbaham.wrongWindow L n l=some m->n<=m
 | [],_,_,h=>by cases h
 | x :: r,n,m,h=>by
  rw [Rh] at h
  split at h
  ·cases h; exact Nat.le_refl _
  ·have:=Vh L r _ _ h
   omega
def Fs:Nat->Lk
 | 0=>F1
 | 1=>F2
 | 2=>F3
 | 3=>F4
 | 4=>F5
 | 5=>F6
 | _=>fun _ _ _=>none
theorem abM {i:Nat} {R:Rules} {b n:Nat} {l:List Leg} (h:Fs i R b l=some n):0 < n:=by
 match i,h with
 | 0,h=>exact Vk l _ _ _ h
 | 1,h=>exact Vi l _ _ _ h
 | 2,h=>exact Vn R _ _ _ h
 | 3,h=>exact Vj R _ _ _ h
 | 4,h=>exact Vh l _ _ _ h
 | 5,h =>
  have h:Vbaham.wrongDays R l=some n:=h
  unfold Vbaham.wrongDays at h
  split at h
  ·cases h; omega
  ·cases h
 | _ + 6,h=>cases h
theorem NZ {i:Nat} {R:Rules} {b n:Nat} {l:List Leg} (h0:∀ j,j < i->Fs j R b l=none) (h:Fs i R b l=some n):Vbaham.fault R b l=some (i + 1,n):=by
 have e1:∀ j,j < i->Fs j R b l=none:=h0
 unfold Vbaham.fault
 match i,h,h0 with
 | 0,h,h0=>rw [show Vbaham.wrongPlace b 1 l=some n from h]
 | 1,h,h0=>rw [show Vbaham.wrongPlace b 1 l=none from h0 0 (by omega),show Vbaham.wrongTurn R.turn 1 l=some n from h]
 | 2,h,h0=>rw [show Vbaham.wrongPlace b 1 l=none from h0 0 (by omega),show Vbaham.wrongTurn R.turn 1 l=none from h0 1 (by omega),show Vbaham.wrongDuty R 1 (Vbaham.duties R.gap l)=some n from h]
 | 3,h,h0=>rw [show Vbaham.wrongPlace b 1 l=none from h0 0 (by omega),show Vbaham.wrongTurn R.turn 1 l=none from h0 1 (by omega),show Vbaham.wrongDuty R 1 (Vbaham.duties R.gap l)=none from h0 2 (by omega),show Vbaham.wrongRest R 1 (Vbaham.duties R.gap l)=some n from h]
 | 4,h,h0=>rw [show Vbaham.wrongPlace b 1 l=none from h0 0 (by omega),show Vbaham.wrongTurn R.turn 1 l=none from h0 1 (by omega),show Vbaham.wrongDuty R 1 (Vbaham.duties R.gap l)=none from h0 2 (by omega),show Vbaham.wrongRest R 1 (Vbaham.duties R.gap l)=none from h0 3 (by omega),show Vbaham.wrongWindow l 1 R.windows=some n from h]
 | 5,h,h0=>rw [show Vbaham.wrongPlace b 1 l=none from h0 0 (by omega),show Vbaham.wrongTurn R.turn 1 l=none from h0 1 (by omega),show Vbaham.wrongDuty R 1 (Vbaham.duties R.gap l)=none from h0 2 (by omega),show Vbaham.wrongRest R 1 (Vbaham.duties R.gap l)=none from h0 3 (by omega),show Vbaham.wrongWindow l 1 R.windows=none from h0 4 (by omega),show Vbaham.wrongDays R l=some n from h]; rfl
 | _ + 6,h,_=>cases h
theorem Qx {R:Rules} {b:Nat} {l:List Leg} (h0:∀ j,j < 6->Fs j R b l=none):Vbaham.fault R b l=none:=by
 unfold Vbaham.fault
 rw [show Vbaham.wrongPlace b 1 l=none from h0 0 (by omega),show Vbaham.wrongTurn R.turn 1 l=none from h0 1 (by omega),show Vbaham.wrongDuty R 1 (Vbaham.duties R.gap l)=none from h0 2 (by omega),show Vbaham.wrongRest R 1 (Vbaham.duties R.gap l)=none from h0 3 (by omega),show Vbaham.wrongWindow l 1 R.windows=none from h0 4 (by omega),show Vbaham.wrongDays R l=none from h0 5 (by omega)]
 rfl
section
variable {P:Program} {w:World} {K:PySem.W.Frag} {mg:Str->Option Value} {base:Heap} {C:Ads}
abbrev gm:Stmt:=top 28
theorem fC:aG ["plan", "number", "window"] ["plan"] (aD gm):=⟨rfl,rfl,rfl,by decide +kernel,rfl,by decide +kernel,by decide +kernel⟩
theorem vq {f fl:Addr} {fd fdl:FuncData} (F:Fun K "overflown_window" "overflown_window" gm f fd) (T:Txt w K mg C) (eV:FnI P w K mg base "most_flown" 3 fl fdl ["legs", "w"] (lR K C)):aY P w K mg base CX0 4 f fd ["plan"] (oR K C F5):=by
  refine F.ok fC (fun vs H Q E h=> ?_) (fun cdv A outer s H vs Q E hr h=> ?_)
  · obtain ⟨_,_,_,_,_,rfl,_⟩:=h
    rfl
  · obtain ⟨a,R,b,ys,ds,rfl,⟨dx,r,ro,du,hp,hP⟩,hO,k⟩:=h
    refine ⟨_,(ao (gq PassesOwn.never rfl (J0 rfl T.d9 (aa (xf (xf (pv 0))) aq) (pL aB wN)) (wO rfl (bA (xg 1 fC.nd) (bA (xg 2 fC.nd) fY)))
        (au (cV (aV qJ (aH eV (hr.mono (by decide)) (aa (xf (pv 0)) (aa (xt (pv 2) aB) aq))) (xt (pv 2) aB) (bh _))
          (au (aJ (pv 1)))
          bD)))
      (au (aJ aB))),?_⟩
    obtain ⟨rdx,rl,rww,rws,hr1,hr2,hr3,hr4,hr5⟩:=hP.rules
    refine ⟨_,rfl,aO hp T.dY T.pN rfl (aO hr1 T.cY T.zX rfl ⟨rww,_,rfl,rfl,SqL.of hr3,?_⟩)⟩
    refine gw (wkS (xs:=rws.map V.ref)) (fun i σ H'=>∃ (v1 v2:Option V),σ = [some (.ref a),v1,v2]/\aC H H'/\Vbaham.wrongWindow (legs ys) 1 R.windows=Vbaham.wrongWindow (legs ys) (i + 1) (R.windows.drop i))
      ⟨none,none,rfl,aC.refl H,by rw [List.drop_zero]⟩ (fun i σ H' _ ⟨_,_,_,s5,_⟩=>SqL.of (s5 _ _ hr3)) ?_ ?_
    · rintro i v σ H1 H2 hi ⟨v1,v2,rfl,s5,he⟩ ⟨t,ps,rfl,ht,rfl,y,hy,rfl⟩
      obtain ⟨wa,hwa,rfl⟩:=cU hy
      rw [List.length_map] at hi
      obtain ⟨p,hp2⟩:∃ p,R.windows[i]? = some p:=⟨_,List.getElem?_eq_getElem (by omega)⟩
      have hw:=hr5 i wa p hwa hp2
      have s6:aC H (upd H1 t (.tup [.int ((i:Nat) + 1),.ref wa])):=s5.trans (aC.upd ht)
      have hdr:R.windows.drop i=p :: R.windows.drop (i + 1):=by
        obtain ⟨h1,h2⟩:=List.getElem?_eq_some_iff.mp hp2
        rw [List.drop_eq_getElem_cons h1,h2]
      rw [hdr,Rh] at he
      refine ⟨t,_,rfl,SqT.of aj,rfl,_,_,rfl,_,_,rfl,rfl,?_⟩
      refine ⟨_,rfl,aO (s6 _ _ hp) T.dY T.nZ rfl ⟨_,rfl,wa,_,_,_,rfl,rfl,SqT.of (s6 _ _ hw),aK (j:=0) rfl rfl,?_⟩⟩
      refine ⟨ro,ys,p.1,rfl,⟨SqL.of (s6 _ _ hP.ros),hP.lg.same s6⟩,hO.len,fun x m=>Nat.le_of_lt (hO.val x m),fun H3 s7=> ?_⟩
      have s8:=s6.trans s7
      refine ⟨_,rfl,wa,_,_,_,rfl,rfl,SqT.of (s8 _ _ hw),aK (j:=1) rfl rfl,_,_,rfl,rfl,_,rfl,?_⟩
      by_cases hc:p.2 < Vbaham.worst (legs ys) p.1
      · rw [decide_eq_true (by omega)]
        rw [if_pos hc] at he
        refine bN ⟨_,rfl,?_⟩
        have q:=k _ s8
        unfold F5 num at q
        rw [he] at q
        exact q
      · rw [decide_eq_false (by omega)]
        rw [if_neg hc] at he
        exact bY ⟨_,_,rfl,s8,he⟩
    · rintro σ H2 ⟨v1,v2,rfl,s5,he⟩
      rw [List.length_map,hr4,List.drop_length] at he
      have q:=k _ s5
      unfold F5 num at q
      rw [he] at q
      exact q
abbrev jZ:Stmt:=top 29
theorem qI:aG ["plan", "run"] ["plan"] (aD jZ):=⟨rfl,rfl,rfl,by decide +kernel,rfl,by decide +kernel,by decide +kernel⟩
theorem Mj {R:Rules} {ys:List LG} {ds:List (Addr × List LG)} (hc:ds.map (·.2)=aQ R.gap ys) (ho:ys.Pairwise ordG) (hv:∀ y ∈ ys,y.g.dep < y.g.arr) :
  ((kh R ds).foldl j5 (0,0,-2)).1=(Vbaham.longestRun R (legs ys):Int):=by
 have eD:=Ds hc
 have e:kh R ds=(Vbaham.duties R.gap (legs ys)).map (nA R):=by
  rw [eD,List.map_map]
  rfl
 rw [e]
 refine Dh R (legs ys) (fun d m=> ?_) ?_
 ·rw [eD] at m
  obtain ⟨x,mx,rfl⟩:=List.mem_map.mp m
  have:=oG (R:=R) ho hv (wY hc mx)
  unfold nA
  simp only
  omega
 ·have h:=LR (gap:=R.gap) ho
  rw [<-hc,List.map_map,List.pairwise_map] at h
  rw [eD,List.map_map,List.pairwise_map]
  refine h.imp fun {a b} q=> ?_
  have q:Vbaham.firstDep (legs a.2)<=Vbaham.firstDep (legs b.2):=q
  show Vbaham.begins R (legs a.2) / 1440<=Vbaham.begins R (legs b.2) / 1440
  unfold Vbaham.begins
  omega
theorem Dc {f fl:Addr} {fd fdl:FuncData} (F:Fun K "overlong_run" "overlong_run" jZ f fd) (T:Txt w K mg C) (dW:FnI P w K mg base "longest_run" 1 fl fdl ["duties"] (jT K C)):aY P w K mg base CX0 2 f fd ["plan"] (oR K C F6):=by
 refine F.ok qI (fun vs H Q E h=> ?_) (fun cdv A outer s H vs Q E hr h=> ?_)
 ·obtain ⟨_,_,_,_,_,rfl,_⟩:=h
  rfl
 ·obtain ⟨a,R,b,ys,ds,rfl,⟨dx,r,ro,du,hp,hP⟩,hO,k⟩:=h
  refine ⟨_,(ao (bG 1 qI.nd (aH dW (hr.mono (by decide)) (aa (xf (pv 0)) aq)))
   (au (aJ (Mz (aV qJ (pv 1) (xf (xf (pv 0))) (bh _)) (pv 1) aB)))),?_⟩
  obtain ⟨rdx,rl,rww,rws,hr1,hr2⟩:=hP.rules
  refine ⟨_,rfl,aO hp T.dY T.tW rfl ⟨du,R,ds,rfl,hP.dut,fun d m=> ?_,?_⟩⟩
  ·have:=oG (R:=R) hO.ord hO.val (wY hP.cut m)
   omega
  rw [Mj hP.cut hO.ord hO.val]
  refine ⟨_,rfl,_,rfl,aO hp T.dY T.pN rfl (aO hr1 T.cY T.P0 rfl ⟨_,_,rfl,rfl,_,rfl,?_⟩)⟩
  have q:=k _ (aC.refl _)
  unfold F6 num Vbaham.wrongDays at q
  by_cases hc:R.days < Vbaham.longestRun R (legs ys)
  ·rw [decide_eq_true (by omega)]
   rw [if_pos hc] at q
   exact bN ⟨_,rfl,q⟩
  ·rw [decide_eq_false (by omega)]
   rw [if_neg hc] at q
   exact bY q
abbrev wJ:Stmt:=top 31
theorem jg:aG ["rules", "base", "legs", "plan", "kind", "finder", "number"] ["rules", "base", "legs"] (aD wJ):=⟨rfl,rfl,rfl,by decide +kernel,rfl,by decide +kernel,by decide +kernel⟩
def FdI (P:Program) (w:World) (K:PySem.W.Frag) (mg:Str->Option Value) (base:Heap) (C:Ads) (f:Addr) (F:Lk):Prop:=∃ fd,aY P w K mg base CX0 5 f fd ["plan"] (oR K C F)/\PySem.W.keepIn K (.ref f)=true/\Binds K fd ["plan"] []
def R0 (o:Option (Nat × Nat)):List V:=match o with
 | none=>[.int 0,.int 0]
 | some x=>[.int (x.1:Int),.int (x.2:Int)]
structure OkX (R:Rules) (xs:List LG):Prop where
 len:xs.length<=100
 val:∀ y ∈ xs,y.g.dep < y.g.arr
 lon:R.longest.length=8
 win:R.windows.length<=4
def lu (K:PySem.W.Frag) (C:Ads):Sp:=fun vs H Q _=>∃ (r l:Addr) (b:Nat) (R:Rules) (xs:List LG),vs=[.ref r,.int b,.ref l]/\f9 C H r R/\dD K C H l xs/\OkX R xs /\
 ∀ (H':Hp) (t:Addr) (ys:List LG),aC H H'->ys.Perm xs->ys.Pairwise ordG->H' t=some (.tup (R0 (Vbaham.fault R b (legs ys))))->Q (.ref t) H'
theorem M3 {f fp aF f1 f2 f3 f4 f5 f6:Addr} {fd fdp:FuncData} (F:Fun K "fault_of" "fault_of" wJ f fd) (T:Txt w K mg C) (Q7:MkI P w K mg base "Plan" C.vp 5 fp fdp ["self", "rules", "base", "legs"] (xG K C))
    (gF:mg "FINDERS" = some (.ref aF)) (hF:∀ H:Hp,SqT K H aF [.ref f1,.ref f2,.ref f3,.ref f4,.ref f5,.ref f6])
    (d1:FdI P w K mg base C f1 F1) (d2:FdI P w K mg base C f2 F2) (d3:FdI P w K mg base C f3 F3) (d4:FdI P w K mg base C f4 F4) (d5:FdI P w K mg base C f5 F5) (d6:FdI P w K mg base C f6 F6):aY P w K mg base CX0 7 f fd ["rules", "base", "legs"] (lu K C):=by
  refine F.ok jg (fun vs H Q E h=> ?_) (fun cdv A outer s H vs Q E hr h=> ?_)
  · obtain ⟨_,_,_,_,_,rfl,_⟩:=h
    rfl
  · obtain ⟨r,l,b,R,xs,rfl,hR,hL,hX,k⟩:=h
    refine ⟨_,(ao (bG 3 jg.nd (jj Q7 (hr.mono (by decide)) (aa (pv 0) (aa (pv 1) (aa (pv 2) aq)))))
      (ao (gq PassesOwn.never rfl (YB rfl T.d9 (aa (dz rfl gF) aq) (pL aB wN)) (wO rfl (bA (xg 4 jg.nd) (bA (xg 5 jg.nd) fY)))
        (ao (bG 6 jg.nd (MF (pv 5) (aa (pv 3) aq)))
        (au (cV (aV qJ (pv 6) aB (bh _))
          (au (aJ (z6 (aa (pv 4) (aa (pv 6) aq)))))
          bD))))
      (au (aJ (z6 (aa aB (aa aB aq))))))),?_⟩
    refine ⟨_,rfl,_,rfl,_,rfl,fun x dx nx nd nex=> ?_⟩
    have s0:aC H (upd (upd H dx (.own x)) x (.ins C.vp dx [])):=fun b o e=>by
      rw [ak (az e nx),ak (az e nd)]
      exact e
    refine ⟨x,dx,r,l,b,R,xs,rfl,aj,hR.same s0,hL.same s0,by have:=hX.len; omega,fun H1 ys ds hP sx hperm hord=>⟨rfl,?_⟩⟩
    have s1:aC H H1:=fun b o e=>sx b o (s0 b o e) (az e nx)
    have hO:OkG R ys:=⟨by rw [hperm.length_eq]; exact hX.len,fun y m=>hX.val y (hperm.mem_iff.mp m),hord,hX.lon,hX.win⟩
    refine ⟨aF,_,rfl,rfl,hF _,?_⟩
    have hfi:∀ (i:Nat) (v:V),([.ref f1,.ref f2,.ref f3,.ref f4,.ref f5,.ref f6]:List V)[i]? = some v->∃ g,v = .ref g/\FdI P w K mg base C g (Fs i):=fun i v hi=>by
      match i,hi with
      | 0,hi=>cases hi; exact ⟨f1,rfl,d1⟩
      | 1,hi=>cases hi; exact ⟨f2,rfl,d2⟩
      | 2,hi=>cases hi; exact ⟨f3,rfl,d3⟩
      | 3,hi=>cases hi; exact ⟨f4,rfl,d4⟩
      | 4,hi=>cases hi; exact ⟨f5,rfl,d5⟩
      | 5,hi=>cases hi; exact ⟨f6,rfl,d6⟩
      | _ + 6,hi=>simp at hi
    refine gw (wkS (sq:=fun H xs=>SqT K H aF xs) (xs:=[.ref f1,.ref f2,.ref f3,.ref f4,.ref f5,.ref f6])) (fun i σ H'=>∃ (v4 v5 v6:Option V),σ = [some (.ref r),some (.int b),some (.ref l),some (.ref x),v4,v5,v6]/\aC H1 H'/\∀ j,j < i->Fs j R b (legs ys)=none)
      ⟨none,none,none,rfl,aC.refl H1,fun j hj=>by omega⟩ (fun i σ H' _ _=>hF _) ?_ ?_
    · rintro i v σ H2 H3 hi ⟨v4,v5,v6,rfl,s5,he⟩ ⟨t,ps,rfl,ht,rfl,y,hy,rfl⟩
      obtain ⟨g,rfl,gfd,gok,gkp,gbd⟩:=hfi i y hy
      have s6:aC H1 (upd H2 t (.tup [.int ((i:Nat) + 1),.ref g])):=s5.trans (aC.upd ht)
      refine ⟨t,_,rfl,SqT.of aj,rfl,_,_,rfl,_,_,rfl,rfl,?_⟩
      refine ⟨_,rfl,g,CX0,5,gfd,["plan"],_,E0,rfl,gkp,gok,hr.mono (by decide),gbd,Eo,_,rfl,x,R,b,ys,ds,rfl,hP.same s6,hO,fun H4 s7=> ?_⟩
      have s8:=s6.trans s7
      refine ⟨_,rfl,_,_,rfl,rfl,_,rfl,?_⟩
      cases ef:Fs i R b (legs ys) with
      | none =>
        refine bY ⟨_,_,_,rfl,s8,fun j hj=> ?_⟩
        by_cases hji:j=i
        · rw [hji]; exact ef
        · exact he j (by omega)
      | some n =>
        have hn:=abM ef
        rw [decide_eq_true (show (0:Int) < (((some n:Option Nat).getD 0:Nat):Int) by show (0:Int) < (n:Int); omega)]
        refine bN ⟨_,rfl,_,rfl,(by show 2<=sizeLine; decide),fun q hq=> ?_⟩
        refine k _ q ys ((s1.trans s8).trans (aC.upd hq)) hperm hord ?_
        rw [aj,NZ he ef]
        have e:((i:Nat):Int) + 1=((i + 1:Nat):Int):=by omega
        rw [e]
        rfl
    · rintro σ H2 ⟨v4,v5,v6,rfl,s5,he⟩
      refine ⟨(by show 2<=sizeLine; decide),fun q hq=> ?_⟩
      refine k _ q ys ((s1.trans s5).trans (aC.upd hq)) hperm hord ?_
      rw [aj,Qx he]
      rfl
end
end Crew
namespace Crew
open Vbaham (Leg Rules Member State)
theorem j6 {α : Type} {le : α -> α -> Prop} (anti:∀ a b,le a b->le b a->a=b):∀ {l1 l2:List α},l1.Perm l2->l1.Pairwise le->l2.Pairwise le->l1=l2
 | [],l2,h,_,_=>by
  have:=h.length_eq
  exact (List.eq_nil_of_length_eq_zero this.symm).symm
 | a :: l1,[],h,_,_=>by
  have:=h.length_eq
  simp at this
 | a :: l1,b :: l2,h,h1,h2=>by
  rw [List.pairwise_cons] at h1 h2
  have e:a=b:=by
   have ma:a ∈ b :: l2:=h.mem_iff.mp (by simp)
   have mb:b ∈ a :: l1:=h.mem_iff.mpr (by simp)
   rcases List.mem_cons.mp ma with q | q
   ·exact q
   ·rcases List.mem_cons.mp mb with q2 | q2
    ·exact q2.symm
    ·exact anti _ _ (h1.1 b q2) (h2.1 a q)
  subst e
  rw [j6 anti (List.Perm.cons_inv h) h1.2 h2.2]
def Jm (s:State) (p:Nat):Nat:=((Vbaham.legAt s p).map fun x=>x.dep).getD 0
def leP (s:State) (p q:Nat):Prop:=Jm s p < Jm s q\/(Jm s p=Jm s q/\p<=q)
theorem Bs (s:State) (p q:Nat):Vbaham.earlier s p q=true ↔ leP s p q:=by
 unfold Vbaham.earlier leP Jm
 simp only [Bool.or_eq_true,decide_eq_true_eq,Bool.and_eq_true,beq_iff_eq]
theorem pP (s:State) (p:Nat):∀ l:List Nat,(Vbaham.insertP s p l).Perm (p :: l)
 | []=> .refl _
 | q :: r=>by
  unfold Vbaham.insertP
  split
  ·exact .refl _
  ·exact ((pP s p r).cons q).trans (.swap ..)
theorem rW (s:State):∀ l:List Nat,(Vbaham.sorted s l).Perm l
 | []=> .refl _
 | p :: l=>(pP s p _).trans ((rW s l).cons p)
theorem t8 (s:State) (p:Nat):∀ l:List Nat,l.Pairwise (leP s)->(Vbaham.insertP s p l).Pairwise (leP s)
 | [],_=>by simp [Vbaham.insertP]
 | q :: r,h=>by
  unfold Vbaham.insertP
  split
  ·rename_i hc
   have hpq:=(Bs s p q).mp hc
   rw [List.pairwise_cons]
   refine ⟨fun x hx=> ?_,h⟩
   rw [List.pairwise_cons] at h
   rcases List.mem_cons.mp hx with rfl | hx
   ·exact hpq
   ·have:=h.1 x hx
    unfold leP at *
    omega
  ·rename_i hc
   have hqp:leP s q p:=by
    have:¬ leP s p q:=fun z=>hc ((Bs s p q).mpr z)
    unfold leP at *
    omega
   rw [List.pairwise_cons] at h ⊢
   refine ⟨fun x hx=> ?_,t8 s p r h.2⟩
   rcases List.mem_cons.mp ((pP s p r).mem_iff.mp hx) with rfl | hx
   ·exact hqp
   ·exact h.1 x hx
theorem vI (s:State):∀ l:List Nat,(Vbaham.sorted s l).Pairwise (leP s)
 | []=>List.Pairwise.nil
 | p :: l=>t8 s p _ (vI s l)
structure Has (s:State) (id:Nat) (xs:List LG):Prop where
 prs:((s.pairs.filter fun x=>x.1 == id).map fun x=>x.2).Perm (xs.map (·.p))
 lg:∀ x ∈ xs,Vbaham.legAt s x.p=some x.g
theorem Im {s:State} {id:Nat} {xs ys:List LG} (h:Has s id xs) (hp:ys.Perm xs) (ho:ys.Pairwise ordG):Vbaham.roster s id=ys.map (·.p):=by
 have hl:∀ y ∈ ys,Vbaham.legAt s y.p=some y.g:=fun y m=>h.lg y (hp.mem_iff.mp m)
 refine j6 (le:=leP s) (fun a b h1 h2=>by unfold leP at *; omega) ?_ (vI s _) ?_
 ·exact (rW s _).trans (h.prs.trans (hp.symm.map _))
 ·rw [List.pairwise_map]
  refine List.Pairwise.imp_of_mem (fun {x y} mx my q=> ?_) ho
  unfold leP Jm
  rw [hl x mx,hl y my]
  unfold ordG at q
  exact q
theorem Fj {s:State}:∀ {ys:List LG},(∀ y ∈ ys,Vbaham.legAt s y.p=some y.g)->Vbaham.legsOf s (ys.map (·.p))=legs ys
 | [],_=>rfl
 | y :: ys,h=>by
  have ih:=Fj (s:=s) (ys:=ys) fun z m=>h z (by simp [m])
  unfold Vbaham.legsOf at ih ⊢
  rw [List.map_cons,List.filterMap_cons,h y (by simp),ih]
  rfl
theorem dO {s:State} {id:Nat} {xs ys:List LG} (h:Has s id xs) (hp:ys.Perm xs) (ho:ys.Pairwise ordG):Vbaham.legsOf s (Vbaham.roster s id)=legs ys:=by
 rw [Im h hp ho]
 exact Fj fun y m=>h.lg y (hp.mem_iff.mp m)
theorem iR {s:State} {m:Member} {xs ys:List LG} (h:Has s m.id xs) (hp:ys.Perm xs) (ho:ys.Pairwise ordG):Vbaham.faultOf s m=Vbaham.fault s.rules m.base (legs ys):=by
 unfold Vbaham.faultOf
 rw [dO h hp ho]
theorem Has.with {s:State} {id:Nat} {xs:List LG} {x:LG} (h:Has s id xs) (hx:Vbaham.legAt s x.p=some x.g):Has (Vbaham.withPair s id x.p) id (xs++[x]):=by
 refine ⟨?_,fun y m=> ?_⟩
 ·unfold Vbaham.withPair
  simp only [List.filter_append,List.map_append,List.filter_cons,beq_self_eq_true,if_true,List.filter_nil,List.map_cons,List.map_nil]
  exact h.prs.append_right _
 ·rcases List.mem_append.mp m with m | m
  ·exact h.lg y m
  ·have e:y=x:=by simpa using m
   rw [e]
   exact hx
theorem xx {l1 l2:List Nat} (h:l1.Perm l2):l1.sum=l2.sum:=by
 induction h with
 | nil=>rfl
 | cons a _ ih=>rw [List.sum_cons,List.sum_cons,ih]
 | swap a b l=>simp only [List.sum_cons]; omega
 | trans _ _ h1 h2=>exact h1.trans h2
def Qs (x:LG):List LG->List LG
 | []=>[x]
 | y :: r=>if x.g.dep < y.g.dep\/(x.g.dep=y.g.dep/\x.p<=y.p) then x :: y :: r else y :: Qs x r
theorem Am (x:LG):∀ l:List LG,(Qs x l).Perm (x :: l)
 | []=> .refl _
 | y :: r=>by
  unfold Qs
  split
  ·exact .refl _
  ·exact ((Am x r).cons y).trans (.swap ..)
theorem Bp (x:LG):∀ l:List LG,l.Pairwise ordG->(Qs x l).Pairwise ordG
 | [],_=>by simp [Qs]
 | y :: r,h=>by
  unfold Qs
  split
  ·rename_i hc
   rw [List.pairwise_cons]
   refine ⟨fun z hz=> ?_,h⟩
   rw [List.pairwise_cons] at h
   rcases List.mem_cons.mp hz with rfl | hz
   ·exact hc
   ·have:=h.1 z hz
    unfold ordG at *
    omega
  ·rename_i hc
   rw [List.pairwise_cons] at h ⊢
   refine ⟨fun z hz=> ?_,Bp x r h.2⟩
   rcases List.mem_cons.mp ((Am x r).mem_iff.mp hz) with rfl | hz
   ·unfold ordG
    omega
   ·exact h.1 z hz
theorem Bj (xs:List LG):∃ ys:List LG,ys.Perm xs/\ys.Pairwise ordG:=by
 induction xs with
 | nil=>exact ⟨[],.refl _,.nil⟩
 | cons x xs ih =>
  obtain ⟨ys,p,o⟩:=ih
  exact ⟨Qs x ys,(Am x ys).trans (p.cons x),Bp x ys o⟩
theorem total_of {s:State} {id:Nat} {xs:List LG} (h:Has s id xs):Vbaham.total s id=vy xs:=by
 obtain ⟨ys,hp,ho⟩:=Bj xs
 unfold Vbaham.total vy
 rw [dO h hp ho]
 exact xx ((hp.map (·.g)).map _)
theorem pR {s:State} {id:Nat} {xs:List LG} (h:Has s id xs) (p:Nat):(id,p) ∈ s.pairs ↔ p ∈ xs.map (·.p):=by
 rw [<-h.prs.mem_iff,List.mem_map]
 constructor
 ·intro m
  exact ⟨(id,p),List.mem_filter.mpr ⟨m,by simp⟩,rfl⟩
 ·rintro ⟨⟨i,q⟩,m,e⟩
  obtain ⟨m1,m2⟩:=List.mem_filter.mp m
  have e1:i=id:=by simpa using m2
  have e2:q=p:=e
  rw [<-e1,<-e2]
  exact m1
structure MB where
 a:Nat
 la:Nat
 m:Member
 xs:List LG
structure Rel (S:State) (R:Rules) (Lg:List LG) (Ms:List MB):Prop where
 rules:S.rules=R
 legs:S.legs=legs Lg
 plc:∀ (i:Nat) (x:LG),Lg[i]? = some x->x.p=i + 1
 mem:S.members=Ms.map (·.m)
 ids:(Ms.map fun M=>M.m.id).Nodup
 prs:∀ M ∈ Ms,((S.pairs.filter fun x=>x.1 == M.m.id).map fun x=>x.2).Perm (M.xs.map (·.p))
 sub:∀ M ∈ Ms,∀ x ∈ M.xs,x ∈ Lg
 ndx:∀ M ∈ Ms,(M.xs.map (·.p)).Nodup
 known:∀ pr ∈ S.pairs,∃ M ∈ Ms,M.m.id=pr.1
section
variable {S:State} {R:Rules} {Lg:List LG} {Ms:List MB}
theorem Rel.legAt (h:Rel S R Lg Ms) {x:LG} (m:x ∈ Lg):Vbaham.legAt S x.p=some x.g:=by
 obtain ⟨i,hi,e⟩:=List.mem_iff_getElem.mp m
 have e1:Lg[i]? = some x:=by rw [List.getElem?_eq_getElem hi,e]
 have:=h.plc i x e1
 unfold Vbaham.legAt
 rw [if_neg (by omega),h.legs,this]
 show (Crew.legs Lg)[i + 1 - 1]? = _
 unfold Crew.legs
 rw [List.getElem?_map,show i + 1 - 1=i by omega,e1]
 rfl
theorem Rel.Wo (h:Rel S R Lg Ms) {p:Nat} (hp:0 < p):Vbaham.legAt S p=(Lg[p - 1]?).map (·.g):=by
 unfold Vbaham.legAt
 rw [if_neg (by omega),h.legs]
 unfold Crew.legs
 rw [List.getElem?_map]
theorem Rel.has (h:Rel S R Lg Ms) {M:MB} (m:M ∈ Ms):Has S M.m.id M.xs:=⟨h.prs M m,fun x mx=>h.legAt (h.sub M m x mx)⟩
theorem Bq {id:Nat}:∀ (Ms:List MB),(Ms.map (·.m)).find? (fun m=>m.id == id)=(Ms.find? fun M=>M.m.id == id).map (·.m)
 | []=>rfl
 | M :: Ms=>by
  rw [List.map_cons,List.find?_cons,List.find?_cons]
  split
  ·rfl
  ·exact Bq Ms
theorem Rel.memberOf (h:Rel S R Lg Ms) (id:Nat):Vbaham.memberOf S id=(Ms.find? fun M=>M.m.id == id).map (·.m):=by
 unfold Vbaham.memberOf
 rw [h.mem]
 exact Bq Ms
theorem gG {M:MB}:∀ {Ms:List MB},(Ms.map fun M=>M.m.id).Nodup->M ∈ Ms->Ms.find? (fun N=>N.m.id == M.m.id)=some M
 | [],_,m=>by cases m
 | N :: Ms,nd,m=>by
  rw [List.map_cons,List.nodup_cons] at nd
  rw [List.find?_cons]
  by_cases e:N.m.id=M.m.id
  ·rw [show (N.m.id == M.m.id)=true by simp [e]]
   rcases List.mem_cons.mp m with rfl | m
   ·rfl
   ·exact absurd (List.mem_map.mpr ⟨M,m,rfl⟩:M.m.id ∈ Ms.map fun M=>M.m.id) (by rw [<-e]; exact nd.1)
  ·rw [show (N.m.id == M.m.id)=false by simp [e]]
   rcases List.mem_cons.mp m with rfl | m
   ·exact absurd rfl e
   ·exact gG nd.2 m
theorem Rel.pO (h:Rel S R Lg Ms) {M:MB} (m:M ∈ Ms):Vbaham.memberOf S M.m.id=some M.m:=by
 rw [h.memberOf,gG h.ids m]
 rfl
theorem We {i:Nat} {b:Bool}:∀ {Ms:List MB},(Ms.map fun M=>M.m.id).Nodup->(∃ M ∈ Ms,M.m.id=i)->(Ms.map fun M=>if b && i == M.m.id then 1 else 0).sum=if b then 1 else 0
 | [],_,⟨M,m,_⟩=>by cases m
 | N :: Ms,nd,hM=>by
  rw [List.map_cons,List.nodup_cons] at nd
  rw [List.map_cons,List.sum_cons]
  have zero:(¬ ∃ M ∈ Ms,M.m.id=i)->(Ms.map fun M=>if b && i == M.m.id then 1 else 0).sum=0:=fun q=>by
   have key:∀ (L:List MB),(¬ ∃ M ∈ L,M.m.id=i)->(L.map fun M=>if b && i == M.m.id then 1 else 0).sum=0:=fun L=>by
    induction L with
    | nil=>intro _; rfl
    | cons a L ih =>
     intro q
     rw [List.map_cons,List.sum_cons,ih fun ⟨M,m,e⟩=>q ⟨M,by simp [m],e⟩]
     have e:(i == a.m.id)=false:=by
      rw [beq_eq_false_iff_ne]
      exact fun z=>q ⟨a,by simp,z.symm⟩
     rw [e,Bool.and_false]
     rfl
   exact key Ms q
  by_cases e:N.m.id=i
  ·rw [zero fun ⟨M,m,q⟩=>nd.1 (by rw [e,<-q]; exact List.mem_map.mpr ⟨M,m,rfl⟩),e,beq_self_eq_true,Bool.and_true,Nat.add_zero]
  ·have e2:(i == N.m.id)=false:=by
    rw [beq_eq_false_iff_ne]
    exact fun z=>e z.symm
   rw [e2,Bool.and_false]
   have:∃ M ∈ Ms,M.m.id=i:=by
    obtain ⟨M,m,q⟩:=hM
    rcases List.mem_cons.mp m with rfl | m
    ·exact absurd q e
    ·exact ⟨M,m,q⟩
   have:=We (b:=b) nd.2 this
   simp only [Bool.false_eq_true,if_false]
   omega
theorem Rt (f g:MB->Nat):∀ L:List MB,(L.map fun M=>f M + g M).sum=(L.map f).sum + (L.map g).sum
 | []=>rfl
 | M :: L=>by
  rw [List.map_cons,List.map_cons,List.map_cons,List.sum_cons,List.sum_cons,List.sum_cons,Rt f g L]
  omega
theorem Ox {f:Nat × Nat->Bool} (nd:(Ms.map fun M=>M.m.id).Nodup):∀ (ps:List (Nat × Nat)),(∀ x ∈ ps,∃ M ∈ Ms,M.m.id=x.1)->(ps.filter f).length=(Ms.map fun M=>(ps.filter fun x=>f x && x.1 == M.m.id).length).sum
 | [],_=>by
  have:∀ L:List MB,(L.map fun M=>0).sum=0:=fun L=>by
   induction L with
   | nil=>rfl
   | cons a L ih=>rw [List.map_cons,List.sum_cons,ih]
  simp only [List.filter_nil,List.length_nil]
  exact (this Ms).symm
 | x :: ps,h=>by
  have ih:=Ox (f:=f) nd ps fun y m=>h y (by simp [m])
  have e1:((x :: ps).filter f).length=(if f x then 1 else 0) + (ps.filter f).length:=by
   rw [List.filter_cons]
   split
   ·rw [List.length_cons]; omega
   ·omega
  have e2:∀ M:MB,((x :: ps).filter fun y=>f y && y.1 == M.m.id).length=(if f x && x.1 == M.m.id then 1 else 0) + (ps.filter fun y=>f y && y.1 == M.m.id).length:=fun M=>by
   rw [List.filter_cons]
   split
   ·rw [List.length_cons]; omega
   ·omega
  rw [e1,ih]
  simp only [e2]
  rw [Rt,We nd (h x (by simp))]
theorem Cg {p:Nat}:∀ {l:List Nat},l.Nodup->(l.filter fun q=>q == p).length=if p ∈ l then 1 else 0
 | [],_=>rfl
 | a :: l,nd=>by
  rw [List.nodup_cons] at nd
  rw [List.filter_cons]
  have ih:=Cg (p:=p) nd.2
  by_cases e:a=p
  ·subst e
   rw [if_pos (by simp),List.length_cons,ih,if_neg nd.1,if_pos (by simp)]
  ·rw [if_neg (by simpa using e),ih]
   have:(p ∈ a :: l) ↔ p ∈ l:=by
    rw [List.mem_cons]
    exact ⟨fun q=>q.resolve_left fun z=>e z.symm,.inr⟩
   simp only [this]
theorem rO (g:MB->Bool):∀ L:List MB,(L.map fun M=>if g M then 1 else 0).sum=(L.filter g).length
 | []=>rfl
 | M :: L=>by
  rw [List.map_cons,List.sum_cons,rO g L,List.filter_cons]
  split
  ·rw [List.length_cons]; omega
  ·omega
def aah (Ms:List MB) (p rank:Nat):List MB:=Ms.filter fun M=>M.m.rank == rank && decide (p ∈ M.xs.map (·.p))
theorem Rel.crew (h:Rel S R Lg Ms) (p rank:Nat):Vbaham.crewOf S p rank=(aah Ms p rank).length:=by
 unfold Vbaham.crewOf aah
 rw [Ox h.ids S.pairs h.known,<-rO]
 congr 1
 refine List.map_congr_left fun M mM=> ?_
 have hm:=h.pO mM
 have e1:(S.pairs.filter fun x=>(x.2 == p && ((Vbaham.memberOf S x.1).any fun m=>m.rank == rank)) && x.1 == M.m.id)=(S.pairs.filter fun x=>x.1 == M.m.id && (M.m.rank == rank && x.2 == p)):=by
  refine List.filter_congr fun x mx=> ?_
  by_cases e:x.1=M.m.id
  ·rw [e,hm]
   simp only [Option.any_some,beq_self_eq_true,Bool.and_true,Bool.true_and]
   exact Bool.and_comm _ _
  ·have:(x.1 == M.m.id)=false:=by simpa using e
   rw [this,Bool.and_false,Bool.false_and]
 rw [e1]
 by_cases hr:M.m.rank=rank
 ·have er:(M.m.rank == rank)=true:=by simpa using hr
  simp only [er,Bool.true_and]
  have e2:(S.pairs.filter fun x=>x.1 == M.m.id && x.2 == p).length=(((S.pairs.filter fun x=>x.1 == M.m.id).map fun x=>x.2).filter fun q=>q == p).length:=by
   rw [List.filter_map,List.length_map,List.filter_filter]
   congr 1
   refine List.filter_congr fun x _=> ?_
   exact Bool.and_comm _ _
  rw [e2,((h.prs M mM).filter _).length_eq,Cg (h.ndx M mM)]
  simp
 ·have er:(M.m.rank == rank)=false:=by simpa using hr
  simp only [er,Bool.false_and,Bool.and_false,Bool.false_eq_true,if_false]
  have:∀ L:List (Nat × Nat),(L.filter fun _=>false).length=0:=fun L=>by induction L with
   | nil=>rfl
   | cons a L ih=>rw [List.filter_cons]; exact ih
  exact this _
end
section
variable {S:State} {R:Rules} {Lg:List LG} {Ms:List MB}
theorem m7 (f:Member->Bool):∀ (Ms:List MB),(Ms.map (·.m)).filter f=(Ms.filter fun M=>f M.m).map (·.m)
 | []=>rfl
 | M :: Ms=>by
  rw [List.map_cons,List.filter_cons,List.filter_cons,m7 f Ms]
  split <;> rfl
theorem Rel.faulty (h:Rel S R Lg Ms):Vbaham.faulty S=(Ms.filter fun M=>(Vbaham.faultOf S M.m).isSome).map fun M=>M.m.id:=by
 unfold Vbaham.faulty
 rw [h.mem,m7,List.map_map]
 rfl
def leI (S:State) (i j:Nat):Prop:=Vbaham.total S i < Vbaham.total S j\/(Vbaham.total S i=Vbaham.total S j/\i<=j)
theorem pQ (S:State) (m:Member):∀ l:List Member,(Vbaham.insertM S m l).Perm (m :: l)
 | []=> .refl _
 | n :: r=>by
  unfold Vbaham.insertM
  split
  ·exact .refl _
  ·exact ((pQ S m r).cons n).trans (.swap ..)
theorem uc (S:State) (m:Member):∀ l:List Member,l.Pairwise (fun a b=>leI S a.id b.id)->(Vbaham.insertM S m l).Pairwise (fun a b=>leI S a.id b.id)
 | [],_=>by simp [Vbaham.insertM]
 | n :: r,h=>by
  unfold Vbaham.insertM
  split
  ·rename_i hc
   rw [List.pairwise_cons]
   refine ⟨fun z hz=> ?_,h⟩
   rw [List.pairwise_cons] at h
   rcases List.mem_cons.mp hz with rfl | hz
   ·exact hc
   ·have:=h.1 z hz
    unfold leI at *
    omega
  ·rename_i hc
   rw [List.pairwise_cons] at h ⊢
   refine ⟨fun z hz=> ?_,uc S m r h.2⟩
   rcases List.mem_cons.mp ((pQ S m r).mem_iff.mp hz) with rfl | hz
   ·unfold leI
    omega
   ·exact h.1 z hz
theorem WK (S:State):∀ l:List Member,(l.foldr (Vbaham.insertM S) []).Perm l/\(l.foldr (Vbaham.insertM S) []).Pairwise (fun a b=>leI S a.id b.id)
 | []=>⟨.refl _,.nil⟩
 | m :: l=>by
  obtain ⟨h1,h2⟩:=WK S l
  exact ⟨(pQ S m _).trans (h1.cons m),uc S m _ h2⟩
def V6 (M N:MB):Prop:=vy M.xs < vy N.xs\/(vy M.xs=vy N.xs/\M.m.id<=N.m.id)
theorem Rel.fitting (h:Rel S R Lg Ms) (p rank:Nat) {g:MB->Bool} {qs:List MB} (hg:∀ M ∈ Ms,g M=(M.m.rank == rank && Vbaham.could S M.m p)) (hq:qs.Perm (Ms.filter g)) (ho:qs.Pairwise V6) :
  (Vbaham.fitting S p rank).map (fun m=>m.id)=qs.map fun M=>M.m.id:=by
 obtain ⟨h1,h2⟩:=WK S (S.members.filter fun m=>m.rank == rank && Vbaham.could S m p)
 refine j6 (le:=leI S) (fun a b q1 q2=>by unfold leI at *; omega) ?_ ?_ ?_
 ·unfold Vbaham.fitting
  refine (h1.map _).trans ?_
  rw [h.mem,m7,List.map_map]
  have e:(Ms.filter fun M=>M.m.rank == rank && Vbaham.could S M.m p)=Ms.filter g:=List.filter_congr fun M m=>(hg M m).symm
  rw [e]
  exact (hq.map fun M=>M.m.id).symm
 ·unfold Vbaham.fitting
  rw [List.pairwise_map]
  exact h2
 ·rw [List.pairwise_map]
  refine List.Pairwise.imp_of_mem (fun {M N} mM mN q=> ?_) ho
  have tM:=total_of (h.has (List.mem_filter.mp (hq.mem_iff.mp mM)).1)
  have tN:=total_of (h.has (List.mem_filter.mp (hq.mem_iff.mp mN)).1)
  unfold leI
  rw [tM,tN]
  exact q
theorem Rel.could (h:Rel S R Lg Ms) {M:MB} (mM:M ∈ Ms) {x:LG} (mx:x ∈ Lg) {ys:List LG} (hp:ys.Perm (M.xs++[x])) (ho:ys.Pairwise ordG) :
  Vbaham.could S M.m x.p=(!decide (x.p ∈ M.xs.map (·.p)) && (Vbaham.fault R M.m.base (Crew.legs ys)).isNone):=by
 unfold Vbaham.could
 have e1:S.pairs.contains (M.m.id,x.p)=decide (x.p ∈ M.xs.map (·.p)):=by
  rw [List.contains_eq_mem]
  exact decide_eq_decide.mpr (pR (h.has mM) x.p)
 have e2:=iR (s:=Vbaham.withPair S M.m.id x.p) (m:=M.m) ((h.has mM).with (h.legAt mx)) hp ho
 rw [e1,e2]
 show _=(_ && (Vbaham.fault R _ _).isNone)
 rw [<-h.rules]
 rfl
theorem Rel.start:Rel Vbaham.start Vbaham.start.rules [] [] where
 rules:=rfl
 legs:=rfl
 plc:=fun i x e=>by simp at e
 mem:=rfl
 ids:= .nil
 prs:=fun M m=>by cases m
 sub:=fun M m=>by cases m
 ndx:=fun M m=>by cases m
 known:=fun x m=>by cases m
theorem Rel.Ea (h:Rel S R Lg Ms) (r:Rules):Rel { S with rules:=r } r Lg Ms:=⟨rfl,h.legs,h.plc,h.mem,h.ids,h.prs,h.sub,h.ndx,h.known⟩
theorem Rel.Q3 (h:Rel S R Lg Ms) {x:LG} (hx:x.p=Lg.length + 1):Rel { S with legs:=S.legs++[x.g] } R (Lg++[x]) Ms:=by
 refine ⟨h.rules,?_,fun i y e=> ?_,h.mem,h.ids,h.prs,fun M m z mz=>List.mem_append_left _ (h.sub M m z mz),h.ndx,h.known⟩
 ·show S.legs++[x.g]=Crew.legs (Lg++[x])
  rw [h.legs]
  unfold Crew.legs
  rw [List.map_append]
  rfl
 ·by_cases hi:i < Lg.length
  ·rw [List.getElem?_append_left hi] at e
   exact h.plc i y e
  ·have hl:=(List.getElem?_eq_some_iff.mp e).1
   simp at hl
   have ei:i=Lg.length:=by omega
   subst ei
   rw [List.getElem?_append_right (Nat.le_refl _)] at e
   simp at e
   rw [<-e]
   exact hx
theorem Rel.Bb (h:Rel S R Lg Ms) {a la:Nat} {m:Member} (hn:m.id ∉ Ms.map fun M=>M.m.id):Rel { S with members:=S.members++[m] } R Lg (Ms++[⟨a,la,m,[]⟩]):=by
 have new:∀ M ∈ Ms++[(⟨a,la,m,[]⟩:MB)],M ∈ Ms\/M=⟨a,la,m,[]⟩:=fun M mm=>by
  rcases List.mem_append.mp mm with q | q
  ·exact .inl q
  ·exact .inr (by simpa using q)
 refine ⟨h.rules,h.legs,h.plc,?_,?_,fun M mm=> ?_,fun M mm=> ?_,fun M mm=> ?_,fun x mx=> ?_⟩
 ·show S.members++[m]=_
  rw [h.mem,List.map_append]
  rfl
 ·rw [List.map_append,List.nodup_append]
  exact ⟨h.ids,by simp,fun i hi j hj=>by
   have e:j=m.id:=by simpa using hj
   rw [e]
   exact fun q=>hn (q ▸ hi)⟩
 ·rcases new M mm with q | rfl
  ·exact h.prs M q
  ·have:(S.pairs.filter fun x=>x.1 == m.id)=[]:=by
    rw [List.filter_eq_nil_iff]
    intro x mx
    obtain ⟨N,mN,e⟩:=h.known x mx
    simp only [beq_iff_eq]
    exact fun z=>hn (by rw [<-z,<-e]; exact List.mem_map.mpr ⟨N,mN,rfl⟩)
   show ((S.pairs.filter fun x=>x.1 == m.id).map fun x=>x.2).Perm []
   rw [this]
   exact .refl _
 ·rcases new M mm with q | rfl
  ·exact h.sub M q
  ·intro x hx
   cases hx
 ·rcases new M mm with q | rfl
  ·exact h.ndx M q
  ·exact .nil
 ·obtain ⟨N,mN,e⟩:=h.known x mx
  exact ⟨N,List.mem_append_left _ mN,e⟩
def bV (f:MB->List LG) (Ms:List MB):List MB:=Ms.map fun M=>{ M with xs:=f M }
theorem Rel.bV (h:Rel S R Lg Ms) {ps:List (Nat × Nat)} {f:MB->List LG} (h1:∀ M ∈ Ms,((ps.filter fun x=>x.1 == M.m.id).map fun x=>x.2).Perm ((f M).map (·.p))) (h2:∀ M ∈ Ms,∀ x ∈ f M,x ∈ Lg)
  (h3:∀ M ∈ Ms,((f M).map (·.p)).Nodup) (h4:∀ x ∈ ps,∃ M ∈ Ms,M.m.id=x.1):Rel { S with pairs:=ps } R Lg (bV f Ms):=by
 have back:∀ M ∈ Crew.bV f Ms,∃ N ∈ Ms,M={ N with xs:=f N }:=fun M m=>by
  obtain ⟨N,mN,e⟩:=List.mem_map.mp m
  exact ⟨N,mN,e.symm⟩
 refine ⟨h.rules,h.legs,h.plc,?_,?_,fun M m=> ?_,fun M m=> ?_,fun M m=> ?_,fun x mx=> ?_⟩
 ·show S.members=_
  unfold Crew.bV
  rw [h.mem,List.map_map]
  rfl
 ·unfold Crew.bV
  rw [List.map_map]
  exact h.ids
 ·obtain ⟨N,mN,rfl⟩:=back M m
  exact h1 N mN
 ·obtain ⟨N,mN,rfl⟩:=back M m
  exact h2 N mN
 ·obtain ⟨N,mN,rfl⟩:=back M m
  exact h3 N mN
 ·obtain ⟨N,mN,e⟩:=h4 x mx
  exact ⟨_,List.mem_map.mpr ⟨N,mN,rfl⟩,e⟩
theorem Rel.assign (h:Rel S R Lg Ms) {M:MB} (mM:M ∈ Ms) {x:LG} (mx:x ∈ Lg) (hn:x.p ∉ M.xs.map (·.p)) :
  Rel (Vbaham.withPair S M.m.id x.p) R Lg (Crew.bV (fun N=>if N.m.id=M.m.id then N.xs++[x] else N.xs) Ms):=by
 have same:∀ N ∈ Ms,N.m.id=M.m.id->N=M:=fun N mN e=>by
  have a:=gG h.ids mN
  have b:=gG h.ids mM
  rw [e,b] at a
  exact (Option.some.inj a).symm
 refine h.bV (fun N mN=> ?_) (fun N mN y my=> ?_) (fun N mN=> ?_) (fun y my=> ?_)
 ·rw [List.filter_append,List.map_append]
  by_cases e:N.m.id=M.m.id
  ·rw [if_pos e,List.map_append]
   rw [show ([(M.m.id,x.p)]:List (Nat × Nat)).filter (fun y=>y.1 == N.m.id)=[(M.m.id,x.p)] by simp [e]]
   exact (h.prs N mN).append_right _
  ·rw [if_neg e]
   rw [show ([(M.m.id,x.p)]:List (Nat × Nat)).filter (fun y=>y.1 == N.m.id)=[] by simp [Ne.symm e]]
   rw [List.map_nil,List.append_nil]
   exact h.prs N mN
 ·by_cases e:N.m.id=M.m.id
  ·rw [if_pos e] at my
   rcases List.mem_append.mp my with q | q
   ·exact h.sub N mN y q
   ·have:y=x:=by simpa using q
    rw [this]
    exact mx
  ·rw [if_neg e] at my
   exact h.sub N mN y my
 ·by_cases e:N.m.id=M.m.id
  ·rw [if_pos e,List.map_append,List.nodup_append]
   refine ⟨h.ndx N mN,by simp,fun i hi j hj=> ?_⟩
   have ej:j=x.p:=by simpa using hj
   rw [ej]
   rw [same N mN e] at hi
   exact fun q=>hn (q ▸ hi)
  ·rw [if_neg e]
   exact h.ndx N mN
 ·rcases List.mem_append.mp my with q | q
  ·exact h.known y q
  ·have:y=(M.m.id,x.p):=by simpa using q
   rw [this]
   exact ⟨M,mM,rfl⟩
end
theorem yu {p:Nat}:∀ {l:List Nat} {j:Nat},l.Nodup->l[j]? = some p->l.filter (fun q=>q != p)=l.eraseIdx j
 | [],_,_,h=>by simp at h
 | a :: l,0,nd,h=>by
  have e:a=p:=by simpa using h
  subst e
  rw [List.nodup_cons] at nd
  rw [List.filter_cons,if_neg (by simp),List.eraseIdx_cons_zero]
  rw [List.filter_eq_self]
  intro q mq
  simp only [bne_iff_ne,ne_eq]
  exact fun z=>nd.1 (z ▸ mq)
 | a :: l,j + 1,nd,h=>by
  rw [List.nodup_cons] at nd
  have hj:l[j]? = some p:=by simpa using h
  have:a ≠ p:=fun z=>nd.1 (z ▸ List.mem_of_getElem? hj)
  rw [List.filter_cons,if_pos (by simpa using this),List.eraseIdx_cons_succ,yu nd.2 hj]
theorem La {α β : Type} (f : α -> β):∀ (l:List α) (j:Nat),(l.map f).eraseIdx j=(l.eraseIdx j).map f
 | [],j=>by simp
 | a :: l,0=>by simp
 | a :: l,j + 1=>by simp [La f l j]
theorem Ji {α : Type} {p q : α -> Bool}:∀ (l:List α),(∀ x ∈ l,¬ (p x=true/\q x=true))->(l.filter fun x=>p x || q x).Perm (l.filter p++l.filter q)
 | [],_=> .refl _
 | a :: l,h=>by
  have ih:=Ji (p:=p) (q:=q) l fun x m=>h x (by simp [m])
  have ha:=h a (by simp)
  rw [List.filter_cons,List.filter_cons,List.filter_cons]
  cases hp:p a with
  | true =>
   cases hq:q a with
   | true=>exact absurd ⟨hp,hq⟩ ha
   | false =>
    simp only [Bool.or_false,if_true,Bool.false_eq_true,if_false,List.cons_append]
    exact ih.cons a
  | false =>
   cases hq:q a with
   | true =>
    simp only [Bool.or_true,if_true,Bool.false_eq_true,if_false]
    exact (ih.cons a).trans List.perm_middle.symm
   | false =>
    simp only [Bool.or_false,Bool.false_eq_true,if_false]
    exact ih
section
variable {S:State} {R:Rules} {Lg:List LG} {Ms:List MB}
theorem Rel.CQ (h:Rel S R Lg Ms) {M N:MB} (mM:M ∈ Ms) (mN:N ∈ Ms) (e:N.m.id=M.m.id):N=M:=by
 have a:=gG h.ids mN
 have b:=gG h.ids mM
 rw [e,b] at a
 exact (Option.some.inj a).symm
theorem Rel.unassign (h:Rel S R Lg Ms) {M:MB} (mM:M ∈ Ms) {x:LG} {j:Nat} (hj:M.xs[j]? = some x) :
  Rel { S with pairs:=S.pairs.filter fun y=>y != (M.m.id,x.p) } R Lg (Crew.bV (fun N=>if N.m.id=M.m.id then N.xs.eraseIdx j else N.xs) Ms):=by
 refine h.bV (fun N mN=> ?_) (fun N mN y my=> ?_) (fun N mN=> ?_) (fun y my=> ?_)
 ·by_cases e:N.m.id=M.m.id
  ·have eN:=h.CQ mM mN e
   subst eN
   rw [if_pos rfl,<-La,<-yu (p:=x.p) (h.ndx N mN) (by rw [List.getElem?_map,hj]; rfl)]
   refine List.Perm.trans (List.Perm.of_eq ?_) ((h.prs N mN).filter _)
   rw [List.filter_map,List.filter_filter,List.filter_filter]
   congr 1
   refine List.filter_congr fun y _=> ?_
   obtain ⟨y1,y2⟩:=y
   by_cases e1:y1=N.m.id
   ·subst e1
    simp only [beq_self_eq_true,Bool.true_and,Bool.and_true,Function.comp]
    by_cases e2:y2=x.p
    ·subst e2; simp
    ·have:((N.m.id,y2) != (N.m.id,x.p))=true:=by simp [e2]
     rw [this]
     simp [e2]
   ·have:(y1 == N.m.id)=false:=by simpa using e1
    simp only [this,Bool.false_and,Bool.and_false]
  ·rw [if_neg e]
   refine List.Perm.trans (List.Perm.of_eq ?_) (h.prs N mN)
   rw [List.filter_filter]
   congr 1
   refine List.filter_congr fun y _=> ?_
   obtain ⟨y1,y2⟩:=y
   by_cases e1:y1=N.m.id
   ·subst e1
    have:((N.m.id,y2) != (M.m.id,x.p))=true:=by simp [e]
    rw [this]
    simp
   ·have:(y1 == N.m.id)=false:=by simpa using e1
    simp only [this,Bool.false_and]
 ·split at my
  ·exact h.sub N mN y (List.mem_of_mem_eraseIdx my)
  ·exact h.sub N mN y my
 ·split
  ·rw [<-La]
   exact (h.ndx N mN).sublist (List.eraseIdx_sublist ..)
  ·exact h.ndx N mN
 ·exact h.known y (List.mem_filter.mp my).1
def iM (t:Nat) (xs ys:List LG):List LG:=(xs.filter fun x=>decide (x.g.dep < t))++ys.filter fun y=>decide (t<=y.g.dep)
def iu (S:State) (t p:Nat):Bool:=(Vbaham.legAt S p).any fun l=>decide (t<=l.dep)
theorem TX {t:Nat} {id:Nat} {xs:List LG} (h:Has S id xs):((S.pairs.filter fun x=>x.1 == id && iu S t x.2).map fun x=>x.2).Perm ((xs.filter fun y=>decide (t<=y.g.dep)).map (·.p)):=by
 have e1:((S.pairs.filter fun x=>x.1 == id && iu S t x.2).map fun x=>x.2)=(((S.pairs.filter fun x=>x.1 == id).map fun x=>x.2).filter fun p=>iu S t p):=by
  rw [List.filter_map,List.filter_filter]
  congr 1
  exact List.filter_congr fun x _=>Bool.and_comm _ _
 have e2:((xs.filter fun y=>decide (t<=y.g.dep)).map (·.p))=((xs.map (·.p)).filter fun p=>iu S t p):=by
  rw [List.filter_map]
  congr 1
  refine List.filter_congr fun y my=> ?_
  show _=iu S t y.p
  unfold iu
  rw [h.lg y my]
  rfl
 rw [e1,e2]
 exact h.prs.filter _
theorem Qe {t:Nat} {id:Nat} {xs:List LG} (h:Has S id xs):((S.pairs.filter fun x=>x.1 == id && !iu S t x.2).map fun x=>x.2).Perm ((xs.filter fun y=>decide (y.g.dep < t)).map (·.p)):=by
 have e1:((S.pairs.filter fun x=>x.1 == id && !iu S t x.2).map fun x=>x.2)=(((S.pairs.filter fun x=>x.1 == id).map fun x=>x.2).filter fun p => !iu S t p):=by
  rw [List.filter_map,List.filter_filter]
  congr 1
  exact List.filter_congr fun x _=>Bool.and_comm _ _
 have e2:((xs.filter fun y=>decide (y.g.dep < t)).map (·.p))=((xs.map (·.p)).filter fun p => !iu S t p):=by
  rw [List.filter_map]
  congr 1
  refine List.filter_congr fun y my=> ?_
  show _ = !iu S t y.p
  unfold iu
  rw [h.lg y my]
  show decide (y.g.dep < t) = !decide (t<=y.g.dep)
  by_cases q:y.g.dep < t
  ·rw [decide_eq_true q,decide_eq_false (by omega)]; rfl
  ·rw [decide_eq_false q,decide_eq_true (by omega)]; rfl
 rw [e1,e2]
 exact h.prs.filter _
def swF (S:State) (a b t:Nat) (x:Nat × Nat):Nat × Nat:=if iu S t x.2=true then (if x.1=a then (b,x.2) else if x.1=b then (a,x.2) else x) else x
theorem PJ (a b t:Nat):Vbaham.swapped S a b t={ S with pairs:=S.pairs.map (swF S a b t) }:=rfl
theorem Yj (a b t:Nat) (x:Nat × Nat):(swF S a b t x).2=x.2:=by
 unfold swF
 split
 ·split
  ·rfl
  ·split <;> rfl
 ·rfl
theorem zT {a b t i:Nat} (P:Nat × Nat->Bool) (hP:∀ x,((swF S a b t x).1 == i)=P x):(((S.pairs.map (swF S a b t)).filter fun x=>x.1 == i).map fun x=>x.2)=(S.pairs.filter P).map fun x=>x.2:=by
 rw [List.filter_map,List.map_map]
 have e:(S.pairs.filter ((fun x=>x.1 == i) ∘ swF S a b t))=S.pairs.filter P:=List.filter_congr fun x _=>hP x
 rw [e]
 exact List.map_congr_left fun x _=>Yj a b t x
theorem Nb {t:Nat} {i k:Nat} {xs ys:List LG} (h1:Has S i xs) (h2:Has S k ys) (hne:i ≠ k):((S.pairs.filter fun x=>(x.1 == i && !iu S t x.2) || (x.1 == k && iu S t x.2)).map fun x=>x.2).Perm ((iM t xs ys).map (·.p)):=by
 have hd:=Ji (p:=fun x:Nat × Nat=>x.1 == i && !iu S t x.2) (q:=fun x:Nat × Nat=>x.1 == k && iu S t x.2) S.pairs fun x _ ⟨q1,q2⟩=>by
  rw [Bool.and_eq_true] at q1 q2
  have e1:x.1=i:=by simpa using q1.1
  have e2:x.1=k:=by simpa using q2.1
  exact hne (e1.symm.trans e2)
 refine (hd.map _).trans ?_
 unfold iM
 rw [List.map_append,List.map_append]
 exact (Qe h1).append (TX h2)
theorem Rel.swap (h:Rel S R Lg Ms) {M N:MB} (mM:M ∈ Ms) (mN:N ∈ Ms) (hne:M.m.id ≠ N.m.id) (t:Nat) (hap:∀ p,p ∈ M.xs.map (·.p)->p ∉ N.xs.map (·.p)) :
  Rel (Vbaham.swapped S M.m.id N.m.id t) R Lg (Crew.bV (fun Z=>if Z.m.id=M.m.id then iM t M.xs N.xs else if Z.m.id=N.m.id then iM t N.xs M.xs else Z.xs) Ms):=by
 rw [PJ]
 have mixnd:∀ {xs ys:List LG},(xs.map (·.p)).Nodup->(ys.map (·.p)).Nodup->(∀ p,p ∈ xs.map (·.p)->p ∉ ys.map (·.p))->((iM t xs ys).map (·.p)).Nodup:=fun {xs ys} n1 n2 ha=>by
  unfold iM
  rw [List.map_append,List.nodup_append]
  refine ⟨n1.sublist ((List.filter_sublist).map _),n2.sublist ((List.filter_sublist).map _),fun p hp q hq e=> ?_⟩
  subst e
  exact ha p (((List.filter_sublist).map _).subset hp) (((List.filter_sublist).map _).subset hq)
 refine h.bV (fun Z mZ=> ?_) (fun Z mZ y my=> ?_) (fun Z mZ=> ?_) (fun y my=> ?_)
 ·by_cases e:Z.m.id=M.m.id
  ·rw [if_pos e,e]
   refine List.Perm.trans (List.Perm.of_eq (zT _ fun x=> ?_)) (Nb (h.has mM) (h.has mN) hne)
   unfold swF
   cases hl:iu S t x.2 with
   | true =>
    simp only [if_true,Bool.not_true,Bool.and_false,Bool.and_true,Bool.false_or]
    by_cases e1:x.1=M.m.id
    ·rw [if_pos e1,e1]
     have a1:(N.m.id == M.m.id)=false:=by simpa using Ne.symm hne
     have a2:(M.m.id == N.m.id)=false:=by simpa using hne
     rw [a1,a2]
    ·rw [if_neg e1]
     by_cases e2:x.1=N.m.id
     ·rw [if_pos e2,e2]; simp
     ·rw [if_neg e2]
      have a1:(x.1 == M.m.id)=false:=by simpa using e1
      have a2:(x.1 == N.m.id)=false:=by simpa using e2
      rw [a1,a2]
   | false=>simp
  ·rw [if_neg e]
   by_cases e':Z.m.id=N.m.id
   ·rw [if_pos e',e']
    refine List.Perm.trans (List.Perm.of_eq (zT _ fun x=> ?_)) (Nb (h.has mN) (h.has mM) (Ne.symm hne))
    unfold swF
    cases hl:iu S t x.2 with
    | true =>
     simp only [if_true,Bool.not_true,Bool.and_false,Bool.and_true,Bool.false_or]
     by_cases e1:x.1=M.m.id
     ·rw [if_pos e1,e1]; simp
     ·rw [if_neg e1]
      by_cases e2:x.1=N.m.id
      ·rw [if_pos e2,e2]
       have a1:(N.m.id == M.m.id)=false:=by simpa using Ne.symm hne
       have a2:(M.m.id == N.m.id)=false:=by simpa using hne
       rw [a1,a2]
      ·rw [if_neg e2]
       have a1:(x.1 == M.m.id)=false:=by simpa using e1
       have a2:(x.1 == N.m.id)=false:=by simpa using e2
       rw [a1,a2]
    | false=>simp
   ·rw [if_neg e']
    refine List.Perm.trans (List.Perm.of_eq (zT (fun x=>x.1 == Z.m.id) fun x=> ?_)) (h.prs Z mZ)
    unfold swF
    have a1:(M.m.id == Z.m.id)=false:=by simpa using Ne.symm e
    have a2:(N.m.id == Z.m.id)=false:=by simpa using Ne.symm e'
    split
    ·split
     ·rename_i _ q; rw [q]; exact a2.trans a1.symm
     ·split
      ·rename_i _ _ q; rw [q]; exact a1.trans a2.symm
      ·rfl
    ·rfl
 ·have mix:∀ {U V:MB},U ∈ Ms->V ∈ Ms->y ∈ iM t U.xs V.xs->y ∈ Lg:=fun {U V} mU mV q=>by
   unfold iM at q
   rcases List.mem_append.mp q with q | q
   ·exact h.sub U mU y (List.mem_filter.mp q).1
   ·exact h.sub V mV y (List.mem_filter.mp q).1
  split at my
  ·exact mix mM mN my
  ·split at my
   ·exact mix mN mM my
   ·exact h.sub Z mZ y my
 ·split
  ·exact mixnd (h.ndx M mM) (h.ndx N mN) hap
  ·split
   ·exact mixnd (h.ndx N mN) (h.ndx M mM) fun p q1 q2=>hap p q2 q1
   ·exact h.ndx Z mZ
 ·obtain ⟨x,mx,rfl⟩:=List.mem_map.mp my
  unfold swF
  split
  ·split
   ·exact ⟨N,mN,rfl⟩
   ·split
    ·exact ⟨M,mM,rfl⟩
    ·exact h.known x mx
  ·exact h.known x mx
def Qj (z:Int) (g:Leg):Leg:={ g with dep:=((g.dep:Int) + z).toNat,arr:=((g.arr:Int) + z).toNat }
def fP (p:Nat) (z:Int) (x:LG):LG:=if x.p=p then { x with g:=Qj z x.g } else x
theorem Qk (p:Nat) (z:Int) (x:LG):(fP p z x).p=x.p:=by unfold fP; split <;> rfl
theorem Rel.delay (h:Rel S R Lg Ms) {p:Nat} (hp:0 < p) (z:Int):Rel (Vbaham.delayed S p z) R (Lg.map (fP p z)) (Ms.map fun M=>{ M with xs:=M.xs.map (fP p z) }):=by
 have pm:∀ xs:List LG,(xs.map (fP p z)).map (·.p)=xs.map (·.p):=fun xs=>by
  rw [List.map_map]
  exact List.map_congr_left fun x _=>Qk p z x
 have back:∀ M ∈ (Ms.map fun M=>({ M with xs:=M.xs.map (fP p z) }:MB)),∃ N ∈ Ms,M={ N with xs:=N.xs.map (fP p z) }:=fun M m=>by
  obtain ⟨N,mN,e⟩:=List.mem_map.mp m
  exact ⟨N,mN,e.symm⟩
 refine ⟨h.rules,?_,fun i x e=> ?_,?_,?_,fun M m=> ?_,fun M m=> ?_,fun M m=> ?_,fun x mx=> ?_⟩
 ·show S.legs.modify (p - 1) (Qj z)=_
  rw [h.legs]
  apply List.ext_getElem?
  intro i
  rw [List.getElem?_modify]
  unfold Crew.legs
  rw [List.map_map,List.getElem?_map,List.getElem?_map]
  cases e:Lg[i]? with
  | none=>rfl
  | some x =>
   have:=h.plc i x e
   show some _=some _
   congr 1
   show (if p - 1=i then Qj z x.g else x.g)=(fP p z x).g
   unfold fP
   by_cases q:x.p=p
   ·rw [if_pos q,if_pos (by omega)]
   ·rw [if_neg q,if_neg (by omega)]
 ·rw [List.getElem?_map] at e
  cases e2:Lg[i]? with
  | none=>rw [e2] at e; cases e
  | some y =>
   rw [e2] at e
   have e3:fP p z y=x:=Option.some.inj e
   rw [<-e3,Qk]
   exact h.plc i y e2
 ·show S.members=_
  rw [h.mem,List.map_map]
  rfl
 ·rw [List.map_map]
  exact h.ids
 ·obtain ⟨N,mN,rfl⟩:=back M m
  show (_:List Nat).Perm ((N.xs.map (fP p z)).map (·.p))
  rw [pm]
  exact h.prs N mN
 ·obtain ⟨N,mN,rfl⟩:=back M m
  intro x hx
  obtain ⟨y,my,rfl⟩:=List.mem_map.mp hx
  exact List.mem_map.mpr ⟨y,h.sub N mN y my,rfl⟩
 ·obtain ⟨N,mN,rfl⟩:=back M m
  show ((N.xs.map (fP p z)).map (·.p)).Nodup
  rw [pm]
  exact h.ndx N mN
 ·obtain ⟨N,mN,e⟩:=h.known x mx
  exact ⟨_,List.mem_map.mpr ⟨N,mN,rfl⟩,e⟩
end
def asg (x:LG) (M:MB) (Ms:List MB):List MB:=bV (fun N=>if N.m.id=M.m.id then N.xs++[x] else N.xs) Ms
def zg (x:LG) (Ms:List MB) (ts:List MB):List MB:=ts.foldl (fun Z M=>asg x M Z) Ms
def ZX (x:LG) (S:State) (ts:List MB):State:=ts.foldl (fun Z M=>Vbaham.withPair Z M.m.id x.p) S
theorem Q0 (x:LG) (Ms ts:List MB) (M:MB):zg x Ms (ts++[M])=asg x M (zg x Ms ts):=by
 unfold zg
 rw [List.foldl_append]
 rfl
theorem RV {x:LG} {M N:MB} {Ms:List MB} (m:N ∈ Ms) (hn:N.m.id ≠ M.m.id):N ∈ asg x M Ms:=by
 unfold asg bV
 refine List.mem_map.mpr ⟨N,m,?_⟩
 show ({ N with xs:=if N.m.id=M.m.id then N.xs++[x] else N.xs }:MB)=N
 rw [if_neg hn]
section
variable {R:Rules} {Lg:List LG}
theorem Jc {x:LG} {N:MB}:∀ (ts:List MB) {Ms:List MB},N ∈ Ms->N.m.id ∉ ts.map (fun M=>M.m.id)->N ∈ zg x Ms ts
 | [],_,m,_=>m
 | M :: ts,Ms,m,hn=>by
  rw [List.map_cons,List.mem_cons,not_or] at hn
  exact Jc ts (Ms:=asg x M Ms) (RV m hn.1) hn.2
def yq (S:State) (p rank:Nat) (M:MB):Bool:=M.m.rank == rank && Vbaham.could S M.m p
theorem WM {S:State} {Ms:List MB} (h:Rel S R Lg Ms) {x:LG} (mx:x ∈ Lg) {rank:Nat} {M:MB} {qs:List MB} (hq:(M :: qs).Perm (Ms.filter (yq S x.p rank))) :
  M ∈ Ms/\M.m.rank=rank/\x.p ∉ M.xs.map (·.p)/\qs.Perm ((asg x M Ms).filter (yq (Vbaham.withPair S M.m.id x.p) x.p rank)):=by
 have m0:=List.mem_filter.mp (hq.mem_iff.mp (List.mem_cons_self (a:=M) (l:=qs)))
 obtain ⟨mM,g0⟩:=m0
 unfold yq at g0
 rw [Bool.and_eq_true,beq_iff_eq] at g0
 obtain ⟨ys0,p0,o0⟩:=Bj (M.xs++[x])
 have c0:=g0.2
 rw [h.could mM mx p0 o0,Bool.and_eq_true] at c0
 have hn:x.p ∉ M.xs.map (·.p):=by simpa using c0.1
 refine ⟨mM,g0.1,hn,?_⟩
 have h':=h.assign mM mx hn
 have idn:((M :: qs).map fun M=>M.m.id).Nodup:=(hq.map fun M=>M.m.id).nodup_iff.mpr (h.ids.sublist ((List.filter_sublist).map _))
 rw [List.map_cons,List.nodup_cons] at idn
 have e:(asg x M Ms).filter (yq (Vbaham.withPair S M.m.id x.p) x.p rank)=(Ms.filter (yq S x.p rank)).filter fun N=>decide (N.m.id ≠ M.m.id):=by
  unfold asg bV
  rw [List.filter_map,List.filter_filter]
  have e1:Ms.filter ((yq (Vbaham.withPair S M.m.id x.p) x.p rank) ∘ fun N=>({ N with xs:=if N.m.id=M.m.id then N.xs++[x] else N.xs }:MB))=Ms.filter fun N=>decide (N.m.id ≠ M.m.id) && yq S x.p rank N:=by
   refine List.filter_congr fun N mN=> ?_
   show yq (Vbaham.withPair S M.m.id x.p) x.p rank ({ N with xs:=if N.m.id=M.m.id then N.xs++[x] else N.xs }:MB)=_
   have mN':({ N with xs:=if N.m.id=M.m.id then N.xs++[x] else N.xs }:MB) ∈ bV (fun N=>if N.m.id=M.m.id then N.xs++[x] else N.xs) Ms:=List.mem_map.mpr ⟨N,mN,rfl⟩
   unfold yq
   by_cases q:N.m.id=M.m.id
   ·obtain ⟨ys1,p1,o1⟩:=Bj (({ N with xs:=if N.m.id=M.m.id then N.xs++[x] else N.xs }:MB).xs++[x])
    have c1:=h'.could mN' mx p1 o1
    have c2:x.p ∈ (({ N with xs:=if N.m.id=M.m.id then N.xs++[x] else N.xs }:MB).xs).map (·.p):=by
     show x.p ∈ (if N.m.id=M.m.id then N.xs++[x] else N.xs).map (·.p)
     rw [if_pos q]
     simp
    rw [decide_eq_true c2] at c1
    have c3:Vbaham.could (Vbaham.withPair S M.m.id x.p) N.m x.p=false:=c1
    rw [show ({ N with xs:=if N.m.id=M.m.id then N.xs++[x] else N.xs }:MB).m=N.m from rfl,c3,decide_eq_false (by simpa using q)]
    simp
   ·obtain ⟨ys1,p1,o1⟩:=Bj (N.xs++[x])
    have eN:({ N with xs:=if N.m.id=M.m.id then N.xs++[x] else N.xs }:MB)=N:=by rw [if_neg q]
    rw [eN] at mN' ⊢
    rw [h'.could mN' mx p1 o1,h.could mN mx p1 o1,decide_eq_true q]
    simp
  rw [e1]
  have e2:∀ N ∈ (Ms.filter fun N=>decide (N.m.id ≠ M.m.id) && yq S x.p rank N),({ N with xs:=if N.m.id=M.m.id then N.xs++[x] else N.xs }:MB)=N:=fun N m=>by
   have:=(List.mem_filter.mp m).2
   rw [Bool.and_eq_true] at this
   have q:N.m.id ≠ M.m.id:=of_decide_eq_true this.1
   rw [if_neg q]
  rw [List.map_congr_left e2,List.map_id']
 rw [e]
 refine List.Perm.trans ?_ (hq.filter _)
 rw [List.filter_cons,if_neg (by simp)]
 refine List.Perm.of_eq (List.filter_eq_self.mpr fun N mN=> ?_).symm
 exact decide_eq_true fun z=>idn.1 (by rw [<-z]; exact List.mem_map.mpr ⟨N,mN,rfl⟩)
theorem U3 {S:State} {Ms:List MB} (h:Rel S R Lg Ms) {M:MB} (mM:M ∈ Ms) (p:Nat):Vbaham.crewOf (Vbaham.withPair S M.m.id p) p M.m.rank=Vbaham.crewOf S p M.m.rank + 1:=by
 have hm:=h.pO mM
 unfold Vbaham.crewOf
 show ((S.pairs++[(M.m.id,p)]).filter fun x=>x.2 == p && ((Vbaham.memberOf S x.1).any fun m=>m.rank == M.m.rank)).length=_
 rw [List.filter_append,List.length_append]
 congr 1
 rw [List.filter_cons,if_pos (by rw [hm]; simp)]
 rfl
theorem Jj {x:LG} (mx:x ∈ Lg) {rank:Nat}:∀ (k:Nat) {S:State} {Ms qs:List MB},Rel S R Lg Ms->qs.Perm (Ms.filter (yq S x.p rank))->qs.Pairwise V6->Vbaham.needOf S x.p rank<=Vbaham.crewOf S x.p rank + k ->
  Vbaham.fillRank x.p rank k S=(ZX x S (qs.take (Vbaham.needOf S x.p rank - Vbaham.crewOf S x.p rank)),(qs.take (Vbaham.needOf S x.p rank - Vbaham.crewOf S x.p rank)).map fun M=>M.m.id)
 | 0,S,Ms,qs,h,hq,ho,hk=>by
  rw [show Vbaham.needOf S x.p rank - Vbaham.crewOf S x.p rank=0 by omega]
  rfl
 | k + 1,S,Ms,qs,h,hq,ho,hk=>by
  unfold Vbaham.fillRank
  have ef:=h.fitting x.p rank (g:=yq S x.p rank) (fun M _=>rfl) hq ho
  by_cases hw:Vbaham.crewOf S x.p rank < Vbaham.needOf S x.p rank
  ·rw [if_neg (by unfold Vbaham.wants; rw [decide_eq_true hw]; simp)]
   cases qs with
   | nil =>
    have:(Vbaham.fitting S x.p rank)=[]:=by simpa using ef
    rw [this,List.take_nil]
    rfl
   | cons M qs =>
    obtain ⟨mM,er,hn,hq'⟩:=WM h mx hq
    cases e:Vbaham.fitting S x.p rank with
    | nil=>rw [e] at ef; simp at ef
    | cons m ms =>
     rw [e,List.map_cons,List.map_cons] at ef
     injection ef with ei _
     rw [List.head?_cons]
     show ((Vbaham.fillRank x.p rank k (Vbaham.withPair S m.id x.p)).1,m.id :: (Vbaham.fillRank x.p rank k (Vbaham.withPair S m.id x.p)).2)=_
     rw [ei]
     have ec:=U3 h mM x.p
     rw [er] at ec
     have en:Vbaham.needOf (Vbaham.withPair S M.m.id x.p) x.p rank=Vbaham.needOf S x.p rank:=rfl
     rw [List.pairwise_cons] at ho
     have ih:=Jj mx k (h.assign mM mx hn) hq' ho.2 (by rw [en,ec]; omega)
     rw [ih,en,ec]
     rw [show Vbaham.needOf S x.p rank - Vbaham.crewOf S x.p rank=(Vbaham.needOf S x.p rank - (Vbaham.crewOf S x.p rank + 1)) + 1 by omega,List.take_succ_cons]
     rfl
  ·rw [if_pos (by unfold Vbaham.wants; rw [decide_eq_false hw])]
   rw [show Vbaham.needOf S x.p rank - Vbaham.crewOf S x.p rank=0 by omega]
   rfl
end
end Crew
namespace L2
open PySem PySem.Spec PyProof.Rows
theorem wkD {d:Addr} {o:Obj} {kvs:List (Key × V)}:Wk (Itd d o kvs) (fun H=>H d=some (.frz o (.dK kvs))) kvs.length (fun i H v H'=>H'=H/\∃ k,kvs[i]? = some (k,v)) :=
 ⟨fun i H h hi=>⟨h,hi⟩,fun i H v H' _ _ y=>y,fun H h=>⟨h,Nat.le_refl _⟩⟩
def off (F:Addr->Bool) (H:Hp):Hp:=fun b=>if F b=true then none else H b
section
variable {F:Addr->Bool} {H H':Hp} {a b:Addr} {o:HO}
theorem xZ:aC (off F H) H:=fun b u e=>by
 unfold off at e
 split at e
 ·cases e
 ·exact e
theorem bL (e:off F H b=some o):F b=false/\H b=some o:=by
 unfold off at e
 split at e
 ·cases e
 ·rename_i h
  exact ⟨by simpa using h,e⟩
theorem bM (h:F b=false):off F H b=H b:=by
 unfold off
 rw [if_neg (by simp [h])]
theorem aC.off (s:aC H H'):aC (off F H) (off F H'):=fun b u e=>by
 obtain ⟨h1,h2⟩:=bL e
 rw [bM h1]
 exact s _ _ h2
theorem jK (h:F a=false):off F (upd H a o)=upd (off F H) a o:=by
 funext b
 by_cases e:b=a
 ·subst e
  rw [aj,bM h,aj]
 ·rw [ak e]
  unfold L2.off
  rw [ak e]
def NoD (o:HO):Prop:=∀ kvs,o ≠ .dK kvs
def Jx (H H':Hp):Prop:=∀ b o,H b=some o->NoD o->H' b=some o
theorem aC.d (s:aC H H'):Jx H H':=fun b o e _=>s b o e
theorem yc {C dx:Addr} {fs:List (Str × V)}:NoD (.ins C dx fs):=fun _ h=>nomatch h
theorem uZ {xs:List V}:NoD (.lst xs):=fun _ h=>nomatch h
theorem YM {xs:List V}:NoD (.tup xs):=fun _ h=>nomatch h
theorem Il {kvs:List (Key × V)} (h:H a=some (.dK kvs)):Jx H (upd H a o):=fun b u e n=>by
 rw [ak (fun z=>by rw [z,h] at e; cases e; exact n _ rfl)]
 exact e
theorem Ai {u:HO} {od:Obj} (h:H a=some u) (s:aC (upd H a (.frz od u)) H'):aC H (upd H' a u):=fun b v e=>by
 by_cases q:b=a
 ·subst q
  rw [h] at e
  cases e
  exact aj
 ·rw [ak q]
  exact s b v (by rw [ak q]; exact e)
def Fr (F:Addr->Bool) (H H':Hp):Prop:=∀ b u,F b=true->H b=some u->H' b=some u
theorem aC.fr (s:aC H H'):Fr F H H':=fun b u _ e=>s b u e
theorem Fr.trans {H'':Hp} (s:Fr F H H') (t:Fr F H' H''):Fr F H H'':=fun b u f e=>t b u f (s b u f e)
theorem Fr.upd (h:F a=false):Fr F H (upd H a o):=fun b u f e=>by
 rw [ak (fun z=>by rw [z,h] at f; cases f)]
 exact e
end
end L2
namespace Crew
open PySem PySem.Spec PyProof.Rows L2
open Vbaham (Leg Rules Member State)
structure cB (w:World) (K:PySem.W.Frag) (mg:Str->Option Value) (C:Ads):Prop extends Txt w K mg C where
 lE:GI mg "MOST_LEGS" 60
 iy:GI mg "MOST_MEMBERS" 30
 jn:GI mg "FIRST_DEP" 1440
 jd:GI mg "LAST_MOMENT" 10000000
 jc:GI mg "LONGEST_LEG" 1200
 pW:GI mg "TAKEN_ID" (-4)
 dR:GI mg "NOT_ALLOWED" (-5)
 Fw:GI mg "FULL" (-6)
 dB:GI mg "WRONG_HOLDER" (-8)
 jL:GI mg "NOT_NEEDED" (-9)
 ym:GI mg "UNLIKE" (-10)
 iz:GI mg "BEFORE_KINDS" (-10)
 iw:GI mg "OUT_OF_RANGE" (-2)
 lD:GI mg "NO_MEMBER" (-3)
 yo:GI mg "NO_LEG" (-7)
 pU:bc K C.ou "rules"
 ue:bc K C.ou "legs"
 eQ:bc K C.ou "members"
 yl:bc K C.call "place"
 lC:bc K C.call "arguments"
 Kw:bc K C.call "rows"
 uT:bc K C.reader "numbers"
 Tn:bc K C.reader "at"
structure HS where
 h:Addr
 r:Addr
 w:Addr
 ll:Addr
 md:Addr
 R:Rules
 Lg:List LG
 Ms:List MB
def Nh (m:Member) (la:Addr):List (Str × V):=[("number",.int m.id),("base",.int m.base),("rank",.int m.rank),("legs",.ref la)]
def houF (r ll md:Addr):List (Str × V):=[("rules",.ref r),("legs",.ref ll),("members",.ref md)]
def kE (C:Ads) (H:Hp) (a w:Addr) (r:Rules):Prop:=∃ (dx l:Addr) (ws:List Addr),H a=some (.ins C.rules dx (PN r l w))/\H l=some (.lst (nats r.longest))/\H w=some (.lst (ws.map V.ref)) /\
 ws.length=r.windows.length/\∀ (i:Nat) (b:Addr) (p:Nat × Nat),ws[i]? = some b->r.windows[i]? = some p->H b=some (.tup [.int p.1,.int p.2])
theorem kE.at_ {C:Ads} {H:Hp} {a w:Addr} {r:Rules} (h:kE C H a w r):f9 C H a r:=by
 obtain ⟨dx,l,ws,h1,h2,h3,h4,h5⟩:=h
 exact ⟨dx,l,w,ws,h1,h2,h3,h4,h5⟩
theorem kE.Ef {C:Ads} {H H':Hp} {a w:Addr} {r:Rules} (s:Jx H H') (h:kE C H a w r):kE C H' a w r:=by
 obtain ⟨dx,l,ws,h1,h2,h3,h4,h5⟩:=h
 exact ⟨dx,l,ws,s _ _ h1 yc,s _ _ h2 uZ,s _ _ h3 uZ,h4,fun i b p e1 e2=>s _ _ (h5 i b p e1 e2) YM⟩
theorem fV.Ef {C:Ads} {H H':Hp} {a:Addr} {p:Nat} {g:Leg} (s:Jx H H') (h:fV C H a p g):fV C H' a p g:=by
 obtain ⟨dx,nd,h1,h2⟩:=h
 exact ⟨dx,nd,s _ _ h1 yc,s _ _ h2 uZ⟩
def Xo (C:Ads) (H:Hp) (M:MB):Prop:=∃ dx,H M.a=some (.ins C.member dx (Nh M.m M.la))
structure Hz (C:Ads) (H:Hp) (s:HS):Prop where
 ho:∃ dx,H s.h=some (.ins C.ou dx (houF s.r s.ll s.md))
 rules:kE C H s.r s.w s.R
 ll:H s.ll=some (.lst (refs s.Lg))
 lg:nF C H s.Lg
 mo:∀ M ∈ s.Ms,Xo C H M
 ml:∀ M ∈ s.Ms,H M.la=some (.lst (refs M.xs))
 nd:(s.w :: s.ll :: s.Ms.map (·.la)).Nodup
def kvM (Ms:List MB):List (Key × V):=Ms.map fun M=>((.inl (M.m.id:Int):Key),V.ref M.a)
structure bx (C:Ads) (H:Hp) (s:HS):Prop extends Hz C H s where
 dic:H s.md=some (.dK (kvM s.Ms))
theorem Hz.Ef {C:Ads} {H H':Hp} {s:HS} (k:Jx H H') (h:Hz C H s):Hz C H' s:=by
 obtain ⟨⟨dx,h1⟩,h2,h3,h4,h5,h6,h7⟩:=h
 exact ⟨⟨dx,k _ _ h1 yc⟩,h2.Ef k,k _ _ h3 uZ,fun x m=>(h4 x m).Ef k,fun M m=>let ⟨dx,e⟩:=h5 M m; ⟨dx,k _ _ e yc⟩,fun M m=>k _ _ (h6 M m) uZ,h7⟩
theorem Hz.same {C:Ads} {H H':Hp} {s:HS} (k:aC H H') (h:Hz C H s):Hz C H' s:=h.Ef k.d
theorem bx.same {C:Ads} {H H':Hp} {s:HS} (k:aC H H') (h:bx C H s):bx C H' s:=⟨h.toHz.same k,k _ _ h.dic⟩
theorem bx.lock {C:Ads} {H:Hp} {s:HS} (h:bx C H s) (o:HO):Hz C (upd H s.md o) s:=h.toHz.Ef (Il h.dic)
theorem bx.on {C:Ads} {F:Addr->Bool} {H:Hp} {s:HS} (h:bx C (off F H) s):bx C H s:=h.same xZ
structure Wf (s:HS) (S:State):Prop where
 rel:Rel S s.R s.Lg s.Ms
 nl:s.Lg.length<=60
 nm:s.Ms.length<=30
 lon:s.R.longest.length=8
 win:s.R.windows.length<=4
 val:∀ x ∈ s.Lg,x.g.dep < x.g.arr
 nd3:∀ x ∈ s.Lg,x.g.needs.length=3
 nd4:∀ x ∈ s.Lg,∀ n ∈ x.g.needs,n<=4
 rk:∀ M ∈ s.Ms,M.m.rank<=2
theorem qK:∀ {l1 l2:List Nat},l1.Nodup->(∀ x ∈ l1,x ∈ l2)->l1.length<=l2.length
 | [],_,_,_=>Nat.zero_le _
 | a :: l1,l2,nd,h=>by
  rw [List.nodup_cons] at nd
  have ma:=h a (by simp)
  have ih:=qK (l1:=l1) (l2:=l2.erase a) nd.2 fun x m=>by
   rw [List.mem_erase_of_ne (show x ≠ a from fun z=>nd.1 (by rw [<-z]; exact m))]
   exact h x (by simp [m])
  have e:=List.length_erase_of_mem ma
  have:0 < l2.length:=List.length_pos_of_mem ma
  rw [List.length_cons]
  omega
theorem Wf.okx {s:HS} {S:State} (W:Wf s S) {xs:List LG} (hn:(xs.map (·.p)).Nodup) (hs:∀ x ∈ xs,x ∈ s.Lg):OkX s.R xs:=by
 refine ⟨?_,fun y m=>W.val y (hs y m),W.lon,W.win⟩
 have:=qK hn (l2:=s.Lg.map (·.p)) fun p m=>by
  obtain ⟨x,mx,e⟩:=List.mem_map.mp m
  exact List.mem_map.mpr ⟨x,hs x mx,e⟩
 rw [List.length_map,List.length_map] at this
 have:=W.nl
 omega
theorem Wf.okM {s:HS} {S:State} (W:Wf s S) {M:MB} (m:M ∈ s.Ms):OkX s.R M.xs:=W.okx (W.rel.ndx M m) (W.rel.sub M m)
theorem Hz.jB {C:Ads} {H:Hp} {s:HS} {S:State} (h:Hz C H s) (W:Wf s S) {xs:List LG} (hs:∀ x ∈ xs,x ∈ s.Lg):nF C H xs:=fun x m=>h.lg x (hs x m)
theorem Hz.m5 {K:PySem.W.Frag} {C:Ads} {H:Hp} {s:HS} {S:State} (h:Hz C H s) (W:Wf s S) {M:MB} (m:M ∈ s.Ms):dD K C H M.la M.xs:=⟨SqL.of (h.ml M m),h.jB W (W.rel.sub M m)⟩
theorem Ku {Ms:List MB} {i:Nat} {k:Key} {v:V} (h:(kvM Ms)[i]? = some (k,v)):∃ M,Ms[i]? = some M/\k = .inl (M.m.id:Int)/\v = .ref M.a:=by
 unfold kvM at h
 rw [List.getElem?_map] at h
 cases e:Ms[i]? with
 | none=>rw [e] at h; cases h
 | some M =>
  rw [e] at h
  have h:((.inl (M.m.id:Int):Key),V.ref M.a)=(k,v):=Option.some.inj h
  injection h with h1 h2
  exact ⟨M,rfl,h1.symm,h2.symm⟩
def qj (C:Ads) (F:Addr->Bool) (s:HS) (r:State × List Int) (H:Hp) (Q:V->Hp->Prop):Prop :=
 ∀ (H':Hp) (q:Addr) (s':HS),Fr F H H'->bx C (off F H') s'->s'.h=s.h->Wf s' r.1->H' q=some (.lst (r.2.map V.int))->Q (.ref q) H'
theorem qj.same {C:Ads} {F:Addr->Bool} {s:HS} {S:State} {ans:List Int} {H H':Hp} {Q:V->Hp->Prop} {q:Addr} (k:qj C F s (S,ans) H Q) (h:bx C (off F H) s) (W:Wf s S) (sm:aC H H') (hq:H' q=some (.lst (ans.map V.int))):Q (.ref q) H' :=
 k H' q s sm.fr (h.same sm.off) rfl W hq
theorem Jl {R:Rules} {b:Nat} {l:List Leg} {x:Nat × Nat} (h:Vbaham.fault R b l=some x):0 < x.1:=by
 unfold Vbaham.fault at h
 split at h
 ·cases h; exact Nat.zero_lt_one
 split at h
 ·cases h; exact Nat.zero_lt_succ 1
 split at h
 ·cases h; exact Nat.zero_lt_succ 2
 split at h
 ·cases h; exact Nat.zero_lt_succ 3
 split at h
 ·cases h; exact Nat.zero_lt_succ 4
 cases e:Vbaham.wrongDays R l with
 | none=>rw [e] at h; cases h
 | some n=>rw [e] at h; cases h; exact Nat.zero_lt_succ 5
def Je (o:Option (Nat × Nat)):Nat:=match o with
 | none=>0
 | some x=>x.1
theorem RZ (o:Option (Nat × Nat)):(R0 o)[0]? = some (.int (Je o:Nat)):=by cases o <;> rfl
theorem Uh {R:Rules} {b:Nat} {l:List Leg}:0 < Je (Vbaham.fault R b l) ↔ (Vbaham.fault R b l).isSome=true:=by
 cases e:Vbaham.fault R b l with
 | none=>simp [Je]
 | some x=>simp [Je,Jl e]
def refN (o:Option (Nat × Nat)):Int:=match o with
 | none=>0
 | some x=> -10 - (x.1:Int)
section
variable {P:Program} {w:World} {K:PySem.W.Frag} {mg:Str->Option Value} {base:Heap} {C:Ads}
abbrev sS:Stmt:=top 46
theorem JN:aG ["house", "member"] ["house", "member"] (aD sS):=⟨rfl,rfl,rfl,by decide +kernel,rfl,by decide +kernel,by decide +kernel⟩
def xH (C:Ads):Sp:=fun vs H Q _=>∃ (s:HS) (S:State) (M:MB),vs=[.ref s.h,.ref M.a]/\Hz C H s/\Wf s S/\M ∈ s.Ms/\∀ H':Hp,aC H H'->Q (.bl (Vbaham.faultOf S M.m).isSome) H'
theorem J8 {f fl:Addr} {fd fdl:FuncData} (F:Fun K "is_broken" "is_broken" sS f fd) (T:cB w K mg C) (dH:FnI P w K mg base "fault_of" 7 fl fdl ["rules", "base", "legs"] (lu K C)):aY P w K mg base CX0 8 f fd ["house", "member"] (xH C):=by
 refine F.ok JN (fun vs H Q E h=> ?_) (fun cdv A outer s H vs Q E hr h=> ?_)
 ·obtain ⟨_,_,_,rfl,_⟩:=h
  rfl
 ·obtain ⟨s,S,M,rfl,hz,W,mM,k⟩:=h
  refine ⟨_,(au (aJ (lz qJ (xt (aH dH (hr.mono (by decide)) (aa (xf (pv 0)) (aa (xf (pv 1)) (aa (xf (pv 1)) aq)))) aB) aB (bh _)))),?_⟩
  obtain ⟨hdx,hh⟩:=hz.ho
  obtain ⟨mdx,hm⟩:=hz.mo M mM
  refine ⟨_,rfl,aO hh T.bO T.pU rfl ⟨_,rfl,aO hm T.aN T.Fi rfl ⟨_,rfl,aO hm T.aN T.cG rfl ?_⟩⟩⟩
  refine ⟨s.r,M.la,M.m.base,s.R,M.xs,rfl,hz.rules.at_,hz.m5 W mM,W.okM mM,fun H' t ys sm hp ho ht=> ?_⟩
  refine ⟨t,_,_,_,rfl,rfl,SqT.of ht,aK (j:=0) rfl (RZ _),_,_,rfl,rfl,?_⟩
  have e:=iR (W.rel.has mM) hp ho
  rw [W.rel.rules] at e
  have q:=k H' sm
  rw [e] at q
  have e2:decide ((0:Int) < ((Je (Vbaham.fault s.R M.m.base (legs ys)):Nat):Int))=(Vbaham.fault s.R M.m.base (legs ys)).isSome:=by
   rw [Bool.eq_iff_iff,decide_eq_true_eq,<-Uh]
   omega
  rw [<-e2] at q
  exact q
abbrev pJ:Stmt:=top 47
theorem mC:aG ["house", "member"] ["house"] (aD pJ):=⟨rfl,rfl,rfl,by decide +kernel,rfl,by decide +kernel,by decide +kernel⟩
theorem jP {α β : Type} (p : α -> Bool) (g : α -> β):∀ (xs:List α),(List.range xs.length).filterMap (fun i=>(xs[i]?).bind fun x=>if p x then some (g x) else none)=(xs.filter p).map g:=by
 intro xs
 have key:∀ (n:Nat),n<=xs.length->(List.range n).filterMap (fun i=>(xs[i]?).bind fun x=>if p x then some (g x) else none)=((xs.take n).filter p).map g:=by
  intro n
  induction n with
  | zero=>intro _; rfl
  | succ n ih =>
   intro h
   have e:xs[n]? = some (xs[n]'(by omega)):=List.getElem?_eq_getElem (by omega)
   rw [jb,ih (by omega),take_snoc e,List.filter_append,List.map_append,e]
   congr 1
   show (match (if p xs[n] then some (g xs[n]) else none) with | some y=>[y] | none=>[])=([xs[n]].filter p).map g
   rw [List.filter_cons,List.filter_nil]
   split <;> rename_i hh <;> split at hh <;> simp_all
 have k:=key xs.length (Nat.le_refl _)
 rw [List.take_length] at k
 exact k
def lY (C:Ads):Sp:=fun vs H Q _=>∃ (s:HS) (S:State),vs=[.ref s.h]/\bx C H s/\Wf s S/\∀ (H':Hp) (p:Addr),aC H H'->H' p=some (.lst (nats (Vbaham.faulty S)))->Q (.ref p) H'
theorem HF {f fl:Addr} {fd fdl:FuncData} (F:Fun K "broken_ids" "broken_ids" pJ f fd) (T:cB w K mg C) (uD:FnI P w K mg base "is_broken" 8 fl fdl ["house", "member"] (xH C)):aY P w K mg base CX0 9 f fd ["house"] (lY C):=by
 refine F.ok mC (fun vs H Q E h=> ?_) (fun cdv A outer s H vs Q E hr h=> ?_)
 ·obtain ⟨_,_,rfl,_⟩:=h
  rfl
 ·obtain ⟨s,S,rfl,hH,W,k⟩:=h
  refine ⟨_,(au (aJ (RC (jk (own:=[("member",1)]) rfl mC.nd (zZ (xf (pv 0))) (bu rfl) (fun _ _ _ _ _=>(xg 1 mC.nd)) (fun _ _ _ _ _=>(uW (tQ (aH uD (hr.mono (by decide)) (aa (pv 0) (aa (pv 1) aq)))))) (fun _ _ _ _ _=>(kf K (pv 1))))))),?_⟩
  refine ⟨s.md,_,hH.dic,trivial,fun od=> ?_⟩
  have hz:=hH.lock (.frz od (.dK (kvM s.Ms)))
  obtain ⟨hdx,hh⟩:=hz.ho
  have sz:30 < sizeLine:=by decide
  refine ⟨_,rfl,aO hh T.bO T.eQ rfl ⟨s.md,od,kvM s.Ms,rfl,aj,fun D hD=> ?_⟩⟩
  refine eE wkD (fun H H' h s=>s _ _ h) aj (by unfold kvM; rw [List.length_map]; have:=W.nm; omega) hD (fun i=>(s.Ms[i]?).bind fun M=>if (Vbaham.faultOf S M.m).isSome then some (V.int M.m.id) else none) ?_ ?_
  ·rintro i v H1 H2 Kt Kf hi sm ⟨rfl,key,hv2⟩ kt kf
   obtain ⟨M,hM,_,rfl⟩:=Ku hv2
   have mM:=List.mem_of_getElem? hM
   have hz1:=hz.same sm
   refine ⟨rfl,_,rfl,_,rfl,s,S,M,rfl,hz1,W,mM,fun H3 s3=> ?_⟩
   obtain ⟨mdx,hm⟩:=(hz1.same s3).mo M mM
   cases e:(Vbaham.faultOf S M.m).isSome with
   | true =>
    refine ⟨_,rfl,bN ?_⟩
    refine ⟨_,rfl,aO hm T.aN T.jm rfl (kt _ _ ?_ s3)⟩
    rw [hM]
    show (if _ then _ else _)=_
    rw [e]
    rfl
   | false =>
    refine ⟨_,rfl,bY (kf _ ?_ s3)⟩
    rw [hM]
    show (if _ then _ else _)=_
    rw [e]
    rfl
  ·intro H1 sm hl
   refine ⟨sm _ _ aj,k _ _ (Ai hH.dic sm) ?_⟩
   have hn:D ≠ s.md:=fun z=>by rw [z,aj] at hD; cases hD
   rw [ak hn,hl]
   have e:(kvM s.Ms).length=s.Ms.length:=by unfold kvM; rw [List.length_map]
   rw [e,jP,W.rel.faulty]
   unfold nats
   rw [List.map_map]
   rfl
abbrev jY:Stmt:=top 48
theorem qH:aG ["house", "member", "legs", "kind"] ["house", "member", "legs"] (aD jY):=⟨rfl,rfl,rfl,by decide +kernel,rfl,by decide +kernel,by decide +kernel⟩
def fW (K:PySem.W.Frag) (C:Ads):Sp:=fun vs H Q _=>∃ (s:HS) (M:MB) (l:Addr) (xs:List LG),vs=[.ref s.h,.ref M.a,.ref l]/\Hz C H s/\M ∈ s.Ms/\dD K C H l xs/\OkX s.R xs /\
 ∀ (H':Hp) (ys:List LG),aC H H'->ys.Perm xs->ys.Pairwise ordG->Q (.int (refN (Vbaham.fault s.R M.m.base (legs ys)))) H'
theorem CZ {f fl:Addr} {fd fdl:FuncData} (F:Fun K "refusal_with" "refusal_with" jY f fd) (T:cB w K mg C) (dH:FnI P w K mg base "fault_of" 7 fl fdl ["rules", "base", "legs"] (lu K C)):aY P w K mg base CX0 8 f fd ["house", "member", "legs"] (fW K C):=by
 refine F.ok qH (fun vs H Q E h=> ?_) (fun cdv A outer s H vs Q E hr h=> ?_)
 ·obtain ⟨_,_,_,_,rfl,_⟩:=h
  rfl
 ·obtain ⟨s,M,l,xs,rfl,hz,mM,hL,hX,k⟩:=h
  refine ⟨_,(ao (bG 3 qH.nd (xt (aH dH (hr.mono (by decide)) (aa (xf (pv 0)) (aa (xf (pv 1)) (aa (pv 2) aq)))) aB))
   (au (aJ (Mz (aV qJ (pv 3) aB (bh _)) (bB d8 (bC rfl T.iz) (pv 3)) aB)))),?_⟩
  obtain ⟨hdx,hh⟩:=hz.ho
  obtain ⟨mdx,hm⟩:=hz.mo M mM
  refine ⟨_,rfl,aO hh T.bO T.pU rfl ⟨_,rfl,aO hm T.aN T.Fi rfl ⟨_,rfl,?_⟩⟩⟩
  refine ⟨s.r,l,M.m.base,s.R,xs,rfl,hz.rules.at_,hL,hX,fun H' t ys sm hp ho ht=> ?_⟩
  refine ⟨t,_,_,_,rfl,rfl,SqT.of ht,aK (j:=0) rfl (RZ _),_,rfl,_,_,rfl,rfl,_,rfl,?_⟩
  have q:=k H' ys sm hp ho
  cases e:Vbaham.fault s.R M.m.base (legs ys) with
  | none =>
   rw [e] at q
   exact bY q
  | some x =>
   rw [e] at q
   have:=Jl e
   rw [decide_eq_true (show (0:Int) < ((Je (some x):Nat):Int) by show (0:Int) < (x.1:Int); omega)]
   exact bN ⟨_,rfl,_,_,rfl,rfl,q⟩
end
end Crew
namespace L2
open PySem PySem.Spec PyProof.Rows
theorem Z9 (K:PySem.W.Frag) {X:Cx} {C:Addr} (c:CEq K C) (hu:X.A.units + 64 < cLine) (hK:X.K=K:=by rfl):OpR X (compareOp .In) (rInR C K false):=by subst hK; exact Wd c hu
end L2
namespace Crew
open PySem PySem.Spec PyProof.Rows L2
open Vbaham (Leg Rules Member State)
theorem yD {a b:Nat}:decide (V.int (a:Int)=V.int (b:Int))=(a == b):=by
 rw [yE,Bool.eq_iff_iff,beq_iff_eq,beq_iff_eq]
 omega
theorem pK (xs:List LG):refs xs=(xs.map (·.a)).map V.ref:=by
 unfold refs
 rw [List.map_map]
 rfl
theorem fV.ins {C:Ads} {H:Hp} {a:Addr} {p:Nat} {g:Leg} (h:fV C H a p g):zm C.leg H a:=by
 obtain ⟨dx,nd,h1,_⟩:=h
 exact ⟨dx,_,h1⟩
theorem Ao {C:Ads} {H:Hp} {xs:List LG} (h:nF C H xs):∀ b ∈ xs.map (·.a),zm C.leg H b:=fun b m=>by
 obtain ⟨x,mx,rfl⟩:=List.mem_map.mp m
 exact (h x mx).ins
theorem fV.CQ {C:Ads} {H:Hp} {a:Addr} {p q:Nat} {g g':Leg} (h:fV C H a p g) (h':fV C H a q g'):p=q:=by
 obtain ⟨dx,nd,h1,_⟩:=h
 obtain ⟨dx',nd',h1',_⟩:=h'
 rw [h1] at h1'
 injection h1' with e
 injection e with _ _ e
 unfold Fl at e
 injection e with e _
 injection e with _ e
 injection e with e
 omega
theorem Rel.uY {S:State} {R:Rules} {Lg:List LG} {Ms:List MB} (h:Rel S R Lg Ms) {x y:LG} (mx:x ∈ Lg) (my:y ∈ Lg) (e:x.p=y.p):x=y:=by
 obtain ⟨i,hi,ei⟩:=List.mem_iff_getElem.mp mx
 obtain ⟨j,hj,ej⟩:=List.mem_iff_getElem.mp my
 have e1:Lg[i]? = some x:=by rw [List.getElem?_eq_getElem hi,ei]
 have e2:Lg[j]? = some y:=by rw [List.getElem?_eq_getElem hj,ej]
 have p1:=h.plc i x e1
 have p2:=h.plc j y e2
 have:i=j:=by omega
 subst this
 rw [e1] at e2
 exact Option.some.inj e2
theorem Hz.mem {C:Ads} {H:Hp} {s:HS} {S:State} (h:Hz C H s) (W:Wf s S) {x:LG} (mx:x ∈ s.Lg) {xs:List LG} (hs:∀ y ∈ xs,y ∈ s.Lg):x.a ∈ xs.map (·.a) ↔ x.p ∈ xs.map (·.p):=by
 constructor
 ·intro m
  obtain ⟨y,my,e⟩:=List.mem_map.mp m
  have l1:=h.lg y (hs y my)
  rw [e] at l1
  exact List.mem_map.mpr ⟨y,my,l1.CQ (h.lg x mx)⟩
 ·intro m
  obtain ⟨y,my,e⟩:=List.mem_map.mp m
  rw [W.rel.uY mx (hs y my) e.symm]
  exact List.mem_map.mpr ⟨y,my,rfl⟩
section
variable {P:Program} {w:World} {K:PySem.W.Frag} {mg:Str->Option Value} {base:Heap} {C:Ads}
abbrev o9:Stmt:=top 49
theorem mj:aG ["house", "leg", "rank", "member"] ["house", "leg", "rank"] (aD o9):=⟨rfl,rfl,rfl,by decide +kernel,rfl,by decide +kernel,by decide +kernel⟩
def lW (C:Ads):Sp:=fun vs H Q _=>∃ (s:HS) (S:State) (x:LG) (rank:Nat),vs=[.ref s.h,.ref x.a,.int rank]/\bx C H s/\Wf s S/\x ∈ s.Lg/\∀ H':Hp,aC H H'->Q (.int (Vbaham.crewOf S x.p rank)) H'
theorem Hn {f:Addr} {fd:FuncData} (F:Fun K "holders_of" "holders_of" o9 f fd) (T:cB w K mg C):aY P w K mg base CX0 1 f fd ["house", "leg", "rank"] (lW C):=by
 refine F.ok mj (fun vs H Q E h=> ?_) (fun cdv A outer s H vs Q E hr h=> ?_)
 ·obtain ⟨_,_,_,_,rfl,_⟩:=h
  rfl
 ·obtain ⟨s,S,x,rank,rfl,hH,W,mx,k⟩:=h
  refine ⟨_,(au (aJ (aW bf (by rfl) T.iG PySem.boot_len (aa (RC (jk (own:=[("member",3)]) rfl mj.nd (zZ (xf (pv 0))) (bu rfl) (fun _ _ _ _ _=>(xg 3 mj.nd)) (fun _ _ _ _ _=>(uW (PW.pt (Qa (aV vL (kf K (pv 3)) (pv 2) (bh _)) (JX (aV (Z9 K T.FQ hr.units) (pv 1) (kf K (pv 3)) rfl)))))) (fun _ _ _ _ _=>(pv 3)))) aq)))),?_⟩
  refine ⟨s.md,_,hH.dic,trivial,fun od=> ?_⟩
  have hz:=hH.lock (.frz od (.dK (kvM s.Ms)))
  obtain ⟨hdx,hh⟩:=hz.ho
  have sz:30 < sizeLine:=by decide
  refine ⟨_,rfl,aO hh T.bO T.eQ rfl ⟨s.md,od,kvM s.Ms,rfl,aj,fun D hD=> ?_⟩⟩
  refine eE wkD (fun H H' h s=>s _ _ h) aj (by unfold kvM; rw [List.length_map]; have:=W.nm; omega) hD (fun i=>(s.Ms[i]?).bind fun M=>if (M.m.rank == rank && decide (x.p ∈ M.xs.map (·.p))) then some (V.ref M.a) else none) ?_ ?_
  ·rintro i v H1 H2 Kt Kf hi sm ⟨rfl,key,hv2⟩ kt kf
   obtain ⟨M,hM,_,rfl⟩:=Ku hv2
   have mM:=List.mem_of_getElem? hM
   have hz1:=hz.same sm
   obtain ⟨mdx,hm⟩:=hz1.mo M mM
   rw [hM] at kt kf
   refine ⟨rfl,?_⟩
   refine ⟨_,rfl,aO hm T.aN T.wU rfl ⟨_,rfl,rfl,_,rfl,?_⟩⟩
   have mm:=hz1.mem W mx (W.rel.sub M mM)
   have kt:∀ y H4,(if (M.m.rank == rank && decide (x.p ∈ M.xs.map (·.p))) then some (V.ref M.a) else none)=some y->aC H2 H4->Kt y H4:=kt
   have kf:∀ H4,(if (M.m.rank == rank && decide (x.p ∈ M.xs.map (·.p))) then some (V.ref M.a) else none)=none->aC H2 H4->Kf H4:=kf
   rw [yD]
   cases hc:(M.m.rank == rank) with
   | true =>
    rw [hc] at kt kf
    refine bN ⟨_,rfl,_,rfl,aO hm T.aN T.cG rfl ⟨x.a,M.la,M.xs.map (·.a),rfl,rfl,?_,(hz1.lg x mx).ins,Ao (hz1.jB W (W.rel.sub M mM)),?_⟩⟩
    ·rw [<-pK]
     exact SqL.of (hz1.ml M mM)
    ·refine ⟨_,rfl,?_⟩
     show if (decide (x.a ∈ M.xs.map (·.a)))=true then _ else _
     rw [decide_eq_decide.mpr mm]
     cases hd:decide (x.p ∈ M.xs.map (·.p)) with
     | true =>
      rw [hd] at kt
      exact bN ⟨_,rfl,kt _ _ rfl (aC.refl _)⟩
     | false =>
      rw [hd] at kf
      exact bY (kf _ rfl (aC.refl _))
   | false =>
    rw [hc] at kf
    exact bY (kf _ rfl (aC.refl _))
  ·intro H1 sm hl
   refine ⟨sm _ _ aj,?_⟩
   have hn:D ≠ s.md:=fun z=>by rw [z,aj] at hD; cases hD
   refine ⟨D,_,rfl,.inl (SqL.of ((ak hn).trans hl)),?_⟩
   have e:(kvM s.Ms).length=s.Ms.length:=by unfold kvM; rw [List.length_map]
   rw [e,jP,List.length_map]
   have q:=k _ (Ai hH.dic sm)
   rw [W.rel.crew] at q
   exact q
end
theorem RN {s:HS} {S:State} (W:Wf s S) {x:LG} (mx:x ∈ s.Lg) {r n:Nat} (h:x.g.needs[r]? = some n):Vbaham.needOf S x.p r=n:=by
 unfold Vbaham.needOf
 rw [W.rel.legAt mx]
 show x.g.needs.getD r 0=n
 rw [List.getD_eq_getElem?_getD,h]
 rfl
def Dv (K:PySem.W.Frag) (mg:Str->Option Value):Prop:=∃ a:Addr,mg "RANKS" = some (.ref a)/\∀ H,SqT K H a [.int 0,.int 1,.int 2]
def jl (S:State) (p rank:Nat):Nat:=Vbaham.needOf S p rank - Vbaham.crewOf S p rank
theorem Dz (S:State) (p rank:Nat):Vbaham.wants S p rank=decide (0 < jl S p rank):=by
 unfold Vbaham.wants jl
 exact decide_eq_decide.mpr ⟨fun h=>by omega,fun h=>by omega⟩
section
variable {P:Program} {w:World} {K:PySem.W.Frag} {mg:Str->Option Value} {base:Heap} {C:Ads}
abbrev o5:Stmt:=top 50
theorem G9:aG ["house", "leg", "rank"] ["house", "leg", "rank"] (aD o5):=⟨rfl,rfl,rfl,by decide +kernel,rfl,by decide +kernel,by decide +kernel⟩
def iV (C:Ads):Sp:=fun vs H Q _=>∃ (s:HS) (S:State) (x:LG) (rank:Nat),vs=[.ref s.h,.ref x.a,.int rank]/\bx C H s/\Wf s S/\x ∈ s.Lg/\rank<=2/\∀ H':Hp,aC H H'->Q (.int (jl S x.p rank)) H'
theorem Hj {f fh:Addr} {fd fdh:FuncData} (F:Fun K "missing_in" "missing_in" o5 f fd) (T:cB w K mg C) (eY:FnI P w K mg base "holders_of" 1 fh fdh ["house", "leg", "rank"] (lW C)):aY P w K mg base CX0 2 f fd ["house", "leg", "rank"] (iV C):=by
 refine F.ok G9 (fun vs H Q E h=> ?_) (fun cdv A outer s H vs Q E hr h=> ?_)
 ·obtain ⟨_,_,_,_,rfl,_⟩:=h
  rfl
 ·obtain ⟨s,S,x,rank,rfl,hH,W,mx,hrk,k⟩:=h
  refine ⟨_,(au (aJ (aW (jQ rfl) (by rfl) T.Bk GQ (aa aB (aa (bB d8 (xl (xf (pv 1)) (pv 2)) (aH eY (hr.mono (by decide)) (aa (pv 0) (aa (pv 1) (aa (pv 2) aq))))) aq))))),?_⟩
  have hn3:=W.nd3 x mx
  obtain ⟨n,hn⟩:∃ n,x.g.needs[rank]? = some n:=⟨_,List.getElem?_eq_getElem (by omega)⟩
  obtain ⟨xdx,xnd,hx1,hx2⟩:=hH.lg x mx
  refine ⟨_,rfl,aO hx1 T.bQ T.Dr rfl ⟨_,rfl,xnd,_,_,_,rfl,rfl,SqL.of hx2,aK (j:=rank) rfl (Do hn),?_⟩⟩
  refine ⟨_,rfl,_,rfl,_,rfl,s,S,x,rank,rfl,hH,W,mx,fun H1 s1=> ?_⟩
  refine ⟨_,_,rfl,rfl,_,_,rfl,?_⟩
  have q:=k H1 s1
  unfold jl at q
  rw [RN W mx hn,<-max0] at q
  exact q
end
theorem nW (xs:List LG) (x:LG):refs xs++[.ref x.a]=refs (xs++[x]):=by
 unfold refs
 rw [List.map_append]
 rfl
theorem Iu (o:Option (Nat × Nat)):decide (V.int (refN o)=V.int 0)=o.isNone:=by
 rw [yE]
 cases o with
 | none=>rfl
 | some x =>
  show (-10 - (x.1:Int) == 0)=false
  rw [beq_eq_false_iff_ne]
  omega
theorem Wf.okA {s:HS} {S:State} (W:Wf s S) {M:MB} (mM:M ∈ s.Ms) {x:LG} (mx:x ∈ s.Lg) (hn:x.p ∉ M.xs.map (·.p)):OkX s.R (M.xs++[x]):=by
 refine W.okx ?_ fun y my=> ?_
 ·rw [List.map_append,List.nodup_append]
  refine ⟨W.rel.ndx M mM,by simp,fun i hi j hj=> ?_⟩
  have ej:j=x.p:=by simpa using hj
  rw [ej]
  exact fun q=>hn (q ▸ hi)
 ·rcases List.mem_append.mp my with q | q
  ·exact W.rel.sub M mM y q
  ·have:y=x:=by simpa using q
   rw [this]
   exact mx
section
variable {P:Program} {w:World} {K:PySem.W.Frag} {mg:Str->Option Value} {base:Heap} {C:Ads}
abbrev pB:Stmt:=top 61
theorem Hc:aG ["house", "member", "leg"] ["house", "member", "leg"] (aD pB):=⟨rfl,rfl,rfl,by decide +kernel,rfl,by decide +kernel,by decide +kernel⟩
def vH (C:Ads):Sp:=fun vs H Q _=>∃ (s:HS) (S:State) (M:MB) (x:LG),vs=[.ref s.h,.ref M.a,.ref x.a]/\Hz C H s/\Wf s S/\M ∈ s.Ms/\x ∈ s.Lg/\∀ H':Hp,aC H H'->Q (.bl (Vbaham.could S M.m x.p)) H'
theorem Hu {f fl:Addr} {fd fdl:FuncData} (F:Fun K "could_take" "could_take" pB f fd) (T:cB w K mg C) (bH:FnI P w K mg base "refusal_with" 8 fl fdl ["house", "member", "legs"] (fW K C)):aY P w K mg base CX0 9 f fd ["house", "member", "leg"] (vH C):=by
 refine F.ok Hc (fun vs H Q E h=> ?_) (fun cdv A outer s H vs Q E hr h=> ?_)
 ·obtain ⟨_,_,_,_,rfl,_⟩:=h
  rfl
 ·obtain ⟨s,S,M,x,rfl,hz,W,mM,mx,k⟩:=h
  refine ⟨_,(au (aJ (V5 (lz (Ja T.FQ hr.units) (pv 2) (xf (pv 1)) rfl) (Qc (lz vL (aH bH (hr.mono (by decide)) (aa (pv 0) (aa (pv 1) (aa (bB jz (xf (pv 1)) (aX (aa (pv 2) aq))) aq)))) aB (bh _)))))),?_⟩
  obtain ⟨mdx,hm⟩:=hz.mo M mM
  obtain ⟨ys0,hp0,ho0⟩:=Bj (M.xs++[x])
  have sz:100 < sizeLine:=by decide
  have mm:=hz.mem W mx (W.rel.sub M mM)
  refine ⟨_,rfl,_,rfl,aO hm T.aN T.cG rfl ⟨x.a,M.la,M.xs.map (·.a),rfl,rfl,?_,(hz.lg x mx).ins,Ao (hz.jB W (W.rel.sub M mM)),?_⟩⟩
  ·rw [<-pK]
   exact SqL.of (hz.ml M mM)
  refine ⟨_,rfl,?_⟩
  show if (!decide (x.a ∈ M.xs.map (·.a)))=true then _ else _
  rw [decide_eq_decide.mpr mm]
  cases hd:decide (x.p ∈ M.xs.map (·.p)) with
  | true =>
   have q:=k _ (aC.refl _)
   rw [W.rel.could mM mx hp0 ho0,hd] at q
   exact bY q
  | false =>
   have hn:=of_decide_eq_false hd
   have hX:=W.okA mM mx hn
   have hlen:=(W.okM mM).len
   refine bN ⟨_,rfl,_,rfl,_,rfl,aO hm T.aN T.cG rfl ⟨_,rfl,(by show 1<=sizeLine; decide),fun p hp=> ?_⟩⟩
   have s1:aC H (upd H p (.lst [.ref x.a])):=aC.upd hp
   refine ⟨M.la,p,_,_,rfl,rfl,s1 _ _ (hz.ml M mM),aj,by rw [aM]; show _ + 1<=_; omega,fun p2 hp2=> ?_⟩
   have s2:=s1.trans (aC.upd (o:= .lst (refs M.xs++[.ref x.a])) hp2)
   refine ⟨s,M,p2,M.xs++[x],rfl,hz.same s2,mM,⟨SqL.of (by rw [aj,nW]),(hz.jB W fun y my=> ?_).same s2⟩,hX,fun H' ys sm hp ho=> ?_⟩
   ·rcases List.mem_append.mp my with q | q
    ·exact W.rel.sub M mM y q
    ·have:y=x:=by simpa using q
     rw [this]
     exact mx
   refine ⟨rfl,?_⟩
   have q:=k _ (s2.trans sm)
   rw [W.rel.could mM mx hp ho,hd] at q
   rw [Iu]
   exact q
abbrev o7:Stmt:=top 62
theorem Ha:aG ["member"] ["member"] (aD o7):=⟨rfl,rfl,rfl,by decide +kernel,rfl,by decide +kernel,by decide +kernel⟩
def lV (C:Ads):Sp:=fun vs H Q _=>∃ (s:HS) (S:State) (M:MB),vs=[.ref M.a]/\Hz C H s/\Wf s S/\M ∈ s.Ms/\∀ (t:Addr) (H':Hp),aC H H'->H' t=some (.tup [.int (vy M.xs),.int M.m.id])->Q (.ref t) H'
theorem Hl {f fl:Addr} {fd fdl:FuncData} (F:Fun K "load_order" "load_order" o7 f fd) (T:cB w K mg C) (eX:FnI P w K mg base "minutes_of" 1 fl fdl ["legs"] (lU K C)):aY P w K mg base CX0 2 f fd ["member"] (lV C):=by
 refine F.ok Ha (fun vs H Q E h=> ?_) (fun cdv A outer s H vs Q E hr h=> ?_)
 ·obtain ⟨_,_,_,rfl,_⟩:=h
  rfl
 ·obtain ⟨s,S,M,rfl,hz,W,mM,k⟩:=h
  refine ⟨_,(au (aJ (z6 (aa (aH eX (hr.mono (by decide)) (aa (xf (pv 0)) aq)) (aa (xf (pv 0)) aq))))),?_⟩
  obtain ⟨mdx,hm⟩:=hz.mo M mM
  have hX:=W.okM mM
  refine ⟨_,rfl,aO hm T.aN T.cG rfl ⟨M.la,M.xs,rfl,hz.m5 W mM,by have:=hX.len; omega,fun y my=>Nat.le_of_lt (hX.val y my),fun H1 s1=> ?_⟩⟩
  refine ⟨_,rfl,aO (s1 _ _ hm) T.aN T.jm rfl ⟨(by show 2<=sizeLine; decide),fun t ht=> ?_⟩⟩
  exact k t _ (s1.trans (aC.upd ht)) aj
abbrev ie:Stmt:=top 63
theorem gj:aG ["house", "leg", "rank", "one", "fitting"] ["house", "leg", "rank"] (aD ie):=⟨rfl,rfl,rfl,by decide +kernel,rfl,by decide +kernel,by decide +kernel⟩
def gf (C:Ads):Sp:=fun vs H Q _=>∃ (s:HS) (S:State) (x:LG) (rank:Nat),vs=[.ref s.h,.ref x.a,.int rank]/\bx C H s/\Wf s S/\x ∈ s.Lg /\
 ∀ (H':Hp) (p:Addr) (qs:List MB),aC H H'->H' p=some (.lst (qs.map fun M=> .ref M.a))->(∀ M ∈ qs,M ∈ s.Ms)->qs.length<=s.Ms.length->(Vbaham.fitting S x.p rank).map (fun m=>m.id)=qs.map (fun M=>M.m.id)->qs.Perm (s.Ms.filter fun M=>M.m.rank == rank && Vbaham.could S M.m x.p)->qs.Pairwise V6->Q (.ref p) H'
theorem wQ {f fl fo:Addr} {fd fdl fdo:FuncData} (F:Fun K "fitting_members" "fitting_members" ie f fd) (T:cB w K mg C) (qw:FnI P w K mg base "could_take" 9 fl fdl ["house", "member", "leg"] (vH C))
  (iD:FnI P w K mg base "load_order" 2 fo fdo ["member"] (lV C)):aY P w K mg base CX0 10 f fd ["house", "leg", "rank"] (gf C):=by
 refine F.ok gj (fun vs H Q E h=> ?_) (fun cdv A outer s H vs Q E hr h=> ?_)
 ·obtain ⟨_,_,_,_,rfl,_⟩:=h
  rfl
 ·obtain ⟨s,S,x,rank,rfl,hH,W,mx,k⟩:=h
  refine ⟨_,(ao (Yy (ji (i:=4) (own:=[("one",3)]) rfl gj.nd rfl rfl (kZ rfl rfl rfl rfl) (zZ (xf (pv 0))) (bu rfl) (fun _ _ _ _ _=>(xg 3 gj.nd)) (fun _ _ _ _ _=>(uW (PW.pt (Qa (aV vL (kf K (pv 3)) (pv 2) (bh _)) (JX (tQ (aH qw (hr.mono (by decide)) (aa (pv 0) (aa (pv 3) (aa (pv 1) aq)))))))))) (fun _ _ _ _ _=>(pv 3))))
   (au (aJ (z8 Ow rfl T.n6 uQ (aa (pv 4) aq) (pL (dz rfl iD.mgr) wN))))),?_⟩
  refine ⟨s.md,_,hH.dic,trivial,fun od=> ?_⟩
  have hz:=hH.lock (.frz od (.dK (kvM s.Ms)))
  obtain ⟨hdx,hh⟩:=hz.ho
  have sz:30 < sizeLine:=by decide
  refine ⟨_,rfl,aO hh T.bO T.eQ rfl ⟨s.md,od,kvM s.Ms,rfl,aj,fun D hD=> ?_⟩⟩
  refine eE wkD (fun H H' h s=>s _ _ h) aj (by unfold kvM; rw [List.length_map]; have:=W.nm; omega) hD (fun i=>(s.Ms[i]?).bind fun M=>if (M.m.rank == rank && Vbaham.could S M.m x.p) then some (V.ref M.a) else none) ?_ ?_
  ·rintro i v H1 H2 Kt Kf hi sm ⟨rfl,key,hv2⟩ kt kf
   obtain ⟨M,hM,_,rfl⟩:=Ku hv2
   have mM:=List.mem_of_getElem? hM
   have hz1:=hz.same sm
   obtain ⟨mdx,hm⟩:=hz1.mo M mM
   rw [hM] at kt kf
   refine ⟨rfl,?_⟩
   refine ⟨_,rfl,aO hm T.aN T.wU rfl ⟨_,rfl,rfl,_,rfl,?_⟩⟩
   have kt:∀ y H4,(if (M.m.rank == rank && Vbaham.could S M.m x.p) then some (V.ref M.a) else none)=some y->aC H2 H4->Kt y H4:=kt
   have kf:∀ H4,(if (M.m.rank == rank && Vbaham.could S M.m x.p) then some (V.ref M.a) else none)=none->aC H2 H4->Kf H4:=kf
   rw [yD]
   cases hc:(M.m.rank == rank) with
   | true =>
    rw [hc] at kt kf
    refine bN ⟨_,rfl,_,rfl,_,rfl,s,S,M,x,rfl,hz1,W,mM,mx,fun H3 s3=>⟨_,rfl,?_⟩⟩
    cases hd:Vbaham.could S M.m x.p with
    | true =>
     rw [hd] at kt
     exact bN ⟨_,rfl,kt _ _ rfl s3⟩
    | false =>
     rw [hd] at kf
     exact bY (kf _ rfl s3)
   | false =>
    rw [hc] at kf
    exact bY (kf _ rfl (aC.refl _))
  ·intro H1 sm hl
   have hn:D ≠ s.md:=fun z=>by rw [z,aj] at hD; cases hD
   have sb:=Ai hH.dic sm
   have e:(kvM s.Ms).length=s.Ms.length:=by unfold kvM; rw [List.length_map]
   rw [e,jP] at hl
   refine ⟨sm _ _ aj,_,rfl,?_⟩
   have hz2:=hH.toHz.same sb
   let ms:=s.Ms.filter fun M=>M.m.rank == rank && Vbaham.could S M.m x.p
   have hms:∀ M ∈ ms,M ∈ s.Ms:=fun M m=>(List.mem_filter.mp m).1
   refine ⟨D,fo,ms.map (fun M=>V.ref M.a),ms.map (fun M=>[(vy M.xs:Int),(M.m.id:Int)]),2,fdo,["member"],lV C,rfl,rfl,SqL.of ((ak hn).trans hl),by rw [List.length_map,List.length_map],fun z m=> ?_,iD.ok,hr.mono (by decide),iD.bd,?_,?_⟩
   ·obtain ⟨_,_,rfl⟩:=List.mem_map.mp m
    exact (by decide:0 < 2)
   ·intro i v z h1 h2 H' Kr sm2 kk
    obtain ⟨M,hM,rfl⟩:=cU h1
    obtain ⟨M',hM',rfl⟩:=cU h2
    rw [hM] at hM'
    cases hM'
    exact ⟨s,S,M,rfl,hz2.same sm2,W,hms M (List.mem_of_getElem? hM),fun t H'' a b=>kk t H'' a b⟩
   ·intro ys zs p H' sm2 hp hq hperm hsort eys
    have ez:(ms.map (fun M=>[(vy M.xs:Int),(M.m.id:Int)])).zip (ms.map (fun M=>V.ref M.a))=ms.map fun M=>([(vy M.xs:Int),(M.m.id:Int)],V.ref M.a):=by
     rw [List.zip_map']
    rw [ez] at hperm
    obtain ⟨gs,pg,eg⟩:=pM _ hperm ms rfl
    subst eg
    rw [List.map_map] at eys
    subst eys
    have hso:gs.Pairwise V6:=by
     rw [List.pairwise_map] at hsort
     refine hsort.imp fun {a b} h=> ?_
     have q:=lex2 h
     unfold V6
     omega
    exact k H' p gs (sb.trans sm2) hq (fun M m=>hms M (pg.mem_iff.mp m)) (by rw [pg.length_eq]; exact List.length_filter_le ..) (W.rel.fitting x.p rank (fun M _=>rfl) pg hso) pg hso
abbrev o4:Stmt:=top 58
theorem fK:aG ["keeper", "giver", "t", "leg", "kept"] ["keeper", "giver", "t"] (aD o4):=⟨rfl,rfl,rfl,by decide +kernel,rfl,by decide +kernel,by decide +kernel⟩
def vB (C:Ads):Sp:=fun vs H Q _=>∃ (s:HS) (S:State) (M N:MB) (t:Nat),vs=[.ref M.a,.ref N.a,.int t]/\Hz C H s/\Wf s S/\M ∈ s.Ms/\N ∈ s.Ms/\∀ (H':Hp) (p:Addr),aC H H'->H p=none->H' p=some (.lst (refs (iM t M.xs N.xs)))->Q (.ref p) H'
theorem Hi {f:Addr} {fd:FuncData} (F:Fun K "mixed_legs" "mixed_legs" o4 f fd) (T:cB w K mg C):aY P w K mg base CX0 1 f fd ["keeper", "giver", "t"] (vB C):=by
 refine F.ok fK (fun vs H Q E h=> ?_) (fun cdv A outer s H vs Q E hr h=> ?_)
 ·obtain ⟨_,_,_,_,_,rfl,_⟩:=h
  rfl
 ·obtain ⟨s,S,M,N,t,rfl,hz,W,mM,mN,k⟩:=h
  refine ⟨_,(ao (ji (i:=4) (own:=[("leg",3)]) rfl fK.nd rfl rfl (kZ rfl rfl rfl rfl) (cR (xf (pv 0))) (bu rfl) (fun _ _ _ _ _=>(xg 3 fK.nd)) (fun _ _ _ _ _=>(uW (aV xX (kf K (pv 3)) (pv 2) (bh _)))) (fun _ _ _ _ _=>(pv 3)))
   (au (aJ (bB jz (pv 4) (jk (own:=[("leg",3)]) rfl fK.nd (cR (xf (pv 1))) (bu rfl) (fun _ _ _ _ _=>(xg 3 fK.nd)) (fun _ _ _ _ _=>(uW (aV MJ (kf K (pv 3)) (pv 2) (bh _)))) (fun _ _ _ _ _=>(pv 3))))))),?_⟩
  obtain ⟨mdx,hm⟩:=hz.mo M mM
  obtain ⟨ndx,hn⟩:=hz.mo N mN
  have l1:=hz.m5 (K:=K) W mM
  have l2:=hz.m5 (K:=K) W mN
  have n1:=(W.okM mM).len
  have n2:=(W.okM mN).len
  have sz:1000 < sizeLine:=by decide
  refine ⟨_,rfl,aO hm T.aN T.cG rfl ⟨M.la,rfl,⟨_,l1.lst⟩,fun D hD=> ?_⟩⟩
  refine eE (wkL (K:=K) (a:=M.la) (xs:=refs M.xs)) (fun H H' h s=>s.seq h) l1.lst (by rw [aM]; omega) hD (fun i=>(M.xs[i]?).bind fun y=>if decide (y.g.dep < t) then some (V.ref y.a) else none) ?_ ?_
  ·rintro i v H1 H2 Kt Kf hi sm ⟨rfl,hv2⟩ kt kf
   obtain ⟨y,hy,rfl⟩:=dm hv2
   obtain ⟨dx,nd,g1,_⟩:=(l1.at_ y (List.mem_of_getElem? hy)).same sm
   rw [hy] at kt kf
   refine ⟨rfl,_,rfl,aO g1 T.bQ T.lB rfl ⟨_,rfl,_,_,rfl,rfl,_,rfl,?_⟩⟩
   by_cases hc:y.g.dep < t
   ·rw [decide_eq_true (by omega)]
    exact bN ⟨_,rfl,kt _ _ (by show (if _ then _ else _)=_; rw [decide_eq_true hc]; rfl) (aC.refl _)⟩
   ·rw [decide_eq_false (by omega)]
    exact bY (kf _ (by show (if _ then _ else _)=_; rw [decide_eq_false hc]; rfl) (aC.refl _))
  ·intro H1 sm hl
   rw [aM,jP] at hl
   refine ⟨_,rfl,_,rfl,aO (sm _ _ hn) T.aN T.cG rfl ⟨N.la,rfl,⟨_,sm.seq l2.lst⟩,fun D2 hD2=> ?_⟩⟩
   refine eE (wkL (K:=K) (a:=N.la) (xs:=refs N.xs)) (fun H H' h s=>s.seq h) (sm.seq l2.lst) (by rw [aM]; omega) hD2 (fun i=>(N.xs[i]?).bind fun y=>if decide (t<=y.g.dep) then some (V.ref y.a) else none) ?_ ?_
   ·rintro i v H3 H4 Kt Kf hi sm2 ⟨rfl,hv2⟩ kt kf
    obtain ⟨y,hy,rfl⟩:=dm hv2
    obtain ⟨dx,nd,g1,_⟩:=(l2.at_ y (List.mem_of_getElem? hy)).same (sm.trans sm2)
    rw [hy] at kt kf
    refine ⟨rfl,_,rfl,aO g1 T.bQ T.lB rfl ⟨_,rfl,_,_,rfl,rfl,_,rfl,?_⟩⟩
    by_cases hc:t<=y.g.dep
    ·rw [decide_eq_true (by omega)]
     exact bN ⟨_,rfl,kt _ _ (by show (if _ then _ else _)=_; rw [decide_eq_true hc]; rfl) (aC.refl _)⟩
    ·rw [decide_eq_false (by omega)]
     exact bY (kf _ (by show (if _ then _ else _)=_; rw [decide_eq_false hc]; rfl) (aC.refl _))
   ·intro H3 sm2 hl2
    rw [aM,jP] at hl2
    refine ⟨D,D2,_,_,rfl,rfl,sm2 _ _ hl,hl2,?_,fun p hp=> ?_⟩
    ·rw [List.length_map,List.length_map]
     have a1:=List.length_filter_le (fun y:LG=>decide (y.g.dep < t)) M.xs
     have a2:=List.length_filter_le (fun y:LG=>decide (t<=y.g.dep)) N.xs
     omega
    ·have s3:=sm.trans sm2
     refine k _ p (s3.trans (aC.upd hp)) ?_ ?_
     ·cases e:H p with
      | none=>rfl
      | some u=>rw [s3 _ _ e] at hp; cases hp
     ·rw [aj]
      unfold refs iM
      rw [List.map_append]
end
theorem Jd {H:Hp} {a b:Addr} {xs:List LG} {ns:List Nat} (ha:H a=some (.lst (refs xs))) (hb:H b=some (.lst (nats ns))) (hn:ns ≠ []):a ≠ b:=by
 rintro rfl
 rw [ha] at hb
 injection hb with e
 injection e with e
 cases ns with
 | nil=>exact hn rfl
 | cons n ns =>
  cases xs with
  | nil=>cases e
  | cons x xs =>
   unfold refs nats at e
   rw [List.map_cons,List.map_cons] at e
   injection e with e1 _
   cases e1
theorem fV.Lw {C:Ads} {H:Hp} {a l:Addr} {p:Nat} {g:Leg} {xs:List LG} {o:HO} (h:fV C H a p g) (hl:H l=some (.lst (refs xs))) (hn:g.needs ≠ []):fV C (upd H l o) a p g:=by
 obtain ⟨dx,nd,h1,h2⟩:=h
 refine ⟨dx,nd,?_,?_⟩
 ·rw [ak (fun z=>by rw [z,hl] at h1; cases h1)]; exact h1
 ·rw [ak (Jd hl h2 hn).symm]; exact h2
theorem kE.Lw {C:Ads} {H:Hp} {a w l:Addr} {r:Rules} {xs:List LG} {o:HO} (h:kE C H a w r) (hl:H l=some (.lst (refs xs))) (hn:r.longest ≠ []) (hw:w ≠ l):kE C (upd H l o) a w r:=by
 obtain ⟨dx,ln,ws,h1,h2,h3,h4,h5⟩:=h
 refine ⟨dx,ln,ws,?_,?_,?_,h4,fun i b p e1 e2=> ?_⟩
 ·rw [ak (fun z=>by rw [z,hl] at h1; cases h1)]; exact h1
 ·rw [ak (Jd hl h2 hn).symm]; exact h2
 ·rw [ak hw]; exact h3
 ·have:=h5 i b p e1 e2
  rw [ak (fun z=>by rw [z,hl] at this; cases this)]; exact this
theorem Ag {f:MB->Nat}:∀ {l:List MB},(l.map f).Nodup->∀ {M N:MB},M ∈ l->N ∈ l->f M=f N->M=N
 | [],_,_,_,m,_,_=>by cases m
 | A :: l,nd,M,N,mM,mN,e=>by
  rw [List.map_cons,List.nodup_cons] at nd
  rcases List.mem_cons.mp mM with h1 | h1
  ·rcases List.mem_cons.mp mN with h2 | h2
   ·rw [h1,h2]
   ·exact absurd (List.mem_map.mpr ⟨N,h2,by rw [<-e,h1]⟩:f A ∈ l.map f) nd.1
  ·rcases List.mem_cons.mp mN with h2 | h2
   ·exact absurd (List.mem_map.mpr ⟨M,h1,by rw [e,h2]⟩:f A ∈ l.map f) nd.1
   ·exact Ag nd.2 h1 h2 e
theorem Wf.ndne {s:HS} {S:State} (W:Wf s S) {x:LG} (m:x ∈ s.Lg):x.g.needs ≠ []:=fun z=>by
 have:=W.nd3 x m
 rw [z] at this
 cases this
theorem Wf.Z8 {s:HS} {S:State} (W:Wf s S):s.R.longest ≠ []:=fun z=>by
 have:=W.lon
 rw [z] at this
 cases this
theorem Ug (f:MB->List LG) (Ms:List MB):kvM (bV f Ms)=kvM Ms:=by
 unfold kvM bV
 rw [List.map_map]
 rfl
theorem Wq (f:MB->List LG) (Ms:List MB):(bV f Ms).map (·.la)=Ms.map (·.la):=by
 unfold bV
 rw [List.map_map]
 rfl
theorem Ah {f:MB->List LG} {Ms:List MB} {N:MB} (m:N ∈ bV f Ms):∃ M ∈ Ms,N={ M with xs:=f M }:=by
 unfold bV at m
 obtain ⟨M,mM,e⟩:=List.mem_map.mp m
 exact ⟨M,mM,e.symm⟩
theorem bx.JH {C:Ads} {H:Hp} {s:HS} {S:State} (h:bx C H s) (W:Wf s S) {M:MB} (mM:M ∈ s.Ms) (f:MB->List LG) (zs:List LG) (hf:∀ N ∈ s.Ms,f N=if N.m.id=M.m.id then zs else N.xs):bx C (upd H M.la (.lst (refs zs))) { s with Ms:=bV f s.Ms }:=by
 have hl:=h.ml M mM
 have nd:=h.nd
 rw [List.nodup_cons,List.nodup_cons] at nd
 obtain ⟨n1,n2,n3⟩:=nd
 have mla:M.la ∈ s.Ms.map (·.la):=List.mem_map.mpr ⟨M,mM,rfl⟩
 have insN:∀ {b Cc dx fs},H b=some (.ins Cc dx fs)->b ≠ M.la:=fun e z=>by rw [z,hl] at e; cases e
 refine ⟨⟨?_,h.rules.Lw hl W.Z8 (fun z=>n1 (by rw [z]; simp only [List.mem_cons]; exact .inr mla)),?_,fun x m=>(h.lg x m).Lw hl (W.ndne m),fun N m=> ?_,fun N m=> ?_,?_⟩,?_⟩
 ·obtain ⟨dx,e⟩:=h.ho
  exact ⟨dx,by rw [ak (insN e)]; exact e⟩
 ·show upd H M.la _ s.ll=_
  rw [ak (fun z=>n2 (by rw [z]; exact mla))]
  exact h.ll
 ·obtain ⟨N',mN,rfl⟩:=Ah m
  obtain ⟨dx,e⟩:=h.mo N' mN
  exact ⟨dx,by show upd H M.la _ N'.a=_; rw [ak (insN e)]; exact e⟩
 ·obtain ⟨N',mN,rfl⟩:=Ah m
  show upd H M.la _ N'.la=some (.lst (refs (f N')))
  rw [hf N' mN]
  by_cases e:N'.m.id=M.m.id
  ·rw [if_pos e,W.rel.CQ mM mN e,aj]
  ·rw [if_neg e,ak (fun z=>e (by rw [Ag n3 mN mM z]))]
   exact h.ml N' mN
 ·rw [show (({ s with Ms:=bV f s.Ms }:HS).Ms.map (·.la))=s.Ms.map (·.la) from Wq f s.Ms]
  exact h.nd
 ·show upd H M.la _ s.md=some (.dK (kvM (bV f s.Ms)))
  rw [Ug,ak (fun z=>by have:=h.dic; rw [z,hl] at this; cases this)]
  exact h.dic
theorem Wf.bV {s:HS} {S S':State} (W:Wf s S) {f:MB->List LG} (r:Rel S' s.R s.Lg (bV f s.Ms)):Wf { s with Ms:=bV f s.Ms } S':=by
 refine ⟨r,W.nl,?_,W.lon,W.win,W.val,W.nd3,W.nd4,fun N m=> ?_⟩
 ·show (Crew.bV f s.Ms).length<=30
  unfold Crew.bV
  rw [List.length_map]
  exact W.nm
 ·obtain ⟨M,mM,rfl⟩:=Ah m
  exact W.rk M mM
def abH (F:Addr->Bool) (H:Hp) (ra:Addr) (rs:List (List Int)):Prop:=∃ as:List Addr,H ra=some (.lst (as.map V.ref))/\as.length=rs.length/\∀ (i:Nat) (a:Addr) (r:List Int),as[i]? = some a->rs[i]? = some r->off F H a=some (.lst (r.map V.int))
def bZ (C:Ads) (A:HS->Vbaham.Call->List V->List (List Int)->Prop):Sp:=fun vs H Q _=>∃ (F:Addr->Bool) (s:HS) (S:State) (c:Vbaham.Call) (fa ra:Addr) (fs:List V) (rs:List (List Int)),vs=[.ref s.h,.ref fa,.ref ra] /\
 bx C (off F H) s/\Wf s S/\((∀ b,F b=true->H b ≠ none)/\F fa=true)/\H fa=some (.lst fs)/\abH F H ra rs/\A s c fs rs/\qj C F s (Vbaham.step S c) H Q
theorem bj {C:Ads} {A:HS->Vbaham.Call->List V->List (List Int)->Prop} {vs:List V} {H:Hp} {Q:V->Hp->Prop} {E:XK} (h:bZ C A vs H Q E):vs.length=3:=by
 obtain ⟨_,_,_,_,_,_,_,_,rfl,_⟩:=h
 rfl
def S6 (s:HS) (c:Vbaham.Call) (fs:List V) (_:List (List Int)):Prop:=∃ M ∈ s.Ms,c = .check M.m.id/\fs=[.ref M.a]
def GR (s:HS) (c:Vbaham.Call) (fs:List V) (_:List (List Int)):Prop:=∃ M ∈ s.Ms,∃ x ∈ s.Lg,c = .unassign M.m.id x.p/\fs=[.ref M.a,.ref x.a]
def Pj (s:HS) (c:Vbaham.Call) (fs:List V) (_:List (List Int)):Prop:=∃ M ∈ s.Ms,∃ x ∈ s.Lg,c = .assign M.m.id x.p/\fs=[.ref M.a,.ref x.a]
def Xz (s:HS) (c:Vbaham.Call) (fs:List V) (_:List (List Int)):Prop:=∃ x ∈ s.Lg,∃ rank:Nat,c = .fits x.p rank/\fs=[.ref x.a,.int rank]
theorem onM {s:HS} {S:State} (W:Wf s S) {M:MB} (mM:M ∈ s.Ms) (t:Member->State × List Int):Vbaham.onMember S M.m.id t=t M.m:=by
 unfold Vbaham.onMember
 rw [W.rel.pO mM]
theorem onL {s:HS} {S:State} (W:Wf s S) {x:LG} (mx:x ∈ s.Lg) (t:Leg->State × List Int):Vbaham.onLeg S x.p t=t x.g:=by
 unfold Vbaham.onLeg
 rw [W.rel.legAt mx]
theorem Al (l:List Nat):(Vbaham.ints l).map V.int=nats l:=by
 unfold Vbaham.ints nats
 rw [List.map_map]
 rfl
theorem ik (l:List Nat):(Vbaham.ok l).map V.int = .int 0 :: nats l:=by
 unfold Vbaham.ok
 rw [List.map_cons,Al]
theorem same_none {H H':Hp} {p:Addr} (s:aC H H') (h:H' p=none):H p=none:=by
 cases e:H p with
 | none=>rfl
 | some u=>rw [s _ _ e] at h; cases h
section
variable {P:Program} {w:World} {K:PySem.W.Frag} {mg:Str->Option Value} {base:Heap} {C:Ads}
abbrev pI:Stmt:=top 57
theorem vK:aG ["house", "arguments", "rows", "member"] ["house", "arguments", "rows"] (aD pI):=⟨rfl,rfl,rfl,by decide +kernel,rfl,by decide +kernel,by decide +kernel⟩
theorem HD {f fl:Addr} {fd fdl:FuncData} (F:Fun K "call_check" "call_check" pI f fd) (T:cB w K mg C) (dH:FnI P w K mg base "fault_of" 7 fl fdl ["rules", "base", "legs"] (lu K C)):aY P w K mg base CX0 8 f fd ["house", "arguments", "rows"] (bZ C S6):=by
 refine F.ok vK (fun vs H Q E h=>bj h) (fun cdv A outer s H vs Q E hr h=> ?_)
 obtain ⟨Fm,s,S,c,fa,ra,fs,rs,rfl,hH,W,hF,hfa,hra,⟨M,mM,rfl,rfl⟩,k⟩:=h
 have hz:=hH.on.toHz
 refine ⟨_,(ao (bG 3 vK.nd (xl (pv 1) aB))
   (au (aJ (bB jz (aX (aa aB aq)) (TV Lf (by rfl) T.Wh abN (aa (aH dH (hr.mono (by decide)) (aa (xf (pv 0)) (aa (xf (pv 3)) (aa (xf (pv 3)) aq)))) aq)))))),?_⟩
 refine ⟨_,rfl,fa,_,_,_,rfl,rfl,SqL.of hfa,aK (j:=0) rfl rfl,?_⟩
 refine ⟨(by show 1<=sizeLine; decide),fun p0 hp0=> ?_⟩
 have s0:aC H (upd H p0 (.lst [.int 0])):=aC.upd hp0
 have hz0:=hz.same s0
 obtain ⟨hdx,hh⟩:=hz0.ho
 obtain ⟨mdx,hm⟩:=hz0.mo M mM
 refine ⟨_,rfl,aO hh T.bO T.pU rfl ⟨_,rfl,aO hm T.aN T.Fi rfl ⟨_,rfl,aO hm T.aN T.cG rfl ?_⟩⟩⟩
 refine ⟨s.r,M.la,M.m.base,s.R,M.xs,rfl,hz0.rules.at_,hz0.m5 W mM,W.okM mM,fun H' t ys sm hp ho ht=> ?_⟩
 refine ⟨t,_,rfl,.inr (SqT.of ht),fun l hl=> ?_⟩
 have s1:=sm.trans (aC.upd (o:= .lst (R0 (Vbaham.fault s.R M.m.base (legs ys)))) hl)
 refine ⟨p0,l,_,_,rfl,rfl,s1 _ _ aj,aj,?_,fun p hp2=> ?_⟩
 ·have:(R0 (Vbaham.fault s.R M.m.base (legs ys))).length=2:=by cases Vbaham.fault s.R M.m.base (legs ys) <;> rfl
  rw [this]
  decide
 have e:=iR (W.rel.has mM) hp ho
 rw [W.rel.rules] at e
 have st:Vbaham.step S (.check M.m.id)=(S,match Vbaham.faultOf S M.m with
  | none=>[0,0,0]
  | some x=>Vbaham.ok [x.1,x.2]):=by
  show Vbaham.onMember S M.m.id _=_
  rw [onM W mM]
  cases Vbaham.faultOf S M.m <;> rfl
 rw [st] at k
 refine k.same hH W ((s0.trans s1).trans (aC.upd hp2)) ?_
 rw [aj,e]
 cases Vbaham.fault s.R M.m.base (legs ys) <;> rfl
abbrev tG:Stmt:=top 64
theorem oW:aG ["house", "arguments", "rows", "member"] ["house", "arguments", "rows"] (aD tG):=⟨rfl,rfl,rfl,by decide +kernel,rfl,by decide +kernel,by decide +kernel⟩
theorem Km {f fl:Addr} {fd fdl:FuncData} (F:Fun K "call_fits" "call_fits" tG f fd) (T:cB w K mg C) (cz:FnI P w K mg base "fitting_members" 10 fl fdl ["house", "leg", "rank"] (gf C)):aY P w K mg base CX0 11 f fd ["house", "arguments", "rows"] (bZ C Xz):=by
 refine F.ok oW (fun vs H Q E h=>bj h) (fun cdv A outer s H vs Q E hr h=> ?_)
 obtain ⟨Fm,s,S,c,fa,ra,fs,rs,rfl,hH,W,hF,hfa,hra,⟨x,mx,rank,rfl,rfl⟩,k⟩:=h
 refine ⟨_,(au (aJ (bB jz (aX (aa aB aq)) (jk (own:=[("member",3)]) rfl oW.nd (cR (aH cz (hr.mono (by decide)) (aa (pv 0) (aa (xl (pv 1) aB) (aa (xl (pv 1) aB) aq))))) (bu rfl) (fun _ _ _ _ _=>(xg 3 oW.nd)) (fun _ _ _ _ _=>cF) (fun _ _ _ _ _=>(kf K (pv 3))))))),?_⟩
 refine ⟨(by show 1<=sizeLine; decide),fun p0 hp0=> ?_⟩
 have s0:aC H (upd H p0 (.lst [.int 0])):=aC.upd hp0
 have sz:1000 < sizeLine:=by decide
 refine ⟨_,rfl,_,rfl,fa,_,_,_,rfl,rfl,SqL.of (s0 _ _ hfa),aK (j:=0) rfl rfl,_,rfl,fa,_,_,_,rfl,rfl,SqL.of (s0 _ _ hfa),aK (j:=1) rfl rfl,?_⟩
 refine ⟨s,S,x,rank,rfl,hH.on.same s0,W,mx,fun H1 l qs s1 hl hq hn ef _ _=> ?_⟩
 have nm:=W.nm
 have hz1:=(hH.on.toHz.same s0).same s1
 refine ⟨l,rfl,⟨_,SqL.of hl⟩,fun D hD=> ?_⟩
 refine eE (wkL (K:=K) (a:=l) (xs:=qs.map fun M=>V.ref M.a)) (fun H H' h s=>s.seq h) (SqL.of hl) (by rw [List.length_map]; omega) hD (fun i=>(qs[i]?).map fun M=>V.int M.m.id) ?_ ?_
 ·rintro i v H3 H4 Kt Kf hi sm2 ⟨rfl,hv2⟩ kt kf
  obtain ⟨M,hM,rfl⟩:=cU hv2
  obtain ⟨mdx,hm⟩:=(hz1.same sm2).mo M (hq M (List.mem_of_getElem? hM))
  refine ⟨rfl,_,rfl,aO hm T.aN T.jm rfl (kt _ _ ?_ (aC.refl _))⟩
  rw [hM]
  rfl
 ·intro H3 sm2 hl2
  rw [List.length_map,gB] at hl2
  refine ⟨p0,D,_,_,rfl,rfl,sm2 _ _ (s1 _ _ aj),hl2,?_,fun p hp2=> ?_⟩
  ·rw [List.length_map]
   show 1 + _<=_
   omega
  have st:Vbaham.step S (.fits x.p rank)=(S,Vbaham.ok ((Vbaham.fitting S x.p rank).map fun m=>m.id)):=by
   show Vbaham.onLeg S x.p _=_
   rw [onL W mx]
  rw [st] at k
  refine k.same hH W (((s0.trans s1).trans sm2).trans (aC.upd hp2)) ?_
  rw [aj,ik,ef]
  unfold nats
  rw [List.map_map]
  rfl
abbrev jy:Stmt:=top 56
theorem iI:aG ["house", "arguments", "rows", "member", "leg"] ["house", "arguments", "rows"] (aD jy):=⟨rfl,rfl,rfl,by decide +kernel,rfl,by decide +kernel,by decide +kernel⟩
theorem NT {a:Nat}:∀ {l:List Nat},a ∈ l->∃ j:Nat,l[j]? = some a/\∀ m,m < j->l[m]? ≠ some a
 | [],m=>by cases m
 | b :: l,m=>by
  by_cases e:b=a
  ·exact ⟨0,by rw [e]; rfl,fun m hm=>by omega⟩
  ·have m':a ∈ l:=(List.mem_cons.mp m).resolve_left (fun z=>e z.symm)
   obtain ⟨j,h1,h2⟩:=NT m'
   refine ⟨j + 1,by simpa using h1,fun i hi=> ?_⟩
   cases i with
   | zero=>simpa using e
   | succ i=>simpa using h2 i (by omega)
theorem Af {f:Addr} {fd:FuncData} (F:Fun K "call_unassign" "call_unassign" jy f fd) (T:cB w K mg C):aY P w K mg base CX0 1 f fd ["house", "arguments", "rows"] (bZ C GR):=by
  refine F.ok iI (fun vs H Q E h=>bj h) (fun cdv A outer s H vs Q E hr h=> ?_)
  obtain ⟨Fm,s,S,c,fa,ra,fs,rs,rfl,hH,W,hF,hfa,hra,⟨M,mM,x,mx,rfl,rfl⟩,k⟩:=h
  have hz:=hH.on.toHz
  refine ⟨_,(ao (bG 3 iI.nd (xl (pv 1) aB))
      (ao (bG 4 iI.nd (xl (pv 1) aB))
      (ao (cV (aV (Ja T.FQ hr.units) (pv 4) (xf (pv 3)) rfl)
        (au (aJ (aX (aa (bC rfl T.dB) aq))))
        bD)
      (ao (uX (IK PySem.F.plainAttrs_list PySem.F.slot_list_remove PySem.F.type_list_remove (T6 T.FQ hr.units) (xf (pv 3)) (aa (pv 4) aq)))
      (au (aJ (aX (aa aB aq)))))))),?_⟩
  obtain ⟨mdx,hm⟩:=hz.mo M mM
  have mm:=hz.mem W mx (W.rel.sub M mM)
  refine ⟨_,rfl,fa,_,_,_,rfl,rfl,SqL.of hfa,aK (j:=0) rfl rfl,_,rfl,fa,_,_,_,rfl,rfl,SqL.of hfa,aK (j:=1) rfl rfl,?_⟩
  refine ⟨_,rfl,_,rfl,aO hm T.aN T.cG rfl ⟨x.a,M.la,M.xs.map (·.a),rfl,rfl,?_,(hz.lg x mx).ins,Ao (hz.jB W (W.rel.sub M mM)),_,rfl,?_⟩⟩
  · rw [<-pK]
    exact SqL.of (hz.ml M mM)
  show if (!decide (x.a ∈ M.xs.map (·.a)))=true then _ else _
  have e1:S.pairs.contains (M.m.id,x.p)=decide (x.p ∈ M.xs.map (·.p)):=by
    rw [List.contains_eq_mem]
    exact decide_eq_decide.mpr (pR (W.rel.has mM) x.p)
  have st:Vbaham.step S (.unassign M.m.id x.p)=if decide (x.p ∈ M.xs.map (·.p))=false then (S,[-8]) else ({ S with pairs:=S.pairs.filter fun y=>y != (M.m.id,x.p) },[0]):=by
    show Vbaham.onMember S M.m.id _=_
    rw [onM W mM,onL W mx,e1]
  rw [st] at k
  by_cases hc:x.a ∈ M.xs.map (·.a)
  · rw [decide_eq_true hc]
    rw [decide_eq_true (mm.mp hc)] at k
    obtain ⟨j,hj,hj2⟩:=NT hc
    refine bY ⟨_,rfl,aO hm T.aN T.cG rfl ⟨.inl ⟨rfl,_,SqL.of (hz.ml M mM)⟩,_,rfl,M.la,x.a,M.xs.map (·.a),j,rfl,rfl,?_,(hz.lg x mx).ins,Ao (hz.jB W (W.rel.sub M mM)),hj,hj2,?_⟩⟩
    · rw [<-pK]
      exact hz.ml M mM
    have hMj:M.xs[j]? = some x:=by
      rw [List.getElem?_map] at hj
      cases e:M.xs[j]? with
      | none=>rw [e] at hj; cases hj
      | some y =>
        rw [e] at hj
        have ea:y.a=x.a:=Option.some.inj hj
        have my:=W.rel.sub M mM y (List.mem_of_getElem? e)
        have l1:=hz.lg y my
        rw [ea] at l1
        rw [W.rel.uY my mx (l1.CQ (hz.lg x mx))]
    have hMla:=bL (hH.ml M mM)
    have eL:((M.xs.map (·.a)).eraseIdx j).map V.ref=refs (M.xs.eraseIdx j):=by
      rw [La,<-pK]
    rw [eL]
    refine ⟨(by show 1<=sizeLine; decide),fun q hq=> ?_⟩
    have rel:=W.rel.unassign mM hMj
    refine k _ q { s with Ms:=bV (fun N=>if N.m.id=M.m.id then N.xs.eraseIdx j else N.xs) s.Ms } ((Fr.upd hMla.1).trans (aC.upd hq).fr) ?_ rfl (W.bV rel) aj
    refine bx.same (aC.upd hq).off ?_
    rw [jK hMla.1]
    refine hH.JH W mM _ (M.xs.eraseIdx j) fun N mN=> ?_
    by_cases e:N.m.id=M.m.id
    · rw [if_pos e,if_pos e,W.rel.CQ mM mN e]
    · rw [if_neg e,if_neg e]
  · rw [decide_eq_false hc]
    rw [decide_eq_false (fun z=>hc (mm.mpr z))] at k
    refine bN ⟨(by show 1<=sizeLine; decide),fun q hq=> ?_⟩
    exact k.same hH W (aC.upd hq) aj
end
theorem Ej (o:Option (Nat × Nat)):decide (refN o < 0)=o.isSome:=by
 cases o with
 | none=>rfl
 | some x=>exact decide_eq_true (by show -10 - (x.1:Int) < 0; omega)
section
variable {P:Program} {w:World} {K:PySem.W.Frag} {mg:Str->Option Value} {base:Heap} {C:Ads}
abbrev mW:Stmt:=top 55
theorem gW:aG ["house", "arguments", "rows", "member", "leg", "refusal"] ["house", "arguments", "rows"] (aD mW):=⟨rfl,rfl,rfl,by decide +kernel,rfl,by decide +kernel,by decide +kernel⟩
theorem EY {f fl fh:Addr} {fd fdl fdh:FuncData} (F:Fun K "call_assign" "call_assign" mW f fd) (T:cB w K mg C) (cH:FnI P w K mg base "missing_in" 2 fh fdh ["house", "leg", "rank"] (iV C)) (bH:FnI P w K mg base "refusal_with" 8 fl fdl ["house", "member", "legs"] (fW K C)) :
    aY P w K mg base CX0 9 f fd ["house", "arguments", "rows"] (bZ C Pj):=by
  refine F.ok gW (fun vs H Q E h=>bj h) (fun cdv A outer s H vs Q E hr h=> ?_)
  obtain ⟨Fm,s,S,c,fa,ra,fs,rs,rfl,hH,W,hF,hfa,hra,⟨M,mM,x,mx,rfl,rfl⟩,k⟩:=h
  have hz:=hH.on.toHz
  refine ⟨_,(ao (bG 3 gW.nd (xl (pv 1) aB))
      (ao (bG 4 gW.nd (xl (pv 1) aB))
      (ao (cV (aV (Wd T.FQ hr.units) (pv 4) (xf (pv 3)) rfl)
        (au (aJ (aX (aa (bC rfl T.dB) aq))))
        bD)
      (ao (cV (aV vL (aH cH (hr.mono (by decide)) (aa (pv 0) (aa (pv 4) (aa (xf (pv 3)) aq)))) aB (bh _))
        (au (aJ (aX (aa (bC rfl T.jL) aq))))
        bD)
      (ao (bG 5 gW.nd (aH bH (hr.mono (by decide)) (aa (pv 0) (aa (pv 3) (aa (bB jz (xf (pv 3)) (aX (aa (pv 4) aq))) aq)))))
      (ao (cV (aV xX (pv 5) aB (bh _))
        (au (aJ (aX (aa (pv 5) aq))))
        bD)
      (ao (xap (xf (pv 3)) (pv 4))
      (au (aJ (aX (aa aB aq))))))))))),?_⟩
  obtain ⟨mdx,hm⟩:=hz.mo M mM
  have mm:=hz.mem W mx (W.rel.sub M mM)
  have sz:1000 < sizeLine:=by decide
  refine ⟨_,rfl,fa,_,_,_,rfl,rfl,SqL.of hfa,aK (j:=0) rfl rfl,_,rfl,fa,_,_,_,rfl,rfl,SqL.of hfa,aK (j:=1) rfl rfl,?_⟩
  refine ⟨_,rfl,_,rfl,aO hm T.aN T.cG rfl ⟨x.a,M.la,M.xs.map (·.a),rfl,rfl,?_,(hz.lg x mx).ins,Ao (hz.jB W (W.rel.sub M mM)),_,rfl,?_⟩⟩
  · rw [<-pK]
    exact SqL.of (hz.ml M mM)
  show if (decide (x.a ∈ M.xs.map (·.a)))=true then _ else _
  have e1:S.pairs.contains (M.m.id,x.p)=decide (x.p ∈ M.xs.map (·.p)):=by
    rw [List.contains_eq_mem]
    exact decide_eq_decide.mpr (pR (W.rel.has mM) x.p)
  have st:Vbaham.step S (.assign M.m.id x.p)=if decide (x.p ∈ M.xs.map (·.p))=true then (S,[-8]) else if Vbaham.wants S x.p M.m.rank=false then (S,[-9]) else Vbaham.ifLegal S (Vbaham.withPair S M.m.id x.p) [M.m] [0]:=by
    show Vbaham.onMember S M.m.id _=_
    rw [onM W mM,onL W mx,e1]
  rw [st] at k
  by_cases hc:x.a ∈ M.xs.map (·.a)
  · rw [decide_eq_true hc]
    rw [decide_eq_true (mm.mp hc)] at k
    refine bN ⟨(by show 1<=sizeLine; decide),fun q hq=> ?_⟩
    exact k.same hH W (aC.upd hq) aj
  rw [decide_eq_false hc]
  have hnp:x.p ∉ M.xs.map (·.p):=fun z=>hc (mm.mpr z)
  rw [decide_eq_false hnp] at k
  refine bY ?_
  have hrk:=W.rk M mM
  refine ⟨_,rfl,_,rfl,_,rfl,aO hm T.aN T.wU rfl ⟨s,S,x,M.m.rank,rfl,hH.on,W,mx,hrk,fun H1 s1=> ?_⟩⟩
  have hz1:=hz.same s1
  have hm1:=s1 _ _ hm
  refine ⟨rfl,_,rfl,?_⟩
  rw [yE]
  have k:qj C Fm s (if Vbaham.wants S x.p M.m.rank=false then (S,[-9]) else Vbaham.ifLegal S (Vbaham.withPair S M.m.id x.p) [M.m] [0]) H Q:=k
  rw [Dz] at k
  by_cases hw:0 < jl S x.p M.m.rank
  · rw [show (((jl S x.p M.m.rank:Nat):Int) == 0)=false by rw [beq_eq_false_iff_ne]; omega]
    rw [decide_eq_true hw] at k
    refine bY ?_
    have k:qj C Fm s (Vbaham.ifLegal S (Vbaham.withPair S M.m.id x.p) [M.m] [0]) H Q:=k
    have hX:=W.okA mM mx hnp
    have hlen:=(W.okM mM).len
    refine ⟨_,rfl,_,rfl,_,rfl,aO hm1 T.aN T.cG rfl ⟨_,rfl,(by show 1<=sizeLine; decide),fun p hp=> ?_⟩⟩
    have s2:aC H1 (upd H1 p (.lst [.ref x.a])):=aC.upd hp
    refine ⟨M.la,p,_,_,rfl,rfl,s2 _ _ (hz1.ml M mM),aj,by rw [aM]; show _ + 1<=_; omega,fun p2 hp2=> ?_⟩
    have s3:=s2.trans (aC.upd (o:= .lst (refs M.xs++[.ref x.a])) hp2)
    have hsub:∀ y ∈ M.xs++[x],y ∈ s.Lg:=fun y my=>by
      rcases List.mem_append.mp my with q | q
      · exact W.rel.sub M mM y q
      · have:y=x:=by simpa using q
        rw [this]
        exact mx
    refine ⟨s,M,p2,M.xs++[x],rfl,hz1.same s3,mM,⟨SqL.of (by rw [aj,nW]),(hz1.jB W hsub).same s3⟩,hX,fun H' ys sm hp ho=> ?_⟩
    have s4:=(s1.trans s3).trans sm
    have hz4:=hz.same s4
    refine ⟨_,rfl,_,_,rfl,rfl,_,rfl,?_⟩
    have ef:=iR (s:=Vbaham.withPair S M.m.id x.p) (m:=M.m) ((W.rel.has mM).with (W.rel.legAt mx)) hp ho
    have er:(Vbaham.withPair S M.m.id x.p).rules=s.R:=W.rel.rules
    rw [er] at ef
    rw [Ej]
    unfold Vbaham.ifLegal at k
    rw [ef] at k
    cases e:Vbaham.fault s.R M.m.base (legs ys) with
    | some z =>
      rw [e] at k
      refine bN ⟨_,rfl,(by show 1<=sizeLine; decide),fun q hq=> ?_⟩
      exact qj.same (S:=S) (ans:=[-10 - (z.1:Int)]) k hH W (s4.trans (aC.upd hq)) aj
    | none =>
      rw [e] at k
      refine bY ?_
      have hm4:=s4 _ _ hm
      have hl4:=hz4.ml M mM
      refine ⟨_,rfl,aO hm4 T.aN T.cG rfl ⟨.inl ⟨rfl,_,SqL.of hl4⟩,_,rfl,M.la,_,_,rfl,rfl,hl4,by rw [aM]; omega,?_⟩⟩
      refine ⟨(by show 1<=sizeLine; decide),fun q hq=> ?_⟩
      rw [nW] at hq ⊢
      have hMla:=bL (hH.ml M mM)
      have rel:=W.rel.assign mM mx hnp
      refine k _ q { s with Ms:=bV (fun N=>if N.m.id=M.m.id then N.xs++[x] else N.xs) s.Ms } ((s4.fr.trans (Fr.upd hMla.1)).trans (aC.upd hq).fr) ?_ rfl (W.bV rel) aj
      refine bx.same (aC.upd hq).off ?_
      rw [jK hMla.1]
      refine (hH.same s4.off).JH W mM _ (M.xs++[x]) fun N mN=> ?_
      by_cases e:N.m.id=M.m.id
      · rw [if_pos e,if_pos e,W.rel.CQ mM mN e]
      · rw [if_neg e,if_neg e]
  · rw [show (((jl S x.p M.m.rank:Nat):Int) == 0)=true by rw [beq_iff_eq]; omega]
    rw [decide_eq_false hw] at k
    refine bN ⟨(by show 1<=sizeLine; decide),fun q hq=> ?_⟩
    exact qj.same (S:=S) (ans:=[-9]) k hH W (s1.trans (aC.upd hq)) aj
end
theorem eO {H:Hp} {a b C dx C' dx':Addr} {fs fs':List (Str × V)} (k k':List Str) (ha:H a=some (.ins C dx fs)) (hb:H b=some (.ins C' dx' fs')) (h1:fs.map (·.1)=k) (h2:fs'.map (·.1)=k') (hk:k ≠ k'):a ≠ b:=by
 rintro rfl
 rw [ha] at hb
 injection hb with e
 injection e with _ _ e
 subst e
 exact hk (h1.symm.trans h2)
def kMem:List Str:=["number", "base", "rank", "legs"]
def Wt:List Str:=["rules", "legs", "members"]
def kRul:List Str:=["turn", "gap", "before", "after", "rest", "days", "longest", "windows"]
def Ws:List Str:=["place", "origin", "to", "dep", "arr", "needs"]
theorem Rel.alike {S:State} {R:Rules} {Lg:List LG} {Ms Ms':List MB} (h:Rel S R Lg Ms) (e:Ms'.map (fun M=>(M.m,M.xs))=Ms.map (fun M=>(M.m,M.xs))):Rel S R Lg Ms':=by
 have back:∀ M' ∈ Ms',∃ M ∈ Ms,M.m=M'.m/\M.xs=M'.xs:=fun M' m=>by
  have:(M'.m,M'.xs) ∈ Ms'.map (fun M=>(M.m,M.xs)):=List.mem_map.mpr ⟨M',m,rfl⟩
  rw [e] at this
  obtain ⟨M,mM,q⟩:=List.mem_map.mp this
  injection q with q1 q2
  exact ⟨M,mM,q1,q2⟩
 have em:Ms'.map (·.m)=Ms.map (·.m):=by
  have:=congrArg (List.map Prod.fst) e
  rw [List.map_map,List.map_map] at this
  exact this
 have ei:Ms'.map (fun M=>M.m.id)=Ms.map (fun M=>M.m.id):=by
  have:=congrArg (List.map Member.id) em
  rw [List.map_map,List.map_map] at this
  exact this
 refine ⟨h.rules,h.legs,h.plc,by rw [em]; exact h.mem,by rw [ei]; exact h.ids,fun M' m=> ?_,fun M' m=> ?_,fun M' m=> ?_,fun pr mp=> ?_⟩
 ·obtain ⟨M,mM,e1,e2⟩:=back M' m
  rw [<-e1,<-e2]
  exact h.prs M mM
 ·obtain ⟨M,mM,e1,e2⟩:=back M' m
  rw [<-e2]
  exact h.sub M mM
 ·obtain ⟨M,mM,e1,e2⟩:=back M' m
  rw [<-e2]
  exact h.ndx M mM
 ·obtain ⟨M,mM,q⟩:=h.known pr mp
  have:pr.1 ∈ Ms'.map (fun M=>M.m.id):=by
   rw [ei]
   exact List.mem_map.mpr ⟨M,mM,q⟩
  obtain ⟨M',m',q'⟩:=List.mem_map.mp this
  exact ⟨M',m',q'⟩
def nY (i:Nat) (p:Addr) (zs:List LG) (Ms:List MB):List MB:=Ms.map fun Z=>if Z.m.id=i then { Z with la:=p,xs:=zs } else Z
theorem yf {i:Nat} {p:Addr} {zs:List LG} {Ms:List MB} {N:MB} (m:N ∈ nY i p zs Ms):∃ Z ∈ Ms,(Z.m.id=i/\N={ Z with la:=p,xs:=zs })\/(Z.m.id ≠ i/\N=Z):=by
 unfold nY at m
 obtain ⟨Z,mZ,e⟩:=List.mem_map.mp m
 refine ⟨Z,mZ,?_⟩
 by_cases h:Z.m.id=i
 ·rw [if_pos h] at e
  exact .inl ⟨h,e.symm⟩
 ·rw [if_neg h] at e
  exact .inr ⟨h,e.symm⟩
theorem VG {i:Nat} {p:Addr} {zs:List LG} {Ms:List MB}:(nY i p zs Ms).map (fun M=>M.m.id)=Ms.map (fun M=>M.m.id):=by
 unfold nY
 rw [List.map_map]
 refine List.map_congr_left fun Z _=> ?_
 show (if _ then _ else _:MB).m.id=_
 split <;> rfl
theorem bx.nY {C:Ads} {H:Hp} {s:HS} (h:bx C H s) (ids:(s.Ms.map fun M=>M.m.id).Nodup) {M:MB} (mM:M ∈ s.Ms) {p dx:Addr} {zs:List LG} (hp:H p=some (.lst (refs zs))) (hw:p ≠ s.w) (hl:p ≠ s.ll) (hn:∀ Z ∈ s.Ms,Z.la ≠ p)
  (hM:H M.a=some (.ins C.member dx (Nh M.m M.la))):bx C (upd H M.a (.ins C.member dx (Nh M.m p))) { s with Ms:=Crew.nY M.m.id p zs s.Ms }:=by
 have lstN:∀ {b xs},H b=some (.lst xs)->b ≠ M.a:=fun e z=>by rw [z,hM] at e; cases e
 have tupN:∀ {b xs},H b=some (.tup xs)->b ≠ M.a:=fun e z=>by rw [z,hM] at e; cases e
 refine ⟨⟨?_,?_,?_,fun x m=> ?_,fun N m=> ?_,fun N m=> ?_,?_⟩,?_⟩
 ·obtain ⟨hdx,e⟩:=h.ho
  exact ⟨hdx,by rw [ak (eO Wt kMem e hM rfl rfl (by decide))]; exact e⟩
 ·obtain ⟨rdx,ln,ws,h1,h2,h3,h4,h5⟩:=h.rules
  refine ⟨rdx,ln,ws,?_,?_,?_,h4,fun i b q e1 e2=> ?_⟩
  ·rw [ak (eO kRul kMem h1 hM rfl rfl (by decide))]; exact h1
  ·rw [ak (lstN h2)]; exact h2
  ·rw [ak (lstN h3)]; exact h3
  ·have:=h5 i b q e1 e2
   rw [ak (tupN this)]; exact this
 ·show upd H M.a _ s.ll=_
  rw [ak (lstN h.ll)]
  exact h.ll
 ·obtain ⟨xdx,nd,h1,h2⟩:=h.lg x m
  refine ⟨xdx,nd,?_,?_⟩
  ·rw [ak (eO Ws kMem h1 hM rfl rfl (by decide))]; exact h1
  ·rw [ak (lstN h2)]; exact h2
 ·obtain ⟨Z,mZ,⟨e,rfl⟩ | ⟨e,rfl⟩⟩:=yf m
  ·have:Z=M:=Ag (f:=fun M=>M.m.id) ids mZ mM e
   subst this
   exact ⟨dx,aj⟩
  ·obtain ⟨zdx,hZ⟩:=h.mo N mZ
   refine ⟨zdx,?_⟩
   rw [ak (fun z=> ?_)]
   ·exact hZ
   ·rw [z,hM] at hZ
    injection hZ with q
    injection q with _ _ q
    unfold Nh at q
    injection q with q _
    injection q with _ q
    injection q with q
    omega
 ·obtain ⟨Z,mZ,⟨e,rfl⟩ | ⟨e,rfl⟩⟩:=yf m
  ·show upd H M.a _ p=some (.lst (refs zs))
   rw [ak (lstN hp)]
   exact hp
  ·rw [ak (lstN (h.ml N mZ))]
   exact h.ml N mZ
 ·have nd:=h.nd
  rw [List.nodup_cons,List.nodup_cons] at nd
  obtain ⟨n1,n2,n3⟩:=nd
  have mem:∀ b,b ∈ (Crew.nY M.m.id p zs s.Ms).map (·.la)->b=p\/b ∈ s.Ms.map (·.la):=fun b mb=>by
   obtain ⟨N,mN,rfl⟩:=List.mem_map.mp mb
   obtain ⟨Z,mZ,⟨e,rfl⟩ | ⟨e,rfl⟩⟩:=yf mN
   ·exact .inl rfl
   ·exact .inr (List.mem_map.mpr ⟨N,mZ,rfl⟩)
  show (s.w :: s.ll :: (Crew.nY M.m.id p zs s.Ms).map (·.la)).Nodup
  rw [List.nodup_cons,List.nodup_cons]
  refine ⟨fun z=> ?_,fun z=> ?_,?_⟩
  ·rcases List.mem_cons.mp z with z | z
   ·exact n1 (by rw [z]; simp)
   ·rcases mem _ z with z | z
    ·exact hw z.symm
    ·exact n1 (List.mem_cons.mpr (.inr z))
  ·rcases mem _ z with z | z
   ·exact hl z.symm
   ·exact n2 z
  ·unfold Crew.nY
   rw [List.map_map]
   unfold List.Nodup at n3 ids ⊢
   rw [List.pairwise_map] at n3 ids ⊢
   refine List.Pairwise.imp_of_mem (fun {A B} mA mB q=> ?_) (n3.and ids)
   show (if _ then _ else _:MB).la ≠ (if _ then _ else _:MB).la
   by_cases e1:A.m.id=M.m.id
   ·rw [if_pos e1,if_neg (fun z=>q.2 (e1.trans z.symm))]
    exact fun z=>hn B mB z.symm
   ·rw [if_neg e1]
    by_cases e2:B.m.id=M.m.id
    ·rw [if_pos e2]
     exact hn A mA
    ·rw [if_neg e2]
     exact q.1
 ·show upd H M.a _ s.md=some (.dK (kvM (Crew.nY M.m.id p zs s.Ms)))
  have ek:kvM (Crew.nY M.m.id p zs s.Ms)=kvM s.Ms:=by
   unfold kvM Crew.nY
   rw [List.map_map]
   refine List.map_congr_left fun Z _=> ?_
   show (((.inl ((if _ then _ else _:MB).m.id:Int)):Key),V.ref (if _ then _ else _:MB).a)=_
   split <;> rfl
  rw [ek,ak (fun z=>by have:=h.dic; rw [z,hM] at this; cases this)]
  exact h.dic
theorem Wf.putMs {s:HS} {S S':State} (W:Wf s S) {Ms':List MB} (r:Rel S' s.R s.Lg Ms') (hl:Ms'.map (fun M=>M.m)=s.Ms.map (fun M=>M.m)):Wf { s with Ms:=Ms' } S':=by
 refine ⟨r,W.nl,?_,W.lon,W.win,W.val,W.nd3,W.nd4,fun N m=> ?_⟩
 ·have:=congrArg List.length hl
  rw [List.length_map,List.length_map] at this
  show Ms'.length<=30
  rw [this]
  exact W.nm
 ·have:N.m ∈ Ms'.map (fun M=>M.m):=List.mem_map.mpr ⟨N,m,rfl⟩
  rw [hl] at this
  obtain ⟨M,mM,e⟩:=List.mem_map.mp this
  rw [<-e]
  exact W.rk M mM
theorem Ua {H:Hp} {a b C C' dx dx' la la':Addr} {m m':Member} (ha:H a=some (.ins C dx (Nh m la))) (hb:H b=some (.ins C' dx' (Nh m' la'))) (hn:m.id ≠ m'.id):a ≠ b:=by
 rintro rfl
 rw [ha] at hb
 injection hb with q
 injection q with _ _ q
 unfold Nh at q
 injection q with q _
 injection q with _ q
 injection q with q
 omega
def Xx (s:HS) (c:Vbaham.Call) (fs:List V) (_:List (List Int)):Prop:=∃ M ∈ s.Ms,∃ N ∈ s.Ms,∃ t:Nat,c = .swap M.m.id N.m.id t/\fs=[.ref M.a,.ref N.a,.int t]
def both (M N:MB):Bool:=M.xs.any fun y=>decide (y.p ∈ N.xs.map (·.p))
theorem U7 {s:HS} {S:State} (W:Wf s S) {M N:MB} (mM:M ∈ s.Ms) (mN:N ∈ s.Ms):(S.pairs.any fun x=>x.1 == M.m.id && S.pairs.contains (N.m.id,x.2))=both M N:=by
 rw [Bool.eq_iff_iff]
 unfold both
 rw [List.any_eq_true,List.any_eq_true]
 constructor
 ·rintro ⟨⟨i,p⟩,m,h⟩
  rw [Bool.and_eq_true] at h
  have e:i=M.m.id:=by simpa using h.1
  subst e
  have h1:=(pR (W.rel.has mM) p).mp m
  obtain ⟨y,my,ey⟩:=List.mem_map.mp h1
  refine ⟨y,my,decide_eq_true ?_⟩
  have h2:(N.m.id,p) ∈ S.pairs:=by simpa using h.2
  rw [ey]
  exact (pR (W.rel.has mN) p).mp h2
 ·rintro ⟨y,my,h⟩
  have h:=of_decide_eq_true h
  refine ⟨(M.m.id,y.p),(pR (W.rel.has mM) y.p).mpr (List.mem_map.mpr ⟨y,my,rfl⟩),?_⟩
  rw [Bool.and_eq_true]
  refine ⟨by simp,?_⟩
  have:=(pR (W.rel.has mN) y.p).mpr h
  simpa using this
section
variable {P:Program} {w:World} {K:PySem.W.Frag} {mg:Str->Option Value} {base:Heap} {C:Ads}
abbrev sZ:Stmt:=top 59
theorem cD:aG ["house", "arguments", "rows", "first", "second", "leg", "firsts", "seconds", "refusal"] ["house", "arguments", "rows"] (aD sZ):=⟨rfl,rfl,rfl,by decide +kernel,rfl,by decide +kernel,by decide +kernel⟩
theorem Kg {f fl fh:Addr} {fd fdl fdh:FuncData} (F:Fun K "call_swap" "call_swap" sZ f fd) (T:cB w K mg C) (jM:FnI P w K mg base "mixed_legs" 1 fh fdh ["keeper", "giver", "t"] (vB C)) (bH:FnI P w K mg base "refusal_with" 8 fl fdl ["house", "member", "legs"] (fW K C)) :
    aY P w K mg base CX0 9 f fd ["house", "arguments", "rows"] (bZ C Xx):=by
  refine F.ok cD (fun vs H Q E h=>bj h) (fun cdv A outer s H vs Q E hr h=> ?_)
  obtain ⟨Fm,s,S,c,fa,ra,fs,rs,rfl,hH,W,hF,hfa,hra,⟨M,mM,N,mN,t,rfl,rfl⟩,k⟩:=h
  have hz:=hH.on.toHz
  refine ⟨_,(ao (bG 3 cD.nd (xl (pv 1) aB))
      (ao (bG 4 cD.nd (xl (pv 1) aB))
      (ao (cV (PW.pt (Iv (aV vL (xf (pv 3)) (xf (pv 4)) (bh _)) (JW (aV Z5 (xf (pv 3)) (xf (pv 4)) (bh _)))))
        (au (aJ (aX (aa (bC rfl T.ym) aq))))
        bD)
      (ao (cV (tQ (aW (Xi rfl) (by rfl) T.RQ Xv (aa (jk (own:=[("leg",5)]) rfl cD.nd (cR (xf (pv 3))) (bu rfl) (fun _ _ _ _ _=>(xg 5 cD.nd)) (fun _ _ _ _ _=>cF) (fun _ _ _ _ _=>(lz (Z9 K T.FQ hr.units) (pv 5) (kf K (pv 4)) rfl))) aq)))
        (au (aJ (aX (aa (bC rfl T.dB) aq))))
        bD)
      (ao (bG 6 cD.nd (aH jM (hr.mono (by decide)) (aa (pv 3) (aa (pv 4) (aa (xl (pv 1) aB) aq)))))
      (ao (bG 7 cD.nd (aH jM (hr.mono (by decide)) (aa (pv 4) (aa (pv 3) (aa (xl (pv 1) aB) aq)))))
      (ao (bG 8 cD.nd (aH bH (hr.mono (by decide)) (aa (pv 0) (aa (pv 3) (aa (pv 6) aq)))))
      (ao (cV (aV vL (pv 8) aB (bh _))
        (au (bG 8 cD.nd (aH bH (hr.mono (by decide)) (aa (pv 0) (aa (pv 4) (aa (pv 7) aq))))))
        bD)
      (ao (cV (aV xX (pv 8) aB (bh _))
        (au (aJ (aX (aa (pv 8) aq))))
        bD)
      (ao (xst (pv 3) (pv 6))
      (ao (xst (pv 4) (pv 7))
      (au (aJ (aX (aa aB aq))))))))))))))),?_⟩
  obtain ⟨mdx,hm⟩:=hz.mo M mM
  obtain ⟨ndx,hn⟩:=hz.mo N mN
  have sz:1000 < sizeLine:=by decide
  have okM:=W.okM mM
  have okN:=W.okM mN
  have st:Vbaham.step S (.swap M.m.id N.m.id t)=if M.m.id=N.m.id\/M.m.rank ≠ N.m.rank then (S,[-10]) else if both M N=true then (S,[-8]) else Vbaham.ifLegal S (Vbaham.swapped S M.m.id N.m.id t) [M.m,N.m] [0]:=by
    show Vbaham.onMember S M.m.id _=_
    rw [onM W mM,onM W mN,U7 W mM mN]
  rw [st] at k
  refine ⟨_,rfl,fa,_,_,_,rfl,rfl,SqL.of hfa,aK (j:=0) rfl rfl,_,rfl,fa,_,_,_,rfl,rfl,SqL.of hfa,aK (j:=1) rfl rfl,?_⟩
  refine ⟨_,rfl,aO hm T.aN T.jm rfl ⟨_,rfl,aO hn T.aN T.jm rfl ⟨rfl,_,rfl,?_⟩⟩⟩
  rw [yD]
  by_cases e1:M.m.id=N.m.id
  · rw [show (M.m.id == N.m.id)=true by simp [e1]]
    rw [if_pos (.inl e1)] at k
    refine bN (bN ⟨(by show 1<=sizeLine; decide),fun q hq=> ?_⟩)
    exact k.same hH W (aC.upd hq) aj
  rw [show (M.m.id == N.m.id)=false by simp [e1]]
  refine bY ⟨_,rfl,aO hm T.aN T.wU rfl ⟨_,rfl,aO hn T.aN T.wU rfl ⟨rfl,_,rfl,?_⟩⟩⟩
  rw [yD]
  by_cases e2:M.m.rank=N.m.rank
  case neg =>
    rw [show (M.m.rank == N.m.rank)=false by simp [e2]]
    rw [if_pos (.inr e2)] at k
    refine bN ⟨(by show 1<=sizeLine; decide),fun q hq=> ?_⟩
    exact k.same hH W (aC.upd hq) aj
  rw [show (M.m.rank == N.m.rank)=true by simp [e2]]
  rw [if_neg (fun z=>z.elim e1 (fun y=>y e2))] at k
  refine bY ?_
  have l1:=hz.m5 (K:=K) W mM
  refine ⟨_,rfl,aO hm T.aN T.cG rfl ⟨M.la,rfl,⟨_,l1.lst⟩,fun D hD=> ?_⟩⟩
  refine eE (wkL (K:=K) (a:=M.la) (xs:=refs M.xs)) (fun H H' h s=>s.seq h) l1.lst (by rw [aM]; have:=okM.len; omega) hD (fun i=>(M.xs[i]?).map fun y=>V.bl (decide (y.p ∈ N.xs.map (·.p)))) ?_ ?_
  · rintro i v H1 H2 Kt Kf hi sm ⟨rfl,hv2⟩ kt kf
    obtain ⟨y,hy,rfl⟩:=dm hv2
    have my:=W.rel.sub M mM y (List.mem_of_getElem? hy)
    have hz2:=hz.same sm
    rw [hy] at kt
    refine ⟨rfl,_,rfl,_,rfl,aO (sm _ _ hn) T.aN T.cG rfl ⟨y.a,N.la,N.xs.map (·.a),rfl,rfl,?_,(hz2.lg y my).ins,Ao (hz2.jB W (W.rel.sub N mN)),kt _ _ ?_ (aC.refl _)⟩⟩
    · rw [<-pK]
      exact SqL.of (hz2.ml N mN)
    · show some (V.bl _)=some (V.bl (decide (y.a ∈ N.xs.map (·.a))))
      rw [decide_eq_decide.mpr (hz2.mem W my (W.rel.sub N mN))]
  intro H1 s1 hl
  have eb:(List.range (refs M.xs).length).filterMap (fun i=>(M.xs[i]?).map fun y=>V.bl (decide (y.p ∈ N.xs.map (·.p))))=(M.xs.map fun y=>decide (y.p ∈ N.xs.map (·.p))).map V.bl:=by
    rw [aM,List.map_map]
    exact gB _ M.xs
  rw [eb] at hl
  refine ⟨D,_,rfl,SqL.of hl,_,rfl,?_⟩
  have eb2:(M.xs.map fun y=>decide (y.p ∈ N.xs.map (·.p))).any id=both M N:=by
    unfold both
    rw [List.any_map]
    rfl
  rw [eb2]
  cases hb:both M N with
  | true =>
    rw [hb] at k
    refine bN ⟨(by show 1<=sizeLine; decide),fun q hq=> ?_⟩
    exact qj.same (S:=S) (ans:=[-8]) k hH W (s1.trans (aC.upd hq)) aj
  | false =>
    rw [hb] at k
    have k:qj C Fm s (Vbaham.ifLegal S (Vbaham.swapped S M.m.id N.m.id t) [M.m,N.m] [0]) H Q:=k
    have hap:∀ p,p ∈ M.xs.map (·.p)->p ∉ N.xs.map (·.p):=fun p hp hq=>by
      obtain ⟨y,my,rfl⟩:=List.mem_map.mp hp
      have:both M N=true:=by
        unfold both
        rw [List.any_eq_true]
        exact ⟨y,my,decide_eq_true hq⟩
      rw [hb] at this
      cases this
    have rel:=W.rel.swap mM mN e1 t hap
    have hfM:(fun Z:MB=>if Z.m.id=M.m.id then iM t M.xs N.xs else if Z.m.id=N.m.id then iM t N.xs M.xs else Z.xs) M=iM t M.xs N.xs:=if_pos rfl
    have hfN:(fun Z:MB=>if Z.m.id=M.m.id then iM t M.xs N.xs else if Z.m.id=N.m.id then iM t N.xs M.xs else Z.xs) N=iM t N.xs M.xs:=by
      show (if N.m.id=M.m.id then _ else _)=_
      rw [if_neg (Ne.symm e1),if_pos rfl]
    have memS:∀ Z ∈ s.Ms,({ Z with xs:=(fun Z:MB=>if Z.m.id=M.m.id then iM t M.xs N.xs else if Z.m.id=N.m.id then iM t N.xs M.xs else Z.xs) Z }:MB) ∈ bV (fun Z=>if Z.m.id=M.m.id then iM t M.xs N.xs else if Z.m.id=N.m.id then iM t N.xs M.xs else Z.xs) s.Ms:=fun Z mZ=>List.mem_map.mpr ⟨Z,mZ,rfl⟩
    have hasM:=rel.has (memS M mM)
    have hasN:=rel.has (memS N mN)
    have subM:=rel.sub _ (memS M mM)
    have subN:=rel.sub _ (memS N mN)
    have ndM:=rel.ndx _ (memS M mM)
    have ndN:=rel.ndx _ (memS N mN)
    simp only [hfM] at hasM subM ndM
    simp only [if_neg (Ne.symm e1),if_true] at hasN subN ndN
    refine bY ?_
    have hz1:=hz.same s1
    refine ⟨_,rfl,_,rfl,_,rfl,fa,_,_,_,rfl,rfl,SqL.of (s1 _ _ hfa),aK (j:=2) rfl rfl,s,S,M,N,t,rfl,hz1,W,mM,mN,fun H2 p1 s2 np1 hp1=> ?_⟩
    have hz2:=hz1.same s2
    refine ⟨_,rfl,_,rfl,_,rfl,fa,_,_,_,rfl,rfl,SqL.of (s2 _ _ (s1 _ _ hfa)),aK (j:=2) rfl rfl,s,S,N,M,t,rfl,hz2,W,mN,mM,fun H3 p2 s3 np2 hp2=> ?_⟩
    have hz3:=hz2.same s3
    refine ⟨_,rfl,_,rfl,_,rfl,s,M,p1,_,rfl,hz3,mM,⟨SqL.of (s3 _ _ hp1),hz3.jB W subM⟩,W.okx ndM subM,fun H4 ys s4 hp ho=> ?_⟩
    have hz4:=hz3.same s4
    have er:(Vbaham.swapped S M.m.id N.m.id t).rules=s.R:=W.rel.rules
    have efM:=iR (s:=Vbaham.swapped S M.m.id N.m.id t) (m:=M.m) hasM hp ho
    rw [er] at efM
    refine ⟨_,rfl,rfl,_,rfl,?_⟩
    rw [Iu]
    have k1:=k
    unfold Vbaham.ifLegal at k1
    rw [efM] at k1
    have s04:=((s1.trans s2).trans s3).trans s4
    cases e:Vbaham.fault s.R M.m.base (legs ys) with
    | some z =>
      rw [e] at k1
      refine bY ⟨_,rfl,_,_,rfl,rfl,_,rfl,?_⟩
      rw [Ej]
      refine bN ⟨_,rfl,(by show 1<=sizeLine; decide),fun q hq=> ?_⟩
      exact qj.same (S:=S) (ans:=[-10 - (z.1:Int)]) k1 hH W (s04.trans (aC.upd hq)) aj
    | none =>
      rw [e] at k1
      refine bN ⟨_,rfl,_,rfl,_,rfl,s,N,p2,_,rfl,hz4,mN,⟨SqL.of (s4 _ _ hp2),hz4.jB W subN⟩,W.okx ndN subN,fun H5 ys2 s5 hp' ho'=> ?_⟩
      have efN:=iR (s:=Vbaham.swapped S M.m.id N.m.id t) (m:=N.m) hasN hp' ho'
      rw [er] at efN
      have k2:qj C Fm s (Vbaham.ifLegal S (Vbaham.swapped S M.m.id N.m.id t) [N.m] [0]) H Q:=k1
      unfold Vbaham.ifLegal at k2
      rw [efN] at k2
      have s05:=s04.trans s5
      refine ⟨_,rfl,_,_,rfl,rfl,_,rfl,?_⟩
      rw [Ej]
      cases e':Vbaham.fault s.R N.m.base (legs ys2) with
      | some z =>
        rw [e'] at k2
        refine bN ⟨_,rfl,(by show 1<=sizeLine; decide),fun q hq=> ?_⟩
        exact qj.same (S:=S) (ans:=[-10 - (z.1:Int)]) k2 hH W (s05.trans (aC.upd hq)) aj
      | none =>
        rw [e'] at k2
        have k3:qj C Fm s (Vbaham.swapped S M.m.id N.m.id t,[0]) H Q:=k2
        have hm5:=s05 _ _ hm
        have hn5:=s05 _ _ hn
        have nMN:=Ua hn5 hm5 (Ne.symm e1)
        refine bY ⟨_,rfl,_,rfl,M.a,_,_,_,rfl,hm5,T.aN,T.cG,(by show 4 < 1000; decide),?_⟩
        refine ⟨_,rfl,_,rfl,N.a,_,_,_,rfl,(ak nMN).trans hn5,T.aN,T.cG,(by show 4 < 1000; decide),?_⟩
        refine ⟨(by show 1<=sizeLine; decide),fun q hq=> ?_⟩
        have hH5:=hH.same s05.off
        obtain ⟨mdx',hMo⟩:=hH.mo M mM
        obtain ⟨ndx',hNo⟩:=hH.mo N mN
        have fM:=(bL hMo).1
        have fN:=(bL hNo).1
        have f1:Fm p1=false:=by
          cases ef:Fm p1 with
          | false=>rfl
          | true=>exact absurd (same_none s1 np1) (hF.1 p1 ef)
        have f2:Fm p2=false:=by
          cases ef:Fm p2 with
          | false=>rfl
          | true=>exact absurd (same_none (s1.trans s2) np2) (hF.1 p2 ef)
        have z1:=same_none s1 np1
        have z2:=same_none (s1.trans s2) np2
        obtain ⟨rdx,ln,ws,r1,r2,r3,r4,r5⟩:=hz.rules
        have hp1':off Fm H5 p1=some (.lst (refs (iM t M.xs N.xs))):=by rw [bM f1]; exact s5 _ _ (s4 _ _ (s3 _ _ hp1))
        have hp2':off Fm H5 p2=some (.lst (refs (iM t N.xs M.xs))):=by rw [bM f2]; exact s5 _ _ (s4 _ _ hp2)
        have h1:=hH5.nY W.rel.ids mM hp1' (az r3 z1).symm (az hz.ll z1).symm (fun Z mZ=>az (hz.ml Z mZ) z1) (by rw [bM fM]; exact hm5)
        have h2:=h1.nY (M:=N) (p:=p2) (dx:=ndx) (zs:=iM t N.xs M.xs) (by show ((Crew.nY M.m.id p1 (iM t M.xs N.xs) s.Ms).map _).Nodup; rw [VG]; exact W.rel.ids) (by
          show N ∈ Crew.nY M.m.id p1 (iM t M.xs N.xs) s.Ms
          exact List.mem_map.mpr ⟨N,mN,if_neg (Ne.symm e1)⟩) (by rw [ak (fun z=>by rw [z,bM fM,hm5] at hp2'; cases hp2')]; exact hp2') (az r3 z2).symm (az hz.ll z2).symm (fun Z mZ=>by
            obtain ⟨Y,mY,⟨_,rfl⟩ | ⟨_,rfl⟩⟩:=yf mZ
            · exact az hp1 np2
            · exact az (hz.ml Z mY) z2) (by rw [ak nMN,bM fN]; exact hn5)
        refine k3 _ q { s with Ms:=Crew.nY N.m.id p2 (iM t N.xs M.xs) (Crew.nY M.m.id p1 (iM t M.xs N.xs) s.Ms) } (((s05.fr.trans (Fr.upd fM)).trans (Fr.upd fN)).trans (aC.upd hq).fr) ?_ rfl ?_ aj
        · refine bx.same (aC.upd hq).off ?_
          rw [jK fN,jK fM]
          exact h2
        · refine W.putMs (rel.alike ?_) ?_
          · unfold Crew.nY bV
            rw [List.map_map,List.map_map,List.map_map]
            refine List.map_congr_left fun Z _=> ?_
            show (((if _ then _ else _:MB)).m,((if _ then _ else _:MB)).xs)=(Z.m,if _ then _ else _)
            by_cases q1:Z.m.id=M.m.id
            · have q2:Z.m.id ≠ N.m.id:=fun z=>e1 (q1.symm.trans z)
              simp only [if_pos q1,if_neg q2]
            · by_cases q2:Z.m.id=N.m.id
              · simp only [if_neg q1,if_pos q2]
              · simp only [if_neg q1,if_neg q2]
          · unfold Crew.nY
            rw [List.map_map,List.map_map]
            refine List.map_congr_left fun Z _=> ?_
            show ((if _ then _ else _:MB)).m=Z.m
            by_cases q1:Z.m.id=M.m.id
            · have q2:Z.m.id ≠ N.m.id:=fun z=>e1 (q1.symm.trans z)
              simp only [if_pos q1,if_neg q2]
            · by_cases q2:Z.m.id=N.m.id
              · simp only [if_neg q1,if_pos q2]
              · simp only [if_neg q1,if_neg q2]
end
theorem Wl (p:Nat) (z:Int) (x:LG):(fP p z x).a=x.a:=by unfold fP; split <;> rfl
theorem Mt (p:Nat) (z:Int) (xs:List LG):refs (xs.map (fP p z))=refs xs:=by
 unfold refs
 rw [List.map_map]
 exact List.map_congr_left fun x _=>by show V.ref (fP p z x).a=_; rw [Wl]
theorem Ue {H:Hp} {a b C C' dx dx' nd nd':Addr} {p q:Nat} {g g':Leg} (ha:H a=some (.ins C dx (Fl p g nd))) (hb:H b=some (.ins C' dx' (Fl q g' nd'))) (hn:p ≠ q):a ≠ b:=by
 rintro rfl
 rw [ha] at hb
 injection hb with e
 injection e with _ _ e
 unfold Fl at e
 injection e with e _
 injection e with _ e
 injection e with e
 omega
def Ot (s:HS) (p:Nat) (z:Int):HS:={ s with Lg:=s.Lg.map (fP p z),Ms:=s.Ms.map fun M=>{ M with xs:=M.xs.map (fP p z) } }
theorem bx.delay {C:Ads} {H:Hp} {s:HS} {S:State} (h:bx C H s) (W:Wf s S) {x:LG} (mx:x ∈ s.Lg) {dx nd:Addr} (z:Int) (hx:H x.a=some (.ins C.leg dx (Fl x.p x.g nd))) (hnd:H nd=some (.lst (nats x.g.needs))) :
  bx C (upd H x.a (.ins C.leg dx (Fl x.p (Qj z x.g) nd))) (Ot s x.p z):=by
 have lstN:∀ {b xs},H b=some (.lst xs)->b ≠ x.a:=fun e y=>by rw [y,hx] at e; cases e
 have tupN:∀ {b xs},H b=some (.tup xs)->b ≠ x.a:=fun e y=>by rw [y,hx] at e; cases e
 refine ⟨⟨?_,?_,?_,fun y m=> ?_,fun N m=> ?_,fun N m=> ?_,?_⟩,?_⟩
 ·obtain ⟨hdx,e⟩:=h.ho
  exact ⟨hdx,by show upd H x.a _ s.h=_; rw [ak (eO Wt Ws e hx rfl rfl (by decide))]; exact e⟩
 ·obtain ⟨rdx,ln,ws,h1,h2,h3,h4,h5⟩:=h.rules
  refine ⟨rdx,ln,ws,?_,?_,?_,h4,fun i b q e1 e2=> ?_⟩
  ·show upd H x.a _ s.r=_
   rw [ak (eO kRul Ws h1 hx rfl rfl (by decide))]; exact h1
  ·show upd H x.a _ ln=_
   rw [ak (lstN h2)]; exact h2
  ·show upd H x.a _ s.w=_
   rw [ak (lstN h3)]; exact h3
  ·have:=h5 i b q e1 e2
   rw [ak (tupN this)]; exact this
 ·show upd H x.a _ s.ll=some (.lst (refs (s.Lg.map (fP x.p z))))
  rw [Mt,ak (lstN h.ll)]
  exact h.ll
 ·obtain ⟨y0,my,rfl⟩:=List.mem_map.mp m
  by_cases e:y0.p=x.p
  ·have:y0=x:=W.rel.uY my mx e
   subst this
   refine ⟨dx,nd,?_,?_⟩
   ·rw [Wl,aj,Qk]
    unfold fP
    rw [if_pos rfl]
   ·rw [ak (lstN hnd)]
    unfold fP
    rw [if_pos rfl]
    exact hnd
  ·have em:fP x.p z y0=y0:=by unfold fP; rw [if_neg e]
   rw [em]
   obtain ⟨ydx,ynd,h1,h2⟩:=h.lg y0 my
   refine ⟨ydx,ynd,?_,?_⟩
   ·rw [ak (Ue h1 hx e)]; exact h1
   ·rw [ak (lstN h2)]; exact h2
 ·obtain ⟨N0,mN,rfl⟩:=List.mem_map.mp m
  obtain ⟨ndx,e⟩:=h.mo N0 mN
  exact ⟨ndx,by show upd H x.a _ N0.a=_; rw [ak (eO kMem Ws e hx rfl rfl (by decide))]; exact e⟩
 ·obtain ⟨N0,mN,rfl⟩:=List.mem_map.mp m
  show upd H x.a _ N0.la=some (.lst (refs (N0.xs.map (fP x.p z))))
  rw [Mt,ak (lstN (h.ml N0 mN))]
  exact h.ml N0 mN
 ·show (s.w :: s.ll :: (s.Ms.map fun M=>({ M with xs:=M.xs.map (fP x.p z) }:MB)).map (·.la)).Nodup
  rw [List.map_map]
  exact h.nd
 ·show upd H x.a _ s.md=some (.dK (kvM (s.Ms.map fun M=>({ M with xs:=M.xs.map (fP x.p z) }:MB))))
  have ek:kvM (s.Ms.map fun M=>({ M with xs:=M.xs.map (fP x.p z) }:MB))=kvM s.Ms:=by
   unfold kvM
   rw [List.map_map]
   rfl
  rw [ek,ak (fun y=>by have:=h.dic; rw [y,hx] at this; cases this)]
  exact h.dic
theorem Wf.delay {s:HS} {S:State} (W:Wf s S) {x:LG} (mx:x ∈ s.Lg) {z:Int} (hz:1440<=(x.g.dep:Int) + z):Wf (Ot s x.p z) (Vbaham.delayed S x.p z):=by
 have hp:0 < x.p:=by
  obtain ⟨i,hi,e⟩:=List.mem_iff_getElem.mp mx
  have:=W.rel.plc i x (by rw [List.getElem?_eq_getElem hi,e])
  omega
 have nds:∀ y:LG,(fP x.p z y).g.needs=y.g.needs:=fun y=>by unfold fP; split <;> rfl
 refine ⟨W.rel.delay hp z,?_,?_,W.lon,W.win,fun y m=> ?_,fun y m=> ?_,fun y m=> ?_,fun N m=> ?_⟩
 ·show (s.Lg.map _).length<=60
  rw [List.length_map]
  exact W.nl
 ·show (s.Ms.map _).length<=30
  rw [List.length_map]
  exact W.nm
 ·obtain ⟨y0,my,rfl⟩:=List.mem_map.mp m
  by_cases e:y0.p=x.p
  ·have:y0=x:=W.rel.uY my mx e
   subst this
   have:=W.val y0 my
   unfold fP Qj
   rw [if_pos rfl]
   show ((y0.g.dep:Int) + z).toNat < ((y0.g.arr:Int) + z).toNat
   omega
  ·have em:fP x.p z y0=y0:=by unfold fP; rw [if_neg e]
   rw [em]
   exact W.val y0 my
 ·obtain ⟨y0,my,rfl⟩:=List.mem_map.mp m
  rw [nds]
  exact W.nd3 y0 my
 ·obtain ⟨y0,my,rfl⟩:=List.mem_map.mp m
  rw [nds]
  exact W.nd4 y0 my
 ·obtain ⟨N0,mN,rfl⟩:=List.mem_map.mp m
  exact W.rk N0 mN
def S5 (s:HS) (c:Vbaham.Call) (fs:List V) (_:List (List Int)):Prop:=∃ x ∈ s.Lg,∃ z:Int,c = .delay x.p z/\fs=[.ref x.a,.int z]
section
variable {P:Program} {w:World} {K:PySem.W.Frag} {mg:Str->Option Value} {base:Heap} {C:Ads}
abbrev pH:Stmt:=top 60
theorem iZ:aG ["house", "arguments", "rows", "leg", "dep", "arr"] ["house", "arguments", "rows"] (aD pH):=⟨rfl,rfl,rfl,by decide +kernel,rfl,by decide +kernel,by decide +kernel⟩
theorem HB {f fl:Addr} {fd fdl:FuncData} (F:Fun K "call_delay" "call_delay" pH f fd) (T:cB w K mg C) (fj:FnI P w K mg base "broken_ids" 9 fl fdl ["house"] (lY C)) :
    aY P w K mg base CX0 10 f fd ["house", "arguments", "rows"] (bZ C S5):=by
  refine F.ok iZ (fun vs H Q E h=>bj h) (fun cdv A outer s H vs Q E hr h=> ?_)
  obtain ⟨Fm,s,S,c,fa,ra,fs,rs,rfl,hH,W,hF,hfa,hra,⟨x,mx,z,rfl,rfl⟩,k⟩:=h
  have hz:=hH.on.toHz
  refine ⟨_,(ao (bG 3 iZ.nd (xl (pv 1) aB))
      (ao (bG 4 iZ.nd (bB gr (xf (pv 3)) (xl (pv 1) aB)))
      (ao (bG 5 iZ.nd (bB gr (xf (pv 3)) (xl (pv 1) aB)))
      (ao (cV (PW.pt (Iv (aV xX (pv 4) (bC rfl T.jn) (bh _)) (JW (aV qJ (pv 5) (bC rfl T.jd) (bh _)))))
        (au (aJ (aX (aa (bC rfl T.dR) aq))))
        bD)
      (ao (xst (pv 3) (pv 4))
      (ao (xst (pv 3) (pv 5))
      (au (aJ (bB jz (aX (aa aB aq)) (aH fj (hr.mono (by decide)) (aa (pv 0) aq))))))))))),?_⟩
  obtain ⟨xdx,xnd,hx,hnd⟩:=hH.lg x mx
  obtain ⟨fX,hx0⟩:=bL hx
  have st:Vbaham.step S (.delay x.p z)=if (x.g.dep:Int) + z < 1440\/10000000 < (x.g.arr:Int) + z then (S,[-5]) else (Vbaham.delayed S x.p z,Vbaham.ok (Vbaham.faulty (Vbaham.delayed S x.p z))):=by
    show Vbaham.onLeg S x.p _=_
    rw [onL W mx]
    rfl
  rw [st] at k
  refine ⟨_,rfl,fa,_,_,_,rfl,rfl,SqL.of hfa,aK (j:=0) rfl rfl,?_⟩
  refine ⟨_,rfl,aO hx0 T.bQ T.lB rfl ⟨_,rfl,fa,_,_,_,rfl,rfl,SqL.of hfa,aK (j:=1) rfl rfl,_,_,rfl,rfl,?_⟩⟩
  refine ⟨_,rfl,aO hx0 T.bQ T.t7 rfl ⟨_,rfl,fa,_,_,_,rfl,rfl,SqL.of hfa,aK (j:=1) rfl rfl,_,_,rfl,rfl,?_⟩⟩
  refine ⟨_,rfl,_,_,rfl,rfl,_,rfl,?_⟩
  have bad:((x.g.dep:Int) + z < 1440\/10000000 < (x.g.arr:Int) + z)->∀ q,H q=none->Q (.ref q) (upd H q (.lst [.int (-5)])):=fun hc q hq=>by
    rw [if_pos hc] at k
    exact k.same hH W (aC.upd hq) aj
  by_cases c1:(x.g.dep:Int) + z < 1440
  · rw [decide_eq_true c1]
    exact bN (bN ⟨(by show 1<=sizeLine; decide),fun q hq=>bad (.inl c1) q hq⟩)
  rw [decide_eq_false c1]
  refine bY ⟨_,rfl,_,_,rfl,rfl,_,rfl,?_⟩
  by_cases c2:10000000 < (x.g.arr:Int) + z
  · rw [decide_eq_true c2]
    exact bN ⟨(by show 1<=sizeLine; decide),fun q hq=>bad (.inr c2) q hq⟩
  rw [decide_eq_false c2]
  rw [if_neg (fun h=>h.elim c1 c2)] at k
  refine bY ⟨_,rfl,_,rfl,x.a,_,_,_,rfl,hx0,T.bQ,T.lB,(by show 6 < 1000; decide),?_⟩
  refine ⟨_,rfl,_,rfl,x.a,_,_,_,rfl,aj,T.bQ,T.t7,(by show 6 < 1000; decide),?_⟩
  have eu:∀ o o',upd (upd H x.a o) x.a o'=upd H x.a o':=fun o o'=>by
    funext b
    by_cases e:b=x.a
    · rw [e,aj,aj]
    · rw [ak e,ak e,ak e]
  rw [eu]
  have hv:=W.val x mx
  have ef:(dw "arr" (.int ((x.g.arr:Int) + z)) (dw "dep" (.int ((x.g.dep:Int) + z)) (Fl x.p x.g xnd)))=Fl x.p (Qj z x.g) xnd:=by
    show ([("place",V.int x.p),("origin",V.int x.g.from_),("to",V.int x.g.to_),("dep",V.int ((x.g.dep:Int) + z)),("arr",V.int ((x.g.arr:Int) + z)),("needs",V.ref xnd)]:List (Str × V))=([("place",V.int x.p),("origin",V.int x.g.from_),("to",V.int x.g.to_),("dep",V.int (((x.g.dep:Int) + z).toNat:Int)),("arr",V.int (((x.g.arr:Int) + z).toNat:Int)),("needs",V.ref xnd)]:List (Str × V))
    rw [show ((((x.g.dep:Int) + z).toNat:Nat):Int)=(x.g.dep:Int) + z by omega,show ((((x.g.arr:Int) + z).toNat:Nat):Int)=(x.g.arr:Int) + z by omega]
  rw [ef]
  have hH1:bx C (off Fm (upd H x.a (.ins C.leg xdx (Fl x.p (Qj z x.g) xnd)))) (Ot s x.p z):=by
    rw [jK fX]
    exact hH.delay W mx z hx hnd
  have W1:=W.delay mx (z:=z) (by omega)
  refine ⟨(by show 1<=sizeLine; decide),fun p0 hp0=> ?_⟩
  have s0:=aC.upd (o:= .lst [.int 0]) hp0
  refine ⟨_,rfl,Ot s x.p z,Vbaham.delayed S x.p z,rfl,hH1.on.same s0,W1,fun H2 l s2 hl=> ?_⟩
  refine ⟨p0,l,_,_,rfl,rfl,s2 _ _ aj,hl,?_,fun q hq=> ?_⟩
  · rw [il]
    have:(Vbaham.faulty (Vbaham.delayed S x.p z)).length<=30:=by
      rw [W1.rel.faulty,List.length_map]
      exact Nat.le_trans (List.length_filter_le ..) W1.nm
    have sz:1000 < sizeLine:=by decide
    show 1 + _<=_
    omega
  · have s3:=(s0.trans s2).trans (aC.upd (o:= .lst ([.int 0]++nats (Vbaham.faulty (Vbaham.delayed S x.p z)))) hq)
    refine k _ q (Ot s x.p z) ((Fr.upd fX).trans s3.fr) (hH1.same s3.off) rfl W1 ?_
    rw [aj,ik]
    rfl
end
end Crew
namespace L2
open PySem PySem.Spec PyProof.Rows
theorem lc_wi {J:It} {ok:Hp->Prop} {n:Nat} {it:Nat->Hp->V->Hp->Prop} {g:TG} {tt:TT} {te:TE} {vs:List Nat} {σ : St} {H1:Hp} {D:Addr} {Qd:Hp->Prop} (w:Wk J ok n it) (Pv:Nat->Hp->Prop) (h0:Pv 0 (upd H1 D (.lst []))) (hl:∀ i H,i<=n->Pv i H->ok H)
    (hs:∀ i x H H',i < n->Pv i H->it i H x H'->g x (wipe σ vs) H' fun σ2 H2=>wipe σ2 vs=wipe σ vs/\tt σ2 H2 fun b H3 =>
      if b=true then te σ2 H3 fun y H4=>∃ acc,H4 D=some (.lst acc)/\acc.length < sizeLine/\Pv (i + 1) (upd H4 D (.lst (acc++[y]))) else Pv (i + 1) H3) (hd:∀ H,Pv n H->Qd H) :
    ∃ W:Nat->Nat->Hp->Prop,(∃ m,W 0 m (upd H1 D (.lst [])))/\∀ i m H,W i m H ->
      (J.stop i H/\Qd H)\/(J.go i H/\∃ Nx:Hp->Prop,(∀ H',Nx H'->∃ m',m' < m/\W (i + 1) m' H')/\∀ x H',J.yld i H x H'->g x (wipe σ vs) H' fun σ2 H2=>wipe σ2 vs=wipe σ vs/\tt σ2 H2 fun b H3 =>
        if b=true then te σ2 H3 fun y H4=>∃ acc,H4 D=some (.lst acc)/\acc.length < sizeLine/\Nx (upd H4 D (.lst (acc++[y]))) else Nx H3):=by
  refine ⟨fun i m H=>m=n - i/\i<=n/\Pv i H,⟨n,by simp,Nat.zero_le _,h0⟩,?_⟩
  rintro i m H ⟨rfl,hi,p⟩
  have q:=hl i H hi p
  by_cases hlt:i < n
  · exact .inr ⟨w.go i H q hlt,Pv (i + 1),fun H' p'=>⟨n - (i + 1),by omega,rfl,hlt,p'⟩,fun x H' y=>hs i x H H' hlt p (w.yld i H x H' q hlt y)⟩
  · have e:i=n:=by omega
    subst e
    exact .inl ⟨w.stop H q,hd H p⟩
theorem wkC {lo c:Int} {n:Nat}:Wk (Itc lo c n) (fun _=>True) n (fun i H v H'=>H'=H/\v = .int (lo + (i:Nat) * c)) :=
 ⟨fun i H _ hi=>hi,fun i H v H' _ hi y=>y,fun H _=>Nat.le_refl _⟩
def Bar (s:Addr) (H H':Hp):Prop:=∀ b o,H b=some o->b ≠ s->H' b=some o
theorem made {H H':Hp} {x dx C:Addr} (nx:H x=none) (nd:H dx=none) (h:Bar x (upd (upd H dx (.own x)) x (.ins C dx [])) H'):aC H H':=fun b o e=>h b o (by rw [ak (az e nx),ak (az e nd)]; exact e) (az e nx)
theorem Nq {H:Hp} {x dx C:Addr} (nx:H x=none) (nd:H dx=none):aC H (upd (upd H dx (.own x)) x (.ins C dx [])):=fun b o e=>by rw [ak (az e nx),ak (az e nd)]; exact e
end L2
namespace Crew
open PySem PySem.Spec PyProof.Rows L2
open Vbaham (Leg Rules Member State)
section
variable {P:Program} {w:World} {K:PySem.W.Frag} {mg:Str->Option Value} {base:Heap} {C:Ads}
abbrev mG:Stmt:=inClass (top 9) 0
theorem Ec:aG ["self", "number", "base", "rank"] ["self", "number", "base", "rank"] (aD mG):=⟨rfl,rfl,rfl,by decide +kernel,rfl,by decide +kernel,by decide +kernel⟩
def rR (C:Ads):Sp:=fun vs H Q _=>∃ (s dx:Addr) (m:Member),vs=[.ref s,.int m.id,.int m.base,.int m.rank]/\H s=some (.ins C.member dx []) /\
 ∀ (H':Hp) (la:Addr),H' s=some (.ins C.member dx (Nh m la))->H la=none->H' la=some (.lst [])->Bar s H H'->Q .non H'
theorem Er {f:Addr} {fd:FuncData} (F:Fun K "__init__" "Member.__init__" mG f fd) (T:cB w K mg C):aY P w K mg base CX0 1 f fd ["self", "number", "base", "rank"] (rR C):=by
  refine F.ok Ec (fun vs H Q E h=> ?_) (fun cdv A outer s H vs Q E hr h=> ?_)
  · obtain ⟨_,_,_,rfl,_⟩:=h
    rfl
  · obtain ⟨s,dx,m,rfl,hs,k⟩:=h
    refine ⟨_,(ao (xst (pv 0) (pv 1))
      (ao (xst (pv 0) (pv 2))
      (ao (xst (pv 0) (pv 3))
      (au (xst (pv 0) (aX aq)))))),?_⟩
    refine ⟨_,rfl,_,rfl,s,_,_,_,rfl,hs,T.aN,T.jm,(by show 0 < 1000; decide),?_⟩
    refine ⟨_,rfl,_,rfl,s,_,_,_,rfl,aj,T.aN,T.Fi,(by show 1 < 1000; decide),?_⟩
    refine ⟨_,rfl,_,rfl,s,_,_,_,rfl,aj,T.aN,T.wU,(by show 2 < 1000; decide),?_⟩
    refine ⟨Nat.zero_le _,fun la hla=> ?_⟩
    have nls:la ≠ s:=fun z=>by rw [z,aj] at hla; cases hla
    refine ⟨_,rfl,s,_,_,_,rfl,(ak nls.symm).trans aj,T.aN,T.cG,(by show 3 < 1000; decide),?_⟩
    rw [cQ,cQ] at hla ⊢
    refine k _ la ?_ (by rw [ak nls] at hla; exact hla) (by rw [ak nls,aj]) fun b o e hb=>by
      rw [ak hb,ak (fun z=>by rw [z,<-ak (H:=H) nls (o:= .ins C.member dx [])] at e; rw [ak nls] at e hla; rw [hla] at e; cases e),ak hb]
      exact e
    rw [aj]
    rfl
abbrev wH:Stmt:=inClass (top 8) 0
theorem Mg:aG ["self", "place", "ends", "times", "needs"] ["self", "place", "ends", "times", "needs"] (aD wH):=⟨rfl,rfl,rfl,by decide +kernel,rfl,by decide +kernel,by decide +kernel⟩
def Bh (C:Ads):Sp:=fun vs H Q _=>∃ (s dx e t nd:Addr) (p:Nat) (g:Leg),vs=[.ref s,.int p,.ref e,.ref t,.ref nd]/\H s=some (.ins C.leg dx [])/\H e=some (.lst [.int g.from_,.int g.to_])/\H t=some (.lst [.int g.dep,.int g.arr]) /\
 ∀ (H':Hp),H' s=some (.ins C.leg dx (Fl p g nd))->Bar s H H'->Q .non H'
theorem MP {f:Addr} {fd:FuncData} (F:Fun K "__init__" "Leg.__init__" wH f fd) (T:cB w K mg C):aY P w K mg base CX0 1 f fd ["self", "place", "ends", "times", "needs"] (Bh C):=by
  refine F.ok Mg (fun vs H Q E h=> ?_) (fun cdv A outer s H vs Q E hr h=> ?_)
  · obtain ⟨_,_,_,_,_,_,_,rfl,_⟩:=h
    rfl
  · obtain ⟨s,dx,e,t,nd,p,g,rfl,hs,he,ht,k⟩:=h
    refine ⟨_,(ao (xst (pv 0) (pv 1))
      (ao (xst (pv 0) (xl (pv 2) aB))
      (ao (xst (pv 0) (xl (pv 2) aB))
      (ao (xst (pv 0) (xl (pv 3) aB))
      (ao (xst (pv 0) (xl (pv 3) aB))
      (au (xst (pv 0) (pv 4)))))))),?_⟩
    have ne:e ≠ s:=fZ he hs
    have nt:t ≠ s:=fZ ht hs
    refine ⟨_,rfl,_,rfl,s,_,_,_,rfl,hs,T.bQ,T.yg,(by show 0 < 1000; decide),?_⟩
    refine ⟨_,rfl,e,_,_,_,rfl,rfl,SqL.of ((ak ne).trans he),aK (j:=0) rfl rfl,_,rfl,s,_,_,_,rfl,aj,T.bQ,T.yh,(by show 1 < 1000; decide),?_⟩
    rw [cQ]
    refine ⟨_,rfl,e,_,_,_,rfl,rfl,SqL.of ((ak ne).trans he),aK (j:=1) rfl rfl,_,rfl,s,_,_,_,rfl,aj,T.bQ,T.YW,(by show 2 < 1000; decide),?_⟩
    rw [cQ]
    refine ⟨_,rfl,t,_,_,_,rfl,rfl,SqL.of ((ak nt).trans ht),aK (j:=0) rfl rfl,_,rfl,s,_,_,_,rfl,aj,T.bQ,T.lB,(by show 3 < 1000; decide),?_⟩
    rw [cQ]
    refine ⟨_,rfl,t,_,_,_,rfl,rfl,SqL.of ((ak nt).trans ht),aK (j:=1) rfl rfl,_,rfl,s,_,_,_,rfl,aj,T.bQ,T.t7,(by show 4 < 1000; decide),?_⟩
    rw [cQ]
    refine ⟨_,rfl,_,rfl,s,_,_,_,rfl,aj,T.bQ,T.Dr,(by show 5 < 1000; decide),?_⟩
    rw [cQ]
    refine k _ ?_ fun b o e hb=>by rw [ak hb]; exact e
    rw [aj]
    rfl
abbrev oY:Stmt:=inClass (top 7) 0
theorem G8:aG ["self", "plain", "longest", "windows"] ["self", "plain", "longest", "windows"] (aD oY):=⟨rfl,rfl,rfl,by decide +kernel,rfl,by decide +kernel,by decide +kernel⟩
def lQ (C:Ads):Sp:=fun vs H Q _=>∃ (s dx p l w:Addr) (r:Rules),vs=[.ref s,.ref p,.ref l,.ref w]/\H s=some (.ins C.rules dx [])/\H p=some (.lst [.int r.turn,.int r.gap,.int r.before,.int r.after,.int r.rest,.int r.days]) /\
 ∀ (H':Hp),H' s=some (.ins C.rules dx (PN r l w))->Bar s H H'->Q .non H'
theorem Hg {f:Addr} {fd:FuncData} (F:Fun K "__init__" "Rules.__init__" oY f fd) (T:cB w K mg C):aY P w K mg base CX0 1 f fd ["self", "plain", "longest", "windows"] (lQ C):=by
  refine F.ok G8 (fun vs H Q E h=> ?_) (fun cdv A outer s H vs Q E hr h=> ?_)
  · obtain ⟨_,_,_,_,_,_,rfl,_⟩:=h
    rfl
  · obtain ⟨s,dx,p,l,w,r,rfl,hs,hp,k⟩:=h
    refine ⟨_,(ao (xst (pv 0) (xl (pv 1) aB))
      (ao (xst (pv 0) (xl (pv 1) aB))
      (ao (xst (pv 0) (xl (pv 1) aB))
      (ao (xst (pv 0) (xl (pv 1) aB))
      (ao (xst (pv 0) (xl (pv 1) aB))
      (ao (xst (pv 0) (xl (pv 1) aB))
      (ao (xst (pv 0) (pv 2))
      (au (xst (pv 0) (pv 3)))))))))),?_⟩
    have ne:p ≠ s:=fZ hp hs
    refine ⟨_,rfl,p,_,_,_,rfl,rfl,SqL.of hp,aK (j:=0) rfl rfl,_,rfl,s,_,_,_,rfl,hs,T.cY,T.PQ,(by show 0 < 1000; decide),?_⟩
    refine ⟨_,rfl,p,_,_,_,rfl,rfl,SqL.of ((ak ne).trans hp),aK (j:=1) rfl rfl,_,rfl,s,_,_,_,rfl,aj,T.cY,T.VD,(by show 1 < 1000; decide),?_⟩
    rw [cQ]
    refine ⟨_,rfl,p,_,_,_,rfl,rfl,SqL.of ((ak ne).trans hp),aK (j:=2) rfl rfl,_,rfl,s,_,_,_,rfl,aj,T.cY,T.Ek,(by show 2 < 1000; decide),?_⟩
    rw [cQ]
    refine ⟨_,rfl,p,_,_,_,rfl,rfl,SqL.of ((ak ne).trans hp),aK (j:=3) rfl rfl,_,rfl,s,_,_,_,rfl,aj,T.cY,T.JV,(by show 3 < 1000; decide),?_⟩
    rw [cQ]
    refine ⟨_,rfl,p,_,_,_,rfl,rfl,SqL.of ((ak ne).trans hp),aK (j:=4) rfl rfl,_,rfl,s,_,_,_,rfl,aj,T.cY,T.PX,(by show 4 < 1000; decide),?_⟩
    rw [cQ]
    refine ⟨_,rfl,p,_,_,_,rfl,rfl,SqL.of ((ak ne).trans hp),aK (j:=5) rfl rfl,_,rfl,s,_,_,_,rfl,aj,T.cY,T.P0,(by show 5 < 1000; decide),?_⟩
    rw [cQ]
    refine ⟨_,rfl,_,rfl,s,_,_,_,rfl,aj,T.cY,T.zY,(by show 6 < 1000; decide),?_⟩
    rw [cQ]
    refine ⟨_,rfl,_,rfl,s,_,_,_,rfl,aj,T.cY,T.zX,(by show 7 < 1000; decide),?_⟩
    rw [cQ]
    refine k _ ?_ fun b o e hb=>by rw [ak hb]; exact e
    rw [aj]
    rfl
end
theorem Ls (id:Nat):∀ Ms:List MB,xu (kvM Ms) (.inl (id:Int))=(Ms.find? fun M=>M.m.id == id).map fun M=>V.ref M.a
 | []=>rfl
 | M :: Ms=>by
  have ih:=Ls id Ms
  unfold kvM at ih ⊢
  rw [List.map_cons,List.find?_cons]
  by_cases e:M.m.id=id
  ·rw [rJ (by show (Sum.inl (M.m.id:Int):Key)=_; rw [e]),show (M.m.id == id)=true by simp [e]]
   rfl
  ·rw [rK (by show ¬ (Sum.inl (M.m.id:Int):Key)=_; intro z; injection z with z; omega),show (M.m.id == id)=false by simp [e]]
   exact ih
theorem bx.Bb {C:Ads} {H:Hp} {s:HS} {M:MB} (h:bx C H s) (hM:Xo C H M) (hx:M.xs=[]) (hla:H M.la=some (.lst [])) (hw:M.la ≠ s.w) (hl:M.la ≠ s.ll) (hn:∀ Z ∈ s.Ms,Z.la ≠ M.la):bx C (upd H s.md (.dK (kvM (s.Ms++[M])))) { s with Ms:=s.Ms++[M] }:=by
 have sd:Jx H (upd H s.md (.dK (kvM (s.Ms++[M])))):=Il h.dic
 have hz:=h.toHz.Ef sd
 refine ⟨⟨hz.ho,hz.rules,hz.ll,hz.lg,fun N m=> ?_,fun N m=> ?_,?_⟩,aj⟩
 ·rcases List.mem_append.mp m with m | m
  ·exact hz.mo N m
  ·have:N=M:=by simpa using m
   subst this
   obtain ⟨dx,e⟩:=hM
   exact ⟨dx,sd _ _ e yc⟩
 ·rcases List.mem_append.mp m with m | m
  ·exact hz.ml N m
  ·have:N=M:=by simpa using m
   subst this
   rw [hx]
   exact sd _ _ hla uZ
 ·show (s.w :: s.ll :: (s.Ms++[M]).map (·.la)).Nodup
  have nd:=h.nd
  rw [List.nodup_cons,List.nodup_cons] at nd
  rw [List.map_append,List.nodup_cons,List.nodup_cons,List.nodup_append]
  refine ⟨fun z=> ?_,fun z=> ?_,nd.2.2,by simp,fun a ha b hb=> ?_⟩
  ·rcases List.mem_cons.mp z with z | z
   ·exact nd.1 (by rw [z]; simp)
   ·rcases List.mem_append.mp z with z | z
    ·exact nd.1 (List.mem_cons.mpr (.inr z))
    ·have:s.w=M.la:=by simpa using z
     exact hw this.symm
  ·rcases List.mem_append.mp z with z | z
   ·exact nd.2.1 z
   ·have:s.ll=M.la:=by simpa using z
    exact hl this.symm
  ·have:b=M.la:=by simpa using hb
   rw [this]
   obtain ⟨Z,mZ,rfl⟩:=List.mem_map.mp ha
   exact hn Z mZ
def Pb (s:HS) (c:Vbaham.Call) (fs:List V) (_:List (List Int)):Prop:=∃ m:Member,c = .member m/\fs=[.int m.id,.int m.base,.int m.rank]/\m.rank<=2
def aak (s:HS) (c:Vbaham.Call) (fs:List V) (rs:List (List Int)):Prop:=∃ g:Leg,c = .leg g/\fs=[.int g.from_,.int g.to_,.int g.dep,.int g.arr]/\rs=[g.needs.map Int.ofNat]/\g.needs.length=3/\∀ n ∈ g.needs,n<=4
theorem bx.Q3 {C:Ads} {H:Hp} {s:HS} {S:State} (h:bx C H s) (W:Wf s S) {x:LG} (hx:fV C H x.a x.p x.g) (hn:x.g.needs ≠ []):bx C (upd H s.ll (.lst (refs (s.Lg++[x])))) { s with Lg:=s.Lg++[x] }:=by
 have nd:=h.nd
 rw [List.nodup_cons,List.nodup_cons] at nd
 have insN:∀ {b Cc dx fs},H b=some (.ins Cc dx fs)->b ≠ s.ll:=fun e z=>by rw [z,h.ll] at e; cases e
 refine ⟨⟨?_,h.rules.Lw h.ll W.Z8 (fun z=>nd.1 (by rw [z]; simp)),aj,fun y m=> ?_,fun N m=> ?_,fun N m=> ?_,h.nd⟩,?_⟩
 ·obtain ⟨dx,e⟩:=h.ho
  exact ⟨dx,by show upd H s.ll _ s.h=_; rw [ak (insN e)]; exact e⟩
 ·rcases List.mem_append.mp m with m | m
  ·exact (h.lg y m).Lw h.ll (W.ndne m)
  ·have:y=x:=by simpa using m
   subst this
   exact hx.Lw h.ll hn
 ·obtain ⟨dx,e⟩:=h.mo N m
  exact ⟨dx,by rw [ak (insN e)]; exact e⟩
 ·rw [ak (fun z=>nd.2.1 (List.mem_map.mpr ⟨N,m,z⟩))]
  exact h.ml N m
 ·show upd H s.ll _ s.md=_
  rw [ak (fun z=>by have:=h.dic; rw [z,h.ll] at this; cases this)]
  exact h.dic
theorem jO {F:Addr->Bool} {H:Hp} {p:Addr} (hF:∀ b,F b=true->H b ≠ none) (hp:H p=none):F p=false:=by
 cases e:F p with
 | false=>rfl
 | true=>exact absurd hp (hF p e)
section
variable {P:Program} {w:World} {K:PySem.W.Frag} {mg:Str->Option Value} {base:Heap} {C:Ads}
abbrev mO:Stmt:=top 54
theorem sE:aG ["house", "arguments", "rows", "number"] ["house", "arguments", "rows"] (aD mO):=⟨rfl,rfl,rfl,by decide +kernel,rfl,by decide +kernel,by decide +kernel⟩
theorem Ex {f fl:Addr} {fd fdl:FuncData} (F:Fun K "call_member" "call_member" mO f fd) (T:cB w K mg C) (Gs:MkI P w K mg base "Member" C.member 1 fl fdl ["self", "number", "base", "rank"] (rR C)) :
    aY P w K mg base CX0 4 f fd ["house", "arguments", "rows"] (bZ C Pb):=by
  refine F.ok sE (fun vs H Q E h=>bj h) (fun cdv A outer s H vs Q E hr h=> ?_)
  obtain ⟨Fm,s,S,c,fa,ra,fs,rs,rfl,hH,W,hF,hfa,hra,⟨m,rfl,rfl,hrk⟩,k⟩:=h
  refine ⟨_,(ao (bG 3 sE.nd (xl (pv 1) aB))
      (ao (cV (aaM (aaQ (Wx hr) (pv 3) (xf (pv 0))))
        (au (aJ (aX (aa (bC rfl T.pW) aq))))
        bD)
      (ao (cV (aV MJ (aW U6 (by rfl) T.iG PySem.boot_len (aa (xf (pv 0)) aq)) (bC rfl T.iy) (bh _))
        (au (aJ (aX (aa (bC rfl T.Fw) aq))))
        bD)
      (ao (Yz (Wx hr) (xf (pv 0)) (pv 3) (jj Gs (hr.mono (by decide)) (aa (pv 3) (aa (xl (pv 1) aB) (aa (xl (pv 1) aB) aq)))) rfl)
      (au (aJ (aX (aa aB aq)))))))),?_⟩
  obtain ⟨hdx,hh⟩:=hH.on.ho
  have hd:=hH.on.dic
  have st:Vbaham.step S (.member m)=if (Vbaham.memberOf S m.id).isSome=true then (S,[-4]) else if 30<=S.members.length then (S,[-6]) else ({ S with members:=S.members++[m] },[0]):=rfl
  rw [st] at k
  have em:=W.rel.memberOf m.id
  have ev:=Ls m.id s.Ms
  refine ⟨_,rfl,fa,_,_,_,rfl,rfl,SqL.of hfa,aK (j:=0) rfl rfl,?_⟩
  refine ⟨_,rfl,_,rfl,aO hh T.bO T.eQ rfl ⟨s.md,_,rfl,O7.k (k:= .inl (m.id:Int)) hd,_,rfl,?_⟩⟩
  cases hfind:s.Ms.find? (fun M=>M.m.id == m.id) with
  | some M =>
    rw [hfind] at em ev
    rw [ev]
    rw [em] at k
    refine bN ⟨(by show 1<=sizeLine; decide),fun q hq=> ?_⟩
    exact qj.same (S:=S) (ans:=[-4]) k hH W (aC.upd hq) aj
  | none =>
    rw [hfind] at em ev
    rw [ev]
    rw [em] at k
    refine bY ⟨_,rfl,aO hh T.bO T.eQ rfl ⟨s.md,_,rfl,hd,_,_,rfl,rfl,_,rfl,?_⟩⟩
    have el:(kvM s.Ms).length=s.Ms.length:=by unfold kvM; rw [List.length_map]
    have eS:S.members.length=s.Ms.length:=by rw [W.rel.mem,List.length_map]
    by_cases c2:30<=s.Ms.length
    · rw [decide_eq_true (by rw [el]; omega)]
      refine bN ⟨(by show 1<=sizeLine; decide),fun q hq=> ?_⟩
      rw [eS,if_pos c2] at k
      exact qj.same (S:=S) (ans:=[-6]) k hH W (aC.upd hq) aj
    rw [decide_eq_false (by rw [el]; omega)]
    rw [eS,if_neg c2] at k
    have k:qj C Fm s ({ S with members:=S.members++[m] },[0]) H Q:=k
    refine bY ⟨_,rfl,_,rfl,fa,_,_,_,rfl,rfl,SqL.of hfa,aK (j:=1) rfl rfl,_,rfl,fa,_,_,_,rfl,rfl,SqL.of hfa,aK (j:=2) rfl rfl,fun x dx nx nd nex=> ?_⟩
    refine ⟨x,dx,m,rfl,aj,fun H1 la h1 hla0 hla bar=>⟨rfl,?_⟩⟩
    have s1:aC H H1:=made nx nd bar
    have zla:H la=none:=same_none (Nq nx nd) hla0
    have sz:1000 < sizeLine:=by decide
    refine ⟨_,rfl,aO (s1 _ _ hh) T.bO T.eQ rfl ⟨_,rfl,s.md,_,rfl,Xr.k (k:= .inl (m.id:Int)) (s1 _ _ hd) (by rw [el]; omega),?_⟩⟩
    have ep:putK (kvM s.Ms) (.inl (m.id:Int)) (.ref x)=kvM (s.Ms++[⟨x,la,m,[]⟩]):=by
      rw [VH _ ev]
      unfold kvM
      rw [List.map_append]
      rfl
    rw [ep]
    refine ⟨(by show 1<=sizeLine; decide),fun q hq=> ?_⟩
    have fx:=jO hF.1 nx
    have fla:=jO hF.1 zla
    have fmd:=(bL hH.dic).1
    obtain ⟨rdx,ln,ws,r1,r2,r3,r4,r5⟩:=hH.on.rules
    have hH1:=(hH.same s1.off).Bb (M:=⟨x,la,m,[]⟩) ⟨dx,by rw [bM fx]; exact h1⟩ rfl (by rw [bM fla]; exact hla) (az r3 zla).symm (az hH.on.ll zla).symm (fun Z mZ=>az (hH.on.ml Z mZ) zla)
    have hnid:m.id ∉ s.Ms.map fun M=>M.m.id:=fun z=>by
      obtain ⟨M,mM,e⟩:=List.mem_map.mp z
      have:=List.find?_eq_none.mp hfind M mM
      exact this (by simp [e])
    have rel:=W.rel.Bb (a:=x) (la:=la) hnid
    refine k _ q { s with Ms:=s.Ms++[⟨x,la,m,[]⟩] } ((s1.fr.trans (Fr.upd fmd)).trans (aC.upd hq).fr) ?_ rfl ⟨rel,W.nl,?_,W.lon,W.win,W.val,W.nd3,W.nd4,fun N mN=> ?_⟩ aj
    · refine bx.same (aC.upd hq).off ?_
      rw [jK fmd]
      exact hH1
    · show (s.Ms++[_]).length<=30
      rw [List.length_append]
      show s.Ms.length + 1<=30
      omega
    · rcases List.mem_append.mp mN with q | q
      · exact W.rk N q
      · have:N=⟨x,la,m,[]⟩:=by simpa using q
        rw [this]
        exact hrk
abbrev wL:Stmt:=top 53
theorem jh:aG ["house", "arguments", "rows", "ends", "times", "lasts", "place"] ["house", "arguments", "rows"] (aD wL):=⟨rfl,rfl,rfl,by decide +kernel,rfl,by decide +kernel,by decide +kernel⟩
theorem M5 {f fl:Addr} {fd fdl:FuncData} (F:Fun K "call_leg" "call_leg" wL f fd) (T:cB w K mg C) (Xp:MkI P w K mg base "Leg" C.leg 1 fl fdl ["self", "place", "ends", "times", "needs"] (Bh C)) :
    aY P w K mg base CX0 4 f fd ["house", "arguments", "rows"] (bZ C aak):=by
  refine F.ok jh (fun vs H Q E h=>bj h) (fun cdv A outer s H vs Q E hr h=> ?_)
  obtain ⟨Fm,s,S,c,fa,ra,fs,rs,rfl,hH,W,hF,hfa,⟨as,hra,ras,hrows⟩,⟨g,rfl,rfl,rfl,hn3,hn4⟩,k⟩:=h
  refine ⟨_,(ao (bG 3 jh.nd (tV xP (pv 1) (lw aB) (lw aB)))
      (ao (bG 4 jh.nd (tV xP (pv 1) (lw aB) (lw aB)))
      (ao (bG 5 jh.nd (bB d8 (xl (pv 4) aB) (xl (pv 4) aB)))
      (ao (cV (PW.pt (Iv (aV vL (xl (pv 3) aB) (xl (pv 3) aB) (bh _)) (Iv (aV xX (xl (pv 4) aB) (bC rfl T.jn) (bh _)) (Iv (aV Wc (pv 5) aB (bh _)) (JW (aV qJ (pv 5) (bC rfl T.jc) (bh _)))))))
        (au (aJ (aX (aa (bC rfl T.dR) aq))))
        bD)
      (ao (cV (aV MJ (aW bf (by rfl) T.iG PySem.boot_len (aa (xf (pv 0)) aq)) (bC rfl T.lE) (bh _))
        (au (aJ (aX (aa (bC rfl T.Fw) aq))))
        bD)
      (ao (bG 6 jh.nd (bB gr (aW bf (by rfl) T.iG PySem.boot_len (aa (xf (pv 0)) aq)) aB))
      (ao (xap (xf (pv 0)) (jj Xp (hr.mono (by decide)) (aa (pv 6) (aa (pv 3) (aa (pv 4) (aa (xl (pv 2) aB) aq))))))
      (au (aJ (aX (aa aB (aa (pv 6) aq)))))))))))),?_⟩
  have st:Vbaham.step S (.leg g)=if g.from_=g.to_\/g.dep < 1440\/g.arr<=g.dep\/1200 < g.arr - g.dep then (S,[-5]) else if 60<=S.legs.length then (S,[-6]) else ({ S with legs:=S.legs++[g] },Vbaham.ok [S.legs.length + 1]):=rfl
  rw [st] at k
  obtain ⟨hdx,hh⟩:=hH.on.ho
  have eS:S.legs.length=s.Lg.length:=by rw [W.rel.legs]; unfold legs; rw [List.length_map]
  rw [eS] at k
  refine ⟨_,rfl,0,rfl,2,rfl,fa,_,rfl,SqL.of hfa,fun e he=> ?_⟩
  show (fun x H1=>yp 3 x _ H1 _) (V.ref e) (upd H e (.lst [.int g.from_,.int g.to_]))
  have s1:aC H (upd H e (.lst [.int g.from_,.int g.to_])):=aC.upd he
  refine ⟨_,rfl,2,rfl,4,rfl,fa,_,rfl,SqL.of (s1 _ _ hfa),fun t ht=> ?_⟩
  show (fun x H1=>yp 4 x _ H1 _) (V.ref t) (upd (upd H e (.lst [.int g.from_,.int g.to_])) t (.lst [.int g.dep,.int g.arr]))
  have s2:aC (upd H e (.lst [.int g.from_,.int g.to_])) (upd (upd H e (.lst [.int g.from_,.int g.to_])) t (.lst [.int g.dep,.int g.arr])):=aC.upd ht
  have s12:=s1.trans s2
  have He:=s2 _ _ (aj (H:=H) (a:=e) (o:= .lst [.int g.from_,.int g.to_]))
  have Ht:=aj (H:=upd H e (.lst [.int g.from_,.int g.to_])) (a:=t) (o:= .lst [.int g.dep,.int g.arr])
  generalize hH2:upd (upd H e (.lst [.int g.from_,.int g.to_])) t (.lst [.int g.dep,.int g.arr])=H2 at s12 He Ht ⊢
  refine ⟨_,rfl,t,_,_,_,rfl,rfl,SqL.of Ht,aK (j:=1) rfl rfl,_,rfl,t,_,_,_,rfl,rfl,SqL.of Ht,aK (j:=0) rfl rfl,_,_,rfl,rfl,?_⟩
  refine ⟨_,rfl,e,_,_,_,rfl,rfl,SqL.of He,aK (j:=0) rfl rfl,_,rfl,e,_,_,_,rfl,rfl,SqL.of He,aK (j:=1) rfl rfl,rfl,_,rfl,?_⟩
  rw [yD]
  have bad:(g.from_=g.to_\/g.dep < 1440\/g.arr<=g.dep\/1200 < g.arr - g.dep)->∀ q,H2 q=none->Q (.ref q) (upd H2 q (.lst [.int (-5)])):=fun hc q hq=>by
    rw [if_pos hc] at k
    exact k.same hH W (s12.trans (aC.upd hq)) aj
  by_cases c1:g.from_=g.to_
  · rw [show (g.from_ == g.to_)=true by simp [c1]]
    exact bN (bN ⟨(by show 1<=sizeLine; decide),fun q hq=>bad (.inl c1) q hq⟩)
  rw [show (g.from_ == g.to_)=false by simp [c1]]
  refine bY ⟨_,rfl,t,_,_,_,rfl,rfl,SqL.of Ht,aK (j:=0) rfl rfl,_,_,rfl,rfl,_,rfl,?_⟩
  by_cases c2:g.dep < 1440
  · rw [decide_eq_true (by omega)]
    exact bN (bN ⟨(by show 1<=sizeLine; decide),fun q hq=>bad (.inr (.inl c2)) q hq⟩)
  rw [decide_eq_false (by omega)]
  refine bY ⟨_,rfl,_,_,rfl,rfl,_,rfl,?_⟩
  by_cases c3:g.arr<=g.dep
  · rw [decide_eq_true (by omega)]
    exact bN (bN ⟨(by show 1<=sizeLine; decide),fun q hq=>bad (.inr (.inr (.inl c3))) q hq⟩)
  rw [decide_eq_false (by omega)]
  refine bY ⟨_,rfl,_,_,rfl,rfl,_,rfl,?_⟩
  by_cases c4:1200 < g.arr - g.dep
  · rw [decide_eq_true (by omega)]
    exact bN ⟨(by show 1<=sizeLine; decide),fun q hq=>bad (.inr (.inr (.inr c4))) q hq⟩
  rw [decide_eq_false (by omega)]
  rw [if_neg (fun h=>h.elim c1 (fun h=>h.elim c2 (fun h=>h.elim c3 c4)))] at k
  have hll:=s12 _ _ hH.on.ll
  have hh2:=s12 _ _ hh
  refine bY ⟨_,rfl,aO hh2 T.bO T.ue rfl ⟨s.ll,_,rfl,.inl (SqL.of hll),_,_,rfl,rfl,_,rfl,?_⟩⟩
  rw [aM]
  by_cases c5:60<=s.Lg.length
  · rw [decide_eq_true (by omega)]
    rw [if_pos c5] at k
    exact bN ⟨(by show 1<=sizeLine; decide),fun q hq=>k.same hH W (s12.trans (aC.upd hq)) aj⟩
  rw [decide_eq_false (by omega)]
  rw [if_neg c5] at k
  refine bY ⟨_,rfl,aO hh2 T.bO T.ue rfl ⟨s.ll,_,rfl,.inl (SqL.of hll),_,_,rfl,rfl,?_⟩⟩
  rw [aM]
  have ep:(s.Lg.length:Int) + 1=((s.Lg.length + 1:Nat):Int):=by omega
  show (fun x H1=>yp 6 x _ H1 _) (V.int ((s.Lg.length:Int) + 1)) H2
  rw [ep]
  obtain ⟨nd,hnd⟩:∃ nd,as[0]? = some nd:=⟨_,List.getElem?_eq_getElem (by rw [ras]; exact Nat.zero_lt_one)⟩
  have hneeds:=hrows 0 nd _ hnd rfl
  obtain ⟨fnd,hneeds0⟩:=bL hneeds
  have en:(g.needs.map Int.ofNat).map V.int=nats g.needs:=Al g.needs
  rw [en] at hneeds hneeds0
  refine ⟨_,rfl,aO hh2 T.bO T.ue rfl ⟨.inl ⟨rfl,_,SqL.of hll⟩,?_⟩⟩
  refine ⟨_,rfl,_,rfl,_,rfl,_,rfl,ra,_,_,_,rfl,rfl,SqL.of (s12 _ _ hra),aK (j:=0) rfl (by rw [List.getElem?_map,hnd]; rfl),fun x dx nx ndx nex=> ?_⟩
  have s3:=Nq (C:=C.leg) nx ndx
  refine ⟨x,dx,e,t,nd,s.Lg.length + 1,g,rfl,aj,s3 _ _ He,s3 _ _ Ht,fun H3 hx bar=>⟨rfl,?_⟩⟩
  have s4:aC H2 H3:=made nx ndx bar
  have s5:=s12.trans s4
  have sz:1000 < sizeLine:=by decide
  refine ⟨s.ll,_,_,rfl,rfl,s4 _ _ hll,by rw [aM]; omega,?_⟩
  have fx:=jO hF.1 (same_none s12 nx)
  have fll:=(bL hH.ll).1
  have hleg:fV C (off Fm H3) x (s.Lg.length + 1) g:=⟨dx,nd,by rw [bM fx]; exact hx,s5.off _ _ hneeds⟩
  have nne:g.needs ≠ []:=fun z=>by rw [z] at hn3; cases hn3
  have hH1:=(hH.same s5.off).Q3 W (x:=⟨x,s.Lg.length + 1,g⟩) hleg nne
  have er:refs s.Lg++[.ref x]=refs (s.Lg++[⟨x,s.Lg.length + 1,g⟩]):=nW s.Lg ⟨x,s.Lg.length + 1,g⟩
  rw [er]
  refine ⟨_,rfl,(by show 2<=sizeLine; decide),fun q hq=> ?_⟩
  have rel:=W.rel.Q3 (x:=⟨x,s.Lg.length + 1,g⟩) rfl
  have cases_mem:∀ y ∈ s.Lg++[(⟨x,s.Lg.length + 1,g⟩:LG)],y ∈ s.Lg\/y=⟨x,s.Lg.length + 1,g⟩:=fun y my=>by
    rcases List.mem_append.mp my with q | q
    · exact .inl q
    · exact .inr (by simpa using q)
  refine k _ q { s with Lg:=s.Lg++[⟨x,s.Lg.length + 1,g⟩] } ((s5.fr.trans (Fr.upd fll)).trans (aC.upd hq).fr) ?_ rfl ⟨rel,?_,W.nm,W.lon,W.win,fun y my=> ?_,fun y my=> ?_,fun y my=> ?_,W.rk⟩ ?_
  · refine bx.same (aC.upd hq).off ?_
    rw [jK fll]
    exact hH1
  · show (s.Lg++[_]).length<=60
    rw [List.length_append]
    show s.Lg.length + 1<=60
    omega
  · rcases cases_mem y my with q | rfl
    · exact W.val y q
    · show g.dep < g.arr
      omega
  · rcases cases_mem y my with q | rfl
    · exact W.nd3 y q
    · exact hn3
  · rcases cases_mem y my with q | rfl
    · exact W.nd4 y q
    · exact hn4
  · rw [aj]
    rfl
end
def vN (ws:List (Nat × Nat)):List Nat:=ws.flatMap fun p=>[p.1,p.2]
theorem Av:∀ ws:List (Nat × Nat),(vN ws).length=2 * ws.length
 | []=>rfl
 | p :: ws=>by
  show ((p.1 :: p.2 :: vN ws)).length=_
  rw [List.length_cons,List.length_cons,List.length_cons,Av ws]
  omega
theorem NQ:∀ {ws:List (Nat × Nat)} {i:Nat} {p:Nat × Nat},ws[i]? = some p->(vN ws)[2 * i]? = some p.1/\(vN ws)[2 * i + 1]? = some p.2
 | [],_,_,h=>by simp at h
 | q :: ws,0,p,h=>by
  have e:q=p:=by simpa using h
  subst e
  exact ⟨rfl,rfl⟩
 | q :: ws,i + 1,p,h=>by
  have h':ws[i]? = some p:=by simpa using h
  obtain ⟨a,b⟩:=NQ h'
  show (q.1 :: q.2 :: vN ws)[2 * (i + 1)]? = _/\(q.1 :: q.2 :: vN ws)[2 * (i + 1) + 1]? = _
  rw [show 2 * (i + 1)=(2 * i) + 1 + 1 by omega,show 2 * i + 1 + 1 + 1=(2 * i + 1) + 1 + 1 by omega]
  simp only [List.getElem?_cons_succ]
  exact ⟨a,b⟩
theorem rg2 {n:Nat} (h:n<=4):RgC 0 ((2 * n:Nat):Int) 2 n:=by
 match n,h with
 | 0,_=>exact ⟨by decide,by decide,by decide,by decide⟩
 | 1,_=>exact ⟨by decide,by decide,by decide,by decide⟩
 | 2,_=>exact ⟨by decide,by decide,by decide,by decide⟩
 | 3,_=>exact ⟨by decide,by decide,by decide,by decide⟩
 | 4,_=>exact ⟨by decide,by decide,by decide,by decide⟩
def ZZ (H:Hp) (q:Addr) (ws:List (Nat × Nat)) (as:List Addr):Prop:=H q=some (.lst (as.map V.ref))/\as.length=ws.length/\∀ (i:Nat) (b:Addr) (p:Nat × Nat),as[i]? = some b->ws[i]? = some p->H b=some (.tup [.int p.1,.int p.2])
theorem N5:∀ l:List Nat,((l.zip (l.drop 1)).any fun p=>decide (p.1 < p.2)) = !Vbaham.falling l
 | []=>rfl
 | [_]=>rfl
 | x :: y :: r=>by
  have ih:=N5 (y :: r)
  show (((x,y) :: ((y :: r).zip r)).any _)=_
  rw [List.any_cons]
  have e:((y :: r).zip r)=((y :: r).zip ((y :: r).drop 1)):=rfl
  have hf:Vbaham.falling (x :: y :: r)=(decide (y<=x) && Vbaham.falling (y :: r)):=rfl
  rw [e,ih,hf,Bool.not_and]
  congr 1
  rw [Bool.eq_iff_iff,decide_eq_true_eq,Bool.not_eq_true',decide_eq_false_iff_not]
  show x < y ↔ _
  omega
theorem bx.Ea {C:Ads} {H:Hp} {s:HS} {r' w' dx:Addr} {R':Rules} (h:bx C H s) (hh:H s.h=some (.ins C.ou dx (houF s.r s.ll s.md))) (hr:kE C H r' w' R') (hl:w' ≠ s.ll) (hn:∀ Z ∈ s.Ms,Z.la ≠ w') :
  bx C (upd H s.h (.ins C.ou dx (houF r' s.ll s.md))) { s with r:=r',w:=w',R:=R' }:=by
 have lstN:∀ {b xs},H b=some (.lst xs)->b ≠ s.h:=fun e z=>by rw [z,hh] at e; cases e
 have tupN:∀ {b xs},H b=some (.tup xs)->b ≠ s.h:=fun e z=>by rw [z,hh] at e; cases e
 have nd:=h.nd
 rw [List.nodup_cons] at nd
 refine ⟨⟨⟨dx,aj⟩,?_,?_,fun x m=> ?_,fun N m=> ?_,fun N m=> ?_,?_⟩,?_⟩
 ·obtain ⟨rdx,ln,ws,h1,h2,h3,h4,h5⟩:=hr
  refine ⟨rdx,ln,ws,?_,?_,?_,h4,fun i b q e1 e2=> ?_⟩
  ·show upd H s.h _ r'=_
   rw [ak (eO kRul Wt h1 hh rfl rfl (by decide))]; exact h1
  ·show upd H s.h _ ln=_
   rw [ak (lstN h2)]; exact h2
  ·show upd H s.h _ w'=_
   rw [ak (lstN h3)]; exact h3
  ·have:=h5 i b q e1 e2
   rw [ak (tupN this)]; exact this
 ·show upd H s.h _ s.ll=_
  rw [ak (lstN h.ll)]
  exact h.ll
 ·obtain ⟨xdx,xnd,h1,h2⟩:=h.lg x m
  refine ⟨xdx,xnd,?_,?_⟩
  ·rw [ak (eO Ws Wt h1 hh rfl rfl (by decide))]; exact h1
  ·rw [ak (lstN h2)]; exact h2
 ·obtain ⟨zdx,hZ⟩:=h.mo N m
  exact ⟨zdx,by rw [ak (eO kMem Wt hZ hh rfl rfl (by decide))]; exact hZ⟩
 ·rw [ak (lstN (h.ml N m))]
  exact h.ml N m
 ·show (w' :: s.ll :: s.Ms.map (·.la)).Nodup
  rw [List.nodup_cons]
  refine ⟨fun z=> ?_,nd.2⟩
  rcases List.mem_cons.mp z with z | z
  ·exact hl z
  ·obtain ⟨Z,mZ,e⟩:=List.mem_map.mp z
   exact hn Z mZ e
 ·show upd H s.h _ s.md=_
  rw [ak (fun z=>by have:=h.dic; rw [z,hh] at this; cases this)]
  exact h.dic
def SX (s:HS) (c:Vbaham.Call) (fs:List V) (rs:List (List Int)):Prop:=∃ r:Rules,c = .rules r/\fs=[.int r.turn,.int r.gap,.int r.before,.int r.after,.int r.rest,.int r.days]/\rs=[r.longest.map Int.ofNat,(vN r.windows).map Int.ofNat]/\r.longest.length=8/\r.windows.length<=4
theorem U0 {xs:List V} (h:1<=xs.length):Ib xs (some 1) none=xs.drop 1:=by
 unfold Ib
 rw [HT.Vw,show (some (1:Int))=some ((1:Nat):Int) from rfl,HT.JS,Nat.min_eq_left h]
 exact List.take_of_length_le (by rw [List.length_drop]; exact Nat.le_refl _)
section
variable {P:Program} {w:World} {K:PySem.W.Frag} {mg:Str->Option Value} {base:Heap} {C:Ads}
abbrev wG:Stmt:=top 51
theorem rZ:aG ["row", "k"] ["row"] (aD wG):=⟨rfl,rfl,rfl,by decide +kernel,rfl,by decide +kernel,by decide +kernel⟩
def Bg:Sp:=fun vs H Q _=>∃ (l:Addr) (ws:List (Nat × Nat)),vs=[.ref l]/\H l=some (.lst (nats (vN ws)))/\ws.length<=4/\∀ (H':Hp) (q:Addr) (as:List Addr),aC H H'->H q=none->(∀ b ∈ as,H b=none)->ZZ H' q ws as->Q (.ref q) H'
theorem MN {f:Addr} {fd:FuncData} (F:Fun K "pairs_of" "pairs_of" wG f fd) (T:cB w K mg C):aY P w K mg base CX0 1 f fd ["row"] Bg:=by
 refine F.ok rZ (fun vs H Q E h=> ?_) (fun cdv A outer s H vs Q E hr h=> ?_)
 ·obtain ⟨_,_,rfl,_⟩:=h
  rfl
 ·obtain ⟨l,ws,rfl,hl,hn,k⟩:=h
  refine ⟨_,(au (aJ (jk (own:=[("k",1)]) rfl rZ.nd (TF rfl T.Dp (aa aB (aa (aW bf (by rfl) T.iG PySem.boot_len (aa (pv 0) aq)) (aa aB aq)))) (bu rfl) (fun _ _ _ _ _=>(xg 1 rZ.nd)) (fun _ _ _ _ _=>cF) (fun _ _ _ _ _=>(z6 (aa (kl K (pv 0) (pv 1)) (aa (kl K (pv 0) (bB gr (pv 1) aB)) aq))))))),?_⟩
  have sz:1000 < sizeLine:=by decide
  have el:(nats (vN ws)).length=2 * ws.length:=by rw [il,Av]
  refine ⟨_,rfl,l,_,rfl,.inl (SqL.of hl),0,_,2,ws.length,rfl,by rw [el]; exact rg2 hn,fun D hD=> ?_⟩
  refine lc_wi wkC (fun i H'=>aC H H'/\∃ as:List Addr,H' D=some (.lst (as.map V.ref))/\as.length=i/\(∀ b ∈ as,H b=none)/\∀ (j:Nat) (b:Addr) (p:Nat × Nat),as[j]? = some b->ws[j]? = some p->H' b=some (.tup [.int p.1,.int p.2]))
   ⟨aC.upd hD,[],aj,rfl,(fun _ m=>by cases m),fun j b p e=>by simp at e⟩ (fun _ _ _ _=>trivial) ?_ ?_
  ·rintro i v H1 H2 hi ⟨sm,as,hd,ea,hf,ht⟩ ⟨rfl,rfl⟩
   obtain ⟨p,hp⟩:∃ p,ws[i]? = some p:=⟨_,List.getElem?_eq_getElem hi⟩
   obtain ⟨p1,p2⟩:=NQ hp
   refine ⟨rfl,_,rfl,_,rfl,l,_,_,_,rfl,rfl,SqL.of (sm _ _ hl),aK (j:=2 * i) (by omega) (Do p1),_,rfl,_,rfl,_,_,rfl,rfl,l,_,_,_,rfl,rfl,SqL.of (sm _ _ hl),aK (j:=2 * i + 1) (by omega) (Do p2),(by show 2<=sizeLine; decide),fun t nt=> ?_⟩
   have tD:t ≠ D:=fun z=>by rw [z,hd] at nt; cases nt
   refine ⟨_,(ak tD.symm).trans hd,by rw [List.length_map]; omega,fun b o e=> ?_,as++[t],?_,?_,fun b m=> ?_,fun j b q e1 e2=> ?_⟩
   ·rw [ak (az e hD),ak (az (sm _ _ e) nt)]
    exact sm _ _ e
   ·rw [aj,List.map_append]
    rfl
   ·rw [List.length_append,ea]
    rfl
   ·rcases List.mem_append.mp m with m | m
    ·exact hf b m
    ·have:b=t:=by simpa using m
     rw [this]
     exact same_none sm nt
   ·by_cases hj:j < as.length
    ·rw [List.getElem?_append_left hj] at e1
     have:=ht j b q e1 e2
     rw [ak (fun z=>by rw [z,hd] at this; cases this),ak (az this nt)]
     exact this
    ·have hj2:j=i:=by
      have:=(List.getElem?_eq_some_iff.mp e1).1
      rw [List.length_append] at this
      have:j < as.length + 1:=this
      omega
     subst hj2
     rw [List.getElem?_append_right (by omega),ea,Nat.sub_self] at e1
     have et:t=b:=by simpa using e1
     subst et
     rw [hp] at e2
     cases e2
     rw [ak tD,aj]
  ·rintro H1 ⟨sm,as,hd,ea,hf,ht⟩
   exact k H1 D as sm hD hf ⟨hd,ea,ht⟩
abbrev pG:Stmt:=top 52
theorem fO:aG ["house", "arguments", "rows", "longest", "earlier", "later"] ["house", "arguments", "rows"] (aD pG):=⟨rfl,rfl,rfl,by decide +kernel,rfl,by decide +kernel,by decide +kernel⟩
theorem Hy {f fl fr fp:Addr} {fd fdl fdr fdp:FuncData} (F:Fun K "call_rules" "call_rules" pG f fd) (T:cB w K mg C) (vo:MkI P w K mg base "Rules" C.rules 1 fr fdr ["self", "plain", "longest", "windows"] (lQ C))
    (xj:FnI P w K mg base "pairs_of" 1 fp fdp ["row"] Bg) (fj:FnI P w K mg base "broken_ids" 9 fl fdl ["house"] (lY C)) :
    aY P w K mg base CX0 10 f fd ["house", "arguments", "rows"] (bZ C SX):=by
  refine F.ok fO (fun vs H Q E h=>bj h) (fun cdv A outer s H vs Q E hr h=> ?_)
  obtain ⟨Fm,s,S,c,fa,ra,fs,rs,rfl,hH,W,hF,hfa,⟨as,hra,ras,hrows⟩,⟨r,rfl,rfl,rfl,h8,hw4⟩,k⟩:=h
  refine ⟨_,(ao (bG 3 fO.nd (xl (pv 2) aB))
      (ao (cV (tQ (aW (Xi rfl) (by rfl) T.RQ Xv (aa (jk (own:=[("earlier",4),("later",5)]) rfl fO.nd (VM rfl T.Ff (aa (pv 3) (aa (tV xP (pv 3) (lw aB) Rx) aq))) (bu rfl) (fun _ _ _ _ _=>(kgt K 2 rfl (bA (xg 4 fO.nd) (bA (xg 5 fO.nd) fY)))) (fun _ _ _ _ _=>cF) (fun _ _ _ _ _=>(lz qJ (pv 5) (pv 4) (bh _)))) aq)))
        (au (aJ (aX (aa (bC rfl T.dR) aq))))
        bD)
      (ao (xst (pv 0) (jj vo (hr.mono (by decide)) (aa (pv 1) (aa (pv 3) (aa (aH xj (hr.mono (by decide)) (aa (xl (pv 2) aB) aq)) aq)))))
      (au (aJ (bB jz (aX (aa aB aq)) (aH fj (hr.mono (by decide)) (aa (pv 0) aq)))))))),?_⟩
  have st:Vbaham.step S (.rules r)=if Vbaham.falling r.longest=false then (S,[-5]) else ({ S with rules:=r },Vbaham.ok (Vbaham.faulty { S with rules:=r })):=rfl
  rw [st] at k
  have as2:as.length=2:=ras
  obtain ⟨a0,ha0⟩:∃ a,as[0]? = some a:=⟨_,List.getElem?_eq_getElem (by omega)⟩
  obtain ⟨a1,ha1⟩:∃ a,as[1]? = some a:=⟨_,List.getElem?_eq_getElem (by omega)⟩
  have hl:=hrows 0 a0 _ ha0 rfl
  have hwd:=hrows 1 a1 _ ha1 rfl
  have en:∀ l:List Nat,(l.map Int.ofNat).map V.int=nats l:=Al
  rw [en] at hl hwd
  obtain ⟨f0,hl0⟩:=bL hl
  obtain ⟨f1,hwd0⟩:=bL hwd
  have sz:1000 < sizeLine:=by decide
  refine ⟨_,rfl,ra,_,_,_,rfl,rfl,SqL.of hra,aK (j:=0) rfl (by rw [List.getElem?_map,ha0]; rfl),?_⟩
  refine ⟨_,rfl,_,rfl,1,rfl,a0,_,rfl,SqL.of hl0,fun p hp=> ?_⟩
  rw [U0 (by rw [il,h8]; decide)]
  have s1:=aC.upd (o:= .lst ((nats r.longest).drop 1)) hp
  have edrop:(nats r.longest).drop 1=nats (r.longest.drop 1):=by unfold nats; rw [List.map_drop]
  have hA:SqL K (upd H p (.lst ((nats r.longest).drop 1))) a0 (nats r.longest):=SqL.of (s1 _ _ hl0)
  have hB:SqL K (upd H p (.lst ((nats r.longest).drop 1))) p (nats (r.longest.drop 1)):=SqL.of (by rw [aj,edrop])
  refine ⟨a0,p,_,_,rfl,hA,hB,fun D hD=> ?_⟩
  refine eE (wkZ (K:=K) (a:=a0) (b:=p) (xs:=nats r.longest) (ys:=nats (r.longest.drop 1))) (fun H H' h s=>⟨s.seq h.1,s.seq h.2⟩) ⟨hA,hB⟩ (by rw [il,h8]; omega) hD (fun i=>((r.longest.zip (r.longest.drop 1))[i]?).map fun p=>V.bl (decide (p.1 < p.2))) ?_ ?_
  · rintro i v H1 H2 Kt Kf hi sm ⟨t,ps,rfl,ht,rfl,x,y,hx,hy,rfl⟩ kt kf
    obtain ⟨x',hx',rfl⟩:=cU hx
    obtain ⟨y',hy',rfl⟩:=cU hy
    refine ⟨t,_,rfl,SqT.of aj,rfl,_,_,rfl,_,_,rfl,rfl,rfl,_,rfl,_,rfl,_,_,rfl,rfl,kt _ _ ?_ (aC.upd ht)⟩
    rw [List.getElem?_zip_eq_some (z:=(x',y')) |>.mpr ⟨hx',hy'⟩]
    show some (V.bl (decide (x' < y')))=some (V.bl (decide ((x':Int) < (y':Int))))
    rw [show decide (x' < y')=decide ((x':Int) < (y':Int)) from decide_eq_decide.mpr (by omega)]
  intro H1 s2 hD1
  have e:min (nats r.longest).length (nats (r.longest.drop 1)).length=(r.longest.zip (r.longest.drop 1)).length:=by rw [il,il,List.length_zip]
  rw [e,gB] at hD1
  have e2:((r.longest.zip (r.longest.drop 1)).map fun p=>V.bl (decide (p.1 < p.2)))=((r.longest.zip (r.longest.drop 1)).map fun p=>decide (p.1 < p.2)).map V.bl:=by rw [List.map_map]; rfl
  rw [e2] at hD1
  have s02:=s1.trans s2
  refine ⟨D,_,rfl,SqL.of hD1,_,rfl,?_⟩
  have e3:((r.longest.zip (r.longest.drop 1)).map fun p=>decide (p.1 < p.2)).any id = !Vbaham.falling r.longest:=by
    rw [List.any_map,<-N5]
    rfl
  rw [e3]
  cases hfl:Vbaham.falling r.longest with
  | false =>
    rw [hfl] at k
    refine bN ⟨(by show 1<=sizeLine; decide),fun q hq=> ?_⟩
    exact qj.same (S:=S) (ans:=[-5]) k hH W (s02.trans (aC.upd hq)) aj
  | true =>
    rw [hfl] at k
    have k:qj C Fm s ({ S with rules:=r },Vbaham.ok (Vbaham.faulty { S with rules:=r })) H Q:=k
    refine bY ⟨_,rfl,_,rfl,_,rfl,ra,_,_,_,rfl,rfl,SqL.of (s02 _ _ hra),aK (j:=1) rfl (by rw [List.getElem?_map,ha1]; rfl),a1,r.windows,rfl,s02 _ _ hwd0,hw4,fun H3 w' ws s3 nw nws hws=> ?_⟩
    have s03:=s02.trans s3
    intro x dx nx nd nex
    refine ⟨x,dx,fa,a0,w',r,rfl,aj,(Nq nx nd) _ _ (s03 _ _ hfa),fun H4 hx4 bar=>⟨rfl,?_⟩⟩
    have s4:aC H3 H4:=made nx nd bar
    have s04:=s03.trans s4
    obtain ⟨hdx,hho⟩:=hH.ho
    obtain ⟨fh,hh⟩:=bL hho
    refine ⟨_,rfl,s.h,_,_,_,rfl,s04 _ _ hh,T.bO,T.pU,(by show 3 < 1000; decide),?_⟩
    have zw:H w'=none:=same_none s02 nw
    have fw:=jO hF.1 zw
    have fx:=jO hF.1 (same_none s03 nx)
    have hR:kE C (off Fm H4) x w' r:=by
      refine ⟨dx,a0,ws,by rw [bM fx]; exact hx4,s04.off _ _ hl,by rw [bM fw]; exact s4 _ _ hws.1,hws.2.1,fun i b q e1 e2=> ?_⟩
      have:=s4 _ _ (hws.2.2 i b q e1 e2)
      rw [bM (jO hF.1 (same_none s02 (nws b (List.mem_of_getElem? e1))))]
      exact this
    have hH4:=(hH.same s04.off).Ea (s04.off _ _ hho) hR (az hH.on.ll zw).symm (fun Z mZ=>az (hH.on.ml Z mZ) zw)
    rw [<-jK fh] at hH4
    have W4:Wf { s with r:=x,w:=w',R:=r } { S with rules:=r }:=⟨W.rel.Ea r,W.nl,W.nm,h8,hw4,W.val,W.nd3,W.nd4,W.rk⟩
    refine ⟨(by show 1<=sizeLine; decide),fun p0 hp0=> ?_⟩
    have s5:=aC.upd (o:= .lst [.int 0]) hp0
    refine ⟨_,rfl,{ s with r:=x,w:=w',R:=r },{ S with rules:=r },rfl,hH4.on.same s5,W4,fun H5 lq s6 hlq=> ?_⟩
    refine ⟨p0,lq,_,_,rfl,rfl,s6 _ _ aj,hlq,?_,fun q hq=> ?_⟩
    · rw [il]
      have:(Vbaham.faulty { S with rules:=r }).length<=30:=by
        rw [W4.rel.faulty,List.length_map]
        exact Nat.le_trans (List.length_filter_le ..) W4.nm
      show 1 + _<=_
      omega
    · have s7:=(s5.trans s6).trans (aC.upd (o:= .lst ([.int 0]++nats (Vbaham.faulty { S with rules:=r }))) hq)
      refine k _ q { s with r:=x,w:=w',R:=r } ((s04.fr.trans (Fr.upd fh)).trans s7.fr) (hH4.same s7.off) rfl W4 ?_
      rw [aj,ik]
      rfl
end
theorem Wf.start (x r w ll md:Addr):Wf ⟨x,r,w,ll,md,Vbaham.start.rules,[],[]⟩ Vbaham.start where
 rel:=Rel.start
 nl:=Nat.zero_le _
 nm:=Nat.zero_le _
 lon:=rfl
 win:=Nat.zero_le _
 val:=fun _ m=>nomatch m
 nd3:=fun _ m=>nomatch m
 nd4:=fun _ m=>nomatch m
 rk:=fun _ m=>nomatch m
section
variable {P:Program} {w:World} {K:PySem.W.Frag} {mg:Str->Option Value} {base:Heap} {C:Ads}
abbrev o8:Stmt:=inClass (top 10) 0
theorem Hb:aG ["self"] ["self"] (aD o8):=⟨rfl,rfl,rfl,by decide +kernel,rfl,by decide +kernel,by decide +kernel⟩
def vC (C:Ads):Sp:=fun vs H Q _=>∃ (x dx:Addr),vs=[.ref x]/\H x=some (.ins C.ou dx []) /\
 ∀ (H':Hp) (s0:HS),s0.h=x->(∀ F:Addr->Bool,(∀ b,F b=true->H b ≠ none/\b ≠ x)->bx C (off F H') s0)->Wf s0 Vbaham.start->Bar x H H'->Q .non H'
theorem Hm {f fr:Addr} {fd fdr:FuncData} (F:Fun K "__init__" "House.__init__" o8 f fd) (T:cB w K mg C) (vo:MkI P w K mg base "Rules" C.rules 1 fr fdr ["self", "plain", "longest", "windows"] (lQ C)):aY P w K mg base CX0 3 f fd ["self"] (vC C):=by
  refine F.ok Hb (fun vs H Q E h=> ?_) (fun cdv A outer s H vs Q E hr h=> ?_)
  · obtain ⟨_,_,rfl,_⟩:=h
    rfl
  · obtain ⟨x,dx,rfl,hx,k⟩:=h
    refine ⟨_,(ao (xst (pv 0) (jj vo (hr.mono (by decide)) (aa (aX (aa aB (aa aB (aa aB (aa aB (aa aB (aa aB aq))))))) (aa (bB aaR (aX (aa aB aq)) aB) (aa (aX aq) aq)))))
      (ao (xst (pv 0) (aX aq))
      (au (xst (pv 0) V2)))),?_⟩
    refine ⟨(by show 6<=sizeLine; decide),fun p1 h1=> ?_⟩
    refine ⟨(by show 1<=sizeLine; decide),fun p2 h2=> ?_⟩
    have s1:=aC.upd (o:= .lst [.int 0,.int 300,.int 0,.int 0,.int 0,.int 30]) h1
    have s2:=aC.upd (o:= .lst [.int 1440]) h2
    refine ⟨p2,8,_,rfl,rfl,aj,by decide,by decide,by decide,fun p3 h3=> ?_⟩
    have s3:=aC.upd (o:= .lst (List.replicate (8:Int).toNat [V.int 1440]).flatten) h3
    have c3:=aj (H:=upd (upd H p1 (.lst [.int 0,.int 300,.int 0,.int 0,.int 0,.int 30])) p2 (.lst [.int 1440])) (a:=p3) (o:= .lst (List.replicate (8:Int).toNat [V.int 1440]).flatten)
    have e8:(List.replicate (8:Int).toNat [V.int 1440]).flatten=nats Vbaham.start.rules.longest:=rfl
    have s13:=(s1.trans s2).trans s3
    have c1:=s3 _ _ (s2 _ _ (aj (H:=H) (a:=p1) (o:= .lst [.int 0,.int 300,.int 0,.int 0,.int 0,.int 30])))
    have n3:H p3=none:=same_none (s1.trans s2) h3
    generalize hH3:upd (upd (upd H p1 (.lst [.int 0,.int 300,.int 0,.int 0,.int 0,.int 30])) p2 (.lst [.int 1440])) p3 (.lst (List.replicate (8:Int).toNat [V.int 1440]).flatten)=H3 at s13 c3 c1
    rw [e8] at c3
    refine ⟨Nat.zero_le _,fun p4 h4=> ?_⟩
    intro r rdx nr nrd nex
    have s4:=aC.upd (o:= .lst []) h4
    have n4:H p4=none:=same_none s13 h4
    refine ⟨r,rdx,p1,p3,p4,Vbaham.start.rules,rfl,aj,(Nq nr nrd) _ _ (s4 _ _ c1),fun H5 hr5 bar=>⟨rfl,?_⟩⟩
    have s5:aC _ H5:=made nr nrd bar
    have s15:=(s13.trans s4).trans s5
    have nr0:H r=none:=same_none (s13.trans s4) nr
    have hx5:=s15 _ _ hx
    refine ⟨_,rfl,x,_,_,_,rfl,hx5,T.bO,T.pU,(by show 0 < 1000; decide),?_⟩
    refine ⟨Nat.zero_le _,fun ll hll=> ?_⟩
    have nxl:x ≠ ll:=fun z=>by rw [<-z,aj] at hll; cases hll
    refine ⟨_,rfl,x,_,_,_,rfl,(ak nxl).trans aj,T.bO,T.ue,(by show 1 < 1000; decide),fun md hmd=> ?_⟩
    have nxd:x ≠ md:=fun z=>by rw [<-z,aj] at hmd; cases hmd
    refine ⟨_,rfl,x,_,_,_,rfl,(ak nxd).trans aj,T.bO,T.eQ,(by show 2 < 1000; decide),?_⟩
    rw [ak nxl.symm] at hll
    have nld:ll ≠ md:=fun z=>by rw [<-z,ak nxl.symm,aj] at hmd; cases hmd
    rw [ak nxd.symm,ak nld.symm,ak nxd.symm] at hmd
    have nll0:H ll=none:=same_none s15 hll
    have nmd0:H md=none:=same_none s15 hmd
    have cll:H5 p4=some (.lst []):=s5 _ _ aj
    have cl3:H5 p3=some (.lst (nats Vbaham.start.rules.longest)):=s5 _ _ (s4 _ _ c3)
    have keep:∀ b o,H5 b=some o->b ≠ x->upd (upd (upd (upd (upd H5 x (.ins C.ou dx (dw "rules" (.ref r) []))) ll (.lst [])) x (.ins C.ou dx (dw "legs" (.ref ll) (dw "rules" (.ref r) [])))) md (.dK [])) x (.ins C.ou dx (dw "members" (.ref md) (dw "legs" (.ref ll) (dw "rules" (.ref r) [])))) b=some o:=fun b o e hb=>by
      rw [ak hb,ak (az e hmd),ak hb,ak (az e hll),ak hb]
      exact e
    refine k _ ⟨x,r,p4,ll,md,Vbaham.start.rules,[],[]⟩ rfl (fun Fm hF=> ?_) (Wf.start x r p4 ll md) (fun b o e hb=>keep b o (s15 _ _ e) hb)
    have ff:∀ {b},H b=none->Fm b=false:=fun {b} z=>by
      cases e:Fm b with
      | false=>rfl
      | true=>exact absurd z (hF b e).1
    have fx:Fm x=false:=by
      cases e:Fm x with
      | false=>rfl
      | true=>exact absurd rfl (hF x e).2
    refine ⟨⟨⟨dx,?_⟩,⟨rdx,p3,[],?_,?_,?_,rfl,fun i b p e=>by simp at e⟩,?_,fun y m=>(by cases m),fun y m=>(by cases m),fun y m=>(by cases m),?_⟩,?_⟩
    · rw [bM fx,aj]
      rfl
    · show off Fm _ r=_
      rw [bM (ff nr0)]
      exact keep _ _ hr5 (fun z=>by rw [<-z,nr0] at hx; cases hx)
    · rw [bM (ff n3)]
      exact keep _ _ cl3 (fun z=>by rw [<-z,n3] at hx; cases hx)
    · show off Fm _ p4=_
      rw [bM (ff n4)]
      exact keep _ _ cll (fun z=>by rw [<-z,n4] at hx; cases hx)
    · show off Fm _ ll=_
      rw [bM (ff nll0),ak nxl.symm,ak nld,ak nxl.symm,aj]
      rfl
    · show ([p4,ll]:List Addr).Nodup
      have:p4 ≠ ll:=az cll hll
      simp [this]
    · show off Fm _ md=_
      rw [bM (ff nmd0),ak nxd.symm,aj]
      rfl
abbrev Eg:Stmt:=top 11
theorem Tr:aG ["house", "place"] ["house", "place"] (aD Eg):=⟨rfl,rfl,rfl,by decide +kernel,rfl,by decide +kernel,by decide +kernel⟩
def Wa (o:Option LG):V:=match o with
 | none=> .non
 | some x=> .ref x.a
def V8 (o:Option MB):V:=match o with
 | none=> .non
 | some x=> .ref x.a
def Ik (C:Ads):Sp:=fun vs H Q _=>∃ (s:HS) (p:Nat),vs=[.ref s.h,.int p]/\Hz C H s/\0 < p/\Q (Wa (s.Lg[p - 1]?)) H
theorem T3 {f:Addr} {fd:FuncData} (F:Fun K "leg_at" "leg_at" Eg f fd) (T:cB w K mg C):aY P w K mg base CX0 1 f fd ["house", "place"] (Ik C):=by
 refine F.ok Tr (fun vs H Q E h=> ?_) (fun cdv A outer s H vs Q E hr h=> ?_)
 ·obtain ⟨_,_,rfl,_⟩:=h
  rfl
 ·obtain ⟨s,p,rfl,hz,hp,k⟩:=h
  refine ⟨_,(ao (cV (aV qJ (pv 1) (aW bf (by rfl) T.iG PySem.boot_len (aa (xf (pv 0)) aq)) (bh _))
    (au (aJ VR))
    bD)
   (au (aJ (xl (xf (pv 0)) (bB d8 (pv 1) aB))))),?_⟩
  obtain ⟨hdx,hh⟩:=hz.ho
  refine ⟨_,rfl,_,rfl,aO hh T.bO T.ue rfl ⟨s.ll,_,rfl,.inl (SqL.of hz.ll),_,_,rfl,rfl,_,rfl,?_⟩⟩
  rw [aM]
  by_cases c:s.Lg.length < p
  ·rw [decide_eq_true (by omega)]
   rw [List.getElem?_eq_none (by omega)] at k
   exact bN k
  ·rw [decide_eq_false (by omega)]
   have hx:s.Lg[p - 1]? = some (s.Lg[p - 1]'(by omega)):=List.getElem?_eq_getElem (by omega)
   rw [hx] at k
   exact bY ⟨_,rfl,aO hh T.bO T.ue rfl ⟨_,rfl,_,_,rfl,rfl,s.ll,_,_,_,rfl,rfl,SqL.of hz.ll,aK (j:=p - 1) (by omega) (xV hx),k⟩⟩
end
end Crew
namespace L2
open PySem PySem.Spec PyProof.Rows
section
variable {X:Cx} {m:Str} {k:Nat} {f C:Addr} {fd:FuncData} {ps:List Str} {sp:Sp} {e o:Expr} {es:List Expr} {pos apos:Pos} {t:TA} {ta:TE}
theorem Em {pl:Sem Bool} (he:PE X o ta) (c:Cls X.K C) (G:MtI X.prog X.w X.K X.mg X.base C m k f fd ps sp) (hr:dF k X.A) (ha:PA X (e :: es) t)
    (hst:starEach (e :: es) X.env=(false,eval e X.env) :: starEach es X.env:=by rfl) (hpl:(backTo pos (starEach es X.env)).any (·.1)=false:=by rfl)
    (ht:eval (.Call (.Attribute o m apos) (e :: es) [] pos) X.env=(do
      let ov <- eval o X.env
      standAt apos.atName
      let (f,first) <- holding [ov] (getMethod ov m pl)
      callWith pos f first (backTo pos (starEach (e :: es) X.env)) (backToKw pos (keywordEach [] X.env))):=by rfl) :
    PE X (.Call (.Attribute o m apos) (e :: es) [] pos) (Ro C m sp [] E0 ta t):=YD he c G.mt G.ok hr G.bd .nil Eo ha hst hpl ht
theorem z7 {pl:Sem Bool} (he:PE X o ta) (c:Cls X.K C) (G:MtI X.prog X.w X.K X.mg X.base C m k f fd ps sp) (hr:dF k X.A)
    (ht:eval (.Call (.Attribute o m apos) [] [] pos) X.env=(do
      let ov <- eval o X.env
      standAt apos.atName
      let (f,first) <- holding [ov] (getMethod ov m pl)
      callWith pos f first (backTo pos (starEach [] X.env)) (backToKw pos (keywordEach [] X.env))):=by rfl) :
    PE X (.Call (.Attribute o m apos) [] [] pos) (Ro C m sp [] E0 ta G6):=VV he c G.mt G.ok hr G.bd .nil Eo ht
end
theorem Bar.sqL {K:PySem.W.Frag} {s:Addr} {H H':Hp} {a:Addr} {xs:List V} (b:Bar s H H') {C dx:Addr} {fs:List (Str × V)} (hs:H s=some (.ins C dx fs)) (h:SqL K H a xs):SqL K H' a xs:=by
 rcases h with (h | ⟨u,h⟩) | h
 ·exact .inl (.inl (b _ _ h (fZ h hs)))
 ·exact .inl (.inr ⟨u,b _ _ h (by rintro rfl; rw [h] at hs; cases hs)⟩)
 ·exact .inr h
theorem Bar.trans {s:Addr} {H H' H'':Hp} (a:Bar s H H') (b:Bar s H' H''):Bar s H H'':=fun c o e n=>b c o (a c o e n) n
end L2
namespace Crew
open PySem PySem.Spec PyProof.Rows L2
open Vbaham (Leg Rules Member State)
def readF (ca:Addr) (at_:Nat):List (Str × V):=[("numbers",.ref ca),("at",.int at_)]
def iU (C:Ads) (H:Hp) (rd ca:Addr) (at_:Nat):Prop:=∃ dx,H rd=some (.ins C.reader dx (readF ca at_))
def Xj (p:Nat) (fa ra:Addr):List (Str × V):=[("place",.int p),("arguments",.ref fa),("rows",.ref ra)]
def CallAt (C:Ads) (H:Hp) (k:Addr) (p:Nat) (args:List Int) (rows:List (List Int)):Prop:=∃ (kdx fa ra:Addr) (as:List Addr),H k=some (.ins C.call kdx (Xj p fa ra))/\H fa=some (.lst (aU args))/\H ra=some (.lst (as.map V.ref))/\as.length=rows.length /\
 ∀ (i:Nat) (a:Addr) (r:List Int),as[i]? = some a->rows[i]? = some r->H a=some (.lst (aU r))
theorem CallAt.same {C:Ads} {H H':Hp} {k:Addr} {p:Nat} {args:List Int} {rows:List (List Int)} (s:aC H H') (h:CallAt C H k p args rows):CallAt C H' k p args rows:=by
 obtain ⟨kdx,fa,ra,as,h1,h2,h3,h4,h5⟩:=h
 exact ⟨kdx,fa,ra,as,s _ _ h1,s _ _ h2,s _ _ h3,h4,fun i a r e1 e2=>s _ _ (h5 i a r e1 e2)⟩
theorem ZM (xs:List Int) (a n:Nat) (h:a + n<=xs.length):Ib (aU xs) (some (a:Int)) (some ((a:Int) + (n:Int)))=aU ((xs.drop a).take n):=by
 unfold Ib
 rw [show (a:Int) + (n:Int)=((a + n:Nat):Int) by omega,HT.JS,HT.JS,bw,Nat.min_eq_left h,Nat.min_eq_left (show a<=xs.length by omega),show a + n - a=n by omega]
 unfold aU
 rw [List.map_take,List.map_drop]
section
variable {P:Program} {w:World} {K:PySem.W.Frag} {mg:Str->Option Value} {base:Heap} {C:Ads}
abbrev tE:Stmt:=inClass (top 83) 0
theorem JR:aG ["self", "place", "arguments", "rows"] ["self", "place", "arguments", "rows"] (aD tE):=⟨rfl,rfl,rfl,by decide +kernel,rfl,by decide +kernel,by decide +kernel⟩
def xN (C:Ads):Sp:=fun vs H Q _=>∃ (s dx fa ra:Addr) (p:Nat),vs=[.ref s,.int p,.ref fa,.ref ra]/\H s=some (.ins C.call dx []) /\
 ∀ (H':Hp),H' s=some (.ins C.call dx (Xj p fa ra))->Bar s H H'->Q .non H'
theorem Kl {f:Addr} {fd:FuncData} (F:Fun K "__init__" "Call.__init__" tE f fd) (T:cB w K mg C):aY P w K mg base CX0 1 f fd ["self", "place", "arguments", "rows"] (xN C):=by
  refine F.ok JR (fun vs H Q E h=> ?_) (fun cdv A outer s H vs Q E hr h=> ?_)
  · obtain ⟨_,_,_,_,_,rfl,_⟩:=h
    rfl
  · obtain ⟨s,dx,fa,ra,p,rfl,hs,k⟩:=h
    refine ⟨_,(ao (xst (pv 0) (pv 1))
      (ao (xst (pv 0) (pv 2))
      (au (xst (pv 0) (pv 3))))),?_⟩
    refine ⟨_,rfl,_,rfl,s,_,_,_,rfl,hs,T.km,T.yl,(by show 0 < 1000; decide),?_⟩
    refine ⟨_,rfl,_,rfl,s,_,_,_,rfl,aj,T.km,T.lC,(by show 1 < 1000; decide),?_⟩
    rw [cQ]
    refine ⟨_,rfl,_,rfl,s,_,_,_,rfl,aj,T.km,T.Kw,(by show 2 < 1000; decide),?_⟩
    rw [cQ]
    refine k _ ?_ fun b o e hb=>by rw [ak hb]; exact e
    rw [aj]
    rfl
abbrev mF:Stmt:=inClass (top 84) 0
theorem Eb:aG ["self", "numbers"] ["self", "numbers"] (aD mF):=⟨rfl,rfl,rfl,by decide +kernel,rfl,by decide +kernel,by decide +kernel⟩
def rQ (C:Ads):Sp:=fun vs H Q _=>∃ (s dx ca:Addr),vs=[.ref s,.ref ca]/\H s=some (.ins C.reader dx [])/\∀ (H':Hp),iU C H' s ca 0->Bar s H H'->Q .non H'
theorem Ep {f:Addr} {fd:FuncData} (F:Fun K "__init__" "Reader.__init__" mF f fd) (T:cB w K mg C):aY P w K mg base CX0 1 f fd ["self", "numbers"] (rQ C):=by
 refine F.ok Eb (fun vs H Q E h=> ?_) (fun cdv A outer s H vs Q E hr h=> ?_)
 ·obtain ⟨_,_,_,rfl,_⟩:=h
  rfl
 ·obtain ⟨s,dx,ca,rfl,hs,k⟩:=h
  refine ⟨_,(ao (xst (pv 0) (pv 1)) (au (xst (pv 0) aB))),?_⟩
  refine ⟨_,rfl,_,rfl,s,_,_,_,rfl,hs,T.cN,T.uT,(by show 0 < 1000; decide),?_⟩
  refine ⟨_,rfl,s,_,_,_,rfl,aj,T.cN,T.Tn,(by show 1 < 1000; decide),?_⟩
  rw [cQ]
  refine k _ ⟨dx,?_⟩ fun b o e hb=>by rw [ak hb]; exact e
  rw [aj]
  rfl
abbrev iJ:Stmt:=inClass (top 84) 1
theorem xQ:aG ["self"] ["self"] (aD iJ):=⟨rfl,rfl,rfl,by decide +kernel,rfl,by decide +kernel,by decide +kernel⟩
def DW (K:PySem.W.Frag) (C:Ads):Sp:=fun vs H Q _=>∃ (rd ca:Addr) (a:Nat) (ns:List Int),vs=[.ref rd]/\iU C H rd ca a/\SqL K H ca (aU ns)/\Q (.bl (decide (ns.length<=a))) H
theorem Qh {f:Addr} {fd:FuncData} (F:Fun K "is_done" "Reader.is_done" iJ f fd) (T:cB w K mg C):aY P w K mg base CX0 1 f fd ["self"] (DW K C):=by
 refine F.ok xQ (fun vs H Q E h=> ?_) (fun cdv A outer s H vs Q E hr h=> ?_)
 ·obtain ⟨_,_,_,_,rfl,_⟩:=h
  rfl
 ·obtain ⟨rd,ca,a,ns,rfl,⟨dx,hr1⟩,hc,k⟩:=h
  refine ⟨_,(au (aJ (lz MJ (xf (pv 0)) (aW bf (by rfl) T.iG PySem.boot_len (aa (xf (pv 0)) aq)) (bh _)))),?_⟩
  refine ⟨_,rfl,aO hr1 T.cN T.Tn rfl ⟨_,rfl,aO hr1 T.cN T.uT rfl ⟨ca,_,rfl,.inl hc,_,_,rfl,rfl,?_⟩⟩⟩
  rw [bw]
  have e:decide (((ns.length:Nat):Int)<=(a:Int))=decide (ns.length<=a):=decide_eq_decide.mpr (by omega)
  show Q (.bl (decide (((ns.length:Nat):Int)<=(a:Int)))) H
  rw [e]
  exact k
abbrev mD:Stmt:=inClass (top 84) 2
theorem rY:aG ["self", "many", "taken"] ["self", "many"] (aD mD):=⟨rfl,rfl,rfl,by decide +kernel,rfl,by decide +kernel,by decide +kernel⟩
def JF (K:PySem.W.Frag) (C:Ads):Sp:=fun vs H Q _=>∃ (rd ca:Addr) (a n:Nat) (ns:List Int),vs=[.ref rd,.int n]/\iU C H rd ca a/\SqL K H ca (aU ns)/\a + n<=ns.length /\
 ∀ (H':Hp) (p:Addr),H p=none->H' p=some (.lst (aU ((ns.drop a).take n)))->iU C H' rd ca (a + n)->Bar rd H H'->Q (.ref p) H'
theorem YJ {f:Addr} {fd:FuncData} (F:Fun K "take" "Reader.take" mD f fd) (T:cB w K mg C):aY P w K mg base CX0 1 f fd ["self", "many"] (JF K C):=by
  refine F.ok rY (fun vs H Q E h=> ?_) (fun cdv A outer s H vs Q E hr h=> ?_)
  · obtain ⟨_,_,_,_,_,rfl,_⟩:=h
    rfl
  · obtain ⟨rd,ca,a,n,ns,rfl,⟨dx,hr1⟩,hc,hn,k⟩:=h
    refine ⟨_,(ao (bG 2 rY.nd (tV xP (xf (pv 0)) (lw (xf (pv 0))) (lw (bB gr (xf (pv 0)) (pv 1)))))
      (ao (Tz (pv 0) (pv 1) aa8)
      (au (aJ (pv 2))))),?_⟩
    refine ⟨_,rfl,aO hr1 T.cN T.uT rfl ⟨_,rfl,aO hr1 T.cN T.Tn rfl ⟨_,rfl,_,rfl,aO hr1 T.cN T.Tn rfl ⟨_,rfl,_,_,rfl,rfl,_,rfl,ca,_,rfl,hc,fun p hp=> ?_⟩⟩⟩⟩
    rw [ZM ns a n hn]
    have npr:rd ≠ p:=az hr1 hp
    have hr2:=(ak (o:= .lst (aU ((ns.drop a).take n))) npr).trans hr1
    refine ⟨_,rfl,rd,C.reader,dx,_,_,rfl,hr2,T.cN,T.Tn,rfl,_,rfl,_,_,rfl,rfl,dx,_,hr2,(by show 2 < 1000; decide),_,rfl,?_⟩
    refine k _ p hp (by rw [ak npr.symm,aj]) ⟨dx,?_⟩ fun b o e hb=>by rw [ak hb,ak (az e hp)]; exact e
    rw [aj]
    show some (HO.ins C.reader dx [("numbers",.ref ca),("at",.int ((a:Int) + (n:Int)))])=some (HO.ins C.reader dx [("numbers",.ref ca),("at",.int ((a + n:Nat):Int))])
    rw [show ((a + n:Nat):Int)=(a:Int) + (n:Int) by omega]
abbrev gZ:Stmt:=inClass (top 84) 3
theorem wD:aG ["self"] ["self"] (aD gZ):=⟨rfl,rfl,rfl,by decide +kernel,rfl,by decide +kernel,by decide +kernel⟩
def Bf (K:PySem.W.Frag) (C:Ads):Sp:=fun vs H Q _=>∃ (rd ca:Addr) (a:Nat) (ns:List Int) (z:Int),vs=[.ref rd]/\iU C H rd ca a/\SqL K H ca (aU ns)/\ns[a]? = some z/\∀ (H':Hp),iU C H' rd ca (a + 1)->Bar rd H H'->Q (.int z) H'
theorem MK {f fl:Addr} {fd fdl:FuncData} (F:Fun K "take_one" "Reader.take_one" gZ f fd) (T:cB w K mg C) (w6:MtI P w K mg base C.reader "take" 1 fl fdl ["self", "many"] (JF K C)):aY P w K mg base CX0 2 f fd ["self"] (Bf K C):=by
 refine F.ok wD (fun vs H Q E h=> ?_) (fun cdv A outer s H vs Q E hr h=> ?_)
 ·obtain ⟨_,_,_,_,_,rfl,_⟩:=h
  rfl
 ·obtain ⟨rd,ca,a,ns,z,rfl,⟨dx,hr1⟩,hc,hz,k⟩:=h
  refine ⟨_,(au (aJ (xl (Em (pv 0) T.cN w6 (hr.mono (by decide)) (aa aB aq)) aB))),?_⟩
  have ha:a < ns.length:=(List.getElem?_eq_some_iff.mp hz).1
  refine ⟨_,rfl,rd,dx,_,rfl,hr1,rfl,rd,ca,a,1,ns,rfl,⟨dx,hr1⟩,hc,ha,fun H1 p np hp hr2 bar=> ?_⟩
  have e:(ns.drop a).take 1=[z]:=by
   rw [List.drop_eq_getElem_cons ha,List.take_succ_cons,List.take_zero]
   rw [List.getElem?_eq_getElem ha] at hz
   rw [Option.some.inj hz]
  rw [e] at hp
  exact ⟨p,_,_,_,rfl,rfl,SqL.of hp,aK (j:=0) rfl rfl,k H1 hr2 bar⟩
end
end Crew
namespace L2
open PySem PySem.Spec PyProof.Rows
theorem Wr (K:PySem.W.Frag) {X:Cx} (hK:X.K=K:=by rfl):rE X (.builtin "len") (fun xs H Q=>∃ a ys,xs=[V.ref a]/\(SqL K H a ys\/SqT K H a ys)/\Q (.int ys.length) H):=by subst hK; exact bf
theorem yj {α β : Type} {xs:List α} {ys:List β} {i:Nat} {x : α} {y : β} (hx:xs[i]? = some x) (hy:ys[i]? = some y):(xs.zip ys)[i]? = some (x,y):=List.getElem?_zip_eq_some (z:=(x,y)) |>.mpr ⟨hx,hy⟩
end L2
namespace Crew
open PySem PySem.Spec PyProof.Rows L2
open Vbaham (Leg Rules Member State)
structure Tbl where
 args:List (List Str)
 rows:List (List Str)
 ranges:List (Str × Int × Int)
 lens:List (Str × List Int)
 sorts:List (Str × List Str)
def cI (l:List Str):List V:=l.map V.str
structure Gp (w:World) (K:PySem.W.Frag) (mg:Str->Option Value) (D:Tbl):Prop where
 args:∃ (a:Addr) (ts:List Addr),mg "ARGUMENTS" = some (.ref a)/\(∀ H,SqT K H a (ts.map V.ref))/\ts.length=D.args.length/\∀ (i:Nat) (t:Addr) (l:List Str),ts[i]? = some t->D.args[i]? = some l->∀ H,SqT K H t (cI l)
 rows:∃ (a:Addr) (kvs:List (Int × V)),mg "ROWS" = some (.ref a)/\SqDI K a kvs/\∀ (p:Nat) (l:List Str),D.rows[p]? = some l->(∃ t:Addr,kvs.lookup (p:Int)=some (.ref t)/\∀ H,SqT K H t (cI l))\/(kvs.lookup (p:Int)=none/\l=[])
 ranges:∃ a:Addr,mg "RANGES" = some (.ref a)/\∀ e ∈ D.ranges,∃ t:Addr,SqD w K a e.1 (.ref t)/\∀ H,SqT K H t [.int e.2.1,.int e.2.2]
 lens:∃ a:Addr,mg "ROW_LENGTHS" = some (.ref a)/\∀ e ∈ D.lens,∃ t:Addr,SqD w K a e.1 (.ref t)/\∀ H,SqT K H t (aU e.2)
 sorts:∃ a:Addr,mg "ROW_SORTS" = some (.ref a)/\∀ e ∈ D.sorts,∃ t:Addr,SqD w K a e.1 (.ref t)/\∀ H,SqT K H t (cI e.2)
theorem lookup_mem {α : Type} {x:Str} {v : α}:∀ {l:List (Str × α)},l.lookup x=some v->(x,v) ∈ l
 | [],h=>by cases h
 | (k,u) :: l,h=>by
  rw [List.lookup_cons] at h
  split at h
  ·rename_i e
   have e:x=k:=by simpa using e
   cases h
   rw [e]
   exact List.mem_cons_self ..
  ·exact List.mem_cons_of_mem _ (lookup_mem h)
def inR (D:Tbl) (x:Str) (z:Int):Bool:=match D.ranges.lookup x with
 | some r=>decide (r.1<=z) && decide (z<=r.2)
 | none=>false
def cC (ss:List Str) (k:Nat):Str:=ss.getD (k % ss.length) ""
def tO (D:Tbl) (x:Str) (row:List Int):Bool:=((D.lens.lookup x).getD []).contains (row.length:Int) && row.zipIdx.all fun q=>inR D (cC ((D.sorts.lookup x).getD []) q.2) q.1
def bU (D:Tbl) (p:Nat) (args:List Int) (rows:List (List Int)):Bool:=(((D.args.getD p []).zip args).all fun q=>inR D q.1 q.2) && ((D.rows.getD p []).zip rows).all fun q=>tO D q.1 q.2
structure aai (D:Tbl):Prop where
 args:∀ l ∈ D.args,∀ x ∈ l,(D.ranges.lookup x).isSome=true
 rows:∀ l ∈ D.rows,∀ x ∈ l,(D.lens.lookup x).isSome=true/\∃ ss,D.sorts.lookup x=some ss/\ss ≠ []/\∀ y ∈ ss,(D.ranges.lookup y).isSome=true
section
variable {P:Program} {w:World} {K:PySem.W.Frag} {mg:Str->Option Value} {base:Heap} {C:Ads} {D:Tbl}
abbrev iK:Stmt:=top 87
theorem xU:aG ["call"] ["call"] (aD iK):=⟨rfl,rfl,rfl,by decide +kernel,rfl,by decide +kernel,by decide +kernel⟩
def dZ (K:PySem.W.Frag) (C:Ads) (D:Tbl):Sp:=fun vs H Q _=>∃ (k kdx fa ra:Addr) (p:Nat) (l:List Str),vs=[.ref k]/\H k=some (.ins C.call kdx (Xj p fa ra))/\D.args[p]? = some l/\∀ t,(∀ H,SqT K H t (cI l))->Q (.ref t) H
theorem xY {f:Addr} {fd:FuncData} (F:Fun K "argument_sorts" "argument_sorts" iK f fd) (T:cB w K mg C) (B:Gp w K mg D):aY P w K mg base CX0 1 f fd ["call"] (dZ K C D):=by
 refine F.ok xU (fun vs H Q E h=> ?_) (fun cdv A outer s H vs Q E hr h=> ?_)
 ·obtain ⟨_,_,_,_,_,_,rfl,_⟩:=h
  rfl
 ·obtain ⟨k,kdx,fa,ra,p,l,rfl,hk,hl,kk⟩:=h
  obtain ⟨a,ts,g,ha,len,hts⟩:=B.args
  refine ⟨_,(au (aJ (xt (dz rfl g) (xf (pv 0))))),?_⟩
  obtain ⟨t,ht⟩:∃ t,ts[p]? = some t:=⟨_,List.getElem?_eq_getElem (by rw [len]; exact (List.getElem?_eq_some_iff.mp hl).1)⟩
  exact ⟨_,rfl,aO hk T.km T.yl rfl ⟨a,_,_,_,rfl,rfl,ha _,aK (j:=p) rfl (by rw [List.getElem?_map,ht]; rfl),kk t (hts p t l ht hl)⟩⟩
abbrev sG:Stmt:=top 85
theorem JK:aG ["place"] ["place"] (aD sG):=⟨rfl,rfl,rfl,by decide +kernel,rfl,by decide +kernel,by decide +kernel⟩
def oK (K:PySem.W.Frag) (D:Tbl):Sp:=fun vs H Q _=>∃ (p:Nat) (l:List Str),vs=[.int p]/\D.rows[p]? = some l/\∀ t H',aC H H'->SqT K H' t (cI l)->Q (.ref t) H'
theorem J3 {f:Addr} {fd:FuncData} (F:Fun K "row_names" "row_names" sG f fd) (T:cB w K mg C) (B:Gp w K mg D):aY P w K mg base CX0 1 f fd ["place"] (oK K D):=by
 refine F.ok JK (fun vs H Q E h=> ?_) (fun cdv A outer s H vs Q E hr h=> ?_)
 ·obtain ⟨_,_,rfl,_⟩:=h
  rfl
 ·obtain ⟨p,l,rfl,hl,k⟩:=h
  obtain ⟨a,kvs,g,ha,hk⟩:=B.rows
  refine ⟨_,(au (aJ (TQ (dz rfl g) (pv 0) (z6 aq) ⟨rfl,rfl,rfl,rfl⟩))),?_⟩
  refine ⟨a,kvs,rfl,ha,_,rfl,(by show 0<=sizeLine; exact Nat.zero_le _),fun t ht=>⟨_,rfl,?_⟩⟩
  rcases hk p l hl with ⟨t',e,q⟩ | ⟨e,rfl⟩
  ·rw [e]
   exact k t' _ (aC.upd ht) (q _)
  ·rw [e]
   exact k t _ (aC.upd ht) (SqT.of aj)
abbrev sO:Stmt:=top 88
theorem xR:aG ["sort", "number", "limits"] ["sort", "number"] (aD sO):=⟨rfl,rfl,rfl,by decide +kernel,rfl,by decide +kernel,by decide +kernel⟩
def oO (D:Tbl):Sp:=fun vs H Q _=>∃ (x:Str) (z:Int),vs=[.str x,.int z]/\(D.ranges.lookup x).isSome=true/\Q (.bl (inR D x z)) H
theorem J7 {f:Addr} {fd:FuncData} (F:Fun K "is_within" "is_within" sO f fd) (T:cB w K mg C) (B:Gp w K mg D):aY P w K mg base CX0 1 f fd ["sort", "number"] (oO D):=by
 refine F.ok xR (fun vs H Q E h=> ?_) (fun cdv A outer s H vs Q E hr h=> ?_)
 ·obtain ⟨_,_,rfl,_⟩:=h
  rfl
 ·obtain ⟨x,z,rfl,hx,k⟩:=h
  obtain ⟨a,g,hr1⟩:=B.ranges
  refine ⟨_,(ao (bG 2 xR.nd (En (dz rfl g) (pv 0) (fun _ _=>rfl)))
   (au (aJ (V4 Wc Wc (xt (pv 2) aB) (pv 1) (xt (pv 2) aB))))),?_⟩
  obtain ⟨⟨lo,hi⟩,hl⟩:=Option.isSome_iff_exists.mp hx
  obtain ⟨t,h1,h2⟩:=hr1 _ (lookup_mem hl)
  have e:inR D x z=(decide (lo<=z) && decide (z<=hi)):=by
   unfold inR
   rw [hl]
  rw [e] at k
  refine ⟨_,rfl,a,x,_,rfl,rfl,h1,?_⟩
  refine ⟨_,rfl,t,_,_,_,rfl,rfl,h2 _,aK (j:=0) rfl rfl,_,rfl,_,_,rfl,rfl,_,rfl,?_⟩
  show if decide (lo<=z)=true then _ else _
  by_cases c:lo<=z
  ·rw [decide_eq_true c] at k ⊢
   exact bN ⟨_,rfl,t,_,_,_,rfl,rfl,h2 _,aK (j:=1) rfl rfl,_,_,rfl,rfl,k⟩
  ·rw [decide_eq_false c] at k ⊢
   exact bY k
abbrev j0:Stmt:=top 89
theorem dI:aG ["name", "row", "sorts", "k", "number"] ["name", "row"] (aD j0):=⟨rfl,rfl,rfl,by decide +kernel,rfl,by decide +kernel,by decide +kernel⟩
theorem YZ (n:Int) (ls:List Int):inV (.int n) (aU ls)=ls.contains n:=by
 unfold inV aU
 rw [List.any_map]
 induction ls with
 | nil=>rfl
 | cons a l ih =>
  rw [List.any_cons,List.contains_cons,ih]
  congr 1
  show (a == n)=(n == a)
  rw [Bool.eq_iff_iff,beq_iff_eq,beq_iff_eq]
  exact eq_comm
theorem Uq (l:List Int):(aU l).all vM=true:=by
 unfold aU
 rw [List.all_map,List.all_eq_true]
 intro x _
 rfl
def abJ (D:Tbl) (x:Str):Prop:=(D.lens.lookup x).isSome=true/\∃ ss,D.sorts.lookup x=some ss/\ss ≠ []/\∀ y ∈ ss,(D.ranges.lookup y).isSome=true
def qG (K:PySem.W.Frag) (D:Tbl):Sp:=fun vs H Q _=>∃ (x:Str) (r:Addr) (row:List Int),vs=[.str x,.ref r]/\SqL K H r (aU row)/\row.length<=100/\abJ D x/\∀ H',aC H H'->Q (.bl (tO D x row)) H'
theorem De {f fl:Addr} {fd fdl:FuncData} (F:Fun K "is_row_right" "is_row_right" j0 f fd) (T:cB w K mg C) (B:Gp w K mg D) (gM:FnI P w K mg base "is_within" 1 fl fdl ["sort", "number"] (oO D)):aY P w K mg base CX0 2 f fd ["name", "row"] (qG K D):=by
  refine F.ok dI (fun vs H Q E h=> ?_) (fun cdv A outer s H vs Q E hr h=> ?_)
  · obtain ⟨_,_,_,rfl,_⟩:=h
    rfl
  · obtain ⟨x,r,row,rfl,hrow,hlen,⟨hx1,ss,hx2,hx3,hx4⟩,k⟩:=h
    obtain ⟨aL,gL,hL⟩:=B.lens
    obtain ⟨aS,gS,hS⟩:=B.sorts
    refine ⟨_,(ao (cV (aV J2 (aW bf (by rfl) T.iG PySem.boot_len (aa (pv 1) aq)) (En (dz rfl gL) (pv 0) (fun _ _=>rfl)) rfl)
        (au (aJ pe_bl))
        bD)
      (ao (bG 2 dI.nd (En (dz rfl gS) (pv 0) (fun _ _=>rfl)))
      (au (aJ (aW (QR rfl) (by rfl) T.RT Xw (aa (jk (own:=[("k",3),("number",4)]) rfl dI.nd (Rz rfl T.d9 (aa (pv 1) aq)) (bu rfl) (fun _ _ _ _ _=>(kgt K 2 rfl (bA (xg 3 dI.nd) (bA (xg 4 dI.nd) fY)))) (fun _ _ _ _ _=>cF) (fun _ _ _ _ _=>(aH gM (hr.mono (by decide)) (aa (kt K (pv 2) (bB aaT (pv 3) (aW (Wr K) (by rfl) T.iG PySem.boot_len (aa (pv 2) aq)))) (aa (pv 4) aq))))) aq)))))),?_⟩
    obtain ⟨ls,hls⟩:=Option.isSome_iff_exists.mp hx1
    obtain ⟨tL,l1,l2⟩:=hL _ (lookup_mem hls)
    obtain ⟨tS,s1,s2⟩:=hS _ (lookup_mem hx2)
    have sz:1000 < sizeLine:=by decide
    have eR:tO D x row=(ls.contains (row.length:Int) && row.zipIdx.all fun q=>inR D (cC ss q.2) q.1):=by
      unfold tO
      rw [hls,hx2]
      rfl
    rw [eR] at k
    refine ⟨_,rfl,r,_,rfl,.inl hrow,_,rfl,aL,x,_,rfl,rfl,l1,tL,_,rfl,.inr (l2 _),rfl,Uq _,_,rfl,?_⟩
    rw [bw]
    show if (!inV (.int (row.length:Int)) (aU ls))=true then _ else _
    rw [YZ]
    cases hc:ls.contains (row.length:Int) with
    | false =>
      rw [hc] at k
      exact bN (k H (aC.refl _))
    | true =>
      rw [hc] at k
      refine bY ⟨_,rfl,aS,x,_,rfl,rfl,s1,?_⟩
      have hssl:0 < ss.length:=List.length_pos_iff.mpr hx3
      refine ⟨_,rfl,r,_,rfl,hrow,fun Dd hD=> ?_⟩
      refine eE (wkE (K:=K) (a:=r) (xs:=aU row)) (fun H H' h s=>s.seq h) hrow (by rw [bw]; omega) hD (fun i=>(row[i]?).map fun z=>V.bl (inR D (cC ss i) z)) ?_ ?_
      · rintro i v H1 H2 Kt Kf hi sm ⟨t,ps,rfl,ht,rfl,y,hy,rfl⟩ kt kf
        obtain ⟨z,hz,rfl⟩:=iQ hy
        have hm:i % ss.length < ss.length:=Nat.mod_lt _ hssl
        have hsk:ss[i % ss.length]? = some (cC ss i):=by
          unfold cC
          rw [List.getD_eq_getElem?_getD,List.getElem?_eq_getElem hm]
          rfl
        refine ⟨t,_,rfl,SqT.of aj,rfl,_,_,rfl,_,_,rfl,rfl,rfl,?_⟩
        refine ⟨_,rfl,_,rfl,_,rfl,tS,_,rfl,.inr (s2 _),_,_,rfl,rfl,?_,?_⟩
        · show (0:Int) < ((cI ss).length:Int)
          unfold cI
          rw [List.length_map]
          omega
        refine ⟨tS,_,_,_,rfl,rfl,s2 _,aK (j:=i % ss.length) (v:= .str (cC ss i)) ?_ ?_,?_⟩
        · show ((i:Nat):Int) % ((cI ss).length:Int)=((i % ss.length:Nat):Int)
          unfold cI
          rw [List.length_map]
          omega
        · unfold cI
          rw [List.getElem?_map,hsk]
          rfl
        refine ⟨_,rfl,cC ss i,z,rfl,hx4 _ (List.mem_of_getElem? hsk),kt _ _ ?_ (aC.upd ht)⟩
        rw [hz]
        rfl
      · intro H1 sm hl
        have e:(List.range (aU row).length).filterMap (fun i=>(row[i]?).map fun z=>V.bl (inR D (cC ss i) z))=(row.zipIdx.map fun q=>inR D (cC ss q.2) q.1).map V.bl:=by
          rw [bw,List.map_map]
          have e2:=gB (fun q:Int × Nat=>V.bl (inR D (cC ss q.2) q.1)) row.zipIdx
          rw [List.length_zipIdx] at e2
          refine Eq.trans ?_ e2
          congr 1
          funext i
          rw [List.getElem?_zipIdx]
          cases row[i]? with
          | none=>rfl
          | some z =>
            show some _=some (V.bl (inR D (cC ss (0 + i)) z))
            rw [Nat.zero_add]
        rw [e] at hl
        refine ⟨Dd,_,rfl,SqL.of hl,?_⟩
        rw [List.all_map]
        exact k H1 sm
end
theorem nR {l:List Str} {i:Nat} {v:V} (h:(cI l)[i]? = some v):∃ z,l[i]? = some z/\v = .str z:=cU h
theorem dh (l:List Str):(cI l).length=l.length:=by unfold cI; rw [List.length_map]
theorem KD {α : Type} {l:List α} {i:Nat} {x d : α} (h:l[i]? = some x):l.getD i d=x:=by rw [List.getD_eq_getElem?_getD,h]; rfl
structure O3 (D:Tbl) (p:Nat) (args:List Int) (rows:List (List Int)):Prop where
 ss:∃ ss,D.args[p]? = some ss/\ss.length=args.length/\args.length<=30
 ns:∃ ns,D.rows[p]? = some ns/\ns.length=rows.length/\rows.length<=30
 rs:∀ r ∈ rows,r.length<=100
def aP (s:HS) (x:Str) (z:Int):V:=if x = "member" then V8 (s.Ms.find? fun M=>decide ((M.m.id:Int)=z)) else if x = "leg" then Wa (s.Lg[z.toNat - 1]?) else .int z
def dg (s:HS) (ss:List Str) (args:List Int):List V:=(ss.zip args).map fun q=>aP s q.1 q.2
theorem Lr (z:Int):∀ Ms:List MB,(xu (kvM Ms) (.inl z)).getD .non=V8 (Ms.find? fun M=>decide ((M.m.id:Int)=z))
 | []=>rfl
 | M :: Ms=>by
  have ih:=Lr z Ms
  unfold kvM at ih ⊢
  rw [List.map_cons,List.find?_cons]
  by_cases e:(M.m.id:Int)=z
  ·rw [rJ (by show (Sum.inl (M.m.id:Int):Key)=_; rw [e]),decide_eq_true e]
   rfl
  ·rw [rK (by show ¬ (Sum.inl (M.m.id:Int):Key)=_; intro q; injection q with q; exact e q),decide_eq_false e]
   exact ih
section
variable {P:Program} {w:World} {K:PySem.W.Frag} {mg:Str->Option Value} {base:Heap} {C:Ads} {D:Tbl}
abbrev jx:Stmt:=top 90
theorem bT:aG ["call", "sort", "number", "plain", "name", "row", "rows"] ["call"] (aD jx):=⟨rfl,rfl,rfl,by decide +kernel,rfl,by decide +kernel,by decide +kernel⟩
def nU (C:Ads) (D:Tbl):Sp:=fun vs H Q _=>∃ (k:Addr) (p:Nat) (args:List Int) (rows:List (List Int)),vs=[.ref k]/\CallAt C H k p args rows/\O3 D p args rows/\∀ H',aC H H'->Q (.bl (bU D p args rows)) H'
theorem Ae {f fa' fr fl fn:Addr} {fd fda fdr fdl fdn:FuncData} (F:Fun K "is_call_right" "is_call_right" jx f fd) (T:cB w K mg C) (B:Gp w K mg D) (O:aai D) (bF:FnI P w K mg base "argument_sorts" 1 fa' fda ["call"] (dZ K C D))
    (kJ:FnI P w K mg base "is_row_right" 2 fr fdr ["name", "row"] (qG K D)) (gM:FnI P w K mg base "is_within" 1 fl fdl ["sort", "number"] (oO D)) (gJ:FnI P w K mg base "row_names" 1 fn fdn ["place"] (oK K D)):aY P w K mg base CX0 3 f fd ["call"] (nU C D):=by
  refine F.ok bT (fun vs H Q E h=> ?_) (fun cdv A outer s H vs Q E hr h=> ?_)
  · obtain ⟨_,_,_,_,rfl,_⟩:=h
    rfl
  · obtain ⟨k,p,args,rows,rfl,⟨kdx,fa,ra,as,hk,hfa,hra,has,hat⟩,⟨⟨ss,hss,ssl,sl30⟩,⟨ns,hns,nsl,nl30⟩,hrs⟩,kk⟩:=h
    refine ⟨_,(ao (ji (i:=3) (own:=[("sort",1),("number",2)]) rfl bT.nd rfl rfl (kZ rfl rfl rfl rfl) (xW rfl T.Ff (aa (aH bF (hr.mono (by decide)) (aa (pv 0) aq)) (aa (xf (pv 0)) aq))) (bu rfl) (fun _ _ _ _ _=>(kgt K 2 rfl (bA (xg 1 bT.nd) (bA (xg 2 bT.nd) fY)))) (fun _ _ _ _ _=>cF) (fun _ _ _ _ _=>(aH gM (hr.mono (by decide)) (aa (pv 1) (aa (pv 2) aq)))))
      (ao (ji (i:=6) (own:=[("name",4),("row",5)]) rfl bT.nd rfl rfl (kZ rfl rfl rfl rfl) (xW rfl T.Ff (aa (aH gJ (hr.mono (by decide)) (aa (xf (pv 0)) aq)) (aa (xf (pv 0)) aq))) (bu rfl) (fun _ _ _ _ _=>(kgt K 2 rfl (bA (xg 4 bT.nd) (bA (xg 5 bT.nd) fY)))) (fun _ _ _ _ _=>cF) (fun _ _ _ _ _=>(aH kJ (hr.mono (by decide)) (aa (pv 4) (aa (pv 5) aq)))))
      (au (aJ (V5 (aW (QR rfl) (by rfl) T.RT Xw (aa (pv 3) aq)) (Qc (aW (QR rfl) (by rfl) T.RT Xw (aa (pv 6) aq)))))))),?_⟩
    have sz:1000 < sizeLine:=by decide
    have eR:bU D p args rows=(((ss.zip args).all fun q=>inR D q.1 q.2) && ((ns.zip rows).all fun q=>tO D q.1 q.2)):=by
      unfold bU
      rw [KD hss,KD hns]
    rw [eR] at kk
    refine ⟨_,rfl,k,kdx,fa,ra,p,ss,rfl,hk,hss,fun t ht=> ?_⟩
    refine ⟨_,rfl,aO hk T.km T.lC rfl ⟨t,fa,_,_,rfl,ht _,SqL.of hfa,fun D1 hD1=> ?_⟩⟩
    refine eE (Ye (K:=K) (a:=t) (b:=fa) (xs:=cI ss) (ys:=aU args)) (fun H H' h s=>⟨ht _,s.seq h.2⟩) ⟨ht _,SqL.of hfa⟩ (by rw [bw,dh]; omega) hD1 (fun i=>((ss.zip args)[i]?).map fun q=>V.bl (inR D q.1 q.2)) ?_ ?_
    · rintro i v H1 H2 Kt Kf hi sm ⟨t2,ps,rfl,ht2,rfl,x,y,hx,hy,rfl⟩ kt kf
      obtain ⟨x',hx',rfl⟩:=nR hx
      obtain ⟨y',hy',rfl⟩:=iQ hy
      refine ⟨t2,_,rfl,SqT.of aj,rfl,_,_,rfl,_,_,rfl,rfl,rfl,?_⟩
      refine ⟨_,rfl,_,rfl,x',y',rfl,O.args ss (List.mem_of_getElem? hss) x' (List.mem_of_getElem? hx'),kt _ _ ?_ (aC.upd ht2)⟩
      rw [yj hx' hy']
      rfl
    intro H1 s1 hl1
    have e1:min (cI ss).length (aU args).length=(ss.zip args).length:=by rw [dh,bw,List.length_zip]
    rw [e1,gB] at hl1
    have e2:((ss.zip args).map fun q=>V.bl (inR D q.1 q.2))=((ss.zip args).map fun q=>inR D q.1 q.2).map V.bl:=by rw [List.map_map]; rfl
    rw [e2] at hl1
    have hk1:=s1 _ _ hk
    refine ⟨_,rfl,aO hk1 T.km T.yl rfl ⟨p,ns,rfl,hns,fun tn H1r s1r hTn=> ?_⟩⟩
    replace s1:=s1.trans s1r
    replace hl1:=s1r _ _ hl1
    replace hk1:=s1r _ _ hk1
    refine ⟨_,rfl,aO hk1 T.km T.Kw rfl ⟨tn,ra,_,_,rfl,hTn,SqL.of (s1 _ _ hra),fun D2 hD2=> ?_⟩⟩
    refine eE (Ye (K:=K) (a:=tn) (b:=ra) (xs:=cI ns) (ys:=as.map V.ref)) (fun H H' h s=>⟨s.sqT h.1,s.seq h.2⟩) ⟨hTn,SqL.of (s1 _ _ hra)⟩ (by rw [dh,List.length_map]; omega) hD2 (fun i=>((ns.zip rows)[i]?).map fun q=>V.bl (tO D q.1 q.2)) ?_ ?_
    · rintro i v H2 H3 Kt Kf hi sm ⟨t2,ps,rfl,ht2,rfl,x,y,hx,hy,rfl⟩ kt kf
      obtain ⟨x',hx',rfl⟩:=nR hx
      obtain ⟨y',hy',rfl⟩:=cU hy
      have hil:i < rows.length:=by rw [<-has]; exact (List.getElem?_eq_some_iff.mp hy').1
      obtain ⟨r,hr1⟩:∃ r,rows[i]? = some r:=⟨_,List.getElem?_eq_getElem hil⟩
      have hrow:=hat i y' r hy' hr1
      have s3:=(s1.trans sm).trans (aC.upd (o:= .tup [.str x',.ref y']) ht2)
      refine ⟨t2,_,rfl,SqT.of aj,rfl,_,_,rfl,_,_,rfl,rfl,rfl,?_⟩
      refine ⟨_,rfl,_,rfl,x',y',r,rfl,SqL.of (s3 _ _ hrow),hrs r (List.mem_of_getElem? hr1),O.rows ns (List.mem_of_getElem? hns) x' (List.mem_of_getElem? hx'),fun H4 s4=>kt _ _ ?_ ((aC.upd ht2).trans s4)⟩
      rw [yj hx' hr1]
      rfl
    intro H2 s2 hl2
    have e3:min (cI ns).length (as.map V.ref).length=(ns.zip rows).length:=by rw [dh,List.length_map,List.length_zip,has]
    rw [e3,gB] at hl2
    have e4:((ns.zip rows).map fun q=>V.bl (tO D q.1 q.2))=((ns.zip rows).map fun q=>tO D q.1 q.2).map V.bl:=by rw [List.map_map]; rfl
    rw [e4] at hl2
    refine ⟨_,rfl,D1,_,rfl,SqL.of (s2 _ _ hl1),_,rfl,?_⟩
    have q:=kk H2 (s1.trans s2)
    rw [List.all_map]
    show if ((ss.zip args).all fun q=>inR D q.1 q.2)=true then _ else _
    cases hc:(ss.zip args).all fun q=>inR D q.1 q.2 with
    | false =>
      rw [hc] at q
      exact bY q
    | true =>
      rw [hc] at q
      refine bN ⟨_,rfl,D2,_,rfl,SqL.of hl2,?_⟩
      rw [List.all_map]
      exact q
abbrev pq:Stmt:=top 95
theorem iW:aG ["house", "call", "found", "sort", "number"] ["house", "call"] (aD pq):=⟨rfl,rfl,rfl,by decide +kernel,rfl,by decide +kernel,by decide +kernel⟩
def vG (C:Ads) (D:Tbl):Sp:=fun vs H Q _=>∃ (s:HS) (k:Addr) (p:Nat) (args:List Int) (rows:List (List Int)) (ss:List Str),vs=[.ref s.h,.ref k]/\bx C H s/\CallAt C H k p args rows/\D.args[p]? = some ss/\ss.length=args.length/\args.length<=30/\(∀ q ∈ ss.zip args,q.1 = "leg" -> 1<=q.2) /\
 ∀ (H':Hp) (q:Addr),aC H H'->H q=none->H' q=some (.lst (dg s ss args))->Q (.ref q) H'
theorem yC {a b:Str}:decide (V.str a=V.str b)=decide (a=b):=decide_eq_decide.mpr ⟨fun h=>by injection h,fun h=>by rw [h]⟩
theorem Hq {f fa' fl:Addr} {fd fda fdl:FuncData} (F:Fun K "find_named" "find_named" pq f fd) (T:cB w K mg C) (bF:FnI P w K mg base "argument_sorts" 1 fa' fda ["call"] (dZ K C D))
    (Gu:FnI P w K mg base "leg_at" 1 fl fdl ["house", "place"] (Ik C)):aY P w K mg base CX0 2 f fd ["house", "call"] (vG C D):=by
  refine F.ok iW (fun vs H Q E h=> ?_) (fun cdv A outer s H vs Q E hr h=> ?_)
  · obtain ⟨_,_,_,_,_,_,rfl,_⟩:=h
    rfl
  · obtain ⟨s,k,p,args,rows,ss,rfl,hH,⟨kdx,fa,ra,as,hk,hfa,hra,has,hat⟩,hss,ssl,sl30,hleg,kk⟩:=h
    refine ⟨_,(ao (bG 2 iW.nd (aX aq))
      (ao (gq PassesOwn.never rfl (xW rfl T.Ff (aa (aH bF (hr.mono (by decide)) (aa (pv 1) aq)) (aa (xf (pv 1)) aq))) (wO rfl (bA (xg 3 iW.nd) (bA (xg 4 iW.nd) fY)))
        (au (cV (aV vL (pv 3) J1 (bh _))
          (au (xap (pv 2) (V3 (Wx hr) (xf (pv 0)) (pv 4) ⟨rfl,rfl,rfl,rfl⟩)))
          (au (cV (aV vL (pv 3) J1 (bh _))
            (au (xap (pv 2) (aH Gu (hr.mono (by decide)) (aa (pv 0) (aa (pv 4) aq)))))
            (au (xap (pv 2) (pv 4))))))))
      (au (aJ (pv 2))))),?_⟩
    have sz:1000 < sizeLine:=by decide
    refine ⟨Nat.zero_le _,fun q hq=> ?_⟩
    have s1:=aC.upd (o:= .lst []) hq
    have hk1:=s1 _ _ hk
    refine ⟨_,rfl,k,kdx,fa,ra,p,ss,rfl,hk1,hss,fun t ht=> ?_⟩
    have hlen:(ss.zip args).length=args.length:=by rw [List.length_zip]; omega
    refine ⟨_,rfl,aO hk1 T.km T.lC rfl ⟨t,fa,_,_,rfl,ht _,SqL.of (s1 _ _ hfa),?_⟩⟩
    refine gw (Ye (K:=K) (a:=t) (b:=fa) (xs:=cI ss) (ys:=aU args)) (fun i σ H'=>∃ (v3 v4:Option V),σ = [some (.ref s.h),some (.ref k),some (.ref q),v3,v4]/\(∀ b o,H b=some o->H' b=some o)/\H' q=some (.lst (dg s (ss.take i) (args.take i))))
      ⟨none,none,rfl,s1,aj⟩ (fun i σ H' _ ⟨_,_,_,sm,_⟩=>⟨ht _,SqL.of (sm _ _ hfa)⟩) ?_ ?_
    · rintro i v σ H1 H2 hi ⟨v3,v4,rfl,sm,hq1⟩ ⟨t2,ps,rfl,ht2,rfl,x,y,hx,hy,rfl⟩
      obtain ⟨x',hx',rfl⟩:=nR hx
      obtain ⟨z,hz,rfl⟩:=iQ hy
      have sm:aC H H1:=sm
      have s6:=sm.trans (aC.upd (o:= .tup [.str x',.int z]) ht2)
      have hq2:(upd H1 t2 (.tup [.str x',.int z])) q=some (.lst (dg s (ss.take i) (args.take i))):=(aC.upd ht2) _ _ hq1
      have hil:i < args.length:=(List.getElem?_eq_some_iff.mp hz).1
      have hfl:(dg s (ss.take i) (args.take i)).length < sizeLine:=by
        unfold dg
        rw [List.length_map,List.length_zip,List.length_take,List.length_take]
        omega
      have eS:dg s (ss.take (i + 1)) (args.take (i + 1))=dg s (ss.take i) (args.take i)++[aP s x' z]:=by
        unfold dg
        rw [take_snoc hx',take_snoc hz,List.zip_append (by rw [List.length_take,List.length_take]; omega),List.map_append]
        rfl
      have fin:∀ (Hx:Hp),aC H Hx->Hx q=some (.lst (dg s (ss.take i) (args.take i)))->aC H (upd Hx q (.lst (dg s (ss.take i) (args.take i)++[aP s x' z]))):=fun Hx sx _ b o e=>by
        rw [ak (az e hq)]
        exact sx _ _ e
      refine ⟨t2,_,rfl,SqT.of aj,rfl,_,_,rfl,_,_,rfl,rfl,?_⟩
      refine ⟨_,rfl,rfl,_,rfl,?_⟩
      rw [yC]
      have hH6:=hH.same s6
      obtain ⟨hdx,hh6⟩:=hH6.ho
      by_cases c1:x' = "member"
      · rw [decide_eq_true c1]
        have ev:aP s x' z=V8 (s.Ms.find? fun M=>decide ((M.m.id:Int)=z)):=by unfold aP; rw [if_pos c1]
        refine bN ⟨_,rfl,.inl ⟨rfl,_,SqL.of hq2⟩,_,rfl,aO hh6 T.bO T.eQ rfl ⟨s.md,rfl,.inl ⟨_,.inl hH6.dic⟩,_,rfl,_,O7.k (k:= .inl z) hH6.dic,q,_,_,rfl,rfl,hq2,hfl,?_⟩⟩
        rw [Lr,<-ev]
        exact ⟨_,_,rfl,fin _ s6 hq2,by rw [aj,eS]⟩
      · rw [decide_eq_false c1]
        refine bY ⟨_,rfl,rfl,_,rfl,?_⟩
        rw [yC]
        by_cases c2:x' = "leg"
        · rw [decide_eq_true c2]
          have hz1:1<=z:=hleg (x',z) (List.mem_of_getElem? (yj hx' hz)) c2
          have ez:z=((z.toNat:Nat):Int):=by omega
          have ev:aP s x' z=Wa (s.Lg[z.toNat - 1]?):=by unfold aP; rw [if_neg c1,if_pos c2]
          refine bN ⟨_,rfl,.inl ⟨rfl,_,SqL.of hq2⟩,_,rfl,_,rfl,s,z.toNat,by rw [<-ez]; rfl,hH6.toHz,by omega,q,_,_,rfl,rfl,hq2,hfl,?_⟩
          rw [<-ev]
          exact ⟨_,_,rfl,fin _ s6 hq2,by rw [aj,eS]⟩
        · rw [decide_eq_false c2]
          have ev:aP s x' z = .int z:=by unfold aP; rw [if_neg c1,if_neg c2]
          refine bY ⟨_,rfl,.inl ⟨rfl,_,SqL.of hq2⟩,_,rfl,q,_,_,rfl,rfl,hq2,hfl,?_⟩
          have f6:=fin _ s6 hq2
          rw [ev] at f6 eS
          exact ⟨_,_,rfl,f6,by rw [aj,eS]⟩
    · rintro σ H2 ⟨v3,v4,rfl,sm,hq1⟩
      have e1:min (cI ss).length (aU args).length=args.length:=by rw [dh,bw]; omega
      rw [e1,List.take_length,show ss.take args.length=ss by rw [<-ssl,List.take_length]] at hq1
      exact ⟨_,rfl,kk H2 q sm hq hq1⟩
end
abbrev Arg:=Nat->HS->Vbaham.Call->List V->List (List Int)->Prop
def CdI (P:Program) (w:World) (K:PySem.W.Frag) (mg:Str->Option Value) (base:Heap) (C:Ads) (f:Addr) (A:HS->Vbaham.Call->List V->List (List Int)->Prop):Prop :=
 ∃ k fd,k<=30/\aY P w K mg base CX0 k f fd ["house", "arguments", "rows"] (bZ C A)/\PySem.W.keepIn K (.ref f)=true/\Binds K fd ["house", "arguments", "rows"] []
structure SM (P:Program) (w:World) (K:PySem.W.Frag) (mg:Str->Option Value) (base:Heap) (C:Ads) (A:Arg) (n:Nat):Prop where
 is:∃ (a:Addr) (fs:List Addr),mg "CALLS" = some (.ref a)/\(∀ H,SqT K H a (fs.map V.ref))/\fs.length=n/\∀ (i:Nat) (f:Addr),fs[i]? = some f->CdI P w K mg base C f (A i)
def aZ (s:HS) (ss:List Str) (args:List Int):List Str:=((ss.zip (dg s ss args)).filter fun q=>decide (q.2 = .non)).map (·.1)
structure Good (A:Arg) (D:Tbl) (s:HS) (S:State) (p:Nat) (args:List Int) (rows:List (List Int)):Prop where
 no:bU D p args rows=false->Vbaham.stepRows S (((p:Int) :: args) :: rows)=(S,[-2])
 yes:bU D p args rows=true->(∀ q ∈ (D.args.getD p []).zip args,q.1 = "leg" -> 1<=q.2)/\∃ c,Vbaham.stepRows S (((p:Int) :: args) :: rows)=Vbaham.step S c /\
  (if (aZ s (D.args.getD p []) args).contains "member" = true then Vbaham.step S c=(S,[-3]) else if (aZ s (D.args.getD p []) args).contains "leg" = true then Vbaham.step S c=(S,[-7]) else A p s c (dg s (D.args.getD p []) args) rows)
theorem R6 (n:Str) (ls:List Str):inV (.str n) (cI ls)=ls.contains n:=by
 unfold inV cI
 rw [List.any_map]
 induction ls with
 | nil=>rfl
 | cons a l ih =>
  rw [List.any_cons,List.contains_cons,ih]
  congr 1
  show (a == n)=(n == a)
  rw [Bool.eq_iff_iff,beq_iff_eq,beq_iff_eq]
  exact eq_comm
theorem Jh (l:List Str):(cI l).all vM=true:=by
 unfold cI
 rw [List.all_map,List.all_eq_true]
 intro x _
 rfl
section
variable {P:Program} {w:World} {K:PySem.W.Frag} {mg:Str->Option Value} {base:Heap} {C:Ads} {D:Tbl} {A:Arg} {n:Nat}
abbrev sY:Stmt:=top 76
theorem xT:aG ["house", "place", "arguments", "rows", "asked"] ["house", "place", "arguments", "rows"] (aD sY):=⟨rfl,rfl,rfl,by decide +kernel,rfl,by decide +kernel,by decide +kernel⟩
def xM (C:Ads) (A:Arg) (n:Nat):Sp:=fun vs H Q _=>∃ (h fa ra:Addr) (p:Nat),vs=[.ref h,.int p,.ref fa,.ref ra]/\p < n/\bZ C (A p) [.ref h,.ref fa,.ref ra] H Q E0
theorem Ke {f:Addr} {fd:FuncData} (F:Fun K "carry_out" "carry_out" sY f fd) (T:cB w K mg C) (B:SM P w K mg base C A n):aY P w K mg base CX0 31 f fd ["house", "place", "arguments", "rows"] (xM C A n):=by
 refine F.ok xT (fun vs H Q E h=> ?_) (fun cdv Ar outer s H vs Q E hr h=> ?_)
 ·obtain ⟨_,_,_,_,rfl,_⟩:=h
  rfl
 ·obtain ⟨h,fa,ra,p,rfl,hp,k⟩:=h
  obtain ⟨a,fs,g,ha,hn,hf⟩:=B.is
  refine ⟨_,(ao (bG 4 xT.nd (xt (dz rfl g) (pv 1)))
   (au (aJ (MF (pv 4) (aa (pv 0) (aa (pv 2) (aa (pv 3) aq))))))),?_⟩
  obtain ⟨fp,hfp⟩:∃ t,fs[p]? = some t:=⟨_,List.getElem?_eq_getElem (by rw [hn]; exact hp)⟩
  obtain ⟨kf',gfd,hk',gok,gkp,gbd⟩:=hf p fp hfp
  refine ⟨_,rfl,a,_,_,_,rfl,rfl,ha _,aK (j:=p) rfl (by rw [List.getElem?_map,hfp]; rfl),?_⟩
  exact ⟨_,rfl,fp,CX0,kf',gfd,_,_,E0,rfl,gkp,gok,hr.mono hk',gbd,Eo,_,rfl,_,rfl,_,rfl,k⟩
abbrev tK:Stmt:=top 96
theorem gY:aG ["house", "call", "found", "sort", "thing", "missing"] ["house", "call"] (aD tK):=⟨rfl,rfl,rfl,by decide +kernel,rfl,by decide +kernel,by decide +kernel⟩
def xO (C:Ads) (D:Tbl) (A:Arg):Sp:=fun vs H Q _=>∃ (F:Addr->Bool) (s:HS) (S:State) (k:Addr) (p:Nat) (args:List Int) (rows:List (List Int)),vs=[.ref s.h,.ref k]/\bx C (off F H) s/\Wf s S/\(∀ b,F b=true->H b ≠ none) /\
 CallAt C (off F H) k p args rows/\O3 D p args rows/\Good A D s S p args rows/\qj C F s (Vbaham.stepRows S (((p:Int) :: args) :: rows)) H Q
theorem Ks {f fa' fl fc fr:Addr} {fd fda fdl fdc fdr:FuncData} (F:Fun K "answer_of" "answer_of" tK f fd) (T:cB w K mg C) (hn:n=D.args.length) (bF:FnI P w K mg base "argument_sorts" 1 fa' fda ["call"] (dZ K C D))
    (jG:FnI P w K mg base "is_call_right" 3 fr fdr ["call"] (nU C D)) (qu:FnI P w K mg base "find_named" 2 fl fdl ["house", "call"] (vG C D)) (uG:FnI P w K mg base "carry_out" 31 fc fdc ["house", "place", "arguments", "rows"] (xM C A n)) :
    aY P w K mg base CX0 32 f fd ["house", "call"] (xO C D A):=by
  refine F.ok gY (fun vs H Q E h=> ?_) (fun cdv Ar outer s H vs Q E hr h=> ?_)
  · obtain ⟨_,_,_,_,_,_,_,rfl,_⟩:=h
    rfl
  · obtain ⟨Fm,s,S,k,p,args,rows,rfl,hH,W,hF,hC,hZ,hG,kk⟩:=h
    refine ⟨_,(ao (cV (VJ (tQ (aH jG (hr.mono (by decide)) (aa (pv 1) aq))))
        (au (aJ (aX (aa (bC rfl T.iw) aq))))
        bD)
      (ao (bG 2 gY.nd (aH qu (hr.mono (by decide)) (aa (pv 0) (aa (pv 1) aq))))
      (ao (ji (i:=5) (own:=[("sort",3),("thing",4)]) rfl gY.nd rfl rfl (kZ rfl rfl rfl rfl) (xW rfl T.Ff (aa (aH bF (hr.mono (by decide)) (aa (pv 1) aq)) (aa (pv 2) aq))) (bu rfl) (fun _ _ _ _ _=>(kgt K 2 rfl (bA (xg 3 gY.nd) (bA (xg 4 gY.nd) fY)))) (fun _ _ _ _ _=>(uW (aV aaU (pv 4) VR (bh _)))) (fun _ _ _ _ _=>(pv 3)))
      (ao (cV (aV Jb J1 (pv 5) rfl)
        (au (aJ (aX (aa (bC rfl T.lD) aq))))
        bD)
      (ao (cV (aV Jb J1 (pv 5) rfl)
        (au (aJ (aX (aa (bC rfl T.yo) aq))))
        bD)
      (au (aJ (aH uG (hr.mono (by decide)) (aa (pv 0) (aa (xf (pv 1)) (aa (pv 2) (aa (xf (pv 1)) aq)))))))))))),?_⟩
    have sz:1000 < sizeLine:=by decide
    have hC0:=hC.same xZ
    refine ⟨_,rfl,k,p,args,rows,rfl,hC0,hZ,fun H1 s1=>⟨_,rfl,?_⟩⟩
    show (fun b=>if (!b)=true then _ else _) (bU D p args rows)
    cases hR:bU D p args rows with
    | false =>
      rw [hG.no hR] at kk
      refine bN ⟨(by show 1<=sizeLine; decide),fun q hq=> ?_⟩
      exact kk.same hH W (s1.trans (aC.upd hq)) aj
    | true =>
      obtain ⟨hleg,c,hst,hc⟩:=hG.yes hR
      rw [hst] at kk
      obtain ⟨⟨ss,hss,ssl,sl30⟩,_,_⟩:=hZ
      rw [KD hss] at hleg hc
      have hH1:=hH.on.same s1
      refine bY ⟨_,rfl,_,rfl,s,k,p,args,rows,ss,rfl,hH1,hC0.same s1,hss,ssl,sl30,hleg,fun H2 fq s2 nfq hfq=> ?_⟩
      have s12:=s1.trans s2
      obtain ⟨kdx,fa,ra,as,hk,hfa,hra,has,hat⟩:=hC
      have hk2:=s12 _ _ (xZ _ _ hk)
      refine ⟨_,rfl,k,kdx,fa,ra,p,ss,rfl,hk2,hss,fun t ht=> ?_⟩
      have fl:(dg s ss args).length=args.length:=by unfold dg; rw [List.length_map,List.length_zip]; omega
      refine ⟨_,rfl,t,fq,_,_,rfl,ht _,SqL.of hfq,fun D1 hD1=> ?_⟩
      refine eE (Ye (K:=K) (a:=t) (b:=fq) (xs:=cI ss) (ys:=dg s ss args)) (fun H H' h s=>⟨ht _,s.seq h.2⟩) ⟨ht _,SqL.of hfq⟩ (by rw [dh]; omega) hD1 (fun i=>((ss.zip (dg s ss args))[i]?).bind fun q=>if decide (q.2 = .non) then some (V.str q.1) else none) ?_ ?_
      · rintro i v H3 H4 Kt Kf hi sm ⟨t2,ps,rfl,ht2,rfl,x,y,hx,hy,rfl⟩ kt kf
        obtain ⟨x',hx',rfl⟩:=nR hx
        rw [yj hx' hy] at kt kf
        have kt:∀ v H4,(if decide (y = .non) then some (V.str x') else none)=some v->aC H3 H4->Kt v H4:=kt
        have kf:∀ H4,(if decide (y = .non) then some (V.str x') else none)=none->aC H3 H4->Kf H4:=kf
        refine ⟨t2,_,rfl,SqT.of aj,rfl,_,_,rfl,_,_,rfl,rfl,rfl,?_⟩
        refine ⟨_,rfl,rfl,_,rfl,?_⟩
        cases hd:decide (y = .non) with
        | true =>
          rw [hd] at kt
          exact bN ⟨_,rfl,kt _ _ rfl (aC.upd ht2)⟩
        | false =>
          rw [hd] at kf
          exact bY (kf _ rfl (aC.upd ht2))
      intro H3 s3 hl3
      have e1:min (cI ss).length (dg s ss args).length=(ss.zip (dg s ss args)).length:=by rw [dh,List.length_zip]
      rw [e1,jP] at hl3
      have e2:(((ss.zip (dg s ss args)).filter fun q=>decide (q.2 = .non)).map fun q=>V.str q.1)=cI (aZ s ss args):=by
        unfold cI aZ
        rw [List.map_map]
        rfl
      rw [e2] at hl3
      have s13:=s12.trans s3
      refine ⟨_,rfl,D1,_,rfl,.inl (SqL.of hl3),rfl,Jh _,_,rfl,?_⟩
      show if inV (.str "member") (cI (aZ s ss args))=true then _ else _
      rw [R6]
      by_cases c1:(aZ s ss args).contains "member" = true
      · rw [if_pos c1] at hc
        rw [hc] at kk
        rw [c1]
        refine bN ⟨(by show 1<=sizeLine; decide),fun q hq=> ?_⟩
        exact kk.same hH W (s13.trans (aC.upd hq)) aj
      rw [if_neg c1] at hc
      rw [show (aZ s ss args).contains "member" = false by simpa using c1]
      refine bY ⟨_,rfl,D1,_,rfl,.inl (SqL.of hl3),rfl,Jh _,_,rfl,?_⟩
      show if inV (.str "leg") (cI (aZ s ss args))=true then _ else _
      rw [R6]
      by_cases c2:(aZ s ss args).contains "leg" = true
      · rw [if_pos c2] at hc
        rw [hc] at kk
        rw [c2]
        refine bN ⟨(by show 1<=sizeLine; decide),fun q hq=> ?_⟩
        exact kk.same hH W (s13.trans (aC.upd hq)) aj
      rw [if_neg c2] at hc
      rw [show (aZ s ss args).contains "leg" = false by simpa using c2]
      have hk3:=s3 _ _ hk2
      refine bY ⟨_,rfl,_,rfl,aO hk3 T.km T.yl rfl ⟨_,rfl,_,rfl,aO hk3 T.km T.Kw rfl ?_⟩⟩
      have nfq0:H fq=none:=same_none s1 nfq
      let F2:Addr->Bool:=fun b=>Fm b || b == fq
      have f2:∀ b,F2 b=false->Fm b=false:=fun b e=>(Bool.or_eq_false_iff.mp e).1
      have s2off:∀ {G:Hp},aC (off F2 G) (off Fm G):=fun {G} b u e=>by
        obtain ⟨e1,e2⟩:=bL e
        rw [bM (f2 b e1)]
        exact e2
      have up:∀ {G:Hp},aC H G->aC (off Fm H) (off F2 G):=fun {G} sg b u e=>by
        obtain ⟨e1,e2⟩:=bL e
        have:F2 b=false:=by
          show (Fm b || b == fq)=false
          rw [e1,Bool.false_or,beq_eq_false_iff_ne]
          exact az e2 nfq0
        rw [bM this]
        exact sg _ _ e2
      have hfq3:=s3 _ _ hfq
      refine ⟨s.h,fq,ra,p,rfl,by rw [hn]; exact (List.getElem?_eq_some_iff.mp hss).1,F2,s,S,c,fq,ra,dg s ss args,rows,rfl,hH.same (up s13),W,⟨fun b fb z=> ?_,?_⟩,hfq3,⟨as,s13 _ _ (xZ _ _ hra),has,fun i a r e1 e2=>(up s13) _ _ (hat i a r e1 e2)⟩,hc,?_⟩
      · rcases Bool.or_eq_true_iff.mp fb with q | q
        · exact hF b q (same_none s13 z)
        · have e:b=fq:=by simpa using q
          rw [e,hfq3] at z
          cases z
      · show (Fm fq || fq == fq)=true
        rw [beq_self_eq_true,Bool.or_true]
      intro H' q s' fr hH' eh W' hq
      exact kk H' q s' (s13.fr.trans fun b u fb e=>fr b u (Bool.or_eq_true_iff.mpr (.inl fb)) e) (hH'.same s2off) eh W' hq
end
end Crew
namespace L2
open PySem PySem.Spec PyProof.Rows
theorem Bar.sqT {K:PySem.W.Frag} {s:Addr} {H H':Hp} {a:Addr} {xs:List V} (b:Bar s H H') {C dx:Addr} {fs:List (Str × V)} (hs:H s=some (.ins C dx fs)) (h:SqT K H a xs):SqT K H' a xs:=by
 rcases h with (h | ⟨u,h⟩) | h
 ·exact .inl (.inl (b _ _ h (RP h hs)))
 ·exact .inl (.inr ⟨u,b _ _ h (by rintro rfl; rw [h] at hs; cases hs)⟩)
 ·exact .inr h
theorem SqT.Lw {K:PySem.W.Frag} {H:Hp} {l a:Addr} {ys xs:List V} {o:HO} (hl:H l=some (.lst ys)) (h:SqT K H a xs):SqT K (upd H l o) a xs:=by
 rcases h with (h | ⟨u,h⟩) | h
 ·exact .inl (.inl (by rw [ak (by rintro rfl; rw [h] at hl; cases hl)]; exact h))
 ·exact .inl (.inr ⟨u,by rw [ak (by rintro rfl; rw [h] at hl; cases hl)]; exact h⟩)
 ·exact .inr h
end L2
namespace Crew
open PySem PySem.Spec PyProof.Rows L2
open Vbaham (Leg Rules Member State)
def Sy (D:Tbl):Prop:=∀ (z:Int) (n k:Nat),PyVbaham.shape z=some (n,k)->∃ p:Nat,z=(p:Int)/\(∃ ss,D.args[p]? = some ss/\ss.length=n/\n<=30)/\∃ ns,D.rows[p]? = some ns/\ns.length=k/\k<=30
theorem Sh {ns:List Int} {a:Nat} {z:Int} {r:List Int} (h:ns.drop a=z :: r):ns[a]? = some z/\r=ns.drop (a + 1)/\a < ns.length:=by
 have hl:a < ns.length:=by
  rcases Nat.lt_or_ge a ns.length with q | q
  ·exact q
  ·rw [List.drop_eq_nil_of_le q] at h; cases h
 rw [List.drop_eq_getElem_cons hl] at h
 injection h with h1 h2
 exact ⟨by rw [List.getElem?_eq_getElem hl,h1],h2.symm,hl⟩
theorem Mm:∀ {k:Nat} {r t:List Int} {xs:List (List Int)},PyFlat.rows k r=some (xs,t)->xs.length=k
 | 0,r,t,xs,h=>by cases h; rfl
 | k + 1,r,t,xs,h=>by
  unfold PyFlat.rows at h
  cases e1:PyFlat.row r with
  | none=>rw [e1] at h; cases h
  | some q =>
   obtain ⟨x,s⟩:=q
   rw [e1] at h
   cases e2:PyFlat.rows k s with
   | none=>simp only [e2] at h; cases h
   | some q2 =>
    obtain ⟨ys,u⟩:=q2
    simp only [e2] at h
    cases h
    rw [List.length_cons,Mm e2]
theorem Tt {k:Nat} {ns:List Int} {a:Nat} {xs:List (List Int)} {t:List Int} (h:PyFlat.rows (k + 1) (ns.drop a)=some (xs,t)) :
  ∃ (m:Nat) (x:List Int) (ys:List (List Int)),xs=x :: ys/\ns[a]? = some (m:Int)/\a + 1 + m<=ns.length/\x=(ns.drop (a + 1)).take m/\PyFlat.rows k (ns.drop (a + 1 + m))=some (ys,t):=by
 unfold PyFlat.rows at h
 cases e0:ns.drop a with
 | nil=>rw [e0] at h; cases h
 | cons z r =>
  obtain ⟨h1,h2,h3⟩:=Sh e0
  rw [e0] at h
  by_cases c:0<=z/\z.toNat<=r.length
  ·have e1:PyFlat.row (z :: r)=some (r.take z.toNat,r.drop z.toNat):=by
    show (if _ then _ else _)=_
    rw [if_pos c]
   rw [e1] at h
   cases e2:PyFlat.rows k (r.drop z.toNat) with
   | none=>simp only [e2] at h; cases h
   | some q2 =>
    obtain ⟨ys,u⟩:=q2
    simp only [e2] at h
    cases h
    have hr:r.length=ns.length - (a + 1):=by rw [h2,List.length_drop]
    refine ⟨z.toNat,_,ys,rfl,by rw [h1]; congr 1; omega,by omega,by rw [h2],?_⟩
    rw [h2,List.drop_drop] at e2
    exact e2
  ·have e1:PyFlat.row (z :: r)=none:=by
    show (if _ then _ else _)=_
    rw [if_neg c]
   rw [e1] at h
   cases h
section
variable {P:Program} {w:World} {K:PySem.W.Frag} {mg:Str->Option Value} {base:Heap} {C:Ads} {D:Tbl}
abbrev sH:Stmt:=top 86
theorem eG:aG ["reader", "place", "arguments", "rows", "name", "many"] ["reader"] (aD sH):=⟨rfl,rfl,rfl,by decide +kernel,rfl,by decide +kernel,by decide +kernel⟩
def xF (K:PySem.W.Frag) (C:Ads) (D:Tbl):Sp:=fun vs H Q _=>∃ (rd ca:Addr) (a:Nat) (ns:List Int) (c:List (List Int)) (rest:List Int),vs=[.ref rd]/\iU C H rd ca a/\SqL K H ca (aU ns)/\PyFlat.call PyVbaham.shape (ns.drop a)=some (c,rest) /\
 ∀ (H':Hp) (k:Addr) (p a':Nat) (args:List Int) (rows:List (List Int)),c=((p:Int) :: args) :: rows->rest=ns.drop a'->a < a'->a'<=ns.length->(∃ ss,D.args[p]? = some ss/\ss.length=args.length/\args.length<=30)->(∃ nm,D.rows[p]? = some nm/\nm.length=rows.length/\rows.length<=30) ->
  (∀ F:Addr->Bool,(∀ b,F b=true->H b ≠ none)->CallAt C (off F H') k p args rows)->iU C H' rd ca a'->Bar rd H H'->Q (.ref k) H'
theorem J4 {f fc fo ft fn:Addr} {fd fdc fdo fdt fdn:FuncData} (F:Fun K "read_call" "read_call" sH f fd) (T:cB w K mg C) (B:Gp w K mg D) (SO:Sy D) (Q9:MkI P w K mg base "Call" C.call 1 fc fdc ["self", "place", "arguments", "rows"] (xN C))
    (qm:MtI P w K mg base C.reader "take_one" 2 fo fdo ["self"] (Bf K C)) (w6:MtI P w K mg base C.reader "take" 1 ft fdt ["self", "many"] (JF K C)) (gJ:FnI P w K mg base "row_names" 1 fn fdn ["place"] (oK K D)):aY P w K mg base CX0 3 f fd ["reader"] (xF K C D):=by
  refine F.ok eG (fun vs H Q E h=> ?_) (fun cdv Ar outer s H vs Q E hr h=> ?_)
  · obtain ⟨_,_,_,_,_,_,rfl,_⟩:=h
    rfl
  · obtain ⟨rd,ca,a,ns,c,rest,rfl,⟨dx,hrd⟩,hca,hcall,kk⟩:=h
    obtain ⟨aA,tsA,gA,haA,lenA,htA⟩:=B.args
    refine ⟨_,(ao (bG 1 eG.nd (z7 (pv 0) T.cN qm (hr.mono (by decide))))
      (ao (bG 2 eG.nd (Em (pv 0) T.cN w6 (hr.mono (by decide)) (aa (aW bf (by rfl) T.iG PySem.boot_len (aa (xt (dz rfl gA) (pv 1)) aq)) aq)))
      (ao (bG 3 eG.nd (aX aq))
      (ao (gq PassesOwn.never rfl (JZ (aH gJ (hr.mono (by decide)) (aa (pv 1) aq))) (xg 4 eG.nd)
        (ao (bG 5 eG.nd (z7 (pv 0) T.cN qm (hr.mono (by decide))))
        (au (xap (pv 3) (Em (pv 0) T.cN w6 (hr.mono (by decide)) (aa (pv 5) aq))))))
      (au (aJ (jj Q9 (hr.mono (by decide)) (aa (pv 1) (aa (pv 2) (aa (pv 3) aq)))))))))),?_⟩
    have sz:1000 < sizeLine:=by decide
    unfold PyFlat.call at hcall
    cases e0:ns.drop a with
    | nil=>rw [e0] at hcall; cases hcall
    | cons z r =>
      obtain ⟨h1,h2,h3⟩:=Sh e0
      rw [e0] at hcall
      cases esh:PyVbaham.shape z with
      | none=>simp only [esh] at hcall; cases hcall
      | some q =>
        obtain ⟨n,k⟩:=q
        simp only [esh] at hcall
        obtain ⟨p,rfl,⟨ss,hss,ssl,n30⟩,⟨nm,hnm,nml,k30⟩⟩:=SO z n k esh
        by_cases cl:r.length < n
        · rw [if_pos cl] at hcall; cases hcall
        rw [if_neg cl] at hcall
        have hr1:r.length=ns.length - (a + 1):=by rw [h2,List.length_drop]
        cases er:PyFlat.rows k (r.drop n) with
        | none=>simp only [er] at hcall; cases hcall
        | some q2 =>
          obtain ⟨rows,rst⟩:=q2
          simp only [er] at hcall
          cases hcall
          rw [h2,List.drop_drop] at er
          have hrl:=Mm er
          refine ⟨_,rfl,rd,dx,_,rfl,hrd,rfl,rd,ca,a,ns,(p:Int),rfl,⟨dx,hrd⟩,hca,h1,fun H1 hrd1 b1=> ?_⟩
          have hca1:=b1.sqL hrd hca
          obtain ⟨dx1,hr1'⟩:=hrd1
          obtain ⟨tA,htA1⟩:∃ t,tsA[p]? = some t:=⟨_,List.getElem?_eq_getElem (by rw [lenA]; exact (List.getElem?_eq_some_iff.mp hss).1)⟩
          refine ⟨_,rfl,rd,dx1,_,rfl,hr1',rfl,_,rfl,aA,_,_,_,rfl,rfl,haA _,aK (j:=p) rfl (by rw [List.getElem?_map,htA1]; rfl),tA,_,rfl,.inr (htA p tA ss htA1 hss _),?_⟩
          rw [dh,ssl]
          refine ⟨rd,ca,a + 1,n,ns,rfl,⟨dx1,hr1'⟩,hca1,by omega,fun H2 fa nfa hfa hrd2 b2=> ?_⟩
          have eargs:(ns.drop (a + 1)).take n=r.take n:=by rw [h2]
          rw [eargs] at hfa
          have hca2:=b2.sqL hr1' hca1
          have b02:=b1.trans b2
          have nfa0:H fa=none:=by
            cases e:H fa with
            | none=>rfl
            | some u =>
              by_cases q:fa=rd
              · rw [q,hr1'] at nfa; cases nfa
              · rw [b1 _ _ e q] at nfa; cases nfa
          refine ⟨Nat.zero_le _,fun ra hra=> ?_⟩
          obtain ⟨dx2,hr2'⟩:=hrd2
          have nra0:H ra=none:=by
            cases e:H ra with
            | none=>rfl
            | some u =>
              by_cases q:ra=rd
              · rw [q,hr2'] at hra; cases hra
              · rw [b02 _ _ e q] at hra; cases hra
          have nrr:rd ≠ ra:=az hr2' hra
          have nfr:fa ≠ ra:=az hfa hra
          refine ⟨_,rfl,p,nm,rfl,hnm,fun tR Hr sr hTR=>⟨tR,rfl,⟨_,hTR⟩,?_⟩⟩
          refine gw (wkT (K:=K) (a:=tR) (xs:=cI nm)) (fun i σ H'=>∃ (v4 v5:Option V) (as:List Addr) (ai:Nat),σ = [some (.ref rd),some (.int p),some (.ref fa),some (.ref ra),v4,v5]/\(∀ b o,H b=some o->b ≠ rd->H' b=some o)/\H' fa=some (.lst (aU (r.take n)))/\iU C H' rd ca ai/\a < ai/\ai<=ns.length /\
              H' ra=some (.lst (as.map V.ref))/\as.length=i/\(∀ b ∈ as,H b=none/\b ≠ ra)/\(∀ (j:Nat) (b:Addr) (x:List Int),as[j]? = some b->rows[j]? = some x->H' b=some (.lst (aU x)))/\PyFlat.rows (k - i) (ns.drop ai)=some (rows.drop i,rest)/\SqT K H' tR (cI nm))
            ⟨none,none,[],a + 1 + n,rfl,fun b o e q=>sr _ _ ((aC.upd hra) _ _ (b02 _ _ e q)),sr _ _ ((aC.upd hra) _ _ hfa),⟨dx2,sr _ _ ((aC.upd hra) _ _ hr2')⟩,by omega,by omega,sr _ _ aj,rfl,(fun b m=>by cases m),(fun j b x e=>by simp at e),by rw [List.drop_zero]; exact er,hTR⟩
            (fun i σ H' _ ⟨_,_,_,_,_,_,_,_,_,_,_,_,_,_,_,h⟩=>h) ?_ ?_
          · rintro i v σ H4 H3 hi ⟨v4,v5,as,ai,rfl,b3,hfa3,⟨dx3,hr3⟩,hai,hai2,hra3,hasl,hasn,hasr,hrows,hTR3⟩ ⟨rfl,hv⟩
            have hca3:SqL K H3 ca (aU ns):=Bar.sqL b3 hrd hca
            rw [dh,nml] at hi
            obtain ⟨nm',hnm',rfl⟩:=nR hv
            rw [show k - i=(k - (i + 1)) + 1 by omega] at hrows
            obtain ⟨m,x,ys,exs,hm,hml,hx,hrest⟩:=Tt hrows
            have hxi:rows[i]? = some x:=by
              have:=congrArg List.head? exs
              rw [List.head?_drop] at this
              exact this
            have hys:rows.drop (i + 1)=ys:=by
              have:=congrArg List.tail exs
              rw [List.tail_drop] at this
              exact this
            refine ⟨_,rfl,rd,dx3,_,rfl,hr3,rfl,rd,ca,ai,ns,(m:Int),rfl,⟨dx3,hr3⟩,hca3,hm,fun H5 hrd5 b5=> ?_⟩
            obtain ⟨dx5,hr5⟩:=hrd5
            have hca5:=b5.sqL hr3 hca3
            have nra:ra ≠ rd:=nrr.symm
            have hra5:=b5 _ _ hra3 nra
            refine ⟨_,rfl,.inl ⟨rfl,_,SqL.of hra5⟩,_,rfl,rd,dx5,_,rfl,hr5,rfl,_,rfl,rd,ca,ai + 1,m,ns,rfl,⟨dx5,hr5⟩,hca5,hml,fun H6 pt npt hpt hrd6 b6=> ?_⟩
            obtain ⟨dx6,hr6⟩:=hrd6
            have hca6:=b6.sqL hr5 hca5
            have hra6:=b6 _ _ hra5 nra
            have b36:Bar rd H3 H6:=b5.trans b6
            have npt3:H3 pt=none:=by
              cases e:H3 pt with
              | none=>rfl
              | some u =>
                by_cases q:pt=rd
                · rw [q,hr5] at npt; cases npt
                · rw [b5 _ _ e q] at npt; cases npt
            have npt0:H pt=none:=by
              cases e:H pt with
              | none=>rfl
              | some u =>
                by_cases q:pt=rd
                · rw [q,hr3] at npt3; cases npt3
                · rw [b3 _ _ e q] at npt3; cases npt3
            have nptra:pt ≠ ra:=fun q=>by rw [q,hra3] at npt3; cases npt3
            have hfar:fa ≠ rd:=fun q=>by rw [q,hr3] at hfa3; cases hfa3
            refine ⟨ra,_,_,rfl,rfl,hra6,by rw [List.length_map]; omega,?_⟩
            refine ⟨_,_,as++[pt],ai + 1 + m,rfl,fun b o e q=> ?_,?_,⟨dx6,by rw [ak nrr]; exact hr6⟩,by omega,hml,?_,?_,fun b mb=> ?_,fun j b y e1 e2=> ?_,?_,SqT.Lw hra6 (Bar.sqT b36 hr3 hTR3)⟩
            · rw [ak (az e nra0)]
              exact b36 _ _ (b3 _ _ e q) q
            · rw [ak nfr]
              exact b36 _ _ hfa3 hfar
            · rw [aj,List.map_append]
              rfl
            · rw [List.length_append,hasl]
              rfl
            · rcases List.mem_append.mp mb with q | q
              · exact hasn b q
              · have:b=pt:=by simpa using q
                rw [this]
                exact ⟨npt0,nptra⟩
            · by_cases hj:j < as.length
              · rw [List.getElem?_append_left hj] at e1
                have hb:=hasr j b y e1 e2
                have hbn:=hasn b (List.mem_of_getElem? e1)
                rw [ak hbn.2]
                exact b36 _ _ hb (fun q=>by rw [q,hr3] at hb; cases hb)
              · have hj2:j=i:=by
                  have:=(List.getElem?_eq_some_iff.mp e1).1
                  rw [List.length_append] at this
                  have:j < as.length + 1:=this
                  omega
                subst hj2
                rw [List.getElem?_append_right (by omega),hasl,Nat.sub_self] at e1
                have et:pt=b:=by simpa using e1
                subst et
                rw [hxi] at e2
                cases e2
                rw [ak nptra,hx]
                exact hpt
            · rw [hys]
              exact hrest
          · rintro σ H3 ⟨v4,v5,as,ai,rfl,b3,hfa3,hrd3,hai,hai2,hra3,hasl,hasn,hasr,hrows,hTR3⟩
            have hk:(cI nm).length=k:=by rw [dh,nml]
            rw [hk,Nat.sub_self,List.drop_of_length_le (show rows.length<=k by omega)] at hrows
            have erest:rest=ns.drop ai:=by
              cases hrows
              rfl
            rw [dh,nml] at hasl
            refine ⟨_,rfl,_,rfl,_,rfl,fun x xdx nx nxd nex=> ?_⟩
            refine ⟨x,xdx,fa,ra,p,rfl,aj,fun H4 hx4 bar=>⟨rfl,?_⟩⟩
            have s4:aC H3 H4:=made nx nxd bar
            obtain ⟨dx3,hr3⟩:=hrd3
            have nx0:H x=none:=by
              cases e:H x with
              | none=>rfl
              | some u =>
                by_cases q:x=rd
                · rw [q,hr3] at nx; cases nx
                · rw [b3 _ _ e q] at nx; cases nx
            refine kk H4 x p ai (r.take n) rows rfl erest hai hai2 ⟨ss,hss,by rw [ssl,List.length_take]; omega,by rw [List.length_take]; omega⟩ ⟨nm,hnm,by rw [nml,hrl],by rw [hrl]; exact k30⟩ (fun Fm hFm=> ?_) ⟨dx3,s4 _ _ hr3⟩ (fun b o e q=>s4 _ _ (b3 b o e q))
            have ff:∀ {b},H b=none->Fm b=false:=fun {b} z=>by
              cases e:Fm b with
              | false=>rfl
              | true=>exact absurd z (hFm b e)
            refine ⟨xdx,fa,ra,as,by rw [bM (ff nx0)]; exact hx4,by rw [bM (ff nfa0)]; exact s4 _ _ hfa3,by rw [bM (ff nra0)]; exact s4 _ _ hra3,by rw [hasl,hrl],fun i b y e1 e2=> ?_⟩
            rw [bM (ff (hasn b (List.mem_of_getElem? e1)).1)]
            exact s4 _ _ (hasr i b y e1 e2)
end
end Crew
namespace Crew
open Vbaham (Leg Rules Member State)
def AOk (l:List Int):Prop:=∃ h t,l=h :: t/\h<=0/\t.length<=999
theorem cu {h:Int} (e:h<=0):AOk [h]:=⟨h,[],rfl,e,by decide⟩
theorem iT {l:List Nat} (e:l.length<=999):AOk (Vbaham.ok l):=⟨0,_,rfl,Int.le_refl _,by unfold Vbaham.ints; rw [List.length_map]; exact e⟩
theorem jf {S:State} {id:Nat} {f:Member->State × List Int} (h:∀ m,Vbaham.memberOf S id=some m->AOk (f m).2):AOk (Vbaham.onMember S id f).2:=by
 unfold Vbaham.onMember
 split
 ·exact cu (by decide)
 ·rename_i m e
  exact h m e
theorem vm {S:State} {p:Nat} {f:Leg->State × List Int} (h:∀ l,Vbaham.legAt S p=some l->AOk (f l).2):AOk (Vbaham.onLeg S p f).2:=by
 unfold Vbaham.onLeg
 split
 ·exact cu (by decide)
 ·rename_i m e
  exact h m e
theorem Ba {S T:State} {a:List Int} (ha:AOk a):∀ ms:List Member,AOk (Vbaham.ifLegal S T ms a).2
 | []=>ha
 | m :: ms=>by
  unfold Vbaham.ifLegal
  split
  ·rename_i x _
   exact cu (by omega)
  ·exact Ba ha ms
theorem eU (p r:Nat):∀ (k:Nat) (S:State),(Vbaham.fillRank p r k S).2.length<=k
 | 0,S=>Nat.zero_le _
 | k + 1,S=>by
  unfold Vbaham.fillRank
  split
  ·exact Nat.zero_le _
  ·split
   ·exact Nat.zero_le _
   ·rename_i m _
    have:=eU p r k (Vbaham.withPair S m.id p)
    show (_ :: _:List Nat).length<=_
    rw [List.length_cons]
    omega
theorem FZ (gap:Nat):∀ l:List Leg,(Vbaham.duties gap l).length<=l.length
 | []=>Nat.le_refl _
 | x :: r=>by
  have ih:=FZ gap r
  unfold Vbaham.duties
  split
  ·rename_i y r' d l' e
   rw [e] at ih
   split
   ·simp only [List.length_cons] at ih ⊢; omega
   ·simp only [List.length_cons] at ih ⊢; omega
  ·rw [List.length_cons,List.length_cons]; exact Nat.succ_le_succ (Nat.zero_le _)
theorem WL {α : Type} (f : α -> List Nat):∀ l:List α,(∀ x ∈ l,(f x).length=4)->(l.flatMap f).length=4 * l.length
 | [],_=>rfl
 | x :: l,h=>by
  rw [List.flatMap_cons,List.length_append,WL f l (fun y m=>h y (by simp [m])),h x (by simp),List.length_cons]
  omega
section
variable {s:HS} {S:State}
theorem Wf.Io (W:Wf s S) {id:Nat} {m:Member} (h:Vbaham.memberOf S id=some m):(Vbaham.roster S id).length<=100:=by
 rw [W.rel.memberOf] at h
 cases e:s.Ms.find? fun M=>M.m.id == id with
 | none=>rw [e] at h; cases h
 | some M =>
  have mM:=List.mem_of_find?_eq_some e
  have ei:M.m.id=id:=by simpa using List.find?_some e
  have h1:=(rW S ((S.pairs.filter fun x=>x.1 == M.m.id).map fun x=>x.2)).length_eq
  have h2:=(W.rel.prs M mM).length_eq
  unfold Vbaham.roster
  rw [<-ei,h1,h2,List.length_map]
  exact (W.okM mM).len
theorem Wf.aaW (W:Wf s S):S.members.length<=30:=by
 rw [W.rel.mem,List.length_map]
 exact W.nm
theorem Wf.YS (W:Wf s S):S.legs.length<=60:=by
 rw [W.rel.legs]
 unfold legs
 rw [List.length_map]
 exact W.nl
theorem Fz (T:State):(Vbaham.faulty T).length<=T.members.length:=by
 unfold Vbaham.faulty
 rw [List.length_map]
 exact List.length_filter_le ..
theorem Wf.aok (W:Wf s S) (c:Vbaham.Call):AOk (Vbaham.step S c).2:=by
 have hm:=W.aaW
 have hl:=W.YS
 cases c with
 | rules r =>
  unfold Vbaham.step
  dsimp only
  split
  ·exact cu (by decide)
  ·refine iT ?_
   have:(Vbaham.faulty { S with rules:=r }).length<=S.members.length:=Fz { S with rules:=r }
   show (Vbaham.faulty { S with rules:=r }).length<=999
   omega
 | leg l =>
  unfold Vbaham.step
  dsimp only
  split
  ·exact cu (by decide)
  ·split
   ·exact cu (by decide)
   ·exact iT (by show (1:Nat)<=999; decide)
 | member m =>
  unfold Vbaham.step
  dsimp only
  split
  ·exact cu (by decide)
  ·split
   ·exact cu (by decide)
   ·exact cu (by decide)
 | assign id p =>
  refine jf fun m _=>vm fun l _=> ?_
  split
  ·exact cu (by decide)
  ·split
   ·exact cu (by decide)
   ·exact Ba (cu (by decide)) _
 | unassign id p =>
  refine jf fun m _=>vm fun l _=> ?_
  split
  ·exact cu (by decide)
  ·exact cu (by decide)
 | check id =>
  refine jf fun m _=> ?_
  dsimp only
  split
  ·exact ⟨0,[0,0],rfl,by decide,by decide⟩
  ·exact iT (by show (2:Nat)<=999; decide)
 | swap a b t =>
  refine jf fun m _=>jf fun l _=> ?_
  split
  ·exact cu (by decide)
  ·split
   ·exact cu (by decide)
   ·exact Ba (cu (by decide)) _
 | delay p z =>
  refine vm fun l _=> ?_
  split
  ·exact cu (by decide)
  ·refine iT ?_
   have:(Vbaham.faulty (Vbaham.delayed S p z)).length<=S.members.length:=Fz (Vbaham.delayed S p z)
   omega
 | fits p rank =>
  refine vm fun l _=>iT ?_
  rw [List.length_map]
  unfold Vbaham.fitting
  rw [(WK S _).1.length_eq]
  have:=List.length_filter_le (fun m=>m.rank == rank && Vbaham.could S m p) S.members
  omega
 | fill p =>
  refine vm fun l _=>iT ?_
  rw [List.length_append,List.length_append]
  have h1:=eU p 0 4 S
  have h2:=eU p 1 4 (Vbaham.fillRank p 0 4 S).1
  have h3:=eU p 2 4 (Vbaham.fillRank p 1 4 (Vbaham.fillRank p 0 4 S).1).1
  omega
 | flying id t w=>exact jf fun m _=>iT (by show (1:Nat)<=999; decide)
 | worst id w=>exact jf fun m _=>iT (by show (1:Nat)<=999; decide)
 | roster id =>
  refine jf fun m e=>iT ?_
  have:=W.Io e
  omega
 | duties id =>
  refine jf fun m e=>iT ?_
  rw [WL _ _ fun _ _=>rfl]
  have h1:=W.Io e
  have h2:=FZ S.rules.gap (Vbaham.legsOf S (Vbaham.roster S id))
  have h3:(Vbaham.legsOf S (Vbaham.roster S id)).length<=(Vbaham.roster S id).length:=List.length_filterMap_le ..
  omega
 | open_ =>
  refine iT ?_
  rw [WL _ _ fun _ _=>rfl]
  have:=List.length_filter_le (fun k=>[0,1,2].any fun r=>Vbaham.wants S (k + 1) r) (List.range S.legs.length)
  rw [List.length_range] at this
  omega
 | run id=>exact jf fun m _=>iT (by show (1:Nat)<=999; decide)
 | shown p =>
  refine vm fun l e=>iT ?_
  have h3:l.needs.length=3:=by
   unfold Vbaham.legAt at e
   split at e
   ·cases e
   ·have m:=List.mem_of_getElem? e
    rw [W.rel.legs] at m
    unfold legs at m
    obtain ⟨x,mx,rfl⟩:=List.mem_map.mp m
    exact W.nd3 x mx
  rw [List.length_append,List.length_append,h3]
  show 4 + (3 + 3)<=999
  decide
theorem Wf.ZW (W:Wf s S) (rows:List (List Int)):AOk (Vbaham.stepRows S rows).2:=by
 unfold Vbaham.stepRows
 split
 ·exact cu (by decide)
 ·exact cu (by decide)
 ·exact W.aok _
end
end Crew
namespace Crew
open PySem PySem.Spec PyProof.Rows L2
open Vbaham (Leg Rules Member State)
def Pg (s:HS) (c:Vbaham.Call) (fs:List V) (_:List (List Int)):Prop:=∃ M ∈ s.Ms,∃ t w:Nat,c = .flying M.m.id t w/\fs=[.ref M.a,.int t,.int w]
def SN (s:HS) (c:Vbaham.Call) (fs:List V) (_:List (List Int)):Prop:=∃ M ∈ s.Ms,∃ w:Nat,c = .worst M.m.id w/\fs=[.ref M.a,.int w]
def Pa (s:HS) (c:Vbaham.Call) (fs:List V) (_:List (List Int)):Prop:=∃ M ∈ s.Ms,c = .roster M.m.id/\fs=[.ref M.a]
def Ph (s:HS) (c:Vbaham.Call) (fs:List V) (_:List (List Int)):Prop:=∃ M ∈ s.Ms,c = .duties M.m.id/\fs=[.ref M.a]
def aaj (s:HS) (c:Vbaham.Call) (fs:List V) (_:List (List Int)):Prop:=∃ M ∈ s.Ms,c = .run M.m.id/\fs=[.ref M.a]
theorem Fy {l1 l2:List Leg} (h:l1.Perm l2) (t w:Nat):Vbaham.flown l1 t w=Vbaham.flown l2 t w:=by
 unfold Vbaham.flown
 exact xx (h.map _)
theorem HN {l1 l2:List Nat} (h:l1.Perm l2):Vbaham.greatest l1=Vbaham.greatest l2 :=
 Nat.le_antisymm (greatest_le' fun x m=>le_greatest' (h.mem_iff.mp m)) (greatest_le' fun x m=>le_greatest' (h.mem_iff.mpr m))
theorem Pn {l1 l2:List Leg} (h:l1.Perm l2) (w:Nat):Vbaham.worst l1 w=Vbaham.worst l2 w:=by
 unfold Vbaham.worst
 have e:∀ t,Vbaham.flown l1 t w=Vbaham.flown l2 t w:=fun t=>Fy h t w
 simp only [e]
 exact HN ((h.map _).append (h.map _))
section
variable {P:Program} {w:World} {K:PySem.W.Frag} {mg:Str->Option Value} {base:Heap} {C:Ads}
abbrev ph:Stmt:=top 19
theorem vJ:aG ["legs", "t", "w", "flown"] ["legs", "t", "w"] (aD ph):=⟨rfl,rfl,rfl,by decide +kernel,rfl,by decide +kernel,by decide +kernel⟩
def vD (K:PySem.W.Frag) (C:Ads):Sp:=fun vs H Q _=>∃ (a:Addr) (xs:List LG) (t n:Nat),vs=[.ref a,.int t,.int n]/\dD K C H a xs/\xs.length<=100/\(∀ x ∈ xs,x.g.dep<=x.g.arr) /\
 ∀ H':Hp,aC H H'->Q (.int (Vbaham.flown (legs xs) t n)) H'
theorem Ho {f fm:Addr} {fd fdm:FuncData} (F:Fun K "flown_from" "flown_from" ph f fd) (T:Txt w K mg C) (cP:FnI P w K mg base "flown_before" 2 fm fdm ["legs", "points"] (jq K C)):aY P w K mg base CX0 3 f fd ["legs", "t", "w"] (vD K C):=by
 refine F.ok vJ (fun vs H Q E h=> ?_) (fun cdv A outer s H vs Q E hr h=> ?_)
 ·obtain ⟨_,_,_,_,rfl,_⟩:=h
  rfl
 ·obtain ⟨a,xs,t,n,rfl,hA,hl,hv,k⟩:=h
  refine ⟨_,(ao (bG 3 vJ.nd (aH cP (hr.mono (by decide)) (aa (pv 0) (aa (aX (aa (pv 1) (aa (bB gr (pv 1) (pv 2)) aq))) aq))))
   (au (aJ (bB d8 (xl (pv 3) aB) (xl (pv 3) aB))))),?_⟩
  refine ⟨_,rfl,_,rfl,_,rfl,_,rfl,_,_,rfl,rfl,(by show 2<=sizeLine; decide),fun p hp=> ?_⟩
  have s1:=aC.upd (o:= .lst (aU [(t:Int),(t:Int) + n])) hp
  refine ⟨a,p,xs,[(t:Int),(t:Int) + n],rfl,hA.same s1,SqL.of aj,by omega,by show 2<=1000; decide,?_,fun H1 q s2 hq=> ?_⟩
  ·rw [List.pairwise_cons]
   refine ⟨fun y m=> ?_,by simp⟩
   have:y=(t:Int) + n:=by simpa using m
   omega
  refine ⟨_,rfl,q,_,_,_,rfl,rfl,SqL.of hq,aK (j:=1) rfl rfl,_,rfl,q,_,_,_,rfl,rfl,SqL.of hq,aK (j:=0) rfl rfl,_,_,rfl,rfl,?_⟩
  have e:=lG (legs xs) t n fun g hg=>by
   obtain ⟨x,hx,rfl⟩:=List.mem_map.mp hg
   exact hv x hx
  have qq:=k H1 (s1.trans s2)
  rw [<-e] at qq
  exact qq
abbrev mQ:Stmt:=top 67
theorem Ed:aG ["house", "arguments", "rows"] ["house", "arguments", "rows"] (aD mQ):=⟨rfl,rfl,rfl,by decide +kernel,rfl,by decide +kernel,by decide +kernel⟩
theorem Ey {f fl:Addr} {fd fdl:FuncData} (F:Fun K "call_flying" "call_flying" mQ f fd) (T:cB w K mg C) (qp:FnI P w K mg base "flown_from" 3 fl fdl ["legs", "t", "w"] (vD K C)):aY P w K mg base CX0 4 f fd ["house", "arguments", "rows"] (bZ C Pg):=by
 refine F.ok Ed (fun vs H Q E h=>bj h) (fun cdv A outer s H vs Q E hr h=> ?_)
 obtain ⟨Fm,s,S,c,fa,ra,fs,rs,rfl,hH,W,hF,hfa,hra,⟨M,mM,t,n,rfl,rfl⟩,k⟩:=h
 have hz:=hH.on.toHz
 refine ⟨_,(au (aJ (aX (aa aB (aa (aH qp (hr.mono (by decide)) (aa (xf (xl (pv 1) aB)) (aa (xl (pv 1) aB) (aa (xl (pv 1) aB) aq)))) aq))))),?_⟩
 obtain ⟨mdx,hm⟩:=hz.mo M mM
 have hX:=W.okM mM
 refine ⟨_,rfl,fa,_,_,_,rfl,rfl,SqL.of hfa,aK (j:=0) rfl rfl,aO hm T.aN T.cG rfl ?_⟩
 refine ⟨_,rfl,fa,_,_,_,rfl,rfl,SqL.of hfa,aK (j:=1) rfl rfl,_,rfl,fa,_,_,_,rfl,rfl,SqL.of hfa,aK (j:=2) rfl rfl,?_⟩
 refine ⟨M.la,M.xs,t,n,rfl,hz.m5 W mM,by have:=hX.len; omega,fun y my=>Nat.le_of_lt (hX.val y my),fun H1 s1=>⟨(by show 2<=sizeLine; decide),fun q hq=> ?_⟩⟩
 have st:Vbaham.step S (.flying M.m.id t n)=(S,Vbaham.ok [Vbaham.flown (Vbaham.legsOf S (Vbaham.roster S M.m.id)) t n]):=by
  show Vbaham.onMember S M.m.id _=_
  rw [onM W mM]
 rw [st] at k
 refine k.same hH W (s1.trans (aC.upd hq)) ?_
 obtain ⟨ys,hp,ho⟩:=Bj M.xs
 rw [aj,ik,dO (W.rel.has mM) hp ho,Fy (l1:=legs ys) (l2:=legs M.xs) (hp.map LG.g)]
 rfl
abbrev pC:Stmt:=top 68
theorem Hf:aG ["house", "arguments", "rows"] ["house", "arguments", "rows"] (aD pC):=⟨rfl,rfl,rfl,by decide +kernel,rfl,by decide +kernel,by decide +kernel⟩
theorem Hv {f fl:Addr} {fd fdl:FuncData} (F:Fun K "call_worst" "call_worst" pC f fd) (T:cB w K mg C) (eV:FnI P w K mg base "most_flown" 3 fl fdl ["legs", "w"] (lR K C)):aY P w K mg base CX0 4 f fd ["house", "arguments", "rows"] (bZ C SN):=by
 refine F.ok Hf (fun vs H Q E h=>bj h) (fun cdv A outer s H vs Q E hr h=> ?_)
 obtain ⟨Fm,s,S,c,fa,ra,fs,rs,rfl,hH,W,hF,hfa,hra,⟨M,mM,n,rfl,rfl⟩,k⟩:=h
 have hz:=hH.on.toHz
 refine ⟨_,(au (aJ (aX (aa aB (aa (aH eV (hr.mono (by decide)) (aa (xf (xl (pv 1) aB)) (aa (xl (pv 1) aB) aq))) aq))))),?_⟩
 obtain ⟨mdx,hm⟩:=hz.mo M mM
 have hX:=W.okM mM
 refine ⟨_,rfl,fa,_,_,_,rfl,rfl,SqL.of hfa,aK (j:=0) rfl rfl,aO hm T.aN T.cG rfl ?_⟩
 refine ⟨_,rfl,fa,_,_,_,rfl,rfl,SqL.of hfa,aK (j:=1) rfl rfl,?_⟩
 refine ⟨M.la,M.xs,n,rfl,hz.m5 W mM,hX.len,fun y my=>Nat.le_of_lt (hX.val y my),fun H1 s1=>⟨(by show 2<=sizeLine; decide),fun q hq=> ?_⟩⟩
 have st:Vbaham.step S (.worst M.m.id n)=(S,Vbaham.ok [Vbaham.worst (Vbaham.legsOf S (Vbaham.roster S M.m.id)) n]):=by
  show Vbaham.onMember S M.m.id _=_
  rw [onM W mM]
 rw [st] at k
 refine k.same hH W (s1.trans (aC.upd hq)) ?_
 obtain ⟨ys,hp,ho⟩:=Bj M.xs
 rw [aj,ik,dO (W.rel.has mM) hp ho,Pn (l1:=legs ys) (l2:=legs M.xs) (hp.map LG.g)]
 rfl
abbrev mL:Stmt:=top 69
theorem jV:aG ["house", "arguments", "rows", "leg"] ["house", "arguments", "rows"] (aD mL):=⟨rfl,rfl,rfl,by decide +kernel,rfl,by decide +kernel,by decide +kernel⟩
theorem Ew {f fl:Addr} {fd fdl:FuncData} (F:Fun K "call_roster" "call_roster" mL f fd) (T:cB w K mg C) (dG:FnI P w K mg base "in_order" 4 fl fdl ["legs"] (lr K C)):aY P w K mg base CX0 5 f fd ["house", "arguments", "rows"] (bZ C Pa):=by
 refine F.ok jV (fun vs H Q E h=>bj h) (fun cdv A outer s H vs Q E hr h=> ?_)
 obtain ⟨Fm,s,S,c,fa,ra,fs,rs,rfl,hH,W,hF,hfa,hra,⟨M,mM,rfl,rfl⟩,k⟩:=h
 refine ⟨_,(au (aJ (bB jz (aX (aa aB aq)) (jk (own:=[("leg",3)]) rfl jV.nd (cR (aH dG (hr.mono (by decide)) (aa (xf (xl (pv 1) aB)) aq))) (bu rfl) (fun _ _ _ _ _=>(xg 3 jV.nd)) (fun _ _ _ _ _=>cF) (fun _ _ _ _ _=>(kf K (pv 3))))))),?_⟩
 refine ⟨(by show 1<=sizeLine; decide),fun p0 hp0=> ?_⟩
 have s0:aC H (upd H p0 (.lst [.int 0])):=aC.upd hp0
 have sz:1000 < sizeLine:=by decide
 have hz0:=hH.on.toHz.same s0
 obtain ⟨mdx,hm⟩:=hz0.mo M mM
 have hX:=W.okM mM
 refine ⟨_,rfl,fa,_,_,_,rfl,rfl,SqL.of (s0 _ _ hfa),aK (j:=0) rfl rfl,aO hm T.aN T.cG rfl ?_⟩
 refine ⟨M.la,M.xs,rfl,hz0.m5 W mM,fun H1 l ys s1 hl hp ho=> ?_⟩
 have hz1:=hz0.same s1
 have hn:ys.length<=100:=by rw [hp.length_eq]; exact hX.len
 refine ⟨l,rfl,⟨_,SqL.of hl⟩,fun D hD=> ?_⟩
 refine eE (wkL (K:=K) (a:=l) (xs:=refs ys)) (fun H H' h s=>s.seq h) (SqL.of hl) (by rw [aM]; omega) hD (fun i=>(ys[i]?).map fun y=>V.int y.p) ?_ ?_
 ·rintro i v H3 H4 Kt Kf hi sm2 ⟨rfl,hv2⟩ kt kf
  obtain ⟨y,hy,rfl⟩:=dm hv2
  obtain ⟨dx,nd,g1,_⟩:=(hz1.same sm2).lg y (W.rel.sub M mM y (hp.mem_iff.mp (List.mem_of_getElem? hy)))
  refine ⟨rfl,_,rfl,aO g1 T.bQ T.yg rfl (kt _ _ ?_ (aC.refl _))⟩
  rw [hy]
  rfl
 ·intro H3 sm2 hl2
  rw [aM,gB] at hl2
  refine ⟨p0,D,_,_,rfl,rfl,sm2 _ _ (s1 _ _ aj),hl2,?_,fun p hp2=> ?_⟩
  ·rw [List.length_map]
   show 1 + _<=_
   omega
  have st:Vbaham.step S (.roster M.m.id)=(S,Vbaham.ok (Vbaham.roster S M.m.id)):=by
   show Vbaham.onMember S M.m.id _=_
   rw [onM W mM]
  rw [st] at k
  refine k.same hH W (((s0.trans s1).trans sm2).trans (aC.upd hp2)) ?_
  rw [aj,ik,Im (W.rel.has mM) hp ho]
  unfold nats
  rw [List.map_map]
  rfl
abbrev sX:Stmt:=top 70
theorem JQ:aG ["house", "member"] ["house", "member"] (aD sX):=⟨rfl,rfl,rfl,by decide +kernel,rfl,by decide +kernel,by decide +kernel⟩
def oU (K:PySem.W.Frag) (C:Ads):Sp:=fun vs H Q _=>∃ (s:HS) (S:State) (M:MB),vs=[.ref s.h,.ref M.a]/\Hz C H s/\Wf s S/\M ∈ s.Ms /\
 ∀ (H':Hp) (q:Addr) (ds:List (Addr × List LG)) (ys:List LG),aC H H'->kW K C H' q s.R ds->ds.map (·.2)=aQ s.R.gap ys->ys.Perm M.xs->ys.Pairwise ordG->Q (.ref q) H'
theorem Kd {f fc fi:Addr} {fd fdc fdi:FuncData} (F:Fun K "duties_of" "duties_of" sX f fd) (T:cB w K mg C) (eZ:FnI P w K mg base "cut_duties" 3 fc fdc ["rules", "roster"] (lX K C)) (dG:FnI P w K mg base "in_order" 4 fi fdi ["legs"] (lr K C)):aY P w K mg base CX0 5 f fd ["house", "member"] (oU K C):=by
 refine F.ok JQ (fun vs H Q E h=> ?_) (fun cdv A outer s H vs Q E hr h=> ?_)
 ·obtain ⟨_,_,_,rfl,_⟩:=h
  rfl
 ·obtain ⟨s,S,M,rfl,hz,W,mM,k⟩:=h
  refine ⟨_,(au (aJ (aH eZ (hr.mono (by decide)) (aa (xf (pv 0)) (aa (aH dG (hr.mono (by decide)) (aa (xf (pv 1)) aq)) aq))))),?_⟩
  obtain ⟨hdx,hh⟩:=hz.ho
  obtain ⟨mdx,hm⟩:=hz.mo M mM
  have hX:=W.okM mM
  refine ⟨_,rfl,aO hh T.bO T.pU rfl ⟨_,rfl,aO hm T.aN T.cG rfl ⟨M.la,M.xs,rfl,hz.m5 W mM,fun H1 l ys s1 hl hp ho=> ?_⟩⟩⟩
  have hz1:=hz.same s1
  exact ⟨s.r,l,s.R,ys,rfl,hz1.rules.at_,⟨SqL.of hl,hz1.jB W fun y m=>W.rel.sub M mM y (hp.mem_iff.mp m)⟩,by rw [hp.length_eq]; have:=hX.len; omega,fun H2 q ds s2 hD hds=>k H2 q ds ys (s1.trans s2) hD hds hp ho⟩
abbrev wK:Stmt:=top 73
theorem Mi:aG ["house", "arguments", "rows"] ["house", "arguments", "rows"] (aD wK):=⟨rfl,rfl,rfl,by decide +kernel,rfl,by decide +kernel,by decide +kernel⟩
theorem M4 {f fl fo:Addr} {fd fdl fdo:FuncData} (F:Fun K "call_run" "call_run" wK f fd) (T:cB w K mg C) (dW:FnI P w K mg base "longest_run" 1 fl fdl ["duties"] (jT K C)) (gO:FnI P w K mg base "duties_of" 5 fo fdo ["house", "member"] (oU K C)):aY P w K mg base CX0 6 f fd ["house", "arguments", "rows"] (bZ C aaj):=by
 refine F.ok Mi (fun vs H Q E h=>bj h) (fun cdv A outer s H vs Q E hr h=> ?_)
 obtain ⟨Fm,s,S,c,fa,ra,fs,rs,rfl,hH,W,hF,hfa,hra,⟨M,mM,rfl,rfl⟩,k⟩:=h
 have hz:=hH.on.toHz
 refine ⟨_,(au (aJ (aX (aa aB (aa (aH dW (hr.mono (by decide)) (aa (aH gO (hr.mono (by decide)) (aa (pv 0) (aa (xl (pv 1) aB) aq))) aq)) aq))))),?_⟩
 have hX:=W.okM mM
 refine ⟨_,rfl,_,rfl,fa,_,_,_,rfl,rfl,SqL.of hfa,aK (j:=0) rfl rfl,s,S,M,rfl,hz,W,mM,fun H1 q ds ys s1 hD hds hp ho=> ?_⟩
 have hv:∀ y ∈ ys,y.g.dep < y.g.arr:=fun y m=>hX.val y (hp.mem_iff.mp m)
 refine ⟨q,s.R,ds,rfl,hD,fun d m=> ?_,?_⟩
 ·have:=oG (R:=s.R) ho hv (wY hds m)
  omega
 rw [Mj hds ho hv]
 refine ⟨(by show 2<=sizeLine; decide),fun q2 hq2=> ?_⟩
 have st:Vbaham.step S (.run M.m.id)=(S,Vbaham.ok [Vbaham.longestRun S.rules (Vbaham.legsOf S (Vbaham.roster S M.m.id))]):=by
  show Vbaham.onMember S M.m.id _=_
  rw [onM W mM]
 rw [st] at k
 refine k.same hH W (s1.trans (aC.upd hq2)) ?_
 rw [aj,ik,dO (W.rel.has mM) hp ho,W.rel.rules]
 rfl
end
def SQ (s:HS) (c:Vbaham.Call) (fs:List V) (_:List (List Int)):Prop:=∃ x ∈ s.Lg,c = .shown x.p/\fs=[.ref x.a]
def Xy (s:HS) (c:Vbaham.Call) (fs:List V) (_:List (List Int)):Prop:=c = .open_/\fs=[]
theorem QM {gap:Nat} {ys d:List LG} (h:d ∈ aQ gap ys) {y:LG} (m:y ∈ d):y ∈ ys:=by
 rw [<-cX gap ys]
 exact List.mem_flatten.mpr ⟨d,h,m⟩
theorem Ld {gap:Nat} {ys d:List LG} (h:d ∈ aQ gap ys):d.length<=ys.length:=by
 have:=(List.sublist_flatten_of_mem h).length_le
 rw [cX] at this
 exact this
theorem zW {i:Nat} {v:V} (h:([.int 0,.int 1,.int 2]:List V)[i]? = some v):∃ r:Nat,([0,1,2]:List Nat)[i]? = some r/\v = .int r/\r<=2:=by
 match i,h with
 | 0,h=>cases h; exact ⟨0,rfl,rfl,by decide⟩
 | 1,h=>cases h; exact ⟨1,rfl,rfl,by decide⟩
 | 2,h=>cases h; exact ⟨2,rfl,rfl,by decide⟩
section
variable {P:Program} {w:World} {K:PySem.W.Frag} {mg:Str->Option Value} {base:Heap} {C:Ads}
abbrev pF:Stmt:=top 74
theorem iY:aG ["house", "arguments", "rows", "leg", "rank", "holders"] ["house", "arguments", "rows"] (aD pF):=⟨rfl,rfl,rfl,by decide +kernel,rfl,by decide +kernel,by decide +kernel⟩
theorem Hw {f fh:Addr} {fd fdh:FuncData} (F:Fun K "call_shown" "call_shown" pF f fd) (T:cB w K mg C) (RK:Dv K mg) (eY:FnI P w K mg base "holders_of" 1 fh fdh ["house", "leg", "rank"] (lW C)):aY P w K mg base CX0 2 f fd ["house", "arguments", "rows"] (bZ C SQ):=by
  refine F.ok iY (fun vs H Q E h=>bj h) (fun cdv A outer s H vs Q E hr h=> ?_)
  obtain ⟨Fm,s,S,c,fa,ra,fs,rs,rfl,hH,W,hF,hfa,hra,⟨x,mx,rfl,rfl⟩,k⟩:=h
  obtain ⟨aR,gR,hR⟩:=RK
  have hH0:=hH.on
  refine ⟨_,(ao (bG 3 iY.nd (xl (pv 1) aB))
      (ao (ji (i:=5) (own:=[("rank",4)]) rfl iY.nd rfl rfl (kZ rfl rfl rfl rfl) (JZ (dz rfl gR)) (bu rfl) (fun _ _ _ _ _=>(xg 4 iY.nd)) (fun _ _ _ _ _=>cF) (fun _ _ _ _ _=>(aH eY (hr.mono (by decide)) (aa (pv 0) (aa (pv 3) (aa (pv 4) aq))))))
      (au (aJ (bB jz (bB jz (aX (aa aB (aa (xf (pv 3)) (aa (xf (pv 3)) (aa (xf (pv 3)) (aa (xf (pv 3)) aq)))))) (xf (pv 3))) (pv 5)))))),?_⟩
  have sz:1000 < sizeLine:=by decide
  refine ⟨_,rfl,fa,_,_,_,rfl,rfl,SqL.of hfa,aK (j:=0) rfl rfl,?_⟩
  refine ⟨aR,rfl,⟨_,hR _⟩,fun D hD=> ?_⟩
  refine eE (wkT (K:=K) (a:=aR) (xs:=[.int 0,.int 1,.int 2])) (fun H H' h s=>s.sqT h) (hR _) (by show 3<=sizeLine; omega) hD (fun i=>(([0,1,2]:List Nat)[i]?).map fun r=>V.int (Vbaham.crewOf S x.p r)) ?_ ?_
  · rintro i v H1 H2 Kt Kf hi sm ⟨rfl,hv2⟩ kt kf
    obtain ⟨r,hr1,rfl,hr2⟩:=zW hv2
    refine ⟨rfl,_,rfl,_,rfl,_,rfl,s,S,x,r,rfl,hH0.same sm,W,mx,fun H3 s3=>kt _ _ ?_ s3⟩
    rw [hr1]
    rfl
  intro H1 s1 hl1
  have e1:(List.range ([.int 0,.int 1,.int 2]:List V).length).filterMap (fun i=>(([0,1,2]:List Nat)[i]?).map fun r=>V.int (Vbaham.crewOf S x.p r))=nats ([0,1,2].map fun r=>Vbaham.crewOf S x.p r):=rfl
  rw [e1] at hl1
  have hz1:=hH0.toHz.same s1
  obtain ⟨dx,nd,g1,g2⟩:=hz1.lg x mx
  have hn3:=W.nd3 x mx
  refine ⟨_,rfl,aO g1 T.bQ T.yh rfl ⟨_,rfl,aO g1 T.bQ T.YW rfl ⟨_,rfl,aO g1 T.bQ T.lB rfl ⟨_,rfl,aO g1 T.bQ T.t7 rfl ⟨(by show 5<=sizeLine; omega),fun p hp=> ?_⟩⟩⟩⟩⟩
  have s2:=aC.upd (o:= .lst [.int 0,.int x.g.from_,.int x.g.to_,.int x.g.dep,.int x.g.arr]) hp
  refine ⟨_,rfl,aO (s2 _ _ g1) T.bQ T.Dr rfl ⟨p,nd,_,_,rfl,rfl,aj,s2 _ _ g2,?_,fun p2 hp2=> ?_⟩⟩
  · show 5 + (nats x.g.needs).length<=_
    rw [show (nats x.g.needs).length=3 by unfold nats; rw [List.length_map,hn3]]
    omega
  have s3:=s2.trans (aC.upd (o:= .lst ([.int 0,.int x.g.from_,.int x.g.to_,.int x.g.dep,.int x.g.arr]++nats x.g.needs)) hp2)
  refine ⟨_,rfl,p2,D,_,_,rfl,rfl,aj,s3 _ _ hl1,?_,fun p3 hp3=> ?_⟩
  · rw [List.length_append]
    show 5 + (nats x.g.needs).length + 3<=_
    rw [show (nats x.g.needs).length=3 by unfold nats; rw [List.length_map,hn3]]
    omega
  have st:Vbaham.step S (.shown x.p)=(S,Vbaham.ok ([x.g.from_,x.g.to_,x.g.dep,x.g.arr]++(x.g.needs++[0,1,2].map fun r=>Vbaham.crewOf S x.p r))):=by
    show Vbaham.onLeg S x.p _=_
    rw [onL W mx]
  rw [st] at k
  refine k.same hH W ((s1.trans s3).trans (aC.upd hp3)) ?_
  rw [aj,ik]
  unfold nats
  rw [List.map_append,List.map_append]
  rfl
abbrev tu:Stmt:=top 72
theorem gU:aG ["house", "arguments", "rows", "told", "leg", "rank", "missing"] ["house", "arguments", "rows"] (aD tu):=⟨rfl,rfl,rfl,by decide +kernel,rfl,by decide +kernel,by decide +kernel⟩
def jA (S:State) (p:Nat):List Nat:=[0,1,2].map fun r=>jl S p r
def lA (S:State) (p:Nat):List Nat:=if (jA S p).any fun n=>(n:Int) != 0 then p :: jA S p else []
theorem Wb (S:State) (p:Nat):((jA S p).any fun n=>(n:Int) != 0)=[0,1,2].any fun r=>Vbaham.wants S p r:=by
 unfold jA
 rw [List.any_map]
 congr 1
 funext r
 rw [Dz]
 show (((jl S p r:Nat):Int) != 0)=_
 rw [Bool.eq_iff_iff,bne_iff_ne,decide_eq_true_eq]
 omega
theorem open_spec {S:State} {s:HS} (W:Wf s S):∀ n,n<=s.Lg.length->(((List.range n).filter fun k=>[0,1,2].any fun r=>Vbaham.wants S (k + 1) r).flatMap fun k=>(k + 1) :: [0,1,2].map fun r=>Vbaham.needOf S (k + 1) r - Vbaham.crewOf S (k + 1) r)=(s.Lg.take n).flatMap fun x=>lA S x.p
 | 0,_=>rfl
 | n + 1,h=>by
  have e:s.Lg[n]? = some (s.Lg[n]'(by omega)):=List.getElem?_eq_getElem (by omega)
  have hp:=W.rel.plc n _ e
  rw [List.range_succ,List.filter_append,List.flatMap_append,open_spec W n (by omega),take_snoc e,List.flatMap_append]
  congr 1
  rw [List.flatMap_cons,List.flatMap_nil,List.append_nil,hp]
  unfold lA
  rw [Wb,List.filter_cons,List.filter_nil]
  split
  ·rfl
  ·rfl
theorem TY (S:State) (p:Nat):(lA S p).length<=4:=by
 unfold lA
 split
 ·exact Nat.le_refl _
 ·exact Nat.zero_le _
theorem IW (S:State):∀ l:List LG,(l.flatMap fun x=>lA S x.p).length<=4 * l.length
 | []=>Nat.le_refl _
 | x :: l=>by
  have h1:=TY S x.p
  have h2:=IW S l
  rw [List.flatMap_cons,List.length_append,List.length_cons]
  omega
theorem nats_len' (l:List Nat):(nats l).length=l.length:=by unfold nats; rw [List.length_map]
theorem Fe (a b:List Nat):nats a++nats b=nats (a++b):=by unfold nats; rw [List.map_append]
theorem Kh {f fh:Addr} {fd fdh:FuncData} (F:Fun K "call_open" "call_open" tu f fd) (T:cB w K mg C) (RK:Dv K mg) (cH:FnI P w K mg base "missing_in" 2 fh fdh ["house", "leg", "rank"] (iV C)):aY P w K mg base CX0 3 f fd ["house", "arguments", "rows"] (bZ C Xy):=by
  refine F.ok gU (fun vs H Q E h=>bj h) (fun cdv A outer s H vs Q E hr h=> ?_)
  obtain ⟨Fm,s,S,c,fa,ra,fs,rs,rfl,hH,W,hF,hfa,hra,⟨rfl,rfl⟩,k⟩:=h
  obtain ⟨aR,gR,hR⟩:=RK
  have hH0:=hH.on
  refine ⟨_,(ao (bG 3 gU.nd (aX (aa aB aq)))
      (ao (gq PassesOwn.never rfl (cR (xf (pv 0))) (xg 4 gU.nd)
        (ao (ji (i:=6) (own:=[("rank",5)]) rfl gU.nd rfl rfl (kZ rfl rfl rfl rfl) (JZ (dz rfl gR)) (bu rfl) (fun _ _ _ _ _=>(xg 5 gU.nd)) (fun _ _ _ _ _=>cF) (fun _ _ _ _ _=>(aH cH (hr.mono (by decide)) (aa (pv 0) (aa (pv 4) (aa (pv 5) aq))))))
        (au (cV (tQ (aW (ZQ rfl) (by rfl) T.RQ Xv (aa (pv 6) aq)))
          (au (uX (IK PySem.F.plainAttrs_list PySem.F.slot_list_extend PySem.F.type_list_extend u5 (pv 3) (aa (bB jz (aX (aa (xf (pv 4)) aq)) (pv 6)) aq))))
          bD))))
      (au (aJ (pv 3))))),?_⟩
  have sz:1000 < sizeLine:=by decide
  refine ⟨(by show 1<=sizeLine; omega),fun q hq=> ?_⟩
  have s1:=aC.upd (o:= .lst [.int 0]) hq
  obtain ⟨hdx,hh⟩:=(hH0.same s1).ho
  refine ⟨_,rfl,aO hh T.bO T.ue rfl ⟨s.ll,rfl,⟨_,SqL.of (s1 _ _ hH0.ll)⟩,?_⟩⟩
  refine gw (wkL (K:=K) (a:=s.ll) (xs:=refs s.Lg)) (fun i σ H'=>∃ (v4 v5 v6:Option V),σ = [some (.ref s.h),some (.ref fa),some (.ref ra),some (.ref q),v4,v5,v6]/\(∀ b o,H b=some o->H' b=some o)/\H' q=some (.lst (.int 0 :: nats ((s.Lg.take i).flatMap fun x=>lA S x.p))))
    ⟨none,none,none,rfl,s1,aj⟩ (fun i σ H' _ ⟨_,_,_,_,sm,_⟩=>SqL.of (sm _ _ hH0.ll)) ?_ ?_
  · rintro i v σ H1 H2 hi ⟨v4,v5,v6,rfl,sm,hq1⟩ ⟨rfl,hv⟩
    obtain ⟨x,hx,rfl⟩:=dm hv
    have mx:=List.mem_of_getElem? hx
    have sm:aC H H2:=sm
    rw [aM] at hi
    refine ⟨aR,rfl,⟨_,hR _⟩,fun D hD=> ?_⟩
    refine eE (wkT (K:=K) (a:=aR) (xs:=[.int 0,.int 1,.int 2])) (fun H H' h s=>s.sqT h) (hR _) (by show 3<=sizeLine; omega) hD (fun i=>(([0,1,2]:List Nat)[i]?).map fun r=>V.int (jl S x.p r)) ?_ ?_
    · rintro j v H3 H4 Kt Kf hj sm2 ⟨rfl,hv2⟩ kt kf
      obtain ⟨r,hr1,rfl,hr2⟩:=zW hv2
      refine ⟨rfl,_,rfl,_,rfl,_,rfl,s,S,x,r,rfl,hH0.same (sm.trans sm2),W,mx,hr2,fun H5 s5=>kt _ _ ?_ s5⟩
      rw [hr1]
      rfl
    intro H3 s3 hl3
    have e1:(List.range ([.int 0,.int 1,.int 2]:List V).length).filterMap (fun i=>(([0,1,2]:List Nat)[i]?).map fun r=>V.int (jl S x.p r))=nats (jA S x.p):=rfl
    rw [e1] at hl3
    have hq3:=s3 _ _ hq1
    have s03:=sm.trans s3
    have ei:nats (jA S x.p)=((jA S x.p).map fun (n:Nat)=>(n:Int)).map V.int:=by unfold nats; rw [List.map_map]; rfl
    refine ⟨_,rfl,D,_,rfl,SqL.of (by rw [hl3,ei]),_,rfl,?_⟩
    have ea:((jA S x.p).map fun (n:Nat)=>(n:Int)).any (fun n=>n != 0)=(jA S x.p).any fun n=>(n:Int) != 0:=by rw [List.any_map]; rfl
    rw [ea]
    have eS:(s.Lg.take (i + 1)).flatMap (fun x=>lA S x.p)=(s.Lg.take i).flatMap (fun x=>lA S x.p)++lA S x.p:=by
      rw [take_snoc hx,List.flatMap_append,List.flatMap_cons,List.flatMap_nil,List.append_nil]
    cases hc:(jA S x.p).any fun n=>(n:Int) != 0 with
    | false =>
      have eo:lA S x.p=[]:=by unfold lA; rw [hc]; rfl
      rw [eo,List.append_nil] at eS
      exact bY ⟨_,_,_,rfl,s03,by rw [eS]; exact hq3⟩
    | true =>
      have eo:lA S x.p=x.p :: jA S x.p:=by unfold lA; rw [hc]; rfl
      obtain ⟨dx,nd,g1,g2⟩:=(hH0.same s03).lg x mx
      refine bN ⟨_,rfl,.inl ⟨rfl,_,SqL.of hq3⟩,_,rfl,aO g1 T.bQ T.yg rfl ⟨(by show 1<=sizeLine; omega),fun p hp=> ?_⟩⟩
      have s4:=aC.upd (o:= .lst [.int x.p]) hp
      refine ⟨_,rfl,p,D,_,_,rfl,rfl,aj,s4 _ _ hl3,(by show 1 + 3<=sizeLine; omega),fun p2 hp2=> ?_⟩
      have s5:=s4.trans (aC.upd (o:= .lst ([.int x.p]++nats (jA S x.p))) hp2)
      have hlen:=IW S (s.Lg.take i)
      have hnl:=W.nl
      refine ⟨q,p2,_,_,rfl,rfl,s5 _ _ hq3,aj,?_,?_⟩
      · rw [List.length_append,List.length_cons,nats_len',nats_len']
        show _ + 1 + (1 + 3)<=_
        rw [List.length_take] at hlen
        omega
      refine ⟨_,_,_,rfl,fun b o e=> ?_,?_⟩
      · rw [ak (az e hq)]
        exact (s03.trans s5) _ _ e
      · rw [aj,eS,eo,<-Fe]
        rfl
  · rintro σ H2 ⟨v4,v5,v6,rfl,sm,hq1⟩
    rw [aM,List.take_length] at hq1
    refine ⟨_,rfl,?_⟩
    have st:Vbaham.step S .open_=(S,Vbaham.ok (s.Lg.flatMap fun x=>lA S x.p)):=by
      show (S,_)=_
      have e:=open_spec W s.Lg.length (Nat.le_refl _)
      rw [List.take_length] at e
      have el:S.legs.length=s.Lg.length:=by rw [W.rel.legs]; unfold legs; rw [List.length_map]
      rw [el,e]
    rw [st] at k
    refine k.same hH W (show aC H H2 from sm) ?_
    rw [hq1,ik]
abbrev mR:Stmt:=top 71
theorem jW:aG ["house", "arguments", "rows", "told", "duty"] ["house", "arguments", "rows"] (aD mR):=⟨rfl,rfl,rfl,by decide +kernel,rfl,by decide +kernel,by decide +kernel⟩
theorem Xk {q l:Addr} {Hd H':Hp} {xs:List LG} {r:List V} {z:Int} (b:Bar q Hd H') (hq:Hd q=some (.lst (.int z :: r))) (h:SqL K Hd l (refs xs)):SqL K H' l (refs xs):=by
 have ne:∀ ys:List V,ys=refs xs->ys ≠ .int z :: r:=fun ys e e2=>by
  subst e
  cases xs with
  | nil=>cases e2
  | cons x xs=>cases e2
 rcases h with (h | ⟨u,h⟩) | h
 ·exact .inl (.inl (b _ _ h (by rintro rfl; rw [h] at hq; injection hq with e; injection e with e; exact ne _ rfl e)))
 ·exact .inl (.inr ⟨u,b _ _ h (by rintro rfl; rw [h] at hq; cases hq)⟩)
 ·exact .inr h
def QQ (R:Rules) (d:List LG):List Nat:=[Vbaham.begins R (legs d),Vbaham.ends R (legs d),d.length,vy d]
theorem Om (R:Rules):∀ l:List (Addr × List LG),(l.flatMap fun d=>QQ R d.2).length=4 * l.length
 | []=>rfl
 | d :: l=>by
  rw [List.flatMap_cons,List.length_append,Om R l,List.length_cons]
  show 4 + _=_
  omega
theorem Ez {f fo fm:Addr} {fd fdo fdm:FuncData} (F:Fun K "call_duties" "call_duties" mR f fd) (T:cB w K mg C) (gO:FnI P w K mg base "duties_of" 5 fo fdo ["house", "member"] (oU K C)) (eX:FnI P w K mg base "minutes_of" 1 fm fdm ["legs"] (lU K C)):aY P w K mg base CX0 6 f fd ["house", "arguments", "rows"] (bZ C Ph):=by
  refine F.ok jW (fun vs H Q E h=>bj h) (fun cdv A outer s H vs Q E hr h=> ?_)
  obtain ⟨Fm,s,S,c,fa,ra,fs,rs,rfl,hH,W,hF,hfa,hra,⟨M,mM,rfl,rfl⟩,k⟩:=h
  have hH0:=hH.on
  refine ⟨_,(ao (bG 3 jW.nd (aX (aa aB aq)))
      (ao (gq PassesOwn.never rfl (cR (aH gO (hr.mono (by decide)) (aa (pv 0) (aa (xl (pv 1) aB) aq)))) (xg 4 jW.nd)
        (au (uX (IK PySem.F.plainAttrs_list PySem.F.slot_list_extend PySem.F.type_list_extend u5 (pv 3) (aa (aX (aa (xf (pv 4)) (aa (xf (pv 4)) (aa (aW bf (by rfl) T.iG PySem.boot_len (aa (xf (pv 4)) aq)) (aa (aH eX (hr.mono (by decide)) (aa (xf (pv 4)) aq)) aq))))) aq)))))
      (au (aJ (pv 3))))),?_⟩
  have sz:1000 < sizeLine:=by decide
  have hX:=W.okM mM
  refine ⟨(by show 1<=sizeLine; omega),fun q hq=> ?_⟩
  have s1:=aC.upd (o:= .lst [.int 0]) hq
  refine ⟨_,rfl,_,rfl,fa,_,_,_,rfl,rfl,SqL.of (s1 _ _ hfa),aK (j:=0) rfl rfl,s,S,M,rfl,hH0.toHz.same s1,W,mM,fun Hd dq ds ys s2 hD hds hp ho=> ?_⟩
  have hqd:Hd q=some (.lst [.int 0]):=s2 _ _ aj
  have s02:=s1.trans s2
  have hdn:ds.length<=100:=by
    have:=jo s.R.gap ys
    rw [<-hds,List.length_map,hp.length_eq] at this
    have:=hX.len
    omega
  have hdq:dq ≠ q:=fun z=>by
    have:=hD.lst
    rw [z,hqd] at this
    injection this with e
    injection e with e
    cases ds with
    | nil=>cases e
    | cons d ds=>cases e
  refine ⟨dq,rfl,⟨_,SqL.of hD.lst⟩,?_⟩
  refine gw (wkL (K:=K) (a:=dq) (xs:=ds.map fun d=>V.ref d.1)) (fun i σ H'=>∃ (v4:Option V),σ = [some (.ref s.h),some (.ref fa),some (.ref ra),some (.ref q),v4]/\Bar q Hd H'/\H' q=some (.lst (.int 0 :: nats ((ds.take i).flatMap fun d=>QQ s.R d.2))))
    ⟨none,rfl,fun b o e _=>e,hqd⟩ (fun i σ H' _ ⟨_,_,sm,_⟩=>SqL.of (sm _ _ hD.lst hdq)) ?_ ?_
  · rintro i v σ H1 H2 hi ⟨v4,rfl,sm,hq1⟩ ⟨rfl,hv⟩
    obtain ⟨d,hd,rfl⟩:=cU hv
    have md:=List.mem_of_getElem? hd
    obtain ⟨dx,l,hd1,hd2⟩:=hD.at_ d md
    have hd1':=sm _ _ hd1 (fun z=>by rw [z,hqd] at hd1; cases hd1)
    have hl':=Xk sm hqd hd2.lst
    have s0H:aC H H2:=fun b o e=>sm _ _ (s02 _ _ e) (az e hq)
    have hsub:∀ y ∈ d.2,y ∈ s.Lg:=fun y my=>W.rel.sub M mM y (hp.mem_iff.mp (QM (wY hds md) my))
    have hval:∀ y ∈ d.2,y.g.dep<=y.g.arr:=fun y my=>Nat.le_of_lt (W.val y (hsub y my))
    have hdl:d.2.length<=100:=by
      have:=Ld (wY hds md)
      rw [hp.length_eq] at this
      have:=hX.len
      omega
    rw [List.length_map] at hi
    refine ⟨_,rfl,.inl ⟨rfl,_,SqL.of hq1⟩,_,rfl,aO hd1' T.fJ T.vd rfl ⟨_,rfl,aO hd1' T.fJ T.Gj rfl ⟨_,rfl,aO hd1' T.fJ T.Gf rfl ⟨l,_,rfl,.inl hl',_,rfl,aO hd1' T.fJ T.Gf rfl ?_⟩⟩⟩⟩
    refine ⟨l,d.2,rfl,⟨hl',fun y my=>(hH0.same s0H).lg y (hsub y my)⟩,by omega,hval,fun H3 s3=>⟨(by show 4<=sizeLine; omega),fun p hp2=> ?_⟩⟩
    have s4:=s3.trans (aC.upd (o:= .lst [.int (Vbaham.begins s.R (legs d.2)),.int (Vbaham.ends s.R (legs d.2)),.int ((refs d.2).length),.int (vy d.2)]) hp2)
    have hlen:=Om s.R (ds.take i)
    refine ⟨q,p,_,_,rfl,rfl,s4 _ _ hq1,aj,?_,?_⟩
    · rw [List.length_cons,nats_len',hlen,List.length_take]
      show _ + 1 + 4<=_
      omega
    refine ⟨_,rfl,fun b o e n=> ?_,?_⟩
    · rw [ak n]
      exact s4 _ _ (sm b o e n)
    · have eS:(ds.take (i + 1)).flatMap (fun d=>QQ s.R d.2)=(ds.take i).flatMap (fun d=>QQ s.R d.2)++QQ s.R d.2:=by
        rw [take_snoc hd,List.flatMap_append,List.flatMap_cons,List.flatMap_nil,List.append_nil]
      rw [aj,eS,<-Fe,aM]
      rfl
  · rintro σ H2 ⟨v4,rfl,sm,hq1⟩
    rw [List.length_map,List.take_length] at hq1
    refine ⟨_,rfl,?_⟩
    have st:Vbaham.step S (.duties M.m.id)=(S,Vbaham.ok (ds.flatMap fun d=>QQ s.R d.2)):=by
      show Vbaham.onMember S M.m.id _=_
      rw [onM W mM,dO (W.rel.has mM) hp ho,W.rel.rules,Ds hds,List.flatMap_map]
      refine congrArg (fun z=>(S,Vbaham.ok z)) (congrArg (fun g=>List.flatMap g ds) (funext fun d=> ?_))
      unfold QQ vy
      rw [<-oh]
    rw [st] at k
    refine k.same hH W (fun b o e=>sm _ _ (s02 _ _ e) (az e hq)) ?_
    rw [hq1,ik]
end
end Crew
namespace L2
open PySem PySem.Spec PyProof.Rows
theorem Fb {F:Addr->Bool} {H:Hp} {a:Addr} {o:HO} (h:F a=true):off F (upd H a o)=off F H:=by
 funext b
 unfold L2.off
 by_cases e:b=a
 ·subst e
  rw [if_pos h,if_pos h]
 ·rw [ak e]
end L2
namespace Crew
open PySem PySem.Spec PyProof.Rows L2
open Vbaham (Leg Rules Member State)
def XC (s:HS) (c:Vbaham.Call) (fs:List V) (_:List (List Int)):Prop:=∃ x ∈ s.Lg,c = .fill x.p/\fs=[.ref x.a]
theorem Xh (xs:List V) (n:Nat):Ib xs none (some (n:Int))=xs.take n:=by
 unfold Ib
 have e1:HT.sIx xs.length 0 none=0:=rfl
 have e2:HT.sIx xs.length xs.length (some (n:Int))=min n xs.length:=by
  unfold HT.sIx
  simp only
  split <;> omega
 rw [e1,e2,List.drop_zero,Nat.sub_zero,<-List.take_take,List.take_length]
theorem Wf.asg {s:HS} {S:State} (W:Wf s S) {M:MB} (mM:M ∈ s.Ms) {x:LG} (mx:x ∈ s.Lg) (hn:x.p ∉ M.xs.map (·.p)):Wf { s with Ms:=Crew.asg x M s.Ms } (Vbaham.withPair S M.m.id x.p):=W.bV (W.rel.assign mM mx hn)
theorem Wf.Q4 {x:LG}:∀ (ts:List MB) {s:HS} {S:State},x ∈ s.Lg->Wf s S->(ts.map fun M=>M.m.id).Nodup->(∀ M ∈ ts,M ∈ s.Ms/\x.p ∉ M.xs.map (·.p))->Wf { s with Ms:=zg x s.Ms ts } (ZX x S ts)
 | [],s,S,_,W,_,_=>W
 | M :: ts,s,S,mx,W,nd,hm=>by
  rw [List.map_cons,List.nodup_cons] at nd
  obtain ⟨m1,m2⟩:=hm M (by simp)
  refine Wf.Q4 ts (s:={ s with Ms:=Crew.asg x M s.Ms }) mx (W.asg m1 mx m2) nd.2 fun N mN=> ?_
  obtain ⟨n1,n2⟩:=hm N (by simp [mN])
  exact ⟨RV n1 fun z=>nd.1 (by rw [<-z]; exact List.mem_map.mpr ⟨N,mN,rfl⟩),n2⟩
theorem Zd {s:HS} {S:State} (W:Wf s S) {x:LG} (mx:x ∈ s.Lg) {rank:Nat} {M:MB} (h:M ∈ s.Ms.filter (yq S x.p rank)):M ∈ s.Ms/\x.p ∉ M.xs.map (·.p):=by
 obtain ⟨mM,g0⟩:=List.mem_filter.mp h
 unfold yq at g0
 rw [Bool.and_eq_true] at g0
 obtain ⟨ys0,p0,o0⟩:=Bj (M.xs++[x])
 have c0:=g0.2
 rw [W.rel.could mM mx p0 o0,Bool.and_eq_true] at c0
 exact ⟨mM,by simpa using c0.1⟩
theorem YQ {s:HS} {S:State} (W:Wf s S) {x:LG} (mx:x ∈ s.Lg) {r:Nat} (hr:r<=2):Vbaham.needOf S x.p r<=4:=by
 have hn3:=W.nd3 x mx
 have e:x.g.needs[r]? = some (x.g.needs[r]'(by omega)):=List.getElem?_eq_getElem (by omega)
 rw [RN W mx e]
 exact W.nd4 x mx _ (List.mem_of_getElem? e)
section
variable {P:Program} {w:World} {K:PySem.W.Frag} {mg:Str->Option Value} {base:Heap} {C:Ads}
abbrev sV:Stmt:=top 65
theorem gP:aG ["house", "leg", "rank", "takers", "member"] ["house", "leg", "rank"] (aD sV):=⟨rfl,rfl,rfl,by decide +kernel,rfl,by decide +kernel,by decide +kernel⟩
def xJ (C:Ads):Sp:=fun vs H Q _=>∃ (F:Addr->Bool) (s:HS) (S:State) (x:LG) (rank:Nat),vs=[.ref s.h,.ref x.a,.int rank]/\bx C (off F H) s/\Wf s S/\x ∈ s.Lg/\rank<=2 /\
 ∀ (H':Hp) (q:Addr) (s':HS),Fr F H H'->bx C (off F H') s'->s'.h=s.h->s'.Lg=s.Lg->Wf s' (Vbaham.fillRank x.p rank 4 S).1->H' q=some (.lst (nats (Vbaham.fillRank x.p rank 4 S).2))->Q (.ref q) H'
theorem Ka {f fl fm:Addr} {fd fdl fdm:FuncData} (F:Fun K "fill_rank" "fill_rank" sV f fd) (T:cB w K mg C) (cz:FnI P w K mg base "fitting_members" 10 fl fdl ["house", "leg", "rank"] (gf C))
    (cH:FnI P w K mg base "missing_in" 2 fm fdm ["house", "leg", "rank"] (iV C)):aY P w K mg base CX0 11 f fd ["house", "leg", "rank"] (xJ C):=by
  refine F.ok gP (fun vs H Q E h=> ?_) (fun cdv A outer s H vs Q E hr h=> ?_)
  · obtain ⟨_,_,_,_,_,rfl,_⟩:=h
    rfl
  · obtain ⟨Fm,s,S,x,rank,rfl,hH,W,mx,hrk,k⟩:=h
    refine ⟨_,(ao (bG 3 gP.nd (tV xP (aH cz (hr.mono (by decide)) (aa (pv 0) (aa (pv 1) (aa (pv 2) aq)))) Rx (lw (aH cH (hr.mono (by decide)) (aa (pv 0) (aa (pv 1) (aa (pv 2) aq)))))))
      (ao (gq PassesOwn.never rfl (cR (pv 3)) (xg 4 gP.nd)
        (au (xap (xf (pv 4)) (pv 1))))
      (au (aJ (jk (own:=[("member",4)]) rfl gP.nd (cR (pv 3)) (bu rfl) (fun _ _ _ _ _=>(xg 4 gP.nd)) (fun _ _ _ _ _=>cF) (fun _ _ _ _ _=>(kf K (pv 4)))))))),?_⟩
    have sz:1000 < sizeLine:=by decide
    have hH0:=hH.on
    refine ⟨_,rfl,_,rfl,_,rfl,s,S,x,rank,rfl,hH0,W,mx,fun H1 l qs s1 hl hq hn ef pm so=> ?_⟩
    refine ⟨_,rfl,_,rfl,_,rfl,s,S,x,rank,rfl,hH0.same s1,W,mx,hrk,fun H2 s2=>⟨_,rfl,l,_,rfl,SqL.of (s2 _ _ hl),fun p hp=> ?_⟩⟩
    rw [Xh,<-List.map_take]
    have hfill:=Jj mx (rank:=rank) 4 W.rel pm so (by have:=YQ W mx hrk; omega)
    have hfill:Vbaham.fillRank x.p rank 4 S=(ZX x S (qs.take (jl S x.p rank)),(qs.take (jl S x.p rank)).map fun M=>M.m.id):=hfill
    have hids:((qs.take (jl S x.p rank)).map fun M=>M.m.id).Nodup:=by
      have h1:(qs.map fun M=>M.m.id).Nodup:=(pm.map fun M=>M.m.id).nodup_iff.mpr (W.rel.ids.sublist ((List.filter_sublist).map _))
      exact h1.sublist ((List.take_sublist _ _).map _)
    have hmem:∀ M ∈ qs.take (jl S x.p rank),M ∈ s.Ms/\x.p ∉ M.xs.map (·.p):=fun M m=>Zd W mx (pm.mem_iff.mp (List.mem_of_mem_take m))
    have hlen:(qs.take (jl S x.p rank)).length<=30:=by
      rw [List.length_take]
      have:=W.nm
      omega
    generalize qs.take (jl S x.p rank)=ts at hfill hids hmem hlen ⊢
    have s02:=s1.trans s2
    have s3:=s02.trans (aC.upd (o:= .lst (ts.map fun M=>V.ref M.a)) hp)
    have hp0:H p=none:=same_none s02 hp
    refine ⟨_,rfl,p,rfl,⟨_,SqL.of aj⟩,?_⟩
    refine gw (wkL (K:=K) (a:=p) (xs:=ts.map fun M=>V.ref M.a)) (fun i σ H'=>∃ (v4:Option V),σ = [some (.ref s.h),some (.ref x.a),some (.int rank),some (.ref p),v4]/\Fr Fm H H'/\bx C (off Fm H') { s with Ms:=zg x s.Ms (ts.take i) }/\H' p=some (.lst (ts.map fun M=>V.ref M.a))/\∀ N ∈ s.Ms,Xo C H' N)
      ⟨none,rfl,s3.fr,hH.same s3.off,aj,(hH0.same s3).mo⟩ (fun i σ H' _ ⟨_,_,_,_,h,_⟩=>SqL.of h) ?_ ?_
    · rintro i v σ H4 H5 hi ⟨v4,rfl,fr,hHi,hpi,hmo⟩ ⟨rfl,hv⟩
      obtain ⟨M,hM,rfl⟩:=cU hv
      have mt:=List.mem_of_getElem? hM
      obtain ⟨mM,hn⟩:=hmem M mt
      rw [List.length_map] at hi
      have hidi:M.m.id ∉ (ts.take i).map fun N=>N.m.id:=fun z=>by
        obtain ⟨N,mN,eN⟩:=List.mem_map.mp z
        obtain ⟨j,hj,ej⟩:=List.mem_iff_getElem.mp mN
        rw [List.length_take] at hj
        have hj1:j < ts.length:=by omega
        have ej':ts[j]=N:=by rw [<-ej,List.getElem_take]
        have hiM:ts[i]=M:=by
          have:=(List.getElem?_eq_some_iff.mp hM).2
          exact this
        have hne:=List.pairwise_iff_getElem.mp hids j i (by rw [List.length_map]; exact hj1) (by rw [List.length_map]; exact hi) (by omega)
        rw [List.getElem_map,List.getElem_map,ej',hiM] at hne
        exact hne eN
      have mMi:M ∈ zg x s.Ms (ts.take i):=Jc (ts.take i) mM hidi
      have Wi:Wf { s with Ms:=zg x s.Ms (ts.take i) } (ZX x S (ts.take i)):=Wf.Q4 (ts.take i) mx W (hids.sublist ((List.take_sublist _ _).map _)) fun N mN=>hmem N (List.mem_of_mem_take mN)
      obtain ⟨mdx,hm⟩:=hmo M mM
      have hla:=bL (hHi.ml M mMi)
      have hl100:=(W.okM mM).len
      refine ⟨_,rfl,aO hm T.aN T.cG rfl ⟨.inl ⟨rfl,_,SqL.of hla.2⟩,_,rfl,M.la,_,_,rfl,rfl,hla.2,by rw [aM]; omega,?_⟩⟩
      rw [nW]
      have hla0:H M.la ≠ none:=by
        have:=hH0.ml M mM
        rw [this]
        simp
      have npla:p ≠ M.la:=fun z=>hla0 (by rw [<-z]; exact hp0)
      refine ⟨_,rfl,fr.trans (Fr.upd hla.1),?_,by rw [ak npla]; exact hpi,fun N mN=> ?_⟩
      · rw [jK hla.1,take_snoc hM,Q0]
        refine hHi.JH Wi mMi _ (M.xs++[x]) fun N mN=> ?_
        by_cases e:N.m.id=M.m.id
        · rw [if_pos e,if_pos e,Wi.rel.CQ mMi mN e]
        · rw [if_neg e,if_neg e]
      · obtain ⟨dx,e⟩:=hmo N mN
        exact ⟨dx,by rw [ak (fun z=>by rw [z,hla.2] at e; cases e)]; exact e⟩
    · rintro σ H4 ⟨v4,rfl,fr,hHi,hpi,hmo⟩
      rw [List.length_map,List.take_length] at hHi
      refine ⟨_,rfl,p,rfl,⟨_,SqL.of hpi⟩,fun D hD=> ?_⟩
      refine eE (wkL (K:=K) (a:=p) (xs:=ts.map fun M=>V.ref M.a)) (fun H H' h s=>s.seq h) (SqL.of hpi) (by rw [List.length_map]; omega) hD (fun i=>(ts[i]?).map fun M=>V.int M.m.id) ?_ ?_
      · rintro i v H5 H6 Kt Kf hi sm2 ⟨rfl,hv2⟩ kt kf
        obtain ⟨M,hM,rfl⟩:=cU hv2
        obtain ⟨mdx,hm⟩:=hmo M (hmem M (List.mem_of_getElem? hM)).1
        refine ⟨rfl,_,rfl,aO (sm2 _ _ hm) T.aN T.jm rfl (kt _ _ ?_ (aC.refl _))⟩
        rw [hM]
        rfl
      · intro H5 s5 hl5
        rw [List.length_map,gB] at hl5
        rw [hfill] at k
        refine k H5 D { s with Ms:=zg x s.Ms ts } (fr.trans s5.fr) (hHi.same s5.off) rfl rfl (Wf.Q4 ts mx W hids hmem) ?_
        rw [hl5]
        unfold nats
        rw [List.map_map]
        rfl
abbrev tH:Stmt:=top 66
theorem oX:aG ["house", "arguments", "rows", "filled", "rank"] ["house", "arguments", "rows"] (aD tH):=⟨rfl,rfl,rfl,by decide +kernel,rfl,by decide +kernel,by decide +kernel⟩
def qM (p:Nat) (S:State):Nat->State × List Nat
 | 0=>(S,[])
 | i + 1=>((Vbaham.fillRank p i 4 (qM p S i).1).1,(qM p S i).2++(Vbaham.fillRank p i 4 (qM p S i).1).2)
theorem Jk (p:Nat) (S:State):∀ i,(qM p S i).2.length<=4 * i
 | 0=>Nat.le_refl _
 | i + 1=>by
  have h1:=Jk p S i
  have h2:=eU p i 4 (qM p S i).1
  show ((qM p S i).2++_).length<=_
  rw [List.length_append]
  omega
theorem Ko {f fl:Addr} {fd fdl:FuncData} (F:Fun K "call_fill" "call_fill" tH f fd) (T:cB w K mg C) (RK:Dv K mg) (uF:FnI P w K mg base "fill_rank" 11 fl fdl ["house", "leg", "rank"] (xJ C)):aY P w K mg base CX0 12 f fd ["house", "arguments", "rows"] (bZ C XC):=by
  refine F.ok oX (fun vs H Q E h=>bj h) (fun cdv A outer s H vs Q E hr h=> ?_)
  obtain ⟨Fm,s,S,c,fa,ra,fs,rs,rfl,hH,W,hF,hfa,hra,⟨x,mx,rfl,rfl⟩,k⟩:=h
  obtain ⟨aR,gR,hR⟩:=RK
  refine ⟨_,(ao (bG 3 oX.nd (aX (aa aB aq)))
      (ao (gq PassesOwn.never rfl (JZ (dz rfl gR)) (xg 4 oX.nd)
        (au (uX (IK PySem.F.plainAttrs_list PySem.F.slot_list_extend PySem.F.type_list_extend u5 (pv 3) (aa (aH uF (hr.mono (by decide)) (aa (pv 0) (aa (xl (pv 1) aB) (aa (pv 4) aq)))) aq)))))
      (au (aJ (pv 3))))),?_⟩
  have sz:1000 < sizeLine:=by decide
  refine ⟨(by show 1<=sizeLine; omega),fun q hq=> ?_⟩
  have s1:=aC.upd (o:= .lst [.int 0]) hq
  let F2:Addr->Bool:=fun b=>Fm b || b == q
  have f2q:F2 q=true:=by
    show (Fm q || q == q)=true
    rw [beq_self_eq_true,Bool.or_true]
  have f2of:∀ b,Fm b=true->F2 b=true:=fun b e=>by
    show (Fm b || b == q)=true
    rw [e,Bool.true_or]
  have f2n:∀ b,F2 b=false->Fm b=false:=fun b e=>(Bool.or_eq_false_iff.mp e).1
  have hH1:bx C (off F2 (upd H q (.lst [.int 0]))) s:=hH.same fun b u e=>by
    obtain ⟨e1,e2⟩:=bL e
    have hb:F2 b=false:=by
      show (Fm b || b == q)=false
      rw [e1,Bool.false_or,beq_eq_false_iff_ne]
      exact az e2 hq
    rw [bM hb]
    exact s1 _ _ e2
  refine ⟨aR,rfl,⟨_,hR _⟩,?_⟩
  refine gw (wkT (K:=K) (a:=aR) (xs:=[.int 0,.int 1,.int 2])) (fun i σ H'=>∃ (v4:Option V) (s':HS),σ = [some (.ref s.h),some (.ref fa),some (.ref ra),some (.ref q),v4]/\Fr Fm H H'/\bx C (off F2 H') s'/\s'.h=s.h/\s'.Lg=s.Lg/\Wf s' (qM x.p S i).1/\H' q=some (.lst (.int 0 :: nats (qM x.p S i).2)))
    ⟨none,s,rfl,s1.fr,hH1,rfl,rfl,W,aj⟩ (fun i σ H' _ _=>hR _) ?_ ?_
  · rintro i v σ H4 H5 hi ⟨v4,s',rfl,fr,hH',eh,el,W',hq'⟩ ⟨rfl,hv⟩
    obtain ⟨r,hr1,rfl,hr2⟩:=zW hv
    have eri:r=i:=by
      match i,hr1 with
      | 0,h=>cases h; rfl
      | 1,h=>cases h; rfl
      | 2,h=>cases h; rfl
    subst eri
    have hfa':=fr _ _ hF.2 hfa
    refine ⟨_,rfl,.inl ⟨rfl,_,SqL.of hq'⟩,_,rfl,_,rfl,fa,_,_,_,rfl,rfl,SqL.of hfa',aK (j:=0) rfl rfl,_,rfl,?_⟩
    refine ⟨F2,s',(qM x.p S r).1,x,r,by rw [eh]; rfl,hH',W',by rw [el]; exact mx,hr2,fun H6 q6 s6 fr6 hH6 eh6 el6 W6 hq6=> ?_⟩
    have hqq:=fr6 _ _ f2q hq'
    have hl1:=Jk x.p S r
    have hl2:=eU x.p r 4 (qM x.p S r).1
    refine ⟨q,q6,_,_,rfl,rfl,hqq,hq6,?_,?_⟩
    · rw [List.length_cons,nats_len',nats_len']
      omega
    refine ⟨_,s6,rfl,?_,?_,eh6.trans eh,el6.trans el,W6,?_⟩
    · intro b u fb e
      rw [ak (az e hq)]
      exact fr6 _ _ (f2of b fb) (fr _ _ fb e)
    · rw [Fb f2q]
      exact hH6
    · rw [aj,List.cons_append,Fe]
      rfl
  · rintro σ H2 ⟨v4,s',rfl,fr,hH',eh,el,W',hq'⟩
    refine ⟨_,rfl,?_⟩
    have st:Vbaham.step S (.fill x.p)=((qM x.p S 3).1,Vbaham.ok (qM x.p S 3).2):=by
      show Vbaham.onLeg S x.p _=_
      rw [onL W mx]
      rfl
    rw [st] at k
    refine k H2 q s' fr (hH'.same fun b u e=> ?_) eh W' ?_
    · obtain ⟨e1,e2⟩:=bL e
      rw [bM (f2n b e1)]
      exact e2
    · rw [ik]
      exact hq'
end
theorem Vm (c:List (List Int)):PyVbaham.whole c=c:=by
 unfold PyVbaham.whole
 split <;> rfl
theorem Ie (cs:List (List (List Int))):cs.map PyVbaham.whole=cs:=by
 rw [show PyVbaham.whole=id from funext Vm,List.map_id]
def Mx (rd:Addr) (H:Hp):Nat:=match H rd with
 | some (.ins _ _ (_ :: (_,.int k) :: _))=>k.toNat
 | _=>0
theorem Mw {C:Ads} {H:Hp} {rd ca:Addr} {a:Nat} (h:iU C H rd ca a):Mx rd H=a:=by
 obtain ⟨dx,e⟩:=h
 unfold Mx
 rw [e]
 rfl
theorem QT {f:Nat} {ns:List Int} {a:Nat} {cs:List (List (List Int))} (h:PyFlat.calls PyVbaham.shape f (ns.drop a)=some cs) (ha:a < ns.length) :
  ∃ f' c t cs',PyFlat.call PyVbaham.shape (ns.drop a)=some (c,t)/\PyFlat.calls PyVbaham.shape f' t=some cs'/\cs=c :: cs':=by
 rw [List.drop_eq_getElem_cons ha] at h ⊢
 cases f with
 | zero=>cases h
 | succ f =>
  unfold PyFlat.calls at h
  cases e:PyFlat.call PyVbaham.shape (ns[a] :: ns.drop (a + 1)) with
  | none=>rw [e] at h; cases h
  | some q =>
   obtain ⟨c,t⟩:=q
   rw [e] at h
   cases e2:PyFlat.calls PyVbaham.shape f t with
   | none=>simp only [e2] at h; cases h
   | some cs' =>
    simp only [e2] at h
    cases h
    exact ⟨f,c,t,cs',rfl,e2,rfl⟩
section
variable {P:Program} {w:World} {K:PySem.W.Frag} {mg:Str->Option Value} {base:Heap} {C:Ads} {D:Tbl} {A:Arg}
abbrev zU:Stmt:=top 97
theorem jX:aG ["calls", "house", "reader", "told", "answer"] ["calls"] (aD zU):=⟨rfl,rfl,rfl,by decide +kernel,rfl,by decide +kernel,by decide +kernel⟩
def wC (K:PySem.W.Frag):Sp:=fun vs H Q _=>∃ (a:Addr) (ns:List Int),vs=[.ref a]/\SqL K H a (aU ns)/\PyVbaham.answers_asked ns=true/\∀ (H':Hp) (p:Addr),H' p=some (.lst (aU (PyVbaham.answers ns)))->Q (.ref p) H'
theorem Qi {f fh fr fi fo fc:Addr} {fd fdh fdr fdi fdo fdc:FuncData} (F:Fun K "answers" "answers" zU f fd) (T:cB w K mg C) (Lj:MkI P w K mg base "House" C.ou 3 fh fdh ["self"] (vC C)) (Gr:MkI P w K mg base "Reader" C.reader 1 fr fdr ["self", "numbers"] (rQ C))
    (Bc:MtI P w K mg base C.reader "is_done" 1 fi fdi ["self"] (DW K C)) (uL:FnI P w K mg base "answer_of" 32 fo fdo ["house", "call"] (xO C D A)) (uC:FnI P w K mg base "read_call" 3 fc fdc ["reader"] (xF K C D))
    (GD:∀ s S,Wf s S->∀ p args rows,O3 D p args rows->Good A D s S p args rows):aY P w K mg base CX0 33 f fd ["calls"] (wC K):=by
  refine F.ok jX (fun vs H Q E h=> ?_) (fun cdv Ar outer s H vs Q E hr h=> ?_)
  · obtain ⟨_,_,rfl,_⟩:=h
    rfl
  · obtain ⟨ca,ns,rfl,hca,hask,k⟩:=h
    refine ⟨_,(ao (bG 1 jX.nd (TJ Lj (hr.mono (by decide))))
      (ao (bG 2 jX.nd (jj Gr (hr.mono (by decide)) (aa (pv 0) aq)))
      (ao (bG 3 jX.nd (aX aq))
      (ao (Mv PassesOwn.never (VJ (tQ (z7 (pv 2) T.cN Bc (hr.mono (by decide)))))
        (ao (bG 4 jX.nd (aH uL (hr.mono (by decide)) (aa (pv 1) (aa (aH uC (hr.mono (by decide)) (aa (pv 2) aq)) aq))))
        (ao (xap (pv 3) (aW bf (by rfl) T.iG PySem.boot_len (aa (pv 4) aq)))
        (au (uX (IK PySem.F.plainAttrs_list PySem.F.slot_list_extend PySem.F.type_list_extend u5 (pv 3) (aa (pv 4) aq)))))))
      (au (aJ (pv 3))))))),?_⟩
    have sz:1000000 < sizeLine:=by decide
    unfold PyVbaham.answers at k
    unfold PyVbaham.answers_asked at hask
    have hcs0:∃ cs,PyFlat.calls PyVbaham.shape ns.length ns=some cs/\PyVbaham.calls ns=some cs:=by
      cases e:PyFlat.calls PyVbaham.shape ns.length ns with
      | none =>
        have:PyVbaham.calls ns=none:=by unfold PyVbaham.calls; rw [e]
        rw [this] at hask
        cases hask
      | some cs=>exact ⟨cs,rfl,by unfold PyVbaham.calls; rw [e,<-Ie cs]; simp only [Ie]⟩
    obtain ⟨cs0,ecs,ecs2⟩:=hcs0
    rw [ecs2] at hask k
    have k:∀ (H':Hp) (p:Addr),H' p=some (.lst (aU (PyFlat.told (PyFlat.played VbahamNeutral.step VbahamNeutral.start cs0))))->Q (.ref p) H':=k
    have hask:(PyFlat.atMost 300 cs0 && VbahamNeutral.asked cs0)=true:=hask
    rw [Bool.and_eq_true] at hask
    have h300:cs0.length<=300:=of_decide_eq_true hask.1
    have hall0:cs0.all VbahamNeutral.asked1=true:=by
      have h2:=hask.2
      unfold VbahamNeutral.asked at h2
      rw [Bool.and_eq_true,Bool.and_eq_true] at h2
      exact h2.2.2
    refine fun hx hdx nhx nhd _=>⟨hx,hdx,rfl,aj,fun H1 s0 es0 hHo W0 b1=>⟨rfl,?_⟩⟩
    have s1:=made nhx nhd b1
    refine ⟨_,rfl,fun rd rdx nrd nrdx _=>⟨rd,rdx,ca,rfl,aj,fun H2 hrd2 b2=>⟨rfl,?_⟩⟩⟩
    have s2:=made nrd nrdx b2
    refine ⟨Nat.zero_le _,fun td ntd=> ?_⟩
    have s3:=aC.upd (o:= .lst []) ntd
    have s02:=s1.trans s2
    let Fm:Addr->Bool:=fun b=>b == rd || (b == td || (H b).isSome)
    have fRd:Fm rd=true:=by
      show (rd == rd || _)=true
      rw [beq_self_eq_true,Bool.true_or]
    have fTd:Fm td=true:=by
      show (td == rd || (td == td || _))=true
      rw [beq_self_eq_true,Bool.true_or,Bool.or_true]
    have fH:∀ b o,H b=some o->Fm b=true:=fun b o e=>by
      show (b == rd || (b == td || (H b).isSome))=true
      rw [e]
      simp
    have hHs:bx C (off Fm (upd H2 td (.lst []))) s0:=by
      have h1:=hHo (fun b=>(H b).isSome) fun b e=>by
        obtain ⟨o,eo⟩:=Option.isSome_iff_exists.mp e
        refine ⟨fun z=> ?_,az eo nhx⟩
        have:=Nq (C:=C.ou) nhx nhd _ _ eo
        rw [z] at this
        cases this
      refine h1.same fun b o e=> ?_
      obtain ⟨e1,e2⟩:=bL e
      have hb:Fm b=false:=by
        have x1:b ≠ rd:=az e2 nrd
        have x2:b ≠ td:=az (s2 _ _ e2) ntd
        show (b == rd || (b == td || (H b).isSome))=false
        rw [e1,beq_eq_false_iff_ne.mpr x1,beq_eq_false_iff_ne.mpr x2]
        rfl
      rw [bM hb]
      exact s3 _ _ (s2 _ _ e2)
    have hrd3:iU C (upd H2 td (.lst [])) rd ca 0:=by
      obtain ⟨dx,e⟩:=hrd2
      exact ⟨dx,s3 _ _ e⟩
    refine Lq (fun σ H'=>∃ (a fu:Nat) (cs:List (List (List Int))) (acc:List Int) (s:HS) (S:State) (v4:Option V),σ = [some (.ref ca),some (.ref hx),some (.ref rd),some (.ref td),v4]/\s.h=hx/\iU C H' rd ca a/\a<=ns.length /\
        PyFlat.calls PyVbaham.shape fu (ns.drop a)=some cs/\cs.all VbahamNeutral.asked1=true/\acc.length + 1001 * cs.length<=400000/\acc++PyFlat.told (PyFlat.played VbahamNeutral.step S cs)=PyFlat.told (PyFlat.played VbahamNeutral.step VbahamNeutral.start cs0) /\
        Wf s S/\bx C (off Fm H') s/\(∀ b,Fm b=true->H' b ≠ none)/\H' td=some (.lst (aU acc))/\(acc=[]\/∃ n r,acc=n :: r/\1<=n)/\∀ b o,H b=some o->H' b=some o) (fun _ H'=>ns.length - Mx rd H') ?_ ?_ ?_
    · refine ⟨0,ns.length,cs0,[],s0,Vbaham.start,none,rfl,es0,hrd3,Nat.zero_le _,ecs,hall0,by rw [List.length_nil]; omega,rfl,W0,hHs,fun b fb z=> ?_,aj,.inl rfl,s02.trans s3⟩
      rcases Bool.or_eq_true_iff.mp fb with q | q
      · have:b=rd:=by simpa using q
        obtain ⟨dx,e⟩:=hrd3
        rw [this,e] at z
        cases z
      rcases Bool.or_eq_true_iff.mp q with q | q
      · have:b=td:=by simpa using q
        rw [this,aj] at z
        cases z
      · obtain ⟨o,eo⟩:=Option.isSome_iff_exists.mp q
        rw [s3 _ _ (s02 _ _ eo)] at z
        cases z
    · rintro σ H' ⟨a,fu,cs,acc,s,S,v4,rfl,eh,hrd,hal,hcs,hall,hsz,hans,W,hH,hF,htd,hacc,hk0⟩
      have hk0:aC H H':=hk0
      obtain ⟨rdx',hrd'⟩:=hrd
      refine ⟨_,rfl,rd,rdx',_,rfl,hrd',rfl,rd,ca,a,ns,rfl,⟨rdx',hrd'⟩,hk0.seq hca,⟨_,rfl,?_⟩⟩
      show (fun b=>if (!b)=true then _ else _) (decide (ns.length<=a))
      by_cases hd:ns.length<=a
      · rw [decide_eq_true hd]
        refine bY ?_
        have e0:ns.drop a=[]:=List.drop_eq_nil_of_le hd
        rw [e0] at hcs
        have ecs0:cs=[]:=by
          unfold PyFlat.calls at hcs
          exact (Option.some.inj hcs).symm
        subst ecs0
        refine ⟨_,rfl,k H' td ?_⟩
        rw [htd,<-hans]
        show _=some (HO.lst (aU (acc++[])))
        rw [List.append_nil]
      · rw [decide_eq_false hd]
        refine bN ?_
        obtain ⟨fu',c,t,cs',hcall,hcs',rfl⟩:=QT hcs (by omega)
        rw [List.all_cons,Bool.and_eq_true] at hall
        refine ⟨_,rfl,_,rfl,rd,ca,a,ns,c,t,rfl,⟨rdx',hrd'⟩,hk0.seq hca,hcall,fun H3 kk p a' args rows ec et ha ha' hs1 hs2 hCall hrd3 bar=> ?_⟩
        have hH3:bx C (off Fm H3) s:=hH.same fun b o e=>by
          obtain ⟨e1,e2⟩:=bL e
          rw [bM e1]
          refine bar _ _ e2 fun z=> ?_
          rw [z,fRd] at e1
          cases e1
        have hF3:∀ b,Fm b=true->H3 b ≠ none:=fun b fb z=>by
          by_cases q:b=rd
          · obtain ⟨dx,e⟩:=hrd3
            rw [q,e] at z
            cases z
          · cases e:H' b with
            | none=>exact hF b fb e
            | some o =>
              rw [bar _ _ e q] at z
              cases z
        have hrows:∀ r ∈ rows,r.length<=100:=fun r mr=>by
          have h1:=hall.1
          unfold VbahamNeutral.asked1 at h1
          rw [Bool.and_eq_true,Bool.and_eq_true,List.all_eq_true] at h1
          have h2:=h1.2.2 r (by rw [ec]; exact List.mem_cons_of_mem _ mr)
          rw [Bool.and_eq_true,decide_eq_true_eq] at h2
          omega
        have hZ:O3 D p args rows:=⟨hs1,hs2,hrows⟩
        refine ⟨Fm,s,S,kk,p,args,rows,by rw [eh]; rfl,hH3,W,hF3,hCall Fm hF,hZ,GD s S W p args rows hZ,?_⟩
        intro H4 q s' fr hH4 eh4 W4 hq
        rw [<-ec] at hq W4
        obtain ⟨h0,t0,ea,hle,htl⟩:=W.ZW c
        have htd3:H3 td=some (.lst (aU acc)):=bar _ _ htd fun z=>by rw [z,hrd'] at htd; cases htd
        have htd4:=fr _ _ fTd htd3
        have hqtd:q ≠ td:=fun z=>by
          rw [z,htd4,ea] at hq
          injection hq with e
          injection e with e
          rcases hacc with e2 | ⟨n,r,e2,hn⟩
          · rw [e2] at e; cases e
          · rw [e2] at e
            injection e with e _
            injection e with e
            omega
        have hal4:((Vbaham.stepRows S c).2).length<=1000:=by
          rw [ea,List.length_cons]
          omega
        generalize hans4:(Vbaham.stepRows S c).2=ans at hq ea hal4
        rw [List.length_cons] at hsz
        refine ⟨_,rfl,.inl ⟨rfl,_,SqL.of htd4⟩,_,rfl,q,_,rfl,.inl (SqL.of hq),td,_,_,rfl,rfl,htd4,by rw [bw]; omega,?_⟩
        have hq5:(upd H4 td (.lst (aU acc++[.int ((ans.map V.int).length:Nat)]))) q=some (.lst (ans.map V.int)):=by rw [ak hqtd]; exact hq
        refine ⟨_,rfl,.inl ⟨rfl,_,SqL.of aj⟩,_,rfl,td,q,_,_,rfl,rfl,aj,hq5,?_,?_⟩
        · rw [List.length_append,bw,List.length_map]
          show _ + 1 + _<=_
          omega
        have eacc:aU acc++[.int ((ans.map V.int).length:Nat)]++ans.map V.int=aU (acc++((ans.length:Int) :: ans)):=by
          unfold aU
          rw [List.length_map,List.append_assoc,List.map_append]
          rfl
        rw [eacc]
        obtain ⟨dx3,hrdE⟩:=hrd3
        have hrd4:=fr _ _ fRd hrdE
        have ndtd:rd ≠ td:=fun z=>by rw [z,htd4] at hrd4; cases hrd4
        have hrd6:iU C (upd (upd H4 td (.lst (aU acc++[.int ((ans.map V.int).length:Nat)]))) td (.lst (aU (acc++((ans.length:Int) :: ans))))) rd ca a':=⟨dx3,by rw [ak ndtd,ak ndtd]; exact hrd4⟩
        refine ⟨⟨a',fu',cs',acc++((ans.length:Int) :: ans),s',(Vbaham.stepRows S c).1,_,rfl,eh4.trans eh,hrd6,ha',by rw [<-et]; exact hcs',hall.2,?_,?_,W4,?_,fun b fb z=> ?_,aj,.inr ?_,fun b o e=> ?_⟩,?_⟩
        · rw [List.length_append,List.length_cons]
          omega
        · rw [<-hans]
          show _=acc++(((VbahamNeutral.step S c).2.length:Int) :: (VbahamNeutral.step S c).2++PyFlat.told (PyFlat.played VbahamNeutral.step (VbahamNeutral.step S c).1 cs'))
          have e1:(VbahamNeutral.step S c).2=ans:=hans4
          rw [e1,List.append_assoc]
          rfl
        · rw [Fb fTd,Fb fTd]
          exact hH4
        · by_cases q1:b=td
          · rw [q1,aj] at z
            cases z
          · rw [ak q1,ak q1] at z
            cases e:H3 b with
            | none=>exact hF3 b fb e
            | some o =>
              rw [fr _ _ fb e] at z
              cases z
        · rcases hacc with e2 | ⟨n,r,e2,hn⟩
          · exact ⟨_,_,by rw [e2]; rfl,by rw [ea,List.length_cons]; omega⟩
          · exact ⟨n,_,by rw [e2]; rfl,hn⟩
        · have hb1:b ≠ td:=az (s02 _ _ e) ntd
          have hb2:b ≠ rd:=az (s1 _ _ e) nrd
          rw [ak hb1,ak hb1]
          exact fr _ _ (fH b o e) (bar _ _ (hk0 _ _ e) hb2)
        · show ns.length - Mx rd _ < ns.length - Mx rd H'
          rw [Mw hrd6,Mw (C:=C) ⟨rdx',hrd'⟩]
          omega
    · rintro σ H' Q1 Q2 hQ ⟨v,e1,a1,d1,f1,e2,e3,e4,rd1,ca1,a2,ns2,e5,e6,e7,b1,e8,e9⟩
      exact ⟨v,e1,a1,d1,f1,e2,e3,e4,rd1,ca1,a2,ns2,e5,e6,e7,b1,e8,hQ _ _ e9⟩
end
def D0:Tbl where
 args:=[["turn", "gap", "margin", "margin", "rest", "days"],["airport", "airport", "moment", "moment"],["newcomer", "airport", "rank"],["member", "leg"],["member", "leg"],["member"],["member", "member", "moment"],["leg", "shift"],["leg", "rank"],["leg"],["member", "moment", "span"],["member", "span"],["member"],["member"],[],["member"],["leg"]]
 rows:=[["longest", "windows"],["needs"],[],[],[],[],[],[],[],[],[],[],[],[],[],[],[]]
 ranges:=[("member",1,1000000000),("newcomer",1,1000000000),("leg",1,60),("airport",0,17575),("rank",0,2),("moment",0,10000000),("span",0,10000000),("shift",-1440,1440),("turn",0,300),("gap",300,1440),("margin",0,180),("rest",0,2880),("days",1,30),("length",0,1440),("stretch",60,60000),("most",0,60000),("need",0,4)]
 lens:=[("longest",[8]),("windows",[0,2,4,6,8]),("needs",[3])]
 sorts:=[("longest",["length"]),("windows",["stretch", "most"]),("needs",["need"])]
def A0:Arg:=fun p=>match p with
 | 0=>SX
 | 1=>aak
 | 2=>Pb
 | 3=>Pj
 | 4=>GR
 | 5=>S6
 | 6=>Xx
 | 7=>S5
 | 8=>Xz
 | 9=>XC
 | 10=>Pg
 | 11=>SN
 | 12=>Pa
 | 13=>Ph
 | 14=>Xy
 | 15=>aaj
 | 16=>SQ
 | _=>fun _ _ _ _=>False
theorem aaE:Sy D0:=by
 intro z n k h
 unfold PyVbaham.shape at h
 by_cases c0:z=0
 ·rw [if_pos c0] at h
  cases h
  exact ⟨0,c0,⟨_,rfl,rfl,by decide⟩,⟨_,rfl,rfl,by decide⟩⟩
 rw [if_neg c0] at h
 by_cases c1:z=1
 ·rw [if_pos c1] at h
  cases h
  exact ⟨1,c1,⟨_,rfl,rfl,by decide⟩,⟨_,rfl,rfl,by decide⟩⟩
 rw [if_neg c1] at h
 by_cases c2:z=2
 ·rw [if_pos c2] at h
  cases h
  exact ⟨2,c2,⟨_,rfl,rfl,by decide⟩,⟨_,rfl,rfl,by decide⟩⟩
 rw [if_neg c2] at h
 by_cases c3:z=3
 ·rw [if_pos c3] at h
  cases h
  exact ⟨3,c3,⟨_,rfl,rfl,by decide⟩,⟨_,rfl,rfl,by decide⟩⟩
 rw [if_neg c3] at h
 by_cases c4:z=4
 ·rw [if_pos c4] at h
  cases h
  exact ⟨4,c4,⟨_,rfl,rfl,by decide⟩,⟨_,rfl,rfl,by decide⟩⟩
 rw [if_neg c4] at h
 by_cases c5:z=5
 ·rw [if_pos c5] at h
  cases h
  exact ⟨5,c5,⟨_,rfl,rfl,by decide⟩,⟨_,rfl,rfl,by decide⟩⟩
 rw [if_neg c5] at h
 by_cases c6:z=6
 ·rw [if_pos c6] at h
  cases h
  exact ⟨6,c6,⟨_,rfl,rfl,by decide⟩,⟨_,rfl,rfl,by decide⟩⟩
 rw [if_neg c6] at h
 by_cases c7:z=7
 ·rw [if_pos c7] at h
  cases h
  exact ⟨7,c7,⟨_,rfl,rfl,by decide⟩,⟨_,rfl,rfl,by decide⟩⟩
 rw [if_neg c7] at h
 by_cases c8:z=8
 ·rw [if_pos c8] at h
  cases h
  exact ⟨8,c8,⟨_,rfl,rfl,by decide⟩,⟨_,rfl,rfl,by decide⟩⟩
 rw [if_neg c8] at h
 by_cases c9:z=9
 ·rw [if_pos c9] at h
  cases h
  exact ⟨9,c9,⟨_,rfl,rfl,by decide⟩,⟨_,rfl,rfl,by decide⟩⟩
 rw [if_neg c9] at h
 by_cases c10:z=10
 ·rw [if_pos c10] at h
  cases h
  exact ⟨10,c10,⟨_,rfl,rfl,by decide⟩,⟨_,rfl,rfl,by decide⟩⟩
 rw [if_neg c10] at h
 by_cases c11:z=11
 ·rw [if_pos c11] at h
  cases h
  exact ⟨11,c11,⟨_,rfl,rfl,by decide⟩,⟨_,rfl,rfl,by decide⟩⟩
 rw [if_neg c11] at h
 by_cases c12:z=12
 ·rw [if_pos c12] at h
  cases h
  exact ⟨12,c12,⟨_,rfl,rfl,by decide⟩,⟨_,rfl,rfl,by decide⟩⟩
 rw [if_neg c12] at h
 by_cases c13:z=13
 ·rw [if_pos c13] at h
  cases h
  exact ⟨13,c13,⟨_,rfl,rfl,by decide⟩,⟨_,rfl,rfl,by decide⟩⟩
 rw [if_neg c13] at h
 by_cases c14:z=14
 ·rw [if_pos c14] at h
  cases h
  exact ⟨14,c14,⟨_,rfl,rfl,by decide⟩,⟨_,rfl,rfl,by decide⟩⟩
 rw [if_neg c14] at h
 by_cases c15:z=15
 ·rw [if_pos c15] at h
  cases h
  exact ⟨15,c15,⟨_,rfl,rfl,by decide⟩,⟨_,rfl,rfl,by decide⟩⟩
 rw [if_neg c15] at h
 by_cases c16:z=16
 ·rw [if_pos c16] at h
  cases h
  exact ⟨16,c16,⟨_,rfl,rfl,by decide⟩,⟨_,rfl,rfl,by decide⟩⟩
 rw [if_neg c16] at h
 cases h
theorem tbl0:aai D0:=by
 have h1:(D0.args.all fun l=>l.all fun x=>(D0.ranges.lookup x).isSome)=true:=by decide +kernel
 have h2:(D0.rows.all fun l=>l.all fun x=>(D0.lens.lookup x).isSome && (match D0.sorts.lookup x with
  | some ss => !ss.isEmpty && ss.all fun y=>(D0.ranges.lookup y).isSome
  | none=>false))=true:=by decide +kernel
 rw [List.all_eq_true] at h1 h2
 refine ⟨fun l ml x mx=> ?_,fun l ml x mx=> ?_⟩
 ·have:=h1 l ml
  rw [List.all_eq_true] at this
  exact this x mx
 ·have:=h2 l ml
  rw [List.all_eq_true] at this
  have q:=this x mx
  rw [Bool.and_eq_true] at q
  refine ⟨q.1,?_⟩
  cases e:D0.sorts.lookup x with
  | none=>rw [e] at q; exact absurd q.2 (by simp)
  | some ss =>
   rw [e] at q
   have q2:=q.2
   simp only [Bool.and_eq_true] at q2
   refine ⟨ss,rfl,fun z=>by rw [z] at q2; exact absurd q2.1 (by decide),?_⟩
   rw [List.all_eq_true] at q2
   exact q2.2
theorem vz {D:Tbl} {x:Str} {lo hi:Nat} (e:D.ranges.lookup x=some ((lo:Int),(hi:Int))) (z:Int):inR D x z=(Vbaham.within lo hi z).isSome:=by
 unfold inR Vbaham.within
 rw [e]
 show (decide ((lo:Int)<=z) && decide (z<=(hi:Int)))=_
 by_cases c:(lo:Int)<=z/\z<=(hi:Int)
 ·rw [if_pos c,decide_eq_true c.1,decide_eq_true c.2]
  rfl
 ·rw [if_neg c]
  by_cases c1:(lo:Int)<=z
  ·rw [decide_eq_true c1,decide_eq_false (fun c2=>c ⟨c1,c2⟩)]
   rfl
  ·rw [decide_eq_false c1]
   rfl
theorem bz {lo hi:Nat} {z:Int} {n:Nat} (h:Vbaham.within lo hi z=some n):z=(n:Int)/\lo<=n/\n<=hi:=by
 unfold Vbaham.within at h
 split at h
 ·rename_i c
  have e:=Option.some.inj h
  omega
 ·cases h
theorem dM (z:Int):inR D0 "member" z=(Vbaham.idOf z).isSome:=vz (lo:=1) (hi:=1000000000) (by decide +kernel) z
theorem Mr (z:Int):inR D0 "newcomer" z=(Vbaham.idOf z).isSome:=vz (lo:=1) (hi:=1000000000) (by decide +kernel) z
theorem zV (z:Int):inR D0 "leg" z=(Vbaham.placeOf z).isSome:=vz (lo:=1) (hi:=60) (by decide +kernel) z
theorem wM (z:Int):inR D0 "airport" z=(Vbaham.airportOf z).isSome:=vz (lo:=0) (hi:=17575) (by decide +kernel) z
theorem Rw (z:Int):inR D0 "rank" z=(Vbaham.rankOf z).isSome:=vz (lo:=0) (hi:=2) (by decide +kernel) z
theorem uU (z:Int):inR D0 "moment" z=(Vbaham.momentOf z).isSome:=vz (lo:=0) (hi:=10000000) (by decide +kernel) z
theorem Rv (z:Int):inR D0 "span" z=(Vbaham.within 0 Vbaham.LATE z).isSome:=vz (lo:=0) (hi:=10000000) (by decide +kernel) z
theorem Yr (z:Int):inR D0 "turn" z=(Vbaham.within 0 300 z).isSome:=vz (lo:=0) (hi:=300) (by decide +kernel) z
theorem aaF (z:Int):inR D0 "gap" z=(Vbaham.within 300 1440 z).isSome:=vz (lo:=300) (hi:=1440) (by decide +kernel) z
theorem Ir (z:Int):inR D0 "margin" z=(Vbaham.within 0 180 z).isSome:=vz (lo:=0) (hi:=180) (by decide +kernel) z
theorem Ys (z:Int):inR D0 "rest" z=(Vbaham.within 0 2880 z).isSome:=vz (lo:=0) (hi:=2880) (by decide +kernel) z
theorem Yv (z:Int):inR D0 "days" z=(Vbaham.within 1 30 z).isSome:=vz (lo:=1) (hi:=30) (by decide +kernel) z
theorem Tv (z:Int):inR D0 "length" z=(Vbaham.within 0 1440 z).isSome:=vz (lo:=0) (hi:=1440) (by decide +kernel) z
theorem Ei (z:Int):inR D0 "stretch" z=(Vbaham.within 60 60000 z).isSome:=vz (lo:=60) (hi:=60000) (by decide +kernel) z
theorem Yu (z:Int):inR D0 "most" z=(Vbaham.within 0 60000 z).isSome:=vz (lo:=0) (hi:=60000) (by decide +kernel) z
theorem Yt (z:Int):inR D0 "need" z=(Vbaham.within 0 4 z).isSome:=vz (lo:=0) (hi:=4) (by decide +kernel) z
def fM (s:HS) (z:Int):Option MB:=s.Ms.find? fun M=>decide ((M.m.id:Int)=z)
def fL (s:HS) (z:Int):Option LG:=s.Lg[z.toNat - 1]?
theorem Fx (s:HS) (z:Int):aP s "member" z=V8 (fM s z):=by
 unfold aP
 rw [if_pos rfl]
 rfl
theorem Qt (s:HS) (z:Int):aP s "leg" z=Wa (fL s z):=by
 unfold aP
 rw [if_neg (by decide +kernel),if_pos rfl]
 rfl
theorem oA (s:HS) {x:Str} (z:Int) (h1:x ≠ "member") (h2:x ≠ "leg"):aP s x z = .int z:=by
 unfold aP
 rw [if_neg h1,if_neg h2]
theorem V7 (o:Option MB):decide (V8 o = .non)=o.isNone:=by cases o <;> rfl
theorem V9 (o:Option LG):decide (Wa o = .non)=o.isNone:=by cases o <;> rfl
theorem ud (s:HS) (k x:Str) (z:Int) (ss:List Str) (as:List Int):(aZ s (x :: ss) (z :: as)).contains k=((decide (aP s x z = .non) && k == x) || (aZ s ss as).contains k):=by
 have e:aZ s (x :: ss) (z :: as)=if decide (aP s x z = .non)=true then x :: aZ s ss as else aZ s ss as:=by
  unfold aZ dg
  rw [List.zip_cons_cons,List.map_cons,List.zip_cons_cons,List.filter_cons]
  split <;> rfl
 rw [e]
 cases decide (aP s x z = .non) with
 | true=>rw [if_pos rfl,List.contains_cons,Bool.true_and]
 | false=>rw [if_neg (by decide),Bool.false_and,Bool.false_or]
theorem HH (s:HS) (z:Int) (ss:List Str) (as:List Int):(aZ s ("member" :: ss) (z :: as)).contains "member" = ((fM s z).isNone || (aZ s ss as).contains "member"):=by
 rw [ud,Fx,V7,show (("member" : Str) == "member")=true by decide +kernel,Bool.and_true]
theorem T8 (s:HS) (z:Int) (ss:List Str) (as:List Int):(aZ s ("leg" :: ss) (z :: as)).contains "member" = (aZ s ss as).contains "member" := by
 rw [ud,show (("member" : Str) == "leg")=false by decide +kernel,Bool.and_false,Bool.false_or]
theorem HJ (s:HS) (z:Int) (ss:List Str) (as:List Int):(aZ s ("member" :: ss) (z :: as)).contains "leg" = (aZ s ss as).contains "leg" := by
 rw [ud,show (("leg" : Str) == "member")=false by decide +kernel,Bool.and_false,Bool.false_or]
theorem T9 (s:HS) (z:Int) (ss:List Str) (as:List Int):(aZ s ("leg" :: ss) (z :: as)).contains "leg" = ((fL s z).isNone || (aZ s ss as).contains "leg"):=by
 rw [ud,Qt,V9,show (("leg" : Str) == "leg")=true by decide +kernel,Bool.and_true]
theorem fQ (s:HS) {k x:Str} (z:Int) (ss:List Str) (as:List Int) (h1:x ≠ "member") (h2:x ≠ "leg"):(aZ s (x :: ss) (z :: as)).contains k=(aZ s ss as).contains k:=by
 rw [ud,oA s z h1 h2]
 rfl
theorem fG (s:HS) (k:Str):(aZ s [] []).contains k=false:=rfl
def fB (l:List (Str × Int)):Prop:=∀ q ∈ l,q.1 = "leg" -> 1<=q.2
theorem tZ:fB []:=fun q m=>by cases m
theorem ir {x:Str} {z:Int} {l:List (Str × Int)} (h:x ≠ "leg") (t:fB l):fB ((x,z) :: l):=fun q m e=>by
 rcases List.mem_cons.mp m with rfl | m
 ·exact absurd e h
 ·exact t q m e
theorem Uc {x:Str} {z:Int} {l:List (Str × Int)} (h:1<=z) (t:fB l):fB ((x,z) :: l):=fun q m e=>by
 rcases List.mem_cons.mp m with rfl | m
 ·exact h
 ·exact t q m e
section
variable {s:HS} {S:State}
theorem dN (W:Wf s S) (n:Nat):(fM s (n:Int)=none/\Vbaham.memberOf S n=none)\/∃ M ∈ s.Ms,M.m.id=n/\fM s (n:Int)=some M:=by
 have e:fM s (n:Int)=s.Ms.find? fun M=>M.m.id == n:=by
  unfold fM
  congr 1
  funext M
  rw [Bool.eq_iff_iff,decide_eq_true_eq,beq_iff_eq]
  omega
 cases h:s.Ms.find? fun M=>M.m.id == n with
 | none=>exact .inl ⟨e.trans h,by rw [W.rel.memberOf,h]; rfl⟩
 | some M=>exact .inr ⟨M,List.mem_of_find?_eq_some h,by simpa using List.find?_some h,e.trans h⟩
theorem jN (W:Wf s S) (n:Nat) (hn:1<=n):(fL s (n:Int)=none/\Vbaham.legAt S n=none)\/∃ x ∈ s.Lg,x.p=n/\fL s (n:Int)=some x:=by
 have e:fL s (n:Int)=s.Lg[n - 1]? := rfl
 cases h:s.Lg[n - 1]? with
 | none=>exact .inl ⟨e.trans h,by rw [W.rel.Wo hn,h]; rfl⟩
 | some x=>exact .inr ⟨x,List.mem_of_getElem? h,by have:=W.rel.plc _ _ h; omega,e.trans h⟩
theorem mX {n:Nat} (h:Vbaham.memberOf S n=none) (f:Member->State × List Int):Vbaham.onMember S n f=(S,[-3]):=by
 unfold Vbaham.onMember
 rw [h]
theorem z9 {n:Nat} (h:Vbaham.legAt S n=none) (f:Leg->State × List Int):Vbaham.onLeg S n f=(S,[-7]):=by
 unfold Vbaham.onLeg
 rw [h]
theorem abj (W:Wf s S) (z0 z1 z2:Int):Good A0 D0 s S 2 [z0,z1,z2] []:=by
 have er:bU D0 2 [z0,z1,z2] []=((inR D0 "newcomer" z0 && (inR D0 "airport" z1 && (inR D0 "rank" z2 && true))) && true):=rfl
 have es:Vbaham.read ((((2:Nat):Int) :: [z0,z1,z2]) :: [])=Vbaham.ranged (do return .member { id:=(<- Vbaham.idOf z0),base:=(<- Vbaham.airportOf z1),rank:=(<- Vbaham.rankOf z2) }):=rfl
 rw [Mr z0,wM z1,Rw z2,Bool.and_true,Bool.and_true] at er
 cases h0:Vbaham.idOf z0 with
 | none =>
  refine ⟨fun _=> ?_,fun h=> ?_⟩
  ·unfold Vbaham.stepRows
   rw [es,h0]
   rfl
  ·rw [er,h0] at h
   simp at h
 | some n0 =>
  cases h1:Vbaham.airportOf z1 with
  | none =>
   refine ⟨fun _=> ?_,fun h=> ?_⟩
   ·unfold Vbaham.stepRows
    rw [es,h0,h1]
    rfl
   ·rw [er,h0,h1] at h
    simp at h
  | some n1 =>
   cases h2:Vbaham.rankOf z2 with
   | none =>
    refine ⟨fun _=> ?_,fun h=> ?_⟩
    ·unfold Vbaham.stepRows
     rw [es,h0,h1,h2]
     rfl
    ·rw [er,h0,h1,h2] at h
     simp at h
   | some n2 =>
    obtain ⟨e0,l0,u0⟩:=bz h0
    obtain ⟨e1,l1,u1⟩:=bz h1
    obtain ⟨e2,l2,u2⟩:=bz h2
    refine ⟨fun h=> ?_,fun _=>⟨(show fB [("newcomer",z0),("airport",z1),("rank",z2)] from (ir (by decide +kernel) (ir (by decide +kernel) (ir (by decide +kernel) tZ)))),.member { id:=n0,base:=n1,rank:=n2 },?_,?_⟩⟩
    ·rw [er,h0,h1,h2] at h
     simp at h
    ·unfold Vbaham.stepRows
     rw [es,h0,h1,h2]
     rfl
    ·show if (aZ s ["newcomer", "airport", "rank"] [z0,z1,z2]).contains "member" = true then _ else if (aZ s ["newcomer", "airport", "rank"] [z0,z1,z2]).contains "leg" = true then _ else _
     rw [fQ s _ _ _ (by decide +kernel) (by decide +kernel),fQ s _ _ _ (by decide +kernel) (by decide +kernel),fQ s _ _ _ (by decide +kernel) (by decide +kernel),fG,fQ s _ _ _ (by decide +kernel) (by decide +kernel),fQ s _ _ _ (by decide +kernel) (by decide +kernel),fQ s _ _ _ (by decide +kernel) (by decide +kernel),fG]
     rw [if_neg (by decide),if_neg (by decide)]
     refine ⟨_,rfl,?_,u2⟩
     show [aP s "newcomer" z0,aP s "airport" z1,aP s "rank" z2]=_
     rw [oA s _ (by decide +kernel) (by decide +kernel),oA s _ (by decide +kernel) (by decide +kernel),oA s _ (by decide +kernel) (by decide +kernel),e0,e1,e2]
theorem abi (W:Wf s S) (z0 z1:Int):Good A0 D0 s S 3 [z0,z1] []:=by
 have er:bU D0 3 [z0,z1] []=((inR D0 "member" z0 && (inR D0 "leg" z1 && true)) && true):=rfl
 have es:Vbaham.read ((((3:Nat):Int) :: [z0,z1]) :: [])=Vbaham.ranged (do return .assign (<- Vbaham.idOf z0) (<- Vbaham.placeOf z1)):=rfl
 rw [dM z0,zV z1,Bool.and_true,Bool.and_true] at er
 cases h0:Vbaham.idOf z0 with
 | none =>
  refine ⟨fun _=> ?_,fun h=> ?_⟩
  ·unfold Vbaham.stepRows
   rw [es,h0]
   rfl
  ·rw [er,h0] at h
   simp at h
 | some n0 =>
  cases h1:Vbaham.placeOf z1 with
  | none =>
   refine ⟨fun _=> ?_,fun h=> ?_⟩
   ·unfold Vbaham.stepRows
    rw [es,h0,h1]
    rfl
   ·rw [er,h0,h1] at h
    simp at h
  | some n1 =>
   obtain ⟨e0,l0,u0⟩:=bz h0
   obtain ⟨e1,l1,u1⟩:=bz h1
   refine ⟨fun h=> ?_,fun _=>⟨(show fB [("member",z0),("leg",z1)] from (ir (by decide +kernel) (Uc (by omega) tZ))),.assign n0 n1,?_,?_⟩⟩
   ·rw [er,h0,h1] at h
    simp at h
   ·unfold Vbaham.stepRows
    rw [es,h0,h1]
    rfl
   ·show if (aZ s ["member", "leg"] [z0,z1]).contains "member" = true then _ else if (aZ s ["member", "leg"] [z0,z1]).contains "leg" = true then _ else _
    rw [HH,T8,fG,HJ,T9,fG]
    rw [e0,e1]
    rcases dN W n0 with ⟨f0,g0⟩ | ⟨M0,m0,i0,f0⟩
    ·rw [f0,if_pos (by simp)]
     exact mX g0 _
    rcases jN W n1 l1 with ⟨f1,g1⟩ | ⟨x1,m1,i1,f1⟩
    ·rw [f0,f1,if_neg (by simp),if_pos (by simp)]
     show Vbaham.onMember S n0 _=_
     rw [<-i0,onM W m0]
     exact z9 g1 _
    rw [f0,f1,if_neg (by simp),if_neg (by simp)]
    refine ⟨M0,m0,x1,m1,by rw [i0,i1],?_⟩
    show [aP s "member" (n0:Int),aP s "leg" (n1:Int)]=_
    rw [Fx s (n0:Int),f0,Qt s (n1:Int),f1]
    rfl
theorem abh (W:Wf s S) (z0 z1:Int):Good A0 D0 s S 4 [z0,z1] []:=by
 have er:bU D0 4 [z0,z1] []=((inR D0 "member" z0 && (inR D0 "leg" z1 && true)) && true):=rfl
 have es:Vbaham.read ((((4:Nat):Int) :: [z0,z1]) :: [])=Vbaham.ranged (do return .unassign (<- Vbaham.idOf z0) (<- Vbaham.placeOf z1)):=rfl
 rw [dM z0,zV z1,Bool.and_true,Bool.and_true] at er
 cases h0:Vbaham.idOf z0 with
 | none =>
  refine ⟨fun _=> ?_,fun h=> ?_⟩
  ·unfold Vbaham.stepRows
   rw [es,h0]
   rfl
  ·rw [er,h0] at h
   simp at h
 | some n0 =>
  cases h1:Vbaham.placeOf z1 with
  | none =>
   refine ⟨fun _=> ?_,fun h=> ?_⟩
   ·unfold Vbaham.stepRows
    rw [es,h0,h1]
    rfl
   ·rw [er,h0,h1] at h
    simp at h
  | some n1 =>
   obtain ⟨e0,l0,u0⟩:=bz h0
   obtain ⟨e1,l1,u1⟩:=bz h1
   refine ⟨fun h=> ?_,fun _=>⟨(show fB [("member",z0),("leg",z1)] from (ir (by decide +kernel) (Uc (by omega) tZ))),.unassign n0 n1,?_,?_⟩⟩
   ·rw [er,h0,h1] at h
    simp at h
   ·unfold Vbaham.stepRows
    rw [es,h0,h1]
    rfl
   ·show if (aZ s ["member", "leg"] [z0,z1]).contains "member" = true then _ else if (aZ s ["member", "leg"] [z0,z1]).contains "leg" = true then _ else _
    rw [HH,T8,fG,HJ,T9,fG]
    rw [e0,e1]
    rcases dN W n0 with ⟨f0,g0⟩ | ⟨M0,m0,i0,f0⟩
    ·rw [f0,if_pos (by simp)]
     exact mX g0 _
    rcases jN W n1 l1 with ⟨f1,g1⟩ | ⟨x1,m1,i1,f1⟩
    ·rw [f0,f1,if_neg (by simp),if_pos (by simp)]
     show Vbaham.onMember S n0 _=_
     rw [<-i0,onM W m0]
     exact z9 g1 _
    rw [f0,f1,if_neg (by simp),if_neg (by simp)]
    refine ⟨M0,m0,x1,m1,by rw [i0,i1],?_⟩
    show [aP s "member" (n0:Int),aP s "leg" (n1:Int)]=_
    rw [Fx s (n0:Int),f0,Qt s (n1:Int),f1]
    rfl
theorem abg (W:Wf s S) (z0:Int):Good A0 D0 s S 5 [z0] []:=by
 have er:bU D0 5 [z0] []=((inR D0 "member" z0 && true) && true):=rfl
 have es:Vbaham.read ((((5:Nat):Int) :: [z0]) :: [])=Vbaham.ranged (do return .check (<- Vbaham.idOf z0)):=rfl
 rw [dM z0,Bool.and_true,Bool.and_true] at er
 cases h0:Vbaham.idOf z0 with
 | none =>
  refine ⟨fun _=> ?_,fun h=> ?_⟩
  ·unfold Vbaham.stepRows
   rw [es,h0]
   rfl
  ·rw [er,h0] at h
   simp at h
 | some n0 =>
  obtain ⟨e0,l0,u0⟩:=bz h0
  refine ⟨fun h=> ?_,fun _=>⟨(show fB [("member",z0)] from (ir (by decide +kernel) tZ)),.check n0,?_,?_⟩⟩
  ·rw [er,h0] at h
   simp at h
  ·unfold Vbaham.stepRows
   rw [es,h0]
   rfl
  ·show if (aZ s ["member"] [z0]).contains "member" = true then _ else if (aZ s ["member"] [z0]).contains "leg" = true then _ else _
   rw [HH,fG,HJ,fG]
   rw [e0]
   rcases dN W n0 with ⟨f0,g0⟩ | ⟨M0,m0,i0,f0⟩
   ·rw [f0,if_pos (by simp)]
    exact mX g0 _
   rw [f0,if_neg (by simp),if_neg (by simp)]
   refine ⟨M0,m0,by rw [i0],?_⟩
   show [aP s "member" (n0:Int)]=_
   rw [Fx s (n0:Int),f0]
   rfl
theorem abf (W:Wf s S) (z0 z1 z2:Int):Good A0 D0 s S 6 [z0,z1,z2] []:=by
 have er:bU D0 6 [z0,z1,z2] []=((inR D0 "member" z0 && (inR D0 "member" z1 && (inR D0 "moment" z2 && true))) && true):=rfl
 have es:Vbaham.read ((((6:Nat):Int) :: [z0,z1,z2]) :: [])=Vbaham.ranged (do return .swap (<- Vbaham.idOf z0) (<- Vbaham.idOf z1) (<- Vbaham.momentOf z2)):=rfl
 rw [dM z0,dM z1,uU z2,Bool.and_true,Bool.and_true] at er
 cases h0:Vbaham.idOf z0 with
 | none =>
  refine ⟨fun _=> ?_,fun h=> ?_⟩
  ·unfold Vbaham.stepRows
   rw [es,h0]
   rfl
  ·rw [er,h0] at h
   simp at h
 | some n0 =>
  cases h1:Vbaham.idOf z1 with
  | none =>
   refine ⟨fun _=> ?_,fun h=> ?_⟩
   ·unfold Vbaham.stepRows
    rw [es,h0,h1]
    rfl
   ·rw [er,h0,h1] at h
    simp at h
  | some n1 =>
   cases h2:Vbaham.momentOf z2 with
   | none =>
    refine ⟨fun _=> ?_,fun h=> ?_⟩
    ·unfold Vbaham.stepRows
     rw [es,h0,h1,h2]
     rfl
    ·rw [er,h0,h1,h2] at h
     simp at h
   | some n2 =>
    obtain ⟨e0,l0,u0⟩:=bz h0
    obtain ⟨e1,l1,u1⟩:=bz h1
    obtain ⟨e2,l2,u2⟩:=bz h2
    refine ⟨fun h=> ?_,fun _=>⟨(show fB [("member",z0),("member",z1),("moment",z2)] from (ir (by decide +kernel) (ir (by decide +kernel) (ir (by decide +kernel) tZ)))),.swap n0 n1 n2,?_,?_⟩⟩
    ·rw [er,h0,h1,h2] at h
     simp at h
    ·unfold Vbaham.stepRows
     rw [es,h0,h1,h2]
     rfl
    ·show if (aZ s ["member", "member", "moment"] [z0,z1,z2]).contains "member" = true then _ else if (aZ s ["member", "member", "moment"] [z0,z1,z2]).contains "leg" = true then _ else _
     rw [HH,HH,fQ s _ _ _ (by decide +kernel) (by decide +kernel),fG,HJ,HJ,fQ s _ _ _ (by decide +kernel) (by decide +kernel),fG]
     rw [e0,e1,e2]
     rcases dN W n0 with ⟨f0,g0⟩ | ⟨M0,m0,i0,f0⟩
     ·rw [f0,if_pos (by simp)]
      exact mX g0 _
     rcases dN W n1 with ⟨f1,g1⟩ | ⟨M1,m1,i1,f1⟩
     ·rw [f0,f1,if_pos (by simp)]
      show Vbaham.onMember S n0 _=_
      rw [<-i0,onM W m0]
      exact mX g1 _
     rw [f0,f1,if_neg (by simp),if_neg (by simp)]
     refine ⟨M0,m0,M1,m1,n2,by rw [i0,i1],?_⟩
     show [aP s "member" (n0:Int),aP s "member" (n1:Int),aP s "moment" (n2:Int)]=_
     rw [Fx s (n0:Int),f0,Fx s (n1:Int),f1,oA s (n2:Int) (by decide +kernel) (by decide +kernel)]
     rfl
theorem abd (W:Wf s S) (z0 z1:Int):Good A0 D0 s S 8 [z0,z1] []:=by
 have er:bU D0 8 [z0,z1] []=((inR D0 "leg" z0 && (inR D0 "rank" z1 && true)) && true):=rfl
 have es:Vbaham.read ((((8:Nat):Int) :: [z0,z1]) :: [])=Vbaham.ranged (do return .fits (<- Vbaham.placeOf z0) (<- Vbaham.rankOf z1)):=rfl
 rw [zV z0,Rw z1,Bool.and_true,Bool.and_true] at er
 cases h0:Vbaham.placeOf z0 with
 | none =>
  refine ⟨fun _=> ?_,fun h=> ?_⟩
  ·unfold Vbaham.stepRows
   rw [es,h0]
   rfl
  ·rw [er,h0] at h
   simp at h
 | some n0 =>
  cases h1:Vbaham.rankOf z1 with
  | none =>
   refine ⟨fun _=> ?_,fun h=> ?_⟩
   ·unfold Vbaham.stepRows
    rw [es,h0,h1]
    rfl
   ·rw [er,h0,h1] at h
    simp at h
  | some n1 =>
   obtain ⟨e0,l0,u0⟩:=bz h0
   obtain ⟨e1,l1,u1⟩:=bz h1
   refine ⟨fun h=> ?_,fun _=>⟨(show fB [("leg",z0),("rank",z1)] from (Uc (by omega) (ir (by decide +kernel) tZ))),.fits n0 n1,?_,?_⟩⟩
   ·rw [er,h0,h1] at h
    simp at h
   ·unfold Vbaham.stepRows
    rw [es,h0,h1]
    rfl
   ·show if (aZ s ["leg", "rank"] [z0,z1]).contains "member" = true then _ else if (aZ s ["leg", "rank"] [z0,z1]).contains "leg" = true then _ else _
    rw [T8,fQ s _ _ _ (by decide +kernel) (by decide +kernel),fG,T9,fQ s _ _ _ (by decide +kernel) (by decide +kernel),fG]
    rw [e0,e1]
    rcases jN W n0 l0 with ⟨f0,g0⟩ | ⟨x0,m0,i0,f0⟩
    ·rw [f0,if_neg (by simp),if_pos (by simp)]
     exact z9 g0 _
    rw [f0,if_neg (by simp),if_neg (by simp)]
    refine ⟨x0,m0,n1,by rw [i0],?_⟩
    show [aP s "leg" (n0:Int),aP s "rank" (n1:Int)]=_
    rw [Qt s (n0:Int),f0,oA s (n1:Int) (by decide +kernel) (by decide +kernel)]
    rfl
theorem abb (W:Wf s S) (z0:Int):Good A0 D0 s S 9 [z0] []:=by
 have er:bU D0 9 [z0] []=((inR D0 "leg" z0 && true) && true):=rfl
 have es:Vbaham.read ((((9:Nat):Int) :: [z0]) :: [])=Vbaham.ranged (do return .fill (<- Vbaham.placeOf z0)):=rfl
 rw [zV z0,Bool.and_true,Bool.and_true] at er
 cases h0:Vbaham.placeOf z0 with
 | none =>
  refine ⟨fun _=> ?_,fun h=> ?_⟩
  ·unfold Vbaham.stepRows
   rw [es,h0]
   rfl
  ·rw [er,h0] at h
   simp at h
 | some n0 =>
  obtain ⟨e0,l0,u0⟩:=bz h0
  refine ⟨fun h=> ?_,fun _=>⟨(show fB [("leg",z0)] from (Uc (by omega) tZ)),.fill n0,?_,?_⟩⟩
  ·rw [er,h0] at h
   simp at h
  ·unfold Vbaham.stepRows
   rw [es,h0]
   rfl
  ·show if (aZ s ["leg"] [z0]).contains "member" = true then _ else if (aZ s ["leg"] [z0]).contains "leg" = true then _ else _
   rw [T8,fG,T9,fG]
   rw [e0]
   rcases jN W n0 l0 with ⟨f0,g0⟩ | ⟨x0,m0,i0,f0⟩
   ·rw [f0,if_neg (by simp),if_pos (by simp)]
    exact z9 g0 _
   rw [f0,if_neg (by simp),if_neg (by simp)]
   refine ⟨x0,m0,by rw [i0],?_⟩
   show [aP s "leg" (n0:Int)]=_
   rw [Qt s (n0:Int),f0]
   rfl
theorem Za (W:Wf s S) (z0 z1 z2:Int):Good A0 D0 s S 10 [z0,z1,z2] []:=by
 have er:bU D0 10 [z0,z1,z2] []=((inR D0 "member" z0 && (inR D0 "moment" z1 && (inR D0 "span" z2 && true))) && true):=rfl
 have es:Vbaham.read ((((10:Nat):Int) :: [z0,z1,z2]) :: [])=Vbaham.ranged (do return .flying (<- Vbaham.idOf z0) (<- Vbaham.momentOf z1) (<- Vbaham.within 0 Vbaham.LATE z2)):=rfl
 rw [dM z0,uU z1,Rv z2,Bool.and_true,Bool.and_true] at er
 cases h0:Vbaham.idOf z0 with
 | none =>
  refine ⟨fun _=> ?_,fun h=> ?_⟩
  ·unfold Vbaham.stepRows
   rw [es,h0]
   rfl
  ·rw [er,h0] at h
   simp at h
 | some n0 =>
  cases h1:Vbaham.momentOf z1 with
  | none =>
   refine ⟨fun _=> ?_,fun h=> ?_⟩
   ·unfold Vbaham.stepRows
    rw [es,h0,h1]
    rfl
   ·rw [er,h0,h1] at h
    simp at h
  | some n1 =>
   cases h2:Vbaham.within 0 Vbaham.LATE z2 with
   | none =>
    refine ⟨fun _=> ?_,fun h=> ?_⟩
    ·unfold Vbaham.stepRows
     rw [es,h0,h1,h2]
     rfl
    ·rw [er,h0,h1,h2] at h
     simp at h
   | some n2 =>
    obtain ⟨e0,l0,u0⟩:=bz h0
    obtain ⟨e1,l1,u1⟩:=bz h1
    obtain ⟨e2,l2,u2⟩:=bz h2
    refine ⟨fun h=> ?_,fun _=>⟨(show fB [("member",z0),("moment",z1),("span",z2)] from (ir (by decide +kernel) (ir (by decide +kernel) (ir (by decide +kernel) tZ)))),.flying n0 n1 n2,?_,?_⟩⟩
    ·rw [er,h0,h1,h2] at h
     simp at h
    ·unfold Vbaham.stepRows
     rw [es,h0,h1,h2]
     rfl
    ·show if (aZ s ["member", "moment", "span"] [z0,z1,z2]).contains "member" = true then _ else if (aZ s ["member", "moment", "span"] [z0,z1,z2]).contains "leg" = true then _ else _
     rw [HH,fQ s _ _ _ (by decide +kernel) (by decide +kernel),fQ s _ _ _ (by decide +kernel) (by decide +kernel),fG,HJ,fQ s _ _ _ (by decide +kernel) (by decide +kernel),fQ s _ _ _ (by decide +kernel) (by decide +kernel),fG]
     rw [e0,e1,e2]
     rcases dN W n0 with ⟨f0,g0⟩ | ⟨M0,m0,i0,f0⟩
     ·rw [f0,if_pos (by simp)]
      exact mX g0 _
     rw [f0,if_neg (by simp),if_neg (by simp)]
     refine ⟨M0,m0,n1,n2,by rw [i0],?_⟩
     show [aP s "member" (n0:Int),aP s "moment" (n1:Int),aP s "span" (n2:Int)]=_
     rw [Fx s (n0:Int),f0,oA s (n1:Int) (by decide +kernel) (by decide +kernel),oA s (n2:Int) (by decide +kernel) (by decide +kernel)]
     rfl
theorem Y9 (W:Wf s S) (z0 z1:Int):Good A0 D0 s S 11 [z0,z1] []:=by
 have er:bU D0 11 [z0,z1] []=((inR D0 "member" z0 && (inR D0 "span" z1 && true)) && true):=rfl
 have es:Vbaham.read ((((11:Nat):Int) :: [z0,z1]) :: [])=Vbaham.ranged (do return .worst (<- Vbaham.idOf z0) (<- Vbaham.within 0 Vbaham.LATE z1)):=rfl
 rw [dM z0,Rv z1,Bool.and_true,Bool.and_true] at er
 cases h0:Vbaham.idOf z0 with
 | none =>
  refine ⟨fun _=> ?_,fun h=> ?_⟩
  ·unfold Vbaham.stepRows
   rw [es,h0]
   rfl
  ·rw [er,h0] at h
   simp at h
 | some n0 =>
  cases h1:Vbaham.within 0 Vbaham.LATE z1 with
  | none =>
   refine ⟨fun _=> ?_,fun h=> ?_⟩
   ·unfold Vbaham.stepRows
    rw [es,h0,h1]
    rfl
   ·rw [er,h0,h1] at h
    simp at h
  | some n1 =>
   obtain ⟨e0,l0,u0⟩:=bz h0
   obtain ⟨e1,l1,u1⟩:=bz h1
   refine ⟨fun h=> ?_,fun _=>⟨(show fB [("member",z0),("span",z1)] from (ir (by decide +kernel) (ir (by decide +kernel) tZ))),.worst n0 n1,?_,?_⟩⟩
   ·rw [er,h0,h1] at h
    simp at h
   ·unfold Vbaham.stepRows
    rw [es,h0,h1]
    rfl
   ·show if (aZ s ["member", "span"] [z0,z1]).contains "member" = true then _ else if (aZ s ["member", "span"] [z0,z1]).contains "leg" = true then _ else _
    rw [HH,fQ s _ _ _ (by decide +kernel) (by decide +kernel),fG,HJ,fQ s _ _ _ (by decide +kernel) (by decide +kernel),fG]
    rw [e0,e1]
    rcases dN W n0 with ⟨f0,g0⟩ | ⟨M0,m0,i0,f0⟩
    ·rw [f0,if_pos (by simp)]
     exact mX g0 _
    rw [f0,if_neg (by simp),if_neg (by simp)]
    refine ⟨M0,m0,n1,by rw [i0],?_⟩
    show [aP s "member" (n0:Int),aP s "span" (n1:Int)]=_
    rw [Fx s (n0:Int),f0,oA s (n1:Int) (by decide +kernel) (by decide +kernel)]
    rfl
theorem Y8 (W:Wf s S) (z0:Int):Good A0 D0 s S 12 [z0] []:=by
 have er:bU D0 12 [z0] []=((inR D0 "member" z0 && true) && true):=rfl
 have es:Vbaham.read ((((12:Nat):Int) :: [z0]) :: [])=Vbaham.ranged (do return .roster (<- Vbaham.idOf z0)):=rfl
 rw [dM z0,Bool.and_true,Bool.and_true] at er
 cases h0:Vbaham.idOf z0 with
 | none =>
  refine ⟨fun _=> ?_,fun h=> ?_⟩
  ·unfold Vbaham.stepRows
   rw [es,h0]
   rfl
  ·rw [er,h0] at h
   simp at h
 | some n0 =>
  obtain ⟨e0,l0,u0⟩:=bz h0
  refine ⟨fun h=> ?_,fun _=>⟨(show fB [("member",z0)] from (ir (by decide +kernel) tZ)),.roster n0,?_,?_⟩⟩
  ·rw [er,h0] at h
   simp at h
  ·unfold Vbaham.stepRows
   rw [es,h0]
   rfl
  ·show if (aZ s ["member"] [z0]).contains "member" = true then _ else if (aZ s ["member"] [z0]).contains "leg" = true then _ else _
   rw [HH,fG,HJ,fG]
   rw [e0]
   rcases dN W n0 with ⟨f0,g0⟩ | ⟨M0,m0,i0,f0⟩
   ·rw [f0,if_pos (by simp)]
    exact mX g0 _
   rw [f0,if_neg (by simp),if_neg (by simp)]
   refine ⟨M0,m0,by rw [i0],?_⟩
   show [aP s "member" (n0:Int)]=_
   rw [Fx s (n0:Int),f0]
   rfl
theorem Y7 (W:Wf s S) (z0:Int):Good A0 D0 s S 13 [z0] []:=by
 have er:bU D0 13 [z0] []=((inR D0 "member" z0 && true) && true):=rfl
 have es:Vbaham.read ((((13:Nat):Int) :: [z0]) :: [])=Vbaham.ranged (do return .duties (<- Vbaham.idOf z0)):=rfl
 rw [dM z0,Bool.and_true,Bool.and_true] at er
 cases h0:Vbaham.idOf z0 with
 | none =>
  refine ⟨fun _=> ?_,fun h=> ?_⟩
  ·unfold Vbaham.stepRows
   rw [es,h0]
   rfl
  ·rw [er,h0] at h
   simp at h
 | some n0 =>
  obtain ⟨e0,l0,u0⟩:=bz h0
  refine ⟨fun h=> ?_,fun _=>⟨(show fB [("member",z0)] from (ir (by decide +kernel) tZ)),.duties n0,?_,?_⟩⟩
  ·rw [er,h0] at h
   simp at h
  ·unfold Vbaham.stepRows
   rw [es,h0]
   rfl
  ·show if (aZ s ["member"] [z0]).contains "member" = true then _ else if (aZ s ["member"] [z0]).contains "leg" = true then _ else _
   rw [HH,fG,HJ,fG]
   rw [e0]
   rcases dN W n0 with ⟨f0,g0⟩ | ⟨M0,m0,i0,f0⟩
   ·rw [f0,if_pos (by simp)]
    exact mX g0 _
   rw [f0,if_neg (by simp),if_neg (by simp)]
   refine ⟨M0,m0,by rw [i0],?_⟩
   show [aP s "member" (n0:Int)]=_
   rw [Fx s (n0:Int),f0]
   rfl
theorem Y5 (W:Wf s S) (z0:Int):Good A0 D0 s S 15 [z0] []:=by
 have er:bU D0 15 [z0] []=((inR D0 "member" z0 && true) && true):=rfl
 have es:Vbaham.read ((((15:Nat):Int) :: [z0]) :: [])=Vbaham.ranged (do return .run (<- Vbaham.idOf z0)):=rfl
 rw [dM z0,Bool.and_true,Bool.and_true] at er
 cases h0:Vbaham.idOf z0 with
 | none =>
  refine ⟨fun _=> ?_,fun h=> ?_⟩
  ·unfold Vbaham.stepRows
   rw [es,h0]
   rfl
  ·rw [er,h0] at h
   simp at h
 | some n0 =>
  obtain ⟨e0,l0,u0⟩:=bz h0
  refine ⟨fun h=> ?_,fun _=>⟨(show fB [("member",z0)] from (ir (by decide +kernel) tZ)),.run n0,?_,?_⟩⟩
  ·rw [er,h0] at h
   simp at h
  ·unfold Vbaham.stepRows
   rw [es,h0]
   rfl
  ·show if (aZ s ["member"] [z0]).contains "member" = true then _ else if (aZ s ["member"] [z0]).contains "leg" = true then _ else _
   rw [HH,fG,HJ,fG]
   rw [e0]
   rcases dN W n0 with ⟨f0,g0⟩ | ⟨M0,m0,i0,f0⟩
   ·rw [f0,if_pos (by simp)]
    exact mX g0 _
   rw [f0,if_neg (by simp),if_neg (by simp)]
   refine ⟨M0,m0,by rw [i0],?_⟩
   show [aP s "member" (n0:Int)]=_
   rw [Fx s (n0:Int),f0]
   rfl
theorem Y4 (W:Wf s S) (z0:Int):Good A0 D0 s S 16 [z0] []:=by
 have er:bU D0 16 [z0] []=((inR D0 "leg" z0 && true) && true):=rfl
 have es:Vbaham.read ((((16:Nat):Int) :: [z0]) :: [])=Vbaham.ranged (do return .shown (<- Vbaham.placeOf z0)):=rfl
 rw [zV z0,Bool.and_true,Bool.and_true] at er
 cases h0:Vbaham.placeOf z0 with
 | none =>
  refine ⟨fun _=> ?_,fun h=> ?_⟩
  ·unfold Vbaham.stepRows
   rw [es,h0]
   rfl
  ·rw [er,h0] at h
   simp at h
 | some n0 =>
  obtain ⟨e0,l0,u0⟩:=bz h0
  refine ⟨fun h=> ?_,fun _=>⟨(show fB [("leg",z0)] from (Uc (by omega) tZ)),.shown n0,?_,?_⟩⟩
  ·rw [er,h0] at h
   simp at h
  ·unfold Vbaham.stepRows
   rw [es,h0]
   rfl
  ·show if (aZ s ["leg"] [z0]).contains "member" = true then _ else if (aZ s ["leg"] [z0]).contains "leg" = true then _ else _
   rw [T8,fG,T9,fG]
   rw [e0]
   rcases jN W n0 l0 with ⟨f0,g0⟩ | ⟨x0,m0,i0,f0⟩
   ·rw [f0,if_neg (by simp),if_pos (by simp)]
    exact z9 g0 _
   rw [f0,if_neg (by simp),if_neg (by simp)]
   refine ⟨x0,m0,by rw [i0],?_⟩
   show [aP s "leg" (n0:Int)]=_
   rw [Qt s (n0:Int),f0]
   rfl
end
theorem wA (g:Int->Bool):∀ (l:List Int) (k:Nat),((l.zipIdx k).all fun q=>g q.1)=l.all g
 | [],_=>rfl
 | a :: l,k=>by
  rw [List.zipIdx_cons,List.all_cons,List.all_cons,wA g l]
theorem Z2 (x:Str) (k:Nat):cC [x] k=x:=by
 unfold cC
 rw [show k % ([x]:List Str).length=0 from Nat.mod_one k]
 rfl
theorem Vv (x y:Str) (k:Nat):cC [x,y] k=if k % 2=0 then x else y:=by
 unfold cC
 show ([x,y]:List Str).getD (k % 2) "" = _
 rcases Nat.mod_two_eq_zero_or_one k with h | h
 ·rw [h,if_pos rfl]; rfl
 ·rw [h,if_neg (by decide)]; rfl
theorem Ql {lo hi:Nat}:∀ l:List Int,((l.all fun z=>(Vbaham.within lo hi z).isSome)=false/\l.mapM (Vbaham.within lo hi)=none) \/
  ∃ ns:List Nat,(l.all fun z=>(Vbaham.within lo hi z).isSome)=true/\l.mapM (Vbaham.within lo hi)=some ns/\l=ns.map Int.ofNat/\∀ n ∈ ns,n<=hi
 | []=> .inr ⟨[],rfl,rfl,rfl,fun n m=>by cases m⟩
 | z :: l=>by
  rw [List.mapM_cons,List.all_cons]
  cases h:Vbaham.within lo hi z with
  | none=>exact .inl ⟨by simp,rfl⟩
  | some n =>
   obtain ⟨e,_,u⟩:=bz h
   rcases Ql (lo:=lo) (hi:=hi) l with ⟨h1,h2⟩ | ⟨ns,h1,h2,h3,h4⟩
   ·exact .inl ⟨by rw [h1]; simp,by rw [h2]; rfl⟩
   ·refine .inr ⟨n :: ns,by rw [h1]; rfl,by rw [h2]; rfl,by rw [e,h3]; rfl,fun m hm=> ?_⟩
    rcases List.mem_cons.mp hm with rfl | hm
    ·exact u
    ·exact h4 m hm
def QZ:List Int->Bool
 | []=>true
 | [a]=>(Vbaham.within 60 60000 a).isSome
 | a :: b :: r=>(Vbaham.within 60 60000 a).isSome && ((Vbaham.within 0 60000 b).isSome && QZ r)
theorem Sw:∀ (l:List Int) (k:Nat),k % 2=0->((l.zipIdx k).all fun q=>inR D0 (cC ["stretch", "most"] q.2) q.1)=QZ l
 | [],_,_=>rfl
 | [a],k,h=>by
  rw [List.zipIdx_cons,List.all_cons]
  show (inR D0 (cC ["stretch", "most"] k) a && _)=_
  rw [Vv,if_pos h,Ei]
  exact Bool.and_true _
 | a :: b :: r,k,h=>by
  rw [List.zipIdx_cons,List.zipIdx_cons,List.all_cons,List.all_cons,Sw r (k + 1 + 1) (by omega)]
  show (inR D0 (cC ["stretch", "most"] k) a && (inR D0 (cC ["stretch", "most"] (k + 1)) b && _))=_
  rw [Vv,Vv,if_pos h,if_neg (by omega),Ei,Yu]
  rfl
theorem RJ:∀ l:List Int,l.length % 2=0->(QZ l=false/\Vbaham.pairsOf l=none)\/∃ ws:List (Nat × Nat),QZ l=true/\Vbaham.pairsOf l=some ws/\l=(vN ws).map Int.ofNat
 | [],_=> .inr ⟨[],rfl,rfl,rfl⟩
 | [a],h=>by simp at h
 | a :: b :: r,h=>by
  have hr:r.length % 2=0:=by
   simp only [List.length_cons] at h
   omega
  unfold Vbaham.pairsOf QZ
  cases h1:Vbaham.within 60 60000 a with
  | none=>exact .inl ⟨by simp,rfl⟩
  | some n =>
   cases h2:Vbaham.within 0 60000 b with
   | none=>exact .inl ⟨by simp,rfl⟩
   | some m =>
    obtain ⟨e1,_,_⟩:=bz h1
    obtain ⟨e2,_,_⟩:=bz h2
    rcases RJ r hr with ⟨q1,q2⟩ | ⟨ws,q1,q2,q3⟩
    ·exact .inl ⟨by rw [q1]; simp,by rw [q2]; rfl⟩
    ·refine .inr ⟨(n,m) :: ws,by rw [q1]; rfl,by rw [q2]; rfl,?_⟩
     rw [e1,e2,q3]
     rfl
theorem IV:∀ l:List Int,l.length % 2=1->Vbaham.pairsOf l=none
 | [],h=>by simp at h
 | [a],_=>rfl
 | a :: b :: r,h=>by
  have hr:r.length % 2=1:=by
   simp only [List.length_cons] at h
   omega
  unfold Vbaham.pairsOf
  rw [IV r hr]
  cases Vbaham.within 60 60000 a with
  | none=>rfl
  | some n =>
   cases Vbaham.within 0 60000 b with
   | none=>rfl
   | some m=>rfl
theorem Tu (row:List Int):tO D0 "needs" row=(decide (row.length=3) && row.all fun z=>(Vbaham.within 0 4 z).isSome):=by
 unfold tO
 rw [show D0.lens.lookup ("needs" : Str)=some [3] by decide +kernel,show D0.sorts.lookup ("needs" : Str)=some (["need"]:List Str) by decide +kernel]
 show (([3]:List Int).contains (row.length:Int) && row.zipIdx.all fun q=>inR D0 (cC ["need"] q.2) q.1)=_
 have e1:([3]:List Int).contains (row.length:Int)=decide (row.length=3):=by
  rw [List.contains_eq_mem]
  refine decide_eq_decide.mpr ?_
  rw [List.mem_singleton]
  omega
 have e2:(row.zipIdx.all fun q=>inR D0 (cC ["need"] q.2) q.1)=row.all fun z=>(Vbaham.within 0 4 z).isSome:=by
  rw [<-wA _ row 0]
  refine congrArg (fun g=>(row.zipIdx 0).all g) (funext fun q=> ?_)
  rw [Z2,Yt]
 rw [e1,e2]
theorem Mq (row:List Int):tO D0 "longest" row=(decide (row.length=8) && row.all fun z=>(Vbaham.within 0 1440 z).isSome):=by
 unfold tO
 rw [show D0.lens.lookup ("longest" : Str)=some [8] by decide +kernel,show D0.sorts.lookup ("longest" : Str)=some (["length"]:List Str) by decide +kernel]
 show (([8]:List Int).contains (row.length:Int) && row.zipIdx.all fun q=>inR D0 (cC ["length"] q.2) q.1)=_
 have e1:([8]:List Int).contains (row.length:Int)=decide (row.length=8):=by
  rw [List.contains_eq_mem]
  refine decide_eq_decide.mpr ?_
  rw [List.mem_singleton]
  omega
 have e2:(row.zipIdx.all fun q=>inR D0 (cC ["length"] q.2) q.1)=row.all fun z=>(Vbaham.within 0 1440 z).isSome:=by
  rw [<-wA _ row 0]
  refine congrArg (fun g=>(row.zipIdx 0).all g) (funext fun q=> ?_)
  rw [Z2,Tv]
 rw [e1,e2]
theorem Mp (row:List Int):tO D0 "windows" row=(decide (row.length<=8/\row.length % 2=0) && QZ row):=by
 unfold tO
 rw [show D0.lens.lookup ("windows" : Str)=some [0,2,4,6,8] by decide +kernel,show D0.sorts.lookup ("windows" : Str)=some (["stretch", "most"]:List Str) by decide +kernel]
 show (([0,2,4,6,8]:List Int).contains (row.length:Int) && row.zipIdx.all fun q=>inR D0 (cC ["stretch", "most"] q.2) q.1)=_
 have e1:([0,2,4,6,8]:List Int).contains (row.length:Int)=decide (row.length<=8/\row.length % 2=0):=by
  rw [List.contains_eq_mem]
  refine decide_eq_decide.mpr ?_
  simp only [List.mem_cons,List.not_mem_nil,or_false]
  omega
 rw [e1]
 congr 1
 exact Sw row 0 rfl
section
variable {s:HS} {S:State}
theorem Y6 (W:Wf s S):Good A0 D0 s S 14 [] []:=by
 have er:bU D0 14 [] []=true:=rfl
 refine ⟨fun h=>(by rw [er] at h; cases h),fun _=>⟨(show fB [] from tZ),.open_,rfl,?_⟩⟩
 show if (aZ s [] []).contains "member" = true then _ else if (aZ s [] []).contains "leg" = true then _ else _
 rw [fG,fG,if_neg (by decide),if_neg (by decide)]
 exact ⟨rfl,rfl⟩
theorem Vx (z:Int):inR D0 "shift" z=(decide (-1440<=z) && decide (z<=1440)):=by
 unfold inR
 rw [show D0.ranges.lookup ("shift" : Str)=some ((-1440:Int),(1440:Int)) by decide +kernel]
theorem abe (W:Wf s S) (z0 z1:Int):Good A0 D0 s S 7 [z0,z1] []:=by
 have er:bU D0 7 [z0,z1] []=((inR D0 "leg" z0 && (inR D0 "shift" z1 && true)) && true):=rfl
 have es:Vbaham.read ((((7:Nat):Int) :: [z0,z1]) :: [])=if z1 < -1440\/1440 < z1 then .range else Vbaham.ranged (do return .delay (<- Vbaham.placeOf z0) z1):=rfl
 rw [zV,Vx,Bool.and_true,Bool.and_true] at er
 by_cases c:z1 < -1440\/1440 < z1
 ·rw [if_pos c] at es
  refine ⟨fun _=> ?_,fun h=> ?_⟩
  ·unfold Vbaham.stepRows
   rw [es]
  ·rw [er] at h
   simp at h
   omega
 ·rw [if_neg c] at es
  have e1:(decide (-1440<=z1) && decide (z1<=1440))=true:=by
   rw [decide_eq_true (show -1440<=z1 by omega),decide_eq_true (show z1<=1440 by omega)]
   rfl
  rw [e1,Bool.and_true] at er
  cases h0:Vbaham.placeOf z0 with
  | none =>
   refine ⟨fun _=> ?_,fun h=> ?_⟩
   ·unfold Vbaham.stepRows
    rw [es,h0]
    rfl
   ·rw [er,h0] at h
    simp at h
  | some n0 =>
   obtain ⟨e0,l0,u0⟩:=bz h0
   refine ⟨fun h=> ?_,fun _=>⟨(show fB [("leg",z0),("shift",z1)] from Uc (by omega) (ir (by decide +kernel) tZ)),.delay n0 z1,?_,?_⟩⟩
   ·rw [er,h0] at h
    simp at h
   ·unfold Vbaham.stepRows
    rw [es,h0]
    rfl
   ·show if (aZ s ["leg", "shift"] [z0,z1]).contains "member" = true then _ else if (aZ s ["leg", "shift"] [z0,z1]).contains "leg" = true then _ else _
    rw [T8,fQ s _ _ _ (by decide +kernel) (by decide +kernel),fG,T9,fQ s _ _ _ (by decide +kernel) (by decide +kernel),fG,e0]
    rcases jN W n0 l0 with ⟨f0,g0⟩ | ⟨x0,m0,i0,f0⟩
    ·rw [f0,if_neg (by simp),if_pos (by simp)]
     exact z9 g0 _
    rw [f0,if_neg (by simp),if_neg (by simp)]
    refine ⟨x0,m0,z1,by rw [i0],?_⟩
    show [aP s "leg" (n0:Int),aP s "shift" z1]=_
    rw [Qt s (n0:Int),f0,oA s z1 (by decide +kernel) (by decide +kernel)]
    rfl
theorem abk (W:Wf s S) (z0 z1 z2 z3:Int) (row:List Int):Good A0 D0 s S 1 [z0,z1,z2,z3] [row]:=by
 have er:bU D0 1 [z0,z1,z2,z3] [row]=((inR D0 "airport" z0 && (inR D0 "airport" z1 && (inR D0 "moment" z2 && (inR D0 "moment" z3 && true)))) && (tO D0 "needs" row && true)):=rfl
 have es:Vbaham.read ((((1:Nat):Int) :: [z0,z1,z2,z3]) :: [row])=Vbaham.ranged (do
  let f <- Vbaham.airportOf z0
  let t <- Vbaham.airportOf z1
  let d <- Vbaham.momentOf z2
  let e <- Vbaham.momentOf z3
  let n <- if row.length=3 then row.mapM (Vbaham.within 0 4) else none
  return .leg { from_:=f,to_:=t,dep:=d,arr:=e,needs:=n }):=rfl
 rw [wM z0,wM z1,uU z2,uU z3,Tu,Bool.and_true,Bool.and_true] at er
 cases h0:Vbaham.airportOf z0 with
 | none =>
  refine ⟨fun _=> ?_,fun h=> ?_⟩
  ·unfold Vbaham.stepRows
   rw [es,h0]
   rfl
  ·rw [er,h0] at h
   simp at h
 | some n0 =>
 cases h1:Vbaham.airportOf z1 with
 | none =>
  refine ⟨fun _=> ?_,fun h=> ?_⟩
  ·unfold Vbaham.stepRows
   rw [es,h0,h1]
   rfl
  ·rw [er,h0,h1] at h
   simp at h
 | some n1 =>
 cases h2:Vbaham.momentOf z2 with
 | none =>
  refine ⟨fun _=> ?_,fun h=> ?_⟩
  ·unfold Vbaham.stepRows
   rw [es,h0,h1,h2]
   rfl
  ·rw [er,h0,h1,h2] at h
   simp at h
 | some n2 =>
 cases h3:Vbaham.momentOf z3 with
 | none =>
  refine ⟨fun _=> ?_,fun h=> ?_⟩
  ·unfold Vbaham.stepRows
   rw [es,h0,h1,h2,h3]
   rfl
  ·rw [er,h0,h1,h2,h3] at h
   simp at h
 | some n3 =>
 rw [h0,h1,h2,h3] at er
 have es:Vbaham.read ((((1:Nat):Int) :: [z0,z1,z2,z3]) :: [row])=Vbaham.ranged (if row.length=3 then (row.mapM (Vbaham.within 0 4)).bind fun n=>some (.leg { from_:=n0,to_:=n1,dep:=n2,arr:=n3,needs:=n }) else none):=by
  rw [es,h0,h1,h2,h3]
  rfl
 have er:bU D0 1 [z0,z1,z2,z3] [row]=(decide (row.length=3) && row.all fun z=>(Vbaham.within 0 4 z).isSome):=er.trans (Bool.true_and _)
 by_cases c:row.length=3
 ·rw [if_pos c] at es
  rw [decide_eq_true c,Bool.true_and] at er
  rcases Ql (lo:=0) (hi:=4) row with ⟨q1,q2⟩ | ⟨ns,q1,q2,q3,q4⟩
  ·refine ⟨fun _=> ?_,fun h=> ?_⟩
   ·unfold Vbaham.stepRows
    rw [es,q2]
    rfl
   ·rw [er,q1] at h
    cases h
  ·obtain ⟨e0,_,_⟩:=bz h0
   obtain ⟨e1,_,_⟩:=bz h1
   obtain ⟨e2,_,_⟩:=bz h2
   obtain ⟨e3,_,_⟩:=bz h3
   refine ⟨fun h=> ?_,fun _=>⟨(show fB [("airport",z0),("airport",z1),("moment",z2),("moment",z3)] from ir (by decide +kernel) (ir (by decide +kernel) (ir (by decide +kernel) (ir (by decide +kernel) tZ)))),.leg { from_:=n0,to_:=n1,dep:=n2,arr:=n3,needs:=ns },?_,?_⟩⟩
   ·rw [er,q1] at h
    cases h
   ·unfold Vbaham.stepRows
    rw [es,q2]
    rfl
   ·show if (aZ s ["airport", "airport", "moment", "moment"] [z0,z1,z2,z3]).contains "member" = true then _ else if (aZ s ["airport", "airport", "moment", "moment"] [z0,z1,z2,z3]).contains "leg" = true then _ else _
    rw [fQ s _ _ _ (by decide +kernel) (by decide +kernel),fQ s _ _ _ (by decide +kernel) (by decide +kernel),fQ s _ _ _ (by decide +kernel) (by decide +kernel),fQ s _ _ _ (by decide +kernel) (by decide +kernel),fG]
    rw [fQ s _ _ _ (by decide +kernel) (by decide +kernel),fQ s _ _ _ (by decide +kernel) (by decide +kernel),fQ s _ _ _ (by decide +kernel) (by decide +kernel),fQ s _ _ _ (by decide +kernel) (by decide +kernel),fG]
    rw [if_neg (by decide),if_neg (by decide)]
    refine ⟨_,rfl,?_,by rw [<-q3],?_,q4⟩
    ·show [aP s "airport" z0,aP s "airport" z1,aP s "moment" z2,aP s "moment" z3]=_
     rw [oA s z0 (by decide +kernel) (by decide +kernel),oA s z1 (by decide +kernel) (by decide +kernel),oA s z2 (by decide +kernel) (by decide +kernel),oA s z3 (by decide +kernel) (by decide +kernel),e0,e1,e2,e3]
    ·show ns.length=3
     rw [q3,List.length_map] at c
     exact c
 ·rw [if_neg c] at es
  rw [decide_eq_false c,Bool.false_and] at er
  refine ⟨fun _=> ?_,fun h=> ?_⟩
  ·unfold Vbaham.stepRows
   rw [es]
   rfl
  ·rw [er] at h
   cases h
theorem abl (W:Wf s S) (z0 z1 z2 z3 z4 z5:Int) (r0 r1:List Int):Good A0 D0 s S 0 [z0,z1,z2,z3,z4,z5] [r0,r1]:=by
 have er:bU D0 0 [z0,z1,z2,z3,z4,z5] [r0,r1]=((inR D0 "turn" z0 && (inR D0 "gap" z1 && (inR D0 "margin" z2 && (inR D0 "margin" z3 && (inR D0 "rest" z4 && (inR D0 "days" z5 && true)))))) && (tO D0 "longest" r0 && (tO D0 "windows" r1 && true))):=rfl
 have es:Vbaham.read ((((0:Nat):Int) :: [z0,z1,z2,z3,z4,z5]) :: [r0,r1])=Vbaham.ranged (do
  let turn <- Vbaham.within 0 300 z0
  let gap <- Vbaham.within 300 1440 z1
  let before <- Vbaham.within 0 180 z2
  let after <- Vbaham.within 0 180 z3
  let rest <- Vbaham.within 0 2880 z4
  let days <- Vbaham.within 1 30 z5
  let l <- if r0.length=8 then r0.mapM (Vbaham.within 0 1440) else none
  let w <- if r1.length<=8 then Vbaham.pairsOf r1 else none
  return .rules { turn:=turn,gap:=gap,before:=before,after:=after,rest:=rest,days:=days,longest:=l,windows:=w }):=rfl
 rw [Yr z0,aaF z1,Ir z2,Ir z3,Ys z4,Yv z5,Mq,Mp,Bool.and_true,Bool.and_true] at er
 cases h0:Vbaham.within 0 300 z0 with
 | none =>
  refine ⟨fun _=> ?_,fun h=> ?_⟩
  ·unfold Vbaham.stepRows
   rw [es,h0]
   rfl
  ·rw [er,h0] at h
   simp at h
 | some n0 =>
 cases h1:Vbaham.within 300 1440 z1 with
 | none =>
  refine ⟨fun _=> ?_,fun h=> ?_⟩
  ·unfold Vbaham.stepRows
   rw [es,h0,h1]
   rfl
  ·rw [er,h0,h1] at h
   simp at h
 | some n1 =>
 cases h2:Vbaham.within 0 180 z2 with
 | none =>
  refine ⟨fun _=> ?_,fun h=> ?_⟩
  ·unfold Vbaham.stepRows
   rw [es,h0,h1,h2]
   rfl
  ·rw [er,h0,h1,h2] at h
   simp at h
 | some n2 =>
 cases h3:Vbaham.within 0 180 z3 with
 | none =>
  refine ⟨fun _=> ?_,fun h=> ?_⟩
  ·unfold Vbaham.stepRows
   rw [es,h0,h1,h2,h3]
   rfl
  ·rw [er,h0,h1,h2,h3] at h
   simp at h
 | some n3 =>
 cases h4:Vbaham.within 0 2880 z4 with
 | none =>
  refine ⟨fun _=> ?_,fun h=> ?_⟩
  ·unfold Vbaham.stepRows
   rw [es,h0,h1,h2,h3,h4]
   rfl
  ·rw [er,h0,h1,h2,h3,h4] at h
   simp at h
 | some n4 =>
 cases h5:Vbaham.within 1 30 z5 with
 | none =>
  refine ⟨fun _=> ?_,fun h=> ?_⟩
  ·unfold Vbaham.stepRows
   rw [es,h0,h1,h2,h3,h4,h5]
   rfl
  ·rw [er,h0,h1,h2,h3,h4,h5] at h
   simp at h
 | some n5 =>
 rw [h0,h1,h2,h3,h4,h5] at er
 have es:Vbaham.read ((((0:Nat):Int) :: [z0,z1,z2,z3,z4,z5]) :: [r0,r1])=Vbaham.ranged (if r0.length=8 then (r0.mapM (Vbaham.within 0 1440)).bind fun l=>(if r1.length<=8 then (Vbaham.pairsOf r1).bind fun w=>some (.rules { turn:=n0,gap:=n1,before:=n2,after:=n3,rest:=n4,days:=n5,longest:=l,windows:=w }) else none) else none):=by
  rw [es,h0,h1,h2,h3,h4,h5]
  rfl
 have er:bU D0 0 [z0,z1,z2,z3,z4,z5] [r0,r1]=((decide (r0.length=8) && r0.all fun z=>(Vbaham.within 0 1440 z).isSome) && (decide (r1.length<=8/\r1.length % 2=0) && QZ r1)):=er.trans (Bool.true_and _)
 by_cases c:r0.length=8
 ·rw [if_pos c] at es
  rw [decide_eq_true c,Bool.true_and] at er
  rcases Ql (lo:=0) (hi:=1440) r0 with ⟨q1,q2⟩ | ⟨ns,q1,q2,q3,q4⟩
  ·refine ⟨fun _=> ?_,fun h=> ?_⟩
   ·unfold Vbaham.stepRows
    rw [es,q2]
    rfl
   ·rw [er,q1] at h
    simp at h
  rw [q1,Bool.true_and] at er
  have es:Vbaham.read ((((0:Nat):Int) :: [z0,z1,z2,z3,z4,z5]) :: [r0,r1])=Vbaham.ranged (if r1.length<=8 then (Vbaham.pairsOf r1).bind fun w=>some (.rules { turn:=n0,gap:=n1,before:=n2,after:=n3,rest:=n4,days:=n5,longest:=ns,windows:=w }) else none):=by
   rw [es,q2]
   rfl
  have bad:Vbaham.read ((((0:Nat):Int) :: [z0,z1,z2,z3,z4,z5]) :: [r0,r1]) = .range->bU D0 0 [z0,z1,z2,z3,z4,z5] [r0,r1]=false->Good A0 D0 s S 0 [z0,z1,z2,z3,z4,z5] [r0,r1]:=fun b1 b2=>by
   refine ⟨fun _=> ?_,fun h=> ?_⟩
   ·unfold Vbaham.stepRows
    rw [b1]
   ·rw [b2] at h
    cases h
  by_cases c2:r1.length<=8
  ·rw [if_pos c2] at es
   by_cases c3:r1.length % 2=0
   ·rw [decide_eq_true ⟨c2,c3⟩,Bool.true_and] at er
    rcases RJ r1 c3 with ⟨p1,p2⟩ | ⟨ws,p1,p2,p3⟩
    ·refine bad ?_ (by rw [er,p1])
     rw [es,p2]
     rfl
    ·obtain ⟨e0,_,_⟩:=bz h0
     obtain ⟨e1,_,_⟩:=bz h1
     obtain ⟨e2,_,_⟩:=bz h2
     obtain ⟨e3,_,_⟩:=bz h3
     obtain ⟨e4,_,_⟩:=bz h4
     obtain ⟨e5,_,_⟩:=bz h5
     refine ⟨fun h=> ?_,fun _=>⟨(show fB [("turn",z0),("gap",z1),("margin",z2),("margin",z3),("rest",z4),("days",z5)] from ir (by decide +kernel) (ir (by decide +kernel) (ir (by decide +kernel) (ir (by decide +kernel) (ir (by decide +kernel) (ir (by decide +kernel) tZ)))))),.rules { turn:=n0,gap:=n1,before:=n2,after:=n3,rest:=n4,days:=n5,longest:=ns,windows:=ws },?_,?_⟩⟩
     ·rw [er,p1] at h
      cases h
     ·unfold Vbaham.stepRows
      rw [es,p2]
      rfl
     ·show if (aZ s ["turn", "gap", "margin", "margin", "rest", "days"] [z0,z1,z2,z3,z4,z5]).contains "member" = true then _ else if (aZ s ["turn", "gap", "margin", "margin", "rest", "days"] [z0,z1,z2,z3,z4,z5]).contains "leg" = true then _ else _
      have ek:∀ k:Str,(aZ s ["turn", "gap", "margin", "margin", "rest", "days"] [z0,z1,z2,z3,z4,z5]).contains k=false:=fun k=>by
       rw [fQ s _ _ _ (by decide +kernel) (by decide +kernel),fQ s _ _ _ (by decide +kernel) (by decide +kernel),fQ s _ _ _ (by decide +kernel) (by decide +kernel),fQ s _ _ _ (by decide +kernel) (by decide +kernel),fQ s _ _ _ (by decide +kernel) (by decide +kernel),fQ s _ _ _ (by decide +kernel) (by decide +kernel),fG]
      rw [ek,ek,if_neg (by decide),if_neg (by decide)]
      refine ⟨_,rfl,?_,by rw [<-q3,<-p3],?_,?_⟩
      ·show [aP s "turn" z0,aP s "gap" z1,aP s "margin" z2,aP s "margin" z3,aP s "rest" z4,aP s "days" z5]=_
       rw [oA s z0 (by decide +kernel) (by decide +kernel),oA s z1 (by decide +kernel) (by decide +kernel),oA s z2 (by decide +kernel) (by decide +kernel),oA s z3 (by decide +kernel) (by decide +kernel),oA s z4 (by decide +kernel) (by decide +kernel),oA s z5 (by decide +kernel) (by decide +kernel),e0,e1,e2,e3,e4,e5]
      ·show ns.length=8
       rw [q3,List.length_map] at c
       exact c
      ·show ws.length<=4
       rw [p3,List.length_map,Av] at c2
       omega
   ·refine bad ?_ (by rw [er,decide_eq_false (fun z=>c3 z.2),Bool.false_and])
    rw [es,IV r1 (by omega)]
    rfl
  ·rw [if_neg c2] at es
   refine bad ?_ (by rw [er,decide_eq_false (fun z=>c2 z.1),Bool.false_and])
   rw [es]
   rfl
 ·rw [if_neg c] at es
  rw [decide_eq_false c,Bool.false_and,Bool.false_and] at er
  refine ⟨fun _=> ?_,fun h=> ?_⟩
  ·unfold Vbaham.stepRows
   rw [es]
   rfl
  ·rw [er] at h
   cases h
theorem len0 {α : Type} {l:List α} (h:0=l.length):l=[]:=List.eq_nil_of_length_eq_zero h.symm
theorem Qq {α : Type} {l:List α} (h:1=l.length):∃ a,l=[a]:=match l,h with | [a],_=>⟨a,rfl⟩
theorem Ud {α : Type} {l:List α} (h:2=l.length):∃ a b,l=[a,b]:=match l,h with | [a,b],_=>⟨a,b,rfl⟩
theorem len3 {α : Type} {l:List α} (h:3=l.length):∃ a b c,l=[a,b,c]:=match l,h with | [a,b,c],_=>⟨a,b,c,rfl⟩
theorem len4 {α : Type} {l:List α} (h:4=l.length):∃ a b c d,l=[a,b,c,d]:=match l,h with | [a,b,c,d],_=>⟨a,b,c,d,rfl⟩
theorem len6 {α : Type} {l:List α} (h:6=l.length):∃ a b c d e f,l=[a,b,c,d,e,f]:=match l,h with | [a,b,c,d,e,f],_=>⟨a,b,c,d,e,f,rfl⟩
theorem Wz (s:HS) (S:State) (W:Wf s S) (p:Nat) (args:List Int) (rows:List (List Int)) (Z:O3 D0 p args rows):Good A0 D0 s S p args rows:=by
 obtain ⟨⟨ss,h1,h2,_⟩,⟨ns,h3,h4,_⟩,_⟩:=Z
 match p,h1,h3 with
 | 0,h1,h3 =>
  cases h1; cases h3
  obtain ⟨a,b,c,d,e,f,rfl⟩:=len6 h2
  obtain ⟨r,t,rfl⟩:=Ud h4
  exact abl W a b c d e f r t
 | 1,h1,h3 =>
  cases h1; cases h3
  obtain ⟨a,b,c,d,rfl⟩:=len4 h2
  obtain ⟨r,rfl⟩:=Qq h4
  exact abk W a b c d r
 | 2,h1,h3 =>
  cases h1; cases h3
  obtain ⟨a,b,c,rfl⟩:=len3 h2
  obtain rfl:=len0 h4
  exact abj W a b c
 | 3,h1,h3 =>
  cases h1; cases h3
  obtain ⟨a,b,rfl⟩:=Ud h2
  obtain rfl:=len0 h4
  exact abi W a b
 | 4,h1,h3 =>
  cases h1; cases h3
  obtain ⟨a,b,rfl⟩:=Ud h2
  obtain rfl:=len0 h4
  exact abh W a b
 | 5,h1,h3 =>
  cases h1; cases h3
  obtain ⟨a,rfl⟩:=Qq h2
  obtain rfl:=len0 h4
  exact abg W a
 | 6,h1,h3 =>
  cases h1; cases h3
  obtain ⟨a,b,c,rfl⟩:=len3 h2
  obtain rfl:=len0 h4
  exact abf W a b c
 | 7,h1,h3 =>
  cases h1; cases h3
  obtain ⟨a,b,rfl⟩:=Ud h2
  obtain rfl:=len0 h4
  exact abe W a b
 | 8,h1,h3 =>
  cases h1; cases h3
  obtain ⟨a,b,rfl⟩:=Ud h2
  obtain rfl:=len0 h4
  exact abd W a b
 | 9,h1,h3 =>
  cases h1; cases h3
  obtain ⟨a,rfl⟩:=Qq h2
  obtain rfl:=len0 h4
  exact abb W a
 | 10,h1,h3 =>
  cases h1; cases h3
  obtain ⟨a,b,c,rfl⟩:=len3 h2
  obtain rfl:=len0 h4
  exact Za W a b c
 | 11,h1,h3 =>
  cases h1; cases h3
  obtain ⟨a,b,rfl⟩:=Ud h2
  obtain rfl:=len0 h4
  exact Y9 W a b
 | 12,h1,h3 =>
  cases h1; cases h3
  obtain ⟨a,rfl⟩:=Qq h2
  obtain rfl:=len0 h4
  exact Y8 W a
 | 13,h1,h3 =>
  cases h1; cases h3
  obtain ⟨a,rfl⟩:=Qq h2
  obtain rfl:=len0 h4
  exact Y7 W a
 | 14,h1,h3 =>
  cases h1; cases h3
  obtain rfl:=len0 h2
  obtain rfl:=len0 h4
  exact Y6 W
 | 15,h1,h3 =>
  cases h1; cases h3
  obtain ⟨a,rfl⟩:=Qq h2
  obtain rfl:=len0 h4
  exact Y5 W a
 | 16,h1,h3 =>
  cases h1; cases h3
  obtain ⟨a,rfl⟩:=Qq h2
  obtain rfl:=len0 h4
  exact Y4 W a
 | p + 17,h1,h3 =>
  have:D0.args[p + 17]? = none:=rfl
  rw [this] at h1
  cases h1
end
end Crew
namespace L2
open PySem PySem.Spec PyProof.Rows
def SJ (K:PySem.W.Frag) (x qual:Str) (st:Stmt) (f:Addr):Prop:=∃ (oc:Value) (od:Option Addr) (kV doc pm:Value) (an:Option Addr) (cdv ct:Value) (osl:Array (Option Value)),
 K.lookup f=some ⟨oc,od,.func (PySem.W.fnOf x qual (u9 st) (qe st) (aD st) .none kV doc pm an cdv ct),osl⟩/\PySem.W.codeIn K cdv qual=true/\PySem.W.keepIn K (.ref f)=true
theorem SJ.fn {K:PySem.W.Frag} {x qual:Str} {st:Stmt} {f:Addr} (h:SJ K x qual st f):∃ fd,Fun K x qual st f fd:=by
 obtain ⟨oc,od,kV,doc,pm,an,cdv,ct,osl,l,c,k⟩:=h
 exact ⟨_,abn l c k⟩
def Df (K:PySem.W.Frag) (x:Str) (st:Stmt) (f:Addr):Prop:=PySem.W.nsIn K mainGlobals x=some (some (.ref f))/\SJ K x x st f
def Md (K:PySem.W.Frag) (C:Addr) (x q:Str) (st:Stmt) (f:Addr):Prop:=PySem.W.findIn K (.ref C) x=some (some (.ref f))/\PySem.W.isFn K (.ref f)=true/\SJ K x q st f
def NoAs (K:PySem.W.Frag) (C:Addr):List Str->Prop
 | []=>True
 | a :: l=>PySem.W.findIn K (.ref C) a=some none/\NoAs K C l
structure GK (K:PySem.W.Frag) (x:Str) (C:Addr) (as:List Str):Prop where
 at_:PySem.W.nsIn K mainGlobals x=some (some (.ref C))
 pg:PySem.W.plainGet K C Str.empty=true
 hd:PySem.W.hasDictIn K C=true
 po:PySem.W.plainOver K C=true
 sa:PySem.W.findIn K (.ref C) "__setattr__" = some (some (.builtin "object.__setattr__"))
 mks:PySem.W.makesIn K C=true
 kc:PySem.W.keepIn K (.ref C)=true
 no:NoAs K C as
theorem GK.cls {K:PySem.W.Frag} {x:Str} {C:Addr} {as:List Str} (h:GK K x C as):Cls K C:=⟨h.pg,h.hd,h.po,h.sa⟩
abbrev BindsOk (x q:Str) (st:Stmt) (ps:List Str):Prop:=∀ (kV doc pm:Value) (an:Option Addr) (cdv ct:Value) (us:List Value),us.length=ps.length->bindArgs (PySem.W.fnOf x q (u9 st) (qe st) (aD st) .none kV doc pm an cdv ct) ⟨us,[]⟩=pure (ps.zip us)
section
variable {P:Program} {w:World} {K:PySem.W.Frag} {mg:Str->Option Value} {base h:Heap} {x q:Str} {st:Stmt} {f C:Addr} {fd:FuncData} {k:Nat} {ps:List Str} {sp:Sp} {as:List Str}
theorem gI (X:K.In h) (G:h.Ns mainGlobals mg) (d:Df K x st f) (F:Fun K x x st f fd) (ok:aY P w K mg base CX0 k f fd ps sp) (b:BindsOk x x st ps):FnI P w K mg base x k f fd ps sp:=⟨ok,PySem.W.mg_of X G d.1,F.kp,F.binds b⟩
theorem mI (X:K.In h) (G:h.Ns mainGlobals mg) (c:GK K x C as) (d:Md K C "__init__" q st f) (F:Fun K "__init__" q st f fd) (ok:aY P w K mg base CX0 k f fd ps sp) (b:BindsOk "__init__" q st ps):MkI P w K mg base x C k f fd ps sp:=⟨ok,PySem.W.mg_of X G c.at_,⟨c.mks,d.1,d.2.1,c.kc⟩,F.binds b⟩
theorem tI (d:Md K C x q st f) (F:Fun K x q st f fd) (ok:aY P w K mg base CX0 k f fd ps sp) (b:BindsOk x q st ps):MtI P w K mg base C x k f fd ps sp:=⟨ok,⟨d.1,d.2.1,F.kp⟩,F.binds b⟩
end
def TupIn (K:PySem.W.Frag) (a:Addr) (xs:List V):Prop:=∃ (o:Obj) (its:Array Value) (n:Nat),K.lookup a=some o/\o.cls = .type "tuple" /\ o.data = .seq its n/\its.size<=sizeLine/\Vals xs its.toList
theorem TupIn.sq {K:PySem.W.Frag} {a:Addr} {xs:List V} (h:TupIn K a xs) (H:Hp):SqT K H a xs:= .inr h
def zP (w:World) (K:PySem.W.Frag) (a:Addr):Prop:=∃ (es:Array DictEntry) (n:Nat),K.lookup a=some ⟨.type "dict",none,.dict es n,#[]⟩/\PySem.W.KeysLit w.params es.toList
theorem zP.sq {w:World} {K:PySem.W.Frag} {a t:Addr} {x:Str} (h:zP w K a) (e:PySem.W.nsIn K a x=some (some (.ref t))):SqD w K a x (.ref t):=by
 obtain ⟨es,n,l,k⟩:=h
 exact ⟨es,n,_,l,k,e,rfl⟩
def Re (K:PySem.W.Frag) (a:Addr) (x:Str) (l:List V):Prop:=∃ t:Addr,PySem.W.nsIn K a x=some (some (.ref t))/\TupIn K t l
theorem zP.re {w:World} {K:PySem.W.Frag} {a:Addr} {x:Str} {l:List V} (h:zP w K a) (e:Re K a x l):∃ t:Addr,SqD w K a x (.ref t)/\∀ H,SqT K H t l:=by
 obtain ⟨t,e1,e2⟩:=e
 exact ⟨t,h.sq e1,e2.sq⟩
def IKs:List DictEntry->List (Int × V)->Prop
 | [],[]=>True
 | e :: es,(k,v) :: kvs=>(∃ t,e.key = .int k t)/\e.hash=hashInt k/\RelV v e.val/\IKs es kvs
 | _,_=>False
theorem IKs.keys:∀ {es:List DictEntry} {kvs:List (Int × V)},IKs es kvs->IntKeys es
 | [],[],_=>fun e m=>by cases m
 | e :: es,(k,v) :: kvs,⟨⟨t,h1⟩,h2,_,h4⟩=>fun e' m=>by
  rcases List.mem_cons.mp m with rfl | m
  ·exact ⟨k,t,h1,h2⟩
  ·exact h4.keys e' m
theorem IKs.find (z:Int):∀ {es:List DictEntry} {kvs:List (Int × V)},IKs es kvs->rG (kvs.lookup z) ((es.find? fun e=>Value.isInt z e.key).map (·.val))
 | [],[],_=>trivial
 | e :: es,(k,v) :: kvs,⟨⟨t,h1⟩,h2,h3,h4⟩=>by
  rw [List.lookup_cons,List.find?_cons]
  by_cases c:z=k
  ·have e1:Value.isInt z e.key=true:=by rw [h1,c]; simp [Value.isInt]
   have e2:(z == k)=true:=by simpa using c
   rw [e1,e2]
   exact h3
  ·have e1:Value.isInt z e.key=false:=by
    rw [h1]
    simp [Value.isInt]
    exact fun q=>c q.symm
   have e2:(z == k)=false:=by simpa using c
   rw [e1,e2]
   exact h4.find z
def Ra (K:PySem.W.Frag) (a:Addr) (kvs:List (Int × V)):Prop:=(a == sysModules)=false/\∃ (es:Array DictEntry) (n:Nat),K.lookup a=some ⟨.type "dict",none,.dict es n,#[]⟩/\IKs es.toList kvs
theorem Ra.sq {K:PySem.W.Frag} {a:Addr} {kvs:List (Int × V)} (h:Ra K a kvs):SqDI K a kvs:=by
 obtain ⟨h0,es,n,l,k⟩:=h
 refine ⟨h0,es,n,l,k.keys,fun z=> ?_⟩
 have:=k.find z
 obtain ⟨l'⟩:=es
 unfold findBy
 rw [List.find?_toArray]
 exact this
theorem abB {w:World} {K:PySem.W.Frag} {C N:Addr} {nm q:Str} {bs:List Value} {hd:Bool} {sn:List Str} {sub:List Value} {ab:Bool} {col:Option Bool} {dd:Option Addr} {k0 k1 k2 k3 k5:Option Value} {newId:String}
  (l:K.lookup C=some (excClassObj nm q C N bs [.type "object"] hd sn sub ab col dd k0 k1 k2 k3 k5 newId)) (n:zP w K N) (e1:PySem.W.nsIn K N "__eq__" = some none) (e2:PySem.W.nsIn K N "__ne__" = some none):CEq K C:=by
 obtain ⟨es,ep,l2,hk⟩:=n
 have hf:∀ x:Str,nsFind es x=findBy Value.isStrOf es x:=fun x=>by
  unfold nsFind
  have:(fun (n:Str) (v:Value)=>v.isStr n)=Value.isStrOf:=funext fun n=>funext fun v=>PySem.W.isStr_of n v
  rw [this]
 refine ⟨nm,q,N,bs,hd,sn,sub,ab,col,dd,k0,k1,k2,k3,k5,newId,_,es,ep,l,l2,rfl,fun e m=> ?_,?_,?_⟩
 ·obtain ⟨x,t,h1,_⟩:=hk.all e (Array.mem_toList_iff.mpr m)
  exact ⟨x,t,h1⟩
 ·rw [hf]; exact PySem.W.find_K l2 e1
 ·rw [hf]; exact PySem.W.find_K l2 e2
end L2
namespace Crew
open PySem PySem.Spec PyProof.Rows L2
open Vbaham (Leg Rules Member State)
theorem abF {P:Program} {w:World} {K:PySem.W.Frag} {h:Heap} {mg:Str->Option Value} {fa:Addr} (X:K.In h) (G:h.Ns mainGlobals mg) (hfa:mg "answers" = some (.ref fa))
  {Rf Ln O8 GP Lp Rc Rg oJ Oe Oa K7 HX yt QC KR Dk Ia FP KJ N8 qP Br HY qO qN j9 uf QD Oc K9 FJ K4 KQ K8 KY yr KN p8 ul jC nu ug p7 HW QB KH m9 wX Qz pZ KZ W5 Oi HR Ux abr Qy Aw N6 Ob FN Dl K6 Oh Oj N7 K5 ni pX m8 Og wW pY uh nj Od um Uy Jw Li Lh uB bJ Q5 dU gH tA0 tA1 tA2 tA3 tA4 tA5 tA6 tA7 tA8 tA9 tA10 tA11 tA12 tA13 tA14 tA15 tA16 tW0 tW1:Addr} {t_DAY LK DP LQ G5 G4 PB G3 aat DK JC Vq DQ DN LC Vr:Tok} {nmL qL:Str} {N_leg:Addr} {bsL:List Value} {hdL:Bool} {snL:List Str} {subL:List Value} {abL:Bool} {colL:Option Bool} {ddL:Option Addr} {k0L k1L k2L k3L k5L:Option Value} {newL:String}
  (za:GK K "Duty" Rf ["legs", "begin", "end"])
  (fU:GK K "Rules" Ln ["turn", "gap", "before", "after", "rest", "days", "longest", "windows"])
  (uz:GK K "Leg" O8 ["place", "origin", "to", "dep", "arr", "needs"])
  (jR:GK K "Member" GP ["number", "base", "rank", "legs"])
  (uA:GK K "House" Lp ["rules", "legs", "members"])
  (vh:GK K "Plan" Rc ["rules", "base", "roster", "duties"])
  (zb:GK K "Call" Rg ["place", "arguments", "rows"])
  (vg:GK K "Reader" oJ ["numbers", "at"])
  (lLeg:K.lookup O8=some (excClassObj nmL qL O8 N_leg bsL [.type "object"] hdL snL subL abL colL ddL k0L k1L k2L k3L k5L newL))
  (dLeg:zP w K N_leg)
  (e1Leg:PySem.W.nsIn K N_leg "__eq__" = some none)
  (e2Leg:PySem.W.nsIn K N_leg "__ne__" = some none)
  (b_max:PySem.W.nsIn K mainGlobals "max" = some none)
  (b_sum:PySem.W.nsIn K mainGlobals "sum" = some none)
  (b_any:PySem.W.nsIn K mainGlobals "any" = some none)
  (b_all:PySem.W.nsIn K mainGlobals "all" = some none)
  (b_len:PySem.W.nsIn K mainGlobals "len" = some none)
  (Xl:PySem.W.nsIn K mainGlobals "sorted" = some none)
  (abD:PySem.W.nsIn K mainGlobals "list" = some none)
  (ZR:PySem.W.nsIn K mainGlobals "range" = some none)
  (OJ:PySem.W.nsIn K mainGlobals "enumerate" = some none)
  (b_zip:PySem.W.nsIn K mainGlobals "zip" = some none)
  (NK:PySem.W.nsIn K mainGlobals "DAY" = some (some (.int 1440 t_DAY)))
  (lE:PySem.W.nsIn K mainGlobals "MOST_LEGS" = some (some (.int 60 LK)))
  (iy:PySem.W.nsIn K mainGlobals "MOST_MEMBERS" = some (some (.int 30 DP)))
  (jn:PySem.W.nsIn K mainGlobals "FIRST_DEP" = some (some (.int 1440 LQ)))
  (jd:PySem.W.nsIn K mainGlobals "LAST_MOMENT" = some (some (.int 10000000 G5)))
  (jc:PySem.W.nsIn K mainGlobals "LONGEST_LEG" = some (some (.int 1200 G4)))
  (pW:PySem.W.nsIn K mainGlobals "TAKEN_ID" = some (some (.int (-4) PB)))
  (dR:PySem.W.nsIn K mainGlobals "NOT_ALLOWED" = some (some (.int (-5) G3)))
  (Fw:PySem.W.nsIn K mainGlobals "FULL" = some (some (.int (-6) aat)))
  (dB:PySem.W.nsIn K mainGlobals "WRONG_HOLDER" = some (some (.int (-8) DK)))
  (jL:PySem.W.nsIn K mainGlobals "NOT_NEEDED" = some (some (.int (-9) JC)))
  (ym:PySem.W.nsIn K mainGlobals "UNLIKE" = some (some (.int (-10) Vq)))
  (iz:PySem.W.nsIn K mainGlobals "BEFORE_KINDS" = some (some (.int (-10) DQ)))
  (iw:PySem.W.nsIn K mainGlobals "OUT_OF_RANGE" = some (some (.int (-2) DN)))
  (lD:PySem.W.nsIn K mainGlobals "NO_MEMBER" = some (some (.int (-3) LC)))
  (yo:PySem.W.nsIn K mainGlobals "NO_LEG" = some (some (.int (-7) Vr)))
  (BP:Md K Rf "__init__" "Duty.__init__" sW Oe)
  (Bw:Df K "length_of" sJ Oa)
  (yP:Df K "cut_duties" pA K7)
  (vQ:Df K "longest_run" mH HX)
  (lK:Df K "departure_order" ig yt)
  (Gh:Df K "in_order" wI QC)
  (yJ:Df K "minutes_of" o6 KR)
  (qU:Df K "minutes_since" jw Dk)
  (vU:Df K "differences" mK Ia)
  (ut:Df K "flown_before" j4 FP)
  (yG:Df K "most_flown" oZ KJ)
  (Bv:Md K Rc "__init__" "Plan.__init__" sI N8)
  (qT:Df K "misplaced_leg" ju qP)
  (BK:Df K "hasty_leg" sU Br)
  (vR:Df K "is_overlong" mJ HY)
  (qR:Df K "overlong_duty" jt qO)
  (qQ:Df K "unrested_duty" jr qN)
  (kj:Df K "overflown_window" gm j9)
  (uq:Df K "overlong_run" jZ uf)
  (Gi:Df K "fault_of" wJ QD)
  (BJ:Df K "is_broken" sS Oc)
  (yX:Df K "broken_ids" pJ K9)
  (uo:Df K "refusal_with" jY FJ)
  (yM:Df K "holders_of" o9 K4)
  (yI:Df K "missing_in" o5 KQ)
  (yQ:Df K "could_take" pB K8)
  (yK:Df K "load_order" o7 KY)
  (lJ:Df K "fitting_members" ie yr)
  (yH:Df K "mixed_legs" o4 KN)
  (yW:Df K "call_check" pI p8)
  (Ca:Df K "call_fits" tG ul)
  (qX:Df K "call_unassign" jy jC)
  (vZ:Df K "call_assign" mW nu)
  (BW:Df K "call_swap" sZ ug)
  (yV:Df K "call_delay" pH p7)
  (vP:Md K GP "__init__" "Member.__init__" mG HW)
  (Gg:Md K O8 "__init__" "Leg.__init__" wH QB)
  (yF:Md K Ln "__init__" "Rules.__init__" oY KH)
  (vW:Df K "call_member" mO m9)
  (Gm:Df K "call_leg" wL wX)
  (Ge:Df K "pairs_of" wG Qz)
  (yU:Df K "call_rules" pG pZ)
  (yL:Md K Lp "__init__" "House.__init__" o8 KZ)
  (Ou:Df K "leg_at" Eg W5)
  (BZ:Md K Rg "__init__" "Call.__init__" tE Oi)
  (vO:Md K oJ "__init__" "Reader.__init__" mF HR)
  (Jo:Md K oJ "is_done" "Reader.is_done" iJ Ux)
  (Xg:Md K oJ "take" "Reader.take" mD abr)
  (Gd:Md K oJ "take_one" "Reader.take_one" gZ Qy)
  (oE:Df K "argument_sorts" iK Aw)
  (Bt:Df K "row_names" sG N6)
  (Bx:Df K "is_within" sO Ob)
  (ur:Df K "is_row_right" j0 FN)
  (qW:Df K "is_call_right" jx Dl)
  (yO:Df K "find_named" pq K6)
  (BV:Df K "carry_out" sY Oh)
  (Ce:Df K "answer_of" tK Oj)
  (Bu:Df K "read_call" sH N7)
  (yN:Df K "flown_from" ph K5)
  (vX:Df K "call_flying" mQ ni)
  (yR:Df K "call_worst" pC pX)
  (vV:Df K "call_roster" mL m8)
  (BR:Df K "duties_of" sX Og)
  (Gk:Df K "call_run" wK wW)
  (yS:Df K "call_shown" pF pY)
  (BX:Df K "call_open" tu uh)
  (vY:Df K "call_duties" mR nj)
  (BL:Df K "fill_rank" sV Od)
  (Cd:Df K "call_fill" tH um)
  (Jp:Df K "answers" zU Uy)
  (Up:PySem.W.nsIn K mainGlobals "FINDERS" = some (some (.ref Jw)))
  (Zc:PySem.W.nsIn K mainGlobals "CALLS" = some (some (.ref Li)))
  (Zb:PySem.W.nsIn K mainGlobals "RANKS" = some (some (.ref Lh)))
  (NP:PySem.W.nsIn K mainGlobals "ARGUMENTS" = some (some (.ref uB)))
  (WF:PySem.W.nsIn K mainGlobals "RANGES" = some (some (.ref bJ)))
  (abm:PySem.W.nsIn K mainGlobals "ROWS" = some (some (.ref Q5)))
  (HQ:PySem.W.nsIn K mainGlobals "ROW_LENGTHS" = some (some (.ref dU)))
  (NB:PySem.W.nsIn K mainGlobals "ROW_SORTS" = some (some (.ref gH)))
  (Lx:TupIn K Jw [.ref qP,.ref Br,.ref qO,.ref qN,.ref j9,.ref uf])
  (Td:TupIn K Li [.ref pZ,.ref wX,.ref m9,.ref nu,.ref jC,.ref p8,.ref ug,.ref p7,.ref ul,.ref um,.ref ni,.ref pX,.ref m8,.ref nj,.ref uh,.ref wW,.ref pY])
  (Tc:TupIn K Lh [.int 0,.int 1,.int 2])
  (GX:TupIn K uB [.ref tA0,.ref tA1,.ref tA2,.ref tA3,.ref tA4,.ref tA5,.ref tA6,.ref tA7,.ref tA8,.ref tA9,.ref tA10,.ref tA11,.ref tA12,.ref tA13,.ref tA14,.ref tA15,.ref tA16])
  (u_tA0:TupIn K tA0 [.str "turn",.str "gap",.str "margin",.str "margin",.str "rest",.str "days"])
  (u_tA1:TupIn K tA1 [.str "airport",.str "airport",.str "moment",.str "moment"])
  (u_tA2:TupIn K tA2 [.str "newcomer",.str "airport",.str "rank"])
  (u_tA3:TupIn K tA3 [.str "member",.str "leg"])
  (u_tA4:TupIn K tA4 [.str "member",.str "leg"])
  (u_tA5:TupIn K tA5 [.str "member"])
  (u_tA6:TupIn K tA6 [.str "member",.str "member",.str "moment"])
  (u_tA7:TupIn K tA7 [.str "leg",.str "shift"])
  (u_tA8:TupIn K tA8 [.str "leg",.str "rank"])
  (u_tA9:TupIn K tA9 [.str "leg"])
  (aar:TupIn K tA10 [.str "member",.str "moment",.str "span"])
  (aaq:TupIn K tA11 [.str "member",.str "span"])
  (aap:TupIn K tA12 [.str "member"])
  (aao:TupIn K tA13 [.str "member"])
  (aan:TupIn K tA14 [])
  (aam:TupIn K tA15 [.str "member"])
  (aal:TupIn K tA16 [.str "leg"])
  (dRG:zP w K bJ)
  (UG:Re K bJ "member" [.int 1,.int 1000000000])
  (Ol:Re K bJ "newcomer" [.int 1,.int 1000000000])
  (abu:Re K bJ "leg" [.int 1,.int 60])
  (QJ:Re K bJ "airport" [.int 0,.int 17575])
  (ZF:Re K bJ "rank" [.int 0,.int 2])
  (Uz:Re K bJ "moment" [.int 0,.int 10000000])
  (ZC:Re K bJ "span" [.int 0,.int 10000000])
  (Xc:Re K bJ "shift" [.int (-1440),.int 1440])
  (Zz:Re K bJ "turn" [.int 0,.int 300])
  (abv:Re K bJ "gap" [.int 300,.int 1440])
  (UJ:Re K bJ "margin" [.int 0,.int 180])
  (ZD:Re K bJ "rest" [.int 0,.int 2880])
  (ZK:Re K bJ "days" [.int 1,.int 30])
  (UL:Re K bJ "length" [.int 0,.int 1440])
  (QH:Re K bJ "stretch" [.int 60,.int 60000])
  (ZJ:Re K bJ "most" [.int 0,.int 60000])
  (ZG:Re K bJ "need" [.int 0,.int 4])
  (dRW:Ra K Q5 [(0,.ref tW0),(1,.ref tW1)])
  (u_tW0:TupIn K tW0 [.str "longest",.str "windows"])
  (u_tW1:TupIn K tW1 [.str "needs"])
  (dRL:zP w K dU)
  (QL:Re K dU "longest" [.int 8])
  (QK:Re K dU "windows" [.int 0,.int 2,.int 4,.int 6,.int 8])
  (Xd:Re K dU "needs" [.int 3])
  (dRS:zP w K gH)
  (QG:Re K gH "longest" [.str "length"])
  (QF:Re K gH "windows" [.str "stretch",.str "most"])
  (Xb:Re K gH "needs" [.str "need"])
  : ∃ fd:FuncData,(∀ (s:Shared) (us:List Value),us.length=(["calls"]:List Str).length->BindsTo s fd ⟨us,[]⟩ ((["calls"]:List Str).zip us))/\∀ base:Heap,K.In base->base.Ns mainGlobals mg->aY P w K mg base CX0 33 fa fd ["calls"] (wC K):=by
 have e:=hfa.symm.trans (PySem.W.mg_of X G Jp.1)
 cases e
 let C:Ads:=⟨Rf,Ln,O8,GP,Lp,Rc,Rg,oJ⟩
 have T:cB w K mg C:={
  Bk:=PySem.W.mg_none_of X G b_max
  Z6:=PySem.W.mg_none_of X G b_sum
  RQ:=PySem.W.mg_none_of X G b_any
  RT:=PySem.W.mg_none_of X G b_all
  iG:=PySem.W.mg_none_of X G b_len
  n6:=PySem.W.mg_none_of X G Xl
  Wh:=PySem.W.mg_none_of X G abD
  Dp:=PySem.W.mg_none_of X G ZR
  d9:=PySem.W.mg_none_of X G OJ
  Ff:=PySem.W.mg_none_of X G b_zip
  fJ:=za.cls
  cY:=fU.cls
  bQ:=uz.cls
  aN:=jR.cls
  bO:=uA.cls
  dY:=vh.cls
  km:=zb.cls
  cN:=vg.cls
  FQ:=abB lLeg dLeg e1Leg e2Leg
  NK:=⟨_,PySem.W.mg_of X G NK⟩
  lE:=⟨_,PySem.W.mg_of X G lE⟩
  iy:=⟨_,PySem.W.mg_of X G iy⟩
  jn:=⟨_,PySem.W.mg_of X G jn⟩
  jd:=⟨_,PySem.W.mg_of X G jd⟩
  jc:=⟨_,PySem.W.mg_of X G jc⟩
  pW:=⟨_,PySem.W.mg_of X G pW⟩
  dR:=⟨_,PySem.W.mg_of X G dR⟩
  Fw:=⟨_,PySem.W.mg_of X G Fw⟩
  dB:=⟨_,PySem.W.mg_of X G dB⟩
  jL:=⟨_,PySem.W.mg_of X G jL⟩
  ym:=⟨_,PySem.W.mg_of X G ym⟩
  iz:=⟨_,PySem.W.mg_of X G iz⟩
  iw:=⟨_,PySem.W.mg_of X G iw⟩
  lD:=⟨_,PySem.W.mg_of X G lD⟩
  yo:=⟨_,PySem.W.mg_of X G yo⟩
  Gf:=za.no.1
  vd:=za.no.2.1
  Gj:=za.no.2.2.1
  PQ:=fU.no.1
  VD:=fU.no.2.1
  Ek:=fU.no.2.2.1
  JV:=fU.no.2.2.2.1
  PX:=fU.no.2.2.2.2.1
  P0:=fU.no.2.2.2.2.2.1
  zY:=fU.no.2.2.2.2.2.2.1
  zX:=fU.no.2.2.2.2.2.2.2.1
  yg:=uz.no.1
  yh:=uz.no.2.1
  YW:=uz.no.2.2.1
  lB:=uz.no.2.2.2.1
  t7:=uz.no.2.2.2.2.1
  Dr:=uz.no.2.2.2.2.2.1
  jm:=jR.no.1
  Fi:=jR.no.2.1
  wU:=jR.no.2.2.1
  cG:=jR.no.2.2.2.1
  pN:=vh.no.1
  Qg:=vh.no.2.1
  nZ:=vh.no.2.2.1
  tW:=vh.no.2.2.2.1
  pU:=uA.no.1
  ue:=uA.no.2.1
  eQ:=uA.no.2.2.1
  yl:=zb.no.1
  lC:=zb.no.2.1
  Kw:=zb.no.2.2.1
  uT:=vg.no.1
  Tn:=vg.no.2.1
 }
 have RK:Dv K mg:=⟨Lh,PySem.W.mg_of X G Zb,Tc.sq⟩
 have B:Gp w K mg D0:=by
  refine ⟨⟨uB,[tA0,tA1,tA2,tA3,tA4,tA5,tA6,tA7,tA8,tA9,tA10,tA11,tA12,tA13,tA14,tA15,tA16],PySem.W.mg_of X G NP,GX.sq,rfl,fun i t l h1 h2=> ?_⟩,⟨Q5,_,PySem.W.mg_of X G abm,dRW.sq,fun p l h1=> ?_⟩,⟨bJ,PySem.W.mg_of X G WF,?_⟩,⟨dU,PySem.W.mg_of X G HQ,?_⟩,⟨gH,PySem.W.mg_of X G NB,?_⟩⟩
  ·match i,h1,h2 with
   | 0,h1,h2=>cases h1; cases h2; exact u_tA0.sq
   | 1,h1,h2=>cases h1; cases h2; exact u_tA1.sq
   | 2,h1,h2=>cases h1; cases h2; exact u_tA2.sq
   | 3,h1,h2=>cases h1; cases h2; exact u_tA3.sq
   | 4,h1,h2=>cases h1; cases h2; exact u_tA4.sq
   | 5,h1,h2=>cases h1; cases h2; exact u_tA5.sq
   | 6,h1,h2=>cases h1; cases h2; exact u_tA6.sq
   | 7,h1,h2=>cases h1; cases h2; exact u_tA7.sq
   | 8,h1,h2=>cases h1; cases h2; exact u_tA8.sq
   | 9,h1,h2=>cases h1; cases h2; exact u_tA9.sq
   | 10,h1,h2=>cases h1; cases h2; exact aar.sq
   | 11,h1,h2=>cases h1; cases h2; exact aaq.sq
   | 12,h1,h2=>cases h1; cases h2; exact aap.sq
   | 13,h1,h2=>cases h1; cases h2; exact aao.sq
   | 14,h1,h2=>cases h1; cases h2; exact aan.sq
   | 15,h1,h2=>cases h1; cases h2; exact aam.sq
   | 16,h1,h2=>cases h1; cases h2; exact aal.sq
   | i + 17,h1,h2=>cases h1
  ·match p,h1 with
   | 0,h1=>cases h1; exact .inl ⟨tW0,rfl,u_tW0.sq⟩
   | 1,h1=>cases h1; exact .inl ⟨tW1,rfl,u_tW1.sq⟩
   | 2,h1=>cases h1; exact .inr ⟨rfl,rfl⟩
   | 3,h1=>cases h1; exact .inr ⟨rfl,rfl⟩
   | 4,h1=>cases h1; exact .inr ⟨rfl,rfl⟩
   | 5,h1=>cases h1; exact .inr ⟨rfl,rfl⟩
   | 6,h1=>cases h1; exact .inr ⟨rfl,rfl⟩
   | 7,h1=>cases h1; exact .inr ⟨rfl,rfl⟩
   | 8,h1=>cases h1; exact .inr ⟨rfl,rfl⟩
   | 9,h1=>cases h1; exact .inr ⟨rfl,rfl⟩
   | 10,h1=>cases h1; exact .inr ⟨rfl,rfl⟩
   | 11,h1=>cases h1; exact .inr ⟨rfl,rfl⟩
   | 12,h1=>cases h1; exact .inr ⟨rfl,rfl⟩
   | 13,h1=>cases h1; exact .inr ⟨rfl,rfl⟩
   | 14,h1=>cases h1; exact .inr ⟨rfl,rfl⟩
   | 15,h1=>cases h1; exact .inr ⟨rfl,rfl⟩
   | 16,h1=>cases h1; exact .inr ⟨rfl,rfl⟩
   | p + 17,h1=>cases h1
  ·show ∀ e ∈ ([("member",1,1000000000),("newcomer",1,1000000000),("leg",1,60),("airport",0,17575),("rank",0,2),("moment",0,10000000),("span",0,10000000),("shift",-1440,1440),("turn",0,300),("gap",300,1440),("margin",0,180),("rest",0,2880),("days",1,30),("length",0,1440),("stretch",60,60000),("most",0,60000),("need",0,4)]:List (Str × Int × Int)),_
   exact List.forall_mem_cons.mpr ⟨dRG.re UG,List.forall_mem_cons.mpr ⟨dRG.re Ol,List.forall_mem_cons.mpr ⟨dRG.re abu,List.forall_mem_cons.mpr ⟨dRG.re QJ,List.forall_mem_cons.mpr ⟨dRG.re ZF,List.forall_mem_cons.mpr ⟨dRG.re Uz,List.forall_mem_cons.mpr ⟨dRG.re ZC,List.forall_mem_cons.mpr ⟨dRG.re Xc,List.forall_mem_cons.mpr ⟨dRG.re Zz,List.forall_mem_cons.mpr ⟨dRG.re abv,List.forall_mem_cons.mpr ⟨dRG.re UJ,List.forall_mem_cons.mpr ⟨dRG.re ZD,List.forall_mem_cons.mpr ⟨dRG.re ZK,List.forall_mem_cons.mpr ⟨dRG.re UL,List.forall_mem_cons.mpr ⟨dRG.re QH,List.forall_mem_cons.mpr ⟨dRG.re ZJ,List.forall_mem_cons.mpr ⟨dRG.re ZG,fun e m=>by cases m⟩⟩⟩⟩⟩⟩⟩⟩⟩⟩⟩⟩⟩⟩⟩⟩⟩
  ·show ∀ e ∈ ([("longest",[8]),("windows",[0,2,4,6,8]),("needs",[3])]:List (Str × List Int)),_
   exact List.forall_mem_cons.mpr ⟨dRL.re QL,List.forall_mem_cons.mpr ⟨dRL.re QK,List.forall_mem_cons.mpr ⟨dRL.re Xd,fun e m=>by cases m⟩⟩⟩
  ·show ∀ e ∈ ([("longest",["length"]),("windows",["stretch", "most"]),("needs",["need"])]:List (Str × List Str)),_
   exact List.forall_mem_cons.mpr ⟨dRS.re QG,List.forall_mem_cons.mpr ⟨dRS.re QF,List.forall_mem_cons.mpr ⟨dRS.re Xb,fun e m=>by cases m⟩⟩⟩
 obtain ⟨Zn,Cv⟩:=BP.2.2.fn
 obtain ⟨Zh,Cm⟩:=Bw.2.fn
 obtain ⟨X3,zG⟩:=yP.2.fn
 obtain ⟨WQ,v9⟩:=vQ.2.fn
 obtain ⟨Qv,lO⟩:=lK.2.fn
 obtain ⟨aad,Gy⟩:=Gh.2.fn
 obtain ⟨XM,zy⟩:=yJ.2.fn
 obtain ⟨Uu,rA⟩:=qU.2.fn
 obtain ⟨WT,wj⟩:=vU.2.fn
 obtain ⟨Vd,uP⟩:=ut.2.fn
 obtain ⟨XF,zr⟩:=yG.2.fn
 obtain ⟨Zg,Ck⟩:=Bv.2.2.fn
 obtain ⟨Ut,rn⟩:=qT.2.fn
 obtain ⟨Zk,Cr⟩:=BK.2.fn
 obtain ⟨WR,wg⟩:=vR.2.fn
 obtain ⟨Us,rm⟩:=qR.2.fn
 obtain ⟨Ur,qZ⟩:=qQ.2.fn
 obtain ⟨Pk,kO⟩:=kj.2.fn
 obtain ⟨Vb,uN⟩:=uq.2.fn
 obtain ⟨aae,Gz⟩:=Gi.2.fn
 obtain ⟨Zj,Cq⟩:=BJ.2.fn
 obtain ⟨Yc,zO⟩:=yX.2.fn
 obtain ⟨Va,uM⟩:=uo.2.fn
 obtain ⟨XR,zB⟩:=yM.2.fn
 obtain ⟨XJ,zx⟩:=yI.2.fn
 obtain ⟨X4,zH⟩:=yQ.2.fn
 obtain ⟨XN,zz⟩:=yK.2.fn
 obtain ⟨Qu,lN⟩:=lJ.2.fn
 obtain ⟨XH,zu⟩:=yH.2.fn
 obtain ⟨Yb,zN⟩:=yW.2.fn
 obtain ⟨Zv,CK⟩:=Ca.2.fn
 obtain ⟨Uw,rC⟩:=qX.2.fn
 obtain ⟨W3,wz⟩:=vZ.2.fn
 obtain ⟨Zr,Cz⟩:=BW.2.fn
 obtain ⟨X8,zM⟩:=yV.2.fn
 obtain ⟨WP,v8⟩:=vP.2.2.fn
 obtain ⟨aac,Gx⟩:=Gg.2.2.fn
 obtain ⟨XD,zq⟩:=yF.2.2.fn
 obtain ⟨WX,wu⟩:=vW.2.fn
 obtain ⟨aag,GF⟩:=Gm.2.fn
 obtain ⟨aab,Gw⟩:=Ge.2.fn
 obtain ⟨X7,zL⟩:=yU.2.fn
 obtain ⟨XQ,zA⟩:=yL.2.2.fn
 obtain ⟨abO,O5⟩:=Ou.2.fn
 obtain ⟨Zu,CJ⟩:=BZ.2.2.fn
 obtain ⟨WN,v7⟩:=vO.2.2.fn
 obtain ⟨abq,Jy⟩:=Jo.2.2.fn
 obtain ⟨fd_take,Xq⟩:=Xg.2.2.fn
 obtain ⟨aaa,Gv⟩:=Gd.2.2.fn
 obtain ⟨R7,oH⟩:=oE.2.fn
 obtain ⟨Ze,Ci⟩:=Bt.2.fn
 obtain ⟨Zi,Cp⟩:=Bx.2.fn
 obtain ⟨Vc,uO⟩:=ur.2.fn
 obtain ⟨Uv,rB⟩:=qW.2.fn
 obtain ⟨XX,zF⟩:=yO.2.fn
 obtain ⟨Zq,Cy⟩:=BV.2.fn
 obtain ⟨Zx,CP⟩:=Ce.2.fn
 obtain ⟨Zf,Cj⟩:=Bu.2.fn
 obtain ⟨XS,zE⟩:=yN.2.fn
 obtain ⟨WY,ww⟩:=vX.2.fn
 obtain ⟨X5,zJ⟩:=yR.2.fn
 obtain ⟨WW,wk⟩:=vV.2.fn
 obtain ⟨Zo,Cw⟩:=BR.2.fn
 obtain ⟨aaf,GC⟩:=Gk.2.fn
 obtain ⟨X6,zK⟩:=yS.2.fn
 obtain ⟨Zt,CG⟩:=BX.2.fn
 obtain ⟨W2,wy⟩:=vY.2.fn
 obtain ⟨Zm,Cu⟩:=BL.2.fn
 obtain ⟨Zw,CN⟩:=Cd.2.fn
 obtain ⟨Qw,Jz⟩:=Jp.2.fn
 refine ⟨Qw,fun s us hu=> ?_,fun base _ _=> ?_⟩
 ·obtain ⟨oc,od,kV,doc,pm,an,cdv,ct,osl,rfl,_,_⟩:=Jz.ex
  exact match us,hu with | [_],_=> .of_eq rfl
 have Q8:=mI (P:=P) (base:=base) X G za BP Cv (Kc Cv T.toTxt) fun _ _ _ _ _ _ us hl=>match us,hl with | [_,_,_],_=>rfl
 have gK:=gI (P:=P) (base:=base) X G Bw Cm (J6 Cm T.toTxt) fun _ _ _ _ _ _ us hl=>match us,hl with | [_],_=>rfl
 have eZ:=gI (P:=P) (base:=base) X G yP zG (Hs zG T.toTxt Q8) fun _ _ _ _ _ _ us hl=>match us,hl with | [_,_],_=>rfl
 have dW:=gI (P:=P) (base:=base) X G vQ v9 (Es v9 T.toTxt) fun _ _ _ _ _ _ us hl=>match us,hl with | [_],_=>rfl
 have cZ:=gI (P:=P) (base:=base) X G lK lO (wR lO T.toTxt) fun _ _ _ _ _ _ us hl=>match us,hl with | [_],_=>rfl
 have dG:=gI (P:=P) (base:=base) X G Gh Gy (MT Gy T.toTxt cZ) fun _ _ _ _ _ _ us hl=>match us,hl with | [_],_=>rfl
 have eX:=gI (P:=P) (base:=base) X G yJ zy (Hk zy T.toTxt) fun _ _ _ _ _ _ us hl=>match us,hl with | [_],_=>rfl
 have gb:=gI (P:=P) (base:=base) X G qU rA (Ad rA T.toTxt) fun _ _ _ _ _ _ us hl=>match us,hl with | [_,_],_=>rfl
 have dX:=gI (P:=P) (base:=base) X G vU wj (Eu wj T.toTxt) fun _ _ _ _ _ _ us hl=>match us,hl with | [_,_],_=>rfl
 have cP:=gI (P:=P) (base:=base) X G ut uP (Dg uP T.toTxt gb dX) fun _ _ _ _ _ _ us hl=>match us,hl with | [_,_],_=>rfl
 have eV:=gI (P:=P) (base:=base) X G yG zr (Hh zr T.toTxt cP dX) fun _ _ _ _ _ _ us hl=>match us,hl with | [_,_],_=>rfl
 have Q7:=mI (P:=P) (base:=base) X G vh Bv Ck (J5 Ck T.toTxt dG eZ) fun _ _ _ _ _ _ us hl=>match us,hl with | [_,_,_,_],_=>rfl
 have jF:=gI (P:=P) (base:=base) X G qT rn (Ac rn T.toTxt) fun _ _ _ _ _ _ us hl=>match us,hl with | [_],_=>rfl
 have uE:=gI (P:=P) (base:=base) X G BK Cr (J9 Cr T.toTxt) fun _ _ _ _ _ _ us hl=>match us,hl with | [_],_=>rfl
 have nG:=gI (P:=P) (base:=base) X G vR wg (Et wg T.toTxt gK) fun _ _ _ _ _ _ us hl=>match us,hl with | [_,_],_=>rfl
 have jE:=gI (P:=P) (base:=base) X G qR rm (Ab rm T.toTxt nG) fun _ _ _ _ _ _ us hl=>match us,hl with | [_],_=>rfl
 have jD:=gI (P:=P) (base:=base) X G qQ qZ (Aa qZ T.toTxt gK) fun _ _ _ _ _ _ us hl=>match us,hl with | [_],_=>rfl
 have gC:=gI (P:=P) (base:=base) X G kj kO (vq kO T.toTxt eV) fun _ _ _ _ _ _ us hl=>match us,hl with | [_],_=>rfl
 have kI:=gI (P:=P) (base:=base) X G uq uN (Dc uN T.toTxt dW) fun _ _ _ _ _ _ us hl=>match us,hl with | [_],_=>rfl
 have dH:=gI (P:=P) (base:=base) X G Gi Gz (M3 Gz T.toTxt Q7 (PySem.W.mg_of X G Up) Lx.sq ⟨_,jF.ok.mono (by decide),jF.kp,jF.bd⟩ ⟨_,uE.ok.mono (by decide),uE.kp,uE.bd⟩ ⟨_,jE.ok.mono (by decide),jE.kp,jE.bd⟩ ⟨_,jD.ok.mono (by decide),jD.kp,jD.bd⟩ ⟨_,gC.ok.mono (by decide),gC.kp,gC.bd⟩ ⟨_,kI.ok.mono (by decide),kI.kp,kI.bd⟩) fun _ _ _ _ _ _ us hl=>match us,hl with | [_,_,_],_=>rfl
 have uD:=gI (P:=P) (base:=base) X G BJ Cq (J8 Cq T dH) fun _ _ _ _ _ _ us hl=>match us,hl with | [_,_],_=>rfl
 have fj:=gI (P:=P) (base:=base) X G yX zO (HF zO T uD) fun _ _ _ _ _ _ us hl=>match us,hl with | [_],_=>rfl
 have bH:=gI (P:=P) (base:=base) X G uo uM (CZ uM T dH) fun _ _ _ _ _ _ us hl=>match us,hl with | [_,_,_],_=>rfl
 have eY:=gI (P:=P) (base:=base) X G yM zB (Hn zB T) fun _ _ _ _ _ _ us hl=>match us,hl with | [_,_,_],_=>rfl
 have cH:=gI (P:=P) (base:=base) X G yI zx (Hj zx T eY) fun _ _ _ _ _ _ us hl=>match us,hl with | [_,_,_],_=>rfl
 have qw:=gI (P:=P) (base:=base) X G yQ zH (Hu zH T bH) fun _ _ _ _ _ _ us hl=>match us,hl with | [_,_,_],_=>rfl
 have iD:=gI (P:=P) (base:=base) X G yK zz (Hl zz T eX) fun _ _ _ _ _ _ us hl=>match us,hl with | [_],_=>rfl
 have cz:=gI (P:=P) (base:=base) X G lJ lN (wQ lN T qw iD) fun _ _ _ _ _ _ us hl=>match us,hl with | [_,_,_],_=>rfl
 have jM:=gI (P:=P) (base:=base) X G yH zu (Hi zu T) fun _ _ _ _ _ _ us hl=>match us,hl with | [_,_,_],_=>rfl
 have qF:=gI (P:=P) (base:=base) X G yW zN (HD zN T dH) fun _ _ _ _ _ _ us hl=>match us,hl with | [_,_,_],_=>rfl
 have uJ:=gI (P:=P) (base:=base) X G Ca CK (Km CK T cz) fun _ _ _ _ _ _ us hl=>match us,hl with | [_,_,_],_=>rfl
 have jH:=gI (P:=P) (base:=base) X G qX rC (Af rC T) fun _ _ _ _ _ _ us hl=>match us,hl with | [_,_,_],_=>rfl
 have nP:=gI (P:=P) (base:=base) X G vZ wz (EY wz T cH bH) fun _ _ _ _ _ _ us hl=>match us,hl with | [_,_,_],_=>rfl
 have uH:=gI (P:=P) (base:=base) X G BW Cz (Kg Cz T jM bH) fun _ _ _ _ _ _ us hl=>match us,hl with | [_,_,_],_=>rfl
 have qD:=gI (P:=P) (base:=base) X G yV zM (HB zM T fj) fun _ _ _ _ _ _ us hl=>match us,hl with | [_,_,_],_=>rfl
 have Gs:=mI (P:=P) (base:=base) X G jR vP v8 (Er v8 T) fun _ _ _ _ _ _ us hl=>match us,hl with | [_,_,_,_],_=>rfl
 have Xp:=mI (P:=P) (base:=base) X G uz Gg Gx (MP Gx T) fun _ _ _ _ _ _ us hl=>match us,hl with | [_,_,_,_,_],_=>rfl
 have vo:=mI (P:=P) (base:=base) X G fU yF zq (Hg zq T) fun _ _ _ _ _ _ us hl=>match us,hl with | [_,_,_,_],_=>rfl
 have nJ:=gI (P:=P) (base:=base) X G vW wu (Ex wu T Gs) fun _ _ _ _ _ _ us hl=>match us,hl with | [_,_,_],_=>rfl
 have xq:=gI (P:=P) (base:=base) X G Gm GF (M5 GF T Xp) fun _ _ _ _ _ _ us hl=>match us,hl with | [_,_,_],_=>rfl
 have xj:=gI (P:=P) (base:=base) X G Ge Gw (MN Gw T) fun _ _ _ _ _ _ us hl=>match us,hl with | [_],_=>rfl
 have qC:=gI (P:=P) (base:=base) X G yU zL (Hy zL T vo xj fj) fun _ _ _ _ _ _ us hl=>match us,hl with | [_,_,_],_=>rfl
 have Lj:=mI (P:=P) (base:=base) X G uA yL zA (Hm zA T vo) fun _ _ _ _ _ _ us hl=>match us,hl with | [_],_=>rfl
 have Gu:=gI (P:=P) (base:=base) X G Ou O5 (T3 O5 T) fun _ _ _ _ _ _ us hl=>match us,hl with | [_,_],_=>rfl
 have Q9:=mI (P:=P) (base:=base) X G zb BZ CJ (Kl CJ T) fun _ _ _ _ _ _ us hl=>match us,hl with | [_,_,_,_],_=>rfl
 have Gr:=mI (P:=P) (base:=base) X G vg vO v7 (Ep v7 T) fun _ _ _ _ _ _ us hl=>match us,hl with | [_,_],_=>rfl
 have Bc:=tI (P:=P) (w:=w) (mg:=mg) (base:=base) Jo Jy (Qh Jy T) fun _ _ _ _ _ _ us hl=>match us,hl with | [_],_=>rfl
 have w6:=tI (P:=P) (w:=w) (mg:=mg) (base:=base) Xg Xq (YJ Xq T) fun _ _ _ _ _ _ us hl=>match us,hl with | [_,_],_=>rfl
 have qm:=tI (P:=P) (w:=w) (mg:=mg) (base:=base) Gd Gv (MK Gv T w6) fun _ _ _ _ _ _ us hl=>match us,hl with | [_],_=>rfl
 have bF:=gI (P:=P) (base:=base) X G oE oH (xY oH T B) fun _ _ _ _ _ _ us hl=>match us,hl with | [_],_=>rfl
 have gJ:=gI (P:=P) (base:=base) X G Bt Ci (J3 Ci T B) fun _ _ _ _ _ _ us hl=>match us,hl with | [_],_=>rfl
 have gM:=gI (P:=P) (base:=base) X G Bx Cp (J7 Cp T B) fun _ _ _ _ _ _ us hl=>match us,hl with | [_,_],_=>rfl
 have kJ:=gI (P:=P) (base:=base) X G ur uO (De uO T B gM) fun _ _ _ _ _ _ us hl=>match us,hl with | [_,_],_=>rfl
 have jG:=gI (P:=P) (base:=base) X G qW rB (Ae rB T B tbl0 bF kJ gM gJ) fun _ _ _ _ _ _ us hl=>match us,hl with | [_],_=>rfl
 have qu:=gI (P:=P) (base:=base) X G yO zF (Hq zF T bF Gu) fun _ _ _ _ _ _ us hl=>match us,hl with | [_,_],_=>rfl
 have uC:=gI (P:=P) (base:=base) X G Bu Cj (J4 Cj T B aaE Q9 qm w6 gJ) fun _ _ _ _ _ _ us hl=>match us,hl with | [_],_=>rfl
 have qp:=gI (P:=P) (base:=base) X G yN zE (Ho zE T.toTxt cP) fun _ _ _ _ _ _ us hl=>match us,hl with | [_,_,_],_=>rfl
 have nM:=gI (P:=P) (base:=base) X G vX ww (Ey ww T qp) fun _ _ _ _ _ _ us hl=>match us,hl with | [_,_,_],_=>rfl
 have qx:=gI (P:=P) (base:=base) X G yR zJ (Hv zJ T eV) fun _ _ _ _ _ _ us hl=>match us,hl with | [_,_,_],_=>rfl
 have nH:=gI (P:=P) (base:=base) X G vV wk (Ew wk T dG) fun _ _ _ _ _ _ us hl=>match us,hl with | [_,_,_],_=>rfl
 have gO:=gI (P:=P) (base:=base) X G BR Cw (Kd Cw T eZ dG) fun _ _ _ _ _ _ us hl=>match us,hl with | [_,_],_=>rfl
 have xm:=gI (P:=P) (base:=base) X G Gk GC (M4 GC T dW gO) fun _ _ _ _ _ _ us hl=>match us,hl with | [_,_,_],_=>rfl
 have qy:=gI (P:=P) (base:=base) X G yS zK (Hw zK T RK eY) fun _ _ _ _ _ _ us hl=>match us,hl with | [_,_,_],_=>rfl
 have uI:=gI (P:=P) (base:=base) X G BX CG (Kh CG T RK cH) fun _ _ _ _ _ _ us hl=>match us,hl with | [_,_,_],_=>rfl
 have nO:=gI (P:=P) (base:=base) X G vY wy (Ez wy T gO eX) fun _ _ _ _ _ _ us hl=>match us,hl with | [_,_,_],_=>rfl
 have uF:=gI (P:=P) (base:=base) X G BL Cu (Ka Cu T cz cH) fun _ _ _ _ _ _ us hl=>match us,hl with | [_,_,_],_=>rfl
 have uK:=gI (P:=P) (base:=base) X G Cd CN (Ko CN T RK uF) fun _ _ _ _ _ _ us hl=>match us,hl with | [_,_,_],_=>rfl
 have CI:SM P w K mg base C A0 17:=by
  refine ⟨⟨Li,[pZ,wX,m9,nu,jC,p8,ug,p7,ul,um,ni,pX,m8,nj,uh,wW,pY],PySem.W.mg_of X G Zc,Td.sq,rfl,fun i f h1=> ?_⟩⟩
  match i,h1 with
  | 0,h1=>cases h1; exact ⟨_,_,by decide,qC.ok,qC.kp,qC.bd⟩
  | 1,h1=>cases h1; exact ⟨_,_,by decide,xq.ok,xq.kp,xq.bd⟩
  | 2,h1=>cases h1; exact ⟨_,_,by decide,nJ.ok,nJ.kp,nJ.bd⟩
  | 3,h1=>cases h1; exact ⟨_,_,by decide,nP.ok,nP.kp,nP.bd⟩
  | 4,h1=>cases h1; exact ⟨_,_,by decide,jH.ok,jH.kp,jH.bd⟩
  | 5,h1=>cases h1; exact ⟨_,_,by decide,qF.ok,qF.kp,qF.bd⟩
  | 6,h1=>cases h1; exact ⟨_,_,by decide,uH.ok,uH.kp,uH.bd⟩
  | 7,h1=>cases h1; exact ⟨_,_,by decide,qD.ok,qD.kp,qD.bd⟩
  | 8,h1=>cases h1; exact ⟨_,_,by decide,uJ.ok,uJ.kp,uJ.bd⟩
  | 9,h1=>cases h1; exact ⟨_,_,by decide,uK.ok,uK.kp,uK.bd⟩
  | 10,h1=>cases h1; exact ⟨_,_,by decide,nM.ok,nM.kp,nM.bd⟩
  | 11,h1=>cases h1; exact ⟨_,_,by decide,qx.ok,qx.kp,qx.bd⟩
  | 12,h1=>cases h1; exact ⟨_,_,by decide,nH.ok,nH.kp,nH.bd⟩
  | 13,h1=>cases h1; exact ⟨_,_,by decide,nO.ok,nO.kp,nO.bd⟩
  | 14,h1=>cases h1; exact ⟨_,_,by decide,uI.ok,uI.kp,uI.bd⟩
  | 15,h1=>cases h1; exact ⟨_,_,by decide,xm.ok,xm.kp,xm.bd⟩
  | 16,h1=>cases h1; exact ⟨_,_,by decide,qy.ok,qy.kp,qy.bd⟩
  | i + 17,h1=>cases h1
 have uG:=gI (P:=P) (base:=base) X G BV Cy (Ke Cy T CI) fun _ _ _ _ _ _ us hl=>match us,hl with | [_,_,_,_],_=>rfl
 have uL:=gI (P:=P) (base:=base) X G Ce CP (Ks CP T rfl bF jG qu uG) fun _ _ _ _ _ _ us hl=>match us,hl with | [_,_],_=>rfl
 exact Qi Jz T Lj Gr Bc uL uC Wz
end Crew
open PySem PySem.W PyProof.Rows
set_option maxRecDepth 100000 in
set_option maxHeartbeats 0 in
theorem PySem.Challenge.cw_crewlegs_s01_answers_holds : PySem.Challenge.rw_crewlegs_s01_answers.Holds := by
 w_on; k_headS; (case hw=>exact ⟨[.list [.int 14]],by decide +kernel,by decide +kernel⟩)
 k_fillS
 refine L2.Pq (r:=PySem.Challenge.rw_crewlegs_s01_answers) (k:=33) (CX:=L2.CX0) (ps:=["calls"]) (sp:=Crew.wC) (by decide +kernel) rfl rfl ⟨rfl,by decide,by decide⟩ (fun w h Y=>PySem.W.kIn_of Y) ?F ?S (fun _ _ _ _ z=>z)
 case F =>
  intro w mg fa h Y KX G hmg
  refine' Crew.abF KX G hmg ?_ ?_ ?_ ?_ ?_ ?_ ?_ ?_ ?_ ?_ ?_ ?_ ?_ ?_ ?_ ?_ ?_ ?_ ?_ ?_ ?_ ?_ ?_ ?_ ?_ ?_ ?_ ?_ ?_ ?_ ?_ ?_ ?_ ?_ ?_ ?_ ?_ ?_ ?_ ?_ ?_ ?_ ?_ ?_ ?_ ?_ ?_ ?_ ?_ ?_ ?_ ?_ ?_ ?_ ?_ ?_ ?_ ?_ ?_ ?_ ?_ ?_ ?_ ?_ ?_ ?_ ?_ ?_ ?_ ?_ ?_ ?_ ?_ ?_ ?_ ?_ ?_ ?_ ?_ ?_ ?_ ?_ ?_ ?_ ?_ ?_ ?_ ?_ ?_ ?_ ?_ ?_ ?_ ?_ ?_ ?_ ?_ ?_ ?_ ?_ ?_ ?_ ?_ ?_ ?_ ?_ ?_ ?_ ?_ ?_ ?_ ?_ ?_ ?_ ?_ ?_ ?_ ?_ ?_ ?_ ?_ ?_ ?_ ?_ ?_ ?_ ?_ ?_ ?_ ?_ ?_ ?_ ?_ ?_ ?_ ?_ ?_ ?_ ?_ ?_ ?_ ?_ ?_ ?_ ?_ ?_ ?_ ?_ ?_ ?_ ?_ ?_ ?_ ?_ ?_ ?_ ?_ ?_ ?_ ?_ ?_ ?_ ?_ ?_ ?_ ?_
  all_goals first
   | k_is
   | exact ⟨by k_is,_,_,_,_,_,_,_,_,_,by k_is,by k_is,by k_is⟩
   | exact ⟨by k_is,by k_is,_,_,_,_,_,_,_,_,_,by k_is,by k_is,by k_is⟩
   | exact ⟨by k_is,by k_is,by k_is,by k_is,by k_is,by k_is,by k_is,by repeat (first | exact trivial | refine ⟨by k_is,?_⟩)⟩
   | exact ⟨_,_,by k_is,by k_keys⟩
   | exact ⟨by decide,_,_,by k_is,by exact ⟨⟨_,rfl⟩,rfl,rfl,⟨_,rfl⟩,rfl,rfl,trivial⟩⟩
   | exact ⟨_,_,_,by k_is,by exact rfl,by exact rfl,by decide,by repeat (first | exact .nil | refine .cons ⟨_,rfl⟩ ?_ | refine .cons rfl ?_)⟩
   | exact ⟨_,by k_is,_,_,_,by k_is,by exact rfl,by exact rfl,by decide,by repeat (first | exact .nil | refine .cons ⟨_,rfl⟩ ?_ | refine .cons rfl ?_)⟩
   | skip
 case S =>
  intro K H xs a hO hwi hask hx
  cases hx with
  | cons h1 h2 =>
   cases h2
   cases h1 with
   | lst hs ha =>
    have e:=L2.R5 a.1 _ ha
    subst e
    exact ⟨_,a.1,rfl,hs,hask,fun H' p hp=> .lst (L2.SqL.of hp) (L2.R9 _)⟩
#print axioms PySem.Challenge.cw_crewlegs_s01_answers_holds

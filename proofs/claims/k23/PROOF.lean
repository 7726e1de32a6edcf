import PyProof.Rows.All
import Wide.All
import OpenK.AllK
import Wide.FinOn
import Lean
import PyProof.EqAt
import PyProof.EqKinds
import PyProof.TupleCall
import PyProof.SeqRoads
import PyProof.NeData
import PyProof.Walks
import PyProof.Cells
import PyProof.CompFree
import PyProof.Rows.Range3
import PyProof.ZipIter
import PyProof.ListNew
import PyProof.Rows.ZipGen
import PyProof.Rows.FactsT2
import PyProof.ExcAttrAll.ValueError
import KE.KRevIter
import PyProof.Rows.SumAny
import KE.KIntText
import PyProof.StrBlockH
import PyProof.StrCalls2
import PyProof.StrWalks
import PyProof.ConsumeWalk
import PyProof.Rows.FStr
import KE.LcSums
import PyProof.NsDelKeeps
import PyProof.ListMulAny
import PyProof.Rows.ListMulArg
import PySem.Challenge.RW_coverfill_k23_halved
set_option Elab.async false
set_option linter.all false
set_option maxRecDepth 100000
set_option maxHeartbeats 4000000
set_option compiler.extract_closed false
theorem zzf {p:Prop}(h:false=true):p:=nomatch h
theorem zzb {a b:Nat}(h:Nat.ble a b=true):a<=b:=Nat.le_of_ble_eq_true h
theorem zzg {α:Type _}{l:List α}{i:Nat}{a:α}(h:l[i]?=some a):∃ w:i<l.length,l[i]=a:=List.getElem?_eq_some_iff.mp h
noncomputable section
open Bool (and_eq_true)
open PySem.Heap (lt_size get?_push_of_some get?_push_size)
open Nat (le_refl le_trans ne_of_lt lt_irrefl zero_le lt_of_lt_of_le mul_le_mul_right sub_self)
open Option (map_eq_some_iff)
open Classical (choose_spec)
open Int (toNat_natCast fmod_nonneg_of_pos fmod_lt_of_pos)
open List (all_eq_true append_assoc append_nil cons_append drop_eq_getElem_cons drop_eq_nil_of_le drop_one ext_getElem? filter_cons find?_cons flatten_cons forIn_cons forIn_nil getD_eq_getElem?_getD getElem?_append_left getElem?_append_right getElem?_eq_getElem getElem?_eq_none getElem?_map getElem?_range getElem?_replicate getElem?_set_ne getElem?_set_self length_append length_cons length_drop length_filter_le length_map length_nil length_range length_replicate length_set length_singleton length_take lookup_cons map_append map_congr_left map_cons map_map map_nil mem_append mem_append_right mem_cons mem_cons_of_mem mem_cons_self mem_filter mem_map mem_of_getElem? mem_of_mem_take mem_range mem_singleton nil_append nodup_cons not_mem_nil of_mem_zip range_succ rel_of_pairwise_cons replicate_succ reverse_cons set_append_right size_toArray tail_cons takeWhile_cons take_add_one take_length take_of_length_le take_zero zip_cons_cons)
section
namespace L2
open PySem Spec PyProof.Rows
abbrev Key:=Sum Int Str
def zRj:Key->Value->Bool
  | .inl k,v=>Value.isInt k v
  | .inr x,v=>Value.isStrOf x v
def keyH (w:World):Key->Int
  | .inl k=>hashInt k
  | .inr x=>hashStr w x
theorem zAl:∀ {k:Key} {v:Value},zRj k v=true->(∃ i t,k=Sum.inl i/\v=Value.int i t)\/(∃ x t,k=Sum.inr x/\v=Value.str x t)
  | .inl i,v,h=>by
    obtain ⟨t,e⟩:=Value.isInt_shape (k:=i) (v:=v) h;exact .inl ⟨i,t,rfl,e⟩
  | .inr x,v,h=>by
    obtain ⟨t,e⟩:=Value.isStrOf_shape (x:=x) (v:=v) h;exact .inr ⟨x,t,rfl,e⟩
theorem zRi (a b:Int):decide ((Sum.inl a:Key)=Sum.inl b)=(a==b):=by
  by_cases e:a=b
  . subst e;simp
  . have h:¬ (Sum.inl a:Key)=Sum.inl b:=fun q=>e (Sum.inl.inj q)
    rw [decide_eq_false h];exact (beq_eq_false_iff_ne.mpr e).symm
theorem zRf (a b:Str):decide ((Sum.inr a:Key)=Sum.inr b)=decide (a=b):=by
  by_cases e:a=b
  . subst e;simp
  . have h:¬ (Sum.inr a:Key)=Sum.inr b:=fun q=>e (Sum.inr.inj q)
    rw [decide_eq_false h,decide_eq_false e]
theorem zRh (a:Int)(b:Str):decide ((Sum.inl a:Key)=Sum.inr b)=false:=decide_eq_false (fun q=>nomatch q)
theorem zRg (a:Str)(b:Int):decide ((Sum.inr a:Key)=Sum.inl b)=false:=decide_eq_false (fun q=>nomatch q)
def zJo (prog:Program)(w:World):PySem.KeyKind prog w Key where
  is:=zRj
  hash:=keyH w
  inj:=fun v a b ha hb=>by
    rcases zAl ha with ⟨i,t,rfl,rfl⟩ | ⟨x,t,rfl,rfl⟩
    . rcases zAl hb with ⟨j,u,rfl,e⟩ | ⟨y,u,rfl,e⟩
      . injection e with e1 _;rw [e1]
      . exact nomatch e
    . rcases zAl hb with ⟨j,u,rfl,e⟩ | ⟨y,u,rfl,e⟩
      . exact nomatch e
      . injection e with e1 _;rw [e1]
  byValue:=fun k v h=>by
    rcases zAl h with ⟨i,t,rfl,rfl⟩ | ⟨x,t,rfl,rfl⟩<;>rfl
  pyHash:=fun hv h=>by
    rcases zAl hv with ⟨i,t,rfl,rfl⟩ | ⟨x,t,rfl,rfl⟩
    . exact wpAny_pyHash_int h
    . exact wpAny_pyHash_str h
  eqBool:=fun hu hv h=>by
    rcases zAl hu with ⟨i,t,rfl,rfl⟩ | ⟨x,t,rfl,rfl⟩
    . rcases zAl hv with ⟨j,u,rfl,rfl⟩ | ⟨y,u,rfl,rfl⟩
      . rw [zRi] at h;exact wpAny_eqBool_int h
      . rw [zRh] at h;exact SeqAt.EqAt.int_str i t y u _ _ _ _ h
    . rcases zAl hv with ⟨j,u,rfl,rfl⟩ | ⟨y,u,rfl,rfl⟩
      . rw [zRg] at h;exact SeqAt.EqAt.str_int x t j u _ _ _ _ h
      . rw [zRf] at h;exact wpAny_eqBool_str h
  «strs»:=fun k x t v h=>by
    rcases zAl h with ⟨i,u,rfl,e⟩ | ⟨y,u,rfl,e⟩
    . exact nomatch e
    . injection e with e1 _
      subst e1;cases v<;>rfl
end L2
namespace L2
open PySem Spec PyProof.Rows
inductive V where
  | non | bl (b:Bool) | int (i:Int) | str (x:Str) | byt (b:Array UInt8) | flt (b:UInt64) | ref (a:Addr) | ty (n:String)
  deriving DecidableEq
def RelV:V->Value->Prop
  | .non,u=>u=Value.none
  | .bl b,u=>u=Value.bool b
  | .int i,u=>∃ t,u=Value.int i t
  | .str x,u=>∃ t,u=Value.str x t
  | .byt b,u=>∃ t,u=Value.bytes b t
  | .flt b,u=>∃ t,u=Value.float b t
  | .ref a,u=>u=Value.ref a
  | .ty n,u=>u=Value.type n
abbrev Vals:List V->List Value->Prop:=Paired RelV
theorem Vals.length {xs:List V}{us:List Value}(r:Vals xs us):xs.length=us.length:=Paired.length r
theorem Vals.get:∀ {xs:List V} {us:List Value} {i:Nat} {x:V},Vals xs us->xs[i]?=some x->∃ u,us[i]?=some u/\RelV x u
  | _,_,_,_,.nil,e=>by simp at e
  | _,_,0,_,.cons r _,e=>by simp at e;subst e;exact ⟨_,rfl,r⟩
  | _,_,i+1,x,.cons _ t,e=>by
    obtain ⟨u,h1,h2⟩:=Vals.get (i:=i) (x:=x) t (by simpa using e);exact ⟨u,by simpa using h1,h2⟩
theorem Vals.set {x:V}{u:Value}(r:RelV x u):∀ {xs:List V} {us:List Value} (i:Nat),Vals xs us->Vals (xs.set i x) (us.set i u)
  | _,_,_,.nil=>.nil
  | _,_,0,.cons _ t=>.cons r t
  | _,_,i+1,.cons q t=>.cons q (Vals.set r i t)
theorem Vals.append:∀ {xs ys:List V} {us ws:List Value},Vals xs us->Vals ys ws->Vals (xs++ys) (us++ws)
  | _,_,_,_,.nil,s=>s
  | _,_,_,_,.cons r t,s=>.cons r (Vals.append t s)
theorem Vals.take:∀ {xs:List V} {us:List Value} (n:Nat),Vals xs us->Vals (xs.take n) (us.take n)
  | _,_,0,_=>.nil
  | _,_,_+1,.nil=>.nil
  | _,_,n+1,.cons r t=>.cons r (Vals.take n t)
theorem Vals.drop:∀ {xs:List V} {us:List Value} (n:Nat),Vals xs us->Vals (xs.drop n) (us.drop n)
  | _,_,0,r=>r
  | _,_,_+1,.nil=>.nil
  | _,_,n+1,.cons _ t=>Vals.drop n t
def RelO:Option V->Option Value->Prop
  | some v,some u=>RelV v u
  | none,none=>True
  | _,_=>False
def KV {κ:Type}:List (κ×V)->List (κ×Value)->Prop:=Paired fun (p:κ×V) (q:κ×Value)=>p.1=q.1/\RelV p.2 q.2
def kV:Key->V
  | .inl i=>.int i
  | .inr x=>.str x
set_option genSizeOf false in
set_option genInjectivity false in
inductive HO where
  /-- a list -/
  | lst (xs:List V)
  /-- a tuple (never changes) -/
  | tup (xs:List V)
  /-- a dict whose keys are ints and texts;one whose keys are tuples of ints and texts (the empty one is both) -/
  | dK (kvs:List (Key×V)) | dT (kvs:List (List Key×V))
  /-- a set of ints: its members,its size -/
  | set (S:Int->Bool) (n:Nat)
  /-- an instance of the class at C,its dict at dx,its attributes -/
  | ins (C dx:Addr) (fs:List (Str×V))
  /-- the dict of the instance at x -/
  | own (x:Addr)
  /-- the dict of an exception -/
  | xd (fs:List (Str×V))
  /-- a bound method,f of x -/
  | met (f x:Addr)
  /-- a range object lo,lo+1,.. below hi -/
  | rng (lo hi:Int)
  /-- a thing that is known to the object (the script;a dict while a loop walks it): read,never written while it is so -/
  | frz (o:Obj) (u:HO)
  /-- a code object's table: the codes of the defs made within,all of this name -/
  | tbl (q:Str)
  /-- any other thing,by what is true of its one object (a def of one's own: SetO a S n:=HO.ext fun h=>..) -/
  | ext (φ:Heap->Prop)
abbrev Hp:=Addr->Option HO
def upd (H:Hp)(a:Addr)(o:HO):Hp:=fun b=>if b=a then some o else H b
theorem zAe {H:Hp}{a:Addr}{o:HO}:upd H a o a=some o:=by unfold upd;rw [if_pos rfl]
theorem zAO {H:Hp}{a b:Addr}{o:HO}(h:b≠a):upd H a o b=H b:=by unfold upd;rw [if_neg h]
theorem zAh {H:Hp}{a b:Addr}{o:HO}(h:H a=some o)(h':H b=none):a≠b:=by
  intro e;subst e;rw [h] at h';cases h'
section
variable (P:Program)(w:World)
def zLG (o:Obj)(q:Str):Prop:=∃ vs t,o.data=.fields vs/\vs[1]?=some (.str q t)
def zCd (H:Hp)(h:Heap)(a:Addr):HO->Prop
  | .lst xs=>xs.length<=sizeLine/\∃ (its:List Value) (n:Nat),Vals xs its/\h.get? a=some { cls:=.type "list",data:=.seq its.toArray n }
  | .tup xs=>xs.length<=sizeLine/\∃ its:List Value,Vals xs its/\IsTup h a its.toArray
  | .dK kvs=>kvs.length<=sizeLine/\(a==sysModules)=false/\∃ vs,KV kvs vs/\h.DictOf (zJo P w) a vs
  | .dT kvs=>kvs.length<=sizeLine/\(a==sysModules)=false/\∃ xs:List (List Key×Addr×Value),
      Paired (fun (p:List Key×V) (q:List Key×Addr×Value)=>p.1=q.1/\H q.2.1=some (.tup (p.1.map kV))/\RelV p.2 q.2.2) kvs xs /\
      ∃ o es ep,h.get? a=some o/\o.ExactDict/\o.data=.dict es ep/\es.toList=xs.map (entryOfKey (tupleKind (zJo P w)))/\(xs.map (·.1)).Nodup
  | .set S n=>h.SetOf (intKind P w) a S n
  | .ins C dx fs=>H dx=some (.own a)/\fs.length<=1000/\dx≠a/\h.get? a=some (W.instObj C dx) /\
      ∃ mA,h.Ns1 dx mA/\(∀ f,RelO (fs.lookup f) (mA f))/\PySem.Within mA (fs.map (·.1))
  | .own _=>∃ o,h.get? a=some o
  | .xd fs=>∃ mA,h.Ns1 a mA/\∀ f,RelO (fs.lookup f) (mA f)
  | .rng lo hi=>∃ t u v,h.get? a=some { cls:=.type "range",data:=.fields #[.int lo t,.int hi u,.int 1 v] }
  | .frz o u=>h.get? a=some o/\zCd H h a u
  | .tbl q=>∃ ps:Array Value,h.get? a=some { cls:=.none,data:=.fields ps }/\TriplesOk ps.toList/\∀ pos cv,codeAmong pos ps.toList=some cv->∃ c oc u,cv=.ref c/\H c=some (.frz oc u)/\zLG oc q
  | .met f x=>h.get? a=some (W.methodObj (.ref f) (.ref x))
  | .ext φ=>φ h/\(∃ o,h.get? a=some o)/\∀ h1 h2:Heap,φ h1->(∀ o,h1.get? a=some o->h2.get? a=some o)->φ h2
def HOk (H:Hp)(h:Heap):Prop:=∀ a o,H a=some o->zCd P w H h a o
end
section
variable {P:Program}{w:World}{H H':Hp}{h h':Heap}{a:Addr}{o:HO}
theorem zCd.lt (x:zCd P w H h a o):a < h.objs.size:=by
  cases o with
  | lst xs=>obtain ⟨_,_,_,_,e⟩:=x;exact lt_size e
  | tup xs=>obtain ⟨_,_,_,p⟩:=x;exact p.lt
  | dK kvs=>obtain ⟨_,_,_,_,o,_,_,e,_⟩:=x;exact lt_size e
  | dT kvs=>obtain ⟨_,_,_,_,o,_,_,e,_⟩:=x;exact lt_size e
  | set S n=>obtain ⟨o,_,_,_,e,_⟩:=x;exact lt_size e
  | ins C dx fs=>obtain ⟨_,_,_,e,_⟩:=x;exact lt_size e
  | own y=>obtain ⟨_,e⟩:=x;exact lt_size e
  | xd fs=>obtain ⟨_,⟨_,_,_,e,_⟩,_⟩:=x;exact lt_size e
  | rng lo hi=>obtain ⟨_,_,_,e⟩:=x;exact lt_size e
  | frz ob u=>obtain ⟨e,_⟩:=x;exact lt_size e
  | tbl q=>obtain ⟨ps,e,_⟩:=x;exact lt_size e
  | met f y=>exact lt_size (show h.get? a=some _ from x)
  | ext φ=>obtain ⟨_,⟨_,e⟩,_⟩:=x;exact lt_size e
theorem Paired.mapP {α β:Type}{F G:α->β->Prop}:∀ {l₁:List α} {l₂:List β},Paired F l₁ l₂->(∀ a b,F a b->G a b)->Paired G l₁ l₂
  | _,_,.nil,_=>.nil
  | _,_,.cons r t,f=>.cons (f _ _ r) (Paired.mapP t f)
theorem zCd.stay (x:zCd P w H h a o)(k:∀ b u,(b=a\/H b=some (.own a))->h.get? b=some u->h'.get? b=some u)
    (ho:∀ b,H b=some (.own a)->H' b=some (.own a)) (ht:∀ b xs,H b=some (.tup xs)->H' b=some (.tup xs)) (hf:∀ b ob u,H b=some (.frz ob u)->(∃ vs,ob.data=.fields vs)->H' b=some (.frz ob u)):zCd P w H' h' a o:=by
  induction o with
  | lst xs=>obtain ⟨z,its,n,r,e⟩:=x;exact ⟨z,its,n,r,k _ _ (.inl rfl) e⟩
  | tup xs=>obtain ⟨z,its,r,ob,e,c⟩:=x;exact ⟨z,its,r,ob,k _ _ (.inl rfl) e,c⟩
  | dK kvs=>obtain ⟨z,y,vs,r,ob,es,ep,e,c⟩:=x;exact ⟨z,y,vs,r,ob,es,ep,k _ _ (.inl rfl) e,c⟩
  | dT kvs =>
    obtain ⟨z,y,xs,r,ob,es,ep,e,c⟩:=x;exact ⟨z,y,xs,Paired.mapP r fun p q z=>⟨z.1,ht _ _ z.2.1,z.2.2⟩,ob,es,ep,k _ _ (.inl rfl) e,c⟩
  | set S n=>obtain ⟨ob,es,ep,t,e,c⟩:=x;exact ⟨ob,es,ep,t,k _ _ (.inl rfl) e,c⟩
  | ins C dx fs =>
    obtain ⟨d,z,ne,e,mA,⟨od,es,ep,e2,c⟩,r⟩:=x;exact ⟨ho _ d,z,ne,k _ _ (.inl rfl) e,mA,⟨od,es,ep,k _ _ (.inr d) e2,c⟩,r⟩
  | own y=>obtain ⟨ob,e⟩:=x;exact ⟨ob,k _ _ (.inl rfl) e⟩
  | xd fs=>obtain ⟨mA,⟨od,es,ep,e,c⟩,r⟩:=x;exact ⟨mA,⟨od,es,ep,k _ _ (.inl rfl) e,c⟩,r⟩
  | rng lo hi=>obtain ⟨t,u,v,e⟩:=x;exact ⟨t,u,v,k _ _ (.inl rfl) e⟩
  | frz ob u ih=>obtain ⟨e,q⟩:=x;exact ⟨k _ _ (.inl rfl) e,ih q⟩
  | tbl q =>
    obtain ⟨ps,e,t,c⟩:=x;exact ⟨ps,k a _ (.inl rfl) e,t,fun pos cv z=>let ⟨c1,oc,u,e1,e2,e3⟩:=c pos cv z;⟨c1,oc,u,e1,hf _ _ _ e2 (let ⟨vs,_,d,_⟩:=e3;⟨vs,d⟩),e3⟩⟩
  | met f y =>
    have e:h.get? a=some (W.methodObj (.ref f) (.ref y)):=x;show h'.get? a=some (W.methodObj (.ref f) (.ref y));exact k a _ (.inl rfl) e
  | ext φ=>obtain ⟨p,⟨o,e⟩,st⟩:=x;exact ⟨st _ _ p fun o q=>k _ _ (.inl rfl) q,⟨o,k _ _ (.inl rfl) e⟩,st⟩
theorem HOk.lt (x:HOk P w H h)(e:H a=some o):a < h.objs.size:=(x a o e).lt
theorem HOk.fresh (x:HOk P w H h)(e:h.objs.size<=a):H a=none:=by
  cases q:H a with
  | none=>rfl
  | some u=>exact absurd (lt_of_lt_of_le (x.lt q) e) (lt_irrefl _)
theorem HOk.kept (x:HOk P w H h)(k:∀ b u,h.get? b=some u->h'.get? b=some u):HOk P w H h':=fun a o e =>
  (x a o e).stay (fun b u _ q=>k b u q) (fun _ q=>q) (fun _ _ q=>q) fun _ _ _ q _=>q
theorem HOk.laid (x:HOk P w H h)(k:∀ b u,h.get? b=some u->h'.get? b=some u)(hp:h.objs.size<=a)(new:zCd P w (upd H a o) h' a o):HOk P w (upd H a o) h':=fun b u e=>by
  have hn:=x.fresh hp;by_cases hb:b=a
  . subst hb;rw [zAe] at e;cases e;exact new
  . rw [zAO hb] at e;exact (x b u e).stay (fun c v _ q=>k c v q) (fun c q=>by rw [zAO (zAh q hn)];exact q) (fun c xs q=>by rw [zAO (zAh q hn)];exact q) fun c ob u q _=>by rw [zAO (zAh q hn)];exact q
end
def Rd (H:Hp)(a:Addr)(u:HO):Prop:=H a=some u\/∃ o,H a=some (.frz o u)
theorem Rd.ok {P:Program}{w:World}{H:Hp}{h:Heap}{a:Addr}{u:HO}(r:Rd H a u)(x:HOk P w H h):zCd P w H h a u:=by
  rcases r with r | ⟨o,r⟩
  . exact x a u r
  . obtain ⟨_,q⟩:=x a _ r;exact q
def Mut:Option HO->Prop
  | some (.lst _)=>True
  | some (.dK _)=>True
  | some (.dT _)=>True
  | some (.set _ _)=>True
  | some (.ins _ _ _)=>True
  | some (.ext _)=>True
  | _=>False
section
variable {P:Program}{w:World}{H:Hp}{h h':Heap}{x e:Addr}{o':HO}
theorem HOk.write (ok:HOk P w H h)(mu:Mut (H x))(he:e=x\/H e=some (.own x))(k:∀ b u,b≠e->h.get? b=some u->h'.get? b=some u)(heo:∃ u,h'.get? e=some u)
    (new:zCd P w (upd H x o') h' x o'):HOk P w (upd H x o') h':=fun b u q=>by
  have nown:∀ c y,H c=some (.own y)->c≠x:=fun c y r z=>by subst z;rw [r] at mu;exact mu
  have ntup:∀ c xs,H c=some (.tup xs)->c≠x:=fun c xs r z=>by subst z;rw [r] at mu;exact mu
  have nfrz:∀ c ob v,H c=some (.frz ob v)->c≠x:=fun c ob v r z=>by subst z;rw [r] at mu;exact mu
  by_cases hb:b=x
  . subst hb;rw [zAe] at q;cases q;exact new
  . rw [zAO hb] at q;by_cases hbe:b=e
    . have q':H b=some (.own x):=by
        rcases he with z | z
        . exact absurd (hbe.trans z) hb
        . rw [hbe];exact z
      rw [q] at q';cases q';obtain ⟨v,hv⟩:=heo;exact ⟨v,by rw [hbe];exact hv⟩
    . refine (ok b u q).stay (fun c v hc r=>k c v ?_ r) (fun c r=>by rw [zAO (nown c b r)];exact r) (fun c xs r=>by rw [zAO (ntup c xs r)];exact r) fun c ob v r _=>by rw [zAO (nfrz c ob v r)];exact r
      rcases hc with rfl | hc
      . exact hbe
      . rintro rfl;rcases he with z | z
        . exact nown c b hc z
        . rw [hc] at z;cases z;exact hb rfl
end
structure Un (fs ex:List Addr)(H H':Hp)(h h':Heap):Prop where
  keep:∀ b o,h.get? b=some o->H b=none->b∉fs->b∉ex->h'.get? b=some o
  slot:∀ b o,h.get? b=some o->H b=none->b∈fs->b∉ex->∃ sl,h'.get? b=some { o with slots:=sl }
  free:∀ b o,h.get? b=some o->H b=none->b∉ex->H' b=none
  there:∀ b o,h.get? b=some o->b∉ex->∃ o',h'.get? b=some o'
  tups:∀ b xs,H b=some (.tup xs)->H' b=some (.tup xs)
  frzs:∀ b o u,H b=some (.frz o u)->H' b=some (.frz o u)
  tbls:∀ b q,H b=some (.tbl q)->H' b=some (.tbl q)
section
variable {fs fs' ex ex':List Addr}{H H1 H2:Hp}{h h1 h2 h':Heap}{a x e:Addr}{o:HO}
theorem Un.any (u:Un fs ex H H1 h h1){b:Addr}{ob:Obj}(q:h.get? b=some ob)(n:H b=none)(hx:b∉ex):∃ sl,h1.get? b=some { ob with slots:=sl }:=by
  by_cases hb:b∈fs
  . exact u.slot b ob q n hb hx
  . exact ⟨ob.slots,u.keep b ob q n hb hx⟩
theorem Un.trans (a:Un fs ex H H1 h h1)(b:Un fs ex H1 H2 h1 h2):Un fs ex H H2 h h2 where
  keep:=fun c ob q n hc hx=>b.keep c ob (a.keep c ob q n hc hx) (a.free c ob q n hx) hc hx
  slot:=fun c ob q n hc hx=>by
    obtain ⟨sl,e1⟩:=a.slot c ob q n hc hx;obtain ⟨sl',e2⟩:=b.slot c _ e1 (a.free c ob q n hx) hc hx;exact ⟨sl',e2⟩
  free:=fun c ob q n hx=>by
    obtain ⟨o',e1⟩:=a.there c ob q hx;exact b.free c o' e1 (a.free c ob q n hx) hx
  there:=fun c ob q hx=>by
    obtain ⟨o',e1⟩:=a.there c ob q hx;exact b.there c o' e1 hx
  tups:=fun c xs q=>b.tups c xs (a.tups c xs q)
  frzs:=fun c ob xs q=>b.frzs c ob xs (a.frzs c ob xs q)
  tbls:=fun c ps q=>b.tbls c _ (a.tbls c ps q)
theorem Un.kept (k:∀ b u,h.get? b=some u->h'.get? b=some u):Un fs ex H H h h' :=
  ⟨fun b ob q _ _ _=>k b ob q,fun b ob q _ _ _=>⟨ob.slots,k b ob q⟩,fun _ _ _ n _=>n,fun b ob q _=>⟨ob,k b ob q⟩,fun _ _ q=>q,fun _ _ _ q=>q,fun _ _ q=>q⟩
theorem Un.refl:Un fs ex H H h h:=Un.kept fun _ _ q=>q
theorem Un.laid (k:∀ b u,h.get? b=some u->h'.get? b=some u)(hp:h.objs.size<=a)(hn:H a=none):Un fs ex H (upd H a o) h h' where
  keep:=fun b u q _ _ _=>k b u q
  slot:=fun b u q _ _ _=>⟨u.slots,k b u q⟩
  free:=fun b u q n _=>by rw [zAO (ne_of_lt (lt_of_lt_of_le (lt_size q) hp))];exact n
  there:=fun b u q _=>⟨u,k b u q⟩
  tups:=fun b xs q=>by rw [zAO (zAh q hn)];exact q
  frzs:=fun b u xs q=>by rw [zAO (zAh q hn)];exact q
  tbls:=fun b ps q=>by rw [zAO (zAh q hn)];exact q
theorem Un.write (mu:Mut (H x))(he:e=x\/H e=some (.own x))(k:∀ b u,b≠e->h.get? b=some u->h'.get? b=some u)(heo:∃ u,h'.get? e=some u):Un fs ex H (upd H x o) h h':=by
  have hx:∀ b,H b=none->b≠x:=fun b n z=>by subst z;rw [n] at mu;exact mu
  have hb:∀ b,H b=none->b≠e:=fun b n z=>by
    subst z;rcases he with r | r
    . exact hx b n r
    . rw [n] at r;cases r
  have hm:∀ b u,H b=some u->¬ Mut (some u)->b≠x:=fun b u q nm z=>by subst z;rw [q] at mu;exact nm mu
  refine ⟨fun b u q n _ _=>k b u (hb b n) q,fun b u q n _ _=>⟨u.slots,k b u (hb b n) q⟩,fun b u q n _=>by rw [zAO (hx b n)];exact n,fun b u q _=>?_,
    fun b xs q=>by rw [zAO (hm b _ q fun z=>z)];exact q,fun b u xs q=>by rw [zAO (hm b _ q fun z=>z)];exact q,fun b ps q=>by rw [zAO (hm b _ q fun z=>z)];exact q⟩
  by_cases hbe:b=e
  . subst hbe;exact heo
  . exact ⟨u,k b u hbe q⟩
theorem Un.mono (u:Un fs ex H H1 h h1)(hs:∀ b∈fs,b∈fs')(hx:∀ b∈ex,b∈ex'):Un fs' ex' H H1 h h1 :=
  ⟨fun b ob q n hb he=>u.keep b ob q n (fun z=>hb (hs b z)) fun z=>he (hx b z),fun _ _ q n _ he=>u.any q n fun z=>he (hx _ z),fun b ob q n he=>u.free b ob q n fun z=>he (hx b z),fun b ob q he=>u.there b ob q fun z=>he (hx b z),u.tups,u.frzs,u.tbls⟩
end
def trk (h:Heap)(H:Hp):List Addr:=(List.range h.objs.size).filter fun a=>(H a).isSome
def hidT (h:Heap)(H:Hp):Heap:=W.hideAll h (trk h H)
theorem zKA (h:Heap)(H:Hp):(hidT h H).objs.size=h.objs.size:=W.hideAll_size _ _
theorem zMF {h:Heap}{H:Hp}{b:Addr}{o:Obj}(e:h.get? b=some o)(n:H b=none):(hidT h H).get? b=some o :=
  W.hideAll_get _ e fun hm=>by
    have q:(H b).isSome=true:=(mem_filter.mp hm).2;rw [n] at q;simp at q
theorem zOy {h:Heap}{H:Hp}{b:Addr}{o:Obj}(e:(hidT h H).get? b=some o):h.get? b=some o/\H b=none:=by
  have e':h.get? b=some o:=W.of_hideAll (trk h H) e;refine ⟨e',?_⟩;cases q:H b with
  | none=>rfl
  | some x =>
    have hm:b∈trk h H:=mem_filter.mpr ⟨mem_range.mpr (lt_size e'),by simp [q]⟩;have z:(hidT h H).get? b=none:=W.hideAll_none (trk h H) hm;rw [z] at e;cases e
end L2
namespace L2
open PySem Spec PyProof.Rows
def zBj:List Str:=["moved","scaled","quartered","mirrored"]
def lamQ (x:Str):Str:=x ++ ".<locals>." ++ "<lambda>"
structure Mod (K:W.Frag)(mg:Str->Option Value)(base:Heap):Prop where
  kin:K.In base
  glob:base.Ns mainGlobals mg
  blt:∃ mb,base.Ns builtinsNs mb/\∀ x:Str,x ≠ "__name__"->mb x=bootBuiltins x
  nolimit:base.NoLimit
  seer:base.NoSeer
  bm:∃ bm ob,mg "__builtins__"=some (.ref bm)/\bm≠builtinsNs/\base.get? bm=some ob/\ob.cls=.type "module"/\ob.dict=some builtinsNs/\ob.data=.plain
  codes:∀ x∈zBj,∀ c P,W.tabIn K x=some (c,P)->W.CodeHd base c P
def zH1 (K:W.Frag)(H:Hp):Prop:=∀ x∈zBj,∀ c P,W.tabIn K x=some (c,P)->H P=some (.tbl (lamQ x))
structure Cx where
  prog:Program
  w:World
  K:W.Frag
  mg:Str->Option Value
  base:Heap
  A:Around
  N:List Str
  s₀:Shared
  H₀:Hp
  env:Env
  outer:List Env
  stack:List Env
  ex:List Addr
  fn:Str->Bool
  calm:Bool
  pn:List (Addr×Obj)
  xe:Value->Shared->Prop
def frs (l:List Env):List Addr:=l.filterMap (·.frame)
abbrev Cx.fs (X:Cx):List Addr:=frs X.outer
def Vis (sc:Scope)(x:Str):Prop:=sc.names.lookup x=some .local\/sc.names.lookup x=some .cell\/sc.names.lookup x=some .free
def Loc (sc:Scope)(x:Str):Prop:=sc.names.lookup x=some .local\/sc.names.lookup x=some .cell
def Look (env:Env)(h:Heap)(m:Str->Option Value)(x:Str)(u:Value):Prop :=
  (env.kindOf x=some .local/\m x=some u)\/((env.kindOf x=some .cell\/env.kindOf x=some .free)/\∃ c,env.cells.lookup x=some c/\h.IsCell c (some u))
structure Cx.Ok (X:Cx):Prop where
  mod:Mod X.K X.mg X.base
  kind:X.env.scope.kind=.function
  glob:X.env.globals=mainGlobals
  blt:X.env.builtins=builtinsNs
  above:X.s₀.heap.objs.size<=X.env.locals
  inj:∀ x y c,X.env.cells.lookup x=some c->X.env.cells.lookup y=some c->x=y
  has:∀ x,(X.env.kindOf x=some .cell\/X.env.kindOf x=some .free)->∃ c,X.env.cells.lookup x=some c
  cab:∀ x c,X.fn x=true->X.env.cells.lookup x=some c->X.s₀.heap.objs.size<=c
  hd:X.calm=true->X.A.handled=none
  frames:X.A.frames=some X.stack
  stk:X.stack=X.outer\/(X.stack=X.env::X.outer/\X.env.frame=some X.env.locals)
  exf:∀ b∈X.ex,b≠X.env.locals/\∀ x c,X.env.cells.lookup x=some c->c≠b
  bs:∀ b o,X.base.get? b=some o->X.s₀.heap.get? b=some o/\X.H₀ b=none
  bsz:X.base.objs.size<=X.s₀.heap.objs.size
  noex:∀ b o,X.base.get? b=some o->b∉X.ex
  exfs:∀ b∈X.ex,b∉X.fs
  funs:X.s₀.heap.FunFrames X.base X.outer
  frf:∀ b∈X.fs,X.H₀ b=none
  pyl:X.A.depth+Builtin.pylongFrames < recursionLimit/\(model X.prog X.w).prog.given.tree=none/\∃ e l,X.stack=e::l/\e.scope.isGenerator=false/\e.scope.isCoroutine=false/\e.builtins=builtinsNs/\e.globals=mainGlobals
  tabs:zH1 X.K X.H₀
structure Inv (X:Cx)(pins:List (Addr×Obj))(σ:List (Option V))(H:Hp)(s:Shared):Prop where
  ok:X.Ok
  os:s.os=X.s₀.os
  bare:AllBare s.gens
  base:Un X.fs X.ex X.H₀ H X.s₀.heap s.heap
  loc:∃ m,s.heap.Ns X.env.locals m/\∀ (i:Nat) (x:Str) (v:V),X.N[i]?=some x->σ[i]?=some (some v)->Vis X.env.scope x->∃ u,RelV v u/\Look X.env s.heap m x u
  cell:∀ x c,X.env.cells.lookup x=some c->∃ v,s.heap.IsCell c v
  free:H X.env.locals=none
  freeC:∀ x c,X.env.cells.lookup x=some c->H c=none
  pin:∀ p∈X.pn++pins,s.heap.get? p.1=some p.2/\H p.1=none/\p.1≠X.env.locals/\p.1∉X.fs/\∀ v,p.2.data≠.cell v
  hok:HOk X.prog X.w H s.heap
  len:σ.length=X.N.length
section
variable {X:Cx}{pins:List (Addr×Obj)}{σ:List (Option V)}{H H':Hp}{s:Shared}{h':Heap}
theorem Cx.Ok.nofr (ok:X.Ok){b:Addr}{o:Obj}(e:X.base.get? b=some o):b∉X.fs:=fun hb=>by
  have:=(ok.funs.mem hb).1;rw [e] at this;cases this
theorem Inv.bs (I:Inv X pins σ H s):∀ b o,X.base.get? b=some o->s.heap.get? b=some o/\H b=none:=fun b o e =>
  ⟨I.base.keep b o (I.ok.bs b o e).1 (I.ok.bs b o e).2 (I.ok.nofr e) (I.ok.noex b o e),I.base.free b o (I.ok.bs b o e).1 (I.ok.bs b o e).2 (I.ok.noex b o e)⟩
theorem Inv.bk (I:Inv X pins σ H s):∀ b o,X.base.get? b=some o->s.heap.get? b=some o:=fun b o e=>(I.bs b o e).1
theorem Inv.mod (I:Inv X pins σ H s):Mod X.K X.mg X.base:=I.ok.mod
theorem Inv.kIn (I:Inv X pins σ H s):X.K.In s.heap:=I.ok.mod.kin.keeps I.bk
theorem Inv.nolimit (I:Inv X pins σ H s):s.heap.NoLimit:=I.ok.mod.nolimit.keeps I.bk
theorem Inv.lt (I:Inv X pins σ H s):X.env.locals < s.heap.objs.size:=let ⟨_,hn,_⟩:=I.loc;hn.lt
theorem Inv.sz (I:Inv X pins σ H s):X.s₀.heap.objs.size<=s.heap.objs.size:=le_trans I.ok.above (Nat.le_of_lt I.lt)
theorem Inv.nofs (I:Inv X pins σ H s){a:Addr}(h:s.heap.objs.size<=a):a∉X.fs:=fun hb=>by
  obtain ⟨_,o,ho,_⟩:=I.ok.funs.mem hb;exact absurd (lt_of_lt_of_le (lt_size ho) (le_trans I.sz h)) (lt_irrefl _)
theorem Inv.cne (I:Inv X pins σ H s):∀ x c,X.env.cells.lookup x=some c->c≠X.env.locals:=fun x c e z=>by
  obtain ⟨v,o,ho,hd⟩:=I.cell x c e;obtain ⟨m,⟨o',es,ep,ho',hd',_⟩,_⟩:=I.loc;rw [z,ho'] at ho;cases ho;rw [hd'] at hd;cases hd
theorem Inv.funs (I:Inv X pins σ H s):s.heap.FunFrames X.base X.outer:=by
  have all:∀ (l:List Env),(∀ b∈frs l,b∈X.fs)->X.s₀.heap.FunFrames X.base l->s.heap.FunFrames X.base l:=by
    intro l
    induction l with
    | nil=>intro _ _;trivial
    | cons env r ih =>
      intro hs hl;obtain ⟨hk,⟨L,o,hf,hn,ho,hd⟩,hr⟩:=hl;have hL:L∈X.fs:=hs L (by unfold frs;rw [List.filterMap_cons,hf];exact mem_cons_self);obtain ⟨sl,e⟩:=I.base.slot L o ho (I.ok.frf L hL) hL fun z=>I.ok.exfs L z hL
      exact ⟨hk,⟨L,_,hf,hn,e,hd⟩,ih (fun b hb=>hs b (by unfold frs;rw [List.filterMap_cons,hf];exact mem_cons_of_mem _ hb)) hr⟩
  exact all X.outer (fun _ hb=>hb) I.ok.funs
theorem Inv.stack (I:Inv X pins σ H s):s.heap.FunFrames X.base X.stack:=by
  rcases I.ok.stk with e | ⟨e,hf⟩
  . rw [e];exact I.funs
  . rw [e];obtain ⟨m,hn,_⟩:=I.loc;refine .cons (by rw [I.ok.kind];decide) hf hn ?_ I.funs;exact Heap.get?_none_of_le (le_trans I.ok.bsz I.ok.above)
theorem Inv.stkSub (I:Inv X pins σ H s):∀ b∈frs X.stack,b∈X.env.locals::X.fs:=fun b hb=>by
  rcases I.ok.stk with e | ⟨e,hf⟩
  . rw [e] at hb;exact mem_cons_of_mem _ hb
  . rw [e] at hb;unfold frs at hb;rw [List.filterMap_cons,hf] at hb;exact hb
theorem Inv.stkFree (I:Inv X pins σ H s):∀ b∈frs X.stack,H b=none:=fun b hb=>by
  rcases mem_cons.mp (I.stkSub b hb) with e | hb
  . rw [e];exact I.free
  . obtain ⟨_,o,ho,_⟩:=I.ok.funs.mem hb;exact I.base.free b o ho (I.ok.frf b hb) fun z=>I.ok.exfs b z hb
theorem Inv.step {g':Array GenState}{t':Nat}{d':Drawn}{ch:List Addr}(I:Inv X pins σ H s)
    (hch:∀ b∈ch,(b∈X.ex\/X.s₀.heap.objs.size<=b)/\b≠X.env.locals/\(∀ x c,X.env.cells.lookup x=some c->c≠b)/\∀ p∈X.pn++pins,p.1≠b)
    (keep:∀ b o,b≠X.env.locals->b∉X.fs->b∉ch->s.heap.get? b=some o->H b=none->h'.get? b=some o)
    (slot:∀ b o,b≠X.env.locals->b∈X.fs->b∉ch->s.heap.get? b=some o->H b=none->∃ sl,h'.get? b=some { o with slots:=sl }) (free:∀ b o,b∉ch->s.heap.get? b=some o->H b=none->H' b=none)
    (there:∀ b o,b∉ch->s.heap.get? b=some o->∃ o',h'.get? b=some o')
    (tups:∀ b xs,H b=some (.tup xs)->H' b=some (.tup xs)) (frzs:∀ b o u,H b=some (.frz o u)->H' b=some (.frz o u)) (tbls:∀ b q,H b=some (.tbl q)->H' b=some (.tbl q))
    (ns:∀ m,s.heap.Ns X.env.locals m->h'.Ns X.env.locals m) (hok:HOk X.prog X.w H' h') (hg:AllBare g') :
    Inv X pins σ H' { s with heap:=h',gens:=g',drawn:=d',toks:=t' }:=by
  have neL:∀ b o,X.s₀.heap.get? b=some o->b≠X.env.locals:=fun b o e=>ne_of_lt (lt_of_lt_of_le (lt_size e) I.ok.above)
  have neC:∀ b o,X.s₀.heap.get? b=some o->b∉X.ex->b∉ch:=fun b o e hx hb=>by
    rcases (hch b hb).1 with z | z
    . exact hx z
    . exact absurd (lt_of_lt_of_le (lt_size e) z) (lt_irrefl _)
  have cellK:∀ x c,X.env.cells.lookup x=some c->∀ v,s.heap.IsCell c v->h'.IsCell c v:=fun x c e v zz0=>by
    obtain ⟨o,ho,hd⟩:=zz0;have nch:c∉ch:=fun z=>(hch c z).2.2.1 x c e rfl
    by_cases hc:c∈X.fs
    . obtain ⟨sl,q⟩:=slot c o (I.cne x c e) hc nch ho (I.freeC x c e);exact ⟨_,q,hd⟩
    . exact ⟨o,keep c o (I.cne x c e) hc nch ho (I.freeC x c e),hd⟩
  refine ⟨I.ok,I.os,hg,⟨fun b o e n hb hx=>?_,fun b o e n hb hx=>?_,fun b o e n hx=>?_,fun b o e hx=>?_,fun b xs e=>tups b xs (I.base.tups b xs e),fun b o xs e=>frzs b o xs (I.base.frzs b o xs e),fun b ps e=>?_⟩,?_,fun x c e=>?_,?_,fun x c e=>?_,fun p hp=>?_,hok,I.len⟩
  . exact keep b o (neL b o e) hb (neC b o e hx) (I.base.keep b o e n hb hx) (I.base.free b o e n hx)
  . obtain ⟨sl,e1⟩:=I.base.slot b o e n hb hx;obtain ⟨sl',e2⟩:=slot b _ (neL b o e) hb (neC b o e hx) e1 (I.base.free b o e n hx);exact ⟨sl',e2⟩
  . obtain ⟨o',e1⟩:=I.base.there b o e hx;exact free b o' (neC b o e hx) e1 (I.base.free b o e n hx)
  . obtain ⟨o',e1⟩:=I.base.there b o e hx;exact there b o' (neC b o e hx) e1
  . exact tbls b _ (I.base.tbls b ps e)
  . obtain ⟨m,hn,hl⟩:=I.loc;refine ⟨m,ns m hn,fun i x v e1 e2 e3=>?_⟩;obtain ⟨u,r,l⟩:=hl i x v e1 e2 e3;refine ⟨u,r,?_⟩;rcases l with l | ⟨k,c,e,z⟩
    . exact .inl l
    . exact .inr ⟨k,c,e,cellK x c e _ z⟩
  . obtain ⟨v,z⟩:=I.cell x c e;exact ⟨v,cellK x c e v z⟩
  . obtain ⟨m,⟨o,_,_,ho,_⟩,_⟩:=I.loc;exact free _ o (fun z=>(hch _ z).2.1 rfl) ho I.free
  . obtain ⟨v,o,ho,hd⟩:=I.cell x c e;exact free c o (fun z=>(hch c z).2.2.1 x c e rfl) ho (I.freeC x c e)
  . obtain ⟨e,n,ne,nf,d⟩:=I.pin p hp;have nch:p.1∉ch:=fun z=>(hch p.1 z).2.2.2 p hp rfl
    exact ⟨keep p.1 p.2 ne nf nch e n,free p.1 p.2 nch e n,ne,nf,d⟩
theorem Inv.un {t':Nat}(I:Inv X pins σ H s)(u:Un X.fs [] H H' s.heap h')(hok:HOk X.prog X.w H' h'):Inv X pins σ H' { s with heap:=h',toks:=t' }:=by
  obtain ⟨m,⟨o,es,ep,ho,r⟩,_⟩:=id I.loc;obtain ⟨sl,hL⟩:=u.any ho I.free (by simp);exact I.step (g':=s.gens) (d':=s.drawn) (ch:=[]) (fun _ z=>nomatch z) (fun b o _ hb _ e n=>u.keep b o e n hb (by simp)) (fun b o _ hb _ e n=>u.slot b o e n hb (by simp)) (fun b o _ e n=>u.free b o e n (by simp)) (fun b o _ e=>u.there b o e (by simp)) u.tups u.frzs u.tbls (fun m' hm=>by
    obtain ⟨o',es',ep',ho',r'⟩:=hm;rw [ho] at ho';cases ho';exact ⟨_,es',ep',hL,r'⟩) hok I.bare
theorem Inv.call {g':Array GenState}{t':Nat}{d':Drawn}{ch:List Addr}(I:Inv X pins σ H s)(u:Un (frs X.stack) ch H H' s.heap h')(hok:HOk X.prog X.w H' h')(hg:AllBare g')
    (hch:∀ b∈ch,(b∈X.ex\/X.s₀.heap.objs.size<=b)/\b≠X.env.locals/\(∀ x c,X.env.cells.lookup x=some c->c≠b)/\∀ p∈X.pn++pins,p.1≠b) :
    Inv X pins σ H' { s with heap:=h',gens:=g',drawn:=d',toks:=t' }:=by
  obtain ⟨m,⟨o,es,ep,ho,r⟩,_⟩:=id I.loc;obtain ⟨sl,hL⟩:=u.any ho I.free fun z=>(hch _ z).2.1 rfl
  exact I.step (ch:=ch) hch (fun b o hL hb hc e n=>u.keep b o e n (fun z=>(mem_cons.mp (I.stkSub b z)).elim hL hb) hc) (fun b o _ _ hc e n=>u.any e n hc) (fun b o hc e n=>u.free b o e n hc) (fun b o hc e=>u.there b o e hc) u.tups u.frzs u.tbls (fun m' hm=>by
    obtain ⟨o',es',ep',ho',r'⟩:=hm;rw [ho] at ho';cases ho';exact ⟨_,es',ep',hL,r'⟩) hok hg
theorem Inv.turned {t':Nat}{it:Addr}(I:Inv X pins σ H s)(k:∀ b o,b≠it->s.heap.get? b=some o->h'.get? b=some o)(hn:H it=none)(hL:it≠X.env.locals)
    (h1:it∈X.ex\/X.s₀.heap.objs.size<=it) (h2:∀ x c,X.env.cells.lookup x=some c->c≠it) (h3:∀ p∈X.pn++pins,p.1≠it):Inv X pins σ H { s with heap:=h',toks:=t' }:=by
  have nit:∀ b u,H b=some u->b≠it:=fun b u e z=>by rw [z,hn] at e;cases e
  refine I.step (g':=s.gens) (d':=s.drawn) (ch:=[it]) (fun b hb=>?_) (fun b o _ _ hc e _=>k b o (fun z=>hc (by simp [z])) e) (fun b o _ _ hc e _=>⟨o.slots,k b o (fun z=>hc (by simp [z])) e⟩) (fun _ _ _ _ n=>n)
    (fun b o hc e=>⟨o,k b o (fun z=>hc (by simp [z])) e⟩) (fun _ _ e=>e) (fun _ _ _ e=>e) (fun _ _ e=>e) (fun m hm=>?_) (fun b u e=>?_) I.bare
  . have e:b=it:=by simpa using hb
    subst e;exact ⟨h1,hL,h2,h3⟩
  . obtain ⟨o,es,ep,ho,r⟩:=hm;exact ⟨o,es,ep,k _ o (Ne.symm hL) ho,r⟩
  . refine (I.hok b u e).stay (fun c v hc q=>k c v ?_ q) (fun _ q=>q) (fun _ _ q=>q) fun _ _ _ q _=>q
    rcases hc with z | z
    . rw [z];exact nit b u e
    . exact nit c _ z
theorem Inv.tabs (I:Inv X pins σ H s):zH1 X.K H:=fun x hx c P e=>I.base.tbls _ _ (I.ok.tabs x hx c P e)
theorem Inv.tok (I:Inv X pins σ H s)(t:Nat):Inv X pins σ H { s with toks:=t }:=I.un (h':=s.heap) (t':=t) Un.refl I.hok
theorem Inv.kept {t':Nat}(I:Inv X pins σ H s)(k:∀ b u,s.heap.get? b=some u->h'.get? b=some u):Inv X pins σ H { s with heap:=h',toks:=t' }:=I.un (Un.kept k) (I.hok.kept k)
theorem Inv.laid {a:Addr}{o:HO}{t':Nat}(I:Inv X pins σ H s)(k:∀ b u,s.heap.get? b=some u->h'.get? b=some u)(hp:s.heap.objs.size<=a)(new:zCd X.prog X.w (upd H a o) h' a o) :
    Inv X pins σ (upd H a o) { s with heap:=h',toks:=t' }:=I.un (Un.laid k hp (I.hok.fresh hp)) (I.hok.laid k hp new)
theorem Inv.write {x e:Addr}{o:HO}{t':Nat}(I:Inv X pins σ H s)(mu:Mut (H x))(he:e=x\/H e=some (.own x))(k:∀ b u,b≠e->s.heap.get? b=some u->h'.get? b=some u)(heo:∃ u,h'.get? e=some u)
    (new:zCd X.prog X.w (upd H x o) h' x o):Inv X pins σ (upd H x o) { s with heap:=h',toks:=t' }:=I.un (Un.write mu he k heo) (I.hok.write mu he k heo new)
theorem Inv.pins_of {pins':List (Addr×Obj)}(I:Inv X pins σ H s)(h:∀ p∈pins',s.heap.get? p.1=some p.2/\H p.1=none/\p.1≠X.env.locals/\p.1∉X.fs/\∀ v,p.2.data≠.cell v):Inv X pins' σ H s :=
  ⟨I.ok,I.os,I.bare,I.base,I.loc,I.cell,I.free,I.freeC,fun p hp=>(mem_append.mp hp).elim (fun z=>I.pin p (List.mem_append_left _ z)) (h p),I.hok,I.len⟩
theorem zHd {N:List Str}(hN:N.Nodup){i j:Nat}{x:Str}(a:N[i]?=some x)(b:N[j]?=some x):i=j:=by
  obtain ⟨h1,e1⟩:=zzg a;obtain ⟨h2,e2⟩:=zzg b;exact (List.getElem_inj hN).mp (e1.trans e2.symm)
theorem zIv {M:Model}{A:Around}{E:Value->Shared->Prop}{i:Nat}{x:Str}{v:V}{u:Value}{Q:Unit->Shared->Prop}(I:Inv X pins σ H s)(hN:X.N.Nodup)(hi:X.N[i]?=some x)(hx:Loc X.env.scope x)(r:RelV v u)
    (h:∀ s',Inv X pins (σ.set i (some v)) H s'->(∃ a,Heap.SameBut a s.heap s'.heap/\(a=X.env.locals\/X.env.cells.lookup x=some a))->Q () s') (hf:X.fn x=true\/X.env.scope.names.lookup x=some .local:=by first | exact .inl rfl | exact .inr rfl | assumption):wpAny M A (storeName X.env x u) Q E s:=by
  obtain ⟨m,hn,hl⟩:=id I.loc;have hcls:(X.env.scope.kind==.class||(X.env.scope.kind==.module&&X.env.locals != X.env.globals))=false:=by rw [I.ok.kind];rfl
  have hiσ:i < σ.length:=by rw [I.len];exact (zzg hi).1
  have cne:=I.cne;have tracked:∀ {a:Addr} {h':Heap},(∃ o,s.heap.get? a=some o/\H a=none)->Heap.SameBut a s.heap h'->HOk X.prog X.w H h':=fun {a h'} ha hs b ob e=>by
    obtain ⟨_,_,hfree⟩:=ha;refine (I.hok b ob e).stay (fun c w' hc q=>(hs.2 c ?_).trans q) (fun _ q=>q) (fun _ _ q=>q) fun _ _ _ q _=>q
    rintro rfl;rcases hc with rfl | hc
    . rw [hfree] at e;cases e
    . rw [hfree] at hc;cases hc
  rcases hx with hk | hk
  . refine wpAny_storeName_local hk hn (fun h' hn' hs=>?_) hcls;obtain ⟨oL,_,_,hoL,_⟩:=id hn;refine h _ ⟨I.ok,I.os,I.bare,⟨fun b o e n hb hx=>?_,fun b o e n hb hx=>?_,I.base.free,fun b o e hx=>?_,I.base.tups,I.base.frzs,I.base.tbls⟩,⟨_,hn',fun j y v' e1 e2 e3=>?_⟩,fun y c e=>?_,I.free,I.freeC,fun p hp=>?_,tracked ⟨oL,hoL,I.free⟩ hs,by simpa using I.len⟩ ⟨_,hs,.inl rfl⟩
    . exact (hs.2 b (ne_of_lt (lt_of_lt_of_le (lt_size e) I.ok.above))).trans (I.base.keep b o e n hb hx)
    . obtain ⟨sl,e1⟩:=I.base.slot b o e n hb hx;exact ⟨sl,(hs.2 b (ne_of_lt (lt_of_lt_of_le (lt_size e) I.ok.above))).trans e1⟩
    . obtain ⟨o',e1⟩:=I.base.there b o e hx;exact ⟨o',(hs.2 b (ne_of_lt (lt_of_lt_of_le (lt_size e) I.ok.above))).trans e1⟩
    . by_cases hj:j=i
      . subst hj;rw [hi] at e1;cases e1;rw [getElem?_set_self hiσ] at e2;cases e2;exact ⟨u,r,.inl ⟨hk,by simp⟩⟩
      . rw [getElem?_set_ne (Ne.symm hj)] at e2;obtain ⟨u',r',q⟩:=hl j y v' e1 e2 e3;refine ⟨u',r',?_⟩;rcases q with ⟨k,e⟩ | ⟨k,c,e,z⟩
        . refine .inl ⟨k,?_⟩;have:y≠x:=fun e=>hj (zHd hN e1 (e▸hi))
          simp [this,e]
        . exact .inr ⟨k,c,e,z.sameBut hs (cne y c e)⟩
    . obtain ⟨w',z⟩:=I.cell y c e;exact ⟨w',z.sameBut hs (cne y c e)⟩
    . obtain ⟨e,n,ne,nf,d⟩:=I.pin p hp;exact ⟨(hs.2 p.1 ne).trans e,n,ne,nf,d⟩
  . have hfn:X.fn x=true:=by
      rcases hf with z | z
      . exact z
      . rw [z] at hk;cases hk
    obtain ⟨c,hc⟩:=I.ok.has x (.inl hk);obtain ⟨w',z⟩:=I.cell x c hc;refine wpAny_storeName_cell I.ok.kind hk hc z (fun h' hc' hs=>?_);obtain ⟨oc,hoc,hocd⟩:=id z;refine h { s with heap:=h' } ⟨I.ok,I.os,I.bare,⟨fun b o e n hb hx=>?_,fun b o e n hb hx=>?_,I.base.free,fun b o e hx=>?_,I.base.tups,I.base.frzs,I.base.tbls⟩,⟨m,hn.sameBut hs (Ne.symm (cne x c hc)),fun j y v' e1 e2 e3=>?_⟩,fun y c' e=>?_,I.free,I.freeC,fun p hp=>?_,tracked ⟨oc,hoc,I.freeC x c hc⟩ hs,by simpa using I.len⟩ ⟨c,hs,.inr hc⟩
    . exact (hs.2 b (ne_of_lt (lt_of_lt_of_le (lt_size e) (I.ok.cab x c hfn hc)))).trans (I.base.keep b o e n hb hx)
    . obtain ⟨sl,e1⟩:=I.base.slot b o e n hb hx;exact ⟨sl,(hs.2 b (ne_of_lt (lt_of_lt_of_le (lt_size e) (I.ok.cab x c hfn hc)))).trans e1⟩
    . obtain ⟨o',e1⟩:=I.base.there b o e hx;exact ⟨o',(hs.2 b (ne_of_lt (lt_of_lt_of_le (lt_size e) (I.ok.cab x c hfn hc)))).trans e1⟩
    . by_cases hj:j=i
      . subst hj;rw [hi] at e1;cases e1;rw [getElem?_set_self hiσ] at e2;cases e2;exact ⟨u,r,.inr ⟨.inl hk,c,hc,hc'⟩⟩
      . rw [getElem?_set_ne (Ne.symm hj)] at e2;obtain ⟨u',r',q⟩:=hl j y v' e1 e2 e3;refine ⟨u',r',?_⟩;rcases q with q | ⟨k,c',e,z'⟩
        . exact .inl q
        . refine .inr ⟨k,c',e,z'.sameBut hs ?_⟩;rintro rfl;exact hj (zHd hN e1 (I.ok.inj _ _ _ e hc▸hi))
    . by_cases hcc:c'=c
      . subst hcc;exact ⟨_,hc'⟩
      . obtain ⟨w2,z2⟩:=I.cell y c' e;exact ⟨w2,z2.sameBut hs hcc⟩
    . obtain ⟨e,n,ne,nf,d⟩:=I.pin p hp;refine ⟨(hs.2 p.1 ?_).trans e,n,ne,nf,d⟩;intro q;rw [q,hoc] at e;have q':oc=p.2:=Option.some.inj e;exact d w' (by rw [<- q'];exact hocd)
theorem zEs {M:Model}{A:Around}{E:Value->Shared->Prop}{i:Nat}{x:Str}{v:V}{u:Value}{Q:Unit->Shared->Prop}(I:Inv X pins σ H s)(hN:X.N.Nodup)(hi:X.N[i]?=some x)(hx:Loc X.env.scope x)(r:RelV v u)
    (h:∀ s',Inv X pins (σ.set i (some v)) H s'->Q () s') (hf:X.fn x=true\/X.env.scope.names.lookup x=some .local:=by first | exact .inl rfl | exact .inr rfl | assumption):wpAny M A (storeName X.env x u) Q E s :=
  zIv I hN hi hx r (fun s' I' _=>h s' I') hf
theorem Inv.call' {s':Shared}{ch:List Addr}(I:Inv X pins σ H s)(ho:s'.os=s.os)(u:Un (frs X.stack) ch H H' s.heap s'.heap)(hok:HOk X.prog X.w H' s'.heap)(hg:AllBare s'.gens)
    (hch:∀ b∈ch,(b∈X.ex\/X.s₀.heap.objs.size<=b)/\b≠X.env.locals/\(∀ x c,X.env.cells.lookup x=some c->c≠b)/\∀ p∈X.pn++pins,p.1≠b):Inv X pins σ H' s':=by
  obtain ⟨h',g',d',t',o'⟩:=s';have e:o'=s.os:=ho;subst e;exact I.call (g':=g') (t':=t') (d':=d') u hok hg hch
end
abbrev XK:=Value->Option Addr->Hp->Prop
abbrev St:=List (Option V)
abbrev VK:=V->Hp->Prop
abbrev TE:=St->Hp->VK->Prop
abbrev TT:=St->Hp->(Bool->Hp->Prop)->Prop
abbrev TA:=St->Hp->(List V->Hp->Prop)->Prop
structure Ends where
  nx:St->Hp->Prop
  rt:VK
  bk:St->Hp->Prop:=fun _ _=>False
  ct:St->Hp->Prop:=fun _ _=>False
abbrev TS:=Ends->St->Hp->Prop
def EP (X:Cx)(pins:List (Addr×Obj))(σ:St)(Q:VK)(u:Value)(s':Shared):Prop:=∃ v H',Inv X pins σ H' s'/\RelV v u/\Q v H'
def TP (X:Cx)(pins:List (Addr×Obj))(σ:St)(Q:Bool->Hp->Prop)(b:Bool)(s':Shared):Prop:=∃ H',Inv X pins σ H' s'/\Q b H'
def AP (X:Cx)(pins:List (Addr×Obj))(σ:St)(Q:List V->Hp->Prop)(us:List Value)(s':Shared):Prop:=∃ vs H',Inv X pins σ H' s'/\Vals vs us/\Q vs H'
def SP (X:Cx)(pins:List (Addr×Obj))(D:Ends)(f:Flow)(s':Shared):Prop :=
  match f with
  | .next=>∃ σ' H',Inv X pins σ' H' s'/\D.nx σ' H'
  | .brk=>∃ σ' H',Inv X pins σ' H' s'/\D.bk σ' H'
  | .cont=>∃ σ' H',Inv X pins σ' H' s'/\D.ct σ' H'
  | .ret u=>∃ v σ' H',Inv X pins σ' H' s'/\RelV v u/\D.rt v H'
def PE (X:Cx)(e:Expr)(t:TE):Prop :=
  ∀ (pins:List (Addr×Obj)) (s:Shared) (σ:St) (H:Hp) (Q:VK),Inv X pins σ H s->t σ H Q->wpAny (model X.prog X.w) X.A (eval e X.env) (EP X pins σ Q) X.xe s
def PT (X:Cx)(e:Expr)(t:TT):Prop :=
  ∀ (pins:List (Addr×Obj)) (s:Shared) (σ:St) (H:Hp) (Q:Bool->Hp->Prop),Inv X pins σ H s->t σ H Q->wpAny (model X.prog X.w) X.A (isTrue e X.env (eval e X.env)) (TP X pins σ Q) X.xe s
def PW (X:Cx)(e:Expr)(t:TT):Prop :=
  ∀ (whole:Sem Value) (pins:List (Addr×Obj)) (s:Shared) (σ:St) (H:Hp) (Q:Bool->Hp->Prop),Inv X pins σ H s->t σ H Q->wpAny (model X.prog X.w) X.A (isTrue e X.env whole) (TP X pins σ Q) X.xe s
theorem PW.pt {X:Cx}{e:Expr}{t:TT}(h:PW X e t):PT X e t:=h _
def PA (X:Cx)(es:List Expr)(t:TA):Prop :=
  ∀ (pos:Pos) (pins:List (Addr×Obj)) (s:Shared) (σ:St) (H:Hp) (Q:List V->Hp->Prop),Inv X pins σ H s->t σ H Q->wpAny (model X.prog X.w) X.A (spliced (backTo pos (starEach es X.env))) (AP X pins σ Q) X.xe s
def PS (X:Cx)(st:Stmt)(t:TS):Prop :=
  ∀ (pins:List (Addr×Obj)) (s:Shared) (σ:St) (H:Hp) (D:Ends),Inv X pins σ H s->t D σ H->wpAny (model X.prog X.w) X.A (exec st X.env) (SP X pins D) X.xe s
def PSs (X:Cx)(st:List Stmt)(t:TS):Prop :=
  ∀ (pins:List (Addr×Obj)) (s:Shared) (σ:St) (H:Hp) (D:Ends),Inv X pins σ H s->t D σ H->wpAny (model X.prog X.w) X.A (execs st X.env) (SP X pins D) X.xe s
theorem thn {α:Type}{t:Sem α}{Q Q':α->Shared->Prop}{M:Model}{A:Around}{E:Value->Shared->Prop}{s:Shared}(h:wpAny M A t Q E s)(hQ:∀ a s,Q a s->Q' a s):wpAny M A t Q' E s:=wpAny_mono h hQ fun _ _ x=>x
section
variable {X:Cx}
theorem bin {a b:Expr}{ta tb:TE}(ha:PE X a ta)(hb:PE X b tb){pins:List (Addr×Obj)}{s:Shared}{σ:St}{H:Hp}{R:V->V->Hp->Prop}(I:Inv X pins σ H s)(h:ta σ H fun x H1=>tb σ H1 fun y H2=>R x y H2)
    {α:Type} {Q:α->Shared->Prop} {f:Value->Value->Sem α}
    (hf:∀ v u s2 x y H2,Inv X pins σ H2 s2->RelV x v->RelV y u->R x y H2->wpAny (model X.prog X.w) X.A (f v u) Q X.xe s2) :
    wpAny (model X.prog X.w) X.A (eval a X.env) (fun v s₁=>wpAny (model X.prog X.w) X.A (eval b X.env) (fun u s₂=>wpAny (model X.prog X.w) X.A (f v u) Q X.xe s₂) X.xe s₁) X.xe s:=by
  refine thn (ha pins s σ H _ I h) fun v s1 zz1=>?_
  obtain ⟨x,H1,I1,r1,q1⟩:=zz1;refine thn (hb pins s1 σ H1 _ I1 q1) fun u s2 zz2=>?_
  obtain ⟨y,H2,I2,r2,q2⟩:=zz2;exact hf v u s2 x y H2 I2 r1 r2 q2
def tVar (i:Nat):TE:=fun σ H Q=>∃ v,σ[i]?=some (some v)/\Q v H
def tC (v:V):TE:=fun _ H Q=>Q v H
theorem zDo {i:Nat}{x:Str}{pos:Pos}(hN:X.N[i]?=some x)(hv:Vis X.env.scope x)(hd:(x==("__debug__":Str))=false:=by decide)(hcd:(x==("__classdict__":Str))=false:=by decide):PE X (.Name x pos) (tVar i):=by
  intro pins s σ H Q I h;obtain ⟨v,e,h⟩:=h;obtain ⟨m,hn,hl⟩:=I.loc;obtain ⟨u,r,l⟩:=hl i x v hN e hv;have fin:EP X pins σ Q u s:=⟨v,H,I,r,h⟩;rcases l with ⟨hk,hm⟩ | ⟨hk,c,hc,hcell⟩
  . exact wpAny_Name (wpAny_loadName_local I.ok.kind hk hn hm fin) hd
  . rcases hk with hk | hk
    . exact wpAny_Name (wpAny_loadName_cell I.ok.kind hk hc hcell fin) hd
    . exact wpAny_Name (wpAny_loadName_free I.ok.kind hk hc hcell fin hcd) hd
theorem zQ8 {i j pos}:PE X (.Constant (.int i) j pos) (tC (.int i)):=fun _ _ _ H _ I h=>wpAny_Constant_int ⟨.int i,H,I.tok _,⟨_,rfl⟩,h⟩
theorem zTH {b j pos}:PE X (.Constant (.bool b) j pos) (tC (.bl b)):=fun _ _ _ H _ I h=>Constant_bool ⟨.bl b,H,I,rfl,h⟩
theorem zQ6 {j pos}:PE X (.Constant .none j pos) (tC .non):=fun _ _ _ H _ I h=>Constant_none ⟨.non,H,I,rfl,h⟩
theorem zQ3 {x j pos}:PE X (.Constant (.str x) j pos) (tC (.str x)):=fun _ _ _ H _ I h=>Calls.Constant_str ⟨.str x,H,I.tok _,⟨_,rfl⟩,h⟩
def Gl (X:Cx)(x:Str):Prop:=X.env.kindOf x=some .globalImplicit
theorem zE7 {E:Value->Shared->Prop}{pins:List (Addr×Obj)}{s:Shared}{σ:St}{H:Hp}{x:Str}{u:Value}{pos:Pos}{Q:Value->Shared->Prop}(I:Inv X pins σ H s)(hg:Gl X x)(hm:X.mg x=some u)(h:Q u s)
    (hd:(x==("__debug__":Str))=false:=by decide):wpAny (model X.prog X.w) X.A (eval (.Name x pos) X.env) Q E s :=
  Calls.Name_function_global I.ok.kind hg (Calls.loadGlobal_global (by rw [I.ok.glob];exact I.mod.glob.keeps I.bk) hm h) hd
theorem zCh {E:Value->Shared->Prop}{pins:List (Addr×Obj)}{s:Shared}{σ:St}{H:Hp}{x:Str}{u:Value}{pos:Pos}{Q:Value->Shared->Prop}(I:Inv X pins σ H s)(hg:Gl X x)(hm:X.mg x=none)(hv:bootBuiltins x=some u)(h:Q u s)
    (hn:x ≠ "__name__":=by decide) (hd:(x==("__debug__":Str))=false:=by decide):wpAny (model X.prog X.w) X.A (eval (.Name x pos) X.env) Q E s:=by
  obtain ⟨mb,h1,h2⟩:=I.mod.blt;exact Calls.Name_function_global I.ok.kind hg (Calls.loadGlobal_builtin (by rw [I.ok.glob];exact I.mod.glob.keeps I.bk) hm (by rw [I.ok.blt];exact h1.keeps I.bk) ((h2 x hn).trans hv) h) hd
theorem zOg {x:Str}{v:V}{u:Value}{pos:Pos}(hg:Gl X x)(hm:X.mg x=some u)(r:RelV v u)(hd:(x==("__debug__":Str))=false:=by decide):PE X (.Name x pos) (tC v) :=
  fun _ _ _ H _ I h=>zE7 I hg hm ⟨v,H,I,r,h⟩ hd
theorem zOj {x:Str}{v:V}{u:Value}{pos:Pos}(hg:Gl X x)(hm:X.mg x=none)(hv:bootBuiltins x=some u)(r:RelV v u)(hn:x ≠ "__name__":=by decide)(hd:(x==("__debug__":Str))=false:=by decide):PE X (.Name x pos) (tC v) :=
  fun _ _ _ H _ I h=>zCh I hg hm hv ⟨v,H,I,r,h⟩ hn hd
variable {a b:Expr}{ta tb:TE}{pos:Pos}
def tB (t:TE):TT:=fun σ H Q=>t σ H fun x H1=>∃ c,x=.bl c/\Q c H1
theorem zNU {e:Expr}{t:TE}(h:PE X e t)(he:∀ whole,isTrue e X.env whole=(do let v<-whole;standAt e.pos;holding [v] (truthy v)):=by intro _;rfl):PT X e (tB t):=by
  intro pins s σ H Q I hw;refine isTrue_plain (thn (h pins s σ H _ I hw) fun v s1 zz3=>?_) (he _);obtain ⟨x,H1,I1,r1,q1⟩:=zz3;obtain ⟨d,rfl,q⟩:=q1;cases r1;exact wpAny_truthy_bool ⟨H1,I1,q⟩
variable {tA tB':TT}{rest:List Expr}
def tAnd (t u:TT):TT:=fun σ H Q=>t σ H fun c H1=>if c=true then u σ H1 Q else Q false H1
def tOr (t u:TT):TT:=fun σ H Q=>t σ H fun c H1=>if c=true then Q true H1 else u σ H1 Q
def tNot (t:TT):TT:=fun σ H Q=>t σ H fun c H1=>Q (!c) H1
theorem zI9 (ha:PT X a tA):PW X (.BoolOp .And [a] pos) tA:=by
  intro wh pins s σ H Q I h;refine isTrue_and (thn (ha pins s σ H Q I h) fun c s1 e=>?_);cases c with
  | true=>exact isTrue_and_nil e
  | false=>exact e
theorem zNS (ha:PT X a tA):PW X (.BoolOp .Or [a] pos) tA:=by
  intro wh pins s σ H Q I h;refine isTrue_or (thn (ha pins s σ H Q I h) fun c s1 e=>?_);cases c with
  | false=>exact isTrue_or_nil e
  | true=>exact e
theorem zNT (ha:PT X a tA)(hb:PW X (.BoolOp .And (b::rest) pos) tB'):PW X (.BoolOp .And (a::b::rest) pos) (tAnd tA tB'):=by
  intro wh pins s σ H Q I h;refine isTrue_and (thn (ha pins s σ H _ I h) fun c s1 zz4=>?_);obtain ⟨H1,I1,q1⟩:=zz4;cases c with
  | true=>exact hb wh pins s1 σ H1 Q I1 q1
  | false=>exact ⟨H1,I1,q1⟩
theorem zQu (ha:PT X a tA)(hb:PW X (.BoolOp .Or (b::rest) pos) tB'):PW X (.BoolOp .Or (a::b::rest) pos) (tOr tA tB'):=by
  intro wh pins s σ H Q I h;refine isTrue_or (thn (ha pins s σ H _ I h) fun c s1 zz5=>?_);obtain ⟨H1,I1,q1⟩:=zz5;cases c with
  | true=>exact ⟨H1,I1,q1⟩
  | false=>exact hb wh pins s1 σ H1 Q I1 q1
theorem zQv (ha:PT X a tA):PT X (.UnaryOp .Not a pos) (tNot tA):=by
  intro pins s σ H Q I h;exact isTrue_not (ha pins s σ H (fun c H1=>Q (!c) H1) I h)
def zS7 (ta tb:TE):TE:=fun σ H Q=>ta σ H fun x H1=>∃ c,x=.bl c/\if c=true then tb σ H1 Q else Q (.bl false) H1
def tOrV (ta tb:TE):TE:=fun σ H Q=>ta σ H fun x H1=>∃ c,x=.bl c/\if c=true then Q (.bl true) H1 else tb σ H1 Q
def zS4 (ta:TE):TE:=fun σ H Q=>ta σ H fun x H1=>∃ c,x=.bl c/\Q (.bl (!c)) H1
theorem zQ4 {op}{t:TE}(h:PE X a t):PE X (.BoolOp op [a] pos) t:=fun pins s σ H Q I hw=>BoolOp_one (h pins s σ H Q I hw)
theorem zQ9 (ha:PE X a ta)(hb:PE X (.BoolOp .And (b::rest) pos) tb):PE X (.BoolOp .And (a::b::rest) pos) (zS7 ta tb):=by
  intro pins s σ H Q I h;refine BoolOp_and (thn (ha pins s σ H _ I h) fun v s1 zz6=>?_);obtain ⟨x,H1,I1,r1,q1⟩:=zz6;obtain ⟨c,rfl,q1⟩:=q1;cases r1;refine wpAny_truthy_bool ?_;cases c with
  | true=>exact hb pins s1 σ H1 Q I1 q1
  | false=>exact ⟨.bl false,H1,I1,rfl,q1⟩
theorem zTF (ha:PE X a ta)(hb:PE X (.BoolOp .Or (b::rest) pos) tb):PE X (.BoolOp .Or (a::b::rest) pos) (tOrV ta tb):=by
  intro pins s σ H Q I h;refine BoolOp_or (thn (ha pins s σ H _ I h) fun v s1 zz7=>?_);obtain ⟨x,H1,I1,r1,q1⟩:=zz7;obtain ⟨c,rfl,q1⟩:=q1;cases r1;refine wpAny_truthy_bool ?_;cases c with
  | false=>exact hb pins s1 σ H1 Q I1 q1
  | true=>exact ⟨.bl true,H1,I1,rfl,q1⟩
theorem zQ5 (ha:PE X a ta):PE X (.UnaryOp .Not a pos) (zS4 ta):=by
  intro pins s σ H Q I h;refine UnaryOp_ (thn (ha pins s σ H _ I h) fun v s1 zz8=>?_);obtain ⟨x,H1,I1,r1,q1⟩:=zz8;obtain ⟨c,rfl,q1⟩:=q1;cases r1;exact not_of (wpAny_truthy_bool ⟨.bl (!c),H1,I1,rfl,q1⟩)
def tIf (t:TT)(ta tb:TE):TE:=fun σ H Q=>t σ H fun c H1=>if c=true then ta σ H1 Q else tb σ H1 Q
theorem zLl {c:Expr}(hc:PT X c tA)(ha:PE X a ta)(hb:PE X b tb):PE X (.IfExp c a b pos) (tIf tA ta tb):=by
  intro pins s σ H Q I h;refine wpAny_IfExp (thn (hc pins s σ H _ I h) fun d s1 zz9=>?_);obtain ⟨H1,I1,q1⟩:=zz9;cases d with
  | true=>exact ha pins s1 σ H1 Q I1 q1
  | false=>exact hb pins s1 σ H1 Q I1 q1
end
def SqL (K:W.Frag)(H:Hp)(a:Addr)(xs:List V):Prop :=
  Rd H a (.lst xs) \/
    ∃ (o:Obj) (its:Array Value) (n:Nat),K.lookup a=some o/\o.cls=.type "list"/\o.dict=none/\o.data=.seq its n/\its.size<=sizeLine/\Vals xs its.toList
def SqT (K:W.Frag)(H:Hp)(a:Addr)(xs:List V):Prop :=
  Rd H a (.tup xs) \/
    ∃ (o:Obj) (its:Array Value) (n:Nat),K.lookup a=some o/\o.cls=.type "tuple"/\o.data=.seq its n/\its.size<=sizeLine/\Vals xs its.toList
def absV:Value->Option V
  | .none=>some .non
  | .bool b=>some (.bl b)
  | .int i _=>some (.int i)
  | .str x _=>some (.str x)
  | .bytes b _=>some (.byt b)
  | .float b _=>some (.flt b)
  | .ref a=>some (.ref a)
  | .type n=>some (.ty n)
  | _=>none
theorem RelV.abs {x:V}{u:Value}(r:RelV x u):absV u=some x:=by
  cases x with
  | non=>cases r;rfl
  | bl _=>cases r;rfl
  | int _=>obtain ⟨t,rfl⟩:=r;rfl
  | str _=>obtain ⟨t,rfl⟩:=r;rfl
  | byt _=>obtain ⟨t,rfl⟩:=r;rfl
  | flt _=>obtain ⟨t,rfl⟩:=r;rfl
  | ref _=>cases r;rfl
  | ty _=>cases r;rfl
theorem RelV.inj {x y:V}{u:Value}(r:RelV x u)(q:RelV y u):x=y:=Option.some.inj (r.abs.symm.trans q.abs)
theorem Vals.inj:∀ {xs ys:List V} {us:List Value},Vals xs us->Vals ys us->xs=ys
  | _,_,_,.nil,.nil=>rfl
  | _,_,_,.cons r t,.cons r' t'=>by rw [r.inj r',Vals.inj t t']
section
variable {X:Cx}{pins:List (Addr×Obj)}{σ:St}{H:Hp}{s:Shared}{a:Addr}{xs ys:List V}
theorem SqL.of {K:W.Frag}(h:H a=some (.lst xs)):SqL K H a xs:=.inl (.inl h)
theorem SqT.of {K:W.Frag}(h:H a=some (.tup xs)):SqT K H a xs:=.inl (.inl h)
theorem Inv.list (I:Inv X pins σ H s)(h:SqL X.K H a xs):∃ its:List Value,Vals xs its/\PlainL s.heap a its.toArray/\xs.length<=sizeLine:=by
  rcases h with h | ⟨o,its,n,hk,hc,hd,hs,hz,r⟩
  . obtain ⟨z,its,n,r,e⟩:=h.ok I.hok;exact ⟨its,r,⟨_,n,e,rfl,rfl,rfl⟩,z⟩
  . refine ⟨its.toList,r,⟨o,n,I.kIn a o hk,hc,hd,by simpa using hs⟩,?_⟩;have e:=r.length;simp only [Array.length_toList] at e;omega
theorem Inv.tuple (I:Inv X pins σ H s)(h:SqT X.K H a xs):∃ its:List Value,Vals xs its/\IsTup s.heap a its.toArray/\xs.length<=sizeLine:=by
  rcases h with h | ⟨o,its,n,hk,hc,hs,hz,r⟩
  . obtain ⟨z,its,r,p⟩:=h.ok I.hok;exact ⟨its,r,p,z⟩
  . refine ⟨its.toList,r,⟨o,I.kIn a o hk,hc,n,by simpa using hs⟩,?_⟩;have e:=r.length;simp only [Array.length_toList] at e;omega
theorem Inv.list_inj (I:Inv X pins σ H s)(h:SqL X.K H a xs)(h':SqL X.K H a ys):xs=ys:=by
  obtain ⟨its,r,⟨o,n,e,_,_,d⟩,_⟩:=I.list h;obtain ⟨its',r',⟨o',n',e',_,_,d'⟩,_⟩:=I.list h';rw [e] at e';cases e';rw [d] at d';injection d' with d1 _
  have:its=its':=by simpa using congrArg Array.toList d1
  subst this;exact r.inj r'
theorem Inv.tuple_inj (I:Inv X pins σ H s)(h:SqT X.K H a xs)(h':SqT X.K H a ys):xs=ys:=by
  obtain ⟨its,r,⟨o,e,_,n,d⟩,_⟩:=I.tuple h;obtain ⟨its',r',⟨o',e',_,n',d'⟩,_⟩:=I.tuple h';rw [e] at e';cases e';rw [d] at d';injection d' with d1 _
  have:its=its':=by simpa using congrArg Array.toList d1
  subst this;exact r.inj r'
end
abbrev Cx.wish (X:Cx) (E:Value->Shared->Prop):Cx:={ X with xe:=E }
abbrev Cx.nox (X:Cx):Cx:=X.wish fun _ _=>False
theorem Cx.Ok.wish {X:Cx}(ok:X.Ok)(E:Value->Shared->Prop):(X.wish E).Ok :=
  ⟨ok.mod,ok.kind,ok.glob,ok.blt,ok.above,ok.inj,ok.has,ok.cab,ok.hd,ok.frames,ok.stk,ok.exf,ok.bs,ok.bsz,ok.noex,ok.exfs,ok.funs,ok.frf,ok.pyl,ok.tabs⟩
theorem Cx.Ok.unwish {X:Cx}{E:Value->Shared->Prop}(ok:(X.wish E).Ok):X.Ok :=
  ⟨ok.mod,ok.kind,ok.glob,ok.blt,ok.above,ok.inj,ok.has,ok.cab,ok.hd,ok.frames,ok.stk,ok.exf,ok.bs,ok.bsz,ok.noex,ok.exfs,ok.funs,ok.frf,ok.pyl,ok.tabs⟩
section
variable {X:Cx}{pins:List (Addr×Obj)}{σ:St}{H:Hp}{s:Shared}{E:Value->Shared->Prop}
theorem Inv.wish (I:Inv X pins σ H s)(E:Value->Shared->Prop):Inv (X.wish E) pins σ H s:=⟨I.ok.wish E,I.os,I.bare,I.base,I.loc,I.cell,I.free,I.freeC,I.pin,I.hok,I.len⟩
theorem Inv.unwish (I:Inv (X.wish E) pins σ H s):Inv X pins σ H s:=⟨I.ok.unwish,I.os,I.bare,I.base,I.loc,I.cell,I.free,I.freeC,I.pin,I.hok,I.len⟩
theorem SP.unwish {D:Ends}{f:Flow}{s':Shared}(h:SP (X.wish E) pins D f s'):SP X pins D f s':=by
  cases f with
  | next=>obtain ⟨σ',H',I,q⟩:=h;exact ⟨σ',H',I.unwish,q⟩
  | brk=>obtain ⟨σ',H',I,q⟩:=h;exact ⟨σ',H',I.unwish,q⟩
  | cont=>obtain ⟨σ',H',I,q⟩:=h;exact ⟨σ',H',I.unwish,q⟩
  | ret u=>obtain ⟨v,σ',H',I,r,q⟩:=h;exact ⟨v,σ',H',I.unwish,r,q⟩
theorem PSs.nox {st:List Stmt}{t:TS}(h:PSs X.nox st t):PSs X st t:=fun pins s σ H D I hw =>
  wpAny_mono (h pins s σ H D (I.wish _) hw) (fun _ _ q=>q.unwish) fun _ _ z=>False.elim z
end
section
variable {X:Cx}{st:Stmt}{rest:List Stmt}{t u:TS}{e:Expr}{te:TE}{pos:Pos}
def zS5:TS:=fun D σ H=>D.nx σ H
def tSeq (t u:TS):TS:=fun D σ H=>t { D with nx:=u D } σ H
theorem zJA:PSs X [] zS5:=fun _ _ σ H _ I h=>wpAny_execs_nil ⟨σ,H,I,h⟩
theorem zHX (h1:PS X st t)(h2:PSs X rest u):PSs X (st::rest) (tSeq t u):=by
  intro pins s σ H D I h;refine wpAny_execs_cons (thn (h1 pins s σ H { D with nx:=u D } I h) fun f s1 q=>?_);cases f with
  | next =>
    obtain ⟨σ',H',I',q⟩:=q;exact h2 pins s1 σ' H' D I' q
  | ret v=>exact q
  | brk=>exact q
  | cont=>exact q
theorem Inv.quiet {pins:List (Addr×Obj)}{σ:St}{H:Hp}{s:Shared}(I:Inv X pins σ H s):interactive X.env=false:=by simp [interactive,I.ok.kind]
def zS6 (te:TE):TS:=fun D σ H=>te σ H fun _ H1=>D.nx σ H1
theorem zGf (he:PE X e te)(hs:swapsWith e none pos.line X.env=pure false:=by rfl):PS X (.Expr e pos) (zS6 te):=by
  intro pins s σ H D I h;exact wpAny_Expr_any (thn (he pins s σ H _ I h) fun v s1 zy107=>by obtain ⟨x,H1,I1,r1,q1⟩:=zy107;exact ⟨σ,H1,I1,q1⟩) I.quiet hs
def tRet (te:TE):TS:=fun D σ H=>te σ H D.rt
theorem zJB (he:PE X e te):PS X (.Return (some e) pos) (tRet te):=by
  intro pins s σ H D I h;exact wpAny_Return_some (thn (he pins s σ H _ I h) fun v s1 zy108=>by obtain ⟨x,H1,I1,r1,q1⟩:=zy108;exact ⟨x,σ,H1,I1,r1,q1⟩)
def tIfS (c:TT)(t u:TS):TS:=fun D σ H=>c σ H fun b H1=>if b=true then t D σ H1 else u D σ H1
theorem zQx {c:Expr}{a b:List Stmt}{tc:TT}(hc:PT X c tc)(ha:PSs X a t)(hb:PSs X b u):PS X (.If c a b pos) (tIfS tc t u):=by
  intro pins s σ H D I h;refine wpAny_If (thn (hc pins s σ H _ I h) fun d s1 zz10=>?_);obtain ⟨H1,I1,q1⟩:=zz10;cases d with
  | true=>exact ha pins s1 σ H1 D I1 q1
  | false=>exact hb pins s1 σ H1 D I1 q1
def zQe:TS:=fun _ _ _=>False
theorem zEy:PS X st zQe:=fun _ _ _ _ _ _ h=>h.elim
end
abbrev TG:=V->St->Hp->(St->Hp->Prop)->Prop
abbrev TGs:=List V->St->Hp->(St->Hp->Prop)->Prop
def PG (X:Cx)(target:Expr)(t:TG):Prop :=
  ∀ (pins:List (Addr×Obj)) (s:Shared) (σ:St) (H:Hp) (v:V) (u:Value) (Q:St->Hp->Prop),Inv X pins σ H s->RelV v u->t v σ H Q ->
    wpAny (model X.prog X.w) X.A (assign target X.env u) (fun _ s'=>∃ σ' H',Inv X pins σ' H' s'/\Q σ' H') X.xe s
def PGs (X:Cx)(ts:List Expr)(t:TGs):Prop :=
  ∀ (pins:List (Addr×Obj)) (s:Shared) (σ:St) (H:Hp) (vs:List V) (us:List Value) (Q:St->Hp->Prop),Inv X pins σ H s->Vals vs us->t vs σ H Q ->
    wpAny (model X.prog X.w) X.A (assignInOrder ((assignEach ts X.env).map (·.2)) us) (fun _ s'=>∃ σ' H',Inv X pins σ' H' s'/\Q σ' H') X.xe s
abbrev TIp:=V->V->Hp->VK->Prop
def PIp (X:Cx)(op:Operator)(t:TIp):Prop :=
  ∀ (pins:List (Addr×Obj)) (s:Shared) (σ:St) (H:Hp) (x y:V) (v u:Value) (Q:VK),Inv X pins σ H s->RelV x v->RelV y u->t x y H Q ->
    wpAny (model X.prog X.w) X.A (inplaceOp op v u) (EP X pins σ Q) X.xe s
section
variable {X:Cx}{pos:Pos}
def zSK (i:Nat):TG:=fun v σ H Q=>Q (σ.set i (some v)) H
theorem zDJ {i:Nat}{x:Str}(hN:X.N.Nodup)(hi:X.N[i]?=some x)(hx:Loc X.env.scope x)(hf:X.fn x=true\/X.env.scope.names.lookup x=some .local:=by first | exact .inl rfl | exact .inr rfl | assumption):PG X (.Name x pos) (zSK i):=by
  intro pins s σ H v u Q I r h;exact wpAny_assign_Name (zEs I hN hi hx r (fun s' I'=>⟨_,H,I',h⟩) hf)
def gNil:TGs:=fun vs σ H Q=>vs=[]/\Q σ H
def zTo (t:TG)(u:TGs):TGs:=fun vs σ H Q=>∃ v r,vs=v::r/\t v σ H fun σ' H'=>u r σ' H' Q
theorem zOf:PGs X [] gNil:=by
  intro pins s σ H vs us Q I r h;obtain ⟨e,h⟩:=h;subst e;cases r;exact assignInOrder_nil ⟨σ,H,I,h⟩
theorem zHZ {e:Expr}{es:List Expr}{t:TG}{u:TGs}(h1:PG X e t)(h2:PGs X es u)
    (hs:(assignEach (e::es) X.env).map (·.2)=assign e X.env::(assignEach es X.env).map (·.2):=by rfl):PGs X (e::es) (zTo t u):=by
  intro pins s σ H vs us Q I r h;obtain ⟨v,vr,e1,h⟩:=h;subst e1;cases r with
  | cons r rr =>
    rw [hs];refine assignInOrder_cons (thn (h1 pins s σ H _ _ _ I r h) fun _ s1 zz11=>?_);obtain ⟨σ1,H1,I1,q1⟩:=zz11;exact h2 pins s1 σ1 H1 _ _ Q I1 rr q1
def gTup (K:W.Frag)(n:Nat)(t:TGs):TG:=fun v σ H Q=>∃ a xs,v=.ref a/\SqT K H a xs/\xs.length=n/\t xs σ H Q
theorem zQ1 {es:List Expr}{k:Nat}{t:TGs}{n:Nat}(hc:X.calm=true)(h:PGs X es t)
    (hn:(assignEach es X.env).length=n:=by rfl) (hst:(assignEach es X.env).findIdx? (·.1)=none:=by rfl):PG X (.Tuple es k pos) (gTup X.K n t):=by
  intro pins s σ H v u Q I r hw;obtain ⟨a,xs,e1,hq,hl,hw⟩:=hw;subst e1;cases r;obtain ⟨its,rv,ht,hz⟩:=I.tuple hq;refine assign_Tuple_tuple (I.ok.hd hc) ht (by simp [hn,<- hl,rv.length]) hst fun h' hx=>?_
  have I1:Inv X pins σ H { s with heap:=h' }:=I.kept (t':=s.toks) fun b o e=>hx b o (ne_of_lt (lt_size e)) e
  exact h pins _ σ H xs _ Q I1 (by simpa using rv) hw
def tAsg (te:TE)(g:TG):TS:=fun D σ H=>te σ H fun x H1=>g x σ H1 D.nx
theorem zNW {i:Nat}{x:Str}{e:Expr}{te:TE}{pos':Pos}(hN:X.N.Nodup)(hi:X.N[i]?=some x)(hx:Loc X.env.scope x)(he:PE X e te)(hs:swapsWith e (some (.Name x pos')) pos.line X.env=pure false:=by rfl)(hf:X.fn x=true\/X.env.scope.names.lookup x=some .local:=by first | exact .inl rfl | exact .inr rfl | assumption) :
    PS X (.Assign [.Name x pos'] e pos) (tAsg te (zSK i)):=by
  intro pins s σ H D I h;refine wpAny_Assign_Name (thn (he pins s σ H _ I h) fun v s1 zz12=>?_) hs;obtain ⟨y,H1,I1,r1,q1⟩:=zz12;exact zEs I1 hN hi hx r1 (fun s2 I2=>⟨_,H1,I2,q1⟩) hf
def tAug (i:Nat)(te:TE)(ti:TIp):TS:=fun D σ H=>∃ x,σ[i]?=some (some x)/\te σ H fun y H1=>ti x y H1 fun z H2=>D.nx (σ.set i (some z)) H2
theorem zQy {i:Nat}{x:Str}{e:Expr}{te:TE}{op:Operator}{ti:TIp}{pos':Pos}(hN:X.N.Nodup)(hi:X.N[i]?=some x)(hx:Loc X.env.scope x)(he:PE X e te)(ho:PIp X op ti)(hf:X.fn x=true\/X.env.scope.names.lookup x=some .local:=by first | exact .inl rfl | exact .inr rfl | assumption) :
    PS X (.AugAssign (.Name x pos') op e pos) (tAug i te ti):=by
  intro pins s σ H D I h;obtain ⟨v,e1,h⟩:=h;obtain ⟨m,hn,hl⟩:=I.loc;have vis:Vis X.env.scope x:=by rcases hx with k | k;exact .inl k;exact .inr (.inl k)
  obtain ⟨u,r,l⟩:=hl i x v hi e1 vis;refine wpAny_AugAssign_Name ?_;have go:wpAny (model X.prog X.w) X.A (eval e X.env) (fun w s₂=>wpAny (model X.prog X.w) X.A (inplaceOp op u w) (fun r s₃=>wpAny (model X.prog X.w) X.A (storeName X.env x r) (fun _=>SP X pins D .next) X.xe s₃) X.xe s₂) X.xe s:=by
    refine thn (he pins s σ H _ I h) fun w s1 zz13=>?_
    obtain ⟨y,H1,I1,r1,q1⟩:=zz13;refine thn (ho pins s1 σ H1 v y u w _ I1 r r1 q1) fun z s2 zz14=>?_
    obtain ⟨zv,H2,I2,r2,q2⟩:=zz14;exact zEs I2 hN hi hx r2 (fun s3 I3=>⟨_,H2,I3,q2⟩) hf
  rcases l with ⟨hk,hm⟩ | ⟨hk,c,hc,hcell⟩
  . exact wpAny_loadName_local I.ok.kind hk hn hm go
  . rcases hk with hk | hk
    . exact wpAny_loadName_cell I.ok.kind hk hc hcell go
    . rcases hx with k | k
      . have:X.env.scope.names.lookup x=some .free:=hk;rw [k] at this;cases this
      . have:X.env.scope.names.lookup x=some .free:=hk;rw [k] at this;cases this
end
section
variable {X:Cx}{pos:Pos}
def zQb (c:TT)(tb:TS):TS:=fun D σ H=>∃ W:Nat->St->Hp->Prop,(∃ m,W m σ H)/\∀ m σ H,W m σ H ->
  c σ H fun b H1=>if b=true then ∃ N:St->Hp->Prop,(∀ σ' H',N σ' H'->∃ m',m' < m/\W m' σ' H')/\tb { D with nx:=N,ct:=N,bk:=D.nx } σ H1 else D.nx σ H1
theorem zLh {c:Expr}{body:List Stmt}{tc:TT}{tb:TS}(hp:PassesOwn (model X.prog X.w) X.A X.env X.xe)(hc:PT X c tc)(hb:PSs X body tb):PS X (.While c body [] pos) (zQb tc tb):=by
  intro pins s σ H D I h;obtain ⟨W,⟨m0,w0⟩,turn⟩:=h;refine wpAny_While (codeAny_whileLoop (fun n s'=>∃ σ' H',Inv X pins σ' H' s'/\W n σ' H') ?_ m0 ⟨σ,H,I,w0⟩);rintro n s1 ⟨σ1,H1,I1,w1⟩;refine wpAny_passesOwn hp (thn (hc pins s1 σ1 H1 _ I1 (turn n σ1 H1 w1)) fun b s2 zz15=>?_);obtain ⟨H2,I2,q2⟩:=zz15;cases b with
  | true =>
    obtain ⟨N,hN,q2⟩:=q2;rw [if_pos rfl];refine wpAny_passesOwn hp (thn (hb pins s2 σ1 H2 _ I2 q2) fun f s3 q3=>?_);cases f with
    | next =>
      obtain ⟨σ3,H3,I3,n3⟩:=q3;obtain ⟨m',hm,w3⟩:=hN σ3 H3 n3;exact ⟨m',hm,σ3,H3,I3,w3⟩
    | cont =>
      obtain ⟨σ3,H3,I3,n3⟩:=q3;obtain ⟨m',hm,w3⟩:=hN σ3 H3 n3;exact ⟨m',hm,σ3,H3,I3,w3⟩
    | brk=>exact q3
    | ret v=>exact q3
  | false =>
    rw [if_neg Bool.false_ne_true];exact wpAny_execs_nil ⟨σ1,H2,I2,q2⟩
end
structure It where
  go:Nat->Hp->Prop
  yld:Nat->Hp->V->Hp->Prop
  stop:Nat->Hp->Prop
def FpOk (X:Cx)(pins:List (Addr×Obj))(H:Hp)(b:Addr):Prop :=
  H b=none/\b≠X.env.locals/\b∉X.fs/\(b∈X.ex\/X.s₀.heap.objs.size<=b)/\(∀ x c,X.env.cells.lookup x=some c->c≠b)/\∀ p∈X.pn++pins,p.1≠b
theorem Inv.fpOk {X:Cx}{pins:List (Addr×Obj)}{σ:St}{H H':Hp}{s:Shared}{b:Addr}(I:Inv X pins σ H s)(hb:s.heap.objs.size<=b)(hn:H' b=none):FpOk X pins H' b:=by
  refine ⟨hn,Nat.ne_of_gt (lt_of_lt_of_le I.lt hb),I.nofs hb,.inr (le_trans I.sz hb),fun x c e z=>?_,fun p hp z=>?_⟩
  . obtain ⟨v,q⟩:=I.cell x c e;exact absurd (lt_of_lt_of_le q.lt (by rw [z];exact hb)) (lt_irrefl _)
  . exact absurd (lt_of_lt_of_le (lt_size (I.pin p hp).1) (by rw [z];exact hb)) (lt_irrefl _)
structure Turn (P:Program)(w:World)(K:W.Frag)(tg:Expr)(J:It)(fp:List Addr)(it:Addr)(tn:Nat->Heap->Prop):Prop where
  mem:it∈fp
  obj:∀ i h,tn i h->∀ b∈fp,∃ o,h.get? b=some o/\∀ v,o.data≠.cell v
  keep:∀ i h h',tn i h->(∀ b∈fp,∀ o,h.get? b=some o->h'.get? b=some o)->tn i h'
  item:∀ (X:Cx),X.prog=P->X.w=w->X.K=K->X.calm=true->∀ (i:Nat) (pins:List (Addr×Obj)) (s:Shared) (σ:St) (H:Hp) (E:Value->Shared->Prop),Inv X pins σ H s->(∀ b∈fp,FpOk X pins H b)->tn i s.heap->J.go i H ->
    wpAny (model P w) X.A (pyNext (.ref it)) (fun r s1=>∃ u,r=some u /\
      wpAny (model P w) X.A (letOwnedTupleGo tg (.ref it) u) (fun _ s2=>∃ x H',Inv X pins σ H' s2/\RelV x u/\J.yld i H x H'/\tn (i+1) s2.heap/\∀ b∈fp,H' b=none) E s1) E s
  done:∀ (X:Cx),X.prog=P->X.w=w->X.K=K->X.calm=true->∀ (i:Nat) (pins:List (Addr×Obj)) (s:Shared) (σ:St) (H:Hp) (E:Value->Shared->Prop),Inv X pins σ H s->(∀ b∈fp,FpOk X pins H b)->tn i s.heap->J.stop i H ->
    wpAny (model P w) X.A (pyNext (.ref it)) (fun r s1=>r=none/\Inv X pins σ H s1) E s
  self:∀ (A:Around) (i:Nat) (s:Shared) (Q:Value->Shared->Prop) (E:Value->Shared->Prop),tn i s.heap->Q (.ref it) s->wpAny (model P w) A (pyIter (.ref it)) Q E s
abbrev TI:=St->Hp->(It->Hp->Prop)->Prop
def PIE (X:Cx)(pins:List (Addr×Obj))(σ:St)(tg:Expr)(R:It->Hp->Prop)(itv:Value)(s2:Shared):Prop :=
  ∃ (it:Addr) (fp:List Addr) (tn:Nat->Heap->Prop) (J:It) (H':Hp),itv=.ref it/\Inv X pins σ H' s2/\Turn X.prog X.w X.K tg J fp it tn/\tn 0 s2.heap/\(∀ b∈fp,FpOk X pins H' b)/\R J H'
def PI (X:Cx)(tg iter:Expr)(wi:TI):Prop :=
  ∀ (pins:List (Addr×Obj)) (s:Shared) (σ:St) (H:Hp) (R:It->Hp->Prop),Inv X pins σ H s->wi σ H R ->
    wpAny (model X.prog X.w) X.A (eval iter X.env) (fun v s1=>wpAny (model X.prog X.w) X.A (pyIter v) (PIE X pins σ tg R) X.xe s1) X.xe s
theorem zKI {M:Model}{A:Around}{E:Value->Shared->Prop}{s:Shared}{tg:Expr}{it:Addr}{u:Value}{o:Obj}{n:String}{vs:Array Value}{Q:Unit->Shared->Prop}(ho:s.heap.get? it=some o)(hc:o.cls=.type n)(hd:o.data=.fields vs)
    (hn:["enumerate","zip","dict_itemiterator","dict_reverseitemiterator","odict_iterator","itertools.zip_longest","itertools.pairwise"].contains n=false) (hQ:Q () s):wpAny M A (letOwnedTupleGo tg (.ref it) u) Q E s:=by
  unfold letOwnedTupleGo;cases tg<;>first
    | exact wpAny_pure hQ
    | (cases u<;>first
        | exact wpAny_pure hQ
        | (refine wpAny_bind (wpAny_load ho ?_)
           rw [hc,hd];show wpAny M A (if (["enumerate","zip","dict_itemiterator","dict_reverseitemiterator","odict_iterator","itertools.zip_longest","itertools.pairwise"].contains n&&vs[0]?==some (rawInt _))=true then _ else _) Q E s;rw [if_neg (by intro h;rw [hn,Bool.false_and] at h;cases h)];exact wpAny_pure hQ))
def Itl (K:W.Frag)(a:Addr):It :=
  ⟨fun i H=>∃ xs x,SqL K H a xs/\xs[i]?=some x,fun i H x H'=>H'=H/\∀ xs,SqL K H a xs->xs[i]?=some x,fun i H=>∃ xs,SqL K H a xs/\xs.length<=i⟩
def Itt (K:W.Frag)(a:Addr):It :=
  ⟨fun i H=>∃ xs x,SqT K H a xs/\xs[i]?=some x,fun i H x H'=>H'=H/\∀ xs,SqT K H a xs->xs[i]?=some x,fun i H=>∃ xs,SqT K H a xs/\xs.length<=i⟩
def Itr (lo:Int)(n:Nat):It:=⟨fun i _=>i < n,fun i H x H'=>H'=H/\x=.int (lo+i),fun i _=>n<=i⟩
theorem zIm {P:Program}{w:World}{K:W.Frag}{tg:Expr}(a it:Addr):Turn P w K tg (Itl K a) [it] it (fun i h=>h.IsListIter it a i) where
  mem:=by simp
  obj:=fun i h st b hb=>by
    have e:b=it:=by simpa using hb
    subst e;obtain ⟨o,e,c,d⟩:=st;exact ⟨o,e,fun v z=>by rw [d] at z;cases z⟩
  keep:=fun i h h' st k=>st.at fun o e=>k it (by simp) o e
  item:=by
    intro X hP hw hK hc i pins s σ H E I hf st hg;subst hP hw hK;obtain ⟨xs,x,hq,hx⟩:=hg;obtain ⟨its,rv,p,hz⟩:=I.list hq;obtain ⟨u,hu,ru⟩:=rv.get hx;obtain ⟨f0,f1,f2,f3,f4,f5⟩:=hf it (by simp);refine wpAny_pyNext_list_item st p.isList (x:=u) (by simpa using hu) fun h' st' sb=>?_
    have I1:Inv X pins σ H { s with heap:=h' }:=I.turned (t':=s.toks) (fun b o hb e=>(sb.2 b hb).trans e) f0 f1 f3 f4 f5;obtain ⟨o,e,c,d⟩:=id st';exact ⟨u,rfl,zKI (s:={ s with heap:=h' }) e c d (by decide) ⟨x,H,I1,ru,⟨rfl,fun ys hy=>by rw [I.list_inj hy hq];exact hx⟩,st',fun b hb=>(hf b hb).1⟩⟩
  done:=by
    intro X hP hw hK hc i pins s σ H E I hf st hg;subst hP hw hK;obtain ⟨xs,hq,hx⟩:=hg;obtain ⟨its,rv,p,hz⟩:=I.list hq;obtain ⟨f0,f1,f2,f3,f4,f5⟩:=hf it (by simp);have hl:=rv.length;exact wpAny_pyNext_list_end (I.ok.hd hc) st p.isList (by simp;omega) fun h' eb=>⟨rfl,I.turned (t':=s.toks) (fun b o hb e=>eb b o hb e) f0 f1 f3 f4 f5⟩
  self:=fun _ _ _ _ _ st h=>wpAny_pyIter_listiter st h
theorem zH8 {P:Program}{w:World}{K:W.Frag}{tg:Expr}(a it:Addr):Turn P w K tg (Itt K a) [it] it (fun i h=>h.IsTupleIter it a i) where
  mem:=by simp
  obj:=fun i h st b hb=>by
    have e:b=it:=by simpa using hb
    subst e;obtain ⟨o,e,c,d⟩:=st;exact ⟨o,e,fun v z=>by rw [d] at z;cases z⟩
  keep:=fun i h h' st k=>st.at fun o e=>k it (by simp) o e
  item:=by
    intro X hP hw hK hc i pins s σ H E I hf st hg;subst hP hw hK;obtain ⟨xs,x,hq,hx⟩:=hg;obtain ⟨its,rv,p,hz⟩:=I.tuple hq;obtain ⟨u,hu,ru⟩:=rv.get hx;obtain ⟨f0,f1,f2,f3,f4,f5⟩:=hf it (by simp);refine wpAny_pyNext_tuple_item st (show s.heap.IsTuple a its.toArray from p) (x:=u) (by simpa using hu) fun h' st' sb=>?_
    have I1:Inv X pins σ H { s with heap:=h' }:=I.turned (t':=s.toks) (fun b o hb e=>(sb.2 b hb).trans e) f0 f1 f3 f4 f5;obtain ⟨o,e,c,d⟩:=id st';exact ⟨u,rfl,zKI (s:={ s with heap:=h' }) e c d (by decide) ⟨x,H,I1,ru,⟨rfl,fun ys hy=>by rw [I.tuple_inj hy hq];exact hx⟩,st',fun b hb=>(hf b hb).1⟩⟩
  done:=by
    intro X hP hw hK hc i pins s σ H E I hf st hg;subst hP hw hK;obtain ⟨xs,hq,hx⟩:=hg;obtain ⟨its,rv,p,hz⟩:=I.tuple hq;obtain ⟨f0,f1,f2,f3,f4,f5⟩:=hf it (by simp);have hl:=rv.length;exact wpAny_pyNext_tuple_end (I.ok.hd hc) st (show s.heap.IsTuple a its.toArray from p) (by simp;omega) fun h' eb=>⟨rfl,I.turned (t':=s.toks) (fun b o hb e=>eb b o hb e) f0 f1 f3 f4 f5⟩
  self:=fun _ _ _ _ _ st h=>wpAny_pyIter_tupleiter st h
theorem zH9 {P:Program}{w:World}{K:W.Frag}{tg:Expr}(it:Addr)(lo:Int)(n:Nat):Turn P w K tg (Itr lo n) [it] it (fun i h=>IsRangeIter h it (lo+(i:Nat)*1) ((n:Int) - (i:Nat)) 1) where
  mem:=by simp
  obj:=fun i h st b hb=>by
    have e:b=it:=by simpa using hb
    subst e;exact ⟨_,st,fun v z=>by
      have z':Data.fields _=Data.cell v:=z;cases z'⟩
  keep:=fun i h h' st k=>k it (by simp) _ st
  item:=by
    intro X hP hw hK hc i pins s σ H E I hf st hg;subst hP hw hK;obtain ⟨f0,f1,f2,f3,f4,f5⟩:=hf it (by simp);have W:=Walks.range (prog:=X.prog) (w:=X.w) (I.ok.hd hc) it lo 1 n;refine W.item i s _ _ hg st fun v h' tk hv st' kk=>?_
    obtain ⟨t,rfl⟩:=hv;have I1:Inv X pins σ H { s with heap:=h',toks:=tk }:=I.turned (fun b o hb e=>kk b o (by simpa using hb) e) f0 f1 f3 f4 f5;refine ⟨_,rfl,zKI (s:={ s with heap:=h',toks:=tk }) (n := "range_iterator") st' rfl rfl (by decide) ⟨.int (lo+i),H,I1,⟨t,?_⟩,⟨rfl,rfl⟩,st',fun b hb=>(hf b hb).1⟩⟩;rw [Int.mul_one]
  done:=by
    intro X hP hw hK hc i pins s σ H E I hf st hg;subst hP hw hK;obtain ⟨f0,f1,f2,f3,f4,f5⟩:=hf it (by simp);exact wpAny_pyNext_range_end (I.ok.hd hc) st (by have:n<=i:=hg;omega) fun h' eb=>⟨rfl,I.turned (t':=s.toks) (fun b o hb e=>eb b o hb e) f0 f1 f3 f4 f5⟩
  self:=fun _ _ _ _ _ st h=>wpAny_pyIter_rangeiter st h
section
variable {X:Cx}{tg:Expr}
theorem zHV {pins:List (Addr×Obj)}{σ:St}{H:Hp}{s:Shared}{R:It->Hp->Prop}{E:Value->Shared->Prop}{lo hi:Int}{t u v:Tok}{tk:Nat}(I:Inv X pins σ H s)(h1:-(2^62)<=lo)(h2:lo < 2^62)(h3:-(2^62)<=hi)(h4:hi < 2^62)
    (q:R (Itr lo (hi - lo).toNat) H):wpAny (model X.prog X.w) X.A (pyIter (.ref s.heap.objs.size)) (PIE X pins σ tg R) E { s with heap:=s.heap.push { cls:=.type "range",data:=.fields #[.int lo t,.int hi u,.int 1 v] },toks:=tk }:=by
  refine wpAny_pyIter_range (IsRange.new ..) (small_one h1 h2 h3 h4) ?_;have I1:Inv X pins σ H { s with heap:=s.heap.push { cls:=.type "range",data:=.fields #[.int lo t,.int hi u,.int 1 v] },toks:=tk }:=I.kept fun b o e=>get?_push_of_some _ e
  refine ⟨(s.heap.push { cls:=.type "range",data:=.fields #[.int lo t,.int hi u,.int 1 v] }).objs.size,[(s.heap.push { cls:=.type "range",data:=.fields #[.int lo t,.int hi u,.int 1 v] }).objs.size],_,_,H,rfl,
    I1.kept (t':=tk) fun b o e=>get?_push_of_some _ e,zH9 _ lo (hi - lo).toNat,?_,fun b hb=>?_,q⟩
  . have e1:lo+((0:Nat):Int)*1=lo:=by simp
    have e2:(((hi - lo).toNat:Nat):Int) - ((0:Nat):Int)=Builtin.Range.rangeSize lo hi 1:=by rw [rangeSize_one];split<;>omega
    show IsRangeIter _ _ (lo+((0:Nat):Int)*1) ((((hi - lo).toNat:Nat):Int) - ((0:Nat):Int)) 1;rw [e1,e2];exact get?_push_size _ rfl
  . have e:b=(s.heap.push { cls:=.type "range",data:=.fields #[.int lo t,.int hi u,.int 1 v] }).objs.size:=by simpa using hb
    subst e;exact I1.fpOk (le_refl _) (I1.hok.fresh (le_refl _))
def zTc (ta:TA):TI:=fun σ H R=>ta σ H fun vs H1=>∃ j:Int,vs=[.int j]/\-(2^62)<=j/\j < 2^62/\R (Itr 0 j.toNat) H1
def zTb (ta:TA):TI:=fun σ H R=>ta σ H fun vs H1=>∃ i j:Int,vs=[.int i,.int j]/\(-(2^62)<=i/\i < 2^62/\-(2^62)<=j/\j < 2^62)/\R (Itr i (j - i).toNat) H1
theorem zFp {a:Expr}{ta:TA}{p pos:Pos}(hg:Gl X "range")(hm:X.mg "range"=none)(ha:PA X [a] ta)(hs:starEach [a] X.env=[(false,eval a X.env)]:=by rfl):PI X tg (.Call (.Name "range" p) [a] [] pos) (zTc ta):=by
  intro pins s σ H R I h;refine Call_ (zCh I hg hm boot_range (PyProof.Rows.callWith_type1 (thn (ha pos pins s σ H _ I h) fun us s1 zz16=>?_) hs rfl));obtain ⟨vs,H1,I1,r1,q1⟩:=zz16;obtain ⟨j,e,q1,q2,q⟩:=q1;subst e;cases r1 with
  | cons r rr =>
    cases rr;obtain ⟨t,rfl⟩:=r;exact call_range_1 (zHV I1 (by omega) (by omega) q1 q2 (by simpa using q))
theorem zJH {a b:Expr}{ta:TA}{p pos:Pos}(hg:Gl X "range")(hm:X.mg "range"=none)(ha:PA X [a,b] ta)(hs:starEach [a,b] X.env=[(false,eval a X.env),(false,eval b X.env)]:=by rfl)(hs2:starEach [b] X.env=[(false,eval b X.env)]:=by rfl) :
    PI X tg (.Call (.Name "range" p) [a,b] [] pos) (zTb ta):=by
  intro pins s σ H R I h;refine Call_ (zCh I hg hm boot_range (PyProof.Rows.callWith_type1 (thn (ha pos pins s σ H _ I h) fun us s1 zz17=>?_) (by rw [hs,hs2]) (by rw [hs2];rfl)));obtain ⟨vs,H1,I1,r1,q1⟩:=zz17;obtain ⟨i,j,e,⟨q1,q2,q3,q4⟩,q⟩:=q1;subst e;cases r1 with
  | cons r rr =>
    cases rr with
    | cons r' rr =>
      cases rr;obtain ⟨t,rfl⟩:=r;obtain ⟨t',rfl⟩:=r';exact call_range_2 (zHV I1 q1 q2 q3 q4 q)
def tFor (wi:TI)(g:TG)(tb:TS):TS:=fun D σ H=>wi σ H fun J H1=>∃ W:Nat->Nat->St->Hp->Prop,(∃ m,W 0 m σ H1)/\∀ i m σ H,W i m σ H ->
  (J.stop i H/\D.nx σ H)\/(J.go i H/\∃ N:St->Hp->Prop,(∀ σ' H',N σ' H'->∃ m',m' < m/\W (i+1) m' σ' H')/\∀ x H',J.yld i H x H'->g x σ H' fun σ2 H2=>tb { D with nx:=N,ct:=N,bk:=D.nx } σ2 H2)
def zA2 (fp:List Addr)(h:Heap):List (Addr×Obj):=fp.filterMap fun b=>(h.get? b).map fun o=>(b,o)
theorem zBR {fp:List Addr}{h:Heap}{b:Addr}{o:Obj}(hb:b∈fp)(e:h.get? b=some o):(b,o)∈zA2 fp h:=List.mem_filterMap.mpr ⟨b,hb,by rw [e];rfl⟩
theorem zDw {fp:List Addr}{h:Heap}{p:Addr×Obj}(hp:p∈zA2 fp h):p.1∈fp/\h.get? p.1=some p.2:=by
  obtain ⟨b,hb,e⟩:=List.mem_filterMap.mp hp;cases q:h.get? b with
  | none=>rw [q] at e;cases e
  | some o =>
    rw [q] at e;have e':(b,o)=p:=Option.some.inj e;subst e';exact ⟨hb,q⟩
theorem Inv.pinned {pins:List (Addr×Obj)}{σ:St}{H:Hp}{s:Shared}{fp:List Addr}(I:Inv X pins σ H s)(hf:∀ b∈fp,FpOk X pins H b)(ho:∀ b∈fp,∃ o,s.heap.get? b=some o/\∀ v,o.data≠.cell v):Inv X (pins++zA2 fp s.heap) σ H s :=
  I.pins_of fun p hp=>(mem_append.mp hp).elim (fun z=>I.pin p (mem_append_right _ z)) fun z=>by
    obtain ⟨hb,e⟩:=zDw z;obtain ⟨f0,f1,f2,_⟩:=hf p.1 hb;obtain ⟨o,e',d⟩:=ho p.1 hb;rw [e] at e';cases e';exact ⟨e,f0,f1,f2,d⟩
theorem Inv.unpinned {pins pl:List (Addr×Obj)}{σ:St}{H:Hp}{s:Shared}(I:Inv X (pins++pl) σ H s):Inv X pins σ H s:=I.pins_of fun p hp=>I.pin p (mem_append_right _ (List.mem_append_left _ hp))
theorem zNX {iter:Expr}{body:List Stmt}{wi:TI}{g:TG}{tb:TS}{pos:Pos}(hp:PassesOwn (model X.prog X.w) X.A X.env X.xe)(hc:X.calm=true)(hi:PI X tg iter wi)(hg:PG X tg g)(hb:PSs X body tb)
    (hs:∀ x,foldedSetIterable iter X.env x=pure x:=by intro _;rfl):PS X (.For tg iter body [] pos) (tFor wi g tb):=by
  intro pins s σ H D I h;refine wpAny_For (thn (hi pins s σ H _ I h) fun v s1 h1=>thn h1 fun itv s2 h2=>?_) hs;obtain ⟨it,fp,tn,J,H2,e,I2,T,st2,f2,W,⟨m0,w0⟩,turn⟩:=h2;subst e;have stat:∀ {H':Hp},(∀ b∈fp,H' b=none)->∀ b∈fp,FpOk X pins H' b:=fun hn b hb=>⟨hn b hb,(f2 b hb).2⟩
  refine codeAny_forLoop_any (fun n s'=>∃ i σ' H',Inv X pins σ' H' s'/\tn i s'.heap/\(∀ b∈fp,H' b=none)/\W i n σ' H') ?_ m0 ⟨0,σ,H2,I2,st2,fun b hb=>(f2 b hb).1,w0⟩;rintro n s3 ⟨i,σ3,H3,I3,st3,fr3,w3⟩;rcases turn i n σ3 H3 w3 with ⟨stop,qn⟩ | ⟨go,N,hN,step⟩
  . refine wpAny_passesOwn hp (thn (T.done X rfl rfl rfl hc i pins s3 σ3 H3 X.xe I3 (stat fr3) st3 stop) fun r s4 zz18=>?_);obtain ⟨hr,I4⟩:=zz18;subst hr;exact wpAny_execs_nil ⟨σ3,H3,I4,qn⟩
  . refine wpAny_passesOwn hp (thn (T.item X rfl rfl rfl hc i pins s3 σ3 H3 X.xe I3 (stat fr3) st3 go) fun r s4 zz19=>?_);obtain ⟨u,hr,h4⟩:=zz19;subst hr;refine wpAny_passesOwn hp (thn h4 fun _ s5 zz20=>?_);obtain ⟨x,H5,I5,r5,y5,st5,fr5⟩:=zz20;have I5':=I5.pinned (stat fr5) (T.obj _ _ st5);refine wpAny_passesOwn hp (thn (hg _ s5 σ3 H5 x u _ I5' r5 (step x H5 y5)) fun _ s6 zz21=>?_);obtain ⟨σ6,H6,I6,q6⟩:=zz21;refine wpAny_passesOwn hp (thn (hb _ s6 σ6 H6 _ I6 q6) fun f s7 q7=>?_);have again:∀ {σ7:St} {H7:Hp},Inv X (pins++zA2 fp s5.heap) σ7 H7 s7->N σ7 H7->∃ m,m < n/\∃ i σ' H',Inv X pins σ' H' s7/\tn i s7.heap/\(∀ b∈fp,H' b=none)/\W i m σ' H':=fun {σ7 H7} I7 n7=>by
      obtain ⟨m',hm,w7⟩:=hN σ7 H7 n7;refine ⟨m',hm,i+1,σ7,H7,I7.unpinned,T.keep _ _ _ st5 fun b hb o e=>(I7.pin (b,o) (mem_append_right _ (mem_append_right _ (zBR hb e)))).1,fun b hb=>?_,w7⟩;obtain ⟨o,e,d⟩:=T.obj _ _ st5 b hb;exact (I7.pin (b,o) (mem_append_right _ (mem_append_right _ (zBR hb e)))).2.1
    cases f with
    | next=>obtain ⟨σ7,H7,I7,n7⟩:=q7;exact again I7 n7
    | cont=>obtain ⟨σ7,H7,I7,n7⟩:=q7;exact again I7 n7
    | brk=>obtain ⟨σ7,H7,I7,q7⟩:=q7;exact ⟨σ7,H7,I7.unpinned,q7⟩
    | ret v=>obtain ⟨x7,σ7,H7,I7,r7,q7⟩:=q7;exact ⟨x7,σ7,H7,I7.unpinned,r7,q7⟩
end
abbrev R2:=V->V->Hp->VK->Prop
def OpR (X:Cx)(f:Value->Value->Sem Value)(r:R2):Prop :=
  ∀ (pins:List (Addr×Obj)) (s:Shared) (σ:St) (H:Hp) (x y:V) (v u:Value) (Q:VK),Inv X pins σ H s->RelV x v->RelV y u->r x y H Q ->
    wpAny (model X.prog X.w) X.A (f v u) (EP X pins σ Q) X.xe s
def UnR (X:Cx)(f:Value->Sem Value)(r:V->Hp->VK->Prop):Prop :=
  ∀ (pins:List (Addr×Obj)) (s:Shared) (σ:St) (H:Hp) (x:V) (v:Value) (Q:VK),Inv X pins σ H s->RelV x v->r x H Q ->
    wpAny (model X.prog X.w) X.A (f v) (EP X pins σ Q) X.xe s
def zEO (X:Cx)(f:Value)(r:List V->Hp->VK->Prop):Prop :=
  ∀ (pins:List (Addr×Obj)) (s:Shared) (σ:St) (H:Hp) (xs:List V) (us:List Value) (Q:VK),Inv X pins σ H s->Vals xs us->r xs H Q ->
    wpAny (model X.prog X.w) X.A (call f us) (EP X pins σ Q) X.xe s
def tOp (r:R2)(ta tb:TE):TE:=fun σ H Q=>ta σ H fun x H1=>tb σ H1 fun y H2=>r x y H2 Q
def tUn (r:V->Hp->VK->Prop)(ta:TE):TE:=fun σ H Q=>ta σ H fun x H1=>r x H1 Q
def rI (C:Int->Int->Prop)(g:Int->Int->V):R2:=fun x y H Q=>∃ i j,x=.int i/\y=.int j/\C i j/\Q (g i j) H
def rI0 (g:Int->Int->V):R2:=fun x y H Q=>∃ i j,x=.int i/\y=.int j/\Q (g i j) H
def rU (g:Int->V):V->Hp->VK->Prop:=fun x H Q=>∃ i,x=.int i/\Q (g i) H
section
variable {X:Cx}{a b c:Expr}{ta tb tc:TE}{pos:Pos}
theorem binT (ha:PE X a ta)(hb:PE X b tb){pins:List (Addr×Obj)}{s:Shared}{σ:St}{H:Hp}{R:V->V->Hp->Prop}(I:Inv X pins σ H s)
    (h:ta σ H fun x H1=>tb σ H1 fun y H2=>R x y H2) {Q:Value->Shared->Prop} {f:Value->Value->Sem Value}
    (hf:∀ v u s2 x y H2,Inv X pins σ H2 s2->RelV x v->RelV y u->R x y H2->wpAny (model X.prog X.w) X.A (f v u) Q X.xe s2) :
    wpAny (model X.prog X.w) X.A (eval a X.env) (fun v s₁=>wpAny (model X.prog X.w) X.A (eval b X.env) (fun u s₂=>wpAny (model X.prog X.w) X.A (f v u) Q X.xe s₂) X.xe s₁) X.xe s:=by
  refine thn (ha pins s σ H _ I h) fun v s1 zz22=>?_
  obtain ⟨x,H1,I1,r1,q1⟩:=zz22;refine thn (hb pins s1 σ H1 _ I1 q1) fun u s2 zz23=>?_
  obtain ⟨y,H2,I2,r2,q2⟩:=zz23;exact hf v u s2 x y H2 I2 r1 r2 q2
theorem zTG {op:Operator}{r:R2}(ho:OpR X (binaryOp op) r)(ha:PE X a ta)(hb:PE X b tb):PE X (.BinOp a op b pos) (tOp r ta tb):=by
  intro pins s σ H Q I h;exact wpAny_BinOp (binT ha hb I h fun v u s2 x y H2 I2 rx ry q=>ho pins s2 σ H2 x y v u Q I2 rx ry q)
theorem zTE {op:UnaryOp}{r:V->Hp->VK->Prop}(ho:UnR X (unaryOp op) r)(ha:PE X a ta):PE X (.UnaryOp op a pos) (tUn r ta):=by
  intro pins s σ H Q I h;exact UnaryOp_ (thn (ha pins s σ H _ I h) fun v s1 zy109=>by obtain ⟨x,H1,I1,r1,q1⟩:=zy109;exact ho pins s1 σ H1 x v Q I1 r1 q1)
theorem opI {f:Value->Value->Sem Value}{C:Int->Int->Prop}{g:Int->Int->Int}
    (rule:∀ (i j:Int) (t u:Tok) (s:Shared) (Q:Value->Shared->Prop) (E:Value->Shared->Prop),C i j->Q (.int (g i j) s.toks) { s with toks:=s.toks+1 }->wpAny (model X.prog X.w) X.A (f (.int i t) (.int j u)) Q E s) :
    OpR X f (rI C fun i j=>.int (g i j)):=by
  intro pins s σ H x y v u Q I rx ry h;obtain ⟨i,j,rfl,rfl,hc,q⟩:=h;obtain ⟨t,rfl⟩:=rx;obtain ⟨t',rfl⟩:=ry;exact rule i j t t' s _ _ hc ⟨.int (g i j),H,I.tok _,⟨_,rfl⟩,q⟩
theorem opI0 {f:Value->Value->Sem Value}{g:Int->Int->Int}
    (rule:∀ (i j:Int) (t u:Tok) (s:Shared) (Q:Value->Shared->Prop) (E:Value->Shared->Prop),Q (.int (g i j) s.toks) { s with toks:=s.toks+1 }->wpAny (model X.prog X.w) X.A (f (.int i t) (.int j u)) Q E s) :
    OpR X f (rI0 fun i j=>.int (g i j)):=by
  intro pins s σ H x y v u Q I rx ry h;obtain ⟨i,j,rfl,rfl,q⟩:=h;obtain ⟨t,rfl⟩:=rx;obtain ⟨t',rfl⟩:=ry;exact rule i j t t' s _ _ ⟨.int (g i j),H,I.tok _,⟨_,rfl⟩,q⟩
theorem opB0 {f:Value->Value->Sem Value}{g:Int->Int->Bool}
    (rule:∀ (i j:Int) (t u:Tok) (s:Shared) (Q:Value->Shared->Prop) (E:Value->Shared->Prop),Q (.bool (g i j)) s->wpAny (model X.prog X.w) X.A (f (.int i t) (.int j u)) Q E s) :
    OpR X f (rI0 fun i j=>.bl (g i j)):=by
  intro pins s σ H x y v u Q I rx ry h;obtain ⟨i,j,rfl,rfl,q⟩:=h;obtain ⟨t,rfl⟩:=rx;obtain ⟨t',rfl⟩:=ry;exact rule i j t t' s _ _ ⟨.bl (g i j),H,I,rfl,q⟩
def CPow (i j:Int):Prop:=0<=j/\j<=1000000/\i.natAbs < 2^64
def CMul (i j:Int):Prop:=(-(2^64) < i/\i < 2^64)\/(-(2^64) < j/\j < 2^64)
theorem CMul.ok {i j:Int}(h:CMul i j):IntMulOk i j:=by
  rcases h with ⟨h1,h2⟩ | ⟨h1,h2⟩
  . exact .of_left (intBits_le_64 h1 h2)
  . exact .of_right (intBits_le_64 h1 h2)
theorem zRP:OpR X (binaryOp .Add) (rI0 fun i j=>.int (i+j)):=opI0 fun _ _ _ _ _ _ _ q=>add_int q
theorem zRE:OpR X (binaryOp .Sub) (rI0 fun i j=>.int (i - j)):=opI0 fun _ _ _ _ _ _ _ q=>sub_int q
theorem zOt:OpR X (binaryOp .Mod) (rI (fun _ j=>j≠0) fun i j=>.int (i.fmod j)):=opI fun _ _ _ _ _ _ _ hc q=>mod_int' hc q
theorem zRG:OpR X (binaryOp .Pow) (rI CPow fun i j=>.int (i^j.toNat)):=opI fun _ _ _ _ _ _ _ hc q=>pow_int_small hc.1 hc.2.1 hc.2.2 q
theorem zPN:OpR X (inplaceOp .Add) (rI0 fun i j=>.int (i+j)):=opI0 fun _ _ _ _ _ _ _ q=>iadd_int q
theorem zPM:OpR X (inplaceOp .Sub) (rI0 fun i j=>.int (i - j)):=opI0 fun _ _ _ _ _ _ _ q=>isub_int q
theorem unI {f:Value->Sem Value}{g:Int->Int}
    (rule:∀ (i:Int) (t:Tok) (s:Shared) (Q:Value->Shared->Prop) (E:Value->Shared->Prop),Q (.int (g i) s.toks) { s with toks:=s.toks+1 }->wpAny (model X.prog X.w) X.A (f (.int i t)) Q E s) :
    UnR X f (rU fun i=>.int (g i)):=by
  intro pins s σ H x v Q I rx h;obtain ⟨i,rfl,q⟩:=h;obtain ⟨t,rfl⟩:=rx;exact rule i t s _ _ ⟨.int (g i),H,I.tok _,⟨_,rfl⟩,q⟩
theorem zQY:UnR X (unaryOp .USub) (rU fun i=>.int (-i)):=unI fun _ _ _ _ _ q=>neg_int q
end
section
variable {X:Cx}{a b c:Expr}{ta tb tc:TE}{pos:Pos}
theorem zNx {pins:List (Addr×Obj)}{σ:St}{H:Hp}{s:Shared}{Q:VK}{k k':Bool}(I:Inv X pins σ H s)(q:Q (.bl k) H)(e:k=k'):EP X pins σ Q (.bool k') s:=by
  subst e;exact ⟨.bl k,H,I,rfl,q⟩
theorem zRI:OpR X (compareOp .Lt) (rI0 fun i j=>.bl (decide (i < j))):=opB0 fun _ _ _ _ _ _ _ q=>lt_int q
theorem zRJ:OpR X (compareOp .LtE) (rI0 fun i j=>.bl (decide (i<=j))):=opB0 fun _ _ _ _ _ _ _ q=>le_int q
theorem zRL:OpR X (compareOp .Gt) (rI0 fun i j=>.bl (decide (j < i))):=opB0 fun _ _ _ _ _ _ _ q=>gt_int q
theorem zRN:OpR X (compareOp .GtE) (rI0 fun i j=>.bl (decide (j<=i))):=opB0 fun _ _ _ _ _ _ _ q=>ge_int q
theorem zRK:OpR X (compareOp .Is) (fun x y H Q=>y=.non/\Q (.bl (decide (x=.non))) H):=by
  intro pins s σ H x y v u Q I rx ry h;obtain ⟨rfl,q⟩:=h;cases ry;refine is_none_gen (zNx I q ?_);cases x<;>first
    | (cases rx;rfl)
    | (obtain ⟨t,rfl⟩:=rx;rfl)
theorem zOr:OpR X (compareOp .IsNot) (fun x y H Q=>y=.non/\Q (.bl (!decide (x=.non))) H):=by
  intro pins s σ H x y v u Q I rx ry h;obtain ⟨rfl,q⟩:=h;cases ry;refine isnot_none_gen (zNx I q ?_);cases x<;>first
    | (cases rx;rfl)
    | (obtain ⟨t,rfl⟩:=rx;rfl)
theorem OpR.or {f:Value->Value->Sem Value}{r r':R2}(h:OpR X f r)(h':OpR X f r'):OpR X f (fun x y H Q=>r x y H Q\/r' x y H Q):=by
  intro pins s σ H x y v u Q I rx ry q;rcases q with q | q
  . exact h pins s σ H x y v u Q I rx ry q
  . exact h' pins s σ H x y v u Q I rx ry q
theorem zC5 (b:Expr){op:CmpOp}(h:op≠.In:=by decide)(h2:op≠.NotIn:=by decide):behindInMarks op b=false:=by
  have e1:(op==CmpOp.In)=false:=by cases op<;>first | rfl | exact absurd rfl h
  have e2:(op==CmpOp.NotIn)=false:=by cases op<;>first | rfl | exact absurd rfl h2
  cases b<;>simp [behindInMarks,e1,e2]
theorem zOh {op:CmpOp}{r:R2}(ho:OpR X (compareOp op) r)(ha:PE X a ta)(hb:PE X b tb)(hm:behindInMarks op b=false):PE X (.Compare a [op] [b] pos) (tOp r ta tb):=by
  intro pins s σ H Q I h;exact wpAny_Compare1 (binT ha hb I h fun v u s2 x y H2 I2 rx ry q=>ho pins s2 σ H2 x y v u Q I2 rx ry q) hm
def zQc (t:TE):TT:=fun σ H Q=>t σ H fun x H'=>∃ k,x=.bl k/\Q k H'
theorem zOb {op:CmpOp}{r:R2}(ho:OpR X (compareOp op) r)(ha:PE X a ta)(hb:PE X b tb)(hm:behindInMarks op b=false):PT X (.Compare a [op] [b] pos) (zQc (tOp r ta tb)):=by
  intro pins s σ H Q I h;refine wpAny_isTrue_Compare1 (thn (ha pins s σ H _ I h) fun v s1 ⟨x,H1,I1,r1,q1⟩=>thn (hb pins s1 σ H1 _ I1 q1) fun u s2 ⟨y,H2,I2,r2,q2⟩ =>
    thn (ho pins s2 σ H2 x y v u _ I2 r1 r2 q2) fun c s3 ⟨z,H3,I3,r3,k,e,q3⟩=>?_) hm
  subst e;cases r3;exact wpAny_truthy_bool ⟨H3,I3,q3⟩
def zIp (r r':R2)(ta tb tc:TE):TE:=fun σ H Q=>ta σ H fun x H1=>tb σ H1 fun y H2=>r x y H2 fun z H3=>∃ k,z=.bl k /\
  (if k=true then tc σ H3 fun w' H4=>r' y w' H4 Q else Q (.bl false) H3)
theorem zLm {op op':CmpOp}{r r':R2}(ho:OpR X (compareOp op) r)(ho':OpR X (compareOp op') r')(ha:PE X a ta)(hb:PE X b tb)(hc:PE X c tc)
    (hm:lastMarks [op,op'] [b,c]=false:=by with_unfolding_all rfl):PE X (.Compare a [op,op'] [b,c] pos) (zIp r r' ta tb tc):=by
  intro pins s σ H Q I h;refine Compare_chain (thn (ha pins s σ H _ I h) fun v s1 ⟨x,H1,I1,r1,q1⟩=>chain_link (thn (hb pins s1 σ H1 _ I1 q1) fun u s2 ⟨y,H2,I2,r2,q2⟩ =>
    thn (ho pins s2 σ H2 x y v u _ I2 r1 r2 q2) fun d s3 ⟨z,H3,I3,r3,k,e,q3⟩=>?_)) hm
  subst e;cases r3;refine wpAny_truthy_bool ?_;cases k with
  | false=>exact ite_ff ⟨.bl false,H3,I3,rfl,q3⟩
  | true=>exact ite_tt (chain_last (thn (hc pins s3 σ H3 _ I3 q3) fun w' s4 zy110=>by obtain ⟨z',H4,I4,r4,q4⟩:=zy110;exact ho' pins s4 σ H4 y z' u w' Q I4 r2 r4 q4))
theorem zLf {op op':CmpOp}{r r':R2}(ho:OpR X (compareOp op) r)(ho':OpR X (compareOp op') r')(ha:PE X a ta)(hb:PE X b tb)(hc:PE X c tc)
    (hm:lastMarks [op,op'] [b,c]=false:=by with_unfolding_all rfl):PT X (.Compare a [op,op'] [b,c] pos) (zQc (zIp r r' ta tb tc)):=by
  intro pins s σ H Q I h;refine isTrue_chain (thn (ha pins s σ H _ I h) fun v s1 ⟨x,H1,I1,r1,q1⟩=>test_link (thn (hb pins s1 σ H1 _ I1 q1) fun u s2 ⟨y,H2,I2,r2,q2⟩ =>
    thn (ho pins s2 σ H2 x y v u _ I2 r1 r2 q2) fun d s3 ⟨z,H3,I3,r3,k,e,q3⟩=>?_)) hm
  subst e;cases r3;refine wpAny_truthy_bool ?_;cases k with
  | false =>
    obtain ⟨k',e',q'⟩:=q3;cases e';exact ite_ff ⟨H3,I3,q'⟩
  | true =>
    refine ite_tt (test_last (thn (hc pins s3 σ H3 _ I3 q3) fun w' s4 ⟨z',H4,I4,r4,q4⟩=>thn (ho' pins s4 σ H4 y z' u w' _ I4 r2 r4 q4) fun d' s5 zz24=>?_));obtain ⟨z2,H5,I5,r5,k2,e2,q5⟩:=zz24;subst e2;cases r5;exact wpAny_truthy_bool ⟨H5,I5,q5⟩
theorem zJ0:(sizeLine:Nat) < 2^63:=by rw [sizeLine_eq];decide
theorem zIl {x:V}{us:List Value}(r:Vals [x] us):∃ u,us=[u]/\RelV x u:=by
  cases r with
  | cons r1 r2=>cases r2;exact ⟨_,rfl,r1⟩
theorem zOE {x y:V}{us:List Value}(r:Vals [x,y] us):∃ u w',us=[u,w']/\RelV x u/\RelV y w':=by
  cases r with
  | cons r1 r2 =>
    cases r2 with
    | cons r3 r4=>cases r4;exact ⟨_,_,rfl,r1,r3⟩
theorem zMv:zEO X (.builtin "abs") (fun xs H Q=>∃ i,xs=[.int i]/\Q (.int (if i < 0 then -i else i)) H):=by
  intro pins s σ H xs us Q I r h;obtain ⟨i,rfl,q⟩:=h;obtain ⟨u,rfl,t,rfl⟩:=zIl r;exact call_abs_int fun u tk=>⟨.int (if i < 0 then -i else i),H,I.tok _,⟨_,rfl⟩,q⟩
theorem zKz (hc:X.calm=true):zEO X (.builtin "max") (fun xs H Q=>∃ i j,xs=[.int i,.int j]/\Q (.int (if j>i then j else i)) H):=by
  intro pins s σ H xs us Q I r h;obtain ⟨i,j,rfl,q⟩:=h;obtain ⟨u,w',rfl,⟨t,rfl⟩,⟨t',rfl⟩⟩:=zOE r;refine max_two_ints (I.ok.hd hc) fun h' tk k=>⟨_,H,I.kept k,?_,q⟩
  by_cases hj:j>i
  . rw [if_pos hj,if_pos hj];exact ⟨_,rfl⟩
  . rw [if_neg hj,if_neg hj];exact ⟨_,rfl⟩
end
section
variable {prog:Program}{w:World}{A:Around}{E:Value->Shared->Prop}{s:Shared}{K:W.Frag}{x dx C f:Addr}{mA:Str->Option Value}{name:Str}{v:Value}
end
section
variable {X:Cx}{pins:List (Addr×Obj)}{σ:St}{H:Hp}{s:Shared}{a C dx:Addr}{fs:List (Str×V)}{f:Str}{v:V}{A:Around}{E:Value->Shared->Prop}
end
structure Room (k:Nat)(A:Around):Prop where
  hd:A.handled=none
  dp:A.depth+3*k+105 < recursionLimit
  un:A.units+16*k+200 < cLine
theorem Room.mono {j k:Nat}{A:Around}(r:Room k A)(h:j<=k):Room j A:=⟨r.hd,by have:=r.dp;omega,by have:=r.un;omega⟩
theorem Room.deeper {k:Nat}{A:Around}(r:Room (k+1) A)(env:Env):Room k (A.deeper env) :=
  ⟨r.hd,by have:=r.dp;show A.depth+1+3*k+105 < _;omega,by have:=r.un;show A.units+3+16*k+200 < _;omega⟩
theorem Room.depth {k:Nat}{A:Around}(r:Room k A):A.depth < recursionLimit:=by have:=r.dp;omega
theorem Room.units {k:Nat}{A:Around}(r:Room k A):A.units+64 < cLine:=by have:=r.un;omega
def tNil:TA:=fun _ H Q=>Q [] H
def zQf (ta:TE)(tr:TA):TA:=fun σ H Q=>ta σ H fun x H1=>tr σ H1 fun xs H2=>Q (x::xs) H2
section
variable {X:Cx}{e:Expr}{es:List Expr}{te:TE}{t:TA}{pos:Pos}
theorem zA9:PA X [] tNil:=fun _ _ _ _ H Q I h=>Calls.spliced_nil ⟨[],H,I,.nil,h⟩
theorem zAa (ha:PE X e te)(hr:PA X es t)(hs:starEach (e::es) X.env=(false,eval e X.env)::starEach es X.env:=by rfl):PA X (e::es) (zQf te t):=by
  intro pos pins s σ H Q I h;rw [hs];show wpAny _ _ (spliced ((false,eval e X.env)::backTo pos (starEach es X.env))) _ _ s;refine Calls.spliced_cons (thn (ha pins s σ H _ I h) fun u s1 zz25=>?_);obtain ⟨x,H1,I1,r1,q1⟩:=zz25;exact thn (hr pos pins s1 σ H1 _ I1 q1) fun us s2 zy111=>by obtain ⟨xs,H2,I2,r2,q2⟩:=zy111;exact ⟨x::xs,H2,I2,.cons r1 r2,q2⟩
def tTup (t:TA):TE:=fun σ H Q=>t σ H fun xs H1=>xs.length<=sizeLine/\∀ p,H1 p=none->Q (.ref p) (upd H1 p (.tup xs))
def tLst (t:TA):TE:=fun σ H Q=>t σ H fun xs H1=>xs.length<=sizeLine/\∀ p,H1 p=none->Q (.ref p) (upd H1 p (.lst xs))
theorem zQ2 {x1}(h:PA X es t):PE X (.Tuple es x1 pos) (tTup t):=by
  intro pins s σ H Q I hq;refine wpAny_Tuple_spliced (thn (h pos pins s σ H _ I hq) fun us s1 ⟨xs,H1,I1,r,z,q⟩=>⟨by rw [<- r.length];exact z,?_⟩);have hf:H1 s1.heap.objs.size=none:=I1.hok.fresh (le_refl _);refine ⟨.ref s1.heap.objs.size,upd H1 s1.heap.objs.size (.tup xs),I1.laid (t':=s1.toks) (fun b u e=>get?_push_of_some _ e) (le_refl _) ?_,rfl,q _ hf⟩;exact ⟨z,us,r,⟨_,get?_push_size _ rfl,rfl,_,rfl⟩⟩
theorem zNZ (h:PA X es t):PE X (.List es pos) (tLst t):=by
  intro pins s σ H Q I hq;refine wpAny_List_spliced (thn (h pos pins s σ H _ I hq) fun us s1 ⟨xs,H1,I1,r,z,q⟩=>⟨by rw [<- r.length];exact z,?_⟩);have hf:H1 s1.heap.objs.size=none:=I1.hok.fresh (le_refl _);refine ⟨.ref s1.heap.objs.size,upd H1 s1.heap.objs.size (.lst xs),I1.laid (t':=s1.toks) (fun b u e=>get?_push_of_some _ e) (le_refl _) ?_,rfl,q _ hf⟩;exact ⟨z,us,0,r,get?_push_size _ rfl⟩
end
abbrev Sp:=List V->Hp->VK->XK->Prop
abbrev CXT:=List Env->Hp->Shared->XK->Value->Shared->Prop
structure Env0 (P:Program)(w:World)(K:W.Frag)(mg:Str->Option Value)(base:Heap)(A:Around)(outer:List Env)(s:Shared)(H:Hp):Prop where
  frames:A.frames=some outer
  mod:Mod K mg base
  bs:∀ b o,base.get? b=some o->s.heap.get? b=some o/\H b=none
  bsz:base.objs.size<=s.heap.objs.size
  funs:s.heap.FunFrames base outer
  frf:∀ b∈frs outer,H b=none
  hok:HOk P w H s.heap
  bare:AllBare s.gens
  tree:(model P w).prog.given.tree=none
  tabs:zH1 K H
def CE (outer:List Env)(P:Program)(w:World)(H:Hp)(s:Shared)(Q:VK)(u:Value)(s':Shared):Prop :=
  ∃ v H',s'.os=s.os/\AllBare s'.gens/\Un (frs outer) [] H H' s.heap s'.heap/\HOk P w H' s'.heap/\RelV v u/\Q v H'
def CR (CX:CXT)(outer:List Env)(P:Program)(w:World)(H:Hp)(s:Shared)(Q:VK)(E:XK)(r:Result)(s':Shared):Prop :=
  match r with
  | .ok (.ret u)=>CE outer P w H s Q u s'
  | .ok _=>False
  | .error e=>CX outer H s E e s'
structure FnOk (P:Program)(w:World)(K:W.Frag)(mg:Str->Option Value)(base:Heap)(CX:CXT)(k:Nat)(f:Addr)(fd:FuncData)(ps:List Str)(sp:Sp):Prop where
  len:∀ vs H Q E,sp vs H Q E->vs.length=ps.length
  run:∀ (A:Around) (outer:List Env) (s:Shared) (H:Hp) (args:Args) (us:List Value) (vs:List V) (Q:VK) (E:XK),Room k A->Env0 P w K mg base A outer s H->BindsTo s fd args (ps.zip us)->Vals vs us->sp vs H Q E ->
    codeAny (model P w) A (.call (.ref f) args) (CR CX outer P w H s Q E) s
theorem FnOk.mono {P:Program}{w:World}{K:W.Frag}{mg:Str->Option Value}{base:Heap}{CX:CXT}{j k:Nat}{f:Addr}{fd:FuncData}{ps:List Str}{sp:Sp}(F:FnOk P w K mg base CX j f fd ps sp)(h:j<=k) :
    FnOk P w K mg base CX k f fd ps sp:=⟨F.len,fun A outer s H args us vs Q E hr=>F.run A outer s H args us vs Q E (hr.mono h)⟩
theorem FnOk.imp {P:Program}{w:World}{K:W.Frag}{mg:Str->Option Value}{base:Heap}{CX:CXT}{k:Nat}{f:Addr}{fd:FuncData}{ps:List Str}{sp sp':Sp}(F:FnOk P w K mg base CX k f fd ps sp)
    (h:∀ vs H Q E,sp' vs H Q E->sp vs H Q E):FnOk P w K mg base CX k f fd ps sp' :=
  ⟨fun vs H Q E q=>F.len vs H Q E (h _ _ _ _ q),fun A outer s H args us vs Q E hr he hb hv hs=>F.run A outer s H args us vs Q E hr he hb hv (h _ _ _ _ hs)⟩
section
variable {X:Cx}{pins:List (Addr×Obj)}{σ:St}{H:Hp}{s s':Shared}
theorem Inv.env0 (I:Inv X pins σ H s):Env0 X.prog X.w X.K X.mg X.base X.A X.stack s H :=
  ⟨I.ok.frames,I.ok.mod,I.bs,le_trans I.ok.bsz I.sz,I.stack,I.stkFree,I.hok,I.bare,I.ok.pyl.2.1,I.tabs⟩
theorem Inv.after {Q:VK}{u:Value}(I:Inv X pins σ H s)(h:CE X.stack X.prog X.w H s Q u s'):EP X pins σ Q u s':=by
  obtain ⟨v,H',os,bare,un,hok,r,q⟩:=h;obtain ⟨hh,g,d,t,os'⟩:=s';obtain rfl:os'=s.os:=os;exact ⟨v,H',I.call (h':=hh) (g':=g) (d':=d) (t':=t) (ch:=[]) un hok bare (fun b z=>absurd z (by simp)),r,q⟩
end
def zLT (sp:Sp)(dvs:List V)(E:XK)(t:TA):TE:=fun σ H Q=>t σ H fun vs H1=>sp (vs++dvs) H1 Q E
def zCC (K:W.Frag)(fd:FuncData)(ps:List Str)(ds:List Value):Prop :=
  ∀ (s:Shared) (us:List Value),K.In s.heap->(us++ds).length=ps.length->BindsTo s fd ⟨us,[]⟩ (ps.zip (us++ds))
theorem zCC.all {K:W.Frag}{fd:FuncData}{ps:List Str}(h:∀ us:List Value,us.length=ps.length->bindArgs fd ⟨us,[]⟩=pure (ps.zip us)):zCC K fd ps []:=fun s us _ hl=>by
  rw [append_nil] at hl ⊢;exact .of_eq (h us hl)
def zH4 (CX:CXT)(X:Cx)(E:XK):Prop:=∀ (pins:List (Addr×Obj)) (σ:St) (H:Hp) (s:Shared) (e:Value) (s':Shared),Inv X pins σ H s->CX X.stack H s E e s'->X.xe e s'
section
variable {X:Cx}{CX:CXT}{k:Nat}{f C:Addr}{fd:FuncData}{ps:List Str}{sp:Sp}{dvs:List V}{ds:List Value}{E:XK}{x m:Str}{p pos apos:Pos}{e o:Expr}{es:List Expr}{ta:TE}{t:TA}
theorem zNM {pins:List (Addr×Obj)}{σ:St}{H:Hp}{s:Shared}{Q:VK}{us:List Value}{vs:List V}(F:FnOk X.prog X.w X.K X.mg X.base CX k f fd ps sp)(hr:Room k X.A)(hb:zCC X.K fd ps ds)(hd:Vals dvs ds)(hx:zH4 CX X E)
    (I:Inv X pins σ H s) (r:Vals vs us) (h:sp (vs++dvs) H Q E):wpAny (model X.prog X.w) X.A (call (.ref f) us) (EP X pins σ Q) X.xe s:=by
  have r2:Vals (vs++dvs) (us++ds):=r.append hd;have hl:(us++ds).length=ps.length:=by rw [<- r2.length];exact F.len _ _ _ _ h
  refine wpAny_call (codeAny_mono (F.run X.A X.stack s H ⟨us,[]⟩ (us++ds) (vs++dvs) Q E hr I.env0 (hb s us I.kIn hl) r2 h) fun r s' hq=>?_);cases r with
  | error e=>exact hx pins σ H s e s' I hq
  | ok fl =>
    cases fl with
    | ret u=>exact I.after hq
    | next=>exact False.elim hq
    | brk=>exact False.elim hq
    | cont=>exact False.elim hq
theorem zJJ (F:FnOk X.prog X.w X.K X.mg X.base CX k f fd ps sp)(hr:Room k X.A)(hg:Gl X x)(hm:X.mg x=some (.ref f))(hk:W.keepIn X.K (.ref f)=true)(hb:zCC X.K fd ps ds)(hd:Vals dvs ds)(hx:zH4 CX X E)
    (ha:PA X (e::es) t) (hdb:(x==("__debug__":Str))=false:=by decide) (he:starEach (e::es) X.env=(false,eval e X.env)::starEach es X.env:=by rfl) (hpl:(backTo pos (starEach es X.env)).any (·.1)=false:=by rfl) :
    PE X (.Call (.Name x p) (e::es) [] pos) (zLT sp dvs E t):=by
  intro pins s σ H Q I h;refine wpAny_Call_Name_kw (zE7 I hg hm ?_ hdb);refine W.callWith_K (h₀:=X.base) I.ok.mod.kin hk (thn (ha pos pins s σ H _ I h) fun us s1 ⟨vs,H1,I1,r,q⟩=>⟨I1.kIn,?_⟩) he hpl;exact zNM F hr hb hd hx I1 r q
theorem zLn (F:FnOk X.prog X.w X.K X.mg X.base CX k f fd ps sp)(hr:Room k X.A)(hg:Gl X x)(hm:X.mg x=some (.ref f))(hk:W.keepIn X.K (.ref f)=true)(hb:zCC X.K fd ps ds)(hd:Vals dvs ds)(hx:zH4 CX X E)
    (hdb:(x==("__debug__":Str))=false:=by decide):PE X (.Call (.Name x p) [] [] pos) (zLT sp dvs E tNil):=by
  intro pins s σ H Q I h;refine wpAny_Call_Name_kw (zE7 I hg hm ?_ hdb);exact W.callWith_K0 I.kIn hk (zNM (us:=[]) F hr hb hd hx I .nil h)
end
structure zAD (N P:List Str)(sc:Scope):Prop where
  kind:sc.kind=.function
  co:sc.isCoroutine=false
  gen:sc.isGenerator=false
  nd:N.Nodup
  pre:N.take P.length=P
  par:∀ x∈P,sc.names.lookup x=some .local\/sc.names.lookup x=some .cell
  nofree:∀ y∈sc.names,y.2≠.free
theorem zGL {kindOf:Str->Option NameKind}{x:Str}:∀ {binds:List (Str×Value)} {m:Str->Option Value},(∀ v,(x,v)∉binds)->bindL kindOf binds m x=m x
  | [],_,_=>rfl
  | (n,v)::r,m,h=>by
    unfold bindL;rw [zGL fun w hw=>h w (mem_cons_of_mem _ hw)];split
    . have:x≠n:=by rintro rfl;exact h v mem_cons_self
      simp [this]
    . rfl
theorem zGN {kindOf:Str->Option NameKind}{x:Str}:∀ {binds:List (Str×Value)} {m:Str->Option Value},(∀ v,(x,v)∉binds)->bindC kindOf binds m x=m x
  | [],_,_=>rfl
  | (n,v)::r,m,h=>by
    unfold bindC;rw [zGN fun w hw=>h w (mem_cons_of_mem _ hw)];split
    . rfl
    . have:x≠n:=by rintro rfl;exact h v mem_cons_self
      simp [this]
theorem zGM {kindOf:Str->Option NameKind}{x:Str}{v:Value}:∀ {P:List Str} {vs:List Value} {i:Nat} {m:Str->Option Value},P.Nodup->P[i]?=some x->vs[i]?=some v->kindOf x=some .local ->
    bindL kindOf (P.zip vs) m x=some v
  | [],_,_,_,_,h,_,_=>by simp at h
  | _::_,[],_,_,_,_,h,_=>by simp at h
  | p::P,w::vs,0,m,nd,h1,h2,hk=>by
    simp at h1 h2;subst h1;subst h2;show bindL kindOf ((p,w)::P.zip vs) m p=_;unfold bindL;rw [zGL fun v hv=>(nodup_cons.mp nd).1 (of_mem_zip hv).1,if_pos hk];simp
  | p::P,w::vs,i+1,m,nd,h1,h2,hk=>by
    show bindL kindOf ((p,w)::P.zip vs) m x=_;unfold bindL;exact zGM (i:=i) (nodup_cons.mp nd).2 (by simpa using h1) (by simpa using h2) hk
theorem zGO {kindOf:Str->Option NameKind}{x:Str}{v:Value}:∀ {P:List Str} {vs:List Value} {i:Nat} {m:Str->Option Value},P.Nodup->P[i]?=some x->vs[i]?=some v->kindOf x≠some .local ->
    bindC kindOf (P.zip vs) m x=some v
  | [],_,_,_,_,h,_,_=>by simp at h
  | _::_,[],_,_,_,_,h,_=>by simp at h
  | p::P,w::vs,0,m,nd,h1,h2,hk=>by
    simp at h1 h2;subst h1;subst h2;show bindC kindOf ((p,w)::P.zip vs) m p=_;unfold bindC;rw [zGN fun v hv=>(nodup_cons.mp nd).1 (of_mem_zip hv).1,if_neg hk];simp
  | p::P,w::vs,i+1,m,nd,h1,h2,hk=>by
    show bindC kindOf ((p,w)::P.zip vs) m x=_;unfold bindC;exact zGO (i:=i) (nodup_cons.mp nd).2 (by simpa using h1) (by simpa using h2) hk
def zBv (N:List Str)(vs:List V):St:=vs.map some++List.replicate (N.length - vs.length) none
def cxOf (CX:CXT)(P:Program)(w:World)(K:W.Frag)(mg:Str->Option Value)(base:Heap)(N:List Str)(qual:Str)(scope:Scope)(f:Addr)(cd:Value)(A:Around)(outer:List Env)(s:Shared)(H:Hp)(E:XK):Cx where
  prog:=P
  w:=w
  K:=K
  mg:=mg
  base:=base
  A:=A.deeper (envOfC qual scope s.heap.objs.size f cd)
  N:=N
  s₀:=s
  H₀:=H
  env:=envOfC qual scope s.heap.objs.size f cd
  outer:=outer
  stack:=envOfC qual scope s.heap.objs.size f cd::outer
  ex:=[]
  calm:=true
  fn:=fun _=>true
  pn:=[]
  xe:=fun e s'=>wpAny (model P w) (A.deeper (envOfC qual scope s.heap.objs.size f cd)) (leaving (envOfC qual scope s.heap.objs.size f cd) e) (fun _ s''=>CX outer H s E e s'') (fun e' s''=>CX outer H s E e' s'') s'
theorem zHx {sc:Scope}{n:Nat}{x:Str}(h:sc.names.lookup x=some .cell):∃ c,(cellsFrom n sc.names []).lookup x=some c:=by
  have q:=W.cellsFrom_some sc.names n [] (.inl h);exact Option.isSome_iff_exists.mp q
theorem zF1 {CX:CXT}{P:Program}{w:World}{K:W.Frag}{mg:Str->Option Value}{base:Heap}{N ps:List Str}{qual:Str}{scope:Scope}{f:Addr}{cd:Value}{A:Around}{outer:List Env}{s s1:Shared}{H:Hp}{E:XK}{us:List Value}{vs:List V}
    (S:zAD N ps scope) (hd:A.handled=none) (hdp:A.depth+1+Builtin.pylongFrames < recursionLimit) (e0:Env0 P w K mg base A outer s H) (hl:vs.length=ps.length) (r:Vals vs us)
    (x:InCallC s s.heap.objs.size (bindL (envOfC qual scope s.heap.objs.size f cd).kindOf (ps.zip us) fun _=>none) (cellsFrom (s.heap.objs.size+1) scope.names []) (bindC (envOfC qual scope s.heap.objs.size f cd).kindOf (ps.zip us) fun _=>none) s1) :
    Inv (cxOf CX P w K mg base N qual scope f cd A outer s H E) [] (zBv N vs) H s1:=by
  have hpl:ps.length<=N.length:=by have:=congrArg List.length S.pre;rw [length_take] at this;omega
  obtain ⟨h1,tk,rfl,hk⟩:=x.done;have noA:∀ b:Addr,b∉(cxOf CX P w K mg base N qual scope f cd A outer s H E).ex:=fun b z=>absurd (show b∈([]:List Addr) from z) (by simp)
  refine ⟨⟨e0.mod,S.kind,rfl,rfl,le_refl _,fun y z c h1 h2=>?_,fun y hy=>?_,fun y c _ h=>?_,fun _=>hd,Around.frames_deeper e0.frames,.inr ⟨rfl,rfl⟩,fun b z=>absurd z (noA b),e0.bs,e0.bsz,fun b _ _=>noA b,fun b z=>absurd z (noA b),e0.funs,e0.frf,⟨hdp,e0.tree,_,_,rfl,S.gen,S.co,rfl,rfl⟩,e0.tabs⟩,
    rfl,e0.bare,Un.kept hk,⟨_,x.toInCall.ns,fun i y v h1 h2 h3=>?_⟩,fun y c h=>⟨_,x.cell y c h⟩,e0.hok.fresh (le_refl _),fun y c h=>?_,fun p hp=>absurd (show p∈([]:List (Addr×Obj)) from hp) (by simp),e0.hok.kept hk,?_⟩
  . exact name_of_addr x.apart (PySem.mem_of_lookup h1) (PySem.mem_of_lookup h2)
  . have hy:scope.names.lookup y=some .cell\/scope.names.lookup y=some .free:=hy;rcases hy with hy | hy
    . exact zHx hy
    . exact absurd rfl (S.nofree _ (PySem.mem_of_lookup hy))
  . exact Nat.le_of_lt (x.above y c (PySem.mem_of_lookup h))
  . have hi:i < vs.length:=by
      unfold zBv at h2;by_cases hi:i < vs.length
      . exact hi
      . rw [getElem?_append_right (by simpa using hi)] at h2;rw [getElem?_replicate] at h2;split at h2<;>cases h2
    have ha:vs[i]?=some v:=by
      unfold zBv at h2;rw [getElem?_append_left (by simpa using hi),getElem?_map] at h2;cases e:vs[i]? with
      | none=>rw [e] at h2;cases h2
      | some a=>rw [e] at h2;cases h2;rfl
    obtain ⟨u,hu,rv⟩:=r.get ha;have hp:ps[i]?=some y:=by
      rw [<- S.pre,List.getElem?_take_of_lt (by omega)];exact h1
    have ndP:ps.Nodup:=by rw [<- S.pre];exact S.nd.sublist (List.take_sublist _ _)
    refine ⟨u,rv,?_⟩;rcases S.par y (mem_of_getElem? hp) with k | k
    . exact .inl ⟨k,zGM ndP hp hu k⟩
    . obtain ⟨c,e⟩:=zHx (n:=s.heap.objs.size+1) k;refine .inr ⟨.inl k,c,e,?_⟩;have q:=x.cell y c e;rw [zGO ndP hp hu (by show scope.names.lookup y≠_;rw [k];decide)] at q;exact q
  . exact e0.hok.fresh (Nat.le_of_lt (x.above y c (PySem.mem_of_lookup h)))
  . unfold zBv;show _=N.length;rw [length_append,length_map,length_replicate];omega
theorem zTp {CX:CXT}{P:Program}{w:World}{K:W.Frag}{mg:Str->Option Value}{base:Heap}{k:Nat}{f:Addr}{name qual:Str}{params:Arguments}{body:List Stmt}{scope:Scope}{dV kV doc pm cdv ct oc:Value}{an od:Option Addr}
    {osl:Array (Option Value)} {N ps:List Str} {sp:Sp} (lk:K.lookup f=some ⟨oc,od,.func (W.fnOf name qual params body scope dV kV doc pm an cdv ct),osl⟩) (hcd:W.codeIn K cdv qual=true) (S:zAD N ps scope)
    (len:∀ vs H Q E,sp vs H Q E->vs.length=ps.length)
    (hbody:∀ (A:Around) (outer:List Env) (s:Shared) (H:Hp) (vs:List V) (Q:VK) (E:XK),Room k (A.deeper (envOfC qual scope s.heap.objs.size f cdv))->sp vs H Q E ->
      ∃ t,PSs (cxOf CX P w K mg base N qual scope f cdv A outer s H E) body t/\t { nx:=fun _ H'=>Q .non H',rt:=Q } (zBv N vs) H) :
    FnOk P w K mg base CX (k+1) f (W.fnOf name qual params body scope dV kV doc pm an cdv ct) ps sp:=by
  refine ⟨len,fun A outer s H args us vs Q E hr e0 hb r hsp=>?_⟩;have hl:=len _ _ _ _ hsp;have KX:K.In s.heap:=e0.mod.kin.keeps fun b o e=>(e0.bs b o e).1
  have lim:s.heap.NoLimit:=e0.mod.nolimit.keeps fun b o e=>(e0.bs b o e).1
  have hkind:∀ y∈ps.zip us,scope.names.lookup y.1=some .local\/(scope.names.lookup y.1=some .cell/\((cellsFrom (s.heap.objs.size+1) scope.names []).lookup y.1).isSome=true):=fun zz26 hy=>by
    obtain ⟨n,v⟩:=zz26;rcases S.par n (of_mem_zip hy).1 with q | q
    . exact .inl q
    . exact .inr ⟨q,W.cellsFrom_some _ _ _ (.inl q)⟩
  refine codeAny_call_function hr.depth (KX _ _ lk) rfl S.co S.gen rfl (W.codeRec_of KX hcd) (hb _ _ _ _ ?_);refine wpAny_newFunctionEnv_cells S.kind hkind fun env he s1 x=>?_
  subst he;refine ⟨lim.keeps x.toInCall.keep,codeAny_func ?_⟩;obtain ⟨t,ht,hq⟩:=hbody A outer s H vs Q E (hr.deeper _) hsp;have I:Inv (cxOf CX P w K mg base N qual scope f cdv A outer s H E) [] (zBv N vs) H s1:=zF1 S hr.hd (by have:=hr.dp;show A.depth+1+100 < _;omega) e0 hl r x;refine wpAny_mono (ht [] s1 (zBv N vs) H _ I hq) (fun fl s' hs=>?_) fun e s' hs=>hs
  have fin:∀ {σ':St} {H':Hp} {v:V} {u:Value},Inv (cxOf CX P w K mg base N qual scope f cdv A outer s H E) [] σ' H' s'->RelV v u->Q v H'->CE outer P w H s Q u s' :=
    fun {σ' H' v u} J rv q=>⟨v,H',J.os,J.bare,J.base,J.hok,rv,q⟩
  cases fl with
  | ret u =>
    obtain ⟨v,σ',H',J,rv,q⟩:=hs;exact fin J rv q
  | next =>
    obtain ⟨σ',H',J,q⟩:=hs;exact fin (v:=V.non) (u:=Value.none) J rfl q
  | brk =>
    obtain ⟨_,_,_,q⟩:=hs;exact False.elim q
  | cont =>
    obtain ⟨_,_,_,q⟩:=hs;exact False.elim q
section
variable {X:Cx}{x:Str}{p pos:Pos}{e:Expr}{es:List Expr}{t:TA}{id T:String}{r:List V->Hp->VK->Prop}
def tCB (r:List V->Hp->VK->Prop)(t:TA):TE:=fun σ H Q=>t σ H fun vs H1=>r vs H1 Q
theorem zE0 (hc:zEO X (.builtin id) r)(hg:Gl X x)(hm:X.mg x=none)(hv:bootBuiltins x=some (.builtin id))(ha:PA X (e::es) t)(hn:x ≠ "__name__":=by decide)(hdb:(x==("__debug__":Str))=false:=by decide)
    (he:starEach (e::es) X.env=(false,eval e X.env)::starEach es X.env:=by rfl) (hpl:(backTo pos (starEach es X.env)).any (·.1)=false:=by rfl):PE X (.Call (.Name x p) (e::es) [] pos) (tCB r t):=by
  intro pins s σ H Q I h;refine wpAny_Call_Name_kw (zCh I hg hm hv ?_ hn hdb);exact PyProof.Rows.callWith_builtin1 (thn (ha pos pins s σ H _ I h) fun us s1 zy112=>by obtain ⟨vs,H1,I1,r1,q1⟩:=zy112;exact hc pins s1 σ H1 vs us Q I1 r1 q1) he hpl
theorem zJI (hc:zEO X (.type T) r)(hg:Gl X x)(hm:X.mg x=none)(hv:bootBuiltins x=some (.type T))(ha:PA X (e::es) t)(hn:x ≠ "__name__":=by decide)(hdb:(x==("__debug__":Str))=false:=by decide)
    (he:starEach (e::es) X.env=(false,eval e X.env)::starEach es X.env:=by rfl) (hpl:(backTo pos (starEach es X.env)).any (·.1)=false:=by rfl):PE X (.Call (.Name x p) (e::es) [] pos) (tCB r t):=by
  intro pins s σ H Q I h;refine wpAny_Call_Name_kw (zCh I hg hm hv ?_ hn hdb);exact PyProof.Rows.callWith_type1 (thn (ha pos pins s σ H _ I h) fun us s1 zy113=>by obtain ⟨vs,H1,I1,r1,q1⟩:=zy113;exact hc pins s1 σ H1 vs us Q I1 r1 q1) he hpl
end
end L2
namespace HT
open PySem PyProof.Rows
section
open PySem.SeqAt
open PySem.AutoSeq1 (wpAny_loadPart')
open PySem.MeetsSeq PySem.MeetsSeq2 PySem.MeetsSeq3
end
section
variable {prog:Program}{w:World}{A:Around}{E:Value->Shared->Prop}{s:Shared}
theorem zQK {t b:Addr}{vs ws:List Value}{Q:Value->Shared->Prop}(ht:IsTup s.heap t vs.toArray)(hb:IsTup s.heap b ws.toArray)(hv:vs≠[])
    (h1:ws=[]->Q (.ref t) s) (h2:ws≠[]->Q (.ref s.heap.objs.size) { s with heap:=s.heap.push { cls:=.type "tuple",data:=.seq (vs++ws).toArray } })
    (hsz:vs.length+ws.length<=sizeLine):wpAny (model prog w) A (binaryOp .Add (.ref t) (.ref b)) Q E s:=by
  obtain ⟨⟨cls,dd,data,sl⟩,ho,hc,n,hd⟩:=id ht;obtain ⟨⟨cls2,dd2,data2,sl2⟩,ho2,hc2,n2,hd2⟩:=id hb;simp only at hc hd hc2 hd2;subst hc hd hc2 hd2;have e:vs.toArray++ws.toArray=(vs++ws).toArray:=by simp
  by_cases hw:ws=[]
  . exact concat_meets ⟨_,ho,rfl⟩ ⟨_,ho2,rfl⟩ noFill_tuple_add seq_tuple_add PySem.F.slot_tuple_add PySem.F.entry_tuple_add (PySem.F.args_tuple_add_2 _ _)
      (tuple_addW1 t b vs.toArray ws.toArray n n2 dd dd2 sl sl2 (by simpa using hv) (by simp [hw])) ⟨ho,ho2,h1 hw⟩
  . refine concat_meets ⟨_,ho,rfl⟩ ⟨_,ho2,rfl⟩ noFill_tuple_add seq_tuple_add PySem.F.slot_tuple_add PySem.F.entry_tuple_add (PySem.F.args_tuple_add_2 _ _)
      (tuple_addW2 t b vs.toArray ws.toArray n n2 dd dd2 sl sl2 (by simpa using hv) (by simpa using hw) (by rw [size_toArray,size_toArray];exact hsz)) ⟨ho,ho2,?_⟩
    rw [e];exact h2 hw
def sIx (n d:Nat):Option Int->Nat
  | none=>d
  | some v=>if v < 0 then (v+(n:Int)).toNat else min v.toNat n
theorem zHS (n d:Nat):sIx n d none=d:=rfl
theorem zI1 (n d k:Nat):sIx n d (some (k:Int))=min k n:=by
  show (if (k:Int) < 0 then ((k:Int)+(n:Int)).toNat else min (k:Int).toNat n)=min k n;rw [if_neg (by omega),toNat_natCast]
theorem zQo (n d:Nat)(hd:d<=n)(o:Option Int):sIx n d o<=n:=by
  cases o with
  | none=>exact hd
  | some v =>
    show (if v < 0 then (v+(n:Int)).toNat else min v.toNat n)<=n;by_cases hv:v < 0
    . rw [if_pos hv];omega
    . rw [if_neg hv];exact Nat.min_le_right _ _
theorem zKy (v:Int)(n d:Nat):(if v < 0 then max (v+(n:Int)) 0 else min v (n:Int))=((sIx n d (some v):Nat):Int):=by
  show (if v < 0 then max (v+(n:Int)) 0 else min v (n:Int))=(((if v < 0 then (v+(n:Int)).toNat else min v.toNat n):Nat):Int);by_cases hv:v < 0
  . simp only [if_pos hv];omega
  . simp only [if_neg hv];omega
theorem zIf (lo hi:Option Int)(n:Nat):Builtin.Slice.sliceAdjust lo hi 1 (n:Int)=(((sIx n 0 lo:Nat):Int),((sIx n n hi:Nat):Int)):=by
  have h1:¬ ((1:Int) < 0):=by omega
  unfold Builtin.Slice.sliceAdjust;simp only [h1,if_false];refine Prod.ext ?_ ?_
  . cases lo with
    | none=>rfl
    | some v=>exact zKy v n 0
  . cases hi with
    | none=>rfl
    | some v=>exact zKy v n n
theorem zIH (i j:Nat):Builtin.Slice.slicePlaces (i:Int) (j:Int) 1=j - i:=by
  unfold Builtin.Slice.slicePlaces;have h1:(1:Int)>0:=by omega
  simp only [h1,if_true,Int.ediv_one];split<;>omega
theorem zER {v:Value}{o:Option Int}{Q:Option Int->Shared->Prop}(p:IsPart v o)(h:Q o s):wpAny (model prog w) A (Builtin.Slice.slicePartIndex v) Q E s:=by
  cases p with
  | none=>exact slicePart_none h
  | int i t=>exact slicePart_int h
theorem zDa {sl:Addr}{vl vu:Value}{lo hi:Option Int}{n:Nat}{Q:Int×Int×Nat->Shared->Prop}(hs:s.heap.IsSliceOf sl vl vu .none)(pl:IsPart vl lo)(pu:IsPart vu hi)
    (h:Q (((sIx n 0 lo:Nat):Int),1,sIx n n hi - sIx n 0 lo) s):wpAny (model prog w) A (Builtin.Slice.sliceApplied (.ref sl) (pure (n:Int))) Q E s:=by
  obtain ⟨os,hos,hcs,hds⟩:=id hs;unfold Builtin.Slice.sliceApplied Builtin.Slice.sliceFields;refine wpAny_bind (wpAny_bind (wpAny_field hos hds (x:=vl) rfl (wpAny_bind (wpAny_field hos hds (x:=vu) rfl (wpAny_bind (wpAny_field hos hds (x:=.none) rfl (wpAny_pure ?_)))))));refine wpAny_bind (slicePart_none ?_);show wpAny _ _ (if ((1:Int)==0)=true then _ else _) _ _ s;rw [if_neg (by decide)];refine wpAny_bind (zER pl (wpAny_bind (zER pu (wpAny_bind (wpAny_pure ?_)))));show wpAny _ _ (match Builtin.Slice.sliceAdjust lo hi 1 (n:Int) with | (lo,hi)=>pure (lo,(1:Int),Builtin.Slice.slicePlaces lo hi 1)) _ _ s;rw [zIf lo hi n];show wpAny _ _ (pure (((sIx n 0 lo:Nat):Int),(1:Int),Builtin.Slice.slicePlaces ((sIx n 0 lo:Nat):Int) ((sIx n n hi:Nat):Int) 1)) _ _ s;rw [zIH];exact wpAny_pure h
theorem zLj (xs:Array Value)(i k:Nat):((List.range k).filterMap fun (m:Nat)=>xs[((i:Int)+(m:Int)*1).toNat]?).toArray=((xs.toList.drop i).take k).toArray:=by
  have e:(fun (m:Nat)=>xs[((i:Int)+(m:Int)*1).toNat]?)=fun m=>xs[i+m]?:=by
    funext m;have:((i:Int)+(m:Int)*1).toNat=i+m:=by omega
    rw [this]
  rw [e];have:=pick_run xs i k;rw [List.filterMap_map] at this;have e2:((fun x=>xs[x]?)∘fun x=>i+x)=fun m=>xs[i+m]?:=rfl
  rw [e2] at this;rw [this]
theorem zDP {t sl:Addr}{items:Array Value}{vl vu:Value}{lo hi:Option Int}{Q:Value->Shared->Prop}(ht:IsTup s.heap t items)(hs:s.heap.IsSliceOf sl vl vu .none)(pl:IsPart vl lo)(pu:IsPart vu hi)
    (hw:¬ (sIx items.size 0 lo=0/\sIx items.size items.size hi=items.size))
    (h:Q (.ref s.heap.objs.size) { s with heap:=s.heap.push { cls:=.type "tuple",data:=.seq ((items.toList.drop (sIx items.size 0 lo)).take (sIx items.size items.size hi - sIx items.size 0 lo)).toArray } })
    (hsz:items.size<=sizeLine):wpAny (model prog w) A (getItem (.ref t) (.ref sl)) Q E s:=by
  have htake:sizeOk (.seq ((items.toList.drop (sIx items.size 0 lo)).take (sIx items.size items.size hi - sIx items.size 0 lo)).toArray):=by
    show ((items.toList.drop (sIx items.size 0 lo)).take (sIx items.size items.size hi - sIx items.size 0 lo)).toArray.size<=sizeLine;rw [size_toArray,length_take,length_drop,Array.length_toList];omega
  have hj:sIx items.size items.size hi<=items.size:=zQo _ _ (le_refl _) hi;obtain ⟨os,hos,hcs,hds⟩:=id hs;have hTs:s.TypeIs (.ref sl) "slice":=⟨os,hos,hcs⟩;unfold getItem
  try with_reducible refine wpAny_holding ?_
  first | refine wpAny_bind (wpAny_pure ?_) | skip
  refine wpAny_bind (wpAny_sequenceKey ht.typeIs (by decide) ?_);refine wpAny_bind (wpAny_callSpecial?_slot (name:=Str.ofString "__getitem__") ht.typeIs PyProof.Rows.slot_tuple_getitem
    (wpAny_call_entry PyProof.Rows.slot_tuple_getitem ht.typeIs entry_tuple_getitem ?_ (args_tuple_getitem _ _)))
  show wpAny _ _ (Builtin.Tuple.tupleItemsOf (.ref t)>>=_) _ _ s;refine wpAny_bind (tupleItemsOf_ ht ?_);refine wpAny_bind (wpAny_typeOf hTs ?_);rw [if_pos (by decide)];refine wpAny_bind (zDa hs pl pu ?_);have hno:¬ ((((sIx items.size 0 lo:Nat):Int)==0&&(1:Int)==1&&(sIx items.size items.size hi - sIx items.size 0 lo)==items.size)=true):=by
    intro q;rw [and_eq_true,and_eq_true] at q;have q1:((sIx items.size 0 lo:Nat):Int)=0:=eq_of_beq q.1.1;have q2:sIx items.size items.size hi - sIx items.size 0 lo=items.size:=eq_of_beq q.2;exact hw ⟨by omega,by omega⟩
  show wpAny _ _ (if (((sIx items.size 0 lo:Nat):Int)==0&&(1:Int)==1&&(sIx items.size items.size hi - sIx items.size 0 lo)==items.size)=true then _ else _) _ _ s;rw [if_neg hno,zLj]
  first
    | exact wpAny_bind (m:=Builtin.Tuple.tupleExact _) (wpAny_newObj_type (wpAny_pure ⟨_,rfl,wpAny_pure h⟩) htake)
    | exact wpAny_bind (m:=Builtin.Tuple.tupleExact _) (wpAny_newObj_type (wpAny_bind (wpAny_pure (wpAny_pure ⟨_,rfl,wpAny_pure h⟩))) htake)
    | exact wpAny_bind (wpAny_bind (m:=Builtin.Tuple.tupleExact _) (wpAny_newObj_type (wpAny_pure (wpAny_pure ⟨_,rfl,wpAny_pure h⟩)) htake))
    | exact wpAny_bind (wpAny_bind (m:=Builtin.Tuple.tupleExact _) (wpAny_newObj_type (wpAny_pure ⟨_,rfl,wpAny_pure h⟩) htake))
end
end HT
namespace L2
open PySem Spec PyProof.Rows
abbrev TO:=St->Hp->(Option Int->Hp->Prop)->Prop
def PO (X:Cx)(e:Option Expr)(t:TO):Prop :=
  ∀ (pins:List (Addr×Obj)) (s:Shared) (σ:St) (H:Hp) (Q:Option Int->Hp->Prop),Inv X pins σ H s->t σ H Q ->
    wpAny (model X.prog X.w) X.A (evalPart e X.env) (fun u s'=>∃ o H',Inv X pins σ H' s'/\IsPart u o/\Q o H') X.xe s
def zOI:TO:=fun _ H Q=>Q none H
def zS3 (t:TE):TO:=fun σ H Q=>t σ H fun x H1=>∃ i,x=.int i/\Q (some i) H1
section
variable {X:Cx}{e:Expr}{te:TE}{lo hi:Option Expr}{tl th:TO}{pos p2:Pos}
theorem zOe:PO X none zOI:=by
  intro pins s σ H Q I h;rw [evalPart_none];exact wpAny_pure ⟨none,H,I,.none,h⟩
theorem zOd (h:PE X e te):PO X (some e) (zS3 te):=by
  intro pins s σ H Q I hw;rw [evalPart_some];refine thn (h pins s σ H _ I hw) fun u s1 zz27=>?_
  obtain ⟨x,H1,I1,r1,q1⟩:=zz27;obtain ⟨i,rfl,q⟩:=q1;obtain ⟨t,rfl⟩:=r1;exact ⟨some i,H1,I1,.int i t,q⟩
def SlR (X:Cx)(r:V->Option Int->Option Int->Hp->VK->Prop):Prop :=
  ∀ (pins:List (Addr×Obj)) (s:Shared) (σ:St) (H:Hp) (x:V) (v vl vu:Value) (lo hi:Option Int) (sl:Addr) (Q:VK),Inv X pins σ H s->RelV x v->s.heap.IsSliceOf sl vl vu .none->IsPart vl lo->IsPart vu hi->r x lo hi H Q ->
    ∃ T id,typeLookup (.type T) "__getitem__"=pure (some (.builtin id))/\s.TypeIs v T/\wpAny (model X.prog X.w) X.A (getItem v (.ref sl)) (EP X pins σ Q) X.xe s
theorem SlR.or {r r':V->Option Int->Option Int->Hp->VK->Prop}(h:SlR X r)(h':SlR X r'):SlR X (fun x lo hi H Q=>r x lo hi H Q\/r' x lo hi H Q):=by
  intro pins s σ H x v vl vu lo hi sl Q I rx hs pl pu q;rcases q with q | q
  . exact h pins s σ H x v vl vu lo hi sl Q I rx hs pl pu q
  . exact h' pins s σ H x v vl vu lo hi sl Q I rx hs pl pu q
def tSl (r:V->Option Int->Option Int->Hp->VK->Prop)(te:TE)(tl th:TO):TE:=fun σ H Q=>te σ H fun x H1=>tl σ H1 fun l H2=>th σ H2 fun u H3=>r x l u H3 Q
theorem zLk {r:V->Option Int->Option Int->Hp->VK->Prop}(hr:SlR X r)(he:PE X e te)(hl:PO X lo tl)(hu:PO X hi th):PE X (.Subscript e (.Slice lo hi none p2) pos) (tSl r te tl th):=by
  intro pins s σ H Q I h;refine Subscript_ (thn (he pins s σ H _ I h) fun v s1 zz28=>?_);obtain ⟨x,H1,I1,r1,q1⟩:=zz28;refine wpAny_Slice (thn (hl pins s1 σ H1 _ I1 q1) fun vl s2 ⟨l,H2,I2,pl,q2⟩=>thn (hu pins s2 σ H2 _ I2 q2) fun vu s3 zz29=>?_);obtain ⟨u,H3,I3,pu,q3⟩:=zz29;rw [evalPart_none];refine wpAny_pure ?_;have I4:Inv X pins σ H3 { s3 with heap:=s3.heap.push { cls:=.type "slice",data:=.fields #[vl,vu,.none] } }:=I3.kept (t':=s3.toks) fun b ob q=>get?_push_of_some _ q
  obtain ⟨T,id,hT,ht,hg⟩:=hr pins { s3 with heap:=s3.heap.push { cls:=.type "slice",data:=.fields #[vl,vu,.none] } } σ H3 x v vl vu l u s3.heap.objs.size Q I4 r1 (Heap.IsSliceOf.new ..) pl pu q3;show wpAny (model X.prog X.w) X.A (subscriptTail e (.Slice lo hi none p2) v (.ref s3.heap.objs.size)) (EP X pins σ Q) X.xe { s3 with heap:=s3.heap.push { cls:=.type "slice",data:=.fields #[vl,vu,.none] } };exact tail_any (ops:=[.ref s3.heap.objs.size,v]) ht hT hg (by with_unfolding_all rfl)
def cutV (xs:List V)(lo hi:Option Int):List V:=(xs.drop (HT.sIx xs.length 0 lo)).take (HT.sIx xs.length xs.length hi - HT.sIx xs.length 0 lo)
theorem zEB (xs:List V)(lo hi:Option Int):(cutV xs lo hi).length<=xs.length:=by
  unfold cutV;rw [length_take,length_drop];omega
def rSlT (K:W.Frag):V->Option Int->Option Int->Hp->VK->Prop:=fun x lo hi H Q=>∃ a xs,x=.ref a/\SqT K H a xs /\
  ¬ (HT.sIx xs.length 0 lo=0/\HT.sIx xs.length xs.length hi=xs.length)/\∀ p,H p=none->Q (.ref p) (upd H p (.tup (cutV xs lo hi)))
theorem zQm:SlR X (rSlT X.K):=by
  intro pins s σ H x v vl vu lo hi sl Q I rx hs pl pu h;obtain ⟨a,xs,rfl,hx,hw,q⟩:=h;cases rx;obtain ⟨its,r,ht,hz⟩:=I.tuple hx;have hlen:its.toArray.size=xs.length:=by rw [size_toArray];exact r.length.symm
  refine ⟨"tuple",_,PyProof.Rows.slot_tuple_getitem.lookup,ht.typeIs,?_⟩;refine HT.zDP ht hs pl pu (by rw [hlen];exact hw) ?_ (by rw [hlen];exact hz);rw [hlen];refine ⟨.ref s.heap.objs.size,_,I.laid (t':=s.toks) (o:=.tup (cutV xs lo hi)) (fun b ob q=>get?_push_of_some _ q) (le_refl _) ?_,rfl,q _ (I.hok.fresh (le_refl _))⟩;exact ⟨le_trans (zEB xs lo hi) hz,_,(r.drop (HT.sIx xs.length 0 lo)).take (HT.sIx xs.length xs.length hi - HT.sIx xs.length 0 lo),IsTup.new _ _⟩
def zQr (K:W.Frag):R2:=fun x y H Q=>∃ a b xs ys,x=.ref a/\y=.ref b/\SqT K H a xs/\SqT K H b ys/\xs≠[]/\xs.length+ys.length<=sizeLine /\
  (ys=[]->Q (.ref a) H)/\(ys≠[]->∀ p,H p=none->Q (.ref p) (upd H p (.tup (xs++ys))))
theorem Vals.nil_iff {xs:List V}{us:List Value}(r:Vals xs us):us=[]<->xs=[]:=by
  cases r with
  | nil=>simp
  | cons _ _=>simp
theorem zOu:OpR X (binaryOp .Add) (zQr X.K):=by
  intro pins s σ H x y v u Q I rx ry h;obtain ⟨a,b,xs,ys,rfl,rfl,ha,hb,hx,hz,q1,q2⟩:=h;cases rx;cases ry;obtain ⟨its,r1,p1,_⟩:=I.tuple ha;obtain ⟨its2,r2,p2,_⟩:=I.tuple hb;refine HT.zQK p1 p2 (fun z=>hx (r1.nil_iff.mp z)) (fun z=>⟨.ref a,H,I,rfl,q1 (r2.nil_iff.mp z)⟩) (fun z=>?_) (by rw [<- r1.length,<- r2.length];exact hz);refine ⟨.ref s.heap.objs.size,_,I.laid (t':=s.toks) (o:=.tup (xs++ys)) (fun b ob q=>get?_push_of_some _ q) (le_refl _) ?_,rfl,q2 (fun w=>z (r2.nil_iff.mpr w)) _ (I.hok.fresh (le_refl _))⟩;exact ⟨by rw [length_append];exact hz,_,r1.append r2,IsTup.new _ _⟩
end
end L2
namespace L2
open PySem Spec PyProof.Rows
def ixN (n:Nat)(i:Int):Option Nat:=if 0<=i then (if i < n then some i.toNat else none) else if -(n:Int)<=i then some (i+n).toNat else none
def atI {α:Type}(xs:List α)(i:Int):Option α:=(ixN xs.length i).bind fun j=>xs[j]?
theorem zPJ {n:Nat}{i:Int}{j:Nat}(h:ixN n i=some j):seqIndex? i n=some j/\j < n/\-(n:Int)<=i/\i < n:=by
  unfold ixN at h;by_cases h0:0<=i
  . rw [if_pos h0] at h;by_cases h1:i < n
    . rw [if_pos h1] at h;have e:i.toNat=j:=Option.some.inj h;exact ⟨by rw [seqIndex_of h0 h1,e],by omega,by omega,h1⟩
    . rw [if_neg h1] at h;cases h
  . rw [if_neg h0] at h;by_cases h1:-(n:Int)<=i
    . rw [if_pos h1] at h;have e:(i+n).toNat=j:=Option.some.inj h;exact ⟨by rw [seqIndex_neg (by omega) h1,e],by omega,h1,by omega⟩
    . rw [if_neg h1] at h;cases h
theorem zK6 {α:Type}{xs:List α}{i:Int}{v:α}(h:atI xs i=some v):∃ j,seqIndex? i xs.length=some j/\xs[j]?=some v/\j < xs.length/\-(xs.length:Int)<=i/\i < xs.length:=by
  unfold atI at h;cases e:ixN xs.length i with
  | none=>rw [e] at h;cases h
  | some j =>
    rw [e] at h;obtain ⟨h1,h2,h3,h4⟩:=zPJ e;exact ⟨j,h1,h,h2,h3,h4⟩
theorem zAo {α:Type}{xs:List α}{j:Nat}{v:α}(h:xs[j]?=some v):atI xs (j:Int)=some v:=by
  have hj:j < xs.length:=(zzg h).1;have e:ixN xs.length (j:Int)=some j:=by
    unfold ixN;rw [if_pos (by omega),if_pos (by omega)];simp
  unfold atI;rw [e];exact h
def zFS (b:Expr):Prop:=∀ o i,subscripted b false o i=operate [o,i] (getItem o i)
def IxR (X:Cx)(r:R2):Prop :=
  ∀ (value slice:Expr) (pins:List (Addr×Obj)) (s:Shared) (σ:St) (H:Hp) (x y:V) (v u:Value) (Q:VK),Inv X pins σ H s->RelV x v->RelV y u->r x y H Q ->
    subscripted slice false v u=operate [v,u] (getItem v u)->wpAny (model X.prog X.w) X.A (subscriptTail value slice v u) (EP X pins σ Q) X.xe s
def MtR (X:Cx)(id:String)(r:V->List V->Hp->VK->Prop):Prop :=
  ∀ (pins:List (Addr×Obj)) (s:Shared) (σ:St) (H:Hp) (x:V) (xs:List V) (v:Value) (us:List Value) (Q:VK),Inv X pins σ H s->RelV x v->Vals xs us->r x xs H Q ->
    wpAny (model X.prog X.w) X.A (call (.builtin id) (v::us)) (EP X pins σ Q) X.xe s
section
variable {X:Cx}{a b:Expr}{ta tb:TE}{pos:Pos}
theorem IxR.or {r r':R2}(h:IxR X r)(h':IxR X r'):IxR X (fun x y H Q=>r x y H Q\/r' x y H Q):=by
  intro value slice pins s σ H x y v u Q I rx ry q hs;rcases q with q | q
  . exact h value slice pins s σ H x y v u Q I rx ry q hs
  . exact h' value slice pins s σ H x y v u Q I rx ry q hs
theorem zQ7 {r:R2}(hr:IxR X r)(ha:PE X a ta)(hb:PE X b tb)(hs:zFS b):PE X (.Subscript a b pos) (tOp r ta tb):=by
  intro pins s σ H Q I h;exact Subscript_ (binT ha hb I h fun v u s2 x y H2 I2 rx ry q=>hr a b pins s2 σ H2 x y v u Q I2 rx ry q (hs _ _))
def rIxL (K:W.Frag):R2:=fun x y H Q=>∃ p xs i v,x=.ref p/\y=.int i/\SqL K H p xs/\atI xs i=some v/\Q v H
def rIxT (K:W.Frag):R2:=fun x y H Q=>∃ p xs i v,x=.ref p/\y=.int i/\SqT K H p xs/\atI xs i=some v/\Q v H
theorem zJ2:IxR X (rIxL X.K):=by
  intro value slice pins s σ H x y v u Q I rx ry h hs;obtain ⟨p,xs,i,z,rfl,rfl,hq,he,q⟩:=h;cases rx;obtain ⟨t,rfl⟩:=ry;obtain ⟨its,r,pl,hz⟩:=I.list hq;obtain ⟨j,h1,h2,h3,h4,h5⟩:=zK6 he;obtain ⟨w,ew,rw'⟩:=r.get h2;have hl:=r.length;have hn:=zJ0;have fin:EP X pins σ Q w s:=⟨z,H,I,rw',q⟩;by_cases h0:0<=i
  . have hj:i.toNat=j:=by
      rw [seqIndex_of h0 h5] at h1;exact Option.some.inj h1
    exact item_listR pl.isList h0 (by omega) (by rw [hj];simpa using ew) fin hs
  . have hj:(i+(its.toArray.size:Int)).toNat=j:=by
      rw [seqIndex_neg (by omega) h4] at h1;rw [size_toArray,<- hl];exact Option.some.inj h1
    exact subscriptTail_builtinR (x:=w) pl.isList.typeIs slot_list_getitem.lookup
      (wpAny_getItem_list_neg (Q:=fun r s'=>r=w/\EP X pins σ Q r s') pl.isList (by omega) (by rw [size_toArray]<;>omega) (by omega) (by rw [hj];simpa using ew) ⟨rfl,fin⟩) hs
theorem zNl:IxR X (rIxT X.K):=by
  intro value slice pins s σ H x y v u Q I rx ry h hs;obtain ⟨p,xs,i,z,rfl,rfl,hq,he,q⟩:=h;cases rx;obtain ⟨t,rfl⟩:=ry;obtain ⟨its,r,pl,hz⟩:=I.tuple hq;obtain ⟨j,h1,h2,h3,h4,h5⟩:=zK6 he;obtain ⟨w,ew,rw'⟩:=r.get h2;have hl:=r.length;have hn:=zJ0;have fin:EP X pins σ Q w s:=⟨z,H,I,rw',q⟩;exact subscriptTail_builtinR (x:=w) pl.typeIs slot_tuple_getitem.lookup
    (getItem_tuple (j:=j) (Q:=fun r s'=>r=w/\EP X pins σ Q r s') pl (by omega) (by omega) (by rw [size_toArray,<- hl];exact h1) (by simpa using ew) ⟨rfl,fin⟩) hs
theorem Inv.lst {pins:List (Addr×Obj)}{σ:St}{H:Hp}{s:Shared}{p:Addr}{xs:List V}(I:Inv X pins σ H s)(h:H p=some (.lst xs)) :
    ∃ (its:List Value) (n:Nat),Vals xs its/\s.heap.get? p=some { cls:=.type "list",data:=.seq its.toArray n }/\xs.length<=sizeLine:=by
  obtain ⟨z,its,n,r,e⟩:=I.hok p _ h;exact ⟨its,n,r,e,z⟩
theorem zFe (lo hi:Option Int)(n:Nat):(sliceBounds lo hi none n).1=((HT.sIx n 0 lo:Nat):Int)/\(sliceBounds lo hi none n).2.1=((HT.sIx n n hi:Nat):Int)/\(sliceBounds lo hi none n).2.2=1:=by
  refine ⟨?_,?_,rfl⟩
  . cases lo with
    | none=>simp [sliceBounds,HT.sIx]
    | some i =>
      simp only [sliceBounds,HT.sIx,Option.getD_none,show (1:Int)>0 by decide,if_true];by_cases h:i < 0
      . simp only [h,if_true]<;>omega
      . simp only [h,if_false]<;>omega
  . cases hi with
    | none=>simp [sliceBounds,HT.sIx]
    | some i =>
      simp only [sliceBounds,HT.sIx,Option.getD_none,show (1:Int)>0 by decide,if_true];by_cases h:i < 0
      . simp only [h,if_true]<;>omega
      . simp only [h,if_false]<;>omega
theorem zEt (its:List Value)(lo hi:Option Int):slicePick its.toArray lo hi none=((its.drop (HT.sIx its.length 0 lo)).take (HT.sIx its.length its.length hi - HT.sIx its.length 0 lo)).toArray:=by
  obtain ⟨h1,h2,h3⟩:=zFe lo hi its.toArray.size;unfold slicePick;rw [h1,h2,h3];simp only [sliceRange_one,pick_run,size_toArray]<;>rfl
def rSlL (K:W.Frag):V->Option Int->Option Int->Hp->VK->Prop:=fun x lo hi H Q=>∃ a xs,x=.ref a/\SqL K H a xs/\∀ p,H p=none->Q (.ref p) (upd H p (.lst (cutV xs lo hi)))
theorem zOO:SlR X (rSlL X.K):=by
  intro pins s σ H x v vl vu lo hi sl Q I rx hs pl pu h;obtain ⟨a,xs,rfl,hx,q⟩:=h;cases rx;obtain ⟨its,r,ht,hz⟩:=I.list hx;have hlen:=r.length;refine ⟨"list",_,slot_list_getitem.lookup,ht.isList.typeIs,?_⟩;refine wpAny_getItem_list_slice ht.isList hs pl pu .none (by simp) ?_ (by rw [size_toArray]<;>omega);rw [zEt,<- hlen];refine ⟨.ref s.heap.objs.size,_,I.laid (t':=s.toks) (o:=.lst (cutV xs lo hi)) (fun b ob q=>get?_push_of_some _ q) (le_refl _) ?_,rfl,q _ (I.hok.fresh (le_refl _))⟩;exact ⟨le_trans (zEB xs lo hi) hz,_,0,(r.drop (HT.sIx xs.length 0 lo)).take (HT.sIx xs.length xs.length hi - HT.sIx xs.length 0 lo),get?_push_size _ rfl⟩
theorem zGI:zEO X (.builtin "len") (fun xs H Q=>∃ p ys,xs=[.ref p]/\(SqL X.K H p ys\/SqT X.K H p ys)/\Q (.int ys.length) H):=by
  intro pins s σ H xs us Q I r h;obtain ⟨p,ys,rfl,hq,q⟩:=h;obtain ⟨u,rfl,rx⟩:=zIl r;cases rx;have hn:=zJ0;rcases hq with hq | hq
  . obtain ⟨its,r',pl,hz⟩:=I.list hq;have hlen:=r'.length;exact Calls.call_len_list pl.isList (by simp only [size_toArray]<;>omega) ⟨.int ys.length,H,I.tok _,⟨s.toks+1,by rw [size_toArray,hlen]⟩,q⟩
  . obtain ⟨its,r',pl,hz⟩:=I.tuple hq;have hlen:=r'.length;exact len_tuple pl (by simp only [size_toArray]<;>omega) ⟨.int ys.length,H,I.tok _,⟨s.toks+1,by rw [size_toArray,hlen]⟩,q⟩
theorem zGH:zEO X (.type "list") (fun xs H Q=>∃ p ys,xs=[.ref p]/\(SqL X.K H p ys\/SqT X.K H p ys)/\∀ l,H l=none->Q (.ref l) (upd H l (.lst ys))):=by
  intro pins s σ H xs us Q I r h;obtain ⟨p,ys,rfl,hq,q⟩:=h;obtain ⟨u,rfl,rx⟩:=zIl r;cases rx;have fin:∀ (its:List Value),Vals ys its->ys.length<=sizeLine->∀ (h':Heap) (c':Nat),(∀ b o',s.heap.get? b=some o'->h'.get? b=some o') ->
      h'.get? s.heap.objs.size=some { cls:=.type "list",dict:=none,data:=.seq its.toArray c',slots:=#[] }->EP X pins σ Q (.ref s.heap.objs.size) { s with heap:=h' }:=fun its r' hz h' c' kp e =>
    ⟨.ref s.heap.objs.size,_,I.laid (t':=s.toks) kp (le_refl _) (show zCd X.prog X.w _ h' _ (.lst ys) from ⟨hz,its,c',r',e⟩),rfl,q _ (I.hok.fresh (le_refl _))⟩
  rcases hq with hq | hq
  . obtain ⟨its,r',pl,hz⟩:=I.list hq;have hlen:=r'.length;obtain ⟨o,ho,hc,n,hd⟩:=pl.isList;exact call_list_seq p (.inl rfl) ho hc hd (fun h' c' kp e=>fin its r' hz h' c' kp e) (by simp only [size_toArray]<;>omega)
  . obtain ⟨its,r',pl,hz⟩:=I.tuple hq;have hlen:=r'.length;obtain ⟨o,ho,hc,n,hd⟩:=pl;exact call_list_seq p (.inr rfl) ho hc hd (fun h' c' kp e=>fin its r' hz h' c' kp e) (by simp only [size_toArray]<;>omega)
def tyV (K:W.Frag)(T:String)(x:V)(H:Hp):Prop:=match x with
  | .str _=>T = "str"
  | .int _=>T = "int"
  | .ref p=>(T = "list"/\∃ xs,SqL K H p xs)\/(T = "tuple"/\∃ o,K.lookup p=some o/\o.cls=.type "tuple"/\o.dict=none) \/
      (T = "dict"/\((∃ kvs,H p=some (.dK kvs))\/∃ kvs,H p=some (.dT kvs)))\/(T = "set"/\∃ S n,H p=some (.set S n))
  | _=>False
theorem zQZ {pins:List (Addr×Obj)}{σ:St}{H:Hp}{s:Shared}{T:String}{x:V}{v:Value}(I:Inv X pins σ H s)(r:RelV x v)(ty:tyV X.K T x H) :
    s.TypeIs v T/\∀ a,v=.ref a->∃ ob,s.heap.get? a=some ob/\ob.dict=none:=by
  cases x with
  | str z =>
    obtain ⟨t,rfl⟩:=r;cases (show T = "str" from ty);exact ⟨typeIs_str s z t,fun _ e=>nomatch e⟩
  | int i =>
    obtain ⟨t,rfl⟩:=r;cases (show T = "int" from ty);exact ⟨typeIs_int s i t,fun _ e=>nomatch e⟩
  | ref p =>
    cases r;rcases ty with ⟨rfl,xs,hq⟩ | ⟨rfl,o,hk,hc,hd⟩ | ⟨rfl,hk⟩ | ⟨rfl,S,n,hk⟩
    . obtain ⟨its,_,pl,_⟩:=I.list hq;refine ⟨pl.isList.typeIs,fun a e=>?_⟩;cases e;obtain ⟨o,n,e,c,hd,_⟩:=pl;exact ⟨o,e,hd⟩
    . refine ⟨⟨o,I.kIn p o hk,hc⟩,fun a e=>?_⟩;cases e;exact ⟨o,I.kIn _ o hk,hd⟩
    . have z:∃ o,s.heap.get? p=some o/\o.ExactDict:=by
        rcases hk with ⟨kvs,hk⟩ | ⟨kvs,hk⟩
        . obtain ⟨_,_,_,_,o,_,_,e,ex,_⟩:=I.hok p _ hk;exact ⟨o,e,ex⟩
        . obtain ⟨_,_,_,_,o,_,_,e,ex,_⟩:=I.hok p _ hk;exact ⟨o,e,ex⟩
      obtain ⟨o,e,ex⟩:=z;refine ⟨⟨o,e,ex.1⟩,fun a e2=>?_⟩;cases e2;exact ⟨o,e,ex.2.1⟩
    . obtain ⟨o,_,_,_,e,ex,_⟩:=I.hok p _ hk;refine ⟨⟨o,e,ex.1⟩,fun a e2=>?_⟩;cases e2;exact ⟨o,e,ex.2.1⟩
  | _=>exact False.elim ty
def tBM (K:W.Frag)(T:String)(r:V->List V->Hp->VK->Prop)(to:TE)(t:TA):TE:=fun σ H Q=>to σ H fun x H1=>tyV K T x H1/\t σ H1 fun xs H2=>r x xs H2 Q
variable {o e:Expr}{es:List Expr}{to:TE}{t:TA}{name:Str}{apos cpos:Pos}{T id:String}{r:V->List V->Hp->VK->Prop}
theorem zOi (pa:PlainAttrs T)(slot:Slot T name id)(hty:typeOf (.builtin id)=pure (.type "method_descriptor"))(hm:MtR X id r)(ho:PE X o to)(ha:PA X (e::es) t)
    (hbase:attributeBase o name X.env (eval o X.env)=eval o X.env:=by rfl)
    (hfew:((backTo cpos (starEach (e::es) X.env)).all (fun x=>!x.1)&&(backToKw cpos (keywordEach [] X.env)).all (fun x=>x.1.isSome)
      && decide ((e::es).length+([]:List Keyword).length+(if ([]:List Keyword).isEmpty then 0 else 1) < 30))=true:=by rfl)
    (hline:(apos.endLine==cpos.line)=true:=by rfl) (hs:starEach (e::es) X.env=(false,eval e X.env)::starEach es X.env:=by rfl) (hplain:(backTo cpos (starEach es X.env)).any (·.1)=false:=by rfl) :
    PE X (.Call (.Attribute o name apos) (e::es) [] cpos) (tBM X.K T r to t):=by
  intro pins s σ H Q I h;refine wpAny_Call_method_late hbase hfew hline rfl (thn (ho pins s σ H _ I h) fun v s1 zz30=>?_);obtain ⟨x,H1,I1,r1,ty,q1⟩:=zz30;obtain ⟨h1,h2⟩:=zQZ I1 r1 ty;refine ⟨T,id,pa,slot,hty,h1,h2,?_⟩;have hA:=ha cpos pins s1 σ H1 _ I1 q1;rw [hs] at hA ⊢;refine Calls.callWith_builtin (by show (false||(backTo cpos (starEach es X.env)).any (·.1))=false;rw [hplain]<;>rfl) (Calls.evalArgs_plain ?_);exact thn hA fun us s2 zy114=>by obtain ⟨vs,H2,I2,r2,q2⟩:=zy114;exact hm pins s2 σ H2 x vs v us Q I2 r1 r2 q2
end
def MtM (X:Cx)(id:String)(r:V->List V->Hp->VK->Prop):Prop :=
  ∀ (pins:List (Addr×Obj)) (s:Shared) (σ:St) (H:Hp) (x:V) (xs:List V) (v:Value) (us:List Value) (Q:VK),Inv X pins σ H s->RelV x v->Vals xs us->r x xs H Q ->
    wpAny (model X.prog X.w) X.A (call (.builtin id) (v::us)) (EP X pins σ Q) X.xe s
theorem Vals.one:∀ {x:V} {us:List Value},Vals [x] us->∃ u,us=[u]/\RelV x u
  | _,_,.cons r .nil=>⟨_,rfl,r⟩
theorem Vals.two {x y:V}{us:List Value}(h:Vals [x,y] us):∃ u v,us=[u,v]/\RelV x u/\RelV y v:=by
  cases h with
  | cons r t =>
    cases t with
    | cons q t2 =>
      cases t2;exact ⟨_,_,rfl,r,q⟩
theorem Vals.zero:∀ {us:List Value},Vals [] us->us=[]
  | _,.nil=>rfl
theorem Vals.dropLast {xs:List V}{us:List Value}(h:Vals xs us):Vals xs.dropLast us.dropLast:=by
  induction h with
  | nil=>exact .nil
  | cons r t ih =>
    cases t with
    | nil=>exact .nil
    | cons q t'=>exact .cons r ih
section
variable {X:Cx}{pins:List (Addr×Obj)}{σ:St}{H:Hp}{s:Shared}{l b:Addr}{xs ys zs:List V}
theorem Inv.lset {its its':List Value}{n:Nat}{f:Array Value->Array Value}{t':Nat}(I:Inv X pins σ H s)(hH:H l=some (.lst xs))
    (e:s.heap.get? l=some { cls:=.type "list",data:=.seq its.toArray n }) (hf:f its.toArray=its'.toArray) (hv:Vals ys its') (hz:ys.length<=sizeLine) :
    Inv X pins σ (upd H l (.lst ys)) { s with heap:=s.heap.update l (Obj.mapSeq f),toks:=t' }:=by
  have q:=PySem.IsL.update e f;rw [hf] at q;refine I.write (x:=l) (e:=l) (by rw [hH];exact trivial) (.inl rfl) (fun b' u hb hu=>(Heap.get?_update_other s.heap (Obj.mapSeq f) (Ne.symm hb)).trans hu) ⟨_,q⟩ ?_;exact ⟨hz,its',_,hv,q⟩
theorem Inv.lnew {its:List Value}{t':Nat}(I:Inv X pins σ H s)(hv:Vals ys its)(hz:ys.length<=sizeLine) :
    Inv X pins σ (upd H s.heap.objs.size (.lst ys)) { s with heap:=s.heap.push { cls:=.type "list",data:=.seq its.toArray },toks:=t' } :=
  I.laid (fun _ _ q=>get?_push_of_some _ q) (le_refl _) ⟨hz,its,0,hv,get?_push_size _ rfl⟩
theorem Inv.fresh (I:Inv X pins σ H s):H s.heap.objs.size=none:=I.hok.fresh (le_refl _)
theorem Inv.lstM (I:Inv X pins σ H s)(hH:H l=some (.lst xs)):xs.length<=sizeLine/\∃ (its:List Value) (n:Nat),Vals xs its/\xs.length=its.length/\s.heap.get? l=some { cls:=.type "list",data:=.seq its.toArray n }:=by
  obtain ⟨z,its,n,r,e⟩:=I.hok l _ hH;exact ⟨z,its,n,r,r.length,e⟩
theorem zLu {n:Nat}(h:n<=sizeLine):Builtin.List.listTooLong n=false:=by
  unfold Builtin.List.listTooLong;exact decide_eq_false (by omega)
end
section
variable {X:Cx}
def zOa:V->List V->Hp->VK->Prop:=fun x vs H Q=>∃ l xs y,x=.ref l/\vs=[y]/\H l=some (.lst xs)/\xs.length < sizeLine/\Q .non (upd H l (.lst (xs++[y])))
theorem zFt:MtM X "list.append" zOa:=by
  intro pins s σ H x vs v us Q I rx rv h;obtain ⟨l,xs,y,rfl,rfl,hH,hz,q⟩:=h;cases rx;obtain ⟨u,rfl,ru⟩:=rv.one;obtain ⟨z,its,n,r,hl,e⟩:=I.lstM hH;refine call_meets F.slot_list_append ⟨_,e,rfl⟩ F.entry_list_append (F.args_list_append_2 _ _) (PySem.list_append l its.toArray n u (by rw [size_toArray];omega)) ⟨e,?_⟩;refine ⟨.non,_,I.lset (its':=its++[u]) hH e (by simp) (r.append (.cons ru .nil)) ?_,rfl,q⟩;rw [length_append,length_singleton];omega
def zOZ:V->List V->Hp->VK->Prop:=fun x vs H Q=>∃ l b xs zs,x=.ref l/\vs=[.ref b]/\H l=some (.lst xs)/\H b=some (.lst zs)/\xs.length+zs.length<=sizeLine/\Q .non (upd H l (.lst (xs++zs)))
theorem zJj:MtM X "list.extend" zOZ:=by
  intro pins s σ H x vs v us Q I rx rv h;obtain ⟨l,b,xs,zs,rfl,rfl,hH,hB,hz,q⟩:=h;cases rx;obtain ⟨u,rfl,ru⟩:=rv.one;cases ru;obtain ⟨z,its,n,r,hl,e⟩:=I.lstM hH;obtain ⟨z2,its2,n2,r2,hl2,e2⟩:=I.lstM hB;have hsz:its.toArray.size+its2.toArray.size<=sizeLine:=by rw [size_toArray,size_toArray];omega
  have hlong:¬ (!its.toArray.isEmpty&&Builtin.List.listTooLong (its.toArray.size+its2.toArray.size))=true:=by
    rw [zLu hsz,Bool.and_false];exact Bool.false_ne_true
  refine call_meets F.slot_list_extend ⟨_,e,rfl⟩ F.entry_list_extend (F.args_list_extend_2 _ _)
    (AutoSeq1.list_extend_list_list_0 l its.toArray n b its2.toArray n2 hlong (by rw [size_toArray];omega) (by omega)) ⟨e,e2,?_⟩
  refine ⟨.non,_,I.lset (its':=its++its2) hH e (by simp) (r.append r2) ?_,rfl,q⟩;rw [length_append];omega
theorem zGm {α:Type}(xs:List α)(k:Nat):(List.replicate k xs).flatten.length=k*xs.length:=by
  induction k with
  | zero=>simp
  | succ k ih=>rw [replicate_succ,flatten_cons,length_append,ih,Nat.succ_mul,Nat.add_comm]
end
end L2
namespace Att
open PySem PySem.W PySem.Calls PyProof.Rows
theorem zD0 {P:Params}{h:Heap}:∀ (ns:List Int) (vs:List Value),WellAll P h vs (ns.map WData.int)->IntsAre vs ns:=by
  intro ns
  induction ns with
  | nil =>
    intro vs w;rw [map_nil] at w;cases w;exact .nil
  | cons n ns ih =>
    intro vs w;rw [map_cons] at w;cases w with
    | cons a b =>
      cases a;exact .cons _ _ (ih _ b)
theorem zHz:∀ {ns:List Int},WData.weightAll (ns.map WData.int)<=2^20->∀ x∈ns,Builtin.Int.intBits x<=2^20
  | n::ns,h,x,hx=>by
    rw [map_cons,WData.weightAll,WData.weight] at h;rcases mem_cons.mp hx with rfl | hx
    . unfold Builtin.Int.intBits;omega
    . exact zHz (by omega) x hx
theorem zIz {l:OpenLaw}{n:Nat}(hn:l.most=some n){P:Params}{h:Heap}{args:List WData}{vals:List Value}
    (hpre:l.row.toRowW.claim.pre args=true) (hwl:WellAll P h vals args) (hlay:WData.layableAll args=true) :
    ∃ a vs ns,vals=[Value.ref a]/\args=[WData.list (ns.map WData.int)]/\h.get? a=some { cls:=.type "list",data:=.seq vs.toArray }/\IntsAre vs ns/\(ns.length<=n/\∀ x∈ns,Builtin.Int.intBits x<=2^20):=by
  have hsh:WShape.hasAll [] args [.list .int]=true:=(pre_splitW hpre).1;have hc:l.pre.holds [] { args:=args }=true:=(pre_splitW hpre).2;obtain ⟨d,r,rfl,h1,h2⟩:=hasAllW_cons hsh;obtain rfl:=hasAllW_nil h2;obtain ⟨xs,rfl,h3⟩:=hasW_list h1;obtain ⟨ns,rfl⟩:=items_int h3;have hlen:ns.length<=n:=by
    unfold OpenLaw.pre at hc;have h4:(WTm.not (.lt (.lit (.int (n:Int))) (.len (.arg 0)))).holds [] { args:=[.list (ns.map .int)] }=true:=by
      have h4:=(holds_andW hc).1;rw [hn] at h4;exact h4
    have h5:=condW_of h4 (w_not (w_lt w_lit (w_len_list (w_arg rfl))));rw [length_map] at h5;refine Nat.le_of_not_lt fun q=>?_
    have q':(n:Int) < ((ns.length:Nat):Int):=by omega
    first
      | (rw [decide_eq_true q'] at h5;exact absurd h5 (by decide))
      | (simp at h5;omega)
  cases hwl with
  | cons w1 w2 =>
    cases w2;cases w1 with
    | list ho hall=>exact ⟨_,_,ns,rfl,rfl,ho,zD0 ns _ hall,hlen,zHz (of_decide_eq_true (Bool.and_eq_true_iff.mp (W.layW_cons hlay).1).2)⟩
theorem zJC (l:OpenLaw)(args:List WData):l.row.toRowW.claim.post args (.bool true) args=true :=
  postW_of (r:=l.row.toRowW) (X:=(true==true))
    (show WShape.has [] (.bool true) .bool=true by first | rfl | decide | simp [WShape.has,WShape.arms,WShape.armsAll])
    (show (WTm.eq .res (.lit (.bool true))).value [] { args:=args,res:=some (.bool true),after:=args }=some (.bool (true==true)) from w_eq_bool (w_res rfl) w_lit) rfl
theorem zG6 {l:OpenLaw}{n:Nat}{q:Program}{loose:List Str}{XP:(Str->Option Value)->Heap->Prop}{YP:World->Heap->Prop}{d:DefRec}
    (hn:l.most=some n) (hdf:d.params.defaults=[])
    (call:∀ (w:World) (s₀ s₁:Shared) (mg mb:Str->Option Value) (fa:Addr) (o:Obj) (pm cd doc:Value) (a:Addr) (vs:List Value) (ns:List Int),
      Ground q loose [] XP w s₀ mg mb s₁.heap->YP w s₁.heap ->
      s₁.heap.get? fa=some o->o.data=.func (docDef d.name d.params d.body d.scope pm cd doc)->s₁.heap.CodeRec cd d.name->mg d.name=some (.ref fa) ->
      s₁.heap.get? a=some { cls:=.type "list",data:=.seq vs.toArray }->IntsAre vs ns->(ns.length<=n/\∀ x∈ns,Builtin.Int.intBits x<=2^20)->s₁.gens=#[] ->
      codeAny (model l.prog w) callerA (.call (.ref fa) ⟨[.ref a],[]⟩) (fun r s'=>r=.ok (.ret (.bool true))/\OldK s₁.heap s'.heap/\s'.os=s₁.os/\AllBare s'.gens) s₁) :
    WalkO q loose XP YP l.row.toRowW d [] (fun f vs=>PySem.call f vs):=by
  intro w s₀ s₁ mg mb G Y fa o pm cd doc dV kV ho hd hcd hD hmg hg args vals as hpre hlay hrd hwl hlo;obtain rfl:dV=.none:=Dflts.none hD hdf;obtain rfl:kV=.none:=Dflts.noKw hD;obtain ⟨a,vs,ns,rfl,rfl,hobj,hints,hlen⟩:=zIz hn hpre hwl hlay;refine enter_call (codeAny_mono (call w s₀ s₁ mg mb fa o pm cd doc a vs ns G Y ho (fd_plain hd) hcd hmg hobj hints hlen hg) fun r s' hq=>?_);obtain ⟨rfl,h2,h3,h4⟩:=hq;exact ⟨.inl ⟨.bool true,.bool true,[],rfl,fun _=>rfl,.bool true,zJC l _,fun _=>⟨List.Pairwise.nil,fun _ hm=>(nomatch hm)⟩⟩,h2,h3,h4⟩
section
variable {prog:Program}{w:World}{A:Around}{E:Value->Shared->Prop}{s:Shared}{K:Frag}
end
end Att
namespace L2
open PySem Spec PyProof.Rows
theorem zCw:∀ {vs:List Value} {ns:List Int},IntsAre vs ns->Vals (ns.map V.int) vs
  | _,_,.nil=>.nil
  | _,_,.cons n t h=>.cons ⟨t,rfl⟩ (zCw h)
def Only (H:Hp):Prop:=∀ b,H b=none\/∃ o xs,H b=some (.frz o (.lst xs))
def tblT (tl:List (Str×Addr×Addr)):List (Addr×Str):=tl.map fun t=>(t.2.2,lamQ t.1)
def hpT (tl:List (Str×Addr×Addr))(H:Hp):Hp:=fun b=>match (tblT tl).lookup b with
  | some q=>some (.tbl q)
  | none=>H b
theorem zFv {β:Type}:∀ {l:List (Addr×β)} {a:Addr} {b:β},l.lookup a=some b->(a,b)∈l
  | [],_,_,e=>by cases e
  | (c,x)::r,a,b,e=>by
    rw [lookup_cons] at e;cases hb:a==c with
    | true=>rw [hb] at e;cases e;rw [eq_of_beq hb];exact .head _
    | false=>rw [hb] at e;exact .tail _ (zFv e)
theorem zEY:∀ {tl:List (Str×Addr×Addr)} {x:Str} {c P:Addr},(tl.map fun t=>t.2.2).Nodup->(x,c,P)∈tl->(tblT tl).lookup P=some (lamQ x)
  | t::tl,x,c,P,nd,h=>by
    rcases mem_cons.mp h with e | h
    . cases e;unfold tblT;rw [map_cons,lookup_cons,beq_self_eq_true]
    . have n:=(nodup_cons.mp (show ((t.2.2)::tl.map fun t=>t.2.2).Nodup from nd));have ne:(P==t.2.2)=false:=by
        refine beq_eq_false_iff_ne.mpr fun z=>n.1 ?_
        rw [<- z];exact mem_map.mpr ⟨_,h,rfl⟩
      unfold tblT;rw [map_cons,lookup_cons,ne];exact zEY n.2 h
theorem zL7 {P:Program}{w:World}{K:W.Frag}{mg mb:Str->Option Value}{CX:CXT}{k:Nat}{fa a:Addr}{fd:FuncData}{x:Str}{sp:Sp}{s₁:Shared}{vs:List Value}{ns:List Int}{tl:List (Str×Addr×Addr)}
    (KX:K.In s₁.heap) (hns:s₁.heap.Ns mainGlobals mg) (hb:s₁.heap.Ns builtinsNs mb) (hbb:∀ x:Str,x ≠ "__name__"->mb x=bootBuiltins x) (hlim:s₁.heap.NoLimit) (hsr:s₁.heap.NoSeer) (htr:(model P w).prog.given.tree=none) (hg:s₁.gens=#[])
    (ha:s₁.heap.get? a=some { cls:=.type "list",data:=.seq vs.toArray }) (hi:IntsAre vs ns) (hl:ns.length<=sizeLine) (hr:Room k callerA)
    (F:∀ base:Heap,K.In base->base.Ns mainGlobals mg->FnOk P w K mg base CX k fa fd [x] sp) (hbind:∀ (s:Shared) (u:Value),BindsTo s fd ⟨[u],[]⟩ [(x,u)])
    (hbm:∃ bm ob,mg "__builtins__"=some (.ref bm)/\bm≠builtinsNs/\s₁.heap.get? bm=some ob/\ob.cls=.type "module"/\ob.dict=some builtinsNs/\ob.data=.plain) (htab:∀ t∈tl,W.CodeHd s₁.heap t.2.1 t.2.2/\s₁.heap.get? t.2.2=some (W.tabObj #[])) (htl:∀ x∈zBj,W.tabIn K x=tl.lookup x) (hnd:(tl.map fun t=>t.2.2).Nodup) (hnt:W.noTabs K=true)
    (hsp:∀ H:Hp,(∀ xs,H a≠some (.lst xs))->SqL K H a (ns.map V.int)->sp [.ref a] H (fun v _=>v=.bl true) fun _ _ _=>False)
    (hCX:∀ H e s',CX [] H s₁ (fun _ _ _=>False) e s'->False) :
    codeAny (model P w) callerA (.call (.ref fa) ⟨[.ref a],[]⟩) (fun r s'=>r=.ok (.ret (.bool true))/\OldK s₁.heap s'.heap/\s'.os=s₁.os/\AllBare s'.gens) s₁:=by
  have rv:=zCw hi;have lenV:=hi.length;have tat:∀ {b:Addr} {qq:Str},(tblT tl).lookup b=some qq->∃ c,W.CodeHd s₁.heap c b/\s₁.heap.get? b=some (W.tabObj #[]):=fun {b qq} e=>by
    obtain ⟨t,mt,et⟩:=mem_map.mp (zFv e);cases et;exact ⟨t.2.1,htab t mt⟩
  have tna:(tblT tl).lookup a=none:=by
    cases e:(tblT tl).lookup a with
    | none=>rfl
    | some qq =>
      obtain ⟨_,_,e2⟩:=tat e;rw [ha] at e2;cases e2
  have core:∀ H0:Hp,Only H0->SqL K H0 a (ns.map V.int)->HOk P w H0 s₁.heap->(∀ b,H0 b≠none->b=a)->(H0 a≠none->K.lookup a=none) ->
      codeAny (model P w) callerA (.call (.ref fa) ⟨[.ref a],[]⟩) (fun r s'=>r=.ok (.ret (.bool true))/\OldK s₁.heap s'.heap/\s'.os=s₁.os/\AllBare s'.gens) s₁:=by
    intro H0 hO0 hS0 hok0 hA0 hK0;obtain ⟨H,eH⟩:∃ H:Hp,H=hpT tl H0:=⟨_,rfl⟩;have Hat:∀ {b:Addr} {qq:Str},(tblT tl).lookup b=some qq->H b=some (.tbl qq):=fun {b qq} e=>by rw [eH];unfold hpT;rw [e]
    have Hout:∀ {b:Addr},(tblT tl).lookup b=none->H b=H0 b:=fun {b} e=>by rw [eH];unfold hpT;rw [e]
    have H0t:∀ {b:Addr} {u:HO},H0 b=some u->H b=some u:=fun {b u} e=>by
      have z:b=a:=hA0 b (by rw [e];simp);rw [Hout (by rw [z];exact tna)];exact e
    have hS:SqL K H a (ns.map V.int):=by
      rcases hS0 with (z | ⟨o,z⟩) | z
      . exact .inl (.inl (H0t z))
      . exact .inl (.inr ⟨o,H0t z⟩)
      . exact .inr z
    have hL:∀ xs,H a≠some (.lst xs):=fun xs e=>by
      rw [Hout tna] at e;rcases hO0 a with z | ⟨o,ys,z⟩
      . rw [z] at e;cases e
      . rw [z] at e;cases e
    have hok:HOk P w H s₁.heap:=fun b u e=>by
      cases z:(tblT tl).lookup b with
      | some qq =>
        rw [Hat z] at e;cases e;obtain ⟨_,_,e2⟩:=tat z;exact ⟨#[],e2,trivial,fun pos cv z=>by cases (show (none:Option Value)=some cv from z)⟩
      | none =>
        rw [Hout z] at e;exact (hok0 b u e).stay (fun _ _ _ q=>q) (fun _ q=>H0t q) (fun _ _ q=>H0t q) fun _ _ _ q _=>H0t q
    have hT:zH1 K H:=fun x hx c P e=>Hat (by
      have e2:=htl x hx;rw [e] at e2;exact zEY hnd (PySem.mem_of_lookup e2.symm))
    have split:∀ {b:Addr},H b≠none->((tblT tl).lookup b=none/\b=a/\H0 a≠none)\/∃ qq,(tblT tl).lookup b=some qq:=fun {b} e=>by
      cases z:(tblT tl).lookup b with
      | some qq=>exact .inr ⟨qq,rfl⟩
      | none =>
        rw [Hout z] at e;have:=hA0 b e;exact .inl ⟨rfl,this,by rw [<- this];exact e⟩
    have base_of:∀ {b:Addr} {o:Obj},s₁.heap.get? b=some o->H b=none->(hidT s₁.heap H).get? b=some o:=fun e n=>zMF e n
    have noA:∀ {b:Addr} {o:Obj} {es:Array DictEntry} {ep:Nat},s₁.heap.get? b=some o->o.data=.dict es ep->H b=none:=fun {b o es ep} e d=>by
      cases q:H b with
      | none=>rfl
      | some u =>
        rcases split (b:=b) (by rw [q];simp) with ⟨_,e',_⟩ | ⟨qq,z⟩
        . subst e';rw [ha] at e;cases e;have d':Data.seq vs.toArray _=Data.dict es ep:=d;cases d'
        . obtain ⟨_,_,e2⟩:=tat z;rw [e2] at e;cases e;cases (show Data.fields #[]=Data.dict es ep from d)
    have noM:∀ {b:Addr} {o:Obj},s₁.heap.get? b=some o->o.cls=.type "module"->H b=none:=fun {b o} e d=>by
      cases q:H b with
      | none=>rfl
      | some u =>
        rcases split (b:=b) (by rw [q];simp) with ⟨_,e',_⟩ | ⟨qq,z⟩
        . subst e';rw [ha] at e;cases e;exact absurd (show Value.type "list"=Value.type "module" from d) (by decide)
        . obtain ⟨_,_,e2⟩:=tat z;rw [e2] at e;cases e;exact absurd (show Value.none=Value.type "module" from d) (by decide)
    have nsK:∀ {b:Addr} {m:Str->Option Value},s₁.heap.Ns b m->(hidT s₁.heap H).Ns b m:=fun {b m} ⟨o,es,ep,e,d,r⟩=>⟨o,es,ep,base_of e (noA e d),d,r⟩
    have hKb:K.In (hidT s₁.heap H):=fun b o e=>base_of (KX b o e) (by
      cases q:H b with
      | none=>rfl
      | some u =>
        rcases split (b:=b) (by rw [q];simp) with ⟨_,e',n0⟩ | ⟨qq,z⟩
        . subst e';rw [hK0 n0] at e;cases e
        . obtain ⟨_,_,e2⟩:=tat z;have e3:=KX b o e;rw [e2] at e3;cases e3;have h2:=all_eq_true.mp hnt (b,W.tabObj #[]) (W.mem_of_lookupK e);exact absurd (show false=true from h2) Bool.false_ne_true)
    have hM:Mod K mg (hidT s₁.heap H):=⟨hKb,nsK hns,⟨mb,nsK hb,hbb⟩,let ⟨mc,h1,h2⟩:=hlim;⟨mc,nsK h1,h2⟩,⟨let ⟨mc,h1,h2⟩:=hsr.statics;⟨mc,nsK h1,h2⟩,let ⟨mc,h1,h2⟩:=hsr.mods;⟨mc,nsK h1,h2⟩,let ⟨mc,h1,h2⟩:=hsr.imp;⟨mc,nsK h1,h2⟩,let ⟨mc,bm,ob,h1,h2,h3,h4,h5⟩:=hsr.main;⟨mc,bm,ob,nsK h1,h2,base_of h3 (noM h3 h4),h4,h5⟩⟩,let ⟨bm,ob,b1,b2,b3,b4,b5⟩:=hbm;⟨bm,ob,b1,b2,base_of b3 (noM b3 b4),b4,b5⟩,fun x hx c P e=>by
      have e2:=htl x hx;rw [e] at e2;obtain ⟨o,vs',file,tf,flags,tg,inF,text,tt,g1,g2,g3,g4,g5,g6,g7,g8,g9,g10⟩:=(htab (x,c,P) (PySem.mem_of_lookup e2.symm)).1;refine ⟨o,vs',file,tf,flags,tg,inF,text,tt,base_of g1 ?_,g2,g3,g4,g5,g6,g7,g8,g9,g10⟩;cases q:H c with
      | none=>rfl
      | some u =>
        rcases split (b:=c) (by rw [q];simp) with ⟨_,e',_⟩ | ⟨qq,z⟩
        . subst e';rw [ha] at g1;cases g1;exact absurd (show Value.type "list"=Value.type "code" from g2) (by decide)
        . obtain ⟨_,_,e2⟩:=tat z;rw [e2] at g1;cases g1;exact absurd (show Value.none=Value.type "code" from g2) (by decide)⟩
    have e0:Env0 P w K mg (hidT s₁.heap H) callerA [] s₁ H:=⟨rfl,hM,fun b o e=>zOy e,Nat.le_of_eq (zKA _ _),trivial,fun b hb=>absurd (show b∈([]:List Addr) from hb) (by simp),hok,.of_eq hg,htr,hT⟩;refine codeAny_mono ((F _ hKb (nsK hns)).run callerA [] s₁ H ⟨[.ref a],[]⟩ [.ref a] [.ref a] _ _ hr e0 (hbind s₁ (.ref a)) (.cons rfl .nil) (hsp H hL hS)) fun r s' h=>?_
    cases r with
    | error e=>exact (hCX H e s' h).elim
    | ok fl =>
      cases fl with
      | next=>exact False.elim h
      | brk=>exact False.elim h
      | cont=>exact False.elim h
      | ret u =>
        obtain ⟨v,H',os,bare,un,hok',r',q⟩:=h;have q':v=.bl true:=q;subst q';obtain rfl:u=Value.bool true:=r';have key:∀ b o,s₁.heap.get? b=some o->asItWas s₁.heap s'.heap b o/\∃ o',s'.heap.get? b=some o':=fun b o e=>by
          cases z:(tblT tl).lookup b with
          | some qq =>
            obtain ⟨c,C,e2⟩:=tat z;rw [e] at e2;cases e2;obtain ⟨ps,e3,_⟩:=hok' b _ (un.tbls b _ (Hat z));exact ⟨.inr (.inl ⟨(C.tab e).isCodeTable,rfl,#[],ps,rfl,by rw [e3];simp⟩),_,e3⟩
          | none =>
            have k:s'.heap.get? b=some o:=by
              cases q:H b with
              | none=>exact un.keep b o e q (by intro z;exact absurd (show b∈([]:List Addr) from z) (by simp)) (by simp)
              | some u =>
                rcases hO0 b with y | ⟨ob,xs,y⟩
                . rw [Hout z,y] at q;cases q
                . have y1:=H0t y;have z2:=un.frzs b ob _ y1;obtain ⟨e1,_⟩:=hok b _ y1;obtain ⟨e2,_⟩:=hok' b _ z2;rw [e] at e1;cases e1;exact e2
            exact ⟨.inl k,o,k⟩
        exact ⟨rfl,⟨fun b o e=>(key b o e).1,fun b o e=>(key b o e).2⟩,os,bare⟩
  cases hk:K.lookup a with
  | some o =>
    have e:=KX a o hk;rw [ha] at e;cases e;refine core (fun _=>none) (fun _=>.inl rfl) (.inr ⟨_,vs.toArray,_,hk,rfl,rfl,rfl,by rw [size_toArray,lenV];exact hl,by simpa using rv⟩) (fun b u z=>by have z':(none:Option HO)=some u:=z;cases z') (fun b z=>absurd rfl z) fun z=>absurd rfl z
  | none =>
    refine core (fun b=>if b=a then some (.frz { cls:=.type "list",data:=.seq vs.toArray } (.lst (ns.map V.int))) else none) (fun b=>?_) (.inl (.inr ⟨{ cls:=.type "list",data:=.seq vs.toArray },if_pos rfl⟩)) (fun b u z=>?_) (fun b z=>?_) fun _=>hk
    . by_cases hb:b=a
      . exact .inr ⟨_,_,if_pos hb⟩
      . exact .inl (if_neg hb)
    . by_cases hb:b=a
      . have z':=(if_pos hb).symm.trans z;cases z';subst hb;exact ⟨ha,by rw [length_map];exact hl,vs,_,rv,ha⟩
      . have z':=(if_neg hb).symm.trans z;cases z'
    . by_cases hb:b=a
      . exact hb
      . exact absurd (if_neg hb) z
end L2
namespace L2
open PySem Spec PyProof.Rows
theorem zOD {l:W.OpenLaw}{n k:Nat}{q:Program}{loose:List Str}{XP:(Str->Option Value)->Heap->Prop}{YP:World->Heap->Prop}{d:DefRec}{K:Params->W.Frag}{CX:World->CXT}{sp:World->Sp}{x:Str}
    (hn:l.most=some n) (hn2:n<=sizeLine) (hdf:d.params.defaults=[]) (hq:importsNone q=true) (ht:∀ w,(model l.prog w).prog.given.tree=none) (hr:Room k callerA) (tl:List (Str×Addr×Addr)) (hrec:∀ t∈tl,((recsOf q).find? fun e=>e.name==t.1).isSome=true) (htl:∀ w:World,∀ x∈zBj,W.tabIn (K w.params) x=tl.lookup x) (htk:∀ t∈tl,t.1∈zBj/\tl.lookup t.1=some t.2) (hnd:(tl.map fun t=>t.2.2).Nodup) (hnt:∀ w:World,W.noTabs (K w.params)=true)
    (hY:∀ (w:World) (h:Heap),YP w h->(K w.params).In h)
    (F:∀ (w:World) (mg:Str->Option Value) (fa:Addr) (h:Heap),(K w.params).In h->h.Ns mainGlobals mg->mg d.name=some (.ref fa) ->
      ∃ fd:FuncData,(∀ (s:Shared) (u:Value),BindsTo s fd ⟨[u],[]⟩ [(x,u)]) /\
        ∀ base:Heap,(K w.params).In base->base.Ns mainGlobals mg->FnOk l.prog w (K w.params) mg base (CX w) k fa fd [x] (sp w))
    (hsp:∀ (w:World) (H:Hp) (a:Addr) (ns:List Int),(ns.length<=n/\∀ x∈ns,Builtin.Int.intBits x<=2^20)->(∀ xs,H a≠some (.lst xs))->SqL (K w.params) H a (ns.map V.int)->sp w [.ref a] H (fun v _=>v=.bl true) fun _ _ _=>False)
    (hCX:∀ (w:World) (H:Hp) (s:Shared) (e:Value) (s':Shared),CX w [] H s (fun _ _ _=>False) e s'->False) :
    W.WalkO q loose XP YP l.row.toRowW d [] (fun f vs=>PySem.call f vs):=by
  refine Att.zG6 hn hdf fun w s₀ s₁ mg mb fa o pm cd doc a vs ns G Y ho hd hcd hmg hobj hints hlen hg=>?_
  have KX:=hY w _ Y;obtain ⟨fd,hb,hF⟩:=F w mg fa _ KX G.T.g hmg;exact zL7 KX G.T.g G.T.b G.T.builtins G.T.nolimit (G.T.seer hq) (ht w) hg hobj hints (le_trans hlen.1 hn2) hr hF hb (tl:=tl) G.T.bmain (fun t mt=>by
    obtain ⟨t1,t2⟩:=htk t mt;obtain ⟨d,hd⟩:=Option.isSome_iff_exists.mp (hrec t mt);have e:=htl w t.1 t1;rw [t2] at e;exact W.tab_of G.T KX hd e) (htl w) hnd (hnt w) (fun H hL hS=>hsp w H a ns hlen hL hS) fun H e s'=>hCX w H s₁ e s'
def zCP (s:Stmt):Arguments:=match s with
  | .FunctionDef _ a _ _ _ _ _ _ _ _=>a
  | _=>{ posonlyargs:=[],args:=[],vararg:=none,kwonlyargs:=[],kw_defaults:=[],kwarg:=none,defaults:=[] }
def zAB (s:Stmt):List Stmt:=match s with
  | .FunctionDef _ _ b _ _ _ _ _ _ _=>b
  | _=>[]
def zAA (s:Stmt):Scope:=match s with
  | .FunctionDef _ _ _ _ _ _ sc _ _ _=>sc
  | _=>{ kind:=.function,names:=[],isGenerator:=false,isCoroutine:=false }
abbrev CX0:CXT:=fun _ _ _ _ _ _=>False
abbrev E0:XK:=fun _ _ _=>False
theorem zOk {X:Cx}:zH4 CX0 X E0:=fun _ _ _ _ _ _ _ h=>h.elim
structure Fun (K:W.Frag)(x qual:Str)(st:Stmt)(f:Addr)(fd:FuncData):Prop where
  ex:∃ (oc:Value) (od:Option Addr) (kV doc pm:Value) (an:Option Addr) (cdv ct:Value) (osl:Array (Option Value)),
    fd=W.fnOf x qual (zCP st) (zAB st) (zAA st) .none kV doc pm an cdv ct/\K.lookup f=some ⟨oc,od,.func fd,osl⟩/\W.codeIn K cdv qual=true
  kp:W.keepIn K (.ref f)=true
section
variable {P:Program}{w:World}{K:W.Frag}{mg:Str->Option Value}{base:Heap}
theorem Fun.ok {x qual:Str}{st:Stmt}{f:Addr}{fd:FuncData}{N ps:List Str}{k:Nat}{sp:Sp}(F:Fun K x qual st f fd)(S:zAD N ps (zAA st))(len:∀ vs H Q E,sp vs H Q E->vs.length=ps.length)
    (hbody:∀ (cdv:Value) (A:Around) (outer:List Env) (s:Shared) (H:Hp) (vs:List V) (Q:VK) (E:XK),Room k (A.deeper (envOfC qual (zAA st) s.heap.objs.size f cdv))->sp vs H Q E ->
      ∃ t,PSs (cxOf CX0 P w K mg base N qual (zAA st) f cdv A outer s H E).nox (zAB st) t/\t { nx:=fun _ H'=>Q .non H',rt:=Q } (zBv N vs) H):FnOk P w K mg base CX0 (k+1) f fd ps sp:=by
  obtain ⟨oc,od,kV,doc,pm,an,cdv,ct,osl,rfl,lk,hcd⟩:=F.ex;refine zTp lk hcd S len fun A outer s H vs Q E hr hsp=>?_
  obtain ⟨t,h,q⟩:=hbody cdv A outer s H vs Q E hr hsp;exact ⟨t,h.nox,q⟩
theorem Fun.binds {x qual:Str}{st:Stmt}{f:Addr}{fd:FuncData}{ps:List Str}(F:Fun K x qual st f fd)
    (h:∀ (kV doc pm:Value) (an:Option Addr) (cdv ct:Value) (us:List Value),us.length=ps.length->bindArgs (W.fnOf x qual (zCP st) (zAB st) (zAA st) .none kV doc pm an cdv ct) ⟨us,[]⟩=pure (ps.zip us)):zCC K fd ps []:=by
  obtain ⟨oc,od,kV,doc,pm,an,cdv,ct,osl,rfl,lk,hcd⟩:=F.ex;exact .all (h kV doc pm an cdv ct)
theorem zNv {x qual:Str}{st:Stmt}{f:Addr}{oc:Value}{od an:Option Addr}{osl:Array (Option Value)}{kV doc pm cdv ct:Value}(l:K.lookup f=some ⟨oc,od,.func (W.fnOf x qual (zCP st) (zAB st) (zAA st) .none kV doc pm an cdv ct),osl⟩)
    (c:W.codeIn K cdv qual=true) (k:W.keepIn K (.ref f)=true):Fun K x qual st f (W.fnOf x qual (zCP st) (zAB st) (zAA st) .none kV doc pm an cdv ct):=⟨⟨oc,od,kV,doc,pm,an,cdv,ct,osl,rfl,l,c⟩,k⟩
end
theorem zIw {n:Nat}(h:n<=1000):n < sizeLine:=Nat.lt_of_le_of_lt h (by decide)
theorem iteF {A B:Prop}(h:B):if false=true then A else B:=by
  rw [if_neg Bool.false_ne_true];exact h
theorem iteT {A B:Prop}(h:A):if true=true then A else B:=by
  rw [if_pos rfl];exact h
def Same (H H':Hp):Prop:=∀ b o,H b=some o->H' b=some o
theorem Same.refl (H:Hp):Same H H:=fun _ _ h=>h
theorem Same.trans {H H1 H2:Hp}(a:Same H H1)(b:Same H1 H2):Same H H2:=fun c o h=>b c o (a c o h)
theorem Same.free {H H':Hp}(e:Same H H'){l:Addr}(h:H' l=Option.none):H l=Option.none:=by
  cases q:H l with
  | none=>rfl
  | some o =>
    rw [e l o q] at h;cases h
theorem Same.seq {K:W.Frag}{H H':Hp}{a:Addr}{xs:List V}(e:Same H H')(h:SqL K H a xs):SqL K H' a xs:=by
  rcases h with (h | ⟨o,h⟩) | h
  . exact .inl (.inl (e _ _ h))
  . exact .inl (.inr ⟨o,e _ _ h⟩)
  . exact .inr h
end L2
end
section
namespace DL
open PySem Spec PyProof.Rows L2
abbrev St:=L2.St
abbrev anyU:HO:=.ext fun _=>True
structure LamI where
  qual:Str
  params:Arguments
  body:Expr
  scope:Scope
def frN (L:LamI):List Str:=((L.scope.names.filter fun p=>p.2==.free).map (·.1)).reverse
def zBH (H:Hp):List (Str×Addr)->List V->Prop:=Paired fun p v=>∃ o u,H p.2=some (.frz o anyU)/\o.data=.cell (some u)/\RelV v u
def zFU (H:Hp)(L:LamI)(f:Addr)(vs:List V):Prop:=∃ cl pm c ctv oc u1,H f=some (.frz (W.kla_obj "<lambda>" L.qual L.params L.body L.scope cl pm c ctv) anyU)/\H c=some (.frz oc u1)/\zLG oc L.qual/\cl.map (·.1)=frN L/\(cl.map (·.2)).Nodup/\zBH H cl vs
theorem zBH.mono {H H':Hp}(e:Same H H'){cl:List (Str×Addr)}{vs:List V}(h:zBH H cl vs):zBH H' cl vs:=Paired.mapP h fun _ _ zy115=>by obtain ⟨o,u,h1,h2⟩:=zy115;exact ⟨o,u,e _ _ h1,h2⟩
theorem zFU.mono {H H':Hp}(e:Same H H'){L:LamI}{f:Addr}{vs:List V}(h:zFU H L f vs):zFU H' L f vs:=by
  obtain ⟨cl,pm,c,ctv,oc,u1,h1,h2,h3,h4,h5,h6⟩:=h;exact ⟨cl,pm,c,ctv,oc,u1,e _ _ h1,e _ _ h2,h3,h4,h5,h6.mono e⟩
inductive D where
  | non | bl (b:Bool) | int (i:Int) | str (x:Str) | tup (l:List D) | lst (l:List D) | exc (c:Str) | dct (ks:List (Int×Int)) | lam (j:Nat) (L:LamI) (l:List D)
noncomputable instance:Inhabited D:=⟨.non⟩
def zQV (K:W.Frag)(c:Str)(C:Addr):Prop:=W.nsIn K mainGlobals c=some (some (.ref C))
def pk (p:Int×Int):List Key:=[Sum.inl p.1,Sum.inl p.2]
mutual
def Den (K:W.Frag)(H:Hp):D->V->Prop
  | .non,v=>v=.non
  | .bl b,v=>v=.bl b
  | .int i,v=>v=.int i
  | .str x,v=>v=.str x
  | .tup ds,v=>∃ a vs,v=.ref a/\SqT K H a vs/\DenL K H ds vs
  | .lst ds,v=>∃ a vs,v=.ref a/\SqL K H a vs/\DenL K H ds vs
  | .exc c,v=>∃ a o u C,v=.ref a/\H a=some (.frz o u)/\o.cls=.ref C/\(∃ vs,o.data=.fields vs)/\zQV K c C
  | .dct ks,v=>∃ a kvs,v=.ref a/\H a=some (.dT kvs)/\kvs.map (·.1)=ks.map pk
  | .lam _ L ds,v=>∃ a vs,v=.ref a/\zFU H L a vs/\DenL K H ds vs
def DenL (K:W.Frag)(H:Hp):List D->List V->Prop
  | [],vs=>vs=[]
  | d::ds,vs=>∃ v ws,vs=v::ws/\Den K H d v/\DenL K H ds ws
end
theorem Same.tupS {K:W.Frag}{H H':Hp}{a:Addr}{xs:List V}(e:Same H H')(h:SqT K H a xs):SqT K H' a xs:=by
  rcases h with (h | ⟨o,h⟩) | h
  . exact .inl (.inl (e _ _ h))
  . exact .inl (.inr ⟨o,e _ _ h⟩)
  . exact .inr h
section
variable {K:W.Frag}{H H':Hp}
mutual
theorem Den.mono (e:Same H H'):∀ {d:D} {v:V},Den K H d v->Den K H' d v
  | .non,_,h=>by rw [Den] at h ⊢;exact h
  | .bl _,_,h=>by rw [Den] at h ⊢;exact h
  | .int _,_,h=>by rw [Den] at h ⊢;exact h
  | .str _,_,h=>by rw [Den] at h ⊢;exact h
  | .tup ds,_,h=>by
    rw [Den] at h ⊢;obtain ⟨a,vs,h1,h2,h3⟩:=h;exact ⟨a,vs,h1,Same.tupS e h2,DenL.mono e h3⟩
  | .lst ds,_,h=>by
    rw [Den] at h ⊢;obtain ⟨a,vs,h1,h2,h3⟩:=h;exact ⟨a,vs,h1,e.seq h2,DenL.mono e h3⟩
  | .exc c,_,h=>by
    rw [Den] at h ⊢;obtain ⟨a,o,u,C,h1,h2,h3⟩:=h;exact ⟨a,o,u,C,h1,e _ _ h2,h3⟩
  | .dct ks,_,h=>by
    rw [Den] at h ⊢;obtain ⟨a,kvs,h1,h2,h3⟩:=h;exact ⟨a,kvs,h1,e _ _ h2,h3⟩
  | .lam _ L ds,_,h=>by
    rw [Den] at h ⊢;obtain ⟨a,vs,h1,h2,h3⟩:=h;exact ⟨a,vs,h1,h2.mono e,DenL.mono e h3⟩
theorem DenL.mono (e:Same H H'):∀ {ds:List D} {vs:List V},DenL K H ds vs->DenL K H' ds vs
  | [],_,h=>by rw [DenL] at h ⊢;exact h
  | d::ds,_,h=>by
    rw [DenL] at h ⊢;obtain ⟨v,ws,h1,h2,h3⟩:=h;exact ⟨v,ws,h1,Den.mono e h2,DenL.mono e h3⟩
end
theorem DenL.nil:DenL K H [] []:=by rw [DenL]
theorem DenL.cons {d:D}{ds:List D}{v:V}{vs:List V}(h:Den K H d v)(t:DenL K H ds vs):DenL K H (d::ds) (v::vs):=by
  rw [DenL];exact ⟨v,vs,rfl,h,t⟩
theorem DenL.length:∀ {ds:List D} {vs:List V},DenL K H ds vs->ds.length=vs.length
  | [],_,h=>by rw [DenL] at h;rw [h];rfl
  | _::ds,_,h=>by
    rw [DenL] at h;obtain ⟨v,ws,h1,h2,h3⟩:=h;rw [h1,length_cons,length_cons,DenL.length h3]
theorem DenL.get:∀ {ds:List D} {vs:List V} {i:Nat} {d:D},DenL K H ds vs->ds[i]?=some d->∃ v,vs[i]?=some v/\Den K H d v
  | [],_,_,_,_,e=>by simp at e
  | x::ds,_,i,d,h,e=>by
    rw [DenL] at h;obtain ⟨v,ws,h1,h2,h3⟩:=h;subst h1;cases i with
    | zero=>simp at e;subst e;exact ⟨v,by simp,h2⟩
    | succ i =>
      obtain ⟨u,q1,q2⟩:=DenL.get (i:=i) (d:=d) h3 (by simpa using e);exact ⟨u,by simpa using q1,q2⟩
theorem DenL.of_get:∀ {ds:List D} {vs:List V},ds.length=vs.length->(∀ (i:Nat) d v,ds[i]?=some d->vs[i]?=some v->Den K H d v)->DenL K H ds vs
  | [],[],_,_=>.nil
  | [],_::_,e,_=>by simp at e
  | _::_,[],e,_=>by simp at e
  | d::ds,v::vs,e,h=>.cons (h 0 d v (by simp) (by simp)) (DenL.of_get (by simpa using e) fun i d' v' q1 q2=>h (i+1) d' v' (by simpa using q1) (by simpa using q2))
theorem DenL.append:∀ {ds es:List D} {vs ws:List V},DenL K H ds vs->DenL K H es ws->DenL K H (ds++es) (vs++ws)
  | [],_,_,_,h,t=>by rw [DenL] at h;subst h;exact t
  | _::ds,_,_,_,h,t=>by
    rw [DenL] at h;obtain ⟨v,ws,h1,h2,h3⟩:=h;subst h1;exact .cons h2 (DenL.append h3 t)
theorem DenL.take:∀ {ds:List D} {vs:List V} (n:Nat),DenL K H ds vs->DenL K H (ds.take n) (vs.take n)
  | _,_,0,_=>by rw [take_zero,take_zero];exact .nil
  | [],_,n+1,h=>by rw [DenL] at h;subst h;exact .nil
  | _::ds,_,n+1,h=>by
    rw [DenL] at h;obtain ⟨v,ws,h1,h2,h3⟩:=h;subst h1;rw [List.take_succ_cons,List.take_succ_cons];exact .cons h2 (DenL.take n h3)
theorem DenL.drop:∀ {ds:List D} {vs:List V} (n:Nat),DenL K H ds vs->DenL K H (ds.drop n) (vs.drop n)
  | _,_,0,h=>h
  | [],_,n+1,h=>by rw [DenL] at h;subst h;exact .nil
  | _::ds,_,n+1,h=>by
    rw [DenL] at h;obtain ⟨v,ws,h1,h2,h3⟩:=h;subst h1;rw [List.drop_succ_cons,List.drop_succ_cons];exact DenL.drop n h3
theorem DenL.set {d:D}{v:V}(hd:Den K H d v):∀ {ds:List D} {vs:List V} (n:Nat),DenL K H ds vs->DenL K H (ds.set n d) (vs.set n v)
  | [],_,n,h=>by rw [DenL] at h;subst h;exact .nil
  | _::ds,_,n,h=>by
    rw [DenL] at h;obtain ⟨u,ws,h1,h2,h3⟩:=h;subst h1;cases n with
    | zero=>exact .cons hd h3
    | succ n=>exact .cons h2 (DenL.set hd n h3)
theorem DenL.ints:∀ ns:List Int,DenL K H (ns.map D.int) (ns.map V.int)
  | []=>.nil
  | n::ns=>.cons (by rw [Den]) (DenL.ints ns)
end
def hide (H:Hp)(S:List Addr):Hp:=fun b=>if b∈S then none else H b
section
variable {H H':Hp}{S:List Addr}{a b:Addr}{o:HO}
theorem zB1 (h:b∈S):hide H S b=none:=if_pos h
theorem zAM (h:b∉S):hide H S b=H b:=if_neg h
theorem zAq (h:hide H S b=some o):b∉S/\H b=some o:=by
  unfold hide at h;by_cases q:b∈S
  . rw [if_pos q] at h;cases h
  . rw [if_neg q] at h;exact ⟨q,h⟩
theorem zAd:Same (hide H S) H:=fun _ _ h=>(zAq h).2
theorem zAP (e:Same H H'):Same (hide H S) (hide H' S):=fun b o h=>by
  obtain ⟨h1,h2⟩:=zAq h;rw [zAM h1];exact e _ _ h2
theorem zBo {T:List Addr}(h:∀ b∈S,b∈T):Same (hide H T) (hide H S):=fun b o q=>by
  obtain ⟨h1,h2⟩:=zAq q;rw [zAM fun z=>h1 (h b z)];exact h2
theorem zDh (e:Same H H')(n:H a=none):Same (hide H S) (hide H' (a::S)):=fun b o q=>by
  obtain ⟨h1,h2⟩:=zAq q;have ne:b≠a:=zAh h2 n;rw [zAM fun z=>(mem_cons.mp z).elim ne h1];exact e _ _ h2
theorem zBB:hide H []=H:=by
  funext b;exact zAM (by simp)
theorem zE8 (h:a∈S):hide (upd H a o) S=hide H S:=by
  funext b;by_cases q:b∈S
  . rw [zB1 q,zB1 q]
  . rw [zAM q,zAM q,zAO fun z=>q (by rw [z];exact h)]
theorem zAj {p:Addr}(h:H p=none)(o:HO):Same H (upd H p o):=fun b u q=>by rw [zAO (zAh q h)];exact q
end
inductive Kd where
  | cl | fr | dt
  deriving DecidableEq
abbrev R:=D×Kd
abbrev Dst:=List (Option (D×Bool))
def RV (K:W.Frag)(H H':Hp)(S:List Addr):R->V->Prop
  | (d,.cl),v=>Den K (hide H' S) d v
  | (d,.fr),v=>∃ a vs ds,v=.ref a/\d=.lst ds/\a∉S/\H a=none/\H' a=some (.lst vs)/\DenL K (hide H' (a::S)) ds vs
  | (d,.dt),v=>∃ a vs ds,v=.ref a/\d=.lst ds/\SqL K H' a vs/\DenL K (hide H' S) ds vs
def Rdv (K:W.Frag)(H:Hp)(S:List Addr)(d:D)(v:V):Prop :=
  Den K (hide H S) d v\/∃ a vs ds,v=.ref a/\d=.lst ds/\SqL K H a vs/\DenL K (hide H S) ds vs
section
variable {K:W.Frag}{H H1 H':Hp}{S:List Addr}{d:D}{v:V}{r:R}
theorem RV.clean (h:RV K H H' S (d,.fr) v):Den K (hide H' S) d v:=by
  obtain ⟨a,vs,ds,rfl,rfl,na,_,ha,t⟩:=h;rw [Den];exact ⟨a,vs,rfl,SqL.of (by rw [zAM na];exact ha),t.mono (zBo fun b z=>mem_cons_of_mem _ z)⟩
theorem RV.den {k:Kd}(h:RV K H H' S (d,k) v)(hk:k≠.dt):Den K (hide H' S) d v:=by
  cases k with
  | cl=>exact h
  | fr=>exact h.clean
  | dt=>exact absurd rfl hk
theorem RV.rd (h:RV K H H' S r v):Rdv K H' S r.1 v:=by
  obtain ⟨d,k⟩:=r;cases k with
  | cl=>exact .inl h
  | fr=>exact .inl h.clean
  | dt=>exact .inr h
theorem RV.from (e:Same H H1)(h:RV K H1 H' S r v):RV K H H' S r v:=by
  obtain ⟨d,k⟩:=r;cases k with
  | cl=>exact h
  | fr =>
    obtain ⟨a,vs,ds,e1,e2,e3,e4,e5⟩:=h;exact ⟨a,vs,ds,e1,e2,e3,e.free e4,e5⟩
  | dt=>exact h
theorem Rdv.mono (e:Same H H')(h:Rdv K H S d v):Rdv K H' S d v:=by
  rcases h with h | ⟨a,vs,ds,h1,h2,h3,h4⟩
  . exact .inl (h.mono (zAP e))
  . exact .inr ⟨a,vs,ds,h1,h2,e.seq h3,h4.mono (zAP e)⟩
theorem Rdv.int {i:Int}(h:Rdv K H S (.int i) v):v=.int i:=by
  rcases h with h | ⟨a,vs,ds,h1,h2,_⟩
  . rw [Den] at h;exact h
  . cases h2
theorem Rdv.bl {b:Bool}(h:Rdv K H S (.bl b) v):v=.bl b:=by
  rcases h with h | ⟨a,vs,ds,h1,h2,_⟩
  . rw [Den] at h;exact h
  . cases h2
theorem Rdv.str {x:Str}(h:Rdv K H S (.str x) v):v=.str x:=by
  rcases h with h | ⟨a,vs,ds,h1,h2,_⟩
  . rw [Den] at h;exact h
  . cases h2
theorem Rdv.lst {ds:List D}(h:Rdv K H S (.lst ds) v):∃ a vs,v=.ref a/\SqL K H a vs/\DenL K (hide H S) ds vs:=by
  rcases h with h | ⟨a,vs,ds',h1,h2,h3,h4⟩
  . rw [Den] at h;obtain ⟨a,vs,h1,h2,h3⟩:=h;exact ⟨a,vs,h1,zAd.seq h2,h3⟩
  . cases h2;exact ⟨a,vs,h1,h3,h4⟩
theorem Rdv.tup {ds:List D}(h:Rdv K H S (.tup ds) v):∃ a vs,v=.ref a/\SqT K H a vs/\DenL K (hide H S) ds vs:=by
  rcases h with h | ⟨a,vs,ds',h1,h2,h3,h4⟩
  . rw [Den] at h;obtain ⟨a,vs,h1,h2,h3⟩:=h;exact ⟨a,vs,h1,Same.tupS zAd h2,h3⟩
  . cases h2
theorem Rdv.dct {ks:List (Int×Int)}(h:Rdv K H S (.dct ks) v):∃ a kvs,v=.ref a/\H a=some (.dT kvs)/\kvs.map (·.1)=ks.map pk:=by
  rcases h with h | ⟨a,vs,ds',h1,h2,h3,h4⟩
  . rw [Den] at h;obtain ⟨a,kvs,h1,h2,h3⟩:=h;exact ⟨a,kvs,h1,zAd _ _ h2,h3⟩
  . cases h2
theorem RV.int (i:Int):RV K H H' S (.int i,.cl) (.int i):=by show Den _ _ _ _;rw [Den]
theorem RV.bl (b:Bool):RV K H H' S (.bl b,.cl) (.bl b):=by show Den _ _ _ _;rw [Den]
end
def MuB:HO->Prop
  | .lst _=>True
  | .dT _=>True
  | _=>False
def OwnO (K:W.Frag)(H:Hp):D->HO->Prop
  | .lst ds,o=>∃ vs,o=.lst vs/\DenL K H ds vs
  | .dct ks,o=>∃ kvs,o=.dT kvs/\kvs.map (·.1)=ks.map pk
  | _,_=>False
theorem OwnO.mono {K:W.Frag}{H H':Hp}{d:D}{o:HO}(e:Same H H')(h:OwnO K H d o):OwnO K H' d o:=by
  cases d with
  | lst ds=>obtain ⟨vs,h1,h2⟩:=h;exact ⟨vs,h1,h2.mono e⟩
  | dct ks=>exact h
  | non=>exact h
  | bl _=>exact h
  | int _=>exact h
  | str _=>exact h
  | tup _=>exact h
  | exc _=>exact h
  | lam _ _ _=>exact h
theorem OwnO.mu {K:W.Frag}{H:Hp}{d:D}{o:HO}(h:OwnO K H d o):MuB o:=by
  cases d with
  | lst ds=>obtain ⟨vs,rfl,_⟩:=h;exact True.intro
  | dct ks=>obtain ⟨kvs,rfl,_⟩:=h;exact True.intro
  | non=>cases h
  | bl _=>cases h
  | int _=>cases h
  | str _=>cases h
  | tup _=>cases h
  | exc _=>cases h
  | lam _ _ _=>cases h
theorem OwnO.den {K:W.Frag}{H:Hp}{d:D}{o:HO}{a:Addr}(h:OwnO K H d o)(e:H a=some o):Den K H d (.ref a):=by
  cases d with
  | lst ds=>obtain ⟨vs,rfl,h2⟩:=h;rw [Den];exact ⟨a,vs,rfl,SqL.of e,h2⟩
  | dct ks=>obtain ⟨kvs,rfl,h2⟩:=h;rw [Den];exact ⟨a,kvs,rfl,e,h2⟩
  | non=>cases h
  | bl _=>cases h
  | int _=>cases h
  | str _=>cases h
  | tup _=>cases h
  | exc _=>cases h
  | lam _ _ _=>cases h
def SV (K:W.Frag)(H:Hp)(S:List Addr)(d:D)(o:Bool)(v:V):Prop :=
  if o=true then ∃ a u,v=.ref a/\a∈S/\H a=some u/\OwnO K (hide H S) d u else Den K (hide H S) d v
structure DS (K:W.Frag)(H:Hp)(S:List Addr)(σ:St)(δ:Dst):Prop where
  len:σ.length=δ.length
  sok:∀ a∈S,∃ xs:HO,H a=some xs/\MuB xs
  get:∀ (i:Nat) d o,δ[i]?=some (some (d,o))->∃ v,σ[i]?=some (some v)/\SV K H S d o v
  inj:∀ (i j:Nat) d e a,δ[i]?=some (some (d,true))->δ[j]?=some (some (e,true))->σ[i]?=some (some (.ref a))->σ[j]?=some (some (.ref a))->i=j
section
variable {K:W.Frag}{H H1 H':Hp}{S:List Addr}{σ:St}{δ:Dst}{d:D}{v:V}{i:Nat}
theorem SV.own {o:Bool}(h:SV K H S d o v)(ho:o=true):∃ a u,v=.ref a/\a∈S/\H a=some u/\OwnO K (hide H S) d u:=by
  unfold SV at h;rw [if_pos ho] at h;exact h
theorem SV.ownL {o:Bool}{ds:List D}(h:SV K H S (.lst ds) o v)(ho:o=true):∃ a vs es,v=.ref a/\D.lst ds=.lst es/\a∈S/\H a=some (.lst vs)/\DenL K (hide H S) es vs:=by
  obtain ⟨a,u,h1,h2,h3,vs,rfl,h5⟩:=h.own ho;exact ⟨a,vs,ds,h1,rfl,h2,h3,h5⟩
theorem SV.den {o:Bool}(h:SV K H S d o v)(ho:o=false):Den K (hide H S) d v:=by
  unfold SV at h;rw [if_neg (by rw [ho];decide)] at h;exact h
theorem SV.of_den (h:Den K (hide H S) d v):SV K H S d false v:=by
  unfold SV;rw [if_neg (by decide)];exact h
theorem SV.of_own {a:Addr}{u:HO}(h1:a∈S)(h2:H a=some u)(h3:OwnO K (hide H S) d u):SV K H S d true (.ref a):=by
  unfold SV;rw [if_pos rfl];exact ⟨a,u,rfl,h1,h2,h3⟩
theorem SV.mono {o:Bool}(e:Same H H')(h:SV K H S d o v):SV K H' S d o v:=by
  cases o with
  | true =>
    obtain ⟨a,u,rfl,h1,h2,h3⟩:=h.own rfl;exact .of_own h1 (e _ _ h2) (h3.mono (zAP e))
  | false=>exact .of_den ((h.den rfl).mono (zAP e))
theorem DS.mono (h:DS K H S σ δ)(e:Same H H'):DS K H' S σ δ :=
  ⟨h.len,fun a z=>let ⟨xs,q,mu⟩:=h.sok a z;⟨xs,e _ _ q,mu⟩,fun i d o z=>let ⟨v,q1,q2⟩:=h.get i d o z;⟨v,q1,q2.mono e⟩,h.inj⟩
theorem zA3 {α:Type}{l:List α}{i:Nat}{x:α}(h:i < l.length):(l.set i x)[i]?=some x:=by simp [h]
theorem zAm {α:Type}{l:List α}{i j:Nat}{x:α}(h:i≠j):(l.set i x)[j]?=l[j]?:=by rw [getElem?_set_ne h]
theorem zAU {α:Type}{l:List α}{i j:Nat}{x y:α}(h:(l.set i x)[j]?=some y):(i=j/\y=x/\i < l.length)\/(i≠j/\l[j]?=some y):=by
  by_cases e:i=j
  . subst e;by_cases q:i < l.length
    . rw [zA3 q] at h;exact .inl ⟨rfl,(Option.some.inj h).symm,q⟩
    . rw [List.set_eq_of_length_le (by omega)] at h;exact absurd (zzg h).1 q
  . rw [zAm e] at h;exact .inr ⟨e,h⟩
theorem DS.set (h:DS K H S σ δ)(hd:Den K (hide H S) d v):DS K H S (σ.set i (some v)) (δ.set i (some (d,false))):=by
  refine ⟨by rw [length_set,length_set];exact h.len,h.sok,fun j e o q=>?_,fun j k e f a q1 q2 q3 q4=>?_⟩
  . rcases zAU q with ⟨rfl,z,hl⟩ | ⟨ne,z⟩
    . cases z;exact ⟨v,zA3 (by rw [h.len];exact hl),.of_den hd⟩
    . obtain ⟨u,q1,q2⟩:=h.get j e o z;exact ⟨u,by rw [zAm ne];exact q1,q2⟩
  . rcases zAU q1 with ⟨_,z,_⟩ | ⟨ne1,z1⟩
    . cases z
    . rcases zAU q2 with ⟨_,z,_⟩ | ⟨ne2,z2⟩
      . cases z
      . rw [zAm ne1] at q3;rw [zAm ne2] at q4;exact h.inj j k e f a z1 z2 q3 q4
theorem DS.setG (h:DS K H S σ δ)(e:Same H H'){a:Addr}{u:HO}{d:D}(n:H a=none)(ha:H' a=some u)(t:OwnO K (hide H' (a::S)) d u) :
    DS K H' (a::S) (σ.set i (some (.ref a))) (δ.set i (some (d,true))):=by
  refine ⟨by rw [length_set,length_set];exact h.len,fun b z=>?_,fun j e' o q=>?_,fun j k e' f b q1 q2 q3 q4=>?_⟩
  . rcases mem_cons.mp z with rfl | z
    . exact ⟨_,ha,t.mu⟩
    . obtain ⟨xs,q,mu⟩:=h.sok b z;exact ⟨xs,e _ _ q,mu⟩
  . rcases zAU q with ⟨rfl,z,hl⟩ | ⟨ne,z⟩
    . cases z;exact ⟨.ref a,zA3 (by rw [h.len];exact hl),.of_own mem_cons_self ha t⟩
    . obtain ⟨u,q1,q2⟩:=h.get j e' o z;refine ⟨u,by rw [zAm ne];exact q1,?_⟩;cases o with
      | true =>
        obtain ⟨b,w,rfl,w1,w2,w3⟩:=q2.own rfl;exact .of_own (mem_cons_of_mem _ w1) (e _ _ w2) (w3.mono (zDh e n))
      | false=>exact .of_den ((q2.den rfl).mono (zDh e n))
  . have old:∀ {j:Nat} {x:D},i≠j->δ[j]?=some (some (x,true))->σ[j]?=some (some (.ref a))->False:=fun {j x} ne z q=>by
      obtain ⟨u,q1,q2⟩:=h.get j x true z;obtain ⟨b,w,rfl,w1,w2,_⟩:=q2.own rfl;rw [q] at q1;cases q1;rw [n] at w2;cases w2
    rcases zAU q1 with ⟨e1,z1,l1⟩ | ⟨ne1,z1⟩
    . rcases zAU q2 with ⟨e2,z2,l2⟩ | ⟨ne2,z2⟩
      . exact e1.symm.trans e2
      . rw [<- e1,zA3 (by rw [h.len];exact l1)] at q3;cases q3;rw [zAm ne2] at q4;exact (old ne2 z2 q4).elim
    . rcases zAU q2 with ⟨e2,z2,l2⟩ | ⟨ne2,z2⟩
      . rw [<- e2,zA3 (by rw [h.len];exact l2)] at q4;cases q4;rw [zAm ne1] at q3;exact (old ne1 z1 q3).elim
      . rw [zAm ne1] at q3;rw [zAm ne2] at q4;exact h.inj j k e' f b z1 z2 q3 q4
theorem DS.setF (h:DS K H S σ δ)(e:Same H H'){a:Addr}{vs:List V}{ds:List D}(n:H a=none)(ha:H' a=some (.lst vs))(t:DenL K (hide H' (a::S)) ds vs) :
    DS K H' (a::S) (σ.set i (some (.ref a))) (δ.set i (some (.lst ds,true))):=h.setG e n ha ⟨vs,rfl,t⟩
theorem DS.changeG (h:DS K H S σ δ){a:Addr}{u:HO}{d e0:D}(hi:δ[i]?=some (some (d,true)))(hv:σ[i]?=some (some (.ref a)))(t:OwnO K (hide H S) e0 u) :
    DS K (upd H a u) S σ (δ.set i (some (e0,true))):=by
  obtain ⟨w,q1,q2⟩:=h.get i _ true hi;obtain ⟨b,ws,e1,aS,w2,_⟩:=q2.own rfl;subst e1;rw [hv] at q1;cases q1;have hh:hide (upd H a u) S=hide H S:=zE8 aS;refine ⟨by rw [length_set];exact h.len,fun b z=>?_,fun j e' o q=>?_,fun j k e' f b q1 q2 q3 q4=>?_⟩
  . by_cases q:b=a
    . subst q;exact ⟨_,zAe,t.mu⟩
    . rw [zAO q];exact h.sok b z
  . rcases zAU q with ⟨rfl,z,hl⟩ | ⟨ne,z⟩
    . cases z;exact ⟨.ref a,hv,.of_own aS zAe (by rw [hh];exact t)⟩
    . obtain ⟨w,q1,q2⟩:=h.get j e' o z;refine ⟨w,q1,?_⟩;cases o with
      | true =>
        obtain ⟨b,ws',rfl,w1,w2',w3⟩:=q2.own rfl;have nb:b≠a:=fun z2=>by subst z2;exact ne (h.inj i j _ _ b hi z hv q1)
        exact .of_own w1 (by rw [zAO nb];exact w2') (by rw [hh];exact w3)
      | false=>exact .of_den (by rw [hh];exact q2.den rfl)
  . have back:∀ {j:Nat} {x:D},(δ.set i (some (e0,true)))[j]?=some (some (x,true))->∃ y,δ[j]?=some (some (y,true)):=fun {j x} z=>by
      rcases zAU z with ⟨e1,_,_⟩ | ⟨_,z⟩
      . rw [<- e1];exact ⟨_,hi⟩
      . exact ⟨_,z⟩
    obtain ⟨y1,z1⟩:=back q1;obtain ⟨y2,z2⟩:=back q2;exact h.inj j k y1 y2 b z1 z2 q3 q4
theorem DS.change (h:DS K H S σ δ){a:Addr}{vs:List V}{ds es:List D}(hi:δ[i]?=some (some (.lst ds,true)))(hv:σ[i]?=some (some (.ref a)))(t:DenL K (hide H S) es vs) :
    DS K (upd H a (.lst vs)) S σ (δ.set i (some (.lst es,true))):=h.changeG hi hv ⟨vs,rfl,t⟩
theorem DS.freeze (h:DS K H S σ δ)(hi:δ[i]?=some (some (d,true))):∃ S',(∀ b∈S',b∈S)/\DS K H S' σ (δ.set i (some (d,false))):=by
  obtain ⟨u,q1,q2⟩:=h.get i _ true hi;obtain ⟨a,w,rfl,aS,w2,w3⟩:=q2.own rfl;have sub:∀ b∈S.filter (fun b=>decide (b≠a)),b∈S:=fun b z=>(mem_filter.mp z).1
  have na:a∉S.filter (fun b=>decide (b≠a)):=fun z=>by simpa using (mem_filter.mp z).2
  refine ⟨S.filter (fun b=>decide (b≠a)),sub,?_⟩;have hs:Same (hide H S) (hide H (S.filter fun b=>decide (b≠a))):=zBo sub;refine ⟨by rw [length_set];exact h.len,fun b z=>h.sok b (sub b z),fun j e' o q=>?_,fun j k e' f b z1 z2 q3 q4=>?_⟩
  . rcases zAU q with ⟨rfl,z,hl⟩ | ⟨ne,z⟩
    . cases z;exact ⟨.ref a,q1,.of_den ((w3.mono hs).den (by rw [zAM na];exact w2))⟩
    . obtain ⟨u,p1,p2⟩:=h.get j e' o z;refine ⟨u,p1,?_⟩;cases o with
      | true =>
        obtain ⟨b,ws',rfl,w1,w2',w3'⟩:=p2.own rfl;have nb:b≠a:=fun z2=>by subst z2;exact ne (h.inj i j _ _ b hi z q1 p1)
        exact .of_own (mem_filter.mpr ⟨w1,by simpa using nb⟩) w2' (w3'.mono hs)
      | false=>exact .of_den ((p2.den rfl).mono hs)
  . rcases zAU z1 with ⟨_,z,_⟩ | ⟨_,z1⟩
    . cases z
    . rcases zAU z2 with ⟨_,z,_⟩ | ⟨_,z2⟩
      . cases z
      . exact h.inj j k e' f b z1 z2 q3 q4
end
def gT (K:W.Frag)(f:Dst->Option R):TE:=fun σ H Q=>∃ S δ r,DS K H S σ δ/\f δ=some r/\∀ v H',Same H H'->RV K H H' S r v->Q v H'
def gB (K:W.Frag)(f:Dst->Option Bool):TT:=fun σ H Q=>∃ S δ b,DS K H S σ δ/\f δ=some b/\∀ H',Same H H'->Q b H'
def gA (K:W.Frag)(f:Dst->Option (List D)):TA:=fun σ H Q=>∃ S δ ds,DS K H S σ δ/\f δ=some ds/\∀ vs H',Same H H'->DenL K (hide H' S) ds vs->Q vs H'
def GE (X:Cx)(e:Expr)(f:Dst->Option R):Prop:=PE X e (gT X.K f)
def GT (X:Cx)(e:Expr)(f:Dst->Option Bool):Prop:=PT X e (gB X.K f)
def GA (X:Cx)(es:List Expr)(f:Dst->Option (List D)):Prop:=PA X es (gA X.K f)
theorem _root_.L2.PE.imp {X:Cx}{e:Expr}{t t':TE}(h:PE X e t)(i:∀ σ H Q,t' σ H Q->t σ H Q):PE X e t':=fun pins s σ H Q I q=>h pins s σ H Q I (i σ H Q q)
theorem _root_.L2.PT.imp {X:Cx}{e:Expr}{t t':TT}(h:PT X e t)(i:∀ σ H Q,t' σ H Q->t σ H Q):PT X e t':=fun pins s σ H Q I q=>h pins s σ H Q I (i σ H Q q)
theorem _root_.L2.PA.imp {X:Cx}{e:List Expr}{t t':TA}(h:PA X e t)(i:∀ σ H Q,t' σ H Q->t σ H Q):PA X e t':=fun pos pins s σ H Q I q=>h pos pins s σ H Q I (i σ H Q q)
theorem bind_some {α β:Type}{o:Option α}{f:α->Option β}{b:β}(h:(o.bind f)=some b):∃ a,o=some a/\f a=some b:=by
  cases o with
  | none=>cases h
  | some a=>exact ⟨a,rfl,h⟩
section
variable {X:Cx}
def OpD (K:W.Frag)(r:R2)(o:D->D->Option R):Prop :=
  ∀ (S:List Addr) (H:Hp) (x y:D) (z:R) (vx vy:V) (Q:VK),(∀ a∈S,∃ xs:HO,H a=some xs/\MuB xs)->o x y=some z->Rdv K H S x vx->Rdv K H S y vy->(∀ v H',Same H H'->RV K H H' S z v->Q v H')->r vx vy H Q
def two (f g:Dst->Option R)(o:D->D->Option R):Dst->Option R:=fun δ=>(f δ).bind fun x=>(g δ).bind fun y=>o x.1 y.1
theorem zHa {r:R2}{o:D->D->Option R}{f g:Dst->Option R}(h:OpD X.K r o){σ:St}{H:Hp}{Q:VK}(q:gT X.K (two f g o) σ H Q):tOp r (gT X.K f) (gT X.K g) σ H Q:=by
  obtain ⟨S,δ,z,ds,e,c⟩:=q;obtain ⟨x,ex,e⟩:=bind_some e;obtain ⟨y,ey,e⟩:=bind_some e;refine ⟨S,δ,x,ds,ex,fun vx H1 s1 r1=>⟨S,δ,y,ds.mono s1,ey,fun vy H2 s2 r2=>?_⟩⟩;exact h S H2 x.1 y.1 z vx vy Q (ds.mono (s1.trans s2)).sok e (r1.rd.mono s2) r2.rd fun v H' s3 r3=>c v H' (s1.trans (s2.trans s3)) (r3.from (s1.trans s2))
theorem zIV {op:Operator}{r:R2}{o:D->D->Option R}{a b:Expr}{f g:Dst->Option R}{pos:Pos}(ho:OpR X (binaryOp op) r)(h:OpD X.K r o)(ha:GE X a f)(hb:GE X b g):GE X (.BinOp a op b pos) (two f g o) :=
  (zTG ho ha hb).imp fun _ _ _ q=>zHa h q
theorem zSE {op:CmpOp}{r:R2}{o:D->D->Option R}{a b:Expr}{f g:Dst->Option R}{pos:Pos}(ho:OpR X (compareOp op) r)(h:OpD X.K r o)(hm:behindInMarks op b=false)(ha:GE X a f)(hb:GE X b g):GE X (.Compare a [op] [b] pos) (two f g o) :=
  (zOh ho ha hb hm).imp fun _ _ _ q=>zHa h q
def asB (f:Dst->Option R):Dst->Option Bool:=fun δ=>match f δ with
  | some (.bl b,_)=>some b
  | _=>none
theorem zB6 {f:Dst->Option R}{δ:Dst}{b:Bool}(h:asB f δ=some b):∃ k,f δ=some (.bl b,k):=by
  unfold asB at h;split at h
  . rename_i k e;cases h;exact ⟨_,e⟩
  . cases h
theorem zGq {f:Dst->Option R}{σ:St}{H:Hp}{Q:Bool->Hp->Prop}(q:gB X.K (asB f) σ H Q):gT X.K f σ H fun x H'=>∃ k,x=.bl k/\Q k H':=by
  obtain ⟨S,δ,b,ds,e,c⟩:=q;obtain ⟨k,e⟩:=zB6 e;refine ⟨S,δ,_,ds,e,fun v H' s1 r1=>⟨b,r1.rd.bl,c H' s1⟩⟩
theorem zRs {op:CmpOp}{r:R2}{o:D->D->Option R}{a b:Expr}{f g:Dst->Option R}{pos:Pos}(ho:OpR X (compareOp op) r)(h:OpD X.K r o)(hm:behindInMarks op b=false)(ha:GE X a f)(hb:GE X b g):GT X (.Compare a [op] [b] pos) (asB (two f g o)) :=
  (zOb ho ha hb hm).imp fun _ _ _ q=>zHa h (zGq q)
theorem zRp {e:Expr}{f:Dst->Option R}(h:GE X e f)(he:∀ whole,isTrue e X.env whole=(do let v<-whole;standAt e.pos;holding [v] (truthy v))):GT X e (asB f) :=
  (zNU h he).imp fun _ _ _ q=>zGq q
def lstB:D->Bool
  | .lst _=>true
  | _=>false
def varD (i:Nat):Dst->Option R:=fun δ=>match δ[i]? with
  | some (some (d,o))=>if o=true then (if lstB d=true then some (d,.dt) else none) else some (d,.cl)
  | _=>none
theorem zR5 {i:Nat}{x:Str}{pos:Pos}(hN:X.N[i]?=some x)(hv:Vis X.env.scope x)(hd:(x==("__debug__":Str))=false)(hcd:(x==("__classdict__":Str))=false) :
    GE X (.Name x pos) (varD i):=by
  refine (zDo hN hv hd hcd).imp fun σ H Q q=>?_
  obtain ⟨S,δ,z,ds,e,c⟩:=q;unfold varD at e;split at e
  . rename_i d o q;obtain ⟨v,q1,q2⟩:=ds.get i d o q;cases o with
    | false =>
      cases e;exact ⟨v,q1,c v H (Same.refl _) (q2.den rfl)⟩
    | true =>
      rw [if_pos rfl] at e;cases d with
      | lst xs =>
        cases e;refine ⟨v,q1,c v H (Same.refl _) ?_⟩;obtain ⟨a,vs,es,rfl,e2,_,w2,w3⟩:=q2.ownL rfl;exact ⟨a,vs,es,rfl,e2,SqL.of w2,w3⟩
      | _=>cases e
  . cases e
theorem zDi {e:Expr}{v:V}{d:D}(h:PE X e (tC v))(hd:∀ K H,Den K H d v):GE X e (fun _=>some (d,.cl)) :=
  h.imp fun σ H Q zz31=>by
    obtain ⟨S,δ,z,ds,e,c⟩:=zz31;cases e;exact c v H (Same.refl _) (hd _ _)
theorem ge_int {i:Int}{j pos}:GE X (.Constant (.int i) j pos) (fun _=>some (.int i,.cl)):=zDi zQ8 fun _ _=>by rw [Den]
theorem zTm {b:Bool}{j pos}:GE X (.Constant (.bool b) j pos) (fun _=>some (.bl b,.cl)):=zDi zTH fun _ _=>by rw [Den]
theorem zR9 {j pos}:GE X (.Constant .none j pos) (fun _=>some (.non,.cl)):=zDi zQ6 fun _ _=>by rw [Den]
theorem zR7 {x:Str}{j pos}:GE X (.Constant (.str x) j pos) (fun _=>some (.str x,.cl)):=zDi zQ3 fun _ _=>by rw [Den]
theorem zPf {x:Str}{v:V}{u:Value}{d:D}{pos:Pos}(hg:Gl X x)(hm:X.mg x=some u)(r:RelV v u)(hd:Den X.K (fun _=>none) d v)(hdb:(x==("__debug__":Str))=false):GE X (.Name x pos) (fun _=>some (d,.cl)) :=
  (zOg hg hm r hdb).imp fun σ H Q zz32=>by
    obtain ⟨S,δ,z,ds,e,c⟩:=zz32;cases e;exact c v H (Same.refl _) (hd.mono fun b o q=>by cases q)
theorem zGg {C:Int->Int->Prop}{g:Int->Int->Int}{o:D->D->Option R}(h:∀ x y z,o x y=some z->∃ i j,x=.int i/\y=.int j/\C i j/\z=(.int (g i j),.cl)):OpD X.K (rI C fun i j=>.int (g i j)) o:=by
  intro S H x y z vx vy Q _ e rx ry c;obtain ⟨i,j,rfl,rfl,hc,rfl⟩:=h x y z e;exact ⟨i,j,rx.int,ry.int,hc,c _ H (Same.refl _) (.int _)⟩
theorem zLq {g:Int->Int->Int}{o:D->D->Option R}(h:∀ x y z,o x y=some z->∃ i j,x=.int i/\y=.int j/\z=(.int (g i j),.cl)):OpD X.K (rI0 fun i j=>.int (g i j)) o:=by
  intro S H x y z vx vy Q _ e rx ry c;obtain ⟨i,j,rfl,rfl,rfl⟩:=h x y z e;exact ⟨i,j,rx.int,ry.int,c _ H (Same.refl _) (.int _)⟩
theorem zBC {g:Int->Int->Bool}{o:D->D->Option R}(h:∀ x y z,o x y=some z->∃ i j,x=.int i/\y=.int j/\z=(.bl (g i j),.cl)):OpD X.K (rI0 fun i j=>.bl (g i j)) o:=by
  intro S H x y z vx vy Q _ e rx ry c;obtain ⟨i,j,rfl,rfl,rfl⟩:=h x y z e;exact ⟨i,j,rx.int,ry.int,c _ H (Same.refl _) (.bl _)⟩
theorem zOs:OpR X (binaryOp .Mult) (rI IntMulOk fun i j=>.int (i*j)):=opI fun _ _ _ _ _ _ _ hc q=>mul_int q hc
def zIi (_ j:Int):Prop:=j≠0
theorem zJx {pins:List (Addr×Obj)}{s:Shared}{σ:St}{H:Hp}(I:Inv X pins σ H s):PylongRoom (model X.prog X.w) X.A s:=by
  obtain ⟨h1,h2,e,l,h3,h4,h5,h6,h7⟩:=I.ok.pyl;exact PylongRoom.of I.nolimit h1 (SeerAt.of (I.mod.seer.keeps I.bk) h2 (by rw [I.ok.frames,h3]) h4 h5 h6 h7)
theorem zLr:OpR X (binaryOp .FloorDiv) (rI zIi fun i j=>.int (i.fdiv j)):=by
  intro pins s σ H x y v u Q I rx ry h;obtain ⟨i,j,rfl,rfl,hc,q⟩:=h;obtain ⟨t,rfl⟩:=rx;obtain ⟨t',rfl⟩:=ry;exact floordiv_int hc ⟨.int (i.fdiv j),H,I.tok _,⟨_,rfl⟩,q⟩ (.inr (zJx I))
theorem zFy (l:Addr)(items:Array Value)(n:Nat)(dd:Option Addr)(sl:Array (Option Value))(b:Addr)(items2:Array Value)(n2:Nat)(dd2:Option Addr)(sl2:Array (Option Value))(hc0:items.size+items2.size<=sizeLine) :
    Meets (Builtin.«list.__add__» ⟨[.ref l,.ref b],[]⟩) (fun _ R s=>s.heap.get? l=some { cls:=.type "list",dict:=dd,data:=.seq items n,slots:=sl }/\s.heap.get? b=some { cls:=.type "list",dict:=dd2,data:=.seq items2 n2,slots:=sl2 }/\R (.ok (.ret (Value.ref s.heap.objs.size))) { s with heap:=s.heap.push { cls:=Value.type "list",data:=Data.seq (items++items2) },toks:=s.toks }) :=
  .of_wp fun prog w A R s h=>by obtain ⟨hp,g,d,tk,os⟩:=s;obtain ⟨hl,hb,h⟩:=h;have f1:=AutoSeq1.idx_int;have f2:=AutoSeq1.sub_tuple_tuple;have f3:=AutoSeq1.sub_list_list;have f4:=AutoSeq1.sub_tuple_list;have f5:=AutoSeq1.sub_list_tuple;wp_walk using AutoSeq1.wpAny_loadPart' hl,AutoSeq1.wpAny_loadPart' hb;exact ⟨_,rfl,h⟩
end
mutual
def toPy:D->PyData
  | .non=>.none
  | .bl b=>.bool b
  | .int i=>.int i
  | .str x=>.str x
  | .tup ds=>.tuple (toPyL ds)
  | .lst ds=>.list (toPyL ds)
  | .exc _=>.str ⟨#[1114112]⟩
  | .dct _=>.str ⟨#[1114112]⟩
  | .lam _ _ _=>.str ⟨#[1114112]⟩
def toPyL:List D->List PyData
  | []=>[]
  | d::ds=>toPy d::toPyL ds
end
theorem Rdv.whole {K:W.Frag}{H:Hp}{S:List Addr}{d:D}{v:V}(h:Rdv K H S d v):Den K H d v:=by
  rcases h with h | ⟨a,vs,ds,rfl,rfl,h1,h2⟩
  . exact h.mono zAd
  . rw [Den];exact ⟨a,vs,rfl,h1,h2.mono zAd⟩
section
variable {X:Cx}{pins:List (Addr×Obj)}{σ:St}{H:Hp}{s:Shared}
mutual
theorem zC1 (I:Inv X pins σ H s):∀ {d:D} {v:V} {u:Value},Den X.K H d v->RelV v u->(toPy d).canLay0=true->∃ as,Reads s.heap u (toPy d) as
  | .non,_,_,h,r,_=>by rw [Den] at h;subst h;cases r;rw [toPy];exact ⟨_,.none⟩
  | .bl b,_,_,h,r,_=>by rw [Den] at h;subst h;cases r;rw [toPy];exact ⟨_,.bool b⟩
  | .int i,_,_,h,r,_=>by rw [Den] at h;subst h;obtain ⟨t,rfl⟩:=r;rw [toPy];exact ⟨_,.int i t⟩
  | .str x,_,_,h,r,_=>by rw [Den] at h;subst h;obtain ⟨t,rfl⟩:=r;rw [toPy];exact ⟨_,.str x t⟩
  | .tup ds,_,_,h,r,cl=>by
    rw [toPy,PyData.canLay0] at cl;rw [Den] at h;obtain ⟨a,vs,rfl,h1,h2⟩:=h;cases r;obtain ⟨its,rv,⟨o,e1,e2,n,e3⟩,_⟩:=I.tuple h1;obtain ⟨as,q⟩:=readsL_of I h2 rv cl;rw [toPy];exact ⟨_,.tuple e1 e2 e3 q⟩
  | .exc c,_,_,h,r,cl=>by rw [toPy,PyData.canLay0] at cl;exact absurd cl (by decide +kernel)
  | .dct c,_,_,h,r,cl=>by rw [toPy,PyData.canLay0] at cl;exact absurd cl (by decide +kernel)
  | .lam _ _ _,_,_,h,r,cl=>by rw [toPy,PyData.canLay0] at cl;exact absurd cl (by decide +kernel)
  | .lst ds,_,_,h,r,cl=>by
    rw [toPy,PyData.canLay0] at cl;rw [Den] at h;obtain ⟨a,vs,rfl,h1,h2⟩:=h;cases r;obtain ⟨its,rv,⟨o,n,e1,e2,_,e3⟩,_⟩:=I.list h1;obtain ⟨as,q⟩:=readsL_of I h2 rv cl;rw [toPy];exact ⟨_,.list e1 e2 e3 q⟩
theorem readsL_of (I:Inv X pins σ H s):∀ {ds:List D} {vs:List V} {us:List Value},DenL X.K H ds vs->Vals vs us->PyData.canLayAll0 (toPyL ds)=true->∃ as,ReadsAll s.heap us (toPyL ds) as
  | [],_,_,h,r,_=>by rw [DenL] at h;subst h;cases r;rw [toPyL];exact ⟨_,.nil⟩
  | d::ds,_,_,h,r,cl=>by
    rw [toPyL,PyData.canLayAll0,and_eq_true] at cl;rw [DenL] at h;obtain ⟨v,ws,rfl,h1,h2⟩:=h;cases r with
    | cons r1 r2 =>
      obtain ⟨a1,q1⟩:=zC1 I h1 r1 cl.1;obtain ⟨a2,q2⟩:=readsL_of I h2 r2 cl.2;rw [toPyL];exact ⟨_,.cons q1 q2⟩
end
end
def EqOk (x y:D):Prop:=(toPy x).canLay0=true/\(toPy y).canLay0=true/\(toPy x).depth<=64
noncomputable instance (x y:D):Decidable (EqOk x y):=by unfold EqOk;exact inferInstance
def eqb (x y:D):Bool:=PyData.eqv (toPy x) (toPy y)
def rEqD (K:W.Frag)(f:Bool->Bool):R2:=fun vx vy H Q=>∃ x y,Den K H x vx/\Den K H y vy/\EqOk x y/\Q (.bl (f (eqb x y))) H
section
variable {X:Cx}
theorem zRO (hu:X.A.units+64 < cLine):OpR X (compareOp .Eq) (rEqD X.K id):=by
  intro pins s σ H x y v u Q I rx ry h;obtain ⟨d,e,hd,he,⟨o1,o2,o3⟩,q⟩:=h;obtain ⟨as,r1⟩:=zC1 I hd rx o1;obtain ⟨bs,r2⟩:=zC1 I he ry o2;exact SeqAt.rcAt_reads r1 r2 o1 o2 (by omega) X.prog X.w _ _ ⟨.bl (eqb d e),H,I,rfl,q⟩
theorem zRH (hu:X.A.units+64 < cLine):OpR X (compareOp .NotEq) (rEqD X.K (fun b=>!b)):=by
  intro pins s σ H x y v u Q I rx ry h;obtain ⟨d,e,hd,he,⟨o1,o2,o3⟩,q⟩:=h;obtain ⟨as,r1⟩:=zC1 I hd rx o1;obtain ⟨bs,r2⟩:=zC1 I he ry o2;exact SeqAt.rcNeAt_reads r1 r2 o1 o2 (by omega) X.prog X.w _ _ ⟨.bl (!eqb d e),H,I,rfl,q⟩
def eqD (f:Bool->Bool)(x y:D):Option R:=if EqOk x y then some (.bl (f (eqb x y)),.cl) else none
theorem zNa {f:Bool->Bool}:OpD X.K (rEqD X.K f) (eqD f):=by
  intro S H x y z vx vy Q _ e rx ry c;unfold eqD at e;by_cases ok:EqOk x y
  . rw [if_pos ok] at e;cases e;exact ⟨x,y,rx.whole,ry.whole,ok,c _ H (Same.refl _) (.bl _)⟩
  . rw [if_neg ok] at e;cases e
def nonB:D->Bool
  | .non=>true
  | _=>false
def isN (f:Bool->Bool)(x y:D):Option R:=match y with
  | .non=>some (.bl (f (nonB x)),.cl)
  | _=>none
theorem zKt {K:W.Frag}{H:Hp}{x:D}{v:V}(h:Den K H x v):decide (v=.non)=nonB x:=by
  cases x with
  | non=>rw [Den] at h;subst h;rfl
  | bl b=>rw [Den] at h;subst h;rfl
  | int i=>rw [Den] at h;subst h;rfl
  | str i=>rw [Den] at h;subst h;rfl
  | tup ds=>rw [Den] at h;obtain ⟨a,vs,rfl,_⟩:=h;rfl
  | lst ds=>rw [Den] at h;obtain ⟨a,vs,rfl,_⟩:=h;rfl
  | exc c=>rw [Den] at h;obtain ⟨a,o,u,C,rfl,_⟩:=h;rfl
  | dct c=>rw [Den] at h;obtain ⟨a,kvs,rfl,_⟩:=h;rfl
  | lam _ _ _=>rw [Den] at h;obtain ⟨a,vs,rfl,_⟩:=h;rfl
theorem zOn:OpD X.K (fun x y H Q=>y=.non/\Q (.bl (decide (x=.non))) H) (isN id):=by
  intro S H x y z vx vy Q _ e rx ry c;cases y with
  | non =>
    have e':some (D.bl (nonB x),Kd.cl)=some z:=e;cases e';have q:=ry.whole;rw [Den] at q;exact ⟨q,by rw [zKt rx.whole];exact c _ H (Same.refl _) (.bl _)⟩
  | _=>cases e
theorem zLp:OpD X.K (fun x y H Q=>y=.non/\Q (.bl (!decide (x=.non))) H) (isN (fun b=>!b)):=by
  intro S H x y z vx vy Q _ e rx ry c;cases y with
  | non =>
    have e':some (D.bl (!(nonB x)),Kd.cl)=some z:=e;cases e';have q:=ry.whole;rw [Den] at q;exact ⟨q,by rw [zKt rx.whole];exact c _ H (Same.refl _) (.bl _)⟩
  | _=>cases e
theorem DenL.atI {K:W.Frag}{H:Hp}{ds:List D}{vs:List V}{i:Int}{d:D}(h:DenL K H ds vs)(e:atI ds i=some d):∃ v,L2.atI vs i=some v/\Den K H d v:=by
  unfold L2.atI at e ⊢;obtain ⟨j,e1,e2⟩:=bind_some e;obtain ⟨v,q1,q2⟩:=h.get e2;refine ⟨v,?_,q2⟩;rw [<- h.length,e1];exact q1
def ixD (x y:D):Option R:=match x,y with
  | .lst ds,.int i=>(atI ds i).map fun d=>(d,.cl)
  | .tup ds,.int i=>(atI ds i).map fun d=>(d,.cl)
  | _,_=>none
theorem zRD:OpD X.K (fun x y H Q=>rIxL X.K x y H Q\/rIxT X.K x y H Q) ixD:=by
  intro S H x y z vx vy Q _ e rx ry c;unfold ixD at e;split at e
  . rename_i ds i;obtain ⟨d,e1,rfl⟩:=map_eq_some_iff.mp e;obtain ⟨a,vs,rfl,h1,h2⟩:=rx.lst;obtain ⟨v,q1,q2⟩:=h2.atI e1;exact .inl ⟨a,vs,i,v,rfl,ry.int,h1,q1,c v H (Same.refl _) q2⟩
  . rename_i ds i;obtain ⟨d,e1,rfl⟩:=map_eq_some_iff.mp e;obtain ⟨a,vs,rfl,h1,h2⟩:=rx.tup;obtain ⟨v,q1,q2⟩:=h2.atI e1;exact .inr ⟨a,vs,i,v,rfl,ry.int,h1,q1,c v H (Same.refl _) q2⟩
  . cases e
theorem zTj {a b:Expr}{f g:Dst->Option R}{pos:Pos}(ha:GE X a f)(hb:GE X b g)(hs:zFS b):GE X (.Subscript a b pos) (two f g ixD) :=
  (zQ7 (zJ2.or zNl) ha hb hs).imp fun _ _ _ q=>zHa zRD q
theorem zSJ:GA X [] (fun _=>some []):=zA9.imp fun σ H Q zz33=>by
  obtain ⟨S,δ,z,ds,e,c⟩:=zz33;cases e;exact c [] H (Same.refl _) .nil
def zMr (f:Dst->Option R)(g:Dst->Option (List D)):Dst->Option (List D):=fun δ=>(f δ).bind fun x=>if x.2=.dt then none else (g δ).bind fun xs=>some (x.1::xs)
theorem zPp {e:Expr}{es:List Expr}{f:Dst->Option R}{g:Dst->Option (List D)}(ha:GE X e f)(hr:GA X es g)(hs:starEach (e::es) X.env=(false,eval e X.env)::starEach es X.env):GA X (e::es) (zMr f g):=by
  refine (zAa ha hr hs).imp fun σ H Q zz34=>?_
  obtain ⟨S,δ,z,ds,e,c⟩:=zz34;obtain ⟨x,ex,e⟩:=bind_some e;by_cases hx:x.2=.dt
  . rw [if_pos hx] at e;cases e
  rw [if_neg hx] at e;obtain ⟨xs,exs,e⟩:=bind_some e;cases e;refine ⟨S,δ,x,ds,ex,fun v H1 s1 r1=>⟨S,δ,xs,ds.mono s1,exs,fun vs H2 s2 r2=>?_⟩⟩;exact c _ H2 (s1.trans s2) (.cons ((RV.den (d:=x.1) (k:=x.2) r1 hx).mono (zAP s2)) r2)
def tupD (g:Dst->Option (List D)):Dst->Option R:=fun δ=>(g δ).bind fun xs=>if xs.length<=10000 then some (.tup xs,.cl) else none
def lstD (g:Dst->Option (List D)):Dst->Option R:=fun δ=>(g δ).bind fun xs=>if xs.length<=10000 then some (.lst xs,.fr) else none
theorem zCe {n:Nat}(h:n<=10000):n<=sizeLine:=le_trans h (by decide)
theorem notS {H:Hp}{S:List Addr}{p:Addr}(h:∀ a∈S,∃ xs:HO,H a=some xs/\MuB xs)(n:H p=none):p∉S:=fun z=>by
  obtain ⟨xs,q,_⟩:=h p z;rw [n] at q;cases q
theorem RV.tupNew {K:W.Frag}{H H1:Hp}{S:List Addr}{ds:List D}{vs:List V}{p:Addr}(hS:∀ a∈S,∃ xs:HO,H1 a=some xs/\MuB xs)(n:H1 p=none)(t:DenL K (hide H1 S) ds vs):RV K H (upd H1 p (.tup vs)) S (.tup ds,.cl) (.ref p):=by
  show Den _ _ _ _;rw [Den];exact ⟨p,vs,rfl,SqT.of (by rw [zAM (notS hS n)];exact zAe),t.mono (zAP (zAj n _))⟩
theorem RV.lstNew {K:W.Frag}{H H1:Hp}{S:List Addr}{ds:List D}{vs:List V}{p:Addr}(e:Same H H1)(hS:∀ a∈S,∃ xs:HO,H1 a=some xs/\MuB xs)(n:H1 p=none)(t:DenL K (hide H1 S) ds vs):RV K H (upd H1 p (.lst vs)) S (.lst ds,.fr) (.ref p) :=
  ⟨p,vs,ds,rfl,rfl,notS hS n,e.free n,zAe,t.mono (zDh (zAj n _) n)⟩
theorem zR6 {es:List Expr}{g:Dst->Option (List D)}{x1}{pos:Pos}(h:GA X es g):GE X (.Tuple es x1 pos) (tupD g):=by
  refine (zQ2 h).imp fun σ H Q zz35=>?_
  obtain ⟨S,δ,z,ds,e,c⟩:=zz35;obtain ⟨xs,exs,e⟩:=bind_some e;by_cases hx:xs.length<=10000
  . rw [if_pos hx] at e;cases e;refine ⟨S,δ,xs,ds,exs,fun vs H1 s1 r1=>⟨by rw [<- r1.length];exact zCe hx,fun p n=>?_⟩⟩;exact c _ _ (s1.trans (zAj n _)) (.tupNew (ds.mono s1).sok n r1)
  . rw [if_neg hx] at e;cases e
theorem zSB {es:List Expr}{g:Dst->Option (List D)}{pos:Pos}(h:GA X es g):GE X (.List es pos) (lstD g):=by
  refine (zNZ h).imp fun σ H Q zz36=>?_
  obtain ⟨S,δ,z,ds,e,c⟩:=zz36;obtain ⟨xs,exs,e⟩:=bind_some e;by_cases hx:xs.length<=10000
  . rw [if_pos hx] at e;cases e;refine ⟨S,δ,xs,ds,exs,fun vs H1 s1 r1=>⟨by rw [<- r1.length];exact zCe hx,fun p n=>?_⟩⟩;exact c _ _ (s1.trans (zAj n _)) (.lstNew s1 (ds.mono s1).sok n r1)
  . rw [if_neg hx] at e;cases e
end
section
variable {X:Cx}
def notD (f:Dst->Option R):Dst->Option R:=fun δ=>(asB f δ).bind fun b=>some (.bl (!b),.cl)
theorem zGr {f:Dst->Option R}{σ:St}{H:Hp}{S:List Addr}{δ:Dst}{b:Bool}{Q:VK}(ds:DS X.K H S σ δ)(e:asB f δ=some b)(c:∀ H',Same H H'->Q (.bl b) H'):gT X.K f σ H Q:=by
  obtain ⟨k,e⟩:=zB6 e;exact ⟨S,δ,_,ds,e,fun v H' s1 r1=>by rw [r1.rd.bl];exact c H' s1⟩
theorem zR8 {a:Expr}{f:Dst->Option R}{pos:Pos}(h:GE X a f):GE X (.UnaryOp .Not a pos) (notD f):=by
  refine (zQ5 h).imp fun σ H Q zz37=>?_
  obtain ⟨S,δ,z,ds,e,c⟩:=zz37;obtain ⟨b,eb,e⟩:=bind_some e;cases e;exact zGr ds eb fun H' s1=>⟨b,rfl,c _ H' s1 (.bl _)⟩
theorem zQN {f:Dst->Option R}{δ:Dst}{b:Bool}(h:asB (notD f) δ=some b):asB f δ=some (!b):=by
  obtain ⟨k,e⟩:=zB6 h;obtain ⟨c,ec,e⟩:=bind_some e;cases e;rw [ec,Bool.not_not]
theorem zRq {a:Expr}{f:Dst->Option R}{pos:Pos}(h:GT X a (asB f)):GT X (.UnaryOp .Not a pos) (asB (notD f)) :=
  (zQv h).imp fun σ H Q zy116=>by obtain ⟨S,δ,b,ds,e,c⟩:=zy116;exact ⟨S,δ,!b,ds,zQN e,fun H' s1=>by show Q (!!b) H';rw [Bool.not_not];exact c H' s1⟩
def andD (f g:Dst->Option R):Dst->Option R:=fun δ=>(asB f δ).bind fun b=>if b=true then g δ else some (.bl false,.cl)
def orD (f g:Dst->Option R):Dst->Option R:=fun δ=>(asB f δ).bind fun b=>if b=true then some (.bl true,.cl) else g δ
theorem zSH {a b:Expr}{rest:List Expr}{f g:Dst->Option R}{pos:Pos}(ha:GE X a f)(hb:GE X (.BoolOp .And (b::rest) pos) g):GE X (.BoolOp .And (a::b::rest) pos) (andD f g):=by
  refine (zQ9 ha hb).imp fun σ H Q zz38=>?_
  obtain ⟨S,δ,z,ds,e,c⟩:=zz38;obtain ⟨b,eb,e⟩:=bind_some e;refine zGr ds eb fun H1 s1=>⟨b,rfl,?_⟩
  cases b with
  | true =>
    rw [if_pos rfl] at e ⊢;exact ⟨S,δ,z,ds.mono s1,e,fun v H' s2 r2=>c v H' (s1.trans s2) (r2.from s1)⟩
  | false =>
    rw [if_neg Bool.false_ne_true] at e ⊢;cases e;exact c _ H1 s1 (.bl _)
theorem zTi {a b:Expr}{rest:List Expr}{f g:Dst->Option R}{pos:Pos}(ha:GE X a f)(hb:GE X (.BoolOp .Or (b::rest) pos) g):GE X (.BoolOp .Or (a::b::rest) pos) (orD f g):=by
  refine (zTF ha hb).imp fun σ H Q zz39=>?_
  obtain ⟨S,δ,z,ds,e,c⟩:=zz39;obtain ⟨b,eb,e⟩:=bind_some e;refine zGr ds eb fun H1 s1=>⟨b,rfl,?_⟩
  cases b with
  | true =>
    rw [if_pos rfl] at e ⊢;cases e;exact c _ H1 s1 (.bl _)
  | false =>
    rw [if_neg Bool.false_ne_true] at e ⊢;exact ⟨S,δ,z,ds.mono s1,e,fun v H' s2 r2=>c v H' (s1.trans s2) (r2.from s1)⟩
theorem zNr {op}{a:Expr}{f:Dst->Option R}{pos:Pos}(h:GE X a f):GE X (.BoolOp op [a] pos) f:=zQ4 h
def GW (X:Cx)(e:Expr)(f:Dst->Option Bool):Prop:=PW X e (gB X.K f)
theorem _root_.L2.PW.imp {e:Expr}{t t':TT}(h:PW X e t)(i:∀ σ H Q,t' σ H Q->t σ H Q):PW X e t':=fun whole pins s σ H Q I q=>h whole pins s σ H Q I (i σ H Q q)
theorem zIT {a:Expr}{f:Dst->Option Bool}{pos:Pos}(h:GT X a f):GW X (.BoolOp .And [a] pos) f:=zI9 h
theorem zKC {a:Expr}{f:Dst->Option Bool}{pos:Pos}(h:GT X a f):GW X (.BoolOp .Or [a] pos) f:=zNS h
theorem zQO {f g:Dst->Option R}{δ:Dst}{b:Bool}(h:asB (andD f g) δ=some b):(asB f δ=some true/\asB g δ=some b)\/(asB f δ=some false/\b=false):=by
  obtain ⟨k,e⟩:=zB6 h;obtain ⟨c,ec,e⟩:=bind_some e;cases c with
  | true =>
    rw [if_pos rfl] at e;exact .inl ⟨ec,by unfold asB;rw [e]⟩
  | false =>
    rw [if_neg Bool.false_ne_true] at e;cases e;exact .inr ⟨ec,rfl⟩
theorem zSs {f g:Dst->Option R}{δ:Dst}{b:Bool}(h:asB (orD f g) δ=some b):(asB f δ=some false/\asB g δ=some b)\/(asB f δ=some true/\b=true):=by
  obtain ⟨k,e⟩:=zB6 h;obtain ⟨c,ec,e⟩:=bind_some e;cases c with
  | true =>
    rw [if_pos rfl] at e;cases e;exact .inr ⟨ec,rfl⟩
  | false =>
    rw [if_neg Bool.false_ne_true] at e;exact .inl ⟨ec,by unfold asB;rw [e]⟩
theorem zRo {a b:Expr}{rest:List Expr}{f g:Dst->Option R}{pos:Pos}(ha:GT X a (asB f))(hb:GW X (.BoolOp .And (b::rest) pos) (asB g)):GW X (.BoolOp .And (a::b::rest) pos) (asB (andD f g)):=by
  refine PW.imp (zNT ha hb) fun σ H Q zz40=>?_
  obtain ⟨S,δ,b,ds,e,c⟩:=zz40;rcases zQO e with ⟨e1,e2⟩ | ⟨e1,rfl⟩
  . refine ⟨S,δ,true,ds,e1,fun H1 s1=>?_⟩;refine iteT ?_;exact ⟨S,δ,b,ds.mono s1,e2,fun H' s2=>c H' (s1.trans s2)⟩
  . refine ⟨S,δ,false,ds,e1,fun H1 s1=>?_⟩;refine iteF ?_;exact c H1 s1
theorem zTd {a b:Expr}{rest:List Expr}{f g:Dst->Option R}{pos:Pos}(ha:GT X a (asB f))(hb:GW X (.BoolOp .Or (b::rest) pos) (asB g)):GW X (.BoolOp .Or (a::b::rest) pos) (asB (orD f g)):=by
  refine PW.imp (zQu ha hb) fun σ H Q zz41=>?_
  obtain ⟨S,δ,b,ds,e,c⟩:=zz41;rcases zSs e with ⟨e1,e2⟩ | ⟨e1,rfl⟩
  . refine ⟨S,δ,false,ds,e1,fun H1 s1=>?_⟩;refine iteF ?_;exact ⟨S,δ,b,ds.mono s1,e2,fun H' s2=>c H' (s1.trans s2)⟩
  . refine ⟨S,δ,true,ds,e1,fun H1 s1=>?_⟩;refine iteT ?_;exact c H1 s1
def iteD (c f g:Dst->Option R):Dst->Option R:=fun δ=>(asB c δ).bind fun b=>if b=true then f δ else g δ
theorem zSC {c a b:Expr}{k f g:Dst->Option R}{pos:Pos}(hc:GT X c (asB k))(ha:GE X a f)(hb:GE X b g):GE X (.IfExp c a b pos) (iteD k f g):=by
  refine (zLl hc ha hb).imp fun σ H Q zz42=>?_
  obtain ⟨S,δ,z,ds,e,c⟩:=zz42;obtain ⟨b,eb,e⟩:=bind_some e;refine ⟨S,δ,b,ds,eb,fun H1 s1=>?_⟩;cases b with
  | true =>
    rw [if_pos rfl] at e ⊢;exact ⟨S,δ,z,ds.mono s1,e,fun v H' s2 r2=>c v H' (s1.trans s2) (r2.from s1)⟩
  | false =>
    rw [if_neg Bool.false_ne_true] at e ⊢;exact ⟨S,δ,z,ds.mono s1,e,fun v H' s2 r2=>c v H' (s1.trans s2) (r2.from s1)⟩
theorem zRr {c a b:Expr}{k f g:Dst->Option R}{pos:Pos}(hc:GT X c (asB k))(ha:GT X a (asB f))(hb:GT X b (asB g)):GT X (.IfExp c a b pos) (asB (iteD k f g)):=by
  intro pins s σ H Q I ⟨S,δ,z,ds,e,cc⟩;obtain ⟨kk,e⟩:=zB6 e;obtain ⟨b,eb,e⟩:=bind_some e;refine isTrue_IfExp (thn (hc pins s σ H (fun b' H1=>b'=b/\Same H H1) I ⟨S,δ,b,ds,eb,fun H1 s1=>⟨rfl,s1⟩⟩) fun d s1 zz43=>?_);obtain ⟨H1,I1,q1,w1⟩:=zz43;subst q1;cases d with
  | true =>
    rw [if_pos rfl] at e;exact ha pins s1 σ H1 Q I1 ⟨S,δ,z,ds.mono w1,by unfold asB;rw [e],fun H' s2=>cc H' (w1.trans s2)⟩
  | false =>
    rw [if_neg Bool.false_ne_true] at e;exact hb pins s1 σ H1 Q I1 ⟨S,δ,z,ds.mono w1,by unfold asB;rw [e],fun H' s2=>cc H' (w1.trans s2)⟩
def negD (f:Dst->Option R):Dst->Option R:=fun δ=>match f δ with
  | some (.int i,_)=>some (.int (-i),.cl)
  | _=>none
theorem zSA {a:Expr}{f:Dst->Option R}{pos:Pos}(h:GE X a f):GE X (.UnaryOp .USub a pos) (negD f):=by
  refine (zTE zQY h).imp fun σ H Q zz44=>?_
  obtain ⟨S,δ,z,ds,e,c⟩:=zz44;unfold negD at e;split at e
  . rename_i i k ei;cases e;exact ⟨S,δ,_,ds,ei,fun v H' s1 r1=>⟨i,r1.rd.int,c _ H' s1 (.int _)⟩⟩
  . cases e
def cutD (ds:List D)(lo hi:Option Int):List D:=(ds.drop (HT.sIx ds.length 0 lo)).take (HT.sIx ds.length ds.length hi - HT.sIx ds.length 0 lo)
theorem DenL.cut {K:W.Frag}{H:Hp}{ds:List D}{vs:List V}(h:DenL K H ds vs)(lo hi:Option Int):DenL K H (cutD ds lo hi) (cutV vs lo hi):=by
  unfold cutD cutV;rw [<- h.length];exact (h.drop _).take _
def gO (K:W.Frag)(f:Dst->Option (Option Int)):TO:=fun σ H Q=>∃ S δ o,DS K H S σ δ/\f δ=some o/\∀ H',Same H H'->Q o H'
def GO (X:Cx)(e:Option Expr)(f:Dst->Option (Option Int)):Prop:=PO X e (gO X.K f)
theorem _root_.L2.PO.imp {e:Option Expr}{t t':TO}(h:PO X e t)(i:∀ σ H Q,t' σ H Q->t σ H Q):PO X e t':=fun pins s σ H Q I q=>h pins s σ H Q I (i σ H Q q)
theorem zPb:GO X none (fun _=>some none):=PO.imp zOe fun σ H Q zy117=>by obtain ⟨S,δ,o,ds,e,c⟩:=zy117;cases e;exact c H (Same.refl _)
def zJN (f:Dst->Option R):Dst->Option (Option Int):=fun δ=>match f δ with
  | some (.int i,_)=>some (some i)
  | _=>none
theorem zPa {e:Expr}{f:Dst->Option R}(h:GE X e f):GO X (some e) (zJN f):=PO.imp (zOd h) fun σ H Q zz45=>by
  obtain ⟨S,δ,o,ds,e,c⟩:=zz45;unfold zJN at e;split at e
  . rename_i i k ei;cases e;exact ⟨S,δ,_,ds,ei,fun v H' s1 r1=>⟨i,r1.rd.int,c H' s1⟩⟩
  . cases e
def slD (f:Dst->Option R)(l h:Dst->Option (Option Int)):Dst->Option R:=fun δ=>(f δ).bind fun x=>(l δ).bind fun lo=>(h δ).bind fun hi=>match x.1 with
  | .lst ds=>some (.lst (cutD ds lo hi),.fr)
  | .tup ds=>if HT.sIx ds.length 0 lo=0/\HT.sIx ds.length ds.length hi=ds.length then none else some (.tup (cutD ds lo hi),.cl)
  | _=>none
theorem zTh {a:Expr}{lo hi:Option Expr}{f:Dst->Option R}{l h:Dst->Option (Option Int)}{p2 pos:Pos}(ha:GE X a f)(hl:GO X lo l)(hh:GO X hi h):GE X (.Subscript a (.Slice lo hi none p2) pos) (slD f l h):=by
  refine (zLk (zOO.or zQm) ha hl hh).imp fun σ H Q zz46=>?_
  obtain ⟨S,δ,z,ds,e,c⟩:=zz46;obtain ⟨x,ex,e⟩:=bind_some e;obtain ⟨lo',el,e⟩:=bind_some e;obtain ⟨hi',eh,e⟩:=bind_some e;split at e
  . rename_i es ex2;cases e;refine ⟨S,δ,x,ds,ex,fun vx H1 s1 r1=>⟨S,δ,lo',ds.mono s1,el,fun H2 s2=>⟨S,δ,hi',ds.mono (s1.trans s2),eh,fun H3 s3=>?_⟩⟩⟩;have r3:=r1.rd.mono (s2.trans s3);rw [ex2] at r3;obtain ⟨a,vs,rfl,h1,h2⟩:=r3.lst;have s13:=s1.trans (s2.trans s3);exact .inl ⟨a,vs,rfl,h1,fun p n=>c _ _ (s13.trans (zAj n _)) (.lstNew s13 (ds.mono s13).sok n (h2.cut lo' hi'))⟩
  . rename_i es ex2;split at e
    . cases e
    . rename_i nw;cases e;refine ⟨S,δ,x,ds,ex,fun vx H1 s1 r1=>⟨S,δ,lo',ds.mono s1,el,fun H2 s2=>⟨S,δ,hi',ds.mono (s1.trans s2),eh,fun H3 s3=>?_⟩⟩⟩;have r3:=r1.rd.mono (s2.trans s3);rw [ex2] at r3;obtain ⟨a,vs,rfl,h1,h2⟩:=r3.tup;have s13:=s1.trans (s2.trans s3);exact .inr ⟨a,vs,rfl,h1,by rw [<- h2.length];exact nw,fun p n=>c _ _ (s13.trans (zAj n _)) (.tupNew (ds.mono s13).sok n (h2.cut lo' hi'))⟩
  . cases e
def OpD1 (K:W.Frag)(r:List V->Hp->VK->Prop)(o:D->Option R):Prop :=
  ∀ (S:List Addr) (H:Hp) (x:D) (z:R) (vx:V) (Q:VK),(∀ a∈S,∃ xs:HO,H a=some xs/\MuB xs)->o x=some z->Rdv K H S x vx->(∀ v H',Same H H'->RV K H H' S z v->Q v H')->r [vx] H Q
def one (f:Dst->Option R)(o:D->Option R):Dst->Option R:=fun δ=>(f δ).bind fun x=>o x.1
theorem zNb {r:List V->Hp->VK->Prop}{o:D->Option R}{f:Dst->Option R}(h:OpD1 X.K r o){σ:St}{H:Hp}{Q:VK}(q:gT X.K (one f o) σ H Q):tCB r (zQf (gT X.K f) tNil) σ H Q:=by
  obtain ⟨S,δ,z,ds,e,c⟩:=q;obtain ⟨x,ex,e⟩:=bind_some e;exact ⟨S,δ,x,ds,ex,fun vx H1 s1 r1=>h S H1 x.1 z vx Q (ds.mono s1).sok e r1.rd fun v H' s2 r2=>c v H' (s1.trans s2) (r2.from s1)⟩
theorem zSG {x:Str}{id:String}{p pos:Pos}{e:Expr}{f:Dst->Option R}{r:List V->Hp->VK->Prop}{o:D->Option R}(hc:zEO X (.builtin id) r)(h:OpD1 X.K r o)(hg:Gl X x)(hm:X.mg x=none)(hv:bootBuiltins x=some (.builtin id))(ha:GE X e f)
    (he:starEach [e] X.env=[(false,eval e X.env)]) (hn:x ≠ "__name__") (hdb:(x==("__debug__":Str))=false):GE X (.Call (.Name x p) [e] [] pos) (one f o) :=
  (zE0 hc hg hm hv (zAa ha zA9 he) hn hdb he rfl).imp fun _ _ _ q=>zNb h q
theorem zTg {x:Str}{T:String}{p pos:Pos}{e:Expr}{f:Dst->Option R}{r:List V->Hp->VK->Prop}{o:D->Option R}(hc:zEO X (.type T) r)(h:OpD1 X.K r o)(hg:Gl X x)(hm:X.mg x=none)(hv:bootBuiltins x=some (.type T))(ha:GE X e f)
    (he:starEach [e] X.env=[(false,eval e X.env)]) (hn:x ≠ "__name__") (hdb:(x==("__debug__":Str))=false):GE X (.Call (.Name x p) [e] [] pos) (one f o) :=
  (zJI hc hg hm hv (zAa ha zA9 he) hn hdb he rfl).imp fun _ _ _ q=>zNb h q
def lenD:D->Option R
  | .lst ds=>some (.int ds.length,.cl)
  | .tup ds=>some (.int ds.length,.cl)
  | _=>none
theorem zOm:OpD1 X.K (fun xs H Q=>∃ p ys,xs=[.ref p]/\(SqL X.K H p ys\/SqT X.K H p ys)/\Q (.int ys.length) H) lenD:=by
  intro S H x z vx Q _ e rx c;unfold lenD at e;split at e
  . cases e;obtain ⟨a,vs,rfl,h1,h2⟩:=rx.lst;exact ⟨a,vs,rfl,.inl h1,by rw [<- h2.length];exact c _ H (Same.refl _) (.int _)⟩
  . cases e;obtain ⟨a,vs,rfl,h1,h2⟩:=rx.tup;exact ⟨a,vs,rfl,.inr h1,by rw [<- h2.length];exact c _ H (Same.refl _) (.int _)⟩
  . cases e
def absD:D->Option R
  | .int i=>some (.int (if i < 0 then -i else i),.cl)
  | _=>none
theorem zOp:OpD1 X.K (fun xs H Q=>∃ i,xs=[.int i]/\Q (.int (if i < 0 then -i else i)) H) absD:=by
  intro S H x z vx Q _ e rx c;unfold absD at e;split at e
  . cases e;rename_i i;have:=rx.int;subst this;exact ⟨i,rfl,c _ H (Same.refl _) (.int _)⟩
  . cases e
def zIR:D->Option R
  | .lst ds=>some (.lst ds,.fr)
  | .tup ds=>some (.lst ds,.fr)
  | _=>none
theorem zLo:OpD1 X.K (fun xs H Q=>∃ p ys,xs=[.ref p]/\(SqL X.K H p ys\/SqT X.K H p ys)/\∀ l,H l=none->Q (.ref l) (upd H l (.lst ys))) zIR:=by
  intro S H x z vx Q sok e rx c;unfold zIR at e;split at e
  . cases e;obtain ⟨a,vs,rfl,h1,h2⟩:=rx.lst;exact ⟨a,vs,rfl,.inl h1,fun p n=>c _ _ (zAj n _) (.lstNew (Same.refl _) sok n h2)⟩
  . cases e;obtain ⟨a,vs,rfl,h1,h2⟩:=rx.tup;exact ⟨a,vs,rfl,.inr h1,fun p n=>c _ _ (zAj n _) (.lstNew (Same.refl _) sok n h2)⟩
  . cases e
theorem zTn {x:Str}{id:String}{p pos:Pos}{e1 e2:Expr}{f g:Dst->Option R}{k:Int->Int->Int}{o:D->D->Option R}(hc:zEO X (.builtin id) (fun xs H Q=>∃ i j,xs=[.int i,.int j]/\Q (.int (k i j)) H))
    (h:∀ x y z,o x y=some z->∃ i j,x=.int i/\y=.int j/\z=(.int (k i j),.cl)) (hg:Gl X x) (hm:X.mg x=none) (hv:bootBuiltins x=some (.builtin id)) (ha:GE X e1 f) (hb:GE X e2 g)
    (he:starEach [e1,e2] X.env=(false,eval e1 X.env)::starEach [e2] X.env) (he2:starEach [e2] X.env=[(false,eval e2 X.env)]) (hn:x ≠ "__name__") (hdb:(x==("__debug__":Str))=false):GE X (.Call (.Name x p) [e1,e2] [] pos) (two f g o):=by
  refine (zE0 hc hg hm hv (zAa ha (zAa hb zA9 he2) he) hn hdb he (by rw [he2];rfl)).imp fun σ H Q zz47=>?_
  obtain ⟨S,δ,z,ds,e,c⟩:=zz47;obtain ⟨x,ex,e⟩:=bind_some e;obtain ⟨y,ey,e⟩:=bind_some e;obtain ⟨i,j,hx,hy,rfl⟩:=h _ _ _ e;refine ⟨S,δ,x,ds,ex,fun vx H1 s1 r1=>⟨S,δ,y,ds.mono s1,ey,fun vy H2 s2 r2=>⟨i,j,?_,c _ H2 (s1.trans s2) (.int _)⟩⟩⟩;have q1:=r1.rd;have q2:=r2.rd;rw [hx] at q1;rw [hy] at q2;rw [q1.int,q2.int]
def maxD (x y:D):Option R:=match x,y with
  | .int i,.int j=>some (.int (if j>i then j else i),.cl)
  | _,_=>none
def minD (x y:D):Option R:=match x,y with
  | .int i,.int j=>some (.int (if j < i then j else i),.cl)
  | _,_=>none
inductive Ty where
  | int | bool | str | tuple | list
  deriving DecidableEq
def Ty.nm:Ty->String
  | .int => "int" | .bool => "bool" | .str => "str" | .tuple => "tuple" | .list => "list"
def isiD (t:Ty):D->Bool
  | .non=>false
  | .bl _=>t=.bool||t=.int
  | .int _=>t=.int
  | .str _=>t=.str
  | .tup _=>t=.tuple
  | .lst _=>t=.list
  | .exc _=>false
  | .dct _=>false
  | .lam _ _ _=>false
def excB:D->Bool
  | .exc _=>true
  | .dct _=>true
  | .lam _ _ _=>true
  | _=>false
def tyD:D->String
  | .non => "NoneType" | .bl _ => "bool" | .int _ => "int" | .str _ => "str" | .tup _ => "tuple" | .lst _ => "list" | .exc _ => "" | .dct _ => "" | .lam _ _ _ => ""
theorem zRe (K:W.Frag)(d:D)(t:Ty)(hd:excB d=false):W.kitOne K (.type (tyD d)) (.type t.nm)=some (isiD t d):=by
  cases d<;>cases t<;>(first | rfl | decide +kernel | cases hd)
theorem zMu (t:Ty):zEO X (.builtin "isinstance") (fun xs H Q=>∃ v d,xs=[v,.ty t.nm]/\Den X.K H d v/\excB d=false/\Q (.bl (isiD t d)) H):=by
  intro pins s σ H xs us Q I r h;obtain ⟨v,d,rfl,hd,hx,q⟩:=h;obtain ⟨u,w',rfl,r1,r2⟩:=zOE r;cases r2;have k:=zRe X.K d t hx;have fin:∀ tk,EP X pins σ Q (.bool (isiD t d)) { s with toks:=tk }:=fun tk=>⟨.bl (isiD t d),H,I.tok tk,rfl,q⟩
  cases d with
  | exc c=>cases hx
  | dct c=>cases hx
  | lam _ _ _=>cases hx
  | non=>rw [Den] at hd;subst hd;cases r1;exact W.kia_one W.kitx_none I.kIn True.intro k (fun z=>nomatch z) fin
  | bl b=>rw [Den] at hd;subst hd;cases r1;exact W.kia_one W.kitx_bool I.kIn True.intro k (fun z=>nomatch z) fin
  | int i=>rw [Den] at hd;subst hd;obtain ⟨tt,rfl⟩:=r1;exact W.kia_one W.kitx_int I.kIn True.intro k (fun z=>nomatch z) fin
  | str i=>rw [Den] at hd;subst hd;obtain ⟨tt,rfl⟩:=r1;exact W.kia_one W.kitx_str I.kIn True.intro k (fun z=>nomatch z) fin
  | tup ds =>
    rw [Den] at hd;obtain ⟨a,vs,rfl,h1,h2⟩:=hd;cases r1;obtain ⟨its,rv,⟨o,e1,e2,n,e3⟩,_⟩:=I.tuple h1;exact W.kia_one W.kitx_tuple I.kIn ⟨o,e1,e2⟩ k (fun z=>nomatch z) fin
  | lst ds =>
    rw [Den] at hd;obtain ⟨a,vs,rfl,h1,h2⟩:=hd;cases r1;obtain ⟨its,rv,⟨o,n,e1,e2,_,e3⟩,_⟩:=I.list h1;exact W.kia_one W.kitx_list I.kIn ⟨o,e1,e2⟩ k (fun z=>nomatch z) fin
def isiF (t:Ty)(x:D):Option R:=if excB x=true then none else some (.bl (isiD t x),.cl)
theorem zQM (t:Ty):bootBuiltins (Str.ofString t.nm)=some (.type t.nm):=by cases t<;>decide +kernel
theorem zRS (t:Ty):(Str.ofString t.nm)≠("__name__":Str)/\((Str.ofString t.nm)==("__debug__":Str))=false:=by cases t<;>decide +kernel
theorem zSD {t:Ty}{p p2 pos:Pos}{e:Expr}{f:Dst->Option R}(hg:Gl X "isinstance")(hm:X.mg "isinstance"=none)(hg2:Gl X (Str.ofString t.nm))(hm2:X.mg (Str.ofString t.nm)=none)(ha:GE X e f)
    (he:starEach [e,.Name (Str.ofString t.nm) p2] X.env=(false,eval e X.env)::starEach [.Name (Str.ofString t.nm) p2] X.env):GE X (.Call (.Name "isinstance" p) [e,.Name (Str.ofString t.nm) p2] [] pos) (one f (isiF t)):=by
  refine (zE0 (zMu t) hg hm boot_isinstance (zAa ha (zAa (zOj hg2 hm2 (zQM t) (v:=.ty t.nm) rfl (zRS t).1 (zRS t).2) zA9 rfl) he) (by decide) (by decide) he rfl).imp fun σ H Q zz48=>?_
  obtain ⟨S,δ,z,ds,e,c⟩:=zz48;obtain ⟨x,ex,e⟩:=bind_some e;unfold isiF at e;by_cases hx:excB x.1=true
  . rw [if_pos hx] at e;cases e
  . rw [if_neg hx] at e;cases e;exact ⟨S,δ,x,ds,ex,fun vx H1 s1 r1=>⟨vx,x.1,rfl,r1.rd.whole,by simpa using hx,c _ H1 s1 (.bl _)⟩⟩
def spD (K:W.Frag)(F:List D->Option R):Sp:=fun vs H Q _=>∃ S ds r,(∀ a∈S,∃ xs:HO,H a=some xs/\MuB xs)/\DenL K (hide H S) ds vs/\F ds=some r/\r.2≠.dt/\∀ v H',Same H H'->RV K H H' S r v->Q v H'
def spD0 (K:W.Frag)(F:List D->Option R):Sp:=fun vs H Q _=>∃ ds r,DenL K H ds vs/\F ds=some r/\r.2≠.dt/\∀ v H',Same H H'->RV K H H' [] r v->Q v H'
def zG3 (F:List D->Option R)(g:Dst->Option (List D)):Dst->Option R:=fun δ=>(g δ).bind fun ds=>(F ds).bind fun r=>if r.2=.dt then none else some r
theorem zHy {F:List D->Option R}{g:Dst->Option (List D)}{σ:St}{H:Hp}{Q:VK}(q:gT X.K (zG3 F g) σ H Q):zLT (spD X.K F) [] E0 (gA X.K g) σ H Q:=by
  obtain ⟨S,δ,z,ds,e,c⟩:=q;obtain ⟨xs,ex,e⟩:=bind_some e;obtain ⟨r,er,e⟩:=bind_some e;by_cases hr:r.2=.dt
  . rw [if_pos hr] at e;cases e
  rw [if_neg hr] at e;cases e;refine ⟨S,δ,xs,ds,ex,fun vs H1 s1 r1=>?_⟩;show spD X.K F (vs++[]) H1 Q E0;rw [append_nil];exact ⟨S,xs,_,(ds.mono s1).sok,r1,er,hr,fun v H' s2 r2=>c v H' (s1.trans s2) (r2.from s1)⟩
theorem zPh {k:Nat}{f:Addr}{fd:FuncData}{ps:List Str}{F:List D->Option R}{x:Str}{p pos:Pos}{e:Expr}{es:List Expr}{g:Dst->Option (List D)}(FO:FnOk X.prog X.w X.K X.mg X.base CX0 k f fd ps (spD X.K F))(hr:Room k X.A)(hg:Gl X x)(hm:X.mg x=some (.ref f))
    (hk:W.keepIn X.K (.ref f)=true) (hb:zCC X.K fd ps []) (ha:GA X (e::es) g) (hdb:(x==("__debug__":Str))=false) (he:starEach (e::es) X.env=(false,eval e X.env)::starEach es X.env) (hpl:∀ pos,(backTo pos (starEach es X.env)).any (·.1)=false) :
    GE X (.Call (.Name x p) (e::es) [] pos) (zG3 F g) :=
  (zJJ FO hr hg hm hk hb .nil zOk ha hdb he (hpl pos)).imp fun _ _ _ q=>zHy q
theorem zMP {k:Nat}{f:Addr}{fd:FuncData}{ps:List Str}{F:List D->Option R}{x:Str}{p pos:Pos}(FO:FnOk X.prog X.w X.K X.mg X.base CX0 k f fd ps (spD X.K F))(hr:Room k X.A)(hg:Gl X x)(hm:X.mg x=some (.ref f))
    (hk:W.keepIn X.K (.ref f)=true) (hb:zCC X.K fd ps []) (hdb:(x==("__debug__":Str))=false):GE X (.Call (.Name x p) [] [] pos) (zG3 F fun _=>some []):=by
  refine (zLn FO hr hg hm hk hb .nil zOk hdb).imp fun σ H Q q=>?_
  obtain ⟨S,δ,z,ds,e,c⟩:=zHy q;cases e;exact c [] H (Same.refl _) .nil
def gAL (K:W.Frag)(f:Dst->Option (List D)):TA:=fun σ H Q=>∃ S δ ds,DS K H S σ δ/\f δ=some ds/\∀ vs H',Same H H'->DenL K H' ds vs->Q vs H'
def GAL (X:Cx)(es:List Expr)(f:Dst->Option (List D)):Prop:=PA X es (gAL X.K f)
theorem zPo:GAL X [] (fun _=>some []):=zA9.imp fun σ H Q zz49=>by
  obtain ⟨S,δ,z,ds,e,c⟩:=zz49;cases e;exact c [] H (Same.refl _) .nil
def zSk (f:Dst->Option R)(g:Dst->Option (List D)):Dst->Option (List D):=fun δ=>(f δ).bind fun x=>(g δ).bind fun xs=>some (x.1::xs)
theorem zMS {e:Expr}{es:List Expr}{f:Dst->Option R}{g:Dst->Option (List D)}(ha:GE X e f)(hr:GAL X es g)(hs:starEach (e::es) X.env=(false,eval e X.env)::starEach es X.env):GAL X (e::es) (zSk f g):=by
  refine (zAa ha hr hs).imp fun σ H Q zz50=>?_
  obtain ⟨S,δ,z,ds,e,c⟩:=zz50;obtain ⟨x,ex,e⟩:=bind_some e;obtain ⟨xs,exs,e⟩:=bind_some e;cases e;refine ⟨S,δ,x,ds,ex,fun v H1 s1 r1=>⟨S,δ,xs,ds.mono s1,exs,fun vs H2 s2 r2=>?_⟩⟩;exact c _ H2 (s1.trans s2) (.cons (r1.rd.whole.mono s2) r2)
def zTq:R->Bool
  | (.non,.cl)=>true
  | (.bl _,.cl)=>true
  | (.int _,.cl)=>true
  | (.str _,.cl)=>true
  | _=>false
def zTR (F:List D->Option R)(g:Dst->Option (List D)):Dst->Option R:=fun δ=>(g δ).bind fun ds=>(F ds).bind fun r=>if zTq r=true then some r else none
theorem zD4 {P:Program}{w:World}{K:W.Frag}{mg:Str->Option Value}{base:Heap}{A:Around}{outer:List Env}{s:Shared}{H:Hp}{S:List Addr}{r:R}{Q:VK}{E:XK}{cd:Code}(e0:Env0 P w K mg base A outer s H)(hS:∀ a∈S,∃ xs:HO,H a=some xs/\MuB xs)(hk:r.2≠.dt)
    (run:Env0 P w K mg base A outer s (hide H S)->codeAny (model P w) A cd (CR CX0 outer P w (hide H S) s (fun v H2=>RV K (hide H S) H2 [] r v/\Same (hide H S) H2) E) s) (c:∀ v H',Same H H'->RV K H H' S r v->Q v H'):codeAny (model P w) A cd (CR CX0 outer P w H s Q E) s:=by
  have inS:∀ {b:Addr} {o:HO},b∈S->H b=some o->MuB o:=fun {b o} z e=>by
    obtain ⟨xs,q,mu⟩:=hS b z;rw [q] at e;cases e;exact mu
  have hok:HOk P w (hide H S) s.heap:=fun b o e=>by
    obtain ⟨nb,e'⟩:=zAq e;refine (e0.hok b o e').stay (fun c u _ q=>q) (fun c q=>?_) (fun c xs q=>?_) fun c ob u q _=>?_
    . rw [zAM fun z=>?_]
      . exact q
      . exact (inS z q).elim
    . rw [zAM fun z=>?_]
      . exact q
      . exact (inS z q).elim
    . rw [zAM fun z=>?_]
      . exact q
      . exact (inS z q).elim
  have none_of:∀ {b:Addr},H b=none->hide H S b=none:=fun {b} q=>by
    by_cases z:b∈S
    . exact zB1 z
    . rw [zAM z];exact q
  have e1:Env0 P w K mg base A outer s (hide H S):=⟨e0.frames,e0.mod,fun b o e=>⟨(e0.bs b o e).1,none_of (e0.bs b o e).2⟩,e0.bsz,e0.funs,fun b z=>none_of (e0.frf b z),hok,e0.bare,e0.tree,fun x hx c P e=>by
    have q:=e0.tabs x hx c P e;rw [zAM fun z=>(inS z q).elim];exact q⟩
  refine codeAny_mono (run e1) fun res s' h=>?_
  cases res with
  | error e=>exact h.elim
  | ok fl =>
    cases fl with
    | next=>exact h
    | brk=>exact h
    | cont=>exact h
    | ret u =>
      obtain ⟨v,H2,os,bare,un,hok2,rv2,r2,s2⟩:=h;have there:∀ {b:Addr},b∈S->∃ ob xs,s.heap.get? b=some ob/\s'.heap.get? b=some ob/\H2 b=none/\H b=some xs/\MuB xs/\zCd P w H s.heap b xs:=fun {b} z=>by
        obtain ⟨xs,q,mu⟩:=hS b z;have ok:=e0.hok b _ q;obtain ⟨ob,e⟩:∃ ob,s.heap.get? b=some ob:=by
          cases xs with
          | lst ys=>obtain ⟨z1,its,n,r1,e⟩:=id ok;exact ⟨_,e⟩
          | dT kvs=>obtain ⟨_,_,_,_,ob,_,_,e,_⟩:=id ok;exact ⟨ob,e⟩
          | _=>exact mu.elim
        have nf:b∉frs outer:=fun z2=>by rw [e0.frf b z2] at q;cases q
        exact ⟨ob,xs,e,un.keep b _ e (zB1 z) nf (by simp),un.free b _ e (zB1 z) (by simp),q,mu,ok⟩
      have out:∀ {b:Addr} {o:HO},H2 b=some o->b∉S:=fun {b o} e z=>by
        obtain ⟨_,_,_,_,q,_⟩:=there z;rw [q] at e;cases e
      obtain ⟨H',h'in,h'out⟩:∃ H':Hp,(∀ {b:Addr},b∈S->H' b=H b)/\(∀ {b:Addr},b∉S->H' b=H2 b):=⟨fun b=>if b∈S then H b else H2 b,fun z=>if_pos z,fun z=>if_neg z⟩;have sH:Same H H':=fun b o e=>by
        by_cases z:b∈S
        . rw [h'in z];exact e
        . rw [h'out z];exact s2 b o (by rw [zAM z];exact e)
      have sub:Same H2 (hide H' S):=fun b o e=>by
        rw [zAM (out e),h'out (out e)];exact e
      refine ⟨v,H',os,bare,⟨fun b o e n=>un.keep b o e (none_of n),fun b o e n=>un.slot b o e (none_of n),fun b o e n hx=>?_,un.there,fun b xs e=>?_,fun b o u e=>?_,fun b ps e=>?_⟩,fun b o e=>?_,rv2,c v H' sH ?_⟩
      . by_cases z:b∈S
        . rw [h'in z];exact n
        . rw [h'out z];exact un.free b o e (none_of n) hx
      . exact sH b _ e
      . exact sH b _ e
      . exact sH b _ e
      . by_cases z:b∈S
        . rw [h'in z] at e;obtain ⟨ob,xs,g1,g2,_,g4,mu,ok⟩:=there z;rw [g4] at e;cases e;cases o with
          | lst ys =>
            obtain ⟨z1,its,n,r1,e⟩:=ok;rw [g1] at e;cases e;exact ⟨z1,its,n,r1,g2⟩
          | dT kvs =>
            obtain ⟨z1,z2,xs,r1,ob',es,ep,e,rest⟩:=ok;rw [g1] at e;cases e;exact ⟨z1,z2,xs,Paired.mapP r1 fun p q z=>⟨z.1,sH _ _ z.2.1,z.2.2⟩,ob,es,ep,g2,rest⟩
          | _=>exact mu.elim
        . rw [h'out z] at e;exact (hok2 b o e).stay (fun c u _ q=>q) (fun c q=>by rw [h'out (out q)];exact q) (fun c xs q=>by rw [h'out (out q)];exact q) fun c ob u q _=>by rw [h'out (out q)];exact q
      . obtain ⟨d,kd⟩:=r;cases kd with
        | cl =>
          have q:Den K (hide H2 []) d v:=r2;rw [zBB] at q;exact q.mono sub
        | fr =>
          obtain ⟨a,ws,es,ev,ed,_,na,ha,t⟩:=r2;have aS:a∉S:=out ha;refine ⟨a,ws,es,ev,ed,aS,by rw [zAM aS] at na;exact na,by rw [h'out aS];exact ha,t.mono fun b o e=>?_⟩;obtain ⟨q1,q2⟩:=zAq e;have nb:b∉a::S:=fun z=>(mem_cons.mp z).elim (fun z=>q1 (by rw [z];exact mem_cons_self)) (out q2)
          rw [zAM nb,h'out (out q2)];exact q2
        | dt=>exact absurd rfl hk
theorem FnOk.framed {P:Program}{w:World}{K:W.Frag}{mg:Str->Option Value}{base:Heap}{k:Nat}{f:Addr}{fd:FuncData}{ps:List Str}{F:List D->Option R}(G:FnOk P w K mg base CX0 k f fd ps (spD0 K F)):FnOk P w K mg base CX0 k f fd ps (spD K F):=by
  refine ⟨fun vs H Q E h=>?_,fun A outer s H args us vs Q E hr e0 hb rv h=>?_⟩
  . obtain ⟨S,ds,r,hS,hd,hF,hk,c⟩:=h;exact G.len vs (hide H S) (fun _ _=>True) E ⟨ds,r,hd,hF,hk,fun _ _ _ _=>trivial⟩
  obtain ⟨S,ds,r,hS,hd,hF,hk,c⟩:=h;exact zD4 e0 hS hk (fun e1=>G.run A outer s (hide H S) args us vs (fun v H2=>RV K (hide H S) H2 [] r v/\Same (hide H S) H2) E hr e1 hb rv ⟨ds,r,hd,hF,hk,fun v H' s1 r1=>⟨r1,s1⟩⟩) c
end
inductive Out where
  | nx (δ:Dst) | rt (r:R) | bk (δ:Dst) | ct (δ:Dst)
def Post (K:W.Frag)(H0:Hp)(o:Out)(E:Ends):Prop:=match o with
  | .nx δ'=>∀ S' σ' H',DS K H' S' σ' δ'->Same H0 (hide H' S')->E.nx σ' H'
  | .bk δ'=>∀ S' σ' H',DS K H' S' σ' δ'->Same H0 (hide H' S')->E.bk σ' H'
  | .ct δ'=>∀ S' σ' H',DS K H' S' σ' δ'->Same H0 (hide H' S')->E.ct σ' H'
  | .rt r=>r.2≠.dt/\∀ v H',Same H0 H'->RV K H0 H' [] r v->E.rt v H'
def gS (K:W.Frag)(H0:Hp)(g:Dst->Option Out):TS:=fun E σ H=>∃ S δ o,DS K H S σ δ/\Same H0 (hide H S)/\g δ=some o/\Post K H0 o E
def GS (X:Cx)(st:Stmt)(g:Dst->Option Out):Prop:=∀ H0,PS X st (gS X.K H0 g)
def GSs (X:Cx)(st:List Stmt)(g:Dst->Option Out):Prop:=∀ H0,PSs X st (gS X.K H0 g)
theorem _root_.L2.PS.imp {X:Cx}{st:Stmt}{t t':TS}(h:PS X st t)(i:∀ E σ H,t' E σ H->t E σ H):PS X st t':=fun pins s σ H E I q=>h pins s σ H E I (i E σ H q)
theorem _root_.L2.PSs.imp {X:Cx}{st:List Stmt}{t t':TS}(h:PSs X st t)(i:∀ E σ H,t' E σ H->t E σ H):PSs X st t':=fun pins s σ H E I q=>h pins s σ H E I (i E σ H q)
section
variable {X:Cx}
def seqD (f g:Dst->Option Out):Dst->Option Out:=fun δ=>(f δ).bind fun o=>match o with
  | .nx δ'=>g δ'
  | o=>some o
theorem zPW:GSs X [] (fun δ=>some (.nx δ)):=fun H0=>zJA.imp fun E σ H zz51=>by
  obtain ⟨S,δ,o,ds,h0,e,p⟩:=zz51;cases e;exact p S σ H ds h0
theorem zMK {st:Stmt}{rest:List Stmt}{f g:Dst->Option Out}(h1:GS X st f)(h2:GSs X rest g):GSs X (st::rest) (seqD f g):=fun H0=>(zHX (h1 H0) (h2 H0)).imp fun E σ H zz52=>by
  obtain ⟨S,δ,o,ds,h0,e,p⟩:=zz52;obtain ⟨o1,e1,e⟩:=bind_some e;refine ⟨S,δ,o1,ds,h0,e1,?_⟩;cases o1 with
  | nx δ'=>exact fun S' σ' H' d' s'=>⟨S',δ',o,d',s',e,p⟩
  | rt r=>cases e;exact p
  | bk δ'=>cases e;exact p
  | ct δ'=>cases e;exact p
theorem zPV {rest:List Stmt}{f g:Dst->Option Out}(hf:∀ δ o,f δ=some o->∃ δ',o=.nx δ'/\∀ K H S σ,DS K H S σ δ->∃ S',(∀ b∈S',b∈S)/\DS K H S' σ δ')(h2:GSs X rest g):GSs X rest (seqD f g):=fun H0=>(h2 H0).imp fun E σ H zz53=>by
  obtain ⟨S,δ,o,ds,h0,e,p⟩:=zz53;obtain ⟨o1,e1,e⟩:=bind_some e;obtain ⟨δ',rfl,k⟩:=hf δ o1 e1;obtain ⟨S',sub,d'⟩:=k _ H S σ ds;exact ⟨S',δ',o,d',h0.trans (zBo sub),e,p⟩
theorem zSc {K:W.Frag}{H0 H H':Hp}{S:List Addr}{σ:St}{δ:Dst}{E:Ends}(ds:DS K H S σ δ)(h0:Same H0 (hide H S))(s1:Same H H')(p:Post K H0 (.nx δ) E):E.nx σ H' :=
  p S σ H' (ds.mono s1) (h0.trans (zAP s1))
def zTy (f:Dst->Option R):Dst->Option Out:=fun δ=>(f δ).bind fun _=>some (.nx δ)
def retD (f:Dst->Option R):Dst->Option Out:=fun δ=>(f δ).bind fun r=>if r.2=.dt then none else some (.rt r)
theorem RV.up {K:W.Frag}{H0 H H':Hp}{S:List Addr}{r:R}{v:V}(h0:Same H0 (hide H S))(s1:Same H H')(hr:r.2≠.dt)(h:RV K H H' S r v):Same H0 H'/\RV K H0 H' [] r v:=by
  refine ⟨h0.trans (zAd.trans s1),?_⟩;obtain ⟨d,k⟩:=r;cases k with
  | cl =>
    show Den K (hide H' []) d v;rw [zBB];exact Den.mono zAd h
  | fr =>
    obtain ⟨a,vs,ds,e1,e2,e3,e4,e5,t⟩:=h;refine ⟨a,vs,ds,e1,e2,by simp,?_,e5,t.mono (zBo fun b z=>by
      have:b=a:=by simpa using z
      rw [this];exact mem_cons_self)⟩
    cases q:H0 a with
    | none=>rfl
    | some o =>
      have:=(zAq (h0 a o q)).2;rw [e4] at this;cases this
  | dt=>exact absurd rfl hr
theorem zRu {e:Expr}{f:Dst->Option R}{pos:Pos}(h:GE X e f):GS X (.Return (some e) pos) (retD f):=fun H0=>(zJB h).imp fun E σ H zz54=>by
  obtain ⟨S,δ,o,ds,h0,e,p⟩:=zz54;obtain ⟨r,er,e⟩:=bind_some e;by_cases hr:r.2=.dt
  . rw [if_pos hr] at e;cases e
  rw [if_neg hr] at e;cases e;refine ⟨S,δ,r,ds,er,fun v H' s1 r1=>?_⟩;obtain ⟨q1,q2⟩:=RV.up h0 s1 hr r1;exact p.2 v H' q1 q2
def zDn (i:Nat):Dst->Option Out:=fun δ=>match δ[i]? with
  | some (some (.lst d,true))=>some (.rt (.lst d,.fr))
  | _=>none
theorem zKH {i:Nat}{x:Str}{pos pos':Pos}(hN:X.N[i]?=some x)(hv:Vis X.env.scope x)(hd:(x==("__debug__":Str))=false)(hcd:(x==("__classdict__":Str))=false):GS X (.Return (some (.Name x pos')) pos) (zDn i):=fun H0=>(zJB (zDo hN hv hd hcd)).imp fun E σ H zz55=>by
  obtain ⟨S,δ,o,ds,h0,e,p⟩:=zz55;unfold zDn at e;split at e
  . rename_i d q;cases e;obtain ⟨v,q1,q2⟩:=ds.get i _ true q;obtain ⟨a,vs,es,rfl,e2,w1,w2,w3⟩:=q2.ownL rfl;refine ⟨.ref a,q1,p.2 _ H (h0.trans zAd) ⟨a,vs,es,rfl,e2,by simp,?_,w2,w3.mono (zBo fun b z=>by
      have:b=a:=by simpa using z
      rw [this];exact w1)⟩⟩
    cases q:H0 a with
    | none=>rfl
    | some o=>exact absurd w1 (zAq (h0 a o q)).1
  . cases e
def zTC:Dst->Option Out:=fun _=>some (.rt (.non,.cl))
theorem zHl {st:Stmt}:GS X st (fun _=>none):=fun H0=>(zEy (X:=X) (st:=st)).imp fun E σ H zy118=>by obtain ⟨S,δ,o,ds,h0,e,p⟩:=zy118;cases e
def setD (i:Nat)(f:Dst->Option R):Dst->Option Out:=fun δ=>(f δ).bind fun r=>match r.2 with
  | .cl=>some (.nx (δ.set i (some (r.1,false))))
  | .fr=>some (.nx (δ.set i (some (r.1,true))))
  | .dt=>none
theorem zEQ {K:W.Frag}{H0 H H':Hp}{S:List Addr}{σ:St}{δ:Dst}{E:Ends}{i:Nat}{r:R}{v:V}{o:Out}(ds:DS K H S σ δ)(h0:Same H0 (hide H S))(s1:Same H H')(r1:RV K H H' S r v)
    (e:(match r.2 with | .cl=>some (Out.nx (δ.set i (some (r.1,false)))) | .fr=>some (Out.nx (δ.set i (some (r.1,true)))) | .dt=>none)=some o) (p:Post K H0 o E):E.nx (σ.set i (some v)) H':=by
  obtain ⟨d,k⟩:=r;cases k with
  | cl =>
    cases e;exact p S _ H' ((ds.mono s1).set r1) (h0.trans (zAP s1))
  | fr =>
    cases e;obtain ⟨a,vs,es,rfl,rfl,e3,e4,e5,t⟩:=r1;exact p (a::S) _ H' (ds.setF s1 e4 e5 t) (h0.trans (zDh s1 e4))
  | dt=>cases e
theorem zNq {i:Nat}{x:Str}{e:Expr}{f:Dst->Option R}{pos pos':Pos}(hN:X.N.Nodup)(hi:X.N[i]?=some x)(hx:Loc X.env.scope x)(h:GE X e f)(hs:swapsWith e (some (.Name x pos')) pos.line X.env=pure false)(hf:X.fn x=true\/X.env.scope.names.lookup x=some .local) :
    GS X (.Assign [.Name x pos'] e pos) (setD i f):=fun H0=>(zNW hN hi hx h hs hf).imp fun E σ H zz56=>by
  obtain ⟨S,δ,o,ds,h0,e,p⟩:=zz56;obtain ⟨r,er,e⟩:=bind_some e;exact ⟨S,δ,r,ds,er,fun v H' s1 r1=>zEQ ds h0 s1 r1 e p⟩
def appD (i:Nat)(f:Dst->Option R):Dst->Option Out:=fun δ=>match δ[i]? with
  | some (some (.lst xs,true))=>(f δ).bind fun r=>if r.2=.dt then none else if xs.length<=10000 then some (.nx (δ.set i (some (.lst (xs++[r.1]),true)))) else none
  | _=>none
theorem zRy {i:Nat}{x:Str}{e:Expr}{f:Dst->Option R}{pos cpos apos npos:Pos}(hi:X.N[i]?=some x)(hv:Vis X.env.scope x)(hd:(x==("__debug__":Str))=false)(hcd:(x==("__classdict__":Str))=false)(h:GE X e f)
    (he:starEach [e] X.env=[(false,eval e X.env)]) (hbase:attributeBase (.Name x npos) "append" X.env (eval (.Name x npos) X.env)=eval (.Name x npos) X.env) (hline:(apos.endLine==cpos.line)=true) :
    GS X (.Expr (.Call (.Attribute (.Name x npos) "append" apos) [e] [] cpos) pos) (appD i f):=fun H0=>(zGf (zOi PySem.F.plainAttrs_list PySem.F.slot_list_append PySem.F.type_list_append zFt (zDo hi hv hd hcd) (zAa h zA9 he) hbase (by rw [he];rfl) hline he rfl) rfl).imp fun E σ H zz57=>by
  obtain ⟨S,δ,o,ds,h0,e,p⟩:=zz57;unfold appD at e;split at e
  . rename_i xs q;obtain ⟨r,er,e⟩:=bind_some e;by_cases hr:r.2=.dt
    . rw [if_pos hr] at e;cases e
    rw [if_neg hr] at e;by_cases hl:xs.length<=10000
    . rw [if_pos hl] at e;cases e;obtain ⟨v,q1,q2⟩:=ds.get i _ true q;obtain ⟨a,vs,es,rfl,e2,w1,w2,w3⟩:=q2.ownL rfl;cases e2;refine ⟨.ref a,q1,.inl ⟨rfl,_,SqL.of w2⟩,S,δ,r,ds,er,fun y H1 s1 r1=>?_⟩;have hy:Den X.K (hide H1 S) r.1 y:=RV.den (d:=r.1) (k:=r.2) r1 hr;have w3':=w3.mono (zAP s1 (S:=S));refine ⟨a,vs,y,rfl,rfl,s1 _ _ w2,by rw [<- w3.length];exact Nat.lt_of_le_of_lt hl (by decide),?_⟩;have t:DenL X.K (hide H1 S) (xs++[r.1]) (vs++[y]):=w3'.append (.cons hy .nil);have d2:=(ds.mono s1).change (i:=i) q q1 t;refine p S σ _ d2 ?_;rw [zE8 w1];exact h0.trans (zAP s1)
    . rw [if_neg hl] at e;cases e
  . cases e
def putD (i:Nat)(k f:Dst->Option R):Dst->Option Out:=fun δ=>match δ[i]? with
  | some (some (.lst xs,true))=>(f δ).bind fun r=>if r.2=.dt then none else (k δ).bind fun j=>match j.1 with
    | .int n=>(ixN xs.length n).bind fun m=>some (.nx (δ.set i (some (.lst (xs.set m r.1),true))))
    | _=>none
  | _=>none
def ifD (c:Dst->Option Bool)(f g:Dst->Option Out):Dst->Option Out:=fun δ=>(c δ).bind fun b=>if b=true then f δ else g δ
theorem zTe {c:Expr}{a b:List Stmt}{k:Dst->Option Bool}{f g:Dst->Option Out}{pos:Pos}(hc:GT X c k)(ha:GSs X a f)(hb:GSs X b g):GS X (.If c a b pos) (ifD k f g):=fun H0=>(zQx hc (ha H0) (hb H0)).imp fun E σ H zz58=>by
  obtain ⟨S,δ,o,ds,h0,e,p⟩:=zz58;obtain ⟨b,eb,e⟩:=bind_some e;refine ⟨S,δ,b,ds,eb,fun H1 s1=>?_⟩;cases b with
  | true =>
    rw [if_pos rfl] at e ⊢;exact ⟨S,δ,o,ds.mono s1,h0.trans (zAP s1),e,p⟩
  | false =>
    rw [if_neg Bool.false_ne_true] at e ⊢;exact ⟨S,δ,o,ds.mono s1,h0.trans (zAP s1),e,p⟩
def zBl (c:Dst->Option Bool)(b:Dst->Option Out):Nat->Dst->Option Out
  | 0,_=>none
  | n+1,δ=>(c δ).bind fun k=>if k=true then (b δ).bind fun o=>(match o with
      | .nx δ'=>zBl c b n δ'
      | .ct δ'=>zBl c b n δ'
      | .bk δ'=>some (.nx δ')
      | .rt r=>some (.rt r)) else some (.nx δ)
theorem zCm {c:Dst->Option Bool}{b:Dst->Option Out}:∀ {n:Nat} {δ:Dst} {o:Out},zBl c b n δ=some o->zBl c b (n+1) δ=some o
  | 0,_,_,h=>by cases h
  | n+1,δ,o,h=>by
    obtain ⟨k,ek,h⟩:=bind_some h;show (c δ).bind _=some o;rw [ek];cases k with
    | false =>
      rw [if_neg Bool.false_ne_true] at h;rw [Option.bind_some,if_neg Bool.false_ne_true];exact h
    | true =>
      rw [if_pos rfl] at h;rw [Option.bind_some,if_pos rfl];obtain ⟨o1,e1,h⟩:=bind_some h;rw [e1];cases o1 with
      | nx δ'=>exact zCm (n:=n) h
      | ct δ'=>exact zCm (n:=n) h
      | bk δ'=>exact h
      | rt r=>exact h
theorem zDk {c:Dst->Option Bool}{b:Dst->Option Out}{n m:Nat}{δ:Dst}{o:Out}(h:zBl c b n δ=some o)(l:n<=m):zBl c b m δ=some o:=by
  induction m with
  | zero =>
            have:n=0:=by omega
            subst this;exact h
  | succ m ih =>
    by_cases q:n<=m
    . exact zCm (ih q)
    . have:n=m+1:=by omega
      subst this;exact h
open Classical in
def zBS (c:Dst->Option Bool)(b:Dst->Option Out)(δ:Dst):Option Out :=
  if h:∃ n o,zBl c b n δ=some o then some (Classical.choose (choose_spec h)) else none
theorem zCE {c:Dst->Option Bool}{b:Dst->Option Out}{n:Nat}{δ:Dst}{o:Out}(h:zBl c b n δ=some o):zBS c b δ=some o:=by
  have ex:∃ n o,zBl c b n δ=some o:=⟨n,o,h⟩;unfold zBS;rw [dif_pos ex];have q:=choose_spec (choose_spec ex);have q1:=zDk q (Nat.le_max_left _ n);have q2:=zDk h (Nat.le_max_right (Classical.choose ex) n);rw [q1] at q2;exact q2
theorem zDE {c:Dst->Option Bool}{b:Dst->Option Out}{δ:Dst}{o:Out}(h:zBS c b δ=some o):∃ n,zBl c b n δ=some o:=by
  unfold zBS at h;by_cases ex:∃ n o,zBl c b n δ=some o
  . rw [dif_pos ex] at h;have q:=choose_spec (choose_spec ex);cases h;exact ⟨_,q⟩
  . rw [dif_neg ex] at h;cases h
theorem zMM {c:Expr}{body:List Stmt}{k:Dst->Option Bool}{f:Dst->Option Out}{pos:Pos}(hp:PassesOwn (model X.prog X.w) X.A X.env X.xe)(hc:GT X c k)(hb:GSs X body f):GS X (.While c body [] pos) (zBS k f):=fun H0=>(zLh hp hc (hb H0)).imp fun E σ H zz59=>by
  obtain ⟨S,δ,o,ds,h0,e,p⟩:=zz59;obtain ⟨n,en⟩:=zDE e;refine ⟨fun m σ H=>∃ S δ,DS X.K H S σ δ/\Same H0 (hide H S)/\zBl k f m δ=some o,⟨n,S,δ,ds,h0,en⟩,?_⟩;rintro m σ H ⟨S,δ,ds,h0,en⟩;cases m with
  | zero=>cases en
  | succ m =>
    obtain ⟨b,eb,en⟩:=bind_some en;refine ⟨S,δ,b,ds,eb,fun H1 s1=>?_⟩;cases b with
    | false =>
      rw [if_neg Bool.false_ne_true] at en ⊢;cases en;exact zSc ds h0 s1 p
    | true =>
      rw [if_pos rfl] at en ⊢;obtain ⟨o1,e1,en⟩:=bind_some en;refine ⟨fun σ' H'=>∃ S δ,DS X.K H' S σ' δ/\Same H0 (hide H' S)/\zBl k f m δ=some o,fun σ' H' q=>⟨m,Nat.lt_succ_self m,q⟩,S,δ,o1,ds.mono s1,h0.trans (zAP s1),e1,?_⟩;cases o1 with
      | nx δ'=>exact fun S' σ' H' d' q'=>⟨S',δ',d',q',en⟩
      | ct δ'=>exact fun S' σ' H' d' q'=>⟨S',δ',d',q',en⟩
      | bk δ'=>cases en;exact p
      | rt r=>cases en;exact p
def forD (t:D->Dst->Option Dst)(b:Dst->Option Out):List D->Dst->Option Out
  | [],δ=>some (.nx δ)
  | x::xs,δ=>(t x δ).bind fun δ1=>(b δ1).bind fun o=>match o with
    | .nx δ'=>forD t b xs δ'
    | .ct δ'=>forD t b xs δ'
    | .bk δ'=>some (.nx δ')
    | .rt r=>some (.rt r)
def GG (X:Cx)(tg:Expr)(t:D->Dst->Option Dst):Prop:=∃ g,PG X tg g/\∀ (K:W.Frag),K=X.K->∀ (x:D) (v:V) (σ:St) (H:Hp) (S:List Addr) (δ δ':Dst) (Q:St->Hp->Prop),DS K H S σ δ->Den K (hide H S) x v->t x δ=some δ'->(∀ σ',DS K H S σ' δ'->Q σ' H)->g v σ H Q
theorem zKO {i:Nat}{x:Str}{pos:Pos}(hN:X.N.Nodup)(hi:X.N[i]?=some x)(hx:Loc X.env.scope x)(hf:X.fn x=true\/X.env.scope.names.lookup x=some .local):GG X (.Name x pos) (fun d δ=>some (δ.set i (some (d,false)))) :=
  ⟨_,zDJ hN hi hx hf,fun K hK x v σ H S δ δ' Q ds hv e q=>by
    cases e;exact q _ (ds.set hv)⟩
def tg2 (i j:Nat):D->Dst->Option Dst:=fun d δ=>match d with
  | .tup [a,b]=>some ((δ.set i (some (a,false))).set j (some (b,false)))
  | _=>none
theorem zR4 {i j:Nat}{x y:Str}{p1 p2 pos:Pos}{kk:Nat}(hc:X.calm=true)(hN:X.N.Nodup)(hi:X.N[i]?=some x)(hx:Loc X.env.scope x)(hf:X.fn x=true\/X.env.scope.names.lookup x=some .local)
    (hj:X.N[j]?=some y) (hy:Loc X.env.scope y) (hf2:X.fn y=true\/X.env.scope.names.lookup y=some .local):GG X (.Tuple [.Name x p1,.Name y p2] kk pos) (tg2 i j) :=
  ⟨_,zQ1 (n:=2) hc (zHZ (zDJ hN hi hx hf) (zHZ (zDJ hN hj hy hf2) zOf)),fun K hK x v σ H S δ δ' Q ds hv e q=>by
    subst hK;unfold tg2 at e;split at e
    . rename_i a b;cases e;rw [Den] at hv;obtain ⟨p,vs,rfl,h1,h2⟩:=hv;rw [DenL] at h2;obtain ⟨va,ws,rfl,ha,h2⟩:=h2;rw [DenL] at h2;obtain ⟨vb,ws,rfl,hb,h2⟩:=h2;rw [DenL] at h2;subst h2;exact ⟨p,_,rfl,Same.tupS zAd h1,rfl,va,[vb],rfl,vb,[],rfl,rfl,q _ ((ds.set ha).set hb)⟩
    . cases e⟩
def GI (X:Cx)(tg iter:Expr)(f:Dst->Option (List D)):Prop:=∃ wi,PI X tg iter wi/\∀ (σ:St) (H:Hp) (S:List Addr) (δ:Dst) (xs:List D) (Rr:It->Hp->Prop),DS X.K H S σ δ->f δ=some xs ->
  (∀ J H1,Same H H1->(∀ (i:Nat) H2,i<=xs.length->Same (hide H1 S) H2->(i=xs.length->J.stop i H2)/\(i < xs.length->J.go i H2/\∀ v H3,J.yld i H2 v H3->H3=H2/\∀ x,xs[i]?=some x->Den X.K (hide H1 S) x v))->Rr J H1)->wi σ H Rr
theorem zRv {tg iter:Expr}{body:List Stmt}{f:Dst->Option (List D)}{t:D->Dst->Option Dst}{b:Dst->Option Out}{pos:Pos}(hp:PassesOwn (model X.prog X.w) X.A X.env X.xe)(hc:X.calm=true)(hi:GI X tg iter f)(hg:GG X tg t)(hb:GSs X body b)
    (hs:∀ x,foldedSetIterable iter X.env x=pure x):GS X (.For tg iter body [] pos) (fun δ=>(f δ).bind fun xs=>forD t b xs δ):=by
  intro H0;obtain ⟨wi,hwi,hI⟩:=hi;obtain ⟨g,hg,hG⟩:=hg;intro pins s σ H E I ⟨S,δ,o,ds,h0,e,p⟩;obtain ⟨xs,ex,e⟩:=bind_some e;refine (zNX (tb:=fun E σ H2=>∃ H1,gS X.K (hide H1 S) b E σ H2/\Same (hide H1 S) (hide H1 S)) hp hc hwi hg ?_ hs) pins s σ H E I ?_
  . intro pins s σ H E I ⟨H1,q,_⟩;exact hb (hide H1 S) pins s σ H E I q
  refine hI σ H S δ xs _ ds ex fun J H1 s1 hJ=>?_
  refine ⟨fun i m σ' H2=>i<=xs.length/\m=xs.length - i/\∃ S' δ',DS X.K H2 S' σ' δ'/\Same (hide H1 S) (hide H2 S')/\forD t b (xs.drop i) δ'=some o,⟨xs.length,zero_le _,by omega,S,δ,ds.mono s1,Same.refl _,e⟩,?_⟩;rintro i m σ' H2 ⟨hi,rfl,S',δ',ds',k',e'⟩;have kH:Same H0 (hide H1 S):=h0.trans (zAP s1);obtain ⟨j1,j2⟩:=hJ i H2 hi (k'.trans zAd);by_cases hlt:i < xs.length
  . obtain ⟨go,yl⟩:=j2 hlt;have hd:xs.drop i=xs[i]::xs.drop (i+1):=drop_eq_getElem_cons hlt;rw [hd] at e';obtain ⟨δ1,e1,e'⟩:=bind_some e';obtain ⟨o1,e2,e'⟩:=bind_some e';refine .inr ⟨go,fun σ3 H3=>∃ S' δ',DS X.K H3 S' σ3 δ'/\Same (hide H1 S) (hide H3 S')/\forD t b (xs.drop (i+1)) δ'=some o,fun σ3 H3 q=>⟨xs.length - (i+1),by omega,hlt,rfl,q⟩,fun v H3 y=>?_⟩;obtain ⟨rfl,hv⟩:=yl v H3 y;refine hG X.K rfl xs[i] v σ' H3 S' δ' δ1 _ ds' ((hv _ (by simp [hlt])).mono k') e1 fun σ4 ds4=>⟨H1,⟨S',δ1,o1,ds4,k',e2,?_⟩,Same.refl _⟩
    cases o1 with
    | nx δ2=>exact fun S2 σ2 H4 d2 q2=>⟨S2,δ2,d2,q2,e'⟩
    | ct δ2=>exact fun S2 σ2 H4 d2 q2=>⟨S2,δ2,d2,q2,e'⟩
    | bk δ2 =>
      cases e';exact fun S2 σ2 H4 d2 q2=>p S2 σ2 H4 d2 (kH.trans q2)
    | rt r =>
      cases e';refine ⟨p.1,fun v H4 q1 q2=>p.2 v H4 (kH.trans q1) (q2.from kH)⟩
  . have ei:i=xs.length:=by omega
    subst ei;rw [drop_eq_nil_of_le (le_refl _)] at e';cases e';exact .inl ⟨j1 rfl,p S' σ' H2 ds' (kH.trans k')⟩
def rngL (lo:Int)(n:Nat):List D:=(List.range n).map fun (k:Nat)=>D.int (lo+k)
theorem zFk {K:W.Frag}{H1:Hp}{S:List Addr}{lo:Int}{n:Nat}(i:Nat)(H2:Hp)(hi:i<=(rngL lo n).length):(i=(rngL lo n).length->(Itr lo n).stop i H2)/\(i < (rngL lo n).length->(Itr lo n).go i H2/\∀ v H3,(Itr lo n).yld i H2 v H3->H3=H2/\∀ x,(rngL lo n)[i]?=some x->Den K (hide H1 S) x v):=by
  have hl:(rngL lo n).length=n:=by unfold rngL;simp
  refine ⟨fun e=>by rw [hl] at e;exact Nat.le_of_eq e.symm,fun h=>⟨by rw [hl] at h;exact h,fun v H3 y=>⟨y.1,fun x ex=>?_⟩⟩⟩;have hv:v=.int (lo+i):=y.2;rw [hl] at h;have:(rngL lo n)[i]?=some (D.int (lo+(i:Int))):=by unfold rngL;simp [h]
  rw [this] at ex;cases ex;rw [Den];exact hv
def zI5 (f:Dst->Option R):Dst->Option (List D):=fun δ=>match f δ with
  | some (.int j,_)=>if -(2^62)<=j/\j < 2^62 then some (rngL 0 j.toNat) else none
  | _=>none
theorem zKN {tg a:Expr}{f:Dst->Option R}{p pos:Pos}(hg:Gl X "range")(hm:X.mg "range"=none)(h:GE X a f)(hs:starEach [a] X.env=[(false,eval a X.env)]):GI X tg (.Call (.Name "range" p) [a] [] pos) (zI5 f):=by
  refine ⟨_,zFp hg hm (zAa h zA9 hs) hs,fun σ H S δ xs Rr ds e q=>?_⟩;unfold zI5 at e;split at e
  . rename_i j k ej;by_cases hj:-(2^62)<=j/\j < 2^62
    . rw [if_pos hj] at e;cases e;exact ⟨S,δ,_,ds,ej,fun v H1 s1 r1=>⟨j,by rw [r1.rd.int],hj.1,hj.2,q _ H1 s1 fun i H2 hi _=>zFk i H2 hi⟩⟩
    . rw [if_neg hj] at e;cases e
  . cases e
def zOU (f g:Dst->Option R):Dst->Option (List D):=fun δ=>match f δ,g δ with
  | some (.int i,_),some (.int j,_)=>if (-(2^62)<=i/\i < 2^62)/\-(2^62)<=j/\j < 2^62 then some (rngL i (j - i).toNat) else none
  | _,_=>none
theorem zKM {tg a b:Expr}{f g:Dst->Option R}{p pos:Pos}(hg:Gl X "range")(hm:X.mg "range"=none)(ha:GE X a f)(hb:GE X b g)(hs:starEach [a,b] X.env=(false,eval a X.env)::starEach [b] X.env)(hs2:starEach [b] X.env=[(false,eval b X.env)]):GI X tg (.Call (.Name "range" p) [a,b] [] pos) (zOU f g):=by
  refine ⟨_,zJH hg hm (zAa ha (zAa hb zA9 hs2) hs) (by rw [hs,hs2]) hs2,fun σ H S δ xs Rr ds e q=>?_⟩;unfold zOU at e;split at e
  . rename_i i k j k2 ei ej;by_cases hj:(-(2^62)<=i/\i < 2^62)/\-(2^62)<=j/\j < 2^62
    . rw [if_pos hj] at e;cases e;exact ⟨S,δ,_,ds,ei,fun v H1 s1 r1=>⟨S,δ,_,ds.mono s1,ej,fun u H2 s2 r2=>⟨i,j,by rw [r1.rd.int,r2.rd.int],⟨hj.1.1,hj.1.2,hj.2.1,hj.2.2⟩,q _ H2 (s1.trans s2) fun i H2 hi _=>zFk i H2 hi⟩⟩⟩
    . rw [if_neg hj] at e;cases e
  . cases e
def frzD (i:Nat):Dst->Option Out:=fun δ=>match δ[i]? with
  | some (some (d,true))=>some (.nx (δ.set i (some (d,false))))
  | _=>some (.nx δ)
theorem zSM {i:Nat}:∀ δ o,frzD i δ=some o->∃ δ',o=.nx δ'/\∀ K H S σ,DS K H S σ δ->∃ S',(∀ b∈S',b∈S)/\DS K H S' σ δ':=fun δ o e=>by
  unfold frzD at e;split at e
  . rename_i d q;cases e;exact ⟨_,rfl,fun K H S σ ds=>ds.freeze q⟩
  . cases e;exact ⟨_,rfl,fun K H S σ ds=>⟨S,fun _ z=>z,ds⟩⟩
def dFun (np nN:Nat)(g:Dst->Option Out)(ds:List D):Option R :=
  if ds.length=np/\np<=nN then (g (ds.map (fun d=>some (d,false))++List.replicate (nN - np) none)).bind fun o=>match o with
    | .rt r=>some r
    | .nx _=>some (.non,.cl)
    | _=>none
  else none
theorem zMn {K:W.Frag}{H:Hp}{N:List Str}{ds:List D}{vs:List V}(h:DenL K H ds vs)(hl:ds.length<=N.length):DS K H [] (zBv N vs) (ds.map (fun d=>some (d,false))++List.replicate (N.length - ds.length) none):=by
  have el:=h.length;refine ⟨by unfold L2.zBv;simp [<- el],fun a z=>absurd z (by simp),fun i d o q=>?_,fun i j d e a q1 _ _ _=>?_⟩
  . have hi:i < ds.length:=by
      by_cases z:i < ds.length
      . exact z
      . rw [getElem?_append_right (by simpa using z),getElem?_replicate] at q;split at q<;>cases q
    rw [getElem?_append_left (by simpa using hi),getElem?_map] at q;cases e:ds[i]? with
    | none=>rw [e] at q;cases q
    | some d' =>
      rw [e] at q;cases q;obtain ⟨v,q1,q2⟩:=h.get e;refine ⟨v,?_,.of_den (by rw [zBB];exact q2)⟩;unfold L2.zBv;rw [getElem?_append_left (by rw [length_map,<- el];exact hi),getElem?_map,q1]
      rfl
  . have hi:i < ds.length:=by
      by_cases z:i < ds.length
      . exact z
      . rw [getElem?_append_right (by simpa using z),getElem?_replicate] at q1;split at q1<;>cases q1
    rw [getElem?_append_left (by simpa using hi),getElem?_map] at q1;cases e:ds[i]? with
    | none=>rw [e] at q1;cases q1
    | some d'=>rw [e] at q1;cases q1
theorem zSL {P:Program}{w:World}{K:W.Frag}{mg:Str->Option Value}{base:Heap}{x qual:Str}{st:Stmt}{f:Addr}{fd:FuncData}{N ps:List Str}{k:Nat}{g:Dst->Option Out}(F:Fun K x qual st f fd)(S:zAD N ps (zAA st))
    (hbody:∀ (cdv:Value) (A:Around) (outer:List Env) (s:Shared) (H:Hp) (E:XK),Room k (A.deeper (envOfC qual (zAA st) s.heap.objs.size f cdv))->GSs (cxOf CX0 P w K mg base N qual (zAA st) f cdv A outer s H E).nox (zAB st) g) :
    FnOk P w K mg base CX0 (k+1) f fd ps (spD K (dFun ps.length N.length g)):=by
  refine FnOk.framed (F.ok S (fun vs H Q E h=>?_) fun cdv A outer s H vs Q E hr h=>?_)
  . obtain ⟨ds,r,hd,hF,hk,c⟩:=h;unfold dFun at hF;by_cases q:ds.length=ps.length/\ps.length<=N.length
    . rw [<- hd.length];exact q.1
    . rw [if_neg q] at hF;cases hF
  obtain ⟨ds,r,hd,hF,hk,c⟩:=h;refine ⟨_,hbody cdv A outer s H E hr H,?_⟩;unfold dFun at hF;by_cases q:ds.length=ps.length/\ps.length<=N.length
  . rw [if_pos q] at hF;obtain ⟨o,eo,hF⟩:=bind_some hF;rw [<- q.1] at eo;refine ⟨[],_,o,zMn hd (by rw [q.1];exact q.2),by rw [zBB];exact Same.refl _,eo,?_⟩;cases o with
    | nx δ' =>
      cases hF;exact fun S' σ' H' d' s'=>c _ H' (s'.trans zAd) (by show Den _ _ _ _;rw [Den])
    | rt r' =>
      cases hF;exact ⟨hk,c⟩
    | bk δ'=>cases hF
    | ct δ'=>cases hF
  . rw [if_neg q] at hF;cases hF
end
end DL
end
section
namespace DL
open PySem
def zBr (env:Env):List (Str×NameKind)->List (Str×Addr)->List (Str×Addr)
  | [],acc=>acc
  | (n,k)::r,acc=>zBr env r (if k==.free then (match env.cells.lookup n with | some c=>(n,c)::acc | none=>acc) else acc)
theorem zFL {env:Env}(f:Str×NameKind->List (Str×Addr)->Sem (ForInStep (List (Str×Addr))))
    (hf:∀ n k cs,f (n,k) cs=if k==.free then (do let a<-cellOf env n;pure (.yield ((n,a)::cs))) else pure (.yield cs)) :
    ∀ (names:List (Str×NameKind)) (acc:List (Str×Addr)),(∀ x∈names,x.2=.free->∃ c,env.cells.lookup x.1=some c)->forIn names acc f=(pure (zBr env names acc):Sem (List (Str×Addr)))
  | [],acc,_=>by rw [forIn_nil];rfl
  | (n,k)::r,acc,h=>by
    rw [forIn_cons,hf];have hr:∀ x∈r,x.2=.free->∃ c,env.cells.lookup x.1=some c:=fun x z=>h x (mem_cons_of_mem _ z)
    cases e:k==.free with
    | true =>
      obtain ⟨c,ec⟩:=h (n,k) mem_cons_self (by simpa using e);have e1:cellOf env n=pure c:=by unfold cellOf;rw [ec]
      rw [if_pos rfl,e1];unfold zBr;rw [e,if_pos rfl,ec];exact zFL f hf r _ hr
    | false =>
      rw [if_neg Bool.false_ne_true];unfold zBr;rw [e,if_neg Bool.false_ne_true];exact zFL f hf r _ hr
theorem zBO {scope:Scope}{env:Env}(h:∀ x∈scope.names,x.2=.free->∃ c,env.cells.lookup x.1=some c):closureFor scope env=pure (zBr env scope.names []):=by
  show (forIn scope.names ([]:List (Str×Addr)) (fun x cs=>match x with
    | (name,kind)=>if (kind==NameKind.free)=true then (do let a<-cellOf env name;pure (ForInStep.yield ((name,a)::cs))) else pure (ForInStep.yield cs))>>=fun cs=>pure cs)=_
  rw [zFL (env:=env) _ (fun n k cs=>rfl) scope.names [] h]
  rfl
theorem zGF {env:Env}:∀ (names:List (Str×NameKind)) (acc:List (Str×Addr)),(∀ x c,acc.lookup x=some c->env.cells.lookup x=some c)->∀ x c,(zBr env names acc).lookup x=some c->env.cells.lookup x=some c
  | [],acc,h,x,c,e=>h x c e
  | (n,k)::r,acc,h,x,c,e=>by
    unfold zBr at e;refine zGF r _ ?_ x c e;intro y d q;cases z:k==.free with
    | false=>rw [z,if_neg Bool.false_ne_true] at q;exact h y d q
    | true =>
      rw [z,if_pos rfl] at q;cases w:env.cells.lookup n with
      | none=>rw [w] at q;exact h y d q
      | some c' =>
        rw [w] at q;dsimp only at q;rw [lookup_cons] at q;cases b:y==n with
        | true =>
          rw [b] at q;cases q;have:y=n:=by simpa using b
          rw [this];exact w
        | false=>rw [b] at q;exact h y d q
theorem zEk {env:Env}{x:Str}:∀ (names:List (Str×NameKind)) (acc:List (Str×Addr)),(∃ c,acc.lookup x=some c)->∃ c,(zBr env names acc).lookup x=some c
  | [],acc,h=>h
  | (n,k)::r,acc,h=>by
    unfold zBr;refine zEk r _ ?_;cases z:k==.free with
    | false=>rw [if_neg Bool.false_ne_true];exact h
    | true =>
      rw [if_pos rfl];cases w:env.cells.lookup n with
      | none=>exact h
      | some c' =>
        dsimp only;rw [lookup_cons];cases b:x==n with
        | true=>exact ⟨_,rfl⟩
        | false=>exact h
theorem zEF {env:Env}{x:Str}:∀ (names:List (Str×NameKind)) (acc:List (Str×Addr)),(x,NameKind.free)∈names->(∃ c,env.cells.lookup x=some c)->∃ c,(zBr env names acc).lookup x=some c
  | (n,k)::r,acc,hm,hc=>by
    unfold zBr;rcases mem_cons.mp hm with e | hm
    . cases e;obtain ⟨c,hc⟩:=hc;refine zEk r _ ?_;rw [show (NameKind.free==NameKind.free)=true from rfl,if_pos rfl,hc];exact ⟨c,by rw [lookup_cons];simp⟩
    . exact zEF r _ hm hc
theorem zEj {env:Env}{x:Str}:∀ (names:List (Str×NameKind)) (acc:List (Str×Addr)) (c:Addr),(zBr env names acc).lookup x=some c->(x,NameKind.free)∈names\/∃ c,acc.lookup x=some c
  | [],acc,c,h=>.inr ⟨c,h⟩
  | (n,k)::r,acc,c,h=>by
    unfold zBr at h;rcases zEj r _ c h with q | ⟨d,q⟩
    . exact .inl (mem_cons_of_mem _ q)
    . cases z:k==.free with
      | false=>rw [z,if_neg Bool.false_ne_true] at q;exact .inr ⟨d,q⟩
      | true =>
        rw [z,if_pos rfl] at q;cases w:env.cells.lookup n with
        | none=>rw [w] at q;exact .inr ⟨d,q⟩
        | some c' =>
          rw [w] at q;dsimp only at q;rw [lookup_cons] at q;cases b:x==n with
          | true =>
            have e1:x=n:=by simpa using b
            have e2:k=.free:=by simpa using z
            subst e1 e2;exact .inl mem_cons_self
          | false=>rw [b] at q;exact .inr ⟨d,q⟩
theorem zB5 {x:Str}:∀ (names:List (Str×NameKind)) (n:Nat) (acc:List (Str×Addr)) (c:Addr),(cellsFrom n names acc).lookup x=some c->((x,NameKind.cell)∈names/\n<=c)\/acc.lookup x=some c
  | [],n,acc,c,h=>.inr h
  | (y,k)::r,n,acc,c,h=>by
    unfold cellsFrom at h;cases z:k==.cell with
    | false =>
      rw [z,if_neg Bool.false_ne_true] at h;rcases zB5 r n acc c h with ⟨q1,q2⟩ | q
      . exact .inl ⟨mem_cons_of_mem _ q1,q2⟩
      . exact .inr q
    | true =>
      rw [z,if_pos rfl] at h;rcases zB5 r (n+1) _ c h with ⟨q1,q2⟩ | q
      . exact .inl ⟨mem_cons_of_mem _ q1,by omega⟩
      . rw [lookup_cons] at q;cases b:x==y with
        | true =>
          rw [b] at q;cases q;have e1:x=y:=by simpa using b
          have e2:k=.cell:=by simpa using z
          subst e1 e2;exact .inl ⟨mem_cons_self,le_refl _⟩
        | false=>rw [b] at q;exact .inr q
section
variable {M:Model}{A:Around}{E:Value->Shared->Prop}{s:Shared}
theorem zDy {scope:Scope}{globals:Addr}{cl:List (Str×Addr)}{qual:Str}{outer:Env}{Q:Env->Shared->Prop}
    (hQ:Q (newEnv scope s.heap.objs.size globals (cellsFrom (s.heap.objs.size+1) scope.names cl) qual none .none (some outer) builtinsNs) { s with heap:=pushCells (s.heap.push { cls:=.type "dict",data:=.dict #[] }) scope.names }) :
    wpAny M A (newFunctionEnv scope globals cl [] qual none .none (some outer)) Q E s:=by
  simp only [newFunctionEnv,Option.isSome_some,if_true];refine wpAny_bind (wpAny_alloc ?_);refine wpAny_bind (wpAny_layCells _ (fun name kind cells=>by cases hkc:kind==NameKind.cell<;>simp [hkc]) _ _ _ _ ?_);rw [show ({ s with heap:=s.heap.push { cls:=.type "dict",data:=.dict #[] } }:Shared).heap.objs.size=s.heap.objs.size+1 from Heap.size_push ..];refine wpAny_bind ?_;rw [forIn_nil];exact wpAny_pure (wpAny_pure hQ)
end
section
variable {prog:Program}{w:World}{A:Around}{R:Result->Shared->Prop}{s:Shared}
abbrev NB (prog:Program) (w:World) (A:Around) (env:Env) (R:Result->Shared->Prop):Value->Shared->Prop:=notedBy (model prog w) A env fun e s'=>R (.error e) s'
theorem zDY {elt target iter:Expr}{ifs:List Expr}{scope:Scope}{pos:Pos}{it acc:Value}{env:Env}(I:Nat->Shared->Prop)
    (turn:∀ n s,I n s->wpAny (model prog w) A (pyNext it) (fun r s₁=>match r with
      | none=>R (.ok .next) s₁
      | some v=>wpAny (model prog w) A (letOwnedTupleGo target it v) (fun _ s₁'=>wpAny (model prog w) A (assign target env v) (fun _ s₂ =>
          wpAny (model prog w) A (forIn ifs true fun c r=>if r=true then do let ok<-isTrue c env (eval c env);pure (ForInStep.yield ok) else pure (ForInStep.yield r)) (fun ok s₃ =>
            if ok=true then wpAny (model prog w) A (eval elt env) (fun x s₄ =>
              wpAny (model prog w) A (call (.builtin "list.append") [acc,x]) (fun _ s₅=>∃ m,m < n/\I m s₅) (NB prog w A env R) s₄) (NB prog w A env R) s₃
            else ∃ m,m < n/\I m s₃) (NB prog w A env R) s₂) (NB prog w A env R) s₁') (NB prog w A env R) s₁) (NB prog w A env R) s)
    (n:Nat) (h:I n s) :
    codeAny (model prog w) A (.compLoop (.ListComp elt [⟨target,iter,ifs,0⟩] scope pos) 0 it acc env) R s:=by
  refine codeAny_loop rfl I (fun n s hI=>?_) n h;show wpAny _ A ((compTurn (.ListComp elt [⟨target,iter,ifs,0⟩] scope pos) 0 it acc env).onRaise (fun x=>do noteFrame x env;theTreesLotGoes x)) _ _ s;refine wpAny_noted ?_;rw [compTurn_list];refine wpAny_bind (wpAny_standAt (wpAny_bind (wpAny_mono (turn n s hI) (fun r s₁ h₁=>?_) fun _ _ h'=>h')));cases r with
  | none=>exact wpAny_pure h₁
  | some v =>
    refine wpAny_bind (wpAny_mono h₁ (fun _ s₁' h₁'=>?_) fun _ _ h'=>h');refine wpAny_bind (wpAny_mono h₁' (fun _ s₂ h₂=>wpAny_bind (wpAny_mono h₂ (fun ok s₃ h₃=>?_) fun _ _ h'=>h')) fun _ _ h'=>h');cases ok with
    | false=>exact wpAny_pure ⟨rfl,h₃⟩
    | true =>
      exact wpAny_bind (wpAny_bind (wpAny_mono h₃ (fun x s₄ h₄=>wpAny_bind (wpAny_mono h₄ (fun _ s₅ h₅=>wpAny_pure (wpAny_pure ⟨rfl,h₅⟩)) fun _ _ h'=>h')) fun _ _ h'=>h'))
end
end DL
end
section
namespace DL
open PySem Spec PyProof.Rows L2
def relS (sc scope:Scope):Scope :=
  { scope with names:=scope.names.map fun (n,k)=>if (k==.free&&sc.kind==.function&&sc.names.lookup n==some .cell) then (n,.cell) else (n,k) }
theorem zDM {names:List (Str×NameKind)}{x:Str}{k:NameKind}:names.lookup x=some k->(x,k)∈names:=fun h=>PySem.mem_of_lookup h
theorem zCV:∀ {names:List (Str×NameKind)} {x:Str} {k:NameKind},(names.map (·.1)).Nodup->(x,k)∈names->names.lookup x=some k
  | (y,j)::r,x,k,nd,hm=>by
    rw [map_cons,nodup_cons] at nd;rw [lookup_cons];rcases mem_cons.mp hm with e | hm2
    . cases e;simp
    . have ne:(x==y)=false:=by
        cases b:x==y with
        | false=>rfl
        | true =>
          have e1:x=y:=by simpa using b
          exact absurd (show y∈r.map (·.1) from mem_map.mpr ⟨(x,k),hm2,e1⟩) nd.1
      rw [ne];exact zCV nd.2 hm2
theorem zCW {sc:Scope}:∀ (names:List (Str×NameKind)) (x:Str),(names.map fun (n,k)=>if (k==NameKind.free&&sc.kind==.function&&sc.names.lookup n==some .cell) then (n,NameKind.cell) else (n,k)).lookup x =
    (names.lookup x).map fun k=>if (k==NameKind.free&&sc.kind==.function&&sc.names.lookup x==some .cell) then NameKind.cell else k
  | [],x=>rfl
  | (n,k)::r,x=>by
    rw [map_cons,lookup_cons];have ih:=zCW (sc:=sc) r x;cases b:x==n with
    | true =>
      have e1:x=n:=by simpa using b
      subst e1;dsimp only;by_cases c:(k==NameKind.free&&sc.kind==.function&&sc.names.lookup x==some .cell)=true
      . rw [if_pos c,lookup_cons];simp only [beq_self_eq_true,Option.map_some,if_pos c]
      . rw [if_neg c,lookup_cons];simp only [beq_self_eq_true,Option.map_some,if_neg c]
    | false =>
      dsimp only;by_cases c:(k==NameKind.free&&sc.kind==.function&&sc.names.lookup n==some .cell)=true
      . rw [if_pos c,lookup_cons,b];exact ih
      . rw [if_neg c,lookup_cons,b];exact ih
def ownB (scope:Scope)(y:Str):Bool:=match scope.names.lookup y with
  | some .local=>true
  | some .cell=>true
  | _=>false
structure zCR (sc scope:Scope):Prop where
  kind:scope.kind=.function
  nd:(scope.names.map (·.1)).Nodup
  fr:∀ x∈scope.names,x.2=.free->sc.names.lookup x.1=some .cell\/sc.names.lookup x.1=some .free
theorem zB3:∀ (names:List (Str×NameKind)) (n:Nat) (acc:List (Str×Addr)),(∀ x y c,acc.lookup x=some c->acc.lookup y=some c->x=y)->(∀ x c,acc.lookup x=some c->c < n)->∀ x y c,(cellsFrom n names acc).lookup x=some c->(cellsFrom n names acc).lookup y=some c->x=y
  | [],n,acc,h1,_,x,y,c,e1,e2=>h1 x y c e1 e2
  | (z,k)::r,n,acc,h1,h2,x,y,c,e1,e2=>by
    unfold cellsFrom at e1 e2;cases b:k==.cell with
    | false =>
      rw [b,if_neg Bool.false_ne_true] at e1 e2;exact zB3 r n acc h1 h2 x y c e1 e2
    | true =>
      rw [b,if_pos rfl] at e1 e2;refine zB3 r (n+1) _ ?_ ?_ x y c e1 e2
      . intro x y c q1 q2;rw [lookup_cons] at q1 q2;cases b1:x==z with
        | true =>
          cases b2:y==z with
          | true =>
            have e3:x=z:=by simpa using b1
            have e4:y=z:=by simpa using b2
            rw [e3,e4]
          | false =>
            rw [b1] at q1;rw [b2] at q2;cases q1;exact absurd (h2 y _ q2) (lt_irrefl _)
        | false =>
          cases b2:y==z with
          | true =>
            rw [b1] at q1;rw [b2] at q2;cases q2;exact absurd (h2 x _ q1) (lt_irrefl _)
          | false =>
            rw [b1] at q1;rw [b2] at q2;exact h1 x y c q1 q2
      . intro x c q1;rw [lookup_cons] at q1;cases b1:x==z with
        | true=>rw [b1] at q1;cases q1;exact Nat.lt_succ_self _
        | false=>rw [b1] at q1;exact Nat.lt_succ_of_lt (h2 x c q1)
theorem zA1 {x:Str}:∀ (names:List (Str×NameKind)) (n:Nat) (acc:List (Str×Addr)),(∃ c,acc.lookup x=some c)->∃ c,(cellsFrom n names acc).lookup x=some c
  | [],n,acc,h=>h
  | (z,k)::r,n,acc,h=>by
    unfold cellsFrom;cases b:k==.cell with
    | false=>rw [if_neg Bool.false_ne_true];exact zA1 r n acc h
    | true =>
      rw [if_pos rfl];refine zA1 r (n+1) _ ?_;rw [lookup_cons];cases b1:x==z with
      | true=>exact ⟨_,rfl⟩
      | false=>exact h
theorem zB4 {x:Str}:∀ (names:List (Str×NameKind)) (n:Nat) (acc:List (Str×Addr)),(x,NameKind.cell)∈names->∃ c,(cellsFrom n names acc).lookup x=some c
  | (z,k)::r,n,acc,hm=>by
    unfold cellsFrom;rcases mem_cons.mp hm with e | hm
    . cases e;rw [show (NameKind.cell==NameKind.cell)=true from rfl,if_pos rfl];exact zA1 r (n+1) _ ⟨n,by rw [lookup_cons];simp⟩
    . cases b:k==.cell with
      | false=>rw [if_neg Bool.false_ne_true];exact zB4 r n acc hm
      | true=>rw [if_pos rfl];exact zB4 r (n+1) _ hm
theorem zAb:∀ (names:List (Str×NameKind)) (h:Heap) (b:Addr) (o:Obj),h.get? b=some o->(pushCells h names).get? b=some o
  | [],h,b,o,e=>e
  | (z,k)::r,h,b,o,e=>by
    unfold pushCells;cases c:k==.cell with
    | false=>rw [if_neg Bool.false_ne_true];exact zAb r h b o e
    | true=>rw [if_pos rfl];exact zAb r _ b o (get?_push_of_some _ e)
theorem zBk:∀ (names:List (Str×NameKind)) (h:Heap) (acc:List (Str×Addr)),(∀ x c,acc.lookup x=some c->∃ v,h.IsCell c v)->∀ x c,(cellsFrom h.objs.size names acc).lookup x=some c->∃ v,(pushCells h names).IsCell c v
  | [],h,acc,q,x,c,e=>q x c e
  | (z,k)::r,h,acc,q,x,c,e=>by
    unfold cellsFrom at e;unfold pushCells;cases b:k==.cell with
    | false =>
      rw [b,if_neg Bool.false_ne_true] at e;rw [if_neg Bool.false_ne_true];exact zBk r h acc q x c e
    | true =>
      rw [b,if_pos rfl] at e;rw [if_pos rfl];have es:(h.push { cls:=.type "cell",data:=.cell none }).objs.size=h.objs.size+1:=Heap.size_push ..;rw [<- es] at e;refine zBk r (h.push { cls:=.type "cell",data:=.cell none }) ((z,h.objs.size)::acc) ?_ x c e;intro y d p;rw [lookup_cons] at p;cases b1:y==z with
      | true =>
        rw [b1] at p;cases p;exact ⟨none,_,get?_push_size _ rfl,rfl⟩
      | false =>
        rw [b1] at p;obtain ⟨v,o,ho,hd⟩:=q y d p;exact ⟨v,o,get?_push_of_some _ ho,hd⟩
def zBN (scope:Scope)(X:Cx)(s:Shared):Env :=
  { newEnv scope s.heap.objs.size X.env.globals (cellsFrom (s.heap.objs.size+1) scope.names (zBr X.env scope.names [])) X.env.qual none .none (some X.env) builtinsNs with scope:=relabel scope X.env }
def zAN (X:Cx)(N:List Str)(scope:Scope)(s:Shared)(H:Hp)(fp:List Addr):Cx :=
  { X with N:=N,s₀:=s,H₀:=H,env:=zBN scope X s,outer:=X.stack,stack:=X.stack,ex:=fp,fn:=ownB scope,pn:=[],xe:=fun _ _=>False }
section
variable {X:Cx}{pins:List (Addr×Obj)}{σ σc:St}{H:Hp}{s:Shared}{fp:List Addr}{scope:Scope}{N:List Str}
theorem zEE (I:Inv X pins σ H s)(cs:zCR X.env.scope scope):∀ x∈scope.names,x.2=.free->∃ c,X.env.cells.lookup x.1=some c:=fun x hx hf =>
  I.ok.has x.1 (cs.fr x hx hf)
theorem zHk (I:Inv X pins σ H s)(hf:∀ b∈fp,FpOk X pins H b/\∃ o,s.heap.get? b=some o)(cs:zCR X.env.scope scope)
    (hσ:∀ (i:Nat) (x:Str) (v:V),N[i]?=some x->σc[i]?=some (some v)->Vis (relS X.env.scope scope) x->scope.names.lookup x=some .free/\∃ j:Nat,X.N[j]?=some x/\σ[j]?=some (some v)) (hlen:σc.length=N.length) :
    Inv (zAN X N scope s H fp) [] σc H { s with heap:=pushCells (s.heap.push { cls:=.type "dict",data:=.dict #[] }) scope.names }:=by
  have kp:∀ b o,s.heap.get? b=some o->(pushCells (s.heap.push { cls:=.type "dict",data:=.dict #[] }) scope.names).get? b=some o:=fun b o e=>zAb _ _ b o (get?_push_of_some _ e)
  have cl_env:∀ x c,(zBr X.env scope.names []).lookup x=some c->X.env.cells.lookup x=some c:=fun x c e=>zGF scope.names [] (fun _ _ q=>by simp at q) x c e
  have cl_lt:∀ x c,(zBr X.env scope.names []).lookup x=some c->c < s.heap.objs.size:=fun x c e=>by
    obtain ⟨v,q⟩:=I.cell x c (cl_env x c e);exact q.lt
  have cells:∀ x c,(zBN scope X s).cells.lookup x=some c->((x,NameKind.cell)∈scope.names/\s.heap.objs.size+1<=c)\/(zBr X.env scope.names []).lookup x=some c:=fun x c e=>zB5 scope.names _ _ c e
  have kd:∀ x,(zBN scope X s).kindOf x=(scope.names.lookup x).map fun k=>if (k==NameKind.free&&X.env.scope.kind==.function&&X.env.scope.names.lookup x==some .cell) then NameKind.cell else k:=fun x=>zCW (sc:=X.env.scope) scope.names x
  have hes:(s.heap.push { cls:=.type "dict",data:=.dict #[] }).objs.size=s.heap.objs.size+1:=Heap.size_push ..;refine ⟨⟨I.ok.mod,cs.kind,I.ok.glob,I.ok.blt,le_refl _,fun x y c h1 h2=>?_,fun x hx=>?_,fun x c hx h=>?_,I.ok.hd,I.ok.frames,.inl rfl,fun b hb=>⟨?_,fun x c h z=>?_⟩,fun b o e=>I.bs b o e,le_trans I.ok.bsz I.sz,fun b o e hb=>?_,fun b hb z=>?_,I.stack,I.stkFree,I.ok.pyl,I.tabs⟩,
    rfl,I.bare,Un.kept kp,⟨fun _=>none,?_,fun i x v h1 h2 h3=>?_⟩,fun x c h=>?_,I.hok.fresh (le_refl _),fun x c h=>?_,fun p hp=>absurd (show p∈([]:List (Addr×Obj)) from hp) (by simp),I.hok.kept kp,hlen⟩
  . exact zB3 scope.names _ _ (fun x y c q1 q2=>I.ok.inj x y c (cl_env x c q1) (cl_env y c q2)) (fun x c q=>Nat.lt_succ_of_lt (cl_lt x c q)) x y c h1 h2
  . replace hx:(zBN scope X s).kindOf x=some .cell\/(zBN scope X s).kindOf x=some .free:=hx;rw [kd x] at hx;cases q:scope.names.lookup x with
    | none=>rw [q] at hx;simp at hx
    | some k =>
      rw [q] at hx;by_cases kf:k=.free
      . subst kf;have hm:=zDM q;exact zA1 scope.names _ _ (zEF scope.names [] hm (zEE I cs _ hm rfl))
      . have e1:(k==NameKind.free)=false:=by simpa using kf
        simp only [e1,Bool.false_and,Option.map_some,Bool.false_eq_true,if_false] at hx;rcases hx with hx | hx
        . cases hx;exact zB4 scope.names _ _ (zDM q)
        . cases hx;exact absurd rfl kf
  . rcases cells x c h with ⟨_,q⟩ | q
    . exact le_trans (Nat.le_succ _) q
    . rcases zEj scope.names [] c q with hm | ⟨d,hm⟩
      . have e1:=zCV cs.nd hm;have hx':ownB scope x=true:=hx;unfold ownB at hx';rw [e1] at hx';cases hx'
      . simp at hm
  . obtain ⟨_,o,e⟩:=hf b hb;exact ne_of_lt (lt_size e)
  . obtain ⟨⟨f0,f1,f2,f3,f4,f5⟩,o,e⟩:=hf b hb;rcases cells x c h with ⟨_,q⟩ | q
    . have:=lt_size e;rw [z] at q;exact absurd (lt_of_lt_of_le (Nat.lt_succ_of_lt this) q) (lt_irrefl _)
    . exact f4 x c (cl_env x c q) z
  . obtain ⟨⟨f0,f1,f2,f3,f4,f5⟩,_⟩:=hf b hb;rcases f3 with f3 | f3
    . exact I.ok.noex b o e f3
    . exact absurd (lt_of_lt_of_le (lt_size e) (le_trans I.ok.bsz f3)) (lt_irrefl _)
  . obtain ⟨⟨f0,f1,f2,f3,f4,f5⟩,_⟩:=hf b hb;rcases mem_cons.mp (I.stkSub b z) with q | q
    . exact f1 q
    . exact f2 q
  . exact (Heap.Ns.new s.heap (.type "dict")).keeps (zAb _ _)
  . obtain ⟨q1,j,q2,q3⟩:=hσ i x v h1 h2 h3;have hm:=zDM q1;have hv:=cs.fr _ hm rfl;obtain ⟨m,hn,hl⟩:=I.loc;obtain ⟨u,ru,lk⟩:=hl j x v q2 q3 (hv.elim (fun e=>.inr (.inl e)) fun e=>.inr (.inr e));refine ⟨u,ru,.inr ⟨?_,?_⟩⟩
    . show (zBN scope X s).kindOf x=_\/(zBN scope X s).kindOf x=_;rw [kd x,q1];dsimp only [Option.map_some];split
      . exact .inl rfl
      . exact .inr rfl
    . rcases lk with ⟨k1,_⟩ | ⟨_,c,k2,k3⟩
      . have k1':X.env.scope.names.lookup x=some .local:=k1;rcases hv with hv | hv
        . rw [k1'] at hv;cases hv
        . rw [k1'] at hv;cases hv
      . obtain ⟨c',e'⟩:=zA1 scope.names (s.heap.objs.size+1) _ (zEF (env:=X.env) scope.names [] hm ⟨c,k2⟩);refine ⟨c',e',?_⟩;rcases cells x c' e' with ⟨z,_⟩ | z
        . have:=zCV cs.nd z;rw [q1] at this;cases this
        . have:=cl_env x c' z;rw [k2] at this;cases this;exact k3.keeps kp
  . have e':(cellsFrom (s.heap.push { cls:=.type "dict",data:=.dict #[] }).objs.size scope.names (zBr X.env scope.names [])).lookup x=some c:=by rw [hes];exact h
    exact zBk scope.names _ _ (fun y d q=>by
      obtain ⟨v,w⟩:=I.cell y d (cl_env y d q);exact ⟨v,w.keeps fun b o e=>get?_push_of_some _ e⟩) x c e'
  . rcases cells x c h with ⟨_,q⟩ | q
    . exact I.hok.fresh (le_trans (Nat.le_succ _) q)
    . exact I.freeC x c (cl_env x c q)
end
abbrev noN:Str := ""
def mask {α:Type}(z:α):List Nat->List α->List α
  | [],l=>l
  | m::ms,l=>mask z ms (l.set m z)
theorem zAk {α:Type}(z:α):∀ (ms:List Nat) (l:List α),(mask z ms l).length=l.length
  | [],l=>rfl
  | m::ms,l=>by unfold mask;rw [zAk z ms,length_set]
theorem zA4 {α:Type}{z y:α}{i:Nat}:∀ {ms:List Nat} {l:List α},(mask z ms l)[i]?=some y->(y=z/\i∈ms)\/(l[i]?=some y/\i∉ms)
  | [],l,h=>.inr ⟨h,by simp⟩
  | m::ms,l,h=>by
    unfold mask at h;rcases zA4 h with ⟨e,hm⟩ | ⟨e,hm⟩
    . exact .inl ⟨e,mem_cons_of_mem _ hm⟩
    . rcases zAU e with ⟨e1,e2,_⟩ | ⟨ne,e1⟩
      . exact .inl ⟨e2,by rw [<- e1];exact mem_cons_self⟩
      . exact .inr ⟨e1,fun z=>(mem_cons.mp z).elim (fun q=>ne q.symm) hm⟩
theorem zE6 {α:Type}{z:α}{i:Nat}:∀ {ms:List Nat} {l:List α},i∉ms->(mask z ms l)[i]?=l[i]?
  | [],l,_=>rfl
  | m::ms,l,h=>by
    unfold mask;rw [zE6 fun q=>h (mem_cons_of_mem _ q),getElem?_set_ne fun q=>h (by rw [q];exact mem_cons_self)]
theorem zBe {α:Type}{l:List (Option α)}{k i:Nat}{y:α}(h:(l++List.replicate k none)[i]?=some (some y)):l[i]?=some (some y)/\i < l.length:=by
  by_cases hi:i < l.length
  . rw [getElem?_append_left hi] at h;exact ⟨h,hi⟩
  . rw [getElem?_append_right (by omega),getElem?_replicate] at h;split at h<;>cases h
theorem DS.ext {K:W.Frag}{H:Hp}{S:List Addr}{σ:St}{δ:Dst}(h:DS K H S σ δ)(ms:List Nat)(k:Nat):DS K H S (mask none ms σ++List.replicate k none) (mask none ms δ++List.replicate k none):=by
  refine ⟨by rw [length_append,length_append,zAk,zAk,h.len,length_replicate,length_replicate],h.sok,fun i d o q=>?_,fun i j d e a q1 q2 q3 q4=>?_⟩
  . obtain ⟨q,hi⟩:=zBe q;rcases zA4 q with ⟨z,_⟩ | ⟨q,ni⟩
    . cases z
    . obtain ⟨v,w1,w2⟩:=h.get i d o q;exact ⟨v,by rw [getElem?_append_left (by rw [zAk] at hi ⊢;rw [h.len];exact hi),zE6 ni];exact w1,w2⟩
  . obtain ⟨q1,_⟩:=zBe q1;obtain ⟨q2,_⟩:=zBe q2;obtain ⟨q3,_⟩:=zBe q3;obtain ⟨q4,_⟩:=zBe q4;rcases zA4 q1 with ⟨z,_⟩ | ⟨q1,_⟩
    . cases z
    rcases zA4 q2 with ⟨z,_⟩ | ⟨q2,_⟩
    . cases z
    rcases zA4 q3 with ⟨z,_⟩ | ⟨q3,_⟩
    . cases z
    rcases zA4 q4 with ⟨z,_⟩ | ⟨q4,_⟩
    . cases z
    exact h.inj i j d e a q1 q2 q3 q4
def zBY (t:D->Dst->Option Dst)(c:Dst->Option Bool)(e:Dst->Option R):List D->Dst->Option (List D)
  | [],_=>some []
  | x::xs,δ=>(t x δ).bind fun δ1=>(c δ1).bind fun b=>if b=true then (e δ1).bind fun r=>if r.2=.dt then none else (zBY t c e xs δ1).bind fun ys=>some (r.1::ys) else zBY t c e xs δ1
def zFK (ms:List Nat)(k:Nat)(f:Dst->Option (List D))(t:D->Dst->Option Dst)(c:Dst->Option Bool)(e:Dst->Option R):Dst->Option R:=fun δ =>
  (f δ).bind fun zs=>if zs.length<=10000 then (zBY t c e zs (mask none ms δ++List.replicate k none)).bind fun ys=>some (.lst ys,.fr) else none
def GCs (X:Cx)(ifs:List Expr)(c:Dst->Option Bool):Prop:=∀ (pins:List (Addr×Obj)) (s:Shared) (σ:St) (H:Hp) (Q:Bool->Hp->Prop),Inv X pins σ H s->gB X.K c σ H Q ->
  wpAny (model X.prog X.w) X.A (forIn ifs true fun c r=>if r=true then do let ok<-isTrue c X.env (eval c X.env);pure (ForInStep.yield ok) else pure (ForInStep.yield r)) (TP X pins σ Q) X.xe s
section
variable {X:Cx}
theorem zPj:GCs X [] (fun _=>some true):=fun pins s σ H Q I zy119=>by obtain ⟨S,δ,b,ds,e,c⟩:=zy119;exact wpAny_tests_nil ⟨H,I,by cases e;exact c H (Same.refl _)⟩
theorem zPi {a:Expr}{c:Dst->Option Bool}(h:GT X a c):GCs X [a] c:=fun pins s σ H Q I q=>wpAny_tests_one (h pins s σ H Q I q)
theorem zGC {tg iter elt:Expr}{ifs:List Expr}{scope:Scope}{pos:Pos}{ms:List Nat}{xs:List Str}{f:Dst->Option (List D)}{t:D->Dst->Option Dst}{c:Dst->Option Bool}{e:Dst->Option R}(hcalm:X.calm=true)(hi:GI X tg iter f)(cs:zCR X.env.scope scope)
    (hm:∀ (i:Nat) x,X.N[i]?=some x->ownB scope x=true->i∈ms)
    (hg:∀ s H fp,GG (zAN X (mask noN ms X.N++xs) scope s H fp) tg t)
    (hc:∀ s H fp,GCs (zAN X (mask noN ms X.N++xs) scope s H fp) ifs c) (he:∀ s H fp,GE (zAN X (mask noN ms X.N++xs) scope s H fp) elt e)
    {pins:List (Addr×Obj)} {s:Shared} {σ:St} {H:Hp} {S:List Addr} {δ:Dst} {zs ys:List D} (I:Inv X pins σ H s) (ds:DS X.K H S σ δ) (ez:f δ=some zs) (hz:zs.length<=10000) (ey:zBY t c e zs (mask none ms δ++List.replicate xs.length none)=some ys)
    {RR:Value->Addr->Result->Shared->Prop}
    (fin:∀ (D C:Addr) (s1:Shared) (H'':Hp) (m:Str->Option Value),s1.heap.Ns C m->(∀ h',Heap.SameBut C s1.heap h'->Inv X pins σ H'' { s1 with heap:=h' })->H'' C=none->C≠X.env.locals->C∉X.fs->X.s₀.heap.objs.size<=C ->
      (∀ x c,X.env.cells.lookup x=some c->c≠C)->(∀ p∈X.pn++pins,p.1≠C)->Same H H''->RV X.K H H'' S (.lst ys,.fr) (.ref D)->RR (.ref D) C (.ok .next) s1) :
    wpAny (model X.prog X.w) X.A (eval iter X.env) (fun x s₁=>wpAny (model X.prog X.w) X.A (pyIter x) (fun it s₂=>wpAny (model X.prog X.w) X.A (newList []) (fun acc s₃ =>
      wpAny (model X.prog X.w) X.A (newFunctionEnv scope X.env.globals (zBr X.env scope.names []) [] X.env.qual none .none (some X.env)) (fun cenv s₄ =>
        codeAny (model X.prog X.w) X.A (.compStart (.ListComp elt [⟨tg,iter,ifs,0⟩] scope pos) 0 it acc { cenv with scope:=relabel scope X.env }) (RR acc cenv.locals) s₄) X.xe s₃) X.xe s₂) X.xe s₁) X.xe s:=by
  obtain ⟨wi,hwi,hI⟩:=hi;refine thn (hwi pins s σ H (fun J H1=>Same H H1/\∀ (i:Nat) H2,i<=zs.length->Same (hide H1 S) H2->(i=zs.length->J.stop i H2)/\(i < zs.length->J.go i H2/\∀ v H3,J.yld i H2 v H3->H3=H2/\∀ x,zs[i]?=some x->Den X.K (hide H1 S) x v)) I (hI σ H S δ zs _ ds ez fun J H1 s1 hJ=>⟨s1,hJ⟩)) fun v s1 h1=>thn h1 fun itv s2 h2=>?_
  obtain ⟨it,fp,tn,J,H2,rfl,I2,T,st2,f2,s12,hJ⟩:=h2;refine wpAny_newObj_type (zDy ?_);have e3:∃ s3:Shared,s3={ s2 with heap:=s2.heap.push { cls:=.type "list",dict:=none,data:=.seq ([]:List Value).toArray } }:=⟨_,rfl⟩;obtain ⟨s3,hs3⟩:=e3;rw [<- hs3];have eD:∃ D,D=s2.heap.objs.size:=⟨_,rfl⟩;obtain ⟨D,hD⟩:=eD;rw [<- hD];have hC:s3.heap.objs.size=D+1:=by rw [hs3,hD];exact Heap.size_push ..
  have k23:∀ b o,s2.heap.get? b=some o->s3.heap.get? b=some o:=fun b o q=>by rw [hs3];exact get?_push_of_some _ q
  have I3:Inv X pins σ H2 s3:=by rw [hs3];exact I2.kept (t':=s2.toks) fun b o q=>get?_push_of_some _ q
  have oD:s3.heap.get? D=some { cls:=.type "list",data:=.seq ([]:List Value).toArray }:=by rw [hs3,hD];exact get?_push_size _ rfl
  have H2D:H2 D=none:=by rw [hD];exact I2.hok.fresh (le_refl _)
  have fplt:∀ b∈fp,b < D:=fun b hb=>by
    obtain ⟨o,q,_⟩:=T.obj _ _ st2 b hb;rw [hD];exact lt_size q
  have hfD:∀ b∈D::fp,FpOk X pins H2 b/\∃ o,s3.heap.get? b=some o:=fun b hb=>by
    rcases mem_cons.mp hb with rfl | hb
    . exact ⟨I2.fpOk (by rw [hD];exact le_refl _) H2D,_,oD⟩
    . obtain ⟨o,q,_⟩:=T.obj _ _ st2 b hb;exact ⟨f2 b hb,o,k23 b o q⟩
  have lenN:(mask none ms σ++List.replicate xs.length none).length=(mask noN ms X.N++xs).length:=by
    rw [length_append,length_append,zAk,zAk,length_replicate,I.len]
  have Ic:=zHk (fp:=D::fp) (N:=mask noN ms X.N++xs) (σc:=mask none ms σ++List.replicate xs.length none) I3 hfD cs (fun i x v q1 q2 q3=>by
    obtain ⟨q2,hi2⟩:=zBe q2;rcases zA4 q2 with ⟨z,_⟩ | ⟨q2,ni⟩
    . cases z
    have hiN:i < (mask noN ms X.N).length:=by rw [zAk] at hi2 ⊢;rw [<- I.len];exact hi2
    rw [getElem?_append_left hiN] at q1;rcases zA4 q1 with ⟨_,z⟩ | ⟨q1,_⟩
    . exact absurd z ni
    refine ⟨?_,i,q1,q2⟩;have no:ownB scope x=false:=by
      cases b:ownB scope x with
      | false=>rfl
      | true=>exact absurd (hm i x q1 b) ni
    unfold Vis relS at q3;rw [zCW] at q3;unfold ownB at no;cases w:scope.names.lookup x with
    | none=>rw [w] at q3;simp at q3
    | some k =>
      rw [w] at no;cases k with
      | free=>rfl
      | «local»=>cases no
      | cell=>cases no
      | _=>rw [w] at q3;simp at q3) lenN
  have st4:tn 0 (pushCells (s3.heap.push { cls:=.type "dict",data:=.dict #[] }) scope.names):=T.keep 0 _ _ st2 fun b hb o q=>zAb _ _ b o (get?_push_of_some _ (k23 b o q))
  have loop:codeAny (model X.prog X.w) X.A (.compLoop (.ListComp elt [⟨tg,iter,ifs,0⟩] scope pos) 0 (.ref it) (.ref D) (zBN scope X s3)) (RR (.ref D) s3.heap.objs.size) { s3 with heap:=pushCells (s3.heap.push { cls:=.type "dict",data:=.dict #[] }) scope.names }:=by
    refine zDY (fun n s'=>∃ (i:Nat) (σ':St) (H':Hp) (δ':Dst) (done more:List DL.D) (vs:List V) (its:List Value),Inv (zAN X (mask noN ms X.N++xs) scope s3 H2 (D::fp)) [] σ' H' s'/\tn i s'.heap/\(∀ b∈D::fp,H' b=none)/\s'.heap.PlainList D its.toArray/\Vals vs its/\DS X.K H' S σ' δ' /\
      Same H2 H'/\DenL X.K (hide H' S) done vs/\zBY t c e (zs.drop i) δ'=some more/\done++more=ys/\i<=zs.length/\done.length<=i/\n=zs.length - i) ?_ zs.length
      ⟨0,_,H2,_,[],ys,[],[],Ic,st4,fun b hb=>(hfD b hb).1.1,⟨_,zAb _ _ D _ (get?_push_of_some _ oD)⟩,.nil,(ds.mono s12).ext ms xs.length,Same.refl _,.nil,by rw [List.drop_zero];exact ey,rfl,zero_le _,le_refl _,by simp⟩
    rintro n s' ⟨i,σ',H',δ',done,more,vs,its,Ic',st',fr',⟨nD,pl⟩,rv,ds',sm,dn,ec,ed,hi',hl',rfl⟩;have lenv:its.length<=zs.length:=by rw [<- rv.length,<- dn.length];exact le_trans hl' hi'
    obtain ⟨j1,j2⟩:=hJ i H' hi' (zAd.trans sm);have fpc:∀ {b:Addr} {pn:List (Addr×Obj)} {Hx:Hp},b∈D::fp->Hx b=none->(∀ p∈pn,p.1≠b)->FpOk (zAN X (mask noN ms X.N++xs) scope s3 H2 (D::fp)) pn Hx b:=fun {b pn Hx} hb hn hp =>
      ⟨hn,(Ic'.ok.exf b hb).1,Ic'.ok.exfs b hb,.inl hb,(Ic'.ok.exf b hb).2,fun p hp'=>hp p (show p∈pn from hp')⟩
    have pinD:∀ {p:Addr×Obj} {h:Heap},p∈zA2 [D] h->p.1=D:=fun {p h} hp=>by simpa using (zDw hp).1
    have I0:Inv (zAN X (mask noN ms X.N++xs) scope s3 H2 (D::fp)) ([]++zA2 [D] s'.heap) σ' H' s':=Ic'.pinned (fp:=[D]) (fun b hb=>by
      have eb:b=D:=by simpa using hb
      subst eb;exact fpc mem_cons_self (fr' _ mem_cons_self) fun p hp=>absurd hp (by simp)) fun b hb=>by
      have eb:b=D:=by simpa using hb
      subst eb;exact ⟨_,pl,fun v z=>by cases z⟩
    have fp0:∀ b∈fp,FpOk (zAN X (mask noN ms X.N++xs) scope s3 H2 (D::fp)) ([]++zA2 [D] s'.heap) H' b:=fun b hb=>fpc (mem_cons_of_mem _ hb) (fr' b (mem_cons_of_mem _ hb)) fun p hp z=>by
      have q1:=pinD (by simpa using hp);have q2:=fplt b hb;rw [<- z,q1] at q2;exact absurd q2 (lt_irrefl _)
    have memD:(D,_)∈zA2 [D] s'.heap:=zBR (by simp) pl;by_cases hlt:i < zs.length
    . obtain ⟨go,yl⟩:=j2 hlt;refine wpAny_mono (T.item (zAN X (mask noN ms X.N++xs) scope s3 H2 (D::fp)) rfl rfl rfl hcalm i ([]++zA2 [D] s'.heap) s' σ' H' _ I0 fp0 st' go) (fun r s4 zz60=>?_) fun _ _ z=>z
      obtain ⟨u,hr,h4⟩:=zz60;subst hr;refine wpAny_mono h4 (fun _ s5 zz61=>?_) fun _ _ z=>z
      obtain ⟨x,H5,I5,r5,y5,st5,fr5⟩:=zz61;obtain ⟨rfl,hv⟩:=yl x H5 y5;have pl5:=(I5.pin (D,_) (mem_append_right _ (mem_append_right _ memD))).1;have I5':Inv (zAN X (mask noN ms X.N++xs) scope s3 H2 (D::fp)) ([]++zA2 (D::fp) s5.heap) σ' H5 s5:=I5.unpinned.pinned (fp:=D::fp) (fun b hb=>fpc hb (fr' b hb) fun p hp=>absurd hp (by simp)) fun b hb=>by
        rcases mem_cons.mp hb with rfl | hb
        . exact ⟨_,pl5,fun v z=>by cases z⟩
        . exact T.obj _ _ st5 b hb
      have there:∀ {Hx:Hp} {sx:Shared} {σx:St},Inv (zAN X (mask noN ms X.N++xs) scope s3 H2 (D::fp)) ([]++zA2 (D::fp) s5.heap) σx Hx sx->∀ b∈D::fp,(∀ o,s5.heap.get? b=some o->sx.heap.get? b=some o)/\Hx b=none:=fun {Hx sx σx} Ix b hb=>by
        have q:∃ o,s5.heap.get? b=some o:=by
          rcases mem_cons.mp hb with rfl | hb
          . exact ⟨_,pl5⟩
          . obtain ⟨o,q,_⟩:=T.obj _ _ st5 b hb;exact ⟨o,q⟩
        obtain ⟨o,q⟩:=q;have w:=Ix.pin (b,o) (mem_append_right _ (mem_append_right _ (zBR hb q)));exact ⟨fun o' q'=>by rw [q] at q';cases q';exact w.1,w.2.1⟩
      rw [drop_eq_getElem_cons hlt] at ec;obtain ⟨δ1,e1,ec⟩:=bind_some ec;obtain ⟨b,eb,ec⟩:=bind_some ec;obtain ⟨g,hg1,hg2⟩:=hg s3 H2 (D::fp);have dx:Den X.K (hide H5 S) zs[i] x:=(hv _ (by simp [hlt])).mono (zAP sm);refine wpAny_mono (hg1 _ s5 σ' H5 x u _ I5' r5 (hg2 X.K rfl zs[i] x σ' H5 S δ' δ1 (fun σ6 H6=>H6=H5/\DS X.K H5 S σ6 δ1) ds' dx e1 fun σ6 d6=>⟨rfl,d6⟩)) (fun _ s6 zz62=>?_) fun _ _ z=>z.elim
      obtain ⟨σ6,H6,I6,q6,ds6⟩:=zz62;subst q6;refine wpAny_mono (hc s3 H2 (D::fp) _ s6 σ6 H6 (fun b' H7=>b'=b/\Same H6 H7) I6 ⟨S,δ1,b,ds6,eb,fun H7 s7=>⟨rfl,s7⟩⟩) (fun ok s7 zz63=>?_) fun _ _ z=>z.elim
      obtain ⟨H7,I7,q7,s67⟩:=zz63;subst q7;cases ok with
      | false =>
        rw [if_neg Bool.false_ne_true] at ec;rw [if_neg Bool.false_ne_true];exact ⟨zs.length - (i+1),by omega,i+1,σ6,H7,δ1,done,more,vs,its,I7.unpinned,T.keep _ _ _ st5 fun b hb o q=>(there I7 b (mem_cons_of_mem _ hb)).1 o q,fun b hb=>(there I7 b hb).2,⟨nD,(there I7 D mem_cons_self).1 _ pl5⟩,rv,ds6.mono s67,
          sm.trans s67,dn.mono (zAP s67),ec,ed,hlt,Nat.le_succ_of_le hl',rfl⟩
      | true =>
        rw [if_pos rfl] at ec;rw [if_pos rfl];obtain ⟨r,er,ec⟩:=bind_some ec;by_cases hr:r.2=.dt
        . rw [if_pos hr] at ec;cases ec
        rw [if_neg hr] at ec;obtain ⟨more',em,ec⟩:=bind_some ec;cases ec;refine wpAny_mono (he s3 H2 (D::fp) _ s7 σ6 H7 (fun v H8=>Same H7 H8/\RV X.K H7 H8 S r v) I7 ⟨S,δ1,r,ds6.mono s67,er,fun v H8 s8 r8=>⟨s8,r8⟩⟩) (fun uv s8 zz64=>?_) fun _ _ z=>z.elim
        obtain ⟨v,H8,I8,rv8,s78,r8⟩:=zz64;have pl8:=(there I8 D mem_cons_self).1 _ pl5;refine wpAny_list_append_plain (hsz:=by rw [size_toArray];exact le_trans lenv (zCe hz)) ⟨nD,pl8⟩ fun h9 hl9 hs9=>?_
        have I9:Inv (zAN X (mask noN ms X.N++xs) scope s3 H2 (D::fp)) [] σ6 H8 { s8 with heap:=h9 }:=I8.unpinned.turned (it:=D) (t':=s8.toks) (fun b o hb q=>hs9.extBut b o hb q) (there I8 D mem_cons_self).2 (Ic'.ok.exf D mem_cons_self).1 (.inl mem_cons_self) (Ic'.ok.exf D mem_cons_self).2 fun p hp=>absurd (show p∈([]:List (Addr×Obj)) from hp) (by simp)
        have hden:=(RV.den (d:=r.1) (k:=r.2) r8 hr);refine ⟨zs.length - (i+1),by omega,i+1,σ6,H8,δ1,done++[r.1],more',vs++[v],its++[uv],I9,T.keep _ _ _ st5 fun b hb o q=>hs9.extBut b o (fun z=>?_) ((there I8 b (mem_cons_of_mem _ hb)).1 o q),fun b hb=>(there I8 b hb).2,?_,rv.append (.cons rv8 .nil),ds6.mono (s67.trans s78),
          sm.trans (s67.trans s78),(dn.mono (zAP (s67.trans s78))).append (.cons hden .nil),em,by rw [append_assoc];exact ed,hlt,by rw [length_append,length_singleton];omega,rfl⟩
        . have:=fplt b hb;rw [z] at this;exact absurd this (lt_irrefl _)
        . have ea:its.toArray.push uv=(its++[uv]).toArray:=by simp
          rw [<- ea];exact hl9
    . have ei:i=zs.length:=by omega
      subst ei;refine wpAny_mono (T.done (zAN X (mask noN ms X.N++xs) scope s3 H2 (D::fp)) rfl rfl rfl hcalm _ ([]++zA2 [D] s'.heap) s' σ' H' _ I0 fp0 st' (j1 rfl)) (fun r s4 zz65=>?_) fun _ _ z=>z
      obtain ⟨hr,I4⟩:=zz65;subst hr;rw [drop_eq_nil_of_le (le_refl _)] at ec;cases ec;rw [append_nil] at ed;subst ed;obtain ⟨m,ns,_⟩:=id I4.loc;have eC:(zAN X (mask noN ms X.N++xs) scope s3 H2 (D::fp)).env.locals=D+1:=hC;rw [eC] at ns;have pl4:=I4.pin (D,_) (mem_append_right _ (mem_append_right _ memD));have HD:H' D=none:=pl4.2.1;have HC:H' (D+1)=none:=by have:=I4.free;rw [eC] at this;exact this
      have CD:D≠D+1:=ne_of_lt (Nat.lt_succ_self D);have neD:∀ {b:Addr} {o:HO},H' b=some o->b≠D:=fun {b o} q z=>by rw [z,HD] at q;cases q
      have ne2:∀ {b:Addr} {o:HO},H2 b=some o->b≠D:=fun {b o} q z=>by rw [z,H2D] at q;cases q
      have lt2:∀ {b:Addr} {o:Obj},s2.heap.get? b=some o->b < D:=fun {b o} q=>by rw [hD];exact lt_size q
      have outex:∀ {b:Addr} {o:Obj},s2.heap.get? b=some o->b∉fp->b∉D::fp:=fun {b o} q hx z=>(mem_cons.mp z).elim (fun z=>absurd (lt2 q) (by rw [z];exact lt_irrefl _)) hx
      have neC:∀ {b:Addr} {o:Obj},s2.heap.get? b=some o->b≠D+1:=fun {b o} q=>ne_of_lt (Nat.lt_succ_of_lt (lt2 q))
      have gt2:s2.heap.objs.size<=D+1:=by rw [<- hD];exact Nat.le_succ _
      show RR (.ref D) s3.heap.objs.size (.ok .next) s4;rw [hC];refine fin D (D+1) s4 (upd H' D (.lst vs)) m ns (fun h' sb=>?_) ?_ (Nat.ne_of_gt (lt_of_lt_of_le I2.lt gt2)) (I2.nofs gt2) (le_trans I2.sz gt2) (fun x c q z=>?_) (fun p hp z=>?_) ?_ ?_
      . refine I2.call' (s':={ s4 with heap:=h' }) (ch:=fp) ?_ ⟨fun b o q n hb hx=>sb.extBut b o (neC q) (I4.base.keep b o (k23 b o q) n hb (outex q hx)),fun b o q n hb hx=>?_,fun b o q n hx=>?_,fun b o q hx=>?_,fun b ws q=>?_,fun b o w q=>?_,fun b ps q=>?_⟩ (fun b w q=>?_) I4.bare fun b hb=>?_
        . have:=I4.os;rw [hs3] at this;exact this
        . obtain ⟨sl,w⟩:=I4.base.slot b o (k23 b o q) n hb (outex q hx);exact ⟨sl,sb.extBut b _ (neC q) w⟩
        . rw [zAO (ne_of_lt (lt2 q))];exact I4.base.free b o (k23 b o q) n (outex q hx)
        . obtain ⟨o',w⟩:=I4.base.there b o (k23 b o q) (outex q hx);exact ⟨o',sb.extBut b _ (neC q) w⟩
        . rw [zAO (ne2 q)];exact I4.base.tups b ws q
        . rw [zAO (ne2 q)];exact I4.base.frzs b o w q
        . rw [zAO (ne2 q)];exact I4.base.tbls b ps q
        . by_cases z:b=D
          . subst z;rw [zAe] at q;cases q;exact ⟨by rw [rv.length];exact le_trans lenv (zCe hz),its,nD,rv,sb.extBut b _ CD pl4.1⟩
          . rw [zAO z] at q;refine (I4.hok b w q).stay (fun d v hd w'=>sb.extBut d v (fun z'=>?_) w') (fun d w'=>by rw [zAO (neD w')];exact w') (fun d ws w'=>by rw [zAO (neD w')];exact w') fun d ob u w' _=>by rw [zAO (neD w')];exact w'
            rcases hd with hd | hd
            . rw [<- hd,z',HC] at q;cases q
            . rw [z',HC] at hd;cases hd
        . obtain ⟨f0,f1,f2',f3,f4,f5⟩:=f2 b hb;exact ⟨f3,f1,f4,f5⟩
      . rw [zAO (Ne.symm CD)];exact HC
      . obtain ⟨v,w⟩:=I2.cell x c q;have:=w.lt;rw [z,<- hD] at this;exact absurd (Nat.lt_trans this (Nat.lt_succ_self D)) (lt_irrefl _)
      . have:=lt_size (I2.pin p hp).1;rw [z,<- hD] at this;exact absurd (Nat.lt_trans this (Nat.lt_succ_self D)) (lt_irrefl _)
      . exact fun b o q=>by
          have w:=sm b o (s12 b o q);rw [zAO (neD w)];exact w
      . refine ⟨D,vs,done,rfl,rfl,fun z=>?_,?_,zAe,dn.mono fun b o q=>?_⟩
        . obtain ⟨ws,w,_⟩:=(ds.mono s12).sok D z;rw [H2D] at w;cases w
        . exact s12.free H2D
        . obtain ⟨q1,q2⟩:=zAq q;rw [zAM fun z=>(mem_cons.mp z).elim (neD q2) q1,zAO (neD q2)];exact q2
  exact codeAny_compStart_list loop (T.self X.A 0 _ _ _ st4 loop)
theorem zCY {sc scope:Scope}(cs:zCR sc scope):∀ x∈scope.names,x.2=.local->scope.names.lookup x.1=some .local:=fun x hx e=>by
  have:=zCV (k:=x.2) cs.nd (x:=x.1) hx;rw [this,e]
theorem zGo {tg iter elt:Expr}{ifs:List Expr}{scope:Scope}{pos:Pos}{ms:List Nat}{xs:List Str}{f:Dst->Option (List D)}{t:D->Dst->Option Dst}{c:Dst->Option Bool}{e:Dst->Option R}(hcalm:X.calm=true)(hi:GI X tg iter f)(hs:∀ x,foldedSetIterable iter X.env x=pure x)(cs:zCR X.env.scope scope)
    (hm:∀ (i:Nat) x,X.N[i]?=some x->ownB scope x=true->i∈ms)
    (hg:∀ s H fp,GG (zAN X (mask noN ms X.N++xs) scope s H fp) tg t)
    (hc:∀ s H fp,GCs (zAN X (mask noN ms X.N++xs) scope s H fp) ifs c) (he:∀ s H fp,GE (zAN X (mask noN ms X.N++xs) scope s H fp) elt e) :
    GE X (.ListComp elt [⟨tg,iter,ifs,0⟩] scope pos) (zFK ms xs.length f t c e):=by
  intro pins s σ H Q I ⟨S,δ,z,ds,ez,cc⟩;obtain ⟨zs,e1,ez⟩:=bind_some ez;by_cases hz:zs.length<=10000
  . rw [if_pos hz] at ez;obtain ⟨ys,e2,ez⟩:=bind_some ez;cases ez;rw [eval_ListComp];refine wpAny_comprehension_free (use:=none) rfl hs (zBO (zEE I cs)) cs.kind (zCY cs) ?_;refine zGC (RR:=fun acc C=>compPost (model X.prog X.w) X.A X.xe none (EP X pins σ Q) acc C) hcalm hi cs hm hg hc he I ds e1 hz e2 fun D C s1 H'' m ns hI _ _ _ _ _ _ sm rv=>?_
    exact ⟨m,ns,fun h' sb=>⟨.ref D,H'',hI h' sb,rfl,cc _ H'' sm rv⟩⟩
  . rw [if_neg hz] at ez;cases ez
theorem zKG {i:Nat}{y:Str}{py spos:Pos}{tg iter elt:Expr}{ifs:List Expr}{scope:Scope}{pos:Pos}{ms:List Nat}{xs:List Str}{f:Dst->Option (List D)}{t:D->Dst->Option Dst}{c:Dst->Option Bool}{e:Dst->Option R}(hcalm:X.calm=true)(hi:GI X tg iter f)(hs:∀ x,foldedSetIterable iter X.env x=pure x)(cs:zCR X.env.scope scope)
    (hm:∀ (i:Nat) x,X.N[i]?=some x->ownB scope x=true->i∈ms)
    (hg:∀ s H fp,GG (zAN X (mask noN ms X.N++xs) scope s H fp) tg t)
    (hc:∀ s H fp,GCs (zAN X (mask noN ms X.N++xs) scope s H fp) ifs c) (he:∀ s H fp,GE (zAN X (mask noN ms X.N++xs) scope s H fp) elt e)
    (hN:X.N.Nodup) (hy:X.N[i]?=some y) (hl:Loc X.env.scope y) (hf:X.fn y=true\/X.env.scope.names.lookup y=some .local) :
    GS X (.Assign [.Name y py] (.ListComp elt [⟨tg,iter,ifs,0⟩] scope pos) spos) (setD i (zFK ms xs.length f t c e)):=by
  have hge:GE X (.ListComp elt [⟨tg,iter,ifs,0⟩] scope pos) (zFK ms xs.length f t c e):=zGo hcalm hi hs cs hm hg hc he;have hb:∃ b,swapsWith (.ListComp elt [⟨tg,iter,ifs,0⟩] scope pos) (some (.Name y py)) spos.line X.env=pure b:=⟨_,rfl⟩;obtain ⟨b,hb⟩:=hb;cases b with
  | false=>exact zNq hN hy hl hge hb hf
  | true =>
    intro H0 pins s σ H E I ⟨S,δ,o,ds,h0,eo,p⟩;obtain ⟨r,er,eo⟩:=bind_some eo;obtain ⟨zs,e1,ez⟩:=bind_some er;by_cases hz:zs.length<=10000
    . rw [if_pos hz] at ez;obtain ⟨ys,e2,ez⟩:=bind_some ez;cases ez;rw [exec_Assign_Name_used _ _ _ _ hb];refine wpAny_bind (wpAny_standAt (wpAny_bind ?_));show wpAny _ X.A (do let _<-comprehension (.ListComp elt [⟨tg,iter,ifs,0⟩] scope pos) scope X.env _ (newList []) false (eval iter X.env) (some (assign (.Name y py) X.env))) _ _ s;refine wpAny_bind (wpAny_mono (wpAny_comprehension_free (use:=some (assign (.Name y py) X.env)) (Q:=fun _ s'=>SP X pins E .next s') rfl hs (zBO (zEE I cs)) cs.kind (zCY cs) ?_) (fun _ s' hq=>wpAny_pure (wpAny_pure hq)) fun _ _ e=>e);refine zGC (RR:=fun acc C=>compPost (model X.prog X.w) X.A X.xe (some (assign (.Name y py) X.env)) (fun _ s'=>SP X pins E .next s') acc C) hcalm hi cs hm hg hc he I ds e1 hz e2 fun D C s1 H'' m ns hI hC1 hC2 hC3 hC4 hC5 hC6 sm rv=>?_
      have I1:Inv X pins σ H'' s1:=hI s1.heap (Heap.SameBut.refl ..);obtain ⟨oC,es,ep,ho,hd,w3⟩:=id ns;have I2:Inv X (pins++[(C,oC)]) σ H'' s1:=I1.pins_of fun q hq=>(mem_append.mp hq).elim (fun z=>I1.pin q (mem_append_right _ z)) fun z=>by
        have e:q=(C,oC):=by simpa using z
        subst e;exact ⟨ho,hC1,hC2,hC3,fun v z=>by rw [hd] at z;cases z⟩
      show wpAny (model X.prog X.w) X.A (assign (.Name y py) X.env (.ref D)) _ X.xe s1;refine thn (zDJ hN hy hl hf _ s1 σ H'' (.ref D) (.ref D) (fun σ6 H6=>H6=H''/\σ6=σ.set i (some (.ref D))) I2 rfl ⟨rfl,rfl⟩) fun _ s6 zz66=>?_
      obtain ⟨σ6,H6,I6,q1,q2⟩:=zz66;subst q1 q2;have pc:=I6.pin (C,oC) (mem_append_right _ (mem_append_right _ (by simp)));refine ⟨m,⟨oC,es,ep,pc.1,hd,w3⟩,fun h' sb=>?_⟩;refine ⟨_,H6,I6.unpinned.turned (it:=C) (t':=s6.toks) (fun b o hb q=>sb.extBut b o hb q) hC1 (Ne.symm (Ne.symm hC2)) (.inr hC4) hC5 hC6,?_⟩;exact zEQ ds h0 sm rv eo p
    . rw [if_neg hz] at ez;cases ez
end
section
variable {X:Cx}{tg:Expr}
def iAny (K:W.Frag)(tl:TE):TI:=fun σ H R=>tl σ H fun x H1=>∃ a,x=.ref a/\(((∃ xs,SqL K H1 a xs)/\R (Itl K a) H1)\/((∃ xs,SqT K H1 a xs)/\R (Itt K a) H1))
theorem zNY {l:Expr}{tl:TE}(hl:PE X l tl):PI X tg l (iAny X.K tl):=by
  intro pins s σ H R I h;refine thn (hl pins s σ H _ I h) fun v s1 zz67=>?_
  obtain ⟨x,H1,I1,r1,q1⟩:=zz67;obtain ⟨a,e,q⟩:=q1;subst e;cases r1;rcases q with ⟨⟨xs,hq⟩,q⟩ | ⟨⟨xs,hq⟩,q⟩
  . obtain ⟨its,rv,p,hz⟩:=I1.list hq;refine wpAny_pyIter_list p.isList ?_;refine ⟨s1.heap.objs.size,[s1.heap.objs.size],_,_,H1,rfl,I1.kept (t':=s1.toks) fun b o e=>get?_push_of_some _ e,zIm a _,⟨_,get?_push_size _ rfl,rfl,rfl⟩,fun b hb=>?_,q⟩;have e:b=s1.heap.objs.size:=by simpa using hb
    subst e;exact I1.fpOk (le_refl _) (I1.hok.fresh (le_refl _))
  . obtain ⟨its,rv,p,hz⟩:=I1.tuple hq;refine wpAny_pyIter_tuple (show s1.heap.IsTuple a its.toArray from p) ?_;refine ⟨s1.heap.objs.size,[s1.heap.objs.size],_,_,H1,rfl,I1.kept (t':=s1.toks) fun b o e=>get?_push_of_some _ e,zH8 a _,⟨_,get?_push_size _ rfl,rfl,rfl⟩,fun b hb=>?_,q⟩;have e:b=s1.heap.objs.size:=by simpa using hb
    subst e;exact I1.fpOk (le_refl _) (I1.hok.fresh (le_refl _))
def zF0 (f:Dst->Option R):Dst->Option (List D):=fun δ=>match f δ with
  | some (.lst ds,.cl)=>some ds
  | some (.lst ds,.fr)=>some ds
  | some (.tup ds,.cl)=>some ds
  | _=>none
theorem zR3 {iter:Expr}{f:Dst->Option R}(h:GE X iter f):GI X tg iter (zF0 f):=by
  refine ⟨_,zNY h,fun σ H S δ xs Rr ds e q=>?_⟩;have fin:∀ {k:Kd},k≠.dt->f δ=some (.lst xs,k)->iAny X.K (gT X.K f) σ H Rr:=fun {k} hk ef=>by
    refine ⟨S,δ,_,ds,ef,fun v H1 s1 r1=>?_⟩;have d1:=RV.den (d:=.lst xs) (k:=k) r1 hk;rw [Den] at d1;obtain ⟨a,vs,rfl,w1,w2⟩:=d1;refine ⟨a,rfl,.inl ⟨⟨vs,zAd.seq w1⟩,q _ H1 s1 fun i H2 hi k2=>?_⟩⟩;have w3:=k2.seq w1;refine ⟨fun ei=>⟨vs,w3,by rw [<- w2.length,ei];exact le_refl _⟩,fun hl=>?_⟩;have hlv:i < vs.length:=by rw [<- w2.length];exact hl
    refine ⟨⟨vs,vs[i],w3,by simp [hlv]⟩,fun v H3 y=>⟨y.1,fun x ex=>?_⟩⟩;have yv:=y.2 vs w3;obtain ⟨u,q1,q2⟩:=w2.get ex;rw [yv] at q1;cases q1;exact q2
  unfold zF0 at e;split at e
  . rename_i q1;cases e;exact fin (by decide) q1
  . rename_i q1;cases e;exact fin (by decide) q1
  . rename_i q1;cases e;refine ⟨S,δ,_,ds,q1,fun v H1 s1 r1=>?_⟩;have d1:Den X.K (hide H1 S) (.tup xs) v:=r1;rw [Den] at d1;obtain ⟨a,vs,rfl,w1,w2⟩:=d1;refine ⟨a,rfl,.inr ⟨⟨vs,Same.tupS zAd w1⟩,q _ H1 s1 fun i H2 hi k2=>?_⟩⟩;have w3:=Same.tupS k2 w1;refine ⟨fun ei=>⟨vs,w3,by rw [<- w2.length,ei];exact le_refl _⟩,fun hl=>?_⟩;have hlv:i < vs.length:=by rw [<- w2.length];exact hl
    refine ⟨⟨vs,vs[i],w3,by simp [hlv]⟩,fun v H3 y=>⟨y.1,fun x ex=>?_⟩⟩;have yv:=y.2 vs w3;obtain ⟨u,q1,q2⟩:=w2.get ex;rw [yv] at q1;cases q1;exact q2
  . cases e
def Itr3 (lo c:Int)(n:Nat):It:=⟨fun i _=>i < n,fun i H x H'=>H'=H/\x=.int (lo+i*c),fun i _=>n<=i⟩
theorem zGU {P:Program}{w:World}{K:W.Frag}{tg:Expr}(it:Addr)(lo c:Int)(n:Nat):Turn P w K tg (Itr3 lo c n) [it] it (fun i h=>IsRangeIter h it (lo+(i:Nat)*c) ((n:Int) - (i:Nat)) c) where
  mem:=by simp
  obj:=fun i h st b hb=>by
    have e:b=it:=by simpa using hb
    subst e;exact ⟨_,st,fun v z=>by
      have z':Data.fields _=Data.cell v:=z;cases z'⟩
  keep:=fun i h h' st k=>k it (by simp) _ st
  item:=by
    intro X hP hw hK hc i pins s σ H E I hf st hg;subst hP hw hK;obtain ⟨f0,f1,f2,f3,f4,f5⟩:=hf it (by simp);have W:=Walks.range (prog:=X.prog) (w:=X.w) (I.ok.hd hc) it lo c n;refine W.item i s _ _ hg st fun v h' tk hv st' kk=>?_
    obtain ⟨t,rfl⟩:=hv;have I1:Inv X pins σ H { s with heap:=h',toks:=tk }:=I.turned (fun b o hb e=>kk b o (by simpa using hb) e) f0 f1 f3 f4 f5;exact ⟨_,rfl,zKI (s:={ s with heap:=h',toks:=tk }) (n := "range_iterator") st' rfl rfl (by decide) ⟨.int (lo+i*c),H,I1,⟨t,rfl⟩,⟨rfl,rfl⟩,st',fun b hb=>(hf b hb).1⟩⟩
  done:=by
    intro X hP hw hK hc i pins s σ H E I hf st hg;subst hP hw hK;obtain ⟨f0,f1,f2,f3,f4,f5⟩:=hf it (by simp);exact wpAny_pyNext_range_end (I.ok.hd hc) st (by have:n<=i:=hg;omega) fun h' eb=>⟨rfl,I.turned (t':=s.toks) (fun b o hb e=>eb b o hb e) f0 f1 f3 f4 f5⟩
  self:=fun _ _ _ _ _ st h=>wpAny_pyIter_rangeiter st h
theorem zGZ (a b c:Int)(hc:c≠0):0<=Builtin.Range.rangeSize a b c:=by
  unfold Builtin.Range.rangeSize;split
  . split
    . have:=Int.ediv_nonneg (a:=b - a - 1) (b:=c) (by omega) (by omega);omega
    . exact Int.le_refl 0
  . split
    . have:=Int.ediv_nonneg (a:=a - b - 1) (b:=-c) (by omega) (by omega);omega
    . exact Int.le_refl 0
def ROk (a b c:Int):Prop:=c≠0/\c.natAbs < 1073741824/\Builtin.Range.small a b c=true
noncomputable instance (a b c:Int):Decidable (ROk a b c):=by unfold ROk;exact inferInstance
theorem zI8 {pins:List (Addr×Obj)}{σ:St}{H:Hp}{s:Shared}{R:It->Hp->Prop}{E:Value->Shared->Prop}{lo hi c:Int}{t u v:Tok}{tk:Nat}(I:Inv X pins σ H s)(ok:ROk lo hi c)
    (q:R (Itr3 lo c (Builtin.Range.rangeSize lo hi c).toNat) H):wpAny (model X.prog X.w) X.A (pyIter (.ref s.heap.objs.size)) (PIE X pins σ tg R) E { s with heap:=s.heap.push { cls:=.type "range",data:=.fields #[.int lo t,.int hi u,.int c v] },toks:=tk }:=by
  refine wpAny_pyIter_range (IsRange.new ..) ok.2.2 ?_;have I1:Inv X pins σ H { s with heap:=s.heap.push { cls:=.type "range",data:=.fields #[.int lo t,.int hi u,.int c v] },toks:=tk }:=I.kept fun b o e=>get?_push_of_some _ e
  refine ⟨(s.heap.push { cls:=.type "range",data:=.fields #[.int lo t,.int hi u,.int c v] }).objs.size,[(s.heap.push { cls:=.type "range",data:=.fields #[.int lo t,.int hi u,.int c v] }).objs.size],_,_,H,rfl,
    I1.kept (t':=tk) fun b o e=>get?_push_of_some _ e,zGU _ lo c (Builtin.Range.rangeSize lo hi c).toNat,?_,fun b hb=>?_,q⟩
  . have e1:lo+((0:Nat):Int)*c=lo:=by simp
    have e2:(((Builtin.Range.rangeSize lo hi c).toNat:Nat):Int) - ((0:Nat):Int)=Builtin.Range.rangeSize lo hi c:=by have:=zGZ lo hi c ok.1;omega
    show IsRangeIter _ _ (lo+((0:Nat):Int)*c) ((((Builtin.Range.rangeSize lo hi c).toNat:Nat):Int) - ((0:Nat):Int)) c;rw [e1,e2];exact get?_push_size _ rfl
  . have e:b=(s.heap.push { cls:=.type "range",data:=.fields #[.int lo t,.int hi u,.int c v] }).objs.size:=by simpa using hb
    subst e;exact I1.fpOk (le_refl _) (I1.hok.fresh (le_refl _))
def zTa (ta:TA):TI:=fun σ H R=>ta σ H fun vs H1=>∃ i j c:Int,vs=[.int i,.int j,.int c]/\ROk i j c/\R (Itr3 i c (Builtin.Range.rangeSize i j c).toNat) H1
theorem zJG {a b c:Expr}{ta:TA}{p pos:Pos}(hg:Gl X "range")(hm:X.mg "range"=none)(ha:PA X [a,b,c] ta)(hs:starEach [a,b,c] X.env=[(false,eval a X.env),(false,eval b X.env),(false,eval c X.env)])(hs2:starEach [b,c] X.env=[(false,eval b X.env),(false,eval c X.env)]) :
    PI X tg (.Call (.Name "range" p) [a,b,c] [] pos) (zTa ta):=by
  intro pins s σ H R I h;refine Call_ (zCh I hg hm boot_range (PyProof.Rows.callWith_type1 (thn (ha pos pins s σ H _ I h) fun us s1 zz68=>?_) (by rw [hs,hs2]) (by rw [hs2];rfl)));obtain ⟨vs,H1,I1,r1,q1⟩:=zz68;obtain ⟨i,j,k,e,ok,q⟩:=q1;subst e;cases r1 with
  | cons r rr =>
    cases rr with
    | cons r' rr =>
      cases rr with
      | cons r'' rr =>
        cases rr;obtain ⟨t,rfl⟩:=r;obtain ⟨t',rfl⟩:=r';obtain ⟨t'',rfl⟩:=r'';exact call_range_3 ok.1 (zI8 I1 ok q) (.inl (PyProof.noPylong_small ok.2.1))
def rngS (lo c:Int)(n:Nat):List D:=(List.range n).map fun (k:Nat)=>D.int (lo+k*c)
theorem zIF {K:W.Frag}{H1:Hp}{S:List Addr}{lo c:Int}{n:Nat}(i:Nat)(H2:Hp)(hi:i<=(rngS lo c n).length):(i=(rngS lo c n).length->(Itr3 lo c n).stop i H2)/\(i < (rngS lo c n).length->(Itr3 lo c n).go i H2/\∀ v H3,(Itr3 lo c n).yld i H2 v H3->H3=H2/\∀ x,(rngS lo c n)[i]?=some x->Den K (hide H1 S) x v):=by
  have hl:(rngS lo c n).length=n:=by unfold rngS;simp
  refine ⟨fun e=>by rw [hl] at e;exact Nat.le_of_eq e.symm,fun h=>⟨by rw [hl] at h;exact h,fun v H3 y=>⟨y.1,fun x ex=>?_⟩⟩⟩;have hv:v=.int (lo+i*c):=y.2;rw [hl] at h;have:(rngS lo c n)[i]?=some (D.int (lo+(i:Int)*c)):=by unfold rngS;simp [h]
  rw [this] at ex;cases ex;rw [Den];exact hv
def zI4 (f g h:Dst->Option R):Dst->Option (List D):=fun δ=>match f δ,g δ,h δ with
  | some (.int i,_),some (.int j,_),some (.int c,_)=>if ROk i j c then some (rngS i c (Builtin.Range.rangeSize i j c).toNat) else none
  | _,_,_=>none
theorem zKL {a b c:Expr}{f g h:Dst->Option R}{p pos:Pos}(hg:Gl X "range")(hm:X.mg "range"=none)(ha:GE X a f)(hb:GE X b g)(hc:GE X c h)(hs:starEach [a,b,c] X.env=(false,eval a X.env)::starEach [b,c] X.env)(hs2:starEach [b,c] X.env=(false,eval b X.env)::starEach [c] X.env)(hs3:starEach [c] X.env=[(false,eval c X.env)]) :
    GI X tg (.Call (.Name "range" p) [a,b,c] [] pos) (zI4 f g h):=by
  refine ⟨_,zJG hg hm (zAa ha (zAa hb (zAa hc zA9 hs3) hs2) hs) (by rw [hs,hs2,hs3]) (by rw [hs2,hs3]),fun σ H S δ xs Rr ds e q=>?_⟩;unfold zI4 at e;split at e
  . rename_i i k j k2 c' k3 ei ej ec;by_cases hj:ROk i j c'
    . rw [if_pos hj] at e;cases e;exact ⟨S,δ,_,ds,ei,fun v H1 s1 r1=>⟨S,δ,_,ds.mono s1,ej,fun u H2 s2 r2=>⟨S,δ,_,ds.mono (s1.trans s2),ec,fun u3 H3 s3 r3=>⟨i,j,c',by rw [r1.rd.int,r2.rd.int,r3.rd.int],hj,q _ H3 (s1.trans (s2.trans s3)) fun i H2 hi _=>zIF i H2 hi⟩⟩⟩⟩
    . rw [if_neg hj] at e;cases e
  . cases e
end
end DL
end
section
namespace DL
open PySem
abbrev zCB (h:Heap) (z TI TO:Addr) (f0 f1:Value):Prop :=
  h.get? z=some { cls:=.type "zip",dict:=none,data:=.fields #[f0,f1,.bool false,.ref TI,.ref TO],slots:=#[] }
section
variable {prog:Program}{w:World}{A:Around}{E:Value->Shared->Prop}{s:Shared}
theorem zLK {M:Model}{a:Addr}{Q:Option Obj->Shared->Prop}(h:Q (s.heap.get? a) s):wpAny M A (loadIfAlive a) Q E s:=fun Γ p hΓ=>by
  unfold loadIfAlive;rw [Sem.wp_loadIfAlive];exact wpAny_pure h Γ p hΓ
theorem zEU {z TI TO T:Addr}{f1:Bool}{oT:Obj}{Q:Bool->Shared->Prop}(hz:zCB s.heap z TI TO (rawInt T) (.bool f1))(hT:s.heap.get? T=some oT)
    (hQ:∀ h' f1',zCB h' z TI TO (rawInt T) (.bool f1')->Heap.SameBut z s.heap h'->Q false { s with heap:=h' }) :
    wpAny (model prog w) A (Builtin.SmallTypes.ownedTupleIsFree (.ref z)) Q E s:=by
  unfold Builtin.SmallTypes.ownedTupleIsFree;refine wpAny_bind (wpAny_field hz rfl (x:=rawInt T) rfl ?_);show wpAny _ _ (loadIfAlive ((T:Int).toNat)>>=_) _ _ _;refine wpAny_bind (zLK ?_);rw [toNat_natCast,hT];simp only [Option.isNone_some,Bool.false_eq_true,if_false];refine wpAny_bind (wpAny_field hz rfl (x:=.bool f1) rfl ?_);cases f1 with
  | true =>
    have e:((Value.bool true) != .bool true)=false:=by simp
    rw [e];simp only [Bool.false_eq_true,if_false];exact wpAny_pure (hQ s.heap true hz (Heap.SameBut.refl ..))
  | false =>
    have e:((Value.bool false) != .bool true)=true:=by simp
    rw [e];simp only [if_true];refine wpAny_bind (wpAny_setField_rec hz (by simp) fun h₁ hz₁ hs₁=>?_);replace hz₁:zCB h₁ z TI TO (rawInt T) (.bool true):=hz₁;exact wpAny_pure (hQ h₁ true hz₁ hs₁)
theorem zEo {z TI TO i1 i2 l1 l2 T:Addr}{f1:Bool}{oT:Obj}{k1 k2:Nat}{xs ys:Array Value}{x y:Value}{Q:Value->Shared->Prop}(D:ZipApart z TI TO i1 i2 l1 l2)
    (hz:zCB s.heap z TI TO (rawInt T) (.bool f1)) (hT:s.heap.get? T=some oT) (hTI:IsPair s.heap TI (.ref i1) (.ref i2))
    (h1:s.heap.IsListIter i1 l1 k1) (h2:s.heap.IsListIter i2 l2 k2) (hl1:s.heap.IsList l1 xs) (hl2:s.heap.IsList l2 ys) (hx:xs[k1]?=some x) (hy:ys[k2]?=some y)
    (hQ:∀ h' f1',zCB h' z TI TO (rawInt T) (.bool f1')->h'.IsListIter i1 l1 (k1+1)->h'.IsListIter i2 l2 (k2+1)->IsPair h' s.heap.objs.size x y->h'.objs.size=s.heap.objs.size+1 ->
      (∀ c o,c≠z->c≠i1->c≠i2->s.heap.get? c=some o->h'.get? c=some o)->Q (.ref s.heap.objs.size) { s with heap:=h' }) :
    wpAny (model prog w) A (Builtin.«zip.__next__» ⟨[.ref z],[]⟩) (fun fin s'=>∃ v,fin=.done (.ret v)/\Q v s') E s:=by
  show wpAny _ _ (field (.ref z) 2>>=_) _ _ _;refine wpAny_bind (wpAny_field hz rfl (x:=.bool false) rfl ?_);show wpAny _ _ (field (.ref z) 3>>=_) _ _ _;refine wpAny_bind (wpAny_field hz rfl (x:=.ref TI) rfl ?_);refine wpAny_bind (wpAny_seqItems hTI rfl ?_);show wpAny _ _ (Builtin.SmallTypes.ownedTupleIsFree (.ref z)>>=_) _ _ _;refine wpAny_bind (zEU hz hT fun h₁ f1' hz₁ hs₁=>?_);simp only [Bool.false_eq_true,if_false];refine wpAny_bind ?_;simp only [<- Array.forIn_toList,forIn_cons,forIn_nil];refine wpAny_bind (wpAny_bind (wpAny_holding ?_));show wpAny _ _ (Builtin.SmallTypes.nextOf (.ref i1)>>=_) _ _ _;refine wpAny_bind (wpAny_nextOf_list_item (h1.extBut hs₁.extBut D.i1z) (hl1.extBut hs₁.extBut D.l1z) hx fun h₂ h1₂ hs₂=>wpAny_pure ?_);refine wpAny_pure ?_;refine wpAny_bind (wpAny_bind (wpAny_holding ?_));show wpAny _ _ (Builtin.SmallTypes.nextOf (.ref i2)>>=_) _ _ _;refine wpAny_bind (wpAny_nextOf_list_item ((h2.extBut hs₁.extBut D.i2z).extBut hs₂.extBut D.i12.symm) ((hl2.extBut hs₁.extBut D.l2z).extBut hs₂.extBut D.l2i1) hy fun h₃ h2₃ hs₃=>wpAny_pure ?_);refine wpAny_pure (wpAny_pure ?_);refine wpAny_bind (wpAny_newTuple ?_ (show 2<=sizeLine by decide));have hsz:h₃.objs.size=s.heap.objs.size:=by rw [hs₃.1,hs₂.1,hs₁.1]
  have hz₃:zCB h₃ z TI TO (rawInt T) (.bool f1'):=hs₃.extBut _ _ D.i2z.symm (hs₂.extBut _ _ D.i1z.symm hz₁);refine wpAny_pure ⟨_,rfl,?_⟩;show Q (.ref h₃.objs.size) _;rw [hsz];refine hQ _ f1' (get?_push_of_some _ hz₃) ((h1₂.extBut hs₃.extBut D.i12).at fun o e=>get?_push_of_some _ e) (h2₃.at fun o e=>get?_push_of_some _ e) ?_ (by rw [Heap.size_push,hsz]) fun c o c1 c2 c3 e=>get?_push_of_some _ (hs₃.extBut _ _ c3 (hs₂.extBut _ _ c2 (hs₁.extBut _ _ c1 e)))
  rw [<- hsz];exact get?_push_size _ rfl
theorem zEn {z TI TO i1 i2 l1 l2 T:Addr}{f1:Bool}{oT:Obj}{k1 k2:Nat}{xs ys:Array Value}{Q:Fin->Shared->Prop}(hh:A.handled=none)(D:ZipApart z TI TO i1 i2 l1 l2)
    (hz:zCB s.heap z TI TO (rawInt T) (.bool f1)) (hT:s.heap.get? T=some oT) (hTI:IsPair s.heap TI (.ref i1) (.ref i2))
    (h1:s.heap.IsListIter i1 l1 k1) (hl1:s.heap.IsList l1 xs) (hend:xs[k1]?=none)
    (hE:∀ h' e,(∀ c o,c≠z->c≠i1->s.heap.get? c=some o->h'.get? c=some o)->(∃ o,h'.get? e=some o/\o.cls=.type "StopIteration")->E (.ref e) { s with heap:=h' }) :
    wpAny (model prog w) A (Builtin.«zip.__next__» ⟨[.ref z],[]⟩) Q E s:=by
  show wpAny _ _ (field (.ref z) 2>>=_) _ _ _;refine wpAny_bind (wpAny_field hz rfl (x:=.bool false) rfl ?_);show wpAny _ _ (field (.ref z) 3>>=_) _ _ _;refine wpAny_bind (wpAny_field hz rfl (x:=.ref TI) rfl ?_);refine wpAny_bind (wpAny_seqItems hTI rfl ?_);show wpAny _ _ (Builtin.SmallTypes.ownedTupleIsFree (.ref z)>>=_) _ _ _;refine wpAny_bind (zEU hz hT fun h₁ f1' hz₁ hs₁=>?_);simp only [Bool.false_eq_true,if_false];refine wpAny_bind ?_;simp only [<- Array.forIn_toList,forIn_cons,forIn_nil];refine wpAny_bind (wpAny_bind (wpAny_holding ?_));show wpAny _ _ (Builtin.SmallTypes.nextOf (.ref i1)>>=_) _ _ _;refine wpAny_bind (wpAny_nextOf_list_end hh (h1.extBut hs₁.extBut D.i1z) (hl1.extBut hs₁.extBut D.l1z) hend fun h₂ e hs₂ he=>?_);exact hE h₂ e (fun c o c1 c3 x=>hs₂ _ _ c3 (hs₁.extBut _ _ c1 x)) he
theorem zJe {z TI TO i1 i2 l1 l2 T:Addr}{f1:Bool}{oT:Obj}{k1 k2:Nat}{xs ys:Array Value}{x y:Value}{Q:Option Value->Shared->Prop}(D:ZipApart z TI TO i1 i2 l1 l2)
    (hz:zCB s.heap z TI TO (rawInt T) (.bool f1)) (hT:s.heap.get? T=some oT) (hTI:IsPair s.heap TI (.ref i1) (.ref i2))
    (h1:s.heap.IsListIter i1 l1 k1) (h2:s.heap.IsListIter i2 l2 k2) (hl1:s.heap.IsList l1 xs) (hl2:s.heap.IsList l2 ys) (hx:xs[k1]?=some x) (hy:ys[k2]?=some y)
    (hQ:∀ h' f1',zCB h' z TI TO (rawInt T) (.bool f1')->h'.IsListIter i1 l1 (k1+1)->h'.IsListIter i2 l2 (k2+1)->IsPair h' s.heap.objs.size x y->h'.objs.size=s.heap.objs.size+1 ->
      (∀ c o,c≠z->c≠i1->c≠i2->s.heap.get? c=some o->h'.get? c=some o)->Q (some (.ref s.heap.objs.size)) { s with heap:=h' }) :
    wpAny (model prog w) A (pyNext (.ref z)) Q E s:=by
  have hTy:s.TypeIs (.ref z) "zip":=⟨_,hz,rfl⟩;unfold pyNext;exact wpAny_bind (wpAny_attempt (wpAny_callSpecial?_slot (name:=Str.ofString "__next__") hTy F.slot_zip_next
    (wpAny_call_entry F.slot_zip_next hTy F.entry_zip_next
      (zEo D hz hT hTI h1 h2 hl1 hl2 hx hy fun h' f' a1 a3 a4 a5 a6 a7=>wpAny_pure (hQ h' f' a1 a3 a4 a5 a6 a7)) (F.args_zip_next_1 _))))
theorem zJd {z TI TO i1 i2 l1 l2 T:Addr}{f1:Bool}{oT:Obj}{k1 k2:Nat}{xs ys:Array Value}{Q:Option Value->Shared->Prop}(hh:A.handled=none)(D:ZipApart z TI TO i1 i2 l1 l2)
    (hz:zCB s.heap z TI TO (rawInt T) (.bool f1)) (hT:s.heap.get? T=some oT) (hTI:IsPair s.heap TI (.ref i1) (.ref i2))
    (h1:s.heap.IsListIter i1 l1 k1) (hl1:s.heap.IsList l1 xs) (hend:xs[k1]?=none)
    (hQ:∀ h',(∀ c o,c≠z->c≠i1->s.heap.get? c=some o->h'.get? c=some o)->Q none { s with heap:=h' }):wpAny (model prog w) A (pyNext (.ref z)) Q E s:=by
  have hTy:s.TypeIs (.ref z) "zip":=⟨_,hz,rfl⟩;unfold pyNext;refine wpAny_bind (wpAny_attempt (wpAny_callSpecial?_slot (name:=Str.ofString "__next__") hTy F.slot_zip_next
    (wpAny_call_entry F.slot_zip_next hTy F.entry_zip_next (zEn (k2:=k2) (ys:=ys) hh D hz hT hTI h1 hl1 hend fun h' e hk he=>?_) (F.args_zip_next_1 _))))
  obtain ⟨o,ho,hc⟩:=he;refine wpAny_bind (wpAny_isInstance (T := "StopIteration") (b:=true) ⟨o,ho,hc⟩ isSubtype_stop ?_);exact wpAny_pure (hQ _ hk)
end
theorem zH7:typeLookup (.type "zip") "__len__"=pure none:=by rw [typeLookup_type,builtinLookup_eq_fast];kernel_rfl
theorem zGS:typeLookup (.type "zip") "__length_hint__"=pure none:=by rw [typeLookup_type,builtinLookup_eq_fast];kernel_rfl
def zBt (S n:Nat):Array Value:=((List.range n).map fun k=>Value.ref (S+1+k)).toArray
theorem zFV (S n:Nat):(zBt S n).push (.ref (S+1+n))=zBt S (n+1):=by
  unfold zBt;rw [range_succ,map_append];simp
theorem zDT (S n:Nat):(zBt S n).size=n:=by unfold zBt;simp
structure ZJ (s:Shared)(S z TI TO i1 i2 l1 l2:Nat)(xs ys:Array Value)(i:Nat)(s':Shared):Prop where
  same:∃ h',s'={ s with heap:=h' }
  size:s'.heap.objs.size=S+1+i
  lst:∃ c,s'.heap.get? S=some { cls:=.type "list",dict:=none,data:=.seq (zBt S i) c,slots:=#[] }
  zip:(i=0/\IsZip s'.heap z TI TO .none)\/(0 < i/\∃ f1,zCB s'.heap z TI TO (rawInt (S+1:Nat)) (.bool f1))
  ti:IsPair s'.heap TI (.ref i1) (.ref i2)
  tO:∃ a b,IsPair s'.heap TO a b
  it1:s'.heap.IsListIter i1 l1 i
  it2:s'.heap.IsListIter i2 l2 i
  ls1:s'.heap.IsList l1 xs
  ls2:s'.heap.IsList l2 ys
  tup:∀ k x y,k < i->xs[k]?=some x->ys[k]?=some y->IsPair s'.heap (S+1+k) x y
  keep:∀ (c:Nat) o,c≠z->c≠TO->c≠i1->c≠i2->s.heap.get? c=some o->s'.heap.get? c=some o
structure ZEnd (s:Shared)(S z TO i1 i2:Nat)(xs ys:Array Value)(s':Shared):Prop where
  same:∃ h',s'={ s with heap:=h' }
  lst:∃ c,s'.heap.get? S=some { cls:=.type "list",dict:=none,data:=.seq (zBt S xs.size) c,slots:=#[] }
  tup:∀ k x y,xs[k]?=some x->ys[k]?=some y->IsPair s'.heap (S+1+k) x y
  keep:∀ (c:Nat) o,c≠z->c≠TO->c≠i1->c≠i2->s.heap.get? c=some o->s'.heap.get? c=some o
section
variable {prog:Program}{w:World}{A:Around}{E:Value->Shared->Prop}{s:Shared}{R:Result->Shared->Prop}
variable {S z TI TO i1 i2 l1 l2:Nat}{xs ys:Array Value}
theorem zLH (hh:A.in1.handled=none)(D:ZipApart z TI TO i1 i2 l1 l2)(hlen:xs.size=ys.size)(hn:xs.size<=10000)(hz:z < S)(hTI:TI < S)(hTO:TO < S)(hi1:i1 < S)(hi2:i2 < S)(hl1:l1 < S)(hl2:l2 < S)(hfresh:s.heap.objs.size<=S)(res:Value)
    (hR:∀ s',ZEnd s S z TO i1 i2 xs ys s'->R (.ok (.ret res)) s') :
    ∀ (k i:Nat) (s':Shared),xs.size - i=k->i<=xs.size->ZJ s S z TI TO i1 i2 l1 l2 xs ys i s'->codeAny (model prog w) A (.builtin "list.extend.loop" ⟨[.ref S,.ref z,res],[]⟩) R s':=by
  intro k
  induction k with
  | zero =>
    intro i s' hk hi J;have hin:i=xs.size:=by omega
    subst hin;obtain ⟨h0,rfl⟩:=J.same;refine codeAny_builtin F.entry_extend_loop ?_;rw [Around.under_plainId F.plain_extend_loop _];show wpAny _ A.in1 (pyNext (.ref z)>>=_) _ _ _;have hend:xs[xs.size]?=none:=by simp
    obtain ⟨c,hc⟩:=J.lst;obtain ⟨ta,tb,hto⟩:=J.tO;refine wpAny_bind ?_;have fin:∀ h',(∀ (c:Nat) o,c≠z->c≠TO->c≠i1->c≠i2->h0.get? c=some o->h'.get? c=some o)->R (.ok (.ret res)) { s with heap:=h' }:=fun h' kk=>by
      have up:∀ (b:Nat) o,S<=b->h0.get? b=some o->h'.get? b=some o:=fun b o hb e=>kk b o (by omega) (by omega) (by omega) (by omega) e
      refine hR _ ⟨⟨h',rfl⟩,⟨c,up S _ (le_refl _) hc⟩,fun k x y hx hy=>up _ _ (by omega) (J.tup k x y ?_ hx hy),fun b o b1 b2 b3 b4 e=>kk b o b1 b2 b3 b4 (J.keep b o b1 b2 b3 b4 e)⟩;by_cases q:k < xs.size
      . exact q
      . have:xs[k]?=none:=Array.getElem?_eq_none (Nat.le_of_not_lt q);rw [this] at hx;cases hx
    rcases J.zip with ⟨i0,hzz⟩ | ⟨ip,f1,hzz⟩
    . exact wpAny_pyNext_zip_end hh D hzz J.ti hto J.it1 J.it2 J.ls1 J.ls2 (.inl hend) fun h' kk=>wpAny_pure (fin h' kk)
    . have hx0:∃ x,xs[0]?=some x:=⟨xs[0],by simp [ip]⟩;have hy0:∃ y,ys[0]?=some y:=⟨ys[0]'(by omega),Array.getElem?_eq_getElem (by omega)⟩;obtain ⟨x0,ex0⟩:=hx0;obtain ⟨y0,ey0⟩:=hy0;have t0:=J.tup 0 x0 y0 ip ex0 ey0;rw [Nat.add_zero] at t0;exact zJd (k2:=0) (ys:=ys) hh D hzz t0 J.ti J.it1 J.ls1 hend fun h' kk=>wpAny_pure (fin h' fun c o c1 _ c3 _ e=>kk c o c1 c3 e)
  | succ k ih =>
    intro i s' hk hi J;have hlt:i < xs.size:=by omega
    obtain ⟨h0,rfl⟩:=J.same;have hx:xs[i]?=some xs[i]:=by simp [hlt]
    have hy:ys[i]?=some (ys[i]'(by omega)):=Array.getElem?_eq_getElem (by omega);refine codeAny_builtin F.entry_extend_loop ?_;rw [Around.under_plainId F.plain_extend_loop _];show wpAny _ A.in1 (pyNext (.ref z)>>=_) _ _ _;obtain ⟨c,hc⟩:=J.lst;obtain ⟨ta,tb,hto⟩:=J.tO;have hsz:h0.objs.size=S+1+i:=J.size;have go:∀ h',(∀ (c:Nat) o,c≠z->c≠TO->c≠i1->c≠i2->h0.get? c=some o->h'.get? c=some o)->(∃ f1,zCB h' z TI TO (rawInt (S+1:Nat)) (.bool f1))->(∃ a b,IsPair h' TO a b)->h'.IsListIter i1 l1 (i+1)->h'.IsListIter i2 l2 (i+1) ->
        IsPair h' (S+1+i) xs[i] (ys[i]'(by omega))->h'.objs.size=S+1+i+1 ->
        wpAny (model prog w) A.in1 (updateSeq S (·.push (.ref (S+1+i)))>>=fun _=>again (.builtin "list.extend.loop" ⟨[.ref S,.ref z,res],[]⟩))
          (fun fin s'=>match fin with | .done f=>R (.ok f) s' | .again c'=>c'.quiet=true/\codeAny (model prog w) A c' R s') (fun e s'=>R (.error e) s') { s with heap:=h' }:=fun h' kk hzz hto' ht1 ht2 hp hs'=>by
      have up:∀ (b:Nat) o,S<=b->h0.get? b=some o->h'.get? b=some o:=fun b o hb e=>kk b o (by omega) (by omega) (by omega) (by omega) e
      have hc':=up S _ (le_refl _) hc;refine wpAny_bind ?_;refine wpAny_updateSeq hc' rfl (wpAny_pure ⟨plainId_quiet F.plain_extend_loop _,ih (i+1) _ (by omega) hlt ?_⟩) (by rw [zDT];exact le_trans (Nat.le_of_lt hlt) (le_trans hn (by decide))) (by show ((zBt S i).push _).size<=sizeLine+1;rw [Array.size_push,zDT];exact Nat.succ_le_succ (le_trans (Nat.le_of_lt hlt) (le_trans hn (by decide))));have oth:∀ (b:Nat) o,b≠S->h'.get? b=some o->(h'.update S (Obj.mapSeq (·.push (.ref (S+1+i))))).get? b=some o:=fun b o hb e=>(Heap.get?_update_other _ _ (Ne.symm hb)).trans e
      obtain ⟨f1,hzz⟩:=hzz;obtain ⟨a',b',hto'⟩:=hto';have ql:∃ c,(h'.update S (Obj.mapSeq (·.push (.ref (S+1+i))))).get? S=some { cls:=.type "list",dict:=none,data:=.seq (zBt S (i+1)) c,slots:=#[] }:=⟨_,by
        rw [<- zFV];exact Heap.get?_update_self (Obj.mapSeq (·.push (Value.ref (S+1+i)))) hc' rfl⟩
      refine ⟨⟨_,rfl⟩,?_,ql,.inr ⟨Nat.succ_pos i,f1,oth _ _ (by omega) hzz⟩,oth _ _ (by omega) (kk _ _ D.TIz D.TITO D.TIi1 D.TIi2 J.ti),⟨a',b',oth _ _ (by omega) hto'⟩,ht1.at fun o e=>oth _ o (by omega) e,ht2.at fun o e=>oth _ o (by omega) e,
        (J.ls1.at fun o e=>kk _ o D.l1z D.l1TO D.l1i1 D.l1i2 e).at fun o e=>oth _ o (by omega) e,(J.ls2.at fun o e=>kk _ o D.l2z D.l2TO D.l2i1 D.l2i2 e).at fun o e=>oth _ o (by omega) e,fun k x y hk' ex ey=>?_,fun b o b1 b2 b3 b4 e=>?_⟩
      . show (h'.update S _).objs.size=_;rw [Heap.size_update,hs'];omega
      . refine oth _ _ (by omega) ?_;by_cases q:k < i
        . exact up _ _ (by omega) (J.tup k x y q ex ey)
        . have:k=i:=by omega
          subst this;rw [hx] at ex;rw [hy] at ey;cases ex;cases ey;exact hp
      . by_cases q:b=S
        . subst q;have:=lt_size e;exact absurd (lt_of_lt_of_le this hfresh) (lt_irrefl _)
        . exact oth b o q (kk b o b1 b2 b3 b4 (J.keep b o b1 b2 b3 b4 e))
    refine wpAny_bind ?_;rcases J.zip with ⟨i0,hzz⟩ | ⟨ip,f1,hzz⟩
    . subst i0;refine wpAny_pyNext_zip_item D hzz J.ti hto J.it1 J.it2 J.ls1 J.ls2 hx hy fun h' a1 a2 a3 a4 a5 a6 a7=>?_
      have e1:({ s with heap:=h0 }:Shared).heap.objs.size=S+1+0:=hsz;rw [e1] at a1 a5 a6 ⊢;exact go h' a7 ⟨false,a1⟩ ⟨_,_,a2⟩ a3 a4 a5 a6
    . have hx0:∃ x,xs[0]?=some x:=⟨xs[0]'(by omega),Array.getElem?_eq_getElem (by omega)⟩;have hy0:∃ y,ys[0]?=some y:=⟨ys[0]'(by omega),Array.getElem?_eq_getElem (by omega)⟩;obtain ⟨x0,ex0⟩:=hx0;obtain ⟨y0,ey0⟩:=hy0;have t0:=J.tup 0 x0 y0 ip ex0 ey0;rw [Nat.add_zero] at t0;refine zJe D hzz t0 J.ti J.it1 J.it2 J.ls1 J.ls2 hx hy fun h' f' a1 a3 a4 a5 a6 a7=>?_
      have e1:({ s with heap:=h0 }:Shared).heap.objs.size=S+1+i:=hsz;rw [e1] at a5 a6 ⊢;exact go h' (fun c o c1 _ c3 c4 e=>a7 c o c1 c3 c4 e) ⟨f',a1⟩ ⟨ta,tb,a7 _ _ D.TOz D.TOi1 D.TOi2 hto⟩ a3 a4 a5 a6
end
section
variable {prog:Program}{w:World}{A:Around}{E:Value->Shared->Prop}{s:Shared}
variable {z TI TO i1 i2 l1 l2:Nat}{xs ys:Array Value}
theorem zFM {a b:Value}{Q:Value->Shared->Prop}(hh:A.handled=none)(D:ZipApart z TI TO i1 i2 l1 l2)(hz:IsZip s.heap z TI TO .none)(hTI:IsPair s.heap TI (.ref i1) (.ref i2))(hTO:IsPair s.heap TO a b)(h1:s.heap.IsListIter i1 l1 0)(h2:s.heap.IsListIter i2 l2 0)
    (hl1:s.heap.IsList l1 xs) (hl2:s.heap.IsList l2 ys) (hlen:xs.size=ys.size) (hn:xs.size<=10000) (hQ:∀ s',ZEnd s s.heap.objs.size z TO i1 i2 xs ys s'->Q (.ref s.heap.objs.size) s') :
    wpAny (model prog w) A (call (.type "list") [.ref z]) Q E s:=by
  have ltz:z < s.heap.objs.size:=lt_size hz;have ltTI:TI < s.heap.objs.size:=lt_size hTI;have ltTO:TO < s.heap.objs.size:=lt_size hTO;have lt1:i1 < s.heap.objs.size:=by obtain ⟨o,e,_⟩:=h1;exact lt_size e
  have lt2:i2 < s.heap.objs.size:=by obtain ⟨o,e,_⟩:=h2;exact lt_size e
  have ltl1:l1 < s.heap.objs.size:=by obtain ⟨o,e,_⟩:=hl1;exact lt_size e
  have ltl2:l2 < s.heap.objs.size:=by obtain ⟨o,e,_⟩:=hl2;exact lt_size e
  refine callType_codes (Q₁:=fun obj s₁=>obj=.ref s.heap.objs.size/\s₁={ s with heap:=s.heap.push { cls:=.type "list",data:=.seq #[] } }) F.called_list (F.typeCall_list_1 _) F.entry_list_init
    (code_list_new _ ⟨rfl,rfl⟩) fun obj s₁ h₁=>?_
  obtain ⟨rfl,rfl⟩:=h₁;have hS:(s.heap.push { cls:=.type "list",data:=.seq #[] }).get? s.heap.objs.size=some { cls:=.type "list",data:=.seq #[] }:=get?_push_size _ rfl;refine ⟨⟨_,hS,rfl⟩,F.args_list_init_2 _ _,?_⟩;show wpAny _ A.in1.in1 (do let old<-Builtin.List.listItems (.ref s.heap.objs.size);Builtin.List.listUpdate (.ref s.heap.objs.size) (fun _=>#[]);letGo old.toList.reverse;Builtin.List.listExtendWith (.ref s.heap.objs.size) (.ref z) .none) _ _ _;refine wpAny_bind ?_;unfold Builtin.List.listItems;refine wpAny_bind (wpAny_seqItems hS rfl (wpAny_pure ?_));show wpAny _ A.in1.in1 (updateSeq s.heap.objs.size (fun _=>#[])>>=fun _=>letGo (#[]:Array Value).toList.reverse>>=fun _=>Builtin.List.listExtendWith (.ref s.heap.objs.size) (.ref z) .none) _ _ _;refine wpAny_bind (wpAny_updateSeq hS rfl ?_);have hS₂:=Heap.get?_update_self (Obj.mapSeq (fun _=>(#[]:Array Value))) hS rfl;refine wpAny_bind (wpAny_letGo ?_);have e2:∃ h2',h2'=(s.heap.push { cls:=.type "list",data:=.seq #[] }).update s.heap.objs.size (Obj.mapSeq (fun _=>(#[]:Array Value))):=⟨_,rfl⟩;obtain ⟨h2',eh2⟩:=e2;rw [<- eh2] at hS₂ ⊢;have oth2:∀ (b:Nat) o,b≠s.heap.objs.size->(s.heap.push { cls:=.type "list",data:=.seq #[] }).get? b=some o->h2'.get? b=some o:=fun b o hb e=>by rw [eh2];exact (Heap.get?_update_other _ _ (Ne.symm hb)).trans e
  have kp2:∀ (b:Nat) o,s.heap.get? b=some o->h2'.get? b=some o:=fun b o e=>oth2 b o (ne_of_lt (lt_size e)) (get?_push_of_some _ e)
  have sz2:h2'.objs.size=s.heap.objs.size+1:=by rw [eh2,Heap.size_update,Heap.size_push]
  unfold Builtin.List.listExtendWith;have hT:({ s with heap:=h2' }:Shared).TypeIs (.ref z) "zip":=⟨_,kp2 _ _ hz,rfl⟩;refine wpAny_bind (wpAny_typeOf hT ?_);have q1:Builtin.List.listSameRef (.ref s.heap.objs.size) (.ref z)=false:=by
    have:s.heap.objs.size≠z:=Nat.ne_of_gt ltz;simp [Builtin.List.listSameRef,this]
  have q2:(Value.type "zip"==Value.type "list")=false:=by decide
  have q3:(Value.type "zip"==Value.type "tuple")=false:=by decide
  simp only [q1,q2,q3,Bool.or_false,Bool.false_eq_true,if_false];refine wpAny_bind (wpAny_pyIter_zip (kp2 _ _ hz) ?_);refine wpAny_bind (wpAny_holding ?_);unfold Builtin.List.listLengthHint;refine wpAny_bind (wpAny_specialOf hT zH7 ?_);show wpAny _ A.in1.in1 (specialOf (Value.ref z) (Str.ofString "__length_hint__")>>=_) _ _ _;refine wpAny_bind (wpAny_specialOf hT zGS ?_);refine wpAny_pure ?_;show wpAny _ A.in1.in1 (rule "list.extend.makes-room">>=fun _=>Builtin.List.listTouch (.ref s.heap.objs.size)>>=fun _ =>
    again (.builtin "list.extend.loop" ⟨[.ref s.heap.objs.size,.ref z,.none],[]⟩)) _ _ _
  refine wpAny_bind (wpAny_rule ?_);refine wpAny_bind ?_;show wpAny _ A.in1.in1 (updateSeq s.heap.objs.size (·.push .none)>>=fun _=>updateSeq s.heap.objs.size (·.pop)) _ _ _;refine wpAny_bind (wpAny_updateSeq hS₂ rfl ?_);have hS₃:=Heap.get?_update_self (Obj.mapSeq (·.push Value.none)) hS₂ rfl;refine wpAny_updateSeq (hz:=by seq_fits) hS₃ rfl ?_;have hS₄:=Heap.get?_update_self (Obj.mapSeq (·.pop)) hS₃ rfl;have oth:∀ (b:Nat) o,b≠s.heap.objs.size->h2'.get? b=some o->((h2'.update s.heap.objs.size (Obj.mapSeq (·.push Value.none))).update s.heap.objs.size (Obj.mapSeq (·.pop))).get? b=some o :=
    fun b o hb e=>(Heap.get?_update_other _ _ (Ne.symm hb)).trans ((Heap.get?_update_other _ _ (Ne.symm hb)).trans e)
  have kp:∀ (b:Nat) o,s.heap.get? b=some o->((h2'.update s.heap.objs.size (Obj.mapSeq (·.push Value.none))).update s.heap.objs.size (Obj.mapSeq (·.pop))).get? b=some o:=fun b o e=>oth b o (ne_of_lt (lt_size e)) (kp2 b o e)
  refine wpAny_pure ⟨plainId_quiet F.plain_extend_loop _,zLH (s:=s) (A:=A.in1) hh D hlen hn ltz ltTI ltTO lt1 lt2 ltl1 ltl2 (le_refl _) .none (fun s' e=>⟨rfl,hQ s' e⟩) xs.size 0 _ rfl (zero_le _) ?_⟩;exact ⟨⟨_,rfl⟩,by show (Heap.update _ _ _).objs.size=_;rw [Heap.size_update,Heap.size_update,sz2],⟨_,hS₄⟩,.inl ⟨rfl,kp _ _ hz⟩,kp _ _ hTI,⟨a,b,kp _ _ hTO⟩,h1.at fun o e=>kp _ o e,h2.at fun o e=>kp _ o e,hl1.at fun o e=>kp _ o e,hl2.at fun o e=>kp _ o e,
    fun k x y hk=>absurd hk (Nat.not_lt_zero k),fun c o _ _ _ _ e=>kp c o e⟩
end
end DL
end
section
namespace DL
open PySem Spec PyProof.Rows L2
def HZ (H:Hp)(S:Nat)(us ws:List V):Hp:=fun (b:Nat)=>if b=S then some (.lst ((List.range us.length).map fun k=>V.ref (S+1+k))) else if S+1<=b/\b < S+1+us.length then some (.tup [us.getD (b - (S+1)) .non,ws.getD (b - (S+1)) .non]) else H b
theorem hz_S {H:Hp}{S:Nat}{us ws:List V}:HZ H S us ws S=some (.lst ((List.range us.length).map fun k=>V.ref (S+1+k))):=if_pos rfl
theorem hz_t {H:Hp}{S k:Nat}{us ws:List V}(hk:k < us.length):HZ H S us ws (S+1+k)=some (.tup [us.getD k .non,ws.getD k .non]):=by
  unfold HZ;rw [if_neg (by omega),if_pos (by omega),Nat.add_sub_cancel_left]
theorem zNp {H:Hp}{S b:Nat}{us ws:List V}(hb:b < S):HZ H S us ws b=H b:=by
  unfold HZ;rw [if_neg (by omega),if_neg (by omega)]
theorem zFW:∀ l:List Nat,Vals (l.map V.ref) (l.map Value.ref)
  | []=>.nil
  | a::l=>.cons rfl (zFW l)
theorem zIk {us:List V}{its:List Value}(r:Vals us its){k:Nat}(hk:k < us.length):∃ x,its[k]?=some x/\RelV (us.getD k .non) x:=by
  have e:us[k]?=some (us.getD k .non):=by
    rw [getD_eq_getElem?_getD];simp [hk]
  exact r.get e
def zipT (xs ys:List D):List D:=List.zipWith (fun a b=>D.tup [a,b]) xs ys
def zipD (x y:D):Option R:=match x,y with
  | .lst xs,.lst ys=>if xs.length=ys.length/\xs.length<=10000 then some (.lst (zipT xs ys),.fr) else none
  | _,_=>none
section
variable {X:Cx}
theorem zIW {a b:Expr}{f g:Dst->Option R}{p p2 pos pos2:Pos}(hcalm:X.calm=true)(hgl:Gl X "list")(hml:X.mg "list"=none)(hgz:Gl X "zip")(hmz:X.mg "zip"=none)(ha:GE X a f)(hb:GE X b g)
    (hs:starEach [a,b] X.env=(false,eval a X.env)::starEach [b] X.env) (hs2:starEach [b] X.env=[(false,eval b X.env)]) :
    GE X (.Call (.Name "list" p) [.Call (.Name "zip" p2) [a,b] [] pos2] [] pos) (two f g zipD):=by
  intro pins s σ H Q I ⟨S,δ,r,ds,e,c⟩;obtain ⟨x,ex,e⟩:=bind_some e;obtain ⟨y,ey,e⟩:=bind_some e;unfold zipD at e;split at e
  . rename_i xs ys exs eys;by_cases ok:xs.length=ys.length/\xs.length<=10000
    . rw [if_pos ok] at e;cases e;obtain ⟨hle,hl10⟩:=ok;refine wpAny_Call_Name_kw (zCh I hgl hml boot_list ?_ (by decide) (by decide));refine PyProof.Rows.callWith_type1 ?_ rfl rfl;show wpAny _ _ (spliced ((false,eval (.Call (.Name "zip" p2) [a,b] [] pos2) X.env)::[])) _ _ s;refine Calls.spliced_cons ?_;refine wpAny_Call_Name_kw (zCh I hgz hmz boot_zip ?_ (by decide) (by decide));refine PyProof.Rows.callWith_type1 (thn ((zAa ha (zAa hb zA9 hs2) hs) pos2 pins s σ H (fun vs H2=>∃ vx vy,vs=[vx,vy]/\Same H H2/\Rdv X.K H2 S x.1 vx/\Rdv X.K H2 S y.1 vy) I
        ⟨S,δ,x,ds,ex,fun vx H1 s1 r1=>⟨S,δ,y,ds.mono s1,ey,fun vy H2 s2 r2=>⟨vx,vy,rfl,s1.trans s2,r1.rd.mono s2,r2.rd⟩⟩⟩) fun us s1 ⟨vs,H1,I1,r1,q1⟩=>?_) hs (by rw [hs2];rfl)
      obtain ⟨vx,vy,rfl,sm,dx,dy⟩:=q1;rw [exs] at dx;rw [eys] at dy;obtain ⟨l1,v1,rfl,w1,d1⟩:=dx.lst;obtain ⟨l2,v2,rfl,w2,d2⟩:=dy.lst;obtain ⟨u1,u2,rfl,ru1,ru2⟩:=zOE r1;cases ru1;cases ru2;obtain ⟨its1,rv1,p1,z1⟩:=I1.list w1;obtain ⟨its2,rv2,p2,z2⟩:=I1.list w2;have n1:xs.length=v1.length:=d1.length;have n2:ys.length=v2.length:=d2.length;have m1:=rv1.length;have m2:=rv2.length;have lt1:l1 < s1.heap.objs.size:=by obtain ⟨o,q,_⟩:=p1.isList;exact lt_size q
      have lt2:l2 < s1.heap.objs.size:=by obtain ⟨o,q,_⟩:=p2.isList;exact lt_size q
      refine call_zip_2 p1.isList p2.isList fun h' hz hTI hTO hit1 hit2 hsz hk=>?_
      refine Calls.spliced_nil ?_;refine zFM (s:={ s1 with heap:=h' }) (I.ok.hd hcalm) (zipApart_new lt1 lt2) hz hTI hTO hit1 hit2 (p1.isList.at fun o q=>hk _ o q) (p2.isList.at fun o q=>hk _ o q) (by rw [size_toArray,size_toArray];omega) (by rw [size_toArray];omega) fun s' Z=>?_
      obtain ⟨h'',es'⟩:=Z.same;have eS:({ s1 with heap:=h' }:Shared).heap.objs.size=s1.heap.objs.size+5:=hsz;have gS:∃ n0,n0=s1.heap.objs.size:=⟨_,rfl⟩;obtain ⟨n0,en0⟩:=gS;rw [eS,<- en0] at Z ⊢;rw [<- en0] at lt1 lt2;subst es';have kp:∀ (b:Nat) o,s1.heap.get? b=some o->h''.get? b=some o:=fun b o q=>by
        have hb:b < n0:=by rw [en0];exact lt_size q
        exact Z.keep b o (by omega) (by omega) (by omega) (by omega) (hk b o q)
      obtain ⟨cc,hlst⟩:=Z.lst;have lt0:∀ {b:Nat} {o:HO},H1 b=some o->b < n0:=fun {b o} q=>by rw [en0];exact (I1.hok b o q).lt
      have old:∀ {b:Nat} {o:HO},H1 b=some o->HZ H1 (n0+5) v1 v2 b=some o:=fun {b o} q=>by rw [zNp (by have:=lt0 q;omega)];exact q
      have hn:its1.toArray.size=v1.length:=by rw [size_toArray];exact m1.symm
      rw [hn] at hlst;have hok:HOk X.prog X.w (HZ H1 (n0+5) v1 v2) h'':=fun (b:Nat) o q=>by
        by_cases c1:b=n0+5
        . subst c1;rw [hz_S] at q;cases q;refine ⟨by rw [length_map,length_range];exact z1,(List.range v1.length).map fun k=>Value.ref (n0+5+1+k),cc,?_,hlst⟩;have:=zFW ((List.range v1.length).map fun k=>n0+5+1+k);rw [map_map,map_map] at this;exact this
        . by_cases c2:n0+5+1<=b/\b < n0+5+1+v1.length
          . have eb:b=n0+5+1+(b - (n0+5+1)):=by omega
            have hkl:b - (n0+5+1) < v1.length:=by omega
            rw [eb,hz_t hkl] at q;cases q;obtain ⟨ux,ex1,rx⟩:=zIk rv1 hkl;obtain ⟨uy,ey1,ry⟩:=zIk rv2 (k:=b - (n0+5+1)) (by omega);have tp:=Z.tup (b - (n0+5+1)) ux uy (by simpa using ex1) (by simpa using ey1);refine ⟨by show 2<=sizeLine;decide,[ux,uy],.cons rx (.cons ry .nil),?_⟩;rw [<- eb] at tp;exact ⟨_,tp,rfl,_,rfl⟩
          . have q':H1 b=some o:=by
              unfold HZ at q;rw [if_neg c1,if_neg c2] at q;exact q
            exact (I1.hok b o q').stay (fun d v _ w=>kp d v w) (fun d w=>old w) (fun d ws w=>old w) fun d ob u w _=>old w
      have gone:∀ (b:Nat) o,s1.heap.get? b=some o->H1 b=none->HZ H1 (n0+5) v1 v2 b=none:=fun b o q n=>by
        have hb:b < n0:=by rw [en0];exact lt_size q
        rw [zNp (by omega)];exact n
      have un:Un X.fs [] H1 (HZ H1 (n0+5) v1 v2) s1.heap h'':=⟨fun b o q _ _ _=>kp b o q,fun b o q _ _ _=>⟨o.slots,kp b o q⟩,fun b o q n _=>gone b o q n,fun b o q _=>⟨o,kp b o q⟩,fun b ws q=>old q,fun b o w q=>old q,fun b ps q=>old q⟩;have sH:Same H1 (HZ H1 (n0+5) v1 v2):=fun b o q=>old q
      have fr:H1 (n0+5)=none:=I1.hok.fresh (by rw [<- en0];omega);have nS:∀ {b:Nat},b∈S->b < n0:=fun {b} z=>by
        obtain ⟨ws,q,_⟩:=(ds.mono sm).sok b z;exact lt0 q
      refine ⟨.ref (n0+5),_,I1.un (t':=s1.toks) un hok,rfl,c _ _ (sm.trans sH) ⟨n0+5,_,_,rfl,rfl,fun z=>absurd (nS z) (by omega),sm.free fr,hz_S,?_⟩⟩;refine DenL.of_get ?_ fun i d v ed ev=>?_
      . unfold zipT;rw [List.length_zipWith,length_map,length_range];omega
      . unfold zipT at ed;rw [List.getElem?_zipWith] at ed;rw [getElem?_map] at ev;cases e1:xs[i]? with
        | none=>rw [e1] at ed;simp at ed
        | some dx' =>
          cases e2:ys[i]? with
          | none=>rw [e1,e2] at ed;simp at ed
          | some dy' =>
            rw [e1,e2] at ed;cases ed;have hi:i < v1.length:=by rw [<- n1];exact (zzg e1).1
            rw [getElem?_range hi] at ev;cases ev;obtain ⟨va,qa,da⟩:=d1.get e1;obtain ⟨vb,qb,db⟩:=d2.get e2;have ga:v1.getD i .non=va:=by rw [getD_eq_getElem?_getD,qa];rfl
            have gb:v2.getD i .non=vb:=by rw [getD_eq_getElem?_getD,qb];rfl
            have up:Same (hide H1 S) (hide (HZ H1 (n0+5) v1 v2) ((n0+5)::S)):=fun (b:Nat) o q=>by
              obtain ⟨q1,q2⟩:=zAq q;rw [zAM fun z=>(mem_cons.mp z).elim (fun z=>by have z':b=n0+5:=z;have:=lt0 q2;omega) q1];exact old q2
            rw [Den];refine ⟨n0+5+1+i,[va,vb],rfl,SqT.of ?_,.cons (da.mono up) (.cons (db.mono up) .nil)⟩;rw [zAM fun z=>(mem_cons.mp z).elim (fun z=>by have z':n0+5+1+i=n0+5:=z;omega) fun z=>by have:=nS z;omega,hz_t hi,ga,gb]
    . rw [if_neg ok] at e;cases e
  . cases e
end
def insD (i:Nat)(kk f:Dst->Option R):Dst->Option Out:=fun δ=>match δ[i]? with
  | some (some (.lst xs,true))=>(kk δ).bind fun j=>match j.1 with
    | .int n=>(f δ).bind fun r=>if r.2=.dt then none else if 0<=n/\n<=xs.length/\xs.length<=10000 then some (.nx (δ.set i (some (.lst (xs.take n.toNat++r.1::xs.drop n.toNat),true)))) else none
    | _=>none
  | _=>none
def Arr (stack:List Env)(H':Hp)(h0:Heap)(ex:List Addr)(a C:Addr)(h:Heap):Prop :=
  ∃ B:Heap,B.StaysIn h/\B.get? a=none/\h.FunFrames B stack/\(∀ b u,H' b=some u->∃ o,B.get? b=some o)/\(∀ b o,h0.get? b=some o->b∉frs stack->b∉ex->∃ o',B.get? b=some o') /\
    ∃ a0,(∃ fl,h.TracedAtW B a (.ref C) a0 fl)\/(∃ oe vs,h.get? a=some oe/\oe.cls=.ref C/\oe.data=.fields vs/\vs[1]?=some .none/\vs[0]?=some a0)
structure Gone (P:Program)(w:World)(stack:List Env)(ex:List Addr)(H H':Hp)(s s':Shared)(a C:Addr):Prop where
  os:s'.os=s.os
  bare:AllBare s'.gens
  un:Un (frs stack) ex H H' s.heap s'.heap
  hok:HOk P w H' s'.heap
  arr:Arr stack H' s.heap ex a C s'.heap
def GX {α:Type}(X:Cx)(m:Sem α)(f:Dst->Option Str):Prop:=True
abbrev GXs (X:Cx) (st:Stmt) (f:Dst->Option Str):Prop:=GX X (exec st X.env) f
abbrev GXss (X:Cx) (st:List Stmt) (f:Dst->Option Str):Prop:=GX X (execs st X.env) f
section
variable {X:Cx}
theorem zAL {α:Type}{m:Sem α}:GX X m fun _=>none:=trivial
end
end DL
end
section
namespace DL
open PySem Spec PyProof.Rows L2 PySem.W Builtin Builtin.ObjectAttr Builtin.Getset_descriptor
section
variable {prog:Program}{w:World}{A:Around}{E:Value->Shared->Prop}{h:Heap}{g:Array GenState}{d:Drawn}{t:Nat}{os:OsState}{a C:Addr}{o:Obj}{K:W.Frag}
structure XCls (K:W.Frag)(C:Addr):Prop where
  ga:findIn K (.ref C) "__getattribute__"=some (some (.builtin "BaseException.__getattribute__"))
  gt:findIn K (.ref C) "__getattr__"=some none
  cl:findIn K (.ref C) "__class__"=some (some (.builtin "object.__class__"))
  mo:mroIn K C (.type "object")=some true
  mb:subIn K (.ref C) (.type "BaseException")=some true
  is:(clsIn K C).isSome=true
end
end DL
end
section
namespace DL
open PySem Spec PyProof.Rows L2
section
variable {X:Cx}
def iscF (sub:Str->Option Bool):D->Option R
  | .exc c=>(sub c).bind fun b=>some (.bl b,.cl)
  | _=>none
end
end DL
end
section
namespace DL
open PySem Spec PyProof.Rows L2
section
variable {X:Cx}
def chD (o o':D->D->Option R)(f g h:Dst->Option R):Dst->Option R:=fun δ=>(f δ).bind fun x=>(g δ).bind fun y=>match o x.1 y.1 with
  | some (.bl true,_)=>(h δ).bind fun z=>o' y.1 z.1
  | some (.bl false,_)=>some (.bl false,.cl)
  | _=>none
theorem zHb {r r':R2}{o o':D->D->Option R}{f g h:Dst->Option R}(ho:OpD X.K r o)(ho':OpD X.K r' o'){σ:St}{H:Hp}{Q:VK}(q:gT X.K (chD o o' f g h) σ H Q):zIp r r' (gT X.K f) (gT X.K g) (gT X.K h) σ H Q:=by
  obtain ⟨S,δ,z,ds,e,c⟩:=q;obtain ⟨x,ex,e⟩:=bind_some e;obtain ⟨y,ey,e⟩:=bind_some e;refine ⟨S,δ,x,ds,ex,fun vx H1 s1 r1=>⟨S,δ,y,ds.mono s1,ey,fun vy H2 s2 r2=>?_⟩⟩;split at e
  . rename_i k eo;obtain ⟨w,ew,e⟩:=bind_some e;refine ho S H2 x.1 y.1 _ vx vy _ (ds.mono (s1.trans s2)).sok eo (r1.rd.mono s2) r2.rd fun v H3 s3 r3=>⟨true,r3.rd.bl,?_⟩
    rw [if_pos rfl];refine ⟨S,δ,w,ds.mono (s1.trans (s2.trans s3)),ew,fun vw H4 s4 r4=>?_⟩;exact ho' S H4 y.1 w.1 z vy vw Q (ds.mono (s1.trans (s2.trans (s3.trans s4)))).sok e (r2.rd.mono (s3.trans s4)) r4.rd fun v' H5 s5 r5=>c v' H5 (s1.trans (s2.trans (s3.trans (s4.trans s5)))) (r5.from (s1.trans (s2.trans (s3.trans s4))))
  . rename_i k eo;cases e;refine ho S H2 x.1 y.1 _ vx vy _ (ds.mono (s1.trans s2)).sok eo (r1.rd.mono s2) r2.rd fun v H3 s3 r3=>⟨false,r3.rd.bl,?_⟩
    rw [if_neg Bool.false_ne_true];exact c _ H3 (s1.trans (s2.trans s3)) (.bl _)
  . cases e
def chB (op:CmpOp):Bool:=decide (op=.Lt)||decide (op=.LtE)||decide (op=.Gt)||decide (op=.GtE)
theorem zHi {op op':CmpOp}{b c:Expr}(h:chB op'=true):lastMarks [op,op'] [b,c]=false:=by
  unfold chB at h;simp only [Bool.or_eq_true,decide_eq_true_eq] at h;rcases h with ((h | h) | h) | h<;>subst h<;>(simp only [lastMarks];exact zC5 c)
theorem zMN {op op':CmpOp}{r r':R2}{o o':D->D->Option R}{a b c:Expr}{f g h:Dst->Option R}{pos:Pos}(h1:OpR X (compareOp op) r)(h2:OpR X (compareOp op') r')(ho:OpD X.K r o)(ho':OpD X.K r' o')(hm:chB op'=true)
    (ha:GE X a f) (hb:GE X b g) (hc:GE X c h):GE X (.Compare a [op,op'] [b,c] pos) (chD o o' f g h)/\GT X (.Compare a [op,op'] [b,c] pos) (asB (chD o o' f g h)) :=
  ⟨(zLm h1 h2 ha hb hc (zHi hm)).imp fun _ _ _ q=>zHb ho ho' q,(zLf h1 h2 ha hb hc (zHi hm)).imp fun _ _ _ q=>zHb ho ho' (zGq q)⟩
def zQa:D->Option R
  | .lst ds=>some (.tup ds,.cl)
  | .tup ds=>some (.tup ds,.cl)
  | _=>none
end
end DL
namespace DL
open PySem Spec PyProof.Rows L2
def extD (i:Nat)(f:Dst->Option R):Dst->Option Out:=fun δ=>match δ[i]? with
  | some (some (.lst xs,true))=>(f δ).bind fun r=>match r with
    | (.lst ys,.fr)=>if xs.length+ys.length<=10000 then some (.nx (δ.set i (some (.lst (xs++ys),true)))) else none
    | _=>none
  | _=>none
theorem zRw {X:Cx}{i:Nat}{x:Str}{e:Expr}{f:Dst->Option R}{pos cpos apos npos:Pos}(hi:X.N[i]?=some x)(hv:Vis X.env.scope x)(hd:(x==("__debug__":Str))=false)(hcd:(x==("__classdict__":Str))=false)(h:GE X e f)
    (he:starEach [e] X.env=[(false,eval e X.env)]) (hbase:attributeBase (.Name x npos) "extend" X.env (eval (.Name x npos) X.env)=eval (.Name x npos) X.env) (hline:(apos.endLine==cpos.line)=true) :
    GS X (.Expr (.Call (.Attribute (.Name x npos) "extend" apos) [e] [] cpos) pos) (extD i f):=fun H0=>(zGf (zOi PySem.F.plainAttrs_list PySem.F.slot_list_extend PySem.F.type_list_extend zJj (zDo hi hv hd hcd) (zAa h zA9 he) hbase (by rw [he];rfl) hline he rfl) rfl).imp fun E σ H zz69=>by
  obtain ⟨S,δ,o,ds,h0,e,p⟩:=zz69;unfold extD at e;split at e
  . rename_i xs q;obtain ⟨r,er,e⟩:=bind_some e;split at e
    . rename_i ys;by_cases hl:xs.length+ys.length<=10000
      . rw [if_pos hl] at e;cases e;obtain ⟨v,q1,q2⟩:=ds.get i _ true q;obtain ⟨a,vs,es,rfl,e2,w1,w2,w3⟩:=q2.ownL rfl;cases e2;refine ⟨.ref a,q1,.inl ⟨rfl,_,SqL.of w2⟩,S,δ,_,ds,er,fun y H1 s1 r1=>?_⟩;obtain ⟨b,zs,ds',rfl,e3,nb,hb,hb',dl⟩:=r1;cases e3;have w3':=w3.mono (zAP s1 (S:=S));have dl':=dl.mono (zBo (H:=H1) (S:=S) (T:=b::S) fun c z=>mem_cons_of_mem _ z);have l1:=w3.length;have l2:=dl.length;refine ⟨a,b,vs,zs,rfl,rfl,s1 _ _ w2,hb',le_trans (show vs.length+zs.length<=10000 by omega) (by decide),?_⟩;have t:DenL X.K (hide H1 S) (xs++ys) (vs++zs):=w3'.append dl';have d2:=(ds.mono s1).change (i:=i) q q1 t;refine p S σ _ d2 ?_;rw [zE8 w1];exact h0.trans (zAP s1)
      . rw [if_neg hl] at e;cases e
    . cases e
  . cases e
end DL
namespace DL
open PySem Spec PyProof.Rows L2
section
variable {X:Cx}
def tg4 (i j k l:Nat):D->Dst->Option Dst:=fun d δ=>match d with
  | .tup [a,b,c,e]=>some ((((δ.set i (some (a,false))).set j (some (b,false))).set k (some (c,false))).set l (some (e,false)))
  | _=>none
structure Tgt (X:Cx)(i:Nat)(x:Str):Prop where
  at_:X.N[i]?=some x
  loc:Loc X.env.scope x
  fn:X.fn x=true\/X.env.scope.names.lookup x=some .local
def unpD (t:D->Dst->Option Dst)(f:Dst->Option R):Dst->Option Out:=fun δ=>(f δ).bind fun r=>if r.2=.dt then none else (t r.1 δ).bind fun δ'=>some (.nx δ')
end
end DL
end
section
namespace DL
open PySem
theorem zIQ:typeLookup (.type "list_reverseiterator") "__len__"=pure none:=by rw [typeLookup_type,builtinLookup_eq_fast];kernel_rfl
theorem zL1:typeLookup (.type "list_reverseiterator") "__length_hint__"=pure (some (.builtin "list_reverseiterator.__length_hint__")):=by rw [typeLookup_type,builtinLookup_eq_fast];kernel_rfl
theorem zL0:isSubtype (.type "list_reverseiterator") (.type "list_reverseiterator")=pure true:=by rw [isSubtype_type];kernel_rfl
section
variable {prog:Program}{w:World}{A:Around}{E:Value->Shared->Prop}{s:Shared}{I l:Addr}{items:Array Value}
theorem zME {M:Model}{Q:Bool->Shared->Prop}(hT:s.TypeIs (.ref I) "list_reverseiterator")(h:Q false s):wpAny M A (Builtin.List.listLengthHint (.ref I)) Q E s:=by
  unfold Builtin.List.listLengthHint;refine wpAny_bind (wpAny_specialOf hT zIQ ?_);show wpAny _ A (specialOf (Value.ref I) (Str.ofString "__length_hint__")>>=_) _ _ _;refine wpAny_bind (wpAny_specialOf hT zL1 ?_);have hs:splitId "list_reverseiterator.__length_hint__"=some ("list_reverseiterator","__length_hint__"):=by decide +kernel
  simp only [hs];unfold isInstance;refine wpAny_bind (wpAny_bind (wpAny_typeOf hT (wpAny_of_eq zL0 ?_)));rw [if_neg (show ¬ ((!true)=true) by decide)];rw [if_pos (by decide +kernel)];rw [if_neg (by decide +kernel)];exact wpAny_pure h
theorem zFN {Q:Value->Shared->Prop}(hh:A.handled=none)(hne:l≠I)(hit:s.heap.IsRevIter I l ((items.size:Int) - 1))(hl:s.heap.IsList l items)(hn:items.size<=10000)
    (hQ:∀ s' acc' c',Moved (s.heap.objs.size::[I]) (fun a b=>b=a) { s with heap:=s.heap.push { cls:=.type "list",data:=.seq #[] } } s' ->
      s'.heap.get? s.heap.objs.size=some { cls:=.type "list",dict:=none,data:=.seq acc' c',slots:=#[] }->ItemsOf (fun i v=>items[items.size - 1 - i]?=some v) acc' items.size->Q (.ref s.heap.objs.size) s') :
    wpAny (model prog w) A (call (.type "list") [.ref I]) Q E s:=by
  have W:=(Walks.listRev (prog:=prog) (w:=w) (A:=A.in1.in1) hh I l hne items).toS;have hst:(items.size:Nat)>=0/\True:=⟨zero_le _,trivial⟩;have st0:(fun (i:Nat) (s:Shared)=>i<=items.size/\s.heap.IsRevIter I l ((items.size:Int) - 1 - (i:Int))/\s.heap.IsList l items) 0 s:=⟨zero_le _,by simpa using hit,hl⟩;have ltI:I < s.heap.objs.size:=by obtain ⟨o,e,_⟩:=hit;exact lt_size e
  have ltl:l < s.heap.objs.size:=by obtain ⟨o,e,_⟩:=hl;exact lt_size e
  have hSf:s.heap.objs.size∉[I,l]:=fun hm=>by
    rcases mem_cons.mp hm with e | e
    . exact lt_irrefl _ (e▸ltI)
    . exact lt_irrefl _ ((mem_singleton.mp e)▸ltl)
  have hs:items.size<=sizeLine:=le_trans hn (by decide);refine callType_codes (Q₁:=fun obj s₁=>obj=.ref s.heap.objs.size/\s₁={ s with heap:=s.heap.push { cls:=.type "list",data:=.seq #[] } }) F.called_list (F.typeCall_list_1 _) F.entry_list_init
    (code_list_new _ ⟨rfl,rfl⟩) fun obj s₁ h₁=>?_
  obtain ⟨rfl,rfl⟩:=h₁;have hS:(s.heap.push { cls:=.type "list",data:=.seq #[] }).get? s.heap.objs.size=some { cls:=.type "list",data:=.seq #[] }:=get?_push_size _ rfl;refine ⟨⟨_,hS,rfl⟩,F.args_list_init_2 _ _,?_⟩;show wpAny _ A.in1.in1 (do let old<-Builtin.List.listItems (.ref s.heap.objs.size);Builtin.List.listUpdate (.ref s.heap.objs.size) (fun _=>#[]);letGo old.toList.reverse;Builtin.List.listExtendWith (.ref s.heap.objs.size) (.ref I) .none) _ _ _;refine wpAny_bind ?_;unfold Builtin.List.listItems;refine wpAny_bind (wpAny_seqItems hS rfl (wpAny_pure ?_));show wpAny _ A.in1.in1 (updateSeq s.heap.objs.size (fun _=>#[])>>=fun _=>letGo (#[]:Array Value).toList.reverse>>=fun _=>Builtin.List.listExtendWith (.ref s.heap.objs.size) (.ref I) .none) _ _ _;refine wpAny_bind (wpAny_updateSeq hS rfl ?_);have hS₂:=Heap.get?_update_self (Obj.mapSeq (fun _=>(#[]:Array Value))) hS rfl;refine wpAny_bind (wpAny_letGo ?_);have oth:∀ b o,b≠s.heap.objs.size->(s.heap.push { cls:=.type "list",data:=.seq #[] }).get? b=some o->((s.heap.push { cls:=.type "list",data:=.seq #[] }).update s.heap.objs.size (Obj.mapSeq (fun _=>(#[]:Array Value)))).get? b=some o :=
    fun b o hb e=>(Heap.get?_update_other _ _ (Ne.symm hb)).trans e
  have kp:∀ (b:Nat) o,s.heap.get? b=some o->((s.heap.push { cls:=.type "list",data:=.seq #[] }).update s.heap.objs.size (Obj.mapSeq (fun _=>(#[]:Array Value)))).get? b=some o:=fun b o e=>oth b o (ne_of_lt (lt_size e)) (get?_push_of_some _ e)
  have hit2:=hit.at (h':=(s.heap.push { cls:=.type "list",data:=.seq #[] }).update s.heap.objs.size (Obj.mapSeq (fun _=>(#[]:Array Value)))) fun o e=>kp I o e
  have hT:({ s with heap:=(s.heap.push { cls:=.type "list",data:=.seq #[] }).update s.heap.objs.size (Obj.mapSeq (fun _=>(#[]:Array Value))) }:Shared).TypeIs (.ref I) "list_reverseiterator":=hit2.typeIs;have st2:=W.frame 0 s ((s.heap.push { cls:=.type "list",data:=.seq #[] }).update s.heap.objs.size (Obj.mapSeq (fun _=>(#[]:Array Value)))) s.toks st0 (le_refl _) fun b hb o e=>kp b o e
  unfold Builtin.List.listExtendWith;refine wpAny_bind (wpAny_typeOf hT ?_);have q1:Builtin.List.listSameRef (.ref s.heap.objs.size) (.ref I)=false:=by
    have:s.heap.objs.size≠I:=Nat.ne_of_gt ltI;simp [Builtin.List.listSameRef,this]
  have q2:(Value.type "list_reverseiterator"==Value.type "list")=false:=by decide
  have q3:(Value.type "list_reverseiterator"==Value.type "tuple")=false:=by decide
  simp only [q1,q2,q3,Bool.or_false,Bool.false_eq_true,if_false];refine wpAny_bind (W.self 0 _ _ _ st2 ?_);refine wpAny_bind (wpAny_holding (zME hT ?_));rw [if_neg (by decide +kernel)];refine wpAny_pure ⟨plainId_quiet F.plain_extend_loop _,codeAny_extend_loopS W hs _ hSf _ items.size 0 _ _ _ rfl (zero_le _) st2 hS₂ (ItemsOf.nil _) fun s' acc' c' hm hS' hacc=>?_⟩;have m1:Moved (s.heap.objs.size::[I]) (fun a b=>b=a) { s with heap:=s.heap.push { cls:=.type "list",data:=.seq #[] } } { s with heap:=(s.heap.push { cls:=.type "list",data:=.seq #[] }).update s.heap.objs.size (Obj.mapSeq (fun _=>(#[]:Array Value))) } :=
    ⟨fun b o hb e=>oth b o (fun h=>hb (by rw [h];exact mem_cons_self)) e,rfl,rfl,rfl,le_refl _⟩
  exact ⟨rfl,hQ s' acc' c' (Moved.trans W.gtrans m1 hm) hS' hacc⟩
end
end DL
namespace DL
open PySem Spec PyProof.Rows L2
theorem zLM {xs:List V}{us:List Value}(h:Vals xs us):Vals xs.reverse us.reverse:=by
  induction h with
  | nil=>exact .nil
  | cons r t ih =>
    rw [reverse_cons,reverse_cons];exact ih.append (.cons r .nil)
theorem DenL.rev {K:W.Frag}{H:Hp}:∀ {ds:List D} {vs:List V},DenL K H ds vs->DenL K H ds.reverse vs.reverse
  | [],_,h=>by rw [DenL] at h;subst h;exact .nil
  | d::ds,_,h=>by
    rw [DenL] at h;obtain ⟨v,ws,rfl,h1,h2⟩:=h;rw [reverse_cons,reverse_cons];exact (DenL.rev h2).append (.cons h1 .nil)
theorem zMw:bootBuiltins "reversed"=some (.type "reversed"):=by decide +kernel
def revD:D->Option R
  | .lst xs=>if xs.length<=10000 then some (.lst xs.reverse,.fr) else none
  | _=>none
section
variable {X:Cx}
theorem zJ3 {its:List Value}{acc:Array Value}(h:ItemsOf (fun i v=>its.toArray[its.toArray.size - 1 - i]?=some v) acc its.toArray.size):acc=its.reverse.toArray:=by
  apply Array.ext';apply ext_getElem?;intro j;obtain ⟨h1,h2⟩:=h;have h3:acc.size=its.length:=h1.trans (by simp);by_cases hj:j < acc.size
  . have e:=h2 j _ (Array.getElem?_eq_getElem hj);rw [Array.getElem?_toList,Array.getElem?_eq_getElem hj];rw [size_toArray,List.getElem?_toArray] at e;show _=its.reverse[j]?;rw [List.getElem?_reverse (by omega)];exact e.symm
  . rw [Array.getElem?_toList,Array.getElem?_eq_none (by omega)];show _=its.reverse[j]?;rw [getElem?_eq_none (by rw [List.length_reverse];omega)]
theorem zIX {a:Expr}{f:Dst->Option R}{p p2 pos pos2:Pos}(hcalm:X.calm=true)(hgl:Gl X "list")(hml:X.mg "list"=none)(hgz:Gl X "reversed")(hmz:X.mg "reversed"=none)(ha:GE X a f)
    (hs:starEach [a] X.env=[(false,eval a X.env)]) :
    GE X (.Call (.Name "list" p) [.Call (.Name "reversed" p2) [a] [] pos2] [] pos) (one f revD):=by
  intro pins s σ H Q I ⟨S,δ,r,ds,e,c⟩;obtain ⟨x,ex,e⟩:=bind_some e;unfold revD at e;split at e
  . rename_i xs exs;by_cases ok:xs.length<=10000
    . rw [if_pos ok] at e;cases e;refine wpAny_Call_Name_kw (zCh I hgl hml boot_list ?_ (by decide) (by decide));refine PyProof.Rows.callWith_type1 ?_ rfl rfl;show wpAny _ _ (spliced ((false,eval (.Call (.Name "reversed" p2) [a] [] pos2) X.env)::[])) _ _ s;refine Calls.spliced_cons ?_;refine wpAny_Call_Name_kw (zCh I hgz hmz zMw ?_ (by decide) (by decide));refine PyProof.Rows.callWith_type1 (thn ((zAa ha zA9 hs) pos2 pins s σ H (fun vs H2=>∃ vx,vs=[vx]/\Same H H2/\Rdv X.K H2 S x.1 vx) I
        ⟨S,δ,x,ds,ex,fun vx H1 s1 r1=>⟨vx,rfl,s1,r1.rd⟩⟩) fun us s1 ⟨vs,H1,I1,r1,q1⟩=>?_) hs rfl
      obtain ⟨vx,rfl,sm,dx⟩:=q1;rw [exs] at dx;obtain ⟨l1,v1,rfl,w1,d1⟩:=dx.lst;obtain ⟨u1,rfl,ru1⟩:=zIl r1;cases ru1;obtain ⟨its1,rv1,p1,z1⟩:=I1.list w1;have n1:xs.length=v1.length:=d1.length;have m1:=rv1.length;have lt1:l1 < s1.heap.objs.size:=by obtain ⟨o,q,_⟩:=p1.isList;exact lt_size q
      refine call_reversed_list p1.isList ?_;refine Calls.spliced_nil ?_;have kq:∀ b o,s1.heap.get? b=some o->(s1.heap.push (revObj l1 ((its1.toArray.size:Int) - 1))).get? b=some o:=fun b o q=>get?_push_of_some _ q
      refine zFN (s:={ s1 with heap:=s1.heap.push (revObj l1 ((its1.toArray.size:Int) - 1)) }) (I:=s1.heap.objs.size) (l:=l1) (items:=its1.toArray) (I1.ok.hd hcalm) (ne_of_lt lt1) ⟨_,get?_push_size _ rfl,rfl,rfl⟩ (p1.isList.at fun o q=>kq _ o q) (by rw [size_toArray];omega) fun s' acc c' mv hlst hit=>?_
      have sz:({ s1 with heap:=s1.heap.push (revObj l1 ((its1.toArray.size:Int) - 1)) }:Shared).heap.objs.size=s1.heap.objs.size+1:=Heap.size_push _ _;rw [sz] at mv hlst ⊢;obtain rfl:=zJ3 hit;have kp:∀ b o,s1.heap.get? b=some o->s'.heap.get? b=some o:=fun b o q=>by
        have hb:b < s1.heap.objs.size:=lt_size q;refine mv.heap b o (fun z=>?_) (get?_push_of_some _ (kq b o q));rcases mem_cons.mp z with z | z
        . exact absurd hb (by rw [z];exact Nat.not_lt.mpr (Nat.le_succ _))
        . exact absurd hb (by rw [mem_singleton.mp z];exact lt_irrefl _)
      have es:s'={ s1 with heap:=s'.heap,toks:=s'.toks }:=by
        obtain ⟨h',g',d',t',o'⟩:=s';have e1:g'=s1.gens:=mv.gens;have e2:d'=s1.drawn:=mv.drawn;have e3:o'=s1.os:=mv.os;subst e1 e2 e3
        rfl
      have fr:H1 (s1.heap.objs.size+1)=none:=I1.hok.fresh (Nat.le_succ _);have I2:Inv X pins σ (upd H1 (s1.heap.objs.size+1) (.lst v1.reverse)) { s1 with heap:=s'.heap,toks:=s'.toks } :=
        I1.laid kp (Nat.le_succ _) (show zCd X.prog X.w _ _ _ (.lst v1.reverse) from ⟨by rw [List.length_reverse];exact z1,its1.reverse,c',zLM rv1,hlst⟩)
      rw [es];refine ⟨.ref (s1.heap.objs.size+1),_,I2,rfl,c _ _ (sm.trans (zAj fr _)) (.lstNew sm (ds.mono sm).sok fr d1.rev)⟩
    . rw [if_neg ok] at e;cases e
  . cases e
end
end DL
end
section
namespace DL
open PySem Spec PyProof.Rows L2
section
variable {X:Cx}
def augI:Operator->Int->Int->Option Int
  | .Add,a,b=>some (a+b)
  | .Sub,a,b=>some (a - b)
  | _,_,_=>none
def augD (op:Operator)(i:Nat)(f:Dst->Option R):Dst->Option Out:=fun δ=>match δ[i]? with
  | some (some (.int a,false))=>(f δ).bind fun r=>match r.1 with
    | .int b=>(augI op a b).bind fun c=>some (.nx (δ.set i (some (.int c,false))))
    | _=>none
  | _=>none
theorem zRx {op:Operator}{i:Nat}{x:Str}{e:Expr}{f:Dst->Option R}{pos pos':Pos}(hN:X.N.Nodup)(hi:X.N[i]?=some x)(hx:Loc X.env.scope x)(h:GE X e f)(hf:X.fn x=true\/X.env.scope.names.lookup x=some .local) :
    GS X (.AugAssign (.Name x pos') op e pos) (augD op i f):=fun H0=>by
  have go:∀ (g:Int->Int->Int),(∀ a b,augI op a b=some (g a b))->OpR X (inplaceOp op) (rI0 fun i j=>.int (g i j))->PS X (.AugAssign (.Name x pos') op e pos) (gS X.K H0 (augD op i f)):=fun g hg ho=>(zQy hN hi hx h (fun pins s σ H x y v u Q I rx ry q=>ho pins s σ H x y v u Q I rx ry q) hf).imp fun E σ H zz70=>by
    obtain ⟨S,δ,o,ds,h0,e,p⟩:=zz70;unfold augD at e;split at e
    . rename_i a q;obtain ⟨r,er,e⟩:=bind_some e;obtain ⟨d,k⟩:=r;split at e
      . rename_i b eb;rw [hg] at e;cases e;dsimp only at eb;subst eb;obtain ⟨v,q1,q2⟩:=ds.get i _ _ q;have q3:=q2.den rfl;rw [Den] at q3;subst q3;refine ⟨_,q1,S,δ,_,ds,er,fun y H1 s1 r1=>⟨a,b,rfl,r1.rd.int,?_⟩⟩;exact p S _ H1 ((ds.mono s1).set (by rw [Den])) (h0.trans (zAP s1))
      . cases e
    . cases e
  have no:(∀ a b,augI op a b=none)->PS X (.AugAssign (.Name x pos') op e pos) (gS X.K H0 (augD op i f)):=fun hn=>(zEy (X:=X)).imp fun E σ H zz71=>by
    obtain ⟨S,δ,o,ds,h0,e,p⟩:=zz71;unfold augD at e;split at e
    . obtain ⟨r,er,e⟩:=bind_some e;split at e
      . rw [hn] at e;cases e
      . cases e
    . cases e
  cases op with
  | Add=>exact go (·+·) (fun _ _=>rfl) zPN
  | Sub=>exact go (· - ·) (fun _ _=>rfl) zPM
  | _=>exact no fun _ _=>rfl
def swpD (i j k l:Nat):Dst->Option Out:=fun δ=>match δ[k]?,δ[l]? with
  | some (some (a,false)),some (some (b,false))=>some (.nx ((δ.set i (some (a,false))).set j (some (b,false))))
  | _,_=>none
def tg3 (i j k:Nat):D->Dst->Option Dst:=fun d δ=>match d with
  | .tup [a,b,c]=>some (((δ.set i (some (a,false))).set j (some (b,false))).set k (some (c,false)))
  | _=>none
def zNo:List D->Option (List Int)
  | []=>some []
  | .int i::ds=>(zNo ds).map fun ns=>i::ns
  | _=>none
def sumD:D->Option R
  | .lst ds=>(zNo ds).map fun ns=>(.int ns.sum,.cl)
  | _=>none
theorem zCw:∀ {ns:List Int} {its:List Value},Vals (ns.map V.int) its->∃ ps:List (Int×Tok),its=ps.map (fun p=>Value.int p.1 p.2)/\ps.map (·.1)=ns
  | [],[],_=>⟨[],rfl,rfl⟩
  | n::ns,_::_,.cons r t=>by
    obtain ⟨ps,rfl,e2⟩:=zCw t;obtain ⟨tk,rfl⟩:=r;exact ⟨(n,tk)::ps,rfl,by rw [map_cons,e2]⟩
end
section
variable {X:Cx}
theorem RV.str {K:W.Frag}{H H':Hp}{S:List Addr}(x:Str):RV K H H' S (.str x,.cl) (.str x):=by show Den _ _ _ _;rw [Den]
def zMt (x:Str):List D:=x.cps.toList.map fun c=>D.str ⟨#[c]⟩
def Its (x:Str):It:=⟨fun i _=>i < x.cps.size,fun i H v H'=>H'=H/\∃ c,x.cps[i]?=some c/\v=.str ⟨#[c]⟩,fun i _=>x.cps.size<=i⟩
theorem zLO {P:Program}{w:World}{K:W.Frag}{tg:Expr}(it:Addr)(x:Str)(t:Tok):Turn P w K tg (Its x) [it] it (fun i h=>h.IsStrIter it "str_ascii_iterator" x t i) where
  mem:=by simp
  obj:=fun i h st b hb=>by
    have e:b=it:=by simpa using hb
    subst e;obtain ⟨o,e,c,d⟩:=st;exact ⟨o,e,fun v z=>by rw [d] at z;cases z⟩
  keep:=fun i h h' st k=>let ⟨o,ho,r⟩:=st;⟨o,k it (by simp) o ho,r⟩
  item:=by
    intro X hP hw hK hc i pins s σ H E I hf st hg;subst hP hw hK;obtain ⟨f0,f1,f2,f3,f4,f5⟩:=hf it (by simp);have hg':i < x.cps.size:=hg;refine wpAny_pyNext_ascii_item st (c:=x.cps[i]) (by simp [hg']) fun h' st' sb=>?_
    have I1:Inv X pins σ H { s with heap:=h',toks:=s.toks+1 }:=I.turned (fun b o hb e=>(sb.2 b hb).trans e) f0 f1 f3 f4 f5;obtain ⟨o,e,c,d⟩:=id st';exact ⟨_,rfl,zKI (s:={ s with heap:=h',toks:=s.toks+1 }) e c d (by decide) ⟨.str ⟨#[x.cps[i]]⟩,H,I1,⟨_,rfl⟩,⟨rfl,_,by simp [hg'],rfl⟩,st',fun b hb=>(hf b hb).1⟩⟩
  done:=by
    intro X hP hw hK hc i pins s σ H E I hf st hg;subst hP hw hK;obtain ⟨f0,f1,f2,f3,f4,f5⟩:=hf it (by simp);have hg':x.cps.size<=i:=hg;exact wpAny_pyNext_ascii_end (I.ok.hd hc) st (by simp [hg']) fun h' eb=>⟨rfl,I.turned (t':=s.toks) (fun b o hb e=>eb b o hb e) f0 f1 f3 f4 f5⟩
  self:=fun _ _ _ _ _ st h=>wpAny_pyIter_striter_ascii st h
def iStr (tl:TE):TI:=fun σ H R=>tl σ H fun v H1=>∃ x:Str,v=.str x/\x.cps.all (· < 128)=true/\R (Its x) H1
theorem zQ0 {tg l:Expr}{tl:TE}(hl:PE X l tl):PI X tg l (iStr tl):=by
  intro pins s σ H R I h;refine thn (hl pins s σ H _ I h) fun v s1 zz72=>?_
  obtain ⟨x,H1,I1,r1,q1⟩:=zz72;obtain ⟨z,e,ha,q⟩:=q1;subst e;obtain ⟨t,rfl⟩:=r1;refine wpAny_pyIter_ascii ha ?_;refine ⟨s1.heap.objs.size,[s1.heap.objs.size],_,_,H1,rfl,I1.kept (t':=s1.toks) fun b o e=>get?_push_of_some _ e,zLO _ z t,⟨_,get?_push_size _ rfl,rfl,rfl⟩,fun b hb=>?_,q⟩;have e:b=s1.heap.objs.size:=by simpa using hb
  subst e;exact I1.fpOk (le_refl _) (I1.hok.fresh (le_refl _))
def zJ4 (f:Dst->Option R):Dst->Option (List D):=fun δ=>match f δ with
  | some (.str x,_)=>if x.cps.all (· < 128)=true then some (zMt x) else none
  | _=>none
theorem zR2 {tg iter:Expr}{f:Dst->Option R}(h:GE X iter f):GI X tg iter (zJ4 f):=by
  refine ⟨_,zQ0 h,fun σ H S δ xs Rr ds e q=>?_⟩;unfold zJ4 at e;split at e
  . rename_i x k q1;by_cases ha:x.cps.all (· < 128)=true
    . rw [if_pos ha] at e;cases e;have hl:(zMt x).length=x.cps.size:=by unfold zMt;simp
      refine ⟨S,δ,_,ds,q1,fun v H1 s1 r1=>⟨x,r1.rd.str,ha,q _ H1 s1 fun i H2 hi k2=>?_⟩⟩;refine ⟨fun ei=>by rw [hl] at ei;exact Nat.le_of_eq ei.symm,fun hx=>⟨by rw [hl] at hx;exact hx,fun v H3 y=>⟨y.1,fun d ed=>?_⟩⟩⟩;obtain ⟨_,c,hc,rfl⟩:=y;unfold zMt at ed;have hc':x.cps.toList[i]?=some c:=by rw [Array.getElem?_toList];exact hc
      rw [getElem?_map,hc'] at ed;cases ed;rw [Den]
    . rw [if_neg ha] at e;cases e
  . cases e
inductive T1 where
  | str | int | all | len
  deriving DecidableEq
def bsOf:List D->Option (List Bool)
  | []=>some []
  | .bl b::ds=>(bsOf ds).map fun bs=>b::bs
  | _=>none
def zNI:List D->Option (List Str)
  | []=>some []
  | .str x::ds=>(zNI ds).map fun xs=>x::xs
  | _=>none
def zS8:D->Option R
  | .int i=>if i.natAbs.log2 < 1920 then some (.str (Str.ofString (toString i)),.cl) else none
  | _=>none
def zTZ:D->Option R
  | .str x=>if x.length<=640 then (PySem.intText? x).map fun n=>(.int n,.cl) else none
  | _=>none
def allD:D->Option R
  | .lst ds=>(bsOf ds).map fun bs=>(.bl (bs.all id),.cl)
  | _=>none
def zTA:D->Option R
  | .str x=>if x.length<=10000 then some (.int x.length,.cl) else none
  | _=>none
def t1D:T1->D->Option R
  | .str=>zS8
  | .int=>zTZ
  | .all=>allD
  | .len=>zTA
def T1.nm:T1->Str
  | .str => "str"
  | .int => "int"
  | .all => "all"
  | .len => "len"
inductive T2 where
  | add | inn | ix | drp | sw | spl | join | zf | fs (x:Str)
open Builtin Builtin.Str in
def zOL (x y:Str):Bool:=!(y.length==0)&&decide (x.length<=10000)&&decide ((Txt.split x y).length<=10000)&&decide ((partsBetween x (occurrences x y 0 x.length (x.length+1)) y.length).length<=10000)
def txtD:D->Option Str
  | .int i=>if i.natAbs.log2 < 1920 then some (Str.ofString (toString i)) else none
  | .str x=>if x.length<=10000 then some x else none
  | _=>none
def zTB (x y:D):Option R:=match x,y with
  | .str i,.str j=>if i.length+j.length<=10000 then some (.str (i++j),.cl) else none
  | _,_=>none
def sinD (x y:D):Option R:=match x,y with
  | .str i,.str j=>some (.bl (!(Builtin.Str.occurrences j i 0 j.length 1).isEmpty),.cl)
  | _,_=>none
def sixD (x y:D):Option R:=match x,y with
  | .str z,.int i=>if 0<=i/\z.length<=10000 then (z.cps[i.toNat]?).map fun c=>(.str ⟨#[c]⟩,.cl) else none
  | _,_=>none
def sdrD (x y:D):Option R:=match x,y with
  | .str z,.int i=>if z.length<=10000 then some (.str (Txt.slice z (some i) none),.cl) else none
  | _,_=>none
def swD (x y:D):Option R:=match x,y with
  | .str i,.str j=>some (.bl (Txt.startswith i j),.cl)
  | _,_=>none
def splD (x y:D):Option R:=match x,y with
  | .str i,.str j=>if zOL i j=true then some (.lst ((Txt.split i j).map D.str),.fr) else none
  | _,_=>none
def zTV (x y:D):Option R:=match x,y with
  | .str i,.lst ds=>(zNI ds).bind fun ts=>if JoinOk i ts=true then some (.str (Txt.join i ts),.cl) else none
  | _,_=>none
def zfD (x y:D):Option R:=match x,y with
  | .str i,.int j=>if PadOk j=true then some (.str (Txt.zfill i j),.cl) else none
  | _,_=>none
def fsD (m:Str)(x y:D):Option R:=(txtD x).bind fun a=>(txtD y).bind fun b=>if a.length+m.length+b.length<=10000 then some (.str (a++m++b),.cl) else none
def t2D:T2->D->D->Option R
  | .add=>zTB
  | .inn=>sinD
  | .ix=>sixD
  | .drp=>sdrD
  | .sw=>swD
  | .spl=>splD
  | .join=>zTV
  | .zf=>zfD
  | .fs m=>fsD m
end
section
variable {X:Cx}
def anyS (sub:Str->Str->Option Bool)(c:Str):List Str->Option Bool
  | []=>some false
  | y::ys=>match sub y c with
    | some true=>some true
    | some false=>anyS sub c ys
    | none=>none
def isaF (sub:Str->Str->Option Bool)(ys:List Str):D->Option R
  | .exc c=>(anyS sub c ys).bind fun b=>some (.bl b,.cl)
  | _=>none
inductive ClsT (X:Cx) (sub:Str->Str->Option Bool):List Str->List Expr->List V->List Value->Prop
  | nil:ClsT X sub [] [] [] []
  | cons {y:Str} {ys:List Str} {p:Pos} {es:List Expr} {v:V} {vs:List V} {u:Value} {us:List Value}:(∀ u',RelV v u'->u'=u)->PE X (.Name y p) (tC v)->(∀ c b,sub y c=some b->∀ C,zQV X.K c C->XCls X.K C/\W.kitOne X.K (.ref C) u=some b) ->
      ClsT X sub ys es vs us->ClsT X sub (y::ys) (.Name y p::es) (v::vs) (u::us)
theorem ClsT.pa {sub:Str->Str->Option Bool}{ys:List Str}{es:List Expr}{vs:List V}{us:List Value}(h:ClsT X sub ys es vs us):PA X es (fun _ H Q=>Q vs H):=by
  induction h with
  | nil=>exact zA9
  | cons h1 h2 h3 h4 ih=>exact zAa h2 ih rfl
theorem ClsT.us {sub:Str->Str->Option Bool}{ys:List Str}{es:List Expr}{vs:List V}{us ws:List Value}(h:ClsT X sub ys es vs us)(r:Vals vs ws):ws=us:=by
  induction h generalizing ws with
  | nil=>cases r;rfl
  | cons h1 h2 h3 h4 ih =>
    cases r with
    | cons r1 r2=>rw [h1 _ r1,ih r2]
theorem ClsT.any {sub:Str->Str->Option Bool}{ys:List Str}{es:List Expr}{vs:List V}{us:List Value}(h:ClsT X sub ys es vs us){c:Str}{C:Addr}(q:zQV X.K c C):∀ {b:Bool},anyS sub c ys=some b->W.kitAny X.K (.ref C) us=some b:=by
  induction h with
  | nil=>intro b e;exact e
  | cons h1 h2 h3 h4 ih =>
    intro b e;unfold anyS at e;unfold W.kitAny;split at e
    . rename_i e1;rw [(h3 c true e1 C q).2];exact e
    . rename_i e1;rw [(h3 c false e1 C q).2];exact ih e
    . cases e
theorem ClsT.len {sub:Str->Str->Option Bool}{ys:List Str}{es:List Expr}{vs:List V}{us:List Value}(h:ClsT X sub ys es vs us):vs.length=ys.length:=by
  induction h with
  | nil=>rfl
  | cons h1 h2 h3 h4 ih=>rw [length_cons,length_cons,ih]
def rRep (K:W.Frag):R2:=fun x y H Q=>∃ l xs i,x=.ref l/\y=.int i/\SqL K H l xs/\0<=i/\i<=10000/\xs.length*i.toNat<=10000/\∀ p,H p=none->Q (.ref p) (upd H p (.lst (List.replicate i.toNat xs).flatten))
theorem zHF {vs:List V}{us:List Value}(h:Vals vs us):∀ n:Nat,Vals (List.replicate n vs).flatten (List.replicate n us).flatten
  | 0=>.nil
  | n+1=>by rw [replicate_succ,flatten_cons,replicate_succ,flatten_cons];exact h.append (zHF h n)
theorem zKs {K:W.Frag}{H:Hp}{ds:List D}{vs:List V}(h:DenL K H ds vs):∀ n:Nat,DenL K H (List.replicate n ds).flatten (List.replicate n vs).flatten
  | 0=>.nil
  | n+1=>by rw [replicate_succ,flatten_cons,replicate_succ,flatten_cons];exact h.append (zKs h n)
theorem zGm {α:Type}(xs:List α):∀ n:Nat,(List.replicate n xs).flatten.length=xs.length*n
  | 0=>by simp
  | n+1=>by rw [replicate_succ,flatten_cons,length_append,zGm xs n,Nat.mul_succ];omega
theorem zRF:OpR X (binaryOp .Mult) (rRep X.K):=by
  intro pins s σ H x y v u Q I rx ry h;obtain ⟨l,xs,i,rfl,rfl,hl,h0,h1,hz,q⟩:=h;cases rx;obtain ⟨t,rfl⟩:=ry;obtain ⟨its,rv,⟨⟨cls,dd,data,sl⟩,n,e1,e2,e3,e4⟩,z1⟩:=I.list hl;simp only at e2 e3 e4;subst e2 e4;have hsz:its.toArray.size*i.toNat<=10000:=by rw [size_toArray,<- rv.length];exact hz
  refine wpAny_binaryOp_repeat_ref (T := "list") (U := "int") (by decide) ⟨_,e1,rfl⟩ (fun s'=>typeIs_int s' i t) noFill_list_mul F.fills_int_mul F.slot_int_rmul repeat_list F.slot_int_index.lookup ?_;refine call_meets F.slot_int_rmul (typeIs_int s i t) F.entry_int_rmul (F.args_int_rmul_2 _ _) (lm_int_rmul_list_any i t l _ n dd sl) ⟨e1,rfl,⟨_,e1,rfl⟩,?_⟩;refine call_meets F.slot_list_mul ⟨_,e1,rfl⟩ F.entry_list_mul (F.args_list_mul_2 _ _) (lm_list_mul_any l _ n dd sl i t (by simp [Builtin.List.listFitsIndex];omega) (by omega) (by simp [Builtin.List.listTooLong,sizeLine];rw [size_toArray] at hsz;omega)) ⟨e1,?_⟩;rw [listMul_foldl_if];exact ⟨.ref _,_,I.lnew (t':=s.toks) (zHF rv i.toNat) (by rw [zGm];exact zCe hz),rfl,q _ I.fresh⟩
end
end DL
end
section
namespace L2
open PySem Spec PyProof.Rows
section
variable {κ:Type}[DecidableEq κ]
def valV (kvs:List (κ×V))(k:κ):Option V:=(kvs.find? fun kv=>decide (kv.1=k)).map (·.2)
def putK (kvs:List (κ×V))(k:κ)(v:V):List (κ×V) :=
  if (kvs.any fun kv=>decide (kv.1=k))=true then kvs.map (fun kv=>if kv.1=k then (kv.1,v) else kv) else kvs++[(k,v)]
theorem zHH {p:κ×V}{r:List (κ×V)}{k:κ}(e:p.1=k):valV (p::r) k=some p.2:=by simp [valV,find?_cons,e]
theorem zHI {p:κ×V}{r:List (κ×V)}{k:κ}(e:¬ p.1=k):valV (p::r) k=valV r k:=by simp [valV,find?_cons,e]
theorem zHJ (k:κ):∀ kvs:List (κ×V),(kvs.any fun kv=>decide (kv.1=k))=(valV kvs k).isSome
  | []=>rfl
  | p::r=>by
    rw [List.any_cons];by_cases e:p.1=k
    . simp only [zHH e,decide_eq_true e,Bool.true_or,Option.isSome_some]
    . rw [zHI e,decide_eq_false e,Bool.false_or];exact zHJ k r
end
theorem RelO.isSome_eq {o:Option V}{u:Option Value}(r:RelO o u):o.isSome=u.isSome:=by
  cases o with
  | none=>cases u with
    | none=>rfl
    | some _=>exact (show False from r).elim
  | some _=>cases u with
    | none=>exact (show False from r).elim
    | some _=>rfl
abbrev KT (H:Hp):List (List Key×V)->List (List Key×Addr×Value)->Prop:=Paired fun p q=>p.1=q.1/\H q.2.1=some (.tup (p.1.map kV))/\RelV p.2 q.2.2
theorem KT.val {H:Hp}{kvs:List (List Key×V)}{xs:List (List Key×Addr×Value)}(r:KT H kvs xs)(k:List Key):RelO (valV kvs k) ((atKey xs k).map (·.2)):=by
  induction r with
  | nil=>exact True.intro
  | @cons p q ps qs h t ih =>
    obtain ⟨h1,_,h2⟩:=h;by_cases e:p.1=k
    . have e':q.1=k:=h1.symm.trans e;have b:atKey (q::qs) k=some q.2:=by simp [atKey,find?_cons,e']
      rw [zHH e,b];exact h2
    . have e':¬ q.1=k:=fun z=>e (h1.trans z)
      have b:atKey (q::qs) k=atKey qs k:=by simp [atKey,find?_cons,e']
      rw [zHI e,b];exact ih
theorem KT.repl {H:Hp}{kvs:List (List Key×V)}{xs:List (List Key×Addr×Value)}(r:KT H kvs xs)(k:List Key){y:V}{u:Value}(ry:RelV y u) :
    KT H (kvs.map fun kv=>if kv.1=k then (kv.1,y) else kv) (xs.map (putAt k u)):=by
  induction r with
  | nil=>exact .nil
  | @cons p q ps qs h t ih =>
    rw [map_cons,map_cons];refine .cons ?_ ih;obtain ⟨h1,h2,h3⟩:=h;unfold putAt;by_cases e:p.1=k
    . rw [if_pos e,if_pos (h1.symm.trans e)];exact ⟨h1,h2,ry⟩
    . rw [if_neg e,if_neg (fun z=>e (h1.trans z))];exact ⟨h1,h2,h3⟩
theorem KT.put {H:Hp}{kvs:List (List Key×V)}{xs:List (List Key×Addr×Value)}(r:KT H kvs xs)(k:List Key){b:Addr}{y:V}{u:Value}(hb:H b=some (.tup (k.map kV)))(ry:RelV y u) :
    KT H (putK kvs k y) (storedH xs k b u):=by
  have e:(kvs.any fun kv=>decide (kv.1=k))=(atKey xs k).isSome:=by
    rw [zHJ,(r.val k).isSome_eq,Option.isSome_map]
  unfold putK storedH;rw [e];by_cases q:(atKey xs k).isSome=true
  . rw [if_pos q,if_pos q];exact r.repl k ry
  . rw [if_neg q,if_neg q];exact Paired.snoc r ⟨rfl,hb,ry⟩
theorem KT.keeps {H H':Hp}{kvs:List (List Key×V)}{xs:List (List Key×Addr×Value)}(r:KT H kvs xs)(ht:∀ b ys,H b=some (.tup ys)->H' b=some (.tup ys)):KT H' kvs xs :=
  Paired.mapP r fun _ _ z=>⟨z.1,ht _ _ z.2.1,z.2.2⟩
section
variable {X:Cx}{pins:List (Addr×Obj)}{σ:St}{H:Hp}{s:Shared}{a:Addr}{y v:V}{u r:Value}{o:Option V}{A:Around}{E:Value->Shared->Prop}
theorem Inv.big (I:Inv X pins σ H s):sysModules < s.heap.objs.size:=by
  have h:mainGlobals < s.heap.objs.size:=(I.mod.glob.keeps I.bk).lt;exact Nat.lt_trans (by decide) h
end
end L2
end
section
namespace DL
open PySem Spec PyProof.Rows L2
def ninD (f g h:Dst->Option R):Dst->Option R:=fun δ=>(f δ).bind fun x=>(g δ).bind fun y=>(h δ).bind fun z=>match x.1,y.1,z.1 with
  | .int i,.int j,.dct ks=>some (.bl (!decide ((i,j)∈ks)),.cl)
  | _,_,_=>none
variable {X:Cx}
def putP (ks:List (Int×Int))(q:Int×Int):List (Int×Int):=if q∈ks then ks else ks++[q]
def zT0 (i:Nat):Dst->Option Out:=fun δ=>some (.nx (δ.set i (some (.dct [],true))))
def zTz (i:Nat)(f g:Dst->Option R):Dst->Option Out:=fun δ=>match δ[i]? with
  | some (some (.dct ks,true))=>(f δ).bind fun x=>(g δ).bind fun y=>match x.1,y.1 with
    | .int m,.int n=>if ks.length<=10000 then some (.nx (δ.set i (some (.dct (putP ks (m,n)),true)))) else none
    | _,_=>none
  | _=>none
end DL
end
section
namespace DL
open PySem Spec PyProof.Rows L2
theorem zD3 {P:Program}{w:World}{H:Hp}{h:Heap}{b:Addr}{o:Obj}(e:h.get? b=some o):zCd P w H h b (.frz o anyU):=⟨e,True.intro,⟨o,e⟩,fun _ _ _ _=>True.intro⟩
theorem zOX {P:Program}{w:World}{fs:List Addr}{H H2:Hp}{h h':Heap}{S:List Addr}(hS:∀ b∈S,∃ o,H b=some (.frz o anyU))(nf:∀ b∈S,b∉fs)(hok:HOk P w H h)(un:Un fs [] (hide H S) H2 h h')(hok2:HOk P w H2 h') :
    ∃ H':Hp,(∀ b∈S,H' b=H b)/\(∀ b,b∉S->H' b=H2 b)/\Same H2 H'/\(∀ b∈S,H2 b=none)/\Un fs [] H H' h h'/\HOk P w H' h':=by
  have there:∀ {b:Addr},b∈S->∃ o,H b=some (.frz o anyU)/\h'.get? b=some o/\H2 b=none:=fun {b} z=>by
    obtain ⟨o,e⟩:=hS b z;obtain ⟨e1,_⟩:=hok b _ e;exact ⟨o,e,un.keep b o e1 (zB1 z) (nf b z) (by simp),un.free b o e1 (zB1 z) (by simp)⟩
  have nS:∀ {b:Addr} {u:HO},H2 b=some u->b∉S:=fun {b u} e z=>by
    obtain ⟨_,_,_,q⟩:=there z;rw [q] at e;cases e
  have nN:∀ {b:Addr},H b=none->b∉S:=fun {b} e z=>by
    obtain ⟨_,q,_⟩:=there z;rw [q] at e;cases e
  have hid:∀ {b:Addr},b∉S->hide H S b=H b:=fun z=>zAM z
  obtain ⟨H',hin,hout⟩:∃ H':Hp,(∀ b∈S,H' b=H b)/\(∀ b,b∉S->H' b=H2 b):=⟨fun b=>if b∈S then H b else H2 b,fun b z=>if_pos z,fun b z=>if_neg z⟩;have sm:Same H2 H':=fun b u e=>by rw [hout b (nS e)];exact e
  refine ⟨H',hin,hout,sm,fun b z=>(there z).choose_spec.2.2,⟨fun b o e n=>un.keep b o e (by rw [hid (nN n)];exact n),fun b o e n=>un.slot b o e (by rw [hid (nN n)];exact n),fun b o e n hx=>?_,un.there,fun b xs e=>?_,fun b o u e=>?_,fun b q e=>?_⟩,fun b u e=>?_⟩
  . rw [hout b (nN n)];exact un.free b o e (by rw [hid (nN n)];exact n) hx
  . have z:b∉S:=fun z=>by obtain ⟨_,q,_⟩:=there z;rw [q] at e;cases e
    rw [hout b z];exact un.tups b xs (by rw [hid z];exact e)
  . by_cases z:b∈S
    . rw [hin b z];exact e
    . rw [hout b z];exact un.frzs b o u (by rw [hid z];exact e)
  . have z:b∉S:=fun z=>by obtain ⟨_,q,_⟩:=there z;rw [q] at e;cases e
    rw [hout b z];exact un.tbls b q (by rw [hid z];exact e)
  . by_cases z:b∈S
    . obtain ⟨o,q,g,_⟩:=there z;rw [hin b z,q] at e;cases e;exact zD3 g
    . rw [hout b z] at e;exact (hok2 b u e).stay (fun _ _ _ q=>q) (fun _ q=>sm _ _ q) (fun _ _ q=>sm _ _ q) fun _ _ _ q _=>sm _ _ q
theorem zMD {P:Program}{w:World}{H:Hp}{h:Heap}{S:List Addr}(hS:∀ b∈S,∃ o v,H b=some (.frz o anyU)/\o.data=.cell v)(hok:HOk P w H h):HOk P w (hide H S) h:=fun b u e=>by
  obtain ⟨nb,e1⟩:=zAq e;have keep:∀ {c:Addr} {v:HO},H c=some v->(∀ o,v≠.frz o anyU)->hide H S c=some v:=fun {c v} q n=>by
    rw [zAM fun z=>?_]
    . exact q
    . obtain ⟨o,_,q2,_⟩:=hS c z;rw [q] at q2;exact n o (Option.some.inj q2)
  refine (hok b u e1).stay (fun _ _ _ q=>q) (fun c q=>keep q fun o z=>nomatch z) (fun c xs q=>keep q fun o z=>nomatch z) fun c ob v q zz73=>?_
  obtain ⟨vs,d⟩:=zz73;rw [zAM fun z=>?_]
  . exact q
  . obtain ⟨o,cv,q2,d2⟩:=hS c z;rw [q] at q2;cases q2;rw [d] at d2;cases d2
theorem zBH.get:∀ {H:Hp} {cl:List (Str×Addr)} {vs:List V},zBH H cl vs->∀ {i:Nat} {v:V},vs[i]?=some v->∃ p o u,cl[i]?=some p/\H p.2=some (.frz o anyU)/\o.data=.cell (some u)/\RelV v u
  | _,_,_,.nil,i,v,e=>by simp at e
  | H,_,_,.cons (a:=p) (b:=v0) ⟨o,u,h1,h2,h3⟩ t,i,v,e=>by
    cases i with
    | zero=>simp at e;subst e;exact ⟨p,o,u,by simp,h1,h2,h3⟩
    | succ i =>
      obtain ⟨p',o',u',e1,e2⟩:=zBH.get (H:=H) t (i:=i) (v:=v) (by simpa using e);exact ⟨p',o',u',by simpa using e1,e2⟩
theorem zBH.mem {H:Hp}{cl:List (Str×Addr)}{vs:List V}(h:zBH H cl vs):∀ p∈cl,∃ o u,H p.2=some (.frz o anyU)/\o.data=.cell (some u):=by
  induction h with
  | nil=>intro p hp;exact absurd hp (by simp)
  | cons r t ih =>
    intro p hp;rcases mem_cons.mp hp with rfl | hp
    . obtain ⟨o,u,h1,h2,_⟩:=r;exact ⟨o,u,h1,h2⟩
    . exact ih p hp
def zSh (P:Program)(w:World)(K:W.Frag)(mg:Str->Option Value)(base:Heap)(N:List Str)(L:LamI)(f c:Addr)(cl:List (Str×Addr))(A:Around)(outer:List Env)(s:Shared)(H:Hp):Cx where
  prog:=P
  w:=w
  K:=K
  mg:=mg
  base:=base
  A:=A.deeper (W.envX L.qual L.scope s.heap.objs.size f (.ref c) cl)
  N:=N
  s₀:=s
  H₀:=H
  env:=W.envX L.qual L.scope s.heap.objs.size f (.ref c) cl
  outer:=outer
  stack:=W.envX L.qual L.scope s.heap.objs.size f (.ref c) cl::outer
  ex:=[]
  calm:=true
  fn:=fun _=>false
  pn:=[]
  xe:=fun _ _=>False
structure zIh (x:Str)(ys:List Str)(L:LamI):Prop where
  kind:L.scope.kind=.function
  co:L.scope.isCoroutine=false
  gen:L.scope.isGenerator=false
  nd:(x::ys).Nodup
  par:L.scope.names.lookup x=some .local
  fr:∀ y∈ys,L.scope.names.lookup y=some .free
  all:∀ y,L.scope.names.lookup y=some .free->y∈ys
  nocell:∀ y∈L.scope.names,y.2≠.cell
  bind:∀ cl pm c ctv u,bindArgs (W.kla_fn "<lambda>" L.qual L.params L.body L.scope cl pm c ctv) ⟨[u],[]⟩=pure [(x,u)]
theorem zFx {ys:List Str}:∀ {cl:List (Str×Addr)},cl.map (·.1)=ys->ys.Nodup->∀ {i:Nat} {p:Str×Addr},cl[i]?=some p->cl.lookup p.1=some p.2/\ys[i]?=some p.1:=fun {cl} h nd {i p} e=>by
  refine ⟨?_,by rw [<- h,getElem?_map,e];rfl⟩;subst h
  induction cl generalizing i with
  | nil=>simp at e
  | cons q cl ih =>
    rw [map_cons,nodup_cons] at nd;cases i with
    | zero=>simp at e;subst e;rw [lookup_cons,beq_self_eq_true]
    | succ i =>
      have e':cl[i]?=some p:=by simpa using e
      have ne:(p.1==q.1)=false:=beq_eq_false_iff_ne.mpr fun z=>nd.1 (by rw [<- z];exact mem_map.mpr ⟨p,mem_of_getElem? e',rfl⟩)
      rw [lookup_cons,ne];exact ih e' nd.2
theorem zPO {P:Program}{w:World}{K:W.Frag}{mg:Str->Option Value}{base:Heap}{x:Str}{ys:List Str}{L:LamI}{f c:Addr}{cl:List (Str×Addr)}{A:Around}{outer:List Env}{s:Shared}{H:Hp}{u:Value}{v:V}{vs:List V}{h₁:Heap}
    (S:zIh x ys L) (hd:A.handled=none) (hdp:A.depth+1+Builtin.pylongFrames < recursionLimit) (e0:Env0 P w K mg base A outer s H) (r:RelV v u) (hy:cl.map (·.1)=ys) (hnd:(cl.map (·.2)).Nodup) (hc:zBH H cl vs)
    (hns:h₁.Ns s.heap.objs.size (fun y=>([(x,u)]:List (Str×Value)).reverse.lookup y)) (hsb:Heap.SameBut s.heap.objs.size (s.heap.push { cls:=.type "frame",data:=.dict #[] }) h₁) (tk:Nat) :
    Inv (zSh P w K mg base (x::ys) L f c cl A outer s (hide H (cl.map (·.2)))) [] (some v::vs.map some) (hide H (cl.map (·.2))) { s with heap:=h₁,toks:=tk }:=by
  have hk:∀ b o,s.heap.get? b=some o->h₁.get? b=some o:=fun b o e=>hsb.extBut b o (ne_of_lt (lt_size e)) (get?_push_of_some _ e)
  have hS:∀ b∈cl.map (·.2),∃ o v,H b=some (.frz o anyU)/\o.data=.cell v:=fun b z=>by
    obtain ⟨p,hp,rfl⟩:=mem_map.mp z;obtain ⟨o,u,h1,h2⟩:=hc.mem p hp;exact ⟨o,_,h1,h2⟩
  have hok:=zMD hS e0.hok;have none_of:∀ {b:Addr},H b=none->hide H (cl.map (·.2)) b=none:=fun {b} q=>by
    by_cases z:b∈cl.map (·.2)
    . exact zB1 z
    . rw [zAM z];exact q
  have lk:∀ {y:Str} {c':Addr},cl.lookup y=some c'->(y,c')∈cl:=fun e=>PySem.mem_of_lookup e
  have cell:∀ {y:Str} {c':Addr},(y,c')∈cl->∃ cv,h₁.IsCell c' cv:=fun {y c'} m=>by
    obtain ⟨o,u,h1,h2⟩:=hc.mem _ m;obtain ⟨e1,_⟩:=e0.hok _ _ h1;exact ⟨_,o,hk _ _ e1,h2⟩
  have nodupY:ys.Nodup:=(nodup_cons.mp S.nd).2;have nx:x∉ys:=(nodup_cons.mp S.nd).1;have noA:∀ b:Addr,b∉([]:List Addr):=fun b z=>absurd z (by simp)
  have lv:vs.length=cl.length:=(Paired.length hc).symm;refine ⟨⟨e0.mod,S.kind,rfl,rfl,le_refl _,fun y z c' h1 h2=>?_,fun y hy'=>?_,fun y c' q _=>(by cases q),fun _=>hd,Around.frames_deeper e0.frames,.inr ⟨rfl,rfl⟩,fun b z=>absurd z (noA b),fun b o e=>⟨(e0.bs b o e).1,none_of (e0.bs b o e).2⟩,e0.bsz,fun b _ _=>noA b,fun b z=>absurd z (noA b),e0.funs,fun b z=>none_of (e0.frf b z),⟨hdp,e0.tree,_,_,rfl,S.gen,S.co,rfl,rfl⟩,fun y hy' c' P' e=>?_⟩,
    rfl,e0.bare,Un.kept hk,⟨_,hns,fun i y v' h1 h2 h3=>?_⟩,fun y c' h=>cell (lk h),e0.hok.fresh (le_refl _) |> none_of,fun y c' h=>zB1 (mem_map.mpr ⟨_,lk h,rfl⟩),fun p hp=>absurd (show p∈([]:List (Addr×Obj)) from hp) (by simp),hok.kept hk,?_⟩
  . -- the cells are apart
    have a1:=lk h1;have a2:=lk h2;have key:∀ {l:List (Str×Addr)},(l.map (·.2)).Nodup->∀ {p q:Str×Addr},p∈l->q∈l->p.2=q.2->p=q:=by
      intro l nd
      induction l with
      | nil=>intro p q hp;exact absurd hp (by simp)
      | cons a l ih =>
        intro p q hp hq e;rw [map_cons,nodup_cons] at nd;rcases mem_cons.mp hp with e1 | hp2
        . rcases mem_cons.mp hq with e2 | hq2
          . rw [e1,e2]
          . rw [e1] at e;exact absurd (show a.2∈l.map (·.2) from mem_map.mpr ⟨q,hq2,e.symm⟩) nd.1
        . rcases mem_cons.mp hq with e2 | hq2
          . rw [e2] at e;exact absurd (show a.2∈l.map (·.2) from mem_map.mpr ⟨p,hp2,e⟩) nd.1
          . exact ih nd.2 hp2 hq2 e
    exact congrArg Prod.fst (key hnd a1 a2 rfl)
  . have hy'':L.scope.names.lookup y=some .cell\/L.scope.names.lookup y=some .free:=hy';rcases hy'' with q | q
    . exact absurd rfl (S.nocell _ (PySem.mem_of_lookup q))
    . have m:=S.all y q;rw [<- hy] at m;obtain ⟨p,hp,rfl⟩:=mem_map.mp m;obtain ⟨i,hi,e⟩:=List.getElem_of_mem hp;exact ⟨p.2,(zFx hy nodupY (i:=i) (p:=p) (by rw [<- e];exact getElem?_eq_getElem hi)).1⟩
  . have q:=e0.tabs y hy' c' P' e;show hide H _ P'=_;rw [zAM fun z=>?_]
    . exact q
    . obtain ⟨o,_,q2,_⟩:=hS P' z;rw [q] at q2;cases q2
  . cases i with
    | zero =>
      have e1:x=y:=by
        have h1':(x::ys)[0]?=some y:=h1;simpa using h1'
      have e2:v=v':=by simpa using h2
      subst e1 e2;exact ⟨u,r,.inl ⟨S.par,by simp⟩⟩
    | succ i =>
      have e1:ys[i]?=some y:=by
        have h1':(x::ys)[i+1]?=some y:=h1;simpa using h1'
      have e2:vs[i]?=some v':=by
        have:(vs.map some)[i]?=some (some v'):=by simpa using h2
        rw [getElem?_map] at this;obtain ⟨a,ea,eb⟩:=map_eq_some_iff.mp this;cases eb;exact ea
      obtain ⟨p,o,uu,g1,g2,g3,g4⟩:=hc.get e2;obtain ⟨k1,k2⟩:=zFx hy nodupY g1;rw [e1] at k2;have ey:y=p.1:=Option.some.inj k2;subst ey;obtain ⟨g5,_⟩:=e0.hok _ _ g2;exact ⟨uu,g4,.inr ⟨.inr (S.fr _ (mem_of_getElem? e1)),p.2,k1,o,hk _ _ g5,g3⟩⟩
  . show (some v::vs.map some).length=(x::ys).length;rw [length_cons,length_cons,length_map,lv,<- hy,length_map]
theorem zL9 {P:Program}{w:World}{K:W.Frag}{mg:Str->Option Value}{base:Heap}{A:Around}{outer:List Env}{s:Shared}{H:Hp}{Q:VK}{E:XK}{k:Nat}{f:Addr}{L:LamI}{x:Str}{ys:List Str}{v:V}{u:Value}{vs:List V}
    (hr:Room (k+1) A) (e0:Env0 P w K mg base A outer s H) (la:zFU H L f vs) (ey:frN L=ys) (S:zIh x ys L) (rv:RelV v u)
    (body:∀ (c:Addr) (cl:List (Str×Addr)),cl.map (·.1)=ys->zBH H cl vs->(∀ b∈cl.map (·.2),∃ o v,H b=some (.frz o anyU)/\o.data=.cell v)->∃ t:TE,PE (zSh P w K mg base (x::ys) L f c cl A outer s (hide H (cl.map (·.2)))) L.body t /\
      t (some v::vs.map some) (hide H (cl.map (·.2))) fun v' H2=>∀ H',(∀ b∈cl.map (·.2),H' b=H b)->(∀ b,b∉cl.map (·.2)->H' b=H2 b)->Same H2 H'->(∀ b∈cl.map (·.2),H2 b=none)->Q v' H') :
    codeAny (model P w) A (.call (.ref f) ⟨[u],[]⟩) (CR CX0 outer P w H s Q E) s:=by
  obtain ⟨cl,pm,c,ctv,oc,u1,h1,h2,h3,h4,h5,h6⟩:=la;rw [ey] at h4;obtain ⟨g1,_⟩:=e0.hok _ _ h1;obtain ⟨g2,_⟩:=e0.hok _ _ h2;obtain ⟨cvs,ct,d1,d2⟩:=h3;have hS:∀ b∈cl.map (·.2),∃ o v,H b=some (.frz o anyU)/\o.data=.cell v:=fun b z=>by
    obtain ⟨p,hp,rfl⟩:=mem_map.mp z;obtain ⟨o,u,q1,q2⟩:=h6.mem p hp;exact ⟨o,_,q1,q2⟩
  refine W.kla_callFunE hr.depth g1 rfl S.co S.gen rfl ⟨c,oc,cvs,ct,rfl,g2,d1,d2⟩ ?_;rw [S.bind];have lim:s.heap.NoLimit:=e0.mod.nolimit.keeps fun b o e=>(e0.bs b o e).1
  refine wpAny_pure (wpAny_newFunctionEnv S.nocell (fun y hy=>by rw [mem_singleton.mp hy];exact S.par) (fun h₁ hns hsb=>⟨lim.fresh _ hsb,?_⟩) S.kind);show codeAny _ _ (.expr L.body (W.envX L.qual L.scope s.heap.objs.size f (.ref c) cl)) _ _;obtain ⟨t,ht,hq⟩:=body c cl h4 h6 hS;have I:=zPO (f:=f) (c:=c) S hr.hd (by have:=hr.dp;show A.depth+1+100 < _;omega) e0 rv h4 h5 h6 hns hsb (s.toks+1);refine W.kla_codeExpr (wpAny_mono (ht [] _ _ _ _ I hq) (fun uu s' hs=>?_) fun e s' hs=>hs.elim);obtain ⟨v',H2,J,rv',q⟩:=hs;obtain ⟨H',p1,p2,p3,p4,un,hok'⟩:=zOX (P:=P) (w:=w) (fs:=frs outer) (S:=cl.map (·.2)) (fun b z=>let ⟨o,_,q,_⟩:=hS b z;⟨o,q⟩) (fun b z z2=>by
    obtain ⟨o,_,q,_⟩:=hS b z;rw [e0.frf b z2] at q;cases q) e0.hok J.base J.hok
  exact ⟨v',H',J.os,J.bare,un,hok',rv',q H' p1 p2 p3 p4⟩
def clos:List (Str×NameKind)->List (Str×Addr)->List (Str×Addr)->Option (List (Str×Addr))
  | [],_,acc=>some acc
  | (x,k)::r,cs,acc=>if k==.free then (match cs.lookup x with
    | some c=>clos r cs ((x,c)::acc)
    | none=>none) else clos r cs acc
theorem zG2 {env:Env}{cl:List (Str×Addr)}:∀ {l:List (Str×NameKind)} {acc:List (Str×Addr)},clos l env.cells acc=some cl ->
    (forIn l acc (fun (x:Str×NameKind) (r:List (Str×Addr))=>match x with
      | (name,kind)=>if (kind==.free)=true then (do let c<-cellOf env name;pure (ForInStep.yield ((name,c)::r))) else pure (ForInStep.yield r)):Sem (List (Str×Addr)))=pure cl
  | [],acc,h=>by
    cases h;simp
  | (x,k)::l,acc,h=>by
    unfold clos at h;rw [forIn_cons];by_cases e:(k==NameKind.free)=true
    . rw [if_pos e] at h;split at h
      . rename_i c ec;have:=zG2 (l:=l) h;have ce:cellOf env x=pure c:=by unfold cellOf;rw [ec]
        simp only [e,if_true,ce,pure_bind];exact this
      . cases h
    . rw [if_neg e] at h;have:=zG2 (l:=l) h;simp only [e,Bool.false_eq_true,if_false,pure_bind];exact this
theorem zEi {sc:Scope}{env:Env}{cl:List (Str×Addr)}(h:clos sc.names env.cells []=some cl):closureFor sc env=pure cl:=by
  unfold closureFor;have:=zG2 h;simp only [bind_pure];exact this
theorem zFX {a b:Nat}{c:Value}(l:List Value)(h:TriplesOk l):TriplesOk (l++[rawInt a,rawInt b,c]):=by
  fun_induction TriplesOk l with
  | case1=>simp [TriplesOk,rawInt]
  | case2 _ _ _ _ _ rest ih=>simpa [TriplesOk] using ih h
  | case3=>cases h
theorem zIe {pos:Pos}{a b:Nat}{c cv:Value}(l:List Value)(h:TriplesOk l)(e:codeAmong pos (l++[rawInt a,rawInt b,c])=some cv):codeAmong pos l=some cv\/cv=c:=by
  fun_induction TriplesOk l with
  | case1 =>
    right
    simp only [nil_append,rawInt,codeAmong] at e;split at e
    . exact (Option.some.inj e).symm
    . cases e
  | case2 line t col u x rest ih =>
    simp only [cons_append,codeAmong] at e ⊢;split at e
    . left;rename_i z;rw [if_pos z];exact e
    . rename_i z;rw [if_neg z];exact ih h e
  | case3=>cases h
section
variable {X:Cx}{pins:List (Addr×Obj)}{σ:St}{H:Hp}{s:Shared}
theorem zL8 {E:Value->Shared->Prop}{Q:Value->Shared->Prop}(I:Inv X pins σ H s){params:Arguments}{body:Expr}{scope:Scope}{pos:Pos}{cl:List (Str×Addr)}{c P:Addr}
    (hd:defaultsOf params X.env=([],[])) (hcl:clos scope.names X.env.cells []=some cl) (hcode:X.env.code=.ref c) (C:W.CodeHd X.base c P) (hP:H P=some (.tbl (X.env.qual ++ "<lambda>")))
    (h:∀ f c' ctv pm oc u1 H1 s',Same H H1->H f=none->H1 f=some (.frz (W.kla_obj "<lambda>" (X.env.qual ++ "<lambda>") params body scope cl pm c' ctv) anyU)->H1 c'=some (.frz oc u1)->zLG oc (X.env.qual ++ "<lambda>")->Inv X pins σ H1 s'->Q (.ref f) s') :
    wpAny (model X.prog X.w) X.A (eval (.Lambda params body scope pos) X.env) Q E s:=by
  refine W.kla_eval hd ?_;have hg:s.heap.Ns mainGlobals X.mg:=I.ok.mod.glob.keeps I.bk;obtain ⟨ps,e1,t1,cs⟩:=I.hok P _ hP;have C':=C.keeps I.bk;have hgP:mainGlobals≠P:=fun z=>by
    obtain ⟨o,es,ep,e,d,_⟩:=hg;rw [z,e1] at e;cases e;cases d
  obtain ⟨bm,ob,b1,b2,b3,b4,b5,b6⟩:=I.ok.mod.bm;have b3':=I.bk _ _ b3;have hbm:bm≠mainGlobals:=fun z=>by
    obtain ⟨o,es,ep,e,d,_⟩:=hg;rw [<- z,b3'] at e;cases e;rw [b6] at d;cases d
  have hbP:bm≠P:=fun z=>by
    rw [z,e1] at b3';cases b3';cases b4
  have hb:s.heap.BuiltinsAt X.mg P:=⟨bm,ob,b1,b2,hbm,hbP,b3',b4,b5,b6⟩;cases e:codeAmong pos ps.toList with
  | none =>
    refine W.kla_makeFunction (zEi hcl) I.ok.glob hg hcode C' e1 t1 e hgP hb fun c' ctv h' tk hx hge hlt hrec htb=>?_
    obtain ⟨c2,oc,vs,t,q1,q2,q3,q4⟩:=hrec;cases q1;have szh:s.heap.objs.size<=h'.objs.size:=le_trans hge (Nat.le_of_lt hlt);have nc:H c'=none:=I.hok.fresh hge;have nf:H h'.objs.size=none:=I.hok.fresh szh;have ncf:c'≠h'.objs.size:=ne_of_lt hlt;obtain ⟨fo,efo⟩:∃ fo:Obj,fo=W.kla_obj "<lambda>" (X.env.qual ++ "<lambda>") params body scope cl ((X.mg "__name__").getD .none) c' ctv:=⟨_,rfl⟩;obtain ⟨H1,eH⟩:∃ H1:Hp,H1=upd (upd H c' (.frz oc anyU)) h'.objs.size (.frz fo anyU):=⟨_,rfl⟩;have sm:Same H H1:=fun b o q=>by
      rw [eH,zAO (zAh q nf),zAO (zAh q nc)];exact q
    have at1:H1 h'.objs.size=some (.frz fo anyU):=by rw [eH];exact zAe
    have at2:H1 c'=some (.frz oc anyU):=by rw [eH,zAO ncf];exact zAe
    have oth:∀ {b:Addr},b≠c'->b≠h'.objs.size->H1 b=H b:=fun {b} z1 z2=>by rw [eH,zAO z2,zAO z1]
    have kp:∀ b o,b≠P->s.heap.get? b=some o->(h'.push fo).get? b=some o:=fun b o z q=>get?_push_of_some _ (hx b o z q)
    have lt:∀ {b:Addr} {o:Obj},s.heap.get? b=some o->b≠c'/\b≠h'.objs.size:=fun {b o} q=>⟨ne_of_lt (lt_of_lt_of_le (lt_size q) hge),ne_of_lt (lt_of_lt_of_le (lt_size q) szh)⟩
    have nP:∀ {b:Addr},H b=none->b≠P:=fun {b} q z=>by rw [z,hP] at q;cases q
    have un:Un X.fs [] H H1 s.heap (h'.push fo):=⟨fun b o q n _ _=>kp b o (nP n) q,fun b o q n _ _=>⟨o.slots,kp b o (nP n) q⟩,fun b o q n _=>by
        obtain ⟨z1,z2⟩:=lt q;rw [oth z1 z2];exact n,fun b o q _=>by
        by_cases z:b=P
        . subst z;exact ⟨_,get?_push_of_some _ htb⟩
        . exact ⟨o,kp b o z q⟩,fun b xs q=>sm _ _ q,fun b o u q=>sm _ _ q,fun b q' q=>sm _ _ q⟩
    have hok:HOk X.prog X.w H1 (h'.push fo):=fun b u q=>by
      by_cases z1:b=h'.objs.size
      . subst z1;rw [at1] at q;cases q;exact zD3 (get?_push_size _ (by rw [efo];rfl))
      . by_cases z2:b=c'
        . subst z2;rw [at2] at q;cases q;exact zD3 (get?_push_of_some _ q2)
        . rw [oth z2 z1] at q;by_cases z3:b=P
          . subst z3;rw [hP] at q;cases q;refine ⟨_,get?_push_of_some _ htb,?_,fun pos' cv z=>?_⟩
            . rw [Array.toList_append];exact zFX _ t1
            . rw [Array.toList_append] at z;rcases zIe _ t1 z with z | z
              . obtain ⟨c3,oc3,u3,g1,g2,g3⟩:=cs pos' cv z;exact ⟨c3,oc3,u3,g1,sm _ _ g2,g3⟩
              . exact ⟨c',oc,anyU,z,at2,vs,t,q3,q4⟩
          . refine (I.hok b u q).stay (fun d v hd w'=>kp d v ?_ w') (fun d w'=>sm _ _ w') (fun d xs w'=>sm _ _ w') fun d o' u' w' _=>sm _ _ w'
            rintro rfl;rcases hd with hd | hd
            . exact z3 hd.symm
            . rw [hP] at hd;cases hd
    have I1:=I.un (t':=tk) un hok;rw [efo] at I1 at1;exact h _ c' ctv _ oc anyU H1 _ sm nf at1 at2 ⟨vs,t,q3,q4⟩ I1
  | some cv =>
    obtain ⟨c',oc,u1,rfl,hc',co⟩:=cs pos cv e;refine W.kla_makeFunctionHit (zEi hcl) I.ok.glob hg hcode C' e1 t1 e hb fun ctv h' tk hk hsz=>?_
    have nf:H h'.objs.size=none:=I.hok.fresh hsz;have I1:=I.laid (a:=h'.objs.size) (o:=.frz (W.kla_obj "<lambda>" (X.env.qual ++ "<lambda>") params body scope cl ((X.mg "__name__").getD .none) c' ctv) anyU) (t':=tk) (fun b o q=>get?_push_of_some _ (hk b o q)) hsz (zD3 (get?_push_size _ rfl));exact h _ c' ctv _ oc u1 _ _ (zAj nf _) nf zAe (by rw [zAO (zAh hc' nf)];exact hc') co I1
end
end DL
end
section
namespace DL
open PySem Spec PyProof.Rows L2
mutual
def noF:D->Bool
  | .lam _ _ _=>false
  | .tup ds=>noFs ds
  | .lst ds=>noFs ds
  | _=>true
def noFs:List D->Bool
  | []=>true
  | d::ds=>noF d&&noFs ds
end
abbrev zQW (H:Hp) (S:List Addr):Prop:=∀ b∈S,∃ o v,H b=some (.frz o anyU)/\o.data=.cell v
section
variable {K:W.Frag}{H:Hp}{S:List Addr}
theorem zCZ (hS:zQW H S){b:Addr}{u:HO}(e:H b=some u)(n:∀ o v,u=.frz o anyU->o.data≠.cell v):hide H S b=some u:=by
  rw [zAM fun z=>?_]
  . exact e
  . obtain ⟨o,v,q1,q2⟩:=hS b z;rw [e] at q1;exact n o v (Option.some.inj q1) q2
mutual
theorem Den.hideC (hS:zQW H S):∀ {d:D} {v:V},noF d=true->Den K H d v->Den K (hide H S) d v
  | .non,_,_,h=>by rw [Den] at h ⊢;exact h
  | .bl _,_,_,h=>by rw [Den] at h ⊢;exact h
  | .int _,_,_,h=>by rw [Den] at h ⊢;exact h
  | .str _,_,_,h=>by rw [Den] at h ⊢;exact h
  | .tup ds,_,n,h=>by
    rw [noF] at n;rw [Den] at h ⊢;obtain ⟨a,vs,h1,h2,h3⟩:=h;refine ⟨a,vs,h1,?_,DenL.hideC hS n h3⟩;rcases h2 with (q | ⟨o,q⟩) | q
    . exact .inl (.inl (zCZ hS q fun o v z=>nomatch z))
    . exact .inl (.inr ⟨o,zCZ hS q fun o v z=>nomatch z⟩)
    . exact .inr q
  | .lst ds,_,n,h=>by
    rw [noF] at n;rw [Den] at h ⊢;obtain ⟨a,vs,h1,h2,h3⟩:=h;refine ⟨a,vs,h1,?_,DenL.hideC hS n h3⟩;rcases h2 with (q | ⟨o,q⟩) | q
    . exact .inl (.inl (zCZ hS q fun o v z=>nomatch z))
    . exact .inl (.inr ⟨o,zCZ hS q fun o v z=>nomatch z⟩)
    . exact .inr q
  | .exc c,_,_,h=>by
    rw [Den] at h ⊢;obtain ⟨a,o,u,C,h1,h2,h3,⟨vs,h4⟩,h5⟩:=h;exact ⟨a,o,u,C,h1,zCZ hS h2 (fun o' v z d=>by cases z;rw [h4] at d;cases d),h3,⟨vs,h4⟩,h5⟩
  | .dct ks,_,_,h=>by
    rw [Den] at h ⊢;obtain ⟨a,kvs,h1,h2,h3⟩:=h;exact ⟨a,kvs,h1,zCZ hS h2 (fun o v z=>nomatch z),h3⟩
  | .lam _ _ _,_,n,_=>by rw [noF] at n;cases n
theorem DenL.hideC (hS:zQW H S):∀ {ds:List D} {vs:List V},noFs ds=true->DenL K H ds vs->DenL K (hide H S) ds vs
  | [],_,_,h=>by rw [DenL] at h ⊢;exact h
  | d::ds,_,n,h=>by
    rw [noFs,and_eq_true] at n;rw [DenL] at h ⊢;obtain ⟨v,ws,h1,h2,h3⟩:=h;exact ⟨v,ws,h1,Den.hideC hS n.1 h2,DenL.hideC hS n.2 h3⟩
end
end
def zEm (P:Program)(w:World)(K:W.Frag)(mg:Str->Option Value)(base:Heap)(k:Nat)(L:LamI)(F:List D->Option R):Prop :=
  ∀ (A:Around) (outer:List Env) (s:Shared) (H:Hp) (f:Addr) (vs:List V) (ds:List D) (v:V) (u:Value) (d:D) (r:R) (Q:VK) (E:XK),Room k A->Env0 P w K mg base A outer s H->zFU H L f vs->DenL K H ds vs->RelV v u->Den K H d v->F (d::ds)=some r->r.2≠.dt ->
    (∀ v' H',Same H H'->RV K H H' [] r v'->Q v' H')->codeAny (model P w) A (.call (.ref f) ⟨[u],[]⟩) (CR CX0 outer P w H s Q E) s
theorem zEm.mono {P:Program}{w:World}{K:W.Frag}{mg:Str->Option Value}{base:Heap}{j k:Nat}{L:LamI}{F:List D->Option R}(h:zEm P w K mg base j L F)(e:j<=k):zEm P w K mg base k L F :=
  fun A outer s H f vs ds v u d r Q E hr=>h A outer s H f vs ds v u d r Q E (hr.mono e)
theorem zPF {P:Program}{w:World}{K:W.Frag}{mg:Str->Option Value}{base:Heap}{k:Nat}{L:LamI}{x:Str}{ys:List Str}{G:Dst->Option R}(S:zIh x ys L)(ey:frN L=ys)
    (hb:∀ Y:Cx,Y.prog=P->Y.w=w->Y.K=K->Y.mg=mg->Y.base=base->Room k Y.A->Y.calm=true->Y.N=x::ys->Y.env.scope=L.scope->Y.xe=(fun _ _=>False)->GE Y L.body G) :
    zEm P w K mg base (k+1) L (fun ds=>if ds.length=ys.length+1/\noFs ds=true then G (ds.map fun d=>some (d,false)) else none):=by
  intro A outer s H f vs ds v u d r Q E hr e0 la dl rv dd hF hk c;replace hF:(if (d::ds).length=ys.length+1/\noFs (d::ds)=true then G ((d::ds).map fun d=>some (d,false)) else none)=some r:=hF;have q:(d::ds).length=ys.length+1/\noFs (d::ds)=true:=Classical.byContradiction fun z=>by rw [if_neg z] at hF;cases hF
  rw [if_pos q] at hF;have lds:ds.length=ys.length:=by have:=q.1;rw [length_cons] at this;omega
  have nf:=q.2;rw [noFs,and_eq_true] at nf;refine zL9 hr e0 la ey S rv fun cc cl hcl hc hS=>⟨_,hb _ rfl rfl rfl rfl rfl (hr.deeper _) rfl rfl rfl rfl,?_⟩
  have e1:=Den.hideC hS nf.1 dd;have e2:=DenL.hideC hS nf.2 dl;refine ⟨[],(d::ds).map fun d=>some (d,false),r,⟨?_,fun a z=>absurd z (by simp),fun i d' o z=>?_,fun i j d' e' a z1 _ _ _=>?_⟩,hF,fun v' H2 s2 r2 H' p1 p2 p3 p4=>?_⟩
  . rw [length_map,length_cons,length_cons,length_map,dl.length]
  . rw [getElem?_map] at z;obtain ⟨d2,z1,z2⟩:=map_eq_some_iff.mp z;cases z2;cases i with
    | zero =>
      have:d=d':=by simpa using z1
      subst this;exact ⟨v,rfl,.of_den (by rw [zBB];exact e1)⟩
    | succ i =>
      have z1':ds[i]?=some d':=by simpa using z1
      obtain ⟨v2,g1,g2⟩:=e2.get z1';exact ⟨v2,by show (vs.map some)[i]?=_;rw [getElem?_map,g1];rfl,.of_den (by rw [zBB];exact g2)⟩
  . rw [getElem?_map] at z1;obtain ⟨d2,_,z2⟩:=map_eq_some_iff.mp z1;cases z2
  . have sm:Same H H':=fun b o e=>by
      by_cases z:b∈cl.map (·.2)
      . rw [p1 b z];exact e
      . rw [p2 b z];exact s2 b o (by rw [zAM z];exact e)
    refine c v' H' sm ?_;obtain ⟨d',kd⟩:=r;cases kd with
    | cl =>
      have z:Den K (hide H2 []) d' v':=r2;show Den K (hide H' []) d' v';rw [zBB] at z ⊢;exact z.mono p3
    | fr =>
      obtain ⟨a,ws,es,e1,e2,e3,e4,e5,e6⟩:=r2;have na:a∉cl.map (·.2):=fun z=>by rw [p4 a z] at e5;cases e5
      refine ⟨a,ws,es,e1,e2,e3,by rw [zAM na] at e4;exact e4,p3 _ _ e5,e6.mono (zAP p3)⟩
    | dt=>exact absurd rfl hk
open Classical in
def lamF (lm:List (LamI×(List D->Option R)))(j:Nat)(L:LamI)(ds:List D):Option R:=match lm[j]? with
  | some (L',F)=>if L'=L then F ds else none
  | none=>none
def zGG (lm:List (LamI×(List D->Option R)))(i:Nat)(f:Dst->Option R):Dst->Option R:=fun δ=>match δ[i]? with
  | some (some (.lam j L ds,false))=>(f δ).bind fun x=>if x.2=.dt then none else (lamF lm j L (x.1::ds)).bind fun r=>if r.2=.dt then none else some r
  | _=>none
variable {X:Cx}
theorem zMO {k i:Nat}{lm:List (LamI×(List D->Option R))}{y:Str}{a:Expr}{f:Dst->Option R}{p pos:Pos}(LR:∀ (j:Nat) L F,lm[j]?=some (L,F)->zEm X.prog X.w X.K X.mg X.base k L F)(hr:Room k X.A)(hN:X.N[i]?=some y)(hv:Vis X.env.scope y)(hd:(y==("__debug__":Str))=false)(hcd:(y==("__classdict__":Str))=false)
    (ha:GE X a f) (he:starEach (a::[]) X.env=(false,eval a X.env)::starEach [] X.env) (px:PassesOwn (model X.prog X.w) X.A X.env X.xe:=by assumption):GE X (.Call (.Name y p) [a] [] pos) (zGG lm i f):=by
  intro pins s σ H Q I ⟨S,δ,z,ds,e,c⟩;unfold zGG at e;split at e
  . rename_i j L dl q;obtain ⟨x,ex,e⟩:=bind_some e;by_cases hx:x.2=.dt
    . rw [if_pos hx] at e;cases e
    rw [if_neg hx] at e;obtain ⟨r,er,e⟩:=bind_some e;by_cases hk:r.2=.dt
    . rw [if_pos hk] at e;cases e
    rw [if_neg hk] at e;cases e;obtain ⟨v0,q1,q2⟩:=ds.get i _ false q;have q3:=q2.den rfl;rw [Den] at q3;obtain ⟨f0,vs,rfl,la,dla⟩:=q3;unfold lamF at er;split at er
    . rename_i L' F el;have eL:L'=L:=Classical.byContradiction fun z=>by rw [if_neg z] at er;cases er
      rw [if_pos eL] at er;subst eL;have fat:∀ {H1:Hp} {s1:Shared},zFU H1 L' f0 vs->HOk X.prog X.w H1 s1.heap->W.FnAt f0 s1.heap:=fun {H1 s1} la hok=>by
        obtain ⟨cl,pm,c',ctv,oc,u1,g1,_⟩:=la;obtain ⟨g2,_⟩:=hok _ _ g1;exact ⟨_,_,_,_,g2⟩
      refine wpAny_Call_Name_kw (thn (zDo hN hv hd hcd pins s σ H (fun x H1=>x=.ref f0/\H1=H) I ⟨_,q1,rfl,rfl⟩) fun u s1 zz74=>?_);obtain ⟨x1,H1,I1,rx,e1,e2⟩:=zz74;subst e1 e2;obtain rfl:u=Value.ref f0:=rx;have arg:gT X.K f σ H1 fun vx H2=>Same H1 H2/\RV X.K H1 H2 S x vx:=⟨S,δ,x,ds,ex,fun vx H2 s2 r2=>⟨s2,r2⟩⟩
      refine W.callWith_F (fat (la.mono zAd) I1.hok) (thn (zAa ha zA9 he pos pins s1 σ _ (fun xs H2=>∃ vx,xs=[vx]/\Same H1 H2/\RV X.K H1 H2 S x vx) I1 (by
        obtain ⟨S',δ',r',g1,g2,g3⟩:=arg;exact ⟨S',δ',r',g1,g2,fun vx H2 s2 r2=>⟨vx,rfl,g3 vx H2 s2 r2⟩⟩)) fun us s2 ⟨xs,H2,I2,rvs,vx,exs,sm,rx2⟩=>?_) he
      subst exs;obtain ⟨uu,rfl,rvu⟩:=zIl rvs;have la2:zFU (hide H2 S) L' f0 vs:=la.mono (zAP sm);refine ⟨fat (la2.mono zAd) I2.hok,?_⟩;refine wpAny_call (codeAny_mono (zD4 (r:=z) (Q:=Q) (E:=E0) I2.env0 (ds.mono sm).sok hk (fun e1=>LR j L' F el _ _ _ _ f0 vs dl vx uu x.1 z _ _ hr e1 la2 (dla.mono (zAP sm)) rvu (RV.den (d:=x.1) (k:=x.2) rx2 hx) er hk fun v' H' s3 r3=>⟨r3,s3⟩) fun v H' s3 r3=>c v H' (sm.trans s3) (r3.from sm)) fun rr s' hq=>?_);cases rr with
      | error e=>exact hq.elim
      | ok fl =>
        cases fl with
        | ret u=>exact I2.after hq
        | next=>exact False.elim hq
        | brk=>exact False.elim hq
        | cont=>exact False.elim hq
    . cases er
  . cases e
end DL
end
section
namespace DL
open PySem Spec PyProof.Rows L2
set_option genSizeOf false in
set_option genInjectivity false in
inductive E where
  | var (i:Nat) | glob (n:Nat) (x:Str) | int (i:Int) | bl (b:Bool) | non | str (x:Str)
  | bin (op:Operator) (a b:E) | neg (a:E) | not (a:E) | cmp (op:CmpOp) (a b:E)
  | andl (es:E) | orl (es:E) | ite (c a b:E) | tup (es:E) | lst (es:E) | ix (a i:E) | sl (a lo hi:E)
  | comp1 (n:Nat) (ms:List Nat) (x:Str) (src c elt:E) | comp2 (n:Nat) (ms:List Nat) (x y:Str) (src c elt:E)
  | lzip (a b:E)
  | it (e:E) | r1 (a:E) | r2 (a b:E) | r3 (a b c:E)
  | call (n:Nat) (f:Str) (es:E) | lend (n:Nat) (f:Str) (es:E) | len (a:E) | abs (a:E) | list (a:E) | max (a b:E) | min (a b:E) | isi (t:Ty) (a:E) | isc (y:Str) (a:E) | chn (op op':CmpOp) (a b c:E) | tupl (a:E) | lrev (a:E) | sum (a:E) | t1 (o:T1) (a:E) | t2 (o:T2) (a b:E) | its (a:E) | isa (ys:List Str) (a:E) | nin (a b c:E) | callv (i:Nat) (a:E)
  | nil | cons (e es:E)
set_option genSizeOf false in
set_option genInjectivity false in
inductive S where
  | nil | cons (a b:S) | frz (i:Nat) (rest:S)
  | set (i:Nat) (e:E) | setC (i:Nat) (e:E) | app (i:Nat) (e:E) | put (i:Nat) (k e:E) | ins (i:Nat) (k e:E)
  | ife (c:E) (a b:S) | whl (c:E) (b:S) | for1 (i:Nat) (it:E) (b:S) | for2 (i j:Nat) (it:E) (b:S)
  | ret (e:E) | retOwn (i:Nat) | retN | drop (e:E) | pass | brk | cnt | never | ext (i:Nat) (e:E) | un2 (i j:Nat) (e:E) | un4 (i j k l:Nat) (e:E) | un3 (i j k:Nat) (e:E) | aug (op:Operator) (i:Nat) (e:E) | swp (i j k l:Nat) | rse (c:Str) (m:E) | tri (b:S) (c:Str) (i:Nat) | tra (b:S) (c:Str) (i j:Nat) | dnew (i:Nat) | dput (i:Nat) (a b:E)
structure Gm where
  fns:List (Str×(List D->Option R))
  cs:List (Str×D)
  xf:List (Str×(List D->Option Str))
  sub:List (Str×Str×Bool)
  rs:List Str
  lm:List (LamI×(List D->Option R))
def zQh (Γ:Gm)(y c:Str):Option Bool:=(Γ.sub.find? fun p=>decide (p.1=c)&&decide (p.2.1=y)).map (·.2.2)
def zRm (Γ:Gm)(y:Str):Bool:=Γ.sub.any fun p=>decide (p.2.1=y)
open Classical in
def mulD (i j:Int):Option R:=if IntMulOk i j then some (.int (i*j),.cl) else none
open Classical in
def zMV (i j:Int):Option R:=if zIi i j then some (.int (i.fdiv j),.cl) else none
def binD (op:Operator)(x y:D):Option R:=match op with
  | .Add=>(match x,y with
    | .int i,.int j=>some (.int (i+j),.cl)
    | .lst xs,.lst ys=>if xs.length+ys.length<=10000 then some (.lst (xs++ys),.fr) else none
    | .tup (x::xs),.tup (y::ys)=>if (x::xs).length+(y::ys).length<=10000 then some (.tup ((x::xs)++(y::ys)),.cl) else none
    | _,_=>none)
  | .Sub=>(match x,y with
    | .int i,.int j=>some (.int (i - j),.cl)
    | _,_=>none)
  | .Mult=>(match x,y with
    | .int i,.int j=>mulD i j
    | .lst xs,.int j=>if 0<=j/\j<=10000/\xs.length*j.toNat<=10000 then some (.lst (List.replicate j.toNat xs).flatten,.fr) else none
    | _,_=>none)
  | .FloorDiv=>(match x,y with
    | .int i,.int j=>zMV i j
    | _,_=>none)
  | .Mod=>(match x,y with
    | .int i,.int j=>if j=0 then none else some (.int (i.fmod j),.cl)
    | _,_=>none)
  | .Pow=>(match x,y with
    | .int i,.int j=>if 0<=j/\j<=1000000/\i.natAbs < 2^64 then some (.int (i^j.toNat),.cl) else none
    | _,_=>none)
  | _=>none
def cmpD (op:CmpOp)(x y:D):Option R:=match op with
  | .Lt=>(match x,y with
    | .int i,.int j=>some (.bl (decide (i < j)),.cl)
    | _,_=>none)
  | .LtE=>(match x,y with
    | .int i,.int j=>some (.bl (decide (i<=j)),.cl)
    | _,_=>none)
  | .Gt=>(match x,y with
    | .int i,.int j=>some (.bl (decide (j < i)),.cl)
    | _,_=>none)
  | .GtE=>(match x,y with
    | .int i,.int j=>some (.bl (decide (j<=i)),.cl)
    | _,_=>none)
  | .Eq=>eqD id x y
  | .NotEq=>eqD (fun b=>!b) x y
  | .Is=>isN id x y
  | .IsNot=>isN (fun b=>!b) x y
  | _=>none
def zF3 (Γ:Gm)(n:Nat)(x:Str):Dst->Option R:=fun _=>match Γ.cs[n]? with
  | some (y,d)=>if y=x then some (d,.cl) else none
  | none=>none
def fnD (Γ:Gm)(n:Nat)(x:Str)(g:Dst->Option (List D)):Dst->Option R:=fun δ=>match Γ.fns[n]? with
  | some (y,F)=>if y=x then zG3 F g δ else none
  | none=>none
def fnL (Γ:Gm)(n:Nat)(x:Str)(g:Dst->Option (List D)):Dst->Option R:=fun δ=>match Γ.fns[n]? with
  | some (y,F)=>if y=x then zTR F g δ else none
  | none=>none
def isaD (Γ:Gm)(ys:List Str)(f:Dst->Option R):Dst->Option R:=fun δ=>if (ys.all (zRm Γ))=true then one f (isaF (zQh Γ) ys) δ else none
def tg1 (i:Nat):D->Dst->Option Dst:=fun d δ=>some (δ.set i (some (d,false)))
mutual
def evE (Γ:Gm):E->Dst->Option R
  | .var i=>varD i
  | .glob n x=>zF3 Γ n x
  | .int i=>fun _=>some (.int i,.cl)
  | .bl b=>fun _=>some (.bl b,.cl)
  | .non=>fun _=>some (.non,.cl)
  | .str x=>fun _=>some (.str x,.cl)
  | .bin op a b=>two (evE Γ a) (evE Γ b) (binD op)
  | .neg a=>negD (evE Γ a)
  | .not a=>notD (evE Γ a)
  | .cmp op a b=>two (evE Γ a) (evE Γ b) (cmpD op)
  | .andl es=>evAnd Γ es
  | .orl es=>evOr Γ es
  | .ite c a b=>iteD (evE Γ c) (evE Γ a) (evE Γ b)
  | .tup es=>tupD (evEs Γ es)
  | .lst es=>lstD (evEs Γ es)
  | .ix a i=>two (evE Γ a) (evE Γ i) ixD
  | .sl a lo hi=>slD (evE Γ a) (evO Γ lo) (evO Γ hi)
  | .call n f es=>fnD Γ n f (evEs Γ es)
  | .lend n f es=>fnL Γ n f (evLs Γ es)
  | .len a=>one (evE Γ a) lenD
  | .abs a=>one (evE Γ a) absD
  | .list a=>one (evE Γ a) zIR
  | .max a b=>two (evE Γ a) (evE Γ b) maxD
  | .min a b=>two (evE Γ a) (evE Γ b) minD
  | .isi t a=>one (evE Γ a) (isiF t)
  | .isc y a=>one (evE Γ a) (iscF (zQh Γ y))
  | .chn op op' a b c=>chD (cmpD op) (cmpD op') (evE Γ a) (evE Γ b) (evE Γ c)
  | .tupl a=>one (evE Γ a) zQa
  | .lrev a=>one (evE Γ a) revD
  | .sum a=>one (evE Γ a) sumD
  | .t1 o a=>one (evE Γ a) (t1D o)
  | .t2 o a b=>two (evE Γ a) (evE Γ b) (t2D o)
  | .its _=>fun _=>none
  | .isa ys a=>isaD Γ ys (evE Γ a)
  | .nin a b c=>ninD (evE Γ a) (evE Γ b) (evE Γ c)
  | .callv i a=>zGG Γ.lm i (evE Γ a)
  | .comp1 n ms _ src c e=>zFK ms 1 (evI Γ src) (tg1 n) (evC Γ c) (evE Γ e)
  | .comp2 n ms _ _ src c e=>zFK ms 2 (evI Γ src) (tg2 n (n+1)) (evC Γ c) (evE Γ e)
  | .lzip a b=>two (evE Γ a) (evE Γ b) zipD
  | .it _=>fun _=>none
  | .r1 _=>fun _=>none
  | .r2 _ _=>fun _=>none
  | .r3 _ _ _=>fun _=>none
  | .nil=>fun _=>none
  | .cons _ _=>fun _=>none
def evI (Γ:Gm):E->Dst->Option (List D)
  | .it e=>zF0 (evE Γ e)
  | .its e=>zJ4 (evE Γ e)
  | .r1 a=>zI5 (evE Γ a)
  | .r2 a b=>zOU (evE Γ a) (evE Γ b)
  | .r3 a b c=>zI4 (evE Γ a) (evE Γ b) (evE Γ c)
  | _=>fun _=>none
def evC (Γ:Gm):E->Dst->Option Bool
  | .nil=>fun _=>some true
  | .cons c _=>asB (evE Γ c)
  | _=>fun _=>none
def evEs (Γ:Gm):E->Dst->Option (List D)
  | .nil=>fun _=>some []
  | .cons e es=>zMr (evE Γ e) (evEs Γ es)
  | _=>fun _=>none
def evLs (Γ:Gm):E->Dst->Option (List D)
  | .nil=>fun _=>some []
  | .cons e es=>zSk (evE Γ e) (evLs Γ es)
  | _=>fun _=>none
def evAnd (Γ:Gm):E->Dst->Option R
  | .cons e es=>(match es with
    | .nil=>evE Γ e
    | es=>andD (evE Γ e) (evAnd Γ es))
  | _=>fun _=>none
def evOr (Γ:Gm):E->Dst->Option R
  | .cons e es=>(match es with
    | .nil=>evE Γ e
    | es=>orD (evE Γ e) (evOr Γ es))
  | _=>fun _=>none
def evO (Γ:Gm):E->Dst->Option (Option Int)
  | .cons e _=>zJN (evE Γ e)
  | _=>fun _=>some none
end
def xvS (Γ:Gm):S->Dst->Option Str:=fun _ _=>none
def xvSs (Γ:Gm):S->Dst->Option Str:=fun _ _=>none
mutual
def evS (Γ:Gm):S->Dst->Option Out
  | .set i e=>setD i (evE Γ e)
  | .setC i e=>setD i (evE Γ e)
  | .app i e=>appD i (evE Γ e)
  | .put i k e=>putD i (evE Γ k) (evE Γ e)
  | .ins i k e=>insD i (evE Γ k) (evE Γ e)
  | .ext i e=>extD i (evE Γ e)
  | .dnew i=>zT0 i
  | .dput i a b=>zTz i (evE Γ a) (evE Γ b)
  | .un2 i j e=>unpD (tg2 i j) (evE Γ e)
  | .un4 i j k l e=>unpD (tg4 i j k l) (evE Γ e)
  | .un3 i j k e=>unpD (tg3 i j k) (evE Γ e)
  | .aug op i e=>augD op i (evE Γ e)
  | .swp i j k l=>swpD i j k l
  | .ife c a b=>ifD (asB (evE Γ c)) (evSs Γ a) (evSs Γ b)
  | .whl c b=>zBS (asB (evE Γ c)) (evSs Γ b)
  | .for1 i it b=>fun δ=>(evI Γ it δ).bind fun xs=>forD (tg1 i) (evSs Γ b) xs δ
  | .for2 i j it b=>fun δ=>(evI Γ it δ).bind fun xs=>forD (tg2 i j) (evSs Γ b) xs δ
  | .ret e=>retD (evE Γ e)
  | .retOwn i=>zDn i
  | .retN=>zTC
  | .drop e=>zTy (evE Γ e)
  | .pass=>fun δ=>some (.nx δ)
  | .brk=>fun δ=>some (.bk δ)
  | .cnt=>fun δ=>some (.ct δ)
  | .tri _ _ _=>fun _=>none
  | .tra _ _ _ _=>fun _=>none
  | .nil=>fun _=>none
  | .cons _ _=>fun _=>none
  | .frz _ _=>fun _=>none
  | .never=>fun _=>none
  | .rse _ _=>fun _=>none
def evSs (Γ:Gm):S->Dst->Option Out
  | .nil=>fun δ=>some (.nx δ)
  | .cons a b=>seqD (evS Γ a) (evSs Γ b)
  | .frz i r=>seqD (frzD i) (evSs Γ r)
  | _=>fun _=>none
end
def visB (sc:Scope)(x:Str):Bool:=match sc.names.lookup x with
  | some .local=>true
  | some .cell=>true
  | some .free=>true
  | _=>false
def locB (sc:Scope)(x:Str):Bool:=match sc.names.lookup x with
  | some .local=>true
  | some .cell=>true
  | _=>false
def glB (sc:Scope)(x:Str):Bool:=match sc.names.lookup x with
  | some .globalImplicit=>true
  | _=>false
def okN (x:Str):Bool:=!(x==("__debug__":Str))&&!(x==("__classdict__":Str))
def zAc:Expr->Bool
  | .Starred _ _=>false
  | _=>true
def zGj:Expr->Bool
  | .Slice _ _ _ _=>false
  | _=>true
def zHe:Expr->Bool
  | .ListComp _ _ _ _=>false
  | .SetComp _ _ _ _=>false
  | .DictComp _ _ _ _ _=>false
  | _=>true
def zGk:Expr->Bool
  | .Set _ _ _=>false
  | _=>true
def bltB (sc:Scope)(bs:List Str)(x:Str):Bool:=glB sc x&&bs.contains x
def opB (op op':Operator):Bool:=decide (op=op')
def cmB (op op':CmpOp):Bool:=decide (op=op')
def cscB (sc scope:Scope):Bool:=(scope.kind==.function)&&decide ((scope.names.map (·.1)).Nodup)&&scope.names.all fun x=>!(x.2==.free)||sc.names.lookup x.1==some .cell||sc.names.lookup x.1==some .free
def zJq (scope:Scope)(N:List Str)(ms:List Nat):Bool:=(List.range N.length).all fun i=>!(ownB scope (N.getD i noN))||ms.contains i
def zAW (e:Expr)(k:Str->Pos->Bool):Bool:=match e with
  | .Name x0 x1=>k x0 x1
  | _=>false
theorem zAF {e:Expr}{k:Str->Pos->Bool}(h:zAW e k=true):∃ x0 x1,e=.Name x0 x1/\k x0 x1=true:=by
  cases e with
  | Name x0 x1=>exact ⟨x0,x1,rfl,h⟩
  | _=>exact (zzf h)
def zBn (e:Expr)(k:Const->Nat->Pos->Bool):Bool:=match e with
  | .Constant x0 x1 x2=>k x0 x1 x2
  | _=>false
theorem zBL {e:Expr}{k:Const->Nat->Pos->Bool}(h:zBn e k=true):∃ x0 x1 x2,e=.Constant x0 x1 x2/\k x0 x1 x2=true:=by
  cases e with
  | Constant x0 x1 x2=>exact ⟨x0,x1,x2,rfl,h⟩
  | _=>exact (zzf h)
def zJZ (e:Expr)(k:Expr->Operator->Expr->Pos->Bool):Bool:=match e with
  | .BinOp x0 x1 x2 x3=>k x0 x1 x2 x3
  | _=>false
theorem zIM {e:Expr}{k:Expr->Operator->Expr->Pos->Bool}(h:zJZ e k=true):∃ x0 x1 x2 x3,e=.BinOp x0 x1 x2 x3/\k x0 x1 x2 x3=true:=by
  cases e with
  | BinOp x0 x1 x2 x3=>exact ⟨x0,x1,x2,x3,rfl,h⟩
  | _=>exact (zzf h)
def zDp (e:Expr)(k:UnaryOp->Expr->Pos->Bool):Bool:=match e with
  | .UnaryOp x0 x1 x2=>k x0 x1 x2
  | _=>false
theorem zDV {e:Expr}{k:UnaryOp->Expr->Pos->Bool}(h:zDp e k=true):∃ x0 x1 x2,e=.UnaryOp x0 x1 x2/\k x0 x1 x2=true:=by
  cases e with
  | UnaryOp x0 x1 x2=>exact ⟨x0,x1,x2,rfl,h⟩
  | _=>exact (zzf h)
def zE3 (e:Expr)(k:BoolOp->List Expr->Pos->Bool):Bool:=match e with
  | .BoolOp x0 x1 x2=>k x0 x1 x2
  | _=>false
theorem zDt {e:Expr}{k:BoolOp->List Expr->Pos->Bool}(h:zE3 e k=true):∃ x0 x1 x2,e=.BoolOp x0 x1 x2/\k x0 x1 x2=true:=by
  cases e with
  | BoolOp x0 x1 x2=>exact ⟨x0,x1,x2,rfl,h⟩
  | _=>exact (zzf h)
def zDs (e:Expr)(k:Expr->List CmpOp->List Expr->Pos->Bool):Bool:=match e with
  | .Compare x0 x1 x2 x3=>k x0 x1 x2 x3
  | _=>false
theorem zDW {e:Expr}{k:Expr->List CmpOp->List Expr->Pos->Bool}(h:zDs e k=true):∃ x0 x1 x2 x3,e=.Compare x0 x1 x2 x3/\k x0 x1 x2 x3=true:=by
  cases e with
  | Compare x0 x1 x2 x3=>exact ⟨x0,x1,x2,x3,rfl,h⟩
  | _=>exact (zzf h)
def zJU (e:Expr)(k:Expr->Expr->Expr->Pos->Bool):Bool:=match e with
  | .IfExp x0 x1 x2 x3=>k x0 x1 x2 x3
  | _=>false
theorem zIK {e:Expr}{k:Expr->Expr->Expr->Pos->Bool}(h:zJU e k=true):∃ x0 x1 x2 x3,e=.IfExp x0 x1 x2 x3/\k x0 x1 x2 x3=true:=by
  cases e with
  | IfExp x0 x1 x2 x3=>exact ⟨x0,x1,x2,x3,rfl,h⟩
  | _=>exact (zzf h)
def zGh (e:Expr)(k:List Expr->Nat->Pos->Bool):Bool:=match e with
  | .Tuple x0 x1 x2=>k x0 x1 x2
  | _=>false
theorem zEV {e:Expr}{k:List Expr->Nat->Pos->Bool}(h:zGh e k=true):∃ x0 x1 x2,e=.Tuple x0 x1 x2/\k x0 x1 x2=true:=by
  cases e with
  | Tuple x0 x1 x2=>exact ⟨x0,x1,x2,rfl,h⟩
  | _=>exact (zzf h)
def zJS (e:Expr)(k:List Expr->Pos->Bool):Bool:=match e with
  | .List x0 x1=>k x0 x1
  | _=>false
theorem zFs {e:Expr}{k:List Expr->Pos->Bool}(h:zJS e k=true):∃ x0 x1,e=.List x0 x1/\k x0 x1=true:=by
  cases e with
  | List x0 x1=>exact ⟨x0,x1,rfl,h⟩
  | _=>exact (zzf h)
def zBx (e:Expr)(k:Expr->Expr->Pos->Bool):Bool:=match e with
  | .Subscript x0 x1 x2=>k x0 x1 x2
  | _=>false
theorem zBh {e:Expr}{k:Expr->Expr->Pos->Bool}(h:zBx e k=true):∃ x0 x1 x2,e=.Subscript x0 x1 x2/\k x0 x1 x2=true:=by
  cases e with
  | Subscript x0 x1 x2=>exact ⟨x0,x1,x2,rfl,h⟩
  | _=>exact (zzf h)
def zJP (e:Expr)(k:Option Expr->Option Expr->Option Expr->Pos->Bool):Bool:=match e with
  | .Slice x0 x1 x2 x3=>k x0 x1 x2 x3
  | _=>false
theorem zIJ {e:Expr}{k:Option Expr->Option Expr->Option Expr->Pos->Bool}(h:zJP e k=true):∃ x0 x1 x2 x3,e=.Slice x0 x1 x2 x3/\k x0 x1 x2 x3=true:=by
  cases e with
  | Slice x0 x1 x2 x3=>exact ⟨x0,x1,x2,x3,rfl,h⟩
  | _=>exact (zzf h)
def zAx (e:Expr)(k:Expr->List Expr->List Keyword->Pos->Bool):Bool:=match e with
  | .Call x0 x1 x2 x3=>k x0 x1 x2 x3
  | _=>false
theorem zAT {e:Expr}{k:Expr->List Expr->List Keyword->Pos->Bool}(h:zAx e k=true):∃ x0 x1 x2 x3,e=.Call x0 x1 x2 x3/\k x0 x1 x2 x3=true:=by
  cases e with
  | Call x0 x1 x2 x3=>exact ⟨x0,x1,x2,x3,rfl,h⟩
  | _=>exact (zzf h)
def zCT (e:Expr)(k:Expr->List Comprehension->Scope->Pos->Bool):Bool:=match e with
  | .ListComp x0 x1 x2 x3=>k x0 x1 x2 x3
  | _=>false
theorem zBK {e:Expr}{k:Expr->List Comprehension->Scope->Pos->Bool}(h:zCT e k=true):∃ x0 x1 x2 x3,e=.ListComp x0 x1 x2 x3/\k x0 x1 x2 x3=true:=by
  cases e with
  | ListComp x0 x1 x2 x3=>exact ⟨x0,x1,x2,x3,rfl,h⟩
  | _=>exact (zzf h)
def zBy (e:Expr)(k:Expr->Str->Pos->Bool):Bool:=match e with
  | .Attribute x0 x1 x2=>k x0 x1 x2
  | _=>false
theorem zBi {e:Expr}{k:Expr->Str->Pos->Bool}(h:zBy e k=true):∃ x0 x1 x2,e=.Attribute x0 x1 x2/\k x0 x1 x2=true:=by
  cases e with
  | Attribute x0 x1 x2=>exact ⟨x0,x1,x2,rfl,h⟩
  | _=>exact (zzf h)
def zC4 (e:Stmt)(k:List Expr->Expr->Pos->Bool):Bool:=match e with
  | .Assign x0 x1 x2=>k x0 x1 x2
  | _=>false
theorem zBz {e:Stmt}{k:List Expr->Expr->Pos->Bool}(h:zC4 e k=true):∃ x0 x1 x2,e=.Assign x0 x1 x2/\k x0 x1 x2=true:=by
  cases e with
  | Assign x0 x1 x2=>exact ⟨x0,x1,x2,rfl,h⟩
  | _=>exact (zzf h)
def zDu (e:Stmt)(k:Expr->Operator->Expr->Pos->Bool):Bool:=match e with
  | .AugAssign x0 x1 x2 x3=>k x0 x1 x2 x3
  | _=>false
theorem zEM {e:Stmt}{k:Expr->Operator->Expr->Pos->Bool}(h:zDu e k=true):∃ x0 x1 x2 x3,e=.AugAssign x0 x1 x2 x3/\k x0 x1 x2 x3=true:=by
  cases e with
  | AugAssign x0 x1 x2 x3=>exact ⟨x0,x1,x2,x3,rfl,h⟩
  | _=>exact (zzf h)
def zE2 (e:Stmt)(k:Expr->Pos->Bool):Bool:=match e with
  | .Expr x0 x1=>k x0 x1
  | _=>false
theorem zDK {e:Stmt}{k:Expr->Pos->Bool}(h:zE2 e k=true):∃ x0 x1,e=.Expr x0 x1/\k x0 x1=true:=by
  cases e with
  | Expr x0 x1=>exact ⟨x0,x1,rfl,h⟩
  | _=>exact (zzf h)
def onIf (e:Stmt)(k:Expr->List Stmt->List Stmt->Pos->Bool):Bool:=match e with
  | .If x0 x1 x2 x3=>k x0 x1 x2 x3
  | _=>false
theorem zJT {e:Stmt}{k:Expr->List Stmt->List Stmt->Pos->Bool}(h:onIf e k=true):∃ x0 x1 x2 x3,e=.If x0 x1 x2 x3/\k x0 x1 x2 x3=true:=by
  cases e with
  | If x0 x1 x2 x3=>exact ⟨x0,x1,x2,x3,rfl,h⟩
  | _=>exact (zzf h)
def zJO (e:Stmt)(k:Expr->List Stmt->List Stmt->Pos->Bool):Bool:=match e with
  | .While x0 x1 x2 x3=>k x0 x1 x2 x3
  | _=>false
theorem zII {e:Stmt}{k:Expr->List Stmt->List Stmt->Pos->Bool}(h:zJO e k=true):∃ x0 x1 x2 x3,e=.While x0 x1 x2 x3/\k x0 x1 x2 x3=true:=by
  cases e with
  | While x0 x1 x2 x3=>exact ⟨x0,x1,x2,x3,rfl,h⟩
  | _=>exact (zzf h)
def zOx (e:Stmt)(k:Expr->Expr->List Stmt->List Stmt->Pos->Bool):Bool:=match e with
  | .For x0 x1 x2 x3 x4=>k x0 x1 x2 x3 x4
  | _=>false
theorem zHc {e:Stmt}{k:Expr->Expr->List Stmt->List Stmt->Pos->Bool}(h:zOx e k=true):∃ x0 x1 x2 x3 x4,e=.For x0 x1 x2 x3 x4/\k x0 x1 x2 x3 x4=true:=by
  cases e with
  | For x0 x1 x2 x3 x4=>exact ⟨x0,x1,x2,x3,x4,rfl,h⟩
  | _=>exact (zzf h)
def zDe (e:Stmt)(k:Option Expr->Pos->Bool):Bool:=match e with
  | .Return x0 x1=>k x0 x1
  | _=>false
theorem zCr {e:Stmt}{k:Option Expr->Pos->Bool}(h:zDe e k=true):∃ x0 x1,e=.Return x0 x1/\k x0 x1=true:=by
  cases e with
  | Return x0 x1=>exact ⟨x0,x1,rfl,h⟩
  | _=>exact (zzf h)
def onRaise (e:Stmt)(k:Option Expr->Option Expr->Pos->Bool):Bool:=match e with
  | .Raise x0 x1 x2=>k x0 x1 x2
  | _=>false
def zNe (e:Const)(k:Int->Bool):Bool:=match e with
  | .int x=>k x
  | _=>false
theorem zJX {e:Const}{k:Int->Bool}(h:zNe e k=true):∃ x,e=.int x/\k x=true:=by
  cases e with
  | int x=>exact ⟨x,rfl,h⟩
  | _=>exact (zzf h)
def zJY (e:Const)(k:Bool->Bool):Bool:=match e with
  | .bool x=>k x
  | _=>false
theorem zIL {e:Const}{k:Bool->Bool}(h:zJY e k=true):∃ x,e=.bool x/\k x=true:=by
  cases e with
  | bool x=>exact ⟨x,rfl,h⟩
  | _=>exact (zzf h)
def zNc (e:Const)(k:Str->Bool):Bool:=match e with
  | .str x=>k x
  | _=>false
theorem zJV {e:Const}{k:Str->Bool}(h:zNc e k=true):∃ x,e=.str x/\k x=true:=by
  cases e with
  | str x=>exact ⟨x,rfl,h⟩
  | _=>exact (zzf h)
def onEq {α:Type}[DecidableEq α](a b:α)(k:Bool):Bool:=decide (a=b)&&k
theorem zDr {α:Type}[DecidableEq α]{a b:α}{k:Bool}(h:onEq a b k=true):a=b/\k=true:=by
  unfold onEq at h;exact ⟨of_decide_eq_true (and_eq_true _ _▸h).1,(and_eq_true _ _▸h).2⟩
def on0 {α:Type}(l:List α)(k:Bool):Bool:=match l with
  | []=>k
  | _=>false
theorem zAp {α:Type}{l:List α}{k:Bool}(h:on0 l k=true):l=[]/\k=true:=by
  cases l with
  | nil=>exact ⟨rfl,h⟩
  | cons _ _=>exact (zzf h)
def on1 {α:Type}(l:List α)(k:α->Bool):Bool:=match l with
  | [x0]=>k x0
  | _=>false
theorem zAt {α:Type}{l:List α}{k:α->Bool}(h:on1 l k=true):∃ x0,l=[x0]/\k x0=true:=by
  cases l with
  | nil=>exact (zzf h)
  | cons x0 l =>
    cases l with
    | nil=>exact ⟨x0,rfl,h⟩
    | cons _ _=>exact (zzf h)
def on2 {α:Type}(l:List α)(k:α->α->Bool):Bool:=match l with
  | [x0,x1]=>k x0 x1
  | _=>false
theorem zDv {α:Type}{l:List α}{k:α->α->Bool}(h:on2 l k=true):∃ x0 x1,l=[x0,x1]/\k x0 x1=true:=by
  cases l with
  | nil=>exact (zzf h)
  | cons x0 l =>
    cases l with
    | nil=>exact (zzf h)
    | cons x1 l =>
      cases l with
      | nil=>exact ⟨x0,x1,rfl,h⟩
      | cons _ _=>exact (zzf h)
def on3 {α:Type}(l:List α)(k:α->α->α->Bool):Bool:=match l with
  | [x0,x1,x2]=>k x0 x1 x2
  | _=>false
theorem zRQ {α:Type}{l:List α}{k:α->α->α->Bool}(h:on3 l k=true):∃ x0 x1 x2,l=[x0,x1,x2]/\k x0 x1 x2=true:=by
  cases l with
  | nil=>exact (zzf h)
  | cons x0 l =>
    cases l with
    | nil=>exact (zzf h)
    | cons x1 l =>
      cases l with
      | nil=>exact (zzf h)
      | cons x2 l =>
        cases l with
        | nil=>exact ⟨x0,x1,x2,rfl,h⟩
        | cons _ _=>exact (zzf h)
def zNd {α:Type}(l:List α)(k:α->List α->Bool):Bool:=match l with
  | x::xs=>k x xs
  | _=>false
theorem zJW {α:Type}{l:List α}{k:α->List α->Bool}(h:zNd l k=true):∃ x xs,l=x::xs/\k x xs=true:=by
  cases l with
  | nil=>exact (zzf h)
  | cons x xs=>exact ⟨x,xs,rfl,h⟩
def zFr {α:Type}(o:Option α)(k:α->Bool):Bool:=match o with
  | some x=>k x
  | none=>false
theorem zDq {α:Type}{o:Option α}{k:α->Bool}(h:zFr o k=true):∃ x,o=some x/\k x=true:=by
  cases o with
  | none=>exact (zzf h)
  | some x=>exact ⟨x,rfl,h⟩
def zJR {α:Type}(o:Option α)(k:Bool):Bool:=match o with
  | some _=>false
  | none=>k
theorem zJQ {α:Type}{o:Option α}{k:Bool}(h:zJR o k=true):o=none/\k=true:=by
  cases o with
  | none=>exact ⟨rfl,h⟩
  | some x=>exact (zzf h)
def zLs (g:Comprehension)(k:Expr->Expr->List Expr->Int->Bool):Bool:=k g.target g.iter g.ifs g.is_async
theorem zDf {g:Comprehension}{k:Expr->Expr->List Expr->Int->Bool}(h:zLs g k=true):∃ a b c d,g=⟨a,b,c,d⟩/\k a b c d=true:=by
  cases g;exact ⟨_,_,_,_,rfl,h⟩
mutual
def cE:E->Scope->List Str->List Str->Expr->Bool
  | .var i,sc,N,bs=>fun e=>zAW e fun y _=>decide (N[i]?=some y)&&visB sc y&&okN y
  | .glob _ x,sc,N,bs=>fun e=>zAW e fun y _=>decide (x=y)&&glB sc x&&okN x
  | .int i,sc,N,bs=>fun e=>zBn e fun z1 _ _=>zNe z1 fun j=>decide (i=j)
  | .bl b,sc,N,bs=>fun e=>zBn e fun z1 _ _=>zJY z1 fun c=>decide (b=c)
  | .non,sc,N,bs=>fun e=>zBn e fun z1 _ _=>onEq z1 .none<|(true)
  | .str x,sc,N,bs=>fun e=>zBn e fun z1 _ _=>zNc z1 fun y=>decide (x=y)
  | .bin op a b,sc,N,bs=>fun e=>zJZ e fun l op' r _=>opB op op'&&cE a sc N bs l&&cE b sc N bs r
  | .neg a,sc,N,bs=>fun e=>zDp e fun z1 l _=>onEq z1 .USub<|(cE a sc N bs l)
  | .not a,sc,N,bs=>fun e=>zDp e fun z1 l _=>onEq z1 .Not<|(cE a sc N bs l)
  | .cmp op a b,sc,N,bs=>fun e=>zDs e fun l z1 z2 _=>on1 z1 fun op'=>on1 z2 fun r=>cmB op op'&&cE a sc N bs l&&cE b sc N bs r
  | .andl es,sc,N,bs=>fun e=>zE3 e fun z1 l _=>onEq z1 .And<|(cEs es sc N bs l)
  | .orl es,sc,N,bs=>fun e=>zE3 e fun z1 l _=>onEq z1 .Or<|(cEs es sc N bs l)
  | .ite c a b,sc,N,bs=>fun e=>zJU e fun t l r _=>cE c sc N bs t&&cE a sc N bs l&&cE b sc N bs r
  | .tup es,sc,N,bs=>fun e=>zGh e fun l _ _=>cEs es sc N bs l
  | .lst es,sc,N,bs=>fun e=>zJS e fun l _=>cEs es sc N bs l
  | .ix a i,sc,N,bs=>fun e=>zBx e fun l r _=>zGj r&&cE a sc N bs l&&cE i sc N bs r
  | .sl a lo hi,sc,N,bs=>fun e=>zBx e fun l z1 _=>zJP z1 fun x y z2 _=>zJR z2<|(cE a sc N bs l&&cO lo sc N bs x&&cO hi sc N bs y)
  | .call _ f es,sc,N,bs=>fun e=>zAx e fun z1 l z2 _=>zAW z1 fun y _=>on0 z2<|(decide (f=y)&&glB sc f&&okN f&&cEs es sc N bs l)
  | .lend _ f es,sc,N,bs=>fun _=>false
  | .len a,sc,N,bs=>fun e=>zAx e fun z1 z2 z3 _=>zAW z1 fun y _=>on1 z2 fun l=>on0 z3<|(decide (y = "len")&&bltB sc bs "len"&&zAc l&&cE a sc N bs l)
  | .t1 o a,sc,N,bs=>fun _=>false
  | .t2 o a b,sc,N,bs=>fun _=>false
  | .its _,sc,N,bs=>fun _=>false
  | .callv i a,sc,N,bs=>fun e=>zAx e fun z1 z2 z3 _=>zAW z1 fun y _=>on1 z2 fun x=>on0 z3<|(decide (N[i]?=some y)&&visB sc y&&okN y&&zAc x&&cE a sc N bs x)
  | .nin a b c,sc,N,bs=>fun _=>false
  | .isa ys a,sc,N,bs=>fun _=>false
  | .sum a,sc,N,bs=>fun _=>false
  | .abs a,sc,N,bs=>fun e=>zAx e fun z1 z2 z3 _=>zAW z1 fun y _=>on1 z2 fun l=>on0 z3<|(decide (y = "abs")&&bltB sc bs "abs"&&zAc l&&cE a sc N bs l)
  | .list a,sc,N,bs=>fun e=>zAx e fun z1 z2 z3 _=>zAW z1 fun y _=>on1 z2 fun l=>on0 z3<|(decide (y = "list")&&bltB sc bs "list"&&zAc l&&cE a sc N bs l)
  | .max a b,sc,N,bs=>fun e=>zAx e fun z1 z2 z3 _=>zAW z1 fun y _=>on2 z2 fun l r=>on0 z3<|(decide (y = "max")&&bltB sc bs "max"&&zAc l&&zAc r&&cE a sc N bs l&&cE b sc N bs r)
  | .min a b,sc,N,bs=>fun _=>false
  | .isi t a,sc,N,bs=>fun e=>zAx e fun z1 z2 z3 _=>zAW z1 fun y _=>on2 z2 fun l z4=>zAW z4 fun z _=>on0 z3<|(decide (y = "isinstance")&&decide (z=Str.ofString t.nm)&&bltB sc bs "isinstance"&&bltB sc bs (Str.ofString t.nm)&&zAc l&&cE a sc N bs l)
  | .chn op op' a b c,sc,N,bs=>fun e=>zDs e fun l z1 z2 _=>on2 z1 fun o1 o2=>on2 z2 fun m r=>cmB op o1&&cmB op' o2&&chB op&&chB op'&&cE a sc N bs l&&cE b sc N bs m&&cE c sc N bs r
  | .lrev a,sc,N,bs=>fun e=>zAx e fun z1 z2 z3 _=>zAW z1 fun y _=>on1 z2 fun z4=>zAx z4 fun z5 z6 z7 _=>zAW z5 fun z _=>on1 z6 fun l=>on0 z7<|on0 z3<|(decide (y = "list")&&decide (z = "reversed")&&bltB sc bs "list"&&bltB sc bs "reversed"&&zAc l&&cE a sc N bs l)
  | .tupl a,sc,N,bs=>fun _=>false
  | .isc y0 a,sc,N,bs=>fun _=>false
  | .comp1 n ms x src c el,sc,N,bs=>fun e=>zCT e fun v z1 scope _=>on1 z1 fun z2=>zLs z2 fun z3 t ifs a=>zAW z3 fun y _=>decide (x=y)&&decide (a=0)&&decide (n=N.length)&&cscB sc scope&&zJq scope N ms&&decide ((mask noN ms N++[x]).Nodup)&&locB (relS sc scope) x&&ownB scope x&&cI src sc N bs t&&cC c (relS sc scope) (mask noN ms N++[x]) bs ifs&&cE el (relS sc scope) (mask noN ms N++[x]) bs v
  | .comp2 n ms x x2 src c el,sc,N,bs=>fun e=>zCT e fun v z1 scope _=>on1 z1 fun z2=>zLs z2 fun z3 t ifs a=>zGh z3 fun z4 _ _=>on2 z4 fun z5 z6=>zAW z5 fun y _=>zAW z6 fun y2 _=>decide (x=y)&&decide (x2=y2)&&decide (a=0)&&decide (n=N.length)&&cscB sc scope&&zJq scope N ms&&decide ((mask noN ms N++[x,x2]).Nodup)&&locB (relS sc scope) x&&ownB scope x&&locB (relS sc scope) x2&&ownB scope x2&&cI src sc N bs t&&cC c (relS sc scope) (mask noN ms N++[x,x2]) bs ifs&&cE el (relS sc scope) (mask noN ms N++[x,x2]) bs v
  | .lzip a b,sc,N,bs=>fun e=>zAx e fun z1 z2 z3 _=>zAW z1 fun y _=>on1 z2 fun z4=>zAx z4 fun z5 z6 z7 _=>zAW z5 fun z _=>on2 z6 fun l r=>on0 z7<|on0 z3<|(decide (y = "list")&&decide (z = "zip")&&bltB sc bs "list"&&bltB sc bs "zip"&&zAc l&&zAc r&&cE a sc N bs l&&cE b sc N bs r)
  | .it _,sc,N,bs=>fun _=>false
  | .r1 _,sc,N,bs=>fun _=>false
  | .r2 _ _,sc,N,bs=>fun _=>false
  | .r3 _ _ _,sc,N,bs=>fun _=>false
  | .nil,sc,N,bs=>fun _=>false
  | .cons _ _,sc,N,bs=>fun _=>false
def cI:E->Scope->List Str->List Str->Expr->Bool
  | .it e,sc,N,bs=>fun x=>zGk x&&cE e sc N bs x
  | .its e,sc,N,bs=>fun x=>zGk x&&cE e sc N bs x
  | .r1 a,sc,N,bs=>fun x=>zAx x fun z1 z2 z3 _=>zAW z1 fun y _=>on1 z2 fun l=>on0 z3<|(decide (y = "range")&&bltB sc bs "range"&&zAc l&&cE a sc N bs l)
  | .r2 a b,sc,N,bs=>fun x=>zAx x fun z1 z2 z3 _=>zAW z1 fun y _=>on2 z2 fun l r=>on0 z3<|(decide (y = "range")&&bltB sc bs "range"&&zAc l&&zAc r&&cE a sc N bs l&&cE b sc N bs r)
  | .r3 a b c,sc,N,bs=>fun x=>zAx x fun z1 z2 z3 _=>zAW z1 fun y _=>on3 z2 fun l r q=>on0 z3<|(decide (y = "range")&&bltB sc bs "range"&&zAc l&&zAc r&&zAc q&&cE a sc N bs l&&cE b sc N bs r&&cE c sc N bs q)
  | _,_,_,_=>fun _=>false
def cC:E->Scope->List Str->List Str->List Expr->Bool
  | .nil,sc,N,bs=>fun l=>l.isEmpty
  | .cons c _,sc,N,bs=>fun l=>match l with
    | [x]=>cE c sc N bs x
    | _=>false
  | _,_,_,_=>fun _=>false
def cEs:E->Scope->List Str->List Str->List Expr->Bool
  | .nil,sc,N,bs=>fun l=>l.isEmpty
  | .cons e es,sc,N,bs=>fun l=>match l with
    | x::xs=>zAc x&&cE e sc N bs x&&cEs es sc N bs xs
    | []=>false
  | _,_,_,_=>fun _=>false
def cO:E->Scope->List Str->List Str->Option Expr->Bool
  | .cons e _,sc,N,bs=>fun o=>match o with
    | some x=>cE e sc N bs x
    | none=>false
  | .nil,sc,N,bs=>fun o=>o.isNone
  | _,_,_,_=>fun _=>false
end
def zPL:E->Bool
  | .comp1 _ _ _ _ _ _=>true
  | .comp2 _ _ _ _ _ _ _=>true
  | _=>false
def varB (sc:Scope)(N:List Str)(i:Nat)(x:Str):Bool:=decide (N[i]?=some x)&&locB sc x&&okN x
mutual
def cS (sc:Scope)(N bs:List Str):S->Stmt->Bool
  | .set i e=>fun s=>zC4 s fun z1 v _=>on1 z1 fun z2=>zAW z2 fun y _=>varB sc N i y&&zHe v&&cE e sc N bs v
  | .setC i e=>fun s=>zC4 s fun z1 v _=>on1 z1 fun z2=>zAW z2 fun y _=>zPL e&&varB sc N i y&&cE e sc N bs v
  | .app i e=>fun s=>zE2 s fun z1 _=>zAx z1 fun z2 z3 z4 cpos=>zBy z2 fun z5 m apos=>zAW z5 fun y _=>on1 z3 fun v=>on0 z4<|(decide (m = "append")&&varB sc N i y&&(apos.endLine==cpos.line)&&zAc v&&cE e sc N bs v)
  | .un2 i j e=>fun _=>false
  | .un4 i j k l e=>fun _=>false
  | .un3 i j k e=>fun _=>false
  | .aug op i e=>fun s=>zDu s fun z1 op' v _=>zAW z1 fun y _=>opB op op'&&varB sc N i y&&zHe v&&cE e sc N bs v
  | .swp i j k l=>fun _=>false
  | .ext i e=>fun s=>zE2 s fun z1 _=>zAx z1 fun z2 z3 z4 cpos=>zBy z2 fun z5 m apos=>zAW z5 fun y _=>on1 z3 fun v=>on0 z4<|(decide (m = "extend")&&varB sc N i y&&(apos.endLine==cpos.line)&&zAc v&&cE e sc N bs v)
  | .ins i k e=>fun _=>false
  | .put i k e=>fun _=>false
  | .ife c a b=>fun s=>onIf s fun t l r _=>cE c sc N bs t&&cSs sc N bs a l&&cSs sc N bs b r
  | .whl c b=>fun s=>zJO s fun t l z1 _=>on0 z1<|(cE c sc N bs t&&cSs sc N bs b l)
  | .for1 i it b=>fun s=>zOx s fun z1 t l z2 _=>zAW z1 fun y _=>on0 z2<|(varB sc N i y&&cI it sc N bs t&&cSs sc N bs b l)
  | .for2 i j it b=>fun _=>false
  | .ret e=>fun s=>zDe s fun z1 _=>zFr z1 fun v=>cE e sc N bs v
  | .retOwn i=>fun s=>zDe s fun z1 _=>zFr z1 fun z2=>zAW z2 fun y _=>varB sc N i y
  | .retN=>fun _=>false
  | .drop e=>fun _=>false
  | .pass=>fun _=>false
  | .dnew i=>fun _=>false
  | .dput i a b=>fun _=>false
  | .brk=>fun _=>false
  | .cnt=>fun _=>false
  | .never=>fun _=>true
  | .rse c m=>fun s=>onRaise s fun z1 z2 _=>zFr z1 fun z3=>zAx z3 fun z4 z5 z6 _=>zAW z4 fun y _=>on1 z5 fun l=>on0 z6<|zJR z2<|(decide (c=y)&&glB sc c&&okN c&&zAc l&&cE m sc N bs l)
  | .tri b c i=>fun _=>false
  | .tra b c i j=>fun _=>false
  | .nil=>fun _=>false
  | .cons _ _=>fun _=>false
  | .frz _ _=>fun _=>false
def cSs (sc:Scope)(N bs:List Str):S->List Stmt->Bool
  | .nil=>fun l=>l.isEmpty
  | .cons a b=>fun l=>match l with
    | s::r=>cS sc N bs a s&&cSs sc N bs b r
    | []=>false
  | .frz _ r=>fun l=>cSs sc N bs r l
  | _=>fun _=>false
end
end DL
end
section
namespace DL
open PySem Spec PyProof.Rows L2
structure GOk (P:Program)(w:World)(K:W.Frag)(mg:Str->Option Value)(base:Heap)(k:Nat)(Γ:Gm)(bs:List Str):Prop where
  fn:∀ x F,(x,F)∈Γ.fns->∃ f fd ps,FnOk P w K mg base CX0 k f fd ps (spD K F)/\mg x=some (.ref f)/\W.keepIn K (.ref f)=true/\zCC K fd ps []
  cs:∀ x d,(x,d)∈Γ.cs->∃ u v,mg x=some u/\RelV v u/\Den K (fun _=>none) d v
  bt:∀ x∈bs,mg x=none
  xf:True
  sb:True
  rs:True
  lm:∀ (j:Nat) L F,Γ.lm[j]?=some (L,F)->zEm P w K mg base k L F
structure XOk (X:Cx)(k:Nat)(Γ:Gm)(bs:List Str):Prop where
  g:GOk X.prog X.w X.K X.mg X.base k Γ bs
  room:Room k X.A
  calm:X.calm=true
  nd:X.N.Nodup
  own:PassesOwn (model X.prog X.w) X.A X.env X.xe
theorem XOk.comp {X:Cx}{k:Nat}{Γ:Gm}{bs N:List Str}{scope:Scope}{s:Shared}{H:Hp}{fp:List Addr}(o:XOk X k Γ bs)(nd:N.Nodup):XOk (zAN X N scope s H fp) k Γ bs:=⟨o.g,o.room,o.calm,nd,PassesOwn.never⟩
theorem zAG {e:Expr}{es:List Expr}{env:Env}(h:zAc e=true):starEach (e::es) env=(false,eval e env)::starEach es env:=by
  cases e<;>first | rfl | cases h
theorem zEW {e:Expr}(h:zGj e=true):zFS e:=by
  cases e<;>first | (intro o i;rfl) | cases h
theorem zDx {e:Expr}{t:Option Expr}{n:Nat}{env:Env}(h:zHe e=true):swapsWith e t n env=pure false:=by
  cases e<;>first | rfl | cases h
theorem zDL {e:Expr}{env:Env}(h:zGk e=true):∀ x,foldedSetIterable e env x=pure x:=by
  intro x;cases e<;>first | rfl | cases h
theorem zGT {sc:Scope}{x:Str}(h:visB sc x=true):Vis sc x:=by
  unfold visB at h;split at h
  . rename_i e;exact .inl e
  . rename_i e;exact .inr (.inl e)
  . rename_i e;exact .inr (.inr e)
  . cases h
theorem zCt {sc:Scope}{x:Str}(h:locB sc x=true):Loc sc x:=by
  unfold locB at h;split at h
  . rename_i e;exact .inl e
  . rename_i e;exact .inr e
  . cases h
theorem zL3 {sc:Scope}{x:Str}(h:locB sc x=true):Vis sc x:=(zCt h).elim .inl fun e=>.inr (.inl e)
theorem zEa {X:Cx}{x:Str}(h:glB X.env.scope x=true):Gl X x:=by
  unfold glB at h;split at h
  . rename_i e;exact e
  . cases h
theorem zCI {x:Str}(h:okN x=true):(x==("__debug__":Str))=false/\(x==("__classdict__":Str))=false:=by
  unfold okN at h;rw [and_eq_true] at h;exact ⟨by simpa using h.1,by simpa using h.2⟩
theorem zA7 {X:Cx}{k:Nat}{Γ:Gm}{bs:List Str}{x:Str}(o:XOk X k Γ bs)(h:bltB X.env.scope bs x=true):Gl X x/\X.mg x=none:=by
  unfold bltB at h;rw [and_eq_true] at h;exact ⟨zEa h.1,o.g.bt x (by simpa using h.2)⟩
theorem zCx {X:Cx}{k:Nat}{Γ:Gm}{bs:List Str}(o:XOk X k Γ bs):X.A.units+64 < cLine:=o.room.units
theorem zDG {X:Cx}:∀ {es:List Expr},(∀ e∈es,zAc e=true)->∀ pos,(backTo pos (starEach es X.env)).any (·.1)=false
  | [],_,_=>rfl
  | e::es,h,pos=>by
    rw [zAG (h e mem_cons_self)];show (false||(backTo pos (starEach es X.env)).any (·.1))=false;rw [zDG (fun e z=>h e (mem_cons_of_mem _ z)) pos]
    rfl
theorem zK2 {sc:Scope}{N bs:List Str}{a:E}:∀ {es:List Expr},cEs a sc N bs es=true->∀ e∈es,zAc e=true:=by
  induction a with
  | nil =>
    intro es h;cases es with
    | nil=>intro e z;exact absurd z (by simp)
    | cons x xs=>exact zzf h
  | cons a b _ ih =>
    intro es h;cases es with
    | nil=>intro e z;exact absurd z (by simp)
    | cons x xs =>
      simp only [cEs,and_eq_true] at h;intro e z;rcases mem_cons.mp z with rfl | z
      . exact h.1.1
      . exact ih h.2 e z
  | _=>intro es h;exact zzf h
end DL
namespace DL
open PySem Spec PyProof.Rows L2
section
variable {X:Cx}
theorem zCK {e:Expr}{f:Dst->Option R}(h:∀ δ,f δ=none):GE X e f:=fun pins s σ H Q I zz75=>by
  obtain ⟨S,δ,z,ds,e,c⟩:=zz75;rw [h δ] at e;cases e
theorem zEq {f g:Dst->Option R}{o:D->D->Option R}(h:∀ x y,o x y=none)(δ:Dst):two f g o δ=none:=by
  unfold two;cases f δ with
  | none=>rfl
  | some x =>
    cases g δ with
    | none=>rfl
    | some y=>exact h _ _
def zQs (K:W.Frag):R2:=fun x y H Q=>∃ l b xs zs,x=.ref l/\y=.ref b/\SqL K H l xs/\SqL K H b zs/\xs.length+zs.length<=sizeLine/\∀ p,H p=none->Q (.ref p) (upd H p (.lst (xs++zs)))
theorem zOv:OpR X (binaryOp .Add) (zQs X.K):=by
  intro pins s σ H x y v u Q I rx ry h;obtain ⟨l,b,xs,zs,rfl,rfl,hl,hb,hz,q⟩:=h;cases rx;cases ry;obtain ⟨its,rv,⟨⟨cls,dd,data,sl⟩,n,e1,e2,e3,e4⟩,z1⟩:=I.list hl;obtain ⟨its2,rv2,⟨⟨cls2,dd2,data2,sl2⟩,n2,e1',e2',e3',e4'⟩,z2⟩:=I.list hb;simp only at e2 e3 e4 e2' e3' e4';subst e2 e4 e2' e4';have hsz:its.toArray.size+its2.toArray.size<=sizeLine:=by rw [size_toArray,size_toArray,<- rv.length,<- rv2.length];exact hz
  refine concat_meets ⟨_,e1,rfl⟩ ⟨_,e1',rfl⟩ noFill_list_add seq_list_add F.slot_list_add F.entry_list_add (F.args_list_add_2 _ _) (zFy l _ n dd sl b _ n2 dd2 sl2 hsz) ⟨e1,e1',?_⟩;have ea:its.toArray++its2.toArray=(its++its2).toArray:=by simp
  rw [ea];exact ⟨.ref _,_,I.lnew (t':=s.toks) (rv.append rv2) (by rw [length_append];exact hz),rfl,q _ I.fresh⟩
theorem zOo:OpD X.K (fun x y H Q=>(rI0 (fun i j=>.int (i+j)) x y H Q\/zQs X.K x y H Q)\/zQr X.K x y H Q) (binD .Add):=by
  intro S H x y z vx vy Q sok e rx ry c;unfold binD at e;dsimp only at e;split at e
  . cases e;exact .inl (.inl ⟨_,_,rx.int,ry.int,c _ H (Same.refl _) (.int _)⟩)
  . rename_i xs ys;by_cases hl:xs.length+ys.length<=10000
    . rw [if_pos hl] at e;cases e;obtain ⟨a,vs,rfl,h1,h2⟩:=rx.lst;obtain ⟨b,ws,rfl,h3,h4⟩:=ry.lst;exact .inl (.inr ⟨a,b,vs,ws,rfl,rfl,h1,h3,by rw [<- h2.length,<- h4.length];exact zCe hl,fun p n=>c _ _ (zAj n _) (.lstNew (Same.refl _) sok n (h2.append h4))⟩)
    . rw [if_neg hl] at e;cases e
  . rename_i x xs y ys;by_cases hl:(x::xs).length+(y::ys).length<=10000
    . rw [if_pos hl] at e;cases e;obtain ⟨a,vs,rfl,h1,h2⟩:=rx.tup;obtain ⟨b,ws,rfl,h3,h4⟩:=ry.tup;have n1:vs≠[]:=fun z=>by rw [z] at h2;have:=h2.length;simp at this
      have n2:ws≠[]:=fun z=>by rw [z] at h4;have:=h4.length;simp at this
      exact .inr ⟨a,b,vs,ws,rfl,rfl,h1,h3,n1,by rw [<- h2.length,<- h4.length];exact zCe hl,fun z=>absurd z n2,fun _ p n=>c _ _ (zAj n _) (.tupNew sok n (h2.append h4))⟩
    . rw [if_neg hl] at e;cases e
  . cases e
theorem zOl:OpD X.K (fun x y H Q=>rI IntMulOk (fun i j=>.int (i*j)) x y H Q\/rRep X.K x y H Q) (binD .Mult):=by
  intro S H x y z vx vy Q sok e rx ry c;unfold binD at e;dsimp only at e;split at e
  . unfold mulD at e;split at e
    . rename_i h;cases e;exact .inl ⟨_,_,rx.int,ry.int,h,c _ H (Same.refl _) (.int _)⟩
    . cases e
  . rename_i xs j;by_cases hl:0<=j/\j<=10000/\xs.length*j.toNat<=10000
    . rw [if_pos hl] at e;cases e;obtain ⟨a,vs,rfl,h1,h2⟩:=rx.lst;exact .inr ⟨a,vs,j,rfl,ry.int,h1,hl.1,hl.2.1,by rw [<- h2.length];exact hl.2.2,fun p n=>c _ _ (zAj n _) (.lstNew (Same.refl _) sok n (zKs h2 _))⟩
    . rw [if_neg hl] at e;cases e
  . cases e
theorem zSF {op:Operator}{a b:Expr}{f g:Dst->Option R}{pos:Pos}(ha:GE X a f)(hb:GE X b g):GE X (.BinOp a op b pos) (two f g (binD op)):=by
  cases op with
  | Add=>exact zIV ((zRP.or zOv).or zOu) zOo ha hb
  | Sub=>exact zIV zRE (zLq fun x y z e=>by
      unfold binD at e;dsimp only at e;split at e
      . cases e;exact ⟨_,_,rfl,rfl,rfl⟩
      . cases e) ha hb
  | Mult=>exact zIV (zOs.or zRF) zOl ha hb
  | FloorDiv=>exact zIV zLr (zGg fun x y z e=>by
      unfold binD at e;dsimp only at e;split at e
      . unfold zMV at e;split at e
        . rename_i h;cases e;exact ⟨_,_,rfl,rfl,h,rfl⟩
        . cases e
      . cases e) ha hb
  | Mod=>exact zIV zOt (zGg fun x y z e=>by
      unfold binD at e;dsimp only at e;split at e
      . split at e
        . cases e
        . rename_i h;cases e;exact ⟨_,_,rfl,rfl,h,rfl⟩
      . cases e) ha hb
  | Pow=>exact zIV zRG (zGg fun x y z e=>by
      unfold binD at e;dsimp only at e;split at e
      . split at e
        . rename_i h;cases e;exact ⟨_,_,rfl,rfl,h,rfl⟩
        . cases e
      . cases e) ha hb
  | _=>exact zCK (zEq fun _ _=>rfl)
theorem zBc {op:CmpOp}{k:Int->Int->Bool}(h:cmpD op=fun x y=>match x,y with
    | .int i,.int j=>some (.bl (k i j),.cl)
    | _,_=>none):∀ x y z,cmpD op x y=some z->∃ i j,x=.int i/\y=.int j/\z=(.bl (k i j),.cl):=by
  intro x y z e;rw [h] at e;dsimp only at e;split at e
  . cases e;exact ⟨_,_,rfl,rfl,rfl⟩
  . cases e
theorem zMs {op:CmpOp}(hu:X.A.units+64 < cLine):(∃ r,OpR X (compareOp op) r/\OpD X.K r (cmpD op)/\∀ b,behindInMarks op b=false)\/∀ x y,cmpD op x y=none:=by
  cases op with
  | Lt=>exact .inl ⟨_,zRI,zBC (zBc rfl),fun b=>zC5 b⟩
  | LtE=>exact .inl ⟨_,zRJ,zBC (zBc rfl),fun b=>zC5 b⟩
  | Gt=>exact .inl ⟨_,zRL,zBC (zBc rfl),fun b=>zC5 b⟩
  | GtE=>exact .inl ⟨_,zRN,zBC (zBc rfl),fun b=>zC5 b⟩
  | Eq=>exact .inl ⟨_,zRO hu,zNa,fun b=>zC5 b⟩
  | NotEq=>exact .inl ⟨_,zRH hu,zNa,fun b=>zC5 b⟩
  | Is=>exact .inl ⟨_,zRK,zOn,fun b=>zC5 b⟩
  | IsNot=>exact .inl ⟨_,zOr,zLp,fun b=>zC5 b⟩
  | _=>exact .inr fun _ _=>rfl
theorem zGn {e:Expr}{f:Dst->Option R}(h:∀ δ,f δ=none):GT X e (asB f):=fun pins s σ H Q I zz76=>by
  obtain ⟨S,δ,z,ds,e,c⟩:=zz76;obtain ⟨k,e⟩:=zB6 e;rw [h δ] at e;cases e
theorem zPg {op:CmpOp}{a b:Expr}{f g:Dst->Option R}{pos:Pos}(hu:X.A.units+64 < cLine)(ha:GE X a f)(hb:GE X b g):GE X (.Compare a [op] [b] pos) (two f g (cmpD op))/\GT X (.Compare a [op] [b] pos) (asB (two f g (cmpD op))):=by
  rcases zMs (X:=X) (op:=op) hu with ⟨r,h1,h2,h3⟩ | h
  . exact ⟨zSE h1 h2 (h3 b) ha hb,zRs h1 h2 (h3 b) ha hb⟩
  . exact ⟨zCK (zEq h),zGn (zEq h)⟩
theorem zAr {e:Expr}{f:Dst->Option R}(h:GE X e f)(he:∀ whole,isTrue e X.env whole=(do let v<-whole;standAt e.pos;holding [v] (truthy v))):GE X e f/\GT X e (asB f):=⟨h,zRp h he⟩
structure Good (X:Cx)(Γ:Gm)(bs:List Str)(a:E):Prop where
  e:∀ e,cE a X.env.scope X.N bs e=true->GE X e (evE Γ a)/\GT X e (asB (evE Γ a))
  es:∀ es,cEs a X.env.scope X.N bs es=true->(GA X es (evEs Γ a)/\GAL X es (evLs Γ a))/\(es≠[]->∀ pos,(GE X (.BoolOp .And es pos) (evAnd Γ a)/\GW X (.BoolOp .And es pos) (asB (evAnd Γ a)))/\GE X (.BoolOp .Or es pos) (evOr Γ a)/\GW X (.BoolOp .Or es pos) (asB (evOr Γ a)))
  o:∀ oe,cO a X.env.scope X.N bs oe=true->GO X oe (evO Γ a)
  i:∀ it,cI a X.env.scope X.N bs it=true->(∀ tg,GI X tg it (evI Γ a))/\∀ x,foldedSetIterable it X.env x=pure x
  c:∀ ifs,cC a X.env.scope X.N bs ifs=true->GCs X ifs (evC Γ a)
theorem Good.of {Γ:Gm}{bs:List Str}{a:E}(h:∀ e,cE a X.env.scope X.N bs e=true->GE X e (evE Γ a)/\GT X e (asB (evE Γ a)))(h2:∀ es,cEs a X.env.scope X.N bs es=false)(h3:∀ oe,cO a X.env.scope X.N bs oe=false)(h4:∀ it,cI a X.env.scope X.N bs it=false)(h5:∀ ifs,cC a X.env.scope X.N bs ifs=false):Good X Γ bs a :=
  ⟨h,fun es q=>absurd (h2 es) (by rw [q];decide),fun oe q=>absurd (h3 oe) (by rw [q];decide),fun it q=>absurd (h4 it) (by rw [q];decide),fun ifs q=>absurd (h5 ifs) (by rw [q];decide)⟩
theorem Good.ofI {Γ:Gm}{bs:List Str}{a:E}(h:∀ it,cI a X.env.scope X.N bs it=true->(∀ tg,GI X tg it (evI Γ a))/\∀ x,foldedSetIterable it X.env x=pure x)(h1:∀ e,cE a X.env.scope X.N bs e=false)(h2:∀ es,cEs a X.env.scope X.N bs es=false)(h3:∀ oe,cO a X.env.scope X.N bs oe=false)(h5:∀ ifs,cC a X.env.scope X.N bs ifs=false):Good X Γ bs a :=
  ⟨fun e q=>absurd (h1 e) (by rw [q];decide),fun es q=>absurd (h2 es) (by rw [q];decide),fun oe q=>absurd (h3 oe) (by rw [q];decide),h,fun ifs q=>absurd (h5 ifs) (by rw [q];decide)⟩
structure zOC (X:Cx)(tg iter elt:Expr)(ifs:List Expr)(scope:Scope)(ms:List Nat)(xs:List Str)(f:Dst->Option (List D))(t:D->Dst->Option Dst)(c:Dst->Option Bool)(e:Dst->Option R):Prop where
  hi:GI X tg iter f
  hs:∀ x,foldedSetIterable iter X.env x=pure x
  cs:zCR X.env.scope scope
  hm:∀ (i:Nat) x,X.N[i]?=some x->ownB scope x=true->i∈ms
  hg:∀ s H fp,GG (zAN X (mask noN ms X.N++xs) scope s H fp) tg t
  hc:∀ s H fp,GCs (zAN X (mask noN ms X.N++xs) scope s H fp) ifs c
  he:∀ s H fp,GE (zAN X (mask noN ms X.N++xs) scope s H fp) elt e
theorem zFI {sc scope:Scope}(h:cscB sc scope=true):zCR sc scope:=by
  unfold cscB at h;simp only [and_eq_true,decide_eq_true_eq,beq_iff_eq,all_eq_true] at h;obtain ⟨⟨h1,h2⟩,h3⟩:=h;refine ⟨h1,h2,fun x hx e=>?_⟩;have q:=h3 x hx;rw [e] at q;simpa using q
theorem zDg {scope:Scope}{N:List Str}{ms:List Nat}(h:zJq scope N ms=true):∀ (i:Nat) x,N[i]?=some x->ownB scope x=true->i∈ms:=fun i x e o=>by
  unfold zJq at h;rw [all_eq_true] at h;have hi:i < N.length:=(zzg e).1;have q:=h i (mem_range.mpr hi);have ex:N.getD i noN=x:=by rw [getD_eq_getElem?_getD,e];rfl
  rw [ex,o] at q;simpa using q
theorem zF5 {N:List Str}{ms:List Nat}{xs:List Str}{k:Nat}{x:Str}(h:xs[k]?=some x):(mask noN ms N++xs)[N.length+k]?=some x:=by
  rw [getElem?_append_right (by rw [zAk];omega),zAk];rw [Nat.add_sub_cancel_left];exact h
end
end DL
end
section
namespace DL
open PySem Spec PyProof.Rows L2
section
variable {X:Cx}{k:Nat}{Γ:Gm}{bs:List Str}
theorem zTl {n:Nat}{f:Str}{p pos:Pos}{es:List Expr}{g:Dst->Option (List D)}(o:XOk X k Γ bs)(hg:Gl X f)(hd:(f==("__debug__":Str))=false)(ha:GA X es g)(hst:∀ e∈es,zAc e=true)(he:es=[]->∀ δ,g δ=some []):GE X (.Call (.Name f p) es [] pos) (fnD Γ n f g):=by
  cases q:Γ.fns[n]? with
  | none=>exact zCK fun δ=>by unfold fnD;rw [q]
  | some yF =>
    obtain ⟨y,F⟩:=yF;by_cases e:y=f
    . subst e;have ef:fnD Γ n y g=zG3 F g:=by
        funext δ;unfold fnD;rw [q];exact if_pos rfl
      rw [ef];obtain ⟨a,fd,ps,h1,h2,h3,h4⟩:=o.g.fn y F (mem_of_getElem? q);cases es with
      | nil =>
        have eg:g=fun _=>some []:=funext (he rfl)
        rw [eg];exact zMP h1 o.room hg h2 h3 h4 hd
      | cons x xs=>exact zPh h1 o.room hg h2 h3 h4 ha hd (zAG (hst x mem_cons_self)) (zDG fun e z=>hst e (mem_cons_of_mem _ z))
    . exact zCK fun δ=>by
        unfold fnD;rw [q];exact if_neg e
theorem zTk {n:Nat}{x:Str}{pos:Pos}(o:XOk X k Γ bs)(hg:Gl X x)(hd:(x==("__debug__":Str))=false):GE X (.Name x pos) (zF3 Γ n x):=by
  cases q:Γ.cs[n]? with
  | none=>exact zCK fun δ=>by unfold zF3;rw [q]
  | some yd =>
    obtain ⟨y,d⟩:=yd;by_cases e:y=x
    . subst e;have ef:zF3 Γ n y=fun _=>some (d,.cl):=by
        funext δ;unfold zF3;rw [q];exact if_pos rfl
      rw [ef];obtain ⟨u,v,h1,h2,h3⟩:=o.g.cs y d (mem_of_getElem? q);exact zPf hg h1 h2 h3 hd
    . exact zCK fun δ=>by
        unfold zF3;rw [q];exact if_neg e
theorem zQL {sc:Scope}{N bs:List Str}{a:E}(h:cEs a sc N bs []=true)(δ:Dst):evEs Γ a δ=some []:=by
  cases a<;>first | rfl | exact (zzf h)
theorem zHw {n:Nat}{ms:List Nat}{x:Str}{src c el:E}(o:XOk X k Γ bs)(hs:Good X Γ bs src)(hc:∀ {X':Cx},XOk X' k Γ bs->Good X' Γ bs c)(he:∀ {X':Cx},XOk X' k Γ bs->Good X' Γ bs el){e:Expr}(h:cE (.comp1 n ms x src c el) X.env.scope X.N bs e=true) :
    ∃ tg iter elt ifs scope pos,e=.ListComp elt [⟨tg,iter,ifs,0⟩] scope pos/\zOC X tg iter elt ifs scope ms [x] (evI Γ src) (tg1 n) (evC Γ c) (evE Γ el):=by
  obtain ⟨v,z1,scope,pos,rfl,hq1⟩:=zBK h;obtain ⟨z2,rfl,hq2⟩:=zAt hq1;obtain ⟨z3,t,ifs,a,rfl,hq3⟩:=zDf hq2;obtain ⟨y,py,rfl,hq4⟩:=zAF hq3;replace h:=hq4;simp only [and_eq_true,decide_eq_true_eq] at h;obtain ⟨⟨⟨⟨⟨⟨⟨⟨⟨⟨rfl,rfl⟩,rfl⟩,h4⟩,h5⟩,h6⟩,h7⟩,h8⟩,h9⟩,h10⟩,h11⟩:=h;have cx:∀ s H fp,XOk (zAN X (mask noN ms X.N++[x]) scope s H fp) k Γ bs:=fun s H fp=>o.comp h6
  refine ⟨_,_,_,_,_,_,rfl,⟨(hs.i _ h9).1 _,(hs.i _ h9).2,zFI h4,zDg h5,fun s H fp=>?_,fun s H fp=>(hc (cx s H fp)).c _ h10,fun s H fp=>((he (cx s H fp)).e _ h11).1⟩⟩;exact zKO (X:=zAN X (mask noN ms X.N++[x]) scope s H fp) h6 (zF5 (k:=0) rfl) (zCt h7) (.inl h8)
theorem zHv {n:Nat}{ms:List Nat}{x x2:Str}{src c el:E}(o:XOk X k Γ bs)(hs:Good X Γ bs src)(hc:∀ {X':Cx},XOk X' k Γ bs->Good X' Γ bs c)(he:∀ {X':Cx},XOk X' k Γ bs->Good X' Γ bs el){e:Expr}(h:cE (.comp2 n ms x x2 src c el) X.env.scope X.N bs e=true) :
    ∃ tg iter elt ifs scope pos,e=.ListComp elt [⟨tg,iter,ifs,0⟩] scope pos/\zOC X tg iter elt ifs scope ms [x,x2] (evI Γ src) (tg2 n (n+1)) (evC Γ c) (evE Γ el):=by
  obtain ⟨v,z1,scope,pos,rfl,hq1⟩:=zBK h;obtain ⟨z2,rfl,hq2⟩:=zAt hq1;obtain ⟨z3,t,ifs,a,rfl,hq3⟩:=zDf hq2;obtain ⟨z4,kk,ppos,rfl,hq4⟩:=zEV hq3;obtain ⟨z5,z6,rfl,hq5⟩:=zDv hq4;obtain ⟨y,py,rfl,hq6⟩:=zAF hq5;obtain ⟨y2,py2,rfl,hq7⟩:=zAF hq6;replace h:=hq7;simp only [and_eq_true,decide_eq_true_eq] at h;obtain ⟨⟨⟨⟨⟨⟨⟨⟨⟨⟨⟨⟨⟨rfl,rfl⟩,rfl⟩,rfl⟩,h4⟩,h5⟩,h6⟩,h7⟩,h8⟩,h7'⟩,h8'⟩,h9⟩,h10⟩,h11⟩:=h;have cx:∀ s H fp,XOk (zAN X (mask noN ms X.N++[x,x2]) scope s H fp) k Γ bs:=fun s H fp=>o.comp h6
  refine ⟨_,_,_,_,_,_,rfl,⟨(hs.i _ h9).1 _,(hs.i _ h9).2,zFI h4,zDg h5,fun s H fp=>?_,fun s H fp=>(hc (cx s H fp)).c _ h10,fun s H fp=>((he (cx s H fp)).e _ h11).1⟩⟩;exact zR4 (X:=zAN X (mask noN ms X.N++[x,x2]) scope s H fp) o.calm h6 (zF5 (k:=0) rfl) (zCt h7) (.inl h8) (zF5 (k:=1) rfl) (zCt h7') (.inl h8')
theorem zCG (o:XOk X k Γ bs)(a:E):Good X Γ bs a:=by
  have hu:=zCx o
  induction a generalizing X with
  | var i =>
    refine Good.of (fun e h=>?_) (fun _=>rfl) (fun _=>rfl) (fun _=>rfl) fun _=>rfl
    obtain ⟨_,_,rfl,hq1⟩:=zAF h;replace h:=hq1;simp only [and_eq_true,decide_eq_true_eq] at h;obtain ⟨⟨h2,h3⟩,h4⟩:=h;obtain ⟨n1,n2⟩:=zCI h4;exact zAr (zR5 h2 (zGT h3) n1 n2) fun _=>rfl
  | glob n x =>
    refine Good.of (fun e h=>?_) (fun _=>rfl) (fun _=>rfl) (fun _=>rfl) fun _=>rfl
    obtain ⟨_,_,rfl,hq1⟩:=zAF h;replace h:=hq1;simp only [and_eq_true,decide_eq_true_eq] at h;obtain ⟨⟨rfl,h2⟩,h4⟩:=h;exact zAr (zTk o (zEa h2) (zCI h4).1) fun _=>rfl
  | int i =>
    refine Good.of (fun e h=>?_) (fun _=>rfl) (fun _=>rfl) (fun _=>rfl) fun _=>rfl
    obtain ⟨z1,_,_,rfl,hq1⟩:=zBL h;obtain ⟨_,rfl,hq2⟩:=zJX hq1;replace h:=hq2;simp only [decide_eq_true_eq] at h;subst h;exact zAr ge_int fun _=>rfl
  | bl b =>
    refine Good.of (fun e h=>?_) (fun _=>rfl) (fun _=>rfl) (fun _=>rfl) fun _=>rfl
    obtain ⟨z1,_,_,rfl,hq1⟩:=zBL h;obtain ⟨_,rfl,hq2⟩:=zIL hq1;replace h:=hq2;simp only [decide_eq_true_eq] at h;subst h;exact zAr zTm fun _=>rfl
  | non =>
    refine Good.of (fun e h=>?_) (fun _=>rfl) (fun _=>rfl) (fun _=>rfl) fun _=>rfl
    obtain ⟨z1,_,_,rfl,hq1⟩:=zBL h;obtain ⟨rfl,hq2⟩:=zDr hq1;replace h:=hq2;exact zAr zR9 fun _=>rfl
  | str x =>
    refine Good.of (fun e h=>?_) (fun _=>rfl) (fun _=>rfl) (fun _=>rfl) fun _=>rfl
    obtain ⟨z1,_,_,rfl,hq1⟩:=zBL h;obtain ⟨_,rfl,hq2⟩:=zJV hq1;replace h:=hq2;simp only [decide_eq_true_eq] at h;subst h;exact zAr zR7 fun _=>rfl
  | bin op a b iha ihb =>
    refine Good.of (fun e h=>?_) (fun _=>rfl) (fun _=>rfl) (fun _=>rfl) fun _=>rfl
    obtain ⟨_,_,_,_,rfl,hq1⟩:=zIM h;replace h:=hq1;simp only [and_eq_true,opB,decide_eq_true_eq] at h;obtain ⟨⟨rfl,h1⟩,h2⟩:=h;exact zAr (zSF ((iha o hu).e _ h1).1 ((ihb o hu).e _ h2).1) fun _=>rfl
  | neg a iha =>
    refine Good.of (fun e h=>?_) (fun _=>rfl) (fun _=>rfl) (fun _=>rfl) fun _=>rfl
    obtain ⟨z1,_,_,rfl,hq1⟩:=zDV h;obtain ⟨rfl,hq2⟩:=zDr hq1;replace h:=hq2;exact zAr (zSA ((iha o hu).e _ h).1) fun _=>rfl
  | not a iha =>
    refine Good.of (fun e h=>?_) (fun _=>rfl) (fun _=>rfl) (fun _=>rfl) fun _=>rfl
    obtain ⟨z1,_,_,rfl,hq1⟩:=zDV h;obtain ⟨rfl,hq2⟩:=zDr hq1;replace h:=hq2;exact ⟨zR8 ((iha o hu).e _ h).1,zRq ((iha o hu).e _ h).2⟩
  | cmp op a b iha ihb =>
    refine Good.of (fun e h=>?_) (fun _=>rfl) (fun _=>rfl) (fun _=>rfl) fun _=>rfl
    obtain ⟨_,z1,z2,_,rfl,hq1⟩:=zDW h;obtain ⟨_,rfl,hq2⟩:=zAt hq1;obtain ⟨_,rfl,hq3⟩:=zAt hq2;replace h:=hq3;simp only [and_eq_true,cmB,decide_eq_true_eq] at h;obtain ⟨⟨rfl,h1⟩,h2⟩:=h;exact zPg hu ((iha o hu).e _ h1).1 ((ihb o hu).e _ h2).1
  | andl es ih =>
    refine Good.of (fun e h=>?_) (fun _=>rfl) (fun _=>rfl) (fun _=>rfl) fun _=>rfl
    obtain ⟨z1,l,pos,rfl,hq1⟩:=zDt h;obtain ⟨rfl,hq2⟩:=zDr hq1;replace h:=hq2;cases l with
    | nil =>
      have z:∀ δ,evAnd Γ es δ=none:=fun δ=>by cases es<;>first | rfl | exact (zzf h)
      exact ⟨zCK z,zGn z⟩
    | cons x xs =>
      have q:=(((ih o hu).es _ h).2 (by simp) pos).1;exact ⟨q.1,q.2.pt⟩
  | orl es ih =>
    refine Good.of (fun e h=>?_) (fun _=>rfl) (fun _=>rfl) (fun _=>rfl) fun _=>rfl
    obtain ⟨z1,l,pos,rfl,hq1⟩:=zDt h;obtain ⟨rfl,hq2⟩:=zDr hq1;replace h:=hq2;cases l with
    | nil =>
      have z:∀ δ,evOr Γ es δ=none:=fun δ=>by cases es<;>first | rfl | exact (zzf h)
      exact ⟨zCK z,zGn z⟩
    | cons x xs =>
      have q:=(((ih o hu).es _ h).2 (by simp) pos).2;exact ⟨q.1,q.2.pt⟩
  | ite c a b ihc iha ihb =>
    refine Good.of (fun e h=>?_) (fun _=>rfl) (fun _=>rfl) (fun _=>rfl) fun _=>rfl
    obtain ⟨_,_,_,_,rfl,hq1⟩:=zIK h;replace h:=hq1;simp only [and_eq_true] at h;obtain ⟨⟨h0,h1⟩,h2⟩:=h;exact ⟨zSC ((ihc o hu).e _ h0).2 ((iha o hu).e _ h1).1 ((ihb o hu).e _ h2).1,zRr ((ihc o hu).e _ h0).2 ((iha o hu).e _ h1).2 ((ihb o hu).e _ h2).2⟩
  | tup es ih =>
    refine Good.of (fun e h=>?_) (fun _=>rfl) (fun _=>rfl) (fun _=>rfl) fun _=>rfl
    obtain ⟨_,_,_,rfl,hq1⟩:=zEV h;replace h:=hq1;exact zAr (zR6 ((ih o hu).es _ h).1.1) fun _=>rfl
  | lst es ih =>
    refine Good.of (fun e h=>?_) (fun _=>rfl) (fun _=>rfl) (fun _=>rfl) fun _=>rfl
    obtain ⟨_,_,rfl,hq1⟩:=zFs h;replace h:=hq1;exact zAr (zSB ((ih o hu).es _ h).1.1) fun _=>rfl
  | ix a b iha ihb =>
    refine Good.of (fun e h=>?_) (fun _=>rfl) (fun _=>rfl) (fun _=>rfl) fun _=>rfl
    obtain ⟨_,_,_,rfl,hq1⟩:=zBh h;replace h:=hq1;simp only [and_eq_true] at h;obtain ⟨⟨h0,h1⟩,h2⟩:=h;exact zAr (zTj ((iha o hu).e _ h1).1 ((ihb o hu).e _ h2).1 (zEW h0)) fun _=>rfl
  | sl a lo hi iha ihl ihh =>
    refine Good.of (fun e h=>?_) (fun _=>rfl) (fun _=>rfl) (fun _=>rfl) fun _=>rfl
    obtain ⟨_,z1,_,rfl,hq1⟩:=zBh h;obtain ⟨_,_,z2,_,rfl,hq2⟩:=zIJ hq1;obtain ⟨rfl,hq3⟩:=zJQ hq2;replace h:=hq3;simp only [and_eq_true] at h;obtain ⟨⟨h0,h1⟩,h2⟩:=h;exact zAr (zTh ((iha o hu).e _ h0).1 ((ihl o hu).o _ h1) ((ihh o hu).o _ h2)) fun _=>rfl
  | call n f es ih =>
    refine Good.of (fun e h=>?_) (fun _=>rfl) (fun _=>rfl) (fun _=>rfl) fun _=>rfl
    obtain ⟨z1,_,z2,_,rfl,hq1⟩:=zAT h;obtain ⟨_,_,rfl,hq2⟩:=zAF hq1;obtain ⟨rfl,hq3⟩:=zAp hq2;replace h:=hq3;simp only [and_eq_true,decide_eq_true_eq] at h;obtain ⟨⟨⟨rfl,h2⟩,h3⟩,h4⟩:=h;exact zAr (zTl o (zEa h2) (zCI h3).1 ((ih o hu).es _ h4).1.1 (zK2 h4) fun e δ=>by subst e;exact zQL h4 δ) fun _=>rfl
  | lend n f es ih =>
    exact Good.of (fun e h=>(zzf h)) (fun _=>rfl) (fun _=>rfl) (fun _=>rfl) fun _=>rfl
  | len a iha =>
    refine Good.of (fun e h=>?_) (fun _=>rfl) (fun _=>rfl) (fun _=>rfl) fun _=>rfl
    obtain ⟨z1,z2,z3,_,rfl,hq1⟩:=zAT h;obtain ⟨_,_,rfl,hq2⟩:=zAF hq1;obtain ⟨_,rfl,hq3⟩:=zAt hq2;obtain ⟨rfl,hq4⟩:=zAp hq3;replace h:=hq4;simp only [and_eq_true,decide_eq_true_eq] at h;obtain ⟨⟨⟨rfl,h2⟩,h3⟩,h4⟩:=h;obtain ⟨g1,g2⟩:=zA7 o h2;exact zAr (zSG zGI zOm g1 g2 PySem.boot_len ((iha o hu).e _ h4).1 (zAG h3) (by decide) (by decide)) fun _=>rfl
  | sum a iha =>
    exact Good.of (fun e h=>(zzf h)) (fun _=>rfl) (fun _=>rfl) (fun _=>rfl) fun _=>rfl
  | abs a iha =>
    refine Good.of (fun e h=>?_) (fun _=>rfl) (fun _=>rfl) (fun _=>rfl) fun _=>rfl
    obtain ⟨z1,z2,z3,_,rfl,hq1⟩:=zAT h;obtain ⟨_,_,rfl,hq2⟩:=zAF hq1;obtain ⟨_,rfl,hq3⟩:=zAt hq2;obtain ⟨rfl,hq4⟩:=zAp hq3;replace h:=hq4;simp only [and_eq_true,decide_eq_true_eq] at h;obtain ⟨⟨⟨rfl,h2⟩,h3⟩,h4⟩:=h;obtain ⟨g1,g2⟩:=zA7 o h2;exact zAr (zSG zMv zOp g1 g2 boot_abs ((iha o hu).e _ h4).1 (zAG h3) (by decide) (by decide)) fun _=>rfl
  | list a iha =>
    refine Good.of (fun e h=>?_) (fun _=>rfl) (fun _=>rfl) (fun _=>rfl) fun _=>rfl
    obtain ⟨z1,z2,z3,_,rfl,hq1⟩:=zAT h;obtain ⟨_,_,rfl,hq2⟩:=zAF hq1;obtain ⟨_,rfl,hq3⟩:=zAt hq2;obtain ⟨rfl,hq4⟩:=zAp hq3;replace h:=hq4;simp only [and_eq_true,decide_eq_true_eq] at h;obtain ⟨⟨⟨rfl,h2⟩,h3⟩,h4⟩:=h;obtain ⟨g1,g2⟩:=zA7 o h2;exact zAr (zTg zGH zLo g1 g2 boot_list ((iha o hu).e _ h4).1 (zAG h3) (by decide) (by decide)) fun _=>rfl
  | max a b iha ihb =>
    refine Good.of (fun e h=>?_) (fun _=>rfl) (fun _=>rfl) (fun _=>rfl) fun _=>rfl
    obtain ⟨z1,z2,z3,_,rfl,hq1⟩:=zAT h;obtain ⟨_,_,rfl,hq2⟩:=zAF hq1;obtain ⟨_,_,rfl,hq3⟩:=zDv hq2;obtain ⟨rfl,hq4⟩:=zAp hq3;replace h:=hq4;simp only [and_eq_true,decide_eq_true_eq] at h;obtain ⟨⟨⟨⟨⟨rfl,h2⟩,h3⟩,h4⟩,h5⟩,h6⟩:=h;obtain ⟨g1,g2⟩:=zA7 o h2;exact zAr (zTn (zKz o.calm) (fun x y z e=>by
      unfold maxD at e;split at e
      . cases e;exact ⟨_,_,rfl,rfl,rfl⟩
      . cases e) g1 g2 boot_max ((iha o hu).e _ h5).1 ((ihb o hu).e _ h6).1 (zAG h3) (zAG h4) (by decide) (by decide)) fun _=>rfl
  | min a b iha ihb =>
    exact Good.of (fun e h=>(zzf h)) (fun _=>rfl) (fun _=>rfl) (fun _=>rfl) fun _=>rfl
  | isi t a iha =>
    refine Good.of (fun e h=>?_) (fun _=>rfl) (fun _=>rfl) (fun _=>rfl) fun _=>rfl
    obtain ⟨z1,z2,z3,_,rfl,hq1⟩:=zAT h;obtain ⟨_,_,rfl,hq2⟩:=zAF hq1;obtain ⟨_,z4,rfl,hq3⟩:=zDv hq2;obtain ⟨_,_,rfl,hq4⟩:=zAF hq3;obtain ⟨rfl,hq5⟩:=zAp hq4;replace h:=hq5;simp only [and_eq_true,decide_eq_true_eq] at h;obtain ⟨⟨⟨⟨⟨rfl,rfl⟩,h2⟩,h3⟩,h4⟩,h5⟩:=h;obtain ⟨g1,g2⟩:=zA7 o h2;obtain ⟨g3,g4⟩:=zA7 o h3;exact zAr (zSD g1 g2 g3 g4 ((iha o hu).e _ h5).1 (zAG h4)) fun _=>rfl
  | chn op op' a b c iha ihb ihc =>
    refine Good.of (fun e h=>?_) (fun _=>rfl) (fun _=>rfl) (fun _=>rfl) fun _=>rfl
    obtain ⟨_,z1,z2,_,rfl,hq1⟩:=zDW h;obtain ⟨_,_,rfl,hq2⟩:=zDv hq1;obtain ⟨_,_,rfl,hq3⟩:=zDv hq2;replace h:=hq3;simp only [and_eq_true,cmB,decide_eq_true_eq] at h;obtain ⟨⟨⟨⟨⟨⟨rfl,rfl⟩,h1⟩,h2⟩,h3⟩,h4⟩,h5⟩:=h;have k:∀ {op:CmpOp},chB op=true->∃ r,OpR X (compareOp op) r/\OpD X.K r (cmpD op):=fun {op} q=>by
      cases op with
      | Lt=>exact ⟨_,zRI,zBC (zBc rfl)⟩
      | LtE=>exact ⟨_,zRJ,zBC (zBc rfl)⟩
      | Gt=>exact ⟨_,zRL,zBC (zBc rfl)⟩
      | GtE=>exact ⟨_,zRN,zBC (zBc rfl)⟩
      | _=>exact absurd q (by decide)
    obtain ⟨r,a1,a2⟩:=k h1;obtain ⟨r',b1,b2⟩:=k h2;exact zMN a1 b1 a2 b2 h2 ((iha o hu).e _ h3).1 ((ihb o hu).e _ h4).1 ((ihc o hu).e _ h5).1
  | callv i a iha =>
    refine Good.of (fun e h=>?_) (fun _=>rfl) (fun _=>rfl) (fun _=>rfl) fun _=>rfl
    obtain ⟨z1,z2,z3,_,rfl,hq1⟩:=zAT h;obtain ⟨_,_,rfl,hq2⟩:=zAF hq1;obtain ⟨_,rfl,hq3⟩:=zAt hq2;obtain ⟨rfl,hq4⟩:=zAp hq3;replace h:=hq4;simp only [and_eq_true,decide_eq_true_eq] at h;obtain ⟨⟨⟨⟨h1,h2⟩,h3⟩,h4⟩,h5⟩:=h;obtain ⟨d1,d2⟩:=zCI h3;exact zAr (zMO o.g.lm o.room h1 (zGT h2) d1 d2 ((iha o hu).e _ h5).1 (zAG h4) o.own) fun _=>rfl
  | nin a b c iha ihb ihc =>
    exact Good.of (fun e h=>(zzf h)) (fun _=>rfl) (fun _=>rfl) (fun _=>rfl) fun _=>rfl
  | lrev a iha =>
    refine Good.of (fun e h=>?_) (fun _=>rfl) (fun _=>rfl) (fun _=>rfl) fun _=>rfl
    obtain ⟨z1,z2,z3,_,rfl,hq1⟩:=zAT h;obtain ⟨_,_,rfl,hq2⟩:=zAF hq1;obtain ⟨z4,rfl,hq3⟩:=zAt hq2;obtain ⟨z5,z6,z7,_,rfl,hq4⟩:=zAT hq3;obtain ⟨_,_,rfl,hq5⟩:=zAF hq4;obtain ⟨_,rfl,hq6⟩:=zAt hq5;obtain ⟨rfl,hq7⟩:=zAp hq6;obtain ⟨rfl,hq8⟩:=zAp hq7;replace h:=hq8;simp only [and_eq_true,decide_eq_true_eq] at h;obtain ⟨⟨⟨⟨⟨rfl,rfl⟩,h2⟩,h3⟩,h4⟩,h5⟩:=h;obtain ⟨g1,g2⟩:=zA7 o h2;obtain ⟨g3,g4⟩:=zA7 o h3;exact zAr (zIX o.calm g1 g2 g3 g4 ((iha o hu).e _ h5).1 (zAG h4)) fun _=>rfl
  | tupl a iha =>
    exact Good.of (fun e h=>(zzf h)) (fun _=>rfl) (fun _=>rfl) (fun _=>rfl) fun _=>rfl
  | isa ys a iha =>
    exact Good.of (fun e h=>(zzf h)) (fun _=>rfl) (fun _=>rfl) (fun _=>rfl) fun _=>rfl
  | isc y a iha =>
    exact Good.of (fun e h=>(zzf h)) (fun _=>rfl) (fun _=>rfl) (fun _=>rfl) fun _=>rfl
  | comp1 n ms x src c el ihs ihc ihe =>
    refine Good.of (fun e h=>?_) (fun _=>rfl) (fun _=>rfl) (fun _=>rfl) fun _=>rfl
    obtain ⟨tg,iter,elt,ifs,scope,pos,rfl,q⟩:=zHw o (ihs o hu) (fun o'=>ihc o' (zCx o')) (fun o'=>ihe o' (zCx o')) h;exact zAr (zGo o.calm q.hi q.hs q.cs q.hm q.hg q.hc q.he) fun _=>rfl
  | comp2 n ms x x2 src c el ihs ihc ihe =>
    refine Good.of (fun e h=>?_) (fun _=>rfl) (fun _=>rfl) (fun _=>rfl) fun _=>rfl
    obtain ⟨tg,iter,elt,ifs,scope,pos,rfl,q⟩:=zHv o (ihs o hu) (fun o'=>ihc o' (zCx o')) (fun o'=>ihe o' (zCx o')) h;exact zAr (zGo o.calm q.hi q.hs q.cs q.hm q.hg q.hc q.he) fun _=>rfl
  | lzip a b iha ihb =>
    refine Good.of (fun e h=>?_) (fun _=>rfl) (fun _=>rfl) (fun _=>rfl) fun _=>rfl
    obtain ⟨z1,z2,z3,_,rfl,hq1⟩:=zAT h;obtain ⟨_,_,rfl,hq2⟩:=zAF hq1;obtain ⟨z4,rfl,hq3⟩:=zAt hq2;obtain ⟨z5,z6,z7,_,rfl,hq4⟩:=zAT hq3;obtain ⟨_,_,rfl,hq5⟩:=zAF hq4;obtain ⟨_,_,rfl,hq6⟩:=zDv hq5;obtain ⟨rfl,hq7⟩:=zAp hq6;obtain ⟨rfl,hq8⟩:=zAp hq7;replace h:=hq8;simp only [and_eq_true,decide_eq_true_eq] at h;obtain ⟨⟨⟨⟨⟨⟨⟨rfl,rfl⟩,h2⟩,h3⟩,h4⟩,h5⟩,h6⟩,h7⟩:=h;obtain ⟨g1,g2⟩:=zA7 o h2;obtain ⟨g3,g4⟩:=zA7 o h3;exact zAr (zIW o.calm g1 g2 g3 g4 ((iha o hu).e _ h6).1 ((ihb o hu).e _ h7).1 (zAG h4) (zAG h5)) fun _=>rfl
  | t1 o1 a iha =>
    exact Good.of (fun e h=>(zzf h)) (fun _=>rfl) (fun _=>rfl) (fun _=>rfl) fun _=>rfl
  | t2 o2 a b iha ihb =>
    exact Good.of (fun e h=>(zzf h)) (fun _=>rfl) (fun _=>rfl) (fun _=>rfl) fun _=>rfl
  | its a iha =>
    refine Good.ofI (fun it h=>?_) (fun _=>rfl) (fun _=>rfl) (fun _=>rfl) fun _=>rfl
    replace h:(zGk it&&cE a X.env.scope X.N bs it)=true:=h;simp only [and_eq_true] at h;exact ⟨fun tg=>zR2 ((iha o hu).e _ h.2).1,zDL h.1⟩
  | it a iha =>
    refine Good.ofI (fun it h=>?_) (fun _=>rfl) (fun _=>rfl) (fun _=>rfl) fun _=>rfl
    replace h:(zGk it&&cE a X.env.scope X.N bs it)=true:=h;simp only [and_eq_true] at h;exact ⟨fun tg=>zR3 ((iha o hu).e _ h.2).1,zDL h.1⟩
  | r1 a iha =>
    refine Good.ofI (fun it h=>?_) (fun _=>rfl) (fun _=>rfl) (fun _=>rfl) fun _=>rfl
    obtain ⟨z1,z2,z3,_,rfl,hq1⟩:=zAT h;obtain ⟨_,_,rfl,hq2⟩:=zAF hq1;obtain ⟨_,rfl,hq3⟩:=zAt hq2;obtain ⟨rfl,hq4⟩:=zAp hq3;replace h:=hq4;simp only [and_eq_true,decide_eq_true_eq] at h;obtain ⟨⟨⟨rfl,h2⟩,h3⟩,h4⟩:=h;obtain ⟨g1,g2⟩:=zA7 o h2;exact ⟨fun tg=>zKN g1 g2 ((iha o hu).e _ h4).1 (zAG h3),fun _=>rfl⟩
  | r2 a b iha ihb =>
    refine Good.ofI (fun it h=>?_) (fun _=>rfl) (fun _=>rfl) (fun _=>rfl) fun _=>rfl
    obtain ⟨z1,z2,z3,_,rfl,hq1⟩:=zAT h;obtain ⟨_,_,rfl,hq2⟩:=zAF hq1;obtain ⟨_,_,rfl,hq3⟩:=zDv hq2;obtain ⟨rfl,hq4⟩:=zAp hq3;replace h:=hq4;simp only [and_eq_true,decide_eq_true_eq] at h;obtain ⟨⟨⟨⟨⟨rfl,h2⟩,h3⟩,h4⟩,h5⟩,h6⟩:=h;obtain ⟨g1,g2⟩:=zA7 o h2;exact ⟨fun tg=>zKM g1 g2 ((iha o hu).e _ h5).1 ((ihb o hu).e _ h6).1 (zAG h3) (zAG h4),fun _=>rfl⟩
  | r3 a b c iha ihb ihc =>
    refine Good.ofI (fun it h=>?_) (fun _=>rfl) (fun _=>rfl) (fun _=>rfl) fun _=>rfl
    obtain ⟨z1,z2,z3,_,rfl,hq1⟩:=zAT h;obtain ⟨_,_,rfl,hq2⟩:=zAF hq1;obtain ⟨_,_,_,rfl,hq3⟩:=zRQ hq2;obtain ⟨rfl,hq4⟩:=zAp hq3;replace h:=hq4;simp only [and_eq_true,decide_eq_true_eq] at h;obtain ⟨⟨⟨⟨⟨⟨⟨rfl,h2⟩,h3⟩,h4⟩,h4'⟩,h5⟩,h6⟩,h7⟩:=h;obtain ⟨g1,g2⟩:=zA7 o h2;exact ⟨fun tg=>zKL g1 g2 ((iha o hu).e _ h5).1 ((ihb o hu).e _ h6).1 ((ihc o hu).e _ h7).1 (zAG h3) (zAG h4) (zAG h4'),fun _=>rfl⟩
  | nil =>
    refine ⟨fun e h=>(zzf h),fun es h=>?_,fun oe h=>?_,fun it h=>(zzf h),fun ifs h=>?_⟩
    . cases es with
      | nil=>exact ⟨⟨zSJ,zPo⟩,fun z=>absurd rfl z⟩
      | cons x xs=>exact (zzf h)
    . cases oe with
      | none=>exact zPb
      | some x=>exact (zzf h)
    . cases ifs with
      | nil=>exact zPj
      | cons x xs=>exact (zzf h)
  | cons e es ihe ihs =>
    refine ⟨fun e h=>(zzf h),fun l h=>?_,fun oe h=>?_,fun it h=>(zzf h),fun ifs h=>?_⟩
    . cases l with
      | nil=>exact (zzf h)
      | cons x xs =>
        replace h:(zAc x&&cE e X.env.scope X.N bs x&&cEs es X.env.scope X.N bs xs)=true:=h;simp only [and_eq_true] at h;obtain ⟨⟨h1,h2⟩,h3⟩:=h;obtain ⟨q1,q2⟩:=(ihe o hu).e _ h2;refine ⟨⟨zPp q1 ((ihs o hu).es _ h3).1.1 (zAG h1),zMS q1 ((ihs o hu).es _ h3).1.2 (zAG h1)⟩,fun _ pos=>?_⟩;cases xs with
        | nil =>
          have hn:es=.nil:=by cases es<;>first | rfl | exact (zzf h3)
          subst hn;exact ⟨⟨zNr q1,zIT q2⟩,zNr q1,zKC q2⟩
        | cons y ys =>
          have hc:∃ a b,es=.cons a b:=by cases es<;>first | exact ⟨_,_,rfl⟩ | exact (zzf h3)
          obtain ⟨a,b,rfl⟩:=hc;obtain ⟨⟨r1,r2⟩,r3,r4⟩:=((ihs o hu).es _ h3).2 (by simp) pos;exact ⟨⟨zSH q1 r1,zRo q2 r2⟩,zTi q1 r3,zTd q2 r4⟩
    . cases oe with
      | none=>exact (zzf h)
      | some x =>
        replace h:cE e X.env.scope X.N bs x=true:=h;exact zPa ((ihe o hu).e _ h).1
    . cases ifs with
      | nil=>exact (zzf h)
      | cons x xs =>
        cases xs with
        | nil=>exact zPi ((ihe o hu).e _ h).2
        | cons _ _=>exact (zzf h)
theorem zBf {sc:Scope}{N:List Str}{i:Nat}{x:Str}(h:varB sc N i x=true):N[i]?=some x/\Loc sc x/\Vis sc x/\(x==("__debug__":Str))=false/\(x==("__classdict__":Str))=false:=by
  unfold varB at h;simp only [and_eq_true,decide_eq_true_eq] at h;obtain ⟨⟨h1,h2⟩,h3⟩:=h;exact ⟨h1,zCt h2,zL3 h2,zCI h3⟩
theorem zQl (o:XOk X k Γ bs)(fnl:∀ x,X.fn x=true)(hxe:X.xe=fun _ _=>False)(hst:X.stack=X.env::X.outer)(hfr:X.env.frame=some X.env.locals)(a:S) :
    ((∀ st,cS X.env.scope X.N bs a st=true->GS X st (evS Γ a))/\∀ sts,cSs X.env.scope X.N bs a sts=true->GSs X sts (evSs Γ a)) /\
    (∀ st,cS X.env.scope X.N bs a st=true->GXs X st (xvS Γ a))/\∀ sts,cSs X.env.scope X.N bs a sts=true->GXss X sts (xvSs Γ a):=by
  induction a with
  | nil =>
    refine ⟨⟨fun st h=>(zzf h),fun sts h=>?_⟩,fun st h=>zAL,fun sts h=>zAL⟩;cases sts with
    | nil=>exact zPW
    | cons x xs=>exact (zzf h)
  | cons a b iha ihb =>
    refine ⟨⟨fun st h=>(zzf h),fun sts h=>?_⟩,fun st h=>zAL,fun sts h=>zAL⟩
    . cases sts with
      | nil=>exact (zzf h)
      | cons x xs =>
        replace h:(cS X.env.scope X.N bs a x&&cSs X.env.scope X.N bs b xs)=true:=h;simp only [and_eq_true] at h;exact zMK (iha.1.1 _ h.1) (ihb.1.2 _ h.2)
  | frz i r ih =>
    refine ⟨⟨fun st h=>(zzf h),fun sts h=>?_⟩,fun st h=>zAL,fun sts h=>zAL⟩
    . replace h:cSs X.env.scope X.N bs r sts=true:=h;exact zPV zSM (ih.1.2 _ h)
  | set i e =>
    refine ⟨⟨fun st h=>?_,fun sts h=>(zzf h)⟩,fun st h=>zAL,fun sts h=>zAL⟩
    . obtain ⟨z1,_,_,rfl,hq1⟩:=zBz h;obtain ⟨z2,rfl,hq2⟩:=zAt hq1;obtain ⟨_,_,rfl,hq3⟩:=zAF hq2;replace h:=hq3;simp only [and_eq_true,decide_eq_true_eq] at h;obtain ⟨⟨h2,h3⟩,h4⟩:=h;obtain ⟨v1,v2,_⟩:=zBf h2;exact zNq o.nd v1 v2 ((zCG o e).e _ h4).1 (zDx h3) (.inl (fnl _))
  | setC i e =>
    refine ⟨⟨fun st h=>?_,fun sts h=>(zzf h)⟩,fun st h=>zAL,fun sts h=>zAL⟩;obtain ⟨z1,_,_,rfl,hq1⟩:=zBz h;obtain ⟨z2,rfl,hq2⟩:=zAt hq1;obtain ⟨_,_,rfl,hq3⟩:=zAF hq2;replace h:=hq3;simp only [and_eq_true,decide_eq_true_eq] at h;obtain ⟨⟨h0,h2⟩,h4⟩:=h;obtain ⟨v1,v2,_⟩:=zBf h2;cases e with
    | comp1 n ms x src c el =>
      obtain ⟨tg,iter,elt,ifs,scope,pos,rfl,q⟩:=zHw o (zCG o src) (fun o'=>zCG o' c) (fun o'=>zCG o' el) h4;exact zKG o.calm q.hi q.hs q.cs q.hm q.hg q.hc q.he o.nd v1 v2 (.inl (fnl _))
    | comp2 n ms x x2 src c el =>
      obtain ⟨tg,iter,elt,ifs,scope,pos,rfl,q⟩:=zHv o (zCG o src) (fun o'=>zCG o' c) (fun o'=>zCG o' el) h4;exact zKG o.calm q.hi q.hs q.cs q.hm q.hg q.hc q.he o.nd v1 v2 (.inl (fnl _))
    | _=>cases h0
  | app i e =>
    refine ⟨⟨fun st h=>?_,fun sts h=>(zzf h)⟩,fun st h=>zAL,fun sts h=>zAL⟩;obtain ⟨z1,_,rfl,hq1⟩:=zDK h;obtain ⟨z2,z3,z4,_,rfl,hq2⟩:=zAT hq1;obtain ⟨z5,_,_,rfl,hq3⟩:=zBi hq2;obtain ⟨_,_,rfl,hq4⟩:=zAF hq3;obtain ⟨_,rfl,hq5⟩:=zAt hq4;obtain ⟨rfl,hq6⟩:=zAp hq5;replace h:=hq6;simp only [and_eq_true,decide_eq_true_eq] at h;obtain ⟨⟨⟨⟨rfl,h2⟩,h3⟩,h4⟩,h5⟩:=h;obtain ⟨v1,v2,v3,v4,v5⟩:=zBf h2;exact zRy v1 v3 v4 v5 ((zCG o e).e _ h5).1 (zAG h4) rfl h3
  | un2 i j e =>
    exact ⟨⟨fun st h=>(zzf h),fun sts h=>(zzf h)⟩,fun st h=>(zzf h),fun sts h=>(zzf h)⟩
  | un4 i j k l e =>
    exact ⟨⟨fun st h=>(zzf h),fun sts h=>(zzf h)⟩,fun st h=>(zzf h),fun sts h=>(zzf h)⟩
  | un3 i j k e =>
    exact ⟨⟨fun st h=>(zzf h),fun sts h=>(zzf h)⟩,fun st h=>(zzf h),fun sts h=>(zzf h)⟩
  | aug op i e =>
    refine ⟨⟨fun st h=>?_,fun sts h=>(zzf h)⟩,fun st h=>zAL,fun sts h=>zAL⟩;obtain ⟨z1,_,_,_,rfl,hq1⟩:=zEM h;obtain ⟨_,_,rfl,hq2⟩:=zAF hq1;replace h:=hq2;simp only [and_eq_true,decide_eq_true_eq,opB] at h;obtain ⟨⟨⟨rfl,h2⟩,h3⟩,h4⟩:=h;obtain ⟨v1,v2,_⟩:=zBf h2;exact zRx o.nd v1 v2 ((zCG o e).e _ h4).1 (.inl (fnl _))
  | swp i j k l =>
    exact ⟨⟨fun st h=>(zzf h),fun sts h=>(zzf h)⟩,fun st h=>(zzf h),fun sts h=>(zzf h)⟩
  | ext i e =>
    refine ⟨⟨fun st h=>?_,fun sts h=>(zzf h)⟩,fun st h=>zAL,fun sts h=>zAL⟩;obtain ⟨z1,_,rfl,hq1⟩:=zDK h;obtain ⟨z2,z3,z4,_,rfl,hq2⟩:=zAT hq1;obtain ⟨z5,_,_,rfl,hq3⟩:=zBi hq2;obtain ⟨_,_,rfl,hq4⟩:=zAF hq3;obtain ⟨_,rfl,hq5⟩:=zAt hq4;obtain ⟨rfl,hq6⟩:=zAp hq5;replace h:=hq6;simp only [and_eq_true,decide_eq_true_eq] at h;obtain ⟨⟨⟨⟨rfl,h2⟩,h3⟩,h4⟩,h5⟩:=h;obtain ⟨v1,v2,v3,v4,v5⟩:=zBf h2;exact zRw v1 v3 v4 v5 ((zCG o e).e _ h5).1 (zAG h4) rfl h3
  | ins i kk e =>
    exact ⟨⟨fun st h=>(zzf h),fun sts h=>(zzf h)⟩,fun st h=>(zzf h),fun sts h=>(zzf h)⟩
  | put i kk e =>
    exact ⟨⟨fun st h=>(zzf h),fun sts h=>(zzf h)⟩,fun st h=>(zzf h),fun sts h=>(zzf h)⟩
  | dnew i =>
    exact ⟨⟨fun st h=>(zzf h),fun sts h=>(zzf h)⟩,fun st h=>(zzf h),fun sts h=>(zzf h)⟩
  | dput i a b =>
    exact ⟨⟨fun st h=>(zzf h),fun sts h=>(zzf h)⟩,fun st h=>(zzf h),fun sts h=>(zzf h)⟩
  | ife c a b iha ihb =>
    refine ⟨⟨fun st h=>?_,fun sts h=>(zzf h)⟩,fun st h=>zAL,fun sts h=>zAL⟩
    . obtain ⟨_,_,_,_,rfl,hq1⟩:=zJT h;replace h:=hq1;simp only [and_eq_true] at h;obtain ⟨⟨h1,h2⟩,h3⟩:=h;exact zTe ((zCG o c).e _ h1).2 (iha.1.2 _ h2) (ihb.1.2 _ h3)
  | whl c b ihb =>
    refine ⟨⟨fun st h=>?_,fun sts h=>(zzf h)⟩,fun st h=>zAL,fun sts h=>zAL⟩;obtain ⟨_,_,z1,_,rfl,hq1⟩:=zII h;obtain ⟨rfl,hq2⟩:=zAp hq1;replace h:=hq2;simp only [and_eq_true] at h;exact zMM o.own ((zCG o c).e _ h.1).2 (ihb.1.2 _ h.2)
  | for1 i it b ihb =>
    refine ⟨⟨fun st h=>?_,fun sts h=>(zzf h)⟩,fun st h=>zAL,fun sts h=>zAL⟩;obtain ⟨z1,_,_,z2,_,rfl,hq1⟩:=zHc h;obtain ⟨_,_,rfl,hq2⟩:=zAF hq1;obtain ⟨rfl,hq3⟩:=zAp hq2;replace h:=hq3;simp only [and_eq_true,decide_eq_true_eq] at h;obtain ⟨⟨h2,h3⟩,h4⟩:=h;obtain ⟨v1,v2,_⟩:=zBf h2;obtain ⟨s1,s2⟩:=(zCG o it).i _ h3;exact zRv o.own o.calm (s1 _) (zKO o.nd v1 v2 (.inl (fnl _))) (ihb.1.2 _ h4) s2
  | for2 i j it b ihb =>
    exact ⟨⟨fun st h=>(zzf h),fun sts h=>(zzf h)⟩,fun st h=>(zzf h),fun sts h=>(zzf h)⟩
  | ret e =>
    refine ⟨⟨fun st h=>?_,fun sts h=>(zzf h)⟩,fun st h=>zAL,fun sts h=>zAL⟩
    . obtain ⟨z1,_,rfl,hq1⟩:=zCr h;obtain ⟨_,rfl,hq2⟩:=zDq hq1;replace h:=hq2;exact zRu ((zCG o e).e _ h).1
  | retOwn i =>
    refine ⟨⟨fun st h=>?_,fun sts h=>(zzf h)⟩,fun st h=>zAL,fun sts h=>zAL⟩;obtain ⟨z1,_,rfl,hq1⟩:=zCr h;obtain ⟨z2,rfl,hq2⟩:=zDq hq1;obtain ⟨_,_,rfl,hq3⟩:=zAF hq2;replace h:=hq3;obtain ⟨v1,v2,v3,v4,v5⟩:=zBf h;exact zKH v1 v3 v4 v5
  | retN =>
    exact ⟨⟨fun st h=>(zzf h),fun sts h=>(zzf h)⟩,fun st h=>(zzf h),fun sts h=>(zzf h)⟩
  | drop e =>
    exact ⟨⟨fun st h=>(zzf h),fun sts h=>(zzf h)⟩,fun st h=>(zzf h),fun sts h=>(zzf h)⟩
  | pass =>
    exact ⟨⟨fun st h=>(zzf h),fun sts h=>(zzf h)⟩,fun st h=>(zzf h),fun sts h=>(zzf h)⟩
  | brk =>
    exact ⟨⟨fun st h=>(zzf h),fun sts h=>(zzf h)⟩,fun st h=>(zzf h),fun sts h=>(zzf h)⟩
  | cnt =>
    exact ⟨⟨fun st h=>(zzf h),fun sts h=>(zzf h)⟩,fun st h=>(zzf h),fun sts h=>(zzf h)⟩
  | never=>exact ⟨⟨fun st _=>zHl,fun sts h=>(zzf h)⟩,fun st h=>zAL,fun sts h=>zAL⟩
  | rse c m =>
    exact ⟨⟨fun st _=>zHl,fun sts h=>(zzf h)⟩,fun st h=>zAL,fun sts h=>zAL⟩
  | tri b c i ihb =>
    exact ⟨⟨fun st h=>(zzf h),fun sts h=>(zzf h)⟩,fun st h=>(zzf h),fun sts h=>(zzf h)⟩
  | tra b c i j ihb =>
    exact ⟨⟨fun st h=>(zzf h),fun sts h=>(zzf h)⟩,fun st h=>(zzf h),fun sts h=>(zzf h)⟩
end
theorem zN4 {P:Program}{w:World}{K:W.Frag}{mg:Str->Option Value}{base:Heap}{x qual:Str}{st:Stmt}{f:Addr}{fd:FuncData}{N ps:List Str}{k:Nat}{Γ:Gm}{bs:List Str}{b:S}(F:Fun K x qual st f fd)(sc:zAD N ps (zAA st))
    (ck:cSs (zAA st) N bs b (zAB st)=true) (g:GOk P w K mg base k Γ bs):FnOk P w K mg base CX0 (k+1) f fd ps (spD K (dFun ps.length N.length (evSs Γ b))) :=
  zSL F sc fun cdv A outer s H E hr =>
    (zQl (X:=(cxOf CX0 P w K mg base N qual (zAA st) f cdv A outer s H E).nox) ⟨g,hr,rfl,sc.nd,PassesOwn.never⟩ (fun _=>rfl) rfl rfl rfl b).1.2 _ ck
def Gm.add (Γ:Gm)(x:Str)(F:List D->Option R):Gm:=⟨Γ.fns++[(x,F)],Γ.cs,Γ.xf,Γ.sub,Γ.rs,Γ.lm⟩
theorem GOk.add {P:Program}{w:World}{K:W.Frag}{mg:Str->Option Value}{base:Heap}{x:Str}{st:Stmt}{f:Addr}{fd:FuncData}{N ps:List Str}{k:Nat}{Γ:Gm}{bs:List Str}{b:S}(g:GOk P w K mg base k Γ bs)(F:Fun K x x st f fd)(sc:zAD N ps (zAA st))
    (ck:cSs (zAA st) N bs b (zAB st)=true) (m:mg x=some (.ref f)) (bi:zCC K fd ps []):GOk P w K mg base (k+1) (Γ.add x (dFun ps.length N.length (evSs Γ b))) bs:=by
  refine ⟨fun y G h=>?_,g.cs,g.bt,trivial,trivial,trivial,fun j L F e=>(g.lm j L F e).mono (Nat.le_succ k)⟩
  . rcases mem_append.mp h with h | h
    . obtain ⟨f',fd',ps',h1,h2⟩:=g.fn y G h;exact ⟨f',fd',ps',h1.mono (Nat.le_succ k),h2⟩
    . have e:(y,G)=(x,dFun ps.length N.length (evSs Γ b)):=by simpa using h
      cases e;exact ⟨f,fd,ps,zN4 F sc ck g,m,F.kp,bi⟩
theorem GOk.addN {P:Program}{w:World}{K:W.Frag}{mg:Str->Option Value}{base:Heap}{x:Str}{st:Stmt}{f:Addr}{fd:FuncData}{ps:List Str}{k:Nat}{Γ:Gm}{bs:List Str}(g:GOk P w K mg base k Γ bs)(F:Fun K x x st f fd)(m:mg x=some (.ref f))(bi:zCC K fd ps []) :
    GOk P w K mg base k (Γ.add x (fun _=>none)) bs:=by
  refine ⟨fun y G h=>?_,g.cs,g.bt,trivial,trivial,trivial,g.lm⟩
  . rcases mem_append.mp h with h | h
    . exact g.fn y G h
    . have e:(y,G)=(x,fun _=>none):=by simpa using h
      cases e;exact ⟨f,fd,ps,⟨fun vs H Q E q=>(by obtain ⟨_,_,_,_,_,q,_⟩:=q;cases q),fun A outer s H args us vs Q E hr he hb hv q=>(by obtain ⟨_,_,_,_,_,q,_⟩:=q;cases q)⟩,m,F.kp,bi⟩
theorem GOk.addR {P:Program}{w:World}{K:W.Frag}{mg:Str->Option Value}{base:Heap}{x:Str}{st:Stmt}{f:Addr}{fd:FuncData}{N ps:List Str}{k j:Nat}{Γ Γ':Gm}{bs:List Str}{b:S}(g:GOk P w K mg base k Γ bs)(g':GOk P w K mg base j Γ' bs)(hk:k<=j)(F:Fun K x x st f fd)(sc:zAD N ps (zAA st))
    (ck:cSs (zAA st) N bs b (zAB st)=true) (m:mg x=some (.ref f)) (bi:zCC K fd ps []):GOk P w K mg base (j+1) (Γ.add x (dFun ps.length N.length (evSs Γ' b))) bs:=by
  refine ⟨fun y G h=>?_,g.cs,g.bt,trivial,trivial,trivial,fun i L F e=>(g.lm i L F e).mono (by omega)⟩
  . rcases mem_append.mp h with h | h
    . obtain ⟨f',fd',ps',h1,h2⟩:=g.fn y G h;exact ⟨f',fd',ps',h1.mono (by omega),h2⟩
    . have e:(y,G)=(x,dFun ps.length N.length (evSs Γ' b)):=by simpa using h
      cases e;exact ⟨f,fd,ps,zN4 F sc ck g',m,F.kp,bi⟩
def Gm.addL (Γ:Gm)(L:LamI)(F:List D->Option R):Gm:=⟨Γ.fns,Γ.cs,Γ.xf,Γ.sub,Γ.rs,Γ.lm++[(L,F)]⟩
def lamD (n:Nat)(G:Dst->Option R):List D->Option R:=fun ds=>if ds.length=n+1/\noFs ds=true then G (ds.map fun d=>some (d,false)) else none
theorem GOk.addL {P:Program}{w:World}{K:W.Frag}{mg:Str->Option Value}{base:Heap}{k:Nat}{Γ:Gm}{bs:List Str}{L:LamI}{x:Str}{ys:List Str}{be:E}(g:GOk P w K mg base k Γ bs)(S:zIh x ys L)(ey:frN L=ys)(ck:cE be L.scope (x::ys) bs L.body=true) :
    GOk P w K mg base (k+1) (Γ.addL L (lamD ys.length (evE Γ be))) bs:=by
  refine ⟨fun y G h=>let ⟨f,fd,ps,h1,h2⟩:=g.fn y G h;⟨f,fd,ps,h1.mono (Nat.le_succ k),h2⟩,g.cs,g.bt,trivial,trivial,trivial,fun j L' F e=>?_⟩;have e':(Γ.lm++[(L,lamD ys.length (evE Γ be))])[j]?=some (L',F):=e;by_cases q:j < Γ.lm.length
  . rw [getElem?_append_left q] at e';exact (g.lm j L' F e').mono (Nat.le_succ k)
  . rw [getElem?_append_right (by omega)] at e';have q2:j - Γ.lm.length=0:=by
      by_cases z:j - Γ.lm.length=0
      . exact z
      . rw [getElem?_eq_none (by simp;omega)] at e';cases e'
    rw [q2] at e';cases e';refine zPF S ey fun Y e1 e2 e3 e4 e5 hr hc hN hs hx=>?_
    subst e1 e2 e3 e4 e5;rw [<- hN,<- hs] at ck;exact ((zCG (X:=Y) ⟨g,hr,hc,by rw [hN];exact S.nd,by rw [hx];exact PassesOwn.never⟩ be).e _ ck).1
theorem zM2 {u:Value}{v:V}(h:absV u=some v):RelV v u:=by
  unfold absV at h;split at h<;>first | (cases h;rfl) | (cases h;exact ⟨_,rfl⟩) | cases h
theorem zHG:∀ {us:List Value} {vs:List V},us.map absV=vs.map some->Vals vs us
  | [],[],_=>.nil
  | [],_::_,h=>by simp at h
  | _::_,[],h=>by simp at h
  | u::us,v::vs,h=>by
    simp only [map_cons,List.cons.injEq] at h;exact .cons (zM2 h.1) (zHG h.2)
theorem zHm {K:W.Frag}{mg:Str->Option Value}{x:Str}{a:Addr}{od:Option Addr}{its:Array Value}{n:Nat}{sl:Array (Option Value)}{ns:List Int}(m:mg x=some (.ref a))(l:K.lookup a=some ⟨.type "tuple",od,.seq its n,sl⟩)
    (h:its.toList.map absV=(ns.map V.int).map some) (hl:ns.length<=1000:=by decide):∃ u v,mg x=some u/\RelV v u/\Den K (fun _=>none) (.tup (ns.map D.int)) v:=by
  refine ⟨_,.ref a,m,rfl,?_⟩;rw [Den];refine ⟨a,ns.map V.int,rfl,.inr ⟨_,its,n,l,rfl,rfl,?_,zHG h⟩,DenL.ints ns⟩;have e:=congrArg List.length h;rw [length_map,length_map,length_map] at e;have e2:its.size=ns.length:=e;rw [e2];exact Nat.le_of_lt (zIw hl)
end DL
end
section
namespace DL
open PySem L2
theorem zGu {Γ:Gm}{i:Nat}:evE Γ (.var i)=varD i:=rfl
theorem zMi {Γ:Gm}{n:Nat}{x:Str}:evE Γ (.glob n x)=zF3 Γ n x:=rfl
theorem zQB {Γ:Gm}{a:E}:evE Γ (.neg a)=negD (evE Γ a):=rfl
theorem zQA {Γ:Gm}{a:E}:evE Γ (.not a)=notD (evE Γ a):=rfl
theorem zGv {Γ:Gm}{e a b:E}:evAnd Γ (.cons e (.cons a b))=andD (evE Γ e) (evAnd Γ (.cons a b)):=rfl
theorem zIa {Γ:Gm}{e a b:E}:evOr Γ (.cons e (.cons a b))=orD (evE Γ e) (evOr Γ (.cons a b)):=rfl
theorem zQD {Γ:Gm}{c:E}{a:E}{b:E}:evE Γ (.ite c a b)=iteD (evE Γ c) (evE Γ a) (evE Γ b):=rfl
theorem zKd {Γ:Gm}{e:E}{es:E}:evEs Γ (.cons e es)=zMr (evE Γ e) (evEs Γ es):=rfl
theorem zP9 {Γ:Gm}{es:E}:evE Γ (.tup es)=tupD (evEs Γ es):=rfl
theorem zQC {Γ:Gm}{es:E}:evE Γ (.lst es)=lstD (evEs Γ es):=rfl
theorem zMj {Γ:Gm}{n:Nat}{f:Str}{es:E}:evE Γ (.call n f es)=fnD Γ n f (evEs Γ es):=rfl
theorem zSY {Γ:Gm}{a:E}{lo:E}{hi:E}:evE Γ (.sl a lo hi)=slD (evE Γ a) (evO Γ lo) (evO Γ hi):=rfl
theorem zMd {Γ:Gm}{e:E}{u1:E}:evO Γ (.cons e u1)=zJN (evE Γ e):=rfl
theorem zKY {Γ:Gm}{a:S}{b:S}:evSs Γ (.cons a b)=seqD (evS Γ a) (evSs Γ b):=rfl
theorem zHp {Γ:Gm}{i:Nat}{r:S}:evSs Γ (.frz i r)=seqD (frzD i) (evSs Γ r):=rfl
theorem zP1 {Γ:Gm}{i:Nat}{e:E}:evS Γ (.set i e)=setD i (evE Γ e):=rfl
theorem zMc {Γ:Gm}{i:Nat}{e:E}:evS Γ (.setC i e)=setD i (evE Γ e):=rfl
theorem zP5 {Γ:Gm}{i:Nat}{e:E}:evS Γ (.app i e)=appD i (evE Γ e):=rfl
theorem zP3 {Γ:Gm}{c:E}{a:S}{b:S}:evS Γ (.ife c a b)=ifD (asB (evE Γ c)) (evSs Γ a) (evSs Γ b):=rfl
theorem zP2 {Γ:Gm}{e:E}:evS Γ (.ret e)=retD (evE Γ e):=rfl
theorem zIZ {Γ:Gm}{i:Nat}:evS Γ (.retOwn i)=zDn i:=rfl
theorem zSX {Γ:Gm}{e:E}:evI Γ (.it e)=zF0 (evE Γ e):=rfl
theorem zSW {Γ:Gm}{a:E}:evI Γ (.r1 a)=zI5 (evE Γ a):=rfl
theorem zSV {Γ:Gm}{a:E}{b:E}{c:E}:evI Γ (.r3 a b c)=zI4 (evE Γ a) (evE Γ b) (evE Γ c):=rfl
theorem zKf {Γ:Gm}{n:Nat}{ms:List Nat}{u2:Str}{src:E}{c:E}{e:E}:evE Γ (.comp1 n ms u2 src c e)=zFK ms 1 (evI Γ src) (tg1 n) (evC Γ c) (evE Γ e):=rfl
theorem zQE {Γ:Gm}{op:CmpOp}{op':CmpOp}{a:E}{b:E}{c:E}:evE Γ (.chn op op' a b c)=chD (cmpD op) (cmpD op') (evE Γ a) (evE Γ b) (evE Γ c):=rfl
theorem zP4 {Γ:Gm}{i:Nat}{e:E}:evS Γ (.ext i e)=extD i (evE Γ e):=rfl
theorem zMh {Γ:Gm}{a:E}:evE Γ (.lrev a)=one (evE Γ a) revD:=rfl
theorem zDQ {Γ:Gm}:evC Γ .nil=fun _=>some true:=rfl
def EvP {α:Type}(o:Option α)(Q:α->Prop):Prop:=∃ r,o=some r/\Q r
section
variable {α β:Type}{Γ:Gm}{δ:Dst}
theorem EvP.bind {o:Option α}{f:α->Option β}{Q:β->Prop}(h:EvP o fun a=>EvP (f a) Q):EvP (o.bind f) Q:=by
  obtain ⟨a,e,b,e2,q⟩:=h;exact ⟨b,by rw [e];exact e2,q⟩
theorem EvP.eq {o:Option α}{r:α}(h:EvP o fun x=>x=r):o=some r:=by
  obtain ⟨x,e,rfl⟩:=h;exact e
theorem EvP.imp {o:Option α}{Q Q':α->Prop}(h:EvP o Q)(i:∀ x,Q x->Q' x):EvP o Q':=by
  obtain ⟨x,e,q⟩:=h;exact ⟨x,e,i x q⟩
def CB (b:Bool)(A B:Prop):Prop:=if b=true then A else B
theorem zBJ {p:Prop}[Decidable p]{A B:Prop}(h1:p->A)(h2:¬ p->B):CB (decide p) A B:=by
  unfold CB;by_cases h:p
  . rw [if_pos (decide_eq_true h)];exact h1 h
  . rw [if_neg (by simpa using h)];exact h2 h
theorem cb_t {A B:Prop}(h:A):CB true A B:=h
theorem cb_f {A B:Prop}(h:B):CB false A B:=by unfold CB;rw [if_neg Bool.false_ne_true];exact h
theorem zBs {p:Prop}[Decidable p]{A B:Prop}(hp:p)(h:A):CB (decide p) A B:=zBJ (fun _=>h) fun n=>absurd hp n
theorem zCQ {p:Prop}[Decidable p]{A B:Prop}(hp:¬ p)(h:B):CB (decide p) A B:=zBJ (fun n=>absurd n hp) fun _=>h
theorem zEG {b:Bool}{A B:Prop}(h:CB b B A):CB (!b) A B:=by
  cases b with
  | true=>exact cb_f h
  | false=>exact cb_t (by unfold CB at h;rw [if_neg Bool.false_ne_true] at h;exact h)
variable {Q:R->Prop}
theorem zAH {i:Nat}{d:D}(e:δ[i]?=some (some (d,false)))(h:Q (d,.cl)):EvP (evE Γ (.var i) δ) Q:=by
  rw [zGu];unfold varD;rw [e];exact ⟨_,rfl,h⟩
theorem zHo {i:Nat}{d:List D}{o:Bool}(e:δ[i]?=some (some (.lst d,o)))(h:Q (.lst d,if o then .dt else .cl)):EvP (evE Γ (.var i) δ) Q:=by
  rw [zGu];unfold varD;rw [e];cases o<;>exact ⟨_,rfl,h⟩
theorem zTv {i:Nat}{d:List D}(e:δ[i]?=some (some (.lst d,true)))(h:Q (.lst d,.dt)):EvP (evE Γ (.var i) δ) Q:=by
  rw [zGu];unfold varD;rw [e];exact ⟨_,rfl,h⟩
theorem zMX {i j:Nat}{a:E}{L:LamI}{dl:List D}{F:List D->Option R}(e:δ[i]?=some (some (.lam j L dl,false)))(el:Γ.lm[j]?=some (L,F))(h:EvP (evE Γ a δ) fun x=>x.2≠.dt/\EvP (F (x.1::dl)) fun r=>r.2≠.dt/\Q r):EvP (evE Γ (.callv i a) δ) Q:=by
  obtain ⟨x,ex,nx,r,er,nr,q⟩:=h;refine ⟨r,?_,q⟩;show zGG Γ.lm i (evE Γ a) δ=_;unfold zGG;rw [e];show ((evE Γ a δ).bind fun x=>_)=_;rw [ex];show (if x.2=.dt then none else _)=_;rw [if_neg nx];have e3:lamF Γ.lm j L (x.1::dl)=some r:=by unfold lamF;rw [el];exact (if_pos rfl).trans er
  rw [e3];show (if r.2=.dt then none else some r)=_;rw [if_neg nr]
theorem zFB {n:Nat}{x:Str}{d:D}(e:Γ.cs[n]?=some (x,d))(h:Q (d,.cl)):EvP (evE Γ (.glob n x) δ) Q:=by
  rw [zMi];unfold zF3;rw [e];exact ⟨_,if_pos rfl,h⟩
theorem zAS {i:Int}(h:Q (.int i,.cl)):EvP (evE Γ (.int i) δ) Q:=⟨_,rfl,h⟩
theorem zTw {b:Bool}(h:Q (.bl b,.cl)):EvP (evE Γ (.bl b) δ) Q:=⟨_,rfl,h⟩
theorem zNy (h:Q (.non,.cl)):EvP (evE Γ .non δ) Q:=⟨_,rfl,h⟩
theorem zF6 {f g:Dst->Option R}{o:D->D->Option R}(h:EvP (f δ) fun x=>EvP (g δ) fun y=>EvP (o x.1 y.1) Q):EvP (two f g o δ) Q:=EvP.bind (h.imp fun _ q=>EvP.bind q)
theorem zA0 {op:Operator}{a b:E}(h:EvP (evE Γ a δ) fun x=>EvP (evE Γ b δ) fun y=>EvP (binD op x.1 y.1) Q):EvP (evE Γ (.bin op a b) δ) Q:=zF6 h
theorem zBV {op:CmpOp}{a b:E}(h:EvP (evE Γ a δ) fun x=>EvP (evE Γ b δ) fun y=>EvP (cmpD op x.1 y.1) Q):EvP (evE Γ (.cmp op a b) δ) Q:=zF6 h
theorem zBA {a b:E}(h:EvP (evE Γ a δ) fun x=>EvP (evE Γ b δ) fun y=>EvP (ixD x.1 y.1) Q):EvP (evE Γ (.ix a b) δ) Q:=zF6 h
theorem zSQ {a b:E}(h:EvP (evE Γ a δ) fun x=>EvP (evE Γ b δ) fun y=>EvP (maxD x.1 y.1) Q):EvP (evE Γ (.max a b) δ) Q:=zF6 h
theorem zKW {a b:E}(h:EvP (evE Γ a δ) fun x=>EvP (evE Γ b δ) fun y=>EvP (zipD x.1 y.1) Q):EvP (evE Γ (.lzip a b) δ) Q:=zF6 h
theorem zSz {xs ys:List D}(l:xs.length=ys.length/\xs.length<=10000)(h:Q (.lst (zipT xs ys),.fr)):EvP (zipD (.lst xs) (.lst ys)) Q:=⟨_,if_pos l,h⟩
theorem zF7 {f:Dst->Option R}{o:D->Option R}(h:EvP (f δ) fun x=>EvP (o x.1) Q):EvP (one f o δ) Q:=EvP.bind h
theorem zBD {a:E}(h:EvP (evE Γ a δ) fun x=>EvP (lenD x.1) Q):EvP (evE Γ (.len a) δ) Q:=zF7 h
theorem zST {a:E}(h:EvP (evE Γ a δ) fun x=>EvP (absD x.1) Q):EvP (evE Γ (.abs a) δ) Q:=zF7 h
theorem zGt {a:E}(h:EvP (evE Γ a δ) fun x=>EvP (zIR x.1) Q):EvP (evE Γ (.list a) δ) Q:=zF7 h
theorem zD9 {t:Ty}{a:E}(h:EvP (evE Γ a δ) fun x=>EvP (isiF t x.1) Q):EvP (evE Γ (.isi t a) δ) Q:=zF7 h
theorem zTX {i:Int}(h:Q (.bl true,.cl)):EvP (isiF .int (.int i)) Q:=⟨_,rfl,h⟩
theorem zTY {i:Int}(h:Q (.bl false,.cl)):EvP (isiF .bool (.int i)) Q:=⟨_,rfl,h⟩
theorem zJ5 {ds:List D}(h:Q (.bl true,.cl)):EvP (isiF .list (.lst ds)) Q:=⟨_,rfl,h⟩
theorem zSP {a:E}(h:EvP (evE Γ a δ) fun x=>∃ i,x.1=.int i/\Q (.int (-i),.cl)):EvP (evE Γ (.neg a) δ) Q:=by
  obtain ⟨⟨d,k⟩,e,i,ei,q⟩:=h;cases ei;rw [zQB];unfold negD;rw [e];exact ⟨_,rfl,q⟩
theorem zEH {f:Dst->Option R}{b:Bool}{k:Kd}(e:f δ=some (.bl b,k)):asB f δ=some b:=by unfold asB;rw [e]
theorem zBp {a:E}(h:EvP (evE Γ a δ) fun x=>∃ b,x.1=.bl b/\Q (.bl (!b),.cl)):EvP (evE Γ (.not a) δ) Q:=by
  obtain ⟨⟨d,k⟩,e,b,eb,q⟩:=h;cases eb;rw [zQA];unfold notD;rw [zEH e];exact ⟨_,rfl,q⟩
theorem zPy {es:E}(h:EvP (evAnd Γ es δ) Q):EvP (evE Γ (.andl es) δ) Q:=h
theorem zDB {es:E}(h:EvP (evOr Γ es δ) Q):EvP (evE Γ (.orl es) δ) Q:=h
theorem zFC {e:E}(h:EvP (evE Γ e δ) Q):EvP (evAnd Γ (.cons e .nil) δ) Q:=h
theorem zDC {e:E}(h:EvP (evE Γ e δ) Q):EvP (evOr Γ (.cons e .nil) δ) Q:=h
theorem zPz {e a b:E}(h:EvP (evE Γ e δ) fun x=>∃ k,x.1=.bl k/\CB k (EvP (evAnd Γ (.cons a b) δ) Q) (Q (.bl false,.cl))):EvP (evAnd Γ (.cons e (.cons a b)) δ) Q:=by
  obtain ⟨⟨d,kd⟩,e,k,ek,q⟩:=h;cases ek;rw [zGv];unfold andD;rw [zEH e];cases k with
  | true=>exact q
  | false=>exact ⟨_,rfl,by unfold CB at q;rw [if_neg Bool.false_ne_true] at q;exact q⟩
theorem zCi {e a b:E}(h:EvP (evE Γ e δ) fun x=>∃ k,x.1=.bl k/\CB k (Q (.bl true,.cl)) (EvP (evOr Γ (.cons a b) δ) Q)):EvP (evOr Γ (.cons e (.cons a b)) δ) Q:=by
  obtain ⟨⟨d,kd⟩,e,k,ek,q⟩:=h;cases ek;rw [zIa];unfold orD;rw [zEH e];cases k with
  | true=>exact ⟨_,rfl,q⟩
  | false =>
    unfold CB at q;rw [if_neg Bool.false_ne_true] at q;obtain ⟨z,e2,q⟩:=q;exact ⟨z,e2,q⟩
theorem zNz {c a b:E}(h:EvP (evE Γ c δ) fun x=>∃ k,x.1=.bl k/\CB k (EvP (evE Γ a δ) Q) (EvP (evE Γ b δ) Q)):EvP (evE Γ (.ite c a b) δ) Q:=by
  obtain ⟨⟨d,kd⟩,e,k,ek,q⟩:=h;cases ek;rw [zQD];unfold iteD;rw [zEH e];cases k with
  | true=>exact q
  | false =>
    unfold CB at q;rw [if_neg Bool.false_ne_true] at q;exact q
theorem zAi {Q:List D->Prop}(h:Q []):EvP (evEs Γ .nil δ) Q:=⟨_,rfl,h⟩
theorem zAC {e es:E}{Q:List D->Prop}(h:EvP (evE Γ e δ) fun x=>x.2≠.dt/\EvP (evEs Γ es δ) fun xs=>Q (x.1::xs)):EvP (evEs Γ (.cons e es) δ) Q:=by
  rw [zKd];obtain ⟨x,e,nd,xs,e2,q⟩:=h;exact ⟨_,by unfold zMr;rw [e];show (if x.2=.dt then none else _)=_;rw [if_neg nd,e2];rfl,q⟩
theorem zD8 {es:E}(h:EvP (evEs Γ es δ) fun xs=>xs.length<=10000/\Q (.tup xs,.cl)):EvP (evE Γ (.tup es) δ) Q:=by
  rw [zP9];obtain ⟨xs,e,l,q⟩:=h;exact ⟨_,by unfold tupD;rw [e];exact if_pos l,q⟩
theorem zSR {es:E}(h:EvP (evEs Γ es δ) fun xs=>xs.length<=10000/\Q (.lst xs,.fr)):EvP (evE Γ (.lst es) δ) Q:=by
  rw [zQC];obtain ⟨xs,e,l,q⟩:=h;exact ⟨_,by unfold lstD;rw [e];exact if_pos l,q⟩
theorem zAQ {n:Nat}{f:Str}{es:E}{F:List D->Option R}(e:Γ.fns[n]?=some (f,F))(h:EvP (evEs Γ es δ) fun ds=>EvP (F ds) fun r=>r.2≠.dt/\Q r):EvP (evE Γ (.call n f es) δ) Q:=by
  rw [zMj];unfold fnD;rw [e];obtain ⟨ds,e1,r,e2,nd,q⟩:=h;refine ⟨r,?_,q⟩;show (if f=f then zG3 F _ δ else none)=some r;rw [if_pos rfl];unfold zG3;rw [e1];show (F ds).bind _=_;rw [e2];exact if_neg nd
theorem zPw {a lo hi:E}(h:EvP (evE Γ a δ) fun x=>EvP (evO Γ lo δ) fun l=>EvP (evO Γ hi δ) fun u=>∃ ds,x.1=.lst ds/\Q (.lst (cutD ds l u),.fr)):EvP (evE Γ (.sl a lo hi) δ) Q:=by
  rw [zSY];obtain ⟨⟨d,k⟩,e,l,e1,u,e2,ds,ed,q⟩:=h;cases ed;exact ⟨_,by unfold slD;rw [e];show (evO Γ lo δ).bind _=_;rw [e1];show (evO Γ hi δ).bind _=_;rw [e2];rfl,q⟩
theorem zSb {Q:Option Int->Prop}(h:Q none):EvP (evO Γ .nil δ) Q:=⟨_,rfl,h⟩
theorem zQF {e b:E}{Q:Option Int->Prop}(h:EvP (evE Γ e δ) fun x=>∃ i,x.1=.int i/\Q (some i)):EvP (evO Γ (.cons e b) δ) Q:=by
  rw [zMd];obtain ⟨⟨d,k⟩,e,i,ei,q⟩:=h;cases ei;exact ⟨_,by unfold zJN;rw [e],q⟩
theorem zG5 {i j:Int}(h:Q (.int (i+j),.cl)):EvP (binD .Add (.int i) (.int j)) Q:=⟨_,rfl,h⟩
theorem zMy {xs ys:List D}(l:xs.length+ys.length<=10000)(h:Q (.lst (xs++ys),.fr)):EvP (binD .Add (.lst xs) (.lst ys)) Q:=⟨_,if_pos l,h⟩
theorem zSq {i j:Int}(h:Q (.int (i - j),.cl)):EvP (binD .Sub (.int i) (.int j)) Q:=⟨_,rfl,h⟩
theorem zAw {i j:Int}(l:IntMulOk i j)(h:Q (.int (i*j),.cl)):EvP (binD .Mult (.int i) (.int j)) Q:=⟨_,by show mulD i j=_;unfold mulD;exact if_pos l,h⟩
theorem zDS {i j:Int}(l:zIi i j)(h:Q (.int (i.fdiv j),.cl)):EvP (binD .FloorDiv (.int i) (.int j)) Q:=⟨_,by show zMV i j=_;unfold zMV;exact if_pos l,h⟩
theorem zCc {i j:Int}(l:j≠0)(h:Q (.int (i.fmod j),.cl)):EvP (binD .Mod (.int i) (.int j)) Q:=⟨_,if_neg l,h⟩
theorem zSr {i j:Int}(l:0<=j/\j<=1000000/\i.natAbs < 2^64)(h:Q (.int (i^j.toNat),.cl)):EvP (binD .Pow (.int i) (.int j)) Q:=⟨_,if_pos l,h⟩
theorem c_lt {i j:Int}(h:Q (.bl (decide (i < j)),.cl)):EvP (cmpD .Lt (.int i) (.int j)) Q:=⟨_,rfl,h⟩
theorem c_le {i j:Int}(h:Q (.bl (decide (i<=j)),.cl)):EvP (cmpD .LtE (.int i) (.int j)) Q:=⟨_,rfl,h⟩
theorem c_gt {i j:Int}(h:Q (.bl (decide (j < i)),.cl)):EvP (cmpD .Gt (.int i) (.int j)) Q:=⟨_,rfl,h⟩
theorem zHs (i j:Int):EqOk (.int i) (.int j):=⟨by rw [toPy];rfl,by rw [toPy];rfl,by rw [toPy];exact zero_le _⟩
theorem zKi (i j:Int):eqb (.int i) (.int j)=decide (i=j):=by
  unfold eqb;rw [toPy,toPy];show (i==j)=decide (i=j);by_cases h:i=j<;>simp [h]
theorem zT4 {i j:Int}(h:Q (.bl (decide (i=j)),.cl)):EvP (cmpD .Eq (.int i) (.int j)) Q:=⟨_,by show eqD id _ _=_;unfold eqD;rw [if_pos (zHs i j),zKi];rfl,h⟩
theorem zG4 {i j:Int}(h:Q (.bl (!decide (i=j)),.cl)):EvP (cmpD .NotEq (.int i) (.int j)) Q:=⟨_,by show eqD _ _ _=_;unfold eqD;rw [if_pos (zHs i j),zKi],h⟩
theorem c_eq {x y:D}(l:EqOk x y)(h:Q (.bl (eqb x y),.cl)):EvP (cmpD .Eq x y) Q:=⟨_,by show eqD id _ _=_;unfold eqD;exact if_pos l,h⟩
theorem c_ne {x y:D}(l:EqOk x y)(h:Q (.bl (!eqb x y),.cl)):EvP (cmpD .NotEq x y) Q:=⟨_,by show eqD _ _ _=_;unfold eqD;exact if_pos l,h⟩
theorem zDN {ds:List D}{i:Int}{d:D}(e:atI ds i=some d)(h:Q (d,.cl)):EvP (ixD (.tup ds) (.int i)) Q:=⟨_,by show (atI ds i).map _=_;rw [e];rfl,h⟩
theorem zAz {ds:List D}{i:Int}{d:D}(e:atI ds i=some d)(h:Q (d,.cl)):EvP (ixD (.lst ds) (.int i)) Q:=⟨_,by show (atI ds i).map _=_;rw [e];rfl,h⟩
theorem zEN {ds:List D}(h:Q (.int ds.length,.cl)):EvP (lenD (.lst ds)) Q:=⟨_,rfl,h⟩
theorem zMB {ds:List D}(h:Q (.int ds.length,.cl)):EvP (lenD (.tup ds)) Q:=⟨_,rfl,h⟩
theorem zT7 {i:Int}(h:Q (.int (i.natAbs:Int),.cl)):EvP (absD (.int i)) Q:=⟨_,rfl,by
  have e:(if i < 0 then -i else i)=(i.natAbs:Int):=by split<;>omega
  rw [e];exact h⟩
theorem zNF {ds:List D}(h:Q (.lst ds,.fr)):EvP (zIR (.lst ds)) Q:=⟨_,rfl,h⟩
theorem zTP {i j:Int}(h:Q (.int (max i j),.cl)):EvP (maxD (.int i) (.int j)) Q:=⟨_,rfl,by
  have e:(if j>i then j else i)=max i j:=by split<;>omega
  rw [e];exact h⟩
end
section
variable {Γ:Gm}{δ:Dst}{Q:Out->Prop}
def Kt (Γ:Gm)(rest:S)(Q:Out->Prop):Out->Prop
  | .nx δ'=>EvP (evSs Γ rest δ') Q
  | o=>Q o
theorem k_nx {rest:S}(h:EvP (evSs Γ rest δ) Q):Kt Γ rest Q (.nx δ):=h
theorem k_rt {rest:S}{r:R}(h:Q (.rt r)):Kt Γ rest Q (.rt r):=h
theorem zAu (h:Q (.nx δ)):EvP (evSs Γ .nil δ) Q:=⟨_,rfl,h⟩
theorem zKU {f g:Dst->Option Out}(h:EvP (f δ) fun o=>match o with | .nx δ'=>EvP (g δ') Q | o=>Q o):EvP (seqD f g δ) Q:=by
  obtain ⟨o,e,q⟩:=h;unfold seqD;rw [e];cases o with
  | nx δ'=>exact q
  | rt r=>exact ⟨_,rfl,q⟩
  | bk δ'=>exact ⟨_,rfl,q⟩
  | ct δ'=>exact ⟨_,rfl,q⟩
theorem zAE {a b:S}(h:EvP (evS Γ a δ) (Kt Γ b Q)):EvP (evSs Γ (.cons a b) δ) Q:=by
  rw [zKY];refine zKU (h.imp fun o q=>?_);cases o<;>exact q
theorem zHn {i:Nat}{r:S}{d:D}(e:δ[i]?=some (some (d,true)))(h:EvP (evSs Γ r (δ.set i (some (d,false)))) Q):EvP (evSs Γ (.frz i r) δ) Q:=by
  rw [zHp];exact zKU ⟨_,by unfold frzD;rw [e],h⟩
theorem zKV {i:Nat}{r:S}{d:D}(e:δ[i]?=some (some (d,false)))(h:EvP (evSs Γ r δ) Q):EvP (evSs Γ (.frz i r) δ) Q:=by
  rw [zHp];exact zKU ⟨_,by unfold frzD;rw [e],h⟩
def ownK:Kd->Option Bool
  | .cl=>some false
  | .fr=>some true
  | .dt=>none
theorem zEb {i:Nat}{e:E}(h:EvP (evE Γ e δ) fun r=>∃ o,ownK r.2=some o/\Q (.nx (δ.set i (some (r.1,o))))):EvP (evS Γ (.set i e) δ) Q:=by
  rw [zP1];obtain ⟨⟨d,k⟩,e,o,eo,q⟩:=h;unfold setD;rw [e];cases k with
  | cl=>cases eo;exact ⟨_,rfl,q⟩
  | fr=>cases eo;exact ⟨_,rfl,q⟩
  | dt=>cases eo
theorem zGw {i:Nat}{e:E}(h:EvP (evE Γ e δ) fun r=>∃ o,ownK r.2=some o/\Q (.nx (δ.set i (some (r.1,o))))):EvP (evS Γ (.setC i e) δ) Q:=by
  rw [zMc];obtain ⟨⟨d,k⟩,e,o,eo,q⟩:=h;unfold setD;rw [e];cases k with
  | cl=>cases eo;exact ⟨_,rfl,q⟩
  | fr=>cases eo;exact ⟨_,rfl,q⟩
  | dt=>cases eo
theorem zF8 {i:Nat}{e:E}{xs:List D}(hx:δ[i]?=some (some (.lst xs,true)))(hl:xs.length<=10000)(h:EvP (evE Γ e δ) fun r=>r.2≠.dt/\Q (.nx (δ.set i (some (.lst (xs++[r.1]),true))))):EvP (evS Γ (.app i e) δ) Q:=by
  rw [zP5];obtain ⟨r,e,nd,q⟩:=h;unfold appD;rw [hx];exact ⟨_,by dsimp only;rw [e];show (if r.2=.dt then none else _)=_;rw [if_neg nd,if_pos hl],q⟩
theorem zCj {c:E}{a b:S}(h:EvP (evE Γ c δ) fun x=>∃ k,x.1=.bl k/\CB k (EvP (evSs Γ a δ) Q) (EvP (evSs Γ b δ) Q)):EvP (evS Γ (.ife c a b) δ) Q:=by
  rw [zP3];obtain ⟨⟨d,kd⟩,e,k,ek,q⟩:=h;cases ek;unfold ifD;rw [zEH e];cases k with
  | true=>exact q
  | false =>
    unfold CB at q;rw [if_neg Bool.false_ne_true] at q;exact q
theorem zCN {e:E}(h:EvP (evE Γ e δ) fun r=>r.2≠.dt/\Q (.rt r)):EvP (evS Γ (.ret e) δ) Q:=by
  rw [zP2];obtain ⟨r,e,nd,q⟩:=h;exact ⟨_,by unfold retD;rw [e];exact if_neg nd,q⟩
theorem zKg {i:Nat}{d:List D}(e:δ[i]?=some (some (.lst d,true)))(h:Q (.rt (.lst d,.fr))):EvP (evS Γ (.retOwn i) δ) Q:=by
  rw [zIZ];exact ⟨_,by unfold zDn;rw [e],h⟩
theorem zCF {c:Dst->Option Bool}{b:Dst->Option Out}(h:EvP (c δ) fun k=>CB k (EvP (b δ) fun o=>match o with
      | .nx δ'=>EvP (zBS c b δ') Q
      | .ct δ'=>EvP (zBS c b δ') Q
      | .bk δ'=>Q (.nx δ')
      | .rt r=>Q (.rt r)) (Q (.nx δ))):EvP (zBS c b δ) Q:=by
  obtain ⟨k,ek,q⟩:=h;cases k with
  | false =>
    unfold CB at q;rw [if_neg Bool.false_ne_true] at q;refine ⟨_,zCE (n:=1) (o:=.nx δ) ?_,q⟩;show (c δ).bind _=_;rw [ek];rfl
  | true =>
    obtain ⟨o,eo,q⟩:EvP (b δ) _:=q;cases o with
    | nx δ' =>
      obtain ⟨z,ez,q⟩:=q;obtain ⟨n,en⟩:=zDE ez;refine ⟨z,zCE (n:=n+1) ?_,q⟩;show (c δ).bind _=_;rw [ek,Option.bind_some,if_pos rfl,eo];exact en
    | ct δ' =>
      obtain ⟨z,ez,q⟩:=q;obtain ⟨n,en⟩:=zDE ez;refine ⟨z,zCE (n:=n+1) ?_,q⟩;show (c δ).bind _=_;rw [ek,Option.bind_some,if_pos rfl,eo];exact en
    | bk δ' =>
      refine ⟨_,zCE (n:=1) (o:=.nx δ') ?_,q⟩;show (c δ).bind _=_;rw [ek,Option.bind_some,if_pos rfl,eo];rfl
    | rt r =>
      refine ⟨_,zCE (n:=1) (o:=.rt r) ?_,q⟩;show (c δ).bind _=_;rw [ek,Option.bind_some,if_pos rfl,eo];rfl
theorem zN0 {c:E}{b:S}(h:EvP (zBS (asB (evE Γ c)) (evSs Γ b) δ) Q):EvP (evS Γ (.whl c b) δ) Q:=h
theorem as_b {c:E}{Q:Bool->Prop}(h:EvP (evE Γ c δ) fun x=>∃ k,x.1=.bl k/\Q k):EvP (asB (evE Γ c) δ) Q:=by
  obtain ⟨⟨d,kd⟩,e,k,ek,q⟩:=h;cases ek;exact ⟨k,zEH e,q⟩
theorem zB2 {i:Nat}{it:E}{b:S}(h:EvP (evI Γ it δ) fun xs=>EvP (forD (tg1 i) (evSs Γ b) xs δ) Q):EvP (evS Γ (.for1 i it b) δ) Q:=EvP.bind h
theorem zFZ {e:E}{Q:List D->Prop}(h:EvP (evE Γ e δ) fun x=>∃ ds,x.2≠.dt/\(x.1=.lst ds\/x=(.tup ds,.cl))/\Q ds):EvP (evI Γ (.it e) δ) Q:=by
  obtain ⟨⟨d,k⟩,e,ds,nd,ed,q⟩:=h;refine ⟨ds,?_,q⟩;rw [zSX];unfold zF0;rw [e];rcases ed with ed | ed
  . cases ed;cases k with
    | cl=>rfl
    | fr=>rfl
    | dt=>exact absurd rfl nd
  . cases ed;rfl
theorem w_cl {ds:List D}{P:List D->Prop}(h:P ds):∃ d,((D.lst ds,Kd.cl):R).2≠.dt/\(((D.lst ds,Kd.cl):R).1=.lst d\/((D.lst ds,Kd.cl):R)=(.tup d,.cl))/\P d:=⟨ds,(fun z=>nomatch z),.inl rfl,h⟩
theorem w_fr {ds:List D}{P:List D->Prop}(h:P ds):∃ d,((D.lst ds,Kd.fr):R).2≠.dt/\(((D.lst ds,Kd.fr):R).1=.lst d\/((D.lst ds,Kd.fr):R)=(.tup d,.cl))/\P d:=⟨ds,(fun z=>nomatch z),.inl rfl,h⟩
theorem zIB {a:E}{Q:List D->Prop}(h:EvP (evE Γ a δ) fun x=>∃ j,x.1=.int j/\(-(2^62)<=j/\j < 2^62)/\Q (rngL 0 j.toNat)):EvP (evI Γ (.r1 a) δ) Q:=by
  obtain ⟨⟨d,k⟩,e,j,ej,hj,q⟩:=h;cases ej;refine ⟨_,?_,q⟩;rw [zSW];unfold zI5;rw [e];exact if_pos hj
theorem zQj {a b c:E}{Q:List D->Prop}(h:EvP (evE Γ a δ) fun x=>EvP (evE Γ b δ) fun y=>EvP (evE Γ c δ) fun z=>∃ i j k,x.1=.int i/\y.1=.int j/\z.1=.int k/\ROk i j k/\Q (rngS i k (Builtin.Range.rangeSize i j k).toNat)):EvP (evI Γ (.r3 a b c) δ) Q:=by
  obtain ⟨⟨d,k⟩,e,⟨d2,k2⟩,e2,⟨d3,k3⟩,e3,i,j,l,ei,ej,el,hj,q⟩:=h;cases ei;cases ej;cases el;refine ⟨_,?_,q⟩;rw [zSV];unfold zI4;rw [e,e2,e3];exact if_pos hj
theorem zDD {n:Nat}{ms:List Nat}{x:Str}{src c el:E}{Q:R->Prop}(h:EvP (evI Γ src δ) fun zs=>zs.length<=10000/\EvP (zBY (tg1 n) (evC Γ c) (evE Γ el) zs (mask none ms δ++[none])) fun ys=>Q (.lst ys,.fr)):EvP (evE Γ (.comp1 n ms x src c el) δ) Q:=by
  obtain ⟨zs,e,hl,ys,e2,q⟩:=h;refine ⟨_,?_,q⟩;rw [zKf];unfold zFK;rw [e];show (if zs.length<=10000 then _ else _)=_;rw [if_pos hl];show (zBY _ _ _ zs (mask none ms δ++[none])).bind _=_;rw [e2]
  rfl
theorem zEd {n:Nat}{el:E}{base:Dst}{Q:List D->Prop}(hn:base.length=n)(g:D->D):∀ (zs:List D) (o:Option (D×Bool)),(∀ z∈zs,EvP (evE Γ el (base++[some (z,false)])) fun r=>r.2≠.dt/\r.1=g z)->Q (zs.map g)->EvP (zBY (tg1 n) (evC Γ .nil) (evE Γ el) zs (base++[o])) Q
  | [],o,_,h=>⟨_,rfl,h⟩
  | z::zs,o,hz,h=>by
    obtain ⟨r,e,nd,er⟩:=hz z mem_cons_self;obtain ⟨ys,e2,q⟩:=zEd hn g zs (some (z,false)) (Q:=fun ys=>Q (g z::ys)) (fun y hy=>hz y (mem_cons_of_mem _ hy)) h;refine ⟨_,?_,q⟩;have es:(base++[o]).set n (some (z,false))=base++[some (z,false)]:=by
      rw [set_append_right _ _ (by omega),hn,sub_self];rfl
    show (tg1 n z (base++[o])).bind _=_;unfold tg1;rw [es,Option.bind_some,zDQ,Option.bind_some,if_pos rfl,e,Option.bind_some,if_neg nd,er];show (zBY _ _ _ zs (base++[some (z,false)])).bind _=_;unfold tg1 at e2;rw [zDQ] at e2;rw [e2]
    rfl
theorem zNw {t:D->Dst->Option Dst}{b:Dst->Option Out}(h:Q (.nx δ)):EvP (forD t b [] δ) Q:=⟨_,rfl,h⟩
def Kf (t:D->Dst->Option Dst)(b:Dst->Option Out)(xs:List D)(Q:Out->Prop):Out->Prop
  | .nx δ'=>EvP (forD t b xs δ') Q
  | .ct δ'=>EvP (forD t b xs δ') Q
  | .bk δ'=>Q (.nx δ')
  | .rt r=>Q (.rt r)
theorem zKR {t:D->Dst->Option Dst}{b:Dst->Option Out}{x:D}{xs:List D}{δ1:Dst}(e:t x δ=some δ1)(h:EvP (b δ1) (Kf t b xs Q)):EvP (forD t b (x::xs) δ) Q:=by
  obtain ⟨o,eo,q⟩:=h;cases o with
  | nx δ' =>
    obtain ⟨z,ez,q⟩:EvP (forD t b xs δ') Q:=q;exact ⟨z,by show (t x δ).bind _=_;rw [e];show (b δ1).bind _=_;rw [eo];exact ez,q⟩
  | ct δ' =>
    obtain ⟨z,ez,q⟩:EvP (forD t b xs δ') Q:=q;exact ⟨z,by show (t x δ).bind _=_;rw [e];show (b δ1).bind _=_;rw [eo];exact ez,q⟩
  | bk δ'=>exact ⟨_,by show (t x δ).bind _=_;rw [e];show (b δ1).bind _=_;rw [eo];rfl,q⟩
  | rt r=>exact ⟨_,by show (t x δ).bind _=_;rw [e];show (b δ1).bind _=_;rw [eo];rfl,q⟩
theorem zCA {t:D->Dst->Option Dst}{b:Dst->Option Out}(I:List D->Dst->Prop)(hs:∀ (x:D) (xs:List D) (δ:Dst),I (x::xs) δ->∃ δ1,t x δ=some δ1/\EvP (b δ1) fun o=>match o with
      | .nx δ'=>I xs δ'
      | .ct δ'=>I xs δ'
      | .bk δ'=>Q (.nx δ')
      | .rt r=>Q (.rt r)) (hd:∀ δ,I [] δ->Q (.nx δ)):∀ (xs:List D) (δ:Dst),I xs δ->EvP (forD t b xs δ) Q
  | [],δ,h=>zNw (hd δ h)
  | x::xs,δ,h=>by
    obtain ⟨δ1,e,q⟩:=hs x xs δ h;refine zKR e (q.imp fun o z=>?_);cases o with
    | nx δ'=>exact zCA I hs hd xs δ' z
    | ct δ'=>exact zCA I hs hd xs δ' z
    | bk δ'=>exact z
    | rt r=>exact z
def Kd' (Q:R->Prop):Out->Prop
  | .rt r=>Q r
  | .nx _=>Q (.non,.cl)
  | _=>False
theorem zTt {np nN:Nat}{b:S}{ds:List D}{Q:R->Prop}(h1:ds.length=np)(h2:np<=nN)(h:EvP (evSs Γ b (ds.map (fun d=>some (d,false))++List.replicate (nN - np) none)) (Kd' Q)):EvP (dFun np nN (evSs Γ b) ds) Q:=by
  unfold dFun;rw [if_pos ⟨h1,h2⟩];obtain ⟨o,e,q⟩:=h;rw [e];cases o with
  | rt r=>exact ⟨_,rfl,q⟩
  | nx _=>exact ⟨_,rfl,q⟩
  | bk _=>exact q.elim
  | ct _=>exact q.elim
theorem zTU {Q:R->Prop}{r:R}(h:Q r):Kd' Q (.rt r):=h
end
section
variable {Γ:Gm}{δ:Dst}{Q:R->Prop}
theorem zSS {op op':CmpOp}{a b c:E}(h:EvP (evE Γ a δ) fun x=>EvP (evE Γ b δ) fun y=>EvP (cmpD op x.1 y.1) fun r=>∃ k,r.1=.bl k/\CB k (EvP (evE Γ c δ) fun z=>EvP (cmpD op' y.1 z.1) Q) (Q (.bl false,.cl))):EvP (evE Γ (.chn op op' a b c) δ) Q:=by
  rw [zQE];obtain ⟨x,ex,y,ey,⟨d,kd⟩,er,k,ek,q⟩:=h;cases ek;unfold chD;rw [ex];show EvP ((evE Γ b δ).bind _) Q;rw [ey];show EvP (match cmpD op x.1 y.1 with | some (.bl true,_)=>(evE Γ c δ).bind fun z=>cmpD op' y.1 z.1 | some (.bl false,_)=>some (.bl false,.cl) | _=>none) Q;rw [er];cases k with
  | true=>exact EvP.bind q
  | false=>unfold CB at q;rw [if_neg Bool.false_ne_true] at q;exact ⟨_,rfl,q⟩
end
theorem zSZ {Γ:Gm}{δ:Dst}{Q:Out->Prop}{i:Nat}{e:E}{xs:List D}(ei:δ[i]?=some (some (.lst xs,true)))(h:EvP (evE Γ e δ) fun r=>∃ ys,r=(.lst ys,.fr)/\xs.length+ys.length<=10000/\Q (.nx (δ.set i (some (.lst (xs++ys),true))))):EvP (evS Γ (.ext i e) δ) Q:=by
  rw [zP4];obtain ⟨r,e1,ys,rfl,hl,q⟩:=h;refine ⟨_,?_,q⟩;unfold extD;rw [ei];show (evE Γ e δ).bind _=_;rw [e1];exact if_pos hl
theorem zPx {Γ:Gm}{δ:Dst}{Q:R->Prop}{a:E}(h:EvP (evE Γ a δ) fun x=>∃ xs,x.1=.lst xs/\xs.length<=10000/\Q (.lst xs.reverse,.fr)):EvP (evE Γ (.lrev a) δ) Q:=by
  rw [zMh];obtain ⟨x,e,xs,e1,hl,q⟩:=h;refine zF7 ⟨x,e,_,?_,q⟩;rw [e1];exact if_pos hl
end DL
end
section
namespace DM
def msr (t b:Int):Int:=if b < 0 then -(Int.gcd t b:Int) else (Int.gcd t b:Int)
theorem zRU {t b:Int}(hb:b≠0):msr t b≠0:=by
  unfold msr;have h:Int.gcd t b≠0:=fun h=>hb ((Int.gcd_eq_zero_iff).mp h).2
  split<;>omega
theorem zFu (t b:Int):msr t b∣t:=by
  unfold msr;split
  . exact Int.neg_dvd.mpr (Int.gcd_dvd_left ..)
  . exact Int.gcd_dvd_left ..
theorem zJl (t b:Int):msr t b∣b:=by
  unfold msr;split
  . exact Int.neg_dvd.mpr (Int.gcd_dvd_right ..)
  . exact Int.gcd_dvd_right ..
theorem zCu {a b:Int}(h:b∣a):a.fdiv b=a / b:=by
  exact Int.fdiv_eq_ediv_of_dvd h
theorem zJk {t b:Int}(hb:b≠0):t.fdiv (msr t b)=(Rat.divInt t b).num:=by
  rw [zCu (zFu t b),Rat.num_divInt];rw [Int.gcd_comm b t];unfold msr;by_cases h:b < 0
  . rw [if_pos h,Int.sign_eq_neg_one_of_neg h,Int.ediv_neg,Int.neg_one_mul];rw [Int.neg_ediv_of_dvd (Int.gcd_dvd_left ..)]
  . rw [if_neg h,Int.sign_eq_one_of_pos (by omega),Int.one_mul]
theorem zO5 {t b:Int}(hb:b≠0):b.fdiv (msr t b)=((Rat.divInt t b).den:Int):=by
  rw [zCu (zJl t b),Rat.den_divInt,if_neg hb,Int.gcd_comm b t];unfold msr;rw [Int.natCast_ediv];by_cases h:b < 0
  . rw [if_pos h,Int.ediv_neg,<- Int.neg_ediv_of_dvd (Int.gcd_dvd_right ..)];congr 1;omega
  . rw [if_neg h];congr 1;omega
theorem zSg (t b:Int)(hb:b≠0):(Rat.divInt t b).den<=b.natAbs:=by
  rw [Rat.den_divInt,if_neg hb];exact Nat.div_le_self _ _
theorem zRR (t b:Int)(hb:b≠0):(Rat.divInt t b).num.natAbs<=t.natAbs:=by
  rw [<- zJk hb,zCu (zFu t b)];exact Int.natAbs_ediv_le_natAbs _ _
theorem zGp (q:Rat):Int.gcd q.num (q.den:Int)=1:=by
  have:=q.reduced;exact this
theorem zMQ {a b:Int}(ha:0<=a)(hb:0 < b):Int.gcd b (a.fmod b)=Int.gcd a b:=by
  rw [Int.fmod_eq_emod_of_nonneg a (by omega)];have h1:(a%b).natAbs=a.natAbs%b.natAbs:=by
    have:a%b=((a.natAbs%b.natAbs:Nat):Int):=by
      rw [Int.natCast_emod];congr 1<;>omega
    rw [this];rfl
  show Nat.gcd b.natAbs (a%b).natAbs=Nat.gcd a.natAbs b.natAbs;rw [h1,Nat.gcd_comm b.natAbs,<- Nat.gcd_rec,Nat.gcd_comm]
def nadd:List Rat->List Rat
  | a::b::r=>(a+b)::nadd r
  | l=>l
def sumR:List Rat->Rat
  | []=>0
  | a::r=>a+sumR r
theorem zCy:∀ l m:List Rat,sumR (l++m)=sumR l+sumR m
  | [],m=>by simp [sumR,Rat.zero_add]
  | a::l,m=>by simp only [cons_append,sumR,zCy l m,Rat.add_assoc]
theorem zHf:∀ l:List Rat,sumR (nadd l)=sumR l
  | []=>rfl
  | [_]=>rfl
  | a::b::r=>by simp only [nadd,sumR,zHf r,Rat.add_assoc]
theorem zHg:∀ l:List Rat,(nadd l).length=(l.length+1) / 2
  | []=>by simp [nadd]
  | [_]=>by simp [nadd]
  | a::b::r=>by simp only [nadd,length_cons,zHg r];omega
theorem zJg:∀ l:List Rat,(List.range (l.length / 2)).map (fun i=>l.getD (2*i) 0+l.getD (2*i+1) 0)++(if l.length%2=1 then [l.getD (l.length - 1) 0] else [])=nadd l
  | []=>by simp [nadd]
  | [a]=>by simp [nadd]
  | a::b::r=>by
    have e1:(a::b::r).length / 2=r.length / 2+1:=by simp only [length_cons];omega
    have e2:(a::b::r).length%2=r.length%2:=by simp only [length_cons];omega
    rw [e1,e2,List.range_succ_eq_map,map_cons,map_map,nadd,<- zJg r];have e3:((fun i=>(a::b::r).getD (2*i) 0+(a::b::r).getD (2*i+1) 0)∘Nat.succ)=fun i=>r.getD (2*i) 0+r.getD (2*i+1) 0:=by
      funext i;simp only [Function.comp];rw [show 2*(i.succ)=2*i+1+1 by omega];simp only [List.getD_cons_succ]
    rw [e3];have e4:r.length%2=1->(a::b::r).getD ((a::b::r).length - 1) 0=r.getD (r.length - 1) 0:=fun h=>by
      rw [show (a::b::r).length - 1=(r.length - 1)+1+1 by simp only [length_cons];omega];simp only [List.getD_cons_succ]
    by_cases h:r.length%2=1
    . rw [if_pos h,if_pos h,e4 h];rfl
    . rw [if_neg h,if_neg h];rfl
abbrev Pt:=Rat×Rat
def rot {α:Type}(ps:List α):List α:=ps.drop 1++ps.take 1
def zAf (ps:List Pt):List (Pt×Pt):=ps.zip (rot ps)
theorem zI3 {α:Type}(ps:List α):(rot ps).length=ps.length:=by
  unfold rot;rw [length_append,length_drop,length_take];omega
theorem zFg (ps:List Pt):(zAf ps).length=ps.length:=by
  unfold zAf;rw [List.length_zip,zI3,Nat.min_self]
theorem zFf {ps:List Pt}{s:Pt×Pt}(h:s∈zAf ps):s.1∈ps/\s.2∈ps:=by
  unfold zAf at h;obtain ⟨h1,h2⟩:=of_mem_zip (a:=s.1) (b:=s.2) h;refine ⟨h1,?_⟩;unfold rot at h2;rcases mem_append.mp h2 with z | z
  . exact List.mem_of_mem_drop z
  . exact mem_of_mem_take z
abbrev Ln:=Rat×Rat×Rat
def hq (L:Ln)(p:Pt):Rat:=L.1*p.1+L.2.1*p.2 - L.2.2
def pw (x y t:Rat):Rat:=x+t*(y - x)
def zCb (L:Ln)(s:Pt×Pt):Pt:=(pw s.1.1 s.2.1 (hq L s.1 / (hq L s.1 - hq L s.2)),pw s.1.2 s.2.2 (hq L s.1 / (hq L s.1 - hq L s.2)))
def zAJ (u v:Rat):Prop:=(0 < u/\v < 0)\/(u < 0/\0 < v)
noncomputable instance (u v:Rat):Decidable (zAJ u v):=inferInstanceAs (Decidable (_\/_))
theorem zRX {L:Ln}{s:Pt×Pt}(h:hq L s.1 - hq L s.2≠0):hq L (zCb L s)=0:=by
  have e:hq L (zCb L s)=hq L s.1+hq L s.1 / (hq L s.1 - hq L s.2)*(hq L s.2 - hq L s.1):=by
    unfold zCb pw;generalize hq L s.1 / (hq L s.1 - hq L s.2)=t;unfold hq;grind
  rw [e];generalize hq L s.1=u at *;generalize hq L s.2=v at *;have e2:u / (u - v)*(v - u)=-u:=by
    have:=Rat.mul_inv_cancel _ h;rw [Rat.div_def];grind
  rw [e2];grind
def path:List Pt->List (Pt×Pt)
  | a::b::r=>(a,b)::path (b::r)
  | _=>[]
theorem zDd (a b:Pt)(r:List Pt):path (a::b::r)=(a,b)::path (b::r):=by rw [path]
theorem zE1 (a:Pt):path [a]=[]:=by rw [path];intros;simp_all
theorem zHC:∀ (ps:List Pt) (x:Pt),ps.zip (ps.drop 1++[x])=path (ps++[x])
  | [],x=>by simp [zE1]
  | [a],x=>by
    simp only [drop_one,tail_cons,nil_append,zip_cons_cons,List.zip_nil_left,cons_append,zDd,zE1]
  | a::b::r,x=>by
    have ih:=zHC (b::r) x;simp only [drop_one,tail_cons,cons_append,zip_cons_cons,zDd] at ih ⊢;rw [ih]
theorem zIC (a:Pt)(r:List Pt):zAf (a::r)=path (a::r++[a]):=by
  have:=zHC (a::r) a;unfold zAf rot;simpa using this
theorem zQg (f:Pt->Rat):∀ (r:List Pt) (p z:Pt),sumR ((path (p::r++[z])).map fun s=>f s.2 - f s.1)=f z - f p
  | [],p,z=>by simp [zDd,zE1,sumR,Rat.add_zero]
  | q::r,p,z=>by
    have ih:=zQg f r q z;simp only [cons_append,zDd,map_cons,sumR] at ih ⊢;rw [ih];grind
theorem zGW (f:Pt->Rat)(ps:List Pt):sumR ((zAf ps).map fun s=>f s.2 - f s.1)=0:=by
  cases ps with
  | nil=>rfl
  | cons a r=>rw [zIC,zQg];grind
theorem zBQ {α:Type}{f g:α->Rat}:∀ {l:List α},(∀ x∈l,f x=g x)->sumR (l.map f)=sumR (l.map g)
  | [],_=>rfl
  | x::l,h=>by
    rw [map_cons,map_cons,sumR,sumR,h x mem_cons_self,zBQ fun y z=>h y (mem_cons_of_mem _ z)]
theorem zCS {α:Type}(f g:α->Rat):∀ l:List α,sumR (l.map fun x=>f x+g x)=sumR (l.map f)+sumR (l.map g)
  | []=>by simp [sumR,Rat.add_zero]
  | x::l=>by
    rw [map_cons,map_cons,map_cons,sumR,sumR,sumR,zCS f g l];grind
def ptAt (s:Pt×Pt)(t:Rat):Pt:=(pw s.1.1 s.2.1 t,pw s.1.2 s.2.2 t)
def tOf (a b:Rat)(n:Int):Rat:=((n:Rat) - a) / (b - a)
def upQ (a b:Rat)(last:Nat):List Int:=((List.range (last+1)).map Int.ofNat).filter fun n=>decide (a < (n:Rat))&&decide ((n:Rat) < b)
def zCa (a b:Rat)(last:Nat):List Int:=if b < a then (upQ b a last).reverse else upQ a b last
def tsQ (a b:Rat)(last:Nat):List Rat:=(zCa a b last).map (tOf a b)
abbrev Inc (l:List Rat):Prop:=l.Pairwise (· < ·)
theorem zCs {a b:Rat}{last:Nat}{n:Int}:n∈upQ a b last<->0<=n/\n<=last/\a < (n:Rat)/\(n:Rat) < b:=by
  unfold upQ;simp only [mem_filter,mem_map,mem_range,and_eq_true,decide_eq_true_eq];constructor
  . rintro ⟨⟨k,hk,rfl⟩,h1,h2⟩;exact ⟨Int.natCast_nonneg _,by show (k:Int)<=_;omega,h1,h2⟩
  . rintro ⟨h0,h1,h2,h3⟩;exact ⟨⟨n.toNat,by omega,by show ((n.toNat:Nat):Int)=n;omega⟩,h2,h3⟩
theorem zJ8 (m:Nat):((List.range m).map Int.ofNat).Pairwise (· < ·):=by
  rw [List.pairwise_map];refine List.Pairwise.imp ?_ List.pairwise_lt_range;intro a b h;show (a:Int) < (b:Int);omega
theorem zJ6 (a b:Rat)(last:Nat):(upQ a b last).Pairwise (· < ·):=(zJ8 _).sublist List.filter_sublist
theorem zC3 {a b:Rat}(h:a≠b)(n:Int):pw a b (tOf a b n)=n:=by
  unfold pw tOf;have hd:b - a≠0:=by grind
  have:=Rat.mul_inv_cancel _ hd;rw [Rat.div_def];grind
theorem zNG {a b t:Rat}(h:a≠b){n:Int}(e:pw a b t=n):t=tOf a b n:=by
  unfold tOf;unfold pw at e;have hd:b - a≠0:=by grind
  have:=Rat.mul_inv_cancel _ hd;rw [Rat.div_def];grind
theorem zEK {a b:Rat}(h:a < b){t u:Rat}:pw a b t < pw a b u<->t < u:=by
  unfold pw;have hd:0 < b - a:=by grind
  constructor
  . intro z;refine Rat.not_le.mp fun c=>?_
    have:=Rat.mul_le_mul_of_nonneg_right c (Rat.le_of_lt hd);grind
  . intro z;have:=Rat.mul_lt_mul_of_pos_right z hd;grind
theorem zEL {a b:Rat}(h:b < a){t u:Rat}:pw a b t < pw a b u<->u < t:=by
  unfold pw;have hd:0 < a - b:=by grind
  constructor
  . intro z;refine Rat.not_le.mp fun c=>?_
    have:=Rat.mul_le_mul_of_nonneg_right c (Rat.le_of_lt hd);grind
  . intro z;have:=Rat.mul_lt_mul_of_pos_right z hd;grind
theorem pw_0 (a b:Rat):pw a b 0=a:=by unfold pw;grind
theorem pw_1 (a b:Rat):pw a b 1=b:=by unfold pw;grind
theorem zJ7 (a b:Rat)(last:Nat):Inc (tsQ a b last):=by
  unfold tsQ zCa Inc;by_cases h:b < a
  . rw [if_pos h,List.pairwise_map,List.pairwise_reverse];refine List.Pairwise.imp ?_ (zJ6 b a last);intro m n hmn;have e1:=zC3 (show a≠b by grind) m;have e2:=zC3 (show a≠b by grind) n;refine (zEL h).mp ?_;rw [e1,e2]
    exact_mod_cast hmn
  . rw [if_neg h];by_cases e:a=b
    . subst e;have:upQ a a last=[]:=by
        rw [List.eq_nil_iff_forall_not_mem];intro n hn;obtain ⟨_,_,h1,h2⟩:=zCs.mp hn;grind
      rw [this];exact List.Pairwise.nil
    . have hlt:a < b:=by grind
      rw [List.pairwise_map];refine List.Pairwise.imp ?_ (zJ6 a b last);intro m n hmn;have e1:=zC3 e m;have e2:=zC3 e n;refine (zEK hlt).mp ?_;rw [e1,e2]
      exact_mod_cast hmn
def Meets (a b:Rat)(last:Nat)(t:Rat):Prop:=a≠b/\0 < t/\t < 1/\∃ n:Int,0<=n/\n<=last/\pw a b t=n
theorem zGl {a b:Rat}{last:Nat}{t:Rat}:t∈tsQ a b last<->Meets a b last t:=by
  unfold tsQ zCa Meets;by_cases h:b < a
  . rw [if_pos h];have ne:a≠b:=by grind
    simp only [mem_map,List.mem_reverse];constructor
    . rintro ⟨n,hn,rfl⟩;obtain ⟨h0,h1,h2,h3⟩:=zCs.mp hn;have e:=zC3 ne n;refine ⟨ne,(zEL h).mp ?_,(zEL h).mp ?_,n,h0,h1,e⟩
      . rw [e,pw_0];exact h3
      . rw [e,pw_1];exact h2
    . rintro ⟨_,t0,t1,n,h0,h1,e⟩;refine ⟨n,zCs.mpr ⟨h0,h1,?_,?_⟩,(zNG ne e).symm⟩
      . rw [<- e];have:=(zEL h (t:=1) (u:=t)).mpr t1;rw [pw_1] at this;exact this
      . rw [<- e];have:=(zEL h (t:=t) (u:=0)).mpr t0;rw [pw_0] at this;exact this
  . rw [if_neg h];by_cases ne:a=b
    . subst ne;constructor
      . intro hm;obtain ⟨n,hn,_⟩:=mem_map.mp hm;obtain ⟨_,_,h1,h2⟩:=zCs.mp hn;grind
      . rintro ⟨z,_⟩;exact absurd rfl z
    . have hlt:a < b:=by grind
      simp only [mem_map];constructor
      . rintro ⟨n,hn,rfl⟩;obtain ⟨h0,h1,h2,h3⟩:=zCs.mp hn;have e:=zC3 ne n;refine ⟨ne,(zEK hlt).mp ?_,(zEK hlt).mp ?_,n,h0,h1,e⟩
        . rw [e,pw_0];exact h2
        . rw [e,pw_1];exact h3
      . rintro ⟨_,t0,t1,n,h0,h1,e⟩;refine ⟨n,zCs.mpr ⟨h0,h1,?_,?_⟩,(zNG ne e).symm⟩
        . rw [<- e];have:=(zEK hlt (t:=0) (u:=t)).mpr t0;rw [pw_0] at this;exact this
        . rw [<- e];have:=(zEK hlt (t:=t) (u:=1)).mpr t1;rw [pw_1] at this;exact this
def zCk (t:Rat):List Rat->List Rat
  | []=>[]
  | u::us=>if u=t then us else u::us
theorem zBW (t u:Rat)(us:List Rat):zCk t (u::us)=if u=t then us else u::us:=rfl
def zAy:List Rat->List Rat->List Rat
  | [],us=>us
  | t::ts,us=>us.takeWhile (fun u=>decide (u < t))++t::zAy ts (zCk t (us.dropWhile fun u=>decide (u < t)))
theorem zOH {t:Rat}{us:List Rat}{u:Rat}(h:u∈us.takeWhile fun u=>decide (u < t)):u < t:=by
  induction us with
  | nil=>simp at h
  | cons x us ih =>
    rw [takeWhile_cons] at h;by_cases c:x < t
    . rw [if_pos (by simpa using c)] at h;rcases mem_cons.mp h with rfl | h
      . exact c
      . exact ih h
    . rw [if_neg (by simpa using c)] at h;exact absurd h (by simp)
theorem zKk {t:Rat}:∀ {us:List Rat},Inc us->∀ u∈us.dropWhile (fun u=>decide (u < t)),t<=u
  | [],_,u,h=>by simp at h
  | x::us,hi,u,h=>by
    rw [List.dropWhile_cons] at h;by_cases c:x < t
    . rw [if_pos (by simpa using c)] at h;exact zKk (List.Pairwise.of_cons hi) u h
    . rw [if_neg (by simpa using c)] at h;have hx:t<=x:=Rat.not_lt.mp c;rcases mem_cons.mp h with rfl | h
      . exact hx
      . have:=rel_of_pairwise_cons hi h;exact Rat.le_trans hx (Rat.le_of_lt this)
theorem zDR (t:Rat)(us:List Rat):(zCk t us).Sublist us:=by
  cases us with
  | nil=>exact List.Sublist.refl _
  | cons u us =>
    rw [zBW];split
    . exact List.sublist_cons_self _ _
    . exact List.Sublist.refl _
theorem zKl {t:Rat}{us:List Rat}(hi:Inc us)(h:∀ u∈us,t<=u):∀ u∈zCk t us,t < u:=by
  cases us with
  | nil=>intro u hu;simp [zCk] at hu
  | cons x us =>
    intro u hu;rw [zBW] at hu;split at hu
    . rename_i e;subst e;exact rel_of_pairwise_cons hi hu
    . rename_i e;have hx:t < x:=by have:=h x mem_cons_self;grind
      rcases mem_cons.mp hu with rfl | hu
      . exact hx
      . have:=rel_of_pairwise_cons hi hu;grind
theorem zIO {t:Rat}{us:List Rat}{u:Rat}:u∈us->u≠t->u∈zCk t us:=by
  intro h ne;cases us with
  | nil=>exact absurd h (by simp)
  | cons x us =>
    rw [zBW];split
    . rename_i e;rcases mem_cons.mp h with rfl | h
      . exact absurd e ne
      . exact h
    . exact h
theorem zCU:∀ {ts us:List Rat} {x:Rat},x∈zAy ts us<->x∈ts\/x∈us
  | [],us,x=>by simp [zAy]
  | t::ts,us,x=>by
    rw [zAy];simp only [mem_append,mem_cons,zCU (ts:=ts)];have key:∀ x,x∈us<->x∈us.takeWhile (fun u=>decide (u < t))\/x∈us.dropWhile (fun u=>decide (u < t)):=fun x=>by
      conv=>lhs;rw [<- List.takeWhile_append_dropWhile (p:=fun u=>decide (u < t)) (l:=us)]
      exact mem_append
    constructor
    . rintro (h | rfl | h | h)
      . exact .inr ((key x).mpr (.inl h))
      . exact .inl (.inl rfl)
      . exact .inl (.inr h)
      . exact .inr ((key x).mpr (.inr ((zDR t _).subset h)))
    . rintro ((rfl | h) | h)
      . exact .inr (.inl rfl)
      . exact .inr (.inr (.inl h))
      . rcases (key x).mp h with h | h
        . exact .inl h
        . by_cases e:x=t
          . exact .inr (.inl e)
          . exact .inr (.inr (.inr (zIO h e)))
theorem zEZ:∀ {ts us:List Rat},Inc ts->Inc us->Inc (zAy ts us)
  | [],us,_,h=>h
  | t::ts,us,hts,hus=>by
    rw [zAy];have hd:Inc (us.dropWhile fun u=>decide (u < t)):=hus.sublist (List.dropWhile_sublist _);have hde:Inc (zCk t (us.dropWhile fun u=>decide (u < t))):=hd.sublist (zDR _ _);have ih:=zEZ (List.Pairwise.of_cons hts) hde;have big:∀ x∈zAy ts (zCk t (us.dropWhile fun u=>decide (u < t))),t < x:=fun x hx=>by
      rcases zCU.mp hx with h | h
      . exact rel_of_pairwise_cons hts h
      . exact zKl hd (zKk hus) x h
    refine List.pairwise_append.mpr ⟨hus.sublist (List.takeWhile_sublist _),List.pairwise_cons.mpr ⟨big,ih⟩,fun a ha b hb=>?_⟩;have:=zOH ha;rcases mem_cons.mp hb with rfl | hb
    . exact this
    . have:=big b hb;grind
def midQ (w h:Nat)(s:Pt×Pt):List Rat:=zAy (tsQ s.1.1 s.2.1 w) (tsQ s.1.2 s.2.2 h)
def zBZ (w h:Nat)(s:Pt×Pt):List Rat:=0::midQ w h s++[1]
theorem zMC (w h:Nat)(s:Pt×Pt):Inc (midQ w h s):=zEZ (zJ7 ..) (zJ7 ..)
theorem zE5 {w h:Nat}{s:Pt×Pt}{t:Rat}:t∈midQ w h s<->Meets s.1.1 s.2.1 w t\/Meets s.1.2 s.2.2 h t:=by
  unfold midQ;rw [zCU,zGl,zGl]
theorem zJp {w h:Nat}{s:Pt×Pt}{t:Rat}(hm:t∈midQ w h s):0 < t/\t < 1:=by
  rcases zE5.mp hm with h | h
  . exact ⟨h.2.1,h.2.2.1⟩
  . exact ⟨h.2.1,h.2.2.1⟩
theorem zF2 (w h:Nat)(s:Pt×Pt):Inc (zBZ w h s):=by
  unfold zBZ;refine List.pairwise_append.mpr ⟨List.pairwise_cons.mpr ⟨fun t ht=>(zJp ht).1,zMC w h s⟩,List.pairwise_singleton _ _,fun a ha b hb=>?_⟩;rw [mem_singleton.mp hb];rcases mem_cons.mp ha with rfl | ha
  . decide
  . exact (zJp ha).2
def adj:List Rat->List (Rat×Rat)
  | a::b::r=>(a,b)::adj (b::r)
  | _=>[]
theorem zEI (a b:Rat)(r:List Rat):adj (a::b::r)=(a,b)::adj (b::r):=by rw [adj]
theorem zFR (a:Rat):adj [a]=[]:=by rw [adj];intros;simp_all
theorem zG7:adj []=[]:=by rw [adj];intros;simp_all
theorem zK8:∀ {l:List Rat},Inc l->∀ p∈adj l,p.1 < p.2/\p.1∈l/\p.2∈l/\∀ x∈l,x<=p.1\/p.2<=x
  | [],_,p,h=>by rw [zG7] at h;exact absurd h (by simp)
  | [a],_,p,h=>by rw [zFR] at h;exact absurd h (by simp)
  | a::b::r,hi,p,h=>by
    rw [zEI] at h;have hb:=List.Pairwise.of_cons hi;rcases mem_cons.mp h with rfl | h
    . refine ⟨rel_of_pairwise_cons hi mem_cons_self,mem_cons_self,mem_cons_of_mem _ mem_cons_self,fun x hx=>?_⟩;rcases mem_cons.mp hx with rfl | hx
      . exact .inl Rat.le_refl
      . rcases mem_cons.mp hx with rfl | hx
        . exact .inr Rat.le_refl
        . exact .inr (Rat.le_of_lt (rel_of_pairwise_cons hb hx))
    . obtain ⟨h1,h2,h3,h4⟩:=zK8 hb p h;refine ⟨h1,mem_cons_of_mem _ h2,mem_cons_of_mem _ h3,fun x hx=>?_⟩;rcases mem_cons.mp hx with rfl | hx
      . exact .inl (Rat.le_of_lt (rel_of_pairwise_cons hi h2))
      . exact h4 x hx
def mid2 (p:Rat×Rat):Rat:=(p.1+p.2) / 2
theorem zDO (x:Rat):x / 2=1 / 2*x:=by rw [Rat.div_def,Rat.div_def];grind
theorem zOJ {w h:Nat}{s:Pt×Pt}{t:Rat}(hm:t∈zBZ w h s):0<=t/\t<=1:=by
  unfold zBZ at hm;rcases mem_append.mp hm with hm | hm
  . rcases mem_cons.mp hm with rfl | hm
    . exact ⟨Rat.le_refl,by decide⟩
    . obtain ⟨h1,h2⟩:=zJp hm;exact ⟨Rat.le_of_lt h1,Rat.le_of_lt h2⟩
  . rw [mem_singleton.mp hm];exact ⟨by decide,Rat.le_refl⟩
theorem zHh {w h:Nat}{s:Pt×Pt}{t:Rat}(hm:t∈midQ w h s):t∈zBZ w h s:=by
  unfold zBZ;exact mem_append.mpr (.inl (mem_cons_of_mem _ hm))
theorem zPs {a b:Rat}{last:Nat}{l:List Rat}(hi:Inc l)(h01:∀ t∈l,0<=t/\t<=1)(hm:∀ t,Meets a b last t->t∈l){p:Rat×Rat}(hp:p∈adj l)(ne:a≠b){n:Int}(n0:0<=n)(n1:n<=last){x:Rat}(h1:p.1 < x)(h2:x < p.2):pw a b x≠n:=by
  intro e;obtain ⟨_,m1,m2,f⟩:=zK8 hi p hp;have b1:=h01 _ m1;have b2:=h01 _ m2;have hx:=hm x ⟨ne,by grind,by grind,n,n0,n1,e⟩;rcases f x hx with z | z<;>grind
theorem zIG {a b t u:Rat}{n:Int}(h:(pw a b t < n/\(n:Rat) < pw a b u)\/(pw a b u < n/\(n:Rat) < pw a b t))(htu:t < u):a≠b/\∃ x,t < x/\x < u/\pw a b x=n:=by
  have ne:a≠b:=by
    rintro rfl;have:∀ t,pw a a t=a:=fun t=>by unfold pw;grind
    rw [this,this] at h;grind
  refine ⟨ne,tOf a b n,?_⟩;have e:=zC3 ne n;refine ⟨?_,?_,e⟩
  . rcases (show a < b\/b < a by grind) with l | l
    . refine (zEK l).mp ?_;have:=(zEK l (t:=t) (u:=u)).mpr htu;rw [e];grind
    . refine (zEL l).mp ?_;have:=(zEL l (t:=u) (u:=t)).mpr htu;rw [e];grind
  . rcases (show a < b\/b < a by grind) with l | l
    . refine (zEK l).mp ?_;have:=(zEK l (t:=t) (u:=u)).mpr htu;rw [e];grind
    . refine (zEL l).mp ?_;have:=(zEL l (t:=u) (u:=t)).mpr htu;rw [e];grind
theorem zHW (a b:Rat)(p:Rat×Rat):pw a b (mid2 p)=(pw a b p.1+pw a b p.2) / 2:=by
  unfold pw mid2;rw [zDO,zDO];grind
def zGR (w h:Nat)(s:Pt×Pt)(m:Rat):Prop:=(0<=pw s.1.2 s.2.2 m/\pw s.1.2 s.2.2 m < h)/\pw s.1.1 s.2.1 m < w
noncomputable instance (w h:Nat) (s:Pt×Pt):DecidablePred (zGR w h s):=fun m=>inferInstanceAs (Decidable (_/\_))
theorem zFP (s:Pt×Pt):ptAt s 0=s.1:=by unfold ptAt;rw [pw_0,pw_0]
theorem zK5 (s:Pt×Pt):ptAt s 1=s.2:=by unfold ptAt;rw [pw_1,pw_1]
def xL (x:Rat):Ln:=(1,0,x)
def yL (y:Rat):Ln:=(0,1,y)
theorem hq_x (x:Rat)(p:Pt):hq (xL x) p=p.1 - x:=by unfold hq xL;grind
theorem hq_y (y:Rat)(p:Pt):hq (yL y) p=p.2 - y:=by unfold hq yL;grind
def wayG (g:Pt×Pt->Rat):List Pt->Rat
  | a::b::r=>g (a,b)+wayG g (b::r)
  | _=>0
section
variable {g:Pt×Pt->Rat}
theorem zDb (a b:Pt)(r:List Pt):wayG g (a::b::r)=g (a,b)+wayG g (b::r):=by rw [wayG]
theorem zEp (a:Pt):wayG g [a]=0:=by rw [wayG];intros;simp_all
theorem zHD:wayG g []=0:=by rw [wayG];intros;simp_all
def zAg (g:Pt×Pt->Rat)(ps:List Pt):Rat:=wayG g (ps++ps.take 1)
theorem zHB:∀ (ps:List Pt) (x:Pt),sumR ((ps.zip (ps.drop 1++[x])).map g)=wayG g (ps++[x])
  | [],x=>by simp [sumR,zEp]
  | [a],x=>by
    simp only [drop_one,tail_cons,nil_append,zip_cons_cons,List.zip_nil_left,map_cons,map_nil,sumR,cons_append,zDb,zEp]
  | a::b::r,x=>by
    have ih:=zHB (b::r) x;simp only [drop_one,tail_cons,cons_append,zip_cons_cons,map_cons,sumR,zDb] at ih ⊢;rw [ih]
theorem zBm (ps:List Pt):sumR ((zAf ps).map g)=zAg g ps:=by
  unfold zAf rot zAg;cases ps with
  | nil=>simp [sumR,zHD]
  | cons a r =>
    have:=zHB (g:=g) (a::r) a;simpa using this
end
def NC (L:List Ln)(p q:Pt):Prop:=∀ l∈L,¬ zAJ (hq l p) (hq l q)
def Ad (L:List Ln)(f:Pt×Pt->Rat):Prop:=∀ (s:Pt×Pt) (a c b:Rat),a<=c->c<=b->NC L (ptAt s a) (ptAt s b)->f (ptAt s a,ptAt s b)=f (ptAt s a,ptAt s c)+f (ptAt s c,ptAt s b)
theorem zBM (l:Ln)(s:Pt×Pt)(t:Rat):hq l (ptAt s t)=pw (hq l s.1) (hq l s.2) t:=by
  unfold hq ptAt pw;grind
theorem zT5 (s:Pt×Pt)(a b t:Rat):ptAt (ptAt s a,ptAt s b) t=ptAt s (pw a b t):=by
  unfold ptAt pw;dsimp only
  ext<;>grind
theorem zGe {u v a c b:Rat}(h1:a<=c)(h2:c<=b):(pw u v a<=pw u v c/\pw u v c<=pw u v b)\/(pw u v b<=pw u v c/\pw u v c<=pw u v a):=by
  unfold pw;rcases Rat.le_total (a:=u) (b:=v) with h | h
  . have d:0<=v - u:=by grind
    have e1:=Rat.mul_le_mul_of_nonneg_right h1 d;have e2:=Rat.mul_le_mul_of_nonneg_right h2 d
    left;grind
  . have d:0<=u - v:=by grind
    have e1:=Rat.mul_le_mul_of_nonneg_right h1 d;have e2:=Rat.mul_le_mul_of_nonneg_right h2 d
    right;grind
theorem zC6 {u v a c b:Rat}(h1:a<=c)(h2:c<=b)(h:¬ zAJ (pw u v a) (pw u v b)):¬ zAJ (pw u v a) (pw u v c)/\¬ zAJ (pw u v c) (pw u v b):=by
  have m:=zGe (u:=u) (v:=v) h1 h2;unfold zAJ at *;grind
theorem NC.sub {L:List Ln}{s:Pt×Pt}{a c b:Rat}(h1:a<=c)(h2:c<=b)(h:NC L (ptAt s a) (ptAt s b)):NC L (ptAt s a) (ptAt s c)/\NC L (ptAt s c) (ptAt s b):=by
  refine ⟨fun l hl=>?_,fun l hl=>?_⟩<;>have z:=h l hl<;>rw [zBM,zBM] at z ⊢
  . exact (zC6 h1 h2 z).1
  . exact (zC6 h1 h2 z).2
theorem zO6 (l:Ln)(s:Pt×Pt)(a b:Rat)(h:hq l (ptAt s a) - hq l (ptAt s b)≠0):zCb l (ptAt s a,ptAt s b)=ptAt s (hq l s.1 / (hq l s.1 - hq l s.2)):=by
  have e:zCb l (ptAt s a,ptAt s b)=ptAt (ptAt s a,ptAt s b) (hq l (ptAt s a) / (hq l (ptAt s a) - hq l (ptAt s b))):=rfl;rw [e,zT5];congr 1;rw [zBM,zBM] at h ⊢;generalize hq l s.1=u at *;generalize hq l s.2=v at *;have e1:pw u v a - pw u v b=(b - a)*(u - v):=by unfold pw;grind
  rw [e1] at h ⊢;have hv:u - v≠0:=fun z=>h (by rw [z];grind)
  have hb:b - a≠0:=fun z=>h (by rw [z];grind)
  have i1:=Rat.mul_inv_cancel _ h;have i2:=Rat.mul_inv_cancel _ hv;rw [Rat.div_def,Rat.div_def];generalize ((b - a)*(u - v))⁻¹=x at *;generalize (u - v)⁻¹=y at *;unfold pw;have k:(u - v)*(a+(u+a*(v - u))*x*(b - a) - u*y)=0:=by grind
  rcases Rat.mul_eq_zero.mp k with z | z
  . exact absurd z hv
  . grind
def ext (l:Ln)(f:Pt×Pt->Rat)(s:Pt×Pt):Rat:=if zAJ (hq l s.1) (hq l s.2) then f (s.1,zCb l s)+f (zCb l s,s.2) else f s
theorem zCM {l:Ln}{f:Pt×Pt->Rat}{p q:Pt}(h:¬ zAJ (hq l p) (hq l q)):ext l f (p,q)=f (p,q):=if_neg h
theorem NC.cons {L:List Ln}{l:Ln}{p q:Pt}(h:NC L p q)(hl:¬ zAJ (hq l p) (hq l q)):NC (l::L) p q:=fun m hm=>by
  rcases mem_cons.mp hm with rfl | hm
  . exact hl
  . exact h m hm
theorem tau {u v:Rat}(h:u - v≠0)(a:Rat):pw u v a=(u / (u - v) - a)*(u - v):=by
  unfold pw;have i:=Rat.mul_inv_cancel _ h;rw [Rat.div_def];grind
theorem zEC {u v a b:Rat}(hab:a<=b)(h:zAJ (pw u v a) (pw u v b)):u - v≠0/\a < u / (u - v)/\u / (u - v) < b/\pw u v (u / (u - v))=0:=by
  have hv:u - v≠0:=fun z=>by
    have e:∀ t,pw u v t=u:=fun t=>by unfold pw;grind
    rw [e,e] at h;unfold zAJ at h;grind
  refine ⟨hv,?_⟩;rw [tau hv a,tau hv b] at h;have z:pw u v (u / (u - v))=0:=by rw [tau hv];grind
  generalize u / (u - v)=t at *;have hm:¬ (a < t/\t < b)->False:=fun n=>by
    rcases (show t<=a\/b<=t by grind) with c | c
    . have c1:0<=a - t:=by grind
      have c2:0<=b - t:=by grind
      rcases Rat.le_total (a:=0) (b:=u - v) with d | d
      . have m1:=Rat.mul_nonneg c1 d;have m2:=Rat.mul_nonneg c2 d;unfold zAJ at h;grind
      . have d2:0<=-(u - v):=by grind
        have m1:=Rat.mul_nonneg c1 d2;have m2:=Rat.mul_nonneg c2 d2;unfold zAJ at h;grind
    . have c1:0<=t - a:=by grind
      have c2:0<=t - b:=by grind
      rcases Rat.le_total (a:=0) (b:=u - v) with d | d
      . have m1:=Rat.mul_nonneg c1 d;have m2:=Rat.mul_nonneg c2 d;unfold zAJ at h;grind
      . have d2:0<=-(u - v):=by grind
        have m1:=Rat.mul_nonneg c1 d2;have m2:=Rat.mul_nonneg c2 d2;unfold zAJ at h;grind
  have:=Classical.byContradiction hm;exact ⟨this.1,this.2,z⟩
theorem zFA {l:Ln}{L:List Ln}{f:Pt×Pt->Rat}(h:Ad (l::L) f):Ad L (ext l f):=fun s a c b h1 h2 nc=>by
  have hab:a<=b:=Rat.le_trans h1 h2;by_cases x:zAJ (hq l (ptAt s a)) (hq l (ptAt s b))
  . have x':=x;rw [zBM,zBM] at x';obtain ⟨hv,t1,t2,t3⟩:=zEC hab x';have hne:∀ a' b',zAJ (hq l (ptAt s a')) (hq l (ptAt s b'))->hq l (ptAt s a') - hq l (ptAt s b')≠0:=fun a' b' z=>by unfold zAJ at z;grind
    have t4:hq l (ptAt s (hq l s.1 / (hq l s.1 - hq l s.2)))=0:=by rw [zBM];exact t3
    generalize ht:hq l s.1 / (hq l s.1 - hq l s.2)=t at *;have M:∀ a' b',zAJ (hq l (ptAt s a')) (hq l (ptAt s b'))->ext l f (ptAt s a',ptAt s b')=f (ptAt s a',ptAt s t)+f (ptAt s t,ptAt s b'):=fun a' b' z=>by
      unfold ext;rw [if_pos z,zO6 l s a' b' (hne a' b' z),ht]
    have nx:∀ y:Rat,¬ zAJ (hq l (ptAt s y)) (hq l (ptAt s t))/\¬ zAJ (hq l (ptAt s t)) (hq l (ptAt s y)):=fun y=>by
      rw [t4];unfold zAJ;grind
    have nat:=(NC.sub (L:=L) (Rat.le_of_lt t1) (Rat.le_of_lt t2) nc).1.cons (nx a).1;have ntb:=(NC.sub (L:=L) (Rat.le_of_lt t1) (Rat.le_of_lt t2) nc).2.cons (nx b).2;rw [M a b x];have zz:∀ y,f (ptAt s y,ptAt s y)=0:=fun y=>by
      have:=h s y y y Rat.le_refl Rat.le_refl (fun m _=>by unfold zAJ;grind);grind
    rcases (show c < t\/c=t\/t < c by grind) with q | q | q
    . have k:=h s a c t h1 (Rat.le_of_lt q) nat;have n1:¬ zAJ (hq l (ptAt s a)) (hq l (ptAt s c)):=by
        have:=zC6 (u:=hq l s.1) (v:=hq l s.2) h1 (Rat.le_of_lt q) (by rw [<- zBM,<- zBM];exact (nx a).1);rw [zBM,zBM];exact this.1
      rw [zCM n1];by_cases n2:zAJ (hq l (ptAt s c)) (hq l (ptAt s b))
      . rw [M c b n2];grind
      . exfalso
        rw [zBM,tau hv,ht,zBM,tau hv,ht] at n2 x;have c1:0 < t - c:=by grind
        have c2:0 < b - t:=by grind
        rcases (show 0 < hq l s.1 - hq l s.2\/0 < -(hq l s.1 - hq l s.2) by grind) with d | d
        . have m1:=Rat.mul_pos c1 d;have m2:=Rat.mul_pos c2 d;unfold zAJ at n2;grind
        . have m1:=Rat.mul_pos c1 d;have m2:=Rat.mul_pos c2 d;unfold zAJ at n2;grind
    . subst q;rw [zCM (nx a).1,zCM (nx b).2]
    . have k:=h s t c b (Rat.le_of_lt q) h2 ntb;have n1:¬ zAJ (hq l (ptAt s c)) (hq l (ptAt s b)):=by
        have:=zC6 (u:=hq l s.1) (v:=hq l s.2) (Rat.le_of_lt q) h2 (by rw [<- zBM,<- zBM];exact (nx b).2);rw [zBM,zBM];exact this.2
      rw [zCM n1];by_cases n2:zAJ (hq l (ptAt s a)) (hq l (ptAt s c))
      . rw [M a c n2];grind
      . exfalso
        rw [zBM,tau hv,ht,zBM,tau hv,ht] at n2 x;have c1:0 < c - t:=by grind
        have c2:0 < t - a:=by grind
        rcases (show 0 < hq l s.1 - hq l s.2\/0 < -(hq l s.1 - hq l s.2) by grind) with d | d
        . have m1:=Rat.mul_pos c1 d;have m2:=Rat.mul_pos c2 d;unfold zAJ at n2;grind
        . have m1:=Rat.mul_pos c1 d;have m2:=Rat.mul_pos c2 d;unfold zAJ at n2;grind
  . have x2:=x;rw [zBM,zBM] at x2;have n:=zC6 h1 h2 x2;rw [<- zBM,<- zBM,<- zBM] at n;rw [zCM x,zCM n.1,zCM n.2];exact h s a c b h1 h2 (nc.cons x)
theorem zNg (p q:Pt):NC [] p q:=fun _ z=>absurd z (by simp)
theorem Ad.go {f:Pt×Pt->Rat}(h:Ad [] f)(s:Pt×Pt){a c b:Rat}(h1:a<=c)(h2:c<=b):f (ptAt s a,ptAt s b)=f (ptAt s a,ptAt s c)+f (ptAt s c,ptAt s b):=h s a c b h1 h2 (zNg _ _)
theorem Ad.self {f:Pt×Pt->Rat}(h:Ad [] f)(p:Pt):f (p,p)=0:=by
  have:=h.go (p,p) (a:=0) (c:=0) (b:=0) Rat.le_refl Rat.le_refl;rw [zFP] at this;grind
theorem Ad.meet {f:Pt×Pt->Rat}(h:Ad [] f){l:Ln}{s:Pt×Pt}(x:zAJ (hq l s.1) (hq l s.2)):f s=f (s.1,zCb l s)+f (zCb l s,s.2):=by
  have e0:=zFP s;have e1:=zK5 s;have x':zAJ (pw (hq l s.1) (hq l s.2) 0) (pw (hq l s.1) (hq l s.2) 1):=by rw [pw_0,pw_1];exact x
  obtain ⟨hv,t1,t2,_⟩:=zEC (by decide) x';have k:=h.go s (Rat.le_of_lt t1) (Rat.le_of_lt t2);rw [e0,e1] at k;exact k
def Same (Z:Pt->Prop)(L:List Ln)(f g:Pt×Pt->Rat):Prop:=∀ p q,Z p->Z q->NC L p q->f (p,q)=g (p,q)
def Cvx (Z:Pt->Prop):Prop:=∀ p q,Z p->Z q->∀ t,0<=t->t<=1->Z (ptAt (p,q) t)
theorem zI0 {Z:Pt->Prop}(hZ:Cvx Z){l:Ln}{L:List Ln}{f g:Pt×Pt->Rat}(hf:Ad [] f)(hg:Ad [] g)(h:Same Z (l::L) f g):Same Z L f g:=fun p q zp zq n=>by
  by_cases x:zAJ (hq l p) (hq l q)
  . rw [hf.meet (s:=(p,q)) x,hg.meet (s:=(p,q)) x];have x':zAJ (pw (hq l p) (hq l q) 0) (pw (hq l p) (hq l q) 1):=by rw [pw_0,pw_1];exact x
    obtain ⟨hv,t1,t2,t3⟩:=zEC (by decide) x';have em:zCb l (p,q)=ptAt (p,q) (hq l p / (hq l p - hq l q)):=rfl;have zm:Z (zCb l (p,q)):=hZ p q zp zq _ (Rat.le_of_lt t1) (Rat.le_of_lt t2);have hm:hq l (zCb l (p,q))=0:=zRX (s:=(p,q)) hv;have e0:=zFP (p,q);have e1:=zK5 (p,q);have nn:NC L (ptAt (p,q) 0) (ptAt (p,q) 1):=by rw [e0,e1];exact n
    obtain ⟨n1,n2⟩:=nn.sub (Rat.le_of_lt t1) (Rat.le_of_lt t2);rw [e0,<- em] at n1;rw [e1,<- em] at n2;show f (p,zCb l (p,q))+f (zCb l (p,q),q)=g (p,zCb l (p,q))+g (zCb l (p,q),q);rw [h p _ zp zm (n1.cons (by rw [hm];unfold zAJ;grind)),h _ q zm zq (n2.cons (by rw [hm];unfold zAJ;grind))]
  . exact h p q zp zq (n.cons x)
theorem zDc {Z:Pt->Prop}(hZ:Cvx Z){f g:Pt×Pt->Rat}(hf:Ad [] f)(hg:Ad [] g):∀ {L:List Ln},Same Z L f g->∀ p q,Z p->Z q->f (p,q)=g (p,q)
  | [],h,p,q,zp,zq=>h p q zp zq (zNg _ _)
  | l::L,h,p,q,zp,zq=>zDc hZ hf hg (zI0 hZ hf hg h) p q zp zq
theorem zFH:Cvx fun _=>True:=fun _ _ _ _ _ _ _=>trivial
theorem zQS (ψ:Pt->Rat):Ad [] fun s=>ψ s.2 - ψ s.1:=fun s a c b _ _ _=>by grind
theorem Ad.add {L:List Ln}{f g:Pt×Pt->Rat}(hf:Ad L f)(hg:Ad L g):Ad L fun s=>f s+g s:=fun s a c b h1 h2 n=>by
  have:=hf s a c b h1 h2 n;have:=hg s a c b h1 h2 n;grind
theorem Ad.mul {L:List Ln}{f:Pt×Pt->Rat}(hf:Ad L f)(k:Rat):Ad L fun s=>k*f s:=fun s a c b h1 h2 n=>by
  have:=hf s a c b h1 h2 n;grind
def clp (lo hi x:Rat):Rat:=if x < lo then lo else if hi < x then hi else x
def uQ (a b x:Rat):Rat:=b - clp a b x
def f0 (a b c d:Rat)(s:Pt×Pt):Rat:=1 / 2*(uQ a b s.1.1+uQ a b s.2.1)*(clp c d s.1.2 - clp c d s.2.2)
def rims (a b c d:Rat):List Ln:=[yL d,yL c,xL b,xL a]
def boxG (a b c d:Rat):Pt×Pt->Rat:=ext (xL a) (ext (xL b) (ext (yL c) (ext (yL d) (f0 a b c d))))
theorem zKx {lo hi:Rat}(hl:lo<=hi){x y:Rat}(n1:¬ zAJ (x - lo) (y - lo))(n2:¬ zAJ (x - hi) (y - hi)):∃ k m:Rat,∀ z,(x<=z/\z<=y)\/(y<=z/\z<=x)->clp lo hi z=k*z+m:=by
  unfold zAJ at n1 n2;by_cases c1:x<=lo/\y<=lo
  . exact ⟨0,lo,fun z hz=>by unfold clp;grind⟩
  . by_cases c2:hi<=x/\hi<=y
    . exact ⟨0,hi,fun z hz=>by unfold clp;grind⟩
    . exact ⟨1,0,fun z hz=>by unfold clp;grind⟩
theorem zT6 {a b c d:Rat}(hab:a<=b)(hcd:c<=d):Ad (rims a b c d) (f0 a b c d):=fun s t1 t t2 h1 h2 n=>by
  have nx1:=n (xL a) (by simp [rims]);have nx2:=n (xL b) (by simp [rims]);have ny1:=n (yL c) (by simp [rims]);have ny2:=n (yL d) (by simp [rims]);rw [hq_x,hq_x] at nx1 nx2;rw [hq_y,hq_y] at ny1 ny2;obtain ⟨k,m,e⟩:=zKx hab nx1 nx2;obtain ⟨k',m',e'⟩:=zKx hcd ny1 ny2;have mx:=zGe (u:=s.1.1) (v:=s.2.1) h1 h2;have my:=zGe (u:=s.1.2) (v:=s.2.2) h1 h2;have x1:=e (ptAt s t1).1 (by grind);have x2:=e (ptAt s t2).1 (by grind);have x3:=e (ptAt s t).1 mx;have y1:=e' (ptAt s t1).2 (by grind);have y2:=e' (ptAt s t2).2 (by grind);have y3:=e' (ptAt s t).2 my;unfold f0 uQ;dsimp only;rw [x1,x2,x3,y1,y2,y3];unfold ptAt pw;grind
theorem zCl {a b c d:Rat}(hab:a<=b)(hcd:c<=d):Ad [] (boxG a b c d) :=
  zFA (zFA (zFA (zFA (zT6 hab hcd))))
theorem zBP {a b c d:Rat}{p q:Pt}(n:NC (rims a b c d) p q):boxG a b c d (p,q)=f0 a b c d (p,q):=by
  unfold boxG;rw [zCM (n _ (by simp [rims])),zCM (n _ (by simp [rims])),zCM (n _ (by simp [rims])),zCM (n _ (by simp [rims]))]
theorem zGK {a b e c d:Rat}(h1:a<=b)(h2:b<=e)(hcd:c<=d)(s:Pt×Pt):boxG a b c d s+boxG b e c d s=boxG a e c d s:=by
  refine zDc zFH ((zCl h1 hcd).add (zCl h2 hcd)) (zCl (Rat.le_trans h1 h2) hcd) (L:=rims a b c d++rims b e c d++rims a e c d) (fun p q _ _ n=>?_) s.1 s.2 trivial trivial;have n1:NC (rims a b c d) p q:=fun l hl=>n l (by simp [hl])
  have n2:NC (rims b e c d) p q:=fun l hl=>n l (by simp [hl])
  have n3:NC (rims a e c d) p q:=fun l hl=>n l (by simp [hl])
  show boxG a b c d (p,q)+boxG b e c d (p,q)=boxG a e c d (p,q);rw [zBP n1,zBP n2,zBP n3];have k:∀ x,uQ a e x=uQ a b x+uQ b e x:=fun x=>by unfold uQ clp;grind
  unfold f0;rw [k,k];grind
theorem zK3 {a b c d e:Rat}(hab:a<=b)(h1:c<=d)(h2:d<=e)(s:Pt×Pt):boxG a b c d s+boxG a b d e s=boxG a b c e s:=by
  refine zDc zFH ((zCl hab h1).add (zCl hab h2)) (zCl hab (Rat.le_trans h1 h2)) (L:=rims a b c d++rims a b d e++rims a b c e) (fun p q _ _ n=>?_) s.1 s.2 trivial trivial;have n1:NC (rims a b c d) p q:=fun l hl=>n l (by simp [hl])
  have n2:NC (rims a b d e) p q:=fun l hl=>n l (by simp [hl])
  have n3:NC (rims a b c e) p q:=fun l hl=>n l (by simp [hl])
  show boxG a b c d (p,q)+boxG a b d e (p,q)=boxG a b c e (p,q);rw [zBP n1,zBP n2,zBP n3];have k:∀ y,clp c e y=clp c d y+clp d e y - d:=fun y=>by unfold clp;grind
  unfold f0;rw [k,k];grind
theorem zIt {f:Pt×Pt->Rat}(hf:Ad [] f)(s:Pt×Pt):∀ (l:List Rat) (a z:Rat),Inc (a::l++[z])->sumR ((adj (a::l++[z])).map fun p=>f (ptAt s p.1,ptAt s p.2))=f (ptAt s a,ptAt s z)
  | [],a,z,h=>by
    rw [cons_append,nil_append,zEI,zFR];simp only [map_cons,map_nil,sumR];grind
  | b::l,a,z,h=>by
    rw [cons_append,cons_append,zEI];have h2:Inc (b::l++[z]):=List.Pairwise.of_cons h;have ih:=zIt hf s l b z h2;rw [map_cons,sumR];have e:b::(l++[z])=b::l++[z]:=rfl;rw [e,ih];have h3:a < b:=rel_of_pairwise_cons h mem_cons_self;have h4:b < z:=rel_of_pairwise_cons h2 (by simp);exact (hf.go s (Rat.le_of_lt h3) (Rat.le_of_lt h4)).symm
theorem zIq {f:Pt×Pt->Rat}(hf:Ad [] f)(w h:Nat)(s:Pt×Pt):sumR ((adj (zBZ w h s)).map fun p=>f (ptAt s p.1,ptAt s p.2))=f s:=by
  have e:=zIt hf s (midQ w h s) 0 1 (zF2 w h s);rw [zFP,zK5] at e;exact e
theorem zET {a b:Rat}{last:Nat}{l:List Rat}(hi:Inc l)(h01:∀ t∈l,0<=t/\t<=1)(hm:∀ t,Meets a b last t->t∈l){p:Rat×Rat}(hp:p∈adj l){n:Int}(n0:0<=n)(n1:n<=last):¬ zAJ (pw a b p.1 - n) (pw a b p.2 - n):=fun z=>by
  have lt:=(zK8 hi p hp).1;have h:(pw a b p.1 < n/\(n:Rat) < pw a b p.2)\/(pw a b p.2 < n/\(n:Rat) < pw a b p.1):=by unfold zAJ at z;grind
  obtain ⟨ne,x,h1,h2,e⟩:=zIG h lt;exact zPs hi h01 hm hp ne n0 n1 h1 h2 e
theorem zLi {w h:Nat}{s:Pt×Pt}{p:Rat×Rat}(hp:p∈adj (zBZ w h s)){c r:Int}(c0:0<=c)(c1:c < w)(r0:0<=r)(r1:r < h):NC (rims (c:Rat) ((c+1:Int):Rat) (r:Rat) ((r+1:Int):Rat)) (ptAt s p.1) (ptAt s p.2):=fun l hl=>by
  have hi:=zF2 w h s;have h01:∀ t∈zBZ w h s,0<=t/\t<=1:=fun t ht=>zOJ ht
  have X:∀ n:Int,0<=n->n<=w->¬ zAJ ((ptAt s p.1).1 - n) ((ptAt s p.2).1 - n):=fun n n0 n1=>zET hi h01 (fun t ht=>zHh (zE5.mpr (.inl ht))) hp n0 n1
  have Y:∀ n:Int,0<=n->n<=h->¬ zAJ ((ptAt s p.1).2 - n) ((ptAt s p.2).2 - n):=fun n n0 n1=>zET hi h01 (fun t ht=>zHh (zE5.mpr (.inr ht))) hp n0 n1
  unfold rims at hl;simp only [mem_cons,not_mem_nil,or_false] at hl;rcases hl with rfl | rfl | rfl | rfl
  . rw [hq_y,hq_y];exact Y _ (by omega) (by omega)
  . rw [hq_y,hq_y];exact Y _ (by omega) (by omega)
  . rw [hq_x,hq_x];exact X _ (by omega) (by omega)
  . rw [hq_x,hq_x];exact X _ (by omega) (by omega)
def dzM (c r:Int)(p q:Pt):Rat:=if ((p.2+q.2) / 2).floor=r then (if ((p.1+q.1) / 2).floor < c then p.2 - q.2 else if ((p.1+q.1) / 2).floor=c then (p.2 - q.2)*(((c+1:Int):Rat) - (p.1+q.1) / 2) else 0) else 0
theorem zTr {x:Rat}{n:Int}:x.floor < n<->x < (n:Rat):=Rat.floor_lt_iff
theorem zTs {x:Rat}{n:Int}:x.floor=n<->(n:Rat)<=x/\x < ((n+1:Int):Rat):=by
  constructor
  . rintro rfl;exact ⟨Rat.floor_le x,Rat.floor_lt_iff.mp (by omega)⟩
  . rintro ⟨h1,h2⟩;have a:=Rat.le_floor_iff.mpr h1;have b:=Rat.floor_lt_iff.mpr h2;omega
theorem zSe (c r:Int)(p q:Pt):dzM c r p q=if (r:Rat)<=(p.2+q.2) / 2/\(p.2+q.2) / 2 < ((r+1:Int):Rat) then (if (p.1+q.1) / 2 < (c:Rat) then p.2 - q.2 else if (c:Rat)<=(p.1+q.1) / 2/\(p.1+q.1) / 2 < ((c+1:Int):Rat) then (p.2 - q.2)*(((c+1:Int):Rat) - (p.1+q.1) / 2) else 0) else 0:=by
  unfold dzM;simp only [zTs,zTr]
theorem zTu {c r:Int}{p q:Pt}(n:NC (rims (c:Rat) ((c+1:Int):Rat) (r:Rat) ((r+1:Int):Rat)) p q):f0 (c:Rat) ((c+1:Int):Rat) (r:Rat) ((r+1:Int):Rat) (p,q)=dzM c r p q:=by
  have nx1:=n (xL c) (by simp [rims]);have nx2:=n (xL (c+1:Int)) (by simp [rims]);have ny1:=n (yL r) (by simp [rims]);have ny2:=n (yL (r+1:Int)) (by simp [rims]);rw [hq_x,hq_x] at nx1 nx2;rw [hq_y,hq_y] at ny1 ny2;have ec:((c+1:Int):Rat)=(c:Rat)+1:=by rw [Rat.intCast_add];rfl
  have er:((r+1:Int):Rat)=(r:Rat)+1:=by rw [Rat.intCast_add];rfl
  unfold zAJ at *;rw [zSe,zDO (p.2+q.2),zDO (p.1+q.1)];unfold f0;dsimp only;rw [ec] at nx2 ⊢;rw [er] at ny2 ⊢;generalize (c:Rat)=C at *;generalize (r:Rat)=R at *;obtain ⟨x,y⟩:=p;obtain ⟨z,v⟩:=q;dsimp only at *;by_cases y1:R<=1 / 2*(y+v)/\1 / 2*(y+v) < R+1
  . rw [if_pos y1];have e3:clp R (R+1) y=y:=by unfold clp;grind
    have e4:clp R (R+1) v=v:=by unfold clp;grind
    rw [e3,e4];by_cases x1:1 / 2*(x+z) < C
    . rw [if_pos x1];have e1:uQ C (C+1) x=1:=by unfold uQ clp;grind
      have e2:uQ C (C+1) z=1:=by unfold uQ clp;grind
      rw [e1,e2];grind
    . rw [if_neg x1];by_cases x2:C<=1 / 2*(x+z)/\1 / 2*(x+z) < C+1
      . rw [if_pos x2];have e1:uQ C (C+1) x=C+1 - x:=by unfold uQ clp;grind
        have e2:uQ C (C+1) z=C+1 - z:=by unfold uQ clp;grind
        rw [e1,e2];grind
      . rw [if_neg x2];have e1:uQ C (C+1) x=0:=by unfold uQ clp;grind
        have e2:uQ C (C+1) z=0:=by unfold uQ clp;grind
        rw [e1,e2];grind
  . rw [if_neg y1];have e:clp R (R+1) y=clp R (R+1) v:=by
      by_cases y2:1 / 2*(y+v) < R
      . have e3:clp R (R+1) y=R:=by unfold clp;grind
        have e4:clp R (R+1) v=R:=by unfold clp;grind
        rw [e3,e4]
      . have e3:clp R (R+1) y=R+1:=by unfold clp;grind
        have e4:clp R (R+1) v=R+1:=by unfold clp;grind
        rw [e3,e4]
    rw [e];grind
theorem zDz (c:Int):(c:Rat)<=((c+1:Int):Rat):=by
  have:=Rat.intCast_le_intCast.mpr (show c<=c+1 by omega);exact this
theorem zLX {w h:Nat}(s:Pt×Pt){c r:Int}(c0:0<=c)(c1:c < w)(r0:0<=r)(r1:r < h):sumR ((adj (zBZ w h s)).map fun p=>dzM c r (ptAt s p.1) (ptAt s p.2))=boxG (c:Rat) ((c+1:Int):Rat) (r:Rat) ((r+1:Int):Rat) s:=by
  rw [<- zIq (zCl (zDz c) (zDz r)) w h s];refine zBQ fun p hp=>?_
  have n:=zLi hp c0 c1 r0 r1;rw [zBP n,zTu n]
theorem zQG {w h:Nat}{s:Pt×Pt}{p:Rat×Rat}{c r:Int}(c1:c < w)(r0:0<=r)(r1:r < h)(nk:¬ zGR w h s (mid2 p)):dzM c r (ptAt s p.1) (ptAt s p.2)=0:=by
  rw [zSe];unfold zGR at nk;rw [zHW,zHW] at nk;unfold ptAt;dsimp only;have a1:((c+1:Int):Rat)<=(w:Rat):=by exact_mod_cast (show c+1<=(w:Int) by omega)
  have a2:((r+1:Int):Rat)<=(h:Rat):=by exact_mod_cast (show r+1<=(h:Int) by omega)
  have a3:(0:Rat)<=(r:Rat):=by exact_mod_cast r0
  have a4:=zDz c;generalize (pw s.1.1 s.2.1 p.1+pw s.1.1 s.2.1 p.2) / 2=x at *;generalize (pw s.1.2 s.2.2 p.1+pw s.1.2 s.2.2 p.2) / 2=y at *;by_cases z:(r:Rat)<=y/\y < ((r+1:Int):Rat)
  . rw [if_pos z,if_neg (by grind),if_neg (by grind)]
  . rw [if_neg z]
def Aff (T:Pt->Pt):Prop:=∀ p q t,ptAt (T p,T q) t=T (ptAt (p,q) t)
theorem Ad.comp {f:Pt×Pt->Rat}(hf:Ad [] f){T:Pt->Pt}(hT:Aff T):Ad [] fun s=>f (T s.1,T s.2):=fun s a c b h1 h2 _=>by
  have k:=hf.go (T s.1,T s.2) h1 h2;rw [hT,hT,hT] at k;exact k
theorem zHE (f:Pt×Pt->Rat)(T:Pt->Pt):∀ l:List Pt,wayG f (l.map T)=wayG (fun s=>f (T s.1,T s.2)) l
  | []=>by simp [zHD]
  | [a]=>by simp [zEp]
  | a::b::r=>by
    have ih:=zHE f T (b::r);simp only [map_cons] at ih ⊢;rw [zDb,zDb,ih]
theorem zIE (f:Pt×Pt->Rat)(T:Pt->Pt)(ps:List Pt):zAg f (ps.map T)=zAg (fun s=>f (T s.1,T s.2)) ps:=by
  unfold zAg;rw [<- zHE,map_append,List.map_take]
theorem zDU {f g:Pt×Pt->Rat}(h:∀ s,f s=g s)(ps:List Pt):zAg f ps=zAg g ps:=by
  have:f=g:=funext h;rw [this]
theorem zFj {f g:Pt×Pt->Rat}{k:Rat}{ψ:Pt->Rat}(h:∀ p q,f (p,q)=k*g (p,q)+(ψ q - ψ p))(ps:List Pt):zAg f ps=k*zAg g ps:=by
  rw [<- zBm,<- zBm];have e:sumR ((zAf ps).map f)=sumR ((zAf ps).map fun s=>k*g s+(ψ s.2 - ψ s.1)):=zBQ fun s _=>h s.1 s.2
  have m:∀ l:List (Pt×Pt),sumR (l.map fun s=>k*g s)=k*sumR (l.map g):=fun l=>by
    induction l with
    | nil=>simp [sumR]
    | cons x l ih=>simp only [map_cons,sumR,ih];grind
  rw [e,zCS (fun s=>k*g s) (fun s=>ψ s.2 - ψ s.1),zGW,m];grind
def scT (k:Rat)(p:Pt):Pt:=(p.1*k,p.2*k)
theorem zSu (k:Rat):Aff (scT k):=fun p q t=>by unfold scT ptAt pw;ext<;>grind
theorem zO2 {a b c d:Rat}{p q:Pt}:NC (rims a b c d) p q<->¬ zAJ (p.1 - a) (q.1 - a)/\¬ zAJ (p.1 - b) (q.1 - b)/\¬ zAJ (p.2 - c) (q.2 - c)/\¬ zAJ (p.2 - d) (q.2 - d):=by
  constructor
  . intro n;have nx1:=n (xL a) (by simp [rims]);have nx2:=n (xL b) (by simp [rims]);have ny1:=n (yL c) (by simp [rims]);have ny2:=n (yL d) (by simp [rims]);rw [hq_x,hq_x] at nx1 nx2;rw [hq_y,hq_y] at ny1 ny2;exact ⟨nx1,nx2,ny1,ny2⟩
  . rintro ⟨h1,h2,h3,h4⟩ l hl;unfold rims at hl;simp only [mem_cons,not_mem_nil,or_false] at hl;rcases hl with rfl | rfl | rfl | rfl
    . rw [hq_y,hq_y];exact h4
    . rw [hq_y,hq_y];exact h3
    . rw [hq_x,hq_x];exact h2
    . rw [hq_x,hq_x];exact h1
theorem zId {T:Pt->Pt}(hT:Aff T){a b c d a' b' c' d' k:Rat}{ψ:Pt->Rat}(hab:a<=b)(hcd:c<=d)(hab':a'<=b')(hcd':c'<=d')
    (hn:∀ p q,NC (rims a b c d) p q->NC (rims a' b' c' d') (T p) (T q)) (h0:∀ p q,NC (rims a b c d) p q->f0 a' b' c' d' (T p,T q)=k*f0 a b c d (p,q)+(ψ q - ψ p)) (p q:Pt) :
    boxG a' b' c' d' (T p,T q)=k*boxG a b c d (p,q)+(ψ q - ψ p):=by
  refine zDc zFH ((zCl hab' hcd').comp hT) (((zCl hab hcd).mul k).add (zQS ψ)) (L:=rims a b c d) (fun p q _ _ n=>?_) p q trivial trivial;show boxG a' b' c' d' (T p,T q)=k*boxG a b c d (p,q)+(ψ q - ψ p);rw [zBP (hn p q n),zBP n,h0 p q n]
theorem zGb {a b c d:Rat}(hab:a<=b)(hcd:c<=d)(ps:List Pt):zAg (boxG a b c d) (ps.map (scT (1 / 2)))=1 / 4*zAg (boxG (2*a) (2*b) (2*c) (2*d)) ps:=by
  rw [zIE,zFj (k:=1 / 4) (ψ:=fun _=>0) (g:=boxG (2*a) (2*b) (2*c) (2*d)) fun p q=>?_];refine zId (ψ:=fun _=>0) (zSu (1 / 2)) (by grind) (by grind) hab hcd (fun p q n=>?_) (fun p q n=>?_) p q
  . rw [zO2] at n ⊢;have k:∀ x y z:Rat,zAJ (x*(1 / 2) - z) (y*(1 / 2) - z)->zAJ (x - 2*z) (y - 2*z):=fun x y z h=>by unfold zAJ at *;grind
    exact ⟨fun h=>n.1 (k _ _ _ h),fun h=>n.2.1 (k _ _ _ h),fun h=>n.2.2.1 (k _ _ _ h),fun h=>n.2.2.2 (k _ _ _ h)⟩
  . have k:∀ x y z:Rat,clp x y (z*(1 / 2))=1 / 2*clp (2*x) (2*y) z:=fun x y z=>by unfold clp;grind
    unfold f0 uQ scT;dsimp only;rw [k,k,k,k];grind
end DM
end
section
namespace DL
open PySem L2
def Bd (n:Nat)(i:Int):Prop:=i.natAbs < 2^n
theorem zFO {n:Nat}{i:Int}(h:Bd n i):Builtin.Int.intBits i<=n:=by
  unfold Builtin.Int.intBits;split
  . exact zero_le _
  . rename_i hz;have hp:i.natAbs≠0:=by
      intro z;apply hz;have:i=0:=by omega
      subst this;rfl
    exact (Nat.log2_lt hp).mpr h
theorem zJi {m n:Nat}{i j:Int}(h1:Bd m i)(h2:Bd n j)(h3:m+n<=134217728):IntMulOk i j:=IntMulOk.of_le (zFO h1) (zFO h2) h3
theorem zJh {i j:Int}(h:j.natAbs < 2^64):IntMulOk i j:=IntMulOk.of_right (zFO (n:=64) h)
theorem zBI {i j:Int}(h:i.natAbs < 2^64):IntMulOk i j:=IntMulOk.of_left (zFO (n:=64) h)
theorem Bd.mono {m n:Nat}{i:Int}(h:Bd m i)(l:m<=n):Bd n i:=lt_of_lt_of_le h (Nat.pow_le_pow_right (by decide) l)
theorem zBd {m n:Nat}{i j:Int}(h1:Bd m i)(h2:Bd n j):Bd (m+n) (i*j):=by
  unfold Bd at *;rw [Int.natAbs_mul,Nat.pow_add];exact Nat.mul_lt_mul'' h1 h2
theorem zHY (m n:Nat):2^m+2^n<=2^(Nat.max m n+1):=by
  have h1:2^m<=2^(Nat.max m n):=Nat.pow_le_pow_right (by decide) (Nat.le_max_left m n);have h2:2^n<=2^(Nat.max m n):=Nat.pow_le_pow_right (by decide) (Nat.le_max_right m n);rw [Nat.pow_succ];omega
theorem zSo {m n:Nat}{i j:Int}(h1:Bd m i)(h2:Bd n j):Bd (Nat.max m n+1) (i+j):=by
  unfold Bd at *;have:=zHY m n;have:=Int.natAbs_add_le i j;omega
theorem zSn {m n:Nat}{i j:Int}(h1:Bd m i)(h2:Bd n j):Bd (Nat.max m n+1) (i - j):=by
  unfold Bd at *;have:=zHY m n;have:=Int.natAbs_sub_le i j;omega
def ratD (q:Rat):D:=.tup [.int q.num,.int (q.den:Int)]
structure RB (n:Nat)(q:Rat):Prop where
  num:Bd n q.num
  den:Bd n (q.den:Int)
theorem RB.mono {m n:Nat}{q:Rat}(h:RB m q)(l:m<=n):RB n q:=⟨h.num.mono l,h.den.mono l⟩
theorem zFo {n:Nat}{t b:Int}(hb:b≠0)(h1:Bd n t)(h2:Bd n b):RB n (Rat.divInt t b) :=
  ⟨Nat.lt_of_le_of_lt (DM.zRR t b hb) h1,Nat.lt_of_le_of_lt (by simpa using DM.zSg t b hb) h2⟩
theorem zA6 (q:Rat):(q.den:Int)≠0:=by have:=q.den_nz;omega
theorem zQI (q:Rat):(0:Int) < (q.den:Int):=by have:=q.den_nz;omega
theorem zOA (p q:Rat):p+q=Rat.divInt (p.num*q.den+q.num*p.den) (p.den*q.den):=by
  have:=Rat.divInt_add_divInt p.num q.num (zA6 p) (zA6 q);rw [Rat.num_divInt_den,Rat.num_divInt_den] at this;exact this
theorem zNH (p q:Rat):p - q=Rat.divInt (p.num*q.den - q.num*p.den) (p.den*q.den):=by
  have:=Rat.divInt_sub_divInt p.num q.num (zA6 p) (zA6 q);rw [Rat.num_divInt_den,Rat.num_divInt_den] at this;exact this
theorem zNh (p q:Rat):p*q=Rat.divInt (p.num*q.num) (p.den*q.den):=by
  have:=Rat.divInt_mul_divInt p.num q.num (d₁:=p.den) (d₂:=q.den);rw [Rat.num_divInt_den,Rat.num_divInt_den] at this;exact this
theorem zN3 (p q:Rat):p / q=Rat.divInt (p.num*q.den) (p.den*q.num):=by
  have e:q⁻¹=Rat.divInt q.den q.num:=by
    conv=>lhs;rw [<- Rat.num_divInt_den q,Rat.inv_divInt]
  rw [Rat.div_def,e];have:=Rat.divInt_mul_divInt p.num (q.den:Int) (d₁:=p.den) (d₂:=q.num);rw [Rat.num_divInt_den] at this;exact this
theorem zDX {a b:Int}(h1:a≠0)(h2:b≠0):a*b≠0:=Int.mul_ne_zero h1 h2
theorem zB7 {m n:Nat}{p q:Rat}(h1:RB m p)(h2:RB n q):RB (m+n+1) (p+q):=by
  rw [zOA];refine zFo (zDX (zA6 p) (zA6 q)) ?_ ((zBd h1.den h2.den).mono (by omega));refine (zSo (zBd h1.num h2.den) (zBd h2.num h1.den)).mono ?_;rw [Nat.add_comm n m];show Nat.max (m+n) (m+n)+1<=_;have:Nat.max (m+n) (m+n)=m+n:=Nat.max_self _;omega
theorem zCg {m n:Nat}{p q:Rat}(h1:RB m p)(h2:RB n q):RB (m+n+1) (p - q):=by
  rw [zNH];refine zFo (zDX (zA6 p) (zA6 q)) ?_ ((zBd h1.den h2.den).mono (by omega));refine (zSn (zBd h1.num h2.den) (zBd h2.num h1.den)).mono ?_;rw [Nat.add_comm n m];have:Nat.max (m+n) (m+n)=m+n:=Nat.max_self _;omega
theorem zES {m n:Nat}{p q:Rat}(h1:RB m p)(h2:RB n q):RB (m+n) (p*q):=by
  rw [zNh];exact zFo (zDX (zA6 p) (zA6 q)) (zBd h1.num h2.num) (zBd h1.den h2.den)
theorem zNf {q:Rat}(h:q≠0):q.num≠0:=fun z=>h (Rat.num_eq_zero.mp z)
theorem zGc {m n:Nat}{p q:Rat}(hq:q≠0)(h1:RB m p)(h2:RB n q):RB (m+n) (p / q):=by
  rw [zN3];exact zFo (zDX (zA6 p) (zNf hq)) (zBd h1.num h2.den) (zBd h1.den h2.num)
theorem zC2 {n:Nat}{i:Int}(h:Bd n i)(h1:1<=n):RB n (i:Rat):=by
  refine ⟨?_,?_⟩
  . simpa using h
  . show (((i:Rat).den:Int)).natAbs < 2^n;have e:(i:Rat).den=1:=rfl;rw [e];exact Nat.one_lt_two_pow (by omega)
def zRV:S:=.cons (.whl (.cmp .Gt (.var 1) (.int 0)) (.cons (.set 2 (.bin .Mod (.var 0) (.var 1))) (.cons (.set 0 (.var 1)) (.cons (.set 1 (.var 2)) .nil)))) (.cons (.ret (.var 0)) .nil)
theorem x_bl {b:Bool}{k:Kd}{P:Bool->Prop}(h:P b):∃ c,((D.bl b,k):R).1=.bl c/\P c:=⟨b,rfl,h⟩
theorem zS0 {i:Int}{k:Kd}{P:Int->Prop}(h:P i):∃ j,((D.int i,k):R).1=.int j/\P j:=⟨i,rfl,h⟩
theorem x_cl {d:D}{P:Bool->Prop}(h:P false):∃ o,ownK ((d,Kd.cl):R).2=some o/\P o:=⟨false,rfl,h⟩
theorem x_fr {d:D}{P:Bool->Prop}(h:P true):∃ o,ownK ((d,Kd.fr):R).2=some o/\P o:=⟨true,rfl,h⟩
theorem n_cl {d:D}{P:Prop}(h:P):((d,Kd.cl):R).2≠.dt/\P:=⟨(fun z=>nomatch z),h⟩
theorem n_fr {d:D}{P:Prop}(h:P):((d,Kd.fr):R).2≠.dt/\P:=⟨(fun z=>nomatch z),h⟩
theorem y_l {ds:List D}{k:Kd}{P:List D->Prop}(h:P ds):∃ d,((D.lst ds,k):R).1=.lst d/\P d:=⟨ds,rfl,h⟩
theorem zPP {q:Rat}{Q:R->Prop}(h:Q (.int q.num,.cl)):EvP (ixD (ratD q) (.int 0)) Q:=zDN rfl h
theorem zPQ {q:Rat}{Q:R->Prop}(h:Q (.int (q.den:Int),.cl)):EvP (ixD (ratD q) (.int 1)) Q:=zDN rfl h
theorem zRk {q:Rat}{Q:R->Prop}(h:Q (.bl true,.cl)):EvP (isiF .tuple (ratD q)) Q:=⟨_,rfl,h⟩
theorem zTT {q:Rat}{Q:R->Prop}(h:Q (.int 2,.cl)):EvP (lenD (ratD q)) Q:=zMB h
end DL
end
open PySem L2 DL
open PySem L2 DL
local macro_rules | `(tactic| walk_at "s")=>`(tactic| simp only [List.set_cons_zero,List.set_cons_succ])
local macro_rules | `(tactic| walk_at "ev")=>`(tactic| first
  | ((with_reducible show EvP (evE _ (E.var _) _) _);first | refine zAH rfl ?_ | refine zTv rfl ?_)
  | (with_reducible first | refine zAS ?_ | refine zTw ?_ | refine zA0 ?_ | refine zBV ?_ | refine zBA ?_ | refine zD8 ?_ | refine zSR ?_ | refine zBD ?_ | refine zST ?_ | refine zSP ?_ | refine zBp ?_ | refine zD9 ?_ | refine zTX ?_ | refine zTY ?_ | refine is_bb ?_ | refine is_tt ?_ | refine zJ5 ?_ | refine zRk ?_ | refine zPy ?_ | refine zDB ?_ | refine zFC ?_ | refine zPz ?_ | refine zDC ?_ | refine zCi ?_ | refine zNz ?_ | refine zAi ?_ | refine zAC ?_ | refine ls_nil ?_ | refine ls_cons ?_ | refine zGt ?_ | refine zSQ ?_ | refine ev_min ?_ | refine zPw ?_ | refine zSb ?_ | refine zQF ?_ | refine zNy ?_ | refine ev_str ?_ | refine zG5 ?_ | refine zSq ?_ | refine c_lt ?_ | refine c_le ?_ | refine c_gt ?_ | refine c_ge ?_ | refine zT4 ?_ | refine zG4 ?_ | refine c_eqB ?_ | refine c_neB ?_ | refine zPP ?_ | refine zPQ ?_ | refine zEN ?_ | refine zMB ?_ | refine zTT ?_ | refine zT7 ?_ | refine zNF ?_ | refine t_listT ?_ | refine zTP ?_ | refine m_min ?_ | refine zAu ?_ | refine zAE ?_ | refine zEb ?_ | refine zGw ?_ | refine zCj ?_ | refine zCN ?_ | refine es_retN ?_ | refine es_drop ?_ | refine zN0 ?_ | refine zB2 ?_ | refine es_for2 ?_ | refine zFZ ?_ | refine zIB ?_ | refine sr_r2 ?_ | refine zQj ?_ | refine zDD ?_ | refine zKW ?_ | refine w_cl ?_ | refine w_fr ?_ | refine w_tu ?_) | ((with_reducible refine k_nx ?_);try (walk_at "s")) | (with_reducible first | refine k_rt ?_ | refine k_bk ?_ | refine k_ct ?_ | refine zTU ?_ | refine kd_nx ?_ | refine y_cl ?_ | refine y_fr ?_ | refine y_l ?_ | refine y_t ?_ | refine zNw ?_) | ((with_reducible refine kf_nx ?_);try (walk_at "s")) | (with_reducible first | refine kf_ct ?_ | refine kf_bk ?_ | refine kf_rt ?_ | refine fl_b ?_ | refine fl_i ?_ | refine cb_t ?_ | refine cb_f ?_ | refine zEG ?_ | refine x_bl ?_ | refine zS0 ?_ | refine x_cl ?_ | refine x_fr ?_ | refine n_cl ?_ | refine n_fr ?_)
  | ((with_reducible show EvP (forD (tg1 _) _ (_::_) _) _);refine zKR rfl ?_;try (walk_at "s")) | ((with_reducible show EvP (ixD (D.lst (_::_)) (D.int _)) _);refine zAz rfl ?_)
  | ((with_reducible show List.length _<=10000/\_);refine ⟨zzb rfl,?_⟩) | ((with_reducible show EvP (evE _ (E.call _ _ _) _) _);refine zAQ rfl ?_) | ((with_reducible show EvP (evE _ (E.lend _ _ _) _) _);refine ev_lend rfl ?_) | ((with_reducible show EvP (evE _ (E.glob _ _) _) _);refine zFB rfl ?_)
  | ((with_reducible show EvP (ixD (D.tup _) (D.int _)) _);refine zDN rfl ?_) | ((with_reducible show EvP (evS _ (S.retOwn _) _) _);refine zKg rfl ?_) | ((with_reducible show EvP (evSs _ (S.frz _ _) _) _);first | refine zKV rfl ?_ | (refine zHn rfl ?_;try (walk_at "s"))))
local macro_rules | `(tactic| walk_at "st")=>`(tactic| simp only [map_cons,map_nil,cons_append,nil_append,replicate_succ,List.replicate_zero,Nat.reduceSub,append_nil,List.replicate])
open PySem L2 DL
local macro_rules | `(tactic| walk_at "w")=>`(tactic| (repeat walk_at "ev"))
open PySem L2 DL
local macro_rules | `(tactic| walk_at "d")=>`(tactic| refine zTt rfl (by decide) ?_)
section
namespace DL
open PySem L2
theorem zJn {Γ:Gm}{Q:Out->Prop}:∀ (n:Nat) (a b:Int) (r:Option (D×Bool)),b.toNat<=n->0<=a->0<=b->(∀ r',Q (.nx [some (.int (Int.gcd a b:Int),false),some (.int 0,false),r'])) ->
    EvP (zBS (asB (evE Γ (.cmp .Gt (.var 1) (.int 0)))) (evSs Γ (.cons (.set 2 (.bin .Mod (.var 0) (.var 1))) (.cons (.set 0 (.var 1)) (.cons (.set 1 (.var 2)) .nil)))) [some (.int a,false),some (.int b,false),r]) Q:=by
  intro n
  induction n with
  | zero =>
    intro a b r hn ha hb q;have e:b=0:=by omega
    subst e;refine zCF (as_b ?_);(walk_at "w");refine zCQ (Int.lt_irrefl 0) ?_;have:(Int.gcd a 0:Int)=a:=by rw [Int.gcd_zero_right];omega
    rw [this] at q;exact q r
  | succ n ih =>
    intro a b r hn ha hb q;by_cases e:b=0
    . subst e;refine zCF (as_b ?_);(walk_at "w");refine zCQ (Int.lt_irrefl 0) ?_;have:(Int.gcd a 0:Int)=a:=by rw [Int.gcd_zero_right];omega
      rw [this] at q;exact q r
    . refine zCF (as_b ?_);(walk_at "w");refine zBs (show 0 < b by omega) ?_;(walk_at "w");refine zCc e ?_;(walk_at "w");have h1:=fmod_nonneg_of_pos a (show 0 < b by omega);have h2:=fmod_lt_of_pos a (show 0 < b by omega);refine ih b (a.fmod b) (some (.int (a.fmod b),false)) (by omega) hb h1 fun r'=>?_
      rw [DM.zMQ ha (by omega)];exact q r'
theorem zJm {Γ:Gm}{a b:Int}{Q:R->Prop}(ha:0<=a)(hb:0<=b)(h:Q (.int (Int.gcd a b:Int),.cl)):EvP (dFun 2 3 (evSs Γ zRV) [.int a,.int b]) Q:=by
  (walk_at "d");unfold zRV
  walk_at "ev"
  walk_at "ev"
  refine zJn b.toNat a b none (le_refl _) ha hb fun r'=>?_
  (walk_at "w");exact h
def zM5:S:=.cons (.ret (.andl (.cons (.isi .int (.var 0)) (.cons (.not (.isi .bool (.var 0))) .nil)))) .nil
theorem zLL {Γ:Gm}{i:Int}{Q:R->Prop}(h:Q (.bl true,.cl)):EvP (dFun 1 1 (evSs Γ zM5) [.int i]) Q:=by
  (walk_at "d");unfold zM5;(walk_at "w");exact h
def isB (nw nm:Nat):S:=.cons (.ife (.orl (.cons (.not (.isi .tuple (.var 0))) (.cons (.cmp .NotEq (.len (.var 0)) (.int 2)) .nil))) (.cons (.ret (.bl false)) .nil) .nil) (.cons (.ife (.orl (.cons (.not (.call nw "_law_whole" (.cons (.ix (.var 0) (.int 0)) .nil))) (.cons (.not (.call nw "_law_whole" (.cons (.ix (.var 0) (.int 1)) .nil))) (.cons (.cmp .Lt (.ix (.var 0) (.int 1)) (.int 1)) .nil)))) (.cons (.ret (.bl false)) .nil) .nil) (.cons (.ret (.andl (.cons (.cmp .Eq (.bin .Mult (.ix (.var 0) (.int 0)) (.var 2)) (.bin .Mult (.var 1) (.ix (.var 0) (.int 1)))) (.cons (.cmp .Eq (.call nm "_law_most" (.cons (.abs (.ix (.var 0) (.int 0))) (.cons (.ix (.var 0) (.int 1)) .nil))) (.int 1)) .nil)))) .nil))
def zOB (F:List D->Option R):Prop:=∀ (i:Int) (Q:R->Prop),Q (.bl true,.cl)->EvP (F [.int i]) Q
def zIg (F:List D->Option R):Prop:=∀ (a b:Int) (Q:R->Prop),0<=a->0<=b->Q (.int (Int.gcd a b:Int),.cl)->EvP (F [.int a,.int b]) Q
theorem zTW {Γ:Gm}{nw nm:Nat}{Fw Fm:List D->Option R}(ew:Γ.fns[nw]?=some (("_law_whole":Str),Fw))(em:Γ.fns[nm]?=some (("_law_most":Str),Fm))(hw:zOB Fw)(hm:zIg Fm){q:Rat}{t b:Int}{Q:R->Prop}(l1:IntMulOk q.num b)(l2:IntMulOk t q.den)
    (h:Q (.bl (decide (q.num*b=t*q.den)),.cl)):EvP (dFun 3 3 (evSs Γ (isB nw nm)) [ratD q,.int t,.int b]) Q:=by
  (walk_at "d");unfold isB;(walk_at "w");refine zBs rfl ?_;(walk_at "w");refine zAQ ew ?_;(walk_at "w");refine hw _ _ ?_;(walk_at "w");refine zAQ ew ?_;(walk_at "w");refine hw _ _ ?_;(walk_at "w");have hd:=zQI q;refine zCQ (by omega) ?_;(walk_at "w");refine zAw l1 ?_;(walk_at "w");refine zAw l2 ?_;(walk_at "w");refine zBJ (fun e=>?_) fun e=>?_
  . refine zFC (zBV (zAQ em ?_));(walk_at "w");refine hm _ _ _ (Int.natCast_nonneg _) (Int.natCast_nonneg _) ?_;(walk_at "w");have g:((Int.gcd (q.num.natAbs:Int) (q.den:Int):Nat):Int)=1:=by
      have:=DM.zGp q;unfold Int.gcd at this ⊢;simp only [Int.natAbs_natCast] at this ⊢;omega
    rw [decide_eq_true g];rw [decide_eq_true e] at h;exact h
  . rw [decide_eq_false e] at h;(walk_at "w");exact h
def IsF (F:List D->Option R):Prop:=∀ (q:Rat) (t b:Int) (Q:R->Prop),IntMulOk q.num b->IntMulOk t q.den->Q (.bl (decide (q.num*b=t*q.den)),.cl)->EvP (F [ratD q,.int t,.int b]) Q
def zLR (nm:Nat)(f:Str):S:=.cons (.set 2 (.call nm f (.cons (.abs (.var 0)) (.cons (.abs (.var 1)) .nil)))) (.cons (.ife (.cmp .Lt (.var 1) (.int 0)) (.cons (.set 2 (.neg (.var 2))) .nil) .nil) (.cons (.ret (.tup (.cons (.bin .FloorDiv (.var 0) (.var 2)) (.cons (.bin .FloorDiv (.var 1) (.var 2)) .nil)))) .nil))
theorem zPk (t b:Int):((Int.gcd (t.natAbs:Int) (b.natAbs:Int):Nat):Int)=(Int.gcd t b:Int):=by
  unfold Int.gcd;simp only [Int.natAbs_natCast]
theorem zO4 {t b:Int}(hb:b≠0)(sb:Bd 60000000 b)(i:Int):zIi i (DM.msr t b):=DM.zRU hb
theorem zIo {Γ:Gm}{nm:Nat}{f:Str}{Fm:List D->Option R}(em:Γ.fns[nm]?=some (f,Fm))(hm:zIg Fm){t b:Int}{x:Option (D×Bool)}{Q:Out->Prop}(hb:b≠0)(sb:Bd 60000000 b)
    (h:Q (.rt (ratD (Rat.divInt t b),.cl))):EvP (evSs Γ (zLR nm f) [some (.int t,false),some (.int b,false),x]) Q:=by
  unfold zLR;refine zAE (zEb (zAQ em ?_));(walk_at "w");refine hm _ _ _ (Int.natCast_nonneg _) (Int.natCast_nonneg _) ?_;rw [zPk];(walk_at "w");have fin:∀ g:Int,g=DM.msr t b->Q (.rt (.tup [.int (t.fdiv g),.int (b.fdiv g)],.cl)):=fun g e=>by
    subst e;rw [DM.zJk hb,DM.zO5 hb];exact h
  have dv:∀ g i:Int,g=DM.msr t b->zIi i g:=fun g i e=>by subst e;exact zO4 hb sb i
  refine zBJ (fun c=>?_) fun c=>?_
  . have e:(-(Int.gcd t b:Int))=DM.msr t b:=by unfold DM.msr;rw [if_pos c]
    (walk_at "w");refine zDS (dv _ _ e) ?_;(walk_at "w");refine zDS (dv _ _ e) ?_;(walk_at "w");exact fin _ e
  . have e:(Int.gcd t b:Int)=DM.msr t b:=by unfold DM.msr;rw [if_neg c]
    (walk_at "w");refine zDS (dv _ _ e) ?_;(walk_at "w");refine zDS (dv _ _ e) ?_;(walk_at "w");exact fin _ e
def zDZ (F:List D->Option R):Prop:=∀ (t b:Int) (Q:R->Prop),b≠0->Bd 60000000 b->Q (ratD (Rat.divInt t b),.cl)->EvP (F [.int t,.int b]) Q
theorem zJt {Γ:Gm}{nm:Nat}{Fm:List D->Option R}(em:Γ.fns[nm]?=some (("_law_most":Str),Fm))(hm:zIg Fm):zDZ (dFun 2 3 (evSs Γ (zLR nm "_law_most"))):=fun t b Q hb sb h=>by
  (walk_at "d");exact zIo em hm hb sb h
def zNR (nm:Nat)(x:S):S:=.cons (.ife (.cmp .Eq (.var 1) (.int 0)) (.cons x .nil) .nil) (zLR nm "common_measure")
theorem zLe {Γ:Gm}{nm:Nat}{x:S}{Fm:List D->Option R}(em:Γ.fns[nm]?=some (("common_measure":Str),Fm))(hm:zIg Fm):zDZ (dFun 2 3 (evSs Γ (zNR nm x))):=fun t b Q hb sb h=>by
  (walk_at "d");unfold zNR;(walk_at "w");refine zCQ hb ?_;(walk_at "w");exact zIo em hm hb sb h
def cel (ns:List Int)(k:Int):Int :=
  if k < (ns.length:Int) then ns.getD k.toNat 0 else
    let seed:=if (0:Int) < (ns.length:Int) then k*7919+(ns.getD (k.fmod (ns.length:Int)).toNat 0).fmod 65537 else k*7919
    let some:=(seed*48271).fmod 65537
    ((some*(some+2*k+1)).fdiv 7).fmod 65521
def zSl:S:=.cons (.ife (.cmp .Lt (.var 1) (.len (.var 0))) (.cons (.ret (.ix (.var 0) (.var 1))) .nil) .nil) (.cons (.set 2 (.bin .Mult (.var 1) (.int 7919))) (.cons (.ife (.cmp .Gt (.len (.var 0)) (.int 0)) (.cons (.set 2 (.bin .Add (.var 2) (.bin .Mod (.ix (.var 0) (.bin .Mod (.var 1) (.len (.var 0)))) (.int 65537)))) .nil) .nil) (.cons (.set 3 (.bin .Mod (.bin .Mult (.var 2) (.int 48271)) (.int 65537))) (.cons (.ret (.bin .Mod (.bin .FloorDiv (.bin .Mult (.var 3) (.bin .Add (.bin .Add (.var 3) (.bin .Mult (.int 2) (.var 1))) (.int 1))) (.int 7)) (.int 65521))) .nil))))
def scr (ns:List Int):D:=.lst (ns.map D.int)
theorem zHQ {ns:List Int}{k:Int}(h0:0<=k)(h1:k < (ns.length:Int)):atI (ns.map D.int) k=some (.int (ns.getD k.toNat 0)):=by
  have hk:k.toNat < ns.length:=by omega
  have ek:k=((k.toNat:Nat):Int):=by omega
  have q:atI (ns.map D.int) ((k.toNat:Nat):Int)=some (.int (ns.getD k.toNat 0)):=zAo (by
    rw [getElem?_map,getElem?_eq_getElem hk,getD_eq_getElem?_getD,getElem?_eq_getElem hk]
    rfl)
  rw [<- ek] at q;exact q
def zSy (F:List D->Option R):Prop:=∀ (ns:List Int) (k:Int) (Q:R->Prop),0<=k->Q (.int (cel ns k),.cl)->EvP (F [scr ns,.int k]) Q
theorem zFb (x:Int){m:Int}(h0:0 < m)(h1:m < 2^64):(x.fmod m).natAbs < 2^64:=by
  have a:=fmod_nonneg_of_pos x h0;have b:=fmod_lt_of_pos x h0;omega
theorem zCO {i j:Int}(h:j≠0)(h2:j.natAbs < 2^64):zIi i j:=h
theorem zQJ {Γ:Gm}:zSy (dFun 2 4 (evSs Γ zSl)):=fun ns k Q h0 h=>by
  (walk_at "d");unfold zSl;have el:((ns.map D.int).length:Int)=(ns.length:Int):=by rw [length_map]
  refine zAE (zCj (zBV (zAH rfl (zBD (zAH rfl ?_)))));show EvP (lenD (.lst (ns.map D.int))) _;(walk_at "w");rw [el];refine zBJ (fun c=>?_) fun c=>?_
  . refine zAE (zCN (zBA (zAH rfl (zAH rfl ?_))));show EvP (ixD (.lst (ns.map D.int)) (.int k)) _;refine zAz (zHQ h0 c) ?_;have e:cel ns k=ns.getD k.toNat 0:=by unfold cel;rw [if_pos c]
    rw [e] at h;(walk_at "w");exact h
  . unfold cel at h;rw [if_neg c] at h;(walk_at "w");refine zAw (zJh (by decide)) ?_;(walk_at "w");refine (show EvP (lenD (.lst (ns.map D.int))) _ from ?_);(walk_at "w");rw [el];refine zBJ (fun c2=>?_) fun c2=>?_
    . rw [if_pos c2] at h;(walk_at "w");refine (show EvP (lenD (.lst (ns.map D.int))) _ from ?_);(walk_at "w");rw [el];refine zCc (by omega) ?_;refine (show EvP (ixD (.lst (ns.map D.int)) (.int (k.fmod (ns.length:Int)))) _ from ?_);refine zAz (zHQ (fmod_nonneg_of_pos k c2) (fmod_lt_of_pos k c2)) ?_;(walk_at "w");refine zCc (by decide) ?_;(walk_at "w");refine zAw (zJh (by decide)) ?_;(walk_at "w");refine zCc (by decide) ?_;(walk_at "w");refine zAw (zBI (by decide)) ?_;(walk_at "w");refine zAw (zBI (zFb _ (by decide) (by decide))) ?_;(walk_at "w");refine zDS (zCO (by decide) (by decide)) ?_;(walk_at "w");refine zCc (by decide) ?_;(walk_at "w");exact h
    . rw [if_neg c2] at h;(walk_at "w");refine zAw (zJh (by decide)) ?_;(walk_at "w");refine zCc (by decide) ?_;(walk_at "w");refine zAw (zBI (by decide)) ?_;(walk_at "w");refine zAw (zBI (zFb _ (by decide) (by decide))) ?_;(walk_at "w");refine zDS (zCO (by decide) (by decide)) ?_;(walk_at "w");refine zCc (by decide) ?_;(walk_at "w");exact h
theorem zBT {n:Nat}{i:Int}{k:Nat}(h:i.natAbs<=k)(h2:k < 2^n):Bd n i:=Nat.lt_of_le_of_lt h h2
mutual
theorem zHr:∀ d:D,PyData.eqv (toPy d) (toPy d)=true
  | .non=>by simp [toPy,PyData.eqv]
  | .bl b=>by simp [toPy,PyData.eqv]
  | .int i=>by simp [toPy,PyData.eqv]
  | .str x=>by simp [toPy,PyData.eqv]
  | .tup ds=>by
    rw [toPy,PyData.eqv];exact eqbL_self ds
  | .lst ds=>by
    rw [toPy,PyData.eqv];exact eqbL_self ds
  | .exc _=>by simp [toPy,PyData.eqv]
  | .dct _=>by simp [toPy,PyData.eqv]
  | .lam _ _ _=>by simp [toPy,PyData.eqv]
theorem eqbL_self:∀ ds:List D,PyData.eqvAll (toPyL ds) (toPyL ds)=true
  | []=>by simp [toPyL,PyData.eqvAll]
  | d::ds=>by
    rw [toPyL,PyData.eqvAll,zHr d,eqbL_self ds]
    rfl
end
theorem zDj (d:D):eqb d d=true:=zHr d
def DOk (k:Nat)(d:D):Prop:=(toPy d).canLay0=true/\(toPy d).depth<=k
theorem zKr {k:Nat}(i:Int):DOk k (.int i):=⟨by simp [toPy,PyData.canLay0],by simp [toPy,PyData.depth]⟩
theorem zG0 {k:Nat}:∀ {ds:List D},(∀ d∈ds,DOk k d)->PyData.canLayAll0 (toPyL ds)=true/\PyData.depthAll (toPyL ds)<=k
  | [],_=>⟨by simp [toPyL,PyData.canLayAll0],by simp [toPyL,PyData.depthAll]⟩
  | d::ds,h=>by
    have h1:=h d mem_cons_self;have h2:=zG0 (ds:=ds) fun x z=>h x (mem_cons_of_mem _ z)
    refine ⟨by simp [toPyL,PyData.canLayAll0,h1.1,h2.1],?_⟩;simp only [toPyL,PyData.depthAll];exact Nat.max_le.mpr ⟨h1.2,h2.2⟩
theorem zKo {k:Nat}{ds:List D}(h:∀ d∈ds,DOk k d):DOk (k+1) (.tup ds):=by
  obtain ⟨h1,h2⟩:=zG0 h;exact ⟨by simp [toPy,PyData.canLay0,h1],by simp only [toPy,PyData.depth];omega⟩
theorem zKq {k:Nat}{ds:List D}(h:∀ d∈ds,DOk k d):DOk (k+1) (.lst ds):=by
  obtain ⟨h1,h2⟩:=zG0 h;exact ⟨by simp [toPy,PyData.canLay0,h1],by simp only [toPy,PyData.depth];omega⟩
theorem zFG (q:Rat):DOk 1 (ratD q):=zKo (k:=0) fun d h=>by
  rcases mem_cons.mp h with rfl | h
  . exact zKr _
  . rcases mem_cons.mp h with rfl | h
    . exact zKr _
    . exact absurd h (by simp)
theorem zFD {x y:D}{m n:Nat}(hx:DOk m x)(hy:DOk n y)(hm:m<=64):EqOk x y:=⟨hx.1,hy.1,le_trans hx.2 hm⟩
theorem zGx (p q:Rat):eqb (ratD p) (ratD q)=decide (p=q):=by
  by_cases h:p=q
  . subst h;rw [zDj,decide_eq_true rfl]
  . rw [decide_eq_false h];unfold eqb ratD;simp only [toPy,toPyL,PyData.eqv,PyData.eqvAll];cases e:(p.num==q.num&&(((p.den:Int)==(q.den:Int))&&true)) with
    | false=>rfl
    | true =>
      simp only [Bool.and_true,and_eq_true,beq_iff_eq] at e;exact absurd (Rat.ext e.1 (by have:=e.2;omega)) h
def zQz (nm:Str)(nr:Nat):S:=.cons (.ret (.call nr nm (.cons (.bin .Add (.bin .Mult (.ix (.var 0) (.int 0)) (.ix (.var 1) (.int 1))) (.bin .Mult (.ix (.var 1) (.int 0)) (.ix (.var 0) (.int 1)))) (.cons (.bin .Mult (.ix (.var 0) (.int 1)) (.ix (.var 1) (.int 1))) .nil)))) .nil
def zNi (nm:Str)(nr:Nat):S:=.cons (.ret (.call nr nm (.cons (.bin .Sub (.bin .Mult (.ix (.var 0) (.int 0)) (.ix (.var 1) (.int 1))) (.bin .Mult (.ix (.var 1) (.int 0)) (.ix (.var 0) (.int 1)))) (.cons (.bin .Mult (.ix (.var 0) (.int 1)) (.ix (.var 1) (.int 1))) .nil)))) .nil
def zNB (nm:Str)(nr:Nat):S:=.cons (.ret (.call nr nm (.cons (.bin .Mult (.ix (.var 0) (.int 0)) (.ix (.var 1) (.int 0))) (.cons (.bin .Mult (.ix (.var 0) (.int 1)) (.ix (.var 1) (.int 1))) .nil)))) .nil
def zJM (nm:Str)(nr:Nat):S:=.cons (.ret (.call nr nm (.cons (.bin .Mult (.ix (.var 0) (.int 0)) (.ix (.var 1) (.int 1))) (.cons (.bin .Mult (.ix (.var 0) (.int 1)) (.ix (.var 1) (.int 0))) .nil)))) .nil
def OpF (f:Rat->Rat->Rat)(F:List D->Option R):Prop:=∀ (p q:Rat) (m n:Nat) (Q:R->Prop),RB m p->RB n q->m+n<=60000000->Q (ratD (f p q),.cl)->EvP (F [ratD p,ratD q]) Q
abbrev zG9:=OpF (·+·)
abbrev zGQ:=OpF (· - ·)
abbrev zEl:=OpF (·*·)
def zFT (F:List D->Option R):Prop:=∀ (p q:Rat) (m n:Nat) (Q:R->Prop),q≠0->RB m p->RB n q->m+n<=60000000->Q (ratD (p / q),.cl)->EvP (F [ratD p,ratD q]) Q
theorem zB8 {m n:Nat}{i j:Int}(h1:Bd m i)(h2:Bd n j)(h3:m+n<=60000000):IntMulOk i j:=zJi h1 h2 (le_trans h3 (by decide))
section
variable {Γ:Gm}{nm:Str}{nr:Nat}{Fr:List D->Option R}
theorem zJD (er:Γ.fns[nr]?=some (nm,Fr))(hr:zDZ Fr):zG9 (dFun 2 2 (evSs Γ (zQz nm nr))):=fun p q m n Q hp hq l h=>by
  (walk_at "d");unfold zQz;refine zAE (zCN (zAQ er ?_));(walk_at "w");refine zAw (zB8 hp.num hq.den l) ?_;(walk_at "w");refine zAw (zB8 hq.num hp.den (by omega)) ?_;(walk_at "w");refine zAw (zB8 hp.den hq.den l) ?_;(walk_at "w");refine hr _ _ _ (zDX (zA6 p) (zA6 q)) ((zBd hp.den hq.den).mono l) ?_;rw [<- zOA];(walk_at "w");exact h
theorem zLy (er:Γ.fns[nr]?=some (nm,Fr))(hr:zDZ Fr):zGQ (dFun 2 2 (evSs Γ (zNi nm nr))):=fun p q m n Q hp hq l h=>by
  (walk_at "d");unfold zNi;refine zAE (zCN (zAQ er ?_));(walk_at "w");refine zAw (zB8 hp.num hq.den l) ?_;(walk_at "w");refine zAw (zB8 hq.num hp.den (by omega)) ?_;(walk_at "w");refine zAw (zB8 hp.den hq.den l) ?_;(walk_at "w");refine hr _ _ _ (zDX (zA6 p) (zA6 q)) ((zBd hp.den hq.den).mono l) ?_;rw [<- zNH];(walk_at "w");exact h
theorem zHM (er:Γ.fns[nr]?=some (nm,Fr))(hr:zDZ Fr):zEl (dFun 2 2 (evSs Γ (zNB nm nr))):=fun p q m n Q hp hq l h=>by
  (walk_at "d");unfold zNB;refine zAE (zCN (zAQ er ?_));(walk_at "w");refine zAw (zB8 hp.num hq.num l) ?_;(walk_at "w");refine zAw (zB8 hp.den hq.den l) ?_;(walk_at "w");refine hr _ _ _ (zDX (zA6 p) (zA6 q)) ((zBd hp.den hq.den).mono l) ?_;rw [<- zNh];(walk_at "w");exact h
theorem zJK (er:Γ.fns[nr]?=some (nm,Fr))(hr:zDZ Fr):zFT (dFun 2 2 (evSs Γ (zJM nm nr))):=fun p q m n Q hz hp hq l h=>by
  (walk_at "d");unfold zJM;refine zAE (zCN (zAQ er ?_));(walk_at "w");refine zAw (zB8 hp.num hq.den l) ?_;(walk_at "w");refine zAw (zB8 hp.den hq.num l) ?_;(walk_at "w");refine hr _ _ _ (zDX (zA6 p) (zNf hz)) ((zBd hp.den hq.num).mono l) ?_;rw [<- zN3];(walk_at "w");exact h
end
theorem zLJ:D.tup [.int 0,.int 1]=ratD 0:=rfl
theorem zMG:D.tup [.int 1,.int 2]=ratD (1 / 2):=by
  unfold ratD;rw [show (1 / 2:Rat).num=1 from by decide +kernel,show (1 / 2:Rat).den=2 from by decide +kernel]
  rfl
inductive WB:List Rat->Nat->Prop
  | nil:WB [] 0
  | cons {q:Rat} {m W:Nat} {qs:List Rat}:RB m q->WB qs W->WB (q::qs) (m+1+W)
theorem zM7:∀ {qs:List Rat} {W:Nat},WB qs W->RB (W+1) (DM.sumR qs)
  | [],_,.nil=>⟨by unfold Bd;decide,by unfold Bd;decide⟩
  | _::_,_,.cons h t=>(zB7 h (zM7 t)).mono (by omega)
theorem zIj:∀ {qs:List Rat} {W:Nat},WB qs W->WB (DM.nadd qs) W
  | [],_,.nil=>.nil
  | [_],_,.cons h .nil=>.cons h .nil
  | a::b::r,_,.cons (m:=m) h (.cons (m:=n) (W:=W) k t)=>by
    have e:m+1+(n+1+W)=(m+n+1)+1+W:=by omega
    rw [e];exact .cons (zB7 h k) (zIj t)
theorem zM6:∀ {qs:List Rat} {W i:Nat} {a b:Rat},WB qs W->qs[i]?=some a->qs[i+1]?=some b->∃ m n,RB m a/\RB n b/\m+n+2<=W
  | [],_,_,_,_,_,h,_=>by simp at h
  | [_],_,_,_,_,_,_,h=>by simp at h
  | x::y::r,_,0,a,b,.cons (m:=m) h (.cons (m:=n) k t),h1,h2=>by
    simp at h1 h2;subst h1 h2;exact ⟨m,n,h,k,by omega⟩
  | x::y::r,_,i+1,a,b,.cons h t,h1,h2=>by
    obtain ⟨m,n,q1,q2,q3⟩:=zM6 (i:=i) t (by simpa using h1) (by simpa using h2);exact ⟨m,n,q1,q2,by omega⟩
theorem zM8 {n:Nat}:∀ {qs:List Rat},(∀ q∈qs,RB n q)->WB qs (qs.length*(n+1))
  | [],_=>by rw [length_nil,Nat.zero_mul];exact .nil
  | q::qs,h=>by
    rw [length_cons,Nat.succ_mul,Nat.add_comm];exact .cons (h q mem_cons_self) (zM8 fun x z=>h x (mem_cons_of_mem _ z))
def zRT (np:Nat):S:=.cons (.setC 1 (.comp1 2 [] "k" (.r3 (.int 0) (.bin .Sub (.len (.var 0)) (.int 1)) (.int 2)) .nil (.call np "plus" (.cons (.ix (.var 0) (.var 2)) (.cons (.ix (.var 0) (.bin .Add (.var 2) (.int 1))) .nil))))) (.cons (.ife (.cmp .Eq (.bin .Mod (.len (.var 0)) (.int 2)) (.int 1)) (.cons (.app 1 (.ix (.var 0) (.neg (.int 1)))) .nil) .nil) (.cons (.retOwn 1) .nil))
def zNA (nn ng:Nat):S:=.cons (.set 1 (.list (.var 0))) (.cons (.whl (.cmp .Gt (.len (.var 1)) (.int 1)) (.frz 1 (.cons (.set 1 (.call nn "neighbours_added" (.cons (.var 1) .nil))) .nil))) (.cons (.ret (.ite (.cmp .Eq (.len (.var 1)) (.int 1)) (.ix (.var 1) (.int 0)) (.glob ng "NOUGHT"))) .nil))
def zBF (qs:List Rat):D:=.lst (qs.map ratD)
theorem zI6 {qs:List Rat}{i:Nat}{q:Rat}(h:qs[i]?=some q):atI (qs.map ratD) (i:Int)=some (ratD q):=zAo (by rw [getElem?_map,h];rfl)
theorem zKB (n:Nat):(Builtin.Range.rangeSize 0 ((n:Int) - 1) 2).toNat=n / 2:=by
  unfold Builtin.Range.rangeSize;simp only [show (2:Int)>0 by decide,if_true];split<;>omega
theorem zPR {n:Nat}(h:n<=10000):ROk 0 ((n:Int) - 1) 2:=by
  refine ⟨by decide,by decide,?_⟩;unfold Builtin.Range.small Builtin.Range.rangeSize;simp only [Builtin.Range.rangeFitsLong,and_eq_true,Bool.or_eq_true,decide_eq_true_eq,beq_iff_eq,show (2:Int)>0 by decide,if_true];split<;>omega
def zM4 (F:List D->Option R):Prop:=∀ (qs:List Rat) (W:Nat) (Q:R->Prop),WB qs W->W<=60000000->qs.length<=10000->Q (zBF (DM.nadd qs),.fr)->EvP (F [zBF qs]) Q
def zRB (qs:List Rat):D->D
  | .int k=>ratD (qs.getD k.toNat 0+qs.getD (k.toNat+1) 0)
  | d=>d
theorem zKP {qs:List Rat}{i:Nat}{q:Rat}(h:qs[i]?=some q):qs.getD i 0=q:=by rw [getD_eq_getElem?_getD,h];rfl
theorem zO3 {Γ:Gm}{np:Nat}{Fp:List D->Option R}(ep:Γ.fns[np]?=some (("plus":Str),Fp))(hp:zG9 Fp):zM4 (dFun 1 2 (evSs Γ (zRT np))):=fun qs W Q wb hW hl h=>by
  (walk_at "d");unfold zRT;(walk_at "st");refine zAE (zGw (zDD (zQj ?_)));have el:((qs.map ratD).length:Int)=(qs.length:Int):=by rw [length_map]
  walk_at "ev"
  refine zA0 (zBD (zAH rfl ?_));refine (show EvP (lenD (.lst (qs.map ratD))) _ from ?_);(walk_at "w");rw [el];refine ⟨_,_,_,rfl,rfl,rfl,zPR hl,?_⟩;rw [zKB];have ln:(rngS 0 2 (qs.length / 2)).length<=10000:=by unfold rngS;rw [length_map,length_range];omega
  refine ⟨ln,?_⟩;show EvP (zBY (tg1 2) (evC Γ .nil) _ _ ([some (zBF qs,false),none]++[none])) _;refine zEd (n:=2) (base:=[some (zBF qs,false),none]) rfl (zRB qs) _ _ (fun z hz=>?_) ?_
  . unfold rngS at hz;obtain ⟨i,hi,rfl⟩:=mem_map.mp hz;have hi':=mem_range.mp hi;have h1:2*i < qs.length:=by omega
    have h2:2*i+1 < qs.length:=by omega
    have e1:qs[2*i]?=some qs[2*i]:=by simp [h1]
    have e2:qs[2*i+1]?=some qs[2*i+1]:=by simp [h2]
    obtain ⟨m,n,r1,r2,r3⟩:=zM6 wb e1 e2;have ek:(0:Int)+(i:Int)*2=((2*i:Nat):Int):=by omega
    have ek2:((2*i:Nat):Int)+1=((2*i+1:Nat):Int):=by omega
    rw [ek];refine zAQ ep (zAC (zBA (zAH rfl (zAH rfl ?_))));refine zAz (zI6 e1) ?_;(walk_at "w");rw [ek2];refine (show EvP (ixD (.lst (qs.map ratD)) (.int ((2*i+1:Nat):Int))) _ from ?_);refine zAz (zI6 e2) ?_;(walk_at "w");refine hp _ _ m n _ r1 r2 (by omega) ?_;(walk_at "w");show _=ratD _;rw [toNat_natCast,zKP e1,zKP e2]
  . have em:(rngS 0 2 (qs.length / 2)).map (zRB qs)=((List.range (qs.length / 2)).map fun i=>qs.getD (2*i) 0+qs.getD (2*i+1) 0).map ratD:=by
      unfold rngS;rw [map_map,map_map];refine map_congr_left fun i _=>?_
      show ratD _=ratD _;rw [show ((0:Int)+(i:Int)*2).toNat=2*i by omega]
    rw [em];have fin:=DM.zJg qs;(walk_at "w");refine (show EvP (lenD (.lst (qs.map ratD))) _ from ?_);(walk_at "w");rw [el];refine zCc (by decide) ?_;(walk_at "w");refine zBJ (fun c=>?_) fun c=>?_
    . have c':qs.length%2=1:=by
        rw [Int.fmod_eq_emod_of_nonneg _ (by decide)] at c;omega
      rw [if_pos c'] at fin;refine zAE (zF8 rfl (by rw [length_map,length_map,length_range];omega) ?_);(walk_at "w");have hlast:qs[qs.length - 1]?=some (qs.getD (qs.length - 1) 0):=by
        have:qs.length - 1 < qs.length:=by omega
        rw [getD_eq_getElem?_getD];simp [this]
      have at1:atI (qs.map ratD) (-1)=some (ratD (qs.getD (qs.length - 1) 0)):=by
        unfold L2.atI;have ei:ixN (qs.map ratD).length (-1)=some (qs.length - 1):=by
          unfold L2.ixN;rw [length_map];split<;>first | omega | (split<;>first | omega | (congr 1;omega)) | (congr 1;omega)
        rw [ei];show (qs.map ratD)[qs.length - 1]?=_;rw [getElem?_map,hlast]
        rfl
      refine (show EvP (ixD (.lst (qs.map ratD)) (.int (-1))) _ from ?_);refine zAz at1 ?_;(walk_at "w");have e3:List.map ratD ((List.range (qs.length / 2)).map fun i=>qs.getD (2*i) 0+qs.getD (2*i+1) 0)++[ratD (qs.getD (qs.length - 1) 0)]=(DM.nadd qs).map ratD:=by
        rw [<- fin,map_append];rfl
      rw [e3];exact h
    . have c':¬ qs.length%2=1:=fun z=>c (by
        rw [Int.fmod_eq_emod_of_nonneg _ (by decide)];omega)
      rw [if_neg c',append_nil] at fin;(walk_at "w");rw [fin];exact h
def zLA (F:List D->Option R):Prop:=∀ (qs:List Rat) (W:Nat) (Q:R->Prop),WB qs W->W<=60000000->qs.length<=10000->Q (ratD (DM.sumR qs),.cl)->EvP (F [zBF qs]) Q
theorem zIA {Γ:Gm}{nn:Nat}{Fn:List D->Option R}(en:Γ.fns[nn]?=some (("neighbours_added":Str),Fn))(hn:zM4 Fn){x0:Option (D×Bool)}{Q:Out->Prop}:∀ (n:Nat) (qs:List Rat) (W:Nat) (o:Bool),qs.length<=n->WB qs W->W<=60000000->qs.length<=10000 ->
    (∀ qs' o,DM.sumR qs'=DM.sumR qs->qs'.length<=1->(qs.length=0<->qs'.length=0)->Q (.nx [x0,some (zBF qs',o)])) ->
    EvP (zBS (asB (evE Γ (.cmp .Gt (.len (.var 1)) (.int 1)))) (evSs Γ (.frz 1 (.cons (.set 1 (.call nn "neighbours_added" (.cons (.var 1) .nil))) .nil))) [x0,some (zBF qs,o)]) Q:=by
  intro n
  induction n with
  | zero =>
    intro qs W o hl wb hW hl2 q;have e:qs=[]:=List.eq_nil_of_length_eq_zero (by omega);subst e;refine zCF (as_b ?_);refine zBV (zBD (zHo rfl ?_));refine (show EvP (lenD (.lst [])) _ from ?_);(walk_at "w");refine zCQ (by simp) ?_;exact q [] o rfl (by simp) (by simp)
  | succ n ih =>
    intro qs W o hl wb hW hl2 q;refine zCF (as_b ?_);refine zBV (zBD (zHo rfl ?_));refine (show EvP (lenD (.lst (qs.map ratD))) _ from ?_);(walk_at "w");rw [length_map];by_cases c:1 < qs.length
    . refine zBs (by omega) ?_;have go:EvP (evSs Γ (.cons (.set 1 (.call nn "neighbours_added" (.cons (.var 1) .nil))) .nil) [x0,some (zBF qs,false)]) fun o=>match o with
          | .nx δ'=>EvP (zBS (asB (evE Γ (.cmp .Gt (.len (.var 1)) (.int 1)))) (evSs Γ (.frz 1 (.cons (.set 1 (.call nn "neighbours_added" (.cons (.var 1) .nil))) .nil))) δ') Q
          | .ct δ'=>EvP (zBS (asB (evE Γ (.cmp .Gt (.len (.var 1)) (.int 1)))) (evSs Γ (.frz 1 (.cons (.set 1 (.call nn "neighbours_added" (.cons (.var 1) .nil))) .nil))) δ') Q
          | .bk δ'=>Q (.nx δ')
          | .rt r=>Q (.rt r):=by
        refine zAE (zEb (zAQ en ?_));(walk_at "w");refine hn qs W _ wb hW hl2 ?_;(walk_at "w");have l2:=DM.zHg qs;refine ih (DM.nadd qs) W true (by omega) (zIj wb) hW (by omega) fun qs' o e1 e2 e3=>?_
        exact q qs' o (e1.trans (DM.zHf qs)) e2 ⟨fun z=>absurd z (by omega),fun z=>absurd (e3.mpr z) (by omega)⟩
      cases o with
      | true=>exact zHn rfl go
      | false=>exact zKV rfl go
    . refine zCQ (by omega) ?_;exact q qs o rfl (by omega) Iff.rfl
theorem zLQ {Γ:Gm}{nn ng:Nat}{Fn:List D->Option R}(en:Γ.fns[nn]?=some (("neighbours_added":Str),Fn))(hn:zM4 Fn)(eg:Γ.cs[ng]?=some (("NOUGHT":Str),.tup [.int 0,.int 1])):zLA (dFun 1 2 (evSs Γ (zNA nn ng))):=fun qs W Q wb hW hl h=>by
  (walk_at "d");unfold zNA;(walk_at "st");refine zAE (zEb (zGt (zAH rfl ?_)));refine (show EvP (zIR (.lst (qs.map ratD))) _ from ?_);(walk_at "w");refine zIA en hn qs.length qs W true (le_refl _) wb hW hl fun qs' o e1 e2 e3=>?_
  refine k_nx ?_;refine zAE (zCN (zNz (zBV (zBD (zHo rfl ?_)))));refine (show EvP (lenD (.lst (qs'.map ratD))) _ from ?_);(walk_at "w");rw [length_map];rw [<- e1] at h
  match qs',e2 with
  | [],_ =>
    refine zCQ (by simp) ?_;refine zFB eg ?_;rw [zLJ];(walk_at "w");exact h
  | [a],_ =>
    refine zBs (by simp) ?_;refine zBA (zHo rfl ?_);(walk_at "w");refine (show EvP (ixD (.lst [ratD a]) (.int 0)) _ from ?_);(walk_at "w");have e4:DM.sumR [a]=a:=by simp only [DM.sumR,Rat.add_zero]
    rw [e4] at h;exact h
  | _::_::_,z=>exact absurd z (by simp)
abbrev Pt:=DM.Pt
def ptD (p:Pt):D:=.tup [ratD p.1,ratD p.2]
def zBw (s:Pt×Pt):D:=.tup [ptD s.1,ptD s.2]
def zBg (ps:List Pt):D:=.lst (ps.map ptD)
def PB (n:Nat)(p:Pt):Prop:=RB n p.1/\RB n p.2
theorem i_p0 {p:Pt}{Q:R->Prop}(h:Q (ratD p.1,.cl)):EvP (ixD (ptD p) (.int 0)) Q:=zDN rfl h
theorem i_p1 {p:Pt}{Q:R->Prop}(h:Q (ratD p.2,.cl)):EvP (ixD (ptD p) (.int 1)) Q:=zDN rfl h
theorem i_s0 {s:Pt×Pt}{Q:R->Prop}(h:Q (ptD s.1,.cl)):EvP (ixD (zBw s) (.int 0)) Q:=zDN rfl h
theorem i_s1 {s:Pt×Pt}{Q:R->Prop}(h:Q (ptD s.2,.cl)):EvP (ixD (zBw s) (.int 1)) Q:=zDN rfl h
theorem zKp (p:Pt):DOk 2 (ptD p):=zKo fun d h=>by
  rcases mem_cons.mp h with rfl | h
  . exact zFG _
  . rcases mem_cons.mp h with rfl | h
    . exact zFG _
    . exact absurd h (by simp)
theorem zMp (ps:List Pt):DOk 3 (zBg ps):=zKq fun d h=>by
  obtain ⟨p,_,rfl⟩:=mem_map.mp h;exact zKp p
theorem zT3 {d:D}{k:Nat}{Q:R->Prop}(hd:DOk k d)(hk:k<=64)(h:Q (.bl true,.cl)):EvP (cmpD .Eq d d) Q:=c_eq (zFD hd hd hk) (by rw [zDj];exact h)
theorem zT2 {d:D}{k:Nat}{Q:R->Prop}(hd:DOk k d)(hk:k<=64)(h:Q (.bl false,.cl)):EvP (cmpD .NotEq d d) Q:=c_ne (zFD hd hd hk) (by rw [zDj];exact h)
theorem zK1 {p q:Rat}{Q:R->Prop}(h:Q (.bl (!decide (p=q)),.cl)):EvP (cmpD .NotEq (ratD p) (ratD q)) Q:=c_ne (zFD (zFG p) (zFG q) (by decide)) (by rw [zGx];exact h)
theorem zHu (xs:List D)(k:Nat):cutD xs (some (k:Int)) none=xs.drop k:=by
  unfold cutD;rw [HT.zI1,HT.zHS];by_cases h:k<=xs.length
  . rw [Nat.min_eq_left h,take_of_length_le (by rw [length_drop];exact le_refl _)]
  . rw [Nat.min_eq_right (by omega),List.drop_length,List.take_nil,drop_eq_nil_of_le (by omega)]
theorem zSi (xs:List D)(k:Nat):cutD xs none (some (k:Int))=xs.take k:=by
  unfold cutD;rw [HT.zI1,HT.zHS,List.drop_zero,Nat.sub_zero];by_cases h:k<=xs.length
  . rw [Nat.min_eq_left h]
  . rw [Nat.min_eq_right (by omega),take_of_length_le (le_refl _),take_of_length_le (by omega)]
theorem zLI (as bs:List Pt):zipT (as.map ptD) (bs.map ptD)=(as.zip bs).map zBw:=by
  unfold zipT;rw [List.zipWith_map,List.zip_eq_zipWith,List.map_zipWith]
  rfl
def zNK:S:=.cons (.ret (.lzip (.var 0) (.bin .Add (.sl (.var 0) (.cons (.int 1) .nil) .nil) (.sl (.var 0) .nil (.cons (.int 1) .nil))))) .nil
def zLC (F:List D->Option R):Prop:=∀ (ps:List Pt) (Q:R->Prop),ps.length<=9000->Q (.lst ((DM.zAf ps).map zBw),.fr)->EvP (F [zBg ps]) Q
theorem zLV {Γ:Gm}:zLC (dFun 1 1 (evSs Γ zNK)):=fun ps Q hl h=>by
  (walk_at "d");unfold zNK;refine zAE (zCN (zKW (zAH rfl (zA0 (zPw (zAH rfl ?_))))));(walk_at "w");refine ⟨ps.map ptD,rfl,?_⟩;refine zPw (zAH rfl ?_);(walk_at "w");refine ⟨ps.map ptD,rfl,?_⟩;have e1:cutD (ps.map ptD) (some 1) none=(ps.drop 1).map ptD:=by rw [show (1:Int)=((1:Nat):Int) from rfl,zHu,List.map_drop]
  have e2:cutD (ps.map ptD) none (some 1)=(ps.take 1).map ptD:=by rw [show (1:Int)=((1:Nat):Int) from rfl,zSi,List.map_take]
  rw [e1,e2];refine zMy (by rw [length_map,length_map,length_drop,length_take];omega) ?_;rw [<- map_append];refine zSz ⟨?_,?_⟩ ?_
  . rw [length_map,length_map];exact (DM.zI3 ps).symm
  . rw [length_map];omega
  . have e3:zipT (ps.map ptD) ((ps.drop 1++ps.take 1).map ptD)=(DM.zAf ps).map zBw:=zLI ps _;rw [e3];(walk_at "w");exact h
theorem zGd:RB 2 (1 / 2:Rat):=⟨by unfold Bd;decide +kernel,by unfold Bd;decide +kernel⟩
theorem zD1 (i:Int):D.tup [.int i,.int 1]=ratD (i:Rat):=rfl
theorem zAZ (lo:Int)(n:Nat):(rngL lo n).length=n:=by unfold rngL;simp
theorem zKv {α:Type}{Γ:Gm}{n:Nat}{el:E}{base:Dst}{Q:List D->Prop}(hn:base.length=n)(enc g:α->D):∀ (xs:List α) (o:Option (D×Bool)),(∀ x∈xs,EvP (evE Γ el (base++[some (enc x,false)])) fun r=>r.2≠.dt/\r.1=g x)->Q (xs.map g)->EvP (zBY (tg1 n) (evC Γ .nil) (evE Γ el) (xs.map enc) (base++[o])) Q
  | [],o,_,h=>⟨_,rfl,h⟩
  | z::zs,o,hz,h=>by
    obtain ⟨r,e,nd,er⟩:=hz z mem_cons_self;obtain ⟨ys,e2,q⟩:=zKv (Q:=fun ys=>Q (g z::ys)) hn enc g zs (some (enc z,false)) (fun y hy=>hz y (mem_cons_of_mem _ hy)) h;refine ⟨_,?_,q⟩;have es:(base++[o]).set n (some (enc z,false))=base++[some (enc z,false)]:=by
      rw [set_append_right _ _ (by omega),hn,sub_self];rfl
    show (tg1 n (enc z) (base++[o])).bind _=_;unfold tg1;rw [es,Option.bind_some,zDQ,Option.bind_some,if_pos rfl,e,Option.bind_some,if_neg nd,er];show (zBY _ _ _ (zs.map enc) (base++[some (enc z,false)])).bind _=_;unfold tg1 at e2;rw [zDQ] at e2;rw [e2]
    rfl
def zAY (rs:List (List Pt)):D:=.lst (rs.map zBg)
theorem zGB (rs:List (List Pt)):DOk 4 (zAY rs):=zKq fun d h=>by
  obtain ⟨p,_,rfl⟩:=mem_map.mp h;exact zMp p
theorem zEx:RB 1 0:=⟨by unfold Bd;decide,by unfold Bd;decide⟩
theorem zNQ:RB 1 1:=⟨by unfold Bd;decide,by unfold Bd;decide⟩
theorem PB.x {n:Nat}{p:Pt}(h:PB n p):RB n p.1:=h.1
theorem PB.y {n:Nat}{p:Pt}(h:PB n p):RB n p.2:=h.2
theorem PB.mono {m n:Nat}{p:Pt}(h:PB m p)(l:m<=n):PB n p:=⟨h.1.mono l,h.2.mono l⟩
abbrev Ln:=DM.Ln
theorem zRl {p:Pt}{Q:R->Prop}(h:Q (.bl true,.cl)):EvP (isiF .tuple (ptD p)) Q:=⟨_,rfl,h⟩
end DL
end
open PySem L2 DL
local macro_rules | `(tactic| walk_at "rb")=>`(tactic| first
  | assumption | exact zEx | exact zNQ | exact zGd | exact PB.x (by assumption) | exact PB.y (by assumption) | exact LB.a (by assumption) | exact LB.b (by assumption) | exact LB.c (by assumption)
  | with_reducible apply zB7 | with_reducible apply zCg | with_reducible apply zES | with_reducible apply rb_neg | (with_reducible apply zGc;assumption))
section
namespace DL
open PySem L2
theorem zRM {f:Rat->Rat->Rat}{F:List D->Option R}(h:OpF f F){p q:Rat}{m n:Nat}{Q:R->Prop}(h1:RB m p)(h2:RB n q)(h3:m+n<=60000000)(h4:Q (ratD (f p q),.cl)):EvP (F [ratD p,ratD q]) Q:=h p q m n Q h1 h2 h3 h4
theorem zJL {F:List D->Option R}(h:zFT F){p q:Rat}{m n:Nat}{Q:R->Prop}(h0:q≠0)(h1:RB m p)(h2:RB n q)(h3:m+n<=60000000)(h4:Q (ratD (p / q),.cl)):EvP (F [ratD p,ratD q]) Q:=h p q m n Q h0 h1 h2 h3 h4
end DL
end
open PySem L2 DL
local macro_rules | `(tactic| walk_at "ev")=>`(tactic| first
  | (with_reducible first | refine c_eq0 ?_ | refine wr_cl ?_ | refine wr_fr ?_ | refine i_p0 ?_ | refine i_p1 ?_ | refine i_s0 ?_ | refine i_s1 ?_ | refine i_l0 ?_ | refine i_l1 ?_ | refine i_l2 ?_ | refine l_ring ?_ | refine t_ring ?_ | refine zRl ?_ | refine is_tl ?_ | refine is_lr ?_ | refine l_pt ?_ | refine l_ln ?_ | refine c_eqRat ?_ | refine zK1 ?_)
  | ((with_reducible show EvP (evE _ (E.call _ _ _) _) _);refine zAQ (by assumption) ?_) | ((with_reducible show EvP (evE _ (E.glob _ _) _) _);refine zFB (by assumption) ?_)
  | ((try dsimp only);with_reducible refine zRM (by assumption) (by (repeat walk_at "rb")) (by (repeat walk_at "rb")) (by omega) ?_))
section
namespace DL
open PySem L2
theorem zCp {n:Nat}{x:D}(h:x∈rngL 0 n):∃ k:Int,x=.int k/\0<=k/\k < n:=by
  unfold rngL at h;obtain ⟨k,hk,rfl⟩:=mem_map.mp h;rw [mem_range] at hk;exact ⟨_,rfl,by omega,by omega⟩
def zM9:S:=.cons (.ret (.cmp .Lt (.bin .Mult (.ix (.var 0) (.int 0)) (.ix (.var 1) (.int 1))) (.bin .Mult (.ix (.var 1) (.int 0)) (.ix (.var 0) (.int 1))))) .nil
def zEJ (F:List D->Option R):Prop:=∀ (p q:Rat) (m n:Nat) (Q:R->Prop),RB m p->RB n q->m+n<=60000000->Q (.bl (decide (p < q)),.cl)->EvP (F [ratD p,ratD q]) Q
theorem zLz (p q:Rat):(p < q)<->p.num*q.den < q.num*p.den:=Rat.lt_iff ..
theorem zLN {Γ:Gm}:zEJ (dFun 2 2 (evSs Γ zM9)):=fun p q m n Q hp hq l h=>by
  (walk_at "d");unfold zM9;(walk_at "st");(walk_at "w");refine zAw (zB8 hp.num hq.den l) ?_;(walk_at "w");refine zAw (zB8 hq.num hp.den (by omega)) ?_;(walk_at "w");have e:decide (p.num*↑q.den < q.num*↑p.den)=decide (p < q):=by
    rw [decide_eq_decide];exact (zLz p q).symm
  rw [e];exact h
theorem zBu {F:List D->Option R}(h:zEJ F){p q:Rat}{m n:Nat}{Q:R->Prop}(h1:RB m p)(h2:RB n q)(h3:m+n<=60000000)(h4:Q (.bl (decide (p < q)),.cl)):EvP (F [ratD p,ratD q]) Q:=h p q m n Q h1 h2 h3 h4
theorem zQt {x y t:Rat}{n k:Nat}(hx:RB n x)(hy:RB n y)(hk:RB k t):RB (3*n+k+2) (DM.pw x y t):=(zB7 hx (zES hk (zCg hy hx))).mono (by omega)
def hD (L:Ln):D->D
  | .tup [.tup [.int a,.int b],.tup [.int c,.int e]]=>ratD (DM.hq L (Rat.divInt a b,Rat.divInt c e))
  | d=>d
theorem zQq {n i:Nat}{x:D}{xs:List D}(h:(rngL 0 n).drop i=x::xs):i < n/\x=.int (i:Int)/\xs=(rngL 0 n).drop (i+1):=by
  have hi:i < (rngL 0 n).length:=by
    by_cases q:i < (rngL 0 n).length
    . exact q
    . rw [drop_eq_nil_of_le (by omega)] at h;cases h
  rw [drop_eq_getElem_cons hi] at h;cases h;rw [zAZ] at hi;refine ⟨hi,?_,rfl⟩;unfold rngL;simp
theorem zOT {n i:Nat}(h:[]=(rngL 0 n).drop i)(hi:i<=n):i=n:=by
  have:=congrArg List.length h;rw [length_nil,length_drop,zAZ] at this;omega
end DL
end
open PySem L2 DL
local macro_rules | `(tactic| walk_at "c")=>`(tactic| simp only [cons_append,nil_append])
section
namespace DL
open PySem L2
theorem zFJ {Γ:Gm}{n:Nat}{el c:E}{base:Dst}{Q:List D->Prop}(hn:base.length=n)(b:D->Bool)(g:D->D):∀ (zs:List D) (o:Option (D×Bool)),(∀ z∈zs,EvP (evE Γ c (base++[some (z,false)])) fun r=>r.1=.bl (b z))->(∀ z∈zs,b z=true->EvP (evE Γ el (base++[some (z,false)])) fun r=>r.2≠.dt/\r.1=g z)->Q ((zs.filter b).map g) ->
    EvP (zBY (tg1 n) (evC Γ (.cons c .nil)) (evE Γ el) zs (base++[o])) Q
  | [],o,_,_,h=>⟨_,rfl,h⟩
  | z::zs,o,hc,he,h=>by
    obtain ⟨⟨d,k⟩,ec,ek⟩:=hc z mem_cons_self;dsimp only at ek;subst ek;have es:(base++[o]).set n (some (z,false))=base++[some (z,false)]:=by
      rw [set_append_right _ _ (by omega),hn,sub_self];rfl
    have ec':evC Γ (.cons c .nil) (base++[some (z,false)])=some (b z):=by
      rw [evC];exact zEH ec
    by_cases hb:b z=true
    . obtain ⟨r,e,nd,er⟩:=he z mem_cons_self hb;rw [List.filter_cons_of_pos hb,map_cons] at h;obtain ⟨ys,e2,q⟩:=zFJ hn b g zs (some (z,false)) (Q:=fun ys=>Q (g z::ys)) (fun y hy=>hc y (mem_cons_of_mem _ hy)) (fun y hy=>he y (mem_cons_of_mem _ hy)) h;refine ⟨_,?_,q⟩;show (tg1 n z (base++[o])).bind _=_;have et:tg1 n z (base++[o])=some (base++[some (z,false)]):=by unfold tg1;rw [es]
      rw [et,Option.bind_some,ec',Option.bind_some,if_pos hb,e,Option.bind_some,if_neg nd,er,e2]
      rfl
    . rw [List.filter_cons_of_neg hb] at h;obtain ⟨ys,e2,q⟩:=zFJ hn b g zs (some (z,false)) (Q:=Q) (fun y hy=>hc y (mem_cons_of_mem _ hy)) (fun y hy=>he y (mem_cons_of_mem _ hy)) h;refine ⟨_,?_,q⟩;show (tg1 n z (base++[o])).bind _=_;have et:tg1 n z (base++[o])=some (base++[some (z,false)]):=by unfold tg1;rw [es]
      rw [et,Option.bind_some,ec',Option.bind_some,if_neg hb,e2]
def wpB:S:=.cons (.ret (.bin .FloorDiv (.ix (.var 0) (.int 0)) (.ix (.var 0) (.int 1)))) .nil
def WpF (F:List D->Option R):Prop:=∀ (q:Rat) (Q:R->Prop),Q (.int q.floor,.cl)->EvP (F [ratD q]) Q
theorem zIY (q:Rat):q.num.fdiv q.den=q.floor:=by rw [Rat.floor_def,Int.fdiv_eq_ediv_of_nonneg _ (Int.natCast_nonneg _)]
theorem zS1 {Γ:Gm}:WpF (dFun 1 1 (evSs Γ wpB)):=fun q Q h=>by
  (walk_at "d");unfold wpB;(walk_at "st");(walk_at "w");refine zDS (zA6 q) ?_;(walk_at "w");rw [zIY];exact h
def zLt (nu ns:Nat):S:=.cons (.ife (.call nu "under" (.cons (.var 1) (.cons (.var 0) .nil))) (.cons (.ret (.lrev (.call ns "numbers_between" (.cons (.var 1) (.cons (.var 0) (.cons (.var 2) .nil)))))) .nil) .nil) (.cons (.ret (.comp1 3 [] "number" (.r1 (.bin .Add (.var 2) (.int 1))) (.cons (.andl (.cons (.call nu "under" (.cons (.var 0) (.cons (.tup (.cons (.var 3) (.cons (.int 1) .nil))) .nil))) (.cons (.call nu "under" (.cons (.tup (.cons (.var 3) (.cons (.int 1) .nil))) (.cons (.var 1) .nil))) .nil))) .nil) (.var 3))) .nil)
def zM3 (F:List D->Option R):Prop:=∀ (a b:Rat) (last n:Nat) (Q:R->Prop),RB n a->RB n b->n<=10000000->last<=100->Q (.lst ((DM.zCa a b last).map D.int),.fr)->EvP (F [ratD a,ratD b,.int last]) Q
def zQT (F:List D->Option R):Prop:=∀ (a b:Rat) (last n:Nat) (Q:R->Prop),¬ b < a->RB n a->RB n b->n<=10000000->last<=100->Q (.lst ((DM.upQ a b last).map D.int),.fr)->EvP (F [ratD a,ratD b,.int last]) Q
def upB (a b:Rat):D->Bool
  | .int k=>decide (a < (k:Rat))&&decide ((k:Rat) < b)
  | _=>false
theorem zOF (a b:Rat)(last:Nat):((rngL 0 (last+1)).filter (upB a b)).map id=(DM.upQ a b last).map D.int:=by
  unfold rngL DM.upQ;rw [List.map_id,List.filter_map,List.filter_map,map_map];have e:∀ l:List Nat,(l.filter (upB a b∘fun k:Nat=>D.int (0+(k:Int)))).map (fun k:Nat=>D.int (0+(k:Int)))=(l.filter ((fun n:Int=>decide (a < (n:Rat))&&decide ((n:Rat) < b))∘Int.ofNat)).map (D.int∘Int.ofNat):=fun l=>by
    have e1:(upB a b∘fun k:Nat=>D.int (0+(k:Int)))=((fun n:Int=>decide (a < (n:Rat))&&decide ((n:Rat) < b))∘Int.ofNat):=by
      funext k;simp only [Function.comp,upB,Int.zero_add]
      rfl
    have e2:(fun k:Nat=>D.int (0+(k:Int)))=D.int∘Int.ofNat:=by
      funext k;simp only [Function.comp,Int.zero_add]
      rfl
    rw [e1,e2]
  exact e _
theorem zJa {Γ:Gm}{nu ns:Nat}{Fu:List D->Option R}(eu:Γ.fns[nu]?=some (("under":Str),Fu))(hu:zEJ Fu):zQT (dFun 3 3 (evSs Γ (zLt nu ns))):=fun a b last n Q hab ha hb hn hl h=>by
  (walk_at "d");unfold zLt;(walk_at "st");(walk_at "w");refine zBu hu hb ha (by omega) ?_;(walk_at "w");refine zCQ hab ?_;(walk_at "w");refine ⟨by omega,?_⟩;rw [show ((last:Int)+1).toNat=last+1 by omega];refine ⟨by rw [zAZ];omega,?_⟩;refine (show EvP (zBY (tg1 3) (evC Γ (.cons _ .nil)) _ _ ([some (ratD a,false),some (ratD b,false),some (.int (last:Int),false)]++[none])) _ from ?_);refine zFJ (n:=3) (base:=[some (ratD a,false),some (ratD b,false),some (.int (last:Int),false)]) rfl (upB a b) id _ _ (fun z hz=>?_) (fun z hz _=>?_) ?_
  . obtain ⟨k,rfl,k0,k1⟩:=zCp hz;(walk_at "c");have rk:RB 8 (k:Rat):=zC2 (zBT (k:=200) (by omega) (by decide)) (by decide);(walk_at "w");rw [zD1];refine zBu hu ha rk (by omega) ?_;(walk_at "w");refine zBJ (fun c=>?_) fun c=>?_
    . (walk_at "w");rw [zD1];refine zBu hu rk hb (by omega) ?_;(walk_at "w");simp [upB,c]
    . (walk_at "w");simp [upB,c]
  . obtain ⟨k,rfl,_⟩:=zCp hz;(walk_at "c");(walk_at "w")
    rfl
  . rw [zOF];(walk_at "w");exact h
theorem zOz {Γ:Gm}{nu ns:Nat}{Fu Fs:List D->Option R}(eu:Γ.fns[nu]?=some (("under":Str),Fu))(es:Γ.fns[ns]?=some (("numbers_between":Str),Fs))(hu:zEJ Fu)(hs:zQT Fs):zM3 (dFun 3 3 (evSs Γ (zLt nu ns))):=fun a b last n Q ha hb hn hl h=>by
  by_cases c:b < a
  . (walk_at "d");unfold zLt;(walk_at "st");(walk_at "w");refine zBu hu hb ha (by omega) ?_;(walk_at "w");refine zBs c ?_;refine zAE (zCN (zPx (zAQ es ?_)));(walk_at "w");refine hs b a last n _ (by grind) hb ha hn hl ?_;refine n_fr ⟨_,rfl,?_,?_⟩
    . rw [length_map];have:(DM.upQ b a last).length<=last+1:=by
        unfold DM.upQ;refine le_trans (length_filter_le _ _) ?_;rw [length_map,length_range];exact le_refl _
      omega
    . rw [<- List.map_reverse];unfold DM.zCa at h;rw [if_pos c] at h;(walk_at "w");exact h
  . refine zJa eu hu a b last n Q c ha hb hn hl ?_;unfold DM.zCa at h;rw [if_neg c] at h;exact h
theorem zGi {a b:Rat}{last:Nat}(hl:last<=100){k:Int}(h:k∈DM.zCa a b last):RB 8 (k:Rat)/\a≠b:=by
  unfold DM.zCa at h;have key:∀ {a b:Rat},k∈DM.upQ a b last->RB 8 (k:Rat)/\a < b:=fun h=>by
    obtain ⟨h0,h1,h2,h3⟩:=DM.zCs.mp h;exact ⟨zC2 (zBT (k:=200) (by omega) (by decide)) (by decide),by grind⟩
  by_cases c:b < a
  . rw [if_pos c] at h;obtain ⟨h1,h2⟩:=key (List.mem_reverse.mp h);exact ⟨h1,by grind⟩
  . rw [if_neg c] at h;obtain ⟨h1,h2⟩:=key h;exact ⟨h1,by grind⟩
theorem zE4 (a b:Rat)(last:Nat):(DM.zCa a b last).length<=last+1:=by
  have key:∀ a b:Rat,(DM.upQ a b last).length<=last+1:=fun a b=>by
    unfold DM.upQ;refine le_trans (length_filter_le _ _) ?_;rw [length_map,length_range];exact le_refl _
  unfold DM.zCa;split
  . rw [List.length_reverse];exact key _ _
  . exact key _ _
def zNP (nd nm np nt:Nat):S:=.cons (.ife (.cmp .Eq (.len (.var 0)) (.int 0)) (.cons (.ret (.lst .nil)) .nil) .nil) (.cons (.set 5 (.call nd "parted" (.cons (.call nm "minus" (.cons (.var 4) (.cons (.var 3) .nil))) (.cons (.call nm "minus" (.cons (.var 2) (.cons (.var 1) .nil))) .nil)))) (.cons (.ret (.comp1 6 [] "number" (.it (.var 0)) .nil (.call np "plus" (.cons (.var 3) (.cons (.call nt "times" (.cons (.var 5) (.cons (.call nm "minus" (.cons (.tup (.cons (.var 6) (.cons (.int 1) .nil))) (.cons (.var 1) .nil))) .nil))) .nil))))) .nil))
def zH3 (F:List D->Option R):Prop:=∀ (ks:List Int) (a b c e:Rat) (n:Nat) (Q:R->Prop),RB n a->RB n b->RB n c->RB n e->8*n+100<=10000000->(∀ k∈ks,RB 8 (k:Rat)/\a≠b)->ks.length<=200->Q (.lst (ks.map fun k=>ratD (DM.pw c e (DM.tOf a b k))),.fr)->EvP (F [.lst (ks.map D.int),ratD a,ratD b,ratD c,ratD e]) Q
def zTD (a b c e:Rat):D->D
  | .int k=>ratD (DM.pw c e (DM.tOf a b k))
  | d=>d
theorem zLd {Γ:Gm}{nd nm np nt:Nat}{Fd Fm Fp Ft:List D->Option R}(ed:Γ.fns[nd]?=some (("parted":Str),Fd))(em:Γ.fns[nm]?=some (("minus":Str),Fm))(ep:Γ.fns[np]?=some (("plus":Str),Fp))(et:Γ.fns[nt]?=some (("times":Str),Ft))
    (hd:zFT Fd) (hm:zGQ Fm) (hp:zG9 Fp) (ht:zEl Ft):zH3 (dFun 5 6 (evSs Γ (zNP nd nm np nt))):=fun ks a b c e n Q ha hb hc he hn hk hl h=>by
  (walk_at "d");unfold zNP;(walk_at "st");(walk_at "w");rw [length_map];refine zBJ (fun z=>?_) fun z=>?_
  . have:ks=[]:=List.eq_nil_of_length_eq_zero (by omega);subst this;(walk_at "w");exact h
  . have ne:a≠b:=by
      cases ks with
      | nil=>exact absurd rfl z
      | cons k ks=>exact (hk k mem_cons_self).2
    have nz:b - a≠0:=by grind
    (walk_at "w");refine zJL hd nz (by (repeat walk_at "rb")) (by (repeat walk_at "rb")) (by omega) ?_;(walk_at "w");refine ⟨by rw [length_map];omega,?_⟩;refine (show EvP (zBY (tg1 6) (evC Γ .nil) _ _ ([some (.lst (ks.map D.int),false),some (ratD a,false),some (ratD b,false),some (ratD c,false),some (ratD e,false),some (ratD ((e - c) / (b - a)),false)]++[none])) _ from ?_);refine zEd (n:=6) (base:=[some (.lst (ks.map D.int),false),some (ratD a,false),some (ratD b,false),some (ratD c,false),some (ratD e,false),some (ratD ((e - c) / (b - a)),false)]) rfl (zTD a b c e) _ _ (fun y hy=>?_) ?_
    . obtain ⟨k,hk',rfl⟩:=mem_map.mp hy;have rk:=(hk k hk').1;(walk_at "c");have rs:RB (n+n+1+(n+n+1)) ((e - c) / (b - a)):=zGc nz (zCg he hc) (zCg hb ha);(walk_at "w");rw [zD1];(walk_at "w");show ratD _=ratD (DM.pw c e (DM.tOf a b k));have:c+(e - c) / (b - a)*((k:Rat) - a)=DM.pw c e (DM.tOf a b k):=by
        unfold DM.pw DM.tOf;rw [Rat.div_def,Rat.div_def];grind
      rw [this]
    . rw [map_map];(walk_at "w");exact h
def upcB (nn nr:Nat):S:=.cons (.set 2 (.ix (.var 0) (.int 0))) (.cons (.set 3 (.ix (.var 0) (.int 1))) (.cons (.set 4 (.call nn "numbers_between" (.cons (.ix (.var 2) (.int 0)) (.cons (.ix (.var 3) (.int 0)) (.cons (.var 1) .nil))))) (.frz 4 (.cons (.set 5 (.call nr "rests_at" (.cons (.var 4) (.cons (.ix (.var 2) (.int 0)) (.cons (.ix (.var 3) (.int 0)) (.cons (.ix (.var 2) (.int 1)) (.cons (.ix (.var 3) (.int 1)) .nil))))))) (.frz 4 (.frz 5 (.cons (.ret (.comp1 6 [] "k" (.r1 (.len (.var 4))) .nil (.tup (.cons (.tup (.cons (.ix (.var 4) (.var 6)) (.cons (.int 1) .nil))) (.cons (.ix (.var 5) (.var 6)) .nil))))) .nil)))))))
def lvcB (nn nr:Nat):S:=.cons (.set 2 (.ix (.var 0) (.int 0))) (.cons (.set 3 (.ix (.var 0) (.int 1))) (.cons (.set 4 (.call nn "numbers_between" (.cons (.ix (.var 2) (.int 1)) (.cons (.ix (.var 3) (.int 1)) (.cons (.var 1) .nil))))) (.frz 4 (.cons (.set 5 (.call nr "rests_at" (.cons (.var 4) (.cons (.ix (.var 2) (.int 1)) (.cons (.ix (.var 3) (.int 1)) (.cons (.ix (.var 2) (.int 0)) (.cons (.ix (.var 3) (.int 0)) .nil))))))) (.frz 4 (.frz 5 (.cons (.ret (.comp1 6 [] "k" (.r1 (.len (.var 4))) .nil (.tup (.cons (.ix (.var 5) (.var 6)) (.cons (.tup (.cons (.ix (.var 4) (.var 6)) (.cons (.int 1) .nil))) .nil))))) .nil)))))))
def atD (s:Pt×Pt)(t:Rat):D:=ptD (DM.ptAt s t)
def UpcF (F:List D->Option R):Prop:=∀ (s:Pt×Pt) (w n:Nat) (Q:R->Prop),PB n s.1->PB n s.2->8*n+100<=10000000->w<=100->Q (.lst ((DM.tsQ s.1.1 s.2.1 w).map (atD s)),.fr)->EvP (F [zBw s,.int w]) Q
def LvcF (F:List D->Option R):Prop:=∀ (s:Pt×Pt) (w n:Nat) (Q:R->Prop),PB n s.1->PB n s.2->8*n+100<=10000000->w<=100->Q (.lst ((DM.tsQ s.1.2 s.2.2 w).map (atD s)),.fr)->EvP (F [zBw s,.int w]) Q
theorem zJ9 {α:Type}(L:List α)(f:α->D)(g:D->D)(h:∀ (i:Nat) x,L[i]?=some x->g (.int (i:Int))=f x):(rngL 0 L.length).map g=L.map f:=by
  unfold rngL;rw [map_map];refine ext_getElem? fun i=>?_
  rw [getElem?_map,getElem?_map];by_cases hi:i < L.length
  . rw [getElem?_range hi,getElem?_eq_getElem hi];show some (g (.int (0+(i:Int))))=some (f L[i]);rw [Int.zero_add,h i L[i] (getElem?_eq_getElem hi)]
  . rw [getElem?_eq_none (by rw [length_range];omega),getElem?_eq_none (by omega)]
    rfl
def zOK (f:Int->D)(L:List Int):D->D
  | .int k=>f (L.getD k.toNat 0)
  | d=>d
theorem zHO (f:Int->D)(L:List Int):(rngL 0 L.length).map (zOK f L)=L.map f:=zJ9 L f _ fun i x e=>by
  show f (L.getD (i:Int).toNat 0)=f x;rw [toNat_natCast,getD_eq_getElem?_getD,e]
  rfl
theorem zQX {Γ:Gm}{nn nr:Nat}{Fn Fr:List D->Option R}(en:Γ.fns[nn]?=some (("numbers_between":Str),Fn))(er:Γ.fns[nr]?=some (("rests_at":Str),Fr))(hn:zM3 Fn)(hr:zH3 Fr):UpcF (dFun 2 6 (evSs Γ (upcB nn nr))):=fun s w n Q h1 h2 hl hw h=>by
  (walk_at "d");unfold upcB;(walk_at "st");(walk_at "w");refine hn _ _ w n _ h1.x h2.x (by omega) hw ?_;have kb:∀ k∈DM.zCa s.1.1 s.2.1 w,RB 8 (k:Rat)/\s.1.1≠s.2.1:=fun k hk=>zGi hw hk
  have kl:=zE4 s.1.1 s.2.1 w;have ets:(DM.tsQ s.1.1 s.2.1 w).map (atD s)=(DM.zCa s.1.1 s.2.1 w).map fun k=>.tup [.tup [.int k,.int 1],ratD (DM.pw s.1.2 s.2.2 (DM.tOf s.1.1 s.2.1 k))]:=by
    unfold DM.tsQ;rw [map_map];refine map_congr_left fun k hk=>?_
    show ptD (DM.pw s.1.1 s.2.1 (DM.tOf s.1.1 s.2.1 k),_)=_;rw [DM.zC3 (kb k hk).2]
    rfl
  rw [ets] at h;generalize DM.zCa s.1.1 s.2.1 w=ks at *;(walk_at "w");refine hr ks _ _ _ _ n _ h1.x h2.x h1.y h2.y hl kb (by omega) ?_;(walk_at "w");rw [length_map];refine ⟨by omega,?_⟩;rw [toNat_natCast];refine ⟨by rw [zAZ];omega,?_⟩;refine (show EvP (zBY (tg1 6) (evC Γ .nil) _ _ ([some (zBw s,false),some (.int (w:Int),false),some (ptD s.1,false),some (ptD s.2,false),some (.lst (ks.map D.int),false),some (.lst (ks.map fun k=>ratD (DM.pw s.1.2 s.2.2 (DM.tOf s.1.1 s.2.1 k))),false)]++[none])) _ from ?_);refine zEd (n:=6) (base:=[some (zBw s,false),some (.int (w:Int),false),some (ptD s.1,false),some (ptD s.2,false),some (.lst (ks.map D.int),false),some (.lst (ks.map fun k=>ratD (DM.pw s.1.2 s.2.2 (DM.tOf s.1.1 s.2.1 k))),false)]) rfl (zOK (fun k=>.tup [.tup [.int k,.int 1],ratD (DM.pw s.1.2 s.2.2 (DM.tOf s.1.1 s.2.1 k))]) ks) _ _ (fun z hz=>?_) ?_
  . obtain ⟨k,rfl,k0,k1⟩:=zCp hz;(walk_at "c");have hk:k.toNat < ks.length:=by omega
    have ek:k=((k.toNat:Nat):Int):=by omega
    have e1:atI (ks.map D.int) k=some (.int (ks.getD k.toNat 0)):=zHQ k0 k1;have e2:atI (ks.map fun k=>ratD (DM.pw s.1.2 s.2.2 (DM.tOf s.1.1 s.2.1 k))) k=some (ratD (DM.pw s.1.2 s.2.2 (DM.tOf s.1.1 s.2.1 (ks.getD k.toNat 0)))):=by
      conv=>lhs;rw [ek]
      exact zAo (by rw [getElem?_map,getElem?_eq_getElem hk,getD_eq_getElem?_getD,getElem?_eq_getElem hk];rfl)
    (walk_at "w");refine zAz e1 ?_;(walk_at "w");refine zAz e2 ?_;(walk_at "w")
    rfl
  . rw [zHO];(walk_at "w");exact h
theorem zRa {Γ:Gm}{nn nr:Nat}{Fn Fr:List D->Option R}(en:Γ.fns[nn]?=some (("numbers_between":Str),Fn))(er:Γ.fns[nr]?=some (("rests_at":Str),Fr))(hn:zM3 Fn)(hr:zH3 Fr):LvcF (dFun 2 6 (evSs Γ (lvcB nn nr))):=fun s w n Q h1 h2 hl hw h=>by
  (walk_at "d");unfold lvcB;(walk_at "st");(walk_at "w");refine hn _ _ w n _ h1.y h2.y (by omega) hw ?_;have kb:∀ k∈DM.zCa s.1.2 s.2.2 w,RB 8 (k:Rat)/\s.1.2≠s.2.2:=fun k hk=>zGi hw hk
  have kl:=zE4 s.1.2 s.2.2 w;have ets:(DM.tsQ s.1.2 s.2.2 w).map (atD s)=(DM.zCa s.1.2 s.2.2 w).map fun k=>.tup [ratD (DM.pw s.1.1 s.2.1 (DM.tOf s.1.2 s.2.2 k)),.tup [.int k,.int 1]]:=by
    unfold DM.tsQ;rw [map_map];refine map_congr_left fun k hk=>?_
    show ptD (_,DM.pw s.1.2 s.2.2 (DM.tOf s.1.2 s.2.2 k))=_;rw [DM.zC3 (kb k hk).2]
    rfl
  rw [ets] at h;generalize DM.zCa s.1.2 s.2.2 w=ks at *;(walk_at "w");refine hr ks _ _ _ _ n _ h1.y h2.y h1.x h2.x hl kb (by omega) ?_;(walk_at "w");rw [length_map];refine ⟨by omega,?_⟩;rw [toNat_natCast];refine ⟨by rw [zAZ];omega,?_⟩;refine (show EvP (zBY (tg1 6) (evC Γ .nil) _ _ ([some (zBw s,false),some (.int (w:Int),false),some (ptD s.1,false),some (ptD s.2,false),some (.lst (ks.map D.int),false),some (.lst (ks.map fun k=>ratD (DM.pw s.1.1 s.2.1 (DM.tOf s.1.2 s.2.2 k))),false)]++[none])) _ from ?_);refine zEd (n:=6) (base:=[some (zBw s,false),some (.int (w:Int),false),some (ptD s.1,false),some (ptD s.2,false),some (.lst (ks.map D.int),false),some (.lst (ks.map fun k=>ratD (DM.pw s.1.1 s.2.1 (DM.tOf s.1.2 s.2.2 k))),false)]) rfl (zOK (fun k=>.tup [ratD (DM.pw s.1.1 s.2.1 (DM.tOf s.1.2 s.2.2 k)),.tup [.int k,.int 1]]) ks) _ _ (fun z hz=>?_) ?_
  . obtain ⟨k,rfl,k0,k1⟩:=zCp hz;(walk_at "c");have hk:k.toNat < ks.length:=by omega
    have ek:k=((k.toNat:Nat):Int):=by omega
    have e1:atI (ks.map D.int) k=some (.int (ks.getD k.toNat 0)):=zHQ k0 k1;have e2:atI (ks.map fun k=>ratD (DM.pw s.1.1 s.2.1 (DM.tOf s.1.2 s.2.2 k))) k=some (ratD (DM.pw s.1.1 s.2.1 (DM.tOf s.1.2 s.2.2 (ks.getD k.toNat 0)))):=by
      conv=>lhs;rw [ek]
      exact zAo (by rw [getElem?_map,getElem?_eq_getElem hk,getD_eq_getElem?_getD,getElem?_eq_getElem hk];rfl)
    (walk_at "w");refine zAz e2 ?_;(walk_at "w");refine zAz e1 ?_;(walk_at "w")
    rfl
  . rw [zHO];(walk_at "w");exact h
end DL
end
open PySem L2 DL
local macro_rules | `(tactic| walk_at "e")=>`(tactic| (repeat ((fail_if_success (with_reducible show EvP (evSs _ _ _) _));walk_at "ev")))
section
namespace DL
open PySem L2
def zN9 (nu:Nat):S:=.cons (.ife (.var 2) (.cons (.ret (.call nu "under" (.cons (.ix (.var 0) (.int 0)) (.cons (.ix (.var 1) (.int 0)) .nil)))) .nil) .nil) (.cons (.ret (.call nu "under" (.cons (.ix (.var 1) (.int 0)) (.cons (.ix (.var 0) (.int 0)) .nil)))) .nil)
def zH6 (F:List D->Option R):Prop:=∀ (p q:Pt) (r:Bool) (n:Nat) (Q:R->Prop),PB n p->PB n q->n<=10000000->Q (.bl (if r=true then decide (p.1 < q.1) else decide (q.1 < p.1)),.cl)->EvP (F [ptD p,ptD q,.bl r]) Q
theorem zMz {Γ:Gm}{nu:Nat}{Fu:List D->Option R}(eu:Γ.fns[nu]?=some (("under":Str),Fu))(hu:zEJ Fu):zH6 (dFun 3 3 (evSs Γ (zN9 nu))):=fun p q r n Q hp hq hn h=>by
  (walk_at "d");unfold zN9;(walk_at "st");refine zAE (zCj (zAH rfl ⟨r,rfl,?_⟩));cases r with
  | true =>
    refine cb_t ?_;(walk_at "w");refine zBu hu hp.x hq.x (by omega) ?_;(walk_at "w");exact h
  | false =>
    refine cb_f ?_;(walk_at "w");refine zBu hu hq.x hp.x (by omega) ?_;(walk_at "w");exact h
def zO8 (na:Nat):S:=.cons (.app 3 (.ix (.var 1) (.var 4))) (.cons (.aug .Add 4 (.int 1)) .nil)
def zJr (na:Nat):E:=.andl (.cons (.cmp .Lt (.var 4) (.len (.var 1))) (.cons (.call na "comes_ahead" (.cons (.ix (.var 1) (.var 4)) (.cons (.var 5) (.cons (.var 2) .nil)))) .nil))
def zRY (na:Nat):S:=.cons (.whl (zJr na) (zO8 na)) (.cons (.ife (.andl (.cons (.cmp .Lt (.var 4) (.len (.var 1))) (.cons (.cmp .Eq (.ix (.var 1) (.var 4)) (.var 5)) .nil))) (.cons (.aug .Add 4 (.int 1)) .nil) .nil) (.cons (.app 3 (.var 5)) .nil))
def zRZ (na:Nat):S:=.cons (.set 3 (.lst .nil)) (.cons (.set 4 (.int 0)) (.cons (.for1 5 (.it (.var 0)) (zRY na)) (.cons (.ret (.bin .Add (.var 3) (.sl (.var 1) (.cons (.var 4) .nil) .nil))) .nil)))
theorem zKh {Γ:Gm}{δ:Dst}{Q:Out->Prop}{i:Nat}{e:E}{a:Int}(ha:δ[i]?=some (some (.int a,false)))(h:EvP (evE Γ e δ) fun r=>∃ b,r.1=.int b/\Q (.nx (δ.set i (some (.int (a+b),false))))):EvP (evS Γ (.aug .Add i e) δ) Q:=by
  rw [evS];obtain ⟨⟨d,k⟩,e1,b,e2,q⟩:=h;dsimp only at e2;subst e2;refine ⟨_,?_,q⟩;unfold augD;rw [ha];show (evE Γ e δ).bind _=_;rw [e1]
  rfl
def zQU (F:List D->Option R):Prop:=∀ (s:Pt×Pt) (ts us:List Rat) (n:Nat) (Q:R->Prop),(ts≠[]->s.1.1≠s.2.1)->(∀ t∈ts,PB n (DM.ptAt s t))->(∀ t∈us,PB n (DM.ptAt s t))->n<=10000000->ts.length+us.length<=1000->Q (.lst ((DM.zAy ts us).map (atD s)),.fr)->EvP (F [.lst (ts.map (atD s)),.lst (us.map (atD s)),.bl (decide (s.1.1 < s.2.1))]) Q
theorem zM0 {s:Pt×Pt}(ne:s.1.1≠s.2.1)(u t:Rat):(if decide (s.1.1 < s.2.1)=true then decide ((DM.ptAt s u).1 < (DM.ptAt s t).1) else decide ((DM.ptAt s t).1 < (DM.ptAt s u).1))=decide (u < t):=by
  unfold DM.ptAt;dsimp only;by_cases c:s.1.1 < s.2.1
  . rw [if_pos (decide_eq_true c),decide_eq_decide];exact DM.zEK c
  . rw [if_neg (by simpa using c),decide_eq_decide];exact DM.zEL (by grind)
theorem zSa (p q:Pt):eqb (ptD p) (ptD q)=decide (p=q):=by
  by_cases h:p=q
  . subst h;rw [zDj,decide_eq_true rfl]
  . rw [decide_eq_false h];have e:eqb (ptD p) (ptD q)=(eqb (ratD p.1) (ratD q.1)&&(eqb (ratD p.2) (ratD q.2)&&true)):=by
      unfold eqb ptD;simp only [toPy,toPyL,PyData.eqv,PyData.eqvAll]
    rw [e,zGx,zGx];by_cases h1:p.1=q.1
    . have h2:¬ p.2=q.2:=fun z=>h (Prod.ext h1 z)
      simp [h1,h2]
    . simp [h1]
theorem zN6 {p q:Pt}{Q:R->Prop}(h:Q (.bl (decide (p=q)),.cl)):EvP (cmpD .Eq (ptD p) (ptD q)) Q:=c_eq (zFD (zKp p) (zKp q) (by decide)) (by rw [zSa];exact h)
theorem zN7 {s:Pt×Pt}(ne:s.1.1≠s.2.1){u t:Rat}:DM.ptAt s u=DM.ptAt s t<->u=t:=by
  constructor
  . intro h;have h1:DM.pw s.1.1 s.2.1 u=DM.pw s.1.1 s.2.1 t:=congrArg Prod.fst h;unfold DM.pw at h1;have h2:(u - t)*(s.2.1 - s.1.1)=0:=by grind
    rcases Rat.mul_eq_zero.mp h2 with z | z<;>grind
  . rintro rfl;rfl
section
variable {Γ:Gm}{na:Nat}{Fa:List D->Option R}
theorem zIP (ea:Γ.fns[na]?=some (("comes_ahead":Str),Fa))(ha:zH6 Fa){s:Pt×Pt}{us:List Rat}{n:Nat}{t:Rat}{x0:Option (D×Bool)}{Q:Out->Prop}(ne:s.1.1≠s.2.1)(hus:∀ t∈us,PB n (DM.ptAt s t))(ht:PB n (DM.ptAt s t))(hn:n<=10000000)(hl:us.length<=1000) :
    ∀ (m:Nat) (acc:List Rat) (k:Nat),us.length - k<=m->k<=us.length->acc.length+(us.length - k)<=2000 ->
      Q (.nx [x0,some (.lst (us.map (atD s)),false),some (.bl (decide (s.1.1 < s.2.1)),false),some (.lst ((acc++(us.drop k).takeWhile fun u=>decide (u < t)).map (atD s)),true),some (.int ((k+((us.drop k).takeWhile fun u=>decide (u < t)).length:Nat):Int),false),some (atD s t,false)]) ->
      EvP (zBS (asB (evE Γ (zJr na))) (evSs Γ (zO8 na)) [x0,some (.lst (us.map (atD s)),false),some (.bl (decide (s.1.1 < s.2.1)),false),some (.lst (acc.map (atD s)),true),some (.int (k:Int),false),some (atD s t,false)]) Q:=by
  intro m
  induction m with
  | zero =>
    intro acc k hm hk hb h;have e:us.drop k=[]:=drop_eq_nil_of_le (by omega);rw [e] at h;simp only [List.takeWhile_nil,append_nil,length_nil,Nat.add_zero] at h;refine zCF (as_b ?_);unfold zJr;(walk_at "w");rw [length_map];refine zCQ (by omega) ?_;exact ⟨_,rfl,cb_f h⟩
  | succ m ih =>
    intro acc k hm hk hb h;by_cases lt:k < us.length
    . have ed:us.drop k=us[k]::us.drop (k+1):=drop_eq_getElem_cons lt;have eu:us[k]?=some us[k]:=getElem?_eq_getElem lt;have mu:us[k]∈us:=List.getElem_mem lt;have eA:atI (us.map (atD s)) (k:Int)=some (atD s us[k]):=zAo (by rw [getElem?_map,eu];rfl);generalize us[k]=u at *;refine zCF (as_b ?_);unfold zJr;(walk_at "w");rw [length_map];refine zBs (by omega) ?_;refine zFC (zAQ ea ?_);(walk_at "w");refine zAz eA ?_;(walk_at "w");refine (show EvP (Fa [ptD (DM.ptAt s u),ptD (DM.ptAt s t),.bl (decide (s.1.1 < s.2.1))]) _ from ?_);refine ha _ _ _ n _ (hus u mu) ht hn ?_;rw [zM0 ne];(walk_at "w");by_cases c:u < t
      . refine zBs c ?_;unfold zO8;refine zAE (zF8 (xs:=acc.map (atD s)) (i:=3) rfl (by rw [length_map];omega) ?_);(walk_at "w");refine zAz eA ?_;(walk_at "w");refine zKh (i:=4) rfl ?_;(walk_at "w");have e2:acc.map (atD s)++[atD s u]=(acc++[u]).map (atD s):=by rw [map_append];rfl
        rw [e2,show (k:Int)+1=((k+1:Nat):Int) by omega];refine ih (acc++[u]) (k+1) (by omega) (by omega) (by rw [length_append,length_singleton];omega) ?_;rw [ed,takeWhile_cons,if_pos (decide_eq_true c)] at h;rw [append_assoc,List.singleton_append,show k+1+((us.drop (k+1)).takeWhile fun u=>decide (u < t)).length=k+(u::(us.drop (k+1)).takeWhile fun u=>decide (u < t)).length by rw [length_cons];omega];exact h
      . refine zCQ c ?_;rw [ed,takeWhile_cons,if_neg (by simpa using c)] at h;simp only [append_nil,length_nil,Nat.add_zero] at h;exact h
    . have e:us.drop k=[]:=drop_eq_nil_of_le (by omega);rw [e] at h;simp only [List.takeWhile_nil,append_nil,length_nil,Nat.add_zero] at h;refine zCF (as_b ?_);unfold zJr;(walk_at "w");rw [length_map];refine zCQ (by omega) ?_;exact ⟨_,rfl,cb_f h⟩
theorem zC8:∀ (ts us:List Rat),(DM.zAy ts us).length<=ts.length+us.length
  | [],us=>by rw [DM.zAy];simp
  | t::ts,us=>by
    rw [DM.zAy,length_append,length_cons,length_cons];have ih:=zC8 ts (DM.zCk t (us.dropWhile fun u=>decide (u < t)));have h1:=(DM.zDR t (us.dropWhile fun u=>decide (u < t))).length_le;have h2:(us.takeWhile fun u=>decide (u < t)).length+(us.dropWhile fun u=>decide (u < t)).length=us.length:=by
      rw [<- length_append,List.takeWhile_append_dropWhile]
    omega
theorem zEc (p:Rat->Bool):∀ v:List Rat,v.drop (v.takeWhile p).length=v.dropWhile p
  | []=>rfl
  | x::v=>by
    rw [takeWhile_cons,List.dropWhile_cons];by_cases c:p x=true
    . rw [if_pos c,if_pos c,length_cons,List.drop_succ_cons];exact zEc p v
    . rw [if_neg c,if_neg c]
      rfl
theorem zKj (us:List Rat)(p:Rat->Bool)(k:Nat):us.drop (k+((us.drop k).takeWhile p).length)=(us.drop k).dropWhile p:=by
  rw [<- List.drop_drop];exact zEc p _
theorem zO7 (ea:Γ.fns[na]?=some (("comes_ahead":Str),Fa))(ha:zH6 Fa):zQU (dFun 3 6 (evSs Γ (zRZ na))):=fun s ts us n Q hne hts hus hn hl h=>by
  (walk_at "d");unfold zRZ;(walk_at "st");(walk_at "w");have ml:=zC8 ts us;refine zCA (fun xs δ=>∃ (ts' acc:List Rat) (k:Nat) (o5:Option (D×Bool)),xs=ts'.map (atD s)/\(∀ t∈ts',t∈ts)/\k<=us.length/\acc++DM.zAy ts' (us.drop k)=DM.zAy ts us/\δ=[some (.lst (ts.map (atD s)),false),some (.lst (us.map (atD s)),false),some (.bl (decide (s.1.1 < s.2.1)),false),some (.lst (acc.map (atD s)),true),some (.int (k:Int),false),o5]) ?_ ?_ _ _ ⟨ts,[],0,none,rfl,fun _ z=>z,zero_le _,by simp,rfl⟩
  . rintro x xs δ ⟨ts',acc,k,o5,e,mem,hk,em,rfl⟩;cases ts' with
    | nil=>cases e
    | cons t ts' =>
      cases e;have mt:=mem t mem_cons_self;have ne:=hne (List.ne_nil_of_mem mt);refine ⟨_,rfl,?_⟩;(walk_at "s");rw [DM.zAy] at em;have al:acc.length+(us.length - k)<=2000:=by
        have:=congrArg List.length em;rw [length_append] at this;omega
      unfold zRY;refine zAE (zN0 (zIP ea ha ne hus (hts t mt) hn (by omega) (us.length - k) acc k (le_refl _) hk al ?_));refine k_nx ?_;have dt:=zKj us (fun u=>decide (u < t)) k;have lk:k+((us.drop k).takeWhile fun u=>decide (u < t)).length<=us.length:=by
        have:=(List.takeWhile_sublist (l:=us.drop k) fun u=>decide (u < t)).length_le;rw [length_drop] at this;omega
      have la:(acc++(us.drop k).takeWhile fun u=>decide (u < t)).length<=1000:=by
        have:=congrArg List.length em;rw [length_append,length_append,length_cons] at this;rw [length_append];omega
      rw [<- append_assoc] at em;generalize (acc++(us.drop k).takeWhile fun u=>decide (u < t))=acc2 at *;generalize k+((us.drop k).takeWhile fun u=>decide (u < t)).length=k2 at *;rw [<- dt] at em;have last:∀ k3:Nat,k3<=us.length->us.drop k3=DM.zCk t (us.drop k2)->EvP (evSs Γ (.cons (.app 3 (.var 5)) .nil) [some (.lst (ts.map (atD s)),false),some (.lst (us.map (atD s)),false),some (.bl (decide (s.1.1 < s.2.1)),false),some (.lst (acc2.map (atD s)),true),some (.int (k3:Int),false),some (atD s t,false)]) fun o=>match o with
          | .nx δ'=>∃ (ts'' acc:List Rat) (k:Nat) (o5:Option (D×Bool)),ts'.map (atD s)=ts''.map (atD s)/\(∀ t∈ts'',t∈ts)/\k<=us.length/\acc++DM.zAy ts'' (us.drop k)=DM.zAy ts us/\δ'=[some (.lst (ts.map (atD s)),false),some (.lst (us.map (atD s)),false),some (.bl (decide (s.1.1 < s.2.1)),false),some (.lst (acc.map (atD s)),true),some (.int (k:Int),false),o5]
          | .ct δ'=>∃ (ts'' acc:List Rat) (k:Nat) (o5:Option (D×Bool)),ts'.map (atD s)=ts''.map (atD s)/\(∀ t∈ts'',t∈ts)/\k<=us.length/\acc++DM.zAy ts'' (us.drop k)=DM.zAy ts us/\δ'=[some (.lst (ts.map (atD s)),false),some (.lst (us.map (atD s)),false),some (.bl (decide (s.1.1 < s.2.1)),false),some (.lst (acc.map (atD s)),true),some (.int (k:Int),false),o5]
          | .bk δ'=>Kt Γ (.cons (.ret (.bin .Add (.var 3) (.sl (.var 1) (.cons (.var 4) .nil) .nil))) .nil) (Kd' Q) (.nx δ')
          | .rt r=>Kt Γ (.cons (.ret (.bin .Add (.var 3) (.sl (.var 1) (.cons (.var 4) .nil) .nil))) .nil) (Kd' Q) (.rt r):=fun k3 l3 e3=>by
        refine zAE (zF8 (xs:=acc2.map (atD s)) (i:=3) rfl (by rw [length_map];omega) ?_);(walk_at "w");refine ⟨ts',acc2++[t],k3,some (atD s t,false),rfl,fun y hy=>mem y (mem_cons_of_mem _ hy),l3,?_,?_⟩
        . rw [e3,append_assoc];exact em
        . rw [map_append]
          rfl
      (walk_at "w");rw [length_map];refine zBJ (fun c=>?_) fun c=>?_
      . have lt:k2 < us.length:=by omega
        have ed:us.drop k2=us[k2]::us.drop (k2+1):=drop_eq_getElem_cons lt;have eu:us[k2]?=some us[k2]:=getElem?_eq_getElem lt;have eA:atI (us.map (atD s)) (k2:Int)=some (atD s us[k2]):=zAo (by rw [getElem?_map,eu];rfl);generalize us[k2]=u at *;(walk_at "w");refine zAz eA ?_;(walk_at "w");refine (show EvP (cmpD .Eq (ptD (DM.ptAt s u)) (ptD (DM.ptAt s t))) _ from ?_);refine zN6 ?_;(walk_at "w");refine zBJ (fun c2=>?_) fun c2=>?_
        . have c3:=(zN7 ne).mp c2;refine zAE (zKh (i:=4) rfl ?_);(walk_at "e");refine zAu (k_nx ?_);rw [show (k2:Int)+1=((k2+1:Nat):Int) by omega];refine last (k2+1) (by omega) ?_;rw [ed,DM.zBW,if_pos c3]
        . have c3:¬ u=t:=fun z=>c2 ((zN7 ne).mpr z)
          refine zAu (k_nx ?_);refine last k2 lk ?_;rw [ed,DM.zBW,if_neg c3]
      . have e0:us.drop k2=[]:=drop_eq_nil_of_le (by omega);(walk_at "e");refine zAu (k_nx ?_);refine last k2 lk ?_;rw [e0]
        rfl
  . rintro δ ⟨ts',acc,k,o5,e,mem,hk,em,rfl⟩;cases ts' with
    | cons t ts'=>cases e
    | nil =>
      rw [DM.zAy] at em;refine k_nx ?_;(walk_at "w");rw [zHu,<- List.map_drop];refine zMy (by rw [length_map,length_map,<- length_append,em];omega) ?_;rw [<- map_append,em];(walk_at "w");exact h
end
theorem zQd {a b:Rat}{n:Nat}{k:Int}(ne:a≠b)(ha:RB n a)(hb:RB n b)(hk:RB 8 (k:Rat)):RB (3*n+10) (DM.tOf a b k) :=
  (zGc (show b - a≠0 by grind) (zCg hk ha) (zCg hb ha)).mono (by omega)
theorem zK4 {s:Pt×Pt}{n k:Nat}{t:Rat}(h1:PB n s.1)(h2:PB n s.2)(ht:RB k t):PB (3*n+k+2) (DM.ptAt s t):=⟨zQt h1.x h2.x ht,zQt h1.y h2.y ht⟩
theorem zLP {a b:Rat}{n w:Nat}(hw:w<=100)(ha:RB n a)(hb:RB n b):∀ t∈DM.tsQ a b w,RB (3*n+10) t:=fun t ht=>by
  unfold DM.tsQ at ht;obtain ⟨k,hk,rfl⟩:=mem_map.mp ht;obtain ⟨r,ne⟩:=zGi hw hk;exact zQd ne ha hb r
theorem zGX {s:Pt×Pt}{n w h:Nat}(hw:w<=100)(hh:h<=100)(h1:PB n s.1)(h2:PB n s.2):∀ t∈DM.zBZ w h s,RB (3*n+10) t:=fun t ht=>by
  unfold DM.zBZ DM.midQ at ht;rcases mem_append.mp ht with ht | ht
  . rcases mem_cons.mp ht with rfl | ht
    . exact zEx.mono (by omega)
    . rcases DM.zCU.mp ht with ht | ht
      . exact zLP hw h1.x h2.x t ht
      . exact zLP hh h1.y h2.y t ht
  . rw [mem_singleton.mp ht];exact zNQ.mono (by omega)
theorem zHL (a b:Rat)(w:Nat):(DM.tsQ a b w).length<=w+1:=by unfold DM.tsQ;rw [length_map];exact zE4 a b w
theorem zHN (w h:Nat)(s:Pt×Pt):(DM.zBZ w h s).length<=w+h+4:=by
  unfold DM.zBZ DM.midQ;have:=zC8 (DM.tsQ s.1.1 s.2.1 w) (DM.tsQ s.1.2 s.2.2 h);have:=zHL s.1.1 s.2.1 w;have:=zHL s.1.2 s.2.2 h;rw [length_append,length_cons,length_singleton];omega
theorem at_0 (s:Pt×Pt):DM.ptAt s 0=s.1:=by unfold DM.ptAt;rw [DM.pw_0,DM.pw_0]
theorem at_1 (s:Pt×Pt):DM.ptAt s 1=s.2:=by unfold DM.ptAt;rw [DM.pw_1,DM.pw_1]
def zNJ (nm nu nl nx:Nat):S:=.cons (.set 3 (.ix (.var 2) (.int 0))) (.cons (.set 4 (.ix (.var 2) (.int 1))) (.cons (.set 5 (.call nm "made_one" (.cons (.call nu "upright_crossings" (.cons (.var 2) (.cons (.var 0) .nil))) (.cons (.call nl "level_crossings" (.cons (.var 2) (.cons (.var 1) .nil))) (.cons (.call nx "under" (.cons (.ix (.var 3) (.int 0)) (.cons (.ix (.var 4) (.int 0)) .nil))) .nil))))) (.frz 4 (.frz 3 (.cons (.ret (.bin .Add (.bin .Add (.lst (.cons (.var 3) .nil)) (.var 5)) (.lst (.cons (.var 4) .nil)))) .nil)))))
def zLB (F:List D->Option R):Prop:=∀ (w h:Nat) (s:Pt×Pt) (n:Nat) (Q:R->Prop),PB n s.1->PB n s.2->20*n+200<=10000000->w<=100->h<=100->Q (.lst ((DM.zBZ w h s).map (atD s)),.fr)->EvP (F [.int w,.int h,zBw s]) Q
theorem zLU {Γ:Gm}{nm nu nl nx:Nat}{Fm Fu Fl Fx:List D->Option R}(em:Γ.fns[nm]?=some (("made_one":Str),Fm))(eu:Γ.fns[nu]?=some (("upright_crossings":Str),Fu))(el:Γ.fns[nl]?=some (("level_crossings":Str),Fl))(ex:Γ.fns[nx]?=some (("under":Str),Fx))
    (hm:zQU Fm) (hu:UpcF Fu) (hl:LvcF Fl) (hx:zEJ Fx):zLB (dFun 3 6 (evSs Γ (zNJ nm nu nl nx))):=fun w h s n Q h1 h2 hn hw hh hQ=>by
  (walk_at "d");unfold zNJ;(walk_at "st");(walk_at "w");refine hu s w n _ h1 h2 (by omega) hw ?_;(walk_at "w");refine hl s h n _ h1 h2 (by omega) hh ?_;(walk_at "w");refine zBu hx h1.x h2.x (by omega) ?_;(walk_at "w");have l1:=zHL s.1.1 s.2.1 w;have l2:=zHL s.1.2 s.2.2 h;refine hm s _ _ (6*n+20) _ (fun z=>?_) (fun t ht=>?_) (fun t ht=>?_) (by omega) (by omega) ?_
  . obtain ⟨t,ht⟩:=List.exists_mem_of_ne_nil _ z;exact (DM.zGl.mp ht).1
  . exact (zK4 h1 h2 (zLP hw h1.x h2.x t ht)).mono (by omega)
  . exact (zK4 h1 h2 (zLP hh h1.y h2.y t ht)).mono (by omega)
  have ml:=zC8 (DM.tsQ s.1.1 s.2.1 w) (DM.tsQ s.1.2 s.2.2 h);(walk_at "w");refine zMy (by rw [length_map,length_singleton];omega) ?_;(walk_at "w");refine zMy (by rw [length_append,length_map,length_singleton,length_singleton];omega) ?_;(walk_at "w");have e:[ptD s.1]++(DM.zAy (DM.tsQ s.1.1 s.2.1 w) (DM.tsQ s.1.2 s.2.2 h)).map (atD s)++[ptD s.2]=(DM.zBZ w h s).map (atD s):=by
    unfold DM.zBZ DM.midQ;rw [map_append,map_cons,map_cons,map_nil];unfold atD;rw [at_0,at_1]
    rfl
  rw [e];exact hQ
def midB (nt np ng:Nat):S:=.cons (.ret (.call nt "times" (.cons (.glob ng "HALF") (.cons (.call np "plus" (.cons (.var 0) (.cons (.var 1) .nil))) .nil)))) .nil
def MidF (F:List D->Option R):Prop:=∀ (p q:Rat) (n:Nat) (Q:R->Prop),RB n p->RB n q->n<=10000000->Q (ratD ((p+q) / 2),.cl)->EvP (F [ratD p,ratD q]) Q
theorem zRW {Γ:Gm}{nt np ng:Nat}{Ft Fp:List D->Option R}(et:Γ.fns[nt]?=some (("times":Str),Ft))(ep:Γ.fns[np]?=some (("plus":Str),Fp))(eg:Γ.cs[ng]?=some (("HALF":Str),.tup [.int 1,.int 2]))(ht:zEl Ft)(hp:zG9 Fp):MidF (dFun 2 2 (evSs Γ (midB nt np ng))):=fun p q n Q h1 h2 hn h=>by
  (walk_at "d");unfold midB;(walk_at "st");(walk_at "w");rw [zMG];refine zRM ht zGd (by (repeat walk_at "rb")) (by omega) ?_;(walk_at "w");rw [<- DM.zDO];exact h
def pcB (nw nm:Nat):S:=.cons (.set 2 (.call nw "whole_part" (.cons (.call nm "middle" (.cons (.ix (.var 0) (.int 0)) (.cons (.ix (.var 1) (.int 0)) .nil))) .nil))) (.cons (.set 3 (.call nw "whole_part" (.cons (.call nm "middle" (.cons (.ix (.var 0) (.int 1)) (.cons (.ix (.var 1) (.int 1)) .nil))) .nil))) (.cons (.ret (.tup (.cons (.max (.var 2) (.neg (.int 1))) (.cons (.var 3) (.cons (.var 0) (.cons (.var 1) .nil)))))) .nil))
def zCH (c r:Int)(p q:Pt):D:=.tup [.int c,.int r,ptD p,ptD q]
def colQ (p q:Pt):Int:=max ((p.1+q.1) / 2).floor (-1)
def rowQ (p q:Pt):Int:=((p.2+q.2) / 2).floor
def PcF (F:List D->Option R):Prop:=∀ (p q:Pt) (n:Nat) (Q:R->Prop),PB n p->PB n q->n<=10000000->Q (zCH (colQ p q) (rowQ p q) p q,.cl)->EvP (F [ptD p,ptD q]) Q
theorem zTI {Γ:Gm}{nw nm:Nat}{Fw Fm:List D->Option R}(ew:Γ.fns[nw]?=some (("whole_part":Str),Fw))(em:Γ.fns[nm]?=some (("middle":Str),Fm))(hw:WpF Fw)(hm:MidF Fm):PcF (dFun 2 4 (evSs Γ (pcB nw nm))):=fun p q n Q h1 h2 hn h=>by
  (walk_at "d");unfold pcB;(walk_at "st");(walk_at "w");refine hm _ _ n _ h1.x h2.x hn ?_;(walk_at "w");refine hw _ _ ?_;(walk_at "w");refine hm _ _ n _ h1.y h2.y hn ?_;(walk_at "w");refine hw _ _ ?_;(walk_at "w");exact h
theorem i_c0 {c r:Int}{p q:Pt}{Q:R->Prop}(h:Q (.int c,.cl)):EvP (ixD (zCH c r p q) (.int 0)) Q:=zDN rfl h
theorem i_c1 {c r:Int}{p q:Pt}{Q:R->Prop}(h:Q (.int r,.cl)):EvP (ixD (zCH c r p q) (.int 1)) Q:=zDN rfl h
theorem i_c2 {c r:Int}{p q:Pt}{Q:R->Prop}(h:Q (ptD p,.cl)):EvP (ixD (zCH c r p q) (.int 2)) Q:=zDN rfl h
theorem i_c3 {c r:Int}{p q:Pt}{Q:R->Prop}(h:Q (ptD q,.cl)):EvP (ixD (zCH c r p q) (.int 3)) Q:=zDN rfl h
def onB:S:=.cons (.ret (.andl (.cons (.cmp .Lt (.ix (.var 2) (.int 0)) (.var 0)) (.cons (.chn .LtE .Lt (.int 0) (.ix (.var 2) (.int 1)) (.var 1)) .nil)))) .nil
def OnF (F:List D->Option R):Prop:=∀ (w h c r:Int) (p q:Pt) (Q:R->Prop),Q (.bl (decide (c < w)&&(decide (0<=r)&&decide (r < h))),.cl)->EvP (F [.int w,.int h,zCH c r p q]) Q
theorem zTJ {Γ:Gm}:OnF (dFun 3 3 (evSs Γ onB)):=fun w h c r p q Q hQ=>by
  (walk_at "d");unfold onB;(walk_at "st");(walk_at "w");refine i_c0 ?_;(walk_at "w");refine zBJ (fun z1=>?_) fun z1=>?_
  . refine zFC (zSS ?_);(walk_at "w");refine i_c1 ?_;(walk_at "w");refine zBJ (fun z2=>?_) fun z2=>?_
    . (walk_at "w");simpa [z1,z2] using hQ
    . (walk_at "w");simpa [z1,z2] using hQ
  . (walk_at "w");simpa [z1] using hQ
def pcQ (s:Pt×Pt)(p:Rat×Rat):D:=zCH (colQ (DM.ptAt s p.1) (DM.ptAt s p.2)) (rowQ (DM.ptAt s p.1) (DM.ptAt s p.2)) (DM.ptAt s p.1) (DM.ptAt s p.2)
def zIS (w h:Nat)(s:Pt×Pt):List (Rat×Rat):=(DM.adj (DM.zBZ w h s)).filter fun p=>decide (DM.zGR w h s (DM.mid2 p))
theorem zJ1 {w h:Nat}(hw:1<=w)(s:Pt×Pt)(p:Rat×Rat):(decide (colQ (DM.ptAt s p.1) (DM.ptAt s p.2) < (w:Int))&&(decide (0<=rowQ (DM.ptAt s p.1) (DM.ptAt s p.2))&&decide (rowQ (DM.ptAt s p.1) (DM.ptAt s p.2) < (h:Int))))=decide (DM.zGR w h s (DM.mid2 p)):=by
  have e:∀ a b:Bool,(a=true<->b=true)->a=b:=fun a b z=>by cases a<;>cases b<;>simp_all
  refine e _ _ ?_;simp only [and_eq_true,decide_eq_true_eq];unfold DM.zGR colQ rowQ;rw [DM.zHW,DM.zHW];unfold DM.ptAt;dsimp only;generalize (DM.pw s.1.1 s.2.1 p.1+DM.pw s.1.1 s.2.1 p.2) / 2=x;generalize (DM.pw s.1.2 s.2.2 p.1+DM.pw s.1.2 s.2.2 p.2) / 2=y;have f1:x.floor < (w:Int)<->x < ((w:Int):Rat):=Rat.floor_lt_iff;have f2:(0:Int)<=y.floor<->((0:Int):Rat)<=y:=Rat.le_floor_iff;have f3:y.floor < (h:Int)<->y < ((h:Int):Rat):=Rat.floor_lt_iff;have z0:((0:Int):Rat)=0:=rfl;have z1:(((w:Nat):Int):Rat)=(w:Rat):=rfl;have z2:(((h:Nat):Int):Rat)=(h:Rat):=rfl;rw [z0] at f2;rw [z1] at f1;rw [z2] at f3;rw [<- f1,<- f2,<- f3];omega
def zJF (ns np no:Nat):S:=.cons (.ife (.cmp .Eq (.ix (.var 2) (.int 0)) (.ix (.var 2) (.int 1))) (.cons (.ret (.lst .nil)) .nil) .nil) (.cons (.set 3 (.call ns "stops" (.cons (.var 0) (.cons (.var 1) (.cons (.var 2) .nil))))) (.frz 3 (.cons (.setC 4 (.comp1 5 [] "k" (.r1 (.bin .Sub (.len (.var 3)) (.int 1))) .nil (.call np "piece_between" (.cons (.ix (.var 3) (.var 5)) (.cons (.ix (.var 3) (.bin .Add (.var 5) (.int 1))) .nil))))) (.frz 4 (.cons (.ret (.comp1 5 [] "part" (.it (.var 4)) (.cons (.call no "counts_on" (.cons (.var 0) (.cons (.var 1) (.cons (.var 5) .nil)))) .nil) (.var 5))) .nil)))))
def zCq (w h:Nat)(s:Pt×Pt):List (Rat×Rat):=if s.1=s.2 then [] else zIS w h s
def zHA (F:List D->Option R):Prop:=∀ (w h:Nat) (s:Pt×Pt) (n:Nat) (Q:R->Prop),PB n s.1->PB n s.2->20*n+200<=10000000->1<=w->w<=100->h<=100->Q (.lst ((zCq w h s).map (pcQ s)),.fr)->EvP (F [.int w,.int h,zBw s]) Q
def zSO (nm:Nat):S:=.cons (.ret (.call nm "minus" (.cons (.ix (.ix (.var 0) (.int 2)) (.int 1)) (.cons (.ix (.ix (.var 0) (.int 3)) (.int 1)) .nil)))) .nil
def zLF (F:List D->Option R):Prop:=∀ (c r:Int) (p q:Pt) (n:Nat) (Q:R->Prop),PB n p->PB n q->n<=10000000->Q (ratD (p.2 - q.2),.cl)->EvP (F [zCH c r p q]) Q
theorem zPv {Γ:Gm}{nm:Nat}{Fm:List D->Option R}(em:Γ.fns[nm]?=some (("minus":Str),Fm))(hm:zGQ Fm):zLF (dFun 1 1 (evSs Γ (zSO nm))):=fun c r p q n Q h1 h2 hn h=>by
  (walk_at "d");unfold zSO;(walk_at "st");(walk_at "w");refine i_c2 ?_;(walk_at "w");refine i_c3 ?_;(walk_at "w");exact h
def zNO (ng nt nf nm nd:Nat):S:=.cons (.set 1 (.ix (.var 0) (.int 0))) (.cons (.ife (.cmp .Eq (.var 1) (.neg (.int 1))) (.cons (.ret (.glob ng "NOUGHT")) .nil) .nil) (.cons (.ret (.call nt "times" (.cons (.call nf "fall" (.cons (.var 0) .nil)) (.cons (.call nm "minus" (.cons (.tup (.cons (.bin .Add (.var 1) (.int 1)) (.cons (.int 1) .nil))) (.cons (.call nd "middle" (.cons (.ix (.ix (.var 0) (.int 2)) (.int 0)) (.cons (.ix (.ix (.var 0) (.int 3)) (.int 0)) .nil))) .nil))) .nil)))) .nil))
def zFn (c:Int)(p q:Pt):Rat:=if c=-1 then 0 else (p.2 - q.2)*(((c+1:Int):Rat) - (p.1+q.1) / 2)
def zH2 (F:List D->Option R):Prop:=∀ (c r:Int) (p q:Pt) (n:Nat) (Q:R->Prop),PB n p->PB n q->10*n+100<=10000000->c.natAbs<=1000->Q (ratD (zFn c p q),.cl)->EvP (F [zCH c r p q]) Q
theorem zNj {p q:Rat}{n:Nat}(h1:RB n p)(h2:RB n q):RB (2*n+3) ((p+q) / 2):=by
  rw [DM.zDO];exact (zES zGd (zB7 h1 h2)).mono (by omega)
theorem zLc {Γ:Gm}{ng nt nf nm nd:Nat}{Ft Ff Fm Fd:List D->Option R}(eg:Γ.cs[ng]?=some (("NOUGHT":Str),.tup [.int 0,.int 1]))(et:Γ.fns[nt]?=some (("times":Str),Ft))(ef:Γ.fns[nf]?=some (("fall":Str),Ff))(em:Γ.fns[nm]?=some (("minus":Str),Fm))(ed:Γ.fns[nd]?=some (("middle":Str),Fd))
    (ht:zEl Ft) (hf:zLF Ff) (hm:zGQ Fm) (hd:MidF Fd):zH2 (dFun 1 2 (evSs Γ (zNO ng nt nf nm nd))):=fun c r p q n Q h1 h2 hn hc h=>by
  (walk_at "d");unfold zNO;(walk_at "st");(walk_at "w");refine i_c0 ?_;(walk_at "w");unfold zFn at h;refine zBJ (fun z=>?_) fun z=>?_
  . rw [if_pos z] at h;(walk_at "w");exact h
  . rw [if_neg z] at h;have rc:RB 12 ((c+1:Int):Rat):=zC2 (zBT (k:=2000) (by omega) (by decide)) (by decide);have rm:=zNj h1.x h2.x;have rf:RB (n+n+1) (p.2 - q.2):=zCg h1.y h2.y;(walk_at "w");refine hf c r p q n _ h1 h2 (by omega) ?_;(walk_at "w");rw [zD1];refine i_c2 ?_;(walk_at "w");refine i_c3 ?_;(walk_at "w");refine hd _ _ n _ h1.x h2.x (by omega) ?_;(walk_at "w");exact h
theorem zG8:∀ l:List Rat,(DM.adj l).length=l.length - 1
  | []=>by rw [DM.zG7];rfl
  | [a]=>by rw [DM.zFR];rfl
  | a::b::r=>by
    rw [DM.zEI,length_cons,zG8 (b::r)];simp
theorem zK9:∀ {l:List Rat} {i:Nat} {p:Rat×Rat},(DM.adj l)[i]?=some p->l[i]?=some p.1/\l[i+1]?=some p.2
  | [],i,p,h=>by rw [DM.zG7] at h;simp at h
  | [a],i,p,h=>by rw [DM.zFR] at h;simp at h
  | a::b::r,i,p,h=>by
    rw [DM.zEI] at h;cases i with
    | zero =>
      simp at h;subst h;exact ⟨rfl,rfl⟩
    | succ i =>
      rw [List.getElem?_cons_succ] at h;have:=zK9 h;exact ⟨by simpa using this.1,by simpa using this.2⟩
def zRA (s:Pt×Pt)(L:List (Rat×Rat)):D->D
  | .int k=>pcQ s (L.getD k.toNat (0,0))
  | d=>d
def onD (w h:Int):D->Bool
  | .tup [.int c,.int r,_,_]=>decide (c < w)&&(decide (0<=r)&&decide (r < h))
  | _=>false
theorem zOw {w h:Nat}(hw:1<=w)(s:Pt×Pt)(L:List (Rat×Rat)):((L.map (pcQ s)).filter (onD w h)).map id=(L.filter fun p=>decide (DM.zGR w h s (DM.mid2 p))).map (pcQ s):=by
  rw [List.map_id,List.filter_map];congr 1;refine List.filter_congr fun p _=>?_
  exact zJ1 hw s p
theorem zJE {Γ:Gm}{ns np no:Nat}{Fs Fp Fo:List D->Option R}(es:Γ.fns[ns]?=some (("stops":Str),Fs))(ep:Γ.fns[np]?=some (("piece_between":Str),Fp))(eo:Γ.fns[no]?=some (("counts_on":Str),Fo))(hs:zLB Fs)(hp:PcF Fp)(ho:OnF Fo) :
    zHA (dFun 3 5 (evSs Γ (zJF ns np no))):=fun w h s n Q h1 h2 hn hw1 hw hh hQ=>by
  (walk_at "d");unfold zJF;(walk_at "st");refine zAE ?_;(walk_at "e");refine zN6 ?_;(walk_at "e");unfold zCq at hQ;refine zBJ (fun z=>?_) fun z=>?_
  . rw [if_pos z] at hQ;(walk_at "w");exact hQ
  rw [if_neg z] at hQ;unfold zIS at hQ;refine zAu (k_nx (zAE ?_));(walk_at "e");refine hs w h s n _ h1 h2 hn hw hh ?_;have sl:=zHN w h s;have sb:∀ t∈DM.zBZ w h s,PB (6*n+20) (DM.ptAt s t):=fun t ht=>(zK4 h1 h2 (zGX hw hh h1 h2 t ht)).mono (by omega)
  generalize DM.zBZ w h s=l at *;have al:=zG8 l;(walk_at "e");refine zHn rfl ?_;(walk_at "s");refine zAE (zGw (zDD (zIB ?_)));(walk_at "e");rw [length_map];refine ⟨by omega,?_⟩;rw [show ((l.length:Int) - 1).toNat=(DM.adj l).length by omega];refine ⟨by rw [zAZ];omega,?_⟩;refine (show EvP (zBY (tg1 5) (evC Γ .nil) _ _ ([some (.int (w:Int),false),some (.int (h:Int),false),some (zBw s,false),some (.lst (l.map (atD s)),false),none]++[none])) _ from ?_);refine zEd (n:=5) (base:=[some (.int (w:Int),false),some (.int (h:Int),false),some (zBw s,false),some (.lst (l.map (atD s)),false),none]) rfl (zRA s (DM.adj l)) _ _ (fun y hy=>?_) ?_
  . obtain ⟨k,rfl,k0,k1⟩:=zCp hy;(walk_at "c");have hk:k.toNat < (DM.adj l).length:=by omega
    have ek:k=((k.toNat:Nat):Int):=by omega
    have eg:(DM.adj l)[k.toNat]?=some (DM.adj l)[k.toNat]:=getElem?_eq_getElem hk;have ed:(DM.adj l).getD k.toNat (0,0)=(DM.adj l)[k.toNat]:=by rw [getD_eq_getElem?_getD,eg];rfl
    obtain ⟨g1,g2⟩:=zK9 eg;generalize (DM.adj l)[k.toNat]=pr at *;have e1:atI (l.map (atD s)) k=some (atD s pr.1):=by
      conv=>lhs;rw [ek]
      exact zAo (by rw [getElem?_map,g1];rfl)
    have e2:atI (l.map (atD s)) (k+1)=some (atD s pr.2):=by
      conv=>lhs;rw [show k+1=((k.toNat+1:Nat):Int) by omega]
      exact zAo (by rw [getElem?_map,g2];rfl)
    (walk_at "w");refine zAz e1 ?_;(walk_at "w");refine zAz e2 ?_;(walk_at "w");refine (show EvP (Fp [ptD (DM.ptAt s pr.1),ptD (DM.ptAt s pr.2)]) _ from ?_);refine hp _ _ (6*n+20) _ (sb _ (mem_of_getElem? g1)) (sb _ (mem_of_getElem? g2)) (by omega) ?_;(walk_at "w");show zCH _ _ _ _=pcQ s ((DM.adj l).getD k.toNat (0,0));rw [ed]
    rfl
  rw [zJ9 (DM.adj l) (pcQ s) _ fun i x e=>by
    show pcQ s ((DM.adj l).getD (i:Int).toNat (0,0))=pcQ s x;rw [toNat_natCast,getD_eq_getElem?_getD,e]
    rfl]
  (walk_at "e");refine zHn rfl ?_;(walk_at "s");refine zAE (zCN (zDD (zFZ ?_)));(walk_at "e");refine ⟨by rw [length_map];omega,?_⟩;refine (show EvP (zBY (tg1 5) (evC Γ (.cons _ .nil)) _ _ ([some (.int (w:Int),false),some (.int (h:Int),false),some (zBw s,false),some (.lst (l.map (atD s)),false),some (.lst ((DM.adj l).map (pcQ s)),false)]++[none])) _ from ?_);refine zFJ (n:=5) (base:=[some (.int (w:Int),false),some (.int (h:Int),false),some (zBw s,false),some (.lst (l.map (atD s)),false),some (.lst ((DM.adj l).map (pcQ s)),false)]) rfl (onD w h) id _ _ (fun y hy=>?_) (fun y hy _=>?_) ?_
  . obtain ⟨p,hp',rfl⟩:=mem_map.mp hy;(walk_at "c");(walk_at "w");refine ho _ _ _ _ _ _ _ ?_;(walk_at "w")
    rfl
  . (walk_at "c");(walk_at "w")
    rfl
  . rw [zOw hw1];(walk_at "w");exact hQ
structure Pc where
  c:Int
  r:Int
  p:Pt
  q:Pt
def pcD (z:Pc):D:=zCH z.c z.r z.p z.q
def pcO (s:Pt×Pt)(t:Rat×Rat):Pc:=⟨colQ (DM.ptAt s t.1) (DM.ptAt s t.2),rowQ (DM.ptAt s t.1) (DM.ptAt s t.2),DM.ptAt s t.1,DM.ptAt s t.2⟩
def zC0 (w h:Nat)(s:Pt×Pt):List Pc:=(zCq w h s).map (pcO s)
def zDI (w h:Nat)(ps:List Pt):List Pc:=(DM.zAf ps).flatMap (zC0 w h)
def allP (w h:Nat)(rs:List (List Pt)):List Pc:=rs.flatMap (zDI w h)
def zCL (z:Pc):Rat:=z.p.2 - z.q.2
def zCf (z:Pc):Rat:=zFn z.c z.p z.q
structure PcB (n w h:Nat)(z:Pc):Prop where
  c0:-1<=z.c
  c1:z.c < (w:Int)
  r0:0<=z.r
  r1:z.r < (h:Int)
  p:PB (6*n+20) z.p
  q:PB (6*n+20) z.q
theorem zQR {l:List Rat}{t:Rat×Rat}(h:t∈DM.adj l):t.1∈l/\t.2∈l:=by
  induction l with
  | nil=>exact absurd h (by simp [DM.adj])
  | cons a l ih =>
    cases l with
    | nil=>exact absurd h (by simp [DM.adj])
    | cons b l =>
      rw [DM.adj] at h;rcases mem_cons.mp h with rfl | h
      . exact ⟨by simp,by simp⟩
      . exact ⟨mem_cons_of_mem _ (ih h).1,mem_cons_of_mem _ (ih h).2⟩
theorem zOP {n w h:Nat}{s:Pt×Pt}(hw:1<=w)(hw2:w<=100)(hh:h<=100)(h1:PB n s.1)(h2:PB n s.2):∀ z∈zC0 w h s,PcB n w h z:=by
  intro z hz;unfold zC0 zCq at hz;obtain ⟨t,ht,rfl⟩:=mem_map.mp hz;split at ht
  . exact absurd ht (by simp)
  . unfold zIS at ht;obtain ⟨m,k⟩:=mem_filter.mp ht;obtain ⟨m1,m2⟩:=zQR m;rw [<- zJ1 hw s t] at k;simp only [and_eq_true,decide_eq_true_eq] at k;have c0:-1<=colQ (DM.ptAt s t.1) (DM.ptAt s t.2):=by unfold colQ;omega
    exact ⟨c0,k.1,k.2.1,k.2.2,(zK4 h1 h2 (zGX hw2 hh h1 h2 _ m1)).mono (by omega),(zK4 h1 h2 (zGX hw2 hh h1 h2 _ m2)).mono (by omega)⟩
theorem zEu (w h:Nat)(s:Pt×Pt):(zC0 w h s).length<=w+h+4:=by
  unfold zC0 zCq;rw [length_map];split
  . simp
  . unfold zIS;have a:=length_filter_le (fun p=>decide (DM.zGR w h s (DM.mid2 p))) (DM.adj (DM.zBZ w h s));have b:=zG8 (DM.zBZ w h s);have c:=zHN w h s;omega
theorem zLW (w h:Nat)(s:Pt×Pt):(zCq w h s).map (pcQ s)=(zC0 w h s).map pcD:=by
  unfold zC0;rw [map_map]
  rfl
def RgP (n:Nat)(ps:List Pt):Prop:=ps.length<=12/\∀ p∈ps,PB n p
theorem zOV {n w h:Nat}{ps:List Pt}(hw:1<=w)(hw2:w<=100)(hh:h<=100)(hp:RgP n ps):∀ z∈zDI w h ps,PcB n w h z:=by
  intro z hz;obtain ⟨s,hs,hz⟩:=List.mem_flatMap.mp hz;obtain ⟨m1,m2⟩:=DM.zFf hs;exact zOP hw hw2 hh (hp.2 _ m1) (hp.2 _ m2) z hz
theorem zN8 {n w h:Nat}{rs:List (List Pt)}(hw:1<=w)(hw2:w<=100)(hh:h<=100)(hr:∀ ps∈rs,RgP n ps):∀ z∈allP w h rs,PcB n w h z:=by
  intro z hz;obtain ⟨s,hs,hz⟩:=List.mem_flatMap.mp hz;exact zOV hw hw2 hh (hr s hs) z hz
theorem zC9 {α β:Type}(f:α->List β)(n:Nat):∀ l:List α,(∀ x∈l,(f x).length<=n)->(l.flatMap f).length<=l.length*n
  | [],_=>by simp
  | a::l,h=>by
    have ih:=zC9 f n l fun x hx=>h x (mem_cons_of_mem _ hx)
    have ha:=h a mem_cons_self;rw [List.flatMap_cons,length_append,length_cons,Nat.succ_mul];omega
theorem zFl (w h:Nat)(ps:List Pt):(zDI w h ps).length<=ps.length*(w+h+4):=by
  have:=zC9 (zC0 w h) (w+h+4) (DM.zAf ps) fun s _=>zEu w h s
  rw [DM.zFg] at this;exact this
def allB (ns np:Nat):S:=.cons (.set 3 (.lst .nil)) (.cons (.for1 4 (.it (.var 2)) (.cons (.for1 5 (.it (.call ns "sides" (.cons (.var 4) .nil))) (.cons (.ext 3 (.call np "pieces" (.cons (.var 0) (.cons (.var 1) (.cons (.var 5) .nil))))) .nil)) .nil)) (.cons (.retOwn 3) .nil))
structure FlB (n w h:Nat)(rs:List (List Pt)):Prop where
  w1:1<=w
  w2:w<=6
  h1:1<=h
  h2:h<=6
  m:rs.length<=6
  b:n<=1000
  r:∀ ps∈rs,RgP n ps
def AllF (F:List D->Option R):Prop:=∀ (n w h:Nat) (rs:List (List Pt)) (Q:R->Prop),FlB n w h rs->Q (.lst ((allP w h rs).map pcD),.fr)->EvP (F [.int w,.int h,zAY rs]) Q
theorem zFY {α β:Type}(f:α->List β){l:List α}{i:Nat}{x:α}(e:l[i]?=some x):(l.take (i+1)).flatMap f=(l.take i).flatMap f++f x:=by
  rw [take_add_one,e];show (l.take i++[x]).flatMap f=_;rw [List.flatMap_append];simp
theorem zSt {Γ:Gm}{ns np:Nat}{Fs Fp:List D->Option R}(es:Γ.fns[ns]?=some (("sides":Str),Fs))(ep:Γ.fns[np]?=some (("pieces":Str),Fp))(hs:zLC Fs)(hp:zHA Fp):AllF (dFun 3 6 (evSs Γ (allB ns np))):=fun n w h rs Q fb hQ=>by
  obtain ⟨w1,w2,h1,h2,hn,nb,hr⟩:=fb;(walk_at "d");unfold allB;(walk_at "st");refine zAE ?_;(walk_at "e");have bnd:∀ i,((rs.take i).flatMap (zDI w h)).length<=6*192:=fun i=>by
    have:=zC9 (zDI w h) 192 (rs.take i) fun ps hps=>by
      have a:=zFl w h ps;have b:=(hr ps (mem_of_mem_take hps)).1;have c:ps.length*(w+h+4)<=12*16:=Nat.mul_le_mul b (by omega);omega
    have l:(rs.take i).length<=6:=by rw [length_take];omega
    have:=mul_le_mul_right 192 l;omega
  refine zAE (zB2 (zFZ (zAH rfl (w_cl (ds:=rs.map zBg) ?_))));refine zCA (fun xs δ=>∃ (i:Nat) (a b:Option (D×Bool)),δ=[some (.int (w:Int),false),some (.int (h:Int),false),some (zAY rs,false),some (.lst (((rs.take i).flatMap (zDI w h)).map pcD),true),a,b]/\xs=(rs.drop i).map zBg/\i<=rs.length) ?_ ?_ _ _ ⟨0,none,none,rfl,rfl,zero_le _⟩
  . rintro x xs δ ⟨i,a,b,rfl,exs,hi⟩;have hlt:i < rs.length:=by
      by_cases q:i < rs.length
      . exact q
      . rw [drop_eq_nil_of_le (by omega)] at exs;cases exs
    rw [drop_eq_getElem_cons hlt,map_cons] at exs;obtain ⟨rfl,rfl⟩:=List.cons.inj exs;have eg:rs[i]?=some rs[i]:=getElem?_eq_getElem hlt;generalize rs[i]=ps at eg exs;have hps:=hr ps (mem_of_getElem? eg);have et:=zFY (zDI w h) eg;have b0:=bnd i;generalize (rs.take i).flatMap (zDI w h)=A at et b0;refine ⟨_,rfl,?_⟩;(walk_at "s");refine zAE (zB2 (zFZ (zAQ es (zAC (zAH rfl (n_cl (zAi ?_)))))));have p1:=hps.1;refine hs ps _ (by omega) ?_;refine n_fr (w_fr ?_);refine zCA (fun ys δ=>∃ (j:Nat) (b:Option (D×Bool)),δ=[some (.int (w:Int),false),some (.int (h:Int),false),some (zAY rs,false),some (.lst ((A++((DM.zAf ps).take j).flatMap (zC0 w h)).map pcD),true),some (zBg ps,false),b]/\ys=((DM.zAf ps).drop j).map zBw/\j<=(DM.zAf ps).length) ?_ ?_ _ _ ⟨0,b,?_,rfl,zero_le _⟩
    . rintro y ys δ ⟨j,b,rfl,eys,hj⟩;have hlt2:j < (DM.zAf ps).length:=by
        by_cases q:j < (DM.zAf ps).length
        . exact q
        . rw [drop_eq_nil_of_le (by omega)] at eys;cases eys
      rw [drop_eq_getElem_cons hlt2,map_cons] at eys;obtain ⟨rfl,rfl⟩:=List.cons.inj eys;have eg2:(DM.zAf ps)[j]?=some (DM.zAf ps)[j]:=getElem?_eq_getElem hlt2;generalize (DM.zAf ps)[j]=s at eg2 eys;obtain ⟨m1,m2⟩:=DM.zFf (mem_of_getElem? eg2);have et2:=zFY (zC0 w h) eg2;have b1:(((DM.zAf ps).take j).flatMap (zC0 w h)).length<=12*16:=by
        have:=zC9 (zC0 w h) 16 ((DM.zAf ps).take j) fun s _=>le_trans (zEu w h s) (by omega)
        have l:((DM.zAf ps).take j).length<=12:=by rw [length_take,DM.zFg];omega
        have:=mul_le_mul_right 16 l;omega
      have b2:=zEu w h s;refine ⟨_,rfl,?_⟩;(walk_at "s");refine zAE (zSZ rfl (zAQ ep (zAC (zAH rfl (n_cl (zAC (zAH rfl (n_cl (zAC (zAH rfl (n_cl (zAi ?_))))))))))));refine hp w h s n _ (hps.2 _ m1) (hps.2 _ m2) (by omega) w1 (by omega) (by omega) ?_;rw [zLW];refine n_fr ⟨_,rfl,?_,zAu ?_⟩
      . rw [length_map,length_append,length_map];omega
      . refine ⟨j+1,some (zBw s,false),?_,rfl,by omega⟩;simp only [List.set_cons_zero,List.set_cons_succ,et2,map_append,append_assoc]
    . rintro δ ⟨j,b,rfl,eys,hj⟩;have e:j=(DM.zAf ps).length:=by
        have:=congrArg List.length eys;rw [length_map,length_drop,length_nil] at this;omega
      subst e;rw [take_length];refine k_nx (zAu ?_);refine ⟨i+1,some (zBg ps,false),b,?_,rfl,by omega⟩;rw [et]
      rfl
    . simp only [take_zero,List.flatMap_nil,append_nil]
  . rintro δ ⟨i,a,b,rfl,exs,hi⟩;have e:i=rs.length:=by
      have:=congrArg List.length exs;rw [length_map,length_drop,length_nil] at this;omega
    subst e;rw [take_length];refine k_nx ?_;(walk_at "w");exact hQ
def rowB (np nt ng:Nat):S:=.cons (.set 2 (.lst .nil)) (.cons (.set 3 (.glob ng "NOUGHT")) (.cons (.for1 4 (.r1 (.bin .Sub (.len (.var 0)) (.int 1))) (.cons (.set 3 (.call np "plus" (.cons (.var 3) (.cons (.call nt "total" (.cons (.ix (.var 0) (.var 4)) .nil)) .nil)))) (.cons (.app 2 (.call np "plus" (.cons (.var 3) (.cons (.call nt "total" (.cons (.ix (.var 1) (.bin .Add (.var 4) (.int 1))) .nil)) .nil)))) .nil))) (.cons (.retOwn 2) .nil)))
def zEw (fs:List (List Rat)):D:=.lst (fs.map zBF)
def zDA (fs:List (List Rat))(j:Nat):Rat:=DM.sumR ((fs.take j).map DM.sumR)
def zLY (fs gs:List (List Rat))(w:Nat):List Rat:=(List.range w).map fun c=>zDA fs (c+1)+DM.sumR (gs.getD (c+1) [])
def RowF (F:List D->Option R):Prop:=∀ (fs gs:List (List Rat)) (w L B:Nat) (Q:R->Prop),fs.length=w+1->gs.length=w+1->w<=6->L<=5000->L*(B+1)<=4000000->(∀ f∈fs,f.length<=L/\∀ q∈f,RB B q)->(∀ f∈gs,f.length<=L/\∀ q∈f,RB B q)->Q (zBF (zLY fs gs w),.fr)->EvP (F [zEw fs,zEw gs]) Q
theorem zIn {f:List Rat}{L B:Nat}(l:L*(B+1)<=4000000)(h:f.length<=L/\∀ q∈f,RB B q):WB f (f.length*(B+1))/\f.length*(B+1)<=4000000/\RB 4000001 (DM.sumR f):=by
  have a:=zM8 h.2;have b:f.length*(B+1)<=L*(B+1):=mul_le_mul_right _ h.1;exact ⟨a,le_trans b l,(zM7 a).mono (Nat.succ_le_succ (le_trans b l))⟩
theorem zGs {fs:List (List Rat)}{j:Nat}{f:List Rat}(e:fs[j]?=some f):zDA fs (j+1)=zDA fs j+DM.sumR f:=by
  unfold zDA;rw [take_add_one,e];show DM.sumR ((fs.take j++[f]).map DM.sumR)=_;rw [map_append,DM.zCy];simp [DM.sumR,Rat.add_zero]
theorem zQp {Γ:Gm}{np nt ng:Nat}{Fp Ft:List D->Option R}(ep:Γ.fns[np]?=some (("plus":Str),Fp))(et:Γ.fns[nt]?=some (("total":Str),Ft))(eg:Γ.cs[ng]?=some (("NOUGHT":Str),.tup [.int 0,.int 1]))(hp:zG9 Fp)(ht:zLA Ft):RowF (dFun 2 5 (evSs Γ (rowB np nt ng))):=fun fs gs w L B Q lf lg hw hL hLB hf hg hQ=>by
  (walk_at "d");unfold rowB;(walk_at "st");refine zAE ?_;(walk_at "e");refine zAE (zEb (zFB eg ?_));(walk_at "e");refine zAE (zB2 (zIB (zA0 (zBD (zAH rfl (zEN (zAS (zSq ?_))))))));rw [length_map,lf];refine ⟨_,rfl,by omega,?_⟩;rw [show (((w+1:Nat):Int) - 1).toNat=w by omega];refine zCA (fun xs δ=>∃ (j:Nat) (o:Option (D×Bool)),δ=[some (zEw fs,false),some (zEw gs,false),some (zBF ((List.range j).map fun c=>zDA fs (c+1)+DM.sumR (gs.getD (c+1) [])),true),some (ratD (zDA fs j),false),o]/\xs=(rngL 0 w).drop j/\j<=w/\RB (1+j*4000002) (zDA fs j)) ?_ ?_ _ _ ⟨0,none,rfl,rfl,zero_le _,?_⟩
  . rintro x xs δ ⟨j,o,rfl,exs,hj,rb⟩;obtain ⟨hlt,rfl,rfl⟩:=zQq exs.symm;have ef:fs[j]?=some (fs[j]'(by omega)):=getElem?_eq_getElem (by omega);have eg2:gs[j+1]?=some (gs[j+1]'(by omega)):=getElem?_eq_getElem (by omega);generalize fs[j]'(by omega)=f at ef;generalize gs[j+1]'(by omega)=g at eg2;obtain ⟨w1,w2,w3⟩:=zIn hLB (hf f (mem_of_getElem? ef));obtain ⟨v1,v2,v3⟩:=zIn hLB (hg g (mem_of_getElem? eg2));have l1:=(hf f (mem_of_getElem? ef)).1;have l2:=(hg g (mem_of_getElem? eg2)).1;have fsc:=zGs ef;have jb:j*4000002<=5*4000002:=mul_le_mul_right _ (by omega);have rb2:RB (1+(j+1)*4000002) (zDA fs (j+1)):=by
      rw [fsc];exact (zB7 rb w3).mono (by rw [Nat.succ_mul];omega)
    have jb2:(j+1)*4000002<=6*4000002:=mul_le_mul_right _ (by omega);refine ⟨_,rfl,?_⟩;(walk_at "s");refine zAE ?_;(walk_at "e");refine zAz (d:=zBF f) (zAo (by rw [getElem?_map,ef];rfl)) ?_;(walk_at "e");refine ht f _ _ w1 (by omega) (by omega) ?_;(walk_at "e");rw [<- fsc];refine zAE (zF8 rfl (by rw [length_map,length_map,length_range];omega) ?_);(walk_at "e");refine zAz (d:=zBF g) (by rw [show (j:Int)+1=((j+1:Nat):Int) by omega];exact zAo (by rw [getElem?_map,eg2];rfl)) ?_;(walk_at "e");refine ht g _ _ v1 (by omega) (by omega) ?_;(walk_at "e");refine zAu ?_;refine ⟨j+1,some (.int j,false),?_,rfl,by omega,rb2⟩;unfold zBF;rw [range_succ,map_append,map_append];have e:gs.getD (j+1) []=g:=by rw [getD_eq_getElem?_getD,eg2];rfl
    rw [map_cons,map_nil,map_cons,map_nil,e]
  . rintro δ ⟨j,o,rfl,exs,hj,rb⟩;obtain rfl:=zOT exs hj;refine k_nx ?_;(walk_at "w");exact hQ
  . exact zEx.mono (by omega)
def dz (c r:Int)(z:Pc):Rat:=(if z.r=r/\z.c < c then zCL z else 0)+(if z.r=r/\z.c=c then zCf z else 0)
def dueZ (zs:List Pc)(c r:Int):Rat:=DM.sumR (zs.map (dz c r))
def zOR (w h:Nat)(c r:Int)(s:Pt×Pt):Rat:=dueZ (zC0 w h s) c r
theorem zEr {α:Type}(f:α->List Pc)(c r:Int):∀ l:List α,dueZ (l.flatMap f) c r=DM.sumR (l.map fun x=>dueZ (f x) c r)
  | []=>rfl
  | a::l=>by
    rw [List.flatMap_cons];have ih:=zEr f c r l;unfold dueZ at *;rw [map_append,DM.zCy,ih]
    rfl
theorem zLb (w h:Nat)(c r:Int)(ps:List Pt):dueZ (zDI w h ps) c r=DM.zAg (zOR w h c r) ps:=by
  unfold zDI;rw [zEr,<- DM.zBm]
  rfl
theorem zSd {c r:Int}(c0:0<=c)(s:Pt×Pt)(t:Rat×Rat):dz c r (pcO s t)=DM.dzM c r (DM.ptAt s t.1) (DM.ptAt s t.2):=by
  unfold dz DM.dzM pcO zCL zCf zFn colQ rowQ;dsimp only;generalize DM.ptAt s t.1=p;generalize DM.ptAt s t.2=q;generalize ((p.2+q.2) / 2).floor=y;generalize (p.1+q.1) / 2=m;generalize m.floor=x;by_cases e:y=r
  . rw [if_pos e];by_cases a:x < c
    . rw [if_pos ⟨e,by omega⟩,if_pos a,if_neg (by omega),Rat.add_zero]
    . rw [if_neg (by omega),if_neg a,Rat.zero_add];by_cases b:x=c
      . have k:max x (-1)=c:=by omega
        rw [k,if_pos ⟨e,rfl⟩,if_pos b,if_neg (by omega)]
      . rw [if_neg (by omega),if_neg b]
  . rw [if_neg e,if_neg (fun z=>e z.1),if_neg (fun z=>e z.1),Rat.add_zero]
theorem zEP {α:Type}(f:α->Rat)(P:α->Bool):∀ l:List α,(∀ x∈l,P x=false->f x=0)->DM.sumR ((l.filter P).map f)=DM.sumR (l.map f)
  | [],_=>rfl
  | a::l,h=>by
    have ih:=zEP f P l fun x hx=>h x (mem_cons_of_mem _ hx)
    rw [filter_cons];cases e:P a with
    | true=>rw [if_pos rfl,map_cons,map_cons,DM.sumR,DM.sumR,ih]
    | false=>rw [if_neg Bool.false_ne_true,map_cons,DM.sumR,ih,h a mem_cons_self e,Rat.zero_add]
abbrev boxC (c r:Int):Pt×Pt->Rat:=DM.boxG (c:Rat) ((c+1:Int):Rat) (r:Rat) ((r+1:Int):Rat)
theorem zOQ {w h:Nat}(s:Pt×Pt){c r:Int}(c0:0<=c)(c1:c < w)(r0:0<=r)(r1:r < h):zOR w h c r s=boxC c r s:=by
  have k:=DM.zLX s c0 c1 r0 r1;unfold zOR dueZ zC0 zCq;by_cases e:s.1=s.2
  . rw [if_pos e];obtain ⟨p,q⟩:=s;cases e;exact ((DM.zCl (DM.zDz c) (DM.zDz r)).self p).symm
  . rw [if_neg e];show DM.sumR (((zIS w h s).map (pcO s)).map (dz c r))=DM.boxG (c:Rat) ((c+1:Int):Rat) (r:Rat) ((r+1:Int):Rat) s;rw [<- k];unfold zIS;rw [map_map,zEP]
    . refine DM.zBQ fun t _=>zSd c0 s t
    . intro t _ z;show dz c r (pcO s t)=0;rw [zSd c0];exact DM.zQG c1 r0 r1 (of_decide_eq_false z)
theorem zOW {w h:Nat}(ps:List Pt){c r:Int}(c0:0<=c)(c1:c < w)(r0:0<=r)(r1:r < h):dueZ (zDI w h ps) c r=DM.zAg (boxC c r) ps:=by
  rw [zLb];exact DM.zDU (fun s=>zOQ s c0 c1 r0 r1) ps
theorem zGP {w h:Nat}(rs:List (List Pt)){c r:Int}(c0:0<=c)(c1:c < w)(r0:0<=r)(r1:r < h):dueZ (allP w h rs) c r=DM.sumR (rs.map (DM.zAg (boxC c r))):=by
  unfold allP;rw [zEr];exact DM.zBQ fun ps _=>zOW ps c0 c1 r0 r1
end DL
end
section
namespace DL
open PySem Spec PyProof.Rows L2
inductive W where
  | dat (d:D) | loc (n:Nat) | tup (l:List W)
noncomputable instance:Inhabited W:=⟨.dat .non⟩
abbrev Mem:=List (List W)
def fzH (H:Hp):Hp:=fun b=>match H b with
  | some (.tup xs)=>some (.tup xs)
  | some (.frz o u)=>some (.frz o u)
  | some (.dT kvs)=>some (.dT kvs)
  | _=>none
theorem zB9 {H:Hp}:Same (fzH H) H:=fun b o h=>by
  unfold fzH at h;split at h
  . rename_i e;cases h;exact e
  . rename_i e;cases h;exact e
  . rename_i e;cases h;exact e
  . cases h
theorem zNt {H:Hp}{a:Addr}{xs:List V}(h:H a=some (.tup xs)):fzH H a=some (.tup xs):=by unfold fzH;rw [h]
theorem zD2 {H:Hp}{a:Addr}{o:Obj}{u:HO}(h:H a=some (.frz o u)):fzH H a=some (.frz o u):=by unfold fzH;rw [h]
theorem zNu {H:Hp}{a:Addr}{kvs:List (List Key×V)}(h:H a=some (.dT kvs)):fzH H a=some (.dT kvs):=by unfold fzH;rw [h]
theorem zBU {H H':Hp}(h:Same H H'):Same (fzH H) (fzH H'):=fun b o q=>by
  have e:=h _ _ (zB9 _ _ q);unfold fzH at q;split at q
  . cases q;exact zNt e
  . cases q;exact zD2 e
  . cases q;exact zNu e
  . cases q
theorem zNs {H:Hp}{a:Addr}{xs ys:List V}(h:H a=some (.lst xs)):fzH (upd H a (.lst ys))=fzH H:=by
  funext b;unfold fzH;by_cases e:b=a
  . subst e;rw [zAe,h]
  . rw [zAO e]
abbrev Kp (H H':Hp):Prop:=Same (fzH H) (fzH H')
theorem zQk {K:W.Frag}{H:Hp}{a:Addr}{xs:List V}(h:SqT K H a xs):SqT K (fzH H) a xs:=by
  rcases h with (h | ⟨o,h⟩) | h
  . exact .inl (.inl (zNt h))
  . exact .inl (.inr ⟨o,zD2 h⟩)
  . exact .inr h
mutual
def noL:D->Bool
  | .lst _=>false
  | .tup ds=>noLs ds
  | .lam _ _ ds=>noLs ds
  | _=>true
def noLs:List D->Bool
  | []=>true
  | d::ds=>noL d&&noLs ds
end
section
variable {K:W.Frag}{H:Hp}
mutual
theorem Den.fz:∀ {d:D} {v:V},noL d=true->Den K H d v->Den K (fzH H) d v
  | .non,_,_,h=>by rw [Den] at h ⊢;exact h
  | .bl _,_,_,h=>by rw [Den] at h ⊢;exact h
  | .int _,_,_,h=>by rw [Den] at h ⊢;exact h
  | .str _,_,_,h=>by rw [Den] at h ⊢;exact h
  | .lst _,_,n,_=>by rw [noL] at n;cases n
  | .tup ds,_,n,h=>by
    rw [noL] at n;rw [Den] at h ⊢;obtain ⟨a,vs,h1,h2,h3⟩:=h;exact ⟨a,vs,h1,zQk h2,DenL.fz n h3⟩
  | .exc c,_,_,h=>by
    rw [Den] at h ⊢;obtain ⟨a,o,u,C,h1,h2,h3⟩:=h;exact ⟨a,o,u,C,h1,zD2 h2,h3⟩
  | .dct ks,_,_,h=>by
    rw [Den] at h ⊢;obtain ⟨a,kvs,h1,h2,h3⟩:=h;exact ⟨a,kvs,h1,zNu h2,h3⟩
  | .lam _ L ds,_,n,h=>by
    rw [noL] at n;rw [Den] at h ⊢;obtain ⟨a,vs,h1,⟨cl,pm,c,ctv,oc,u1,g1,g2,g3,g4,g5,g6⟩,h3⟩:=h;exact ⟨a,vs,h1,⟨cl,pm,c,ctv,oc,u1,zD2 g1,zD2 g2,g3,g4,g5,Paired.mapP g6 fun _ _ zy120=>by obtain ⟨o,u,k1,k2⟩:=zy120;exact ⟨o,u,zD2 k1,k2⟩⟩,DenL.fz n h3⟩
theorem DenL.fz:∀ {ds:List D} {vs:List V},noLs ds=true->DenL K H ds vs->DenL K (fzH H) ds vs
  | [],_,_,h=>by rw [DenL] at h ⊢;exact h
  | d::ds,_,n,h=>by
    rw [noLs,and_eq_true] at n;rw [DenL] at h ⊢;obtain ⟨v,ws,h1,h2,h3⟩:=h;exact ⟨v,ws,h1,Den.fz n.1 h2,DenL.fz n.2 h3⟩
end
end
mutual
def DenW (K:W.Frag)(H:Hp)(α:List Addr):W->V->Prop
  | .dat d,v=>Den K (fzH H) d v
  | .loc n,v=>∃ a,α[n]?=some a/\v=.ref a
  | .tup ws,v=>∃ a vs,v=.ref a/\SqT K (fzH H) a vs/\DenWL K H α ws vs
def DenWL (K:W.Frag)(H:Hp)(α:List Addr):List W->List V->Prop
  | [],vs=>vs=[]
  | w::ws,vs=>∃ v us,vs=v::us/\DenW K H α w v/\DenWL K H α ws us
end
section
variable {K:W.Frag}{H H':Hp}{α:List Addr}
mutual
theorem DenW.mono (e:Kp H H')(β:List Addr):∀ {w:W} {v:V},DenW K H α w v->DenW K H' (α++β) w v
  | .dat _,_,h=>by rw [DenW] at h ⊢;exact h.mono e
  | .loc n,_,h=>by
    rw [DenW] at h ⊢;obtain ⟨a,h1,h2⟩:=h;exact ⟨a,by rw [getElem?_append_left (zzg h1).1];exact h1,h2⟩
  | .tup ws,_,h=>by
    rw [DenW] at h ⊢;obtain ⟨a,vs,h1,h2,h3⟩:=h;exact ⟨a,vs,h1,Same.tupS e h2,DenWL.mono e β h3⟩
theorem DenWL.mono (e:Kp H H')(β:List Addr):∀ {ws:List W} {vs:List V},DenWL K H α ws vs->DenWL K H' (α++β) ws vs
  | [],_,h=>by rw [DenWL] at h ⊢;exact h
  | w::ws,_,h=>by
    rw [DenWL] at h ⊢;obtain ⟨v,us,h1,h2,h3⟩:=h;exact ⟨v,us,h1,DenW.mono e β h2,DenWL.mono e β h3⟩
end
theorem DenW.keep (e:Kp H H'){w:W}{v:V}(h:DenW K H α w v):DenW K H' α w v:=by
  have:=h.mono e [];rwa [append_nil] at this
theorem DenWL.keep (e:Kp H H'){ws:List W}{vs:List V}(h:DenWL K H α ws vs):DenWL K H' α ws vs:=by
  have:=h.mono e [];rwa [append_nil] at this
theorem DenWL.nil:DenWL K H α [] []:=by rw [DenWL]
theorem DenWL.cons {w:W}{ws:List W}{v:V}{vs:List V}(h:DenW K H α w v)(t:DenWL K H α ws vs):DenWL K H α (w::ws) (v::vs):=by
  rw [DenWL];exact ⟨v,vs,rfl,h,t⟩
theorem DenWL.length:∀ {ws:List W} {vs:List V},DenWL K H α ws vs->ws.length=vs.length
  | [],_,h=>by rw [DenWL] at h;rw [h];rfl
  | _::ws,_,h=>by
    rw [DenWL] at h;obtain ⟨v,us,h1,h2,h3⟩:=h;rw [h1,length_cons,length_cons,DenWL.length h3]
theorem DenWL.get:∀ {ws:List W} {vs:List V} {i:Nat} {w:W},DenWL K H α ws vs->ws[i]?=some w->∃ v,vs[i]?=some v/\DenW K H α w v
  | [],_,_,_,_,e=>by simp at e
  | x::ws,_,i,w,h,e=>by
    rw [DenWL] at h;obtain ⟨v,us,h1,h2,h3⟩:=h;subst h1;cases i with
    | zero=>simp at e;subst e;exact ⟨v,by simp,h2⟩
    | succ i =>
      obtain ⟨u,q1,q2⟩:=DenWL.get (i:=i) (w:=w) h3 (by simpa using e);exact ⟨u,by simpa using q1,q2⟩
theorem DenWL.append:∀ {ws xs:List W} {vs us:List V},DenWL K H α ws vs->DenWL K H α xs us->DenWL K H α (ws++xs) (vs++us)
  | [],_,_,_,h,t=>by rw [DenWL] at h;subst h;exact t
  | _::ws,_,_,_,h,t=>by
    rw [DenWL] at h;obtain ⟨v,us',h1,h2,h3⟩:=h;subst h1;exact .cons h2 (DenWL.append h3 t)
theorem DenWL.set {w:W}{v:V}(hw:DenW K H α w v):∀ {ws:List W} {vs:List V} (n:Nat),DenWL K H α ws vs->DenWL K H α (ws.set n w) (vs.set n v)
  | [],_,n,h=>by rw [DenWL] at h;subst h;exact .nil
  | _::ws,_,n,h=>by
    rw [DenWL] at h;obtain ⟨u,us,h1,h2,h3⟩:=h;subst h1;cases n with
    | zero=>exact .cons hw h3
    | succ n=>exact .cons h2 (DenWL.set hw n h3)
theorem DenWL.dats:∀ {ds:List D} {vs:List V},DenL K (fzH H) ds vs->DenWL K H α (ds.map .dat) vs
  | [],_,h=>by rw [DenL] at h;subst h;exact .nil
  | d::ds,_,h=>by
    rw [DenL] at h;obtain ⟨v,us,h1,h2,h3⟩:=h;subst h1;exact .cons (by rw [DenW];exact h2) (DenWL.dats h3)
end
structure zAR (K:W.Frag)(H:Hp)(α:List Addr)(μ:Mem):Prop where
  len:α.length=μ.length
  nd:α.Nodup
  at_:∀ (n:Nat) ws,μ[n]?=some ws->∃ a vs,α[n]?=some a/\H a=some (.lst vs)/\DenWL K H α ws vs
structure MS (K:W.Frag)(H:Hp)(α:List Addr)(μ:Mem)(σ:St)(δ:List (Option W)):Prop where
  cells:zAR K H α μ
  len:σ.length=δ.length
  get:∀ (i:Nat) w,δ[i]?=some (some w)->∃ v,σ[i]?=some (some v)/\DenW K H α w v
section
variable {K:W.Frag}{H H':Hp}{α:List Addr}{μ:Mem}
theorem zAR.same (h:zAR K H α μ)(e:Same H H'):zAR K H' α μ :=
  ⟨h.len,h.nd,fun n ws q=>let ⟨a,vs,h1,h2,h3⟩:=h.at_ n ws q;⟨a,vs,h1,e _ _ h2,h3.keep (zBU e)⟩⟩
theorem zAR.new (h:zAR K H α μ)(e:Same H H'){a:Addr}{vs:List V}{ws:List W}(n:H a=none)(ha:H' a=some (.lst vs))(t:DenWL K H' (α++[a]) ws vs):zAR K H' (α++[a]) (μ++[ws]):=by
  refine ⟨by rw [length_append,length_append,h.len];rfl,?_,fun m xs q=>?_⟩
  . rw [List.nodup_append];refine ⟨h.nd,by simp,fun b hb c hc=>?_⟩;rw [mem_singleton.mp hc];rintro rfl;obtain ⟨i,hi,ei⟩:=List.mem_iff_getElem.mp hb;obtain ⟨a',vs',q1,q2,_⟩:=h.at_ i _ (getElem?_eq_getElem (show i < μ.length by rw [<- h.len];exact hi));rw [getElem?_eq_getElem hi,ei] at q1;cases q1;rw [n] at q2;cases q2
  . by_cases lt:m < μ.length
    . rw [getElem?_append_left lt] at q;obtain ⟨b,us,q1,q2,q3⟩:=h.at_ m xs q;exact ⟨b,us,by rw [getElem?_append_left (by rw [h.len];exact lt)];exact q1,e _ _ q2,q3.mono (zBU e) [a]⟩
    . rw [getElem?_append_right (by omega)] at q;have em:m - μ.length=0:=by
        have:=(zzg q).1;simp at this;omega
      rw [em] at q;cases q;exact ⟨a,vs,by rw [getElem?_append_right (by rw [h.len];omega),h.len,em];rfl,ha,t⟩
theorem zAR.change (h:zAR K H α μ){n:Nat}{a:Addr}{vs us:List V}{ws:List W}(hn:n < μ.length)(ha:α[n]?=some a)(hv:H a=some (.lst us))(t:DenWL K H α ws vs):zAR K (upd H a (.lst vs)) α (μ.set n ws):=by
  have kp:Kp H (upd H a (.lst vs)):=by show Same _ _;rw [zNs hv];exact Same.refl _
  refine ⟨by rw [length_set];exact h.len,h.nd,fun m xs q=>?_⟩;by_cases e:n=m
  . subst e;rw [getElem?_set_self hn] at q;cases q;exact ⟨a,vs,ha,zAe,t.keep kp⟩
  . rw [getElem?_set_ne e] at q;obtain ⟨b,us',q1,q2,q3⟩:=h.at_ m xs q;have ne:b≠a:=by
      rintro rfl;have l1:=(zzg ha);have l2:=(zzg q1);obtain ⟨i1,e1⟩:=l1;obtain ⟨i2,e2⟩:=l2;have pw:=List.pairwise_iff_getElem.mp h.nd;rcases Nat.lt_or_gt_of_ne e with lt | lt
      . exact pw n m i1 i2 lt (e1.trans e2.symm)
      . exact pw m n i2 i1 lt (e2.trans e1.symm)
    exact ⟨b,us',q1,by rw [zAO ne];exact q2,q3.keep kp⟩
theorem MS.next {σ:St}{δ:List (Option W)}(h:MS K H α μ σ δ){β:List Addr}{μ':Mem}(e:Kp H H')(c:zAR K H' (α++β) μ'):MS K H' (α++β) μ' σ δ :=
  ⟨c,h.len,fun i w q=>let ⟨v,q1,q2⟩:=h.get i w q;⟨v,q1,q2.mono e β⟩⟩
theorem MS.set {σ:St}{δ:List (Option W)}(h:MS K H α μ σ δ){i:Nat}{w:W}{v:V}(hw:DenW K H α w v):MS K H α μ (σ.set i (some v)) (δ.set i (some w)):=by
  refine ⟨h.cells,by rw [length_set,length_set];exact h.len,fun j x q=>?_⟩;rcases zAU q with ⟨rfl,z,hl⟩ | ⟨ne,z⟩
  . cases z;exact ⟨v,zA3 (by rw [h.len];exact hl),hw⟩
  . obtain ⟨u,q1,q2⟩:=h.get j x z;exact ⟨u,by rw [zAm ne];exact q1,q2⟩
end
mutual
def sbW (f:Nat->Option D):W->Option D
  | .dat d=>some d
  | .loc n=>f n
  | .tup ws=>(sbL f ws).map .tup
def sbL (f:Nat->Option D):List W->Option (List D)
  | []=>some []
  | w::ws=>(sbW f w).bind fun d=>(sbL f ws).map fun ds=>d::ds
end
def drN (μ:Mem):Nat->Nat->Option D
  | 0,_=>none
  | k+1,n=>(μ[n]?).bind fun ws=>(sbL (drN μ k) ws).map .lst
def drW (μ:Mem)(w:W):Option D:=sbW (drN μ 6) w
def drS (μ:Mem)(δ:List (Option W)):Dst:=δ.map fun o=>o.bind fun w=>(drW μ w).map fun d=>(d,false)
section
variable {K:W.Frag}{H:Hp}{α:List Addr}{μ:Mem}
mutual
theorem zNL {f:Nat->Option D}(hf:∀ n d a,f n=some d->α[n]?=some a->Den K H d (.ref a)):∀ {w:W} {v:V} {d:D},DenW K H α w v->sbW f w=some d->Den K H d v
  | .dat x,v,d,h,e=>by
    rw [sbW] at e;cases e;rw [DenW] at h;exact h.mono zB9
  | .loc n,v,d,h,e=>by
    rw [sbW] at e;rw [DenW] at h;obtain ⟨a,h1,rfl⟩:=h;exact hf n d a e h1
  | .tup ws,v,d,h,e=>by
    rw [sbW] at e;obtain ⟨ds,e1,rfl⟩:=map_eq_some_iff.mp e;rw [DenW] at h;obtain ⟨a,vs,rfl,h2,h3⟩:=h;rw [Den];exact ⟨a,vs,rfl,Same.tupS zB9 h2,sb_denL hf h3 e1⟩
theorem sb_denL {f:Nat->Option D}(hf:∀ n d a,f n=some d->α[n]?=some a->Den K H d (.ref a)):∀ {ws:List W} {vs:List V} {ds:List D},DenWL K H α ws vs->sbL f ws=some ds->DenL K H ds vs
  | [],_,_,h,e=>by
    rw [sbL] at e;cases e;rw [DenWL] at h;subst h;exact .nil
  | w::ws,_,_,h,e=>by
    rw [sbL] at e;obtain ⟨d,e1,e⟩:=bind_some e;obtain ⟨ds,e2,rfl⟩:=map_eq_some_iff.mp e;rw [DenWL] at h;obtain ⟨v,us,rfl,h2,h3⟩:=h;exact .cons (zNL hf h2 e1) (sb_denL hf h3 e2)
end
theorem zGz (c:zAR K H α μ):∀ (k n:Nat) (d:D) (a:Addr),drN μ k n=some d->α[n]?=some a->Den K H d (.ref a)
  | 0,_,_,_,e,_=>by cases e
  | k+1,n,d,a,e,ha=>by
    obtain ⟨ws,e1,e⟩:=bind_some e;obtain ⟨ds,e2,rfl⟩:=map_eq_some_iff.mp e;obtain ⟨b,vs,q1,q2,q3⟩:=c.at_ n ws e1;rw [ha] at q1;cases q1;rw [Den];exact ⟨a,vs,rfl,SqL.of q2,sb_denL (zGz c k) q3 e2⟩
theorem zSf (c:zAR K H α μ){w:W}{v:V}{d:D}(h:DenW K H α w v)(e:drW μ w=some d):Den K H d v:=zNL (zGz c 6) h e
theorem zN2 {σ:St}{δ:List (Option W)}(h:MS K H α μ σ δ):DS K H [] σ (drS μ δ):=by
  refine ⟨by unfold drS;rw [length_map];exact h.len,fun a z=>absurd z (by simp),fun i d o q=>?_,fun i j d e a q1 q2 _ _=>?_⟩
  . unfold drS at q;rw [getElem?_map] at q;obtain ⟨x,e1,e2⟩:=map_eq_some_iff.mp q;obtain ⟨w,rfl,e2⟩:=bind_some e2;obtain ⟨d',e3,e4⟩:=map_eq_some_iff.mp e2;cases e4;obtain ⟨v,q1,q2⟩:=h.get i w e1;exact ⟨v,q1,.of_den (by rw [zBB];exact zSf h.cells q2 e3)⟩
  . unfold drS at q1;rw [getElem?_map] at q1;obtain ⟨x,e1,e2⟩:=map_eq_some_iff.mp q1;obtain ⟨w,rfl,e2⟩:=bind_some e2;obtain ⟨d',e3,e4⟩:=map_eq_some_iff.mp e2;cases e4
end
structure Mst where
  δ:List (Option W)
  μ:Mem
abbrev MR:=W×Mem
def gM (K:W.Frag)(g:Mst->Option MR):TE:=fun σ H Q=>∃ α δ μ r,MS K H α μ σ δ/\g ⟨δ,μ⟩=some r/\∀ v H' β,Kp H H'->zAR K H' (α++β) r.2->DenW K H' (α++β) r.1 v->Q v H'
def GM (X:Cx)(e:Expr)(g:Mst->Option MR):Prop:=PE X e (gM X.K g)
def zFQ (r:R)(μ:Mem):Option MR:=match r with
  | (d,.cl)=>if noL d=true then some (.dat d,μ) else none
  | (.lst es,.fr)=>if noLs es=true then some (.loc μ.length,μ++[es.map .dat]) else none
  | _=>none
def zL5 (f:Dst->Option R):Mst->Option MR:=fun s=>(f (drS s.μ s.δ)).bind fun r=>zFQ r s.μ
theorem zH0 {K:W.Frag}{H H':Hp}{α:List Addr}{μ:Mem}{r:R}{z:MR}{v:V}(c:zAR K H α μ)(e:Same H H')(h:RV K H H' [] r v)(q:zFQ r μ=some z):∃ β,zAR K H' (α++β) z.2/\DenW K H' (α++β) z.1 v:=by
  unfold zFQ at q;split at q
  . rename_i d;by_cases n:noL d=true
    . rw [if_pos n] at q;cases q;refine ⟨[],by rw [append_nil];exact c.same e,?_⟩;rw [DenW];have h':Den K (hide H' []) d v:=h;rw [zBB] at h';exact h'.fz n
    . rw [if_neg n] at q;cases q
  . rename_i es;by_cases n:noLs es=true
    . rw [if_pos n] at q;cases q;obtain ⟨a,vs,ds,rfl,e2,_,e4,e5,t⟩:=h;cases e2;have t':DenL K (fzH H') es vs:=(t.mono zAd).fz n;refine ⟨[a],c.new e e4 e5 (DenWL.dats t'),?_⟩;rw [DenW];exact ⟨a,by show (α++[a])[μ.length]?=_;rw [getElem?_append_right (by rw [c.len];omega),c.len,sub_self];rfl,rfl⟩
    . rw [if_neg n] at q;cases q
  . cases q
theorem zPc {X:Cx}{e:Expr}{f:Dst->Option R}(h:GE X e f):GM X e (zL5 f):=h.imp fun σ H Q zz77=>by
  obtain ⟨α,δ,μ,z,ms,q,c⟩:=zz77;obtain ⟨r,er,q⟩:=bind_some q;refine ⟨[],drS μ δ,r,zN2 ms,er,fun v H' s1 r1=>?_⟩;obtain ⟨β,c1,d1⟩:=zH0 ms.cells s1 r1 q;exact c v H' β (zBU s1) c1 d1
section
variable {X:Cx}
theorem Kp.refl (H:Hp):Kp H H:=Same.refl _
def varM (i:Nat):Mst->Option MR:=fun s=>match s.δ[i]? with
  | some (some w)=>some (w,s.μ)
  | _=>none
theorem zRz {i:Nat}{x:Str}{pos:Pos}(hN:X.N[i]?=some x)(hv:Vis X.env.scope x)(hd:(x==("__debug__":Str))=false)(hcd:(x==("__classdict__":Str))=false):GM X (.Name x pos) (varM i):=by
  refine (zDo hN hv hd hcd).imp fun σ H Q zz78=>?_
  obtain ⟨α,δ,μ,r,ms,q,c⟩:=zz78;unfold varM at q;split at q
  . rename_i w e;cases q;obtain ⟨v,q1,q2⟩:=ms.get i w e;exact ⟨v,q1,c v H [] (Kp.refl H) (by rw [append_nil];exact ms.cells) (by rw [append_nil];exact q2)⟩
  . cases q
abbrev MA:=List W×Mem
def gAM (K:W.Frag)(g:Mst->Option MA):TA:=fun σ H Q=>∃ α δ μ r,MS K H α μ σ δ/\g ⟨δ,μ⟩=some r/\∀ vs H' β,Kp H H'->zAR K H' (α++β) r.2->DenWL K H' (α++β) r.1 vs->Q vs H'
def GAM (X:Cx)(es:List Expr)(g:Mst->Option MA):Prop:=PA X es (gAM X.K g)
def nilM:Mst->Option MA:=fun s=>some ([],s.μ)
theorem zPn:GAM X [] nilM:=zA9.imp fun σ H Q zz79=>by
  obtain ⟨α,δ,μ,r,ms,q,c⟩:=zz79;cases q;exact c [] H [] (Kp.refl H) (by rw [append_nil];exact ms.cells) .nil
def zMq (f:Mst->Option MR)(g:Mst->Option MA):Mst->Option MA:=fun s=>(f s).bind fun w=>(g ⟨s.δ,w.2⟩).bind fun ws=>some (w.1::ws.1,ws.2)
theorem zMR {e:Expr}{es:List Expr}{f:Mst->Option MR}{g:Mst->Option MA}(ha:GM X e f)(hr:GAM X es g)(hs:starEach (e::es) X.env=(false,eval e X.env)::starEach es X.env):GAM X (e::es) (zMq f g):=by
  refine (zAa ha hr hs).imp fun σ H Q zz80=>?_
  obtain ⟨α,δ,μ,r,ms,q,c⟩:=zz80;obtain ⟨w,e1,q⟩:=bind_some q;obtain ⟨ws,e2,q⟩:=bind_some q;cases q;refine ⟨α,δ,μ,w,ms,e1,fun v H1 β1 k1 c1 d1=>⟨α++β1,δ,w.2,ws,ms.next k1 c1,e2,fun vs H2 β2 k2 c2 d2=>?_⟩⟩;refine c (v::vs) H2 (β1++β2) (k1.trans k2) (by rw [<- append_assoc];exact c2) (.cons ?_ ?_)
  . rw [<- append_assoc];exact d1.mono k2 β2
  . rw [<- append_assoc];exact d2
def lstM (g:Mst->Option MA):Mst->Option MR:=fun s=>(g s).bind fun r=>if r.1.length<=10000 then some (.loc r.2.length,r.2++[r.1]) else none
def tupM (g:Mst->Option MA):Mst->Option MR:=fun s=>(g s).bind fun r=>if r.1.length<=10000 then some (.tup r.1,r.2) else none
def datL:List W->Option (List D)
  | []=>some []
  | .dat d::ws=>(datL ws).map fun ds=>d::ds
  | _=>none
def zS2 (g:Mst->Option MA):Mst->Option MR:=fun s=>(g s).bind fun r=>if r.1.length<=10000 then (datL r.1).map fun ds=>(.dat (.tup ds),r.2) else none
theorem zJy {K:W.Frag}{H H':Hp}{α:List Addr}{μ:Mem}{a:Addr}(c:zAR K H α μ):DenW K H' (α++[a]) (.loc μ.length) (.ref a):=by
  rw [DenW];exact ⟨a,by rw [getElem?_append_right (by rw [c.len];omega),c.len,sub_self];rfl,rfl⟩
theorem zR0 {es:List Expr}{g:Mst->Option MA}{pos:Pos}(h:GAM X es g):GM X (.List es pos) (lstM g):=by
  refine (zNZ h).imp fun σ H Q zz81=>?_
  obtain ⟨α,δ,μ,r,ms,q,c⟩:=zz81;obtain ⟨ws,e1,q⟩:=bind_some q;by_cases hl:ws.1.length<=10000
  . rw [if_pos hl] at q;cases q;refine ⟨α,δ,μ,ws,ms,e1,fun vs H1 β k1 c1 d1=>⟨by rw [<- d1.length];exact zCe hl,fun p n=>?_⟩⟩;have s2:Same H1 (upd H1 p (.lst vs)):=zAj n _;refine c _ _ (β++[p]) (k1.trans (zBU s2)) ?_ ?_
    . rw [<- append_assoc];exact c1.new s2 n zAe (d1.mono (zBU s2) [p])
    . rw [<- append_assoc];exact zJy c1
  . rw [if_neg hl] at q;cases q
abbrev MF:=List W->Mem->Option MR
def spM (K:W.Frag)(F:MF):Sp:=fun vs H Q _=>∃ α μ ws r,zAR K H α μ/\DenWL K H α ws vs/\F ws μ=some r/\∀ v H' β,Kp H H'->zAR K H' (α++β) r.2->DenW K H' (α++β) r.1 v->Q v H'
def zIc (F:MF)(g:Mst->Option MA):Mst->Option MR:=fun s=>(g s).bind fun ws=>F ws.1 ws.2
theorem zK0 {F:MF}{g:Mst->Option MA}{σ:St}{H:Hp}{Q:VK}(q:gM X.K (zIc F g) σ H Q):zLT (spM X.K F) [] E0 (gAM X.K g) σ H Q:=by
  obtain ⟨α,δ,μ,r,ms,q,c⟩:=q;obtain ⟨ws,e1,q⟩:=bind_some q;refine ⟨α,δ,μ,ws,ms,e1,fun vs H1 β k1 c1 d1=>?_⟩;show spM X.K F (vs++[]) H1 Q E0;rw [append_nil];exact ⟨α++β,ws.2,ws.1,r,c1,d1,q,fun v H2 β2 k2 c2 d2=>c v H2 (β++β2) (k1.trans k2) (by rw [<- append_assoc];exact c2) (by rw [<- append_assoc];exact d2)⟩
theorem zPd {k:Nat}{f:Addr}{fd:FuncData}{ps:List Str}{F:MF}{x:Str}{p pos:Pos}{e:Expr}{es:List Expr}{g:Mst->Option MA}(FO:FnOk X.prog X.w X.K X.mg X.base CX0 k f fd ps (spM X.K F))(hr:Room k X.A)(hg:Gl X x)(hm:X.mg x=some (.ref f))
    (hk:W.keepIn X.K (.ref f)=true) (hb:zCC X.K fd ps []) (ha:GAM X (e::es) g) (hdb:(x==("__debug__":Str))=false) (he:starEach (e::es) X.env=(false,eval e X.env)::starEach es X.env) (hpl:∀ pos,(backTo pos (starEach es X.env)).any (·.1)=false) :
    GM X (.Call (.Name x p) (e::es) [] pos) (zIc F g) :=
  (zJJ FO hr hg hm hk hb .nil zOk ha hdb he (hpl pos)).imp fun _ _ _ q=>zK0 q
def zFz (F:List D->Option R):MF:=fun ws μ=>(sbL (drN μ 6) ws).bind fun ds=>(F ds).bind fun r=>zFQ r μ
theorem FnOk.lift {P:Program}{w:World}{K:W.Frag}{mg:Str->Option Value}{base:Heap}{k:Nat}{f:Addr}{fd:FuncData}{ps:List Str}{F:List D->Option R}(h:FnOk P w K mg base CX0 k f fd ps (spD K F)):FnOk P w K mg base CX0 k f fd ps (spM K (zFz F)) :=
  h.imp fun vs H Q E zz82=>by
    obtain ⟨α,μ,ws,r,c,d,q,n⟩:=zz82;obtain ⟨ds,e1,q⟩:=bind_some q;obtain ⟨z,e2,q⟩:=bind_some q;refine ⟨[],ds,z,fun a ha=>absurd ha (by simp),by rw [zBB];exact sb_denL (zGz c 6) d e1,e2,?_,fun v H' s1 r1=>?_⟩
    . intro hz;unfold zFQ at q;split at q
      . cases hz
      . cases hz
      . cases q
    . obtain ⟨β,c1,d1⟩:=zH0 c s1 r1 q;exact n v H' β (zBU s1) c1 d1
def opM (o:D->D->Option R)(x y:W)(μ:Mem):Option MR:=(drW μ x).bind fun a=>(drW μ y).bind fun b=>(o a b).bind fun r=>zFQ r μ
def twoM (f g:Mst->Option MR)(o:W->W->Mem->Option MR):Mst->Option MR:=fun s=>(f s).bind fun x=>(g ⟨s.δ,x.2⟩).bind fun y=>o x.1 y.1 y.2
def OpW (K:W.Frag)(r:R2)(o:W->W->Mem->Option MR):Prop :=
  ∀ (H:Hp) (α:List Addr) (μ:Mem) (x y:W) (z:MR) (vx vy:V) (Q:VK),zAR K H α μ->o x y μ=some z->DenW K H α x vx->DenW K H α y vy->(∀ v H' β,Kp H H'->zAR K H' (α++β) z.2->DenW K H' (α++β) z.1 v->Q v H')->r vx vy H Q
theorem zOq {r:R2}{o:W->W->Mem->Option MR}{f g:Mst->Option MR}(h:OpW X.K r o){σ:St}{H:Hp}{Q:VK}(q:gM X.K (twoM f g o) σ H Q):tOp r (gM X.K f) (gM X.K g) σ H Q:=by
  obtain ⟨α,δ,μ,z,ms,q,c⟩:=q;obtain ⟨x,e1,q⟩:=bind_some q;obtain ⟨y,e2,q⟩:=bind_some q;refine ⟨α,δ,μ,x,ms,e1,fun vx H1 β1 k1 c1 d1=>⟨α++β1,δ,x.2,y,ms.next k1 c1,e2,fun vy H2 β2 k2 c2 d2=>?_⟩⟩;refine h H2 (α++β1++β2) y.2 x.1 y.1 z vx vy Q c2 q (d1.mono k2 β2) d2 fun v H3 β3 k3 c3 d3=>?_
  refine c v H3 (β1++β2++β3) (k1.trans (k2.trans k3)) ?_ ?_
  . rw [show α++(β1++β2++β3)=α++β1++β2++β3 by simp];exact c3
  . rw [show α++(β1++β2++β3)=α++β1++β2++β3 by simp];exact d3
def ixW (x y:W)(μ:Mem):Option MR:=match x,y with
  | .loc n,.dat (.int i)=>(μ[n]?).bind fun ws=>(atI ws i).map fun w=>(w,μ)
  | .tup ws,.dat (.int i)=>(atI ws i).map fun w=>(w,μ)
  | .dat (.tup ds),.dat (.int i)=>(atI ds i).map fun d=>(.dat d,μ)
  | .dat (.lst ds),.dat (.int i)=>(atI ds i).map fun d=>(.dat d,μ)
  | _,_=>none
theorem DenWL.atI {K:W.Frag}{H:Hp}{α:List Addr}{ws:List W}{vs:List V}{i:Int}{w:W}(h:DenWL K H α ws vs)(e:atI ws i=some w):∃ v,L2.atI vs i=some v/\DenW K H α w v:=by
  unfold L2.atI at e ⊢;obtain ⟨j,e1,e2⟩:=bind_some e;obtain ⟨v,q1,q2⟩:=h.get e2;refine ⟨v,?_,q2⟩;rw [<- h.length,e1];exact q1
theorem zRC:OpW X.K (fun x y H Q=>rIxL X.K x y H Q\/rIxT X.K x y H Q) ixW:=fun H α μ x y z vx vy Q c e dx dy n=>by
  have fin:∀ {w:W} {v:V},DenW X.K H α w v->z=(w,μ)->Q v H:=fun {w v} d ez=>by
    subst ez;exact n v H [] (Kp.refl H) (by rw [append_nil];exact c) (by rw [append_nil];exact d)
  unfold ixW at e;split at e
  . rename_i m i;obtain ⟨ws,e1,e⟩:=bind_some e;obtain ⟨w,e2,e⟩:=map_eq_some_iff.mp e;rw [DenW] at dx;rw [DenW] at dy;rw [Den] at dy;obtain ⟨a,vs,q1,q2,q3⟩:=c.at_ m ws e1;obtain ⟨b,h1,rfl⟩:=dx;rw [h1] at q1;cases q1;obtain ⟨v,g1,g2⟩:=q3.atI e2;exact .inl ⟨_,vs,i,v,rfl,dy,SqL.of q2,g1,fin g2 e.symm⟩
  . rename_i ws i;obtain ⟨w,e2,e⟩:=map_eq_some_iff.mp e;rw [DenW] at dx;rw [DenW] at dy;rw [Den] at dy;obtain ⟨a,vs,rfl,h2,h3⟩:=dx;obtain ⟨v,g1,g2⟩:=h3.atI e2;exact .inr ⟨a,vs,i,v,rfl,dy,Same.tupS zB9 h2,g1,fin g2 e.symm⟩
  . rename_i ds i;obtain ⟨d,e2,e⟩:=map_eq_some_iff.mp e;rw [DenW] at dx;rw [DenW] at dy;rw [Den] at dx;rw [Den] at dy;obtain ⟨a,vs,rfl,h2,h3⟩:=dx;obtain ⟨v,g1,g2⟩:=h3.atI e2;exact .inr ⟨a,vs,i,v,rfl,dy,Same.tupS zB9 h2,g1,fin (w:=.dat d) (by rw [DenW];exact g2) e.symm⟩
  . rename_i ds i;obtain ⟨d,e2,e⟩:=map_eq_some_iff.mp e;rw [DenW] at dx;rw [DenW] at dy;rw [Den] at dx;rw [Den] at dy;obtain ⟨a,vs,rfl,h2,h3⟩:=dx;obtain ⟨v,g1,g2⟩:=h3.atI e2;exact .inl ⟨a,vs,i,v,rfl,dy,zB9.seq h2,g1,fin (w:=.dat d) (by rw [DenW];exact g2) e.symm⟩
  . cases e
theorem zTf {a b:Expr}{f g:Mst->Option MR}{pos:Pos}(ha:GM X a f)(hb:GM X b g)(hs:zFS b):GM X (.Subscript a b pos) (twoM f g ixW) :=
  (zQ7 (zJ2.or zNl) ha hb hs).imp fun _ _ _ q=>zOq zRC q
end
section
variable {X:Cx}
abbrev MB:=Bool×Mem
def gBM (K:W.Frag)(g:Mst->Option MB):TT:=fun σ H Q=>∃ α δ μ r,MS K H α μ σ δ/\g ⟨δ,μ⟩=some r/\∀ H' β,Kp H H'->zAR K H' (α++β) r.2->Q r.1 H'
def GTM (X:Cx)(e:Expr)(g:Mst->Option MB):Prop:=PT X e (gBM X.K g)
def GWM (X:Cx)(e:Expr)(g:Mst->Option MB):Prop:=PW X e (gBM X.K g)
def asBM (f:Mst->Option MR):Mst->Option MB:=fun s=>match f s with
  | some (.dat (.bl b),μ)=>some (b,μ)
  | _=>none
theorem zK7 {f:Mst->Option MR}{s:Mst}{r:MB}(h:asBM f s=some r):f s=some (.dat (.bl r.1),r.2):=by
  unfold asBM at h;split at h
  . rename_i e;cases h;exact e
  . cases h
theorem zPq {f:Mst->Option MR}{σ:St}{H:Hp}{Q:Bool->Hp->Prop}(q:gBM X.K (asBM f) σ H Q):gM X.K f σ H fun x H'=>∃ k,x=.bl k/\Q k H':=by
  obtain ⟨α,δ,μ,r,ms,e,c⟩:=q;refine ⟨α,δ,μ,_,ms,zK7 e,fun v H' β k1 c1 d1=>⟨r.1,?_,c H' β k1 c1⟩⟩;rw [DenW,Den] at d1;exact d1
def zL6 (k:Dst->Option Bool):Mst->Option MB:=fun s=>(k (drS s.μ s.δ)).map fun b=>(b,s.μ)
theorem zMI {e:Expr}{k:Dst->Option Bool}(h:GT X e k):GTM X e (zL6 k):=h.imp fun σ H Q zz83=>by
  obtain ⟨α,δ,μ,r,ms,q,c⟩:=zz83;obtain ⟨b,e1,e2⟩:=map_eq_some_iff.mp q;cases e2;exact ⟨[],drS μ δ,b,zN2 ms,e1,fun H' s1=>c H' [] (zBU s1) (by rw [append_nil];exact ms.cells.same s1)⟩
theorem zPU {e:Expr}{f:Mst->Option MR}(h:GM X e f)(he:∀ whole,isTrue e X.env whole=(do let v<-whole;standAt e.pos;holding [v] (truthy v))):GTM X e (asBM f) :=
  (zNU h he).imp fun _ _ _ q=>zPq q
def andB (f g:Mst->Option MB):Mst->Option MB:=fun s=>(f s).bind fun r=>if r.1=true then g ⟨s.δ,r.2⟩ else some (false,r.2)
def orB (f g:Mst->Option MB):Mst->Option MB:=fun s=>(f s).bind fun r=>if r.1=true then some (true,r.2) else g ⟨s.δ,r.2⟩
def notB (f:Mst->Option MB):Mst->Option MB:=fun s=>(f s).map fun r=>(!r.1,r.2)
theorem zMH {a:Expr}{f:Mst->Option MB}{pos:Pos}(h:GTM X a f):GWM X (.BoolOp .And [a] pos) f:=zI9 h
theorem zPS {a:Expr}{f:Mst->Option MB}{pos:Pos}(h:GTM X a f):GWM X (.BoolOp .Or [a] pos) f:=zNS h
theorem zPT {a b:Expr}{rest:List Expr}{f g:Mst->Option MB}{pos:Pos}(ha:GTM X a f)(hb:GWM X (.BoolOp .And (b::rest) pos) g):GWM X (.BoolOp .And (a::b::rest) pos) (andB f g):=by
  refine PW.imp (zNT ha hb) fun σ H Q zz84=>?_
  obtain ⟨α,δ,μ,r,ms,q,c⟩:=zz84;obtain ⟨⟨b1,μ1⟩,e1,q⟩:=bind_some q;cases b1 with
  | true =>
    rw [if_pos rfl] at q;refine ⟨α,δ,μ,_,ms,e1,fun H1 β k1 c1=>iteT ?_⟩;exact ⟨α++β,δ,μ1,r,ms.next k1 c1,q,fun H2 β2 k2 c2=>c H2 (β++β2) (k1.trans k2) (by rw [<- append_assoc];exact c2)⟩
  | false =>
    rw [if_neg Bool.false_ne_true] at q;cases q;exact ⟨α,δ,μ,_,ms,e1,fun H1 β k1 c1=>iteF (c H1 β k1 c1)⟩
theorem zRn {a b:Expr}{rest:List Expr}{f g:Mst->Option MB}{pos:Pos}(ha:GTM X a f)(hb:GWM X (.BoolOp .Or (b::rest) pos) g):GWM X (.BoolOp .Or (a::b::rest) pos) (orB f g):=by
  refine PW.imp (zQu ha hb) fun σ H Q zz85=>?_
  obtain ⟨α,δ,μ,r,ms,q,c⟩:=zz85;obtain ⟨⟨b1,μ1⟩,e1,q⟩:=bind_some q;cases b1 with
  | true =>
    rw [if_pos rfl] at q;cases q;exact ⟨α,δ,μ,_,ms,e1,fun H1 β k1 c1=>iteT (c H1 β k1 c1)⟩
  | false =>
    rw [if_neg Bool.false_ne_true] at q;refine ⟨α,δ,μ,_,ms,e1,fun H1 β k1 c1=>iteF ?_⟩;exact ⟨α++β,δ,μ1,r,ms.next k1 c1,q,fun H2 β2 k2 c2=>c H2 (β++β2) (k1.trans k2) (by rw [<- append_assoc];exact c2)⟩
inductive OutM where
  | nx (s:Mst) | rt (r:MR) | bk (s:Mst) | ct (s:Mst)
def zT8 (K:W.Frag)(H0:Hp)(α0:List Addr)(o:OutM)(E:Ends):Prop:=match o with
  | .nx s=>∀ β σ' H',MS K H' (α0++β) s.μ σ' s.δ->Kp H0 H'->E.nx σ' H'
  | .bk s=>∀ β σ' H',MS K H' (α0++β) s.μ σ' s.δ->Kp H0 H'->E.bk σ' H'
  | .ct s=>∀ β σ' H',MS K H' (α0++β) s.μ σ' s.δ->Kp H0 H'->E.ct σ' H'
  | .rt r=>∀ β v H',zAR K H' (α0++β) r.2->DenW K H' (α0++β) r.1 v->Kp H0 H'->E.rt v H'
def gSM (K:W.Frag)(H0:Hp)(α0:List Addr)(g:Mst->Option OutM):TS:=fun E σ H=>∃ β s o,MS K H (α0++β) s.μ σ s.δ/\Kp H0 H/\g s=some o/\zT8 K H0 α0 o E
def GSM (X:Cx)(st:Stmt)(g:Mst->Option OutM):Prop:=∀ H0 α0,PS X st (gSM X.K H0 α0 g)
def GSsM (X:Cx)(st:List Stmt)(g:Mst->Option OutM):Prop:=∀ H0 α0,PSs X st (gSM X.K H0 α0 g)
def seqM (f g:Mst->Option OutM):Mst->Option OutM:=fun s=>(f s).bind fun o=>match o with
  | .nx s'=>g s'
  | o=>some o
theorem zMJ:GSsM X [] (fun s=>some (.nx s)):=fun H0 α0=>zJA.imp fun E σ H zz86=>by
  obtain ⟨β,s,o,ms,k,e,p⟩:=zz86;cases e;exact p β σ H ms k
theorem zKD {st:Stmt}{rest:List Stmt}{f g:Mst->Option OutM}(h1:GSM X st f)(h2:GSsM X rest g):GSsM X (st::rest) (seqM f g):=fun H0 α0=>(zHX (h1 H0 α0) (h2 H0 α0)).imp fun E σ H zz87=>by
  obtain ⟨β,s,o,ms,k,e,p⟩:=zz87;obtain ⟨o1,e1,e⟩:=bind_some e;refine ⟨β,s,o1,ms,k,e1,?_⟩;cases o1 with
  | nx s'=>exact fun β' σ' H' ms' k'=>⟨β',s',o,ms',k',e,p⟩
  | rt r=>cases e;exact p
  | bk s'=>cases e;exact p
  | ct s'=>cases e;exact p
def setM (i:Nat)(f:Mst->Option MR):Mst->Option OutM:=fun s=>(f s).bind fun r=>some (.nx ⟨s.δ.set i (some r.1),r.2⟩)
theorem zKE {i:Nat}{x:Str}{e:Expr}{f:Mst->Option MR}{pos pos':Pos}(hN:X.N.Nodup)(hi:X.N[i]?=some x)(hx:Loc X.env.scope x)(h:GM X e f)(hs:swapsWith e (some (.Name x pos')) pos.line X.env=pure false)(hf:X.fn x=true\/X.env.scope.names.lookup x=some .local) :
    GSM X (.Assign [.Name x pos'] e pos) (setM i f):=fun H0 α0=>(zNW hN hi hx h hs hf).imp fun E σ H zz88=>by
  obtain ⟨β,s,o,ms,k,e,p⟩:=zz88;obtain ⟨r,er,e⟩:=bind_some e;cases e;refine ⟨α0++β,s.δ,s.μ,r,ms,er,fun v H1 β1 k1 c1 d1=>?_⟩;have ms1:=(ms.next k1 c1).set (i:=i) d1;rw [append_assoc] at ms1;exact p (β++β1) _ H1 ms1 (k.trans k1)
def zTx (f:Mst->Option MR):Mst->Option OutM:=fun s=>(f s).bind fun r=>some (.nx ⟨s.δ,r.2⟩)
def retM (f:Mst->Option MR):Mst->Option OutM:=fun s=>(f s).bind fun r=>some (.rt r)
theorem zPX {e:Expr}{f:Mst->Option MR}{pos:Pos}(h:GM X e f):GSM X (.Return (some e) pos) (retM f):=fun H0 α0=>(zJB h).imp fun E σ H zz89=>by
  obtain ⟨β,s,o,ms,k,e,p⟩:=zz89;obtain ⟨r,er,e⟩:=bind_some e;cases e;refine ⟨α0++β,s.δ,s.μ,r,ms,er,fun v H1 β1 k1 c1 d1=>?_⟩;rw [append_assoc] at c1 d1;exact p (β++β1) v H1 c1 d1 (k.trans k1)
theorem zKF {st:Stmt}:GSM X st (fun _=>none):=fun H0 α0=>(zEy (X:=X) (st:=st)).imp fun E σ H zy121=>by obtain ⟨β,s,o,ms,k,e,p⟩:=zy121;cases e
def ifM (c:Mst->Option MB)(f g:Mst->Option OutM):Mst->Option OutM:=fun s=>(c s).bind fun b=>if b.1=true then f ⟨s.δ,b.2⟩ else g ⟨s.δ,b.2⟩
theorem zRt {c:Expr}{a b:List Stmt}{k:Mst->Option MB}{f g:Mst->Option OutM}{pos:Pos}(hc:GTM X c k)(ha:GSsM X a f)(hb:GSsM X b g):GSM X (.If c a b pos) (ifM k f g):=fun H0 α0=>(zQx hc (ha H0 α0) (hb H0 α0)).imp fun E σ H zz90=>by
  obtain ⟨β,s,o,ms,kp,e,p⟩:=zz90;obtain ⟨⟨b1,μ1⟩,e1,e⟩:=bind_some e;refine ⟨α0++β,s.δ,s.μ,_,ms,e1,fun H1 β1 k1 c1=>?_⟩;have ms1:=ms.next k1 c1;rw [append_assoc] at ms1;cases b1 with
  | true =>
    rw [if_pos rfl] at e;exact iteT ⟨β++β1,_,o,ms1,kp.trans k1,e,p⟩
  | false =>
    rw [if_neg Bool.false_ne_true] at e;exact iteF ⟨β++β1,_,o,ms1,kp.trans k1,e,p⟩
def appM (t f:Mst->Option MR):Mst->Option OutM:=fun s=>(t s).bind fun x=>match x.1 with
  | .loc n=>(f ⟨s.δ,x.2⟩).bind fun r=>(r.2[n]?).bind fun ws=>if ws.length<=10000 then some (.nx ⟨s.δ,r.2.set n (ws++[r.1])⟩) else none
  | _=>none
theorem zPZ {b e:Expr}{t f:Mst->Option MR}{pos cpos apos:Pos}(hb:GM X b t)(h:GM X e f)
    (he:starEach [e] X.env=[(false,eval e X.env)]) (hbase:attributeBase b "append" X.env (eval b X.env)=eval b X.env) (hline:(apos.endLine==cpos.line)=true) :
    GSM X (.Expr (.Call (.Attribute b "append" apos) [e] [] cpos) pos) (appM t f):=fun H0 α0=>(zGf (zOi PySem.F.plainAttrs_list PySem.F.slot_list_append PySem.F.type_list_append zFt hb (zAa h zA9 he) hbase (by rw [he];rfl) hline he rfl) rfl).imp fun E σ H zz91=>by
  obtain ⟨β,s,o,ms,k,e,p⟩:=zz91;obtain ⟨x,ex,e⟩:=bind_some e;split at e
  . rename_i n en;obtain ⟨r,er,e⟩:=bind_some e;obtain ⟨ws,ew,e⟩:=bind_some e;by_cases hl:ws.length<=10000
    . rw [if_pos hl] at e;cases e;refine ⟨α0++β,s.δ,s.μ,x,ms,ex,fun v H1 β1 k1 c1 d1=>?_⟩;rw [en,DenW] at d1;obtain ⟨a,ha,rfl⟩:=d1;have ms1:=ms.next k1 c1;have hn1:n < x.2.length:=by rw [<- c1.len];exact (zzg ha).1
      obtain ⟨a',vs0,q1,q2,_⟩:=c1.at_ n _ (getElem?_eq_getElem hn1);rw [ha] at q1;cases q1;refine ⟨.inl ⟨rfl,_,SqL.of q2⟩,α0++β++β1,s.δ,x.2,r,ms1,er,fun y H2 β2 k2 c2 d2=>?_⟩;have ms2:=ms1.next k2 c2;obtain ⟨b',vs,g1,g2,g3⟩:=c2.at_ n ws ew;have ha2:(α0++β++β1++β2)[n]?=some a:=by rw [getElem?_append_left (zzg ha).1];exact ha
      rw [ha2] at g1;cases g1;refine ⟨a,vs,y,rfl,rfl,g2,by rw [<- g3.length];exact Nat.lt_of_le_of_lt hl (by decide),?_⟩;have hn2:n < r.2.length:=(zzg ew).1;have kp:Kp H2 (upd H2 a (.lst (vs++[y]))):=by show Same _ _;rw [zNs g2];exact Same.refl _
      have c3:=c2.change hn2 ha2 g2 (g3.append (.cons d2 .nil));have ms3:MS X.K (upd H2 a (.lst (vs++[y]))) (α0++(β++β1++β2)) (r.2.set n (ws++[r.1])) σ s.δ:=by
        have m:=ms2.next (β:=[]) kp (by rw [append_nil];exact c3);rw [append_nil] at m;rw [show α0++(β++β1++β2)=α0++β++β1++β2 by simp];exact m
      exact p (β++β1++β2) σ _ ms3 (k.trans (k1.trans (k2.trans kp)))
    . rw [if_neg hl] at e;cases e
  . cases e
end
section
variable {X:Cx}{K:W.Frag}{H:Hp}{α:List Addr}{μ:Mem}{σ:St}{δ:List (Option W)}
theorem zAR.loc (c:zAR K H α μ){n:Nat}{a:Addr}(ha:α[n]?=some a):∃ ws vs,μ[n]?=some ws/\H a=some (.lst vs)/\DenWL K H α ws vs:=by
  have hn:n < μ.length:=by rw [<- c.len];exact (zzg ha).1
  obtain ⟨a',vs,q1,q2,q3⟩:=c.at_ n _ (getElem?_eq_getElem hn);rw [ha] at q1;cases q1;exact ⟨_,vs,getElem?_eq_getElem hn,q2,q3⟩
theorem zAR.loc' (c:zAR K H α μ){n:Nat}{a:Addr}{ws:List W}(ha:α[n]?=some a)(hw:μ[n]?=some ws):∃ vs,H a=some (.lst vs)/\DenWL K H α ws vs:=by
  obtain ⟨ws',vs,q1,q2,q3⟩:=c.loc ha;rw [hw] at q1;cases q1;exact ⟨vs,q2,q3⟩
theorem zOc {α β:List Addr}{n:Nat}{a:Addr}(h:α[n]?=some a):(α++β)[n]?=some a:=by rw [getElem?_append_left (zzg h).1];exact h
def putM (t k f:Mst->Option MR):Mst->Option OutM:=fun s=>(f s).bind fun r=>(t ⟨s.δ,r.2⟩).bind fun x=>(k ⟨s.δ,x.2⟩).bind fun j=>match x.1,j.1 with
  | .loc n,.dat (.int i)=>(j.2[n]?).bind fun ws=>(ixN ws.length i).bind fun m=>some (.nx ⟨s.δ,j.2.set n (ws.set m r.1)⟩)
  | _,_=>none
def extM (t f:Mst->Option MR):Mst->Option OutM:=fun s=>(t s).bind fun x=>(f ⟨s.δ,x.2⟩).bind fun r=>match x.1,r.1 with
  | .loc n,.loc m=>(r.2[n]?).bind fun ws=>(r.2[m]?).bind fun us=>if ws.length+us.length<=10000 then some (.nx ⟨s.δ,r.2.set n (ws++us)⟩) else none
  | _,_=>none
theorem DenWL.dropLast:∀ {ws:List W} {vs:List V},DenWL K H α ws vs->DenWL K H α ws.dropLast vs.dropLast
  | [],_,h=>by rw [DenWL] at h;subst h;exact .nil
  | [w],_,h=>by
    rw [DenWL] at h;obtain ⟨v,us,rfl,h2,h3⟩:=h;rw [DenWL] at h3;subst h3;exact .nil
  | w::w2::ws,_,h=>by
    rw [DenWL] at h;obtain ⟨v,us,rfl,h2,h3⟩:=h;have h3':=h3;rw [DenWL] at h3;obtain ⟨v2,us2,rfl,_,_⟩:=h3;exact .cons h2 (DenWL.dropLast h3')
def popM (t:Mst->Option MR):Mst->Option MR:=fun s=>(t s).bind fun x=>match x.1 with
  | .loc n=>(x.2[n]?).bind fun ws=>(ws[ws.length - 1]?).bind fun w=>some (w,x.2.set n ws.dropLast)
  | _=>none
inductive Src where
  | items (ws:List W) | live (n:Nat)
def itm (μ:Mem):Src->Option (List W)
  | .items ws=>some ws
  | .live n=>μ[n]?
def JOk (K:W.Frag)(J:It)(src:Src)(H1:Hp)(α1:List Addr):Prop :=
  ∀ (i:Nat) (H2:Hp) (γ:List Addr) (μ2:Mem) (ws:List W),Kp H1 H2->zAR K H2 (α1++γ) μ2->itm μ2 src=some ws->(ws[i]?=none->J.stop i H2)/\∀ w,ws[i]?=some w->J.go i H2/\∀ v H3,J.yld i H2 v H3->H3=H2/\DenW K H2 (α1++γ) w v
def GIM (X:Cx)(tg iter:Expr)(g:Mst->Option (Src×Mem)):Prop:=∃ wi,PI X tg iter wi/\∀ (σ:St) (H:Hp) (α:List Addr) (δ:List (Option W)) (μ:Mem) (r:Src×Mem) (Rr:It->Hp->Prop),MS X.K H α μ σ δ->g ⟨δ,μ⟩=some r ->
  (∀ J H1 β,Kp H H1->zAR X.K H1 (α++β) r.2->JOk X.K J r.1 H1 (α++β)->Rr J H1)->wi σ H Rr
def GGM (X:Cx)(tg:Expr)(t:W->Mst->Option Mst):Prop:=∃ g,PG X tg g/\∀ (w:W) (v:V) (σ:St) (H:Hp) (α:List Addr) (s s':Mst) (Q:St->Hp->Prop),MS X.K H α s.μ σ s.δ->DenW X.K H α w v->t w s=some s'->(∀ σ',MS X.K H α s'.μ σ' s'.δ->Q σ' H)->g v σ H Q
def tgM (i:Nat):W->Mst->Option Mst:=fun w s=>some ⟨s.δ.set i (some w),s.μ⟩
theorem zE9 {i:Nat}{x:Str}{pos:Pos}(hN:X.N.Nodup)(hi:X.N[i]?=some x)(hx:Loc X.env.scope x)(hf:X.fn x=true\/X.env.scope.names.lookup x=some .local):GGM X (.Name x pos) (tgM i) :=
  ⟨_,zDJ hN hi hx hf,fun w v σ H α s s' Q ms hw e q=>by
    cases e;exact q _ (ms.set hw)⟩
def forN (t:W->Mst->Option Mst)(b:Mst->Option OutM)(src:Src):Nat->Nat->Mst->Option OutM
  | 0,_,_=>none
  | f+1,i,s=>(itm s.μ src).bind fun ws=>match ws[i]? with
    | none=>some (.nx s)
    | some w=>(t w s).bind fun s1=>(b s1).bind fun o=>match o with
      | .nx s'=>forN t b src f (i+1) s'
      | .ct s'=>forN t b src f (i+1) s'
      | .bk s'=>some (.nx s')
      | .rt r=>some (.rt r)
theorem zD5 {t:W->Mst->Option Mst}{b:Mst->Option OutM}{src:Src}:∀ {f i:Nat} {s:Mst} {o:OutM},forN t b src f i s=some o->forN t b src (f+1) i s=some o
  | 0,_,_,_,h=>by cases h
  | f+1,i,s,o,h=>by
    rw [forN] at h ⊢;obtain ⟨ws,e1,h⟩:=bind_some h;rw [e1,Option.bind_some];cases q:ws[i]? with
    | none=>rw [q] at h;exact h
    | some w =>
      rw [q] at h;dsimp only at h ⊢;obtain ⟨s1,e2,h⟩:=bind_some h;obtain ⟨o1,e3,h⟩:=bind_some h;rw [e2,Option.bind_some,e3,Option.bind_some];cases o1 with
      | nx s'=>exact zD5 (f:=f) h
      | ct s'=>exact zD5 (f:=f) h
      | bk s'=>exact h
      | rt r=>exact h
theorem zF4 {t:W->Mst->Option Mst}{b:Mst->Option OutM}{src:Src}{f g i:Nat}{s:Mst}{o:OutM}(h:forN t b src f i s=some o)(l:f<=g):forN t b src g i s=some o:=by
  induction g with
  | zero =>
            have:f=0:=by omega
            subst this;exact h
  | succ g ih =>
    by_cases q:f<=g
    . exact zD5 (ih q)
    . have:f=g+1:=by omega
      subst this;exact h
open Classical in
def zD6 (t:W->Mst->Option Mst)(b:Mst->Option OutM)(src:Src)(i:Nat)(s:Mst):Option OutM :=
  if h:∃ n o,forN t b src n i s=some o then some (Classical.choose (choose_spec h)) else none
theorem zMU {t:W->Mst->Option Mst}{b:Mst->Option OutM}{src:Src}{n i:Nat}{s:Mst}{o:OutM}(h:forN t b src n i s=some o):zD6 t b src i s=some o:=by
  have ex:∃ n o,forN t b src n i s=some o:=⟨n,o,h⟩;unfold zD6;rw [dif_pos ex];have q:=choose_spec (choose_spec ex);have q1:=zF4 q (Nat.le_max_left _ n);have q2:=zF4 h (Nat.le_max_right (Classical.choose ex) n);rw [q1] at q2;exact q2
theorem zKQ {t:W->Mst->Option Mst}{b:Mst->Option OutM}{src:Src}{i:Nat}{s:Mst}{o:OutM}(h:zD6 t b src i s=some o):∃ n,forN t b src n i s=some o:=by
  unfold zD6 at h;by_cases ex:∃ n o,forN t b src n i s=some o
  . rw [dif_pos ex] at h;have q:=choose_spec (choose_spec ex);cases h;exact ⟨_,q⟩
  . rw [dif_neg ex] at h;cases h
theorem zPY {tg iter:Expr}{body:List Stmt}{f:Mst->Option (Src×Mem)}{t:W->Mst->Option Mst}{b:Mst->Option OutM}{pos:Pos}(hp:PassesOwn (model X.prog X.w) X.A X.env X.xe)(hc:X.calm=true)(hi:GIM X tg iter f)(hg:GGM X tg t)(hb:GSsM X body b)
    (hs:∀ x,foldedSetIterable iter X.env x=pure x):GSM X (.For tg iter body [] pos) (fun s=>(f s).bind fun r=>zD6 t b r.1 0 ⟨s.δ,r.2⟩):=by
  intro H0 α0;obtain ⟨wi,hwi,hI⟩:=hi;obtain ⟨g,hg,hG⟩:=hg;intro pins s σ H E I ⟨β,st,o,ms,kp,e,p⟩;obtain ⟨r,er,e⟩:=bind_some e;obtain ⟨N,eN⟩:=zKQ e;refine (zNX (tb:=fun E σ H2=>∃ H1 α1,gSM X.K H1 α1 b E σ H2) hp hc hwi hg ?_ hs) pins s σ H E I ?_
  . intro pins s σ H E I ⟨H1,α1,q⟩;exact hb H1 α1 pins s σ H E I q
  refine hI σ H (α0++β) st.δ st.μ r _ ms er fun J H1 β1 k1 c1 hJ=>?_
  refine ⟨fun i m σ' H2=>∃ γ s',MS X.K H2 (α0++β++β1++γ) s'.μ σ' s'.δ/\Kp H1 H2/\forN t b r.1 m i s'=some o,⟨N,[],⟨st.δ,r.2⟩,by rw [append_nil];exact ms.next k1 c1,Kp.refl _,eN⟩,?_⟩;rintro i m σ' H2 ⟨γ,s',ms',k',e'⟩;cases m with
  | zero=>cases e'
  | succ m =>
    rw [forN] at e';obtain ⟨ws,ew,e'⟩:=bind_some e';obtain ⟨j1,j2⟩:=hJ i H2 γ s'.μ ws k' ms'.cells ew;have assoc:∀ γ:List Addr,α0++β++β1++γ=α0++(β++β1++γ):=fun γ=>by simp
    cases q:ws[i]? with
    | none =>
      rw [q] at e';cases e';rw [assoc] at ms';exact .inl ⟨j1 q,p _ σ' H2 ms' (kp.trans (k1.trans k'))⟩
    | some w =>
      rw [q] at e';dsimp only at e';obtain ⟨s1,e1,e'⟩:=bind_some e';obtain ⟨o1,e2,e'⟩:=bind_some e';obtain ⟨go,yl⟩:=j2 w q;refine .inr ⟨go,fun σ3 H3=>∃ γ s',MS X.K H3 (α0++β++β1++γ) s'.μ σ3 s'.δ/\Kp H1 H3/\forN t b r.1 m (i+1) s'=some o,fun σ3 H3 z=>⟨m,Nat.lt_succ_self m,z⟩,fun v H3 y=>?_⟩;obtain ⟨rfl,hv⟩:=yl v H3 y;refine hG w v σ' H3 _ s' s1 _ ms' hv e1 fun σ4 ms4=>⟨H1,α0++β++β1,γ,s1,o1,ms4,k',e2,?_⟩
      cases o1 with
      | nx s2=>exact fun γ2 σ2 H4 m2 q2=>⟨γ2,s2,m2,q2,e'⟩
      | ct s2=>exact fun γ2 σ2 H4 m2 q2=>⟨γ2,s2,m2,q2,e'⟩
      | bk s2 =>
        cases e';intro γ2 σ2 H4 m2 q2;rw [assoc] at m2;exact p _ σ2 H4 m2 (kp.trans (k1.trans q2))
      | rt z =>
        cases e';intro γ2 v2 H4 c2 d2 q2;rw [assoc] at c2 d2;exact p _ v2 H4 c2 d2 (kp.trans (k1.trans q2))
end
section
variable {X:Cx}
def srcM (f:Mst->Option MR):Mst->Option (Src×Mem):=fun s=>(f s).bind fun r=>match r.1 with
  | .loc n=>some (.live n,r.2)
  | .tup ws=>some (.items ws,r.2)
  | .dat (.tup ds)=>some (.items (ds.map .dat),r.2)
  | .dat (.lst ds)=>some (.items (ds.map .dat),r.2)
  | _=>none
theorem zPe {tg iter:Expr}{f:Mst->Option MR}(h:GM X iter f):GIM X tg iter (srcM f):=by
  refine ⟨_,zNY h,fun σ H α δ μ z Rr ms e q=>?_⟩;obtain ⟨r,er,e⟩:=bind_some e;refine ⟨α,δ,μ,r,ms,er,fun v H1 β k1 c1 d1=>?_⟩;have tupJ:∀ {a:Addr} {ws:List W} {vs:List V},SqT X.K (fzH H1) a vs->DenWL X.K H1 (α++β) ws vs->JOk X.K (Itt X.K a) (.items ws) H1 (α++β):=fun {a ws vs} sq dl i H2 γ μ2 ws' k2 c2 e2=>by
    cases e2;have sq2:SqT X.K H2 a vs:=Same.tupS zB9 (Same.tupS k2 sq);refine ⟨fun n=>⟨vs,sq2,?_⟩,fun w ew=>?_⟩
    . rw [<- dl.length];exact List.getElem?_eq_none_iff.mp n
    . obtain ⟨u,g1,g2⟩:=dl.get ew;refine ⟨⟨vs,u,sq2,g1⟩,fun v H3 y=>⟨y.1,?_⟩⟩;have:=y.2 vs sq2;rw [g1] at this;cases this;exact g2.mono k2 γ
  have lstJ:∀ {a:Addr} {ws:List W} {vs:List V},SqL X.K (fzH H1) a vs->DenWL X.K H1 (α++β) ws vs->JOk X.K (Itl X.K a) (.items ws) H1 (α++β):=fun {a ws vs} sq dl i H2 γ μ2 ws' k2 c2 e2=>by
    cases e2;have sq2:SqL X.K H2 a vs:=zB9.seq (k2.seq sq);refine ⟨fun n=>⟨vs,sq2,?_⟩,fun w ew=>?_⟩
    . rw [<- dl.length];exact List.getElem?_eq_none_iff.mp n
    . obtain ⟨u,g1,g2⟩:=dl.get ew;refine ⟨⟨vs,u,sq2,g1⟩,fun v H3 y=>⟨y.1,?_⟩⟩;have:=y.2 vs sq2;rw [g1] at this;cases this;exact g2.mono k2 γ
  split at e
  . rename_i n en;cases e;rw [en,DenW] at d1;obtain ⟨a,ga,rfl⟩:=d1;obtain ⟨ws0,vs0,_,q2,_⟩:=c1.loc ga;refine ⟨a,rfl,.inl ⟨⟨vs0,SqL.of q2⟩,q _ H1 β k1 c1 fun i H2 γ μ2 ws k2 c2 e2=>?_⟩⟩;obtain ⟨vs,g2,g3⟩:=c2.loc' (zOc (β:=γ) ga) e2;have sq2:SqL X.K H2 a vs:=SqL.of g2;refine ⟨fun n=>⟨vs,sq2,?_⟩,fun w ew=>?_⟩
    . rw [<- g3.length];exact List.getElem?_eq_none_iff.mp n
    . obtain ⟨u,g4,g5⟩:=g3.get ew;refine ⟨⟨vs,u,sq2,g4⟩,fun v H3 y=>⟨y.1,?_⟩⟩;have:=y.2 vs sq2;rw [g4] at this;cases this;exact g5
  . rename_i ws en;cases e;rw [en,DenW] at d1;obtain ⟨a,vs,rfl,h2,h3⟩:=d1;exact ⟨a,rfl,.inr ⟨⟨vs,Same.tupS zB9 h2⟩,q _ H1 β k1 c1 (tupJ h2 h3)⟩⟩
  . rename_i ds en;cases e;rw [en,DenW,Den] at d1;obtain ⟨a,vs,rfl,h2,h3⟩:=d1;exact ⟨a,rfl,.inr ⟨⟨vs,Same.tupS zB9 h2⟩,q _ H1 β k1 c1 (tupJ h2 (DenWL.dats h3))⟩⟩
  . rename_i ds en;cases e;rw [en,DenW,Den] at d1;obtain ⟨a,vs,rfl,h2,h3⟩:=d1;exact ⟨a,rfl,.inl ⟨⟨vs,zB9.seq h2⟩,q _ H1 β k1 c1 (lstJ h2 (DenWL.dats h3))⟩⟩
  . cases e
def zLa (f:Mst->Option MR):Mst->Option (Src×Mem):=fun s=>(f s).bind fun r=>match r.1 with
  | .dat (.int j)=>if -(2^62)<=j/\j < 2^62 then some (.items ((rngL 0 j.toNat).map .dat),r.2) else none
  | _=>none
theorem rngJ {K:W.Frag}{H1:Hp}{α1:List Addr}(lo:Int)(n:Nat):JOk K (Itr lo n) (.items ((rngL lo n).map .dat)) H1 α1:=fun i H2 γ μ2 ws k2 c2 e2=>by
  cases e2;have hl:((rngL lo n).map W.dat).length=n:=by unfold rngL;simp
  refine ⟨fun z=>?_,fun w ew=>?_⟩
  . have:=List.getElem?_eq_none_iff.mp z;rw [hl] at this;exact this
  . have hi:i < n:=by rw [<- hl];exact (zzg ew).1
    refine ⟨hi,fun v H3 y=>⟨y.1,?_⟩⟩;have ev:v=.int (lo+i):=y.2;have:((rngL lo n).map W.dat)[i]?=some (.dat (.int (lo+(i:Int)))):=by unfold rngL;simp [hi]
    rw [this] at ew;cases ew;rw [DenW,Den];exact ev
theorem zIU {tg a:Expr}{f:Mst->Option MR}{p pos:Pos}(hg:Gl X "range")(hm:X.mg "range"=none)(h:GM X a f)(hs:starEach [a] X.env=[(false,eval a X.env)]):GIM X tg (.Call (.Name "range" p) [a] [] pos) (zLa f):=by
  refine ⟨_,zFp hg hm (zAa h zA9 hs) hs,fun σ H α δ μ z Rr ms e q=>?_⟩;obtain ⟨r,er,e⟩:=bind_some e;split at e
  . rename_i j ej;by_cases hj:-(2^62)<=j/\j < 2^62
    . rw [if_pos hj] at e;cases e;refine ⟨α,δ,μ,r,ms,er,fun v H1 β k1 c1 d1=>⟨j,?_,hj.1,hj.2,q _ H1 β k1 c1 (rngJ 0 _)⟩⟩;rw [ej,DenW,Den] at d1;rw [d1]
    . rw [if_neg hj] at e;cases e
  . cases e
def tgM2 (i j:Nat):W->Mst->Option Mst:=fun w s=>match w with
  | .tup [a,b]=>some ⟨(s.δ.set i (some a)).set j (some b),s.μ⟩
  | .dat (.tup [a,b])=>some ⟨(s.δ.set i (some (.dat a))).set j (some (.dat b)),s.μ⟩
  | _=>none
end
def zCv (np nN:Nat)(g:Mst->Option OutM):MF:=fun ws μ =>
  if ws.length=np/\np<=nN then (g ⟨ws.map some++List.replicate (nN - np) none,μ⟩).bind fun o=>match o with
    | .rt r=>some r
    | .nx s=>some (.dat .non,s.μ)
    | _=>none
  else none
theorem zLx {K:W.Frag}{H:Hp}{α:List Addr}{μ:Mem}{N:List Str}{ws:List W}{vs:List V}(c:zAR K H α μ)(h:DenWL K H α ws vs)(hl:ws.length<=N.length):MS K H α μ (zBv N vs) (ws.map some++List.replicate (N.length - ws.length) none):=by
  have el:=h.length;refine ⟨c,?_,fun i w q=>?_⟩
  . unfold L2.zBv;rw [length_append,length_append,length_map,length_map,length_replicate,length_replicate];omega
  . have hi:i < ws.length:=by
      by_cases z:i < ws.length
      . exact z
      . rw [getElem?_append_right (by simpa using z),getElem?_replicate] at q;split at q<;>cases q
    rw [getElem?_append_left (by simpa using hi),getElem?_map] at q;cases e:ws[i]? with
    | none=>rw [e] at q;cases q
    | some w' =>
      rw [e] at q;cases q;obtain ⟨v,q1,q2⟩:=h.get e;refine ⟨v,?_,q2⟩;unfold L2.zBv;rw [getElem?_append_left (by rw [length_map,<- el];exact hi),getElem?_map,q1]
      rfl
theorem zPr {P:Program}{w:World}{K:W.Frag}{mg:Str->Option Value}{base:Heap}{x qual:Str}{st:Stmt}{f:Addr}{fd:FuncData}{N ps:List Str}{k:Nat}{g:Mst->Option OutM}(F:Fun K x qual st f fd)(S:zAD N ps (zAA st))
    (hbody:∀ (cdv:Value) (A:Around) (outer:List Env) (s:Shared) (H:Hp) (E:XK),Room k (A.deeper (envOfC qual (zAA st) s.heap.objs.size f cdv))->GSsM (cxOf CX0 P w K mg base N qual (zAA st) f cdv A outer s H E).nox (zAB st) g) :
    FnOk P w K mg base CX0 (k+1) f fd ps (spM K (zCv ps.length N.length g)):=by
  refine F.ok S (fun vs H Q E h=>?_) fun cdv A outer s H vs Q E hr h=>?_
  . obtain ⟨α,μ,ws,r,c,d,hF,n⟩:=h;unfold zCv at hF;by_cases q:ws.length=ps.length/\ps.length<=N.length
    . rw [<- d.length];exact q.1
    . rw [if_neg q] at hF;cases hF
  obtain ⟨α,μ,ws,r,c,d,hF,n⟩:=h;refine ⟨_,hbody cdv A outer s H E hr H α,?_⟩;unfold zCv at hF;by_cases q:ws.length=ps.length/\ps.length<=N.length
  . rw [if_pos q] at hF;obtain ⟨o,eo,hF⟩:=bind_some hF;rw [<- q.1] at eo;refine ⟨[],_,o,by rw [append_nil];exact zLx c d (by rw [q.1];exact q.2),Kp.refl H,eo,?_⟩;cases o with
    | nx s' =>
      cases hF;exact fun β σ' H' m k=>n _ H' β k m.cells (by rw [DenW,Den])
    | rt r' =>
      cases hF;exact fun β v H' c' d' k=>n v H' β k c' d'
    | bk _=>cases hF
    | ct _=>cases hF
  . rw [if_neg q] at hF;cases hF
theorem walkM {l:W.OpenLaw}{k:Nat}{F:MF}{q:Program}{loose:List Str}{XP:(Str->Option Value)->Heap->Prop}{YP:World->Heap->Prop}{d:DefRec}{K:Params->W.Frag}(hn:l.most=some 63)(hdf:d.params.defaults=[])(hq:importsNone q=true)(ht:∀ w,(model l.prog w).prog.given.tree=none)(hr:Room k callerA)(tl:List (Str×Addr×Addr))(hrec:∀ t∈tl,((recsOf q).find? fun e=>e.name==t.1).isSome=true)(htl:∀ w:World,∀ x∈zBj,W.tabIn (K w.params) x=tl.lookup x)(htk:∀ t∈tl,t.1∈zBj/\tl.lookup t.1=some t.2)(hnd:(tl.map fun t=>t.2.2).Nodup)(hnt:∀ w:World,W.noTabs (K w.params)=true)
    (hY:∀ (w:World) (h:Heap),YP w h->(K w.params).In h)
    (FF:∀ (w:World) (mg:Str->Option Value) (fa:Addr) (h:Heap),(K w.params).In h->h.Ns mainGlobals mg->mg d.name=some (.ref fa) ->
      ∃ fd:FuncData,(∀ (s:Shared) (u:Value),BindsTo s fd ⟨[u],[]⟩ [("_law_script",u)])/\∀ base:Heap,(K w.params).In base->base.Ns mainGlobals mg->FnOk l.prog w (K w.params) mg base CX0 k fa fd ["_law_script"] (spM (K w.params) F))
    (tr:∀ ns:List Int,ns.length<=63->∃ μ,F [.dat (.lst (ns.map D.int))] []=some (.dat (.bl true),μ)) :
    W.WalkO q loose XP YP l.row.toRowW d [] (fun f vs=>PySem.call f vs) :=
  L2.zOD (n:=63) (k:=k) (x := "_law_script") (CX:=fun _=>CX0) (sp:=fun w=>spM (K w.params) F) hn (by decide) hdf hq ht hr tl hrec htl htk hnd hnt hY FF (fun w H a ns hl hO hS=>by
      obtain ⟨μ,eF⟩:=tr ns hl.1;have sq:SqL (K w.params) (fzH H) a (ns.map V.int):=by
        rcases hS with (h | ⟨o,h⟩) | h
        . exact (hO _ h).elim
        . exact .inl (.inr ⟨o,zD2 h⟩)
        . exact .inr h
      refine ⟨[],[],[.dat (.lst (ns.map D.int))],_,⟨rfl,by simp,fun n ws z=>by simp at z⟩,.cons ?_ .nil,eF,fun v H' β k c d=>?_⟩
      . rw [DenW,Den];exact ⟨a,_,rfl,sq,DenL.ints ns⟩
      . rw [DenW,Den] at d;exact d) fun _ _ _ _ _ z=>z
end DL
end
section
namespace DL
open PySem Spec PyProof.Rows L2
def zBq (t:W->Mst->Option Mst)(e:Mst->Option MR)(src:Src):Nat->Nat->Mst->List W->Option MA
  | 0,_,_,_=>none
  | f+1,i,s,done=>(itm s.μ src).bind fun ws=>match ws[i]? with
    | none=>some (done,s.μ)
    | some w=>(t w s).bind fun s1=>(e s1).bind fun r=>if done.length<=10000 then zBq t e src f (i+1) ⟨s1.δ,r.2⟩ (done++[r.1]) else none
theorem zEf {t:W->Mst->Option Mst}{e:Mst->Option MR}{src:Src}:∀ {f i:Nat} {s:Mst} {d:List W} {o:MA},zBq t e src f i s d=some o->zBq t e src (f+1) i s d=some o
  | 0,_,_,_,_,h=>by cases h
  | f+1,i,s,d,o,h=>by
    rw [zBq] at h ⊢;obtain ⟨ws,e1,h⟩:=bind_some h;rw [e1,Option.bind_some];cases q:ws[i]? with
    | none=>rw [q] at h;exact h
    | some w =>
      rw [q] at h;dsimp only at h ⊢;obtain ⟨s1,e2,h⟩:=bind_some h;obtain ⟨r,e3,h⟩:=bind_some h;rw [e2,Option.bind_some,e3,Option.bind_some];by_cases l:d.length<=10000
      . rw [if_pos l] at h ⊢;exact zEf (f:=f) h
      . rw [if_neg l] at h;cases h
theorem zEg {t:W->Mst->Option Mst}{e:Mst->Option MR}{src:Src}{f g i:Nat}{s:Mst}{d:List W}{o:MA}(h:zBq t e src f i s d=some o)(l:f<=g):zBq t e src g i s d=some o:=by
  induction g with
  | zero =>
            have:f=0:=by omega
            subst this;exact h
  | succ g ih =>
    by_cases q:f<=g
    . exact zEf (ih q)
    . have:f=g+1:=by omega
      subst this;exact h
open Classical in
def zEh (t:W->Mst->Option Mst)(e:Mst->Option MR)(src:Src)(s:Mst):Option MA :=
  if h:∃ n o,zBq t e src n 0 s []=some o then some (Classical.choose (choose_spec h)) else none
theorem zKw {t:W->Mst->Option Mst}{e:Mst->Option MR}{src:Src}{n:Nat}{s:Mst}{o:MA}(h:zBq t e src n 0 s []=some o):zEh t e src s=some o:=by
  have ex:∃ n o,zBq t e src n 0 s []=some o:=⟨n,o,h⟩;unfold zEh;rw [dif_pos ex];have q:=choose_spec (choose_spec ex);have q1:=zEg q (Nat.le_max_left _ n);have q2:=zEg h (Nat.le_max_right (Classical.choose ex) n);rw [q1] at q2;exact q2
theorem zIb {t:W->Mst->Option Mst}{e:Mst->Option MR}{src:Src}{s:Mst}{o:MA}(h:zEh t e src s=some o):∃ n,zBq t e src n 0 s []=some o:=by
  unfold zEh at h;by_cases ex:∃ n o,zBq t e src n 0 s []=some o
  . rw [dif_pos ex] at h;have q:=choose_spec (choose_spec ex);cases h;exact ⟨_,q⟩
  . rw [dif_neg ex] at h;cases h
def zG1 (ms:List Nat)(k:Nat)(f:Mst->Option (Src×Mem))(t:W->Mst->Option Mst)(e:Mst->Option MR):Mst->Option MR:=fun s =>
  (f s).bind fun z=>(zEh t e z.1 ⟨mask none ms s.δ++List.replicate k none,z.2⟩).bind fun y=>if y.1.length<=10000 then some (.loc y.2.length,y.2++[y.1]) else none
theorem zGD {ms:List Nat}{k:Nat}{f:Mst->Option (Src×Mem)}{t:W->Mst->Option Mst}{e:Mst->Option MR}{s:Mst}{r:MR}(h:zG1 ms k f t e s=some r):∃ z y N,f s=some z/\zBq t e z.1 N 0 ⟨mask none ms s.δ++List.replicate k none,z.2⟩ []=some y/\y.1.length<=10000/\r=(.loc y.2.length,y.2++[y.1]):=by
  obtain ⟨z,e1,h⟩:=bind_some h;obtain ⟨y,e2,h⟩:=bind_some h;obtain ⟨N,eN⟩:=zIb e2;by_cases l:y.1.length<=10000
  . rw [if_pos l] at h;cases h;exact ⟨z,y,N,e1,eN,l,rfl⟩
  . rw [if_neg l] at h;cases h
theorem MS.ext {K:W.Frag}{H:Hp}{α:List Addr}{μ:Mem}{σ:St}{δ:List (Option W)}(h:MS K H α μ σ δ)(ms:List Nat)(k:Nat):MS K H α μ (mask none ms σ++List.replicate k none) (mask none ms δ++List.replicate k none):=by
  refine ⟨h.cells,by rw [length_append,length_append,zAk,zAk,h.len,length_replicate,length_replicate],fun i w q=>?_⟩;obtain ⟨q,hi⟩:=zBe q;rcases zA4 q with ⟨z,_⟩ | ⟨q,ni⟩
  . cases z
  . obtain ⟨v,w1,w2⟩:=h.get i w q;exact ⟨v,by rw [getElem?_append_left (by rw [zAk] at hi ⊢;rw [h.len];exact hi),zE6 ni];exact w1,w2⟩
section
variable {X:Cx}
theorem zEe {tg iter elt:Expr}{scope:Scope}{pos:Pos}{ms:List Nat}{xs:List Str}{f:Mst->Option (Src×Mem)}{t:W->Mst->Option Mst}{e:Mst->Option MR}(hcalm:X.calm=true)(hi:GIM X tg iter f)(cs:zCR X.env.scope scope)
    (hm:∀ (i:Nat) x,X.N[i]?=some x->ownB scope x=true->i∈ms)
    (hg:∀ s H fp,GGM (zAN X (mask noN ms X.N++xs) scope s H fp) tg t)
    (he:∀ s H fp,GM (zAN X (mask noN ms X.N++xs) scope s H fp) elt e)
    {pins:List (Addr×Obj)} {s:Shared} {σ:St} {H:Hp} {α:List Addr} {δ:List (Option W)} {μ:Mem} {z:Src×Mem} {y:MA} {NN:Nat} (I:Inv X pins σ H s) (mst:MS X.K H α μ σ δ) (ez:f ⟨δ,μ⟩=some z) (hyl:y.1.length<=10000) (ey:zBq t e z.1 NN 0 ⟨mask none ms δ++List.replicate xs.length none,z.2⟩ []=some y)
    {RR:Value->Addr->Result->Shared->Prop}
    (fin:∀ (D C:Addr) (s1:Shared) (H'':Hp) (m:Str->Option Value),s1.heap.Ns C m->(∀ h',Heap.SameBut C s1.heap h'->Inv X pins σ H'' { s1 with heap:=h' })->H'' C=none->C≠X.env.locals->C∉X.fs->X.s₀.heap.objs.size<=C ->
      (∀ x c,X.env.cells.lookup x=some c->c≠C)->(∀ p∈X.pn++pins,p.1≠C)->(∃ β,Kp H H''/\zAR X.K H'' (α++β) (y.2++[y.1])/\DenW X.K H'' (α++β) (.loc y.2.length) (.ref D))->RR (.ref D) C (.ok .next) s1) :
    wpAny (model X.prog X.w) X.A (eval iter X.env) (fun x s₁=>wpAny (model X.prog X.w) X.A (pyIter x) (fun it s₂=>wpAny (model X.prog X.w) X.A (newList []) (fun acc s₃ =>
      wpAny (model X.prog X.w) X.A (newFunctionEnv scope X.env.globals (zBr X.env scope.names []) [] X.env.qual none .none (some X.env)) (fun cenv s₄ =>
        codeAny (model X.prog X.w) X.A (.compStart (.ListComp elt [⟨tg,iter,[],0⟩] scope pos) 0 it acc { cenv with scope:=relabel scope X.env }) (RR acc cenv.locals) s₄) X.xe s₃) X.xe s₂) X.xe s₁) X.xe s:=by
  obtain ⟨wi,hwi,hI⟩:=hi;refine thn (hwi pins s σ H (fun J H1=>∃ β,Kp H H1/\zAR X.K H1 (α++β) z.2/\JOk X.K J z.1 H1 (α++β)) I (hI σ H α δ μ z _ mst ez fun J H1 β k1 c1 hJ=>⟨β,k1,c1,hJ⟩)) fun v s1 h1=>thn h1 fun itv s2 h2=>?_
  obtain ⟨it,fp,tn,J,H2,rfl,I2,T,st2,f2,β0,k12,c12,hJ⟩:=h2;have mst2:MS X.K H2 (α++β0) z.2 σ δ:=mst.next k12 c12;refine wpAny_newObj_type (zDy ?_);have e3:∃ s3:Shared,s3={ s2 with heap:=s2.heap.push { cls:=.type "list",dict:=none,data:=.seq ([]:List Value).toArray } }:=⟨_,rfl⟩;obtain ⟨s3,hs3⟩:=e3;rw [<- hs3];have eD:∃ D,D=s2.heap.objs.size:=⟨_,rfl⟩;obtain ⟨D,hD⟩:=eD;rw [<- hD];have hC:s3.heap.objs.size=D+1:=by rw [hs3,hD];exact Heap.size_push ..
  have k23:∀ b o,s2.heap.get? b=some o->s3.heap.get? b=some o:=fun b o q=>by rw [hs3];exact get?_push_of_some _ q
  have I3:Inv X pins σ H2 s3:=by rw [hs3];exact I2.kept (t':=s2.toks) fun b o q=>get?_push_of_some _ q
  have oD:s3.heap.get? D=some { cls:=.type "list",data:=.seq ([]:List Value).toArray }:=by rw [hs3,hD];exact get?_push_size _ rfl
  have H2D:H2 D=none:=by rw [hD];exact I2.hok.fresh (le_refl _)
  have fplt:∀ b∈fp,b < D:=fun b hb=>by
    obtain ⟨o,q,_⟩:=T.obj _ _ st2 b hb;rw [hD];exact lt_size q
  have hfD:∀ b∈D::fp,FpOk X pins H2 b/\∃ o,s3.heap.get? b=some o:=fun b hb=>by
    rcases mem_cons.mp hb with rfl | hb
    . exact ⟨I2.fpOk (by rw [hD];exact le_refl _) H2D,_,oD⟩
    . obtain ⟨o,q,_⟩:=T.obj _ _ st2 b hb;exact ⟨f2 b hb,o,k23 b o q⟩
  have lenN:(mask none ms σ++List.replicate xs.length none).length=(mask noN ms X.N++xs).length:=by
    rw [length_append,length_append,zAk,zAk,length_replicate,I.len]
  have Ic:=zHk (fp:=D::fp) (N:=mask noN ms X.N++xs) (σc:=mask none ms σ++List.replicate xs.length none) I3 hfD cs (fun i x v q1 q2 q3=>by
    obtain ⟨q2,hi2⟩:=zBe q2;rcases zA4 q2 with ⟨z,_⟩ | ⟨q2,ni⟩
    . cases z
    have hiN:i < (mask noN ms X.N).length:=by rw [zAk] at hi2 ⊢;rw [<- I.len];exact hi2
    rw [getElem?_append_left hiN] at q1;rcases zA4 q1 with ⟨_,z⟩ | ⟨q1,_⟩
    . exact absurd z ni
    refine ⟨?_,i,q1,q2⟩;have no:ownB scope x=false:=by
      cases b:ownB scope x with
      | false=>rfl
      | true=>exact absurd (hm i x q1 b) ni
    unfold Vis relS at q3;rw [zCW] at q3;unfold ownB at no;cases w:scope.names.lookup x with
    | none=>rw [w] at q3;simp at q3
    | some k =>
      rw [w] at no;cases k with
      | free=>rfl
      | «local»=>cases no
      | cell=>cases no
      | _=>rw [w] at q3;simp at q3) lenN
  have st4:tn 0 (pushCells (s3.heap.push { cls:=.type "dict",data:=.dict #[] }) scope.names):=T.keep 0 _ _ st2 fun b hb o q=>zAb _ _ b o (get?_push_of_some _ (k23 b o q))
  have loop:codeAny (model X.prog X.w) X.A (.compLoop (.ListComp elt [⟨tg,iter,[],0⟩] scope pos) 0 (.ref it) (.ref D) (zBN scope X s3)) (RR (.ref D) s3.heap.objs.size) { s3 with heap:=pushCells (s3.heap.push { cls:=.type "dict",data:=.dict #[] }) scope.names }:=by
    refine zDY (fun n s'=>∃ (i:Nat) (σ':St) (H':Hp) (γ:List Addr) (st':Mst) (done:List W) (vs:List V) (its:List Value),Inv (zAN X (mask noN ms X.N++xs) scope s3 H2 (D::fp)) [] σ' H' s'/\tn i s'.heap/\(∀ b∈D::fp,H' b=none)/\s'.heap.PlainList D its.toArray/\Vals vs its/\MS X.K H' (α++β0++γ) st'.μ σ' st'.δ /\
      Kp H2 H'/\DenWL X.K H' (α++β0++γ) done vs/\zBq t e z.1 n i st' done=some y) ?_ NN
      ⟨0,_,H2,[],⟨mask none ms δ++List.replicate xs.length none,z.2⟩,[],[],[],Ic,st4,fun b hb=>(hfD b hb).1.1,⟨_,zAb _ _ D _ (get?_push_of_some _ oD)⟩,.nil,by rw [append_nil];exact mst2.ext ms xs.length,Kp.refl _,.nil,ey⟩
    rintro n s' ⟨i,σ',H',γ,st0,done,vs,its,Ic',st',fr',⟨nD,pl⟩,rv,ds',sm,dn,ec⟩;cases n with
    | zero=>cases ec
    | succ n =>
    rw [zBq] at ec;obtain ⟨ws,ew,ec⟩:=bind_some ec;obtain ⟨j1,j2⟩:=hJ i H' γ st0.μ ws sm ds'.cells ew;have fpc:∀ {b:Addr} {pn:List (Addr×Obj)} {Hx:Hp},b∈D::fp->Hx b=none->(∀ p∈pn,p.1≠b)->FpOk (zAN X (mask noN ms X.N++xs) scope s3 H2 (D::fp)) pn Hx b:=fun {b pn Hx} hb hn hp =>
      ⟨hn,(Ic'.ok.exf b hb).1,Ic'.ok.exfs b hb,.inl hb,(Ic'.ok.exf b hb).2,fun p hp'=>hp p (show p∈pn from hp')⟩
    have pinD:∀ {p:Addr×Obj} {h:Heap},p∈zA2 [D] h->p.1=D:=fun {p h} hp=>by simpa using (zDw hp).1
    have I0:Inv (zAN X (mask noN ms X.N++xs) scope s3 H2 (D::fp)) ([]++zA2 [D] s'.heap) σ' H' s':=Ic'.pinned (fp:=[D]) (fun b hb=>by
      have eb:b=D:=by simpa using hb
      subst eb;exact fpc mem_cons_self (fr' _ mem_cons_self) fun p hp=>absurd hp (by simp)) fun b hb=>by
      have eb:b=D:=by simpa using hb
      subst eb;exact ⟨_,pl,fun v z=>by cases z⟩
    have fp0:∀ b∈fp,FpOk (zAN X (mask noN ms X.N++xs) scope s3 H2 (D::fp)) ([]++zA2 [D] s'.heap) H' b:=fun b hb=>fpc (mem_cons_of_mem _ hb) (fr' b (mem_cons_of_mem _ hb)) fun p hp z=>by
      have q1:=pinD (by simpa using hp);have q2:=fplt b hb;rw [<- z,q1] at q2;exact absurd q2 (lt_irrefl _)
    have memD:(D,_)∈zA2 [D] s'.heap:=zBR (by simp) pl;cases hq:ws[i]? with
    | some w0 =>
      rw [hq] at ec;dsimp only at ec;obtain ⟨go,yl⟩:=j2 w0 hq;refine wpAny_mono (T.item (zAN X (mask noN ms X.N++xs) scope s3 H2 (D::fp)) rfl rfl rfl hcalm i ([]++zA2 [D] s'.heap) s' σ' H' _ I0 fp0 st' go) (fun r s4 zz92=>?_) fun _ _ z=>z
      obtain ⟨u,hr,h4⟩:=zz92;subst hr;refine wpAny_mono h4 (fun _ s5 zz93=>?_) fun _ _ z=>z
      obtain ⟨x,H5,I5,r5,y5,st5,fr5⟩:=zz93;obtain ⟨rfl,hv⟩:=yl x H5 y5;have pl5:=(I5.pin (D,_) (mem_append_right _ (mem_append_right _ memD))).1;have I5':Inv (zAN X (mask noN ms X.N++xs) scope s3 H2 (D::fp)) ([]++zA2 (D::fp) s5.heap) σ' H5 s5:=I5.unpinned.pinned (fp:=D::fp) (fun b hb=>fpc hb (fr' b hb) fun p hp=>absurd hp (by simp)) fun b hb=>by
        rcases mem_cons.mp hb with rfl | hb
        . exact ⟨_,pl5,fun v z=>by cases z⟩
        . exact T.obj _ _ st5 b hb
      have there:∀ {Hx:Hp} {sx:Shared} {σx:St},Inv (zAN X (mask noN ms X.N++xs) scope s3 H2 (D::fp)) ([]++zA2 (D::fp) s5.heap) σx Hx sx->∀ b∈D::fp,(∀ o,s5.heap.get? b=some o->sx.heap.get? b=some o)/\Hx b=none:=fun {Hx sx σx} Ix b hb=>by
        have q:∃ o,s5.heap.get? b=some o:=by
          rcases mem_cons.mp hb with rfl | hb
          . exact ⟨_,pl5⟩
          . obtain ⟨o,q,_⟩:=T.obj _ _ st5 b hb;exact ⟨o,q⟩
        obtain ⟨o,q⟩:=q;have w:=Ix.pin (b,o) (mem_append_right _ (mem_append_right _ (zBR hb q)));exact ⟨fun o' q'=>by rw [q] at q';cases q';exact w.1,w.2.1⟩
      obtain ⟨st1,e1,ec⟩:=bind_some ec;obtain ⟨r,er,ec⟩:=bind_some ec;by_cases hdl:done.length<=10000
      case neg=>rw [if_neg hdl] at ec;cases ec
      rw [if_pos hdl] at ec;obtain ⟨g,hg1,hg2⟩:=hg s3 H2 (D::fp);refine wpAny_mono (hg1 _ s5 σ' H5 x u _ I5' r5 (hg2 w0 x σ' H5 (α++β0++γ) st0 st1 (fun σ6 H6=>H6=H5/\MS X.K H5 (α++β0++γ) st1.μ σ6 st1.δ) ds' hv e1 fun σ6 d6=>⟨rfl,d6⟩)) (fun _ s6 zz94=>?_) fun _ _ z=>z.elim
      obtain ⟨σ6,H6,I6,q6,ds6⟩:=zz94;subst q6;refine wpAny_tests_nil ?_;rw [if_pos rfl];refine wpAny_mono (he s3 H2 (D::fp) _ s6 σ6 H6 (fun v H8=>∃ γ2,Kp H6 H8/\zAR X.K H8 (α++β0++γ++γ2) r.2/\DenW X.K H8 (α++β0++γ++γ2) r.1 v) I6 ⟨α++β0++γ,st1.δ,st1.μ,r,ds6,er,fun v H8 γ2 k8 c8 d8=>⟨γ2,k8,c8,d8⟩⟩) (fun uv s8 zz95=>?_) fun _ _ z=>z.elim
      obtain ⟨v,H8,I8,rv8,γ2,k8,c8,d8⟩:=zz95;have assoc:α++β0++γ++γ2=α++β0++(γ++γ2):=by simp
      have pl8:=(there I8 D mem_cons_self).1 _ pl5;refine wpAny_list_append_plain (hsz:=by rw [size_toArray,<- rv.length,<- dn.length];exact zCe hdl) ⟨nD,pl8⟩ fun h9 hl9 hs9=>?_
      have I9:Inv (zAN X (mask noN ms X.N++xs) scope s3 H2 (D::fp)) [] σ6 H8 { s8 with heap:=h9 }:=I8.unpinned.turned (it:=D) (t':=s8.toks) (fun b o hb q=>hs9.extBut b o hb q) (there I8 D mem_cons_self).2 (Ic'.ok.exf D mem_cons_self).1 (.inl mem_cons_self) (Ic'.ok.exf D mem_cons_self).2 fun p hp=>absurd (show p∈([]:List (Addr×Obj)) from hp) (by simp)
      have ms8:=ds6.next k8 c8;rw [assoc] at ms8 d8;refine ⟨n,Nat.lt_succ_self n,i+1,σ6,H8,γ++γ2,⟨st1.δ,r.2⟩,done++[r.1],vs++[v],its++[uv],I9,T.keep _ _ _ st5 fun b hb o q=>hs9.extBut b o (fun z=>?_) ((there I8 b (mem_cons_of_mem _ hb)).1 o q),fun b hb=>(there I8 b hb).2,?_,rv.append (.cons rv8 .nil),ms8,
        sm.trans k8,DenWL.append (by rw [<- assoc];exact dn.mono k8 γ2) (.cons d8 .nil),ec⟩
      . have:=fplt b hb;rw [z] at this;exact absurd this (lt_irrefl _)
      . have ea:its.toArray.push uv=(its++[uv]).toArray:=by simp
        rw [<- ea];exact hl9
    | none =>
      rw [hq] at ec;cases ec;refine wpAny_mono (T.done (zAN X (mask noN ms X.N++xs) scope s3 H2 (D::fp)) rfl rfl rfl hcalm _ ([]++zA2 [D] s'.heap) s' σ' H' _ I0 fp0 st' (j1 hq)) (fun r s4 zz96=>?_) fun _ _ z=>z
      obtain ⟨hr,I4⟩:=zz96;subst hr;obtain ⟨m,ns,_⟩:=id I4.loc;have eC:(zAN X (mask noN ms X.N++xs) scope s3 H2 (D::fp)).env.locals=D+1:=hC;rw [eC] at ns;have pl4:=I4.pin (D,_) (mem_append_right _ (mem_append_right _ memD));have HD:H' D=none:=pl4.2.1;have HC:H' (D+1)=none:=by have:=I4.free;rw [eC] at this;exact this
      have CD:D≠D+1:=ne_of_lt (Nat.lt_succ_self D);have neD:∀ {b:Addr} {o:HO},H' b=some o->b≠D:=fun {b o} q z=>by rw [z,HD] at q;cases q
      have ne2:∀ {b:Addr} {o:HO},H2 b=some o->b≠D:=fun {b o} q z=>by rw [z,H2D] at q;cases q
      have lt2:∀ {b:Addr} {o:Obj},s2.heap.get? b=some o->b < D:=fun {b o} q=>by rw [hD];exact lt_size q
      have outex:∀ {b:Addr} {o:Obj},s2.heap.get? b=some o->b∉fp->b∉D::fp:=fun {b o} q hx z=>(mem_cons.mp z).elim (fun z=>absurd (lt2 q) (by rw [z];exact lt_irrefl _)) hx
      have neC:∀ {b:Addr} {o:Obj},s2.heap.get? b=some o->b≠D+1:=fun {b o} q=>ne_of_lt (Nat.lt_succ_of_lt (lt2 q))
      have gt2:s2.heap.objs.size<=D+1:=by rw [<- hD];exact Nat.le_succ _
      show RR (.ref D) s3.heap.objs.size (.ok .next) s4;rw [hC];refine fin D (D+1) s4 (upd H' D (.lst vs)) m ns (fun h' sb=>?_) ?_ (Nat.ne_of_gt (lt_of_lt_of_le I2.lt gt2)) (I2.nofs gt2) (le_trans I2.sz gt2) (fun x c q z=>?_) (fun p hp z=>?_) ?_
      . refine I2.call' (s':={ s4 with heap:=h' }) (ch:=fp) ?_ ⟨fun b o q n hb hx=>sb.extBut b o (neC q) (I4.base.keep b o (k23 b o q) n hb (outex q hx)),fun b o q n hb hx=>?_,fun b o q n hx=>?_,fun b o q hx=>?_,fun b ws q=>?_,fun b o w q=>?_,fun b ps q=>?_⟩ (fun b w q=>?_) I4.bare fun b hb=>?_
        . have:=I4.os;rw [hs3] at this;exact this
        . obtain ⟨sl,w⟩:=I4.base.slot b o (k23 b o q) n hb (outex q hx);exact ⟨sl,sb.extBut b _ (neC q) w⟩
        . rw [zAO (ne_of_lt (lt2 q))];exact I4.base.free b o (k23 b o q) n (outex q hx)
        . obtain ⟨o',w⟩:=I4.base.there b o (k23 b o q) (outex q hx);exact ⟨o',sb.extBut b _ (neC q) w⟩
        . rw [zAO (ne2 q)];exact I4.base.tups b ws q
        . rw [zAO (ne2 q)];exact I4.base.frzs b o w q
        . rw [zAO (ne2 q)];exact I4.base.tbls b ps q
        . by_cases z:b=D
          . subst z;rw [zAe] at q;cases q;exact ⟨by rw [<- dn.length];exact zCe hyl,its,nD,rv,sb.extBut b _ CD pl4.1⟩
          . rw [zAO z] at q;refine (I4.hok b w q).stay (fun d v hd w'=>sb.extBut d v (fun z'=>?_) w') (fun d w'=>by rw [zAO (neD w')];exact w') (fun d ws w'=>by rw [zAO (neD w')];exact w') fun d ob u w' _=>by rw [zAO (neD w')];exact w'
            rcases hd with hd | hd
            . rw [<- hd,z',HC] at q;cases q
            . rw [z',HC] at hd;cases hd
        . obtain ⟨f0,f1,f2',f3,f4,f5⟩:=f2 b hb;exact ⟨f3,f1,f4,f5⟩
      . rw [zAO (Ne.symm CD)];exact HC
      . obtain ⟨v,w⟩:=I2.cell x c q;have:=w.lt;rw [z,<- hD] at this;exact absurd (Nat.lt_trans this (Nat.lt_succ_self D)) (lt_irrefl _)
      . have:=lt_size (I2.pin p hp).1;rw [z,<- hD] at this;exact absurd (Nat.lt_trans this (Nat.lt_succ_self D)) (lt_irrefl _)
      . have s9:Same H' (upd H' D (.lst vs)):=zAj HD _;refine ⟨β0++γ++[D],k12.trans (sm.trans (zBU s9)),?_,?_⟩
        . rw [show α++(β0++γ++[D])=α++β0++γ++[D] by simp];exact ds'.cells.new s9 HD zAe (dn.mono (zBU s9) [D])
        . rw [show α++(β0++γ++[D])=α++β0++γ++[D] by simp];exact zJy ds'.cells
  exact codeAny_compStart_list loop (T.self X.A 0 _ _ _ st4 loop)
theorem zKK {tg iter elt:Expr}{scope:Scope}{pos:Pos}{ms:List Nat}{xs:List Str}{f:Mst->Option (Src×Mem)}{t:W->Mst->Option Mst}{e:Mst->Option MR}(hcalm:X.calm=true)(hi:GIM X tg iter f)(hs:∀ x,foldedSetIterable iter X.env x=pure x)(cs:zCR X.env.scope scope)
    (hm:∀ (i:Nat) x,X.N[i]?=some x->ownB scope x=true->i∈ms)
    (hg:∀ s H fp,GGM (zAN X (mask noN ms X.N++xs) scope s H fp) tg t)
    (he:∀ s H fp,GM (zAN X (mask noN ms X.N++xs) scope s H fp) elt e) :
    GM X (.ListComp elt [⟨tg,iter,[],0⟩] scope pos) (zG1 ms xs.length f t e):=by
  intro pins s σ H Q I ⟨α,δ,μ,r,mst,er,cc⟩;obtain ⟨z,y,NN,ez,ey,hyl,rfl⟩:=zGD er;rw [eval_ListComp];refine wpAny_comprehension_free (use:=none) rfl hs (zBO (zEE I cs)) cs.kind (zCY cs) ?_;refine zEe (RR:=fun acc C=>compPost (model X.prog X.w) X.A X.xe none (EP X pins σ Q) acc C) hcalm hi cs hm hg he I mst ez hyl ey fun D C s1 H'' m ns hI _ _ _ _ _ _ fin=>?_
  obtain ⟨β,k,c1,d1⟩:=fin;exact ⟨m,ns,fun h' sb=>⟨.ref D,H'',hI h' sb,rfl,cc _ H'' β k c1 d1⟩⟩
end
end DL
end
section
namespace DL
open PySem Spec PyProof.Rows L2
section
variable {X:Cx}
theorem zML {i:Nat}{y:Str}{py spos:Pos}{tg iter elt:Expr}{scope:Scope}{pos:Pos}{ms:List Nat}{xs:List Str}{f:Mst->Option (Src×Mem)}{t:W->Mst->Option Mst}{e:Mst->Option MR}(hcalm:X.calm=true)(hi:GIM X tg iter f)(hs:∀ x,foldedSetIterable iter X.env x=pure x)(cs:zCR X.env.scope scope)
    (hm:∀ (i:Nat) x,X.N[i]?=some x->ownB scope x=true->i∈ms)
    (hg:∀ s H fp,GGM (zAN X (mask noN ms X.N++xs) scope s H fp) tg t)
    (he:∀ s H fp,GM (zAN X (mask noN ms X.N++xs) scope s H fp) elt e)
    (hN:X.N.Nodup) (hy:X.N[i]?=some y) (hl:Loc X.env.scope y) (hf:X.fn y=true\/X.env.scope.names.lookup y=some .local) :
    GSM X (.Assign [.Name y py] (.ListComp elt [⟨tg,iter,[],0⟩] scope pos) spos) (setM i (zG1 ms xs.length f t e)):=by
  have hge:GM X (.ListComp elt [⟨tg,iter,[],0⟩] scope pos) (zG1 ms xs.length f t e):=zKK hcalm hi hs cs hm hg he;have hb:∃ b,swapsWith (.ListComp elt [⟨tg,iter,[],0⟩] scope pos) (some (.Name y py)) spos.line X.env=pure b:=⟨_,rfl⟩;obtain ⟨b,hb⟩:=hb;cases b with
  | false=>exact zKE hN hy hl hge hb hf
  | true =>
    intro H0 α0 pins s σ H E I ⟨β,st,o,mst,kp,eo,p⟩;obtain ⟨r,er,eo⟩:=bind_some eo;cases eo;obtain ⟨z,yy,NN,ez,ey,hyl,rfl⟩:=zGD er;rw [exec_Assign_Name_used _ _ _ _ hb];refine wpAny_bind (wpAny_standAt (wpAny_bind ?_));show wpAny _ X.A (do let _<-comprehension (.ListComp elt [⟨tg,iter,[],0⟩] scope pos) scope X.env _ (newList []) false (eval iter X.env) (some (assign (.Name y py) X.env))) _ _ s;refine wpAny_bind (wpAny_mono (wpAny_comprehension_free (use:=some (assign (.Name y py) X.env)) (Q:=fun _ s'=>SP X pins E .next s') rfl hs (zBO (zEE I cs)) cs.kind (zCY cs) ?_) (fun _ s' hq=>wpAny_pure (wpAny_pure hq)) fun _ _ e=>e);refine zEe (RR:=fun acc C=>compPost (model X.prog X.w) X.A X.xe (some (assign (.Name y py) X.env)) (fun _ s'=>SP X pins E .next s') acc C) hcalm hi cs hm hg he I mst ez hyl ey fun D C s1 H'' m ns hI hC1 hC2 hC3 hC4 hC5 hC6 fin=>?_
    have I1:Inv X pins σ H'' s1:=hI s1.heap (Heap.SameBut.refl ..);obtain ⟨oC,es,ep,ho,hd,w3⟩:=id ns;have I2:Inv X (pins++[(C,oC)]) σ H'' s1:=I1.pins_of fun q hq=>(mem_append.mp hq).elim (fun z=>I1.pin q (mem_append_right _ z)) fun z=>by
      have e:q=(C,oC):=by simpa using z
      subst e;exact ⟨ho,hC1,hC2,hC3,fun v z=>by rw [hd] at z;cases z⟩
    show wpAny (model X.prog X.w) X.A (assign (.Name y py) X.env (.ref D)) _ X.xe s1;refine thn (zDJ hN hy hl hf _ s1 σ H'' (.ref D) (.ref D) (fun σ6 H6=>H6=H''/\σ6=σ.set i (some (.ref D))) I2 rfl ⟨rfl,rfl⟩) fun _ s6 zz97=>?_
    obtain ⟨σ6,H6,I6,q1,q2⟩:=zz97;subst q1 q2;have pc:=I6.pin (C,oC) (mem_append_right _ (mem_append_right _ (by simp)));refine ⟨m,⟨oC,es,ep,pc.1,hd,w3⟩,fun h' sb=>?_⟩;refine ⟨_,H6,I6.unpinned.turned (it:=C) (t':=s6.toks) (fun b o hb q=>sb.extBut b o hb q) hC1 (Ne.symm (Ne.symm hC2)) (.inr hC4) hC5 hC6,?_⟩;obtain ⟨β2,k2,c2,d2⟩:=fin;have m2:=(mst.next k2 c2).set (i:=i) d2;rw [append_assoc] at m2;exact p (β++β2) _ _ m2 (kp.trans k2)
end
end DL
end
section
namespace DL
open PySem Spec PyProof.Rows L2
set_option genSizeOf false in
set_option genInjectivity false in
inductive ME where
  | pur (e:E) | var (i:Nat) | call (n:Nat) (f:Str) (es:ME) | lst (es:ME) | tup (es:ME) | tupd (es:ME) | ix (a b:ME) | bin (op:Operator) (a b:ME) | cmp (op:CmpOp) (a b:ME) | pop (a:ME) | cat (a b:ME)
  | comp (n:Nat) (ms:List Nat) (x:Str) (src el:ME) | rng (a:ME) | it (a:ME) | not (a:ME) | andl (es:ME) | orl (es:ME) | nil | cons (e es:ME)
set_option genSizeOf false in
set_option genInjectivity false in
inductive MT where
  | nil | cons (a b:MT) | set (i:Nat) (e:ME) | setC (i:Nat) (e:ME) | app (t e:ME) | put (t k e:ME) | ext (t e:ME) | ife (c:ME) (a b:MT) | for1 (i:Nat) (src:ME) (b:MT) | for2 (i j:Nat) (src:ME) (b:MT)
  | ret (e:ME) | retN | drop (e:ME) | pass | brk | cnt | never
def catW (x y:W)(μ:Mem):Option MR:=match x,y with
  | .loc n,.loc m=>(μ[n]?).bind fun ws=>(μ[m]?).bind fun vs=>if ws.length+vs.length<=10000 then some (.loc μ.length,μ++[ws++vs]) else none
  | _,_=>none
abbrev Dm:=List (Str×MF)
def fnM (Δ:Dm)(n:Nat)(x:Str)(g:Mst->Option MA):Mst->Option MR:=fun s=>match Δ[n]? with
  | some (y,F)=>if y=x then zIc F g s else none
  | none=>none
mutual
def evM (Γ:Gm)(Δ:Dm):ME->Mst->Option MR
  | .pur e=>zL5 (evE Γ e)
  | .var i=>varM i
  | .call n f es=>fnM Δ n f (evMs Γ Δ es)
  | .lst es=>lstM (evMs Γ Δ es)
  | .tup es=>tupM (evMs Γ Δ es)
  | .tupd es=>zS2 (evMs Γ Δ es)
  | .ix a b=>twoM (evM Γ Δ a) (evM Γ Δ b) ixW
  | .bin op a b=>twoM (evM Γ Δ a) (evM Γ Δ b) (opM (binD op))
  | .cat a b=>twoM (evM Γ Δ a) (evM Γ Δ b) catW
  | .cmp op a b=>twoM (evM Γ Δ a) (evM Γ Δ b) (opM (cmpD op))
  | .pop a=>popM (evM Γ Δ a)
  | .comp n ms _ src el=>zG1 ms 1 (evSrc Γ Δ src) (tgM n) (evM Γ Δ el)
  | _=>fun _=>none
def evMs (Γ:Gm)(Δ:Dm):ME->Mst->Option MA
  | .nil=>nilM
  | .cons e es=>zMq (evM Γ Δ e) (evMs Γ Δ es)
  | _=>fun _=>none
def evSrc (Γ:Gm)(Δ:Dm):ME->Mst->Option (Src×Mem)
  | .rng a=>zLa (evM Γ Δ a)
  | .it a=>srcM (evM Γ Δ a)
  | _=>fun _=>none
end
mutual
def evT (Γ:Gm)(Δ:Dm):ME->Mst->Option MB
  | .pur e=>zL6 (asB (evE Γ e))
  | .cmp op a b=>asBM (evM Γ Δ (.cmp op a b))
  | .call n f es=>asBM (evM Γ Δ (.call n f es))
  | .not a=>notB (evT Γ Δ a)
  | .andl es=>evAndT Γ Δ es
  | .orl es=>evOrT Γ Δ es
  | _=>fun _=>none
def evAndT (Γ:Gm)(Δ:Dm):ME->Mst->Option MB
  | .cons e es=>(match es with
    | .nil=>evT Γ Δ e
    | es=>andB (evT Γ Δ e) (evAndT Γ Δ es))
  | _=>fun _=>none
def evOrT (Γ:Gm)(Δ:Dm):ME->Mst->Option MB
  | .cons e es=>(match es with
    | .nil=>evT Γ Δ e
    | es=>orB (evT Γ Δ e) (evOrT Γ Δ es))
  | _=>fun _=>none
end
mutual
def evS' (Γ:Gm)(Δ:Dm):MT->Mst->Option OutM
  | .set i e=>setM i (evM Γ Δ e)
  | .setC i e=>setM i (evM Γ Δ e)
  | .app t e=>appM (evM Γ Δ t) (evM Γ Δ e)
  | .put t k e=>putM (evM Γ Δ t) (evM Γ Δ k) (evM Γ Δ e)
  | .ext t e=>extM (evM Γ Δ t) (evM Γ Δ e)
  | .ife c a b=>ifM (evT Γ Δ c) (evSs' Γ Δ a) (evSs' Γ Δ b)
  | .for1 i src b=>fun s=>(evSrc Γ Δ src s).bind fun r=>zD6 (tgM i) (evSs' Γ Δ b) r.1 0 ⟨s.δ,r.2⟩
  | .for2 i j src b=>fun s=>(evSrc Γ Δ src s).bind fun r=>zD6 (tgM2 i j) (evSs' Γ Δ b) r.1 0 ⟨s.δ,r.2⟩
  | .ret e=>retM (evM Γ Δ e)
  | .retN=>fun s=>some (.rt (.dat .non,s.μ))
  | .drop e=>zTx (evM Γ Δ e)
  | .pass=>fun s=>some (.nx s)
  | .brk=>fun s=>some (.bk s)
  | .cnt=>fun s=>some (.ct s)
  | .nil=>fun _=>none
  | .cons _ _=>fun _=>none
  | .never=>fun _=>none
def evSs' (Γ:Gm)(Δ:Dm):MT->Mst->Option OutM
  | .nil=>fun s=>some (.nx s)
  | .cons a b=>seqM (evS' Γ Δ a) (evSs' Γ Δ b)
  | _=>fun _=>none
end
def zSp:Expr->Bool
  | .Name _ _=>true
  | .Subscript _ _ _=>true
  | _=>false
mutual
def cM:ME->Scope->List Str->List Str->Expr->Bool
  | .pur e,sc,N,bs=>fun x=>cE e sc N bs x
  | .var i,sc,N,bs=>fun x=>cE (.var i) sc N bs x
  | .call _ f es,sc,N,bs=>fun e=>zAx e fun z1 z2 z3 _=>zAW z1 fun y _=>zNd z2 fun x xs=>on0 z3<|(decide (f=y)&&glB sc f&&okN f&&cMs es sc N bs (x::xs))
  | .lst es,sc,N,bs=>fun e=>zJS e fun l _=>cMs es sc N bs l
  | .tup es,sc,N,bs=>fun _=>false
  | .tupd es,sc,N,bs=>fun _=>false
  | .ix a b,sc,N,bs=>fun e=>zBx e fun l r _=>zGj r&&cM a sc N bs l&&cM b sc N bs r
  | .bin op a b,sc,N,bs=>fun _=>false
  | .cat a b,sc,N,bs=>fun _=>false
  | .cmp op a b,sc,N,bs=>fun _=>false
  | .pop a,sc,N,bs=>fun _=>false
  | .comp n ms x src el,sc,N,bs=>fun e=>zCT e fun v z1 scope _=>on1 z1 fun z2=>zLs z2 fun z3 t z4 a=>zAW z3 fun y _=>on0 z4<|(decide (x=y)&&decide (a=0)&&decide (n=N.length)&&cscB sc scope&&zJq scope N ms&&decide ((mask noN ms N++[x]).Nodup)&&locB (relS sc scope) x&&ownB scope x&&cSrc src sc N bs t&&cM el (relS sc scope) (mask noN ms N++[x]) bs v)
  | _,_,_,_=>fun _=>false
def cMs:ME->Scope->List Str->List Str->List Expr->Bool
  | .nil,sc,N,bs=>fun l=>l.isEmpty
  | .cons e es,sc,N,bs=>fun l=>match l with
    | x::xs=>zAc x&&cM e sc N bs x&&cMs es sc N bs xs
    | []=>false
  | _,_,_,_=>fun _=>false
def cSrc:ME->Scope->List Str->List Str->Expr->Bool
  | .rng a,sc,N,bs=>fun x=>zAx x fun z1 z2 z3 _=>zAW z1 fun y _=>on1 z2 fun l=>on0 z3<|(decide (y = "range")&&bltB sc bs "range"&&zAc l&&cM a sc N bs l)
  | .it a,sc,N,bs=>fun x=>zGk x&&cM a sc N bs x
  | _,_,_,_=>fun _=>false
end
mutual
def cT:ME->Scope->List Str->List Str->Expr->Bool
  | .pur e,sc,N,bs=>fun x=>cE e sc N bs x
  | .cmp op a b,sc,N,bs=>fun x=>cM (.cmp op a b) sc N bs x
  | .call n f es,sc,N,bs=>fun x=>cM (.call n f es) sc N bs x
  | .not a,sc,N,bs=>fun _=>false
  | .andl es,sc,N,bs=>fun _=>false
  | .orl es,sc,N,bs=>fun _=>false
  | _,_,_,_=>fun _=>false
def cTs:ME->Scope->List Str->List Str->List Expr->Bool
  | .cons e es,sc,N,bs=>fun l=>match es with
    | .nil=>(match l with
      | [x]=>cT e sc N bs x
      | _=>false)
    | es=>(match l with
      | x::y::xs=>cT e sc N bs x&&cTs es sc N bs (y::xs)
      | _=>false)
  | _,_,_,_=>fun _=>false
end
def zPK:ME->Bool
  | .comp _ _ _ _ _=>true
  | _=>false
mutual
def cS' (sc:Scope)(N bs:List Str):MT->Stmt->Bool
  | .set i e=>fun s=>zC4 s fun z1 v _=>on1 z1 fun z2=>zAW z2 fun y _=>varB sc N i y&&zHe v&&cM e sc N bs v
  | .setC i e=>fun s=>zC4 s fun z1 v _=>on1 z1 fun z2=>zAW z2 fun y _=>zPK e&&varB sc N i y&&cM e sc N bs v
  | .app t e=>fun s=>zE2 s fun z1 _=>zAx z1 fun z2 z3 z4 cpos=>zBy z2 fun b m apos=>on1 z3 fun v=>on0 z4<|(decide (m = "append")&&zSp b&&(apos.endLine==cpos.line)&&zAc v&&cM t sc N bs b&&cM e sc N bs v)
  | .ext t e=>fun _=>false
  | .put t k e=>fun _=>false
  | .ife c a b=>fun s=>onIf s fun t l r _=>cT c sc N bs t&&cSs' sc N bs a l&&cSs' sc N bs b r
  | .for1 i it b=>fun s=>zOx s fun z1 t l z2 _=>zAW z1 fun y _=>on0 z2<|(varB sc N i y&&cSrc it sc N bs t&&cSs' sc N bs b l)
  | .for2 i j it b=>fun _=>false
  | .ret e=>fun s=>zDe s fun z1 _=>zFr z1 fun v=>cM e sc N bs v
  | .retN=>fun _=>false
  | .drop e=>fun _=>false
  | .pass=>fun _=>false
  | .brk=>fun _=>false
  | .cnt=>fun _=>false
  | .never=>fun _=>true
  | .nil=>fun _=>false
  | .cons _ _=>fun _=>false
def cSs' (sc:Scope)(N bs:List Str):MT->List Stmt->Bool
  | .nil=>fun l=>l.isEmpty
  | .cons a b=>fun l=>match l with
    | s::r=>cS' sc N bs a s&&cSs' sc N bs b r
    | []=>false
  | _=>fun _=>false
end
end DL
end
section
namespace DL
open PySem Spec PyProof.Rows L2
def DmOk (P:Program)(w:World)(K:W.Frag)(mg:Str->Option Value)(base:Heap)(k:Nat)(Δ:Dm):Prop :=
  ∀ x F,(x,F)∈Δ->∃ f fd ps,FnOk P w K mg base CX0 k f fd ps (spM K F)/\mg x=some (.ref f)/\W.keepIn K (.ref f)=true/\zCC K fd ps []
structure XOkM (X:Cx)(k:Nat)(Γ:Gm)(Δ:Dm)(bs:List Str):Prop where
  x:XOk X k Γ bs
  d:DmOk X.prog X.w X.K X.mg X.base k Δ
theorem XOkM.comp {X:Cx}{k:Nat}{Γ:Gm}{Δ:Dm}{bs N:List Str}{scope:Scope}{s:Shared}{H:Hp}{fp:List Addr}(o:XOkM X k Γ Δ bs)(nd:N.Nodup):XOkM (zAN X N scope s H fp) k Γ Δ bs:=⟨o.x.comp nd,o.d⟩
section
variable {X:Cx}{k:Nat}{Γ:Gm}{Δ:Dm}{bs:List Str}
theorem zKJ {e:Expr}{f:Mst->Option MR}(h:∀ s,f s=none):GM X e f:=fun pins s σ H Q I zz98=>by
  obtain ⟨α,δ,μ,r,ms,q,c⟩:=zz98;rw [h] at q;cases q
theorem zR1 {n:Nat}{f:Str}{p pos:Pos}{x:Expr}{xs:List Expr}{g:Mst->Option MA}(o:XOkM X k Γ Δ bs)(hg:Gl X f)(hd:(f==("__debug__":Str))=false)(ha:GAM X (x::xs) g)(hst:∀ e∈x::xs,zAc e=true):GM X (.Call (.Name f p) (x::xs) [] pos) (fnM Δ n f g):=by
  cases q:Δ[n]? with
  | none=>exact zKJ fun s=>by unfold fnM;rw [q]
  | some yF =>
    obtain ⟨y,F⟩:=yF;by_cases e:y=f
    . subst e;have ef:fnM Δ n y g=zIc F g:=by
        funext s;unfold fnM;rw [q];exact if_pos rfl
      rw [ef];obtain ⟨a,fd,ps,h1,h2,h3,h4⟩:=o.d y F (mem_of_getElem? q);exact zPd h1 o.x.room hg h2 h3 h4 ha hd (zAG (hst x mem_cons_self)) (zDG fun e z=>hst e (mem_cons_of_mem _ z))
    . exact zKJ fun s=>by
        unfold fnM;rw [q];exact if_neg e
theorem zMx {b:Expr}{m:Str}{env:Env}{c}(h:zSp b=true):attributeBase b m env c=c:=by
  cases b<;>first | rfl | cases h
theorem zGJ {sc:Scope}{N bs:List Str}{a:ME}:∀ {es:List Expr},cMs a sc N bs es=true->∀ e∈es,zAc e=true:=by
  induction a with
  | nil =>
    intro es h;cases es with
    | nil=>intro e z;exact absurd z (by simp)
    | cons x xs=>exact zzf h
  | cons a b _ ih =>
    intro es h;cases es with
    | nil=>intro e z;exact absurd z (by simp)
    | cons x xs =>
      simp only [cMs,and_eq_true] at h;intro e z;rcases mem_cons.mp z with rfl | z
      . exact h.1.1
      . exact ih h.2 e z
  | _=>intro es h;exact zzf h
structure zT9 (X:Cx)(Γ:Gm)(Δ:Dm)(bs:List Str)(a:ME):Prop where
  e:∀ e,cM a X.env.scope X.N bs e=true->GM X e (evM Γ Δ a)
  es:∀ es,cMs a X.env.scope X.N bs es=true->GAM X es (evMs Γ Δ a)
  s:∀ it,cSrc a X.env.scope X.N bs it=true->(∀ tg,GIM X tg it (evSrc Γ Δ a))/\∀ x,foldedSetIterable it X.env x=pure x
  t:∀ e,cT a X.env.scope X.N bs e=true->GTM X e (evT Γ Δ a)
  ts:∀ l,cTs a X.env.scope X.N bs l=true->∀ pos,GWM X (.BoolOp .And l pos) (evAndT Γ Δ a)/\GWM X (.BoolOp .Or l pos) (evOrT Γ Δ a)
theorem fls {b:Bool}{p:Prop}(h:b=true)(n:b=false):p:=by rw [n] at h;cases h
theorem zCz (o:XOkM X k Γ Δ bs)(a:ME):zT9 X Γ Δ bs a:=by
  induction a generalizing X with
  | pur e =>
    refine ⟨fun x h=>zPc (((zCG o.x e).e _ h).1),fun _ h=>fls h rfl,fun _ h=>fls h rfl,fun x h=>zMI (((zCG o.x e).e _ h).2),fun _ h=>fls h rfl⟩
  | var i =>
    refine ⟨fun x h=>?_,fun _ h=>fls h rfl,fun _ h=>fls h rfl,fun _ h=>fls h rfl,fun _ h=>fls h rfl⟩;replace h:cE (.var i) X.env.scope X.N bs x=true:=h;obtain ⟨_,_,rfl,hq1⟩:=zAF h;replace h:=hq1;simp only [and_eq_true,decide_eq_true_eq] at h;obtain ⟨⟨h2,h3⟩,h4⟩:=h;obtain ⟨n1,n2⟩:=zCI h4;exact zRz h2 (zGT h3) n1 n2
  | call n f es ih =>
    have key:∀ e,cM (.call n f es) X.env.scope X.N bs e=true->GM X e (evM Γ Δ (.call n f es))/\GTM X e (asBM (evM Γ Δ (.call n f es))):=fun e h=>by
      obtain ⟨z1,z2,z3,_,rfl,hq1⟩:=zAT h;obtain ⟨_,_,rfl,hq2⟩:=zAF hq1;obtain ⟨_,_,rfl,hq3⟩:=zJW hq2;obtain ⟨rfl,hq4⟩:=zAp hq3;replace h:=hq4;simp only [and_eq_true,decide_eq_true_eq] at h;obtain ⟨⟨⟨rfl,h2⟩,h3⟩,h4⟩:=h;exact ⟨zR1 o (zEa h2) (zCI h3).1 ((ih o).es _ h4) (zGJ h4),zPU (zR1 o (zEa h2) (zCI h3).1 ((ih o).es _ h4) (zGJ h4)) fun _=>rfl⟩
    exact ⟨fun e h=>(key e h).1,fun _ h=>fls h rfl,fun _ h=>fls h rfl,fun e h=>(key e h).2,fun _ h=>fls h rfl⟩
  | lst es ih =>
    refine ⟨fun x h=>?_,fun _ h=>fls h rfl,fun _ h=>fls h rfl,fun _ h=>fls h rfl,fun _ h=>fls h rfl⟩;obtain ⟨_,_,rfl,hq1⟩:=zFs h;replace h:=hq1;exact zR0 ((ih o).es _ h)
  | tup es ih =>
    exact ⟨fun _ h=>fls h rfl,fun _ h=>fls h rfl,fun _ h=>fls h rfl,fun _ h=>fls h rfl,fun _ h=>fls h rfl⟩
  | tupd es ih =>
    exact ⟨fun _ h=>fls h rfl,fun _ h=>fls h rfl,fun _ h=>fls h rfl,fun _ h=>fls h rfl,fun _ h=>fls h rfl⟩
  | ix a b iha ihb =>
    refine ⟨fun x h=>?_,fun _ h=>fls h rfl,fun _ h=>fls h rfl,fun _ h=>fls h rfl,fun _ h=>fls h rfl⟩;obtain ⟨_,_,_,rfl,hq1⟩:=zBh h;replace h:=hq1;simp only [and_eq_true] at h;obtain ⟨⟨h0,h1⟩,h2⟩:=h;exact zTf ((iha o).e _ h1) ((ihb o).e _ h2) (zEW h0)
  | bin op a b iha ihb =>
    exact ⟨fun _ h=>fls h rfl,fun _ h=>fls h rfl,fun _ h=>fls h rfl,fun _ h=>fls h rfl,fun _ h=>fls h rfl⟩
  | cat a b iha ihb =>
    exact ⟨fun _ h=>fls h rfl,fun _ h=>fls h rfl,fun _ h=>fls h rfl,fun _ h=>fls h rfl,fun _ h=>fls h rfl⟩
  | cmp op a b iha ihb =>
    exact ⟨fun _ h=>fls h rfl,fun _ h=>fls h rfl,fun _ h=>fls h rfl,fun _ h=>fls h rfl,fun _ h=>fls h rfl⟩
  | pop a iha =>
    exact ⟨fun _ h=>fls h rfl,fun _ h=>fls h rfl,fun _ h=>fls h rfl,fun _ h=>fls h rfl,fun _ h=>fls h rfl⟩
  | comp n ms x src el ihs ihe =>
    refine ⟨fun e h=>?_,fun _ h=>fls h rfl,fun _ h=>fls h rfl,fun _ h=>fls h rfl,fun _ h=>fls h rfl⟩;obtain ⟨v,z1,scope,pos,rfl,hq1⟩:=zBK h;obtain ⟨z2,rfl,hq2⟩:=zAt hq1;obtain ⟨z3,t,z4,a,rfl,hq3⟩:=zDf hq2;obtain ⟨y,py,rfl,hq4⟩:=zAF hq3;obtain ⟨rfl,hq5⟩:=zAp hq4;replace h:=hq5;simp only [and_eq_true,decide_eq_true_eq] at h;obtain ⟨⟨⟨⟨⟨⟨⟨⟨⟨rfl,rfl⟩,rfl⟩,h4⟩,h5⟩,h6⟩,h7⟩,h8⟩,h9⟩,h11⟩:=h;have cx:∀ s H fp,XOkM (zAN X (mask noN ms X.N++[x]) scope s H fp) k Γ Δ bs:=fun s H fp=>o.comp h6
    exact zKK o.x.calm (((ihs o).s _ h9).1 _) ((ihs o).s _ h9).2 (zFI h4) (zDg h5) (fun s H fp=>zE9 (X:=zAN X (mask noN ms X.N++[x]) scope s H fp) h6 (zF5 (k:=0) rfl) (zCt h7) (.inl h8)) fun s H fp=>(ihe (cx s H fp)).e _ h11
  | rng a iha =>
    refine ⟨fun _ h=>fls h rfl,fun _ h=>fls h rfl,fun x h=>?_,fun _ h=>fls h rfl,fun _ h=>fls h rfl⟩;obtain ⟨z1,z2,z3,_,rfl,hq1⟩:=zAT h;obtain ⟨_,_,rfl,hq2⟩:=zAF hq1;obtain ⟨_,rfl,hq3⟩:=zAt hq2;obtain ⟨rfl,hq4⟩:=zAp hq3;replace h:=hq4;simp only [and_eq_true,decide_eq_true_eq] at h;obtain ⟨⟨⟨rfl,h2⟩,h3⟩,h4⟩:=h;obtain ⟨g1,g2⟩:=zA7 o.x h2;exact ⟨fun tg=>zIU g1 g2 ((iha o).e _ h4) (zAG h3),fun _=>rfl⟩
  | it a iha =>
    refine ⟨fun _ h=>fls h rfl,fun _ h=>fls h rfl,fun x h=>?_,fun _ h=>fls h rfl,fun _ h=>fls h rfl⟩;replace h:(zGk x&&cM a X.env.scope X.N bs x)=true:=h;simp only [and_eq_true] at h;exact ⟨fun tg=>zPe ((iha o).e _ h.2),zDL h.1⟩
  | not a iha =>
    exact ⟨fun _ h=>fls h rfl,fun _ h=>fls h rfl,fun _ h=>fls h rfl,fun _ h=>fls h rfl,fun _ h=>fls h rfl⟩
  | andl es ih =>
    exact ⟨fun _ h=>fls h rfl,fun _ h=>fls h rfl,fun _ h=>fls h rfl,fun _ h=>fls h rfl,fun _ h=>fls h rfl⟩
  | orl es ih =>
    exact ⟨fun _ h=>fls h rfl,fun _ h=>fls h rfl,fun _ h=>fls h rfl,fun _ h=>fls h rfl,fun _ h=>fls h rfl⟩
  | nil =>
    refine ⟨fun _ h=>fls h rfl,fun es h=>?_,fun _ h=>fls h rfl,fun _ h=>fls h rfl,fun _ h=>fls h rfl⟩;cases es with
    | nil=>exact zPn
    | cons x xs=>exact (zzf h)
  | cons e es ihe ihs =>
    refine ⟨fun _ h=>fls h rfl,fun l h=>?_,fun _ h=>fls h rfl,fun _ h=>fls h rfl,fun l h pos=>?_⟩
    . cases l with
      | nil=>exact (zzf h)
      | cons x xs =>
        replace h:(zAc x&&cM e X.env.scope X.N bs x&&cMs es X.env.scope X.N bs xs)=true:=h;simp only [and_eq_true] at h;exact zMR ((ihe o).e _ h.1.2) ((ihs o).es _ h.2) (zAG h.1.1)
    . simp only [cTs] at h;split at h
      . split at h
        . exact ⟨zMH ((ihe o).t _ h),zPS ((ihe o).t _ h)⟩
        . cases h
      . rename_i hn;split at h
        . rw [and_eq_true] at h;have q:=(ihs o).ts _ h.2 pos;have ea:evAndT Γ Δ (.cons e es)=andB (evT Γ Δ e) (evAndT Γ Δ es):=by
            rw [evAndT];exact hn
          have eo:evOrT Γ Δ (.cons e es)=orB (evT Γ Δ e) (evOrT Γ Δ es):=by
            rw [evOrT];exact hn
          rw [ea,eo];exact ⟨zPT ((ihe o).t _ h.1) q.1,zRn ((ihe o).t _ h.1) q.2⟩
        . cases h
end
section
variable {X:Cx}{k:Nat}{Γ:Gm}{Δ:Dm}{bs:List Str}
theorem zOM (o:XOkM X k Γ Δ bs)(fnl:∀ x,X.fn x=true)(a:MT):(∀ st,cS' X.env.scope X.N bs a st=true->GSM X st (evS' Γ Δ a))/\∀ sts,cSs' X.env.scope X.N bs a sts=true->GSsM X sts (evSs' Γ Δ a):=by
  have nd:=o.x.nd
  induction a with
  | nil =>
    refine ⟨fun _ h=>fls h rfl,fun l h=>?_⟩;cases l with
    | nil=>exact zMJ
    | cons x xs=>exact (zzf h)
  | cons a b iha ihb =>
    refine ⟨fun _ h=>fls h rfl,fun l h=>?_⟩;cases l with
    | nil=>exact (zzf h)
    | cons x xs =>
      replace h:(cS' X.env.scope X.N bs a x&&cSs' X.env.scope X.N bs b xs)=true:=h;simp only [and_eq_true] at h;exact zKD (iha.1 _ h.1) (ihb.2 _ h.2)
  | set i e =>
    refine ⟨fun st h=>?_,fun _ h=>fls h rfl⟩;obtain ⟨z1,_,_,rfl,hq1⟩:=zBz h;obtain ⟨z2,rfl,hq2⟩:=zAt hq1;obtain ⟨_,_,rfl,hq3⟩:=zAF hq2;replace h:=hq3;simp only [and_eq_true] at h;obtain ⟨⟨h2,h3⟩,h4⟩:=h;obtain ⟨v1,v2,_⟩:=zBf h2;exact zKE nd v1 v2 ((zCz o e).e _ h4) (zDx h3) (.inl (fnl _))
  | setC i e =>
    refine ⟨fun st h=>?_,fun _ h=>fls h rfl⟩;obtain ⟨z1,_,_,rfl,hq1⟩:=zBz h;obtain ⟨z2,rfl,hq2⟩:=zAt hq1;obtain ⟨_,_,rfl,hq3⟩:=zAF hq2;replace h:=hq3;simp only [and_eq_true] at h;obtain ⟨⟨h2,h3⟩,h4⟩:=h;obtain ⟨w1,w2,_⟩:=zBf h3;cases e with
    | comp n ms x src el =>
      obtain ⟨v,z1,scope,pos,rfl,hr1⟩:=zBK h4;obtain ⟨z2,rfl,hr2⟩:=zAt hr1;obtain ⟨z3,t,z4,a,rfl,hr3⟩:=zDf hr2;obtain ⟨y,py,rfl,hr4⟩:=zAF hr3;obtain ⟨rfl,hr5⟩:=zAp hr4;replace h4:=hr5
      . simp only [and_eq_true,decide_eq_true_eq] at h4;obtain ⟨⟨⟨⟨⟨⟨⟨⟨⟨rfl,rfl⟩,rfl⟩,h4⟩,h5⟩,h6⟩,h7⟩,h8⟩,h9⟩,h11⟩:=h4;have cx:∀ s H fp,XOkM (zAN X (mask noN ms X.N++[x]) scope s H fp) k Γ Δ bs:=fun s H fp=>o.comp h6
        exact zML o.x.calm (((zCz o src).s _ h9).1 _) ((zCz o src).s _ h9).2 (zFI h4) (zDg h5) (fun s H fp=>zE9 (X:=zAN X (mask noN ms X.N++[x]) scope s H fp) h6 (zF5 (k:=0) rfl) (zCt h7) (.inl h8)) (fun s H fp=>(zCz (cx s H fp) el).e _ h11) nd w1 w2 (.inl (fnl _))
    | _=>cases h2
  | app t e =>
    refine ⟨fun st h=>?_,fun _ h=>fls h rfl⟩;obtain ⟨z1,_,rfl,hq1⟩:=zDK h;obtain ⟨z2,z3,z4,_,rfl,hq2⟩:=zAT hq1;obtain ⟨_,_,_,rfl,hq3⟩:=zBi hq2;obtain ⟨_,rfl,hq4⟩:=zAt hq3;obtain ⟨rfl,hq5⟩:=zAp hq4;replace h:=hq5;simp only [and_eq_true,decide_eq_true_eq] at h;obtain ⟨⟨⟨⟨⟨rfl,h2⟩,h3⟩,h4⟩,h5⟩,h6⟩:=h;exact zPZ ((zCz o t).e _ h5) ((zCz o e).e _ h6) (zAG h4) (zMx h2) h3
  | ext t e =>
    exact ⟨fun _ h=>fls h rfl,fun _ h=>fls h rfl⟩
  | put t kk e =>
    exact ⟨fun _ h=>fls h rfl,fun _ h=>fls h rfl⟩
  | ife c a b iha ihb =>
    refine ⟨fun st h=>?_,fun _ h=>fls h rfl⟩;obtain ⟨_,_,_,_,rfl,hq1⟩:=zJT h;replace h:=hq1;simp only [and_eq_true] at h;obtain ⟨⟨h1,h2⟩,h3⟩:=h;exact zRt ((zCz o c).t _ h1) (iha.2 _ h2) (ihb.2 _ h3)
  | for1 i it b ihb =>
    refine ⟨fun st h=>?_,fun _ h=>fls h rfl⟩;obtain ⟨z1,_,_,z2,_,rfl,hq1⟩:=zHc h;obtain ⟨_,_,rfl,hq2⟩:=zAF hq1;obtain ⟨rfl,hq3⟩:=zAp hq2;replace h:=hq3;simp only [and_eq_true] at h;obtain ⟨⟨h2,h3⟩,h4⟩:=h;obtain ⟨v1,v2,_⟩:=zBf h2;obtain ⟨s1,s2⟩:=(zCz o it).s _ h3;exact zPY o.x.own o.x.calm (s1 _) (zE9 nd v1 v2 (.inl (fnl _))) (ihb.2 _ h4) s2
  | for2 i j it b ihb =>
    exact ⟨fun _ h=>fls h rfl,fun _ h=>fls h rfl⟩
  | ret e =>
    refine ⟨fun st h=>?_,fun _ h=>fls h rfl⟩;obtain ⟨z1,_,rfl,hq1⟩:=zCr h;obtain ⟨_,rfl,hq2⟩:=zDq hq1;replace h:=hq2;exact zPX ((zCz o e).e _ h)
  | retN =>
    exact ⟨fun _ h=>fls h rfl,fun _ h=>fls h rfl⟩
  | drop e =>
    exact ⟨fun _ h=>fls h rfl,fun _ h=>fls h rfl⟩
  | pass =>
    exact ⟨fun _ h=>fls h rfl,fun _ h=>fls h rfl⟩
  | brk =>
    exact ⟨fun _ h=>fls h rfl,fun _ h=>fls h rfl⟩
  | cnt =>
    exact ⟨fun _ h=>fls h rfl,fun _ h=>fls h rfl⟩
  | never=>exact ⟨fun st h=>zKF,fun _ h=>fls h rfl⟩
end
section
variable {P:Program}{w:World}{K:W.Frag}{mg:Str->Option Value}{base:Heap}{k:Nat}{Γ:Gm}{Δ:Dm}{bs:List Str}
theorem zKu {x qual:Str}{st:Stmt}{f:Addr}{fd:FuncData}{N ps:List Str}{b:MT}(F:Fun K x qual st f fd)(sc:zAD N ps (zAA st))(ck:cSs' (zAA st) N bs b (zAB st)=true)(g:GOk P w K mg base k Γ bs)(d:DmOk P w K mg base k Δ) :
    FnOk P w K mg base CX0 (k+1) f fd ps (spM K (zCv ps.length N.length (evSs' Γ Δ b))) :=
  zPr F sc fun cdv A outer s H E hr =>
    (zOM (X:=(cxOf CX0 P w K mg base N qual (zAA st) f cdv A outer s H E).nox) ⟨⟨g,hr,rfl,sc.nd,PassesOwn.never⟩,d⟩ (fun _=>rfl) b).2 _ ck
def Dm.add (Δ:Dm)(x:Str)(F:MF):Dm:=Δ++[(x,F)]
theorem DmOk.one {j:Nat}{x:Str}{F:MF}{f:Addr}{fd:FuncData}{ps:List Str}(d:DmOk P w K mg base k Δ)(h:k<=j)(hf:FnOk P w K mg base CX0 j f fd ps (spM K F))(m:mg x=some (.ref f))(kp:W.keepIn K (.ref f)=true)(bi:zCC K fd ps []):DmOk P w K mg base j (Δ.add x F):=fun y G z=>by
  rcases mem_append.mp z with z | z
  . obtain ⟨f',fd',ps',h1,h2⟩:=d y G z;exact ⟨f',fd',ps',h1.mono h,h2⟩
  . have e:(y,G)=(x,F):=by simpa using z
    cases e;exact ⟨f,fd,ps,hf,m,kp,bi⟩
theorem DmOk.add {x:Str}{st:Stmt}{f:Addr}{fd:FuncData}{N ps:List Str}{b:MT}(d:DmOk P w K mg base k Δ)(g:GOk P w K mg base k Γ bs)(F:Fun K x x st f fd)(sc:zAD N ps (zAA st))(ck:cSs' (zAA st) N bs b (zAB st)=true)(m:mg x=some (.ref f))(bi:zCC K fd ps []) :
    DmOk P w K mg base (k+1) (Δ.add x (zCv ps.length N.length (evSs' Γ Δ b))):=d.one (Nat.le_succ k) (zKu F sc ck g d) m F.kp bi
theorem DmOk.lift1 {x:Str}{F:List D->Option R}(d:DmOk P w K mg base k Δ)(g:GOk P w K mg base k Γ bs)(m:(x,F)∈Γ.fns):DmOk P w K mg base k (Δ.add x (zFz F)):=by
  obtain ⟨f,fd,ps,q1,q2,q3,q4⟩:=g.fn x F m;exact d.one (le_refl _) (DL.FnOk.lift q1) q2 q3 q4
theorem GOk.mono {j:Nat}(g:GOk P w K mg base k Γ bs)(h:k<=j):GOk P w K mg base j Γ bs :=
  ⟨fun x F m=>let ⟨f,fd,ps,h1,h2⟩:=g.fn x F m;⟨f,fd,ps,h1.mono h,h2⟩,g.cs,g.bt,trivial,trivial,trivial,fun j L F e=>(g.lm j L F e).mono h⟩
end
theorem zED {cs:List (Str×Addr)}:∀ (names:List (Str×NameKind)) (acc:List (Str×Addr)),(∀ p∈names,p.2=.free->∃ c,cs.lookup p.1=some c) ->
    ∃ cl,clos names cs acc=some cl/\cl.map (·.1)=((names.filter fun p=>p.2==.free).map (·.1)).reverse++acc.map (·.1)/\∀ p∈cl,p∈acc\/cs.lookup p.1=some p.2
  | [],acc,_=>⟨acc,rfl,by simp,fun p hp=>.inl hp⟩
  | (x,k)::names,acc,h=>by
    unfold clos;by_cases e:(k==NameKind.free)=true
    . obtain ⟨c,ec⟩:=h (x,k) mem_cons_self (eq_of_beq e);obtain ⟨cl,h1,h2,h3⟩:=zED names ((x,c)::acc) fun p hp=>h p (mem_cons_of_mem _ hp)
      dsimp only at ec;rw [if_pos e,ec];refine ⟨cl,h1,?_,fun p hp=>?_⟩
      . rw [h2,filter_cons];simp [e]
      . rcases h3 p hp with z | z
        . rcases mem_cons.mp z with z | z
          . right;rw [z];exact ec
          . exact .inl z
        . exact .inr z
    . obtain ⟨cl,h1,h2,h3⟩:=zED names acc fun p hp=>h p (mem_cons_of_mem _ hp)
      rw [if_neg e];refine ⟨cl,h1,?_,h3⟩;rw [h2,filter_cons];simp [e]
theorem zFa {cs:List (Str×Addr)}(inj:∀ x y c,cs.lookup x=some c->cs.lookup y=some c->x=y):∀ {cl:List (Str×Addr)},(∀ p∈cl,cs.lookup p.1=some p.2)->(cl.map (·.1)).Nodup->(cl.map (·.2)).Nodup
  | [],_,_=>by simp
  | p::cl,h,nd=>by
    rw [map_cons,nodup_cons] at nd ⊢;refine ⟨fun z=>?_,zFa inj (fun q hq=>h q (mem_cons_of_mem _ hq)) nd.2⟩;obtain ⟨q,hq,e⟩:=mem_map.mp z;have h1:=h p mem_cons_self;have h2:=h q (mem_cons_of_mem _ hq);rw [e] at h2;exact nd.1 (mem_map.mpr ⟨q,hq,inj _ _ _ h2 h1⟩)
def capD:List Nat->List W->Option (List D)
  | [],_=>some []
  | i::ix,ws=>match ws[i]? with
    | some (.dat d)=>(capD ix ws).bind fun ds=>some (d::ds)
    | _=>none
def lamM (Fg:MF)(j:Nat)(L:LamI)(ix:List Nat)(n:Nat):MF:=fun ws μ=>if ws.length=n then (match ws with
  | w0::_=>(capD ix ws).bind fun ds=>if noLs ds=true then Fg [w0,.dat (.lam j L ds)] μ else none
  | []=>none) else none
theorem zN5 {K:W.Frag}{H:Hp}{α:List Addr}{ws:List W}{vs:List V}(dw:DenWL K H α ws vs):∀ {ix:List Nat} {ds:List D},capD ix ws=some ds->∃ us,DenL K (fzH H) ds us/\us.length=ix.length/\∀ (k i:Nat),ix[k]?=some i->us[k]?=vs[i]?
  | [],ds,e=>by
    cases e;exact ⟨[],.nil,rfl,fun k i z=>by simp at z⟩
  | i::ix,ds,e=>by
    unfold capD at e;split at e
    . rename_i d q;obtain ⟨ds',e1,e⟩:=bind_some e;cases e;obtain ⟨us,h1,h2,h3⟩:=zN5 dw e1;obtain ⟨v,g1,g2⟩:=dw.get q;rw [DenW] at g2;refine ⟨v::us,.cons g2 h1,by rw [length_cons,length_cons,h2],fun k i' z=>?_⟩;cases k with
      | zero =>
        have:i=i':=by simpa using z
        subst this;rw [g1];rfl
      | succ k=>exact h3 k i' (by simpa using z)
    . cases e
theorem zFq {α β:Type}{R:α->β->Prop}:∀ {l:List α} {m:List β},l.length=m.length->(∀ (k:Nat) a b,l[k]?=some a->m[k]?=some b->R a b)->Paired R l m
  | [],[],_,_=>.nil
  | [],_::_,e,_=>by simp at e
  | _::_,[],e,_=>by simp at e
  | a::l,b::m,e,h=>.cons (h 0 a b (by simp) (by simp)) (zFq (by simpa using e) fun k a' b' q1 q2=>h (k+1) a' b' (by simpa using q1) (by simpa using q2))
def zEz (H:Hp)(h:Heap)(S:List Addr):Hp:=fun b=>if b∈S then (h.get? b).map (fun o=>.frz o anyU) else H b
section
variable {X:Cx}{pins:List (Addr×Obj)}{σ:St}{H:Hp}{s:Shared}
theorem zMk (I:Inv X pins σ H s){S:List Addr}(hS:∀ b∈S,∃ y,X.env.cells.lookup y=some b)(hfn:∀ y,X.fn y=true) :
    Same H (zEz H s.heap S)/\(∀ b∈S,∃ o v,zEz H s.heap S b=some (.frz o anyU)/\s.heap.get? b=some o/\o.data=.cell v)/\(∀ b,b∉S->zEz H s.heap S b=H b)/\(∀ b∈S,X.s₀.heap.objs.size<=b)/\Env0 X.prog X.w X.K X.mg X.base X.A X.stack s (zEz H s.heap S):=by
  have out:∀ {b:Addr},b∉S->zEz H s.heap S b=H b:=fun z=>if_neg z
  have free:∀ {b:Addr},b∈S->H b=none:=fun {b} z=>let ⟨y,e⟩:=hS b z;I.freeC y b e
  have nS:∀ {b:Addr} {u:HO},H b=some u->b∉S:=fun {b u} e z=>by rw [free z] at e;cases e
  have sm:Same H (zEz H s.heap S):=fun b u e=>by rw [out (nS e)];exact e
  have inn:∀ b∈S,∃ o v,zEz H s.heap S b=some (.frz o anyU)/\s.heap.get? b=some o/\o.data=.cell v:=fun b z=>by
    obtain ⟨y,e⟩:=hS b z;obtain ⟨v,o,ho,hd⟩:=I.cell y b e;refine ⟨o,v,?_,ho,hd⟩;unfold zEz;rw [if_pos z,ho]
    rfl
  have big:∀ b∈S,X.s₀.heap.objs.size<=b:=fun b z=>let ⟨y,e⟩:=hS b z;I.ok.cab y b (hfn y) e
  have e0:=I.env0;refine ⟨sm,inn,fun b z=>out z,big,⟨e0.frames,e0.mod,fun b o e=>⟨(e0.bs b o e).1,?_⟩,e0.bsz,e0.funs,fun b z=>?_,fun b u e=>?_,e0.bare,e0.tree,fun x hx c P e=>sm _ _ (e0.tabs x hx c P e)⟩⟩
  . have nb:b∉S:=fun z=>absurd (lt_size e) (Nat.not_lt.mpr (le_trans I.ok.bsz (big b z)))
    rw [out nb];exact (e0.bs b o e).2
  . have nb:b∉S:=fun z2=>by
      rcases mem_cons.mp (I.stkSub b z) with q | q
      . obtain ⟨y,e⟩:=hS b z2;exact I.cne y b e q
      . obtain ⟨_,o,ho,_⟩:=I.ok.funs.mem q;exact absurd (lt_size ho) (Nat.not_lt.mpr (big b z2))
    rw [out nb];exact e0.frf b z
  . by_cases z:b∈S
    . obtain ⟨o,v,q1,q2,_⟩:=inn b z;rw [q1] at e;cases e;exact zD3 q2
    . rw [out z] at e;exact (I.hok b u e).stay (fun _ _ _ q=>q) (fun _ q=>sm _ _ q) (fun _ _ q=>sm _ _ q) fun _ _ _ q _=>sm _ _ q
end
theorem zOG {fs:List Addr}{L:Addr}{H H1 H2 H':Hp}{h h1 h':Heap}{S:List Addr}(u1:Un fs [] H H1 h h1)(big:∀ b∈S,h.objs.size<=b)(hL:h.objs.size<=L)(sm:Same H1 H2)(out:∀ b,b∉S->H2 b=H1 b)(u2:Un (L::fs) [] H2 H' h1 h'):Un fs [] H H' h h':=by
  have nS:∀ {b:Addr} {o:Obj},h.get? b=some o->b∉S:=fun {b o} e z=>absurd (lt_size e) (Nat.not_lt.mpr (big b z))
  have nL:∀ {b:Addr} {o:Obj},h.get? b=some o->b≠L:=fun {b o} e z=>absurd (lt_size e) (Nat.not_lt.mpr (by rw [z];exact hL))
  have no:∀ {b:Addr} {o:Obj},h.get? b=some o->H b=none->H2 b=none:=fun {b o} e n=>by rw [out b (nS e)];exact u1.free b o e n (by simp)
  refine ⟨fun b o e n hb hx=>u2.keep b o (u1.keep b o e n hb hx) (no e n) (fun z=>(mem_cons.mp z).elim (nL e) hb) hx,fun b o e n hb hx=>?_,fun b o e n hx=>?_,fun b o e hx=>?_,fun b xs e=>u2.tups b xs (sm _ _ (u1.tups b xs e)),fun b o u e=>u2.frzs b o u (sm _ _ (u1.frzs b o u e)),fun b q e=>u2.tbls b q (sm _ _ (u1.tbls b q e))⟩
  . obtain ⟨sl,e1⟩:=u1.slot b o e n hb hx;obtain ⟨sl2,e2⟩:=u2.slot b _ e1 (no e n) (mem_cons_of_mem _ hb) hx;exact ⟨sl2,e2⟩
  . obtain ⟨o1,e1⟩:=u1.there b o e hx;exact u2.free b o1 e1 (no e n) hx
  . obtain ⟨o1,e1⟩:=u1.there b o e hx;exact u2.there b o1 e1 hx
structure zLE (K:W.Frag)(x:Str)(st:Stmt)(ps:List Str)(g:Str)(L:LamI)(ix:List Nat):Prop where
  body:∃ q1 p0 q2 lp cp rp,zAB st=[.Return (some (.Call (.Name g q1) [.Name p0 q2,.Lambda L.params L.body L.scope lp] [] cp)) rp]/\ps[0]?=some p0/\Vis (zAA st) p0/\okN p0=true
  qual:L.qual=x ++ ".<locals>." ++ "<lambda>"
  lam:x∈zBj
  tab:∃ c P,W.tabIn K x=some (c,P)
  gl:glB (zAA st) g=true
  okg:okN g=true
  dflt:∀ env,defaultsOf L.params env=([],[])
  nd:(frN L).Nodup
  len:ix.length=(frN L).length
  cap:∀ (k:Nat) y,(frN L)[k]?=some y->∃ i,ix[k]?=some i/\ps[i]?=some y/\(zAA st).names.lookup y=some .cell
  free:∀ p∈L.scope.names,p.2=.free->p.1∈frN L
theorem zPH {P:Program}{w:World}{K:W.Frag}{mg:Str->Option Value}{base:Heap}{k j:Nat}{x:Str}{st:Stmt}{f fg:Addr}{fd fdg:FuncData}{ps psg:List Str}{g:Str}{L:LamI}{ix:List Nat}{Fg:MF}(F:Fun K x x st f fd)(sc:zAD ps ps (zAA st))(LD:zLE K x st ps g L ix)(m:mg x=some (.ref f))
    (gg:FnOk P w K mg base CX0 k fg fdg psg (spM K Fg)) (mgg:mg g=some (.ref fg)) (kg:W.keepIn K (.ref fg)=true) (bg:zCC K fdg psg []):FnOk P w K mg base CX0 (k+1) f fd ps (spM K (lamM Fg j L ix ps.length)):=by
  obtain ⟨oc,od,kV,doc,pm,an,cdv,ct,osl,rfl,lk,hcd⟩:=F.ex;have lenS:∀ vs H Q E,spM K (lamM Fg j L ix ps.length) vs H Q E->vs.length=ps.length:=fun vs H Q E h=>by
    obtain ⟨α,μ,ws,r,c,d,hF,n⟩:=h;unfold lamM at hF;by_cases q:ws.length=ps.length
    . rw [<- d.length];exact q
    . rw [if_neg q] at hF;cases hF
  refine ⟨lenS,fun A outer s H args us vs Q E hr e0 hb r hsp=>?_⟩;have hl:=lenS _ _ _ _ hsp;have KX:K.In s.heap:=e0.mod.kin.keeps fun b o e=>(e0.bs b o e).1
  have lim:s.heap.NoLimit:=e0.mod.nolimit.keeps fun b o e=>(e0.bs b o e).1
  have hkind:∀ y∈ps.zip us,(zAA st).names.lookup y.1=some .local\/((zAA st).names.lookup y.1=some .cell/\((cellsFrom (s.heap.objs.size+1) (zAA st).names []).lookup y.1).isSome=true):=fun zz99 hy=>by
    obtain ⟨n,v⟩:=zz99;rcases sc.par n (of_mem_zip hy).1 with q | q
    . exact .inl q
    . exact .inr ⟨q,W.cellsFrom_some _ _ _ (.inl q)⟩
  refine codeAny_call_function hr.depth (KX _ _ lk) rfl sc.co sc.gen rfl (W.codeRec_of KX hcd) (hb _ _ _ _ ?_);refine wpAny_newFunctionEnv_cells sc.kind hkind fun env he s1 xx=>?_
  subst he;refine ⟨lim.keeps xx.toInCall.keep,codeAny_func ?_⟩;have I:Inv (cxOf CX0 P w K mg base ps x (zAA st) f cdv A outer s H E) [] (zBv ps vs) H s1:=zF1 sc hr.hd (by have:=hr.dp;show A.depth+1+100 < _;omega) e0 hl r xx;have hr2:Room k (cxOf CX0 P w K mg base ps x (zAA st) f cdv A outer s H E).A:=hr.deeper _;obtain ⟨X,eX⟩:∃ X:Cx,X=cxOf CX0 P w K mg base ps x (zAA st) f cdv A outer s H E:=⟨_,rfl⟩;obtain ⟨q1,p0,q2,lp,cp,rp,eb,hp0,v0,ok0⟩:=LD.body;obtain ⟨α,μ,ws,rr,cc,dw,hF,fin⟩:=hsp;obtain ⟨w0,ws',ds,ews,ecap,nls,hFg⟩:∃ w0 ws' ds,ws=w0::ws'/\capD ix ws=some ds/\noLs ds=true/\Fg [w0,.dat (.lam j L ds)] μ=some rr:=by
    unfold lamM at hF;by_cases q:ws.length=ps.length
    . rw [if_pos q] at hF;cases ws with
      | nil=>cases hF
      | cons w0 ws' =>
        obtain ⟨ds,e1,hF⟩:=bind_some hF;by_cases n:noLs ds=true
        . rw [if_pos n] at hF;exact ⟨w0,ws',ds,rfl,e1,n,hF⟩
        . rw [if_neg n] at hF;cases hF
    . rw [if_neg q] at hF;cases hF
  obtain ⟨cvs,dcap,lcap,gcap⟩:=zN5 dw ecap;obtain ⟨c0,P0,etab⟩:=LD.tab;have ecode:cdv=.ref c0:=W.law_code e0.mod.kin e0.mod.glob etab m (e0.mod.kin _ _ lk) rfl;have key:wpAny (model P w) X.A (eval (.Call (.Name g q1) [.Name p0 q2,.Lambda L.params L.body L.scope lp] [] cp) X.env) (fun u s'=>CE outer P w H s Q u s') X.xe s1:=by
    subst eX;refine wpAny_Call_Name_kw (zE7 I (zEa LD.gl) mgg ?_ (zCI LD.okg).1);refine W.callWith_K (h₀:=base) I.ok.mod.kin kg ?_ rfl rfl;have hv0:∃ v,vs[0]?=some v/\DenW K H α w0 v:=dw.get (by rw [ews];rfl);obtain ⟨vv,ev0,dv0⟩:=hv0;have st0:(zBv ps vs)[0]?=some (some vv):=by
      unfold L2.zBv;rw [getElem?_append_left (by rw [length_map];exact (zzg ev0).1),getElem?_map,ev0]
      rfl
    show wpAny _ _ (spliced ((false,eval (.Name p0 q2) _)::backTo cp (starEach [.Lambda L.params L.body L.scope lp] _))) _ _ s1;refine Calls.spliced_cons (thn (zDo hp0 v0 (zCI ok0).1 (zCI ok0).2 [] s1 _ H (fun y H1=>y=vv/\H1=H) I ⟨vv,st0,rfl,rfl⟩) fun u0 s2 zz100=>?_);obtain ⟨y,H1,I1,r1,ey,eH⟩:=zz100;subst ey eH;have kc:∀ {y:Str},y∈frN L->(zAA st).names.lookup y=some .cell:=fun {y} my=>by
      obtain ⟨kk,hk,e⟩:=List.getElem_of_mem my;obtain ⟨_,_,_,q⟩:=LD.cap kk y (by rw [getElem?_eq_getElem hk,e]);exact q
    obtain ⟨cl,hcl,hcn,hcm⟩:=zED (cs:=(cxOf CX0 P w K mg base ps x (zAA st) f cdv A outer s H1 E).env.cells) L.scope.names [] fun p hp hf=>I1.ok.has p.1 (.inl (kc (LD.free p hp hf)))
    have hcn':cl.map (·.1)=frN L:=by rw [hcn];unfold frN;simp
    have hcm':∀ p∈cl,(cxOf CX0 P w K mg base ps x (zAA st) f cdv A outer s H1 E).env.cells.lookup p.1=some p.2:=fun p hp=>(hcm p hp).elim (fun z=>absurd z (by simp)) id
    have hcd2:(cl.map (·.2)).Nodup:=zFa I1.ok.inj hcm' (by rw [hcn'];exact LD.nd);show wpAny _ _ (spliced ((false,eval (.Lambda L.params L.body L.scope lp) _)::backTo cp (starEach [] _))) _ _ s2;refine Calls.spliced_cons (zL8 I1 (LD.dflt _) hcl ecode (e0.mod.codes x LD.lam c0 P0 etab) (I1.tabs x LD.lam c0 P0 etab) fun f' c' ctv pm' oc' u1 H2 s3 sm nf hf hc' co I2=>?_);refine Calls.spliced_nil ⟨I2.kIn,?_⟩;have hS:∀ b∈cl.map (·.2),∃ y,(cxOf CX0 P w K mg base ps x (zAA st) f cdv A outer s H1 E).env.cells.lookup y=some b:=fun b z=>by
      obtain ⟨p,hp,rfl⟩:=mem_map.mp z;exact ⟨p.1,hcm' p hp⟩
    obtain ⟨sm2,inn,out,big,e2⟩:=zMk I2 hS fun _=>rfl
    obtain ⟨H3,eH3⟩:∃ H3:Hp,H3=zEz H2 s3.heap (cl.map (·.2)):=⟨_,rfl⟩;rw [<- eH3] at sm2 inn out e2;have sm3:Same H1 H3:=sm.trans sm2;have cells:zBH H3 cl cvs:=by
      have lc:cl.length=cvs.length:=by
        have:=congrArg List.length hcn';rw [length_map] at this;rw [lcap,LD.len,this]
      refine zFq lc fun kk p v' g1 g2=>?_
      have gy:(frN L)[kk]?=some p.1:=by rw [<- hcn',getElem?_map,g1];rfl
      obtain ⟨i,ei,epi,eki⟩:=LD.cap kk p.1 gy;rw [gcap kk i ei] at g2;obtain ⟨mm,hn,hloc⟩:=I2.loc;have st2:(zBv ps vs)[i]?=some (some v'):=by
        unfold L2.zBv;rw [getElem?_append_left (by rw [length_map];exact (zzg g2).1),getElem?_map,g2]
        rfl
      obtain ⟨uu,ru,lo⟩:=hloc i p.1 v' epi st2 (.inr (.inl eki));obtain ⟨o,vv',k1,k2,k3⟩:=inn p.2 (mem_map.mpr ⟨p,mem_of_getElem? g1,rfl⟩);rcases lo with ⟨q,_⟩ | ⟨_,c2,e1,o2,ho2,hd2⟩
      . have q':(zAA st).names.lookup p.1=some .local:=q;rw [eki] at q';cases q'
      . rw [hcm' p (mem_of_getElem? g1)] at e1;cases e1;rw [k2] at ho2;cases ho2;exact ⟨o,uu,k1,hd2,ru⟩
    have la:zFU H3 L f' cvs:=⟨cl,pm',c',ctv,oc',u1,by rw [LD.qual];exact sm2 _ _ hf,sm2 _ _ hc',by rw [LD.qual];exact co,hcn',hcd2,cells⟩;have dl:DenW K H3 α (.dat (.lam j L ds)) (.ref f'):=by
      rw [DenW];refine Den.fz (by rw [noL];exact nls) ?_;rw [Den];exact ⟨f',cvs,rfl,la,dcap.mono (zB9.trans sm3)⟩
    have ru0:Vals [y,.ref f'] [u0,.ref f']:=.cons r1 (.cons rfl .nil);have dwl:DenWL K H3 α [w0,.dat (.lam j L ds)] [y,.ref f']:=by
      rw [DenWL];refine ⟨_,_,rfl,dv0.keep (zBU sm3),?_⟩;rw [DenWL];exact ⟨_,_,rfl,dl,by rw [DenWL]⟩
    have sp':spM K Fg [y,.ref f'] H3 Q E:=⟨α,μ,_,rr,cc.same sm3,dwl,hFg,fun v H' β k2 c2 d2=>fin v H' β ((zBU sm3).trans k2) c2 d2⟩;have hl2:([u0,.ref f']:List Value).length=psg.length:=by rw [<- ru0.length];exact gg.len _ _ _ _ sp'
    have bt:=bg s3 [u0,.ref f'] I2.kIn (by simpa using hl2);refine wpAny_call (codeAny_mono (gg.run _ _ s3 H3 _ _ _ Q E hr2 e2 bt (by simpa using ru0) sp') fun r' s' hq=>?_);cases r' with
    | error e=>exact hq.elim
    | ok fl =>
      cases fl with
      | ret u =>
        obtain ⟨v,H',os,bare,un,hok',rv,q⟩:=hq;exact ⟨v,H',os.trans I2.os,bare,zOG I2.base big (le_refl _) sm2 out un,hok',rv,q⟩
      | next=>exact False.elim hq
      | brk=>exact False.elim hq
      | cont=>exact False.elim hq
  have hex:wpAny (model P w) X.A (execs (zAB st) X.env) (fun fl s'=>∃ u,fl=.ret u/\CE outer P w H s Q u s') X.xe s1:=by
    rw [eb];refine wpAny_execs_cons (wpAny_Return_some (thn key fun u s' h=>?_));exact ⟨u,rfl,h⟩
  subst eX;refine wpAny_mono hex (fun fl s' zz101=>?_) fun e s' hs=>hs
  obtain ⟨u,e,h⟩:=zz101;subst e;exact h
def zTS (x:Str)(st:Stmt):LamI:=match zAB st with
  | [.Return (some (.Call _ [_,.Lambda a b c _] _ _)) _]=>⟨x ++ ".<locals>." ++ "<lambda>",a,b,c⟩
  | _=>⟨x,zCP st,.Name x ⟨0,0,0,0⟩,zAA st⟩
def lamB (x:Str)(ys:List Str)(L:LamI):Bool:=(L.scope.kind==.function)&&!L.scope.isCoroutine&&!L.scope.isGenerator&&decide (x::ys).Nodup&&(L.scope.names.lookup x==some .local)&&ys.all (fun y=>L.scope.names.lookup y==some .free)&&L.scope.names.all (fun p=>!(p.2==.free)||ys.contains p.1)&&L.scope.names.all (fun p=>!(p.2==.cell))&&decide (frN L=ys)
theorem zMA {x:Str}{ys:List Str}{L:LamI}(h:lamB x ys L=true)(hb:∀ cl pm c ctv u,bindArgs (W.kla_fn "<lambda>" L.qual L.params L.body L.scope cl pm c ctv) ⟨[u],[]⟩=pure [(x,u)]):zIh x ys L/\frN L=ys:=by
  unfold lamB at h;simp only [and_eq_true,Bool.not_eq_true',decide_eq_true_eq,all_eq_true,Bool.or_eq_true,beq_iff_eq,List.contains_iff_mem,beq_eq_false_iff_ne] at h;obtain ⟨⟨⟨⟨⟨⟨⟨⟨h1,h2⟩,h3⟩,h4⟩,h5⟩,h6⟩,h7⟩,h8⟩,h9⟩:=h;refine ⟨⟨h1,h2,h3,h4,h5,h6,fun y e=>?_,h8,hb⟩,h9⟩;rcases h7 _ (PySem.mem_of_lookup e) with z | z
  . exact absurd rfl z
  . exact z
theorem zMT (L:LamI):∀ p∈L.scope.names,p.2=.free->p.1∈frN L:=fun p hp hf=>by
  unfold frN;rw [List.mem_reverse];exact mem_map.mpr ⟨p,mem_filter.mpr ⟨hp,by rw [hf];rfl⟩,rfl⟩
def capB (sc:Scope)(ps ys:List Str)(ix:List Nat):Bool:=decide (ix.length=ys.length)&&(List.range ys.length).all fun k=>match ys[k]?,ix[k]? with
  | some y,some i=>decide (ps[i]?=some y)&&(sc.names.lookup y==some .cell)
  | _,_=>false
theorem zSm {sc:Scope}{ps ys:List Str}{ix:List Nat}(h:capB sc ps ys ix=true):ix.length=ys.length/\∀ (k:Nat) y,ys[k]?=some y->∃ i,ix[k]?=some i/\ps[i]?=some y/\sc.names.lookup y=some .cell:=by
  unfold capB at h;rw [and_eq_true,decide_eq_true_eq,all_eq_true] at h;refine ⟨h.1,fun k y e=>?_⟩;have hk:k < ys.length:=(zzg e).1;have z:=h.2 k (mem_range.mpr hk);have hi:k < ix.length:=by rw [h.1];exact hk
  have ei:ix[k]?=some ix[k]:=getElem?_eq_getElem hi;rw [e,ei] at z;dsimp only at z;rw [and_eq_true,decide_eq_true_eq,beq_iff_eq] at z;exact ⟨_,ei,z.1,z.2⟩
section
variable {P:Program}{w:World}{K:W.Frag}{mg:Str->Option Value}{base:Heap}{k:Nat}{Δ:Dm}
theorem DmOk.addF {x:Str}{st:Stmt}{f:Addr}{fd:FuncData}{ps:List Str}{g:Str}{L:LamI}{ix:List Nat}{j:Nat}{Fg:MF}(d:DmOk P w K mg base k Δ)(F:Fun K x x st f fd)(sc:zAD ps ps (zAA st))(LD:zLE K x st ps g L ix)(m:mg x=some (.ref f))(bi:zCC K fd ps [])(mem:(g,Fg)∈Δ) :
    DmOk P w K mg base (k+1) (Δ.add x (lamM Fg j L ix ps.length)):=fun y G h=>by
  rcases mem_append.mp h with h | h
  . obtain ⟨f',fd',ps',h1,h2⟩:=d y G h;exact ⟨f',fd',ps',h1.mono (Nat.le_succ k),h2⟩
  . have e:(y,G)=(x,lamM Fg j L ix ps.length):=by simpa using h
    cases e;obtain ⟨fg,fdg,psg,g1,g2,g3,g4⟩:=d g Fg mem;exact ⟨f,fd,ps,zPH F sc LD m g1 g2 g3 g4,m,F.kp,bi⟩
end
theorem tabs_of {K:W.Frag}{tl:List (Str×Addr×Addr)}(h1:W.tabIn K "moved"=tl.lookup ("moved":Str))(h2:W.tabIn K "scaled"=tl.lookup ("scaled":Str))(h3:W.tabIn K "quartered"=tl.lookup ("quartered":Str))(h4:W.tabIn K "mirrored"=tl.lookup ("mirrored":Str)):∀ x∈zBj,W.tabIn K x=tl.lookup x:=by
  intro x hx;simp only [zBj,mem_cons,not_mem_nil,or_false] at hx;rcases hx with rfl | rfl | rfl | rfl
  . exact h1
  . exact h2
  . exact h3
  . exact h4
theorem zRd {n:Nat}{G:Dst->Option R}{ds:List D}{Q:R->Prop}(h1:ds.length=n+1)(h2:noFs ds=true)(h:EvP (G (ds.map fun d=>some (d,false))) Q):EvP (lamD n G ds) Q:=by
  obtain ⟨r,e,q⟩:=h;exact ⟨r,by unfold lamD;rw [if_pos ⟨h1,h2⟩];exact e,q⟩
theorem zP7 {Γ:Gm}{Δ:Dm}{e:E}:evM Γ Δ (.pur e)=zL5 (evE Γ e):=rfl
theorem zP6 {Γ:Gm}{Δ:Dm}{i:Nat}:evM Γ Δ (.var i)=varM i:=rfl
theorem zMg {Γ:Gm}{Δ:Dm}{n:Nat}{f:Str}{es:ME}:evM Γ Δ (.call n f es)=fnM Δ n f (evMs Γ Δ es):=rfl
theorem zMe {Γ:Gm}{Δ:Dm} :evMs Γ Δ .nil=nilM:=rfl
theorem zKc {Γ:Gm}{Δ:Dm}{e:ME}{es:ME}:evMs Γ Δ (.cons e es)=zMq (evM Γ Δ e) (evMs Γ Δ es):=rfl
theorem zP8 {Γ:Gm}{Δ:Dm}{es:ME}:evM Γ Δ (.lst es)=lstM (evMs Γ Δ es):=rfl
theorem zSU {Γ:Gm}{Δ:Dm}{a:ME}{b:ME}:evM Γ Δ (.ix a b)=twoM (evM Γ Δ a) (evM Γ Δ b) ixW:=rfl
theorem zP0 {Γ:Gm}{Δ:Dm}{e:E}:evT Γ Δ (.pur e)=zL6 (asB (evE Γ e)):=rfl
theorem zKX {Γ:Gm}{Δ:Dm} :evSs' Γ Δ .nil=(fun s=>some (.nx s)):=rfl
theorem zCX {Γ:Gm}{Δ:Dm}{a:MT}{b:MT}:evSs' Γ Δ (.cons a b)=seqM (evS' Γ Δ a) (evSs' Γ Δ b):=rfl
theorem zMZ {Γ:Gm}{Δ:Dm}{i:Nat}{e:ME}:evS' Γ Δ (.set i e)=setM i (evM Γ Δ e):=rfl
theorem zKa {Γ:Gm}{Δ:Dm}{i:Nat}{e:ME}:evS' Γ Δ (.setC i e)=setM i (evM Γ Δ e):=rfl
theorem zMa {Γ:Gm}{Δ:Dm}{e:ME}:evS' Γ Δ (.ret e)=retM (evM Γ Δ e):=rfl
theorem zHq {Γ:Gm}{Δ:Dm}{c:ME}{a:MT}{b:MT}:evS' Γ Δ (.ife c a b)=ifM (evT Γ Δ c) (evSs' Γ Δ a) (evSs' Γ Δ b):=rfl
theorem zMb {Γ:Gm}{Δ:Dm}{t:ME}{e:ME}:evS' Γ Δ (.app t e)=appM (evM Γ Δ t) (evM Γ Δ e):=rfl
theorem zMf {Γ:Gm}{Δ:Dm}{n:Nat}{ms:List Nat}{u2:Str}{src:ME}{el:ME}:evM Γ Δ (.comp n ms u2 src el)=zG1 ms 1 (evSrc Γ Δ src) (tgM n) (evM Γ Δ el):=rfl
theorem zMY {Γ:Gm}{Δ:Dm}{a:ME}:evSrc Γ Δ (.it a)=srcM (evM Γ Δ a):=rfl
section
variable {Γ:Gm}{Δ:Dm}{δ:List (Option W)}{μ:Mem}{s:Mst}
theorem zA5 {e:E}{δ':Dst}{Q:MR->Prop}(hd:drS μ δ=δ')(h:EvP (evE Γ e δ') fun r=>EvP (zFQ r μ) Q):EvP (evM Γ Δ (.pur e) ⟨δ,μ⟩) Q:=by
  obtain ⟨r,e1,z,e2,q⟩:=h;exact ⟨z,by rw [zP7];unfold zL5;rw [hd,e1,Option.bind_some,e2],q⟩
theorem zBG {d:D}{Q:MR->Prop}(n:noL d=true)(h:Q (.dat d,μ)):EvP (zFQ (d,.cl) μ) Q:=⟨_,by cases d<;>exact if_pos (e:=none) n,h⟩
theorem zM1 {ds:List D}{Q:MR->Prop}(n:noLs ds=true)(h:Q (.loc μ.length,μ++[ds.map .dat])):EvP (zFQ (.lst ds,.fr) μ) Q:=⟨_,if_pos (e:=none) n,h⟩
theorem zA8 {i:Nat}{w:W}{Q:MR->Prop}(e:δ[i]?=some (some w))(h:Q (w,μ)):EvP (evM Γ Δ (.var i) ⟨δ,μ⟩) Q:=by
  refine ⟨_,?_,h⟩;rw [zP6];unfold varM;show (match δ[i]? with | some (some w)=>some (w,μ) | _=>none)=_;rw [e]
theorem zEX {n:Nat}{f:Str}{es:ME}{F:MF}{Q:MR->Prop}(e:Δ[n]?=some (f,F))(h:EvP (evMs Γ Δ es s) fun ws=>EvP (F ws.1 ws.2) Q):EvP (evM Γ Δ (.call n f es) s) Q:=by
  obtain ⟨ws,e1,r,e2,q⟩:=h;refine ⟨r,?_,q⟩;rw [zMg];unfold fnM;rw [e];show (if f=f then zIc F (evMs Γ Δ es) s else none)=_;rw [if_pos rfl];unfold zIc;rw [e1,Option.bind_some,e2]
theorem zCJ {Q:MA->Prop}(h:Q ([],μ)):EvP (evMs Γ Δ .nil ⟨δ,μ⟩) Q:=⟨_,by rw [zMe];rfl,h⟩
theorem zAn {e es:ME}{Q:MA->Prop}(h:EvP (evM Γ Δ e s) fun w=>EvP (evMs Γ Δ es ⟨s.δ,w.2⟩) fun ws=>Q (w.1::ws.1,ws.2)):EvP (evMs Γ Δ (.cons e es) s) Q:=by
  obtain ⟨w,e1,ws,e2,q⟩:=h;exact ⟨_,by rw [zKc];unfold zMq;rw [e1,Option.bind_some,e2,Option.bind_some],q⟩
theorem zJs {es:ME}{Q:MR->Prop}(h:EvP (evMs Γ Δ es s) fun r=>r.1.length<=10000/\Q (.loc r.2.length,r.2++[r.1])):EvP (evM Γ Δ (.lst es) s) Q:=by
  obtain ⟨r,e1,l,q⟩:=h;exact ⟨_,by rw [zP8];unfold lstM;rw [e1,Option.bind_some,if_pos l],q⟩
theorem m_ix {a b:ME}{Q:MR->Prop}(h:EvP (evM Γ Δ a s) fun x=>EvP (evM Γ Δ b ⟨s.δ,x.2⟩) fun y=>EvP (ixW x.1 y.1 y.2) Q):EvP (evM Γ Δ (.ix a b) s) Q:=by
  obtain ⟨x,e1,y,e2,r,e3,q⟩:=h;exact ⟨_,by rw [zSU];unfold twoM;rw [e1,Option.bind_some,e2,Option.bind_some,e3],q⟩
theorem zHj {n:Nat}{i:Int}{ws:List W}{w:W}{Q:MR->Prop}(e:μ[n]?=some ws)(e2:atI ws i=some w)(h:Q (w,μ)):EvP (ixW (.loc n) (.dat (.int i)) μ) Q:=by
  refine ⟨_,?_,h⟩;show ((μ[n]?).bind fun ws=>(atI ws i).map fun w=>(w,μ))=_;rw [e,Option.bind_some,e2]
  rfl
theorem zLS {e:E}{δ':Dst}{Q:MB->Prop}(hd:drS μ δ=δ')(h:EvP (evE Γ e δ') fun r=>∃ b,r.1=.bl b/\Q (b,μ)):EvP (evT Γ Δ (.pur e) ⟨δ,μ⟩) Q:=by
  obtain ⟨r,e1,b,e2,q⟩:=h;refine ⟨_,?_,q⟩;rw [zP0];unfold zL6;rw [hd];have:asB (evE Γ e) δ'=some b:=by
    unfold asB;rw [e1];obtain ⟨d,k⟩:=r;cases e2
    rfl
  rw [this]
  rfl
def KM (Γ:Gm)(Δ:Dm)(b:MT)(Q:OutM->Prop):OutM->Prop
  | .nx s=>EvP (evSs' Γ Δ b s) Q
  | o=>Q o
theorem zCD {Q:OutM->Prop}(h:Q (.nx s)):EvP (evSs' Γ Δ .nil s) Q:=⟨_,by rw [zKX],h⟩
theorem zAK {a b:MT}{Q:OutM->Prop}(h:EvP (evS' Γ Δ a s) (KM Γ Δ b Q)):EvP (evSs' Γ Δ (.cons a b) s) Q:=by
  obtain ⟨o,e1,q⟩:=h;cases o with
  | nx s' =>
    obtain ⟨r,e2,q⟩:=q;exact ⟨r,by rw [zCX];unfold seqM;rw [e1,Option.bind_some];exact e2,q⟩
  | rt r=>exact ⟨_,by rw [zCX];unfold seqM;rw [e1,Option.bind_some],q⟩
  | bk r=>exact ⟨_,by rw [zCX];unfold seqM;rw [e1,Option.bind_some],q⟩
  | ct r=>exact ⟨_,by rw [zCX];unfold seqM;rw [e1,Option.bind_some],q⟩
theorem zAv {b:MT}{Q:OutM->Prop}(h:EvP (evSs' Γ Δ b s) Q):KM Γ Δ b Q (.nx s):=h
theorem zPI {b:MT}{Q:OutM->Prop}{r:MR}(h:Q (.rt r)):KM Γ Δ b Q (.rt r):=h
theorem zBb {i:Nat}{e:ME}{Q:OutM->Prop}(h:EvP (evM Γ Δ e s) fun r=>Q (.nx ⟨s.δ.set i (some r.1),r.2⟩)):EvP (evS' Γ Δ (.set i e) s) Q:=by
  obtain ⟨r,e1,q⟩:=h;exact ⟨_,by rw [zMZ];unfold setM;rw [e1];rfl,q⟩
theorem zGY {i:Nat}{e:ME}{Q:OutM->Prop}(h:EvP (evM Γ Δ e s) fun r=>Q (.nx ⟨s.δ.set i (some r.1),r.2⟩)):EvP (evS' Γ Δ (.setC i e) s) Q:=by
  obtain ⟨r,e1,q⟩:=h;exact ⟨_,by rw [zKa];unfold setM;rw [e1];rfl,q⟩
theorem zFc {e:ME}{Q:OutM->Prop}(h:EvP (evM Γ Δ e s) fun r=>Q (.rt r)):EvP (evS' Γ Δ (.ret e) s) Q:=by
  obtain ⟨r,e1,q⟩:=h;exact ⟨_,by rw [zMa];unfold retM;rw [e1];rfl,q⟩
theorem zHP {c:ME}{a b:MT}{Q:OutM->Prop}(h:EvP (evT Γ Δ c s) fun r=>(r.1=true->EvP (evSs' Γ Δ a ⟨s.δ,r.2⟩) Q)/\(r.1=false->EvP (evSs' Γ Δ b ⟨s.δ,r.2⟩) Q)):EvP (evS' Γ Δ (.ife c a b) s) Q:=by
  obtain ⟨⟨r,m⟩,e1,q1,q2⟩:=h;cases r with
  | true =>
    obtain ⟨o,e2,q⟩:=q1 rfl;exact ⟨o,by rw [zHq];unfold ifM;rw [e1,Option.bind_some];exact (if_pos rfl).trans e2,q⟩
  | false =>
    obtain ⟨o,e2,q⟩:=q2 rfl;exact ⟨o,by rw [zHq];unfold ifM;rw [e1,Option.bind_some];exact (if_neg Bool.false_ne_true).trans e2,q⟩
theorem zFd {t e:ME}{Q:OutM->Prop}(h:EvP (evM Γ Δ t s) fun x=>EvP (evM Γ Δ e ⟨s.δ,x.2⟩) fun r=>∃ n ws,x.1=.loc n/\r.2[n]?=some ws/\ws.length<=10000/\Q (.nx ⟨s.δ,r.2.set n (ws++[r.1])⟩)):EvP (evS' Γ Δ (.app t e) s) Q:=by
  obtain ⟨⟨x,m⟩,e1,r,e2,n,ws,e3,e4,l,q⟩:=h;cases e3;refine ⟨_,?_,q⟩;rw [zMb];unfold appM;rw [e1,Option.bind_some];simp only;rw [e2,Option.bind_some,e4,Option.bind_some,if_pos l]
def KFM (Q:MR->Prop):OutM->Prop
  | .rt r=>Q r
  | .nx s=>Q (.dat .non,s.μ)
  | _=>False
theorem zKS {np nN:Nat}{g:Mst->Option OutM}{ws:List W}{Q:MR->Prop}(h1:ws.length=np)(h2:np<=nN)(h:EvP (g ⟨ws.map some++List.replicate (nN - np) none,μ⟩) (KFM Q)):EvP (zCv np nN g ws μ) Q:=by
  obtain ⟨o,e1,q⟩:=h;cases o with
  | rt r=>exact ⟨_,by unfold zCv;rw [if_pos ⟨h1,h2⟩,e1];rfl,q⟩
  | nx s=>exact ⟨_,by unfold zCv;rw [if_pos ⟨h1,h2⟩,e1];rfl,q⟩
  | bk _=>exact q.elim
  | ct _=>exact q.elim
theorem zGa {f:Nat->Option D}:∀ ds:List D,sbL f (ds.map .dat)=some ds
  | []=>by rw [map_nil,sbL]
  | d::ds=>by rw [map_cons,sbL,sbW,Option.bind_some,zGa ds];rfl
theorem zGA {n k:Nat}{ws:List W}{ds:List D}(e:μ[n]?=some ws)(h:sbL (drN μ k) ws=some ds):drN μ (k+1) n=some (.lst ds):=by
  rw [drN,e,Option.bind_some,h];rfl
theorem zEA {n k:Nat}{ds:List D}(e:μ[n]?=some (ds.map .dat)):drN μ (k+1) n=some (.lst ds):=zGA e (zGa ds)
theorem zKn {d:D}:drS μ (some (.dat d)::δ)=some (d,false)::drS μ δ:=by
  show ((drW μ (.dat d)).map fun d=>(d,false))::drS μ δ=_;unfold drW;rw [sbW]
  rfl
theorem zKm {n:Nat}{d:D}(h:drN μ 6 n=some d):drS μ (some (.loc n)::δ)=some (d,false)::drS μ δ:=by
  show ((drW μ (.loc n)).map fun d=>(d,false))::drS μ δ=_;unfold drW;rw [sbW,h]
  rfl
theorem zGy:drS μ []=[]:=rfl
theorem zFE {δ':Dst}(h:drS μ δ=δ'):drS μ (none::δ)=none::δ':=by rw [<- h];rfl
theorem zBX {d:D}{δ':Dst}(h:drS μ δ=δ'):drS μ (some (.dat d)::δ)=some (d,false)::δ':=by rw [<- h];exact zKn
theorem zAV {o:Option W}{δ':Dst}(h:drS μ δ=δ'):drS μ (o::δ)=(o.bind fun w=>(drW μ w).map fun d=>(d,false))::δ':=by rw [<- h];rfl
theorem zFw {n:Nat}{ms:List Nat}{x:Str}{src el:ME}{Q:MR->Prop}(h:EvP (evSrc Γ Δ src s) fun z=>∃ y N,zBq (tgM n) (evM Γ Δ el) z.1 N 0 ⟨mask none ms s.δ++[none],z.2⟩ []=some y/\y.1.length<=10000/\Q (.loc y.2.length,y.2++[y.1])):EvP (evM Γ Δ (.comp n ms x src el) s) Q:=by
  obtain ⟨z,e1,y,N,e2,l,q⟩:=h;refine ⟨_,?_,q⟩;rw [zMf];unfold zG1;rw [e1,Option.bind_some];show (zEh (tgM n) (evM Γ Δ el) z.1 ⟨mask none ms s.δ++[none],z.2⟩).bind _=_;rw [zKw e2,Option.bind_some,if_pos l]
theorem zQi {a:ME}{Q:Src×Mem->Prop}{n:Nat}{m:Mem}(e:evM Γ Δ a s=some (.loc n,m))(h:Q (.live n,m)):EvP (evSrc Γ Δ (.it a) s) Q:=by
  refine ⟨_,?_,h⟩;rw [zMY];unfold srcM;rw [e]
  rfl
end
end DL
end
section
namespace DL
open PySem L2
end DL
end
section
namespace DL
open PySem Spec PyProof.Rows L2
theorem zKb {Γ:Gm}{Δ:Dm}{i:Nat}{src:ME}{b:MT}:evS' Γ Δ (.for1 i src b)=(fun s=>(evSrc Γ Δ src s).bind fun r=>zD6 (tgM i) (evSs' Γ Δ b) r.1 0 ⟨s.δ,r.2⟩):=rfl
theorem zKZ {Γ:Gm}{Δ:Dm}{a:ME}:evSrc Γ Δ (.rng a)=zLa (evM Γ Δ a):=rfl
section
variable {Γ:Gm}{Δ:Dm}{δ:List (Option W)}{μ:Mem}{s:Mst}
def KLM (P:Mst->Prop)(Q:OutM->Prop):OutM->Prop
  | .nx s=>P s
  | .ct s=>P s
  | .bk s=>Q (.nx s)
  | .rt r=>Q (.rt r)
theorem zD7 {t:W->Mst->Option Mst}{b:Mst->Option OutM}{src:Src}{Q:OutM->Prop}(ws:List W)(P:Nat->Mst->Prop)(it:∀ j s,P j s->itm s.μ src=some ws)
    (step:∀ j w s,ws[j]?=some w->P j s->∃ s1,t w s=some s1/\EvP (b s1) (KLM (P (j+1)) Q)) (fin:∀ s,P ws.length s->Q (.nx s)) (h:P 0 s):EvP (zD6 t b src 0 s) Q:=by
  have key:∀ (k j:Nat) (s:Mst),j+k=ws.length->P j s->∃ o,forN t b src (k+1) j s=some o/\Q o:=by
    intro k
    induction k with
    | zero =>
      intro j s e p;have ej:j=ws.length:=by omega
      subst ej;refine ⟨_,?_,fin s p⟩;rw [forN,it _ s p,Option.bind_some,getElem?_eq_none (le_refl _)]
    | succ k ih =>
      intro j s e p;have hj:j < ws.length:=by omega
      have ew:ws[j]?=some ws[j]:=getElem?_eq_getElem hj;obtain ⟨s1,e1,o,e2,q⟩:=step j _ s ew p;cases o with
      | nx s' =>
        obtain ⟨o',e3,q'⟩:=ih (j+1) s' (by omega) q;exact ⟨o',by rw [forN,it j s p,Option.bind_some,ew];dsimp only;rw [e1,Option.bind_some,e2,Option.bind_some];exact e3,q'⟩
      | ct s' =>
        obtain ⟨o',e3,q'⟩:=ih (j+1) s' (by omega) q;exact ⟨o',by rw [forN,it j s p,Option.bind_some,ew];dsimp only;rw [e1,Option.bind_some,e2,Option.bind_some];exact e3,q'⟩
      | bk s'=>exact ⟨_,by rw [forN,it j s p,Option.bind_some,ew];dsimp only;rw [e1,Option.bind_some,e2,Option.bind_some],q⟩
      | rt r=>exact ⟨_,by rw [forN,it j s p,Option.bind_some,ew];dsimp only;rw [e1,Option.bind_some,e2,Option.bind_some],q⟩
  obtain ⟨o,e,q⟩:=key ws.length 0 s (by omega) h;exact ⟨o,zMU e,q⟩
theorem zCo {i:Nat}{src:ME}{b:MT}{Q:OutM->Prop}(h:EvP (evSrc Γ Δ src s) fun r=>EvP (zD6 (tgM i) (evSs' Γ Δ b) r.1 0 ⟨s.δ,r.2⟩) Q):EvP (evS' Γ Δ (.for1 i src b) s) Q:=by
  obtain ⟨r,e1,o,e2,q⟩:=h;exact ⟨o,by rw [zKb];dsimp only;rw [e1,Option.bind_some];exact e2,q⟩
theorem zCn {a:ME}{Q:Src×Mem->Prop}(h:EvP (evM Γ Δ a s) fun x=>∃ n,x.1=.loc n/\Q (.live n,x.2)):EvP (evSrc Γ Δ (.it a) s) Q:=by
  obtain ⟨⟨x,m⟩,e,n,e2,q⟩:=h;cases e2;exact zQi e q
theorem zDH {a:ME}{Q:Src×Mem->Prop}(h:EvP (evM Γ Δ a s) fun x=>∃ j,x.1=.dat (.int j)/\(-(2^62)<=j/\j < 2^62)/\Q (.items ((rngL 0 j.toNat).map .dat),x.2)):EvP (evSrc Γ Δ (.rng a) s) Q:=by
  obtain ⟨⟨x,m⟩,e,j,e2,l,q⟩:=h;cases e2;refine ⟨_,?_,q⟩;rw [zKZ];unfold zLa;rw [e,Option.bind_some];exact if_pos l
end
end DL
namespace DL
open PySem L2
end DL
end
section
namespace DL
open PySem L2
def news (m k:Nat):List W:=(List.range k).map fun j=>.loc (m+j)
theorem zC7 (m i:Nat):news m (i+1)=news m i++[.loc (m+i)]:=by unfold news;rw [range_succ,map_append];rfl
theorem zB0 (m i:Nat):(news m i).length=i:=by unfold news;rw [length_map,length_range]
theorem zO1 {m k i:Nat}(h:i < k):(news m k)[i]?=some (.loc (m+i)):=by unfold news;rw [getElem?_map,getElem?_range h];rfl
theorem zGE {t:W->Mst->Option Mst}{e:Mst->Option MR}{src:Src}{s:Mst}(ws:List W)(P:Nat->Mst->List W->Prop)(it:∀ j s d,P j s d->itm s.μ src=some ws)
    (step:∀ j w s d,ws[j]?=some w->P j s d->d.length<=10000/\∃ s1 r,t w s=some s1/\e s1=some r/\P (j+1) ⟨s1.δ,r.2⟩ (d++[r.1])) (h:P 0 s []):∃ y s' N,zBq t e src N 0 s []=some y/\P ws.length s' y.1/\s'.μ=y.2:=by
  have key:∀ (k j:Nat) (s:Mst) (d:List W),j+k=ws.length->P j s d->∃ y s',zBq t e src (k+1) j s d=some y/\P ws.length s' y.1/\s'.μ=y.2:=by
    intro k
    induction k with
    | zero =>
      intro j s d ej p;have ej:j=ws.length:=by omega
      subst ej;refine ⟨(d,s.μ),s,?_,p,rfl⟩;rw [zBq,it _ s d p,Option.bind_some,getElem?_eq_none (le_refl _)]
    | succ k ih =>
      intro j s d ej p;have hj:j < ws.length:=by omega
      have ew:ws[j]?=some ws[j]:=getElem?_eq_getElem hj;obtain ⟨l,s1,r,e1,e2,q⟩:=step j _ s d ew p;obtain ⟨y,s',e3,q'⟩:=ih (j+1) ⟨s1.δ,r.2⟩ _ (by omega) q;refine ⟨y,s',?_,q'⟩;rw [zBq,it j s d p,Option.bind_some,ew];dsimp only;rw [e1,Option.bind_some,e2,Option.bind_some,if_pos l];exact e3
  obtain ⟨y,s',e,q⟩:=key ws.length 0 s [] (by omega) h;exact ⟨y,s',_,e,q⟩
mutual
theorem zHR {f g:Nat->Option D}(hf:∀ n d,f n=some d->g n=some d):∀ {w:W} {d:D},sbW f w=some d->sbW g w=some d
  | .dat x,d,e=>by rw [sbW] at e ⊢;exact e
  | .loc n,d,e=>by rw [sbW] at e ⊢;exact hf n d e
  | .tup ws,d,e=>by
    rw [sbW] at e ⊢;obtain ⟨ds,e1,rfl⟩:=map_eq_some_iff.mp e;rw [sbL_mono hf e1]
    rfl
theorem sbL_mono {f g:Nat->Option D}(hf:∀ n d,f n=some d->g n=some d):∀ {ws:List W} {ds:List D},sbL f ws=some ds->sbL g ws=some ds
  | [],ds,e=>by rw [sbL] at e ⊢;exact e
  | w::ws,ds,e=>by
    rw [sbL] at e ⊢;obtain ⟨d,e1,e⟩:=bind_some e;obtain ⟨ds',e2,rfl⟩:=map_eq_some_iff.mp e;rw [zHR hf e1,Option.bind_some,sbL_mono hf e2]
    rfl
end
theorem zHt {μ μ':Mem}(hm:∀ (n:Nat) (ws:List W),μ[n]?=some ws->μ'[n]?=some ws):∀ (k n:Nat) (d:D),drN μ k n=some d->drN μ' k n=some d
  | 0,_,_,e=>by cases e
  | k+1,n,d,e=>by
    rw [drN] at e ⊢;obtain ⟨ws,e1,e⟩:=bind_some e;obtain ⟨ds,e2,rfl⟩:=map_eq_some_iff.mp e;rw [hm n ws e1,Option.bind_some,sbL_mono (fun n d q=>zHt hm k n d q) e2]
    rfl
theorem zFF {μ μ':Mem}(hm:∀ (n:Nat) (ws:List W),μ[n]?=some ws->μ'[n]?=some ws){w:W}{d:D}(e:drW μ w=some d):drW μ' w=some d:=zHR (fun n d q=>zHt hm 6 n d q) e
theorem zAs {μ γ:Mem}{n:Nat}{ws:List W}(h:μ[n]?=some ws):(μ++γ)[n]?=some ws:=by
  rw [getElem?_append_left (zzg h).1];exact h
theorem zEv {g:Nat->Option D}{α:Type}(ad:α->Nat)(d:α->D):∀ l:List α,(∀ i∈l,g (ad i)=some (d i))->sbL g (l.map fun i=>.loc (ad i))=some (l.map d)
  | [],_=>by rw [map_nil,sbL];rfl
  | i::l,h=>by
    rw [map_cons,sbL,sbW,h i mem_cons_self,Option.bind_some,zEv ad d l fun j hj=>h j (mem_cons_of_mem _ hj)]
    rfl
def zN1:MT:=.cons (.ret (.comp 1 [] "k" (.rng (.var 0)) (.lst .nil))) .nil
def zH5 (F:MF):Prop:=∀ (k:Nat) (μ:Mem) (Q:MR->Prop),k<=100->Q (.loc (μ.length+k),μ++List.replicate k []++[news μ.length k])->EvP (F [.dat (.int k)] μ) Q
theorem zMl {Γ:Gm}{Δ:Dm}:zH5 (zCv 1 1 (evSs' Γ Δ zN1)):=fun k μ Q hk h=>by
  refine zKS rfl (by decide) ?_;unfold zN1;refine zAK (zFc (zFw (zDH (zA8 (w:=.dat (.int k)) rfl ⟨(k:Int),rfl,by omega,?_⟩))));rw [toNat_natCast];obtain ⟨y,s',N,e,⟨o,p1,p2,p3⟩,p4⟩:=zGE (t:=tgM 1) (e:=evM Γ Δ (.lst .nil)) (src:=.items ((rngL 0 k).map .dat)) (s:=⟨mask none [] [some (.dat (.int k))]++[none],μ⟩) ((rngL 0 k).map .dat)
    (fun j s d=>∃ o:Option W,s=⟨[some (.dat (.int k)),o],μ++List.replicate j []⟩/\d=news μ.length j/\j<=k) (fun j s d _=>rfl) (fun j w s d ew zz102=>by
      obtain ⟨o,p1,p2,p3⟩:=zz102;subst p1 p2;have hj:j < k:=by
        have:=(zzg ew).1;rw [length_map,zAZ] at this;exact this
      refine ⟨by rw [zB0];omega,⟨[some (.dat (.int k)),some w],μ++List.replicate j []⟩,(.loc (μ++List.replicate j []).length,μ++List.replicate j []++[[]]),rfl,?_,some w,?_,?_,by omega⟩
      . exact (zJs (Q:=fun r=>r=(W.loc (μ++List.replicate j []).length,μ++List.replicate j []++[[]])) (zCJ ⟨zero_le _,rfl⟩)).eq
      . rw [List.replicate_succ',append_assoc]
      . rw [zC7,length_append,length_replicate]) ⟨none,by rw [List.replicate_zero,append_nil];rfl,rfl,zero_le _⟩
  have lw:((rngL 0 k).map W.dat).length=k:=by rw [length_map,zAZ]
  rw [lw] at p1 p2;subst p1;have e2:y=(news μ.length k,μ++List.replicate k []):=Prod.ext p2 p4.symm;refine ⟨y,N,e,by rw [p2,zB0];omega,?_⟩;rw [e2];show KFM Q (.rt (.loc (μ++List.replicate k []).length,_));rw [length_append,length_replicate];exact h
structure zBa (μ:Mem)(a w h:Nat)(f:Nat->Nat->List Rat):Prop where
  cell:∀ r c,r < h->c<=w->μ[a+r*(w+2)+c]?=some ((f r c).map fun q=>.dat (ratD q))
  row:∀ r,r < h->μ[a+r*(w+2)+(w+1)]?=some (news (a+r*(w+2)) (w+1))
  top:μ[a+h*(w+2)]?=some ((List.range h).map fun r=>.loc (a+r*(w+2)+(w+1)))
theorem zBa.keep {μ μ':Mem}{a w h:Nat}{f:Nat->Nat->List Rat}(t:zBa μ a w h f)(k:∀ (n:Nat) (ws:List W),a<=n->n<=a+h*(w+2)->μ[n]?=some ws->μ'[n]?=some ws):zBa μ' a w h f:=by
  have lt:∀ r c,r < h->c<=w+1->r*(w+2)+c < h*(w+2):=fun r c hr hc=>by
    have:=mul_le_mul_right (w+2) (show r+1<=h from hr);rw [Nat.succ_mul] at this;omega
  exact ⟨fun r c hr hc=>k _ _ (by omega) (by have:=lt r c hr (by omega);omega) (t.cell r c hr hc),fun r hr=>k _ _ (by omega) (by have:=lt r (w+1) hr (by omega);omega) (t.row r hr),k _ _ (by omega) (le_refl _) t.top⟩
theorem zBa.app {μ:Mem}{a w h:Nat}{f:Nat->Nat->List Rat}(t:zBa μ a w h f)(γ:Mem):zBa (μ++γ) a w h f:=t.keep fun _ _ _ _ e=>zAs e
theorem zNm {w r c r' c':Nat}(hc:c<=w+1)(hc':c'<=w+1)(e:r*(w+2)+c=r'*(w+2)+c'):r=r'/\c=c':=by
  have lt:∀ {r r' c c':Nat},c<=w+1->r < r'->r*(w+2)+c < r'*(w+2)+c':=fun {r r' c c'} hc hr=>by
    have:=mul_le_mul_right (w+2) (show r+1<=r' from hr);rw [Nat.succ_mul] at this;omega
  rcases Nat.lt_trichotomy r r' with q | q | q
  . have:=lt (c':=c') hc q;omega
  . subst q;exact ⟨rfl,by omega⟩
  . have:=lt (c':=c) hc' q;omega
def more (f:Nat->Nat->List Rat)(r c:Nat)(q:Rat):Nat->Nat->List Rat:=fun r' c'=>if r'=r/\c'=c then f r c++[q] else f r' c'
theorem zBa.more {μ:Mem}{a w h r c:Nat}{f:Nat->Nat->List Rat}{q:Rat}(t:zBa μ a w h f)(hr:r < h)(hc:c<=w):zBa (μ.set (a+r*(w+2)+c) (((f r c).map fun q=>.dat (ratD q))++[.dat (ratD q)])) a w h (more f r c q):=by
  have hl:=(zzg (t.cell r c hr hc)).1;have hn:r*(w+2)+c < h*(w+2):=by
    have:=mul_le_mul_right (w+2) (show r+1<=h from hr);rw [Nat.succ_mul] at this;omega
  refine ⟨fun r' c' hr' hc'=>?_,fun r' hr'=>?_,?_⟩
  . by_cases e:r'=r/\c'=c
    . obtain ⟨rfl,rfl⟩:=e;rw [getElem?_set_self hl];unfold DL.more;rw [if_pos ⟨rfl,rfl⟩,map_append]
      rfl
    . unfold DL.more;rw [if_neg e,getElem?_set_ne]
      . exact t.cell r' c' hr' hc'
      . intro z;have:=zNm (w:=w) (r:=r) (c:=c) (r':=r') (c':=c') (by omega) (by omega) (by omega);exact e ⟨this.1.symm,this.2.symm⟩
  . rw [getElem?_set_ne]
    . exact t.row r' hr'
    . intro z;have:=zNm (w:=w) (r:=r) (c:=c) (r':=r') (c':=w+1) (by omega) (by omega) (by omega);omega
  . rw [getElem?_set_ne (by omega)];exact t.top
theorem zBa.other {μ:Mem}{a w h n:Nat}{f:Nat->Nat->List Rat}{x:List W}(t:zBa μ a w h f)(hn:n < a\/a+h*(w+2) < n):zBa (μ.set n x) a w h f:=t.keep fun m ws h1 h2 e=>by
  rw [getElem?_set_ne (by omega)];exact e
theorem zOY {f:Nat->Option D}(qs:List Rat):sbL f (qs.map fun q=>W.dat (ratD q))=some (qs.map ratD):=by
  have:(qs.map fun q=>W.dat (ratD q))=(qs.map ratD).map .dat:=by rw [map_map];rfl
  rw [this];exact zGa _
theorem zNE {μ:Mem}{a w h:Nat}{f:Nat->Nat->List Rat}(t:zBa μ a w h f):drN μ 6 (a+h*(w+2))=some (.lst ((List.range h).map fun r=>zEw ((List.range (w+1)).map (f r)))):=by
  refine zGA t.top (zEv (fun r=>a+r*(w+2)+(w+1)) (fun r=>zEw ((List.range (w+1)).map (f r))) _ fun r hr=>?_);have hr:=mem_range.mp hr;have q:drN μ 5 (a+r*(w+2)+(w+1))=some (.lst ((List.range (w+1)).map fun c=>zBF (f r c))):=by
    refine zGA (t.row r hr) (zEv (fun c=>a+r*(w+2)+c) (fun c=>zBF (f r c)) _ fun c hc=>?_);have hc:=mem_range.mp hc;exact zGA (t.cell r c hr (by omega)) (zOY _)
  rw [q];unfold zEw;rw [map_map]
  rfl
def tabE (ne:Nat):ME:=.comp 7 [] "row" (.rng (.var 1)) (.call ne "empty_lists" (.cons (.pur (.bin .Add (.var 0) (.int 1))) .nil))
theorem zND {Γ:Gm}{Δ:Dm}{ne:Nat}{Fe:MF}(ee:Δ[ne]?=some (("empty_lists":Str),Fe))(he:zH5 Fe){w h:Nat}(hw:w<=6)(hh:h<=6){x2 x3 x4 x5 x6:Option W}{μ:Mem}{Q:MR->Prop}
    (hQ:∀ γ:Mem,γ.length=h*(w+2)+1->zBa (μ++γ) μ.length w h (fun _ _=>[])->Q (.loc (μ.length+h*(w+2)),μ++γ)) :
    EvP (evM Γ Δ (tabE ne) ⟨[some (.dat (.int w)),some (.dat (.int h)),x2,x3,x4,x5,x6],μ⟩) Q:=by
  unfold tabE;refine zFw (zDH (zA8 (w:=.dat (.int h)) rfl ⟨(h:Int),rfl,by omega,?_⟩));rw [toNat_natCast];obtain ⟨y,s',N,e,⟨o,γ,p1,p2,p3,p4,p5,p6⟩,p7⟩:=zGE (t:=tgM 7) (e:=evM Γ Δ (.call ne "empty_lists" (.cons (.pur (.bin .Add (.var 0) (.int 1))) .nil))) (src:=.items ((rngL 0 h).map .dat)) (s:=⟨mask none [] [some (.dat (.int w)),some (.dat (.int h)),x2,x3,x4,x5,x6]++[none],μ⟩) ((rngL 0 h).map .dat)
    (fun j s d=>∃ (o:Option W) (γ:Mem),s=⟨[some (.dat (.int w)),some (.dat (.int h)),x2,x3,x4,x5,x6,o],μ++γ⟩/\d=(List.range j).map (fun r=>W.loc (μ.length+r*(w+2)+(w+1)))/\γ.length=j*(w+2)/\j<=h /\
      (∀ r c,r < j->c<=w->(μ++γ)[μ.length+r*(w+2)+c]?=some [])/\∀ r,r < j->(μ++γ)[μ.length+r*(w+2)+(w+1)]?=some (news (μ.length+r*(w+2)) (w+1))) (fun j s d _=>rfl) (fun j x s d ew zz103=>by
      obtain ⟨o,γ,p1,p2,p3,p4,p5,p6⟩:=zz103;subst p1 p2;have hj:j < h:=by
        have:=(zzg ew).1;rw [length_map,zAZ] at this;exact this
      have lg:(μ++γ).length=μ.length+j*(w+2):=by rw [length_append,p3]
      refine ⟨by rw [length_map,length_range];omega,⟨[some (.dat (.int w)),some (.dat (.int h)),x2,x3,x4,x5,x6,some x],μ++γ⟩,(.loc ((μ++γ).length+(w+1)),(μ++γ)++List.replicate (w+1) []++[news (μ++γ).length (w+1)]),rfl,?_,some x,γ++List.replicate (w+1) []++[news (μ++γ).length (w+1)],?_,?_,?_,by omega,?_,?_⟩
      . refine (zEX (Q:=fun r=>r=(W.loc ((μ++γ).length+(w+1)),(μ++γ)++List.replicate (w+1) []++[news (μ++γ).length (w+1)])) ee (zAn (zA5 zKn (zA0 (zAH rfl (zAS (zG5 (zBG rfl (zCJ ?_))))))))).eq;exact he (w+1) (μ++γ) _ (by omega) rfl
      . simp only [append_assoc]
      . rw [range_succ,map_append,lg];rfl
      . simp only [length_append,length_replicate,length_singleton,p3];rw [Nat.succ_mul];omega
      . intro r c hr hc;by_cases q:r < j
        . rw [<- append_assoc,<- append_assoc];exact zAs (zAs (p5 r c q hc))
        . have:r=j:=by omega
          subst this;rw [<- append_assoc,<- append_assoc,getElem?_append_left (by rw [length_append,length_replicate,lg];omega),getElem?_append_right (by rw [lg];omega),lg,getElem?_replicate];rw [if_pos (by omega)]
      . intro r hr;by_cases q:r < j
        . rw [<- append_assoc,<- append_assoc];exact zAs (zAs (p6 r q))
        . have:r=j:=by omega
          subst this;have ll:(μ++γ++List.replicate (w+1) []).length=μ.length+r*(w+2)+(w+1):=by rw [length_append,length_replicate,lg]
          rw [<- append_assoc,<- append_assoc,getElem?_append_right (by rw [ll];exact le_refl _),ll,sub_self];show some (news (μ++γ).length (w+1))=_;rw [lg]) ⟨none,[],by rw [append_nil];rfl,rfl,by simp,zero_le _,fun r c hr=>absurd hr (by omega),fun r hr=>absurd hr (by omega)⟩
  have lw:((rngL 0 h).map W.dat).length=h:=by rw [length_map,zAZ]
  rw [lw] at p2 p3 p5 p6;subst p1;have e2:y=((List.range h).map (fun r=>W.loc (μ.length+r*(w+2)+(w+1))),μ++γ):=Prod.ext p2 p7.symm;refine ⟨y,N,e,by rw [p2,length_map,length_range];omega,?_⟩;rw [e2];have lg:(μ++γ).length=μ.length+h*(w+2):=by rw [length_append,p3]
  show Q (.loc (μ++γ).length,(μ++γ)++[_]);rw [lg,append_assoc];refine hQ _ (by rw [length_append,p3];rfl) ⟨fun r c hr hc=>?_,fun r hr=>?_,?_⟩
  . rw [<- append_assoc];exact zAs (p5 r c hr hc)
  . rw [<- append_assoc];exact zAs (p6 r hr)
  . rw [<- append_assoc,getElem?_append_right (by rw [lg];exact le_refl _),lg,sub_self]
    rfl
theorem zNn {μ:Mem}{ds:List D}{i:Int}{d:D}{Q:MR->Prop}(e:atI ds i=some d)(h:Q (.dat d,μ)):EvP (ixW (.dat (.tup ds)) (.dat (.int i)) μ) Q:=by
  refine ⟨_,?_,h⟩;show (atI ds i).map _=_;rw [e]
  rfl
theorem zQH {μ:Mem}{δ:List (Option W)}{x:W}{d:D}(h:drW μ x=some d):drS μ (some x::δ)=some (d,false)::drS μ δ:=by
  show ((drW μ x).map fun d=>(d,false))::drS μ δ=_;rw [h]
  rfl
def fc (zs:List Pc)(r c:Nat):List Rat:=(zs.filter fun z=>decide (z.r=(r:Int))&&decide (z.c+1=(c:Int))).map zCL
def gc (zs:List Pc)(r c:Nat):List Rat:=(zs.filter fun z=>decide (z.r=(r:Int))&&decide (z.c+1=(c:Int))).map zCf
theorem zPt {n w h:Nat}{zs:List Pc}{z:Pc}(hz:PcB n w h z):fc (zs++[z])=more (fc zs) z.r.toNat (z.c+1).toNat (zCL z):=by
  have r0:=hz.r0;have c0:=hz.c0;funext r c;unfold fc more;rw [List.filter_append,map_append];by_cases e:r=z.r.toNat/\c=(z.c+1).toNat
  . obtain ⟨rfl,rfl⟩:=e;rw [if_pos ⟨rfl,rfl⟩];have:List.filter (fun z_1=>decide (z_1.r=(z.r.toNat:Int))&&decide (z_1.c+1=((z.c+1).toNat:Int))) [z]=[z]:=by
      rw [filter_cons,if_pos (by simp only [and_eq_true,decide_eq_true_eq];omega)]
      rfl
    rw [this]
    rfl
  . rw [if_neg e];have:List.filter (fun z_1=>decide (z_1.r=(r:Int))&&decide (z_1.c+1=(c:Int))) [z]=[]:=by
      rw [filter_cons,if_neg (by simp only [and_eq_true,decide_eq_true_eq];omega)]
      rfl
    rw [this];simp
theorem zPl {n w h:Nat}{zs:List Pc}{z:Pc}(hz:PcB n w h z):gc (zs++[z])=more (gc zs) z.r.toNat (z.c+1).toNat (zCf z):=by
  have r0:=hz.r0;have c0:=hz.c0;funext r c;unfold gc more;rw [List.filter_append,map_append];by_cases e:r=z.r.toNat/\c=(z.c+1).toNat
  . obtain ⟨rfl,rfl⟩:=e;rw [if_pos ⟨rfl,rfl⟩];have:List.filter (fun z_1=>decide (z_1.r=(z.r.toNat:Int))&&decide (z_1.c+1=((z.c+1).toNat:Int))) [z]=[z]:=by
      rw [filter_cons,if_pos (by simp only [and_eq_true,decide_eq_true_eq];omega)]
      rfl
    rw [this]
    rfl
  . rw [if_neg e];have:List.filter (fun z_1=>decide (z_1.r=(r:Int))&&decide (z_1.c+1=(c:Int))) [z]=[]:=by
      rw [filter_cons,if_neg (by simp only [and_eq_true,decide_eq_true_eq];omega)]
      rfl
    rw [this];simp
def zPC (nf nr:Nat):MT:=.cons (.set 6 (.pur (.bin .Add (.ix (.var 5) (.int 0)) (.int 1)))) (.cons (.app (.ix (.ix (.var 3) (.ix (.var 5) (.pur (.int 1)))) (.var 6)) (.pur (.call nf "fall" (.cons (.var 5) .nil)))) (.cons (.app (.ix (.ix (.var 4) (.ix (.var 5) (.pur (.int 1)))) (.var 6)) (.pur (.call nr "right" (.cons (.var 5) .nil)))) .nil))
theorem zJw {Γ:Gm}{Δ:Dm}{nf nr:Nat}{Ff Fr:List D->Option R}(ef:Γ.fns[nf]?=some (("fall":Str),Ff))(er:Γ.fns[nr]?=some (("right":Str),Fr))(hf:zLF Ff)(hr:zH2 Fr){n w h a b:Nat}{z:Pc}{f g:Nat->Nat->List Rat}{x0 x1 x2 x6:Option W}{μ:Mem}{Q:OutM->Prop}
    (hz:PcB n w h z) (hn:n<=1000) (hw:w<=100) (tf:zBa μ a w h f) (tg:zBa μ b w h g) (ab:a+h*(w+2) < b) (lf:∀ r c,(f r c).length<=10000) (lg:∀ r c,(g r c).length<=10000)
    (hQ:∀ μ':Mem,μ'.length=μ.length->(∀ m:Nat,m < a->μ'[m]?=μ[m]?)->(∀ m:Nat,b+h*(w+2) < m->μ'[m]?=μ[m]?)->zBa μ' a w h (more f z.r.toNat (z.c+1).toNat (zCL z))->zBa μ' b w h (more g z.r.toNat (z.c+1).toNat (zCf z))->Q (.nx ⟨[x0,x1,x2,some (.loc (a+h*(w+2))),some (.loc (b+h*(w+2))),some (.dat (pcD z)),some (.dat (.int (z.c+1)))],μ'⟩)) :
    EvP (evSs' Γ Δ (zPC nf nr) ⟨[x0,x1,x2,some (.loc (a+h*(w+2))),some (.loc (b+h*(w+2))),some (.dat (pcD z)),x6],μ⟩) Q:=by
  have r0:=hz.r0;have r1:=hz.r1;have c0:=hz.c0;have c1:=hz.c1;have eR:z.r=((z.r.toNat:Nat):Int):=by omega
  have eC:z.c+1=(((z.c+1).toNat:Nat):Int):=by omega
  have hR:z.r.toNat < h:=by omega
  have hC:(z.c+1).toNat<=w:=by omega
  have atT:∀ (a:Nat),atI ((List.range h).map fun r=>W.loc (a+r*(w+2)+(w+1))) z.r=some (.loc (a+z.r.toNat*(w+2)+(w+1))):=fun a=>by
    have q:atI ((List.range h).map fun r=>W.loc (a+r*(w+2)+(w+1))) ((z.r.toNat:Nat):Int)=some (.loc (a+z.r.toNat*(w+2)+(w+1))):=zAo (by rw [getElem?_map,getElem?_range hR];rfl);rw [<- eR] at q;exact q
  have atR:∀ (a:Nat),atI (news (a+z.r.toNat*(w+2)) (w+1)) (z.c+1)=some (.loc (a+z.r.toNat*(w+2)+(z.c+1).toNat)):=fun a=>by
    have q:atI (news (a+z.r.toNat*(w+2)) (w+1)) (((z.c+1).toNat:Nat):Int)=some (.loc (a+z.r.toNat*(w+2)+(z.c+1).toNat)):=zAo (zO1 (by omega));rw [<- eC] at q;exact q
  have pc1:atI [D.int z.c,.int z.r,ptD z.p,ptD z.q] 1=some (.int z.r):=rfl;have hn2:z.r.toNat*(w+2)+(z.c+1).toNat < h*(w+2):=by
    have:=mul_le_mul_right (w+2) (show z.r.toNat+1<=h from hR);rw [Nat.succ_mul] at this;omega
  unfold zPC;refine zAK (zBb (zA5 (zAV (zAV (zAV (zAV (zAV (zBX rfl)))))) ?_));refine zA0 (zBA (zAH rfl (zAS (zDN (d:=.int z.c) rfl (zAS (zG5 (zBG rfl (zAv ?_))))))));(walk_at "s");refine zAK (zFd (m_ix (m_ix (zA8 rfl (m_ix (zA8 rfl (zA5 rfl (zAS (zBG rfl ?_)))))))));refine zNn pc1 (zHj tf.top (atT a) (zA8 rfl (zHj (tf.row _ hR) (atR a) ?_)));refine zA5 (zAV (zAV (zAV (zAV (zAV (zBX rfl)))))) ?_;refine zAQ ef (zAC (zAH rfl (n_cl (zAi ?_))));refine hf z.c z.r z.p z.q _ _ hz.p hz.q (by omega) ?_;refine n_cl (zBG rfl ⟨_,_,rfl,tf.cell _ _ hR hC,by rw [length_map];exact lf _ _,zAv ?_⟩);have tf2:=tf.more (q:=zCL z) hR hC;have tg2:=tg.other (n:=a+z.r.toNat*(w+2)+(z.c+1).toNat) (x:=((f z.r.toNat (z.c+1).toNat).map fun q=>.dat (ratD q))++[.dat (ratD (zCL z))]) (by omega);have l2:(μ.set (a+z.r.toNat*(w+2)+(z.c+1).toNat) (((f z.r.toNat (z.c+1).toNat).map fun q=>.dat (ratD q))++[.dat (ratD (zCL z))])).length=μ.length:=length_set;have o1:∀ m:Nat,m < a->(μ.set (a+z.r.toNat*(w+2)+(z.c+1).toNat) (((f z.r.toNat (z.c+1).toNat).map fun q=>.dat (ratD q))++[.dat (ratD (zCL z))]))[m]?=μ[m]?:=fun m hm=>getElem?_set_ne (by omega)
  have o2:∀ m:Nat,b+h*(w+2) < m->(μ.set (a+z.r.toNat*(w+2)+(z.c+1).toNat) (((f z.r.toNat (z.c+1).toNat).map fun q=>.dat (ratD q))++[.dat (ratD (zCL z))]))[m]?=μ[m]?:=fun m hm=>getElem?_set_ne (by omega)
  have go:∀ μ1:Mem,μ1.length=μ.length->(∀ m:Nat,m < a->μ1[m]?=μ[m]?)->(∀ m:Nat,b+h*(w+2) < m->μ1[m]?=μ[m]?)->zBa μ1 a w h (more f z.r.toNat (z.c+1).toNat (zCL z))->zBa μ1 b w h g ->
      EvP (evSs' Γ Δ (.cons (.app (.ix (.ix (.var 4) (.ix (.var 5) (.pur (.int 1)))) (.var 6)) (.pur (.call nr "right" (.cons (.var 5) .nil)))) .nil) ⟨[x0,x1,x2,some (.loc (a+h*(w+2))),some (.loc (b+h*(w+2))),some (.dat (pcD z)),some (.dat (.int (z.c+1)))],μ1⟩) Q:=by
    intro μ1 e1 e2 e3 tf2 tg2;refine zAK (zFd (m_ix (m_ix (zA8 rfl (m_ix (zA8 rfl (zA5 rfl (zAS (zBG rfl ?_)))))))));refine zNn pc1 (zHj tg2.top (atT b) (zA8 rfl (zHj (tg2.row _ hR) (atR b) ?_)));refine zA5 (zAV (zAV (zAV (zAV (zAV (zBX rfl)))))) ?_;refine zAQ er (zAC (zAH rfl (n_cl (zAi ?_))));refine hr z.c z.r z.p z.q _ _ hz.p hz.q (by omega) (by omega) ?_;refine n_cl (zBG rfl ⟨_,_,rfl,tg2.cell _ _ hR hC,by rw [length_map];exact lg _ _,zAv (zCD ?_)⟩);refine hQ _ (by rw [length_set];exact e1) (fun m hm=>?_) (fun m hm=>?_) (tf2.other (by omega)) (tg2.more hR hC)
    . rw [getElem?_set_ne (by omega)];exact e2 m hm
    . rw [getElem?_set_ne (by omega)];exact e3 m hm
  exact go _ l2 o1 o2 tf2 tg2
def zIy (na nf nr nw ne:Nat):MT:=.cons (.setC 3 (tabE ne)) (.cons (.setC 4 (tabE ne)) (.cons (.for1 5 (.it (.pur (.call na "all_pieces" (.cons (.var 0) (.cons (.var 1) (.cons (.var 2) .nil)))))) (zPC nf nr)) (.cons (.ret (.comp 7 [] "row" (.rng (.var 1)) (.pur (.call nw "row_of_shares" (.cons (.ix (.var 3) (.var 7)) (.cons (.ix (.var 4) (.var 7)) .nil)))))) .nil)))
def rowZ (zs:List Pc)(w r:Nat):List Rat:=zLY ((List.range (w+1)).map (fc zs r)) ((List.range (w+1)).map (gc zs r)) w
def zBE (zs:List Pc)(w:Nat)(k:Nat):Mem:=(List.range k).map fun r=>(rowZ zs w r).map fun q=>W.dat (ratD q)
def zLD (F:MF):Prop:=∀ (n w h:Nat) (rs:List (List Pt)) (x:W) (μ:Mem) (Q:MR->Prop),FlB n w h rs->(allP w h rs).length<=5000->(allP w h rs).length*(24*n+101)<=4000000->drW μ x=some (zAY rs) ->
  (∀ γ:Mem,Q (.loc ((μ++γ).length+h),μ++γ++zBE (allP w h rs) w h++[news (μ++γ).length h]))->EvP (F [.dat (.int w),.dat (.int h),x] μ) Q
theorem zO0 (zs:List Pc):noLs (zs.map pcD)=true:=by
  induction zs with
  | nil=>rfl
  | cons z zs ih=>rw [map_cons,noLs,ih];rfl
theorem zLv (qs:List Rat):noLs (qs.map ratD)=true:=by
  induction qs with
  | nil=>rfl
  | cons q qs ih=>rw [map_cons,noLs,ih];rfl
theorem zKT {n w h:Nat}{z:Pc}(hz:PcB n w h z):RB (24*n+100) (zCL z):=(zCg hz.p.y hz.q.y).mono (by omega)
theorem zHU {n w h:Nat}{z:Pc}(hz:PcB n w h z)(hw:w<=100):RB (24*n+100) (zCf z):=by
  have c0:=hz.c0;have c1:=hz.c1;unfold zCf zFn;split
  . exact zEx.mono (by omega)
  . have rc:RB 8 ((z.c+1:Int):Rat):=zC2 (zBT (k:=200) (by omega) (by decide)) (by decide);exact (zES (zCg hz.p.y hz.q.y) (zCg rc (zNj hz.p.x hz.q.x))).mono (by omega)
theorem zSN {n w h:Nat}{zs:List Pc}(hz:∀ z∈zs,PcB n w h z)(r c:Nat):(fc zs r c).length<=zs.length/\∀ q∈fc zs r c,RB (24*n+100) q:=by
  refine ⟨by unfold fc;rw [length_map];exact length_filter_le _ _,fun q hq=>?_⟩;obtain ⟨z,m,rfl⟩:=mem_map.mp hq;exact zKT (hz z (mem_filter.mp m).1)
theorem zSI {n w h:Nat}{zs:List Pc}(hw:w<=100)(hz:∀ z∈zs,PcB n w h z)(r c:Nat):(gc zs r c).length<=zs.length/\∀ q∈gc zs r c,RB (24*n+100) q:=by
  refine ⟨by unfold gc;rw [length_map];exact length_filter_le _ _,fun q hq=>?_⟩;obtain ⟨z,m,rfl⟩:=mem_map.mp hq;exact zHU (hz z (mem_filter.mp m).1) hw
theorem zIx {Γ:Gm}{Δ:Dm}{na nf nr nw ne:Nat}{Fa Ff Fr Fw:List D->Option R}{Fe:MF}(ea:Γ.fns[na]?=some (("all_pieces":Str),Fa))(ef:Γ.fns[nf]?=some (("fall":Str),Ff))(er:Γ.fns[nr]?=some (("right":Str),Fr))(ew:Γ.fns[nw]?=some (("row_of_shares":Str),Fw))(ee:Δ[ne]?=some (("empty_lists":Str),Fe))
    (ha:AllF Fa) (hf:zLF Ff) (hr:zH2 Fr) (hw:RowF Fw) (he:zH5 Fe):zLD (zCv 3 7 (evSs' Γ Δ (zIy na nf nr nw ne))):=fun n w h rs x μ Q fb zl zb dx hQ=>by
  have pcs:=zN8 (n:=n) (w:=w) (h:=h) (rs:=rs) fb.w1 (by have:=fb.w2;omega) (by have:=fb.h2;omega) fb.r;have w2:=fb.w2;have h2:=fb.h2;generalize ez:allP w h rs=zs at zl zb hQ pcs;refine zKS rfl (by decide) ?_;unfold zIy;show EvP (evSs' Γ Δ _ ⟨[some (.dat (.int w)),some (.dat (.int h)),some x,none,none,none,none],μ⟩) _;refine zAK (zGY (zND ee he w2 h2 fun γ1 g1 t1=>zAv ?_));(walk_at "s");refine zAK (zGY (zND ee he w2 h2 fun γ2 g2 t2=>zAv ?_));(walk_at "s");have ta:=t1.app γ2;have l12:(μ++γ1).length=μ.length+h*(w+2)+1:=by rw [length_append,g1];omega
  rw [l12] at t2;rw [l12];have dx2:drW (μ++γ1++γ2) x=some (zAY rs):=zFF (fun m ws e=>zAs (zAs e)) dx;refine zAK (zCo (zCn (zA5 (zBX (zBX (zQH dx2))) ?_)));refine zAQ ea (zAC (zAH rfl (n_cl (zAC (zAH rfl (n_cl (zAC (zAH (d:=zAY rs) rfl (n_cl (zAi ?_)))))))))) ;refine ha n w h rs _ fb ?_;rw [ez];refine n_fr (zM1 (zO0 zs) ⟨_,rfl,?_⟩);have lb:(μ++γ1++γ2).length=μ.length+h*(w+2)+1+h*(w+2)+1:=by rw [length_append,l12,g2];omega
  dsimp only;refine zD7 (s:=⟨_,_⟩) ((zs.map pcD).map .dat) (fun j s=>∃ (o5 o6:Option W) (μ':Mem),s=⟨[some (.dat (.int w)),some (.dat (.int h)),some x,some (.loc (μ.length+h*(w+2))),some (.loc (μ.length+h*(w+2)+1+h*(w+2))),o5,o6],μ'⟩/\μ'.length=(μ++γ1++γ2).length+1/\(∀ m:Nat,m < μ.length->μ'[m]?=μ[m]?)/\μ'[(μ++γ1++γ2).length]?=some ((zs.map pcD).map .dat) /\
    zBa μ' μ.length w h (fc (zs.take j))/\zBa μ' (μ.length+h*(w+2)+1) w h (gc (zs.take j))) ?_ ?_ ?_ ⟨none,none,μ++γ1++γ2++[(zs.map pcD).map .dat],rfl,by rw [length_append];rfl,?_,?_,?_,?_⟩
  . rintro j s ⟨o5,o6,μ',rfl,m1,m2,m3,m4,m5⟩;exact m3
  . rintro j y s ey ⟨o5,o6,μ',rfl,m1,m2,m3,m4,m5⟩;rw [map_map,getElem?_map] at ey;obtain ⟨z,ez2,rfl⟩:=map_eq_some_iff.mp ey;have hz:=pcs z (mem_of_getElem? ez2);have et:zs.take (j+1)=zs.take j++[z]:=by rw [take_add_one,ez2];rfl
    refine ⟨_,rfl,?_⟩;dsimp only;(walk_at "s");have ll:∀ r c,(fc (zs.take j) r c).length<=10000/\(gc (zs.take j) r c).length<=10000:=fun r c=>by
      have a:=(zSN (n:=n) (w:=w) (h:=h) (zs:=zs.take j) (fun z hz=>pcs z (mem_of_mem_take hz)) r c).1;have b:=(zSI (n:=n) (w:=w) (h:=h) (zs:=zs.take j) (by omega) (fun z hz=>pcs z (mem_of_mem_take hz)) r c).1;rw [length_take] at a b;omega
    refine zJw ef er hf hr hz fb.b (by omega) m4 m5 (by omega) (fun r c=>(ll r c).1) (fun r c=>(ll r c).2) fun μ2 e1 e2 e3 t3 t4=>?_
    rw [<- zPt hz,<- et] at t3;rw [<- zPl hz,<- et] at t4;exact ⟨_,_,μ2,rfl,by rw [e1];exact m1,fun m hm=>by rw [e2 m hm];exact m2 m hm,by rw [e3 _ (by rw [lb];omega)];exact m3,t3,t4⟩
  . rintro s ⟨o5,o6,μ',rfl,m1,m2,m3,m4,m5⟩;have el:((zs.map pcD).map W.dat).length=zs.length:=by rw [length_map,length_map]
    rw [el,take_length] at m4 m5;refine zAv ?_;refine zAK (zFc (zFw (zDH (zA8 (w:=.dat (.int h)) rfl ⟨(h:Int),rfl,by omega,?_⟩))));rw [toNat_natCast];obtain ⟨y,s',N,e,⟨o,p1,p2,p3⟩,p4⟩:=zGE (t:=tgM 7) (e:=evM Γ Δ (.pur (.call nw "row_of_shares" (.cons (.ix (.var 3) (.var 7)) (.cons (.ix (.var 4) (.var 7)) .nil))))) (src:=.items ((rngL 0 h).map .dat)) (s:=⟨mask none [] [some (.dat (.int w)),some (.dat (.int h)),some x,some (.loc (μ.length+h*(w+2))),some (.loc (μ.length+h*(w+2)+1+h*(w+2))),o5,o6]++[none],μ'⟩) ((rngL 0 h).map .dat)
      (fun j s d=>∃ o:Option W,s=⟨[some (.dat (.int w)),some (.dat (.int h)),some x,some (.loc (μ.length+h*(w+2))),some (.loc (μ.length+h*(w+2)+1+h*(w+2))),o5,o6,o],μ'++zBE zs w j⟩/\d=news μ'.length j/\j<=h) (fun j s d _=>rfl) (fun j y s d ey zz104=>by
        obtain ⟨o,p1,p2,p3⟩:=zz104;subst p1 p2;have hj:j < h:=by
          have:=(zzg ey).1;rw [length_map,zAZ] at this;exact this
        have ey2:y=.dat (.int (j:Int)):=by
          unfold rngL at ey;rw [map_map,getElem?_map,getElem?_range hj] at ey;have:=(Option.some.inj ey).symm;rw [this];simp
        subst ey2;have t5:=m4.app (zBE zs w j);have t6:=m5.app (zBE zs w j);have lr:(μ'++zBE zs w j).length=μ'.length+j:=by rw [length_append];unfold zBE;rw [length_map,length_range]
        refine ⟨by rw [zB0];omega,⟨[some (.dat (.int w)),some (.dat (.int h)),some x,some (.loc (μ.length+h*(w+2))),some (.loc (μ.length+h*(w+2)+1+h*(w+2))),o5,o6,some (.dat (.int (j:Int)))],μ'++zBE zs w j⟩,(.loc (μ'++zBE zs w j).length,(μ'++zBE zs w j)++[((rowZ zs w j).map ratD).map .dat]),rfl,?_,some (.dat (.int (j:Int))),?_,?_,by omega⟩
        . refine (zA5 (Q:=fun r=>r=(W.loc (μ'++zBE zs w j).length,(μ'++zBE zs w j)++[((rowZ zs w j).map ratD).map .dat])) (zBX (zBX (zAV ((zKm (zNE t5)).trans (congrArg _ ((zKm (zNE t6)).trans (congrArg _ (zAV (zAV (zBX rfl))))))))) ) ?_).eq;refine zAQ ew (zAC (zBA (zAH rfl (zAH rfl ?_))));refine zAz (d:=zEw ((List.range (w+1)).map (fc zs j))) (zAo (by rw [getElem?_map,getElem?_range hj];rfl)) (n_cl (zAC (zBA (zAH rfl (zAH rfl ?_)))));refine zAz (d:=zEw ((List.range (w+1)).map (gc zs j))) (zAo (by rw [getElem?_map,getElem?_range hj];rfl)) (n_cl (zAi ?_));refine hw _ _ w zs.length (24*n+100) _ (by simp) (by simp) w2 zl zb (fun f hf=>?_) (fun f hf=>?_) ?_
          . obtain ⟨c,_,rfl⟩:=mem_map.mp hf;exact zSN pcs j c
          . obtain ⟨c,_,rfl⟩:=mem_map.mp hf;exact zSI (by omega) pcs j c
          . exact n_fr (zM1 (zLv _) rfl)
        . have:zBE zs w (j+1)=zBE zs w j++[((rowZ zs w j).map ratD).map .dat]:=by
            unfold zBE;rw [range_succ,map_append,map_map]
            rfl
          rw [this,append_assoc]
        . rw [zC7,lr]) ⟨none,by unfold zBE;rw [List.range_zero,map_nil,append_nil];rfl,rfl,zero_le _⟩
    have lw:((rngL 0 h).map W.dat).length=h:=by rw [length_map,zAZ]
    rw [lw] at p1 p2;subst p1;have e2:y=(news μ'.length h,μ'++zBE zs w h):=Prod.ext p2 p4.symm;refine ⟨y,N,e,by rw [p2,zB0];omega,?_⟩;rw [e2];have em:∃ γ:Mem,μ'=μ++γ:=by
      refine ⟨μ'.drop μ.length,?_⟩;have:μ=μ'.take μ.length:=by
        apply ext_getElem?;intro m;rw [List.getElem?_take];by_cases q:m < μ.length
        . rw [if_pos q];exact (m2 m q).symm
        . rw [if_neg q,getElem?_eq_none (by omega)]
      exact (List.take_append_drop μ.length μ').symm.trans (congrArg (fun l=>l++μ'.drop μ.length) this.symm)
    obtain ⟨γ,rfl⟩:=em;have q:=hQ γ;have lr:(μ++γ++zBE zs w h).length=(μ++γ).length+h:=by rw [length_append];unfold zBE;rw [length_map,length_range]
    show KFM Q (.rt (.loc (μ++γ++zBE zs w h).length,_));rw [lr];exact q
  . intro m hm;rw [append_assoc,append_assoc,getElem?_append_left hm]
  . rw [getElem?_append_right (le_refl _),sub_self];rfl
  . exact ta.app _
  . exact t2.app _
theorem zIu {α:Type}(f g:α->Rat):∀ l:List α,DM.sumR (l.map fun i=>f i+g i)=DM.sumR (l.map f)+DM.sumR (l.map g)
  | []=>by simp [DM.sumR,Rat.add_zero]
  | a::l=>by
    simp only [map_cons,DM.sumR,zIu f g l];grind
theorem zIr (P:Prop)[Decidable P](m:Int)(v:Rat)(hm:-1<=m):∀ k:Nat,DM.sumR ((List.range k).map fun (c:Nat)=>if P/\m+1=(c:Int) then v else 0)=if P/\m+1 < (k:Int) then v else 0
  | 0=>by
    rw [if_neg (by omega)]
    rfl
  | k+1=>by
    rw [range_succ,map_append,DM.zCy,zIr P m v hm k];simp only [map_cons,map_nil,DM.sumR,Rat.add_zero];by_cases hP:P
    . by_cases h1:m+1 < (k:Int)
      . rw [if_pos ⟨hP,h1⟩,if_neg (by omega),if_pos ⟨hP,by omega⟩,Rat.add_zero]
      . by_cases h2:m+1=(k:Int)
        . rw [if_neg (by omega),if_pos ⟨hP,h2⟩,if_pos ⟨hP,by omega⟩,Rat.zero_add]
        . rw [if_neg (by omega),if_neg (by omega),if_neg (by omega),Rat.add_zero]
    . rw [if_neg (fun q=>hP q.1),if_neg (fun q=>hP q.1),if_neg (fun q=>hP q.1),Rat.add_zero]
theorem zPu (z:Pc)(zs:List Pc)(r c:Nat):DM.sumR (fc (z::zs) r c)=(if z.r=(r:Int)/\z.c+1=(c:Int) then zCL z else 0)+DM.sumR (fc zs r c):=by
  unfold fc;rw [filter_cons];by_cases q:z.r=(r:Int)/\z.c+1=(c:Int)
  . rw [if_pos q,if_pos (by simp only [and_eq_true,decide_eq_true_eq];exact q),map_cons,DM.sumR]
  . rw [if_neg q,if_neg (by simp only [and_eq_true,decide_eq_true_eq];exact q),Rat.zero_add]
theorem zPm (z:Pc)(zs:List Pc)(r c:Nat):DM.sumR (gc (z::zs) r c)=(if z.r=(r:Int)/\z.c+1=(c:Int) then zCf z else 0)+DM.sumR (gc zs r c):=by
  unfold gc;rw [filter_cons];by_cases q:z.r=(r:Int)/\z.c+1=(c:Int)
  . rw [if_pos q,if_pos (by simp only [and_eq_true,decide_eq_true_eq];exact q),map_cons,DM.sumR]
  . rw [if_neg q,if_neg (by simp only [and_eq_true,decide_eq_true_eq];exact q),Rat.zero_add]
theorem zFh (r c:Nat):∀ zs:List Pc,(∀ z∈zs,-1<=z.c)->DM.sumR ((List.range (c+1)).map fun c'=>DM.sumR (fc zs r c'))+DM.sumR (gc zs r (c+1))=dueZ zs c r
  | [],_=>by
    have:∀ k:Nat,DM.sumR ((List.range k).map fun c'=>DM.sumR (fc [] r c'))=0:=fun k=>by
      induction k with
      | zero=>rfl
      | succ k ih=>rw [range_succ,map_append,DM.zCy,ih];simp [fc,DM.sumR,Rat.add_zero]
    rw [this];simp [gc,dueZ,DM.sumR,Rat.add_zero]
  | z::zs,hz=>by
    have ih:=zFh r c zs fun y hy=>hz y (mem_cons_of_mem _ hy)
    have hc:=hz z mem_cons_self;have e1:((List.range (c+1)).map fun c'=>DM.sumR (fc (z::zs) r c'))=(List.range (c+1)).map fun (c':Nat)=>(if z.r=(r:Int)/\z.c+1=(c':Int) then zCL z else 0)+DM.sumR (fc zs r c'):=map_congr_left fun c' _=>zPu z zs r c'
    rw [e1,zIu,zIr (z.r=(r:Int)) z.c (zCL z) hc,zPm];have ed:dueZ (z::zs) c r=dz c r z+dueZ zs c r:=by unfold dueZ;rw [map_cons,DM.sumR]
    rw [ed,<- ih];unfold dz;have i1:(z.r=(r:Int)/\z.c+1 < ((c+1:Nat):Int))<->(z.r=(r:Int)/\z.c < (c:Int)):=by omega
    have i2:(z.r=(r:Int)/\z.c+1=((c+1:Nat):Int))<->(z.r=(r:Int)/\z.c=(c:Int)):=by omega
    simp only [i1,i2];grind
theorem zFi {zs:List Pc}{w r c:Nat}(hz:∀ z∈zs,-1<=z.c)(hc:c < w):(rowZ zs w r)[c]?=some (dueZ zs c r):=by
  unfold rowZ zLY;rw [getElem?_map,getElem?_range hc,Option.map_some,<- zFh r c zs hz];congr 1;congr 1
  . unfold zDA;rw [<- List.map_take,List.take_range,Nat.min_eq_left (by omega),map_map]
    rfl
  . rw [getD_eq_getElem?_getD,getElem?_map,getElem?_range (by omega)]
    rfl
def tabT (zs:List Pc)(w h:Nat):D:=.lst ((List.range h).map fun r=>zBF (rowZ zs w r))
theorem zI2 (zs:List Pc)(w r:Nat):(rowZ zs w r).length=w:=by unfold rowZ zLY;rw [length_map,length_range]
abbrev Lp:=List (Nat×List D)
structure Ll (μ:Mem)(n:Nat)(l:Lp):Prop where
  top:μ[n]?=some (l.map fun p=>.loc p.1)
  row:∀ p∈l,μ[p.1]?=some (p.2.map .dat)
abbrev llD (l:Lp):D:=.lst (l.map fun p=>.lst p.2)
theorem Ll.dr {μ:Mem}{n:Nat}{l:Lp}(e:Ll μ n l):drW μ (.loc n)=some (llD l):=by
  unfold drW;rw [sbW];exact zGA e.top (zEv (fun p:Nat×List D=>p.1) (fun p=>.lst p.2) l fun p hp=>zEA (e.row p hp))
theorem Ll.keep {μ μ':Mem}{n:Nat}{l:Lp}(e:Ll μ n l)(k1:μ'[n]?=μ[n]?)(k2:∀ p∈l,μ'[p.1]?=μ[p.1]?):Ll μ' n l:=⟨by rw [k1];exact e.top,fun p hp=>by rw [k2 p hp];exact e.row p hp⟩
theorem Ll.app {μ:Mem}{n:Nat}{l:Lp}(e:Ll μ n l)(γ:Mem):Ll (μ++γ) n l:=⟨zAs e.top,fun p hp=>zAs (e.row p hp)⟩
theorem Ll.lt {μ:Mem}{n:Nat}{l:Lp}(e:Ll μ n l):n < μ.length/\∀ p∈l,p.1 < μ.length:=⟨(zzg e.top).1,fun p hp=>(zzg (e.row p hp)).1⟩
theorem zAI {μ:Mem}{δ:List (Option W)}{i:Nat}{w:W}{d:D}(e:δ[i]?=some (some w))(h:drW μ w=some d):(drS μ δ)[i]?=some (some (d,false)):=by
  unfold drS;rw [getElem?_map,e,Option.map_some,Option.bind_some,h]
  rfl
theorem zAX {μ:Mem}{d:D}:drW μ (.dat d)=some d:=by unfold drW;rw [sbW]
theorem zMo {μ:Mem}{n:Nat}{ds:List D}(e:μ[n]?=some (ds.map .dat)):drW μ (.loc n)=some (.lst ds):=by unfold drW;rw [sbW];exact zEA e
def zIN (m:Nat)(l:Lp):Lp:=(List.range l.length).map fun j=>(m+j,((l[j]?).getD (0,[])).2)
theorem zJf (m:Nat)(l:Lp):(zIN m l).map (fun p=>p.2)=l.map fun p=>p.2:=by
  unfold zIN;rw [map_map];apply ext_getElem?;intro i;rw [getElem?_map,getElem?_map];by_cases q:i < l.length
  . rw [getElem?_range q,getElem?_eq_getElem q];simp [getElem?_eq_getElem q]
  . rw [getElem?_eq_none (by rw [length_range];omega),getElem?_eq_none (by omega)]
    rfl
theorem zPD {l l':Lp}(h:l.map (fun p=>p.2)=l'.map fun p=>p.2):llD l=llD l':=by
  have a:∀ l:Lp,l.map (fun p=>D.lst p.2)=(l.map fun p=>p.2).map D.lst:=fun l=>by rw [map_map];rfl
  unfold llD;rw [a,a,h]
theorem zJb (ps:List Pt):noLs (ps.map ptD)=true:=by
  induction ps with
  | nil=>rfl
  | cons p ps ih =>
    show (noL (ptD p)&&noLs (ps.map ptD))=true;rw [ih]
    rfl
abbrev zFm (ps:List Pt):List W:=(ps.map ptD).map .dat
def lpR (m:Nat)(rs:List (List Pt)):Lp:=(List.range rs.length).map fun j=>(m+j,((rs[j]?).getD []).map ptD)
theorem zPB (m:Nat)(rs:List (List Pt)):llD (lpR m rs)=zAY rs:=by
  unfold llD lpR zAY;rw [map_map];congr 1;apply ext_getElem?;intro i;rw [getElem?_map,getElem?_map];by_cases q:i < rs.length
  . rw [getElem?_range q,getElem?_eq_getElem q];simp [getElem?_eq_getElem q,zBg]
  . rw [getElem?_eq_none (by rw [length_range];omega),getElem?_eq_none (by omega)]
    rfl
theorem zJu {m:Nat}{rs:List (List Pt)}{p:Nat×List D}(h:p∈lpR m rs):∃ j ps,rs[j]?=some ps/\p=(m+j,ps.map ptD):=by
  unfold lpR at h;obtain ⟨j,hj,rfl⟩:=mem_map.mp h;have hj:=mem_range.mp hj;exact ⟨j,rs[j],getElem?_eq_getElem hj,by rw [getElem?_eq_getElem hj];rfl⟩
theorem zJv (m:Nat)(rs:List (List Pt)):(lpR m rs).length=rs.length:=by unfold lpR;rw [length_map,length_range]
theorem zL2 (m:Nat)(rs:List (List Pt)):((lpR m rs).map fun p=>W.loc p.1)=news m rs.length:=by
  unfold lpR news;rw [map_map]
  rfl
def lpT (b:Nat)(zs:List Pc)(w h:Nat):Lp:=(List.range h).map fun r=>(b+r,(rowZ zs w r).map ratD)
theorem zTQ (b:Nat)(zs:List Pc)(w h:Nat):llD (lpT b zs w h)=tabT zs w h:=by unfold llD lpT tabT;rw [map_map];rfl
theorem zPA {b w h:Nat}{zs:List Pc}{p:Nat×List D}(hp:p∈lpT b zs w h):∃ r,r < h/\p=(b+r,(rowZ zs w r).map ratD):=by
  unfold lpT at hp;obtain ⟨r,hr,rfl⟩:=mem_map.mp hp;exact ⟨r,mem_range.mp hr,rfl⟩
theorem zDl (zs:List Pc)(w h:Nat):(zBE zs w h).length=h:=by unfold zBE;rw [length_map,length_range]
theorem zRb (μ:Mem)(zs:List Pc)(w h:Nat):Ll (μ++zBE zs w h++[news μ.length h]) (μ.length+h) (lpT μ.length zs w h):=by
  refine ⟨?_,fun p hp=>?_⟩
  . rw [getElem?_append_right (by rw [length_append,zDl];omega),length_append,zDl,sub_self];unfold lpT news;rw [map_map]
    rfl
  . obtain ⟨r,hr,rfl⟩:=zPA hp;dsimp only;rw [getElem?_append_left (by rw [length_append,zDl];omega),getElem?_append_right (by omega),Nat.add_sub_cancel_left];unfold zBE;rw [getElem?_map,getElem?_range hr,map_map]
    rfl
theorem zNk {Γ:Gm}{Δ:Dm}{nm:Str}{N n:Nat}{ms:List Nat}{src el:ME}{δ:List (Option W)}{μ0 μ:Mem}{l:Lp}{f:List D->List D}{Q:MR->Prop}(hs:EvP (evSrc Γ Δ src ⟨δ,μ0⟩) fun r=>r=(.live n,μ))(e:Ll μ n l)(hN:(mask none ms δ).length=N)(hl:l.length<=100)
    (he:∀ (γ:Mem) (p:Nat×List D),p∈l->(μ++γ)[p.1]?=some (p.2.map .dat)->EvP (evM Γ Δ el ⟨mask none ms δ++[some (.loc p.1)],μ++γ⟩) fun r=>r=(.loc (μ++γ).length,μ++γ++[(f p.2).map .dat]))
    (hQ:∀ (γ:Mem) (l':Lp),Ll (μ++γ) (μ.length+l.length) l'->(∀ p∈l',μ.length<=p.1)->l'.map (fun p=>p.2)=l.map (fun p=>f p.2)->Q (.loc (μ.length+l.length),μ++γ)) :
    EvP (evM Γ Δ (.comp N ms nm src el) ⟨δ,μ0⟩) Q:=by
  obtain ⟨r,er,rfl⟩:=hs;refine zFw ⟨_,er,?_⟩;obtain ⟨y,s',M,ey,⟨o,p1,p2,p3⟩,p4⟩:=zGE (t:=tgM N) (e:=evM Γ Δ el) (src:=.live n) (s:=⟨mask none ms δ++[none],μ⟩) (l.map fun p=>.loc p.1)
    (fun j s d=>∃ o:Option W,s=⟨mask none ms δ++[o],μ++(l.take j).map fun p=>(f p.2).map W.dat⟩/\d=news μ.length j/\j<=l.length) (fun j s d zy122=>by obtain ⟨o,p1,_,_⟩:=zy122;subst p1;exact zAs e.top) (fun j w s d ew zz105=>by
      obtain ⟨o,p1,p2,p3⟩:=zz105;subst p1 p2;rw [getElem?_map] at ew;obtain ⟨p,ep,rfl⟩:=map_eq_some_iff.mp ew;have hj:j < l.length:=(zzg ep).1;have mp:=mem_of_getElem? ep;have lm:(μ++(l.take j).map fun p=>(f p.2).map W.dat).length=μ.length+j:=by rw [length_append,length_map,length_take];omega
      refine ⟨by rw [zB0];omega,⟨mask none ms δ++[some (.loc p.1)],μ++(l.take j).map fun p=>(f p.2).map W.dat⟩,(.loc (μ++(l.take j).map fun p=>(f p.2).map W.dat).length,(μ++(l.take j).map fun p=>(f p.2).map W.dat)++[(f p.2).map .dat]),?_,(he _ p mp (zAs (e.row p mp))).eq,some (.loc p.1),?_,?_,by omega⟩
      . unfold tgM;dsimp only;rw [set_append_right _ _ (by omega),hN,sub_self]
        rfl
      . rw [take_add_one,ep,Option.toList_some,map_append,append_assoc];rfl
      . rw [zC7,lm]) ⟨none,by rw [take_zero,map_nil,append_nil],rfl,zero_le _⟩
  rw [length_map] at p1 p2;subst p1;rw [take_length] at p4;have e2:y=(news μ.length l.length,μ++l.map fun p=>(f p.2).map W.dat):=Prod.ext p2 p4.symm;refine ⟨y,M,ey,by rw [p2,zB0];omega,?_⟩;rw [e2];have lm:(μ++l.map fun p=>(f p.2).map W.dat).length=μ.length+l.length:=by rw [length_append,length_map]
  dsimp only;rw [lm,append_assoc];refine hQ _ ((zIN μ.length l).map fun p=>(p.1,f p.2)) ⟨?_,?_⟩ ?_ ?_
  . rw [<- append_assoc,getElem?_append_right (by rw [lm];exact le_refl _),lm,sub_self,map_map];unfold zIN news;rw [map_map]
    rfl
  . intro p hp;obtain ⟨p0,hp0,rfl⟩:=mem_map.mp hp;unfold zIN at hp0;obtain ⟨j,hj,rfl⟩:=mem_map.mp hp0;have hj:=mem_range.mp hj;dsimp only;rw [<- append_assoc,getElem?_append_left (by rw [lm];omega),getElem?_append_right (by omega),Nat.add_sub_cancel_left,getElem?_map,getElem?_eq_getElem hj]
    rfl
  . intro p hp;obtain ⟨p0,hp0,rfl⟩:=mem_map.mp hp;unfold zIN at hp0;obtain ⟨j,hj,rfl⟩:=mem_map.mp hp0;exact Nat.le_add_right _ _
  . rw [map_map];have:=congrArg (List.map f) (zJf μ.length l);rw [map_map,map_map] at this;exact this
end DL
end
open PySem L2 DL
local macro_rules | `(tactic| walk_at "f")=>`(tactic| exact ⟨rfl,rfl,rfl,by decide +kernel,rfl,by decide +kernel,by decide +kernel⟩)
section
namespace Q
open PySem L2 DL
def top (i:Nat):Stmt:=PySem.Challenge.pw_coverfill_k23_halved.main.body.getD i (.Pass ⟨0,0,0,0⟩)
def bs:List Str:=["abs","len","range","list","zip","reversed","max","isinstance","bool","int","tuple"]
def N0:List Str:=["one","other","rest"]
def P0:List Str:=["one","other"]
def b0:S:=.cons (.whl (.cmp .Gt (.var 1) (.int 0)) (.cons (.set 2 (.bin .Mod (.var 0) (.var 1))) (.cons (.set 0 (.var 1)) (.cons (.set 1 (.var 2)) .nil)))) (.cons (.ret (.var 0)) .nil)
theorem sc0:zAD N0 P0 (zAA (top 6)):=by (walk_at "f")
theorem ck0:cSs (zAA (top 6)) N0 bs b0 (zAB (top 6))=true:=by decide +kernel
def N1:List Str:=["top","bottom","measure"]
def P1:List Str:=["top","bottom"]
def b1:S:=.cons (.ife (.cmp .Eq (.var 1) (.int 0)) (.cons (.rse "NoRatio" (.str "the bottom of a ratio is not 0")) .nil) .nil) (.cons (.set 2 (.call 0 "common_measure" (.cons (.abs (.var 0)) (.cons (.abs (.var 1)) .nil)))) (.cons (.ife (.cmp .Lt (.var 1) (.int 0)) (.cons (.set 2 (.neg (.var 2))) .nil) .nil) (.cons (.ret (.tup (.cons (.bin .FloorDiv (.var 0) (.var 2)) (.cons (.bin .FloorDiv (.var 1) (.var 2)) .nil)))) .nil)))
theorem sc1:zAD N1 P1 (zAA (top 7)):=by (walk_at "f")
theorem ck1:cSs (zAA (top 7)) N1 bs b1 (zAB (top 7))=true:=by decide +kernel
def N2:List Str:=["one","other"]
def P2:List Str:=["one","other"]
def b2:S:=.cons (.ret (.call 1 "ratio" (.cons (.bin .Add (.bin .Mult (.ix (.var 0) (.int 0)) (.ix (.var 1) (.int 1))) (.bin .Mult (.ix (.var 1) (.int 0)) (.ix (.var 0) (.int 1)))) (.cons (.bin .Mult (.ix (.var 0) (.int 1)) (.ix (.var 1) (.int 1))) .nil)))) .nil
theorem sc2:zAD N2 P2 (zAA (top 8)):=by (walk_at "f")
theorem ck2:cSs (zAA (top 8)) N2 bs b2 (zAB (top 8))=true:=by decide +kernel
def N3:List Str:=["one","other"]
def P3:List Str:=["one","other"]
def b3:S:=.cons (.ret (.call 1 "ratio" (.cons (.bin .Sub (.bin .Mult (.ix (.var 0) (.int 0)) (.ix (.var 1) (.int 1))) (.bin .Mult (.ix (.var 1) (.int 0)) (.ix (.var 0) (.int 1)))) (.cons (.bin .Mult (.ix (.var 0) (.int 1)) (.ix (.var 1) (.int 1))) .nil)))) .nil
theorem sc3:zAD N3 P3 (zAA (top 9)):=by (walk_at "f")
theorem ck3:cSs (zAA (top 9)) N3 bs b3 (zAB (top 9))=true:=by decide +kernel
def N4:List Str:=["one","other"]
def P4:List Str:=["one","other"]
def b4:S:=.cons (.ret (.call 1 "ratio" (.cons (.bin .Mult (.ix (.var 0) (.int 0)) (.ix (.var 1) (.int 0))) (.cons (.bin .Mult (.ix (.var 0) (.int 1)) (.ix (.var 1) (.int 1))) .nil)))) .nil
theorem sc4:zAD N4 P4 (zAA (top 10)):=by (walk_at "f")
theorem ck4:cSs (zAA (top 10)) N4 bs b4 (zAB (top 10))=true:=by decide +kernel
def N5:List Str:=["one","other"]
def P5:List Str:=["one","other"]
def b5:S:=.cons (.ret (.call 1 "ratio" (.cons (.bin .Mult (.ix (.var 0) (.int 0)) (.ix (.var 1) (.int 1))) (.cons (.bin .Mult (.ix (.var 0) (.int 1)) (.ix (.var 1) (.int 0))) .nil)))) .nil
theorem sc5:zAD N5 P5 (zAA (top 11)):=by (walk_at "f")
theorem ck5:cSs (zAA (top 11)) N5 bs b5 (zAB (top 11))=true:=by decide +kernel
def N6:List Str:=["some","added"]
def P6:List Str:=["some"]
def b6:S:=.cons (.setC 1 (.comp1 2 [] "k" (.r3 (.int 0) (.bin .Sub (.len (.var 0)) (.int 1)) (.int 2)) .nil (.call 2 "plus" (.cons (.ix (.var 0) (.var 2)) (.cons (.ix (.var 0) (.bin .Add (.var 2) (.int 1))) .nil))))) (.cons (.ife (.cmp .Eq (.bin .Mod (.len (.var 0)) (.int 2)) (.int 1)) (.cons (.app 1 (.ix (.var 0) (.neg (.int 1)))) .nil) .nil) (.cons (.retOwn 1) .nil))
theorem sc6:zAD N6 P6 (zAA (top 12)):=by (walk_at "f")
theorem ck6:cSs (zAA (top 12)) N6 bs b6 (zAB (top 12))=true:=by decide +kernel
def N7:List Str:=["some","sums"]
def P7:List Str:=["some"]
def b7:S:=.cons (.set 1 (.list (.var 0))) (.cons (.whl (.cmp .Gt (.len (.var 1)) (.int 1)) (.frz 1 (.cons (.set 1 (.call 6 "neighbours_added" (.cons (.var 1) .nil))) .nil))) (.cons (.ret (.ite (.cmp .Eq (.len (.var 1)) (.int 1)) (.ix (.var 1) (.int 0)) (.glob 0 "NOUGHT"))) .nil))
theorem sc7:zAD N7 P7 (zAA (top 13)):=by (walk_at "f")
theorem ck7:cSs (zAA (top 13)) N7 bs b7 (zAB (top 13))=true:=by decide +kernel
def N8:List Str:=["one","other"]
def P8:List Str:=["one","other"]
def b8:S:=.cons (.ret (.cmp .Lt (.bin .Mult (.ix (.var 0) (.int 0)) (.ix (.var 1) (.int 1))) (.bin .Mult (.ix (.var 1) (.int 0)) (.ix (.var 0) (.int 1))))) .nil
theorem sc8:zAD N8 P8 (zAA (top 14)):=by (walk_at "f")
theorem ck8:cSs (zAA (top 14)) N8 bs b8 (zAB (top 14))=true:=by decide +kernel
def N9:List Str:=["one"]
def P9:List Str:=["one"]
def b9:S:=.cons (.ret (.bin .FloorDiv (.ix (.var 0) (.int 0)) (.ix (.var 0) (.int 1)))) .nil
theorem sc9:zAD N9 P9 (zAA (top 15)):=by (walk_at "f")
theorem ck9:cSs (zAA (top 15)) N9 bs b9 (zAB (top 15))=true:=by decide +kernel
def N10:List Str:=["shape","change"]
def P10:List Str:=["shape","change"]
def mb10:MT:=.cons (.ret (.comp 2 [] "ring" (.it (.var 0)) (.comp 3 [] "point" (.it (.var 2)) (.pur (.callv 1 (.var 3)))))) .nil
theorem zTO:cSs' (zAA (top 17)) N10 bs mb10 (zAB (top 17))=true:=by decide +kernel
theorem sc10:zAD N10 P10 (zAA (top 17)):=by (walk_at "f")
def N11:List Str:=["shape","by"]
def P11:List Str:=["shape","by"]
theorem sc11:zAD N11 P11 (zAA (top 18)):=by (walk_at "f")
def N12:List Str:=["ring"]
def P12:List Str:=["ring"]
def b12:S:=.cons (.ret (.lzip (.var 0) (.bin .Add (.sl (.var 0) (.cons (.int 1) .nil) .nil) (.sl (.var 0) .nil (.cons (.int 1) .nil))))) .nil
theorem sc12:zAD N12 P12 (zAA (top 20)):=by (walk_at "f")
theorem ck12:cSs (zAA (top 20)) N12 bs b12 (zAB (top 20))=true:=by decide +kernel
def N13:List Str:=["start","end","last"]
def P13:List Str:=["start","end","last"]
def b13:S:=.cons (.ife (.call 8 "under" (.cons (.var 1) (.cons (.var 0) .nil))) (.cons (.ret (.lrev (.call 13 "numbers_between" (.cons (.var 1) (.cons (.var 0) (.cons (.var 2) .nil)))))) .nil) .nil) (.cons (.ret (.comp1 3 [] "number" (.r1 (.bin .Add (.var 2) (.int 1))) (.cons (.andl (.cons (.call 8 "under" (.cons (.var 0) (.cons (.tup (.cons (.var 3) (.cons (.int 1) .nil))) .nil))) (.cons (.call 8 "under" (.cons (.tup (.cons (.var 3) (.cons (.int 1) .nil))) (.cons (.var 1) .nil))) .nil))) .nil) (.var 3))) .nil)
theorem sc13:zAD N13 P13 (zAA (top 22)):=by (walk_at "f")
theorem ck13:cSs (zAA (top 22)) N13 bs b13 (zAB (top 22))=true:=by decide +kernel
def N14:List Str:=["numbers","start","end","rest","rest_end","slope"]
def P14:List Str:=["numbers","start","end","rest","rest_end"]
def b14:S:=.cons (.ife (.cmp .Eq (.len (.var 0)) (.int 0)) (.cons (.ret (.lst .nil)) .nil) .nil) (.cons (.set 5 (.call 5 "parted" (.cons (.call 3 "minus" (.cons (.var 4) (.cons (.var 3) .nil))) (.cons (.call 3 "minus" (.cons (.var 2) (.cons (.var 1) .nil))) .nil)))) (.cons (.ret (.comp1 6 [] "number" (.it (.var 0)) .nil (.call 2 "plus" (.cons (.var 3) (.cons (.call 4 "times" (.cons (.var 5) (.cons (.call 3 "minus" (.cons (.tup (.cons (.var 6) (.cons (.int 1) .nil))) (.cons (.var 1) .nil))) .nil))) .nil))))) .nil))
theorem sc14:zAD N14 P14 (zAA (top 23)):=by (walk_at "f")
theorem ck14:cSs (zAA (top 23)) N14 bs b14 (zAB (top 23))=true:=by decide +kernel
def N15:List Str:=["side","width","start","end","numbers","heights"]
def P15:List Str:=["side","width"]
def b15:S:=.cons (.set 2 (.ix (.var 0) (.int 0))) (.cons (.set 3 (.ix (.var 0) (.int 1))) (.cons (.set 4 (.call 13 "numbers_between" (.cons (.ix (.var 2) (.int 0)) (.cons (.ix (.var 3) (.int 0)) (.cons (.var 1) .nil))))) (.frz 4 (.cons (.set 5 (.call 14 "rests_at" (.cons (.var 4) (.cons (.ix (.var 2) (.int 0)) (.cons (.ix (.var 3) (.int 0)) (.cons (.ix (.var 2) (.int 1)) (.cons (.ix (.var 3) (.int 1)) .nil))))))) (.frz 4 (.frz 5 (.cons (.ret (.comp1 6 [] "k" (.r1 (.len (.var 4))) .nil (.tup (.cons (.tup (.cons (.ix (.var 4) (.var 6)) (.cons (.int 1) .nil))) (.cons (.ix (.var 5) (.var 6)) .nil))))) .nil)))))))
theorem sc15:zAD N15 P15 (zAA (top 24)):=by (walk_at "f")
theorem ck15:cSs (zAA (top 24)) N15 bs b15 (zAB (top 24))=true:=by decide +kernel
def N16:List Str:=["side","height","start","end","numbers","widths"]
def P16:List Str:=["side","height"]
def b16:S:=.cons (.set 2 (.ix (.var 0) (.int 0))) (.cons (.set 3 (.ix (.var 0) (.int 1))) (.cons (.set 4 (.call 13 "numbers_between" (.cons (.ix (.var 2) (.int 1)) (.cons (.ix (.var 3) (.int 1)) (.cons (.var 1) .nil))))) (.frz 4 (.cons (.set 5 (.call 14 "rests_at" (.cons (.var 4) (.cons (.ix (.var 2) (.int 1)) (.cons (.ix (.var 3) (.int 1)) (.cons (.ix (.var 2) (.int 0)) (.cons (.ix (.var 3) (.int 0)) .nil))))))) (.frz 4 (.frz 5 (.cons (.ret (.comp1 6 [] "k" (.r1 (.len (.var 4))) .nil (.tup (.cons (.ix (.var 5) (.var 6)) (.cons (.tup (.cons (.ix (.var 4) (.var 6)) (.cons (.int 1) .nil))) .nil))))) .nil)))))))
theorem sc16:zAD N16 P16 (zAA (top 25)):=by (walk_at "f")
theorem ck16:cSs (zAA (top 25)) N16 bs b16 (zAB (top 25))=true:=by decide +kernel
def N17:List Str:=["one","other","to_the_right"]
def P17:List Str:=["one","other","to_the_right"]
def b17:S:=.cons (.ife (.var 2) (.cons (.ret (.call 8 "under" (.cons (.ix (.var 0) (.int 0)) (.cons (.ix (.var 1) (.int 0)) .nil)))) .nil) .nil) (.cons (.ret (.call 8 "under" (.cons (.ix (.var 1) (.int 0)) (.cons (.ix (.var 0) (.int 0)) .nil)))) .nil)
theorem sc17:zAD N17 P17 (zAA (top 26)):=by (walk_at "f")
theorem ck17:cSs (zAA (top 26)) N17 bs b17 (zAB (top 26))=true:=by decide +kernel
def N18:List Str:=["some","others","to_the_right","points","k","point"]
def P18:List Str:=["some","others","to_the_right"]
def b18:S:=.cons (.set 3 (.lst .nil)) (.cons (.set 4 (.int 0)) (.cons (.for1 5 (.it (.var 0)) (.cons (.whl (.andl (.cons (.cmp .Lt (.var 4) (.len (.var 1))) (.cons (.call 17 "comes_ahead" (.cons (.ix (.var 1) (.var 4)) (.cons (.var 5) (.cons (.var 2) .nil)))) .nil))) (.cons (.app 3 (.ix (.var 1) (.var 4))) (.cons (.aug .Add 4 (.int 1)) .nil))) (.cons (.ife (.andl (.cons (.cmp .Lt (.var 4) (.len (.var 1))) (.cons (.cmp .Eq (.ix (.var 1) (.var 4)) (.var 5)) .nil))) (.cons (.aug .Add 4 (.int 1)) .nil) .nil) (.cons (.app 3 (.var 5)) .nil)))) (.cons (.ret (.bin .Add (.var 3) (.sl (.var 1) (.cons (.var 4) .nil) .nil))) .nil)))
theorem sc18:zAD N18 P18 (zAA (top 27)):=by (walk_at "f")
theorem ck18:cSs (zAA (top 27)) N18 bs b18 (zAB (top 27))=true:=by decide +kernel
def N19:List Str:=["width","height","side","start","end","crossed"]
def P19:List Str:=["width","height","side"]
def b19:S:=.cons (.set 3 (.ix (.var 2) (.int 0))) (.cons (.set 4 (.ix (.var 2) (.int 1))) (.cons (.set 5 (.call 18 "made_one" (.cons (.call 15 "upright_crossings" (.cons (.var 2) (.cons (.var 0) .nil))) (.cons (.call 16 "level_crossings" (.cons (.var 2) (.cons (.var 1) .nil))) (.cons (.call 8 "under" (.cons (.ix (.var 3) (.int 0)) (.cons (.ix (.var 4) (.int 0)) .nil))) .nil))))) (.frz 4 (.frz 3 (.cons (.ret (.bin .Add (.bin .Add (.lst (.cons (.var 3) .nil)) (.var 5)) (.lst (.cons (.var 4) .nil)))) .nil)))))
theorem sc19:zAD N19 P19 (zAA (top 28)):=by (walk_at "f")
theorem ck19:cSs (zAA (top 28)) N19 bs b19 (zAB (top 28))=true:=by decide +kernel
def N20:List Str:=["one","other"]
def P20:List Str:=["one","other"]
def b20:S:=.cons (.ret (.call 4 "times" (.cons (.glob 1 "HALF") (.cons (.call 2 "plus" (.cons (.var 0) (.cons (.var 1) .nil))) .nil)))) .nil
theorem sc20:zAD N20 P20 (zAA (top 29)):=by (walk_at "f")
theorem ck20:cSs (zAA (top 29)) N20 bs b20 (zAB (top 29))=true:=by decide +kernel
def N21:List Str:=["start","end","column","row"]
def P21:List Str:=["start","end"]
def b21:S:=.cons (.set 2 (.call 9 "whole_part" (.cons (.call 20 "middle" (.cons (.ix (.var 0) (.int 0)) (.cons (.ix (.var 1) (.int 0)) .nil))) .nil))) (.cons (.set 3 (.call 9 "whole_part" (.cons (.call 20 "middle" (.cons (.ix (.var 0) (.int 1)) (.cons (.ix (.var 1) (.int 1)) .nil))) .nil))) (.cons (.ret (.tup (.cons (.max (.var 2) (.neg (.int 1))) (.cons (.var 3) (.cons (.var 0) (.cons (.var 1) .nil)))))) .nil))
theorem sc21:zAD N21 P21 (zAA (top 30)):=by (walk_at "f")
theorem ck21:cSs (zAA (top 30)) N21 bs b21 (zAB (top 30))=true:=by decide +kernel
def N22:List Str:=["width","height","piece"]
def P22:List Str:=["width","height","piece"]
def b22:S:=.cons (.ret (.andl (.cons (.cmp .Lt (.ix (.var 2) (.int 0)) (.var 0)) (.cons (.chn .LtE .Lt (.int 0) (.ix (.var 2) (.int 1)) (.var 1)) .nil)))) .nil
theorem sc22:zAD N22 P22 (zAA (top 31)):=by (walk_at "f")
theorem ck22:cSs (zAA (top 31)) N22 bs b22 (zAB (top 31))=true:=by decide +kernel
def N23:List Str:=["width","height","side","points","parts"]
def P23:List Str:=["width","height","side"]
def b23:S:=.cons (.ife (.cmp .Eq (.ix (.var 2) (.int 0)) (.ix (.var 2) (.int 1))) (.cons (.ret (.lst .nil)) .nil) .nil) (.cons (.set 3 (.call 19 "stops" (.cons (.var 0) (.cons (.var 1) (.cons (.var 2) .nil))))) (.frz 3 (.cons (.setC 4 (.comp1 5 [] "k" (.r1 (.bin .Sub (.len (.var 3)) (.int 1))) .nil (.call 21 "piece_between" (.cons (.ix (.var 3) (.var 5)) (.cons (.ix (.var 3) (.bin .Add (.var 5) (.int 1))) .nil))))) (.frz 4 (.cons (.ret (.comp1 5 [] "part" (.it (.var 4)) (.cons (.call 22 "counts_on" (.cons (.var 0) (.cons (.var 1) (.cons (.var 5) .nil)))) .nil) (.var 5))) .nil)))))
theorem sc23:zAD N23 P23 (zAA (top 32)):=by (walk_at "f")
theorem ck23:cSs (zAA (top 32)) N23 bs b23 (zAB (top 32))=true:=by decide +kernel
def N24:List Str:=["piece"]
def P24:List Str:=["piece"]
def b24:S:=.cons (.ret (.call 3 "minus" (.cons (.ix (.ix (.var 0) (.int 2)) (.int 1)) (.cons (.ix (.ix (.var 0) (.int 3)) (.int 1)) .nil)))) .nil
theorem sc24:zAD N24 P24 (zAA (top 33)):=by (walk_at "f")
theorem ck24:cSs (zAA (top 33)) N24 bs b24 (zAB (top 33))=true:=by decide +kernel
def N25:List Str:=["piece","column"]
def P25:List Str:=["piece"]
def b25:S:=.cons (.set 1 (.ix (.var 0) (.int 0))) (.cons (.ife (.cmp .Eq (.var 1) (.neg (.int 1))) (.cons (.ret (.glob 0 "NOUGHT")) .nil) .nil) (.cons (.ret (.call 4 "times" (.cons (.call 24 "fall" (.cons (.var 0) .nil)) (.cons (.call 3 "minus" (.cons (.tup (.cons (.bin .Add (.var 1) (.int 1)) (.cons (.int 1) .nil))) (.cons (.call 20 "middle" (.cons (.ix (.ix (.var 0) (.int 2)) (.int 0)) (.cons (.ix (.ix (.var 0) (.int 3)) (.int 0)) .nil))) .nil))) .nil)))) .nil))
theorem sc25:zAD N25 P25 (zAA (top 34)):=by (walk_at "f")
theorem ck25:cSs (zAA (top 34)) N25 bs b25 (zAB (top 34))=true:=by decide +kernel
def N26:List Str:=["count"]
def P26:List Str:=["count"]
def mb26:MT:=.cons (.ret (.comp 1 [] "k" (.rng (.var 0)) (.lst .nil))) .nil
theorem zTN:cSs' (zAA (top 36)) N26 bs mb26 (zAB (top 36))=true:=by decide +kernel
def b26:S:=.cons (.ret (.comp1 1 [] "k" (.r1 (.var 0)) .nil (.lst .nil))) .nil
theorem sc26:zAD N26 P26 (zAA (top 36)):=by (walk_at "f")
theorem ck26:cSs (zAA (top 36)) N26 bs b26 (zAB (top 36))=true:=by decide +kernel
def N27:List Str:=["width","height","shape","found","ring","side"]
def P27:List Str:=["width","height","shape"]
def b27:S:=.cons (.set 3 (.lst .nil)) (.cons (.for1 4 (.it (.var 2)) (.cons (.for1 5 (.it (.call 12 "sides" (.cons (.var 4) .nil))) (.cons (.ext 3 (.call 23 "pieces" (.cons (.var 0) (.cons (.var 1) (.cons (.var 5) .nil))))) .nil)) .nil)) (.cons (.retOwn 3) .nil))
theorem sc27:zAD N27 P27 (zAA (top 37)):=by (walk_at "f")
theorem ck27:cSs (zAA (top 37)) N27 bs b27 (zAB (top 37))=true:=by decide +kernel
def N28:List Str:=["falls","rights","told","fallen","column"]
def P28:List Str:=["falls","rights"]
def b28:S:=.cons (.set 2 (.lst .nil)) (.cons (.set 3 (.glob 0 "NOUGHT")) (.cons (.for1 4 (.r1 (.bin .Sub (.len (.var 0)) (.int 1))) (.cons (.set 3 (.call 2 "plus" (.cons (.var 3) (.cons (.call 7 "total" (.cons (.ix (.var 0) (.var 4)) .nil)) .nil)))) (.cons (.app 2 (.call 2 "plus" (.cons (.var 3) (.cons (.call 7 "total" (.cons (.ix (.var 1) (.bin .Add (.var 4) (.int 1))) .nil)) .nil)))) .nil))) (.cons (.retOwn 2) .nil)))
theorem sc28:zAD N28 P28 (zAA (top 38)):=by (walk_at "f")
theorem ck28:cSs (zAA (top 38)) N28 bs b28 (zAB (top 38))=true:=by decide +kernel
def N29:List Str:=["width","height","shape","falls","rights","piece","place"]
def P29:List Str:=["width","height","shape"]
def mb29:MT:=.cons (.setC 3 (.comp 7 [] "row" (.rng (.var 1)) (.call 3 "empty_lists" (.cons (.pur (.bin .Add (.var 0) (.int 1))) .nil)))) (.cons (.setC 4 (.comp 7 [] "row" (.rng (.var 1)) (.call 3 "empty_lists" (.cons (.pur (.bin .Add (.var 0) (.int 1))) .nil)))) (.cons (.for1 5 (.it (.pur (.call 27 "all_pieces" (.cons (.var 0) (.cons (.var 1) (.cons (.var 2) .nil)))))) (.cons (.set 6 (.pur (.bin .Add (.ix (.var 5) (.int 0)) (.int 1)))) (.cons (.app (.ix (.ix (.var 3) (.ix (.var 5) (.pur (.int 1)))) (.var 6)) (.pur (.call 24 "fall" (.cons (.var 5) .nil)))) (.cons (.app (.ix (.ix (.var 4) (.ix (.var 5) (.pur (.int 1)))) (.var 6)) (.pur (.call 25 "right" (.cons (.var 5) .nil)))) .nil)))) (.cons (.ret (.comp 7 [] "row" (.rng (.var 1)) (.pur (.call 28 "row_of_shares" (.cons (.ix (.var 3) (.var 7)) (.cons (.ix (.var 4) (.var 7)) .nil)))))) .nil)))
theorem zTM:cSs' (zAA (top 39)) N29 bs mb29 (zAB (top 39))=true:=by decide +kernel
theorem sc29:zAD N29 P29 (zAA (top 39)):=by (walk_at "f")
def N30:List Str:=["_law_script","_law_k","_law_seed","_law_some"]
def P30:List Str:=["_law_script","_law_k"]
def b30:S:=.cons (.ife (.cmp .Lt (.var 1) (.len (.var 0))) (.cons (.ret (.ix (.var 0) (.var 1))) .nil) .nil) (.cons (.set 2 (.bin .Mult (.var 1) (.int 7919))) (.cons (.ife (.cmp .Gt (.len (.var 0)) (.int 0)) (.cons (.set 2 (.bin .Add (.var 2) (.bin .Mod (.ix (.var 0) (.bin .Mod (.var 1) (.len (.var 0)))) (.int 65537)))) .nil) .nil) (.cons (.set 3 (.bin .Mod (.bin .Mult (.var 2) (.int 48271)) (.int 65537))) (.cons (.ret (.bin .Mod (.bin .FloorDiv (.bin .Mult (.var 3) (.bin .Add (.bin .Add (.var 3) (.bin .Mult (.int 2) (.var 1))) (.int 1))) (.int 7)) (.int 65521))) .nil))))
theorem sc30:zAD N30 P30 (zAA (top 41)):=by (walk_at "f")
theorem ck30:cSs (zAA (top 41)) N30 bs b30 (zAB (top 41))=true:=by decide +kernel
def N31:List Str:=["_law_found"]
def P31:List Str:=["_law_found"]
def b31:S:=.cons (.ret (.andl (.cons (.isi .int (.var 0)) (.cons (.not (.isi .bool (.var 0))) .nil)))) .nil
theorem sc31:zAD N31 P31 (zAA (top 42)):=by (walk_at "f")
theorem ck31:cSs (zAA (top 42)) N31 bs b31 (zAB (top 42))=true:=by decide +kernel
def N32:List Str:=["_law_one","_law_other","_law_rest"]
def P32:List Str:=["_law_one","_law_other"]
def b32:S:=.cons (.whl (.cmp .Gt (.var 1) (.int 0)) (.cons (.set 2 (.bin .Mod (.var 0) (.var 1))) (.cons (.set 0 (.var 1)) (.cons (.set 1 (.var 2)) .nil)))) (.cons (.ret (.var 0)) .nil)
theorem sc32:zAD N32 P32 (zAA (top 43)):=by (walk_at "f")
theorem ck32:cSs (zAA (top 43)) N32 bs b32 (zAB (top 43))=true:=by decide +kernel
def N33:List Str:=["_law_found","_law_top","_law_bottom"]
def P33:List Str:=["_law_found","_law_top","_law_bottom"]
def b33:S:=.cons (.ife (.orl (.cons (.not (.isi .tuple (.var 0))) (.cons (.cmp .NotEq (.len (.var 0)) (.int 2)) .nil))) (.cons (.ret (.bl false)) .nil) .nil) (.cons (.ife (.orl (.cons (.not (.call 31 "_law_whole" (.cons (.ix (.var 0) (.int 0)) .nil))) (.cons (.not (.call 31 "_law_whole" (.cons (.ix (.var 0) (.int 1)) .nil))) (.cons (.cmp .Lt (.ix (.var 0) (.int 1)) (.int 1)) .nil)))) (.cons (.ret (.bl false)) .nil) .nil) (.cons (.ret (.andl (.cons (.cmp .Eq (.bin .Mult (.ix (.var 0) (.int 0)) (.var 2)) (.bin .Mult (.var 1) (.ix (.var 0) (.int 1)))) (.cons (.cmp .Eq (.call 32 "_law_most" (.cons (.abs (.ix (.var 0) (.int 0))) (.cons (.ix (.var 0) (.int 1)) .nil))) (.int 1)) .nil)))) .nil))
theorem sc33:zAD N33 P33 (zAA (top 44)):=by (walk_at "f")
theorem ck33:cSs (zAA (top 44)) N33 bs b33 (zAB (top 44))=true:=by decide +kernel
def N34:List Str:=["_law_top","_law_bottom","_law_most_here"]
def P34:List Str:=["_law_top","_law_bottom"]
def b34:S:=.cons (.set 2 (.call 32 "_law_most" (.cons (.abs (.var 0)) (.cons (.abs (.var 1)) .nil)))) (.cons (.ife (.cmp .Lt (.var 1) (.int 0)) (.cons (.set 2 (.neg (.var 2))) .nil) .nil) (.cons (.ret (.tup (.cons (.bin .FloorDiv (.var 0) (.var 2)) (.cons (.bin .FloorDiv (.var 1) (.var 2)) .nil)))) .nil))
theorem sc34:zAD N34 P34 (zAA (top 45)):=by (walk_at "f")
theorem ck34:cSs (zAA (top 45)) N34 bs b34 (zAB (top 45))=true:=by decide +kernel
def N35:List Str:=["_law_cell_here"]
def P35:List Str:=["_law_cell_here"]
def b35:S:=.cons (.ife (.cmp .Eq (.bin .Mod (.var 0) (.int 16)) (.int 15)) (.cons (.ret (.tup (.cons (.bin .Sub (.bin .Mod (.bin .FloorDiv (.var 0) (.int 16)) (.bin .Mult (.int 2) (.bin .Pow (.int 10) (.int 9)))) (.bin .Pow (.int 10) (.int 9))) (.cons (.int 1) .nil)))) .nil) .nil) (.cons (.ret (.call 34 "_law_ratio" (.cons (.bin .Sub (.bin .Mod (.bin .FloorDiv (.var 0) (.int 16)) (.int 19)) (.int 5)) (.cons (.bin .Add (.int 1) (.bin .Mod (.bin .FloorDiv (.var 0) (.int 304)) (.int 3))) .nil)))) .nil)
theorem sc35:zAD N35 P35 (zAA (top 46)):=by (walk_at "f")
theorem ck35:cSs (zAA (top 46)) N35 bs b35 (zAB (top 46))=true:=by decide +kernel
def N36:List Str:=["_law_script","_law_at","_law_many","_law_ring_here","_law_k","_law_x","_law_y"]
def P36:List Str:=["_law_script","_law_at","_law_many"]
def b36:S:=.cons (.set 3 (.lst .nil)) (.cons (.for1 4 (.r1 (.var 2)) (.cons (.set 5 (.call 35 "_law_number" (.cons (.call 30 "_law_cell" (.cons (.var 0) (.cons (.bin .Add (.var 1) (.bin .Mult (.int 2) (.var 4))) .nil))) .nil))) (.cons (.set 6 (.call 35 "_law_number" (.cons (.call 30 "_law_cell" (.cons (.var 0) (.cons (.bin .Add (.bin .Add (.var 1) (.bin .Mult (.int 2) (.var 4))) (.int 1)) .nil))) .nil))) (.cons (.app 3 (.tup (.cons (.var 5) (.cons (.var 6) .nil)))) .nil)))) (.cons (.retOwn 3) .nil))
theorem sc36:zAD N36 P36 (zAA (top 47)):=by (walk_at "f")
theorem ck36:cSs (zAA (top 47)) N36 bs b36 (zAB (top 47))=true:=by decide +kernel
def N37:List Str:=["_law_script","_law_at","_law_sizes","_law_shape_here","_law_k"]
def P37:List Str:=["_law_script","_law_at"]
def mb37:MT:=.cons (.set 2 (.pur (.call 30 "_law_cell" (.cons (.var 0) (.cons (.var 1) .nil))))) (.cons (.set 3 (.lst .nil)) (.cons (.for1 4 (.rng (.pur (.bin .Mod (.var 2) (.int 3)))) (.cons (.app (.var 3) (.pur (.call 36 "_law_ring" (.cons (.var 0) (.cons (.bin .Add (.bin .Add (.var 1) (.int 1)) (.bin .Mult (.int 8) (.var 4))) (.cons (.ix (.lst (.cons (.int 3) (.cons (.int 4) (.cons (.int 2) (.cons (.int 3) (.cons (.int 4) (.cons (.int 1) (.cons (.int 0) .nil)))))))) (.bin .Mod (.bin .FloorDiv (.var 2) (.int 3)) (.int 7))) .nil)))))) (.cons (.set 2 (.pur (.bin .FloorDiv (.var 2) (.int 7)))) .nil))) (.cons (.ret (.var 3)) .nil)))
theorem zTL:cSs' (zAA (top 48)) N37 bs mb37 (zAB (top 48))=true:=by decide +kernel
theorem sc37:zAD N37 P37 (zAA (top 48)):=by (walk_at "f")
def N38:List Str:=["_law_one","_law_other"]
def P38:List Str:=["_law_one","_law_other"]
def b38:S:=.cons (.ret (.call 34 "_law_ratio" (.cons (.bin .Add (.bin .Mult (.ix (.var 0) (.int 0)) (.ix (.var 1) (.int 1))) (.bin .Mult (.ix (.var 1) (.int 0)) (.ix (.var 0) (.int 1)))) (.cons (.bin .Mult (.ix (.var 0) (.int 1)) (.ix (.var 1) (.int 1))) .nil)))) .nil
theorem sc38:zAD N38 P38 (zAA (top 49)):=by (walk_at "f")
theorem ck38:cSs (zAA (top 49)) N38 bs b38 (zAB (top 49))=true:=by decide +kernel
def N39:List Str:=["_law_one","_law_other"]
def P39:List Str:=["_law_one","_law_other"]
def b39:S:=.cons (.ret (.call 34 "_law_ratio" (.cons (.bin .Mult (.ix (.var 0) (.int 0)) (.ix (.var 1) (.int 0))) (.cons (.bin .Mult (.ix (.var 0) (.int 1)) (.ix (.var 1) (.int 1))) .nil)))) .nil
theorem sc39:zAD N39 P39 (zAA (top 51)):=by (walk_at "f")
theorem ck39:cSs (zAA (top 51)) N39 bs b39 (zAB (top 51))=true:=by decide +kernel
def N40:List Str:=["_law_found","_law_width","_law_height","_law_line","_law_one"]
def P40:List Str:=["_law_found","_law_width","_law_height"]
def b40:S:=.cons (.ife (.orl (.cons (.not (.isi .list (.var 0))) (.cons (.cmp .NotEq (.len (.var 0)) (.var 2)) .nil))) (.cons (.ret (.bl false)) .nil) .nil) (.cons (.for1 3 (.it (.var 0)) (.cons (.ife (.orl (.cons (.not (.isi .list (.var 3))) (.cons (.cmp .NotEq (.len (.var 3)) (.var 1)) .nil))) (.cons (.ret (.bl false)) .nil) .nil) (.cons (.for1 4 (.it (.var 3)) (.cons (.ife (.orl (.cons (.not (.isi .tuple (.var 4))) (.cons (.cmp .NotEq (.len (.var 4)) (.int 2)) (.cons (.not (.call 33 "_law_is" (.cons (.var 4) (.cons (.ix (.var 4) (.int 0)) (.cons (.ix (.var 4) (.int 1)) .nil))))) .nil)))) (.cons (.ret (.bl false)) .nil) .nil) .nil)) .nil))) (.cons (.ret (.bl true)) .nil))
theorem sc40:zAD N40 P40 (zAA (top 52)):=by (walk_at "f")
theorem ck40:cSs (zAA (top 52)) N40 bs b40 (zAB (top 52))=true:=by decide +kernel
def N41:List Str:=["_law_found","_law_due","_law_k","_law_j","_law_point","_law_at"]
def P41:List Str:=["_law_found","_law_due"]
def b41:S:=.cons (.ife (.orl (.cons (.not (.isi .list (.var 0))) (.cons (.cmp .NotEq (.len (.var 0)) (.len (.var 1))) .nil))) (.cons (.ret (.bl false)) .nil) .nil) (.cons (.for1 2 (.r1 (.len (.var 1))) (.cons (.ife (.orl (.cons (.not (.isi .list (.ix (.var 0) (.var 2)))) (.cons (.cmp .NotEq (.len (.ix (.var 0) (.var 2))) (.len (.ix (.var 1) (.var 2)))) .nil))) (.cons (.ret (.bl false)) .nil) .nil) (.cons (.for1 3 (.r1 (.len (.ix (.var 1) (.var 2)))) (.cons (.set 4 (.ix (.ix (.var 0) (.var 2)) (.var 3))) (.cons (.ife (.orl (.cons (.not (.isi .tuple (.var 4))) (.cons (.cmp .NotEq (.len (.var 4)) (.int 2)) .nil))) (.cons (.ret (.bl false)) .nil) .nil) (.cons (.for1 5 (.r1 (.int 2)) (.cons (.ife (.not (.call 33 "_law_is" (.cons (.ix (.var 4) (.var 5)) (.cons (.ix (.ix (.ix (.ix (.var 1) (.var 2)) (.var 3)) (.var 5)) (.int 0)) (.cons (.ix (.ix (.ix (.ix (.var 1) (.var 2)) (.var 3)) (.var 5)) (.int 1)) .nil))))) (.cons (.ret (.bl false)) .nil) .nil) .nil)) .nil)))) .nil))) (.cons (.ret (.bl true)) .nil))
theorem sc41:zAD N41 P41 (zAA (top 53)):=by (walk_at "f")
theorem ck41:cSs (zAA (top 53)) N41 bs b41 (zAB (top 53))=true:=by decide +kernel
def N42:List Str:=["_law_shape_here","_law_by"]
def P42:List Str:=["_law_shape_here","_law_by"]
def b42:S:=.cons (.ret (.comp1 2 [] "_law_ring_here" (.it (.var 0)) .nil (.comp2 3 [] "_law_x" "_law_y" (.it (.var 2)) .nil (.tup (.cons (.call 39 "_law_times" (.cons (.var 3) (.cons (.var 1) .nil))) (.cons (.call 39 "_law_times" (.cons (.var 4) (.cons (.var 1) .nil))) .nil)))))) .nil
theorem sc42:zAD N42 P42 (zAA (top 54)):=by (walk_at "f")
theorem ck42:cSs (zAA (top 54)) N42 bs b42 (zAB (top 54))=true:=by decide +kernel
def N43:List Str:=["_law_script","_law_width","_law_height","_law_shape_here","_law_handed","_law_by","_law_one","_law_found","_law_ring_here","_law_half","_law_small","_law_large","_law_j","_law_i","_law_some","_law_row"]
def P43:List Str:=["_law_script"]
def mb43:MT:=.cons (.set 1 (.pur (.bin .Add (.int 1) (.bin .Mod (.call 30 "_law_cell" (.cons (.var 0) (.cons (.int 0) .nil))) (.int 2))))) (.cons (.set 2 (.pur (.bin .Add (.int 1) (.bin .Mod (.bin .FloorDiv (.call 30 "_law_cell" (.cons (.var 0) (.cons (.int 0) .nil))) (.int 2)) (.int 2))))) (.cons (.set 3 (.call 5 "_law_shape" (.cons (.var 0) (.cons (.pur (.int 2)) .nil)))) (.cons (.setC 4 (.comp 16 [8] "_law_ring_here" (.it (.var 3)) (.pur (.list (.var 16))))) (.cons (.set 5 (.pur (.call 35 "_law_number" (.cons (.call 30 "_law_cell" (.cons (.var 0) (.cons (.int 1) .nil))) .nil)))) (.cons (.for1 6 (.it (.lst (.cons (.var 5) (.cons (.pur (.tup (.cons (.int 0) (.cons (.int 1) .nil)))) (.cons (.pur (.tup (.cons (.int 1) (.cons (.int 1) .nil)))) .nil))))) (.cons (.set 7 (.call 2 "scaled" (.cons (.var 4) (.cons (.var 6) .nil)))) (.cons (.ife (.pur (.orl (.cons (.not (.call 41 "_law_shape_is" (.cons (.var 7) (.cons (.call 42 "_law_scaled" (.cons (.var 3) (.cons (.var 6) .nil))) .nil)))) (.cons (.cmp .NotEq (.var 4) (.var 3)) .nil)))) (.cons (.ret (.pur (.bl false))) .nil) .nil) (.cons (.for1 8 (.it (.var 7)) (.cons (.app (.var 8) (.pur .non)) .nil)) (.cons (.app (.var 7) (.lst .nil)) .nil))))) (.cons (.set 9 (.call 2 "scaled" (.cons (.var 4) (.cons (.pur (.tup (.cons (.int 1) (.cons (.int 2) .nil)))) .nil)))) (.cons (.ife (.pur (.not (.call 41 "_law_shape_is" (.cons (.var 9) (.cons (.call 42 "_law_scaled" (.cons (.var 3) (.cons (.tup (.cons (.int 1) (.cons (.int 2) .nil))) .nil))) .nil))))) (.cons (.ret (.pur (.bl false))) .nil) .nil) (.cons (.set 10 (.call 4 "shares" (.cons (.var 1) (.cons (.var 2) (.cons (.var 9) .nil))))) (.cons (.set 11 (.call 4 "shares" (.cons (.pur (.bin .Mult (.int 2) (.var 1))) (.cons (.pur (.bin .Mult (.int 2) (.var 2))) (.cons (.var 4) .nil))))) (.cons (.ife (.pur (.orl (.cons (.not (.call 40 "_law_table" (.cons (.var 10) (.cons (.var 1) (.cons (.var 2) .nil))))) (.cons (.not (.call 40 "_law_table" (.cons (.var 11) (.cons (.bin .Mult (.int 2) (.var 1)) (.cons (.bin .Mult (.int 2) (.var 2)) .nil))))) .nil)))) (.cons (.ret (.pur (.bl false))) .nil) .nil) (.cons (.for1 12 (.rng (.var 2)) (.cons (.for1 13 (.rng (.var 1)) (.cons (.set 14 (.pur (.tup (.cons (.int 0) (.cons (.int 1) .nil))))) (.cons (.for1 15 (.it (.lst (.cons (.pur (.bin .Mult (.int 2) (.var 12))) (.cons (.pur (.bin .Add (.bin .Mult (.int 2) (.var 12)) (.int 1))) .nil)))) (.cons (.set 14 (.pur (.call 38 "_law_plus" (.cons (.var 14) (.cons (.call 38 "_law_plus" (.cons (.ix (.ix (.var 11) (.var 15)) (.bin .Mult (.int 2) (.var 13))) (.cons (.ix (.ix (.var 11) (.var 15)) (.bin .Add (.bin .Mult (.int 2) (.var 13)) (.int 1))) .nil))) .nil))))) .nil)) (.cons (.ife (.pur (.cmp .NotEq (.ix (.ix (.var 10) (.var 12)) (.var 13)) (.call 39 "_law_times" (.cons (.var 14) (.cons (.tup (.cons (.int 1) (.cons (.int 4) .nil))) .nil))))) (.cons (.ret (.pur (.bl false))) .nil) .nil) .nil)))) .nil)) (.cons (.ret (.pur (.cmp .Eq (.var 4) (.var 3)))) .nil))))))))))))
theorem zTK:cSs' (zAA (top 55)) N43 bs mb43 (zAB (top 55))=true:=by decide +kernel
theorem sc43:zAD N43 P43 (zAA (top 55)):=by (walk_at "f")
def G0:Gm:=⟨[],[("NOUGHT",.tup [.int 0,.int 1]),("HALF",.tup [.int 1,.int 2])],[],[],[],[]⟩
def F0:List D->Option R:=dFun 2 3 (evSs G0 b0)
def G1:Gm:=G0.add "common_measure" F0
def F1:List D->Option R:=dFun 2 3 (evSs G1 b1)
def G2:Gm:=G1.add "ratio" F1
def F2:List D->Option R:=dFun 2 2 (evSs G2 b2)
def G3:Gm:=G2.add "plus" F2
def F3:List D->Option R:=dFun 2 2 (evSs G3 b3)
def G4:Gm:=G3.add "minus" F3
def F4:List D->Option R:=dFun 2 2 (evSs G4 b4)
def G5:Gm:=G4.add "times" F4
def F5:List D->Option R:=dFun 2 2 (evSs G5 b5)
def G6:Gm:=G5.add "parted" F5
def F6:List D->Option R:=dFun 1 2 (evSs G6 b6)
def G7:Gm:=G6.add "neighbours_added" F6
def F7:List D->Option R:=dFun 1 2 (evSs G7 b7)
def G8:Gm:=G7.add "total" F7
def F8:List D->Option R:=dFun 2 2 (evSs G8 b8)
def G9:Gm:=G8.add "under" F8
def F9:List D->Option R:=dFun 1 1 (evSs G9 b9)
def G10:Gm:=G9.add "whole_part" F9
def F10:List D->Option R:=fun _=>none
def G11:Gm:=G10.add "point_by_point" F10
def F11:List D->Option R:=fun _=>none
def G12:Gm:=G11.add "scaled" F11
def F12:List D->Option R:=dFun 1 1 (evSs G12 b12)
def G13:Gm:=G12.add "sides" F12
def zSw:Gm:=G13.add "numbers_between" (fun _=>none)
def zSx:List D->Option R:=dFun 3 3 (evSs zSw b13)
def zSv:Gm:=G13.add "numbers_between" zSx
def F13:List D->Option R:=dFun 3 3 (evSs zSv b13)
def G14:Gm:=G13.add "numbers_between" F13
def F14:List D->Option R:=dFun 5 6 (evSs G14 b14)
def G15:Gm:=G14.add "rests_at" F14
def F15:List D->Option R:=dFun 2 6 (evSs G15 b15)
def G16:Gm:=G15.add "upright_crossings" F15
def F16:List D->Option R:=dFun 2 6 (evSs G16 b16)
def G17:Gm:=G16.add "level_crossings" F16
def F17:List D->Option R:=dFun 3 3 (evSs G17 b17)
def G18:Gm:=G17.add "comes_ahead" F17
def F18:List D->Option R:=dFun 3 6 (evSs G18 b18)
def G19:Gm:=G18.add "made_one" F18
def F19:List D->Option R:=dFun 3 6 (evSs G19 b19)
def G20:Gm:=G19.add "stops" F19
def F20:List D->Option R:=dFun 2 2 (evSs G20 b20)
def G21:Gm:=G20.add "middle" F20
def F21:List D->Option R:=dFun 2 4 (evSs G21 b21)
def G22:Gm:=G21.add "piece_between" F21
def F22:List D->Option R:=dFun 3 3 (evSs G22 b22)
def G23:Gm:=G22.add "counts_on" F22
def F23:List D->Option R:=dFun 3 5 (evSs G23 b23)
def G24:Gm:=G23.add "pieces" F23
def F24:List D->Option R:=dFun 1 1 (evSs G24 b24)
def G25:Gm:=G24.add "fall" F24
def F25:List D->Option R:=dFun 1 2 (evSs G25 b25)
def G26:Gm:=G25.add "right" F25
def F26:List D->Option R:=dFun 1 1 (evSs G26 b26)
def G27:Gm:=G26.add "empty_lists" F26
def F27:List D->Option R:=dFun 3 6 (evSs G27 b27)
def G28:Gm:=G27.add "all_pieces" F27
def F28:List D->Option R:=dFun 2 5 (evSs G28 b28)
def G29:Gm:=G28.add "row_of_shares" F28
def F29:List D->Option R:=fun _=>none
def G30:Gm:=G29.add "shares" F29
def F30:List D->Option R:=dFun 2 4 (evSs G30 b30)
def G31:Gm:=G30.add "_law_cell" F30
def F31:List D->Option R:=dFun 1 1 (evSs G31 b31)
def G32:Gm:=G31.add "_law_whole" F31
def F32:List D->Option R:=dFun 2 3 (evSs G32 b32)
def G33:Gm:=G32.add "_law_most" F32
def F33:List D->Option R:=dFun 3 3 (evSs G33 b33)
def G34:Gm:=G33.add "_law_is" F33
def F34:List D->Option R:=dFun 2 3 (evSs G34 b34)
def G35:Gm:=G34.add "_law_ratio" F34
def F35:List D->Option R:=dFun 1 1 (evSs G35 b35)
def G36:Gm:=G35.add "_law_number" F35
def F36:List D->Option R:=dFun 3 7 (evSs G36 b36)
def G37:Gm:=G36.add "_law_ring" F36
def F37:List D->Option R:=fun _=>none
def G38:Gm:=G37.add "_law_shape" F37
def F38:List D->Option R:=dFun 2 2 (evSs G38 b38)
def G39:Gm:=G38.add "_law_plus" F38
def F39:List D->Option R:=dFun 2 2 (evSs G39 b39)
def G40:Gm:=G39.add "_law_times" F39
def F40:List D->Option R:=dFun 3 5 (evSs G40 b40)
def G41:Gm:=G40.add "_law_table" F40
def F41:List D->Option R:=dFun 2 6 (evSs G41 b41)
def G42:Gm:=G41.add "_law_shape_is" F41
def F42:List D->Option R:=dFun 2 2 (evSs G42 b42)
def G43:Gm:=G42.add "_law_scaled" F42
def L0:LamI:=zTS "scaled" (top 18)
def lb0:E:=.tup (.cons (.call 4 "times" (.cons (.ix (.var 0) (.int 0)) (.cons (.var 1) .nil))) (.cons (.call 4 "times" (.cons (.ix (.var 0) (.int 1)) (.cons (.var 1) .nil))) .nil))
theorem lsc0:zIh "point" ["by"] L0/\frN L0=(["by"]:List Str):=zMA (by decide +kernel) fun _ _ _ _ _=>rfl
theorem lck0:cE lb0 L0.scope ("point"::["by"]) bs L0.body=true:=by decide +kernel
def FL0:List D->Option R:=lamD 1 (evE G43 lb0)
def GL0:Gm:=G43.addL L0 FL0
def D0:Dm:=[(("_law_shape_is":Str),zFz F41)]
def FM10:MF:=zCv 2 2 (evSs' GL0 D0 mb10)
def D1:Dm:=[(("_law_shape_is":Str),zFz F41),(("point_by_point":Str),FM10)]
def FM11:MF:=lamM FM10 0 L0 [1] 2
def D2:Dm:=[(("_law_shape_is":Str),zFz F41),(("point_by_point":Str),FM10),(("scaled":Str),FM11)]
def FM26:MF:=zCv 1 1 (evSs' GL0 D2 mb26)
def D3:Dm:=[(("_law_shape_is":Str),zFz F41),(("point_by_point":Str),FM10),(("scaled":Str),FM11),(("empty_lists":Str),FM26)]
def FM29:MF:=zCv 3 7 (evSs' GL0 D3 mb29)
def D4:Dm:=[(("_law_shape_is":Str),zFz F41),(("point_by_point":Str),FM10),(("scaled":Str),FM11),(("empty_lists":Str),FM26),(("shares":Str),FM29)]
def FM37:MF:=zCv 2 5 (evSs' GL0 D4 mb37)
def D5:Dm:=[(("_law_shape_is":Str),zFz F41),(("point_by_point":Str),FM10),(("scaled":Str),FM11),(("empty_lists":Str),FM26),(("shares":Str),FM29),(("_law_shape":Str),FM37)]
def FM43:MF:=zCv 1 16 (evSs' GL0 D5 mb43)
structure FT (K:W.Frag)(x:Str)(i:Nat)(f:Addr):Prop where
  a:W.nsIn K mainGlobals x=some (some (.ref f))
  F:∃ fd,Fun K x x (top i) f fd
theorem ft {K:W.Frag}{x:Str}{i:Nat}{f:Addr}{od an:Option Addr}{sl:Array (Option Value)}{oc kV dc pm cd ct:Value}(a:W.nsIn K mainGlobals x=some (some (.ref f)))(l:K.lookup f=some ⟨oc,od,.func (W.fnOf x x (zCP (top i)) (zAB (top i)) (zAA (top i)) .none kV dc pm an cd ct),sl⟩)(c:W.codeIn K cd x=true)(k:W.keepIn K (.ref f)=true):FT K x i f:=⟨a,_,zNv l c k⟩
theorem len1 {α:Type}:∀ {us:List α},us.length=1->∃ a0,us=[a0]
  | [a0],_=>⟨a0,rfl⟩
theorem len2 {α:Type}:∀ {us:List α},us.length=2->∃ a0 a1,us=[a0,a1]
  | [a0,a1],_=>⟨a0,a1,rfl⟩
theorem len3 {α:Type}:∀ {us:List α},us.length=3->∃ a0 a1 a2,us=[a0,a1,a2]
  | [a0,a1,a2],_=>⟨a0,a1,a2,rfl⟩
theorem len5 {α:Type}:∀ {us:List α},us.length=5->∃ a0 a1 a2 a3 a4,us=[a0,a1,a2,a3,a4]
  | [a0,a1,a2,a3,a4],_=>⟨a0,a1,a2,a3,a4,rfl⟩
set_option maxHeartbeats 4000000 in
theorem all_mk {l:W.OpenLaw}{w:World}{K:W.Frag}{h:Heap}{mg:Str->Option Value}{fa f0 f1 f2 f3 f4 f5 f6 f7 f8 f9 f10 f11 f12 f13 f14 f15 f16 f17 f18 f19 f20 f21 f22 f23 f24 f25 f26 f27 f28 f29 f30 f31 f32 f33 f34 f35 f36 f37 f38 f39 f40 f41 f42 f43:Addr}(X:K.In h)(G:h.Ns mainGlobals mg)(hfa:mg "law"=some (.ref fa))
    {od43 an43:Option Addr} {sl43:Array (Option Value)} {oc43 kV43 dc43 pm43 cd43 ct43:Value}
    {g0 g1:Addr} {cod0 cod1:Option Addr} {cit0 cit1:Array Value} {cn0 cn1:Nat} {csl0 csl1:Array (Option Value)}
    {lc0 lp0:Addr} (lt0:W.tabIn K "scaled"=some (lc0,lp0))
    (t0:FT K "common_measure" 6 f0)
    (t1:FT K "ratio" 7 f1)
    (t2:FT K "plus" 8 f2)
    (t3:FT K "minus" 9 f3)
    (t4:FT K "times" 10 f4)
    (t5:FT K "parted" 11 f5)
    (t6:FT K "neighbours_added" 12 f6)
    (t7:FT K "total" 13 f7)
    (t8:FT K "under" 14 f8)
    (t9:FT K "whole_part" 15 f9)
    (t10:FT K "point_by_point" 17 f10)
    (t11:FT K "scaled" 18 f11)
    (t12:FT K "sides" 20 f12)
    (t13:FT K "numbers_between" 22 f13)
    (t14:FT K "rests_at" 23 f14)
    (t15:FT K "upright_crossings" 24 f15)
    (t16:FT K "level_crossings" 25 f16)
    (t17:FT K "comes_ahead" 26 f17)
    (t18:FT K "made_one" 27 f18)
    (t19:FT K "stops" 28 f19)
    (t20:FT K "middle" 29 f20)
    (t21:FT K "piece_between" 30 f21)
    (t22:FT K "counts_on" 31 f22)
    (t23:FT K "pieces" 32 f23)
    (t24:FT K "fall" 33 f24)
    (t25:FT K "right" 34 f25)
    (t26:FT K "empty_lists" 36 f26)
    (t27:FT K "all_pieces" 37 f27)
    (t28:FT K "row_of_shares" 38 f28)
    (t29:FT K "shares" 39 f29)
    (t30:FT K "_law_cell" 41 f30)
    (t31:FT K "_law_whole" 42 f31)
    (t32:FT K "_law_most" 43 f32)
    (t33:FT K "_law_is" 44 f33)
    (t34:FT K "_law_ratio" 45 f34)
    (t35:FT K "_law_number" 46 f35)
    (t36:FT K "_law_ring" 47 f36)
    (t37:FT K "_law_shape" 48 f37)
    (t38:FT K "_law_plus" 49 f38)
    (t39:FT K "_law_times" 51 f39)
    (t40:FT K "_law_table" 52 f40)
    (t41:FT K "_law_shape_is" 53 f41)
    (t42:FT K "_law_scaled" 54 f42)
    (a43:W.nsIn K mainGlobals "law"=some (some (.ref f43))) (l43:K.lookup f43=some ⟨oc43,od43,.func (W.fnOf "law" "law" (zCP (top 55)) (zAB (top 55)) (zAA (top 55)) .none kV43 dc43 pm43 an43 cd43 ct43),sl43⟩) (c43:W.codeIn K cd43 "law"=true) (k43:W.keepIn K (.ref f43)=true)
    (z0:W.nsIn K mainGlobals "abs"=some none)
    (z1:W.nsIn K mainGlobals "len"=some none)
    (z2:W.nsIn K mainGlobals "range"=some none)
    (z3:W.nsIn K mainGlobals "list"=some none)
    (z4:W.nsIn K mainGlobals "zip"=some none)
    (z5:W.nsIn K mainGlobals "reversed"=some none)
    (z6:W.nsIn K mainGlobals "max"=some none)
    (z7:W.nsIn K mainGlobals "isinstance"=some none)
    (z8:W.nsIn K mainGlobals "bool"=some none)
    (z9:W.nsIn K mainGlobals "int"=some none)
    (z10:W.nsIn K mainGlobals "tuple"=some none)
    (ca0:W.nsIn K mainGlobals "NOUGHT"=some (some (.ref g0))) (cl0:K.lookup g0=some ⟨.type "tuple",cod0,.seq cit0 cn0,csl0⟩) (cv0:cit0.toList.map absV=[some (.int 0),some (.int 1)])
    (ca1:W.nsIn K mainGlobals "HALF"=some (some (.ref g1))) (cl1:K.lookup g1=some ⟨.type "tuple",cod1,.seq cit1 cn1,csl1⟩) (cv1:cit1.toList.map absV=[some (.int 1),some (.int 2)])
    : ∃ fd:FuncData,(∀ (s:Shared) (v:Value),BindsTo s fd ⟨[v],[]⟩ [("_law_script",v)])/\∀ base:Heap,K.In base->base.Ns mainGlobals mg->FnOk l.prog w K mg base CX0 47 fa fd ["_law_script"] (spM K FM43):=by
  have e:=hfa.symm.trans (W.mg_of X G a43);cases e;obtain ⟨_,E0⟩:=t0.F;have B0:=E0.binds (ps:=P0) fun _ _ _ _ _ _ us hl=>by obtain ⟨_,_,rfl⟩:=len2 hl;rfl
  obtain ⟨_,E1⟩:=t1.F;have B1:=E1.binds (ps:=P1) fun _ _ _ _ _ _ us hl=>by obtain ⟨_,_,rfl⟩:=len2 hl;rfl
  obtain ⟨_,E2⟩:=t2.F;have B2:=E2.binds (ps:=P2) fun _ _ _ _ _ _ us hl=>by obtain ⟨_,_,rfl⟩:=len2 hl;rfl
  obtain ⟨_,E3⟩:=t3.F;have B3:=E3.binds (ps:=P3) fun _ _ _ _ _ _ us hl=>by obtain ⟨_,_,rfl⟩:=len2 hl;rfl
  obtain ⟨_,E4⟩:=t4.F;have B4:=E4.binds (ps:=P4) fun _ _ _ _ _ _ us hl=>by obtain ⟨_,_,rfl⟩:=len2 hl;rfl
  obtain ⟨_,E5⟩:=t5.F;have B5:=E5.binds (ps:=P5) fun _ _ _ _ _ _ us hl=>by obtain ⟨_,_,rfl⟩:=len2 hl;rfl
  obtain ⟨_,E6⟩:=t6.F;have B6:=E6.binds (ps:=P6) fun _ _ _ _ _ _ us hl=>by obtain ⟨_,rfl⟩:=len1 hl;rfl
  obtain ⟨_,E7⟩:=t7.F;have B7:=E7.binds (ps:=P7) fun _ _ _ _ _ _ us hl=>by obtain ⟨_,rfl⟩:=len1 hl;rfl
  obtain ⟨_,E8⟩:=t8.F;have B8:=E8.binds (ps:=P8) fun _ _ _ _ _ _ us hl=>by obtain ⟨_,_,rfl⟩:=len2 hl;rfl
  obtain ⟨_,E9⟩:=t9.F;have B9:=E9.binds (ps:=P9) fun _ _ _ _ _ _ us hl=>by obtain ⟨_,rfl⟩:=len1 hl;rfl
  obtain ⟨_,E10⟩:=t10.F;have B10:=E10.binds (ps:=P10) fun _ _ _ _ _ _ us hl=>by obtain ⟨_,_,rfl⟩:=len2 hl;rfl
  obtain ⟨_,E11⟩:=t11.F;have B11:=E11.binds (ps:=P11) fun _ _ _ _ _ _ us hl=>by obtain ⟨_,_,rfl⟩:=len2 hl;rfl
  obtain ⟨_,E12⟩:=t12.F;have B12:=E12.binds (ps:=P12) fun _ _ _ _ _ _ us hl=>by obtain ⟨_,rfl⟩:=len1 hl;rfl
  obtain ⟨_,E13⟩:=t13.F;have B13:=E13.binds (ps:=P13) fun _ _ _ _ _ _ us hl=>by obtain ⟨_,_,_,rfl⟩:=len3 hl;rfl
  obtain ⟨_,E14⟩:=t14.F;have B14:=E14.binds (ps:=P14) fun _ _ _ _ _ _ us hl=>by obtain ⟨_,_,_,_,_,rfl⟩:=len5 hl;rfl
  obtain ⟨_,E15⟩:=t15.F;have B15:=E15.binds (ps:=P15) fun _ _ _ _ _ _ us hl=>by obtain ⟨_,_,rfl⟩:=len2 hl;rfl
  obtain ⟨_,E16⟩:=t16.F;have B16:=E16.binds (ps:=P16) fun _ _ _ _ _ _ us hl=>by obtain ⟨_,_,rfl⟩:=len2 hl;rfl
  obtain ⟨_,E17⟩:=t17.F;have B17:=E17.binds (ps:=P17) fun _ _ _ _ _ _ us hl=>by obtain ⟨_,_,_,rfl⟩:=len3 hl;rfl
  obtain ⟨_,E18⟩:=t18.F;have B18:=E18.binds (ps:=P18) fun _ _ _ _ _ _ us hl=>by obtain ⟨_,_,_,rfl⟩:=len3 hl;rfl
  obtain ⟨_,E19⟩:=t19.F;have B19:=E19.binds (ps:=P19) fun _ _ _ _ _ _ us hl=>by obtain ⟨_,_,_,rfl⟩:=len3 hl;rfl
  obtain ⟨_,E20⟩:=t20.F;have B20:=E20.binds (ps:=P20) fun _ _ _ _ _ _ us hl=>by obtain ⟨_,_,rfl⟩:=len2 hl;rfl
  obtain ⟨_,E21⟩:=t21.F;have B21:=E21.binds (ps:=P21) fun _ _ _ _ _ _ us hl=>by obtain ⟨_,_,rfl⟩:=len2 hl;rfl
  obtain ⟨_,E22⟩:=t22.F;have B22:=E22.binds (ps:=P22) fun _ _ _ _ _ _ us hl=>by obtain ⟨_,_,_,rfl⟩:=len3 hl;rfl
  obtain ⟨_,E23⟩:=t23.F;have B23:=E23.binds (ps:=P23) fun _ _ _ _ _ _ us hl=>by obtain ⟨_,_,_,rfl⟩:=len3 hl;rfl
  obtain ⟨_,E24⟩:=t24.F;have B24:=E24.binds (ps:=P24) fun _ _ _ _ _ _ us hl=>by obtain ⟨_,rfl⟩:=len1 hl;rfl
  obtain ⟨_,E25⟩:=t25.F;have B25:=E25.binds (ps:=P25) fun _ _ _ _ _ _ us hl=>by obtain ⟨_,rfl⟩:=len1 hl;rfl
  obtain ⟨_,E26⟩:=t26.F;have B26:=E26.binds (ps:=P26) fun _ _ _ _ _ _ us hl=>by obtain ⟨_,rfl⟩:=len1 hl;rfl
  obtain ⟨_,E27⟩:=t27.F;have B27:=E27.binds (ps:=P27) fun _ _ _ _ _ _ us hl=>by obtain ⟨_,_,_,rfl⟩:=len3 hl;rfl
  obtain ⟨_,E28⟩:=t28.F;have B28:=E28.binds (ps:=P28) fun _ _ _ _ _ _ us hl=>by obtain ⟨_,_,rfl⟩:=len2 hl;rfl
  obtain ⟨_,E29⟩:=t29.F;have B29:=E29.binds (ps:=P29) fun _ _ _ _ _ _ us hl=>by obtain ⟨_,_,_,rfl⟩:=len3 hl;rfl
  obtain ⟨_,E30⟩:=t30.F;have B30:=E30.binds (ps:=P30) fun _ _ _ _ _ _ us hl=>by obtain ⟨_,_,rfl⟩:=len2 hl;rfl
  obtain ⟨_,E31⟩:=t31.F;have B31:=E31.binds (ps:=P31) fun _ _ _ _ _ _ us hl=>by obtain ⟨_,rfl⟩:=len1 hl;rfl
  obtain ⟨_,E32⟩:=t32.F;have B32:=E32.binds (ps:=P32) fun _ _ _ _ _ _ us hl=>by obtain ⟨_,_,rfl⟩:=len2 hl;rfl
  obtain ⟨_,E33⟩:=t33.F;have B33:=E33.binds (ps:=P33) fun _ _ _ _ _ _ us hl=>by obtain ⟨_,_,_,rfl⟩:=len3 hl;rfl
  obtain ⟨_,E34⟩:=t34.F;have B34:=E34.binds (ps:=P34) fun _ _ _ _ _ _ us hl=>by obtain ⟨_,_,rfl⟩:=len2 hl;rfl
  obtain ⟨_,E35⟩:=t35.F;have B35:=E35.binds (ps:=P35) fun _ _ _ _ _ _ us hl=>by obtain ⟨_,rfl⟩:=len1 hl;rfl
  obtain ⟨_,E36⟩:=t36.F;have B36:=E36.binds (ps:=P36) fun _ _ _ _ _ _ us hl=>by obtain ⟨_,_,_,rfl⟩:=len3 hl;rfl
  obtain ⟨_,E37⟩:=t37.F;have B37:=E37.binds (ps:=P37) fun _ _ _ _ _ _ us hl=>by obtain ⟨_,_,rfl⟩:=len2 hl;rfl
  obtain ⟨_,E38⟩:=t38.F;have B38:=E38.binds (ps:=P38) fun _ _ _ _ _ _ us hl=>by obtain ⟨_,_,rfl⟩:=len2 hl;rfl
  obtain ⟨_,E39⟩:=t39.F;have B39:=E39.binds (ps:=P39) fun _ _ _ _ _ _ us hl=>by obtain ⟨_,_,rfl⟩:=len2 hl;rfl
  obtain ⟨_,E40⟩:=t40.F;have B40:=E40.binds (ps:=P40) fun _ _ _ _ _ _ us hl=>by obtain ⟨_,_,_,rfl⟩:=len3 hl;rfl
  obtain ⟨_,E41⟩:=t41.F;have B41:=E41.binds (ps:=P41) fun _ _ _ _ _ _ us hl=>by obtain ⟨_,_,rfl⟩:=len2 hl;rfl
  obtain ⟨_,E42⟩:=t42.F;have B42:=E42.binds (ps:=P42) fun _ _ _ _ _ _ us hl=>by obtain ⟨_,_,rfl⟩:=len2 hl;rfl
  have E43:=zNv (st:=top 55) l43 c43 k43;have B43:=E43.binds (ps:=P43) fun _ _ _ _ _ _ us hl=>by obtain ⟨_,rfl⟩:=len1 hl;rfl
  refine ⟨W.fnOf "law" "law" (zCP (top 55)) (zAB (top 55)) (zAA (top 55)) .none kV43 dc43 pm43 an43 cd43 ct43,fun s v=>.of_eq rfl,fun base _ _=>?_⟩;have g0:GOk l.prog w K mg base 0 G0 bs:=⟨fun x F h=>absurd h (by simp [G0]),fun x d h=>?_,fun x h=>?_,trivial,trivial,trivial,fun j L F e=>absurd e (by simp [G0])⟩
  . have g1:GOk l.prog w K mg base 1 G1 bs:=g0.add E0 sc0 ck0 (W.mg_of X G t0.a) B0;have g2:GOk l.prog w K mg base 2 G2 bs:=g1.add E1 sc1 ck1 (W.mg_of X G t1.a) B1;have g3:GOk l.prog w K mg base 3 G3 bs:=g2.add E2 sc2 ck2 (W.mg_of X G t2.a) B2;have g4:GOk l.prog w K mg base 4 G4 bs:=g3.add E3 sc3 ck3 (W.mg_of X G t3.a) B3;have g5:GOk l.prog w K mg base 5 G5 bs:=g4.add E4 sc4 ck4 (W.mg_of X G t4.a) B4;have g6:GOk l.prog w K mg base 6 G6 bs:=g5.add E5 sc5 ck5 (W.mg_of X G t5.a) B5;have g7:GOk l.prog w K mg base 7 G7 bs:=g6.add E6 sc6 ck6 (W.mg_of X G t6.a) B6;have g8:GOk l.prog w K mg base 8 G8 bs:=g7.add E7 sc7 ck7 (W.mg_of X G t7.a) B7;have g9:GOk l.prog w K mg base 9 G9 bs:=g8.add E8 sc8 ck8 (W.mg_of X G t8.a) B8;have g10:GOk l.prog w K mg base 10 G10 bs:=g9.add E9 sc9 ck9 (W.mg_of X G t9.a) B9;have g11:GOk l.prog w K mg base 10 G11 bs:=g10.addN E10 (W.mg_of X G t10.a) B10;have g12:GOk l.prog w K mg base 10 G12 bs:=g11.addN E11 (W.mg_of X G t11.a) B11;have g13:GOk l.prog w K mg base 11 G13 bs:=g12.add E12 sc12 ck12 (W.mg_of X G t12.a) B12;have g13_0:GOk l.prog w K mg base 11 zSw bs:=g13.addN E13 (W.mg_of X G t13.a) B13;have g13_1:GOk l.prog w K mg base 12 zSv bs:=g13.addR g13_0 (by decide) E13 sc13 ck13 (W.mg_of X G t13.a) B13;have g14:GOk l.prog w K mg base 13 G14 bs:=g13.addR g13_1 (by decide) E13 sc13 ck13 (W.mg_of X G t13.a) B13;have g15:GOk l.prog w K mg base 14 G15 bs:=g14.add E14 sc14 ck14 (W.mg_of X G t14.a) B14;have g16:GOk l.prog w K mg base 15 G16 bs:=g15.add E15 sc15 ck15 (W.mg_of X G t15.a) B15;have g17:GOk l.prog w K mg base 16 G17 bs:=g16.add E16 sc16 ck16 (W.mg_of X G t16.a) B16;have g18:GOk l.prog w K mg base 17 G18 bs:=g17.add E17 sc17 ck17 (W.mg_of X G t17.a) B17;have g19:GOk l.prog w K mg base 18 G19 bs:=g18.add E18 sc18 ck18 (W.mg_of X G t18.a) B18;have g20:GOk l.prog w K mg base 19 G20 bs:=g19.add E19 sc19 ck19 (W.mg_of X G t19.a) B19;have g21:GOk l.prog w K mg base 20 G21 bs:=g20.add E20 sc20 ck20 (W.mg_of X G t20.a) B20;have g22:GOk l.prog w K mg base 21 G22 bs:=g21.add E21 sc21 ck21 (W.mg_of X G t21.a) B21;have g23:GOk l.prog w K mg base 22 G23 bs:=g22.add E22 sc22 ck22 (W.mg_of X G t22.a) B22;have g24:GOk l.prog w K mg base 23 G24 bs:=g23.add E23 sc23 ck23 (W.mg_of X G t23.a) B23;have g25:GOk l.prog w K mg base 24 G25 bs:=g24.add E24 sc24 ck24 (W.mg_of X G t24.a) B24;have g26:GOk l.prog w K mg base 25 G26 bs:=g25.add E25 sc25 ck25 (W.mg_of X G t25.a) B25;have g27:GOk l.prog w K mg base 26 G27 bs:=g26.add E26 sc26 ck26 (W.mg_of X G t26.a) B26;have g28:GOk l.prog w K mg base 27 G28 bs:=g27.add E27 sc27 ck27 (W.mg_of X G t27.a) B27;have g29:GOk l.prog w K mg base 28 G29 bs:=g28.add E28 sc28 ck28 (W.mg_of X G t28.a) B28;have g30:GOk l.prog w K mg base 28 G30 bs:=g29.addN E29 (W.mg_of X G t29.a) B29;have g31:GOk l.prog w K mg base 29 G31 bs:=g30.add E30 sc30 ck30 (W.mg_of X G t30.a) B30
    have g32:GOk l.prog w K mg base 30 G32 bs:=g31.add E31 sc31 ck31 (W.mg_of X G t31.a) B31;have g33:GOk l.prog w K mg base 31 G33 bs:=g32.add E32 sc32 ck32 (W.mg_of X G t32.a) B32;have g34:GOk l.prog w K mg base 32 G34 bs:=g33.add E33 sc33 ck33 (W.mg_of X G t33.a) B33;have g35:GOk l.prog w K mg base 33 G35 bs:=g34.add E34 sc34 ck34 (W.mg_of X G t34.a) B34;have g36:GOk l.prog w K mg base 34 G36 bs:=g35.add E35 sc35 ck35 (W.mg_of X G t35.a) B35;have g37:GOk l.prog w K mg base 35 G37 bs:=g36.add E36 sc36 ck36 (W.mg_of X G t36.a) B36;have g38:GOk l.prog w K mg base 35 G38 bs:=g37.addN E37 (W.mg_of X G t37.a) B37;have g39:GOk l.prog w K mg base 36 G39 bs:=g38.add E38 sc38 ck38 (W.mg_of X G t38.a) B38;have g40:GOk l.prog w K mg base 37 G40 bs:=g39.add E39 sc39 ck39 (W.mg_of X G t39.a) B39;have g41:GOk l.prog w K mg base 38 G41 bs:=g40.add E40 sc40 ck40 (W.mg_of X G t40.a) B40;have g42:GOk l.prog w K mg base 39 G42 bs:=g41.add E41 sc41 ck41 (W.mg_of X G t41.a) B41;have g43:GOk l.prog w K mg base 40 G43 bs:=g42.add E42 sc42 ck42 (W.mg_of X G t42.a) B42;have gl0:GOk l.prog w K mg base 41 GL0 bs:=g43.addL lsc0.1 lsc0.2 lck0;have ld0:zLE K "scaled" (top 18) P11 "point_by_point" L0 [1]:=by
      have cp:=zSm (sc:=zAA (top 18)) (ps:=P11) (ys:=["by"]) (ix:=[1]) (by decide +kernel);rw [<- lsc0.2] at cp;exact ⟨⟨_,_,_,_,_,_,rfl,rfl,.inl rfl,by decide⟩,rfl,by decide,⟨_,_,lt0⟩,by decide +kernel,by decide,fun _=>rfl,by rw [lsc0.2];decide,cp.1,cp.2,zMT _⟩
    have c0:DmOk l.prog w K mg base 41 []:=fun x F h=>absurd h (by simp)
    have c1_:=c0.lift1 gl0 (mem_of_getElem? (i:=41) (show GL0.fns[41]?=some (("_law_shape_is":Str),F41) from rfl));have d0:DmOk l.prog w K mg base 41 D0:=c1_;have d1:DmOk l.prog w K mg base 42 D1:=d0.add (gl0.mono (by decide)) E10 sc10 zTO (W.mg_of X G t10.a) B10;have d2:DmOk l.prog w K mg base 43 D2:=d1.addF E11 sc11 ld0 (W.mg_of X G t11.a) B11 (mem_of_getElem? (i:=1) (show D1[1]?=some (("point_by_point":Str),FM10) from rfl));have d3:DmOk l.prog w K mg base 44 D3:=d2.add (gl0.mono (by decide)) E26 sc26 zTN (W.mg_of X G t26.a) B26;have d4:DmOk l.prog w K mg base 45 D4:=d3.add (gl0.mono (by decide)) E29 sc29 zTM (W.mg_of X G t29.a) B29;have d5:DmOk l.prog w K mg base 46 D5:=d4.add (gl0.mono (by decide)) E37 sc37 zTL (W.mg_of X G t37.a) B37;exact zKu E43 sc43 zTK (gl0.mono (by decide)) d5
  . simp only [G0,mem_cons,Prod.mk.injEq,List.mem_nil_iff,or_false,not_mem_nil] at h;rcases h with ⟨rfl,rfl⟩ | ⟨rfl,rfl⟩
    . exact zHm (ns:=[0,1]) (W.mg_of X G ca0) cl0 cv0
    . exact zHm (ns:=[1,2]) (W.mg_of X G ca1) cl1 cv1
  . simp only [bs,mem_cons,List.mem_nil_iff,or_false,not_mem_nil] at h;rcases h with rfl | rfl | rfl | rfl | rfl | rfl | rfl | rfl | rfl | rfl | rfl
    . exact W.mg_none_of X G z0
    . exact W.mg_none_of X G z1
    . exact W.mg_none_of X G z2
    . exact W.mg_none_of X G z3
    . exact W.mg_none_of X G z4
    . exact W.mg_none_of X G z5
    . exact W.mg_none_of X G z6
    . exact W.mg_none_of X G z7
    . exact W.mg_none_of X G z8
    . exact W.mg_none_of X G z9
    . exact W.mg_none_of X G z10
end Q
end
section
namespace Q
open PySem DL
open L2
theorem h0:zIg F0:=fun a b Q ha hb h=>zJm ha hb h
theorem h1:zDZ F1:=zLe (nm:=0) rfl h0
theorem h2:zG9 F2:=zJD (nr:=1) rfl h1
theorem h3:zGQ F3:=zLy (nr:=1) rfl h1
theorem h4:zEl F4:=zHM (nr:=1) rfl h1
theorem h5:zFT F5:=zJK (nr:=1) rfl h1
theorem h6:zM4 F6:=zO3 (np:=2) rfl h2
theorem h7:zLA F7:=zLQ (nn:=6) (ng:=0) rfl h6 rfl
theorem h8:zEJ F8:=zLN
theorem h9:WpF F9:=zS1
theorem h12:zLC F12:=zLV
theorem h13a:zQT zSx:=zJa (nu:=8) (ns:=13) rfl h8
theorem h13:zM3 F13:=zOz (nu:=8) (ns:=13) rfl rfl h8 h13a
theorem h14:zH3 F14:=zLd (nd:=5) (nm:=3) (np:=2) (nt:=4) rfl rfl rfl rfl h5 h3 h2 h4
theorem h15:UpcF F15:=zQX (nn:=13) (nr:=14) rfl rfl h13 h14
theorem h16:LvcF F16:=zRa (nn:=13) (nr:=14) rfl rfl h13 h14
theorem h17:zH6 F17:=zMz (nu:=8) rfl h8
theorem h18:zQU F18:=zO7 (na:=17) rfl h17
theorem h19:zLB F19:=zLU (nm:=18) (nu:=15) (nl:=16) (nx:=8) rfl rfl rfl rfl h18 h15 h16 h8
theorem h20:MidF F20:=zRW (nt:=4) (np:=2) (ng:=1) rfl rfl rfl h4 h2
theorem h21:PcF F21:=zTI (nw:=9) (nm:=20) rfl rfl h9 h20
theorem h22:OnF F22:=zTJ
theorem h23:zHA F23:=zJE (ns:=19) (np:=21) (no:=22) rfl rfl rfl h19 h21 h22
theorem h24:zLF F24:=zPv (nm:=3) rfl h3
theorem h25:zH2 F25:=zLc (ng:=0) (nt:=4) (nf:=24) (nm:=3) (nd:=20) rfl rfl rfl rfl rfl h4 h24 h3 h20
theorem h27:AllF F27:=zSt (ns:=12) (np:=23) rfl rfl h12 h23
theorem h28:RowF F28:=zQp (np:=2) (nt:=7) (ng:=0) rfl rfl rfl h2 h7
theorem m26:zH5 FM26:=zMl
theorem m29:zLD FM29:=zIx (na:=27) (nf:=24) (nr:=25) (nw:=28) (ne:=3) rfl rfl rfl rfl rfl h27 h24 h25 h28 m26
theorem h30:zSy F30:=zQJ
theorem h31:zOB F31:=fun i Q h=>zLL h
theorem h32:zIg F32:=fun a b Q ha hb h=>zJm ha hb h
theorem h34:zDZ F34:=zJt (nm:=32) rfl h32
theorem h38:zG9 F38:=zJD (nr:=34) rfl h34
theorem h39:zEl F39:=zHM (nr:=34) rfl h34
theorem h33:IsF F33:=fun q t b Q l1 l2 h=>zTW (nw:=31) (nm:=32) rfl rfl h31 h32 l1 l2 h
theorem ten9:(10:Int)^(9:Int).toNat=1000000000:=by decide
theorem h35 (c:Int)(Q:R->Prop)(h:∀ q:Rat,RB 41 q->Q (ratD q,.cl)):EvP (F35 [.int c]) Q:=by
  (walk_at "d");unfold b35;(walk_at "st");refine zAE ?_;(walk_at "e");refine zCc (by decide) ?_;(walk_at "e");refine zBJ (fun _=>?_) fun _=>?_
  . refine zAE ?_;(walk_at "e");refine zDS (zCO (by decide) (by decide)) ?_;(walk_at "e");refine zSr ⟨by decide,by decide,by decide⟩ ?_;rw [ten9];refine zAw (zBI (by decide)) ?_;(walk_at "e");refine zCc (by decide) ?_;(walk_at "e");refine zSr ⟨by decide,by decide,by decide⟩ ?_;rw [ten9];(walk_at "e");have d1:=fmod_nonneg_of_pos (c.fdiv 16) (show (0:Int) < 2*1000000000 by decide);have d2:=fmod_lt_of_pos (c.fdiv 16) (show (0:Int) < 2*1000000000 by decide);rw [zD1];exact h _ (zC2 (zBT (k:=1000000000) (by omega) (by decide)) (by decide))
  refine zAu (k_nx ?_);refine zAE ?_;(walk_at "e");refine zDS (zCO (by decide) (by decide)) ?_;(walk_at "e");refine zCc (by decide) ?_;(walk_at "e");refine zDS (zCO (by decide) (by decide)) ?_;(walk_at "e");refine zCc (by decide) ?_;(walk_at "e");have d1:=fmod_nonneg_of_pos (c.fdiv 16) (show (0:Int) < 19 by decide);have d2:=fmod_lt_of_pos (c.fdiv 16) (show (0:Int) < 19 by decide);have e1:=fmod_nonneg_of_pos (c.fdiv 304) (show (0:Int) < 3 by decide);have e2:=fmod_lt_of_pos (c.fdiv 304) (show (0:Int) < 3 by decide);have bb:Bd 41 (1+(c.fdiv 304).fmod 3):=zBT (k:=10) (by omega) (by decide);refine h34 _ _ _ (by omega) (bb.mono (by decide)) ?_;(walk_at "w");exact h _ (zFo (by omega) (zBT (k:=100) (by omega) (by decide)) bb)
theorem zQP {α:Type}(f:α->D)(xs:List α)(x:α):xs.map f++[f x]=(xs++[x]).map f:=by rw [map_append];rfl
theorem h36 (ns:List Int)(a m:Nat)(Q:R->Prop)(ha:a<=100)(hm:m<=6)(h:∀ ps:List Pt,ps.length<=6->(∀ p∈ps,PB 41 p)->Q (zBg ps,.fr)):EvP (F36 [scr ns,.int a,.int m]) Q:=by
  (walk_at "d");unfold b36;(walk_at "st");refine zAE ?_;(walk_at "e");refine zAE ?_;(walk_at "e");refine ⟨by omega,?_⟩;rw [toNat_natCast];refine zCA (fun xs δ=>(∃ (ps:List Pt) (o p q:Option (D×Bool)),δ=[some (scr ns,false),some (.int a,false),some (.int m,false),some (zBg ps,true),o,p,q]/\ps.length+xs.length<=6/\∀ p∈ps,PB 41 p)/\∀ x∈xs,∃ k:Int,x=.int k/\0<=k/\k<=200) ?_ ?_ _ _ ⟨⟨[],none,none,none,rfl,?_,by simp⟩,?_⟩
  . rintro x xs δ ⟨⟨ps,o,p,q,rfl,hl,hp⟩,hk⟩;obtain ⟨k,rfl,k0,k1⟩:=hk x mem_cons_self;rw [length_cons] at hl;refine ⟨_,rfl,?_⟩;(walk_at "s");refine zAE ?_;(walk_at "e");refine zAw (zBI (by decide)) ?_;(walk_at "e");refine h30 ns _ _ (by omega) ?_;(walk_at "e");refine h35 _ _ fun qx rx=>?_
    (walk_at "e");refine zAE ?_;(walk_at "e");refine zAw (zBI (by decide)) ?_;(walk_at "e");refine h30 ns _ _ (by omega) ?_;(walk_at "e");refine h35 _ _ fun qy ry=>?_
    (walk_at "e");refine zAE (zF8 rfl (by rw [length_map];omega) ?_);(walk_at "e");refine zAu ?_;refine ⟨⟨ps++[(qx,qy)],some (.int k,false),some (ratD qx,false),some (ratD qy,false),?_,by rw [length_append,length_singleton];omega,?_⟩,fun y hy=>hk y (mem_cons_of_mem _ hy)⟩
    . unfold zBg;rw [<- zQP]
      rfl
    . intro p hp2;rcases mem_append.mp hp2 with z | z
      . exact hp p z
      . rw [mem_singleton.mp z];exact ⟨rx,ry⟩
  . rintro δ ⟨⟨ps,o,p,q,rfl,hl,hp⟩,_⟩;rw [length_nil] at hl;refine k_nx ?_;(walk_at "w");exact h ps (by omega) hp
  . rw [zAZ,length_nil];omega
  . intro x hx;obtain ⟨k,rfl,k0,k1⟩:=zCp hx;exact ⟨_,rfl,by omega,by omega⟩
theorem h40 (w h:Nat)(T:List (List Rat))(B:Nat)(Q:R->Prop)(hh:T.length=h)(hw:∀ r∈T,r.length=w/\∀ q∈r,RB B q)(hB:B<=30000000)(hQ:Q (.bl true,.cl)):EvP (F40 [.lst (T.map zBF),.int w,.int h]) Q:=by
  (walk_at "d");unfold b40;(walk_at "st");refine zAE (zCj (zDB (zCi (zBp (zD9 (zAH rfl (zJ5 (x_bl (x_bl (cb_f ?_))))))))));refine zDC (zBV (zBD (zAH rfl (zEN (zAH rfl ?_)))));rw [length_map,hh];refine zG4 (x_bl (zEG (zBs rfl (zAu (k_nx ?_)))));refine zAE (zB2 (zFZ (zAH rfl (w_cl ?_))));refine zCA (fun xs δ=>∃ (rs:List (List Rat)) (a b:Option (D×Bool)),xs=rs.map zBF/\(∀ r∈rs,r∈T)/\δ=[some (.lst (T.map zBF),false),some (.int (w:Int),false),some (.int (h:Int),false),a,b]) ?_ ?_ _ _ ⟨T,none,none,rfl,fun _ z=>z,rfl⟩
  . rintro x xs δ ⟨rs,a,b,e,hr,rfl⟩;cases rs with
    | nil=>cases e
    | cons r rs =>
      cases e;obtain ⟨r1,r2⟩:=hw r (hr r mem_cons_self);refine ⟨_,rfl,?_⟩;(walk_at "s");refine zAE (zCj (zDB (zCi (zBp (zD9 (zAH rfl (zJ5 (x_bl (x_bl (cb_f ?_))))))))));refine zDC (zBV (zBD (zAH rfl (zEN (zAH rfl ?_)))));rw [length_map,r1];refine zG4 (x_bl (zEG (zBs rfl (zAu (k_nx ?_)))));refine zAE (zB2 (zFZ (zAH rfl (w_cl ?_))));refine zCA (fun ys δ=>∃ (qs:List Rat) (b:Option (D×Bool)),ys=qs.map ratD/\(∀ q∈qs,q∈r)/\δ=[some (.lst (T.map zBF),false),some (.int (w:Int),false),some (.int (h:Int),false),some (zBF r,false),b]) ?_ ?_ _ _ ⟨r,b,rfl,fun _ z=>z,rfl⟩
      . rintro y ys δ ⟨qs,b,e,hq,rfl⟩;cases qs with
        | nil=>cases e
        | cons q qs =>
          cases e;have rq:=r2 q (hq q mem_cons_self);refine ⟨_,rfl,?_⟩;(walk_at "s");refine zAE (zCj (zDB (zCi (zBp (zD9 (zAH rfl (zRk (x_bl (x_bl (cb_f ?_))))))))));refine zCi (zBV (zBD (zAH rfl (zMB (zAS (zG4 (x_bl (zEG (zBs rfl ?_)))))))));refine zDC (zBp (zAQ rfl (zAC (zAH rfl (n_cl (zAC (zBA (zAH rfl (zAS (zPP (n_cl (zAC (zBA (zAH rfl (zAS (zPQ (n_cl (zAi ?_))))))))))))))))));refine h33 q _ _ _ (zJi rq.num rq.den (by omega)) (zJi rq.num rq.den (by omega)) ?_;rw [decide_eq_true rfl];refine n_cl (x_bl (x_bl (cb_f (zAu (k_nx (zAu ?_))))));exact ⟨qs,_,rfl,fun y hy=>hq y (mem_cons_of_mem _ hy),rfl⟩
      . rintro δ ⟨qs,b,e,hq,rfl⟩;refine k_nx (zAu ?_);exact ⟨rs,_,_,rfl,fun y hy=>hr y (mem_cons_of_mem _ hy),rfl⟩
  . rintro δ ⟨rs,a,b,e,hr,rfl⟩;refine k_nx ?_;(walk_at "w");exact hQ
theorem idxs {n:Nat}:∀ x∈rngL 0 n,∃ k:Nat,x=.int (k:Int)/\k < n:=fun x hx=>by
  obtain ⟨k,rfl,k0,k1⟩:=zCp hx;exact ⟨k.toNat,by rw [show ((k.toNat:Nat):Int)=k by omega],by omega⟩
theorem h41 (B:Nat)(hB:B<=1000)(rs:List (List Pt))(Q:R->Prop)(hl:rs.length<=100)(hs:∀ ps∈rs,ps.length<=100/\∀ p∈ps,PB B p)(hQ:Q (.bl true,.cl)):EvP (F41 [zAY rs,zAY rs]) Q:=by
  (walk_at "d");unfold b41;(walk_at "st");refine zAE (zCj (zDB (zCi (zBp (zD9 (zAH rfl (zJ5 (x_bl (x_bl (cb_f ?_))))))))));refine zDC (zBV (zBD (zAH rfl (zEN (zBD (zAH rfl (zEN ?_)))))));refine zG4 (x_bl (zEG (zBs rfl (zAu (k_nx ?_)))));refine zAE (zB2 (zIB (zBD (zAH rfl (zEN ⟨_,rfl,by rw [length_map];omega,?_⟩)))));rw [length_map,toNat_natCast];have at1:∀ {i:Nat} {ps:List Pt},rs[i]?=some ps->atI (rs.map zBg) (i:Int)=some (zBg ps):=fun {i ps} e=>zAo (by rw [getElem?_map,e];rfl)
  refine zCA (fun xs δ=>(∃ a b c d,δ=[some (zAY rs,false),some (zAY rs,false),a,b,c,d])/\∀ x∈xs,∃ k:Nat,x=.int (k:Int)/\k < rs.length) ?_ ?_ _ _ ⟨⟨none,none,none,none,rfl⟩,idxs⟩
  . rintro x xs δ ⟨⟨a,b,c,d,rfl⟩,hk⟩;obtain ⟨i,rfl,hi⟩:=hk x mem_cons_self;have e1:rs[i]?=some rs[i]:=getElem?_eq_getElem hi;have hp:=hs _ (mem_of_getElem? e1);generalize rs[i]=ps at e1 hp;refine ⟨_,rfl,?_⟩;(walk_at "s");refine zAE (zCj (zDB (zCi (zBp (zD9 (zBA (zAH rfl (zAH rfl (zAz (at1 e1) (zJ5 (x_bl (x_bl (cb_f ?_)))))))))))));refine zDC (zBV (zBD (zBA (zAH rfl (zAH rfl (zAz (at1 e1) (zEN (zBD (zBA (zAH rfl (zAH rfl (zAz (at1 e1) (zEN ?_)))))))))))));refine zG4 (x_bl (zEG (zBs rfl (zAu (k_nx ?_)))));refine zAE (zB2 (zIB (zBD (zBA (zAH rfl (zAH rfl (zAz (at1 e1) (zEN ⟨_,rfl,by rw [length_map];omega,?_⟩))))))));rw [length_map,toNat_natCast];have at2:∀ {j:Nat} {p:Pt},ps[j]?=some p->atI (ps.map ptD) (j:Int)=some (ptD p):=fun {j p} e=>zAo (by rw [getElem?_map,e];rfl)
    refine zCA (fun ys δ=>(∃ b c d,δ=[some (zAY rs,false),some (zAY rs,false),some (.int (i:Int),false),b,c,d])/\∀ x∈ys,∃ k:Nat,x=.int (k:Int)/\k < ps.length) ?_ ?_ _ _ ⟨⟨b,c,d,rfl⟩,idxs⟩
    . rintro y ys δ ⟨⟨b,c,d,rfl⟩,hj⟩;obtain ⟨j,rfl,hj2⟩:=hj y mem_cons_self;have e2:ps[j]?=some ps[j]:=getElem?_eq_getElem hj2;have rp:=hp.2 _ (mem_of_getElem? e2);generalize ps[j]=p at e2 rp;refine ⟨_,rfl,?_⟩;(walk_at "s");refine zAE (zEb (zBA (zBA (zAH rfl (zAH rfl (zAz (at1 e1) (zAH rfl (zAz (at2 e2) ⟨false,rfl,k_nx ?_⟩))))))));(walk_at "s");refine zAE (zCj (zDB (zCi (zBp (zD9 (zAH rfl (zRl (x_bl (x_bl (cb_f ?_))))))))));refine zDC (zBV (zBD (zAH rfl (zMB (zAS ?_)))));refine zG4 (x_bl (zEG (zBs rfl (zAu (k_nx ?_)))));refine zAE (zB2 (zIB (zAS ⟨_,rfl,by decide,?_⟩)));refine zCA (fun zs δ=>(∃ d,δ=[some (zAY rs,false),some (zAY rs,false),some (.int (i:Int),false),some (.int (j:Int),false),some (ptD p,false),d])/\∀ x∈zs,∃ k:Nat,x=.int (k:Int)/\k < 2) ?_ ?_ _ _ ⟨⟨d,rfl⟩,idxs⟩
      . rintro z zs δ ⟨⟨d,rfl⟩,hk2⟩;obtain ⟨k,rfl,hk3⟩:=hk2 z mem_cons_self;obtain ⟨q,eq,rq⟩:∃ q:Rat,atI [ratD p.1,ratD p.2] (k:Int)=some (ratD q)/\RB B q:=by
          obtain rfl | rfl:k=0\/k=1:=by omega
          . exact ⟨p.1,rfl,rp.1⟩
          . exact ⟨p.2,rfl,rp.2⟩
        have ip:∀ {Q:R->Prop},Q (ratD q,.cl)->EvP (ixD (ptD p) (.int (k:Int))) Q:=fun h=>zDN eq h
        refine ⟨_,rfl,?_⟩;(walk_at "s");refine zAE (zCj (zBp (zAQ rfl (zAC (zBA (zAH rfl (zAH rfl (ip (n_cl (zAC ?_))))))))));refine zBA (zBA (zBA (zBA (zAH rfl (zAH rfl (zAz (at1 e1) (zAH rfl (zAz (at2 e2) (zAH rfl (ip (zAS (zPP (n_cl (zAC ?_))))))))))))));refine zBA (zBA (zBA (zBA (zAH rfl (zAH rfl (zAz (at1 e1) (zAH rfl (zAz (at2 e2) (zAH rfl (ip (zAS (zPQ (n_cl (zAi ?_))))))))))))));refine h33 q _ _ _ (zJi rq.num rq.den (by omega)) (zJi rq.num rq.den (by omega)) ?_;rw [decide_eq_true rfl];refine n_cl (x_bl (x_bl (cb_f (zAu (k_nx (zAu ?_))))));exact ⟨⟨_,rfl⟩,fun y hy=>hk2 y (mem_cons_of_mem _ hy)⟩
      . rintro δ ⟨⟨d,rfl⟩,_⟩;refine k_nx (zAu ?_);exact ⟨⟨_,_,_,rfl⟩,fun y hy=>hj y (mem_cons_of_mem _ hy)⟩
    . rintro δ ⟨⟨b,c,d,rfl⟩,_⟩;refine k_nx (zAu ?_);exact ⟨⟨_,_,_,_,rfl⟩,fun y hy=>hk y (mem_cons_of_mem _ hy)⟩
  . rintro δ ⟨⟨a,b,c,d,rfl⟩,_⟩;refine k_nx ?_;(walk_at "w");exact hQ
def Six (ps:List Pt):Prop:=ps.length<=6/\∀ p∈ps,PB 41 p
theorem m37 (ns:List Int)(a:Nat)(ha:a<=30)(μ:Mem)(Q:MR->Prop)(hQ:∀ (γ:Mem) (rs:List (List Pt)),Ll (μ++γ) μ.length (lpR (μ.length+1) rs)->rs.length<=2->(∀ ps∈rs,Six ps)->Q (.loc μ.length,μ++γ)):EvP (FM37 [.dat (scr ns),.dat (.int (a:Int))] μ) Q:=by
  refine zKS rfl (by decide) ?_;unfold mb37;show EvP (evSs' GL0 D4 _ ⟨[some (.dat (scr ns)),some (.dat (.int (a:Int))),none,none,none],μ⟩) _;refine zAK (zBb ?_);apply zA5
  case hd=>(repeat (first | exact zGy | apply zFE | apply zBX | (apply drc_loc;rfl) | (apply drc_loc2;rfl;focus ((repeat (first | exact sb_nil | (apply sb_loc;first | (apply dr_nil;rfl) | (apply zEA;rfl))));done)) | apply zAV))
  (walk_at "w");refine h30 ns a _ (by omega) ?_;refine n_cl (zBG rfl (zAv ?_));(walk_at "s");refine zAK (zBb (zJs (zCJ ⟨zero_le _,zAv ?_⟩)));(walk_at "s");generalize cel ns (a:Int)=c;have d1:=fmod_nonneg_of_pos c (show (0:Int) < 3 by decide);have d2:=fmod_lt_of_pos c (show (0:Int) < 3 by decide);obtain ⟨k,ek⟩:∃ k:Nat,c.fmod 3=(k:Int):=⟨(c.fmod 3).toNat,by omega⟩;refine zAK (zCo (zDH (zA5 rfl (zA0 (zAH (zAI rfl zAX) (zAS (zCc (by decide) (zBG rfl ⟨_,rfl,by omega,?_⟩))))))));rw [ek,toNat_natCast];have hk:k<=2:=by omega
  clear d1 d2 ek;have getN:∀ (j:Nat) (rs:List (List Pt)),(μ++(news (μ.length+1) j::rs.map zFm))[μ.length]?=some (news (μ.length+1) j):=fun j rs=>by rw [getElem?_append_right (le_refl _),sub_self];rfl
  have getR:∀ (j i:Nat) (rs:List (List Pt)) (ps:List Pt),rs[i]?=some ps->(μ++(news (μ.length+1) j::rs.map zFm))[μ.length+1+i]?=some (zFm ps):=fun j i rs ps e=>by
    rw [getElem?_append_right (by omega),show μ.length+1+i - μ.length=i+1 by omega,List.getElem?_cons_succ,getElem?_map,e]
    rfl
  refine zD7 (s:=⟨_,_⟩) ((rngL 0 k).map .dat) (fun j s=>∃ (o4:Option W) (rs:List (List Pt)) (c:Int),s=⟨[some (.dat (scr ns)),some (.dat (.int (a:Int))),some (.dat (.int c)),some (.loc μ.length),o4],μ++(news (μ.length+1) j::rs.map zFm)⟩/\rs.length=j/\j<=k/\∀ ps∈rs,Six ps) (fun j s _=>rfl) ?_ ?_ ⟨none,[],c,rfl,rfl,zero_le _,by simp⟩
  . rintro j y s ey ⟨o4,rs,c,rfl,hj,hjk,hs⟩;have hj2:j < k:=by
      have:=(zzg ey).1;rw [length_map,zAZ] at this;exact this
    have ey2:y=.dat (.int (j:Int)):=by
      unfold rngL at ey;rw [map_map,getElem?_map,getElem?_range hj2] at ey;have:=(Option.some.inj ey).symm;rw [this];simp
    subst ey2;refine ⟨_,rfl,?_⟩;dsimp only;(walk_at "s");have e1:=fmod_nonneg_of_pos (c.fdiv 3) (show (0:Int) < 7 by decide);have e2:=fmod_lt_of_pos (c.fdiv 3) (show (0:Int) < 7 by decide);obtain ⟨m,hm,em⟩:∃ m:Nat,m<=6/\atI [D.int 3,.int 4,.int 2,.int 3,.int 4,.int 1,.int 0] ((c.fdiv 3).fmod 7)=some (.int (m:Int)):=by
      generalize (c.fdiv 3).fmod 7=i at e1 e2;have cases7:i=0\/i=1\/i=2\/i=3\/i=4\/i=5\/i=6:=by omega
      rcases cases7 with rfl | rfl | rfl | rfl | rfl | rfl | rfl
      . exact ⟨3,by decide,rfl⟩
      . exact ⟨4,by decide,rfl⟩
      . exact ⟨2,by decide,rfl⟩
      . exact ⟨3,by decide,rfl⟩
      . exact ⟨4,by decide,rfl⟩
      . exact ⟨1,by decide,rfl⟩
      . exact ⟨0,by decide,rfl⟩
    refine zAK (zFd (zA8 rfl (zA5 rfl ?_)));refine zAQ rfl (zAC (zAH (zAI rfl zAX) (n_cl (zAC ?_))));refine zA0 (zA0 (zAH (zAI rfl zAX) (zAS (zG5 (zA0 (zAS (zAH (zAI rfl zAX) (zAw (zBI (by decide)) (zG5 (n_cl (zAC ?_)))))))))));refine zBA ?_;(walk_at "e");refine zDS (zCO (by decide) (by decide)) ?_;(walk_at "e");refine zCc (by decide) ?_;refine zAz em (n_cl (zAi ?_));rw [show (a:Int)+1+8*(j:Int)=((a+1+8*j:Nat):Int) by omega];refine h36 ns _ m _ (by omega) hm fun ps hl hp=>?_
    refine n_fr (zM1 (zJb ps) ⟨μ.length,_,rfl,zAs (getN j rs),by rw [zB0];omega,zAv ?_⟩);have es:(μ++(news (μ.length+1) j::rs.map zFm)++[(ps.map ptD).map W.dat]).set μ.length (news (μ.length+1) j++[.loc (μ++(news (μ.length+1) j::rs.map zFm)).length])=μ++(news (μ.length+1) (j+1)::(rs++[ps]).map zFm):=by
      have ll:(μ++(news (μ.length+1) j::rs.map zFm)).length=μ.length+1+j:=by rw [length_append,length_cons,length_map,hj];omega
      rw [ll,append_assoc,set_append_right _ _ (le_refl _),sub_self,<- zC7,map_append]
      rfl
    dsimp only;rw [es];refine zAK (zBb (zA5 rfl (zA0 (zAH (zAI rfl zAX) (zAS (zDS (zCO (by decide) (by decide)) (zBG rfl (zAv (zCD ?_)))))))));(walk_at "s");refine ⟨some (.dat (.int j)),rs++[ps],_,rfl,by rw [length_append,hj];rfl,by omega,fun x hx=>?_⟩;rcases mem_append.mp hx with z | z
    . exact hs x z
    . rw [mem_singleton.mp z];exact ⟨hl,hp⟩
  . rintro s ⟨o4,rs,c,rfl,hj,hjk,hs⟩;have lw:((rngL 0 k).map W.dat).length=k:=by rw [length_map,zAZ]
    rw [lw] at hj;rw [lw];refine zAv (zAK (zFc (zA8 rfl (zPI ?_))));refine hQ _ rs ⟨by rw [zL2,hj];exact getN k rs,fun p hp=>?_⟩ (by omega) hs;obtain ⟨i,ps,e,rfl⟩:=zJu hp;exact getR k i rs ps e
theorem zL4 {μ:Mem}{n:Nat}{l:Lp}(e:Ll μ n l):∀ p∈l,p.1≠n:=fun p hp z=>by
  have h1:=e.row p hp;rw [z,e.top] at h1;have h2:=Option.some.inj h1;cases l with
  | nil=>exact absurd hp (by simp)
  | cons q l =>
    cases h3:p.2 with
    | nil=>rw [h3] at h2;cases h2
    | cons d ds=>rw [h3] at h2;cases h2
theorem zQQ {w h:Nat}{rs:List (List Pt)}(hw:w<=4)(hh:h<=4)(hl:rs.length<=2)(hs:∀ ps∈rs,ps.length<=6):(allP w h rs).length<=400:=by
  have:=zC9 (zDI w h) 72 rs fun ps hps=>by
    have a:=zFl w h ps;have b:=hs ps hps;have c:ps.length*(w+h+4)<=6*12:=Nat.mul_le_mul b (by omega);omega
  have:=mul_le_mul_right 72 hl;have e:(allP w h rs).length=(rs.flatMap (zDI w h)).length:=rfl;omega
theorem zF9 {w h:Nat}{zs:List Pc}(hz:∀ z∈zs,PcB 90 w h z)(hw:w<=100)(hl:zs.length<=400)(c r:Int):RB 4000001 (dueZ zs c r):=by
  refine (zIn (L:=400) (B:=4600) (by decide) ⟨by rw [length_map];exact hl,fun q hq=>?_⟩).2.2;obtain ⟨z,mz,rfl⟩:=mem_map.mp hq;have f:RB 2270 (zCL z):=(zKT (hz z mz)).mono (by decide);have g:RB 2270 (zCf z):=(zHU (hz z mz) hw).mono (by decide);have z0:RB 2270 (0:Rat):=(zC2 (n:=12) (i:=0) (zBT (k:=1) (by decide) (by decide)) (by decide)).mono (by decide);unfold dz;have a:RB 2270 (if z.r=r/\z.c < c then zCL z else 0):=by split<;>assumption
  have b:RB 2270 (if z.r=r/\z.c=c then zCf z else 0):=by split<;>assumption
  exact (zB7 a b).mono (by decide)
structure Tb (μ:Mem)(n b:Nat)(zs:List Pc)(w h:Nat):Prop where
  ll:Ll μ n (lpT b zs w h)
  pc:∀ z∈zs,PcB 90 w h z
  len:zs.length<=400
theorem Tb.dr {μ:Mem}{n b:Nat}{zs:List Pc}{w h:Nat}(t:Tb μ n b zs w h):drW μ (.loc n)=some (tabT zs w h):=by rw [t.ll.dr,zTQ]
theorem Tb.app {μ:Mem}{n b:Nat}{zs:List Pc}{w h:Nat}(t:Tb μ n b zs w h)(γ:Mem):Tb (μ++γ) n b zs w h:=⟨t.ll.app γ,t.pc,t.len⟩
theorem zNC (zs:List Pc)(w h:Nat)(Q:R->Prop)(hz:∀ z∈zs,PcB 90 w h z)(hl:zs.length<=400)(hw:w<=100)(hQ:Q (.bl true,.cl)):EvP (F40 [tabT zs w h,.int w,.int h]) Q:=by
  have e:tabT zs w h=.lst (((List.range h).map (rowZ zs w)).map zBF):=by unfold tabT;rw [map_map];rfl
  rw [e];refine h40 w h _ 4000001 Q (by rw [length_map,length_range]) (fun r hr=>?_) (by decide) hQ;obtain ⟨j,_,rfl⟩:=mem_map.mp hr;refine ⟨zI2 zs w j,fun q hq=>?_⟩;obtain ⟨i,hi,rfl⟩:=List.getElem_of_mem hq;have hi':i < w:=by rw [zI2] at hi;exact hi
  have e2:=zFi (zs:=zs) (r:=j) (fun z m=>(hz z m).c0) hi';rw [getElem?_eq_getElem hi] at e2;rw [Option.some.inj e2];exact zF9 hz hw hl _ _
theorem zO9 {m:Nat}{rs:List (List Pt)}(hs:∀ ps∈rs,Six ps):∀ p∈lpR m rs,noLs p.2=true/\p.2.length<=100:=fun p hp=>by
  obtain ⟨j,ps,e,rfl⟩:=zJu hp;exact ⟨zJb ps,by show (ps.map ptD).length<=100;rw [length_map];have:=(hs ps (mem_of_getElem? e)).1;omega⟩
theorem zON {l l':Lp}{f:List D->List D}(s:l'.map (fun p=>p.2)=l.map fun p=>f p.2):l'.length=l.length:=by
  have:=congrArg List.length s;rwa [length_map,length_map] at this
theorem zQn {w h n:Nat}{rs:List (List Pt)}{μ:Mem}{Q:MR->Prop}(w1:1<=w)(w2:w<=4)(h1:1<=h)(h2:h<=4)(hl:rs.length<=2)(hs:∀ ps∈rs,ps.length<=6/\∀ p∈ps,PB 90 p)(dr:drW μ (.loc n)=some (zAY rs))(hQ:∀ (γ:Mem) (m b:Nat),Tb (μ++γ) m b (allP w h rs) w h->Q (.loc m,μ++γ)):EvP (FM29 [.dat (.int (w:Int)),.dat (.int (h:Int)),.loc n] μ) Q:=by
  have fb:FlB 90 w h rs:=⟨w1,by omega,h1,by omega,by omega,by decide,fun ps hp=>⟨by have:=(hs ps hp).1;omega,(hs ps hp).2⟩⟩;have al:=zQQ w2 h2 hl fun ps hp=>(hs ps hp).1
  refine m29 90 w h rs (.loc n) μ Q fb (by omega) (by have:=mul_le_mul_right (24*90+101) al;omega) dr fun γ=>?_
  have T:=zRb (μ++γ) (allP w h rs) w h;have e:μ++γ++zBE (allP w h rs) w h++[news (μ++γ).length h]=μ++(γ++zBE (allP w h rs) w h++[news (μ++γ).length h]):=by simp only [append_assoc]
  rw [e] at T ⊢;exact hQ _ _ _ ⟨T,zN8 fb.w1 (by have:=fb.w2;omega) (by have:=fb.h2;omega) fb.r,al⟩
theorem zKe {Γ:Gm}{n:Nat}{ms:List Nat}{x y:Str}{src c e:E}:evE Γ (.comp2 n ms x y src c e)=zFK ms 2 (evI Γ src) (tg2 n (n+1)) (evC Γ c) (evE Γ e):=rfl
theorem zMW {Γ:Gm}{δ:Dst}{n:Nat}{ms:List Nat}{x y:Str}{src c el:E}{Q:R->Prop}(h:EvP (evI Γ src δ) fun zs=>zs.length<=10000/\EvP (zBY (tg2 n (n+1)) (evC Γ c) (evE Γ el) zs (mask none ms δ++[none,none])) fun ys=>Q (.lst ys,.fr)):EvP (evE Γ (.comp2 n ms x y src c el) δ) Q:=by
  obtain ⟨zs,e,hl,ys,e2,q⟩:=h;refine ⟨_,?_,q⟩;rw [zKe];unfold zFK;rw [e];show (if zs.length<=10000 then _ else _)=_;rw [if_pos hl];show (zBY _ _ _ zs (mask none ms δ++[none,none])).bind _=_;rw [e2]
  rfl
theorem zSj {α:Type}{Γ:Gm}{n:Nat}{el:E}{base:Dst}{Q:List D->Prop}(hn:base.length=n)(u v g:α->D)(as:List α)(o p:Option (D×Bool))(ha:∀ a∈as,EvP (evE Γ el (base++[some (u a,false),some (v a,false)])) fun r=>r.2≠.dt/\r.1=g a)(h:Q (as.map g)):EvP (zBY (tg2 n (n+1)) (evC Γ .nil) (evE Γ el) (as.map fun a=>.tup [u a,v a]) (base++[o,p])) Q:=by
  induction as generalizing o p Q with
  | nil=>exact ⟨_,rfl,h⟩
  | cons a as ih =>
    obtain ⟨r,e,nd,er⟩:=ha a mem_cons_self;obtain ⟨ys,e2,q⟩:=ih (some (u a,false)) (some (v a,false)) (Q:=fun ys=>Q (g a::ys)) (fun b hb=>ha b (mem_cons_of_mem _ hb)) h;refine ⟨_,?_,q⟩;have es:((base++[o,p]).set n (some (u a,false))).set (n+1) (some (v a,false))=base++[some (u a,false),some (v a,false)]:=by
      rw [set_append_right _ _ (by omega),set_append_right _ _ (by omega),hn,sub_self,Nat.add_sub_cancel_left];rfl
    have et:tg2 n (n+1) (.tup [u a,v a]) (base++[o,p])=some (base++[some (u a,false),some (v a,false)]):=by rw [<- es];rfl
    show (tg2 n (n+1) (.tup [u a,v a]) (base++[o,p])).bind _=_;rw [et,Option.bind_some,zDQ,Option.bind_some,if_pos rfl,e,Option.bind_some,if_neg nd,er];rw [zDQ] at e2;show (zBY _ _ _ (as.map fun a=>.tup [u a,v a]) (base++[some (u a,false),some (v a,false)])).bind _=_;rw [e2]
    rfl
theorem zI7 {p q:Rat}(h:ratD p=ratD q):p=q:=by
  unfold ratD at h;injection h with h
  injection h with h1 h2
  injection h2 with h2 _
  injection h1 with h1
  injection h2 with h2
  exact Rat.ext h1 (by omega)
theorem zQw {p q:Pt}(h:ptD p=ptD q):p=q:=by
  unfold ptD at h;injection h with h
  injection h with h1 h2
  injection h2 with h2 _
  exact Prod.ext (zI7 h1) (zI7 h2)
open Classical in
def ptF (T:Pt->Pt)(d:D):D:=if h:∃ p:Pt,d=ptD p then ptD (T (Classical.choose h)) else d
theorem zNV (T:Pt->Pt)(p:Pt):ptF T (ptD p)=ptD (T p):=by
  have h:∃ q:Pt,ptD p=ptD q:=⟨p,rfl⟩;unfold ptF;rw [dif_pos h];rw [<- zQw (choose_spec h)]
theorem zLg (T:Pt->Pt)(ps:List Pt):(ps.map ptD).map (ptF T)=(ps.map T).map ptD:=by
  rw [map_map,map_map];exact map_congr_left fun p _=>zNV T p
def LamT (F:List D->Option R)(T:Pt->Pt)(dl:List D)(p:Pt):Prop:=∀ Q:R->Prop,Q (ptD (T p),.cl)->EvP (F (ptD p::dl)) Q
theorem zPG {T:Pt->Pt}{dl:List D}{J:Nat}{L:LamI}{FL:List D->Option R}(el:GL0.lm[J]?=some (L,FL))(n m:Nat)(ps:List Pt)(μ:Mem)(e:μ[m]?=some ((ps.map ptD).map .dat))(hl:ps.length<=100)(hq:∀ p∈ps,LamT FL T dl p) :
    EvP (evM GL0 D0 (.comp 3 [] "point" (.it (.var 2)) (.pur (.callv 1 (.var 3)))) ⟨[some (.loc n),some (.dat (.lam J L dl)),some (.loc m)],μ⟩) fun r=>r=(.loc μ.length,μ++[((ps.map ptD).map (ptF T)).map .dat]):=by
  refine zFw (zCn (zA8 rfl ⟨m,rfl,?_⟩));obtain ⟨y,s',M,ey,⟨o,p1,p2⟩,p4⟩:=zGE (t:=tgM 3) (e:=evM GL0 D0 (.pur (.callv 1 (.var 3)))) (src:=.live m) (s:=⟨mask none [] [some (.loc n),some (.dat (.lam J L dl)),some (.loc m)]++[none],μ⟩) ((ps.map ptD).map .dat)
    (fun j s d=>∃ o:Option W,s=⟨[some (.loc n),some (.dat (.lam J L dl)),some (.loc m),o],μ⟩/\d=(((ps.map ptD).map (ptF T)).take j).map W.dat) (fun j s d zy123=>by obtain ⟨o,q1,_⟩:=zy123;subst q1;exact e) (fun j w s d ew zz106=>by
      obtain ⟨o,q1,q2⟩:=zz106;subst q1 q2;rw [getElem?_map,getElem?_map] at ew;obtain ⟨d1,ew1,rfl⟩:=map_eq_some_iff.mp ew;obtain ⟨p,ep,rfl⟩:=map_eq_some_iff.mp ew1;refine ⟨by rw [length_map,length_take,length_map,length_map];omega,⟨[some (.loc n),some (.dat (.lam J L dl)),some (.loc m),some (.dat (ptD p))],μ⟩,(.dat (ptD (T p)),μ),rfl,?_,some (.dat (ptD p)),rfl,?_⟩
      . refine (zA5 (Q:=fun r=>r=(W.dat (ptD (T p)),μ)) rfl ?_).eq;refine zMX (zAI rfl zAX) el (zAH (zAI rfl zAX) ⟨(fun z=>nomatch z),?_⟩);exact hq p (mem_of_getElem? ep) _ ⟨(fun z=>nomatch z),zBG rfl rfl⟩
      . rw [take_add_one,getElem?_map,getElem?_map,ep,map_append];show _=_++[W.dat (ptF T (ptD p))];rw [zNV]) ⟨none,rfl,rfl⟩
  rw [length_map,length_map] at p2;subst p1;have e2:y=(((ps.map ptD).map (ptF T)).map W.dat,μ):=Prod.ext (by rw [p2,take_of_length_le (by rw [length_map,length_map];exact le_refl _)]) p4.symm;refine ⟨y,M,ey,by rw [e2];show (((ps.map ptD).map (ptF T)).map W.dat).length<=_;rw [length_map,length_map,length_map];omega,?_⟩;rw [e2]
theorem m10 {T:Pt->Pt}{dl:List D}{J:Nat}{L:LamI}{FL:List D->Option R}(el:GL0.lm[J]?=some (L,FL))(n:Nat)(μ:Mem)(l:Lp)(Q:MR->Prop)(e:Ll μ n l)(hl:l.length<=100)(hr:∀ p∈l,∃ ps:List Pt,p.2=ps.map ptD/\ps.length<=100/\∀ q∈ps,LamT FL T dl q)
    (hQ:∀ (γ:Mem) (l':Lp),Ll (μ++γ) (μ.length+l.length) l'->(∀ p∈l',μ.length<=p.1)->l'.map (fun p=>p.2)=l.map (fun p=>p.2.map (ptF T))->Q (.loc (μ.length+l.length),μ++γ)):EvP (FM10 [.loc n,.dat (.lam J L dl)] μ) Q:=by
  refine zKS rfl (by decide) ?_;unfold mb10;show EvP (evSs' GL0 D0 _ ⟨[some (.loc n),some (.dat (.lam J L dl))],μ⟩) _;refine zAK (zFc ?_);refine zNk (f:=List.map (ptF T)) (zCn (zA8 rfl ⟨n,rfl,rfl⟩)) e rfl hl (fun γ p hp ep=>?_) fun γ l' L' g s=>zPI (hQ γ l' L' g s)
  obtain ⟨ps,ep2,lp,hq⟩:=hr p hp;rw [ep2] at ep ⊢;exact zPG el n p.1 ps _ ep lp hq
theorem zOS {l l':Lp}{rs:List (List Pt)}(T:Pt->Pt)(h:llD l=zAY rs)(s:l'.map (fun p=>p.2)=l.map fun p=>p.2.map (ptF T)):llD l'=zAY (rs.map (List.map T)):=by
  have e1:l'.map (fun p=>D.lst p.2)=(l'.map fun p=>p.2).map D.lst:=by rw [map_map];rfl
  have e2:(l.map fun p=>D.lst p.2)=rs.map zBg:=D.lst.inj h;have e3:l.map (fun p=>p.2)=rs.map fun ps=>ps.map ptD:=by
    have:=congrArg (List.map fun d:D=>match d with | .lst x=>x | _=>[]) e2;rw [map_map,map_map] at this;exact this
  unfold llD;rw [e1,s];have e4:l.map (fun p=>p.2.map (ptF T))=(l.map fun p=>p.2).map (List.map (ptF T)):=by rw [map_map];rfl
  rw [e4,e3,map_map,map_map];unfold zAY;rw [map_map];congr 1;apply map_congr_left;intro ps _;show D.lst ((ps.map ptD).map (ptF T))=D.lst ((ps.map T).map ptD);rw [zLg]
theorem zHT {l:Lp}{rs:List (List Pt)}(h:llD l=zAY rs):∀ p∈l,∃ ps∈rs,p.2=ps.map ptD:=fun p hp=>by
  have e2:(l.map fun p=>D.lst p.2)=rs.map zBg:=D.lst.inj h;have m:D.lst p.2∈l.map fun p=>D.lst p.2:=mem_map.mpr ⟨p,hp,rfl⟩
  rw [e2] at m;obtain ⟨ps,mp,e⟩:=mem_map.mp m;exact ⟨ps,mp,(D.lst.inj e).symm⟩
abbrev sc (a:Rat):Pt->Pt:=DM.scT a
theorem hL {p:Pt}{a:Rat}(hp:PB 41 p)(ha:RB 41 a):LamT FL0 (sc a) [ratD a] p:=fun Q h=>by
  refine zRd rfl rfl ?_;show EvP (evE G43 lb0 [some (ptD p,false),some (ratD a,false)]) _;unfold lb0;(walk_at "w");refine h4 p.1 a 41 41 _ hp.x ha (by decide) ?_;(walk_at "w");refine h4 p.2 a 41 41 _ hp.y ha (by decide) ?_;(walk_at "w");exact h
theorem m11 {a:Rat}(ha:RB 41 a)(n:Nat)(μ:Mem)(l:Lp)(rs:List (List Pt))(Q:MR->Prop)(e:Ll μ n l)(el:llD l=zAY rs)(hl:l.length<=100)(hs:∀ ps∈rs,Six ps)
    (hQ:∀ (γ:Mem) (l':Lp),Ll (μ++γ) (μ.length+l.length) l'->(∀ p∈l',μ.length<=p.1)->l'.length=l.length->llD l'=zAY (rs.map (List.map (sc a)))->Q (.loc (μ.length+l.length),μ++γ)):EvP (FM11 [.loc n,.dat (ratD a)] μ) Q:=by
  obtain ⟨r,er,q⟩:=m10 (T:=sc a) (dl:=[ratD a]) (J:=0) (L:=L0) (FL:=FL0) rfl n μ l Q e hl (fun p hp=>by
    obtain ⟨ps,mp,ep⟩:=zHT el p hp;exact ⟨ps,ep,by have:=(hs ps mp).1;omega,fun q hq=>hL ((hs ps mp).2 q hq) ha⟩) fun γ l' L' g s=>hQ γ l' L' g (by have:=congrArg List.length s;rwa [length_map,length_map] at this) (zOS (sc a) el s)
  exact ⟨r,er,q⟩
theorem h42 {a:Rat}(ha:RB 41 a)(rs:List (List Pt))(Q:R->Prop)(hl:rs.length<=100)(hs:∀ ps∈rs,Six ps)(hQ:Q (zAY (rs.map (List.map (sc a))),.fr)):EvP (F42 [zAY rs,ratD a]) Q:=by
  (walk_at "d");unfold b42;(walk_at "st");refine zAE (zCN (zDD (zFZ (zAH rfl (w_cl (ds:=rs.map zBg) ⟨by rw [length_map];omega,?_⟩)))));refine zKv (Γ:=G42) (base:=[some (zAY rs,false),some (ratD a,false)]) rfl zBg (fun ps=>zBg (ps.map (sc a))) rs none ?_ ?_
  . intro ps hp;have h6:=hs ps hp;refine zMW (zFZ (zAH rfl (w_cl (ds:=ps.map ptD) ⟨by rw [length_map];have:=h6.1;omega,?_⟩)));refine zSj (Γ:=G42) (base:=[some (zAY rs,false),some (ratD a,false),some (zBg ps,false)]) rfl (fun p:Pt=>ratD p.1) (fun p=>ratD p.2) (fun p=>ptD (sc a p)) ps none none (fun p mp=>?_) ?_
    . have bp:=h6.2 p mp;(walk_at "w");refine h39 p.1 a 41 41 _ bp.x ha (by decide) ?_;(walk_at "w");refine h39 p.2 a 41 41 _ bp.y ha (by decide) ?_;(walk_at "w")
      rfl
    . refine ⟨(fun z=>nomatch z),?_⟩;show D.lst (ps.map fun p=>ptD (sc a p))=D.lst ((ps.map (sc a)).map ptD);rw [map_map]
      rfl
  . have e:rs.map (fun ps=>zBg (ps.map (sc a)))=(rs.map (List.map (sc a))).map zBg:=by rw [map_map];rfl
    rw [e];(walk_at "w");exact hQ
theorem zS9 (o0 o1 o2 o3 o4 o5 o6 o8 o9 o10 o11 o12 o13 o14 o15:Option W)(b n6:Nat)(l6:Lp)(μ:Mem)(rest:MT)(Q:OutM->Prop)(L6:Ll μ n6 l6)(b6:b<=n6)(c6:∀ p∈l6,b<=p.1)(d6:∀ p∈l6,p.2.length<=100)(hl:l6.length<=100)
    (hQ:∀ (o8:Option W) (μ2:Mem),(∀ x,x < b->μ2[x]?=μ[x]?)->b<=μ2.length->EvP (evSs' GL0 D5 rest ⟨[o0,o1,o2,o3,o4,o5,o6,some (.loc n6),o8,o9,o10,o11,o12,o13,o14,o15],μ2⟩) Q) :
    EvP (evSs' GL0 D5 (.cons (.for1 8 (.it (.var 7)) (.cons (.app (.var 8) (.pur .non)) .nil)) (.cons (.app (.var 7) (.lst .nil)) rest)) ⟨[o0,o1,o2,o3,o4,o5,o6,some (.loc n6),o8,o9,o10,o11,o12,o13,o14,o15],μ⟩) Q:=by
  have ap:=zL4 L6;refine zAK (zCo (zCn (zA8 rfl ⟨n6,rfl,?_⟩)));refine zD7 (s:=⟨_,_⟩) (l6.map fun p=>.loc p.1) (fun j s=>∃ (o8:Option W) (μ':Mem),s=⟨[o0,o1,o2,o3,o4,o5,o6,some (.loc n6),o8,o9,o10,o11,o12,o13,o14,o15],μ'⟩/\(∀ x,x < b->μ'[x]?=μ[x]?)/\μ'[n6]?=some (l6.map fun p=>.loc p.1)/\j<=l6.length/\∀ p∈l6,∃ ws,μ'[p.1]?=some ws/\ws.length<=200+j) ?_ ?_ ?_ ⟨o8,μ,rfl,fun _ _=>rfl,L6.top,zero_le _,fun p hp=>⟨_,L6.row p hp,by rw [length_map];have:=d6 p hp;omega⟩⟩
  . rintro j s ⟨o,μ',rfl,_,q,_⟩;exact q
  . rintro j y s ey ⟨o,μ',rfl,q1,q2,q3,q4⟩;rw [getElem?_map] at ey;obtain ⟨p,ep,rfl⟩:=map_eq_some_iff.mp ey;have hj:j < l6.length:=(zzg ep).1;have mp:=mem_of_getElem? ep;obtain ⟨ws,ew,lw⟩:=q4 p mp;refine ⟨_,rfl,?_⟩;dsimp only;(walk_at "s");refine zAK (zFd (zA8 rfl (zA5 rfl (zNy (zBG rfl ⟨p.1,ws,rfl,ew,by omega,zAv (zCD ?_)⟩)))));refine ⟨some (.loc p.1),_,rfl,fun x hx=>?_,?_,by omega,fun p' hp'=>?_⟩
    . rw [getElem?_set_ne (by have:=c6 p mp;omega)];exact q1 x hx
    . rw [getElem?_set_ne (ap p mp)];exact q2
    . by_cases z:p.1=p'.1
      . exact ⟨ws++[.dat .non],by rw [<- z];exact getElem?_set_self (zzg ew).1,by rw [length_append];show ws.length+1<=_;omega⟩
      . obtain ⟨vs,ev,lv⟩:=q4 p' hp';exact ⟨vs,by rw [getElem?_set_ne z];exact ev,by omega⟩
  . rintro s ⟨o,μ',rfl,q1,q2,q3,q4⟩;refine zAv ?_;have hb:n6 < μ'.length:=(zzg q2).1;refine zAK (zFd (zA8 rfl (zJs (zCJ ⟨zero_le _,n6,_,rfl,zAs q2,by rw [length_map];omega,zAv ?_⟩))));dsimp only;refine hQ _ _ (fun x hx=>?_) ?_
    . rw [getElem?_set_ne (by omega),getElem?_append_left (by omega)];exact q1 x hx
    . rw [length_set,length_append];omega
def Nine (ps:List Pt):Prop:=ps.length<=6/\∀ p∈ps,PB 90 p
theorem zLw {rs:List (List Pt)}(hs:∀ ps∈rs,Six ps):∀ ps∈rs,Nine ps:=fun ps hp=>⟨(hs ps hp).1,fun p hq=>⟨((hs ps hp).2 p hq).1.mono (by decide),((hs ps hp).2 p hq).2.mono (by decide)⟩⟩
theorem zJc {a:Rat}(ha:RB 41 a){rs:List (List Pt)}(hs:∀ ps∈rs,Six ps):∀ ps∈rs.map (List.map (sc a)),Nine ps:=fun ps hp=>by
  obtain ⟨ps',hp',rfl⟩:=mem_map.mp hp;refine ⟨by rw [length_map];exact (hs ps' hp').1,fun p hq=>?_⟩;obtain ⟨p',hq',rfl⟩:=mem_map.mp hq;have k:=(hs ps' hp').2 p' hq';exact ⟨(zES k.1 ha).mono (by decide),(zES k.2 ha).mono (by decide)⟩
theorem zDm {f g:Pt×Pt->Rat}(ps:List Pt):DM.zAg f ps+DM.zAg g ps=DM.zAg (fun s=>f s+g s) ps:=by
  rw [<- DM.zBm,<- DM.zBm,<- DM.zBm,DM.zCS]
theorem zID {a b c d e f:Rat}(ab:a<=b)(bc:b<=c)(de:d<=e)(ef:e<=f)(ps:List Pt):(DM.zAg (DM.boxG a b d e) ps+DM.zAg (DM.boxG b c d e) ps)+(DM.zAg (DM.boxG a b e f) ps+DM.zAg (DM.boxG b c e f) ps)=DM.zAg (DM.boxG a c d f) ps:=by
  rw [zDm,zDm,zDm];refine DM.zDU (fun s=>?_) ps;rw [DM.zGK ab bc de,DM.zGK ab bc ef,DM.zK3 (Rat.le_trans ab bc) de ef]
theorem zIs (k:Rat):∀ l:List Rat,DM.sumR (l.map fun x=>k*x)=k*DM.sumR l
  | []=>by simp [DM.sumR,Rat.mul_zero]
  | x::l=>by
    have ih:=zIs k l;simp only [DM.sumR,map_cons,List.foldr_cons] at ih ⊢;rw [ih,Rat.mul_add]
abbrev dL (w h:Nat) (rs:List (List Pt)) (c r:Nat):Rat:=dueZ (allP (2*w) (2*h) rs) (c:Int) (r:Int)
abbrev li (j:Nat):List W:=[.dat (.int ((2*j:Nat):Int)),.dat (.int ((2*j+1:Nat):Int))]
abbrev lq (q:Rat):List W:=[.dat (ratD q),.dat (ratD 0),.dat (ratD 1)]
theorem zMm {w h:Nat}{rs:List (List Pt)}{i j:Nat}(i1:i < w)(j1:j < h):dueZ (allP w h (rs.map (List.map (sc (1 / 2))))) (i:Int) (j:Int)=(0+(dL w h rs (2*i) (2*j)+dL w h rs (2*i+1) (2*j))+(dL w h rs (2*i) (2*j+1)+dL w h rs (2*i+1) (2*j+1)))*(1 / 4):=by
  unfold dL;rw [zGP _ (by omega) (by omega) (by omega) (by omega),zGP _ (by omega) (by omega) (by omega) (by omega),zGP _ (by omega) (by omega) (by omega) (by omega),zGP _ (by omega) (by omega) (by omega) (by omega),zGP _ (by omega) (by omega) (by omega) (by omega),Rat.zero_add,<- DM.zCS,<- DM.zCS,<- DM.zCS,map_map,Rat.mul_comm,<- zIs,map_map];refine DM.zBQ fun ps _=>?_
  show DM.zAg (boxC i j) (ps.map (DM.scT (1 / 2)))=1 / 4*_;rw [DM.zGb (DM.zDz _) (DM.zDz _)];congr 1;have c2:∀ k:Nat,(2:Rat)*((k:Int):Rat)=(((2*k:Nat):Int):Rat):=fun k=>by rw [Int.natCast_mul,Rat.intCast_mul];rfl
  have c3:∀ k:Nat,(2:Rat)*(((k:Int)+1:Int):Rat)=((((2*k+1:Nat):Int)+1:Int):Rat):=fun k=>by
    rw [show (((2*k+1:Nat):Int)+1:Int)=2*((k:Int)+1) by omega,Rat.intCast_mul];rfl
  have c4:∀ k:Nat,(((2*k:Nat):Int)+1:Int)=((2*k+1:Nat):Int):=fun k=>by omega
  rw [c2,c2,c3,c3];have k:=zID (a:=(((2*i:Nat):Int):Rat)) (b:=(((2*i+1:Nat):Int):Rat)) (c:=((((2*i+1:Nat):Int)+1:Int):Rat)) (d:=(((2*j:Nat):Int):Rat)) (e:=(((2*j+1:Nat):Int):Rat)) (f:=((((2*j+1:Nat):Int)+1:Int):Rat)) (by rw [<- c4];exact DM.zDz _) (DM.zDz _) (by rw [<- c4];exact DM.zDz _) (DM.zDz _) ps;rw [<- k];show _=(DM.zAg (boxC ((2*i:Nat):Int) ((2*j:Nat):Int)) ps+DM.zAg (boxC ((2*i+1:Nat):Int) ((2*j:Nat):Int)) ps)+(DM.zAg (boxC ((2*i:Nat):Int) ((2*j+1:Nat):Int)) ps+DM.zAg (boxC ((2*i+1:Nat):Int) ((2*j+1:Nat):Int)) ps);unfold boxC;rw [c4,c4]
theorem idx {n j:Nat}{y:W}(e:((rngL 0 n).map W.dat)[j]?=some y):y=.dat (.int (j:Int))/\j < n:=by
  have hj:j < n:=by
    have:=(zzg e).1;rw [length_map,zAZ] at this;exact this
  unfold rngL at e;rw [map_map,getElem?_map,getElem?_range hj] at e;have:=(Option.some.inj e).symm;exact ⟨by rw [this];simp,hj⟩
theorem zLZ {l:Lp}{rs:List (List Pt)}(h:llD l=zAY rs)(hs:∀ ps∈rs,ps.length<=6):∀ p∈l,p.2.length<=100:=fun p hp=>by
  obtain ⟨ps,mp,e⟩:=zHT h p hp;rw [e,length_map];have:=hs ps mp;omega
theorem zT1 {p q:Rat}{Q:R->Prop}(e:p=q)(h:Q (.bl false,.cl)):EvP (cmpD .NotEq (ratD p) (ratD q)) Q:=by
  subst e;refine zK1 ?_;rw [decide_eq_true rfl];exact h
theorem zJz {μ:Mem}{ws:List W}:(μ++[ws])[μ.length]?=some ws:=by rw [getElem?_append_right (le_refl _),sub_self];rfl
theorem zGV {zs:List Pc}{w h i j:Nat}(hz:∀ z∈zs,PcB 90 w h z)(hi:i < w)(hj:j < h){Q:R->Prop}{Γ:Gm}{δ:Dst}{k a:Nat}{e:E}(ek:δ[k]?=some (some (tabT zs w h,false)))(ea:δ[a]?=some (some (.int (j:Int),false)))(ee:∀ Q:R->Prop,Q (.int (i:Int),.cl)->EvP (evE Γ e δ) Q)(hQ:Q (ratD (dueZ zs i j),.cl)):EvP (evE Γ (.ix (.ix (.var k) (.var a)) e) δ) Q:=by
  have e1:atI ((List.range h).map fun r=>zBF (rowZ zs w r)) (j:Int)=some (zBF (rowZ zs w j)):=zAo (by rw [getElem?_map,getElem?_range hj];rfl);have e2:atI ((rowZ zs w j).map ratD) (i:Int)=some (ratD (dueZ zs i j)):=zAo (by rw [getElem?_map,zFi (fun z m=>(hz z m).c0) hi];rfl);exact zBA (zBA (zAH ek (zAH ea (zAz e1 (ee _ (zAz e2 hQ))))))
theorem zDF (i:Nat):(2:Int)*(i:Int)=((2*i:Nat):Int):=by omega
theorem zHK (i:Nat):(2:Int)*(i:Int)+1=((2*i+1:Nat):Int):=by omega
abbrev rowB:MT:=.cons (.set 14 (.pur (.call 38 "_law_plus" (.cons (.var 14) (.cons (.call 38 "_law_plus" (.cons (.ix (.ix (.var 11) (.var 15)) (.bin .Mult (.int 2) (.var 13))) (.cons (.ix (.ix (.var 11) (.var 15)) (.bin .Add (.bin .Mult (.int 2) (.var 13)) (.int 1))) .nil))) .nil))))) .nil
theorem zNN (o0 o1 o2 o3 o4 o5 o6 o7 o8 o9 o10 o12:Option W)(w h n11 q11 i k B:Nat)(q:Rat)(rs:List (List Pt))(μ:Mem)(Q:OutM->Prop)(T11:Tb μ n11 q11 (allP (2*w) (2*h) rs) (2*w) (2*h))(hi:i < w)(hk:k < 2*h)(hw:2*w<=100)(rq:RB B q)(hB:B<=20000000)
    (hQ:Q (.nx ⟨[o0,o1,o2,o3,o4,o5,o6,o7,o8,o9,o10,some (.loc n11),o12,some (.dat (.int (i:Int))),some (.dat (ratD (q+(dL w h rs (2*i) k+dL w h rs (2*i+1) k)))),some (.dat (.int (k:Int)))],μ⟩)) :
    EvP (evSs' GL0 D5 rowB ⟨[o0,o1,o2,o3,o4,o5,o6,o7,o8,o9,o10,some (.loc n11),o12,some (.dat (.int (i:Int))),some (.dat (ratD q)),some (.dat (.int (k:Int)))],μ⟩) Q:=by
  refine zAK (zBb (zA5 rfl (zAQ rfl (zAC (zAH (zAI rfl zAX) (n_cl (zAC (zAQ rfl (zAC ?_)))))))));refine zGV T11.pc (i:=2*i) (j:=k) (by omega) hk (zAI rfl T11.dr) (zAI rfl zAX) (fun Q hQ=>zA0 (zAS (zAH (zAI rfl zAX) (zAw (zBI (by decide)) (by rw [zDF];exact hQ))))) ?_;refine n_cl (zAC ?_);refine zGV T11.pc (i:=2*i+1) (j:=k) (by omega) hk (zAI rfl T11.dr) (zAI rfl zAX) (fun Q hQ=>zA0 (zA0 (zAS (zAH (zAI rfl zAX) (zAw (zBI (by decide)) (zAS (zG5 (by rw [zHK];exact hQ))))))) ) ?_;refine n_cl (zAi ?_);have r1:=zF9 T11.pc hw T11.len ((2*i:Nat):Int) (k:Int);have r2:=zF9 T11.pc hw T11.len ((2*i+1:Nat):Int) (k:Int);refine h38 _ _ _ _ _ r1 r2 (by decide) ?_;refine n_cl (n_cl (zAi ?_));refine h38 _ _ _ _ _ rq (zB7 r1 r2) (by omega) ?_;refine n_cl (zBG rfl (zAv (zCD ?_)));exact hQ
theorem zPE (o0:Option W)(w h n3 n4 n10 n11 q10 q11:Nat)(rs:List (List Pt))(μ:Mem)(o5 o6 o7 o8 o9:Option W)(hw:2*w<=100)(hh:h<=100)(d3:drW μ (.loc n3)=some (zAY rs))(d4:drW μ (.loc n4)=some (zAY rs))(T10:Tb μ n10 q10 (allP w h (rs.map (List.map (sc (1 / 2))))) w h)(T11:Tb μ n11 q11 (allP (2*w) (2*h) rs) (2*w) (2*h)) :
    EvP (evSs' GL0 D5 (.cons (.for1 12 (.rng (.var 2)) (.cons (.for1 13 (.rng (.var 1)) (.cons (.set 14 (.pur (.tup (.cons (.int 0) (.cons (.int 1) .nil))))) (.cons (.for1 15 (.it (.lst (.cons (.pur (.bin .Mult (.int 2) (.var 12))) (.cons (.pur (.bin .Add (.bin .Mult (.int 2) (.var 12)) (.int 1))) .nil)))) rowB) (.cons (.ife (.pur (.cmp .NotEq (.ix (.ix (.var 10) (.var 12)) (.var 13)) (.call 39 "_law_times" (.cons (.var 14) (.cons (.tup (.cons (.int 1) (.cons (.int 4) .nil))) .nil))))) (.cons (.ret (.pur (.bl false))) .nil) .nil) .nil)))) .nil)) (.cons (.ret (.pur (.cmp .Eq (.var 4) (.var 3)))) .nil)) ⟨[o0,some (.dat (.int (w:Int))),some (.dat (.int (h:Int))),some (.loc n3),some (.loc n4),o5,o6,o7,o8,o9,some (.loc n10),some (.loc n11),none,none,none,none],μ⟩) (KFM fun x=>x.1=.dat (.bl true)):=by
  refine zAK (zCo (zDH (zA8 rfl ⟨_,rfl,by omega,?_⟩)));rw [toNat_natCast];refine zD7 (s:=⟨_,_⟩) ((rngL 0 h).map .dat) (fun j s=>∃ o12 o13 o14 o15 γ,s=⟨[o0,some (.dat (.int (w:Int))),some (.dat (.int (h:Int))),some (.loc n3),some (.loc n4),o5,o6,o7,o8,o9,some (.loc n10),some (.loc n11),o12,o13,o14,o15],μ++γ⟩) (fun _ _ _=>rfl) ?_ ?_ ⟨none,none,none,none,[],by rw [append_nil]⟩
  . rintro j y s ey ⟨o12,o13,o14,o15,γ,rfl⟩;obtain ⟨rfl,hj⟩:=idx ey;refine ⟨_,rfl,?_⟩;dsimp only;(walk_at "s");refine zAK (zCo (zDH (zA8 rfl ⟨_,rfl,by omega,?_⟩)));rw [toNat_natCast];refine zD7 (s:=⟨_,_⟩) ((rngL 0 w).map .dat) (fun i s=>∃ o13 o14 o15 γ,s=⟨[o0,some (.dat (.int (w:Int))),some (.dat (.int (h:Int))),some (.loc n3),some (.loc n4),o5,o6,o7,o8,o9,some (.loc n10),some (.loc n11),some (.dat (.int (j:Int))),o13,o14,o15],μ++γ⟩) (fun _ _ _=>rfl) ?_ ?_ ⟨o13,o14,o15,γ,rfl⟩
    . rintro i y s ey ⟨o13,o14,o15,γ,rfl⟩;obtain ⟨rfl,hi⟩:=idx ey;refine ⟨_,rfl,?_⟩;dsimp only;(walk_at "s");refine zAK (zBb (zA5 rfl (zD8 (zAC (zAS (n_cl (zAC (zAS (n_cl (zAi ⟨by show 2<=10000;decide,zBG rfl (zAv ?_)⟩))))))))));(walk_at "s");refine zAK (zCo (zCn (zJs (zAn (zA5 rfl (zA0 (zAS (zAH (zAI rfl zAX) (zAw (zBI (by decide)) (zBG rfl (zAn (zA5 rfl ?_))))))))))));refine zA0 (zA0 (zAS (zAH (zAI rfl zAX) (zAw (zBI (by decide)) (zAS (zG5 (zBG rfl (zCJ ⟨by show 2<=10000;decide,_,rfl,?_⟩))))))));dsimp only;rw [zHK,zDF];have T10':=(T10.app γ).app [li j];have T11':=(T11.app γ).app [li j];have gl:(μ++γ++[li j])[(μ++γ).length]?=some (li j):=zJz;have r0:RB 41 (0:Rat):=zC2 (i:=0) (zBT (k:=3) (by decide) (by decide)) (by decide);have rr:∀ x y z:Nat,RB 8000003 (dL w h rs x z+dL w h rs y z):=fun x y z=>zB7 (zF9 T11.pc hw T11.len x z) (zF9 T11.pc hw T11.len y z)
      have ra:=rr (2*i) (2*i+1) (2*j);refine zD7 (s:=⟨_,_⟩) (li j) (fun t s=>∃ o15,s=⟨[o0,some (.dat (.int (w:Int))),some (.dat (.int (h:Int))),some (.loc n3),some (.loc n4),o5,o6,o7,o8,o9,some (.loc n10),some (.loc n11),some (.dat (.int (j:Int))),some (.dat (.int (i:Int))),some (.dat (ratD (match t with | 0=>0 | 1=>0+(dL w h rs (2*i) (2*j)+dL w h rs (2*i+1) (2*j)) | _=>0+(dL w h rs (2*i) (2*j)+dL w h rs (2*i+1) (2*j))+(dL w h rs (2*i) (2*j+1)+dL w h rs (2*i+1) (2*j+1))))),o15],μ++γ++[li j]⟩) ?_ ?_ ?_ ⟨_,rfl⟩
      . rintro t s ⟨o,rfl⟩;exact gl
      . rintro t y s ey ⟨o,rfl⟩
        match t,ey with
        | 0,ey =>
          cases ey;refine ⟨_,rfl,?_⟩;exact zNN _ _ _ _ _ _ _ _ _ _ _ _ w h n11 q11 i (2*j) 41 0 rs _ _ T11' hi (by omega) hw r0 (by decide) ⟨_,rfl⟩
        | 1,ey =>
          cases ey;refine ⟨_,rfl,?_⟩;exact zNN _ _ _ _ _ _ _ _ _ _ _ _ w h n11 q11 i (2*j+1) _ _ rs _ _ T11' hi (by omega) hw (zB7 r0 ra) (by decide) ⟨_,rfl⟩
        | t+2,ey=>cases ey
      . rintro s ⟨o,rfl⟩;refine zAv ?_;dsimp only [length_cons,length_nil];have rb:=rr (2*i) (2*i+1) (2*j+1);have n4:(1 / 4:Rat).num=1:=by decide +kernel
        have d4:(1 / 4:Rat).den=4:=by decide +kernel
        have r4:RB 41 (1 / 4:Rat):=⟨by rw [n4];exact zBT (k:=4) (by decide) (by decide),by rw [d4];exact zBT (k:=4) (by decide) (by decide)⟩;refine zAK (zHP (zLS rfl (zBV (zGV T10'.pc hi hj (zAI rfl T10'.dr) (zAI rfl zAX) (fun Q hQ=>zAH (zAI rfl zAX) hQ) (zAQ rfl (zAC (zAH (zAI rfl zAX) (n_cl (zAC ?_)))))))));refine zD8 (zAC (zAS (n_cl (zAC (zAS (n_cl (zAi ⟨by show 2<=10000;decide,n_cl (zAi ?_)⟩)))))));have e4:D.tup [.int 1,.int 4]=ratD (1 / 4):=by unfold ratD;rw [n4,d4];rfl
        rw [e4];refine h39 _ _ _ _ _ (zB7 (zB7 r0 ra) rb) r4 (by decide) (n_cl ?_);refine zT1 (zMm hi hj) ?_;refine ⟨_,rfl,(fun z=>nomatch z),fun _=>zCD (zAv (zCD ?_))⟩;exact ⟨_,_,_,γ++[li j],by rw [append_assoc]⟩
    . rintro s ⟨o13,o14,o15,γ,rfl⟩;refine zAv (zCD ?_);exact ⟨_,_,_,_,_,rfl⟩
  . rintro s ⟨o12,o13,o14,o15,γ,rfl⟩;refine zAv (zAK (zFc (zA5 rfl (zBV (zAH (zAI rfl (zFF (fun _ _ z=>zAs z) d4)) (zAH (zAI rfl (zFF (fun _ _ z=>zAs z) d3)) (zT3 (zGB rs) (by decide) (zBG rfl (zPI rfl)))))))))
theorem zRc (ns:List Int)(hn:ns.length<=63):EvP (FM43 [.dat (scr ns)] []) fun x=>x.1=.dat (.bl true):=by
  refine zKS rfl (by decide) ?_;show EvP (evSs' GL0 D5 mb43 ⟨[some (.dat (scr ns)),none,none,none,none,none,none,none,none,none,none,none,none,none,none,none],[]⟩) _;unfold mb43;refine zAK (zBb ?_);apply zA5
  case hd=>(repeat (first | exact zGy | apply zFE | apply zBX | (apply drc_loc;rfl) | (apply drc_loc2;rfl;focus ((repeat (first | exact sb_nil | (apply sb_loc;first | (apply dr_nil;rfl) | (apply zEA;rfl))));done)) | apply zAV))
  (walk_at "w");refine h30 ns 0 _ (by decide) ?_;(walk_at "w");refine zCc (by decide) ?_;(walk_at "w");refine zBG rfl (zAv ?_);(walk_at "s");refine zAK (zBb ?_);apply zA5
  case hd=>(repeat (first | exact zGy | apply zFE | apply zBX | (apply drc_loc;rfl) | (apply drc_loc2;rfl;focus ((repeat (first | exact sb_nil | (apply sb_loc;first | (apply dr_nil;rfl) | (apply zEA;rfl))));done)) | apply zAV))
  (walk_at "w");refine h30 ns 0 _ (by decide) ?_;(walk_at "w");refine zDS (zCO (by decide) (by decide)) ?_;(walk_at "w");refine zCc (by decide) ?_;(walk_at "w");refine zBG rfl (zAv ?_);(walk_at "s");generalize cel ns 0=c;have a1:=fmod_nonneg_of_pos c (show (0:Int) < 2 by decide);have a2:=fmod_lt_of_pos c (show (0:Int) < 2 by decide);have a3:=fmod_nonneg_of_pos (c.fdiv 2) (show (0:Int) < 2 by decide);have a4:=fmod_lt_of_pos (c.fdiv 2) (show (0:Int) < 2 by decide);obtain ⟨w,ew⟩:∃ w:Nat,1+c.fmod 2=(w:Int):=⟨(1+c.fmod 2).toNat,by omega⟩;obtain ⟨h,eh⟩:∃ h:Nat,1+(c.fdiv 2).fmod 2=(h:Int):=⟨(1+(c.fdiv 2).fmod 2).toNat,by omega⟩;rw [ew,eh];have w1:1<=w:=by omega
  have w2:w<=2:=by omega
  have h1:1<=h:=by omega
  have h2':h<=2:=by omega
  clear a1 a2 a3 a4 ew eh;refine zAK (zBb (zEX (F:=FM37) rfl (zAn (zA8 rfl (zAn (zA5 rfl (zAS (zBG rfl (zCJ ?_)))))))));refine m37 ns 2 (by decide) [] _ fun γ1 rs L3 hl hs=>zAv ?_
  (walk_at "s");generalize ([]:Mem)++γ1=μ1 at L3;generalize ([]:Mem).length=n3 at L3;generalize n3+1=m3 at L3;have f3:=zO9 (m:=m3) hs;refine zAK (zGY (zNk (f:=id) (zCn (zA8 rfl ⟨n3,rfl,rfl⟩)) L3 rfl (by rw [zJv];omega) (fun γ p hp ep=>?_) fun γ2 l4 L4 _ s4=>zAv ?_))
  . exact zA5 rfl (zGt (zAH (zAI rfl (zMo ep)) (zNF (zM1 (f3 p hp).1 rfl))))
  (walk_at "s");replace L3:=L3.app γ2;have e3:llD (lpR m3 rs)=zAY rs:=zPB m3 rs;have e4:llD l4=zAY rs:=(zPD (l':=lpR m3 rs) s4).trans e3;have k4:l4.length=rs.length:=(zON (f:=id) s4).trans (zJv m3 rs);generalize μ1.length+(lpR m3 rs).length=n4 at L4;generalize μ1++γ2=μ2 at L3 L4;clear f3 s4;generalize lpR m3 rs=l3 at L3 e3;refine zAK (zBb (zA5 rfl ?_));refine zAQ rfl (zAC (zAQ rfl (zAC (zAH (zAI rfl zAX) (n_cl (zAC (zAS (n_cl (zAi ?_)))))))));refine h30 ns 1 _ (by decide) ?_;refine n_cl (n_cl (zAi ?_));refine h35 _ _ fun qa ra=>?_
  refine n_cl (zBG rfl (zAv ?_));(walk_at "s");have r0:RB 41 (0:Rat):=zC2 (i:=0) (zBT (k:=3) (by decide) (by decide)) (by decide);have r1:RB 41 (1:Rat):=zC2 (i:=1) (zBT (k:=3) (by decide) (by decide)) (by decide);refine zAK (zCo (zCn (zJs (zAn (zA8 rfl (zAn (zA5 rfl ?_)))))));refine zD8 (zAC (zAS (n_cl (zAC (zAS (n_cl (zAi ⟨by show 2<=10000;decide,zBG rfl (zAn (zA5 rfl ?_))⟩)))))));refine zD8 (zAC (zAS (n_cl (zAC (zAS (n_cl (zAi ⟨by show 2<=10000;decide,zBG rfl (zCJ ⟨by show 3<=10000;decide,_,rfl,?_⟩)⟩)))))));dsimp only;refine (show EvP (zD6 _ _ (.live μ2.length) 0 ⟨_,μ2++[lq qa]⟩) _ from ?_);replace L3:=L3.app [lq qa];replace L4:=L4.app [lq qa];have gl:(μ2++[lq qa])[μ2.length]?=some (lq qa):=zJz;have bl:μ2.length < (μ2++[lq qa]).length:=by rw [length_append];exact Nat.lt_succ_self _
  generalize μ2++[lq qa]=μ3 at L3 L4 gl bl;generalize μ2.length=nl at gl bl;have b3:=L3.lt;have b4:=L4.lt;refine zD7 (s:=⟨_,_⟩) (lq qa) (fun t s=>∃ o6 o7 o8 μ',s=⟨[some (.dat (scr ns)),some (.dat (.int (w:Int))),some (.dat (.int (h:Int))),some (.loc n3),some (.loc n4),some (.dat (ratD qa)),o6,o7,o8,none,none,none,none,none,none,none],μ'⟩/\(∀ x,x < μ3.length->μ'[x]?=μ3[x]?)/\μ3.length<=μ'.length) ?_ ?_ ?_ ⟨_,_,_,μ3,rfl,fun _ _=>rfl,le_refl _⟩
  . rintro t s ⟨o6,o7,o8,μ',rfl,kp,_⟩;exact (kp nl bl).trans gl
  . rintro t y s ey ⟨o6,o7,o8,μ',rfl,kp,kl⟩;obtain ⟨q,rfl,rq⟩:∃ q:Rat,y=.dat (ratD q)/\RB 41 q:=by
      have m:=mem_of_getElem? ey;rcases mem_cons.mp m with z | m
      . exact ⟨qa,z,ra⟩
      rcases mem_cons.mp m with z | m
      . exact ⟨0,z,r0⟩
      exact ⟨1,mem_singleton.mp m,r1⟩
    have M3:=L3.keep (kp n3 b3.1) fun p hp=>kp p.1 (b3.2 p hp)
    have M4:=L4.keep (kp n4 b4.1) fun p hp=>kp p.1 (b4.2 p hp)
    refine ⟨_,rfl,?_⟩;dsimp only;(walk_at "s");refine zAK (zBb (zEX (F:=FM11) rfl (zAn (zA8 rfl (zAn (zA8 rfl (zCJ ?_)))))));refine m11 rq n4 μ' l4 rs _ M4 e4 (by omega) hs fun γ3 l6 L6 c6 k6 e6=>zAv ?_
    (walk_at "s");have b6:μ'.length<=μ'.length+l4.length:=Nat.le_add_right _ _;replace M3:=M3.app γ3;replace M4:=M4.app γ3;generalize μ'.length+l4.length=n6 at L6 b6;have n6':=zJc rq hs;have l6':(rs.map (List.map (sc q))).length<=2:=by rw [length_map];exact hl
    have d6:=zLZ e6 fun ps hp=>(n6' ps hp).1
    refine zAK (zHP (zLS rfl (zDB (zCi (zBp (zAQ rfl (zAC (zAH (zAI rfl (L6.dr.trans (congrArg some e6))) (n_cl (zAC ?_))))))))));refine zAQ rfl (zAC (zAH (zAI rfl (M3.dr.trans (congrArg some e3))) (n_cl (zAC (zAH (zAI rfl zAX) (n_cl (zAi ?_)))))));refine h42 rq rs _ (by omega) hs ?_;refine n_fr (n_fr (zAi ?_));refine h41 90 (by decide) _ _ (by omega) (fun ps hp=>⟨by have:=(n6' ps hp).1;omega,(n6' ps hp).2⟩) ?_;refine n_cl (x_bl (x_bl (cb_f ?_)));refine zDC (zBV (zAH (zAI rfl (M4.dr.trans (congrArg some e4))) (zAH (zAI rfl (M3.dr.trans (congrArg some e3))) ?_)));refine zT2 (zGB rs) (by decide) ?_;refine ⟨_,rfl,(fun z=>nomatch z),fun _=>zCD (zAv ?_)⟩;refine zS9 _ _ _ _ _ _ _ _ _ _ _ _ _ _ _ μ'.length n6 l6 (μ'++γ3) _ _ L6 b6 c6 d6 (by omega) fun o8 μ4 kq hb=>zCD ?_
    refine ⟨_,_,_,μ4,rfl,fun x hx=>?_,le_trans kl hb⟩;rw [kq x (by omega),getElem?_append_left (by omega)];exact kp x hx
  rintro s ⟨o6,o7,o8,μ4,rfl,kp,_⟩;refine zAv ?_;replace L3:=L3.keep (kp n3 b3.1) fun p hp=>kp p.1 (b3.2 p hp)
  replace L4:=L4.keep (kp n4 b4.1) fun p hp=>kp p.1 (b4.2 p hp)
  clear kp gl bl b3 b4;have n2:(1 / 2:Rat).num=1:=by decide +kernel
  have d2:(1 / 2:Rat).den=2:=by decide +kernel
  have r2:RB 41 (1 / 2:Rat):=⟨by rw [n2];exact zBT (k:=4) (by decide) (by decide),by rw [d2];exact zBT (k:=4) (by decide) (by decide)⟩;have eh:D.tup [.int 1,.int 2]=ratD (1 / 2):=by unfold ratD;rw [n2,d2];rfl
  refine zAK (zBb (zEX (F:=FM11) rfl (zAn (zA8 rfl ?_))));refine zAn (zA5 rfl (zD8 (zAC (zAS (n_cl (zAC (zAS (n_cl (zAi ⟨by show 2<=10000;decide,zBG rfl (zCJ ?_)⟩)))))))));rw [eh];refine m11 r2 n4 μ4 l4 rs _ L4 e4 (by omega) hs fun γ6 l9 L9 _ k9 e9=>zAv ?_
  (walk_at "s");replace L3:=L3.app γ6;replace L4:=L4.app γ6;generalize μ4.length+l4.length=n9 at L9;generalize μ4++γ6=μ6 at L3 L4 L9;have n9':=zJc r2 hs;have l9':(rs.map (List.map (sc (1 / 2)))).length<=2:=by rw [length_map];exact hl
  refine zAK (zHP (zLS rfl (zBp (zAQ rfl (zAC (zAH (zAI rfl (L9.dr.trans (congrArg some e9))) (n_cl (zAC ?_))))))));refine zAQ rfl (zAC (zAH (zAI rfl (L3.dr.trans (congrArg some e3))) (n_cl (zAC ?_))));refine zD8 (zAC (zAS (n_cl (zAC (zAS (n_cl (zAi ⟨by show 2<=10000;decide,n_cl (zAi ?_)⟩)))))));rw [eh];refine h42 r2 rs _ (by omega) hs ?_;refine n_fr (n_fr (zAi ?_));refine h41 90 (by decide) _ _ (by omega) (fun ps hp=>⟨by have:=(n9' ps hp).1;omega,(n9' ps hp).2⟩) ?_;refine n_cl (x_bl ⟨_,rfl,(fun z=>nomatch z),fun _=>zCD (zAv ?_)⟩);refine zAK (zBb (zEX (F:=FM29) rfl (zAn (zA8 rfl (zAn (zA8 rfl (zAn (zA8 rfl (zCJ ?_)))))))));refine zQn w1 (by omega) h1 (by omega) l9' n9' (L9.dr.trans (congrArg some e9)) fun γ7 n10 q10 T10=>zAv ?_
  (walk_at "s");replace L3:=L3.app γ7;replace L4:=L4.app γ7;generalize μ6++γ7=μ7 at L3 L4 T10;refine zAK (zBb (zEX (F:=FM29) rfl (zAn (zA5 rfl (zA0 (zAS (zAH (zAI rfl zAX) (zAw (zBI (by decide)) (zBG rfl (zAn (zA5 rfl ?_)))))))))));refine zA0 (zAS (zAH (zAI rfl zAX) (zAw (zBI (by decide)) (zBG rfl (zAn (zA8 rfl (zCJ ?_)))))));dsimp only;rw [zDF,zDF];refine zQn (w:=2*w) (h:=2*h) (by omega) (by omega) (by omega) (by omega) hl (zLw hs) (L4.dr.trans (congrArg some e4)) fun γ8 n11 q11 T11=>zAv ?_
  (walk_at "s");replace L3:=L3.app γ8;replace L4:=L4.app γ8;replace T10:=T10.app γ8;generalize μ7++γ8=μ8 at L3 L4 T10 T11;refine zAK (zHP (zLS rfl (zDB (zCi (zBp (zAQ rfl (zAC (zAH (zAI rfl T10.dr) (n_cl (zAC (zAH (zAI rfl zAX) (n_cl (zAC (zAH (zAI rfl zAX) (n_cl (zAi ?_))))))))))))))));refine zNC _ w h _ T10.pc T10.len (by omega) ?_;refine n_cl (x_bl (x_bl (cb_f ?_)));refine zDC (zBp (zAQ rfl (zAC (zAH (zAI rfl T11.dr) (n_cl (zAC (zA0 (zAS (zAH (zAI rfl zAX) (zAw (zBI (by decide)) (n_cl (zAC ?_))))))))))));refine zA0 (zAS (zAH (zAI rfl zAX) (zAw (zBI (by decide)) (n_cl (zAi ?_)))));dsimp only;rw [zDF,zDF];refine zNC _ (2*w) (2*h) _ T11.pc T11.len (by omega) ?_;refine n_cl (x_bl ⟨_,rfl,(fun z=>nomatch z),fun _=>zCD (zAv ?_)⟩);exact zPE _ w h n3 n4 n10 n11 q10 q11 rs μ8 _ _ _ _ _ (by omega) (by omega) (L3.dr.trans (congrArg some e3)) (L4.dr.trans (congrArg some e4)) T10 T11
theorem law_true (ns:List Int)(hn:ns.length<=63):∃ μ,FM43 [.dat (.lst (ns.map D.int))] []=some (.dat (.bl true),μ):=by
  obtain ⟨⟨w,μ⟩,e,q⟩:=zRc ns hn;cases q;exact ⟨μ,e⟩
end Q
end
def PySem.W.Fast.tw6481952715784963397:Nat:=0
def PySem.W.Fast.tw14060673947563440315:Nat:=0
def PySem.W.Fast.tw12678591568291158167:Nat:=0
def PySem.W.Fast.tw9614049952227245078:Nat:=0
def PySem.W.Fast.tw13991574367237963642:Nat:=0
def PySem.W.Fast.tw1718291209102376590:Nat:=0
def PySem.W.Fast.tw3080505575799936036:Nat:=0
def PySem.W.Fast.tw8781060122762183780:Nat:=0
def PySem.W.Fast.tw14559327860000905355:Nat:=0
def PySem.W.Fast.tw10555025923887761392:Nat:=0
def PySem.W.Fast.tw10787882687215935568:Nat:=0
def PySem.W.Fast.tw4936817618108035610:Nat:=0
def PySem.W.Fast.tw13178284220552896455:Nat:=0
def PySem.W.Fast.tw5604004656459202246:Nat:=0
def PySem.W.Fast.tw1475147354565244220:Nat:=0
def PySem.W.Fast.tw1725201882995507087:Nat:=0
def PySem.W.Fast.tw3168388458212682467:Nat:=0
def PySem.W.Fast.tw17140219363704495930:Nat:=0
def PySem.W.Fast.tw8737984690458227716:Nat:=0
def PySem.W.Fast.tw14075607490653836139:Nat:=0
def PySem.W.Fast.tw11960590901426101812:Nat:=0
def PySem.W.Fast.tw15243558652329848431:Nat:=0
def PySem.W.Fast.tw6733357591242297700:Nat:=0
def PySem.W.Fast.tw12184874709793879854:Nat:=0
open PySem PySem.W PyProof.Rows
set_option maxRecDepth 100000 in
set_option maxHeartbeats 0 in
theorem PySem.Challenge.cw_coverfill_k23_halved_holds : PySem.Challenge.rw_coverfill_k23_halved.Holds := by
  w_on; o_law; k_head; (case hw => w_witness2)
  k_fill
  refine DL.walkM (k := 47) (F := Q.FM43) (l := PySem.Challenge.rw_coverfill_k23_halved) rfl rfl (by decide +kernel) (fun _ => rfl) ⟨rfl, by decide, by decide⟩ [(("scaled" : PySem.Str), 120, 116)] ?hrec ?htl ?htk ?hnd ?hnt (fun w h Y => PySem.W.km_in_of Y) ?F Q.law_true
  case hrec => exact by decide +kernel
  case htl => exact fun _ => DL.tabs_of (by kernel_rfl) (by kernel_rfl) (by kernel_rfl) (by kernel_rfl)
  case htk => exact by decide
  case hnd => exact by decide
  case hnt => exact fun _ => by kernel_rfl
  case F =>
    intro w mg fa h KX G hmg
    refine' Q.all_mk KX G hmg (lc0 := 120) (lp0 := 116) (by kernel_rfl) (Q.ft ?_ ?_ ?_ ?_) (Q.ft ?_ ?_ ?_ ?_) (Q.ft ?_ ?_ ?_ ?_) (Q.ft ?_ ?_ ?_ ?_) (Q.ft ?_ ?_ ?_ ?_) (Q.ft ?_ ?_ ?_ ?_) (Q.ft ?_ ?_ ?_ ?_) (Q.ft ?_ ?_ ?_ ?_) (Q.ft ?_ ?_ ?_ ?_) (Q.ft ?_ ?_ ?_ ?_) (Q.ft ?_ ?_ ?_ ?_) (Q.ft ?_ ?_ ?_ ?_) (Q.ft ?_ ?_ ?_ ?_) (Q.ft ?_ ?_ ?_ ?_) (Q.ft ?_ ?_ ?_ ?_) (Q.ft ?_ ?_ ?_ ?_) (Q.ft ?_ ?_ ?_ ?_) (Q.ft ?_ ?_ ?_ ?_) (Q.ft ?_ ?_ ?_ ?_) (Q.ft ?_ ?_ ?_ ?_) (Q.ft ?_ ?_ ?_ ?_) (Q.ft ?_ ?_ ?_ ?_) (Q.ft ?_ ?_ ?_ ?_) (Q.ft ?_ ?_ ?_ ?_) (Q.ft ?_ ?_ ?_ ?_) (Q.ft ?_ ?_ ?_ ?_) (Q.ft ?_ ?_ ?_ ?_) (Q.ft ?_ ?_ ?_ ?_) (Q.ft ?_ ?_ ?_ ?_) (Q.ft ?_ ?_ ?_ ?_) (Q.ft ?_ ?_ ?_ ?_) (Q.ft ?_ ?_ ?_ ?_) (Q.ft ?_ ?_ ?_ ?_) (Q.ft ?_ ?_ ?_ ?_) (Q.ft ?_ ?_ ?_ ?_) (Q.ft ?_ ?_ ?_ ?_) (Q.ft ?_ ?_ ?_ ?_) (Q.ft ?_ ?_ ?_ ?_) (Q.ft ?_ ?_ ?_ ?_) (Q.ft ?_ ?_ ?_ ?_) (Q.ft ?_ ?_ ?_ ?_) (Q.ft ?_ ?_ ?_ ?_) (Q.ft ?_ ?_ ?_ ?_) ?a43 ?l43 ?c43 ?k43 ?z0 ?z1 ?z2 ?z3 ?z4 ?z5 ?z6 ?z7 ?z8 ?z9 ?z10 ?ca0 ?cl0 ?cv0 ?ca1 ?cl1 ?cv1
    all_goals try k_is
    all_goals try k_is
    all_goals first | rfl | decide +kernel
#print axioms PySem.Challenge.cw_coverfill_k23_halved_holds

import PyProof.Rows.All
import Wide.All
import OpenK.AllK
import Wide.FinOn
import Lean
import PySem.Challenge.RW_coverfill_k22_quarter_and_mirror
set_option Elab.async false
set_option linter.all false
set_option maxRecDepth 100000
set_option maxHeartbeats 4000000
set_option compiler.extract_closed false
theorem zzf {p:Prop}(h:false=true):p:=nomatch h
theorem zzb {a b:Nat}(h:Nat.ble a b=true):a<=b:=Nat.le_of_ble_eq_true h
theorem zzg {U:Type _}{l:List U}{i:Nat}{a:U}(h:l[i]?=some a):∃ w:i<l.length,l[i]=a:=List.getElem?_eq_some_iff.mp h
noncomputable section
open Bool (and_eq_true)
open PySem.Heap (lt_size get?_push_of_some get?_push_size)
open Nat (le_refl le_trans ne_of_lt lt_irrefl zero_le lt_of_lt_of_le mul_le_mul_right sub_self)
open Option (map_eq_some_iff)
open Classical (choose_spec)
open Int (toNat_natCast fmod_nonneg_of_pos fmod_lt_of_pos)
open List (all_eq_true append_assoc append_nil cons_append drop_eq_getElem_cons drop_eq_nil_of_le drop_one ext_getElem? filter_cons find?_cons flatten_cons forIn_cons forIn_nil getD_eq_getElem?_getD getElem?_append_left getElem?_append_right getElem?_eq_getElem getElem?_eq_none getElem?_map getElem?_range getElem?_replicate getElem?_set_ne getElem?_set_self length_append length_cons length_drop length_filter_le length_map length_nil length_range length_replicate length_set length_singleton length_take lookup_cons map_append map_congr_left map_cons map_id map_map map_nil mem_append mem_append_right mem_cons mem_cons_of_mem mem_cons_self mem_filter mem_map mem_of_getElem? mem_of_mem_take mem_range mem_singleton nil_append nodup_cons not_mem_nil of_mem_zip range_succ rel_of_pairwise_cons replicate_succ reverse_cons set_append_right size_toArray tail_cons takeWhile_cons take_add_one take_length take_of_length_le take_zero zip_cons_cons)
section
namespace L2
open PySem Spec PyProof.Rows
abbrev Key:=Sum Int Str
def zRm:Key->Value->Bool
 | .inl k,v=>Value.isInt k v
 | .inr x,v=>Value.isStrOf x v
def keyH (w:World):Key->Int
 | .inl k=>hashInt k
 | .inr x=>hashStr w x
theorem zAm:∀ {k:Key} {v:Value},zRm k v=true->(∃ i t,k=Sum.inl i/\v=Value.int i t)\/(∃ x t,k=Sum.inr x/\v=Value.str x t)
 | .inl i,v,h=>by
  obtain ⟨t,e⟩:=Value.isInt_shape (k:=i) (v:=v) h;exact .inl ⟨i,t,rfl,e⟩
 | .inr x,v,h=>by
  obtain ⟨t,e⟩:=Value.isStrOf_shape (x:=x) (v:=v) h;exact .inr ⟨x,t,rfl,e⟩
theorem zRl (a b:Int):decide ((Sum.inl a:Key)=Sum.inl b)=(a==b):=by
 by_cases e:a=b
 .subst e;simp
 .have h:¬ (Sum.inl a:Key)=Sum.inl b:=fun q=>e (Sum.inl.inj q)
  rw [decide_eq_false h];exact (beq_eq_false_iff_ne.mpr e).symm
theorem zRi (a b:Str):decide ((Sum.inr a:Key)=Sum.inr b)=decide (a=b):=by
 by_cases e:a=b
 .subst e;simp
 .have h:¬ (Sum.inr a:Key)=Sum.inr b:=fun q=>e (Sum.inr.inj q)
  rw [decide_eq_false h,decide_eq_false e]
theorem zRk (a:Int)(b:Str):decide ((Sum.inl a:Key)=Sum.inr b)=false:=decide_eq_false (fun q=>nomatch q)
theorem zRj (a:Str)(b:Int):decide ((Sum.inr a:Key)=Sum.inl b)=false:=decide_eq_false (fun q=>nomatch q)
def zJu (prog:Program)(w:World):PySem.KeyKind prog w Key where
 is:=zRm
 hash:=keyH w
 inj:=fun v a b ha hb=>by
  rcases zAm ha with ⟨i,t,rfl,rfl⟩ | ⟨x,t,rfl,rfl⟩
  .rcases zAm hb with ⟨j,u,rfl,e⟩ | ⟨y,u,rfl,e⟩
   .injection e with e1 _;rw [e1]
   .exact nomatch e
  .rcases zAm hb with ⟨j,u,rfl,e⟩ | ⟨y,u,rfl,e⟩
   .exact nomatch e
   .injection e with e1 _;rw [e1]
 byValue:=fun k v h=>by
  rcases zAm h with ⟨i,t,rfl,rfl⟩ | ⟨x,t,rfl,rfl⟩<;>rfl
 pyHash:=fun hv h=>by
  rcases zAm hv with ⟨i,t,rfl,rfl⟩ | ⟨x,t,rfl,rfl⟩
  .exact wpAny_pyHash_int h
  .exact wpAny_pyHash_str h
 eqBool:=fun hu hv h=>by
  rcases zAm hu with ⟨i,t,rfl,rfl⟩ | ⟨x,t,rfl,rfl⟩
  .rcases zAm hv with ⟨j,u,rfl,rfl⟩ | ⟨y,u,rfl,rfl⟩
   .rw [zRl] at h;exact wpAny_eqBool_int h
   .rw [zRk] at h;exact SeqAt.EqAt.int_str i t y u _ _ _ _ h
  .rcases zAm hv with ⟨j,u,rfl,rfl⟩ | ⟨y,u,rfl,rfl⟩
   .rw [zRj] at h;exact SeqAt.EqAt.str_int x t j u _ _ _ _ h
   .rw [zRi] at h;exact wpAny_eqBool_str h
 «strs»:=fun k x t v h=>by
  rcases zAm h with ⟨i,u,rfl,e⟩ | ⟨y,u,rfl,e⟩
  .exact nomatch e
  .injection e with e1 _
   subst e1;cases v<;>rfl
end L2
namespace L2
open PySem Spec PyProof.Rows
inductive V where
 | non | bl (b:Bool) | int (i:Int) | str (x:Str) | byt (b:Array UInt8) | flt (b:UInt64) | ref (a:Addr) | ty (n:String)
 deriving DecidableEq
def RelV:V->Value->Prop
 | .non,u=>u=Value.none
 | .bl b,u=>u=Value.bool b
 | .int i,u=>∃ t,u=Value.int i t
 | .str x,u=>∃ t,u=Value.str x t
 | .byt b,u=>∃ t,u=Value.bytes b t
 | .flt b,u=>∃ t,u=Value.float b t
 | .ref a,u=>u=Value.ref a
 | .ty n,u=>u=Value.type n
abbrev Vals:List V->List Value->Prop:=Paired RelV
theorem Vals.length {xs:List V}{us:List Value}(r:Vals xs us):xs.length=us.length:=Paired.length r
theorem Vals.get:∀ {xs:List V} {us:List Value} {i:Nat} {x:V},Vals xs us->xs[i]?=some x->∃ u,us[i]?=some u/\RelV x u
 | _,_,_,_,.nil,e=>by simp at e
 | _,_,0,_,.cons r _,e=>by simp at e;subst e;exact ⟨_,rfl,r⟩
 | _,_,i+1,x,.cons _ t,e=>by
  obtain ⟨u,h1,h2⟩:=Vals.get (i:=i) (x:=x) t (by simpa using e);exact ⟨u,by simpa using h1,h2⟩
theorem Vals.set {x:V}{u:Value}(r:RelV x u):∀ {xs:List V} {us:List Value} (i:Nat),Vals xs us->Vals (xs.set i x) (us.set i u)
 | _,_,_,.nil=>.nil
 | _,_,0,.cons _ t=>.cons r t
 | _,_,i+1,.cons q t=>.cons q (Vals.set r i t)
theorem Vals.append:∀ {xs ys:List V} {us ws:List Value},Vals xs us->Vals ys ws->Vals (xs++ys) (us++ws)
 | _,_,_,_,.nil,s=>s
 | _,_,_,_,.cons r t,s=>.cons r (Vals.append t s)
theorem Vals.take:∀ {xs:List V} {us:List Value} (n:Nat),Vals xs us->Vals (xs.take n) (us.take n)
 | _,_,0,_=>.nil
 | _,_,_+1,.nil=>.nil
 | _,_,n+1,.cons r t=>.cons r (Vals.take n t)
theorem Vals.drop:∀ {xs:List V} {us:List Value} (n:Nat),Vals xs us->Vals (xs.drop n) (us.drop n)
 | _,_,0,r=>r
 | _,_,_+1,.nil=>.nil
 | _,_,n+1,.cons _ t=>Vals.drop n t
def RelO:Option V->Option Value->Prop
 | some v,some u=>RelV v u
 | none,none=>True
 | _,_=>False
def KV {a:Type}:List (a×V)->List (a×Value)->Prop:=Paired fun (p:a×V) (q:a×Value)=>p.1=q.1/\RelV p.2 q.2
def kV:Key->V
 | .inl i=>.int i
 | .inr x=>.str x
set_option genSizeOf false in
set_option genInjectivity false in
inductive HO where
 /-- a list -/
 | lst (xs:List V)
 /-- a tuple (never changes) -/
 | tup (xs:List V)
 /-- a dict whose keys are ints and texts;one whose keys are tuples of ints and texts (the empty one is both) -/
 | dK (kvs:List (Key×V)) | dT (kvs:List (List Key×V))
 /-- a set of ints: its members,its size -/
 | set (S:Int->Bool) (n:Nat)
 /-- an instance of the class at C,its dict at dx,its attributes -/
 | ins (C dx:Addr) (fs:List (Str×V))
 /-- the dict of the instance at x -/
 | own (x:Addr)
 /-- the dict of an exception -/
 | xd (fs:List (Str×V))
 /-- a bound method,f of x -/
 | met (f x:Addr)
 /-- a range object lo,lo+1,.. below hi -/
 | rng (lo hi:Int)
 /-- a thing that is known to the object (the script;a dict while a loop walks it): read,never written while it is so -/
 | frz (o:Obj) (u:HO)
 /-- a code object's table: the codes of the defs made within,all of this name -/
 | tbl (q:Str)
 /-- any other thing,by what is true of its one object (a def of one's own: SetO a S n:=HO.ext fun h=>..) -/
 | ext (g:Heap->Prop)
abbrev Hp:=Addr->Option HO
def upd (H:Hp)(a:Addr)(o:HO):Hp:=fun b=>if b=a then some o else H b
theorem zAh {H:Hp}{a:Addr}{o:HO}:upd H a o a=some o:=by unfold upd;rw [if_pos rfl]
theorem zAP {H:Hp}{a b:Addr}{o:HO}(h:b≠a):upd H a o b=H b:=by unfold upd;rw [if_neg h]
theorem zAj {H:Hp}{a b:Addr}{o:HO}(h:H a=some o)(h':H b=none):a≠b:=by
 intro e;subst e;rw [h] at h';cases h'
section
variable (P:Program)(w:World)
def zLM (o:Obj)(q:Str):Prop:=∃ vs t,o.data=.fields vs/\vs[1]?=some (.str q t)
def zCe (H:Hp)(h:Heap)(a:Addr):HO->Prop
 | .lst xs=>xs.length<=sizeLine/\∃ (its:List Value) (n:Nat),Vals xs its/\h.get? a=some { cls:=.type "list",data:=.seq its.toArray n }
 | .tup xs=>xs.length<=sizeLine/\∃ its:List Value,Vals xs its/\IsTup h a its.toArray
 | .dK kvs=>kvs.length<=sizeLine/\(a==sysModules)=false/\∃ vs,KV kvs vs/\h.DictOf (zJu P w) a vs
 | .dT kvs=>kvs.length<=sizeLine/\(a==sysModules)=false/\∃ xs:List (List Key×Addr×Value),
   Paired (fun (p:List Key×V) (q:List Key×Addr×Value)=>p.1=q.1/\H q.2.1=some (.tup (p.1.map kV))/\RelV p.2 q.2.2) kvs xs /\
   ∃ o es ep,h.get? a=some o/\o.ExactDict/\o.data=.dict es ep/\es.toList=xs.map (entryOfKey (tupleKind (zJu P w)))/\(xs.map (·.1)).Nodup
 | .set S n=>h.SetOf (intKind P w) a S n
 | .ins C dx fs=>H dx=some (.own a)/\fs.length<=1000/\dx≠a/\h.get? a=some (W.instObj C dx) /\
   ∃ mA,h.Ns1 dx mA/\(∀ f,RelO (fs.lookup f) (mA f))/\PySem.Within mA (fs.map (·.1))
 | .own _=>∃ o,h.get? a=some o
 | .xd fs=>∃ mA,h.Ns1 a mA/\∀ f,RelO (fs.lookup f) (mA f)
 | .rng lo hi=>∃ t u v,h.get? a=some { cls:=.type "range",data:=.fields #[.int lo t,.int hi u,.int 1 v] }
 | .frz o u=>h.get? a=some o/\zCe H h a u
 | .tbl q=>∃ ps:Array Value,h.get? a=some { cls:=.none,data:=.fields ps }/\TriplesOk ps.toList/\∀ pos cv,codeAmong pos ps.toList=some cv->∃ c oc u,cv=.ref c/\H c=some (.frz oc u)/\zLM oc q
 | .met f x=>h.get? a=some (W.methodObj (.ref f) (.ref x))
 | .ext g=>g h/\(∃ o,h.get? a=some o)/\∀ h1 h2:Heap,g h1->(∀ o,h1.get? a=some o->h2.get? a=some o)->g h2
def HOk (H:Hp)(h:Heap):Prop:=∀ a o,H a=some o->zCe P w H h a o
end
section
variable {P:Program}{w:World}{H H':Hp}{h h':Heap}{a:Addr}{o:HO}
theorem zCe.lt (x:zCe P w H h a o):a < h.objs.size:=by
 cases o with
 | lst xs=>obtain ⟨_,_,_,_,e⟩:=x;exact lt_size e
 | tup xs=>obtain ⟨_,_,_,p⟩:=x;exact p.lt
 | dK kvs=>obtain ⟨_,_,_,_,o,_,_,e,_⟩:=x;exact lt_size e
 | dT kvs=>obtain ⟨_,_,_,_,o,_,_,e,_⟩:=x;exact lt_size e
 | set S n=>obtain ⟨o,_,_,_,e,_⟩:=x;exact lt_size e
 | ins C dx fs=>obtain ⟨_,_,_,e,_⟩:=x;exact lt_size e
 | own y=>obtain ⟨_,e⟩:=x;exact lt_size e
 | xd fs=>obtain ⟨_,⟨_,_,_,e,_⟩,_⟩:=x;exact lt_size e
 | rng lo hi=>obtain ⟨_,_,_,e⟩:=x;exact lt_size e
 | frz ob u=>obtain ⟨e,_⟩:=x;exact lt_size e
 | tbl q=>obtain ⟨ps,e,_⟩:=x;exact lt_size e
 | met f y=>exact lt_size (show h.get? a=some _ from x)
 | ext g=>obtain ⟨_,⟨_,e⟩,_⟩:=x;exact lt_size e
theorem Paired.mapP {U M:Type}{F G:U->M->Prop}:∀ {U7:List U} {U8:List M},Paired F U7 U8->(∀ a b,F a b->G a b)->Paired G U7 U8
 | _,_,.nil,_=>.nil
 | _,_,.cons r t,f=>.cons (f _ _ r) (Paired.mapP t f)
theorem zCe.stay (x:zCe P w H h a o)(k:∀ b u,(b=a\/H b=some (.own a))->h.get? b=some u->h'.get? b=some u)
  (ho:∀ b,H b=some (.own a)->H' b=some (.own a)) (ht:∀ b xs,H b=some (.tup xs)->H' b=some (.tup xs)) (hf:∀ b ob u,H b=some (.frz ob u)->(∃ vs,ob.data=.fields vs)->H' b=some (.frz ob u)):zCe P w H' h' a o:=by
 induction o with
 | lst xs=>obtain ⟨z,its,n,r,e⟩:=x;exact ⟨z,its,n,r,k _ _ (.inl rfl) e⟩
 | tup xs=>obtain ⟨z,its,r,ob,e,c⟩:=x;exact ⟨z,its,r,ob,k _ _ (.inl rfl) e,c⟩
 | dK kvs=>obtain ⟨z,y,vs,r,ob,es,ep,e,c⟩:=x;exact ⟨z,y,vs,r,ob,es,ep,k _ _ (.inl rfl) e,c⟩
 | dT kvs =>
  obtain ⟨z,y,xs,r,ob,es,ep,e,c⟩:=x;exact ⟨z,y,xs,Paired.mapP r fun p q z=>⟨z.1,ht _ _ z.2.1,z.2.2⟩,ob,es,ep,k _ _ (.inl rfl) e,c⟩
 | set S n=>obtain ⟨ob,es,ep,t,e,c⟩:=x;exact ⟨ob,es,ep,t,k _ _ (.inl rfl) e,c⟩
 | ins C dx fs =>
  obtain ⟨d,z,ne,e,mA,⟨od,es,ep,e2,c⟩,r⟩:=x;exact ⟨ho _ d,z,ne,k _ _ (.inl rfl) e,mA,⟨od,es,ep,k _ _ (.inr d) e2,c⟩,r⟩
 | own y=>obtain ⟨ob,e⟩:=x;exact ⟨ob,k _ _ (.inl rfl) e⟩
 | xd fs=>obtain ⟨mA,⟨od,es,ep,e,c⟩,r⟩:=x;exact ⟨mA,⟨od,es,ep,k _ _ (.inl rfl) e,c⟩,r⟩
 | rng lo hi=>obtain ⟨t,u,v,e⟩:=x;exact ⟨t,u,v,k _ _ (.inl rfl) e⟩
 | frz ob u ih=>obtain ⟨e,q⟩:=x;exact ⟨k _ _ (.inl rfl) e,ih q⟩
 | tbl q =>
  obtain ⟨ps,e,t,c⟩:=x;exact ⟨ps,k a _ (.inl rfl) e,t,fun pos cv z=>let ⟨c1,oc,u,e1,e2,e3⟩:=c pos cv z;⟨c1,oc,u,e1,hf _ _ _ e2 (let ⟨vs,_,d,_⟩:=e3;⟨vs,d⟩),e3⟩⟩
 | met f y =>
  have e:h.get? a=some (W.methodObj (.ref f) (.ref y)):=x;show h'.get? a=some (W.methodObj (.ref f) (.ref y));exact k a _ (.inl rfl) e
 | ext g=>obtain ⟨p,⟨o,e⟩,st⟩:=x;exact ⟨st _ _ p fun o q=>k _ _ (.inl rfl) q,⟨o,k _ _ (.inl rfl) e⟩,st⟩
theorem HOk.lt (x:HOk P w H h)(e:H a=some o):a < h.objs.size:=(x a o e).lt
theorem HOk.fresh (x:HOk P w H h)(e:h.objs.size<=a):H a=none:=by
 cases q:H a with
 | none=>rfl
 | some u=>exact absurd (lt_of_lt_of_le (x.lt q) e) (lt_irrefl _)
theorem HOk.kept (x:HOk P w H h)(k:∀ b u,h.get? b=some u->h'.get? b=some u):HOk P w H h':=fun a o e =>
 (x a o e).stay (fun b u _ q=>k b u q) (fun _ q=>q) (fun _ _ q=>q) fun _ _ _ q _=>q
theorem HOk.laid (x:HOk P w H h)(k:∀ b u,h.get? b=some u->h'.get? b=some u)(hp:h.objs.size<=a)(new:zCe P w (upd H a o) h' a o):HOk P w (upd H a o) h':=fun b u e=>by
 have hn:=x.fresh hp;by_cases hb:b=a
 .subst hb;rw [zAh] at e;cases e;exact new
 .rw [zAP hb] at e;exact (x b u e).stay (fun c v _ q=>k c v q) (fun c q=>by rw [zAP (zAj q hn)];exact q) (fun c xs q=>by rw [zAP (zAj q hn)];exact q) fun c ob u q _=>by rw [zAP (zAj q hn)];exact q
end
def Rd (H:Hp)(a:Addr)(u:HO):Prop:=H a=some u\/∃ o,H a=some (.frz o u)
theorem Rd.ok {P:Program}{w:World}{H:Hp}{h:Heap}{a:Addr}{u:HO}(r:Rd H a u)(x:HOk P w H h):zCe P w H h a u:=by
 rcases r with r | ⟨o,r⟩
 .exact x a u r
 .obtain ⟨_,q⟩:=x a _ r;exact q
def Mut:Option HO->Prop
 | some (.lst _)=>True
 | some (.dK _)=>True
 | some (.dT _)=>True
 | some (.set _ _)=>True
 | some (.ins _ _ _)=>True
 | some (.ext _)=>True
 | _=>False
section
variable {P:Program}{w:World}{H:Hp}{h h':Heap}{x e:Addr}{o':HO}
theorem HOk.write (ok:HOk P w H h)(mu:Mut (H x))(he:e=x\/H e=some (.own x))(k:∀ b u,b≠e->h.get? b=some u->h'.get? b=some u)(heo:∃ u,h'.get? e=some u)
  (new:zCe P w (upd H x o') h' x o'):HOk P w (upd H x o') h':=fun b u q=>by
 have nown:∀ c y,H c=some (.own y)->c≠x:=fun c y r z=>by subst z;rw [r] at mu;exact mu
 have ntup:∀ c xs,H c=some (.tup xs)->c≠x:=fun c xs r z=>by subst z;rw [r] at mu;exact mu
 have nfrz:∀ c ob v,H c=some (.frz ob v)->c≠x:=fun c ob v r z=>by subst z;rw [r] at mu;exact mu
 by_cases hb:b=x
 .subst hb;rw [zAh] at q;cases q;exact new
 .rw [zAP hb] at q;by_cases hbe:b=e
  .have q':H b=some (.own x):=by
    rcases he with z | z
    .exact absurd (hbe.trans z) hb
    .rw [hbe];exact z
   rw [q] at q';cases q';obtain ⟨v,hv⟩:=heo;exact ⟨v,by rw [hbe];exact hv⟩
  .refine (ok b u q).stay (fun c v hc r=>k c v ?_ r) (fun c r=>by rw [zAP (nown c b r)];exact r) (fun c xs r=>by rw [zAP (ntup c xs r)];exact r) fun c ob v r _=>by rw [zAP (nfrz c ob v r)];exact r
   rcases hc with rfl | hc
   .exact hbe
   .rintro rfl;rcases he with z | z
    .exact nown c b hc z
    .rw [hc] at z;cases z;exact hb rfl
end
structure Un (fs ex:List Addr)(H H':Hp)(h h':Heap):Prop where
 keep:∀ b o,h.get? b=some o->H b=none->b∉fs->b∉ex->h'.get? b=some o
 slot:∀ b o,h.get? b=some o->H b=none->b∈fs->b∉ex->∃ sl,h'.get? b=some { o with slots:=sl }
 free:∀ b o,h.get? b=some o->H b=none->b∉ex->H' b=none
 there:∀ b o,h.get? b=some o->b∉ex->∃ o',h'.get? b=some o'
 tups:∀ b xs,H b=some (.tup xs)->H' b=some (.tup xs)
 frzs:∀ b o u,H b=some (.frz o u)->H' b=some (.frz o u)
 tbls:∀ b q,H b=some (.tbl q)->H' b=some (.tbl q)
section
variable {fs fs' ex ex':List Addr}{H H1 H2:Hp}{h h1 h2 h':Heap}{a x e:Addr}{o:HO}
theorem Un.any (u:Un fs ex H H1 h h1){b:Addr}{ob:Obj}(q:h.get? b=some ob)(n:H b=none)(hx:b∉ex):∃ sl,h1.get? b=some { ob with slots:=sl }:=by
 by_cases hb:b∈fs
 .exact u.slot b ob q n hb hx
 .exact ⟨ob.slots,u.keep b ob q n hb hx⟩
theorem Un.trans (a:Un fs ex H H1 h h1)(b:Un fs ex H1 H2 h1 h2):Un fs ex H H2 h h2 where
 keep:=fun c ob q n hc hx=>b.keep c ob (a.keep c ob q n hc hx) (a.free c ob q n hx) hc hx
 slot:=fun c ob q n hc hx=>by
  obtain ⟨sl,e1⟩:=a.slot c ob q n hc hx;obtain ⟨sl',e2⟩:=b.slot c _ e1 (a.free c ob q n hx) hc hx;exact ⟨sl',e2⟩
 free:=fun c ob q n hx=>by
  obtain ⟨o',e1⟩:=a.there c ob q hx;exact b.free c o' e1 (a.free c ob q n hx) hx
 there:=fun c ob q hx=>by
  obtain ⟨o',e1⟩:=a.there c ob q hx;exact b.there c o' e1 hx
 tups:=fun c xs q=>b.tups c xs (a.tups c xs q)
 frzs:=fun c ob xs q=>b.frzs c ob xs (a.frzs c ob xs q)
 tbls:=fun c ps q=>b.tbls c _ (a.tbls c ps q)
theorem Un.kept (k:∀ b u,h.get? b=some u->h'.get? b=some u):Un fs ex H H h h' :=
 ⟨fun b ob q _ _ _=>k b ob q,fun b ob q _ _ _=>⟨ob.slots,k b ob q⟩,fun _ _ _ n _=>n,fun b ob q _=>⟨ob,k b ob q⟩,fun _ _ q=>q,fun _ _ _ q=>q,fun _ _ q=>q⟩
theorem Un.refl:Un fs ex H H h h:=Un.kept fun _ _ q=>q
theorem Un.laid (k:∀ b u,h.get? b=some u->h'.get? b=some u)(hp:h.objs.size<=a)(hn:H a=none):Un fs ex H (upd H a o) h h' where
 keep:=fun b u q _ _ _=>k b u q
 slot:=fun b u q _ _ _=>⟨u.slots,k b u q⟩
 free:=fun b u q n _=>by rw [zAP (ne_of_lt (lt_of_lt_of_le (lt_size q) hp))];exact n
 there:=fun b u q _=>⟨u,k b u q⟩
 tups:=fun b xs q=>by rw [zAP (zAj q hn)];exact q
 frzs:=fun b u xs q=>by rw [zAP (zAj q hn)];exact q
 tbls:=fun b ps q=>by rw [zAP (zAj q hn)];exact q
theorem Un.write (mu:Mut (H x))(he:e=x\/H e=some (.own x))(k:∀ b u,b≠e->h.get? b=some u->h'.get? b=some u)(heo:∃ u,h'.get? e=some u):Un fs ex H (upd H x o) h h':=by
 have hx:∀ b,H b=none->b≠x:=fun b n z=>by subst z;rw [n] at mu;exact mu
 have hb:∀ b,H b=none->b≠e:=fun b n z=>by
  subst z;rcases he with r | r
  .exact hx b n r
  .rw [n] at r;cases r
 have hm:∀ b u,H b=some u->¬ Mut (some u)->b≠x:=fun b u q nm z=>by subst z;rw [q] at mu;exact nm mu
 refine ⟨fun b u q n _ _=>k b u (hb b n) q,fun b u q n _ _=>⟨u.slots,k b u (hb b n) q⟩,fun b u q n _=>by rw [zAP (hx b n)];exact n,fun b u q _=>?_,
  fun b xs q=>by rw [zAP (hm b _ q fun z=>z)];exact q,fun b u xs q=>by rw [zAP (hm b _ q fun z=>z)];exact q,fun b ps q=>by rw [zAP (hm b _ q fun z=>z)];exact q⟩
 by_cases hbe:b=e
 .subst hbe;exact heo
 .exact ⟨u,k b u hbe q⟩
theorem Un.mono (u:Un fs ex H H1 h h1)(hs:∀ b∈fs,b∈fs')(hx:∀ b∈ex,b∈ex'):Un fs' ex' H H1 h h1 :=
 ⟨fun b ob q n hb he=>u.keep b ob q n (fun z=>hb (hs b z)) fun z=>he (hx b z),fun _ _ q n _ he=>u.any q n fun z=>he (hx _ z),fun b ob q n he=>u.free b ob q n fun z=>he (hx b z),fun b ob q he=>u.there b ob q fun z=>he (hx b z),u.tups,u.frzs,u.tbls⟩
end
def trk (h:Heap)(H:Hp):List Addr:=(List.range h.objs.size).filter fun a=>(H a).isSome
def hidT (h:Heap)(H:Hp):Heap:=W.hideAll h (trk h H)
theorem zKF (h:Heap)(H:Hp):(hidT h H).objs.size=h.objs.size:=W.hideAll_size _ _
theorem zMJ {h:Heap}{H:Hp}{b:Addr}{o:Obj}(e:h.get? b=some o)(n:H b=none):(hidT h H).get? b=some o :=
 W.hideAll_get _ e fun hm=>by
  have q:(H b).isSome=true:=(mem_filter.mp hm).2;rw [n] at q;simp at q
theorem zO3 {h:Heap}{H:Hp}{b:Addr}{o:Obj}(e:(hidT h H).get? b=some o):h.get? b=some o/\H b=none:=by
 have e':h.get? b=some o:=W.of_hideAll (trk h H) e;refine ⟨e',?_⟩;cases q:H b with
 | none=>rfl
 | some x =>
  have hm:b∈trk h H:=mem_filter.mpr ⟨mem_range.mpr (lt_size e'),by simp [q]⟩;have z:(hidT h H).get? b=none:=W.hideAll_none (trk h H) hm;rw [z] at e;cases e
end L2
namespace L2
open PySem Spec PyProof.Rows
def zBm:List Str:=["moved","scaled","quartered","mirrored"]
def lamQ (x:Str):Str:=x ++ ".<locals>." ++ "<lambda>"
structure Mod (K:W.Frag)(mg:Str->Option Value)(base:Heap):Prop where
 kin:K.In base
 glob:base.Ns mainGlobals mg
 blt:∃ mb,base.Ns builtinsNs mb/\∀ x:Str,x ≠ "__name__"->mb x=bootBuiltins x
 nolimit:base.NoLimit
 seer:base.NoSeer
 bm:∃ bm ob,mg "__builtins__"=some (.ref bm)/\bm≠builtinsNs/\base.get? bm=some ob/\ob.cls=.type "module"/\ob.dict=some builtinsNs/\ob.data=.plain
 codes:∀ x∈zBm,∀ c P,W.tabIn K x=some (c,P)->W.CodeHd base c P
def zH8 (K:W.Frag)(H:Hp):Prop:=∀ x∈zBm,∀ c P,W.tabIn K x=some (c,P)->H P=some (.tbl (lamQ x))
structure Cx where
 prog:Program
 w:World
 K:W.Frag
 mg:Str->Option Value
 base:Heap
 A:Around
 N:List Str
 s0:Shared
 Z3:Hp
 env:Env
 outer:List Env
 stack:List Env
 ex:List Addr
 fn:Str->Bool
 calm:Bool
 pn:List (Addr×Obj)
 xe:Value->Shared->Prop
def frs (l:List Env):List Addr:=l.filterMap (·.frame)
abbrev Cx.fs (X:Cx):List Addr:=frs X.outer
def Vis (sc:Scope)(x:Str):Prop:=sc.names.lookup x=some .local\/sc.names.lookup x=some .cell\/sc.names.lookup x=some .free
def Loc (sc:Scope)(x:Str):Prop:=sc.names.lookup x=some .local\/sc.names.lookup x=some .cell
def Look (env:Env)(h:Heap)(m:Str->Option Value)(x:Str)(u:Value):Prop :=
 (env.kindOf x=some .local/\m x=some u)\/((env.kindOf x=some .cell\/env.kindOf x=some .free)/\∃ c,env.cells.lookup x=some c/\h.IsCell c (some u))
structure Cx.Ok (X:Cx):Prop where
 mod:Mod X.K X.mg X.base
 kind:X.env.scope.kind=.function
 glob:X.env.globals=mainGlobals
 blt:X.env.builtins=builtinsNs
 above:X.s0.heap.objs.size<=X.env.locals
 inj:∀ x y c,X.env.cells.lookup x=some c->X.env.cells.lookup y=some c->x=y
 has:∀ x,(X.env.kindOf x=some .cell\/X.env.kindOf x=some .free)->∃ c,X.env.cells.lookup x=some c
 cab:∀ x c,X.fn x=true->X.env.cells.lookup x=some c->X.s0.heap.objs.size<=c
 hd:X.calm=true->X.A.handled=none
 frames:X.A.frames=some X.stack
 stk:X.stack=X.outer\/(X.stack=X.env::X.outer/\X.env.frame=some X.env.locals)
 exf:∀ b∈X.ex,b≠X.env.locals/\∀ x c,X.env.cells.lookup x=some c->c≠b
 bs:∀ b o,X.base.get? b=some o->X.s0.heap.get? b=some o/\X.Z3 b=none
 bsz:X.base.objs.size<=X.s0.heap.objs.size
 noex:∀ b o,X.base.get? b=some o->b∉X.ex
 exfs:∀ b∈X.ex,b∉X.fs
 funs:X.s0.heap.FunFrames X.base X.outer
 frf:∀ b∈X.fs,X.Z3 b=none
 pyl:X.A.depth+Builtin.pylongFrames < recursionLimit/\(model X.prog X.w).prog.given.tree=none/\∃ e l,X.stack=e::l/\e.scope.isGenerator=false/\e.scope.isCoroutine=false/\e.builtins=builtinsNs/\e.globals=mainGlobals
 tabs:zH8 X.K X.Z3
structure Inv (X:Cx)(pins:List (Addr×Obj))(B:List (Option V))(H:Hp)(s:Shared):Prop where
 ok:X.Ok
 os:s.os=X.s0.os
 bare:AllBare s.gens
 base:Un X.fs X.ex X.Z3 H X.s0.heap s.heap
 loc:∃ m,s.heap.Ns X.env.locals m/\∀ (i:Nat) (x:Str) (v:V),X.N[i]?=some x->B[i]?=some (some v)->Vis X.env.scope x->∃ u,RelV v u/\Look X.env s.heap m x u
 cell:∀ x c,X.env.cells.lookup x=some c->∃ v,s.heap.IsCell c v
 free:H X.env.locals=none
 freeC:∀ x c,X.env.cells.lookup x=some c->H c=none
 pin:∀ p∈X.pn++pins,s.heap.get? p.1=some p.2/\H p.1=none/\p.1≠X.env.locals/\p.1∉X.fs/\∀ v,p.2.data≠.cell v
 hok:HOk X.prog X.w H s.heap
 len:B.length=X.N.length
section
variable {X:Cx}{pins:List (Addr×Obj)}{B:List (Option V)}{H H':Hp}{s:Shared}{h':Heap}
theorem Cx.Ok.nofr (ok:X.Ok){b:Addr}{o:Obj}(e:X.base.get? b=some o):b∉X.fs:=fun hb=>by
 have:=(ok.funs.mem hb).1;rw [e] at this;cases this
theorem Inv.bs (I:Inv X pins B H s):∀ b o,X.base.get? b=some o->s.heap.get? b=some o/\H b=none:=fun b o e =>
 ⟨I.base.keep b o (I.ok.bs b o e).1 (I.ok.bs b o e).2 (I.ok.nofr e) (I.ok.noex b o e),I.base.free b o (I.ok.bs b o e).1 (I.ok.bs b o e).2 (I.ok.noex b o e)⟩
theorem Inv.bk (I:Inv X pins B H s):∀ b o,X.base.get? b=some o->s.heap.get? b=some o:=fun b o e=>(I.bs b o e).1
theorem Inv.mod (I:Inv X pins B H s):Mod X.K X.mg X.base:=I.ok.mod
theorem Inv.kIn (I:Inv X pins B H s):X.K.In s.heap:=I.ok.mod.kin.keeps I.bk
theorem Inv.nolimit (I:Inv X pins B H s):s.heap.NoLimit:=I.ok.mod.nolimit.keeps I.bk
theorem Inv.lt (I:Inv X pins B H s):X.env.locals < s.heap.objs.size:=let ⟨_,hn,_⟩:=I.loc;hn.lt
theorem Inv.sz (I:Inv X pins B H s):X.s0.heap.objs.size<=s.heap.objs.size:=le_trans I.ok.above (Nat.le_of_lt I.lt)
theorem Inv.nofs (I:Inv X pins B H s){a:Addr}(h:s.heap.objs.size<=a):a∉X.fs:=fun hb=>by
 obtain ⟨_,o,ho,_⟩:=I.ok.funs.mem hb;exact absurd (lt_of_lt_of_le (lt_size ho) (le_trans I.sz h)) (lt_irrefl _)
theorem Inv.cne (I:Inv X pins B H s):∀ x c,X.env.cells.lookup x=some c->c≠X.env.locals:=fun x c e z=>by
 obtain ⟨v,o,ho,hd⟩:=I.cell x c e;obtain ⟨m,⟨o',es,ep,ho',hd',_⟩,_⟩:=I.loc;rw [z,ho'] at ho;cases ho;rw [hd'] at hd;cases hd
theorem Inv.funs (I:Inv X pins B H s):s.heap.FunFrames X.base X.outer:=by
 have all:∀ (l:List Env),(∀ b∈frs l,b∈X.fs)->X.s0.heap.FunFrames X.base l->s.heap.FunFrames X.base l:=by
  intro l
  induction l with
  | nil=>intro _ _;trivial
  | cons env r ih =>
   intro hs hl;obtain ⟨hk,⟨L,o,hf,hn,ho,hd⟩,hr⟩:=hl;have hL:L∈X.fs:=hs L (by unfold frs;rw [List.filterMap_cons,hf];exact mem_cons_self);obtain ⟨sl,e⟩:=I.base.slot L o ho (I.ok.frf L hL) hL fun z=>I.ok.exfs L z hL
   exact ⟨hk,⟨L,_,hf,hn,e,hd⟩,ih (fun b hb=>hs b (by unfold frs;rw [List.filterMap_cons,hf];exact mem_cons_of_mem _ hb)) hr⟩
 exact all X.outer (fun _ hb=>hb) I.ok.funs
theorem Inv.stack (I:Inv X pins B H s):s.heap.FunFrames X.base X.stack:=by
 rcases I.ok.stk with e | ⟨e,hf⟩
 .rw [e];exact I.funs
 .rw [e];obtain ⟨m,hn,_⟩:=I.loc;refine .cons (by rw [I.ok.kind];decide) hf hn ?_ I.funs;exact Heap.get?_none_of_le (le_trans I.ok.bsz I.ok.above)
theorem Inv.stkSub (I:Inv X pins B H s):∀ b∈frs X.stack,b∈X.env.locals::X.fs:=fun b hb=>by
 rcases I.ok.stk with e | ⟨e,hf⟩
 .rw [e] at hb;exact mem_cons_of_mem _ hb
 .rw [e] at hb;unfold frs at hb;rw [List.filterMap_cons,hf] at hb;exact hb
theorem Inv.stkFree (I:Inv X pins B H s):∀ b∈frs X.stack,H b=none:=fun b hb=>by
 rcases mem_cons.mp (I.stkSub b hb) with e | hb
 .rw [e];exact I.free
 .obtain ⟨_,o,ho,_⟩:=I.ok.funs.mem hb;exact I.base.free b o ho (I.ok.frf b hb) fun z=>I.ok.exfs b z hb
theorem Inv.step {g':Array GenState}{t':Nat}{d':Drawn}{ch:List Addr}(I:Inv X pins B H s)
  (hch:∀ b∈ch,(b∈X.ex\/X.s0.heap.objs.size<=b)/\b≠X.env.locals/\(∀ x c,X.env.cells.lookup x=some c->c≠b)/\∀ p∈X.pn++pins,p.1≠b)
  (keep:∀ b o,b≠X.env.locals->b∉X.fs->b∉ch->s.heap.get? b=some o->H b=none->h'.get? b=some o)
  (slot:∀ b o,b≠X.env.locals->b∈X.fs->b∉ch->s.heap.get? b=some o->H b=none->∃ sl,h'.get? b=some { o with slots:=sl }) (free:∀ b o,b∉ch->s.heap.get? b=some o->H b=none->H' b=none)
  (there:∀ b o,b∉ch->s.heap.get? b=some o->∃ o',h'.get? b=some o')
  (tups:∀ b xs,H b=some (.tup xs)->H' b=some (.tup xs)) (frzs:∀ b o u,H b=some (.frz o u)->H' b=some (.frz o u)) (tbls:∀ b q,H b=some (.tbl q)->H' b=some (.tbl q))
  (ns:∀ m,s.heap.Ns X.env.locals m->h'.Ns X.env.locals m) (hok:HOk X.prog X.w H' h') (hg:AllBare g') :
  Inv X pins B H' { s with heap:=h',gens:=g',drawn:=d',toks:=t' }:=by
 have neL:∀ b o,X.s0.heap.get? b=some o->b≠X.env.locals:=fun b o e=>ne_of_lt (lt_of_lt_of_le (lt_size e) I.ok.above)
 have neC:∀ b o,X.s0.heap.get? b=some o->b∉X.ex->b∉ch:=fun b o e hx hb=>by
  rcases (hch b hb).1 with z | z
  .exact hx z
  .exact absurd (lt_of_lt_of_le (lt_size e) z) (lt_irrefl _)
 have cellK:∀ x c,X.env.cells.lookup x=some c->∀ v,s.heap.IsCell c v->h'.IsCell c v:=fun x c e v zz0=>by
  obtain ⟨o,ho,hd⟩:=zz0;have nch:c∉ch:=fun z=>(hch c z).2.2.1 x c e rfl
  by_cases hc:c∈X.fs
  .obtain ⟨sl,q⟩:=slot c o (I.cne x c e) hc nch ho (I.freeC x c e);exact ⟨_,q,hd⟩
  .exact ⟨o,keep c o (I.cne x c e) hc nch ho (I.freeC x c e),hd⟩
 refine ⟨I.ok,I.os,hg,⟨fun b o e n hb hx=>?_,fun b o e n hb hx=>?_,fun b o e n hx=>?_,fun b o e hx=>?_,fun b xs e=>tups b xs (I.base.tups b xs e),fun b o xs e=>frzs b o xs (I.base.frzs b o xs e),fun b ps e=>?_⟩,?_,fun x c e=>?_,?_,fun x c e=>?_,fun p hp=>?_,hok,I.len⟩
 .exact keep b o (neL b o e) hb (neC b o e hx) (I.base.keep b o e n hb hx) (I.base.free b o e n hx)
 .obtain ⟨sl,e1⟩:=I.base.slot b o e n hb hx;obtain ⟨sl',e2⟩:=slot b _ (neL b o e) hb (neC b o e hx) e1 (I.base.free b o e n hx);exact ⟨sl',e2⟩
 .obtain ⟨o',e1⟩:=I.base.there b o e hx;exact free b o' (neC b o e hx) e1 (I.base.free b o e n hx)
 .obtain ⟨o',e1⟩:=I.base.there b o e hx;exact there b o' (neC b o e hx) e1
 .exact tbls b _ (I.base.tbls b ps e)
 .obtain ⟨m,hn,hl⟩:=I.loc;refine ⟨m,ns m hn,fun i x v e1 e2 e3=>?_⟩;obtain ⟨u,r,l⟩:=hl i x v e1 e2 e3;refine ⟨u,r,?_⟩;rcases l with l | ⟨k,c,e,z⟩
  .exact .inl l
  .exact .inr ⟨k,c,e,cellK x c e _ z⟩
 .obtain ⟨v,z⟩:=I.cell x c e;exact ⟨v,cellK x c e v z⟩
 .obtain ⟨m,⟨o,_,_,ho,_⟩,_⟩:=I.loc;exact free _ o (fun z=>(hch _ z).2.1 rfl) ho I.free
 .obtain ⟨v,o,ho,hd⟩:=I.cell x c e;exact free c o (fun z=>(hch c z).2.2.1 x c e rfl) ho (I.freeC x c e)
 .obtain ⟨e,n,ne,nf,d⟩:=I.pin p hp;have nch:p.1∉ch:=fun z=>(hch p.1 z).2.2.2 p hp rfl
  exact ⟨keep p.1 p.2 ne nf nch e n,free p.1 p.2 nch e n,ne,nf,d⟩
theorem Inv.un {t':Nat}(I:Inv X pins B H s)(u:Un X.fs [] H H' s.heap h')(hok:HOk X.prog X.w H' h'):Inv X pins B H' { s with heap:=h',toks:=t' }:=by
 obtain ⟨m,⟨o,es,ep,ho,r⟩,_⟩:=id I.loc;obtain ⟨sl,hL⟩:=u.any ho I.free (by simp);exact I.step (g':=s.gens) (d':=s.drawn) (ch:=[]) (fun _ z=>nomatch z) (fun b o _ hb _ e n=>u.keep b o e n hb (by simp)) (fun b o _ hb _ e n=>u.slot b o e n hb (by simp)) (fun b o _ e n=>u.free b o e n (by simp)) (fun b o _ e=>u.there b o e (by simp)) u.tups u.frzs u.tbls (fun m' hm=>by
  obtain ⟨o',es',ep',ho',r'⟩:=hm;rw [ho] at ho';cases ho';exact ⟨_,es',ep',hL,r'⟩) hok I.bare
theorem Inv.call {g':Array GenState}{t':Nat}{d':Drawn}{ch:List Addr}(I:Inv X pins B H s)(u:Un (frs X.stack) ch H H' s.heap h')(hok:HOk X.prog X.w H' h')(hg:AllBare g')
  (hch:∀ b∈ch,(b∈X.ex\/X.s0.heap.objs.size<=b)/\b≠X.env.locals/\(∀ x c,X.env.cells.lookup x=some c->c≠b)/\∀ p∈X.pn++pins,p.1≠b) :
  Inv X pins B H' { s with heap:=h',gens:=g',drawn:=d',toks:=t' }:=by
 obtain ⟨m,⟨o,es,ep,ho,r⟩,_⟩:=id I.loc;obtain ⟨sl,hL⟩:=u.any ho I.free fun z=>(hch _ z).2.1 rfl
 exact I.step (ch:=ch) hch (fun b o hL hb hc e n=>u.keep b o e n (fun z=>(mem_cons.mp (I.stkSub b z)).elim hL hb) hc) (fun b o _ _ hc e n=>u.any e n hc) (fun b o hc e n=>u.free b o e n hc) (fun b o hc e=>u.there b o e hc) u.tups u.frzs u.tbls (fun m' hm=>by
  obtain ⟨o',es',ep',ho',r'⟩:=hm;rw [ho] at ho';cases ho';exact ⟨_,es',ep',hL,r'⟩) hok hg
theorem Inv.turned {t':Nat}{it:Addr}(I:Inv X pins B H s)(k:∀ b o,b≠it->s.heap.get? b=some o->h'.get? b=some o)(hn:H it=none)(hL:it≠X.env.locals)
  (h1:it∈X.ex\/X.s0.heap.objs.size<=it) (h2:∀ x c,X.env.cells.lookup x=some c->c≠it) (h3:∀ p∈X.pn++pins,p.1≠it):Inv X pins B H { s with heap:=h',toks:=t' }:=by
 have nit:∀ b u,H b=some u->b≠it:=fun b u e z=>by rw [z,hn] at e;cases e
 refine I.step (g':=s.gens) (d':=s.drawn) (ch:=[it]) (fun b hb=>?_) (fun b o _ _ hc e _=>k b o (fun z=>hc (by simp [z])) e) (fun b o _ _ hc e _=>⟨o.slots,k b o (fun z=>hc (by simp [z])) e⟩) (fun _ _ _ _ n=>n)
  (fun b o hc e=>⟨o,k b o (fun z=>hc (by simp [z])) e⟩) (fun _ _ e=>e) (fun _ _ _ e=>e) (fun _ _ e=>e) (fun m hm=>?_) (fun b u e=>?_) I.bare
 .have e:b=it:=by simpa using hb
  subst e;exact ⟨h1,hL,h2,h3⟩
 .obtain ⟨o,es,ep,ho,r⟩:=hm;exact ⟨o,es,ep,k _ o (Ne.symm hL) ho,r⟩
 .refine (I.hok b u e).stay (fun c v hc q=>k c v ?_ q) (fun _ q=>q) (fun _ _ q=>q) fun _ _ _ q _=>q
  rcases hc with z | z
  .rw [z];exact nit b u e
  .exact nit c _ z
theorem Inv.tabs (I:Inv X pins B H s):zH8 X.K H:=fun x hx c P e=>I.base.tbls _ _ (I.ok.tabs x hx c P e)
theorem Inv.tok (I:Inv X pins B H s)(t:Nat):Inv X pins B H { s with toks:=t }:=I.un (h':=s.heap) (t':=t) Un.refl I.hok
theorem Inv.kept {t':Nat}(I:Inv X pins B H s)(k:∀ b u,s.heap.get? b=some u->h'.get? b=some u):Inv X pins B H { s with heap:=h',toks:=t' }:=I.un (Un.kept k) (I.hok.kept k)
theorem Inv.laid {a:Addr}{o:HO}{t':Nat}(I:Inv X pins B H s)(k:∀ b u,s.heap.get? b=some u->h'.get? b=some u)(hp:s.heap.objs.size<=a)(new:zCe X.prog X.w (upd H a o) h' a o) :
  Inv X pins B (upd H a o) { s with heap:=h',toks:=t' }:=I.un (Un.laid k hp (I.hok.fresh hp)) (I.hok.laid k hp new)
theorem Inv.write {x e:Addr}{o:HO}{t':Nat}(I:Inv X pins B H s)(mu:Mut (H x))(he:e=x\/H e=some (.own x))(k:∀ b u,b≠e->s.heap.get? b=some u->h'.get? b=some u)(heo:∃ u,h'.get? e=some u)
  (new:zCe X.prog X.w (upd H x o) h' x o):Inv X pins B (upd H x o) { s with heap:=h',toks:=t' }:=I.un (Un.write mu he k heo) (I.hok.write mu he k heo new)
theorem Inv.pins_of {pins':List (Addr×Obj)}(I:Inv X pins B H s)(h:∀ p∈pins',s.heap.get? p.1=some p.2/\H p.1=none/\p.1≠X.env.locals/\p.1∉X.fs/\∀ v,p.2.data≠.cell v):Inv X pins' B H s :=
 ⟨I.ok,I.os,I.bare,I.base,I.loc,I.cell,I.free,I.freeC,fun p hp=>(mem_append.mp hp).elim (fun z=>I.pin p (List.mem_append_left _ z)) (h p),I.hok,I.len⟩
theorem zHc {N:List Str}(hN:N.Nodup){i j:Nat}{x:Str}(a:N[i]?=some x)(b:N[j]?=some x):i=j:=by
 obtain ⟨h1,e1⟩:=zzg a;obtain ⟨h2,e2⟩:=zzg b;exact (List.getElem_inj hN).mp (e1.trans e2.symm)
theorem zI3 {M:Model}{A:Around}{E:Value->Shared->Prop}{i:Nat}{x:Str}{v:V}{u:Value}{Q:Unit->Shared->Prop}(I:Inv X pins B H s)(hN:X.N.Nodup)(hi:X.N[i]?=some x)(hx:Loc X.env.scope x)(r:RelV v u)
  (h:∀ s',Inv X pins (B.set i (some v)) H s'->(∃ a,Heap.SameBut a s.heap s'.heap/\(a=X.env.locals\/X.env.cells.lookup x=some a))->Q () s') (hf:X.fn x=true\/X.env.scope.names.lookup x=some .local:=by first | exact .inl rfl | exact .inr rfl | assumption):wpAny M A (storeName X.env x u) Q E s:=by
 obtain ⟨m,hn,hl⟩:=id I.loc;have hcls:(X.env.scope.kind==.class||(X.env.scope.kind==.module&&X.env.locals != X.env.globals))=false:=by rw [I.ok.kind];rfl
 have hiB:i < B.length:=by rw [I.len];exact (zzg hi).1
 have cne:=I.cne;have tracked:∀ {a:Addr} {h':Heap},(∃ o,s.heap.get? a=some o/\H a=none)->Heap.SameBut a s.heap h'->HOk X.prog X.w H h':=fun {a h'} ha hs b ob e=>by
  obtain ⟨_,_,hfree⟩:=ha;refine (I.hok b ob e).stay (fun c w' hc q=>(hs.2 c ?_).trans q) (fun _ q=>q) (fun _ _ q=>q) fun _ _ _ q _=>q
  rintro rfl;rcases hc with rfl | hc
  .rw [hfree] at e;cases e
  .rw [hfree] at hc;cases hc
 rcases hx with hk | hk
 .refine wpAny_storeName_local hk hn (fun h' hn' hs=>?_) hcls;obtain ⟨oL,_,_,hoL,_⟩:=id hn;refine h _ ⟨I.ok,I.os,I.bare,⟨fun b o e n hb hx=>?_,fun b o e n hb hx=>?_,I.base.free,fun b o e hx=>?_,I.base.tups,I.base.frzs,I.base.tbls⟩,⟨_,hn',fun j y v' e1 e2 e3=>?_⟩,fun y c e=>?_,I.free,I.freeC,fun p hp=>?_,tracked ⟨oL,hoL,I.free⟩ hs,by simpa using I.len⟩ ⟨_,hs,.inl rfl⟩
  .exact (hs.2 b (ne_of_lt (lt_of_lt_of_le (lt_size e) I.ok.above))).trans (I.base.keep b o e n hb hx)
  .obtain ⟨sl,e1⟩:=I.base.slot b o e n hb hx;exact ⟨sl,(hs.2 b (ne_of_lt (lt_of_lt_of_le (lt_size e) I.ok.above))).trans e1⟩
  .obtain ⟨o',e1⟩:=I.base.there b o e hx;exact ⟨o',(hs.2 b (ne_of_lt (lt_of_lt_of_le (lt_size e) I.ok.above))).trans e1⟩
  .by_cases hj:j=i
   .subst hj;rw [hi] at e1;cases e1;rw [getElem?_set_self hiB] at e2;cases e2;exact ⟨u,r,.inl ⟨hk,by simp⟩⟩
   .rw [getElem?_set_ne (Ne.symm hj)] at e2;obtain ⟨u',r',q⟩:=hl j y v' e1 e2 e3;refine ⟨u',r',?_⟩;rcases q with ⟨k,e⟩ | ⟨k,c,e,z⟩
    .refine .inl ⟨k,?_⟩;have:y≠x:=fun e=>hj (zHc hN e1 (e▸hi))
     simp [this,e]
    .exact .inr ⟨k,c,e,z.sameBut hs (cne y c e)⟩
  .obtain ⟨w',z⟩:=I.cell y c e;exact ⟨w',z.sameBut hs (cne y c e)⟩
  .obtain ⟨e,n,ne,nf,d⟩:=I.pin p hp;exact ⟨(hs.2 p.1 ne).trans e,n,ne,nf,d⟩
 .have hfn:X.fn x=true:=by
   rcases hf with z | z
   .exact z
   .rw [z] at hk;cases hk
  obtain ⟨c,hc⟩:=I.ok.has x (.inl hk);obtain ⟨w',z⟩:=I.cell x c hc;refine wpAny_storeName_cell I.ok.kind hk hc z (fun h' hc' hs=>?_);obtain ⟨oc,hoc,hocd⟩:=id z;refine h { s with heap:=h' } ⟨I.ok,I.os,I.bare,⟨fun b o e n hb hx=>?_,fun b o e n hb hx=>?_,I.base.free,fun b o e hx=>?_,I.base.tups,I.base.frzs,I.base.tbls⟩,⟨m,hn.sameBut hs (Ne.symm (cne x c hc)),fun j y v' e1 e2 e3=>?_⟩,fun y c' e=>?_,I.free,I.freeC,fun p hp=>?_,tracked ⟨oc,hoc,I.freeC x c hc⟩ hs,by simpa using I.len⟩ ⟨c,hs,.inr hc⟩
  .exact (hs.2 b (ne_of_lt (lt_of_lt_of_le (lt_size e) (I.ok.cab x c hfn hc)))).trans (I.base.keep b o e n hb hx)
  .obtain ⟨sl,e1⟩:=I.base.slot b o e n hb hx;exact ⟨sl,(hs.2 b (ne_of_lt (lt_of_lt_of_le (lt_size e) (I.ok.cab x c hfn hc)))).trans e1⟩
  .obtain ⟨o',e1⟩:=I.base.there b o e hx;exact ⟨o',(hs.2 b (ne_of_lt (lt_of_lt_of_le (lt_size e) (I.ok.cab x c hfn hc)))).trans e1⟩
  .by_cases hj:j=i
   .subst hj;rw [hi] at e1;cases e1;rw [getElem?_set_self hiB] at e2;cases e2;exact ⟨u,r,.inr ⟨.inl hk,c,hc,hc'⟩⟩
   .rw [getElem?_set_ne (Ne.symm hj)] at e2;obtain ⟨u',r',q⟩:=hl j y v' e1 e2 e3;refine ⟨u',r',?_⟩;rcases q with q | ⟨k,c',e,z'⟩
    .exact .inl q
    .refine .inr ⟨k,c',e,z'.sameBut hs ?_⟩;rintro rfl;exact hj (zHc hN e1 (I.ok.inj _ _ _ e hc▸hi))
  .by_cases hcc:c'=c
   .subst hcc;exact ⟨_,hc'⟩
   .obtain ⟨w2,z2⟩:=I.cell y c' e;exact ⟨w2,z2.sameBut hs hcc⟩
  .obtain ⟨e,n,ne,nf,d⟩:=I.pin p hp;refine ⟨(hs.2 p.1 ?_).trans e,n,ne,nf,d⟩;intro q;rw [q,hoc] at e;have q':oc=p.2:=Option.some.inj e;exact d w' (by rw [<- q'];exact hocd)
theorem zEu {M:Model}{A:Around}{E:Value->Shared->Prop}{i:Nat}{x:Str}{v:V}{u:Value}{Q:Unit->Shared->Prop}(I:Inv X pins B H s)(hN:X.N.Nodup)(hi:X.N[i]?=some x)(hx:Loc X.env.scope x)(r:RelV v u)
  (h:∀ s',Inv X pins (B.set i (some v)) H s'->Q () s') (hf:X.fn x=true\/X.env.scope.names.lookup x=some .local:=by first | exact .inl rfl | exact .inr rfl | assumption):wpAny M A (storeName X.env x u) Q E s :=
 zI3 I hN hi hx r (fun s' I' _=>h s' I') hf
theorem Inv.call' {s':Shared}{ch:List Addr}(I:Inv X pins B H s)(ho:s'.os=s.os)(u:Un (frs X.stack) ch H H' s.heap s'.heap)(hok:HOk X.prog X.w H' s'.heap)(hg:AllBare s'.gens)
  (hch:∀ b∈ch,(b∈X.ex\/X.s0.heap.objs.size<=b)/\b≠X.env.locals/\(∀ x c,X.env.cells.lookup x=some c->c≠b)/\∀ p∈X.pn++pins,p.1≠b):Inv X pins B H' s':=by
 obtain ⟨h',g',d',t',o'⟩:=s';have e:o'=s.os:=ho;subst e;exact I.call (g':=g') (t':=t') (d':=d') u hok hg hch
end
abbrev XK:=Value->Option Addr->Hp->Prop
abbrev St:=List (Option V)
abbrev VK:=V->Hp->Prop
abbrev TE:=St->Hp->VK->Prop
abbrev TT:=St->Hp->(Bool->Hp->Prop)->Prop
abbrev TA:=St->Hp->(List V->Hp->Prop)->Prop
structure Ends where
 nx:St->Hp->Prop
 rt:VK
 bk:St->Hp->Prop:=fun _ _=>False
 ct:St->Hp->Prop:=fun _ _=>False
abbrev TS:=Ends->St->Hp->Prop
def EP (X:Cx)(pins:List (Addr×Obj))(B:St)(Q:VK)(u:Value)(s':Shared):Prop:=∃ v H',Inv X pins B H' s'/\RelV v u/\Q v H'
def TP (X:Cx)(pins:List (Addr×Obj))(B:St)(Q:Bool->Hp->Prop)(b:Bool)(s':Shared):Prop:=∃ H',Inv X pins B H' s'/\Q b H'
def AP (X:Cx)(pins:List (Addr×Obj))(B:St)(Q:List V->Hp->Prop)(us:List Value)(s':Shared):Prop:=∃ vs H',Inv X pins B H' s'/\Vals vs us/\Q vs H'
def SP (X:Cx)(pins:List (Addr×Obj))(D:Ends)(f:Flow)(s':Shared):Prop :=
 match f with
 | .next=>∃ B' H',Inv X pins B' H' s'/\D.nx B' H'
 | .brk=>∃ B' H',Inv X pins B' H' s'/\D.bk B' H'
 | .cont=>∃ B' H',Inv X pins B' H' s'/\D.ct B' H'
 | .ret u=>∃ v B' H',Inv X pins B' H' s'/\RelV v u/\D.rt v H'
def PE (X:Cx)(e:Expr)(t:TE):Prop :=
 ∀ (pins:List (Addr×Obj)) (s:Shared) (B:St) (H:Hp) (Q:VK),Inv X pins B H s->t B H Q->wpAny (model X.prog X.w) X.A (eval e X.env) (EP X pins B Q) X.xe s
def PT (X:Cx)(e:Expr)(t:TT):Prop :=
 ∀ (pins:List (Addr×Obj)) (s:Shared) (B:St) (H:Hp) (Q:Bool->Hp->Prop),Inv X pins B H s->t B H Q->wpAny (model X.prog X.w) X.A (isTrue e X.env (eval e X.env)) (TP X pins B Q) X.xe s
def PW (X:Cx)(e:Expr)(t:TT):Prop :=
 ∀ (whole:Sem Value) (pins:List (Addr×Obj)) (s:Shared) (B:St) (H:Hp) (Q:Bool->Hp->Prop),Inv X pins B H s->t B H Q->wpAny (model X.prog X.w) X.A (isTrue e X.env whole) (TP X pins B Q) X.xe s
theorem PW.pt {X:Cx}{e:Expr}{t:TT}(h:PW X e t):PT X e t:=h _
def PA (X:Cx)(es:List Expr)(t:TA):Prop :=
 ∀ (pos:Pos) (pins:List (Addr×Obj)) (s:Shared) (B:St) (H:Hp) (Q:List V->Hp->Prop),Inv X pins B H s->t B H Q->wpAny (model X.prog X.w) X.A (spliced (backTo pos (starEach es X.env))) (AP X pins B Q) X.xe s
def PS (X:Cx)(st:Stmt)(t:TS):Prop :=
 ∀ (pins:List (Addr×Obj)) (s:Shared) (B:St) (H:Hp) (D:Ends),Inv X pins B H s->t D B H->wpAny (model X.prog X.w) X.A (exec st X.env) (SP X pins D) X.xe s
def PSs (X:Cx)(st:List Stmt)(t:TS):Prop :=
 ∀ (pins:List (Addr×Obj)) (s:Shared) (B:St) (H:Hp) (D:Ends),Inv X pins B H s->t D B H->wpAny (model X.prog X.w) X.A (execs st X.env) (SP X pins D) X.xe s
theorem thn {U:Type}{t:Sem U}{Q Q':U->Shared->Prop}{M:Model}{A:Around}{E:Value->Shared->Prop}{s:Shared}(h:wpAny M A t Q E s)(hQ:∀ a s,Q a s->Q' a s):wpAny M A t Q' E s:=wpAny_mono h hQ fun _ _ x=>x
section
variable {X:Cx}
theorem bin {a b:Expr}{ta tb:TE}(ha:PE X a ta)(hb:PE X b tb){pins:List (Addr×Obj)}{s:Shared}{B:St}{H:Hp}{R:V->V->Hp->Prop}(I:Inv X pins B H s)(h:ta B H fun x H1=>tb B H1 fun y H2=>R x y H2)
  {U:Type} {Q:U->Shared->Prop} {f:Value->Value->Sem U}
  (hf:∀ v u s2 x y H2,Inv X pins B H2 s2->RelV x v->RelV y u->R x y H2->wpAny (model X.prog X.w) X.A (f v u) Q X.xe s2) :
  wpAny (model X.prog X.w) X.A (eval a X.env) (fun v O1=>wpAny (model X.prog X.w) X.A (eval b X.env) (fun u Y2=>wpAny (model X.prog X.w) X.A (f v u) Q X.xe Y2) X.xe O1) X.xe s:=by
 refine thn (ha pins s B H _ I h) fun v s1 zz1=>?_
 obtain ⟨x,H1,I1,r1,q1⟩:=zz1;refine thn (hb pins s1 B H1 _ I1 q1) fun u s2 zz2=>?_
 obtain ⟨y,H2,I2,r2,q2⟩:=zz2;exact hf v u s2 x y H2 I2 r1 r2 q2
def tVar (i:Nat):TE:=fun B H Q=>∃ v,B[i]?=some (some v)/\Q v H
def tC (v:V):TE:=fun _ H Q=>Q v H
theorem zDu {i:Nat}{x:Str}{pos:Pos}(hN:X.N[i]?=some x)(hv:Vis X.env.scope x)(hd:(x==("__debug__":Str))=false:=by decide)(hcd:(x==("__classdict__":Str))=false:=by decide):PE X (.Name x pos) (tVar i):=by
 intro pins s B H Q I h;obtain ⟨v,e,h⟩:=h;obtain ⟨m,hn,hl⟩:=I.loc;obtain ⟨u,r,l⟩:=hl i x v hN e hv;have fin:EP X pins B Q u s:=⟨v,H,I,r,h⟩;rcases l with ⟨hk,hm⟩ | ⟨hk,c,hc,hcell⟩
 .exact wpAny_Name (wpAny_loadName_local I.ok.kind hk hn hm fin) hd
 .rcases hk with hk | hk
  .exact wpAny_Name (wpAny_loadName_cell I.ok.kind hk hc hcell fin) hd
  .exact wpAny_Name (wpAny_loadName_free I.ok.kind hk hc hcell fin hcd) hd
theorem zRA {i j pos}:PE X (.Constant (.int i) j pos) (tC (.int i)):=fun _ _ _ H _ I h=>wpAny_Constant_int ⟨.int i,H,I.tok _,⟨_,rfl⟩,h⟩
theorem zTO {b j pos}:PE X (.Constant (.bool b) j pos) (tC (.bl b)):=fun _ _ _ H _ I h=>Constant_bool ⟨.bl b,H,I,rfl,h⟩
theorem zQ8 {j pos}:PE X (.Constant .none j pos) (tC .non):=fun _ _ _ H _ I h=>Constant_none ⟨.non,H,I,rfl,h⟩
theorem zQ5 {x j pos}:PE X (.Constant (.str x) j pos) (tC (.str x)):=fun _ _ _ H _ I h=>Calls.Constant_str ⟨.str x,H,I.tok _,⟨_,rfl⟩,h⟩
def Gl (X:Cx)(x:Str):Prop:=X.env.kindOf x=some .globalImplicit
theorem zFB {E:Value->Shared->Prop}{pins:List (Addr×Obj)}{s:Shared}{B:St}{H:Hp}{x:Str}{u:Value}{pos:Pos}{Q:Value->Shared->Prop}(I:Inv X pins B H s)(hg:Gl X x)(hm:X.mg x=some u)(h:Q u s)
  (hd:(x==("__debug__":Str))=false:=by decide):wpAny (model X.prog X.w) X.A (eval (.Name x pos) X.env) Q E s :=
 Calls.Name_function_global I.ok.kind hg (Calls.loadGlobal_global (by rw [I.ok.glob];exact I.mod.glob.keeps I.bk) hm h) hd
theorem zCh {E:Value->Shared->Prop}{pins:List (Addr×Obj)}{s:Shared}{B:St}{H:Hp}{x:Str}{u:Value}{pos:Pos}{Q:Value->Shared->Prop}(I:Inv X pins B H s)(hg:Gl X x)(hm:X.mg x=none)(hv:bootBuiltins x=some u)(h:Q u s)
  (hn:x ≠ "__name__":=by decide) (hd:(x==("__debug__":Str))=false:=by decide):wpAny (model X.prog X.w) X.A (eval (.Name x pos) X.env) Q E s:=by
 obtain ⟨mb,h1,h2⟩:=I.mod.blt;exact Calls.Name_function_global I.ok.kind hg (Calls.loadGlobal_builtin (by rw [I.ok.glob];exact I.mod.glob.keeps I.bk) hm (by rw [I.ok.blt];exact h1.keeps I.bk) ((h2 x hn).trans hv) h) hd
theorem zOl {x:Str}{v:V}{u:Value}{pos:Pos}(hg:Gl X x)(hm:X.mg x=some u)(r:RelV v u)(hd:(x==("__debug__":Str))=false:=by decide):PE X (.Name x pos) (tC v) :=
 fun _ _ _ H _ I h=>zFB I hg hm ⟨v,H,I,r,h⟩ hd
theorem zOo {x:Str}{v:V}{u:Value}{pos:Pos}(hg:Gl X x)(hm:X.mg x=none)(hv:bootBuiltins x=some u)(r:RelV v u)(hn:x ≠ "__name__":=by decide)(hd:(x==("__debug__":Str))=false:=by decide):PE X (.Name x pos) (tC v) :=
 fun _ _ _ H _ I h=>zCh I hg hm hv ⟨v,H,I,r,h⟩ hn hd
variable {a b:Expr}{ta tb:TE}{pos:Pos}
def tB (t:TE):TT:=fun B H Q=>t B H fun x H1=>∃ c,x=.bl c/\Q c H1
theorem zNU {e:Expr}{t:TE}(h:PE X e t)(he:∀ whole,isTrue e X.env whole=(do let v<-whole;standAt e.pos;holding [v] (truthy v)):=by intro _;rfl):PT X e (tB t):=by
 intro pins s B H Q I hw;refine isTrue_plain (thn (h pins s B H _ I hw) fun v s1 zz3=>?_) (he _);obtain ⟨x,H1,I1,r1,q1⟩:=zz3;obtain ⟨d,rfl,q⟩:=q1;cases r1;exact wpAny_truthy_bool ⟨H1,I1,q⟩
variable {tA tB':TT}{rest:List Expr}
def tAnd (t u:TT):TT:=fun B H Q=>t B H fun c H1=>if c=true then u B H1 Q else Q false H1
def tOr (t u:TT):TT:=fun B H Q=>t B H fun c H1=>if c=true then Q true H1 else u B H1 Q
def tNot (t:TT):TT:=fun B H Q=>t B H fun c H1=>Q (!c) H1
theorem zJH (ha:PT X a tA):PW X (.BoolOp .And [a] pos) tA:=by
 intro wh pins s B H Q I h;refine isTrue_and (thn (ha pins s B H Q I h) fun c s1 e=>?_);cases c with
 | true=>exact isTrue_and_nil e
 | false=>exact e
theorem zNS (ha:PT X a tA):PW X (.BoolOp .Or [a] pos) tA:=by
 intro wh pins s B H Q I h;refine isTrue_or (thn (ha pins s B H Q I h) fun c s1 e=>?_);cases c with
 | false=>exact isTrue_or_nil e
 | true=>exact e
theorem zNT (ha:PT X a tA)(hb:PW X (.BoolOp .And (b::rest) pos) tB'):PW X (.BoolOp .And (a::b::rest) pos) (tAnd tA tB'):=by
 intro wh pins s B H Q I h;refine isTrue_and (thn (ha pins s B H _ I h) fun c s1 zz4=>?_);obtain ⟨H1,I1,q1⟩:=zz4;cases c with
 | true=>exact hb wh pins s1 B H1 Q I1 q1
 | false=>exact ⟨H1,I1,q1⟩
theorem zQx (ha:PT X a tA)(hb:PW X (.BoolOp .Or (b::rest) pos) tB'):PW X (.BoolOp .Or (a::b::rest) pos) (tOr tA tB'):=by
 intro wh pins s B H Q I h;refine isTrue_or (thn (ha pins s B H _ I h) fun c s1 zz5=>?_);obtain ⟨H1,I1,q1⟩:=zz5;cases c with
 | true=>exact ⟨H1,I1,q1⟩
 | false=>exact hb wh pins s1 B H1 Q I1 q1
theorem zNV (ha:PT X a tA):PT X (.UnaryOp .Not a pos) (tNot tA):=by
 intro pins s B H Q I h;exact isTrue_not (ha pins s B H (fun c H1=>Q (!c) H1) I h)
def zTF (ta tb:TE):TE:=fun B H Q=>ta B H fun x H1=>∃ c,x=.bl c/\if c=true then tb B H1 Q else Q (.bl false) H1
def tOrV (ta tb:TE):TE:=fun B H Q=>ta B H fun x H1=>∃ c,x=.bl c/\if c=true then Q (.bl true) H1 else tb B H1 Q
def zTC (ta:TE):TE:=fun B H Q=>ta B H fun x H1=>∃ c,x=.bl c/\Q (.bl (!c)) H1
theorem zQ6 {op}{t:TE}(h:PE X a t):PE X (.BoolOp op [a] pos) t:=fun pins s B H Q I hw=>BoolOp_one (h pins s B H Q I hw)
theorem zRB (ha:PE X a ta)(hb:PE X (.BoolOp .And (b::rest) pos) tb):PE X (.BoolOp .And (a::b::rest) pos) (zTF ta tb):=by
 intro pins s B H Q I h;refine BoolOp_and (thn (ha pins s B H _ I h) fun v s1 zz6=>?_);obtain ⟨x,H1,I1,r1,q1⟩:=zz6;obtain ⟨c,rfl,q1⟩:=q1;cases r1;refine wpAny_truthy_bool ?_;cases c with
 | true=>exact hb pins s1 B H1 Q I1 q1
 | false=>exact ⟨.bl false,H1,I1,rfl,q1⟩
theorem zTM (ha:PE X a ta)(hb:PE X (.BoolOp .Or (b::rest) pos) tb):PE X (.BoolOp .Or (a::b::rest) pos) (tOrV ta tb):=by
 intro pins s B H Q I h;refine BoolOp_or (thn (ha pins s B H _ I h) fun v s1 zz7=>?_);obtain ⟨x,H1,I1,r1,q1⟩:=zz7;obtain ⟨c,rfl,q1⟩:=q1;cases r1;refine wpAny_truthy_bool ?_;cases c with
 | false=>exact hb pins s1 B H1 Q I1 q1
 | true=>exact ⟨.bl true,H1,I1,rfl,q1⟩
theorem zQ7 (ha:PE X a ta):PE X (.UnaryOp .Not a pos) (zTC ta):=by
 intro pins s B H Q I h;refine UnaryOp_ (thn (ha pins s B H _ I h) fun v s1 zz8=>?_);obtain ⟨x,H1,I1,r1,q1⟩:=zz8;obtain ⟨c,rfl,q1⟩:=q1;cases r1;exact not_of (wpAny_truthy_bool ⟨.bl (!c),H1,I1,rfl,q1⟩)
def tIf (t:TT)(ta tb:TE):TE:=fun B H Q=>t B H fun c H1=>if c=true then ta B H1 Q else tb B H1 Q
theorem zLp {c:Expr}(hc:PT X c tA)(ha:PE X a ta)(hb:PE X b tb):PE X (.IfExp c a b pos) (tIf tA ta tb):=by
 intro pins s B H Q I h;refine wpAny_IfExp (thn (hc pins s B H _ I h) fun d s1 zz9=>?_);obtain ⟨H1,I1,q1⟩:=zz9;cases d with
 | true=>exact ha pins s1 B H1 Q I1 q1
 | false=>exact hb pins s1 B H1 Q I1 q1
end
def SqL (K:W.Frag)(H:Hp)(a:Addr)(xs:List V):Prop :=
 Rd H a (.lst xs) \/
  ∃ (o:Obj) (its:Array Value) (n:Nat),K.lookup a=some o/\o.cls=.type "list"/\o.dict=none/\o.data=.seq its n/\its.size<=sizeLine/\Vals xs its.toList
def SqT (K:W.Frag)(H:Hp)(a:Addr)(xs:List V):Prop :=
 Rd H a (.tup xs) \/
  ∃ (o:Obj) (its:Array Value) (n:Nat),K.lookup a=some o/\o.cls=.type "tuple"/\o.data=.seq its n/\its.size<=sizeLine/\Vals xs its.toList
def absV:Value->Option V
 | .none=>some .non
 | .bool b=>some (.bl b)
 | .int i _=>some (.int i)
 | .str x _=>some (.str x)
 | .bytes b _=>some (.byt b)
 | .float b _=>some (.flt b)
 | .ref a=>some (.ref a)
 | .type n=>some (.ty n)
 | _=>none
theorem RelV.abs {x:V}{u:Value}(r:RelV x u):absV u=some x:=by
 cases x with
 | non=>cases r;rfl
 | bl _=>cases r;rfl
 | int _=>obtain ⟨t,rfl⟩:=r;rfl
 | str _=>obtain ⟨t,rfl⟩:=r;rfl
 | byt _=>obtain ⟨t,rfl⟩:=r;rfl
 | flt _=>obtain ⟨t,rfl⟩:=r;rfl
 | ref _=>cases r;rfl
 | ty _=>cases r;rfl
theorem RelV.inj {x y:V}{u:Value}(r:RelV x u)(q:RelV y u):x=y:=Option.some.inj (r.abs.symm.trans q.abs)
theorem Vals.inj:∀ {xs ys:List V} {us:List Value},Vals xs us->Vals ys us->xs=ys
 | _,_,_,.nil,.nil=>rfl
 | _,_,_,.cons r t,.cons r' t'=>by rw [r.inj r',Vals.inj t t']
section
variable {X:Cx}{pins:List (Addr×Obj)}{B:St}{H:Hp}{s:Shared}{a:Addr}{xs ys:List V}
theorem SqL.of {K:W.Frag}(h:H a=some (.lst xs)):SqL K H a xs:=.inl (.inl h)
theorem SqT.of {K:W.Frag}(h:H a=some (.tup xs)):SqT K H a xs:=.inl (.inl h)
theorem Inv.list (I:Inv X pins B H s)(h:SqL X.K H a xs):∃ its:List Value,Vals xs its/\PlainL s.heap a its.toArray/\xs.length<=sizeLine:=by
 rcases h with h | ⟨o,its,n,hk,hc,hd,hs,hz,r⟩
 .obtain ⟨z,its,n,r,e⟩:=h.ok I.hok;exact ⟨its,r,⟨_,n,e,rfl,rfl,rfl⟩,z⟩
 .refine ⟨its.toList,r,⟨o,n,I.kIn a o hk,hc,hd,by simpa using hs⟩,?_⟩;have e:=r.length;simp only [Array.length_toList] at e;omega
theorem Inv.tuple (I:Inv X pins B H s)(h:SqT X.K H a xs):∃ its:List Value,Vals xs its/\IsTup s.heap a its.toArray/\xs.length<=sizeLine:=by
 rcases h with h | ⟨o,its,n,hk,hc,hs,hz,r⟩
 .obtain ⟨z,its,r,p⟩:=h.ok I.hok;exact ⟨its,r,p,z⟩
 .refine ⟨its.toList,r,⟨o,I.kIn a o hk,hc,n,by simpa using hs⟩,?_⟩;have e:=r.length;simp only [Array.length_toList] at e;omega
theorem Inv.list_inj (I:Inv X pins B H s)(h:SqL X.K H a xs)(h':SqL X.K H a ys):xs=ys:=by
 obtain ⟨its,r,⟨o,n,e,_,_,d⟩,_⟩:=I.list h;obtain ⟨its',r',⟨o',n',e',_,_,d'⟩,_⟩:=I.list h';rw [e] at e';cases e';rw [d] at d';injection d' with d1 _
 have:its=its':=by simpa using congrArg Array.toList d1
 subst this;exact r.inj r'
theorem Inv.tuple_inj (I:Inv X pins B H s)(h:SqT X.K H a xs)(h':SqT X.K H a ys):xs=ys:=by
 obtain ⟨its,r,⟨o,e,_,n,d⟩,_⟩:=I.tuple h;obtain ⟨its',r',⟨o',e',_,n',d'⟩,_⟩:=I.tuple h';rw [e] at e';cases e';rw [d] at d';injection d' with d1 _
 have:its=its':=by simpa using congrArg Array.toList d1
 subst this;exact r.inj r'
end
abbrev Cx.wish (X:Cx) (E:Value->Shared->Prop):Cx:={ X with xe:=E }
abbrev Cx.nox (X:Cx):Cx:=X.wish fun _ _=>False
theorem Cx.Ok.wish {X:Cx}(ok:X.Ok)(E:Value->Shared->Prop):(X.wish E).Ok :=
 ⟨ok.mod,ok.kind,ok.glob,ok.blt,ok.above,ok.inj,ok.has,ok.cab,ok.hd,ok.frames,ok.stk,ok.exf,ok.bs,ok.bsz,ok.noex,ok.exfs,ok.funs,ok.frf,ok.pyl,ok.tabs⟩
theorem Cx.Ok.unwish {X:Cx}{E:Value->Shared->Prop}(ok:(X.wish E).Ok):X.Ok :=
 ⟨ok.mod,ok.kind,ok.glob,ok.blt,ok.above,ok.inj,ok.has,ok.cab,ok.hd,ok.frames,ok.stk,ok.exf,ok.bs,ok.bsz,ok.noex,ok.exfs,ok.funs,ok.frf,ok.pyl,ok.tabs⟩
section
variable {X:Cx}{pins:List (Addr×Obj)}{B:St}{H:Hp}{s:Shared}{E:Value->Shared->Prop}
theorem Inv.wish (I:Inv X pins B H s)(E:Value->Shared->Prop):Inv (X.wish E) pins B H s:=⟨I.ok.wish E,I.os,I.bare,I.base,I.loc,I.cell,I.free,I.freeC,I.pin,I.hok,I.len⟩
theorem Inv.unwish (I:Inv (X.wish E) pins B H s):Inv X pins B H s:=⟨I.ok.unwish,I.os,I.bare,I.base,I.loc,I.cell,I.free,I.freeC,I.pin,I.hok,I.len⟩
theorem SP.unwish {D:Ends}{f:Flow}{s':Shared}(h:SP (X.wish E) pins D f s'):SP X pins D f s':=by
 cases f with
 | next=>obtain ⟨B',H',I,q⟩:=h;exact ⟨B',H',I.unwish,q⟩
 | brk=>obtain ⟨B',H',I,q⟩:=h;exact ⟨B',H',I.unwish,q⟩
 | cont=>obtain ⟨B',H',I,q⟩:=h;exact ⟨B',H',I.unwish,q⟩
 | ret u=>obtain ⟨v,B',H',I,r,q⟩:=h;exact ⟨v,B',H',I.unwish,r,q⟩
theorem PSs.nox {st:List Stmt}{t:TS}(h:PSs X.nox st t):PSs X st t:=fun pins s B H D I hw =>
 wpAny_mono (h pins s B H D (I.wish _) hw) (fun _ _ q=>q.unwish) fun _ _ z=>False.elim z
end
section
variable {X:Cx}{st:Stmt}{rest:List Stmt}{t u:TS}{e:Expr}{te:TE}{pos:Pos}
def zTD:TS:=fun D B H=>D.nx B H
def tSeq (t u:TS):TS:=fun D B H=>t { D with nx:=u D } B H
theorem zJI:PSs X [] zTD:=fun _ _ B H _ I h=>wpAny_execs_nil ⟨B,H,I,h⟩
theorem zHW (h1:PS X st t)(h2:PSs X rest u):PSs X (st::rest) (tSeq t u):=by
 intro pins s B H D I h;refine wpAny_execs_cons (thn (h1 pins s B H { D with nx:=u D } I h) fun f s1 q=>?_);cases f with
 | next =>
  obtain ⟨B',H',I',q⟩:=q;exact h2 pins s1 B' H' D I' q
 | ret v=>exact q
 | brk=>exact q
 | cont=>exact q
theorem Inv.quiet {pins:List (Addr×Obj)}{B:St}{H:Hp}{s:Shared}(I:Inv X pins B H s):interactive X.env=false:=by simp [interactive,I.ok.kind]
def zTE (te:TE):TS:=fun D B H=>te B H fun _ H1=>D.nx B H1
theorem zGc (he:PE X e te)(hs:swapsWith e none pos.line X.env=pure false:=by rfl):PS X (.Expr e pos) (zTE te):=by
 intro pins s B H D I h;exact wpAny_Expr_any (thn (he pins s B H _ I h) fun v s1 zy108=>by obtain ⟨x,H1,I1,r1,q1⟩:=zy108;exact ⟨B,H1,I1,q1⟩) I.quiet hs
def tRet (te:TE):TS:=fun D B H=>te B H D.rt
theorem zJJ (he:PE X e te):PS X (.Return (some e) pos) (tRet te):=by
 intro pins s B H D I h;exact wpAny_Return_some (thn (he pins s B H _ I h) fun v s1 zy109=>by obtain ⟨x,H1,I1,r1,q1⟩:=zy109;exact ⟨x,B,H1,I1,r1,q1⟩)
def tIfS (c:TT)(t u:TS):TS:=fun D B H=>c B H fun b H1=>if b=true then t D B H1 else u D B H1
theorem zQz {c:Expr}{a b:List Stmt}{tc:TT}(hc:PT X c tc)(ha:PSs X a t)(hb:PSs X b u):PS X (.If c a b pos) (tIfS tc t u):=by
 intro pins s B H D I h;refine wpAny_If (thn (hc pins s B H _ I h) fun d s1 zz10=>?_);obtain ⟨H1,I1,q1⟩:=zz10;cases d with
 | true=>exact ha pins s1 B H1 D I1 q1
 | false=>exact hb pins s1 B H1 D I1 q1
def zQh:TS:=fun _ _ _=>False
theorem zE2:PS X st zQh:=fun _ _ _ _ _ _ h=>h.elim
end
abbrev TG:=V->St->Hp->(St->Hp->Prop)->Prop
abbrev TGs:=List V->St->Hp->(St->Hp->Prop)->Prop
def PG (X:Cx)(target:Expr)(t:TG):Prop :=
 ∀ (pins:List (Addr×Obj)) (s:Shared) (B:St) (H:Hp) (v:V) (u:Value) (Q:St->Hp->Prop),Inv X pins B H s->RelV v u->t v B H Q ->
  wpAny (model X.prog X.w) X.A (assign target X.env u) (fun _ s'=>∃ B' H',Inv X pins B' H' s'/\Q B' H') X.xe s
def PGs (X:Cx)(ts:List Expr)(t:TGs):Prop :=
 ∀ (pins:List (Addr×Obj)) (s:Shared) (B:St) (H:Hp) (vs:List V) (us:List Value) (Q:St->Hp->Prop),Inv X pins B H s->Vals vs us->t vs B H Q ->
  wpAny (model X.prog X.w) X.A (assignInOrder ((assignEach ts X.env).map (·.2)) us) (fun _ s'=>∃ B' H',Inv X pins B' H' s'/\Q B' H') X.xe s
abbrev TIp:=V->V->Hp->VK->Prop
def PIp (X:Cx)(op:Operator)(t:TIp):Prop :=
 ∀ (pins:List (Addr×Obj)) (s:Shared) (B:St) (H:Hp) (x y:V) (v u:Value) (Q:VK),Inv X pins B H s->RelV x v->RelV y u->t x y H Q ->
  wpAny (model X.prog X.w) X.A (inplaceOp op v u) (EP X pins B Q) X.xe s
section
variable {X:Cx}{pos:Pos}
def zSO (i:Nat):TG:=fun v B H Q=>Q (B.set i (some v)) H
theorem zDH {i:Nat}{x:Str}(hN:X.N.Nodup)(hi:X.N[i]?=some x)(hx:Loc X.env.scope x)(hf:X.fn x=true\/X.env.scope.names.lookup x=some .local:=by first | exact .inl rfl | exact .inr rfl | assumption):PG X (.Name x pos) (zSO i):=by
 intro pins s B H v u Q I r h;exact wpAny_assign_Name (zEu I hN hi hx r (fun s' I'=>⟨_,H,I',h⟩) hf)
def gNil:TGs:=fun vs B H Q=>vs=[]/\Q B H
def zTy (t:TG)(u:TGs):TGs:=fun vs B H Q=>∃ v r,vs=v::r/\t v B H fun B' H'=>u r B' H' Q
theorem zOk:PGs X [] gNil:=by
 intro pins s B H vs us Q I r h;obtain ⟨e,h⟩:=h;subst e;cases r;exact assignInOrder_nil ⟨B,H,I,h⟩
theorem zHY {e:Expr}{es:List Expr}{t:TG}{u:TGs}(h1:PG X e t)(h2:PGs X es u)
  (hs:(assignEach (e::es) X.env).map (·.2)=assign e X.env::(assignEach es X.env).map (·.2):=by rfl):PGs X (e::es) (zTy t u):=by
 intro pins s B H vs us Q I r h;obtain ⟨v,vr,e1,h⟩:=h;subst e1;cases r with
 | cons r rr =>
  rw [hs];refine assignInOrder_cons (thn (h1 pins s B H _ _ _ I r h) fun _ s1 zz11=>?_);obtain ⟨Z5,H1,I1,q1⟩:=zz11;exact h2 pins s1 Z5 H1 _ _ Q I1 rr q1
def gTup (K:W.Frag)(n:Nat)(t:TGs):TG:=fun v B H Q=>∃ a xs,v=.ref a/\SqT K H a xs/\xs.length=n/\t xs B H Q
theorem zQ3 {es:List Expr}{k:Nat}{t:TGs}{n:Nat}(hc:X.calm=true)(h:PGs X es t)
  (hn:(assignEach es X.env).length=n:=by rfl) (hst:(assignEach es X.env).findIdx? (·.1)=none:=by rfl):PG X (.Tuple es k pos) (gTup X.K n t):=by
 intro pins s B H v u Q I r hw;obtain ⟨a,xs,e1,hq,hl,hw⟩:=hw;subst e1;cases r;obtain ⟨its,rv,ht,hz⟩:=I.tuple hq;refine assign_Tuple_tuple (I.ok.hd hc) ht (by simp [hn,<- hl,rv.length]) hst fun h' hx=>?_
 have I1:Inv X pins B H { s with heap:=h' }:=I.kept (t':=s.toks) fun b o e=>hx b o (ne_of_lt (lt_size e)) e
 exact h pins _ B H xs _ Q I1 (by simpa using rv) hw
def tAsg (te:TE)(g:TG):TS:=fun D B H=>te B H fun x H1=>g x B H1 D.nx
theorem zNX {i:Nat}{x:Str}{e:Expr}{te:TE}{pos':Pos}(hN:X.N.Nodup)(hi:X.N[i]?=some x)(hx:Loc X.env.scope x)(he:PE X e te)(hs:swapsWith e (some (.Name x pos')) pos.line X.env=pure false:=by rfl)(hf:X.fn x=true\/X.env.scope.names.lookup x=some .local:=by first | exact .inl rfl | exact .inr rfl | assumption) :
  PS X (.Assign [.Name x pos'] e pos) (tAsg te (zSO i)):=by
 intro pins s B H D I h;refine wpAny_Assign_Name (thn (he pins s B H _ I h) fun v s1 zz12=>?_) hs;obtain ⟨y,H1,I1,r1,q1⟩:=zz12;exact zEu I1 hN hi hx r1 (fun s2 I2=>⟨_,H1,I2,q1⟩) hf
def tAug (i:Nat)(te:TE)(ti:TIp):TS:=fun D B H=>∃ x,B[i]?=some (some x)/\te B H fun y H1=>ti x y H1 fun z H2=>D.nx (B.set i (some z)) H2
theorem zQ0 {i:Nat}{x:Str}{e:Expr}{te:TE}{op:Operator}{ti:TIp}{pos':Pos}(hN:X.N.Nodup)(hi:X.N[i]?=some x)(hx:Loc X.env.scope x)(he:PE X e te)(ho:PIp X op ti)(hf:X.fn x=true\/X.env.scope.names.lookup x=some .local:=by first | exact .inl rfl | exact .inr rfl | assumption) :
  PS X (.AugAssign (.Name x pos') op e pos) (tAug i te ti):=by
 intro pins s B H D I h;obtain ⟨v,e1,h⟩:=h;obtain ⟨m,hn,hl⟩:=I.loc;have vis:Vis X.env.scope x:=by rcases hx with k | k;exact .inl k;exact .inr (.inl k)
 obtain ⟨u,r,l⟩:=hl i x v hi e1 vis;refine wpAny_AugAssign_Name ?_;have go:wpAny (model X.prog X.w) X.A (eval e X.env) (fun w Y2=>wpAny (model X.prog X.w) X.A (inplaceOp op u w) (fun r Y9=>wpAny (model X.prog X.w) X.A (storeName X.env x r) (fun _=>SP X pins D .next) X.xe Y9) X.xe Y2) X.xe s:=by
  refine thn (he pins s B H _ I h) fun w s1 zz13=>?_
  obtain ⟨y,H1,I1,r1,q1⟩:=zz13;refine thn (ho pins s1 B H1 v y u w _ I1 r r1 q1) fun z s2 zz14=>?_
  obtain ⟨zv,H2,I2,r2,q2⟩:=zz14;exact zEu I2 hN hi hx r2 (fun s3 I3=>⟨_,H2,I3,q2⟩) hf
 rcases l with ⟨hk,hm⟩ | ⟨hk,c,hc,hcell⟩
 .exact wpAny_loadName_local I.ok.kind hk hn hm go
 .rcases hk with hk | hk
  .exact wpAny_loadName_cell I.ok.kind hk hc hcell go
  .rcases hx with k | k
   .have:X.env.scope.names.lookup x=some .free:=hk;rw [k] at this;cases this
   .have:X.env.scope.names.lookup x=some .free:=hk;rw [k] at this;cases this
end
section
variable {X:Cx}{pos:Pos}
def zQe (c:TT)(tb:TS):TS:=fun D B H=>∃ W:Nat->St->Hp->Prop,(∃ m,W m B H)/\∀ m B H,W m B H ->
 c B H fun b H1=>if b=true then ∃ N:St->Hp->Prop,(∀ B' H',N B' H'->∃ m',m' < m/\W m' B' H')/\tb { D with nx:=N,ct:=N,bk:=D.nx } B H1 else D.nx B H1
theorem zLl {c:Expr}{body:List Stmt}{tc:TT}{tb:TS}(hp:PassesOwn (model X.prog X.w) X.A X.env X.xe)(hc:PT X c tc)(hb:PSs X body tb):PS X (.While c body [] pos) (zQe tc tb):=by
 intro pins s B H D I h;obtain ⟨W,⟨m0,w0⟩,turn⟩:=h;refine wpAny_While (codeAny_whileLoop (fun n s'=>∃ B' H',Inv X pins B' H' s'/\W n B' H') ?_ m0 ⟨B,H,I,w0⟩);rintro n s1 ⟨Z5,H1,I1,w1⟩;refine wpAny_passesOwn hp (thn (hc pins s1 Z5 H1 _ I1 (turn n Z5 H1 w1)) fun b s2 zz15=>?_);obtain ⟨H2,I2,q2⟩:=zz15;cases b with
 | true =>
  obtain ⟨N,hN,q2⟩:=q2;rw [if_pos rfl];refine wpAny_passesOwn hp (thn (hb pins s2 Z5 H2 _ I2 q2) fun f s3 q3=>?_);cases f with
  | next =>
   obtain ⟨O9,H3,I3,n3⟩:=q3;obtain ⟨m',hm,w3⟩:=hN O9 H3 n3;exact ⟨m',hm,O9,H3,I3,w3⟩
  | cont =>
   obtain ⟨O9,H3,I3,n3⟩:=q3;obtain ⟨m',hm,w3⟩:=hN O9 H3 n3;exact ⟨m',hm,O9,H3,I3,w3⟩
  | brk=>exact q3
  | ret v=>exact q3
 | false =>
  rw [if_neg Bool.false_ne_true];exact wpAny_execs_nil ⟨Z5,H2,I2,q2⟩
end
structure It where
 go:Nat->Hp->Prop
 yld:Nat->Hp->V->Hp->Prop
 stop:Nat->Hp->Prop
def FpOk (X:Cx)(pins:List (Addr×Obj))(H:Hp)(b:Addr):Prop :=
 H b=none/\b≠X.env.locals/\b∉X.fs/\(b∈X.ex\/X.s0.heap.objs.size<=b)/\(∀ x c,X.env.cells.lookup x=some c->c≠b)/\∀ p∈X.pn++pins,p.1≠b
theorem Inv.fpOk {X:Cx}{pins:List (Addr×Obj)}{B:St}{H H':Hp}{s:Shared}{b:Addr}(I:Inv X pins B H s)(hb:s.heap.objs.size<=b)(hn:H' b=none):FpOk X pins H' b:=by
 refine ⟨hn,Nat.ne_of_gt (lt_of_lt_of_le I.lt hb),I.nofs hb,.inr (le_trans I.sz hb),fun x c e z=>?_,fun p hp z=>?_⟩
 .obtain ⟨v,q⟩:=I.cell x c e;exact absurd (lt_of_lt_of_le q.lt (by rw [z];exact hb)) (lt_irrefl _)
 .exact absurd (lt_of_lt_of_le (lt_size (I.pin p hp).1) (by rw [z];exact hb)) (lt_irrefl _)
structure Turn (P:Program)(w:World)(K:W.Frag)(tg:Expr)(J:It)(fp:List Addr)(it:Addr)(tn:Nat->Heap->Prop):Prop where
 mem:it∈fp
 obj:∀ i h,tn i h->∀ b∈fp,∃ o,h.get? b=some o/\∀ v,o.data≠.cell v
 keep:∀ i h h',tn i h->(∀ b∈fp,∀ o,h.get? b=some o->h'.get? b=some o)->tn i h'
 item:∀ (X:Cx),X.prog=P->X.w=w->X.K=K->X.calm=true->∀ (i:Nat) (pins:List (Addr×Obj)) (s:Shared) (B:St) (H:Hp) (E:Value->Shared->Prop),Inv X pins B H s->(∀ b∈fp,FpOk X pins H b)->tn i s.heap->J.go i H ->
  wpAny (model P w) X.A (pyNext (.ref it)) (fun r s1=>∃ u,r=some u /\
   wpAny (model P w) X.A (letOwnedTupleGo tg (.ref it) u) (fun _ s2=>∃ x H',Inv X pins B H' s2/\RelV x u/\J.yld i H x H'/\tn (i+1) s2.heap/\∀ b∈fp,H' b=none) E s1) E s
 done:∀ (X:Cx),X.prog=P->X.w=w->X.K=K->X.calm=true->∀ (i:Nat) (pins:List (Addr×Obj)) (s:Shared) (B:St) (H:Hp) (E:Value->Shared->Prop),Inv X pins B H s->(∀ b∈fp,FpOk X pins H b)->tn i s.heap->J.stop i H ->
  wpAny (model P w) X.A (pyNext (.ref it)) (fun r s1=>r=none/\Inv X pins B H s1) E s
 self:∀ (A:Around) (i:Nat) (s:Shared) (Q:Value->Shared->Prop) (E:Value->Shared->Prop),tn i s.heap->Q (.ref it) s->wpAny (model P w) A (pyIter (.ref it)) Q E s
abbrev TI:=St->Hp->(It->Hp->Prop)->Prop
def PIE (X:Cx)(pins:List (Addr×Obj))(B:St)(tg:Expr)(R:It->Hp->Prop)(itv:Value)(s2:Shared):Prop :=
 ∃ (it:Addr) (fp:List Addr) (tn:Nat->Heap->Prop) (J:It) (H':Hp),itv=.ref it/\Inv X pins B H' s2/\Turn X.prog X.w X.K tg J fp it tn/\tn 0 s2.heap/\(∀ b∈fp,FpOk X pins H' b)/\R J H'
def PI (X:Cx)(tg iter:Expr)(wi:TI):Prop :=
 ∀ (pins:List (Addr×Obj)) (s:Shared) (B:St) (H:Hp) (R:It->Hp->Prop),Inv X pins B H s->wi B H R ->
  wpAny (model X.prog X.w) X.A (eval iter X.env) (fun v s1=>wpAny (model X.prog X.w) X.A (pyIter v) (PIE X pins B tg R) X.xe s1) X.xe s
theorem zKN {M:Model}{A:Around}{E:Value->Shared->Prop}{s:Shared}{tg:Expr}{it:Addr}{u:Value}{o:Obj}{n:String}{vs:Array Value}{Q:Unit->Shared->Prop}(ho:s.heap.get? it=some o)(hc:o.cls=.type n)(hd:o.data=.fields vs)
  (hn:["enumerate","zip","dict_itemiterator","dict_reverseitemiterator","odict_iterator","itertools.zip_longest","itertools.pairwise"].contains n=false) (hQ:Q () s):wpAny M A (letOwnedTupleGo tg (.ref it) u) Q E s:=by
 unfold letOwnedTupleGo;cases tg<;>first
  | exact wpAny_pure hQ
  | (cases u<;>first
    | exact wpAny_pure hQ
    | (refine wpAny_bind (wpAny_load ho ?_);rw [hc,hd];show wpAny M A (if (["enumerate","zip","dict_itemiterator","dict_reverseitemiterator","odict_iterator","itertools.zip_longest","itertools.pairwise"].contains n&&vs[0]?==some (rawInt _))=true then _ else _) Q E s;rw [if_neg (by intro h;rw [hn,Bool.false_and] at h;cases h)];exact wpAny_pure hQ))
def Itl (K:W.Frag)(a:Addr):It :=
 ⟨fun i H=>∃ xs x,SqL K H a xs/\xs[i]?=some x,fun i H x H'=>H'=H/\∀ xs,SqL K H a xs->xs[i]?=some x,fun i H=>∃ xs,SqL K H a xs/\xs.length<=i⟩
def Itt (K:W.Frag)(a:Addr):It :=
 ⟨fun i H=>∃ xs x,SqT K H a xs/\xs[i]?=some x,fun i H x H'=>H'=H/\∀ xs,SqT K H a xs->xs[i]?=some x,fun i H=>∃ xs,SqT K H a xs/\xs.length<=i⟩
def Itr (lo:Int)(n:Nat):It:=⟨fun i _=>i < n,fun i H x H'=>H'=H/\x=.int (lo+i),fun i _=>n<=i⟩
theorem zIt {P:Program}{w:World}{K:W.Frag}{tg:Expr}(a it:Addr):Turn P w K tg (Itl K a) [it] it (fun i h=>h.IsListIter it a i) where
 mem:=by simp
 obj:=fun i h st b hb=>by
  have e:b=it:=by simpa using hb
  subst e;obtain ⟨o,e,c,d⟩:=st;exact ⟨o,e,fun v z=>by rw [d] at z;cases z⟩
 keep:=fun i h h' st k=>st.at fun o e=>k it (by simp) o e
 item:=by
  intro X hP hw hK hc i pins s B H E I hf st hg;subst hP hw hK;obtain ⟨xs,x,hq,hx⟩:=hg;obtain ⟨its,rv,p,hz⟩:=I.list hq;obtain ⟨u,hu,ru⟩:=rv.get hx;obtain ⟨f0,f1,f2,f3,f4,f5⟩:=hf it (by simp);refine wpAny_pyNext_list_item st p.isList (x:=u) (by simpa using hu) fun h' st' sb=>?_
  have I1:Inv X pins B H { s with heap:=h' }:=I.turned (t':=s.toks) (fun b o hb e=>(sb.2 b hb).trans e) f0 f1 f3 f4 f5;obtain ⟨o,e,c,d⟩:=id st';exact ⟨u,rfl,zKN (s:={ s with heap:=h' }) e c d (by decide) ⟨x,H,I1,ru,⟨rfl,fun ys hy=>by rw [I.list_inj hy hq];exact hx⟩,st',fun b hb=>(hf b hb).1⟩⟩
 done:=by
  intro X hP hw hK hc i pins s B H E I hf st hg;subst hP hw hK;obtain ⟨xs,hq,hx⟩:=hg;obtain ⟨its,rv,p,hz⟩:=I.list hq;obtain ⟨f0,f1,f2,f3,f4,f5⟩:=hf it (by simp);have hl:=rv.length;exact wpAny_pyNext_list_end (I.ok.hd hc) st p.isList (by simp;omega) fun h' eb=>⟨rfl,I.turned (t':=s.toks) (fun b o hb e=>eb b o hb e) f0 f1 f3 f4 f5⟩
 self:=fun _ _ _ _ _ st h=>wpAny_pyIter_listiter st h
theorem zIG {P:Program}{w:World}{K:W.Frag}{tg:Expr}(a it:Addr):Turn P w K tg (Itt K a) [it] it (fun i h=>h.IsTupleIter it a i) where
 mem:=by simp
 obj:=fun i h st b hb=>by
  have e:b=it:=by simpa using hb
  subst e;obtain ⟨o,e,c,d⟩:=st;exact ⟨o,e,fun v z=>by rw [d] at z;cases z⟩
 keep:=fun i h h' st k=>st.at fun o e=>k it (by simp) o e
 item:=by
  intro X hP hw hK hc i pins s B H E I hf st hg;subst hP hw hK;obtain ⟨xs,x,hq,hx⟩:=hg;obtain ⟨its,rv,p,hz⟩:=I.tuple hq;obtain ⟨u,hu,ru⟩:=rv.get hx;obtain ⟨f0,f1,f2,f3,f4,f5⟩:=hf it (by simp);refine wpAny_pyNext_tuple_item st (show s.heap.IsTuple a its.toArray from p) (x:=u) (by simpa using hu) fun h' st' sb=>?_
  have I1:Inv X pins B H { s with heap:=h' }:=I.turned (t':=s.toks) (fun b o hb e=>(sb.2 b hb).trans e) f0 f1 f3 f4 f5;obtain ⟨o,e,c,d⟩:=id st';exact ⟨u,rfl,zKN (s:={ s with heap:=h' }) e c d (by decide) ⟨x,H,I1,ru,⟨rfl,fun ys hy=>by rw [I.tuple_inj hy hq];exact hx⟩,st',fun b hb=>(hf b hb).1⟩⟩
 done:=by
  intro X hP hw hK hc i pins s B H E I hf st hg;subst hP hw hK;obtain ⟨xs,hq,hx⟩:=hg;obtain ⟨its,rv,p,hz⟩:=I.tuple hq;obtain ⟨f0,f1,f2,f3,f4,f5⟩:=hf it (by simp);have hl:=rv.length;exact wpAny_pyNext_tuple_end (I.ok.hd hc) st (show s.heap.IsTuple a its.toArray from p) (by simp;omega) fun h' eb=>⟨rfl,I.turned (t':=s.toks) (fun b o hb e=>eb b o hb e) f0 f1 f3 f4 f5⟩
 self:=fun _ _ _ _ _ st h=>wpAny_pyIter_tupleiter st h
theorem zIH {P:Program}{w:World}{K:W.Frag}{tg:Expr}(it:Addr)(lo:Int)(n:Nat):Turn P w K tg (Itr lo n) [it] it (fun i h=>IsRangeIter h it (lo+(i:Nat)*1) ((n:Int) - (i:Nat)) 1) where
 mem:=by simp
 obj:=fun i h st b hb=>by
  have e:b=it:=by simpa using hb
  subst e;exact ⟨_,st,fun v z=>by
   have z':Data.fields _=Data.cell v:=z;cases z'⟩
 keep:=fun i h h' st k=>k it (by simp) _ st
 item:=by
  intro X hP hw hK hc i pins s B H E I hf st hg;subst hP hw hK;obtain ⟨f0,f1,f2,f3,f4,f5⟩:=hf it (by simp);have W:=Walks.range (prog:=X.prog) (w:=X.w) (I.ok.hd hc) it lo 1 n;refine W.item i s _ _ hg st fun v h' tk hv st' kk=>?_
  obtain ⟨t,rfl⟩:=hv;have I1:Inv X pins B H { s with heap:=h',toks:=tk }:=I.turned (fun b o hb e=>kk b o (by simpa using hb) e) f0 f1 f3 f4 f5;refine ⟨_,rfl,zKN (s:={ s with heap:=h',toks:=tk }) (n := "range_iterator") st' rfl rfl (by decide) ⟨.int (lo+i),H,I1,⟨t,?_⟩,⟨rfl,rfl⟩,st',fun b hb=>(hf b hb).1⟩⟩;rw [Int.mul_one]
 done:=by
  intro X hP hw hK hc i pins s B H E I hf st hg;subst hP hw hK;obtain ⟨f0,f1,f2,f3,f4,f5⟩:=hf it (by simp);exact wpAny_pyNext_range_end (I.ok.hd hc) st (by have:n<=i:=hg;omega) fun h' eb=>⟨rfl,I.turned (t':=s.toks) (fun b o hb e=>eb b o hb e) f0 f1 f3 f4 f5⟩
 self:=fun _ _ _ _ _ st h=>wpAny_pyIter_rangeiter st h
section
variable {X:Cx}{tg:Expr}
theorem zHU {pins:List (Addr×Obj)}{B:St}{H:Hp}{s:Shared}{R:It->Hp->Prop}{E:Value->Shared->Prop}{lo hi:Int}{t u v:Tok}{tk:Nat}(I:Inv X pins B H s)(h1:-(2^62)<=lo)(h2:lo < 2^62)(h3:-(2^62)<=hi)(h4:hi < 2^62)
  (q:R (Itr lo (hi - lo).toNat) H):wpAny (model X.prog X.w) X.A (pyIter (.ref s.heap.objs.size)) (PIE X pins B tg R) E { s with heap:=s.heap.push { cls:=.type "range",data:=.fields #[.int lo t,.int hi u,.int 1 v] },toks:=tk }:=by
 refine wpAny_pyIter_range (IsRange.new ..) (small_one h1 h2 h3 h4) ?_;have I1:Inv X pins B H { s with heap:=s.heap.push { cls:=.type "range",data:=.fields #[.int lo t,.int hi u,.int 1 v] },toks:=tk }:=I.kept fun b o e=>get?_push_of_some _ e
 refine ⟨(s.heap.push { cls:=.type "range",data:=.fields #[.int lo t,.int hi u,.int 1 v] }).objs.size,[(s.heap.push { cls:=.type "range",data:=.fields #[.int lo t,.int hi u,.int 1 v] }).objs.size],_,_,H,rfl,
  I1.kept (t':=tk) fun b o e=>get?_push_of_some _ e,zIH _ lo (hi - lo).toNat,?_,fun b hb=>?_,q⟩
 .have e1:lo+((0:Nat):Int)*1=lo:=by simp
  have e2:(((hi - lo).toNat:Nat):Int) - ((0:Nat):Int)=Builtin.Range.rangeSize lo hi 1:=by rw [rangeSize_one];split<;>omega
  show IsRangeIter _ _ (lo+((0:Nat):Int)*1) ((((hi - lo).toNat:Nat):Int) - ((0:Nat):Int)) 1;rw [e1,e2];exact get?_push_size _ rfl
 .have e:b=(s.heap.push { cls:=.type "range",data:=.fields #[.int lo t,.int hi u,.int 1 v] }).objs.size:=by simpa using hb
  subst e;exact I1.fpOk (le_refl _) (I1.hok.fresh (le_refl _))
def zTm (ta:TA):TI:=fun B H R=>ta B H fun vs H1=>∃ j:Int,vs=[.int j]/\-(2^62)<=j/\j < 2^62/\R (Itr 0 j.toNat) H1
def zTl (ta:TA):TI:=fun B H R=>ta B H fun vs H1=>∃ i j:Int,vs=[.int i,.int j]/\(-(2^62)<=i/\i < 2^62/\-(2^62)<=j/\j < 2^62)/\R (Itr i (j - i).toNat) H1
theorem zFr {a:Expr}{ta:TA}{p pos:Pos}(hg:Gl X "range")(hm:X.mg "range"=none)(ha:PA X [a] ta)(hs:starEach [a] X.env=[(false,eval a X.env)]:=by rfl):PI X tg (.Call (.Name "range" p) [a] [] pos) (zTm ta):=by
 intro pins s B H R I h;refine Call_ (zCh I hg hm boot_range (PyProof.Rows.callWith_type1 (thn (ha pos pins s B H _ I h) fun us s1 zz16=>?_) hs rfl));obtain ⟨vs,H1,I1,r1,q1⟩:=zz16;obtain ⟨j,e,q1,q2,q⟩:=q1;subst e;cases r1 with
 | cons r rr =>
  cases rr;obtain ⟨t,rfl⟩:=r;exact call_range_1 (zHU I1 (by omega) (by omega) q1 q2 (by simpa using q))
theorem zJO {a b:Expr}{ta:TA}{p pos:Pos}(hg:Gl X "range")(hm:X.mg "range"=none)(ha:PA X [a,b] ta)(hs:starEach [a,b] X.env=[(false,eval a X.env),(false,eval b X.env)]:=by rfl)(hs2:starEach [b] X.env=[(false,eval b X.env)]:=by rfl) :
  PI X tg (.Call (.Name "range" p) [a,b] [] pos) (zTl ta):=by
 intro pins s B H R I h;refine Call_ (zCh I hg hm boot_range (PyProof.Rows.callWith_type1 (thn (ha pos pins s B H _ I h) fun us s1 zz17=>?_) (by rw [hs,hs2]) (by rw [hs2];rfl)));obtain ⟨vs,H1,I1,r1,q1⟩:=zz17;obtain ⟨i,j,e,⟨q1,q2,q3,q4⟩,q⟩:=q1;subst e;cases r1 with
 | cons r rr =>
  cases rr with
  | cons r' rr =>
   cases rr;obtain ⟨t,rfl⟩:=r;obtain ⟨t',rfl⟩:=r';exact call_range_2 (zHU I1 q1 q2 q3 q4 q)
def tFor (wi:TI)(g:TG)(tb:TS):TS:=fun D B H=>wi B H fun J H1=>∃ W:Nat->Nat->St->Hp->Prop,(∃ m,W 0 m B H1)/\∀ i m B H,W i m B H ->
 (J.stop i H/\D.nx B H)\/(J.go i H/\∃ N:St->Hp->Prop,(∀ B' H',N B' H'->∃ m',m' < m/\W (i+1) m' B' H')/\∀ x H',J.yld i H x H'->g x B H' fun Z1 H2=>tb { D with nx:=N,ct:=N,bk:=D.nx } Z1 H2)
def zA3 (fp:List Addr)(h:Heap):List (Addr×Obj):=fp.filterMap fun b=>(h.get? b).map fun o=>(b,o)
theorem zBQ {fp:List Addr}{h:Heap}{b:Addr}{o:Obj}(hb:b∈fp)(e:h.get? b=some o):(b,o)∈zA3 fp h:=List.mem_filterMap.mpr ⟨b,hb,by rw [e];rfl⟩
theorem zDz {fp:List Addr}{h:Heap}{p:Addr×Obj}(hp:p∈zA3 fp h):p.1∈fp/\h.get? p.1=some p.2:=by
 obtain ⟨b,hb,e⟩:=List.mem_filterMap.mp hp;cases q:h.get? b with
 | none=>rw [q] at e;cases e
 | some o =>
  rw [q] at e;have e':(b,o)=p:=Option.some.inj e;subst e';exact ⟨hb,q⟩
theorem Inv.pinned {pins:List (Addr×Obj)}{B:St}{H:Hp}{s:Shared}{fp:List Addr}(I:Inv X pins B H s)(hf:∀ b∈fp,FpOk X pins H b)(ho:∀ b∈fp,∃ o,s.heap.get? b=some o/\∀ v,o.data≠.cell v):Inv X (pins++zA3 fp s.heap) B H s :=
 I.pins_of fun p hp=>(mem_append.mp hp).elim (fun z=>I.pin p (mem_append_right _ z)) fun z=>by
  obtain ⟨hb,e⟩:=zDz z;obtain ⟨f0,f1,f2,_⟩:=hf p.1 hb;obtain ⟨o,e',d⟩:=ho p.1 hb;rw [e] at e';cases e';exact ⟨e,f0,f1,f2,d⟩
theorem Inv.unpinned {pins pl:List (Addr×Obj)}{B:St}{H:Hp}{s:Shared}(I:Inv X (pins++pl) B H s):Inv X pins B H s:=I.pins_of fun p hp=>I.pin p (mem_append_right _ (List.mem_append_left _ hp))
theorem zNY {iter:Expr}{body:List Stmt}{wi:TI}{g:TG}{tb:TS}{pos:Pos}(hp:PassesOwn (model X.prog X.w) X.A X.env X.xe)(hc:X.calm=true)(hi:PI X tg iter wi)(hg:PG X tg g)(hb:PSs X body tb)
  (hs:∀ x,foldedSetIterable iter X.env x=pure x:=by intro _;rfl):PS X (.For tg iter body [] pos) (tFor wi g tb):=by
 intro pins s B H D I h;refine wpAny_For (thn (hi pins s B H _ I h) fun v s1 h1=>thn h1 fun itv s2 h2=>?_) hs;obtain ⟨it,fp,tn,J,H2,e,I2,T,st2,f2,W,⟨m0,w0⟩,turn⟩:=h2;subst e;have stat:∀ {H':Hp},(∀ b∈fp,H' b=none)->∀ b∈fp,FpOk X pins H' b:=fun hn b hb=>⟨hn b hb,(f2 b hb).2⟩
 refine codeAny_forLoop_any (fun n s'=>∃ i B' H',Inv X pins B' H' s'/\tn i s'.heap/\(∀ b∈fp,H' b=none)/\W i n B' H') ?_ m0 ⟨0,B,H2,I2,st2,fun b hb=>(f2 b hb).1,w0⟩;rintro n s3 ⟨i,O9,H3,I3,st3,fr3,w3⟩;rcases turn i n O9 H3 w3 with ⟨stop,qn⟩ | ⟨go,N,hN,step⟩
 .refine wpAny_passesOwn hp (thn (T.done X rfl rfl rfl hc i pins s3 O9 H3 X.xe I3 (stat fr3) st3 stop) fun r s4 zz18=>?_);obtain ⟨hr,I4⟩:=zz18;subst hr;exact wpAny_execs_nil ⟨O9,H3,I4,qn⟩
 .refine wpAny_passesOwn hp (thn (T.item X rfl rfl rfl hc i pins s3 O9 H3 X.xe I3 (stat fr3) st3 go) fun r s4 zz19=>?_);obtain ⟨u,hr,h4⟩:=zz19;subst hr;refine wpAny_passesOwn hp (thn h4 fun _ s5 zz20=>?_);obtain ⟨x,H5,I5,r5,y5,st5,fr5⟩:=zz20;have I5':=I5.pinned (stat fr5) (T.obj _ _ st5);refine wpAny_passesOwn hp (thn (hg _ s5 O9 H5 x u _ I5' r5 (step x H5 y5)) fun _ s6 zz21=>?_);obtain ⟨O5,H6,I6,q6⟩:=zz21;refine wpAny_passesOwn hp (thn (hb _ s6 O5 H6 _ I6 q6) fun f s7 q7=>?_);have again:∀ {Y4:St} {H7:Hp},Inv X (pins++zA3 fp s5.heap) Y4 H7 s7->N Y4 H7->∃ m,m < n/\∃ i B' H',Inv X pins B' H' s7/\tn i s7.heap/\(∀ b∈fp,H' b=none)/\W i m B' H':=fun {Y4 H7} I7 n7=>by
   obtain ⟨m',hm,w7⟩:=hN Y4 H7 n7;refine ⟨m',hm,i+1,Y4,H7,I7.unpinned,T.keep _ _ _ st5 fun b hb o e=>(I7.pin (b,o) (mem_append_right _ (mem_append_right _ (zBQ hb e)))).1,fun b hb=>?_,w7⟩;obtain ⟨o,e,d⟩:=T.obj _ _ st5 b hb;exact (I7.pin (b,o) (mem_append_right _ (mem_append_right _ (zBQ hb e)))).2.1
  cases f with
  | next=>obtain ⟨Y4,H7,I7,n7⟩:=q7;exact again I7 n7
  | cont=>obtain ⟨Y4,H7,I7,n7⟩:=q7;exact again I7 n7
  | brk=>obtain ⟨Y4,H7,I7,q7⟩:=q7;exact ⟨Y4,H7,I7.unpinned,q7⟩
  | ret v=>obtain ⟨x7,Y4,H7,I7,r7,q7⟩:=q7;exact ⟨x7,Y4,H7,I7.unpinned,r7,q7⟩
end
abbrev R2:=V->V->Hp->VK->Prop
def OpR (X:Cx)(f:Value->Value->Sem Value)(r:R2):Prop :=
 ∀ (pins:List (Addr×Obj)) (s:Shared) (B:St) (H:Hp) (x y:V) (v u:Value) (Q:VK),Inv X pins B H s->RelV x v->RelV y u->r x y H Q ->
  wpAny (model X.prog X.w) X.A (f v u) (EP X pins B Q) X.xe s
def UnR (X:Cx)(f:Value->Sem Value)(r:V->Hp->VK->Prop):Prop :=
 ∀ (pins:List (Addr×Obj)) (s:Shared) (B:St) (H:Hp) (x:V) (v:Value) (Q:VK),Inv X pins B H s->RelV x v->r x H Q ->
  wpAny (model X.prog X.w) X.A (f v) (EP X pins B Q) X.xe s
def zEQ (X:Cx)(f:Value)(r:List V->Hp->VK->Prop):Prop :=
 ∀ (pins:List (Addr×Obj)) (s:Shared) (B:St) (H:Hp) (xs:List V) (us:List Value) (Q:VK),Inv X pins B H s->Vals xs us->r xs H Q ->
  wpAny (model X.prog X.w) X.A (call f us) (EP X pins B Q) X.xe s
def tOp (r:R2)(ta tb:TE):TE:=fun B H Q=>ta B H fun x H1=>tb B H1 fun y H2=>r x y H2 Q
def tUn (r:V->Hp->VK->Prop)(ta:TE):TE:=fun B H Q=>ta B H fun x H1=>r x H1 Q
def rI (C:Int->Int->Prop)(g:Int->Int->V):R2:=fun x y H Q=>∃ i j,x=.int i/\y=.int j/\C i j/\Q (g i j) H
def rI0 (g:Int->Int->V):R2:=fun x y H Q=>∃ i j,x=.int i/\y=.int j/\Q (g i j) H
def rU (g:Int->V):V->Hp->VK->Prop:=fun x H Q=>∃ i,x=.int i/\Q (g i) H
section
variable {X:Cx}{a b c:Expr}{ta tb tc:TE}{pos:Pos}
theorem binT (ha:PE X a ta)(hb:PE X b tb){pins:List (Addr×Obj)}{s:Shared}{B:St}{H:Hp}{R:V->V->Hp->Prop}(I:Inv X pins B H s)
  (h:ta B H fun x H1=>tb B H1 fun y H2=>R x y H2) {Q:Value->Shared->Prop} {f:Value->Value->Sem Value}
  (hf:∀ v u s2 x y H2,Inv X pins B H2 s2->RelV x v->RelV y u->R x y H2->wpAny (model X.prog X.w) X.A (f v u) Q X.xe s2) :
  wpAny (model X.prog X.w) X.A (eval a X.env) (fun v O1=>wpAny (model X.prog X.w) X.A (eval b X.env) (fun u Y2=>wpAny (model X.prog X.w) X.A (f v u) Q X.xe Y2) X.xe O1) X.xe s:=by
 refine thn (ha pins s B H _ I h) fun v s1 zz22=>?_
 obtain ⟨x,H1,I1,r1,q1⟩:=zz22;refine thn (hb pins s1 B H1 _ I1 q1) fun u s2 zz23=>?_
 obtain ⟨y,H2,I2,r2,q2⟩:=zz23;exact hf v u s2 x y H2 I2 r1 r2 q2
theorem zTN {op:Operator}{r:R2}(ho:OpR X (binaryOp op) r)(ha:PE X a ta)(hb:PE X b tb):PE X (.BinOp a op b pos) (tOp r ta tb):=by
 intro pins s B H Q I h;exact wpAny_BinOp (binT ha hb I h fun v u s2 x y H2 I2 rx ry q=>ho pins s2 B H2 x y v u Q I2 rx ry q)
theorem zTL {op:UnaryOp}{r:V->Hp->VK->Prop}(ho:UnR X (unaryOp op) r)(ha:PE X a ta):PE X (.UnaryOp op a pos) (tUn r ta):=by
 intro pins s B H Q I h;exact UnaryOp_ (thn (ha pins s B H _ I h) fun v s1 zy110=>by obtain ⟨x,H1,I1,r1,q1⟩:=zy110;exact ho pins s1 B H1 x v Q I1 r1 q1)
theorem opI {f:Value->Value->Sem Value}{C:Int->Int->Prop}{g:Int->Int->Int}
  (rule:∀ (i j:Int) (t u:Tok) (s:Shared) (Q:Value->Shared->Prop) (E:Value->Shared->Prop),C i j->Q (.int (g i j) s.toks) { s with toks:=s.toks+1 }->wpAny (model X.prog X.w) X.A (f (.int i t) (.int j u)) Q E s) :
  OpR X f (rI C fun i j=>.int (g i j)):=by
 intro pins s B H x y v u Q I rx ry h;obtain ⟨i,j,rfl,rfl,hc,q⟩:=h;obtain ⟨t,rfl⟩:=rx;obtain ⟨t',rfl⟩:=ry;exact rule i j t t' s _ _ hc ⟨.int (g i j),H,I.tok _,⟨_,rfl⟩,q⟩
theorem opI0 {f:Value->Value->Sem Value}{g:Int->Int->Int}
  (rule:∀ (i j:Int) (t u:Tok) (s:Shared) (Q:Value->Shared->Prop) (E:Value->Shared->Prop),Q (.int (g i j) s.toks) { s with toks:=s.toks+1 }->wpAny (model X.prog X.w) X.A (f (.int i t) (.int j u)) Q E s) :
  OpR X f (rI0 fun i j=>.int (g i j)):=by
 intro pins s B H x y v u Q I rx ry h;obtain ⟨i,j,rfl,rfl,q⟩:=h;obtain ⟨t,rfl⟩:=rx;obtain ⟨t',rfl⟩:=ry;exact rule i j t t' s _ _ ⟨.int (g i j),H,I.tok _,⟨_,rfl⟩,q⟩
theorem opB0 {f:Value->Value->Sem Value}{g:Int->Int->Bool}
  (rule:∀ (i j:Int) (t u:Tok) (s:Shared) (Q:Value->Shared->Prop) (E:Value->Shared->Prop),Q (.bool (g i j)) s->wpAny (model X.prog X.w) X.A (f (.int i t) (.int j u)) Q E s) :
  OpR X f (rI0 fun i j=>.bl (g i j)):=by
 intro pins s B H x y v u Q I rx ry h;obtain ⟨i,j,rfl,rfl,q⟩:=h;obtain ⟨t,rfl⟩:=rx;obtain ⟨t',rfl⟩:=ry;exact rule i j t t' s _ _ ⟨.bl (g i j),H,I,rfl,q⟩
def CPow (i j:Int):Prop:=0<=j/\j<=1000000/\i.natAbs < 2^64
def CMul (i j:Int):Prop:=(-(2^64) < i/\i < 2^64)\/(-(2^64) < j/\j < 2^64)
theorem CMul.ok {i j:Int}(h:CMul i j):IntMulOk i j:=by
 rcases h with ⟨h1,h2⟩ | ⟨h1,h2⟩
 .exact .of_left (intBits_le_64 h1 h2)
 .exact .of_right (intBits_le_64 h1 h2)
theorem zRR:OpR X (binaryOp .Add) (rI0 fun i j=>.int (i+j)):=opI0 fun _ _ _ _ _ _ _ q=>add_int q
theorem zRG:OpR X (binaryOp .Sub) (rI0 fun i j=>.int (i - j)):=opI0 fun _ _ _ _ _ _ _ q=>sub_int q
theorem zOy:OpR X (binaryOp .Mod) (rI (fun _ j=>j≠0) fun i j=>.int (i.fmod j)):=opI fun _ _ _ _ _ _ _ hc q=>mod_int' hc q
theorem zRI:OpR X (binaryOp .Pow) (rI CPow fun i j=>.int (i^j.toNat)):=opI fun _ _ _ _ _ _ _ hc q=>pow_int_small hc.1 hc.2.1 hc.2.2 q
theorem zPR:OpR X (inplaceOp .Add) (rI0 fun i j=>.int (i+j)):=opI0 fun _ _ _ _ _ _ _ q=>iadd_int q
theorem zPQ:OpR X (inplaceOp .Sub) (rI0 fun i j=>.int (i - j)):=opI0 fun _ _ _ _ _ _ _ q=>isub_int q
theorem unI {f:Value->Sem Value}{g:Int->Int}
  (rule:∀ (i:Int) (t:Tok) (s:Shared) (Q:Value->Shared->Prop) (E:Value->Shared->Prop),Q (.int (g i) s.toks) { s with toks:=s.toks+1 }->wpAny (model X.prog X.w) X.A (f (.int i t)) Q E s) :
  UnR X f (rU fun i=>.int (g i)):=by
 intro pins s B H x v Q I rx h;obtain ⟨i,rfl,q⟩:=h;obtain ⟨t,rfl⟩:=rx;exact rule i t s _ _ ⟨.int (g i),H,I.tok _,⟨_,rfl⟩,q⟩
theorem zQb:UnR X (unaryOp .USub) (rU fun i=>.int (-i)):=unI fun _ _ _ _ _ q=>neg_int q
end
section
variable {X:Cx}{a b c:Expr}{ta tb tc:TE}{pos:Pos}
theorem zNy {pins:List (Addr×Obj)}{B:St}{H:Hp}{s:Shared}{Q:VK}{k k':Bool}(I:Inv X pins B H s)(q:Q (.bl k) H)(e:k=k'):EP X pins B Q (.bool k') s:=by
 subst e;exact ⟨.bl k,H,I,rfl,q⟩
theorem zRK:OpR X (compareOp .Lt) (rI0 fun i j=>.bl (decide (i < j))):=opB0 fun _ _ _ _ _ _ _ q=>lt_int q
theorem zRL:OpR X (compareOp .LtE) (rI0 fun i j=>.bl (decide (i<=j))):=opB0 fun _ _ _ _ _ _ _ q=>le_int q
theorem zRN:OpR X (compareOp .Gt) (rI0 fun i j=>.bl (decide (j < i))):=opB0 fun _ _ _ _ _ _ _ q=>gt_int q
theorem zRP:OpR X (compareOp .GtE) (rI0 fun i j=>.bl (decide (j<=i))):=opB0 fun _ _ _ _ _ _ _ q=>ge_int q
theorem zRM:OpR X (compareOp .Is) (fun x y H Q=>y=.non/\Q (.bl (decide (x=.non))) H):=by
 intro pins s B H x y v u Q I rx ry h;obtain ⟨rfl,q⟩:=h;cases ry;refine is_none_gen (zNy I q ?_);cases x<;>first
  | (cases rx;rfl)
  | (obtain ⟨t,rfl⟩:=rx;rfl)
theorem zOw:OpR X (compareOp .IsNot) (fun x y H Q=>y=.non/\Q (.bl (!decide (x=.non))) H):=by
 intro pins s B H x y v u Q I rx ry h;obtain ⟨rfl,q⟩:=h;cases ry;refine isnot_none_gen (zNy I q ?_);cases x<;>first
  | (cases rx;rfl)
  | (obtain ⟨t,rfl⟩:=rx;rfl)
theorem OpR.or {f:Value->Value->Sem Value}{r r':R2}(h:OpR X f r)(h':OpR X f r'):OpR X f (fun x y H Q=>r x y H Q\/r' x y H Q):=by
 intro pins s B H x y v u Q I rx ry q;rcases q with q | q
 .exact h pins s B H x y v u Q I rx ry q
 .exact h' pins s B H x y v u Q I rx ry q
theorem zC4 (b:Expr){op:CmpOp}(h:op≠.In:=by decide)(h2:op≠.NotIn:=by decide):behindInMarks op b=false:=by
 have e1:(op==CmpOp.In)=false:=by cases op<;>first | rfl | exact absurd rfl h
 have e2:(op==CmpOp.NotIn)=false:=by cases op<;>first | rfl | exact absurd rfl h2
 cases b<;>simp [behindInMarks,e1,e2]
theorem zOm {op:CmpOp}{r:R2}(ho:OpR X (compareOp op) r)(ha:PE X a ta)(hb:PE X b tb)(hm:behindInMarks op b=false):PE X (.Compare a [op] [b] pos) (tOp r ta tb):=by
 intro pins s B H Q I h;exact wpAny_Compare1 (binT ha hb I h fun v u s2 x y H2 I2 rx ry q=>ho pins s2 B H2 x y v u Q I2 rx ry q) hm
def zQf (t:TE):TT:=fun B H Q=>t B H fun x H'=>∃ k,x=.bl k/\Q k H'
theorem zOf {op:CmpOp}{r:R2}(ho:OpR X (compareOp op) r)(ha:PE X a ta)(hb:PE X b tb)(hm:behindInMarks op b=false):PT X (.Compare a [op] [b] pos) (zQf (tOp r ta tb)):=by
 intro pins s B H Q I h;refine wpAny_isTrue_Compare1 (thn (ha pins s B H _ I h) fun v s1 ⟨x,H1,I1,r1,q1⟩=>thn (hb pins s1 B H1 _ I1 q1) fun u s2 ⟨y,H2,I2,r2,q2⟩ =>
  thn (ho pins s2 B H2 x y v u _ I2 r1 r2 q2) fun c s3 ⟨z,H3,I3,r3,k,e,q3⟩=>?_) hm
 subst e;cases r3;exact wpAny_truthy_bool ⟨H3,I3,q3⟩
def zIx (r r':R2)(ta tb tc:TE):TE:=fun B H Q=>ta B H fun x H1=>tb B H1 fun y H2=>r x y H2 fun z H3=>∃ k,z=.bl k /\
 (if k=true then tc B H3 fun w' H4=>r' y w' H4 Q else Q (.bl false) H3)
theorem zLq {op op':CmpOp}{r r':R2}(ho:OpR X (compareOp op) r)(ho':OpR X (compareOp op') r')(ha:PE X a ta)(hb:PE X b tb)(hc:PE X c tc)
  (hm:lastMarks [op,op'] [b,c]=false:=by with_unfolding_all rfl):PE X (.Compare a [op,op'] [b,c] pos) (zIx r r' ta tb tc):=by
 intro pins s B H Q I h;refine Compare_chain (thn (ha pins s B H _ I h) fun v s1 ⟨x,H1,I1,r1,q1⟩=>chain_link (thn (hb pins s1 B H1 _ I1 q1) fun u s2 ⟨y,H2,I2,r2,q2⟩ =>
  thn (ho pins s2 B H2 x y v u _ I2 r1 r2 q2) fun d s3 ⟨z,H3,I3,r3,k,e,q3⟩=>?_)) hm
 subst e;cases r3;refine wpAny_truthy_bool ?_;cases k with
 | false=>exact ite_ff ⟨.bl false,H3,I3,rfl,q3⟩
 | true=>exact ite_tt (chain_last (thn (hc pins s3 B H3 _ I3 q3) fun w' s4 zy111=>by obtain ⟨z',H4,I4,r4,q4⟩:=zy111;exact ho' pins s4 B H4 y z' u w' Q I4 r2 r4 q4))
theorem zLk {op op':CmpOp}{r r':R2}(ho:OpR X (compareOp op) r)(ho':OpR X (compareOp op') r')(ha:PE X a ta)(hb:PE X b tb)(hc:PE X c tc)
  (hm:lastMarks [op,op'] [b,c]=false:=by with_unfolding_all rfl):PT X (.Compare a [op,op'] [b,c] pos) (zQf (zIx r r' ta tb tc)):=by
 intro pins s B H Q I h;refine isTrue_chain (thn (ha pins s B H _ I h) fun v s1 ⟨x,H1,I1,r1,q1⟩=>test_link (thn (hb pins s1 B H1 _ I1 q1) fun u s2 ⟨y,H2,I2,r2,q2⟩ =>
  thn (ho pins s2 B H2 x y v u _ I2 r1 r2 q2) fun d s3 ⟨z,H3,I3,r3,k,e,q3⟩=>?_)) hm
 subst e;cases r3;refine wpAny_truthy_bool ?_;cases k with
 | false =>
  obtain ⟨k',e',q'⟩:=q3;cases e';exact ite_ff ⟨H3,I3,q'⟩
 | true =>
  refine ite_tt (test_last (thn (hc pins s3 B H3 _ I3 q3) fun w' s4 ⟨z',H4,I4,r4,q4⟩=>thn (ho' pins s4 B H4 y z' u w' _ I4 r2 r4 q4) fun d' s5 zz24=>?_));obtain ⟨z2,H5,I5,r5,k2,e2,q5⟩:=zz24;subst e2;cases r5;exact wpAny_truthy_bool ⟨H5,I5,q5⟩
theorem zJ4:(sizeLine:Nat) < 2^63:=by rw [sizeLine_eq];decide
theorem zIs {x:V}{us:List Value}(r:Vals [x] us):∃ u,us=[u]/\RelV x u:=by
 cases r with
 | cons r1 r2=>cases r2;exact ⟨_,rfl,r1⟩
theorem zOI {x y:V}{us:List Value}(r:Vals [x,y] us):∃ u w',us=[u,w']/\RelV x u/\RelV y w':=by
 cases r with
 | cons r1 r2 =>
  cases r2 with
  | cons r3 r4=>cases r4;exact ⟨_,_,rfl,r1,r3⟩
theorem zMx:zEQ X (.builtin "abs") (fun xs H Q=>∃ i,xs=[.int i]/\Q (.int (if i < 0 then -i else i)) H):=by
 intro pins s B H xs us Q I r h;obtain ⟨i,rfl,q⟩:=h;obtain ⟨u,rfl,t,rfl⟩:=zIs r;exact call_abs_int fun u tk=>⟨.int (if i < 0 then -i else i),H,I.tok _,⟨_,rfl⟩,q⟩
theorem zK4 (hc:X.calm=true):zEQ X (.builtin "max") (fun xs H Q=>∃ i j,xs=[.int i,.int j]/\Q (.int (if j>i then j else i)) H):=by
 intro pins s B H xs us Q I r h;obtain ⟨i,j,rfl,q⟩:=h;obtain ⟨u,w',rfl,⟨t,rfl⟩,⟨t',rfl⟩⟩:=zOI r;refine max_two_ints (I.ok.hd hc) fun h' tk k=>⟨_,H,I.kept k,?_,q⟩
 by_cases hj:j>i
 .rw [if_pos hj,if_pos hj];exact ⟨_,rfl⟩
 .rw [if_neg hj,if_neg hj];exact ⟨_,rfl⟩
end
section
variable {prog:Program}{w:World}{A:Around}{E:Value->Shared->Prop}{s:Shared}{K:W.Frag}{x dx C f:Addr}{mA:Str->Option Value}{name:Str}{v:Value}
end
section
variable {X:Cx}{pins:List (Addr×Obj)}{B:St}{H:Hp}{s:Shared}{a C dx:Addr}{fs:List (Str×V)}{f:Str}{v:V}{A:Around}{E:Value->Shared->Prop}
end
structure Room (k:Nat)(A:Around):Prop where
 hd:A.handled=none
 dp:A.depth+3*k+105 < recursionLimit
 un:A.units+16*k+200 < cLine
theorem Room.mono {j k:Nat}{A:Around}(r:Room k A)(h:j<=k):Room j A:=⟨r.hd,by have:=r.dp;omega,by have:=r.un;omega⟩
theorem Room.deeper {k:Nat}{A:Around}(r:Room (k+1) A)(env:Env):Room k (A.deeper env) :=
 ⟨r.hd,by have:=r.dp;show A.depth+1+3*k+105 < _;omega,by have:=r.un;show A.units+3+16*k+200 < _;omega⟩
theorem Room.depth {k:Nat}{A:Around}(r:Room k A):A.depth < recursionLimit:=by have:=r.dp;omega
theorem Room.units {k:Nat}{A:Around}(r:Room k A):A.units+64 < cLine:=by have:=r.un;omega
def tNil:TA:=fun _ H Q=>Q [] H
def zQi (ta:TE)(tr:TA):TA:=fun B H Q=>ta B H fun x H1=>tr B H1 fun xs H2=>Q (x::xs) H2
section
variable {X:Cx}{e:Expr}{es:List Expr}{te:TE}{t:TA}{pos:Pos}
theorem zBA:PA X [] tNil:=fun _ _ _ _ H Q I h=>Calls.spliced_nil ⟨[],H,I,.nil,h⟩
theorem zAc (ha:PE X e te)(hr:PA X es t)(hs:starEach (e::es) X.env=(false,eval e X.env)::starEach es X.env:=by rfl):PA X (e::es) (zQi te t):=by
 intro pos pins s B H Q I h;rw [hs];show wpAny _ _ (spliced ((false,eval e X.env)::backTo pos (starEach es X.env))) _ _ s;refine Calls.spliced_cons (thn (ha pins s B H _ I h) fun u s1 zz25=>?_);obtain ⟨x,H1,I1,r1,q1⟩:=zz25;exact thn (hr pos pins s1 B H1 _ I1 q1) fun us s2 zy112=>by obtain ⟨xs,H2,I2,r2,q2⟩:=zy112;exact ⟨x::xs,H2,I2,.cons r1 r2,q2⟩
def tTup (t:TA):TE:=fun B H Q=>t B H fun xs H1=>xs.length<=sizeLine/\∀ p,H1 p=none->Q (.ref p) (upd H1 p (.tup xs))
def tLst (t:TA):TE:=fun B H Q=>t B H fun xs H1=>xs.length<=sizeLine/\∀ p,H1 p=none->Q (.ref p) (upd H1 p (.lst xs))
theorem zQ4 {x1}(h:PA X es t):PE X (.Tuple es x1 pos) (tTup t):=by
 intro pins s B H Q I hq;refine wpAny_Tuple_spliced (thn (h pos pins s B H _ I hq) fun us s1 ⟨xs,H1,I1,r,z,q⟩=>⟨by rw [<- r.length];exact z,?_⟩);have hf:H1 s1.heap.objs.size=none:=I1.hok.fresh (le_refl _);refine ⟨.ref s1.heap.objs.size,upd H1 s1.heap.objs.size (.tup xs),I1.laid (t':=s1.toks) (fun b u e=>get?_push_of_some _ e) (le_refl _) ?_,rfl,q _ hf⟩;exact ⟨z,us,r,⟨_,get?_push_size _ rfl,rfl,_,rfl⟩⟩
theorem zNa (h:PA X es t):PE X (.List es pos) (tLst t):=by
 intro pins s B H Q I hq;refine wpAny_List_spliced (thn (h pos pins s B H _ I hq) fun us s1 ⟨xs,H1,I1,r,z,q⟩=>⟨by rw [<- r.length];exact z,?_⟩);have hf:H1 s1.heap.objs.size=none:=I1.hok.fresh (le_refl _);refine ⟨.ref s1.heap.objs.size,upd H1 s1.heap.objs.size (.lst xs),I1.laid (t':=s1.toks) (fun b u e=>get?_push_of_some _ e) (le_refl _) ?_,rfl,q _ hf⟩;exact ⟨z,us,0,r,get?_push_size _ rfl⟩
end
abbrev Sp:=List V->Hp->VK->XK->Prop
abbrev CXT:=List Env->Hp->Shared->XK->Value->Shared->Prop
structure Env0 (P:Program)(w:World)(K:W.Frag)(mg:Str->Option Value)(base:Heap)(A:Around)(outer:List Env)(s:Shared)(H:Hp):Prop where
 frames:A.frames=some outer
 mod:Mod K mg base
 bs:∀ b o,base.get? b=some o->s.heap.get? b=some o/\H b=none
 bsz:base.objs.size<=s.heap.objs.size
 funs:s.heap.FunFrames base outer
 frf:∀ b∈frs outer,H b=none
 hok:HOk P w H s.heap
 bare:AllBare s.gens
 tree:(model P w).prog.given.tree=none
 tabs:zH8 K H
def CE (outer:List Env)(P:Program)(w:World)(H:Hp)(s:Shared)(Q:VK)(u:Value)(s':Shared):Prop :=
 ∃ v H',s'.os=s.os/\AllBare s'.gens/\Un (frs outer) [] H H' s.heap s'.heap/\HOk P w H' s'.heap/\RelV v u/\Q v H'
def CR (CX:CXT)(outer:List Env)(P:Program)(w:World)(H:Hp)(s:Shared)(Q:VK)(E:XK)(r:Result)(s':Shared):Prop :=
 match r with
 | .ok (.ret u)=>CE outer P w H s Q u s'
 | .ok _=>False
 | .error e=>CX outer H s E e s'
structure FnOk (P:Program)(w:World)(K:W.Frag)(mg:Str->Option Value)(base:Heap)(CX:CXT)(k:Nat)(f:Addr)(fd:FuncData)(ps:List Str)(sp:Sp):Prop where
 len:∀ vs H Q E,sp vs H Q E->vs.length=ps.length
 run:∀ (A:Around) (outer:List Env) (s:Shared) (H:Hp) (args:Args) (us:List Value) (vs:List V) (Q:VK) (E:XK),Room k A->Env0 P w K mg base A outer s H->BindsTo s fd args (ps.zip us)->Vals vs us->sp vs H Q E ->
  codeAny (model P w) A (.call (.ref f) args) (CR CX outer P w H s Q E) s
theorem FnOk.mono {P:Program}{w:World}{K:W.Frag}{mg:Str->Option Value}{base:Heap}{CX:CXT}{j k:Nat}{f:Addr}{fd:FuncData}{ps:List Str}{sp:Sp}(F:FnOk P w K mg base CX j f fd ps sp)(h:j<=k) :
  FnOk P w K mg base CX k f fd ps sp:=⟨F.len,fun A outer s H args us vs Q E hr=>F.run A outer s H args us vs Q E (hr.mono h)⟩
theorem FnOk.imp {P:Program}{w:World}{K:W.Frag}{mg:Str->Option Value}{base:Heap}{CX:CXT}{k:Nat}{f:Addr}{fd:FuncData}{ps:List Str}{sp sp':Sp}(F:FnOk P w K mg base CX k f fd ps sp)
  (h:∀ vs H Q E,sp' vs H Q E->sp vs H Q E):FnOk P w K mg base CX k f fd ps sp' :=
 ⟨fun vs H Q E q=>F.len vs H Q E (h _ _ _ _ q),fun A outer s H args us vs Q E hr he hb hv hs=>F.run A outer s H args us vs Q E hr he hb hv (h _ _ _ _ hs)⟩
section
variable {X:Cx}{pins:List (Addr×Obj)}{B:St}{H:Hp}{s s':Shared}
theorem Inv.env0 (I:Inv X pins B H s):Env0 X.prog X.w X.K X.mg X.base X.A X.stack s H :=
 ⟨I.ok.frames,I.ok.mod,I.bs,le_trans I.ok.bsz I.sz,I.stack,I.stkFree,I.hok,I.bare,I.ok.pyl.2.1,I.tabs⟩
theorem Inv.after {Q:VK}{u:Value}(I:Inv X pins B H s)(h:CE X.stack X.prog X.w H s Q u s'):EP X pins B Q u s':=by
 obtain ⟨v,H',os,bare,un,hok,r,q⟩:=h;obtain ⟨hh,g,d,t,os'⟩:=s';obtain rfl:os'=s.os:=os;exact ⟨v,H',I.call (h':=hh) (g':=g) (d':=d) (t':=t) (ch:=[]) un hok bare (fun b z=>absurd z (by simp)),r,q⟩
end
def zLZ (sp:Sp)(dvs:List V)(E:XK)(t:TA):TE:=fun B H Q=>t B H fun vs H1=>sp (vs++dvs) H1 Q E
def zCD (K:W.Frag)(fd:FuncData)(ps:List Str)(ds:List Value):Prop :=
 ∀ (s:Shared) (us:List Value),K.In s.heap->(us++ds).length=ps.length->BindsTo s fd ⟨us,[]⟩ (ps.zip (us++ds))
theorem zCD.all {K:W.Frag}{fd:FuncData}{ps:List Str}(h:∀ us:List Value,us.length=ps.length->bindArgs fd ⟨us,[]⟩=pure (ps.zip us)):zCD K fd ps []:=fun s us _ hl=>by
 rw [append_nil] at hl ⊢;exact .of_eq (h us hl)
def zIB (CX:CXT)(X:Cx)(E:XK):Prop:=∀ (pins:List (Addr×Obj)) (B:St) (H:Hp) (s:Shared) (e:Value) (s':Shared),Inv X pins B H s->CX X.stack H s E e s'->X.xe e s'
section
variable {X:Cx}{CX:CXT}{k:Nat}{f C:Addr}{fd:FuncData}{ps:List Str}{sp:Sp}{dvs:List V}{ds:List Value}{E:XK}{x m:Str}{p pos apos:Pos}{e o:Expr}{es:List Expr}{ta:TE}{t:TA}
theorem zNM {pins:List (Addr×Obj)}{B:St}{H:Hp}{s:Shared}{Q:VK}{us:List Value}{vs:List V}(F:FnOk X.prog X.w X.K X.mg X.base CX k f fd ps sp)(hr:Room k X.A)(hb:zCD X.K fd ps ds)(hd:Vals dvs ds)(hx:zIB CX X E)
  (I:Inv X pins B H s) (r:Vals vs us) (h:sp (vs++dvs) H Q E):wpAny (model X.prog X.w) X.A (call (.ref f) us) (EP X pins B Q) X.xe s:=by
 have r2:Vals (vs++dvs) (us++ds):=r.append hd;have hl:(us++ds).length=ps.length:=by rw [<- r2.length];exact F.len _ _ _ _ h
 refine wpAny_call (codeAny_mono (F.run X.A X.stack s H ⟨us,[]⟩ (us++ds) (vs++dvs) Q E hr I.env0 (hb s us I.kIn hl) r2 h) fun r s' hq=>?_);cases r with
 | error e=>exact hx pins B H s e s' I hq
 | ok fl =>
  cases fl with
  | ret u=>exact I.after hq
  | next=>exact False.elim hq
  | brk=>exact False.elim hq
  | cont=>exact False.elim hq
theorem zJQ (F:FnOk X.prog X.w X.K X.mg X.base CX k f fd ps sp)(hr:Room k X.A)(hg:Gl X x)(hm:X.mg x=some (.ref f))(hk:W.keepIn X.K (.ref f)=true)(hb:zCD X.K fd ps ds)(hd:Vals dvs ds)(hx:zIB CX X E)
  (ha:PA X (e::es) t) (hdb:(x==("__debug__":Str))=false:=by decide) (he:starEach (e::es) X.env=(false,eval e X.env)::starEach es X.env:=by rfl) (hpl:(backTo pos (starEach es X.env)).any (·.1)=false:=by rfl) :
  PE X (.Call (.Name x p) (e::es) [] pos) (zLZ sp dvs E t):=by
 intro pins s B H Q I h;refine wpAny_Call_Name_kw (zFB I hg hm ?_ hdb);refine W.callWith_K (h₀:=X.base) I.ok.mod.kin hk (thn (ha pos pins s B H _ I h) fun us s1 ⟨vs,H1,I1,r,q⟩=>⟨I1.kIn,?_⟩) he hpl;exact zNM F hr hb hd hx I1 r q
theorem zLr (F:FnOk X.prog X.w X.K X.mg X.base CX k f fd ps sp)(hr:Room k X.A)(hg:Gl X x)(hm:X.mg x=some (.ref f))(hk:W.keepIn X.K (.ref f)=true)(hb:zCD X.K fd ps ds)(hd:Vals dvs ds)(hx:zIB CX X E)
  (hdb:(x==("__debug__":Str))=false:=by decide):PE X (.Call (.Name x p) [] [] pos) (zLZ sp dvs E tNil):=by
 intro pins s B H Q I h;refine wpAny_Call_Name_kw (zFB I hg hm ?_ hdb);exact W.callWith_K0 I.kIn hk (zNM (us:=[]) F hr hb hd hx I .nil h)
end
structure zAC (N P:List Str)(sc:Scope):Prop where
 kind:sc.kind=.function
 co:sc.isCoroutine=false
 gen:sc.isGenerator=false
 nd:N.Nodup
 pre:N.take P.length=P
 par:∀ x∈P,sc.names.lookup x=some .local\/sc.names.lookup x=some .cell
 nofree:∀ y∈sc.names,y.2≠.free
theorem zGJ {kindOf:Str->Option NameKind}{x:Str}:∀ {binds:List (Str×Value)} {m:Str->Option Value},(∀ v,(x,v)∉binds)->bindL kindOf binds m x=m x
 | [],_,_=>rfl
 | (n,v)::r,m,h=>by
  unfold bindL;rw [zGJ fun w hw=>h w (mem_cons_of_mem _ hw)];split
  .have:x≠n:=by rintro rfl;exact h v mem_cons_self
   simp [this]
  .rfl
theorem zGL {kindOf:Str->Option NameKind}{x:Str}:∀ {binds:List (Str×Value)} {m:Str->Option Value},(∀ v,(x,v)∉binds)->bindC kindOf binds m x=m x
 | [],_,_=>rfl
 | (n,v)::r,m,h=>by
  unfold bindC;rw [zGL fun w hw=>h w (mem_cons_of_mem _ hw)];split
  .rfl
  .have:x≠n:=by rintro rfl;exact h v mem_cons_self
   simp [this]
theorem zGK {kindOf:Str->Option NameKind}{x:Str}{v:Value}:∀ {P:List Str} {vs:List Value} {i:Nat} {m:Str->Option Value},P.Nodup->P[i]?=some x->vs[i]?=some v->kindOf x=some .local ->
  bindL kindOf (P.zip vs) m x=some v
 | [],_,_,_,_,h,_,_=>by simp at h
 | _::_,[],_,_,_,_,h,_=>by simp at h
 | p::P,w::vs,0,m,nd,h1,h2,hk=>by
  simp at h1 h2;subst h1;subst h2;show bindL kindOf ((p,w)::P.zip vs) m p=_;unfold bindL;rw [zGJ fun v hv=>(nodup_cons.mp nd).1 (of_mem_zip hv).1,if_pos hk];simp
 | p::P,w::vs,i+1,m,nd,h1,h2,hk=>by
  show bindL kindOf ((p,w)::P.zip vs) m x=_;unfold bindL;exact zGK (i:=i) (nodup_cons.mp nd).2 (by simpa using h1) (by simpa using h2) hk
theorem zGM {kindOf:Str->Option NameKind}{x:Str}{v:Value}:∀ {P:List Str} {vs:List Value} {i:Nat} {m:Str->Option Value},P.Nodup->P[i]?=some x->vs[i]?=some v->kindOf x≠some .local ->
  bindC kindOf (P.zip vs) m x=some v
 | [],_,_,_,_,h,_,_=>by simp at h
 | _::_,[],_,_,_,_,h,_=>by simp at h
 | p::P,w::vs,0,m,nd,h1,h2,hk=>by
  simp at h1 h2;subst h1;subst h2;show bindC kindOf ((p,w)::P.zip vs) m p=_;unfold bindC;rw [zGL fun v hv=>(nodup_cons.mp nd).1 (of_mem_zip hv).1,if_neg hk];simp
 | p::P,w::vs,i+1,m,nd,h1,h2,hk=>by
  show bindC kindOf ((p,w)::P.zip vs) m x=_;unfold bindC;exact zGM (i:=i) (nodup_cons.mp nd).2 (by simpa using h1) (by simpa using h2) hk
def zBw (N:List Str)(vs:List V):St:=vs.map some++List.replicate (N.length - vs.length) none
def cxOf (CX:CXT)(P:Program)(w:World)(K:W.Frag)(mg:Str->Option Value)(base:Heap)(N:List Str)(qual:Str)(scope:Scope)(f:Addr)(cd:Value)(A:Around)(outer:List Env)(s:Shared)(H:Hp)(E:XK):Cx where
 prog:=P
 w:=w
 K:=K
 mg:=mg
 base:=base
 A:=A.deeper (envOfC qual scope s.heap.objs.size f cd)
 N:=N
 s0:=s
 Z3:=H
 env:=envOfC qual scope s.heap.objs.size f cd
 outer:=outer
 stack:=envOfC qual scope s.heap.objs.size f cd::outer
 ex:=[]
 calm:=true
 fn:=fun _=>true
 pn:=[]
 xe:=fun e s'=>wpAny (model P w) (A.deeper (envOfC qual scope s.heap.objs.size f cd)) (leaving (envOfC qual scope s.heap.objs.size f cd) e) (fun _ s''=>CX outer H s E e s'') (fun e' s''=>CX outer H s E e' s'') s'
theorem zH2 {sc:Scope}{n:Nat}{x:Str}(h:sc.names.lookup x=some .cell):∃ c,(cellsFrom n sc.names []).lookup x=some c:=by
 have q:=W.cellsFrom_some sc.names n [] (.inl h);exact Option.isSome_iff_exists.mp q
theorem zF2 {CX:CXT}{P:Program}{w:World}{K:W.Frag}{mg:Str->Option Value}{base:Heap}{N ps:List Str}{qual:Str}{scope:Scope}{f:Addr}{cd:Value}{A:Around}{outer:List Env}{s s1:Shared}{H:Hp}{E:XK}{us:List Value}{vs:List V}
  (S:zAC N ps scope) (hd:A.handled=none) (hdp:A.depth+1+Builtin.pylongFrames < recursionLimit) (e0:Env0 P w K mg base A outer s H) (hl:vs.length=ps.length) (r:Vals vs us)
  (x:InCallC s s.heap.objs.size (bindL (envOfC qual scope s.heap.objs.size f cd).kindOf (ps.zip us) fun _=>none) (cellsFrom (s.heap.objs.size+1) scope.names []) (bindC (envOfC qual scope s.heap.objs.size f cd).kindOf (ps.zip us) fun _=>none) s1) :
  Inv (cxOf CX P w K mg base N qual scope f cd A outer s H E) [] (zBw N vs) H s1:=by
 have hpl:ps.length<=N.length:=by have:=congrArg List.length S.pre;rw [length_take] at this;omega
 obtain ⟨h1,tk,rfl,hk⟩:=x.done;have noA:∀ b:Addr,b∉(cxOf CX P w K mg base N qual scope f cd A outer s H E).ex:=fun b z=>absurd (show b∈([]:List Addr) from z) (by simp)
 refine ⟨⟨e0.mod,S.kind,rfl,rfl,le_refl _,fun y z c h1 h2=>?_,fun y hy=>?_,fun y c _ h=>?_,fun _=>hd,Around.frames_deeper e0.frames,.inr ⟨rfl,rfl⟩,fun b z=>absurd z (noA b),e0.bs,e0.bsz,fun b _ _=>noA b,fun b z=>absurd z (noA b),e0.funs,e0.frf,⟨hdp,e0.tree,_,_,rfl,S.gen,S.co,rfl,rfl⟩,e0.tabs⟩,
  rfl,e0.bare,Un.kept hk,⟨_,x.toInCall.ns,fun i y v h1 h2 h3=>?_⟩,fun y c h=>⟨_,x.cell y c h⟩,e0.hok.fresh (le_refl _),fun y c h=>?_,fun p hp=>absurd (show p∈([]:List (Addr×Obj)) from hp) (by simp),e0.hok.kept hk,?_⟩
 .exact name_of_addr x.apart (PySem.mem_of_lookup h1) (PySem.mem_of_lookup h2)
 .have hy:scope.names.lookup y=some .cell\/scope.names.lookup y=some .free:=hy;rcases hy with hy | hy
  .exact zH2 hy
  .exact absurd rfl (S.nofree _ (PySem.mem_of_lookup hy))
 .exact Nat.le_of_lt (x.above y c (PySem.mem_of_lookup h))
 .have hi:i < vs.length:=by
   unfold zBw at h2;by_cases hi:i < vs.length
   .exact hi
   .rw [getElem?_append_right (by simpa using hi)] at h2;rw [getElem?_replicate] at h2;split at h2<;>cases h2
  have ha:vs[i]?=some v:=by
   unfold zBw at h2;rw [getElem?_append_left (by simpa using hi),getElem?_map] at h2;cases e:vs[i]? with
   | none=>rw [e] at h2;cases h2
   | some a=>rw [e] at h2;cases h2;rfl
  obtain ⟨u,hu,rv⟩:=r.get ha;have hp:ps[i]?=some y:=by
   rw [<- S.pre,List.getElem?_take_of_lt (by omega)];exact h1
  have ndP:ps.Nodup:=by rw [<- S.pre];exact S.nd.sublist (List.take_sublist _ _)
  refine ⟨u,rv,?_⟩;rcases S.par y (mem_of_getElem? hp) with k | k
  .exact .inl ⟨k,zGK ndP hp hu k⟩
  .obtain ⟨c,e⟩:=zH2 (n:=s.heap.objs.size+1) k;refine .inr ⟨.inl k,c,e,?_⟩;have q:=x.cell y c e;rw [zGM ndP hp hu (by show scope.names.lookup y≠_;rw [k];decide)] at q;exact q
 .exact e0.hok.fresh (Nat.le_of_lt (x.above y c (PySem.mem_of_lookup h)))
 .unfold zBw;show _=N.length;rw [length_append,length_map,length_replicate];omega
theorem zTz {CX:CXT}{P:Program}{w:World}{K:W.Frag}{mg:Str->Option Value}{base:Heap}{k:Nat}{f:Addr}{name qual:Str}{params:Arguments}{body:List Stmt}{scope:Scope}{dV kV doc pm cdv ct oc:Value}{an od:Option Addr}
  {osl:Array (Option Value)} {N ps:List Str} {sp:Sp} (lk:K.lookup f=some ⟨oc,od,.func (W.fnOf name qual params body scope dV kV doc pm an cdv ct),osl⟩) (hcd:W.codeIn K cdv qual=true) (S:zAC N ps scope)
  (len:∀ vs H Q E,sp vs H Q E->vs.length=ps.length)
  (hbody:∀ (A:Around) (outer:List Env) (s:Shared) (H:Hp) (vs:List V) (Q:VK) (E:XK),Room k (A.deeper (envOfC qual scope s.heap.objs.size f cdv))->sp vs H Q E ->
   ∃ t,PSs (cxOf CX P w K mg base N qual scope f cdv A outer s H E) body t/\t { nx:=fun _ H'=>Q .non H',rt:=Q } (zBw N vs) H) :
  FnOk P w K mg base CX (k+1) f (W.fnOf name qual params body scope dV kV doc pm an cdv ct) ps sp:=by
 refine ⟨len,fun A outer s H args us vs Q E hr e0 hb r hsp=>?_⟩;have hl:=len _ _ _ _ hsp;have KX:K.In s.heap:=e0.mod.kin.keeps fun b o e=>(e0.bs b o e).1
 have lim:s.heap.NoLimit:=e0.mod.nolimit.keeps fun b o e=>(e0.bs b o e).1
 have hkind:∀ y∈ps.zip us,scope.names.lookup y.1=some .local\/(scope.names.lookup y.1=some .cell/\((cellsFrom (s.heap.objs.size+1) scope.names []).lookup y.1).isSome=true):=fun zz26 hy=>by
  obtain ⟨n,v⟩:=zz26;rcases S.par n (of_mem_zip hy).1 with q | q
  .exact .inl q
  .exact .inr ⟨q,W.cellsFrom_some _ _ _ (.inl q)⟩
 refine codeAny_call_function hr.depth (KX _ _ lk) rfl S.co S.gen rfl (W.codeRec_of KX hcd) (hb _ _ _ _ ?_);refine wpAny_newFunctionEnv_cells S.kind hkind fun env he s1 x=>?_
 subst he;refine ⟨lim.keeps x.toInCall.keep,codeAny_func ?_⟩;obtain ⟨t,ht,hq⟩:=hbody A outer s H vs Q E (hr.deeper _) hsp;have I:Inv (cxOf CX P w K mg base N qual scope f cdv A outer s H E) [] (zBw N vs) H s1:=zF2 S hr.hd (by have:=hr.dp;show A.depth+1+100 < _;omega) e0 hl r x;refine wpAny_mono (ht [] s1 (zBw N vs) H _ I hq) (fun fl s' hs=>?_) fun e s' hs=>hs
 have fin:∀ {B':St} {H':Hp} {v:V} {u:Value},Inv (cxOf CX P w K mg base N qual scope f cdv A outer s H E) [] B' H' s'->RelV v u->Q v H'->CE outer P w H s Q u s' :=
  fun {B' H' v u} J rv q=>⟨v,H',J.os,J.bare,J.base,J.hok,rv,q⟩
 cases fl with
 | ret u =>
  obtain ⟨v,B',H',J,rv,q⟩:=hs;exact fin J rv q
 | next =>
  obtain ⟨B',H',J,q⟩:=hs;exact fin (v:=V.non) (u:=Value.none) J rfl q
 | brk =>
  obtain ⟨_,_,_,q⟩:=hs;exact False.elim q
 | cont =>
  obtain ⟨_,_,_,q⟩:=hs;exact False.elim q
section
variable {X:Cx}{x:Str}{p pos:Pos}{e:Expr}{es:List Expr}{t:TA}{id T:String}{r:List V->Hp->VK->Prop}
def tCB (r:List V->Hp->VK->Prop)(t:TA):TE:=fun B H Q=>t B H fun vs H1=>r vs H1 Q
theorem zE4 (hc:zEQ X (.builtin id) r)(hg:Gl X x)(hm:X.mg x=none)(hv:bootBuiltins x=some (.builtin id))(ha:PA X (e::es) t)(hn:x ≠ "__name__":=by decide)(hdb:(x==("__debug__":Str))=false:=by decide)
  (he:starEach (e::es) X.env=(false,eval e X.env)::starEach es X.env:=by rfl) (hpl:(backTo pos (starEach es X.env)).any (·.1)=false:=by rfl):PE X (.Call (.Name x p) (e::es) [] pos) (tCB r t):=by
 intro pins s B H Q I h;refine wpAny_Call_Name_kw (zCh I hg hm hv ?_ hn hdb);exact PyProof.Rows.callWith_builtin1 (thn (ha pos pins s B H _ I h) fun us s1 zy113=>by obtain ⟨vs,H1,I1,r1,q1⟩:=zy113;exact hc pins s1 B H1 vs us Q I1 r1 q1) he hpl
theorem zJP (hc:zEQ X (.type T) r)(hg:Gl X x)(hm:X.mg x=none)(hv:bootBuiltins x=some (.type T))(ha:PA X (e::es) t)(hn:x ≠ "__name__":=by decide)(hdb:(x==("__debug__":Str))=false:=by decide)
  (he:starEach (e::es) X.env=(false,eval e X.env)::starEach es X.env:=by rfl) (hpl:(backTo pos (starEach es X.env)).any (·.1)=false:=by rfl):PE X (.Call (.Name x p) (e::es) [] pos) (tCB r t):=by
 intro pins s B H Q I h;refine wpAny_Call_Name_kw (zCh I hg hm hv ?_ hn hdb);exact PyProof.Rows.callWith_type1 (thn (ha pos pins s B H _ I h) fun us s1 zy114=>by obtain ⟨vs,H1,I1,r1,q1⟩:=zy114;exact hc pins s1 B H1 vs us Q I1 r1 q1) he hpl
end
end L2
namespace HT
open PySem PyProof.Rows
section
open PySem.SeqAt
open PySem.AutoSeq1 (wpAny_loadPart')
open PySem.MeetsSeq PySem.MeetsSeq2 PySem.MeetsSeq3
end
section
variable {prog:Program}{w:World}{A:Around}{E:Value->Shared->Prop}{s:Shared}
theorem zQN {t b:Addr}{vs ws:List Value}{Q:Value->Shared->Prop}(ht:IsTup s.heap t vs.toArray)(hb:IsTup s.heap b ws.toArray)(hv:vs≠[])
  (h1:ws=[]->Q (.ref t) s) (h2:ws≠[]->Q (.ref s.heap.objs.size) { s with heap:=s.heap.push { cls:=.type "tuple",data:=.seq (vs++ws).toArray } })
  (hsz:vs.length+ws.length<=sizeLine):wpAny (model prog w) A (binaryOp .Add (.ref t) (.ref b)) Q E s:=by
 obtain ⟨⟨cls,dd,data,sl⟩,ho,hc,n,hd⟩:=id ht;obtain ⟨⟨cls2,dd2,data2,sl2⟩,ho2,hc2,n2,hd2⟩:=id hb;simp only at hc hd hc2 hd2;subst hc hd hc2 hd2;have e:vs.toArray++ws.toArray=(vs++ws).toArray:=by simp
 by_cases hw:ws=[]
 .exact concat_meets ⟨_,ho,rfl⟩ ⟨_,ho2,rfl⟩ noFill_tuple_add seq_tuple_add PySem.F.slot_tuple_add PySem.F.entry_tuple_add (PySem.F.args_tuple_add_2 _ _)
   (tuple_addW1 t b vs.toArray ws.toArray n n2 dd dd2 sl sl2 (by simpa using hv) (by simp [hw])) ⟨ho,ho2,h1 hw⟩
 .refine concat_meets ⟨_,ho,rfl⟩ ⟨_,ho2,rfl⟩ noFill_tuple_add seq_tuple_add PySem.F.slot_tuple_add PySem.F.entry_tuple_add (PySem.F.args_tuple_add_2 _ _)
   (tuple_addW2 t b vs.toArray ws.toArray n n2 dd dd2 sl sl2 (by simpa using hv) (by simpa using hw) (by rw [size_toArray,size_toArray];exact hsz)) ⟨ho,ho2,?_⟩
  rw [e];exact h2 hw
def sIx (n d:Nat):Option Int->Nat
 | none=>d
 | some v=>if v < 0 then (v+(n:Int)).toNat else min v.toNat n
theorem zHQ (n d:Nat):sIx n d none=d:=rfl
theorem zI9 (n d k:Nat):sIx n d (some (k:Int))=min k n:=by
 show (if (k:Int) < 0 then ((k:Int)+(n:Int)).toNat else min (k:Int).toNat n)=min k n;rw [if_neg (by omega),toNat_natCast]
theorem zQr (n d:Nat)(hd:d<=n)(o:Option Int):sIx n d o<=n:=by
 cases o with
 | none=>exact hd
 | some v =>
  show (if v < 0 then (v+(n:Int)).toNat else min v.toNat n)<=n;by_cases hv:v < 0
  .rw [if_pos hv];omega
  .rw [if_neg hv];exact Nat.min_le_right _ _
theorem zK3 (v:Int)(n d:Nat):(if v < 0 then max (v+(n:Int)) 0 else min v (n:Int))=((sIx n d (some v):Nat):Int):=by
 show (if v < 0 then max (v+(n:Int)) 0 else min v (n:Int))=(((if v < 0 then (v+(n:Int)).toNat else min v.toNat n):Nat):Int);by_cases hv:v < 0
 .simp only [if_pos hv];omega
 .simp only [if_neg hv];omega
theorem zIm (lo hi:Option Int)(n:Nat):Builtin.Slice.sliceAdjust lo hi 1 (n:Int)=(((sIx n 0 lo:Nat):Int),((sIx n n hi:Nat):Int)):=by
 have h1:¬ ((1:Int) < 0):=by omega
 unfold Builtin.Slice.sliceAdjust;simp only [h1,if_false];refine Prod.ext ?_ ?_
 .cases lo with
  | none=>rfl
  | some v=>exact zK3 v n 0
 .cases hi with
  | none=>rfl
  | some v=>exact zK3 v n n
theorem zIO (i j:Nat):Builtin.Slice.slicePlaces (i:Int) (j:Int) 1=j - i:=by
 unfold Builtin.Slice.slicePlaces;have h1:(1:Int)>0:=by omega
 simp only [h1,if_true,Int.ediv_one];split<;>omega
theorem zET {v:Value}{o:Option Int}{Q:Option Int->Shared->Prop}(p:IsPart v o)(h:Q o s):wpAny (model prog w) A (Builtin.Slice.slicePartIndex v) Q E s:=by
 cases p with
 | none=>exact slicePart_none h
 | int i t=>exact slicePart_int h
theorem zDc {sl:Addr}{vl vu:Value}{lo hi:Option Int}{n:Nat}{Q:Int×Int×Nat->Shared->Prop}(hs:s.heap.IsSliceOf sl vl vu .none)(pl:IsPart vl lo)(pu:IsPart vu hi)
  (h:Q (((sIx n 0 lo:Nat):Int),1,sIx n n hi - sIx n 0 lo) s):wpAny (model prog w) A (Builtin.Slice.sliceApplied (.ref sl) (pure (n:Int))) Q E s:=by
 obtain ⟨os,hos,hcs,hds⟩:=id hs;unfold Builtin.Slice.sliceApplied Builtin.Slice.sliceFields;refine wpAny_bind (wpAny_bind (wpAny_field hos hds (x:=vl) rfl (wpAny_bind (wpAny_field hos hds (x:=vu) rfl (wpAny_bind (wpAny_field hos hds (x:=.none) rfl (wpAny_pure ?_)))))));refine wpAny_bind (slicePart_none ?_);show wpAny _ _ (if ((1:Int)==0)=true then _ else _) _ _ s;rw [if_neg (by decide)];refine wpAny_bind (zET pl (wpAny_bind (zET pu (wpAny_bind (wpAny_pure ?_)))));show wpAny _ _ (match Builtin.Slice.sliceAdjust lo hi 1 (n:Int) with | (lo,hi)=>pure (lo,(1:Int),Builtin.Slice.slicePlaces lo hi 1)) _ _ s;rw [zIm lo hi n];show wpAny _ _ (pure (((sIx n 0 lo:Nat):Int),(1:Int),Builtin.Slice.slicePlaces ((sIx n 0 lo:Nat):Int) ((sIx n n hi:Nat):Int) 1)) _ _ s;rw [zIO];exact wpAny_pure h
theorem zLn (xs:Array Value)(i k:Nat):((List.range k).filterMap fun (m:Nat)=>xs[((i:Int)+(m:Int)*1).toNat]?).toArray=((xs.toList.drop i).take k).toArray:=by
 have e:(fun (m:Nat)=>xs[((i:Int)+(m:Int)*1).toNat]?)=fun m=>xs[i+m]?:=by
  funext m;have:((i:Int)+(m:Int)*1).toNat=i+m:=by omega
  rw [this]
 rw [e];have:=pick_run xs i k;rw [List.filterMap_map] at this;have e2:((fun x=>xs[x]?)∘fun x=>i+x)=fun m=>xs[i+m]?:=rfl
 rw [e2] at this;rw [this]
theorem zDN {t sl:Addr}{items:Array Value}{vl vu:Value}{lo hi:Option Int}{Q:Value->Shared->Prop}(ht:IsTup s.heap t items)(hs:s.heap.IsSliceOf sl vl vu .none)(pl:IsPart vl lo)(pu:IsPart vu hi)
  (hw:¬ (sIx items.size 0 lo=0/\sIx items.size items.size hi=items.size))
  (h:Q (.ref s.heap.objs.size) { s with heap:=s.heap.push { cls:=.type "tuple",data:=.seq ((items.toList.drop (sIx items.size 0 lo)).take (sIx items.size items.size hi - sIx items.size 0 lo)).toArray } })
  (hsz:items.size<=sizeLine):wpAny (model prog w) A (getItem (.ref t) (.ref sl)) Q E s:=by
 have htake:sizeOk (.seq ((items.toList.drop (sIx items.size 0 lo)).take (sIx items.size items.size hi - sIx items.size 0 lo)).toArray):=by
  show ((items.toList.drop (sIx items.size 0 lo)).take (sIx items.size items.size hi - sIx items.size 0 lo)).toArray.size<=sizeLine;rw [size_toArray,length_take,length_drop,Array.length_toList];omega
 have hj:sIx items.size items.size hi<=items.size:=zQr _ _ (le_refl _) hi;obtain ⟨os,hos,hcs,hds⟩:=id hs;have hTs:s.TypeIs (.ref sl) "slice":=⟨os,hos,hcs⟩;unfold getItem
 try with_reducible refine wpAny_holding ?_
 first | refine wpAny_bind (wpAny_pure ?_) | skip
 refine wpAny_bind (wpAny_sequenceKey ht.typeIs (by decide) ?_);refine wpAny_bind (wpAny_callSpecial?_slot (name:=Str.ofString "__getitem__") ht.typeIs PyProof.Rows.slot_tuple_getitem
  (wpAny_call_entry PyProof.Rows.slot_tuple_getitem ht.typeIs entry_tuple_getitem ?_ (args_tuple_getitem _ _)))
 show wpAny _ _ (Builtin.Tuple.tupleItemsOf (.ref t)>>=_) _ _ s;refine wpAny_bind (tupleItemsOf_ ht ?_);refine wpAny_bind (wpAny_typeOf hTs ?_);rw [if_pos (by decide)];refine wpAny_bind (zDc hs pl pu ?_);have hno:¬ ((((sIx items.size 0 lo:Nat):Int)==0&&(1:Int)==1&&(sIx items.size items.size hi - sIx items.size 0 lo)==items.size)=true):=by
  intro q;rw [and_eq_true,and_eq_true] at q;have q1:((sIx items.size 0 lo:Nat):Int)=0:=eq_of_beq q.1.1;have q2:sIx items.size items.size hi - sIx items.size 0 lo=items.size:=eq_of_beq q.2;exact hw ⟨by omega,by omega⟩
 show wpAny _ _ (if (((sIx items.size 0 lo:Nat):Int)==0&&(1:Int)==1&&(sIx items.size items.size hi - sIx items.size 0 lo)==items.size)=true then _ else _) _ _ s;rw [if_neg hno,zLn]
 first
  | exact wpAny_bind (m:=Builtin.Tuple.tupleExact _) (wpAny_newObj_type (wpAny_pure ⟨_,rfl,wpAny_pure h⟩) htake)
  | exact wpAny_bind (m:=Builtin.Tuple.tupleExact _) (wpAny_newObj_type (wpAny_bind (wpAny_pure (wpAny_pure ⟨_,rfl,wpAny_pure h⟩))) htake)
  | exact wpAny_bind (wpAny_bind (m:=Builtin.Tuple.tupleExact _) (wpAny_newObj_type (wpAny_pure (wpAny_pure ⟨_,rfl,wpAny_pure h⟩)) htake))
  | exact wpAny_bind (wpAny_bind (m:=Builtin.Tuple.tupleExact _) (wpAny_newObj_type (wpAny_pure ⟨_,rfl,wpAny_pure h⟩) htake))
end
end HT
namespace L2
open PySem Spec PyProof.Rows
abbrev TO:=St->Hp->(Option Int->Hp->Prop)->Prop
def PO (X:Cx)(e:Option Expr)(t:TO):Prop :=
 ∀ (pins:List (Addr×Obj)) (s:Shared) (B:St) (H:Hp) (Q:Option Int->Hp->Prop),Inv X pins B H s->t B H Q ->
  wpAny (model X.prog X.w) X.A (evalPart e X.env) (fun u s'=>∃ o H',Inv X pins B H' s'/\IsPart u o/\Q o H') X.xe s
def zON:TO:=fun _ H Q=>Q none H
def zTB (t:TE):TO:=fun B H Q=>t B H fun x H1=>∃ i,x=.int i/\Q (some i) H1
section
variable {X:Cx}{e:Expr}{te:TE}{lo hi:Option Expr}{tl th:TO}{pos p2:Pos}
theorem zOi:PO X none zON:=by
 intro pins s B H Q I h;rw [evalPart_none];exact wpAny_pure ⟨none,H,I,.none,h⟩
theorem zOh (h:PE X e te):PO X (some e) (zTB te):=by
 intro pins s B H Q I hw;rw [evalPart_some];refine thn (h pins s B H _ I hw) fun u s1 zz27=>?_
 obtain ⟨x,H1,I1,r1,q1⟩:=zz27;obtain ⟨i,rfl,q⟩:=q1;obtain ⟨t,rfl⟩:=r1;exact ⟨some i,H1,I1,.int i t,q⟩
def SlR (X:Cx)(r:V->Option Int->Option Int->Hp->VK->Prop):Prop :=
 ∀ (pins:List (Addr×Obj)) (s:Shared) (B:St) (H:Hp) (x:V) (v vl vu:Value) (lo hi:Option Int) (sl:Addr) (Q:VK),Inv X pins B H s->RelV x v->s.heap.IsSliceOf sl vl vu .none->IsPart vl lo->IsPart vu hi->r x lo hi H Q ->
  ∃ T id,typeLookup (.type T) "__getitem__"=pure (some (.builtin id))/\s.TypeIs v T/\wpAny (model X.prog X.w) X.A (getItem v (.ref sl)) (EP X pins B Q) X.xe s
theorem SlR.or {r r':V->Option Int->Option Int->Hp->VK->Prop}(h:SlR X r)(h':SlR X r'):SlR X (fun x lo hi H Q=>r x lo hi H Q\/r' x lo hi H Q):=by
 intro pins s B H x v vl vu lo hi sl Q I rx hs pl pu q;rcases q with q | q
 .exact h pins s B H x v vl vu lo hi sl Q I rx hs pl pu q
 .exact h' pins s B H x v vl vu lo hi sl Q I rx hs pl pu q
def tSl (r:V->Option Int->Option Int->Hp->VK->Prop)(te:TE)(tl th:TO):TE:=fun B H Q=>te B H fun x H1=>tl B H1 fun l H2=>th B H2 fun u H3=>r x l u H3 Q
theorem zLo {r:V->Option Int->Option Int->Hp->VK->Prop}(hr:SlR X r)(he:PE X e te)(hl:PO X lo tl)(hu:PO X hi th):PE X (.Subscript e (.Slice lo hi none p2) pos) (tSl r te tl th):=by
 intro pins s B H Q I h;refine Subscript_ (thn (he pins s B H _ I h) fun v s1 zz28=>?_);obtain ⟨x,H1,I1,r1,q1⟩:=zz28;refine wpAny_Slice (thn (hl pins s1 B H1 _ I1 q1) fun vl s2 ⟨l,H2,I2,pl,q2⟩=>thn (hu pins s2 B H2 _ I2 q2) fun vu s3 zz29=>?_);obtain ⟨u,H3,I3,pu,q3⟩:=zz29;rw [evalPart_none];refine wpAny_pure ?_;have I4:Inv X pins B H3 { s3 with heap:=s3.heap.push { cls:=.type "slice",data:=.fields #[vl,vu,.none] } }:=I3.kept (t':=s3.toks) fun b ob q=>get?_push_of_some _ q
 obtain ⟨T,id,hT,ht,hg⟩:=hr pins { s3 with heap:=s3.heap.push { cls:=.type "slice",data:=.fields #[vl,vu,.none] } } B H3 x v vl vu l u s3.heap.objs.size Q I4 r1 (Heap.IsSliceOf.new ..) pl pu q3;show wpAny (model X.prog X.w) X.A (subscriptTail e (.Slice lo hi none p2) v (.ref s3.heap.objs.size)) (EP X pins B Q) X.xe { s3 with heap:=s3.heap.push { cls:=.type "slice",data:=.fields #[vl,vu,.none] } };exact tail_any (ops:=[.ref s3.heap.objs.size,v]) ht hT hg (by with_unfolding_all rfl)
def cutV (xs:List V)(lo hi:Option Int):List V:=(xs.drop (HT.sIx xs.length 0 lo)).take (HT.sIx xs.length xs.length hi - HT.sIx xs.length 0 lo)
theorem zEC (xs:List V)(lo hi:Option Int):(cutV xs lo hi).length<=xs.length:=by
 unfold cutV;rw [length_take,length_drop];omega
def rSlT (K:W.Frag):V->Option Int->Option Int->Hp->VK->Prop:=fun x lo hi H Q=>∃ a xs,x=.ref a/\SqT K H a xs /\
 ¬ (HT.sIx xs.length 0 lo=0/\HT.sIx xs.length xs.length hi=xs.length)/\∀ p,H p=none->Q (.ref p) (upd H p (.tup (cutV xs lo hi)))
theorem zQq:SlR X (rSlT X.K):=by
 intro pins s B H x v vl vu lo hi sl Q I rx hs pl pu h;obtain ⟨a,xs,rfl,hx,hw,q⟩:=h;cases rx;obtain ⟨its,r,ht,hz⟩:=I.tuple hx;have hlen:its.toArray.size=xs.length:=by rw [size_toArray];exact r.length.symm
 refine ⟨"tuple",_,PyProof.Rows.slot_tuple_getitem.lookup,ht.typeIs,?_⟩;refine HT.zDN ht hs pl pu (by rw [hlen];exact hw) ?_ (by rw [hlen];exact hz);rw [hlen];refine ⟨.ref s.heap.objs.size,_,I.laid (t':=s.toks) (o:=.tup (cutV xs lo hi)) (fun b ob q=>get?_push_of_some _ q) (le_refl _) ?_,rfl,q _ (I.hok.fresh (le_refl _))⟩;exact ⟨le_trans (zEC xs lo hi) hz,_,(r.drop (HT.sIx xs.length 0 lo)).take (HT.sIx xs.length xs.length hi - HT.sIx xs.length 0 lo),IsTup.new _ _⟩
def zQu (K:W.Frag):R2:=fun x y H Q=>∃ a b xs ys,x=.ref a/\y=.ref b/\SqT K H a xs/\SqT K H b ys/\xs≠[]/\xs.length+ys.length<=sizeLine /\
 (ys=[]->Q (.ref a) H)/\(ys≠[]->∀ p,H p=none->Q (.ref p) (upd H p (.tup (xs++ys))))
theorem Vals.nil_iff {xs:List V}{us:List Value}(r:Vals xs us):us=[]<->xs=[]:=by
 cases r with
 | nil=>simp
 | cons _ _=>simp
theorem zOz:OpR X (binaryOp .Add) (zQu X.K):=by
 intro pins s B H x y v u Q I rx ry h;obtain ⟨a,b,xs,ys,rfl,rfl,ha,hb,hx,hz,q1,q2⟩:=h;cases rx;cases ry;obtain ⟨its,r1,p1,_⟩:=I.tuple ha;obtain ⟨its2,r2,p2,_⟩:=I.tuple hb;refine HT.zQN p1 p2 (fun z=>hx (r1.nil_iff.mp z)) (fun z=>⟨.ref a,H,I,rfl,q1 (r2.nil_iff.mp z)⟩) (fun z=>?_) (by rw [<- r1.length,<- r2.length];exact hz);refine ⟨.ref s.heap.objs.size,_,I.laid (t':=s.toks) (o:=.tup (xs++ys)) (fun b ob q=>get?_push_of_some _ q) (le_refl _) ?_,rfl,q2 (fun w=>z (r2.nil_iff.mpr w)) _ (I.hok.fresh (le_refl _))⟩;exact ⟨by rw [length_append];exact hz,_,r1.append r2,IsTup.new _ _⟩
end
end L2
namespace L2
open PySem Spec PyProof.Rows
def ixN (n:Nat)(i:Int):Option Nat:=if 0<=i then (if i < n then some i.toNat else none) else if -(n:Int)<=i then some (i+n).toNat else none
def atI {U:Type}(xs:List U)(i:Int):Option U:=(ixN xs.length i).bind fun j=>xs[j]?
theorem zPN {n:Nat}{i:Int}{j:Nat}(h:ixN n i=some j):seqIndex? i n=some j/\j < n/\-(n:Int)<=i/\i < n:=by
 unfold ixN at h;by_cases h0:0<=i
 .rw [if_pos h0] at h;by_cases h1:i < n
  .rw [if_pos h1] at h;have e:i.toNat=j:=Option.some.inj h;exact ⟨by rw [seqIndex_of h0 h1,e],by omega,by omega,h1⟩
  .rw [if_neg h1] at h;cases h
 .rw [if_neg h0] at h;by_cases h1:-(n:Int)<=i
  .rw [if_pos h1] at h;have e:(i+n).toNat=j:=Option.some.inj h;exact ⟨by rw [seqIndex_neg (by omega) h1,e],by omega,h1,by omega⟩
  .rw [if_neg h1] at h;cases h
theorem zLC {U:Type}{xs:List U}{i:Int}{v:U}(h:atI xs i=some v):∃ j,seqIndex? i xs.length=some j/\xs[j]?=some v/\j < xs.length/\-(xs.length:Int)<=i/\i < xs.length:=by
 unfold atI at h;cases e:ixN xs.length i with
 | none=>rw [e] at h;cases h
 | some j =>
  rw [e] at h;obtain ⟨h1,h2,h3,h4⟩:=zPN e;exact ⟨j,h1,h,h2,h3,h4⟩
theorem zAq {U:Type}{xs:List U}{j:Nat}{v:U}(h:xs[j]?=some v):atI xs (j:Int)=some v:=by
 have hj:j < xs.length:=(zzg h).1;have e:ixN xs.length (j:Int)=some j:=by
  unfold ixN;rw [if_pos (by omega),if_pos (by omega)];simp
 unfold atI;rw [e];exact h
def zFV (b:Expr):Prop:=∀ o i,subscripted b false o i=operate [o,i] (getItem o i)
def IxR (X:Cx)(r:R2):Prop :=
 ∀ (value slice:Expr) (pins:List (Addr×Obj)) (s:Shared) (B:St) (H:Hp) (x y:V) (v u:Value) (Q:VK),Inv X pins B H s->RelV x v->RelV y u->r x y H Q ->
  subscripted slice false v u=operate [v,u] (getItem v u)->wpAny (model X.prog X.w) X.A (subscriptTail value slice v u) (EP X pins B Q) X.xe s
def MtR (X:Cx)(id:String)(r:V->List V->Hp->VK->Prop):Prop :=
 ∀ (pins:List (Addr×Obj)) (s:Shared) (B:St) (H:Hp) (x:V) (xs:List V) (v:Value) (us:List Value) (Q:VK),Inv X pins B H s->RelV x v->Vals xs us->r x xs H Q ->
  wpAny (model X.prog X.w) X.A (call (.builtin id) (v::us)) (EP X pins B Q) X.xe s
section
variable {X:Cx}{a b:Expr}{ta tb:TE}{pos:Pos}
theorem IxR.or {r r':R2}(h:IxR X r)(h':IxR X r'):IxR X (fun x y H Q=>r x y H Q\/r' x y H Q):=by
 intro value slice pins s B H x y v u Q I rx ry q hs;rcases q with q | q
 .exact h value slice pins s B H x y v u Q I rx ry q hs
 .exact h' value slice pins s B H x y v u Q I rx ry q hs
theorem zQ9 {r:R2}(hr:IxR X r)(ha:PE X a ta)(hb:PE X b tb)(hs:zFV b):PE X (.Subscript a b pos) (tOp r ta tb):=by
 intro pins s B H Q I h;exact Subscript_ (binT ha hb I h fun v u s2 x y H2 I2 rx ry q=>hr a b pins s2 B H2 x y v u Q I2 rx ry q (hs _ _))
def rIxL (K:W.Frag):R2:=fun x y H Q=>∃ p xs i v,x=.ref p/\y=.int i/\SqL K H p xs/\atI xs i=some v/\Q v H
def rIxT (K:W.Frag):R2:=fun x y H Q=>∃ p xs i v,x=.ref p/\y=.int i/\SqT K H p xs/\atI xs i=some v/\Q v H
theorem zJ7:IxR X (rIxL X.K):=by
 intro value slice pins s B H x y v u Q I rx ry h hs;obtain ⟨p,xs,i,z,rfl,rfl,hq,he,q⟩:=h;cases rx;obtain ⟨t,rfl⟩:=ry;obtain ⟨its,r,pl,hz⟩:=I.list hq;obtain ⟨j,h1,h2,h3,h4,h5⟩:=zLC he;obtain ⟨w,ew,rw'⟩:=r.get h2;have hl:=r.length;have hn:=zJ4;have fin:EP X pins B Q w s:=⟨z,H,I,rw',q⟩;by_cases h0:0<=i
 .have hj:i.toNat=j:=by
   rw [seqIndex_of h0 h5] at h1;exact Option.some.inj h1
  exact item_listR pl.isList h0 (by omega) (by rw [hj];simpa using ew) fin hs
 .have hj:(i+(its.toArray.size:Int)).toNat=j:=by
   rw [seqIndex_neg (by omega) h4] at h1;rw [size_toArray,<- hl];exact Option.some.inj h1
  exact subscriptTail_builtinR (x:=w) pl.isList.typeIs slot_list_getitem.lookup
   (wpAny_getItem_list_neg (Q:=fun r s'=>r=w/\EP X pins B Q r s') pl.isList (by omega) (by rw [size_toArray]<;>omega) (by omega) (by rw [hj];simpa using ew) ⟨rfl,fin⟩) hs
theorem zNm:IxR X (rIxT X.K):=by
 intro value slice pins s B H x y v u Q I rx ry h hs;obtain ⟨p,xs,i,z,rfl,rfl,hq,he,q⟩:=h;cases rx;obtain ⟨t,rfl⟩:=ry;obtain ⟨its,r,pl,hz⟩:=I.tuple hq;obtain ⟨j,h1,h2,h3,h4,h5⟩:=zLC he;obtain ⟨w,ew,rw'⟩:=r.get h2;have hl:=r.length;have hn:=zJ4;have fin:EP X pins B Q w s:=⟨z,H,I,rw',q⟩;exact subscriptTail_builtinR (x:=w) pl.typeIs slot_tuple_getitem.lookup
  (getItem_tuple (j:=j) (Q:=fun r s'=>r=w/\EP X pins B Q r s') pl (by omega) (by omega) (by rw [size_toArray,<- hl];exact h1) (by simpa using ew) ⟨rfl,fin⟩) hs
theorem Inv.lst {pins:List (Addr×Obj)}{B:St}{H:Hp}{s:Shared}{p:Addr}{xs:List V}(I:Inv X pins B H s)(h:H p=some (.lst xs)) :
  ∃ (its:List Value) (n:Nat),Vals xs its/\s.heap.get? p=some { cls:=.type "list",data:=.seq its.toArray n }/\xs.length<=sizeLine:=by
 obtain ⟨z,its,n,r,e⟩:=I.hok p _ h;exact ⟨its,n,r,e,z⟩
theorem zFf (lo hi:Option Int)(n:Nat):(sliceBounds lo hi none n).1=((HT.sIx n 0 lo:Nat):Int)/\(sliceBounds lo hi none n).2.1=((HT.sIx n n hi:Nat):Int)/\(sliceBounds lo hi none n).2.2=1:=by
 refine ⟨?_,?_,rfl⟩
 .cases lo with
  | none=>simp [sliceBounds,HT.sIx]
  | some i =>
   simp only [sliceBounds,HT.sIx,Option.getD_none,show (1:Int)>0 by decide,if_true];by_cases h:i < 0
   .simp only [h,if_true]<;>omega
   .simp only [h,if_false]<;>omega
 .cases hi with
  | none=>simp [sliceBounds,HT.sIx]
  | some i =>
   simp only [sliceBounds,HT.sIx,Option.getD_none,show (1:Int)>0 by decide,if_true];by_cases h:i < 0
   .simp only [h,if_true]<;>omega
   .simp only [h,if_false]<;>omega
theorem zEw (its:List Value)(lo hi:Option Int):slicePick its.toArray lo hi none=((its.drop (HT.sIx its.length 0 lo)).take (HT.sIx its.length its.length hi - HT.sIx its.length 0 lo)).toArray:=by
 obtain ⟨h1,h2,h3⟩:=zFf lo hi its.toArray.size;unfold slicePick;rw [h1,h2,h3];simp only [sliceRange_one,pick_run,size_toArray]<;>rfl
def rSlL (K:W.Frag):V->Option Int->Option Int->Hp->VK->Prop:=fun x lo hi H Q=>∃ a xs,x=.ref a/\SqL K H a xs/\∀ p,H p=none->Q (.ref p) (upd H p (.lst (cutV xs lo hi)))
theorem zOS:SlR X (rSlL X.K):=by
 intro pins s B H x v vl vu lo hi sl Q I rx hs pl pu h;obtain ⟨a,xs,rfl,hx,q⟩:=h;cases rx;obtain ⟨its,r,ht,hz⟩:=I.list hx;have hlen:=r.length;refine ⟨"list",_,slot_list_getitem.lookup,ht.isList.typeIs,?_⟩;refine wpAny_getItem_list_slice ht.isList hs pl pu .none (by simp) ?_ (by rw [size_toArray]<;>omega);rw [zEw,<- hlen];refine ⟨.ref s.heap.objs.size,_,I.laid (t':=s.toks) (o:=.lst (cutV xs lo hi)) (fun b ob q=>get?_push_of_some _ q) (le_refl _) ?_,rfl,q _ (I.hok.fresh (le_refl _))⟩;exact ⟨le_trans (zEC xs lo hi) hz,_,0,(r.drop (HT.sIx xs.length 0 lo)).take (HT.sIx xs.length xs.length hi - HT.sIx xs.length 0 lo),get?_push_size _ rfl⟩
theorem zGH:zEQ X (.builtin "len") (fun xs H Q=>∃ p ys,xs=[.ref p]/\(SqL X.K H p ys\/SqT X.K H p ys)/\Q (.int ys.length) H):=by
 intro pins s B H xs us Q I r h;obtain ⟨p,ys,rfl,hq,q⟩:=h;obtain ⟨u,rfl,rx⟩:=zIs r;cases rx;have hn:=zJ4;rcases hq with hq | hq
 .obtain ⟨its,r',pl,hz⟩:=I.list hq;have hlen:=r'.length;exact Calls.call_len_list pl.isList (by simp only [size_toArray]<;>omega) ⟨.int ys.length,H,I.tok _,⟨s.toks+1,by rw [size_toArray,hlen]⟩,q⟩
 .obtain ⟨its,r',pl,hz⟩:=I.tuple hq;have hlen:=r'.length;exact len_tuple pl (by simp only [size_toArray]<;>omega) ⟨.int ys.length,H,I.tok _,⟨s.toks+1,by rw [size_toArray,hlen]⟩,q⟩
theorem zGG:zEQ X (.type "list") (fun xs H Q=>∃ p ys,xs=[.ref p]/\(SqL X.K H p ys\/SqT X.K H p ys)/\∀ l,H l=none->Q (.ref l) (upd H l (.lst ys))):=by
 intro pins s B H xs us Q I r h;obtain ⟨p,ys,rfl,hq,q⟩:=h;obtain ⟨u,rfl,rx⟩:=zIs r;cases rx;have fin:∀ (its:List Value),Vals ys its->ys.length<=sizeLine->∀ (h':Heap) (c':Nat),(∀ b o',s.heap.get? b=some o'->h'.get? b=some o') ->
   h'.get? s.heap.objs.size=some { cls:=.type "list",dict:=none,data:=.seq its.toArray c',slots:=#[] }->EP X pins B Q (.ref s.heap.objs.size) { s with heap:=h' }:=fun its r' hz h' c' kp e =>
  ⟨.ref s.heap.objs.size,_,I.laid (t':=s.toks) kp (le_refl _) (show zCe X.prog X.w _ h' _ (.lst ys) from ⟨hz,its,c',r',e⟩),rfl,q _ (I.hok.fresh (le_refl _))⟩
 rcases hq with hq | hq
 .obtain ⟨its,r',pl,hz⟩:=I.list hq;have hlen:=r'.length;obtain ⟨o,ho,hc,n,hd⟩:=pl.isList;exact call_list_seq p (.inl rfl) ho hc hd (fun h' c' kp e=>fin its r' hz h' c' kp e) (by simp only [size_toArray]<;>omega)
 .obtain ⟨its,r',pl,hz⟩:=I.tuple hq;have hlen:=r'.length;obtain ⟨o,ho,hc,n,hd⟩:=pl;exact call_list_seq p (.inr rfl) ho hc hd (fun h' c' kp e=>fin its r' hz h' c' kp e) (by simp only [size_toArray]<;>omega)
def tyV (K:W.Frag)(T:String)(x:V)(H:Hp):Prop:=match x with
 | .str _=>T = "str"
 | .int _=>T = "int"
 | .ref p=>(T = "list"/\∃ xs,SqL K H p xs)\/(T = "tuple"/\∃ o,K.lookup p=some o/\o.cls=.type "tuple"/\o.dict=none) \/
   (T = "dict"/\((∃ kvs,H p=some (.dK kvs))\/∃ kvs,H p=some (.dT kvs)))\/(T = "set"/\∃ S n,H p=some (.set S n))
 | _=>False
theorem zQc {pins:List (Addr×Obj)}{B:St}{H:Hp}{s:Shared}{T:String}{x:V}{v:Value}(I:Inv X pins B H s)(r:RelV x v)(ty:tyV X.K T x H) :
  s.TypeIs v T/\∀ a,v=.ref a->∃ ob,s.heap.get? a=some ob/\ob.dict=none:=by
 cases x with
 | str z =>
  obtain ⟨t,rfl⟩:=r;cases (show T = "str" from ty);exact ⟨typeIs_str s z t,fun _ e=>nomatch e⟩
 | int i =>
  obtain ⟨t,rfl⟩:=r;cases (show T = "int" from ty);exact ⟨typeIs_int s i t,fun _ e=>nomatch e⟩
 | ref p =>
  cases r;rcases ty with ⟨rfl,xs,hq⟩ | ⟨rfl,o,hk,hc,hd⟩ | ⟨rfl,hk⟩ | ⟨rfl,S,n,hk⟩
  .obtain ⟨its,_,pl,_⟩:=I.list hq;refine ⟨pl.isList.typeIs,fun a e=>?_⟩;cases e;obtain ⟨o,n,e,c,hd,_⟩:=pl;exact ⟨o,e,hd⟩
  .refine ⟨⟨o,I.kIn p o hk,hc⟩,fun a e=>?_⟩;cases e;exact ⟨o,I.kIn _ o hk,hd⟩
  .have z:∃ o,s.heap.get? p=some o/\o.ExactDict:=by
    rcases hk with ⟨kvs,hk⟩ | ⟨kvs,hk⟩
    .obtain ⟨_,_,_,_,o,_,_,e,ex,_⟩:=I.hok p _ hk;exact ⟨o,e,ex⟩
    .obtain ⟨_,_,_,_,o,_,_,e,ex,_⟩:=I.hok p _ hk;exact ⟨o,e,ex⟩
   obtain ⟨o,e,ex⟩:=z;refine ⟨⟨o,e,ex.1⟩,fun a e2=>?_⟩;cases e2;exact ⟨o,e,ex.2.1⟩
  .obtain ⟨o,_,_,_,e,ex,_⟩:=I.hok p _ hk;refine ⟨⟨o,e,ex.1⟩,fun a e2=>?_⟩;cases e2;exact ⟨o,e,ex.2.1⟩
 | _=>exact False.elim ty
def tBM (K:W.Frag)(T:String)(r:V->List V->Hp->VK->Prop)(to:TE)(t:TA):TE:=fun B H Q=>to B H fun x H1=>tyV K T x H1/\t B H1 fun xs H2=>r x xs H2 Q
variable {o e:Expr}{es:List Expr}{to:TE}{t:TA}{name:Str}{apos cpos:Pos}{T id:String}{r:V->List V->Hp->VK->Prop}
theorem zOn (pa:PlainAttrs T)(slot:Slot T name id)(hty:typeOf (.builtin id)=pure (.type "method_descriptor"))(hm:MtR X id r)(ho:PE X o to)(ha:PA X (e::es) t)
  (hbase:attributeBase o name X.env (eval o X.env)=eval o X.env:=by rfl)
  (hfew:((backTo cpos (starEach (e::es) X.env)).all (fun x=>!x.1)&&(backToKw cpos (keywordEach [] X.env)).all (fun x=>x.1.isSome)
   && decide ((e::es).length+([]:List Keyword).length+(if ([]:List Keyword).isEmpty then 0 else 1) < 30))=true:=by rfl)
  (hline:(apos.endLine==cpos.line)=true:=by rfl) (hs:starEach (e::es) X.env=(false,eval e X.env)::starEach es X.env:=by rfl) (hplain:(backTo cpos (starEach es X.env)).any (·.1)=false:=by rfl) :
  PE X (.Call (.Attribute o name apos) (e::es) [] cpos) (tBM X.K T r to t):=by
 intro pins s B H Q I h;refine wpAny_Call_method_late hbase hfew hline rfl (thn (ho pins s B H _ I h) fun v s1 zz30=>?_);obtain ⟨x,H1,I1,r1,ty,q1⟩:=zz30;obtain ⟨h1,h2⟩:=zQc I1 r1 ty;refine ⟨T,id,pa,slot,hty,h1,h2,?_⟩;have hA:=ha cpos pins s1 B H1 _ I1 q1;rw [hs] at hA ⊢;refine Calls.callWith_builtin (by show (false||(backTo cpos (starEach es X.env)).any (·.1))=false;rw [hplain]<;>rfl) (Calls.evalArgs_plain ?_);exact thn hA fun us s2 zy115=>by obtain ⟨vs,H2,I2,r2,q2⟩:=zy115;exact hm pins s2 B H2 x vs v us Q I2 r1 r2 q2
end
def MtM (X:Cx)(id:String)(r:V->List V->Hp->VK->Prop):Prop :=
 ∀ (pins:List (Addr×Obj)) (s:Shared) (B:St) (H:Hp) (x:V) (xs:List V) (v:Value) (us:List Value) (Q:VK),Inv X pins B H s->RelV x v->Vals xs us->r x xs H Q ->
  wpAny (model X.prog X.w) X.A (call (.builtin id) (v::us)) (EP X pins B Q) X.xe s
theorem Vals.one:∀ {x:V} {us:List Value},Vals [x] us->∃ u,us=[u]/\RelV x u
 | _,_,.cons r .nil=>⟨_,rfl,r⟩
theorem Vals.two {x y:V}{us:List Value}(h:Vals [x,y] us):∃ u v,us=[u,v]/\RelV x u/\RelV y v:=by
 cases h with
 | cons r t =>
  cases t with
  | cons q t2 =>
   cases t2;exact ⟨_,_,rfl,r,q⟩
theorem Vals.zero:∀ {us:List Value},Vals [] us->us=[]
 | _,.nil=>rfl
theorem Vals.dropLast {xs:List V}{us:List Value}(h:Vals xs us):Vals xs.dropLast us.dropLast:=by
 induction h with
 | nil=>exact .nil
 | cons r t ih =>
  cases t with
  | nil=>exact .nil
  | cons q t'=>exact .cons r ih
section
variable {X:Cx}{pins:List (Addr×Obj)}{B:St}{H:Hp}{s:Shared}{l b:Addr}{xs ys zs:List V}
theorem Inv.lset {its its':List Value}{n:Nat}{f:Array Value->Array Value}{t':Nat}(I:Inv X pins B H s)(hH:H l=some (.lst xs))
  (e:s.heap.get? l=some { cls:=.type "list",data:=.seq its.toArray n }) (hf:f its.toArray=its'.toArray) (hv:Vals ys its') (hz:ys.length<=sizeLine) :
  Inv X pins B (upd H l (.lst ys)) { s with heap:=s.heap.update l (Obj.mapSeq f),toks:=t' }:=by
 have q:=PySem.IsL.update e f;rw [hf] at q;refine I.write (x:=l) (e:=l) (by rw [hH];exact trivial) (.inl rfl) (fun b' u hb hu=>(Heap.get?_update_other s.heap (Obj.mapSeq f) (Ne.symm hb)).trans hu) ⟨_,q⟩ ?_;exact ⟨hz,its',_,hv,q⟩
theorem Inv.lnew {its:List Value}{t':Nat}(I:Inv X pins B H s)(hv:Vals ys its)(hz:ys.length<=sizeLine) :
  Inv X pins B (upd H s.heap.objs.size (.lst ys)) { s with heap:=s.heap.push { cls:=.type "list",data:=.seq its.toArray },toks:=t' } :=
 I.laid (fun _ _ q=>get?_push_of_some _ q) (le_refl _) ⟨hz,its,0,hv,get?_push_size _ rfl⟩
theorem Inv.fresh (I:Inv X pins B H s):H s.heap.objs.size=none:=I.hok.fresh (le_refl _)
theorem Inv.lstM (I:Inv X pins B H s)(hH:H l=some (.lst xs)):xs.length<=sizeLine/\∃ (its:List Value) (n:Nat),Vals xs its/\xs.length=its.length/\s.heap.get? l=some { cls:=.type "list",data:=.seq its.toArray n }:=by
 obtain ⟨z,its,n,r,e⟩:=I.hok l _ hH;exact ⟨z,its,n,r,r.length,e⟩
theorem zLy {n:Nat}(h:n<=sizeLine):Builtin.List.listTooLong n=false:=by
 unfold Builtin.List.listTooLong;exact decide_eq_false (by omega)
end
section
variable {X:Cx}
def zOe:V->List V->Hp->VK->Prop:=fun x vs H Q=>∃ l xs y,x=.ref l/\vs=[y]/\H l=some (.lst xs)/\xs.length < sizeLine/\Q .non (upd H l (.lst (xs++[y])))
theorem zFv:MtM X "list.append" zOe:=by
 intro pins s B H x vs v us Q I rx rv h;obtain ⟨l,xs,y,rfl,rfl,hH,hz,q⟩:=h;cases rx;obtain ⟨u,rfl,ru⟩:=rv.one;obtain ⟨z,its,n,r,hl,e⟩:=I.lstM hH;refine call_meets F.slot_list_append ⟨_,e,rfl⟩ F.entry_list_append (F.args_list_append_2 _ _) (PySem.list_append l its.toArray n u (by rw [size_toArray];omega)) ⟨e,?_⟩;refine ⟨.non,_,I.lset (its':=its++[u]) hH e (by simp) (r.append (.cons ru .nil)) ?_,rfl,q⟩;rw [length_append,length_singleton];omega
def zOd:V->List V->Hp->VK->Prop:=fun x vs H Q=>∃ l b xs zs,x=.ref l/\vs=[.ref b]/\H l=some (.lst xs)/\H b=some (.lst zs)/\xs.length+zs.length<=sizeLine/\Q .non (upd H l (.lst (xs++zs)))
theorem zJp:MtM X "list.extend" zOd:=by
 intro pins s B H x vs v us Q I rx rv h;obtain ⟨l,b,xs,zs,rfl,rfl,hH,hB,hz,q⟩:=h;cases rx;obtain ⟨u,rfl,ru⟩:=rv.one;cases ru;obtain ⟨z,its,n,r,hl,e⟩:=I.lstM hH;obtain ⟨z2,its2,n2,r2,hl2,e2⟩:=I.lstM hB;have hsz:its.toArray.size+its2.toArray.size<=sizeLine:=by rw [size_toArray,size_toArray];omega
 have hlong:¬ (!its.toArray.isEmpty&&Builtin.List.listTooLong (its.toArray.size+its2.toArray.size))=true:=by
  rw [zLy hsz,Bool.and_false];exact Bool.false_ne_true
 refine call_meets F.slot_list_extend ⟨_,e,rfl⟩ F.entry_list_extend (F.args_list_extend_2 _ _)
  (AutoSeq1.list_extend_list_list_0 l its.toArray n b its2.toArray n2 hlong (by rw [size_toArray];omega) (by omega)) ⟨e,e2,?_⟩
 refine ⟨.non,_,I.lset (its':=its++its2) hH e (by simp) (r.append r2) ?_,rfl,q⟩;rw [length_append];omega
theorem zGk {U:Type}(xs:List U)(k:Nat):(List.replicate k xs).flatten.length=k*xs.length:=by
 induction k with
 | zero=>simp
 | succ k ih=>rw [replicate_succ,flatten_cons,length_append,ih,Nat.succ_mul,Nat.add_comm]
end
end L2
namespace Att
open PySem PySem.W PySem.Calls PyProof.Rows
theorem zD2 {P:Params}{h:Heap}:∀ (ns:List Int) (vs:List Value),WellAll P h vs (ns.map WData.int)->IntsAre vs ns:=by
 intro ns
 induction ns with
 | nil =>
  intro vs w;rw [map_nil] at w;cases w;exact .nil
 | cons n ns ih =>
  intro vs w;rw [map_cons] at w;cases w with
  | cons a b =>
   cases a;exact .cons _ _ (ih _ b)
theorem zH4:∀ {ns:List Int},WData.weightAll (ns.map WData.int)<=2^20->∀ x∈ns,Builtin.Int.intBits x<=2^20
 | n::ns,h,x,hx=>by
  rw [map_cons,WData.weightAll,WData.weight] at h;rcases mem_cons.mp hx with rfl | hx
  .unfold Builtin.Int.intBits;omega
  .exact zH4 (by omega) x hx
theorem zI7 {l:OpenLaw}{n:Nat}(hn:l.most=some n){P:Params}{h:Heap}{args:List WData}{vals:List Value}
  (hpre:l.row.toRowW.claim.pre args=true) (hwl:WellAll P h vals args) (hlay:WData.layableAll args=true) :
  ∃ a vs ns,vals=[Value.ref a]/\args=[WData.list (ns.map WData.int)]/\h.get? a=some { cls:=.type "list",data:=.seq vs.toArray }/\IntsAre vs ns/\(ns.length<=n/\∀ x∈ns,Builtin.Int.intBits x<=2^20):=by
 have hsh:WShape.hasAll [] args [.list .int]=true:=(pre_splitW hpre).1;have hc:l.pre.holds [] { args:=args }=true:=(pre_splitW hpre).2;obtain ⟨d,r,rfl,h1,h2⟩:=hasAllW_cons hsh;obtain rfl:=hasAllW_nil h2;obtain ⟨xs,rfl,h3⟩:=hasW_list h1;obtain ⟨ns,rfl⟩:=items_int h3;have hlen:ns.length<=n:=by
  unfold OpenLaw.pre at hc;have h4:(WTm.not (.lt (.lit (.int (n:Int))) (.len (.arg 0)))).holds [] { args:=[.list (ns.map .int)] }=true:=by
   have h4:=(holds_andW hc).1;rw [hn] at h4;exact h4
  have h5:=condW_of h4 (w_not (w_lt w_lit (w_len_list (w_arg rfl))));rw [length_map] at h5;refine Nat.le_of_not_lt fun q=>?_
  have q':(n:Int) < ((ns.length:Nat):Int):=by omega
  first
   | (rw [decide_eq_true q'] at h5;exact absurd h5 (by decide))
   | (simp at h5;omega)
 cases hwl with
 | cons w1 w2 =>
  cases w2;cases w1 with
  | list ho hall=>exact ⟨_,_,ns,rfl,rfl,ho,zD2 ns _ hall,hlen,zH4 (of_decide_eq_true (Bool.and_eq_true_iff.mp (W.layW_cons hlay).1).2)⟩
theorem zJK (l:OpenLaw)(args:List WData):l.row.toRowW.claim.post args (.bool true) args=true :=
 postW_of (r:=l.row.toRowW) (X:=(true==true))
  (show WShape.has [] (.bool true) .bool=true by first | rfl | decide | simp [WShape.has,WShape.arms,WShape.armsAll])
  (show (WTm.eq .res (.lit (.bool true))).value [] { args:=args,res:=some (.bool true),after:=args }=some (.bool (true==true)) from w_eq_bool (w_res rfl) w_lit) rfl
theorem zG5 {l:OpenLaw}{n:Nat}{q:Program}{loose:List Str}{XP:(Str->Option Value)->Heap->Prop}{YP:World->Heap->Prop}{d:DefRec}
  (hn:l.most=some n) (hdf:d.params.defaults=[])
  (call:∀ (w:World) (s0 O1:Shared) (mg mb:Str->Option Value) (fa:Addr) (o:Obj) (pm cd doc:Value) (a:Addr) (vs:List Value) (ns:List Int),
   Ground q loose [] XP w s0 mg mb O1.heap->YP w O1.heap ->
   O1.heap.get? fa=some o->o.data=.func (docDef d.name d.params d.body d.scope pm cd doc)->O1.heap.CodeRec cd d.name->mg d.name=some (.ref fa) ->
   O1.heap.get? a=some { cls:=.type "list",data:=.seq vs.toArray }->IntsAre vs ns->(ns.length<=n/\∀ x∈ns,Builtin.Int.intBits x<=2^20)->O1.gens=#[] ->
   codeAny (model l.prog w) callerA (.call (.ref fa) ⟨[.ref a],[]⟩) (fun r s'=>r=.ok (.ret (.bool true))/\OldK O1.heap s'.heap/\s'.os=O1.os/\AllBare s'.gens) O1) :
  WalkO q loose XP YP l.row.toRowW d [] (fun f vs=>PySem.call f vs):=by
 intro w s0 O1 mg mb G Y fa o pm cd doc dV kV ho hd hcd hD hmg hg args vals as hpre hlay hrd hwl hlo;obtain rfl:dV=.none:=Dflts.none hD hdf;obtain rfl:kV=.none:=Dflts.noKw hD;obtain ⟨a,vs,ns,rfl,rfl,hobj,hints,hlen⟩:=zI7 hn hpre hwl hlay;refine enter_call (codeAny_mono (call w s0 O1 mg mb fa o pm cd doc a vs ns G Y ho (fd_plain hd) hcd hmg hobj hints hlen hg) fun r s' hq=>?_);obtain ⟨rfl,h2,h3,h4⟩:=hq;exact ⟨.inl ⟨.bool true,.bool true,[],rfl,fun _=>rfl,.bool true,zJK l _,fun _=>⟨List.Pairwise.nil,fun _ hm=>(nomatch hm)⟩⟩,h2,h3,h4⟩
section
variable {prog:Program}{w:World}{A:Around}{E:Value->Shared->Prop}{s:Shared}{K:Frag}
end
end Att
namespace L2
open PySem Spec PyProof.Rows
theorem zCu:∀ {vs:List Value} {ns:List Int},IntsAre vs ns->Vals (ns.map V.int) vs
 | _,_,.nil=>.nil
 | _,_,.cons n t h=>.cons ⟨t,rfl⟩ (zCu h)
def Only (H:Hp):Prop:=∀ b,H b=none\/∃ o xs,H b=some (.frz o (.lst xs))
def tblT (tl:List (Str×Addr×Addr)):List (Addr×Str):=tl.map fun t=>(t.2.2,lamQ t.1)
def hpT (tl:List (Str×Addr×Addr))(H:Hp):Hp:=fun b=>match (tblT tl).lookup b with
 | some q=>some (.tbl q)
 | none=>H b
theorem zFx {M:Type}:∀ {l:List (Addr×M)} {a:Addr} {b:M},l.lookup a=some b->(a,b)∈l
 | [],_,_,e=>by cases e
 | (c,x)::r,a,b,e=>by
  rw [lookup_cons] at e;cases hb:a==c with
  | true=>rw [hb] at e;cases e;rw [eq_of_beq hb];exact .head _
  | false=>rw [hb] at e;exact .tail _ (zFx e)
theorem zEZ:∀ {tl:List (Str×Addr×Addr)} {x:Str} {c P:Addr},(tl.map fun t=>t.2.2).Nodup->(x,c,P)∈tl->(tblT tl).lookup P=some (lamQ x)
 | t::tl,x,c,P,nd,h=>by
  rcases mem_cons.mp h with e | h
  .cases e;unfold tblT;rw [map_cons,lookup_cons,beq_self_eq_true]
  .have n:=(nodup_cons.mp (show ((t.2.2)::tl.map fun t=>t.2.2).Nodup from nd));have ne:(P==t.2.2)=false:=by
    refine beq_eq_false_iff_ne.mpr fun z=>n.1 ?_
    rw [<- z];exact mem_map.mpr ⟨_,h,rfl⟩
   unfold tblT;rw [map_cons,lookup_cons,ne];exact zEZ n.2 h
theorem zMA {P:Program}{w:World}{K:W.Frag}{mg mb:Str->Option Value}{CX:CXT}{k:Nat}{fa a:Addr}{fd:FuncData}{x:Str}{sp:Sp}{O1:Shared}{vs:List Value}{ns:List Int}{tl:List (Str×Addr×Addr)}
  (KX:K.In O1.heap) (hns:O1.heap.Ns mainGlobals mg) (hb:O1.heap.Ns builtinsNs mb) (hbb:∀ x:Str,x ≠ "__name__"->mb x=bootBuiltins x) (hlim:O1.heap.NoLimit) (hsr:O1.heap.NoSeer) (htr:(model P w).prog.given.tree=none) (hg:O1.gens=#[])
  (ha:O1.heap.get? a=some { cls:=.type "list",data:=.seq vs.toArray }) (hi:IntsAre vs ns) (hl:ns.length<=sizeLine) (hr:Room k callerA)
  (F:∀ base:Heap,K.In base->base.Ns mainGlobals mg->FnOk P w K mg base CX k fa fd [x] sp) (hbind:∀ (s:Shared) (u:Value),BindsTo s fd ⟨[u],[]⟩ [(x,u)])
  (hbm:∃ bm ob,mg "__builtins__"=some (.ref bm)/\bm≠builtinsNs/\O1.heap.get? bm=some ob/\ob.cls=.type "module"/\ob.dict=some builtinsNs/\ob.data=.plain) (htab:∀ t∈tl,W.CodeHd O1.heap t.2.1 t.2.2/\O1.heap.get? t.2.2=some (W.tabObj #[])) (htl:∀ x∈zBm,W.tabIn K x=tl.lookup x) (hnd:(tl.map fun t=>t.2.2).Nodup) (hnt:W.noTabs K=true)
  (hsp:∀ H:Hp,(∀ xs,H a≠some (.lst xs))->SqL K H a (ns.map V.int)->sp [.ref a] H (fun v _=>v=.bl true) fun _ _ _=>False)
  (hCX:∀ H e s',CX [] H O1 (fun _ _ _=>False) e s'->False) :
  codeAny (model P w) callerA (.call (.ref fa) ⟨[.ref a],[]⟩) (fun r s'=>r=.ok (.ret (.bool true))/\OldK O1.heap s'.heap/\s'.os=O1.os/\AllBare s'.gens) O1:=by
 have rv:=zCu hi;have lenV:=hi.length;have tat:∀ {b:Addr} {qq:Str},(tblT tl).lookup b=some qq->∃ c,W.CodeHd O1.heap c b/\O1.heap.get? b=some (W.tabObj #[]):=fun {b qq} e=>by
  obtain ⟨t,mt,et⟩:=mem_map.mp (zFx e);cases et;exact ⟨t.2.1,htab t mt⟩
 have tna:(tblT tl).lookup a=none:=by
  cases e:(tblT tl).lookup a with
  | none=>rfl
  | some qq =>
   obtain ⟨_,_,e2⟩:=tat e;rw [ha] at e2;cases e2
 have core:∀ H0:Hp,Only H0->SqL K H0 a (ns.map V.int)->HOk P w H0 O1.heap->(∀ b,H0 b≠none->b=a)->(H0 a≠none->K.lookup a=none) ->
   codeAny (model P w) callerA (.call (.ref fa) ⟨[.ref a],[]⟩) (fun r s'=>r=.ok (.ret (.bool true))/\OldK O1.heap s'.heap/\s'.os=O1.os/\AllBare s'.gens) O1:=by
  intro H0 hO0 hS0 hok0 hA0 hK0;obtain ⟨H,eH⟩:∃ H:Hp,H=hpT tl H0:=⟨_,rfl⟩;have Hat:∀ {b:Addr} {qq:Str},(tblT tl).lookup b=some qq->H b=some (.tbl qq):=fun {b qq} e=>by rw [eH];unfold hpT;rw [e]
  have Hout:∀ {b:Addr},(tblT tl).lookup b=none->H b=H0 b:=fun {b} e=>by rw [eH];unfold hpT;rw [e]
  have H0t:∀ {b:Addr} {u:HO},H0 b=some u->H b=some u:=fun {b u} e=>by
   have z:b=a:=hA0 b (by rw [e];simp);rw [Hout (by rw [z];exact tna)];exact e
  have hS:SqL K H a (ns.map V.int):=by
   rcases hS0 with (z | ⟨o,z⟩) | z
   .exact .inl (.inl (H0t z))
   .exact .inl (.inr ⟨o,H0t z⟩)
   .exact .inr z
  have hL:∀ xs,H a≠some (.lst xs):=fun xs e=>by
   rw [Hout tna] at e;rcases hO0 a with z | ⟨o,ys,z⟩
   .rw [z] at e;cases e
   .rw [z] at e;cases e
  have hok:HOk P w H O1.heap:=fun b u e=>by
   cases z:(tblT tl).lookup b with
   | some qq =>
    rw [Hat z] at e;cases e;obtain ⟨_,_,e2⟩:=tat z;exact ⟨#[],e2,trivial,fun pos cv z=>by cases (show (none:Option Value)=some cv from z)⟩
   | none =>
    rw [Hout z] at e;exact (hok0 b u e).stay (fun _ _ _ q=>q) (fun _ q=>H0t q) (fun _ _ q=>H0t q) fun _ _ _ q _=>H0t q
  have hT:zH8 K H:=fun x hx c P e=>Hat (by
   have e2:=htl x hx;rw [e] at e2;exact zEZ hnd (PySem.mem_of_lookup e2.symm))
  have split:∀ {b:Addr},H b≠none->((tblT tl).lookup b=none/\b=a/\H0 a≠none)\/∃ qq,(tblT tl).lookup b=some qq:=fun {b} e=>by
   cases z:(tblT tl).lookup b with
   | some qq=>exact .inr ⟨qq,rfl⟩
   | none =>
    rw [Hout z] at e;have:=hA0 b e;exact .inl ⟨rfl,this,by rw [<- this];exact e⟩
  have base_of:∀ {b:Addr} {o:Obj},O1.heap.get? b=some o->H b=none->(hidT O1.heap H).get? b=some o:=fun e n=>zMJ e n
  have noA:∀ {b:Addr} {o:Obj} {es:Array DictEntry} {ep:Nat},O1.heap.get? b=some o->o.data=.dict es ep->H b=none:=fun {b o es ep} e d=>by
   cases q:H b with
   | none=>rfl
   | some u =>
    rcases split (b:=b) (by rw [q];simp) with ⟨_,e',_⟩ | ⟨qq,z⟩
    .subst e';rw [ha] at e;cases e;have d':Data.seq vs.toArray _=Data.dict es ep:=d;cases d'
    .obtain ⟨_,_,e2⟩:=tat z;rw [e2] at e;cases e;cases (show Data.fields #[]=Data.dict es ep from d)
  have noM:∀ {b:Addr} {o:Obj},O1.heap.get? b=some o->o.cls=.type "module"->H b=none:=fun {b o} e d=>by
   cases q:H b with
   | none=>rfl
   | some u =>
    rcases split (b:=b) (by rw [q];simp) with ⟨_,e',_⟩ | ⟨qq,z⟩
    .subst e';rw [ha] at e;cases e;exact absurd (show Value.type "list"=Value.type "module" from d) (by decide)
    .obtain ⟨_,_,e2⟩:=tat z;rw [e2] at e;cases e;exact absurd (show Value.none=Value.type "module" from d) (by decide)
  have nsK:∀ {b:Addr} {m:Str->Option Value},O1.heap.Ns b m->(hidT O1.heap H).Ns b m:=fun {b m} ⟨o,es,ep,e,d,r⟩=>⟨o,es,ep,base_of e (noA e d),d,r⟩
  have hKb:K.In (hidT O1.heap H):=fun b o e=>base_of (KX b o e) (by
   cases q:H b with
   | none=>rfl
   | some u =>
    rcases split (b:=b) (by rw [q];simp) with ⟨_,e',n0⟩ | ⟨qq,z⟩
    .subst e';rw [hK0 n0] at e;cases e
    .obtain ⟨_,_,e2⟩:=tat z;have e3:=KX b o e;rw [e2] at e3;cases e3;have h2:=all_eq_true.mp hnt (b,W.tabObj #[]) (W.mem_of_lookupK e);exact absurd (show false=true from h2) Bool.false_ne_true)
  have hM:Mod K mg (hidT O1.heap H):=⟨hKb,nsK hns,⟨mb,nsK hb,hbb⟩,let ⟨mc,h1,h2⟩:=hlim;⟨mc,nsK h1,h2⟩,⟨let ⟨mc,h1,h2⟩:=hsr.statics;⟨mc,nsK h1,h2⟩,let ⟨mc,h1,h2⟩:=hsr.mods;⟨mc,nsK h1,h2⟩,let ⟨mc,h1,h2⟩:=hsr.imp;⟨mc,nsK h1,h2⟩,let ⟨mc,bm,ob,h1,h2,h3,h4,h5⟩:=hsr.main;⟨mc,bm,ob,nsK h1,h2,base_of h3 (noM h3 h4),h4,h5⟩⟩,let ⟨bm,ob,b1,b2,b3,b4,b5⟩:=hbm;⟨bm,ob,b1,b2,base_of b3 (noM b3 b4),b4,b5⟩,fun x hx c P e=>by
   have e2:=htl x hx;rw [e] at e2;obtain ⟨o,vs',file,tf,flags,tg,inF,text,tt,g1,g2,g3,g4,g5,g6,g7,g8,g9,g10⟩:=(htab (x,c,P) (PySem.mem_of_lookup e2.symm)).1;refine ⟨o,vs',file,tf,flags,tg,inF,text,tt,base_of g1 ?_,g2,g3,g4,g5,g6,g7,g8,g9,g10⟩;cases q:H c with
   | none=>rfl
   | some u =>
    rcases split (b:=c) (by rw [q];simp) with ⟨_,e',_⟩ | ⟨qq,z⟩
    .subst e';rw [ha] at g1;cases g1;exact absurd (show Value.type "list"=Value.type "code" from g2) (by decide)
    .obtain ⟨_,_,e2⟩:=tat z;rw [e2] at g1;cases g1;exact absurd (show Value.none=Value.type "code" from g2) (by decide)⟩
  have e0:Env0 P w K mg (hidT O1.heap H) callerA [] O1 H:=⟨rfl,hM,fun b o e=>zO3 e,Nat.le_of_eq (zKF _ _),trivial,fun b hb=>absurd (show b∈([]:List Addr) from hb) (by simp),hok,.of_eq hg,htr,hT⟩;refine codeAny_mono ((F _ hKb (nsK hns)).run callerA [] O1 H ⟨[.ref a],[]⟩ [.ref a] [.ref a] _ _ hr e0 (hbind O1 (.ref a)) (.cons rfl .nil) (hsp H hL hS)) fun r s' h=>?_
  cases r with
  | error e=>exact (hCX H e s' h).elim
  | ok fl =>
   cases fl with
   | next=>exact False.elim h
   | brk=>exact False.elim h
   | cont=>exact False.elim h
   | ret u =>
    obtain ⟨v,H',os,bare,un,hok',r',q⟩:=h;have q':v=.bl true:=q;subst q';obtain rfl:u=Value.bool true:=r';have key:∀ b o,O1.heap.get? b=some o->asItWas O1.heap s'.heap b o/\∃ o',s'.heap.get? b=some o':=fun b o e=>by
     cases z:(tblT tl).lookup b with
     | some qq =>
      obtain ⟨c,C,e2⟩:=tat z;rw [e] at e2;cases e2;obtain ⟨ps,e3,_⟩:=hok' b _ (un.tbls b _ (Hat z));exact ⟨.inr (.inl ⟨(C.tab e).isCodeTable,rfl,#[],ps,rfl,by rw [e3];simp⟩),_,e3⟩
     | none =>
      have k:s'.heap.get? b=some o:=by
       cases q:H b with
       | none=>exact un.keep b o e q (by intro z;exact absurd (show b∈([]:List Addr) from z) (by simp)) (by simp)
       | some u =>
        rcases hO0 b with y | ⟨ob,xs,y⟩
        .rw [Hout z,y] at q;cases q
        .have y1:=H0t y;have z2:=un.frzs b ob _ y1;obtain ⟨e1,_⟩:=hok b _ y1;obtain ⟨e2,_⟩:=hok' b _ z2;rw [e] at e1;cases e1;exact e2
      exact ⟨.inl k,o,k⟩
    exact ⟨rfl,⟨fun b o e=>(key b o e).1,fun b o e=>(key b o e).2⟩,os,bare⟩
 cases hk:K.lookup a with
 | some o =>
  have e:=KX a o hk;rw [ha] at e;cases e;refine core (fun _=>none) (fun _=>.inl rfl) (.inr ⟨_,vs.toArray,_,hk,rfl,rfl,rfl,by rw [size_toArray,lenV];exact hl,by simpa using rv⟩) (fun b u z=>by have z':(none:Option HO)=some u:=z;cases z') (fun b z=>absurd rfl z) fun z=>absurd rfl z
 | none =>
  refine core (fun b=>if b=a then some (.frz { cls:=.type "list",data:=.seq vs.toArray } (.lst (ns.map V.int))) else none) (fun b=>?_) (.inl (.inr ⟨{ cls:=.type "list",data:=.seq vs.toArray },if_pos rfl⟩)) (fun b u z=>?_) (fun b z=>?_) fun _=>hk
  .by_cases hb:b=a
   .exact .inr ⟨_,_,if_pos hb⟩
   .exact .inl (if_neg hb)
  .by_cases hb:b=a
   .have z':=(if_pos hb).symm.trans z;cases z';subst hb;exact ⟨ha,by rw [length_map];exact hl,vs,_,rv,ha⟩
   .have z':=(if_neg hb).symm.trans z;cases z'
  .by_cases hb:b=a
   .exact hb
   .exact absurd (if_neg hb) z
end L2
namespace L2
open PySem Spec PyProof.Rows
theorem zOH {l:W.OpenLaw}{n k:Nat}{q:Program}{loose:List Str}{XP:(Str->Option Value)->Heap->Prop}{YP:World->Heap->Prop}{d:DefRec}{K:Params->W.Frag}{CX:World->CXT}{sp:World->Sp}{x:Str}
  (hn:l.most=some n) (hn2:n<=sizeLine) (hdf:d.params.defaults=[]) (hq:importsNone q=true) (ht:∀ w,(model l.prog w).prog.given.tree=none) (hr:Room k callerA) (tl:List (Str×Addr×Addr)) (hrec:∀ t∈tl,((recsOf q).find? fun e=>e.name==t.1).isSome=true) (htl:∀ w:World,∀ x∈zBm,W.tabIn (K w.params) x=tl.lookup x) (htk:∀ t∈tl,t.1∈zBm/\tl.lookup t.1=some t.2) (hnd:(tl.map fun t=>t.2.2).Nodup) (hnt:∀ w:World,W.noTabs (K w.params)=true)
  (hY:∀ (w:World) (h:Heap),YP w h->(K w.params).In h)
  (F:∀ (w:World) (mg:Str->Option Value) (fa:Addr) (h:Heap),(K w.params).In h->h.Ns mainGlobals mg->mg d.name=some (.ref fa) ->
   ∃ fd:FuncData,(∀ (s:Shared) (u:Value),BindsTo s fd ⟨[u],[]⟩ [(x,u)]) /\
    ∀ base:Heap,(K w.params).In base->base.Ns mainGlobals mg->FnOk l.prog w (K w.params) mg base (CX w) k fa fd [x] (sp w))
  (hsp:∀ (w:World) (H:Hp) (a:Addr) (ns:List Int),(ns.length<=n/\∀ x∈ns,Builtin.Int.intBits x<=2^20)->(∀ xs,H a≠some (.lst xs))->SqL (K w.params) H a (ns.map V.int)->sp w [.ref a] H (fun v _=>v=.bl true) fun _ _ _=>False)
  (hCX:∀ (w:World) (H:Hp) (s:Shared) (e:Value) (s':Shared),CX w [] H s (fun _ _ _=>False) e s'->False) :
  W.WalkO q loose XP YP l.row.toRowW d [] (fun f vs=>PySem.call f vs):=by
 refine Att.zG5 hn hdf fun w s0 O1 mg mb fa o pm cd doc a vs ns G Y ho hd hcd hmg hobj hints hlen hg=>?_
 have KX:=hY w _ Y;obtain ⟨fd,hb,hF⟩:=F w mg fa _ KX G.T.g hmg;exact zMA KX G.T.g G.T.b G.T.builtins G.T.nolimit (G.T.seer hq) (ht w) hg hobj hints (le_trans hlen.1 hn2) hr hF hb (tl:=tl) G.T.bmain (fun t mt=>by
  obtain ⟨t1,t2⟩:=htk t mt;obtain ⟨d,hd⟩:=Option.isSome_iff_exists.mp (hrec t mt);have e:=htl w t.1 t1;rw [t2] at e;exact W.tab_of G.T KX hd e) (htl w) hnd (hnt w) (fun H hL hS=>hsp w H a ns hlen hL hS) fun H e s'=>hCX w H O1 e s'
def zCQ (s:Stmt):Arguments:=match s with
 | .FunctionDef _ a _ _ _ _ _ _ _ _=>a
 | _=>{ posonlyargs:=[],args:=[],vararg:=none,kwonlyargs:=[],kw_defaults:=[],kwarg:=none,defaults:=[] }
def zAB (s:Stmt):List Stmt:=match s with
 | .FunctionDef _ _ b _ _ _ _ _ _ _=>b
 | _=>[]
def zAA (s:Stmt):Scope:=match s with
 | .FunctionDef _ _ _ _ _ _ sc _ _ _=>sc
 | _=>{ kind:=.function,names:=[],isGenerator:=false,isCoroutine:=false }
abbrev CX0:CXT:=fun _ _ _ _ _ _=>False
abbrev E0:XK:=fun _ _ _=>False
theorem zOp {X:Cx}:zIB CX0 X E0:=fun _ _ _ _ _ _ _ h=>h.elim
structure Fun (K:W.Frag)(x qual:Str)(st:Stmt)(f:Addr)(fd:FuncData):Prop where
 ex:∃ (oc:Value) (od:Option Addr) (kV doc pm:Value) (an:Option Addr) (cdv ct:Value) (osl:Array (Option Value)),
  fd=W.fnOf x qual (zCQ st) (zAB st) (zAA st) .none kV doc pm an cdv ct/\K.lookup f=some ⟨oc,od,.func fd,osl⟩/\W.codeIn K cdv qual=true
 kp:W.keepIn K (.ref f)=true
section
variable {P:Program}{w:World}{K:W.Frag}{mg:Str->Option Value}{base:Heap}
theorem Fun.ok {x qual:Str}{st:Stmt}{f:Addr}{fd:FuncData}{N ps:List Str}{k:Nat}{sp:Sp}(F:Fun K x qual st f fd)(S:zAC N ps (zAA st))(len:∀ vs H Q E,sp vs H Q E->vs.length=ps.length)
  (hbody:∀ (cdv:Value) (A:Around) (outer:List Env) (s:Shared) (H:Hp) (vs:List V) (Q:VK) (E:XK),Room k (A.deeper (envOfC qual (zAA st) s.heap.objs.size f cdv))->sp vs H Q E ->
   ∃ t,PSs (cxOf CX0 P w K mg base N qual (zAA st) f cdv A outer s H E).nox (zAB st) t/\t { nx:=fun _ H'=>Q .non H',rt:=Q } (zBw N vs) H):FnOk P w K mg base CX0 (k+1) f fd ps sp:=by
 obtain ⟨oc,od,kV,doc,pm,an,cdv,ct,osl,rfl,lk,hcd⟩:=F.ex;refine zTz lk hcd S len fun A outer s H vs Q E hr hsp=>?_
 obtain ⟨t,h,q⟩:=hbody cdv A outer s H vs Q E hr hsp;exact ⟨t,h.nox,q⟩
theorem Fun.binds {x qual:Str}{st:Stmt}{f:Addr}{fd:FuncData}{ps:List Str}(F:Fun K x qual st f fd)
  (h:∀ (kV doc pm:Value) (an:Option Addr) (cdv ct:Value) (us:List Value),us.length=ps.length->bindArgs (W.fnOf x qual (zCQ st) (zAB st) (zAA st) .none kV doc pm an cdv ct) ⟨us,[]⟩=pure (ps.zip us)):zCD K fd ps []:=by
 obtain ⟨oc,od,kV,doc,pm,an,cdv,ct,osl,rfl,lk,hcd⟩:=F.ex;exact .all (h kV doc pm an cdv ct)
theorem zNw {x qual:Str}{st:Stmt}{f:Addr}{oc:Value}{od an:Option Addr}{osl:Array (Option Value)}{kV doc pm cdv ct:Value}(l:K.lookup f=some ⟨oc,od,.func (W.fnOf x qual (zCQ st) (zAB st) (zAA st) .none kV doc pm an cdv ct),osl⟩)
  (c:W.codeIn K cdv qual=true) (k:W.keepIn K (.ref f)=true):Fun K x qual st f (W.fnOf x qual (zCQ st) (zAB st) (zAA st) .none kV doc pm an cdv ct):=⟨⟨oc,od,kV,doc,pm,an,cdv,ct,osl,rfl,l,c⟩,k⟩
end
theorem zI4 {n:Nat}(h:n<=1000):n < sizeLine:=Nat.lt_of_le_of_lt h (by decide)
theorem iteF {A B:Prop}(h:B):if false=true then A else B:=by
 rw [if_neg Bool.false_ne_true];exact h
theorem iteT {A B:Prop}(h:A):if true=true then A else B:=by
 rw [if_pos rfl];exact h
def Same (H H':Hp):Prop:=∀ b o,H b=some o->H' b=some o
theorem Same.refl (H:Hp):Same H H:=fun _ _ h=>h
theorem Same.trans {H H1 H2:Hp}(a:Same H H1)(b:Same H1 H2):Same H H2:=fun c o h=>b c o (a c o h)
theorem Same.free {H H':Hp}(e:Same H H'){l:Addr}(h:H' l=Option.none):H l=Option.none:=by
 cases q:H l with
 | none=>rfl
 | some o =>
  rw [e l o q] at h;cases h
theorem Same.seq {K:W.Frag}{H H':Hp}{a:Addr}{xs:List V}(e:Same H H')(h:SqL K H a xs):SqL K H' a xs:=by
 rcases h with (h | ⟨o,h⟩) | h
 .exact .inl (.inl (e _ _ h))
 .exact .inl (.inr ⟨o,e _ _ h⟩)
 .exact .inr h
end L2
end
section
namespace DL
open PySem Spec PyProof.Rows L2
abbrev St:=L2.St
abbrev anyU:HO:=.ext fun _=>True
structure LamI where
 qual:Str
 params:Arguments
 body:Expr
 scope:Scope
def frN (L:LamI):List Str:=((L.scope.names.filter fun p=>p.2==.free).map (·.1)).reverse
def zBJ (H:Hp):List (Str×Addr)->List V->Prop:=Paired fun p v=>∃ o u,H p.2=some (.frz o anyU)/\o.data=.cell (some u)/\RelV v u
def zFX (H:Hp)(L:LamI)(f:Addr)(vs:List V):Prop:=∃ cl pm c ctv oc u1,H f=some (.frz (W.kla_obj "<lambda>" L.qual L.params L.body L.scope cl pm c ctv) anyU)/\H c=some (.frz oc u1)/\zLM oc L.qual/\cl.map (·.1)=frN L/\(cl.map (·.2)).Nodup/\zBJ H cl vs
theorem zBJ.mono {H H':Hp}(e:Same H H'){cl:List (Str×Addr)}{vs:List V}(h:zBJ H cl vs):zBJ H' cl vs:=Paired.mapP h fun _ _ zy116=>by obtain ⟨o,u,h1,h2⟩:=zy116;exact ⟨o,u,e _ _ h1,h2⟩
theorem zFX.mono {H H':Hp}(e:Same H H'){L:LamI}{f:Addr}{vs:List V}(h:zFX H L f vs):zFX H' L f vs:=by
 obtain ⟨cl,pm,c,ctv,oc,u1,h1,h2,h3,h4,h5,h6⟩:=h;exact ⟨cl,pm,c,ctv,oc,u1,e _ _ h1,e _ _ h2,h3,h4,h5,h6.mono e⟩
inductive D where
 | non | bl (b:Bool) | int (i:Int) | str (x:Str) | tup (l:List D) | lst (l:List D) | exc (c:Str) | dct (ks:List (Int×Int)) | lam (j:Nat) (L:LamI) (l:List D)
noncomputable instance:Inhabited D:=⟨.non⟩
def zQY (K:W.Frag)(c:Str)(C:Addr):Prop:=W.nsIn K mainGlobals c=some (some (.ref C))
def pk (p:Int×Int):List Key:=[Sum.inl p.1,Sum.inl p.2]
mutual
def Den (K:W.Frag)(H:Hp):D->V->Prop
 | .non,v=>v=.non
 | .bl b,v=>v=.bl b
 | .int i,v=>v=.int i
 | .str x,v=>v=.str x
 | .tup ds,v=>∃ a vs,v=.ref a/\SqT K H a vs/\DenL K H ds vs
 | .lst ds,v=>∃ a vs,v=.ref a/\SqL K H a vs/\DenL K H ds vs
 | .exc c,v=>∃ a o u C,v=.ref a/\H a=some (.frz o u)/\o.cls=.ref C/\(∃ vs,o.data=.fields vs)/\zQY K c C
 | .dct ks,v=>∃ a kvs,v=.ref a/\H a=some (.dT kvs)/\kvs.map (·.1)=ks.map pk
 | .lam _ L ds,v=>∃ a vs,v=.ref a/\zFX H L a vs/\DenL K H ds vs
def DenL (K:W.Frag)(H:Hp):List D->List V->Prop
 | [],vs=>vs=[]
 | d::ds,vs=>∃ v ws,vs=v::ws/\Den K H d v/\DenL K H ds ws
end
theorem Same.tupS {K:W.Frag}{H H':Hp}{a:Addr}{xs:List V}(e:Same H H')(h:SqT K H a xs):SqT K H' a xs:=by
 rcases h with (h | ⟨o,h⟩) | h
 .exact .inl (.inl (e _ _ h))
 .exact .inl (.inr ⟨o,e _ _ h⟩)
 .exact .inr h
section
variable {K:W.Frag}{H H':Hp}
mutual
theorem Den.mono (e:Same H H'):∀ {d:D} {v:V},Den K H d v->Den K H' d v
 | .non,_,h=>by rw [Den] at h ⊢;exact h
 | .bl _,_,h=>by rw [Den] at h ⊢;exact h
 | .int _,_,h=>by rw [Den] at h ⊢;exact h
 | .str _,_,h=>by rw [Den] at h ⊢;exact h
 | .tup ds,_,h=>by
  rw [Den] at h ⊢;obtain ⟨a,vs,h1,h2,h3⟩:=h;exact ⟨a,vs,h1,Same.tupS e h2,DenL.mono e h3⟩
 | .lst ds,_,h=>by
  rw [Den] at h ⊢;obtain ⟨a,vs,h1,h2,h3⟩:=h;exact ⟨a,vs,h1,e.seq h2,DenL.mono e h3⟩
 | .exc c,_,h=>by
  rw [Den] at h ⊢;obtain ⟨a,o,u,C,h1,h2,h3⟩:=h;exact ⟨a,o,u,C,h1,e _ _ h2,h3⟩
 | .dct ks,_,h=>by
  rw [Den] at h ⊢;obtain ⟨a,kvs,h1,h2,h3⟩:=h;exact ⟨a,kvs,h1,e _ _ h2,h3⟩
 | .lam _ L ds,_,h=>by
  rw [Den] at h ⊢;obtain ⟨a,vs,h1,h2,h3⟩:=h;exact ⟨a,vs,h1,h2.mono e,DenL.mono e h3⟩
theorem DenL.mono (e:Same H H'):∀ {ds:List D} {vs:List V},DenL K H ds vs->DenL K H' ds vs
 | [],_,h=>by rw [DenL] at h ⊢;exact h
 | d::ds,_,h=>by
  rw [DenL] at h ⊢;obtain ⟨v,ws,h1,h2,h3⟩:=h;exact ⟨v,ws,h1,Den.mono e h2,DenL.mono e h3⟩
end
theorem DenL.nil:DenL K H [] []:=by rw [DenL]
theorem DenL.cons {d:D}{ds:List D}{v:V}{vs:List V}(h:Den K H d v)(t:DenL K H ds vs):DenL K H (d::ds) (v::vs):=by
 rw [DenL];exact ⟨v,vs,rfl,h,t⟩
theorem DenL.length:∀ {ds:List D} {vs:List V},DenL K H ds vs->ds.length=vs.length
 | [],_,h=>by rw [DenL] at h;rw [h];rfl
 | _::ds,_,h=>by
  rw [DenL] at h;obtain ⟨v,ws,h1,h2,h3⟩:=h;rw [h1,length_cons,length_cons,DenL.length h3]
theorem DenL.get:∀ {ds:List D} {vs:List V} {i:Nat} {d:D},DenL K H ds vs->ds[i]?=some d->∃ v,vs[i]?=some v/\Den K H d v
 | [],_,_,_,_,e=>by simp at e
 | x::ds,_,i,d,h,e=>by
  rw [DenL] at h;obtain ⟨v,ws,h1,h2,h3⟩:=h;subst h1;cases i with
  | zero=>simp at e;subst e;exact ⟨v,by simp,h2⟩
  | succ i =>
   obtain ⟨u,q1,q2⟩:=DenL.get (i:=i) (d:=d) h3 (by simpa using e);exact ⟨u,by simpa using q1,q2⟩
theorem DenL.of_get:∀ {ds:List D} {vs:List V},ds.length=vs.length->(∀ (i:Nat) d v,ds[i]?=some d->vs[i]?=some v->Den K H d v)->DenL K H ds vs
 | [],[],_,_=>.nil
 | [],_::_,e,_=>by simp at e
 | _::_,[],e,_=>by simp at e
 | d::ds,v::vs,e,h=>.cons (h 0 d v (by simp) (by simp)) (DenL.of_get (by simpa using e) fun i d' v' q1 q2=>h (i+1) d' v' (by simpa using q1) (by simpa using q2))
theorem DenL.append:∀ {ds es:List D} {vs ws:List V},DenL K H ds vs->DenL K H es ws->DenL K H (ds++es) (vs++ws)
 | [],_,_,_,h,t=>by rw [DenL] at h;subst h;exact t
 | _::ds,_,_,_,h,t=>by
  rw [DenL] at h;obtain ⟨v,ws,h1,h2,h3⟩:=h;subst h1;exact .cons h2 (DenL.append h3 t)
theorem DenL.take:∀ {ds:List D} {vs:List V} (n:Nat),DenL K H ds vs->DenL K H (ds.take n) (vs.take n)
 | _,_,0,_=>by rw [take_zero,take_zero];exact .nil
 | [],_,n+1,h=>by rw [DenL] at h;subst h;exact .nil
 | _::ds,_,n+1,h=>by
  rw [DenL] at h;obtain ⟨v,ws,h1,h2,h3⟩:=h;subst h1;rw [List.take_succ_cons,List.take_succ_cons];exact .cons h2 (DenL.take n h3)
theorem DenL.drop:∀ {ds:List D} {vs:List V} (n:Nat),DenL K H ds vs->DenL K H (ds.drop n) (vs.drop n)
 | _,_,0,h=>h
 | [],_,n+1,h=>by rw [DenL] at h;subst h;exact .nil
 | _::ds,_,n+1,h=>by
  rw [DenL] at h;obtain ⟨v,ws,h1,h2,h3⟩:=h;subst h1;rw [List.drop_succ_cons,List.drop_succ_cons];exact DenL.drop n h3
theorem DenL.set {d:D}{v:V}(hd:Den K H d v):∀ {ds:List D} {vs:List V} (n:Nat),DenL K H ds vs->DenL K H (ds.set n d) (vs.set n v)
 | [],_,n,h=>by rw [DenL] at h;subst h;exact .nil
 | _::ds,_,n,h=>by
  rw [DenL] at h;obtain ⟨u,ws,h1,h2,h3⟩:=h;subst h1;cases n with
  | zero=>exact .cons hd h3
  | succ n=>exact .cons h2 (DenL.set hd n h3)
theorem DenL.ints:∀ ns:List Int,DenL K H (ns.map D.int) (ns.map V.int)
 | []=>.nil
 | n::ns=>.cons (by rw [Den]) (DenL.ints ns)
end
def hide (H:Hp)(S:List Addr):Hp:=fun b=>if b∈S then none else H b
section
variable {H H':Hp}{S:List Addr}{a b:Addr}{o:HO}
theorem zB2 (h:b∈S):hide H S b=none:=if_pos h
theorem zAN (h:b∉S):hide H S b=H b:=if_neg h
theorem zAt (h:hide H S b=some o):b∉S/\H b=some o:=by
 unfold hide at h;by_cases q:b∈S
 .rw [if_pos q] at h;cases h
 .rw [if_neg q] at h;exact ⟨q,h⟩
theorem zAg:Same (hide H S) H:=fun _ _ h=>(zAt h).2
theorem zAQ (e:Same H H'):Same (hide H S) (hide H' S):=fun b o h=>by
 obtain ⟨h1,h2⟩:=zAt h;rw [zAN h1];exact e _ _ h2
theorem zBq {T:List Addr}(h:∀ b∈S,b∈T):Same (hide H T) (hide H S):=fun b o q=>by
 obtain ⟨h1,h2⟩:=zAt q;rw [zAN fun z=>h1 (h b z)];exact h2
theorem zDj (e:Same H H')(n:H a=none):Same (hide H S) (hide H' (a::S)):=fun b o q=>by
 obtain ⟨h1,h2⟩:=zAt q;have ne:b≠a:=zAj h2 n;rw [zAN fun z=>(mem_cons.mp z).elim ne h1];exact e _ _ h2
theorem zBD:hide H []=H:=by
 funext b;exact zAN (by simp)
theorem zFC (h:a∈S):hide (upd H a o) S=hide H S:=by
 funext b;by_cases q:b∈S
 .rw [zB2 q,zB2 q]
 .rw [zAN q,zAN q,zAP fun z=>q (by rw [z];exact h)]
theorem zAk {p:Addr}(h:H p=none)(o:HO):Same H (upd H p o):=fun b u q=>by rw [zAP (zAj q h)];exact q
end
inductive Kd where
 | cl | fr | dt
 deriving DecidableEq
abbrev R:=D×Kd
abbrev Dst:=List (Option (D×Bool))
def RV (K:W.Frag)(H H':Hp)(S:List Addr):R->V->Prop
 | (d,.cl),v=>Den K (hide H' S) d v
 | (d,.fr),v=>∃ a vs ds,v=.ref a/\d=.lst ds/\a∉S/\H a=none/\H' a=some (.lst vs)/\DenL K (hide H' (a::S)) ds vs
 | (d,.dt),v=>∃ a vs ds,v=.ref a/\d=.lst ds/\SqL K H' a vs/\DenL K (hide H' S) ds vs
def Rdv (K:W.Frag)(H:Hp)(S:List Addr)(d:D)(v:V):Prop :=
 Den K (hide H S) d v\/∃ a vs ds,v=.ref a/\d=.lst ds/\SqL K H a vs/\DenL K (hide H S) ds vs
section
variable {K:W.Frag}{H H1 H':Hp}{S:List Addr}{d:D}{v:V}{r:R}
theorem RV.clean (h:RV K H H' S (d,.fr) v):Den K (hide H' S) d v:=by
 obtain ⟨a,vs,ds,rfl,rfl,na,_,ha,t⟩:=h;rw [Den];exact ⟨a,vs,rfl,SqL.of (by rw [zAN na];exact ha),t.mono (zBq fun b z=>mem_cons_of_mem _ z)⟩
theorem RV.den {k:Kd}(h:RV K H H' S (d,k) v)(hk:k≠.dt):Den K (hide H' S) d v:=by
 cases k with
 | cl=>exact h
 | fr=>exact h.clean
 | dt=>exact absurd rfl hk
theorem RV.rd (h:RV K H H' S r v):Rdv K H' S r.1 v:=by
 obtain ⟨d,k⟩:=r;cases k with
 | cl=>exact .inl h
 | fr=>exact .inl h.clean
 | dt=>exact .inr h
theorem RV.from (e:Same H H1)(h:RV K H1 H' S r v):RV K H H' S r v:=by
 obtain ⟨d,k⟩:=r;cases k with
 | cl=>exact h
 | fr =>
  obtain ⟨a,vs,ds,e1,e2,e3,e4,e5⟩:=h;exact ⟨a,vs,ds,e1,e2,e3,e.free e4,e5⟩
 | dt=>exact h
theorem Rdv.mono (e:Same H H')(h:Rdv K H S d v):Rdv K H' S d v:=by
 rcases h with h | ⟨a,vs,ds,h1,h2,h3,h4⟩
 .exact .inl (h.mono (zAQ e))
 .exact .inr ⟨a,vs,ds,h1,h2,e.seq h3,h4.mono (zAQ e)⟩
theorem Rdv.int {i:Int}(h:Rdv K H S (.int i) v):v=.int i:=by
 rcases h with h | ⟨a,vs,ds,h1,h2,_⟩
 .rw [Den] at h;exact h
 .cases h2
theorem Rdv.bl {b:Bool}(h:Rdv K H S (.bl b) v):v=.bl b:=by
 rcases h with h | ⟨a,vs,ds,h1,h2,_⟩
 .rw [Den] at h;exact h
 .cases h2
theorem Rdv.str {x:Str}(h:Rdv K H S (.str x) v):v=.str x:=by
 rcases h with h | ⟨a,vs,ds,h1,h2,_⟩
 .rw [Den] at h;exact h
 .cases h2
theorem Rdv.lst {ds:List D}(h:Rdv K H S (.lst ds) v):∃ a vs,v=.ref a/\SqL K H a vs/\DenL K (hide H S) ds vs:=by
 rcases h with h | ⟨a,vs,ds',h1,h2,h3,h4⟩
 .rw [Den] at h;obtain ⟨a,vs,h1,h2,h3⟩:=h;exact ⟨a,vs,h1,zAg.seq h2,h3⟩
 .cases h2;exact ⟨a,vs,h1,h3,h4⟩
theorem Rdv.tup {ds:List D}(h:Rdv K H S (.tup ds) v):∃ a vs,v=.ref a/\SqT K H a vs/\DenL K (hide H S) ds vs:=by
 rcases h with h | ⟨a,vs,ds',h1,h2,h3,h4⟩
 .rw [Den] at h;obtain ⟨a,vs,h1,h2,h3⟩:=h;exact ⟨a,vs,h1,Same.tupS zAg h2,h3⟩
 .cases h2
theorem Rdv.dct {ks:List (Int×Int)}(h:Rdv K H S (.dct ks) v):∃ a kvs,v=.ref a/\H a=some (.dT kvs)/\kvs.map (·.1)=ks.map pk:=by
 rcases h with h | ⟨a,vs,ds',h1,h2,h3,h4⟩
 .rw [Den] at h;obtain ⟨a,kvs,h1,h2,h3⟩:=h;exact ⟨a,kvs,h1,zAg _ _ h2,h3⟩
 .cases h2
theorem RV.int (i:Int):RV K H H' S (.int i,.cl) (.int i):=by show Den _ _ _ _;rw [Den]
theorem RV.bl (b:Bool):RV K H H' S (.bl b,.cl) (.bl b):=by show Den _ _ _ _;rw [Den]
end
def MuB:HO->Prop
 | .lst _=>True
 | .dT _=>True
 | _=>False
def OwnO (K:W.Frag)(H:Hp):D->HO->Prop
 | .lst ds,o=>∃ vs,o=.lst vs/\DenL K H ds vs
 | .dct ks,o=>∃ kvs,o=.dT kvs/\kvs.map (·.1)=ks.map pk
 | _,_=>False
theorem OwnO.mono {K:W.Frag}{H H':Hp}{d:D}{o:HO}(e:Same H H')(h:OwnO K H d o):OwnO K H' d o:=by
 cases d with
 | lst ds=>obtain ⟨vs,h1,h2⟩:=h;exact ⟨vs,h1,h2.mono e⟩
 | dct ks=>exact h
 | non=>exact h
 | bl _=>exact h
 | int _=>exact h
 | str _=>exact h
 | tup _=>exact h
 | exc _=>exact h
 | lam _ _ _=>exact h
theorem OwnO.mu {K:W.Frag}{H:Hp}{d:D}{o:HO}(h:OwnO K H d o):MuB o:=by
 cases d with
 | lst ds=>obtain ⟨vs,rfl,_⟩:=h;exact True.intro
 | dct ks=>obtain ⟨kvs,rfl,_⟩:=h;exact True.intro
 | non=>cases h
 | bl _=>cases h
 | int _=>cases h
 | str _=>cases h
 | tup _=>cases h
 | exc _=>cases h
 | lam _ _ _=>cases h
theorem OwnO.den {K:W.Frag}{H:Hp}{d:D}{o:HO}{a:Addr}(h:OwnO K H d o)(e:H a=some o):Den K H d (.ref a):=by
 cases d with
 | lst ds=>obtain ⟨vs,rfl,h2⟩:=h;rw [Den];exact ⟨a,vs,rfl,SqL.of e,h2⟩
 | dct ks=>obtain ⟨kvs,rfl,h2⟩:=h;rw [Den];exact ⟨a,kvs,rfl,e,h2⟩
 | non=>cases h
 | bl _=>cases h
 | int _=>cases h
 | str _=>cases h
 | tup _=>cases h
 | exc _=>cases h
 | lam _ _ _=>cases h
def SV (K:W.Frag)(H:Hp)(S:List Addr)(d:D)(o:Bool)(v:V):Prop :=
 if o=true then ∃ a u,v=.ref a/\a∈S/\H a=some u/\OwnO K (hide H S) d u else Den K (hide H S) d v
structure DS (K:W.Frag)(H:Hp)(S:List Addr)(B:St)(G:Dst):Prop where
 len:B.length=G.length
 sok:∀ a∈S,∃ xs:HO,H a=some xs/\MuB xs
 get:∀ (i:Nat) d o,G[i]?=some (some (d,o))->∃ v,B[i]?=some (some v)/\SV K H S d o v
 inj:∀ (i j:Nat) d e a,G[i]?=some (some (d,true))->G[j]?=some (some (e,true))->B[i]?=some (some (.ref a))->B[j]?=some (some (.ref a))->i=j
section
variable {K:W.Frag}{H H1 H':Hp}{S:List Addr}{B:St}{G:Dst}{d:D}{v:V}{i:Nat}
theorem SV.own {o:Bool}(h:SV K H S d o v)(ho:o=true):∃ a u,v=.ref a/\a∈S/\H a=some u/\OwnO K (hide H S) d u:=by
 unfold SV at h;rw [if_pos ho] at h;exact h
theorem SV.ownL {o:Bool}{ds:List D}(h:SV K H S (.lst ds) o v)(ho:o=true):∃ a vs es,v=.ref a/\D.lst ds=.lst es/\a∈S/\H a=some (.lst vs)/\DenL K (hide H S) es vs:=by
 obtain ⟨a,u,h1,h2,h3,vs,rfl,h5⟩:=h.own ho;exact ⟨a,vs,ds,h1,rfl,h2,h3,h5⟩
theorem SV.den {o:Bool}(h:SV K H S d o v)(ho:o=false):Den K (hide H S) d v:=by
 unfold SV at h;rw [if_neg (by rw [ho];decide)] at h;exact h
theorem SV.of_den (h:Den K (hide H S) d v):SV K H S d false v:=by
 unfold SV;rw [if_neg (by decide)];exact h
theorem SV.of_own {a:Addr}{u:HO}(h1:a∈S)(h2:H a=some u)(h3:OwnO K (hide H S) d u):SV K H S d true (.ref a):=by
 unfold SV;rw [if_pos rfl];exact ⟨a,u,rfl,h1,h2,h3⟩
theorem SV.mono {o:Bool}(e:Same H H')(h:SV K H S d o v):SV K H' S d o v:=by
 cases o with
 | true =>
  obtain ⟨a,u,rfl,h1,h2,h3⟩:=h.own rfl;exact .of_own h1 (e _ _ h2) (h3.mono (zAQ e))
 | false=>exact .of_den ((h.den rfl).mono (zAQ e))
theorem DS.mono (h:DS K H S B G)(e:Same H H'):DS K H' S B G :=
 ⟨h.len,fun a z=>let ⟨xs,q,mu⟩:=h.sok a z;⟨xs,e _ _ q,mu⟩,fun i d o z=>let ⟨v,q1,q2⟩:=h.get i d o z;⟨v,q1,q2.mono e⟩,h.inj⟩
theorem zA4 {U:Type}{l:List U}{i:Nat}{x:U}(h:i < l.length):(l.set i x)[i]?=some x:=by simp [h]
theorem zAp {U:Type}{l:List U}{i j:Nat}{x:U}(h:i≠j):(l.set i x)[j]?=l[j]?:=by rw [getElem?_set_ne h]
theorem zAV {U:Type}{l:List U}{i j:Nat}{x y:U}(h:(l.set i x)[j]?=some y):(i=j/\y=x/\i < l.length)\/(i≠j/\l[j]?=some y):=by
 by_cases e:i=j
 .subst e;by_cases q:i < l.length
  .rw [zA4 q] at h;exact .inl ⟨rfl,(Option.some.inj h).symm,q⟩
  .rw [List.set_eq_of_length_le (by omega)] at h;exact absurd (zzg h).1 q
 .rw [zAp e] at h;exact .inr ⟨e,h⟩
theorem DS.set (h:DS K H S B G)(hd:Den K (hide H S) d v):DS K H S (B.set i (some v)) (G.set i (some (d,false))):=by
 refine ⟨by rw [length_set,length_set];exact h.len,h.sok,fun j e o q=>?_,fun j k e f a q1 q2 q3 q4=>?_⟩
 .rcases zAV q with ⟨rfl,z,hl⟩ | ⟨ne,z⟩
  .cases z;exact ⟨v,zA4 (by rw [h.len];exact hl),.of_den hd⟩
  .obtain ⟨u,q1,q2⟩:=h.get j e o z;exact ⟨u,by rw [zAp ne];exact q1,q2⟩
 .rcases zAV q1 with ⟨_,z,_⟩ | ⟨ne1,z1⟩
  .cases z
  .rcases zAV q2 with ⟨_,z,_⟩ | ⟨ne2,z2⟩
   .cases z
   .rw [zAp ne1] at q3;rw [zAp ne2] at q4;exact h.inj j k e f a z1 z2 q3 q4
theorem DS.setG (h:DS K H S B G)(e:Same H H'){a:Addr}{u:HO}{d:D}(n:H a=none)(ha:H' a=some u)(t:OwnO K (hide H' (a::S)) d u) :
  DS K H' (a::S) (B.set i (some (.ref a))) (G.set i (some (d,true))):=by
 refine ⟨by rw [length_set,length_set];exact h.len,fun b z=>?_,fun j e' o q=>?_,fun j k e' f b q1 q2 q3 q4=>?_⟩
 .rcases mem_cons.mp z with rfl | z
  .exact ⟨_,ha,t.mu⟩
  .obtain ⟨xs,q,mu⟩:=h.sok b z;exact ⟨xs,e _ _ q,mu⟩
 .rcases zAV q with ⟨rfl,z,hl⟩ | ⟨ne,z⟩
  .cases z;exact ⟨.ref a,zA4 (by rw [h.len];exact hl),.of_own mem_cons_self ha t⟩
  .obtain ⟨u,q1,q2⟩:=h.get j e' o z;refine ⟨u,by rw [zAp ne];exact q1,?_⟩;cases o with
   | true =>
    obtain ⟨b,w,rfl,w1,w2,w3⟩:=q2.own rfl;exact .of_own (mem_cons_of_mem _ w1) (e _ _ w2) (w3.mono (zDj e n))
   | false=>exact .of_den ((q2.den rfl).mono (zDj e n))
 .have old:∀ {j:Nat} {x:D},i≠j->G[j]?=some (some (x,true))->B[j]?=some (some (.ref a))->False:=fun {j x} ne z q=>by
   obtain ⟨u,q1,q2⟩:=h.get j x true z;obtain ⟨b,w,rfl,w1,w2,_⟩:=q2.own rfl;rw [q] at q1;cases q1;rw [n] at w2;cases w2
  rcases zAV q1 with ⟨e1,z1,l1⟩ | ⟨ne1,z1⟩
  .rcases zAV q2 with ⟨e2,z2,l2⟩ | ⟨ne2,z2⟩
   .exact e1.symm.trans e2
   .rw [<- e1,zA4 (by rw [h.len];exact l1)] at q3;cases q3;rw [zAp ne2] at q4;exact (old ne2 z2 q4).elim
  .rcases zAV q2 with ⟨e2,z2,l2⟩ | ⟨ne2,z2⟩
   .rw [<- e2,zA4 (by rw [h.len];exact l2)] at q4;cases q4;rw [zAp ne1] at q3;exact (old ne1 z1 q3).elim
   .rw [zAp ne1] at q3;rw [zAp ne2] at q4;exact h.inj j k e' f b z1 z2 q3 q4
theorem DS.setF (h:DS K H S B G)(e:Same H H'){a:Addr}{vs:List V}{ds:List D}(n:H a=none)(ha:H' a=some (.lst vs))(t:DenL K (hide H' (a::S)) ds vs) :
  DS K H' (a::S) (B.set i (some (.ref a))) (G.set i (some (.lst ds,true))):=h.setG e n ha ⟨vs,rfl,t⟩
theorem DS.changeG (h:DS K H S B G){a:Addr}{u:HO}{d e0:D}(hi:G[i]?=some (some (d,true)))(hv:B[i]?=some (some (.ref a)))(t:OwnO K (hide H S) e0 u) :
  DS K (upd H a u) S B (G.set i (some (e0,true))):=by
 obtain ⟨w,q1,q2⟩:=h.get i _ true hi;obtain ⟨b,ws,e1,aS,w2,_⟩:=q2.own rfl;subst e1;rw [hv] at q1;cases q1;have hh:hide (upd H a u) S=hide H S:=zFC aS;refine ⟨by rw [length_set];exact h.len,fun b z=>?_,fun j e' o q=>?_,fun j k e' f b q1 q2 q3 q4=>?_⟩
 .by_cases q:b=a
  .subst q;exact ⟨_,zAh,t.mu⟩
  .rw [zAP q];exact h.sok b z
 .rcases zAV q with ⟨rfl,z,hl⟩ | ⟨ne,z⟩
  .cases z;exact ⟨.ref a,hv,.of_own aS zAh (by rw [hh];exact t)⟩
  .obtain ⟨w,q1,q2⟩:=h.get j e' o z;refine ⟨w,q1,?_⟩;cases o with
   | true =>
    obtain ⟨b,ws',rfl,w1,w2',w3⟩:=q2.own rfl;have nb:b≠a:=fun z2=>by subst z2;exact ne (h.inj i j _ _ b hi z hv q1)
    exact .of_own w1 (by rw [zAP nb];exact w2') (by rw [hh];exact w3)
   | false=>exact .of_den (by rw [hh];exact q2.den rfl)
 .have back:∀ {j:Nat} {x:D},(G.set i (some (e0,true)))[j]?=some (some (x,true))->∃ y,G[j]?=some (some (y,true)):=fun {j x} z=>by
   rcases zAV z with ⟨e1,_,_⟩ | ⟨_,z⟩
   .rw [<- e1];exact ⟨_,hi⟩
   .exact ⟨_,z⟩
  obtain ⟨y1,z1⟩:=back q1;obtain ⟨y2,z2⟩:=back q2;exact h.inj j k y1 y2 b z1 z2 q3 q4
theorem DS.change (h:DS K H S B G){a:Addr}{vs:List V}{ds es:List D}(hi:G[i]?=some (some (.lst ds,true)))(hv:B[i]?=some (some (.ref a)))(t:DenL K (hide H S) es vs) :
  DS K (upd H a (.lst vs)) S B (G.set i (some (.lst es,true))):=h.changeG hi hv ⟨vs,rfl,t⟩
theorem DS.freeze (h:DS K H S B G)(hi:G[i]?=some (some (d,true))):∃ S',(∀ b∈S',b∈S)/\DS K H S' B (G.set i (some (d,false))):=by
 obtain ⟨u,q1,q2⟩:=h.get i _ true hi;obtain ⟨a,w,rfl,aS,w2,w3⟩:=q2.own rfl;have sub:∀ b∈S.filter (fun b=>decide (b≠a)),b∈S:=fun b z=>(mem_filter.mp z).1
 have na:a∉S.filter (fun b=>decide (b≠a)):=fun z=>by simpa using (mem_filter.mp z).2
 refine ⟨S.filter (fun b=>decide (b≠a)),sub,?_⟩;have hs:Same (hide H S) (hide H (S.filter fun b=>decide (b≠a))):=zBq sub;refine ⟨by rw [length_set];exact h.len,fun b z=>h.sok b (sub b z),fun j e' o q=>?_,fun j k e' f b z1 z2 q3 q4=>?_⟩
 .rcases zAV q with ⟨rfl,z,hl⟩ | ⟨ne,z⟩
  .cases z;exact ⟨.ref a,q1,.of_den ((w3.mono hs).den (by rw [zAN na];exact w2))⟩
  .obtain ⟨u,p1,p2⟩:=h.get j e' o z;refine ⟨u,p1,?_⟩;cases o with
   | true =>
    obtain ⟨b,ws',rfl,w1,w2',w3'⟩:=p2.own rfl;have nb:b≠a:=fun z2=>by subst z2;exact ne (h.inj i j _ _ b hi z q1 p1)
    exact .of_own (mem_filter.mpr ⟨w1,by simpa using nb⟩) w2' (w3'.mono hs)
   | false=>exact .of_den ((p2.den rfl).mono hs)
 .rcases zAV z1 with ⟨_,z,_⟩ | ⟨_,z1⟩
  .cases z
  .rcases zAV z2 with ⟨_,z,_⟩ | ⟨_,z2⟩
   .cases z
   .exact h.inj j k e' f b z1 z2 q3 q4
end
def gT (K:W.Frag)(f:Dst->Option R):TE:=fun B H Q=>∃ S G r,DS K H S B G/\f G=some r/\∀ v H',Same H H'->RV K H H' S r v->Q v H'
def gB (K:W.Frag)(f:Dst->Option Bool):TT:=fun B H Q=>∃ S G b,DS K H S B G/\f G=some b/\∀ H',Same H H'->Q b H'
def gA (K:W.Frag)(f:Dst->Option (List D)):TA:=fun B H Q=>∃ S G ds,DS K H S B G/\f G=some ds/\∀ vs H',Same H H'->DenL K (hide H' S) ds vs->Q vs H'
def GE (X:Cx)(e:Expr)(f:Dst->Option R):Prop:=PE X e (gT X.K f)
def GT (X:Cx)(e:Expr)(f:Dst->Option Bool):Prop:=PT X e (gB X.K f)
def GA (X:Cx)(es:List Expr)(f:Dst->Option (List D)):Prop:=PA X es (gA X.K f)
theorem _root_.L2.PE.imp {X:Cx}{e:Expr}{t t':TE}(h:PE X e t)(i:∀ B H Q,t' B H Q->t B H Q):PE X e t':=fun pins s B H Q I q=>h pins s B H Q I (i B H Q q)
theorem _root_.L2.PT.imp {X:Cx}{e:Expr}{t t':TT}(h:PT X e t)(i:∀ B H Q,t' B H Q->t B H Q):PT X e t':=fun pins s B H Q I q=>h pins s B H Q I (i B H Q q)
theorem _root_.L2.PA.imp {X:Cx}{e:List Expr}{t t':TA}(h:PA X e t)(i:∀ B H Q,t' B H Q->t B H Q):PA X e t':=fun pos pins s B H Q I q=>h pos pins s B H Q I (i B H Q q)
theorem bind_some {U M:Type}{o:Option U}{f:U->Option M}{b:M}(h:(o.bind f)=some b):∃ a,o=some a/\f a=some b:=by
 cases o with
 | none=>cases h
 | some a=>exact ⟨a,rfl,h⟩
section
variable {X:Cx}
def OpD (K:W.Frag)(r:R2)(o:D->D->Option R):Prop :=
 ∀ (S:List Addr) (H:Hp) (x y:D) (z:R) (vx vy:V) (Q:VK),(∀ a∈S,∃ xs:HO,H a=some xs/\MuB xs)->o x y=some z->Rdv K H S x vx->Rdv K H S y vy->(∀ v H',Same H H'->RV K H H' S z v->Q v H')->r vx vy H Q
def two (f g:Dst->Option R)(o:D->D->Option R):Dst->Option R:=fun G=>(f G).bind fun x=>(g G).bind fun y=>o x.1 y.1
theorem zHZ {r:R2}{o:D->D->Option R}{f g:Dst->Option R}(h:OpD X.K r o){B:St}{H:Hp}{Q:VK}(q:gT X.K (two f g o) B H Q):tOp r (gT X.K f) (gT X.K g) B H Q:=by
 obtain ⟨S,G,z,ds,e,c⟩:=q;obtain ⟨x,ex,e⟩:=bind_some e;obtain ⟨y,ey,e⟩:=bind_some e;refine ⟨S,G,x,ds,ex,fun vx H1 s1 r1=>⟨S,G,y,ds.mono s1,ey,fun vy H2 s2 r2=>?_⟩⟩;exact h S H2 x.1 y.1 z vx vy Q (ds.mono (s1.trans s2)).sok e (r1.rd.mono s2) r2.rd fun v H' s3 r3=>c v H' (s1.trans (s2.trans s3)) (r3.from (s1.trans s2))
theorem zIc {op:Operator}{r:R2}{o:D->D->Option R}{a b:Expr}{f g:Dst->Option R}{pos:Pos}(ho:OpR X (binaryOp op) r)(h:OpD X.K r o)(ha:GE X a f)(hb:GE X b g):GE X (.BinOp a op b pos) (two f g o) :=
 (zTN ho ha hb).imp fun _ _ _ q=>zHZ h q
theorem zSI {op:CmpOp}{r:R2}{o:D->D->Option R}{a b:Expr}{f g:Dst->Option R}{pos:Pos}(ho:OpR X (compareOp op) r)(h:OpD X.K r o)(hm:behindInMarks op b=false)(ha:GE X a f)(hb:GE X b g):GE X (.Compare a [op] [b] pos) (two f g o) :=
 (zOm ho ha hb hm).imp fun _ _ _ q=>zHZ h q
def asB (f:Dst->Option R):Dst->Option Bool:=fun G=>match f G with
 | some (.bl b,_)=>some b
 | _=>none
theorem zB7 {f:Dst->Option R}{G:Dst}{b:Bool}(h:asB f G=some b):∃ k,f G=some (.bl b,k):=by
 unfold asB at h;split at h
 .rename_i k e;cases h;exact ⟨_,e⟩
 .cases h
theorem zGo {f:Dst->Option R}{B:St}{H:Hp}{Q:Bool->Hp->Prop}(q:gB X.K (asB f) B H Q):gT X.K f B H fun x H'=>∃ k,x=.bl k/\Q k H':=by
 obtain ⟨S,G,b,ds,e,c⟩:=q;obtain ⟨k,e⟩:=zB7 e;refine ⟨S,G,_,ds,e,fun v H' s1 r1=>⟨b,r1.rd.bl,c H' s1⟩⟩
theorem zRw {op:CmpOp}{r:R2}{o:D->D->Option R}{a b:Expr}{f g:Dst->Option R}{pos:Pos}(ho:OpR X (compareOp op) r)(h:OpD X.K r o)(hm:behindInMarks op b=false)(ha:GE X a f)(hb:GE X b g):GT X (.Compare a [op] [b] pos) (asB (two f g o)) :=
 (zOf ho ha hb hm).imp fun _ _ _ q=>zHZ h (zGo q)
theorem zRt {e:Expr}{f:Dst->Option R}(h:GE X e f)(he:∀ whole,isTrue e X.env whole=(do let v<-whole;standAt e.pos;holding [v] (truthy v))):GT X e (asB f) :=
 (zNU h he).imp fun _ _ _ q=>zGo q
def lstB:D->Bool
 | .lst _=>true
 | _=>false
def varD (i:Nat):Dst->Option R:=fun G=>match G[i]? with
 | some (some (d,o))=>if o=true then (if lstB d=true then some (d,.dt) else none) else some (d,.cl)
 | _=>none
theorem zR9 {i:Nat}{x:Str}{pos:Pos}(hN:X.N[i]?=some x)(hv:Vis X.env.scope x)(hd:(x==("__debug__":Str))=false)(hcd:(x==("__classdict__":Str))=false) :
  GE X (.Name x pos) (varD i):=by
 refine (zDu hN hv hd hcd).imp fun B H Q q=>?_
 obtain ⟨S,G,z,ds,e,c⟩:=q;unfold varD at e;split at e
 .rename_i d o q;obtain ⟨v,q1,q2⟩:=ds.get i d o q;cases o with
  | false =>
   cases e;exact ⟨v,q1,c v H (Same.refl _) (q2.den rfl)⟩
  | true =>
   rw [if_pos rfl] at e;cases d with
   | lst xs =>
    cases e;refine ⟨v,q1,c v H (Same.refl _) ?_⟩;obtain ⟨a,vs,es,rfl,e2,_,w2,w3⟩:=q2.ownL rfl;exact ⟨a,vs,es,rfl,e2,SqL.of w2,w3⟩
   | _=>cases e
 .cases e
theorem zDk {e:Expr}{v:V}{d:D}(h:PE X e (tC v))(hd:∀ K H,Den K H d v):GE X e (fun _=>some (d,.cl)) :=
 h.imp fun B H Q zz31=>by
  obtain ⟨S,G,z,ds,e,c⟩:=zz31;cases e;exact c v H (Same.refl _) (hd _ _)
theorem ge_int {i:Int}{j pos}:GE X (.Constant (.int i) j pos) (fun _=>some (.int i,.cl)):=zDk zRA fun _ _=>by rw [Den]
theorem zTw {b:Bool}{j pos}:GE X (.Constant (.bool b) j pos) (fun _=>some (.bl b,.cl)):=zDk zTO fun _ _=>by rw [Den]
theorem zSD {j pos}:GE X (.Constant .none j pos) (fun _=>some (.non,.cl)):=zDk zQ8 fun _ _=>by rw [Den]
theorem zSB {x:Str}{j pos}:GE X (.Constant (.str x) j pos) (fun _=>some (.str x,.cl)):=zDk zQ5 fun _ _=>by rw [Den]
theorem zPi {x:Str}{v:V}{u:Value}{d:D}{pos:Pos}(hg:Gl X x)(hm:X.mg x=some u)(r:RelV v u)(hd:Den X.K (fun _=>none) d v)(hdb:(x==("__debug__":Str))=false):GE X (.Name x pos) (fun _=>some (d,.cl)) :=
 (zOl hg hm r hdb).imp fun B H Q zz32=>by
  obtain ⟨S,G,z,ds,e,c⟩:=zz32;cases e;exact c v H (Same.refl _) (hd.mono fun b o q=>by cases q)
theorem zGd {C:Int->Int->Prop}{g:Int->Int->Int}{o:D->D->Option R}(h:∀ x y z,o x y=some z->∃ i j,x=.int i/\y=.int j/\C i j/\z=(.int (g i j),.cl)):OpD X.K (rI C fun i j=>.int (g i j)) o:=by
 intro S H x y z vx vy Q _ e rx ry c;obtain ⟨i,j,rfl,rfl,hc,rfl⟩:=h x y z e;exact ⟨i,j,rx.int,ry.int,hc,c _ H (Same.refl _) (.int _)⟩
theorem zLu {g:Int->Int->Int}{o:D->D->Option R}(h:∀ x y z,o x y=some z->∃ i j,x=.int i/\y=.int j/\z=(.int (g i j),.cl)):OpD X.K (rI0 fun i j=>.int (g i j)) o:=by
 intro S H x y z vx vy Q _ e rx ry c;obtain ⟨i,j,rfl,rfl,rfl⟩:=h x y z e;exact ⟨i,j,rx.int,ry.int,c _ H (Same.refl _) (.int _)⟩
theorem zBE {g:Int->Int->Bool}{o:D->D->Option R}(h:∀ x y z,o x y=some z->∃ i j,x=.int i/\y=.int j/\z=(.bl (g i j),.cl)):OpD X.K (rI0 fun i j=>.bl (g i j)) o:=by
 intro S H x y z vx vy Q _ e rx ry c;obtain ⟨i,j,rfl,rfl,rfl⟩:=h x y z e;exact ⟨i,j,rx.int,ry.int,c _ H (Same.refl _) (.bl _)⟩
theorem zOx:OpR X (binaryOp .Mult) (rI IntMulOk fun i j=>.int (i*j)):=opI fun _ _ _ _ _ _ _ hc q=>mul_int q hc
def zIp (_ j:Int):Prop:=j≠0
theorem zJ2 {pins:List (Addr×Obj)}{s:Shared}{B:St}{H:Hp}(I:Inv X pins B H s):PylongRoom (model X.prog X.w) X.A s:=by
 obtain ⟨h1,h2,e,l,h3,h4,h5,h6,h7⟩:=I.ok.pyl;exact PylongRoom.of I.nolimit h1 (SeerAt.of (I.mod.seer.keeps I.bk) h2 (by rw [I.ok.frames,h3]) h4 h5 h6 h7)
theorem zLv:OpR X (binaryOp .FloorDiv) (rI zIp fun i j=>.int (i.fdiv j)):=by
 intro pins s B H x y v u Q I rx ry h;obtain ⟨i,j,rfl,rfl,hc,q⟩:=h;obtain ⟨t,rfl⟩:=rx;obtain ⟨t',rfl⟩:=ry;exact floordiv_int hc ⟨.int (i.fdiv j),H,I.tok _,⟨_,rfl⟩,q⟩ (.inr (zJ2 I))
theorem zF0 (l:Addr)(items:Array Value)(n:Nat)(dd:Option Addr)(sl:Array (Option Value))(b:Addr)(items2:Array Value)(n2:Nat)(dd2:Option Addr)(sl2:Array (Option Value))(hc0:items.size+items2.size<=sizeLine) :
  Meets (Builtin.«list.__add__» ⟨[.ref l,.ref b],[]⟩) (fun _ R s=>s.heap.get? l=some { cls:=.type "list",dict:=dd,data:=.seq items n,slots:=sl }/\s.heap.get? b=some { cls:=.type "list",dict:=dd2,data:=.seq items2 n2,slots:=sl2 }/\R (.ok (.ret (Value.ref s.heap.objs.size))) { s with heap:=s.heap.push { cls:=Value.type "list",data:=Data.seq (items++items2) },toks:=s.toks }) :=
 .of_wp fun prog w A R s h=>by obtain ⟨hp,g,d,tk,os⟩:=s;obtain ⟨hl,hb,h⟩:=h;have f1:=AutoSeq1.idx_int;have f2:=AutoSeq1.sub_tuple_tuple;have f3:=AutoSeq1.sub_list_list;have f4:=AutoSeq1.sub_tuple_list;have f5:=AutoSeq1.sub_list_tuple;wp_walk using AutoSeq1.wpAny_loadPart' hl,AutoSeq1.wpAny_loadPart' hb;exact ⟨_,rfl,h⟩
end
mutual
def toPy:D->PyData
 | .non=>.none
 | .bl b=>.bool b
 | .int i=>.int i
 | .str x=>.str x
 | .tup ds=>.tuple (toPyL ds)
 | .lst ds=>.list (toPyL ds)
 | .exc _=>.str ⟨#[1114112]⟩
 | .dct _=>.str ⟨#[1114112]⟩
 | .lam _ _ _=>.str ⟨#[1114112]⟩
def toPyL:List D->List PyData
 | []=>[]
 | d::ds=>toPy d::toPyL ds
end
theorem Rdv.whole {K:W.Frag}{H:Hp}{S:List Addr}{d:D}{v:V}(h:Rdv K H S d v):Den K H d v:=by
 rcases h with h | ⟨a,vs,ds,rfl,rfl,h1,h2⟩
 .exact h.mono zAg
 .rw [Den];exact ⟨a,vs,rfl,h1,h2.mono zAg⟩
section
variable {X:Cx}{pins:List (Addr×Obj)}{B:St}{H:Hp}{s:Shared}
mutual
theorem zC0 (I:Inv X pins B H s):∀ {d:D} {v:V} {u:Value},Den X.K H d v->RelV v u->(toPy d).canLay0=true->∃ as,Reads s.heap u (toPy d) as
 | .non,_,_,h,r,_=>by rw [Den] at h;subst h;cases r;rw [toPy];exact ⟨_,.none⟩
 | .bl b,_,_,h,r,_=>by rw [Den] at h;subst h;cases r;rw [toPy];exact ⟨_,.bool b⟩
 | .int i,_,_,h,r,_=>by rw [Den] at h;subst h;obtain ⟨t,rfl⟩:=r;rw [toPy];exact ⟨_,.int i t⟩
 | .str x,_,_,h,r,_=>by rw [Den] at h;subst h;obtain ⟨t,rfl⟩:=r;rw [toPy];exact ⟨_,.str x t⟩
 | .tup ds,_,_,h,r,cl=>by
  rw [toPy,PyData.canLay0] at cl;rw [Den] at h;obtain ⟨a,vs,rfl,h1,h2⟩:=h;cases r;obtain ⟨its,rv,⟨o,e1,e2,n,e3⟩,_⟩:=I.tuple h1;obtain ⟨as,q⟩:=readsL_of I h2 rv cl;rw [toPy];exact ⟨_,.tuple e1 e2 e3 q⟩
 | .exc c,_,_,h,r,cl=>by rw [toPy,PyData.canLay0] at cl;exact absurd cl (by decide +kernel)
 | .dct c,_,_,h,r,cl=>by rw [toPy,PyData.canLay0] at cl;exact absurd cl (by decide +kernel)
 | .lam _ _ _,_,_,h,r,cl=>by rw [toPy,PyData.canLay0] at cl;exact absurd cl (by decide +kernel)
 | .lst ds,_,_,h,r,cl=>by
  rw [toPy,PyData.canLay0] at cl;rw [Den] at h;obtain ⟨a,vs,rfl,h1,h2⟩:=h;cases r;obtain ⟨its,rv,⟨o,n,e1,e2,_,e3⟩,_⟩:=I.list h1;obtain ⟨as,q⟩:=readsL_of I h2 rv cl;rw [toPy];exact ⟨_,.list e1 e2 e3 q⟩
theorem readsL_of (I:Inv X pins B H s):∀ {ds:List D} {vs:List V} {us:List Value},DenL X.K H ds vs->Vals vs us->PyData.canLayAll0 (toPyL ds)=true->∃ as,ReadsAll s.heap us (toPyL ds) as
 | [],_,_,h,r,_=>by rw [DenL] at h;subst h;cases r;rw [toPyL];exact ⟨_,.nil⟩
 | d::ds,_,_,h,r,cl=>by
  rw [toPyL,PyData.canLayAll0,and_eq_true] at cl;rw [DenL] at h;obtain ⟨v,ws,rfl,h1,h2⟩:=h;cases r with
  | cons r1 r2 =>
   obtain ⟨a1,q1⟩:=zC0 I h1 r1 cl.1;obtain ⟨a2,q2⟩:=readsL_of I h2 r2 cl.2;rw [toPyL];exact ⟨_,.cons q1 q2⟩
end
end
def EqOk (x y:D):Prop:=(toPy x).canLay0=true/\(toPy y).canLay0=true/\(toPy x).depth<=64
noncomputable instance (x y:D):Decidable (EqOk x y):=by unfold EqOk;exact inferInstance
def eqb (x y:D):Bool:=PyData.eqv (toPy x) (toPy y)
def rEqD (K:W.Frag)(f:Bool->Bool):R2:=fun vx vy H Q=>∃ x y,Den K H x vx/\Den K H y vy/\EqOk x y/\Q (.bl (f (eqb x y))) H
section
variable {X:Cx}
theorem zRQ (hu:X.A.units+64 < cLine):OpR X (compareOp .Eq) (rEqD X.K id):=by
 intro pins s B H x y v u Q I rx ry h;obtain ⟨d,e,hd,he,⟨o1,o2,o3⟩,q⟩:=h;obtain ⟨as,r1⟩:=zC0 I hd rx o1;obtain ⟨bs,r2⟩:=zC0 I he ry o2;exact SeqAt.rcAt_reads r1 r2 o1 o2 (by omega) X.prog X.w _ _ ⟨.bl (eqb d e),H,I,rfl,q⟩
theorem zRJ (hu:X.A.units+64 < cLine):OpR X (compareOp .NotEq) (rEqD X.K (fun b=>!b)):=by
 intro pins s B H x y v u Q I rx ry h;obtain ⟨d,e,hd,he,⟨o1,o2,o3⟩,q⟩:=h;obtain ⟨as,r1⟩:=zC0 I hd rx o1;obtain ⟨bs,r2⟩:=zC0 I he ry o2;exact SeqAt.rcNeAt_reads r1 r2 o1 o2 (by omega) X.prog X.w _ _ ⟨.bl (!eqb d e),H,I,rfl,q⟩
def eqD (f:Bool->Bool)(x y:D):Option R:=if EqOk x y then some (.bl (f (eqb x y)),.cl) else none
theorem zNb {f:Bool->Bool}:OpD X.K (rEqD X.K f) (eqD f):=by
 intro S H x y z vx vy Q _ e rx ry c;unfold eqD at e;by_cases ok:EqOk x y
 .rw [if_pos ok] at e;cases e;exact ⟨x,y,rx.whole,ry.whole,ok,c _ H (Same.refl _) (.bl _)⟩
 .rw [if_neg ok] at e;cases e
def nonB:D->Bool
 | .non=>true
 | _=>false
def isN (f:Bool->Bool)(x y:D):Option R:=match y with
 | .non=>some (.bl (f (nonB x)),.cl)
 | _=>none
theorem zKy {K:W.Frag}{H:Hp}{x:D}{v:V}(h:Den K H x v):decide (v=.non)=nonB x:=by
 cases x with
 | non=>rw [Den] at h;subst h;rfl
 | bl b=>rw [Den] at h;subst h;rfl
 | int i=>rw [Den] at h;subst h;rfl
 | str i=>rw [Den] at h;subst h;rfl
 | tup ds=>rw [Den] at h;obtain ⟨a,vs,rfl,_⟩:=h;rfl
 | lst ds=>rw [Den] at h;obtain ⟨a,vs,rfl,_⟩:=h;rfl
 | exc c=>rw [Den] at h;obtain ⟨a,o,u,C,rfl,_⟩:=h;rfl
 | dct c=>rw [Den] at h;obtain ⟨a,kvs,rfl,_⟩:=h;rfl
 | lam _ _ _=>rw [Den] at h;obtain ⟨a,vs,rfl,_⟩:=h;rfl
theorem zOs:OpD X.K (fun x y H Q=>y=.non/\Q (.bl (decide (x=.non))) H) (isN id):=by
 intro S H x y z vx vy Q _ e rx ry c;cases y with
 | non =>
  have e':some (D.bl (nonB x),Kd.cl)=some z:=e;cases e';have q:=ry.whole;rw [Den] at q;exact ⟨q,by rw [zKy rx.whole];exact c _ H (Same.refl _) (.bl _)⟩
 | _=>cases e
theorem zLt:OpD X.K (fun x y H Q=>y=.non/\Q (.bl (!decide (x=.non))) H) (isN (fun b=>!b)):=by
 intro S H x y z vx vy Q _ e rx ry c;cases y with
 | non =>
  have e':some (D.bl (!(nonB x)),Kd.cl)=some z:=e;cases e';have q:=ry.whole;rw [Den] at q;exact ⟨q,by rw [zKy rx.whole];exact c _ H (Same.refl _) (.bl _)⟩
 | _=>cases e
theorem DenL.atI {K:W.Frag}{H:Hp}{ds:List D}{vs:List V}{i:Int}{d:D}(h:DenL K H ds vs)(e:atI ds i=some d):∃ v,L2.atI vs i=some v/\Den K H d v:=by
 unfold L2.atI at e ⊢;obtain ⟨j,e1,e2⟩:=bind_some e;obtain ⟨v,q1,q2⟩:=h.get e2;refine ⟨v,?_,q2⟩;rw [<- h.length,e1];exact q1
def ixD (x y:D):Option R:=match x,y with
 | .lst ds,.int i=>(atI ds i).map fun d=>(d,.cl)
 | .tup ds,.int i=>(atI ds i).map fun d=>(d,.cl)
 | _,_=>none
theorem zRF:OpD X.K (fun x y H Q=>rIxL X.K x y H Q\/rIxT X.K x y H Q) ixD:=by
 intro S H x y z vx vy Q _ e rx ry c;unfold ixD at e;split at e
 .rename_i ds i;obtain ⟨d,e1,rfl⟩:=map_eq_some_iff.mp e;obtain ⟨a,vs,rfl,h1,h2⟩:=rx.lst;obtain ⟨v,q1,q2⟩:=h2.atI e1;exact .inl ⟨a,vs,i,v,rfl,ry.int,h1,q1,c v H (Same.refl _) q2⟩
 .rename_i ds i;obtain ⟨d,e1,rfl⟩:=map_eq_some_iff.mp e;obtain ⟨a,vs,rfl,h1,h2⟩:=rx.tup;obtain ⟨v,q1,q2⟩:=h2.atI e1;exact .inr ⟨a,vs,i,v,rfl,ry.int,h1,q1,c v H (Same.refl _) q2⟩
 .cases e
theorem zTt {a b:Expr}{f g:Dst->Option R}{pos:Pos}(ha:GE X a f)(hb:GE X b g)(hs:zFV b):GE X (.Subscript a b pos) (two f g ixD) :=
 (zQ9 (zJ7.or zNm) ha hb hs).imp fun _ _ _ q=>zHZ zRF q
theorem zSN:GA X [] (fun _=>some []):=zBA.imp fun B H Q zz33=>by
 obtain ⟨S,G,z,ds,e,c⟩:=zz33;cases e;exact c [] H (Same.refl _) .nil
def zMt (f:Dst->Option R)(g:Dst->Option (List D)):Dst->Option (List D):=fun G=>(f G).bind fun x=>if x.2=.dt then none else (g G).bind fun xs=>some (x.1::xs)
theorem zPs {e:Expr}{es:List Expr}{f:Dst->Option R}{g:Dst->Option (List D)}(ha:GE X e f)(hr:GA X es g)(hs:starEach (e::es) X.env=(false,eval e X.env)::starEach es X.env):GA X (e::es) (zMt f g):=by
 refine (zAc ha hr hs).imp fun B H Q zz34=>?_
 obtain ⟨S,G,z,ds,e,c⟩:=zz34;obtain ⟨x,ex,e⟩:=bind_some e;by_cases hx:x.2=.dt
 .rw [if_pos hx] at e;cases e
 rw [if_neg hx] at e;obtain ⟨xs,exs,e⟩:=bind_some e;cases e;refine ⟨S,G,x,ds,ex,fun v H1 s1 r1=>⟨S,G,xs,ds.mono s1,exs,fun vs H2 s2 r2=>?_⟩⟩;exact c _ H2 (s1.trans s2) (.cons ((RV.den (d:=x.1) (k:=x.2) r1 hx).mono (zAQ s2)) r2)
def tupD (g:Dst->Option (List D)):Dst->Option R:=fun G=>(g G).bind fun xs=>if xs.length<=10000 then some (.tup xs,.cl) else none
def lstD (g:Dst->Option (List D)):Dst->Option R:=fun G=>(g G).bind fun xs=>if xs.length<=10000 then some (.lst xs,.fr) else none
theorem zCf {n:Nat}(h:n<=10000):n<=sizeLine:=le_trans h (by decide)
theorem notS {H:Hp}{S:List Addr}{p:Addr}(h:∀ a∈S,∃ xs:HO,H a=some xs/\MuB xs)(n:H p=none):p∉S:=fun z=>by
 obtain ⟨xs,q,_⟩:=h p z;rw [n] at q;cases q
theorem RV.tupNew {K:W.Frag}{H H1:Hp}{S:List Addr}{ds:List D}{vs:List V}{p:Addr}(hS:∀ a∈S,∃ xs:HO,H1 a=some xs/\MuB xs)(n:H1 p=none)(t:DenL K (hide H1 S) ds vs):RV K H (upd H1 p (.tup vs)) S (.tup ds,.cl) (.ref p):=by
 show Den _ _ _ _;rw [Den];exact ⟨p,vs,rfl,SqT.of (by rw [zAN (notS hS n)];exact zAh),t.mono (zAQ (zAk n _))⟩
theorem RV.lstNew {K:W.Frag}{H H1:Hp}{S:List Addr}{ds:List D}{vs:List V}{p:Addr}(e:Same H H1)(hS:∀ a∈S,∃ xs:HO,H1 a=some xs/\MuB xs)(n:H1 p=none)(t:DenL K (hide H1 S) ds vs):RV K H (upd H1 p (.lst vs)) S (.lst ds,.fr) (.ref p) :=
 ⟨p,vs,ds,rfl,rfl,notS hS n,e.free n,zAh,t.mono (zDj (zAk n _) n)⟩
theorem zSA {es:List Expr}{g:Dst->Option (List D)}{x1}{pos:Pos}(h:GA X es g):GE X (.Tuple es x1 pos) (tupD g):=by
 refine (zQ4 h).imp fun B H Q zz35=>?_
 obtain ⟨S,G,z,ds,e,c⟩:=zz35;obtain ⟨xs,exs,e⟩:=bind_some e;by_cases hx:xs.length<=10000
 .rw [if_pos hx] at e;cases e;refine ⟨S,G,xs,ds,exs,fun vs H1 s1 r1=>⟨by rw [<- r1.length];exact zCf hx,fun p n=>?_⟩⟩;exact c _ _ (s1.trans (zAk n _)) (.tupNew (ds.mono s1).sok n r1)
 .rw [if_neg hx] at e;cases e
theorem zSF {es:List Expr}{g:Dst->Option (List D)}{pos:Pos}(h:GA X es g):GE X (.List es pos) (lstD g):=by
 refine (zNa h).imp fun B H Q zz36=>?_
 obtain ⟨S,G,z,ds,e,c⟩:=zz36;obtain ⟨xs,exs,e⟩:=bind_some e;by_cases hx:xs.length<=10000
 .rw [if_pos hx] at e;cases e;refine ⟨S,G,xs,ds,exs,fun vs H1 s1 r1=>⟨by rw [<- r1.length];exact zCf hx,fun p n=>?_⟩⟩;exact c _ _ (s1.trans (zAk n _)) (.lstNew s1 (ds.mono s1).sok n r1)
 .rw [if_neg hx] at e;cases e
end
section
variable {X:Cx}
def notD (f:Dst->Option R):Dst->Option R:=fun G=>(asB f G).bind fun b=>some (.bl (!b),.cl)
theorem zGp {f:Dst->Option R}{B:St}{H:Hp}{S:List Addr}{G:Dst}{b:Bool}{Q:VK}(ds:DS X.K H S B G)(e:asB f G=some b)(c:∀ H',Same H H'->Q (.bl b) H'):gT X.K f B H Q:=by
 obtain ⟨k,e⟩:=zB7 e;exact ⟨S,G,_,ds,e,fun v H' s1 r1=>by rw [r1.rd.bl];exact c H' s1⟩
theorem zSC {a:Expr}{f:Dst->Option R}{pos:Pos}(h:GE X a f):GE X (.UnaryOp .Not a pos) (notD f):=by
 refine (zQ7 h).imp fun B H Q zz37=>?_
 obtain ⟨S,G,z,ds,e,c⟩:=zz37;obtain ⟨b,eb,e⟩:=bind_some e;cases e;exact zGp ds eb fun H' s1=>⟨b,rfl,c _ H' s1 (.bl _)⟩
theorem zQQ {f:Dst->Option R}{G:Dst}{b:Bool}(h:asB (notD f) G=some b):asB f G=some (!b):=by
 obtain ⟨k,e⟩:=zB7 h;obtain ⟨c,ec,e⟩:=bind_some e;cases e;rw [ec,Bool.not_not]
theorem zRu {a:Expr}{f:Dst->Option R}{pos:Pos}(h:GT X a (asB f)):GT X (.UnaryOp .Not a pos) (asB (notD f)) :=
 (zNV h).imp fun B H Q zy117=>by obtain ⟨S,G,b,ds,e,c⟩:=zy117;exact ⟨S,G,!b,ds,zQQ e,fun H' s1=>by show Q (!!b) H';rw [Bool.not_not];exact c H' s1⟩
def andD (f g:Dst->Option R):Dst->Option R:=fun G=>(asB f G).bind fun b=>if b=true then g G else some (.bl false,.cl)
def orD (f g:Dst->Option R):Dst->Option R:=fun G=>(asB f G).bind fun b=>if b=true then some (.bl true,.cl) else g G
theorem zSL {a b:Expr}{rest:List Expr}{f g:Dst->Option R}{pos:Pos}(ha:GE X a f)(hb:GE X (.BoolOp .And (b::rest) pos) g):GE X (.BoolOp .And (a::b::rest) pos) (andD f g):=by
 refine (zRB ha hb).imp fun B H Q zz38=>?_
 obtain ⟨S,G,z,ds,e,c⟩:=zz38;obtain ⟨b,eb,e⟩:=bind_some e;refine zGp ds eb fun H1 s1=>⟨b,rfl,?_⟩
 cases b with
 | true =>
  rw [if_pos rfl] at e ⊢;exact ⟨S,G,z,ds.mono s1,e,fun v H' s2 r2=>c v H' (s1.trans s2) (r2.from s1)⟩
 | false =>
  rw [if_neg Bool.false_ne_true] at e ⊢;cases e;exact c _ H1 s1 (.bl _)
theorem zTs {a b:Expr}{rest:List Expr}{f g:Dst->Option R}{pos:Pos}(ha:GE X a f)(hb:GE X (.BoolOp .Or (b::rest) pos) g):GE X (.BoolOp .Or (a::b::rest) pos) (orD f g):=by
 refine (zTM ha hb).imp fun B H Q zz39=>?_
 obtain ⟨S,G,z,ds,e,c⟩:=zz39;obtain ⟨b,eb,e⟩:=bind_some e;refine zGp ds eb fun H1 s1=>⟨b,rfl,?_⟩
 cases b with
 | true =>
  rw [if_pos rfl] at e ⊢;cases e;exact c _ H1 s1 (.bl _)
 | false =>
  rw [if_neg Bool.false_ne_true] at e ⊢;exact ⟨S,G,z,ds.mono s1,e,fun v H' s2 r2=>c v H' (s1.trans s2) (r2.from s1)⟩
theorem zNs {op}{a:Expr}{f:Dst->Option R}{pos:Pos}(h:GE X a f):GE X (.BoolOp op [a] pos) f:=zQ6 h
def GW (X:Cx)(e:Expr)(f:Dst->Option Bool):Prop:=PW X e (gB X.K f)
theorem _root_.L2.PW.imp {e:Expr}{t t':TT}(h:PW X e t)(i:∀ B H Q,t' B H Q->t B H Q):PW X e t':=fun whole pins s B H Q I q=>h whole pins s B H Q I (i B H Q q)
theorem zIa {a:Expr}{f:Dst->Option Bool}{pos:Pos}(h:GT X a f):GW X (.BoolOp .And [a] pos) f:=zJH h
theorem zKH {a:Expr}{f:Dst->Option Bool}{pos:Pos}(h:GT X a f):GW X (.BoolOp .Or [a] pos) f:=zNS h
theorem zQR {f g:Dst->Option R}{G:Dst}{b:Bool}(h:asB (andD f g) G=some b):(asB f G=some true/\asB g G=some b)\/(asB f G=some false/\b=false):=by
 obtain ⟨k,e⟩:=zB7 h;obtain ⟨c,ec,e⟩:=bind_some e;cases c with
 | true =>
  rw [if_pos rfl] at e;exact .inl ⟨ec,by unfold asB;rw [e]⟩
 | false =>
  rw [if_neg Bool.false_ne_true] at e;cases e;exact .inr ⟨ec,rfl⟩
theorem zSz {f g:Dst->Option R}{G:Dst}{b:Bool}(h:asB (orD f g) G=some b):(asB f G=some false/\asB g G=some b)\/(asB f G=some true/\b=true):=by
 obtain ⟨k,e⟩:=zB7 h;obtain ⟨c,ec,e⟩:=bind_some e;cases c with
 | true =>
  rw [if_pos rfl] at e;cases e;exact .inr ⟨ec,rfl⟩
 | false =>
  rw [if_neg Bool.false_ne_true] at e;exact .inl ⟨ec,by unfold asB;rw [e]⟩
theorem zRr {a b:Expr}{rest:List Expr}{f g:Dst->Option R}{pos:Pos}(ha:GT X a (asB f))(hb:GW X (.BoolOp .And (b::rest) pos) (asB g)):GW X (.BoolOp .And (a::b::rest) pos) (asB (andD f g)):=by
 refine PW.imp (zNT ha hb) fun B H Q zz40=>?_
 obtain ⟨S,G,b,ds,e,c⟩:=zz40;rcases zQR e with ⟨e1,e2⟩ | ⟨e1,rfl⟩
 .refine ⟨S,G,true,ds,e1,fun H1 s1=>?_⟩;refine iteT ?_;exact ⟨S,G,b,ds.mono s1,e2,fun H' s2=>c H' (s1.trans s2)⟩
 .refine ⟨S,G,false,ds,e1,fun H1 s1=>?_⟩;refine iteF ?_;exact c H1 s1
theorem zTn {a b:Expr}{rest:List Expr}{f g:Dst->Option R}{pos:Pos}(ha:GT X a (asB f))(hb:GW X (.BoolOp .Or (b::rest) pos) (asB g)):GW X (.BoolOp .Or (a::b::rest) pos) (asB (orD f g)):=by
 refine PW.imp (zQx ha hb) fun B H Q zz41=>?_
 obtain ⟨S,G,b,ds,e,c⟩:=zz41;rcases zSz e with ⟨e1,e2⟩ | ⟨e1,rfl⟩
 .refine ⟨S,G,false,ds,e1,fun H1 s1=>?_⟩;refine iteF ?_;exact ⟨S,G,b,ds.mono s1,e2,fun H' s2=>c H' (s1.trans s2)⟩
 .refine ⟨S,G,true,ds,e1,fun H1 s1=>?_⟩;refine iteT ?_;exact c H1 s1
def iteD (c f g:Dst->Option R):Dst->Option R:=fun G=>(asB c G).bind fun b=>if b=true then f G else g G
theorem zSG {c a b:Expr}{k f g:Dst->Option R}{pos:Pos}(hc:GT X c (asB k))(ha:GE X a f)(hb:GE X b g):GE X (.IfExp c a b pos) (iteD k f g):=by
 refine (zLp hc ha hb).imp fun B H Q zz42=>?_
 obtain ⟨S,G,z,ds,e,c⟩:=zz42;obtain ⟨b,eb,e⟩:=bind_some e;refine ⟨S,G,b,ds,eb,fun H1 s1=>?_⟩;cases b with
 | true =>
  rw [if_pos rfl] at e ⊢;exact ⟨S,G,z,ds.mono s1,e,fun v H' s2 r2=>c v H' (s1.trans s2) (r2.from s1)⟩
 | false =>
  rw [if_neg Bool.false_ne_true] at e ⊢;exact ⟨S,G,z,ds.mono s1,e,fun v H' s2 r2=>c v H' (s1.trans s2) (r2.from s1)⟩
theorem zRv {c a b:Expr}{k f g:Dst->Option R}{pos:Pos}(hc:GT X c (asB k))(ha:GT X a (asB f))(hb:GT X b (asB g)):GT X (.IfExp c a b pos) (asB (iteD k f g)):=by
 intro pins s B H Q I ⟨S,G,z,ds,e,cc⟩;obtain ⟨kk,e⟩:=zB7 e;obtain ⟨b,eb,e⟩:=bind_some e;refine isTrue_IfExp (thn (hc pins s B H (fun b' H1=>b'=b/\Same H H1) I ⟨S,G,b,ds,eb,fun H1 s1=>⟨rfl,s1⟩⟩) fun d s1 zz43=>?_);obtain ⟨H1,I1,q1,w1⟩:=zz43;subst q1;cases d with
 | true =>
  rw [if_pos rfl] at e;exact ha pins s1 B H1 Q I1 ⟨S,G,z,ds.mono w1,by unfold asB;rw [e],fun H' s2=>cc H' (w1.trans s2)⟩
 | false =>
  rw [if_neg Bool.false_ne_true] at e;exact hb pins s1 B H1 Q I1 ⟨S,G,z,ds.mono w1,by unfold asB;rw [e],fun H' s2=>cc H' (w1.trans s2)⟩
def negD (f:Dst->Option R):Dst->Option R:=fun G=>match f G with
 | some (.int i,_)=>some (.int (-i),.cl)
 | _=>none
theorem zSE {a:Expr}{f:Dst->Option R}{pos:Pos}(h:GE X a f):GE X (.UnaryOp .USub a pos) (negD f):=by
 refine (zTL zQb h).imp fun B H Q zz44=>?_
 obtain ⟨S,G,z,ds,e,c⟩:=zz44;unfold negD at e;split at e
 .rename_i i k ei;cases e;exact ⟨S,G,_,ds,ei,fun v H' s1 r1=>⟨i,r1.rd.int,c _ H' s1 (.int _)⟩⟩
 .cases e
def cutD (ds:List D)(lo hi:Option Int):List D:=(ds.drop (HT.sIx ds.length 0 lo)).take (HT.sIx ds.length ds.length hi - HT.sIx ds.length 0 lo)
theorem DenL.cut {K:W.Frag}{H:Hp}{ds:List D}{vs:List V}(h:DenL K H ds vs)(lo hi:Option Int):DenL K H (cutD ds lo hi) (cutV vs lo hi):=by
 unfold cutD cutV;rw [<- h.length];exact (h.drop _).take _
def gO (K:W.Frag)(f:Dst->Option (Option Int)):TO:=fun B H Q=>∃ S G o,DS K H S B G/\f G=some o/\∀ H',Same H H'->Q o H'
def GO (X:Cx)(e:Option Expr)(f:Dst->Option (Option Int)):Prop:=PO X e (gO X.K f)
theorem _root_.L2.PO.imp {e:Option Expr}{t t':TO}(h:PO X e t)(i:∀ B H Q,t' B H Q->t B H Q):PO X e t':=fun pins s B H Q I q=>h pins s B H Q I (i B H Q q)
theorem zPe:GO X none (fun _=>some none):=PO.imp zOi fun B H Q zy118=>by obtain ⟨S,G,o,ds,e,c⟩:=zy118;cases e;exact c H (Same.refl _)
def zJU (f:Dst->Option R):Dst->Option (Option Int):=fun G=>match f G with
 | some (.int i,_)=>some (some i)
 | _=>none
theorem zPd {e:Expr}{f:Dst->Option R}(h:GE X e f):GO X (some e) (zJU f):=PO.imp (zOh h) fun B H Q zz45=>by
 obtain ⟨S,G,o,ds,e,c⟩:=zz45;unfold zJU at e;split at e
 .rename_i i k ei;cases e;exact ⟨S,G,_,ds,ei,fun v H' s1 r1=>⟨i,r1.rd.int,c H' s1⟩⟩
 .cases e
def slD (f:Dst->Option R)(l h:Dst->Option (Option Int)):Dst->Option R:=fun G=>(f G).bind fun x=>(l G).bind fun lo=>(h G).bind fun hi=>match x.1 with
 | .lst ds=>some (.lst (cutD ds lo hi),.fr)
 | .tup ds=>if HT.sIx ds.length 0 lo=0/\HT.sIx ds.length ds.length hi=ds.length then none else some (.tup (cutD ds lo hi),.cl)
 | _=>none
theorem zTr {a:Expr}{lo hi:Option Expr}{f:Dst->Option R}{l h:Dst->Option (Option Int)}{p2 pos:Pos}(ha:GE X a f)(hl:GO X lo l)(hh:GO X hi h):GE X (.Subscript a (.Slice lo hi none p2) pos) (slD f l h):=by
 refine (zLo (zOS.or zQq) ha hl hh).imp fun B H Q zz46=>?_
 obtain ⟨S,G,z,ds,e,c⟩:=zz46;obtain ⟨x,ex,e⟩:=bind_some e;obtain ⟨lo',el,e⟩:=bind_some e;obtain ⟨hi',eh,e⟩:=bind_some e;split at e
 .rename_i es ex2;cases e;refine ⟨S,G,x,ds,ex,fun vx H1 s1 r1=>⟨S,G,lo',ds.mono s1,el,fun H2 s2=>⟨S,G,hi',ds.mono (s1.trans s2),eh,fun H3 s3=>?_⟩⟩⟩;have r3:=r1.rd.mono (s2.trans s3);rw [ex2] at r3;obtain ⟨a,vs,rfl,h1,h2⟩:=r3.lst;have s13:=s1.trans (s2.trans s3);exact .inl ⟨a,vs,rfl,h1,fun p n=>c _ _ (s13.trans (zAk n _)) (.lstNew s13 (ds.mono s13).sok n (h2.cut lo' hi'))⟩
 .rename_i es ex2;split at e
  .cases e
  .rename_i nw;cases e;refine ⟨S,G,x,ds,ex,fun vx H1 s1 r1=>⟨S,G,lo',ds.mono s1,el,fun H2 s2=>⟨S,G,hi',ds.mono (s1.trans s2),eh,fun H3 s3=>?_⟩⟩⟩;have r3:=r1.rd.mono (s2.trans s3);rw [ex2] at r3;obtain ⟨a,vs,rfl,h1,h2⟩:=r3.tup;have s13:=s1.trans (s2.trans s3);exact .inr ⟨a,vs,rfl,h1,by rw [<- h2.length];exact nw,fun p n=>c _ _ (s13.trans (zAk n _)) (.tupNew (ds.mono s13).sok n (h2.cut lo' hi'))⟩
 .cases e
def OpD1 (K:W.Frag)(r:List V->Hp->VK->Prop)(o:D->Option R):Prop :=
 ∀ (S:List Addr) (H:Hp) (x:D) (z:R) (vx:V) (Q:VK),(∀ a∈S,∃ xs:HO,H a=some xs/\MuB xs)->o x=some z->Rdv K H S x vx->(∀ v H',Same H H'->RV K H H' S z v->Q v H')->r [vx] H Q
def one (f:Dst->Option R)(o:D->Option R):Dst->Option R:=fun G=>(f G).bind fun x=>o x.1
theorem zNc {r:List V->Hp->VK->Prop}{o:D->Option R}{f:Dst->Option R}(h:OpD1 X.K r o){B:St}{H:Hp}{Q:VK}(q:gT X.K (one f o) B H Q):tCB r (zQi (gT X.K f) tNil) B H Q:=by
 obtain ⟨S,G,z,ds,e,c⟩:=q;obtain ⟨x,ex,e⟩:=bind_some e;exact ⟨S,G,x,ds,ex,fun vx H1 s1 r1=>h S H1 x.1 z vx Q (ds.mono s1).sok e r1.rd fun v H' s2 r2=>c v H' (s1.trans s2) (r2.from s1)⟩
theorem zSK {x:Str}{id:String}{p pos:Pos}{e:Expr}{f:Dst->Option R}{r:List V->Hp->VK->Prop}{o:D->Option R}(hc:zEQ X (.builtin id) r)(h:OpD1 X.K r o)(hg:Gl X x)(hm:X.mg x=none)(hv:bootBuiltins x=some (.builtin id))(ha:GE X e f)
  (he:starEach [e] X.env=[(false,eval e X.env)]) (hn:x ≠ "__name__") (hdb:(x==("__debug__":Str))=false):GE X (.Call (.Name x p) [e] [] pos) (one f o) :=
 (zE4 hc hg hm hv (zAc ha zBA he) hn hdb he rfl).imp fun _ _ _ q=>zNc h q
theorem zTq {x:Str}{T:String}{p pos:Pos}{e:Expr}{f:Dst->Option R}{r:List V->Hp->VK->Prop}{o:D->Option R}(hc:zEQ X (.type T) r)(h:OpD1 X.K r o)(hg:Gl X x)(hm:X.mg x=none)(hv:bootBuiltins x=some (.type T))(ha:GE X e f)
  (he:starEach [e] X.env=[(false,eval e X.env)]) (hn:x ≠ "__name__") (hdb:(x==("__debug__":Str))=false):GE X (.Call (.Name x p) [e] [] pos) (one f o) :=
 (zJP hc hg hm hv (zAc ha zBA he) hn hdb he rfl).imp fun _ _ _ q=>zNc h q
def lenD:D->Option R
 | .lst ds=>some (.int ds.length,.cl)
 | .tup ds=>some (.int ds.length,.cl)
 | _=>none
theorem zOr:OpD1 X.K (fun xs H Q=>∃ p ys,xs=[.ref p]/\(SqL X.K H p ys\/SqT X.K H p ys)/\Q (.int ys.length) H) lenD:=by
 intro S H x z vx Q _ e rx c;unfold lenD at e;split at e
 .cases e;obtain ⟨a,vs,rfl,h1,h2⟩:=rx.lst;exact ⟨a,vs,rfl,.inl h1,by rw [<- h2.length];exact c _ H (Same.refl _) (.int _)⟩
 .cases e;obtain ⟨a,vs,rfl,h1,h2⟩:=rx.tup;exact ⟨a,vs,rfl,.inr h1,by rw [<- h2.length];exact c _ H (Same.refl _) (.int _)⟩
 .cases e
def absD:D->Option R
 | .int i=>some (.int (if i < 0 then -i else i),.cl)
 | _=>none
theorem zOu:OpD1 X.K (fun xs H Q=>∃ i,xs=[.int i]/\Q (.int (if i < 0 then -i else i)) H) absD:=by
 intro S H x z vx Q _ e rx c;unfold absD at e;split at e
 .cases e;rename_i i;have:=rx.int;subst this;exact ⟨i,rfl,c _ H (Same.refl _) (.int _)⟩
 .cases e
def zIY:D->Option R
 | .lst ds=>some (.lst ds,.fr)
 | .tup ds=>some (.lst ds,.fr)
 | _=>none
theorem zLs:OpD1 X.K (fun xs H Q=>∃ p ys,xs=[.ref p]/\(SqL X.K H p ys\/SqT X.K H p ys)/\∀ l,H l=none->Q (.ref l) (upd H l (.lst ys))) zIY:=by
 intro S H x z vx Q sok e rx c;unfold zIY at e;split at e
 .cases e;obtain ⟨a,vs,rfl,h1,h2⟩:=rx.lst;exact ⟨a,vs,rfl,.inl h1,fun p n=>c _ _ (zAk n _) (.lstNew (Same.refl _) sok n h2)⟩
 .cases e;obtain ⟨a,vs,rfl,h1,h2⟩:=rx.tup;exact ⟨a,vs,rfl,.inr h1,fun p n=>c _ _ (zAk n _) (.lstNew (Same.refl _) sok n h2)⟩
 .cases e
theorem zTx {x:Str}{id:String}{p pos:Pos}{e1 e2:Expr}{f g:Dst->Option R}{k:Int->Int->Int}{o:D->D->Option R}(hc:zEQ X (.builtin id) (fun xs H Q=>∃ i j,xs=[.int i,.int j]/\Q (.int (k i j)) H))
  (h:∀ x y z,o x y=some z->∃ i j,x=.int i/\y=.int j/\z=(.int (k i j),.cl)) (hg:Gl X x) (hm:X.mg x=none) (hv:bootBuiltins x=some (.builtin id)) (ha:GE X e1 f) (hb:GE X e2 g)
  (he:starEach [e1,e2] X.env=(false,eval e1 X.env)::starEach [e2] X.env) (he2:starEach [e2] X.env=[(false,eval e2 X.env)]) (hn:x ≠ "__name__") (hdb:(x==("__debug__":Str))=false):GE X (.Call (.Name x p) [e1,e2] [] pos) (two f g o):=by
 refine (zE4 hc hg hm hv (zAc ha (zAc hb zBA he2) he) hn hdb he (by rw [he2];rfl)).imp fun B H Q zz47=>?_
 obtain ⟨S,G,z,ds,e,c⟩:=zz47;obtain ⟨x,ex,e⟩:=bind_some e;obtain ⟨y,ey,e⟩:=bind_some e;obtain ⟨i,j,hx,hy,rfl⟩:=h _ _ _ e;refine ⟨S,G,x,ds,ex,fun vx H1 s1 r1=>⟨S,G,y,ds.mono s1,ey,fun vy H2 s2 r2=>⟨i,j,?_,c _ H2 (s1.trans s2) (.int _)⟩⟩⟩;have q1:=r1.rd;have q2:=r2.rd;rw [hx] at q1;rw [hy] at q2;rw [q1.int,q2.int]
def maxD (x y:D):Option R:=match x,y with
 | .int i,.int j=>some (.int (if j>i then j else i),.cl)
 | _,_=>none
def minD (x y:D):Option R:=match x,y with
 | .int i,.int j=>some (.int (if j < i then j else i),.cl)
 | _,_=>none
inductive Ty where
 | int | bool | str | tuple | list
 deriving DecidableEq
def Ty.nm:Ty->String
 | .int => "int" | .bool => "bool" | .str => "str" | .tuple => "tuple" | .list => "list"
def isiD (t:Ty):D->Bool
 | .non=>false
 | .bl _=>t=.bool||t=.int
 | .int _=>t=.int
 | .str _=>t=.str
 | .tup _=>t=.tuple
 | .lst _=>t=.list
 | .exc _=>false
 | .dct _=>false
 | .lam _ _ _=>false
def excB:D->Bool
 | .exc _=>true
 | .dct _=>true
 | .lam _ _ _=>true
 | _=>false
def tyD:D->String
 | .non => "NoneType" | .bl _ => "bool" | .int _ => "int" | .str _ => "str" | .tup _ => "tuple" | .lst _ => "list" | .exc _ => "" | .dct _ => "" | .lam _ _ _ => ""
theorem zRh (K:W.Frag)(d:D)(t:Ty)(hd:excB d=false):W.kitOne K (.type (tyD d)) (.type t.nm)=some (isiD t d):=by
 cases d<;>cases t<;>(first | rfl | decide +kernel | cases hd)
theorem zMw (t:Ty):zEQ X (.builtin "isinstance") (fun xs H Q=>∃ v d,xs=[v,.ty t.nm]/\Den X.K H d v/\excB d=false/\Q (.bl (isiD t d)) H):=by
 intro pins s B H xs us Q I r h;obtain ⟨v,d,rfl,hd,hx,q⟩:=h;obtain ⟨u,w',rfl,r1,r2⟩:=zOI r;cases r2;have k:=zRh X.K d t hx;have fin:∀ tk,EP X pins B Q (.bool (isiD t d)) { s with toks:=tk }:=fun tk=>⟨.bl (isiD t d),H,I.tok tk,rfl,q⟩
 cases d with
 | exc c=>cases hx
 | dct c=>cases hx
 | lam _ _ _=>cases hx
 | non=>rw [Den] at hd;subst hd;cases r1;exact W.kia_one W.kitx_none I.kIn True.intro k (fun z=>nomatch z) fin
 | bl b=>rw [Den] at hd;subst hd;cases r1;exact W.kia_one W.kitx_bool I.kIn True.intro k (fun z=>nomatch z) fin
 | int i=>rw [Den] at hd;subst hd;obtain ⟨tt,rfl⟩:=r1;exact W.kia_one W.kitx_int I.kIn True.intro k (fun z=>nomatch z) fin
 | str i=>rw [Den] at hd;subst hd;obtain ⟨tt,rfl⟩:=r1;exact W.kia_one W.kitx_str I.kIn True.intro k (fun z=>nomatch z) fin
 | tup ds =>
  rw [Den] at hd;obtain ⟨a,vs,rfl,h1,h2⟩:=hd;cases r1;obtain ⟨its,rv,⟨o,e1,e2,n,e3⟩,_⟩:=I.tuple h1;exact W.kia_one W.kitx_tuple I.kIn ⟨o,e1,e2⟩ k (fun z=>nomatch z) fin
 | lst ds =>
  rw [Den] at hd;obtain ⟨a,vs,rfl,h1,h2⟩:=hd;cases r1;obtain ⟨its,rv,⟨o,n,e1,e2,_,e3⟩,_⟩:=I.list h1;exact W.kia_one W.kitx_list I.kIn ⟨o,e1,e2⟩ k (fun z=>nomatch z) fin
def isiF (t:Ty)(x:D):Option R:=if excB x=true then none else some (.bl (isiD t x),.cl)
theorem zQP (t:Ty):bootBuiltins (Str.ofString t.nm)=some (.type t.nm):=by cases t<;>decide +kernel
theorem zRU (t:Ty):(Str.ofString t.nm)≠("__name__":Str)/\((Str.ofString t.nm)==("__debug__":Str))=false:=by cases t<;>decide +kernel
theorem zSH {t:Ty}{p p2 pos:Pos}{e:Expr}{f:Dst->Option R}(hg:Gl X "isinstance")(hm:X.mg "isinstance"=none)(hg2:Gl X (Str.ofString t.nm))(hm2:X.mg (Str.ofString t.nm)=none)(ha:GE X e f)
  (he:starEach [e,.Name (Str.ofString t.nm) p2] X.env=(false,eval e X.env)::starEach [.Name (Str.ofString t.nm) p2] X.env):GE X (.Call (.Name "isinstance" p) [e,.Name (Str.ofString t.nm) p2] [] pos) (one f (isiF t)):=by
 refine (zE4 (zMw t) hg hm boot_isinstance (zAc ha (zAc (zOo hg2 hm2 (zQP t) (v:=.ty t.nm) rfl (zRU t).1 (zRU t).2) zBA rfl) he) (by decide) (by decide) he rfl).imp fun B H Q zz48=>?_
 obtain ⟨S,G,z,ds,e,c⟩:=zz48;obtain ⟨x,ex,e⟩:=bind_some e;unfold isiF at e;by_cases hx:excB x.1=true
 .rw [if_pos hx] at e;cases e
 .rw [if_neg hx] at e;cases e;exact ⟨S,G,x,ds,ex,fun vx H1 s1 r1=>⟨vx,x.1,rfl,r1.rd.whole,by simpa using hx,c _ H1 s1 (.bl _)⟩⟩
def spD (K:W.Frag)(F:List D->Option R):Sp:=fun vs H Q _=>∃ S ds r,(∀ a∈S,∃ xs:HO,H a=some xs/\MuB xs)/\DenL K (hide H S) ds vs/\F ds=some r/\r.2≠.dt/\∀ v H',Same H H'->RV K H H' S r v->Q v H'
def spD0 (K:W.Frag)(F:List D->Option R):Sp:=fun vs H Q _=>∃ ds r,DenL K H ds vs/\F ds=some r/\r.2≠.dt/\∀ v H',Same H H'->RV K H H' [] r v->Q v H'
def zG3 (F:List D->Option R)(g:Dst->Option (List D)):Dst->Option R:=fun G=>(g G).bind fun ds=>(F ds).bind fun r=>if r.2=.dt then none else some r
theorem zH3 {F:List D->Option R}{g:Dst->Option (List D)}{B:St}{H:Hp}{Q:VK}(q:gT X.K (zG3 F g) B H Q):zLZ (spD X.K F) [] E0 (gA X.K g) B H Q:=by
 obtain ⟨S,G,z,ds,e,c⟩:=q;obtain ⟨xs,ex,e⟩:=bind_some e;obtain ⟨r,er,e⟩:=bind_some e;by_cases hr:r.2=.dt
 .rw [if_pos hr] at e;cases e
 rw [if_neg hr] at e;cases e;refine ⟨S,G,xs,ds,ex,fun vs H1 s1 r1=>?_⟩;show spD X.K F (vs++[]) H1 Q E0;rw [append_nil];exact ⟨S,xs,_,(ds.mono s1).sok,r1,er,hr,fun v H' s2 r2=>c v H' (s1.trans s2) (r2.from s1)⟩
theorem zPk {k:Nat}{f:Addr}{fd:FuncData}{ps:List Str}{F:List D->Option R}{x:Str}{p pos:Pos}{e:Expr}{es:List Expr}{g:Dst->Option (List D)}(FO:FnOk X.prog X.w X.K X.mg X.base CX0 k f fd ps (spD X.K F))(hr:Room k X.A)(hg:Gl X x)(hm:X.mg x=some (.ref f))
  (hk:W.keepIn X.K (.ref f)=true) (hb:zCD X.K fd ps []) (ha:GA X (e::es) g) (hdb:(x==("__debug__":Str))=false) (he:starEach (e::es) X.env=(false,eval e X.env)::starEach es X.env) (hpl:∀ pos,(backTo pos (starEach es X.env)).any (·.1)=false) :
  GE X (.Call (.Name x p) (e::es) [] pos) (zG3 F g) :=
 (zJQ FO hr hg hm hk hb .nil zOp ha hdb he (hpl pos)).imp fun _ _ _ q=>zH3 q
theorem zMT {k:Nat}{f:Addr}{fd:FuncData}{ps:List Str}{F:List D->Option R}{x:Str}{p pos:Pos}(FO:FnOk X.prog X.w X.K X.mg X.base CX0 k f fd ps (spD X.K F))(hr:Room k X.A)(hg:Gl X x)(hm:X.mg x=some (.ref f))
  (hk:W.keepIn X.K (.ref f)=true) (hb:zCD X.K fd ps []) (hdb:(x==("__debug__":Str))=false):GE X (.Call (.Name x p) [] [] pos) (zG3 F fun _=>some []):=by
 refine (zLr FO hr hg hm hk hb .nil zOp hdb).imp fun B H Q q=>?_
 obtain ⟨S,G,z,ds,e,c⟩:=zH3 q;cases e;exact c [] H (Same.refl _) .nil
def gAL (K:W.Frag)(f:Dst->Option (List D)):TA:=fun B H Q=>∃ S G ds,DS K H S B G/\f G=some ds/\∀ vs H',Same H H'->DenL K H' ds vs->Q vs H'
def GAL (X:Cx)(es:List Expr)(f:Dst->Option (List D)):Prop:=PA X es (gAL X.K f)
theorem zPr:GAL X [] (fun _=>some []):=zBA.imp fun B H Q zz49=>by
 obtain ⟨S,G,z,ds,e,c⟩:=zz49;cases e;exact c [] H (Same.refl _) .nil
def zSq (f:Dst->Option R)(g:Dst->Option (List D)):Dst->Option (List D):=fun G=>(f G).bind fun x=>(g G).bind fun xs=>some (x.1::xs)
theorem zMW {e:Expr}{es:List Expr}{f:Dst->Option R}{g:Dst->Option (List D)}(ha:GE X e f)(hr:GAL X es g)(hs:starEach (e::es) X.env=(false,eval e X.env)::starEach es X.env):GAL X (e::es) (zSq f g):=by
 refine (zAc ha hr hs).imp fun B H Q zz50=>?_
 obtain ⟨S,G,z,ds,e,c⟩:=zz50;obtain ⟨x,ex,e⟩:=bind_some e;obtain ⟨xs,exs,e⟩:=bind_some e;cases e;refine ⟨S,G,x,ds,ex,fun v H1 s1 r1=>⟨S,G,xs,ds.mono s1,exs,fun vs H2 s2 r2=>?_⟩⟩;exact c _ H2 (s1.trans s2) (.cons (r1.rd.whole.mono s2) r2)
def zT0:R->Bool
 | (.non,.cl)=>true
 | (.bl _,.cl)=>true
 | (.int _,.cl)=>true
 | (.str _,.cl)=>true
 | _=>false
def zTc (F:List D->Option R)(g:Dst->Option (List D)):Dst->Option R:=fun G=>(g G).bind fun ds=>(F ds).bind fun r=>if zT0 r=true then some r else none
theorem zD6 {P:Program}{w:World}{K:W.Frag}{mg:Str->Option Value}{base:Heap}{A:Around}{outer:List Env}{s:Shared}{H:Hp}{S:List Addr}{r:R}{Q:VK}{E:XK}{cd:Code}(e0:Env0 P w K mg base A outer s H)(hS:∀ a∈S,∃ xs:HO,H a=some xs/\MuB xs)(hk:r.2≠.dt)
  (run:Env0 P w K mg base A outer s (hide H S)->codeAny (model P w) A cd (CR CX0 outer P w (hide H S) s (fun v H2=>RV K (hide H S) H2 [] r v/\Same (hide H S) H2) E) s) (c:∀ v H',Same H H'->RV K H H' S r v->Q v H'):codeAny (model P w) A cd (CR CX0 outer P w H s Q E) s:=by
 have inS:∀ {b:Addr} {o:HO},b∈S->H b=some o->MuB o:=fun {b o} z e=>by
  obtain ⟨xs,q,mu⟩:=hS b z;rw [q] at e;cases e;exact mu
 have hok:HOk P w (hide H S) s.heap:=fun b o e=>by
  obtain ⟨nb,e'⟩:=zAt e;refine (e0.hok b o e').stay (fun c u _ q=>q) (fun c q=>?_) (fun c xs q=>?_) fun c ob u q _=>?_
  .rw [zAN fun z=>?_]
   .exact q
   .exact (inS z q).elim
  .rw [zAN fun z=>?_]
   .exact q
   .exact (inS z q).elim
  .rw [zAN fun z=>?_]
   .exact q
   .exact (inS z q).elim
 have none_of:∀ {b:Addr},H b=none->hide H S b=none:=fun {b} q=>by
  by_cases z:b∈S
  .exact zB2 z
  .rw [zAN z];exact q
 have e1:Env0 P w K mg base A outer s (hide H S):=⟨e0.frames,e0.mod,fun b o e=>⟨(e0.bs b o e).1,none_of (e0.bs b o e).2⟩,e0.bsz,e0.funs,fun b z=>none_of (e0.frf b z),hok,e0.bare,e0.tree,fun x hx c P e=>by
  have q:=e0.tabs x hx c P e;rw [zAN fun z=>(inS z q).elim];exact q⟩
 refine codeAny_mono (run e1) fun res s' h=>?_
 cases res with
 | error e=>exact h.elim
 | ok fl =>
  cases fl with
  | next=>exact h
  | brk=>exact h
  | cont=>exact h
  | ret u =>
   obtain ⟨v,H2,os,bare,un,hok2,rv2,r2,s2⟩:=h;have there:∀ {b:Addr},b∈S->∃ ob xs,s.heap.get? b=some ob/\s'.heap.get? b=some ob/\H2 b=none/\H b=some xs/\MuB xs/\zCe P w H s.heap b xs:=fun {b} z=>by
    obtain ⟨xs,q,mu⟩:=hS b z;have ok:=e0.hok b _ q;obtain ⟨ob,e⟩:∃ ob,s.heap.get? b=some ob:=by
     cases xs with
     | lst ys=>obtain ⟨z1,its,n,r1,e⟩:=id ok;exact ⟨_,e⟩
     | dT kvs=>obtain ⟨_,_,_,_,ob,_,_,e,_⟩:=id ok;exact ⟨ob,e⟩
     | _=>exact mu.elim
    have nf:b∉frs outer:=fun z2=>by rw [e0.frf b z2] at q;cases q
    exact ⟨ob,xs,e,un.keep b _ e (zB2 z) nf (by simp),un.free b _ e (zB2 z) (by simp),q,mu,ok⟩
   have out:∀ {b:Addr} {o:HO},H2 b=some o->b∉S:=fun {b o} e z=>by
    obtain ⟨_,_,_,_,q,_⟩:=there z;rw [q] at e;cases e
   obtain ⟨H',h'in,h'out⟩:∃ H':Hp,(∀ {b:Addr},b∈S->H' b=H b)/\(∀ {b:Addr},b∉S->H' b=H2 b):=⟨fun b=>if b∈S then H b else H2 b,fun z=>if_pos z,fun z=>if_neg z⟩;have sH:Same H H':=fun b o e=>by
    by_cases z:b∈S
    .rw [h'in z];exact e
    .rw [h'out z];exact s2 b o (by rw [zAN z];exact e)
   have sub:Same H2 (hide H' S):=fun b o e=>by
    rw [zAN (out e),h'out (out e)];exact e
   refine ⟨v,H',os,bare,⟨fun b o e n=>un.keep b o e (none_of n),fun b o e n=>un.slot b o e (none_of n),fun b o e n hx=>?_,un.there,fun b xs e=>?_,fun b o u e=>?_,fun b ps e=>?_⟩,fun b o e=>?_,rv2,c v H' sH ?_⟩
   .by_cases z:b∈S
    .rw [h'in z];exact n
    .rw [h'out z];exact un.free b o e (none_of n) hx
   .exact sH b _ e
   .exact sH b _ e
   .exact sH b _ e
   .by_cases z:b∈S
    .rw [h'in z] at e;obtain ⟨ob,xs,g1,g2,_,g4,mu,ok⟩:=there z;rw [g4] at e;cases e;cases o with
     | lst ys =>
      obtain ⟨z1,its,n,r1,e⟩:=ok;rw [g1] at e;cases e;exact ⟨z1,its,n,r1,g2⟩
     | dT kvs =>
      obtain ⟨z1,z2,xs,r1,ob',es,ep,e,rest⟩:=ok;rw [g1] at e;cases e;exact ⟨z1,z2,xs,Paired.mapP r1 fun p q z=>⟨z.1,sH _ _ z.2.1,z.2.2⟩,ob,es,ep,g2,rest⟩
     | _=>exact mu.elim
    .rw [h'out z] at e;exact (hok2 b o e).stay (fun c u _ q=>q) (fun c q=>by rw [h'out (out q)];exact q) (fun c xs q=>by rw [h'out (out q)];exact q) fun c ob u q _=>by rw [h'out (out q)];exact q
   .obtain ⟨d,kd⟩:=r;cases kd with
    | cl =>
     have q:Den K (hide H2 []) d v:=r2;rw [zBD] at q;exact q.mono sub
    | fr =>
     obtain ⟨a,ws,es,ev,ed,_,na,ha,t⟩:=r2;have aS:a∉S:=out ha;refine ⟨a,ws,es,ev,ed,aS,by rw [zAN aS] at na;exact na,by rw [h'out aS];exact ha,t.mono fun b o e=>?_⟩;obtain ⟨q1,q2⟩:=zAt e;have nb:b∉a::S:=fun z=>(mem_cons.mp z).elim (fun z=>q1 (by rw [z];exact mem_cons_self)) (out q2)
     rw [zAN nb,h'out (out q2)];exact q2
    | dt=>exact absurd rfl hk
theorem FnOk.framed {P:Program}{w:World}{K:W.Frag}{mg:Str->Option Value}{base:Heap}{k:Nat}{f:Addr}{fd:FuncData}{ps:List Str}{F:List D->Option R}(G:FnOk P w K mg base CX0 k f fd ps (spD0 K F)):FnOk P w K mg base CX0 k f fd ps (spD K F):=by
 refine ⟨fun vs H Q E h=>?_,fun A outer s H args us vs Q E hr e0 hb rv h=>?_⟩
 .obtain ⟨S,ds,r,hS,hd,hF,hk,c⟩:=h;exact G.len vs (hide H S) (fun _ _=>True) E ⟨ds,r,hd,hF,hk,fun _ _ _ _=>trivial⟩
 obtain ⟨S,ds,r,hS,hd,hF,hk,c⟩:=h;exact zD6 e0 hS hk (fun e1=>G.run A outer s (hide H S) args us vs (fun v H2=>RV K (hide H S) H2 [] r v/\Same (hide H S) H2) E hr e1 hb rv ⟨ds,r,hd,hF,hk,fun v H' s1 r1=>⟨r1,s1⟩⟩) c
end
inductive Out where
 | nx (G:Dst) | rt (r:R) | bk (G:Dst) | ct (G:Dst)
def Post (K:W.Frag)(H0:Hp)(o:Out)(E:Ends):Prop:=match o with
 | .nx G'=>∀ S' B' H',DS K H' S' B' G'->Same H0 (hide H' S')->E.nx B' H'
 | .bk G'=>∀ S' B' H',DS K H' S' B' G'->Same H0 (hide H' S')->E.bk B' H'
 | .ct G'=>∀ S' B' H',DS K H' S' B' G'->Same H0 (hide H' S')->E.ct B' H'
 | .rt r=>r.2≠.dt/\∀ v H',Same H0 H'->RV K H0 H' [] r v->E.rt v H'
def gS (K:W.Frag)(H0:Hp)(g:Dst->Option Out):TS:=fun E B H=>∃ S G o,DS K H S B G/\Same H0 (hide H S)/\g G=some o/\Post K H0 o E
def GS (X:Cx)(st:Stmt)(g:Dst->Option Out):Prop:=∀ H0,PS X st (gS X.K H0 g)
def GSs (X:Cx)(st:List Stmt)(g:Dst->Option Out):Prop:=∀ H0,PSs X st (gS X.K H0 g)
theorem _root_.L2.PS.imp {X:Cx}{st:Stmt}{t t':TS}(h:PS X st t)(i:∀ E B H,t' E B H->t E B H):PS X st t':=fun pins s B H E I q=>h pins s B H E I (i E B H q)
theorem _root_.L2.PSs.imp {X:Cx}{st:List Stmt}{t t':TS}(h:PSs X st t)(i:∀ E B H,t' E B H->t E B H):PSs X st t':=fun pins s B H E I q=>h pins s B H E I (i E B H q)
section
variable {X:Cx}
def seqD (f g:Dst->Option Out):Dst->Option Out:=fun G=>(f G).bind fun o=>match o with
 | .nx G'=>g G'
 | o=>some o
theorem zPZ:GSs X [] (fun G=>some (.nx G)):=fun H0=>zJI.imp fun E B H zz51=>by
 obtain ⟨S,G,o,ds,h0,e,p⟩:=zz51;cases e;exact p S B H ds h0
theorem zMO {st:Stmt}{rest:List Stmt}{f g:Dst->Option Out}(h1:GS X st f)(h2:GSs X rest g):GSs X (st::rest) (seqD f g):=fun H0=>(zHW (h1 H0) (h2 H0)).imp fun E B H zz52=>by
 obtain ⟨S,G,o,ds,h0,e,p⟩:=zz52;obtain ⟨o1,e1,e⟩:=bind_some e;refine ⟨S,G,o1,ds,h0,e1,?_⟩;cases o1 with
 | nx G'=>exact fun S' B' H' d' s'=>⟨S',G',o,d',s',e,p⟩
 | rt r=>cases e;exact p
 | bk G'=>cases e;exact p
 | ct G'=>cases e;exact p
theorem zPY {rest:List Stmt}{f g:Dst->Option Out}(hf:∀ G o,f G=some o->∃ G',o=.nx G'/\∀ K H S B,DS K H S B G->∃ S',(∀ b∈S',b∈S)/\DS K H S' B G')(h2:GSs X rest g):GSs X rest (seqD f g):=fun H0=>(h2 H0).imp fun E B H zz53=>by
 obtain ⟨S,G,o,ds,h0,e,p⟩:=zz53;obtain ⟨o1,e1,e⟩:=bind_some e;obtain ⟨G',rfl,k⟩:=hf G o1 e1;obtain ⟨S',sub,d'⟩:=k _ H S B ds;exact ⟨S',G',o,d',h0.trans (zBq sub),e,p⟩
theorem zSg {K:W.Frag}{H0 H H':Hp}{S:List Addr}{B:St}{G:Dst}{E:Ends}(ds:DS K H S B G)(h0:Same H0 (hide H S))(s1:Same H H')(p:Post K H0 (.nx G) E):E.nx B H' :=
 p S B H' (ds.mono s1) (h0.trans (zAQ s1))
def zT7 (f:Dst->Option R):Dst->Option Out:=fun G=>(f G).bind fun _=>some (.nx G)
def retD (f:Dst->Option R):Dst->Option Out:=fun G=>(f G).bind fun r=>if r.2=.dt then none else some (.rt r)
theorem RV.up {K:W.Frag}{H0 H H':Hp}{S:List Addr}{r:R}{v:V}(h0:Same H0 (hide H S))(s1:Same H H')(hr:r.2≠.dt)(h:RV K H H' S r v):Same H0 H'/\RV K H0 H' [] r v:=by
 refine ⟨h0.trans (zAg.trans s1),?_⟩;obtain ⟨d,k⟩:=r;cases k with
 | cl =>
  show Den K (hide H' []) d v;rw [zBD];exact Den.mono zAg h
 | fr =>
  obtain ⟨a,vs,ds,e1,e2,e3,e4,e5,t⟩:=h;refine ⟨a,vs,ds,e1,e2,by simp,?_,e5,t.mono (zBq fun b z=>by
   have:b=a:=by simpa using z
   rw [this];exact mem_cons_self)⟩
  cases q:H0 a with
  | none=>rfl
  | some o =>
   have:=(zAt (h0 a o q)).2;rw [e4] at this;cases this
 | dt=>exact absurd rfl hr
theorem zRy {e:Expr}{f:Dst->Option R}{pos:Pos}(h:GE X e f):GS X (.Return (some e) pos) (retD f):=fun H0=>(zJJ h).imp fun E B H zz54=>by
 obtain ⟨S,G,o,ds,h0,e,p⟩:=zz54;obtain ⟨r,er,e⟩:=bind_some e;by_cases hr:r.2=.dt
 .rw [if_pos hr] at e;cases e
 rw [if_neg hr] at e;cases e;refine ⟨S,G,r,ds,er,fun v H' s1 r1=>?_⟩;obtain ⟨q1,q2⟩:=RV.up h0 s1 hr r1;exact p.2 v H' q1 q2
def zDr (i:Nat):Dst->Option Out:=fun G=>match G[i]? with
 | some (some (.lst d,true))=>some (.rt (.lst d,.fr))
 | _=>none
theorem zKM {i:Nat}{x:Str}{pos pos':Pos}(hN:X.N[i]?=some x)(hv:Vis X.env.scope x)(hd:(x==("__debug__":Str))=false)(hcd:(x==("__classdict__":Str))=false):GS X (.Return (some (.Name x pos')) pos) (zDr i):=fun H0=>(zJJ (zDu hN hv hd hcd)).imp fun E B H zz55=>by
 obtain ⟨S,G,o,ds,h0,e,p⟩:=zz55;unfold zDr at e;split at e
 .rename_i d q;cases e;obtain ⟨v,q1,q2⟩:=ds.get i _ true q;obtain ⟨a,vs,es,rfl,e2,w1,w2,w3⟩:=q2.ownL rfl;refine ⟨.ref a,q1,p.2 _ H (h0.trans zAg) ⟨a,vs,es,rfl,e2,by simp,?_,w2,w3.mono (zBq fun b z=>by
   have:b=a:=by simpa using z
   rw [this];exact w1)⟩⟩
  cases q:H0 a with
  | none=>rfl
  | some o=>exact absurd w1 (zAt (h0 a o q)).1
 .cases e
def zTJ:Dst->Option Out:=fun _=>some (.rt (.non,.cl))
theorem zHn {st:Stmt}:GS X st (fun _=>none):=fun H0=>(zE2 (X:=X) (st:=st)).imp fun E B H zy119=>by obtain ⟨S,G,o,ds,h0,e,p⟩:=zy119;cases e
def setD (i:Nat)(f:Dst->Option R):Dst->Option Out:=fun G=>(f G).bind fun r=>match r.2 with
 | .cl=>some (.nx (G.set i (some (r.1,false))))
 | .fr=>some (.nx (G.set i (some (r.1,true))))
 | .dt=>none
theorem zES {K:W.Frag}{H0 H H':Hp}{S:List Addr}{B:St}{G:Dst}{E:Ends}{i:Nat}{r:R}{v:V}{o:Out}(ds:DS K H S B G)(h0:Same H0 (hide H S))(s1:Same H H')(r1:RV K H H' S r v)
  (e:(match r.2 with | .cl=>some (Out.nx (G.set i (some (r.1,false)))) | .fr=>some (Out.nx (G.set i (some (r.1,true)))) | .dt=>none)=some o) (p:Post K H0 o E):E.nx (B.set i (some v)) H':=by
 obtain ⟨d,k⟩:=r;cases k with
 | cl =>
  cases e;exact p S _ H' ((ds.mono s1).set r1) (h0.trans (zAQ s1))
 | fr =>
  cases e;obtain ⟨a,vs,es,rfl,rfl,e3,e4,e5,t⟩:=r1;exact p (a::S) _ H' (ds.setF s1 e4 e5 t) (h0.trans (zDj s1 e4))
 | dt=>cases e
theorem zNr {i:Nat}{x:Str}{e:Expr}{f:Dst->Option R}{pos pos':Pos}(hN:X.N.Nodup)(hi:X.N[i]?=some x)(hx:Loc X.env.scope x)(h:GE X e f)(hs:swapsWith e (some (.Name x pos')) pos.line X.env=pure false)(hf:X.fn x=true\/X.env.scope.names.lookup x=some .local) :
  GS X (.Assign [.Name x pos'] e pos) (setD i f):=fun H0=>(zNX hN hi hx h hs hf).imp fun E B H zz56=>by
 obtain ⟨S,G,o,ds,h0,e,p⟩:=zz56;obtain ⟨r,er,e⟩:=bind_some e;exact ⟨S,G,r,ds,er,fun v H' s1 r1=>zES ds h0 s1 r1 e p⟩
def appD (i:Nat)(f:Dst->Option R):Dst->Option Out:=fun G=>match G[i]? with
 | some (some (.lst xs,true))=>(f G).bind fun r=>if r.2=.dt then none else if xs.length<=10000 then some (.nx (G.set i (some (.lst (xs++[r.1]),true)))) else none
 | _=>none
theorem zR2 {i:Nat}{x:Str}{e:Expr}{f:Dst->Option R}{pos cpos apos npos:Pos}(hi:X.N[i]?=some x)(hv:Vis X.env.scope x)(hd:(x==("__debug__":Str))=false)(hcd:(x==("__classdict__":Str))=false)(h:GE X e f)
  (he:starEach [e] X.env=[(false,eval e X.env)]) (hbase:attributeBase (.Name x npos) "append" X.env (eval (.Name x npos) X.env)=eval (.Name x npos) X.env) (hline:(apos.endLine==cpos.line)=true) :
  GS X (.Expr (.Call (.Attribute (.Name x npos) "append" apos) [e] [] cpos) pos) (appD i f):=fun H0=>(zGc (zOn PySem.F.plainAttrs_list PySem.F.slot_list_append PySem.F.type_list_append zFv (zDu hi hv hd hcd) (zAc h zBA he) hbase (by rw [he];rfl) hline he rfl) rfl).imp fun E B H zz57=>by
 obtain ⟨S,G,o,ds,h0,e,p⟩:=zz57;unfold appD at e;split at e
 .rename_i xs q;obtain ⟨r,er,e⟩:=bind_some e;by_cases hr:r.2=.dt
  .rw [if_pos hr] at e;cases e
  rw [if_neg hr] at e;by_cases hl:xs.length<=10000
  .rw [if_pos hl] at e;cases e;obtain ⟨v,q1,q2⟩:=ds.get i _ true q;obtain ⟨a,vs,es,rfl,e2,w1,w2,w3⟩:=q2.ownL rfl;cases e2;refine ⟨.ref a,q1,.inl ⟨rfl,_,SqL.of w2⟩,S,G,r,ds,er,fun y H1 s1 r1=>?_⟩;have hy:Den X.K (hide H1 S) r.1 y:=RV.den (d:=r.1) (k:=r.2) r1 hr;have w3':=w3.mono (zAQ s1 (S:=S));refine ⟨a,vs,y,rfl,rfl,s1 _ _ w2,by rw [<- w3.length];exact Nat.lt_of_le_of_lt hl (by decide),?_⟩;have t:DenL X.K (hide H1 S) (xs++[r.1]) (vs++[y]):=w3'.append (.cons hy .nil);have d2:=(ds.mono s1).change (i:=i) q q1 t;refine p S B _ d2 ?_;rw [zFC w1];exact h0.trans (zAQ s1)
  .rw [if_neg hl] at e;cases e
 .cases e
def putD (i:Nat)(k f:Dst->Option R):Dst->Option Out:=fun G=>match G[i]? with
 | some (some (.lst xs,true))=>(f G).bind fun r=>if r.2=.dt then none else (k G).bind fun j=>match j.1 with
  | .int n=>(ixN xs.length n).bind fun m=>some (.nx (G.set i (some (.lst (xs.set m r.1),true))))
  | _=>none
 | _=>none
def ifD (c:Dst->Option Bool)(f g:Dst->Option Out):Dst->Option Out:=fun G=>(c G).bind fun b=>if b=true then f G else g G
theorem zTo {c:Expr}{a b:List Stmt}{k:Dst->Option Bool}{f g:Dst->Option Out}{pos:Pos}(hc:GT X c k)(ha:GSs X a f)(hb:GSs X b g):GS X (.If c a b pos) (ifD k f g):=fun H0=>(zQz hc (ha H0) (hb H0)).imp fun E B H zz58=>by
 obtain ⟨S,G,o,ds,h0,e,p⟩:=zz58;obtain ⟨b,eb,e⟩:=bind_some e;refine ⟨S,G,b,ds,eb,fun H1 s1=>?_⟩;cases b with
 | true =>
  rw [if_pos rfl] at e ⊢;exact ⟨S,G,o,ds.mono s1,h0.trans (zAQ s1),e,p⟩
 | false =>
  rw [if_neg Bool.false_ne_true] at e ⊢;exact ⟨S,G,o,ds.mono s1,h0.trans (zAQ s1),e,p⟩
def zBo (c:Dst->Option Bool)(b:Dst->Option Out):Nat->Dst->Option Out
 | 0,_=>none
 | n+1,G=>(c G).bind fun k=>if k=true then (b G).bind fun o=>(match o with
   | .nx G'=>zBo c b n G'
   | .ct G'=>zBo c b n G'
   | .bk G'=>some (.nx G')
   | .rt r=>some (.rt r)) else some (.nx G)
theorem zCk {c:Dst->Option Bool}{b:Dst->Option Out}:∀ {n:Nat} {G:Dst} {o:Out},zBo c b n G=some o->zBo c b (n+1) G=some o
 | 0,_,_,h=>by cases h
 | n+1,G,o,h=>by
  obtain ⟨k,ek,h⟩:=bind_some h;show (c G).bind _=some o;rw [ek];cases k with
  | false =>
   rw [if_neg Bool.false_ne_true] at h;rw [Option.bind_some,if_neg Bool.false_ne_true];exact h
  | true =>
   rw [if_pos rfl] at h;rw [Option.bind_some,if_pos rfl];obtain ⟨o1,e1,h⟩:=bind_some h;rw [e1];cases o1 with
   | nx G'=>exact zCk (n:=n) h
   | ct G'=>exact zCk (n:=n) h
   | bk G'=>exact h
   | rt r=>exact h
theorem zDl {c:Dst->Option Bool}{b:Dst->Option Out}{n m:Nat}{G:Dst}{o:Out}(h:zBo c b n G=some o)(l:n<=m):zBo c b m G=some o:=by
 induction m with
 | zero =>
      have:n=0:=by omega
      subst this;exact h
 | succ m ih =>
  by_cases q:n<=m
  .exact zCk (ih q)
  .have:n=m+1:=by omega
   subst this;exact h
open Classical in
def zBS (c:Dst->Option Bool)(b:Dst->Option Out)(G:Dst):Option Out :=
 if h:∃ n o,zBo c b n G=some o then some (Classical.choose (choose_spec h)) else none
theorem zCE {c:Dst->Option Bool}{b:Dst->Option Out}{n:Nat}{G:Dst}{o:Out}(h:zBo c b n G=some o):zBS c b G=some o:=by
 have ex:∃ n o,zBo c b n G=some o:=⟨n,o,h⟩;unfold zBS;rw [dif_pos ex];have q:=choose_spec (choose_spec ex);have q1:=zDl q (Nat.le_max_left _ n);have q2:=zDl h (Nat.le_max_right (Classical.choose ex) n);rw [q1] at q2;exact q2
theorem zDD {c:Dst->Option Bool}{b:Dst->Option Out}{G:Dst}{o:Out}(h:zBS c b G=some o):∃ n,zBo c b n G=some o:=by
 unfold zBS at h;by_cases ex:∃ n o,zBo c b n G=some o
 .rw [dif_pos ex] at h;have q:=choose_spec (choose_spec ex);cases h;exact ⟨_,q⟩
 .rw [dif_neg ex] at h;cases h
theorem zMQ {c:Expr}{body:List Stmt}{k:Dst->Option Bool}{f:Dst->Option Out}{pos:Pos}(hp:PassesOwn (model X.prog X.w) X.A X.env X.xe)(hc:GT X c k)(hb:GSs X body f):GS X (.While c body [] pos) (zBS k f):=fun H0=>(zLl hp hc (hb H0)).imp fun E B H zz59=>by
 obtain ⟨S,G,o,ds,h0,e,p⟩:=zz59;obtain ⟨n,en⟩:=zDD e;refine ⟨fun m B H=>∃ S G,DS X.K H S B G/\Same H0 (hide H S)/\zBo k f m G=some o,⟨n,S,G,ds,h0,en⟩,?_⟩;rintro m B H ⟨S,G,ds,h0,en⟩;cases m with
 | zero=>cases en
 | succ m =>
  obtain ⟨b,eb,en⟩:=bind_some en;refine ⟨S,G,b,ds,eb,fun H1 s1=>?_⟩;cases b with
  | false =>
   rw [if_neg Bool.false_ne_true] at en ⊢;cases en;exact zSg ds h0 s1 p
  | true =>
   rw [if_pos rfl] at en ⊢;obtain ⟨o1,e1,en⟩:=bind_some en;refine ⟨fun B' H'=>∃ S G,DS X.K H' S B' G/\Same H0 (hide H' S)/\zBo k f m G=some o,fun B' H' q=>⟨m,Nat.lt_succ_self m,q⟩,S,G,o1,ds.mono s1,h0.trans (zAQ s1),e1,?_⟩;cases o1 with
   | nx G'=>exact fun S' B' H' d' q'=>⟨S',G',d',q',en⟩
   | ct G'=>exact fun S' B' H' d' q'=>⟨S',G',d',q',en⟩
   | bk G'=>cases en;exact p
   | rt r=>cases en;exact p
def forD (t:D->Dst->Option Dst)(b:Dst->Option Out):List D->Dst->Option Out
 | [],G=>some (.nx G)
 | x::xs,G=>(t x G).bind fun O3=>(b O3).bind fun o=>match o with
  | .nx G'=>forD t b xs G'
  | .ct G'=>forD t b xs G'
  | .bk G'=>some (.nx G')
  | .rt r=>some (.rt r)
def GG (X:Cx)(tg:Expr)(t:D->Dst->Option Dst):Prop:=∃ g,PG X tg g/\∀ (K:W.Frag),K=X.K->∀ (x:D) (v:V) (B:St) (H:Hp) (S:List Addr) (G G':Dst) (Q:St->Hp->Prop),DS K H S B G->Den K (hide H S) x v->t x G=some G'->(∀ B',DS K H S B' G'->Q B' H)->g v B H Q
theorem zKT {i:Nat}{x:Str}{pos:Pos}(hN:X.N.Nodup)(hi:X.N[i]?=some x)(hx:Loc X.env.scope x)(hf:X.fn x=true\/X.env.scope.names.lookup x=some .local):GG X (.Name x pos) (fun d G=>some (G.set i (some (d,false)))) :=
 ⟨_,zDH hN hi hx hf,fun K hK x v B H S G G' Q ds hv e q=>by
  cases e;exact q _ (ds.set hv)⟩
def tg2 (i j:Nat):D->Dst->Option Dst:=fun d G=>match d with
 | .tup [a,b]=>some ((G.set i (some (a,false))).set j (some (b,false)))
 | _=>none
theorem zR8 {i j:Nat}{x y:Str}{p1 p2 pos:Pos}{kk:Nat}(hc:X.calm=true)(hN:X.N.Nodup)(hi:X.N[i]?=some x)(hx:Loc X.env.scope x)(hf:X.fn x=true\/X.env.scope.names.lookup x=some .local)
  (hj:X.N[j]?=some y) (hy:Loc X.env.scope y) (hf2:X.fn y=true\/X.env.scope.names.lookup y=some .local):GG X (.Tuple [.Name x p1,.Name y p2] kk pos) (tg2 i j) :=
 ⟨_,zQ3 (n:=2) hc (zHY (zDH hN hi hx hf) (zHY (zDH hN hj hy hf2) zOk)),fun K hK x v B H S G G' Q ds hv e q=>by
  subst hK;unfold tg2 at e;split at e
  .rename_i a b;cases e;rw [Den] at hv;obtain ⟨p,vs,rfl,h1,h2⟩:=hv;rw [DenL] at h2;obtain ⟨va,ws,rfl,ha,h2⟩:=h2;rw [DenL] at h2;obtain ⟨vb,ws,rfl,hb,h2⟩:=h2;rw [DenL] at h2;subst h2;exact ⟨p,_,rfl,Same.tupS zAg h1,rfl,va,[vb],rfl,vb,[],rfl,rfl,q _ ((ds.set ha).set hb)⟩
  .cases e⟩
def GI (X:Cx)(tg iter:Expr)(f:Dst->Option (List D)):Prop:=∃ wi,PI X tg iter wi/\∀ (B:St) (H:Hp) (S:List Addr) (G:Dst) (xs:List D) (Rr:It->Hp->Prop),DS X.K H S B G->f G=some xs ->
 (∀ J H1,Same H H1->(∀ (i:Nat) H2,i<=xs.length->Same (hide H1 S) H2->(i=xs.length->J.stop i H2)/\(i < xs.length->J.go i H2/\∀ v H3,J.yld i H2 v H3->H3=H2/\∀ x,xs[i]?=some x->Den X.K (hide H1 S) x v))->Rr J H1)->wi B H Rr
theorem zRz {tg iter:Expr}{body:List Stmt}{f:Dst->Option (List D)}{t:D->Dst->Option Dst}{b:Dst->Option Out}{pos:Pos}(hp:PassesOwn (model X.prog X.w) X.A X.env X.xe)(hc:X.calm=true)(hi:GI X tg iter f)(hg:GG X tg t)(hb:GSs X body b)
  (hs:∀ x,foldedSetIterable iter X.env x=pure x):GS X (.For tg iter body [] pos) (fun G=>(f G).bind fun xs=>forD t b xs G):=by
 intro H0;obtain ⟨wi,hwi,hI⟩:=hi;obtain ⟨g,hg,hG⟩:=hg;intro pins s B H E I ⟨S,G,o,ds,h0,e,p⟩;obtain ⟨xs,ex,e⟩:=bind_some e;refine (zNY (tb:=fun E B H2=>∃ H1,gS X.K (hide H1 S) b E B H2/\Same (hide H1 S) (hide H1 S)) hp hc hwi hg ?_ hs) pins s B H E I ?_
 .intro pins s B H E I ⟨H1,q,_⟩;exact hb (hide H1 S) pins s B H E I q
 refine hI B H S G xs _ ds ex fun J H1 s1 hJ=>?_
 refine ⟨fun i m B' H2=>i<=xs.length/\m=xs.length - i/\∃ S' G',DS X.K H2 S' B' G'/\Same (hide H1 S) (hide H2 S')/\forD t b (xs.drop i) G'=some o,⟨xs.length,zero_le _,by omega,S,G,ds.mono s1,Same.refl _,e⟩,?_⟩;rintro i m B' H2 ⟨hi,rfl,S',G',ds',k',e'⟩;have kH:Same H0 (hide H1 S):=h0.trans (zAQ s1);obtain ⟨j1,j2⟩:=hJ i H2 hi (k'.trans zAg);by_cases hlt:i < xs.length
 .obtain ⟨go,yl⟩:=j2 hlt;have hd:xs.drop i=xs[i]::xs.drop (i+1):=drop_eq_getElem_cons hlt;rw [hd] at e';obtain ⟨O3,e1,e'⟩:=bind_some e';obtain ⟨o1,e2,e'⟩:=bind_some e';refine .inr ⟨go,fun O9 H3=>∃ S' G',DS X.K H3 S' O9 G'/\Same (hide H1 S) (hide H3 S')/\forD t b (xs.drop (i+1)) G'=some o,fun O9 H3 q=>⟨xs.length - (i+1),by omega,hlt,rfl,q⟩,fun v H3 y=>?_⟩;obtain ⟨rfl,hv⟩:=yl v H3 y;refine hG X.K rfl xs[i] v B' H3 S' G' O3 _ ds' ((hv _ (by simp [hlt])).mono k') e1 fun C1 ds4=>⟨H1,⟨S',O3,o1,ds4,k',e2,?_⟩,Same.refl _⟩
  cases o1 with
  | nx Z9=>exact fun S2 Z1 H4 d2 q2=>⟨S2,Z9,d2,q2,e'⟩
  | ct Z9=>exact fun S2 Z1 H4 d2 q2=>⟨S2,Z9,d2,q2,e'⟩
  | bk Z9 =>
   cases e';exact fun S2 Z1 H4 d2 q2=>p S2 Z1 H4 d2 (kH.trans q2)
  | rt r =>
   cases e';refine ⟨p.1,fun v H4 q1 q2=>p.2 v H4 (kH.trans q1) (q2.from kH)⟩
 .have ei:i=xs.length:=by omega
  subst ei;rw [drop_eq_nil_of_le (le_refl _)] at e';cases e';exact .inl ⟨j1 rfl,p S' B' H2 ds' (kH.trans k')⟩
def rngL (lo:Int)(n:Nat):List D:=(List.range n).map fun (k:Nat)=>D.int (lo+k)
theorem zFl {K:W.Frag}{H1:Hp}{S:List Addr}{lo:Int}{n:Nat}(i:Nat)(H2:Hp)(hi:i<=(rngL lo n).length):(i=(rngL lo n).length->(Itr lo n).stop i H2)/\(i < (rngL lo n).length->(Itr lo n).go i H2/\∀ v H3,(Itr lo n).yld i H2 v H3->H3=H2/\∀ x,(rngL lo n)[i]?=some x->Den K (hide H1 S) x v):=by
 have hl:(rngL lo n).length=n:=by unfold rngL;simp
 refine ⟨fun e=>by rw [hl] at e;exact Nat.le_of_eq e.symm,fun h=>⟨by rw [hl] at h;exact h,fun v H3 y=>⟨y.1,fun x ex=>?_⟩⟩⟩;have hv:v=.int (lo+i):=y.2;rw [hl] at h;have:(rngL lo n)[i]?=some (D.int (lo+(i:Int))):=by unfold rngL;simp [h]
 rw [this] at ex;cases ex;rw [Den];exact hv
def zJD (f:Dst->Option R):Dst->Option (List D):=fun G=>match f G with
 | some (.int j,_)=>if -(2^62)<=j/\j < 2^62 then some (rngL 0 j.toNat) else none
 | _=>none
theorem zKS {tg a:Expr}{f:Dst->Option R}{p pos:Pos}(hg:Gl X "range")(hm:X.mg "range"=none)(h:GE X a f)(hs:starEach [a] X.env=[(false,eval a X.env)]):GI X tg (.Call (.Name "range" p) [a] [] pos) (zJD f):=by
 refine ⟨_,zFr hg hm (zAc h zBA hs) hs,fun B H S G xs Rr ds e q=>?_⟩;unfold zJD at e;split at e
 .rename_i j k ej;by_cases hj:-(2^62)<=j/\j < 2^62
  .rw [if_pos hj] at e;cases e;exact ⟨S,G,_,ds,ej,fun v H1 s1 r1=>⟨j,by rw [r1.rd.int],hj.1,hj.2,q _ H1 s1 fun i H2 hi _=>zFl i H2 hi⟩⟩
  .rw [if_neg hj] at e;cases e
 .cases e
def zOY (f g:Dst->Option R):Dst->Option (List D):=fun G=>match f G,g G with
 | some (.int i,_),some (.int j,_)=>if (-(2^62)<=i/\i < 2^62)/\-(2^62)<=j/\j < 2^62 then some (rngL i (j - i).toNat) else none
 | _,_=>none
theorem zKR {tg a b:Expr}{f g:Dst->Option R}{p pos:Pos}(hg:Gl X "range")(hm:X.mg "range"=none)(ha:GE X a f)(hb:GE X b g)(hs:starEach [a,b] X.env=(false,eval a X.env)::starEach [b] X.env)(hs2:starEach [b] X.env=[(false,eval b X.env)]):GI X tg (.Call (.Name "range" p) [a,b] [] pos) (zOY f g):=by
 refine ⟨_,zJO hg hm (zAc ha (zAc hb zBA hs2) hs) (by rw [hs,hs2]) hs2,fun B H S G xs Rr ds e q=>?_⟩;unfold zOY at e;split at e
 .rename_i i k j k2 ei ej;by_cases hj:(-(2^62)<=i/\i < 2^62)/\-(2^62)<=j/\j < 2^62
  .rw [if_pos hj] at e;cases e;exact ⟨S,G,_,ds,ei,fun v H1 s1 r1=>⟨S,G,_,ds.mono s1,ej,fun u H2 s2 r2=>⟨i,j,by rw [r1.rd.int,r2.rd.int],⟨hj.1.1,hj.1.2,hj.2.1,hj.2.2⟩,q _ H2 (s1.trans s2) fun i H2 hi _=>zFl i H2 hi⟩⟩⟩
  .rw [if_neg hj] at e;cases e
 .cases e
def frzD (i:Nat):Dst->Option Out:=fun G=>match G[i]? with
 | some (some (d,true))=>some (.nx (G.set i (some (d,false))))
 | _=>some (.nx G)
theorem zSQ {i:Nat}:∀ G o,frzD i G=some o->∃ G',o=.nx G'/\∀ K H S B,DS K H S B G->∃ S',(∀ b∈S',b∈S)/\DS K H S' B G':=fun G o e=>by
 unfold frzD at e;split at e
 .rename_i d q;cases e;exact ⟨_,rfl,fun K H S B ds=>ds.freeze q⟩
 .cases e;exact ⟨_,rfl,fun K H S B ds=>⟨S,fun _ z=>z,ds⟩⟩
def dFun (np nN:Nat)(g:Dst->Option Out)(ds:List D):Option R :=
 if ds.length=np/\np<=nN then (g (ds.map (fun d=>some (d,false))++List.replicate (nN - np) none)).bind fun o=>match o with
  | .rt r=>some r
  | .nx _=>some (.non,.cl)
  | _=>none
 else none
theorem zMo {K:W.Frag}{H:Hp}{N:List Str}{ds:List D}{vs:List V}(h:DenL K H ds vs)(hl:ds.length<=N.length):DS K H [] (zBw N vs) (ds.map (fun d=>some (d,false))++List.replicate (N.length - ds.length) none):=by
 have el:=h.length;refine ⟨by unfold L2.zBw;simp [<- el],fun a z=>absurd z (by simp),fun i d o q=>?_,fun i j d e a q1 _ _ _=>?_⟩
 .have hi:i < ds.length:=by
   by_cases z:i < ds.length
   .exact z
   .rw [getElem?_append_right (by simpa using z),getElem?_replicate] at q;split at q<;>cases q
  rw [getElem?_append_left (by simpa using hi),getElem?_map] at q;cases e:ds[i]? with
  | none=>rw [e] at q;cases q
  | some d' =>
   rw [e] at q;cases q;obtain ⟨v,q1,q2⟩:=h.get e;refine ⟨v,?_,.of_den (by rw [zBD];exact q2)⟩;unfold L2.zBw;rw [getElem?_append_left (by rw [length_map,<- el];exact hi),getElem?_map,q1]
   rfl
 .have hi:i < ds.length:=by
   by_cases z:i < ds.length
   .exact z
   .rw [getElem?_append_right (by simpa using z),getElem?_replicate] at q1;split at q1<;>cases q1
  rw [getElem?_append_left (by simpa using hi),getElem?_map] at q1;cases e:ds[i]? with
  | none=>rw [e] at q1;cases q1
  | some d'=>rw [e] at q1;cases q1
theorem zSP {P:Program}{w:World}{K:W.Frag}{mg:Str->Option Value}{base:Heap}{x qual:Str}{st:Stmt}{f:Addr}{fd:FuncData}{N ps:List Str}{k:Nat}{g:Dst->Option Out}(F:Fun K x qual st f fd)(S:zAC N ps (zAA st))
  (hbody:∀ (cdv:Value) (A:Around) (outer:List Env) (s:Shared) (H:Hp) (E:XK),Room k (A.deeper (envOfC qual (zAA st) s.heap.objs.size f cdv))->GSs (cxOf CX0 P w K mg base N qual (zAA st) f cdv A outer s H E).nox (zAB st) g) :
  FnOk P w K mg base CX0 (k+1) f fd ps (spD K (dFun ps.length N.length g)):=by
 refine FnOk.framed (F.ok S (fun vs H Q E h=>?_) fun cdv A outer s H vs Q E hr h=>?_)
 .obtain ⟨ds,r,hd,hF,hk,c⟩:=h;unfold dFun at hF;by_cases q:ds.length=ps.length/\ps.length<=N.length
  .rw [<- hd.length];exact q.1
  .rw [if_neg q] at hF;cases hF
 obtain ⟨ds,r,hd,hF,hk,c⟩:=h;refine ⟨_,hbody cdv A outer s H E hr H,?_⟩;unfold dFun at hF;by_cases q:ds.length=ps.length/\ps.length<=N.length
 .rw [if_pos q] at hF;obtain ⟨o,eo,hF⟩:=bind_some hF;rw [<- q.1] at eo;refine ⟨[],_,o,zMo hd (by rw [q.1];exact q.2),by rw [zBD];exact Same.refl _,eo,?_⟩;cases o with
  | nx G' =>
   cases hF;exact fun S' B' H' d' s'=>c _ H' (s'.trans zAg) (by show Den _ _ _ _;rw [Den])
  | rt r' =>
   cases hF;exact ⟨hk,c⟩
  | bk G'=>cases hF
  | ct G'=>cases hF
 .rw [if_neg q] at hF;cases hF
end
end DL
end
section
namespace DL
open PySem
def zBs (env:Env):List (Str×NameKind)->List (Str×Addr)->List (Str×Addr)
 | [],acc=>acc
 | (n,k)::r,acc=>zBs env r (if k==.free then (match env.cells.lookup n with | some c=>(n,c)::acc | none=>acc) else acc)
theorem zFO {env:Env}(f:Str×NameKind->List (Str×Addr)->Sem (ForInStep (List (Str×Addr))))
  (hf:∀ n k cs,f (n,k) cs=if k==.free then (do let a<-cellOf env n;pure (.yield ((n,a)::cs))) else pure (.yield cs)) :
  ∀ (names:List (Str×NameKind)) (acc:List (Str×Addr)),(∀ x∈names,x.2=.free->∃ c,env.cells.lookup x.1=some c)->forIn names acc f=(pure (zBs env names acc):Sem (List (Str×Addr)))
 | [],acc,_=>by rw [forIn_nil];rfl
 | (n,k)::r,acc,h=>by
  rw [forIn_cons,hf];have hr:∀ x∈r,x.2=.free->∃ c,env.cells.lookup x.1=some c:=fun x z=>h x (mem_cons_of_mem _ z)
  cases e:k==.free with
  | true =>
   obtain ⟨c,ec⟩:=h (n,k) mem_cons_self (by simpa using e);have e1:cellOf env n=pure c:=by unfold cellOf;rw [ec]
   rw [if_pos rfl,e1];unfold zBs;rw [e,if_pos rfl,ec];exact zFO f hf r _ hr
  | false =>
   rw [if_neg Bool.false_ne_true];unfold zBs;rw [e,if_neg Bool.false_ne_true];exact zFO f hf r _ hr
theorem zBP {scope:Scope}{env:Env}(h:∀ x∈scope.names,x.2=.free->∃ c,env.cells.lookup x.1=some c):closureFor scope env=pure (zBs env scope.names []):=by
 show (forIn scope.names ([]:List (Str×Addr)) (fun x cs=>match x with
  | (name,kind)=>if (kind==NameKind.free)=true then (do let a<-cellOf env name;pure (ForInStep.yield ((name,a)::cs))) else pure (ForInStep.yield cs))>>=fun cs=>pure cs)=_
 rw [zFO (env:=env) _ (fun n k cs=>rfl) scope.names [] h]
 rfl
theorem zGE {env:Env}:∀ (names:List (Str×NameKind)) (acc:List (Str×Addr)),(∀ x c,acc.lookup x=some c->env.cells.lookup x=some c)->∀ x c,(zBs env names acc).lookup x=some c->env.cells.lookup x=some c
 | [],acc,h,x,c,e=>h x c e
 | (n,k)::r,acc,h,x,c,e=>by
  unfold zBs at e;refine zGE r _ ?_ x c e;intro y d q;cases z:k==.free with
  | false=>rw [z,if_neg Bool.false_ne_true] at q;exact h y d q
  | true =>
   rw [z,if_pos rfl] at q;cases w:env.cells.lookup n with
   | none=>rw [w] at q;exact h y d q
   | some c' =>
    rw [w] at q;dsimp only at q;rw [lookup_cons] at q;cases b:y==n with
    | true =>
     rw [b] at q;cases q;have:y=n:=by simpa using b
     rw [this];exact w
    | false=>rw [b] at q;exact h y d q
theorem zEl {env:Env}{x:Str}:∀ (names:List (Str×NameKind)) (acc:List (Str×Addr)),(∃ c,acc.lookup x=some c)->∃ c,(zBs env names acc).lookup x=some c
 | [],acc,h=>h
 | (n,k)::r,acc,h=>by
  unfold zBs;refine zEl r _ ?_;cases z:k==.free with
  | false=>rw [if_neg Bool.false_ne_true];exact h
  | true =>
   rw [if_pos rfl];cases w:env.cells.lookup n with
   | none=>exact h
   | some c' =>
    dsimp only;rw [lookup_cons];cases b:x==n with
    | true=>exact ⟨_,rfl⟩
    | false=>exact h
theorem zEG {env:Env}{x:Str}:∀ (names:List (Str×NameKind)) (acc:List (Str×Addr)),(x,NameKind.free)∈names->(∃ c,env.cells.lookup x=some c)->∃ c,(zBs env names acc).lookup x=some c
 | (n,k)::r,acc,hm,hc=>by
  unfold zBs;rcases mem_cons.mp hm with e | hm
  .cases e;obtain ⟨c,hc⟩:=hc;refine zEl r _ ?_;rw [show (NameKind.free==NameKind.free)=true from rfl,if_pos rfl,hc];exact ⟨c,by rw [lookup_cons];simp⟩
  .exact zEG r _ hm hc
theorem zEk {env:Env}{x:Str}:∀ (names:List (Str×NameKind)) (acc:List (Str×Addr)) (c:Addr),(zBs env names acc).lookup x=some c->(x,NameKind.free)∈names\/∃ c,acc.lookup x=some c
 | [],acc,c,h=>.inr ⟨c,h⟩
 | (n,k)::r,acc,c,h=>by
  unfold zBs at h;rcases zEk r _ c h with q | ⟨d,q⟩
  .exact .inl (mem_cons_of_mem _ q)
  .cases z:k==.free with
   | false=>rw [z,if_neg Bool.false_ne_true] at q;exact .inr ⟨d,q⟩
   | true =>
    rw [z,if_pos rfl] at q;cases w:env.cells.lookup n with
    | none=>rw [w] at q;exact .inr ⟨d,q⟩
    | some c' =>
     rw [w] at q;dsimp only at q;rw [lookup_cons] at q;cases b:x==n with
     | true =>
      have e1:x=n:=by simpa using b
      have e2:k=.free:=by simpa using z
      subst e1 e2;exact .inl mem_cons_self
     | false=>rw [b] at q;exact .inr ⟨d,q⟩
theorem zB6 {x:Str}:∀ (names:List (Str×NameKind)) (n:Nat) (acc:List (Str×Addr)) (c:Addr),(cellsFrom n names acc).lookup x=some c->((x,NameKind.cell)∈names/\n<=c)\/acc.lookup x=some c
 | [],n,acc,c,h=>.inr h
 | (y,k)::r,n,acc,c,h=>by
  unfold cellsFrom at h;cases z:k==.cell with
  | false =>
   rw [z,if_neg Bool.false_ne_true] at h;rcases zB6 r n acc c h with ⟨q1,q2⟩ | q
   .exact .inl ⟨mem_cons_of_mem _ q1,q2⟩
   .exact .inr q
  | true =>
   rw [z,if_pos rfl] at h;rcases zB6 r (n+1) _ c h with ⟨q1,q2⟩ | q
   .exact .inl ⟨mem_cons_of_mem _ q1,by omega⟩
   .rw [lookup_cons] at q;cases b:x==y with
    | true =>
     rw [b] at q;cases q;have e1:x=y:=by simpa using b
     have e2:k=.cell:=by simpa using z
     subst e1 e2;exact .inl ⟨mem_cons_self,le_refl _⟩
    | false=>rw [b] at q;exact .inr q
section
variable {M:Model}{A:Around}{E:Value->Shared->Prop}{s:Shared}
theorem zD1 {scope:Scope}{globals:Addr}{cl:List (Str×Addr)}{qual:Str}{outer:Env}{Q:Env->Shared->Prop}
  (hQ:Q (newEnv scope s.heap.objs.size globals (cellsFrom (s.heap.objs.size+1) scope.names cl) qual none .none (some outer) builtinsNs) { s with heap:=pushCells (s.heap.push { cls:=.type "dict",data:=.dict #[] }) scope.names }) :
  wpAny M A (newFunctionEnv scope globals cl [] qual none .none (some outer)) Q E s:=by
 simp only [newFunctionEnv,Option.isSome_some,if_true];refine wpAny_bind (wpAny_alloc ?_);refine wpAny_bind (wpAny_layCells _ (fun name kind cells=>by cases hkc:kind==NameKind.cell<;>simp [hkc]) _ _ _ _ ?_);rw [show ({ s with heap:=s.heap.push { cls:=.type "dict",data:=.dict #[] } }:Shared).heap.objs.size=s.heap.objs.size+1 from Heap.size_push ..];refine wpAny_bind ?_;rw [forIn_nil];exact wpAny_pure (wpAny_pure hQ)
end
section
variable {prog:Program}{w:World}{A:Around}{R:Result->Shared->Prop}{s:Shared}
abbrev NB (prog:Program) (w:World) (A:Around) (env:Env) (R:Result->Shared->Prop):Value->Shared->Prop:=notedBy (model prog w) A env fun e s'=>R (.error e) s'
theorem zDa {elt target iter:Expr}{ifs:List Expr}{scope:Scope}{pos:Pos}{it acc:Value}{env:Env}(I:Nat->Shared->Prop)
  (turn:∀ n s,I n s->wpAny (model prog w) A (pyNext it) (fun r O1=>match r with
   | none=>R (.ok .next) O1
   | some v=>wpAny (model prog w) A (letOwnedTupleGo target it v) (fun _ s1'=>wpAny (model prog w) A (assign target env v) (fun _ Y2 =>
     wpAny (model prog w) A (forIn ifs true fun c r=>if r=true then do let ok<-isTrue c env (eval c env);pure (ForInStep.yield ok) else pure (ForInStep.yield r)) (fun ok Y9 =>
      if ok=true then wpAny (model prog w) A (eval elt env) (fun x Z6 =>
       wpAny (model prog w) A (call (.builtin "list.append") [acc,x]) (fun _ U9=>∃ m,m < n/\I m U9) (NB prog w A env R) Z6) (NB prog w A env R) Y9
      else ∃ m,m < n/\I m Y9) (NB prog w A env R) Y2) (NB prog w A env R) s1') (NB prog w A env R) O1) (NB prog w A env R) s)
  (n:Nat) (h:I n s) :
  codeAny (model prog w) A (.compLoop (.ListComp elt [⟨target,iter,ifs,0⟩] scope pos) 0 it acc env) R s:=by
 refine codeAny_loop rfl I (fun n s hI=>?_) n h;show wpAny _ A ((compTurn (.ListComp elt [⟨target,iter,ifs,0⟩] scope pos) 0 it acc env).onRaise (fun x=>do noteFrame x env;theTreesLotGoes x)) _ _ s;refine wpAny_noted ?_;rw [compTurn_list];refine wpAny_bind (wpAny_standAt (wpAny_bind (wpAny_mono (turn n s hI) (fun r O1 O8=>?_) fun _ _ h'=>h')));cases r with
 | none=>exact wpAny_pure O8
 | some v =>
  refine wpAny_bind (wpAny_mono O8 (fun _ s1' C2=>?_) fun _ _ h'=>h');refine wpAny_bind (wpAny_mono C2 (fun _ Y2 U2=>wpAny_bind (wpAny_mono U2 (fun ok Y9 Z7=>?_) fun _ _ h'=>h')) fun _ _ h'=>h');cases ok with
  | false=>exact wpAny_pure ⟨rfl,Z7⟩
  | true =>
   exact wpAny_bind (wpAny_bind (wpAny_mono Z7 (fun x Z6 C3=>wpAny_bind (wpAny_mono C3 (fun _ U9 C4=>wpAny_pure (wpAny_pure ⟨rfl,C4⟩)) fun _ _ h'=>h')) fun _ _ h'=>h'))
end
end DL
end
section
namespace DL
open PySem Spec PyProof.Rows L2
def relS (sc scope:Scope):Scope :=
 { scope with names:=scope.names.map fun (n,k)=>if (k==.free&&sc.kind==.function&&sc.names.lookup n==some .cell) then (n,.cell) else (n,k) }
theorem zDK {names:List (Str×NameKind)}{x:Str}{k:NameKind}:names.lookup x=some k->(x,k)∈names:=fun h=>PySem.mem_of_lookup h
theorem zCW:∀ {names:List (Str×NameKind)} {x:Str} {k:NameKind},(names.map (·.1)).Nodup->(x,k)∈names->names.lookup x=some k
 | (y,j)::r,x,k,nd,hm=>by
  rw [map_cons,nodup_cons] at nd;rw [lookup_cons];rcases mem_cons.mp hm with e | hm2
  .cases e;simp
  .have ne:(x==y)=false:=by
    cases b:x==y with
    | false=>rfl
    | true =>
     have e1:x=y:=by simpa using b
     exact absurd (show y∈r.map (·.1) from mem_map.mpr ⟨(x,k),hm2,e1⟩) nd.1
   rw [ne];exact zCW nd.2 hm2
theorem zCX {sc:Scope}:∀ (names:List (Str×NameKind)) (x:Str),(names.map fun (n,k)=>if (k==NameKind.free&&sc.kind==.function&&sc.names.lookup n==some .cell) then (n,NameKind.cell) else (n,k)).lookup x =
  (names.lookup x).map fun k=>if (k==NameKind.free&&sc.kind==.function&&sc.names.lookup x==some .cell) then NameKind.cell else k
 | [],x=>rfl
 | (n,k)::r,x=>by
  rw [map_cons,lookup_cons];have ih:=zCX (sc:=sc) r x;cases b:x==n with
  | true =>
   have e1:x=n:=by simpa using b
   subst e1;dsimp only;by_cases c:(k==NameKind.free&&sc.kind==.function&&sc.names.lookup x==some .cell)=true
   .rw [if_pos c,lookup_cons];simp only [beq_self_eq_true,Option.map_some,if_pos c]
   .rw [if_neg c,lookup_cons];simp only [beq_self_eq_true,Option.map_some,if_neg c]
  | false =>
   dsimp only;by_cases c:(k==NameKind.free&&sc.kind==.function&&sc.names.lookup n==some .cell)=true
   .rw [if_pos c,lookup_cons,b];exact ih
   .rw [if_neg c,lookup_cons,b];exact ih
def ownB (scope:Scope)(y:Str):Bool:=match scope.names.lookup y with
 | some .local=>true
 | some .cell=>true
 | _=>false
structure zCT (sc scope:Scope):Prop where
 kind:scope.kind=.function
 nd:(scope.names.map (·.1)).Nodup
 fr:∀ x∈scope.names,x.2=.free->sc.names.lookup x.1=some .cell\/sc.names.lookup x.1=some .free
theorem zB4:∀ (names:List (Str×NameKind)) (n:Nat) (acc:List (Str×Addr)),(∀ x y c,acc.lookup x=some c->acc.lookup y=some c->x=y)->(∀ x c,acc.lookup x=some c->c < n)->∀ x y c,(cellsFrom n names acc).lookup x=some c->(cellsFrom n names acc).lookup y=some c->x=y
 | [],n,acc,h1,_,x,y,c,e1,e2=>h1 x y c e1 e2
 | (z,k)::r,n,acc,h1,h2,x,y,c,e1,e2=>by
  unfold cellsFrom at e1 e2;cases b:k==.cell with
  | false =>
   rw [b,if_neg Bool.false_ne_true] at e1 e2;exact zB4 r n acc h1 h2 x y c e1 e2
  | true =>
   rw [b,if_pos rfl] at e1 e2;refine zB4 r (n+1) _ ?_ ?_ x y c e1 e2
   .intro x y c q1 q2;rw [lookup_cons] at q1 q2;cases b1:x==z with
    | true =>
     cases b2:y==z with
     | true =>
      have e3:x=z:=by simpa using b1
      have e4:y=z:=by simpa using b2
      rw [e3,e4]
     | false =>
      rw [b1] at q1;rw [b2] at q2;cases q1;exact absurd (h2 y _ q2) (lt_irrefl _)
    | false =>
     cases b2:y==z with
     | true =>
      rw [b1] at q1;rw [b2] at q2;cases q2;exact absurd (h2 x _ q1) (lt_irrefl _)
     | false =>
      rw [b1] at q1;rw [b2] at q2;exact h1 x y c q1 q2
   .intro x c q1;rw [lookup_cons] at q1;cases b1:x==z with
    | true=>rw [b1] at q1;cases q1;exact Nat.lt_succ_self _
    | false=>rw [b1] at q1;exact Nat.lt_succ_of_lt (h2 x c q1)
theorem zA0 {x:Str}:∀ (names:List (Str×NameKind)) (n:Nat) (acc:List (Str×Addr)),(∃ c,acc.lookup x=some c)->∃ c,(cellsFrom n names acc).lookup x=some c
 | [],n,acc,h=>h
 | (z,k)::r,n,acc,h=>by
  unfold cellsFrom;cases b:k==.cell with
  | false=>rw [if_neg Bool.false_ne_true];exact zA0 r n acc h
  | true =>
   rw [if_pos rfl];refine zA0 r (n+1) _ ?_;rw [lookup_cons];cases b1:x==z with
   | true=>exact ⟨_,rfl⟩
   | false=>exact h
theorem zB5 {x:Str}:∀ (names:List (Str×NameKind)) (n:Nat) (acc:List (Str×Addr)),(x,NameKind.cell)∈names->∃ c,(cellsFrom n names acc).lookup x=some c
 | (z,k)::r,n,acc,hm=>by
  unfold cellsFrom;rcases mem_cons.mp hm with e | hm
  .cases e;rw [show (NameKind.cell==NameKind.cell)=true from rfl,if_pos rfl];exact zA0 r (n+1) _ ⟨n,by rw [lookup_cons];simp⟩
  .cases b:k==.cell with
   | false=>rw [if_neg Bool.false_ne_true];exact zB5 r n acc hm
   | true=>rw [if_pos rfl];exact zB5 r (n+1) _ hm
theorem zAd:∀ (names:List (Str×NameKind)) (h:Heap) (b:Addr) (o:Obj),h.get? b=some o->(pushCells h names).get? b=some o
 | [],h,b,o,e=>e
 | (z,k)::r,h,b,o,e=>by
  unfold pushCells;cases c:k==.cell with
  | false=>rw [if_neg Bool.false_ne_true];exact zAd r h b o e
  | true=>rw [if_pos rfl];exact zAd r _ b o (get?_push_of_some _ e)
theorem zBn:∀ (names:List (Str×NameKind)) (h:Heap) (acc:List (Str×Addr)),(∀ x c,acc.lookup x=some c->∃ v,h.IsCell c v)->∀ x c,(cellsFrom h.objs.size names acc).lookup x=some c->∃ v,(pushCells h names).IsCell c v
 | [],h,acc,q,x,c,e=>q x c e
 | (z,k)::r,h,acc,q,x,c,e=>by
  unfold cellsFrom at e;unfold pushCells;cases b:k==.cell with
  | false =>
   rw [b,if_neg Bool.false_ne_true] at e;rw [if_neg Bool.false_ne_true];exact zBn r h acc q x c e
  | true =>
   rw [b,if_pos rfl] at e;rw [if_pos rfl];have es:(h.push { cls:=.type "cell",data:=.cell none }).objs.size=h.objs.size+1:=Heap.size_push ..;rw [<- es] at e;refine zBn r (h.push { cls:=.type "cell",data:=.cell none }) ((z,h.objs.size)::acc) ?_ x c e;intro y d p;rw [lookup_cons] at p;cases b1:y==z with
   | true =>
    rw [b1] at p;cases p;exact ⟨none,_,get?_push_size _ rfl,rfl⟩
   | false =>
    rw [b1] at p;obtain ⟨v,o,ho,hd⟩:=q y d p;exact ⟨v,o,get?_push_of_some _ ho,hd⟩
def zBO (scope:Scope)(X:Cx)(s:Shared):Env :=
 { newEnv scope s.heap.objs.size X.env.globals (cellsFrom (s.heap.objs.size+1) scope.names (zBs X.env scope.names [])) X.env.qual none .none (some X.env) builtinsNs with scope:=relabel scope X.env }
def zAO (X:Cx)(N:List Str)(scope:Scope)(s:Shared)(H:Hp)(fp:List Addr):Cx :=
 { X with N:=N,s0:=s,Z3:=H,env:=zBO scope X s,outer:=X.stack,stack:=X.stack,ex:=fp,fn:=ownB scope,pn:=[],xe:=fun _ _=>False }
section
variable {X:Cx}{pins:List (Addr×Obj)}{B σc:St}{H:Hp}{s:Shared}{fp:List Addr}{scope:Scope}{N:List Str}
theorem zEF (I:Inv X pins B H s)(cs:zCT X.env.scope scope):∀ x∈scope.names,x.2=.free->∃ c,X.env.cells.lookup x.1=some c:=fun x hx hf =>
 I.ok.has x.1 (cs.fr x hx hf)
theorem zHm (I:Inv X pins B H s)(hf:∀ b∈fp,FpOk X pins H b/\∃ o,s.heap.get? b=some o)(cs:zCT X.env.scope scope)
  (C5:∀ (i:Nat) (x:Str) (v:V),N[i]?=some x->σc[i]?=some (some v)->Vis (relS X.env.scope scope) x->scope.names.lookup x=some .free/\∃ j:Nat,X.N[j]?=some x/\B[j]?=some (some v)) (hlen:σc.length=N.length) :
  Inv (zAO X N scope s H fp) [] σc H { s with heap:=pushCells (s.heap.push { cls:=.type "dict",data:=.dict #[] }) scope.names }:=by
 have kp:∀ b o,s.heap.get? b=some o->(pushCells (s.heap.push { cls:=.type "dict",data:=.dict #[] }) scope.names).get? b=some o:=fun b o e=>zAd _ _ b o (get?_push_of_some _ e)
 have cl_env:∀ x c,(zBs X.env scope.names []).lookup x=some c->X.env.cells.lookup x=some c:=fun x c e=>zGE scope.names [] (fun _ _ q=>by simp at q) x c e
 have cl_lt:∀ x c,(zBs X.env scope.names []).lookup x=some c->c < s.heap.objs.size:=fun x c e=>by
  obtain ⟨v,q⟩:=I.cell x c (cl_env x c e);exact q.lt
 have cells:∀ x c,(zBO scope X s).cells.lookup x=some c->((x,NameKind.cell)∈scope.names/\s.heap.objs.size+1<=c)\/(zBs X.env scope.names []).lookup x=some c:=fun x c e=>zB6 scope.names _ _ c e
 have kd:∀ x,(zBO scope X s).kindOf x=(scope.names.lookup x).map fun k=>if (k==NameKind.free&&X.env.scope.kind==.function&&X.env.scope.names.lookup x==some .cell) then NameKind.cell else k:=fun x=>zCX (sc:=X.env.scope) scope.names x
 have hes:(s.heap.push { cls:=.type "dict",data:=.dict #[] }).objs.size=s.heap.objs.size+1:=Heap.size_push ..;refine ⟨⟨I.ok.mod,cs.kind,I.ok.glob,I.ok.blt,le_refl _,fun x y c h1 h2=>?_,fun x hx=>?_,fun x c hx h=>?_,I.ok.hd,I.ok.frames,.inl rfl,fun b hb=>⟨?_,fun x c h z=>?_⟩,fun b o e=>I.bs b o e,le_trans I.ok.bsz I.sz,fun b o e hb=>?_,fun b hb z=>?_,I.stack,I.stkFree,I.ok.pyl,I.tabs⟩,
  rfl,I.bare,Un.kept kp,⟨fun _=>none,?_,fun i x v h1 h2 h3=>?_⟩,fun x c h=>?_,I.hok.fresh (le_refl _),fun x c h=>?_,fun p hp=>absurd (show p∈([]:List (Addr×Obj)) from hp) (by simp),I.hok.kept kp,hlen⟩
 .exact zB4 scope.names _ _ (fun x y c q1 q2=>I.ok.inj x y c (cl_env x c q1) (cl_env y c q2)) (fun x c q=>Nat.lt_succ_of_lt (cl_lt x c q)) x y c h1 h2
 .replace hx:(zBO scope X s).kindOf x=some .cell\/(zBO scope X s).kindOf x=some .free:=hx;rw [kd x] at hx;cases q:scope.names.lookup x with
  | none=>rw [q] at hx;simp at hx
  | some k =>
   rw [q] at hx;by_cases kf:k=.free
   .subst kf;have hm:=zDK q;exact zA0 scope.names _ _ (zEG scope.names [] hm (zEF I cs _ hm rfl))
   .have e1:(k==NameKind.free)=false:=by simpa using kf
    simp only [e1,Bool.false_and,Option.map_some,Bool.false_eq_true,if_false] at hx;rcases hx with hx | hx
    .cases hx;exact zB5 scope.names _ _ (zDK q)
    .cases hx;exact absurd rfl kf
 .rcases cells x c h with ⟨_,q⟩ | q
  .exact le_trans (Nat.le_succ _) q
  .rcases zEk scope.names [] c q with hm | ⟨d,hm⟩
   .have e1:=zCW cs.nd hm;have hx':ownB scope x=true:=hx;unfold ownB at hx';rw [e1] at hx';cases hx'
   .simp at hm
 .obtain ⟨_,o,e⟩:=hf b hb;exact ne_of_lt (lt_size e)
 .obtain ⟨⟨f0,f1,f2,f3,f4,f5⟩,o,e⟩:=hf b hb;rcases cells x c h with ⟨_,q⟩ | q
  .have:=lt_size e;rw [z] at q;exact absurd (lt_of_lt_of_le (Nat.lt_succ_of_lt this) q) (lt_irrefl _)
  .exact f4 x c (cl_env x c q) z
 .obtain ⟨⟨f0,f1,f2,f3,f4,f5⟩,_⟩:=hf b hb;rcases f3 with f3 | f3
  .exact I.ok.noex b o e f3
  .exact absurd (lt_of_lt_of_le (lt_size e) (le_trans I.ok.bsz f3)) (lt_irrefl _)
 .obtain ⟨⟨f0,f1,f2,f3,f4,f5⟩,_⟩:=hf b hb;rcases mem_cons.mp (I.stkSub b z) with q | q
  .exact f1 q
  .exact f2 q
 .exact (Heap.Ns.new s.heap (.type "dict")).keeps (zAd _ _)
 .obtain ⟨q1,j,q2,q3⟩:=C5 i x v h1 h2 h3;have hm:=zDK q1;have hv:=cs.fr _ hm rfl;obtain ⟨m,hn,hl⟩:=I.loc;obtain ⟨u,ru,lk⟩:=hl j x v q2 q3 (hv.elim (fun e=>.inr (.inl e)) fun e=>.inr (.inr e));refine ⟨u,ru,.inr ⟨?_,?_⟩⟩
  .show (zBO scope X s).kindOf x=_\/(zBO scope X s).kindOf x=_;rw [kd x,q1];dsimp only [Option.map_some];split
   .exact .inl rfl
   .exact .inr rfl
  .rcases lk with ⟨k1,_⟩ | ⟨_,c,k2,k3⟩
   .have k1':X.env.scope.names.lookup x=some .local:=k1;rcases hv with hv | hv
    .rw [k1'] at hv;cases hv
    .rw [k1'] at hv;cases hv
   .obtain ⟨c',e'⟩:=zA0 scope.names (s.heap.objs.size+1) _ (zEG (env:=X.env) scope.names [] hm ⟨c,k2⟩);refine ⟨c',e',?_⟩;rcases cells x c' e' with ⟨z,_⟩ | z
    .have:=zCW cs.nd z;rw [q1] at this;cases this
    .have:=cl_env x c' z;rw [k2] at this;cases this;exact k3.keeps kp
 .have e':(cellsFrom (s.heap.push { cls:=.type "dict",data:=.dict #[] }).objs.size scope.names (zBs X.env scope.names [])).lookup x=some c:=by rw [hes];exact h
  exact zBn scope.names _ _ (fun y d q=>by
   obtain ⟨v,w⟩:=I.cell y d (cl_env y d q);exact ⟨v,w.keeps fun b o e=>get?_push_of_some _ e⟩) x c e'
 .rcases cells x c h with ⟨_,q⟩ | q
  .exact I.hok.fresh (le_trans (Nat.le_succ _) q)
  .exact I.freeC x c (cl_env x c q)
end
abbrev noN:Str := ""
def mask {U:Type}(z:U):List Nat->List U->List U
 | [],l=>l
 | m::ms,l=>mask z ms (l.set m z)
theorem zAl {U:Type}(z:U):∀ (ms:List Nat) (l:List U),(mask z ms l).length=l.length
 | [],l=>rfl
 | m::ms,l=>by unfold mask;rw [zAl z ms,length_set]
theorem zA5 {U:Type}{z y:U}{i:Nat}:∀ {ms:List Nat} {l:List U},(mask z ms l)[i]?=some y->(y=z/\i∈ms)\/(l[i]?=some y/\i∉ms)
 | [],l,h=>.inr ⟨h,by simp⟩
 | m::ms,l,h=>by
  unfold mask at h;rcases zA5 h with ⟨e,hm⟩ | ⟨e,hm⟩
  .exact .inl ⟨e,mem_cons_of_mem _ hm⟩
  .rcases zAV e with ⟨e1,e2,_⟩ | ⟨ne,e1⟩
   .exact .inl ⟨e2,by rw [<- e1];exact mem_cons_self⟩
   .exact .inr ⟨e1,fun z=>(mem_cons.mp z).elim (fun q=>ne q.symm) hm⟩
theorem zE9 {U:Type}{z:U}{i:Nat}:∀ {ms:List Nat} {l:List U},i∉ms->(mask z ms l)[i]?=l[i]?
 | [],l,_=>rfl
 | m::ms,l,h=>by
  unfold mask;rw [zE9 fun q=>h (mem_cons_of_mem _ q),getElem?_set_ne fun q=>h (by rw [q];exact mem_cons_self)]
theorem zBh {U:Type}{l:List (Option U)}{k i:Nat}{y:U}(h:(l++List.replicate k none)[i]?=some (some y)):l[i]?=some (some y)/\i < l.length:=by
 by_cases hi:i < l.length
 .rw [getElem?_append_left hi] at h;exact ⟨h,hi⟩
 .rw [getElem?_append_right (by omega),getElem?_replicate] at h;split at h<;>cases h
theorem DS.ext {K:W.Frag}{H:Hp}{S:List Addr}{B:St}{G:Dst}(h:DS K H S B G)(ms:List Nat)(k:Nat):DS K H S (mask none ms B++List.replicate k none) (mask none ms G++List.replicate k none):=by
 refine ⟨by rw [length_append,length_append,zAl,zAl,h.len,length_replicate,length_replicate],h.sok,fun i d o q=>?_,fun i j d e a q1 q2 q3 q4=>?_⟩
 .obtain ⟨q,hi⟩:=zBh q;rcases zA5 q with ⟨z,_⟩ | ⟨q,ni⟩
  .cases z
  .obtain ⟨v,w1,w2⟩:=h.get i d o q;exact ⟨v,by rw [getElem?_append_left (by rw [zAl] at hi ⊢;rw [h.len];exact hi),zE9 ni];exact w1,w2⟩
 .obtain ⟨q1,_⟩:=zBh q1;obtain ⟨q2,_⟩:=zBh q2;obtain ⟨q3,_⟩:=zBh q3;obtain ⟨q4,_⟩:=zBh q4;rcases zA5 q1 with ⟨z,_⟩ | ⟨q1,_⟩
  .cases z
  rcases zA5 q2 with ⟨z,_⟩ | ⟨q2,_⟩
  .cases z
  rcases zA5 q3 with ⟨z,_⟩ | ⟨q3,_⟩
  .cases z
  rcases zA5 q4 with ⟨z,_⟩ | ⟨q4,_⟩
  .cases z
  exact h.inj i j d e a q1 q2 q3 q4
def zBb (t:D->Dst->Option Dst)(c:Dst->Option Bool)(e:Dst->Option R):List D->Dst->Option (List D)
 | [],_=>some []
 | x::xs,G=>(t x G).bind fun O3=>(c O3).bind fun b=>if b=true then (e O3).bind fun r=>if r.2=.dt then none else (zBb t c e xs O3).bind fun ys=>some (r.1::ys) else zBb t c e xs O3
def zFN (ms:List Nat)(k:Nat)(f:Dst->Option (List D))(t:D->Dst->Option Dst)(c:Dst->Option Bool)(e:Dst->Option R):Dst->Option R:=fun G =>
 (f G).bind fun zs=>if zs.length<=10000 then (zBb t c e zs (mask none ms G++List.replicate k none)).bind fun ys=>some (.lst ys,.fr) else none
def GCs (X:Cx)(ifs:List Expr)(c:Dst->Option Bool):Prop:=∀ (pins:List (Addr×Obj)) (s:Shared) (B:St) (H:Hp) (Q:Bool->Hp->Prop),Inv X pins B H s->gB X.K c B H Q ->
 wpAny (model X.prog X.w) X.A (forIn ifs true fun c r=>if r=true then do let ok<-isTrue c X.env (eval c X.env);pure (ForInStep.yield ok) else pure (ForInStep.yield r)) (TP X pins B Q) X.xe s
section
variable {X:Cx}
theorem zPm:GCs X [] (fun _=>some true):=fun pins s B H Q I zy120=>by obtain ⟨S,G,b,ds,e,c⟩:=zy120;exact wpAny_tests_nil ⟨H,I,by cases e;exact c H (Same.refl _)⟩
theorem zPl {a:Expr}{c:Dst->Option Bool}(h:GT X a c):GCs X [a] c:=fun pins s B H Q I q=>wpAny_tests_one (h pins s B H Q I q)
theorem zGB {tg iter elt:Expr}{ifs:List Expr}{scope:Scope}{pos:Pos}{ms:List Nat}{xs:List Str}{f:Dst->Option (List D)}{t:D->Dst->Option Dst}{c:Dst->Option Bool}{e:Dst->Option R}(hcalm:X.calm=true)(hi:GI X tg iter f)(cs:zCT X.env.scope scope)
  (hm:∀ (i:Nat) x,X.N[i]?=some x->ownB scope x=true->i∈ms)
  (hg:∀ s H fp,GG (zAO X (mask noN ms X.N++xs) scope s H fp) tg t)
  (hc:∀ s H fp,GCs (zAO X (mask noN ms X.N++xs) scope s H fp) ifs c) (he:∀ s H fp,GE (zAO X (mask noN ms X.N++xs) scope s H fp) elt e)
  {pins:List (Addr×Obj)} {s:Shared} {B:St} {H:Hp} {S:List Addr} {G:Dst} {zs ys:List D} (I:Inv X pins B H s) (ds:DS X.K H S B G) (ez:f G=some zs) (hz:zs.length<=10000) (ey:zBb t c e zs (mask none ms G++List.replicate xs.length none)=some ys)
  {RR:Value->Addr->Result->Shared->Prop}
  (fin:∀ (D C:Addr) (s1:Shared) (H'':Hp) (m:Str->Option Value),s1.heap.Ns C m->(∀ h',Heap.SameBut C s1.heap h'->Inv X pins B H'' { s1 with heap:=h' })->H'' C=none->C≠X.env.locals->C∉X.fs->X.s0.heap.objs.size<=C ->
   (∀ x c,X.env.cells.lookup x=some c->c≠C)->(∀ p∈X.pn++pins,p.1≠C)->Same H H''->RV X.K H H'' S (.lst ys,.fr) (.ref D)->RR (.ref D) C (.ok .next) s1) :
  wpAny (model X.prog X.w) X.A (eval iter X.env) (fun x O1=>wpAny (model X.prog X.w) X.A (pyIter x) (fun it Y2=>wpAny (model X.prog X.w) X.A (newList []) (fun acc Y9 =>
   wpAny (model X.prog X.w) X.A (newFunctionEnv scope X.env.globals (zBs X.env scope.names []) [] X.env.qual none .none (some X.env)) (fun cenv Z6 =>
    codeAny (model X.prog X.w) X.A (.compStart (.ListComp elt [⟨tg,iter,ifs,0⟩] scope pos) 0 it acc { cenv with scope:=relabel scope X.env }) (RR acc cenv.locals) Z6) X.xe Y9) X.xe Y2) X.xe O1) X.xe s:=by
 obtain ⟨wi,hwi,hI⟩:=hi;refine thn (hwi pins s B H (fun J H1=>Same H H1/\∀ (i:Nat) H2,i<=zs.length->Same (hide H1 S) H2->(i=zs.length->J.stop i H2)/\(i < zs.length->J.go i H2/\∀ v H3,J.yld i H2 v H3->H3=H2/\∀ x,zs[i]?=some x->Den X.K (hide H1 S) x v)) I (hI B H S G zs _ ds ez fun J H1 s1 hJ=>⟨s1,hJ⟩)) fun v s1 h1=>thn h1 fun itv s2 h2=>?_
 obtain ⟨it,fp,tn,J,H2,rfl,I2,T,st2,f2,s12,hJ⟩:=h2;refine wpAny_newObj_type (zD1 ?_);have e3:∃ s3:Shared,s3={ s2 with heap:=s2.heap.push { cls:=.type "list",dict:=none,data:=.seq ([]:List Value).toArray } }:=⟨_,rfl⟩;obtain ⟨s3,hs3⟩:=e3;rw [<- hs3];have eD:∃ D,D=s2.heap.objs.size:=⟨_,rfl⟩;obtain ⟨D,hD⟩:=eD;rw [<- hD];have hC:s3.heap.objs.size=D+1:=by rw [hs3,hD];exact Heap.size_push ..
 have k23:∀ b o,s2.heap.get? b=some o->s3.heap.get? b=some o:=fun b o q=>by rw [hs3];exact get?_push_of_some _ q
 have I3:Inv X pins B H2 s3:=by rw [hs3];exact I2.kept (t':=s2.toks) fun b o q=>get?_push_of_some _ q
 have oD:s3.heap.get? D=some { cls:=.type "list",data:=.seq ([]:List Value).toArray }:=by rw [hs3,hD];exact get?_push_size _ rfl
 have H2D:H2 D=none:=by rw [hD];exact I2.hok.fresh (le_refl _)
 have fplt:∀ b∈fp,b < D:=fun b hb=>by
  obtain ⟨o,q,_⟩:=T.obj _ _ st2 b hb;rw [hD];exact lt_size q
 have hfD:∀ b∈D::fp,FpOk X pins H2 b/\∃ o,s3.heap.get? b=some o:=fun b hb=>by
  rcases mem_cons.mp hb with rfl | hb
  .exact ⟨I2.fpOk (by rw [hD];exact le_refl _) H2D,_,oD⟩
  .obtain ⟨o,q,_⟩:=T.obj _ _ st2 b hb;exact ⟨f2 b hb,o,k23 b o q⟩
 have lenN:(mask none ms B++List.replicate xs.length none).length=(mask noN ms X.N++xs).length:=by
  rw [length_append,length_append,zAl,zAl,length_replicate,I.len]
 have Ic:=zHm (fp:=D::fp) (N:=mask noN ms X.N++xs) (σc:=mask none ms B++List.replicate xs.length none) I3 hfD cs (fun i x v q1 q2 q3=>by
  obtain ⟨q2,hi2⟩:=zBh q2;rcases zA5 q2 with ⟨z,_⟩ | ⟨q2,ni⟩
  .cases z
  have hiN:i < (mask noN ms X.N).length:=by rw [zAl] at hi2 ⊢;rw [<- I.len];exact hi2
  rw [getElem?_append_left hiN] at q1;rcases zA5 q1 with ⟨_,z⟩ | ⟨q1,_⟩
  .exact absurd z ni
  refine ⟨?_,i,q1,q2⟩;have no:ownB scope x=false:=by
   cases b:ownB scope x with
   | false=>rfl
   | true=>exact absurd (hm i x q1 b) ni
  unfold Vis relS at q3;rw [zCX] at q3;unfold ownB at no;cases w:scope.names.lookup x with
  | none=>rw [w] at q3;simp at q3
  | some k =>
   rw [w] at no;cases k with
   | free=>rfl
   | «local»=>cases no
   | cell=>cases no
   | _=>rw [w] at q3;simp at q3) lenN
 have st4:tn 0 (pushCells (s3.heap.push { cls:=.type "dict",data:=.dict #[] }) scope.names):=T.keep 0 _ _ st2 fun b hb o q=>zAd _ _ b o (get?_push_of_some _ (k23 b o q))
 have loop:codeAny (model X.prog X.w) X.A (.compLoop (.ListComp elt [⟨tg,iter,ifs,0⟩] scope pos) 0 (.ref it) (.ref D) (zBO scope X s3)) (RR (.ref D) s3.heap.objs.size) { s3 with heap:=pushCells (s3.heap.push { cls:=.type "dict",data:=.dict #[] }) scope.names }:=by
  refine zDa (fun n s'=>∃ (i:Nat) (B':St) (H':Hp) (G':Dst) (done more:List DL.D) (vs:List V) (its:List Value),Inv (zAO X (mask noN ms X.N++xs) scope s3 H2 (D::fp)) [] B' H' s'/\tn i s'.heap/\(∀ b∈D::fp,H' b=none)/\s'.heap.PlainList D its.toArray/\Vals vs its/\DS X.K H' S B' G' /\
   Same H2 H'/\DenL X.K (hide H' S) done vs/\zBb t c e (zs.drop i) G'=some more/\done++more=ys/\i<=zs.length/\done.length<=i/\n=zs.length - i) ?_ zs.length
   ⟨0,_,H2,_,[],ys,[],[],Ic,st4,fun b hb=>(hfD b hb).1.1,⟨_,zAd _ _ D _ (get?_push_of_some _ oD)⟩,.nil,(ds.mono s12).ext ms xs.length,Same.refl _,.nil,by rw [List.drop_zero];exact ey,rfl,zero_le _,le_refl _,by simp⟩
  rintro n s' ⟨i,B',H',G',done,more,vs,its,Ic',st',fr',⟨nD,pl⟩,rv,ds',sm,dn,ec,ed,hi',hl',rfl⟩;have lenv:its.length<=zs.length:=by rw [<- rv.length,<- dn.length];exact le_trans hl' hi'
  obtain ⟨j1,j2⟩:=hJ i H' hi' (zAg.trans sm);have fpc:∀ {b:Addr} {pn:List (Addr×Obj)} {Hx:Hp},b∈D::fp->Hx b=none->(∀ p∈pn,p.1≠b)->FpOk (zAO X (mask noN ms X.N++xs) scope s3 H2 (D::fp)) pn Hx b:=fun {b pn Hx} hb hn hp =>
   ⟨hn,(Ic'.ok.exf b hb).1,Ic'.ok.exfs b hb,.inl hb,(Ic'.ok.exf b hb).2,fun p hp'=>hp p (show p∈pn from hp')⟩
  have pinD:∀ {p:Addr×Obj} {h:Heap},p∈zA3 [D] h->p.1=D:=fun {p h} hp=>by simpa using (zDz hp).1
  have I0:Inv (zAO X (mask noN ms X.N++xs) scope s3 H2 (D::fp)) ([]++zA3 [D] s'.heap) B' H' s':=Ic'.pinned (fp:=[D]) (fun b hb=>by
   have eb:b=D:=by simpa using hb
   subst eb;exact fpc mem_cons_self (fr' _ mem_cons_self) fun p hp=>absurd hp (by simp)) fun b hb=>by
   have eb:b=D:=by simpa using hb
   subst eb;exact ⟨_,pl,fun v z=>by cases z⟩
  have fp0:∀ b∈fp,FpOk (zAO X (mask noN ms X.N++xs) scope s3 H2 (D::fp)) ([]++zA3 [D] s'.heap) H' b:=fun b hb=>fpc (mem_cons_of_mem _ hb) (fr' b (mem_cons_of_mem _ hb)) fun p hp z=>by
   have q1:=pinD (by simpa using hp);have q2:=fplt b hb;rw [<- z,q1] at q2;exact absurd q2 (lt_irrefl _)
  have memD:(D,_)∈zA3 [D] s'.heap:=zBQ (by simp) pl;by_cases hlt:i < zs.length
  .obtain ⟨go,yl⟩:=j2 hlt;refine wpAny_mono (T.item (zAO X (mask noN ms X.N++xs) scope s3 H2 (D::fp)) rfl rfl rfl hcalm i ([]++zA3 [D] s'.heap) s' B' H' _ I0 fp0 st' go) (fun r s4 zz60=>?_) fun _ _ z=>z
   obtain ⟨u,hr,h4⟩:=zz60;subst hr;refine wpAny_mono h4 (fun _ s5 zz61=>?_) fun _ _ z=>z
   obtain ⟨x,H5,I5,r5,y5,st5,fr5⟩:=zz61;obtain ⟨rfl,hv⟩:=yl x H5 y5;have pl5:=(I5.pin (D,_) (mem_append_right _ (mem_append_right _ memD))).1;have I5':Inv (zAO X (mask noN ms X.N++xs) scope s3 H2 (D::fp)) ([]++zA3 (D::fp) s5.heap) B' H5 s5:=I5.unpinned.pinned (fp:=D::fp) (fun b hb=>fpc hb (fr' b hb) fun p hp=>absurd hp (by simp)) fun b hb=>by
    rcases mem_cons.mp hb with rfl | hb
    .exact ⟨_,pl5,fun v z=>by cases z⟩
    .exact T.obj _ _ st5 b hb
   have there:∀ {Hx:Hp} {sx:Shared} {Z8:St},Inv (zAO X (mask noN ms X.N++xs) scope s3 H2 (D::fp)) ([]++zA3 (D::fp) s5.heap) Z8 Hx sx->∀ b∈D::fp,(∀ o,s5.heap.get? b=some o->sx.heap.get? b=some o)/\Hx b=none:=fun {Hx sx Z8} Ix b hb=>by
    have q:∃ o,s5.heap.get? b=some o:=by
     rcases mem_cons.mp hb with rfl | hb
     .exact ⟨_,pl5⟩
     .obtain ⟨o,q,_⟩:=T.obj _ _ st5 b hb;exact ⟨o,q⟩
    obtain ⟨o,q⟩:=q;have w:=Ix.pin (b,o) (mem_append_right _ (mem_append_right _ (zBQ hb q)));exact ⟨fun o' q'=>by rw [q] at q';cases q';exact w.1,w.2.1⟩
   rw [drop_eq_getElem_cons hlt] at ec;obtain ⟨O3,e1,ec⟩:=bind_some ec;obtain ⟨b,eb,ec⟩:=bind_some ec;obtain ⟨g,hg1,hg2⟩:=hg s3 H2 (D::fp);have dx:Den X.K (hide H5 S) zs[i] x:=(hv _ (by simp [hlt])).mono (zAQ sm);refine wpAny_mono (hg1 _ s5 B' H5 x u _ I5' r5 (hg2 X.K rfl zs[i] x B' H5 S G' O3 (fun O5 H6=>H6=H5/\DS X.K H5 S O5 O3) ds' dx e1 fun O5 d6=>⟨rfl,d6⟩)) (fun _ s6 zz62=>?_) fun _ _ z=>z.elim
   obtain ⟨O5,H6,I6,q6,ds6⟩:=zz62;subst q6;refine wpAny_mono (hc s3 H2 (D::fp) _ s6 O5 H6 (fun b' H7=>b'=b/\Same H6 H7) I6 ⟨S,O3,b,ds6,eb,fun H7 s7=>⟨rfl,s7⟩⟩) (fun ok s7 zz63=>?_) fun _ _ z=>z.elim
   obtain ⟨H7,I7,q7,s67⟩:=zz63;subst q7;cases ok with
   | false =>
    rw [if_neg Bool.false_ne_true] at ec;rw [if_neg Bool.false_ne_true];exact ⟨zs.length - (i+1),by omega,i+1,O5,H7,O3,done,more,vs,its,I7.unpinned,T.keep _ _ _ st5 fun b hb o q=>(there I7 b (mem_cons_of_mem _ hb)).1 o q,fun b hb=>(there I7 b hb).2,⟨nD,(there I7 D mem_cons_self).1 _ pl5⟩,rv,ds6.mono s67,
     sm.trans s67,dn.mono (zAQ s67),ec,ed,hlt,Nat.le_succ_of_le hl',rfl⟩
   | true =>
    rw [if_pos rfl] at ec;rw [if_pos rfl];obtain ⟨r,er,ec⟩:=bind_some ec;by_cases hr:r.2=.dt
    .rw [if_pos hr] at ec;cases ec
    rw [if_neg hr] at ec;obtain ⟨more',em,ec⟩:=bind_some ec;cases ec;refine wpAny_mono (he s3 H2 (D::fp) _ s7 O5 H7 (fun v H8=>Same H7 H8/\RV X.K H7 H8 S r v) I7 ⟨S,O3,r,ds6.mono s67,er,fun v H8 s8 r8=>⟨s8,r8⟩⟩) (fun uv s8 zz64=>?_) fun _ _ z=>z.elim
    obtain ⟨v,H8,I8,rv8,s78,r8⟩:=zz64;have pl8:=(there I8 D mem_cons_self).1 _ pl5;refine wpAny_list_append_plain (hsz:=by rw [size_toArray];exact le_trans lenv (zCf hz)) ⟨nD,pl8⟩ fun h9 hl9 hs9=>?_
    have I9:Inv (zAO X (mask noN ms X.N++xs) scope s3 H2 (D::fp)) [] O5 H8 { s8 with heap:=h9 }:=I8.unpinned.turned (it:=D) (t':=s8.toks) (fun b o hb q=>hs9.extBut b o hb q) (there I8 D mem_cons_self).2 (Ic'.ok.exf D mem_cons_self).1 (.inl mem_cons_self) (Ic'.ok.exf D mem_cons_self).2 fun p hp=>absurd (show p∈([]:List (Addr×Obj)) from hp) (by simp)
    have hden:=(RV.den (d:=r.1) (k:=r.2) r8 hr);refine ⟨zs.length - (i+1),by omega,i+1,O5,H8,O3,done++[r.1],more',vs++[v],its++[uv],I9,T.keep _ _ _ st5 fun b hb o q=>hs9.extBut b o (fun z=>?_) ((there I8 b (mem_cons_of_mem _ hb)).1 o q),fun b hb=>(there I8 b hb).2,?_,rv.append (.cons rv8 .nil),ds6.mono (s67.trans s78),
     sm.trans (s67.trans s78),(dn.mono (zAQ (s67.trans s78))).append (.cons hden .nil),em,by rw [append_assoc];exact ed,hlt,by rw [length_append,length_singleton];omega,rfl⟩
    .have:=fplt b hb;rw [z] at this;exact absurd this (lt_irrefl _)
    .have ea:its.toArray.push uv=(its++[uv]).toArray:=by simp
     rw [<- ea];exact hl9
  .have ei:i=zs.length:=by omega
   subst ei;refine wpAny_mono (T.done (zAO X (mask noN ms X.N++xs) scope s3 H2 (D::fp)) rfl rfl rfl hcalm _ ([]++zA3 [D] s'.heap) s' B' H' _ I0 fp0 st' (j1 rfl)) (fun r s4 zz65=>?_) fun _ _ z=>z
   obtain ⟨hr,I4⟩:=zz65;subst hr;rw [drop_eq_nil_of_le (le_refl _)] at ec;cases ec;rw [append_nil] at ed;subst ed;obtain ⟨m,ns,_⟩:=id I4.loc;have eC:(zAO X (mask noN ms X.N++xs) scope s3 H2 (D::fp)).env.locals=D+1:=hC;rw [eC] at ns;have pl4:=I4.pin (D,_) (mem_append_right _ (mem_append_right _ memD));have HD:H' D=none:=pl4.2.1;have HC:H' (D+1)=none:=by have:=I4.free;rw [eC] at this;exact this
   have CD:D≠D+1:=ne_of_lt (Nat.lt_succ_self D);have neD:∀ {b:Addr} {o:HO},H' b=some o->b≠D:=fun {b o} q z=>by rw [z,HD] at q;cases q
   have ne2:∀ {b:Addr} {o:HO},H2 b=some o->b≠D:=fun {b o} q z=>by rw [z,H2D] at q;cases q
   have lt2:∀ {b:Addr} {o:Obj},s2.heap.get? b=some o->b < D:=fun {b o} q=>by rw [hD];exact lt_size q
   have outex:∀ {b:Addr} {o:Obj},s2.heap.get? b=some o->b∉fp->b∉D::fp:=fun {b o} q hx z=>(mem_cons.mp z).elim (fun z=>absurd (lt2 q) (by rw [z];exact lt_irrefl _)) hx
   have neC:∀ {b:Addr} {o:Obj},s2.heap.get? b=some o->b≠D+1:=fun {b o} q=>ne_of_lt (Nat.lt_succ_of_lt (lt2 q))
   have gt2:s2.heap.objs.size<=D+1:=by rw [<- hD];exact Nat.le_succ _
   show RR (.ref D) s3.heap.objs.size (.ok .next) s4;rw [hC];refine fin D (D+1) s4 (upd H' D (.lst vs)) m ns (fun h' sb=>?_) ?_ (Nat.ne_of_gt (lt_of_lt_of_le I2.lt gt2)) (I2.nofs gt2) (le_trans I2.sz gt2) (fun x c q z=>?_) (fun p hp z=>?_) ?_ ?_
   .refine I2.call' (s':={ s4 with heap:=h' }) (ch:=fp) ?_ ⟨fun b o q n hb hx=>sb.extBut b o (neC q) (I4.base.keep b o (k23 b o q) n hb (outex q hx)),fun b o q n hb hx=>?_,fun b o q n hx=>?_,fun b o q hx=>?_,fun b ws q=>?_,fun b o w q=>?_,fun b ps q=>?_⟩ (fun b w q=>?_) I4.bare fun b hb=>?_
    .have:=I4.os;rw [hs3] at this;exact this
    .obtain ⟨sl,w⟩:=I4.base.slot b o (k23 b o q) n hb (outex q hx);exact ⟨sl,sb.extBut b _ (neC q) w⟩
    .rw [zAP (ne_of_lt (lt2 q))];exact I4.base.free b o (k23 b o q) n (outex q hx)
    .obtain ⟨o',w⟩:=I4.base.there b o (k23 b o q) (outex q hx);exact ⟨o',sb.extBut b _ (neC q) w⟩
    .rw [zAP (ne2 q)];exact I4.base.tups b ws q
    .rw [zAP (ne2 q)];exact I4.base.frzs b o w q
    .rw [zAP (ne2 q)];exact I4.base.tbls b ps q
    .by_cases z:b=D
     .subst z;rw [zAh] at q;cases q;exact ⟨by rw [rv.length];exact le_trans lenv (zCf hz),its,nD,rv,sb.extBut b _ CD pl4.1⟩
     .rw [zAP z] at q;refine (I4.hok b w q).stay (fun d v hd w'=>sb.extBut d v (fun z'=>?_) w') (fun d w'=>by rw [zAP (neD w')];exact w') (fun d ws w'=>by rw [zAP (neD w')];exact w') fun d ob u w' _=>by rw [zAP (neD w')];exact w'
      rcases hd with hd | hd
      .rw [<- hd,z',HC] at q;cases q
      .rw [z',HC] at hd;cases hd
    .obtain ⟨f0,f1,f2',f3,f4,f5⟩:=f2 b hb;exact ⟨f3,f1,f4,f5⟩
   .rw [zAP (Ne.symm CD)];exact HC
   .obtain ⟨v,w⟩:=I2.cell x c q;have:=w.lt;rw [z,<- hD] at this;exact absurd (Nat.lt_trans this (Nat.lt_succ_self D)) (lt_irrefl _)
   .have:=lt_size (I2.pin p hp).1;rw [z,<- hD] at this;exact absurd (Nat.lt_trans this (Nat.lt_succ_self D)) (lt_irrefl _)
   .exact fun b o q=>by
     have w:=sm b o (s12 b o q);rw [zAP (neD w)];exact w
   .refine ⟨D,vs,done,rfl,rfl,fun z=>?_,?_,zAh,dn.mono fun b o q=>?_⟩
    .obtain ⟨ws,w,_⟩:=(ds.mono s12).sok D z;rw [H2D] at w;cases w
    .exact s12.free H2D
    .obtain ⟨q1,q2⟩:=zAt q;rw [zAN fun z=>(mem_cons.mp z).elim (neD q2) q1,zAP (neD q2)];exact q2
 exact codeAny_compStart_list loop (T.self X.A 0 _ _ _ st4 loop)
theorem zCZ {sc scope:Scope}(cs:zCT sc scope):∀ x∈scope.names,x.2=.local->scope.names.lookup x.1=some .local:=fun x hx e=>by
 have:=zCW (k:=x.2) cs.nd (x:=x.1) hx;rw [this,e]
theorem zGm {tg iter elt:Expr}{ifs:List Expr}{scope:Scope}{pos:Pos}{ms:List Nat}{xs:List Str}{f:Dst->Option (List D)}{t:D->Dst->Option Dst}{c:Dst->Option Bool}{e:Dst->Option R}(hcalm:X.calm=true)(hi:GI X tg iter f)(hs:∀ x,foldedSetIterable iter X.env x=pure x)(cs:zCT X.env.scope scope)
  (hm:∀ (i:Nat) x,X.N[i]?=some x->ownB scope x=true->i∈ms)
  (hg:∀ s H fp,GG (zAO X (mask noN ms X.N++xs) scope s H fp) tg t)
  (hc:∀ s H fp,GCs (zAO X (mask noN ms X.N++xs) scope s H fp) ifs c) (he:∀ s H fp,GE (zAO X (mask noN ms X.N++xs) scope s H fp) elt e) :
  GE X (.ListComp elt [⟨tg,iter,ifs,0⟩] scope pos) (zFN ms xs.length f t c e):=by
 intro pins s B H Q I ⟨S,G,z,ds,ez,cc⟩;obtain ⟨zs,e1,ez⟩:=bind_some ez;by_cases hz:zs.length<=10000
 .rw [if_pos hz] at ez;obtain ⟨ys,e2,ez⟩:=bind_some ez;cases ez;rw [eval_ListComp];refine wpAny_comprehension_free (use:=none) rfl hs (zBP (zEF I cs)) cs.kind (zCZ cs) ?_;refine zGB (RR:=fun acc C=>compPost (model X.prog X.w) X.A X.xe none (EP X pins B Q) acc C) hcalm hi cs hm hg hc he I ds e1 hz e2 fun D C s1 H'' m ns hI _ _ _ _ _ _ sm rv=>?_
  exact ⟨m,ns,fun h' sb=>⟨.ref D,H'',hI h' sb,rfl,cc _ H'' sm rv⟩⟩
 .rw [if_neg hz] at ez;cases ez
theorem zKL {i:Nat}{y:Str}{py spos:Pos}{tg iter elt:Expr}{ifs:List Expr}{scope:Scope}{pos:Pos}{ms:List Nat}{xs:List Str}{f:Dst->Option (List D)}{t:D->Dst->Option Dst}{c:Dst->Option Bool}{e:Dst->Option R}(hcalm:X.calm=true)(hi:GI X tg iter f)(hs:∀ x,foldedSetIterable iter X.env x=pure x)(cs:zCT X.env.scope scope)
  (hm:∀ (i:Nat) x,X.N[i]?=some x->ownB scope x=true->i∈ms)
  (hg:∀ s H fp,GG (zAO X (mask noN ms X.N++xs) scope s H fp) tg t)
  (hc:∀ s H fp,GCs (zAO X (mask noN ms X.N++xs) scope s H fp) ifs c) (he:∀ s H fp,GE (zAO X (mask noN ms X.N++xs) scope s H fp) elt e)
  (hN:X.N.Nodup) (hy:X.N[i]?=some y) (hl:Loc X.env.scope y) (hf:X.fn y=true\/X.env.scope.names.lookup y=some .local) :
  GS X (.Assign [.Name y py] (.ListComp elt [⟨tg,iter,ifs,0⟩] scope pos) spos) (setD i (zFN ms xs.length f t c e)):=by
 have hge:GE X (.ListComp elt [⟨tg,iter,ifs,0⟩] scope pos) (zFN ms xs.length f t c e):=zGm hcalm hi hs cs hm hg hc he;have hb:∃ b,swapsWith (.ListComp elt [⟨tg,iter,ifs,0⟩] scope pos) (some (.Name y py)) spos.line X.env=pure b:=⟨_,rfl⟩;obtain ⟨b,hb⟩:=hb;cases b with
 | false=>exact zNr hN hy hl hge hb hf
 | true =>
  intro H0 pins s B H E I ⟨S,G,o,ds,h0,eo,p⟩;obtain ⟨r,er,eo⟩:=bind_some eo;obtain ⟨zs,e1,ez⟩:=bind_some er;by_cases hz:zs.length<=10000
  .rw [if_pos hz] at ez;obtain ⟨ys,e2,ez⟩:=bind_some ez;cases ez;rw [exec_Assign_Name_used _ _ _ _ hb];refine wpAny_bind (wpAny_standAt (wpAny_bind ?_));show wpAny _ X.A (do let _<-comprehension (.ListComp elt [⟨tg,iter,ifs,0⟩] scope pos) scope X.env _ (newList []) false (eval iter X.env) (some (assign (.Name y py) X.env))) _ _ s;refine wpAny_bind (wpAny_mono (wpAny_comprehension_free (use:=some (assign (.Name y py) X.env)) (Q:=fun _ s'=>SP X pins E .next s') rfl hs (zBP (zEF I cs)) cs.kind (zCZ cs) ?_) (fun _ s' hq=>wpAny_pure (wpAny_pure hq)) fun _ _ e=>e);refine zGB (RR:=fun acc C=>compPost (model X.prog X.w) X.A X.xe (some (assign (.Name y py) X.env)) (fun _ s'=>SP X pins E .next s') acc C) hcalm hi cs hm hg hc he I ds e1 hz e2 fun D C s1 H'' m ns hI hC1 hC2 hC3 hC4 hC5 hC6 sm rv=>?_
   have I1:Inv X pins B H'' s1:=hI s1.heap (Heap.SameBut.refl ..);obtain ⟨oC,es,ep,ho,hd,w3⟩:=id ns;have I2:Inv X (pins++[(C,oC)]) B H'' s1:=I1.pins_of fun q hq=>(mem_append.mp hq).elim (fun z=>I1.pin q (mem_append_right _ z)) fun z=>by
    have e:q=(C,oC):=by simpa using z
    subst e;exact ⟨ho,hC1,hC2,hC3,fun v z=>by rw [hd] at z;cases z⟩
   show wpAny (model X.prog X.w) X.A (assign (.Name y py) X.env (.ref D)) _ X.xe s1;refine thn (zDH hN hy hl hf _ s1 B H'' (.ref D) (.ref D) (fun O5 H6=>H6=H''/\O5=B.set i (some (.ref D))) I2 rfl ⟨rfl,rfl⟩) fun _ s6 zz66=>?_
   obtain ⟨O5,H6,I6,q1,q2⟩:=zz66;subst q1 q2;have pc:=I6.pin (C,oC) (mem_append_right _ (mem_append_right _ (by simp)));refine ⟨m,⟨oC,es,ep,pc.1,hd,w3⟩,fun h' sb=>?_⟩;refine ⟨_,H6,I6.unpinned.turned (it:=C) (t':=s6.toks) (fun b o hb q=>sb.extBut b o hb q) hC1 (Ne.symm (Ne.symm hC2)) (.inr hC4) hC5 hC6,?_⟩;exact zES ds h0 sm rv eo p
  .rw [if_neg hz] at ez;cases ez
end
section
variable {X:Cx}{tg:Expr}
def iAny (K:W.Frag)(tl:TE):TI:=fun B H R=>tl B H fun x H1=>∃ a,x=.ref a/\(((∃ xs,SqL K H1 a xs)/\R (Itl K a) H1)\/((∃ xs,SqT K H1 a xs)/\R (Itt K a) H1))
theorem zNZ {l:Expr}{tl:TE}(hl:PE X l tl):PI X tg l (iAny X.K tl):=by
 intro pins s B H R I h;refine thn (hl pins s B H _ I h) fun v s1 zz67=>?_
 obtain ⟨x,H1,I1,r1,q1⟩:=zz67;obtain ⟨a,e,q⟩:=q1;subst e;cases r1;rcases q with ⟨⟨xs,hq⟩,q⟩ | ⟨⟨xs,hq⟩,q⟩
 .obtain ⟨its,rv,p,hz⟩:=I1.list hq;refine wpAny_pyIter_list p.isList ?_;refine ⟨s1.heap.objs.size,[s1.heap.objs.size],_,_,H1,rfl,I1.kept (t':=s1.toks) fun b o e=>get?_push_of_some _ e,zIt a _,⟨_,get?_push_size _ rfl,rfl,rfl⟩,fun b hb=>?_,q⟩;have e:b=s1.heap.objs.size:=by simpa using hb
  subst e;exact I1.fpOk (le_refl _) (I1.hok.fresh (le_refl _))
 .obtain ⟨its,rv,p,hz⟩:=I1.tuple hq;refine wpAny_pyIter_tuple (show s1.heap.IsTuple a its.toArray from p) ?_;refine ⟨s1.heap.objs.size,[s1.heap.objs.size],_,_,H1,rfl,I1.kept (t':=s1.toks) fun b o e=>get?_push_of_some _ e,zIG a _,⟨_,get?_push_size _ rfl,rfl,rfl⟩,fun b hb=>?_,q⟩;have e:b=s1.heap.objs.size:=by simpa using hb
  subst e;exact I1.fpOk (le_refl _) (I1.hok.fresh (le_refl _))
def zF1 (f:Dst->Option R):Dst->Option (List D):=fun G=>match f G with
 | some (.lst ds,.cl)=>some ds
 | some (.lst ds,.fr)=>some ds
 | some (.tup ds,.cl)=>some ds
 | _=>none
theorem zR7 {iter:Expr}{f:Dst->Option R}(h:GE X iter f):GI X tg iter (zF1 f):=by
 refine ⟨_,zNZ h,fun B H S G xs Rr ds e q=>?_⟩;have fin:∀ {k:Kd},k≠.dt->f G=some (.lst xs,k)->iAny X.K (gT X.K f) B H Rr:=fun {k} hk ef=>by
  refine ⟨S,G,_,ds,ef,fun v H1 s1 r1=>?_⟩;have d1:=RV.den (d:=.lst xs) (k:=k) r1 hk;rw [Den] at d1;obtain ⟨a,vs,rfl,w1,w2⟩:=d1;refine ⟨a,rfl,.inl ⟨⟨vs,zAg.seq w1⟩,q _ H1 s1 fun i H2 hi k2=>?_⟩⟩;have w3:=k2.seq w1;refine ⟨fun ei=>⟨vs,w3,by rw [<- w2.length,ei];exact le_refl _⟩,fun hl=>?_⟩;have hlv:i < vs.length:=by rw [<- w2.length];exact hl
  refine ⟨⟨vs,vs[i],w3,by simp [hlv]⟩,fun v H3 y=>⟨y.1,fun x ex=>?_⟩⟩;have yv:=y.2 vs w3;obtain ⟨u,q1,q2⟩:=w2.get ex;rw [yv] at q1;cases q1;exact q2
 unfold zF1 at e;split at e
 .rename_i q1;cases e;exact fin (by decide) q1
 .rename_i q1;cases e;exact fin (by decide) q1
 .rename_i q1;cases e;refine ⟨S,G,_,ds,q1,fun v H1 s1 r1=>?_⟩;have d1:Den X.K (hide H1 S) (.tup xs) v:=r1;rw [Den] at d1;obtain ⟨a,vs,rfl,w1,w2⟩:=d1;refine ⟨a,rfl,.inr ⟨⟨vs,Same.tupS zAg w1⟩,q _ H1 s1 fun i H2 hi k2=>?_⟩⟩;have w3:=Same.tupS k2 w1;refine ⟨fun ei=>⟨vs,w3,by rw [<- w2.length,ei];exact le_refl _⟩,fun hl=>?_⟩;have hlv:i < vs.length:=by rw [<- w2.length];exact hl
  refine ⟨⟨vs,vs[i],w3,by simp [hlv]⟩,fun v H3 y=>⟨y.1,fun x ex=>?_⟩⟩;have yv:=y.2 vs w3;obtain ⟨u,q1,q2⟩:=w2.get ex;rw [yv] at q1;cases q1;exact q2
 .cases e
def Itr3 (lo c:Int)(n:Nat):It:=⟨fun i _=>i < n,fun i H x H'=>H'=H/\x=.int (lo+i*c),fun i _=>n<=i⟩
theorem zGR {P:Program}{w:World}{K:W.Frag}{tg:Expr}(it:Addr)(lo c:Int)(n:Nat):Turn P w K tg (Itr3 lo c n) [it] it (fun i h=>IsRangeIter h it (lo+(i:Nat)*c) ((n:Int) - (i:Nat)) c) where
 mem:=by simp
 obj:=fun i h st b hb=>by
  have e:b=it:=by simpa using hb
  subst e;exact ⟨_,st,fun v z=>by
   have z':Data.fields _=Data.cell v:=z;cases z'⟩
 keep:=fun i h h' st k=>k it (by simp) _ st
 item:=by
  intro X hP hw hK hc i pins s B H E I hf st hg;subst hP hw hK;obtain ⟨f0,f1,f2,f3,f4,f5⟩:=hf it (by simp);have W:=Walks.range (prog:=X.prog) (w:=X.w) (I.ok.hd hc) it lo c n;refine W.item i s _ _ hg st fun v h' tk hv st' kk=>?_
  obtain ⟨t,rfl⟩:=hv;have I1:Inv X pins B H { s with heap:=h',toks:=tk }:=I.turned (fun b o hb e=>kk b o (by simpa using hb) e) f0 f1 f3 f4 f5;exact ⟨_,rfl,zKN (s:={ s with heap:=h',toks:=tk }) (n := "range_iterator") st' rfl rfl (by decide) ⟨.int (lo+i*c),H,I1,⟨t,rfl⟩,⟨rfl,rfl⟩,st',fun b hb=>(hf b hb).1⟩⟩
 done:=by
  intro X hP hw hK hc i pins s B H E I hf st hg;subst hP hw hK;obtain ⟨f0,f1,f2,f3,f4,f5⟩:=hf it (by simp);exact wpAny_pyNext_range_end (I.ok.hd hc) st (by have:n<=i:=hg;omega) fun h' eb=>⟨rfl,I.turned (t':=s.toks) (fun b o hb e=>eb b o hb e) f0 f1 f3 f4 f5⟩
 self:=fun _ _ _ _ _ st h=>wpAny_pyIter_rangeiter st h
theorem zGV (a b c:Int)(hc:c≠0):0<=Builtin.Range.rangeSize a b c:=by
 unfold Builtin.Range.rangeSize;split
 .split
  .have:=Int.ediv_nonneg (a:=b - a - 1) (b:=c) (by omega) (by omega);omega
  .exact Int.le_refl 0
 .split
  .have:=Int.ediv_nonneg (a:=a - b - 1) (b:=-c) (by omega) (by omega);omega
  .exact Int.le_refl 0
def ROk (a b c:Int):Prop:=c≠0/\c.natAbs < 1073741824/\Builtin.Range.small a b c=true
noncomputable instance (a b c:Int):Decidable (ROk a b c):=by unfold ROk;exact inferInstance
theorem zJG {pins:List (Addr×Obj)}{B:St}{H:Hp}{s:Shared}{R:It->Hp->Prop}{E:Value->Shared->Prop}{lo hi c:Int}{t u v:Tok}{tk:Nat}(I:Inv X pins B H s)(ok:ROk lo hi c)
  (q:R (Itr3 lo c (Builtin.Range.rangeSize lo hi c).toNat) H):wpAny (model X.prog X.w) X.A (pyIter (.ref s.heap.objs.size)) (PIE X pins B tg R) E { s with heap:=s.heap.push { cls:=.type "range",data:=.fields #[.int lo t,.int hi u,.int c v] },toks:=tk }:=by
 refine wpAny_pyIter_range (IsRange.new ..) ok.2.2 ?_;have I1:Inv X pins B H { s with heap:=s.heap.push { cls:=.type "range",data:=.fields #[.int lo t,.int hi u,.int c v] },toks:=tk }:=I.kept fun b o e=>get?_push_of_some _ e
 refine ⟨(s.heap.push { cls:=.type "range",data:=.fields #[.int lo t,.int hi u,.int c v] }).objs.size,[(s.heap.push { cls:=.type "range",data:=.fields #[.int lo t,.int hi u,.int c v] }).objs.size],_,_,H,rfl,
  I1.kept (t':=tk) fun b o e=>get?_push_of_some _ e,zGR _ lo c (Builtin.Range.rangeSize lo hi c).toNat,?_,fun b hb=>?_,q⟩
 .have e1:lo+((0:Nat):Int)*c=lo:=by simp
  have e2:(((Builtin.Range.rangeSize lo hi c).toNat:Nat):Int) - ((0:Nat):Int)=Builtin.Range.rangeSize lo hi c:=by have:=zGV lo hi c ok.1;omega
  show IsRangeIter _ _ (lo+((0:Nat):Int)*c) ((((Builtin.Range.rangeSize lo hi c).toNat:Nat):Int) - ((0:Nat):Int)) c;rw [e1,e2];exact get?_push_size _ rfl
 .have e:b=(s.heap.push { cls:=.type "range",data:=.fields #[.int lo t,.int hi u,.int c v] }).objs.size:=by simpa using hb
  subst e;exact I1.fpOk (le_refl _) (I1.hok.fresh (le_refl _))
def zTk (ta:TA):TI:=fun B H R=>ta B H fun vs H1=>∃ i j c:Int,vs=[.int i,.int j,.int c]/\ROk i j c/\R (Itr3 i c (Builtin.Range.rangeSize i j c).toNat) H1
theorem zJN {a b c:Expr}{ta:TA}{p pos:Pos}(hg:Gl X "range")(hm:X.mg "range"=none)(ha:PA X [a,b,c] ta)(hs:starEach [a,b,c] X.env=[(false,eval a X.env),(false,eval b X.env),(false,eval c X.env)])(hs2:starEach [b,c] X.env=[(false,eval b X.env),(false,eval c X.env)]) :
  PI X tg (.Call (.Name "range" p) [a,b,c] [] pos) (zTk ta):=by
 intro pins s B H R I h;refine Call_ (zCh I hg hm boot_range (PyProof.Rows.callWith_type1 (thn (ha pos pins s B H _ I h) fun us s1 zz68=>?_) (by rw [hs,hs2]) (by rw [hs2];rfl)));obtain ⟨vs,H1,I1,r1,q1⟩:=zz68;obtain ⟨i,j,k,e,ok,q⟩:=q1;subst e;cases r1 with
 | cons r rr =>
  cases rr with
  | cons r' rr =>
   cases rr with
   | cons r'' rr =>
    cases rr;obtain ⟨t,rfl⟩:=r;obtain ⟨t',rfl⟩:=r';obtain ⟨t'',rfl⟩:=r'';exact call_range_3 ok.1 (zJG I1 ok q) (.inl (PyProof.noPylong_small ok.2.1))
def rngS (lo c:Int)(n:Nat):List D:=(List.range n).map fun (k:Nat)=>D.int (lo+k*c)
theorem zIM {K:W.Frag}{H1:Hp}{S:List Addr}{lo c:Int}{n:Nat}(i:Nat)(H2:Hp)(hi:i<=(rngS lo c n).length):(i=(rngS lo c n).length->(Itr3 lo c n).stop i H2)/\(i < (rngS lo c n).length->(Itr3 lo c n).go i H2/\∀ v H3,(Itr3 lo c n).yld i H2 v H3->H3=H2/\∀ x,(rngS lo c n)[i]?=some x->Den K (hide H1 S) x v):=by
 have hl:(rngS lo c n).length=n:=by unfold rngS;simp
 refine ⟨fun e=>by rw [hl] at e;exact Nat.le_of_eq e.symm,fun h=>⟨by rw [hl] at h;exact h,fun v H3 y=>⟨y.1,fun x ex=>?_⟩⟩⟩;have hv:v=.int (lo+i*c):=y.2;rw [hl] at h;have:(rngS lo c n)[i]?=some (D.int (lo+(i:Int)*c)):=by unfold rngS;simp [h]
 rw [this] at ex;cases ex;rw [Den];exact hv
def zJC (f g h:Dst->Option R):Dst->Option (List D):=fun G=>match f G,g G,h G with
 | some (.int i,_),some (.int j,_),some (.int c,_)=>if ROk i j c then some (rngS i c (Builtin.Range.rangeSize i j c).toNat) else none
 | _,_,_=>none
theorem zKQ {a b c:Expr}{f g h:Dst->Option R}{p pos:Pos}(hg:Gl X "range")(hm:X.mg "range"=none)(ha:GE X a f)(hb:GE X b g)(hc:GE X c h)(hs:starEach [a,b,c] X.env=(false,eval a X.env)::starEach [b,c] X.env)(hs2:starEach [b,c] X.env=(false,eval b X.env)::starEach [c] X.env)(hs3:starEach [c] X.env=[(false,eval c X.env)]) :
  GI X tg (.Call (.Name "range" p) [a,b,c] [] pos) (zJC f g h):=by
 refine ⟨_,zJN hg hm (zAc ha (zAc hb (zAc hc zBA hs3) hs2) hs) (by rw [hs,hs2,hs3]) (by rw [hs2,hs3]),fun B H S G xs Rr ds e q=>?_⟩;unfold zJC at e;split at e
 .rename_i i k j k2 c' k3 ei ej ec;by_cases hj:ROk i j c'
  .rw [if_pos hj] at e;cases e;exact ⟨S,G,_,ds,ei,fun v H1 s1 r1=>⟨S,G,_,ds.mono s1,ej,fun u H2 s2 r2=>⟨S,G,_,ds.mono (s1.trans s2),ec,fun u3 H3 s3 r3=>⟨i,j,c',by rw [r1.rd.int,r2.rd.int,r3.rd.int],hj,q _ H3 (s1.trans (s2.trans s3)) fun i H2 hi _=>zIM i H2 hi⟩⟩⟩⟩
  .rw [if_neg hj] at e;cases e
 .cases e
end
end DL
end
section
namespace DL
open PySem
abbrev zCC (h:Heap) (z TI TO:Addr) (f0 f1:Value):Prop :=
 h.get? z=some { cls:=.type "zip",dict:=none,data:=.fields #[f0,f1,.bool false,.ref TI,.ref TO],slots:=#[] }
section
variable {prog:Program}{w:World}{A:Around}{E:Value->Shared->Prop}{s:Shared}
theorem zLQ {M:Model}{a:Addr}{Q:Option Obj->Shared->Prop}(h:Q (s.heap.get? a) s):wpAny M A (loadIfAlive a) Q E s:=fun C p C6=>by
 unfold loadIfAlive;rw [Sem.wp_loadIfAlive];exact wpAny_pure h C p C6
theorem zEW {z TI TO T:Addr}{f1:Bool}{oT:Obj}{Q:Bool->Shared->Prop}(hz:zCC s.heap z TI TO (rawInt T) (.bool f1))(hT:s.heap.get? T=some oT)
  (hQ:∀ h' f1',zCC h' z TI TO (rawInt T) (.bool f1')->Heap.SameBut z s.heap h'->Q false { s with heap:=h' }) :
  wpAny (model prog w) A (Builtin.SmallTypes.ownedTupleIsFree (.ref z)) Q E s:=by
 unfold Builtin.SmallTypes.ownedTupleIsFree;refine wpAny_bind (wpAny_field hz rfl (x:=rawInt T) rfl ?_);show wpAny _ _ (loadIfAlive ((T:Int).toNat)>>=_) _ _ _;refine wpAny_bind (zLQ ?_);rw [toNat_natCast,hT];simp only [Option.isNone_some,Bool.false_eq_true,if_false];refine wpAny_bind (wpAny_field hz rfl (x:=.bool f1) rfl ?_);cases f1 with
 | true =>
  have e:((Value.bool true) != .bool true)=false:=by simp
  rw [e];simp only [Bool.false_eq_true,if_false];exact wpAny_pure (hQ s.heap true hz (Heap.SameBut.refl ..))
 | false =>
  have e:((Value.bool false) != .bool true)=true:=by simp
  rw [e];simp only [if_true];refine wpAny_bind (wpAny_setField_rec hz (by simp) fun O8 hz1 hs1=>?_);replace hz1:zCC O8 z TI TO (rawInt T) (.bool true):=hz1;exact wpAny_pure (hQ O8 true hz1 hs1)
theorem zEq {z TI TO i1 i2 l1 l2 T:Addr}{f1:Bool}{oT:Obj}{k1 k2:Nat}{xs ys:Array Value}{x y:Value}{Q:Value->Shared->Prop}(D:ZipApart z TI TO i1 i2 l1 l2)
  (hz:zCC s.heap z TI TO (rawInt T) (.bool f1)) (hT:s.heap.get? T=some oT) (hTI:IsPair s.heap TI (.ref i1) (.ref i2))
  (h1:s.heap.IsListIter i1 l1 k1) (h2:s.heap.IsListIter i2 l2 k2) (hl1:s.heap.IsList l1 xs) (hl2:s.heap.IsList l2 ys) (hx:xs[k1]?=some x) (hy:ys[k2]?=some y)
  (hQ:∀ h' f1',zCC h' z TI TO (rawInt T) (.bool f1')->h'.IsListIter i1 l1 (k1+1)->h'.IsListIter i2 l2 (k2+1)->IsPair h' s.heap.objs.size x y->h'.objs.size=s.heap.objs.size+1 ->
   (∀ c o,c≠z->c≠i1->c≠i2->s.heap.get? c=some o->h'.get? c=some o)->Q (.ref s.heap.objs.size) { s with heap:=h' }) :
  wpAny (model prog w) A (Builtin.«zip.__next__» ⟨[.ref z],[]⟩) (fun fin s'=>∃ v,fin=.done (.ret v)/\Q v s') E s:=by
 show wpAny _ _ (field (.ref z) 2>>=_) _ _ _;refine wpAny_bind (wpAny_field hz rfl (x:=.bool false) rfl ?_);show wpAny _ _ (field (.ref z) 3>>=_) _ _ _;refine wpAny_bind (wpAny_field hz rfl (x:=.ref TI) rfl ?_);refine wpAny_bind (wpAny_seqItems hTI rfl ?_);show wpAny _ _ (Builtin.SmallTypes.ownedTupleIsFree (.ref z)>>=_) _ _ _;refine wpAny_bind (zEW hz hT fun O8 f1' hz1 hs1=>?_);simp only [Bool.false_eq_true,if_false];refine wpAny_bind ?_;simp only [<- Array.forIn_toList,forIn_cons,forIn_nil];refine wpAny_bind (wpAny_bind (wpAny_holding ?_));show wpAny _ _ (Builtin.SmallTypes.nextOf (.ref i1)>>=_) _ _ _;refine wpAny_bind (wpAny_nextOf_list_item (h1.extBut hs1.extBut D.i1z) (hl1.extBut hs1.extBut D.l1z) hx fun U2 h12 Z4=>wpAny_pure ?_);refine wpAny_pure ?_;refine wpAny_bind (wpAny_bind (wpAny_holding ?_));show wpAny _ _ (Builtin.SmallTypes.nextOf (.ref i2)>>=_) _ _ _;refine wpAny_bind (wpAny_nextOf_list_item ((h2.extBut hs1.extBut D.i2z).extBut Z4.extBut D.i12.symm) ((hl2.extBut hs1.extBut D.l2z).extBut Z4.extBut D.l2i1) hy fun Z7 C7 U3=>wpAny_pure ?_);refine wpAny_pure (wpAny_pure ?_);refine wpAny_bind (wpAny_newTuple ?_ (show 2<=sizeLine by decide));have hsz:Z7.objs.size=s.heap.objs.size:=by rw [U3.1,Z4.1,hs1.1]
 have hz3:zCC Z7 z TI TO (rawInt T) (.bool f1'):=U3.extBut _ _ D.i2z.symm (Z4.extBut _ _ D.i1z.symm hz1);refine wpAny_pure ⟨_,rfl,?_⟩;show Q (.ref Z7.objs.size) _;rw [hsz];refine hQ _ f1' (get?_push_of_some _ hz3) ((h12.extBut U3.extBut D.i12).at fun o e=>get?_push_of_some _ e) (C7.at fun o e=>get?_push_of_some _ e) ?_ (by rw [Heap.size_push,hsz]) fun c o c1 c2 c3 e=>get?_push_of_some _ (U3.extBut _ _ c3 (Z4.extBut _ _ c2 (hs1.extBut _ _ c1 e)))
 rw [<- hsz];exact get?_push_size _ rfl
theorem zEp {z TI TO i1 i2 l1 l2 T:Addr}{f1:Bool}{oT:Obj}{k1 k2:Nat}{xs ys:Array Value}{Q:Fin->Shared->Prop}(hh:A.handled=none)(D:ZipApart z TI TO i1 i2 l1 l2)
  (hz:zCC s.heap z TI TO (rawInt T) (.bool f1)) (hT:s.heap.get? T=some oT) (hTI:IsPair s.heap TI (.ref i1) (.ref i2))
  (h1:s.heap.IsListIter i1 l1 k1) (hl1:s.heap.IsList l1 xs) (hend:xs[k1]?=none)
  (hE:∀ h' e,(∀ c o,c≠z->c≠i1->s.heap.get? c=some o->h'.get? c=some o)->(∃ o,h'.get? e=some o/\o.cls=.type "StopIteration")->E (.ref e) { s with heap:=h' }) :
  wpAny (model prog w) A (Builtin.«zip.__next__» ⟨[.ref z],[]⟩) Q E s:=by
 show wpAny _ _ (field (.ref z) 2>>=_) _ _ _;refine wpAny_bind (wpAny_field hz rfl (x:=.bool false) rfl ?_);show wpAny _ _ (field (.ref z) 3>>=_) _ _ _;refine wpAny_bind (wpAny_field hz rfl (x:=.ref TI) rfl ?_);refine wpAny_bind (wpAny_seqItems hTI rfl ?_);show wpAny _ _ (Builtin.SmallTypes.ownedTupleIsFree (.ref z)>>=_) _ _ _;refine wpAny_bind (zEW hz hT fun O8 f1' hz1 hs1=>?_);simp only [Bool.false_eq_true,if_false];refine wpAny_bind ?_;simp only [<- Array.forIn_toList,forIn_cons,forIn_nil];refine wpAny_bind (wpAny_bind (wpAny_holding ?_));show wpAny _ _ (Builtin.SmallTypes.nextOf (.ref i1)>>=_) _ _ _;refine wpAny_bind (wpAny_nextOf_list_end hh (h1.extBut hs1.extBut D.i1z) (hl1.extBut hs1.extBut D.l1z) hend fun U2 e Z4 he=>?_);exact hE U2 e (fun c o c1 c3 x=>Z4 _ _ c3 (hs1.extBut _ _ c1 x)) he
theorem zJj {z TI TO i1 i2 l1 l2 T:Addr}{f1:Bool}{oT:Obj}{k1 k2:Nat}{xs ys:Array Value}{x y:Value}{Q:Option Value->Shared->Prop}(D:ZipApart z TI TO i1 i2 l1 l2)
  (hz:zCC s.heap z TI TO (rawInt T) (.bool f1)) (hT:s.heap.get? T=some oT) (hTI:IsPair s.heap TI (.ref i1) (.ref i2))
  (h1:s.heap.IsListIter i1 l1 k1) (h2:s.heap.IsListIter i2 l2 k2) (hl1:s.heap.IsList l1 xs) (hl2:s.heap.IsList l2 ys) (hx:xs[k1]?=some x) (hy:ys[k2]?=some y)
  (hQ:∀ h' f1',zCC h' z TI TO (rawInt T) (.bool f1')->h'.IsListIter i1 l1 (k1+1)->h'.IsListIter i2 l2 (k2+1)->IsPair h' s.heap.objs.size x y->h'.objs.size=s.heap.objs.size+1 ->
   (∀ c o,c≠z->c≠i1->c≠i2->s.heap.get? c=some o->h'.get? c=some o)->Q (some (.ref s.heap.objs.size)) { s with heap:=h' }) :
  wpAny (model prog w) A (pyNext (.ref z)) Q E s:=by
 have hTy:s.TypeIs (.ref z) "zip":=⟨_,hz,rfl⟩;unfold pyNext;exact wpAny_bind (wpAny_attempt (wpAny_callSpecial?_slot (name:=Str.ofString "__next__") hTy F.slot_zip_next
  (wpAny_call_entry F.slot_zip_next hTy F.entry_zip_next
   (zEq D hz hT hTI h1 h2 hl1 hl2 hx hy fun h' f' a1 a3 a4 a5 a6 a7=>wpAny_pure (hQ h' f' a1 a3 a4 a5 a6 a7)) (F.args_zip_next_1 _))))
theorem zJi {z TI TO i1 i2 l1 l2 T:Addr}{f1:Bool}{oT:Obj}{k1 k2:Nat}{xs ys:Array Value}{Q:Option Value->Shared->Prop}(hh:A.handled=none)(D:ZipApart z TI TO i1 i2 l1 l2)
  (hz:zCC s.heap z TI TO (rawInt T) (.bool f1)) (hT:s.heap.get? T=some oT) (hTI:IsPair s.heap TI (.ref i1) (.ref i2))
  (h1:s.heap.IsListIter i1 l1 k1) (hl1:s.heap.IsList l1 xs) (hend:xs[k1]?=none)
  (hQ:∀ h',(∀ c o,c≠z->c≠i1->s.heap.get? c=some o->h'.get? c=some o)->Q none { s with heap:=h' }):wpAny (model prog w) A (pyNext (.ref z)) Q E s:=by
 have hTy:s.TypeIs (.ref z) "zip":=⟨_,hz,rfl⟩;unfold pyNext;refine wpAny_bind (wpAny_attempt (wpAny_callSpecial?_slot (name:=Str.ofString "__next__") hTy F.slot_zip_next
  (wpAny_call_entry F.slot_zip_next hTy F.entry_zip_next (zEp (k2:=k2) (ys:=ys) hh D hz hT hTI h1 hl1 hend fun h' e hk he=>?_) (F.args_zip_next_1 _))))
 obtain ⟨o,ho,hc⟩:=he;refine wpAny_bind (wpAny_isInstance (T := "StopIteration") (b:=true) ⟨o,ho,hc⟩ isSubtype_stop ?_);exact wpAny_pure (hQ _ hk)
end
theorem zIF:typeLookup (.type "zip") "__len__"=pure none:=by rw [typeLookup_type,builtinLookup_eq_fast];kernel_rfl
theorem zGP:typeLookup (.type "zip") "__length_hint__"=pure none:=by rw [typeLookup_type,builtinLookup_eq_fast];kernel_rfl
def zBu (S n:Nat):Array Value:=((List.range n).map fun k=>Value.ref (S+1+k)).toArray
theorem zFY (S n:Nat):(zBu S n).push (.ref (S+1+n))=zBu S (n+1):=by
 unfold zBu;rw [range_succ,map_append];simp
theorem zDR (S n:Nat):(zBu S n).size=n:=by unfold zBu;simp
structure ZJ (s:Shared)(S z TI TO i1 i2 l1 l2:Nat)(xs ys:Array Value)(i:Nat)(s':Shared):Prop where
 same:∃ h',s'={ s with heap:=h' }
 size:s'.heap.objs.size=S+1+i
 lst:∃ c,s'.heap.get? S=some { cls:=.type "list",dict:=none,data:=.seq (zBu S i) c,slots:=#[] }
 zip:(i=0/\IsZip s'.heap z TI TO .none)\/(0 < i/\∃ f1,zCC s'.heap z TI TO (rawInt (S+1:Nat)) (.bool f1))
 ti:IsPair s'.heap TI (.ref i1) (.ref i2)
 tO:∃ a b,IsPair s'.heap TO a b
 it1:s'.heap.IsListIter i1 l1 i
 it2:s'.heap.IsListIter i2 l2 i
 ls1:s'.heap.IsList l1 xs
 ls2:s'.heap.IsList l2 ys
 tup:∀ k x y,k < i->xs[k]?=some x->ys[k]?=some y->IsPair s'.heap (S+1+k) x y
 keep:∀ (c:Nat) o,c≠z->c≠TO->c≠i1->c≠i2->s.heap.get? c=some o->s'.heap.get? c=some o
structure ZEnd (s:Shared)(S z TO i1 i2:Nat)(xs ys:Array Value)(s':Shared):Prop where
 same:∃ h',s'={ s with heap:=h' }
 lst:∃ c,s'.heap.get? S=some { cls:=.type "list",dict:=none,data:=.seq (zBu S xs.size) c,slots:=#[] }
 tup:∀ k x y,xs[k]?=some x->ys[k]?=some y->IsPair s'.heap (S+1+k) x y
 keep:∀ (c:Nat) o,c≠z->c≠TO->c≠i1->c≠i2->s.heap.get? c=some o->s'.heap.get? c=some o
section
variable {prog:Program}{w:World}{A:Around}{E:Value->Shared->Prop}{s:Shared}{R:Result->Shared->Prop}
variable {S z TI TO i1 i2 l1 l2:Nat}{xs ys:Array Value}
theorem zLN (hh:A.in1.handled=none)(D:ZipApart z TI TO i1 i2 l1 l2)(hlen:xs.size=ys.size)(hn:xs.size<=10000)(hz:z < S)(hTI:TI < S)(hTO:TO < S)(hi1:i1 < S)(hi2:i2 < S)(hl1:l1 < S)(hl2:l2 < S)(hfresh:s.heap.objs.size<=S)(res:Value)
  (hR:∀ s',ZEnd s S z TO i1 i2 xs ys s'->R (.ok (.ret res)) s') :
  ∀ (k i:Nat) (s':Shared),xs.size - i=k->i<=xs.size->ZJ s S z TI TO i1 i2 l1 l2 xs ys i s'->codeAny (model prog w) A (.builtin "list.extend.loop" ⟨[.ref S,.ref z,res],[]⟩) R s':=by
 intro k
 induction k with
 | zero =>
  intro i s' hk hi J;have hin:i=xs.size:=by omega
  subst hin;obtain ⟨h0,rfl⟩:=J.same;refine codeAny_builtin F.entry_extend_loop ?_;rw [Around.under_plainId F.plain_extend_loop _];show wpAny _ A.in1 (pyNext (.ref z)>>=_) _ _ _;have hend:xs[xs.size]?=none:=by simp
  obtain ⟨c,hc⟩:=J.lst;obtain ⟨ta,tb,hto⟩:=J.tO;refine wpAny_bind ?_;have fin:∀ h',(∀ (c:Nat) o,c≠z->c≠TO->c≠i1->c≠i2->h0.get? c=some o->h'.get? c=some o)->R (.ok (.ret res)) { s with heap:=h' }:=fun h' kk=>by
   have up:∀ (b:Nat) o,S<=b->h0.get? b=some o->h'.get? b=some o:=fun b o hb e=>kk b o (by omega) (by omega) (by omega) (by omega) e
   refine hR _ ⟨⟨h',rfl⟩,⟨c,up S _ (le_refl _) hc⟩,fun k x y hx hy=>up _ _ (by omega) (J.tup k x y ?_ hx hy),fun b o b1 b2 b3 b4 e=>kk b o b1 b2 b3 b4 (J.keep b o b1 b2 b3 b4 e)⟩;by_cases q:k < xs.size
   .exact q
   .have:xs[k]?=none:=Array.getElem?_eq_none (Nat.le_of_not_lt q);rw [this] at hx;cases hx
  rcases J.zip with ⟨i0,hzz⟩ | ⟨ip,f1,hzz⟩
  .exact wpAny_pyNext_zip_end hh D hzz J.ti hto J.it1 J.it2 J.ls1 J.ls2 (.inl hend) fun h' kk=>wpAny_pure (fin h' kk)
  .have hx0:∃ x,xs[0]?=some x:=⟨xs[0],by simp [ip]⟩;have hy0:∃ y,ys[0]?=some y:=⟨ys[0]'(by omega),Array.getElem?_eq_getElem (by omega)⟩;obtain ⟨x0,ex0⟩:=hx0;obtain ⟨y0,ey0⟩:=hy0;have t0:=J.tup 0 x0 y0 ip ex0 ey0;rw [Nat.add_zero] at t0;exact zJi (k2:=0) (ys:=ys) hh D hzz t0 J.ti J.it1 J.ls1 hend fun h' kk=>wpAny_pure (fin h' fun c o c1 _ c3 _ e=>kk c o c1 c3 e)
 | succ k ih =>
  intro i s' hk hi J;have hlt:i < xs.size:=by omega
  obtain ⟨h0,rfl⟩:=J.same;have hx:xs[i]?=some xs[i]:=by simp [hlt]
  have hy:ys[i]?=some (ys[i]'(by omega)):=Array.getElem?_eq_getElem (by omega);refine codeAny_builtin F.entry_extend_loop ?_;rw [Around.under_plainId F.plain_extend_loop _];show wpAny _ A.in1 (pyNext (.ref z)>>=_) _ _ _;obtain ⟨c,hc⟩:=J.lst;obtain ⟨ta,tb,hto⟩:=J.tO;have hsz:h0.objs.size=S+1+i:=J.size;have go:∀ h',(∀ (c:Nat) o,c≠z->c≠TO->c≠i1->c≠i2->h0.get? c=some o->h'.get? c=some o)->(∃ f1,zCC h' z TI TO (rawInt (S+1:Nat)) (.bool f1))->(∃ a b,IsPair h' TO a b)->h'.IsListIter i1 l1 (i+1)->h'.IsListIter i2 l2 (i+1) ->
    IsPair h' (S+1+i) xs[i] (ys[i]'(by omega))->h'.objs.size=S+1+i+1 ->
    wpAny (model prog w) A.in1 (updateSeq S (·.push (.ref (S+1+i)))>>=fun _=>again (.builtin "list.extend.loop" ⟨[.ref S,.ref z,res],[]⟩))
     (fun fin s'=>match fin with | .done f=>R (.ok f) s' | .again c'=>c'.quiet=true/\codeAny (model prog w) A c' R s') (fun e s'=>R (.error e) s') { s with heap:=h' }:=fun h' kk hzz hto' ht1 ht2 hp hs'=>by
   have up:∀ (b:Nat) o,S<=b->h0.get? b=some o->h'.get? b=some o:=fun b o hb e=>kk b o (by omega) (by omega) (by omega) (by omega) e
   have hc':=up S _ (le_refl _) hc;refine wpAny_bind ?_;refine wpAny_updateSeq hc' rfl (wpAny_pure ⟨plainId_quiet F.plain_extend_loop _,ih (i+1) _ (by omega) hlt ?_⟩) (by rw [zDR];exact le_trans (Nat.le_of_lt hlt) (le_trans hn (by decide))) (by show ((zBu S i).push _).size<=sizeLine+1;rw [Array.size_push,zDR];exact Nat.succ_le_succ (le_trans (Nat.le_of_lt hlt) (le_trans hn (by decide))));have oth:∀ (b:Nat) o,b≠S->h'.get? b=some o->(h'.update S (Obj.mapSeq (·.push (.ref (S+1+i))))).get? b=some o:=fun b o hb e=>(Heap.get?_update_other _ _ (Ne.symm hb)).trans e
   obtain ⟨f1,hzz⟩:=hzz;obtain ⟨a',b',hto'⟩:=hto';have ql:∃ c,(h'.update S (Obj.mapSeq (·.push (.ref (S+1+i))))).get? S=some { cls:=.type "list",dict:=none,data:=.seq (zBu S (i+1)) c,slots:=#[] }:=⟨_,by
    rw [<- zFY];exact Heap.get?_update_self (Obj.mapSeq (·.push (Value.ref (S+1+i)))) hc' rfl⟩
   refine ⟨⟨_,rfl⟩,?_,ql,.inr ⟨Nat.succ_pos i,f1,oth _ _ (by omega) hzz⟩,oth _ _ (by omega) (kk _ _ D.TIz D.TITO D.TIi1 D.TIi2 J.ti),⟨a',b',oth _ _ (by omega) hto'⟩,ht1.at fun o e=>oth _ o (by omega) e,ht2.at fun o e=>oth _ o (by omega) e,
    (J.ls1.at fun o e=>kk _ o D.l1z D.l1TO D.l1i1 D.l1i2 e).at fun o e=>oth _ o (by omega) e,(J.ls2.at fun o e=>kk _ o D.l2z D.l2TO D.l2i1 D.l2i2 e).at fun o e=>oth _ o (by omega) e,fun k x y hk' ex ey=>?_,fun b o b1 b2 b3 b4 e=>?_⟩
   .show (h'.update S _).objs.size=_;rw [Heap.size_update,hs'];omega
   .refine oth _ _ (by omega) ?_;by_cases q:k < i
    .exact up _ _ (by omega) (J.tup k x y q ex ey)
    .have:k=i:=by omega
     subst this;rw [hx] at ex;rw [hy] at ey;cases ex;cases ey;exact hp
   .by_cases q:b=S
    .subst q;have:=lt_size e;exact absurd (lt_of_lt_of_le this hfresh) (lt_irrefl _)
    .exact oth b o q (kk b o b1 b2 b3 b4 (J.keep b o b1 b2 b3 b4 e))
  refine wpAny_bind ?_;rcases J.zip with ⟨i0,hzz⟩ | ⟨ip,f1,hzz⟩
  .subst i0;refine wpAny_pyNext_zip_item D hzz J.ti hto J.it1 J.it2 J.ls1 J.ls2 hx hy fun h' a1 a2 a3 a4 a5 a6 a7=>?_
   have e1:({ s with heap:=h0 }:Shared).heap.objs.size=S+1+0:=hsz;rw [e1] at a1 a5 a6 ⊢;exact go h' a7 ⟨false,a1⟩ ⟨_,_,a2⟩ a3 a4 a5 a6
  .have hx0:∃ x,xs[0]?=some x:=⟨xs[0]'(by omega),Array.getElem?_eq_getElem (by omega)⟩;have hy0:∃ y,ys[0]?=some y:=⟨ys[0]'(by omega),Array.getElem?_eq_getElem (by omega)⟩;obtain ⟨x0,ex0⟩:=hx0;obtain ⟨y0,ey0⟩:=hy0;have t0:=J.tup 0 x0 y0 ip ex0 ey0;rw [Nat.add_zero] at t0;refine zJj D hzz t0 J.ti J.it1 J.it2 J.ls1 J.ls2 hx hy fun h' f' a1 a3 a4 a5 a6 a7=>?_
   have e1:({ s with heap:=h0 }:Shared).heap.objs.size=S+1+i:=hsz;rw [e1] at a5 a6 ⊢;exact go h' (fun c o c1 _ c3 c4 e=>a7 c o c1 c3 c4 e) ⟨f',a1⟩ ⟨ta,tb,a7 _ _ D.TOz D.TOi1 D.TOi2 hto⟩ a3 a4 a5 a6
end
section
variable {prog:Program}{w:World}{A:Around}{E:Value->Shared->Prop}{s:Shared}
variable {z TI TO i1 i2 l1 l2:Nat}{xs ys:Array Value}
theorem zFP {a b:Value}{Q:Value->Shared->Prop}(hh:A.handled=none)(D:ZipApart z TI TO i1 i2 l1 l2)(hz:IsZip s.heap z TI TO .none)(hTI:IsPair s.heap TI (.ref i1) (.ref i2))(hTO:IsPair s.heap TO a b)(h1:s.heap.IsListIter i1 l1 0)(h2:s.heap.IsListIter i2 l2 0)
  (hl1:s.heap.IsList l1 xs) (hl2:s.heap.IsList l2 ys) (hlen:xs.size=ys.size) (hn:xs.size<=10000) (hQ:∀ s',ZEnd s s.heap.objs.size z TO i1 i2 xs ys s'->Q (.ref s.heap.objs.size) s') :
  wpAny (model prog w) A (call (.type "list") [.ref z]) Q E s:=by
 have ltz:z < s.heap.objs.size:=lt_size hz;have ltTI:TI < s.heap.objs.size:=lt_size hTI;have ltTO:TO < s.heap.objs.size:=lt_size hTO;have lt1:i1 < s.heap.objs.size:=by obtain ⟨o,e,_⟩:=h1;exact lt_size e
 have lt2:i2 < s.heap.objs.size:=by obtain ⟨o,e,_⟩:=h2;exact lt_size e
 have ltl1:l1 < s.heap.objs.size:=by obtain ⟨o,e,_⟩:=hl1;exact lt_size e
 have ltl2:l2 < s.heap.objs.size:=by obtain ⟨o,e,_⟩:=hl2;exact lt_size e
 refine callType_codes (Q₁:=fun obj O1=>obj=.ref s.heap.objs.size/\O1={ s with heap:=s.heap.push { cls:=.type "list",data:=.seq #[] } }) F.called_list (F.typeCall_list_1 _) F.entry_list_init
  (code_list_new _ ⟨rfl,rfl⟩) fun obj O1 O8=>?_
 obtain ⟨rfl,rfl⟩:=O8;have hS:(s.heap.push { cls:=.type "list",data:=.seq #[] }).get? s.heap.objs.size=some { cls:=.type "list",data:=.seq #[] }:=get?_push_size _ rfl;refine ⟨⟨_,hS,rfl⟩,F.args_list_init_2 _ _,?_⟩;show wpAny _ A.in1.in1 (do let old<-Builtin.List.listItems (.ref s.heap.objs.size);Builtin.List.listUpdate (.ref s.heap.objs.size) (fun _=>#[]);letGo old.toList.reverse;Builtin.List.listExtendWith (.ref s.heap.objs.size) (.ref z) .none) _ _ _;refine wpAny_bind ?_;unfold Builtin.List.listItems;refine wpAny_bind (wpAny_seqItems hS rfl (wpAny_pure ?_));show wpAny _ A.in1.in1 (updateSeq s.heap.objs.size (fun _=>#[])>>=fun _=>letGo (#[]:Array Value).toList.reverse>>=fun _=>Builtin.List.listExtendWith (.ref s.heap.objs.size) (.ref z) .none) _ _ _;refine wpAny_bind (wpAny_updateSeq hS rfl ?_);have hS2:=Heap.get?_update_self (Obj.mapSeq (fun _=>(#[]:Array Value))) hS rfl;refine wpAny_bind (wpAny_letGo ?_);have e2:∃ h2',h2'=(s.heap.push { cls:=.type "list",data:=.seq #[] }).update s.heap.objs.size (Obj.mapSeq (fun _=>(#[]:Array Value))):=⟨_,rfl⟩;obtain ⟨h2',eh2⟩:=e2;rw [<- eh2] at hS2 ⊢;have oth2:∀ (b:Nat) o,b≠s.heap.objs.size->(s.heap.push { cls:=.type "list",data:=.seq #[] }).get? b=some o->h2'.get? b=some o:=fun b o hb e=>by rw [eh2];exact (Heap.get?_update_other _ _ (Ne.symm hb)).trans e
 have kp2:∀ (b:Nat) o,s.heap.get? b=some o->h2'.get? b=some o:=fun b o e=>oth2 b o (ne_of_lt (lt_size e)) (get?_push_of_some _ e)
 have sz2:h2'.objs.size=s.heap.objs.size+1:=by rw [eh2,Heap.size_update,Heap.size_push]
 unfold Builtin.List.listExtendWith;have hT:({ s with heap:=h2' }:Shared).TypeIs (.ref z) "zip":=⟨_,kp2 _ _ hz,rfl⟩;refine wpAny_bind (wpAny_typeOf hT ?_);have q1:Builtin.List.listSameRef (.ref s.heap.objs.size) (.ref z)=false:=by
  have:s.heap.objs.size≠z:=Nat.ne_of_gt ltz;simp [Builtin.List.listSameRef,this]
 have q2:(Value.type "zip"==Value.type "list")=false:=by decide
 have q3:(Value.type "zip"==Value.type "tuple")=false:=by decide
 simp only [q1,q2,q3,Bool.or_false,Bool.false_eq_true,if_false];refine wpAny_bind (wpAny_pyIter_zip (kp2 _ _ hz) ?_);refine wpAny_bind (wpAny_holding ?_);unfold Builtin.List.listLengthHint;refine wpAny_bind (wpAny_specialOf hT zIF ?_);show wpAny _ A.in1.in1 (specialOf (Value.ref z) (Str.ofString "__length_hint__")>>=_) _ _ _;refine wpAny_bind (wpAny_specialOf hT zGP ?_);refine wpAny_pure ?_;show wpAny _ A.in1.in1 (rule "list.extend.makes-room">>=fun _=>Builtin.List.listTouch (.ref s.heap.objs.size)>>=fun _ =>
  again (.builtin "list.extend.loop" ⟨[.ref s.heap.objs.size,.ref z,.none],[]⟩)) _ _ _
 refine wpAny_bind (wpAny_rule ?_);refine wpAny_bind ?_;show wpAny _ A.in1.in1 (updateSeq s.heap.objs.size (·.push .none)>>=fun _=>updateSeq s.heap.objs.size (·.pop)) _ _ _;refine wpAny_bind (wpAny_updateSeq hS2 rfl ?_);have hS3:=Heap.get?_update_self (Obj.mapSeq (·.push Value.none)) hS2 rfl;refine wpAny_updateSeq (hz:=by seq_fits) hS3 rfl ?_;have hS4:=Heap.get?_update_self (Obj.mapSeq (·.pop)) hS3 rfl;have oth:∀ (b:Nat) o,b≠s.heap.objs.size->h2'.get? b=some o->((h2'.update s.heap.objs.size (Obj.mapSeq (·.push Value.none))).update s.heap.objs.size (Obj.mapSeq (·.pop))).get? b=some o :=
  fun b o hb e=>(Heap.get?_update_other _ _ (Ne.symm hb)).trans ((Heap.get?_update_other _ _ (Ne.symm hb)).trans e)
 have kp:∀ (b:Nat) o,s.heap.get? b=some o->((h2'.update s.heap.objs.size (Obj.mapSeq (·.push Value.none))).update s.heap.objs.size (Obj.mapSeq (·.pop))).get? b=some o:=fun b o e=>oth b o (ne_of_lt (lt_size e)) (kp2 b o e)
 refine wpAny_pure ⟨plainId_quiet F.plain_extend_loop _,zLN (s:=s) (A:=A.in1) hh D hlen hn ltz ltTI ltTO lt1 lt2 ltl1 ltl2 (le_refl _) .none (fun s' e=>⟨rfl,hQ s' e⟩) xs.size 0 _ rfl (zero_le _) ?_⟩;exact ⟨⟨_,rfl⟩,by show (Heap.update _ _ _).objs.size=_;rw [Heap.size_update,Heap.size_update,sz2],⟨_,hS4⟩,.inl ⟨rfl,kp _ _ hz⟩,kp _ _ hTI,⟨a,b,kp _ _ hTO⟩,h1.at fun o e=>kp _ o e,h2.at fun o e=>kp _ o e,hl1.at fun o e=>kp _ o e,hl2.at fun o e=>kp _ o e,
  fun k x y hk=>absurd hk (Nat.not_lt_zero k),fun c o _ _ _ _ e=>kp c o e⟩
end
end DL
end
section
namespace DL
open PySem Spec PyProof.Rows L2
def HZ (H:Hp)(S:Nat)(us ws:List V):Hp:=fun (b:Nat)=>if b=S then some (.lst ((List.range us.length).map fun k=>V.ref (S+1+k))) else if S+1<=b/\b < S+1+us.length then some (.tup [us.getD (b - (S+1)) .non,ws.getD (b - (S+1)) .non]) else H b
theorem hz_S {H:Hp}{S:Nat}{us ws:List V}:HZ H S us ws S=some (.lst ((List.range us.length).map fun k=>V.ref (S+1+k))):=if_pos rfl
theorem hz_t {H:Hp}{S k:Nat}{us ws:List V}(hk:k < us.length):HZ H S us ws (S+1+k)=some (.tup [us.getD k .non,ws.getD k .non]):=by
 unfold HZ;rw [if_neg (by omega),if_pos (by omega),Nat.add_sub_cancel_left]
theorem zNq {H:Hp}{S b:Nat}{us ws:List V}(hb:b < S):HZ H S us ws b=H b:=by
 unfold HZ;rw [if_neg (by omega),if_neg (by omega)]
theorem zFZ:∀ l:List Nat,Vals (l.map V.ref) (l.map Value.ref)
 | []=>.nil
 | a::l=>.cons rfl (zFZ l)
theorem zIr {us:List V}{its:List Value}(r:Vals us its){k:Nat}(hk:k < us.length):∃ x,its[k]?=some x/\RelV (us.getD k .non) x:=by
 have e:us[k]?=some (us.getD k .non):=by
  rw [getD_eq_getElem?_getD];simp [hk]
 exact r.get e
def zipT (xs ys:List D):List D:=List.zipWith (fun a b=>D.tup [a,b]) xs ys
def zipD (x y:D):Option R:=match x,y with
 | .lst xs,.lst ys=>if xs.length=ys.length/\xs.length<=10000 then some (.lst (zipT xs ys),.fr) else none
 | _,_=>none
section
variable {X:Cx}
theorem zId {a b:Expr}{f g:Dst->Option R}{p p2 pos pos2:Pos}(hcalm:X.calm=true)(hgl:Gl X "list")(hml:X.mg "list"=none)(hgz:Gl X "zip")(hmz:X.mg "zip"=none)(ha:GE X a f)(hb:GE X b g)
  (hs:starEach [a,b] X.env=(false,eval a X.env)::starEach [b] X.env) (hs2:starEach [b] X.env=[(false,eval b X.env)]) :
  GE X (.Call (.Name "list" p) [.Call (.Name "zip" p2) [a,b] [] pos2] [] pos) (two f g zipD):=by
 intro pins s B H Q I ⟨S,G,r,ds,e,c⟩;obtain ⟨x,ex,e⟩:=bind_some e;obtain ⟨y,ey,e⟩:=bind_some e;unfold zipD at e;split at e
 .rename_i xs ys exs eys;by_cases ok:xs.length=ys.length/\xs.length<=10000
  .rw [if_pos ok] at e;cases e;obtain ⟨hle,hl10⟩:=ok;refine wpAny_Call_Name_kw (zCh I hgl hml boot_list ?_ (by decide) (by decide));refine PyProof.Rows.callWith_type1 ?_ rfl rfl;show wpAny _ _ (spliced ((false,eval (.Call (.Name "zip" p2) [a,b] [] pos2) X.env)::[])) _ _ s;refine Calls.spliced_cons ?_;refine wpAny_Call_Name_kw (zCh I hgz hmz boot_zip ?_ (by decide) (by decide));refine PyProof.Rows.callWith_type1 (thn ((zAc ha (zAc hb zBA hs2) hs) pos2 pins s B H (fun vs H2=>∃ vx vy,vs=[vx,vy]/\Same H H2/\Rdv X.K H2 S x.1 vx/\Rdv X.K H2 S y.1 vy) I
    ⟨S,G,x,ds,ex,fun vx H1 s1 r1=>⟨S,G,y,ds.mono s1,ey,fun vy H2 s2 r2=>⟨vx,vy,rfl,s1.trans s2,r1.rd.mono s2,r2.rd⟩⟩⟩) fun us s1 ⟨vs,H1,I1,r1,q1⟩=>?_) hs (by rw [hs2];rfl)
   obtain ⟨vx,vy,rfl,sm,dx,dy⟩:=q1;rw [exs] at dx;rw [eys] at dy;obtain ⟨l1,v1,rfl,w1,d1⟩:=dx.lst;obtain ⟨l2,v2,rfl,w2,d2⟩:=dy.lst;obtain ⟨u1,u2,rfl,ru1,ru2⟩:=zOI r1;cases ru1;cases ru2;obtain ⟨its1,rv1,p1,z1⟩:=I1.list w1;obtain ⟨its2,rv2,p2,z2⟩:=I1.list w2;have n1:xs.length=v1.length:=d1.length;have n2:ys.length=v2.length:=d2.length;have m1:=rv1.length;have m2:=rv2.length;have lt1:l1 < s1.heap.objs.size:=by obtain ⟨o,q,_⟩:=p1.isList;exact lt_size q
   have lt2:l2 < s1.heap.objs.size:=by obtain ⟨o,q,_⟩:=p2.isList;exact lt_size q
   refine call_zip_2 p1.isList p2.isList fun h' hz hTI hTO hit1 hit2 hsz hk=>?_
   refine Calls.spliced_nil ?_;refine zFP (s:={ s1 with heap:=h' }) (I.ok.hd hcalm) (zipApart_new lt1 lt2) hz hTI hTO hit1 hit2 (p1.isList.at fun o q=>hk _ o q) (p2.isList.at fun o q=>hk _ o q) (by rw [size_toArray,size_toArray];omega) (by rw [size_toArray];omega) fun s' Z=>?_
   obtain ⟨h'',es'⟩:=Z.same;have eS:({ s1 with heap:=h' }:Shared).heap.objs.size=s1.heap.objs.size+5:=hsz;have gS:∃ n0,n0=s1.heap.objs.size:=⟨_,rfl⟩;obtain ⟨n0,en0⟩:=gS;rw [eS,<- en0] at Z ⊢;rw [<- en0] at lt1 lt2;subst es';have kp:∀ (b:Nat) o,s1.heap.get? b=some o->h''.get? b=some o:=fun b o q=>by
    have hb:b < n0:=by rw [en0];exact lt_size q
    exact Z.keep b o (by omega) (by omega) (by omega) (by omega) (hk b o q)
   obtain ⟨cc,hlst⟩:=Z.lst;have lt0:∀ {b:Nat} {o:HO},H1 b=some o->b < n0:=fun {b o} q=>by rw [en0];exact (I1.hok b o q).lt
   have old:∀ {b:Nat} {o:HO},H1 b=some o->HZ H1 (n0+5) v1 v2 b=some o:=fun {b o} q=>by rw [zNq (by have:=lt0 q;omega)];exact q
   have hn:its1.toArray.size=v1.length:=by rw [size_toArray];exact m1.symm
   rw [hn] at hlst;have hok:HOk X.prog X.w (HZ H1 (n0+5) v1 v2) h'':=fun (b:Nat) o q=>by
    by_cases c1:b=n0+5
    .subst c1;rw [hz_S] at q;cases q;refine ⟨by rw [length_map,length_range];exact z1,(List.range v1.length).map fun k=>Value.ref (n0+5+1+k),cc,?_,hlst⟩;have:=zFZ ((List.range v1.length).map fun k=>n0+5+1+k);rw [map_map,map_map] at this;exact this
    .by_cases c2:n0+5+1<=b/\b < n0+5+1+v1.length
     .have eb:b=n0+5+1+(b - (n0+5+1)):=by omega
      have hkl:b - (n0+5+1) < v1.length:=by omega
      rw [eb,hz_t hkl] at q;cases q;obtain ⟨ux,ex1,rx⟩:=zIr rv1 hkl;obtain ⟨uy,ey1,ry⟩:=zIr rv2 (k:=b - (n0+5+1)) (by omega);have tp:=Z.tup (b - (n0+5+1)) ux uy (by simpa using ex1) (by simpa using ey1);refine ⟨by show 2<=sizeLine;decide,[ux,uy],.cons rx (.cons ry .nil),?_⟩;rw [<- eb] at tp;exact ⟨_,tp,rfl,_,rfl⟩
     .have q':H1 b=some o:=by
       unfold HZ at q;rw [if_neg c1,if_neg c2] at q;exact q
      exact (I1.hok b o q').stay (fun d v _ w=>kp d v w) (fun d w=>old w) (fun d ws w=>old w) fun d ob u w _=>old w
   have gone:∀ (b:Nat) o,s1.heap.get? b=some o->H1 b=none->HZ H1 (n0+5) v1 v2 b=none:=fun b o q n=>by
    have hb:b < n0:=by rw [en0];exact lt_size q
    rw [zNq (by omega)];exact n
   have un:Un X.fs [] H1 (HZ H1 (n0+5) v1 v2) s1.heap h'':=⟨fun b o q _ _ _=>kp b o q,fun b o q _ _ _=>⟨o.slots,kp b o q⟩,fun b o q n _=>gone b o q n,fun b o q _=>⟨o,kp b o q⟩,fun b ws q=>old q,fun b o w q=>old q,fun b ps q=>old q⟩;have sH:Same H1 (HZ H1 (n0+5) v1 v2):=fun b o q=>old q
   have fr:H1 (n0+5)=none:=I1.hok.fresh (by rw [<- en0];omega);have nS:∀ {b:Nat},b∈S->b < n0:=fun {b} z=>by
    obtain ⟨ws,q,_⟩:=(ds.mono sm).sok b z;exact lt0 q
   refine ⟨.ref (n0+5),_,I1.un (t':=s1.toks) un hok,rfl,c _ _ (sm.trans sH) ⟨n0+5,_,_,rfl,rfl,fun z=>absurd (nS z) (by omega),sm.free fr,hz_S,?_⟩⟩;refine DenL.of_get ?_ fun i d v ed ev=>?_
   .unfold zipT;rw [List.length_zipWith,length_map,length_range];omega
   .unfold zipT at ed;rw [List.getElem?_zipWith] at ed;rw [getElem?_map] at ev;cases e1:xs[i]? with
    | none=>rw [e1] at ed;simp at ed
    | some dx' =>
     cases e2:ys[i]? with
     | none=>rw [e1,e2] at ed;simp at ed
     | some dy' =>
      rw [e1,e2] at ed;cases ed;have hi:i < v1.length:=by rw [<- n1];exact (zzg e1).1
      rw [getElem?_range hi] at ev;cases ev;obtain ⟨va,qa,da⟩:=d1.get e1;obtain ⟨vb,qb,db⟩:=d2.get e2;have ga:v1.getD i .non=va:=by rw [getD_eq_getElem?_getD,qa];rfl
      have gb:v2.getD i .non=vb:=by rw [getD_eq_getElem?_getD,qb];rfl
      have up:Same (hide H1 S) (hide (HZ H1 (n0+5) v1 v2) ((n0+5)::S)):=fun (b:Nat) o q=>by
       obtain ⟨q1,q2⟩:=zAt q;rw [zAN fun z=>(mem_cons.mp z).elim (fun z=>by have z':b=n0+5:=z;have:=lt0 q2;omega) q1];exact old q2
      rw [Den];refine ⟨n0+5+1+i,[va,vb],rfl,SqT.of ?_,.cons (da.mono up) (.cons (db.mono up) .nil)⟩;rw [zAN fun z=>(mem_cons.mp z).elim (fun z=>by have z':n0+5+1+i=n0+5:=z;omega) fun z=>by have:=nS z;omega,hz_t hi,ga,gb]
  .rw [if_neg ok] at e;cases e
 .cases e
end
def insD (i:Nat)(kk f:Dst->Option R):Dst->Option Out:=fun G=>match G[i]? with
 | some (some (.lst xs,true))=>(kk G).bind fun j=>match j.1 with
  | .int n=>(f G).bind fun r=>if r.2=.dt then none else if 0<=n/\n<=xs.length/\xs.length<=10000 then some (.nx (G.set i (some (.lst (xs.take n.toNat++r.1::xs.drop n.toNat),true)))) else none
  | _=>none
 | _=>none
def Arr (stack:List Env)(H':Hp)(h0:Heap)(ex:List Addr)(a C:Addr)(h:Heap):Prop :=
 ∃ B:Heap,B.StaysIn h/\B.get? a=none/\h.FunFrames B stack/\(∀ b u,H' b=some u->∃ o,B.get? b=some o)/\(∀ b o,h0.get? b=some o->b∉frs stack->b∉ex->∃ o',B.get? b=some o') /\
  ∃ a0,(∃ fl,h.TracedAtW B a (.ref C) a0 fl)\/(∃ oe vs,h.get? a=some oe/\oe.cls=.ref C/\oe.data=.fields vs/\vs[1]?=some .none/\vs[0]?=some a0)
structure Gone (P:Program)(w:World)(stack:List Env)(ex:List Addr)(H H':Hp)(s s':Shared)(a C:Addr):Prop where
 os:s'.os=s.os
 bare:AllBare s'.gens
 un:Un (frs stack) ex H H' s.heap s'.heap
 hok:HOk P w H' s'.heap
 arr:Arr stack H' s.heap ex a C s'.heap
def GX {U:Type}(X:Cx)(m:Sem U)(f:Dst->Option Str):Prop:=True
abbrev GXs (X:Cx) (st:Stmt) (f:Dst->Option Str):Prop:=GX X (exec st X.env) f
abbrev GXss (X:Cx) (st:List Stmt) (f:Dst->Option Str):Prop:=GX X (execs st X.env) f
section
variable {X:Cx}
theorem zAM {U:Type}{m:Sem U}:GX X m fun _=>none:=trivial
end
end DL
end
section
namespace DL
open PySem Spec PyProof.Rows L2 PySem.W Builtin Builtin.ObjectAttr Builtin.Getset_descriptor
section
variable {prog:Program}{w:World}{A:Around}{E:Value->Shared->Prop}{h:Heap}{g:Array GenState}{d:Drawn}{t:Nat}{os:OsState}{a C:Addr}{o:Obj}{K:W.Frag}
structure XCls (K:W.Frag)(C:Addr):Prop where
 ga:findIn K (.ref C) "__getattribute__"=some (some (.builtin "BaseException.__getattribute__"))
 gt:findIn K (.ref C) "__getattr__"=some none
 cl:findIn K (.ref C) "__class__"=some (some (.builtin "object.__class__"))
 mo:mroIn K C (.type "object")=some true
 mb:subIn K (.ref C) (.type "BaseException")=some true
 is:(clsIn K C).isSome=true
end
end DL
end
section
namespace DL
open PySem Spec PyProof.Rows L2
section
variable {X:Cx}
def iscF (sub:Str->Option Bool):D->Option R
 | .exc c=>(sub c).bind fun b=>some (.bl b,.cl)
 | _=>none
end
end DL
end
section
namespace DL
open PySem Spec PyProof.Rows L2
section
variable {X:Cx}
def chD (o o':D->D->Option R)(f g h:Dst->Option R):Dst->Option R:=fun G=>(f G).bind fun x=>(g G).bind fun y=>match o x.1 y.1 with
 | some (.bl true,_)=>(h G).bind fun z=>o' y.1 z.1
 | some (.bl false,_)=>some (.bl false,.cl)
 | _=>none
theorem zHa {r r':R2}{o o':D->D->Option R}{f g h:Dst->Option R}(ho:OpD X.K r o)(ho':OpD X.K r' o'){B:St}{H:Hp}{Q:VK}(q:gT X.K (chD o o' f g h) B H Q):zIx r r' (gT X.K f) (gT X.K g) (gT X.K h) B H Q:=by
 obtain ⟨S,G,z,ds,e,c⟩:=q;obtain ⟨x,ex,e⟩:=bind_some e;obtain ⟨y,ey,e⟩:=bind_some e;refine ⟨S,G,x,ds,ex,fun vx H1 s1 r1=>⟨S,G,y,ds.mono s1,ey,fun vy H2 s2 r2=>?_⟩⟩;split at e
 .rename_i k eo;obtain ⟨w,ew,e⟩:=bind_some e;refine ho S H2 x.1 y.1 _ vx vy _ (ds.mono (s1.trans s2)).sok eo (r1.rd.mono s2) r2.rd fun v H3 s3 r3=>⟨true,r3.rd.bl,?_⟩
  rw [if_pos rfl];refine ⟨S,G,w,ds.mono (s1.trans (s2.trans s3)),ew,fun vw H4 s4 r4=>?_⟩;exact ho' S H4 y.1 w.1 z vy vw Q (ds.mono (s1.trans (s2.trans (s3.trans s4)))).sok e (r2.rd.mono (s3.trans s4)) r4.rd fun v' H5 s5 r5=>c v' H5 (s1.trans (s2.trans (s3.trans (s4.trans s5)))) (r5.from (s1.trans (s2.trans (s3.trans s4))))
 .rename_i k eo;cases e;refine ho S H2 x.1 y.1 _ vx vy _ (ds.mono (s1.trans s2)).sok eo (r1.rd.mono s2) r2.rd fun v H3 s3 r3=>⟨false,r3.rd.bl,?_⟩
  rw [if_neg Bool.false_ne_true];exact c _ H3 (s1.trans (s2.trans s3)) (.bl _)
 .cases e
def chB (op:CmpOp):Bool:=decide (op=.Lt)||decide (op=.LtE)||decide (op=.Gt)||decide (op=.GtE)
theorem zHi {op op':CmpOp}{b c:Expr}(h:chB op'=true):lastMarks [op,op'] [b,c]=false:=by
 unfold chB at h;simp only [Bool.or_eq_true,decide_eq_true_eq] at h;rcases h with ((h | h) | h) | h<;>subst h<;>(simp only [lastMarks];exact zC4 c)
theorem zMR {op op':CmpOp}{r r':R2}{o o':D->D->Option R}{a b c:Expr}{f g h:Dst->Option R}{pos:Pos}(h1:OpR X (compareOp op) r)(h2:OpR X (compareOp op') r')(ho:OpD X.K r o)(ho':OpD X.K r' o')(hm:chB op'=true)
  (ha:GE X a f) (hb:GE X b g) (hc:GE X c h):GE X (.Compare a [op,op'] [b,c] pos) (chD o o' f g h)/\GT X (.Compare a [op,op'] [b,c] pos) (asB (chD o o' f g h)) :=
 ⟨(zLq h1 h2 ha hb hc (zHi hm)).imp fun _ _ _ q=>zHa ho ho' q,(zLk h1 h2 ha hb hc (zHi hm)).imp fun _ _ _ q=>zHa ho ho' (zGo q)⟩
def zQd:D->Option R
 | .lst ds=>some (.tup ds,.cl)
 | .tup ds=>some (.tup ds,.cl)
 | _=>none
end
end DL
namespace DL
open PySem Spec PyProof.Rows L2
def extD (i:Nat)(f:Dst->Option R):Dst->Option Out:=fun G=>match G[i]? with
 | some (some (.lst xs,true))=>(f G).bind fun r=>match r with
  | (.lst ys,.fr)=>if xs.length+ys.length<=10000 then some (.nx (G.set i (some (.lst (xs++ys),true)))) else none
  | _=>none
 | _=>none
theorem zR0 {X:Cx}{i:Nat}{x:Str}{e:Expr}{f:Dst->Option R}{pos cpos apos npos:Pos}(hi:X.N[i]?=some x)(hv:Vis X.env.scope x)(hd:(x==("__debug__":Str))=false)(hcd:(x==("__classdict__":Str))=false)(h:GE X e f)
  (he:starEach [e] X.env=[(false,eval e X.env)]) (hbase:attributeBase (.Name x npos) "extend" X.env (eval (.Name x npos) X.env)=eval (.Name x npos) X.env) (hline:(apos.endLine==cpos.line)=true) :
  GS X (.Expr (.Call (.Attribute (.Name x npos) "extend" apos) [e] [] cpos) pos) (extD i f):=fun H0=>(zGc (zOn PySem.F.plainAttrs_list PySem.F.slot_list_extend PySem.F.type_list_extend zJp (zDu hi hv hd hcd) (zAc h zBA he) hbase (by rw [he];rfl) hline he rfl) rfl).imp fun E B H zz69=>by
 obtain ⟨S,G,o,ds,h0,e,p⟩:=zz69;unfold extD at e;split at e
 .rename_i xs q;obtain ⟨r,er,e⟩:=bind_some e;split at e
  .rename_i ys;by_cases hl:xs.length+ys.length<=10000
   .rw [if_pos hl] at e;cases e;obtain ⟨v,q1,q2⟩:=ds.get i _ true q;obtain ⟨a,vs,es,rfl,e2,w1,w2,w3⟩:=q2.ownL rfl;cases e2;refine ⟨.ref a,q1,.inl ⟨rfl,_,SqL.of w2⟩,S,G,_,ds,er,fun y H1 s1 r1=>?_⟩;obtain ⟨b,zs,ds',rfl,e3,nb,hb,hb',dl⟩:=r1;cases e3;have w3':=w3.mono (zAQ s1 (S:=S));have dl':=dl.mono (zBq (H:=H1) (S:=S) (T:=b::S) fun c z=>mem_cons_of_mem _ z);have l1:=w3.length;have l2:=dl.length;refine ⟨a,b,vs,zs,rfl,rfl,s1 _ _ w2,hb',le_trans (show vs.length+zs.length<=10000 by omega) (by decide),?_⟩;have t:DenL X.K (hide H1 S) (xs++ys) (vs++zs):=w3'.append dl';have d2:=(ds.mono s1).change (i:=i) q q1 t;refine p S B _ d2 ?_;rw [zFC w1];exact h0.trans (zAQ s1)
   .rw [if_neg hl] at e;cases e
  .cases e
 .cases e
end DL
namespace DL
open PySem Spec PyProof.Rows L2
section
variable {X:Cx}
def tg4 (i j k l:Nat):D->Dst->Option Dst:=fun d G=>match d with
 | .tup [a,b,c,e]=>some ((((G.set i (some (a,false))).set j (some (b,false))).set k (some (c,false))).set l (some (e,false)))
 | _=>none
structure Tgt (X:Cx)(i:Nat)(x:Str):Prop where
 at_:X.N[i]?=some x
 loc:Loc X.env.scope x
 fn:X.fn x=true\/X.env.scope.names.lookup x=some .local
def unpD (t:D->Dst->Option Dst)(f:Dst->Option R):Dst->Option Out:=fun G=>(f G).bind fun r=>if r.2=.dt then none else (t r.1 G).bind fun G'=>some (.nx G')
end
end DL
end
section
namespace DL
open PySem
theorem zIX:typeLookup (.type "list_reverseiterator") "__len__"=pure none:=by rw [typeLookup_type,builtinLookup_eq_fast];kernel_rfl
theorem zL3:typeLookup (.type "list_reverseiterator") "__length_hint__"=pure (some (.builtin "list_reverseiterator.__length_hint__")):=by rw [typeLookup_type,builtinLookup_eq_fast];kernel_rfl
theorem zL2:isSubtype (.type "list_reverseiterator") (.type "list_reverseiterator")=pure true:=by rw [isSubtype_type];kernel_rfl
section
variable {prog:Program}{w:World}{A:Around}{E:Value->Shared->Prop}{s:Shared}{I l:Addr}{items:Array Value}
theorem zMI {M:Model}{Q:Bool->Shared->Prop}(hT:s.TypeIs (.ref I) "list_reverseiterator")(h:Q false s):wpAny M A (Builtin.List.listLengthHint (.ref I)) Q E s:=by
 unfold Builtin.List.listLengthHint;refine wpAny_bind (wpAny_specialOf hT zIX ?_);show wpAny _ A (specialOf (Value.ref I) (Str.ofString "__length_hint__")>>=_) _ _ _;refine wpAny_bind (wpAny_specialOf hT zL3 ?_);have hs:splitId "list_reverseiterator.__length_hint__"=some ("list_reverseiterator","__length_hint__"):=by decide +kernel
 simp only [hs];unfold isInstance;refine wpAny_bind (wpAny_bind (wpAny_typeOf hT (wpAny_of_eq zL2 ?_)));rw [if_neg (show ¬ ((!true)=true) by decide)];rw [if_pos (by decide +kernel)];rw [if_neg (by decide +kernel)];exact wpAny_pure h
theorem zFQ {Q:Value->Shared->Prop}(hh:A.handled=none)(hne:l≠I)(hit:s.heap.IsRevIter I l ((items.size:Int) - 1))(hl:s.heap.IsList l items)(hn:items.size<=10000)
  (hQ:∀ s' acc' c',Moved (s.heap.objs.size::[I]) (fun a b=>b=a) { s with heap:=s.heap.push { cls:=.type "list",data:=.seq #[] } } s' ->
   s'.heap.get? s.heap.objs.size=some { cls:=.type "list",dict:=none,data:=.seq acc' c',slots:=#[] }->ItemsOf (fun i v=>items[items.size - 1 - i]?=some v) acc' items.size->Q (.ref s.heap.objs.size) s') :
  wpAny (model prog w) A (call (.type "list") [.ref I]) Q E s:=by
 have W:=(Walks.listRev (prog:=prog) (w:=w) (A:=A.in1.in1) hh I l hne items).toS;have hst:(items.size:Nat)>=0/\True:=⟨zero_le _,trivial⟩;have st0:(fun (i:Nat) (s:Shared)=>i<=items.size/\s.heap.IsRevIter I l ((items.size:Int) - 1 - (i:Int))/\s.heap.IsList l items) 0 s:=⟨zero_le _,by simpa using hit,hl⟩;have ltI:I < s.heap.objs.size:=by obtain ⟨o,e,_⟩:=hit;exact lt_size e
 have ltl:l < s.heap.objs.size:=by obtain ⟨o,e,_⟩:=hl;exact lt_size e
 have hSf:s.heap.objs.size∉[I,l]:=fun hm=>by
  rcases mem_cons.mp hm with e | e
  .exact lt_irrefl _ (e▸ltI)
  .exact lt_irrefl _ ((mem_singleton.mp e)▸ltl)
 have hs:items.size<=sizeLine:=le_trans hn (by decide);refine callType_codes (Q₁:=fun obj O1=>obj=.ref s.heap.objs.size/\O1={ s with heap:=s.heap.push { cls:=.type "list",data:=.seq #[] } }) F.called_list (F.typeCall_list_1 _) F.entry_list_init
  (code_list_new _ ⟨rfl,rfl⟩) fun obj O1 O8=>?_
 obtain ⟨rfl,rfl⟩:=O8;have hS:(s.heap.push { cls:=.type "list",data:=.seq #[] }).get? s.heap.objs.size=some { cls:=.type "list",data:=.seq #[] }:=get?_push_size _ rfl;refine ⟨⟨_,hS,rfl⟩,F.args_list_init_2 _ _,?_⟩;show wpAny _ A.in1.in1 (do let old<-Builtin.List.listItems (.ref s.heap.objs.size);Builtin.List.listUpdate (.ref s.heap.objs.size) (fun _=>#[]);letGo old.toList.reverse;Builtin.List.listExtendWith (.ref s.heap.objs.size) (.ref I) .none) _ _ _;refine wpAny_bind ?_;unfold Builtin.List.listItems;refine wpAny_bind (wpAny_seqItems hS rfl (wpAny_pure ?_));show wpAny _ A.in1.in1 (updateSeq s.heap.objs.size (fun _=>#[])>>=fun _=>letGo (#[]:Array Value).toList.reverse>>=fun _=>Builtin.List.listExtendWith (.ref s.heap.objs.size) (.ref I) .none) _ _ _;refine wpAny_bind (wpAny_updateSeq hS rfl ?_);have hS2:=Heap.get?_update_self (Obj.mapSeq (fun _=>(#[]:Array Value))) hS rfl;refine wpAny_bind (wpAny_letGo ?_);have oth:∀ b o,b≠s.heap.objs.size->(s.heap.push { cls:=.type "list",data:=.seq #[] }).get? b=some o->((s.heap.push { cls:=.type "list",data:=.seq #[] }).update s.heap.objs.size (Obj.mapSeq (fun _=>(#[]:Array Value)))).get? b=some o :=
  fun b o hb e=>(Heap.get?_update_other _ _ (Ne.symm hb)).trans e
 have kp:∀ (b:Nat) o,s.heap.get? b=some o->((s.heap.push { cls:=.type "list",data:=.seq #[] }).update s.heap.objs.size (Obj.mapSeq (fun _=>(#[]:Array Value)))).get? b=some o:=fun b o e=>oth b o (ne_of_lt (lt_size e)) (get?_push_of_some _ e)
 have hit2:=hit.at (h':=(s.heap.push { cls:=.type "list",data:=.seq #[] }).update s.heap.objs.size (Obj.mapSeq (fun _=>(#[]:Array Value)))) fun o e=>kp I o e
 have hT:({ s with heap:=(s.heap.push { cls:=.type "list",data:=.seq #[] }).update s.heap.objs.size (Obj.mapSeq (fun _=>(#[]:Array Value))) }:Shared).TypeIs (.ref I) "list_reverseiterator":=hit2.typeIs;have st2:=W.frame 0 s ((s.heap.push { cls:=.type "list",data:=.seq #[] }).update s.heap.objs.size (Obj.mapSeq (fun _=>(#[]:Array Value)))) s.toks st0 (le_refl _) fun b hb o e=>kp b o e
 unfold Builtin.List.listExtendWith;refine wpAny_bind (wpAny_typeOf hT ?_);have q1:Builtin.List.listSameRef (.ref s.heap.objs.size) (.ref I)=false:=by
  have:s.heap.objs.size≠I:=Nat.ne_of_gt ltI;simp [Builtin.List.listSameRef,this]
 have q2:(Value.type "list_reverseiterator"==Value.type "list")=false:=by decide
 have q3:(Value.type "list_reverseiterator"==Value.type "tuple")=false:=by decide
 simp only [q1,q2,q3,Bool.or_false,Bool.false_eq_true,if_false];refine wpAny_bind (W.self 0 _ _ _ st2 ?_);refine wpAny_bind (wpAny_holding (zMI hT ?_));rw [if_neg (by decide +kernel)];refine wpAny_pure ⟨plainId_quiet F.plain_extend_loop _,codeAny_extend_loopS W hs _ hSf _ items.size 0 _ _ _ rfl (zero_le _) st2 hS2 (ItemsOf.nil _) fun s' acc' c' hm hS' hacc=>?_⟩;have m1:Moved (s.heap.objs.size::[I]) (fun a b=>b=a) { s with heap:=s.heap.push { cls:=.type "list",data:=.seq #[] } } { s with heap:=(s.heap.push { cls:=.type "list",data:=.seq #[] }).update s.heap.objs.size (Obj.mapSeq (fun _=>(#[]:Array Value))) } :=
  ⟨fun b o hb e=>oth b o (fun h=>hb (by rw [h];exact mem_cons_self)) e,rfl,rfl,rfl,le_refl _⟩
 exact ⟨rfl,hQ s' acc' c' (Moved.trans W.gtrans m1 hm) hS' hacc⟩
end
end DL
namespace DL
open PySem Spec PyProof.Rows L2
theorem zLS {xs:List V}{us:List Value}(h:Vals xs us):Vals xs.reverse us.reverse:=by
 induction h with
 | nil=>exact .nil
 | cons r t ih =>
  rw [reverse_cons,reverse_cons];exact ih.append (.cons r .nil)
theorem DenL.rev {K:W.Frag}{H:Hp}:∀ {ds:List D} {vs:List V},DenL K H ds vs->DenL K H ds.reverse vs.reverse
 | [],_,h=>by rw [DenL] at h;subst h;exact .nil
 | d::ds,_,h=>by
  rw [DenL] at h;obtain ⟨v,ws,rfl,h1,h2⟩:=h;rw [reverse_cons,reverse_cons];exact (DenL.rev h2).append (.cons h1 .nil)
theorem zMy:bootBuiltins "reversed"=some (.type "reversed"):=by decide +kernel
def revD:D->Option R
 | .lst xs=>if xs.length<=10000 then some (.lst xs.reverse,.fr) else none
 | _=>none
section
variable {X:Cx}
theorem zJ8 {its:List Value}{acc:Array Value}(h:ItemsOf (fun i v=>its.toArray[its.toArray.size - 1 - i]?=some v) acc its.toArray.size):acc=its.reverse.toArray:=by
 apply Array.ext';apply ext_getElem?;intro j;obtain ⟨h1,h2⟩:=h;have h3:acc.size=its.length:=h1.trans (by simp);by_cases hj:j < acc.size
 .have e:=h2 j _ (Array.getElem?_eq_getElem hj);rw [Array.getElem?_toList,Array.getElem?_eq_getElem hj];rw [size_toArray,List.getElem?_toArray] at e;show _=its.reverse[j]?;rw [List.getElem?_reverse (by omega)];exact e.symm
 .rw [Array.getElem?_toList,Array.getElem?_eq_none (by omega)];show _=its.reverse[j]?;rw [getElem?_eq_none (by rw [List.length_reverse];omega)]
theorem zIe {a:Expr}{f:Dst->Option R}{p p2 pos pos2:Pos}(hcalm:X.calm=true)(hgl:Gl X "list")(hml:X.mg "list"=none)(hgz:Gl X "reversed")(hmz:X.mg "reversed"=none)(ha:GE X a f)
  (hs:starEach [a] X.env=[(false,eval a X.env)]) :
  GE X (.Call (.Name "list" p) [.Call (.Name "reversed" p2) [a] [] pos2] [] pos) (one f revD):=by
 intro pins s B H Q I ⟨S,G,r,ds,e,c⟩;obtain ⟨x,ex,e⟩:=bind_some e;unfold revD at e;split at e
 .rename_i xs exs;by_cases ok:xs.length<=10000
  .rw [if_pos ok] at e;cases e;refine wpAny_Call_Name_kw (zCh I hgl hml boot_list ?_ (by decide) (by decide));refine PyProof.Rows.callWith_type1 ?_ rfl rfl;show wpAny _ _ (spliced ((false,eval (.Call (.Name "reversed" p2) [a] [] pos2) X.env)::[])) _ _ s;refine Calls.spliced_cons ?_;refine wpAny_Call_Name_kw (zCh I hgz hmz zMy ?_ (by decide) (by decide));refine PyProof.Rows.callWith_type1 (thn ((zAc ha zBA hs) pos2 pins s B H (fun vs H2=>∃ vx,vs=[vx]/\Same H H2/\Rdv X.K H2 S x.1 vx) I
    ⟨S,G,x,ds,ex,fun vx H1 s1 r1=>⟨vx,rfl,s1,r1.rd⟩⟩) fun us s1 ⟨vs,H1,I1,r1,q1⟩=>?_) hs rfl
   obtain ⟨vx,rfl,sm,dx⟩:=q1;rw [exs] at dx;obtain ⟨l1,v1,rfl,w1,d1⟩:=dx.lst;obtain ⟨u1,rfl,ru1⟩:=zIs r1;cases ru1;obtain ⟨its1,rv1,p1,z1⟩:=I1.list w1;have n1:xs.length=v1.length:=d1.length;have m1:=rv1.length;have lt1:l1 < s1.heap.objs.size:=by obtain ⟨o,q,_⟩:=p1.isList;exact lt_size q
   refine call_reversed_list p1.isList ?_;refine Calls.spliced_nil ?_;have kq:∀ b o,s1.heap.get? b=some o->(s1.heap.push (revObj l1 ((its1.toArray.size:Int) - 1))).get? b=some o:=fun b o q=>get?_push_of_some _ q
   refine zFQ (s:={ s1 with heap:=s1.heap.push (revObj l1 ((its1.toArray.size:Int) - 1)) }) (I:=s1.heap.objs.size) (l:=l1) (items:=its1.toArray) (I1.ok.hd hcalm) (ne_of_lt lt1) ⟨_,get?_push_size _ rfl,rfl,rfl⟩ (p1.isList.at fun o q=>kq _ o q) (by rw [size_toArray];omega) fun s' acc c' mv hlst hit=>?_
   have sz:({ s1 with heap:=s1.heap.push (revObj l1 ((its1.toArray.size:Int) - 1)) }:Shared).heap.objs.size=s1.heap.objs.size+1:=Heap.size_push _ _;rw [sz] at mv hlst ⊢;obtain rfl:=zJ8 hit;have kp:∀ b o,s1.heap.get? b=some o->s'.heap.get? b=some o:=fun b o q=>by
    have hb:b < s1.heap.objs.size:=lt_size q;refine mv.heap b o (fun z=>?_) (get?_push_of_some _ (kq b o q));rcases mem_cons.mp z with z | z
    .exact absurd hb (by rw [z];exact Nat.not_lt.mpr (Nat.le_succ _))
    .exact absurd hb (by rw [mem_singleton.mp z];exact lt_irrefl _)
   have es:s'={ s1 with heap:=s'.heap,toks:=s'.toks }:=by
    obtain ⟨h',g',d',t',o'⟩:=s';have e1:g'=s1.gens:=mv.gens;have e2:d'=s1.drawn:=mv.drawn;have e3:o'=s1.os:=mv.os;subst e1 e2 e3
    rfl
   have fr:H1 (s1.heap.objs.size+1)=none:=I1.hok.fresh (Nat.le_succ _);have I2:Inv X pins B (upd H1 (s1.heap.objs.size+1) (.lst v1.reverse)) { s1 with heap:=s'.heap,toks:=s'.toks } :=
    I1.laid kp (Nat.le_succ _) (show zCe X.prog X.w _ _ _ (.lst v1.reverse) from ⟨by rw [List.length_reverse];exact z1,its1.reverse,c',zLS rv1,hlst⟩)
   rw [es];refine ⟨.ref (s1.heap.objs.size+1),_,I2,rfl,c _ _ (sm.trans (zAk fr _)) (.lstNew sm (ds.mono sm).sok fr d1.rev)⟩
  .rw [if_neg ok] at e;cases e
 .cases e
end
end DL
end
section
namespace DL
open PySem Spec PyProof.Rows L2
section
variable {X:Cx}
def augI:Operator->Int->Int->Option Int
 | .Add,a,b=>some (a+b)
 | .Sub,a,b=>some (a - b)
 | _,_,_=>none
def augD (op:Operator)(i:Nat)(f:Dst->Option R):Dst->Option Out:=fun G=>match G[i]? with
 | some (some (.int a,false))=>(f G).bind fun r=>match r.1 with
  | .int b=>(augI op a b).bind fun c=>some (.nx (G.set i (some (.int c,false))))
  | _=>none
 | _=>none
theorem zR1 {op:Operator}{i:Nat}{x:Str}{e:Expr}{f:Dst->Option R}{pos pos':Pos}(hN:X.N.Nodup)(hi:X.N[i]?=some x)(hx:Loc X.env.scope x)(h:GE X e f)(hf:X.fn x=true\/X.env.scope.names.lookup x=some .local) :
  GS X (.AugAssign (.Name x pos') op e pos) (augD op i f):=fun H0=>by
 have go:∀ (g:Int->Int->Int),(∀ a b,augI op a b=some (g a b))->OpR X (inplaceOp op) (rI0 fun i j=>.int (g i j))->PS X (.AugAssign (.Name x pos') op e pos) (gS X.K H0 (augD op i f)):=fun g hg ho=>(zQ0 hN hi hx h (fun pins s B H x y v u Q I rx ry q=>ho pins s B H x y v u Q I rx ry q) hf).imp fun E B H zz70=>by
  obtain ⟨S,G,o,ds,h0,e,p⟩:=zz70;unfold augD at e;split at e
  .rename_i a q;obtain ⟨r,er,e⟩:=bind_some e;obtain ⟨d,k⟩:=r;split at e
   .rename_i b eb;rw [hg] at e;cases e;dsimp only at eb;subst eb;obtain ⟨v,q1,q2⟩:=ds.get i _ _ q;have q3:=q2.den rfl;rw [Den] at q3;subst q3;refine ⟨_,q1,S,G,_,ds,er,fun y H1 s1 r1=>⟨a,b,rfl,r1.rd.int,?_⟩⟩;exact p S _ H1 ((ds.mono s1).set (by rw [Den])) (h0.trans (zAQ s1))
   .cases e
  .cases e
 have no:(∀ a b,augI op a b=none)->PS X (.AugAssign (.Name x pos') op e pos) (gS X.K H0 (augD op i f)):=fun hn=>(zE2 (X:=X)).imp fun E B H zz71=>by
  obtain ⟨S,G,o,ds,h0,e,p⟩:=zz71;unfold augD at e;split at e
  .obtain ⟨r,er,e⟩:=bind_some e;split at e
   .rw [hn] at e;cases e
   .cases e
  .cases e
 cases op with
 | Add=>exact go (·+·) (fun _ _=>rfl) zPR
 | Sub=>exact go (· - ·) (fun _ _=>rfl) zPQ
 | _=>exact no fun _ _=>rfl
def swpD (i j k l:Nat):Dst->Option Out:=fun G=>match G[k]?,G[l]? with
 | some (some (a,false)),some (some (b,false))=>some (.nx ((G.set i (some (a,false))).set j (some (b,false))))
 | _,_=>none
def tg3 (i j k:Nat):D->Dst->Option Dst:=fun d G=>match d with
 | .tup [a,b,c]=>some (((G.set i (some (a,false))).set j (some (b,false))).set k (some (c,false)))
 | _=>none
def zNp:List D->Option (List Int)
 | []=>some []
 | .int i::ds=>(zNp ds).map fun ns=>i::ns
 | _=>none
def sumD:D->Option R
 | .lst ds=>(zNp ds).map fun ns=>(.int ns.sum,.cl)
 | _=>none
theorem zCu:∀ {ns:List Int} {its:List Value},Vals (ns.map V.int) its->∃ ps:List (Int×Tok),its=ps.map (fun p=>Value.int p.1 p.2)/\ps.map (·.1)=ns
 | [],[],_=>⟨[],rfl,rfl⟩
 | n::ns,_::_,.cons r t=>by
  obtain ⟨ps,rfl,e2⟩:=zCu t;obtain ⟨tk,rfl⟩:=r;exact ⟨(n,tk)::ps,rfl,by rw [map_cons,e2]⟩
end
section
variable {X:Cx}
theorem RV.str {K:W.Frag}{H H':Hp}{S:List Addr}(x:Str):RV K H H' S (.str x,.cl) (.str x):=by show Den _ _ _ _;rw [Den]
def zMv (x:Str):List D:=x.cps.toList.map fun c=>D.str ⟨#[c]⟩
def Its (x:Str):It:=⟨fun i _=>i < x.cps.size,fun i H v H'=>H'=H/\∃ c,x.cps[i]?=some c/\v=.str ⟨#[c]⟩,fun i _=>x.cps.size<=i⟩
theorem zLU {P:Program}{w:World}{K:W.Frag}{tg:Expr}(it:Addr)(x:Str)(t:Tok):Turn P w K tg (Its x) [it] it (fun i h=>h.IsStrIter it "str_ascii_iterator" x t i) where
 mem:=by simp
 obj:=fun i h st b hb=>by
  have e:b=it:=by simpa using hb
  subst e;obtain ⟨o,e,c,d⟩:=st;exact ⟨o,e,fun v z=>by rw [d] at z;cases z⟩
 keep:=fun i h h' st k=>let ⟨o,ho,r⟩:=st;⟨o,k it (by simp) o ho,r⟩
 item:=by
  intro X hP hw hK hc i pins s B H E I hf st hg;subst hP hw hK;obtain ⟨f0,f1,f2,f3,f4,f5⟩:=hf it (by simp);have hg':i < x.cps.size:=hg;refine wpAny_pyNext_ascii_item st (c:=x.cps[i]) (by simp [hg']) fun h' st' sb=>?_
  have I1:Inv X pins B H { s with heap:=h',toks:=s.toks+1 }:=I.turned (fun b o hb e=>(sb.2 b hb).trans e) f0 f1 f3 f4 f5;obtain ⟨o,e,c,d⟩:=id st';exact ⟨_,rfl,zKN (s:={ s with heap:=h',toks:=s.toks+1 }) e c d (by decide) ⟨.str ⟨#[x.cps[i]]⟩,H,I1,⟨_,rfl⟩,⟨rfl,_,by simp [hg'],rfl⟩,st',fun b hb=>(hf b hb).1⟩⟩
 done:=by
  intro X hP hw hK hc i pins s B H E I hf st hg;subst hP hw hK;obtain ⟨f0,f1,f2,f3,f4,f5⟩:=hf it (by simp);have hg':x.cps.size<=i:=hg;exact wpAny_pyNext_ascii_end (I.ok.hd hc) st (by simp [hg']) fun h' eb=>⟨rfl,I.turned (t':=s.toks) (fun b o hb e=>eb b o hb e) f0 f1 f3 f4 f5⟩
 self:=fun _ _ _ _ _ st h=>wpAny_pyIter_striter_ascii st h
def iStr (tl:TE):TI:=fun B H R=>tl B H fun v H1=>∃ x:Str,v=.str x/\x.cps.all (· < 128)=true/\R (Its x) H1
theorem zQ2 {tg l:Expr}{tl:TE}(hl:PE X l tl):PI X tg l (iStr tl):=by
 intro pins s B H R I h;refine thn (hl pins s B H _ I h) fun v s1 zz72=>?_
 obtain ⟨x,H1,I1,r1,q1⟩:=zz72;obtain ⟨z,e,ha,q⟩:=q1;subst e;obtain ⟨t,rfl⟩:=r1;refine wpAny_pyIter_ascii ha ?_;refine ⟨s1.heap.objs.size,[s1.heap.objs.size],_,_,H1,rfl,I1.kept (t':=s1.toks) fun b o e=>get?_push_of_some _ e,zLU _ z t,⟨_,get?_push_size _ rfl,rfl,rfl⟩,fun b hb=>?_,q⟩;have e:b=s1.heap.objs.size:=by simpa using hb
 subst e;exact I1.fpOk (le_refl _) (I1.hok.fresh (le_refl _))
def zJ9 (f:Dst->Option R):Dst->Option (List D):=fun G=>match f G with
 | some (.str x,_)=>if x.cps.all (· < 128)=true then some (zMv x) else none
 | _=>none
theorem zR6 {tg iter:Expr}{f:Dst->Option R}(h:GE X iter f):GI X tg iter (zJ9 f):=by
 refine ⟨_,zQ2 h,fun B H S G xs Rr ds e q=>?_⟩;unfold zJ9 at e;split at e
 .rename_i x k q1;by_cases ha:x.cps.all (· < 128)=true
  .rw [if_pos ha] at e;cases e;have hl:(zMv x).length=x.cps.size:=by unfold zMv;simp
   refine ⟨S,G,_,ds,q1,fun v H1 s1 r1=>⟨x,r1.rd.str,ha,q _ H1 s1 fun i H2 hi k2=>?_⟩⟩;refine ⟨fun ei=>by rw [hl] at ei;exact Nat.le_of_eq ei.symm,fun hx=>⟨by rw [hl] at hx;exact hx,fun v H3 y=>⟨y.1,fun d ed=>?_⟩⟩⟩;obtain ⟨_,c,hc,rfl⟩:=y;unfold zMv at ed;have hc':x.cps.toList[i]?=some c:=by rw [Array.getElem?_toList];exact hc
   rw [getElem?_map,hc'] at ed;cases ed;rw [Den]
  .rw [if_neg ha] at e;cases e
 .cases e
inductive T1 where
 | str | int | all | len
 deriving DecidableEq
def bsOf:List D->Option (List Bool)
 | []=>some []
 | .bl b::ds=>(bsOf ds).map fun bs=>b::bs
 | _=>none
def zNI:List D->Option (List Str)
 | []=>some []
 | .str x::ds=>(zNI ds).map fun xs=>x::xs
 | _=>none
def zTG:D->Option R
 | .int i=>if i.natAbs.log2 < 1920 then some (.str (Str.ofString (toString i)),.cl) else none
 | _=>none
def zTj:D->Option R
 | .str x=>if x.length<=640 then (PySem.intText? x).map fun n=>(.int n,.cl) else none
 | _=>none
def allD:D->Option R
 | .lst ds=>(bsOf ds).map fun bs=>(.bl (bs.all id),.cl)
 | _=>none
def zTH:D->Option R
 | .str x=>if x.length<=10000 then some (.int x.length,.cl) else none
 | _=>none
def t1D:T1->D->Option R
 | .str=>zTG
 | .int=>zTj
 | .all=>allD
 | .len=>zTH
def T1.nm:T1->Str
 | .str => "str"
 | .int => "int"
 | .all => "all"
 | .len => "len"
inductive T2 where
 | add | inn | ix | drp | sw | spl | join | zf | fs (x:Str)
open Builtin Builtin.Str in
def zOQ (x y:Str):Bool:=!(y.length==0)&&decide (x.length<=10000)&&decide ((Txt.split x y).length<=10000)&&decide ((partsBetween x (occurrences x y 0 x.length (x.length+1)) y.length).length<=10000)
def txtD:D->Option Str
 | .int i=>if i.natAbs.log2 < 1920 then some (Str.ofString (toString i)) else none
 | .str x=>if x.length<=10000 then some x else none
 | _=>none
def zTI (x y:D):Option R:=match x,y with
 | .str i,.str j=>if i.length+j.length<=10000 then some (.str (i++j),.cl) else none
 | _,_=>none
def sinD (x y:D):Option R:=match x,y with
 | .str i,.str j=>some (.bl (!(Builtin.Str.occurrences j i 0 j.length 1).isEmpty),.cl)
 | _,_=>none
def sixD (x y:D):Option R:=match x,y with
 | .str z,.int i=>if 0<=i/\z.length<=10000 then (z.cps[i.toNat]?).map fun c=>(.str ⟨#[c]⟩,.cl) else none
 | _,_=>none
def sdrD (x y:D):Option R:=match x,y with
 | .str z,.int i=>if z.length<=10000 then some (.str (Txt.slice z (some i) none),.cl) else none
 | _,_=>none
def swD (x y:D):Option R:=match x,y with
 | .str i,.str j=>some (.bl (Txt.startswith i j),.cl)
 | _,_=>none
def splD (x y:D):Option R:=match x,y with
 | .str i,.str j=>if zOQ i j=true then some (.lst ((Txt.split i j).map D.str),.fr) else none
 | _,_=>none
def zTf (x y:D):Option R:=match x,y with
 | .str i,.lst ds=>(zNI ds).bind fun ts=>if JoinOk i ts=true then some (.str (Txt.join i ts),.cl) else none
 | _,_=>none
def zfD (x y:D):Option R:=match x,y with
 | .str i,.int j=>if PadOk j=true then some (.str (Txt.zfill i j),.cl) else none
 | _,_=>none
def fsD (m:Str)(x y:D):Option R:=(txtD x).bind fun a=>(txtD y).bind fun b=>if a.length+m.length+b.length<=10000 then some (.str (a++m++b),.cl) else none
def t2D:T2->D->D->Option R
 | .add=>zTI
 | .inn=>sinD
 | .ix=>sixD
 | .drp=>sdrD
 | .sw=>swD
 | .spl=>splD
 | .join=>zTf
 | .zf=>zfD
 | .fs m=>fsD m
end
section
variable {X:Cx}
def anyS (sub:Str->Str->Option Bool)(c:Str):List Str->Option Bool
 | []=>some false
 | y::ys=>match sub y c with
  | some true=>some true
  | some false=>anyS sub c ys
  | none=>none
def isaF (sub:Str->Str->Option Bool)(ys:List Str):D->Option R
 | .exc c=>(anyS sub c ys).bind fun b=>some (.bl b,.cl)
 | _=>none
inductive ClsT (X:Cx) (sub:Str->Str->Option Bool):List Str->List Expr->List V->List Value->Prop
 | nil:ClsT X sub [] [] [] []
 | cons {y:Str} {ys:List Str} {p:Pos} {es:List Expr} {v:V} {vs:List V} {u:Value} {us:List Value}:(∀ u',RelV v u'->u'=u)->PE X (.Name y p) (tC v)->(∀ c b,sub y c=some b->∀ C,zQY X.K c C->XCls X.K C/\W.kitOne X.K (.ref C) u=some b) ->
   ClsT X sub ys es vs us->ClsT X sub (y::ys) (.Name y p::es) (v::vs) (u::us)
theorem ClsT.pa {sub:Str->Str->Option Bool}{ys:List Str}{es:List Expr}{vs:List V}{us:List Value}(h:ClsT X sub ys es vs us):PA X es (fun _ H Q=>Q vs H):=by
 induction h with
 | nil=>exact zBA
 | cons h1 h2 h3 h4 ih=>exact zAc h2 ih rfl
theorem ClsT.us {sub:Str->Str->Option Bool}{ys:List Str}{es:List Expr}{vs:List V}{us ws:List Value}(h:ClsT X sub ys es vs us)(r:Vals vs ws):ws=us:=by
 induction h generalizing ws with
 | nil=>cases r;rfl
 | cons h1 h2 h3 h4 ih =>
  cases r with
  | cons r1 r2=>rw [h1 _ r1,ih r2]
theorem ClsT.any {sub:Str->Str->Option Bool}{ys:List Str}{es:List Expr}{vs:List V}{us:List Value}(h:ClsT X sub ys es vs us){c:Str}{C:Addr}(q:zQY X.K c C):∀ {b:Bool},anyS sub c ys=some b->W.kitAny X.K (.ref C) us=some b:=by
 induction h with
 | nil=>intro b e;exact e
 | cons h1 h2 h3 h4 ih =>
  intro b e;unfold anyS at e;unfold W.kitAny;split at e
  .rename_i e1;rw [(h3 c true e1 C q).2];exact e
  .rename_i e1;rw [(h3 c false e1 C q).2];exact ih e
  .cases e
theorem ClsT.len {sub:Str->Str->Option Bool}{ys:List Str}{es:List Expr}{vs:List V}{us:List Value}(h:ClsT X sub ys es vs us):vs.length=ys.length:=by
 induction h with
 | nil=>rfl
 | cons h1 h2 h3 h4 ih=>rw [length_cons,length_cons,ih]
def rRep (K:W.Frag):R2:=fun x y H Q=>∃ l xs i,x=.ref l/\y=.int i/\SqL K H l xs/\0<=i/\i<=10000/\xs.length*i.toNat<=10000/\∀ p,H p=none->Q (.ref p) (upd H p (.lst (List.replicate i.toNat xs).flatten))
theorem zHE {vs:List V}{us:List Value}(h:Vals vs us):∀ n:Nat,Vals (List.replicate n vs).flatten (List.replicate n us).flatten
 | 0=>.nil
 | n+1=>by rw [replicate_succ,flatten_cons,replicate_succ,flatten_cons];exact h.append (zHE h n)
theorem zKx {K:W.Frag}{H:Hp}{ds:List D}{vs:List V}(h:DenL K H ds vs):∀ n:Nat,DenL K H (List.replicate n ds).flatten (List.replicate n vs).flatten
 | 0=>.nil
 | n+1=>by rw [replicate_succ,flatten_cons,replicate_succ,flatten_cons];exact h.append (zKx h n)
theorem zGk {U:Type}(xs:List U):∀ n:Nat,(List.replicate n xs).flatten.length=xs.length*n
 | 0=>by simp
 | n+1=>by rw [replicate_succ,flatten_cons,length_append,zGk xs n,Nat.mul_succ];omega
theorem zRH:OpR X (binaryOp .Mult) (rRep X.K):=by
 intro pins s B H x y v u Q I rx ry h;obtain ⟨l,xs,i,rfl,rfl,hl,h0,h1,hz,q⟩:=h;cases rx;obtain ⟨t,rfl⟩:=ry;obtain ⟨its,rv,⟨⟨cls,dd,data,sl⟩,n,e1,e2,e3,e4⟩,z1⟩:=I.list hl;simp only at e2 e3 e4;subst e2 e4;have hsz:its.toArray.size*i.toNat<=10000:=by rw [size_toArray,<- rv.length];exact hz
 refine wpAny_binaryOp_repeat_ref (T := "list") (U := "int") (by decide) ⟨_,e1,rfl⟩ (fun s'=>typeIs_int s' i t) noFill_list_mul F.fills_int_mul F.slot_int_rmul repeat_list F.slot_int_index.lookup ?_;refine call_meets F.slot_int_rmul (typeIs_int s i t) F.entry_int_rmul (F.args_int_rmul_2 _ _) (lm_int_rmul_list_any i t l _ n dd sl) ⟨e1,rfl,⟨_,e1,rfl⟩,?_⟩;refine call_meets F.slot_list_mul ⟨_,e1,rfl⟩ F.entry_list_mul (F.args_list_mul_2 _ _) (lm_list_mul_any l _ n dd sl i t (by simp [Builtin.List.listFitsIndex];omega) (by omega) (by simp [Builtin.List.listTooLong,sizeLine];rw [size_toArray] at hsz;omega)) ⟨e1,?_⟩;rw [listMul_foldl_if];exact ⟨.ref _,_,I.lnew (t':=s.toks) (zHE rv i.toNat) (by rw [zGk];exact zCf hz),rfl,q _ I.fresh⟩
end
end DL
end
section
namespace L2
open PySem Spec PyProof.Rows
section
variable {a:Type}[DecidableEq a]
def valV (kvs:List (a×V))(k:a):Option V:=(kvs.find? fun kv=>decide (kv.1=k)).map (·.2)
def putK (kvs:List (a×V))(k:a)(v:V):List (a×V) :=
 if (kvs.any fun kv=>decide (kv.1=k))=true then kvs.map (fun kv=>if kv.1=k then (kv.1,v) else kv) else kvs++[(k,v)]
theorem zHG {p:a×V}{r:List (a×V)}{k:a}(e:p.1=k):valV (p::r) k=some p.2:=by simp [valV,find?_cons,e]
theorem zHH {p:a×V}{r:List (a×V)}{k:a}(e:¬ p.1=k):valV (p::r) k=valV r k:=by simp [valV,find?_cons,e]
theorem zHI (k:a):∀ kvs:List (a×V),(kvs.any fun kv=>decide (kv.1=k))=(valV kvs k).isSome
 | []=>rfl
 | p::r=>by
  rw [List.any_cons];by_cases e:p.1=k
  .simp only [zHG e,decide_eq_true e,Bool.true_or,Option.isSome_some]
  .rw [zHH e,decide_eq_false e,Bool.false_or];exact zHI k r
end
theorem RelO.isSome_eq {o:Option V}{u:Option Value}(r:RelO o u):o.isSome=u.isSome:=by
 cases o with
 | none=>cases u with
  | none=>rfl
  | some _=>exact (show False from r).elim
 | some _=>cases u with
  | none=>exact (show False from r).elim
  | some _=>rfl
abbrev KT (H:Hp):List (List Key×V)->List (List Key×Addr×Value)->Prop:=Paired fun p q=>p.1=q.1/\H q.2.1=some (.tup (p.1.map kV))/\RelV p.2 q.2.2
theorem KT.val {H:Hp}{kvs:List (List Key×V)}{xs:List (List Key×Addr×Value)}(r:KT H kvs xs)(k:List Key):RelO (valV kvs k) ((atKey xs k).map (·.2)):=by
 induction r with
 | nil=>exact True.intro
 | @cons p q ps qs h t ih =>
  obtain ⟨h1,_,h2⟩:=h;by_cases e:p.1=k
  .have e':q.1=k:=h1.symm.trans e;have b:atKey (q::qs) k=some q.2:=by simp [atKey,find?_cons,e']
   rw [zHG e,b];exact h2
  .have e':¬ q.1=k:=fun z=>e (h1.trans z)
   have b:atKey (q::qs) k=atKey qs k:=by simp [atKey,find?_cons,e']
   rw [zHH e,b];exact ih
theorem KT.repl {H:Hp}{kvs:List (List Key×V)}{xs:List (List Key×Addr×Value)}(r:KT H kvs xs)(k:List Key){y:V}{u:Value}(ry:RelV y u) :
  KT H (kvs.map fun kv=>if kv.1=k then (kv.1,y) else kv) (xs.map (putAt k u)):=by
 induction r with
 | nil=>exact .nil
 | @cons p q ps qs h t ih =>
  rw [map_cons,map_cons];refine .cons ?_ ih;obtain ⟨h1,h2,h3⟩:=h;unfold putAt;by_cases e:p.1=k
  .rw [if_pos e,if_pos (h1.symm.trans e)];exact ⟨h1,h2,ry⟩
  .rw [if_neg e,if_neg (fun z=>e (h1.trans z))];exact ⟨h1,h2,h3⟩
theorem KT.put {H:Hp}{kvs:List (List Key×V)}{xs:List (List Key×Addr×Value)}(r:KT H kvs xs)(k:List Key){b:Addr}{y:V}{u:Value}(hb:H b=some (.tup (k.map kV)))(ry:RelV y u) :
  KT H (putK kvs k y) (storedH xs k b u):=by
 have e:(kvs.any fun kv=>decide (kv.1=k))=(atKey xs k).isSome:=by
  rw [zHI,(r.val k).isSome_eq,Option.isSome_map]
 unfold putK storedH;rw [e];by_cases q:(atKey xs k).isSome=true
 .rw [if_pos q,if_pos q];exact r.repl k ry
 .rw [if_neg q,if_neg q];exact Paired.snoc r ⟨rfl,hb,ry⟩
theorem KT.keeps {H H':Hp}{kvs:List (List Key×V)}{xs:List (List Key×Addr×Value)}(r:KT H kvs xs)(ht:∀ b ys,H b=some (.tup ys)->H' b=some (.tup ys)):KT H' kvs xs :=
 Paired.mapP r fun _ _ z=>⟨z.1,ht _ _ z.2.1,z.2.2⟩
section
variable {X:Cx}{pins:List (Addr×Obj)}{B:St}{H:Hp}{s:Shared}{a:Addr}{y v:V}{u r:Value}{o:Option V}{A:Around}{E:Value->Shared->Prop}
theorem Inv.big (I:Inv X pins B H s):sysModules < s.heap.objs.size:=by
 have h:mainGlobals < s.heap.objs.size:=(I.mod.glob.keeps I.bk).lt;exact Nat.lt_trans (by decide) h
end
end L2
end
section
namespace DL
open PySem Spec PyProof.Rows L2
def ninD (f g h:Dst->Option R):Dst->Option R:=fun G=>(f G).bind fun x=>(g G).bind fun y=>(h G).bind fun z=>match x.1,y.1,z.1 with
 | .int i,.int j,.dct ks=>some (.bl (!decide ((i,j)∈ks)),.cl)
 | _,_,_=>none
variable {X:Cx}
def putP (ks:List (Int×Int))(q:Int×Int):List (Int×Int):=if q∈ks then ks else ks++[q]
def zT9 (i:Nat):Dst->Option Out:=fun G=>some (.nx (G.set i (some (.dct [],true))))
def zT8 (i:Nat)(f g:Dst->Option R):Dst->Option Out:=fun G=>match G[i]? with
 | some (some (.dct ks,true))=>(f G).bind fun x=>(g G).bind fun y=>match x.1,y.1 with
  | .int m,.int n=>if ks.length<=10000 then some (.nx (G.set i (some (.dct (putP ks (m,n)),true)))) else none
  | _,_=>none
 | _=>none
end DL
end
section
namespace DL
open PySem Spec PyProof.Rows L2
theorem zD5 {P:Program}{w:World}{H:Hp}{h:Heap}{b:Addr}{o:Obj}(e:h.get? b=some o):zCe P w H h b (.frz o anyU):=⟨e,True.intro,⟨o,e⟩,fun _ _ _ _=>True.intro⟩
theorem zOb {P:Program}{w:World}{fs:List Addr}{H H2:Hp}{h h':Heap}{S:List Addr}(hS:∀ b∈S,∃ o,H b=some (.frz o anyU))(nf:∀ b∈S,b∉fs)(hok:HOk P w H h)(un:Un fs [] (hide H S) H2 h h')(hok2:HOk P w H2 h') :
  ∃ H':Hp,(∀ b∈S,H' b=H b)/\(∀ b,b∉S->H' b=H2 b)/\Same H2 H'/\(∀ b∈S,H2 b=none)/\Un fs [] H H' h h'/\HOk P w H' h':=by
 have there:∀ {b:Addr},b∈S->∃ o,H b=some (.frz o anyU)/\h'.get? b=some o/\H2 b=none:=fun {b} z=>by
  obtain ⟨o,e⟩:=hS b z;obtain ⟨e1,_⟩:=hok b _ e;exact ⟨o,e,un.keep b o e1 (zB2 z) (nf b z) (by simp),un.free b o e1 (zB2 z) (by simp)⟩
 have nS:∀ {b:Addr} {u:HO},H2 b=some u->b∉S:=fun {b u} e z=>by
  obtain ⟨_,_,_,q⟩:=there z;rw [q] at e;cases e
 have nN:∀ {b:Addr},H b=none->b∉S:=fun {b} e z=>by
  obtain ⟨_,q,_⟩:=there z;rw [q] at e;cases e
 have hid:∀ {b:Addr},b∉S->hide H S b=H b:=fun z=>zAN z
 obtain ⟨H',hin,hout⟩:∃ H':Hp,(∀ b∈S,H' b=H b)/\(∀ b,b∉S->H' b=H2 b):=⟨fun b=>if b∈S then H b else H2 b,fun b z=>if_pos z,fun b z=>if_neg z⟩;have sm:Same H2 H':=fun b u e=>by rw [hout b (nS e)];exact e
 refine ⟨H',hin,hout,sm,fun b z=>(there z).choose_spec.2.2,⟨fun b o e n=>un.keep b o e (by rw [hid (nN n)];exact n),fun b o e n=>un.slot b o e (by rw [hid (nN n)];exact n),fun b o e n hx=>?_,un.there,fun b xs e=>?_,fun b o u e=>?_,fun b q e=>?_⟩,fun b u e=>?_⟩
 .rw [hout b (nN n)];exact un.free b o e (by rw [hid (nN n)];exact n) hx
 .have z:b∉S:=fun z=>by obtain ⟨_,q,_⟩:=there z;rw [q] at e;cases e
  rw [hout b z];exact un.tups b xs (by rw [hid z];exact e)
 .by_cases z:b∈S
  .rw [hin b z];exact e
  .rw [hout b z];exact un.frzs b o u (by rw [hid z];exact e)
 .have z:b∉S:=fun z=>by obtain ⟨_,q,_⟩:=there z;rw [q] at e;cases e
  rw [hout b z];exact un.tbls b q (by rw [hid z];exact e)
 .by_cases z:b∈S
  .obtain ⟨o,q,g,_⟩:=there z;rw [hin b z,q] at e;cases e;exact zD5 g
  .rw [hout b z] at e;exact (hok2 b u e).stay (fun _ _ _ q=>q) (fun _ q=>sm _ _ q) (fun _ _ q=>sm _ _ q) fun _ _ _ q _=>sm _ _ q
theorem zMH {P:Program}{w:World}{H:Hp}{h:Heap}{S:List Addr}(hS:∀ b∈S,∃ o v,H b=some (.frz o anyU)/\o.data=.cell v)(hok:HOk P w H h):HOk P w (hide H S) h:=fun b u e=>by
 obtain ⟨nb,e1⟩:=zAt e;have keep:∀ {c:Addr} {v:HO},H c=some v->(∀ o,v≠.frz o anyU)->hide H S c=some v:=fun {c v} q n=>by
  rw [zAN fun z=>?_]
  .exact q
  .obtain ⟨o,_,q2,_⟩:=hS c z;rw [q] at q2;exact n o (Option.some.inj q2)
 refine (hok b u e1).stay (fun _ _ _ q=>q) (fun c q=>keep q fun o z=>nomatch z) (fun c xs q=>keep q fun o z=>nomatch z) fun c ob v q zz73=>?_
 obtain ⟨vs,d⟩:=zz73;rw [zAN fun z=>?_]
 .exact q
 .obtain ⟨o,cv,q2,d2⟩:=hS c z;rw [q] at q2;cases q2;rw [d] at d2;cases d2
theorem zBJ.get:∀ {H:Hp} {cl:List (Str×Addr)} {vs:List V},zBJ H cl vs->∀ {i:Nat} {v:V},vs[i]?=some v->∃ p o u,cl[i]?=some p/\H p.2=some (.frz o anyU)/\o.data=.cell (some u)/\RelV v u
 | _,_,_,.nil,i,v,e=>by simp at e
 | H,_,_,.cons (a:=p) (b:=v0) ⟨o,u,h1,h2,h3⟩ t,i,v,e=>by
  cases i with
  | zero=>simp at e;subst e;exact ⟨p,o,u,by simp,h1,h2,h3⟩
  | succ i =>
   obtain ⟨p',o',u',e1,e2⟩:=zBJ.get (H:=H) t (i:=i) (v:=v) (by simpa using e);exact ⟨p',o',u',by simpa using e1,e2⟩
theorem zBJ.mem {H:Hp}{cl:List (Str×Addr)}{vs:List V}(h:zBJ H cl vs):∀ p∈cl,∃ o u,H p.2=some (.frz o anyU)/\o.data=.cell (some u):=by
 induction h with
 | nil=>intro p hp;exact absurd hp (by simp)
 | cons r t ih =>
  intro p hp;rcases mem_cons.mp hp with rfl | hp
  .obtain ⟨o,u,h1,h2,_⟩:=r;exact ⟨o,u,h1,h2⟩
  .exact ih p hp
def zSo (P:Program)(w:World)(K:W.Frag)(mg:Str->Option Value)(base:Heap)(N:List Str)(L:LamI)(f c:Addr)(cl:List (Str×Addr))(A:Around)(outer:List Env)(s:Shared)(H:Hp):Cx where
 prog:=P
 w:=w
 K:=K
 mg:=mg
 base:=base
 A:=A.deeper (W.envX L.qual L.scope s.heap.objs.size f (.ref c) cl)
 N:=N
 s0:=s
 Z3:=H
 env:=W.envX L.qual L.scope s.heap.objs.size f (.ref c) cl
 outer:=outer
 stack:=W.envX L.qual L.scope s.heap.objs.size f (.ref c) cl::outer
 ex:=[]
 calm:=true
 fn:=fun _=>false
 pn:=[]
 xe:=fun _ _=>False
structure zG9 (x:Str)(ys:List Str)(L:LamI):Prop where
 kind:L.scope.kind=.function
 co:L.scope.isCoroutine=false
 gen:L.scope.isGenerator=false
 nd:(x::ys).Nodup
 par:L.scope.names.lookup x=some .local
 fr:∀ y∈ys,L.scope.names.lookup y=some .free
 all:∀ y,L.scope.names.lookup y=some .free->y∈ys
 nocell:∀ y∈L.scope.names,y.2≠.cell
 bind:∀ cl pm c ctv u,bindArgs (W.kla_fn "<lambda>" L.qual L.params L.body L.scope cl pm c ctv) ⟨[u],[]⟩=pure [(x,u)]
theorem zFz {ys:List Str}:∀ {cl:List (Str×Addr)},cl.map (·.1)=ys->ys.Nodup->∀ {i:Nat} {p:Str×Addr},cl[i]?=some p->cl.lookup p.1=some p.2/\ys[i]?=some p.1:=fun {cl} h nd {i p} e=>by
 refine ⟨?_,by rw [<- h,getElem?_map,e];rfl⟩;subst h
 induction cl generalizing i with
 | nil=>simp at e
 | cons q cl ih =>
  rw [map_cons,nodup_cons] at nd;cases i with
  | zero=>simp at e;subst e;rw [lookup_cons,beq_self_eq_true]
  | succ i =>
   have e':cl[i]?=some p:=by simpa using e
   have ne:(p.1==q.1)=false:=beq_eq_false_iff_ne.mpr fun z=>nd.1 (by rw [<- z];exact mem_map.mpr ⟨p,mem_of_getElem? e',rfl⟩)
   rw [lookup_cons,ne];exact ih e' nd.2
theorem zPS {P:Program}{w:World}{K:W.Frag}{mg:Str->Option Value}{base:Heap}{x:Str}{ys:List Str}{L:LamI}{f c:Addr}{cl:List (Str×Addr)}{A:Around}{outer:List Env}{s:Shared}{H:Hp}{u:Value}{v:V}{vs:List V}{O8:Heap}
  (S:zG9 x ys L) (hd:A.handled=none) (hdp:A.depth+1+Builtin.pylongFrames < recursionLimit) (e0:Env0 P w K mg base A outer s H) (r:RelV v u) (hy:cl.map (·.1)=ys) (hnd:(cl.map (·.2)).Nodup) (hc:zBJ H cl vs)
  (hns:O8.Ns s.heap.objs.size (fun y=>([(x,u)]:List (Str×Value)).reverse.lookup y)) (hsb:Heap.SameBut s.heap.objs.size (s.heap.push { cls:=.type "frame",data:=.dict #[] }) O8) (tk:Nat) :
  Inv (zSo P w K mg base (x::ys) L f c cl A outer s (hide H (cl.map (·.2)))) [] (some v::vs.map some) (hide H (cl.map (·.2))) { s with heap:=O8,toks:=tk }:=by
 have hk:∀ b o,s.heap.get? b=some o->O8.get? b=some o:=fun b o e=>hsb.extBut b o (ne_of_lt (lt_size e)) (get?_push_of_some _ e)
 have hS:∀ b∈cl.map (·.2),∃ o v,H b=some (.frz o anyU)/\o.data=.cell v:=fun b z=>by
  obtain ⟨p,hp,rfl⟩:=mem_map.mp z;obtain ⟨o,u,h1,h2⟩:=hc.mem p hp;exact ⟨o,_,h1,h2⟩
 have hok:=zMH hS e0.hok;have none_of:∀ {b:Addr},H b=none->hide H (cl.map (·.2)) b=none:=fun {b} q=>by
  by_cases z:b∈cl.map (·.2)
  .exact zB2 z
  .rw [zAN z];exact q
 have lk:∀ {y:Str} {c':Addr},cl.lookup y=some c'->(y,c')∈cl:=fun e=>PySem.mem_of_lookup e
 have cell:∀ {y:Str} {c':Addr},(y,c')∈cl->∃ cv,O8.IsCell c' cv:=fun {y c'} m=>by
  obtain ⟨o,u,h1,h2⟩:=hc.mem _ m;obtain ⟨e1,_⟩:=e0.hok _ _ h1;exact ⟨_,o,hk _ _ e1,h2⟩
 have nodupY:ys.Nodup:=(nodup_cons.mp S.nd).2;have nx:x∉ys:=(nodup_cons.mp S.nd).1;have noA:∀ b:Addr,b∉([]:List Addr):=fun b z=>absurd z (by simp)
 have lv:vs.length=cl.length:=(Paired.length hc).symm;refine ⟨⟨e0.mod,S.kind,rfl,rfl,le_refl _,fun y z c' h1 h2=>?_,fun y hy'=>?_,fun y c' q _=>(by cases q),fun _=>hd,Around.frames_deeper e0.frames,.inr ⟨rfl,rfl⟩,fun b z=>absurd z (noA b),fun b o e=>⟨(e0.bs b o e).1,none_of (e0.bs b o e).2⟩,e0.bsz,fun b _ _=>noA b,fun b z=>absurd z (noA b),e0.funs,fun b z=>none_of (e0.frf b z),⟨hdp,e0.tree,_,_,rfl,S.gen,S.co,rfl,rfl⟩,fun y hy' c' P' e=>?_⟩,
  rfl,e0.bare,Un.kept hk,⟨_,hns,fun i y v' h1 h2 h3=>?_⟩,fun y c' h=>cell (lk h),e0.hok.fresh (le_refl _) |> none_of,fun y c' h=>zB2 (mem_map.mpr ⟨_,lk h,rfl⟩),fun p hp=>absurd (show p∈([]:List (Addr×Obj)) from hp) (by simp),hok.kept hk,?_⟩
 .-- the cells are apart
  have a1:=lk h1;have a2:=lk h2;have key:∀ {l:List (Str×Addr)},(l.map (·.2)).Nodup->∀ {p q:Str×Addr},p∈l->q∈l->p.2=q.2->p=q:=by
   intro l nd
   induction l with
   | nil=>intro p q hp;exact absurd hp (by simp)
   | cons a l ih =>
    intro p q hp hq e;rw [map_cons,nodup_cons] at nd;rcases mem_cons.mp hp with e1 | hp2
    .rcases mem_cons.mp hq with e2 | hq2
     .rw [e1,e2]
     .rw [e1] at e;exact absurd (show a.2∈l.map (·.2) from mem_map.mpr ⟨q,hq2,e.symm⟩) nd.1
    .rcases mem_cons.mp hq with e2 | hq2
     .rw [e2] at e;exact absurd (show a.2∈l.map (·.2) from mem_map.mpr ⟨p,hp2,e⟩) nd.1
     .exact ih nd.2 hp2 hq2 e
  exact congrArg Prod.fst (key hnd a1 a2 rfl)
 .have hy'':L.scope.names.lookup y=some .cell\/L.scope.names.lookup y=some .free:=hy';rcases hy'' with q | q
  .exact absurd rfl (S.nocell _ (PySem.mem_of_lookup q))
  .have m:=S.all y q;rw [<- hy] at m;obtain ⟨p,hp,rfl⟩:=mem_map.mp m;obtain ⟨i,hi,e⟩:=List.getElem_of_mem hp;exact ⟨p.2,(zFz hy nodupY (i:=i) (p:=p) (by rw [<- e];exact getElem?_eq_getElem hi)).1⟩
 .have q:=e0.tabs y hy' c' P' e;show hide H _ P'=_;rw [zAN fun z=>?_]
  .exact q
  .obtain ⟨o,_,q2,_⟩:=hS P' z;rw [q] at q2;cases q2
 .cases i with
  | zero =>
   have e1:x=y:=by
    have h1':(x::ys)[0]?=some y:=h1;simpa using h1'
   have e2:v=v':=by simpa using h2
   subst e1 e2;exact ⟨u,r,.inl ⟨S.par,by simp⟩⟩
  | succ i =>
   have e1:ys[i]?=some y:=by
    have h1':(x::ys)[i+1]?=some y:=h1;simpa using h1'
   have e2:vs[i]?=some v':=by
    have:(vs.map some)[i]?=some (some v'):=by simpa using h2
    rw [getElem?_map] at this;obtain ⟨a,ea,eb⟩:=map_eq_some_iff.mp this;cases eb;exact ea
   obtain ⟨p,o,uu,g1,g2,g3,g4⟩:=hc.get e2;obtain ⟨k1,k2⟩:=zFz hy nodupY g1;rw [e1] at k2;have ey:y=p.1:=Option.some.inj k2;subst ey;obtain ⟨g5,_⟩:=e0.hok _ _ g2;exact ⟨uu,g4,.inr ⟨.inr (S.fr _ (mem_of_getElem? e1)),p.2,k1,o,hk _ _ g5,g3⟩⟩
 .show (some v::vs.map some).length=(x::ys).length;rw [length_cons,length_cons,length_map,lv,<- hy,length_map]
theorem zMC {P:Program}{w:World}{K:W.Frag}{mg:Str->Option Value}{base:Heap}{A:Around}{outer:List Env}{s:Shared}{H:Hp}{Q:VK}{E:XK}{k:Nat}{f:Addr}{L:LamI}{x:Str}{ys:List Str}{v:V}{u:Value}{vs:List V}
  (hr:Room (k+1) A) (e0:Env0 P w K mg base A outer s H) (la:zFX H L f vs) (ey:frN L=ys) (S:zG9 x ys L) (rv:RelV v u)
  (body:∀ (c:Addr) (cl:List (Str×Addr)),cl.map (·.1)=ys->zBJ H cl vs->(∀ b∈cl.map (·.2),∃ o v,H b=some (.frz o anyU)/\o.data=.cell v)->∃ t:TE,PE (zSo P w K mg base (x::ys) L f c cl A outer s (hide H (cl.map (·.2)))) L.body t /\
   t (some v::vs.map some) (hide H (cl.map (·.2))) fun v' H2=>∀ H',(∀ b∈cl.map (·.2),H' b=H b)->(∀ b,b∉cl.map (·.2)->H' b=H2 b)->Same H2 H'->(∀ b∈cl.map (·.2),H2 b=none)->Q v' H') :
  codeAny (model P w) A (.call (.ref f) ⟨[u],[]⟩) (CR CX0 outer P w H s Q E) s:=by
 obtain ⟨cl,pm,c,ctv,oc,u1,h1,h2,h3,h4,h5,h6⟩:=la;rw [ey] at h4;obtain ⟨g1,_⟩:=e0.hok _ _ h1;obtain ⟨g2,_⟩:=e0.hok _ _ h2;obtain ⟨cvs,ct,d1,d2⟩:=h3;have hS:∀ b∈cl.map (·.2),∃ o v,H b=some (.frz o anyU)/\o.data=.cell v:=fun b z=>by
  obtain ⟨p,hp,rfl⟩:=mem_map.mp z;obtain ⟨o,u,q1,q2⟩:=h6.mem p hp;exact ⟨o,_,q1,q2⟩
 refine W.kla_callFunE hr.depth g1 rfl S.co S.gen rfl ⟨c,oc,cvs,ct,rfl,g2,d1,d2⟩ ?_;rw [S.bind];have lim:s.heap.NoLimit:=e0.mod.nolimit.keeps fun b o e=>(e0.bs b o e).1
 refine wpAny_pure (wpAny_newFunctionEnv S.nocell (fun y hy=>by rw [mem_singleton.mp hy];exact S.par) (fun O8 hns hsb=>⟨lim.fresh _ hsb,?_⟩) S.kind);show codeAny _ _ (.expr L.body (W.envX L.qual L.scope s.heap.objs.size f (.ref c) cl)) _ _;obtain ⟨t,ht,hq⟩:=body c cl h4 h6 hS;have I:=zPS (f:=f) (c:=c) S hr.hd (by have:=hr.dp;show A.depth+1+100 < _;omega) e0 rv h4 h5 h6 hns hsb (s.toks+1);refine W.kla_codeExpr (wpAny_mono (ht [] _ _ _ _ I hq) (fun uu s' hs=>?_) fun e s' hs=>hs.elim);obtain ⟨v',H2,J,rv',q⟩:=hs;obtain ⟨H',p1,p2,p3,p4,un,hok'⟩:=zOb (P:=P) (w:=w) (fs:=frs outer) (S:=cl.map (·.2)) (fun b z=>let ⟨o,_,q,_⟩:=hS b z;⟨o,q⟩) (fun b z z2=>by
  obtain ⟨o,_,q,_⟩:=hS b z;rw [e0.frf b z2] at q;cases q) e0.hok J.base J.hok
 exact ⟨v',H',J.os,J.bare,un,hok',rv',q H' p1 p2 p3 p4⟩
def clos:List (Str×NameKind)->List (Str×Addr)->List (Str×Addr)->Option (List (Str×Addr))
 | [],_,acc=>some acc
 | (x,k)::r,cs,acc=>if k==.free then (match cs.lookup x with
  | some c=>clos r cs ((x,c)::acc)
  | none=>none) else clos r cs acc
theorem zG2 {env:Env}{cl:List (Str×Addr)}:∀ {l:List (Str×NameKind)} {acc:List (Str×Addr)},clos l env.cells acc=some cl ->
  (forIn l acc (fun (x:Str×NameKind) (r:List (Str×Addr))=>match x with
   | (name,kind)=>if (kind==.free)=true then (do let c<-cellOf env name;pure (ForInStep.yield ((name,c)::r))) else pure (ForInStep.yield r)):Sem (List (Str×Addr)))=pure cl
 | [],acc,h=>by
  cases h;simp
 | (x,k)::l,acc,h=>by
  unfold clos at h;rw [forIn_cons];by_cases e:(k==NameKind.free)=true
  .rw [if_pos e] at h;split at h
   .rename_i c ec;have:=zG2 (l:=l) h;have ce:cellOf env x=pure c:=by unfold cellOf;rw [ec]
    simp only [e,if_true,ce,pure_bind];exact this
   .cases h
  .rw [if_neg e] at h;have:=zG2 (l:=l) h;simp only [e,Bool.false_eq_true,if_false,pure_bind];exact this
theorem zEj {sc:Scope}{env:Env}{cl:List (Str×Addr)}(h:clos sc.names env.cells []=some cl):closureFor sc env=pure cl:=by
 unfold closureFor;have:=zG2 h;simp only [bind_pure];exact this
theorem zFa {a b:Nat}{c:Value}(l:List Value)(h:TriplesOk l):TriplesOk (l++[rawInt a,rawInt b,c]):=by
 fun_induction TriplesOk l with
 | case1=>simp [TriplesOk,rawInt]
 | case2 _ _ _ _ _ rest ih=>simpa [TriplesOk] using ih h
 | case3=>cases h
theorem zIl {pos:Pos}{a b:Nat}{c cv:Value}(l:List Value)(h:TriplesOk l)(e:codeAmong pos (l++[rawInt a,rawInt b,c])=some cv):codeAmong pos l=some cv\/cv=c:=by
 fun_induction TriplesOk l with
 | case1 =>
  right
  simp only [nil_append,rawInt,codeAmong] at e;split at e
  .exact (Option.some.inj e).symm
  .cases e
 | case2 line t col u x rest ih =>
  simp only [cons_append,codeAmong] at e ⊢;split at e
  .left;rename_i z;rw [if_pos z];exact e
  .rename_i z;rw [if_neg z];exact ih h e
 | case3=>cases h
section
variable {X:Cx}{pins:List (Addr×Obj)}{B:St}{H:Hp}{s:Shared}
theorem zMB {E:Value->Shared->Prop}{Q:Value->Shared->Prop}(I:Inv X pins B H s){params:Arguments}{body:Expr}{scope:Scope}{pos:Pos}{cl:List (Str×Addr)}{c P:Addr}
  (hd:defaultsOf params X.env=([],[])) (hcl:clos scope.names X.env.cells []=some cl) (hcode:X.env.code=.ref c) (C:W.CodeHd X.base c P) (hP:H P=some (.tbl (X.env.qual ++ "<lambda>")))
  (h:∀ f c' ctv pm oc u1 H1 s',Same H H1->H f=none->H1 f=some (.frz (W.kla_obj "<lambda>" (X.env.qual ++ "<lambda>") params body scope cl pm c' ctv) anyU)->H1 c'=some (.frz oc u1)->zLM oc (X.env.qual ++ "<lambda>")->Inv X pins B H1 s'->Q (.ref f) s') :
  wpAny (model X.prog X.w) X.A (eval (.Lambda params body scope pos) X.env) Q E s:=by
 refine W.kla_eval hd ?_;have hg:s.heap.Ns mainGlobals X.mg:=I.ok.mod.glob.keeps I.bk;obtain ⟨ps,e1,t1,cs⟩:=I.hok P _ hP;have C':=C.keeps I.bk;have hgP:mainGlobals≠P:=fun z=>by
  obtain ⟨o,es,ep,e,d,_⟩:=hg;rw [z,e1] at e;cases e;cases d
 obtain ⟨bm,ob,b1,b2,b3,b4,b5,b6⟩:=I.ok.mod.bm;have b3':=I.bk _ _ b3;have hbm:bm≠mainGlobals:=fun z=>by
  obtain ⟨o,es,ep,e,d,_⟩:=hg;rw [<- z,b3'] at e;cases e;rw [b6] at d;cases d
 have hbP:bm≠P:=fun z=>by
  rw [z,e1] at b3';cases b3';cases b4
 have hb:s.heap.BuiltinsAt X.mg P:=⟨bm,ob,b1,b2,hbm,hbP,b3',b4,b5,b6⟩;cases e:codeAmong pos ps.toList with
 | none =>
  refine W.kla_makeFunction (zEj hcl) I.ok.glob hg hcode C' e1 t1 e hgP hb fun c' ctv h' tk hx hge hlt hrec htb=>?_
  obtain ⟨c2,oc,vs,t,q1,q2,q3,q4⟩:=hrec;cases q1;have szh:s.heap.objs.size<=h'.objs.size:=le_trans hge (Nat.le_of_lt hlt);have nc:H c'=none:=I.hok.fresh hge;have nf:H h'.objs.size=none:=I.hok.fresh szh;have ncf:c'≠h'.objs.size:=ne_of_lt hlt;obtain ⟨fo,efo⟩:∃ fo:Obj,fo=W.kla_obj "<lambda>" (X.env.qual ++ "<lambda>") params body scope cl ((X.mg "__name__").getD .none) c' ctv:=⟨_,rfl⟩;obtain ⟨H1,eH⟩:∃ H1:Hp,H1=upd (upd H c' (.frz oc anyU)) h'.objs.size (.frz fo anyU):=⟨_,rfl⟩;have sm:Same H H1:=fun b o q=>by
   rw [eH,zAP (zAj q nf),zAP (zAj q nc)];exact q
  have at1:H1 h'.objs.size=some (.frz fo anyU):=by rw [eH];exact zAh
  have at2:H1 c'=some (.frz oc anyU):=by rw [eH,zAP ncf];exact zAh
  have oth:∀ {b:Addr},b≠c'->b≠h'.objs.size->H1 b=H b:=fun {b} z1 z2=>by rw [eH,zAP z2,zAP z1]
  have kp:∀ b o,b≠P->s.heap.get? b=some o->(h'.push fo).get? b=some o:=fun b o z q=>get?_push_of_some _ (hx b o z q)
  have lt:∀ {b:Addr} {o:Obj},s.heap.get? b=some o->b≠c'/\b≠h'.objs.size:=fun {b o} q=>⟨ne_of_lt (lt_of_lt_of_le (lt_size q) hge),ne_of_lt (lt_of_lt_of_le (lt_size q) szh)⟩
  have nP:∀ {b:Addr},H b=none->b≠P:=fun {b} q z=>by rw [z,hP] at q;cases q
  have un:Un X.fs [] H H1 s.heap (h'.push fo):=⟨fun b o q n _ _=>kp b o (nP n) q,fun b o q n _ _=>⟨o.slots,kp b o (nP n) q⟩,fun b o q n _=>by
    obtain ⟨z1,z2⟩:=lt q;rw [oth z1 z2];exact n,fun b o q _=>by
    by_cases z:b=P
    .subst z;exact ⟨_,get?_push_of_some _ htb⟩
    .exact ⟨o,kp b o z q⟩,fun b xs q=>sm _ _ q,fun b o u q=>sm _ _ q,fun b q' q=>sm _ _ q⟩
  have hok:HOk X.prog X.w H1 (h'.push fo):=fun b u q=>by
   by_cases z1:b=h'.objs.size
   .subst z1;rw [at1] at q;cases q;exact zD5 (get?_push_size _ (by rw [efo];rfl))
   .by_cases z2:b=c'
    .subst z2;rw [at2] at q;cases q;exact zD5 (get?_push_of_some _ q2)
    .rw [oth z2 z1] at q;by_cases z3:b=P
     .subst z3;rw [hP] at q;cases q;refine ⟨_,get?_push_of_some _ htb,?_,fun pos' cv z=>?_⟩
      .rw [Array.toList_append];exact zFa _ t1
      .rw [Array.toList_append] at z;rcases zIl _ t1 z with z | z
       .obtain ⟨c3,oc3,u3,g1,g2,g3⟩:=cs pos' cv z;exact ⟨c3,oc3,u3,g1,sm _ _ g2,g3⟩
       .exact ⟨c',oc,anyU,z,at2,vs,t,q3,q4⟩
     .refine (I.hok b u q).stay (fun d v hd w'=>kp d v ?_ w') (fun d w'=>sm _ _ w') (fun d xs w'=>sm _ _ w') fun d o' u' w' _=>sm _ _ w'
      rintro rfl;rcases hd with hd | hd
      .exact z3 hd.symm
      .rw [hP] at hd;cases hd
  have I1:=I.un (t':=tk) un hok;rw [efo] at I1 at1;exact h _ c' ctv _ oc anyU H1 _ sm nf at1 at2 ⟨vs,t,q3,q4⟩ I1
 | some cv =>
  obtain ⟨c',oc,u1,rfl,hc',co⟩:=cs pos cv e;refine W.kla_makeFunctionHit (zEj hcl) I.ok.glob hg hcode C' e1 t1 e hb fun ctv h' tk hk hsz=>?_
  have nf:H h'.objs.size=none:=I.hok.fresh hsz;have I1:=I.laid (a:=h'.objs.size) (o:=.frz (W.kla_obj "<lambda>" (X.env.qual ++ "<lambda>") params body scope cl ((X.mg "__name__").getD .none) c' ctv) anyU) (t':=tk) (fun b o q=>get?_push_of_some _ (hk b o q)) hsz (zD5 (get?_push_size _ rfl));exact h _ c' ctv _ oc u1 _ _ (zAk nf _) nf zAh (by rw [zAP (zAj hc' nf)];exact hc') co I1
end
end DL
end
section
namespace DL
open PySem Spec PyProof.Rows L2
mutual
def noF:D->Bool
 | .lam _ _ _=>false
 | .tup ds=>noFs ds
 | .lst ds=>noFs ds
 | _=>true
def noFs:List D->Bool
 | []=>true
 | d::ds=>noF d&&noFs ds
end
abbrev zQZ (H:Hp) (S:List Addr):Prop:=∀ b∈S,∃ o v,H b=some (.frz o anyU)/\o.data=.cell v
section
variable {K:W.Frag}{H:Hp}{S:List Addr}
theorem zCa (hS:zQZ H S){b:Addr}{u:HO}(e:H b=some u)(n:∀ o v,u=.frz o anyU->o.data≠.cell v):hide H S b=some u:=by
 rw [zAN fun z=>?_]
 .exact e
 .obtain ⟨o,v,q1,q2⟩:=hS b z;rw [e] at q1;exact n o v (Option.some.inj q1) q2
mutual
theorem Den.hideC (hS:zQZ H S):∀ {d:D} {v:V},noF d=true->Den K H d v->Den K (hide H S) d v
 | .non,_,_,h=>by rw [Den] at h ⊢;exact h
 | .bl _,_,_,h=>by rw [Den] at h ⊢;exact h
 | .int _,_,_,h=>by rw [Den] at h ⊢;exact h
 | .str _,_,_,h=>by rw [Den] at h ⊢;exact h
 | .tup ds,_,n,h=>by
  rw [noF] at n;rw [Den] at h ⊢;obtain ⟨a,vs,h1,h2,h3⟩:=h;refine ⟨a,vs,h1,?_,DenL.hideC hS n h3⟩;rcases h2 with (q | ⟨o,q⟩) | q
  .exact .inl (.inl (zCa hS q fun o v z=>nomatch z))
  .exact .inl (.inr ⟨o,zCa hS q fun o v z=>nomatch z⟩)
  .exact .inr q
 | .lst ds,_,n,h=>by
  rw [noF] at n;rw [Den] at h ⊢;obtain ⟨a,vs,h1,h2,h3⟩:=h;refine ⟨a,vs,h1,?_,DenL.hideC hS n h3⟩;rcases h2 with (q | ⟨o,q⟩) | q
  .exact .inl (.inl (zCa hS q fun o v z=>nomatch z))
  .exact .inl (.inr ⟨o,zCa hS q fun o v z=>nomatch z⟩)
  .exact .inr q
 | .exc c,_,_,h=>by
  rw [Den] at h ⊢;obtain ⟨a,o,u,C,h1,h2,h3,⟨vs,h4⟩,h5⟩:=h;exact ⟨a,o,u,C,h1,zCa hS h2 (fun o' v z d=>by cases z;rw [h4] at d;cases d),h3,⟨vs,h4⟩,h5⟩
 | .dct ks,_,_,h=>by
  rw [Den] at h ⊢;obtain ⟨a,kvs,h1,h2,h3⟩:=h;exact ⟨a,kvs,h1,zCa hS h2 (fun o v z=>nomatch z),h3⟩
 | .lam _ _ _,_,n,_=>by rw [noF] at n;cases n
theorem DenL.hideC (hS:zQZ H S):∀ {ds:List D} {vs:List V},noFs ds=true->DenL K H ds vs->DenL K (hide H S) ds vs
 | [],_,_,h=>by rw [DenL] at h ⊢;exact h
 | d::ds,_,n,h=>by
  rw [noFs,and_eq_true] at n;rw [DenL] at h ⊢;obtain ⟨v,ws,h1,h2,h3⟩:=h;exact ⟨v,ws,h1,Den.hideC hS n.1 h2,DenL.hideC hS n.2 h3⟩
end
end
def zEo (P:Program)(w:World)(K:W.Frag)(mg:Str->Option Value)(base:Heap)(k:Nat)(L:LamI)(F:List D->Option R):Prop :=
 ∀ (A:Around) (outer:List Env) (s:Shared) (H:Hp) (f:Addr) (vs:List V) (ds:List D) (v:V) (u:Value) (d:D) (r:R) (Q:VK) (E:XK),Room k A->Env0 P w K mg base A outer s H->zFX H L f vs->DenL K H ds vs->RelV v u->Den K H d v->F (d::ds)=some r->r.2≠.dt ->
  (∀ v' H',Same H H'->RV K H H' [] r v'->Q v' H')->codeAny (model P w) A (.call (.ref f) ⟨[u],[]⟩) (CR CX0 outer P w H s Q E) s
theorem zEo.mono {P:Program}{w:World}{K:W.Frag}{mg:Str->Option Value}{base:Heap}{j k:Nat}{L:LamI}{F:List D->Option R}(h:zEo P w K mg base j L F)(e:j<=k):zEo P w K mg base k L F :=
 fun A outer s H f vs ds v u d r Q E hr=>h A outer s H f vs ds v u d r Q E (hr.mono e)
theorem zPK {P:Program}{w:World}{K:W.Frag}{mg:Str->Option Value}{base:Heap}{k:Nat}{L:LamI}{x:Str}{ys:List Str}{G:Dst->Option R}(S:zG9 x ys L)(ey:frN L=ys)
  (hb:∀ Y:Cx,Y.prog=P->Y.w=w->Y.K=K->Y.mg=mg->Y.base=base->Room k Y.A->Y.calm=true->Y.N=x::ys->Y.env.scope=L.scope->Y.xe=(fun _ _=>False)->GE Y L.body G) :
  zEo P w K mg base (k+1) L (fun ds=>if ds.length=ys.length+1/\noFs ds=true then G (ds.map fun d=>some (d,false)) else none):=by
 intro A outer s H f vs ds v u d r Q E hr e0 la dl rv dd hF hk c;replace hF:(if (d::ds).length=ys.length+1/\noFs (d::ds)=true then G ((d::ds).map fun d=>some (d,false)) else none)=some r:=hF;have q:(d::ds).length=ys.length+1/\noFs (d::ds)=true:=Classical.byContradiction fun z=>by rw [if_neg z] at hF;cases hF
 rw [if_pos q] at hF;have lds:ds.length=ys.length:=by have:=q.1;rw [length_cons] at this;omega
 have nf:=q.2;rw [noFs,and_eq_true] at nf;refine zMC hr e0 la ey S rv fun cc cl hcl hc hS=>⟨_,hb _ rfl rfl rfl rfl rfl (hr.deeper _) rfl rfl rfl rfl,?_⟩
 have e1:=Den.hideC hS nf.1 dd;have e2:=DenL.hideC hS nf.2 dl;refine ⟨[],(d::ds).map fun d=>some (d,false),r,⟨?_,fun a z=>absurd z (by simp),fun i d' o z=>?_,fun i j d' e' a z1 _ _ _=>?_⟩,hF,fun v' H2 s2 r2 H' p1 p2 p3 p4=>?_⟩
 .rw [length_map,length_cons,length_cons,length_map,dl.length]
 .rw [getElem?_map] at z;obtain ⟨d2,z1,z2⟩:=map_eq_some_iff.mp z;cases z2;cases i with
  | zero =>
   have:d=d':=by simpa using z1
   subst this;exact ⟨v,rfl,.of_den (by rw [zBD];exact e1)⟩
  | succ i =>
   have z1':ds[i]?=some d':=by simpa using z1
   obtain ⟨v2,g1,g2⟩:=e2.get z1';exact ⟨v2,by show (vs.map some)[i]?=_;rw [getElem?_map,g1];rfl,.of_den (by rw [zBD];exact g2)⟩
 .rw [getElem?_map] at z1;obtain ⟨d2,_,z2⟩:=map_eq_some_iff.mp z1;cases z2
 .have sm:Same H H':=fun b o e=>by
   by_cases z:b∈cl.map (·.2)
   .rw [p1 b z];exact e
   .rw [p2 b z];exact s2 b o (by rw [zAN z];exact e)
  refine c v' H' sm ?_;obtain ⟨d',kd⟩:=r;cases kd with
  | cl =>
   have z:Den K (hide H2 []) d' v':=r2;show Den K (hide H' []) d' v';rw [zBD] at z ⊢;exact z.mono p3
  | fr =>
   obtain ⟨a,ws,es,e1,e2,e3,e4,e5,e6⟩:=r2;have na:a∉cl.map (·.2):=fun z=>by rw [p4 a z] at e5;cases e5
   refine ⟨a,ws,es,e1,e2,e3,by rw [zAN na] at e4;exact e4,p3 _ _ e5,e6.mono (zAQ p3)⟩
  | dt=>exact absurd rfl hk
open Classical in
def lamF (lm:List (LamI×(List D->Option R)))(j:Nat)(L:LamI)(ds:List D):Option R:=match lm[j]? with
 | some (L',F)=>if L'=L then F ds else none
 | none=>none
def zGF (lm:List (LamI×(List D->Option R)))(i:Nat)(f:Dst->Option R):Dst->Option R:=fun G=>match G[i]? with
 | some (some (.lam j L ds,false))=>(f G).bind fun x=>if x.2=.dt then none else (lamF lm j L (x.1::ds)).bind fun r=>if r.2=.dt then none else some r
 | _=>none
variable {X:Cx}
theorem zMS {k i:Nat}{lm:List (LamI×(List D->Option R))}{y:Str}{a:Expr}{f:Dst->Option R}{p pos:Pos}(LR:∀ (j:Nat) L F,lm[j]?=some (L,F)->zEo X.prog X.w X.K X.mg X.base k L F)(hr:Room k X.A)(hN:X.N[i]?=some y)(hv:Vis X.env.scope y)(hd:(y==("__debug__":Str))=false)(hcd:(y==("__classdict__":Str))=false)
  (ha:GE X a f) (he:starEach (a::[]) X.env=(false,eval a X.env)::starEach [] X.env) (px:PassesOwn (model X.prog X.w) X.A X.env X.xe:=by assumption):GE X (.Call (.Name y p) [a] [] pos) (zGF lm i f):=by
 intro pins s B H Q I ⟨S,G,z,ds,e,c⟩;unfold zGF at e;split at e
 .rename_i j L dl q;obtain ⟨x,ex,e⟩:=bind_some e;by_cases hx:x.2=.dt
  .rw [if_pos hx] at e;cases e
  rw [if_neg hx] at e;obtain ⟨r,er,e⟩:=bind_some e;by_cases hk:r.2=.dt
  .rw [if_pos hk] at e;cases e
  rw [if_neg hk] at e;cases e;obtain ⟨v0,q1,q2⟩:=ds.get i _ false q;have q3:=q2.den rfl;rw [Den] at q3;obtain ⟨f0,vs,rfl,la,dla⟩:=q3;unfold lamF at er;split at er
  .rename_i L' F el;have eL:L'=L:=Classical.byContradiction fun z=>by rw [if_neg z] at er;cases er
   rw [if_pos eL] at er;subst eL;have fat:∀ {H1:Hp} {s1:Shared},zFX H1 L' f0 vs->HOk X.prog X.w H1 s1.heap->W.FnAt f0 s1.heap:=fun {H1 s1} la hok=>by
    obtain ⟨cl,pm,c',ctv,oc,u1,g1,_⟩:=la;obtain ⟨g2,_⟩:=hok _ _ g1;exact ⟨_,_,_,_,g2⟩
   refine wpAny_Call_Name_kw (thn (zDu hN hv hd hcd pins s B H (fun x H1=>x=.ref f0/\H1=H) I ⟨_,q1,rfl,rfl⟩) fun u s1 zz74=>?_);obtain ⟨x1,H1,I1,rx,e1,e2⟩:=zz74;subst e1 e2;obtain rfl:u=Value.ref f0:=rx;have arg:gT X.K f B H1 fun vx H2=>Same H1 H2/\RV X.K H1 H2 S x vx:=⟨S,G,x,ds,ex,fun vx H2 s2 r2=>⟨s2,r2⟩⟩
   refine W.callWith_F (fat (la.mono zAg) I1.hok) (thn (zAc ha zBA he pos pins s1 B _ (fun xs H2=>∃ vx,xs=[vx]/\Same H1 H2/\RV X.K H1 H2 S x vx) I1 (by
    obtain ⟨S',G',r',g1,g2,g3⟩:=arg;exact ⟨S',G',r',g1,g2,fun vx H2 s2 r2=>⟨vx,rfl,g3 vx H2 s2 r2⟩⟩)) fun us s2 ⟨xs,H2,I2,rvs,vx,exs,sm,rx2⟩=>?_) he
   subst exs;obtain ⟨uu,rfl,rvu⟩:=zIs rvs;have la2:zFX (hide H2 S) L' f0 vs:=la.mono (zAQ sm);refine ⟨fat (la2.mono zAg) I2.hok,?_⟩;refine wpAny_call (codeAny_mono (zD6 (r:=z) (Q:=Q) (E:=E0) I2.env0 (ds.mono sm).sok hk (fun e1=>LR j L' F el _ _ _ _ f0 vs dl vx uu x.1 z _ _ hr e1 la2 (dla.mono (zAQ sm)) rvu (RV.den (d:=x.1) (k:=x.2) rx2 hx) er hk fun v' H' s3 r3=>⟨r3,s3⟩) fun v H' s3 r3=>c v H' (sm.trans s3) (r3.from sm)) fun rr s' hq=>?_);cases rr with
   | error e=>exact hq.elim
   | ok fl =>
    cases fl with
    | ret u=>exact I2.after hq
    | next=>exact False.elim hq
    | brk=>exact False.elim hq
    | cont=>exact False.elim hq
  .cases er
 .cases e
end DL
end
section
namespace DL
open PySem Spec PyProof.Rows L2
set_option genSizeOf false in
set_option genInjectivity false in
inductive E where
 | var (i:Nat) | glob (n:Nat) (x:Str) | int (i:Int) | bl (b:Bool) | non | str (x:Str)
 | bin (op:Operator) (a b:E) | neg (a:E) | not (a:E) | cmp (op:CmpOp) (a b:E)
 | andl (es:E) | orl (es:E) | ite (c a b:E) | tup (es:E) | lst (es:E) | ix (a i:E) | sl (a lo hi:E)
 | comp1 (n:Nat) (ms:List Nat) (x:Str) (src c elt:E) | comp2 (n:Nat) (ms:List Nat) (x y:Str) (src c elt:E)
 | lzip (a b:E)
 | it (e:E) | r1 (a:E) | r2 (a b:E) | r3 (a b c:E)
 | call (n:Nat) (f:Str) (es:E) | lend (n:Nat) (f:Str) (es:E) | len (a:E) | abs (a:E) | list (a:E) | max (a b:E) | min (a b:E) | isi (t:Ty) (a:E) | isc (y:Str) (a:E) | chn (op op':CmpOp) (a b c:E) | tupl (a:E) | lrev (a:E) | sum (a:E) | t1 (o:T1) (a:E) | t2 (o:T2) (a b:E) | its (a:E) | isa (ys:List Str) (a:E) | nin (a b c:E) | callv (i:Nat) (a:E)
 | nil | cons (e es:E)
set_option genSizeOf false in
set_option genInjectivity false in
inductive S where
 | nil | cons (a b:S) | frz (i:Nat) (rest:S)
 | set (i:Nat) (e:E) | setC (i:Nat) (e:E) | app (i:Nat) (e:E) | put (i:Nat) (k e:E) | ins (i:Nat) (k e:E)
 | ife (c:E) (a b:S) | whl (c:E) (b:S) | for1 (i:Nat) (it:E) (b:S) | for2 (i j:Nat) (it:E) (b:S)
 | ret (e:E) | retOwn (i:Nat) | retN | drop (e:E) | pass | brk | cnt | never | ext (i:Nat) (e:E) | un2 (i j:Nat) (e:E) | un4 (i j k l:Nat) (e:E) | un3 (i j k:Nat) (e:E) | aug (op:Operator) (i:Nat) (e:E) | swp (i j k l:Nat) | rse (c:Str) (m:E) | tri (b:S) (c:Str) (i:Nat) | tra (b:S) (c:Str) (i j:Nat) | dnew (i:Nat) | dput (i:Nat) (a b:E)
structure Gm where
 fns:List (Str×(List D->Option R))
 cs:List (Str×D)
 xf:List (Str×(List D->Option Str))
 sub:List (Str×Str×Bool)
 rs:List Str
 lm:List (LamI×(List D->Option R))
def zQk (C:Gm)(y c:Str):Option Bool:=(C.sub.find? fun p=>decide (p.1=c)&&decide (p.2.1=y)).map (·.2.2)
def zRp (C:Gm)(y:Str):Bool:=C.sub.any fun p=>decide (p.2.1=y)
open Classical in
def mulD (i j:Int):Option R:=if IntMulOk i j then some (.int (i*j),.cl) else none
open Classical in
def zMY (i j:Int):Option R:=if zIp i j then some (.int (i.fdiv j),.cl) else none
def binD (op:Operator)(x y:D):Option R:=match op with
 | .Add=>(match x,y with
  | .int i,.int j=>some (.int (i+j),.cl)
  | .lst xs,.lst ys=>if xs.length+ys.length<=10000 then some (.lst (xs++ys),.fr) else none
  | .tup (x::xs),.tup (y::ys)=>if (x::xs).length+(y::ys).length<=10000 then some (.tup ((x::xs)++(y::ys)),.cl) else none
  | _,_=>none)
 | .Sub=>(match x,y with
  | .int i,.int j=>some (.int (i - j),.cl)
  | _,_=>none)
 | .Mult=>(match x,y with
  | .int i,.int j=>mulD i j
  | .lst xs,.int j=>if 0<=j/\j<=10000/\xs.length*j.toNat<=10000 then some (.lst (List.replicate j.toNat xs).flatten,.fr) else none
  | _,_=>none)
 | .FloorDiv=>(match x,y with
  | .int i,.int j=>zMY i j
  | _,_=>none)
 | .Mod=>(match x,y with
  | .int i,.int j=>if j=0 then none else some (.int (i.fmod j),.cl)
  | _,_=>none)
 | .Pow=>(match x,y with
  | .int i,.int j=>if 0<=j/\j<=1000000/\i.natAbs < 2^64 then some (.int (i^j.toNat),.cl) else none
  | _,_=>none)
 | _=>none
def cmpD (op:CmpOp)(x y:D):Option R:=match op with
 | .Lt=>(match x,y with
  | .int i,.int j=>some (.bl (decide (i < j)),.cl)
  | _,_=>none)
 | .LtE=>(match x,y with
  | .int i,.int j=>some (.bl (decide (i<=j)),.cl)
  | _,_=>none)
 | .Gt=>(match x,y with
  | .int i,.int j=>some (.bl (decide (j < i)),.cl)
  | _,_=>none)
 | .GtE=>(match x,y with
  | .int i,.int j=>some (.bl (decide (j<=i)),.cl)
  | _,_=>none)
 | .Eq=>eqD id x y
 | .NotEq=>eqD (fun b=>!b) x y
 | .Is=>isN id x y
 | .IsNot=>isN (fun b=>!b) x y
 | _=>none
def zF4 (C:Gm)(n:Nat)(x:Str):Dst->Option R:=fun _=>match C.cs[n]? with
 | some (y,d)=>if y=x then some (d,.cl) else none
 | none=>none
def fnD (C:Gm)(n:Nat)(x:Str)(g:Dst->Option (List D)):Dst->Option R:=fun G=>match C.fns[n]? with
 | some (y,F)=>if y=x then zG3 F g G else none
 | none=>none
def fnL (C:Gm)(n:Nat)(x:Str)(g:Dst->Option (List D)):Dst->Option R:=fun G=>match C.fns[n]? with
 | some (y,F)=>if y=x then zTc F g G else none
 | none=>none
def isaD (C:Gm)(ys:List Str)(f:Dst->Option R):Dst->Option R:=fun G=>if (ys.all (zRp C))=true then one f (isaF (zQk C) ys) G else none
def tg1 (i:Nat):D->Dst->Option Dst:=fun d G=>some (G.set i (some (d,false)))
mutual
def evE (C:Gm):E->Dst->Option R
 | .var i=>varD i
 | .glob n x=>zF4 C n x
 | .int i=>fun _=>some (.int i,.cl)
 | .bl b=>fun _=>some (.bl b,.cl)
 | .non=>fun _=>some (.non,.cl)
 | .str x=>fun _=>some (.str x,.cl)
 | .bin op a b=>two (evE C a) (evE C b) (binD op)
 | .neg a=>negD (evE C a)
 | .not a=>notD (evE C a)
 | .cmp op a b=>two (evE C a) (evE C b) (cmpD op)
 | .andl es=>evAnd C es
 | .orl es=>evOr C es
 | .ite c a b=>iteD (evE C c) (evE C a) (evE C b)
 | .tup es=>tupD (evEs C es)
 | .lst es=>lstD (evEs C es)
 | .ix a i=>two (evE C a) (evE C i) ixD
 | .sl a lo hi=>slD (evE C a) (evO C lo) (evO C hi)
 | .call n f es=>fnD C n f (evEs C es)
 | .lend n f es=>fnL C n f (evLs C es)
 | .len a=>one (evE C a) lenD
 | .abs a=>one (evE C a) absD
 | .list a=>one (evE C a) zIY
 | .max a b=>two (evE C a) (evE C b) maxD
 | .min a b=>two (evE C a) (evE C b) minD
 | .isi t a=>one (evE C a) (isiF t)
 | .isc y a=>one (evE C a) (iscF (zQk C y))
 | .chn op op' a b c=>chD (cmpD op) (cmpD op') (evE C a) (evE C b) (evE C c)
 | .tupl a=>one (evE C a) zQd
 | .lrev a=>one (evE C a) revD
 | .sum a=>one (evE C a) sumD
 | .t1 o a=>one (evE C a) (t1D o)
 | .t2 o a b=>two (evE C a) (evE C b) (t2D o)
 | .its _=>fun _=>none
 | .isa ys a=>isaD C ys (evE C a)
 | .nin a b c=>ninD (evE C a) (evE C b) (evE C c)
 | .callv i a=>zGF C.lm i (evE C a)
 | .comp1 n ms _ src c e=>zFN ms 1 (evI C src) (tg1 n) (evC C c) (evE C e)
 | .comp2 n ms _ _ src c e=>zFN ms 2 (evI C src) (tg2 n (n+1)) (evC C c) (evE C e)
 | .lzip a b=>two (evE C a) (evE C b) zipD
 | .it _=>fun _=>none
 | .r1 _=>fun _=>none
 | .r2 _ _=>fun _=>none
 | .r3 _ _ _=>fun _=>none
 | .nil=>fun _=>none
 | .cons _ _=>fun _=>none
def evI (C:Gm):E->Dst->Option (List D)
 | .it e=>zF1 (evE C e)
 | .its e=>zJ9 (evE C e)
 | .r1 a=>zJD (evE C a)
 | .r2 a b=>zOY (evE C a) (evE C b)
 | .r3 a b c=>zJC (evE C a) (evE C b) (evE C c)
 | _=>fun _=>none
def evC (C:Gm):E->Dst->Option Bool
 | .nil=>fun _=>some true
 | .cons c _=>asB (evE C c)
 | _=>fun _=>none
def evEs (C:Gm):E->Dst->Option (List D)
 | .nil=>fun _=>some []
 | .cons e es=>zMt (evE C e) (evEs C es)
 | _=>fun _=>none
def evLs (C:Gm):E->Dst->Option (List D)
 | .nil=>fun _=>some []
 | .cons e es=>zSq (evE C e) (evLs C es)
 | _=>fun _=>none
def evAnd (C:Gm):E->Dst->Option R
 | .cons e es=>(match es with
  | .nil=>evE C e
  | es=>andD (evE C e) (evAnd C es))
 | _=>fun _=>none
def evOr (C:Gm):E->Dst->Option R
 | .cons e es=>(match es with
  | .nil=>evE C e
  | es=>orD (evE C e) (evOr C es))
 | _=>fun _=>none
def evO (C:Gm):E->Dst->Option (Option Int)
 | .cons e _=>zJU (evE C e)
 | _=>fun _=>some none
end
def xvS (C:Gm):S->Dst->Option Str:=fun _ _=>none
def xvSs (C:Gm):S->Dst->Option Str:=fun _ _=>none
mutual
def evS (C:Gm):S->Dst->Option Out
 | .set i e=>setD i (evE C e)
 | .setC i e=>setD i (evE C e)
 | .app i e=>appD i (evE C e)
 | .put i k e=>putD i (evE C k) (evE C e)
 | .ins i k e=>insD i (evE C k) (evE C e)
 | .ext i e=>extD i (evE C e)
 | .dnew i=>zT9 i
 | .dput i a b=>zT8 i (evE C a) (evE C b)
 | .un2 i j e=>unpD (tg2 i j) (evE C e)
 | .un4 i j k l e=>unpD (tg4 i j k l) (evE C e)
 | .un3 i j k e=>unpD (tg3 i j k) (evE C e)
 | .aug op i e=>augD op i (evE C e)
 | .swp i j k l=>swpD i j k l
 | .ife c a b=>ifD (asB (evE C c)) (evSs C a) (evSs C b)
 | .whl c b=>zBS (asB (evE C c)) (evSs C b)
 | .for1 i it b=>fun G=>(evI C it G).bind fun xs=>forD (tg1 i) (evSs C b) xs G
 | .for2 i j it b=>fun G=>(evI C it G).bind fun xs=>forD (tg2 i j) (evSs C b) xs G
 | .ret e=>retD (evE C e)
 | .retOwn i=>zDr i
 | .retN=>zTJ
 | .drop e=>zT7 (evE C e)
 | .pass=>fun G=>some (.nx G)
 | .brk=>fun G=>some (.bk G)
 | .cnt=>fun G=>some (.ct G)
 | .tri _ _ _=>fun _=>none
 | .tra _ _ _ _=>fun _=>none
 | .nil=>fun _=>none
 | .cons _ _=>fun _=>none
 | .frz _ _=>fun _=>none
 | .never=>fun _=>none
 | .rse _ _=>fun _=>none
def evSs (C:Gm):S->Dst->Option Out
 | .nil=>fun G=>some (.nx G)
 | .cons a b=>seqD (evS C a) (evSs C b)
 | .frz i r=>seqD (frzD i) (evSs C r)
 | _=>fun _=>none
end
def visB (sc:Scope)(x:Str):Bool:=match sc.names.lookup x with
 | some .local=>true
 | some .cell=>true
 | some .free=>true
 | _=>false
def locB (sc:Scope)(x:Str):Bool:=match sc.names.lookup x with
 | some .local=>true
 | some .cell=>true
 | _=>false
def glB (sc:Scope)(x:Str):Bool:=match sc.names.lookup x with
 | some .globalImplicit=>true
 | _=>false
def okN (x:Str):Bool:=!(x==("__debug__":Str))&&!(x==("__classdict__":Str))
def zAe:Expr->Bool
 | .Starred _ _=>false
 | _=>true
def zGg:Expr->Bool
 | .Slice _ _ _ _=>false
 | _=>true
def zHd:Expr->Bool
 | .ListComp _ _ _ _=>false
 | .SetComp _ _ _ _=>false
 | .DictComp _ _ _ _ _=>false
 | _=>true
def zGh:Expr->Bool
 | .Set _ _ _=>false
 | _=>true
def bltB (sc:Scope)(bs:List Str)(x:Str):Bool:=glB sc x&&bs.contains x
def opB (op op':Operator):Bool:=decide (op=op')
def cmB (op op':CmpOp):Bool:=decide (op=op')
def cscB (sc scope:Scope):Bool:=(scope.kind==.function)&&decide ((scope.names.map (·.1)).Nodup)&&scope.names.all fun x=>!(x.2==.free)||sc.names.lookup x.1==some .cell||sc.names.lookup x.1==some .free
def zJw (scope:Scope)(N:List Str)(ms:List Nat):Bool:=(List.range N.length).all fun i=>!(ownB scope (N.getD i noN))||ms.contains i
def zAZ (e:Expr)(k:Str->Pos->Bool):Bool:=match e with
 | .Name x0 x1=>k x0 x1
 | _=>false
theorem zAH {e:Expr}{k:Str->Pos->Bool}(h:zAZ e k=true):∃ x0 x1,e=.Name x0 x1/\k x0 x1=true:=by
 cases e with
 | Name x0 x1=>exact ⟨x0,x1,rfl,h⟩
 | _=>exact (zzf h)
def zBp (e:Expr)(k:Const->Nat->Pos->Bool):Bool:=match e with
 | .Constant x0 x1 x2=>k x0 x1 x2
 | _=>false
theorem zBM {e:Expr}{k:Const->Nat->Pos->Bool}(h:zBp e k=true):∃ x0 x1 x2,e=.Constant x0 x1 x2/\k x0 x1 x2=true:=by
 cases e with
 | Constant x0 x1 x2=>exact ⟨x0,x1,x2,rfl,h⟩
 | _=>exact (zzf h)
def zJg (e:Expr)(k:Expr->Operator->Expr->Pos->Bool):Bool:=match e with
 | .BinOp x0 x1 x2 x3=>k x0 x1 x2 x3
 | _=>false
theorem zIT {e:Expr}{k:Expr->Operator->Expr->Pos->Bool}(h:zJg e k=true):∃ x0 x1 x2 x3,e=.BinOp x0 x1 x2 x3/\k x0 x1 x2 x3=true:=by
 cases e with
 | BinOp x0 x1 x2 x3=>exact ⟨x0,x1,x2,x3,rfl,h⟩
 | _=>exact (zzf h)
def zC2 (e:Expr)(k:UnaryOp->Expr->Pos->Bool):Bool:=match e with
 | .UnaryOp x0 x1 x2=>k x0 x1 x2
 | _=>false
theorem zCI {e:Expr}{k:UnaryOp->Expr->Pos->Bool}(h:zC2 e k=true):∃ x0 x1 x2,e=.UnaryOp x0 x1 x2/\k x0 x1 x2=true:=by
 cases e with
 | UnaryOp x0 x1 x2=>exact ⟨x0,x1,x2,rfl,h⟩
 | _=>exact (zzf h)
def zDh (e:Expr)(k:BoolOp->List Expr->Pos->Bool):Bool:=match e with
 | .BoolOp x0 x1 x2=>k x0 x1 x2
 | _=>false
theorem zCq {e:Expr}{k:BoolOp->List Expr->Pos->Bool}(h:zDh e k=true):∃ x0 x1 x2,e=.BoolOp x0 x1 x2/\k x0 x1 x2=true:=by
 cases e with
 | BoolOp x0 x1 x2=>exact ⟨x0,x1,x2,rfl,h⟩
 | _=>exact (zzf h)
def zDw (e:Expr)(k:Expr->List CmpOp->List Expr->Pos->Bool):Bool:=match e with
 | .Compare x0 x1 x2 x3=>k x0 x1 x2 x3
 | _=>false
theorem zDU {e:Expr}{k:Expr->List CmpOp->List Expr->Pos->Bool}(h:zDw e k=true):∃ x0 x1 x2 x3,e=.Compare x0 x1 x2 x3/\k x0 x1 x2 x3=true:=by
 cases e with
 | Compare x0 x1 x2 x3=>exact ⟨x0,x1,x2,x3,rfl,h⟩
 | _=>exact (zzf h)
def zJb (e:Expr)(k:Expr->Expr->Expr->Pos->Bool):Bool:=match e with
 | .IfExp x0 x1 x2 x3=>k x0 x1 x2 x3
 | _=>false
theorem zIR {e:Expr}{k:Expr->Expr->Expr->Pos->Bool}(h:zJb e k=true):∃ x0 x1 x2 x3,e=.IfExp x0 x1 x2 x3/\k x0 x1 x2 x3=true:=by
 cases e with
 | IfExp x0 x1 x2 x3=>exact ⟨x0,x1,x2,x3,rfl,h⟩
 | _=>exact (zzf h)
def zGe (e:Expr)(k:List Expr->Nat->Pos->Bool):Bool:=match e with
 | .Tuple x0 x1 x2=>k x0 x1 x2
 | _=>false
theorem zEX {e:Expr}{k:List Expr->Nat->Pos->Bool}(h:zGe e k=true):∃ x0 x1 x2,e=.Tuple x0 x1 x2/\k x0 x1 x2=true:=by
 cases e with
 | Tuple x0 x1 x2=>exact ⟨x0,x1,x2,rfl,h⟩
 | _=>exact (zzf h)
def zJZ (e:Expr)(k:List Expr->Pos->Bool):Bool:=match e with
 | .List x0 x1=>k x0 x1
 | _=>false
theorem zFu {e:Expr}{k:List Expr->Pos->Bool}(h:zJZ e k=true):∃ x0 x1,e=.List x0 x1/\k x0 x1=true:=by
 cases e with
 | List x0 x1=>exact ⟨x0,x1,rfl,h⟩
 | _=>exact (zzf h)
def zBy (e:Expr)(k:Expr->Expr->Pos->Bool):Bool:=match e with
 | .Subscript x0 x1 x2=>k x0 x1 x2
 | _=>false
theorem zBk {e:Expr}{k:Expr->Expr->Pos->Bool}(h:zBy e k=true):∃ x0 x1 x2,e=.Subscript x0 x1 x2/\k x0 x1 x2=true:=by
 cases e with
 | Subscript x0 x1 x2=>exact ⟨x0,x1,x2,rfl,h⟩
 | _=>exact (zzf h)
def zJW (e:Expr)(k:Option Expr->Option Expr->Option Expr->Pos->Bool):Bool:=match e with
 | .Slice x0 x1 x2 x3=>k x0 x1 x2 x3
 | _=>false
theorem zIQ {e:Expr}{k:Option Expr->Option Expr->Option Expr->Pos->Bool}(h:zJW e k=true):∃ x0 x1 x2 x3,e=.Slice x0 x1 x2 x3/\k x0 x1 x2 x3=true:=by
 cases e with
 | Slice x0 x1 x2 x3=>exact ⟨x0,x1,x2,x3,rfl,h⟩
 | _=>exact (zzf h)
def zAx (e:Expr)(k:Expr->List Expr->List Keyword->Pos->Bool):Bool:=match e with
 | .Call x0 x1 x2 x3=>k x0 x1 x2 x3
 | _=>false
theorem zAU {e:Expr}{k:Expr->List Expr->List Keyword->Pos->Bool}(h:zAx e k=true):∃ x0 x1 x2 x3,e=.Call x0 x1 x2 x3/\k x0 x1 x2 x3=true:=by
 cases e with
 | Call x0 x1 x2 x3=>exact ⟨x0,x1,x2,x3,rfl,h⟩
 | _=>exact (zzf h)
def zCU (e:Expr)(k:Expr->List Comprehension->Scope->Pos->Bool):Bool:=match e with
 | .ListComp x0 x1 x2 x3=>k x0 x1 x2 x3
 | _=>false
theorem zBL {e:Expr}{k:Expr->List Comprehension->Scope->Pos->Bool}(h:zCU e k=true):∃ x0 x1 x2 x3,e=.ListComp x0 x1 x2 x3/\k x0 x1 x2 x3=true:=by
 cases e with
 | ListComp x0 x1 x2 x3=>exact ⟨x0,x1,x2,x3,rfl,h⟩
 | _=>exact (zzf h)
def zBz (e:Expr)(k:Expr->Str->Pos->Bool):Bool:=match e with
 | .Attribute x0 x1 x2=>k x0 x1 x2
 | _=>false
theorem zBl {e:Expr}{k:Expr->Str->Pos->Bool}(h:zBz e k=true):∃ x0 x1 x2,e=.Attribute x0 x1 x2/\k x0 x1 x2=true:=by
 cases e with
 | Attribute x0 x1 x2=>exact ⟨x0,x1,x2,rfl,h⟩
 | _=>exact (zzf h)
def zC3 (e:Stmt)(k:List Expr->Expr->Pos->Bool):Bool:=match e with
 | .Assign x0 x1 x2=>k x0 x1 x2
 | _=>false
theorem zB0 {e:Stmt}{k:List Expr->Expr->Pos->Bool}(h:zC3 e k=true):∃ x0 x1 x2,e=.Assign x0 x1 x2/\k x0 x1 x2=true:=by
 cases e with
 | Assign x0 x1 x2=>exact ⟨x0,x1,x2,rfl,h⟩
 | _=>exact (zzf h)
def zDx (e:Stmt)(k:Expr->Operator->Expr->Pos->Bool):Bool:=match e with
 | .AugAssign x0 x1 x2 x3=>k x0 x1 x2 x3
 | _=>false
theorem zEN {e:Stmt}{k:Expr->Operator->Expr->Pos->Bool}(h:zDx e k=true):∃ x0 x1 x2 x3,e=.AugAssign x0 x1 x2 x3/\k x0 x1 x2 x3=true:=by
 cases e with
 | AugAssign x0 x1 x2 x3=>exact ⟨x0,x1,x2,x3,rfl,h⟩
 | _=>exact (zzf h)
def zE6 (e:Stmt)(k:Expr->Pos->Bool):Bool:=match e with
 | .Expr x0 x1=>k x0 x1
 | _=>false
theorem zDI {e:Stmt}{k:Expr->Pos->Bool}(h:zE6 e k=true):∃ x0 x1,e=.Expr x0 x1/\k x0 x1=true:=by
 cases e with
 | Expr x0 x1=>exact ⟨x0,x1,rfl,h⟩
 | _=>exact (zzf h)
def onIf (e:Stmt)(k:Expr->List Stmt->List Stmt->Pos->Bool):Bool:=match e with
 | .If x0 x1 x2 x3=>k x0 x1 x2 x3
 | _=>false
theorem zJa {e:Stmt}{k:Expr->List Stmt->List Stmt->Pos->Bool}(h:onIf e k=true):∃ x0 x1 x2 x3,e=.If x0 x1 x2 x3/\k x0 x1 x2 x3=true:=by
 cases e with
 | If x0 x1 x2 x3=>exact ⟨x0,x1,x2,x3,rfl,h⟩
 | _=>exact (zzf h)
def zJV (e:Stmt)(k:Expr->List Stmt->List Stmt->Pos->Bool):Bool:=match e with
 | .While x0 x1 x2 x3=>k x0 x1 x2 x3
 | _=>false
theorem zIP {e:Stmt}{k:Expr->List Stmt->List Stmt->Pos->Bool}(h:zJV e k=true):∃ x0 x1 x2 x3,e=.While x0 x1 x2 x3/\k x0 x1 x2 x3=true:=by
 cases e with
 | While x0 x1 x2 x3=>exact ⟨x0,x1,x2,x3,rfl,h⟩
 | _=>exact (zzf h)
def zO2 (e:Stmt)(k:Expr->Expr->List Stmt->List Stmt->Pos->Bool):Bool:=match e with
 | .For x0 x1 x2 x3 x4=>k x0 x1 x2 x3 x4
 | _=>false
theorem zHb {e:Stmt}{k:Expr->Expr->List Stmt->List Stmt->Pos->Bool}(h:zO2 e k=true):∃ x0 x1 x2 x3 x4,e=.For x0 x1 x2 x3 x4/\k x0 x1 x2 x3 x4=true:=by
 cases e with
 | For x0 x1 x2 x3 x4=>exact ⟨x0,x1,x2,x3,x4,rfl,h⟩
 | _=>exact (zzf h)
def zDf (e:Stmt)(k:Option Expr->Pos->Bool):Bool:=match e with
 | .Return x0 x1=>k x0 x1
 | _=>false
theorem zCo {e:Stmt}{k:Option Expr->Pos->Bool}(h:zDf e k=true):∃ x0 x1,e=.Return x0 x1/\k x0 x1=true:=by
 cases e with
 | Return x0 x1=>exact ⟨x0,x1,rfl,h⟩
 | _=>exact (zzf h)
def onRaise (e:Stmt)(k:Option Expr->Option Expr->Pos->Bool):Bool:=match e with
 | .Raise x0 x1 x2=>k x0 x1 x2
 | _=>false
def zNf (e:Const)(k:Int->Bool):Bool:=match e with
 | .int x=>k x
 | _=>false
theorem zJe {e:Const}{k:Int->Bool}(h:zNf e k=true):∃ x,e=.int x/\k x=true:=by
 cases e with
 | int x=>exact ⟨x,rfl,h⟩
 | _=>exact (zzf h)
def zJf (e:Const)(k:Bool->Bool):Bool:=match e with
 | .bool x=>k x
 | _=>false
theorem zIS {e:Const}{k:Bool->Bool}(h:zJf e k=true):∃ x,e=.bool x/\k x=true:=by
 cases e with
 | bool x=>exact ⟨x,rfl,h⟩
 | _=>exact (zzf h)
def zNd (e:Const)(k:Str->Bool):Bool:=match e with
 | .str x=>k x
 | _=>false
theorem zJc {e:Const}{k:Str->Bool}(h:zNd e k=true):∃ x,e=.str x/\k x=true:=by
 cases e with
 | str x=>exact ⟨x,rfl,h⟩
 | _=>exact (zzf h)
def onEq {U:Type}[DecidableEq U](a b:U)(k:Bool):Bool:=decide (a=b)&&k
theorem zCp {U:Type}[DecidableEq U]{a b:U}{k:Bool}(h:onEq a b k=true):a=b/\k=true:=by
 unfold onEq at h;exact ⟨of_decide_eq_true (and_eq_true _ _▸h).1,(and_eq_true _ _▸h).2⟩
def on0 {U:Type}(l:List U)(k:Bool):Bool:=match l with
 | []=>k
 | _=>false
theorem zAr {U:Type}{l:List U}{k:Bool}(h:on0 l k=true):l=[]/\k=true:=by
 cases l with
 | nil=>exact ⟨rfl,h⟩
 | cons _ _=>exact (zzf h)
def on1 {U:Type}(l:List U)(k:U->Bool):Bool:=match l with
 | [x0]=>k x0
 | _=>false
theorem zAv {U:Type}{l:List U}{k:U->Bool}(h:on1 l k=true):∃ x0,l=[x0]/\k x0=true:=by
 cases l with
 | nil=>exact (zzf h)
 | cons x0 l =>
  cases l with
  | nil=>exact ⟨x0,rfl,h⟩
  | cons _ _=>exact (zzf h)
def on2 {U:Type}(l:List U)(k:U->U->Bool):Bool:=match l with
 | [x0,x1]=>k x0 x1
 | _=>false
theorem zDy {U:Type}{l:List U}{k:U->U->Bool}(h:on2 l k=true):∃ x0 x1,l=[x0,x1]/\k x0 x1=true:=by
 cases l with
 | nil=>exact (zzf h)
 | cons x0 l =>
  cases l with
  | nil=>exact (zzf h)
  | cons x1 l =>
   cases l with
   | nil=>exact ⟨x0,x1,rfl,h⟩
   | cons _ _=>exact (zzf h)
def on3 {U:Type}(l:List U)(k:U->U->U->Bool):Bool:=match l with
 | [x0,x1,x2]=>k x0 x1 x2
 | _=>false
theorem zRS {U:Type}{l:List U}{k:U->U->U->Bool}(h:on3 l k=true):∃ x0 x1 x2,l=[x0,x1,x2]/\k x0 x1 x2=true:=by
 cases l with
 | nil=>exact (zzf h)
 | cons x0 l =>
  cases l with
  | nil=>exact (zzf h)
  | cons x1 l =>
   cases l with
   | nil=>exact (zzf h)
   | cons x2 l =>
    cases l with
    | nil=>exact ⟨x0,x1,x2,rfl,h⟩
    | cons _ _=>exact (zzf h)
def zNe {U:Type}(l:List U)(k:U->List U->Bool):Bool:=match l with
 | x::xs=>k x xs
 | _=>false
theorem zJd {U:Type}{l:List U}{k:U->List U->Bool}(h:zNe l k=true):∃ x xs,l=x::xs/\k x xs=true:=by
 cases l with
 | nil=>exact (zzf h)
 | cons x xs=>exact ⟨x,xs,rfl,h⟩
def zFt {U:Type}(o:Option U)(k:U->Bool):Bool:=match o with
 | some x=>k x
 | none=>false
theorem zDv {U:Type}{o:Option U}{k:U->Bool}(h:zFt o k=true):∃ x,o=some x/\k x=true:=by
 cases o with
 | none=>exact (zzf h)
 | some x=>exact ⟨x,rfl,h⟩
def zJY {U:Type}(o:Option U)(k:Bool):Bool:=match o with
 | some _=>false
 | none=>k
theorem zJX {U:Type}{o:Option U}{k:Bool}(h:zJY o k=true):o=none/\k=true:=by
 cases o with
 | none=>exact ⟨rfl,h⟩
 | some x=>exact (zzf h)
def zLw (g:Comprehension)(k:Expr->Expr->List Expr->Int->Bool):Bool:=k g.target g.iter g.ifs g.is_async
theorem zDg {g:Comprehension}{k:Expr->Expr->List Expr->Int->Bool}(h:zLw g k=true):∃ a b c d,g=⟨a,b,c,d⟩/\k a b c d=true:=by
 cases g;exact ⟨_,_,_,_,rfl,h⟩
mutual
def cE:E->Scope->List Str->List Str->Expr->Bool
 | .var i,sc,N,bs=>fun e=>zAZ e fun y _=>decide (N[i]?=some y)&&visB sc y&&okN y
 | .glob _ x,sc,N,bs=>fun e=>zAZ e fun y _=>decide (x=y)&&glB sc x&&okN x
 | .int i,sc,N,bs=>fun e=>zBp e fun z1 _ _=>zNf z1 fun j=>decide (i=j)
 | .bl b,sc,N,bs=>fun e=>zBp e fun z1 _ _=>zJf z1 fun c=>decide (b=c)
 | .non,sc,N,bs=>fun e=>zBp e fun z1 _ _=>onEq z1 .none<|(true)
 | .str x,sc,N,bs=>fun e=>zBp e fun z1 _ _=>zNd z1 fun y=>decide (x=y)
 | .bin op a b,sc,N,bs=>fun e=>zJg e fun l op' r _=>opB op op'&&cE a sc N bs l&&cE b sc N bs r
 | .neg a,sc,N,bs=>fun e=>zC2 e fun z1 l _=>onEq z1 .USub<|(cE a sc N bs l)
 | .not a,sc,N,bs=>fun e=>zC2 e fun z1 l _=>onEq z1 .Not<|(cE a sc N bs l)
 | .cmp op a b,sc,N,bs=>fun e=>zDw e fun l z1 z2 _=>on1 z1 fun op'=>on1 z2 fun r=>cmB op op'&&cE a sc N bs l&&cE b sc N bs r
 | .andl es,sc,N,bs=>fun e=>zDh e fun z1 l _=>onEq z1 .And<|(cEs es sc N bs l)
 | .orl es,sc,N,bs=>fun e=>zDh e fun z1 l _=>onEq z1 .Or<|(cEs es sc N bs l)
 | .ite c a b,sc,N,bs=>fun e=>zJb e fun t l r _=>cE c sc N bs t&&cE a sc N bs l&&cE b sc N bs r
 | .tup es,sc,N,bs=>fun e=>zGe e fun l _ _=>cEs es sc N bs l
 | .lst es,sc,N,bs=>fun e=>zJZ e fun l _=>cEs es sc N bs l
 | .ix a i,sc,N,bs=>fun e=>zBy e fun l r _=>zGg r&&cE a sc N bs l&&cE i sc N bs r
 | .sl a lo hi,sc,N,bs=>fun e=>zBy e fun l z1 _=>zJW z1 fun x y z2 _=>zJY z2<|(cE a sc N bs l&&cO lo sc N bs x&&cO hi sc N bs y)
 | .call _ f es,sc,N,bs=>fun e=>zAx e fun z1 l z2 _=>zAZ z1 fun y _=>on0 z2<|(decide (f=y)&&glB sc f&&okN f&&cEs es sc N bs l)
 | .lend _ f es,sc,N,bs=>fun _=>false
 | .len a,sc,N,bs=>fun e=>zAx e fun z1 z2 z3 _=>zAZ z1 fun y _=>on1 z2 fun l=>on0 z3<|(decide (y = "len")&&bltB sc bs "len"&&zAe l&&cE a sc N bs l)
 | .t1 o a,sc,N,bs=>fun _=>false
 | .t2 o a b,sc,N,bs=>fun _=>false
 | .its _,sc,N,bs=>fun _=>false
 | .callv i a,sc,N,bs=>fun e=>zAx e fun z1 z2 z3 _=>zAZ z1 fun y _=>on1 z2 fun x=>on0 z3<|(decide (N[i]?=some y)&&visB sc y&&okN y&&zAe x&&cE a sc N bs x)
 | .nin a b c,sc,N,bs=>fun _=>false
 | .isa ys a,sc,N,bs=>fun _=>false
 | .sum a,sc,N,bs=>fun _=>false
 | .abs a,sc,N,bs=>fun e=>zAx e fun z1 z2 z3 _=>zAZ z1 fun y _=>on1 z2 fun l=>on0 z3<|(decide (y = "abs")&&bltB sc bs "abs"&&zAe l&&cE a sc N bs l)
 | .list a,sc,N,bs=>fun e=>zAx e fun z1 z2 z3 _=>zAZ z1 fun y _=>on1 z2 fun l=>on0 z3<|(decide (y = "list")&&bltB sc bs "list"&&zAe l&&cE a sc N bs l)
 | .max a b,sc,N,bs=>fun e=>zAx e fun z1 z2 z3 _=>zAZ z1 fun y _=>on2 z2 fun l r=>on0 z3<|(decide (y = "max")&&bltB sc bs "max"&&zAe l&&zAe r&&cE a sc N bs l&&cE b sc N bs r)
 | .min a b,sc,N,bs=>fun _=>false
 | .isi t a,sc,N,bs=>fun e=>zAx e fun z1 z2 z3 _=>zAZ z1 fun y _=>on2 z2 fun l z4=>zAZ z4 fun z _=>on0 z3<|(decide (y = "isinstance")&&decide (z=Str.ofString t.nm)&&bltB sc bs "isinstance"&&bltB sc bs (Str.ofString t.nm)&&zAe l&&cE a sc N bs l)
 | .chn op op' a b c,sc,N,bs=>fun e=>zDw e fun l z1 z2 _=>on2 z1 fun o1 o2=>on2 z2 fun m r=>cmB op o1&&cmB op' o2&&chB op&&chB op'&&cE a sc N bs l&&cE b sc N bs m&&cE c sc N bs r
 | .lrev a,sc,N,bs=>fun e=>zAx e fun z1 z2 z3 _=>zAZ z1 fun y _=>on1 z2 fun z4=>zAx z4 fun z5 z6 z7 _=>zAZ z5 fun z _=>on1 z6 fun l=>on0 z7<|on0 z3<|(decide (y = "list")&&decide (z = "reversed")&&bltB sc bs "list"&&bltB sc bs "reversed"&&zAe l&&cE a sc N bs l)
 | .tupl a,sc,N,bs=>fun _=>false
 | .isc y0 a,sc,N,bs=>fun _=>false
 | .comp1 n ms x src c el,sc,N,bs=>fun e=>zCU e fun v z1 scope _=>on1 z1 fun z2=>zLw z2 fun z3 t ifs a=>zAZ z3 fun y _=>decide (x=y)&&decide (a=0)&&decide (n=N.length)&&cscB sc scope&&zJw scope N ms&&decide ((mask noN ms N++[x]).Nodup)&&locB (relS sc scope) x&&ownB scope x&&cI src sc N bs t&&cC c (relS sc scope) (mask noN ms N++[x]) bs ifs&&cE el (relS sc scope) (mask noN ms N++[x]) bs v
 | .comp2 n ms x x2 src c el,sc,N,bs=>fun e=>zCU e fun v z1 scope _=>on1 z1 fun z2=>zLw z2 fun z3 t ifs a=>zGe z3 fun z4 _ _=>on2 z4 fun z5 z6=>zAZ z5 fun y _=>zAZ z6 fun y2 _=>decide (x=y)&&decide (x2=y2)&&decide (a=0)&&decide (n=N.length)&&cscB sc scope&&zJw scope N ms&&decide ((mask noN ms N++[x,x2]).Nodup)&&locB (relS sc scope) x&&ownB scope x&&locB (relS sc scope) x2&&ownB scope x2&&cI src sc N bs t&&cC c (relS sc scope) (mask noN ms N++[x,x2]) bs ifs&&cE el (relS sc scope) (mask noN ms N++[x,x2]) bs v
 | .lzip a b,sc,N,bs=>fun e=>zAx e fun z1 z2 z3 _=>zAZ z1 fun y _=>on1 z2 fun z4=>zAx z4 fun z5 z6 z7 _=>zAZ z5 fun z _=>on2 z6 fun l r=>on0 z7<|on0 z3<|(decide (y = "list")&&decide (z = "zip")&&bltB sc bs "list"&&bltB sc bs "zip"&&zAe l&&zAe r&&cE a sc N bs l&&cE b sc N bs r)
 | .it _,sc,N,bs=>fun _=>false
 | .r1 _,sc,N,bs=>fun _=>false
 | .r2 _ _,sc,N,bs=>fun _=>false
 | .r3 _ _ _,sc,N,bs=>fun _=>false
 | .nil,sc,N,bs=>fun _=>false
 | .cons _ _,sc,N,bs=>fun _=>false
def cI:E->Scope->List Str->List Str->Expr->Bool
 | .it e,sc,N,bs=>fun x=>zGh x&&cE e sc N bs x
 | .its e,sc,N,bs=>fun x=>zGh x&&cE e sc N bs x
 | .r1 a,sc,N,bs=>fun x=>zAx x fun z1 z2 z3 _=>zAZ z1 fun y _=>on1 z2 fun l=>on0 z3<|(decide (y = "range")&&bltB sc bs "range"&&zAe l&&cE a sc N bs l)
 | .r2 a b,sc,N,bs=>fun x=>zAx x fun z1 z2 z3 _=>zAZ z1 fun y _=>on2 z2 fun l r=>on0 z3<|(decide (y = "range")&&bltB sc bs "range"&&zAe l&&zAe r&&cE a sc N bs l&&cE b sc N bs r)
 | .r3 a b c,sc,N,bs=>fun x=>zAx x fun z1 z2 z3 _=>zAZ z1 fun y _=>on3 z2 fun l r q=>on0 z3<|(decide (y = "range")&&bltB sc bs "range"&&zAe l&&zAe r&&zAe q&&cE a sc N bs l&&cE b sc N bs r&&cE c sc N bs q)
 | _,_,_,_=>fun _=>false
def cC:E->Scope->List Str->List Str->List Expr->Bool
 | .nil,sc,N,bs=>fun l=>l.isEmpty
 | .cons c _,sc,N,bs=>fun l=>match l with
  | [x]=>cE c sc N bs x
  | _=>false
 | _,_,_,_=>fun _=>false
def cEs:E->Scope->List Str->List Str->List Expr->Bool
 | .nil,sc,N,bs=>fun l=>l.isEmpty
 | .cons e es,sc,N,bs=>fun l=>match l with
  | x::xs=>zAe x&&cE e sc N bs x&&cEs es sc N bs xs
  | []=>false
 | _,_,_,_=>fun _=>false
def cO:E->Scope->List Str->List Str->Option Expr->Bool
 | .cons e _,sc,N,bs=>fun o=>match o with
  | some x=>cE e sc N bs x
  | none=>false
 | .nil,sc,N,bs=>fun o=>o.isNone
 | _,_,_,_=>fun _=>false
end
def zPP:E->Bool
 | .comp1 _ _ _ _ _ _=>true
 | .comp2 _ _ _ _ _ _ _=>true
 | _=>false
def varB (sc:Scope)(N:List Str)(i:Nat)(x:Str):Bool:=decide (N[i]?=some x)&&locB sc x&&okN x
mutual
def cS (sc:Scope)(N bs:List Str):S->Stmt->Bool
 | .set i e=>fun s=>zC3 s fun z1 v _=>on1 z1 fun z2=>zAZ z2 fun y _=>varB sc N i y&&zHd v&&cE e sc N bs v
 | .setC i e=>fun s=>zC3 s fun z1 v _=>on1 z1 fun z2=>zAZ z2 fun y _=>zPP e&&varB sc N i y&&cE e sc N bs v
 | .app i e=>fun s=>zE6 s fun z1 _=>zAx z1 fun z2 z3 z4 cpos=>zBz z2 fun z5 m apos=>zAZ z5 fun y _=>on1 z3 fun v=>on0 z4<|(decide (m = "append")&&varB sc N i y&&(apos.endLine==cpos.line)&&zAe v&&cE e sc N bs v)
 | .un2 i j e=>fun _=>false
 | .un4 i j k l e=>fun _=>false
 | .un3 i j k e=>fun _=>false
 | .aug op i e=>fun s=>zDx s fun z1 op' v _=>zAZ z1 fun y _=>opB op op'&&varB sc N i y&&zHd v&&cE e sc N bs v
 | .swp i j k l=>fun _=>false
 | .ext i e=>fun s=>zE6 s fun z1 _=>zAx z1 fun z2 z3 z4 cpos=>zBz z2 fun z5 m apos=>zAZ z5 fun y _=>on1 z3 fun v=>on0 z4<|(decide (m = "extend")&&varB sc N i y&&(apos.endLine==cpos.line)&&zAe v&&cE e sc N bs v)
 | .ins i k e=>fun _=>false
 | .put i k e=>fun _=>false
 | .ife c a b=>fun s=>onIf s fun t l r _=>cE c sc N bs t&&cSs sc N bs a l&&cSs sc N bs b r
 | .whl c b=>fun s=>zJV s fun t l z1 _=>on0 z1<|(cE c sc N bs t&&cSs sc N bs b l)
 | .for1 i it b=>fun s=>zO2 s fun z1 t l z2 _=>zAZ z1 fun y _=>on0 z2<|(varB sc N i y&&cI it sc N bs t&&cSs sc N bs b l)
 | .for2 i j it b=>fun _=>false
 | .ret e=>fun s=>zDf s fun z1 _=>zFt z1 fun v=>cE e sc N bs v
 | .retOwn i=>fun s=>zDf s fun z1 _=>zFt z1 fun z2=>zAZ z2 fun y _=>varB sc N i y
 | .retN=>fun _=>false
 | .drop e=>fun _=>false
 | .pass=>fun _=>false
 | .dnew i=>fun _=>false
 | .dput i a b=>fun _=>false
 | .brk=>fun _=>false
 | .cnt=>fun _=>false
 | .never=>fun _=>true
 | .rse c m=>fun s=>onRaise s fun z1 z2 _=>zFt z1 fun z3=>zAx z3 fun z4 z5 z6 _=>zAZ z4 fun y _=>on1 z5 fun l=>on0 z6<|zJY z2<|(decide (c=y)&&glB sc c&&okN c&&zAe l&&cE m sc N bs l)
 | .tri b c i=>fun _=>false
 | .tra b c i j=>fun _=>false
 | .nil=>fun _=>false
 | .cons _ _=>fun _=>false
 | .frz _ _=>fun _=>false
def cSs (sc:Scope)(N bs:List Str):S->List Stmt->Bool
 | .nil=>fun l=>l.isEmpty
 | .cons a b=>fun l=>match l with
  | s::r=>cS sc N bs a s&&cSs sc N bs b r
  | []=>false
 | .frz _ r=>fun l=>cSs sc N bs r l
 | _=>fun _=>false
end
end DL
end
section
namespace DL
open PySem Spec PyProof.Rows L2
structure GOk (P:Program)(w:World)(K:W.Frag)(mg:Str->Option Value)(base:Heap)(k:Nat)(C:Gm)(bs:List Str):Prop where
 fn:∀ x F,(x,F)∈C.fns->∃ f fd ps,FnOk P w K mg base CX0 k f fd ps (spD K F)/\mg x=some (.ref f)/\W.keepIn K (.ref f)=true/\zCD K fd ps []
 cs:∀ x d,(x,d)∈C.cs->∃ u v,mg x=some u/\RelV v u/\Den K (fun _=>none) d v
 bt:∀ x∈bs,mg x=none
 xf:True
 sb:True
 rs:True
 lm:∀ (j:Nat) L F,C.lm[j]?=some (L,F)->zEo P w K mg base k L F
structure XOk (X:Cx)(k:Nat)(C:Gm)(bs:List Str):Prop where
 g:GOk X.prog X.w X.K X.mg X.base k C bs
 room:Room k X.A
 calm:X.calm=true
 nd:X.N.Nodup
 own:PassesOwn (model X.prog X.w) X.A X.env X.xe
theorem XOk.comp {X:Cx}{k:Nat}{C:Gm}{bs N:List Str}{scope:Scope}{s:Shared}{H:Hp}{fp:List Addr}(o:XOk X k C bs)(nd:N.Nodup):XOk (zAO X N scope s H fp) k C bs:=⟨o.g,o.room,o.calm,nd,PassesOwn.never⟩
theorem zAI {e:Expr}{es:List Expr}{env:Env}(h:zAe e=true):starEach (e::es) env=(false,eval e env)::starEach es env:=by
 cases e<;>first | rfl | cases h
theorem zEY {e:Expr}(h:zGg e=true):zFV e:=by
 cases e<;>first | (intro o i;rfl) | cases h
theorem zD0 {e:Expr}{t:Option Expr}{n:Nat}{env:Env}(h:zHd e=true):swapsWith e t n env=pure false:=by
 cases e<;>first | rfl | cases h
theorem zDJ {e:Expr}{env:Env}(h:zGh e=true):∀ x,foldedSetIterable e env x=pure x:=by
 intro x;cases e<;>first | rfl | cases h
theorem zGQ {sc:Scope}{x:Str}(h:visB sc x=true):Vis sc x:=by
 unfold visB at h;split at h
 .rename_i e;exact .inl e
 .rename_i e;exact .inr (.inl e)
 .rename_i e;exact .inr (.inr e)
 .cases h
theorem zCs {sc:Scope}{x:Str}(h:locB sc x=true):Loc sc x:=by
 unfold locB at h;split at h
 .rename_i e;exact .inl e
 .rename_i e;exact .inr e
 .cases h
theorem zL5 {sc:Scope}{x:Str}(h:locB sc x=true):Vis sc x:=(zCs h).elim .inl fun e=>.inr (.inl e)
theorem zEb {X:Cx}{x:Str}(h:glB X.env.scope x=true):Gl X x:=by
 unfold glB at h;split at h
 .rename_i e;exact e
 .cases h
theorem zCJ {x:Str}(h:okN x=true):(x==("__debug__":Str))=false/\(x==("__classdict__":Str))=false:=by
 unfold okN at h;rw [and_eq_true] at h;exact ⟨by simpa using h.1,by simpa using h.2⟩
theorem zA8 {X:Cx}{k:Nat}{C:Gm}{bs:List Str}{x:Str}(o:XOk X k C bs)(h:bltB X.env.scope bs x=true):Gl X x/\X.mg x=none:=by
 unfold bltB at h;rw [and_eq_true] at h;exact ⟨zEb h.1,o.g.bt x (by simpa using h.2)⟩
theorem zCv {X:Cx}{k:Nat}{C:Gm}{bs:List Str}(o:XOk X k C bs):X.A.units+64 < cLine:=o.room.units
theorem zDE {X:Cx}:∀ {es:List Expr},(∀ e∈es,zAe e=true)->∀ pos,(backTo pos (starEach es X.env)).any (·.1)=false
 | [],_,_=>rfl
 | e::es,h,pos=>by
  rw [zAI (h e mem_cons_self)];show (false||(backTo pos (starEach es X.env)).any (·.1))=false;rw [zDE (fun e z=>h e (mem_cons_of_mem _ z)) pos]
  rfl
theorem zK7 {sc:Scope}{N bs:List Str}{a:E}:∀ {es:List Expr},cEs a sc N bs es=true->∀ e∈es,zAe e=true:=by
 induction a with
 | nil =>
  intro es h;cases es with
  | nil=>intro e z;exact absurd z (by simp)
  | cons x xs=>exact zzf h
 | cons a b _ ih =>
  intro es h;cases es with
  | nil=>intro e z;exact absurd z (by simp)
  | cons x xs =>
   simp only [cEs,and_eq_true] at h;intro e z;rcases mem_cons.mp z with rfl | z
   .exact h.1.1
   .exact ih h.2 e z
 | _=>intro es h;exact zzf h
end DL
namespace DL
open PySem Spec PyProof.Rows L2
section
variable {X:Cx}
theorem zCL {e:Expr}{f:Dst->Option R}(h:∀ G,f G=none):GE X e f:=fun pins s B H Q I zz75=>by
 obtain ⟨S,G,z,ds,e,c⟩:=zz75;rw [h G] at e;cases e
theorem zEs {f g:Dst->Option R}{o:D->D->Option R}(h:∀ x y,o x y=none)(G:Dst):two f g o G=none:=by
 unfold two;cases f G with
 | none=>rfl
 | some x =>
  cases g G with
  | none=>rfl
  | some y=>exact h _ _
def zQv (K:W.Frag):R2:=fun x y H Q=>∃ l b xs zs,x=.ref l/\y=.ref b/\SqL K H l xs/\SqL K H b zs/\xs.length+zs.length<=sizeLine/\∀ p,H p=none->Q (.ref p) (upd H p (.lst (xs++zs)))
theorem zO0:OpR X (binaryOp .Add) (zQv X.K):=by
 intro pins s B H x y v u Q I rx ry h;obtain ⟨l,b,xs,zs,rfl,rfl,hl,hb,hz,q⟩:=h;cases rx;cases ry;obtain ⟨its,rv,⟨⟨cls,dd,data,sl⟩,n,e1,e2,e3,e4⟩,z1⟩:=I.list hl;obtain ⟨its2,rv2,⟨⟨cls2,dd2,data2,sl2⟩,n2,e1',e2',e3',e4'⟩,z2⟩:=I.list hb;simp only at e2 e3 e4 e2' e3' e4';subst e2 e4 e2' e4';have hsz:its.toArray.size+its2.toArray.size<=sizeLine:=by rw [size_toArray,size_toArray,<- rv.length,<- rv2.length];exact hz
 refine concat_meets ⟨_,e1,rfl⟩ ⟨_,e1',rfl⟩ noFill_list_add seq_list_add F.slot_list_add F.entry_list_add (F.args_list_add_2 _ _) (zF0 l _ n dd sl b _ n2 dd2 sl2 hsz) ⟨e1,e1',?_⟩;have ea:its.toArray++its2.toArray=(its++its2).toArray:=by simp
 rw [ea];exact ⟨.ref _,_,I.lnew (t':=s.toks) (rv.append rv2) (by rw [length_append];exact hz),rfl,q _ I.fresh⟩
theorem zOt:OpD X.K (fun x y H Q=>(rI0 (fun i j=>.int (i+j)) x y H Q\/zQv X.K x y H Q)\/zQu X.K x y H Q) (binD .Add):=by
 intro S H x y z vx vy Q sok e rx ry c;unfold binD at e;dsimp only at e;split at e
 .cases e;exact .inl (.inl ⟨_,_,rx.int,ry.int,c _ H (Same.refl _) (.int _)⟩)
 .rename_i xs ys;by_cases hl:xs.length+ys.length<=10000
  .rw [if_pos hl] at e;cases e;obtain ⟨a,vs,rfl,h1,h2⟩:=rx.lst;obtain ⟨b,ws,rfl,h3,h4⟩:=ry.lst;exact .inl (.inr ⟨a,b,vs,ws,rfl,rfl,h1,h3,by rw [<- h2.length,<- h4.length];exact zCf hl,fun p n=>c _ _ (zAk n _) (.lstNew (Same.refl _) sok n (h2.append h4))⟩)
  .rw [if_neg hl] at e;cases e
 .rename_i x xs y ys;by_cases hl:(x::xs).length+(y::ys).length<=10000
  .rw [if_pos hl] at e;cases e;obtain ⟨a,vs,rfl,h1,h2⟩:=rx.tup;obtain ⟨b,ws,rfl,h3,h4⟩:=ry.tup;have n1:vs≠[]:=fun z=>by rw [z] at h2;have:=h2.length;simp at this
   have n2:ws≠[]:=fun z=>by rw [z] at h4;have:=h4.length;simp at this
   exact .inr ⟨a,b,vs,ws,rfl,rfl,h1,h3,n1,by rw [<- h2.length,<- h4.length];exact zCf hl,fun z=>absurd z n2,fun _ p n=>c _ _ (zAk n _) (.tupNew sok n (h2.append h4))⟩
  .rw [if_neg hl] at e;cases e
 .cases e
theorem zOq:OpD X.K (fun x y H Q=>rI IntMulOk (fun i j=>.int (i*j)) x y H Q\/rRep X.K x y H Q) (binD .Mult):=by
 intro S H x y z vx vy Q sok e rx ry c;unfold binD at e;dsimp only at e;split at e
 .unfold mulD at e;split at e
  .rename_i h;cases e;exact .inl ⟨_,_,rx.int,ry.int,h,c _ H (Same.refl _) (.int _)⟩
  .cases e
 .rename_i xs j;by_cases hl:0<=j/\j<=10000/\xs.length*j.toNat<=10000
  .rw [if_pos hl] at e;cases e;obtain ⟨a,vs,rfl,h1,h2⟩:=rx.lst;exact .inr ⟨a,vs,j,rfl,ry.int,h1,hl.1,hl.2.1,by rw [<- h2.length];exact hl.2.2,fun p n=>c _ _ (zAk n _) (.lstNew (Same.refl _) sok n (zKx h2 _))⟩
  .rw [if_neg hl] at e;cases e
 .cases e
theorem zSJ {op:Operator}{a b:Expr}{f g:Dst->Option R}{pos:Pos}(ha:GE X a f)(hb:GE X b g):GE X (.BinOp a op b pos) (two f g (binD op)):=by
  cases op with
  | Add=>exact zIc ((zRR.or zO0).or zOz) zOt ha hb
  | Sub=>exact zIc zRG (zLu fun x y z e=>by
      unfold binD at e;dsimp only at e;split at e
      . cases e;exact ⟨_,_,rfl,rfl,rfl⟩
      . cases e) ha hb
  | Mult=>exact zIc (zOx.or zRH) zOq ha hb
  | FloorDiv=>exact zIc zLv (zGd fun x y z e=>by
      unfold binD at e;dsimp only at e;split at e
      . unfold zMY at e;split at e
        . rename_i h;cases e;exact ⟨_,_,rfl,rfl,h,rfl⟩
        . cases e
      . cases e) ha hb
  | Mod=>exact zIc zOy (zGd fun x y z e=>by
      unfold binD at e;dsimp only at e;split at e
      . split at e
        . cases e
        . rename_i h;cases e;exact ⟨_,_,rfl,rfl,h,rfl⟩
      . cases e) ha hb
  | Pow=>exact zIc zRI (zGd fun x y z e=>by
      unfold binD at e;dsimp only at e;split at e
      . split at e
        . rename_i h;cases e;exact ⟨_,_,rfl,rfl,h,rfl⟩
        . cases e
      . cases e) ha hb
  | _=>exact zCL (zEs fun _ _=>rfl)
theorem zBf {op:CmpOp}{k:Int->Int->Bool}(h:cmpD op=fun x y=>match x,y with
    | .int i,.int j=>some (.bl (k i j),.cl)
    | _,_=>none):∀ x y z,cmpD op x y=some z->∃ i j,x=.int i/\y=.int j/\z=(.bl (k i j),.cl):=by
  intro x y z e;rw [h] at e;dsimp only at e;split at e
  . cases e;exact ⟨_,_,rfl,rfl,rfl⟩
  . cases e
theorem zMu {op:CmpOp}(hu:X.A.units+64 < cLine):(∃ r,OpR X (compareOp op) r/\OpD X.K r (cmpD op)/\∀ b,behindInMarks op b=false)\/∀ x y,cmpD op x y=none:=by
 cases op with
 | Lt=>exact .inl ⟨_,zRK,zBE (zBf rfl),fun b=>zC4 b⟩
 | LtE=>exact .inl ⟨_,zRL,zBE (zBf rfl),fun b=>zC4 b⟩
 | Gt=>exact .inl ⟨_,zRN,zBE (zBf rfl),fun b=>zC4 b⟩
 | GtE=>exact .inl ⟨_,zRP,zBE (zBf rfl),fun b=>zC4 b⟩
 | Eq=>exact .inl ⟨_,zRQ hu,zNb,fun b=>zC4 b⟩
 | NotEq=>exact .inl ⟨_,zRJ hu,zNb,fun b=>zC4 b⟩
 | Is=>exact .inl ⟨_,zRM,zOs,fun b=>zC4 b⟩
 | IsNot=>exact .inl ⟨_,zOw,zLt,fun b=>zC4 b⟩
 | _=>exact .inr fun _ _=>rfl
theorem zGl {e:Expr}{f:Dst->Option R}(h:∀ G,f G=none):GT X e (asB f):=fun pins s B H Q I zz76=>by
 obtain ⟨S,G,z,ds,e,c⟩:=zz76;obtain ⟨k,e⟩:=zB7 e;rw [h G] at e;cases e
theorem zPj {op:CmpOp}{a b:Expr}{f g:Dst->Option R}{pos:Pos}(hu:X.A.units+64 < cLine)(ha:GE X a f)(hb:GE X b g):GE X (.Compare a [op] [b] pos) (two f g (cmpD op))/\GT X (.Compare a [op] [b] pos) (asB (two f g (cmpD op))):=by
 rcases zMu (X:=X) (op:=op) hu with ⟨r,h1,h2,h3⟩ | h
 .exact ⟨zSI h1 h2 (h3 b) ha hb,zRw h1 h2 (h3 b) ha hb⟩
 .exact ⟨zCL (zEs h),zGl (zEs h)⟩
theorem zAu {e:Expr}{f:Dst->Option R}(h:GE X e f)(he:∀ whole,isTrue e X.env whole=(do let v<-whole;standAt e.pos;holding [v] (truthy v))):GE X e f/\GT X e (asB f):=⟨h,zRt h he⟩
structure Good (X:Cx)(C:Gm)(bs:List Str)(a:E):Prop where
 e:∀ e,cE a X.env.scope X.N bs e=true->GE X e (evE C a)/\GT X e (asB (evE C a))
 es:∀ es,cEs a X.env.scope X.N bs es=true->(GA X es (evEs C a)/\GAL X es (evLs C a))/\(es≠[]->∀ pos,(GE X (.BoolOp .And es pos) (evAnd C a)/\GW X (.BoolOp .And es pos) (asB (evAnd C a)))/\GE X (.BoolOp .Or es pos) (evOr C a)/\GW X (.BoolOp .Or es pos) (asB (evOr C a)))
 o:∀ oe,cO a X.env.scope X.N bs oe=true->GO X oe (evO C a)
 i:∀ it,cI a X.env.scope X.N bs it=true->(∀ tg,GI X tg it (evI C a))/\∀ x,foldedSetIterable it X.env x=pure x
 c:∀ ifs,cC a X.env.scope X.N bs ifs=true->GCs X ifs (evC C a)
theorem Good.of {C:Gm}{bs:List Str}{a:E}(h:∀ e,cE a X.env.scope X.N bs e=true->GE X e (evE C a)/\GT X e (asB (evE C a)))(h2:∀ es,cEs a X.env.scope X.N bs es=false)(h3:∀ oe,cO a X.env.scope X.N bs oe=false)(h4:∀ it,cI a X.env.scope X.N bs it=false)(h5:∀ ifs,cC a X.env.scope X.N bs ifs=false):Good X C bs a :=
 ⟨h,fun es q=>absurd (h2 es) (by rw [q];decide),fun oe q=>absurd (h3 oe) (by rw [q];decide),fun it q=>absurd (h4 it) (by rw [q];decide),fun ifs q=>absurd (h5 ifs) (by rw [q];decide)⟩
theorem Good.ofI {C:Gm}{bs:List Str}{a:E}(h:∀ it,cI a X.env.scope X.N bs it=true->(∀ tg,GI X tg it (evI C a))/\∀ x,foldedSetIterable it X.env x=pure x)(h1:∀ e,cE a X.env.scope X.N bs e=false)(h2:∀ es,cEs a X.env.scope X.N bs es=false)(h3:∀ oe,cO a X.env.scope X.N bs oe=false)(h5:∀ ifs,cC a X.env.scope X.N bs ifs=false):Good X C bs a :=
 ⟨fun e q=>absurd (h1 e) (by rw [q];decide),fun es q=>absurd (h2 es) (by rw [q];decide),fun oe q=>absurd (h3 oe) (by rw [q];decide),h,fun ifs q=>absurd (h5 ifs) (by rw [q];decide)⟩
structure zOG (X:Cx)(tg iter elt:Expr)(ifs:List Expr)(scope:Scope)(ms:List Nat)(xs:List Str)(f:Dst->Option (List D))(t:D->Dst->Option Dst)(c:Dst->Option Bool)(e:Dst->Option R):Prop where
 hi:GI X tg iter f
 hs:∀ x,foldedSetIterable iter X.env x=pure x
 cs:zCT X.env.scope scope
 hm:∀ (i:Nat) x,X.N[i]?=some x->ownB scope x=true->i∈ms
 hg:∀ s H fp,GG (zAO X (mask noN ms X.N++xs) scope s H fp) tg t
 hc:∀ s H fp,GCs (zAO X (mask noN ms X.N++xs) scope s H fp) ifs c
 he:∀ s H fp,GE (zAO X (mask noN ms X.N++xs) scope s H fp) elt e
theorem zFK {sc scope:Scope}(h:cscB sc scope=true):zCT sc scope:=by
 unfold cscB at h;simp only [and_eq_true,decide_eq_true_eq,beq_iff_eq,all_eq_true] at h;obtain ⟨⟨h1,h2⟩,h3⟩:=h;refine ⟨h1,h2,fun x hx e=>?_⟩;have q:=h3 x hx;rw [e] at q;simpa using q
theorem zDi {scope:Scope}{N:List Str}{ms:List Nat}(h:zJw scope N ms=true):∀ (i:Nat) x,N[i]?=some x->ownB scope x=true->i∈ms:=fun i x e o=>by
 unfold zJw at h;rw [all_eq_true] at h;have hi:i < N.length:=(zzg e).1;have q:=h i (mem_range.mpr hi);have ex:N.getD i noN=x:=by rw [getD_eq_getElem?_getD,e];rfl
 rw [ex,o] at q;simpa using q
theorem zF6 {N:List Str}{ms:List Nat}{xs:List Str}{k:Nat}{x:Str}(h:xs[k]?=some x):(mask noN ms N++xs)[N.length+k]?=some x:=by
 rw [getElem?_append_right (by rw [zAl];omega),zAl];rw [Nat.add_sub_cancel_left];exact h
end
end DL
end
section
namespace DL
open PySem Spec PyProof.Rows L2
section
variable {X:Cx}{k:Nat}{C:Gm}{bs:List Str}
theorem zTv {n:Nat}{f:Str}{p pos:Pos}{es:List Expr}{g:Dst->Option (List D)}(o:XOk X k C bs)(hg:Gl X f)(hd:(f==("__debug__":Str))=false)(ha:GA X es g)(hst:∀ e∈es,zAe e=true)(he:es=[]->∀ G,g G=some []):GE X (.Call (.Name f p) es [] pos) (fnD C n f g):=by
 cases q:C.fns[n]? with
 | none=>exact zCL fun G=>by unfold fnD;rw [q]
 | some yF =>
  obtain ⟨y,F⟩:=yF;by_cases e:y=f
  .subst e;have ef:fnD C n y g=zG3 F g:=by
    funext G;unfold fnD;rw [q];exact if_pos rfl
   rw [ef];obtain ⟨a,fd,ps,h1,h2,h3,h4⟩:=o.g.fn y F (mem_of_getElem? q);cases es with
   | nil =>
    have eg:g=fun _=>some []:=funext (he rfl)
    rw [eg];exact zMT h1 o.room hg h2 h3 h4 hd
   | cons x xs=>exact zPk h1 o.room hg h2 h3 h4 ha hd (zAI (hst x mem_cons_self)) (zDE fun e z=>hst e (mem_cons_of_mem _ z))
  .exact zCL fun G=>by
    unfold fnD;rw [q];exact if_neg e
theorem zTu {n:Nat}{x:Str}{pos:Pos}(o:XOk X k C bs)(hg:Gl X x)(hd:(x==("__debug__":Str))=false):GE X (.Name x pos) (zF4 C n x):=by
 cases q:C.cs[n]? with
 | none=>exact zCL fun G=>by unfold zF4;rw [q]
 | some yd =>
  obtain ⟨y,d⟩:=yd;by_cases e:y=x
  .subst e;have ef:zF4 C n y=fun _=>some (d,.cl):=by
    funext G;unfold zF4;rw [q];exact if_pos rfl
   rw [ef];obtain ⟨u,v,h1,h2,h3⟩:=o.g.cs y d (mem_of_getElem? q);exact zPi hg h1 h2 h3 hd
  .exact zCL fun G=>by
    unfold zF4;rw [q];exact if_neg e
theorem zQO {sc:Scope}{N bs:List Str}{a:E}(h:cEs a sc N bs []=true)(G:Dst):evEs C a G=some []:=by
 cases a<;>first | rfl | exact (zzf h)
theorem zH1 {n:Nat}{ms:List Nat}{x:Str}{src c el:E}(o:XOk X k C bs)(hs:Good X C bs src)(hc:∀ {X':Cx},XOk X' k C bs->Good X' C bs c)(he:∀ {X':Cx},XOk X' k C bs->Good X' C bs el){e:Expr}(h:cE (.comp1 n ms x src c el) X.env.scope X.N bs e=true) :
  ∃ tg iter elt ifs scope pos,e=.ListComp elt [⟨tg,iter,ifs,0⟩] scope pos/\zOG X tg iter elt ifs scope ms [x] (evI C src) (tg1 n) (evC C c) (evE C el):=by
 obtain ⟨v,z1,scope,pos,rfl,hq1⟩:=zBL h;obtain ⟨z2,rfl,hq2⟩:=zAv hq1;obtain ⟨z3,t,ifs,a,rfl,hq3⟩:=zDg hq2;obtain ⟨y,py,rfl,hq4⟩:=zAH hq3;replace h:=hq4;simp only [and_eq_true,decide_eq_true_eq] at h;obtain ⟨⟨⟨⟨⟨⟨⟨⟨⟨⟨rfl,rfl⟩,rfl⟩,h4⟩,h5⟩,h6⟩,h7⟩,h8⟩,h9⟩,h10⟩,h11⟩:=h;have cx:∀ s H fp,XOk (zAO X (mask noN ms X.N++[x]) scope s H fp) k C bs:=fun s H fp=>o.comp h6
 refine ⟨_,_,_,_,_,_,rfl,⟨(hs.i _ h9).1 _,(hs.i _ h9).2,zFK h4,zDi h5,fun s H fp=>?_,fun s H fp=>(hc (cx s H fp)).c _ h10,fun s H fp=>((he (cx s H fp)).e _ h11).1⟩⟩;exact zKT (X:=zAO X (mask noN ms X.N++[x]) scope s H fp) h6 (zF6 (k:=0) rfl) (zCs h7) (.inl h8)
theorem zH0 {n:Nat}{ms:List Nat}{x x2:Str}{src c el:E}(o:XOk X k C bs)(hs:Good X C bs src)(hc:∀ {X':Cx},XOk X' k C bs->Good X' C bs c)(he:∀ {X':Cx},XOk X' k C bs->Good X' C bs el){e:Expr}(h:cE (.comp2 n ms x x2 src c el) X.env.scope X.N bs e=true) :
  ∃ tg iter elt ifs scope pos,e=.ListComp elt [⟨tg,iter,ifs,0⟩] scope pos/\zOG X tg iter elt ifs scope ms [x,x2] (evI C src) (tg2 n (n+1)) (evC C c) (evE C el):=by
 obtain ⟨v,z1,scope,pos,rfl,hq1⟩:=zBL h;obtain ⟨z2,rfl,hq2⟩:=zAv hq1;obtain ⟨z3,t,ifs,a,rfl,hq3⟩:=zDg hq2;obtain ⟨z4,kk,ppos,rfl,hq4⟩:=zEX hq3;obtain ⟨z5,z6,rfl,hq5⟩:=zDy hq4;obtain ⟨y,py,rfl,hq6⟩:=zAH hq5;obtain ⟨y2,py2,rfl,hq7⟩:=zAH hq6;replace h:=hq7;simp only [and_eq_true,decide_eq_true_eq] at h;obtain ⟨⟨⟨⟨⟨⟨⟨⟨⟨⟨⟨⟨⟨rfl,rfl⟩,rfl⟩,rfl⟩,h4⟩,h5⟩,h6⟩,h7⟩,h8⟩,h7'⟩,h8'⟩,h9⟩,h10⟩,h11⟩:=h;have cx:∀ s H fp,XOk (zAO X (mask noN ms X.N++[x,x2]) scope s H fp) k C bs:=fun s H fp=>o.comp h6
 refine ⟨_,_,_,_,_,_,rfl,⟨(hs.i _ h9).1 _,(hs.i _ h9).2,zFK h4,zDi h5,fun s H fp=>?_,fun s H fp=>(hc (cx s H fp)).c _ h10,fun s H fp=>((he (cx s H fp)).e _ h11).1⟩⟩;exact zR8 (X:=zAO X (mask noN ms X.N++[x,x2]) scope s H fp) o.calm h6 (zF6 (k:=0) rfl) (zCs h7) (.inl h8) (zF6 (k:=1) rfl) (zCs h7') (.inl h8')
theorem zCG (o:XOk X k C bs)(a:E):Good X C bs a:=by
 have hu:=zCv o
 induction a generalizing X with
 | var i =>
  refine Good.of (fun e h=>?_) (fun _=>rfl) (fun _=>rfl) (fun _=>rfl) fun _=>rfl
  obtain ⟨_,_,rfl,hq1⟩:=zAH h;replace h:=hq1;simp only [and_eq_true,decide_eq_true_eq] at h;obtain ⟨⟨h2,h3⟩,h4⟩:=h;obtain ⟨n1,n2⟩:=zCJ h4;exact zAu (zR9 h2 (zGQ h3) n1 n2) fun _=>rfl
 | glob n x =>
  refine Good.of (fun e h=>?_) (fun _=>rfl) (fun _=>rfl) (fun _=>rfl) fun _=>rfl
  obtain ⟨_,_,rfl,hq1⟩:=zAH h;replace h:=hq1;simp only [and_eq_true,decide_eq_true_eq] at h;obtain ⟨⟨rfl,h2⟩,h4⟩:=h;exact zAu (zTu o (zEb h2) (zCJ h4).1) fun _=>rfl
 | int i =>
  refine Good.of (fun e h=>?_) (fun _=>rfl) (fun _=>rfl) (fun _=>rfl) fun _=>rfl
  obtain ⟨z1,_,_,rfl,hq1⟩:=zBM h;obtain ⟨_,rfl,hq2⟩:=zJe hq1;replace h:=hq2;simp only [decide_eq_true_eq] at h;subst h;exact zAu ge_int fun _=>rfl
 | bl b =>
  refine Good.of (fun e h=>?_) (fun _=>rfl) (fun _=>rfl) (fun _=>rfl) fun _=>rfl
  obtain ⟨z1,_,_,rfl,hq1⟩:=zBM h;obtain ⟨_,rfl,hq2⟩:=zIS hq1;replace h:=hq2;simp only [decide_eq_true_eq] at h;subst h;exact zAu zTw fun _=>rfl
 | non =>
  refine Good.of (fun e h=>?_) (fun _=>rfl) (fun _=>rfl) (fun _=>rfl) fun _=>rfl
  obtain ⟨z1,_,_,rfl,hq1⟩:=zBM h;obtain ⟨rfl,hq2⟩:=zCp hq1;replace h:=hq2;exact zAu zSD fun _=>rfl
 | str x =>
  refine Good.of (fun e h=>?_) (fun _=>rfl) (fun _=>rfl) (fun _=>rfl) fun _=>rfl
  obtain ⟨z1,_,_,rfl,hq1⟩:=zBM h;obtain ⟨_,rfl,hq2⟩:=zJc hq1;replace h:=hq2;simp only [decide_eq_true_eq] at h;subst h;exact zAu zSB fun _=>rfl
 | bin op a b iha ihb =>
  refine Good.of (fun e h=>?_) (fun _=>rfl) (fun _=>rfl) (fun _=>rfl) fun _=>rfl
  obtain ⟨_,_,_,_,rfl,hq1⟩:=zIT h;replace h:=hq1;simp only [and_eq_true,opB,decide_eq_true_eq] at h;obtain ⟨⟨rfl,h1⟩,h2⟩:=h;exact zAu (zSJ ((iha o hu).e _ h1).1 ((ihb o hu).e _ h2).1) fun _=>rfl
 | neg a iha =>
  refine Good.of (fun e h=>?_) (fun _=>rfl) (fun _=>rfl) (fun _=>rfl) fun _=>rfl
  obtain ⟨z1,_,_,rfl,hq1⟩:=zCI h;obtain ⟨rfl,hq2⟩:=zCp hq1;replace h:=hq2;exact zAu (zSE ((iha o hu).e _ h).1) fun _=>rfl
 | not a iha =>
  refine Good.of (fun e h=>?_) (fun _=>rfl) (fun _=>rfl) (fun _=>rfl) fun _=>rfl
  obtain ⟨z1,_,_,rfl,hq1⟩:=zCI h;obtain ⟨rfl,hq2⟩:=zCp hq1;replace h:=hq2;exact ⟨zSC ((iha o hu).e _ h).1,zRu ((iha o hu).e _ h).2⟩
 | cmp op a b iha ihb =>
  refine Good.of (fun e h=>?_) (fun _=>rfl) (fun _=>rfl) (fun _=>rfl) fun _=>rfl
  obtain ⟨_,z1,z2,_,rfl,hq1⟩:=zDU h;obtain ⟨_,rfl,hq2⟩:=zAv hq1;obtain ⟨_,rfl,hq3⟩:=zAv hq2;replace h:=hq3;simp only [and_eq_true,cmB,decide_eq_true_eq] at h;obtain ⟨⟨rfl,h1⟩,h2⟩:=h;exact zPj hu ((iha o hu).e _ h1).1 ((ihb o hu).e _ h2).1
 | andl es ih =>
  refine Good.of (fun e h=>?_) (fun _=>rfl) (fun _=>rfl) (fun _=>rfl) fun _=>rfl
  obtain ⟨z1,l,pos,rfl,hq1⟩:=zCq h;obtain ⟨rfl,hq2⟩:=zCp hq1;replace h:=hq2;cases l with
  | nil =>
   have z:∀ G,evAnd C es G=none:=fun G=>by cases es<;>first | rfl | exact (zzf h)
   exact ⟨zCL z,zGl z⟩
  | cons x xs =>
   have q:=(((ih o hu).es _ h).2 (by simp) pos).1;exact ⟨q.1,q.2.pt⟩
 | orl es ih =>
  refine Good.of (fun e h=>?_) (fun _=>rfl) (fun _=>rfl) (fun _=>rfl) fun _=>rfl
  obtain ⟨z1,l,pos,rfl,hq1⟩:=zCq h;obtain ⟨rfl,hq2⟩:=zCp hq1;replace h:=hq2;cases l with
  | nil =>
   have z:∀ G,evOr C es G=none:=fun G=>by cases es<;>first | rfl | exact (zzf h)
   exact ⟨zCL z,zGl z⟩
  | cons x xs =>
   have q:=(((ih o hu).es _ h).2 (by simp) pos).2;exact ⟨q.1,q.2.pt⟩
 | ite c a b ihc iha ihb =>
  refine Good.of (fun e h=>?_) (fun _=>rfl) (fun _=>rfl) (fun _=>rfl) fun _=>rfl
  obtain ⟨_,_,_,_,rfl,hq1⟩:=zIR h;replace h:=hq1;simp only [and_eq_true] at h;obtain ⟨⟨h0,h1⟩,h2⟩:=h;exact ⟨zSG ((ihc o hu).e _ h0).2 ((iha o hu).e _ h1).1 ((ihb o hu).e _ h2).1,zRv ((ihc o hu).e _ h0).2 ((iha o hu).e _ h1).2 ((ihb o hu).e _ h2).2⟩
 | tup es ih =>
  refine Good.of (fun e h=>?_) (fun _=>rfl) (fun _=>rfl) (fun _=>rfl) fun _=>rfl
  obtain ⟨_,_,_,rfl,hq1⟩:=zEX h;replace h:=hq1;exact zAu (zSA ((ih o hu).es _ h).1.1) fun _=>rfl
 | lst es ih =>
  refine Good.of (fun e h=>?_) (fun _=>rfl) (fun _=>rfl) (fun _=>rfl) fun _=>rfl
  obtain ⟨_,_,rfl,hq1⟩:=zFu h;replace h:=hq1;exact zAu (zSF ((ih o hu).es _ h).1.1) fun _=>rfl
 | ix a b iha ihb =>
  refine Good.of (fun e h=>?_) (fun _=>rfl) (fun _=>rfl) (fun _=>rfl) fun _=>rfl
  obtain ⟨_,_,_,rfl,hq1⟩:=zBk h;replace h:=hq1;simp only [and_eq_true] at h;obtain ⟨⟨h0,h1⟩,h2⟩:=h;exact zAu (zTt ((iha o hu).e _ h1).1 ((ihb o hu).e _ h2).1 (zEY h0)) fun _=>rfl
 | sl a lo hi iha ihl ihh =>
  refine Good.of (fun e h=>?_) (fun _=>rfl) (fun _=>rfl) (fun _=>rfl) fun _=>rfl
  obtain ⟨_,z1,_,rfl,hq1⟩:=zBk h;obtain ⟨_,_,z2,_,rfl,hq2⟩:=zIQ hq1;obtain ⟨rfl,hq3⟩:=zJX hq2;replace h:=hq3;simp only [and_eq_true] at h;obtain ⟨⟨h0,h1⟩,h2⟩:=h;exact zAu (zTr ((iha o hu).e _ h0).1 ((ihl o hu).o _ h1) ((ihh o hu).o _ h2)) fun _=>rfl
 | call n f es ih =>
  refine Good.of (fun e h=>?_) (fun _=>rfl) (fun _=>rfl) (fun _=>rfl) fun _=>rfl
  obtain ⟨z1,_,z2,_,rfl,hq1⟩:=zAU h;obtain ⟨_,_,rfl,hq2⟩:=zAH hq1;obtain ⟨rfl,hq3⟩:=zAr hq2;replace h:=hq3;simp only [and_eq_true,decide_eq_true_eq] at h;obtain ⟨⟨⟨rfl,h2⟩,h3⟩,h4⟩:=h;exact zAu (zTv o (zEb h2) (zCJ h3).1 ((ih o hu).es _ h4).1.1 (zK7 h4) fun e G=>by subst e;exact zQO h4 G) fun _=>rfl
 | lend n f es ih =>
  exact Good.of (fun e h=>(zzf h)) (fun _=>rfl) (fun _=>rfl) (fun _=>rfl) fun _=>rfl
 | len a iha =>
  refine Good.of (fun e h=>?_) (fun _=>rfl) (fun _=>rfl) (fun _=>rfl) fun _=>rfl
  obtain ⟨z1,z2,z3,_,rfl,hq1⟩:=zAU h;obtain ⟨_,_,rfl,hq2⟩:=zAH hq1;obtain ⟨_,rfl,hq3⟩:=zAv hq2;obtain ⟨rfl,hq4⟩:=zAr hq3;replace h:=hq4;simp only [and_eq_true,decide_eq_true_eq] at h;obtain ⟨⟨⟨rfl,h2⟩,h3⟩,h4⟩:=h;obtain ⟨g1,g2⟩:=zA8 o h2;exact zAu (zSK zGH zOr g1 g2 PySem.boot_len ((iha o hu).e _ h4).1 (zAI h3) (by decide) (by decide)) fun _=>rfl
 | sum a iha =>
  exact Good.of (fun e h=>(zzf h)) (fun _=>rfl) (fun _=>rfl) (fun _=>rfl) fun _=>rfl
 | abs a iha =>
  refine Good.of (fun e h=>?_) (fun _=>rfl) (fun _=>rfl) (fun _=>rfl) fun _=>rfl
  obtain ⟨z1,z2,z3,_,rfl,hq1⟩:=zAU h;obtain ⟨_,_,rfl,hq2⟩:=zAH hq1;obtain ⟨_,rfl,hq3⟩:=zAv hq2;obtain ⟨rfl,hq4⟩:=zAr hq3;replace h:=hq4;simp only [and_eq_true,decide_eq_true_eq] at h;obtain ⟨⟨⟨rfl,h2⟩,h3⟩,h4⟩:=h;obtain ⟨g1,g2⟩:=zA8 o h2;exact zAu (zSK zMx zOu g1 g2 boot_abs ((iha o hu).e _ h4).1 (zAI h3) (by decide) (by decide)) fun _=>rfl
 | list a iha =>
  refine Good.of (fun e h=>?_) (fun _=>rfl) (fun _=>rfl) (fun _=>rfl) fun _=>rfl
  obtain ⟨z1,z2,z3,_,rfl,hq1⟩:=zAU h;obtain ⟨_,_,rfl,hq2⟩:=zAH hq1;obtain ⟨_,rfl,hq3⟩:=zAv hq2;obtain ⟨rfl,hq4⟩:=zAr hq3;replace h:=hq4;simp only [and_eq_true,decide_eq_true_eq] at h;obtain ⟨⟨⟨rfl,h2⟩,h3⟩,h4⟩:=h;obtain ⟨g1,g2⟩:=zA8 o h2;exact zAu (zTq zGG zLs g1 g2 boot_list ((iha o hu).e _ h4).1 (zAI h3) (by decide) (by decide)) fun _=>rfl
 | max a b iha ihb =>
  refine Good.of (fun e h=>?_) (fun _=>rfl) (fun _=>rfl) (fun _=>rfl) fun _=>rfl
  obtain ⟨z1,z2,z3,_,rfl,hq1⟩:=zAU h;obtain ⟨_,_,rfl,hq2⟩:=zAH hq1;obtain ⟨_,_,rfl,hq3⟩:=zDy hq2;obtain ⟨rfl,hq4⟩:=zAr hq3;replace h:=hq4;simp only [and_eq_true,decide_eq_true_eq] at h;obtain ⟨⟨⟨⟨⟨rfl,h2⟩,h3⟩,h4⟩,h5⟩,h6⟩:=h;obtain ⟨g1,g2⟩:=zA8 o h2;exact zAu (zTx (zK4 o.calm) (fun x y z e=>by
   unfold maxD at e;split at e
   .cases e;exact ⟨_,_,rfl,rfl,rfl⟩
   .cases e) g1 g2 boot_max ((iha o hu).e _ h5).1 ((ihb o hu).e _ h6).1 (zAI h3) (zAI h4) (by decide) (by decide)) fun _=>rfl
 | min a b iha ihb =>
  exact Good.of (fun e h=>(zzf h)) (fun _=>rfl) (fun _=>rfl) (fun _=>rfl) fun _=>rfl
 | isi t a iha =>
  refine Good.of (fun e h=>?_) (fun _=>rfl) (fun _=>rfl) (fun _=>rfl) fun _=>rfl
  obtain ⟨z1,z2,z3,_,rfl,hq1⟩:=zAU h;obtain ⟨_,_,rfl,hq2⟩:=zAH hq1;obtain ⟨_,z4,rfl,hq3⟩:=zDy hq2;obtain ⟨_,_,rfl,hq4⟩:=zAH hq3;obtain ⟨rfl,hq5⟩:=zAr hq4;replace h:=hq5;simp only [and_eq_true,decide_eq_true_eq] at h;obtain ⟨⟨⟨⟨⟨rfl,rfl⟩,h2⟩,h3⟩,h4⟩,h5⟩:=h;obtain ⟨g1,g2⟩:=zA8 o h2;obtain ⟨g3,g4⟩:=zA8 o h3;exact zAu (zSH g1 g2 g3 g4 ((iha o hu).e _ h5).1 (zAI h4)) fun _=>rfl
 | chn op op' a b c iha ihb ihc =>
  refine Good.of (fun e h=>?_) (fun _=>rfl) (fun _=>rfl) (fun _=>rfl) fun _=>rfl
  obtain ⟨_,z1,z2,_,rfl,hq1⟩:=zDU h;obtain ⟨_,_,rfl,hq2⟩:=zDy hq1;obtain ⟨_,_,rfl,hq3⟩:=zDy hq2;replace h:=hq3;simp only [and_eq_true,cmB,decide_eq_true_eq] at h;obtain ⟨⟨⟨⟨⟨⟨rfl,rfl⟩,h1⟩,h2⟩,h3⟩,h4⟩,h5⟩:=h;have k:∀ {op:CmpOp},chB op=true->∃ r,OpR X (compareOp op) r/\OpD X.K r (cmpD op):=fun {op} q=>by
   cases op with
   | Lt=>exact ⟨_,zRK,zBE (zBf rfl)⟩
   | LtE=>exact ⟨_,zRL,zBE (zBf rfl)⟩
   | Gt=>exact ⟨_,zRN,zBE (zBf rfl)⟩
   | GtE=>exact ⟨_,zRP,zBE (zBf rfl)⟩
   | _=>exact absurd q (by decide)
  obtain ⟨r,a1,a2⟩:=k h1;obtain ⟨r',b1,b2⟩:=k h2;exact zMR a1 b1 a2 b2 h2 ((iha o hu).e _ h3).1 ((ihb o hu).e _ h4).1 ((ihc o hu).e _ h5).1
 | callv i a iha =>
  refine Good.of (fun e h=>?_) (fun _=>rfl) (fun _=>rfl) (fun _=>rfl) fun _=>rfl
  obtain ⟨z1,z2,z3,_,rfl,hq1⟩:=zAU h;obtain ⟨_,_,rfl,hq2⟩:=zAH hq1;obtain ⟨_,rfl,hq3⟩:=zAv hq2;obtain ⟨rfl,hq4⟩:=zAr hq3;replace h:=hq4;simp only [and_eq_true,decide_eq_true_eq] at h;obtain ⟨⟨⟨⟨h1,h2⟩,h3⟩,h4⟩,h5⟩:=h;obtain ⟨d1,d2⟩:=zCJ h3;exact zAu (zMS o.g.lm o.room h1 (zGQ h2) d1 d2 ((iha o hu).e _ h5).1 (zAI h4) o.own) fun _=>rfl
 | nin a b c iha ihb ihc =>
  exact Good.of (fun e h=>(zzf h)) (fun _=>rfl) (fun _=>rfl) (fun _=>rfl) fun _=>rfl
 | lrev a iha =>
  refine Good.of (fun e h=>?_) (fun _=>rfl) (fun _=>rfl) (fun _=>rfl) fun _=>rfl
  obtain ⟨z1,z2,z3,_,rfl,hq1⟩:=zAU h;obtain ⟨_,_,rfl,hq2⟩:=zAH hq1;obtain ⟨z4,rfl,hq3⟩:=zAv hq2;obtain ⟨z5,z6,z7,_,rfl,hq4⟩:=zAU hq3;obtain ⟨_,_,rfl,hq5⟩:=zAH hq4;obtain ⟨_,rfl,hq6⟩:=zAv hq5;obtain ⟨rfl,hq7⟩:=zAr hq6;obtain ⟨rfl,hq8⟩:=zAr hq7;replace h:=hq8;simp only [and_eq_true,decide_eq_true_eq] at h;obtain ⟨⟨⟨⟨⟨rfl,rfl⟩,h2⟩,h3⟩,h4⟩,h5⟩:=h;obtain ⟨g1,g2⟩:=zA8 o h2;obtain ⟨g3,g4⟩:=zA8 o h3;exact zAu (zIe o.calm g1 g2 g3 g4 ((iha o hu).e _ h5).1 (zAI h4)) fun _=>rfl
 | tupl a iha =>
  exact Good.of (fun e h=>(zzf h)) (fun _=>rfl) (fun _=>rfl) (fun _=>rfl) fun _=>rfl
 | isa ys a iha =>
  exact Good.of (fun e h=>(zzf h)) (fun _=>rfl) (fun _=>rfl) (fun _=>rfl) fun _=>rfl
 | isc y a iha =>
  exact Good.of (fun e h=>(zzf h)) (fun _=>rfl) (fun _=>rfl) (fun _=>rfl) fun _=>rfl
 | comp1 n ms x src c el ihs ihc ihe =>
  refine Good.of (fun e h=>?_) (fun _=>rfl) (fun _=>rfl) (fun _=>rfl) fun _=>rfl
  obtain ⟨tg,iter,elt,ifs,scope,pos,rfl,q⟩:=zH1 o (ihs o hu) (fun o'=>ihc o' (zCv o')) (fun o'=>ihe o' (zCv o')) h;exact zAu (zGm o.calm q.hi q.hs q.cs q.hm q.hg q.hc q.he) fun _=>rfl
 | comp2 n ms x x2 src c el ihs ihc ihe =>
  refine Good.of (fun e h=>?_) (fun _=>rfl) (fun _=>rfl) (fun _=>rfl) fun _=>rfl
  obtain ⟨tg,iter,elt,ifs,scope,pos,rfl,q⟩:=zH0 o (ihs o hu) (fun o'=>ihc o' (zCv o')) (fun o'=>ihe o' (zCv o')) h;exact zAu (zGm o.calm q.hi q.hs q.cs q.hm q.hg q.hc q.he) fun _=>rfl
 | lzip a b iha ihb =>
  refine Good.of (fun e h=>?_) (fun _=>rfl) (fun _=>rfl) (fun _=>rfl) fun _=>rfl
  obtain ⟨z1,z2,z3,_,rfl,hq1⟩:=zAU h;obtain ⟨_,_,rfl,hq2⟩:=zAH hq1;obtain ⟨z4,rfl,hq3⟩:=zAv hq2;obtain ⟨z5,z6,z7,_,rfl,hq4⟩:=zAU hq3;obtain ⟨_,_,rfl,hq5⟩:=zAH hq4;obtain ⟨_,_,rfl,hq6⟩:=zDy hq5;obtain ⟨rfl,hq7⟩:=zAr hq6;obtain ⟨rfl,hq8⟩:=zAr hq7;replace h:=hq8;simp only [and_eq_true,decide_eq_true_eq] at h;obtain ⟨⟨⟨⟨⟨⟨⟨rfl,rfl⟩,h2⟩,h3⟩,h4⟩,h5⟩,h6⟩,h7⟩:=h;obtain ⟨g1,g2⟩:=zA8 o h2;obtain ⟨g3,g4⟩:=zA8 o h3;exact zAu (zId o.calm g1 g2 g3 g4 ((iha o hu).e _ h6).1 ((ihb o hu).e _ h7).1 (zAI h4) (zAI h5)) fun _=>rfl
 | t1 o1 a iha =>
  exact Good.of (fun e h=>(zzf h)) (fun _=>rfl) (fun _=>rfl) (fun _=>rfl) fun _=>rfl
 | t2 o2 a b iha ihb =>
  exact Good.of (fun e h=>(zzf h)) (fun _=>rfl) (fun _=>rfl) (fun _=>rfl) fun _=>rfl
 | its a iha =>
  refine Good.ofI (fun it h=>?_) (fun _=>rfl) (fun _=>rfl) (fun _=>rfl) fun _=>rfl
  replace h:(zGh it&&cE a X.env.scope X.N bs it)=true:=h;simp only [and_eq_true] at h;exact ⟨fun tg=>zR6 ((iha o hu).e _ h.2).1,zDJ h.1⟩
 | it a iha =>
  refine Good.ofI (fun it h=>?_) (fun _=>rfl) (fun _=>rfl) (fun _=>rfl) fun _=>rfl
  replace h:(zGh it&&cE a X.env.scope X.N bs it)=true:=h;simp only [and_eq_true] at h;exact ⟨fun tg=>zR7 ((iha o hu).e _ h.2).1,zDJ h.1⟩
 | r1 a iha =>
  refine Good.ofI (fun it h=>?_) (fun _=>rfl) (fun _=>rfl) (fun _=>rfl) fun _=>rfl
  obtain ⟨z1,z2,z3,_,rfl,hq1⟩:=zAU h;obtain ⟨_,_,rfl,hq2⟩:=zAH hq1;obtain ⟨_,rfl,hq3⟩:=zAv hq2;obtain ⟨rfl,hq4⟩:=zAr hq3;replace h:=hq4;simp only [and_eq_true,decide_eq_true_eq] at h;obtain ⟨⟨⟨rfl,h2⟩,h3⟩,h4⟩:=h;obtain ⟨g1,g2⟩:=zA8 o h2;exact ⟨fun tg=>zKS g1 g2 ((iha o hu).e _ h4).1 (zAI h3),fun _=>rfl⟩
 | r2 a b iha ihb =>
  refine Good.ofI (fun it h=>?_) (fun _=>rfl) (fun _=>rfl) (fun _=>rfl) fun _=>rfl
  obtain ⟨z1,z2,z3,_,rfl,hq1⟩:=zAU h;obtain ⟨_,_,rfl,hq2⟩:=zAH hq1;obtain ⟨_,_,rfl,hq3⟩:=zDy hq2;obtain ⟨rfl,hq4⟩:=zAr hq3;replace h:=hq4;simp only [and_eq_true,decide_eq_true_eq] at h;obtain ⟨⟨⟨⟨⟨rfl,h2⟩,h3⟩,h4⟩,h5⟩,h6⟩:=h;obtain ⟨g1,g2⟩:=zA8 o h2;exact ⟨fun tg=>zKR g1 g2 ((iha o hu).e _ h5).1 ((ihb o hu).e _ h6).1 (zAI h3) (zAI h4),fun _=>rfl⟩
 | r3 a b c iha ihb ihc =>
  refine Good.ofI (fun it h=>?_) (fun _=>rfl) (fun _=>rfl) (fun _=>rfl) fun _=>rfl
  obtain ⟨z1,z2,z3,_,rfl,hq1⟩:=zAU h;obtain ⟨_,_,rfl,hq2⟩:=zAH hq1;obtain ⟨_,_,_,rfl,hq3⟩:=zRS hq2;obtain ⟨rfl,hq4⟩:=zAr hq3;replace h:=hq4;simp only [and_eq_true,decide_eq_true_eq] at h;obtain ⟨⟨⟨⟨⟨⟨⟨rfl,h2⟩,h3⟩,h4⟩,h4'⟩,h5⟩,h6⟩,h7⟩:=h;obtain ⟨g1,g2⟩:=zA8 o h2;exact ⟨fun tg=>zKQ g1 g2 ((iha o hu).e _ h5).1 ((ihb o hu).e _ h6).1 ((ihc o hu).e _ h7).1 (zAI h3) (zAI h4) (zAI h4'),fun _=>rfl⟩
 | nil =>
  refine ⟨fun e h=>(zzf h),fun es h=>?_,fun oe h=>?_,fun it h=>(zzf h),fun ifs h=>?_⟩
  .cases es with
   | nil=>exact ⟨⟨zSN,zPr⟩,fun z=>absurd rfl z⟩
   | cons x xs=>exact (zzf h)
  .cases oe with
   | none=>exact zPe
   | some x=>exact (zzf h)
  .cases ifs with
   | nil=>exact zPm
   | cons x xs=>exact (zzf h)
 | cons e es ihe ihs =>
  refine ⟨fun e h=>(zzf h),fun l h=>?_,fun oe h=>?_,fun it h=>(zzf h),fun ifs h=>?_⟩
  .cases l with
   | nil=>exact (zzf h)
   | cons x xs =>
    replace h:(zAe x&&cE e X.env.scope X.N bs x&&cEs es X.env.scope X.N bs xs)=true:=h;simp only [and_eq_true] at h;obtain ⟨⟨h1,h2⟩,h3⟩:=h;obtain ⟨q1,q2⟩:=(ihe o hu).e _ h2;refine ⟨⟨zPs q1 ((ihs o hu).es _ h3).1.1 (zAI h1),zMW q1 ((ihs o hu).es _ h3).1.2 (zAI h1)⟩,fun _ pos=>?_⟩;cases xs with
    | nil =>
     have hn:es=.nil:=by cases es<;>first | rfl | exact (zzf h3)
     subst hn;exact ⟨⟨zNs q1,zIa q2⟩,zNs q1,zKH q2⟩
    | cons y ys =>
     have hc:∃ a b,es=.cons a b:=by cases es<;>first | exact ⟨_,_,rfl⟩ | exact (zzf h3)
     obtain ⟨a,b,rfl⟩:=hc;obtain ⟨⟨r1,r2⟩,r3,r4⟩:=((ihs o hu).es _ h3).2 (by simp) pos;exact ⟨⟨zSL q1 r1,zRr q2 r2⟩,zTs q1 r3,zTn q2 r4⟩
  .cases oe with
   | none=>exact (zzf h)
   | some x =>
    replace h:cE e X.env.scope X.N bs x=true:=h;exact zPd ((ihe o hu).e _ h).1
  .cases ifs with
   | nil=>exact (zzf h)
   | cons x xs =>
    cases xs with
    | nil=>exact zPl ((ihe o hu).e _ h).2
    | cons _ _=>exact (zzf h)
theorem zBi {sc:Scope}{N:List Str}{i:Nat}{x:Str}(h:varB sc N i x=true):N[i]?=some x/\Loc sc x/\Vis sc x/\(x==("__debug__":Str))=false/\(x==("__classdict__":Str))=false:=by
 unfold varB at h;simp only [and_eq_true,decide_eq_true_eq] at h;obtain ⟨⟨h1,h2⟩,h3⟩:=h;exact ⟨h1,zCs h2,zL5 h2,zCJ h3⟩
theorem zQp (o:XOk X k C bs)(fnl:∀ x,X.fn x=true)(hxe:X.xe=fun _ _=>False)(hst:X.stack=X.env::X.outer)(hfr:X.env.frame=some X.env.locals)(a:S) :
  ((∀ st,cS X.env.scope X.N bs a st=true->GS X st (evS C a))/\∀ sts,cSs X.env.scope X.N bs a sts=true->GSs X sts (evSs C a)) /\
  (∀ st,cS X.env.scope X.N bs a st=true->GXs X st (xvS C a))/\∀ sts,cSs X.env.scope X.N bs a sts=true->GXss X sts (xvSs C a):=by
 induction a with
 | nil =>
  refine ⟨⟨fun st h=>(zzf h),fun sts h=>?_⟩,fun st h=>zAM,fun sts h=>zAM⟩;cases sts with
  | nil=>exact zPZ
  | cons x xs=>exact (zzf h)
 | cons a b iha ihb =>
  refine ⟨⟨fun st h=>(zzf h),fun sts h=>?_⟩,fun st h=>zAM,fun sts h=>zAM⟩
  .cases sts with
   | nil=>exact (zzf h)
   | cons x xs =>
    replace h:(cS X.env.scope X.N bs a x&&cSs X.env.scope X.N bs b xs)=true:=h;simp only [and_eq_true] at h;exact zMO (iha.1.1 _ h.1) (ihb.1.2 _ h.2)
 | frz i r ih =>
  refine ⟨⟨fun st h=>(zzf h),fun sts h=>?_⟩,fun st h=>zAM,fun sts h=>zAM⟩
  .replace h:cSs X.env.scope X.N bs r sts=true:=h;exact zPY zSQ (ih.1.2 _ h)
 | set i e =>
  refine ⟨⟨fun st h=>?_,fun sts h=>(zzf h)⟩,fun st h=>zAM,fun sts h=>zAM⟩
  .obtain ⟨z1,_,_,rfl,hq1⟩:=zB0 h;obtain ⟨z2,rfl,hq2⟩:=zAv hq1;obtain ⟨_,_,rfl,hq3⟩:=zAH hq2;replace h:=hq3;simp only [and_eq_true,decide_eq_true_eq] at h;obtain ⟨⟨h2,h3⟩,h4⟩:=h;obtain ⟨v1,v2,_⟩:=zBi h2;exact zNr o.nd v1 v2 ((zCG o e).e _ h4).1 (zD0 h3) (.inl (fnl _))
 | setC i e =>
  refine ⟨⟨fun st h=>?_,fun sts h=>(zzf h)⟩,fun st h=>zAM,fun sts h=>zAM⟩;obtain ⟨z1,_,_,rfl,hq1⟩:=zB0 h;obtain ⟨z2,rfl,hq2⟩:=zAv hq1;obtain ⟨_,_,rfl,hq3⟩:=zAH hq2;replace h:=hq3;simp only [and_eq_true,decide_eq_true_eq] at h;obtain ⟨⟨h0,h2⟩,h4⟩:=h;obtain ⟨v1,v2,_⟩:=zBi h2;cases e with
  | comp1 n ms x src c el =>
   obtain ⟨tg,iter,elt,ifs,scope,pos,rfl,q⟩:=zH1 o (zCG o src) (fun o'=>zCG o' c) (fun o'=>zCG o' el) h4;exact zKL o.calm q.hi q.hs q.cs q.hm q.hg q.hc q.he o.nd v1 v2 (.inl (fnl _))
  | comp2 n ms x x2 src c el =>
   obtain ⟨tg,iter,elt,ifs,scope,pos,rfl,q⟩:=zH0 o (zCG o src) (fun o'=>zCG o' c) (fun o'=>zCG o' el) h4;exact zKL o.calm q.hi q.hs q.cs q.hm q.hg q.hc q.he o.nd v1 v2 (.inl (fnl _))
  | _=>cases h0
 | app i e =>
  refine ⟨⟨fun st h=>?_,fun sts h=>(zzf h)⟩,fun st h=>zAM,fun sts h=>zAM⟩;obtain ⟨z1,_,rfl,hq1⟩:=zDI h;obtain ⟨z2,z3,z4,_,rfl,hq2⟩:=zAU hq1;obtain ⟨z5,_,_,rfl,hq3⟩:=zBl hq2;obtain ⟨_,_,rfl,hq4⟩:=zAH hq3;obtain ⟨_,rfl,hq5⟩:=zAv hq4;obtain ⟨rfl,hq6⟩:=zAr hq5;replace h:=hq6;simp only [and_eq_true,decide_eq_true_eq] at h;obtain ⟨⟨⟨⟨rfl,h2⟩,h3⟩,h4⟩,h5⟩:=h;obtain ⟨v1,v2,v3,v4,v5⟩:=zBi h2;exact zR2 v1 v3 v4 v5 ((zCG o e).e _ h5).1 (zAI h4) rfl h3
 | un2 i j e =>
  exact ⟨⟨fun st h=>(zzf h),fun sts h=>(zzf h)⟩,fun st h=>(zzf h),fun sts h=>(zzf h)⟩
 | un4 i j k l e =>
  exact ⟨⟨fun st h=>(zzf h),fun sts h=>(zzf h)⟩,fun st h=>(zzf h),fun sts h=>(zzf h)⟩
 | un3 i j k e =>
  exact ⟨⟨fun st h=>(zzf h),fun sts h=>(zzf h)⟩,fun st h=>(zzf h),fun sts h=>(zzf h)⟩
 | aug op i e =>
  refine ⟨⟨fun st h=>?_,fun sts h=>(zzf h)⟩,fun st h=>zAM,fun sts h=>zAM⟩;obtain ⟨z1,_,_,_,rfl,hq1⟩:=zEN h;obtain ⟨_,_,rfl,hq2⟩:=zAH hq1;replace h:=hq2;simp only [and_eq_true,decide_eq_true_eq,opB] at h;obtain ⟨⟨⟨rfl,h2⟩,h3⟩,h4⟩:=h;obtain ⟨v1,v2,_⟩:=zBi h2;exact zR1 o.nd v1 v2 ((zCG o e).e _ h4).1 (.inl (fnl _))
 | swp i j k l =>
  exact ⟨⟨fun st h=>(zzf h),fun sts h=>(zzf h)⟩,fun st h=>(zzf h),fun sts h=>(zzf h)⟩
 | ext i e =>
  refine ⟨⟨fun st h=>?_,fun sts h=>(zzf h)⟩,fun st h=>zAM,fun sts h=>zAM⟩;obtain ⟨z1,_,rfl,hq1⟩:=zDI h;obtain ⟨z2,z3,z4,_,rfl,hq2⟩:=zAU hq1;obtain ⟨z5,_,_,rfl,hq3⟩:=zBl hq2;obtain ⟨_,_,rfl,hq4⟩:=zAH hq3;obtain ⟨_,rfl,hq5⟩:=zAv hq4;obtain ⟨rfl,hq6⟩:=zAr hq5;replace h:=hq6;simp only [and_eq_true,decide_eq_true_eq] at h;obtain ⟨⟨⟨⟨rfl,h2⟩,h3⟩,h4⟩,h5⟩:=h;obtain ⟨v1,v2,v3,v4,v5⟩:=zBi h2;exact zR0 v1 v3 v4 v5 ((zCG o e).e _ h5).1 (zAI h4) rfl h3
 | ins i kk e =>
  exact ⟨⟨fun st h=>(zzf h),fun sts h=>(zzf h)⟩,fun st h=>(zzf h),fun sts h=>(zzf h)⟩
 | put i kk e =>
  exact ⟨⟨fun st h=>(zzf h),fun sts h=>(zzf h)⟩,fun st h=>(zzf h),fun sts h=>(zzf h)⟩
 | dnew i =>
  exact ⟨⟨fun st h=>(zzf h),fun sts h=>(zzf h)⟩,fun st h=>(zzf h),fun sts h=>(zzf h)⟩
 | dput i a b =>
  exact ⟨⟨fun st h=>(zzf h),fun sts h=>(zzf h)⟩,fun st h=>(zzf h),fun sts h=>(zzf h)⟩
 | ife c a b iha ihb =>
  refine ⟨⟨fun st h=>?_,fun sts h=>(zzf h)⟩,fun st h=>zAM,fun sts h=>zAM⟩
  .obtain ⟨_,_,_,_,rfl,hq1⟩:=zJa h;replace h:=hq1;simp only [and_eq_true] at h;obtain ⟨⟨h1,h2⟩,h3⟩:=h;exact zTo ((zCG o c).e _ h1).2 (iha.1.2 _ h2) (ihb.1.2 _ h3)
 | whl c b ihb =>
  refine ⟨⟨fun st h=>?_,fun sts h=>(zzf h)⟩,fun st h=>zAM,fun sts h=>zAM⟩;obtain ⟨_,_,z1,_,rfl,hq1⟩:=zIP h;obtain ⟨rfl,hq2⟩:=zAr hq1;replace h:=hq2;simp only [and_eq_true] at h;exact zMQ o.own ((zCG o c).e _ h.1).2 (ihb.1.2 _ h.2)
 | for1 i it b ihb =>
  refine ⟨⟨fun st h=>?_,fun sts h=>(zzf h)⟩,fun st h=>zAM,fun sts h=>zAM⟩;obtain ⟨z1,_,_,z2,_,rfl,hq1⟩:=zHb h;obtain ⟨_,_,rfl,hq2⟩:=zAH hq1;obtain ⟨rfl,hq3⟩:=zAr hq2;replace h:=hq3;simp only [and_eq_true,decide_eq_true_eq] at h;obtain ⟨⟨h2,h3⟩,h4⟩:=h;obtain ⟨v1,v2,_⟩:=zBi h2;obtain ⟨s1,s2⟩:=(zCG o it).i _ h3;exact zRz o.own o.calm (s1 _) (zKT o.nd v1 v2 (.inl (fnl _))) (ihb.1.2 _ h4) s2
 | for2 i j it b ihb =>
  exact ⟨⟨fun st h=>(zzf h),fun sts h=>(zzf h)⟩,fun st h=>(zzf h),fun sts h=>(zzf h)⟩
 | ret e =>
  refine ⟨⟨fun st h=>?_,fun sts h=>(zzf h)⟩,fun st h=>zAM,fun sts h=>zAM⟩
  .obtain ⟨z1,_,rfl,hq1⟩:=zCo h;obtain ⟨_,rfl,hq2⟩:=zDv hq1;replace h:=hq2;exact zRy ((zCG o e).e _ h).1
 | retOwn i =>
  refine ⟨⟨fun st h=>?_,fun sts h=>(zzf h)⟩,fun st h=>zAM,fun sts h=>zAM⟩;obtain ⟨z1,_,rfl,hq1⟩:=zCo h;obtain ⟨z2,rfl,hq2⟩:=zDv hq1;obtain ⟨_,_,rfl,hq3⟩:=zAH hq2;replace h:=hq3;obtain ⟨v1,v2,v3,v4,v5⟩:=zBi h;exact zKM v1 v3 v4 v5
 | retN =>
  exact ⟨⟨fun st h=>(zzf h),fun sts h=>(zzf h)⟩,fun st h=>(zzf h),fun sts h=>(zzf h)⟩
 | drop e =>
  exact ⟨⟨fun st h=>(zzf h),fun sts h=>(zzf h)⟩,fun st h=>(zzf h),fun sts h=>(zzf h)⟩
 | pass =>
  exact ⟨⟨fun st h=>(zzf h),fun sts h=>(zzf h)⟩,fun st h=>(zzf h),fun sts h=>(zzf h)⟩
 | brk =>
  exact ⟨⟨fun st h=>(zzf h),fun sts h=>(zzf h)⟩,fun st h=>(zzf h),fun sts h=>(zzf h)⟩
 | cnt =>
  exact ⟨⟨fun st h=>(zzf h),fun sts h=>(zzf h)⟩,fun st h=>(zzf h),fun sts h=>(zzf h)⟩
 | never=>exact ⟨⟨fun st _=>zHn,fun sts h=>(zzf h)⟩,fun st h=>zAM,fun sts h=>zAM⟩
 | rse c m =>
  exact ⟨⟨fun st _=>zHn,fun sts h=>(zzf h)⟩,fun st h=>zAM,fun sts h=>zAM⟩
 | tri b c i ihb =>
  exact ⟨⟨fun st h=>(zzf h),fun sts h=>(zzf h)⟩,fun st h=>(zzf h),fun sts h=>(zzf h)⟩
 | tra b c i j ihb =>
  exact ⟨⟨fun st h=>(zzf h),fun sts h=>(zzf h)⟩,fun st h=>(zzf h),fun sts h=>(zzf h)⟩
end
theorem zN6 {P:Program}{w:World}{K:W.Frag}{mg:Str->Option Value}{base:Heap}{x qual:Str}{st:Stmt}{f:Addr}{fd:FuncData}{N ps:List Str}{k:Nat}{C:Gm}{bs:List Str}{b:S}(F:Fun K x qual st f fd)(sc:zAC N ps (zAA st))
  (ck:cSs (zAA st) N bs b (zAB st)=true) (g:GOk P w K mg base k C bs):FnOk P w K mg base CX0 (k+1) f fd ps (spD K (dFun ps.length N.length (evSs C b))) :=
 zSP F sc fun cdv A outer s H E hr =>
  (zQp (X:=(cxOf CX0 P w K mg base N qual (zAA st) f cdv A outer s H E).nox) ⟨g,hr,rfl,sc.nd,PassesOwn.never⟩ (fun _=>rfl) rfl rfl rfl b).1.2 _ ck
def Gm.add (C:Gm)(x:Str)(F:List D->Option R):Gm:=⟨C.fns++[(x,F)],C.cs,C.xf,C.sub,C.rs,C.lm⟩
theorem GOk.add {P:Program}{w:World}{K:W.Frag}{mg:Str->Option Value}{base:Heap}{x:Str}{st:Stmt}{f:Addr}{fd:FuncData}{N ps:List Str}{k:Nat}{C:Gm}{bs:List Str}{b:S}(g:GOk P w K mg base k C bs)(F:Fun K x x st f fd)(sc:zAC N ps (zAA st))
  (ck:cSs (zAA st) N bs b (zAB st)=true) (m:mg x=some (.ref f)) (bi:zCD K fd ps []):GOk P w K mg base (k+1) (C.add x (dFun ps.length N.length (evSs C b))) bs:=by
 refine ⟨fun y G h=>?_,g.cs,g.bt,trivial,trivial,trivial,fun j L F e=>(g.lm j L F e).mono (Nat.le_succ k)⟩
 .rcases mem_append.mp h with h | h
  .obtain ⟨f',fd',ps',h1,h2⟩:=g.fn y G h;exact ⟨f',fd',ps',h1.mono (Nat.le_succ k),h2⟩
  .have e:(y,G)=(x,dFun ps.length N.length (evSs C b)):=by simpa using h
   cases e;exact ⟨f,fd,ps,zN6 F sc ck g,m,F.kp,bi⟩
theorem GOk.addN {P:Program}{w:World}{K:W.Frag}{mg:Str->Option Value}{base:Heap}{x:Str}{st:Stmt}{f:Addr}{fd:FuncData}{ps:List Str}{k:Nat}{C:Gm}{bs:List Str}(g:GOk P w K mg base k C bs)(F:Fun K x x st f fd)(m:mg x=some (.ref f))(bi:zCD K fd ps []) :
  GOk P w K mg base k (C.add x (fun _=>none)) bs:=by
 refine ⟨fun y G h=>?_,g.cs,g.bt,trivial,trivial,trivial,g.lm⟩
 .rcases mem_append.mp h with h | h
  .exact g.fn y G h
  .have e:(y,G)=(x,fun _=>none):=by simpa using h
   cases e;exact ⟨f,fd,ps,⟨fun vs H Q E q=>(by obtain ⟨_,_,_,_,_,q,_⟩:=q;cases q),fun A outer s H args us vs Q E hr he hb hv q=>(by obtain ⟨_,_,_,_,_,q,_⟩:=q;cases q)⟩,m,F.kp,bi⟩
theorem GOk.addR {P:Program}{w:World}{K:W.Frag}{mg:Str->Option Value}{base:Heap}{x:Str}{st:Stmt}{f:Addr}{fd:FuncData}{N ps:List Str}{k j:Nat}{C U6:Gm}{bs:List Str}{b:S}(g:GOk P w K mg base k C bs)(g':GOk P w K mg base j U6 bs)(hk:k<=j)(F:Fun K x x st f fd)(sc:zAC N ps (zAA st))
  (ck:cSs (zAA st) N bs b (zAB st)=true) (m:mg x=some (.ref f)) (bi:zCD K fd ps []):GOk P w K mg base (j+1) (C.add x (dFun ps.length N.length (evSs U6 b))) bs:=by
 refine ⟨fun y G h=>?_,g.cs,g.bt,trivial,trivial,trivial,fun i L F e=>(g.lm i L F e).mono (by omega)⟩
 .rcases mem_append.mp h with h | h
  .obtain ⟨f',fd',ps',h1,h2⟩:=g.fn y G h;exact ⟨f',fd',ps',h1.mono (by omega),h2⟩
  .have e:(y,G)=(x,dFun ps.length N.length (evSs U6 b)):=by simpa using h
   cases e;exact ⟨f,fd,ps,zN6 F sc ck g',m,F.kp,bi⟩
def Gm.addL (C:Gm)(L:LamI)(F:List D->Option R):Gm:=⟨C.fns,C.cs,C.xf,C.sub,C.rs,C.lm++[(L,F)]⟩
def lamD (n:Nat)(G:Dst->Option R):List D->Option R:=fun ds=>if ds.length=n+1/\noFs ds=true then G (ds.map fun d=>some (d,false)) else none
theorem GOk.addL {P:Program}{w:World}{K:W.Frag}{mg:Str->Option Value}{base:Heap}{k:Nat}{C:Gm}{bs:List Str}{L:LamI}{x:Str}{ys:List Str}{be:E}(g:GOk P w K mg base k C bs)(S:zG9 x ys L)(ey:frN L=ys)(ck:cE be L.scope (x::ys) bs L.body=true) :
  GOk P w K mg base (k+1) (C.addL L (lamD ys.length (evE C be))) bs:=by
 refine ⟨fun y G h=>let ⟨f,fd,ps,h1,h2⟩:=g.fn y G h;⟨f,fd,ps,h1.mono (Nat.le_succ k),h2⟩,g.cs,g.bt,trivial,trivial,trivial,fun j L' F e=>?_⟩;have e':(C.lm++[(L,lamD ys.length (evE C be))])[j]?=some (L',F):=e;by_cases q:j < C.lm.length
 .rw [getElem?_append_left q] at e';exact (g.lm j L' F e').mono (Nat.le_succ k)
 .rw [getElem?_append_right (by omega)] at e';have q2:j - C.lm.length=0:=by
   by_cases z:j - C.lm.length=0
   .exact z
   .rw [getElem?_eq_none (by simp;omega)] at e';cases e'
  rw [q2] at e';cases e';refine zPK S ey fun Y e1 e2 e3 e4 e5 hr hc hN hs hx=>?_
  subst e1 e2 e3 e4 e5;rw [<- hN,<- hs] at ck;exact ((zCG (X:=Y) ⟨g,hr,hc,by rw [hN];exact S.nd,by rw [hx];exact PassesOwn.never⟩ be).e _ ck).1
theorem zM3 {u:Value}{v:V}(h:absV u=some v):RelV v u:=by
 unfold absV at h;split at h<;>first | (cases h;rfl) | (cases h;exact ⟨_,rfl⟩) | cases h
theorem zHF:∀ {us:List Value} {vs:List V},us.map absV=vs.map some->Vals vs us
 | [],[],_=>.nil
 | [],_::_,h=>by simp at h
 | _::_,[],h=>by simp at h
 | u::us,v::vs,h=>by
  simp only [map_cons,List.cons.injEq] at h;exact .cons (zM3 h.1) (zHF h.2)
theorem zHo {K:W.Frag}{mg:Str->Option Value}{x:Str}{a:Addr}{od:Option Addr}{its:Array Value}{n:Nat}{sl:Array (Option Value)}{ns:List Int}(m:mg x=some (.ref a))(l:K.lookup a=some ⟨.type "tuple",od,.seq its n,sl⟩)
  (h:its.toList.map absV=(ns.map V.int).map some) (hl:ns.length<=1000:=by decide):∃ u v,mg x=some u/\RelV v u/\Den K (fun _=>none) (.tup (ns.map D.int)) v:=by
 refine ⟨_,.ref a,m,rfl,?_⟩;rw [Den];refine ⟨a,ns.map V.int,rfl,.inr ⟨_,its,n,l,rfl,rfl,?_,zHF h⟩,DenL.ints ns⟩;have e:=congrArg List.length h;rw [length_map,length_map,length_map] at e;have e2:its.size=ns.length:=e;rw [e2];exact Nat.le_of_lt (zI4 hl)
end DL
end
section
namespace DL
open PySem L2
theorem zGt {C:Gm}{i:Nat}:evE C (.var i)=varD i:=rfl
theorem zMk {C:Gm}{n:Nat}{x:Str}:evE C (.glob n x)=zF4 C n x:=rfl
theorem zQE {C:Gm}{a:E}:evE C (.neg a)=negD (evE C a):=rfl
theorem zQD {C:Gm}{a:E}:evE C (.not a)=notD (evE C a):=rfl
theorem zGu {C:Gm}{e a b:E}:evAnd C (.cons e (.cons a b))=andD (evE C e) (evAnd C (.cons a b)):=rfl
theorem zIh {C:Gm}{e a b:E}:evOr C (.cons e (.cons a b))=orD (evE C e) (evOr C (.cons a b)):=rfl
theorem zQG {C:Gm}{c:E}{a:E}{b:E}:evE C (.ite c a b)=iteD (evE C c) (evE C a) (evE C b):=rfl
theorem zKh {C:Gm}{e:E}{es:E}:evEs C (.cons e es)=zMt (evE C e) (evEs C es):=rfl
theorem zQC {C:Gm}{es:E}:evE C (.tup es)=tupD (evEs C es):=rfl
theorem zQF {C:Gm}{es:E}:evE C (.lst es)=lstD (evEs C es):=rfl
theorem zMl {C:Gm}{n:Nat}{f:Str}{es:E}:evE C (.call n f es)=fnD C n f (evEs C es):=rfl
theorem zSc {C:Gm}{a:E}{lo:E}{hi:E}:evE C (.sl a lo hi)=slD (evE C a) (evO C lo) (evO C hi):=rfl
theorem zMf {C:Gm}{e:E}{u1:E}:evO C (.cons e u1)=zJU (evE C e):=rfl
theorem zKc {C:Gm}{a:S}{b:S}:evSs C (.cons a b)=seqD (evS C a) (evSs C b):=rfl
theorem zHt {C:Gm}{i:Nat}{r:S}:evSs C (.frz i r)=seqD (frzD i) (evSs C r):=rfl
theorem zP4 {C:Gm}{i:Nat}{e:E}:evS C (.set i e)=setD i (evE C e):=rfl
theorem zMe {C:Gm}{i:Nat}{e:E}:evS C (.setC i e)=setD i (evE C e):=rfl
theorem zP8 {C:Gm}{i:Nat}{e:E}:evS C (.app i e)=appD i (evE C e):=rfl
theorem zP6 {C:Gm}{c:E}{a:S}{b:S}:evS C (.ife c a b)=ifD (asB (evE C c)) (evSs C a) (evSs C b):=rfl
theorem zP5 {C:Gm}{e:E}:evS C (.ret e)=retD (evE C e):=rfl
theorem zIg {C:Gm}{i:Nat}:evS C (.retOwn i)=zDr i:=rfl
theorem zSb {C:Gm}{e:E}:evI C (.it e)=zF1 (evE C e):=rfl
theorem zSa {C:Gm}{a:E}:evI C (.r1 a)=zJD (evE C a):=rfl
theorem zSZ {C:Gm}{a:E}{b:E}{c:E}:evI C (.r3 a b c)=zJC (evE C a) (evE C b) (evE C c):=rfl
theorem zKj {C:Gm}{n:Nat}{ms:List Nat}{u2:Str}{src:E}{c:E}{e:E}:evE C (.comp1 n ms u2 src c e)=zFN ms 1 (evI C src) (tg1 n) (evC C c) (evE C e):=rfl
theorem zQH {C:Gm}{op:CmpOp}{op':CmpOp}{a:E}{b:E}{c:E}:evE C (.chn op op' a b c)=chD (cmpD op) (cmpD op') (evE C a) (evE C b) (evE C c):=rfl
theorem zP7 {C:Gm}{i:Nat}{e:E}:evS C (.ext i e)=extD i (evE C e):=rfl
theorem zMj {C:Gm}{a:E}:evE C (.lrev a)=one (evE C a) revD:=rfl
theorem zDO {C:Gm}:evC C .nil=fun _=>some true:=rfl
def EvP {U:Type}(o:Option U)(Q:U->Prop):Prop:=∃ r,o=some r/\Q r
section
variable {U M:Type}{C:Gm}{G:Dst}
theorem EvP.bind {o:Option U}{f:U->Option M}{Q:M->Prop}(h:EvP o fun a=>EvP (f a) Q):EvP (o.bind f) Q:=by
 obtain ⟨a,e,b,e2,q⟩:=h;exact ⟨b,by rw [e];exact e2,q⟩
theorem EvP.eq {o:Option U}{r:U}(h:EvP o fun x=>x=r):o=some r:=by
 obtain ⟨x,e,rfl⟩:=h;exact e
theorem EvP.imp {o:Option U}{Q Q':U->Prop}(h:EvP o Q)(i:∀ x,Q x->Q' x):EvP o Q':=by
 obtain ⟨x,e,q⟩:=h;exact ⟨x,e,i x q⟩
def CB (b:Bool)(A B:Prop):Prop:=if b=true then A else B
theorem zBK {p:Prop}[Decidable p]{A B:Prop}(h1:p->A)(h2:¬ p->B):CB (decide p) A B:=by
 unfold CB;by_cases h:p
 .rw [if_pos (decide_eq_true h)];exact h1 h
 .rw [if_neg (by simpa using h)];exact h2 h
theorem cb_t {A B:Prop}(h:A):CB true A B:=h
theorem cb_f {A B:Prop}(h:B):CB false A B:=by unfold CB;rw [if_neg Bool.false_ne_true];exact h
theorem zBt {p:Prop}[Decidable p]{A B:Prop}(hp:p)(h:A):CB (decide p) A B:=zBK (fun _=>h) fun n=>absurd hp n
theorem zCS {p:Prop}[Decidable p]{A B:Prop}(hp:¬ p)(h:B):CB (decide p) A B:=zBK (fun n=>absurd n hp) fun _=>h
theorem zEH {b:Bool}{A B:Prop}(h:CB b B A):CB (!b) A B:=by
 cases b with
 | true=>exact cb_f h
 | false=>exact cb_t (by unfold CB at h;rw [if_neg Bool.false_ne_true] at h;exact h)
variable {Q:R->Prop}
theorem zAG {i:Nat}{d:D}(e:G[i]?=some (some (d,false)))(h:Q (d,.cl)):EvP (evE C (.var i) G) Q:=by
 rw [zGt];unfold varD;rw [e];exact ⟨_,rfl,h⟩
theorem zHr {i:Nat}{d:List D}{o:Bool}(e:G[i]?=some (some (.lst d,o)))(h:Q (.lst d,if o then .dt else .cl)):EvP (evE C (.var i) G) Q:=by
 rw [zGt];unfold varD;rw [e];cases o<;>exact ⟨_,rfl,h⟩
theorem zT5 {i:Nat}{d:List D}(e:G[i]?=some (some (.lst d,true)))(h:Q (.lst d,.dt)):EvP (evE C (.var i) G) Q:=by
 rw [zGt];unfold varD;rw [e];exact ⟨_,rfl,h⟩
theorem zMZ {i j:Nat}{a:E}{L:LamI}{dl:List D}{F:List D->Option R}(e:G[i]?=some (some (.lam j L dl,false)))(el:C.lm[j]?=some (L,F))(h:EvP (evE C a G) fun x=>x.2≠.dt/\EvP (F (x.1::dl)) fun r=>r.2≠.dt/\Q r):EvP (evE C (.callv i a) G) Q:=by
 obtain ⟨x,ex,nx,r,er,nr,q⟩:=h;refine ⟨r,?_,q⟩;show zGF C.lm i (evE C a) G=_;unfold zGF;rw [e];show ((evE C a G).bind fun x=>_)=_;rw [ex];show (if x.2=.dt then none else _)=_;rw [if_neg nx];have e3:lamF C.lm j L (x.1::dl)=some r:=by unfold lamF;rw [el];exact (if_pos rfl).trans er
 rw [e3];show (if r.2=.dt then none else some r)=_;rw [if_neg nr]
theorem zFF {n:Nat}{x:Str}{d:D}(e:C.cs[n]?=some (x,d))(h:Q (d,.cl)):EvP (evE C (.glob n x) G) Q:=by
 rw [zMk];unfold zF4;rw [e];exact ⟨_,if_pos rfl,h⟩
theorem zAa {i:Int}(h:Q (.int i,.cl)):EvP (evE C (.int i) G) Q:=⟨_,rfl,h⟩
theorem zSW {b:Bool}(h:Q (.bl b,.cl)):EvP (evE C (.bl b) G) Q:=⟨_,rfl,h⟩
theorem zNz (h:Q (.non,.cl)):EvP (evE C .non G) Q:=⟨_,rfl,h⟩
theorem zF7 {f g:Dst->Option R}{o:D->D->Option R}(h:EvP (f G) fun x=>EvP (g G) fun y=>EvP (o x.1 y.1) Q):EvP (two f g o G) Q:=EvP.bind (h.imp fun _ q=>EvP.bind q)
theorem zBY {op:Operator}{a b:E}(h:EvP (evE C a G) fun x=>EvP (evE C b G) fun y=>EvP (binD op x.1 y.1) Q):EvP (evE C (.bin op a b) G) Q:=zF7 h
theorem zBX {op:CmpOp}{a b:E}(h:EvP (evE C a G) fun x=>EvP (evE C b G) fun y=>EvP (cmpD op x.1 y.1) Q):EvP (evE C (.cmp op a b) G) Q:=zF7 h
theorem zA6 {a b:E}(h:EvP (evE C a G) fun x=>EvP (evE C b G) fun y=>EvP (ixD x.1 y.1) Q):EvP (evE C (.ix a b) G) Q:=zF7 h
theorem zST {a b:E}(h:EvP (evE C a G) fun x=>EvP (evE C b G) fun y=>EvP (maxD x.1 y.1) Q):EvP (evE C (.max a b) G) Q:=zF7 h
theorem zKa {a b:E}(h:EvP (evE C a G) fun x=>EvP (evE C b G) fun y=>EvP (zipD x.1 y.1) Q):EvP (evE C (.lzip a b) G) Q:=zF7 h
theorem zS7 {xs ys:List D}(l:xs.length=ys.length/\xs.length<=10000)(h:Q (.lst (zipT xs ys),.fr)):EvP (zipD (.lst xs) (.lst ys)) Q:=⟨_,if_pos l,h⟩
theorem zF8 {f:Dst->Option R}{o:D->Option R}(h:EvP (f G) fun x=>EvP (o x.1) Q):EvP (one f o G) Q:=EvP.bind h
theorem zBF {a:E}(h:EvP (evE C a G) fun x=>EvP (lenD x.1) Q):EvP (evE C (.len a) G) Q:=zF8 h
theorem zSX {a:E}(h:EvP (evE C a G) fun x=>EvP (absD x.1) Q):EvP (evE C (.abs a) G) Q:=zF8 h
theorem zGs {a:E}(h:EvP (evE C a G) fun x=>EvP (zIY x.1) Q):EvP (evE C (.list a) G) Q:=zF8 h
theorem zEA {t:Ty}{a:E}(h:EvP (evE C a G) fun x=>EvP (isiF t x.1) Q):EvP (evE C (.isi t a) G) Q:=zF8 h
theorem zTh {i:Int}(h:Q (.bl true,.cl)):EvP (isiF .int (.int i)) Q:=⟨_,rfl,h⟩
theorem zTi {i:Int}(h:Q (.bl false,.cl)):EvP (isiF .bool (.int i)) Q:=⟨_,rfl,h⟩
theorem zKA {ds:List D}(h:Q (.bl true,.cl)):EvP (isiF .list (.lst ds)) Q:=⟨_,rfl,h⟩
theorem zN0 {a:E}(h:EvP (evE C a G) fun x=>∃ i,x.1=.int i/\Q (.int (-i),.cl)):EvP (evE C (.neg a) G) Q:=by
 obtain ⟨⟨d,k⟩,e,i,ei,q⟩:=h;cases ei;rw [zQE];unfold negD;rw [e];exact ⟨_,rfl,q⟩
theorem zEI {f:Dst->Option R}{b:Bool}{k:Kd}(e:f G=some (.bl b,k)):asB f G=some b:=by unfold asB;rw [e]
theorem zBe {a:E}(h:EvP (evE C a G) fun x=>∃ b,x.1=.bl b/\Q (.bl (!b),.cl)):EvP (evE C (.not a) G) Q:=by
 obtain ⟨⟨d,k⟩,e,b,eb,q⟩:=h;cases eb;rw [zQD];unfold notD;rw [zEI e];exact ⟨_,rfl,q⟩
theorem zP1 {es:E}(h:EvP (evAnd C es G) Q):EvP (evE C (.andl es) G) Q:=h
theorem zDY {es:E}(h:EvP (evOr C es G) Q):EvP (evE C (.orl es) G) Q:=h
theorem zFG {e:E}(h:EvP (evE C e G) Q):EvP (evAnd C (.cons e .nil) G) Q:=h
theorem zDZ {e:E}(h:EvP (evE C e G) Q):EvP (evOr C (.cons e .nil) G) Q:=h
theorem zP2 {e a b:E}(h:EvP (evE C e G) fun x=>∃ k,x.1=.bl k/\CB k (EvP (evAnd C (.cons a b) G) Q) (Q (.bl false,.cl))):EvP (evAnd C (.cons e (.cons a b)) G) Q:=by
 obtain ⟨⟨d,kd⟩,e,k,ek,q⟩:=h;cases ek;rw [zGu];unfold andD;rw [zEI e];cases k with
 | true=>exact q
 | false=>exact ⟨_,rfl,by unfold CB at q;rw [if_neg Bool.false_ne_true] at q;exact q⟩
theorem zDB {e a b:E}(h:EvP (evE C e G) fun x=>∃ k,x.1=.bl k/\CB k (Q (.bl true,.cl)) (EvP (evOr C (.cons a b) G) Q)):EvP (evOr C (.cons e (.cons a b)) G) Q:=by
 obtain ⟨⟨d,kd⟩,e,k,ek,q⟩:=h;cases ek;rw [zIh];unfold orD;rw [zEI e];cases k with
 | true=>exact ⟨_,rfl,q⟩
 | false =>
  unfold CB at q;rw [if_neg Bool.false_ne_true] at q;obtain ⟨z,e2,q⟩:=q;exact ⟨z,e2,q⟩
theorem zN1 {c a b:E}(h:EvP (evE C c G) fun x=>∃ k,x.1=.bl k/\CB k (EvP (evE C a G) Q) (EvP (evE C b G) Q)):EvP (evE C (.ite c a b) G) Q:=by
 obtain ⟨⟨d,kd⟩,e,k,ek,q⟩:=h;cases ek;rw [zQG];unfold iteD;rw [zEI e];cases k with
 | true=>exact q
 | false =>
  unfold CB at q;rw [if_neg Bool.false_ne_true] at q;exact q
theorem zAo {Q:List D->Prop}(h:Q []):EvP (evEs C .nil G) Q:=⟨_,rfl,h⟩
theorem zAF {e es:E}{Q:List D->Prop}(h:EvP (evE C e G) fun x=>x.2≠.dt/\EvP (evEs C es G) fun xs=>Q (x.1::xs)):EvP (evEs C (.cons e es) G) Q:=by
 rw [zKh];obtain ⟨x,e,nd,xs,e2,q⟩:=h;exact ⟨_,by unfold zMt;rw [e];show (if x.2=.dt then none else _)=_;rw [if_neg nd,e2];rfl,q⟩
theorem zDX {es:E}(h:EvP (evEs C es G) fun xs=>xs.length<=10000/\Q (.tup xs,.cl)):EvP (evE C (.tup es) G) Q:=by
 rw [zQC];obtain ⟨xs,e,l,q⟩:=h;exact ⟨_,by unfold tupD;rw [e];exact if_pos l,q⟩
theorem zSU {es:E}(h:EvP (evEs C es G) fun xs=>xs.length<=10000/\Q (.lst xs,.fr)):EvP (evE C (.lst es) G) Q:=by
 rw [zQF];obtain ⟨xs,e,l,q⟩:=h;exact ⟨_,by unfold lstD;rw [e];exact if_pos l,q⟩
theorem zAS {n:Nat}{f:Str}{es:E}{F:List D->Option R}(e:C.fns[n]?=some (f,F))(h:EvP (evEs C es G) fun ds=>EvP (F ds) fun r=>r.2≠.dt/\Q r):EvP (evE C (.call n f es) G) Q:=by
 rw [zMl];unfold fnD;rw [e];obtain ⟨ds,e1,r,e2,nd,q⟩:=h;refine ⟨r,?_,q⟩;show (if f=f then zG3 F _ G else none)=some r;rw [if_pos rfl];unfold zG3;rw [e1];show (F ds).bind _=_;rw [e2];exact if_neg nd
theorem zPz {a lo hi:E}(h:EvP (evE C a G) fun x=>EvP (evO C lo G) fun l=>EvP (evO C hi G) fun u=>∃ ds,x.1=.lst ds/\Q (.lst (cutD ds l u),.fr)):EvP (evE C (.sl a lo hi) G) Q:=by
 rw [zSc];obtain ⟨⟨d,k⟩,e,l,e1,u,e2,ds,ed,q⟩:=h;cases ed;exact ⟨_,by unfold slD;rw [e];show (evO C lo G).bind _=_;rw [e1];show (evO C hi G).bind _=_;rw [e2];rfl,q⟩
theorem zSf {Q:Option Int->Prop}(h:Q none):EvP (evO C .nil G) Q:=⟨_,rfl,h⟩
theorem zQI {e b:E}{Q:Option Int->Prop}(h:EvP (evE C e G) fun x=>∃ i,x.1=.int i/\Q (some i)):EvP (evO C (.cons e b) G) Q:=by
 rw [zMf];obtain ⟨⟨d,k⟩,e,i,ei,q⟩:=h;cases ei;exact ⟨_,by unfold zJU;rw [e],q⟩
theorem zK9 {i j:Int}(h:Q (.int (i+j),.cl)):EvP (binD .Add (.int i) (.int j)) Q:=⟨_,rfl,h⟩
theorem zM0 {xs ys:List D}(l:xs.length+ys.length<=10000)(h:Q (.lst (xs++ys),.fr)):EvP (binD .Add (.lst xs) (.lst ys)) Q:=⟨_,if_pos l,h⟩
theorem zIk {i j:Int}(h:Q (.int (i - j),.cl)):EvP (binD .Sub (.int i) (.int j)) Q:=⟨_,rfl,h⟩
theorem zBI {i j:Int}(l:IntMulOk i j)(h:Q (.int (i*j),.cl)):EvP (binD .Mult (.int i) (.int j)) Q:=⟨_,by show mulD i j=_;unfold mulD;exact if_pos l,h⟩
theorem zDQ {i j:Int}(l:zIp i j)(h:Q (.int (i.fdiv j),.cl)):EvP (binD .FloorDiv (.int i) (.int j)) Q:=⟨_,by show zMY i j=_;unfold zMY;exact if_pos l,h⟩
theorem zCd {i j:Int}(l:j≠0)(h:Q (.int (i.fmod j),.cl)):EvP (binD .Mod (.int i) (.int j)) Q:=⟨_,if_neg l,h⟩
theorem zSy {i j:Int}(l:0<=j/\j<=1000000/\i.natAbs < 2^64)(h:Q (.int (i^j.toNat),.cl)):EvP (binD .Pow (.int i) (.int j)) Q:=⟨_,if_pos l,h⟩
theorem c_lt {i j:Int}(h:Q (.bl (decide (i < j)),.cl)):EvP (cmpD .Lt (.int i) (.int j)) Q:=⟨_,rfl,h⟩
theorem c_le {i j:Int}(h:Q (.bl (decide (i<=j)),.cl)):EvP (cmpD .LtE (.int i) (.int j)) Q:=⟨_,rfl,h⟩
theorem c_gt {i j:Int}(h:Q (.bl (decide (j < i)),.cl)):EvP (cmpD .Gt (.int i) (.int j)) Q:=⟨_,rfl,h⟩
theorem zHw (i j:Int):EqOk (.int i) (.int j):=⟨by rw [toPy];rfl,by rw [toPy];rfl,by rw [toPy];exact zero_le _⟩
theorem zKm (i j:Int):eqb (.int i) (.int j)=decide (i=j):=by
 unfold eqb;rw [toPy,toPy];show (i==j)=decide (i=j);by_cases h:i=j<;>simp [h]
theorem zUB {i j:Int}(h:Q (.bl (decide (i=j)),.cl)):EvP (cmpD .Eq (.int i) (.int j)) Q:=⟨_,by show eqD id _ _=_;unfold eqD;rw [if_pos (zHw i j),zKm];rfl,h⟩
theorem zG4 {i j:Int}(h:Q (.bl (!decide (i=j)),.cl)):EvP (cmpD .NotEq (.int i) (.int j)) Q:=⟨_,by show eqD _ _ _=_;unfold eqD;rw [if_pos (zHw i j),zKm],h⟩
theorem c_eq {x y:D}(l:EqOk x y)(h:Q (.bl (eqb x y),.cl)):EvP (cmpD .Eq x y) Q:=⟨_,by show eqD id _ _=_;unfold eqD;exact if_pos l,h⟩
theorem c_ne {x y:D}(l:EqOk x y)(h:Q (.bl (!eqb x y),.cl)):EvP (cmpD .NotEq x y) Q:=⟨_,by show eqD _ _ _=_;unfold eqD;exact if_pos l,h⟩
theorem zDL {ds:List D}{i:Int}{d:D}(e:atI ds i=some d)(h:Q (d,.cl)):EvP (ixD (.tup ds) (.int i)) Q:=⟨_,by show (atI ds i).map _=_;rw [e];rfl,h⟩
theorem zAz {ds:List D}{i:Int}{d:D}(e:atI ds i=some d)(h:Q (d,.cl)):EvP (ixD (.lst ds) (.int i)) Q:=⟨_,by show (atI ds i).map _=_;rw [e];rfl,h⟩
theorem zEO {ds:List D}(h:Q (.int ds.length,.cl)):EvP (lenD (.lst ds)) Q:=⟨_,rfl,h⟩
theorem zMD {ds:List D}(h:Q (.int ds.length,.cl)):EvP (lenD (.tup ds)) Q:=⟨_,rfl,h⟩
theorem zUE {i:Int}(h:Q (.int (i.natAbs:Int),.cl)):EvP (absD (.int i)) Q:=⟨_,rfl,by
 have e:(if i < 0 then -i else i)=(i.natAbs:Int):=by split<;>omega
 rw [e];exact h⟩
theorem zNF {ds:List D}(h:Q (.lst ds,.fr)):EvP (zIY (.lst ds)) Q:=⟨_,rfl,h⟩
theorem zTZ {i j:Int}(h:Q (.int (max i j),.cl)):EvP (maxD (.int i) (.int j)) Q:=⟨_,rfl,by
 have e:(if j>i then j else i)=max i j:=by split<;>omega
 rw [e];exact h⟩
end
section
variable {C:Gm}{G:Dst}{Q:Out->Prop}
def Kt (C:Gm)(rest:S)(Q:Out->Prop):Out->Prop
 | .nx G'=>EvP (evSs C rest G') Q
 | o=>Q o
theorem k_nx {rest:S}(h:EvP (evSs C rest G) Q):Kt C rest Q (.nx G):=h
theorem k_rt {rest:S}{r:R}(h:Q (.rt r)):Kt C rest Q (.rt r):=h
theorem zAw (h:Q (.nx G)):EvP (evSs C .nil G) Q:=⟨_,rfl,h⟩
theorem zKY {f g:Dst->Option Out}(h:EvP (f G) fun o=>match o with | .nx G'=>EvP (g G') Q | o=>Q o):EvP (seqD f g G) Q:=by
 obtain ⟨o,e,q⟩:=h;unfold seqD;rw [e];cases o with
 | nx G'=>exact q
 | rt r=>exact ⟨_,rfl,q⟩
 | bk G'=>exact ⟨_,rfl,q⟩
 | ct G'=>exact ⟨_,rfl,q⟩
theorem zAE {a b:S}(h:EvP (evS C a G) (Kt C b Q)):EvP (evSs C (.cons a b) G) Q:=by
 rw [zKc];refine zKY (h.imp fun o q=>?_);cases o<;>exact q
theorem zHq {i:Nat}{r:S}{d:D}(e:G[i]?=some (some (d,true)))(h:EvP (evSs C r (G.set i (some (d,false)))) Q):EvP (evSs C (.frz i r) G) Q:=by
 rw [zHt];exact zKY ⟨_,by unfold frzD;rw [e],h⟩
theorem zKZ {i:Nat}{r:S}{d:D}(e:G[i]?=some (some (d,false)))(h:EvP (evSs C r G) Q):EvP (evSs C (.frz i r) G) Q:=by
 rw [zHt];exact zKY ⟨_,by unfold frzD;rw [e],h⟩
def ownK:Kd->Option Bool
 | .cl=>some false
 | .fr=>some true
 | .dt=>none
theorem zEc {i:Nat}{e:E}(h:EvP (evE C e G) fun r=>∃ o,ownK r.2=some o/\Q (.nx (G.set i (some (r.1,o))))):EvP (evS C (.set i e) G) Q:=by
 rw [zP4];obtain ⟨⟨d,k⟩,e,o,eo,q⟩:=h;unfold setD;rw [e];cases k with
 | cl=>cases eo;exact ⟨_,rfl,q⟩
 | fr=>cases eo;exact ⟨_,rfl,q⟩
 | dt=>cases eo
theorem zGv {i:Nat}{e:E}(h:EvP (evE C e G) fun r=>∃ o,ownK r.2=some o/\Q (.nx (G.set i (some (r.1,o))))):EvP (evS C (.setC i e) G) Q:=by
 rw [zMe];obtain ⟨⟨d,k⟩,e,o,eo,q⟩:=h;unfold setD;rw [e];cases k with
 | cl=>cases eo;exact ⟨_,rfl,q⟩
 | fr=>cases eo;exact ⟨_,rfl,q⟩
 | dt=>cases eo
theorem zF9 {i:Nat}{e:E}{xs:List D}(hx:G[i]?=some (some (.lst xs,true)))(hl:xs.length<=10000)(h:EvP (evE C e G) fun r=>r.2≠.dt/\Q (.nx (G.set i (some (.lst (xs++[r.1]),true))))):EvP (evS C (.app i e) G) Q:=by
 rw [zP8];obtain ⟨r,e,nd,q⟩:=h;unfold appD;rw [hx];exact ⟨_,by dsimp only;rw [e];show (if r.2=.dt then none else _)=_;rw [if_neg nd,if_pos hl],q⟩
theorem zCi {c:E}{a b:S}(h:EvP (evE C c G) fun x=>∃ k,x.1=.bl k/\CB k (EvP (evSs C a G) Q) (EvP (evSs C b G) Q)):EvP (evS C (.ife c a b) G) Q:=by
 rw [zP6];obtain ⟨⟨d,kd⟩,e,k,ek,q⟩:=h;cases ek;unfold ifD;rw [zEI e];cases k with
 | true=>exact q
 | false =>
  unfold CB at q;rw [if_neg Bool.false_ne_true] at q;exact q
theorem zCO {e:E}(h:EvP (evE C e G) fun r=>r.2≠.dt/\Q (.rt r)):EvP (evS C (.ret e) G) Q:=by
 rw [zP5];obtain ⟨r,e,nd,q⟩:=h;exact ⟨_,by unfold retD;rw [e];exact if_neg nd,q⟩
theorem zKk {i:Nat}{d:List D}(e:G[i]?=some (some (.lst d,true)))(h:Q (.rt (.lst d,.fr))):EvP (evS C (.retOwn i) G) Q:=by
 rw [zIg];exact ⟨_,by unfold zDr;rw [e],h⟩
theorem zCF {c:Dst->Option Bool}{b:Dst->Option Out}(h:EvP (c G) fun k=>CB k (EvP (b G) fun o=>match o with
      | .nx G'=>EvP (zBS c b G') Q
      | .ct G'=>EvP (zBS c b G') Q
      | .bk G'=>Q (.nx G')
      | .rt r=>Q (.rt r)) (Q (.nx G))):EvP (zBS c b G) Q:=by
  obtain ⟨k,ek,q⟩:=h;cases k with
  | false =>
    unfold CB at q;rw [if_neg Bool.false_ne_true] at q;refine ⟨_,zCE (n:=1) (o:=.nx G) ?_,q⟩;show (c G).bind _=_;rw [ek];rfl
  | true =>
    obtain ⟨o,eo,q⟩:EvP (b G) _:=q;cases o with
    | nx G' =>
      obtain ⟨z,ez,q⟩:=q;obtain ⟨n,en⟩:=zDD ez;refine ⟨z,zCE (n:=n+1) ?_,q⟩;show (c G).bind _=_;rw [ek,Option.bind_some,if_pos rfl,eo];exact en
    | ct G' =>
      obtain ⟨z,ez,q⟩:=q;obtain ⟨n,en⟩:=zDD ez;refine ⟨z,zCE (n:=n+1) ?_,q⟩;show (c G).bind _=_;rw [ek,Option.bind_some,if_pos rfl,eo];exact en
    | bk G' =>
      refine ⟨_,zCE (n:=1) (o:=.nx G') ?_,q⟩;show (c G).bind _=_;rw [ek,Option.bind_some,if_pos rfl,eo];rfl
    | rt r =>
      refine ⟨_,zCE (n:=1) (o:=.rt r) ?_,q⟩;show (c G).bind _=_;rw [ek,Option.bind_some,if_pos rfl,eo];rfl
theorem zN2 {c:E}{b:S}(h:EvP (zBS (asB (evE C c)) (evSs C b) G) Q):EvP (evS C (.whl c b) G) Q:=h
theorem as_b {c:E}{Q:Bool->Prop}(h:EvP (evE C c G) fun x=>∃ k,x.1=.bl k/\Q k):EvP (asB (evE C c) G) Q:=by
 obtain ⟨⟨d,kd⟩,e,k,ek,q⟩:=h;cases ek;exact ⟨k,zEI e,q⟩
theorem zB3 {i:Nat}{it:E}{b:S}(h:EvP (evI C it G) fun xs=>EvP (forD (tg1 i) (evSs C b) xs G) Q):EvP (evS C (.for1 i it b) G) Q:=EvP.bind h
theorem zEv {e:E}{Q:List D->Prop}(h:EvP (evE C e G) fun x=>∃ ds,x.2≠.dt/\(x.1=.lst ds\/x=(.tup ds,.cl))/\Q ds):EvP (evI C (.it e) G) Q:=by
 obtain ⟨⟨d,k⟩,e,ds,nd,ed,q⟩:=h;refine ⟨ds,?_,q⟩;rw [zSb];unfold zF1;rw [e];rcases ed with ed | ed
 .cases ed;cases k with
  | cl=>rfl
  | fr=>rfl
  | dt=>exact absurd rfl nd
 .cases ed;rfl
theorem w_cl {ds:List D}{P:List D->Prop}(h:P ds):∃ d,((D.lst ds,Kd.cl):R).2≠.dt/\(((D.lst ds,Kd.cl):R).1=.lst d\/((D.lst ds,Kd.cl):R)=(.tup d,.cl))/\P d:=⟨ds,(fun z=>nomatch z),.inl rfl,h⟩
theorem w_fr {ds:List D}{P:List D->Prop}(h:P ds):∃ d,((D.lst ds,Kd.fr):R).2≠.dt/\(((D.lst ds,Kd.fr):R).1=.lst d\/((D.lst ds,Kd.fr):R)=(.tup d,.cl))/\P d:=⟨ds,(fun z=>nomatch z),.inl rfl,h⟩
theorem zIK {a:E}{Q:List D->Prop}(h:EvP (evE C a G) fun x=>∃ j,x.1=.int j/\(-(2^62)<=j/\j < 2^62)/\Q (rngL 0 j.toNat)):EvP (evI C (.r1 a) G) Q:=by
 obtain ⟨⟨d,k⟩,e,j,ej,hj,q⟩:=h;cases ej;refine ⟨_,?_,q⟩;rw [zSa];unfold zJD;rw [e];exact if_pos hj
theorem zQm {a b c:E}{Q:List D->Prop}(h:EvP (evE C a G) fun x=>EvP (evE C b G) fun y=>EvP (evE C c G) fun z=>∃ i j k,x.1=.int i/\y.1=.int j/\z.1=.int k/\ROk i j k/\Q (rngS i k (Builtin.Range.rangeSize i j k).toNat)):EvP (evI C (.r3 a b c) G) Q:=by
 obtain ⟨⟨d,k⟩,e,⟨d2,k2⟩,e2,⟨d3,k3⟩,e3,i,j,l,ei,ej,el,hj,q⟩:=h;cases ei;cases ej;cases el;refine ⟨_,?_,q⟩;rw [zSZ];unfold zJC;rw [e,e2,e3];exact if_pos hj
theorem zDC {n:Nat}{ms:List Nat}{x:Str}{src c el:E}{Q:R->Prop}(h:EvP (evI C src G) fun zs=>zs.length<=10000/\EvP (zBb (tg1 n) (evC C c) (evE C el) zs (mask none ms G++[none])) fun ys=>Q (.lst ys,.fr)):EvP (evE C (.comp1 n ms x src c el) G) Q:=by
 obtain ⟨zs,e,hl,ys,e2,q⟩:=h;refine ⟨_,?_,q⟩;rw [zKj];unfold zFN;rw [e];show (if zs.length<=10000 then _ else _)=_;rw [if_pos hl];show (zBb _ _ _ zs (mask none ms G++[none])).bind _=_;rw [e2]
 rfl
theorem zEe {n:Nat}{el:E}{base:Dst}{Q:List D->Prop}(hn:base.length=n)(g:D->D):∀ (zs:List D) (o:Option (D×Bool)),(∀ z∈zs,EvP (evE C el (base++[some (z,false)])) fun r=>r.2≠.dt/\r.1=g z)->Q (zs.map g)->EvP (zBb (tg1 n) (evC C .nil) (evE C el) zs (base++[o])) Q
 | [],o,_,h=>⟨_,rfl,h⟩
 | z::zs,o,hz,h=>by
  obtain ⟨r,e,nd,er⟩:=hz z mem_cons_self;obtain ⟨ys,e2,q⟩:=zEe hn g zs (some (z,false)) (Q:=fun ys=>Q (g z::ys)) (fun y hy=>hz y (mem_cons_of_mem _ hy)) h;refine ⟨_,?_,q⟩;have es:(base++[o]).set n (some (z,false))=base++[some (z,false)]:=by
   rw [set_append_right _ _ (by omega),hn,sub_self];rfl
  show (tg1 n z (base++[o])).bind _=_;unfold tg1;rw [es,Option.bind_some,zDO,Option.bind_some,if_pos rfl,e,Option.bind_some,if_neg nd,er];show (zBb _ _ _ zs (base++[some (z,false)])).bind _=_;unfold tg1 at e2;rw [zDO] at e2;rw [e2]
  rfl
theorem zNx {t:D->Dst->Option Dst}{b:Dst->Option Out}(h:Q (.nx G)):EvP (forD t b [] G) Q:=⟨_,rfl,h⟩
def Kf (t:D->Dst->Option Dst)(b:Dst->Option Out)(xs:List D)(Q:Out->Prop):Out->Prop
 | .nx G'=>EvP (forD t b xs G') Q
 | .ct G'=>EvP (forD t b xs G') Q
 | .bk G'=>Q (.nx G')
 | .rt r=>Q (.rt r)
theorem zKW {t:D->Dst->Option Dst}{b:Dst->Option Out}{x:D}{xs:List D}{O3:Dst}(e:t x G=some O3)(h:EvP (b O3) (Kf t b xs Q)):EvP (forD t b (x::xs) G) Q:=by
 obtain ⟨o,eo,q⟩:=h;cases o with
 | nx G' =>
  obtain ⟨z,ez,q⟩:EvP (forD t b xs G') Q:=q;exact ⟨z,by show (t x G).bind _=_;rw [e];show (b O3).bind _=_;rw [eo];exact ez,q⟩
 | ct G' =>
  obtain ⟨z,ez,q⟩:EvP (forD t b xs G') Q:=q;exact ⟨z,by show (t x G).bind _=_;rw [e];show (b O3).bind _=_;rw [eo];exact ez,q⟩
 | bk G'=>exact ⟨_,by show (t x G).bind _=_;rw [e];show (b O3).bind _=_;rw [eo];rfl,q⟩
 | rt r=>exact ⟨_,by show (t x G).bind _=_;rw [e];show (b O3).bind _=_;rw [eo];rfl,q⟩
theorem zCB {t:D->Dst->Option Dst}{b:Dst->Option Out}(I:List D->Dst->Prop)(hs:∀ (x:D) (xs:List D) (G:Dst),I (x::xs) G->∃ O3,t x G=some O3/\EvP (b O3) fun o=>match o with
   | .nx G'=>I xs G'
   | .ct G'=>I xs G'
   | .bk G'=>Q (.nx G')
   | .rt r=>Q (.rt r)) (hd:∀ G,I [] G->Q (.nx G)):∀ (xs:List D) (G:Dst),I xs G->EvP (forD t b xs G) Q
 | [],G,h=>zNx (hd G h)
 | x::xs,G,h=>by
  obtain ⟨O3,e,q⟩:=hs x xs G h;refine zKW e (q.imp fun o z=>?_);cases o with
  | nx G'=>exact zCB I hs hd xs G' z
  | ct G'=>exact zCB I hs hd xs G' z
  | bk G'=>exact z
  | rt r=>exact z
def Kd' (Q:R->Prop):Out->Prop
 | .rt r=>Q r
 | .nx _=>Q (.non,.cl)
 | _=>False
theorem zT3 {np nN:Nat}{b:S}{ds:List D}{Q:R->Prop}(h1:ds.length=np)(h2:np<=nN)(h:EvP (evSs C b (ds.map (fun d=>some (d,false))++List.replicate (nN - np) none)) (Kd' Q)):EvP (dFun np nN (evSs C b) ds) Q:=by
 unfold dFun;rw [if_pos ⟨h1,h2⟩];obtain ⟨o,e,q⟩:=h;rw [e];cases o with
 | rt r=>exact ⟨_,rfl,q⟩
 | nx _=>exact ⟨_,rfl,q⟩
 | bk _=>exact q.elim
 | ct _=>exact q.elim
theorem zTe {Q:R->Prop}{r:R}(h:Q r):Kd' Q (.rt r):=h
end
section
variable {C:Gm}{G:Dst}{Q:R->Prop}
theorem zSV {op op':CmpOp}{a b c:E}(h:EvP (evE C a G) fun x=>EvP (evE C b G) fun y=>EvP (cmpD op x.1 y.1) fun r=>∃ k,r.1=.bl k/\CB k (EvP (evE C c G) fun z=>EvP (cmpD op' y.1 z.1) Q) (Q (.bl false,.cl))):EvP (evE C (.chn op op' a b c) G) Q:=by
 rw [zQH];obtain ⟨x,ex,y,ey,⟨d,kd⟩,er,k,ek,q⟩:=h;cases ek;unfold chD;rw [ex];show EvP ((evE C b G).bind _) Q;rw [ey];show EvP (match cmpD op x.1 y.1 with | some (.bl true,_)=>(evE C c G).bind fun z=>cmpD op' y.1 z.1 | some (.bl false,_)=>some (.bl false,.cl) | _=>none) Q;rw [er];cases k with
 | true=>exact EvP.bind q
 | false=>unfold CB at q;rw [if_neg Bool.false_ne_true] at q;exact ⟨_,rfl,q⟩
end
theorem zSd {C:Gm}{G:Dst}{Q:Out->Prop}{i:Nat}{e:E}{xs:List D}(ei:G[i]?=some (some (.lst xs,true)))(h:EvP (evE C e G) fun r=>∃ ys,r=(.lst ys,.fr)/\xs.length+ys.length<=10000/\Q (.nx (G.set i (some (.lst (xs++ys),true))))):EvP (evS C (.ext i e) G) Q:=by
 rw [zP7];obtain ⟨r,e1,ys,rfl,hl,q⟩:=h;refine ⟨_,?_,q⟩;unfold extD;rw [ei];show (evE C e G).bind _=_;rw [e1];exact if_pos hl
theorem zP0 {C:Gm}{G:Dst}{Q:R->Prop}{a:E}(h:EvP (evE C a G) fun x=>∃ xs,x.1=.lst xs/\xs.length<=10000/\Q (.lst xs.reverse,.fr)):EvP (evE C (.lrev a) G) Q:=by
 rw [zMj];obtain ⟨x,e,xs,e1,hl,q⟩:=h;refine zF8 ⟨x,e,_,?_,q⟩;rw [e1];exact if_pos hl
end DL
end
section
namespace DM
def msr (t b:Int):Int:=if b < 0 then -(Int.gcd t b:Int) else (Int.gcd t b:Int)
theorem zRW {t b:Int}(hb:b≠0):msr t b≠0:=by
 unfold msr;have h:Int.gcd t b≠0:=fun h=>hb ((Int.gcd_eq_zero_iff).mp h).2
 split<;>omega
theorem zFw (t b:Int):msr t b∣t:=by
 unfold msr;split
 .exact Int.neg_dvd.mpr (Int.gcd_dvd_left ..)
 .exact Int.gcd_dvd_left ..
theorem zJr (t b:Int):msr t b∣b:=by
 unfold msr;split
 .exact Int.neg_dvd.mpr (Int.gcd_dvd_right ..)
 .exact Int.gcd_dvd_right ..
theorem zCt {a b:Int}(h:b∣a):a.fdiv b=a / b:=by
 exact Int.fdiv_eq_ediv_of_dvd h
theorem zJq {t b:Int}(hb:b≠0):t.fdiv (msr t b)=(Rat.divInt t b).num:=by
 rw [zCt (zFw t b),Rat.num_divInt];rw [Int.gcd_comm b t];unfold msr;by_cases h:b < 0
 .rw [if_pos h,Int.sign_eq_neg_one_of_neg h,Int.ediv_neg,Int.neg_one_mul];rw [Int.neg_ediv_of_dvd (Int.gcd_dvd_left ..)]
 .rw [if_neg h,Int.sign_eq_one_of_pos (by omega),Int.one_mul]
theorem zO9 {t b:Int}(hb:b≠0):b.fdiv (msr t b)=((Rat.divInt t b).den:Int):=by
 rw [zCt (zJr t b),Rat.den_divInt,if_neg hb,Int.gcd_comm b t];unfold msr;rw [Int.natCast_ediv];by_cases h:b < 0
 .rw [if_pos h,Int.ediv_neg,<- Int.neg_ediv_of_dvd (Int.gcd_dvd_right ..)];congr 1;omega
 .rw [if_neg h];congr 1;omega
theorem zSn (t b:Int)(hb:b≠0):(Rat.divInt t b).den<=b.natAbs:=by
 rw [Rat.den_divInt,if_neg hb];exact Nat.div_le_self _ _
theorem zRT (t b:Int)(hb:b≠0):(Rat.divInt t b).num.natAbs<=t.natAbs:=by
 rw [<- zJq hb,zCt (zFw t b)];exact Int.natAbs_ediv_le_natAbs _ _
theorem zGn (q:Rat):Int.gcd q.num (q.den:Int)=1:=by
 have:=q.reduced;exact this
theorem zMU {a b:Int}(ha:0<=a)(hb:0 < b):Int.gcd b (a.fmod b)=Int.gcd a b:=by
 rw [Int.fmod_eq_emod_of_nonneg a (by omega)];have h1:(a%b).natAbs=a.natAbs%b.natAbs:=by
  have:a%b=((a.natAbs%b.natAbs:Nat):Int):=by
   rw [Int.natCast_emod];congr 1<;>omega
  rw [this];rfl
 show Nat.gcd b.natAbs (a%b).natAbs=Nat.gcd a.natAbs b.natAbs;rw [h1,Nat.gcd_comm b.natAbs,<- Nat.gcd_rec,Nat.gcd_comm]
def nadd:List Rat->List Rat
 | a::b::r=>(a+b)::nadd r
 | l=>l
def sumR:List Rat->Rat
 | []=>0
 | a::r=>a+sumR r
theorem zCw:∀ l m:List Rat,sumR (l++m)=sumR l+sumR m
 | [],m=>by simp [sumR,Rat.zero_add]
 | a::l,m=>by simp only [cons_append,sumR,zCw l m,Rat.add_assoc]
theorem zHe:∀ l:List Rat,sumR (nadd l)=sumR l
 | []=>rfl
 | [_]=>rfl
 | a::b::r=>by simp only [nadd,sumR,zHe r,Rat.add_assoc]
theorem zHf:∀ l:List Rat,(nadd l).length=(l.length+1) / 2
 | []=>by simp [nadd]
 | [_]=>by simp [nadd]
 | a::b::r=>by simp only [nadd,length_cons,zHf r];omega
theorem zJm:∀ l:List Rat,(List.range (l.length / 2)).map (fun i=>l.getD (2*i) 0+l.getD (2*i+1) 0)++(if l.length%2=1 then [l.getD (l.length - 1) 0] else [])=nadd l
 | []=>by simp [nadd]
 | [a]=>by simp [nadd]
 | a::b::r=>by
  have e1:(a::b::r).length / 2=r.length / 2+1:=by simp only [length_cons];omega
  have e2:(a::b::r).length%2=r.length%2:=by simp only [length_cons];omega
  rw [e1,e2,List.range_succ_eq_map,map_cons,map_map,nadd,<- zJm r];have e3:((fun i=>(a::b::r).getD (2*i) 0+(a::b::r).getD (2*i+1) 0)∘Nat.succ)=fun i=>r.getD (2*i) 0+r.getD (2*i+1) 0:=by
   funext i;simp only [Function.comp];rw [show 2*(i.succ)=2*i+1+1 by omega];simp only [List.getD_cons_succ]
  rw [e3];have e4:r.length%2=1->(a::b::r).getD ((a::b::r).length - 1) 0=r.getD (r.length - 1) 0:=fun h=>by
   rw [show (a::b::r).length - 1=(r.length - 1)+1+1 by simp only [length_cons];omega];simp only [List.getD_cons_succ]
  by_cases h:r.length%2=1
  .rw [if_pos h,if_pos h,e4 h];rfl
  .rw [if_neg h,if_neg h];rfl
abbrev Pt:=Rat×Rat
def rot {U:Type}(ps:List U):List U:=ps.drop 1++ps.take 1
def zAi (ps:List Pt):List (Pt×Pt):=ps.zip (rot ps)
theorem zJB {U:Type}(ps:List U):(rot ps).length=ps.length:=by
 unfold rot;rw [length_append,length_drop,length_take];omega
theorem zFh (ps:List Pt):(zAi ps).length=ps.length:=by
 unfold zAi;rw [List.length_zip,zJB,Nat.min_self]
theorem zFg {ps:List Pt}{s:Pt×Pt}(h:s∈zAi ps):s.1∈ps/\s.2∈ps:=by
 unfold zAi at h;obtain ⟨h1,h2⟩:=of_mem_zip (a:=s.1) (b:=s.2) h;refine ⟨h1,?_⟩;unfold rot at h2;rcases mem_append.mp h2 with z | z
 .exact List.mem_of_mem_drop z
 .exact mem_of_mem_take z
abbrev Ln:=Rat×Rat×Rat
def hq (L:Ln)(p:Pt):Rat:=L.1*p.1+L.2.1*p.2 - L.2.2
def pw (x y t:Rat):Rat:=x+t*(y - x)
def zCc (L:Ln)(s:Pt×Pt):Pt:=(pw s.1.1 s.2.1 (hq L s.1 / (hq L s.1 - hq L s.2)),pw s.1.2 s.2.2 (hq L s.1 / (hq L s.1 - hq L s.2)))
def zAL (u v:Rat):Prop:=(0 < u/\v < 0)\/(u < 0/\0 < v)
noncomputable instance (u v:Rat):Decidable (zAL u v):=inferInstanceAs (Decidable (_\/_))
theorem zRZ {L:Ln}{s:Pt×Pt}(h:hq L s.1 - hq L s.2≠0):hq L (zCc L s)=0:=by
 have e:hq L (zCc L s)=hq L s.1+hq L s.1 / (hq L s.1 - hq L s.2)*(hq L s.2 - hq L s.1):=by
  unfold zCc pw;generalize hq L s.1 / (hq L s.1 - hq L s.2)=t;unfold hq;grind
 rw [e];generalize hq L s.1=u at *;generalize hq L s.2=v at *;have e2:u / (u - v)*(v - u)=-u:=by
  have:=Rat.mul_inv_cancel _ h;rw [Rat.div_def];grind
 rw [e2];grind
def path:List Pt->List (Pt×Pt)
 | a::b::r=>(a,b)::path (b::r)
 | _=>[]
theorem zDe (a b:Pt)(r:List Pt):path (a::b::r)=(a,b)::path (b::r):=by rw [path]
theorem zE5 (a:Pt):path [a]=[]:=by rw [path];intros;simp_all
theorem zHB:∀ (ps:List Pt) (x:Pt),ps.zip (ps.drop 1++[x])=path (ps++[x])
 | [],x=>by simp [zE5]
 | [a],x=>by
  simp only [drop_one,tail_cons,nil_append,zip_cons_cons,List.zip_nil_left,cons_append,zDe,zE5]
 | a::b::r,x=>by
  have ih:=zHB (b::r) x;simp only [drop_one,tail_cons,cons_append,zip_cons_cons,zDe] at ih ⊢;rw [ih]
theorem zIL (a:Pt)(r:List Pt):zAi (a::r)=path (a::r++[a]):=by
 have:=zHB (a::r) a;unfold zAi rot;simpa using this
theorem zQj (f:Pt->Rat):∀ (r:List Pt) (p z:Pt),sumR ((path (p::r++[z])).map fun s=>f s.2 - f s.1)=f z - f p
 | [],p,z=>by simp [zDe,zE5,sumR,Rat.add_zero]
 | q::r,p,z=>by
  have ih:=zQj f r q z;simp only [cons_append,zDe,map_cons,sumR] at ih ⊢;rw [ih];grind
theorem zGS (f:Pt->Rat)(ps:List Pt):sumR ((zAi ps).map fun s=>f s.2 - f s.1)=0:=by
 cases ps with
 | nil=>rfl
 | cons a r=>rw [zIL,zQj];grind
theorem zBB {U:Type}{f g:U->Rat}:∀ {l:List U},(∀ x∈l,f x=g x)->sumR (l.map f)=sumR (l.map g)
 | [],_=>rfl
 | x::l,h=>by
  rw [map_cons,map_cons,sumR,sumR,h x mem_cons_self,zBB fun y z=>h y (mem_cons_of_mem _ z)]
theorem zHK {U:Type}(f g:U->Rat):∀ l:List U,sumR (l.map fun x=>f x+g x)=sumR (l.map f)+sumR (l.map g)
 | []=>by simp [sumR,Rat.add_zero]
 | x::l=>by
  rw [map_cons,map_cons,map_cons,sumR,sumR,sumR,zHK f g l];grind
def ptAt (s:Pt×Pt)(t:Rat):Pt:=(pw s.1.1 s.2.1 t,pw s.1.2 s.2.2 t)
def tOf (a b:Rat)(n:Int):Rat:=((n:Rat) - a) / (b - a)
def upQ (a b:Rat)(last:Nat):List Int:=((List.range (last+1)).map Int.ofNat).filter fun n=>decide (a < (n:Rat))&&decide ((n:Rat) < b)
def zCb (a b:Rat)(last:Nat):List Int:=if b < a then (upQ b a last).reverse else upQ a b last
def tsQ (a b:Rat)(last:Nat):List Rat:=(zCb a b last).map (tOf a b)
abbrev Inc (l:List Rat):Prop:=l.Pairwise (· < ·)
theorem zCr {a b:Rat}{last:Nat}{n:Int}:n∈upQ a b last<->0<=n/\n<=last/\a < (n:Rat)/\(n:Rat) < b:=by
 unfold upQ;simp only [mem_filter,mem_map,mem_range,and_eq_true,decide_eq_true_eq];constructor
 .rintro ⟨⟨k,hk,rfl⟩,h1,h2⟩;exact ⟨Int.natCast_nonneg _,by show (k:Int)<=_;omega,h1,h2⟩
 .rintro ⟨h0,h1,h2,h3⟩;exact ⟨⟨n.toNat,by omega,by show ((n.toNat:Nat):Int)=n;omega⟩,h2,h3⟩
theorem zKD (m:Nat):((List.range m).map Int.ofNat).Pairwise (· < ·):=by
 rw [List.pairwise_map];refine List.Pairwise.imp ?_ List.pairwise_lt_range;intro a b h;show (a:Int) < (b:Int);omega
theorem zKB (a b:Rat)(last:Nat):(upQ a b last).Pairwise (· < ·):=(zKD _).sublist List.filter_sublist
theorem zC1 {a b:Rat}(h:a≠b)(n:Int):pw a b (tOf a b n)=n:=by
 unfold pw tOf;have hd:b - a≠0:=by grind
 have:=Rat.mul_inv_cancel _ hd;rw [Rat.div_def];grind
theorem zNG {a b t:Rat}(h:a≠b){n:Int}(e:pw a b t=n):t=tOf a b n:=by
 unfold tOf;unfold pw at e;have hd:b - a≠0:=by grind
 have:=Rat.mul_inv_cancel _ hd;rw [Rat.div_def];grind
theorem zEL {a b:Rat}(h:a < b){t u:Rat}:pw a b t < pw a b u<->t < u:=by
 unfold pw;have hd:0 < b - a:=by grind
 constructor
 .intro z;refine Rat.not_le.mp fun c=>?_
  have:=Rat.mul_le_mul_of_nonneg_right c (Rat.le_of_lt hd);grind
 .intro z;have:=Rat.mul_lt_mul_of_pos_right z hd;grind
theorem zEM {a b:Rat}(h:b < a){t u:Rat}:pw a b t < pw a b u<->u < t:=by
 unfold pw;have hd:0 < a - b:=by grind
 constructor
 .intro z;refine Rat.not_le.mp fun c=>?_
  have:=Rat.mul_le_mul_of_nonneg_right c (Rat.le_of_lt hd);grind
 .intro z;have:=Rat.mul_lt_mul_of_pos_right z hd;grind
theorem pw_0 (a b:Rat):pw a b 0=a:=by unfold pw;grind
theorem pw_1 (a b:Rat):pw a b 1=b:=by unfold pw;grind
theorem zKC (a b:Rat)(last:Nat):Inc (tsQ a b last):=by
 unfold tsQ zCb Inc;by_cases h:b < a
 .rw [if_pos h,List.pairwise_map,List.pairwise_reverse];refine List.Pairwise.imp ?_ (zKB b a last);intro m n hmn;have e1:=zC1 (show a≠b by grind) m;have e2:=zC1 (show a≠b by grind) n;refine (zEM h).mp ?_;rw [e1,e2]
  exact_mod_cast hmn
 .rw [if_neg h];by_cases e:a=b
  .subst e;have:upQ a a last=[]:=by
    rw [List.eq_nil_iff_forall_not_mem];intro n hn;obtain ⟨_,_,h1,h2⟩:=zCr.mp hn;grind
   rw [this];exact List.Pairwise.nil
  .have hlt:a < b:=by grind
   rw [List.pairwise_map];refine List.Pairwise.imp ?_ (zKB a b last);intro m n hmn;have e1:=zC1 e m;have e2:=zC1 e n;refine (zEL hlt).mp ?_;rw [e1,e2]
   exact_mod_cast hmn
def Meets (a b:Rat)(last:Nat)(t:Rat):Prop:=a≠b/\0 < t/\t < 1/\∃ n:Int,0<=n/\n<=last/\pw a b t=n
theorem zGj {a b:Rat}{last:Nat}{t:Rat}:t∈tsQ a b last<->Meets a b last t:=by
 unfold tsQ zCb Meets;by_cases h:b < a
 .rw [if_pos h];have ne:a≠b:=by grind
  simp only [mem_map,List.mem_reverse];constructor
  .rintro ⟨n,hn,rfl⟩;obtain ⟨h0,h1,h2,h3⟩:=zCr.mp hn;have e:=zC1 ne n;refine ⟨ne,(zEM h).mp ?_,(zEM h).mp ?_,n,h0,h1,e⟩
   .rw [e,pw_0];exact h3
   .rw [e,pw_1];exact h2
  .rintro ⟨_,t0,t1,n,h0,h1,e⟩;refine ⟨n,zCr.mpr ⟨h0,h1,?_,?_⟩,(zNG ne e).symm⟩
   .rw [<- e];have:=(zEM h (t:=1) (u:=t)).mpr t1;rw [pw_1] at this;exact this
   .rw [<- e];have:=(zEM h (t:=t) (u:=0)).mpr t0;rw [pw_0] at this;exact this
 .rw [if_neg h];by_cases ne:a=b
  .subst ne;constructor
   .intro hm;obtain ⟨n,hn,_⟩:=mem_map.mp hm;obtain ⟨_,_,h1,h2⟩:=zCr.mp hn;grind
   .rintro ⟨z,_⟩;exact absurd rfl z
  .have hlt:a < b:=by grind
   simp only [mem_map];constructor
   .rintro ⟨n,hn,rfl⟩;obtain ⟨h0,h1,h2,h3⟩:=zCr.mp hn;have e:=zC1 ne n;refine ⟨ne,(zEL hlt).mp ?_,(zEL hlt).mp ?_,n,h0,h1,e⟩
    .rw [e,pw_0];exact h2
    .rw [e,pw_1];exact h3
   .rintro ⟨_,t0,t1,n,h0,h1,e⟩;refine ⟨n,zCr.mpr ⟨h0,h1,?_,?_⟩,(zNG ne e).symm⟩
    .rw [<- e];have:=(zEL hlt (t:=0) (u:=t)).mpr t0;rw [pw_0] at this;exact this
    .rw [<- e];have:=(zEL hlt (t:=t) (u:=1)).mpr t1;rw [pw_1] at this;exact this
def zCj (t:Rat):List Rat->List Rat
 | []=>[]
 | u::us=>if u=t then us else u::us
theorem zBZ (t u:Rat)(us:List Rat):zCj t (u::us)=if u=t then us else u::us:=rfl
def zAy:List Rat->List Rat->List Rat
 | [],us=>us
 | t::ts,us=>us.takeWhile (fun u=>decide (u < t))++t::zAy ts (zCj t (us.dropWhile fun u=>decide (u < t)))
theorem zOL {t:Rat}{us:List Rat}{u:Rat}(h:u∈us.takeWhile fun u=>decide (u < t)):u < t:=by
 induction us with
 | nil=>simp at h
 | cons x us ih =>
  rw [takeWhile_cons] at h;by_cases c:x < t
  .rw [if_pos (by simpa using c)] at h;rcases mem_cons.mp h with rfl | h
   .exact c
   .exact ih h
  .rw [if_neg (by simpa using c)] at h;exact absurd h (by simp)
theorem zKo {t:Rat}:∀ {us:List Rat},Inc us->∀ u∈us.dropWhile (fun u=>decide (u < t)),t<=u
 | [],_,u,h=>by simp at h
 | x::us,hi,u,h=>by
  rw [List.dropWhile_cons] at h;by_cases c:x < t
  .rw [if_pos (by simpa using c)] at h;exact zKo (List.Pairwise.of_cons hi) u h
  .rw [if_neg (by simpa using c)] at h;have hx:t<=x:=Rat.not_lt.mp c;rcases mem_cons.mp h with rfl | h
   .exact hx
   .have:=rel_of_pairwise_cons hi h;exact Rat.le_trans hx (Rat.le_of_lt this)
theorem zDP (t:Rat)(us:List Rat):(zCj t us).Sublist us:=by
 cases us with
 | nil=>exact List.Sublist.refl _
 | cons u us =>
  rw [zBZ];split
  .exact List.sublist_cons_self _ _
  .exact List.Sublist.refl _
theorem zKp {t:Rat}{us:List Rat}(hi:Inc us)(h:∀ u∈us,t<=u):∀ u∈zCj t us,t < u:=by
 cases us with
 | nil=>intro u hu;simp [zCj] at hu
 | cons x us =>
  intro u hu;rw [zBZ] at hu;split at hu
  .rename_i e;subst e;exact rel_of_pairwise_cons hi hu
  .rename_i e;have hx:t < x:=by have:=h x mem_cons_self;grind
   rcases mem_cons.mp hu with rfl | hu
   .exact hx
   .have:=rel_of_pairwise_cons hi hu;grind
theorem zIV {t:Rat}{us:List Rat}{u:Rat}:u∈us->u≠t->u∈zCj t us:=by
 intro h ne;cases us with
 | nil=>exact absurd h (by simp)
 | cons x us =>
  rw [zBZ];split
  .rename_i e;rcases mem_cons.mp h with rfl | h
   .exact absurd e ne
   .exact h
  .exact h
theorem zCV:∀ {ts us:List Rat} {x:Rat},x∈zAy ts us<->x∈ts\/x∈us
 | [],us,x=>by simp [zAy]
 | t::ts,us,x=>by
  rw [zAy];simp only [mem_append,mem_cons,zCV (ts:=ts)];have key:∀ x,x∈us<->x∈us.takeWhile (fun u=>decide (u < t))\/x∈us.dropWhile (fun u=>decide (u < t)):=fun x=>by
   conv=>lhs;rw [<- List.takeWhile_append_dropWhile (p:=fun u=>decide (u < t)) (l:=us)]
   exact mem_append
  constructor
  .rintro (h | rfl | h | h)
   .exact .inr ((key x).mpr (.inl h))
   .exact .inl (.inl rfl)
   .exact .inl (.inr h)
   .exact .inr ((key x).mpr (.inr ((zDP t _).subset h)))
  .rintro ((rfl | h) | h)
   .exact .inr (.inl rfl)
   .exact .inr (.inr (.inl h))
   .rcases (key x).mp h with h | h
    .exact .inl h
    .by_cases e:x=t
     .exact .inr (.inl e)
     .exact .inr (.inr (.inr (zIV h e)))
theorem zEa:∀ {ts us:List Rat},Inc ts->Inc us->Inc (zAy ts us)
 | [],us,_,h=>h
 | t::ts,us,hts,hus=>by
  rw [zAy];have hd:Inc (us.dropWhile fun u=>decide (u < t)):=hus.sublist (List.dropWhile_sublist _);have hde:Inc (zCj t (us.dropWhile fun u=>decide (u < t))):=hd.sublist (zDP _ _);have ih:=zEa (List.Pairwise.of_cons hts) hde;have big:∀ x∈zAy ts (zCj t (us.dropWhile fun u=>decide (u < t))),t < x:=fun x hx=>by
   rcases zCV.mp hx with h | h
   .exact rel_of_pairwise_cons hts h
   .exact zKp hd (zKo hus) x h
  refine List.pairwise_append.mpr ⟨hus.sublist (List.takeWhile_sublist _),List.pairwise_cons.mpr ⟨big,ih⟩,fun a ha b hb=>?_⟩;have:=zOL ha;rcases mem_cons.mp hb with rfl | hb
  .exact this
  .have:=big b hb;grind
def midQ (w h:Nat)(s:Pt×Pt):List Rat:=zAy (tsQ s.1.1 s.2.1 w) (tsQ s.1.2 s.2.2 h)
def zBc (w h:Nat)(s:Pt×Pt):List Rat:=0::midQ w h s++[1]
theorem zME (w h:Nat)(s:Pt×Pt):Inc (midQ w h s):=zEa (zKC ..) (zKC ..)
theorem zE8 {w h:Nat}{s:Pt×Pt}{t:Rat}:t∈midQ w h s<->Meets s.1.1 s.2.1 w t\/Meets s.1.2 s.2.2 h t:=by
 unfold midQ;rw [zCV,zGj,zGj]
theorem zJv {w h:Nat}{s:Pt×Pt}{t:Rat}(hm:t∈midQ w h s):0 < t/\t < 1:=by
 rcases zE8.mp hm with h | h
 .exact ⟨h.2.1,h.2.2.1⟩
 .exact ⟨h.2.1,h.2.2.1⟩
theorem zF3 (w h:Nat)(s:Pt×Pt):Inc (zBc w h s):=by
 unfold zBc;refine List.pairwise_append.mpr ⟨List.pairwise_cons.mpr ⟨fun t ht=>(zJv ht).1,zME w h s⟩,List.pairwise_singleton _ _,fun a ha b hb=>?_⟩;rw [mem_singleton.mp hb];rcases mem_cons.mp ha with rfl | ha
 .decide
 .exact (zJv ha).2
def adj:List Rat->List (Rat×Rat)
 | a::b::r=>(a,b)::adj (b::r)
 | _=>[]
theorem zEJ (a b:Rat)(r:List Rat):adj (a::b::r)=(a,b)::adj (b::r):=by rw [adj]
theorem zFU (a:Rat):adj [a]=[]:=by rw [adj];intros;simp_all
theorem zG6:adj []=[]:=by rw [adj];intros;simp_all
theorem zLE:∀ {l:List Rat},Inc l->∀ p∈adj l,p.1 < p.2/\p.1∈l/\p.2∈l/\∀ x∈l,x<=p.1\/p.2<=x
 | [],_,p,h=>by rw [zG6] at h;exact absurd h (by simp)
 | [a],_,p,h=>by rw [zFU] at h;exact absurd h (by simp)
 | a::b::r,hi,p,h=>by
  rw [zEJ] at h;have hb:=List.Pairwise.of_cons hi;rcases mem_cons.mp h with rfl | h
  .refine ⟨rel_of_pairwise_cons hi mem_cons_self,mem_cons_self,mem_cons_of_mem _ mem_cons_self,fun x hx=>?_⟩;rcases mem_cons.mp hx with rfl | hx
   .exact .inl Rat.le_refl
   .rcases mem_cons.mp hx with rfl | hx
    .exact .inr Rat.le_refl
    .exact .inr (Rat.le_of_lt (rel_of_pairwise_cons hb hx))
  .obtain ⟨h1,h2,h3,h4⟩:=zLE hb p h;refine ⟨h1,mem_cons_of_mem _ h2,mem_cons_of_mem _ h3,fun x hx=>?_⟩;rcases mem_cons.mp hx with rfl | hx
   .exact .inl (Rat.le_of_lt (rel_of_pairwise_cons hi h2))
   .exact h4 x hx
def mid2 (p:Rat×Rat):Rat:=(p.1+p.2) / 2
theorem zDM (x:Rat):x / 2=1 / 2*x:=by rw [Rat.div_def,Rat.div_def];grind
theorem zOO {w h:Nat}{s:Pt×Pt}{t:Rat}(hm:t∈zBc w h s):0<=t/\t<=1:=by
 unfold zBc at hm;rcases mem_append.mp hm with hm | hm
 .rcases mem_cons.mp hm with rfl | hm
  .exact ⟨Rat.le_refl,by decide⟩
  .obtain ⟨h1,h2⟩:=zJv hm;exact ⟨Rat.le_of_lt h1,Rat.le_of_lt h2⟩
 .rw [mem_singleton.mp hm];exact ⟨by decide,Rat.le_refl⟩
theorem zHh {w h:Nat}{s:Pt×Pt}{t:Rat}(hm:t∈midQ w h s):t∈zBc w h s:=by
 unfold zBc;exact mem_append.mpr (.inl (mem_cons_of_mem _ hm))
theorem zPv {a b:Rat}{last:Nat}{l:List Rat}(hi:Inc l)(h01:∀ t∈l,0<=t/\t<=1)(hm:∀ t,Meets a b last t->t∈l){p:Rat×Rat}(hp:p∈adj l)(ne:a≠b){n:Int}(n0:0<=n)(n1:n<=last){x:Rat}(h1:p.1 < x)(h2:x < p.2):pw a b x≠n:=by
 intro e;obtain ⟨_,m1,m2,f⟩:=zLE hi p hp;have b1:=h01 _ m1;have b2:=h01 _ m2;have hx:=hm x ⟨ne,by grind,by grind,n,n0,n1,e⟩;rcases f x hx with z | z<;>grind
theorem zIN {a b t u:Rat}{n:Int}(h:(pw a b t < n/\(n:Rat) < pw a b u)\/(pw a b u < n/\(n:Rat) < pw a b t))(htu:t < u):a≠b/\∃ x,t < x/\x < u/\pw a b x=n:=by
 have ne:a≠b:=by
  rintro rfl;have:∀ t,pw a a t=a:=fun t=>by unfold pw;grind
  rw [this,this] at h;grind
 refine ⟨ne,tOf a b n,?_⟩;have e:=zC1 ne n;refine ⟨?_,?_,e⟩
 .rcases (show a < b\/b < a by grind) with l | l
  .refine (zEL l).mp ?_;have:=(zEL l (t:=t) (u:=u)).mpr htu;rw [e];grind
  .refine (zEM l).mp ?_;have:=(zEM l (t:=u) (u:=t)).mpr htu;rw [e];grind
 .rcases (show a < b\/b < a by grind) with l | l
  .refine (zEL l).mp ?_;have:=(zEL l (t:=t) (u:=u)).mpr htu;rw [e];grind
  .refine (zEM l).mp ?_;have:=(zEM l (t:=u) (u:=t)).mpr htu;rw [e];grind
theorem zHV (a b:Rat)(p:Rat×Rat):pw a b (mid2 p)=(pw a b p.1+pw a b p.2) / 2:=by
 unfold pw mid2;rw [zDM,zDM];grind
def zGO (w h:Nat)(s:Pt×Pt)(m:Rat):Prop:=(0<=pw s.1.2 s.2.2 m/\pw s.1.2 s.2.2 m < h)/\pw s.1.1 s.2.1 m < w
noncomputable instance (w h:Nat) (s:Pt×Pt):DecidablePred (zGO w h s):=fun m=>inferInstanceAs (Decidable (_/\_))
theorem zFT (s:Pt×Pt):ptAt s 0=s.1:=by unfold ptAt;rw [pw_0,pw_0]
theorem zLB (s:Pt×Pt):ptAt s 1=s.2:=by unfold ptAt;rw [pw_1,pw_1]
def xL (x:Rat):Ln:=(1,0,x)
def yL (y:Rat):Ln:=(0,1,y)
theorem hq_x (x:Rat)(p:Pt):hq (xL x) p=p.1 - x:=by unfold hq xL;grind
theorem hq_y (y:Rat)(p:Pt):hq (yL y) p=p.2 - y:=by unfold hq yL;grind
def wayG (g:Pt×Pt->Rat):List Pt->Rat
 | a::b::r=>g (a,b)+wayG g (b::r)
 | _=>0
section
variable {g:Pt×Pt->Rat}
theorem zDd (a b:Pt)(r:List Pt):wayG g (a::b::r)=g (a,b)+wayG g (b::r):=by rw [wayG]
theorem zEr (a:Pt):wayG g [a]=0:=by rw [wayG];intros;simp_all
theorem zHC:wayG g []=0:=by rw [wayG];intros;simp_all
def zA2 (g:Pt×Pt->Rat)(ps:List Pt):Rat:=wayG g (ps++ps.take 1)
theorem zHA:∀ (ps:List Pt) (x:Pt),sumR ((ps.zip (ps.drop 1++[x])).map g)=wayG g (ps++[x])
 | [],x=>by simp [sumR,zEr]
 | [a],x=>by
  simp only [drop_one,tail_cons,nil_append,zip_cons_cons,List.zip_nil_left,map_cons,map_nil,sumR,cons_append,zDd,zEr]
 | a::b::r,x=>by
  have ih:=zHA (b::r) x;simp only [drop_one,tail_cons,cons_append,zip_cons_cons,map_cons,sumR,zDd] at ih ⊢;rw [ih]
theorem zDq (ps:List Pt):sumR ((zAi ps).map g)=zA2 g ps:=by
 unfold zAi rot zA2;cases ps with
 | nil=>simp [sumR,zHC]
 | cons a r =>
  have:=zHA (g:=g) (a::r) a;simpa using this
end
def NC (L:List Ln)(p q:Pt):Prop:=∀ l∈L,¬ zAL (hq l p) (hq l q)
def Ad (L:List Ln)(f:Pt×Pt->Rat):Prop:=∀ (s:Pt×Pt) (a c b:Rat),a<=c->c<=b->NC L (ptAt s a) (ptAt s b)->f (ptAt s a,ptAt s b)=f (ptAt s a,ptAt s c)+f (ptAt s c,ptAt s b)
theorem zBN (l:Ln)(s:Pt×Pt)(t:Rat):hq l (ptAt s t)=pw (hq l s.1) (hq l s.2) t:=by
 unfold hq ptAt pw;grind
theorem zUC (s:Pt×Pt)(a b t:Rat):ptAt (ptAt s a,ptAt s b) t=ptAt s (pw a b t):=by
 unfold ptAt pw;dsimp only
 ext<;>grind
theorem zGb {u v a c b:Rat}(h1:a<=c)(h2:c<=b):(pw u v a<=pw u v c/\pw u v c<=pw u v b)\/(pw u v b<=pw u v c/\pw u v c<=pw u v a):=by
 unfold pw;rcases Rat.le_total (a:=u) (b:=v) with h | h
 .have d:0<=v - u:=by grind
  have e1:=Rat.mul_le_mul_of_nonneg_right h1 d;have e2:=Rat.mul_le_mul_of_nonneg_right h2 d
  left;grind
 .have d:0<=u - v:=by grind
  have e1:=Rat.mul_le_mul_of_nonneg_right h1 d;have e2:=Rat.mul_le_mul_of_nonneg_right h2 d
  right;grind
theorem zC5 {u v a c b:Rat}(h1:a<=c)(h2:c<=b)(h:¬ zAL (pw u v a) (pw u v b)):¬ zAL (pw u v a) (pw u v c)/\¬ zAL (pw u v c) (pw u v b):=by
 have m:=zGb (u:=u) (v:=v) h1 h2;unfold zAL at *;grind
theorem NC.sub {L:List Ln}{s:Pt×Pt}{a c b:Rat}(h1:a<=c)(h2:c<=b)(h:NC L (ptAt s a) (ptAt s b)):NC L (ptAt s a) (ptAt s c)/\NC L (ptAt s c) (ptAt s b):=by
 refine ⟨fun l hl=>?_,fun l hl=>?_⟩<;>have z:=h l hl<;>rw [zBN,zBN] at z ⊢
 .exact (zC5 h1 h2 z).1
 .exact (zC5 h1 h2 z).2
theorem zPA (l:Ln)(s:Pt×Pt)(a b:Rat)(h:hq l (ptAt s a) - hq l (ptAt s b)≠0):zCc l (ptAt s a,ptAt s b)=ptAt s (hq l s.1 / (hq l s.1 - hq l s.2)):=by
 have e:zCc l (ptAt s a,ptAt s b)=ptAt (ptAt s a,ptAt s b) (hq l (ptAt s a) / (hq l (ptAt s a) - hq l (ptAt s b))):=rfl;rw [e,zUC];congr 1;rw [zBN,zBN] at h ⊢;generalize hq l s.1=u at *;generalize hq l s.2=v at *;have e1:pw u v a - pw u v b=(b - a)*(u - v):=by unfold pw;grind
 rw [e1] at h ⊢;have hv:u - v≠0:=fun z=>h (by rw [z];grind)
 have hb:b - a≠0:=fun z=>h (by rw [z];grind)
 have i1:=Rat.mul_inv_cancel _ h;have i2:=Rat.mul_inv_cancel _ hv;rw [Rat.div_def,Rat.div_def];generalize ((b - a)*(u - v))⁻¹=x at *;generalize (u - v)⁻¹=y at *;unfold pw;have k:(u - v)*(a+(u+a*(v - u))*x*(b - a) - u*y)=0:=by grind
 rcases Rat.mul_eq_zero.mp k with z | z
 .exact absurd z hv
 .grind
def ext (l:Ln)(f:Pt×Pt->Rat)(s:Pt×Pt):Rat:=if zAL (hq l s.1) (hq l s.2) then f (s.1,zCc l s)+f (zCc l s,s.2) else f s
theorem zCN {l:Ln}{f:Pt×Pt->Rat}{p q:Pt}(h:¬ zAL (hq l p) (hq l q)):ext l f (p,q)=f (p,q):=if_neg h
theorem NC.cons {L:List Ln}{l:Ln}{p q:Pt}(h:NC L p q)(hl:¬ zAL (hq l p) (hq l q)):NC (l::L) p q:=fun m hm=>by
 rcases mem_cons.mp hm with rfl | hm
 .exact hl
 .exact h m hm
theorem tau {u v:Rat}(h:u - v≠0)(a:Rat):pw u v a=(u / (u - v) - a)*(u - v):=by
 unfold pw;have i:=Rat.mul_inv_cancel _ h;rw [Rat.div_def];grind
theorem zED {u v a b:Rat}(hab:a<=b)(h:zAL (pw u v a) (pw u v b)):u - v≠0/\a < u / (u - v)/\u / (u - v) < b/\pw u v (u / (u - v))=0:=by
 have hv:u - v≠0:=fun z=>by
  have e:∀ t,pw u v t=u:=fun t=>by unfold pw;grind
  rw [e,e] at h;unfold zAL at h;grind
 refine ⟨hv,?_⟩;rw [tau hv a,tau hv b] at h;have z:pw u v (u / (u - v))=0:=by rw [tau hv];grind
 generalize u / (u - v)=t at *;have hm:¬ (a < t/\t < b)->False:=fun n=>by
  rcases (show t<=a\/b<=t by grind) with c | c
  .have c1:0<=a - t:=by grind
   have c2:0<=b - t:=by grind
   rcases Rat.le_total (a:=0) (b:=u - v) with d | d
   .have m1:=Rat.mul_nonneg c1 d;have m2:=Rat.mul_nonneg c2 d;unfold zAL at h;grind
   .have d2:0<=-(u - v):=by grind
    have m1:=Rat.mul_nonneg c1 d2;have m2:=Rat.mul_nonneg c2 d2;unfold zAL at h;grind
  .have c1:0<=t - a:=by grind
   have c2:0<=t - b:=by grind
   rcases Rat.le_total (a:=0) (b:=u - v) with d | d
   .have m1:=Rat.mul_nonneg c1 d;have m2:=Rat.mul_nonneg c2 d;unfold zAL at h;grind
   .have d2:0<=-(u - v):=by grind
    have m1:=Rat.mul_nonneg c1 d2;have m2:=Rat.mul_nonneg c2 d2;unfold zAL at h;grind
 have:=Classical.byContradiction hm;exact ⟨this.1,this.2,z⟩
theorem zFE {l:Ln}{L:List Ln}{f:Pt×Pt->Rat}(h:Ad (l::L) f):Ad L (ext l f):=fun s a c b h1 h2 nc=>by
 have hab:a<=b:=Rat.le_trans h1 h2;by_cases x:zAL (hq l (ptAt s a)) (hq l (ptAt s b))
 .have x':=x;rw [zBN,zBN] at x';obtain ⟨hv,t1,t2,t3⟩:=zED hab x';have hne:∀ a' b',zAL (hq l (ptAt s a')) (hq l (ptAt s b'))->hq l (ptAt s a') - hq l (ptAt s b')≠0:=fun a' b' z=>by unfold zAL at z;grind
  have t4:hq l (ptAt s (hq l s.1 / (hq l s.1 - hq l s.2)))=0:=by rw [zBN];exact t3
  generalize ht:hq l s.1 / (hq l s.1 - hq l s.2)=t at *;have M:∀ a' b',zAL (hq l (ptAt s a')) (hq l (ptAt s b'))->ext l f (ptAt s a',ptAt s b')=f (ptAt s a',ptAt s t)+f (ptAt s t,ptAt s b'):=fun a' b' z=>by
   unfold ext;rw [if_pos z,zPA l s a' b' (hne a' b' z),ht]
  have nx:∀ y:Rat,¬ zAL (hq l (ptAt s y)) (hq l (ptAt s t))/\¬ zAL (hq l (ptAt s t)) (hq l (ptAt s y)):=fun y=>by
   rw [t4];unfold zAL;grind
  have nat:=(NC.sub (L:=L) (Rat.le_of_lt t1) (Rat.le_of_lt t2) nc).1.cons (nx a).1;have ntb:=(NC.sub (L:=L) (Rat.le_of_lt t1) (Rat.le_of_lt t2) nc).2.cons (nx b).2;rw [M a b x];have zz:∀ y,f (ptAt s y,ptAt s y)=0:=fun y=>by
   have:=h s y y y Rat.le_refl Rat.le_refl (fun m _=>by unfold zAL;grind);grind
  rcases (show c < t\/c=t\/t < c by grind) with q | q | q
  .have k:=h s a c t h1 (Rat.le_of_lt q) nat;have n1:¬ zAL (hq l (ptAt s a)) (hq l (ptAt s c)):=by
    have:=zC5 (u:=hq l s.1) (v:=hq l s.2) h1 (Rat.le_of_lt q) (by rw [<- zBN,<- zBN];exact (nx a).1);rw [zBN,zBN];exact this.1
   rw [zCN n1];by_cases n2:zAL (hq l (ptAt s c)) (hq l (ptAt s b))
   .rw [M c b n2];grind
   .exfalso
    rw [zBN,tau hv,ht,zBN,tau hv,ht] at n2 x;have c1:0 < t - c:=by grind
    have c2:0 < b - t:=by grind
    rcases (show 0 < hq l s.1 - hq l s.2\/0 < -(hq l s.1 - hq l s.2) by grind) with d | d
    .have m1:=Rat.mul_pos c1 d;have m2:=Rat.mul_pos c2 d;unfold zAL at n2;grind
    .have m1:=Rat.mul_pos c1 d;have m2:=Rat.mul_pos c2 d;unfold zAL at n2;grind
  .subst q;rw [zCN (nx a).1,zCN (nx b).2]
  .have k:=h s t c b (Rat.le_of_lt q) h2 ntb;have n1:¬ zAL (hq l (ptAt s c)) (hq l (ptAt s b)):=by
    have:=zC5 (u:=hq l s.1) (v:=hq l s.2) (Rat.le_of_lt q) h2 (by rw [<- zBN,<- zBN];exact (nx b).2);rw [zBN,zBN];exact this.2
   rw [zCN n1];by_cases n2:zAL (hq l (ptAt s a)) (hq l (ptAt s c))
   .rw [M a c n2];grind
   .exfalso
    rw [zBN,tau hv,ht,zBN,tau hv,ht] at n2 x;have c1:0 < c - t:=by grind
    have c2:0 < t - a:=by grind
    rcases (show 0 < hq l s.1 - hq l s.2\/0 < -(hq l s.1 - hq l s.2) by grind) with d | d
    .have m1:=Rat.mul_pos c1 d;have m2:=Rat.mul_pos c2 d;unfold zAL at n2;grind
    .have m1:=Rat.mul_pos c1 d;have m2:=Rat.mul_pos c2 d;unfold zAL at n2;grind
 .have x2:=x;rw [zBN,zBN] at x2;have n:=zC5 h1 h2 x2;rw [<- zBN,<- zBN,<- zBN] at n;rw [zCN x,zCN n.1,zCN n.2];exact h s a c b h1 h2 (nc.cons x)
theorem zNh (p q:Pt):NC [] p q:=fun _ z=>absurd z (by simp)
theorem Ad.go {f:Pt×Pt->Rat}(h:Ad [] f)(s:Pt×Pt){a c b:Rat}(h1:a<=c)(h2:c<=b):f (ptAt s a,ptAt s b)=f (ptAt s a,ptAt s c)+f (ptAt s c,ptAt s b):=h s a c b h1 h2 (zNh _ _)
theorem Ad.self {f:Pt×Pt->Rat}(h:Ad [] f)(p:Pt):f (p,p)=0:=by
 have:=h.go (p,p) (a:=0) (c:=0) (b:=0) Rat.le_refl Rat.le_refl;rw [zFT] at this;grind
theorem Ad.meet {f:Pt×Pt->Rat}(h:Ad [] f){l:Ln}{s:Pt×Pt}(x:zAL (hq l s.1) (hq l s.2)):f s=f (s.1,zCc l s)+f (zCc l s,s.2):=by
 have e0:=zFT s;have e1:=zLB s;have x':zAL (pw (hq l s.1) (hq l s.2) 0) (pw (hq l s.1) (hq l s.2) 1):=by rw [pw_0,pw_1];exact x
 obtain ⟨hv,t1,t2,_⟩:=zED (by decide) x';have k:=h.go s (Rat.le_of_lt t1) (Rat.le_of_lt t2);rw [e0,e1] at k;exact k
def Same (Z:Pt->Prop)(L:List Ln)(f g:Pt×Pt->Rat):Prop:=∀ p q,Z p->Z q->NC L p q->f (p,q)=g (p,q)
def Cvx (Z:Pt->Prop):Prop:=∀ p q,Z p->Z q->∀ t,0<=t->t<=1->Z (ptAt (p,q) t)
theorem zI8 {Z:Pt->Prop}(hZ:Cvx Z){l:Ln}{L:List Ln}{f g:Pt×Pt->Rat}(hf:Ad [] f)(hg:Ad [] g)(h:Same Z (l::L) f g):Same Z L f g:=fun p q zp zq n=>by
 by_cases x:zAL (hq l p) (hq l q)
 .rw [hf.meet (s:=(p,q)) x,hg.meet (s:=(p,q)) x];have x':zAL (pw (hq l p) (hq l q) 0) (pw (hq l p) (hq l q) 1):=by rw [pw_0,pw_1];exact x
  obtain ⟨hv,t1,t2,t3⟩:=zED (by decide) x';have em:zCc l (p,q)=ptAt (p,q) (hq l p / (hq l p - hq l q)):=rfl;have zm:Z (zCc l (p,q)):=hZ p q zp zq _ (Rat.le_of_lt t1) (Rat.le_of_lt t2);have hm:hq l (zCc l (p,q))=0:=zRZ (s:=(p,q)) hv;have e0:=zFT (p,q);have e1:=zLB (p,q);have nn:NC L (ptAt (p,q) 0) (ptAt (p,q) 1):=by rw [e0,e1];exact n
  obtain ⟨n1,n2⟩:=nn.sub (Rat.le_of_lt t1) (Rat.le_of_lt t2);rw [e0,<- em] at n1;rw [e1,<- em] at n2;show f (p,zCc l (p,q))+f (zCc l (p,q),q)=g (p,zCc l (p,q))+g (zCc l (p,q),q);rw [h p _ zp zm (n1.cons (by rw [hm];unfold zAL;grind)),h _ q zm zq (n2.cons (by rw [hm];unfold zAL;grind))]
 .exact h p q zp zq (n.cons x)
theorem zHP {Z:Pt->Prop}(hZ:Cvx Z){f g:Pt×Pt->Rat}(hf:Ad [] f)(hg:Ad [] g):∀ {L:List Ln},Same Z L f g->∀ p q,Z p->Z q->f (p,q)=g (p,q)
 | [],h,p,q,zp,zq=>h p q zp zq (zNh _ _)
 | l::L,h,p,q,zp,zq=>zHP hZ hf hg (zI8 hZ hf hg h) p q zp zq
theorem zMr:Cvx fun _=>True:=fun _ _ _ _ _ _ _=>trivial
theorem zQV (i:Pt->Rat):Ad [] fun s=>i s.2 - i s.1:=fun s a c b _ _ _=>by grind
theorem Ad.add {L:List Ln}{f g:Pt×Pt->Rat}(hf:Ad L f)(hg:Ad L g):Ad L fun s=>f s+g s:=fun s a c b h1 h2 n=>by
 have:=hf s a c b h1 h2 n;have:=hg s a c b h1 h2 n;grind
theorem Ad.mul {L:List Ln}{f:Pt×Pt->Rat}(hf:Ad L f)(k:Rat):Ad L fun s=>k*f s:=fun s a c b h1 h2 n=>by
 have:=hf s a c b h1 h2 n;grind
def clp (lo hi x:Rat):Rat:=if x < lo then lo else if hi < x then hi else x
def uQ (a b x:Rat):Rat:=b - clp a b x
def f0 (a b c d:Rat)(s:Pt×Pt):Rat:=1 / 2*(uQ a b s.1.1+uQ a b s.2.1)*(clp c d s.1.2 - clp c d s.2.2)
def rims (a b c d:Rat):List Ln:=[yL d,yL c,xL b,xL a]
def boxG (a b c d:Rat):Pt×Pt->Rat:=ext (xL a) (ext (xL b) (ext (yL c) (ext (yL d) (f0 a b c d))))
theorem zK2 {lo hi:Rat}(hl:lo<=hi){x y:Rat}(n1:¬ zAL (x - lo) (y - lo))(n2:¬ zAL (x - hi) (y - hi)):∃ k m:Rat,∀ z,(x<=z/\z<=y)\/(y<=z/\z<=x)->clp lo hi z=k*z+m:=by
 unfold zAL at n1 n2;by_cases c1:x<=lo/\y<=lo
 .exact ⟨0,lo,fun z hz=>by unfold clp;grind⟩
 .by_cases c2:hi<=x/\hi<=y
  .exact ⟨0,hi,fun z hz=>by unfold clp;grind⟩
  .exact ⟨1,0,fun z hz=>by unfold clp;grind⟩
theorem zUD {a b c d:Rat}(hab:a<=b)(hcd:c<=d):Ad (rims a b c d) (f0 a b c d):=fun s t1 t t2 h1 h2 n=>by
 have nx1:=n (xL a) (by simp [rims]);have nx2:=n (xL b) (by simp [rims]);have ny1:=n (yL c) (by simp [rims]);have ny2:=n (yL d) (by simp [rims]);rw [hq_x,hq_x] at nx1 nx2;rw [hq_y,hq_y] at ny1 ny2;obtain ⟨k,m,e⟩:=zK2 hab nx1 nx2;obtain ⟨k',m',e'⟩:=zK2 hcd ny1 ny2;have mx:=zGb (u:=s.1.1) (v:=s.2.1) h1 h2;have my:=zGb (u:=s.1.2) (v:=s.2.2) h1 h2;have x1:=e (ptAt s t1).1 (by grind);have x2:=e (ptAt s t2).1 (by grind);have x3:=e (ptAt s t).1 mx;have y1:=e' (ptAt s t1).2 (by grind);have y2:=e' (ptAt s t2).2 (by grind);have y3:=e' (ptAt s t).2 my;unfold f0 uQ;dsimp only;rw [x1,x2,x3,y1,y2,y3];unfold ptAt pw;grind
theorem zH7 {a b c d:Rat}(hab:a<=b)(hcd:c<=d):Ad [] (boxG a b c d) :=
 zFE (zFE (zFE (zFE (zUD hab hcd))))
theorem zFR {a b c d:Rat}{p q:Pt}(n:NC (rims a b c d) p q):boxG a b c d (p,q)=f0 a b c d (p,q):=by
 unfold boxG;rw [zCN (n _ (by simp [rims])),zCN (n _ (by simp [rims])),zCN (n _ (by simp [rims])),zCN (n _ (by simp [rims]))]
theorem zI0 {f:Pt×Pt->Rat}(hf:Ad [] f)(s:Pt×Pt):∀ (l:List Rat) (a z:Rat),Inc (a::l++[z])->sumR ((adj (a::l++[z])).map fun p=>f (ptAt s p.1,ptAt s p.2))=f (ptAt s a,ptAt s z)
 | [],a,z,h=>by
  rw [cons_append,nil_append,zEJ,zFU];simp only [map_cons,map_nil,sumR];grind
 | b::l,a,z,h=>by
  rw [cons_append,cons_append,zEJ];have h2:Inc (b::l++[z]):=List.Pairwise.of_cons h;have ih:=zI0 hf s l b z h2;rw [map_cons,sumR];have e:b::(l++[z])=b::l++[z]:=rfl;rw [e,ih];have h3:a < b:=rel_of_pairwise_cons h mem_cons_self;have h4:b < z:=rel_of_pairwise_cons h2 (by simp);exact (hf.go s (Rat.le_of_lt h3) (Rat.le_of_lt h4)).symm
theorem zIy {f:Pt×Pt->Rat}(hf:Ad [] f)(w h:Nat)(s:Pt×Pt):sumR ((adj (zBc w h s)).map fun p=>f (ptAt s p.1,ptAt s p.2))=f s:=by
 have e:=zI0 hf s (midQ w h s) 0 1 (zF3 w h s);rw [zFT,zLB] at e;exact e
theorem zEV {a b:Rat}{last:Nat}{l:List Rat}(hi:Inc l)(h01:∀ t∈l,0<=t/\t<=1)(hm:∀ t,Meets a b last t->t∈l){p:Rat×Rat}(hp:p∈adj l){n:Int}(n0:0<=n)(n1:n<=last):¬ zAL (pw a b p.1 - n) (pw a b p.2 - n):=fun z=>by
 have lt:=(zLE hi p hp).1;have h:(pw a b p.1 < n/\(n:Rat) < pw a b p.2)\/(pw a b p.2 < n/\(n:Rat) < pw a b p.1):=by unfold zAL at z;grind
 obtain ⟨ne,x,h1,h2,e⟩:=zIN h lt;exact zPv hi h01 hm hp ne n0 n1 h1 h2 e
theorem zLm {w h:Nat}{s:Pt×Pt}{p:Rat×Rat}(hp:p∈adj (zBc w h s)){c r:Int}(c0:0<=c)(c1:c < w)(r0:0<=r)(r1:r < h):NC (rims (c:Rat) ((c+1:Int):Rat) (r:Rat) ((r+1:Int):Rat)) (ptAt s p.1) (ptAt s p.2):=fun l hl=>by
 have hi:=zF3 w h s;have h01:∀ t∈zBc w h s,0<=t/\t<=1:=fun t ht=>zOO ht
 have X:∀ n:Int,0<=n->n<=w->¬ zAL ((ptAt s p.1).1 - n) ((ptAt s p.2).1 - n):=fun n n0 n1=>zEV hi h01 (fun t ht=>zHh (zE8.mpr (.inl ht))) hp n0 n1
 have Y:∀ n:Int,0<=n->n<=h->¬ zAL ((ptAt s p.1).2 - n) ((ptAt s p.2).2 - n):=fun n n0 n1=>zEV hi h01 (fun t ht=>zHh (zE8.mpr (.inr ht))) hp n0 n1
 unfold rims at hl;simp only [mem_cons,not_mem_nil,or_false] at hl;rcases hl with rfl | rfl | rfl | rfl
 .rw [hq_y,hq_y];exact Y _ (by omega) (by omega)
 .rw [hq_y,hq_y];exact Y _ (by omega) (by omega)
 .rw [hq_x,hq_x];exact X _ (by omega) (by omega)
 .rw [hq_x,hq_x];exact X _ (by omega) (by omega)
def dzM (c r:Int)(p q:Pt):Rat:=if ((p.2+q.2) / 2).floor=r then (if ((p.1+q.1) / 2).floor < c then p.2 - q.2 else if ((p.1+q.1) / 2).floor=c then (p.2 - q.2)*(((c+1:Int):Rat) - (p.1+q.1) / 2) else 0) else 0
theorem zT1 {x:Rat}{n:Int}:x.floor < n<->x < (n:Rat):=Rat.floor_lt_iff
theorem zT2 {x:Rat}{n:Int}:x.floor=n<->(n:Rat)<=x/\x < ((n+1:Int):Rat):=by
 constructor
 .rintro rfl;exact ⟨Rat.floor_le x,Rat.floor_lt_iff.mp (by omega)⟩
 .rintro ⟨h1,h2⟩;have a:=Rat.le_floor_iff.mpr h1;have b:=Rat.floor_lt_iff.mpr h2;omega
theorem zSi (c r:Int)(p q:Pt):dzM c r p q=if (r:Rat)<=(p.2+q.2) / 2/\(p.2+q.2) / 2 < ((r+1:Int):Rat) then (if (p.1+q.1) / 2 < (c:Rat) then p.2 - q.2 else if (c:Rat)<=(p.1+q.1) / 2/\(p.1+q.1) / 2 < ((c+1:Int):Rat) then (p.2 - q.2)*(((c+1:Int):Rat) - (p.1+q.1) / 2) else 0) else 0:=by
 unfold dzM;simp only [zT2,zT1]
theorem zT4 {c r:Int}{p q:Pt}(n:NC (rims (c:Rat) ((c+1:Int):Rat) (r:Rat) ((r+1:Int):Rat)) p q):f0 (c:Rat) ((c+1:Int):Rat) (r:Rat) ((r+1:Int):Rat) (p,q)=dzM c r p q:=by
 have nx1:=n (xL c) (by simp [rims]);have nx2:=n (xL (c+1:Int)) (by simp [rims]);have ny1:=n (yL r) (by simp [rims]);have ny2:=n (yL (r+1:Int)) (by simp [rims]);rw [hq_x,hq_x] at nx1 nx2;rw [hq_y,hq_y] at ny1 ny2;have ec:((c+1:Int):Rat)=(c:Rat)+1:=by rw [Rat.intCast_add];rfl
 have er:((r+1:Int):Rat)=(r:Rat)+1:=by rw [Rat.intCast_add];rfl
 unfold zAL at *;rw [zSi,zDM (p.2+q.2),zDM (p.1+q.1)];unfold f0;dsimp only;rw [ec] at nx2 ⊢;rw [er] at ny2 ⊢;generalize (c:Rat)=C at *;generalize (r:Rat)=R at *;obtain ⟨x,y⟩:=p;obtain ⟨z,v⟩:=q;dsimp only at *;by_cases y1:R<=1 / 2*(y+v)/\1 / 2*(y+v) < R+1
 .rw [if_pos y1];have e3:clp R (R+1) y=y:=by unfold clp;grind
  have e4:clp R (R+1) v=v:=by unfold clp;grind
  rw [e3,e4];by_cases x1:1 / 2*(x+z) < C
  .rw [if_pos x1];have e1:uQ C (C+1) x=1:=by unfold uQ clp;grind
   have e2:uQ C (C+1) z=1:=by unfold uQ clp;grind
   rw [e1,e2];grind
  .rw [if_neg x1];by_cases x2:C<=1 / 2*(x+z)/\1 / 2*(x+z) < C+1
   .rw [if_pos x2];have e1:uQ C (C+1) x=C+1 - x:=by unfold uQ clp;grind
    have e2:uQ C (C+1) z=C+1 - z:=by unfold uQ clp;grind
    rw [e1,e2];grind
   .rw [if_neg x2];have e1:uQ C (C+1) x=0:=by unfold uQ clp;grind
    have e2:uQ C (C+1) z=0:=by unfold uQ clp;grind
    rw [e1,e2];grind
 .rw [if_neg y1];have e:clp R (R+1) y=clp R (R+1) v:=by
   by_cases y2:1 / 2*(y+v) < R
   .have e3:clp R (R+1) y=R:=by unfold clp;grind
    have e4:clp R (R+1) v=R:=by unfold clp;grind
    rw [e3,e4]
   .have e3:clp R (R+1) y=R+1:=by unfold clp;grind
    have e4:clp R (R+1) v=R+1:=by unfold clp;grind
    rw [e3,e4]
  rw [e];grind
theorem zFA (c:Int):(c:Rat)<=((c+1:Int):Rat):=by
 have:=Rat.intCast_le_intCast.mpr (show c<=c+1 by omega);exact this
theorem zLd {w h:Nat}(s:Pt×Pt){c r:Int}(c0:0<=c)(c1:c < w)(r0:0<=r)(r1:r < h):sumR ((adj (zBc w h s)).map fun p=>dzM c r (ptAt s p.1) (ptAt s p.2))=boxG (c:Rat) ((c+1:Int):Rat) (r:Rat) ((r+1:Int):Rat) s:=by
 rw [<- zIy (zH7 (zFA c) (zFA r)) w h s];refine zBB fun p hp=>?_
 have n:=zLm hp c0 c1 r0 r1;rw [zFR n,zT4 n]
theorem zQJ {w h:Nat}{s:Pt×Pt}{p:Rat×Rat}{c r:Int}(c1:c < w)(r0:0<=r)(r1:r < h)(nk:¬ zGO w h s (mid2 p)):dzM c r (ptAt s p.1) (ptAt s p.2)=0:=by
 rw [zSi];unfold zGO at nk;rw [zHV,zHV] at nk;unfold ptAt;dsimp only;have a1:((c+1:Int):Rat)<=(w:Rat):=by exact_mod_cast (show c+1<=(w:Int) by omega)
 have a2:((r+1:Int):Rat)<=(h:Rat):=by exact_mod_cast (show r+1<=(h:Int) by omega)
 have a3:(0:Rat)<=(r:Rat):=by exact_mod_cast r0
 have a4:=zFA c;generalize (pw s.1.1 s.2.1 p.1+pw s.1.1 s.2.1 p.2) / 2=x at *;generalize (pw s.1.2 s.2.2 p.1+pw s.1.2 s.2.2 p.2) / 2=y at *;by_cases z:(r:Rat)<=y/\y < ((r+1:Int):Rat)
 .rw [if_pos z,if_neg (by grind),if_neg (by grind)]
 .rw [if_neg z]
def Aff (T:Pt->Pt):Prop:=∀ p q t,ptAt (T p,T q) t=T (ptAt (p,q) t)
theorem Ad.comp {f:Pt×Pt->Rat}(hf:Ad [] f){T:Pt->Pt}(hT:Aff T):Ad [] fun s=>f (T s.1,T s.2):=fun s a c b h1 h2 _=>by
 have k:=hf.go (T s.1,T s.2) h1 h2;rw [hT,hT,hT] at k;exact k
theorem zHD (f:Pt×Pt->Rat)(T:Pt->Pt):∀ l:List Pt,wayG f (l.map T)=wayG (fun s=>f (T s.1,T s.2)) l
 | []=>by simp [zHC]
 | [a]=>by simp [zEr]
 | a::b::r=>by
  have ih:=zHD f T (b::r);simp only [map_cons] at ih ⊢;rw [zDd,zDd,ih]
theorem zEU (f:Pt×Pt->Rat)(T:Pt->Pt)(ps:List Pt):zA2 f (ps.map T)=zA2 (fun s=>f (T s.1,T s.2)) ps:=by
 unfold zA2;rw [<- zHD,map_append,List.map_take]
theorem zFk {f g:Pt×Pt->Rat}(h:∀ s,f s=g s)(ps:List Pt):zA2 f ps=zA2 g ps:=by
 have:f=g:=funext h;rw [this]
theorem zDT {f g:Pt×Pt->Rat}{k:Rat}{i:Pt->Rat}(h:∀ p q,f (p,q)=k*g (p,q)+(i q - i p))(ps:List Pt):zA2 f ps=k*zA2 g ps:=by
 rw [<- zDq,<- zDq];have e:sumR ((zAi ps).map f)=sumR ((zAi ps).map fun s=>k*g s+(i s.2 - i s.1)):=zBB fun s _=>h s.1 s.2
 have m:∀ l:List (Pt×Pt),sumR (l.map fun s=>k*g s)=k*sumR (l.map g):=fun l=>by
  induction l with
  | nil=>simp [sumR]
  | cons x l ih=>simp only [map_cons,sumR,ih];grind
 rw [e,zHK (fun s=>k*g s) (fun s=>i s.2 - i s.1),zGS,m];grind
def qtT (H:Rat)(p:Pt):Pt:=(H - p.2,p.1)
def mrT (W:Rat)(p:Pt):Pt:=(W - p.1,p.2)
theorem zS1 (k:Rat):Aff (qtT k):=fun p q t=>by unfold qtT ptAt pw;ext<;>grind
theorem zS2 (k:Rat):Aff (mrT k):=fun p q t=>by unfold mrT ptAt pw;ext<;>grind
theorem zJl {a b c d:Rat}{p q:Pt}:NC (rims a b c d) p q<->¬ zAL (p.1 - a) (q.1 - a)/\¬ zAL (p.1 - b) (q.1 - b)/\¬ zAL (p.2 - c) (q.2 - c)/\¬ zAL (p.2 - d) (q.2 - d):=by
 constructor
 .intro n;have nx1:=n (xL a) (by simp [rims]);have nx2:=n (xL b) (by simp [rims]);have ny1:=n (yL c) (by simp [rims]);have ny2:=n (yL d) (by simp [rims]);rw [hq_x,hq_x] at nx1 nx2;rw [hq_y,hq_y] at ny1 ny2;exact ⟨nx1,nx2,ny1,ny2⟩
 .rintro ⟨h1,h2,h3,h4⟩ l hl;unfold rims at hl;simp only [mem_cons,not_mem_nil,or_false] at hl;rcases hl with rfl | rfl | rfl | rfl
  .rw [hq_y,hq_y];exact h4
  .rw [hq_y,hq_y];exact h3
  .rw [hq_x,hq_x];exact h2
  .rw [hq_x,hq_x];exact h1
theorem zEm {T:Pt->Pt}(hT:Aff T){a b c d a' b' c' d' k:Rat}{i:Pt->Rat}(hab:a<=b)(hcd:c<=d)(hab':a'<=b')(hcd':c'<=d')
  (hn:∀ p q,NC (rims a b c d) p q->NC (rims a' b' c' d') (T p) (T q)) (h0:∀ p q,NC (rims a b c d) p q->f0 a' b' c' d' (T p,T q)=k*f0 a b c d (p,q)+(i q - i p)) (p q:Pt) :
  boxG a' b' c' d' (T p,T q)=k*boxG a b c d (p,q)+(i q - i p):=by
 refine zHP zMr ((zH7 hab' hcd').comp hT) (((zH7 hab hcd).mul k).add (zQV i)) (L:=rims a b c d) (fun p q _ _ n=>?_) p q trivial trivial;show boxG a' b' c' d' (T p,T q)=k*boxG a b c d (p,q)+(i q - i p);rw [zFR (hn p q n),zFR n,h0 p q n]
theorem zFm {a b c d:Rat}(hab:a<=b)(hcd:c<=d)(H:Rat)(ps:List Pt):zA2 (boxG (H - d) (H - c) a b) (ps.map (qtT H))=zA2 (boxG a b c d) ps:=by
 rw [zEU,zDT (k:=1) (i:=fun p=>uQ a b p.1*(clp c d p.2 - c)) (g:=boxG a b c d) fun p q=>?_]
 .grind
 .refine zEm (i:=fun p=>uQ a b p.1*(clp c d p.2 - c)) (zS1 H) hab hcd (by grind) (by grind) (fun p q n=>?_) (fun p q n=>?_) p q
  .rw [zJl] at n ⊢;unfold qtT zAL at *;dsimp only;grind
  .have k:∀ z:Rat,clp (H - d) (H - c) (H - z)=H - clp c d z:=fun z=>by unfold clp;grind
   unfold f0 uQ qtT;dsimp only;rw [k,k];grind
theorem zGY {a b c d:Rat}(hab:a<=b)(hcd:c<=d)(W:Rat)(ps:List Pt):zA2 (boxG (W - b) (W - a) c d) (ps.map (mrT W))=-zA2 (boxG a b c d) ps:=by
 rw [zEU,zDT (k:=-1) (i:=fun p=>-(b - a)*clp c d p.2) (g:=boxG a b c d) fun p q=>?_]
 .grind
 .refine zEm (i:=fun p=>-(b - a)*clp c d p.2) (zS2 W) hab hcd (by grind) (by grind) (fun p q n=>?_) (fun p q n=>?_) p q
  .rw [zJl] at n ⊢;unfold mrT zAL at *;dsimp only;grind
  .have k:∀ z:Rat,clp (W - b) (W - a) (W - z)=W - clp a b z:=fun z=>by unfold clp;grind
   unfold f0 uQ mrT;dsimp only;rw [k,k];grind
end DM
end
section
namespace DL
open PySem L2
def Bd (n:Nat)(i:Int):Prop:=i.natAbs < 2^n
theorem zFS {n:Nat}{i:Int}(h:Bd n i):Builtin.Int.intBits i<=n:=by
 unfold Builtin.Int.intBits;split
 .exact zero_le _
 .rename_i hz;have hp:i.natAbs≠0:=by
   intro z;apply hz;have:i=0:=by omega
   subst this;rfl
  exact (Nat.log2_lt hp).mpr h
theorem zJo {m n:Nat}{i j:Int}(h1:Bd m i)(h2:Bd n j)(h3:m+n<=134217728):IntMulOk i j:=IntMulOk.of_le (zFS h1) (zFS h2) h3
theorem zJn {i j:Int}(h:j.natAbs < 2^64):IntMulOk i j:=IntMulOk.of_right (zFS (n:=64) h)
theorem zDW {i j:Int}(h:i.natAbs < 2^64):IntMulOk i j:=IntMulOk.of_left (zFS (n:=64) h)
theorem Bd.mono {m n:Nat}{i:Int}(h:Bd m i)(l:m<=n):Bd n i:=lt_of_lt_of_le h (Nat.pow_le_pow_right (by decide) l)
theorem zBg {m n:Nat}{i j:Int}(h1:Bd m i)(h2:Bd n j):Bd (m+n) (i*j):=by
 unfold Bd at *;rw [Int.natAbs_mul,Nat.pow_add];exact Nat.mul_lt_mul'' h1 h2
theorem zHX (m n:Nat):2^m+2^n<=2^(Nat.max m n+1):=by
 have h1:2^m<=2^(Nat.max m n):=Nat.pow_le_pow_right (by decide) (Nat.le_max_left m n);have h2:2^n<=2^(Nat.max m n):=Nat.pow_le_pow_right (by decide) (Nat.le_max_right m n);rw [Nat.pow_succ];omega
theorem zSw {m n:Nat}{i j:Int}(h1:Bd m i)(h2:Bd n j):Bd (Nat.max m n+1) (i+j):=by
 unfold Bd at *;have:=zHX m n;have:=Int.natAbs_add_le i j;omega
theorem zSv {m n:Nat}{i j:Int}(h1:Bd m i)(h2:Bd n j):Bd (Nat.max m n+1) (i - j):=by
 unfold Bd at *;have:=zHX m n;have:=Int.natAbs_sub_le i j;omega
def ratD (q:Rat):D:=.tup [.int q.num,.int (q.den:Int)]
structure RB (n:Nat)(q:Rat):Prop where
 num:Bd n q.num
 den:Bd n (q.den:Int)
theorem RB.mono {m n:Nat}{q:Rat}(h:RB m q)(l:m<=n):RB n q:=⟨h.num.mono l,h.den.mono l⟩
theorem zFq {n:Nat}{t b:Int}(hb:b≠0)(h1:Bd n t)(h2:Bd n b):RB n (Rat.divInt t b) :=
 ⟨Nat.lt_of_le_of_lt (DM.zRT t b hb) h1,Nat.lt_of_le_of_lt (by simpa using DM.zSn t b hb) h2⟩
theorem zA7 (q:Rat):(q.den:Int)≠0:=by have:=q.den_nz;omega
theorem zQL (q:Rat):(0:Int) < (q.den:Int):=by have:=q.den_nz;omega
theorem zOE (p q:Rat):p+q=Rat.divInt (p.num*q.den+q.num*p.den) (p.den*q.den):=by
 have:=Rat.divInt_add_divInt p.num q.num (zA7 p) (zA7 q);rw [Rat.num_divInt_den,Rat.num_divInt_den] at this;exact this
theorem zNH (p q:Rat):p - q=Rat.divInt (p.num*q.den - q.num*p.den) (p.den*q.den):=by
 have:=Rat.divInt_sub_divInt p.num q.num (zA7 p) (zA7 q);rw [Rat.num_divInt_den,Rat.num_divInt_den] at this;exact this
theorem zNi (p q:Rat):p*q=Rat.divInt (p.num*q.num) (p.den*q.den):=by
 have:=Rat.divInt_mul_divInt p.num q.num (d₁:=p.den) (d₂:=q.den);rw [Rat.num_divInt_den,Rat.num_divInt_den] at this;exact this
theorem zN5 (p q:Rat):p / q=Rat.divInt (p.num*q.den) (p.den*q.num):=by
 have e:q⁻¹=Rat.divInt q.den q.num:=by
  conv=>lhs;rw [<- Rat.num_divInt_den q,Rat.inv_divInt]
 rw [Rat.div_def,e];have:=Rat.divInt_mul_divInt p.num (q.den:Int) (d₁:=p.den) (d₂:=q.num);rw [Rat.num_divInt_den] at this;exact this
theorem zDV {a b:Int}(h1:a≠0)(h2:b≠0):a*b≠0:=Int.mul_ne_zero h1 h2
theorem zDt {m n:Nat}{p q:Rat}(h1:RB m p)(h2:RB n q):RB (m+n+1) (p+q):=by
 rw [zOE];refine zFq (zDV (zA7 p) (zA7 q)) ?_ ((zBg h1.den h2.den).mono (by omega));refine (zSw (zBg h1.num h2.den) (zBg h2.num h1.den)).mono ?_;rw [Nat.add_comm n m];show Nat.max (m+n) (m+n)+1<=_;have:Nat.max (m+n) (m+n)=m+n:=Nat.max_self _;omega
theorem zB8 {m n:Nat}{p q:Rat}(h1:RB m p)(h2:RB n q):RB (m+n+1) (p - q):=by
 rw [zNH];refine zFq (zDV (zA7 p) (zA7 q)) ?_ ((zBg h1.den h2.den).mono (by omega));refine (zSv (zBg h1.num h2.den) (zBg h2.num h1.den)).mono ?_;rw [Nat.add_comm n m];have:Nat.max (m+n) (m+n)=m+n:=Nat.max_self _;omega
theorem zHT {m n:Nat}{p q:Rat}(h1:RB m p)(h2:RB n q):RB (m+n) (p*q):=by
 rw [zNi];exact zFq (zDV (zA7 p) (zA7 q)) (zBg h1.num h2.num) (zBg h1.den h2.den)
theorem zNg {q:Rat}(h:q≠0):q.num≠0:=fun z=>h (Rat.num_eq_zero.mp z)
theorem zGZ {m n:Nat}{p q:Rat}(hq:q≠0)(h1:RB m p)(h2:RB n q):RB (m+n) (p / q):=by
 rw [zN5];exact zFq (zDV (zA7 p) (zNg hq)) (zBg h1.num h2.den) (zBg h1.den h2.num)
theorem zDs {n:Nat}{i:Int}(h:Bd n i)(h1:1<=n):RB n (i:Rat):=by
 refine ⟨?_,?_⟩
 .simpa using h
 .show (((i:Rat).den:Int)).natAbs < 2^n;have e:(i:Rat).den=1:=rfl;rw [e];exact Nat.one_lt_two_pow (by omega)
def zRX:S:=.cons (.whl (.cmp .Gt (.var 1) (.int 0)) (.cons (.set 2 (.bin .Mod (.var 0) (.var 1))) (.cons (.set 0 (.var 1)) (.cons (.set 1 (.var 2)) .nil)))) (.cons (.ret (.var 0)) .nil)
theorem x_bl {b:Bool}{k:Kd}{P:Bool->Prop}(h:P b):∃ c,((D.bl b,k):R).1=.bl c/\P c:=⟨b,rfl,h⟩
theorem zS8 {i:Int}{k:Kd}{P:Int->Prop}(h:P i):∃ j,((D.int i,k):R).1=.int j/\P j:=⟨i,rfl,h⟩
theorem x_cl {d:D}{P:Bool->Prop}(h:P false):∃ o,ownK ((d,Kd.cl):R).2=some o/\P o:=⟨false,rfl,h⟩
theorem x_fr {d:D}{P:Bool->Prop}(h:P true):∃ o,ownK ((d,Kd.fr):R).2=some o/\P o:=⟨true,rfl,h⟩
theorem n_cl {d:D}{P:Prop}(h:P):((d,Kd.cl):R).2≠.dt/\P:=⟨(fun z=>nomatch z),h⟩
theorem n_fr {d:D}{P:Prop}(h:P):((d,Kd.fr):R).2≠.dt/\P:=⟨(fun z=>nomatch z),h⟩
theorem y_l {ds:List D}{k:Kd}{P:List D->Prop}(h:P ds):∃ d,((D.lst ds,k):R).1=.lst d/\P d:=⟨ds,rfl,h⟩
theorem zMF {q:Rat}{Q:R->Prop}(h:Q (.int q.num,.cl)):EvP (ixD (ratD q) (.int 0)) Q:=zDL rfl h
theorem zMG {q:Rat}{Q:R->Prop}(h:Q (.int (q.den:Int),.cl)):EvP (ixD (ratD q) (.int 1)) Q:=zDL rfl h
theorem zRn {q:Rat}{Q:R->Prop}(h:Q (.bl true,.cl)):EvP (isiF .tuple (ratD q)) Q:=⟨_,rfl,h⟩
theorem zTd {q:Rat}{Q:R->Prop}(h:Q (.int 2,.cl)):EvP (lenD (ratD q)) Q:=zMD h
end DL
end
open PySem L2 DL
open PySem L2 DL
local macro_rules | `(tactic| walk_at "s")=>`(tactic| simp only [List.set_cons_zero,List.set_cons_succ])
local macro_rules | `(tactic| walk_at "ev")=>`(tactic| first
 | ((with_reducible show EvP (evE _ (E.var _) _) _);first | refine zAG rfl ?_ | refine zT5 rfl ?_)
 | (with_reducible first | refine zAa ?_ | refine zSW ?_ | refine zBY ?_ | refine zBX ?_ | refine zA6 ?_ | refine zDX ?_ | refine zSU ?_ | refine zBF ?_ | refine zSX ?_ | refine zN0 ?_ | refine zBe ?_ | refine zEA ?_ | refine zTh ?_ | refine zTi ?_ | refine is_bb ?_ | refine is_tt ?_ | refine zKA ?_ | refine zRn ?_ | refine zP1 ?_ | refine zDY ?_ | refine zFG ?_ | refine zP2 ?_ | refine zDZ ?_ | refine zDB ?_ | refine zN1 ?_ | refine zAo ?_ | refine zAF ?_ | refine ls_nil ?_ | refine ls_cons ?_ | refine zGs ?_ | refine zST ?_ | refine ev_min ?_ | refine zPz ?_ | refine zSf ?_ | refine zQI ?_ | refine zNz ?_ | refine ev_str ?_ | refine zK9 ?_ | refine zIk ?_ | refine c_lt ?_ | refine c_le ?_ | refine c_gt ?_ | refine c_ge ?_ | refine zUB ?_ | refine zG4 ?_ | refine c_eqB ?_ | refine c_neB ?_ | refine zMF ?_ | refine zMG ?_ | refine zEO ?_ | refine zMD ?_ | refine zTd ?_ | refine zUE ?_ | refine zNF ?_ | refine t_listT ?_ | refine zTZ ?_ | refine m_min ?_ | refine zAw ?_ | refine zAE ?_ | refine zEc ?_ | refine zGv ?_ | refine zCi ?_ | refine zCO ?_ | refine es_retN ?_ | refine es_drop ?_ | refine zN2 ?_ | refine zB3 ?_ | refine es_for2 ?_ | refine zEv ?_ | refine zIK ?_ | refine sr_r2 ?_ | refine zQm ?_ | refine zDC ?_ | refine zKa ?_ | refine w_cl ?_ | refine w_fr ?_ | refine w_tu ?_) | ((with_reducible refine k_nx ?_);try (walk_at "s")) | (with_reducible first | refine k_rt ?_ | refine k_bk ?_ | refine k_ct ?_ | refine zTe ?_ | refine kd_nx ?_ | refine y_cl ?_ | refine y_fr ?_ | refine y_l ?_ | refine y_t ?_ | refine zNx ?_) | ((with_reducible refine kf_nx ?_);try (walk_at "s")) | (with_reducible first | refine kf_ct ?_ | refine kf_bk ?_ | refine kf_rt ?_ | refine fl_b ?_ | refine fl_i ?_ | refine cb_t ?_ | refine cb_f ?_ | refine zEH ?_ | refine x_bl ?_ | refine zS8 ?_ | refine x_cl ?_ | refine x_fr ?_ | refine n_cl ?_ | refine n_fr ?_)
 | ((with_reducible show EvP (forD (tg1 _) _ (_::_) _) _);refine zKW rfl ?_;try (walk_at "s")) | ((with_reducible show EvP (ixD (D.lst (_::_)) (D.int _)) _);refine zAz rfl ?_)
 | ((with_reducible show List.length _<=10000/\_);refine ⟨zzb rfl,?_⟩) | ((with_reducible show EvP (evE _ (E.call _ _ _) _) _);refine zAS rfl ?_) | ((with_reducible show EvP (evE _ (E.lend _ _ _) _) _);refine ev_lend rfl ?_) | ((with_reducible show EvP (evE _ (E.glob _ _) _) _);refine zFF rfl ?_)
 | ((with_reducible show EvP (ixD (D.tup _) (D.int _)) _);refine zDL rfl ?_) | ((with_reducible show EvP (evS _ (S.retOwn _) _) _);refine zKk rfl ?_) | ((with_reducible show EvP (evSs _ (S.frz _ _) _) _);first | refine zKZ rfl ?_ | (refine zHq rfl ?_;try (walk_at "s"))))
local macro_rules | `(tactic| walk_at "st")=>`(tactic| simp only [map_cons,map_nil,cons_append,nil_append,replicate_succ,List.replicate_zero,Nat.reduceSub,append_nil,List.replicate])
open PySem L2 DL
local macro_rules | `(tactic| walk_at "w")=>`(tactic| (repeat walk_at "ev"))
open PySem L2 DL
local macro_rules | `(tactic| walk_at "d")=>`(tactic| refine zT3 rfl (by decide) ?_)
section
namespace DL
open PySem L2
theorem zJt {C:Gm}{Q:Out->Prop}:∀ (n:Nat) (a b:Int) (r:Option (D×Bool)),b.toNat<=n->0<=a->0<=b->(∀ r',Q (.nx [some (.int (Int.gcd a b:Int),false),some (.int 0,false),r'])) ->
  EvP (zBS (asB (evE C (.cmp .Gt (.var 1) (.int 0)))) (evSs C (.cons (.set 2 (.bin .Mod (.var 0) (.var 1))) (.cons (.set 0 (.var 1)) (.cons (.set 1 (.var 2)) .nil)))) [some (.int a,false),some (.int b,false),r]) Q:=by
 intro n
 induction n with
 | zero =>
  intro a b r hn ha hb q;have e:b=0:=by omega
  subst e;refine zCF (as_b ?_);(walk_at "w");refine zCS (Int.lt_irrefl 0) ?_;have:(Int.gcd a 0:Int)=a:=by rw [Int.gcd_zero_right];omega
  rw [this] at q;exact q r
 | succ n ih =>
  intro a b r hn ha hb q;by_cases e:b=0
  .subst e;refine zCF (as_b ?_);(walk_at "w");refine zCS (Int.lt_irrefl 0) ?_;have:(Int.gcd a 0:Int)=a:=by rw [Int.gcd_zero_right];omega
   rw [this] at q;exact q r
  .refine zCF (as_b ?_);(walk_at "w");refine zBt (show 0 < b by omega) ?_;(walk_at "w");refine zCd e ?_;(walk_at "w");have h1:=fmod_nonneg_of_pos a (show 0 < b by omega);have h2:=fmod_lt_of_pos a (show 0 < b by omega);refine ih b (a.fmod b) (some (.int (a.fmod b),false)) (by omega) hb h1 fun r'=>?_
   rw [DM.zMU ha (by omega)];exact q r'
theorem zJs {C:Gm}{a b:Int}{Q:R->Prop}(ha:0<=a)(hb:0<=b)(h:Q (.int (Int.gcd a b:Int),.cl)):EvP (dFun 2 3 (evSs C zRX) [.int a,.int b]) Q:=by
 (walk_at "d");unfold zRX
 walk_at "ev"
 walk_at "ev"
 refine zJt b.toNat a b none (le_refl _) ha hb fun r'=>?_
 (walk_at "w");exact h
def zM6:S:=.cons (.ret (.andl (.cons (.isi .int (.var 0)) (.cons (.not (.isi .bool (.var 0))) .nil)))) .nil
theorem zLR {C:Gm}{i:Int}{Q:R->Prop}(h:Q (.bl true,.cl)):EvP (dFun 1 1 (evSs C zM6) [.int i]) Q:=by
 (walk_at "d");unfold zM6;(walk_at "w");exact h
def isB (nw nm:Nat):S:=.cons (.ife (.orl (.cons (.not (.isi .tuple (.var 0))) (.cons (.cmp .NotEq (.len (.var 0)) (.int 2)) .nil))) (.cons (.ret (.bl false)) .nil) .nil) (.cons (.ife (.orl (.cons (.not (.call nw "_law_whole" (.cons (.ix (.var 0) (.int 0)) .nil))) (.cons (.not (.call nw "_law_whole" (.cons (.ix (.var 0) (.int 1)) .nil))) (.cons (.cmp .Lt (.ix (.var 0) (.int 1)) (.int 1)) .nil)))) (.cons (.ret (.bl false)) .nil) .nil) (.cons (.ret (.andl (.cons (.cmp .Eq (.bin .Mult (.ix (.var 0) (.int 0)) (.var 2)) (.bin .Mult (.var 1) (.ix (.var 0) (.int 1)))) (.cons (.cmp .Eq (.call nm "_law_most" (.cons (.abs (.ix (.var 0) (.int 0))) (.cons (.ix (.var 0) (.int 1)) .nil))) (.int 1)) .nil)))) .nil))
def zOF (F:List D->Option R):Prop:=∀ (i:Int) (Q:R->Prop),Q (.bl true,.cl)->EvP (F [.int i]) Q
def zIo (F:List D->Option R):Prop:=∀ (a b:Int) (Q:R->Prop),0<=a->0<=b->Q (.int (Int.gcd a b:Int),.cl)->EvP (F [.int a,.int b]) Q
theorem zTg {C:Gm}{nw nm:Nat}{Fw Fm:List D->Option R}(ew:C.fns[nw]?=some (("_law_whole":Str),Fw))(em:C.fns[nm]?=some (("_law_most":Str),Fm))(hw:zOF Fw)(hm:zIo Fm){q:Rat}{t b:Int}{Q:R->Prop}(l1:IntMulOk q.num b)(l2:IntMulOk t q.den)
  (h:Q (.bl (decide (q.num*b=t*q.den)),.cl)):EvP (dFun 3 3 (evSs C (isB nw nm)) [ratD q,.int t,.int b]) Q:=by
 (walk_at "d");unfold isB;(walk_at "w");refine zBt rfl ?_;(walk_at "w");refine zAS ew ?_;(walk_at "w");refine hw _ _ ?_;(walk_at "w");refine zAS ew ?_;(walk_at "w");refine hw _ _ ?_;(walk_at "w");have hd:=zQL q;refine zCS (by omega) ?_;(walk_at "w");refine zBI l1 ?_;(walk_at "w");refine zBI l2 ?_;(walk_at "w");refine zBK (fun e=>?_) fun e=>?_
 .refine zFG (zBX (zAS em ?_));(walk_at "w");refine hm _ _ _ (Int.natCast_nonneg _) (Int.natCast_nonneg _) ?_;(walk_at "w");have g:((Int.gcd (q.num.natAbs:Int) (q.den:Int):Nat):Int)=1:=by
   have:=DM.zGn q;unfold Int.gcd at this ⊢;simp only [Int.natAbs_natCast] at this ⊢;omega
  rw [decide_eq_true g];rw [decide_eq_true e] at h;exact h
 .rw [decide_eq_false e] at h;(walk_at "w");exact h
def IsF (F:List D->Option R):Prop:=∀ (q:Rat) (t b:Int) (Q:R->Prop),IntMulOk q.num b->IntMulOk t q.den->Q (.bl (decide (q.num*b=t*q.den)),.cl)->EvP (F [ratD q,.int t,.int b]) Q
def zLY (nm:Nat)(f:Str):S:=.cons (.set 2 (.call nm f (.cons (.abs (.var 0)) (.cons (.abs (.var 1)) .nil)))) (.cons (.ife (.cmp .Lt (.var 1) (.int 0)) (.cons (.set 2 (.neg (.var 2))) .nil) .nil) (.cons (.ret (.tup (.cons (.bin .FloorDiv (.var 0) (.var 2)) (.cons (.bin .FloorDiv (.var 1) (.var 2)) .nil)))) .nil))
theorem zPn (t b:Int):((Int.gcd (t.natAbs:Int) (b.natAbs:Int):Nat):Int)=(Int.gcd t b:Int):=by
 unfold Int.gcd;simp only [Int.natAbs_natCast]
theorem zO8 {t b:Int}(hb:b≠0)(sb:Bd 60000000 b)(i:Int):zIp i (DM.msr t b):=DM.zRW hb
theorem zIv {C:Gm}{nm:Nat}{f:Str}{Fm:List D->Option R}(em:C.fns[nm]?=some (f,Fm))(hm:zIo Fm){t b:Int}{x:Option (D×Bool)}{Q:Out->Prop}(hb:b≠0)(sb:Bd 60000000 b)
  (h:Q (.rt (ratD (Rat.divInt t b),.cl))):EvP (evSs C (zLY nm f) [some (.int t,false),some (.int b,false),x]) Q:=by
 unfold zLY;refine zAE (zEc (zAS em ?_));(walk_at "w");refine hm _ _ _ (Int.natCast_nonneg _) (Int.natCast_nonneg _) ?_;rw [zPn];(walk_at "w");have fin:∀ g:Int,g=DM.msr t b->Q (.rt (.tup [.int (t.fdiv g),.int (b.fdiv g)],.cl)):=fun g e=>by
  subst e;rw [DM.zJq hb,DM.zO9 hb];exact h
 have dv:∀ g i:Int,g=DM.msr t b->zIp i g:=fun g i e=>by subst e;exact zO8 hb sb i
 refine zBK (fun c=>?_) fun c=>?_
 .have e:(-(Int.gcd t b:Int))=DM.msr t b:=by unfold DM.msr;rw [if_pos c]
  (walk_at "w");refine zDQ (dv _ _ e) ?_;(walk_at "w");refine zDQ (dv _ _ e) ?_;(walk_at "w");exact fin _ e
 .have e:(Int.gcd t b:Int)=DM.msr t b:=by unfold DM.msr;rw [if_neg c]
  (walk_at "w");refine zDQ (dv _ _ e) ?_;(walk_at "w");refine zDQ (dv _ _ e) ?_;(walk_at "w");exact fin _ e
def zDb (F:List D->Option R):Prop:=∀ (t b:Int) (Q:R->Prop),b≠0->Bd 60000000 b->Q (ratD (Rat.divInt t b),.cl)->EvP (F [.int t,.int b]) Q
theorem zJ0 {C:Gm}{nm:Nat}{Fm:List D->Option R}(em:C.fns[nm]?=some (("_law_most":Str),Fm))(hm:zIo Fm):zDb (dFun 2 3 (evSs C (zLY nm "_law_most"))):=fun t b Q hb sb h=>by
 (walk_at "d");exact zIv em hm hb sb h
def zNQ (nm:Nat)(x:S):S:=.cons (.ife (.cmp .Eq (.var 1) (.int 0)) (.cons x .nil) .nil) (zLY nm "common_measure")
theorem zLj {C:Gm}{nm:Nat}{x:S}{Fm:List D->Option R}(em:C.fns[nm]?=some (("common_measure":Str),Fm))(hm:zIo Fm):zDb (dFun 2 3 (evSs C (zNQ nm x))):=fun t b Q hb sb h=>by
 (walk_at "d");unfold zNQ;(walk_at "w");refine zCS hb ?_;(walk_at "w");exact zIv em hm hb sb h
def cel (ns:List Int)(k:Int):Int :=
 if k < (ns.length:Int) then ns.getD k.toNat 0 else
  let seed:=if (0:Int) < (ns.length:Int) then k*7919+(ns.getD (k.fmod (ns.length:Int)).toNat 0).fmod 65537 else k*7919
  let some:=(seed*48271).fmod 65537
  ((some*(some+2*k+1)).fdiv 7).fmod 65521
def zSr:S:=.cons (.ife (.cmp .Lt (.var 1) (.len (.var 0))) (.cons (.ret (.ix (.var 0) (.var 1))) .nil) .nil) (.cons (.set 2 (.bin .Mult (.var 1) (.int 7919))) (.cons (.ife (.cmp .Gt (.len (.var 0)) (.int 0)) (.cons (.set 2 (.bin .Add (.var 2) (.bin .Mod (.ix (.var 0) (.bin .Mod (.var 1) (.len (.var 0)))) (.int 65537)))) .nil) .nil) (.cons (.set 3 (.bin .Mod (.bin .Mult (.var 2) (.int 48271)) (.int 65537))) (.cons (.ret (.bin .Mod (.bin .FloorDiv (.bin .Mult (.var 3) (.bin .Add (.bin .Add (.var 3) (.bin .Mult (.int 2) (.var 1))) (.int 1))) (.int 7)) (.int 65521))) .nil))))
def scr (ns:List Int):D:=.lst (ns.map D.int)
theorem zHN {ns:List Int}{k:Int}(h0:0<=k)(h1:k < (ns.length:Int)):atI (ns.map D.int) k=some (.int (ns.getD k.toNat 0)):=by
 have hk:k.toNat < ns.length:=by omega
 have ek:k=((k.toNat:Nat):Int):=by omega
 have q:atI (ns.map D.int) ((k.toNat:Nat):Int)=some (.int (ns.getD k.toNat 0)):=zAq (by
  rw [getElem?_map,getElem?_eq_getElem hk,getD_eq_getElem?_getD,getElem?_eq_getElem hk]
  rfl)
 rw [<- ek] at q;exact q
def zS6 (F:List D->Option R):Prop:=∀ (ns:List Int) (k:Int) (Q:R->Prop),0<=k->Q (.int (cel ns k),.cl)->EvP (F [scr ns,.int k]) Q
theorem zFd (x:Int){m:Int}(h0:0 < m)(h1:m < 2^64):(x.fmod m).natAbs < 2^64:=by
 have a:=fmod_nonneg_of_pos x h0;have b:=fmod_lt_of_pos x h0;omega
theorem zCP {i j:Int}(h:j≠0)(h2:j.natAbs < 2^64):zIp i j:=h
theorem zQM {C:Gm}:zS6 (dFun 2 4 (evSs C zSr)):=fun ns k Q h0 h=>by
 (walk_at "d");unfold zSr;have el:((ns.map D.int).length:Int)=(ns.length:Int):=by rw [length_map]
 refine zAE (zCi (zBX (zAG rfl (zBF (zAG rfl ?_)))));show EvP (lenD (.lst (ns.map D.int))) _;(walk_at "w");rw [el];refine zBK (fun c=>?_) fun c=>?_
 .refine zAE (zCO (zA6 (zAG rfl (zAG rfl ?_))));show EvP (ixD (.lst (ns.map D.int)) (.int k)) _;refine zAz (zHN h0 c) ?_;have e:cel ns k=ns.getD k.toNat 0:=by unfold cel;rw [if_pos c]
  rw [e] at h;(walk_at "w");exact h
 .unfold cel at h;rw [if_neg c] at h;(walk_at "w");refine zBI (zJn (by decide)) ?_;(walk_at "w");refine (show EvP (lenD (.lst (ns.map D.int))) _ from ?_);(walk_at "w");rw [el];refine zBK (fun c2=>?_) fun c2=>?_
  .rw [if_pos c2] at h;(walk_at "w");refine (show EvP (lenD (.lst (ns.map D.int))) _ from ?_);(walk_at "w");rw [el];refine zCd (by omega) ?_;refine (show EvP (ixD (.lst (ns.map D.int)) (.int (k.fmod (ns.length:Int)))) _ from ?_);refine zAz (zHN (fmod_nonneg_of_pos k c2) (fmod_lt_of_pos k c2)) ?_;(walk_at "w");refine zCd (by decide) ?_;(walk_at "w");refine zBI (zJn (by decide)) ?_;(walk_at "w");refine zCd (by decide) ?_;(walk_at "w");refine zBI (zDW (by decide)) ?_;(walk_at "w");refine zBI (zDW (zFd _ (by decide) (by decide))) ?_;(walk_at "w");refine zDQ (zCP (by decide) (by decide)) ?_;(walk_at "w");refine zCd (by decide) ?_;(walk_at "w");exact h
  .rw [if_neg c2] at h;(walk_at "w");refine zBI (zJn (by decide)) ?_;(walk_at "w");refine zCd (by decide) ?_;(walk_at "w");refine zBI (zDW (by decide)) ?_;(walk_at "w");refine zBI (zDW (zFd _ (by decide) (by decide))) ?_;(walk_at "w");refine zDQ (zCP (by decide) (by decide)) ?_;(walk_at "w");refine zCd (by decide) ?_;(walk_at "w");exact h
theorem zC8 {n:Nat}{i:Int}{k:Nat}(h:i.natAbs<=k)(h2:k < 2^n):Bd n i:=Nat.lt_of_le_of_lt h h2
mutual
theorem zHv:∀ d:D,PyData.eqv (toPy d) (toPy d)=true
 | .non=>by simp [toPy,PyData.eqv]
 | .bl b=>by simp [toPy,PyData.eqv]
 | .int i=>by simp [toPy,PyData.eqv]
 | .str x=>by simp [toPy,PyData.eqv]
 | .tup ds=>by
  rw [toPy,PyData.eqv];exact eqbL_self ds
 | .lst ds=>by
  rw [toPy,PyData.eqv];exact eqbL_self ds
 | .exc _=>by simp [toPy,PyData.eqv]
 | .dct _=>by simp [toPy,PyData.eqv]
 | .lam _ _ _=>by simp [toPy,PyData.eqv]
theorem eqbL_self:∀ ds:List D,PyData.eqvAll (toPyL ds) (toPyL ds)=true
 | []=>by simp [toPyL,PyData.eqvAll]
 | d::ds=>by
  rw [toPyL,PyData.eqvAll,zHv d,eqbL_self ds]
  rfl
end
theorem zFH (d:D):eqb d d=true:=zHv d
def DOk (k:Nat)(d:D):Prop:=(toPy d).canLay0=true/\(toPy d).depth<=k
theorem zKw {k:Nat}(i:Int):DOk k (.int i):=⟨by simp [toPy,PyData.canLay0],by simp [toPy,PyData.depth]⟩
theorem zG0 {k:Nat}:∀ {ds:List D},(∀ d∈ds,DOk k d)->PyData.canLayAll0 (toPyL ds)=true/\PyData.depthAll (toPyL ds)<=k
 | [],_=>⟨by simp [toPyL,PyData.canLayAll0],by simp [toPyL,PyData.depthAll]⟩
 | d::ds,h=>by
  have h1:=h d mem_cons_self;have h2:=zG0 (ds:=ds) fun x z=>h x (mem_cons_of_mem _ z)
  refine ⟨by simp [toPyL,PyData.canLayAll0,h1.1,h2.1],?_⟩;simp only [toPyL,PyData.depthAll];exact Nat.max_le.mpr ⟨h1.2,h2.2⟩
theorem zKs {k:Nat}{ds:List D}(h:∀ d∈ds,DOk k d):DOk (k+1) (.tup ds):=by
 obtain ⟨h1,h2⟩:=zG0 h;exact ⟨by simp [toPy,PyData.canLay0,h1],by simp only [toPy,PyData.depth];omega⟩
theorem zKv {k:Nat}{ds:List D}(h:∀ d∈ds,DOk k d):DOk (k+1) (.lst ds):=by
 obtain ⟨h1,h2⟩:=zG0 h;exact ⟨by simp [toPy,PyData.canLay0,h1],by simp only [toPy,PyData.depth];omega⟩
theorem zFJ (q:Rat):DOk 1 (ratD q):=zKs (k:=0) fun d h=>by
 rcases mem_cons.mp h with rfl | h
 .exact zKw _
 .rcases mem_cons.mp h with rfl | h
  .exact zKw _
  .exact absurd h (by simp)
theorem zGx {x y:D}{m n:Nat}(hx:DOk m x)(hy:DOk n y)(hm:m<=64):EqOk x y:=⟨hx.1,hy.1,le_trans hx.2 hm⟩
theorem zGw (p q:Rat):eqb (ratD p) (ratD q)=decide (p=q):=by
 by_cases h:p=q
 .subst h;rw [zFH,decide_eq_true rfl]
 .rw [decide_eq_false h];unfold eqb ratD;simp only [toPy,toPyL,PyData.eqv,PyData.eqvAll];cases e:(p.num==q.num&&(((p.den:Int)==(q.den:Int))&&true)) with
  | false=>rfl
  | true =>
   simp only [Bool.and_true,and_eq_true,beq_iff_eq] at e;exact absurd (Rat.ext e.1 (by have:=e.2;omega)) h
def zQ1 (nm:Str)(nr:Nat):S:=.cons (.ret (.call nr nm (.cons (.bin .Add (.bin .Mult (.ix (.var 0) (.int 0)) (.ix (.var 1) (.int 1))) (.bin .Mult (.ix (.var 1) (.int 0)) (.ix (.var 0) (.int 1)))) (.cons (.bin .Mult (.ix (.var 0) (.int 1)) (.ix (.var 1) (.int 1))) .nil)))) .nil
def zNj (nm:Str)(nr:Nat):S:=.cons (.ret (.call nr nm (.cons (.bin .Sub (.bin .Mult (.ix (.var 0) (.int 0)) (.ix (.var 1) (.int 1))) (.bin .Mult (.ix (.var 1) (.int 0)) (.ix (.var 0) (.int 1)))) (.cons (.bin .Mult (.ix (.var 0) (.int 1)) (.ix (.var 1) (.int 1))) .nil)))) .nil
def zNC (nm:Str)(nr:Nat):S:=.cons (.ret (.call nr nm (.cons (.bin .Mult (.ix (.var 0) (.int 0)) (.ix (.var 1) (.int 0))) (.cons (.bin .Mult (.ix (.var 0) (.int 1)) (.ix (.var 1) (.int 1))) .nil)))) .nil
def zJT (nm:Str)(nr:Nat):S:=.cons (.ret (.call nr nm (.cons (.bin .Mult (.ix (.var 0) (.int 0)) (.ix (.var 1) (.int 1))) (.cons (.bin .Mult (.ix (.var 0) (.int 1)) (.ix (.var 1) (.int 0))) .nil)))) .nil
def OpF (f:Rat->Rat->Rat)(F:List D->Option R):Prop:=∀ (p q:Rat) (m n:Nat) (Q:R->Prop),RB m p->RB n q->m+n<=60000000->Q (ratD (f p q),.cl)->EvP (F [ratD p,ratD q]) Q
abbrev zIn:=OpF (·+·)
abbrev zEn:=OpF (· - ·)
abbrev zGN:=OpF (·*·)
def zFW (F:List D->Option R):Prop:=∀ (p q:Rat) (m n:Nat) (Q:R->Prop),q≠0->RB m p->RB n q->m+n<=60000000->Q (ratD (p / q),.cl)->EvP (F [ratD p,ratD q]) Q
theorem zB9 {m n:Nat}{i j:Int}(h1:Bd m i)(h2:Bd n j)(h3:m+n<=60000000):IntMulOk i j:=zJo h1 h2 (le_trans h3 (by decide))
section
variable {C:Gm}{nm:Str}{nr:Nat}{Fr:List D->Option R}
theorem zOj (er:C.fns[nr]?=some (nm,Fr))(hr:zDb Fr):zIn (dFun 2 2 (evSs C (zQ1 nm nr))):=fun p q m n Q hp hq l h=>by
 (walk_at "d");unfold zQ1;refine zAE (zCO (zAS er ?_));(walk_at "w");refine zBI (zB9 hp.num hq.den l) ?_;(walk_at "w");refine zBI (zB9 hq.num hp.den (by omega)) ?_;(walk_at "w");refine zBI (zB9 hp.den hq.den l) ?_;(walk_at "w");refine hr _ _ _ (zDV (zA7 p) (zA7 q)) ((zBg hp.den hq.den).mono l) ?_;rw [<- zOE];(walk_at "w");exact h
theorem zHg (er:C.fns[nr]?=some (nm,Fr))(hr:zDb Fr):zEn (dFun 2 2 (evSs C (zNj nm nr))):=fun p q m n Q hp hq l h=>by
 (walk_at "d");unfold zNj;refine zAE (zCO (zAS er ?_));(walk_at "w");refine zBI (zB9 hp.num hq.den l) ?_;(walk_at "w");refine zBI (zB9 hq.num hp.den (by omega)) ?_;(walk_at "w");refine zBI (zB9 hp.den hq.den l) ?_;(walk_at "w");refine hr _ _ _ (zDV (zA7 p) (zA7 q)) ((zBg hp.den hq.den).mono l) ?_;rw [<- zNH];(walk_at "w");exact h
theorem zLX (er:C.fns[nr]?=some (nm,Fr))(hr:zDb Fr):zGN (dFun 2 2 (evSs C (zNC nm nr))):=fun p q m n Q hp hq l h=>by
 (walk_at "d");unfold zNC;refine zAE (zCO (zAS er ?_));(walk_at "w");refine zBI (zB9 hp.num hq.num l) ?_;(walk_at "w");refine zBI (zB9 hp.den hq.den l) ?_;(walk_at "w");refine hr _ _ _ (zDV (zA7 p) (zA7 q)) ((zBg hp.den hq.den).mono l) ?_;rw [<- zNi];(walk_at "w");exact h
theorem zJR (er:C.fns[nr]?=some (nm,Fr))(hr:zDb Fr):zFW (dFun 2 2 (evSs C (zJT nm nr))):=fun p q m n Q hz hp hq l h=>by
 (walk_at "d");unfold zJT;refine zAE (zCO (zAS er ?_));(walk_at "w");refine zBI (zB9 hp.num hq.den l) ?_;(walk_at "w");refine zBI (zB9 hp.den hq.num l) ?_;(walk_at "w");refine hr _ _ _ (zDV (zA7 p) (zNg hz)) ((zBg hp.den hq.num).mono l) ?_;rw [<- zN5];(walk_at "w");exact h
end
theorem zLP:D.tup [.int 0,.int 1]=ratD 0:=rfl
theorem zMK:D.tup [.int 1,.int 2]=ratD (1 / 2):=by
 unfold ratD;rw [show (1 / 2:Rat).num=1 from by decide +kernel,show (1 / 2:Rat).den=2 from by decide +kernel]
 rfl
inductive WB:List Rat->Nat->Prop
 | nil:WB [] 0
 | cons {q:Rat} {m W:Nat} {qs:List Rat}:RB m q->WB qs W->WB (q::qs) (m+1+W)
theorem zM8:∀ {qs:List Rat} {W:Nat},WB qs W->RB (W+1) (DM.sumR qs)
 | [],_,.nil=>⟨by unfold Bd;decide,by unfold Bd;decide⟩
 | _::_,_,.cons h t=>(zDt h (zM8 t)).mono (by omega)
theorem zIq:∀ {qs:List Rat} {W:Nat},WB qs W->WB (DM.nadd qs) W
 | [],_,.nil=>.nil
 | [_],_,.cons h .nil=>.cons h .nil
 | a::b::r,_,.cons (m:=m) h (.cons (m:=n) (W:=W) k t)=>by
  have e:m+1+(n+1+W)=(m+n+1)+1+W:=by omega
  rw [e];exact .cons (zDt h k) (zIq t)
theorem zM7:∀ {qs:List Rat} {W i:Nat} {a b:Rat},WB qs W->qs[i]?=some a->qs[i+1]?=some b->∃ m n,RB m a/\RB n b/\m+n+2<=W
 | [],_,_,_,_,_,h,_=>by simp at h
 | [_],_,_,_,_,_,_,h=>by simp at h
 | x::y::r,_,0,a,b,.cons (m:=m) h (.cons (m:=n) k t),h1,h2=>by
  simp at h1 h2;subst h1 h2;exact ⟨m,n,h,k,by omega⟩
 | x::y::r,_,i+1,a,b,.cons h t,h1,h2=>by
  obtain ⟨m,n,q1,q2,q3⟩:=zM7 (i:=i) t (by simpa using h1) (by simpa using h2);exact ⟨m,n,q1,q2,by omega⟩
theorem zM9 {n:Nat}:∀ {qs:List Rat},(∀ q∈qs,RB n q)->WB qs (qs.length*(n+1))
 | [],_=>by rw [length_nil,Nat.zero_mul];exact .nil
 | q::qs,h=>by
  rw [length_cons,Nat.succ_mul,Nat.add_comm];exact .cons (h q mem_cons_self) (zM9 fun x z=>h x (mem_cons_of_mem _ z))
def zRV (np:Nat):S:=.cons (.setC 1 (.comp1 2 [] "k" (.r3 (.int 0) (.bin .Sub (.len (.var 0)) (.int 1)) (.int 2)) .nil (.call np "plus" (.cons (.ix (.var 0) (.var 2)) (.cons (.ix (.var 0) (.bin .Add (.var 2) (.int 1))) .nil))))) (.cons (.ife (.cmp .Eq (.bin .Mod (.len (.var 0)) (.int 2)) (.int 1)) (.cons (.app 1 (.ix (.var 0) (.neg (.int 1)))) .nil) .nil) (.cons (.retOwn 1) .nil))
def zNB (nn ng:Nat):S:=.cons (.set 1 (.list (.var 0))) (.cons (.whl (.cmp .Gt (.len (.var 1)) (.int 1)) (.frz 1 (.cons (.set 1 (.call nn "neighbours_added" (.cons (.var 1) .nil))) .nil))) (.cons (.ret (.ite (.cmp .Eq (.len (.var 1)) (.int 1)) (.ix (.var 1) (.int 0)) (.glob ng "NOUGHT"))) .nil))
def zBH (qs:List Rat):D:=.lst (qs.map ratD)
theorem zJE {qs:List Rat}{i:Nat}{q:Rat}(h:qs[i]?=some q):atI (qs.map ratD) (i:Int)=some (ratD q):=zAq (by rw [getElem?_map,h];rfl)
theorem zKG (n:Nat):(Builtin.Range.rangeSize 0 ((n:Int) - 1) 2).toNat=n / 2:=by
 unfold Builtin.Range.rangeSize;simp only [show (2:Int)>0 by decide,if_true];split<;>omega
theorem zPT {n:Nat}(h:n<=10000):ROk 0 ((n:Int) - 1) 2:=by
 refine ⟨by decide,by decide,?_⟩;unfold Builtin.Range.small Builtin.Range.rangeSize;simp only [Builtin.Range.rangeFitsLong,and_eq_true,Bool.or_eq_true,decide_eq_true_eq,beq_iff_eq,show (2:Int)>0 by decide,if_true];split<;>omega
def zM5 (F:List D->Option R):Prop:=∀ (qs:List Rat) (W:Nat) (Q:R->Prop),WB qs W->W<=60000000->qs.length<=10000->Q (zBH (DM.nadd qs),.fr)->EvP (F [zBH qs]) Q
def zRD (qs:List Rat):D->D
 | .int k=>ratD (qs.getD k.toNat 0+qs.getD (k.toNat+1) 0)
 | d=>d
theorem zKU {qs:List Rat}{i:Nat}{q:Rat}(h:qs[i]?=some q):qs.getD i 0=q:=by rw [getD_eq_getElem?_getD,h];rfl
theorem zO7 {C:Gm}{np:Nat}{Fp:List D->Option R}(ep:C.fns[np]?=some (("plus":Str),Fp))(hp:zIn Fp):zM5 (dFun 1 2 (evSs C (zRV np))):=fun qs W Q wb hW hl h=>by
 (walk_at "d");unfold zRV;(walk_at "st");refine zAE (zGv (zDC (zQm ?_)));have el:((qs.map ratD).length:Int)=(qs.length:Int):=by rw [length_map]
 walk_at "ev"
 refine zBY (zBF (zAG rfl ?_));refine (show EvP (lenD (.lst (qs.map ratD))) _ from ?_);(walk_at "w");rw [el];refine ⟨_,_,_,rfl,rfl,rfl,zPT hl,?_⟩;rw [zKG];have ln:(rngS 0 2 (qs.length / 2)).length<=10000:=by unfold rngS;rw [length_map,length_range];omega
 refine ⟨ln,?_⟩;show EvP (zBb (tg1 2) (evC C .nil) _ _ ([some (zBH qs,false),none]++[none])) _;refine zEe (n:=2) (base:=[some (zBH qs,false),none]) rfl (zRD qs) _ _ (fun z hz=>?_) ?_
 .unfold rngS at hz;obtain ⟨i,hi,rfl⟩:=mem_map.mp hz;have hi':=mem_range.mp hi;have h1:2*i < qs.length:=by omega
  have h2:2*i+1 < qs.length:=by omega
  have e1:qs[2*i]?=some qs[2*i]:=by simp [h1]
  have e2:qs[2*i+1]?=some qs[2*i+1]:=by simp [h2]
  obtain ⟨m,n,r1,r2,r3⟩:=zM7 wb e1 e2;have ek:(0:Int)+(i:Int)*2=((2*i:Nat):Int):=by omega
  have ek2:((2*i:Nat):Int)+1=((2*i+1:Nat):Int):=by omega
  rw [ek];refine zAS ep (zAF (zA6 (zAG rfl (zAG rfl ?_))));refine zAz (zJE e1) ?_;(walk_at "w");rw [ek2];refine (show EvP (ixD (.lst (qs.map ratD)) (.int ((2*i+1:Nat):Int))) _ from ?_);refine zAz (zJE e2) ?_;(walk_at "w");refine hp _ _ m n _ r1 r2 (by omega) ?_;(walk_at "w");show _=ratD _;rw [toNat_natCast,zKU e1,zKU e2]
 .have em:(rngS 0 2 (qs.length / 2)).map (zRD qs)=((List.range (qs.length / 2)).map fun i=>qs.getD (2*i) 0+qs.getD (2*i+1) 0).map ratD:=by
   unfold rngS;rw [map_map,map_map];refine map_congr_left fun i _=>?_
   show ratD _=ratD _;rw [show ((0:Int)+(i:Int)*2).toNat=2*i by omega]
  rw [em];have fin:=DM.zJm qs;(walk_at "w");refine (show EvP (lenD (.lst (qs.map ratD))) _ from ?_);(walk_at "w");rw [el];refine zCd (by decide) ?_;(walk_at "w");refine zBK (fun c=>?_) fun c=>?_
  .have c':qs.length%2=1:=by
    rw [Int.fmod_eq_emod_of_nonneg _ (by decide)] at c;omega
   rw [if_pos c'] at fin;refine zAE (zF9 rfl (by rw [length_map,length_map,length_range];omega) ?_);(walk_at "w");have hlast:qs[qs.length - 1]?=some (qs.getD (qs.length - 1) 0):=by
    have:qs.length - 1 < qs.length:=by omega
    rw [getD_eq_getElem?_getD];simp [this]
   have at1:atI (qs.map ratD) (-1)=some (ratD (qs.getD (qs.length - 1) 0)):=by
    unfold L2.atI;have ei:ixN (qs.map ratD).length (-1)=some (qs.length - 1):=by
     unfold L2.ixN;rw [length_map];split<;>first | omega | (split<;>first | omega | (congr 1;omega)) | (congr 1;omega)
    rw [ei];show (qs.map ratD)[qs.length - 1]?=_;rw [getElem?_map,hlast]
    rfl
   refine (show EvP (ixD (.lst (qs.map ratD)) (.int (-1))) _ from ?_);refine zAz at1 ?_;(walk_at "w");have e3:List.map ratD ((List.range (qs.length / 2)).map fun i=>qs.getD (2*i) 0+qs.getD (2*i+1) 0)++[ratD (qs.getD (qs.length - 1) 0)]=(DM.nadd qs).map ratD:=by
    rw [<- fin,map_append];rfl
   rw [e3];exact h
  .have c':¬ qs.length%2=1:=fun z=>c (by
    rw [Int.fmod_eq_emod_of_nonneg _ (by decide)];omega)
   rw [if_neg c',append_nil] at fin;(walk_at "w");rw [fin];exact h
def zLH (F:List D->Option R):Prop:=∀ (qs:List Rat) (W:Nat) (Q:R->Prop),WB qs W->W<=60000000->qs.length<=10000->Q (ratD (DM.sumR qs),.cl)->EvP (F [zBH qs]) Q
theorem zII {C:Gm}{nn:Nat}{Fn:List D->Option R}(en:C.fns[nn]?=some (("neighbours_added":Str),Fn))(hn:zM5 Fn){x0:Option (D×Bool)}{Q:Out->Prop}:∀ (n:Nat) (qs:List Rat) (W:Nat) (o:Bool),qs.length<=n->WB qs W->W<=60000000->qs.length<=10000 ->
    (∀ qs' o,DM.sumR qs'=DM.sumR qs->qs'.length<=1->(qs.length=0<->qs'.length=0)->Q (.nx [x0,some (zBH qs',o)])) ->
    EvP (zBS (asB (evE C (.cmp .Gt (.len (.var 1)) (.int 1)))) (evSs C (.frz 1 (.cons (.set 1 (.call nn "neighbours_added" (.cons (.var 1) .nil))) .nil))) [x0,some (zBH qs,o)]) Q:=by
  intro n
  induction n with
  | zero =>
    intro qs W o hl wb hW hl2 q;have e:qs=[]:=List.eq_nil_of_length_eq_zero (by omega);subst e;refine zCF (as_b ?_);refine zBX (zBF (zHr rfl ?_));refine (show EvP (lenD (.lst [])) _ from ?_);(walk_at "w");refine zCS (by simp) ?_;exact q [] o rfl (by simp) (by simp)
  | succ n ih =>
    intro qs W o hl wb hW hl2 q;refine zCF (as_b ?_);refine zBX (zBF (zHr rfl ?_));refine (show EvP (lenD (.lst (qs.map ratD))) _ from ?_);(walk_at "w");rw [length_map];by_cases c:1 < qs.length
    . refine zBt (by omega) ?_;have go:EvP (evSs C (.cons (.set 1 (.call nn "neighbours_added" (.cons (.var 1) .nil))) .nil) [x0,some (zBH qs,false)]) fun o=>match o with
          | .nx G'=>EvP (zBS (asB (evE C (.cmp .Gt (.len (.var 1)) (.int 1)))) (evSs C (.frz 1 (.cons (.set 1 (.call nn "neighbours_added" (.cons (.var 1) .nil))) .nil))) G') Q
          | .ct G'=>EvP (zBS (asB (evE C (.cmp .Gt (.len (.var 1)) (.int 1)))) (evSs C (.frz 1 (.cons (.set 1 (.call nn "neighbours_added" (.cons (.var 1) .nil))) .nil))) G') Q
          | .bk G'=>Q (.nx G')
          | .rt r=>Q (.rt r):=by
        refine zAE (zEc (zAS en ?_));(walk_at "w");refine hn qs W _ wb hW hl2 ?_;(walk_at "w");have l2:=DM.zHf qs;refine ih (DM.nadd qs) W true (by omega) (zIq wb) hW (by omega) fun qs' o e1 e2 e3=>?_
        exact q qs' o (e1.trans (DM.zHe qs)) e2 ⟨fun z=>absurd z (by omega),fun z=>absurd (e3.mpr z) (by omega)⟩
      cases o with
      | true=>exact zHq rfl go
      | false=>exact zKZ rfl go
    . refine zCS (by omega) ?_;exact q qs o rfl (by omega) Iff.rfl
theorem zLW {C:Gm}{nn ng:Nat}{Fn:List D->Option R}(en:C.fns[nn]?=some (("neighbours_added":Str),Fn))(hn:zM5 Fn)(eg:C.cs[ng]?=some (("NOUGHT":Str),.tup [.int 0,.int 1])):zLH (dFun 1 2 (evSs C (zNB nn ng))):=fun qs W Q wb hW hl h=>by
 (walk_at "d");unfold zNB;(walk_at "st");refine zAE (zEc (zGs (zAG rfl ?_)));refine (show EvP (zIY (.lst (qs.map ratD))) _ from ?_);(walk_at "w");refine zII en hn qs.length qs W true (le_refl _) wb hW hl fun qs' o e1 e2 e3=>?_
 refine k_nx ?_;refine zAE (zCO (zN1 (zBX (zBF (zHr rfl ?_)))));refine (show EvP (lenD (.lst (qs'.map ratD))) _ from ?_);(walk_at "w");rw [length_map];rw [<- e1] at h
 match qs',e2 with
 | [],_ =>
  refine zCS (by simp) ?_;refine zFF eg ?_;rw [zLP];(walk_at "w");exact h
 | [a],_ =>
  refine zBt (by simp) ?_;refine zA6 (zHr rfl ?_);(walk_at "w");refine (show EvP (ixD (.lst [ratD a]) (.int 0)) _ from ?_);(walk_at "w");have e4:DM.sumR [a]=a:=by simp only [DM.sumR,Rat.add_zero]
  rw [e4] at h;exact h
 | _::_::_,z=>exact absurd z (by simp)
abbrev Pt:=DM.Pt
def ptD (p:Pt):D:=.tup [ratD p.1,ratD p.2]
def zBx (s:Pt×Pt):D:=.tup [ptD s.1,ptD s.2]
def zBj (ps:List Pt):D:=.lst (ps.map ptD)
def PB (n:Nat)(p:Pt):Prop:=RB n p.1/\RB n p.2
theorem i_p0 {p:Pt}{Q:R->Prop}(h:Q (ratD p.1,.cl)):EvP (ixD (ptD p) (.int 0)) Q:=zDL rfl h
theorem i_p1 {p:Pt}{Q:R->Prop}(h:Q (ratD p.2,.cl)):EvP (ixD (ptD p) (.int 1)) Q:=zDL rfl h
theorem i_s0 {s:Pt×Pt}{Q:R->Prop}(h:Q (ptD s.1,.cl)):EvP (ixD (zBx s) (.int 0)) Q:=zDL rfl h
theorem i_s1 {s:Pt×Pt}{Q:R->Prop}(h:Q (ptD s.2,.cl)):EvP (ixD (zBx s) (.int 1)) Q:=zDL rfl h
theorem zKu (p:Pt):DOk 2 (ptD p):=zKs fun d h=>by
 rcases mem_cons.mp h with rfl | h
 .exact zFJ _
 .rcases mem_cons.mp h with rfl | h
  .exact zFJ _
  .exact absurd h (by simp)
theorem zMq (ps:List Pt):DOk 3 (zBj ps):=zKv fun d h=>by
 obtain ⟨p,_,rfl⟩:=mem_map.mp h;exact zKu p
theorem zUA {d:D}{k:Nat}{Q:R->Prop}(hd:DOk k d)(hk:k<=64)(h:Q (.bl true,.cl)):EvP (cmpD .Eq d d) Q:=c_eq (zGx hd hd hk) (by rw [zFH];exact h)
theorem zK6 {p q:Rat}{Q:R->Prop}(h:Q (.bl (!decide (p=q)),.cl)):EvP (cmpD .NotEq (ratD p) (ratD q)) Q:=c_ne (zGx (zFJ p) (zFJ q) (by decide)) (by rw [zGw];exact h)
theorem zHz (xs:List D)(k:Nat):cutD xs (some (k:Int)) none=xs.drop k:=by
 unfold cutD;rw [HT.zI9,HT.zHQ];by_cases h:k<=xs.length
 .rw [Nat.min_eq_left h,take_of_length_le (by rw [length_drop];exact le_refl _)]
 .rw [Nat.min_eq_right (by omega),List.drop_length,List.take_nil,drop_eq_nil_of_le (by omega)]
theorem zSp (xs:List D)(k:Nat):cutD xs none (some (k:Int))=xs.take k:=by
 unfold cutD;rw [HT.zI9,HT.zHQ,List.drop_zero,Nat.sub_zero];by_cases h:k<=xs.length
 .rw [Nat.min_eq_left h]
 .rw [Nat.min_eq_right (by omega),take_of_length_le (le_refl _),take_of_length_le (by omega)]
theorem zLO (as bs:List Pt):zipT (as.map ptD) (bs.map ptD)=(as.zip bs).map zBx:=by
 unfold zipT;rw [List.zipWith_map,List.zip_eq_zipWith,List.map_zipWith]
 rfl
def zNK:S:=.cons (.ret (.lzip (.var 0) (.bin .Add (.sl (.var 0) (.cons (.int 1) .nil) .nil) (.sl (.var 0) .nil (.cons (.int 1) .nil))))) .nil
def zLJ (F:List D->Option R):Prop:=∀ (ps:List Pt) (Q:R->Prop),ps.length<=9000->Q (.lst ((DM.zAi ps).map zBx),.fr)->EvP (F [zBj ps]) Q
theorem zLb {C:Gm}:zLJ (dFun 1 1 (evSs C zNK)):=fun ps Q hl h=>by
 (walk_at "d");unfold zNK;refine zAE (zCO (zKa (zAG rfl (zBY (zPz (zAG rfl ?_))))));(walk_at "w");refine ⟨ps.map ptD,rfl,?_⟩;refine zPz (zAG rfl ?_);(walk_at "w");refine ⟨ps.map ptD,rfl,?_⟩;have e1:cutD (ps.map ptD) (some 1) none=(ps.drop 1).map ptD:=by rw [show (1:Int)=((1:Nat):Int) from rfl,zHz,List.map_drop]
 have e2:cutD (ps.map ptD) none (some 1)=(ps.take 1).map ptD:=by rw [show (1:Int)=((1:Nat):Int) from rfl,zSp,List.map_take]
 rw [e1,e2];refine zM0 (by rw [length_map,length_map,length_drop,length_take];omega) ?_;rw [<- map_append];refine zS7 ⟨?_,?_⟩ ?_
 .rw [length_map,length_map];exact (DM.zJB ps).symm
 .rw [length_map];omega
 .have e3:zipT (ps.map ptD) ((ps.drop 1++ps.take 1).map ptD)=(DM.zAi ps).map zBx:=zLO ps _;rw [e3];(walk_at "w");exact h
theorem zGa:RB 2 (1 / 2:Rat):=⟨by unfold Bd;decide +kernel,by unfold Bd;decide +kernel⟩
theorem zD3 (i:Int):D.tup [.int i,.int 1]=ratD (i:Rat):=rfl
theorem zAb (lo:Int)(n:Nat):(rngL lo n).length=n:=by unfold rngL;simp
theorem zK0 {U:Type}{C:Gm}{n:Nat}{el:E}{base:Dst}{Q:List D->Prop}(hn:base.length=n)(enc g:U->D):∀ (xs:List U) (o:Option (D×Bool)),(∀ x∈xs,EvP (evE C el (base++[some (enc x,false)])) fun r=>r.2≠.dt/\r.1=g x)->Q (xs.map g)->EvP (zBb (tg1 n) (evC C .nil) (evE C el) (xs.map enc) (base++[o])) Q
 | [],o,_,h=>⟨_,rfl,h⟩
 | z::zs,o,hz,h=>by
  obtain ⟨r,e,nd,er⟩:=hz z mem_cons_self;obtain ⟨ys,e2,q⟩:=zK0 (Q:=fun ys=>Q (g z::ys)) hn enc g zs (some (enc z,false)) (fun y hy=>hz y (mem_cons_of_mem _ hy)) h;refine ⟨_,?_,q⟩;have es:(base++[o]).set n (some (enc z,false))=base++[some (enc z,false)]:=by
   rw [set_append_right _ _ (by omega),hn,sub_self];rfl
  show (tg1 n (enc z) (base++[o])).bind _=_;unfold tg1;rw [es,Option.bind_some,zDO,Option.bind_some,if_pos rfl,e,Option.bind_some,if_neg nd,er];show (zBb _ _ _ (zs.map enc) (base++[some (enc z,false)])).bind _=_;unfold tg1 at e2;rw [zDO] at e2;rw [e2]
  rfl
def zAX (rs:List (List Pt)):D:=.lst (rs.map zBj)
theorem zKt (rs:List (List Pt)):DOk 4 (zAX rs):=zKv fun d h=>by
 obtain ⟨p,_,rfl⟩:=mem_map.mp h;exact zMq p
theorem zE0:RB 1 0:=⟨by unfold Bd;decide,by unfold Bd;decide⟩
theorem zNP:RB 1 1:=⟨by unfold Bd;decide,by unfold Bd;decide⟩
theorem PB.x {n:Nat}{p:Pt}(h:PB n p):RB n p.1:=h.1
theorem PB.y {n:Nat}{p:Pt}(h:PB n p):RB n p.2:=h.2
theorem PB.mono {m n:Nat}{p:Pt}(h:PB m p)(l:m<=n):PB n p:=⟨h.1.mono l,h.2.mono l⟩
abbrev Ln:=DM.Ln
theorem zRo {p:Pt}{Q:R->Prop}(h:Q (.bl true,.cl)):EvP (isiF .tuple (ptD p)) Q:=⟨_,rfl,h⟩
end DL
end
open PySem L2 DL
local macro_rules | `(tactic| walk_at "rb")=>`(tactic| first
 | assumption | exact zE0 | exact zNP | exact zGa | exact PB.x (by assumption) | exact PB.y (by assumption) | exact LB.a (by assumption) | exact LB.b (by assumption) | exact LB.c (by assumption)
 | with_reducible apply zDt | with_reducible apply zB8 | with_reducible apply zHT | with_reducible apply rb_neg | (with_reducible apply zGZ;assumption))
section
namespace DL
open PySem L2
theorem zRO {f:Rat->Rat->Rat}{F:List D->Option R}(h:OpF f F){p q:Rat}{m n:Nat}{Q:R->Prop}(h1:RB m p)(h2:RB n q)(h3:m+n<=60000000)(h4:Q (ratD (f p q),.cl)):EvP (F [ratD p,ratD q]) Q:=h p q m n Q h1 h2 h3 h4
theorem zJS {F:List D->Option R}(h:zFW F){p q:Rat}{m n:Nat}{Q:R->Prop}(h0:q≠0)(h1:RB m p)(h2:RB n q)(h3:m+n<=60000000)(h4:Q (ratD (p / q),.cl)):EvP (F [ratD p,ratD q]) Q:=h p q m n Q h0 h1 h2 h3 h4
end DL
end
open PySem L2 DL
local macro_rules | `(tactic| walk_at "ev")=>`(tactic| first
 | (with_reducible first | refine c_eq0 ?_ | refine wr_cl ?_ | refine wr_fr ?_ | refine i_p0 ?_ | refine i_p1 ?_ | refine i_s0 ?_ | refine i_s1 ?_ | refine i_l0 ?_ | refine i_l1 ?_ | refine i_l2 ?_ | refine l_ring ?_ | refine t_ring ?_ | refine zRo ?_ | refine is_tl ?_ | refine is_lr ?_ | refine l_pt ?_ | refine l_ln ?_ | refine c_eqRat ?_ | refine zK6 ?_)
 | ((with_reducible show EvP (evE _ (E.call _ _ _) _) _);refine zAS (by assumption) ?_) | ((with_reducible show EvP (evE _ (E.glob _ _) _) _);refine zFF (by assumption) ?_)
 | ((try dsimp only);with_reducible refine zRO (by assumption) (by (repeat walk_at "rb")) (by (repeat walk_at "rb")) (by omega) ?_))
section
namespace DL
open PySem L2
theorem zCm {n:Nat}{x:D}(h:x∈rngL 0 n):∃ k:Int,x=.int k/\0<=k/\k < n:=by
 unfold rngL at h;obtain ⟨k,hk,rfl⟩:=mem_map.mp h;rw [mem_range] at hk;exact ⟨_,rfl,by omega,by omega⟩
def zNA:S:=.cons (.ret (.cmp .Lt (.bin .Mult (.ix (.var 0) (.int 0)) (.ix (.var 1) (.int 1))) (.bin .Mult (.ix (.var 1) (.int 0)) (.ix (.var 0) (.int 1))))) .nil
def zEK (F:List D->Option R):Prop:=∀ (p q:Rat) (m n:Nat) (Q:R->Prop),RB m p->RB n q->m+n<=60000000->Q (.bl (decide (p < q)),.cl)->EvP (F [ratD p,ratD q]) Q
theorem zL1 (p q:Rat):(p < q)<->p.num*q.den < q.num*p.den:=Rat.lt_iff ..
theorem zLT {C:Gm}:zEK (dFun 2 2 (evSs C zNA)):=fun p q m n Q hp hq l h=>by
 (walk_at "d");unfold zNA;(walk_at "st");(walk_at "w");refine zBI (zB9 hp.num hq.den l) ?_;(walk_at "w");refine zBI (zB9 hq.num hp.den (by omega)) ?_;(walk_at "w");have e:decide (p.num*↑q.den < q.num*↑p.den)=decide (p < q):=by
  rw [decide_eq_decide];exact (zL1 p q).symm
 rw [e];exact h
theorem zBv {F:List D->Option R}(h:zEK F){p q:Rat}{m n:Nat}{Q:R->Prop}(h1:RB m p)(h2:RB n q)(h3:m+n<=60000000)(h4:Q (.bl (decide (p < q)),.cl)):EvP (F [ratD p,ratD q]) Q:=h p q m n Q h1 h2 h3 h4
theorem zQw {x y t:Rat}{n k:Nat}(hx:RB n x)(hy:RB n y)(hk:RB k t):RB (3*n+k+2) (DM.pw x y t):=(zDt hx (zHT hk (zB8 hy hx))).mono (by omega)
def hD (L:Ln):D->D
 | .tup [.tup [.int a,.int b],.tup [.int c,.int e]]=>ratD (DM.hq L (Rat.divInt a b,Rat.divInt c e))
 | d=>d
theorem zQt {n i:Nat}{x:D}{xs:List D}(h:(rngL 0 n).drop i=x::xs):i < n/\x=.int (i:Int)/\xs=(rngL 0 n).drop (i+1):=by
 have hi:i < (rngL 0 n).length:=by
  by_cases q:i < (rngL 0 n).length
  .exact q
  .rw [drop_eq_nil_of_le (by omega)] at h;cases h
 rw [drop_eq_getElem_cons hi] at h;cases h;rw [zAb] at hi;refine ⟨hi,?_,rfl⟩;unfold rngL;simp
theorem zOX {n i:Nat}(h:[]=(rngL 0 n).drop i)(hi:i<=n):i=n:=by
 have:=congrArg List.length h;rw [length_nil,length_drop,zAb] at this;omega
end DL
end
open PySem L2 DL
local macro_rules | `(tactic| walk_at "c")=>`(tactic| simp only [cons_append,nil_append])
section
namespace DL
open PySem L2
theorem zFL {C:Gm}{n:Nat}{el c:E}{base:Dst}{Q:List D->Prop}(hn:base.length=n)(b:D->Bool)(g:D->D):∀ (zs:List D) (o:Option (D×Bool)),(∀ z∈zs,EvP (evE C c (base++[some (z,false)])) fun r=>r.1=.bl (b z))->(∀ z∈zs,b z=true->EvP (evE C el (base++[some (z,false)])) fun r=>r.2≠.dt/\r.1=g z)->Q ((zs.filter b).map g) ->
  EvP (zBb (tg1 n) (evC C (.cons c .nil)) (evE C el) zs (base++[o])) Q
 | [],o,_,_,h=>⟨_,rfl,h⟩
 | z::zs,o,hc,he,h=>by
  obtain ⟨⟨d,k⟩,ec,ek⟩:=hc z mem_cons_self;dsimp only at ek;subst ek;have es:(base++[o]).set n (some (z,false))=base++[some (z,false)]:=by
   rw [set_append_right _ _ (by omega),hn,sub_self];rfl
  have ec':evC C (.cons c .nil) (base++[some (z,false)])=some (b z):=by
   rw [evC];exact zEI ec
  by_cases hb:b z=true
  .obtain ⟨r,e,nd,er⟩:=he z mem_cons_self hb;rw [List.filter_cons_of_pos hb,map_cons] at h;obtain ⟨ys,e2,q⟩:=zFL hn b g zs (some (z,false)) (Q:=fun ys=>Q (g z::ys)) (fun y hy=>hc y (mem_cons_of_mem _ hy)) (fun y hy=>he y (mem_cons_of_mem _ hy)) h;refine ⟨_,?_,q⟩;show (tg1 n z (base++[o])).bind _=_;have et:tg1 n z (base++[o])=some (base++[some (z,false)]):=by unfold tg1;rw [es]
   rw [et,Option.bind_some,ec',Option.bind_some,if_pos hb,e,Option.bind_some,if_neg nd,er,e2]
   rfl
  .rw [List.filter_cons_of_neg hb] at h;obtain ⟨ys,e2,q⟩:=zFL hn b g zs (some (z,false)) (Q:=Q) (fun y hy=>hc y (mem_cons_of_mem _ hy)) (fun y hy=>he y (mem_cons_of_mem _ hy)) h;refine ⟨_,?_,q⟩;show (tg1 n z (base++[o])).bind _=_;have et:tg1 n z (base++[o])=some (base++[some (z,false)]):=by unfold tg1;rw [es]
   rw [et,Option.bind_some,ec',Option.bind_some,if_neg hb,e2]
def wpB:S:=.cons (.ret (.bin .FloorDiv (.ix (.var 0) (.int 0)) (.ix (.var 0) (.int 1)))) .nil
def WpF (F:List D->Option R):Prop:=∀ (q:Rat) (Q:R->Prop),Q (.int q.floor,.cl)->EvP (F [ratD q]) Q
theorem zIf (q:Rat):q.num.fdiv q.den=q.floor:=by rw [Rat.floor_def,Int.fdiv_eq_ediv_of_nonneg _ (Int.natCast_nonneg _)]
theorem zS9 {C:Gm}:WpF (dFun 1 1 (evSs C wpB)):=fun q Q h=>by
 (walk_at "d");unfold wpB;(walk_at "st");(walk_at "w");refine zDQ (zA7 q) ?_;(walk_at "w");rw [zIf];exact h
def zLx (nu ns:Nat):S:=.cons (.ife (.call nu "under" (.cons (.var 1) (.cons (.var 0) .nil))) (.cons (.ret (.lrev (.call ns "numbers_between" (.cons (.var 1) (.cons (.var 0) (.cons (.var 2) .nil)))))) .nil) .nil) (.cons (.ret (.comp1 3 [] "number" (.r1 (.bin .Add (.var 2) (.int 1))) (.cons (.andl (.cons (.call nu "under" (.cons (.var 0) (.cons (.tup (.cons (.var 3) (.cons (.int 1) .nil))) .nil))) (.cons (.call nu "under" (.cons (.tup (.cons (.var 3) (.cons (.int 1) .nil))) (.cons (.var 1) .nil))) .nil))) .nil) (.var 3))) .nil)
def zM4 (F:List D->Option R):Prop:=∀ (a b:Rat) (last n:Nat) (Q:R->Prop),RB n a->RB n b->n<=10000000->last<=100->Q (.lst ((DM.zCb a b last).map D.int),.fr)->EvP (F [ratD a,ratD b,.int last]) Q
def zQW (F:List D->Option R):Prop:=∀ (a b:Rat) (last n:Nat) (Q:R->Prop),¬ b < a->RB n a->RB n b->n<=10000000->last<=100->Q (.lst ((DM.upQ a b last).map D.int),.fr)->EvP (F [ratD a,ratD b,.int last]) Q
def upB (a b:Rat):D->Bool
 | .int k=>decide (a < (k:Rat))&&decide ((k:Rat) < b)
 | _=>false
theorem zOJ (a b:Rat)(last:Nat):((rngL 0 (last+1)).filter (upB a b)).map id=(DM.upQ a b last).map D.int:=by
 unfold rngL DM.upQ;rw [map_id,List.filter_map,List.filter_map,map_map];have e:∀ l:List Nat,(l.filter (upB a b∘fun k:Nat=>D.int (0+(k:Int)))).map (fun k:Nat=>D.int (0+(k:Int)))=(l.filter ((fun n:Int=>decide (a < (n:Rat))&&decide ((n:Rat) < b))∘Int.ofNat)).map (D.int∘Int.ofNat):=fun l=>by
  have e1:(upB a b∘fun k:Nat=>D.int (0+(k:Int)))=((fun n:Int=>decide (a < (n:Rat))&&decide ((n:Rat) < b))∘Int.ofNat):=by
   funext k;simp only [Function.comp,upB,Int.zero_add]
   rfl
  have e2:(fun k:Nat=>D.int (0+(k:Int)))=D.int∘Int.ofNat:=by
   funext k;simp only [Function.comp,Int.zero_add]
   rfl
  rw [e1,e2]
 exact e _
theorem zJh {C:Gm}{nu ns:Nat}{Fu:List D->Option R}(eu:C.fns[nu]?=some (("under":Str),Fu))(hu:zEK Fu):zQW (dFun 3 3 (evSs C (zLx nu ns))):=fun a b last n Q hab ha hb hn hl h=>by
 (walk_at "d");unfold zLx;(walk_at "st");(walk_at "w");refine zBv hu hb ha (by omega) ?_;(walk_at "w");refine zCS hab ?_;(walk_at "w");refine ⟨by omega,?_⟩;rw [show ((last:Int)+1).toNat=last+1 by omega];refine ⟨by rw [zAb];omega,?_⟩;refine (show EvP (zBb (tg1 3) (evC C (.cons _ .nil)) _ _ ([some (ratD a,false),some (ratD b,false),some (.int (last:Int),false)]++[none])) _ from ?_);refine zFL (n:=3) (base:=[some (ratD a,false),some (ratD b,false),some (.int (last:Int),false)]) rfl (upB a b) id _ _ (fun z hz=>?_) (fun z hz _=>?_) ?_
 .obtain ⟨k,rfl,k0,k1⟩:=zCm hz;(walk_at "c");have rk:RB 8 (k:Rat):=zDs (zC8 (k:=200) (by omega) (by decide)) (by decide);(walk_at "w");rw [zD3];refine zBv hu ha rk (by omega) ?_;(walk_at "w");refine zBK (fun c=>?_) fun c=>?_
  ·(walk_at "w");rw [zD3];refine zBv hu rk hb (by omega) ?_;(walk_at "w");simp [upB,c]
  ·(walk_at "w");simp [upB,c]
 .obtain ⟨k,rfl,_⟩:=zCm hz;(walk_at "c");(walk_at "w")
  rfl
 .rw [zOJ];(walk_at "w");exact h
theorem zO4 {C:Gm}{nu ns:Nat}{Fu Fs:List D->Option R}(eu:C.fns[nu]?=some (("under":Str),Fu))(es:C.fns[ns]?=some (("numbers_between":Str),Fs))(hu:zEK Fu)(hs:zQW Fs):zM4 (dFun 3 3 (evSs C (zLx nu ns))):=fun a b last n Q ha hb hn hl h=>by
 by_cases c:b < a
 ·(walk_at "d");unfold zLx;(walk_at "st");(walk_at "w");refine zBv hu hb ha (by omega) ?_;(walk_at "w");refine zBt c ?_;refine zAE (zCO (zP0 (zAS es ?_)));(walk_at "w");refine hs b a last n _ (by grind) hb ha hn hl ?_;refine n_fr ⟨_,rfl,?_,?_⟩
  .rw [length_map];have:(DM.upQ b a last).length<=last+1:=by
    unfold DM.upQ;refine le_trans (length_filter_le _ _) ?_;rw [length_map,length_range];exact le_refl _
   omega
  .rw [<- List.map_reverse];unfold DM.zCb at h;rw [if_pos c] at h;(walk_at "w");exact h
 .refine zJh eu hu a b last n Q c ha hb hn hl ?_;unfold DM.zCb at h;rw [if_neg c] at h;exact h
theorem zGf {a b:Rat}{last:Nat}(hl:last<=100){k:Int}(h:k∈DM.zCb a b last):RB 8 (k:Rat)/\a≠b:=by
 unfold DM.zCb at h;have key:∀ {a b:Rat},k∈DM.upQ a b last->RB 8 (k:Rat)/\a < b:=fun h=>by
  obtain ⟨h0,h1,h2,h3⟩:=DM.zCr.mp h;exact ⟨zDs (zC8 (k:=200) (by omega) (by decide)) (by decide),by grind⟩
 by_cases c:b < a
 .rw [if_pos c] at h;obtain ⟨h1,h2⟩:=key (List.mem_reverse.mp h);exact ⟨h1,by grind⟩
 .rw [if_neg c] at h;obtain ⟨h1,h2⟩:=key h;exact ⟨h1,by grind⟩
theorem zE7 (a b:Rat)(last:Nat):(DM.zCb a b last).length<=last+1:=by
 have key:∀ a b:Rat,(DM.upQ a b last).length<=last+1:=fun a b=>by
  unfold DM.upQ;refine le_trans (length_filter_le _ _) ?_;rw [length_map,length_range];exact le_refl _
 unfold DM.zCb;split
 .rw [List.length_reverse];exact key _ _
 .exact key _ _
def zNO (nd nm np nt:Nat):S:=.cons (.ife (.cmp .Eq (.len (.var 0)) (.int 0)) (.cons (.ret (.lst .nil)) .nil) .nil) (.cons (.set 5 (.call nd "parted" (.cons (.call nm "minus" (.cons (.var 4) (.cons (.var 3) .nil))) (.cons (.call nm "minus" (.cons (.var 2) (.cons (.var 1) .nil))) .nil)))) (.cons (.ret (.comp1 6 [] "number" (.it (.var 0)) .nil (.call np "plus" (.cons (.var 3) (.cons (.call nt "times" (.cons (.var 5) (.cons (.call nm "minus" (.cons (.tup (.cons (.var 6) (.cons (.int 1) .nil))) (.cons (.var 1) .nil))) .nil))) .nil))))) .nil))
def zIA (F:List D->Option R):Prop:=∀ (ks:List Int) (a b c e:Rat) (n:Nat) (Q:R->Prop),RB n a->RB n b->RB n c->RB n e->8*n+100<=10000000->(∀ k∈ks,RB 8 (k:Rat)/\a≠b)->ks.length<=200->Q (.lst (ks.map fun k=>ratD (DM.pw c e (DM.tOf a b k))),.fr)->EvP (F [.lst (ks.map D.int),ratD a,ratD b,ratD c,ratD e]) Q
def zTK (a b c e:Rat):D->D
 | .int k=>ratD (DM.pw c e (DM.tOf a b k))
 | d=>d
theorem zLi {C:Gm}{nd nm np nt:Nat}{Fd Fm Fp Ft:List D->Option R}(ed:C.fns[nd]?=some (("parted":Str),Fd))(em:C.fns[nm]?=some (("minus":Str),Fm))(ep:C.fns[np]?=some (("plus":Str),Fp))(et:C.fns[nt]?=some (("times":Str),Ft))
  (hd:zFW Fd) (hm:zEn Fm) (hp:zIn Fp) (ht:zGN Ft):zIA (dFun 5 6 (evSs C (zNO nd nm np nt))):=fun ks a b c e n Q ha hb hc he hn hk hl h=>by
 (walk_at "d");unfold zNO;(walk_at "st");(walk_at "w");rw [length_map];refine zBK (fun z=>?_) fun z=>?_
 .have:ks=[]:=List.eq_nil_of_length_eq_zero (by omega);subst this;(walk_at "w");exact h
 .have ne:a≠b:=by
   cases ks with
   | nil=>exact absurd rfl z
   | cons k ks=>exact (hk k mem_cons_self).2
  have nz:b - a≠0:=by grind
  (walk_at "w");refine zJS hd nz (by (repeat walk_at "rb")) (by (repeat walk_at "rb")) (by omega) ?_;(walk_at "w");refine ⟨by rw [length_map];omega,?_⟩;refine (show EvP (zBb (tg1 6) (evC C .nil) _ _ ([some (.lst (ks.map D.int),false),some (ratD a,false),some (ratD b,false),some (ratD c,false),some (ratD e,false),some (ratD ((e - c) / (b - a)),false)]++[none])) _ from ?_);refine zEe (n:=6) (base:=[some (.lst (ks.map D.int),false),some (ratD a,false),some (ratD b,false),some (ratD c,false),some (ratD e,false),some (ratD ((e - c) / (b - a)),false)]) rfl (zTK a b c e) _ _ (fun y hy=>?_) ?_
  .obtain ⟨k,hk',rfl⟩:=mem_map.mp hy;have rk:=(hk k hk').1;(walk_at "c");have rs:RB (n+n+1+(n+n+1)) ((e - c) / (b - a)):=zGZ nz (zB8 he hc) (zB8 hb ha);(walk_at "w");rw [zD3];(walk_at "w");show ratD _=ratD (DM.pw c e (DM.tOf a b k));have:c+(e - c) / (b - a)*((k:Rat) - a)=DM.pw c e (DM.tOf a b k):=by
    unfold DM.pw DM.tOf;rw [Rat.div_def,Rat.div_def];grind
   rw [this]
  .rw [map_map];(walk_at "w");exact h
def upcB (nn nr:Nat):S:=.cons (.set 2 (.ix (.var 0) (.int 0))) (.cons (.set 3 (.ix (.var 0) (.int 1))) (.cons (.set 4 (.call nn "numbers_between" (.cons (.ix (.var 2) (.int 0)) (.cons (.ix (.var 3) (.int 0)) (.cons (.var 1) .nil))))) (.frz 4 (.cons (.set 5 (.call nr "rests_at" (.cons (.var 4) (.cons (.ix (.var 2) (.int 0)) (.cons (.ix (.var 3) (.int 0)) (.cons (.ix (.var 2) (.int 1)) (.cons (.ix (.var 3) (.int 1)) .nil))))))) (.frz 4 (.frz 5 (.cons (.ret (.comp1 6 [] "k" (.r1 (.len (.var 4))) .nil (.tup (.cons (.tup (.cons (.ix (.var 4) (.var 6)) (.cons (.int 1) .nil))) (.cons (.ix (.var 5) (.var 6)) .nil))))) .nil)))))))
def lvcB (nn nr:Nat):S:=.cons (.set 2 (.ix (.var 0) (.int 0))) (.cons (.set 3 (.ix (.var 0) (.int 1))) (.cons (.set 4 (.call nn "numbers_between" (.cons (.ix (.var 2) (.int 1)) (.cons (.ix (.var 3) (.int 1)) (.cons (.var 1) .nil))))) (.frz 4 (.cons (.set 5 (.call nr "rests_at" (.cons (.var 4) (.cons (.ix (.var 2) (.int 1)) (.cons (.ix (.var 3) (.int 1)) (.cons (.ix (.var 2) (.int 0)) (.cons (.ix (.var 3) (.int 0)) .nil))))))) (.frz 4 (.frz 5 (.cons (.ret (.comp1 6 [] "k" (.r1 (.len (.var 4))) .nil (.tup (.cons (.ix (.var 5) (.var 6)) (.cons (.tup (.cons (.ix (.var 4) (.var 6)) (.cons (.int 1) .nil))) .nil))))) .nil)))))))
def atD (s:Pt×Pt)(t:Rat):D:=ptD (DM.ptAt s t)
def UpcF (F:List D->Option R):Prop:=∀ (s:Pt×Pt) (w n:Nat) (Q:R->Prop),PB n s.1->PB n s.2->8*n+100<=10000000->w<=100->Q (.lst ((DM.tsQ s.1.1 s.2.1 w).map (atD s)),.fr)->EvP (F [zBx s,.int w]) Q
def LvcF (F:List D->Option R):Prop:=∀ (s:Pt×Pt) (w n:Nat) (Q:R->Prop),PB n s.1->PB n s.2->8*n+100<=10000000->w<=100->Q (.lst ((DM.tsQ s.1.2 s.2.2 w).map (atD s)),.fr)->EvP (F [zBx s,.int w]) Q
theorem zKE {U:Type}(L:List U)(f:U->D)(g:D->D)(h:∀ (i:Nat) x,L[i]?=some x->g (.int (i:Int))=f x):(rngL 0 L.length).map g=L.map f:=by
 unfold rngL;rw [map_map];refine ext_getElem? fun i=>?_
 rw [getElem?_map,getElem?_map];by_cases hi:i < L.length
 .rw [getElem?_range hi,getElem?_eq_getElem hi];show some (g (.int (0+(i:Int))))=some (f L[i]);rw [Int.zero_add,h i L[i] (getElem?_eq_getElem hi)]
 .rw [getElem?_eq_none (by rw [length_range];omega),getElem?_eq_none (by omega)]
  rfl
def zOP (f:Int->D)(L:List Int):D->D
 | .int k=>f (L.getD k.toNat 0)
 | d=>d
theorem zHM (f:Int->D)(L:List Int):(rngL 0 L.length).map (zOP f L)=L.map f:=zKE L f _ fun i x e=>by
 show f (L.getD (i:Int).toNat 0)=f x;rw [toNat_natCast,getD_eq_getElem?_getD,e]
 rfl
theorem zQa {C:Gm}{nn nr:Nat}{Fn Fr:List D->Option R}(en:C.fns[nn]?=some (("numbers_between":Str),Fn))(er:C.fns[nr]?=some (("rests_at":Str),Fr))(hn:zM4 Fn)(hr:zIA Fr):UpcF (dFun 2 6 (evSs C (upcB nn nr))):=fun s w n Q h1 h2 hl hw h=>by
 (walk_at "d");unfold upcB;(walk_at "st");(walk_at "w");refine hn _ _ w n _ h1.x h2.x (by omega) hw ?_;have kb:∀ k∈DM.zCb s.1.1 s.2.1 w,RB 8 (k:Rat)/\s.1.1≠s.2.1:=fun k hk=>zGf hw hk
 have kl:=zE7 s.1.1 s.2.1 w;have ets:(DM.tsQ s.1.1 s.2.1 w).map (atD s)=(DM.zCb s.1.1 s.2.1 w).map fun k=>.tup [.tup [.int k,.int 1],ratD (DM.pw s.1.2 s.2.2 (DM.tOf s.1.1 s.2.1 k))]:=by
  unfold DM.tsQ;rw [map_map];refine map_congr_left fun k hk=>?_
  show ptD (DM.pw s.1.1 s.2.1 (DM.tOf s.1.1 s.2.1 k),_)=_;rw [DM.zC1 (kb k hk).2]
  rfl
 rw [ets] at h;generalize DM.zCb s.1.1 s.2.1 w=ks at *;(walk_at "w");refine hr ks _ _ _ _ n _ h1.x h2.x h1.y h2.y hl kb (by omega) ?_;(walk_at "w");rw [length_map];refine ⟨by omega,?_⟩;rw [toNat_natCast];refine ⟨by rw [zAb];omega,?_⟩;refine (show EvP (zBb (tg1 6) (evC C .nil) _ _ ([some (zBx s,false),some (.int (w:Int),false),some (ptD s.1,false),some (ptD s.2,false),some (.lst (ks.map D.int),false),some (.lst (ks.map fun k=>ratD (DM.pw s.1.2 s.2.2 (DM.tOf s.1.1 s.2.1 k))),false)]++[none])) _ from ?_);refine zEe (n:=6) (base:=[some (zBx s,false),some (.int (w:Int),false),some (ptD s.1,false),some (ptD s.2,false),some (.lst (ks.map D.int),false),some (.lst (ks.map fun k=>ratD (DM.pw s.1.2 s.2.2 (DM.tOf s.1.1 s.2.1 k))),false)]) rfl (zOP (fun k=>.tup [.tup [.int k,.int 1],ratD (DM.pw s.1.2 s.2.2 (DM.tOf s.1.1 s.2.1 k))]) ks) _ _ (fun z hz=>?_) ?_
 .obtain ⟨k,rfl,k0,k1⟩:=zCm hz;(walk_at "c");have hk:k.toNat < ks.length:=by omega
  have ek:k=((k.toNat:Nat):Int):=by omega
  have e1:atI (ks.map D.int) k=some (.int (ks.getD k.toNat 0)):=zHN k0 k1;have e2:atI (ks.map fun k=>ratD (DM.pw s.1.2 s.2.2 (DM.tOf s.1.1 s.2.1 k))) k=some (ratD (DM.pw s.1.2 s.2.2 (DM.tOf s.1.1 s.2.1 (ks.getD k.toNat 0)))):=by
   conv=>lhs;rw [ek]
   exact zAq (by rw [getElem?_map,getElem?_eq_getElem hk,getD_eq_getElem?_getD,getElem?_eq_getElem hk];rfl)
  (walk_at "w");refine zAz e1 ?_;(walk_at "w");refine zAz e2 ?_;(walk_at "w")
  rfl
 .rw [zHM];(walk_at "w");exact h
theorem zRc {C:Gm}{nn nr:Nat}{Fn Fr:List D->Option R}(en:C.fns[nn]?=some (("numbers_between":Str),Fn))(er:C.fns[nr]?=some (("rests_at":Str),Fr))(hn:zM4 Fn)(hr:zIA Fr):LvcF (dFun 2 6 (evSs C (lvcB nn nr))):=fun s w n Q h1 h2 hl hw h=>by
 (walk_at "d");unfold lvcB;(walk_at "st");(walk_at "w");refine hn _ _ w n _ h1.y h2.y (by omega) hw ?_;have kb:∀ k∈DM.zCb s.1.2 s.2.2 w,RB 8 (k:Rat)/\s.1.2≠s.2.2:=fun k hk=>zGf hw hk
 have kl:=zE7 s.1.2 s.2.2 w;have ets:(DM.tsQ s.1.2 s.2.2 w).map (atD s)=(DM.zCb s.1.2 s.2.2 w).map fun k=>.tup [ratD (DM.pw s.1.1 s.2.1 (DM.tOf s.1.2 s.2.2 k)),.tup [.int k,.int 1]]:=by
  unfold DM.tsQ;rw [map_map];refine map_congr_left fun k hk=>?_
  show ptD (_,DM.pw s.1.2 s.2.2 (DM.tOf s.1.2 s.2.2 k))=_;rw [DM.zC1 (kb k hk).2]
  rfl
 rw [ets] at h;generalize DM.zCb s.1.2 s.2.2 w=ks at *;(walk_at "w");refine hr ks _ _ _ _ n _ h1.y h2.y h1.x h2.x hl kb (by omega) ?_;(walk_at "w");rw [length_map];refine ⟨by omega,?_⟩;rw [toNat_natCast];refine ⟨by rw [zAb];omega,?_⟩;refine (show EvP (zBb (tg1 6) (evC C .nil) _ _ ([some (zBx s,false),some (.int (w:Int),false),some (ptD s.1,false),some (ptD s.2,false),some (.lst (ks.map D.int),false),some (.lst (ks.map fun k=>ratD (DM.pw s.1.1 s.2.1 (DM.tOf s.1.2 s.2.2 k))),false)]++[none])) _ from ?_);refine zEe (n:=6) (base:=[some (zBx s,false),some (.int (w:Int),false),some (ptD s.1,false),some (ptD s.2,false),some (.lst (ks.map D.int),false),some (.lst (ks.map fun k=>ratD (DM.pw s.1.1 s.2.1 (DM.tOf s.1.2 s.2.2 k))),false)]) rfl (zOP (fun k=>.tup [ratD (DM.pw s.1.1 s.2.1 (DM.tOf s.1.2 s.2.2 k)),.tup [.int k,.int 1]]) ks) _ _ (fun z hz=>?_) ?_
 .obtain ⟨k,rfl,k0,k1⟩:=zCm hz;(walk_at "c");have hk:k.toNat < ks.length:=by omega
  have ek:k=((k.toNat:Nat):Int):=by omega
  have e1:atI (ks.map D.int) k=some (.int (ks.getD k.toNat 0)):=zHN k0 k1;have e2:atI (ks.map fun k=>ratD (DM.pw s.1.1 s.2.1 (DM.tOf s.1.2 s.2.2 k))) k=some (ratD (DM.pw s.1.1 s.2.1 (DM.tOf s.1.2 s.2.2 (ks.getD k.toNat 0)))):=by
   conv=>lhs;rw [ek]
   exact zAq (by rw [getElem?_map,getElem?_eq_getElem hk,getD_eq_getElem?_getD,getElem?_eq_getElem hk];rfl)
  (walk_at "w");refine zAz e2 ?_;(walk_at "w");refine zAz e1 ?_;(walk_at "w")
  rfl
 .rw [zHM];(walk_at "w");exact h
end DL
end
open PySem L2 DL
local macro_rules | `(tactic| walk_at "e")=>`(tactic| (repeat ((fail_if_success (with_reducible show EvP (evSs _ _ _) _));walk_at "ev")))
section
namespace DL
open PySem L2
def zOD (nu:Nat):S:=.cons (.ife (.var 2) (.cons (.ret (.call nu "under" (.cons (.ix (.var 0) (.int 0)) (.cons (.ix (.var 1) (.int 0)) .nil)))) .nil) .nil) (.cons (.ret (.call nu "under" (.cons (.ix (.var 1) (.int 0)) (.cons (.ix (.var 0) (.int 0)) .nil)))) .nil)
def zIE (F:List D->Option R):Prop:=∀ (p q:Pt) (r:Bool) (n:Nat) (Q:R->Prop),PB n p->PB n q->n<=10000000->Q (.bl (if r=true then decide (p.1 < q.1) else decide (q.1 < p.1)),.cl)->EvP (F [ptD p,ptD q,.bl r]) Q
theorem zM1 {C:Gm}{nu:Nat}{Fu:List D->Option R}(eu:C.fns[nu]?=some (("under":Str),Fu))(hu:zEK Fu):zIE (dFun 3 3 (evSs C (zOD nu))):=fun p q r n Q hp hq hn h=>by
 (walk_at "d");unfold zOD;(walk_at "st");refine zAE (zCi (zAG rfl ⟨r,rfl,?_⟩));cases r with
 | true =>
  refine cb_t ?_;(walk_at "w");refine zBv hu hp.x hq.x (by omega) ?_;(walk_at "w");exact h
 | false =>
  refine cb_f ?_;(walk_at "w");refine zBv hu hq.x hp.x (by omega) ?_;(walk_at "w");exact h
def zPC (na:Nat):S:=.cons (.app 3 (.ix (.var 1) (.var 4))) (.cons (.aug .Add 4 (.int 1)) .nil)
def zJy (na:Nat):E:=.andl (.cons (.cmp .Lt (.var 4) (.len (.var 1))) (.cons (.call na "comes_ahead" (.cons (.ix (.var 1) (.var 4)) (.cons (.var 5) (.cons (.var 2) .nil)))) .nil))
def zRa (na:Nat):S:=.cons (.whl (zJy na) (zPC na)) (.cons (.ife (.andl (.cons (.cmp .Lt (.var 4) (.len (.var 1))) (.cons (.cmp .Eq (.ix (.var 1) (.var 4)) (.var 5)) .nil))) (.cons (.aug .Add 4 (.int 1)) .nil) .nil) (.cons (.app 3 (.var 5)) .nil))
def zRb (na:Nat):S:=.cons (.set 3 (.lst .nil)) (.cons (.set 4 (.int 0)) (.cons (.for1 5 (.it (.var 0)) (zRa na)) (.cons (.ret (.bin .Add (.var 3) (.sl (.var 1) (.cons (.var 4) .nil) .nil))) .nil)))
theorem zKl {C:Gm}{G:Dst}{Q:Out->Prop}{i:Nat}{e:E}{a:Int}(ha:G[i]?=some (some (.int a,false)))(h:EvP (evE C e G) fun r=>∃ b,r.1=.int b/\Q (.nx (G.set i (some (.int (a+b),false))))):EvP (evS C (.aug .Add i e) G) Q:=by
 rw [evS];obtain ⟨⟨d,k⟩,e1,b,e2,q⟩:=h;dsimp only at e2;subst e2;refine ⟨_,?_,q⟩;unfold augD;rw [ha];show (evE C e G).bind _=_;rw [e1]
 rfl
def zQX (F:List D->Option R):Prop:=∀ (s:Pt×Pt) (ts us:List Rat) (n:Nat) (Q:R->Prop),(ts≠[]->s.1.1≠s.2.1)->(∀ t∈ts,PB n (DM.ptAt s t))->(∀ t∈us,PB n (DM.ptAt s t))->n<=10000000->ts.length+us.length<=1000->Q (.lst ((DM.zAy ts us).map (atD s)),.fr)->EvP (F [.lst (ts.map (atD s)),.lst (us.map (atD s)),.bl (decide (s.1.1 < s.2.1))]) Q
theorem zM2 {s:Pt×Pt}(ne:s.1.1≠s.2.1)(u t:Rat):(if decide (s.1.1 < s.2.1)=true then decide ((DM.ptAt s u).1 < (DM.ptAt s t).1) else decide ((DM.ptAt s t).1 < (DM.ptAt s u).1))=decide (u < t):=by
 unfold DM.ptAt;dsimp only;by_cases c:s.1.1 < s.2.1
 .rw [if_pos (decide_eq_true c),decide_eq_decide];exact DM.zEL c
 .rw [if_neg (by simpa using c),decide_eq_decide];exact DM.zEM (by grind)
theorem zSe (p q:Pt):eqb (ptD p) (ptD q)=decide (p=q):=by
 by_cases h:p=q
 .subst h;rw [zFH,decide_eq_true rfl]
 .rw [decide_eq_false h];have e:eqb (ptD p) (ptD q)=(eqb (ratD p.1) (ratD q.1)&&(eqb (ratD p.2) (ratD q.2)&&true)):=by
   unfold eqb ptD;simp only [toPy,toPyL,PyData.eqv,PyData.eqvAll]
  rw [e,zGw,zGw];by_cases h1:p.1=q.1
  .have h2:¬ p.2=q.2:=fun z=>h (Prod.ext h1 z)
   simp [h1,h2]
  .simp [h1]
theorem zOA {p q:Pt}{Q:R->Prop}(h:Q (.bl (decide (p=q)),.cl)):EvP (cmpD .Eq (ptD p) (ptD q)) Q:=c_eq (zGx (zKu p) (zKu q) (by decide)) (by rw [zSe];exact h)
theorem zOB {s:Pt×Pt}(ne:s.1.1≠s.2.1){u t:Rat}:DM.ptAt s u=DM.ptAt s t<->u=t:=by
 constructor
 .intro h;have h1:DM.pw s.1.1 s.2.1 u=DM.pw s.1.1 s.2.1 t:=congrArg Prod.fst h;unfold DM.pw at h1;have h2:(u - t)*(s.2.1 - s.1.1)=0:=by grind
  rcases Rat.mul_eq_zero.mp h2 with z | z<;>grind
 .rintro rfl;rfl
section
variable {C:Gm}{na:Nat}{Fa:List D->Option R}
theorem zIW (ea:C.fns[na]?=some (("comes_ahead":Str),Fa))(ha:zIE Fa){s:Pt×Pt}{us:List Rat}{n:Nat}{t:Rat}{x0:Option (D×Bool)}{Q:Out->Prop}(ne:s.1.1≠s.2.1)(hus:∀ t∈us,PB n (DM.ptAt s t))(ht:PB n (DM.ptAt s t))(hn:n<=10000000)(hl:us.length<=1000) :
  ∀ (m:Nat) (acc:List Rat) (k:Nat),us.length - k<=m->k<=us.length->acc.length+(us.length - k)<=2000 ->
   Q (.nx [x0,some (.lst (us.map (atD s)),false),some (.bl (decide (s.1.1 < s.2.1)),false),some (.lst ((acc++(us.drop k).takeWhile fun u=>decide (u < t)).map (atD s)),true),some (.int ((k+((us.drop k).takeWhile fun u=>decide (u < t)).length:Nat):Int),false),some (atD s t,false)]) ->
   EvP (zBS (asB (evE C (zJy na))) (evSs C (zPC na)) [x0,some (.lst (us.map (atD s)),false),some (.bl (decide (s.1.1 < s.2.1)),false),some (.lst (acc.map (atD s)),true),some (.int (k:Int),false),some (atD s t,false)]) Q:=by
 intro m
 induction m with
 | zero =>
  intro acc k hm hk hb h;have e:us.drop k=[]:=drop_eq_nil_of_le (by omega);rw [e] at h;simp only [List.takeWhile_nil,append_nil,length_nil,Nat.add_zero] at h;refine zCF (as_b ?_);unfold zJy;(walk_at "w");rw [length_map];refine zCS (by omega) ?_;exact ⟨_,rfl,cb_f h⟩
 | succ m ih =>
  intro acc k hm hk hb h;by_cases lt:k < us.length
  .have ed:us.drop k=us[k]::us.drop (k+1):=drop_eq_getElem_cons lt;have eu:us[k]?=some us[k]:=getElem?_eq_getElem lt;have mu:us[k]∈us:=List.getElem_mem lt;have eA:atI (us.map (atD s)) (k:Int)=some (atD s us[k]):=zAq (by rw [getElem?_map,eu];rfl);generalize us[k]=u at *;refine zCF (as_b ?_);unfold zJy;(walk_at "w");rw [length_map];refine zBt (by omega) ?_;refine zFG (zAS ea ?_);(walk_at "w");refine zAz eA ?_;(walk_at "w");refine (show EvP (Fa [ptD (DM.ptAt s u),ptD (DM.ptAt s t),.bl (decide (s.1.1 < s.2.1))]) _ from ?_);refine ha _ _ _ n _ (hus u mu) ht hn ?_;rw [zM2 ne];(walk_at "w");by_cases c:u < t
   .refine zBt c ?_;unfold zPC;refine zAE (zF9 (xs:=acc.map (atD s)) (i:=3) rfl (by rw [length_map];omega) ?_);(walk_at "w");refine zAz eA ?_;(walk_at "w");refine zKl (i:=4) rfl ?_;(walk_at "w");have e2:acc.map (atD s)++[atD s u]=(acc++[u]).map (atD s):=by rw [map_append];rfl
    rw [e2,show (k:Int)+1=((k+1:Nat):Int) by omega];refine ih (acc++[u]) (k+1) (by omega) (by omega) (by rw [length_append,length_singleton];omega) ?_;rw [ed,takeWhile_cons,if_pos (decide_eq_true c)] at h;rw [append_assoc,List.singleton_append,show k+1+((us.drop (k+1)).takeWhile fun u=>decide (u < t)).length=k+(u::(us.drop (k+1)).takeWhile fun u=>decide (u < t)).length by rw [length_cons];omega];exact h
   .refine zCS c ?_;rw [ed,takeWhile_cons,if_neg (by simpa using c)] at h;simp only [append_nil,length_nil,Nat.add_zero] at h;exact h
  .have e:us.drop k=[]:=drop_eq_nil_of_le (by omega);rw [e] at h;simp only [List.takeWhile_nil,append_nil,length_nil,Nat.add_zero] at h;refine zCF (as_b ?_);unfold zJy;(walk_at "w");rw [length_map];refine zCS (by omega) ?_;exact ⟨_,rfl,cb_f h⟩
theorem zC7:∀ (ts us:List Rat),(DM.zAy ts us).length<=ts.length+us.length
 | [],us=>by rw [DM.zAy];simp
 | t::ts,us=>by
  rw [DM.zAy,length_append,length_cons,length_cons];have ih:=zC7 ts (DM.zCj t (us.dropWhile fun u=>decide (u < t)));have h1:=(DM.zDP t (us.dropWhile fun u=>decide (u < t))).length_le;have h2:(us.takeWhile fun u=>decide (u < t)).length+(us.dropWhile fun u=>decide (u < t)).length=us.length:=by
   rw [<- length_append,List.takeWhile_append_dropWhile]
  omega
theorem zEd (p:Rat->Bool):∀ v:List Rat,v.drop (v.takeWhile p).length=v.dropWhile p
 | []=>rfl
 | x::v=>by
  rw [takeWhile_cons,List.dropWhile_cons];by_cases c:p x=true
  .rw [if_pos c,if_pos c,length_cons,List.drop_succ_cons];exact zEd p v
  .rw [if_neg c,if_neg c]
   rfl
theorem zKn (us:List Rat)(p:Rat->Bool)(k:Nat):us.drop (k+((us.drop k).takeWhile p).length)=(us.drop k).dropWhile p:=by
 rw [<- List.drop_drop];exact zEd p _
theorem zPB (ea:C.fns[na]?=some (("comes_ahead":Str),Fa))(ha:zIE Fa):zQX (dFun 3 6 (evSs C (zRb na))):=fun s ts us n Q hne hts hus hn hl h=>by
  (walk_at "d");unfold zRb;(walk_at "st");(walk_at "w");have ml:=zC7 ts us;refine zCB (fun xs G=>∃ (ts' acc:List Rat) (k:Nat) (o5:Option (D×Bool)),xs=ts'.map (atD s)/\(∀ t∈ts',t∈ts)/\k<=us.length/\acc++DM.zAy ts' (us.drop k)=DM.zAy ts us/\G=[some (.lst (ts.map (atD s)),false),some (.lst (us.map (atD s)),false),some (.bl (decide (s.1.1 < s.2.1)),false),some (.lst (acc.map (atD s)),true),some (.int (k:Int),false),o5]) ?_ ?_ _ _ ⟨ts,[],0,none,rfl,fun _ z=>z,zero_le _,by simp,rfl⟩
  . rintro x xs G ⟨ts',acc,k,o5,e,mem,hk,em,rfl⟩;cases ts' with
    | nil=>cases e
    | cons t ts' =>
      cases e;have mt:=mem t mem_cons_self;have ne:=hne (List.ne_nil_of_mem mt);refine ⟨_,rfl,?_⟩;(walk_at "s");rw [DM.zAy] at em;have al:acc.length+(us.length - k)<=2000:=by
        have:=congrArg List.length em;rw [length_append] at this;omega
      unfold zRa;refine zAE (zN2 (zIW ea ha ne hus (hts t mt) hn (by omega) (us.length - k) acc k (le_refl _) hk al ?_));refine k_nx ?_;have dt:=zKn us (fun u=>decide (u < t)) k;have lk:k+((us.drop k).takeWhile fun u=>decide (u < t)).length<=us.length:=by
        have:=(List.takeWhile_sublist (l:=us.drop k) fun u=>decide (u < t)).length_le;rw [length_drop] at this;omega
      have la:(acc++(us.drop k).takeWhile fun u=>decide (u < t)).length<=1000:=by
        have:=congrArg List.length em;rw [length_append,length_append,length_cons] at this;rw [length_append];omega
      rw [<- append_assoc] at em;generalize (acc++(us.drop k).takeWhile fun u=>decide (u < t))=acc2 at *;generalize k+((us.drop k).takeWhile fun u=>decide (u < t)).length=k2 at *;rw [<- dt] at em;have last:∀ k3:Nat,k3<=us.length->us.drop k3=DM.zCj t (us.drop k2)->EvP (evSs C (.cons (.app 3 (.var 5)) .nil) [some (.lst (ts.map (atD s)),false),some (.lst (us.map (atD s)),false),some (.bl (decide (s.1.1 < s.2.1)),false),some (.lst (acc2.map (atD s)),true),some (.int (k3:Int),false),some (atD s t,false)]) fun o=>match o with
          | .nx G'=>∃ (ts'' acc:List Rat) (k:Nat) (o5:Option (D×Bool)),ts'.map (atD s)=ts''.map (atD s)/\(∀ t∈ts'',t∈ts)/\k<=us.length/\acc++DM.zAy ts'' (us.drop k)=DM.zAy ts us/\G'=[some (.lst (ts.map (atD s)),false),some (.lst (us.map (atD s)),false),some (.bl (decide (s.1.1 < s.2.1)),false),some (.lst (acc.map (atD s)),true),some (.int (k:Int),false),o5]
          | .ct G'=>∃ (ts'' acc:List Rat) (k:Nat) (o5:Option (D×Bool)),ts'.map (atD s)=ts''.map (atD s)/\(∀ t∈ts'',t∈ts)/\k<=us.length/\acc++DM.zAy ts'' (us.drop k)=DM.zAy ts us/\G'=[some (.lst (ts.map (atD s)),false),some (.lst (us.map (atD s)),false),some (.bl (decide (s.1.1 < s.2.1)),false),some (.lst (acc.map (atD s)),true),some (.int (k:Int),false),o5]
          | .bk G'=>Kt C (.cons (.ret (.bin .Add (.var 3) (.sl (.var 1) (.cons (.var 4) .nil) .nil))) .nil) (Kd' Q) (.nx G')
          | .rt r=>Kt C (.cons (.ret (.bin .Add (.var 3) (.sl (.var 1) (.cons (.var 4) .nil) .nil))) .nil) (Kd' Q) (.rt r):=fun k3 l3 e3=>by
        refine zAE (zF9 (xs:=acc2.map (atD s)) (i:=3) rfl (by rw [length_map];omega) ?_);(walk_at "w");refine ⟨ts',acc2++[t],k3,some (atD s t,false),rfl,fun y hy=>mem y (mem_cons_of_mem _ hy),l3,?_,?_⟩
        . rw [e3,append_assoc];exact em
        . rw [map_append]
          rfl
      (walk_at "w");rw [length_map];refine zBK (fun c=>?_) fun c=>?_
      . have lt:k2 < us.length:=by omega
        have ed:us.drop k2=us[k2]::us.drop (k2+1):=drop_eq_getElem_cons lt;have eu:us[k2]?=some us[k2]:=getElem?_eq_getElem lt;have eA:atI (us.map (atD s)) (k2:Int)=some (atD s us[k2]):=zAq (by rw [getElem?_map,eu];rfl);generalize us[k2]=u at *;(walk_at "w");refine zAz eA ?_;(walk_at "w");refine (show EvP (cmpD .Eq (ptD (DM.ptAt s u)) (ptD (DM.ptAt s t))) _ from ?_);refine zOA ?_;(walk_at "w");refine zBK (fun c2=>?_) fun c2=>?_
        . have c3:=(zOB ne).mp c2;refine zAE (zKl (i:=4) rfl ?_);(walk_at "e");refine zAw (k_nx ?_);rw [show (k2:Int)+1=((k2+1:Nat):Int) by omega];refine last (k2+1) (by omega) ?_;rw [ed,DM.zBZ,if_pos c3]
        . have c3:¬ u=t:=fun z=>c2 ((zOB ne).mpr z)
          refine zAw (k_nx ?_);refine last k2 lk ?_;rw [ed,DM.zBZ,if_neg c3]
      . have e0:us.drop k2=[]:=drop_eq_nil_of_le (by omega);(walk_at "e");refine zAw (k_nx ?_);refine last k2 lk ?_;rw [e0]
        rfl
  . rintro G ⟨ts',acc,k,o5,e,mem,hk,em,rfl⟩;cases ts' with
    | cons t ts'=>cases e
    | nil =>
      rw [DM.zAy] at em;refine k_nx ?_;(walk_at "w");rw [zHz,<- List.map_drop];refine zM0 (by rw [length_map,length_map,<- length_append,em];omega) ?_;rw [<- map_append,em];(walk_at "w");exact h
end
theorem zQg {a b:Rat}{n:Nat}{k:Int}(ne:a≠b)(ha:RB n a)(hb:RB n b)(hk:RB 8 (k:Rat)):RB (3*n+10) (DM.tOf a b k) :=
 (zGZ (show b - a≠0 by grind) (zB8 hk ha) (zB8 hb ha)).mono (by omega)
theorem zLA {s:Pt×Pt}{n k:Nat}{t:Rat}(h1:PB n s.1)(h2:PB n s.2)(ht:RB k t):PB (3*n+k+2) (DM.ptAt s t):=⟨zQw h1.x h2.x ht,zQw h1.y h2.y ht⟩
theorem zLV {a b:Rat}{n w:Nat}(hw:w<=100)(ha:RB n a)(hb:RB n b):∀ t∈DM.tsQ a b w,RB (3*n+10) t:=fun t ht=>by
 unfold DM.tsQ at ht;obtain ⟨k,hk,rfl⟩:=mem_map.mp ht;obtain ⟨r,ne⟩:=zGf hw hk;exact zQg ne ha hb r
theorem zGT {s:Pt×Pt}{n w h:Nat}(hw:w<=100)(hh:h<=100)(h1:PB n s.1)(h2:PB n s.2):∀ t∈DM.zBc w h s,RB (3*n+10) t:=fun t ht=>by
 unfold DM.zBc DM.midQ at ht;rcases mem_append.mp ht with ht | ht
 .rcases mem_cons.mp ht with rfl | ht
  .exact zE0.mono (by omega)
  .rcases DM.zCV.mp ht with ht | ht
   .exact zLV hw h1.x h2.x t ht
   .exact zLV hh h1.y h2.y t ht
 .rw [mem_singleton.mp ht];exact zNP.mono (by omega)
theorem zHJ (a b:Rat)(w:Nat):(DM.tsQ a b w).length<=w+1:=by unfold DM.tsQ;rw [length_map];exact zE7 a b w
theorem zHL (w h:Nat)(s:Pt×Pt):(DM.zBc w h s).length<=w+h+4:=by
 unfold DM.zBc DM.midQ;have:=zC7 (DM.tsQ s.1.1 s.2.1 w) (DM.tsQ s.1.2 s.2.2 h);have:=zHJ s.1.1 s.2.1 w;have:=zHJ s.1.2 s.2.2 h;rw [length_append,length_cons,length_singleton];omega
theorem at_0 (s:Pt×Pt):DM.ptAt s 0=s.1:=by unfold DM.ptAt;rw [DM.pw_0,DM.pw_0]
theorem at_1 (s:Pt×Pt):DM.ptAt s 1=s.2:=by unfold DM.ptAt;rw [DM.pw_1,DM.pw_1]
def zNJ (nm nu nl nx:Nat):S:=.cons (.set 3 (.ix (.var 2) (.int 0))) (.cons (.set 4 (.ix (.var 2) (.int 1))) (.cons (.set 5 (.call nm "made_one" (.cons (.call nu "upright_crossings" (.cons (.var 2) (.cons (.var 0) .nil))) (.cons (.call nl "level_crossings" (.cons (.var 2) (.cons (.var 1) .nil))) (.cons (.call nx "under" (.cons (.ix (.var 3) (.int 0)) (.cons (.ix (.var 4) (.int 0)) .nil))) .nil))))) (.frz 4 (.frz 3 (.cons (.ret (.bin .Add (.bin .Add (.lst (.cons (.var 3) .nil)) (.var 5)) (.lst (.cons (.var 4) .nil)))) .nil)))))
def zLI (F:List D->Option R):Prop:=∀ (w h:Nat) (s:Pt×Pt) (n:Nat) (Q:R->Prop),PB n s.1->PB n s.2->20*n+200<=10000000->w<=100->h<=100->Q (.lst ((DM.zBc w h s).map (atD s)),.fr)->EvP (F [.int w,.int h,zBx s]) Q
theorem zLa {C:Gm}{nm nu nl nx:Nat}{Fm Fu Fl Fx:List D->Option R}(em:C.fns[nm]?=some (("made_one":Str),Fm))(eu:C.fns[nu]?=some (("upright_crossings":Str),Fu))(el:C.fns[nl]?=some (("level_crossings":Str),Fl))(ex:C.fns[nx]?=some (("under":Str),Fx))
  (hm:zQX Fm) (hu:UpcF Fu) (hl:LvcF Fl) (hx:zEK Fx):zLI (dFun 3 6 (evSs C (zNJ nm nu nl nx))):=fun w h s n Q h1 h2 hn hw hh hQ=>by
 (walk_at "d");unfold zNJ;(walk_at "st");(walk_at "w");refine hu s w n _ h1 h2 (by omega) hw ?_;(walk_at "w");refine hl s h n _ h1 h2 (by omega) hh ?_;(walk_at "w");refine zBv hx h1.x h2.x (by omega) ?_;(walk_at "w");have l1:=zHJ s.1.1 s.2.1 w;have l2:=zHJ s.1.2 s.2.2 h;refine hm s _ _ (6*n+20) _ (fun z=>?_) (fun t ht=>?_) (fun t ht=>?_) (by omega) (by omega) ?_
 .obtain ⟨t,ht⟩:=List.exists_mem_of_ne_nil _ z;exact (DM.zGj.mp ht).1
 .exact (zLA h1 h2 (zLV hw h1.x h2.x t ht)).mono (by omega)
 .exact (zLA h1 h2 (zLV hh h1.y h2.y t ht)).mono (by omega)
 have ml:=zC7 (DM.tsQ s.1.1 s.2.1 w) (DM.tsQ s.1.2 s.2.2 h);(walk_at "w");refine zM0 (by rw [length_map,length_singleton];omega) ?_;(walk_at "w");refine zM0 (by rw [length_append,length_map,length_singleton,length_singleton];omega) ?_;(walk_at "w");have e:[ptD s.1]++(DM.zAy (DM.tsQ s.1.1 s.2.1 w) (DM.tsQ s.1.2 s.2.2 h)).map (atD s)++[ptD s.2]=(DM.zBc w h s).map (atD s):=by
  unfold DM.zBc DM.midQ;rw [map_append,map_cons,map_cons,map_nil];unfold atD;rw [at_0,at_1]
  rfl
 rw [e];exact hQ
def midB (nt np ng:Nat):S:=.cons (.ret (.call nt "times" (.cons (.glob ng "HALF") (.cons (.call np "plus" (.cons (.var 0) (.cons (.var 1) .nil))) .nil)))) .nil
def MidF (F:List D->Option R):Prop:=∀ (p q:Rat) (n:Nat) (Q:R->Prop),RB n p->RB n q->n<=10000000->Q (ratD ((p+q) / 2),.cl)->EvP (F [ratD p,ratD q]) Q
theorem zRY {C:Gm}{nt np ng:Nat}{Ft Fp:List D->Option R}(et:C.fns[nt]?=some (("times":Str),Ft))(ep:C.fns[np]?=some (("plus":Str),Fp))(eg:C.cs[ng]?=some (("HALF":Str),.tup [.int 1,.int 2]))(ht:zGN Ft)(hp:zIn Fp):MidF (dFun 2 2 (evSs C (midB nt np ng))):=fun p q n Q h1 h2 hn h=>by
 (walk_at "d");unfold midB;(walk_at "st");(walk_at "w");rw [zMK];refine zRO ht zGa (by (repeat walk_at "rb")) (by omega) ?_;(walk_at "w");rw [<- DM.zDM];exact h
def pcB (nw nm:Nat):S:=.cons (.set 2 (.call nw "whole_part" (.cons (.call nm "middle" (.cons (.ix (.var 0) (.int 0)) (.cons (.ix (.var 1) (.int 0)) .nil))) .nil))) (.cons (.set 3 (.call nw "whole_part" (.cons (.call nm "middle" (.cons (.ix (.var 0) (.int 1)) (.cons (.ix (.var 1) (.int 1)) .nil))) .nil))) (.cons (.ret (.tup (.cons (.max (.var 2) (.neg (.int 1))) (.cons (.var 3) (.cons (.var 0) (.cons (.var 1) .nil)))))) .nil))
def zCH (c r:Int)(p q:Pt):D:=.tup [.int c,.int r,ptD p,ptD q]
def colQ (p q:Pt):Int:=max ((p.1+q.1) / 2).floor (-1)
def rowQ (p q:Pt):Int:=((p.2+q.2) / 2).floor
def PcF (F:List D->Option R):Prop:=∀ (p q:Pt) (n:Nat) (Q:R->Prop),PB n p->PB n q->n<=10000000->Q (zCH (colQ p q) (rowQ p q) p q,.cl)->EvP (F [ptD p,ptD q]) Q
theorem zTP {C:Gm}{nw nm:Nat}{Fw Fm:List D->Option R}(ew:C.fns[nw]?=some (("whole_part":Str),Fw))(em:C.fns[nm]?=some (("middle":Str),Fm))(hw:WpF Fw)(hm:MidF Fm):PcF (dFun 2 4 (evSs C (pcB nw nm))):=fun p q n Q h1 h2 hn h=>by
 (walk_at "d");unfold pcB;(walk_at "st");(walk_at "w");refine hm _ _ n _ h1.x h2.x hn ?_;(walk_at "w");refine hw _ _ ?_;(walk_at "w");refine hm _ _ n _ h1.y h2.y hn ?_;(walk_at "w");refine hw _ _ ?_;(walk_at "w");exact h
theorem i_c0 {c r:Int}{p q:Pt}{Q:R->Prop}(h:Q (.int c,.cl)):EvP (ixD (zCH c r p q) (.int 0)) Q:=zDL rfl h
theorem i_c1 {c r:Int}{p q:Pt}{Q:R->Prop}(h:Q (.int r,.cl)):EvP (ixD (zCH c r p q) (.int 1)) Q:=zDL rfl h
theorem i_c2 {c r:Int}{p q:Pt}{Q:R->Prop}(h:Q (ptD p,.cl)):EvP (ixD (zCH c r p q) (.int 2)) Q:=zDL rfl h
theorem i_c3 {c r:Int}{p q:Pt}{Q:R->Prop}(h:Q (ptD q,.cl)):EvP (ixD (zCH c r p q) (.int 3)) Q:=zDL rfl h
def onB:S:=.cons (.ret (.andl (.cons (.cmp .Lt (.ix (.var 2) (.int 0)) (.var 0)) (.cons (.chn .LtE .Lt (.int 0) (.ix (.var 2) (.int 1)) (.var 1)) .nil)))) .nil
def OnF (F:List D->Option R):Prop:=∀ (w h c r:Int) (p q:Pt) (Q:R->Prop),Q (.bl (decide (c < w)&&(decide (0<=r)&&decide (r < h))),.cl)->EvP (F [.int w,.int h,zCH c r p q]) Q
theorem zTQ {C:Gm}:OnF (dFun 3 3 (evSs C onB)):=fun w h c r p q Q hQ=>by
 (walk_at "d");unfold onB;(walk_at "st");(walk_at "w");refine i_c0 ?_;(walk_at "w");refine zBK (fun z1=>?_) fun z1=>?_
 .refine zFG (zSV ?_);(walk_at "w");refine i_c1 ?_;(walk_at "w");refine zBK (fun z2=>?_) fun z2=>?_
  ·(walk_at "w");simpa [z1,z2] using hQ
  ·(walk_at "w");simpa [z1,z2] using hQ
 ·(walk_at "w");simpa [z1] using hQ
def pcQ (s:Pt×Pt)(p:Rat×Rat):D:=zCH (colQ (DM.ptAt s p.1) (DM.ptAt s p.2)) (rowQ (DM.ptAt s p.1) (DM.ptAt s p.2)) (DM.ptAt s p.1) (DM.ptAt s p.2)
def zIZ (w h:Nat)(s:Pt×Pt):List (Rat×Rat):=(DM.adj (DM.zBc w h s)).filter fun p=>decide (DM.zGO w h s (DM.mid2 p))
theorem zJ6 {w h:Nat}(hw:1<=w)(s:Pt×Pt)(p:Rat×Rat):(decide (colQ (DM.ptAt s p.1) (DM.ptAt s p.2) < (w:Int))&&(decide (0<=rowQ (DM.ptAt s p.1) (DM.ptAt s p.2))&&decide (rowQ (DM.ptAt s p.1) (DM.ptAt s p.2) < (h:Int))))=decide (DM.zGO w h s (DM.mid2 p)):=by
 have e:∀ a b:Bool,(a=true<->b=true)->a=b:=fun a b z=>by cases a<;>cases b<;>simp_all
 refine e _ _ ?_;simp only [and_eq_true,decide_eq_true_eq];unfold DM.zGO colQ rowQ;rw [DM.zHV,DM.zHV];unfold DM.ptAt;dsimp only;generalize (DM.pw s.1.1 s.2.1 p.1+DM.pw s.1.1 s.2.1 p.2) / 2=x;generalize (DM.pw s.1.2 s.2.2 p.1+DM.pw s.1.2 s.2.2 p.2) / 2=y;have f1:x.floor < (w:Int)<->x < ((w:Int):Rat):=Rat.floor_lt_iff;have f2:(0:Int)<=y.floor<->((0:Int):Rat)<=y:=Rat.le_floor_iff;have f3:y.floor < (h:Int)<->y < ((h:Int):Rat):=Rat.floor_lt_iff;have z0:((0:Int):Rat)=0:=rfl;have z1:(((w:Nat):Int):Rat)=(w:Rat):=rfl;have z2:(((h:Nat):Int):Rat)=(h:Rat):=rfl;rw [z0] at f2;rw [z1] at f1;rw [z2] at f3;rw [<- f1,<- f2,<- f3];omega
def zJM (ns np no:Nat):S:=.cons (.ife (.cmp .Eq (.ix (.var 2) (.int 0)) (.ix (.var 2) (.int 1))) (.cons (.ret (.lst .nil)) .nil) .nil) (.cons (.set 3 (.call ns "stops" (.cons (.var 0) (.cons (.var 1) (.cons (.var 2) .nil))))) (.frz 3 (.cons (.setC 4 (.comp1 5 [] "k" (.r1 (.bin .Sub (.len (.var 3)) (.int 1))) .nil (.call np "piece_between" (.cons (.ix (.var 3) (.var 5)) (.cons (.ix (.var 3) (.bin .Add (.var 5) (.int 1))) .nil))))) (.frz 4 (.cons (.ret (.comp1 5 [] "part" (.it (.var 4)) (.cons (.call no "counts_on" (.cons (.var 0) (.cons (.var 1) (.cons (.var 5) .nil)))) .nil) (.var 5))) .nil)))))
def zCn (w h:Nat)(s:Pt×Pt):List (Rat×Rat):=if s.1=s.2 then [] else zIZ w h s
def zG8 (F:List D->Option R):Prop:=∀ (w h:Nat) (s:Pt×Pt) (n:Nat) (Q:R->Prop),PB n s.1->PB n s.2->20*n+200<=10000000->1<=w->w<=100->h<=100->Q (.lst ((zCn w h s).map (pcQ s)),.fr)->EvP (F [.int w,.int h,zBx s]) Q
def zSS (nm:Nat):S:=.cons (.ret (.call nm "minus" (.cons (.ix (.ix (.var 0) (.int 2)) (.int 1)) (.cons (.ix (.ix (.var 0) (.int 3)) (.int 1)) .nil)))) .nil
def zLL (F:List D->Option R):Prop:=∀ (c r:Int) (p q:Pt) (n:Nat) (Q:R->Prop),PB n p->PB n q->n<=10000000->Q (ratD (p.2 - q.2),.cl)->EvP (F [zCH c r p q]) Q
theorem zPy {C:Gm}{nm:Nat}{Fm:List D->Option R}(em:C.fns[nm]?=some (("minus":Str),Fm))(hm:zEn Fm):zLL (dFun 1 1 (evSs C (zSS nm))):=fun c r p q n Q h1 h2 hn h=>by
 (walk_at "d");unfold zSS;(walk_at "st");(walk_at "w");refine i_c2 ?_;(walk_at "w");refine i_c3 ?_;(walk_at "w");exact h
def zNN (ng nt nf nm nd:Nat):S:=.cons (.set 1 (.ix (.var 0) (.int 0))) (.cons (.ife (.cmp .Eq (.var 1) (.neg (.int 1))) (.cons (.ret (.glob ng "NOUGHT")) .nil) .nil) (.cons (.ret (.call nt "times" (.cons (.call nf "fall" (.cons (.var 0) .nil)) (.cons (.call nm "minus" (.cons (.tup (.cons (.bin .Add (.var 1) (.int 1)) (.cons (.int 1) .nil))) (.cons (.call nd "middle" (.cons (.ix (.ix (.var 0) (.int 2)) (.int 0)) (.cons (.ix (.ix (.var 0) (.int 3)) (.int 0)) .nil))) .nil))) .nil)))) .nil))
def zFp (c:Int)(p q:Pt):Rat:=if c=-1 then 0 else (p.2 - q.2)*(((c+1:Int):Rat) - (p.1+q.1) / 2)
def zH9 (F:List D->Option R):Prop:=∀ (c r:Int) (p q:Pt) (n:Nat) (Q:R->Prop),PB n p->PB n q->10*n+100<=10000000->c.natAbs<=1000->Q (ratD (zFp c p q),.cl)->EvP (F [zCH c r p q]) Q
theorem zNk {p q:Rat}{n:Nat}(h1:RB n p)(h2:RB n q):RB (2*n+3) ((p+q) / 2):=by
 rw [DM.zDM];exact (zHT zGa (zDt h1 h2)).mono (by omega)
theorem zLh {C:Gm}{ng nt nf nm nd:Nat}{Ft Ff Fm Fd:List D->Option R}(eg:C.cs[ng]?=some (("NOUGHT":Str),.tup [.int 0,.int 1]))(et:C.fns[nt]?=some (("times":Str),Ft))(ef:C.fns[nf]?=some (("fall":Str),Ff))(em:C.fns[nm]?=some (("minus":Str),Fm))(ed:C.fns[nd]?=some (("middle":Str),Fd))
  (ht:zGN Ft) (hf:zLL Ff) (hm:zEn Fm) (hd:MidF Fd):zH9 (dFun 1 2 (evSs C (zNN ng nt nf nm nd))):=fun c r p q n Q h1 h2 hn hc h=>by
 (walk_at "d");unfold zNN;(walk_at "st");(walk_at "w");refine i_c0 ?_;(walk_at "w");unfold zFp at h;refine zBK (fun z=>?_) fun z=>?_
 .rw [if_pos z] at h;(walk_at "w");exact h
 .rw [if_neg z] at h;have rc:RB 12 ((c+1:Int):Rat):=zDs (zC8 (k:=2000) (by omega) (by decide)) (by decide);have rm:=zNk h1.x h2.x;have rf:RB (n+n+1) (p.2 - q.2):=zB8 h1.y h2.y;(walk_at "w");refine hf c r p q n _ h1 h2 (by omega) ?_;(walk_at "w");rw [zD3];refine i_c2 ?_;(walk_at "w");refine i_c3 ?_;(walk_at "w");refine hd _ _ n _ h1.x h2.x (by omega) ?_;(walk_at "w");exact h
theorem zG7:∀ l:List Rat,(DM.adj l).length=l.length - 1
 | []=>by rw [DM.zG6];rfl
 | [a]=>by rw [DM.zFU];rfl
 | a::b::r=>by
  rw [DM.zEJ,length_cons,zG7 (b::r)];simp
theorem zLF:∀ {l:List Rat} {i:Nat} {p:Rat×Rat},(DM.adj l)[i]?=some p->l[i]?=some p.1/\l[i+1]?=some p.2
 | [],i,p,h=>by rw [DM.zG6] at h;simp at h
 | [a],i,p,h=>by rw [DM.zFU] at h;simp at h
 | a::b::r,i,p,h=>by
  rw [DM.zEJ] at h;cases i with
  | zero =>
   simp at h;subst h;exact ⟨rfl,rfl⟩
  | succ i =>
   rw [List.getElem?_cons_succ] at h;have:=zLF h;exact ⟨by simpa using this.1,by simpa using this.2⟩
def zRC (s:Pt×Pt)(L:List (Rat×Rat)):D->D
 | .int k=>pcQ s (L.getD k.toNat (0,0))
 | d=>d
def onD (w h:Int):D->Bool
 | .tup [.int c,.int r,_,_]=>decide (c < w)&&(decide (0<=r)&&decide (r < h))
 | _=>false
theorem zO1 {w h:Nat}(hw:1<=w)(s:Pt×Pt)(L:List (Rat×Rat)):((L.map (pcQ s)).filter (onD w h)).map id=(L.filter fun p=>decide (DM.zGO w h s (DM.mid2 p))).map (pcQ s):=by
 rw [map_id,List.filter_map];congr 1;refine List.filter_congr fun p _=>?_
 exact zJ6 hw s p
theorem zJL {C:Gm}{ns np no:Nat}{Fs Fp Fo:List D->Option R}(es:C.fns[ns]?=some (("stops":Str),Fs))(ep:C.fns[np]?=some (("piece_between":Str),Fp))(eo:C.fns[no]?=some (("counts_on":Str),Fo))(hs:zLI Fs)(hp:PcF Fp)(ho:OnF Fo) :
  zG8 (dFun 3 5 (evSs C (zJM ns np no))):=fun w h s n Q h1 h2 hn hw1 hw hh hQ=>by
 (walk_at "d");unfold zJM;(walk_at "st");refine zAE ?_;(walk_at "e");refine zOA ?_;(walk_at "e");unfold zCn at hQ;refine zBK (fun z=>?_) fun z=>?_
 .rw [if_pos z] at hQ;(walk_at "w");exact hQ
 rw [if_neg z] at hQ;unfold zIZ at hQ;refine zAw (k_nx (zAE ?_));(walk_at "e");refine hs w h s n _ h1 h2 hn hw hh ?_;have sl:=zHL w h s;have sb:∀ t∈DM.zBc w h s,PB (6*n+20) (DM.ptAt s t):=fun t ht=>(zLA h1 h2 (zGT hw hh h1 h2 t ht)).mono (by omega)
 generalize DM.zBc w h s=l at *;have al:=zG7 l;(walk_at "e");refine zHq rfl ?_;(walk_at "s");refine zAE (zGv (zDC (zIK ?_)));(walk_at "e");rw [length_map];refine ⟨by omega,?_⟩;rw [show ((l.length:Int) - 1).toNat=(DM.adj l).length by omega];refine ⟨by rw [zAb];omega,?_⟩;refine (show EvP (zBb (tg1 5) (evC C .nil) _ _ ([some (.int (w:Int),false),some (.int (h:Int),false),some (zBx s,false),some (.lst (l.map (atD s)),false),none]++[none])) _ from ?_);refine zEe (n:=5) (base:=[some (.int (w:Int),false),some (.int (h:Int),false),some (zBx s,false),some (.lst (l.map (atD s)),false),none]) rfl (zRC s (DM.adj l)) _ _ (fun y hy=>?_) ?_
 .obtain ⟨k,rfl,k0,k1⟩:=zCm hy;(walk_at "c");have hk:k.toNat < (DM.adj l).length:=by omega
  have ek:k=((k.toNat:Nat):Int):=by omega
  have eg:(DM.adj l)[k.toNat]?=some (DM.adj l)[k.toNat]:=getElem?_eq_getElem hk;have ed:(DM.adj l).getD k.toNat (0,0)=(DM.adj l)[k.toNat]:=by rw [getD_eq_getElem?_getD,eg];rfl
  obtain ⟨g1,g2⟩:=zLF eg;generalize (DM.adj l)[k.toNat]=pr at *;have e1:atI (l.map (atD s)) k=some (atD s pr.1):=by
   conv=>lhs;rw [ek]
   exact zAq (by rw [getElem?_map,g1];rfl)
  have e2:atI (l.map (atD s)) (k+1)=some (atD s pr.2):=by
   conv=>lhs;rw [show k+1=((k.toNat+1:Nat):Int) by omega]
   exact zAq (by rw [getElem?_map,g2];rfl)
  (walk_at "w");refine zAz e1 ?_;(walk_at "w");refine zAz e2 ?_;(walk_at "w");refine (show EvP (Fp [ptD (DM.ptAt s pr.1),ptD (DM.ptAt s pr.2)]) _ from ?_);refine hp _ _ (6*n+20) _ (sb _ (mem_of_getElem? g1)) (sb _ (mem_of_getElem? g2)) (by omega) ?_;(walk_at "w");show zCH _ _ _ _=pcQ s ((DM.adj l).getD k.toNat (0,0));rw [ed]
  rfl
 rw [zKE (DM.adj l) (pcQ s) _ fun i x e=>by
  show pcQ s ((DM.adj l).getD (i:Int).toNat (0,0))=pcQ s x;rw [toNat_natCast,getD_eq_getElem?_getD,e]
  rfl]
 (walk_at "e");refine zHq rfl ?_;(walk_at "s");refine zAE (zCO (zDC (zEv ?_)));(walk_at "e");refine ⟨by rw [length_map];omega,?_⟩;refine (show EvP (zBb (tg1 5) (evC C (.cons _ .nil)) _ _ ([some (.int (w:Int),false),some (.int (h:Int),false),some (zBx s,false),some (.lst (l.map (atD s)),false),some (.lst ((DM.adj l).map (pcQ s)),false)]++[none])) _ from ?_);refine zFL (n:=5) (base:=[some (.int (w:Int),false),some (.int (h:Int),false),some (zBx s,false),some (.lst (l.map (atD s)),false),some (.lst ((DM.adj l).map (pcQ s)),false)]) rfl (onD w h) id _ _ (fun y hy=>?_) (fun y hy _=>?_) ?_
 .obtain ⟨p,hp',rfl⟩:=mem_map.mp hy;(walk_at "c");(walk_at "w");refine ho _ _ _ _ _ _ _ ?_;(walk_at "w")
  rfl
 ·(walk_at "c");(walk_at "w")
  rfl
 .rw [zO1 hw1];(walk_at "w");exact hQ
structure Pc where
 c:Int
 r:Int
 p:Pt
 q:Pt
def pcD (z:Pc):D:=zCH z.c z.r z.p z.q
def pcO (s:Pt×Pt)(t:Rat×Rat):Pc:=⟨colQ (DM.ptAt s t.1) (DM.ptAt s t.2),rowQ (DM.ptAt s t.1) (DM.ptAt s t.2),DM.ptAt s t.1,DM.ptAt s t.2⟩
def zCy (w h:Nat)(s:Pt×Pt):List Pc:=(zCn w h s).map (pcO s)
def zDG (w h:Nat)(ps:List Pt):List Pc:=(DM.zAi ps).flatMap (zCy w h)
def allP (w h:Nat)(rs:List (List Pt)):List Pc:=rs.flatMap (zDG w h)
def zCM (z:Pc):Rat:=z.p.2 - z.q.2
def zCg (z:Pc):Rat:=zFp z.c z.p z.q
structure PcB (n w h:Nat)(z:Pc):Prop where
 c0:-1<=z.c
 c1:z.c < (w:Int)
 r0:0<=z.r
 r1:z.r < (h:Int)
 p:PB (6*n+20) z.p
 q:PB (6*n+20) z.q
theorem zQU {l:List Rat}{t:Rat×Rat}(h:t∈DM.adj l):t.1∈l/\t.2∈l:=by
 induction l with
 | nil=>exact absurd h (by simp [DM.adj])
 | cons a l ih =>
  cases l with
  | nil=>exact absurd h (by simp [DM.adj])
  | cons b l =>
   rw [DM.adj] at h;rcases mem_cons.mp h with rfl | h
   .exact ⟨by simp,by simp⟩
   .exact ⟨mem_cons_of_mem _ (ih h).1,mem_cons_of_mem _ (ih h).2⟩
theorem zOT {n w h:Nat}{s:Pt×Pt}(hw:1<=w)(hw2:w<=100)(hh:h<=100)(h1:PB n s.1)(h2:PB n s.2):∀ z∈zCy w h s,PcB n w h z:=by
 intro z hz;unfold zCy zCn at hz;obtain ⟨t,ht,rfl⟩:=mem_map.mp hz;split at ht
 .exact absurd ht (by simp)
 .unfold zIZ at ht;obtain ⟨m,k⟩:=mem_filter.mp ht;obtain ⟨m1,m2⟩:=zQU m;rw [<- zJ6 hw s t] at k;simp only [and_eq_true,decide_eq_true_eq] at k;have c0:-1<=colQ (DM.ptAt s t.1) (DM.ptAt s t.2):=by unfold colQ;omega
  exact ⟨c0,k.1,k.2.1,k.2.2,(zLA h1 h2 (zGT hw2 hh h1 h2 _ m1)).mono (by omega),(zLA h1 h2 (zGT hw2 hh h1 h2 _ m2)).mono (by omega)⟩
theorem zEx (w h:Nat)(s:Pt×Pt):(zCy w h s).length<=w+h+4:=by
 unfold zCy zCn;rw [length_map];split
 .simp
 .unfold zIZ;have a:=length_filter_le (fun p=>decide (DM.zGO w h s (DM.mid2 p))) (DM.adj (DM.zBc w h s));have b:=zG7 (DM.zBc w h s);have c:=zHL w h s;omega
theorem zLc (w h:Nat)(s:Pt×Pt):(zCn w h s).map (pcQ s)=(zCy w h s).map pcD:=by
 unfold zCy;rw [map_map]
 rfl
def RgP (n:Nat)(ps:List Pt):Prop:=ps.length<=12/\∀ p∈ps,PB n p
theorem zOZ {n w h:Nat}{ps:List Pt}(hw:1<=w)(hw2:w<=100)(hh:h<=100)(hp:RgP n ps):∀ z∈zDG w h ps,PcB n w h z:=by
 intro z hz;obtain ⟨s,hs,hz⟩:=List.mem_flatMap.mp hz;obtain ⟨m1,m2⟩:=DM.zFg hs;exact zOT hw hw2 hh (hp.2 _ m1) (hp.2 _ m2) z hz
theorem zOC {n w h:Nat}{rs:List (List Pt)}(hw:1<=w)(hw2:w<=100)(hh:h<=100)(hr:∀ ps∈rs,RgP n ps):∀ z∈allP w h rs,PcB n w h z:=by
 intro z hz;obtain ⟨s,hs,hz⟩:=List.mem_flatMap.mp hz;exact zOZ hw hw2 hh (hr s hs) z hz
theorem zC9 {U M:Type}(f:U->List M)(n:Nat):∀ l:List U,(∀ x∈l,(f x).length<=n)->(l.flatMap f).length<=l.length*n
 | [],_=>by simp
 | a::l,h=>by
  have ih:=zC9 f n l fun x hx=>h x (mem_cons_of_mem _ hx)
  have ha:=h a mem_cons_self;rw [List.flatMap_cons,length_append,length_cons,Nat.succ_mul];omega
theorem zFn (w h:Nat)(ps:List Pt):(zDG w h ps).length<=ps.length*(w+h+4):=by
 have:=zC9 (zCy w h) (w+h+4) (DM.zAi ps) fun s _=>zEx w h s
 rw [DM.zFh] at this;exact this
def allB (ns np:Nat):S:=.cons (.set 3 (.lst .nil)) (.cons (.for1 4 (.it (.var 2)) (.cons (.for1 5 (.it (.call ns "sides" (.cons (.var 4) .nil))) (.cons (.ext 3 (.call np "pieces" (.cons (.var 0) (.cons (.var 1) (.cons (.var 5) .nil))))) .nil)) .nil)) (.cons (.retOwn 3) .nil))
structure FlB (n w h:Nat)(rs:List (List Pt)):Prop where
 w1:1<=w
 w2:w<=6
 h1:1<=h
 h2:h<=6
 m:rs.length<=6
 b:n<=1000
 r:∀ ps∈rs,RgP n ps
def AllF (F:List D->Option R):Prop:=∀ (n w h:Nat) (rs:List (List Pt)) (Q:R->Prop),FlB n w h rs->Q (.lst ((allP w h rs).map pcD),.fr)->EvP (F [.int w,.int h,zAX rs]) Q
theorem zFb {U M:Type}(f:U->List M){l:List U}{i:Nat}{x:U}(e:l[i]?=some x):(l.take (i+1)).flatMap f=(l.take i).flatMap f++f x:=by
 rw [take_add_one,e];show (l.take i++[x]).flatMap f=_;rw [List.flatMap_append];simp
theorem zS0 {C:Gm}{ns np:Nat}{Fs Fp:List D->Option R}(es:C.fns[ns]?=some (("sides":Str),Fs))(ep:C.fns[np]?=some (("pieces":Str),Fp))(hs:zLJ Fs)(hp:zG8 Fp):AllF (dFun 3 6 (evSs C (allB ns np))):=fun n w h rs Q fb hQ=>by
 obtain ⟨w1,w2,h1,h2,hn,nb,hr⟩:=fb;(walk_at "d");unfold allB;(walk_at "st");refine zAE ?_;(walk_at "e");have bnd:∀ i,((rs.take i).flatMap (zDG w h)).length<=6*192:=fun i=>by
  have:=zC9 (zDG w h) 192 (rs.take i) fun ps hps=>by
   have a:=zFn w h ps;have b:=(hr ps (mem_of_mem_take hps)).1;have c:ps.length*(w+h+4)<=12*16:=Nat.mul_le_mul b (by omega);omega
  have l:(rs.take i).length<=6:=by rw [length_take];omega
  have:=mul_le_mul_right 192 l;omega
 refine zAE (zB3 (zEv (zAG rfl (w_cl (ds:=rs.map zBj) ?_))));refine zCB (fun xs G=>∃ (i:Nat) (a b:Option (D×Bool)),G=[some (.int (w:Int),false),some (.int (h:Int),false),some (zAX rs,false),some (.lst (((rs.take i).flatMap (zDG w h)).map pcD),true),a,b]/\xs=(rs.drop i).map zBj/\i<=rs.length) ?_ ?_ _ _ ⟨0,none,none,rfl,rfl,zero_le _⟩
 .rintro x xs G ⟨i,a,b,rfl,exs,hi⟩;have hlt:i < rs.length:=by
   by_cases q:i < rs.length
   .exact q
   .rw [drop_eq_nil_of_le (by omega)] at exs;cases exs
  rw [drop_eq_getElem_cons hlt,map_cons] at exs;obtain ⟨rfl,rfl⟩:=List.cons.inj exs;have eg:rs[i]?=some rs[i]:=getElem?_eq_getElem hlt;generalize rs[i]=ps at eg exs;have hps:=hr ps (mem_of_getElem? eg);have et:=zFb (zDG w h) eg;have b0:=bnd i;generalize (rs.take i).flatMap (zDG w h)=A at et b0;refine ⟨_,rfl,?_⟩;(walk_at "s");refine zAE (zB3 (zEv (zAS es (zAF (zAG rfl (n_cl (zAo ?_)))))));have p1:=hps.1;refine hs ps _ (by omega) ?_;refine n_fr (w_fr ?_);refine zCB (fun ys G=>∃ (j:Nat) (b:Option (D×Bool)),G=[some (.int (w:Int),false),some (.int (h:Int),false),some (zAX rs,false),some (.lst ((A++((DM.zAi ps).take j).flatMap (zCy w h)).map pcD),true),some (zBj ps,false),b]/\ys=((DM.zAi ps).drop j).map zBx/\j<=(DM.zAi ps).length) ?_ ?_ _ _ ⟨0,b,?_,rfl,zero_le _⟩
  .rintro y ys G ⟨j,b,rfl,eys,hj⟩;have hlt2:j < (DM.zAi ps).length:=by
    by_cases q:j < (DM.zAi ps).length
    .exact q
    .rw [drop_eq_nil_of_le (by omega)] at eys;cases eys
   rw [drop_eq_getElem_cons hlt2,map_cons] at eys;obtain ⟨rfl,rfl⟩:=List.cons.inj eys;have eg2:(DM.zAi ps)[j]?=some (DM.zAi ps)[j]:=getElem?_eq_getElem hlt2;generalize (DM.zAi ps)[j]=s at eg2 eys;obtain ⟨m1,m2⟩:=DM.zFg (mem_of_getElem? eg2);have et2:=zFb (zCy w h) eg2;have b1:(((DM.zAi ps).take j).flatMap (zCy w h)).length<=12*16:=by
    have:=zC9 (zCy w h) 16 ((DM.zAi ps).take j) fun s _=>le_trans (zEx w h s) (by omega)
    have l:((DM.zAi ps).take j).length<=12:=by rw [length_take,DM.zFh];omega
    have:=mul_le_mul_right 16 l;omega
   have b2:=zEx w h s;refine ⟨_,rfl,?_⟩;(walk_at "s");refine zAE (zSd rfl (zAS ep (zAF (zAG rfl (n_cl (zAF (zAG rfl (n_cl (zAF (zAG rfl (n_cl (zAo ?_))))))))))));refine hp w h s n _ (hps.2 _ m1) (hps.2 _ m2) (by omega) w1 (by omega) (by omega) ?_;rw [zLc];refine n_fr ⟨_,rfl,?_,zAw ?_⟩
   .rw [length_map,length_append,length_map];omega
   .refine ⟨j+1,some (zBx s,false),?_,rfl,by omega⟩;simp only [List.set_cons_zero,List.set_cons_succ,et2,map_append,append_assoc]
  .rintro G ⟨j,b,rfl,eys,hj⟩;have e:j=(DM.zAi ps).length:=by
    have:=congrArg List.length eys;rw [length_map,length_drop,length_nil] at this;omega
   subst e;rw [take_length];refine k_nx (zAw ?_);refine ⟨i+1,some (zBj ps,false),b,?_,rfl,by omega⟩;rw [et]
   rfl
  .simp only [take_zero,List.flatMap_nil,append_nil]
 .rintro G ⟨i,a,b,rfl,exs,hi⟩;have e:i=rs.length:=by
   have:=congrArg List.length exs;rw [length_map,length_drop,length_nil] at this;omega
  subst e;rw [take_length];refine k_nx ?_;(walk_at "w");exact hQ
def rowB (np nt ng:Nat):S:=.cons (.set 2 (.lst .nil)) (.cons (.set 3 (.glob ng "NOUGHT")) (.cons (.for1 4 (.r1 (.bin .Sub (.len (.var 0)) (.int 1))) (.cons (.set 3 (.call np "plus" (.cons (.var 3) (.cons (.call nt "total" (.cons (.ix (.var 0) (.var 4)) .nil)) .nil)))) (.cons (.app 2 (.call np "plus" (.cons (.var 3) (.cons (.call nt "total" (.cons (.ix (.var 1) (.bin .Add (.var 4) (.int 1))) .nil)) .nil)))) .nil))) (.cons (.retOwn 2) .nil)))
def zEz (fs:List (List Rat)):D:=.lst (fs.map zBH)
def zDA (fs:List (List Rat))(j:Nat):Rat:=DM.sumR ((fs.take j).map DM.sumR)
def zLe (fs gs:List (List Rat))(w:Nat):List Rat:=(List.range w).map fun c=>zDA fs (c+1)+DM.sumR (gs.getD (c+1) [])
def RowF (F:List D->Option R):Prop:=∀ (fs gs:List (List Rat)) (w L B:Nat) (Q:R->Prop),fs.length=w+1->gs.length=w+1->w<=6->L<=5000->L*(B+1)<=4000000->(∀ f∈fs,f.length<=L/\∀ q∈f,RB B q)->(∀ f∈gs,f.length<=L/\∀ q∈f,RB B q)->Q (zBH (zLe fs gs w),.fr)->EvP (F [zEz fs,zEz gs]) Q
theorem zIu {f:List Rat}{L B:Nat}(l:L*(B+1)<=4000000)(h:f.length<=L/\∀ q∈f,RB B q):WB f (f.length*(B+1))/\f.length*(B+1)<=4000000/\RB 4000001 (DM.sumR f):=by
 have a:=zM9 h.2;have b:f.length*(B+1)<=L*(B+1):=mul_le_mul_right _ h.1;exact ⟨a,le_trans b l,(zM8 a).mono (Nat.succ_le_succ (le_trans b l))⟩
theorem zGr {fs:List (List Rat)}{j:Nat}{f:List Rat}(e:fs[j]?=some f):zDA fs (j+1)=zDA fs j+DM.sumR f:=by
 unfold zDA;rw [take_add_one,e];show DM.sumR ((fs.take j++[f]).map DM.sumR)=_;rw [map_append,DM.zCw];simp [DM.sumR,Rat.add_zero]
theorem zQs {C:Gm}{np nt ng:Nat}{Fp Ft:List D->Option R}(ep:C.fns[np]?=some (("plus":Str),Fp))(et:C.fns[nt]?=some (("total":Str),Ft))(eg:C.cs[ng]?=some (("NOUGHT":Str),.tup [.int 0,.int 1]))(hp:zIn Fp)(ht:zLH Ft):RowF (dFun 2 5 (evSs C (rowB np nt ng))):=fun fs gs w L B Q lf lg hw hL hLB hf hg hQ=>by
 (walk_at "d");unfold rowB;(walk_at "st");refine zAE ?_;(walk_at "e");refine zAE (zEc (zFF eg ?_));(walk_at "e");refine zAE (zB3 (zIK (zBY (zBF (zAG rfl (zEO (zAa (zIk ?_))))))));rw [length_map,lf];refine ⟨_,rfl,by omega,?_⟩;rw [show (((w+1:Nat):Int) - 1).toNat=w by omega];refine zCB (fun xs G=>∃ (j:Nat) (o:Option (D×Bool)),G=[some (zEz fs,false),some (zEz gs,false),some (zBH ((List.range j).map fun c=>zDA fs (c+1)+DM.sumR (gs.getD (c+1) [])),true),some (ratD (zDA fs j),false),o]/\xs=(rngL 0 w).drop j/\j<=w/\RB (1+j*4000002) (zDA fs j)) ?_ ?_ _ _ ⟨0,none,rfl,rfl,zero_le _,?_⟩
 .rintro x xs G ⟨j,o,rfl,exs,hj,rb⟩;obtain ⟨hlt,rfl,rfl⟩:=zQt exs.symm;have ef:fs[j]?=some (fs[j]'(by omega)):=getElem?_eq_getElem (by omega);have eg2:gs[j+1]?=some (gs[j+1]'(by omega)):=getElem?_eq_getElem (by omega);generalize fs[j]'(by omega)=f at ef;generalize gs[j+1]'(by omega)=g at eg2;obtain ⟨w1,w2,w3⟩:=zIu hLB (hf f (mem_of_getElem? ef));obtain ⟨v1,v2,v3⟩:=zIu hLB (hg g (mem_of_getElem? eg2));have l1:=(hf f (mem_of_getElem? ef)).1;have l2:=(hg g (mem_of_getElem? eg2)).1;have fsc:=zGr ef;have jb:j*4000002<=5*4000002:=mul_le_mul_right _ (by omega);have rb2:RB (1+(j+1)*4000002) (zDA fs (j+1)):=by
   rw [fsc];exact (zDt rb w3).mono (by rw [Nat.succ_mul];omega)
  have jb2:(j+1)*4000002<=6*4000002:=mul_le_mul_right _ (by omega);refine ⟨_,rfl,?_⟩;(walk_at "s");refine zAE ?_;(walk_at "e");refine zAz (d:=zBH f) (zAq (by rw [getElem?_map,ef];rfl)) ?_;(walk_at "e");refine ht f _ _ w1 (by omega) (by omega) ?_;(walk_at "e");rw [<- fsc];refine zAE (zF9 rfl (by rw [length_map,length_map,length_range];omega) ?_);(walk_at "e");refine zAz (d:=zBH g) (by rw [show (j:Int)+1=((j+1:Nat):Int) by omega];exact zAq (by rw [getElem?_map,eg2];rfl)) ?_;(walk_at "e");refine ht g _ _ v1 (by omega) (by omega) ?_;(walk_at "e");refine zAw ?_;refine ⟨j+1,some (.int j,false),?_,rfl,by omega,rb2⟩;unfold zBH;rw [range_succ,map_append,map_append];have e:gs.getD (j+1) []=g:=by rw [getD_eq_getElem?_getD,eg2];rfl
  rw [map_cons,map_nil,map_cons,map_nil,e]
 .rintro G ⟨j,o,rfl,exs,hj,rb⟩;obtain rfl:=zOX exs hj;refine k_nx ?_;(walk_at "w");exact hQ
 .exact zE0.mono (by omega)
def dz (c r:Int)(z:Pc):Rat:=(if z.r=r/\z.c < c then zCM z else 0)+(if z.r=r/\z.c=c then zCg z else 0)
def dueZ (zs:List Pc)(c r:Int):Rat:=DM.sumR (zs.map (dz c r))
def zOV (w h:Nat)(c r:Int)(s:Pt×Pt):Rat:=dueZ (zCy w h s) c r
theorem zEt {U:Type}(f:U->List Pc)(c r:Int):∀ l:List U,dueZ (l.flatMap f) c r=DM.sumR (l.map fun x=>dueZ (f x) c r)
 | []=>rfl
 | a::l=>by
  rw [List.flatMap_cons];have ih:=zEt f c r l;unfold dueZ at *;rw [map_append,DM.zCw,ih]
  rfl
theorem zLg (w h:Nat)(c r:Int)(ps:List Pt):dueZ (zDG w h ps) c r=DM.zA2 (zOV w h c r) ps:=by
 unfold zDG;rw [zEt,<- DM.zDq]
 rfl
theorem zSh {c r:Int}(c0:0<=c)(s:Pt×Pt)(t:Rat×Rat):dz c r (pcO s t)=DM.dzM c r (DM.ptAt s t.1) (DM.ptAt s t.2):=by
 unfold dz DM.dzM pcO zCM zCg zFp colQ rowQ;dsimp only;generalize DM.ptAt s t.1=p;generalize DM.ptAt s t.2=q;generalize ((p.2+q.2) / 2).floor=y;generalize (p.1+q.1) / 2=m;generalize m.floor=x;by_cases e:y=r
 .rw [if_pos e];by_cases a:x < c
  .rw [if_pos ⟨e,by omega⟩,if_pos a,if_neg (by omega),Rat.add_zero]
  .rw [if_neg (by omega),if_neg a,Rat.zero_add];by_cases b:x=c
   .have k:max x (-1)=c:=by omega
    rw [k,if_pos ⟨e,rfl⟩,if_pos b,if_neg (by omega)]
   .rw [if_neg (by omega),if_neg b]
 .rw [if_neg e,if_neg (fun z=>e z.1),if_neg (fun z=>e z.1),Rat.add_zero]
theorem zER {U:Type}(f:U->Rat)(P:U->Bool):∀ l:List U,(∀ x∈l,P x=false->f x=0)->DM.sumR ((l.filter P).map f)=DM.sumR (l.map f)
 | [],_=>rfl
 | a::l,h=>by
  have ih:=zER f P l fun x hx=>h x (mem_cons_of_mem _ hx)
  rw [filter_cons];cases e:P a with
  | true=>rw [if_pos rfl,map_cons,map_cons,DM.sumR,DM.sumR,ih]
  | false=>rw [if_neg Bool.false_ne_true,map_cons,DM.sumR,ih,h a mem_cons_self e,Rat.zero_add]
abbrev boxC (c r:Int):Pt×Pt->Rat:=DM.boxG (c:Rat) ((c+1:Int):Rat) (r:Rat) ((r+1:Int):Rat)
theorem zOU {w h:Nat}(s:Pt×Pt){c r:Int}(c0:0<=c)(c1:c < w)(r0:0<=r)(r1:r < h):zOV w h c r s=boxC c r s:=by
 have k:=DM.zLd s c0 c1 r0 r1;unfold zOV dueZ zCy zCn;by_cases e:s.1=s.2
 .rw [if_pos e];obtain ⟨p,q⟩:=s;cases e;exact ((DM.zH7 (DM.zFA c) (DM.zFA r)).self p).symm
 .rw [if_neg e];show DM.sumR (((zIZ w h s).map (pcO s)).map (dz c r))=DM.boxG (c:Rat) ((c+1:Int):Rat) (r:Rat) ((r+1:Int):Rat) s;rw [<- k];unfold zIZ;rw [map_map,zER]
  .refine DM.zBB fun t _=>zSh c0 s t
  .intro t _ z;show dz c r (pcO s t)=0;rw [zSh c0];exact DM.zQJ c1 r0 r1 (of_decide_eq_false z)
theorem zOa {w h:Nat}(ps:List Pt){c r:Int}(c0:0<=c)(c1:c < w)(r0:0<=r)(r1:r < h):dueZ (zDG w h ps) c r=DM.zA2 (boxC c r) ps:=by
 rw [zLg];exact DM.zFk (fun s=>zOU s c0 c1 r0 r1) ps
theorem zH5 {w h:Nat}(rs:List (List Pt)){c r:Int}(c0:0<=c)(c1:c < w)(r0:0<=r)(r1:r < h):dueZ (allP w h rs) c r=DM.sumR (rs.map (DM.zA2 (boxC c r))):=by
 unfold allP;rw [zEt];exact DM.zBB fun ps _=>zOa ps c0 c1 r0 r1
end DL
end
section
namespace DL
open PySem Spec PyProof.Rows L2
inductive W where
 | dat (d:D) | loc (n:Nat) | tup (l:List W)
noncomputable instance:Inhabited W:=⟨.dat .non⟩
abbrev Mem:=List (List W)
def fzH (H:Hp):Hp:=fun b=>match H b with
 | some (.tup xs)=>some (.tup xs)
 | some (.frz o u)=>some (.frz o u)
 | some (.dT kvs)=>some (.dT kvs)
 | _=>none
theorem zCA {H:Hp}:Same (fzH H) H:=fun b o h=>by
 unfold fzH at h;split at h
 .rename_i e;cases h;exact e
 .rename_i e;cases h;exact e
 .rename_i e;cases h;exact e
 .cases h
theorem zNu {H:Hp}{a:Addr}{xs:List V}(h:H a=some (.tup xs)):fzH H a=some (.tup xs):=by unfold fzH;rw [h]
theorem zD4 {H:Hp}{a:Addr}{o:Obj}{u:HO}(h:H a=some (.frz o u)):fzH H a=some (.frz o u):=by unfold fzH;rw [h]
theorem zNv {H:Hp}{a:Addr}{kvs:List (List Key×V)}(h:H a=some (.dT kvs)):fzH H a=some (.dT kvs):=by unfold fzH;rw [h]
theorem zBW {H H':Hp}(h:Same H H'):Same (fzH H) (fzH H'):=fun b o q=>by
 have e:=h _ _ (zCA _ _ q);unfold fzH at q;split at q
 .cases q;exact zNu e
 .cases q;exact zD4 e
 .cases q;exact zNv e
 .cases q
theorem zNt {H:Hp}{a:Addr}{xs ys:List V}(h:H a=some (.lst xs)):fzH (upd H a (.lst ys))=fzH H:=by
 funext b;unfold fzH;by_cases e:b=a
 .subst e;rw [zAh,h]
 .rw [zAP e]
abbrev Kp (H H':Hp):Prop:=Same (fzH H) (fzH H')
theorem zQn {K:W.Frag}{H:Hp}{a:Addr}{xs:List V}(h:SqT K H a xs):SqT K (fzH H) a xs:=by
 rcases h with (h | ⟨o,h⟩) | h
 .exact .inl (.inl (zNu h))
 .exact .inl (.inr ⟨o,zD4 h⟩)
 .exact .inr h
mutual
def noL:D->Bool
 | .lst _=>false
 | .tup ds=>noLs ds
 | .lam _ _ ds=>noLs ds
 | _=>true
def noLs:List D->Bool
 | []=>true
 | d::ds=>noL d&&noLs ds
end
section
variable {K:W.Frag}{H:Hp}
mutual
theorem Den.fz:∀ {d:D} {v:V},noL d=true->Den K H d v->Den K (fzH H) d v
 | .non,_,_,h=>by rw [Den] at h ⊢;exact h
 | .bl _,_,_,h=>by rw [Den] at h ⊢;exact h
 | .int _,_,_,h=>by rw [Den] at h ⊢;exact h
 | .str _,_,_,h=>by rw [Den] at h ⊢;exact h
 | .lst _,_,n,_=>by rw [noL] at n;cases n
 | .tup ds,_,n,h=>by
  rw [noL] at n;rw [Den] at h ⊢;obtain ⟨a,vs,h1,h2,h3⟩:=h;exact ⟨a,vs,h1,zQn h2,DenL.fz n h3⟩
 | .exc c,_,_,h=>by
  rw [Den] at h ⊢;obtain ⟨a,o,u,C,h1,h2,h3⟩:=h;exact ⟨a,o,u,C,h1,zD4 h2,h3⟩
 | .dct ks,_,_,h=>by
  rw [Den] at h ⊢;obtain ⟨a,kvs,h1,h2,h3⟩:=h;exact ⟨a,kvs,h1,zNv h2,h3⟩
 | .lam _ L ds,_,n,h=>by
  rw [noL] at n;rw [Den] at h ⊢;obtain ⟨a,vs,h1,⟨cl,pm,c,ctv,oc,u1,g1,g2,g3,g4,g5,g6⟩,h3⟩:=h;exact ⟨a,vs,h1,⟨cl,pm,c,ctv,oc,u1,zD4 g1,zD4 g2,g3,g4,g5,Paired.mapP g6 fun _ _ zy121=>by obtain ⟨o,u,k1,k2⟩:=zy121;exact ⟨o,u,zD4 k1,k2⟩⟩,DenL.fz n h3⟩
theorem DenL.fz:∀ {ds:List D} {vs:List V},noLs ds=true->DenL K H ds vs->DenL K (fzH H) ds vs
 | [],_,_,h=>by rw [DenL] at h ⊢;exact h
 | d::ds,_,n,h=>by
  rw [noLs,and_eq_true] at n;rw [DenL] at h ⊢;obtain ⟨v,ws,h1,h2,h3⟩:=h;exact ⟨v,ws,h1,Den.fz n.1 h2,DenL.fz n.2 h3⟩
end
end
mutual
def DenW (K:W.Frag)(H:Hp)(U:List Addr):W->V->Prop
 | .dat d,v=>Den K (fzH H) d v
 | .loc n,v=>∃ a,U[n]?=some a/\v=.ref a
 | .tup ws,v=>∃ a vs,v=.ref a/\SqT K (fzH H) a vs/\DenWL K H U ws vs
def DenWL (K:W.Frag)(H:Hp)(U:List Addr):List W->List V->Prop
 | [],vs=>vs=[]
 | w::ws,vs=>∃ v us,vs=v::us/\DenW K H U w v/\DenWL K H U ws us
end
section
variable {K:W.Frag}{H H':Hp}{U:List Addr}
mutual
theorem DenW.mono (e:Kp H H')(M:List Addr):∀ {w:W} {v:V},DenW K H U w v->DenW K H' (U++M) w v
 | .dat _,_,h=>by rw [DenW] at h ⊢;exact h.mono e
 | .loc n,_,h=>by
  rw [DenW] at h ⊢;obtain ⟨a,h1,h2⟩:=h;exact ⟨a,by rw [getElem?_append_left (zzg h1).1];exact h1,h2⟩
 | .tup ws,_,h=>by
  rw [DenW] at h ⊢;obtain ⟨a,vs,h1,h2,h3⟩:=h;exact ⟨a,vs,h1,Same.tupS e h2,DenWL.mono e M h3⟩
theorem DenWL.mono (e:Kp H H')(M:List Addr):∀ {ws:List W} {vs:List V},DenWL K H U ws vs->DenWL K H' (U++M) ws vs
 | [],_,h=>by rw [DenWL] at h ⊢;exact h
 | w::ws,_,h=>by
  rw [DenWL] at h ⊢;obtain ⟨v,us,h1,h2,h3⟩:=h;exact ⟨v,us,h1,DenW.mono e M h2,DenWL.mono e M h3⟩
end
theorem DenW.keep (e:Kp H H'){w:W}{v:V}(h:DenW K H U w v):DenW K H' U w v:=by
 have:=h.mono e [];rwa [append_nil] at this
theorem DenWL.keep (e:Kp H H'){ws:List W}{vs:List V}(h:DenWL K H U ws vs):DenWL K H' U ws vs:=by
 have:=h.mono e [];rwa [append_nil] at this
theorem DenWL.nil:DenWL K H U [] []:=by rw [DenWL]
theorem DenWL.cons {w:W}{ws:List W}{v:V}{vs:List V}(h:DenW K H U w v)(t:DenWL K H U ws vs):DenWL K H U (w::ws) (v::vs):=by
 rw [DenWL];exact ⟨v,vs,rfl,h,t⟩
theorem DenWL.length:∀ {ws:List W} {vs:List V},DenWL K H U ws vs->ws.length=vs.length
 | [],_,h=>by rw [DenWL] at h;rw [h];rfl
 | _::ws,_,h=>by
  rw [DenWL] at h;obtain ⟨v,us,h1,h2,h3⟩:=h;rw [h1,length_cons,length_cons,DenWL.length h3]
theorem DenWL.get:∀ {ws:List W} {vs:List V} {i:Nat} {w:W},DenWL K H U ws vs->ws[i]?=some w->∃ v,vs[i]?=some v/\DenW K H U w v
 | [],_,_,_,_,e=>by simp at e
 | x::ws,_,i,w,h,e=>by
  rw [DenWL] at h;obtain ⟨v,us,h1,h2,h3⟩:=h;subst h1;cases i with
  | zero=>simp at e;subst e;exact ⟨v,by simp,h2⟩
  | succ i =>
   obtain ⟨u,q1,q2⟩:=DenWL.get (i:=i) (w:=w) h3 (by simpa using e);exact ⟨u,by simpa using q1,q2⟩
theorem DenWL.append:∀ {ws xs:List W} {vs us:List V},DenWL K H U ws vs->DenWL K H U xs us->DenWL K H U (ws++xs) (vs++us)
 | [],_,_,_,h,t=>by rw [DenWL] at h;subst h;exact t
 | _::ws,_,_,_,h,t=>by
  rw [DenWL] at h;obtain ⟨v,us',h1,h2,h3⟩:=h;subst h1;exact .cons h2 (DenWL.append h3 t)
theorem DenWL.set {w:W}{v:V}(hw:DenW K H U w v):∀ {ws:List W} {vs:List V} (n:Nat),DenWL K H U ws vs->DenWL K H U (ws.set n w) (vs.set n v)
 | [],_,n,h=>by rw [DenWL] at h;subst h;exact .nil
 | _::ws,_,n,h=>by
  rw [DenWL] at h;obtain ⟨u,us,h1,h2,h3⟩:=h;subst h1;cases n with
  | zero=>exact .cons hw h3
  | succ n=>exact .cons h2 (DenWL.set hw n h3)
theorem DenWL.dats:∀ {ds:List D} {vs:List V},DenL K (fzH H) ds vs->DenWL K H U (ds.map .dat) vs
 | [],_,h=>by rw [DenL] at h;subst h;exact .nil
 | d::ds,_,h=>by
  rw [DenL] at h;obtain ⟨v,us,h1,h2,h3⟩:=h;subst h1;exact .cons (by rw [DenW];exact h2) (DenWL.dats h3)
end
structure zAR (K:W.Frag)(H:Hp)(U:List Addr)(O:Mem):Prop where
 len:U.length=O.length
 nd:U.Nodup
 at_:∀ (n:Nat) ws,O[n]?=some ws->∃ a vs,U[n]?=some a/\H a=some (.lst vs)/\DenWL K H U ws vs
structure MS (K:W.Frag)(H:Hp)(U:List Addr)(O:Mem)(B:St)(G:List (Option W)):Prop where
 cells:zAR K H U O
 len:B.length=G.length
 get:∀ (i:Nat) w,G[i]?=some (some w)->∃ v,B[i]?=some (some v)/\DenW K H U w v
section
variable {K:W.Frag}{H H':Hp}{U:List Addr}{O:Mem}
theorem zAR.same (h:zAR K H U O)(e:Same H H'):zAR K H' U O :=
 ⟨h.len,h.nd,fun n ws q=>let ⟨a,vs,h1,h2,h3⟩:=h.at_ n ws q;⟨a,vs,h1,e _ _ h2,h3.keep (zBW e)⟩⟩
theorem zAR.new (h:zAR K H U O)(e:Same H H'){a:Addr}{vs:List V}{ws:List W}(n:H a=none)(ha:H' a=some (.lst vs))(t:DenWL K H' (U++[a]) ws vs):zAR K H' (U++[a]) (O++[ws]):=by
 refine ⟨by rw [length_append,length_append,h.len];rfl,?_,fun m xs q=>?_⟩
 .rw [List.nodup_append];refine ⟨h.nd,by simp,fun b hb c hc=>?_⟩;rw [mem_singleton.mp hc];rintro rfl;obtain ⟨i,hi,ei⟩:=List.mem_iff_getElem.mp hb;obtain ⟨a',vs',q1,q2,_⟩:=h.at_ i _ (getElem?_eq_getElem (show i < O.length by rw [<- h.len];exact hi));rw [getElem?_eq_getElem hi,ei] at q1;cases q1;rw [n] at q2;cases q2
 .by_cases lt:m < O.length
  .rw [getElem?_append_left lt] at q;obtain ⟨b,us,q1,q2,q3⟩:=h.at_ m xs q;exact ⟨b,us,by rw [getElem?_append_left (by rw [h.len];exact lt)];exact q1,e _ _ q2,q3.mono (zBW e) [a]⟩
  .rw [getElem?_append_right (by omega)] at q;have em:m - O.length=0:=by
    have:=(zzg q).1;simp at this;omega
   rw [em] at q;cases q;exact ⟨a,vs,by rw [getElem?_append_right (by rw [h.len];omega),h.len,em];rfl,ha,t⟩
theorem zAR.change (h:zAR K H U O){n:Nat}{a:Addr}{vs us:List V}{ws:List W}(hn:n < O.length)(ha:U[n]?=some a)(hv:H a=some (.lst us))(t:DenWL K H U ws vs):zAR K (upd H a (.lst vs)) U (O.set n ws):=by
 have kp:Kp H (upd H a (.lst vs)):=by show Same _ _;rw [zNt hv];exact Same.refl _
 refine ⟨by rw [length_set];exact h.len,h.nd,fun m xs q=>?_⟩;by_cases e:n=m
 .subst e;rw [getElem?_set_self hn] at q;cases q;exact ⟨a,vs,ha,zAh,t.keep kp⟩
 .rw [getElem?_set_ne e] at q;obtain ⟨b,us',q1,q2,q3⟩:=h.at_ m xs q;have ne:b≠a:=by
   rintro rfl;have l1:=(zzg ha);have l2:=(zzg q1);obtain ⟨i1,e1⟩:=l1;obtain ⟨i2,e2⟩:=l2;have pw:=List.pairwise_iff_getElem.mp h.nd;rcases Nat.lt_or_gt_of_ne e with lt | lt
   .exact pw n m i1 i2 lt (e1.trans e2.symm)
   .exact pw m n i2 i1 lt (e2.trans e1.symm)
  exact ⟨b,us',q1,by rw [zAP ne];exact q2,q3.keep kp⟩
theorem MS.next {B:St}{G:List (Option W)}(h:MS K H U O B G){M:List Addr}{O':Mem}(e:Kp H H')(c:zAR K H' (U++M) O'):MS K H' (U++M) O' B G :=
 ⟨c,h.len,fun i w q=>let ⟨v,q1,q2⟩:=h.get i w q;⟨v,q1,q2.mono e M⟩⟩
theorem MS.set {B:St}{G:List (Option W)}(h:MS K H U O B G){i:Nat}{w:W}{v:V}(hw:DenW K H U w v):MS K H U O (B.set i (some v)) (G.set i (some w)):=by
 refine ⟨h.cells,by rw [length_set,length_set];exact h.len,fun j x q=>?_⟩;rcases zAV q with ⟨rfl,z,hl⟩ | ⟨ne,z⟩
 .cases z;exact ⟨v,zA4 (by rw [h.len];exact hl),hw⟩
 .obtain ⟨u,q1,q2⟩:=h.get j x z;exact ⟨u,by rw [zAp ne];exact q1,q2⟩
end
mutual
def sbW (f:Nat->Option D):W->Option D
 | .dat d=>some d
 | .loc n=>f n
 | .tup ws=>(sbL f ws).map .tup
def sbL (f:Nat->Option D):List W->Option (List D)
 | []=>some []
 | w::ws=>(sbW f w).bind fun d=>(sbL f ws).map fun ds=>d::ds
end
def drN (O:Mem):Nat->Nat->Option D
 | 0,_=>none
 | k+1,n=>(O[n]?).bind fun ws=>(sbL (drN O k) ws).map .lst
def drW (O:Mem)(w:W):Option D:=sbW (drN O 6) w
def drS (O:Mem)(G:List (Option W)):Dst:=G.map fun o=>o.bind fun w=>(drW O w).map fun d=>(d,false)
section
variable {K:W.Frag}{H:Hp}{U:List Addr}{O:Mem}
mutual
theorem zNL {f:Nat->Option D}(hf:∀ n d a,f n=some d->U[n]?=some a->Den K H d (.ref a)):∀ {w:W} {v:V} {d:D},DenW K H U w v->sbW f w=some d->Den K H d v
 | .dat x,v,d,h,e=>by
  rw [sbW] at e;cases e;rw [DenW] at h;exact h.mono zCA
 | .loc n,v,d,h,e=>by
  rw [sbW] at e;rw [DenW] at h;obtain ⟨a,h1,rfl⟩:=h;exact hf n d a e h1
 | .tup ws,v,d,h,e=>by
  rw [sbW] at e;obtain ⟨ds,e1,rfl⟩:=map_eq_some_iff.mp e;rw [DenW] at h;obtain ⟨a,vs,rfl,h2,h3⟩:=h;rw [Den];exact ⟨a,vs,rfl,Same.tupS zCA h2,sb_denL hf h3 e1⟩
theorem sb_denL {f:Nat->Option D}(hf:∀ n d a,f n=some d->U[n]?=some a->Den K H d (.ref a)):∀ {ws:List W} {vs:List V} {ds:List D},DenWL K H U ws vs->sbL f ws=some ds->DenL K H ds vs
 | [],_,_,h,e=>by
  rw [sbL] at e;cases e;rw [DenWL] at h;subst h;exact .nil
 | w::ws,_,_,h,e=>by
  rw [sbL] at e;obtain ⟨d,e1,e⟩:=bind_some e;obtain ⟨ds,e2,rfl⟩:=map_eq_some_iff.mp e;rw [DenWL] at h;obtain ⟨v,us,rfl,h2,h3⟩:=h;exact .cons (zNL hf h2 e1) (sb_denL hf h3 e2)
end
theorem zGz (c:zAR K H U O):∀ (k n:Nat) (d:D) (a:Addr),drN O k n=some d->U[n]?=some a->Den K H d (.ref a)
 | 0,_,_,_,e,_=>by cases e
 | k+1,n,d,a,e,ha=>by
  obtain ⟨ws,e1,e⟩:=bind_some e;obtain ⟨ds,e2,rfl⟩:=map_eq_some_iff.mp e;obtain ⟨b,vs,q1,q2,q3⟩:=c.at_ n ws e1;rw [ha] at q1;cases q1;rw [Den];exact ⟨a,vs,rfl,SqL.of q2,sb_denL (zGz c k) q3 e2⟩
theorem zSm (c:zAR K H U O){w:W}{v:V}{d:D}(h:DenW K H U w v)(e:drW O w=some d):Den K H d v:=zNL (zGz c 6) h e
theorem zN4 {B:St}{G:List (Option W)}(h:MS K H U O B G):DS K H [] B (drS O G):=by
 refine ⟨by unfold drS;rw [length_map];exact h.len,fun a z=>absurd z (by simp),fun i d o q=>?_,fun i j d e a q1 q2 _ _=>?_⟩
 .unfold drS at q;rw [getElem?_map] at q;obtain ⟨x,e1,e2⟩:=map_eq_some_iff.mp q;obtain ⟨w,rfl,e2⟩:=bind_some e2;obtain ⟨d',e3,e4⟩:=map_eq_some_iff.mp e2;cases e4;obtain ⟨v,q1,q2⟩:=h.get i w e1;exact ⟨v,q1,.of_den (by rw [zBD];exact zSm h.cells q2 e3)⟩
 .unfold drS at q1;rw [getElem?_map] at q1;obtain ⟨x,e1,e2⟩:=map_eq_some_iff.mp q1;obtain ⟨w,rfl,e2⟩:=bind_some e2;obtain ⟨d',e3,e4⟩:=map_eq_some_iff.mp e2;cases e4
end
structure Mst where
 G:List (Option W)
 O:Mem
abbrev MR:=W×Mem
def gM (K:W.Frag)(g:Mst->Option MR):TE:=fun B H Q=>∃ U G O r,MS K H U O B G/\g ⟨G,O⟩=some r/\∀ v H' M,Kp H H'->zAR K H' (U++M) r.2->DenW K H' (U++M) r.1 v->Q v H'
def GM (X:Cx)(e:Expr)(g:Mst->Option MR):Prop:=PE X e (gM X.K g)
def zEP (r:R)(O:Mem):Option MR:=match r with
 | (d,.cl)=>if noL d=true then some (.dat d,O) else none
 | (.lst es,.fr)=>if noLs es=true then some (.loc O.length,O++[es.map .dat]) else none
 | _=>none
def zL7 (f:Dst->Option R):Mst->Option MR:=fun s=>(f (drS s.O s.G)).bind fun r=>zEP r s.O
theorem zH6 {K:W.Frag}{H H':Hp}{U:List Addr}{O:Mem}{r:R}{z:MR}{v:V}(c:zAR K H U O)(e:Same H H')(h:RV K H H' [] r v)(q:zEP r O=some z):∃ M,zAR K H' (U++M) z.2/\DenW K H' (U++M) z.1 v:=by
 unfold zEP at q;split at q
 .rename_i d;by_cases n:noL d=true
  .rw [if_pos n] at q;cases q;refine ⟨[],by rw [append_nil];exact c.same e,?_⟩;rw [DenW];have h':Den K (hide H' []) d v:=h;rw [zBD] at h';exact h'.fz n
  .rw [if_neg n] at q;cases q
 .rename_i es;by_cases n:noLs es=true
  .rw [if_pos n] at q;cases q;obtain ⟨a,vs,ds,rfl,e2,_,e4,e5,t⟩:=h;cases e2;have t':DenL K (fzH H') es vs:=(t.mono zAg).fz n;refine ⟨[a],c.new e e4 e5 (DenWL.dats t'),?_⟩;rw [DenW];exact ⟨a,by show (U++[a])[O.length]?=_;rw [getElem?_append_right (by rw [c.len];omega),c.len,sub_self];rfl,rfl⟩
  .rw [if_neg n] at q;cases q
 .cases q
theorem zPf {X:Cx}{e:Expr}{f:Dst->Option R}(h:GE X e f):GM X e (zL7 f):=h.imp fun B H Q zz77=>by
 obtain ⟨U,G,O,z,ms,q,c⟩:=zz77;obtain ⟨r,er,q⟩:=bind_some q;refine ⟨[],drS O G,r,zN4 ms,er,fun v H' s1 r1=>?_⟩;obtain ⟨M,c1,d1⟩:=zH6 ms.cells s1 r1 q;exact c v H' M (zBW s1) c1 d1
section
variable {X:Cx}
theorem Kp.refl (H:Hp):Kp H H:=Same.refl _
def varM (i:Nat):Mst->Option MR:=fun s=>match s.G[i]? with
 | some (some w)=>some (w,s.O)
 | _=>none
theorem zR3 {i:Nat}{x:Str}{pos:Pos}(hN:X.N[i]?=some x)(hv:Vis X.env.scope x)(hd:(x==("__debug__":Str))=false)(hcd:(x==("__classdict__":Str))=false):GM X (.Name x pos) (varM i):=by
 refine (zDu hN hv hd hcd).imp fun B H Q zz78=>?_
 obtain ⟨U,G,O,r,ms,q,c⟩:=zz78;unfold varM at q;split at q
 .rename_i w e;cases q;obtain ⟨v,q1,q2⟩:=ms.get i w e;exact ⟨v,q1,c v H [] (Kp.refl H) (by rw [append_nil];exact ms.cells) (by rw [append_nil];exact q2)⟩
 .cases q
abbrev MA:=List W×Mem
def gAM (K:W.Frag)(g:Mst->Option MA):TA:=fun B H Q=>∃ U G O r,MS K H U O B G/\g ⟨G,O⟩=some r/\∀ vs H' M,Kp H H'->zAR K H' (U++M) r.2->DenWL K H' (U++M) r.1 vs->Q vs H'
def GAM (X:Cx)(es:List Expr)(g:Mst->Option MA):Prop:=PA X es (gAM X.K g)
def nilM:Mst->Option MA:=fun s=>some ([],s.O)
theorem zPq:GAM X [] nilM:=zBA.imp fun B H Q zz79=>by
 obtain ⟨U,G,O,r,ms,q,c⟩:=zz79;cases q;exact c [] H [] (Kp.refl H) (by rw [append_nil];exact ms.cells) .nil
def zMs (f:Mst->Option MR)(g:Mst->Option MA):Mst->Option MA:=fun s=>(f s).bind fun w=>(g ⟨s.G,w.2⟩).bind fun ws=>some (w.1::ws.1,ws.2)
theorem zMV {e:Expr}{es:List Expr}{f:Mst->Option MR}{g:Mst->Option MA}(ha:GM X e f)(hr:GAM X es g)(hs:starEach (e::es) X.env=(false,eval e X.env)::starEach es X.env):GAM X (e::es) (zMs f g):=by
 refine (zAc ha hr hs).imp fun B H Q zz80=>?_
 obtain ⟨U,G,O,r,ms,q,c⟩:=zz80;obtain ⟨w,e1,q⟩:=bind_some q;obtain ⟨ws,e2,q⟩:=bind_some q;cases q;refine ⟨U,G,O,w,ms,e1,fun v H1 M1 k1 c1 d1=>⟨U++M1,G,w.2,ws,ms.next k1 c1,e2,fun vs H2 O4 k2 c2 d2=>?_⟩⟩;refine c (v::vs) H2 (M1++O4) (k1.trans k2) (by rw [<- append_assoc];exact c2) (.cons ?_ ?_)
 .rw [<- append_assoc];exact d1.mono k2 O4
 .rw [<- append_assoc];exact d2
def lstM (g:Mst->Option MA):Mst->Option MR:=fun s=>(g s).bind fun r=>if r.1.length<=10000 then some (.loc r.2.length,r.2++[r.1]) else none
def tupM (g:Mst->Option MA):Mst->Option MR:=fun s=>(g s).bind fun r=>if r.1.length<=10000 then some (.tup r.1,r.2) else none
def datL:List W->Option (List D)
 | []=>some []
 | .dat d::ws=>(datL ws).map fun ds=>d::ds
 | _=>none
def zTA (g:Mst->Option MA):Mst->Option MR:=fun s=>(g s).bind fun r=>if r.1.length<=10000 then (datL r.1).map fun ds=>(.dat (.tup ds),r.2) else none
theorem zJ3 {K:W.Frag}{H H':Hp}{U:List Addr}{O:Mem}{a:Addr}(c:zAR K H U O):DenW K H' (U++[a]) (.loc O.length) (.ref a):=by
 rw [DenW];exact ⟨a,by rw [getElem?_append_right (by rw [c.len];omega),c.len,sub_self];rfl,rfl⟩
theorem zR4 {es:List Expr}{g:Mst->Option MA}{pos:Pos}(h:GAM X es g):GM X (.List es pos) (lstM g):=by
 refine (zNa h).imp fun B H Q zz81=>?_
 obtain ⟨U,G,O,r,ms,q,c⟩:=zz81;obtain ⟨ws,e1,q⟩:=bind_some q;by_cases hl:ws.1.length<=10000
 .rw [if_pos hl] at q;cases q;refine ⟨U,G,O,ws,ms,e1,fun vs H1 M k1 c1 d1=>⟨by rw [<- d1.length];exact zCf hl,fun p n=>?_⟩⟩;have s2:Same H1 (upd H1 p (.lst vs)):=zAk n _;refine c _ _ (M++[p]) (k1.trans (zBW s2)) ?_ ?_
  .rw [<- append_assoc];exact c1.new s2 n zAh (d1.mono (zBW s2) [p])
  .rw [<- append_assoc];exact zJ3 c1
 .rw [if_neg hl] at q;cases q
abbrev MF:=List W->Mem->Option MR
def spM (K:W.Frag)(F:MF):Sp:=fun vs H Q _=>∃ U O ws r,zAR K H U O/\DenWL K H U ws vs/\F ws O=some r/\∀ v H' M,Kp H H'->zAR K H' (U++M) r.2->DenW K H' (U++M) r.1 v->Q v H'
def zIj (F:MF)(g:Mst->Option MA):Mst->Option MR:=fun s=>(g s).bind fun ws=>F ws.1 ws.2
theorem zK5 {F:MF}{g:Mst->Option MA}{B:St}{H:Hp}{Q:VK}(q:gM X.K (zIj F g) B H Q):zLZ (spM X.K F) [] E0 (gAM X.K g) B H Q:=by
 obtain ⟨U,G,O,r,ms,q,c⟩:=q;obtain ⟨ws,e1,q⟩:=bind_some q;refine ⟨U,G,O,ws,ms,e1,fun vs H1 M k1 c1 d1=>?_⟩;show spM X.K F (vs++[]) H1 Q E0;rw [append_nil];exact ⟨U++M,ws.2,ws.1,r,c1,d1,q,fun v H2 O4 k2 c2 d2=>c v H2 (M++O4) (k1.trans k2) (by rw [<- append_assoc];exact c2) (by rw [<- append_assoc];exact d2)⟩
theorem zPg {k:Nat}{f:Addr}{fd:FuncData}{ps:List Str}{F:MF}{x:Str}{p pos:Pos}{e:Expr}{es:List Expr}{g:Mst->Option MA}(FO:FnOk X.prog X.w X.K X.mg X.base CX0 k f fd ps (spM X.K F))(hr:Room k X.A)(hg:Gl X x)(hm:X.mg x=some (.ref f))
  (hk:W.keepIn X.K (.ref f)=true) (hb:zCD X.K fd ps []) (ha:GAM X (e::es) g) (hdb:(x==("__debug__":Str))=false) (he:starEach (e::es) X.env=(false,eval e X.env)::starEach es X.env) (hpl:∀ pos,(backTo pos (starEach es X.env)).any (·.1)=false) :
  GM X (.Call (.Name x p) (e::es) [] pos) (zIj F g) :=
 (zJQ FO hr hg hm hk hb .nil zOp ha hdb he (hpl pos)).imp fun _ _ _ q=>zK5 q
def zCK (F:List D->Option R):MF:=fun ws O=>(sbL (drN O 6) ws).bind fun ds=>(F ds).bind fun r=>zEP r O
theorem FnOk.lift {P:Program}{w:World}{K:W.Frag}{mg:Str->Option Value}{base:Heap}{k:Nat}{f:Addr}{fd:FuncData}{ps:List Str}{F:List D->Option R}(h:FnOk P w K mg base CX0 k f fd ps (spD K F)):FnOk P w K mg base CX0 k f fd ps (spM K (zCK F)) :=
 h.imp fun vs H Q E zz82=>by
  obtain ⟨U,O,ws,r,c,d,q,n⟩:=zz82;obtain ⟨ds,e1,q⟩:=bind_some q;obtain ⟨z,e2,q⟩:=bind_some q;refine ⟨[],ds,z,fun a ha=>absurd ha (by simp),by rw [zBD];exact sb_denL (zGz c 6) d e1,e2,?_,fun v H' s1 r1=>?_⟩
  .intro hz;unfold zEP at q;split at q
   .cases hz
   .cases hz
   .cases q
  .obtain ⟨M,c1,d1⟩:=zH6 c s1 r1 q;exact n v H' M (zBW s1) c1 d1
def opM (o:D->D->Option R)(x y:W)(O:Mem):Option MR:=(drW O x).bind fun a=>(drW O y).bind fun b=>(o a b).bind fun r=>zEP r O
def twoM (f g:Mst->Option MR)(o:W->W->Mem->Option MR):Mst->Option MR:=fun s=>(f s).bind fun x=>(g ⟨s.G,x.2⟩).bind fun y=>o x.1 y.1 y.2
def OpW (K:W.Frag)(r:R2)(o:W->W->Mem->Option MR):Prop :=
 ∀ (H:Hp) (U:List Addr) (O:Mem) (x y:W) (z:MR) (vx vy:V) (Q:VK),zAR K H U O->o x y O=some z->DenW K H U x vx->DenW K H U y vy->(∀ v H' M,Kp H H'->zAR K H' (U++M) z.2->DenW K H' (U++M) z.1 v->Q v H')->r vx vy H Q
theorem zOv {r:R2}{o:W->W->Mem->Option MR}{f g:Mst->Option MR}(h:OpW X.K r o){B:St}{H:Hp}{Q:VK}(q:gM X.K (twoM f g o) B H Q):tOp r (gM X.K f) (gM X.K g) B H Q:=by
 obtain ⟨U,G,O,z,ms,q,c⟩:=q;obtain ⟨x,e1,q⟩:=bind_some q;obtain ⟨y,e2,q⟩:=bind_some q;refine ⟨U,G,O,x,ms,e1,fun vx H1 M1 k1 c1 d1=>⟨U++M1,G,x.2,y,ms.next k1 c1,e2,fun vy H2 O4 k2 c2 d2=>?_⟩⟩;refine h H2 (U++M1++O4) y.2 x.1 y.1 z vx vy Q c2 q (d1.mono k2 O4) d2 fun v H3 M3 k3 c3 d3=>?_
 refine c v H3 (M1++O4++M3) (k1.trans (k2.trans k3)) ?_ ?_
 .rw [show U++(M1++O4++M3)=U++M1++O4++M3 by simp];exact c3
 .rw [show U++(M1++O4++M3)=U++M1++O4++M3 by simp];exact d3
def ixW (x y:W)(O:Mem):Option MR:=match x,y with
 | .loc n,.dat (.int i)=>(O[n]?).bind fun ws=>(atI ws i).map fun w=>(w,O)
 | .tup ws,.dat (.int i)=>(atI ws i).map fun w=>(w,O)
 | .dat (.tup ds),.dat (.int i)=>(atI ds i).map fun d=>(.dat d,O)
 | .dat (.lst ds),.dat (.int i)=>(atI ds i).map fun d=>(.dat d,O)
 | _,_=>none
theorem DenWL.atI {K:W.Frag}{H:Hp}{U:List Addr}{ws:List W}{vs:List V}{i:Int}{w:W}(h:DenWL K H U ws vs)(e:atI ws i=some w):∃ v,L2.atI vs i=some v/\DenW K H U w v:=by
 unfold L2.atI at e ⊢;obtain ⟨j,e1,e2⟩:=bind_some e;obtain ⟨v,q1,q2⟩:=h.get e2;refine ⟨v,?_,q2⟩;rw [<- h.length,e1];exact q1
theorem zRE:OpW X.K (fun x y H Q=>rIxL X.K x y H Q\/rIxT X.K x y H Q) ixW:=fun H U O x y z vx vy Q c e dx dy n=>by
 have fin:∀ {w:W} {v:V},DenW X.K H U w v->z=(w,O)->Q v H:=fun {w v} d ez=>by
  subst ez;exact n v H [] (Kp.refl H) (by rw [append_nil];exact c) (by rw [append_nil];exact d)
 unfold ixW at e;split at e
 .rename_i m i;obtain ⟨ws,e1,e⟩:=bind_some e;obtain ⟨w,e2,e⟩:=map_eq_some_iff.mp e;rw [DenW] at dx;rw [DenW] at dy;rw [Den] at dy;obtain ⟨a,vs,q1,q2,q3⟩:=c.at_ m ws e1;obtain ⟨b,h1,rfl⟩:=dx;rw [h1] at q1;cases q1;obtain ⟨v,g1,g2⟩:=q3.atI e2;exact .inl ⟨_,vs,i,v,rfl,dy,SqL.of q2,g1,fin g2 e.symm⟩
 .rename_i ws i;obtain ⟨w,e2,e⟩:=map_eq_some_iff.mp e;rw [DenW] at dx;rw [DenW] at dy;rw [Den] at dy;obtain ⟨a,vs,rfl,h2,h3⟩:=dx;obtain ⟨v,g1,g2⟩:=h3.atI e2;exact .inr ⟨a,vs,i,v,rfl,dy,Same.tupS zCA h2,g1,fin g2 e.symm⟩
 .rename_i ds i;obtain ⟨d,e2,e⟩:=map_eq_some_iff.mp e;rw [DenW] at dx;rw [DenW] at dy;rw [Den] at dx;rw [Den] at dy;obtain ⟨a,vs,rfl,h2,h3⟩:=dx;obtain ⟨v,g1,g2⟩:=h3.atI e2;exact .inr ⟨a,vs,i,v,rfl,dy,Same.tupS zCA h2,g1,fin (w:=.dat d) (by rw [DenW];exact g2) e.symm⟩
 .rename_i ds i;obtain ⟨d,e2,e⟩:=map_eq_some_iff.mp e;rw [DenW] at dx;rw [DenW] at dy;rw [Den] at dx;rw [Den] at dy;obtain ⟨a,vs,rfl,h2,h3⟩:=dx;obtain ⟨v,g1,g2⟩:=h3.atI e2;exact .inl ⟨a,vs,i,v,rfl,dy,zCA.seq h2,g1,fin (w:=.dat d) (by rw [DenW];exact g2) e.symm⟩
 .cases e
theorem zTp {a b:Expr}{f g:Mst->Option MR}{pos:Pos}(ha:GM X a f)(hb:GM X b g)(hs:zFV b):GM X (.Subscript a b pos) (twoM f g ixW) :=
 (zQ9 (zJ7.or zNm) ha hb hs).imp fun _ _ _ q=>zOv zRE q
end
section
variable {X:Cx}
abbrev MB:=Bool×Mem
def gBM (K:W.Frag)(g:Mst->Option MB):TT:=fun B H Q=>∃ U G O r,MS K H U O B G/\g ⟨G,O⟩=some r/\∀ H' M,Kp H H'->zAR K H' (U++M) r.2->Q r.1 H'
def GTM (X:Cx)(e:Expr)(g:Mst->Option MB):Prop:=PT X e (gBM X.K g)
def GWM (X:Cx)(e:Expr)(g:Mst->Option MB):Prop:=PW X e (gBM X.K g)
def asBM (f:Mst->Option MR):Mst->Option MB:=fun s=>match f s with
 | some (.dat (.bl b),O)=>some (b,O)
 | _=>none
theorem zLD {f:Mst->Option MR}{s:Mst}{r:MB}(h:asBM f s=some r):f s=some (.dat (.bl r.1),r.2):=by
 unfold asBM at h;split at h
 .rename_i e;cases h;exact e
 .cases h
theorem zPt {f:Mst->Option MR}{B:St}{H:Hp}{Q:Bool->Hp->Prop}(q:gBM X.K (asBM f) B H Q):gM X.K f B H fun x H'=>∃ k,x=.bl k/\Q k H':=by
 obtain ⟨U,G,O,r,ms,e,c⟩:=q;refine ⟨U,G,O,_,ms,zLD e,fun v H' M k1 c1 d1=>⟨r.1,?_,c H' M k1 c1⟩⟩;rw [DenW,Den] at d1;exact d1
def zL8 (k:Dst->Option Bool):Mst->Option MB:=fun s=>(k (drS s.O s.G)).map fun b=>(b,s.O)
theorem zMM {e:Expr}{k:Dst->Option Bool}(h:GT X e k):GTM X e (zL8 k):=h.imp fun B H Q zz83=>by
 obtain ⟨U,G,O,r,ms,q,c⟩:=zz83;obtain ⟨b,e1,e2⟩:=map_eq_some_iff.mp q;cases e2;exact ⟨[],drS O G,b,zN4 ms,e1,fun H' s1=>c H' [] (zBW s1) (by rw [append_nil];exact ms.cells.same s1)⟩
theorem zPW {e:Expr}{f:Mst->Option MR}(h:GM X e f)(he:∀ whole,isTrue e X.env whole=(do let v<-whole;standAt e.pos;holding [v] (truthy v))):GTM X e (asBM f) :=
 (zNU h he).imp fun _ _ _ q=>zPt q
def andB (f g:Mst->Option MB):Mst->Option MB:=fun s=>(f s).bind fun r=>if r.1=true then g ⟨s.G,r.2⟩ else some (false,r.2)
def orB (f g:Mst->Option MB):Mst->Option MB:=fun s=>(f s).bind fun r=>if r.1=true then some (true,r.2) else g ⟨s.G,r.2⟩
def notB (f:Mst->Option MB):Mst->Option MB:=fun s=>(f s).map fun r=>(!r.1,r.2)
theorem zPX {a:Expr}{f:Mst->Option MB}{pos:Pos}(h:GTM X a f):GTM X (.UnaryOp .Not a pos) (notB f) :=
 (zNV h).imp fun B H Q zz84=>by
  obtain ⟨U,G,O,r,ms,q,c⟩:=zz84;obtain ⟨z,e1,e2⟩:=map_eq_some_iff.mp q;cases e2;exact ⟨U,G,O,z,ms,e1,fun H' M k1 c1=>c H' M k1 c1⟩
theorem zML {a:Expr}{f:Mst->Option MB}{pos:Pos}(h:GTM X a f):GWM X (.BoolOp .And [a] pos) f:=zJH h
theorem zPU {a:Expr}{f:Mst->Option MB}{pos:Pos}(h:GTM X a f):GWM X (.BoolOp .Or [a] pos) f:=zNS h
theorem zPV {a b:Expr}{rest:List Expr}{f g:Mst->Option MB}{pos:Pos}(ha:GTM X a f)(hb:GWM X (.BoolOp .And (b::rest) pos) g):GWM X (.BoolOp .And (a::b::rest) pos) (andB f g):=by
 refine PW.imp (zNT ha hb) fun B H Q zz85=>?_
 obtain ⟨U,G,O,r,ms,q,c⟩:=zz85;obtain ⟨⟨b1,O7⟩,e1,q⟩:=bind_some q;cases b1 with
 | true =>
  rw [if_pos rfl] at q;refine ⟨U,G,O,_,ms,e1,fun H1 M k1 c1=>iteT ?_⟩;exact ⟨U++M,G,O7,r,ms.next k1 c1,q,fun H2 O4 k2 c2=>c H2 (M++O4) (k1.trans k2) (by rw [<- append_assoc];exact c2)⟩
 | false =>
  rw [if_neg Bool.false_ne_true] at q;cases q;exact ⟨U,G,O,_,ms,e1,fun H1 M k1 c1=>iteF (c H1 M k1 c1)⟩
theorem zRq {a b:Expr}{rest:List Expr}{f g:Mst->Option MB}{pos:Pos}(ha:GTM X a f)(hb:GWM X (.BoolOp .Or (b::rest) pos) g):GWM X (.BoolOp .Or (a::b::rest) pos) (orB f g):=by
 refine PW.imp (zQx ha hb) fun B H Q zz86=>?_
 obtain ⟨U,G,O,r,ms,q,c⟩:=zz86;obtain ⟨⟨b1,O7⟩,e1,q⟩:=bind_some q;cases b1 with
 | true =>
  rw [if_pos rfl] at q;cases q;exact ⟨U,G,O,_,ms,e1,fun H1 M k1 c1=>iteT (c H1 M k1 c1)⟩
 | false =>
  rw [if_neg Bool.false_ne_true] at q;refine ⟨U,G,O,_,ms,e1,fun H1 M k1 c1=>iteF ?_⟩;exact ⟨U++M,G,O7,r,ms.next k1 c1,q,fun H2 O4 k2 c2=>c H2 (M++O4) (k1.trans k2) (by rw [<- append_assoc];exact c2)⟩
theorem zRs {e:Expr}{f:Mst->Option MB}(h:GWM X e f):GTM X e f:=fun pins s B H Q I q=>h _ pins s B H Q I q
inductive OutM where
 | nx (s:Mst) | rt (r:MR) | bk (s:Mst) | ct (s:Mst)
def zUF (K:W.Frag)(H0:Hp)(U0:List Addr)(o:OutM)(E:Ends):Prop:=match o with
 | .nx s=>∀ M B' H',MS K H' (U0++M) s.O B' s.G->Kp H0 H'->E.nx B' H'
 | .bk s=>∀ M B' H',MS K H' (U0++M) s.O B' s.G->Kp H0 H'->E.bk B' H'
 | .ct s=>∀ M B' H',MS K H' (U0++M) s.O B' s.G->Kp H0 H'->E.ct B' H'
 | .rt r=>∀ M v H',zAR K H' (U0++M) r.2->DenW K H' (U0++M) r.1 v->Kp H0 H'->E.rt v H'
def gSM (K:W.Frag)(H0:Hp)(U0:List Addr)(g:Mst->Option OutM):TS:=fun E B H=>∃ M s o,MS K H (U0++M) s.O B s.G/\Kp H0 H/\g s=some o/\zUF K H0 U0 o E
def GSM (X:Cx)(st:Stmt)(g:Mst->Option OutM):Prop:=∀ H0 U0,PS X st (gSM X.K H0 U0 g)
def GSsM (X:Cx)(st:List Stmt)(g:Mst->Option OutM):Prop:=∀ H0 U0,PSs X st (gSM X.K H0 U0 g)
def seqM (f g:Mst->Option OutM):Mst->Option OutM:=fun s=>(f s).bind fun o=>match o with
 | .nx s'=>g s'
 | o=>some o
theorem zMN:GSsM X [] (fun s=>some (.nx s)):=fun H0 U0=>zJI.imp fun E B H zz87=>by
 obtain ⟨M,s,o,ms,k,e,p⟩:=zz87;cases e;exact p M B H ms k
theorem zKI {st:Stmt}{rest:List Stmt}{f g:Mst->Option OutM}(h1:GSM X st f)(h2:GSsM X rest g):GSsM X (st::rest) (seqM f g):=fun H0 U0=>(zHW (h1 H0 U0) (h2 H0 U0)).imp fun E B H zz88=>by
 obtain ⟨M,s,o,ms,k,e,p⟩:=zz88;obtain ⟨o1,e1,e⟩:=bind_some e;refine ⟨M,s,o1,ms,k,e1,?_⟩;cases o1 with
 | nx s'=>exact fun M' B' H' ms' k'=>⟨M',s',o,ms',k',e,p⟩
 | rt r=>cases e;exact p
 | bk s'=>cases e;exact p
 | ct s'=>cases e;exact p
def setM (i:Nat)(f:Mst->Option MR):Mst->Option OutM:=fun s=>(f s).bind fun r=>some (.nx ⟨s.G.set i (some r.1),r.2⟩)
theorem zKJ {i:Nat}{x:Str}{e:Expr}{f:Mst->Option MR}{pos pos':Pos}(hN:X.N.Nodup)(hi:X.N[i]?=some x)(hx:Loc X.env.scope x)(h:GM X e f)(hs:swapsWith e (some (.Name x pos')) pos.line X.env=pure false)(hf:X.fn x=true\/X.env.scope.names.lookup x=some .local) :
  GSM X (.Assign [.Name x pos'] e pos) (setM i f):=fun H0 U0=>(zNX hN hi hx h hs hf).imp fun E B H zz89=>by
 obtain ⟨M,s,o,ms,k,e,p⟩:=zz89;obtain ⟨r,er,e⟩:=bind_some e;cases e;refine ⟨U0++M,s.G,s.O,r,ms,er,fun v H1 M1 k1 c1 d1=>?_⟩;have ms1:=(ms.next k1 c1).set (i:=i) d1;rw [append_assoc] at ms1;exact p (M++M1) _ H1 ms1 (k.trans k1)
def zT6 (f:Mst->Option MR):Mst->Option OutM:=fun s=>(f s).bind fun r=>some (.nx ⟨s.G,r.2⟩)
def retM (f:Mst->Option MR):Mst->Option OutM:=fun s=>(f s).bind fun r=>some (.rt r)
theorem zPa {e:Expr}{f:Mst->Option MR}{pos:Pos}(h:GM X e f):GSM X (.Return (some e) pos) (retM f):=fun H0 U0=>(zJJ h).imp fun E B H zz90=>by
 obtain ⟨M,s,o,ms,k,e,p⟩:=zz90;obtain ⟨r,er,e⟩:=bind_some e;cases e;refine ⟨U0++M,s.G,s.O,r,ms,er,fun v H1 M1 k1 c1 d1=>?_⟩;rw [append_assoc] at c1 d1;exact p (M++M1) v H1 c1 d1 (k.trans k1)
theorem zKK {st:Stmt}:GSM X st (fun _=>none):=fun H0 U0=>(zE2 (X:=X) (st:=st)).imp fun E B H zy122=>by obtain ⟨M,s,o,ms,k,e,p⟩:=zy122;cases e
def ifM (c:Mst->Option MB)(f g:Mst->Option OutM):Mst->Option OutM:=fun s=>(c s).bind fun b=>if b.1=true then f ⟨s.G,b.2⟩ else g ⟨s.G,b.2⟩
theorem zRx {c:Expr}{a b:List Stmt}{k:Mst->Option MB}{f g:Mst->Option OutM}{pos:Pos}(hc:GTM X c k)(ha:GSsM X a f)(hb:GSsM X b g):GSM X (.If c a b pos) (ifM k f g):=fun H0 U0=>(zQz hc (ha H0 U0) (hb H0 U0)).imp fun E B H zz91=>by
 obtain ⟨M,s,o,ms,kp,e,p⟩:=zz91;obtain ⟨⟨b1,O7⟩,e1,e⟩:=bind_some e;refine ⟨U0++M,s.G,s.O,_,ms,e1,fun H1 M1 k1 c1=>?_⟩;have ms1:=ms.next k1 c1;rw [append_assoc] at ms1;cases b1 with
 | true =>
  rw [if_pos rfl] at e;exact iteT ⟨M++M1,_,o,ms1,kp.trans k1,e,p⟩
 | false =>
  rw [if_neg Bool.false_ne_true] at e;exact iteF ⟨M++M1,_,o,ms1,kp.trans k1,e,p⟩
def appM (t f:Mst->Option MR):Mst->Option OutM:=fun s=>(t s).bind fun x=>match x.1 with
 | .loc n=>(f ⟨s.G,x.2⟩).bind fun r=>(r.2[n]?).bind fun ws=>if ws.length<=10000 then some (.nx ⟨s.G,r.2.set n (ws++[r.1])⟩) else none
 | _=>none
theorem zPc {b e:Expr}{t f:Mst->Option MR}{pos cpos apos:Pos}(hb:GM X b t)(h:GM X e f)
  (he:starEach [e] X.env=[(false,eval e X.env)]) (hbase:attributeBase b "append" X.env (eval b X.env)=eval b X.env) (hline:(apos.endLine==cpos.line)=true) :
  GSM X (.Expr (.Call (.Attribute b "append" apos) [e] [] cpos) pos) (appM t f):=fun H0 U0=>(zGc (zOn PySem.F.plainAttrs_list PySem.F.slot_list_append PySem.F.type_list_append zFv hb (zAc h zBA he) hbase (by rw [he];rfl) hline he rfl) rfl).imp fun E B H zz92=>by
 obtain ⟨M,s,o,ms,k,e,p⟩:=zz92;obtain ⟨x,ex,e⟩:=bind_some e;split at e
 .rename_i n en;obtain ⟨r,er,e⟩:=bind_some e;obtain ⟨ws,ew,e⟩:=bind_some e;by_cases hl:ws.length<=10000
  .rw [if_pos hl] at e;cases e;refine ⟨U0++M,s.G,s.O,x,ms,ex,fun v H1 M1 k1 c1 d1=>?_⟩;rw [en,DenW] at d1;obtain ⟨a,ha,rfl⟩:=d1;have ms1:=ms.next k1 c1;have hn1:n < x.2.length:=by rw [<- c1.len];exact (zzg ha).1
   obtain ⟨a',vs0,q1,q2,_⟩:=c1.at_ n _ (getElem?_eq_getElem hn1);rw [ha] at q1;cases q1;refine ⟨.inl ⟨rfl,_,SqL.of q2⟩,U0++M++M1,s.G,x.2,r,ms1,er,fun y H2 O4 k2 c2 d2=>?_⟩;have ms2:=ms1.next k2 c2;obtain ⟨b',vs,g1,g2,g3⟩:=c2.at_ n ws ew;have ha2:(U0++M++M1++O4)[n]?=some a:=by rw [getElem?_append_left (zzg ha).1];exact ha
   rw [ha2] at g1;cases g1;refine ⟨a,vs,y,rfl,rfl,g2,by rw [<- g3.length];exact Nat.lt_of_le_of_lt hl (by decide),?_⟩;have hn2:n < r.2.length:=(zzg ew).1;have kp:Kp H2 (upd H2 a (.lst (vs++[y]))):=by show Same _ _;rw [zNt g2];exact Same.refl _
   have c3:=c2.change hn2 ha2 g2 (g3.append (.cons d2 .nil));have ms3:MS X.K (upd H2 a (.lst (vs++[y]))) (U0++(M++M1++O4)) (r.2.set n (ws++[r.1])) B s.G:=by
    have m:=ms2.next (M:=[]) kp (by rw [append_nil];exact c3);rw [append_nil] at m;rw [show U0++(M++M1++O4)=U0++M++M1++O4 by simp];exact m
   exact p (M++M1++O4) B _ ms3 (k.trans (k1.trans (k2.trans kp)))
  .rw [if_neg hl] at e;cases e
 .cases e
end
section
variable {X:Cx}{K:W.Frag}{H:Hp}{U:List Addr}{O:Mem}{B:St}{G:List (Option W)}
theorem zAR.loc (c:zAR K H U O){n:Nat}{a:Addr}(ha:U[n]?=some a):∃ ws vs,O[n]?=some ws/\H a=some (.lst vs)/\DenWL K H U ws vs:=by
 have hn:n < O.length:=by rw [<- c.len];exact (zzg ha).1
 obtain ⟨a',vs,q1,q2,q3⟩:=c.at_ n _ (getElem?_eq_getElem hn);rw [ha] at q1;cases q1;exact ⟨_,vs,getElem?_eq_getElem hn,q2,q3⟩
theorem zAR.loc' (c:zAR K H U O){n:Nat}{a:Addr}{ws:List W}(ha:U[n]?=some a)(hw:O[n]?=some ws):∃ vs,H a=some (.lst vs)/\DenWL K H U ws vs:=by
 obtain ⟨ws',vs,q1,q2,q3⟩:=c.loc ha;rw [hw] at q1;cases q1;exact ⟨vs,q2,q3⟩
theorem zOg {U M:List Addr}{n:Nat}{a:Addr}(h:U[n]?=some a):(U++M)[n]?=some a:=by rw [getElem?_append_left (zzg h).1];exact h
def putM (t k f:Mst->Option MR):Mst->Option OutM:=fun s=>(f s).bind fun r=>(t ⟨s.G,r.2⟩).bind fun x=>(k ⟨s.G,x.2⟩).bind fun j=>match x.1,j.1 with
 | .loc n,.dat (.int i)=>(j.2[n]?).bind fun ws=>(ixN ws.length i).bind fun m=>some (.nx ⟨s.G,j.2.set n (ws.set m r.1)⟩)
 | _,_=>none
def extM (t f:Mst->Option MR):Mst->Option OutM:=fun s=>(t s).bind fun x=>(f ⟨s.G,x.2⟩).bind fun r=>match x.1,r.1 with
 | .loc n,.loc m=>(r.2[n]?).bind fun ws=>(r.2[m]?).bind fun us=>if ws.length+us.length<=10000 then some (.nx ⟨s.G,r.2.set n (ws++us)⟩) else none
 | _,_=>none
theorem DenWL.dropLast:∀ {ws:List W} {vs:List V},DenWL K H U ws vs->DenWL K H U ws.dropLast vs.dropLast
 | [],_,h=>by rw [DenWL] at h;subst h;exact .nil
 | [w],_,h=>by
  rw [DenWL] at h;obtain ⟨v,us,rfl,h2,h3⟩:=h;rw [DenWL] at h3;subst h3;exact .nil
 | w::w2::ws,_,h=>by
  rw [DenWL] at h;obtain ⟨v,us,rfl,h2,h3⟩:=h;have h3':=h3;rw [DenWL] at h3;obtain ⟨v2,us2,rfl,_,_⟩:=h3;exact .cons h2 (DenWL.dropLast h3')
def popM (t:Mst->Option MR):Mst->Option MR:=fun s=>(t s).bind fun x=>match x.1 with
 | .loc n=>(x.2[n]?).bind fun ws=>(ws[ws.length - 1]?).bind fun w=>some (w,x.2.set n ws.dropLast)
 | _=>none
inductive Src where
 | items (ws:List W) | live (n:Nat)
def itm (O:Mem):Src->Option (List W)
 | .items ws=>some ws
 | .live n=>O[n]?
def JOk (K:W.Frag)(J:It)(src:Src)(H1:Hp)(U1:List Addr):Prop :=
 ∀ (i:Nat) (H2:Hp) (P:List Addr) (O2:Mem) (ws:List W),Kp H1 H2->zAR K H2 (U1++P) O2->itm O2 src=some ws->(ws[i]?=none->J.stop i H2)/\∀ w,ws[i]?=some w->J.go i H2/\∀ v H3,J.yld i H2 v H3->H3=H2/\DenW K H2 (U1++P) w v
def GIM (X:Cx)(tg iter:Expr)(g:Mst->Option (Src×Mem)):Prop:=∃ wi,PI X tg iter wi/\∀ (B:St) (H:Hp) (U:List Addr) (G:List (Option W)) (O:Mem) (r:Src×Mem) (Rr:It->Hp->Prop),MS X.K H U O B G->g ⟨G,O⟩=some r ->
 (∀ J H1 M,Kp H H1->zAR X.K H1 (U++M) r.2->JOk X.K J r.1 H1 (U++M)->Rr J H1)->wi B H Rr
def GGM (X:Cx)(tg:Expr)(t:W->Mst->Option Mst):Prop:=∃ g,PG X tg g/\∀ (w:W) (v:V) (B:St) (H:Hp) (U:List Addr) (s s':Mst) (Q:St->Hp->Prop),MS X.K H U s.O B s.G->DenW X.K H U w v->t w s=some s'->(∀ B',MS X.K H U s'.O B' s'.G->Q B' H)->g v B H Q
def tgM (i:Nat):W->Mst->Option Mst:=fun w s=>some ⟨s.G.set i (some w),s.O⟩
theorem zFD {i:Nat}{x:Str}{pos:Pos}(hN:X.N.Nodup)(hi:X.N[i]?=some x)(hx:Loc X.env.scope x)(hf:X.fn x=true\/X.env.scope.names.lookup x=some .local):GGM X (.Name x pos) (tgM i) :=
 ⟨_,zDH hN hi hx hf,fun w v B H U s s' Q ms hw e q=>by
  cases e;exact q _ (ms.set hw)⟩
def forN (t:W->Mst->Option Mst)(b:Mst->Option OutM)(src:Src):Nat->Nat->Mst->Option OutM
 | 0,_,_=>none
 | f+1,i,s=>(itm s.O src).bind fun ws=>match ws[i]? with
  | none=>some (.nx s)
  | some w=>(t w s).bind fun s1=>(b s1).bind fun o=>match o with
   | .nx s'=>forN t b src f (i+1) s'
   | .ct s'=>forN t b src f (i+1) s'
   | .bk s'=>some (.nx s')
   | .rt r=>some (.rt r)
theorem zD7 {t:W->Mst->Option Mst}{b:Mst->Option OutM}{src:Src}:∀ {f i:Nat} {s:Mst} {o:OutM},forN t b src f i s=some o->forN t b src (f+1) i s=some o
 | 0,_,_,_,h=>by cases h
 | f+1,i,s,o,h=>by
  rw [forN] at h ⊢;obtain ⟨ws,e1,h⟩:=bind_some h;rw [e1,Option.bind_some];cases q:ws[i]? with
  | none=>rw [q] at h;exact h
  | some w =>
   rw [q] at h;dsimp only at h ⊢;obtain ⟨s1,e2,h⟩:=bind_some h;obtain ⟨o1,e3,h⟩:=bind_some h;rw [e2,Option.bind_some,e3,Option.bind_some];cases o1 with
   | nx s'=>exact zD7 (f:=f) h
   | ct s'=>exact zD7 (f:=f) h
   | bk s'=>exact h
   | rt r=>exact h
theorem zF5 {t:W->Mst->Option Mst}{b:Mst->Option OutM}{src:Src}{f g i:Nat}{s:Mst}{o:OutM}(h:forN t b src f i s=some o)(l:f<=g):forN t b src g i s=some o:=by
 induction g with
 | zero =>
      have:f=0:=by omega
      subst this;exact h
 | succ g ih =>
  by_cases q:f<=g
  .exact zD7 (ih q)
  .have:f=g+1:=by omega
   subst this;exact h
open Classical in
def zD8 (t:W->Mst->Option Mst)(b:Mst->Option OutM)(src:Src)(i:Nat)(s:Mst):Option OutM :=
 if h:∃ n o,forN t b src n i s=some o then some (Classical.choose (choose_spec h)) else none
theorem zMX {t:W->Mst->Option Mst}{b:Mst->Option OutM}{src:Src}{n i:Nat}{s:Mst}{o:OutM}(h:forN t b src n i s=some o):zD8 t b src i s=some o:=by
 have ex:∃ n o,forN t b src n i s=some o:=⟨n,o,h⟩;unfold zD8;rw [dif_pos ex];have q:=choose_spec (choose_spec ex);have q1:=zF5 q (Nat.le_max_left _ n);have q2:=zF5 h (Nat.le_max_right (Classical.choose ex) n);rw [q1] at q2;exact q2
theorem zKV {t:W->Mst->Option Mst}{b:Mst->Option OutM}{src:Src}{i:Nat}{s:Mst}{o:OutM}(h:zD8 t b src i s=some o):∃ n,forN t b src n i s=some o:=by
 unfold zD8 at h;by_cases ex:∃ n o,forN t b src n i s=some o
 .rw [dif_pos ex] at h;have q:=choose_spec (choose_spec ex);cases h;exact ⟨_,q⟩
 .rw [dif_neg ex] at h;cases h
theorem zPb {tg iter:Expr}{body:List Stmt}{f:Mst->Option (Src×Mem)}{t:W->Mst->Option Mst}{b:Mst->Option OutM}{pos:Pos}(hp:PassesOwn (model X.prog X.w) X.A X.env X.xe)(hc:X.calm=true)(hi:GIM X tg iter f)(hg:GGM X tg t)(hb:GSsM X body b)
  (hs:∀ x,foldedSetIterable iter X.env x=pure x):GSM X (.For tg iter body [] pos) (fun s=>(f s).bind fun r=>zD8 t b r.1 0 ⟨s.G,r.2⟩):=by
 intro H0 U0;obtain ⟨wi,hwi,hI⟩:=hi;obtain ⟨g,hg,hG⟩:=hg;intro pins s B H E I ⟨M,st,o,ms,kp,e,p⟩;obtain ⟨r,er,e⟩:=bind_some e;obtain ⟨N,eN⟩:=zKV e;refine (zNY (tb:=fun E B H2=>∃ H1 U1,gSM X.K H1 U1 b E B H2) hp hc hwi hg ?_ hs) pins s B H E I ?_
 .intro pins s B H E I ⟨H1,U1,q⟩;exact hb H1 U1 pins s B H E I q
 refine hI B H (U0++M) st.G st.O r _ ms er fun J H1 M1 k1 c1 hJ=>?_
 refine ⟨fun i m B' H2=>∃ P s',MS X.K H2 (U0++M++M1++P) s'.O B' s'.G/\Kp H1 H2/\forN t b r.1 m i s'=some o,⟨N,[],⟨st.G,r.2⟩,by rw [append_nil];exact ms.next k1 c1,Kp.refl _,eN⟩,?_⟩;rintro i m B' H2 ⟨P,s',ms',k',e'⟩;cases m with
 | zero=>cases e'
 | succ m =>
  rw [forN] at e';obtain ⟨ws,ew,e'⟩:=bind_some e';obtain ⟨j1,j2⟩:=hJ i H2 P s'.O ws k' ms'.cells ew;have assoc:∀ P:List Addr,U0++M++M1++P=U0++(M++M1++P):=fun P=>by simp
  cases q:ws[i]? with
  | none =>
   rw [q] at e';cases e';rw [assoc] at ms';exact .inl ⟨j1 q,p _ B' H2 ms' (kp.trans (k1.trans k'))⟩
  | some w =>
   rw [q] at e';dsimp only at e';obtain ⟨s1,e1,e'⟩:=bind_some e';obtain ⟨o1,e2,e'⟩:=bind_some e';obtain ⟨go,yl⟩:=j2 w q;refine .inr ⟨go,fun O9 H3=>∃ P s',MS X.K H3 (U0++M++M1++P) s'.O O9 s'.G/\Kp H1 H3/\forN t b r.1 m (i+1) s'=some o,fun O9 H3 z=>⟨m,Nat.lt_succ_self m,z⟩,fun v H3 y=>?_⟩;obtain ⟨rfl,hv⟩:=yl v H3 y;refine hG w v B' H3 _ s' s1 _ ms' hv e1 fun C1 ms4=>⟨H1,U0++M++M1,P,s1,o1,ms4,k',e2,?_⟩
   cases o1 with
   | nx s2=>exact fun O6 Z1 H4 m2 q2=>⟨O6,s2,m2,q2,e'⟩
   | ct s2=>exact fun O6 Z1 H4 m2 q2=>⟨O6,s2,m2,q2,e'⟩
   | bk s2 =>
    cases e';intro O6 Z1 H4 m2 q2;rw [assoc] at m2;exact p _ Z1 H4 m2 (kp.trans (k1.trans q2))
   | rt z =>
    cases e';intro O6 v2 H4 c2 d2 q2;rw [assoc] at c2 d2;exact p _ v2 H4 c2 d2 (kp.trans (k1.trans q2))
end
section
variable {X:Cx}
def srcM (f:Mst->Option MR):Mst->Option (Src×Mem):=fun s=>(f s).bind fun r=>match r.1 with
 | .loc n=>some (.live n,r.2)
 | .tup ws=>some (.items ws,r.2)
 | .dat (.tup ds)=>some (.items (ds.map .dat),r.2)
 | .dat (.lst ds)=>some (.items (ds.map .dat),r.2)
 | _=>none
theorem zPh {tg iter:Expr}{f:Mst->Option MR}(h:GM X iter f):GIM X tg iter (srcM f):=by
 refine ⟨_,zNZ h,fun B H U G O z Rr ms e q=>?_⟩;obtain ⟨r,er,e⟩:=bind_some e;refine ⟨U,G,O,r,ms,er,fun v H1 M k1 c1 d1=>?_⟩;have tupJ:∀ {a:Addr} {ws:List W} {vs:List V},SqT X.K (fzH H1) a vs->DenWL X.K H1 (U++M) ws vs->JOk X.K (Itt X.K a) (.items ws) H1 (U++M):=fun {a ws vs} sq dl i H2 P O2 ws' k2 c2 e2=>by
  cases e2;have sq2:SqT X.K H2 a vs:=Same.tupS zCA (Same.tupS k2 sq);refine ⟨fun n=>⟨vs,sq2,?_⟩,fun w ew=>?_⟩
  .rw [<- dl.length];exact List.getElem?_eq_none_iff.mp n
  .obtain ⟨u,g1,g2⟩:=dl.get ew;refine ⟨⟨vs,u,sq2,g1⟩,fun v H3 y=>⟨y.1,?_⟩⟩;have:=y.2 vs sq2;rw [g1] at this;cases this;exact g2.mono k2 P
 have lstJ:∀ {a:Addr} {ws:List W} {vs:List V},SqL X.K (fzH H1) a vs->DenWL X.K H1 (U++M) ws vs->JOk X.K (Itl X.K a) (.items ws) H1 (U++M):=fun {a ws vs} sq dl i H2 P O2 ws' k2 c2 e2=>by
  cases e2;have sq2:SqL X.K H2 a vs:=zCA.seq (k2.seq sq);refine ⟨fun n=>⟨vs,sq2,?_⟩,fun w ew=>?_⟩
  .rw [<- dl.length];exact List.getElem?_eq_none_iff.mp n
  .obtain ⟨u,g1,g2⟩:=dl.get ew;refine ⟨⟨vs,u,sq2,g1⟩,fun v H3 y=>⟨y.1,?_⟩⟩;have:=y.2 vs sq2;rw [g1] at this;cases this;exact g2.mono k2 P
 split at e
 .rename_i n en;cases e;rw [en,DenW] at d1;obtain ⟨a,ga,rfl⟩:=d1;obtain ⟨ws0,vs0,_,q2,_⟩:=c1.loc ga;refine ⟨a,rfl,.inl ⟨⟨vs0,SqL.of q2⟩,q _ H1 M k1 c1 fun i H2 P O2 ws k2 c2 e2=>?_⟩⟩;obtain ⟨vs,g2,g3⟩:=c2.loc' (zOg (M:=P) ga) e2;have sq2:SqL X.K H2 a vs:=SqL.of g2;refine ⟨fun n=>⟨vs,sq2,?_⟩,fun w ew=>?_⟩
  .rw [<- g3.length];exact List.getElem?_eq_none_iff.mp n
  .obtain ⟨u,g4,g5⟩:=g3.get ew;refine ⟨⟨vs,u,sq2,g4⟩,fun v H3 y=>⟨y.1,?_⟩⟩;have:=y.2 vs sq2;rw [g4] at this;cases this;exact g5
 .rename_i ws en;cases e;rw [en,DenW] at d1;obtain ⟨a,vs,rfl,h2,h3⟩:=d1;exact ⟨a,rfl,.inr ⟨⟨vs,Same.tupS zCA h2⟩,q _ H1 M k1 c1 (tupJ h2 h3)⟩⟩
 .rename_i ds en;cases e;rw [en,DenW,Den] at d1;obtain ⟨a,vs,rfl,h2,h3⟩:=d1;exact ⟨a,rfl,.inr ⟨⟨vs,Same.tupS zCA h2⟩,q _ H1 M k1 c1 (tupJ h2 (DenWL.dats h3))⟩⟩
 .rename_i ds en;cases e;rw [en,DenW,Den] at d1;obtain ⟨a,vs,rfl,h2,h3⟩:=d1;exact ⟨a,rfl,.inl ⟨⟨vs,zCA.seq h2⟩,q _ H1 M k1 c1 (lstJ h2 (DenWL.dats h3))⟩⟩
 .cases e
def zLf (f:Mst->Option MR):Mst->Option (Src×Mem):=fun s=>(f s).bind fun r=>match r.1 with
 | .dat (.int j)=>if -(2^62)<=j/\j < 2^62 then some (.items ((rngL 0 j.toNat).map .dat),r.2) else none
 | _=>none
theorem rngJ {K:W.Frag}{H1:Hp}{U1:List Addr}(lo:Int)(n:Nat):JOk K (Itr lo n) (.items ((rngL lo n).map .dat)) H1 U1:=fun i H2 P O2 ws k2 c2 e2=>by
 cases e2;have hl:((rngL lo n).map W.dat).length=n:=by unfold rngL;simp
 refine ⟨fun z=>?_,fun w ew=>?_⟩
 .have:=List.getElem?_eq_none_iff.mp z;rw [hl] at this;exact this
 .have hi:i < n:=by rw [<- hl];exact (zzg ew).1
  refine ⟨hi,fun v H3 y=>⟨y.1,?_⟩⟩;have ev:v=.int (lo+i):=y.2;have:((rngL lo n).map W.dat)[i]?=some (.dat (.int (lo+(i:Int)))):=by unfold rngL;simp [hi]
  rw [this] at ew;cases ew;rw [DenW,Den];exact ev
theorem zIb {tg a:Expr}{f:Mst->Option MR}{p pos:Pos}(hg:Gl X "range")(hm:X.mg "range"=none)(h:GM X a f)(hs:starEach [a] X.env=[(false,eval a X.env)]):GIM X tg (.Call (.Name "range" p) [a] [] pos) (zLf f):=by
 refine ⟨_,zFr hg hm (zAc h zBA hs) hs,fun B H U G O z Rr ms e q=>?_⟩;obtain ⟨r,er,e⟩:=bind_some e;split at e
 .rename_i j ej;by_cases hj:-(2^62)<=j/\j < 2^62
  .rw [if_pos hj] at e;cases e;refine ⟨U,G,O,r,ms,er,fun v H1 M k1 c1 d1=>⟨j,?_,hj.1,hj.2,q _ H1 M k1 c1 (rngJ 0 _)⟩⟩;rw [ej,DenW,Den] at d1;rw [d1]
  .rw [if_neg hj] at e;cases e
 .cases e
def tgM2 (i j:Nat):W->Mst->Option Mst:=fun w s=>match w with
 | .tup [a,b]=>some ⟨(s.G.set i (some a)).set j (some b),s.O⟩
 | .dat (.tup [a,b])=>some ⟨(s.G.set i (some (.dat a))).set j (some (.dat b)),s.O⟩
 | _=>none
end
def zCR (np nN:Nat)(g:Mst->Option OutM):MF:=fun ws O =>
 if ws.length=np/\np<=nN then (g ⟨ws.map some++List.replicate (nN - np) none,O⟩).bind fun o=>match o with
  | .rt r=>some r
  | .nx s=>some (.dat .non,s.O)
  | _=>none
 else none
theorem zL0 {K:W.Frag}{H:Hp}{U:List Addr}{O:Mem}{N:List Str}{ws:List W}{vs:List V}(c:zAR K H U O)(h:DenWL K H U ws vs)(hl:ws.length<=N.length):MS K H U O (zBw N vs) (ws.map some++List.replicate (N.length - ws.length) none):=by
 have el:=h.length;refine ⟨c,?_,fun i w q=>?_⟩
 .unfold L2.zBw;rw [length_append,length_append,length_map,length_map,length_replicate,length_replicate];omega
 .have hi:i < ws.length:=by
   by_cases z:i < ws.length
   .exact z
   .rw [getElem?_append_right (by simpa using z),getElem?_replicate] at q;split at q<;>cases q
  rw [getElem?_append_left (by simpa using hi),getElem?_map] at q;cases e:ws[i]? with
  | none=>rw [e] at q;cases q
  | some w' =>
   rw [e] at q;cases q;obtain ⟨v,q1,q2⟩:=h.get e;refine ⟨v,?_,q2⟩;unfold L2.zBw;rw [getElem?_append_left (by rw [length_map,<- el];exact hi),getElem?_map,q1]
   rfl
theorem zPu {P:Program}{w:World}{K:W.Frag}{mg:Str->Option Value}{base:Heap}{x qual:Str}{st:Stmt}{f:Addr}{fd:FuncData}{N ps:List Str}{k:Nat}{g:Mst->Option OutM}(F:Fun K x qual st f fd)(S:zAC N ps (zAA st))
  (hbody:∀ (cdv:Value) (A:Around) (outer:List Env) (s:Shared) (H:Hp) (E:XK),Room k (A.deeper (envOfC qual (zAA st) s.heap.objs.size f cdv))->GSsM (cxOf CX0 P w K mg base N qual (zAA st) f cdv A outer s H E).nox (zAB st) g) :
  FnOk P w K mg base CX0 (k+1) f fd ps (spM K (zCR ps.length N.length g)):=by
 refine F.ok S (fun vs H Q E h=>?_) fun cdv A outer s H vs Q E hr h=>?_
 .obtain ⟨U,O,ws,r,c,d,hF,n⟩:=h;unfold zCR at hF;by_cases q:ws.length=ps.length/\ps.length<=N.length
  .rw [<- d.length];exact q.1
  .rw [if_neg q] at hF;cases hF
 obtain ⟨U,O,ws,r,c,d,hF,n⟩:=h;refine ⟨_,hbody cdv A outer s H E hr H U,?_⟩;unfold zCR at hF;by_cases q:ws.length=ps.length/\ps.length<=N.length
 .rw [if_pos q] at hF;obtain ⟨o,eo,hF⟩:=bind_some hF;rw [<- q.1] at eo;refine ⟨[],_,o,by rw [append_nil];exact zL0 c d (by rw [q.1];exact q.2),Kp.refl H,eo,?_⟩;cases o with
  | nx s' =>
   cases hF;exact fun M B' H' m k=>n _ H' M k m.cells (by rw [DenW,Den])
  | rt r' =>
   cases hF;exact fun M v H' c' d' k=>n v H' M k c' d'
  | bk _=>cases hF
  | ct _=>cases hF
 .rw [if_neg q] at hF;cases hF
theorem walkM {l:W.OpenLaw}{k:Nat}{F:MF}{q:Program}{loose:List Str}{XP:(Str->Option Value)->Heap->Prop}{YP:World->Heap->Prop}{d:DefRec}{K:Params->W.Frag}(hn:l.most=some 63)(hdf:d.params.defaults=[])(hq:importsNone q=true)(ht:∀ w,(model l.prog w).prog.given.tree=none)(hr:Room k callerA)(tl:List (Str×Addr×Addr))(hrec:∀ t∈tl,((recsOf q).find? fun e=>e.name==t.1).isSome=true)(htl:∀ w:World,∀ x∈zBm,W.tabIn (K w.params) x=tl.lookup x)(htk:∀ t∈tl,t.1∈zBm/\tl.lookup t.1=some t.2)(hnd:(tl.map fun t=>t.2.2).Nodup)(hnt:∀ w:World,W.noTabs (K w.params)=true)
  (hY:∀ (w:World) (h:Heap),YP w h->(K w.params).In h)
  (FF:∀ (w:World) (mg:Str->Option Value) (fa:Addr) (h:Heap),(K w.params).In h->h.Ns mainGlobals mg->mg d.name=some (.ref fa) ->
   ∃ fd:FuncData,(∀ (s:Shared) (u:Value),BindsTo s fd ⟨[u],[]⟩ [("_law_script",u)])/\∀ base:Heap,(K w.params).In base->base.Ns mainGlobals mg->FnOk l.prog w (K w.params) mg base CX0 k fa fd ["_law_script"] (spM (K w.params) F))
  (tr:∀ ns:List Int,ns.length<=63->∃ O,F [.dat (.lst (ns.map D.int))] []=some (.dat (.bl true),O)) :
  W.WalkO q loose XP YP l.row.toRowW d [] (fun f vs=>PySem.call f vs) :=
 L2.zOH (n:=63) (k:=k) (x := "_law_script") (CX:=fun _=>CX0) (sp:=fun w=>spM (K w.params) F) hn (by decide) hdf hq ht hr tl hrec htl htk hnd hnt hY FF (fun w H a ns hl hO hS=>by
   obtain ⟨O,eF⟩:=tr ns hl.1;have sq:SqL (K w.params) (fzH H) a (ns.map V.int):=by
    rcases hS with (h | ⟨o,h⟩) | h
    .exact (hO _ h).elim
    .exact .inl (.inr ⟨o,zD4 h⟩)
    .exact .inr h
   refine ⟨[],[],[.dat (.lst (ns.map D.int))],_,⟨rfl,by simp,fun n ws z=>by simp at z⟩,.cons ?_ .nil,eF,fun v H' M k c d=>?_⟩
   .rw [DenW,Den];exact ⟨a,_,rfl,sq,DenL.ints ns⟩
   .rw [DenW,Den] at d;exact d) fun _ _ _ _ _ z=>z
end DL
end
section
namespace DL
open PySem Spec PyProof.Rows L2
def zBr (t:W->Mst->Option Mst)(e:Mst->Option MR)(src:Src):Nat->Nat->Mst->List W->Option MA
 | 0,_,_,_=>none
 | f+1,i,s,done=>(itm s.O src).bind fun ws=>match ws[i]? with
  | none=>some (done,s.O)
  | some w=>(t w s).bind fun s1=>(e s1).bind fun r=>if done.length<=10000 then zBr t e src f (i+1) ⟨s1.G,r.2⟩ (done++[r.1]) else none
theorem zEg {t:W->Mst->Option Mst}{e:Mst->Option MR}{src:Src}:∀ {f i:Nat} {s:Mst} {d:List W} {o:MA},zBr t e src f i s d=some o->zBr t e src (f+1) i s d=some o
 | 0,_,_,_,_,h=>by cases h
 | f+1,i,s,d,o,h=>by
  rw [zBr] at h ⊢;obtain ⟨ws,e1,h⟩:=bind_some h;rw [e1,Option.bind_some];cases q:ws[i]? with
  | none=>rw [q] at h;exact h
  | some w =>
   rw [q] at h;dsimp only at h ⊢;obtain ⟨s1,e2,h⟩:=bind_some h;obtain ⟨r,e3,h⟩:=bind_some h;rw [e2,Option.bind_some,e3,Option.bind_some];by_cases l:d.length<=10000
   .rw [if_pos l] at h ⊢;exact zEg (f:=f) h
   .rw [if_neg l] at h;cases h
theorem zEh {t:W->Mst->Option Mst}{e:Mst->Option MR}{src:Src}{f g i:Nat}{s:Mst}{d:List W}{o:MA}(h:zBr t e src f i s d=some o)(l:f<=g):zBr t e src g i s d=some o:=by
 induction g with
 | zero =>
      have:f=0:=by omega
      subst this;exact h
 | succ g ih =>
  by_cases q:f<=g
  .exact zEg (ih q)
  .have:f=g+1:=by omega
   subst this;exact h
open Classical in
def zEi (t:W->Mst->Option Mst)(e:Mst->Option MR)(src:Src)(s:Mst):Option MA :=
 if h:∃ n o,zBr t e src n 0 s []=some o then some (Classical.choose (choose_spec h)) else none
theorem zK1 {t:W->Mst->Option Mst}{e:Mst->Option MR}{src:Src}{n:Nat}{s:Mst}{o:MA}(h:zBr t e src n 0 s []=some o):zEi t e src s=some o:=by
 have ex:∃ n o,zBr t e src n 0 s []=some o:=⟨n,o,h⟩;unfold zEi;rw [dif_pos ex];have q:=choose_spec (choose_spec ex);have q1:=zEh q (Nat.le_max_left _ n);have q2:=zEh h (Nat.le_max_right (Classical.choose ex) n);rw [q1] at q2;exact q2
theorem zIi {t:W->Mst->Option Mst}{e:Mst->Option MR}{src:Src}{s:Mst}{o:MA}(h:zEi t e src s=some o):∃ n,zBr t e src n 0 s []=some o:=by
 unfold zEi at h;by_cases ex:∃ n o,zBr t e src n 0 s []=some o
 .rw [dif_pos ex] at h;have q:=choose_spec (choose_spec ex);cases h;exact ⟨_,q⟩
 .rw [dif_neg ex] at h;cases h
def zG1 (ms:List Nat)(k:Nat)(f:Mst->Option (Src×Mem))(t:W->Mst->Option Mst)(e:Mst->Option MR):Mst->Option MR:=fun s =>
 (f s).bind fun z=>(zEi t e z.1 ⟨mask none ms s.G++List.replicate k none,z.2⟩).bind fun y=>if y.1.length<=10000 then some (.loc y.2.length,y.2++[y.1]) else none
theorem zGC {ms:List Nat}{k:Nat}{f:Mst->Option (Src×Mem)}{t:W->Mst->Option Mst}{e:Mst->Option MR}{s:Mst}{r:MR}(h:zG1 ms k f t e s=some r):∃ z y N,f s=some z/\zBr t e z.1 N 0 ⟨mask none ms s.G++List.replicate k none,z.2⟩ []=some y/\y.1.length<=10000/\r=(.loc y.2.length,y.2++[y.1]):=by
 obtain ⟨z,e1,h⟩:=bind_some h;obtain ⟨y,e2,h⟩:=bind_some h;obtain ⟨N,eN⟩:=zIi e2;by_cases l:y.1.length<=10000
 .rw [if_pos l] at h;cases h;exact ⟨z,y,N,e1,eN,l,rfl⟩
 .rw [if_neg l] at h;cases h
theorem MS.ext {K:W.Frag}{H:Hp}{U:List Addr}{O:Mem}{B:St}{G:List (Option W)}(h:MS K H U O B G)(ms:List Nat)(k:Nat):MS K H U O (mask none ms B++List.replicate k none) (mask none ms G++List.replicate k none):=by
 refine ⟨h.cells,by rw [length_append,length_append,zAl,zAl,h.len,length_replicate,length_replicate],fun i w q=>?_⟩;obtain ⟨q,hi⟩:=zBh q;rcases zA5 q with ⟨z,_⟩ | ⟨q,ni⟩
 .cases z
 .obtain ⟨v,w1,w2⟩:=h.get i w q;exact ⟨v,by rw [getElem?_append_left (by rw [zAl] at hi ⊢;rw [h.len];exact hi),zE9 ni];exact w1,w2⟩
section
variable {X:Cx}
theorem zEf {tg iter elt:Expr}{scope:Scope}{pos:Pos}{ms:List Nat}{xs:List Str}{f:Mst->Option (Src×Mem)}{t:W->Mst->Option Mst}{e:Mst->Option MR}(hcalm:X.calm=true)(hi:GIM X tg iter f)(cs:zCT X.env.scope scope)
  (hm:∀ (i:Nat) x,X.N[i]?=some x->ownB scope x=true->i∈ms)
  (hg:∀ s H fp,GGM (zAO X (mask noN ms X.N++xs) scope s H fp) tg t)
  (he:∀ s H fp,GM (zAO X (mask noN ms X.N++xs) scope s H fp) elt e)
  {pins:List (Addr×Obj)} {s:Shared} {B:St} {H:Hp} {U:List Addr} {G:List (Option W)} {O:Mem} {z:Src×Mem} {y:MA} {NN:Nat} (I:Inv X pins B H s) (mst:MS X.K H U O B G) (ez:f ⟨G,O⟩=some z) (hyl:y.1.length<=10000) (ey:zBr t e z.1 NN 0 ⟨mask none ms G++List.replicate xs.length none,z.2⟩ []=some y)
  {RR:Value->Addr->Result->Shared->Prop}
  (fin:∀ (D C:Addr) (s1:Shared) (H'':Hp) (m:Str->Option Value),s1.heap.Ns C m->(∀ h',Heap.SameBut C s1.heap h'->Inv X pins B H'' { s1 with heap:=h' })->H'' C=none->C≠X.env.locals->C∉X.fs->X.s0.heap.objs.size<=C ->
   (∀ x c,X.env.cells.lookup x=some c->c≠C)->(∀ p∈X.pn++pins,p.1≠C)->(∃ M,Kp H H''/\zAR X.K H'' (U++M) (y.2++[y.1])/\DenW X.K H'' (U++M) (.loc y.2.length) (.ref D))->RR (.ref D) C (.ok .next) s1) :
  wpAny (model X.prog X.w) X.A (eval iter X.env) (fun x O1=>wpAny (model X.prog X.w) X.A (pyIter x) (fun it Y2=>wpAny (model X.prog X.w) X.A (newList []) (fun acc Y9 =>
   wpAny (model X.prog X.w) X.A (newFunctionEnv scope X.env.globals (zBs X.env scope.names []) [] X.env.qual none .none (some X.env)) (fun cenv Z6 =>
    codeAny (model X.prog X.w) X.A (.compStart (.ListComp elt [⟨tg,iter,[],0⟩] scope pos) 0 it acc { cenv with scope:=relabel scope X.env }) (RR acc cenv.locals) Z6) X.xe Y9) X.xe Y2) X.xe O1) X.xe s:=by
 obtain ⟨wi,hwi,hI⟩:=hi;refine thn (hwi pins s B H (fun J H1=>∃ M,Kp H H1/\zAR X.K H1 (U++M) z.2/\JOk X.K J z.1 H1 (U++M)) I (hI B H U G O z _ mst ez fun J H1 M k1 c1 hJ=>⟨M,k1,c1,hJ⟩)) fun v s1 h1=>thn h1 fun itv s2 h2=>?_
 obtain ⟨it,fp,tn,J,H2,rfl,I2,T,st2,f2,Y1,k12,c12,hJ⟩:=h2;have mst2:MS X.K H2 (U++Y1) z.2 B G:=mst.next k12 c12;refine wpAny_newObj_type (zD1 ?_);have e3:∃ s3:Shared,s3={ s2 with heap:=s2.heap.push { cls:=.type "list",dict:=none,data:=.seq ([]:List Value).toArray } }:=⟨_,rfl⟩;obtain ⟨s3,hs3⟩:=e3;rw [<- hs3];have eD:∃ D,D=s2.heap.objs.size:=⟨_,rfl⟩;obtain ⟨D,hD⟩:=eD;rw [<- hD];have hC:s3.heap.objs.size=D+1:=by rw [hs3,hD];exact Heap.size_push ..
 have k23:∀ b o,s2.heap.get? b=some o->s3.heap.get? b=some o:=fun b o q=>by rw [hs3];exact get?_push_of_some _ q
 have I3:Inv X pins B H2 s3:=by rw [hs3];exact I2.kept (t':=s2.toks) fun b o q=>get?_push_of_some _ q
 have oD:s3.heap.get? D=some { cls:=.type "list",data:=.seq ([]:List Value).toArray }:=by rw [hs3,hD];exact get?_push_size _ rfl
 have H2D:H2 D=none:=by rw [hD];exact I2.hok.fresh (le_refl _)
 have fplt:∀ b∈fp,b < D:=fun b hb=>by
  obtain ⟨o,q,_⟩:=T.obj _ _ st2 b hb;rw [hD];exact lt_size q
 have hfD:∀ b∈D::fp,FpOk X pins H2 b/\∃ o,s3.heap.get? b=some o:=fun b hb=>by
  rcases mem_cons.mp hb with rfl | hb
  .exact ⟨I2.fpOk (by rw [hD];exact le_refl _) H2D,_,oD⟩
  .obtain ⟨o,q,_⟩:=T.obj _ _ st2 b hb;exact ⟨f2 b hb,o,k23 b o q⟩
 have lenN:(mask none ms B++List.replicate xs.length none).length=(mask noN ms X.N++xs).length:=by
  rw [length_append,length_append,zAl,zAl,length_replicate,I.len]
 have Ic:=zHm (fp:=D::fp) (N:=mask noN ms X.N++xs) (σc:=mask none ms B++List.replicate xs.length none) I3 hfD cs (fun i x v q1 q2 q3=>by
  obtain ⟨q2,hi2⟩:=zBh q2;rcases zA5 q2 with ⟨z,_⟩ | ⟨q2,ni⟩
  .cases z
  have hiN:i < (mask noN ms X.N).length:=by rw [zAl] at hi2 ⊢;rw [<- I.len];exact hi2
  rw [getElem?_append_left hiN] at q1;rcases zA5 q1 with ⟨_,z⟩ | ⟨q1,_⟩
  .exact absurd z ni
  refine ⟨?_,i,q1,q2⟩;have no:ownB scope x=false:=by
   cases b:ownB scope x with
   | false=>rfl
   | true=>exact absurd (hm i x q1 b) ni
  unfold Vis relS at q3;rw [zCX] at q3;unfold ownB at no;cases w:scope.names.lookup x with
  | none=>rw [w] at q3;simp at q3
  | some k =>
   rw [w] at no;cases k with
   | free=>rfl
   | «local»=>cases no
   | cell=>cases no
   | _=>rw [w] at q3;simp at q3) lenN
 have st4:tn 0 (pushCells (s3.heap.push { cls:=.type "dict",data:=.dict #[] }) scope.names):=T.keep 0 _ _ st2 fun b hb o q=>zAd _ _ b o (get?_push_of_some _ (k23 b o q))
 have loop:codeAny (model X.prog X.w) X.A (.compLoop (.ListComp elt [⟨tg,iter,[],0⟩] scope pos) 0 (.ref it) (.ref D) (zBO scope X s3)) (RR (.ref D) s3.heap.objs.size) { s3 with heap:=pushCells (s3.heap.push { cls:=.type "dict",data:=.dict #[] }) scope.names }:=by
  refine zDa (fun n s'=>∃ (i:Nat) (B':St) (H':Hp) (P:List Addr) (st':Mst) (done:List W) (vs:List V) (its:List Value),Inv (zAO X (mask noN ms X.N++xs) scope s3 H2 (D::fp)) [] B' H' s'/\tn i s'.heap/\(∀ b∈D::fp,H' b=none)/\s'.heap.PlainList D its.toArray/\Vals vs its/\MS X.K H' (U++Y1++P) st'.O B' st'.G /\
   Kp H2 H'/\DenWL X.K H' (U++Y1++P) done vs/\zBr t e z.1 n i st' done=some y) ?_ NN
   ⟨0,_,H2,[],⟨mask none ms G++List.replicate xs.length none,z.2⟩,[],[],[],Ic,st4,fun b hb=>(hfD b hb).1.1,⟨_,zAd _ _ D _ (get?_push_of_some _ oD)⟩,.nil,by rw [append_nil];exact mst2.ext ms xs.length,Kp.refl _,.nil,ey⟩
  rintro n s' ⟨i,B',H',P,st0,done,vs,its,Ic',st',fr',⟨nD,pl⟩,rv,ds',sm,dn,ec⟩;cases n with
  | zero=>cases ec
  | succ n =>
  rw [zBr] at ec;obtain ⟨ws,ew,ec⟩:=bind_some ec;obtain ⟨j1,j2⟩:=hJ i H' P st0.O ws sm ds'.cells ew;have fpc:∀ {b:Addr} {pn:List (Addr×Obj)} {Hx:Hp},b∈D::fp->Hx b=none->(∀ p∈pn,p.1≠b)->FpOk (zAO X (mask noN ms X.N++xs) scope s3 H2 (D::fp)) pn Hx b:=fun {b pn Hx} hb hn hp =>
   ⟨hn,(Ic'.ok.exf b hb).1,Ic'.ok.exfs b hb,.inl hb,(Ic'.ok.exf b hb).2,fun p hp'=>hp p (show p∈pn from hp')⟩
  have pinD:∀ {p:Addr×Obj} {h:Heap},p∈zA3 [D] h->p.1=D:=fun {p h} hp=>by simpa using (zDz hp).1
  have I0:Inv (zAO X (mask noN ms X.N++xs) scope s3 H2 (D::fp)) ([]++zA3 [D] s'.heap) B' H' s':=Ic'.pinned (fp:=[D]) (fun b hb=>by
   have eb:b=D:=by simpa using hb
   subst eb;exact fpc mem_cons_self (fr' _ mem_cons_self) fun p hp=>absurd hp (by simp)) fun b hb=>by
   have eb:b=D:=by simpa using hb
   subst eb;exact ⟨_,pl,fun v z=>by cases z⟩
  have fp0:∀ b∈fp,FpOk (zAO X (mask noN ms X.N++xs) scope s3 H2 (D::fp)) ([]++zA3 [D] s'.heap) H' b:=fun b hb=>fpc (mem_cons_of_mem _ hb) (fr' b (mem_cons_of_mem _ hb)) fun p hp z=>by
   have q1:=pinD (by simpa using hp);have q2:=fplt b hb;rw [<- z,q1] at q2;exact absurd q2 (lt_irrefl _)
  have memD:(D,_)∈zA3 [D] s'.heap:=zBQ (by simp) pl;cases hq:ws[i]? with
  | some w0 =>
   rw [hq] at ec;dsimp only at ec;obtain ⟨go,yl⟩:=j2 w0 hq;refine wpAny_mono (T.item (zAO X (mask noN ms X.N++xs) scope s3 H2 (D::fp)) rfl rfl rfl hcalm i ([]++zA3 [D] s'.heap) s' B' H' _ I0 fp0 st' go) (fun r s4 zz93=>?_) fun _ _ z=>z
   obtain ⟨u,hr,h4⟩:=zz93;subst hr;refine wpAny_mono h4 (fun _ s5 zz94=>?_) fun _ _ z=>z
   obtain ⟨x,H5,I5,r5,y5,st5,fr5⟩:=zz94;obtain ⟨rfl,hv⟩:=yl x H5 y5;have pl5:=(I5.pin (D,_) (mem_append_right _ (mem_append_right _ memD))).1;have I5':Inv (zAO X (mask noN ms X.N++xs) scope s3 H2 (D::fp)) ([]++zA3 (D::fp) s5.heap) B' H5 s5:=I5.unpinned.pinned (fp:=D::fp) (fun b hb=>fpc hb (fr' b hb) fun p hp=>absurd hp (by simp)) fun b hb=>by
    rcases mem_cons.mp hb with rfl | hb
    .exact ⟨_,pl5,fun v z=>by cases z⟩
    .exact T.obj _ _ st5 b hb
   have there:∀ {Hx:Hp} {sx:Shared} {Z8:St},Inv (zAO X (mask noN ms X.N++xs) scope s3 H2 (D::fp)) ([]++zA3 (D::fp) s5.heap) Z8 Hx sx->∀ b∈D::fp,(∀ o,s5.heap.get? b=some o->sx.heap.get? b=some o)/\Hx b=none:=fun {Hx sx Z8} Ix b hb=>by
    have q:∃ o,s5.heap.get? b=some o:=by
     rcases mem_cons.mp hb with rfl | hb
     .exact ⟨_,pl5⟩
     .obtain ⟨o,q,_⟩:=T.obj _ _ st5 b hb;exact ⟨o,q⟩
    obtain ⟨o,q⟩:=q;have w:=Ix.pin (b,o) (mem_append_right _ (mem_append_right _ (zBQ hb q)));exact ⟨fun o' q'=>by rw [q] at q';cases q';exact w.1,w.2.1⟩
   obtain ⟨st1,e1,ec⟩:=bind_some ec;obtain ⟨r,er,ec⟩:=bind_some ec;by_cases hdl:done.length<=10000
   case neg=>rw [if_neg hdl] at ec;cases ec
   rw [if_pos hdl] at ec;obtain ⟨g,hg1,hg2⟩:=hg s3 H2 (D::fp);refine wpAny_mono (hg1 _ s5 B' H5 x u _ I5' r5 (hg2 w0 x B' H5 (U++Y1++P) st0 st1 (fun O5 H6=>H6=H5/\MS X.K H5 (U++Y1++P) st1.O O5 st1.G) ds' hv e1 fun O5 d6=>⟨rfl,d6⟩)) (fun _ s6 zz95=>?_) fun _ _ z=>z.elim
   obtain ⟨O5,H6,I6,q6,ds6⟩:=zz95;subst q6;refine wpAny_tests_nil ?_;rw [if_pos rfl];refine wpAny_mono (he s3 H2 (D::fp) _ s6 O5 H6 (fun v H8=>∃ O6,Kp H6 H8/\zAR X.K H8 (U++Y1++P++O6) r.2/\DenW X.K H8 (U++Y1++P++O6) r.1 v) I6 ⟨U++Y1++P,st1.G,st1.O,r,ds6,er,fun v H8 O6 k8 c8 d8=>⟨O6,k8,c8,d8⟩⟩) (fun uv s8 zz96=>?_) fun _ _ z=>z.elim
   obtain ⟨v,H8,I8,rv8,O6,k8,c8,d8⟩:=zz96;have assoc:U++Y1++P++O6=U++Y1++(P++O6):=by simp
   have pl8:=(there I8 D mem_cons_self).1 _ pl5;refine wpAny_list_append_plain (hsz:=by rw [size_toArray,<- rv.length,<- dn.length];exact zCf hdl) ⟨nD,pl8⟩ fun h9 hl9 hs9=>?_
   have I9:Inv (zAO X (mask noN ms X.N++xs) scope s3 H2 (D::fp)) [] O5 H8 { s8 with heap:=h9 }:=I8.unpinned.turned (it:=D) (t':=s8.toks) (fun b o hb q=>hs9.extBut b o hb q) (there I8 D mem_cons_self).2 (Ic'.ok.exf D mem_cons_self).1 (.inl mem_cons_self) (Ic'.ok.exf D mem_cons_self).2 fun p hp=>absurd (show p∈([]:List (Addr×Obj)) from hp) (by simp)
   have ms8:=ds6.next k8 c8;rw [assoc] at ms8 d8;refine ⟨n,Nat.lt_succ_self n,i+1,O5,H8,P++O6,⟨st1.G,r.2⟩,done++[r.1],vs++[v],its++[uv],I9,T.keep _ _ _ st5 fun b hb o q=>hs9.extBut b o (fun z=>?_) ((there I8 b (mem_cons_of_mem _ hb)).1 o q),fun b hb=>(there I8 b hb).2,?_,rv.append (.cons rv8 .nil),ms8,
    sm.trans k8,DenWL.append (by rw [<- assoc];exact dn.mono k8 O6) (.cons d8 .nil),ec⟩
   .have:=fplt b hb;rw [z] at this;exact absurd this (lt_irrefl _)
   .have ea:its.toArray.push uv=(its++[uv]).toArray:=by simp
    rw [<- ea];exact hl9
  | none =>
   rw [hq] at ec;cases ec;refine wpAny_mono (T.done (zAO X (mask noN ms X.N++xs) scope s3 H2 (D::fp)) rfl rfl rfl hcalm _ ([]++zA3 [D] s'.heap) s' B' H' _ I0 fp0 st' (j1 hq)) (fun r s4 zz97=>?_) fun _ _ z=>z
   obtain ⟨hr,I4⟩:=zz97;subst hr;obtain ⟨m,ns,_⟩:=id I4.loc;have eC:(zAO X (mask noN ms X.N++xs) scope s3 H2 (D::fp)).env.locals=D+1:=hC;rw [eC] at ns;have pl4:=I4.pin (D,_) (mem_append_right _ (mem_append_right _ memD));have HD:H' D=none:=pl4.2.1;have HC:H' (D+1)=none:=by have:=I4.free;rw [eC] at this;exact this
   have CD:D≠D+1:=ne_of_lt (Nat.lt_succ_self D);have neD:∀ {b:Addr} {o:HO},H' b=some o->b≠D:=fun {b o} q z=>by rw [z,HD] at q;cases q
   have ne2:∀ {b:Addr} {o:HO},H2 b=some o->b≠D:=fun {b o} q z=>by rw [z,H2D] at q;cases q
   have lt2:∀ {b:Addr} {o:Obj},s2.heap.get? b=some o->b < D:=fun {b o} q=>by rw [hD];exact lt_size q
   have outex:∀ {b:Addr} {o:Obj},s2.heap.get? b=some o->b∉fp->b∉D::fp:=fun {b o} q hx z=>(mem_cons.mp z).elim (fun z=>absurd (lt2 q) (by rw [z];exact lt_irrefl _)) hx
   have neC:∀ {b:Addr} {o:Obj},s2.heap.get? b=some o->b≠D+1:=fun {b o} q=>ne_of_lt (Nat.lt_succ_of_lt (lt2 q))
   have gt2:s2.heap.objs.size<=D+1:=by rw [<- hD];exact Nat.le_succ _
   show RR (.ref D) s3.heap.objs.size (.ok .next) s4;rw [hC];refine fin D (D+1) s4 (upd H' D (.lst vs)) m ns (fun h' sb=>?_) ?_ (Nat.ne_of_gt (lt_of_lt_of_le I2.lt gt2)) (I2.nofs gt2) (le_trans I2.sz gt2) (fun x c q z=>?_) (fun p hp z=>?_) ?_
   .refine I2.call' (s':={ s4 with heap:=h' }) (ch:=fp) ?_ ⟨fun b o q n hb hx=>sb.extBut b o (neC q) (I4.base.keep b o (k23 b o q) n hb (outex q hx)),fun b o q n hb hx=>?_,fun b o q n hx=>?_,fun b o q hx=>?_,fun b ws q=>?_,fun b o w q=>?_,fun b ps q=>?_⟩ (fun b w q=>?_) I4.bare fun b hb=>?_
    .have:=I4.os;rw [hs3] at this;exact this
    .obtain ⟨sl,w⟩:=I4.base.slot b o (k23 b o q) n hb (outex q hx);exact ⟨sl,sb.extBut b _ (neC q) w⟩
    .rw [zAP (ne_of_lt (lt2 q))];exact I4.base.free b o (k23 b o q) n (outex q hx)
    .obtain ⟨o',w⟩:=I4.base.there b o (k23 b o q) (outex q hx);exact ⟨o',sb.extBut b _ (neC q) w⟩
    .rw [zAP (ne2 q)];exact I4.base.tups b ws q
    .rw [zAP (ne2 q)];exact I4.base.frzs b o w q
    .rw [zAP (ne2 q)];exact I4.base.tbls b ps q
    .by_cases z:b=D
     .subst z;rw [zAh] at q;cases q;exact ⟨by rw [<- dn.length];exact zCf hyl,its,nD,rv,sb.extBut b _ CD pl4.1⟩
     .rw [zAP z] at q;refine (I4.hok b w q).stay (fun d v hd w'=>sb.extBut d v (fun z'=>?_) w') (fun d w'=>by rw [zAP (neD w')];exact w') (fun d ws w'=>by rw [zAP (neD w')];exact w') fun d ob u w' _=>by rw [zAP (neD w')];exact w'
      rcases hd with hd | hd
      .rw [<- hd,z',HC] at q;cases q
      .rw [z',HC] at hd;cases hd
    .obtain ⟨f0,f1,f2',f3,f4,f5⟩:=f2 b hb;exact ⟨f3,f1,f4,f5⟩
   .rw [zAP (Ne.symm CD)];exact HC
   .obtain ⟨v,w⟩:=I2.cell x c q;have:=w.lt;rw [z,<- hD] at this;exact absurd (Nat.lt_trans this (Nat.lt_succ_self D)) (lt_irrefl _)
   .have:=lt_size (I2.pin p hp).1;rw [z,<- hD] at this;exact absurd (Nat.lt_trans this (Nat.lt_succ_self D)) (lt_irrefl _)
   .have s9:Same H' (upd H' D (.lst vs)):=zAk HD _;refine ⟨Y1++P++[D],k12.trans (sm.trans (zBW s9)),?_,?_⟩
    .rw [show U++(Y1++P++[D])=U++Y1++P++[D] by simp];exact ds'.cells.new s9 HD zAh (dn.mono (zBW s9) [D])
    .rw [show U++(Y1++P++[D])=U++Y1++P++[D] by simp];exact zJ3 ds'.cells
 exact codeAny_compStart_list loop (T.self X.A 0 _ _ _ st4 loop)
theorem zKP {tg iter elt:Expr}{scope:Scope}{pos:Pos}{ms:List Nat}{xs:List Str}{f:Mst->Option (Src×Mem)}{t:W->Mst->Option Mst}{e:Mst->Option MR}(hcalm:X.calm=true)(hi:GIM X tg iter f)(hs:∀ x,foldedSetIterable iter X.env x=pure x)(cs:zCT X.env.scope scope)
  (hm:∀ (i:Nat) x,X.N[i]?=some x->ownB scope x=true->i∈ms)
  (hg:∀ s H fp,GGM (zAO X (mask noN ms X.N++xs) scope s H fp) tg t)
  (he:∀ s H fp,GM (zAO X (mask noN ms X.N++xs) scope s H fp) elt e) :
  GM X (.ListComp elt [⟨tg,iter,[],0⟩] scope pos) (zG1 ms xs.length f t e):=by
 intro pins s B H Q I ⟨U,G,O,r,mst,er,cc⟩;obtain ⟨z,y,NN,ez,ey,hyl,rfl⟩:=zGC er;rw [eval_ListComp];refine wpAny_comprehension_free (use:=none) rfl hs (zBP (zEF I cs)) cs.kind (zCZ cs) ?_;refine zEf (RR:=fun acc C=>compPost (model X.prog X.w) X.A X.xe none (EP X pins B Q) acc C) hcalm hi cs hm hg he I mst ez hyl ey fun D C s1 H'' m ns hI _ _ _ _ _ _ fin=>?_
 obtain ⟨M,k,c1,d1⟩:=fin;exact ⟨m,ns,fun h' sb=>⟨.ref D,H'',hI h' sb,rfl,cc _ H'' M k c1 d1⟩⟩
end
end DL
end
section
namespace DL
open PySem Spec PyProof.Rows L2
section
variable {X:Cx}
theorem zMP {i:Nat}{y:Str}{py spos:Pos}{tg iter elt:Expr}{scope:Scope}{pos:Pos}{ms:List Nat}{xs:List Str}{f:Mst->Option (Src×Mem)}{t:W->Mst->Option Mst}{e:Mst->Option MR}(hcalm:X.calm=true)(hi:GIM X tg iter f)(hs:∀ x,foldedSetIterable iter X.env x=pure x)(cs:zCT X.env.scope scope)
  (hm:∀ (i:Nat) x,X.N[i]?=some x->ownB scope x=true->i∈ms)
  (hg:∀ s H fp,GGM (zAO X (mask noN ms X.N++xs) scope s H fp) tg t)
  (he:∀ s H fp,GM (zAO X (mask noN ms X.N++xs) scope s H fp) elt e)
  (hN:X.N.Nodup) (hy:X.N[i]?=some y) (hl:Loc X.env.scope y) (hf:X.fn y=true\/X.env.scope.names.lookup y=some .local) :
  GSM X (.Assign [.Name y py] (.ListComp elt [⟨tg,iter,[],0⟩] scope pos) spos) (setM i (zG1 ms xs.length f t e)):=by
 have hge:GM X (.ListComp elt [⟨tg,iter,[],0⟩] scope pos) (zG1 ms xs.length f t e):=zKP hcalm hi hs cs hm hg he;have hb:∃ b,swapsWith (.ListComp elt [⟨tg,iter,[],0⟩] scope pos) (some (.Name y py)) spos.line X.env=pure b:=⟨_,rfl⟩;obtain ⟨b,hb⟩:=hb;cases b with
 | false=>exact zKJ hN hy hl hge hb hf
 | true =>
  intro H0 U0 pins s B H E I ⟨M,st,o,mst,kp,eo,p⟩;obtain ⟨r,er,eo⟩:=bind_some eo;cases eo;obtain ⟨z,yy,NN,ez,ey,hyl,rfl⟩:=zGC er;rw [exec_Assign_Name_used _ _ _ _ hb];refine wpAny_bind (wpAny_standAt (wpAny_bind ?_));show wpAny _ X.A (do let _<-comprehension (.ListComp elt [⟨tg,iter,[],0⟩] scope pos) scope X.env _ (newList []) false (eval iter X.env) (some (assign (.Name y py) X.env))) _ _ s;refine wpAny_bind (wpAny_mono (wpAny_comprehension_free (use:=some (assign (.Name y py) X.env)) (Q:=fun _ s'=>SP X pins E .next s') rfl hs (zBP (zEF I cs)) cs.kind (zCZ cs) ?_) (fun _ s' hq=>wpAny_pure (wpAny_pure hq)) fun _ _ e=>e);refine zEf (RR:=fun acc C=>compPost (model X.prog X.w) X.A X.xe (some (assign (.Name y py) X.env)) (fun _ s'=>SP X pins E .next s') acc C) hcalm hi cs hm hg he I mst ez hyl ey fun D C s1 H'' m ns hI hC1 hC2 hC3 hC4 hC5 hC6 fin=>?_
  have I1:Inv X pins B H'' s1:=hI s1.heap (Heap.SameBut.refl ..);obtain ⟨oC,es,ep,ho,hd,w3⟩:=id ns;have I2:Inv X (pins++[(C,oC)]) B H'' s1:=I1.pins_of fun q hq=>(mem_append.mp hq).elim (fun z=>I1.pin q (mem_append_right _ z)) fun z=>by
   have e:q=(C,oC):=by simpa using z
   subst e;exact ⟨ho,hC1,hC2,hC3,fun v z=>by rw [hd] at z;cases z⟩
  show wpAny (model X.prog X.w) X.A (assign (.Name y py) X.env (.ref D)) _ X.xe s1;refine thn (zDH hN hy hl hf _ s1 B H'' (.ref D) (.ref D) (fun O5 H6=>H6=H''/\O5=B.set i (some (.ref D))) I2 rfl ⟨rfl,rfl⟩) fun _ s6 zz98=>?_
  obtain ⟨O5,H6,I6,q1,q2⟩:=zz98;subst q1 q2;have pc:=I6.pin (C,oC) (mem_append_right _ (mem_append_right _ (by simp)));refine ⟨m,⟨oC,es,ep,pc.1,hd,w3⟩,fun h' sb=>?_⟩;refine ⟨_,H6,I6.unpinned.turned (it:=C) (t':=s6.toks) (fun b o hb q=>sb.extBut b o hb q) hC1 (Ne.symm (Ne.symm hC2)) (.inr hC4) hC5 hC6,?_⟩;obtain ⟨O4,k2,c2,d2⟩:=fin;have m2:=(mst.next k2 c2).set (i:=i) d2;rw [append_assoc] at m2;exact p (M++O4) _ _ m2 (kp.trans k2)
end
end DL
end
section
namespace DL
open PySem Spec PyProof.Rows L2
set_option genSizeOf false in
set_option genInjectivity false in
inductive ME where
 | pur (e:E) | var (i:Nat) | call (n:Nat) (f:Str) (es:ME) | lst (es:ME) | tup (es:ME) | tupd (es:ME) | ix (a b:ME) | bin (op:Operator) (a b:ME) | cmp (op:CmpOp) (a b:ME) | pop (a:ME) | cat (a b:ME)
 | comp (n:Nat) (ms:List Nat) (x:Str) (src el:ME) | rng (a:ME) | it (a:ME) | not (a:ME) | andl (es:ME) | orl (es:ME) | nil | cons (e es:ME)
set_option genSizeOf false in
set_option genInjectivity false in
inductive MT where
 | nil | cons (a b:MT) | set (i:Nat) (e:ME) | setC (i:Nat) (e:ME) | app (t e:ME) | put (t k e:ME) | ext (t e:ME) | ife (c:ME) (a b:MT) | for1 (i:Nat) (src:ME) (b:MT) | for2 (i j:Nat) (src:ME) (b:MT)
 | ret (e:ME) | retN | drop (e:ME) | pass | brk | cnt | never
def catW (x y:W)(O:Mem):Option MR:=match x,y with
 | .loc n,.loc m=>(O[n]?).bind fun ws=>(O[m]?).bind fun vs=>if ws.length+vs.length<=10000 then some (.loc O.length,O++[ws++vs]) else none
 | _,_=>none
abbrev Dm:=List (Str×MF)
def fnM (u:Dm)(n:Nat)(x:Str)(g:Mst->Option MA):Mst->Option MR:=fun s=>match u[n]? with
 | some (y,F)=>if y=x then zIj F g s else none
 | none=>none
mutual
def evM (C:Gm)(u:Dm):ME->Mst->Option MR
 | .pur e=>zL7 (evE C e)
 | .var i=>varM i
 | .call n f es=>fnM u n f (evMs C u es)
 | .lst es=>lstM (evMs C u es)
 | .tup es=>tupM (evMs C u es)
 | .tupd es=>zTA (evMs C u es)
 | .ix a b=>twoM (evM C u a) (evM C u b) ixW
 | .bin op a b=>twoM (evM C u a) (evM C u b) (opM (binD op))
 | .cat a b=>twoM (evM C u a) (evM C u b) catW
 | .cmp op a b=>twoM (evM C u a) (evM C u b) (opM (cmpD op))
 | .pop a=>popM (evM C u a)
 | .comp n ms _ src el=>zG1 ms 1 (evSrc C u src) (tgM n) (evM C u el)
 | _=>fun _=>none
def evMs (C:Gm)(u:Dm):ME->Mst->Option MA
 | .nil=>nilM
 | .cons e es=>zMs (evM C u e) (evMs C u es)
 | _=>fun _=>none
def evSrc (C:Gm)(u:Dm):ME->Mst->Option (Src×Mem)
 | .rng a=>zLf (evM C u a)
 | .it a=>srcM (evM C u a)
 | _=>fun _=>none
end
mutual
def evT (C:Gm)(u:Dm):ME->Mst->Option MB
 | .pur e=>zL8 (asB (evE C e))
 | .cmp op a b=>asBM (evM C u (.cmp op a b))
 | .call n f es=>asBM (evM C u (.call n f es))
 | .not a=>notB (evT C u a)
 | .andl es=>evAndT C u es
 | .orl es=>evOrT C u es
 | _=>fun _=>none
def evAndT (C:Gm)(u:Dm):ME->Mst->Option MB
 | .cons e es=>(match es with
  | .nil=>evT C u e
  | es=>andB (evT C u e) (evAndT C u es))
 | _=>fun _=>none
def evOrT (C:Gm)(u:Dm):ME->Mst->Option MB
 | .cons e es=>(match es with
  | .nil=>evT C u e
  | es=>orB (evT C u e) (evOrT C u es))
 | _=>fun _=>none
end
mutual
def evS' (C:Gm)(u:Dm):MT->Mst->Option OutM
 | .set i e=>setM i (evM C u e)
 | .setC i e=>setM i (evM C u e)
 | .app t e=>appM (evM C u t) (evM C u e)
 | .put t k e=>putM (evM C u t) (evM C u k) (evM C u e)
 | .ext t e=>extM (evM C u t) (evM C u e)
 | .ife c a b=>ifM (evT C u c) (evSs' C u a) (evSs' C u b)
 | .for1 i src b=>fun s=>(evSrc C u src s).bind fun r=>zD8 (tgM i) (evSs' C u b) r.1 0 ⟨s.G,r.2⟩
 | .for2 i j src b=>fun s=>(evSrc C u src s).bind fun r=>zD8 (tgM2 i j) (evSs' C u b) r.1 0 ⟨s.G,r.2⟩
 | .ret e=>retM (evM C u e)
 | .retN=>fun s=>some (.rt (.dat .non,s.O))
 | .drop e=>zT6 (evM C u e)
 | .pass=>fun s=>some (.nx s)
 | .brk=>fun s=>some (.bk s)
 | .cnt=>fun s=>some (.ct s)
 | .nil=>fun _=>none
 | .cons _ _=>fun _=>none
 | .never=>fun _=>none
def evSs' (C:Gm)(u:Dm):MT->Mst->Option OutM
 | .nil=>fun s=>some (.nx s)
 | .cons a b=>seqM (evS' C u a) (evSs' C u b)
 | _=>fun _=>none
end
def zSx:Expr->Bool
 | .Name _ _=>true
 | .Subscript _ _ _=>true
 | _=>false
mutual
def cM:ME->Scope->List Str->List Str->Expr->Bool
 | .pur e,sc,N,bs=>fun x=>cE e sc N bs x
 | .var i,sc,N,bs=>fun x=>cE (.var i) sc N bs x
 | .call _ f es,sc,N,bs=>fun e=>zAx e fun z1 z2 z3 _=>zAZ z1 fun y _=>zNe z2 fun x xs=>on0 z3<|(decide (f=y)&&glB sc f&&okN f&&cMs es sc N bs (x::xs))
 | .lst es,sc,N,bs=>fun e=>zJZ e fun l _=>cMs es sc N bs l
 | .tup es,sc,N,bs=>fun _=>false
 | .tupd es,sc,N,bs=>fun _=>false
 | .ix a b,sc,N,bs=>fun e=>zBy e fun l r _=>zGg r&&cM a sc N bs l&&cM b sc N bs r
 | .bin op a b,sc,N,bs=>fun _=>false
 | .cat a b,sc,N,bs=>fun _=>false
 | .cmp op a b,sc,N,bs=>fun _=>false
 | .pop a,sc,N,bs=>fun _=>false
 | .comp n ms x src el,sc,N,bs=>fun e=>zCU e fun v z1 scope _=>on1 z1 fun z2=>zLw z2 fun z3 t z4 a=>zAZ z3 fun y _=>on0 z4<|(decide (x=y)&&decide (a=0)&&decide (n=N.length)&&cscB sc scope&&zJw scope N ms&&decide ((mask noN ms N++[x]).Nodup)&&locB (relS sc scope) x&&ownB scope x&&cSrc src sc N bs t&&cM el (relS sc scope) (mask noN ms N++[x]) bs v)
 | _,_,_,_=>fun _=>false
def cMs:ME->Scope->List Str->List Str->List Expr->Bool
 | .nil,sc,N,bs=>fun l=>l.isEmpty
 | .cons e es,sc,N,bs=>fun l=>match l with
  | x::xs=>zAe x&&cM e sc N bs x&&cMs es sc N bs xs
  | []=>false
 | _,_,_,_=>fun _=>false
def cSrc:ME->Scope->List Str->List Str->Expr->Bool
 | .rng a,sc,N,bs=>fun x=>zAx x fun z1 z2 z3 _=>zAZ z1 fun y _=>on1 z2 fun l=>on0 z3<|(decide (y = "range")&&bltB sc bs "range"&&zAe l&&cM a sc N bs l)
 | .it a,sc,N,bs=>fun x=>zGh x&&cM a sc N bs x
 | _,_,_,_=>fun _=>false
end
mutual
def cT:ME->Scope->List Str->List Str->Expr->Bool
 | .pur e,sc,N,bs=>fun x=>cE e sc N bs x
 | .cmp op a b,sc,N,bs=>fun x=>cM (.cmp op a b) sc N bs x
 | .call n f es,sc,N,bs=>fun x=>cM (.call n f es) sc N bs x
 | .not a,sc,N,bs=>fun e=>zC2 e fun z1 l _=>onEq z1 .Not<|(cT a sc N bs l)
 | .andl es,sc,N,bs=>fun _=>false
 | .orl es,sc,N,bs=>fun e=>zDh e fun z1 l _=>onEq z1 .Or<|(cTs es sc N bs l)
 | _,_,_,_=>fun _=>false
def cTs:ME->Scope->List Str->List Str->List Expr->Bool
 | .cons e es,sc,N,bs=>fun l=>match es with
  | .nil=>(match l with
   | [x]=>cT e sc N bs x
   | _=>false)
  | es=>(match l with
   | x::y::xs=>cT e sc N bs x&&cTs es sc N bs (y::xs)
   | _=>false)
 | _,_,_,_=>fun _=>false
end
def zPO:ME->Bool
 | .comp _ _ _ _ _=>true
 | _=>false
mutual
def cS' (sc:Scope)(N bs:List Str):MT->Stmt->Bool
 | .set i e=>fun s=>zC3 s fun z1 v _=>on1 z1 fun z2=>zAZ z2 fun y _=>varB sc N i y&&zHd v&&cM e sc N bs v
 | .setC i e=>fun s=>zC3 s fun z1 v _=>on1 z1 fun z2=>zAZ z2 fun y _=>zPO e&&varB sc N i y&&cM e sc N bs v
 | .app t e=>fun s=>zE6 s fun z1 _=>zAx z1 fun z2 z3 z4 cpos=>zBz z2 fun b m apos=>on1 z3 fun v=>on0 z4<|(decide (m = "append")&&zSx b&&(apos.endLine==cpos.line)&&zAe v&&cM t sc N bs b&&cM e sc N bs v)
 | .ext t e=>fun _=>false
 | .put t k e=>fun _=>false
 | .ife c a b=>fun s=>onIf s fun t l r _=>cT c sc N bs t&&cSs' sc N bs a l&&cSs' sc N bs b r
 | .for1 i it b=>fun s=>zO2 s fun z1 t l z2 _=>zAZ z1 fun y _=>on0 z2<|(varB sc N i y&&cSrc it sc N bs t&&cSs' sc N bs b l)
 | .for2 i j it b=>fun _=>false
 | .ret e=>fun s=>zDf s fun z1 _=>zFt z1 fun v=>cM e sc N bs v
 | .retN=>fun _=>false
 | .drop e=>fun _=>false
 | .pass=>fun _=>false
 | .brk=>fun _=>false
 | .cnt=>fun _=>false
 | .never=>fun _=>true
 | .nil=>fun _=>false
 | .cons _ _=>fun _=>false
def cSs' (sc:Scope)(N bs:List Str):MT->List Stmt->Bool
 | .nil=>fun l=>l.isEmpty
 | .cons a b=>fun l=>match l with
  | s::r=>cS' sc N bs a s&&cSs' sc N bs b r
  | []=>false
 | _=>fun _=>false
end
end DL
end
section
namespace DL
open PySem Spec PyProof.Rows L2
def DmOk (P:Program)(w:World)(K:W.Frag)(mg:Str->Option Value)(base:Heap)(k:Nat)(u:Dm):Prop :=
 ∀ x F,(x,F)∈u->∃ f fd ps,FnOk P w K mg base CX0 k f fd ps (spM K F)/\mg x=some (.ref f)/\W.keepIn K (.ref f)=true/\zCD K fd ps []
structure XOkM (X:Cx)(k:Nat)(C:Gm)(u:Dm)(bs:List Str):Prop where
 x:XOk X k C bs
 d:DmOk X.prog X.w X.K X.mg X.base k u
theorem XOkM.comp {X:Cx}{k:Nat}{C:Gm}{u:Dm}{bs N:List Str}{scope:Scope}{s:Shared}{H:Hp}{fp:List Addr}(o:XOkM X k C u bs)(nd:N.Nodup):XOkM (zAO X N scope s H fp) k C u bs:=⟨o.x.comp nd,o.d⟩
section
variable {X:Cx}{k:Nat}{C:Gm}{u:Dm}{bs:List Str}
theorem zKO {e:Expr}{f:Mst->Option MR}(h:∀ s,f s=none):GM X e f:=fun pins s B H Q I zz99=>by
 obtain ⟨U,G,O,r,ms,q,c⟩:=zz99;rw [h] at q;cases q
theorem zR5 {n:Nat}{f:Str}{p pos:Pos}{x:Expr}{xs:List Expr}{g:Mst->Option MA}(o:XOkM X k C u bs)(hg:Gl X f)(hd:(f==("__debug__":Str))=false)(ha:GAM X (x::xs) g)(hst:∀ e∈x::xs,zAe e=true):GM X (.Call (.Name f p) (x::xs) [] pos) (fnM u n f g):=by
 cases q:u[n]? with
 | none=>exact zKO fun s=>by unfold fnM;rw [q]
 | some yF =>
  obtain ⟨y,F⟩:=yF;by_cases e:y=f
  .subst e;have ef:fnM u n y g=zIj F g:=by
    funext s;unfold fnM;rw [q];exact if_pos rfl
   rw [ef];obtain ⟨a,fd,ps,h1,h2,h3,h4⟩:=o.d y F (mem_of_getElem? q);exact zPg h1 o.x.room hg h2 h3 h4 ha hd (zAI (hst x mem_cons_self)) (zDE fun e z=>hst e (mem_cons_of_mem _ z))
  .exact zKO fun s=>by
    unfold fnM;rw [q];exact if_neg e
theorem zMz {b:Expr}{m:Str}{env:Env}{c}(h:zSx b=true):attributeBase b m env c=c:=by
 cases b<;>first | rfl | cases h
theorem zGI {sc:Scope}{N bs:List Str}{a:ME}:∀ {es:List Expr},cMs a sc N bs es=true->∀ e∈es,zAe e=true:=by
 induction a with
 | nil =>
  intro es h;cases es with
  | nil=>intro e z;exact absurd z (by simp)
  | cons x xs=>exact zzf h
 | cons a b _ ih =>
  intro es h;cases es with
  | nil=>intro e z;exact absurd z (by simp)
  | cons x xs =>
   simp only [cMs,and_eq_true] at h;intro e z;rcases mem_cons.mp z with rfl | z
   .exact h.1.1
   .exact ih h.2 e z
 | _=>intro es h;exact zzf h
structure zUG (X:Cx)(C:Gm)(u:Dm)(bs:List Str)(a:ME):Prop where
 e:∀ e,cM a X.env.scope X.N bs e=true->GM X e (evM C u a)
 es:∀ es,cMs a X.env.scope X.N bs es=true->GAM X es (evMs C u a)
 s:∀ it,cSrc a X.env.scope X.N bs it=true->(∀ tg,GIM X tg it (evSrc C u a))/\∀ x,foldedSetIterable it X.env x=pure x
 t:∀ e,cT a X.env.scope X.N bs e=true->GTM X e (evT C u a)
 ts:∀ l,cTs a X.env.scope X.N bs l=true->∀ pos,GWM X (.BoolOp .And l pos) (evAndT C u a)/\GWM X (.BoolOp .Or l pos) (evOrT C u a)
theorem fls {b:Bool}{p:Prop}(h:b=true)(n:b=false):p:=by rw [n] at h;cases h
theorem zCx (o:XOkM X k C u bs)(a:ME):zUG X C u bs a:=by
 induction a generalizing X with
 | pur e =>
  refine ⟨fun x h=>zPf (((zCG o.x e).e _ h).1),fun _ h=>fls h rfl,fun _ h=>fls h rfl,fun x h=>zMM (((zCG o.x e).e _ h).2),fun _ h=>fls h rfl⟩
 | var i =>
  refine ⟨fun x h=>?_,fun _ h=>fls h rfl,fun _ h=>fls h rfl,fun _ h=>fls h rfl,fun _ h=>fls h rfl⟩;replace h:cE (.var i) X.env.scope X.N bs x=true:=h;obtain ⟨_,_,rfl,hq1⟩:=zAH h;replace h:=hq1;simp only [and_eq_true,decide_eq_true_eq] at h;obtain ⟨⟨h2,h3⟩,h4⟩:=h;obtain ⟨n1,n2⟩:=zCJ h4;exact zR3 h2 (zGQ h3) n1 n2
 | call n f es ih =>
  have key:∀ e,cM (.call n f es) X.env.scope X.N bs e=true->GM X e (evM C u (.call n f es))/\GTM X e (asBM (evM C u (.call n f es))):=fun e h=>by
   obtain ⟨z1,z2,z3,_,rfl,hq1⟩:=zAU h;obtain ⟨_,_,rfl,hq2⟩:=zAH hq1;obtain ⟨_,_,rfl,hq3⟩:=zJd hq2;obtain ⟨rfl,hq4⟩:=zAr hq3;replace h:=hq4;simp only [and_eq_true,decide_eq_true_eq] at h;obtain ⟨⟨⟨rfl,h2⟩,h3⟩,h4⟩:=h;exact ⟨zR5 o (zEb h2) (zCJ h3).1 ((ih o).es _ h4) (zGI h4),zPW (zR5 o (zEb h2) (zCJ h3).1 ((ih o).es _ h4) (zGI h4)) fun _=>rfl⟩
  exact ⟨fun e h=>(key e h).1,fun _ h=>fls h rfl,fun _ h=>fls h rfl,fun e h=>(key e h).2,fun _ h=>fls h rfl⟩
 | lst es ih =>
  refine ⟨fun x h=>?_,fun _ h=>fls h rfl,fun _ h=>fls h rfl,fun _ h=>fls h rfl,fun _ h=>fls h rfl⟩;obtain ⟨_,_,rfl,hq1⟩:=zFu h;replace h:=hq1;exact zR4 ((ih o).es _ h)
 | tup es ih =>
  exact ⟨fun _ h=>fls h rfl,fun _ h=>fls h rfl,fun _ h=>fls h rfl,fun _ h=>fls h rfl,fun _ h=>fls h rfl⟩
 | tupd es ih =>
  exact ⟨fun _ h=>fls h rfl,fun _ h=>fls h rfl,fun _ h=>fls h rfl,fun _ h=>fls h rfl,fun _ h=>fls h rfl⟩
 | ix a b iha ihb =>
  refine ⟨fun x h=>?_,fun _ h=>fls h rfl,fun _ h=>fls h rfl,fun _ h=>fls h rfl,fun _ h=>fls h rfl⟩;obtain ⟨_,_,_,rfl,hq1⟩:=zBk h;replace h:=hq1;simp only [and_eq_true] at h;obtain ⟨⟨h0,h1⟩,h2⟩:=h;exact zTp ((iha o).e _ h1) ((ihb o).e _ h2) (zEY h0)
 | bin op a b iha ihb =>
  exact ⟨fun _ h=>fls h rfl,fun _ h=>fls h rfl,fun _ h=>fls h rfl,fun _ h=>fls h rfl,fun _ h=>fls h rfl⟩
 | cat a b iha ihb =>
  exact ⟨fun _ h=>fls h rfl,fun _ h=>fls h rfl,fun _ h=>fls h rfl,fun _ h=>fls h rfl,fun _ h=>fls h rfl⟩
 | cmp op a b iha ihb =>
  exact ⟨fun _ h=>fls h rfl,fun _ h=>fls h rfl,fun _ h=>fls h rfl,fun _ h=>fls h rfl,fun _ h=>fls h rfl⟩
 | pop a iha =>
  exact ⟨fun _ h=>fls h rfl,fun _ h=>fls h rfl,fun _ h=>fls h rfl,fun _ h=>fls h rfl,fun _ h=>fls h rfl⟩
 | comp n ms x src el ihs ihe =>
  refine ⟨fun e h=>?_,fun _ h=>fls h rfl,fun _ h=>fls h rfl,fun _ h=>fls h rfl,fun _ h=>fls h rfl⟩;obtain ⟨v,z1,scope,pos,rfl,hq1⟩:=zBL h;obtain ⟨z2,rfl,hq2⟩:=zAv hq1;obtain ⟨z3,t,z4,a,rfl,hq3⟩:=zDg hq2;obtain ⟨y,py,rfl,hq4⟩:=zAH hq3;obtain ⟨rfl,hq5⟩:=zAr hq4;replace h:=hq5;simp only [and_eq_true,decide_eq_true_eq] at h;obtain ⟨⟨⟨⟨⟨⟨⟨⟨⟨rfl,rfl⟩,rfl⟩,h4⟩,h5⟩,h6⟩,h7⟩,h8⟩,h9⟩,h11⟩:=h;have cx:∀ s H fp,XOkM (zAO X (mask noN ms X.N++[x]) scope s H fp) k C u bs:=fun s H fp=>o.comp h6
  exact zKP o.x.calm (((ihs o).s _ h9).1 _) ((ihs o).s _ h9).2 (zFK h4) (zDi h5) (fun s H fp=>zFD (X:=zAO X (mask noN ms X.N++[x]) scope s H fp) h6 (zF6 (k:=0) rfl) (zCs h7) (.inl h8)) fun s H fp=>(ihe (cx s H fp)).e _ h11
 | rng a iha =>
  refine ⟨fun _ h=>fls h rfl,fun _ h=>fls h rfl,fun x h=>?_,fun _ h=>fls h rfl,fun _ h=>fls h rfl⟩;obtain ⟨z1,z2,z3,_,rfl,hq1⟩:=zAU h;obtain ⟨_,_,rfl,hq2⟩:=zAH hq1;obtain ⟨_,rfl,hq3⟩:=zAv hq2;obtain ⟨rfl,hq4⟩:=zAr hq3;replace h:=hq4;simp only [and_eq_true,decide_eq_true_eq] at h;obtain ⟨⟨⟨rfl,h2⟩,h3⟩,h4⟩:=h;obtain ⟨g1,g2⟩:=zA8 o.x h2;exact ⟨fun tg=>zIb g1 g2 ((iha o).e _ h4) (zAI h3),fun _=>rfl⟩
 | it a iha =>
  refine ⟨fun _ h=>fls h rfl,fun _ h=>fls h rfl,fun x h=>?_,fun _ h=>fls h rfl,fun _ h=>fls h rfl⟩;replace h:(zGh x&&cM a X.env.scope X.N bs x)=true:=h;simp only [and_eq_true] at h;exact ⟨fun tg=>zPh ((iha o).e _ h.2),zDJ h.1⟩
 | not a iha =>
  refine ⟨fun _ h=>fls h rfl,fun _ h=>fls h rfl,fun _ h=>fls h rfl,fun e h=>?_,fun _ h=>fls h rfl⟩;obtain ⟨z1,_,_,rfl,hq1⟩:=zCI h;obtain ⟨rfl,hq2⟩:=zCp hq1;replace h:=hq2;exact zPX ((iha o).t _ h)
 | andl es ih =>
  exact ⟨fun _ h=>fls h rfl,fun _ h=>fls h rfl,fun _ h=>fls h rfl,fun _ h=>fls h rfl,fun _ h=>fls h rfl⟩
 | orl es ih =>
  refine ⟨fun _ h=>fls h rfl,fun _ h=>fls h rfl,fun _ h=>fls h rfl,fun e h=>?_,fun _ h=>fls h rfl⟩;obtain ⟨z1,_,_,rfl,hq1⟩:=zCq h;obtain ⟨rfl,hq2⟩:=zCp hq1;replace h:=hq2;exact zRs (((ih o).ts _ h _).2)
 | nil =>
  refine ⟨fun _ h=>fls h rfl,fun es h=>?_,fun _ h=>fls h rfl,fun _ h=>fls h rfl,fun _ h=>fls h rfl⟩;cases es with
  | nil=>exact zPq
  | cons x xs=>exact (zzf h)
 | cons e es ihe ihs =>
  refine ⟨fun _ h=>fls h rfl,fun l h=>?_,fun _ h=>fls h rfl,fun _ h=>fls h rfl,fun l h pos=>?_⟩
  .cases l with
   | nil=>exact (zzf h)
   | cons x xs =>
    replace h:(zAe x&&cM e X.env.scope X.N bs x&&cMs es X.env.scope X.N bs xs)=true:=h;simp only [and_eq_true] at h;exact zMV ((ihe o).e _ h.1.2) ((ihs o).es _ h.2) (zAI h.1.1)
  .simp only [cTs] at h;split at h
   .split at h
    .exact ⟨zML ((ihe o).t _ h),zPU ((ihe o).t _ h)⟩
    .cases h
   .rename_i hn;split at h
    .rw [and_eq_true] at h;have q:=(ihs o).ts _ h.2 pos;have ea:evAndT C u (.cons e es)=andB (evT C u e) (evAndT C u es):=by
      rw [evAndT];exact hn
     have eo:evOrT C u (.cons e es)=orB (evT C u e) (evOrT C u es):=by
      rw [evOrT];exact hn
     rw [ea,eo];exact ⟨zPV ((ihe o).t _ h.1) q.1,zRq ((ihe o).t _ h.1) q.2⟩
    .cases h
end
section
variable {X:Cx}{k:Nat}{C:Gm}{u:Dm}{bs:List Str}
theorem zOR (o:XOkM X k C u bs)(fnl:∀ x,X.fn x=true)(a:MT):(∀ st,cS' X.env.scope X.N bs a st=true->GSM X st (evS' C u a))/\∀ sts,cSs' X.env.scope X.N bs a sts=true->GSsM X sts (evSs' C u a):=by
 have nd:=o.x.nd
 induction a with
 | nil =>
  refine ⟨fun _ h=>fls h rfl,fun l h=>?_⟩;cases l with
  | nil=>exact zMN
  | cons x xs=>exact (zzf h)
 | cons a b iha ihb =>
  refine ⟨fun _ h=>fls h rfl,fun l h=>?_⟩;cases l with
  | nil=>exact (zzf h)
  | cons x xs =>
   replace h:(cS' X.env.scope X.N bs a x&&cSs' X.env.scope X.N bs b xs)=true:=h;simp only [and_eq_true] at h;exact zKI (iha.1 _ h.1) (ihb.2 _ h.2)
 | set i e =>
  refine ⟨fun st h=>?_,fun _ h=>fls h rfl⟩;obtain ⟨z1,_,_,rfl,hq1⟩:=zB0 h;obtain ⟨z2,rfl,hq2⟩:=zAv hq1;obtain ⟨_,_,rfl,hq3⟩:=zAH hq2;replace h:=hq3;simp only [and_eq_true] at h;obtain ⟨⟨h2,h3⟩,h4⟩:=h;obtain ⟨v1,v2,_⟩:=zBi h2;exact zKJ nd v1 v2 ((zCx o e).e _ h4) (zD0 h3) (.inl (fnl _))
 | setC i e =>
  refine ⟨fun st h=>?_,fun _ h=>fls h rfl⟩;obtain ⟨z1,_,_,rfl,hq1⟩:=zB0 h;obtain ⟨z2,rfl,hq2⟩:=zAv hq1;obtain ⟨_,_,rfl,hq3⟩:=zAH hq2;replace h:=hq3;simp only [and_eq_true] at h;obtain ⟨⟨h2,h3⟩,h4⟩:=h;obtain ⟨w1,w2,_⟩:=zBi h3;cases e with
  | comp n ms x src el =>
   obtain ⟨v,z1,scope,pos,rfl,hr1⟩:=zBL h4;obtain ⟨z2,rfl,hr2⟩:=zAv hr1;obtain ⟨z3,t,z4,a,rfl,hr3⟩:=zDg hr2;obtain ⟨y,py,rfl,hr4⟩:=zAH hr3;obtain ⟨rfl,hr5⟩:=zAr hr4;replace h4:=hr5
   .simp only [and_eq_true,decide_eq_true_eq] at h4;obtain ⟨⟨⟨⟨⟨⟨⟨⟨⟨rfl,rfl⟩,rfl⟩,h4⟩,h5⟩,h6⟩,h7⟩,h8⟩,h9⟩,h11⟩:=h4;have cx:∀ s H fp,XOkM (zAO X (mask noN ms X.N++[x]) scope s H fp) k C u bs:=fun s H fp=>o.comp h6
    exact zMP o.x.calm (((zCx o src).s _ h9).1 _) ((zCx o src).s _ h9).2 (zFK h4) (zDi h5) (fun s H fp=>zFD (X:=zAO X (mask noN ms X.N++[x]) scope s H fp) h6 (zF6 (k:=0) rfl) (zCs h7) (.inl h8)) (fun s H fp=>(zCx (cx s H fp) el).e _ h11) nd w1 w2 (.inl (fnl _))
  | _=>cases h2
 | app t e =>
  refine ⟨fun st h=>?_,fun _ h=>fls h rfl⟩;obtain ⟨z1,_,rfl,hq1⟩:=zDI h;obtain ⟨z2,z3,z4,_,rfl,hq2⟩:=zAU hq1;obtain ⟨_,_,_,rfl,hq3⟩:=zBl hq2;obtain ⟨_,rfl,hq4⟩:=zAv hq3;obtain ⟨rfl,hq5⟩:=zAr hq4;replace h:=hq5;simp only [and_eq_true,decide_eq_true_eq] at h;obtain ⟨⟨⟨⟨⟨rfl,h2⟩,h3⟩,h4⟩,h5⟩,h6⟩:=h;exact zPc ((zCx o t).e _ h5) ((zCx o e).e _ h6) (zAI h4) (zMz h2) h3
 | ext t e =>
  exact ⟨fun _ h=>fls h rfl,fun _ h=>fls h rfl⟩
 | put t kk e =>
  exact ⟨fun _ h=>fls h rfl,fun _ h=>fls h rfl⟩
 | ife c a b iha ihb =>
  refine ⟨fun st h=>?_,fun _ h=>fls h rfl⟩;obtain ⟨_,_,_,_,rfl,hq1⟩:=zJa h;replace h:=hq1;simp only [and_eq_true] at h;obtain ⟨⟨h1,h2⟩,h3⟩:=h;exact zRx ((zCx o c).t _ h1) (iha.2 _ h2) (ihb.2 _ h3)
 | for1 i it b ihb =>
  refine ⟨fun st h=>?_,fun _ h=>fls h rfl⟩;obtain ⟨z1,_,_,z2,_,rfl,hq1⟩:=zHb h;obtain ⟨_,_,rfl,hq2⟩:=zAH hq1;obtain ⟨rfl,hq3⟩:=zAr hq2;replace h:=hq3;simp only [and_eq_true] at h;obtain ⟨⟨h2,h3⟩,h4⟩:=h;obtain ⟨v1,v2,_⟩:=zBi h2;obtain ⟨s1,s2⟩:=(zCx o it).s _ h3;exact zPb o.x.own o.x.calm (s1 _) (zFD nd v1 v2 (.inl (fnl _))) (ihb.2 _ h4) s2
 | for2 i j it b ihb =>
  exact ⟨fun _ h=>fls h rfl,fun _ h=>fls h rfl⟩
 | ret e =>
  refine ⟨fun st h=>?_,fun _ h=>fls h rfl⟩;obtain ⟨z1,_,rfl,hq1⟩:=zCo h;obtain ⟨_,rfl,hq2⟩:=zDv hq1;replace h:=hq2;exact zPa ((zCx o e).e _ h)
 | retN =>
  exact ⟨fun _ h=>fls h rfl,fun _ h=>fls h rfl⟩
 | drop e =>
  exact ⟨fun _ h=>fls h rfl,fun _ h=>fls h rfl⟩
 | pass =>
  exact ⟨fun _ h=>fls h rfl,fun _ h=>fls h rfl⟩
 | brk =>
  exact ⟨fun _ h=>fls h rfl,fun _ h=>fls h rfl⟩
 | cnt =>
  exact ⟨fun _ h=>fls h rfl,fun _ h=>fls h rfl⟩
 | never=>exact ⟨fun st h=>zKK,fun _ h=>fls h rfl⟩
end
section
variable {P:Program}{w:World}{K:W.Frag}{mg:Str->Option Value}{base:Heap}{k:Nat}{C:Gm}{u:Dm}{bs:List Str}
theorem zKz {x qual:Str}{st:Stmt}{f:Addr}{fd:FuncData}{N ps:List Str}{b:MT}(F:Fun K x qual st f fd)(sc:zAC N ps (zAA st))(ck:cSs' (zAA st) N bs b (zAB st)=true)(g:GOk P w K mg base k C bs)(d:DmOk P w K mg base k u) :
  FnOk P w K mg base CX0 (k+1) f fd ps (spM K (zCR ps.length N.length (evSs' C u b))) :=
 zPu F sc fun cdv A outer s H E hr =>
  (zOR (X:=(cxOf CX0 P w K mg base N qual (zAA st) f cdv A outer s H E).nox) ⟨⟨g,hr,rfl,sc.nd,PassesOwn.never⟩,d⟩ (fun _=>rfl) b).2 _ ck
def Dm.add (u:Dm)(x:Str)(F:MF):Dm:=u++[(x,F)]
theorem DmOk.one {j:Nat}{x:Str}{F:MF}{f:Addr}{fd:FuncData}{ps:List Str}(d:DmOk P w K mg base k u)(h:k<=j)(hf:FnOk P w K mg base CX0 j f fd ps (spM K F))(m:mg x=some (.ref f))(kp:W.keepIn K (.ref f)=true)(bi:zCD K fd ps []):DmOk P w K mg base j (u.add x F):=fun y G z=>by
 rcases mem_append.mp z with z | z
 .obtain ⟨f',fd',ps',h1,h2⟩:=d y G z;exact ⟨f',fd',ps',h1.mono h,h2⟩
 .have e:(y,G)=(x,F):=by simpa using z
  cases e;exact ⟨f,fd,ps,hf,m,kp,bi⟩
theorem DmOk.add {x:Str}{st:Stmt}{f:Addr}{fd:FuncData}{N ps:List Str}{b:MT}(d:DmOk P w K mg base k u)(g:GOk P w K mg base k C bs)(F:Fun K x x st f fd)(sc:zAC N ps (zAA st))(ck:cSs' (zAA st) N bs b (zAB st)=true)(m:mg x=some (.ref f))(bi:zCD K fd ps []) :
  DmOk P w K mg base (k+1) (u.add x (zCR ps.length N.length (evSs' C u b))):=d.one (Nat.le_succ k) (zKz F sc ck g d) m F.kp bi
theorem DmOk.lift1 {x:Str}{F:List D->Option R}(d:DmOk P w K mg base k u)(g:GOk P w K mg base k C bs)(m:(x,F)∈C.fns):DmOk P w K mg base k (u.add x (zCK F)):=by
 obtain ⟨f,fd,ps,q1,q2,q3,q4⟩:=g.fn x F m;exact d.one (le_refl _) (DL.FnOk.lift q1) q2 q3 q4
theorem GOk.mono {j:Nat}(g:GOk P w K mg base k C bs)(h:k<=j):GOk P w K mg base j C bs :=
 ⟨fun x F m=>let ⟨f,fd,ps,h1,h2⟩:=g.fn x F m;⟨f,fd,ps,h1.mono h,h2⟩,g.cs,g.bt,trivial,trivial,trivial,fun j L F e=>(g.lm j L F e).mono h⟩
end
theorem zEE {cs:List (Str×Addr)}:∀ (names:List (Str×NameKind)) (acc:List (Str×Addr)),(∀ p∈names,p.2=.free->∃ c,cs.lookup p.1=some c) ->
  ∃ cl,clos names cs acc=some cl/\cl.map (·.1)=((names.filter fun p=>p.2==.free).map (·.1)).reverse++acc.map (·.1)/\∀ p∈cl,p∈acc\/cs.lookup p.1=some p.2
 | [],acc,_=>⟨acc,rfl,by simp,fun p hp=>.inl hp⟩
 | (x,k)::names,acc,h=>by
  unfold clos;by_cases e:(k==NameKind.free)=true
  .obtain ⟨c,ec⟩:=h (x,k) mem_cons_self (eq_of_beq e);obtain ⟨cl,h1,h2,h3⟩:=zEE names ((x,c)::acc) fun p hp=>h p (mem_cons_of_mem _ hp)
   dsimp only at ec;rw [if_pos e,ec];refine ⟨cl,h1,?_,fun p hp=>?_⟩
   .rw [h2,filter_cons];simp [e]
   .rcases h3 p hp with z | z
    .rcases mem_cons.mp z with z | z
     .right;rw [z];exact ec
     .exact .inl z
    .exact .inr z
  .obtain ⟨cl,h1,h2,h3⟩:=zEE names acc fun p hp=>h p (mem_cons_of_mem _ hp)
   rw [if_neg e];refine ⟨cl,h1,?_,h3⟩;rw [h2,filter_cons];simp [e]
theorem zFc {cs:List (Str×Addr)}(inj:∀ x y c,cs.lookup x=some c->cs.lookup y=some c->x=y):∀ {cl:List (Str×Addr)},(∀ p∈cl,cs.lookup p.1=some p.2)->(cl.map (·.1)).Nodup->(cl.map (·.2)).Nodup
 | [],_,_=>by simp
 | p::cl,h,nd=>by
  rw [map_cons,nodup_cons] at nd ⊢;refine ⟨fun z=>?_,zFc inj (fun q hq=>h q (mem_cons_of_mem _ hq)) nd.2⟩;obtain ⟨q,hq,e⟩:=mem_map.mp z;have h1:=h p mem_cons_self;have h2:=h q (mem_cons_of_mem _ hq);rw [e] at h2;exact nd.1 (mem_map.mpr ⟨q,hq,inj _ _ _ h2 h1⟩)
def capD:List Nat->List W->Option (List D)
 | [],_=>some []
 | i::ix,ws=>match ws[i]? with
  | some (.dat d)=>(capD ix ws).bind fun ds=>some (d::ds)
  | _=>none
def lamM (Fg:MF)(j:Nat)(L:LamI)(ix:List Nat)(n:Nat):MF:=fun ws O=>if ws.length=n then (match ws with
 | w0::_=>(capD ix ws).bind fun ds=>if noLs ds=true then Fg [w0,.dat (.lam j L ds)] O else none
 | []=>none) else none
theorem zN8 {K:W.Frag}{H:Hp}{U:List Addr}{ws:List W}{vs:List V}(dw:DenWL K H U ws vs):∀ {ix:List Nat} {ds:List D},capD ix ws=some ds->∃ us,DenL K (fzH H) ds us/\us.length=ix.length/\∀ (k i:Nat),ix[k]?=some i->us[k]?=vs[i]?
 | [],ds,e=>by
  cases e;exact ⟨[],.nil,rfl,fun k i z=>by simp at z⟩
 | i::ix,ds,e=>by
  unfold capD at e;split at e
  .rename_i d q;obtain ⟨ds',e1,e⟩:=bind_some e;cases e;obtain ⟨us,h1,h2,h3⟩:=zN8 dw e1;obtain ⟨v,g1,g2⟩:=dw.get q;rw [DenW] at g2;refine ⟨v::us,.cons g2 h1,by rw [length_cons,length_cons,h2],fun k i' z=>?_⟩;cases k with
   | zero =>
    have:i=i':=by simpa using z
    subst this;rw [g1];rfl
   | succ k=>exact h3 k i' (by simpa using z)
  .cases e
theorem zFs {U M:Type}{R:U->M->Prop}:∀ {l:List U} {m:List M},l.length=m.length->(∀ (k:Nat) a b,l[k]?=some a->m[k]?=some b->R a b)->Paired R l m
 | [],[],_,_=>.nil
 | [],_::_,e,_=>by simp at e
 | _::_,[],e,_=>by simp at e
 | a::l,b::m,e,h=>.cons (h 0 a b (by simp) (by simp)) (zFs (by simpa using e) fun k a' b' q1 q2=>h (k+1) a' b' (by simpa using q1) (by simpa using q2))
def zE3 (H:Hp)(h:Heap)(S:List Addr):Hp:=fun b=>if b∈S then (h.get? b).map (fun o=>.frz o anyU) else H b
section
variable {X:Cx}{pins:List (Addr×Obj)}{B:St}{H:Hp}{s:Shared}
theorem zMm (I:Inv X pins B H s){S:List Addr}(hS:∀ b∈S,∃ y,X.env.cells.lookup y=some b)(hfn:∀ y,X.fn y=true) :
  Same H (zE3 H s.heap S)/\(∀ b∈S,∃ o v,zE3 H s.heap S b=some (.frz o anyU)/\s.heap.get? b=some o/\o.data=.cell v)/\(∀ b,b∉S->zE3 H s.heap S b=H b)/\(∀ b∈S,X.s0.heap.objs.size<=b)/\Env0 X.prog X.w X.K X.mg X.base X.A X.stack s (zE3 H s.heap S):=by
 have out:∀ {b:Addr},b∉S->zE3 H s.heap S b=H b:=fun z=>if_neg z
 have free:∀ {b:Addr},b∈S->H b=none:=fun {b} z=>let ⟨y,e⟩:=hS b z;I.freeC y b e
 have nS:∀ {b:Addr} {u:HO},H b=some u->b∉S:=fun {b u} e z=>by rw [free z] at e;cases e
 have sm:Same H (zE3 H s.heap S):=fun b u e=>by rw [out (nS e)];exact e
 have inn:∀ b∈S,∃ o v,zE3 H s.heap S b=some (.frz o anyU)/\s.heap.get? b=some o/\o.data=.cell v:=fun b z=>by
  obtain ⟨y,e⟩:=hS b z;obtain ⟨v,o,ho,hd⟩:=I.cell y b e;refine ⟨o,v,?_,ho,hd⟩;unfold zE3;rw [if_pos z,ho]
  rfl
 have big:∀ b∈S,X.s0.heap.objs.size<=b:=fun b z=>let ⟨y,e⟩:=hS b z;I.ok.cab y b (hfn y) e
 have e0:=I.env0;refine ⟨sm,inn,fun b z=>out z,big,⟨e0.frames,e0.mod,fun b o e=>⟨(e0.bs b o e).1,?_⟩,e0.bsz,e0.funs,fun b z=>?_,fun b u e=>?_,e0.bare,e0.tree,fun x hx c P e=>sm _ _ (e0.tabs x hx c P e)⟩⟩
 .have nb:b∉S:=fun z=>absurd (lt_size e) (Nat.not_lt.mpr (le_trans I.ok.bsz (big b z)))
  rw [out nb];exact (e0.bs b o e).2
 .have nb:b∉S:=fun z2=>by
   rcases mem_cons.mp (I.stkSub b z) with q | q
   .obtain ⟨y,e⟩:=hS b z2;exact I.cne y b e q
   .obtain ⟨_,o,ho,_⟩:=I.ok.funs.mem q;exact absurd (lt_size ho) (Nat.not_lt.mpr (big b z2))
  rw [out nb];exact e0.frf b z
 .by_cases z:b∈S
  .obtain ⟨o,v,q1,q2,_⟩:=inn b z;rw [q1] at e;cases e;exact zD5 q2
  .rw [out z] at e;exact (I.hok b u e).stay (fun _ _ _ q=>q) (fun _ q=>sm _ _ q) (fun _ _ q=>sm _ _ q) fun _ _ _ q _=>sm _ _ q
end
theorem zOK {fs:List Addr}{L:Addr}{H H1 H2 H':Hp}{h h1 h':Heap}{S:List Addr}(u1:Un fs [] H H1 h h1)(big:∀ b∈S,h.objs.size<=b)(hL:h.objs.size<=L)(sm:Same H1 H2)(out:∀ b,b∉S->H2 b=H1 b)(u2:Un (L::fs) [] H2 H' h1 h'):Un fs [] H H' h h':=by
 have nS:∀ {b:Addr} {o:Obj},h.get? b=some o->b∉S:=fun {b o} e z=>absurd (lt_size e) (Nat.not_lt.mpr (big b z))
 have nL:∀ {b:Addr} {o:Obj},h.get? b=some o->b≠L:=fun {b o} e z=>absurd (lt_size e) (Nat.not_lt.mpr (by rw [z];exact hL))
 have no:∀ {b:Addr} {o:Obj},h.get? b=some o->H b=none->H2 b=none:=fun {b o} e n=>by rw [out b (nS e)];exact u1.free b o e n (by simp)
 refine ⟨fun b o e n hb hx=>u2.keep b o (u1.keep b o e n hb hx) (no e n) (fun z=>(mem_cons.mp z).elim (nL e) hb) hx,fun b o e n hb hx=>?_,fun b o e n hx=>?_,fun b o e hx=>?_,fun b xs e=>u2.tups b xs (sm _ _ (u1.tups b xs e)),fun b o u e=>u2.frzs b o u (sm _ _ (u1.frzs b o u e)),fun b q e=>u2.tbls b q (sm _ _ (u1.tbls b q e))⟩
 .obtain ⟨sl,e1⟩:=u1.slot b o e n hb hx;obtain ⟨sl2,e2⟩:=u2.slot b _ e1 (no e n) (mem_cons_of_mem _ hb) hx;exact ⟨sl2,e2⟩
 .obtain ⟨o1,e1⟩:=u1.there b o e hx;exact u2.free b o1 e1 (no e n) hx
 .obtain ⟨o1,e1⟩:=u1.there b o e hx;exact u2.there b o1 e1 hx
structure zIC (K:W.Frag)(x:Str)(st:Stmt)(ps:List Str)(g:Str)(L:LamI)(ix:List Nat):Prop where
 body:∃ q1 p0 q2 lp cp rp,zAB st=[.Return (some (.Call (.Name g q1) [.Name p0 q2,.Lambda L.params L.body L.scope lp] [] cp)) rp]/\ps[0]?=some p0/\Vis (zAA st) p0/\okN p0=true
 qual:L.qual=x ++ ".<locals>." ++ "<lambda>"
 lam:x∈zBm
 tab:∃ c P,W.tabIn K x=some (c,P)
 gl:glB (zAA st) g=true
 okg:okN g=true
 dflt:∀ env,defaultsOf L.params env=([],[])
 nd:(frN L).Nodup
 len:ix.length=(frN L).length
 cap:∀ (k:Nat) y,(frN L)[k]?=some y->∃ i,ix[k]?=some i/\ps[i]?=some y/\(zAA st).names.lookup y=some .cell
 free:∀ p∈L.scope.names,p.2=.free->p.1∈frN L
theorem zPM {P:Program}{w:World}{K:W.Frag}{mg:Str->Option Value}{base:Heap}{k j:Nat}{x:Str}{st:Stmt}{f fg:Addr}{fd fdg:FuncData}{ps psg:List Str}{g:Str}{L:LamI}{ix:List Nat}{Fg:MF}(F:Fun K x x st f fd)(sc:zAC ps ps (zAA st))(LD:zIC K x st ps g L ix)(m:mg x=some (.ref f))
  (gg:FnOk P w K mg base CX0 k fg fdg psg (spM K Fg)) (mgg:mg g=some (.ref fg)) (kg:W.keepIn K (.ref fg)=true) (bg:zCD K fdg psg []):FnOk P w K mg base CX0 (k+1) f fd ps (spM K (lamM Fg j L ix ps.length)):=by
 obtain ⟨oc,od,kV,doc,pm,an,cdv,ct,osl,rfl,lk,hcd⟩:=F.ex;have lenS:∀ vs H Q E,spM K (lamM Fg j L ix ps.length) vs H Q E->vs.length=ps.length:=fun vs H Q E h=>by
  obtain ⟨U,O,ws,r,c,d,hF,n⟩:=h;unfold lamM at hF;by_cases q:ws.length=ps.length
  .rw [<- d.length];exact q
  .rw [if_neg q] at hF;cases hF
 refine ⟨lenS,fun A outer s H args us vs Q E hr e0 hb r hsp=>?_⟩;have hl:=lenS _ _ _ _ hsp;have KX:K.In s.heap:=e0.mod.kin.keeps fun b o e=>(e0.bs b o e).1
 have lim:s.heap.NoLimit:=e0.mod.nolimit.keeps fun b o e=>(e0.bs b o e).1
 have hkind:∀ y∈ps.zip us,(zAA st).names.lookup y.1=some .local\/((zAA st).names.lookup y.1=some .cell/\((cellsFrom (s.heap.objs.size+1) (zAA st).names []).lookup y.1).isSome=true):=fun zz100 hy=>by
  obtain ⟨n,v⟩:=zz100;rcases sc.par n (of_mem_zip hy).1 with q | q
  .exact .inl q
  .exact .inr ⟨q,W.cellsFrom_some _ _ _ (.inl q)⟩
 refine codeAny_call_function hr.depth (KX _ _ lk) rfl sc.co sc.gen rfl (W.codeRec_of KX hcd) (hb _ _ _ _ ?_);refine wpAny_newFunctionEnv_cells sc.kind hkind fun env he s1 xx=>?_
 subst he;refine ⟨lim.keeps xx.toInCall.keep,codeAny_func ?_⟩;have I:Inv (cxOf CX0 P w K mg base ps x (zAA st) f cdv A outer s H E) [] (zBw ps vs) H s1:=zF2 sc hr.hd (by have:=hr.dp;show A.depth+1+100 < _;omega) e0 hl r xx;have hr2:Room k (cxOf CX0 P w K mg base ps x (zAA st) f cdv A outer s H E).A:=hr.deeper _;obtain ⟨X,eX⟩:∃ X:Cx,X=cxOf CX0 P w K mg base ps x (zAA st) f cdv A outer s H E:=⟨_,rfl⟩;obtain ⟨q1,p0,q2,lp,cp,rp,eb,hp0,v0,ok0⟩:=LD.body;obtain ⟨U,O,ws,rr,cc,dw,hF,fin⟩:=hsp;obtain ⟨w0,ws',ds,ews,ecap,nls,hFg⟩:∃ w0 ws' ds,ws=w0::ws'/\capD ix ws=some ds/\noLs ds=true/\Fg [w0,.dat (.lam j L ds)] O=some rr:=by
  unfold lamM at hF;by_cases q:ws.length=ps.length
  .rw [if_pos q] at hF;cases ws with
   | nil=>cases hF
   | cons w0 ws' =>
    obtain ⟨ds,e1,hF⟩:=bind_some hF;by_cases n:noLs ds=true
    .rw [if_pos n] at hF;exact ⟨w0,ws',ds,rfl,e1,n,hF⟩
    .rw [if_neg n] at hF;cases hF
  .rw [if_neg q] at hF;cases hF
 obtain ⟨cvs,dcap,lcap,gcap⟩:=zN8 dw ecap;obtain ⟨c0,P0,etab⟩:=LD.tab;have ecode:cdv=.ref c0:=W.law_code e0.mod.kin e0.mod.glob etab m (e0.mod.kin _ _ lk) rfl;have key:wpAny (model P w) X.A (eval (.Call (.Name g q1) [.Name p0 q2,.Lambda L.params L.body L.scope lp] [] cp) X.env) (fun u s'=>CE outer P w H s Q u s') X.xe s1:=by
  subst eX;refine wpAny_Call_Name_kw (zFB I (zEb LD.gl) mgg ?_ (zCJ LD.okg).1);refine W.callWith_K (h₀:=base) I.ok.mod.kin kg ?_ rfl rfl;have hv0:∃ v,vs[0]?=some v/\DenW K H U w0 v:=dw.get (by rw [ews];rfl);obtain ⟨vv,ev0,dv0⟩:=hv0;have st0:(zBw ps vs)[0]?=some (some vv):=by
   unfold L2.zBw;rw [getElem?_append_left (by rw [length_map];exact (zzg ev0).1),getElem?_map,ev0]
   rfl
  show wpAny _ _ (spliced ((false,eval (.Name p0 q2) _)::backTo cp (starEach [.Lambda L.params L.body L.scope lp] _))) _ _ s1;refine Calls.spliced_cons (thn (zDu hp0 v0 (zCJ ok0).1 (zCJ ok0).2 [] s1 _ H (fun y H1=>y=vv/\H1=H) I ⟨vv,st0,rfl,rfl⟩) fun u0 s2 zz101=>?_);obtain ⟨y,H1,I1,r1,ey,eH⟩:=zz101;subst ey eH;have kc:∀ {y:Str},y∈frN L->(zAA st).names.lookup y=some .cell:=fun {y} my=>by
   obtain ⟨kk,hk,e⟩:=List.getElem_of_mem my;obtain ⟨_,_,_,q⟩:=LD.cap kk y (by rw [getElem?_eq_getElem hk,e]);exact q
  obtain ⟨cl,hcl,hcn,hcm⟩:=zEE (cs:=(cxOf CX0 P w K mg base ps x (zAA st) f cdv A outer s H1 E).env.cells) L.scope.names [] fun p hp hf=>I1.ok.has p.1 (.inl (kc (LD.free p hp hf)))
  have hcn':cl.map (·.1)=frN L:=by rw [hcn];unfold frN;simp
  have hcm':∀ p∈cl,(cxOf CX0 P w K mg base ps x (zAA st) f cdv A outer s H1 E).env.cells.lookup p.1=some p.2:=fun p hp=>(hcm p hp).elim (fun z=>absurd z (by simp)) id
  have hcd2:(cl.map (·.2)).Nodup:=zFc I1.ok.inj hcm' (by rw [hcn'];exact LD.nd);show wpAny _ _ (spliced ((false,eval (.Lambda L.params L.body L.scope lp) _)::backTo cp (starEach [] _))) _ _ s2;refine Calls.spliced_cons (zMB I1 (LD.dflt _) hcl ecode (e0.mod.codes x LD.lam c0 P0 etab) (I1.tabs x LD.lam c0 P0 etab) fun f' c' ctv pm' oc' u1 H2 s3 sm nf hf hc' co I2=>?_);refine Calls.spliced_nil ⟨I2.kIn,?_⟩;have hS:∀ b∈cl.map (·.2),∃ y,(cxOf CX0 P w K mg base ps x (zAA st) f cdv A outer s H1 E).env.cells.lookup y=some b:=fun b z=>by
   obtain ⟨p,hp,rfl⟩:=mem_map.mp z;exact ⟨p.1,hcm' p hp⟩
  obtain ⟨sm2,inn,out,big,e2⟩:=zMm I2 hS fun _=>rfl
  obtain ⟨H3,eH3⟩:∃ H3:Hp,H3=zE3 H2 s3.heap (cl.map (·.2)):=⟨_,rfl⟩;rw [<- eH3] at sm2 inn out e2;have sm3:Same H1 H3:=sm.trans sm2;have cells:zBJ H3 cl cvs:=by
   have lc:cl.length=cvs.length:=by
    have:=congrArg List.length hcn';rw [length_map] at this;rw [lcap,LD.len,this]
   refine zFs lc fun kk p v' g1 g2=>?_
   have gy:(frN L)[kk]?=some p.1:=by rw [<- hcn',getElem?_map,g1];rfl
   obtain ⟨i,ei,epi,eki⟩:=LD.cap kk p.1 gy;rw [gcap kk i ei] at g2;obtain ⟨mm,hn,hloc⟩:=I2.loc;have st2:(zBw ps vs)[i]?=some (some v'):=by
    unfold L2.zBw;rw [getElem?_append_left (by rw [length_map];exact (zzg g2).1),getElem?_map,g2]
    rfl
   obtain ⟨uu,ru,lo⟩:=hloc i p.1 v' epi st2 (.inr (.inl eki));obtain ⟨o,vv',k1,k2,k3⟩:=inn p.2 (mem_map.mpr ⟨p,mem_of_getElem? g1,rfl⟩);rcases lo with ⟨q,_⟩ | ⟨_,c2,e1,o2,ho2,hd2⟩
   .have q':(zAA st).names.lookup p.1=some .local:=q;rw [eki] at q';cases q'
   .rw [hcm' p (mem_of_getElem? g1)] at e1;cases e1;rw [k2] at ho2;cases ho2;exact ⟨o,uu,k1,hd2,ru⟩
  have la:zFX H3 L f' cvs:=⟨cl,pm',c',ctv,oc',u1,by rw [LD.qual];exact sm2 _ _ hf,sm2 _ _ hc',by rw [LD.qual];exact co,hcn',hcd2,cells⟩;have dl:DenW K H3 U (.dat (.lam j L ds)) (.ref f'):=by
   rw [DenW];refine Den.fz (by rw [noL];exact nls) ?_;rw [Den];exact ⟨f',cvs,rfl,la,dcap.mono (zCA.trans sm3)⟩
  have ru0:Vals [y,.ref f'] [u0,.ref f']:=.cons r1 (.cons rfl .nil);have dwl:DenWL K H3 U [w0,.dat (.lam j L ds)] [y,.ref f']:=by
   rw [DenWL];refine ⟨_,_,rfl,dv0.keep (zBW sm3),?_⟩;rw [DenWL];exact ⟨_,_,rfl,dl,by rw [DenWL]⟩
  have sp':spM K Fg [y,.ref f'] H3 Q E:=⟨U,O,_,rr,cc.same sm3,dwl,hFg,fun v H' M k2 c2 d2=>fin v H' M ((zBW sm3).trans k2) c2 d2⟩;have hl2:([u0,.ref f']:List Value).length=psg.length:=by rw [<- ru0.length];exact gg.len _ _ _ _ sp'
  have bt:=bg s3 [u0,.ref f'] I2.kIn (by simpa using hl2);refine wpAny_call (codeAny_mono (gg.run _ _ s3 H3 _ _ _ Q E hr2 e2 bt (by simpa using ru0) sp') fun r' s' hq=>?_);cases r' with
  | error e=>exact hq.elim
  | ok fl =>
   cases fl with
   | ret u =>
    obtain ⟨v,H',os,bare,un,hok',rv,q⟩:=hq;exact ⟨v,H',os.trans I2.os,bare,zOK I2.base big (le_refl _) sm2 out un,hok',rv,q⟩
   | next=>exact False.elim hq
   | brk=>exact False.elim hq
   | cont=>exact False.elim hq
 have hex:wpAny (model P w) X.A (execs (zAB st) X.env) (fun fl s'=>∃ u,fl=.ret u/\CE outer P w H s Q u s') X.xe s1:=by
  rw [eb];refine wpAny_execs_cons (wpAny_Return_some (thn key fun u s' h=>?_));exact ⟨u,rfl,h⟩
 subst eX;refine wpAny_mono hex (fun fl s' zz102=>?_) fun e s' hs=>hs
 obtain ⟨u,e,h⟩:=zz102;subst e;exact h
def zRf (x:Str)(st:Stmt):LamI:=match zAB st with
 | [.Return (some (.Call _ [_,.Lambda a b c _] _ _)) _]=>⟨x ++ ".<locals>." ++ "<lambda>",a,b,c⟩
 | _=>⟨x,zCQ st,.Name x ⟨0,0,0,0⟩,zAA st⟩
def lamB (x:Str)(ys:List Str)(L:LamI):Bool:=(L.scope.kind==.function)&&!L.scope.isCoroutine&&!L.scope.isGenerator&&decide (x::ys).Nodup&&(L.scope.names.lookup x==some .local)&&ys.all (fun y=>L.scope.names.lookup y==some .free)&&L.scope.names.all (fun p=>!(p.2==.free)||ys.contains p.1)&&L.scope.names.all (fun p=>!(p.2==.cell))&&decide (frN L=ys)
theorem zHk {x:Str}{ys:List Str}{L:LamI}(h:lamB x ys L=true)(hb:∀ cl pm c ctv u,bindArgs (W.kla_fn "<lambda>" L.qual L.params L.body L.scope cl pm c ctv) ⟨[u],[]⟩=pure [(x,u)]):zG9 x ys L/\frN L=ys:=by
 unfold lamB at h;simp only [and_eq_true,Bool.not_eq_true',decide_eq_true_eq,all_eq_true,Bool.or_eq_true,beq_iff_eq,List.contains_iff_mem,beq_eq_false_iff_ne] at h;obtain ⟨⟨⟨⟨⟨⟨⟨⟨h1,h2⟩,h3⟩,h4⟩,h5⟩,h6⟩,h7⟩,h8⟩,h9⟩:=h;refine ⟨⟨h1,h2,h3,h4,h5,h6,fun y e=>?_,h8,hb⟩,h9⟩;rcases h7 _ (PySem.mem_of_lookup e) with z | z
 .exact absurd rfl z
 .exact z
theorem zHp (L:LamI):∀ p∈L.scope.names,p.2=.free->p.1∈frN L:=fun p hp hf=>by
 unfold frN;rw [List.mem_reverse];exact mem_map.mpr ⟨p,mem_filter.mpr ⟨hp,by rw [hf];rfl⟩,rfl⟩
def capB (sc:Scope)(ps ys:List Str)(ix:List Nat):Bool:=decide (ix.length=ys.length)&&(List.range ys.length).all fun k=>match ys[k]?,ix[k]? with
 | some y,some i=>decide (ps[i]?=some y)&&(sc.names.lookup y==some .cell)
 | _,_=>false
theorem zN9 {sc:Scope}{ps ys:List Str}{ix:List Nat}(h:capB sc ps ys ix=true):ix.length=ys.length/\∀ (k:Nat) y,ys[k]?=some y->∃ i,ix[k]?=some i/\ps[i]?=some y/\sc.names.lookup y=some .cell:=by
 unfold capB at h;rw [and_eq_true,decide_eq_true_eq,all_eq_true] at h;refine ⟨h.1,fun k y e=>?_⟩;have hk:k < ys.length:=(zzg e).1;have z:=h.2 k (mem_range.mpr hk);have hi:k < ix.length:=by rw [h.1];exact hk
 have ei:ix[k]?=some ix[k]:=getElem?_eq_getElem hi;rw [e,ei] at z;dsimp only at z;rw [and_eq_true,decide_eq_true_eq,beq_iff_eq] at z;exact ⟨_,ei,z.1,z.2⟩
section
variable {P:Program}{w:World}{K:W.Frag}{mg:Str->Option Value}{base:Heap}{k:Nat}{u:Dm}
theorem DmOk.addF {x:Str}{st:Stmt}{f:Addr}{fd:FuncData}{ps:List Str}{g:Str}{L:LamI}{ix:List Nat}{j:Nat}{Fg:MF}(d:DmOk P w K mg base k u)(F:Fun K x x st f fd)(sc:zAC ps ps (zAA st))(LD:zIC K x st ps g L ix)(m:mg x=some (.ref f))(bi:zCD K fd ps [])(mem:(g,Fg)∈u) :
  DmOk P w K mg base (k+1) (u.add x (lamM Fg j L ix ps.length)):=fun y G h=>by
 rcases mem_append.mp h with h | h
 .obtain ⟨f',fd',ps',h1,h2⟩:=d y G h;exact ⟨f',fd',ps',h1.mono (Nat.le_succ k),h2⟩
 .have e:(y,G)=(x,lamM Fg j L ix ps.length):=by simpa using h
  cases e;obtain ⟨fg,fdg,psg,g1,g2,g3,g4⟩:=d g Fg mem;exact ⟨f,fd,ps,zPM F sc LD m g1 g2 g3 g4,m,F.kp,bi⟩
end
theorem tabs_of {K:W.Frag}{tl:List (Str×Addr×Addr)}(h1:W.tabIn K "moved"=tl.lookup ("moved":Str))(h2:W.tabIn K "scaled"=tl.lookup ("scaled":Str))(h3:W.tabIn K "quartered"=tl.lookup ("quartered":Str))(h4:W.tabIn K "mirrored"=tl.lookup ("mirrored":Str)):∀ x∈zBm,W.tabIn K x=tl.lookup x:=by
 intro x hx;simp only [zBm,mem_cons,not_mem_nil,or_false] at hx;rcases hx with rfl | rfl | rfl | rfl
 .exact h1
 .exact h2
 .exact h3
 .exact h4
theorem zNl {n:Nat}{G:Dst->Option R}{ds:List D}{Q:R->Prop}(h1:ds.length=n+1)(h2:noFs ds=true)(h:EvP (G (ds.map fun d=>some (d,false))) Q):EvP (lamD n G ds) Q:=by
 obtain ⟨r,e,q⟩:=h;exact ⟨r,by unfold lamD;rw [if_pos ⟨h1,h2⟩];exact e,q⟩
theorem zQA {C:Gm}{u:Dm}{e:E}:evM C u (.pur e)=zL7 (evE C e):=rfl
theorem zP9 {C:Gm}{u:Dm}{i:Nat}:evM C u (.var i)=varM i:=rfl
theorem zMi {C:Gm}{u:Dm}{n:Nat}{f:Str}{es:ME}:evM C u (.call n f es)=fnM u n f (evMs C u es):=rfl
theorem zMg {C:Gm}{u:Dm} :evMs C u .nil=nilM:=rfl
theorem zKg {C:Gm}{u:Dm}{e:ME}{es:ME}:evMs C u (.cons e es)=zMs (evM C u e) (evMs C u es):=rfl
theorem zQB {C:Gm}{u:Dm}{es:ME}:evM C u (.lst es)=lstM (evMs C u es):=rfl
theorem zSY {C:Gm}{u:Dm}{a:ME}{b:ME}:evM C u (.ix a b)=twoM (evM C u a) (evM C u b) ixW:=rfl
theorem zP3 {C:Gm}{u:Dm}{e:E}:evT C u (.pur e)=zL8 (asB (evE C e)):=rfl
theorem zKb {C:Gm}{u:Dm} :evSs' C u .nil=(fun s=>some (.nx s)):=rfl
theorem zCY {C:Gm}{u:Dm}{a:MT}{b:MT}:evSs' C u (.cons a b)=seqM (evS' C u a) (evSs' C u b):=rfl
theorem zMb {C:Gm}{u:Dm}{i:Nat}{e:ME}:evS' C u (.set i e)=setM i (evM C u e):=rfl
theorem zKe {C:Gm}{u:Dm}{i:Nat}{e:ME}:evS' C u (.setC i e)=setM i (evM C u e):=rfl
theorem zMc {C:Gm}{u:Dm}{e:ME}:evS' C u (.ret e)=retM (evM C u e):=rfl
theorem zHu {C:Gm}{u:Dm}{c:ME}{a:MT}{b:MT}:evS' C u (.ife c a b)=ifM (evT C u c) (evSs' C u a) (evSs' C u b):=rfl
theorem zMd {C:Gm}{u:Dm}{t:ME}{e:ME}:evS' C u (.app t e)=appM (evM C u t) (evM C u e):=rfl
theorem zMh {C:Gm}{u:Dm}{n:Nat}{ms:List Nat}{u2:Str}{src:ME}{el:ME}:evM C u (.comp n ms u2 src el)=zG1 ms 1 (evSrc C u src) (tgM n) (evM C u el):=rfl
theorem zMa {C:Gm}{u:Dm}{a:ME}:evSrc C u (.it a)=srcM (evM C u a):=rfl
section
variable {C:Gm}{u:Dm}{G:List (Option W)}{O:Mem}{s:Mst}
theorem zA9 {e:E}{G':Dst}{Q:MR->Prop}(hd:drS O G=G')(h:EvP (evE C e G') fun r=>EvP (zEP r O) Q):EvP (evM C u (.pur e) ⟨G,O⟩) Q:=by
 obtain ⟨r,e1,z,e2,q⟩:=h;exact ⟨z,by rw [zQA];unfold zL7;rw [hd,e1,Option.bind_some,e2],q⟩
theorem zBC {d:D}{Q:MR->Prop}(n:noL d=true)(h:Q (.dat d,O)):EvP (zEP (d,.cl) O) Q:=⟨_,by cases d<;>exact if_pos (e:=none) n,h⟩
theorem zLG {ds:List D}{Q:MR->Prop}(n:noLs ds=true)(h:Q (.loc O.length,O++[ds.map .dat])):EvP (zEP (.lst ds,.fr) O) Q:=⟨_,if_pos (e:=none) n,h⟩
theorem zAW {i:Nat}{w:W}{Q:MR->Prop}(e:G[i]?=some (some w))(h:Q (w,O)):EvP (evM C u (.var i) ⟨G,O⟩) Q:=by
 refine ⟨_,?_,h⟩;rw [zP9];unfold varM;show (match G[i]? with | some (some w)=>some (w,O) | _=>none)=_;rw [e]
theorem zAs {n:Nat}{f:Str}{es:ME}{F:MF}{Q:MR->Prop}(e:u[n]?=some (f,F))(h:EvP (evMs C u es s) fun ws=>EvP (F ws.1 ws.2) Q):EvP (evM C u (.call n f es) s) Q:=by
 obtain ⟨ws,e1,r,e2,q⟩:=h;refine ⟨r,?_,q⟩;rw [zMi];unfold fnM;rw [e];show (if f=f then zIj F (evMs C u es) s else none)=_;rw [if_pos rfl];unfold zIj;rw [e1,Option.bind_some,e2]
theorem zAf {Q:MA->Prop}(h:Q ([],O)):EvP (evMs C u .nil ⟨G,O⟩) Q:=⟨_,by rw [zMg];rfl,h⟩
theorem zAD {e es:ME}{Q:MA->Prop}(h:EvP (evM C u e s) fun w=>EvP (evMs C u es ⟨s.G,w.2⟩) fun ws=>Q (w.1::ws.1,ws.2)):EvP (evMs C u (.cons e es) s) Q:=by
 obtain ⟨w,e1,ws,e2,q⟩:=h;exact ⟨_,by rw [zKg];unfold zMs;rw [e1,Option.bind_some,e2,Option.bind_some],q⟩
theorem zJz {es:ME}{Q:MR->Prop}(h:EvP (evMs C u es s) fun r=>r.1.length<=10000/\Q (.loc r.2.length,r.2++[r.1])):EvP (evM C u (.lst es) s) Q:=by
 obtain ⟨r,e1,l,q⟩:=h;exact ⟨_,by rw [zQB];unfold lstM;rw [e1,Option.bind_some,if_pos l],q⟩
theorem m_ix {a b:ME}{Q:MR->Prop}(h:EvP (evM C u a s) fun x=>EvP (evM C u b ⟨s.G,x.2⟩) fun y=>EvP (ixW x.1 y.1 y.2) Q):EvP (evM C u (.ix a b) s) Q:=by
 obtain ⟨x,e1,y,e2,r,e3,q⟩:=h;exact ⟨_,by rw [zSY];unfold twoM;rw [e1,Option.bind_some,e2,Option.bind_some,e3],q⟩
theorem zHl {n:Nat}{i:Int}{ws:List W}{w:W}{Q:MR->Prop}(e:O[n]?=some ws)(e2:atI ws i=some w)(h:Q (w,O)):EvP (ixW (.loc n) (.dat (.int i)) O) Q:=by
 refine ⟨_,?_,h⟩;show ((O[n]?).bind fun ws=>(atI ws i).map fun w=>(w,O))=_;rw [e,Option.bind_some,e2]
 rfl
theorem zIJ {e:E}{G':Dst}{Q:MB->Prop}(hd:drS O G=G')(h:EvP (evE C e G') fun r=>∃ b,r.1=.bl b/\Q (b,O)):EvP (evT C u (.pur e) ⟨G,O⟩) Q:=by
 obtain ⟨r,e1,b,e2,q⟩:=h;refine ⟨_,?_,q⟩;rw [zP3];unfold zL8;rw [hd];have:asB (evE C e) G'=some b:=by
  unfold asB;rw [e1];obtain ⟨d,k⟩:=r;cases e2
  rfl
 rw [this]
 rfl
def KM (C:Gm)(u:Dm)(b:MT)(Q:OutM->Prop):OutM->Prop
 | .nx s=>EvP (evSs' C u b s) Q
 | o=>Q o
theorem zBR {Q:OutM->Prop}(h:Q (.nx s)):EvP (evSs' C u .nil s) Q:=⟨_,by rw [zKb],h⟩
theorem zAJ {a b:MT}{Q:OutM->Prop}(h:EvP (evS' C u a s) (KM C u b Q)):EvP (evSs' C u (.cons a b) s) Q:=by
 obtain ⟨o,e1,q⟩:=h;cases o with
 | nx s' =>
  obtain ⟨r,e2,q⟩:=q;exact ⟨r,by rw [zCY];unfold seqM;rw [e1,Option.bind_some];exact e2,q⟩
 | rt r=>exact ⟨_,by rw [zCY];unfold seqM;rw [e1,Option.bind_some],q⟩
 | bk r=>exact ⟨_,by rw [zCY];unfold seqM;rw [e1,Option.bind_some],q⟩
 | ct r=>exact ⟨_,by rw [zCY];unfold seqM;rw [e1,Option.bind_some],q⟩
theorem zAn {b:MT}{Q:OutM->Prop}(h:EvP (evSs' C u b s) Q):KM C u b Q (.nx s):=h
theorem zJ5 {b:MT}{Q:OutM->Prop}{r:MR}(h:Q (.rt r)):KM C u b Q (.rt r):=h
theorem zBU {i:Nat}{e:ME}{Q:OutM->Prop}(h:EvP (evM C u e s) fun r=>Q (.nx ⟨s.G.set i (some r.1),r.2⟩)):EvP (evS' C u (.set i e) s) Q:=by
 obtain ⟨r,e1,q⟩:=h;exact ⟨_,by rw [zMb];unfold setM;rw [e1];rfl,q⟩
theorem zGU {i:Nat}{e:ME}{Q:OutM->Prop}(h:EvP (evM C u e s) fun r=>Q (.nx ⟨s.G.set i (some r.1),r.2⟩)):EvP (evS' C u (.setC i e) s) Q:=by
 obtain ⟨r,e1,q⟩:=h;exact ⟨_,by rw [zKe];unfold setM;rw [e1];rfl,q⟩
theorem zDo {e:ME}{Q:OutM->Prop}(h:EvP (evM C u e s) fun r=>Q (.rt r)):EvP (evS' C u (.ret e) s) Q:=by
 obtain ⟨r,e1,q⟩:=h;exact ⟨_,by rw [zMc];unfold retM;rw [e1];rfl,q⟩
theorem zDS {c:ME}{a b:MT}{Q:OutM->Prop}(h:EvP (evT C u c s) fun r=>(r.1=true->EvP (evSs' C u a ⟨s.G,r.2⟩) Q)/\(r.1=false->EvP (evSs' C u b ⟨s.G,r.2⟩) Q)):EvP (evS' C u (.ife c a b) s) Q:=by
 obtain ⟨⟨r,m⟩,e1,q1,q2⟩:=h;cases r with
 | true =>
  obtain ⟨o,e2,q⟩:=q1 rfl;exact ⟨o,by rw [zHu];unfold ifM;rw [e1,Option.bind_some];exact (if_pos rfl).trans e2,q⟩
 | false =>
  obtain ⟨o,e2,q⟩:=q2 rfl;exact ⟨o,by rw [zHu];unfold ifM;rw [e1,Option.bind_some];exact (if_neg Bool.false_ne_true).trans e2,q⟩
theorem zFe {t e:ME}{Q:OutM->Prop}(h:EvP (evM C u t s) fun x=>EvP (evM C u e ⟨s.G,x.2⟩) fun r=>∃ n ws,x.1=.loc n/\r.2[n]?=some ws/\ws.length<=10000/\Q (.nx ⟨s.G,r.2.set n (ws++[r.1])⟩)):EvP (evS' C u (.app t e) s) Q:=by
 obtain ⟨⟨x,m⟩,e1,r,e2,n,ws,e3,e4,l,q⟩:=h;cases e3;refine ⟨_,?_,q⟩;rw [zMd];unfold appM;rw [e1,Option.bind_some];simp only;rw [e2,Option.bind_some,e4,Option.bind_some,if_pos l]
def KFM (Q:MR->Prop):OutM->Prop
 | .rt r=>Q r
 | .nx s=>Q (.dat .non,s.O)
 | _=>False
theorem zGq {np nN:Nat}{g:Mst->Option OutM}{ws:List W}{Q:MR->Prop}(h1:ws.length=np)(h2:np<=nN)(h:EvP (g ⟨ws.map some++List.replicate (nN - np) none,O⟩) (KFM Q)):EvP (zCR np nN g ws O) Q:=by
 obtain ⟨o,e1,q⟩:=h;cases o with
 | rt r=>exact ⟨_,by unfold zCR;rw [if_pos ⟨h1,h2⟩,e1];rfl,q⟩
 | nx s=>exact ⟨_,by unfold zCR;rw [if_pos ⟨h1,h2⟩,e1];rfl,q⟩
 | bk _=>exact q.elim
 | ct _=>exact q.elim
theorem zGX {f:Nat->Option D}:∀ ds:List D,sbL f (ds.map .dat)=some ds
 | []=>by rw [map_nil,sbL]
 | d::ds=>by rw [map_cons,sbL,sbW,Option.bind_some,zGX ds];rfl
theorem zGA {n k:Nat}{ws:List W}{ds:List D}(e:O[n]?=some ws)(h:sbL (drN O k) ws=some ds):drN O (k+1) n=some (.lst ds):=by
 rw [drN,e,Option.bind_some,h];rfl
theorem zEB {n k:Nat}{ds:List D}(e:O[n]?=some (ds.map .dat)):drN O (k+1) n=some (.lst ds):=zGA e (zGX ds)
theorem zKr {d:D}:drS O (some (.dat d)::G)=some (d,false)::drS O G:=by
 show ((drW O (.dat d)).map fun d=>(d,false))::drS O G=_;unfold drW;rw [sbW]
 rfl
theorem zKq {n:Nat}{d:D}(h:drN O 6 n=some d):drS O (some (.loc n)::G)=some (d,false)::drS O G:=by
 show ((drW O (.loc n)).map fun d=>(d,false))::drS O G=_;unfold drW;rw [sbW,h]
 rfl
theorem zGy:drS O []=[]:=rfl
theorem zFI {G':Dst}(h:drS O G=G'):drS O (none::G)=none::G':=by rw [<- h];rfl
theorem zBa {d:D}{G':Dst}(h:drS O G=G'):drS O (some (.dat d)::G)=some (d,false)::G':=by rw [<- h];exact zKr
theorem zAY {o:Option W}{G':Dst}(h:drS O G=G'):drS O (o::G)=(o.bind fun w=>(drW O w).map fun d=>(d,false))::G':=by rw [<- h];rfl
theorem zFy {n:Nat}{ms:List Nat}{x:Str}{src el:ME}{Q:MR->Prop}(h:EvP (evSrc C u src s) fun z=>∃ y N,zBr (tgM n) (evM C u el) z.1 N 0 ⟨mask none ms s.G++[none],z.2⟩ []=some y/\y.1.length<=10000/\Q (.loc y.2.length,y.2++[y.1])):EvP (evM C u (.comp n ms x src el) s) Q:=by
 obtain ⟨z,e1,y,N,e2,l,q⟩:=h;refine ⟨_,?_,q⟩;rw [zMh];unfold zG1;rw [e1,Option.bind_some];show (zEi (tgM n) (evM C u el) z.1 ⟨mask none ms s.G++[none],z.2⟩).bind _=_;rw [zK1 e2,Option.bind_some,if_pos l]
theorem zQl {a:ME}{Q:Src×Mem->Prop}{n:Nat}{m:Mem}(e:evM C u a s=some (.loc n,m))(h:Q (.live n,m)):EvP (evSrc C u (.it a) s) Q:=by
 refine ⟨_,?_,h⟩;rw [zMa];unfold srcM;rw [e]
 rfl
end
end DL
end
section
namespace DL
open PySem L2
end DL
end
section
namespace DL
open PySem Spec PyProof.Rows L2
theorem zKf {C:Gm}{u:Dm}{i:Nat}{src:ME}{b:MT}:evS' C u (.for1 i src b)=(fun s=>(evSrc C u src s).bind fun r=>zD8 (tgM i) (evSs' C u b) r.1 0 ⟨s.G,r.2⟩):=rfl
theorem zKd {C:Gm}{u:Dm}{a:ME}:evSrc C u (.rng a)=zLf (evM C u a):=rfl
section
variable {C:Gm}{u:Dm}{G:List (Option W)}{O:Mem}{s:Mst}
def KLM (P:Mst->Prop)(Q:OutM->Prop):OutM->Prop
 | .nx s=>P s
 | .ct s=>P s
 | .bk s=>Q (.nx s)
 | .rt r=>Q (.rt r)
theorem zD9 {t:W->Mst->Option Mst}{b:Mst->Option OutM}{src:Src}{Q:OutM->Prop}(ws:List W)(P:Nat->Mst->Prop)(it:∀ j s,P j s->itm s.O src=some ws)
  (step:∀ j w s,ws[j]?=some w->P j s->∃ s1,t w s=some s1/\EvP (b s1) (KLM (P (j+1)) Q)) (fin:∀ s,P ws.length s->Q (.nx s)) (h:P 0 s):EvP (zD8 t b src 0 s) Q:=by
 have key:∀ (k j:Nat) (s:Mst),j+k=ws.length->P j s->∃ o,forN t b src (k+1) j s=some o/\Q o:=by
  intro k
  induction k with
  | zero =>
   intro j s e p;have ej:j=ws.length:=by omega
   subst ej;refine ⟨_,?_,fin s p⟩;rw [forN,it _ s p,Option.bind_some,getElem?_eq_none (le_refl _)]
  | succ k ih =>
   intro j s e p;have hj:j < ws.length:=by omega
   have ew:ws[j]?=some ws[j]:=getElem?_eq_getElem hj;obtain ⟨s1,e1,o,e2,q⟩:=step j _ s ew p;cases o with
   | nx s' =>
    obtain ⟨o',e3,q'⟩:=ih (j+1) s' (by omega) q;exact ⟨o',by rw [forN,it j s p,Option.bind_some,ew];dsimp only;rw [e1,Option.bind_some,e2,Option.bind_some];exact e3,q'⟩
   | ct s' =>
    obtain ⟨o',e3,q'⟩:=ih (j+1) s' (by omega) q;exact ⟨o',by rw [forN,it j s p,Option.bind_some,ew];dsimp only;rw [e1,Option.bind_some,e2,Option.bind_some];exact e3,q'⟩
   | bk s'=>exact ⟨_,by rw [forN,it j s p,Option.bind_some,ew];dsimp only;rw [e1,Option.bind_some,e2,Option.bind_some],q⟩
   | rt r=>exact ⟨_,by rw [forN,it j s p,Option.bind_some,ew];dsimp only;rw [e1,Option.bind_some,e2,Option.bind_some],q⟩
 obtain ⟨o,e,q⟩:=key ws.length 0 s (by omega) h;exact ⟨o,zMX e,q⟩
theorem zCl {i:Nat}{src:ME}{b:MT}{Q:OutM->Prop}(h:EvP (evSrc C u src s) fun r=>EvP (zD8 (tgM i) (evSs' C u b) r.1 0 ⟨s.G,r.2⟩) Q):EvP (evS' C u (.for1 i src b) s) Q:=by
 obtain ⟨r,e1,o,e2,q⟩:=h;exact ⟨o,by rw [zKf];dsimp only;rw [e1,Option.bind_some];exact e2,q⟩
theorem zBT {a:ME}{Q:Src×Mem->Prop}(h:EvP (evM C u a s) fun x=>∃ n,x.1=.loc n/\Q (.live n,x.2)):EvP (evSrc C u (.it a) s) Q:=by
 obtain ⟨⟨x,m⟩,e,n,e2,q⟩:=h;cases e2;exact zQl e q
theorem zDF {a:ME}{Q:Src×Mem->Prop}(h:EvP (evM C u a s) fun x=>∃ j,x.1=.dat (.int j)/\(-(2^62)<=j/\j < 2^62)/\Q (.items ((rngL 0 j.toNat).map .dat),x.2)):EvP (evSrc C u (.rng a) s) Q:=by
 obtain ⟨⟨x,m⟩,e,j,e2,l,q⟩:=h;cases e2;refine ⟨_,?_,q⟩;rw [zKd];unfold zLf;rw [e,Option.bind_some];exact if_pos l
end
end DL
namespace DL
open PySem L2
end DL
end
section
namespace DL
open PySem L2
def news (m k:Nat):List W:=(List.range k).map fun j=>.loc (m+j)
theorem zC6 (m i:Nat):news m (i+1)=news m i++[.loc (m+i)]:=by unfold news;rw [range_succ,map_append];rfl
theorem zB1 (m i:Nat):(news m i).length=i:=by unfold news;rw [length_map,length_range]
theorem zO6 {m k i:Nat}(h:i < k):(news m k)[i]?=some (.loc (m+i)):=by unfold news;rw [getElem?_map,getElem?_range h];rfl
theorem zGD {t:W->Mst->Option Mst}{e:Mst->Option MR}{src:Src}{s:Mst}(ws:List W)(P:Nat->Mst->List W->Prop)(it:∀ j s d,P j s d->itm s.O src=some ws)
  (step:∀ j w s d,ws[j]?=some w->P j s d->d.length<=10000/\∃ s1 r,t w s=some s1/\e s1=some r/\P (j+1) ⟨s1.G,r.2⟩ (d++[r.1])) (h:P 0 s []):∃ y s' N,zBr t e src N 0 s []=some y/\P ws.length s' y.1/\s'.O=y.2:=by
 have key:∀ (k j:Nat) (s:Mst) (d:List W),j+k=ws.length->P j s d->∃ y s',zBr t e src (k+1) j s d=some y/\P ws.length s' y.1/\s'.O=y.2:=by
  intro k
  induction k with
  | zero =>
   intro j s d ej p;have ej:j=ws.length:=by omega
   subst ej;refine ⟨(d,s.O),s,?_,p,rfl⟩;rw [zBr,it _ s d p,Option.bind_some,getElem?_eq_none (le_refl _)]
  | succ k ih =>
   intro j s d ej p;have hj:j < ws.length:=by omega
   have ew:ws[j]?=some ws[j]:=getElem?_eq_getElem hj;obtain ⟨l,s1,r,e1,e2,q⟩:=step j _ s d ew p;obtain ⟨y,s',e3,q'⟩:=ih (j+1) ⟨s1.G,r.2⟩ _ (by omega) q;refine ⟨y,s',?_,q'⟩;rw [zBr,it j s d p,Option.bind_some,ew];dsimp only;rw [e1,Option.bind_some,e2,Option.bind_some,if_pos l];exact e3
 obtain ⟨y,s',e,q⟩:=key ws.length 0 s [] (by omega) h;exact ⟨y,s',_,e,q⟩
mutual
theorem zHO {f g:Nat->Option D}(hf:∀ n d,f n=some d->g n=some d):∀ {w:W} {d:D},sbW f w=some d->sbW g w=some d
 | .dat x,d,e=>by rw [sbW] at e ⊢;exact e
 | .loc n,d,e=>by rw [sbW] at e ⊢;exact hf n d e
 | .tup ws,d,e=>by
  rw [sbW] at e ⊢;obtain ⟨ds,e1,rfl⟩:=map_eq_some_iff.mp e;rw [sbL_mono hf e1]
  rfl
theorem sbL_mono {f g:Nat->Option D}(hf:∀ n d,f n=some d->g n=some d):∀ {ws:List W} {ds:List D},sbL f ws=some ds->sbL g ws=some ds
 | [],ds,e=>by rw [sbL] at e ⊢;exact e
 | w::ws,ds,e=>by
  rw [sbL] at e ⊢;obtain ⟨d,e1,e⟩:=bind_some e;obtain ⟨ds',e2,rfl⟩:=map_eq_some_iff.mp e;rw [zHO hf e1,Option.bind_some,sbL_mono hf e2]
  rfl
end
theorem zHy {O O':Mem}(hm:∀ (n:Nat) (ws:List W),O[n]?=some ws->O'[n]?=some ws):∀ (k n:Nat) (d:D),drN O k n=some d->drN O' k n=some d
 | 0,_,_,e=>by cases e
 | k+1,n,d,e=>by
  rw [drN] at e ⊢;obtain ⟨ws,e1,e⟩:=bind_some e;obtain ⟨ds,e2,rfl⟩:=map_eq_some_iff.mp e;rw [hm n ws e1,Option.bind_some,sbL_mono (fun n d q=>zHy hm k n d q) e2]
  rfl
theorem zMp {O O':Mem}(hm:∀ (n:Nat) (ws:List W),O[n]?=some ws->O'[n]?=some ws){w:W}{d:D}(e:drW O w=some d):drW O' w=some d:=zHO (fun n d q=>zHy hm 6 n d q) e
theorem zA1 {O P:Mem}{n:Nat}{ws:List W}(h:O[n]?=some ws):(O++P)[n]?=some ws:=by
 rw [getElem?_append_left (zzg h).1];exact h
theorem zEy {g:Nat->Option D}{U:Type}(ad:U->Nat)(d:U->D):∀ l:List U,(∀ i∈l,g (ad i)=some (d i))->sbL g (l.map fun i=>.loc (ad i))=some (l.map d)
 | [],_=>by rw [map_nil,sbL];rfl
 | i::l,h=>by
  rw [map_cons,sbL,sbW,h i mem_cons_self,Option.bind_some,zEy ad d l fun j hj=>h j (mem_cons_of_mem _ hj)]
  rfl
def zN3:MT:=.cons (.ret (.comp 1 [] "k" (.rng (.var 0)) (.lst .nil))) .nil
def zID (F:MF):Prop:=∀ (k:Nat) (O:Mem) (Q:MR->Prop),k<=100->Q (.loc (O.length+k),O++List.replicate k []++[news O.length k])->EvP (F [.dat (.int k)] O) Q
theorem zMn {C:Gm}{u:Dm}:zID (zCR 1 1 (evSs' C u zN3)):=fun k O Q hk h=>by
 refine zGq rfl (by decide) ?_;unfold zN3;refine zAJ (zDo (zFy (zDF (zAW (w:=.dat (.int k)) rfl ⟨(k:Int),rfl,by omega,?_⟩))));rw [toNat_natCast];obtain ⟨y,s',N,e,⟨o,p1,p2,p3⟩,p4⟩:=zGD (t:=tgM 1) (e:=evM C u (.lst .nil)) (src:=.items ((rngL 0 k).map .dat)) (s:=⟨mask none [] [some (.dat (.int k))]++[none],O⟩) ((rngL 0 k).map .dat)
  (fun j s d=>∃ o:Option W,s=⟨[some (.dat (.int k)),o],O++List.replicate j []⟩/\d=news O.length j/\j<=k) (fun j s d _=>rfl) (fun j w s d ew zz103=>by
   obtain ⟨o,p1,p2,p3⟩:=zz103;subst p1 p2;have hj:j < k:=by
    have:=(zzg ew).1;rw [length_map,zAb] at this;exact this
   refine ⟨by rw [zB1];omega,⟨[some (.dat (.int k)),some w],O++List.replicate j []⟩,(.loc (O++List.replicate j []).length,O++List.replicate j []++[[]]),rfl,?_,some w,?_,?_,by omega⟩
   .exact (zJz (Q:=fun r=>r=(W.loc (O++List.replicate j []).length,O++List.replicate j []++[[]])) (zAf ⟨zero_le _,rfl⟩)).eq
   .rw [List.replicate_succ',append_assoc]
   .rw [zC6,length_append,length_replicate]) ⟨none,by rw [List.replicate_zero,append_nil];rfl,rfl,zero_le _⟩
 have lw:((rngL 0 k).map W.dat).length=k:=by rw [length_map,zAb]
 rw [lw] at p1 p2;subst p1;have e2:y=(news O.length k,O++List.replicate k []):=Prod.ext p2 p4.symm;refine ⟨y,N,e,by rw [p2,zB1];omega,?_⟩;rw [e2];show KFM Q (.rt (.loc (O++List.replicate k []).length,_));rw [length_append,length_replicate];exact h
structure zBd (O:Mem)(a w h:Nat)(f:Nat->Nat->List Rat):Prop where
 cell:∀ r c,r < h->c<=w->O[a+r*(w+2)+c]?=some ((f r c).map fun q=>.dat (ratD q))
 row:∀ r,r < h->O[a+r*(w+2)+(w+1)]?=some (news (a+r*(w+2)) (w+1))
 top:O[a+h*(w+2)]?=some ((List.range h).map fun r=>.loc (a+r*(w+2)+(w+1)))
theorem zBd.keep {O O':Mem}{a w h:Nat}{f:Nat->Nat->List Rat}(t:zBd O a w h f)(k:∀ (n:Nat) (ws:List W),a<=n->n<=a+h*(w+2)->O[n]?=some ws->O'[n]?=some ws):zBd O' a w h f:=by
 have lt:∀ r c,r < h->c<=w+1->r*(w+2)+c < h*(w+2):=fun r c hr hc=>by
  have:=mul_le_mul_right (w+2) (show r+1<=h from hr);rw [Nat.succ_mul] at this;omega
 exact ⟨fun r c hr hc=>k _ _ (by omega) (by have:=lt r c hr (by omega);omega) (t.cell r c hr hc),fun r hr=>k _ _ (by omega) (by have:=lt r (w+1) hr (by omega);omega) (t.row r hr),k _ _ (by omega) (le_refl _) t.top⟩
theorem zBd.app {O:Mem}{a w h:Nat}{f:Nat->Nat->List Rat}(t:zBd O a w h f)(P:Mem):zBd (O++P) a w h f:=t.keep fun _ _ _ _ e=>zA1 e
theorem zNn {w r c r' c':Nat}(hc:c<=w+1)(hc':c'<=w+1)(e:r*(w+2)+c=r'*(w+2)+c'):r=r'/\c=c':=by
 have lt:∀ {r r' c c':Nat},c<=w+1->r < r'->r*(w+2)+c < r'*(w+2)+c':=fun {r r' c c'} hc hr=>by
  have:=mul_le_mul_right (w+2) (show r+1<=r' from hr);rw [Nat.succ_mul] at this;omega
 rcases Nat.lt_trichotomy r r' with q | q | q
 .have:=lt (c':=c') hc q;omega
 .subst q;exact ⟨rfl,by omega⟩
 .have:=lt (c':=c) hc' q;omega
def more (f:Nat->Nat->List Rat)(r c:Nat)(q:Rat):Nat->Nat->List Rat:=fun r' c'=>if r'=r/\c'=c then f r c++[q] else f r' c'
theorem zBd.more {O:Mem}{a w h r c:Nat}{f:Nat->Nat->List Rat}{q:Rat}(t:zBd O a w h f)(hr:r < h)(hc:c<=w):zBd (O.set (a+r*(w+2)+c) (((f r c).map fun q=>.dat (ratD q))++[.dat (ratD q)])) a w h (more f r c q):=by
 have hl:=(zzg (t.cell r c hr hc)).1;have hn:r*(w+2)+c < h*(w+2):=by
  have:=mul_le_mul_right (w+2) (show r+1<=h from hr);rw [Nat.succ_mul] at this;omega
 refine ⟨fun r' c' hr' hc'=>?_,fun r' hr'=>?_,?_⟩
 .by_cases e:r'=r/\c'=c
  .obtain ⟨rfl,rfl⟩:=e;rw [getElem?_set_self hl];unfold DL.more;rw [if_pos ⟨rfl,rfl⟩,map_append]
   rfl
  .unfold DL.more;rw [if_neg e,getElem?_set_ne]
   .exact t.cell r' c' hr' hc'
   .intro z;have:=zNn (w:=w) (r:=r) (c:=c) (r':=r') (c':=c') (by omega) (by omega) (by omega);exact e ⟨this.1.symm,this.2.symm⟩
 .rw [getElem?_set_ne]
  .exact t.row r' hr'
  .intro z;have:=zNn (w:=w) (r:=r) (c:=c) (r':=r') (c':=w+1) (by omega) (by omega) (by omega);omega
 .rw [getElem?_set_ne (by omega)];exact t.top
theorem zBd.other {O:Mem}{a w h n:Nat}{f:Nat->Nat->List Rat}{x:List W}(t:zBd O a w h f)(hn:n < a\/a+h*(w+2) < n):zBd (O.set n x) a w h f:=t.keep fun m ws h1 h2 e=>by
 rw [getElem?_set_ne (by omega)];exact e
theorem zOc {f:Nat->Option D}(qs:List Rat):sbL f (qs.map fun q=>W.dat (ratD q))=some (qs.map ratD):=by
 have:(qs.map fun q=>W.dat (ratD q))=(qs.map ratD).map .dat:=by rw [map_map];rfl
 rw [this];exact zGX _
theorem zNE {O:Mem}{a w h:Nat}{f:Nat->Nat->List Rat}(t:zBd O a w h f):drN O 6 (a+h*(w+2))=some (.lst ((List.range h).map fun r=>zEz ((List.range (w+1)).map (f r)))):=by
 refine zGA t.top (zEy (fun r=>a+r*(w+2)+(w+1)) (fun r=>zEz ((List.range (w+1)).map (f r))) _ fun r hr=>?_);have hr:=mem_range.mp hr;have q:drN O 5 (a+r*(w+2)+(w+1))=some (.lst ((List.range (w+1)).map fun c=>zBH (f r c))):=by
  refine zGA (t.row r hr) (zEy (fun c=>a+r*(w+2)+c) (fun c=>zBH (f r c)) _ fun c hc=>?_);have hc:=mem_range.mp hc;exact zGA (t.cell r c hr (by omega)) (zOc _)
 rw [q];unfold zEz;rw [map_map]
 rfl
def tabE (ne:Nat):ME:=.comp 7 [] "row" (.rng (.var 1)) (.call ne "empty_lists" (.cons (.pur (.bin .Add (.var 0) (.int 1))) .nil))
theorem zND {C:Gm}{u:Dm}{ne:Nat}{Fe:MF}(ee:u[ne]?=some (("empty_lists":Str),Fe))(he:zID Fe){w h:Nat}(hw:w<=6)(hh:h<=6){x2 x3 x4 x5 x6:Option W}{O:Mem}{Q:MR->Prop}
  (hQ:∀ P:Mem,P.length=h*(w+2)+1->zBd (O++P) O.length w h (fun _ _=>[])->Q (.loc (O.length+h*(w+2)),O++P)) :
  EvP (evM C u (tabE ne) ⟨[some (.dat (.int w)),some (.dat (.int h)),x2,x3,x4,x5,x6],O⟩) Q:=by
 unfold tabE;refine zFy (zDF (zAW (w:=.dat (.int h)) rfl ⟨(h:Int),rfl,by omega,?_⟩));rw [toNat_natCast];obtain ⟨y,s',N,e,⟨o,P,p1,p2,p3,p4,p5,p6⟩,p7⟩:=zGD (t:=tgM 7) (e:=evM C u (.call ne "empty_lists" (.cons (.pur (.bin .Add (.var 0) (.int 1))) .nil))) (src:=.items ((rngL 0 h).map .dat)) (s:=⟨mask none [] [some (.dat (.int w)),some (.dat (.int h)),x2,x3,x4,x5,x6]++[none],O⟩) ((rngL 0 h).map .dat)
  (fun j s d=>∃ (o:Option W) (P:Mem),s=⟨[some (.dat (.int w)),some (.dat (.int h)),x2,x3,x4,x5,x6,o],O++P⟩/\d=(List.range j).map (fun r=>W.loc (O.length+r*(w+2)+(w+1)))/\P.length=j*(w+2)/\j<=h /\
   (∀ r c,r < j->c<=w->(O++P)[O.length+r*(w+2)+c]?=some [])/\∀ r,r < j->(O++P)[O.length+r*(w+2)+(w+1)]?=some (news (O.length+r*(w+2)) (w+1))) (fun j s d _=>rfl) (fun j x s d ew zz104=>by
   obtain ⟨o,P,p1,p2,p3,p4,p5,p6⟩:=zz104;subst p1 p2;have hj:j < h:=by
    have:=(zzg ew).1;rw [length_map,zAb] at this;exact this
   have lg:(O++P).length=O.length+j*(w+2):=by rw [length_append,p3]
   refine ⟨by rw [length_map,length_range];omega,⟨[some (.dat (.int w)),some (.dat (.int h)),x2,x3,x4,x5,x6,some x],O++P⟩,(.loc ((O++P).length+(w+1)),(O++P)++List.replicate (w+1) []++[news (O++P).length (w+1)]),rfl,?_,some x,P++List.replicate (w+1) []++[news (O++P).length (w+1)],?_,?_,?_,by omega,?_,?_⟩
   .refine (zAs (Q:=fun r=>r=(W.loc ((O++P).length+(w+1)),(O++P)++List.replicate (w+1) []++[news (O++P).length (w+1)])) ee (zAD (zA9 zKr (zBY (zAG rfl (zAa (zK9 (zBC rfl (zAf ?_))))))))).eq;exact he (w+1) (O++P) _ (by omega) rfl
   .simp only [append_assoc]
   .rw [range_succ,map_append,lg];rfl
   .simp only [length_append,length_replicate,length_singleton,p3];rw [Nat.succ_mul];omega
   .intro r c hr hc;by_cases q:r < j
    .rw [<- append_assoc,<- append_assoc];exact zA1 (zA1 (p5 r c q hc))
    .have:r=j:=by omega
     subst this;rw [<- append_assoc,<- append_assoc,getElem?_append_left (by rw [length_append,length_replicate,lg];omega),getElem?_append_right (by rw [lg];omega),lg,getElem?_replicate];rw [if_pos (by omega)]
   .intro r hr;by_cases q:r < j
    .rw [<- append_assoc,<- append_assoc];exact zA1 (zA1 (p6 r q))
    .have:r=j:=by omega
     subst this;have ll:(O++P++List.replicate (w+1) []).length=O.length+r*(w+2)+(w+1):=by rw [length_append,length_replicate,lg]
     rw [<- append_assoc,<- append_assoc,getElem?_append_right (by rw [ll];exact le_refl _),ll,sub_self];show some (news (O++P).length (w+1))=_;rw [lg]) ⟨none,[],by rw [append_nil];rfl,rfl,by simp,zero_le _,fun r c hr=>absurd hr (by omega),fun r hr=>absurd hr (by omega)⟩
 have lw:((rngL 0 h).map W.dat).length=h:=by rw [length_map,zAb]
 rw [lw] at p2 p3 p5 p6;subst p1;have e2:y=((List.range h).map (fun r=>W.loc (O.length+r*(w+2)+(w+1))),O++P):=Prod.ext p2 p7.symm;refine ⟨y,N,e,by rw [p2,length_map,length_range];omega,?_⟩;rw [e2];have lg:(O++P).length=O.length+h*(w+2):=by rw [length_append,p3]
 show Q (.loc (O++P).length,(O++P)++[_]);rw [lg,append_assoc];refine hQ _ (by rw [length_append,p3];rfl) ⟨fun r c hr hc=>?_,fun r hr=>?_,?_⟩
 .rw [<- append_assoc];exact zA1 (p5 r c hr hc)
 .rw [<- append_assoc];exact zA1 (p6 r hr)
 .rw [<- append_assoc,getElem?_append_right (by rw [lg];exact le_refl _),lg,sub_self]
  rfl
theorem zNo {O:Mem}{ds:List D}{i:Int}{d:D}{Q:MR->Prop}(e:atI ds i=some d)(h:Q (.dat d,O)):EvP (ixW (.dat (.tup ds)) (.dat (.int i)) O) Q:=by
 refine ⟨_,?_,h⟩;show (atI ds i).map _=_;rw [e]
 rfl
theorem zQK {O:Mem}{G:List (Option W)}{x:W}{d:D}(h:drW O x=some d):drS O (some x::G)=some (d,false)::drS O G:=by
 show ((drW O x).map fun d=>(d,false))::drS O G=_;rw [h]
 rfl
def fc (zs:List Pc)(r c:Nat):List Rat:=(zs.filter fun z=>decide (z.r=(r:Int))&&decide (z.c+1=(c:Int))).map zCM
def gc (zs:List Pc)(r c:Nat):List Rat:=(zs.filter fun z=>decide (z.r=(r:Int))&&decide (z.c+1=(c:Int))).map zCg
theorem zPw {n w h:Nat}{zs:List Pc}{z:Pc}(hz:PcB n w h z):fc (zs++[z])=more (fc zs) z.r.toNat (z.c+1).toNat (zCM z):=by
 have r0:=hz.r0;have c0:=hz.c0;funext r c;unfold fc more;rw [List.filter_append,map_append];by_cases e:r=z.r.toNat/\c=(z.c+1).toNat
 .obtain ⟨rfl,rfl⟩:=e;rw [if_pos ⟨rfl,rfl⟩];have:List.filter (fun z_1=>decide (z_1.r=(z.r.toNat:Int))&&decide (z_1.c+1=((z.c+1).toNat:Int))) [z]=[z]:=by
   rw [filter_cons,if_pos (by simp only [and_eq_true,decide_eq_true_eq];omega)]
   rfl
  rw [this]
  rfl
 .rw [if_neg e];have:List.filter (fun z_1=>decide (z_1.r=(r:Int))&&decide (z_1.c+1=(c:Int))) [z]=[]:=by
   rw [filter_cons,if_neg (by simp only [and_eq_true,decide_eq_true_eq];omega)]
   rfl
  rw [this];simp
theorem zPo {n w h:Nat}{zs:List Pc}{z:Pc}(hz:PcB n w h z):gc (zs++[z])=more (gc zs) z.r.toNat (z.c+1).toNat (zCg z):=by
 have r0:=hz.r0;have c0:=hz.c0;funext r c;unfold gc more;rw [List.filter_append,map_append];by_cases e:r=z.r.toNat/\c=(z.c+1).toNat
 .obtain ⟨rfl,rfl⟩:=e;rw [if_pos ⟨rfl,rfl⟩];have:List.filter (fun z_1=>decide (z_1.r=(z.r.toNat:Int))&&decide (z_1.c+1=((z.c+1).toNat:Int))) [z]=[z]:=by
   rw [filter_cons,if_pos (by simp only [and_eq_true,decide_eq_true_eq];omega)]
   rfl
  rw [this]
  rfl
 .rw [if_neg e];have:List.filter (fun z_1=>decide (z_1.r=(r:Int))&&decide (z_1.c+1=(c:Int))) [z]=[]:=by
   rw [filter_cons,if_neg (by simp only [and_eq_true,decide_eq_true_eq];omega)]
   rfl
  rw [this];simp
def zPH (nf nr:Nat):MT:=.cons (.set 6 (.pur (.bin .Add (.ix (.var 5) (.int 0)) (.int 1)))) (.cons (.app (.ix (.ix (.var 3) (.ix (.var 5) (.pur (.int 1)))) (.var 6)) (.pur (.call nf "fall" (.cons (.var 5) .nil)))) (.cons (.app (.ix (.ix (.var 4) (.ix (.var 5) (.pur (.int 1)))) (.var 6)) (.pur (.call nr "right" (.cons (.var 5) .nil)))) .nil))
theorem zJ1 {C:Gm}{u:Dm}{nf nr:Nat}{Ff Fr:List D->Option R}(ef:C.fns[nf]?=some (("fall":Str),Ff))(er:C.fns[nr]?=some (("right":Str),Fr))(hf:zLL Ff)(hr:zH9 Fr){n w h a b:Nat}{z:Pc}{f g:Nat->Nat->List Rat}{x0 x1 x2 x6:Option W}{O:Mem}{Q:OutM->Prop}
  (hz:PcB n w h z) (hn:n<=1000) (hw:w<=100) (tf:zBd O a w h f) (tg:zBd O b w h g) (ab:a+h*(w+2) < b) (lf:∀ r c,(f r c).length<=10000) (lg:∀ r c,(g r c).length<=10000)
  (hQ:∀ O':Mem,O'.length=O.length->(∀ m:Nat,m < a->O'[m]?=O[m]?)->(∀ m:Nat,b+h*(w+2) < m->O'[m]?=O[m]?)->zBd O' a w h (more f z.r.toNat (z.c+1).toNat (zCM z))->zBd O' b w h (more g z.r.toNat (z.c+1).toNat (zCg z))->Q (.nx ⟨[x0,x1,x2,some (.loc (a+h*(w+2))),some (.loc (b+h*(w+2))),some (.dat (pcD z)),some (.dat (.int (z.c+1)))],O'⟩)) :
  EvP (evSs' C u (zPH nf nr) ⟨[x0,x1,x2,some (.loc (a+h*(w+2))),some (.loc (b+h*(w+2))),some (.dat (pcD z)),x6],O⟩) Q:=by
 have r0:=hz.r0;have r1:=hz.r1;have c0:=hz.c0;have c1:=hz.c1;have eR:z.r=((z.r.toNat:Nat):Int):=by omega
 have eC:z.c+1=(((z.c+1).toNat:Nat):Int):=by omega
 have hR:z.r.toNat < h:=by omega
 have hC:(z.c+1).toNat<=w:=by omega
 have atT:∀ (a:Nat),atI ((List.range h).map fun r=>W.loc (a+r*(w+2)+(w+1))) z.r=some (.loc (a+z.r.toNat*(w+2)+(w+1))):=fun a=>by
  have q:atI ((List.range h).map fun r=>W.loc (a+r*(w+2)+(w+1))) ((z.r.toNat:Nat):Int)=some (.loc (a+z.r.toNat*(w+2)+(w+1))):=zAq (by rw [getElem?_map,getElem?_range hR];rfl);rw [<- eR] at q;exact q
 have atR:∀ (a:Nat),atI (news (a+z.r.toNat*(w+2)) (w+1)) (z.c+1)=some (.loc (a+z.r.toNat*(w+2)+(z.c+1).toNat)):=fun a=>by
  have q:atI (news (a+z.r.toNat*(w+2)) (w+1)) (((z.c+1).toNat:Nat):Int)=some (.loc (a+z.r.toNat*(w+2)+(z.c+1).toNat)):=zAq (zO6 (by omega));rw [<- eC] at q;exact q
 have pc1:atI [D.int z.c,.int z.r,ptD z.p,ptD z.q] 1=some (.int z.r):=rfl;have hn2:z.r.toNat*(w+2)+(z.c+1).toNat < h*(w+2):=by
  have:=mul_le_mul_right (w+2) (show z.r.toNat+1<=h from hR);rw [Nat.succ_mul] at this;omega
 unfold zPH;refine zAJ (zBU (zA9 (zAY (zAY (zAY (zAY (zAY (zBa rfl)))))) ?_));refine zBY (zA6 (zAG rfl (zAa (zDL (d:=.int z.c) rfl (zAa (zK9 (zBC rfl (zAn ?_))))))));(walk_at "s");refine zAJ (zFe (m_ix (m_ix (zAW rfl (m_ix (zAW rfl (zA9 rfl (zAa (zBC rfl ?_)))))))));refine zNo pc1 (zHl tf.top (atT a) (zAW rfl (zHl (tf.row _ hR) (atR a) ?_)));refine zA9 (zAY (zAY (zAY (zAY (zAY (zBa rfl)))))) ?_;refine zAS ef (zAF (zAG rfl (n_cl (zAo ?_))));refine hf z.c z.r z.p z.q _ _ hz.p hz.q (by omega) ?_;refine n_cl (zBC rfl ⟨_,_,rfl,tf.cell _ _ hR hC,by rw [length_map];exact lf _ _,zAn ?_⟩);have tf2:=tf.more (q:=zCM z) hR hC;have tg2:=tg.other (n:=a+z.r.toNat*(w+2)+(z.c+1).toNat) (x:=((f z.r.toNat (z.c+1).toNat).map fun q=>.dat (ratD q))++[.dat (ratD (zCM z))]) (by omega);have l2:(O.set (a+z.r.toNat*(w+2)+(z.c+1).toNat) (((f z.r.toNat (z.c+1).toNat).map fun q=>.dat (ratD q))++[.dat (ratD (zCM z))])).length=O.length:=length_set;have o1:∀ m:Nat,m < a->(O.set (a+z.r.toNat*(w+2)+(z.c+1).toNat) (((f z.r.toNat (z.c+1).toNat).map fun q=>.dat (ratD q))++[.dat (ratD (zCM z))]))[m]?=O[m]?:=fun m hm=>getElem?_set_ne (by omega)
 have o2:∀ m:Nat,b+h*(w+2) < m->(O.set (a+z.r.toNat*(w+2)+(z.c+1).toNat) (((f z.r.toNat (z.c+1).toNat).map fun q=>.dat (ratD q))++[.dat (ratD (zCM z))]))[m]?=O[m]?:=fun m hm=>getElem?_set_ne (by omega)
 have go:∀ O7:Mem,O7.length=O.length->(∀ m:Nat,m < a->O7[m]?=O[m]?)->(∀ m:Nat,b+h*(w+2) < m->O7[m]?=O[m]?)->zBd O7 a w h (more f z.r.toNat (z.c+1).toNat (zCM z))->zBd O7 b w h g ->
   EvP (evSs' C u (.cons (.app (.ix (.ix (.var 4) (.ix (.var 5) (.pur (.int 1)))) (.var 6)) (.pur (.call nr "right" (.cons (.var 5) .nil)))) .nil) ⟨[x0,x1,x2,some (.loc (a+h*(w+2))),some (.loc (b+h*(w+2))),some (.dat (pcD z)),some (.dat (.int (z.c+1)))],O7⟩) Q:=by
  intro O7 e1 e2 e3 tf2 tg2;refine zAJ (zFe (m_ix (m_ix (zAW rfl (m_ix (zAW rfl (zA9 rfl (zAa (zBC rfl ?_)))))))));refine zNo pc1 (zHl tg2.top (atT b) (zAW rfl (zHl (tg2.row _ hR) (atR b) ?_)));refine zA9 (zAY (zAY (zAY (zAY (zAY (zBa rfl)))))) ?_;refine zAS er (zAF (zAG rfl (n_cl (zAo ?_))));refine hr z.c z.r z.p z.q _ _ hz.p hz.q (by omega) (by omega) ?_;refine n_cl (zBC rfl ⟨_,_,rfl,tg2.cell _ _ hR hC,by rw [length_map];exact lg _ _,zAn (zBR ?_)⟩);refine hQ _ (by rw [length_set];exact e1) (fun m hm=>?_) (fun m hm=>?_) (tf2.other (by omega)) (tg2.more hR hC)
  .rw [getElem?_set_ne (by omega)];exact e2 m hm
  .rw [getElem?_set_ne (by omega)];exact e3 m hm
 exact go _ l2 o1 o2 tf2 tg2
def zI6 (na nf nr nw ne:Nat):MT:=.cons (.setC 3 (tabE ne)) (.cons (.setC 4 (tabE ne)) (.cons (.for1 5 (.it (.pur (.call na "all_pieces" (.cons (.var 0) (.cons (.var 1) (.cons (.var 2) .nil)))))) (zPH nf nr)) (.cons (.ret (.comp 7 [] "row" (.rng (.var 1)) (.pur (.call nw "row_of_shares" (.cons (.ix (.var 3) (.var 7)) (.cons (.ix (.var 4) (.var 7)) .nil)))))) .nil)))
def rowZ (zs:List Pc)(w r:Nat):List Rat:=zLe ((List.range (w+1)).map (fc zs r)) ((List.range (w+1)).map (gc zs r)) w
def zBG (zs:List Pc)(w:Nat)(k:Nat):Mem:=(List.range k).map fun r=>(rowZ zs w r).map fun q=>W.dat (ratD q)
def zLK (F:MF):Prop:=∀ (n w h:Nat) (rs:List (List Pt)) (x:W) (O:Mem) (Q:MR->Prop),FlB n w h rs->(allP w h rs).length<=5000->(allP w h rs).length*(24*n+101)<=4000000->drW O x=some (zAX rs) ->
 (∀ P:Mem,Q (.loc ((O++P).length+h),O++P++zBG (allP w h rs) w h++[news (O++P).length h]))->EvP (F [.dat (.int w),.dat (.int h),x] O) Q
theorem zO5 (zs:List Pc):noLs (zs.map pcD)=true:=by
 induction zs with
 | nil=>rfl
 | cons z zs ih=>rw [map_cons,noLs,ih];rfl
theorem zLz (qs:List Rat):noLs (qs.map ratD)=true:=by
 induction qs with
 | nil=>rfl
 | cons q qs ih=>rw [map_cons,noLs,ih];rfl
theorem zKX {n w h:Nat}{z:Pc}(hz:PcB n w h z):RB (24*n+100) (zCM z):=(zB8 hz.p.y hz.q.y).mono (by omega)
theorem zHS {n w h:Nat}{z:Pc}(hz:PcB n w h z)(hw:w<=100):RB (24*n+100) (zCg z):=by
 have c0:=hz.c0;have c1:=hz.c1;unfold zCg zFp;split
 .exact zE0.mono (by omega)
 .have rc:RB 8 ((z.c+1:Int):Rat):=zDs (zC8 (k:=200) (by omega) (by decide)) (by decide);exact (zHT (zB8 hz.p.y hz.q.y) (zB8 rc (zNk hz.p.x hz.q.x))).mono (by omega)
theorem zSR {n w h:Nat}{zs:List Pc}(hz:∀ z∈zs,PcB n w h z)(r c:Nat):(fc zs r c).length<=zs.length/\∀ q∈fc zs r c,RB (24*n+100) q:=by
 refine ⟨by unfold fc;rw [length_map];exact length_filter_le _ _,fun q hq=>?_⟩;obtain ⟨z,m,rfl⟩:=mem_map.mp hq;exact zKX (hz z (mem_filter.mp m).1)
theorem zSM {n w h:Nat}{zs:List Pc}(hw:w<=100)(hz:∀ z∈zs,PcB n w h z)(r c:Nat):(gc zs r c).length<=zs.length/\∀ q∈gc zs r c,RB (24*n+100) q:=by
 refine ⟨by unfold gc;rw [length_map];exact length_filter_le _ _,fun q hq=>?_⟩;obtain ⟨z,m,rfl⟩:=mem_map.mp hq;exact zHS (hz z (mem_filter.mp m).1) hw
theorem zI5 {C:Gm}{u:Dm}{na nf nr nw ne:Nat}{Fa Ff Fr Fw:List D->Option R}{Fe:MF}(ea:C.fns[na]?=some (("all_pieces":Str),Fa))(ef:C.fns[nf]?=some (("fall":Str),Ff))(er:C.fns[nr]?=some (("right":Str),Fr))(ew:C.fns[nw]?=some (("row_of_shares":Str),Fw))(ee:u[ne]?=some (("empty_lists":Str),Fe))
  (ha:AllF Fa) (hf:zLL Ff) (hr:zH9 Fr) (hw:RowF Fw) (he:zID Fe):zLK (zCR 3 7 (evSs' C u (zI6 na nf nr nw ne))):=fun n w h rs x O Q fb zl zb dx hQ=>by
 have pcs:=zOC (n:=n) (w:=w) (h:=h) (rs:=rs) fb.w1 (by have:=fb.w2;omega) (by have:=fb.h2;omega) fb.r;have w2:=fb.w2;have h2:=fb.h2;generalize ez:allP w h rs=zs at zl zb hQ pcs;refine zGq rfl (by decide) ?_;unfold zI6;show EvP (evSs' C u _ ⟨[some (.dat (.int w)),some (.dat (.int h)),some x,none,none,none,none],O⟩) _;refine zAJ (zGU (zND ee he w2 h2 fun Z2 g1 t1=>zAn ?_));(walk_at "s");refine zAJ (zGU (zND ee he w2 h2 fun O6 g2 t2=>zAn ?_));(walk_at "s");have ta:=t1.app O6;have l12:(O++Z2).length=O.length+h*(w+2)+1:=by rw [length_append,g1];omega
 rw [l12] at t2;rw [l12];have dx2:drW (O++Z2++O6) x=some (zAX rs):=zMp (fun m ws e=>zA1 (zA1 e)) dx;refine zAJ (zCl (zBT (zA9 (zBa (zBa (zQK dx2))) ?_)));refine zAS ea (zAF (zAG rfl (n_cl (zAF (zAG rfl (n_cl (zAF (zAG (d:=zAX rs) rfl (n_cl (zAo ?_)))))))))) ;refine ha n w h rs _ fb ?_;rw [ez];refine n_fr (zLG (zO5 zs) ⟨_,rfl,?_⟩);have lb:(O++Z2++O6).length=O.length+h*(w+2)+1+h*(w+2)+1:=by rw [length_append,l12,g2];omega
 dsimp only;refine zD9 (s:=⟨_,_⟩) ((zs.map pcD).map .dat) (fun j s=>∃ (o5 o6:Option W) (O':Mem),s=⟨[some (.dat (.int w)),some (.dat (.int h)),some x,some (.loc (O.length+h*(w+2))),some (.loc (O.length+h*(w+2)+1+h*(w+2))),o5,o6],O'⟩/\O'.length=(O++Z2++O6).length+1/\(∀ m:Nat,m < O.length->O'[m]?=O[m]?)/\O'[(O++Z2++O6).length]?=some ((zs.map pcD).map .dat) /\
  zBd O' O.length w h (fc (zs.take j))/\zBd O' (O.length+h*(w+2)+1) w h (gc (zs.take j))) ?_ ?_ ?_ ⟨none,none,O++Z2++O6++[(zs.map pcD).map .dat],rfl,by rw [length_append];rfl,?_,?_,?_,?_⟩
 .rintro j s ⟨o5,o6,O',rfl,m1,m2,m3,m4,m5⟩;exact m3
 .rintro j y s ey ⟨o5,o6,O',rfl,m1,m2,m3,m4,m5⟩;rw [map_map,getElem?_map] at ey;obtain ⟨z,ez2,rfl⟩:=map_eq_some_iff.mp ey;have hz:=pcs z (mem_of_getElem? ez2);have et:zs.take (j+1)=zs.take j++[z]:=by rw [take_add_one,ez2];rfl
  refine ⟨_,rfl,?_⟩;dsimp only;(walk_at "s");have ll:∀ r c,(fc (zs.take j) r c).length<=10000/\(gc (zs.take j) r c).length<=10000:=fun r c=>by
   have a:=(zSR (n:=n) (w:=w) (h:=h) (zs:=zs.take j) (fun z hz=>pcs z (mem_of_mem_take hz)) r c).1;have b:=(zSM (n:=n) (w:=w) (h:=h) (zs:=zs.take j) (by omega) (fun z hz=>pcs z (mem_of_mem_take hz)) r c).1;rw [length_take] at a b;omega
  refine zJ1 ef er hf hr hz fb.b (by omega) m4 m5 (by omega) (fun r c=>(ll r c).1) (fun r c=>(ll r c).2) fun O2 e1 e2 e3 t3 t4=>?_
  rw [<- zPw hz,<- et] at t3;rw [<- zPo hz,<- et] at t4;exact ⟨_,_,O2,rfl,by rw [e1];exact m1,fun m hm=>by rw [e2 m hm];exact m2 m hm,by rw [e3 _ (by rw [lb];omega)];exact m3,t3,t4⟩
 .rintro s ⟨o5,o6,O',rfl,m1,m2,m3,m4,m5⟩;have el:((zs.map pcD).map W.dat).length=zs.length:=by rw [length_map,length_map]
  rw [el,take_length] at m4 m5;refine zAn ?_;refine zAJ (zDo (zFy (zDF (zAW (w:=.dat (.int h)) rfl ⟨(h:Int),rfl,by omega,?_⟩))));rw [toNat_natCast];obtain ⟨y,s',N,e,⟨o,p1,p2,p3⟩,p4⟩:=zGD (t:=tgM 7) (e:=evM C u (.pur (.call nw "row_of_shares" (.cons (.ix (.var 3) (.var 7)) (.cons (.ix (.var 4) (.var 7)) .nil))))) (src:=.items ((rngL 0 h).map .dat)) (s:=⟨mask none [] [some (.dat (.int w)),some (.dat (.int h)),some x,some (.loc (O.length+h*(w+2))),some (.loc (O.length+h*(w+2)+1+h*(w+2))),o5,o6]++[none],O'⟩) ((rngL 0 h).map .dat)
   (fun j s d=>∃ o:Option W,s=⟨[some (.dat (.int w)),some (.dat (.int h)),some x,some (.loc (O.length+h*(w+2))),some (.loc (O.length+h*(w+2)+1+h*(w+2))),o5,o6,o],O'++zBG zs w j⟩/\d=news O'.length j/\j<=h) (fun j s d _=>rfl) (fun j y s d ey zz105=>by
    obtain ⟨o,p1,p2,p3⟩:=zz105;subst p1 p2;have hj:j < h:=by
     have:=(zzg ey).1;rw [length_map,zAb] at this;exact this
    have ey2:y=.dat (.int (j:Int)):=by
     unfold rngL at ey;rw [map_map,getElem?_map,getElem?_range hj] at ey;have:=(Option.some.inj ey).symm;rw [this];simp
    subst ey2;have t5:=m4.app (zBG zs w j);have t6:=m5.app (zBG zs w j);have lr:(O'++zBG zs w j).length=O'.length+j:=by rw [length_append];unfold zBG;rw [length_map,length_range]
    refine ⟨by rw [zB1];omega,⟨[some (.dat (.int w)),some (.dat (.int h)),some x,some (.loc (O.length+h*(w+2))),some (.loc (O.length+h*(w+2)+1+h*(w+2))),o5,o6,some (.dat (.int (j:Int)))],O'++zBG zs w j⟩,(.loc (O'++zBG zs w j).length,(O'++zBG zs w j)++[((rowZ zs w j).map ratD).map .dat]),rfl,?_,some (.dat (.int (j:Int))),?_,?_,by omega⟩
    .refine (zA9 (Q:=fun r=>r=(W.loc (O'++zBG zs w j).length,(O'++zBG zs w j)++[((rowZ zs w j).map ratD).map .dat])) (zBa (zBa (zAY ((zKq (zNE t5)).trans (congrArg _ ((zKq (zNE t6)).trans (congrArg _ (zAY (zAY (zBa rfl))))))))) ) ?_).eq;refine zAS ew (zAF (zA6 (zAG rfl (zAG rfl ?_))));refine zAz (d:=zEz ((List.range (w+1)).map (fc zs j))) (zAq (by rw [getElem?_map,getElem?_range hj];rfl)) (n_cl (zAF (zA6 (zAG rfl (zAG rfl ?_)))));refine zAz (d:=zEz ((List.range (w+1)).map (gc zs j))) (zAq (by rw [getElem?_map,getElem?_range hj];rfl)) (n_cl (zAo ?_));refine hw _ _ w zs.length (24*n+100) _ (by simp) (by simp) w2 zl zb (fun f hf=>?_) (fun f hf=>?_) ?_
     .obtain ⟨c,_,rfl⟩:=mem_map.mp hf;exact zSR pcs j c
     .obtain ⟨c,_,rfl⟩:=mem_map.mp hf;exact zSM (by omega) pcs j c
     .exact n_fr (zLG (zLz _) rfl)
    .have:zBG zs w (j+1)=zBG zs w j++[((rowZ zs w j).map ratD).map .dat]:=by
      unfold zBG;rw [range_succ,map_append,map_map]
      rfl
     rw [this,append_assoc]
    .rw [zC6,lr]) ⟨none,by unfold zBG;rw [List.range_zero,map_nil,append_nil];rfl,rfl,zero_le _⟩
  have lw:((rngL 0 h).map W.dat).length=h:=by rw [length_map,zAb]
  rw [lw] at p1 p2;subst p1;have e2:y=(news O'.length h,O'++zBG zs w h):=Prod.ext p2 p4.symm;refine ⟨y,N,e,by rw [p2,zB1];omega,?_⟩;rw [e2];have em:∃ P:Mem,O'=O++P:=by
   refine ⟨O'.drop O.length,?_⟩;have:O=O'.take O.length:=by
    apply ext_getElem?;intro m;rw [List.getElem?_take];by_cases q:m < O.length
    .rw [if_pos q];exact (m2 m q).symm
    .rw [if_neg q,getElem?_eq_none (by omega)]
   exact (List.take_append_drop O.length O').symm.trans (congrArg (fun l=>l++O'.drop O.length) this.symm)
  obtain ⟨P,rfl⟩:=em;have q:=hQ P;have lr:(O++P++zBG zs w h).length=(O++P).length+h:=by rw [length_append];unfold zBG;rw [length_map,length_range]
  show KFM Q (.rt (.loc (O++P++zBG zs w h).length,_));rw [lr];exact q
 .intro m hm;rw [append_assoc,append_assoc,getElem?_append_left hm]
 .rw [getElem?_append_right (le_refl _),sub_self];rfl
 .exact ta.app _
 .exact t2.app _
theorem zI1 {U:Type}(f g:U->Rat):∀ l:List U,DM.sumR (l.map fun i=>f i+g i)=DM.sumR (l.map f)+DM.sumR (l.map g)
 | []=>by simp [DM.sumR,Rat.add_zero]
 | a::l=>by
  simp only [map_cons,DM.sumR,zI1 f g l];grind
theorem zIz (P:Prop)[Decidable P](m:Int)(v:Rat)(hm:-1<=m):∀ k:Nat,DM.sumR ((List.range k).map fun (c:Nat)=>if P/\m+1=(c:Int) then v else 0)=if P/\m+1 < (k:Int) then v else 0
 | 0=>by
  rw [if_neg (by omega)]
  rfl
 | k+1=>by
  rw [range_succ,map_append,DM.zCw,zIz P m v hm k];simp only [map_cons,map_nil,DM.sumR,Rat.add_zero];by_cases hP:P
  .by_cases h1:m+1 < (k:Int)
   .rw [if_pos ⟨hP,h1⟩,if_neg (by omega),if_pos ⟨hP,by omega⟩,Rat.add_zero]
   .by_cases h2:m+1=(k:Int)
    .rw [if_neg (by omega),if_pos ⟨hP,h2⟩,if_pos ⟨hP,by omega⟩,Rat.zero_add]
    .rw [if_neg (by omega),if_neg (by omega),if_neg (by omega),Rat.add_zero]
  .rw [if_neg (fun q=>hP q.1),if_neg (fun q=>hP q.1),if_neg (fun q=>hP q.1),Rat.add_zero]
theorem zPx (z:Pc)(zs:List Pc)(r c:Nat):DM.sumR (fc (z::zs) r c)=(if z.r=(r:Int)/\z.c+1=(c:Int) then zCM z else 0)+DM.sumR (fc zs r c):=by
 unfold fc;rw [filter_cons];by_cases q:z.r=(r:Int)/\z.c+1=(c:Int)
 .rw [if_pos q,if_pos (by simp only [and_eq_true,decide_eq_true_eq];exact q),map_cons,DM.sumR]
 .rw [if_neg q,if_neg (by simp only [and_eq_true,decide_eq_true_eq];exact q),Rat.zero_add]
theorem zPp (z:Pc)(zs:List Pc)(r c:Nat):DM.sumR (gc (z::zs) r c)=(if z.r=(r:Int)/\z.c+1=(c:Int) then zCg z else 0)+DM.sumR (gc zs r c):=by
 unfold gc;rw [filter_cons];by_cases q:z.r=(r:Int)/\z.c+1=(c:Int)
 .rw [if_pos q,if_pos (by simp only [and_eq_true,decide_eq_true_eq];exact q),map_cons,DM.sumR]
 .rw [if_neg q,if_neg (by simp only [and_eq_true,decide_eq_true_eq];exact q),Rat.zero_add]
theorem zFi (r c:Nat):∀ zs:List Pc,(∀ z∈zs,-1<=z.c)->DM.sumR ((List.range (c+1)).map fun c'=>DM.sumR (fc zs r c'))+DM.sumR (gc zs r (c+1))=dueZ zs c r
 | [],_=>by
  have:∀ k:Nat,DM.sumR ((List.range k).map fun c'=>DM.sumR (fc [] r c'))=0:=fun k=>by
   induction k with
   | zero=>rfl
   | succ k ih=>rw [range_succ,map_append,DM.zCw,ih];simp [fc,DM.sumR,Rat.add_zero]
  rw [this];simp [gc,dueZ,DM.sumR,Rat.add_zero]
 | z::zs,hz=>by
  have ih:=zFi r c zs fun y hy=>hz y (mem_cons_of_mem _ hy)
  have hc:=hz z mem_cons_self;have e1:((List.range (c+1)).map fun c'=>DM.sumR (fc (z::zs) r c'))=(List.range (c+1)).map fun (c':Nat)=>(if z.r=(r:Int)/\z.c+1=(c':Int) then zCM z else 0)+DM.sumR (fc zs r c'):=map_congr_left fun c' _=>zPx z zs r c'
  rw [e1,zI1,zIz (z.r=(r:Int)) z.c (zCM z) hc,zPp];have ed:dueZ (z::zs) c r=dz c r z+dueZ zs c r:=by unfold dueZ;rw [map_cons,DM.sumR]
  rw [ed,<- ih];unfold dz;have i1:(z.r=(r:Int)/\z.c+1 < ((c+1:Nat):Int))<->(z.r=(r:Int)/\z.c < (c:Int)):=by omega
  have i2:(z.r=(r:Int)/\z.c+1=((c+1:Nat):Int))<->(z.r=(r:Int)/\z.c=(c:Int)):=by omega
  simp only [i1,i2];grind
theorem zFj {zs:List Pc}{w r c:Nat}(hz:∀ z∈zs,-1<=z.c)(hc:c < w):(rowZ zs w r)[c]?=some (dueZ zs c r):=by
 unfold rowZ zLe;rw [getElem?_map,getElem?_range hc,Option.map_some,<- zFi r c zs hz];congr 1;congr 1
 .unfold zDA;rw [<- List.map_take,List.take_range,Nat.min_eq_left (by omega),map_map]
  rfl
 .rw [getD_eq_getElem?_getD,getElem?_map,getElem?_range (by omega)]
  rfl
def tabT (zs:List Pc)(w h:Nat):D:=.lst ((List.range h).map fun r=>zBH (rowZ zs w r))
theorem zJA (zs:List Pc)(w r:Nat):(rowZ zs w r).length=w:=by unfold rowZ zLe;rw [length_map,length_range]
abbrev Lp:=List (Nat×List D)
structure Ll (O:Mem)(n:Nat)(l:Lp):Prop where
 top:O[n]?=some (l.map fun p=>.loc p.1)
 row:∀ p∈l,O[p.1]?=some (p.2.map .dat)
abbrev llD (l:Lp):D:=.lst (l.map fun p=>.lst p.2)
theorem Ll.dr {O:Mem}{n:Nat}{l:Lp}(e:Ll O n l):drW O (.loc n)=some (llD l):=by
 unfold drW;rw [sbW];exact zGA e.top (zEy (fun p:Nat×List D=>p.1) (fun p=>.lst p.2) l fun p hp=>zEB (e.row p hp))
theorem Ll.keep {O O':Mem}{n:Nat}{l:Lp}(e:Ll O n l)(k1:O'[n]?=O[n]?)(k2:∀ p∈l,O'[p.1]?=O[p.1]?):Ll O' n l:=⟨by rw [k1];exact e.top,fun p hp=>by rw [k2 p hp];exact e.row p hp⟩
theorem Ll.app {O:Mem}{n:Nat}{l:Lp}(e:Ll O n l)(P:Mem):Ll (O++P) n l:=⟨zA1 e.top,fun p hp=>zA1 (e.row p hp)⟩
theorem Ll.lt {O:Mem}{n:Nat}{l:Lp}(e:Ll O n l):n < O.length/\∀ p∈l,p.1 < O.length:=⟨(zzg e.top).1,fun p hp=>(zzg (e.row p hp)).1⟩
theorem zAK {O:Mem}{G:List (Option W)}{i:Nat}{w:W}{d:D}(e:G[i]?=some (some w))(h:drW O w=some d):(drS O G)[i]?=some (some (d,false)):=by
 unfold drS;rw [getElem?_map,e,Option.map_some,Option.bind_some,h]
 rfl
theorem zAT {O:Mem}{d:D}:drW O (.dat d)=some d:=by unfold drW;rw [sbW]
theorem zHx {O:Mem}{n:Nat}{ds:List D}(e:O[n]?=some (ds.map .dat)):drW O (.loc n)=some (.lst ds):=by unfold drW;rw [sbW];exact zEB e
def zIU (m:Nat)(l:Lp):Lp:=(List.range l.length).map fun j=>(m+j,((l[j]?).getD (0,[])).2)
theorem zJk (m:Nat)(l:Lp):(zIU m l).map (fun p=>p.2)=l.map fun p=>p.2:=by
 unfold zIU;rw [map_map];apply ext_getElem?;intro i;rw [getElem?_map,getElem?_map];by_cases q:i < l.length
 .rw [getElem?_range q,getElem?_eq_getElem q];simp [getElem?_eq_getElem q]
 .rw [getElem?_eq_none (by rw [length_range];omega),getElem?_eq_none (by omega)]
  rfl
theorem zPI {l l':Lp}(h:l.map (fun p=>p.2)=l'.map fun p=>p.2):llD l=llD l':=by
 have a:∀ l:Lp,l.map (fun p=>D.lst p.2)=(l.map fun p=>p.2).map D.lst:=fun l=>by rw [map_map];rfl
 unfold llD;rw [a,a,h]
theorem zGi (ps:List Pt):noLs (ps.map ptD)=true:=by
 induction ps with
 | nil=>rfl
 | cons p ps ih =>
  show (noL (ptD p)&&noLs (ps.map ptD))=true;rw [ih]
  rfl
abbrev zFo (ps:List Pt):List W:=(ps.map ptD).map .dat
def lpR (m:Nat)(rs:List (List Pt)):Lp:=(List.range rs.length).map fun j=>(m+j,((rs[j]?).getD []).map ptD)
theorem zPE (m:Nat)(rs:List (List Pt)):llD (lpR m rs)=zAX rs:=by
 unfold llD lpR zAX;rw [map_map];congr 1;apply ext_getElem?;intro i;rw [getElem?_map,getElem?_map];by_cases q:i < rs.length
 .rw [getElem?_range q,getElem?_eq_getElem q];simp [getElem?_eq_getElem q,zBj]
 .rw [getElem?_eq_none (by rw [length_range];omega),getElem?_eq_none (by omega)]
  rfl
theorem zPF {m:Nat}{rs:List (List Pt)}{p:Nat×List D}(h:p∈lpR m rs):∃ j ps,rs[j]?=some ps/\p=(m+j,ps.map ptD):=by
 unfold lpR at h;obtain ⟨j,hj,rfl⟩:=mem_map.mp h;have hj:=mem_range.mp hj;exact ⟨j,rs[j],getElem?_eq_getElem hj,by rw [getElem?_eq_getElem hj];rfl⟩
theorem zPG (m:Nat)(rs:List (List Pt)):(lpR m rs).length=rs.length:=by unfold lpR;rw [length_map,length_range]
theorem zL4 (m:Nat)(rs:List (List Pt)):((lpR m rs).map fun p=>W.loc p.1)=news m rs.length:=by
 unfold lpR news;rw [map_map]
 rfl
def lpT (b:Nat)(zs:List Pc)(w h:Nat):Lp:=(List.range h).map fun r=>(b+r,(rowZ zs w r).map ratD)
theorem zTb (b:Nat)(zs:List Pc)(w h:Nat):llD (lpT b zs w h)=tabT zs w h:=by unfold llD lpT tabT;rw [map_map];rfl
theorem zPD {b w h:Nat}{zs:List Pc}{p:Nat×List D}(hp:p∈lpT b zs w h):∃ r,r < h/\p=(b+r,(rowZ zs w r).map ratD):=by
 unfold lpT at hp;obtain ⟨r,hr,rfl⟩:=mem_map.mp hp;exact ⟨r,mem_range.mp hr,rfl⟩
theorem zDp (zs:List Pc)(w h:Nat):(zBG zs w h).length=h:=by unfold zBG;rw [length_map,length_range]
theorem zRd (O:Mem)(zs:List Pc)(w h:Nat):Ll (O++zBG zs w h++[news O.length h]) (O.length+h) (lpT O.length zs w h):=by
 refine ⟨?_,fun p hp=>?_⟩
 .rw [getElem?_append_right (by rw [length_append,zDp];omega),length_append,zDp,sub_self];unfold lpT news;rw [map_map]
  rfl
 .obtain ⟨r,hr,rfl⟩:=zPD hp;dsimp only;rw [getElem?_append_left (by rw [length_append,zDp];omega),getElem?_append_right (by omega),Nat.add_sub_cancel_left];unfold zBG;rw [getElem?_map,getElem?_range hr,map_map]
  rfl
theorem zJx {C:Gm}{u:Dm}{nm:Str}{N n:Nat}{ms:List Nat}{src el:ME}{G:List (Option W)}{O0 O:Mem}{l:Lp}{f:List D->List D}{Q:MR->Prop}(hs:EvP (evSrc C u src ⟨G,O0⟩) fun r=>r=(.live n,O))(e:Ll O n l)(hN:(mask none ms G).length=N)(hl:l.length<=100)
  (he:∀ (P:Mem) (p:Nat×List D),p∈l->(O++P)[p.1]?=some (p.2.map .dat)->EvP (evM C u el ⟨mask none ms G++[some (.loc p.1)],O++P⟩) fun r=>r=(.loc (O++P).length,O++P++[(f p.2).map .dat]))
  (hQ:∀ (P:Mem) (l':Lp),Ll (O++P) (O.length+l.length) l'->(∀ p∈l',O.length<=p.1)->l'.map (fun p=>p.2)=l.map (fun p=>f p.2)->Q (.loc (O.length+l.length),O++P)) :
  EvP (evM C u (.comp N ms nm src el) ⟨G,O0⟩) Q:=by
 obtain ⟨r,er,rfl⟩:=hs;refine zFy ⟨_,er,?_⟩;obtain ⟨y,s',M,ey,⟨o,p1,p2,p3⟩,p4⟩:=zGD (t:=tgM N) (e:=evM C u el) (src:=.live n) (s:=⟨mask none ms G++[none],O⟩) (l.map fun p=>.loc p.1)
  (fun j s d=>∃ o:Option W,s=⟨mask none ms G++[o],O++(l.take j).map fun p=>(f p.2).map W.dat⟩/\d=news O.length j/\j<=l.length) (fun j s d zy123=>by obtain ⟨o,p1,_,_⟩:=zy123;subst p1;exact zA1 e.top) (fun j w s d ew zz106=>by
   obtain ⟨o,p1,p2,p3⟩:=zz106;subst p1 p2;rw [getElem?_map] at ew;obtain ⟨p,ep,rfl⟩:=map_eq_some_iff.mp ew;have hj:j < l.length:=(zzg ep).1;have mp:=mem_of_getElem? ep;have lm:(O++(l.take j).map fun p=>(f p.2).map W.dat).length=O.length+j:=by rw [length_append,length_map,length_take];omega
   refine ⟨by rw [zB1];omega,⟨mask none ms G++[some (.loc p.1)],O++(l.take j).map fun p=>(f p.2).map W.dat⟩,(.loc (O++(l.take j).map fun p=>(f p.2).map W.dat).length,(O++(l.take j).map fun p=>(f p.2).map W.dat)++[(f p.2).map .dat]),?_,(he _ p mp (zA1 (e.row p mp))).eq,some (.loc p.1),?_,?_,by omega⟩
   .unfold tgM;dsimp only;rw [set_append_right _ _ (by omega),hN,sub_self]
    rfl
   .rw [take_add_one,ep,Option.toList_some,map_append,append_assoc];rfl
   .rw [zC6,lm]) ⟨none,by rw [take_zero,map_nil,append_nil],rfl,zero_le _⟩
 rw [length_map] at p1 p2;subst p1;rw [take_length] at p4;have e2:y=(news O.length l.length,O++l.map fun p=>(f p.2).map W.dat):=Prod.ext p2 p4.symm;refine ⟨y,M,ey,by rw [p2,zB1];omega,?_⟩;rw [e2];have lm:(O++l.map fun p=>(f p.2).map W.dat).length=O.length+l.length:=by rw [length_append,length_map]
 dsimp only;rw [lm,append_assoc];refine hQ _ ((zIU O.length l).map fun p=>(p.1,f p.2)) ⟨?_,?_⟩ ?_ ?_
 .rw [<- append_assoc,getElem?_append_right (by rw [lm];exact le_refl _),lm,sub_self,map_map];unfold zIU news;rw [map_map]
  rfl
 .intro p hp;obtain ⟨p0,hp0,rfl⟩:=mem_map.mp hp;unfold zIU at hp0;obtain ⟨j,hj,rfl⟩:=mem_map.mp hp0;have hj:=mem_range.mp hj;dsimp only;rw [<- append_assoc,getElem?_append_left (by rw [lm];omega),getElem?_append_right (by omega),Nat.add_sub_cancel_left,getElem?_map,getElem?_eq_getElem hj]
  rfl
 .intro p hp;obtain ⟨p0,hp0,rfl⟩:=mem_map.mp hp;unfold zIU at hp0;obtain ⟨j,hj,rfl⟩:=mem_map.mp hp0;exact Nat.le_add_right _ _
 .rw [map_map];have:=congrArg (List.map f) (zJk O.length l);rw [map_map,map_map] at this;exact this
end DL
end
open PySem L2 DL
local macro_rules | `(tactic| walk_at "f")=>`(tactic| exact ⟨rfl,rfl,rfl,by decide +kernel,rfl,by decide +kernel,by decide +kernel⟩)
section
namespace Q
open PySem L2 DL
def top (i:Nat):Stmt:=PySem.Challenge.pw_coverfill_k22_quarter_and_mirror.main.body.getD i (.Pass ⟨0,0,0,0⟩)
def bs:List Str:=["abs","len","range","list","zip","reversed","max","isinstance","bool","int","tuple"]
def N0:List Str:=["one","other","rest"]
def P0:List Str:=["one","other"]
def b0:S:=.cons (.whl (.cmp .Gt (.var 1) (.int 0)) (.cons (.set 2 (.bin .Mod (.var 0) (.var 1))) (.cons (.set 0 (.var 1)) (.cons (.set 1 (.var 2)) .nil)))) (.cons (.ret (.var 0)) .nil)
theorem sc0:zAC N0 P0 (zAA (top 6)):=by (walk_at "f")
theorem ck0:cSs (zAA (top 6)) N0 bs b0 (zAB (top 6))=true:=by decide +kernel
def N1:List Str:=["top","bottom","measure"]
def P1:List Str:=["top","bottom"]
def b1:S:=.cons (.ife (.cmp .Eq (.var 1) (.int 0)) (.cons (.rse "NoRatio" (.str "the bottom of a ratio is not 0")) .nil) .nil) (.cons (.set 2 (.call 0 "common_measure" (.cons (.abs (.var 0)) (.cons (.abs (.var 1)) .nil)))) (.cons (.ife (.cmp .Lt (.var 1) (.int 0)) (.cons (.set 2 (.neg (.var 2))) .nil) .nil) (.cons (.ret (.tup (.cons (.bin .FloorDiv (.var 0) (.var 2)) (.cons (.bin .FloorDiv (.var 1) (.var 2)) .nil)))) .nil)))
theorem sc1:zAC N1 P1 (zAA (top 7)):=by (walk_at "f")
theorem ck1:cSs (zAA (top 7)) N1 bs b1 (zAB (top 7))=true:=by decide +kernel
def N2:List Str:=["one","other"]
def P2:List Str:=["one","other"]
def b2:S:=.cons (.ret (.call 1 "ratio" (.cons (.bin .Add (.bin .Mult (.ix (.var 0) (.int 0)) (.ix (.var 1) (.int 1))) (.bin .Mult (.ix (.var 1) (.int 0)) (.ix (.var 0) (.int 1)))) (.cons (.bin .Mult (.ix (.var 0) (.int 1)) (.ix (.var 1) (.int 1))) .nil)))) .nil
theorem sc2:zAC N2 P2 (zAA (top 8)):=by (walk_at "f")
theorem ck2:cSs (zAA (top 8)) N2 bs b2 (zAB (top 8))=true:=by decide +kernel
def N3:List Str:=["one","other"]
def P3:List Str:=["one","other"]
def b3:S:=.cons (.ret (.call 1 "ratio" (.cons (.bin .Sub (.bin .Mult (.ix (.var 0) (.int 0)) (.ix (.var 1) (.int 1))) (.bin .Mult (.ix (.var 1) (.int 0)) (.ix (.var 0) (.int 1)))) (.cons (.bin .Mult (.ix (.var 0) (.int 1)) (.ix (.var 1) (.int 1))) .nil)))) .nil
theorem sc3:zAC N3 P3 (zAA (top 9)):=by (walk_at "f")
theorem ck3:cSs (zAA (top 9)) N3 bs b3 (zAB (top 9))=true:=by decide +kernel
def N4:List Str:=["one","other"]
def P4:List Str:=["one","other"]
def b4:S:=.cons (.ret (.call 1 "ratio" (.cons (.bin .Mult (.ix (.var 0) (.int 0)) (.ix (.var 1) (.int 0))) (.cons (.bin .Mult (.ix (.var 0) (.int 1)) (.ix (.var 1) (.int 1))) .nil)))) .nil
theorem sc4:zAC N4 P4 (zAA (top 10)):=by (walk_at "f")
theorem ck4:cSs (zAA (top 10)) N4 bs b4 (zAB (top 10))=true:=by decide +kernel
def N5:List Str:=["one","other"]
def P5:List Str:=["one","other"]
def b5:S:=.cons (.ret (.call 1 "ratio" (.cons (.bin .Mult (.ix (.var 0) (.int 0)) (.ix (.var 1) (.int 1))) (.cons (.bin .Mult (.ix (.var 0) (.int 1)) (.ix (.var 1) (.int 0))) .nil)))) .nil
theorem sc5:zAC N5 P5 (zAA (top 11)):=by (walk_at "f")
theorem ck5:cSs (zAA (top 11)) N5 bs b5 (zAB (top 11))=true:=by decide +kernel
def N6:List Str:=["some","added"]
def P6:List Str:=["some"]
def b6:S:=.cons (.setC 1 (.comp1 2 [] "k" (.r3 (.int 0) (.bin .Sub (.len (.var 0)) (.int 1)) (.int 2)) .nil (.call 2 "plus" (.cons (.ix (.var 0) (.var 2)) (.cons (.ix (.var 0) (.bin .Add (.var 2) (.int 1))) .nil))))) (.cons (.ife (.cmp .Eq (.bin .Mod (.len (.var 0)) (.int 2)) (.int 1)) (.cons (.app 1 (.ix (.var 0) (.neg (.int 1)))) .nil) .nil) (.cons (.retOwn 1) .nil))
theorem sc6:zAC N6 P6 (zAA (top 12)):=by (walk_at "f")
theorem ck6:cSs (zAA (top 12)) N6 bs b6 (zAB (top 12))=true:=by decide +kernel
def N7:List Str:=["some","sums"]
def P7:List Str:=["some"]
def b7:S:=.cons (.set 1 (.list (.var 0))) (.cons (.whl (.cmp .Gt (.len (.var 1)) (.int 1)) (.frz 1 (.cons (.set 1 (.call 6 "neighbours_added" (.cons (.var 1) .nil))) .nil))) (.cons (.ret (.ite (.cmp .Eq (.len (.var 1)) (.int 1)) (.ix (.var 1) (.int 0)) (.glob 0 "NOUGHT"))) .nil))
theorem sc7:zAC N7 P7 (zAA (top 13)):=by (walk_at "f")
theorem ck7:cSs (zAA (top 13)) N7 bs b7 (zAB (top 13))=true:=by decide +kernel
def N8:List Str:=["one","other"]
def P8:List Str:=["one","other"]
def b8:S:=.cons (.ret (.cmp .Lt (.bin .Mult (.ix (.var 0) (.int 0)) (.ix (.var 1) (.int 1))) (.bin .Mult (.ix (.var 1) (.int 0)) (.ix (.var 0) (.int 1))))) .nil
theorem sc8:zAC N8 P8 (zAA (top 14)):=by (walk_at "f")
theorem ck8:cSs (zAA (top 14)) N8 bs b8 (zAB (top 14))=true:=by decide +kernel
def N9:List Str:=["one"]
def P9:List Str:=["one"]
def b9:S:=.cons (.ret (.bin .FloorDiv (.ix (.var 0) (.int 0)) (.ix (.var 0) (.int 1)))) .nil
theorem sc9:zAC N9 P9 (zAA (top 15)):=by (walk_at "f")
theorem ck9:cSs (zAA (top 15)) N9 bs b9 (zAB (top 15))=true:=by decide +kernel
def N10:List Str:=["shape","change"]
def P10:List Str:=["shape","change"]
def mb10:MT:=.cons (.ret (.comp 2 [] "ring" (.it (.var 0)) (.comp 3 [] "point" (.it (.var 2)) (.pur (.callv 1 (.var 3)))))) .nil
theorem zTY:cSs' (zAA (top 17)) N10 bs mb10 (zAB (top 17))=true:=by decide +kernel
theorem sc10:zAC N10 P10 (zAA (top 17)):=by (walk_at "f")
def N11:List Str:=["shape","height"]
def P11:List Str:=["shape","height"]
theorem sc11:zAC N11 P11 (zAA (top 18)):=by (walk_at "f")
def N12:List Str:=["shape","width"]
def P12:List Str:=["shape","width"]
theorem sc12:zAC N12 P12 (zAA (top 19)):=by (walk_at "f")
def N13:List Str:=["ring"]
def P13:List Str:=["ring"]
def b13:S:=.cons (.ret (.lzip (.var 0) (.bin .Add (.sl (.var 0) (.cons (.int 1) .nil) .nil) (.sl (.var 0) .nil (.cons (.int 1) .nil))))) .nil
theorem sc13:zAC N13 P13 (zAA (top 21)):=by (walk_at "f")
theorem ck13:cSs (zAA (top 21)) N13 bs b13 (zAB (top 21))=true:=by decide +kernel
def N14:List Str:=["start","end","last"]
def P14:List Str:=["start","end","last"]
def b14:S:=.cons (.ife (.call 8 "under" (.cons (.var 1) (.cons (.var 0) .nil))) (.cons (.ret (.lrev (.call 14 "numbers_between" (.cons (.var 1) (.cons (.var 0) (.cons (.var 2) .nil)))))) .nil) .nil) (.cons (.ret (.comp1 3 [] "number" (.r1 (.bin .Add (.var 2) (.int 1))) (.cons (.andl (.cons (.call 8 "under" (.cons (.var 0) (.cons (.tup (.cons (.var 3) (.cons (.int 1) .nil))) .nil))) (.cons (.call 8 "under" (.cons (.tup (.cons (.var 3) (.cons (.int 1) .nil))) (.cons (.var 1) .nil))) .nil))) .nil) (.var 3))) .nil)
theorem sc14:zAC N14 P14 (zAA (top 23)):=by (walk_at "f")
theorem ck14:cSs (zAA (top 23)) N14 bs b14 (zAB (top 23))=true:=by decide +kernel
def N15:List Str:=["numbers","start","end","rest","rest_end","slope"]
def P15:List Str:=["numbers","start","end","rest","rest_end"]
def b15:S:=.cons (.ife (.cmp .Eq (.len (.var 0)) (.int 0)) (.cons (.ret (.lst .nil)) .nil) .nil) (.cons (.set 5 (.call 5 "parted" (.cons (.call 3 "minus" (.cons (.var 4) (.cons (.var 3) .nil))) (.cons (.call 3 "minus" (.cons (.var 2) (.cons (.var 1) .nil))) .nil)))) (.cons (.ret (.comp1 6 [] "number" (.it (.var 0)) .nil (.call 2 "plus" (.cons (.var 3) (.cons (.call 4 "times" (.cons (.var 5) (.cons (.call 3 "minus" (.cons (.tup (.cons (.var 6) (.cons (.int 1) .nil))) (.cons (.var 1) .nil))) .nil))) .nil))))) .nil))
theorem sc15:zAC N15 P15 (zAA (top 24)):=by (walk_at "f")
theorem ck15:cSs (zAA (top 24)) N15 bs b15 (zAB (top 24))=true:=by decide +kernel
def N16:List Str:=["side","width","start","end","numbers","heights"]
def P16:List Str:=["side","width"]
def b16:S:=.cons (.set 2 (.ix (.var 0) (.int 0))) (.cons (.set 3 (.ix (.var 0) (.int 1))) (.cons (.set 4 (.call 14 "numbers_between" (.cons (.ix (.var 2) (.int 0)) (.cons (.ix (.var 3) (.int 0)) (.cons (.var 1) .nil))))) (.frz 4 (.cons (.set 5 (.call 15 "rests_at" (.cons (.var 4) (.cons (.ix (.var 2) (.int 0)) (.cons (.ix (.var 3) (.int 0)) (.cons (.ix (.var 2) (.int 1)) (.cons (.ix (.var 3) (.int 1)) .nil))))))) (.frz 4 (.frz 5 (.cons (.ret (.comp1 6 [] "k" (.r1 (.len (.var 4))) .nil (.tup (.cons (.tup (.cons (.ix (.var 4) (.var 6)) (.cons (.int 1) .nil))) (.cons (.ix (.var 5) (.var 6)) .nil))))) .nil)))))))
theorem sc16:zAC N16 P16 (zAA (top 25)):=by (walk_at "f")
theorem ck16:cSs (zAA (top 25)) N16 bs b16 (zAB (top 25))=true:=by decide +kernel
def N17:List Str:=["side","height","start","end","numbers","widths"]
def P17:List Str:=["side","height"]
def b17:S:=.cons (.set 2 (.ix (.var 0) (.int 0))) (.cons (.set 3 (.ix (.var 0) (.int 1))) (.cons (.set 4 (.call 14 "numbers_between" (.cons (.ix (.var 2) (.int 1)) (.cons (.ix (.var 3) (.int 1)) (.cons (.var 1) .nil))))) (.frz 4 (.cons (.set 5 (.call 15 "rests_at" (.cons (.var 4) (.cons (.ix (.var 2) (.int 1)) (.cons (.ix (.var 3) (.int 1)) (.cons (.ix (.var 2) (.int 0)) (.cons (.ix (.var 3) (.int 0)) .nil))))))) (.frz 4 (.frz 5 (.cons (.ret (.comp1 6 [] "k" (.r1 (.len (.var 4))) .nil (.tup (.cons (.ix (.var 5) (.var 6)) (.cons (.tup (.cons (.ix (.var 4) (.var 6)) (.cons (.int 1) .nil))) .nil))))) .nil)))))))
theorem sc17:zAC N17 P17 (zAA (top 26)):=by (walk_at "f")
theorem ck17:cSs (zAA (top 26)) N17 bs b17 (zAB (top 26))=true:=by decide +kernel
def N18:List Str:=["one","other","to_the_right"]
def P18:List Str:=["one","other","to_the_right"]
def b18:S:=.cons (.ife (.var 2) (.cons (.ret (.call 8 "under" (.cons (.ix (.var 0) (.int 0)) (.cons (.ix (.var 1) (.int 0)) .nil)))) .nil) .nil) (.cons (.ret (.call 8 "under" (.cons (.ix (.var 1) (.int 0)) (.cons (.ix (.var 0) (.int 0)) .nil)))) .nil)
theorem sc18:zAC N18 P18 (zAA (top 27)):=by (walk_at "f")
theorem ck18:cSs (zAA (top 27)) N18 bs b18 (zAB (top 27))=true:=by decide +kernel
def N19:List Str:=["some","others","to_the_right","points","k","point"]
def P19:List Str:=["some","others","to_the_right"]
def b19:S:=.cons (.set 3 (.lst .nil)) (.cons (.set 4 (.int 0)) (.cons (.for1 5 (.it (.var 0)) (.cons (.whl (.andl (.cons (.cmp .Lt (.var 4) (.len (.var 1))) (.cons (.call 18 "comes_ahead" (.cons (.ix (.var 1) (.var 4)) (.cons (.var 5) (.cons (.var 2) .nil)))) .nil))) (.cons (.app 3 (.ix (.var 1) (.var 4))) (.cons (.aug .Add 4 (.int 1)) .nil))) (.cons (.ife (.andl (.cons (.cmp .Lt (.var 4) (.len (.var 1))) (.cons (.cmp .Eq (.ix (.var 1) (.var 4)) (.var 5)) .nil))) (.cons (.aug .Add 4 (.int 1)) .nil) .nil) (.cons (.app 3 (.var 5)) .nil)))) (.cons (.ret (.bin .Add (.var 3) (.sl (.var 1) (.cons (.var 4) .nil) .nil))) .nil)))
theorem sc19:zAC N19 P19 (zAA (top 28)):=by (walk_at "f")
theorem ck19:cSs (zAA (top 28)) N19 bs b19 (zAB (top 28))=true:=by decide +kernel
def N20:List Str:=["width","height","side","start","end","crossed"]
def P20:List Str:=["width","height","side"]
def b20:S:=.cons (.set 3 (.ix (.var 2) (.int 0))) (.cons (.set 4 (.ix (.var 2) (.int 1))) (.cons (.set 5 (.call 19 "made_one" (.cons (.call 16 "upright_crossings" (.cons (.var 2) (.cons (.var 0) .nil))) (.cons (.call 17 "level_crossings" (.cons (.var 2) (.cons (.var 1) .nil))) (.cons (.call 8 "under" (.cons (.ix (.var 3) (.int 0)) (.cons (.ix (.var 4) (.int 0)) .nil))) .nil))))) (.frz 4 (.frz 3 (.cons (.ret (.bin .Add (.bin .Add (.lst (.cons (.var 3) .nil)) (.var 5)) (.lst (.cons (.var 4) .nil)))) .nil)))))
theorem sc20:zAC N20 P20 (zAA (top 29)):=by (walk_at "f")
theorem ck20:cSs (zAA (top 29)) N20 bs b20 (zAB (top 29))=true:=by decide +kernel
def N21:List Str:=["one","other"]
def P21:List Str:=["one","other"]
def b21:S:=.cons (.ret (.call 4 "times" (.cons (.glob 1 "HALF") (.cons (.call 2 "plus" (.cons (.var 0) (.cons (.var 1) .nil))) .nil)))) .nil
theorem sc21:zAC N21 P21 (zAA (top 30)):=by (walk_at "f")
theorem ck21:cSs (zAA (top 30)) N21 bs b21 (zAB (top 30))=true:=by decide +kernel
def N22:List Str:=["start","end","column","row"]
def P22:List Str:=["start","end"]
def b22:S:=.cons (.set 2 (.call 9 "whole_part" (.cons (.call 21 "middle" (.cons (.ix (.var 0) (.int 0)) (.cons (.ix (.var 1) (.int 0)) .nil))) .nil))) (.cons (.set 3 (.call 9 "whole_part" (.cons (.call 21 "middle" (.cons (.ix (.var 0) (.int 1)) (.cons (.ix (.var 1) (.int 1)) .nil))) .nil))) (.cons (.ret (.tup (.cons (.max (.var 2) (.neg (.int 1))) (.cons (.var 3) (.cons (.var 0) (.cons (.var 1) .nil)))))) .nil))
theorem sc22:zAC N22 P22 (zAA (top 31)):=by (walk_at "f")
theorem ck22:cSs (zAA (top 31)) N22 bs b22 (zAB (top 31))=true:=by decide +kernel
def N23:List Str:=["width","height","piece"]
def P23:List Str:=["width","height","piece"]
def b23:S:=.cons (.ret (.andl (.cons (.cmp .Lt (.ix (.var 2) (.int 0)) (.var 0)) (.cons (.chn .LtE .Lt (.int 0) (.ix (.var 2) (.int 1)) (.var 1)) .nil)))) .nil
theorem sc23:zAC N23 P23 (zAA (top 32)):=by (walk_at "f")
theorem ck23:cSs (zAA (top 32)) N23 bs b23 (zAB (top 32))=true:=by decide +kernel
def N24:List Str:=["width","height","side","points","parts"]
def P24:List Str:=["width","height","side"]
def b24:S:=.cons (.ife (.cmp .Eq (.ix (.var 2) (.int 0)) (.ix (.var 2) (.int 1))) (.cons (.ret (.lst .nil)) .nil) .nil) (.cons (.set 3 (.call 20 "stops" (.cons (.var 0) (.cons (.var 1) (.cons (.var 2) .nil))))) (.frz 3 (.cons (.setC 4 (.comp1 5 [] "k" (.r1 (.bin .Sub (.len (.var 3)) (.int 1))) .nil (.call 22 "piece_between" (.cons (.ix (.var 3) (.var 5)) (.cons (.ix (.var 3) (.bin .Add (.var 5) (.int 1))) .nil))))) (.frz 4 (.cons (.ret (.comp1 5 [] "part" (.it (.var 4)) (.cons (.call 23 "counts_on" (.cons (.var 0) (.cons (.var 1) (.cons (.var 5) .nil)))) .nil) (.var 5))) .nil)))))
theorem sc24:zAC N24 P24 (zAA (top 33)):=by (walk_at "f")
theorem ck24:cSs (zAA (top 33)) N24 bs b24 (zAB (top 33))=true:=by decide +kernel
def N25:List Str:=["piece"]
def P25:List Str:=["piece"]
def b25:S:=.cons (.ret (.call 3 "minus" (.cons (.ix (.ix (.var 0) (.int 2)) (.int 1)) (.cons (.ix (.ix (.var 0) (.int 3)) (.int 1)) .nil)))) .nil
theorem sc25:zAC N25 P25 (zAA (top 34)):=by (walk_at "f")
theorem ck25:cSs (zAA (top 34)) N25 bs b25 (zAB (top 34))=true:=by decide +kernel
def N26:List Str:=["piece","column"]
def P26:List Str:=["piece"]
def b26:S:=.cons (.set 1 (.ix (.var 0) (.int 0))) (.cons (.ife (.cmp .Eq (.var 1) (.neg (.int 1))) (.cons (.ret (.glob 0 "NOUGHT")) .nil) .nil) (.cons (.ret (.call 4 "times" (.cons (.call 25 "fall" (.cons (.var 0) .nil)) (.cons (.call 3 "minus" (.cons (.tup (.cons (.bin .Add (.var 1) (.int 1)) (.cons (.int 1) .nil))) (.cons (.call 21 "middle" (.cons (.ix (.ix (.var 0) (.int 2)) (.int 0)) (.cons (.ix (.ix (.var 0) (.int 3)) (.int 0)) .nil))) .nil))) .nil)))) .nil))
theorem sc26:zAC N26 P26 (zAA (top 35)):=by (walk_at "f")
theorem ck26:cSs (zAA (top 35)) N26 bs b26 (zAB (top 35))=true:=by decide +kernel
def N27:List Str:=["count"]
def P27:List Str:=["count"]
def mb27:MT:=.cons (.ret (.comp 1 [] "k" (.rng (.var 0)) (.lst .nil))) .nil
theorem zTX:cSs' (zAA (top 37)) N27 bs mb27 (zAB (top 37))=true:=by decide +kernel
def b27:S:=.cons (.ret (.comp1 1 [] "k" (.r1 (.var 0)) .nil (.lst .nil))) .nil
theorem sc27:zAC N27 P27 (zAA (top 37)):=by (walk_at "f")
theorem ck27:cSs (zAA (top 37)) N27 bs b27 (zAB (top 37))=true:=by decide +kernel
def N28:List Str:=["width","height","shape","found","ring","side"]
def P28:List Str:=["width","height","shape"]
def b28:S:=.cons (.set 3 (.lst .nil)) (.cons (.for1 4 (.it (.var 2)) (.cons (.for1 5 (.it (.call 13 "sides" (.cons (.var 4) .nil))) (.cons (.ext 3 (.call 24 "pieces" (.cons (.var 0) (.cons (.var 1) (.cons (.var 5) .nil))))) .nil)) .nil)) (.cons (.retOwn 3) .nil))
theorem sc28:zAC N28 P28 (zAA (top 38)):=by (walk_at "f")
theorem ck28:cSs (zAA (top 38)) N28 bs b28 (zAB (top 38))=true:=by decide +kernel
def N29:List Str:=["falls","rights","told","fallen","column"]
def P29:List Str:=["falls","rights"]
def b29:S:=.cons (.set 2 (.lst .nil)) (.cons (.set 3 (.glob 0 "NOUGHT")) (.cons (.for1 4 (.r1 (.bin .Sub (.len (.var 0)) (.int 1))) (.cons (.set 3 (.call 2 "plus" (.cons (.var 3) (.cons (.call 7 "total" (.cons (.ix (.var 0) (.var 4)) .nil)) .nil)))) (.cons (.app 2 (.call 2 "plus" (.cons (.var 3) (.cons (.call 7 "total" (.cons (.ix (.var 1) (.bin .Add (.var 4) (.int 1))) .nil)) .nil)))) .nil))) (.cons (.retOwn 2) .nil)))
theorem sc29:zAC N29 P29 (zAA (top 39)):=by (walk_at "f")
theorem ck29:cSs (zAA (top 39)) N29 bs b29 (zAB (top 39))=true:=by decide +kernel
def N30:List Str:=["width","height","shape","falls","rights","piece","place"]
def P30:List Str:=["width","height","shape"]
def mb30:MT:=.cons (.setC 3 (.comp 7 [] "row" (.rng (.var 1)) (.call 4 "empty_lists" (.cons (.pur (.bin .Add (.var 0) (.int 1))) .nil)))) (.cons (.setC 4 (.comp 7 [] "row" (.rng (.var 1)) (.call 4 "empty_lists" (.cons (.pur (.bin .Add (.var 0) (.int 1))) .nil)))) (.cons (.for1 5 (.it (.pur (.call 28 "all_pieces" (.cons (.var 0) (.cons (.var 1) (.cons (.var 2) .nil)))))) (.cons (.set 6 (.pur (.bin .Add (.ix (.var 5) (.int 0)) (.int 1)))) (.cons (.app (.ix (.ix (.var 3) (.ix (.var 5) (.pur (.int 1)))) (.var 6)) (.pur (.call 25 "fall" (.cons (.var 5) .nil)))) (.cons (.app (.ix (.ix (.var 4) (.ix (.var 5) (.pur (.int 1)))) (.var 6)) (.pur (.call 26 "right" (.cons (.var 5) .nil)))) .nil)))) (.cons (.ret (.comp 7 [] "row" (.rng (.var 1)) (.pur (.call 29 "row_of_shares" (.cons (.ix (.var 3) (.var 7)) (.cons (.ix (.var 4) (.var 7)) .nil)))))) .nil)))
theorem zTW:cSs' (zAA (top 40)) N30 bs mb30 (zAB (top 40))=true:=by decide +kernel
theorem sc30:zAC N30 P30 (zAA (top 40)):=by (walk_at "f")
def N31:List Str:=["_law_script","_law_k","_law_seed","_law_some"]
def P31:List Str:=["_law_script","_law_k"]
def b31:S:=.cons (.ife (.cmp .Lt (.var 1) (.len (.var 0))) (.cons (.ret (.ix (.var 0) (.var 1))) .nil) .nil) (.cons (.set 2 (.bin .Mult (.var 1) (.int 7919))) (.cons (.ife (.cmp .Gt (.len (.var 0)) (.int 0)) (.cons (.set 2 (.bin .Add (.var 2) (.bin .Mod (.ix (.var 0) (.bin .Mod (.var 1) (.len (.var 0)))) (.int 65537)))) .nil) .nil) (.cons (.set 3 (.bin .Mod (.bin .Mult (.var 2) (.int 48271)) (.int 65537))) (.cons (.ret (.bin .Mod (.bin .FloorDiv (.bin .Mult (.var 3) (.bin .Add (.bin .Add (.var 3) (.bin .Mult (.int 2) (.var 1))) (.int 1))) (.int 7)) (.int 65521))) .nil))))
theorem sc31:zAC N31 P31 (zAA (top 42)):=by (walk_at "f")
theorem ck31:cSs (zAA (top 42)) N31 bs b31 (zAB (top 42))=true:=by decide +kernel
def N32:List Str:=["_law_found"]
def P32:List Str:=["_law_found"]
def b32:S:=.cons (.ret (.andl (.cons (.isi .int (.var 0)) (.cons (.not (.isi .bool (.var 0))) .nil)))) .nil
theorem sc32:zAC N32 P32 (zAA (top 43)):=by (walk_at "f")
theorem ck32:cSs (zAA (top 43)) N32 bs b32 (zAB (top 43))=true:=by decide +kernel
def N33:List Str:=["_law_one","_law_other","_law_rest"]
def P33:List Str:=["_law_one","_law_other"]
def b33:S:=.cons (.whl (.cmp .Gt (.var 1) (.int 0)) (.cons (.set 2 (.bin .Mod (.var 0) (.var 1))) (.cons (.set 0 (.var 1)) (.cons (.set 1 (.var 2)) .nil)))) (.cons (.ret (.var 0)) .nil)
theorem sc33:zAC N33 P33 (zAA (top 44)):=by (walk_at "f")
theorem ck33:cSs (zAA (top 44)) N33 bs b33 (zAB (top 44))=true:=by decide +kernel
def N34:List Str:=["_law_found","_law_top","_law_bottom"]
def P34:List Str:=["_law_found","_law_top","_law_bottom"]
def b34:S:=.cons (.ife (.orl (.cons (.not (.isi .tuple (.var 0))) (.cons (.cmp .NotEq (.len (.var 0)) (.int 2)) .nil))) (.cons (.ret (.bl false)) .nil) .nil) (.cons (.ife (.orl (.cons (.not (.call 32 "_law_whole" (.cons (.ix (.var 0) (.int 0)) .nil))) (.cons (.not (.call 32 "_law_whole" (.cons (.ix (.var 0) (.int 1)) .nil))) (.cons (.cmp .Lt (.ix (.var 0) (.int 1)) (.int 1)) .nil)))) (.cons (.ret (.bl false)) .nil) .nil) (.cons (.ret (.andl (.cons (.cmp .Eq (.bin .Mult (.ix (.var 0) (.int 0)) (.var 2)) (.bin .Mult (.var 1) (.ix (.var 0) (.int 1)))) (.cons (.cmp .Eq (.call 33 "_law_most" (.cons (.abs (.ix (.var 0) (.int 0))) (.cons (.ix (.var 0) (.int 1)) .nil))) (.int 1)) .nil)))) .nil))
theorem sc34:zAC N34 P34 (zAA (top 45)):=by (walk_at "f")
theorem ck34:cSs (zAA (top 45)) N34 bs b34 (zAB (top 45))=true:=by decide +kernel
def N35:List Str:=["_law_top","_law_bottom","_law_most_here"]
def P35:List Str:=["_law_top","_law_bottom"]
def b35:S:=.cons (.set 2 (.call 33 "_law_most" (.cons (.abs (.var 0)) (.cons (.abs (.var 1)) .nil)))) (.cons (.ife (.cmp .Lt (.var 1) (.int 0)) (.cons (.set 2 (.neg (.var 2))) .nil) .nil) (.cons (.ret (.tup (.cons (.bin .FloorDiv (.var 0) (.var 2)) (.cons (.bin .FloorDiv (.var 1) (.var 2)) .nil)))) .nil))
theorem sc35:zAC N35 P35 (zAA (top 46)):=by (walk_at "f")
theorem ck35:cSs (zAA (top 46)) N35 bs b35 (zAB (top 46))=true:=by decide +kernel
def N36:List Str:=["_law_cell_here"]
def P36:List Str:=["_law_cell_here"]
def b36:S:=.cons (.ife (.cmp .Eq (.bin .Mod (.var 0) (.int 16)) (.int 15)) (.cons (.ret (.tup (.cons (.bin .Sub (.bin .Mod (.bin .FloorDiv (.var 0) (.int 16)) (.bin .Mult (.int 2) (.bin .Pow (.int 10) (.int 9)))) (.bin .Pow (.int 10) (.int 9))) (.cons (.int 1) .nil)))) .nil) .nil) (.cons (.ret (.call 35 "_law_ratio" (.cons (.bin .Sub (.bin .Mod (.bin .FloorDiv (.var 0) (.int 16)) (.int 19)) (.int 5)) (.cons (.bin .Add (.int 1) (.bin .Mod (.bin .FloorDiv (.var 0) (.int 304)) (.int 3))) .nil)))) .nil)
theorem sc36:zAC N36 P36 (zAA (top 47)):=by (walk_at "f")
theorem ck36:cSs (zAA (top 47)) N36 bs b36 (zAB (top 47))=true:=by decide +kernel
def N37:List Str:=["_law_script","_law_at","_law_many","_law_ring_here","_law_k","_law_x","_law_y"]
def P37:List Str:=["_law_script","_law_at","_law_many"]
def b37:S:=.cons (.set 3 (.lst .nil)) (.cons (.for1 4 (.r1 (.var 2)) (.cons (.set 5 (.call 36 "_law_number" (.cons (.call 31 "_law_cell" (.cons (.var 0) (.cons (.bin .Add (.var 1) (.bin .Mult (.int 2) (.var 4))) .nil))) .nil))) (.cons (.set 6 (.call 36 "_law_number" (.cons (.call 31 "_law_cell" (.cons (.var 0) (.cons (.bin .Add (.bin .Add (.var 1) (.bin .Mult (.int 2) (.var 4))) (.int 1)) .nil))) .nil))) (.cons (.app 3 (.tup (.cons (.var 5) (.cons (.var 6) .nil)))) .nil)))) (.cons (.retOwn 3) .nil))
theorem sc37:zAC N37 P37 (zAA (top 48)):=by (walk_at "f")
theorem ck37:cSs (zAA (top 48)) N37 bs b37 (zAB (top 48))=true:=by decide +kernel
def N38:List Str:=["_law_script","_law_at","_law_sizes","_law_shape_here","_law_k"]
def P38:List Str:=["_law_script","_law_at"]
def mb38:MT:=.cons (.set 2 (.pur (.call 31 "_law_cell" (.cons (.var 0) (.cons (.var 1) .nil))))) (.cons (.set 3 (.lst .nil)) (.cons (.for1 4 (.rng (.pur (.bin .Mod (.var 2) (.int 3)))) (.cons (.app (.var 3) (.pur (.call 37 "_law_ring" (.cons (.var 0) (.cons (.bin .Add (.bin .Add (.var 1) (.int 1)) (.bin .Mult (.int 8) (.var 4))) (.cons (.ix (.lst (.cons (.int 3) (.cons (.int 4) (.cons (.int 2) (.cons (.int 3) (.cons (.int 4) (.cons (.int 1) (.cons (.int 0) .nil)))))))) (.bin .Mod (.bin .FloorDiv (.var 2) (.int 3)) (.int 7))) .nil)))))) (.cons (.set 2 (.pur (.bin .FloorDiv (.var 2) (.int 7)))) .nil))) (.cons (.ret (.var 3)) .nil)))
theorem zTV:cSs' (zAA (top 49)) N38 bs mb38 (zAB (top 49))=true:=by decide +kernel
theorem sc38:zAC N38 P38 (zAA (top 49)):=by (walk_at "f")
def N39:List Str:=["_law_one","_law_other"]
def P39:List Str:=["_law_one","_law_other"]
def b39:S:=.cons (.ret (.call 35 "_law_ratio" (.cons (.bin .Sub (.bin .Mult (.ix (.var 0) (.int 0)) (.ix (.var 1) (.int 1))) (.bin .Mult (.ix (.var 1) (.int 0)) (.ix (.var 0) (.int 1)))) (.cons (.bin .Mult (.ix (.var 0) (.int 1)) (.ix (.var 1) (.int 1))) .nil)))) .nil
theorem sc39:zAC N39 P39 (zAA (top 51)):=by (walk_at "f")
theorem ck39:cSs (zAA (top 51)) N39 bs b39 (zAB (top 51))=true:=by decide +kernel
def N40:List Str:=["_law_found","_law_width","_law_height","_law_line","_law_one"]
def P40:List Str:=["_law_found","_law_width","_law_height"]
def b40:S:=.cons (.ife (.orl (.cons (.not (.isi .list (.var 0))) (.cons (.cmp .NotEq (.len (.var 0)) (.var 2)) .nil))) (.cons (.ret (.bl false)) .nil) .nil) (.cons (.for1 3 (.it (.var 0)) (.cons (.ife (.orl (.cons (.not (.isi .list (.var 3))) (.cons (.cmp .NotEq (.len (.var 3)) (.var 1)) .nil))) (.cons (.ret (.bl false)) .nil) .nil) (.cons (.for1 4 (.it (.var 3)) (.cons (.ife (.orl (.cons (.not (.isi .tuple (.var 4))) (.cons (.cmp .NotEq (.len (.var 4)) (.int 2)) (.cons (.not (.call 34 "_law_is" (.cons (.var 4) (.cons (.ix (.var 4) (.int 0)) (.cons (.ix (.var 4) (.int 1)) .nil))))) .nil)))) (.cons (.ret (.bl false)) .nil) .nil) .nil)) .nil))) (.cons (.ret (.bl true)) .nil))
theorem sc40:zAC N40 P40 (zAA (top 53)):=by (walk_at "f")
theorem ck40:cSs (zAA (top 53)) N40 bs b40 (zAB (top 53))=true:=by decide +kernel
def N41:List Str:=["_law_found","_law_due","_law_k","_law_j","_law_point","_law_at"]
def P41:List Str:=["_law_found","_law_due"]
def b41:S:=.cons (.ife (.orl (.cons (.not (.isi .list (.var 0))) (.cons (.cmp .NotEq (.len (.var 0)) (.len (.var 1))) .nil))) (.cons (.ret (.bl false)) .nil) .nil) (.cons (.for1 2 (.r1 (.len (.var 1))) (.cons (.ife (.orl (.cons (.not (.isi .list (.ix (.var 0) (.var 2)))) (.cons (.cmp .NotEq (.len (.ix (.var 0) (.var 2))) (.len (.ix (.var 1) (.var 2)))) .nil))) (.cons (.ret (.bl false)) .nil) .nil) (.cons (.for1 3 (.r1 (.len (.ix (.var 1) (.var 2)))) (.cons (.set 4 (.ix (.ix (.var 0) (.var 2)) (.var 3))) (.cons (.ife (.orl (.cons (.not (.isi .tuple (.var 4))) (.cons (.cmp .NotEq (.len (.var 4)) (.int 2)) .nil))) (.cons (.ret (.bl false)) .nil) .nil) (.cons (.for1 5 (.r1 (.int 2)) (.cons (.ife (.not (.call 34 "_law_is" (.cons (.ix (.var 4) (.var 5)) (.cons (.ix (.ix (.ix (.ix (.var 1) (.var 2)) (.var 3)) (.var 5)) (.int 0)) (.cons (.ix (.ix (.ix (.ix (.var 1) (.var 2)) (.var 3)) (.var 5)) (.int 1)) .nil))))) (.cons (.ret (.bl false)) .nil) .nil) .nil)) .nil)))) .nil))) (.cons (.ret (.bl true)) .nil))
theorem sc41:zAC N41 P41 (zAA (top 54)):=by (walk_at "f")
theorem ck41:cSs (zAA (top 54)) N41 bs b41 (zAB (top 54))=true:=by decide +kernel
def N42:List Str:=["_law_shape_here","_law_height"]
def P42:List Str:=["_law_shape_here","_law_height"]
def mb42:MT:=.cons (.ret (.comp 2 [] "_law_ring_here" (.it (.var 0)) (.pur (.comp2 3 [] "_law_x" "_law_y" (.it (.var 2)) .nil (.tup (.cons (.call 39 "_law_minus" (.cons (.var 1) (.cons (.var 4) .nil))) (.cons (.var 3) .nil))))))) .nil
theorem zTU:cSs' (zAA (top 55)) N42 bs mb42 (zAB (top 55))=true:=by decide +kernel
theorem sc42:zAC N42 P42 (zAA (top 55)):=by (walk_at "f")
def N43:List Str:=["_law_shape_here","_law_width"]
def P43:List Str:=["_law_shape_here","_law_width"]
def b43:S:=.cons (.ret (.comp1 2 [] "_law_ring_here" (.it (.var 0)) .nil (.comp2 3 [] "_law_x" "_law_y" (.it (.var 2)) .nil (.tup (.cons (.call 39 "_law_minus" (.cons (.var 1) (.cons (.var 3) .nil))) (.cons (.var 4) .nil)))))) .nil
theorem sc43:zAC N43 P43 (zAA (top 56)):=by (walk_at "f")
theorem ck43:cSs (zAA (top 56)) N43 bs b43 (zAB (top 56))=true:=by decide +kernel
def N44:List Str:=["_law_shape_here","_law_by","_law_handed","_law_one","_law_other","_law_some","_law_ring_here","_law_round_one","_law_due","_law_turn"]
def P44:List Str:=["_law_shape_here","_law_by"]
def mb44:MT:=.cons (.setC 2 (.comp 10 [6] "_law_ring_here" (.it (.var 0)) (.pur (.list (.var 10))))) (.cons (.set 3 (.call 2 "quartered" (.cons (.var 2) (.cons (.var 1) .nil)))) (.cons (.set 4 (.call 3 "mirrored" (.cons (.var 2) (.cons (.var 1) .nil)))) (.cons (.ife (.orl (.cons (.not (.call 0 "_law_shape_is" (.cons (.var 3) (.cons (.call 7 "_law_quartered" (.cons (.var 0) (.cons (.var 1) .nil))) .nil)))) (.cons (.pur (.not (.call 41 "_law_shape_is" (.cons (.var 4) (.cons (.call 43 "_law_mirrored" (.cons (.var 0) (.cons (.var 1) .nil))) .nil))))) .nil))) (.cons (.ret (.pur (.bl false))) .nil) .nil) (.cons (.for1 5 (.it (.lst (.cons (.call 2 "quartered" (.cons (.var 2) (.cons (.var 1) .nil))) (.cons (.call 3 "mirrored" (.cons (.var 2) (.cons (.var 1) .nil))) .nil)))) (.cons (.for1 6 (.it (.var 5)) (.cons (.app (.var 6) (.pur .non)) .nil)) (.cons (.app (.var 5) (.lst .nil)) .nil))) (.cons (.ife (.orl (.cons (.not (.call 0 "_law_shape_is" (.cons (.call 2 "quartered" (.cons (.var 2) (.cons (.var 1) .nil))) (.cons (.var 3) .nil)))) (.cons (.not (.call 0 "_law_shape_is" (.cons (.call 3 "mirrored" (.cons (.var 2) (.cons (.var 1) .nil))) (.cons (.var 4) .nil)))) .nil))) (.cons (.ret (.pur (.bl false))) .nil) .nil) (.cons (.set 7 (.call 2 "quartered" (.cons (.call 2 "quartered" (.cons (.call 2 "quartered" (.cons (.var 3) (.cons (.pur (.tup (.cons (.int 0) (.cons (.int 1) .nil)))) .nil))) (.cons (.var 1) .nil))) (.cons (.pur (.tup (.cons (.int 0) (.cons (.int 1) .nil)))) .nil)))) (.cons (.set 8 (.var 0)) (.cons (.for1 9 (.it (.lst (.cons (.var 1) (.cons (.pur (.tup (.cons (.int 0) (.cons (.int 1) .nil)))) (.cons (.var 1) (.cons (.pur (.tup (.cons (.int 0) (.cons (.int 1) .nil)))) .nil)))))) (.cons (.set 8 (.call 7 "_law_quartered" (.cons (.var 8) (.cons (.var 9) .nil)))) .nil)) (.cons (.ife (.orl (.cons (.pur (.not (.call 41 "_law_shape_is" (.cons (.var 7) (.cons (.var 8) .nil))))) (.cons (.not (.call 0 "_law_shape_is" (.cons (.call 3 "mirrored" (.cons (.var 4) (.cons (.var 1) .nil))) (.cons (.var 0) .nil)))) .nil))) (.cons (.ret (.pur (.bl false))) .nil) .nil) (.cons (.ret (.pur (.cmp .Eq (.var 2) (.var 0)))) .nil))))))))))
theorem zTT:cSs' (zAA (top 57)) N44 bs mb44 (zAB (top 57))=true:=by decide +kernel
theorem sc44:zAC N44 P44 (zAA (top 57)):=by (walk_at "f")
def N45:List Str:=["_law_script","_law_width","_law_height","_law_shape_here","_law_first","_law_turn","_law_back","_law_j","_law_i"]
def P45:List Str:=["_law_script"]
def mb45:MT:=.cons (.set 1 (.pur (.bin .Add (.int 1) (.bin .Mod (.call 31 "_law_cell" (.cons (.var 0) (.cons (.int 0) .nil))) (.int 4))))) (.cons (.set 2 (.pur (.bin .Add (.int 1) (.bin .Mod (.bin .FloorDiv (.call 31 "_law_cell" (.cons (.var 0) (.cons (.int 0) .nil))) (.int 4)) (.int 3))))) (.cons (.set 3 (.call 6 "_law_shape" (.cons (.var 0) (.cons (.pur (.int 2)) .nil)))) (.cons (.ife (.not (.call 8 "_law_points_good" (.cons (.var 3) (.cons (.pur (.call 36 "_law_number" (.cons (.call 31 "_law_cell" (.cons (.var 0) (.cons (.int 1) .nil))) .nil))) .nil)))) (.cons (.ret (.pur (.bl false))) .nil) .nil) (.cons (.set 4 (.call 5 "shares" (.cons (.var 1) (.cons (.var 2) (.cons (.comp 9 [] "_law_ring_here" (.it (.var 3)) (.pur (.list (.var 9)))) .nil))))) (.cons (.set 5 (.call 5 "shares" (.cons (.var 2) (.cons (.var 1) (.cons (.call 2 "quartered" (.cons (.comp 9 [] "_law_ring_here" (.it (.var 3)) (.pur (.list (.var 9)))) (.cons (.pur (.tup (.cons (.var 2) (.cons (.int 1) .nil)))) .nil))) .nil))))) (.cons (.set 6 (.call 5 "shares" (.cons (.var 1) (.cons (.var 2) (.cons (.call 3 "mirrored" (.cons (.comp 9 [] "_law_ring_here" (.it (.var 3)) (.pur (.list (.var 9)))) (.cons (.pur (.tup (.cons (.var 1) (.cons (.int 1) .nil)))) .nil))) .nil))))) (.cons (.ife (.pur (.orl (.cons (.not (.call 40 "_law_table" (.cons (.var 4) (.cons (.var 1) (.cons (.var 2) .nil))))) (.cons (.not (.call 40 "_law_table" (.cons (.var 5) (.cons (.var 2) (.cons (.var 1) .nil))))) .nil)))) (.cons (.ret (.pur (.bl false))) .nil) .nil) (.cons (.ife (.pur (.not (.call 40 "_law_table" (.cons (.var 6) (.cons (.var 1) (.cons (.var 2) .nil)))))) (.cons (.ret (.pur (.bl false))) .nil) .nil) (.cons (.for1 7 (.rng (.var 2)) (.cons (.for1 8 (.rng (.var 1)) (.cons (.ife (.pur (.cmp .NotEq (.ix (.ix (.var 5) (.var 8)) (.bin .Sub (.bin .Sub (.var 2) (.int 1)) (.var 7))) (.ix (.ix (.var 4) (.var 7)) (.var 8)))) (.cons (.ret (.pur (.bl false))) .nil) .nil) (.cons (.ife (.pur (.cmp .NotEq (.ix (.ix (.var 6) (.var 7)) (.bin .Sub (.bin .Sub (.var 1) (.int 1)) (.var 8))) (.tup (.cons (.neg (.ix (.ix (.ix (.var 4) (.var 7)) (.var 8)) (.int 0))) (.cons (.ix (.ix (.ix (.var 4) (.var 7)) (.var 8)) (.int 1)) .nil))))) (.cons (.ret (.pur (.bl false))) .nil) .nil) .nil))) .nil)) (.cons (.ret (.pur (.bl true))) .nil))))))))))
theorem zTS:cSs' (zAA (top 58)) N45 bs mb45 (zAB (top 58))=true:=by decide +kernel
theorem sc45:zAC N45 P45 (zAA (top 58)):=by (walk_at "f")
def G0:Gm:=⟨[],[("NOUGHT",.tup [.int 0,.int 1]),("HALF",.tup [.int 1,.int 2])],[],[],[],[]⟩
def F0:List D->Option R:=dFun 2 3 (evSs G0 b0)
def G1:Gm:=G0.add "common_measure" F0
def F1:List D->Option R:=dFun 2 3 (evSs G1 b1)
def G2:Gm:=G1.add "ratio" F1
def F2:List D->Option R:=dFun 2 2 (evSs G2 b2)
def G3:Gm:=G2.add "plus" F2
def F3:List D->Option R:=dFun 2 2 (evSs G3 b3)
def G4:Gm:=G3.add "minus" F3
def F4:List D->Option R:=dFun 2 2 (evSs G4 b4)
def G5:Gm:=G4.add "times" F4
def F5:List D->Option R:=dFun 2 2 (evSs G5 b5)
def G6:Gm:=G5.add "parted" F5
def F6:List D->Option R:=dFun 1 2 (evSs G6 b6)
def G7:Gm:=G6.add "neighbours_added" F6
def F7:List D->Option R:=dFun 1 2 (evSs G7 b7)
def G8:Gm:=G7.add "total" F7
def F8:List D->Option R:=dFun 2 2 (evSs G8 b8)
def G9:Gm:=G8.add "under" F8
def F9:List D->Option R:=dFun 1 1 (evSs G9 b9)
def G10:Gm:=G9.add "whole_part" F9
def F10:List D->Option R:=fun _=>none
def G11:Gm:=G10.add "point_by_point" F10
def F11:List D->Option R:=fun _=>none
def G12:Gm:=G11.add "quartered" F11
def F12:List D->Option R:=fun _=>none
def G13:Gm:=G12.add "mirrored" F12
def F13:List D->Option R:=dFun 1 1 (evSs G13 b13)
def G14:Gm:=G13.add "sides" F13
def zS4:Gm:=G14.add "numbers_between" (fun _=>none)
def zS5:List D->Option R:=dFun 3 3 (evSs zS4 b14)
def zS3:Gm:=G14.add "numbers_between" zS5
def F14:List D->Option R:=dFun 3 3 (evSs zS3 b14)
def G15:Gm:=G14.add "numbers_between" F14
def F15:List D->Option R:=dFun 5 6 (evSs G15 b15)
def G16:Gm:=G15.add "rests_at" F15
def F16:List D->Option R:=dFun 2 6 (evSs G16 b16)
def G17:Gm:=G16.add "upright_crossings" F16
def F17:List D->Option R:=dFun 2 6 (evSs G17 b17)
def G18:Gm:=G17.add "level_crossings" F17
def F18:List D->Option R:=dFun 3 3 (evSs G18 b18)
def G19:Gm:=G18.add "comes_ahead" F18
def F19:List D->Option R:=dFun 3 6 (evSs G19 b19)
def G20:Gm:=G19.add "made_one" F19
def F20:List D->Option R:=dFun 3 6 (evSs G20 b20)
def G21:Gm:=G20.add "stops" F20
def F21:List D->Option R:=dFun 2 2 (evSs G21 b21)
def G22:Gm:=G21.add "middle" F21
def F22:List D->Option R:=dFun 2 4 (evSs G22 b22)
def G23:Gm:=G22.add "piece_between" F22
def F23:List D->Option R:=dFun 3 3 (evSs G23 b23)
def G24:Gm:=G23.add "counts_on" F23
def F24:List D->Option R:=dFun 3 5 (evSs G24 b24)
def G25:Gm:=G24.add "pieces" F24
def F25:List D->Option R:=dFun 1 1 (evSs G25 b25)
def G26:Gm:=G25.add "fall" F25
def F26:List D->Option R:=dFun 1 2 (evSs G26 b26)
def G27:Gm:=G26.add "right" F26
def F27:List D->Option R:=dFun 1 1 (evSs G27 b27)
def G28:Gm:=G27.add "empty_lists" F27
def F28:List D->Option R:=dFun 3 6 (evSs G28 b28)
def G29:Gm:=G28.add "all_pieces" F28
def F29:List D->Option R:=dFun 2 5 (evSs G29 b29)
def G30:Gm:=G29.add "row_of_shares" F29
def F30:List D->Option R:=fun _=>none
def G31:Gm:=G30.add "shares" F30
def F31:List D->Option R:=dFun 2 4 (evSs G31 b31)
def G32:Gm:=G31.add "_law_cell" F31
def F32:List D->Option R:=dFun 1 1 (evSs G32 b32)
def G33:Gm:=G32.add "_law_whole" F32
def F33:List D->Option R:=dFun 2 3 (evSs G33 b33)
def G34:Gm:=G33.add "_law_most" F33
def F34:List D->Option R:=dFun 3 3 (evSs G34 b34)
def G35:Gm:=G34.add "_law_is" F34
def F35:List D->Option R:=dFun 2 3 (evSs G35 b35)
def G36:Gm:=G35.add "_law_ratio" F35
def F36:List D->Option R:=dFun 1 1 (evSs G36 b36)
def G37:Gm:=G36.add "_law_number" F36
def F37:List D->Option R:=dFun 3 7 (evSs G37 b37)
def G38:Gm:=G37.add "_law_ring" F37
def F38:List D->Option R:=fun _=>none
def G39:Gm:=G38.add "_law_shape" F38
def F39:List D->Option R:=dFun 2 2 (evSs G39 b39)
def G40:Gm:=G39.add "_law_minus" F39
def F40:List D->Option R:=dFun 3 5 (evSs G40 b40)
def G41:Gm:=G40.add "_law_table" F40
def F41:List D->Option R:=dFun 2 6 (evSs G41 b41)
def G42:Gm:=G41.add "_law_shape_is" F41
def F42:List D->Option R:=fun _=>none
def G43:Gm:=G42.add "_law_quartered" F42
def F43:List D->Option R:=dFun 2 2 (evSs G43 b43)
def G44:Gm:=G43.add "_law_mirrored" F43
def F44:List D->Option R:=fun _=>none
def G45:Gm:=G44.add "_law_points_good" F44
def L0:LamI:=zRf "quartered" (top 18)
def lb0:E:=.tup (.cons (.call 3 "minus" (.cons (.var 1) (.cons (.ix (.var 0) (.int 1)) .nil))) (.cons (.ix (.var 0) (.int 0)) .nil))
theorem lsc0:zG9 "point" ["height"] L0/\frN L0=(["height"]:List Str):=zHk (by decide +kernel) fun _ _ _ _ _=>rfl
theorem lck0:cE lb0 L0.scope ("point"::["height"]) bs L0.body=true:=by decide +kernel
def FL0:List D->Option R:=lamD 1 (evE G45 lb0)
def GL0:Gm:=G45.addL L0 FL0
def L1:LamI:=zRf "mirrored" (top 19)
def lb1:E:=.tup (.cons (.call 3 "minus" (.cons (.var 1) (.cons (.ix (.var 0) (.int 0)) .nil))) (.cons (.ix (.var 0) (.int 1)) .nil))
theorem lsc1:zG9 "point" ["width"] L1/\frN L1=(["width"]:List Str):=zHk (by decide +kernel) fun _ _ _ _ _=>rfl
theorem lck1:cE lb1 L1.scope ("point"::["width"]) bs L1.body=true:=by decide +kernel
def FL1:List D->Option R:=lamD 1 (evE GL0 lb1)
def GL1:Gm:=GL0.addL L1 FL1
def D0:Dm:=[(("_law_shape_is":Str),zCK F41)]
def FM10:MF:=zCR 2 2 (evSs' GL1 D0 mb10)
def D1:Dm:=[(("_law_shape_is":Str),zCK F41),(("point_by_point":Str),FM10)]
def FM11:MF:=lamM FM10 0 L0 [1] 2
def D2:Dm:=[(("_law_shape_is":Str),zCK F41),(("point_by_point":Str),FM10),(("quartered":Str),FM11)]
def FM12:MF:=lamM FM10 1 L1 [1] 2
def D3:Dm:=[(("_law_shape_is":Str),zCK F41),(("point_by_point":Str),FM10),(("quartered":Str),FM11),(("mirrored":Str),FM12)]
def FM27:MF:=zCR 1 1 (evSs' GL1 D3 mb27)
def D4:Dm:=[(("_law_shape_is":Str),zCK F41),(("point_by_point":Str),FM10),(("quartered":Str),FM11),(("mirrored":Str),FM12),(("empty_lists":Str),FM27)]
def FM30:MF:=zCR 3 7 (evSs' GL1 D4 mb30)
def D5:Dm:=[(("_law_shape_is":Str),zCK F41),(("point_by_point":Str),FM10),(("quartered":Str),FM11),(("mirrored":Str),FM12),(("empty_lists":Str),FM27),(("shares":Str),FM30)]
def FM38:MF:=zCR 2 5 (evSs' GL1 D5 mb38)
def D6:Dm:=[(("_law_shape_is":Str),zCK F41),(("point_by_point":Str),FM10),(("quartered":Str),FM11),(("mirrored":Str),FM12),(("empty_lists":Str),FM27),(("shares":Str),FM30),(("_law_shape":Str),FM38)]
def FM42:MF:=zCR 2 2 (evSs' GL1 D6 mb42)
def D7:Dm:=[(("_law_shape_is":Str),zCK F41),(("point_by_point":Str),FM10),(("quartered":Str),FM11),(("mirrored":Str),FM12),(("empty_lists":Str),FM27),(("shares":Str),FM30),(("_law_shape":Str),FM38),(("_law_quartered":Str),FM42)]
def FM44:MF:=zCR 2 10 (evSs' GL1 D7 mb44)
def D8:Dm:=[(("_law_shape_is":Str),zCK F41),(("point_by_point":Str),FM10),(("quartered":Str),FM11),(("mirrored":Str),FM12),(("empty_lists":Str),FM27),(("shares":Str),FM30),(("_law_shape":Str),FM38),(("_law_quartered":Str),FM42),(("_law_points_good":Str),FM44)]
def FM45:MF:=zCR 1 9 (evSs' GL1 D8 mb45)
structure FT (K:W.Frag)(x:Str)(i:Nat)(f:Addr):Prop where
 a:W.nsIn K mainGlobals x=some (some (.ref f))
 F:∃ fd,Fun K x x (top i) f fd
theorem ft {K:W.Frag}{x:Str}{i:Nat}{f:Addr}{od an:Option Addr}{sl:Array (Option Value)}{oc kV dc pm cd ct:Value}(a:W.nsIn K mainGlobals x=some (some (.ref f)))(l:K.lookup f=some ⟨oc,od,.func (W.fnOf x x (zCQ (top i)) (zAB (top i)) (zAA (top i)) .none kV dc pm an cd ct),sl⟩)(c:W.codeIn K cd x=true)(k:W.keepIn K (.ref f)=true):FT K x i f:=⟨a,_,zNw l c k⟩
theorem len1 {U:Type}:∀ {us:List U},us.length=1->∃ a0,us=[a0]
 | [a0],_=>⟨a0,rfl⟩
theorem len2 {U:Type}:∀ {us:List U},us.length=2->∃ a0 a1,us=[a0,a1]
 | [a0,a1],_=>⟨a0,a1,rfl⟩
theorem len3 {U:Type}:∀ {us:List U},us.length=3->∃ a0 a1 a2,us=[a0,a1,a2]
 | [a0,a1,a2],_=>⟨a0,a1,a2,rfl⟩
theorem len5 {U:Type}:∀ {us:List U},us.length=5->∃ a0 a1 a2 a3 a4,us=[a0,a1,a2,a3,a4]
 | [a0,a1,a2,a3,a4],_=>⟨a0,a1,a2,a3,a4,rfl⟩
set_option maxHeartbeats 4000000 in
theorem all_mk {l:W.OpenLaw}{w:World}{K:W.Frag}{h:Heap}{mg:Str->Option Value}{fa f0 f1 f2 f3 f4 f5 f6 f7 f8 f9 f10 f11 f12 f13 f14 f15 f16 f17 f18 f19 f20 f21 f22 f23 f24 f25 f26 f27 f28 f29 f30 f31 f32 f33 f34 f35 f36 f37 f38 f39 f40 f41 f42 f43 f44 f45:Addr}(X:K.In h)(G:h.Ns mainGlobals mg)(hfa:mg "law"=some (.ref fa))
  {od45 an45:Option Addr} {sl45:Array (Option Value)} {oc45 kV45 dc45 pm45 cd45 ct45:Value}
  {g0 g1:Addr} {cod0 cod1:Option Addr} {cit0 cit1:Array Value} {cn0 cn1:Nat} {csl0 csl1:Array (Option Value)}
  {lc0 lp0:Addr} (lt0:W.tabIn K "quartered"=some (lc0,lp0))
  {lc1 lp1:Addr} (lt1:W.tabIn K "mirrored"=some (lc1,lp1))
  (t0:FT K "common_measure" 6 f0)
  (t1:FT K "ratio" 7 f1)
  (t2:FT K "plus" 8 f2)
  (t3:FT K "minus" 9 f3)
  (t4:FT K "times" 10 f4)
  (t5:FT K "parted" 11 f5)
  (t6:FT K "neighbours_added" 12 f6)
  (t7:FT K "total" 13 f7)
  (t8:FT K "under" 14 f8)
  (t9:FT K "whole_part" 15 f9)
  (t10:FT K "point_by_point" 17 f10)
  (t11:FT K "quartered" 18 f11)
  (t12:FT K "mirrored" 19 f12)
  (t13:FT K "sides" 21 f13)
  (t14:FT K "numbers_between" 23 f14)
  (t15:FT K "rests_at" 24 f15)
  (t16:FT K "upright_crossings" 25 f16)
  (t17:FT K "level_crossings" 26 f17)
  (t18:FT K "comes_ahead" 27 f18)
  (t19:FT K "made_one" 28 f19)
  (t20:FT K "stops" 29 f20)
  (t21:FT K "middle" 30 f21)
  (t22:FT K "piece_between" 31 f22)
  (t23:FT K "counts_on" 32 f23)
  (t24:FT K "pieces" 33 f24)
  (t25:FT K "fall" 34 f25)
  (t26:FT K "right" 35 f26)
  (t27:FT K "empty_lists" 37 f27)
  (t28:FT K "all_pieces" 38 f28)
  (t29:FT K "row_of_shares" 39 f29)
  (t30:FT K "shares" 40 f30)
  (t31:FT K "_law_cell" 42 f31)
  (t32:FT K "_law_whole" 43 f32)
  (t33:FT K "_law_most" 44 f33)
  (t34:FT K "_law_is" 45 f34)
  (t35:FT K "_law_ratio" 46 f35)
  (t36:FT K "_law_number" 47 f36)
  (t37:FT K "_law_ring" 48 f37)
  (t38:FT K "_law_shape" 49 f38)
  (t39:FT K "_law_minus" 51 f39)
  (t40:FT K "_law_table" 53 f40)
  (t41:FT K "_law_shape_is" 54 f41)
  (t42:FT K "_law_quartered" 55 f42)
  (t43:FT K "_law_mirrored" 56 f43)
  (t44:FT K "_law_points_good" 57 f44)
  (a45:W.nsIn K mainGlobals "law"=some (some (.ref f45))) (l45:K.lookup f45=some ⟨oc45,od45,.func (W.fnOf "law" "law" (zCQ (top 58)) (zAB (top 58)) (zAA (top 58)) .none kV45 dc45 pm45 an45 cd45 ct45),sl45⟩) (c45:W.codeIn K cd45 "law"=true) (k45:W.keepIn K (.ref f45)=true)
  (z0:W.nsIn K mainGlobals "abs"=some none)
  (z1:W.nsIn K mainGlobals "len"=some none)
  (z2:W.nsIn K mainGlobals "range"=some none)
  (z3:W.nsIn K mainGlobals "list"=some none)
  (z4:W.nsIn K mainGlobals "zip"=some none)
  (z5:W.nsIn K mainGlobals "reversed"=some none)
  (z6:W.nsIn K mainGlobals "max"=some none)
  (z7:W.nsIn K mainGlobals "isinstance"=some none)
  (z8:W.nsIn K mainGlobals "bool"=some none)
  (z9:W.nsIn K mainGlobals "int"=some none)
  (z10:W.nsIn K mainGlobals "tuple"=some none)
  (ca0:W.nsIn K mainGlobals "NOUGHT"=some (some (.ref g0))) (cl0:K.lookup g0=some ⟨.type "tuple",cod0,.seq cit0 cn0,csl0⟩) (cv0:cit0.toList.map absV=[some (.int 0),some (.int 1)])
  (ca1:W.nsIn K mainGlobals "HALF"=some (some (.ref g1))) (cl1:K.lookup g1=some ⟨.type "tuple",cod1,.seq cit1 cn1,csl1⟩) (cv1:cit1.toList.map absV=[some (.int 1),some (.int 2)])
  : ∃ fd:FuncData,(∀ (s:Shared) (v:Value),BindsTo s fd ⟨[v],[]⟩ [("_law_script",v)])/\∀ base:Heap,K.In base->base.Ns mainGlobals mg->FnOk l.prog w K mg base CX0 50 fa fd ["_law_script"] (spM K FM45):=by
 have e:=hfa.symm.trans (W.mg_of X G a45);cases e;obtain ⟨_,E0⟩:=t0.F;have B0:=E0.binds (ps:=P0) fun _ _ _ _ _ _ us hl=>by obtain ⟨_,_,rfl⟩:=len2 hl;rfl
 obtain ⟨_,E1⟩:=t1.F;have B1:=E1.binds (ps:=P1) fun _ _ _ _ _ _ us hl=>by obtain ⟨_,_,rfl⟩:=len2 hl;rfl
 obtain ⟨_,E2⟩:=t2.F;have B2:=E2.binds (ps:=P2) fun _ _ _ _ _ _ us hl=>by obtain ⟨_,_,rfl⟩:=len2 hl;rfl
 obtain ⟨_,E3⟩:=t3.F;have B3:=E3.binds (ps:=P3) fun _ _ _ _ _ _ us hl=>by obtain ⟨_,_,rfl⟩:=len2 hl;rfl
 obtain ⟨_,E4⟩:=t4.F;have B4:=E4.binds (ps:=P4) fun _ _ _ _ _ _ us hl=>by obtain ⟨_,_,rfl⟩:=len2 hl;rfl
 obtain ⟨_,E5⟩:=t5.F;have B5:=E5.binds (ps:=P5) fun _ _ _ _ _ _ us hl=>by obtain ⟨_,_,rfl⟩:=len2 hl;rfl
 obtain ⟨_,E6⟩:=t6.F;have B6:=E6.binds (ps:=P6) fun _ _ _ _ _ _ us hl=>by obtain ⟨_,rfl⟩:=len1 hl;rfl
 obtain ⟨_,E7⟩:=t7.F;have B7:=E7.binds (ps:=P7) fun _ _ _ _ _ _ us hl=>by obtain ⟨_,rfl⟩:=len1 hl;rfl
 obtain ⟨_,E8⟩:=t8.F;have B8:=E8.binds (ps:=P8) fun _ _ _ _ _ _ us hl=>by obtain ⟨_,_,rfl⟩:=len2 hl;rfl
 obtain ⟨_,E9⟩:=t9.F;have B9:=E9.binds (ps:=P9) fun _ _ _ _ _ _ us hl=>by obtain ⟨_,rfl⟩:=len1 hl;rfl
 obtain ⟨_,E10⟩:=t10.F;have B10:=E10.binds (ps:=P10) fun _ _ _ _ _ _ us hl=>by obtain ⟨_,_,rfl⟩:=len2 hl;rfl
 obtain ⟨_,E11⟩:=t11.F;have B11:=E11.binds (ps:=P11) fun _ _ _ _ _ _ us hl=>by obtain ⟨_,_,rfl⟩:=len2 hl;rfl
 obtain ⟨_,E12⟩:=t12.F;have B12:=E12.binds (ps:=P12) fun _ _ _ _ _ _ us hl=>by obtain ⟨_,_,rfl⟩:=len2 hl;rfl
 obtain ⟨_,E13⟩:=t13.F;have B13:=E13.binds (ps:=P13) fun _ _ _ _ _ _ us hl=>by obtain ⟨_,rfl⟩:=len1 hl;rfl
 obtain ⟨_,E14⟩:=t14.F;have B14:=E14.binds (ps:=P14) fun _ _ _ _ _ _ us hl=>by obtain ⟨_,_,_,rfl⟩:=len3 hl;rfl
 obtain ⟨_,E15⟩:=t15.F;have B15:=E15.binds (ps:=P15) fun _ _ _ _ _ _ us hl=>by obtain ⟨_,_,_,_,_,rfl⟩:=len5 hl;rfl
 obtain ⟨_,E16⟩:=t16.F;have B16:=E16.binds (ps:=P16) fun _ _ _ _ _ _ us hl=>by obtain ⟨_,_,rfl⟩:=len2 hl;rfl
 obtain ⟨_,E17⟩:=t17.F;have B17:=E17.binds (ps:=P17) fun _ _ _ _ _ _ us hl=>by obtain ⟨_,_,rfl⟩:=len2 hl;rfl
 obtain ⟨_,E18⟩:=t18.F;have B18:=E18.binds (ps:=P18) fun _ _ _ _ _ _ us hl=>by obtain ⟨_,_,_,rfl⟩:=len3 hl;rfl
 obtain ⟨_,E19⟩:=t19.F;have B19:=E19.binds (ps:=P19) fun _ _ _ _ _ _ us hl=>by obtain ⟨_,_,_,rfl⟩:=len3 hl;rfl
 obtain ⟨_,E20⟩:=t20.F;have B20:=E20.binds (ps:=P20) fun _ _ _ _ _ _ us hl=>by obtain ⟨_,_,_,rfl⟩:=len3 hl;rfl
 obtain ⟨_,E21⟩:=t21.F;have B21:=E21.binds (ps:=P21) fun _ _ _ _ _ _ us hl=>by obtain ⟨_,_,rfl⟩:=len2 hl;rfl
 obtain ⟨_,E22⟩:=t22.F;have B22:=E22.binds (ps:=P22) fun _ _ _ _ _ _ us hl=>by obtain ⟨_,_,rfl⟩:=len2 hl;rfl
 obtain ⟨_,E23⟩:=t23.F;have B23:=E23.binds (ps:=P23) fun _ _ _ _ _ _ us hl=>by obtain ⟨_,_,_,rfl⟩:=len3 hl;rfl
 obtain ⟨_,E24⟩:=t24.F;have B24:=E24.binds (ps:=P24) fun _ _ _ _ _ _ us hl=>by obtain ⟨_,_,_,rfl⟩:=len3 hl;rfl
 obtain ⟨_,E25⟩:=t25.F;have B25:=E25.binds (ps:=P25) fun _ _ _ _ _ _ us hl=>by obtain ⟨_,rfl⟩:=len1 hl;rfl
 obtain ⟨_,E26⟩:=t26.F;have B26:=E26.binds (ps:=P26) fun _ _ _ _ _ _ us hl=>by obtain ⟨_,rfl⟩:=len1 hl;rfl
 obtain ⟨_,E27⟩:=t27.F;have B27:=E27.binds (ps:=P27) fun _ _ _ _ _ _ us hl=>by obtain ⟨_,rfl⟩:=len1 hl;rfl
 obtain ⟨_,E28⟩:=t28.F;have B28:=E28.binds (ps:=P28) fun _ _ _ _ _ _ us hl=>by obtain ⟨_,_,_,rfl⟩:=len3 hl;rfl
 obtain ⟨_,E29⟩:=t29.F;have B29:=E29.binds (ps:=P29) fun _ _ _ _ _ _ us hl=>by obtain ⟨_,_,rfl⟩:=len2 hl;rfl
 obtain ⟨_,E30⟩:=t30.F;have B30:=E30.binds (ps:=P30) fun _ _ _ _ _ _ us hl=>by obtain ⟨_,_,_,rfl⟩:=len3 hl;rfl
 obtain ⟨_,E31⟩:=t31.F;have B31:=E31.binds (ps:=P31) fun _ _ _ _ _ _ us hl=>by obtain ⟨_,_,rfl⟩:=len2 hl;rfl
 obtain ⟨_,E32⟩:=t32.F;have B32:=E32.binds (ps:=P32) fun _ _ _ _ _ _ us hl=>by obtain ⟨_,rfl⟩:=len1 hl;rfl
 obtain ⟨_,E33⟩:=t33.F;have B33:=E33.binds (ps:=P33) fun _ _ _ _ _ _ us hl=>by obtain ⟨_,_,rfl⟩:=len2 hl;rfl
 obtain ⟨_,E34⟩:=t34.F;have B34:=E34.binds (ps:=P34) fun _ _ _ _ _ _ us hl=>by obtain ⟨_,_,_,rfl⟩:=len3 hl;rfl
 obtain ⟨_,E35⟩:=t35.F;have B35:=E35.binds (ps:=P35) fun _ _ _ _ _ _ us hl=>by obtain ⟨_,_,rfl⟩:=len2 hl;rfl
 obtain ⟨_,E36⟩:=t36.F;have B36:=E36.binds (ps:=P36) fun _ _ _ _ _ _ us hl=>by obtain ⟨_,rfl⟩:=len1 hl;rfl
 obtain ⟨_,E37⟩:=t37.F;have B37:=E37.binds (ps:=P37) fun _ _ _ _ _ _ us hl=>by obtain ⟨_,_,_,rfl⟩:=len3 hl;rfl
 obtain ⟨_,E38⟩:=t38.F;have B38:=E38.binds (ps:=P38) fun _ _ _ _ _ _ us hl=>by obtain ⟨_,_,rfl⟩:=len2 hl;rfl
 obtain ⟨_,E39⟩:=t39.F;have B39:=E39.binds (ps:=P39) fun _ _ _ _ _ _ us hl=>by obtain ⟨_,_,rfl⟩:=len2 hl;rfl
 obtain ⟨_,E40⟩:=t40.F;have B40:=E40.binds (ps:=P40) fun _ _ _ _ _ _ us hl=>by obtain ⟨_,_,_,rfl⟩:=len3 hl;rfl
 obtain ⟨_,E41⟩:=t41.F;have B41:=E41.binds (ps:=P41) fun _ _ _ _ _ _ us hl=>by obtain ⟨_,_,rfl⟩:=len2 hl;rfl
 obtain ⟨_,E42⟩:=t42.F;have B42:=E42.binds (ps:=P42) fun _ _ _ _ _ _ us hl=>by obtain ⟨_,_,rfl⟩:=len2 hl;rfl
 obtain ⟨_,E43⟩:=t43.F;have B43:=E43.binds (ps:=P43) fun _ _ _ _ _ _ us hl=>by obtain ⟨_,_,rfl⟩:=len2 hl;rfl
 obtain ⟨_,E44⟩:=t44.F;have B44:=E44.binds (ps:=P44) fun _ _ _ _ _ _ us hl=>by obtain ⟨_,_,rfl⟩:=len2 hl;rfl
 have E45:=zNw (st:=top 58) l45 c45 k45;have B45:=E45.binds (ps:=P45) fun _ _ _ _ _ _ us hl=>by obtain ⟨_,rfl⟩:=len1 hl;rfl
 refine ⟨W.fnOf "law" "law" (zCQ (top 58)) (zAB (top 58)) (zAA (top 58)) .none kV45 dc45 pm45 an45 cd45 ct45,fun s v=>.of_eq rfl,fun base _ _=>?_⟩;have g0:GOk l.prog w K mg base 0 G0 bs:=⟨fun x F h=>absurd h (by simp [G0]),fun x d h=>?_,fun x h=>?_,trivial,trivial,trivial,fun j L F e=>absurd e (by simp [G0])⟩
 .have g1:GOk l.prog w K mg base 1 G1 bs:=g0.add E0 sc0 ck0 (W.mg_of X G t0.a) B0;have g2:GOk l.prog w K mg base 2 G2 bs:=g1.add E1 sc1 ck1 (W.mg_of X G t1.a) B1;have g3:GOk l.prog w K mg base 3 G3 bs:=g2.add E2 sc2 ck2 (W.mg_of X G t2.a) B2;have g4:GOk l.prog w K mg base 4 G4 bs:=g3.add E3 sc3 ck3 (W.mg_of X G t3.a) B3;have g5:GOk l.prog w K mg base 5 G5 bs:=g4.add E4 sc4 ck4 (W.mg_of X G t4.a) B4;have g6:GOk l.prog w K mg base 6 G6 bs:=g5.add E5 sc5 ck5 (W.mg_of X G t5.a) B5;have g7:GOk l.prog w K mg base 7 G7 bs:=g6.add E6 sc6 ck6 (W.mg_of X G t6.a) B6;have g8:GOk l.prog w K mg base 8 G8 bs:=g7.add E7 sc7 ck7 (W.mg_of X G t7.a) B7;have g9:GOk l.prog w K mg base 9 G9 bs:=g8.add E8 sc8 ck8 (W.mg_of X G t8.a) B8;have g10:GOk l.prog w K mg base 10 G10 bs:=g9.add E9 sc9 ck9 (W.mg_of X G t9.a) B9;have g11:GOk l.prog w K mg base 10 G11 bs:=g10.addN E10 (W.mg_of X G t10.a) B10;have g12:GOk l.prog w K mg base 10 G12 bs:=g11.addN E11 (W.mg_of X G t11.a) B11;have g13:GOk l.prog w K mg base 10 G13 bs:=g12.addN E12 (W.mg_of X G t12.a) B12;have g14:GOk l.prog w K mg base 11 G14 bs:=g13.add E13 sc13 ck13 (W.mg_of X G t13.a) B13;have g14_0:GOk l.prog w K mg base 11 zS4 bs:=g14.addN E14 (W.mg_of X G t14.a) B14;have g14_1:GOk l.prog w K mg base 12 zS3 bs:=g14.addR g14_0 (by decide) E14 sc14 ck14 (W.mg_of X G t14.a) B14;have g15:GOk l.prog w K mg base 13 G15 bs:=g14.addR g14_1 (by decide) E14 sc14 ck14 (W.mg_of X G t14.a) B14;have g16:GOk l.prog w K mg base 14 G16 bs:=g15.add E15 sc15 ck15 (W.mg_of X G t15.a) B15;have g17:GOk l.prog w K mg base 15 G17 bs:=g16.add E16 sc16 ck16 (W.mg_of X G t16.a) B16;have g18:GOk l.prog w K mg base 16 G18 bs:=g17.add E17 sc17 ck17 (W.mg_of X G t17.a) B17;have g19:GOk l.prog w K mg base 17 G19 bs:=g18.add E18 sc18 ck18 (W.mg_of X G t18.a) B18;have g20:GOk l.prog w K mg base 18 G20 bs:=g19.add E19 sc19 ck19 (W.mg_of X G t19.a) B19;have g21:GOk l.prog w K mg base 19 G21 bs:=g20.add E20 sc20 ck20 (W.mg_of X G t20.a) B20;have g22:GOk l.prog w K mg base 20 G22 bs:=g21.add E21 sc21 ck21 (W.mg_of X G t21.a) B21;have g23:GOk l.prog w K mg base 21 G23 bs:=g22.add E22 sc22 ck22 (W.mg_of X G t22.a) B22;have g24:GOk l.prog w K mg base 22 G24 bs:=g23.add E23 sc23 ck23 (W.mg_of X G t23.a) B23;have g25:GOk l.prog w K mg base 23 G25 bs:=g24.add E24 sc24 ck24 (W.mg_of X G t24.a) B24;have g26:GOk l.prog w K mg base 24 G26 bs:=g25.add E25 sc25 ck25 (W.mg_of X G t25.a) B25;have g27:GOk l.prog w K mg base 25 G27 bs:=g26.add E26 sc26 ck26 (W.mg_of X G t26.a) B26;have g28:GOk l.prog w K mg base 26 G28 bs:=g27.add E27 sc27 ck27 (W.mg_of X G t27.a) B27;have g29:GOk l.prog w K mg base 27 G29 bs:=g28.add E28 sc28 ck28 (W.mg_of X G t28.a) B28;have g30:GOk l.prog w K mg base 28 G30 bs:=g29.add E29 sc29 ck29 (W.mg_of X G t29.a) B29;have g31:GOk l.prog w K mg base 28 G31 bs:=g30.addN E30 (W.mg_of X G t30.a) B30
  have g32:GOk l.prog w K mg base 29 G32 bs:=g31.add E31 sc31 ck31 (W.mg_of X G t31.a) B31;have g33:GOk l.prog w K mg base 30 G33 bs:=g32.add E32 sc32 ck32 (W.mg_of X G t32.a) B32;have g34:GOk l.prog w K mg base 31 G34 bs:=g33.add E33 sc33 ck33 (W.mg_of X G t33.a) B33;have g35:GOk l.prog w K mg base 32 G35 bs:=g34.add E34 sc34 ck34 (W.mg_of X G t34.a) B34;have g36:GOk l.prog w K mg base 33 G36 bs:=g35.add E35 sc35 ck35 (W.mg_of X G t35.a) B35;have g37:GOk l.prog w K mg base 34 G37 bs:=g36.add E36 sc36 ck36 (W.mg_of X G t36.a) B36;have g38:GOk l.prog w K mg base 35 G38 bs:=g37.add E37 sc37 ck37 (W.mg_of X G t37.a) B37;have g39:GOk l.prog w K mg base 35 G39 bs:=g38.addN E38 (W.mg_of X G t38.a) B38;have g40:GOk l.prog w K mg base 36 G40 bs:=g39.add E39 sc39 ck39 (W.mg_of X G t39.a) B39;have g41:GOk l.prog w K mg base 37 G41 bs:=g40.add E40 sc40 ck40 (W.mg_of X G t40.a) B40;have g42:GOk l.prog w K mg base 38 G42 bs:=g41.add E41 sc41 ck41 (W.mg_of X G t41.a) B41;have g43:GOk l.prog w K mg base 38 G43 bs:=g42.addN E42 (W.mg_of X G t42.a) B42;have g44:GOk l.prog w K mg base 39 G44 bs:=g43.add E43 sc43 ck43 (W.mg_of X G t43.a) B43;have g45:GOk l.prog w K mg base 39 G45 bs:=g44.addN E44 (W.mg_of X G t44.a) B44;have gl0:GOk l.prog w K mg base 40 GL0 bs:=g45.addL lsc0.1 lsc0.2 lck0;have ld0:zIC K "quartered" (top 18) P11 "point_by_point" L0 [1]:=by
   have cp:=zN9 (sc:=zAA (top 18)) (ps:=P11) (ys:=["height"]) (ix:=[1]) (by decide +kernel);rw [<- lsc0.2] at cp;exact ⟨⟨_,_,_,_,_,_,rfl,rfl,.inl rfl,by decide⟩,rfl,by decide,⟨_,_,lt0⟩,by decide +kernel,by decide,fun _=>rfl,by rw [lsc0.2];decide,cp.1,cp.2,zHp _⟩
  have gl1:GOk l.prog w K mg base 41 GL1 bs:=gl0.addL lsc1.1 lsc1.2 lck1;have ld1:zIC K "mirrored" (top 19) P12 "point_by_point" L1 [1]:=by
   have cp:=zN9 (sc:=zAA (top 19)) (ps:=P12) (ys:=["width"]) (ix:=[1]) (by decide +kernel);rw [<- lsc1.2] at cp;exact ⟨⟨_,_,_,_,_,_,rfl,rfl,.inl rfl,by decide⟩,rfl,by decide,⟨_,_,lt1⟩,by decide +kernel,by decide,fun _=>rfl,by rw [lsc1.2];decide,cp.1,cp.2,zHp _⟩
  have c0:DmOk l.prog w K mg base 41 []:=fun x F h=>absurd h (by simp)
  have c1_:=c0.lift1 gl1 (mem_of_getElem? (i:=41) (show GL1.fns[41]?=some (("_law_shape_is":Str),F41) from rfl));have d0:DmOk l.prog w K mg base 41 D0:=c1_;have d1:DmOk l.prog w K mg base 42 D1:=d0.add (gl1.mono (by decide)) E10 sc10 zTY (W.mg_of X G t10.a) B10;have d2:DmOk l.prog w K mg base 43 D2:=d1.addF E11 sc11 ld0 (W.mg_of X G t11.a) B11 (mem_of_getElem? (i:=1) (show D1[1]?=some (("point_by_point":Str),FM10) from rfl));have d3:DmOk l.prog w K mg base 44 D3:=d2.addF E12 sc12 ld1 (W.mg_of X G t12.a) B12 (mem_of_getElem? (i:=1) (show D2[1]?=some (("point_by_point":Str),FM10) from rfl));have d4:DmOk l.prog w K mg base 45 D4:=d3.add (gl1.mono (by decide)) E27 sc27 zTX (W.mg_of X G t27.a) B27;have d5:DmOk l.prog w K mg base 46 D5:=d4.add (gl1.mono (by decide)) E30 sc30 zTW (W.mg_of X G t30.a) B30;have d6:DmOk l.prog w K mg base 47 D6:=d5.add (gl1.mono (by decide)) E38 sc38 zTV (W.mg_of X G t38.a) B38;have d7:DmOk l.prog w K mg base 48 D7:=d6.add (gl1.mono (by decide)) E42 sc42 zTU (W.mg_of X G t42.a) B42;have d8:DmOk l.prog w K mg base 49 D8:=d7.add (gl1.mono (by decide)) E44 sc44 zTT (W.mg_of X G t44.a) B44;exact zKz E45 sc45 zTS (gl1.mono (by decide)) d8
 .simp only [G0,mem_cons,Prod.mk.injEq,List.mem_nil_iff,or_false,not_mem_nil] at h;rcases h with ⟨rfl,rfl⟩ | ⟨rfl,rfl⟩
  .exact zHo (ns:=[0,1]) (W.mg_of X G ca0) cl0 cv0
  .exact zHo (ns:=[1,2]) (W.mg_of X G ca1) cl1 cv1
 .simp only [bs,mem_cons,List.mem_nil_iff,or_false,not_mem_nil] at h;rcases h with rfl | rfl | rfl | rfl | rfl | rfl | rfl | rfl | rfl | rfl | rfl
  .exact W.mg_none_of X G z0
  .exact W.mg_none_of X G z1
  .exact W.mg_none_of X G z2
  .exact W.mg_none_of X G z3
  .exact W.mg_none_of X G z4
  .exact W.mg_none_of X G z5
  .exact W.mg_none_of X G z6
  .exact W.mg_none_of X G z7
  .exact W.mg_none_of X G z8
  .exact W.mg_none_of X G z9
  .exact W.mg_none_of X G z10
end Q
end
section
namespace Q
open PySem DL
open L2
theorem h0:zIo F0:=fun a b Q ha hb h=>zJs ha hb h
theorem h1:zDb F1:=zLj (nm:=0) rfl h0
theorem h2:zIn F2:=zOj (nr:=1) rfl h1
theorem h3:zEn F3:=zHg (nr:=1) rfl h1
theorem h4:zGN F4:=zLX (nr:=1) rfl h1
theorem h5:zFW F5:=zJR (nr:=1) rfl h1
theorem h6:zM5 F6:=zO7 (np:=2) rfl h2
theorem h7:zLH F7:=zLW (nn:=6) (ng:=0) rfl h6 rfl
theorem h8:zEK F8:=zLT
theorem h9:WpF F9:=zS9
theorem h13:zLJ F13:=zLb
theorem h14a:zQW zS5:=zJh (nu:=8) (ns:=14) rfl h8
theorem h14:zM4 F14:=zO4 (nu:=8) (ns:=14) rfl rfl h8 h14a
theorem h15:zIA F15:=zLi (nd:=5) (nm:=3) (np:=2) (nt:=4) rfl rfl rfl rfl h5 h3 h2 h4
theorem h16:UpcF F16:=zQa (nn:=14) (nr:=15) rfl rfl h14 h15
theorem h17:LvcF F17:=zRc (nn:=14) (nr:=15) rfl rfl h14 h15
theorem h18:zIE F18:=zM1 (nu:=8) rfl h8
theorem h19:zQX F19:=zPB (na:=18) rfl h18
theorem h20:zLI F20:=zLa (nm:=19) (nu:=16) (nl:=17) (nx:=8) rfl rfl rfl rfl h19 h16 h17 h8
theorem h21:MidF F21:=zRY (nt:=4) (np:=2) (ng:=1) rfl rfl rfl h4 h2
theorem h22:PcF F22:=zTP (nw:=9) (nm:=21) rfl rfl h9 h21
theorem h23:OnF F23:=zTQ
theorem h24:zG8 F24:=zJL (ns:=20) (np:=22) (no:=23) rfl rfl rfl h20 h22 h23
theorem h25:zLL F25:=zPy (nm:=3) rfl h3
theorem h26:zH9 F26:=zLh (ng:=0) (nt:=4) (nf:=25) (nm:=3) (nd:=21) rfl rfl rfl rfl rfl h4 h25 h3 h21
theorem h28:AllF F28:=zS0 (ns:=13) (np:=24) rfl rfl h13 h24
theorem h29:RowF F29:=zQs (np:=2) (nt:=7) (ng:=0) rfl rfl rfl h2 h7
theorem m27:zID FM27:=zMn
theorem m30:zLK FM30:=zI5 (na:=28) (nf:=25) (nr:=26) (nw:=29) (ne:=4) rfl rfl rfl rfl rfl h28 h25 h26 h29 m27
theorem h31:zS6 F31:=zQM
theorem h32:zOF F32:=fun i Q h=>zLR h
theorem h33:zIo F33:=fun a b Q ha hb h=>zJs ha hb h
theorem h35:zDb F35:=zJ0 (nm:=33) rfl h33
theorem h39:zEn F39:=zHg (nr:=35) rfl h35
theorem h34:IsF F34:=fun q t b Q l1 l2 h=>zTg (nw:=32) (nm:=33) rfl rfl h32 h33 l1 l2 h
theorem ten9:(10:Int)^(9:Int).toNat=1000000000:=by decide
theorem h36 (c:Int)(Q:R->Prop)(h:∀ q:Rat,RB 41 q->Q (ratD q,.cl)):EvP (F36 [.int c]) Q:=by
 (walk_at "d");unfold b36;(walk_at "st");refine zAE ?_;(walk_at "e");refine zCd (by decide) ?_;(walk_at "e");refine zBK (fun _=>?_) fun _=>?_
 .refine zAE ?_;(walk_at "e");refine zDQ (zCP (by decide) (by decide)) ?_;(walk_at "e");refine zSy ⟨by decide,by decide,by decide⟩ ?_;rw [ten9];refine zBI (zDW (by decide)) ?_;(walk_at "e");refine zCd (by decide) ?_;(walk_at "e");refine zSy ⟨by decide,by decide,by decide⟩ ?_;rw [ten9];(walk_at "e");have d1:=fmod_nonneg_of_pos (c.fdiv 16) (show (0:Int) < 2*1000000000 by decide);have d2:=fmod_lt_of_pos (c.fdiv 16) (show (0:Int) < 2*1000000000 by decide);rw [zD3];exact h _ (zDs (zC8 (k:=1000000000) (by omega) (by decide)) (by decide))
 refine zAw (k_nx ?_);refine zAE ?_;(walk_at "e");refine zDQ (zCP (by decide) (by decide)) ?_;(walk_at "e");refine zCd (by decide) ?_;(walk_at "e");refine zDQ (zCP (by decide) (by decide)) ?_;(walk_at "e");refine zCd (by decide) ?_;(walk_at "e");have d1:=fmod_nonneg_of_pos (c.fdiv 16) (show (0:Int) < 19 by decide);have d2:=fmod_lt_of_pos (c.fdiv 16) (show (0:Int) < 19 by decide);have e1:=fmod_nonneg_of_pos (c.fdiv 304) (show (0:Int) < 3 by decide);have e2:=fmod_lt_of_pos (c.fdiv 304) (show (0:Int) < 3 by decide);have bb:Bd 41 (1+(c.fdiv 304).fmod 3):=zC8 (k:=10) (by omega) (by decide);refine h35 _ _ _ (by omega) (bb.mono (by decide)) ?_;(walk_at "w");exact h _ (zFq (by omega) (zC8 (k:=100) (by omega) (by decide)) bb)
theorem zQS {U:Type}(f:U->D)(xs:List U)(x:U):xs.map f++[f x]=(xs++[x]).map f:=by rw [map_append];rfl
theorem h37 (ns:List Int)(a m:Nat)(Q:R->Prop)(ha:a<=100)(hm:m<=6)(h:∀ ps:List Pt,ps.length<=6->(∀ p∈ps,PB 41 p)->Q (zBj ps,.fr)):EvP (F37 [scr ns,.int a,.int m]) Q:=by
 (walk_at "d");unfold b37;(walk_at "st");refine zAE ?_;(walk_at "e");refine zAE ?_;(walk_at "e");refine ⟨by omega,?_⟩;rw [toNat_natCast];refine zCB (fun xs G=>(∃ (ps:List Pt) (o p q:Option (D×Bool)),G=[some (scr ns,false),some (.int a,false),some (.int m,false),some (zBj ps,true),o,p,q]/\ps.length+xs.length<=6/\∀ p∈ps,PB 41 p)/\∀ x∈xs,∃ k:Int,x=.int k/\0<=k/\k<=200) ?_ ?_ _ _ ⟨⟨[],none,none,none,rfl,?_,by simp⟩,?_⟩
 .rintro x xs G ⟨⟨ps,o,p,q,rfl,hl,hp⟩,hk⟩;obtain ⟨k,rfl,k0,k1⟩:=hk x mem_cons_self;rw [length_cons] at hl;refine ⟨_,rfl,?_⟩;(walk_at "s");refine zAE ?_;(walk_at "e");refine zBI (zDW (by decide)) ?_;(walk_at "e");refine h31 ns _ _ (by omega) ?_;(walk_at "e");refine h36 _ _ fun qx rx=>?_
  (walk_at "e");refine zAE ?_;(walk_at "e");refine zBI (zDW (by decide)) ?_;(walk_at "e");refine h31 ns _ _ (by omega) ?_;(walk_at "e");refine h36 _ _ fun qy ry=>?_
  (walk_at "e");refine zAE (zF9 rfl (by rw [length_map];omega) ?_);(walk_at "e");refine zAw ?_;refine ⟨⟨ps++[(qx,qy)],some (.int k,false),some (ratD qx,false),some (ratD qy,false),?_,by rw [length_append,length_singleton];omega,?_⟩,fun y hy=>hk y (mem_cons_of_mem _ hy)⟩
  .unfold zBj;rw [<- zQS]
   rfl
  .intro p hp2;rcases mem_append.mp hp2 with z | z
   .exact hp p z
   .rw [mem_singleton.mp z];exact ⟨rx,ry⟩
 .rintro G ⟨⟨ps,o,p,q,rfl,hl,hp⟩,_⟩;rw [length_nil] at hl;refine k_nx ?_;(walk_at "w");exact h ps (by omega) hp
 .rw [zAb,length_nil];omega
 .intro x hx;obtain ⟨k,rfl,k0,k1⟩:=zCm hx;exact ⟨_,rfl,by omega,by omega⟩
theorem h40 (w h:Nat)(T:List (List Rat))(B:Nat)(Q:R->Prop)(hh:T.length=h)(hw:∀ r∈T,r.length=w/\∀ q∈r,RB B q)(hB:B<=30000000)(hQ:Q (.bl true,.cl)):EvP (F40 [.lst (T.map zBH),.int w,.int h]) Q:=by
 (walk_at "d");unfold b40;(walk_at "st");refine zAE (zCi (zDY (zDB (zBe (zEA (zAG rfl (zKA (x_bl (x_bl (cb_f ?_))))))))));refine zDZ (zBX (zBF (zAG rfl (zEO (zAG rfl ?_)))));rw [length_map,hh];refine zG4 (x_bl (zEH (zBt rfl (zAw (k_nx ?_)))));refine zAE (zB3 (zEv (zAG rfl (w_cl ?_))));refine zCB (fun xs G=>∃ (rs:List (List Rat)) (a b:Option (D×Bool)),xs=rs.map zBH/\(∀ r∈rs,r∈T)/\G=[some (.lst (T.map zBH),false),some (.int (w:Int),false),some (.int (h:Int),false),a,b]) ?_ ?_ _ _ ⟨T,none,none,rfl,fun _ z=>z,rfl⟩
 .rintro x xs G ⟨rs,a,b,e,hr,rfl⟩;cases rs with
  | nil=>cases e
  | cons r rs =>
   cases e;obtain ⟨r1,r2⟩:=hw r (hr r mem_cons_self);refine ⟨_,rfl,?_⟩;(walk_at "s");refine zAE (zCi (zDY (zDB (zBe (zEA (zAG rfl (zKA (x_bl (x_bl (cb_f ?_))))))))));refine zDZ (zBX (zBF (zAG rfl (zEO (zAG rfl ?_)))));rw [length_map,r1];refine zG4 (x_bl (zEH (zBt rfl (zAw (k_nx ?_)))));refine zAE (zB3 (zEv (zAG rfl (w_cl ?_))));refine zCB (fun ys G=>∃ (qs:List Rat) (b:Option (D×Bool)),ys=qs.map ratD/\(∀ q∈qs,q∈r)/\G=[some (.lst (T.map zBH),false),some (.int (w:Int),false),some (.int (h:Int),false),some (zBH r,false),b]) ?_ ?_ _ _ ⟨r,b,rfl,fun _ z=>z,rfl⟩
   .rintro y ys G ⟨qs,b,e,hq,rfl⟩;cases qs with
    | nil=>cases e
    | cons q qs =>
     cases e;have rq:=r2 q (hq q mem_cons_self);refine ⟨_,rfl,?_⟩;(walk_at "s");refine zAE (zCi (zDY (zDB (zBe (zEA (zAG rfl (zRn (x_bl (x_bl (cb_f ?_))))))))));refine zDB (zBX (zBF (zAG rfl (zMD (zAa (zG4 (x_bl (zEH (zBt rfl ?_)))))))));refine zDZ (zBe (zAS rfl (zAF (zAG rfl (n_cl (zAF (zA6 (zAG rfl (zAa (zMF (n_cl (zAF (zA6 (zAG rfl (zAa (zMG (n_cl (zAo ?_))))))))))))))))));refine h34 q _ _ _ (zJo rq.num rq.den (by omega)) (zJo rq.num rq.den (by omega)) ?_;rw [decide_eq_true rfl];refine n_cl (x_bl (x_bl (cb_f (zAw (k_nx (zAw ?_))))));exact ⟨qs,_,rfl,fun y hy=>hq y (mem_cons_of_mem _ hy),rfl⟩
   .rintro G ⟨qs,b,e,hq,rfl⟩;refine k_nx (zAw ?_);exact ⟨rs,_,_,rfl,fun y hy=>hr y (mem_cons_of_mem _ hy),rfl⟩
 .rintro G ⟨rs,a,b,e,hr,rfl⟩;refine k_nx ?_;(walk_at "w");exact hQ
theorem idxs {n:Nat}:∀ x∈rngL 0 n,∃ k:Nat,x=.int (k:Int)/\k < n:=fun x hx=>by
 obtain ⟨k,rfl,k0,k1⟩:=zCm hx;exact ⟨k.toNat,by rw [show ((k.toNat:Nat):Int)=k by omega],by omega⟩
theorem h41 (B:Nat)(hB:B<=1000)(rs:List (List Pt))(Q:R->Prop)(hl:rs.length<=100)(hs:∀ ps∈rs,ps.length<=100/\∀ p∈ps,PB B p)(hQ:Q (.bl true,.cl)):EvP (F41 [zAX rs,zAX rs]) Q:=by
 (walk_at "d");unfold b41;(walk_at "st");refine zAE (zCi (zDY (zDB (zBe (zEA (zAG rfl (zKA (x_bl (x_bl (cb_f ?_))))))))));refine zDZ (zBX (zBF (zAG rfl (zEO (zBF (zAG rfl (zEO ?_)))))));refine zG4 (x_bl (zEH (zBt rfl (zAw (k_nx ?_)))));refine zAE (zB3 (zIK (zBF (zAG rfl (zEO ⟨_,rfl,by rw [length_map];omega,?_⟩)))));rw [length_map,toNat_natCast];have at1:∀ {i:Nat} {ps:List Pt},rs[i]?=some ps->atI (rs.map zBj) (i:Int)=some (zBj ps):=fun {i ps} e=>zAq (by rw [getElem?_map,e];rfl)
 refine zCB (fun xs G=>(∃ a b c d,G=[some (zAX rs,false),some (zAX rs,false),a,b,c,d])/\∀ x∈xs,∃ k:Nat,x=.int (k:Int)/\k < rs.length) ?_ ?_ _ _ ⟨⟨none,none,none,none,rfl⟩,idxs⟩
 .rintro x xs G ⟨⟨a,b,c,d,rfl⟩,hk⟩;obtain ⟨i,rfl,hi⟩:=hk x mem_cons_self;have e1:rs[i]?=some rs[i]:=getElem?_eq_getElem hi;have hp:=hs _ (mem_of_getElem? e1);generalize rs[i]=ps at e1 hp;refine ⟨_,rfl,?_⟩;(walk_at "s");refine zAE (zCi (zDY (zDB (zBe (zEA (zA6 (zAG rfl (zAG rfl (zAz (at1 e1) (zKA (x_bl (x_bl (cb_f ?_)))))))))))));refine zDZ (zBX (zBF (zA6 (zAG rfl (zAG rfl (zAz (at1 e1) (zEO (zBF (zA6 (zAG rfl (zAG rfl (zAz (at1 e1) (zEO ?_)))))))))))));refine zG4 (x_bl (zEH (zBt rfl (zAw (k_nx ?_)))));refine zAE (zB3 (zIK (zBF (zA6 (zAG rfl (zAG rfl (zAz (at1 e1) (zEO ⟨_,rfl,by rw [length_map];omega,?_⟩))))))));rw [length_map,toNat_natCast];have at2:∀ {j:Nat} {p:Pt},ps[j]?=some p->atI (ps.map ptD) (j:Int)=some (ptD p):=fun {j p} e=>zAq (by rw [getElem?_map,e];rfl)
  refine zCB (fun ys G=>(∃ b c d,G=[some (zAX rs,false),some (zAX rs,false),some (.int (i:Int),false),b,c,d])/\∀ x∈ys,∃ k:Nat,x=.int (k:Int)/\k < ps.length) ?_ ?_ _ _ ⟨⟨b,c,d,rfl⟩,idxs⟩
  .rintro y ys G ⟨⟨b,c,d,rfl⟩,hj⟩;obtain ⟨j,rfl,hj2⟩:=hj y mem_cons_self;have e2:ps[j]?=some ps[j]:=getElem?_eq_getElem hj2;have rp:=hp.2 _ (mem_of_getElem? e2);generalize ps[j]=p at e2 rp;refine ⟨_,rfl,?_⟩;(walk_at "s");refine zAE (zEc (zA6 (zA6 (zAG rfl (zAG rfl (zAz (at1 e1) (zAG rfl (zAz (at2 e2) ⟨false,rfl,k_nx ?_⟩))))))));(walk_at "s");refine zAE (zCi (zDY (zDB (zBe (zEA (zAG rfl (zRo (x_bl (x_bl (cb_f ?_))))))))));refine zDZ (zBX (zBF (zAG rfl (zMD (zAa ?_)))));refine zG4 (x_bl (zEH (zBt rfl (zAw (k_nx ?_)))));refine zAE (zB3 (zIK (zAa ⟨_,rfl,by decide,?_⟩)));refine zCB (fun zs G=>(∃ d,G=[some (zAX rs,false),some (zAX rs,false),some (.int (i:Int),false),some (.int (j:Int),false),some (ptD p,false),d])/\∀ x∈zs,∃ k:Nat,x=.int (k:Int)/\k < 2) ?_ ?_ _ _ ⟨⟨d,rfl⟩,idxs⟩
   .rintro z zs G ⟨⟨d,rfl⟩,hk2⟩;obtain ⟨k,rfl,hk3⟩:=hk2 z mem_cons_self;obtain ⟨q,eq,rq⟩:∃ q:Rat,atI [ratD p.1,ratD p.2] (k:Int)=some (ratD q)/\RB B q:=by
     obtain rfl | rfl:k=0\/k=1:=by omega
     .exact ⟨p.1,rfl,rp.1⟩
     .exact ⟨p.2,rfl,rp.2⟩
    have ip:∀ {Q:R->Prop},Q (ratD q,.cl)->EvP (ixD (ptD p) (.int (k:Int))) Q:=fun h=>zDL eq h
    refine ⟨_,rfl,?_⟩;(walk_at "s");refine zAE (zCi (zBe (zAS rfl (zAF (zA6 (zAG rfl (zAG rfl (ip (n_cl (zAF ?_))))))))));refine zA6 (zA6 (zA6 (zA6 (zAG rfl (zAG rfl (zAz (at1 e1) (zAG rfl (zAz (at2 e2) (zAG rfl (ip (zAa (zMF (n_cl (zAF ?_))))))))))))));refine zA6 (zA6 (zA6 (zA6 (zAG rfl (zAG rfl (zAz (at1 e1) (zAG rfl (zAz (at2 e2) (zAG rfl (ip (zAa (zMG (n_cl (zAo ?_))))))))))))));refine h34 q _ _ _ (zJo rq.num rq.den (by omega)) (zJo rq.num rq.den (by omega)) ?_;rw [decide_eq_true rfl];refine n_cl (x_bl (x_bl (cb_f (zAw (k_nx (zAw ?_))))));exact ⟨⟨_,rfl⟩,fun y hy=>hk2 y (mem_cons_of_mem _ hy)⟩
   .rintro G ⟨⟨d,rfl⟩,_⟩;refine k_nx (zAw ?_);exact ⟨⟨_,_,_,rfl⟩,fun y hy=>hj y (mem_cons_of_mem _ hy)⟩
  .rintro G ⟨⟨b,c,d,rfl⟩,_⟩;refine k_nx (zAw ?_);exact ⟨⟨_,_,_,_,rfl⟩,fun y hy=>hk y (mem_cons_of_mem _ hy)⟩
 .rintro G ⟨⟨a,b,c,d,rfl⟩,_⟩;refine k_nx ?_;(walk_at "w");exact hQ
def Six (ps:List Pt):Prop:=ps.length<=6/\∀ p∈ps,PB 41 p
theorem m38 (ns:List Int)(a:Nat)(ha:a<=30)(O:Mem)(Q:MR->Prop)(hQ:∀ (P:Mem) (rs:List (List Pt)),Ll (O++P) O.length (lpR (O.length+1) rs)->rs.length<=2->(∀ ps∈rs,Six ps)->Q (.loc O.length,O++P)):EvP (FM38 [.dat (scr ns),.dat (.int (a:Int))] O) Q:=by
 refine zGq rfl (by decide) ?_;unfold mb38;show EvP (evSs' GL1 D5 _ ⟨[some (.dat (scr ns)),some (.dat (.int (a:Int))),none,none,none],O⟩) _;refine zAJ (zBU ?_);apply zA9
 case hd=>(repeat (first | exact zGy | apply zFI | apply zBa | (apply drc_loc;rfl) | (apply drc_loc2;rfl;focus ((repeat (first | exact sb_nil | (apply sb_loc;first | (apply dr_nil;rfl) | (apply zEB;rfl))));done)) | apply zAY))
 (walk_at "w");refine h31 ns a _ (by omega) ?_;refine n_cl (zBC rfl (zAn ?_));(walk_at "s");refine zAJ (zBU (zJz (zAf ⟨zero_le _,zAn ?_⟩)));(walk_at "s");generalize cel ns (a:Int)=c;have d1:=fmod_nonneg_of_pos c (show (0:Int) < 3 by decide);have d2:=fmod_lt_of_pos c (show (0:Int) < 3 by decide);obtain ⟨k,ek⟩:∃ k:Nat,c.fmod 3=(k:Int):=⟨(c.fmod 3).toNat,by omega⟩;refine zAJ (zCl (zDF (zA9 rfl (zBY (zAG (zAK rfl zAT) (zAa (zCd (by decide) (zBC rfl ⟨_,rfl,by omega,?_⟩))))))));rw [ek,toNat_natCast];have hk:k<=2:=by omega
 clear d1 d2 ek;have getN:∀ (j:Nat) (rs:List (List Pt)),(O++(news (O.length+1) j::rs.map zFo))[O.length]?=some (news (O.length+1) j):=fun j rs=>by rw [getElem?_append_right (le_refl _),sub_self];rfl
 have getR:∀ (j i:Nat) (rs:List (List Pt)) (ps:List Pt),rs[i]?=some ps->(O++(news (O.length+1) j::rs.map zFo))[O.length+1+i]?=some (zFo ps):=fun j i rs ps e=>by
  rw [getElem?_append_right (by omega),show O.length+1+i - O.length=i+1 by omega,List.getElem?_cons_succ,getElem?_map,e]
  rfl
 refine zD9 (s:=⟨_,_⟩) ((rngL 0 k).map .dat) (fun j s=>∃ (o4:Option W) (rs:List (List Pt)) (c:Int),s=⟨[some (.dat (scr ns)),some (.dat (.int (a:Int))),some (.dat (.int c)),some (.loc O.length),o4],O++(news (O.length+1) j::rs.map zFo)⟩/\rs.length=j/\j<=k/\∀ ps∈rs,Six ps) (fun j s _=>rfl) ?_ ?_ ⟨none,[],c,rfl,rfl,zero_le _,by simp⟩
 .rintro j y s ey ⟨o4,rs,c,rfl,hj,hjk,hs⟩;have hj2:j < k:=by
   have:=(zzg ey).1;rw [length_map,zAb] at this;exact this
  have ey2:y=.dat (.int (j:Int)):=by
   unfold rngL at ey;rw [map_map,getElem?_map,getElem?_range hj2] at ey;have:=(Option.some.inj ey).symm;rw [this];simp
  subst ey2;refine ⟨_,rfl,?_⟩;dsimp only;(walk_at "s");have e1:=fmod_nonneg_of_pos (c.fdiv 3) (show (0:Int) < 7 by decide);have e2:=fmod_lt_of_pos (c.fdiv 3) (show (0:Int) < 7 by decide);obtain ⟨m,hm,em⟩:∃ m:Nat,m<=6/\atI [D.int 3,.int 4,.int 2,.int 3,.int 4,.int 1,.int 0] ((c.fdiv 3).fmod 7)=some (.int (m:Int)):=by
   generalize (c.fdiv 3).fmod 7=i at e1 e2;have cases7:i=0\/i=1\/i=2\/i=3\/i=4\/i=5\/i=6:=by omega
   rcases cases7 with rfl | rfl | rfl | rfl | rfl | rfl | rfl
   .exact ⟨3,by decide,rfl⟩
   .exact ⟨4,by decide,rfl⟩
   .exact ⟨2,by decide,rfl⟩
   .exact ⟨3,by decide,rfl⟩
   .exact ⟨4,by decide,rfl⟩
   .exact ⟨1,by decide,rfl⟩
   .exact ⟨0,by decide,rfl⟩
  refine zAJ (zFe (zAW rfl (zA9 rfl ?_)));refine zAS rfl (zAF (zAG (zAK rfl zAT) (n_cl (zAF ?_))));refine zBY (zBY (zAG (zAK rfl zAT) (zAa (zK9 (zBY (zAa (zAG (zAK rfl zAT) (zBI (zDW (by decide)) (zK9 (n_cl (zAF ?_)))))))))));refine zA6 ?_;(walk_at "e");refine zDQ (zCP (by decide) (by decide)) ?_;(walk_at "e");refine zCd (by decide) ?_;refine zAz em (n_cl (zAo ?_));rw [show (a:Int)+1+8*(j:Int)=((a+1+8*j:Nat):Int) by omega];refine h37 ns _ m _ (by omega) hm fun ps hl hp=>?_
  refine n_fr (zLG (zGi ps) ⟨O.length,_,rfl,zA1 (getN j rs),by rw [zB1];omega,zAn ?_⟩);have es:(O++(news (O.length+1) j::rs.map zFo)++[(ps.map ptD).map W.dat]).set O.length (news (O.length+1) j++[.loc (O++(news (O.length+1) j::rs.map zFo)).length])=O++(news (O.length+1) (j+1)::(rs++[ps]).map zFo):=by
   have ll:(O++(news (O.length+1) j::rs.map zFo)).length=O.length+1+j:=by rw [length_append,length_cons,length_map,hj];omega
   rw [ll,append_assoc,set_append_right _ _ (le_refl _),sub_self,<- zC6,map_append]
   rfl
  dsimp only;rw [es];refine zAJ (zBU (zA9 rfl (zBY (zAG (zAK rfl zAT) (zAa (zDQ (zCP (by decide) (by decide)) (zBC rfl (zAn (zBR ?_)))))))));(walk_at "s");refine ⟨some (.dat (.int j)),rs++[ps],_,rfl,by rw [length_append,hj];rfl,by omega,fun x hx=>?_⟩;rcases mem_append.mp hx with z | z
  .exact hs x z
  .rw [mem_singleton.mp z];exact ⟨hl,hp⟩
 .rintro s ⟨o4,rs,c,rfl,hj,hjk,hs⟩;have lw:((rngL 0 k).map W.dat).length=k:=by rw [length_map,zAb]
  rw [lw] at hj;rw [lw];refine zAn (zAJ (zDo (zAW rfl (zJ5 ?_))));refine hQ _ rs ⟨by rw [zL4,hj];exact getN k rs,fun p hp=>?_⟩ (by omega) hs;obtain ⟨i,ps,e,rfl⟩:=zPF hp;exact getR k i rs ps e
theorem zL6 {O:Mem}{n:Nat}{l:Lp}(e:Ll O n l):∀ p∈l,p.1≠n:=fun p hp z=>by
 have h1:=e.row p hp;rw [z,e.top] at h1;have h2:=Option.some.inj h1;cases l with
 | nil=>exact absurd hp (by simp)
 | cons q l =>
  cases h3:p.2 with
  | nil=>rw [h3] at h2;cases h2
  | cons d ds=>rw [h3] at h2;cases h2
theorem zQT {w h:Nat}{rs:List (List Pt)}(hw:w<=4)(hh:h<=4)(hl:rs.length<=2)(hs:∀ ps∈rs,ps.length<=6):(allP w h rs).length<=400:=by
 have:=zC9 (zDG w h) 72 rs fun ps hps=>by
  have a:=zFn w h ps;have b:=hs ps hps;have c:ps.length*(w+h+4)<=6*12:=Nat.mul_le_mul b (by omega);omega
 have:=mul_le_mul_right 72 hl;have e:(allP w h rs).length=(rs.flatMap (zDG w h)).length:=rfl;omega
theorem zSj {w h:Nat}{zs:List Pc}(hz:∀ z∈zs,PcB 90 w h z)(hw:w<=100)(hl:zs.length<=400)(c r:Int):RB 4000001 (dueZ zs c r):=by
 refine (zIu (L:=400) (B:=4600) (by decide) ⟨by rw [length_map];exact hl,fun q hq=>?_⟩).2.2;obtain ⟨z,mz,rfl⟩:=mem_map.mp hq;have f:RB 2270 (zCM z):=(zKX (hz z mz)).mono (by decide);have g:RB 2270 (zCg z):=(zHS (hz z mz) hw).mono (by decide);have z0:RB 2270 (0:Rat):=(zDs (n:=12) (i:=0) (zC8 (k:=1) (by decide) (by decide)) (by decide)).mono (by decide);unfold dz;have a:RB 2270 (if z.r=r/\z.c < c then zCM z else 0):=by split<;>assumption
 have b:RB 2270 (if z.r=r/\z.c=c then zCg z else 0):=by split<;>assumption
 exact (zDt a b).mono (by decide)
structure Tb (O:Mem)(n b:Nat)(zs:List Pc)(w h:Nat):Prop where
 ll:Ll O n (lpT b zs w h)
 pc:∀ z∈zs,PcB 90 w h z
 len:zs.length<=400
theorem Tb.dr {O:Mem}{n b:Nat}{zs:List Pc}{w h:Nat}(t:Tb O n b zs w h):drW O (.loc n)=some (tabT zs w h):=by rw [t.ll.dr,zTb]
theorem Tb.app {O:Mem}{n b:Nat}{zs:List Pc}{w h:Nat}(t:Tb O n b zs w h)(P:Mem):Tb (O++P) n b zs w h:=⟨t.ll.app P,t.pc,t.len⟩
theorem zIw (zs:List Pc)(w h:Nat)(Q:R->Prop)(hz:∀ z∈zs,PcB 90 w h z)(hl:zs.length<=400)(hw:w<=100)(hQ:Q (.bl true,.cl)):EvP (F40 [tabT zs w h,.int w,.int h]) Q:=by
 have e:tabT zs w h=.lst (((List.range h).map (rowZ zs w)).map zBH):=by unfold tabT;rw [map_map];rfl
 rw [e];refine h40 w h _ 4000001 Q (by rw [length_map,length_range]) (fun r hr=>?_) (by decide) hQ;obtain ⟨j,_,rfl⟩:=mem_map.mp hr;refine ⟨zJA zs w j,fun q hq=>?_⟩;obtain ⟨i,hi,rfl⟩:=List.getElem_of_mem hq;have hi':i < w:=by rw [zJA] at hi;exact hi
 have e2:=zFj (zs:=zs) (r:=j) (fun z m=>(hz z m).c0) hi';rw [getElem?_eq_getElem hi] at e2;rw [Option.some.inj e2];exact zSj hz hw hl _ _
theorem zOW {w h n:Nat}{rs:List (List Pt)}{O:Mem}{Q:MR->Prop}(w1:1<=w)(w2:w<=4)(h1:1<=h)(h2:h<=4)(hl:rs.length<=2)(hs:∀ ps∈rs,ps.length<=6/\∀ p∈ps,PB 90 p)(dr:drW O (.loc n)=some (zAX rs))(hQ:∀ (P:Mem) (m b:Nat),Tb (O++P) m b (allP w h rs) w h->Q (.loc m,O++P)):EvP (FM30 [.dat (.int (w:Int)),.dat (.int (h:Int)),.loc n] O) Q:=by
 have fb:FlB 90 w h rs:=⟨w1,by omega,h1,by omega,by omega,by decide,fun ps hp=>⟨by have:=(hs ps hp).1;omega,(hs ps hp).2⟩⟩;have al:=zQT w2 h2 hl fun ps hp=>(hs ps hp).1
 refine m30 90 w h rs (.loc n) O Q fb (by omega) (by have:=mul_le_mul_right (24*90+101) al;omega) dr fun P=>?_
 have T:=zRd (O++P) (allP w h rs) w h;have e:O++P++zBG (allP w h rs) w h++[news (O++P).length h]=O++(P++zBG (allP w h rs) w h++[news (O++P).length h]):=by simp only [append_assoc]
 rw [e] at T ⊢;exact hQ _ _ _ ⟨T,zOC fb.w1 (by have:=fb.w2;omega) (by have:=fb.h2;omega) fb.r,al⟩
theorem zKi {C:Gm}{n:Nat}{ms:List Nat}{x y:Str}{src c e:E}:evE C (.comp2 n ms x y src c e)=zFN ms 2 (evI C src) (tg2 n (n+1)) (evC C c) (evE C e):=rfl
theorem zHs {C:Gm}{G:Dst}{n:Nat}{ms:List Nat}{x y:Str}{src c el:E}{Q:R->Prop}(h:EvP (evI C src G) fun zs=>zs.length<=10000/\EvP (zBb (tg2 n (n+1)) (evC C c) (evE C el) zs (mask none ms G++[none,none])) fun ys=>Q (.lst ys,.fr)):EvP (evE C (.comp2 n ms x y src c el) G) Q:=by
 obtain ⟨zs,e,hl,ys,e2,q⟩:=h;refine ⟨_,?_,q⟩;rw [zKi];unfold zFN;rw [e];show (if zs.length<=10000 then _ else _)=_;rw [if_pos hl];show (zBb _ _ _ zs (mask none ms G++[none,none])).bind _=_;rw [e2]
 rfl
theorem zN7 {U:Type}{C:Gm}{n:Nat}{el:E}{base:Dst}{Q:List D->Prop}(hn:base.length=n)(u v g:U->D)(as:List U)(o p:Option (D×Bool))(ha:∀ a∈as,EvP (evE C el (base++[some (u a,false),some (v a,false)])) fun r=>r.2≠.dt/\r.1=g a)(h:Q (as.map g)):EvP (zBb (tg2 n (n+1)) (evC C .nil) (evE C el) (as.map fun a=>.tup [u a,v a]) (base++[o,p])) Q:=by
 induction as generalizing o p Q with
 | nil=>exact ⟨_,rfl,h⟩
 | cons a as ih =>
  obtain ⟨r,e,nd,er⟩:=ha a mem_cons_self;obtain ⟨ys,e2,q⟩:=ih (some (u a,false)) (some (v a,false)) (Q:=fun ys=>Q (g a::ys)) (fun b hb=>ha b (mem_cons_of_mem _ hb)) h;refine ⟨_,?_,q⟩;have es:((base++[o,p]).set n (some (u a,false))).set (n+1) (some (v a,false))=base++[some (u a,false),some (v a,false)]:=by
   rw [set_append_right _ _ (by omega),set_append_right _ _ (by omega),hn,sub_self,Nat.add_sub_cancel_left];rfl
  have et:tg2 n (n+1) (.tup [u a,v a]) (base++[o,p])=some (base++[some (u a,false),some (v a,false)]):=by rw [<- es];rfl
  show (tg2 n (n+1) (.tup [u a,v a]) (base++[o,p])).bind _=_;rw [et,Option.bind_some,zDO,Option.bind_some,if_pos rfl,e,Option.bind_some,if_neg nd,er];rw [zDO] at e2;show (zBb _ _ _ (as.map fun a=>.tup [u a,v a]) (base++[some (u a,false),some (v a,false)])).bind _=_;rw [e2]
  rfl
theorem zJF {p q:Rat}(h:ratD p=ratD q):p=q:=by
 unfold ratD at h;injection h with h
 injection h with h1 h2
 injection h2 with h2 _
 injection h1 with h1
 injection h2 with h2
 exact Rat.ext h1 (by omega)
theorem zQy {p q:Pt}(h:ptD p=ptD q):p=q:=by
 unfold ptD at h;injection h with h
 injection h with h1 h2
 injection h2 with h2 _
 exact Prod.ext (zJF h1) (zJF h2)
open Classical in
def ptF (T:Pt->Pt)(d:D):D:=if h:∃ p:Pt,d=ptD p then ptD (T (Classical.choose h)) else d
theorem zNW (T:Pt->Pt)(p:Pt):ptF T (ptD p)=ptD (T p):=by
 have h:∃ q:Pt,ptD p=ptD q:=⟨p,rfl⟩;unfold ptF;rw [dif_pos h];rw [<- zQy (choose_spec h)]
theorem zE1 (T:Pt->Pt)(ps:List Pt):(ps.map ptD).map (ptF T)=(ps.map T).map ptD:=by
 rw [map_map,map_map];exact map_congr_left fun p _=>zNW T p
def LamT (F:List D->Option R)(T:Pt->Pt)(dl:List D)(p:Pt):Prop:=∀ Q:R->Prop,Q (ptD (T p),.cl)->EvP (F (ptD p::dl)) Q
theorem zPL {T:Pt->Pt}{dl:List D}{J:Nat}{L:LamI}{FL:List D->Option R}(el:GL1.lm[J]?=some (L,FL))(n m:Nat)(ps:List Pt)(O:Mem)(e:O[m]?=some ((ps.map ptD).map .dat))(hl:ps.length<=100)(hq:∀ p∈ps,LamT FL T dl p) :
  EvP (evM GL1 D0 (.comp 3 [] "point" (.it (.var 2)) (.pur (.callv 1 (.var 3)))) ⟨[some (.loc n),some (.dat (.lam J L dl)),some (.loc m)],O⟩) fun r=>r=(.loc O.length,O++[((ps.map ptD).map (ptF T)).map .dat]):=by
 refine zFy (zBT (zAW rfl ⟨m,rfl,?_⟩));obtain ⟨y,s',M,ey,⟨o,p1,p2⟩,p4⟩:=zGD (t:=tgM 3) (e:=evM GL1 D0 (.pur (.callv 1 (.var 3)))) (src:=.live m) (s:=⟨mask none [] [some (.loc n),some (.dat (.lam J L dl)),some (.loc m)]++[none],O⟩) ((ps.map ptD).map .dat)
  (fun j s d=>∃ o:Option W,s=⟨[some (.loc n),some (.dat (.lam J L dl)),some (.loc m),o],O⟩/\d=(((ps.map ptD).map (ptF T)).take j).map W.dat) (fun j s d zy124=>by obtain ⟨o,q1,_⟩:=zy124;subst q1;exact e) (fun j w s d ew zz107=>by
   obtain ⟨o,q1,q2⟩:=zz107;subst q1 q2;rw [getElem?_map,getElem?_map] at ew;obtain ⟨d1,ew1,rfl⟩:=map_eq_some_iff.mp ew;obtain ⟨p,ep,rfl⟩:=map_eq_some_iff.mp ew1;refine ⟨by rw [length_map,length_take,length_map,length_map];omega,⟨[some (.loc n),some (.dat (.lam J L dl)),some (.loc m),some (.dat (ptD p))],O⟩,(.dat (ptD (T p)),O),rfl,?_,some (.dat (ptD p)),rfl,?_⟩
   .refine (zA9 (Q:=fun r=>r=(W.dat (ptD (T p)),O)) rfl ?_).eq;refine zMZ (zAK rfl zAT) el (zAG (zAK rfl zAT) ⟨(fun z=>nomatch z),?_⟩);exact hq p (mem_of_getElem? ep) _ ⟨(fun z=>nomatch z),zBC rfl rfl⟩
   .rw [take_add_one,getElem?_map,getElem?_map,ep,map_append];show _=_++[W.dat (ptF T (ptD p))];rw [zNW]) ⟨none,rfl,rfl⟩
 rw [length_map,length_map] at p2;subst p1;have e2:y=(((ps.map ptD).map (ptF T)).map W.dat,O):=Prod.ext (by rw [p2,take_of_length_le (by rw [length_map,length_map];exact le_refl _)]) p4.symm;refine ⟨y,M,ey,by rw [e2];show (((ps.map ptD).map (ptF T)).map W.dat).length<=_;rw [length_map,length_map,length_map];omega,?_⟩;rw [e2]
theorem m10 {T:Pt->Pt}{dl:List D}{J:Nat}{L:LamI}{FL:List D->Option R}(el:GL1.lm[J]?=some (L,FL))(n:Nat)(O:Mem)(l:Lp)(Q:MR->Prop)(e:Ll O n l)(hl:l.length<=100)(hr:∀ p∈l,∃ ps:List Pt,p.2=ps.map ptD/\ps.length<=100/\∀ q∈ps,LamT FL T dl q)
  (hQ:∀ (P:Mem) (l':Lp),Ll (O++P) (O.length+l.length) l'->(∀ p∈l',O.length<=p.1)->l'.map (fun p=>p.2)=l.map (fun p=>p.2.map (ptF T))->Q (.loc (O.length+l.length),O++P)):EvP (FM10 [.loc n,.dat (.lam J L dl)] O) Q:=by
 refine zGq rfl (by decide) ?_;unfold mb10;show EvP (evSs' GL1 D0 _ ⟨[some (.loc n),some (.dat (.lam J L dl))],O⟩) _;refine zAJ (zDo ?_);refine zJx (f:=List.map (ptF T)) (zBT (zAW rfl ⟨n,rfl,rfl⟩)) e rfl hl (fun P p hp ep=>?_) fun P l' L' g s=>zJ5 (hQ P l' L' g s)
 obtain ⟨ps,ep2,lp,hq⟩:=hr p hp;rw [ep2] at ep ⊢;exact zPL el n p.1 ps _ ep lp hq
theorem zGW {l l':Lp}{rs:List (List Pt)}(T:Pt->Pt)(h:llD l=zAX rs)(s:l'.map (fun p=>p.2)=l.map fun p=>p.2.map (ptF T)):llD l'=zAX (rs.map (List.map T)):=by
 have e1:l'.map (fun p=>D.lst p.2)=(l'.map fun p=>p.2).map D.lst:=by rw [map_map];rfl
 have e2:(l.map fun p=>D.lst p.2)=rs.map zBj:=D.lst.inj h;have e3:l.map (fun p=>p.2)=rs.map fun ps=>ps.map ptD:=by
  have:=congrArg (List.map fun d:D=>match d with | .lst x=>x | _=>[]) e2;rw [map_map,map_map] at this;exact this
 unfold llD;rw [e1,s];have e4:l.map (fun p=>p.2.map (ptF T))=(l.map fun p=>p.2).map (List.map (ptF T)):=by rw [map_map];rfl
 rw [e4,e3,map_map,map_map];unfold zAX;rw [map_map];congr 1;apply map_congr_left;intro ps _;show D.lst ((ps.map ptD).map (ptF T))=D.lst ((ps.map T).map ptD);rw [zE1]
theorem zCz {l:Lp}{rs:List (List Pt)}(h:llD l=zAX rs):∀ p∈l,∃ ps∈rs,p.2=ps.map ptD:=fun p hp=>by
 have e2:(l.map fun p=>D.lst p.2)=rs.map zBj:=D.lst.inj h;have m:D.lst p.2∈l.map fun p=>D.lst p.2:=mem_map.mpr ⟨p,hp,rfl⟩
 rw [e2] at m;obtain ⟨ps,mp,e⟩:=mem_map.mp m;exact ⟨ps,mp,(D.lst.inj e).symm⟩
theorem zDn {C:Gm}{u:Dm}{n:Nat}{f:Str}{es:ME}{s:Mst}{Q:MB->Prop}(h:EvP (evM C u (.call n f es) s) fun r=>∃ c,r.1=.dat (.bl c)/\Q (!c,r.2)):EvP (evT C u (.not (.call n f es)) s) Q:=by
 obtain ⟨⟨r,m⟩,e1,c,e2,q⟩:=h;cases e2;refine ⟨_,?_,q⟩;show notB (asBM (evM C u (.call n f es))) s=_;unfold notB asBM;rw [e1]
 rfl
theorem zL9 {F:List D->Option R}{w1 w2:W}{d1 d2:D}{O:Mem}{Q:MR->Prop}(e1:drW O w1=some d1)(e2:drW O w2=some d2)(h:EvP (F [d1,d2]) fun r=>EvP (zEP r O) Q):EvP (zCK F [w1,w2] O) Q:=by
 obtain ⟨r,er,z,ez,q⟩:=h;refine ⟨z,?_,q⟩;unfold zCK;have e:sbL (drN O 6) [w1,w2]=some [d1,d2]:=by
  have a1:sbW (drN O 6) w1=some d1:=e1;have a2:sbW (drN O 6) w2=some d2:=e2;rw [sbL,a1,Option.bind_some,sbL,a2,Option.bind_some,sbL]
  rfl
 rw [e,Option.bind_some,er,Option.bind_some,ez]
theorem idx {n j:Nat}{y:W}(e:((rngL 0 n).map W.dat)[j]?=some y):y=.dat (.int (j:Int))/\j < n:=by
 have hj:j < n:=by
  have:=(zzg e).1;rw [length_map,zAb] at this;exact this
 unfold rngL at e;rw [map_map,getElem?_map,getElem?_range hj] at e;have:=(Option.some.inj e).symm;exact ⟨by rw [this];simp,hj⟩
theorem zHR {l:Lp}{rs:List (List Pt)}(h:llD l=zAX rs)(hs:∀ ps∈rs,ps.length<=6):∀ p∈l,p.2.length<=100:=fun p hp=>by
 obtain ⟨ps,mp,e⟩:=zCz h p hp;rw [e,length_map];have:=hs ps mp;omega
abbrev qt (a:Rat):Pt->Pt:=DM.qtT a
abbrev mr (a:Rat):Pt->Pt:=DM.mrT a
def Bx (B:Nat)(rs:List (List Pt)):Prop:=∀ ps∈rs,ps.length<=6/\∀ p∈ps,PB B p
theorem bx_T {T:Pt->Pt}{B C:Nat}(hT:∀ p,PB B p->PB C (T p)){rs:List (List Pt)}(hs:Bx B rs):Bx C (rs.map (List.map T)):=fun ps hp=>by
 obtain ⟨ps',hp',rfl⟩:=mem_map.mp hp;refine ⟨by rw [length_map];exact (hs ps' hp').1,fun p hq=>?_⟩;obtain ⟨p',hq',rfl⟩:=mem_map.mp hq;exact hT p' ((hs ps' hp').2 p' hq')
theorem zK8 {a:Rat}(ha:RB 41 a){B:Nat}{rs:List (List Pt)}(hs:Bx B rs):Bx (B+42) (rs.map (List.map (qt a))):=bx_T (T:=qt a) (C:=B+42) (fun p hp=>⟨(zB8 ha hp.2).mono (by omega),hp.1.mono (by omega)⟩) hs
theorem zSu {a:Rat}(ha:RB 41 a){B:Nat}{rs:List (List Pt)}(hs:Bx B rs):Bx (B+42) (rs.map (List.map (mr a))):=bx_T (T:=mr a) (C:=B+42) (fun p hp=>⟨(zB8 ha hp.1).mono (by omega),hp.2.mono (by omega)⟩) hs
theorem Bx.mono {B C:Nat}{rs:List (List Pt)}(hs:Bx B rs)(h:B<=C):Bx C rs:=fun ps hp=>⟨(hs ps hp).1,fun p hq=>⟨((hs ps hp).2 p hq).1.mono h,((hs ps hp).2 p hq).2.mono h⟩⟩
theorem hL0 {p:Pt}{a:Rat}{B:Nat}(hp:PB B p)(ha:RB 41 a)(hB:B<=500):LamT FL0 (qt a) [ratD a] p:=fun Q h=>by
 refine zNl rfl rfl ?_;show EvP (evE G45 lb0 [some (ptD p,false),some (ratD a,false)]) _;unfold lb0;(walk_at "w");refine h3 a p.2 41 B _ ha hp.y (by omega) ?_;(walk_at "w");exact h
theorem hL1 {p:Pt}{a:Rat}{B:Nat}(hp:PB B p)(ha:RB 41 a)(hB:B<=500):LamT FL1 (mr a) [ratD a] p:=fun Q h=>by
 refine zNl rfl rfl ?_;show EvP (evE GL0 lb1 [some (ptD p,false),some (ratD a,false)]) _;unfold lb1;(walk_at "w");refine h3 a p.1 41 B _ ha hp.x (by omega) ?_;(walk_at "w");exact h
def MapF (F:MF)(T:Pt->Pt)(a:Rat):Prop:=∀ (B n:Nat) (O:Mem) (l:Lp) (rs:List (List Pt)) (Q:MR->Prop),B<=500->Ll O n l->llD l=zAX rs->l.length<=100->Bx B rs ->
  (∀ (P:Mem) (l':Lp),Ll (O++P) (O.length+l.length) l'->(∀ p∈l',O.length<=p.1)->l'.length=l.length->llD l'=zAX (rs.map (List.map T))->Q (.loc (O.length+l.length),O++P))->EvP (F [.loc n,.dat (ratD a)] O) Q
theorem zHj {l l':Lp}{f:List D->List D}(s:l'.map (fun p=>p.2)=l.map fun p=>f p.2):l'.length=l.length:=by have:=congrArg List.length s;rwa [length_map,length_map] at this
theorem m11 {a:Rat}(ha:RB 41 a):MapF FM11 (qt a) a:=fun B n O l rs Q hB e el hl hs hQ=>by
 obtain ⟨r,er,q⟩:=m10 (T:=qt a) (dl:=[ratD a]) (J:=0) (L:=L0) (FL:=FL0) rfl n O l Q e hl (fun p hp=>by
  obtain ⟨ps,mp,ep⟩:=zCz el p hp;exact ⟨ps,ep,by have:=(hs ps mp).1;omega,fun q hq=>hL0 ((hs ps mp).2 q hq) ha hB⟩) fun P l' L' g s=>hQ P l' L' g (zHj s) (zGW (qt a) el s)
 exact ⟨r,er,q⟩
theorem m12 {a:Rat}(ha:RB 41 a):MapF FM12 (mr a) a:=fun B n O l rs Q hB e el hl hs hQ=>by
 obtain ⟨r,er,q⟩:=m10 (T:=mr a) (dl:=[ratD a]) (J:=1) (L:=L1) (FL:=FL1) rfl n O l Q e hl (fun p hp=>by
  obtain ⟨ps,mp,ep⟩:=zCz el p hp;exact ⟨ps,ep,by have:=(hs ps mp).1;omega,fun q hq=>hL1 ((hs ps mp).2 q hq) ha hB⟩) fun P l' L' g s=>hQ P l' L' g (zHj s) (zGW (mr a) el s)
 exact ⟨r,er,q⟩
theorem m42 {a:Rat}(ha:RB 41 a):MapF FM42 (qt a) a:=fun B n O l rs Q hB e el hl hs hQ=>by
 refine zGq rfl (by decide) ?_;unfold mb42;show EvP (evSs' GL1 D6 _ ⟨[some (.loc n),some (.dat (ratD a))],O⟩) _;refine zAJ (zDo ?_);refine zJx (f:=List.map (ptF (qt a))) (zBT (zAW rfl ⟨n,rfl,rfl⟩)) e rfl hl (fun P p hp ep=>?_) fun P l' L' g s=>zJ5 (hQ P l' L' g (zHj s) (zGW (qt a) el s))
 obtain ⟨ps,mp,e2⟩:=zCz el p hp;rw [e2] at ep ⊢;have h6:=hs ps mp;obtain ⟨o,eo⟩:∃ o,drS (O++P) (mask none [] [some (.loc n),some (.dat (ratD a))]++[some (.loc p.1)])=[o,some (ratD a,false),some (D.lst (ps.map ptD),false)]:=by
  show ∃ o,drS (O++P) [some (.loc n),some (.dat (ratD a)),some (.loc p.1)]=_;refine ⟨(drW (O++P) (.loc n)).map fun d=>(d,false),?_⟩;unfold drS;simp only [map_cons,map_nil,Option.bind_some,zAT,zHx ep,Option.map_some]
 refine zA9 eo (zHs (zEv (zAG rfl (w_cl (ds:=ps.map ptD) ⟨by rw [length_map];have:=h6.1;omega,?_⟩))));refine zN7 (C:=GL1) (base:=[o,some (ratD a,false),some (D.lst (ps.map ptD),false)]) rfl (fun p:Pt=>ratD p.1) (fun p=>ratD p.2) (fun p=>ptD (qt a p)) ps none none (fun p mp=>?_) ?_
 ·(walk_at "w");refine h39 a p.2 41 B _ ha (h6.2 p mp).y (by omega) ?_;(walk_at "w")
  rfl
 .have e3:ps.map (fun p=>ptD (qt a p))=(ps.map ptD).map (ptF (qt a)):=by rw [zE1,map_map];rfl
  rw [e3];refine zLG (by rw [zE1];exact zGi _) rfl
theorem h43 {a:Rat}(ha:RB 41 a)(rs:List (List Pt))(Q:R->Prop)(hl:rs.length<=100)(hs:Bx 41 rs)(hQ:Q (zAX (rs.map (List.map (mr a))),.fr)):EvP (F43 [zAX rs,ratD a]) Q:=by
 (walk_at "d");unfold b43;(walk_at "st");refine zAE (zCO (zDC (zEv (zAG rfl (w_cl (ds:=rs.map zBj) ⟨by rw [length_map];omega,?_⟩)))));refine zK0 (C:=G43) (base:=[some (zAX rs,false),some (ratD a,false)]) rfl zBj (fun ps=>zBj (ps.map (mr a))) rs none ?_ ?_
 .intro ps hp;have h6:=hs ps hp;refine zHs (zEv (zAG rfl (w_cl (ds:=ps.map ptD) ⟨by rw [length_map];have:=h6.1;omega,?_⟩)));refine zN7 (C:=G43) (base:=[some (zAX rs,false),some (ratD a,false),some (zBj ps,false)]) rfl (fun p:Pt=>ratD p.1) (fun p=>ratD p.2) (fun p=>ptD (mr a p)) ps none none (fun p mp=>?_) ?_
  ·(walk_at "w");refine h39 a p.1 41 41 _ ha (h6.2 p mp).x (by decide) ?_;(walk_at "w")
   rfl
  .refine ⟨(fun z=>nomatch z),?_⟩;show D.lst (ps.map fun p=>ptD (mr a p))=D.lst ((ps.map (mr a)).map ptD);rw [map_map]
   rfl
 .have e:rs.map (fun ps=>zBj (ps.map (mr a)))=(rs.map (List.map (mr a))).map zBj:=by rw [map_map];rfl
  rw [e];(walk_at "w");exact hQ
theorem zTR (a:Rat)(rs:List (List Pt)):(rs.map (List.map (mr a))).map (List.map (mr a))=rs:=by
 have e:∀ p,mr a (mr a p)=p:=fun p=>by
  show ((a - (a - p.1),p.2):Pt)=p;rw [show a - (a - p.1)=p.1 by grind]
 rw [map_map];have e2:(List.map (mr a)∘List.map (mr a))=id:=by
  funext ps;show (ps.map (mr a)).map (mr a)=ps;rw [map_map,show mr a∘mr a=id from funext e,map_id]
 rw [e2,map_id]
theorem h41x {rs:List (List Pt)}{B:Nat}(hs:Bx B rs)(hB:B<=1000)(hl:rs.length<=100)(Q:R->Prop)(hQ:Q (.bl true,.cl)):EvP (F41 [zAX rs,zAX rs]) Q:=h41 B hB rs Q hl (fun ps hp=>⟨by have:=(hs ps hp).1;omega,(hs ps hp).2⟩) hQ
theorem zOM {C:Gm}{u:Dm}{a b:ME}{s:Mst}{Q:MB->Prop}(h:EvP (evT C u a s) fun r=>r.1=false/\EvP (evT C u b ⟨s.G,r.2⟩) Q):EvP (evT C u (.orl (.cons a (.cons b .nil))) s) Q:=by
 obtain ⟨⟨r,m⟩,e1,e2,z,e3,q⟩:=h;cases e2;refine ⟨z,?_,q⟩;show orB (evT C u a) (evT C u b) s=_;unfold orB;rw [e1,Option.bind_some,if_neg (fun z=>nomatch z)];exact e3
structure Kq (O O2:Mem):Prop where
 le:O.length<=O2.length
 kp:∀ x,x < O.length->O2[x]?=O[x]?
theorem zBV {O P:Mem}:Kq O (O++P):=⟨by rw [length_append];omega,fun x hx=>getElem?_append_left hx⟩
theorem zRg {O:Mem}:Kq O O:=⟨le_refl _,fun _ _=>rfl⟩
theorem Kq.trans {O O2 Y5:Mem}(a:Kq O O2)(b:Kq O2 Y5):Kq O Y5:=⟨le_trans a.le b.le,fun x hx=>(b.kp x (lt_of_lt_of_le hx a.le)).trans (a.kp x hx)⟩
theorem Kq.ll {O O2:Mem}{n:Nat}{l:Lp}(k:Kq O O2)(e:Ll O n l):Ll O2 n l:=e.keep (k.kp n e.lt.1) fun p hp=>k.kp p.1 (e.lt.2 p hp)
theorem zFM {u:Dm}{nm:Str}{N k n:Nat}{ms:List Nat}{G:List (Option W)}{O:Mem}{l:Lp}{rs:List (List Pt)}{Q:MR->Prop}(e:Ll O n l)(el:llD l=zAX rs)(hl:l.length<=100)(hv:EvP (evSrc GL1 u (.it (.var k)) ⟨G,O⟩) fun r=>r=(.live n,O))(hN:(mask none ms G).length=N)
  (hQ:∀ (P:Mem) (l':Lp),Ll (O++P) (O.length+l.length) l'->l'.length=l.length->llD l'=zAX rs->Q (.loc (O.length+l.length),O++P)):EvP (evM GL1 u (.comp N ms nm (.it (.var k)) (.pur (.list (.var N)))) ⟨G,O⟩) Q:=by
 refine zJx (f:=id) hv e hN hl (fun P p hp ep=>?_) fun P l' L' _ s=>hQ P l' L' (zHj (f:=id) s) ((zPI s).trans el)
 obtain ⟨ps,_,e2⟩:=zCz el p hp;refine zA9 rfl (zGs (zAG (zAK (by rw [getElem?_append_right (by omega),hN,sub_self];rfl) (zHx ep)) (zNF (zLG (by rw [e2];exact zGi ps) rfl))))
theorem zQo (o0 o1 o2 o3 o4 o6 o7 o8 o9:Option W)(n6:Nat)(l6:Lp)(O:Mem)(Q:OutM->Prop)(L6:Ll O n6 l6)(d6:∀ p∈l6,p.2.length<=100)(hl:l6.length<=100)
  (hQ:∀ (o6:Option W) (O2:Mem),(∀ x,x < O.length->x≠n6->(∀ p∈l6,x≠p.1)->O2[x]?=O[x]?)->O.length<=O2.length->Q (.nx ⟨[o0,o1,o2,o3,o4,some (.loc n6),o6,o7,o8,o9],O2⟩)) :
  EvP (evSs' GL1 D7 (.cons (.for1 6 (.it (.var 5)) (.cons (.app (.var 6) (.pur .non)) .nil)) (.cons (.app (.var 5) (.lst .nil)) .nil)) ⟨[o0,o1,o2,o3,o4,some (.loc n6),o6,o7,o8,o9],O⟩) Q:=by
 have ap:=zL6 L6;refine zAJ (zCl (zBT (zAW rfl ⟨n6,rfl,?_⟩)));refine zD9 (s:=⟨_,_⟩) (l6.map fun p=>.loc p.1) (fun j s=>∃ (o6:Option W) (O':Mem),s=⟨[o0,o1,o2,o3,o4,some (.loc n6),o6,o7,o8,o9],O'⟩/\(∀ x,(∀ p∈l6,x≠p.1)->O'[x]?=O[x]?)/\O'.length=O.length/\j<=l6.length/\∀ p∈l6,∃ ws,O'[p.1]?=some ws/\ws.length<=200+j) ?_ ?_ ?_ ⟨o6,O,rfl,fun _ _=>rfl,rfl,zero_le _,fun p hp=>⟨_,L6.row p hp,by rw [length_map];have:=d6 p hp;omega⟩⟩
 .rintro j s ⟨o,O',rfl,q,_⟩;exact (q n6 fun p hp z=>ap p hp z.symm).trans L6.top
 .rintro j y s ey ⟨o,O',rfl,q1,q2,q3,q4⟩;rw [getElem?_map] at ey;obtain ⟨p,ep,rfl⟩:=map_eq_some_iff.mp ey;have hj:j < l6.length:=(zzg ep).1;have mp:=mem_of_getElem? ep;obtain ⟨ws,ew,lw⟩:=q4 p mp;refine ⟨_,rfl,?_⟩;dsimp only;(walk_at "s");refine zAJ (zFe (zAW rfl (zA9 rfl (zNz (zBC rfl ⟨p.1,ws,rfl,ew,by omega,zAn (zBR ?_)⟩)))));refine ⟨some (.loc p.1),_,rfl,fun x hx=>?_,by rw [length_set];exact q2,by omega,fun p' hp'=>?_⟩
  .rw [getElem?_set_ne fun z=>hx p mp z.symm];exact q1 x hx
  .by_cases z:p.1=p'.1
   .exact ⟨ws++[.dat .non],by rw [<- z];exact getElem?_set_self (zzg ew).1,by rw [length_append];show ws.length+1<=_;omega⟩
   .obtain ⟨vs,ev,lv⟩:=q4 p' hp';exact ⟨vs,by rw [getElem?_set_ne z];exact ev,by omega⟩
 .rintro s ⟨o,O',rfl,q1,q2,q3,q4⟩;refine zAn ?_;have qt:=(q1 n6 fun p hp z=>ap p hp z.symm).trans L6.top;refine zAJ (zFe (zAW rfl (zJz (zAf ⟨zero_le _,n6,_,rfl,zA1 qt,by rw [length_map];omega,zAn (zBR ?_)⟩))));dsimp only;refine hQ _ _ (fun x hx z1 z2=>?_) ?_
  .rw [getElem?_set_ne (fun z=>z1 z.symm),getElem?_append_left (by omega)];exact q1 x z2
  .rw [length_set,length_append];omega
def qs (a:Rat)(rs:List (List Pt)):Nat->List (List Pt)
 | 0=>rs
 | t+1=>(qs a rs t).map (List.map (qt (if t%2=0 then a else 0)))
theorem zSt {a:Rat}(ha:RB 41 a)(h0:RB 41 (0:Rat)){rs:List (List Pt)}(hs:Bx 41 rs):∀ t,Bx (41+42*t) (qs a rs t)
 | 0=>hs
 | t+1=>(zK8 (a:=if t%2=0 then a else 0) (by split<;>assumption) (zSt ha h0 hs t)).mono (by omega)
theorem zNR {a:Rat}{rs:List (List Pt)}:∀ t,(qs a rs t).length=rs.length
 | 0=>rfl
 | t+1=>by rw [qs,length_map,zNR t]
abbrev lq (a:Rat):List W:=[.dat (ratD a),.dat (ratD 0),.dat (ratD a),.dat (ratD 0)]
theorem zTa {a:Rat}{t:Nat}{y:W}(e:(lq a)[t]?=some y):t < 4/\y=.dat (ratD (if t%2=0 then a else 0)):=by
 match t,e with
 | 0,e=>cases e;exact ⟨by decide,rfl⟩
 | 1,e=>cases e;exact ⟨by decide,rfl⟩
 | 2,e=>cases e;exact ⟨by decide,rfl⟩
 | 3,e=>cases e;exact ⟨by decide,rfl⟩
 | t+4,e=>cases e
theorem zSk {w h:Nat}{rs:List (List Pt)}{i j:Nat}(i1:i < w)(j1:j < h):dueZ (allP h w (rs.map (List.map (qt (h:Rat))))) ((h - 1 - j:Nat):Int) (i:Int)=dueZ (allP w h rs) (i:Int) (j:Int):=by
 rw [zH5 _ (by omega) (by omega) (by omega) (by omega),zH5 _ (by omega) (by omega) (by omega) (by omega),map_map];refine DM.zBB fun ps _=>?_
 show DM.zA2 (boxC ((h - 1 - j:Nat):Int) i) (ps.map (DM.qtT (h:Rat)))=_;have k:=DM.zFm (a:=((i:Int):Rat)) (b:=(((i:Int)+1:Int):Rat)) (c:=((j:Int):Rat)) (d:=(((j:Int)+1:Int):Rat)) (DM.zFA _) (DM.zFA _) (h:Rat) ps;have c1:(h:Rat) - (((j:Int)+1:Int):Rat)=((((h - 1 - j:Nat):Int)):Rat):=by
  rw [show ((h - 1 - j:Nat):Int)=(h:Int) - ((j:Int)+1) by omega,Rat.intCast_sub];rfl
 have c2:(h:Rat) - ((j:Int):Rat)=(((((h - 1 - j:Nat):Int)+1:Int)):Rat):=by
  rw [show ((h - 1 - j:Nat):Int)+1=(h:Int) - (j:Int) by omega,Rat.intCast_sub];rfl
 rw [c1,c2] at k;exact k
theorem zSl {w h:Nat}{rs:List (List Pt)}{i j:Nat}(i1:i < w)(j1:j < h):dueZ (allP w h (rs.map (List.map (mr (w:Rat))))) ((w - 1 - i:Nat):Int) (j:Int)=-dueZ (allP w h rs) (i:Int) (j:Int):=by
 rw [zH5 _ (by omega) (by omega) (by omega) (by omega),zH5 _ (by omega) (by omega) (by omega) (by omega),map_map];have sn:∀ l:List (List Pt),DM.sumR (l.map fun ps=>-DM.zA2 (boxC i j) ps)=-DM.sumR (l.map (DM.zA2 (boxC i j))):=fun l=>by
  induction l with
  | nil=>simp [DM.sumR]
  | cons x l ih =>
   simp only [DM.sumR,map_cons,List.foldr_cons] at ih ⊢;rw [ih];grind
 rw [<- sn];refine DM.zBB fun ps _=>?_
 show DM.zA2 (boxC ((w - 1 - i:Nat):Int) j) (ps.map (DM.mrT (w:Rat)))=_;have k:=DM.zGY (a:=((i:Int):Rat)) (b:=(((i:Int)+1:Int):Rat)) (c:=((j:Int):Rat)) (d:=(((j:Int)+1:Int):Rat)) (DM.zFA _) (DM.zFA _) (w:Rat) ps;have c1:(w:Rat) - (((i:Int)+1:Int):Rat)=((((w - 1 - i:Nat):Int)):Rat):=by
  rw [show ((w - 1 - i:Nat):Int)=(w:Int) - ((i:Int)+1) by omega,Rat.intCast_sub];rfl
 have c2:(w:Rat) - ((i:Int):Rat)=(((((w - 1 - i:Nat):Int)+1:Int)):Rat):=by
  rw [show ((w - 1 - i:Nat):Int)+1=(w:Int) - (i:Int) by omega,Rat.intCast_sub];rfl
 rw [c1,c2] at k;exact k
theorem rn {i:Int}(h:i.natAbs<=4):RB 41 (i:Rat):=zDs (zC8 (k:=4) h (by decide)) (by decide)
theorem m44 {a:Rat}(ha:RB 41 a)(n0:Nat)(O:Mem)(l0:Lp)(rs:List (List Pt))(Q:MR->Prop)(A0:Ll O n0 l0)(e0:llD l0=zAX rs)(hl:l0.length<=2)(hr:rs.length<=2)(hs:Bx 41 rs)(hQ:∀ O',Kq O O'->Q (.dat (.bl true),O')):EvP (FM44 [.loc n0,.dat (ratD a)] O) Q:=by
 refine zGq rfl (by decide) ?_;unfold mb44;show EvP (evSs' GL1 D7 _ ⟨[some (.loc n0),some (.dat (ratD a)),none,none,none,none,none,none,none,none],O⟩) _;have z0:RB 41 (0:Rat):=rn (i:=0) (by decide);have hT:∀ T:Pt->Pt,(rs.map (List.map T)).length<=100:=fun T=>by rw [length_map];omega
 refine zAJ (zGU (zFM A0 e0 (by omega) (zBT (zAW rfl ⟨n0,rfl,rfl⟩)) rfl fun P l2 A2 k2 e2=>zAn ?_));(walk_at "s");have K:Kq O (O++P):=zBV;generalize O.length+l0.length=n2 at A2;replace A0:=K.ll A0;generalize O++P=O7 at A0 A2 K;refine zAJ (zBU (zAs (F:=FM11) rfl (zAD (zAW rfl (zAD (zAW rfl (zAf ?_)))))));refine m11 ha 41 n2 O7 l2 rs _ (by decide) A2 e2 (by omega) hs fun P l3 A3 c3 k3 e3=>zAn ?_
 (walk_at "s");have k:Kq O7 (O7++P):=zBV;generalize O7.length+l2.length=n3 at A3;replace A0:=k.ll A0;replace A2:=k.ll A2;replace K:=K.trans k;clear k c3;generalize O7++P=O2 at A0 A2 A3 K;refine zAJ (zBU (zAs (F:=FM12) rfl (zAD (zAW rfl (zAD (zAW rfl (zAf ?_)))))));refine m12 ha 41 n2 O2 l2 rs _ (by decide) A2 e2 (by omega) hs fun P l4 A4 c4 k4 e4=>zAn ?_
 (walk_at "s");have k:Kq O2 (O2++P):=zBV;generalize O2.length+l2.length=n4 at A4;replace A0:=k.ll A0;replace A2:=k.ll A2;replace A3:=k.ll A3;replace K:=K.trans k;clear k c4;generalize O2++P=Y5 at A0 A2 A3 A4 K;have s3:=zK8 ha hs;have s4:=zSu ha hs;refine zAJ (zDS (zOM (zDn (zAs (F:=zCK F41) rfl (zAD (zAW rfl (zAD (zAs (F:=FM42) rfl (zAD (zAW rfl (zAD (zAW rfl (zAf ?_)))))))))))));refine m42 ha 41 n0 Y5 l0 rs _ (by decide) A0 e0 (by omega) hs fun P l' A' _ _ e'=>zAf ?_
 have k:Kq Y5 (Y5++P):=zBV;replace A0:=k.ll A0;replace A2:=k.ll A2;replace A3:=k.ll A3;replace A4:=k.ll A4;replace K:=K.trans k;clear k;refine zL9 (A3.dr.trans (congrArg some e3)) (A'.dr.trans (congrArg some e')) (h41x s3 (by decide) (hT _) _ ?_);refine zBC rfl ⟨true,rfl,rfl,?_⟩;clear A' e';generalize Y5++P=Y3 at A0 A2 A3 A4 K;refine zIJ rfl (zBe (zAS rfl (zAF (zAG (zAK rfl (A4.dr.trans (congrArg some e4))) (n_cl (zAF ?_))))));refine zAS rfl (zAF (zAG (zAK rfl (A0.dr.trans (congrArg some e0))) (n_cl (zAF (zAG (zAK rfl zAT) (n_cl (zAo ?_)))))));refine h43 ha rs _ (by omega) hs ?_;refine n_fr (n_fr (zAo ?_));refine h41x s4 (by decide) (hT _) _ ?_;refine n_cl (x_bl ⟨_,rfl,(fun z=>nomatch z),fun _=>zBR (zAn ?_)⟩);refine zAJ (zCl (zBT (zJz (zAD (zAs (F:=FM11) rfl (zAD (zAW rfl (zAD (zAW rfl (zAf ?_))))))))));refine m11 ha 41 n2 Y3 l2 rs _ (by decide) A2 e2 (by omega) hs fun P l5 A5 c5 k5 e5=>?_
 have k:Kq Y3 (Y3++P):=zBV;have b5:Y3.length<=Y3.length+l2.length:=Nat.le_add_right _ _;generalize Y3.length+l2.length=n5 at A5 b5;have M2:=k.ll A2;refine zAD (zAs (F:=FM12) rfl (zAD (zAW rfl (zAD (zAW rfl (zAf ?_))))));dsimp only;generalize Y3++P=Y6 at A5 k M2;refine m12 ha 41 n2 Y6 l2 rs _ (by decide) M2 e2 (by omega) hs fun P l6 A6 c6 k6 e6=>zAf ⟨by show 2<=10000;decide,_,rfl,?_⟩
 have k':Kq Y6 (Y6++P):=zBV;have b6:Y6.length<=Y6.length+l2.length:=Nat.le_add_right _ _;generalize Y6.length+l2.length=n6 at A6 b6;have t5:=A5.lt;have t6:=A6.lt;replace A5:=k'.ll A5;have kk:=k.trans k';have l65:=k'.le;dsimp only;generalize Y6++P=Y7 at A5 A6 kk t6 k' l65;have k2:Kq Y7 (Y7++[[W.loc n5,.loc n6]]):=zBV;have gl:(Y7++[[W.loc n5,.loc n6]])[Y7.length]?=some [W.loc n5,.loc n6]:=by rw [getElem?_append_right (le_refl _),sub_self];rfl
 replace A5:=k2.ll A5;replace A6:=k2.ll A6;replace kk:=kk.trans k2;have bl:Y7.length < (Y7++[[W.loc n5,.loc n6]]).length:=by rw [length_append];exact Nat.lt_succ_self _
 clear k k' k2 M2;have d5:=zHR e5 fun ps hp=>(s3 ps hp).1
 have d6:=zHR e6 fun ps hp=>(s4 ps hp).1
 generalize Y7++[[W.loc n5,.loc n6]]=C8 at A5 A6 kk gl bl;refine zD9 (s:=⟨_,_⟩) [W.loc n5,.loc n6] (fun t s=>∃ o5 o6 O',s=⟨[some (.loc n0),some (.dat (ratD a)),some (.loc n2),some (.loc n3),some (.loc n4),o5,o6,none,none,none],O'⟩/\Kq Y3 O'/\O'[Y7.length]?=some [W.loc n5,.loc n6]/\(t=0->Ll O' n5 l5)/\(t<=1->Ll O' n6 l6)) ?_ ?_ ?_ ⟨_,_,C8,rfl,kk,gl,fun _=>A5,fun _=>A6⟩
 .rintro t s ⟨o5,o6,O',rfl,_,q,_⟩;exact q
 .rintro t y s ey ⟨o5,o6,O',rfl,q1,q2,q3,q4⟩
  match t,ey with
  | 0,ey =>
   cases ey;refine ⟨_,rfl,?_⟩;refine zQo _ _ _ _ _ _ _ _ _ n5 l5 O' _ (q3 rfl) d5 (by omega) fun o6 O2 kp kl=>?_
   have hb:Y7.length < O'.length:=(zzg q2).1;have g6:=q4 (by decide);have y6:=g6.lt;refine ⟨_,_,O2,rfl,⟨le_trans q1.le kl,fun x hx=>?_⟩,?_,(fun z=>nomatch z),fun _=>?_⟩
   .rw [kp x (lt_of_lt_of_le hx q1.le) (by omega) (fun p hp=>by have:=c5 p hp;omega)];exact q1.kp x hx
   .rw [kp _ hb (by omega) fun p hp=>by have:=t5.2 p hp;omega];exact q2
   .refine g6.keep (kp n6 y6.1 (by omega) fun p hp=>by have:=t5.2 p hp;omega) fun p' hp'=>kp p'.1 (y6.2 p' hp') (by have:=c6 p' hp';omega) fun p hp=>by have:=t5.2 p hp;have:=c6 p' hp';omega
  | 1,ey =>
   cases ey;refine ⟨_,rfl,?_⟩;refine zQo _ _ _ _ _ _ _ _ _ n6 l6 O' _ (q4 (by decide)) d6 (by omega) fun o6 O2 kp kl=>?_
   have hb:Y7.length < O'.length:=(zzg q2).1;have l46:Y3.length<=Y6.length:=by have:=t5.1;omega
   refine ⟨_,_,O2,rfl,⟨le_trans q1.le kl,fun x hx=>?_⟩,?_,(fun z=>nomatch z),fun z=>absurd z (by decide)⟩
   .rw [kp x (lt_of_lt_of_le hx q1.le) (by omega) (fun p hp=>by have:=c6 p hp;omega)];exact q1.kp x hx
   .rw [kp _ hb (by omega) fun p hp=>by have:=t6.2 p hp;omega];exact q2
  | t+2,ey=>cases ey
 rintro s ⟨o5,o6,U4,rfl,k,_⟩;refine zAn ?_;replace A0:=k.ll A0;replace A2:=k.ll A2;replace A3:=k.ll A3;replace A4:=k.ll A4;replace K:=K.trans k;clear k kk gl bl A5 A6 t5 t6 c5 c6 b5 b6 d5 d6 e5 e6 l65;refine zAJ (zDS (zOM (zDn (zAs (F:=zCK F41) rfl (zAD (zAs (F:=FM11) rfl (zAD (zAW rfl (zAD (zAW rfl (zAf ?_)))))))))));refine m11 ha 41 n2 U4 l2 rs _ (by decide) A2 e2 (by omega) hs fun P l' A' _ _ e'=>zAD (zAW rfl (zAf ?_))
 have k:Kq U4 (U4++P):=zBV;replace A0:=k.ll A0;replace A2:=k.ll A2;replace A3:=k.ll A3;replace A4:=k.ll A4;replace K:=K.trans k;clear k;refine zL9 (A'.dr.trans (congrArg some e')) (A3.dr.trans (congrArg some e3)) (h41x s3 (by decide) (hT _) _ ?_);refine zBC rfl ⟨true,rfl,rfl,?_⟩;clear A' e';dsimp only;generalize U4++P=U5 at A0 A2 A3 A4 K;refine zDn (zAs (F:=zCK F41) rfl (zAD (zAs (F:=FM12) rfl (zAD (zAW rfl (zAD (zAW rfl (zAf ?_))))))));refine m12 ha 41 n2 U5 l2 rs _ (by decide) A2 e2 (by omega) hs fun P l' A' _ _ e'=>zAD (zAW rfl (zAf ?_))
 have k:Kq U5 (U5++P):=zBV;replace A0:=k.ll A0;replace A2:=k.ll A2;replace A3:=k.ll A3;replace A4:=k.ll A4;replace K:=K.trans k;clear k;refine zL9 (A'.dr.trans (congrArg some e')) (A4.dr.trans (congrArg some e4)) (h41x s4 (by decide) (hT _) _ ?_);refine zBC rfl ⟨true,rfl,(fun z=>nomatch z),fun _=>zBR (zAn ?_)⟩;clear A' e';dsimp only;generalize U5++P=O10 at A0 A2 A3 A4 K;refine zAJ (zBU (zAs (F:=FM11) rfl (zAD (zAs (F:=FM11) rfl (zAD (zAs (F:=FM11) rfl (zAD (zAW rfl ?_))))))));refine zAD (zA9 rfl (zDX (zAF (zAa (n_cl (zAF (zAa (n_cl (zAo ⟨by show 2<=10000;decide,zBC rfl (zAf ?_)⟩)))))))));refine (show EvP (FM11 [.loc n3,.dat (ratD 0)] O10) _ from ?_);refine m11 z0 83 n3 O10 l3 _ _ (by decide) A3 e3 (by omega) s3 fun P l' A' _ k' e'=>zAD (zAW rfl (zAf ?_))
 have k:Kq O10 (O10++P):=zBV;have s5:=zK8 z0 s3;dsimp only;generalize O10.length+l3.length=n' at A';generalize O10++P=O11 at A' k;refine m11 ha 125 n' O11 l' _ _ (by decide) A' e' (by omega) s5 fun P l'' A'' _ k'' e''=>?_
 replace k:=k.trans (zBV (O:=O11) (P:=P));have s6:=zK8 ha s5;clear A' e';generalize O11.length+l'.length=n'' at A'';generalize O11++P=O12 at A'' k;refine zAD (zA9 rfl (zDX (zAF (zAa (n_cl (zAF (zAa (n_cl (zAo ⟨by show 2<=10000;decide,zBC rfl (zAf ?_)⟩)))))))));refine (show EvP (FM11 [.loc n'',.dat (ratD 0)] O12) _ from ?_);refine m11 z0 167 n'' O12 l'' _ _ (by decide) A'' e'' (by omega) s6 fun P l7 A7 _ k7 e7=>zAn ?_
 (walk_at "s");replace k:=k.trans (zBV (O:=O12) (P:=P));replace A0:=k.ll A0;replace A2:=k.ll A2;replace A4:=k.ll A4;replace K:=K.trans k;replace e7:llD l7=zAX (qs a rs 4):=e7;clear k s5 s6 A'' e'' A3 e3;generalize O12.length+l''.length=n7 at A7;generalize O12++P=O13 at A0 A2 A4 A7 K;refine zAJ (zBU (zAW rfl (zAn ?_)));(walk_at "s");refine zAJ (zCl (zBT (zJz (zAD (zAW rfl ?_)))));refine zAD (zA9 rfl (zDX (zAF (zAa (n_cl (zAF (zAa (n_cl (zAo ⟨by show 2<=10000;decide,zBC rfl (zAD (zAW rfl ?_))⟩)))))))));refine zAD (zA9 rfl (zDX (zAF (zAa (n_cl (zAF (zAa (n_cl (zAo ⟨by show 2<=10000;decide,zBC rfl (zAf ⟨by show 4<=10000;decide,_,rfl,?_⟩)⟩)))))))));refine (show EvP (zD8 _ _ (.live O13.length) 0 ⟨_,O13++[lq a]⟩) _ from ?_);have k:Kq O13 (O13++[lq a]):=zBV;have gl:(O13++[lq a])[O13.length]?=some (lq a):=by rw [getElem?_append_right (le_refl _),sub_self];rfl
 have bl:O13.length < (O13++[lq a]).length:=by rw [length_append];exact Nat.lt_succ_self _
 have M0:=k.ll A0;have Bq:=zSt ha z0 hs;dsimp only;generalize O13++[lq a]=O14 at gl bl M0 k;refine zD9 (s:=⟨_,_⟩) (lq a) (fun t s=>∃ o9 n8 l8 O',s=⟨[some (.loc n0),some (.dat (ratD a)),some (.loc n2),some (.loc n3),some (.loc n4),o5,o6,some (.loc n7),some (.loc n8),o9],O'⟩/\Kq O14 O'/\Ll O' n8 l8/\l8.length<=2/\llD l8=zAX (qs a rs t)) ?_ ?_ ?_ ⟨_,n0,l0,O14,rfl,zRg,M0,hl,e0⟩
 .rintro t s ⟨o9,n8,l8,O',rfl,q,_⟩;exact (q.kp _ bl).trans gl
 .rintro t y s ey ⟨o9,n8,l8,O',rfl,q1,q2,q3,q4⟩;obtain ⟨ht,rfl⟩:=zTa ey;refine ⟨_,rfl,?_⟩;dsimp only;(walk_at "s");refine zAJ (zBU (zAs (F:=FM42) rfl (zAD (zAW rfl (zAD (zAW rfl (zAf ?_)))))));refine m42 (a:=if t%2=0 then a else 0) (by split<;>assumption) (41+42*t) n8 O' l8 _ _ (by omega) q2 q4 (by omega) (Bq t) fun P l' A' _ k' e'=>zAn (zBR ?_)
  (walk_at "s");exact ⟨_,_,l',_,rfl,q1.trans zBV,A',by omega,e'⟩
 rintro s ⟨o9,n8,l8,O15,rfl,q1,A8,_,e8⟩;refine zAn ?_;replace k:=k.trans q1;replace A0:=k.ll A0;replace A2:=k.ll A2;replace A4:=k.ll A4;replace A7:=k.ll A7;replace K:=K.trans k;replace e8:llD l8=zAX (qs a rs 4):=e8;refine zAJ (zDS (zOM (zIJ rfl (zBe (zAS rfl (zAF (zAG (zAK rfl (A7.dr.trans (congrArg some e7))) (n_cl (zAF (zAG (zAK rfl (A8.dr.trans (congrArg some e8))) (n_cl (zAo ?_))))))))))));refine h41x (Bq 4) (by decide) (by rw [zNR];omega) _ ?_;refine n_cl (x_bl ⟨false,rfl,rfl,?_⟩);refine zDn (zAs (F:=zCK F41) rfl (zAD (zAs (F:=FM12) rfl (zAD (zAW rfl (zAD (zAW rfl (zAf ?_))))))));refine m12 ha 83 n4 O15 l4 _ _ (by decide) A4 e4 (by omega) s4 fun P l' A' _ _ e'=>zAD (zAW rfl (zAf ?_))
 rw [zTR] at e';have k:Kq O15 (O15++P):=zBV;replace A0:=k.ll A0;replace A2:=k.ll A2;replace K:=K.trans k;refine zL9 (A'.dr.trans (congrArg some e')) (A0.dr.trans (congrArg some e0)) (h41x hs (by decide) (by omega) _ ?_);refine zBC rfl ⟨true,rfl,(fun z=>nomatch z),fun _=>zBR (zAn ?_)⟩;refine zAJ (zDo (zA9 rfl (zBX (zAG (zAK rfl (A2.dr.trans (congrArg some e2))) (zAG (zAK rfl (A0.dr.trans (congrArg some e0))) (zUA (zKt rs) (by decide) (zBC rfl (zJ5 (hQ _ K)))))))))
theorem zSs {p q:Rat}{Q:R->Prop}(e:p=q)(h:Q (.bl false,.cl)):EvP (cmpD .NotEq (ratD p) (ratD q)) Q:=by
 subst e;refine zK6 ?_;rw [decide_eq_true rfl];exact h
theorem zDm {zs:List Pc}{w h i j:Nat}(hz:∀ z∈zs,PcB 90 w h z)(hi:i < w)(hj:j < h){Q:R->Prop}{C:Gm}{G:Dst}{k a:Nat}{e:E}(ek:G[k]?=some (some (tabT zs w h,false)))(ea:G[a]?=some (some (.int (j:Int),false)))(ee:∀ Q:R->Prop,Q (.int (i:Int),.cl)->EvP (evE C e G) Q)(hQ:Q (ratD (dueZ zs i j),.cl)):EvP (evE C (.ix (.ix (.var k) (.var a)) e) G) Q:=by
 have e1:atI ((List.range h).map fun r=>zBH (rowZ zs w r)) (j:Int)=some (zBH (rowZ zs w j)):=zAq (by rw [getElem?_map,getElem?_range hj];rfl);have e2:atI ((rowZ zs w j).map ratD) (i:Int)=some (ratD (dueZ zs i j)):=zAq (by rw [getElem?_map,zFj (fun z m=>(hz z m).c0) hi];rfl);exact zA6 (zA6 (zAG ek (zAG ea (zAz e1 (ee _ (zAz e2 hQ))))))
theorem zI2 {n i:Nat}(h:i < n):(n:Int) - 1 - (i:Int)=((n - 1 - i:Nat):Int):=by omega
theorem zPJ (o0 o3:Option W)(w h n4 n5 n6 q4 q5 q6:Nat)(rs:List (List Pt))(O:Mem)(hw:w<=100)(hh:h<=100)(T4:Tb O n4 q4 (allP w h rs) w h)(T5:Tb O n5 q5 (allP h w (rs.map (List.map (qt (h:Rat))))) h w)(T6:Tb O n6 q6 (allP w h (rs.map (List.map (mr (w:Rat))))) w h) :
  EvP (evSs' GL1 D8 (.cons (.for1 7 (.rng (.var 2)) (.cons (.for1 8 (.rng (.var 1)) (.cons (.ife (.pur (.cmp .NotEq (.ix (.ix (.var 5) (.var 8)) (.bin .Sub (.bin .Sub (.var 2) (.int 1)) (.var 7))) (.ix (.ix (.var 4) (.var 7)) (.var 8)))) (.cons (.ret (.pur (.bl false))) .nil) .nil) (.cons (.ife (.pur (.cmp .NotEq (.ix (.ix (.var 6) (.var 7)) (.bin .Sub (.bin .Sub (.var 1) (.int 1)) (.var 8))) (.tup (.cons (.neg (.ix (.ix (.ix (.var 4) (.var 7)) (.var 8)) (.int 0))) (.cons (.ix (.ix (.ix (.var 4) (.var 7)) (.var 8)) (.int 1)) .nil))))) (.cons (.ret (.pur (.bl false))) .nil) .nil) .nil))) .nil)) (.cons (.ret (.pur (.bl true))) .nil)) ⟨[o0,some (.dat (.int (w:Int))),some (.dat (.int (h:Int))),o3,some (.loc n4),some (.loc n5),some (.loc n6),none,none],O⟩) (KFM fun x=>x.1=.dat (.bl true)):=by
 refine zAJ (zCl (zDF (zAW rfl ⟨_,rfl,by omega,?_⟩)));rw [toNat_natCast];refine zD9 (s:=⟨_,_⟩) ((rngL 0 h).map .dat) (fun j s=>∃ o7 o8,s=⟨[o0,some (.dat (.int (w:Int))),some (.dat (.int (h:Int))),o3,some (.loc n4),some (.loc n5),some (.loc n6),o7,o8],O⟩) (fun _ _ _=>rfl) ?_ ?_ ⟨none,none,rfl⟩
 .rintro j y s ey ⟨o7,o8,rfl⟩;obtain ⟨rfl,hj⟩:=idx ey;refine ⟨_,rfl,?_⟩;dsimp only;(walk_at "s");refine zAJ (zCl (zDF (zAW rfl ⟨_,rfl,by omega,?_⟩)));rw [toNat_natCast];refine zD9 (s:=⟨_,_⟩) ((rngL 0 w).map .dat) (fun i s=>∃ o8,s=⟨[o0,some (.dat (.int (w:Int))),some (.dat (.int (h:Int))),o3,some (.loc n4),some (.loc n5),some (.loc n6),some (.dat (.int (j:Int))),o8],O⟩) (fun _ _ _=>rfl) ?_ ?_ ⟨o8,rfl⟩
  .rintro i y s ey ⟨o8,rfl⟩;obtain ⟨rfl,hi⟩:=idx ey;refine ⟨_,rfl,?_⟩;dsimp only;(walk_at "s");refine zAJ (zDS (zIJ rfl (zBX ?_)));refine zDm T5.pc (i:=h - 1 - j) (j:=i) (by omega) hi (zAK rfl T5.dr) (zAK rfl zAT) (fun Q hQ=>zBY (zBY (zAG (zAK rfl zAT) (zAa (zIk (zAG (zAK rfl zAT) (zIk (by rw [zI2 hj];exact hQ)))))))) ?_;refine zDm T4.pc hi hj (zAK rfl T4.dr) (zAK rfl zAT) (fun Q hQ=>zAG (zAK rfl zAT) hQ) ?_;refine zSs (zSk hi hj) ⟨_,rfl,(fun z=>nomatch z),fun _=>zBR (zAn ?_)⟩;refine zAJ (zDS (zIJ rfl (zBX ?_)));refine zDm T6.pc (i:=w - 1 - i) (j:=j) (by omega) hj (zAK rfl T6.dr) (zAK rfl zAT) (fun Q hQ=>zBY (zBY (zAG (zAK rfl zAT) (zAa (zIk (zAG (zAK rfl zAT) (zIk (by rw [zI2 hi];exact hQ)))))))) ?_;refine zDX (zAF (zN0 (zA6 (zDm T4.pc hi hj (zAK rfl T4.dr) (zAK rfl zAT) (fun Q hQ=>zAG (zAK rfl zAT) hQ) (zAa (zMF ⟨_,rfl,n_cl (zAF ?_)⟩))))));refine zA6 (zDm T4.pc hi hj (zAK rfl T4.dr) (zAK rfl zAT) (fun Q hQ=>zAG (zAK rfl zAT) hQ) (zAa (zMG (n_cl (zAo ⟨by show 2<=10000;decide,?_⟩)))));have en:∀ q:Rat,D.tup [.int (-q.num),.int (q.den:Int)]=ratD (-q):=fun q=>rfl
   rw [en];refine zSs (zSl hi hj) ⟨_,rfl,(fun z=>nomatch z),fun _=>zBR (zAn (zBR ⟨_,rfl⟩))⟩
  .rintro s ⟨o8,rfl⟩;refine zAn (zBR ?_);exact ⟨_,_,rfl⟩
 .rintro s ⟨o7,o8,rfl⟩;refine zAn (zAJ (zDo (zA9 rfl (zSW (zBC rfl (zJ5 rfl))))))
theorem zRe (ns:List Int)(hn:ns.length<=63):EvP (FM45 [.dat (scr ns)] []) fun x=>x.1=.dat (.bl true):=by
 refine zGq rfl (by decide) ?_;show EvP (evSs' GL1 D8 mb45 ⟨[some (.dat (scr ns)),none,none,none,none,none,none,none,none],[]⟩) _;unfold mb45;refine zAJ (zBU ?_);apply zA9
 case hd=>(repeat (first | exact zGy | apply zFI | apply zBa | (apply drc_loc;rfl) | (apply drc_loc2;rfl;focus ((repeat (first | exact sb_nil | (apply sb_loc;first | (apply dr_nil;rfl) | (apply zEB;rfl))));done)) | apply zAY))
 (walk_at "w");refine h31 ns 0 _ (by decide) ?_;(walk_at "w");refine zCd (by decide) ?_;(walk_at "w");refine zBC rfl (zAn ?_);(walk_at "s");refine zAJ (zBU ?_);apply zA9
 case hd=>(repeat (first | exact zGy | apply zFI | apply zBa | (apply drc_loc;rfl) | (apply drc_loc2;rfl;focus ((repeat (first | exact sb_nil | (apply sb_loc;first | (apply dr_nil;rfl) | (apply zEB;rfl))));done)) | apply zAY))
 (walk_at "w");refine h31 ns 0 _ (by decide) ?_;(walk_at "w");refine zDQ (zCP (by decide) (by decide)) ?_;(walk_at "w");refine zCd (by decide) ?_;(walk_at "w");refine zBC rfl (zAn ?_);(walk_at "s");generalize cel ns 0=c;have a1:=fmod_nonneg_of_pos c (show (0:Int) < 4 by decide);have a2:=fmod_lt_of_pos c (show (0:Int) < 4 by decide);have a3:=fmod_nonneg_of_pos (c.fdiv 4) (show (0:Int) < 3 by decide);have a4:=fmod_lt_of_pos (c.fdiv 4) (show (0:Int) < 3 by decide);obtain ⟨w,ew⟩:∃ w:Nat,1+c.fmod 4=(w:Int):=⟨(1+c.fmod 4).toNat,by omega⟩;obtain ⟨h,eh⟩:∃ h:Nat,1+(c.fdiv 4).fmod 3=(h:Int):=⟨(1+(c.fdiv 4).fmod 3).toNat,by omega⟩;rw [ew,eh];have w1:1<=w:=by omega
 have w2:w<=4:=by omega
 have h1:1<=h:=by omega
 have h2':h<=4:=by omega
 clear a1 a2 a3 a4 ew eh;refine zAJ (zBU (zAs (F:=FM38) rfl (zAD (zAW rfl (zAD (zA9 rfl (zAa (zBC rfl (zAf ?_)))))))));refine m38 ns 2 (by decide) [] _ fun Z2 rs L3 hl hs=>zAn ?_
 (walk_at "s");generalize ([]:Mem)++Z2=O7 at L3;generalize ([]:Mem).length=n3 at L3;generalize n3+1=m3 at L3;have e3:llD (lpR m3 rs)=zAX rs:=zPE m3 rs;have k3:(lpR m3 rs).length<=2:=by rw [zPG];exact hl
 generalize lpR m3 rs=l3 at L3 e3 k3;replace hs:Bx 41 rs:=hs;refine zAJ (zDS (zDn (zAs (F:=FM44) rfl (zAD (zAW rfl (zAD (zA9 rfl ?_)))))));refine zAS rfl (zAF (zAS rfl (zAF (zAG (zAK rfl zAT) (n_cl (zAF (zAa (n_cl (zAo ?_)))))))));refine h31 ns 1 _ (by decide) ?_;refine n_cl (n_cl (zAo ?_));refine h36 _ _ fun qa ra=>?_
 refine n_cl (zBC rfl (zAf ?_));refine m44 ra n3 O7 l3 rs _ L3 e3 k3 hl hs fun O2 k=>?_
 refine ⟨true,rfl,(fun z=>nomatch z),fun _=>zBR (zAn ?_)⟩;replace L3:=k.ll L3;clear k;refine zAJ (zBU (zAs (F:=FM30) rfl (zAD (zAW rfl (zAD (zAW rfl (zAD ?_)))))));refine zFM L3 e3 (by omega) (zBT (zAW rfl ⟨n3,rfl,rfl⟩)) rfl fun P l' A' _ e'=>zAf ?_
 refine zOW w1 w2 h1 h2' hl (hs.mono (by decide)) (A'.dr.trans (congrArg some e')) fun Y8 n4 q4 T4=>zAn ?_
 (walk_at "s");replace L3:=(L3.app P).app Y8;clear A' e';generalize O2++P++Y8=Y5 at L3 T4;refine zAJ (zBU (zAs (F:=FM30) rfl (zAD (zAW rfl (zAD (zAW rfl (zAD (zAs (F:=FM11) rfl (zAD ?_)))))))));refine zFM L3 e3 (by omega) (zBT (zAW rfl ⟨n3,rfl,rfl⟩)) rfl fun P l' A' k' e'=>zAD (zA9 rfl ?_)
 refine zDX (zAF (zAG (zAK rfl zAT) (n_cl (zAF (zAa (n_cl (zAo ⟨by show 2<=10000;decide,zBC rfl (zAf ?_)⟩)))))));have rh:RB 41 (h:Rat):=rn (i:=(h:Int)) (by omega);have rw':RB 41 (w:Rat):=rn (i:=(w:Int)) (by omega);refine (show EvP (FM11 [.loc _,.dat (ratD (h:Rat))] (Y5++P)) _ from ?_);refine m11 rh 41 _ _ l' rs _ (by decide) A' e' (by omega) hs fun Y8 l5 A5 _ _ e5=>zAf ?_
 refine zOW h1 h2' w1 w2 (by rw [length_map];exact hl) ((zK8 rh hs).mono (by decide)) (A5.dr.trans (congrArg some e5)) fun P'' n5 q5 T5=>zAn ?_
 (walk_at "s");replace L3:=((L3.app P).app Y8).app P'';replace T4:=((T4.app P).app Y8).app P'';clear A' e' A5 e5;generalize Y5++P++Y8++P''=Y3 at L3 T4 T5;refine zAJ (zBU (zAs (F:=FM30) rfl (zAD (zAW rfl (zAD (zAW rfl (zAD (zAs (F:=FM12) rfl (zAD ?_)))))))));refine zFM L3 e3 (by omega) (zBT (zAW rfl ⟨n3,rfl,rfl⟩)) rfl fun P l' A' k' e'=>zAD (zA9 rfl ?_)
 refine zDX (zAF (zAG (zAK rfl zAT) (n_cl (zAF (zAa (n_cl (zAo ⟨by show 2<=10000;decide,zBC rfl (zAf ?_)⟩)))))));refine (show EvP (FM12 [.loc _,.dat (ratD (w:Rat))] (Y3++P)) _ from ?_);refine m12 rw' 41 _ _ l' rs _ (by decide) A' e' (by omega) hs fun Y8 l6 A6 _ _ e6=>zAf ?_
 refine zOW w1 w2 h1 h2' (by rw [length_map];exact hl) ((zSu rw' hs).mono (by decide)) (A6.dr.trans (congrArg some e6)) fun P'' n6 q6 T6=>zAn ?_
 (walk_at "s");replace T4:=((T4.app P).app Y8).app P'';replace T5:=((T5.app P).app Y8).app P'';clear A' e' A6 e6 L3;generalize Y3++P++Y8++P''=Y6 at T4 T5 T6;refine zAJ (zDS (zIJ rfl (zDY (zDB (zBe (zAS rfl (zAF (zAG (zAK rfl T4.dr) (n_cl (zAF (zAG (zAK rfl zAT) (n_cl (zAF (zAG (zAK rfl zAT) (n_cl (zAo ?_))))))))))))))));refine zIw _ w h _ T4.pc T4.len (by omega) ?_;refine n_cl (x_bl (x_bl (cb_f ?_)));refine zDZ (zBe (zAS rfl (zAF (zAG (zAK rfl T5.dr) (n_cl (zAF (zAG (zAK rfl zAT) (n_cl (zAF (zAG (zAK rfl zAT) (n_cl (zAo ?_))))))))))));refine zIw _ h w _ T5.pc T5.len (by omega) ?_;refine n_cl (x_bl ⟨_,rfl,(fun z=>nomatch z),fun _=>zBR (zAn ?_)⟩);refine zAJ (zDS (zIJ rfl (zBe (zAS rfl (zAF (zAG (zAK rfl T6.dr) (n_cl (zAF (zAG (zAK rfl zAT) (n_cl (zAF (zAG (zAK rfl zAT) (n_cl (zAo ?_))))))))))))));refine zIw _ w h _ T6.pc T6.len (by omega) ?_;refine n_cl (x_bl ⟨_,rfl,(fun z=>nomatch z),fun _=>zBR (zAn ?_)⟩);exact zPJ _ _ w h n4 n5 n6 q4 q5 q6 rs Y6 (by omega) (by omega) T4 T5 T6
theorem law_true (ns:List Int)(hn:ns.length<=63):∃ O,FM45 [.dat (.lst (ns.map D.int))] []=some (.dat (.bl true),O):=by
 obtain ⟨⟨w,O⟩,e,q⟩:=zRe ns hn;cases q;exact ⟨O,e⟩
end Q
end
def PySem.W.Fast.tw16627084719922845472:Nat:=0
def PySem.W.Fast.tw10733409712250432303:Nat:=0
def PySem.W.Fast.tw5529449031876186136:Nat:=0
def PySem.W.Fast.tw13556445625144404138:Nat:=0
def PySem.W.Fast.tw5300201547909970690:Nat:=0
def PySem.W.Fast.tw17967329630185479346:Nat:=0
def PySem.W.Fast.tw4292063854303391546:Nat:=0
def PySem.W.Fast.tw17041665671133694815:Nat:=0
def PySem.W.Fast.tw557404746765628070:Nat:=0
def PySem.W.Fast.tw609892589736915080:Nat:=0
def PySem.W.Fast.tw5852333486061259368:Nat:=0
def PySem.W.Fast.tw18370153101520970364:Nat:=0
def PySem.W.Fast.tw6176805674957524643:Nat:=0
def PySem.W.Fast.tw2529150434130073876:Nat:=0
def PySem.W.Fast.tw11010107347490036630:Nat:=0
def PySem.W.Fast.tw3908011870851021063:Nat:=0
def PySem.W.Fast.tw13208005581045347148:Nat:=0
def PySem.W.Fast.tw15651073064884432597:Nat:=0
def PySem.W.Fast.tw16625305386952928871:Nat:=0
def PySem.W.Fast.tw13444128711360532486:Nat:=0
def PySem.W.Fast.tw9960165976302408936:Nat:=0
def PySem.W.Fast.tw12246523935715990271:Nat:=0
def PySem.W.Fast.tw10289111029784192149:Nat:=0
def PySem.W.Fast.tw10112093723911784468:Nat:=0
def PySem.W.Fast.tw5648513989702814324:Nat:=0
def PySem.W.Fast.tw8856704692395298894:Nat:=0
open PySem PySem.W PyProof.Rows
set_option maxRecDepth 100000 in
set_option maxHeartbeats 0 in
theorem PySem.Challenge.cw_coverfill_k22_quarter_and_mirror_holds : PySem.Challenge.rw_coverfill_k22_quarter_and_mirror.Holds := by
  w_on; o_law; k_head; (case hw => w_witness2)
  k_fill
  refine DL.walkM (k := 50) (F := Q.FM45) (l := PySem.Challenge.rw_coverfill_k22_quarter_and_mirror) rfl rfl (by decide +kernel) (fun _ => rfl) ⟨rfl, by decide, by decide⟩ [(("quartered" : PySem.Str), 120, 116), (("mirrored" : PySem.Str), 127, 123)] ?hrec ?htl ?htk ?hnd ?hnt (fun w h Y => PySem.W.km_in_of Y) ?F Q.law_true
  case hrec => exact by decide +kernel
  case htl => exact fun _ => DL.tabs_of (by kernel_rfl) (by kernel_rfl) (by kernel_rfl) (by kernel_rfl)
  case htk => exact by decide
  case hnd => exact by decide
  case hnt => exact fun _ => by kernel_rfl
  case F =>
    intro w mg fa h KX G hmg
    refine' Q.all_mk KX G hmg (lc0 := 120) (lp0 := 116) (by kernel_rfl) (lc1 := 127) (lp1 := 123) (by kernel_rfl) (Q.ft ?_ ?_ ?_ ?_) (Q.ft ?_ ?_ ?_ ?_) (Q.ft ?_ ?_ ?_ ?_) (Q.ft ?_ ?_ ?_ ?_) (Q.ft ?_ ?_ ?_ ?_) (Q.ft ?_ ?_ ?_ ?_) (Q.ft ?_ ?_ ?_ ?_) (Q.ft ?_ ?_ ?_ ?_) (Q.ft ?_ ?_ ?_ ?_) (Q.ft ?_ ?_ ?_ ?_) (Q.ft ?_ ?_ ?_ ?_) (Q.ft ?_ ?_ ?_ ?_) (Q.ft ?_ ?_ ?_ ?_) (Q.ft ?_ ?_ ?_ ?_) (Q.ft ?_ ?_ ?_ ?_) (Q.ft ?_ ?_ ?_ ?_) (Q.ft ?_ ?_ ?_ ?_) (Q.ft ?_ ?_ ?_ ?_) (Q.ft ?_ ?_ ?_ ?_) (Q.ft ?_ ?_ ?_ ?_) (Q.ft ?_ ?_ ?_ ?_) (Q.ft ?_ ?_ ?_ ?_) (Q.ft ?_ ?_ ?_ ?_) (Q.ft ?_ ?_ ?_ ?_) (Q.ft ?_ ?_ ?_ ?_) (Q.ft ?_ ?_ ?_ ?_) (Q.ft ?_ ?_ ?_ ?_) (Q.ft ?_ ?_ ?_ ?_) (Q.ft ?_ ?_ ?_ ?_) (Q.ft ?_ ?_ ?_ ?_) (Q.ft ?_ ?_ ?_ ?_) (Q.ft ?_ ?_ ?_ ?_) (Q.ft ?_ ?_ ?_ ?_) (Q.ft ?_ ?_ ?_ ?_) (Q.ft ?_ ?_ ?_ ?_) (Q.ft ?_ ?_ ?_ ?_) (Q.ft ?_ ?_ ?_ ?_) (Q.ft ?_ ?_ ?_ ?_) (Q.ft ?_ ?_ ?_ ?_) (Q.ft ?_ ?_ ?_ ?_) (Q.ft ?_ ?_ ?_ ?_) (Q.ft ?_ ?_ ?_ ?_) (Q.ft ?_ ?_ ?_ ?_) (Q.ft ?_ ?_ ?_ ?_) (Q.ft ?_ ?_ ?_ ?_) ?a45 ?l45 ?c45 ?k45 ?z0 ?z1 ?z2 ?z3 ?z4 ?z5 ?z6 ?z7 ?z8 ?z9 ?z10 ?ca0 ?cl0 ?cv0 ?ca1 ?cl1 ?cv1
    all_goals try k_is
    all_goals try k_is
    all_goals first | rfl | decide +kernel
#print axioms PySem.Challenge.cw_coverfill_k22_quarter_and_mirror_holds
